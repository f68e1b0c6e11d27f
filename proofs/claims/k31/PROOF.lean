import PyProof.Rows.All
import Wide.All
import OpenK.AllK
import Wide.FinOn
import Lean
import PyProof.EqAt
import PyProof.EqKinds
import PyProof.TupleCall
import PyProof.NsDelKeeps
import PyProof.ListRange
import PyProof.ExcArgsOwn
import PySem.Challenge.RW_edgetally_k31_ends_small
set_option Elab.async false
set_option linter.all false
set_option genSizeOf false
set_option genInjectivity false
set_option compiler.extract_closed false
set_option bootstrap.genMatcherCode false
set_option maxHeartbeats 8000000
set_option maxRecDepth 100000
theorem zzz(_:1=1:=by rfl):1=1:=rfl
def qQ:=zzz._auto_1
theorem zzy(_:1=1:=by decide):1=1:=rfl
def qX:=zzy._auto_1
theorem zzx(_:1=1:=by intro _;rfl):1=1:=rfl
def xz:=zzx._auto_1
theorem zzw(_:1=1:=by first|exact .inl Z|exact .inr Z|assumption):1=1:=rfl
def xy:=zzw._auto_1
theorem zzv(_:1=1:=by kernel_rfl):1=1:=rfl
def xk:=zzv._auto_1
theorem zzu(_:1=1:=by decide +kernel):1=1:=rfl
def jx:=zzu._auto_1
theorem zzt(_:1=1:=by with_unfolding_all rfl):1=1:=rfl
def jv:=zzt._auto_1
theorem zzs(_:1=1:=by first|exact xW _|rfl):1=1:=rfl
def jw:=zzs._auto_1
theorem zzr(_:1=1:=by first|exact Wm Z|exact Xn Z):1=1:=rfl
def ju:=zzr._auto_1
theorem Law.wsPt0:PySem.Challenge.rw_edgetally_k31_ends_small.row.wellSaid=true:=by decide +kernel
theorem Law.wsH:PySem.W.OpenLaw.wellSaid PySem.Challenge.rw_edgetally_k31_ends_small=true:=by unfold PySem.W.OpenLaw.wellSaid;rw[wsPt0];decide +kernel
theorem Z{q:Sort u}{a:q}:a=a:=rfl
theorem rk{p:Prop}(h:p:=by lia):p:=h
theorem vy{p:Prop}(h:autoParam p qX):p:=h
theorem nl{p:Prop}(h:p:=by simp):p:=h
theorem mo{p:Prop}(h:autoParam p qQ):p:=h
theorem mh{p:Prop}(h:autoParam p xk):p:=h
noncomputable section
open Array renaming length_toList->UO,getElem?_eq_some_iff->Vh,getElem?_eq_none->WN,getElem_toList->W5,getD->Xb,getElem?_toList->XE,getElem?_eq_getElem->X4,forIn_toList->Ym
open Bool renaming true->O,false->T4,false_ne_true->Uk,false_eq_true->Uz,and_eq_true->US,not_true->WT,true_and->XF,false_and->YB,and_self->YS,eq_iff_iff->Z4
open Classical renaming byContradiction->WY
open Except renaming ok->Vw
open False renaming elim->WZ
open ForInStep renaming yield->ZJ
open Function renaming comp->Zk
open Int renaming toNat_natCast->VA,zero_add->YE,emod_nonneg->Y7,natCast_add->Y8,emod_lt_of_pos->Zq,fdiv_eq_ediv_of_nonneg->Zr
open List renaming length_map->TX,mem_cons_of_mem->T3,getD_eq_getElem?_getD->T6,mem_map->T7,getElem?_map->T9,getElem?_eq_getElem->Ua,map_map->Ub,mem_cons_self->Ud,range->Ue,getElem?_eq_some_iff->Ui,map_cons->Ul,mem_of_getElem?->Uo,mem_cons->Uq,length_cons->Ur,length_append->Uv,size_toArray->UB,mem_range->UD,length_range->UF,map_congr_left->UH,sum_cons->UI,map_append->UK,replicate->UL,mem_singleton->UM,append_nil->UQ,take_length->UV,getElem?_range->U8,flatMap_cons->U9,length_take->Ve,length_singleton->Vf,mem_append_right->Vg,append_assoc->Vi,getElem_mem->Vj,mem_flatMap->Vk,mem_append->Vr,nodup_cons->Vs,map->Vx,replicate_succ->VF,drop_eq_getElem_cons->VH,length_set->VL,map_flatMap->VM,not_mem_nil->VN,mem_filter->VS,sum->VT,zip_cons_cons->VU,nil_append->VY,flatMap_append->V0,getElem?_set->V2,filterMap_cons->V7,length_replicate->V9,take_append_drop->Wa,map_nil->Wc,cons_append->Wh,ext_getElem->Wj,mem_of_mem_take->Wl,getElem?_append_right->Wq,mem_or_eq_of_mem_set->Wv,pairwise_iff_getElem->Ww,mem_replicate->Wz,exists_cons_of_length_eq_add_one->WF,getElem?_replicate->WG,pairwise_map->WH,find?_cons->WI,range_succ->WJ,drop_eq_nil_of_le->WQ,take_of_length_le->WR,getElem_map->WX,length_nil->W6,of_mem_zip->W7,flatten_cons->W9,mem_append_left->Xa,map_drop->Xg,pairwise_singleton->Xh,getElem_range->Xq,map_replicate->Xr,forIn_cons->XA,length_zip->XB,sum_append->XD,length_filter_le->XH,forIn_nil->XT,all_eq_true->X5,filter_cons->X6,length_drop->X7,zipWith->X8,getElem?_append_left->Yc,map_eq_nil_iff->Yh,pairwise_cons->Yq,flatMap_eq_nil_iff->Yt,getElem?_eq_none->YK,drop_length->YN,flatMap_map->YO,flatMap_nil->YQ,any_cons->YW,length->Y2,lookup->Y3,map_set->Zg,getElem?_drop->Zl,mem_filterMap->Zm,take_zero->Zn,getElem?_eq_none_iff->Zz,nodup_append->ZD,reverse_cons->ZE,zip_nil_left->ZF,all_cons->ZK,map_take->ZL,length_eq_zero_iff->ZT,lookup_cons->ZU,getElem?_toArray->Z8
open List.Pairwise renaming nil->Z5
open List.Sublist renaming refl->Z7
open List.cons renaming injEq->Xj,inj->XZ
open Min renaming min->W0
open Nat renaming le_refl->Ug,le_trans->Um,lt_of_lt_of_le->UN,ne_of_lt->U7,zero_le->Vp,lt_irrefl->Vq,lt_of_le_of_lt->VC,zero_add->V4,le_add_right->Wn,not_lt_zero->WK,mul_comm->WU,ne_of_gt->WV,lt_succ_of_lt->Xc,lt_trichotomy->Xd,sub_self->Xe,le_of_lt->Xu,mul_le_mul_right->X0,pow_le_pow_right->X1,lt_succ_self->Yd,min_le_right->Ye,min_le_left->Yr,le_min->Yu,le_mul_of_pos_right->Yx,gcd->YF,le_of_lt_succ->YG,mul_le_mul->YH,mul_left_comm->YI,mod_lt->YX,mul_assoc->Y4,lt_trans->Zi,le_succ->ZM,add_sub_cancel_left->ZW,succ_le_succ->ZX,div_le_self->Z9
open Option renaming some->U,none->Y,map_some->VP,bind_some->Wf,map_eq_some_iff->ZV
open Option.some renaming inj->UR
open Or renaming inl->Wm,inr->Xn
open Prod renaming ext->WM,ext_iff->WS
open Pure renaming pure->Wo
open PyProof.Rows renaming callWith_type1->VJ,seqObj->WL,slot_tuple_getitem->Yl,envOfC->Yw,listUpdate_at->Yz,IntsAre->YV,AllBare->ZB
open PySem renaming wpAny_bind->My,wpAny_pure->TZ,Addr->T8,Value->Uc,Shared->Uj,wpAny->Us,starEach->Uu,FuncData->Uw,sizeLine->UC,model->UP,Program->UT,treeTable->UW,World->UY,wpAny_newObj_type->U1,wpAny_call_entry->U2,Str->U3,Stmt->Va,Heap->Vl,Around->Vn,foldedSetIterable->Vo,wpAny_mono->Vt,SetTable->Vu,eval->Vv,Obj->Vy,compareOp->Vz,wpAny_holding->VB,wpAny_truthy_bool->VE,wpAny_field->VI,mem_of_lookup->VR,wpAny_setField_rec->VZ,sizeLine_eq->V5,Comprehension->V6,cellsFrom->V8,wpAny_setState_of->Wd,wpAny_seqItems->Wg,wpAny_isInstance->Wp,OsState->Wr,wpAny_standAt->Wu,keywordEach->WA,mainGlobals->WB,backTo->WD,wpAny_specialOf->WW,DictEntry->W3,binaryOp->W8,wpAny_comprehension_free->Xl,wpAny_rule->Xm,Pos->Xp,IsPair->Xs,firstArgMember->Xw,wpAny_setField->Xx,wpAny_typeNameOfWhole_itemiter->Xy,wpAny_of_eq->XI,wpAny_typeNameOfWhole_keyiter->XJ,bootBuiltins->XN,rawInt->XO,backToKw->XR,wpAny_passesOwn->XS,attributeBase->XW,wpAny_attempt->XX,pyNext->X3,wpAny_dictEntries->X9,NameKind->Yi,intItems->Yj,sliceBounds->Yk,standAt->Yp,wpAny_typeNameOf_itemiter->Ys,wpAny_typeNameOf_keyiter->YA,codeAny->YC,wpAny_dictEpoch->YD,cLine->YJ,holding->YY,isSubtype_type->YZ,wpAny_fieldsOf->Y0,wpAny_pyIter_slot->Y1,swapsWith->Zc,sysModules->Zd,wpAny_askSetting->Ze,wpAny_forIn_list->Zf,behindInMarks->Zh,Paired->Zs,assign->Zu,codeAny_builtin->Zv,letOwnedTupleGo->Zy,codeAny_mono->ZH,IsItemIter->ZO,wpAny_Call_Name_kw->ZQ,wpAny_pyIter_tuple->ZR,IsZip->ZZ,intKind->Z0,wpAny_pyIter_list->Z3
open PySem.Around renaming under_plainId->YM
open PySem.Builtin.Dict renaming showsAll->Yn
open PySem.Builtin.Dict_items renaming ownsTuple->Wt,ownedTupleFields->Zo,ownedTupleIsFree->Zp,pairFromOwner->ZI
open PySem.Builtin.List renaming listExtendWith->Xi,listSameRef->XQ,listTooLong->Y5
open PySem.Builtin.Range renaming rangeFitsLong->VG,rangeSize->Y6
open PySem.Builtin.Slice renaming slicePlaces->Xz,sliceAdjust->YT
open PySem.Builtin.SmallTypes renaming nextOf->We,ownedTupleIsFree->Wx,ownedTupleHandOut->Zj,refuseKeywords->ZC
open PySem.Builtin.Tuple renaming tupleExact->XM,tupleHashOf->YU
open PySem.Calls renaming callWith_builtin->Yy
open PySem.Challenge renaming rw_edgetally_k31_ends_small->Vb
open PySem.F renaming plainAttrs_list->VQ,slot_list_append->VV,type_list_append->VW,slot_dict_itemiterator_next->Wb,slot_dict_keyiterator_next->WO,slot_tuple_iterator_next->Yb,args_tuple_add_2->Zt,entry_tuple_add->ZG,slot_tuple_add->ZP,plain_list_iadd->ZS
open PySem.Heap renaming get?_push_of_some->T1,get?_push_size->Ut,lt_size->UJ,SameBut->UU,size_push->VX,get?_update_ne->Ws,get?_update_self->W2
open PySem.Heap.SameBut renaming update->VO
open PySem.NameKind renaming free->W4
open PySem.Obj renaming mapSeq->VD,data_mapFields->V3,isFreed_of_fields->YR,cls_mapFields->ZN,putSet->Z6
open PySem.PyData renaming eqvAll->WP,eqv->Xo,depth->XU
open PySem.SeqAt renaming EqAt->V1,shaped->Za
open PySem.Str renaming ofString->Uy,empty->Yg
open PySem.Value renaming ref->UE,none->U4,type->Xf,int->X2,isInt_shape->ZA,bool->ZY
open PySem.W renaming Frag->UA,piecesOf->U5,segRun->Vd,findIn->Xv,fnOf->Yv,codeIn->Y9,emptyDict->Zb,keepIn->Zx,kia_one->Z1,kia_tup->Z2
open PySem.W.OpenLaw renaming row->W1
open PySem.W.OpenRow renaming toRowW->WC
open True renaming intro->XV
open PySem PySem.Spec PyProof PyProof.Rows
abbrev a1b:=List Bool
abbrev a0W:=Int->Int->Prop
abbrev a0U:=Option T8
abbrev a0T:=List V6
abbrev a0S:=Option Bool
abbrev a0R:=List Va
abbrev a0P:=Nat->Int
abbrev a0O:=Nat->Nat
abbrev a0N:=List<|U3×Yi
abbrev a0M:=Int->Int->Int
abbrev a0L:=Option Nat
abbrev a0I:=List Vy
abbrev a0E:=Array Uc
abbrev a0y:=Array Nat
abbrev a0x:=Array<|Int×Uc
abbrev a0w:=Array a0L
abbrev a0t:=Option<|T8×T8
abbrev a0r:=List T8
abbrev a0o:=Option Int
abbrev a0m:=List<|U3×T8
abbrev a0j:=U3->Option Uc
abbrev a0i:=List U3
abbrev a0h:=List<|Nat×Nat
abbrev a0g:=List Uc
abbrev a0f:=Uc->Uj->Prop
abbrev a0e:=List Int
abbrev a0q:=List<|a0e×T8
abbrev a0d:=List<|T8×Vy
abbrev a0b:=List a0h
abbrev a0a:=List Nat
abbrev a0p:=List a0a
abbrev a0A:=List<|Nat×a0a
abbrev a0Q:=Nat->a0a->Nat
abbrev a0X:=a0a->a0a->Prop
abbrev Uf:=@if_pos
abbrev Uh:=@if_neg
abbrev Ux:=@decide_eq_true
abbrev UG:=@absurd
abbrev UX:=@decide_eq_false
abbrev UZ:=@decide_eq_true_eq
abbrev U6:=@congrArg
abbrev Vc:=@if_false
abbrev Vm:=@if_true
abbrev WE:=@of_decide_eq_true
abbrev Xk:=@beq_iff_eq
abbrev XG:=@bne_self_eq_false
abbrev Yo:=@or_false
abbrev YL:=@decide_eq_decide
abbrev Zw:=@decide_false
open PySem.W (Frag instObj methodObj hideAll hideAll_get hideAll_none lookIn plainGet hasDictIn findIn plainGet_of isFn takerIn emptyDict keepIn specialIn kitOne kia_one kitx_list kitx_tuple cellsFrom_some mg_of kia_tup)
abbrev LI:=List a0e
abbrev LP:=List (List<|Int×Int)
--CHANGE:your row's module here,as the last of these ba
namespace L2
set_option genInjectivity true in
inductive V where
 |non|bl (b:Bool)|int (i:Int)|str (x:U3)|ref (a:T8)|ty (n:String)
 deriving DecidableEq
abbrev a0k:=List V
abbrev a0G:=List<|U3×V
def aY:V->Uc->Prop
 | .non,u=>u=U4
 | .bl b,u=>u=ZY b
 | .int i,u=>∃t,u=X2 i t
 | .str x,u=>∃t,u=Value.str x t
 | .ref a,u=>u=UE a
 | .ty n,u=>u=Xf n
abbrev aE:a0k->a0g->Prop:=Zs aY
theorem aE.length{xs:a0k}{us:a0g}(r:aE xs us):xs.length=us.length:=Paired.length r
theorem aE.get:∀{D:a0k} {E:a0g} {i:Nat} {x:V},aE D E->D[i]?=U x->∃u,E[i]?=U u/\aY x u
 |_,_,_,_,.nil,e=>by simp at e
 |_,_,0,_,.cons r _,e=>by simp at e;subst e;exact⟨_,Z,r⟩
 |_,_,i+1,x,.cons _ t,e=>by
  obtain⟨u,a,b⟩:=aE.get t (by exact e);exact⟨u,by exact a,b⟩
theorem aE.set(r:aY x u):∀{xs:a0k} {D:a0g} (i:Nat),aE xs D->aE (xs.set i x) (D.set i u)
 |_,_,_,.nil=> .nil
 |_,_,0,.cons _ t=> .cons r t
 |_,_,i+1,.cons q t=> .cons q<|aE.set r i t
theorem aE.append:∀{xs D:a0k} {E a:a0g},aE xs E->aE D a->aE (xs++D) (E++a)
 |_,_,_,_,.nil,s=>s
 |_,_,_,_,.cons r t,s=> .cons r<|aE.append t s
theorem aE.take:∀{xs:a0k} {D:a0g} (n:Nat),aE xs D->aE (xs.take n) (D.take n)
 |_,_,0,_=> .nil
 |_,_,_+1,.nil=> .nil
 |_,_,n+1,.cons r t=> .cons r<|aE.take n t
theorem aE.drop:∀{D:a0k} {E:a0g} (n:Nat),aE D E->aE (D.drop n) (E.drop n)
 |_,_,0,r=>r
 |_,_,_+1,.nil=> .nil
 |_,_,n+1,.cons _ t=>aE.drop n t
def jt:Option V->Option Uc->Prop
 |some v,U u=>aY v u
 |none,Y=>True
 |_,_=>False
inductive HO where
 |lst (xs:a0k)
 |tup (xs:a0k)
 |ins (C dx:T8) (fs:a0G)
 |own (x:T8)
 |xd (fs:a0G)
 |met (f x:T8)
 |rng (lo hi:Int)
 |frz (o:Vy) (u:HO)
 |tbl (ps:a0E)
 |ext (φ:Vl->Prop)
abbrev Hp:=T8->Option HO
abbrev a0V:=Bool->Hp->Prop
noncomputable def upd(H:Hp)(a:T8)(o:HO):Hp:=λb=>if b=a then U o else H b
theorem aw:upd H a o a=U o:=by unfold upd;rw[Uf Z]
theorem bt(h:b≠a):upd H a o b=H b:=by unfold upd;rw[Uh h]
theorem SG{H:Hp}{a b:T8}{o u:HO}(h:H a=U o)(D:H b=U u)(d:o≠u):a≠b:=by
 intro e;subst e;rw[h]at D;exact d<|UR D
theorem aP{H:Hp}{a b:T8}{o:HO}(h:H a=U o)(D:H b=Y):a≠b:=by
 intro e;subst e;rw[h]at D;cases D
section
variable(P:UT)(w:UY)
def b6(P:UT)(w:UY)(H:Hp)(h:Vl)(a:T8):HO->Prop
 | .lst xs=>xs.length<=UC/\∃(D:a0g) (n:Nat),aE xs D/\h.get? a=U {cls:= .type "list",data:= .seq D.toArray n}
 | .tup xs=>xs.length<=UC/\∃D:a0g,aE xs D/\IsTup h a D.toArray
 | .ins C dx fs=>H dx=U (.own a)/\fs.length<=1000/\dx≠a/\h.get? a=U (instObj C dx)/\
   ∃b,h.Ns1 dx b/\(∀f,jt (fs.lookup f)<|b f)/\PySem.Within b (fs.map (·.1))
 | .own _=>∃o,h.get? a=U o
 | .xd fs=>∃b,h.Ns1 a b/\∀f,jt (fs.lookup f)<|b f
 | .rng lo hi=>∃t u v,h.get? a=U {cls:= .type "range",data:= .fields #[.int lo t,.int hi u,.int 1 v]}
 | .frz o u=>h.get? a=U o/\b6 P w H h a u
 | .tbl ps=>h.get? a=U {cls:= .none,data:= .fields ps}
 | .met f x=>h.get? a=U (methodObj (.ref f)<|.ref x)
 | .ext φ=>φ h/\(∃o,h.get? a=U o)/\∀c d:Vl,φ c->(∀o,c.get? a=U o->d.get? a=U o)->φ d
def lw(H:Hp)(h:Vl):Prop:=∀a o,H a=U o->b6 P w H h a o
end
section
variable{P:UT}{w:UY}{H s:Hp}{h h':Vl}{a:T8}{o:HO}
theorem b6.lt(x:b6 P w H h a o):a<h.objs.size:=by
 cases o with
 |lst xs=>obtain⟨_,_,_,_,e⟩:=x;exact UJ e
 |tup xs=>obtain⟨_,_,_,p⟩:=x;exact p.lt
 |ins C dx fs=>obtain⟨_,_,_,e,_⟩:=x;exact UJ e
 |own y=>obtain⟨_,e⟩:=x;exact UJ e
 |xd fs=>obtain⟨_,⟨_,_,_,e,_⟩,_⟩:=x;exact UJ e
 |rng lo hi=>obtain⟨_,_,_,e⟩:=x;exact UJ e
 |frz ob u=>obtain⟨e,_⟩:=x;exact UJ e
 |tbl ps=>exact UJ (show h.get? a=U _ from x)
 |met f y=>exact UJ (show h.get? a=U _ from x)
 |ext φ=>obtain⟨_,⟨_,e⟩,_⟩:=x;exact UJ e
theorem b6.stay(x:b6 P w H h a o)(k:∀b u,(b=a\/H b=U (.own a))->h.get? b=U u->h'.get? b=U u)
  (l:∀b,H b=U (.own a)->s b=U (.own a)) (A:∀b E,H b=U (.tup E)->s b=U (.tup E)):b6 P w s h' a o:=by
 induction o with
 |lst E=>obtain⟨z,D,n,r,e⟩:=x;exact⟨z,D,n,r,k _ _ (.inl Z) e⟩
 |tup E=>obtain⟨z,D,r,g,e,c⟩:=x;exact⟨z,D,r,g,k _ _ (.inl Z) e,c⟩
 |ins C dx fs=>
  obtain⟨d,z,S,e,i,⟨j,G,K,m,c⟩,r⟩:=x;exact⟨l _ d,z,S,k _ _ (.inl Z) e,i,⟨j,G,K,k _ _ (.inr d) m,c⟩,r⟩
 |own y=>obtain⟨g,e⟩:=x;exact⟨g,k _ _ (.inl Z) e⟩
 |xd fs=>obtain⟨i,⟨j,G,K,e,c⟩,r⟩:=x;exact⟨i,⟨j,G,K,k _ _ (.inl Z) e,c⟩,r⟩
 |rng lo hi=>obtain⟨t,u,v,e⟩:=x;exact⟨t,u,v,k _ _ (.inl Z) e⟩
 |frz g u ih=>obtain⟨e,q⟩:=x;exact⟨k _ _ (.inl Z) e,ih q⟩
 |tbl ps=>
  have e:=x;exact k a _ (.inl Z) e
 |met f y=>
  have e:=x;exact k a _ (.inl Z) e
 |ext φ=>obtain⟨p,⟨o,e⟩,M⟩:=x;exact⟨M _ _ p λo q=>k _ _ (.inl Z) q,⟨o,k _ _ (.inl Z) e⟩,M⟩
theorem lw.lt(x:lw P w H h)(e:H a=U o):a<h.objs.size:=(x a o e).lt
theorem lw.fresh(x:lw P w H h)(e:h.objs.size<=a):H a=Y:=by
 cases q:H a with
 |none=>rfl
 |some u=>exact UG (UN (x.lt q) e)<|Vq _
theorem lw.kept(x:lw P w H h)(k:∀b u,h.get? b=U u->h'.get? b=U u):lw P w H h':=λa o e=>
 (x a o e).stay (λb u _ q=>k b u q) (λ_ q=>q) λ_ _ q=>q
theorem lw.laid(x:lw P w H h)(k:∀b u,h.get? b=U u->h'.get? b=U u)(f:h.objs.size<=a)(s:b6 P w (upd H a o) h' a o):lw P w (upd H a o) h':=λb u e=>by
 have D:=x.fresh f;by_cases d:b=a
 .subst d;rw[aw]at e;cases e;exact s
 .rw[bt d]at e
  exact(x b u e).stay (λc v _ q=>k c v q) (λc q=>by rw[bt<|aP q D];exact q) λc E q=>by rw[bt<|aP q D];exact q
def Rd(H:Hp)(a:T8)(u:HO):Prop:=H a=U u\/∃o,H a=U (.frz o u)
theorem Rd.ok{P:UT}{w:UY}{H:Hp}{h:Vl}{a:T8}(r:Rd H a u)(x:lw P w H h):b6 P w H h a u:=by
 obtain r|⟨o,r⟩:=r
 .exact x a u r
 .obtain⟨_,q⟩:=x a _ r
  exact q
def Mut:Option HO->Prop
 |some (.lst _)=>True
 |some (.ins _ _ _)=>True
 |some (.ext _)=>True
 |_=>False
variable{x e:T8}{p:HO}
theorem lw.write(s:lw P w H h)(mu:Mut<|H x)(l:e=x\/H e=U (.own x))(k:∀b u,b≠e->h.get? b=U u->h'.get? b=U u)(j:∃u,h'.get? e=U u)
  (o:b6 P w (upd H x p) h' x p):lw P w (upd H x p) h':=λb u q=>by
 have f:∀c y,H c=U (.own y)->c≠x:=λc y r z=>by subst z;rw[r]at mu;exact mu
 have g:∀c a,H c=U (.tup a)->c≠x:=λc a r z=>by subst z;rw[r]at mu;exact mu
 by_cases i:b=x
 .subst i;rw[aw]at q;cases q;exact o
 .rw[bt i]at q
  by_cases d:b=e
  .have m:H b=U (.own x):=by
    obtain z|z:=l
    .exact UG (d.trans z) i
    .rw[d];exact z
   rw[q]at m;cases m;obtain⟨v,n⟩:=j;exact⟨v,by rw[d];exact n⟩
  .refine(s b u q).stay (λc v hc r=>k c v ?_ r) (λc r=>by rw[bt<|f c b r];exact r) λc a r=>by rw[bt<|g c a r];exact r
   obtain rfl|hc:=hc
   .exact d
   .rintro rfl
    obtain z|z:=l
    .exact f c b hc z
    .rw[hc]at z;cases z;exact i Z
structure Un (fs ex:a0r) (H s:Hp) (h h':Vl):Prop where
 keep:∀b o,h.get? b=U o->H b=Y->b∉fs->b∉ex->h'.get? b=U o
 slot:∀b o,h.get? b=U o->H b=Y->b∈fs->b∉ex->∃sl,h'.get? b=U {o with slots:=sl}
 free:∀b o,h.get? b=U o->H b=Y->b∉ex->s b=Y
 there:∀b o,h.get? b=U o->b∉ex->∃p,h'.get? b=U p
 tups:∀b xs,H b=U (.tup xs)->s b=U (.tup xs)
 frzs:∀b o u,H b=U (.frz o u)->s b=U (.frz o u)
 tbls:∀b ps,H b=U (.tbl ps)->∃more,s b=U (.tbl<|ps++more)
variable{l g ex i:a0r}{m s:Hp}{k r:Vl}
theorem Un.any(u:Un l ex H m h k)(q:h.get? b=U ob)(n:H b=Y)(a:b∉ex):∃e,k.get? b=U {ob with slots:=e}:=by
 by_cases c:b∈l
 .exact u.slot b ob q n c a
 .exact⟨ob.slots,u.keep b ob q n c a⟩
theorem Un.trans(a:Un l ex H m h k)(b:Un l ex m s k r):Un l ex H s h r where
 keep:=λc d q n g e=>b.keep c d (a.keep c d q n g e) (a.free c d q n e) g e
 slot:=λc d q n g e=>by
  obtain⟨E,f⟩:=a.slot c d q n g e;obtain⟨i,j⟩:=b.slot c _ f (a.free c d q n e) g e;exact⟨i,j⟩
 free:=λc d q n e=>by
  obtain⟨p,f⟩:=a.there c d q e;exact b.free c p f (a.free c d q n e) e
 there:=λc d q e=>by
  obtain⟨p,f⟩:=a.there c d q e;exact b.there c p f e
 tups:=λc o q=>b.tups c o (a.tups c o q)
 frzs:=λc d o q=>b.frzs c d o (a.frzs c d o q)
 tbls:=λc w q=>by
  obtain⟨x,f⟩:=a.tbls c w q;obtain⟨D,j⟩:=b.tbls c _ f;exact⟨x++D,by rw[j,Array.append_assoc]⟩
theorem Un.kept(k:∀b u,h.get? b=U u->h'.get? b=U u):Un l ex H H h h':=
 ⟨λb c q _ _ _=>k b c q,λb c q _ _ _=>⟨c.slots,k b c q⟩,λ_ _ _ n _=>n,λb c q _=>⟨c,k b c q⟩,λ_ _ q=>q,λ_ _ _ q=>q,λ_ a q=>⟨#[],by rw[q];simp⟩⟩
theorem Un.refl:Un l ex H H h h:=Un.kept λ_ _ q=>q
theorem Un.laid(k:∀b u,h.get? b=U u->h'.get? b=U u)(c:h.objs.size<=a)(e:H a=Y):Un l ex H (upd H a o) h h' where
 keep:=λb u q _ _ _=>k b u q
 slot:=λb u q _ _ _=>⟨u.slots,k b u q⟩
 free:=λb u q n _=>by rw[bt<|U7<|UN (UJ q) c];exact n
 there:=λb u q _=>⟨u,k b u q⟩
 tups:=λb g q=>by rw[bt<|aP q e];exact q
 frzs:=λb u g q=>by rw[bt<|aP q e];exact q
 tbls:=λb i q=>⟨#[],by rw[bt<|aP q e,q];simp⟩
theorem Un.write(mu:Mut<|H x)(g:e=x\/H e=U (.own x))(k:∀b u,b≠e->h.get? b=U u->h'.get? b=U u)(d:∃u,h'.get? e=U u):Un l ex H (upd H x o) h h':=by
 have i:∀b,H b=Y->b≠x:=λb n z=>by subst z;rw[n]at mu;exact mu
 have f:∀b,H b=Y->b≠e:=λb n z=>by
  subst z;obtain r|r:=g
  .exact i b n r
  .rw[n]at r;cases r
 have a:∀b u,H b=U u->¬Mut (U u)->b≠x:=λb u q m z=>by subst z;rw[q]at mu;exact m mu
 refine⟨λb u q n _ _=>k b u (f b n) q,λb u q n _ _=>⟨u.slots,k b u (f b n) q⟩,λb u q n _=>by rw[bt<|i b n];exact n,λb u q _=>?_,
  λb p q=>by rw[bt<|a b _ q λz=>z];exact q,λb u p q=>by rw[bt<|a b _ q λz=>z];exact q,λb s q=>⟨#[],by rw[bt<|a b _ q λz=>z,q];simp⟩⟩
 by_cases c:b=e
 .subst c;exact d
 .exact⟨u,k b u c q⟩
theorem Un.mono(u:Un l ex H m h k)(e:∀b∈l,b∈g)(a:∀b∈ex,b∈i):Un g i H m h k:=
 ⟨λb d q n f c=>u.keep b d q n (λz=>f<|e b z) λz=>c<|a b z,λ_ _ q n _ c=>u.any q n λz=>c<|a _ z,λb d q n c=>u.free b d q n λz=>c<|a b z,λb d q c=>u.there b d q λz=>c<|a b z,u.tups,u.frzs,u.tbls⟩
noncomputable def trk(h:Vl)(H:Hp):a0r:=(Ue h.objs.size).filter λa=>(H a).isSome
noncomputable def nP(h:Vl)(H:Hp):Vl:=hideAll h<|trk h H
theorem Mb{h:Vl}{H:Hp}{o:Vy}(e:h.get? b=U o)(n:H b=Y):(nP h H).get? b=U o:=
 hideAll_get _ e λa=>by
  have q:=(VS.mp a).2;rw[n]at q;simp at q
theorem Oq{h:Vl}{H:Hp}{o:Vy}(e:(nP h H).get? b=U o):h.get? b=U o/\H b=Y:=by
 have c:=PySem.W.of_hideAll _ e;refine⟨c,?_⟩;cases q:H b with
 |none=>rfl
 |some x=>
  have z:(nP h H).get? b=Y:=hideAll_none _ (VS.mpr ⟨UD.mpr<|UJ c,by simp[q]⟩);rw[z]at e;cases e
structure Mod (K:UA) (mg:a0j) (base:Vl):Prop where
 kin:K.In base
 glob:base.Ns WB mg
 blt:∃mb,base.Ns builtinsNs mb/\∀x:U3,x≠"__name__"->mb x=XN x
 nolimit:base.NoLimit
structure Cx where
 prog:UT
 w:UY
 K:UA
 mg:U3->Option Uc
 base:Vl
 A:Vn
 N:a0i
 s₀:Uj
 H₀:Hp
 env:Env
 outer:List Env
 stack:List Env
 ex:a0r
 fn:U3->Bool
 calm:Bool
 pn:a0d
 xe:Uc->Uj->Prop
abbrev b0a(X:Cx)(a:Expr)(b:List Expr):=Uu (a::b) X.env=(T4,Vv a X.env)::Uu b X.env
abbrev b0b(X:Cx)(a:Xp)(b:List Expr):=(WD a<|Uu b X.env).any (·.1)=T4
abbrev b0c(a:U3):=(a==("__debug__":U3))=T4
abbrev b0d(X:Cx)(a:U3):=X.fn a=O\/X.env.scope.names.lookup a=U .local
noncomputable def io(l:List Env):a0r:=l.filterMap (·.frame)
end
noncomputable abbrev Cx.fs(X:Cx):a0r:=io X.outer
def Vis(a:Scope)(x:U3):Prop:=a.names.lookup x=U .local\/a.names.lookup x=U .cell\/a.names.lookup x=U .free
def Iv(a:Scope)(x:U3):Prop:=a.names.lookup x=U .local\/a.names.lookup x=U .cell
def Look(D:Env)(h:Vl)(m:a0j)(x:U3)(u:Uc):Prop:=
 (D.kindOf x=U .local/\m x=U u)\/((D.kindOf x=U .cell\/D.kindOf x=U .free)/\∃c,D.cells.lookup x=U c/\h.IsCell c (U u))
structure Cx.Ok (X:Cx):Prop where
 mod:Mod X.K X.mg X.base
 kind:X.env.scope.kind= .function
 glob:X.env.globals=WB
 blt:X.env.builtins=builtinsNs
 above:X.s₀.heap.objs.size<=X.env.locals
 inj:∀x y c,X.env.cells.lookup x=U c->X.env.cells.lookup y=U c->x=y
 has:∀x,(X.env.kindOf x=U .cell\/X.env.kindOf x=U .free)->∃c,X.env.cells.lookup x=U c
 cab:∀x c,X.fn x=O->X.env.cells.lookup x=U c->X.s₀.heap.objs.size<=c
 hd:X.calm=O->X.A.handled=Y
 frames:X.A.frames=U X.stack
 stk:X.stack=X.outer\/(X.stack=X.env::X.outer/\X.env.frame=U X.env.locals)
 exf:∀b∈X.ex,b≠X.env.locals/\∀x c,X.env.cells.lookup x=U c->c≠b
 bs:∀b o,X.base.get? b=U o->X.s₀.heap.get? b=U o/\X.H₀ b=Y
 bsz:X.base.objs.size<=X.s₀.heap.objs.size
 noex:∀b o,X.base.get? b=U o->b∉X.ex
 exfs:∀b∈X.ex,b∉X.fs
 funs:X.s₀.heap.FunFrames X.base X.outer
 frf:∀b∈X.fs,X.H₀ b=Y
structure b_ (X:Cx) (a_:a0d) (σ:List<|Option V) (H:Hp) (s:Uj):Prop where
 ok:X.Ok
 os:s.os=X.s₀.os
 bare:ZB s.gens
 base:Un X.fs X.ex X.H₀ H X.s₀.heap s.heap
 loc:∃m,s.heap.Ns X.env.locals m/\∀(i:Nat) (x:U3) (v:V),X.N[i]?=U x->σ[i]?=U (U v)->Vis X.env.scope x->∃u,aY v u/\Look X.env s.heap m x u
 cell:∀x c,X.env.cells.lookup x=U c->∃v,s.heap.IsCell c v
 free:H X.env.locals=Y
 freeC:∀x c,X.env.cells.lookup x=U c->H c=Y
 pin:∀p∈X.pn++a_,s.heap.get? p.1=U p.2/\H p.1=Y/\p.1≠X.env.locals/\p.1∉X.fs/\∀v,p.2.data≠ .cell v
 hok:lw X.prog X.w H s.heap
 len:σ.length=X.N.length
section
variable{X:Cx}{a_:a0d}{σ:List (Option V)}{H R:Hp}{s:Uj}{h':Vl}
theorem Cx.Ok.nofr(s:X.Ok)(e:X.base.get? b=U o):b∉X.fs:=λa=>by
 have:=(s.funs.mem a).1;rw[e]at this;cases this
theorem b_.bs(I:b_ X a_ σ H s):∀b o,X.base.get? b=U o->s.heap.get? b=U o/\H b=Y:=λb o e=>
 ⟨I.base.keep b o (I.ok.bs b o e).1 (I.ok.bs b o e).2 (I.ok.nofr e)<|I.ok.noex b o e,I.base.free b o (I.ok.bs b o e).1 (I.ok.bs b o e).2<|I.ok.noex b o e⟩
theorem b_.bk(I:b_ X a_ σ H s):∀b o,X.base.get? b=U o->s.heap.get? b=U o:=λb o e=>(I.bs b o e).1
theorem b_.mod(I:b_ X a_ σ H s):Mod X.K X.mg X.base:=I.ok.mod
theorem b_.kIn(I:b_ X a_ σ H s):X.K.In s.heap:=I.ok.mod.kin.keeps I.bk
theorem b_.lt(I:b_ X a_ σ H s):X.env.locals<s.heap.objs.size:=let ⟨_,hn,_⟩:=I.loc;hn.lt
theorem b_.sz(I:b_ X a_ σ H s):X.s₀.heap.objs.size<=s.heap.objs.size:=Um I.ok.above<|Xu I.lt
theorem b_.nofs(I:b_ X a_ σ H s){a:T8}(h:s.heap.objs.size<=a):a∉X.fs:=λb=>by
 obtain⟨_,o,c,_⟩:=I.ok.funs.mem b;exact UG (UN (UJ c)<|Um I.sz h)<|Vq _
theorem b_.cne(I:b_ X a_ σ H s):∀x c,X.env.cells.lookup x=U c->c≠X.env.locals:=λx c e z=>by
 obtain⟨v,o,d,D⟩:=I.cell x c e;obtain⟨m,⟨f,E,G,a,b,_⟩,_⟩:=I.loc;rw[z,a]at d;cases d;rw[b]at D;cases D
theorem b_.funs(I:b_ X a_ σ H s):s.heap.FunFrames X.base X.outer:=by
 have D:∀(l:List _),(∀b∈io l,b∈X.fs)->X.s₀.heap.FunFrames X.base l->s.heap.FunFrames X.base l:=by
  intro l
  induction l with
  |nil=>intro _ _;trivial
  |cons G r K=>
   intro E f;obtain⟨g,⟨L,o,a,M,h,R⟩,i⟩:=f;have c:=E L (by unfold io;rw[V7,a];exact Ud);obtain⟨S,e⟩:=I.base.slot L o h (I.ok.frf L c) c λz=>I.ok.exfs L z c;exact⟨g,⟨L,_,a,M,e,R⟩,K (λb d=>E b<|by unfold io;rw[V7,a];exact T3 _ d) i⟩
 exact D _ (λ_ d=>d) I.ok.funs
theorem b_.stack(I:b_ X a_ σ H s):s.heap.FunFrames X.base X.stack:=by
 obtain e|⟨e,a⟩:=I.ok.stk
 .rw[e];exact I.funs
 .rw[e]
  obtain⟨m,D,_⟩:=I.loc;exact .cons (by rw[I.ok.kind];decide) a D (Heap.get?_none_of_le<|Um I.ok.bsz I.ok.above) I.funs
theorem b_.stkSub(I:b_ X a_ σ H s):∀b∈io X.stack,b∈X.env.locals::X.fs:=λb a=>by
 obtain e|⟨e,c⟩:=I.ok.stk
 .rw[e]at a;exact T3 _ a
 .rw[e]at a
  unfold io at a;rw[V7,c]at a;exact a
theorem b_.stkFree(I:b_ X a_ σ H s):∀b∈io X.stack,H b=Y:=λb hb=>by
 obtain e|hb:=Uq.mp (I.stkSub b hb)
 .rw[e];exact I.free
 .obtain⟨_,o,a,_⟩:=I.ok.funs.mem hb
  exact I.base.free b o a (I.ok.frf b hb) λz=>I.ok.exfs b z hb
theorem b_.step{ch:a0r}(I:b_ X a_ σ H s)
  (a:∀b∈ch,(b∈X.ex\/X.s₀.heap.objs.size<=b)/\b≠X.env.locals/\(∀x c,X.env.cells.lookup x=U c->c≠b)/\∀p∈X.pn++a_,p.1≠b)
  (G:∀b o,b≠X.env.locals->b∉X.fs->b∉ch->s.heap.get? b=U o->H b=Y->h'.get? b=U o)
  (K:∀b o,b≠X.env.locals->b∈X.fs->b∉ch->s.heap.get? b=U o->H b=Y->∃f5,h'.get? b=U {o with slots:=f5}) (E:∀b o,b∉ch->s.heap.get? b=U o->H b=Y->R b=Y)
  (S:∀b o,b∉ch->s.heap.get? b=U o->∃A,h'.get? b=U A)
  (V:∀b M,H b=U (.tup M)->R b=U (.tup M)) (Q:∀b o u,H b=U (.frz o u)->R b=U (.frz o u)) (T:∀b W,H b=U (.tbl W)->∃cb,R b=U (.tbl<|W++cb))
  (ns:∀m,s.heap.Ns X.env.locals m->h'.Ns X.env.locals m) (ek:lw X.prog X.w R h') (N:ZB g'):
  b_ X a_ σ R {s with heap:=h',gens:=g',drawn:=d',toks:=t'}:=by
 have B:∀b o,X.s₀.heap.get? b=U o->b≠X.env.locals:=λb o e=>U7<|UN (UJ e) I.ok.above;have h:∀b o,X.s₀.heap.get? b=U o->b∉X.ex->b∉ch:=λb o e D t=>by
  obtain z|z:=(a b t).1
  .exact D z
  .exact UG (UN (UJ e) z) (Vq _)
 have f:∀x c,X.env.cells.lookup x=U c->∀v,s.heap.IsCell c v->h'.IsCell c v:=λx c e v ⟨o,y,hd⟩=>by
  have g:=λz=>(a c z).2.2.1 x c e Z;by_cases J:c∈X.fs
  .obtain⟨f5,q⟩:=K c o (I.cne x c e) J g y<|I.freeC x c e
   exact⟨_,q,hd⟩
  .exact⟨o,G c o (I.cne x c e) J g y<|I.freeC x c e,hd⟩
 refine⟨I.ok,I.os,N,⟨λb o e n t D=>?_,λb o e n t D=>?_,λb o e n D=>?_,λb o e D=>?_,λb M e=>V b M<|I.base.tups b M e,λb o M e=>Q b o M<|I.base.frzs b o M e,λb W e=>?_⟩,?_,λx c e=>?_,?_,λx c e=>?_,λp L=>?_,ek,I.len⟩
 .exact G b o (B b o e) t (h b o e D) (I.base.keep b o e n t D) (I.base.free b o e n D)
 .obtain⟨f5,j⟩:=I.base.slot b o e n t D
  obtain⟨F,C⟩:=K b _ (B b o e) t (h b o e D) j<|I.base.free b o e n D;exact⟨F,C⟩
 .obtain⟨A,j⟩:=I.base.there b o e D
  exact E b A (h b o e D) j<|I.base.free b o e n D
 .obtain⟨A,j⟩:=I.base.there b o e D
  exact S b A (h b o e D) j
 .obtain⟨m1,j⟩:=I.base.tbls b W e
  obtain⟨m2,C⟩:=T b _ j;exact⟨m1++m2,by rw[C,Array.append_assoc]⟩
 .obtain⟨m,hn,eH⟩:=I.loc
  refine⟨m,ns m hn,λi x v j C P=>?_⟩;obtain⟨u,r,l⟩:=eH i x v j C P;refine⟨u,r,?_⟩;obtain l|⟨k,c,e,z⟩:=l
  .exact .inl l
  .exact .inr ⟨k,c,e,f x c e _ z⟩
 .obtain⟨v,z⟩:=I.cell x c e
  exact⟨v,f x c e v z⟩
 .obtain⟨m,⟨o,_,_,y,_⟩,_⟩:=I.loc
  exact E _ o (λz=>(a _ z).2.1 Z) y I.free
 .obtain⟨v,o,y,hd⟩:=I.cell x c e
  exact E c o (λz=>(a c z).2.2.1 x c e Z) y<|I.freeC x c e
 .obtain⟨e,n,ne,nf,d⟩:=I.pin p L
  have g:=λz=>(a _ z).2.2.2 p L Z;exact⟨G _ _ ne nf g e n,E _ _ g e n,ne,nf,d⟩
theorem b_.un(I:b_ X a_ σ H s)(u:Un X.fs [] H R s.heap h')(D:lw X.prog X.w R h'):b_ X a_ σ R {s with heap:=h',toks:=t'}:=by
 obtain⟨m,⟨o,G,K,g,r⟩,_⟩:=id I.loc;obtain⟨M,h⟩:=u.any g I.free nl;exact I.step (ch:=[]) (λ_ z=>nomatch z) (λb o _ c _ e n=>u.keep b o e n c nl) (λb o _ c _ e n=>u.slot b o e n c nl) (λb o _ e n=>u.free b o e n nl) (λb o _ e=>u.there b o e nl) u.tups u.frzs u.tbls (λj E=>by
  obtain⟨k,d,f,a,i⟩:=E;rw[g]at a;cases a;exact⟨_,d,f,h,i⟩) D I.bare
theorem b_.call{ch:a0r}(I:b_ X a_ σ H s)(u:Un (io X.stack) ch H R s.heap h')(D:lw X.prog X.w R h')(k:ZB g')
  (d:∀b∈ch,(b∈X.ex\/X.s₀.heap.objs.size<=b)/\b≠X.env.locals/\(∀x c,X.env.cells.lookup x=U c->c≠b)/\∀p∈X.pn++a_,p.1≠b):
  b_ X a_ σ R {s with heap:=h',gens:=g',drawn:=d',toks:=t'}:=by
 obtain⟨m,⟨o,G,K,j,r⟩,_⟩:=id I.loc;obtain⟨M,g⟩:=u.any j I.free λz=>(d _ z).2.1 Z;exact I.step d (λb o g l a e n=>u.keep b o e n (λz=>(Uq.mp<|I.stkSub b z).elim g l) a) (λb o _ _ a e n=>u.any e n a) (λb o a e n=>u.free b o e n a) (λb o a e=>u.there b o e a) u.tups u.frzs u.tbls (λt E=>by
  obtain⟨v,h,i,f,q⟩:=E;rw[j]at f;cases f;exact⟨_,h,i,g,q⟩) D k
theorem b_.turned(I:b_ X a_ σ H s)(k:∀b o,b≠t->s.heap.get? b=U o->h'.get? b=U o)(D:H t=Y)(f:t≠X.env.locals)
  (g:t∈X.ex\/X.s₀.heap.objs.size<=t) (h:∀x c,X.env.cells.lookup x=U c->c≠t) (i:∀p∈X.pn++a_,p.1≠t):b_ X a_ σ H {s with heap:=h',toks:=t'}:=by
 have d:∀b u,H b=U u->b≠t:=λb u e z=>by rw[z,D]at e;cases e
 refine I.step (ch:=[t]) (λb j=>?_) (λb o _ _ a e _=>k b o (λz=>a<|by simp[z]) e) (λb o _ _ a e _=>⟨o.slots,k b o (λz=>a<|by simp[z]) e⟩) (λ_ _ _ _ n=>n)
  (λb o a e=>⟨o,k b o (λz=>a<|by simp[z]) e⟩) (λ_ _ e=>e) (λ_ _ _ e=>e) (λb G e=>⟨#[],by rw[e];simp⟩) (λm E=>?_) (λb u e=>?_) I.bare
 .have e:b=t:=by simpa using j
  subst e;exact⟨g,f,h,i⟩
 .obtain⟨o,es,ep,l,r⟩:=E
  exact⟨o,es,ep,k _ o (Ne.symm f) l,r⟩
 .refine(I.hok b u e).stay (λc v a q=>k c v ?_ q) (λ_ q=>q) λ_ _ q=>q
  obtain z|z:=a
  .rw[z];exact d b u e
  .exact d c _ z
theorem b_.tok(I:b_ X a_ σ H s)(t:Nat):b_ X a_ σ H {s with toks:=t}:=I.un Un.refl I.hok
theorem b_.kept(I:b_ X a_ σ H s)(k:∀b u,s.heap.get? b=U u->h'.get? b=U u):b_ X a_ σ H {s with heap:=h',toks:=t'}:=I.un (Un.kept k)<|I.hok.kept k
theorem b_.laid{a:T8}{o:HO}{t':Nat}(I:b_ X a_ σ H s)(k:∀b u,s.heap.get? b=U u->h'.get? b=U u)(c:s.heap.objs.size<=a)(D:b6 X.prog X.w (upd H a o) h' a o):
  b_ X a_ σ (upd H a o) {s with heap:=h',toks:=t'}:=I.un (Un.laid k c<|I.hok.fresh c)<|I.hok.laid k c D
theorem b_.write(I:b_ X a_ σ H s)(mu:Mut<|H x)(c:e=x\/H e=U (.own x))(k:∀b u,b≠e->s.heap.get? b=U u->h'.get? b=U u)(a:∃u,h'.get? e=U u)
  (D:b6 X.prog X.w (upd H x o) h' x o):b_ X a_ σ (upd H x o) {s with heap:=h',toks:=d}:=I.un (Un.write mu c k a)<|I.hok.write mu c k a D
theorem b_.pins_of(I:b_ X a_ σ H s)(h:∀p∈pins',s.heap.get? p.1=U p.2/\H p.1=Y/\p.1≠X.env.locals/\p.1∉X.fs/\∀v,p.2.data≠ .cell v):b_ X pins' σ H s:=
 ⟨I.ok,I.os,I.bare,I.base,I.loc,I.cell,I.free,I.freeC,λp a=>(Vr.mp a).elim (λz=>I.pin p<|Xa _ z)<|h p,I.hok,I.len⟩
theorem xX{N:a0i}(c:N.Nodup){i j:Nat}{x:U3}(a:N[i]?=U x)(b:N[j]?=U x):i=j:=by
 obtain⟨f,d⟩:=Ui.mp a;obtain⟨g,e⟩:=Ui.mp b;exact(List.getElem_inj c).mp<|d.trans e.symm
theorem oJ{M:Model}{E:a0f}(I:b_ X a_ σ H s)(hN:X.N.Nodup)(L:X.N[i]?=U x)(G:Iv X.env.scope x)(r:aY v u)
  (h:∀S,b_ X a_ (σ.set i<|U v) H S->(∃a,UU a s.heap S.heap/\(a=X.env.locals\/X.env.cells.lookup x=U a))->Q () S) (hf:autoParam (b0d X x) xy):Us M A (storeName X.env x u) Q E s:=by
 obtain⟨m,V,hl⟩:=id I.loc;have ek:(X.env.scope.kind== .class||(X.env.scope.kind== .module&&X.env.locals !=X.env.globals))=T4:=by rw[I.ok.kind];rfl
 have B:i<σ.length:=by rw[I.len];exact(Ui.mp L).1
 have K:=I.cne;have f:∀{a:T8} {h':Vl},(∃o,s.heap.get? a=U o/\H a=Y)->UU a _ h'->lw _ _ H h':=λ{a h'} ha D b ob e=>by
  obtain⟨_,_,l⟩:=ha;refine(I.hok b ob e).stay (λc W hc q=>(D.2 c ?_).trans q) (λ_ q=>q) λ_ _ q=>q;rintro rfl;obtain rfl|hc:=hc
  .rw[l]at e;cases e
  .rw[l]at hc;cases hc
 obtain hk|hk:=G
 .refine wpAny_storeName_local hk V (λh' w D=>?_) ek
  obtain⟨oL,_,_,aa,_⟩:=id V;refine h _ ⟨I.ok,I.os,I.bare,⟨λb o e n C G=>?_,λb o e n C G=>?_,I.base.free,λb o e G=>?_,I.base.tups,I.base.frzs,I.base.tbls⟩,⟨_,w,λj y v' g t e3=>?_⟩,λy c e=>?_,I.free,I.freeC,λp hp=>?_,f ⟨oL,aa,I.free⟩ D,by simpa using I.len⟩ ⟨_,D,.inl Z⟩
  .exact(D.2 b<|U7<|UN (UJ e) I.ok.above).trans (I.base.keep b o e n C G)
  .obtain⟨sl,g⟩:=I.base.slot b o e n C G
   exact⟨sl,(D.2 b<|U7<|UN (UJ e) I.ok.above).trans g⟩
  .obtain⟨o',g⟩:=I.base.there b o e G
   exact⟨o',(D.2 b<|U7<|UN (UJ e) I.ok.above).trans g⟩
  .by_cases F:j=i
   .subst F
    rw[L]at g;cases g;rw[List.getElem?_set_self B]at t;cases t;exact⟨u,r,.inl ⟨hk,nl⟩⟩
   .rw[List.getElem?_set_ne<|Ne.symm F]at t
    obtain⟨u',r',q⟩:=hl j y v' g t e3;refine⟨u',r',?_⟩;obtain⟨k,e⟩|⟨k,c,e,z⟩:=q
    .refine .inl ⟨k,?_⟩
     have:y≠x:=λe=>F<|xX hN g<|e▸L;simp[this,e]
    .exact .inr ⟨k,c,e,z.sameBut D<|K y c e⟩
  .obtain⟨W,z⟩:=I.cell y c e
   exact⟨W,z.sameBut D<|K y c e⟩
  .obtain⟨e,n,ne,nf,d⟩:=I.pin p hp
   exact⟨(D.2 _ ne).trans e,n,ne,nf,d⟩
 .have J:X.fn x=O:=by
   obtain z|z:=hf
   .exact z
   .rw[z]at hk;cases hk
  obtain⟨c,hc⟩:=I.ok.has x<|.inl hk;obtain⟨W,z⟩:=I.cell x c hc;refine wpAny_storeName_cell I.ok.kind hk hc z (λh' P D=>?_);obtain⟨oc,R,T⟩:=id z;refine h {s with heap:=h'} ⟨I.ok,I.os,I.bare,⟨λb o e n C G=>?_,λb o e n C G=>?_,I.base.free,λb o e G=>?_,I.base.tups,I.base.frzs,I.base.tbls⟩,⟨m,V.sameBut D<|Ne.symm<|K x c hc,λj y v' g t e3=>?_⟩,λy cb e=>?_,I.free,I.freeC,λp hp=>?_,f ⟨oc,R,I.freeC x c hc⟩ D,by simpa using I.len⟩ ⟨c,D,.inr hc⟩
  .exact(D.2 b<|U7<|UN (UJ e)<|I.ok.cab x c J hc).trans (I.base.keep b o e n C G)
  .obtain⟨sl,g⟩:=I.base.slot b o e n C G
   exact⟨sl,(D.2 b<|U7<|UN (UJ e)<|I.ok.cab x c J hc).trans g⟩
  .obtain⟨o',g⟩:=I.base.there b o e G
   exact⟨o',(D.2 b<|U7<|UN (UJ e)<|I.ok.cab x c J hc).trans g⟩
  .by_cases F:j=i
   .subst F
    rw[L]at g;cases g;rw[List.getElem?_set_self B]at t;cases t;exact⟨u,r,.inr ⟨.inl hk,c,hc,P⟩⟩
   .rw[List.getElem?_set_ne<|Ne.symm F]at t
    obtain⟨u',r',q⟩:=hl j y v' g t e3;refine⟨u',r',?_⟩;obtain q|⟨k,cb,e,z'⟩:=q
    .exact .inl q
    .refine .inr ⟨k,cb,e,z'.sameBut D ?_⟩
     rintro rfl;exact F<|xX hN g<|I.ok.inj _ _ _ e hc▸L
  .by_cases f5:cb=c
   .subst f5;exact⟨_,P⟩
   .obtain⟨w2,z2⟩:=I.cell y cb e
    exact⟨w2,z2.sameBut D f5⟩
  .obtain⟨e,n,ne,nf,d⟩:=I.pin p hp
   refine⟨(D.2 _ ?_).trans e,n,ne,nf,d⟩;intro q;rw[q,R]at e;exact d W (by rw[<-(UR e)];exact T)
theorem jM{M:Model}{E:a0f}(I:b_ X a_ σ H s)(a:X.N.Nodup)(b:X.N[i]?=U x)(G:Iv X.env.scope x)(r:aY v u)
  (h:∀D,b_ X a_ (σ.set i<|U v) H D->Q () D) (c:autoParam (b0d X x) xy):Us M A (storeName X.env x u) Q E s:=
 oJ I a b G r (λD d _=>h D d) c
theorem b_.call'{s':Uj}{ch:a0r}(I:b_ X a_ σ H s)(d:s'.os=s.os)(u:Un (io X.stack) ch H R s.heap s'.heap)(D:lw X.prog X.w R s'.heap)(f:ZB s'.gens)
  (a:∀b∈ch,(b∈X.ex\/X.s₀.heap.objs.size<=b)/\b≠X.env.locals/\(∀x c,X.env.cells.lookup x=U c->c≠b)/\∀p∈X.pn++a_,p.1≠b):b_ X a_ σ R s':=by
 obtain⟨h',g',d',t',g⟩:=s';have e:=d;subst e;exact I.call u D f a
abbrev XK:=Uc->a0U->Hp->Prop
abbrev St:=List<|Option V
abbrev a0u:=St->XK
abbrev a0H:=St->Hp->Prop
abbrev VK:=V->Hp->Prop
abbrev a0J:=a0k->Hp->VK->Prop
abbrev a0K:=V->a0k->Hp->VK->Prop
abbrev TE:=St->Hp->VK->Prop
abbrev TT:=St->Hp->(Bool->Hp->Prop)->Prop
abbrev TA:=St->Hp->(a0k->Hp->Prop)->Prop
structure si where
 nx:St->Hp->Prop
 rt:VK
 bk:St->Hp->Prop:=λ_ _=>False
 ct:St->Hp->Prop:=λ_ _=>False
abbrev TS:=si->St->Hp->Prop
def EP(X:Cx)(a_:a0d)(σ:St)(Q:VK)(u:Uc)(s:Uj):Prop:=∃v R,b_ X a_ σ R s/\aY v u/\Q v R
def TP(X:Cx)(a_:a0d)(σ:St)(Q:a0V)(b:Bool)(s:Uj):Prop:=∃R,b_ X a_ σ R s/\Q b R
def AP(X:Cx)(a_:a0d)(σ:St)(Q:a0k->Hp->Prop)(D:a0g)(E:Uj):Prop:=∃s R,b_ X a_ σ R E/\aE s D/\Q s R
def SP(X:Cx)(a_:a0d)(D:si)(f:Flow)(s:Uj):Prop:=
 match f with
 | .next=>∃a R,b_ X a_ a R s/\D.nx a R
 | .brk=>∃a R,b_ X a_ a R s/\D.bk a R
 | .cont=>∃a R,b_ X a_ a R s/\D.ct a R
 | .ret u=>∃v a R,b_ X a_ a R s/\aY v u/\D.rt v R
def PE(X:Cx)(e:Expr)(t:TE):Prop:=
 ∀(a_:a0d) (s:Uj) (σ:St) (H:Hp) (Q:VK),b_ X a_ σ H s->t σ H Q->Us (UP X.prog X.w) X.A (Vv e X.env) (EP X a_ σ Q) X.xe s
def PT(X:Cx)(e:Expr)(t:TT):Prop:=
 ∀(a_:a0d) (s:Uj) (σ:St) (H:Hp) (Q:a0V),b_ X a_ σ H s->t σ H Q->Us (UP X.prog X.w) X.A (isTrue e X.env<|Vv e X.env) (TP X a_ σ Q) X.xe s
def PW(X:Cx)(e:Expr)(t:TT):Prop:=
 ∀(a:Sem Uc) (a_:a0d) (s:Uj) (σ:St) (H:Hp) (Q:a0V),b_ X a_ σ H s->t σ H Q->Us (UP X.prog X.w) X.A (isTrue e X.env a) (TP X a_ σ Q) X.xe s
theorem PW.pt{X:Cx}(h:PW X e t):PT X e t:=h _
def PA(X:Cx)(D:List Expr)(t:TA):Prop:=
 ∀(pos:Xp) (a_:a0d) (s:Uj) (σ:St) (H:Hp) (Q:a0k->Hp->Prop),b_ X a_ σ H s->t σ H Q->Us (UP X.prog X.w) X.A (spliced<|WD pos<|Uu D X.env) (AP X a_ σ Q) X.xe s
def PS(X:Cx)(E:Va)(t:TS):Prop:=
 ∀(a_:a0d) (s:Uj) (σ:St) (H:Hp) (D:si),b_ X a_ σ H s->t D σ H->Us (UP X.prog X.w) X.A (exec E X.env) (SP X a_ D) X.xe s
def PSs(X:Cx)(E:a0R)(t:TS):Prop:=
 ∀(a_:a0d) (s:Uj) (σ:St) (H:Hp) (D:si),b_ X a_ σ H s->t D σ H->Us (UP X.prog X.w) X.A (execs E X.env) (SP X a_ D) X.xe s
theorem ee{D:Type}{t:Sem D}{Q b:D->Uj->Prop}{M:Model}{A:Vn}{E:a0f}{s:Uj}(h:Us M A t Q E s)(c:∀a s,Q a s->b a s):Us M A t b E s:=Vt h c λ_ _ x=>x
def lM(i:Nat):TE:=λσ H Q=>∃v,σ[i]?=U (U v)/\Q v H
def tC(v:V):TE:=λ_ H Q=>Q v H
theorem Qg{pos:Xp}(g:X.N[i]?=U x)(j:Vis X.env.scope x)(D:autoParam (b0c x) qX)(d:autoParam ((x==("__classdict__":U3))=T4) qX):PE X (.Name x pos) (lM i):=by
 intro a_ s σ H Q I h;obtain⟨v,e,h⟩:=h;obtain⟨m,E,k⟩:=I.loc;obtain⟨u,r,l⟩:=k i x v g e j;have b:EP X a_ σ Q u s:=⟨v,H,I,r,h⟩;obtain⟨hk,G⟩|⟨hk,c,f,a⟩:=l
 .exact wpAny_Name (wpAny_loadName_local I.ok.kind hk E G b) D
 .obtain hk|hk:=hk
  .exact wpAny_Name (wpAny_loadName_cell I.ok.kind hk f a b) D
  .exact wpAny_Name (wpAny_loadName_free I.ok.kind hk f a b d) D
theorem cr{i j pos}:PE X (.Constant (.int i) j pos) (tC<|.int i):=λ_ _ _ H _ I h=>wpAny_Constant_int ⟨.int i,H,I.tok _,⟨_,Z⟩,h⟩
theorem Sw{b j pos}:PE X (.Constant (.bool b) j pos) (tC<|.bl b):=λ_ _ _ H _ I h=>Constant_bool ⟨.bl b,H,I,Z,h⟩
theorem Ql{j pos}:PE X (.Constant .none j pos) (tC .non):=λ_ _ _ H _ I h=>Constant_none ⟨.non,H,I,Z,h⟩
theorem Qi{x j pos}:PE X (.Constant (.str x) j pos) (tC<|.str x):=λ_ _ _ H _ I h=>Calls.Constant_str ⟨.str x,H,I.tok _,⟨_,Z⟩,h⟩
def Gl(X:Cx)(x:U3):Prop:=X.env.kindOf x=U .globalImplicit
theorem uS{E:a0f}{a_:a0d}{s:Uj}{σ:St}{H:Hp}{pos:Xp}(I:b_ X a_ σ H s)(a:Gl X x)(D:X.mg x=U u)(h:Q u s)
  (G:autoParam (b0c x) qX):Us (UP X.prog X.w) X.A (Vv (.Name x pos) X.env) Q E s:=
 Calls.Name_function_global I.ok.kind a (Calls.loadGlobal_global (by rw[I.ok.glob];exact I.mod.glob.keeps I.bk) D h) G
theorem gE{E:a0f}{a_:a0d}{s:Uj}{σ:St}{H:Hp}{pos:Xp}(I:b_ X a_ σ H s)(a:Gl X x)(D:X.mg x=Y)(b:XN x=U u)(h:Q u s)
  (G:autoParam (x≠"__name__") qX) (K:autoParam (b0c x) qX):Us (UP X.prog X.w) X.A (Vv (.Name x pos) X.env) Q E s:=by
 obtain⟨e,c,d⟩:=I.mod.blt;exact Calls.Name_function_global I.ok.kind a (Calls.loadGlobal_builtin (by rw[I.ok.glob];exact I.mod.glob.keeps I.bk) D (by rw[I.ok.blt];exact c.keeps I.bk) ((d x G).trans b) h) K
theorem Of{pos:Xp}(a:Gl X x)(s:X.mg x=U u)(r:aY v u)(D:autoParam (b0c x) qX):PE X (.Name x pos) (tC v):=
 λ_ _ _ H _ I h=>uS I a s ⟨v,H,I,r,h⟩ D
theorem dU{pos:Xp}(a:Gl X x)(s:X.mg x=Y)(b:XN x=U u)(r:aY v u)(D:autoParam (x≠"__name__") qX)(E:autoParam (b0c x) qX):PE X (.Name x pos) (tC v):=
 λ_ _ _ H _ I h=>gE I a s b ⟨v,H,I,r,h⟩ D E
variable{a b:Expr}{m l:TE}{pos:Xp}
variable{k o:TT}{j:List Expr}
def tOr(t u:TT):TT:=λσ H Q=>t σ H λc d=>if c=O then Q O d else u σ d Q
def tNot(t:TT):TT:=λσ H Q=>t σ H λc d=>Q (!c) d
theorem P9(b:PT X a k):PW X (.BoolOp .Or [a] pos) k:=by
 refine λd a_ s σ H Q I h=>isTrue_or<|ee (b a_ s σ H Q I h) λc f e=>?_;cases c with
 |false=>exact isTrue_or_nil e
 |true=>exact e
theorem Ss(m:PT X a k)(f:PW X (.BoolOp .Or (b::j) pos) o):PW X (.BoolOp .Or (a::b::j) pos) (tOr k o):=by
 refine λg a_ s σ H Q I h=>isTrue_or<|ee (m a_ s σ H _ I h) λc i ⟨d,e,l⟩=>?_;cases c with
 |true=>exact⟨d,e,l⟩
 |false=>exact f g a_ i σ d Q e l
theorem Qb(b:PT X a k):PT X (.UnaryOp .Not a pos) (tNot k):=by
 exact λa_ s σ H Q I h=>isTrue_not<|b a_ s σ H _ I h
def Sb(m l:TE):TE:=λσ H Q=>m σ H λx d=>∃c,x= .bl c/\if c=O then l σ d Q else Q (.bl T4) d
theorem Qo(o:PE X a m)(f:PE X (.BoolOp .And (b::j) pos) l):PE X (.BoolOp .And (a::b::j) pos) (Sb m l):=by
 refine λa_ s σ H Q I h=>BoolOp_and<|ee (o a_ s σ H _ I h) λv g ⟨x,d,e,D,k⟩=>?_;obtain⟨c,rfl,k⟩:=k;cases D;apply VE;cases c with
 |true=>exact f a_ g σ d Q e k
 |false=>exact⟨.bl T4,d,e,Z,k⟩
def tIf(t:TT)(m l:TE):TE:=λσ H Q=>t σ H λc d=>if c=O then m σ d Q else l σ d Q
theorem Lw(i:PT X c k)(D:PE X a m)(j:PE X b l):PE X (.IfExp c a b pos) (tIf k m l):=by
 refine λa_ s σ H Q I h=>wpAny_IfExp<|ee (i a_ s σ H _ I h) λd e ⟨f,g,o⟩=>?_;cases d with
 |true=>exact D a_ e σ f Q g o
 |false=>exact j a_ e σ f Q g o
def fy(K:UA)(H:Hp)(a:T8)(xs:a0k):Prop:=
 Rd H a (.lst xs)\/
  ∃(o:Vy) (b:a0E) (n:Nat),K.lookup a=U o/\o.cls= .type "list"/\o.dict=Y/\o.data= .seq b n/\b.size<=UC/\aE xs b.toList
def i0(K:UA)(H:Hp)(a:T8)(j:a0k):Prop:=
 Rd H a (.tup j)\/
  ∃(o:Vy) (b:a0E) (n:Nat),K.lookup a=U o/\o.cls= .type "tuple"/\o.data= .seq b n/\b.size<=UC/\aE j b.toList
noncomputable def absV:Uc->Option V
 | .none=>U .non
 | .bool b=>U<|.bl b
 | .int i _=>U<|.int i
 | .str x _=>U<|.str x
 | .ref a=>U<|.ref a
 | .type n=>U<|.ty n
 |_=>Y
theorem aY.abs(r:aY x u):absV u=U x:=by
 cases x with
 |non=>cases r;rfl
 |bl _=>cases r;rfl
 |int _=>obtain⟨t,rfl⟩:=r;rfl
 |str _=>obtain⟨t,rfl⟩:=r;rfl
 |ref _=>cases r;rfl
 |ty _=>cases r;rfl
theorem aY.inj(r:aY x u)(q:aY y u):x=y:=UR<|r.abs.symm.trans q.abs
theorem aE.inj:∀{a b:a0k} {j:a0g},aE a j->aE b j->a=b
 |_,_,_,.nil,.nil=>rfl
 |_,_,_,.cons r t,.cons r' t'=>by rw[r.inj r',aE.inj t t']
end
section
variable{X:Cx}{a_:a0d}{σ:St}{H:Hp}{s:Uj}{a:T8}{xs ys:a0k}
theorem fy.of{K:UA}(h:H a=U (.lst xs)):fy K H a xs:= .inl<|.inl h
theorem b_.list(I:b_ X a_ σ H s)(h:fy X.K H a xs):∃its:a0g,aE xs its/\PlainL s.heap a its.toArray/\xs.length<=UC:=by
 obtain h|⟨o,its,n,b,c,D,E,d,r⟩:=h
 .obtain⟨z,its,n,r,e⟩:=h.ok I.hok
  exact⟨its,r,⟨_,n,e,Z,Z,Z⟩,z⟩
 .refine⟨its.toList,r,⟨o,n,I.kIn a o b,c,D,by exact E⟩,?_⟩
  have e:=r.length;simp only[UO]at e;lia
theorem b_.tuple(I:b_ X a_ σ H s)(h:i0 X.K H a xs):∃D:a0g,aE xs D/\IsTup s.heap a D.toArray/\xs.length<=UC:=by
 obtain h|⟨o,D,n,b,c,E,d,r⟩:=h
 .obtain⟨z,D,r,p⟩:=h.ok I.hok
  exact⟨D,r,p,z⟩
 .refine⟨D.toList,r,⟨o,I.kIn a o b,c,n,by exact E⟩,?_⟩
  have e:=r.length;simp only[UO]at e;lia
theorem b_.list_inj(I:b_ X a_ σ H s)(h:fy X.K H a xs)(M:fy X.K H a ys):xs=ys:=by
 obtain⟨E,r,⟨o,n,e,_,_,d⟩,_⟩:=I.list h;obtain⟨D,c,⟨f,g,b,_,_,G⟩,_⟩:=I.list M;rw[e]at b;cases b;rw[d]at G
 injection G with S _
 have:E=D:=by exact U6 Array.toList S
 subst this;exact r.inj c
theorem b_.tuple_inj(I:b_ X a_ σ H s)(h:i0 X.K H a xs)(M:i0 X.K H a ys):xs=ys:=by
 obtain⟨E,r,⟨o,e,_,n,d⟩,_⟩:=I.tuple h;obtain⟨D,c,⟨f,b,_,g,G⟩,_⟩:=I.tuple M;rw[e]at b;cases b;rw[d]at G
 injection G with S _
 have:E=D:=by exact U6 Array.toList S
 subst this;exact r.inj c
noncomputable abbrev Cx.wish(X:Cx)(E:a0f):Cx:={X with xe:=E}
noncomputable abbrev Cx.nox(X:Cx):Cx:=X.wish λ_ _=>False
theorem Cx.Ok.wish{X:Cx}(a:X.Ok)(E:a0f):(X.wish E).Ok:=
 ⟨a.mod,a.kind,a.glob,a.blt,a.above,a.inj,a.has,a.cab,a.hd,a.frames,a.stk,a.exf,a.bs,a.bsz,a.noex,a.exfs,a.funs,a.frf⟩
theorem Cx.Ok.unwish{X:Cx}{E:a0f}(a:(X.wish E).Ok):X.Ok:=
 ⟨a.mod,a.kind,a.glob,a.blt,a.above,a.inj,a.has,a.cab,a.hd,a.frames,a.stk,a.exf,a.bs,a.bsz,a.noex,a.exfs,a.funs,a.frf⟩
variable{E:a0f}
theorem b_.wish(I:b_ X a_ σ H s)(E:a0f):b_ (X.wish E) a_ σ H s:=⟨I.ok.wish E,I.os,I.bare,I.base,I.loc,I.cell,I.free,I.freeC,I.pin,I.hok,I.len⟩
theorem b_.unwish(I:b_ (X.wish E) a_ σ H s):b_ X a_ σ H s:=⟨I.ok.unwish,I.os,I.bare,I.base,I.loc,I.cell,I.free,I.freeC,I.pin,I.hok,I.len⟩
theorem SP.unwish{D:si}(h:SP (X.wish E) a_ D f d):SP X a_ D f d:=by
 cases f with
 |next=>obtain⟨b,c,I,q⟩:=h;exact⟨b,c,I.unwish,q⟩
 |brk=>obtain⟨b,c,I,q⟩:=h;exact⟨b,c,I.unwish,q⟩
 |cont=>obtain⟨b,c,I,q⟩:=h;exact⟨b,c,I.unwish,q⟩
 |ret u=>obtain⟨v,b,c,I,r,q⟩:=h;exact⟨v,b,c,I.unwish,r,q⟩
theorem PSs.nox{a:a0R}(h:PSs X.nox a t):PSs X a t:=λa_ s σ H D I b=>
 Vt (h a_ s σ H D (I.wish _) b) (λ_ _ q=>q.unwish) λ_ _ z=>WZ z
variable{f5:Va}{rest:a0R}{t u:TS}{e:Expr}{a:TE}{pos:Xp}
noncomputable def R9:TS:=λD σ H=>D.nx σ H
def tSeq(t u:TS):TS:=λD σ H=>t {D with nx:=u D} σ H
theorem uK:PSs X [] R9:=λ_ _ σ H _ I h=>wpAny_execs_nil ⟨σ,H,I,h⟩
theorem dj(c:PS X f5 t)(d:PSs X rest u):PSs X (f5::rest) (tSeq t u):=by
 refine λa_ s σ H D I h=>wpAny_execs_cons<|ee (c a_ s σ H {D with nx:=u D} I h) λf g q=>?_;cases f with
 |next=>
  obtain⟨b,i,j,q⟩:=q;exact d a_ g b i D j q
 |ret v=>exact q
 |brk=>exact q
 |cont=>exact q
theorem mz(b:PS X f5 t):PSs X [f5] t:=by
 refine λa_ s σ H D I h=>wpAny_execs_cons<|ee (b a_ s σ H D I h) λf c q=>?_;cases f with
 |next=>exact wpAny_execs_nil q
 |ret v=>exact q
 |brk=>exact q
 |cont=>exact q
theorem b_.quiet{a_:a0d}{σ:St}{H:Hp}{s:Uj}(I:b_ X a_ σ H s):interactive X.env=T4:=by simp[interactive,I.ok.kind]
def wA(a:TE):TS:=λD σ H=>a σ H λ_ b=>D.nx σ b
theorem cc(b:PE X e a)(t:autoParam (Zc e Y pos.line X.env=Wo T4) qQ):PS X (.Expr e pos) (wA a):=by
 exact λa_ s σ H D I h=>wpAny_Expr_any (ee (b a_ s σ H _ I h) λv f ⟨x,c,d,E,u⟩=>⟨σ,c,d,u⟩) I.quiet t
def uy(a:TE):TS:=λD σ H=>a σ H D.rt
theorem aq(b:PE X e a):PS X (.Return (U e) pos) (uy a):=by
 exact λa_ s σ H D I h=>wpAny_Return_some<|ee (b a_ s σ H _ I h) λv f ⟨x,c,d,t,u⟩=>⟨x,σ,c,d,t,u⟩
def tIfS(c:TT)(t u:TS):TS:=λD σ H=>c σ H λb d=>if b=O then t D σ d else u D σ d
theorem M4{a b:a0R}(j:PT X c tc)(E:PSs X a t)(k:PSs X b u):PS X (.If c a b pos) (tIfS tc t u):=by
 refine λa_ s σ H D I h=>wpAny_If<|ee (j a_ s σ H _ I h) λd f ⟨g,i,e⟩=>?_;cases d with
 |true=>exact E a_ f σ g D i e
 |false=>exact k a_ f σ g D i e
abbrev TG:=V->St->Hp->(St->Hp->Prop)->Prop
abbrev TGs:=a0k->St->Hp->(St->Hp->Prop)->Prop
def PG(X:Cx)(b:Expr)(t:TG):Prop:=
 ∀(a_:a0d) (s:Uj) (σ:St) (H:Hp) (v:V) (u:Uc) (Q:a0H),b_ X a_ σ H s->aY v u->t v σ H Q->
  Us (UP X.prog X.w) X.A (Zu b X.env u) (λ_ a=>∃c d,b_ X a_ c d a/\Q c d) X.xe s
def PGs(X:Cx)(d:List Expr)(t:TGs):Prop:=
 ∀(a_:a0d) (s:Uj) (σ:St) (H:Hp) (a:a0k) (e:a0g) (Q:a0H),b_ X a_ σ H s->aE a e->t a σ H Q->
  Us (UP X.prog X.w) X.A (assignInOrder ((assignEach d X.env).map (·.2)) e) (λ_ u=>∃b c,b_ X a_ b c u/\Q b c) X.xe s
abbrev MB:=V->V->V->Hp->(Hp->Prop)->Prop
def MC(X:Cx)(t:MB):Prop:=
 ∀(a_:a0d) (s:Uj) (σ:St) (H:Hp) (o i v:V) (b c u:Uc) (Q:Hp->Prop),b_ X a_ σ H s->aY o b->aY i c->aY v u->t o i v H Q->
  Us (UP X.prog X.w) X.A (setItem b c u) (λ_ a=>∃d,b_ X a_ σ d a/\Q d) X.xe s
abbrev TIp:=V->V->Hp->VK->Prop
def PIp(X:Cx)(a:Operator)(t:TIp):Prop:=
 ∀(a_:a0d) (s:Uj) (σ:St) (H:Hp) (x y:V) (v u:Uc) (Q:VK),b_ X a_ σ H s->aY x v->aY y u->t x y H Q->
  Us (UP X.prog X.w) X.A (inplaceOp a v u) (EP X a_ σ Q) X.xe s
def d7(i:Nat):TG:=λv σ H Q=>Q (σ.set i<|U v) H
theorem zR(b:X.N.Nodup)(c:X.N[i]?=U x)(a:Iv X.env.scope x)(d:autoParam (b0d X x) xy):PG X (.Name x pos) (d7 i):=by
 exact λa_ s σ H v u Q I r h=>wpAny_assign_Name<|jM I b c a r (λe f=>⟨_,H,f,h⟩) d
noncomputable def gNil:TGs:=λa σ H Q=>a=[]/\Q σ H
def ED(t:TG)(u:TGs):TGs:=λa σ H Q=>∃v r,a=v::r/\t v σ H λb c=>u r b c Q
theorem bo:PGs X [] gNil:=by
 intro a_ s σ H a t Q I r h;obtain⟨e,h⟩:=h;subst e;exact assignInOrder_nil ⟨σ,H,I,h⟩
theorem ar{e:Expr}{t:TG}{u:TGs}(c:PG X e t)(d:PGs X m u)
  (a:autoParam ((assignEach (e::m) X.env).map (·.2)=Zu e X.env::(assignEach m X.env).map (·.2)) qQ):PGs X (e::m) (ED t u):=by
 intro a_ s σ H E G Q I r h;obtain⟨v,l,f,h⟩:=h;subst f;cases r with
 |cons r g=>
  rw[a];exact assignInOrder_cons<|ee (c a_ s σ H _ _ _ I r h) λ_ i ⟨b,j,k,D⟩=>(d a_ i b j _ _ Q k g D)
def Me(K:UA)(n:Nat)(t:TGs):TG:=λv σ H Q=>∃a xs,v= .ref a/\i0 K H a xs/\xs.length=n/\t xs σ H Q
theorem bB{t:TGs}(g:X.calm=O)(h:PGs X w t)
  (D:autoParam ((assignEach w X.env).length=n) qQ) (c:autoParam ((assignEach w X.env).findIdx? (·.1)=Y) qQ):PG X (.Tuple w k pos) (Me X.K n t):=by
 intro a_ s σ H v u Q I r d;obtain⟨a,xs,i,j,l,d⟩:=d;subst i;cases r;obtain⟨E,f,m,q⟩:=I.tuple j;refine assign_Tuple_tuple (I.ok.hd g) m (by simp[D,<-l,f.length]) c λG M=>?_;exact h a_ _ σ H xs _ Q (I.kept (t':=s.toks) λb o e=>M b o (U7<|UJ e) e) (by exact f) d
def Mf(a b:TE)(t:MB):TG:=λv σ H Q=>a σ H λo c=>b σ c λi d=>t o i v d λf=>Q σ f
theorem gC{t:MB}(d:PE X o to)(f:PE X i z)(a:MC X t)
  (e:autoParam (∀v,Zu (.Subscript o i pos) X.env v=(do
   let b <-YY [v] (Vv o X.env)
   let c <-YY [v,b] (Vv i X.env)
   Yp pos
   YY [v,b,c] (setItem b c v)
   release [v,b,c] [])) xz):PG X (.Subscript o i pos) (Mf to z t):=by
 intro a_ s σ H v u Q I r h;rw[e];exact My<|VB<|ee (d a_ s σ H _ I h) λb g ⟨x,j,k,D,E⟩=>(My<|VB<|ee (f a_ g σ j _ k E) λc l ⟨y,m,n,p,G⟩=>(My<|Wu<|My<|VB<|ee (a a_ l σ m x y v b c u _ n D p r G) λ_ A ⟨q,w,K⟩=>(wpAny_release ⟨σ,q,w,K⟩)))
def gr(a:TE)(g:TG):TS:=λD σ H=>a σ H λx b=>g x σ b D.nx
theorem eK{t e:Expr}{a:TE}(b:PE X e a)(c:PG X t g)(u:autoParam (swapsWithSole [t] e pos.line X.env=Wo T4) qQ)(d:autoParam (swappedStores [t] e X.env=Wo Y) qQ)
  (f:autoParam ((assignEach [t] X.env).map (·.2)=[Zu t X.env]) qQ):PS X (.Assign [t] e pos) (gr a g):=by
 refine λa_ s σ H D I h=>wpAny_Assign_stores (ee (b a_ s σ H _ I h) λv i ⟨x,j,k,E,G⟩=>?_) u d;rw[f];exact ee (c a_ i σ j x v _ k E G) λ_ l q=>q
theorem tj{e:Expr}{a:TE}(b:X.N.Nodup)(c:X.N[i]?=U x)(t:Iv X.env.scope x)(d:PE X e a)(u:autoParam (Zc e (U<|.Name x pos') pos.line X.env=Wo T4) qQ)(f:autoParam (b0d X x) xy):
  PS X (.Assign [.Name x pos'] e pos) (gr a<|d7 i):=by
 exact λa_ s σ H D I h=>wpAny_Assign_Name (ee (d a_ s σ H _ I h) λv l ⟨y,g,j,E,G⟩=>(jM j b c t E (λm k=>⟨_,g,k,G⟩) f)) u
def Ph(i j:Nat)(b:TA):TS:=λD σ H=>b σ H λa c=>∃v w,a=[v,w]/\D.nx ((σ.set i<|U v).set j<|U w) c
theorem Qc{a b:Expr}{kt k2 pt2}(B:X.calm=O)(m:X.N.Nodup)(C:X.N[i]?=U x)(F:X.N[j]?=U y)(g:i≠j)
  (u:X.env.scope.names.lookup x=U .local) (E:X.env.scope.names.lookup y=U .local) (G:PA X [a,b] z)
  (J:swappedStores [.Tuple [.Name x px,.Name y py] kt pt] (.Tuple [a,b] k2 pt2) X.env=Wo (U [x,y]))
  (K:autoParam (swapsWithSole [.Tuple [.Name x px,.Name y py] kt pt] (.Tuple [a,b] k2 pt2) pos.line X.env=Wo T4) qQ):
  PS X (.Assign [.Tuple [.Name x px,.Name y py] kt pt] (.Tuple [a,b] k2 pt2) pos) (Ph i j z):=by
 intro a_ s σ H D I h;refine My<|Wu ?_;refine My<|TZ ?_;refine My<|Tuple_<|ee (G _ a_ s σ H _ I h) λM c ⟨V,n,L,S,t⟩=>?_;obtain⟨v,w,cb,t⟩:=t;subst cb;obtain⟨d,f,rfl,P,k⟩:∃d f,M=[d,f]/\aY v d/\aY w f:=by
  cases S with
  |cons p q=>
   cases q with
   |cons Q R=>
    cases R;exact⟨_,_,Z,p,Q⟩
 refine U1 ?_ (by show 2<=UC;decide);rw[J];refine My<|TZ ?_;show Us _ _ _ _ _ _
 refine My<|Xm<|My<|unpackItems_tuple (items:=#[d,f]) (I.ok.hd B) (IsTup.new _ _) λh' l=>?_;have T:=(L.kept λb o e=>T1 _ e).kept (t':=c.toks) λb o e=>l b o (U7<|UJ e) e;refine My<|assignInOrder_cons<|wpAny_bindName<|jM T m F (.inl E) k (λf5 W=>(assignInOrder_cons<|wpAny_bindName<|jM W m C (.inl u) P (λA r=>assignInOrder_nil<|TZ ?_)<|.inr u))<|.inr E;rw[List.set_comm _ _<|Ne.symm g]at r;exact⟨_,n,r,t⟩
def Pp(i:Nat)(a:TE)(b:TIp):TS:=λD σ H=>∃x,σ[i]?=U (U x)/\a σ H λy c=>b x y c λz d=>D.nx (σ.set i<|U z) d
theorem j4{e:Expr}{a:TE}(n:X.N.Nodup)(j:X.N[i]?=U x)(t:Iv X.env.scope x)(o:PE X e a)(p:PIp X op cb)(q:autoParam (b0d X x) xy):
  PS X (.AugAssign (.Name x pos') op e pos) (Pp i a cb):=by
 intro a_ s σ H D I h;obtain⟨v,B,h⟩:=h;obtain⟨m,G,C⟩:=I.loc;have g:Vis X.env.scope x:=by obtain k|k:=t;exact .inl k;exact .inr (.inl k)
 obtain⟨u,r,l⟩:=C i x v j B g;apply wpAny_AugAssign_Name;have E:Us (UP X.prog X.w) X.A (Vv e X.env) (λw d=>Us (UP X.prog X.w) X.A (inplaceOp op u w) (λr f=>Us (UP X.prog X.w) X.A (storeName X.env x r) (λ_=>SP X a_ D .next) X.xe f) X.xe d) X.xe s:=by
  exact ee (o a_ s σ H _ I h) λw F ⟨y,J,L,K,M⟩=>(ee (p a_ F σ J v y u w _ L r K M) λz ek ⟨W,eH,P,Q,S⟩=>(jM P n j t Q (λf5 R=>⟨_,eH,R,S⟩) q))
 obtain⟨hk,V⟩|⟨hk,c,T,b⟩:=l
 .exact wpAny_loadName_local I.ok.kind hk G V E
 .obtain hk|hk:=hk
  .exact wpAny_loadName_cell I.ok.kind hk T b E
  .obtain k|k:=t
   .have:X.env.scope.names.lookup x=U _:=hk
    rw[k]at this;cases this
   .have:X.env.scope.names.lookup x=U _:=hk
    rw[k]at this;cases this
def ipI(f:a0M):TIp:=λx y H Q=>∃i j,x= .int i/\y= .int j/\Q (.int<|f i j) H
theorem JP:PIp X .Add (ipI λi j=>i+j):=by
 intro a_ s σ H x y v u Q I a b h;obtain⟨i,j,c,d,q⟩:=h;subst c;subst d;obtain⟨t,rfl⟩:=a;obtain⟨e,rfl⟩:=b;exact iadd_int ⟨.int _,H,I.tok _,⟨_,Z⟩,q⟩
def Pg(c:TT)(i:TS):TS:=λD σ H=>∃W:Nat->St->Hp->Prop,(∃m,W m σ H)/\∀m σ H,W m σ H->
 c σ H λb f=>if b=O then ∃N:St->Hp->Prop,(∀d g,N d g->∃h,h<m/\W h d g)/\i {D with nx:=N,ct:=N,bk:=D.nx} σ f else D.nx σ f
theorem Li(q:PassesOwn (UP X.prog X.w) X.A X.env X.xe)(J:PT X c tc)(L:PSs X body x):PS X (.While c body [] pos) (Pg tc x):=by
 intro a_ s σ H D I h;obtain⟨W,⟨ek,P⟩,i⟩:=h;refine wpAny_While<|codeAny_whileLoop (λn u=>∃j r,b_ X a_ j r u/\W n j r) ?_ ek ⟨σ,H,I,P⟩;rintro n Q ⟨g,y,R,T⟩;refine XS q<|ee (J a_ Q g y _ R<|i n g y T) λb cb ⟨B,C,a⟩=>?_;cases b with
 |true=>
  obtain⟨N,F,a⟩:=a;refine XS q<|ee (L a_ cb g B _ C a) λf f5 e=>?_;cases f with
  |next=>
   obtain⟨d,k,l,m⟩:=e;obtain⟨o,t,p⟩:=F d k m;exact⟨o,t,d,k,l,p⟩
  |cont=>
   obtain⟨d,k,l,m⟩:=e;obtain⟨o,t,p⟩:=F d k m;exact⟨o,t,d,k,l,p⟩
  |brk=>exact e
  |ret v=>exact e
 |false=>
  rw[Uh Uk];exact wpAny_execs_nil ⟨g,B,C,a⟩
structure It where
 go:Nat->Hp->Prop
 yld:Nat->Hp->V->Hp->Prop
 stop:Nat->Hp->Prop
def gy(X:Cx)(a_:a0d)(H:Hp)(b:T8):Prop:=
 H b=Y/\b≠X.env.locals/\b∉X.fs/\(b∈X.ex\/X.s₀.heap.objs.size<=b)/\(∀x c,X.env.cells.lookup x=U c->c≠b)/\∀p∈X.pn++a_,p.1≠b
theorem b_.fpOk{X:Cx}{a_:a0d}{σ:St}{H f:Hp}{s:Uj}{b:T8}(I:b_ X a_ σ H s)(d:s.heap.objs.size<=b)(a:f b=Y):gy X a_ f b:=by
 refine⟨a,WV<|UN I.lt d,I.nofs d,.inr<|Um I.sz d,λx c e z=>?_,λp g z=>?_⟩
 .obtain⟨v,q⟩:=I.cell x c e
  exact UG (UN q.lt<|by rw[z];exact d)<|Vq _
 .exact UG (UN (UJ (I.pin p g).1)<|by rw[z];exact d) (Vq _)
structure p3 (P:UT) (w:UY) (K:UA) (tg:Expr) (J:It) (fp:a0r) (it:T8) (tn:Nat->Vl->Prop):Prop where
 mem:it∈fp
 obj:∀i h,tn i h->∀b∈fp,∃o,h.get? b=U o/\∀v,o.data≠ .cell v
 keep:∀i h h',tn i h->(∀b∈fp,∀o,h.get? b=U o->h'.get? b=U o)->tn i h'
 item:∀(X:Cx),X.prog=P->X.w=w->X.K=K->X.calm=O->∀(i:Nat) (a_:a0d) (s:Uj) (σ:St) (H:Hp) (E:a0f),b_ X a_ σ H s->(∀b∈fp,gy X a_ H b)->tn i s.heap->J.go i H->
  Us (UP P w) X.A (X3<|.ref it) (λr s1=>∃u,r=U u/\
   Us (UP P w) X.A (Zy tg (.ref it) u) (λ_ s2=>∃x H',b_ X a_ σ H' s2/\aY x u/\J.yld i H x H'/\tn (i+1) s2.heap/\∀b∈fp,H' b=Y) E s1) E s
 done:∀(X:Cx),X.prog=P->X.w=w->X.K=K->X.calm=O->∀(i:Nat) (a_:a0d) (s:Uj) (σ:St) (H:Hp) (E:a0f),b_ X a_ σ H s->(∀b∈fp,gy X a_ H b)->tn i s.heap->J.stop i H->
  Us (UP P w) X.A (X3<|.ref it) (λr s1=>r=Y/\b_ X a_ σ H s1) E s
 self:∀(A:Vn) (i:Nat) (s:Uj) (Q:a0f) (E:a0f),tn i s.heap->Q (.ref it) s->Us (UP P w) A (pyIter<|.ref it) Q E s
abbrev TI:=St->Hp->(It->Hp->Prop)->Prop
def PIE(X:Cx)(a_:a0d)(σ:St)(e:Expr)(R:It->Hp->Prop)(c:Uc)(f:Uj):Prop:=
 ∃(a:T8) (g:a0r) (h:Nat->Vl->Prop) (J:It) (d:Hp),c= .ref a/\b_ X a_ σ d f/\p3 X.prog X.w X.K e J g a h/\h 0 f.heap/\(∀b∈g,gy X a_ d b)/\R J d
def PI(X:Cx)(a b:Expr)(c:TI):Prop:=
 ∀(a_:a0d) (s:Uj) (σ:St) (H:Hp) (R:It->Hp->Prop),b_ X a_ σ H s->c σ H R->
  Us (UP X.prog X.w) X.A (Vv b X.env) (λv d=>Us (UP X.prog X.w) X.A (pyIter v) (PIE X a_ σ a R) X.xe d) X.xe s
theorem wT{M:Model}{E:a0f}{s:Uj}{u:Uc}{o:Vy}(c:s.heap.get? f=U o)(d:o.cls= .type n)(a:o.data= .fields g)
  (e:["enumerate","zip","dict_itemiterator","dict_reverseitemiterator","odict_iterator","itertools.zip_longest","itertools.pairwise"].contains n=T4) (b:Q () s):Us M A (Zy i (.ref f) u) Q E s:=by
 unfold Zy;cases i<;>first
  |exact TZ b
  |(cases u<;>first
   |exact TZ b
   |(refine My (wpAny_load c ?_)
     rw[d,a];show Us M A (if(["enumerate","zip","dict_itemiterator","dict_reverseitemiterator","odict_iterator","itertools.zip_longest","itertools.pairwise"].contains n&&g[0]?==U _)=O then _ else _) Q E s;rw[Uh<|by intro h;rw[e,YB]at h;cases h];exact TZ b))
noncomputable def Itl(K:UA)(a:T8):It:=
 ⟨λi H=>∃xs x,fy K H a xs/\xs[i]?=U x,λi H x b=>b=H/\∀xs,fy K H a xs->xs[i]?=U x,λi H=>∃xs,fy K H a xs/\xs.length<=i⟩
noncomputable def Itt(K:UA)(a:T8):It:=
 ⟨λi H=>∃xs x,i0 K H a xs/\xs[i]?=U x,λi H x b=>b=H/\∀xs,i0 K H a xs->xs[i]?=U x,λi H=>∃xs,i0 K H a xs/\xs.length<=i⟩
noncomputable def Itr(a:Int)(n:Nat):It:=⟨λi _=>i<n,λi H x b=>b=H/\x= .int (a+i),λi _=>n<=i⟩
theorem vj{K:UA}(a t:T8):p3 P w K W (Itl K a) [t] t (λi h=>h.IsListIter t a i) where
 mem:=by simp
 obj:=λi h f5 b f=>by
  have e:b=t:=by simpa using f
  subst e;obtain⟨o,e,c,d⟩:=f5;exact⟨o,e,λv z=>by rw[d]at z;cases z⟩
 keep:=λi h D f5 k=>f5.at λo e=>k t (by exact .head _) o e
 item:=by
  intro X m n q J i a_ s σ H E I j f5 r;subst m n q;obtain⟨xs,x,l,G⟩:=r;obtain⟨M,y,p,L⟩:=I.list l;obtain⟨u,N,cb⟩:=y.get G;obtain⟨A,f1,f2,B,C,F⟩:=j t (by exact .head _);refine wpAny_pyNext_list_item f5 p.isList (by simpa using N) λD g Q=>?_;obtain⟨o,e,c,d⟩:=id g;exact⟨u,Z,wT e c d vy ⟨x,H,I.turned (t':=s.toks) (λb o f e=>(Q.2 b f).trans e) A f1 B C F,cb,⟨Z,λys S=>by rw[I.list_inj S l];exact G⟩,g,λb f=>(j b f).1⟩⟩
 done:=by
  intro X m n q J i a_ s σ H E I j f5 r;subst m n q;obtain⟨xs,l,G⟩:=r;obtain⟨M,y,p,L⟩:=I.list l;obtain⟨A,f1,f2,B,C,F⟩:=j t (by exact .head _);have R:=y.length;exact wpAny_pyNext_list_end (I.ok.hd J) f5 p.isList (by simp;lia) λD T=>⟨Z,I.turned (λb o f e=>T b o f e) A f1 B C F⟩
 self:=λ_ _ _ _ _ f5 h=>wpAny_pyIter_listiter f5 h
theorem BU{K:UA}(a t:T8):p3 P w K W (Itt K a) [t] t (λi h=>h.IsTupleIter t a i) where
 mem:=by simp
 obj:=λi h f5 b f=>by
  have e:b=t:=by simpa using f
  subst e;obtain⟨o,e,c,d⟩:=f5;exact⟨o,e,λv z=>by rw[d]at z;cases z⟩
 keep:=λi h G f5 k=>f5.at λo e=>k t (by exact .head _) o e
 item:=by
  intro X m n q J i a_ s σ H E I j f5 r;subst m n q;obtain⟨xs,x,l,M⟩:=r;obtain⟨D,y,p,L⟩:=I.tuple l;obtain⟨u,N,cb⟩:=y.get M;obtain⟨A,f1,f2,B,C,F⟩:=j t (by exact .head _);refine wpAny_pyNext_tuple_item f5 (show s.heap.IsTuple a _ from p) (by simpa using N) λG g Q=>?_;obtain⟨o,e,c,d⟩:=id g;exact⟨u,Z,wT e c d vy ⟨x,H,I.turned (t':=s.toks) (λb o f e=>(Q.2 b f).trans e) A f1 B C F,cb,⟨Z,λys S=>by rw[I.tuple_inj S l];exact M⟩,g,λb f=>(j b f).1⟩⟩
 done:=by
  intro X m n q J i a_ s σ H E I j f5 r;subst m n q;obtain⟨xs,l,M⟩:=r;obtain⟨D,y,p,L⟩:=I.tuple l;obtain⟨A,f1,f2,B,C,F⟩:=j t (by exact .head _);have R:=y.length;exact wpAny_pyNext_tuple_end (I.ok.hd J) f5 (show s.heap.IsTuple a _ from p) (by simp;lia) λG T=>⟨Z,I.turned (λb o f e=>T b o f e) A f1 B C F⟩
 self:=λ_ _ _ _ _ f5 h=>wpAny_pyIter_tupleiter f5 h
theorem BV{K:UA}(a:T8)(u:Int)(n:Nat):p3 P w K x (Itr u n) [a] a (λi h=>IsRangeIter h a (u+(i:Nat)*1) ((n:Int)-(i:Nat)) 1) where
 mem:=by simp
 obj:=λi h f5 b c=>by
  have e:b=a:=by simpa using c
  subst e;exact⟨_,f5,λv z=>by
   have C:=z;cases C⟩
 keep:=λi h D f5 k=>k a (by exact .head _) _ f5
 item:=by
  intro X g j l m i a_ s σ H E I f f5 p;subst g j l;obtain⟨q,f1,f2,r,y,A⟩:=f a nl;refine (Walks.range (prog:=X.prog) (w:=X.w) (I.ok.hd m) a u 1 n).item i s _ _ p f5 λv D B F d J=>?_;obtain⟨t,rfl⟩:=F;refine⟨_,Z,wT d Z Z vy ⟨.int<|u+i,H,I.turned (λb o c e=>J b o (by simpa using c) e) q f1 r y A,⟨t,?_⟩,⟨Z,Z⟩,d,λb c=>(f b c).1⟩⟩;rw[Int.mul_one]
 done:=by
  intro X g j l m i a_ s σ H E I f f5 p;obtain⟨q,f1,f2,r,y,A⟩:=f a nl;exact wpAny_pyNext_range_end (I.ok.hd m) f5 (by have:n<=i:=p;lia) λD N=>⟨Z,I.turned (λb o c e=>N b o c e) q f1 r y A⟩
 self:=λ_ _ _ _ _ f5 h=>wpAny_pyIter_rangeiter f5 h
variable{z:Expr}
def Ty(K:UA)(c:TE):TI:=λσ H R=>c σ H λx b=>∃a,x= .ref a/\(∃xs,fy K b a xs)/\R (Itl K a) b
theorem Ob(f:PE X l tl):PI X z l (Ty X.K tl):=by
 refine λa_ s σ H R I h=>ee (f a_ s σ H _ I h) λv c ⟨x,g,d,t,u⟩=>?_;obtain⟨a,e,⟨xs,i⟩,q⟩:=u;subst e;cases t;obtain⟨D,k,p,m⟩:=d.list i;apply Z3 p.isList;refine⟨c.heap.objs.size,[c.heap.objs.size],_,_,g,Z,d.kept λb o e=>T1 _ e,vj a _,⟨_,Ut _ Z,Z,Z⟩,λb j=>?_,q⟩;have e:b=c.heap.objs.size:=by simpa using j
 subst e;exact d.fpOk (Ug _)<|d.hok.fresh<|Ug _
theorem xM{a_:a0d}{σ:St}{H:Hp}{s:Uj}{E:a0f}{a c:Int}{t u v:Tok}(I:b_ X a_ σ H s)(f:-(2^62)<=a)(g:a<2^62)(h:-(2^62)<=c)(i:c<2^62)
  (q:R (Itr a (c-a).toNat) H):Us (UP X.prog X.w) X.A (pyIter<|.ref s.heap.objs.size) (PIE X a_ σ z R) E {s with heap:=s.heap.push {cls:= .type "range",data:= .fields #[.int a t,.int c u,.int 1 v]},toks:=m}:=by
 apply wpAny_pyIter_range (IsRange.new ..) (small_one f g h i);have d:b_ X a_ σ H {s with heap:=s.heap.push {cls:= .type "range",data:= .fields #[.int a t,.int c u,.int 1 v]},toks:=m}:=I.kept λb o e=>T1 _ e;refine⟨(s.heap.push {cls:= .type "range",data:= .fields #[.int a t,.int c u,.int 1 v]}).objs.size,[(s.heap.push {cls:= .type "range",data:= .fields #[.int a t,.int c u,.int 1 v]}).objs.size],_,_,H,Z,
  d.kept λb o e=>T1 _ e,BV _ a _,?_,λb j=>?_,q⟩
 .have k:a+((0:Nat):Int)*1=a:=by simp
  have l:(((c-a).toNat:Nat):Int)-((0:Nat):Int)=Y6 a c 1:=by rw[rangeSize_one];split<;>grind
  show IsRangeIter _ _ _ _ 1;rw[k,l];exact Ut _ Z
 .have e:b=(s.heap.push {cls:= .type "range",data:= .fields #[.int a t,.int c u,.int 1 v]}).objs.size:=by simpa using j
  subst e;exact d.fpOk (Ug _)<|d.hok.fresh<|Ug _
def Tw(b:TA):TI:=λσ H R=>b σ H λa c=>∃j:Int,a=[.int j]/\-(2^62)<=j/\j<2^62/\R (Itr 0 j.toNat) c
def Tv(b:TA):TI:=λσ H R=>b σ H λa c=>∃i j:Int,a=[.int i,.int j]/\(-(2^62)<=i/\i<2^62/\-(2^62)<=j/\j<2^62)/\R (Itr i (j-i).toNat) c
theorem HU{a:Expr}{p pos:Xp}(b:Gl X "range")(D:X.mg "range"=Y)(E:PA X [a] i)(G:autoParam (Uu [a] X.env=[(T4,Vv a X.env)]) qQ):PI X z (.Call (.Name "range" p) [a] [] pos) (Tw i):=by
 refine λa_ s σ H R I h=>Call_<|gE I b D boot_range<|VJ (ee (E _ a_ s σ H _ I h) λS f ⟨V,g,c,K,u⟩=>?_) G Z;obtain⟨j,e,u,M,q⟩:=u;subst e;cases K with
 |cons r d=>
  cases d;obtain⟨t,rfl⟩:=r;exact call_range_1 (xM c rk rk u M<|by simpa using q)
theorem HS{a b:Expr}{p pos:Xp}(f:Gl X "range")(D:X.mg "range"=Y)(E:PA X [a,b] n)(G:autoParam (Uu [a,b] X.env=[(T4,Vv a X.env),(T4,Vv b X.env)]) qQ)(c:autoParam (Uu [b] X.env=[(T4,Vv b X.env)]) qQ):
  PI X z (.Call (.Name "range" p) [a,b] [] pos) (Tv n):=by
 refine λa_ s σ H R I h=>Call_ (gE I f D boot_range<|VJ (ee (E _ a_ s σ H _ I h) λf5 l ⟨o,m,g,K,u⟩=>?_) (by rw[G,c])<|by rw[c];rfl);obtain⟨i,j,e,⟨u,M,S,V⟩,q⟩:=u;subst e;cases K with
 |cons r d=>
  cases d with
  |cons k d=>
   cases d;obtain⟨t,rfl⟩:=r;obtain⟨v,rfl⟩:=k;exact call_range_2<|xM g u M S V q
def CB(h:TI)(g:TG)(j:TS):TS:=λD σ H=>h σ H λJ k=>∃W:Nat->Nat->St->Hp->Prop,(∃m,W 0 m σ k)/\∀i m σ H,W i m σ H->
 (J.stop i H/\D.nx σ H)\/(J.go i H/\∃N:St->Hp->Prop,(∀b c,N b c->∃f,f<m/\W (i+1) f b c)/\∀x c,J.yld i H x c->g x σ c λd l=>j {D with nx:=N,ct:=N,bk:=D.nx} d l)
noncomputable def o8(c:a0r)(h:Vl):a0d:=c.filterMap λb=>(h.get? b).map λo=>(b,o)
theorem jD{h:Vl}(c:b∈d)(e:h.get? b=U o):(b,o)∈o8 d h:=Zm.mpr ⟨b,c,by rw[e];rfl⟩
theorem HY{h:Vl}{p:T8×Vy}(c:p∈o8 g h):p.1∈g/\h.get? p.1=U p.2:=by
 obtain⟨b,d,e⟩:=Zm.mp c;cases q:h.get? b with
 |none=>rw[q]at e;cases e
 |some o=>
  rw[q]at e;have f:=UR e;subst f;exact⟨d,q⟩
theorem b_.pinned{a_:a0d}{σ:St}{H:Hp}{s:Uj}(I:b_ X a_ σ H s)(g:∀b∈k,gy X a_ H b)(h:∀b∈k,∃o,s.heap.get? b=U o/\∀v,o.data≠ .cell v):b_ X (a_++o8 k s.heap) σ H s:=
 I.pins_of λp i=>(Vr.mp i).elim (λz=>I.pin p<|Vg _ z) λz=>by
  obtain⟨c,e⟩:=HY z;obtain⟨j,f1,f2,_⟩:=g _ c;obtain⟨o,f,d⟩:=h _ c;rw[e]at f;cases f;exact⟨e,j,f1,f2,d⟩
theorem b_.unpinned{a_ a:a0d}{σ:St}{H:Hp}{s:Uj}(I:b_ X (a_++a) σ H s):b_ X a_ σ H s:=I.pins_of λp b=>I.pin p<|Vg _<|Xa _ b
theorem aW{pos:Xp}(L:PassesOwn (UP X.prog X.w) X.A X.env X.xe)(V:X.calm=O)(hi:PI X z iter wi)(hg:PG X z g)(j:PSs X body tb)
  (hs:autoParam (∀x,Vo iter X.env x=Wo x) xz):PS X (.For z iter body [] pos) (CB wi g tb):=by
 refine λa_ s σ H D I h=>wpAny_For (ee (hi a_ s σ H _ I h) λv s1 h1=>ee h1 λaa s2 h2=>?_) hs;obtain⟨it,eH,tn,J,H2,e,I2,T,cb,f2,W,⟨m0,w0⟩,P⟩:=h2;subst e
 --what _ O of _ _ _ _ _ _
 have k:∀{B:Hp},(∀b∈eH,B b=Y)->∀b∈eH,gy X a_ B b:=λhn b j=>⟨hn b j,(f2 b j).2⟩;refine codeAny_forLoop_any (λn s'=>∃i l B,b_ X a_ l B s'/\tn i s'.heap/\(∀b∈eH,B b=Y)/\W i n l B) ?_ m0 ⟨0,σ,H2,I2,cb,λb j=>(f2 b j).1,w0⟩;rintro n s3 ⟨i,p,f5,I3,Q,R,w3⟩;obtain⟨t,qn⟩|⟨go,N,hN,step⟩:=P i n p f5 w3
 .refine XS L (ee (T.done X Z Z Z V i a_ s3 p f5 _ I3 (k R) Q t) λr s4 ⟨E,I4⟩=>?_)
  subst E;exact wpAny_execs_nil ⟨p,f5,I4,qn⟩
 .refine XS L (ee (T.item X Z Z Z V i a_ s3 p f5 _ I3 (k R) Q go) λr s4 ⟨u,E,h4⟩=>?_)
  subst E;refine XS L<|ee h4 λ_ s5 ⟨x,H5,I5,r5,y5,F,G⟩=>?_;refine XS L<|ee (hg _ s5 p H5 x u _ (I5.pinned (k G)<|T.obj _ _ F) r5<|step x H5 y5) λ_ s6 ⟨M,H6,I6,q6⟩=>(XS L<|ee (j _ s6 M H6 _ I6 q6) λf S C=>?_);have a:∀{c:St} {q:Hp},b_ X _ c q S->N c q->∃m,m<n/\∃i l B,b_ X a_ l B S/\tn i _/\(∀b∈eH,B b=Y)/\W i m l B:=λ{c q} y ek=>by
   obtain⟨m',hm,w7⟩:=hN c q ek;refine⟨m',hm,i+1,c,q,y.unpinned,T.keep _ _ _ F λb j o e=>(y.pin _<|Vg _<|Vg _<|jD j e).1,λb j=>?_,w7⟩;obtain⟨o,e,d⟩:=T.obj _ _ F b j;exact(y.pin _<|Vg _<|Vg _<|jD j e).2.1
  cases f with
  |next=>obtain⟨c,q,y,ek⟩:=C;exact a y ek
  |cont=>obtain⟨c,q,y,ek⟩:=C;exact a y ek
  |brk=>obtain⟨c,q,y,C⟩:=C;exact⟨c,q,y.unpinned,C⟩
  |ret v=>obtain⟨x7,c,q,y,r7,C⟩:=C;exact⟨x7,c,q,y.unpinned,r7,C⟩
abbrev R2:=V->V->Hp->VK->Prop
def hE(X:Cx)(f:Uc->Uc->Sem Uc)(r:R2):Prop:=
 ∀(a_:a0d) (s:Uj) (σ:St) (H:Hp) (x y:V) (v u:Uc) (Q:VK),b_ X a_ σ H s->aY x v->aY y u->r x y H Q->
  Us (UP X.prog X.w) X.A (f v u) (EP X a_ σ Q) X.xe s
def UnR(X:Cx)(f:Uc->Sem Uc)(r:V->Hp->VK->Prop):Prop:=
 ∀(a_:a0d) (s:Uj) (σ:St) (H:Hp) (x:V) (v:Uc) (Q:VK),b_ X a_ σ H s->aY x v->r x H Q->
  Us (UP X.prog X.w) X.A (f v) (EP X a_ σ Q) X.xe s
def cN(X:Cx)(f:Uc)(r:a0J):Prop:=
 ∀(a_:a0d) (s:Uj) (σ:St) (H:Hp) (xs:a0k) (a:a0g) (Q:VK),b_ X a_ σ H s->aE xs a->r xs H Q->
  Us (UP X.prog X.w) X.A (call f a) (EP X a_ σ Q) X.xe s
def TruR(X:Cx)(r:V->Hp->(Bool->Hp->Prop)->Prop):Prop:=
 ∀(a_:a0d) (s:Uj) (σ:St) (H:Hp) (x:V) (v:Uc) (Q:a0V),b_ X a_ σ H s->aY x v->r x H Q->
  Us (UP X.prog X.w) X.A (truthy v) (TP X a_ σ Q) X.xe s
def tOp(r:R2)(b c:TE):TE:=λσ H Q=>b σ H λx d=>c σ d λy f=>r x y f Q
def tUn(r:V->Hp->VK->Prop)(b:TE):TE:=λσ H Q=>b σ H λx c=>r x c Q
def rI(C:a0W)(g:Int->Int->V):R2:=λx y H Q=>∃i j,x= .int i/\y= .int j/\C i j/\Q (g i j) H
def wh(g:Int->Int->V):R2:=λx y H Q=>∃i j,x= .int i/\y= .int j/\Q (g i j) H
def rU(g:Int->V):V->Hp->VK->Prop:=λx H Q=>∃i,x= .int i/\Q (g i) H
end
section
variable{X:Cx}{a b c:Expr}{ta tb tc:TE}{pos:Xp}
theorem Mw(c:PE X a ta)(m:PE X b tb){d:a0d}{s:Uj}{e:St}{H:Hp}{R:V->V->Hp->Prop}(I:b_ X d e H s)
  (h:ta e H λx l=>tb e l λy g=>R x y g) {Q:a0f} {f:Uc->Uc->Sem Uc}
  (n:∀v u k x y g,b_ X d e g k->aY x v->aY y u->R x y g->Us (UP X.prog X.w) X.A (f v u) Q X.xe k):
  Us (UP X.prog X.w) X.A (Vv a X.env) (λv i=>Us (UP X.prog X.w) X.A (Vv b X.env) (λu j=>Us (UP X.prog X.w) X.A (f v u) Q X.xe j) X.xe i) X.xe s:=by
 exact ee (c d s e H _ I h) λv o ⟨x,l,p,D,E⟩=>(ee (m d o e l _ p E) λu k ⟨y,g,q,r,G⟩=>(n v u k x y g q D r G))
theorem fm(e:hE X (W8 op) r)(c:PE X a ta)(f:PE X b tb):PE X (.BinOp a op b pos) (tOp r ta tb):=by
 exact λd s g H Q I h=>wpAny_BinOp<|Mw c f I h λv u i x y j k l m q=>e d i g j x y v u Q k l m q
theorem Sv(f:UnR X (unaryOp op) r)(b:PE X a ta):PE X (.UnaryOp op a pos) (tUn r ta):=by
 exact λd s e H Q I h=>UnaryOp_<|ee (b d s e H _ I h) λv g ⟨x,i,j,c,D⟩=>f d g e i x v Q j c D
theorem q_{f:Uc->Uc->Sem Uc}{C:a0W}{g:a0M}
  (d:∀(i j:Int) (t u:Tok) (s:Uj) (Q:a0f) (E:a0f),C i j->Q (.int (g i j) s.toks) {s with toks:=s.toks+1}->Us (UP X.prog X.w) X.A (f (.int i t)<|.int j u) Q E s):
  hE X f (rI C λi j=> .int<|g i j):=by
 intro e s n H x y v u Q I k l h;obtain⟨i,j,rfl,rfl,m,q⟩:=h;obtain⟨t,rfl⟩:=k;obtain⟨a,rfl⟩:=l;exact d i j t a s _ _ m ⟨.int<|g i j,H,I.tok _,⟨_,Z⟩,q⟩
theorem Qw{f:Uc->Uc->Sem Uc}{g:a0M}
  (d:∀(i j:Int) (t u:Tok) (s:Uj) (Q:a0f) (E:a0f),Q (.int (g i j) s.toks) {s with toks:=s.toks+1}->Us (UP X.prog X.w) X.A (f (.int i t)<|.int j u) Q E s):
  hE X f (wh λi j=> .int<|g i j):=by
 intro e s m H x y v u Q I k l h;obtain⟨i,j,rfl,rfl,q⟩:=h;obtain⟨t,rfl⟩:=k;obtain⟨a,rfl⟩:=l;exact d i j t a s _ _ ⟨.int<|g i j,H,I.tok _,⟨_,Z⟩,q⟩
theorem CY{f:Uc->Uc->Sem Uc}{g:Int->Int->Bool}
  (d:∀(i j:Int) (t u:Tok) (s:Uj) (Q:a0f) (E:a0f),Q (.bool<|g i j) s->Us (UP X.prog X.w) X.A (f (.int i t)<|.int j u) Q E s):
  hE X f (wh λi j=> .bl<|g i j):=by
 intro e s m H x y v u Q I k l h;obtain⟨i,j,rfl,rfl,q⟩:=h;obtain⟨t,rfl⟩:=k;obtain⟨a,rfl⟩:=l;exact d i j t a s _ _ ⟨.bl<|g i j,H,I,Z,q⟩
def CDiv(i j:Int):Prop:=0<j/\j<1073741824
def CPow(i j:Int):Prop:=0<=j/\j<=1000000/\i.natAbs<2^64
def ME(i j:Int):Prop:=(-(2^64)<i/\i<2^64)\/(-(2^64)<j/\j<2^64)
theorem ME.ok(h:ME i j):IntMulOk i j:=by
 obtain⟨d,e⟩|⟨d,e⟩:=h
 .exact .of_left (intBits_le_64 d e)
 .exact .of_right (intBits_le_64 d e)
theorem tu:hE X (W8 .Add) (wh λi j=> .int<|i+j):=Qw λ_ _ _ _ _ _ _ q=>add_int q
theorem eL:hE X (W8 .Sub) (wh λi j=> .int<|i-j):=Qw λ_ _ _ _ _ _ _ q=>sub_int q
theorem Qt:hE X (W8 .Mult) (rI ME λi j=> .int<|i*j):=q_ λ_ _ _ _ _ _ _ d q=>mul_int q d.ok
theorem zV:hE X (W8 .FloorDiv) (rI CDiv λi j=> .int<|i/j):=q_ λi j _ _ _ _ _ d q=>by
 have e:=d.1;have f:=d.2;exact floordiv_int rk (by rw[Zr i rk];exact q) (.inl<|PyProof.noPylong_small<|by grind)
theorem j8:hE X (W8 .Mod) (rI (λ_ j=>0<j) λi j=> .int<|i % j):=q_ λi j _ _ _ _ _ d q=>by
 have e:=d;exact mod_int' rk (by rw[Int.fmod_eq_emod_of_nonneg i rk];exact q)
theorem Qr:hE X (W8 .Pow) (rI CPow λi j=> .int<|i^j.toNat):=q_ λ_ _ _ _ _ _ _ d q=>pow_int_small d.1 d.2.1 d.2.2 q
theorem unI{f:Uc->Sem Uc}{g:Int->Int}
  (d:∀(i:Int) (t:Tok) (s:Uj) (Q:a0f) (E:a0f),Q (.int (g i) s.toks) {s with toks:=s.toks+1}->Us (UP X.prog X.w) X.A (f<|.int i t) Q E s):
  UnR X f (rU λi=> .int<|g i):=by
 intro e s k H x v Q I j h;obtain⟨i,rfl,q⟩:=h;obtain⟨t,rfl⟩:=j;exact d i t s _ _ ⟨.int<|g i,H,I.tok _,⟨_,Z⟩,q⟩
theorem xf:UnR X (unaryOp .USub) (rU λi=> .int<|-i):=unI λ_ _ _ _ _ q=>neg_int q
noncomputable def K9:V->V->Bool
 | .non,.non=>O| .non,.int _=>O| .int _,.non=>O| .non,.bl _=>O| .bl _,.non=>O| .non,.str _=>O| .str _,.non=>O
 | .int _,.int _=>O| .bl _,.bl _=>O| .str _,.str _=>O
 | .int _,.str _=>O| .str _,.int _=>O| .bl _,.str _=>O| .str _,.bl _=>O
 |_,_=>T4
noncomputable def rEq:R2:=λx y H Q=>K9 x y=O/\Q (.bl<|decide (x=y)) H
noncomputable def rNe:R2:=λx y H Q=>K9 x y=O/\Q (.bl<|!decide (x=y)) H
theorem AX:decide (V.int i=V.int j)=(i==j):=by
 rw[Z4];simp
theorem L3{i j:Bool}:decide (V.bl i=V.bl j)=(i==j):=by
 rw[Z4];simp
theorem AW:decide (V.str i=V.str j)=(i==j):=by
 rw[Z4];simp
theorem dq{k d:Bool}(I:b_ X f g H s)(q:Q (.bl k) H)(e:k=d):EP X f g Q (.bool d) s:=by
 subst e;exact⟨.bl k,H,I,Z,q⟩
theorem SB:hE X (Vz .Eq) rEq:=by
 intro f s g H x y v u Q I e d h;obtain⟨b,q⟩:=h;cases x with
 |non=>
  cases e;cases y with
  |non=>cases d;exact PySem.EqNone.eq_none_none (dq I q mo)
  |bl j=>cases d;exact PySem.EqNone.eq_none_bool (dq I q mo)
  |int j=>obtain⟨a,rfl⟩:=d;exact PySem.EqNone.eq_none_int (dq I q mo)
  |str j=>obtain⟨a,rfl⟩:=d;exact PySem.EqNone.eq_none_str (dq I q mo)
  |_=>exact UG (show T4=O from b) Uk
 |bl i=>
  cases e;cases y with
  |non=>cases d;exact PySem.EqNone.eq_bool_none (dq I q mo)
  |bl j=>cases d;exact eq_bool<|dq I q L3
  |str j=>obtain⟨a,rfl⟩:=d;exact PySem.EqMixed.eq_bool_str (dq I q mo)
  |_=>exact UG (show T4=O from b) Uk
 |int i=>
  obtain⟨t,rfl⟩:=e;cases y with
  |non=>cases d;exact PySem.EqNone.eq_int_none (dq I q mo)
  |int j=>obtain⟨a,rfl⟩:=d;exact eq_int<|dq I q AX
  |str j=>obtain⟨a,rfl⟩:=d;exact PySem.EqMixed.eq_int_str (dq I q mo)
  |_=>exact UG (show T4=O from b) Uk
 |str i=>
  obtain⟨t,rfl⟩:=e;cases y with
  |non=>cases d;exact PySem.EqNone.eq_str_none (dq I q mo)
  |bl j=>cases d;exact PySem.EqMixed.eq_str_bool (dq I q mo)
  |int j=>obtain⟨a,rfl⟩:=d;exact PySem.EqMixed.eq_str_int (dq I q mo)
  |str j=>obtain⟨a,rfl⟩:=d;exact eq_str<|dq I q AW
  |_=>exact UG (show T4=O from b) Uk
 |_=>cases y<;>exact UG (show T4=O from b) Uk
theorem Sz:hE X (Vz .NotEq) rNe:=by
 intro f s g H x y v u Q I e d h;obtain⟨b,q⟩:=h;cases x with
 |non=>
  cases e;cases y with
  |non=>cases d;exact PySem.EqNone.ne_none_none (dq I q mo)
  |bl j=>cases d;exact PySem.EqNone.ne_none_bool (dq I q mo)
  |int j=>obtain⟨a,rfl⟩:=d;exact PySem.EqNone.ne_none_int (dq I q mo)
  |str j=>obtain⟨a,rfl⟩:=d;exact PySem.EqNone.ne_none_str (dq I q mo)
  |_=>exact UG (show T4=O from b) Uk
 |bl i=>
  cases e;cases y with
  |non=>cases d;exact PySem.EqNone.ne_bool_none (dq I q mo)
  |bl j=>cases d;exact ne_bool<|dq I q<|U6 _ L3
  |str j=>obtain⟨a,rfl⟩:=d;exact PySem.EqMixed.ne_bool_str (dq I q mo)
  |_=>exact UG (show T4=O from b) Uk
 |int i=>
  obtain⟨t,rfl⟩:=e;cases y with
  |non=>cases d;exact PySem.EqNone.ne_int_none (dq I q mo)
  |int j=>obtain⟨a,rfl⟩:=d;exact ne_int<|dq I q<|U6 _ AX
  |str j=>obtain⟨a,rfl⟩:=d;exact PySem.EqMixed.ne_int_str (dq I q mo)
  |_=>exact UG (show T4=O from b) Uk
 |str i=>
  obtain⟨t,rfl⟩:=e;cases y with
  |non=>cases d;exact PySem.EqNone.ne_str_none (dq I q mo)
  |bl j=>cases d;exact PySem.EqMixed.ne_str_bool (dq I q mo)
  |int j=>obtain⟨a,rfl⟩:=d;exact PySem.EqMixed.ne_str_int (dq I q mo)
  |str j=>obtain⟨a,rfl⟩:=d;exact ne_str<|dq I q<|U6 _ AW
  |_=>exact UG (show T4=O from b) Uk
 |_=>cases y<;>exact UG (show T4=O from b) Uk
theorem tq:hE X (Vz .Lt) (wh λi j=> .bl<|decide (i<j)):=CY λ_ _ _ _ _ _ _ q=>lt_int q
theorem ld:hE X (Vz .LtE) (wh λi j=> .bl<|decide (i<=j)):=CY λ_ _ _ _ _ _ _ q=>le_int q
theorem gj:hE X (Vz .Gt) (wh λi j=> .bl<|decide (j<i)):=CY λ_ _ _ _ _ _ _ q=>gt_int q
theorem SA:hE X (Vz .GtE) (wh λi j=> .bl<|decide (j<=i)):=CY λ_ _ _ _ _ _ _ q=>ge_int q
theorem xU:hE X (Vz .Is) (λx y H Q=>y= .non/\Q (.bl<|decide (x= .non)) H):=by
 intro d s g H x y v u Q I e f h;obtain⟨rfl,q⟩:=h;cases f;refine is_none_gen<|dq I q ?_;cases x<;>first
  |(cases e;rfl)
  |(obtain⟨t,rfl⟩:=e;rfl)
theorem hE.or(h:hE X f r)(a:hE X f j):hE X f (λx y H Q=>r x y H Q\/j x y H Q):=by
 intro d s e H x y v u Q I g i q;obtain q|q:=q
 .exact h d s e H x y v u Q I g i q
 .exact a d s e H x y v u Q I g i q
theorem xW(b:Expr)(h:autoParam (op≠ .In) qX)(d:autoParam (op≠ .NotIn) qX):Zh op b=T4:=by
 have e:(op==CmpOp.In)=T4:=by cases op<;>first|rfl|exact UG Z h
 have f:(op==CmpOp.NotIn)=T4:=by cases op<;>first|rfl|exact UG Z d
 cases b<;>simp[Zh,e,f]
theorem Og(e:hE X (Vz op) r)(c:PE X a ta)(f:PE X b tb)(D:Zh op b=T4):PE X (.Compare a [op] [b] pos) (tOp r ta tb):=by
 exact λd s g H Q I h=>wpAny_Compare1 (Mw c f I h λv u i x y j k l m q=>e d i g j x y v u Q k l m q) D
def BZ(t:TE):TT:=λd H Q=>t d H λx e=>∃k,x= .bl k/\Q k e
theorem zL(g:hE X (Vz op) r)(D:PE X a ta)(i:PE X b tb)(E:Zh op b=T4):PT X (.Compare a [op] [b] pos) (BZ<|tOp r ta tb):=by
 refine λd s f H Q I h=>wpAny_isTrue_Compare1 (ee (D d s f H _ I h) λv j ⟨x,l,m,G,K⟩=>ee (i d j f l _ m K) λu n ⟨y,o,p,q,M⟩=>
  ee (g d n f o x y v u _ p G q M) λc B ⟨z,t,w,A,k,e,S⟩=>?_) E
 subst e;cases A;exact VE ⟨t,w,S⟩
def GB(r f:R2)(ta tb tc:TE):TE:=λd H Q=>ta d H λx g=>tb d g λy h=>r x y h λz e=>∃k,z= .bl k/\
 (if k=O then tc d e λi j=>f y i j Q else Q (.bl T4) e)
theorem Lh(n:hE X (Vz op) r)(i:hE X (Vz op') r')(E:PE X a ta)(o:PE X b tb)(p:PE X c tc)
  (G:autoParam (lastMarks [op,op'] [b,c]=T4) jv):PT X (.Compare a [op,op'] [b,c] pos) (BZ<|GB r r' ta tb tc):=by
 refine λf s g H Q I h=>isTrue_chain (ee (E f s g H _ I h) λv q ⟨x,t,w,K,M⟩=>test_link (ee (o f q g t _ w M) λu A ⟨y,B,C,j,S⟩=>
  ee (n f A g B x y v u _ C K j S) λd F ⟨z,l,m,J,k,e,D⟩=>?_)) G
 subst e;cases J;apply VE;cases k with
 |false=>
  obtain⟨k',L,N⟩:=D;cases L;exact ite_ff ⟨l,m,N⟩
 |true=>
  refine ite_tt<|test_last<|ee (p f F g l _ m D) λeH P ⟨R,T,cb,W,V⟩=>ee (i f P g T y R u eH _ cb j W V) λd' s5 ⟨z2,ek,f5,r5,k2,e2,q5⟩=>?_;subst e2;cases r5;exact VE ⟨ek,f5,q5⟩
def MA(K:UA)(x:V)(H:Hp)(k:Bool):Prop:=
 match x with
 | .non=>k=T4
 | .bl b=>k=b
 | .int i=>k=(i !=0)
 | .str y=>y.length<=UC/\k=((y.length:Int) !=0)
 | .ref p=>(∃a,fy K H p a/\k=!a.isEmpty)\/∃a,i0 K H p a/\k=!a.isEmpty
 |_=>False
theorem tW(r:aE e d):(!d.toArray.isEmpty)=!e.isEmpty:=by
 cases r<;>simp
theorem pi:(UC:Nat)<2^63:=by decide
theorem Pe:TruR X (λx H Q=>∃k,MA X.K x H k/\Q k H):=by
 intro j s m H x v Q I f h;obtain⟨k,e,q⟩:=h;have n:=pi;cases x with
 |non=>
  cases f;have d:=e;subst d;exact truthy_none ⟨H,I,q⟩
 |bl b=>
  cases f;have d:=e;subst d;exact VE ⟨H,I,q⟩
 |int i=>
  obtain⟨t,rfl⟩:=f;have d:=e;subst d;exact PySem.P.truthy_int ⟨H,I,q⟩
 |str y=>
  obtain⟨t,rfl⟩:=f;obtain⟨M,d⟩:y.length<=UC/\k=((y.length:Int) !=0):=e;subst d;exact PySem.P.truthy_str rk ⟨H,I.tok _,q⟩
 |ref p=>
  cases f;have d:=e;obtain⟨a,c,d⟩|⟨a,c,d⟩:=d
  .subst d
   obtain⟨D,r,E,l⟩:=I.list c;have g:=r.length;exact wpAny_truthy_list E.isList (by rw[UB];lia) ⟨H,I.tok _,by rw[tW r];exact q⟩
  .subst d
   obtain⟨D,r,E,l⟩:=I.tuple c;have g:=r.length;exact truthy_tuple E (by rw[UB];lia) ⟨H,I.tok _,by rw[tW r];exact q⟩
 |_=>exact(show False from e).elim
theorem Lg(b:PE X a ta)(i:∀d,isTrue a X.env d=(do let v <-d;Yp a.pos;YY [v] (truthy v))):
  PT X a (λf H Q=>ta f H λx g=>∃k,MA X.K x g k/\Q k g):=by
 exact λe s f H Q I h=>isTrue_plain (ee (b e s f H _ I h) λv j ⟨x,l,m,c,D⟩=>Pe e j f l x v Q m c D)<|i _
theorem gG(r:aE [x] e):∃u,e=[u]/\aY x u:=by
 cases r with
 |cons a d=>cases d;exact⟨_,Z,a⟩
theorem wz(r:aE [x,y] h):∃u d,h=[u,d]/\aY x u/\aY y d:=by
 cases r with
 |cons a e=>
  cases e with
  |cons f g=>cases g;exact⟨_,_,Z,a,f⟩
theorem rY:cN X (.builtin "abs") (λxs H Q=>∃i,xs=[.int i]/\Q (.int (if i<0 then -i else i)) H):=by
 intro d s e H xs a Q I r h;obtain⟨i,rfl,q⟩:=h;obtain⟨u,rfl,t,rfl⟩:=gG r;exact call_abs_int λu f=>⟨.int _,H,I.tok _,⟨_,Z⟩,q⟩
theorem wc(f:X.calm=O):cN X (.builtin "max") (λa H Q=>∃i j,a=[.int i,.int j]/\Q (.int (if j>i then j else i)) H):=by
 intro e s g H a b Q I r h;obtain⟨i,j,rfl,q⟩:=h;obtain⟨u,l,rfl,⟨t,rfl⟩,⟨c,rfl⟩⟩:=wz r;refine max_two_ints (I.ok.hd f) λD m k=>⟨_,H,I.kept k,?_,q⟩;by_cases d:j>i
 .rw[Uf d,Uf d];exact⟨_,Z⟩
 .rw[Uh d,Uh d];exact⟨_,Z⟩
theorem lF(f:X.calm=O):cN X (.builtin "min") (λa H Q=>∃i j,a=[.int i,.int j]/\Q (.int (if j<i then j else i)) H):=by
 intro e s g H a b Q I r h;obtain⟨i,j,rfl,q⟩:=h;obtain⟨u,l,rfl,⟨t,rfl⟩,⟨c,rfl⟩⟩:=wz r;refine min_two_ints (I.ok.hd f) λD m k=>⟨_,H,I.kept k,?_,q⟩;by_cases d:j<i
 .rw[Uf d,Uf d];exact⟨_,Z⟩
 .rw[Uh d,Uh d];exact⟨_,Z⟩
theorem we:cN X (.type "int") (λa H Q=>(∃i,a=[.int i]/\Q (.int i) H)\/∃k,a=[.bl k]/\Q (.int (if k then 1 else 0)) H):=by
 intro d s e H a b Q I r h;obtain⟨i,rfl,q⟩|⟨k,rfl,q⟩:=h
 .obtain⟨u,rfl,t,rfl⟩:=gG r
  exact call_int_int ⟨.int i,H,I,⟨_,Z⟩,q⟩
 .obtain⟨u,rfl,r1⟩:=gG r
  cases r1;exact call_int_bool ⟨.int _,H,I.tok _,⟨_,Z⟩,q⟩
structure zx (h:Vl) (x dx C:T8) (mA:a0j):Prop where
 obj:h.get? x=U (instObj C dx)
 ns:h.Ns1 dx mA
 ne:dx≠x
theorem IQ{h:Vl}(n:h.Ns1 k mA):∃f,h.get? k=U f/\∀b,lookIn b f=U (mA b):=by
 obtain⟨o,c,K,g,D,i,_,E⟩:=n;refine⟨o,g,λb=>?_⟩;have e:=E b;unfold nsFind findBy at e;rw[<-Array.find?_toList]at e;unfold lookIn;rw[D]
 dsimp only
 split
 .rename_i y q
  rw[q]at e;exact U6 U e
 .rename_i q
  rw[q]at e;have a:c.toList.any (·.refKey)=T4:=by
   rw[List.any_eq_false];intro y G;obtain⟨z,t,d⟩:=i y<|Array.mem_toList_iff.mp G;simp[DictEntry.refKey,d]
  have j:¬c.toList.any (·.refKey)=O:=by rw[a];exact Uk
  rw[Uh j];exact U6 U e
theorem zx.look(I:zx h x e C mA):∃d,PySem.W.InstAt h x (instObj C e) C (U d)/\∀a,lookIn a d=U (mA a):=
 let ⟨d,ho,hl⟩:=IQ I.ns
 ⟨d,⟨I.obj,Z,Z,ho⟩,hl⟩
variable{z:UT}{w:UY}{A:Vn}{E:a0f}{s:Uj}{K:UA}{x N C f:T8}{L:a0j}{c:U3}{v:Uc}
theorem OS{d:Bool}(X:K.In s.heap)(I:zx s.heap x N C L)(g:plainGet K C c=O)(i:hasDictIn K C=O)
  (a:Xv K (.ref C) c=U Y) (j:L c=U v) (e:PySem.W.handedIn v=O) (h:Q v {s with toks:=s.toks+1}):
  Us (UP z w) A (getAttr (.ref x) c d) Q E s:=by
 obtain⟨l,J,k⟩:=I.look;exact PySem.W.get_value X J (plainGet_of g).1 (PySem.W.findObj_own i a Z<|by rw[k,j]) e h
theorem Md(X:K.In s.heap)(I:zx s.heap x N C L)(d:plainGet K C c=O)
  (e:Xv K (.ref C) c=U (U<|.ref f)) (g:isFn K (.ref f)=O) (i:L c=Y) (h:Q (.ref f,[.ref x]) s):
  Us (UP z w) A (getMethod (.ref x) c l) Q E s:=by
 obtain⟨j,J,k⟩:=I.look;exact PySem.W.method_fn X J (plainGet_of d).1 (plainGet_of d).2 e (beq_iff_eq.mp g) (by show(lookIn c j).map _=U T4;rw[k,i];rfl) h
theorem NX{D:a0i}(X:K.In s.heap)(I:zx s.heap x N C L)
  (G:Xv K (.ref C) "__setattr__"=U (U<|.builtin "object.__setattr__")) (l:PySem.W.plainOver K C=O) (m:takerIn K C c=U Y) (n:hasDictIn K C=O)
  (o:PySem.Within L D) (p:D.length<=UC)
  (h:∀f,zx f x N C (λy=>if y=c then U v else L y)->UU N s.heap f->Q () {s with heap:=f,toks:=s.toks+2}):
  Us (UP z w) A (setAttr (.ref x) c v) Q E s:=by
 obtain⟨B,J,F⟩:=I.look;refine PySem.W.set_plain X J G<|PySem.W.osa_open X J l m λb=>?_;obtain⟨S,q,g⟩:=PySem.W.any_some n;refine My<|TZ<|My<|My<|wpAny_loadPart I.obj<|My<|PySem.W.Looks.here (PySem.W.looks_clsIn X q) ?_;rw[g];refine TZ<|My<|TZ<|My<|wpAny_nsSet1 I.ns λf d e=>?_;obtain⟨H,t,u,i,j,k⟩:=d.count<|PySem.Within.cons c v o;exact My<|wpAny_lookBehind i (by rw[j];exact pastItsLine_dict<|Um k<|by rw[Ur];lia)<|TZ<|h _ ⟨(e.2 _<|Ne.symm I.ne).trans I.obj,d,I.ne⟩ e
theorem LK(X:K.In s.heap)(b:PySem.W.makesIn K C=O)
  (e:Xv K (.ref C) "__init__"=U (U<|.ref f)) (i:PySem.W.typeIn K (.ref f)=U (.type "function"))
  (h:YC (UP z w) (A.under<|.builtin "type.__call__" ⟨.ref C::k,kw⟩) (.call (.ref f) ⟨.ref (s.heap.objs.size+1)::k,kw⟩) (PySem.W.InitBack (s.heap.objs.size+1) R)
   {s with heap:=(s.heap.push Zb).push (instObj C s.heap.objs.size)}):
  YC (UP z w) A (.call (.ref C) ⟨k,kw⟩) R s:=by
 obtain⟨j,g,d,t,c⟩:=s;exact PySem.W.make_core (PySem.W.makes_of X b) (PySem.W.looks_findIn X e) (λa=>PySem.W.bind_fn X a i) (.inl Z) h
noncomputable def eJ(f:U3)(v:V):a0G->a0G
 |[]=>[(f,v)]
 |(g,x)::r=>if g=f then(g,v)::r else(g,x)::eJ f v r
theorem qZ(f g:U3)(v:V):∀a:a0G,(eJ f v a).lookup g=if g=f then U v else a.lookup g
 |[]=>by
  show Y3 g [(f,v)]=_;by_cases h:g=f
  .have d:=beq_iff_eq.mpr h
   simp only[Y3,d,Uf h]
  .have d:=beq_eq_false_iff_ne.mpr h
   simp only[Y3,d,Uh h]
 |(k,x)::r=>by
  rw[show eJ f v _=(if k=f then(k,v)::r else(k,x)::eJ f v r)from Z];by_cases i:k=f
  .rw[Uf i]
   by_cases h:g=k
   .have d:=beq_iff_eq.mpr h
    simp only[Y3,d,Uf<|h.trans i]
   .have d:=beq_eq_false_iff_ne.mpr h
    simp only[Y3,d,Uh (λe:g=f=>h<|e.trans i.symm)]
  .rw[Uh i]
   by_cases h:g=k
   .have d:=beq_iff_eq.mpr h
    simp only[Y3,d,Uh (λe:g=f=>i<|h.symm.trans e)]
   .have d:=beq_eq_false_iff_ne.mpr h
    simp only[Y3,d];exact (qZ f g v r)
theorem pA(f:U3)(v:V):∀a:a0G,f∈(eJ f v a).map (·.1)/\∀g,g∈a.map (·.1)->g∈(eJ f v a).map (·.1)
 |[]=>⟨by simp[eJ],λg h=>by simp at h⟩
 |(k,x)::r=>by
  obtain⟨i,j⟩:=pA f v r;rw[show eJ f v _=(if k=f then(k,v)::r else(k,x)::eJ f v r)from Z];by_cases d:k=f
  .rw[Uf d]
   subst d;exact⟨by exact .head _,λg h=>by exact h⟩
  .rw[Uh d]
   refine⟨?_,λg h=>?_⟩
   .rw[Ul]
    exact T3 _ i
   .rw[Ul]at h⊢
    obtain e|e:=Uq.mp h
    .exact Uq.mpr (.inl e)
    .exact T3 _ (j g e)
theorem q8(f:U3)(v:V):∀a:a0G,(eJ f v a).length<=a.length+1
 |[]=>by simp[eJ]
 |(k,x)::r=>by
  have b:=q8 f v r;rw[show eJ f v _=(if k=f then(k,v)::r else(k,x)::eJ f v r)from Z];by_cases d:k=f
  .rw[Uf d,Ur,Ur];lia
  .rw[Uh d,Ur,Ur];lia
theorem jt.some_of{v:V}(r:jt (U v) o):∃u,o=U u/\aY v u:=by
 cases o with
 |none=>exact(show False from r).elim
 |some u=>exact⟨u,Z,r⟩
theorem jt.none_of(r:jt Y o):o=Y:=by
 cases o with
 |none=>rfl
 |some u=>exact(show False from r).elim
theorem JU{v:V}(r:aY v u):PySem.W.handedIn u=O:=by
 cases v with
 |non=>cases(show u=U4 from r);rfl
 |bl b=>cases(show u=ZY b from r);rfl
 |int i=>obtain⟨t,e⟩:=(show ∃t,u=X2 i t from r);cases e;rfl
 |str x=>obtain⟨t,e⟩:=(show ∃t,u=Value.str x t from r);cases e;rfl
 |ref a=>cases(show u=UE a from r);rfl
 |ty n=>cases(show u=Xf n from r);rfl
end
section
variable{P:UT}{w:UY}{H l:Hp}{h h':Vl}{a C dx:T8}{N n:a0G}
theorem mI(l:lw P w H h)(e:H a=U (.ins C dx N)):∃b,zx h a dx C b/\(∀f,jt (N.lookup f)<|b f)/\PySem.Within b (N.map (·.1))/\N.length<=1000/\H dx=U (.own a):=by
 obtain⟨d,z,D,c,b,n,r,q⟩:=(show b6 P w H h a (.ins C dx N)from l a _ e);exact⟨b,⟨c,n,D⟩,r,q,z,d⟩
structure u_ (K:UA) (C:T8):Prop where
 pg:plainGet K C Yg=O
 hd:hasDictIn K C=O
 po:PySem.W.plainOver K C=O
 sa:Xv K (.ref C) "__setattr__"=U (U<|.builtin "object.__setattr__")
theorem u_.get{K:UA}{C:T8}(c:u_ K C)(f:U3):plainGet K C f=O:=c.pg
def c7(K:UA)(C:T8)(f:U3):Prop:=Xv K (.ref C) f=U Y
theorem c7.taker{K:UA}{C:T8}(n:c7 K C f):takerIn K C f=U Y:=by
 unfold takerIn;rw[show Xv K _ f=U Y from n];rfl
structure k_ (K:UA) (C:T8) (m:U3) (f:T8):Prop where
 at_:Xv K (.ref C) m=U (U<|.ref f)
 fn:isFn K (.ref f)=O
 kp:Zx K (.ref f)=O
variable{X:Cx}{R:a0d}{L:St}{s:Uj}{f:U3}{v:V}{A:Vn}{E:a0f}
theorem EA{b:Bool}(I:b_ X R L H s)(e:H a=U (.ins C dx N))(c:u_ X.K C)(n:c7 X.K C f)(l:N.lookup f=U v)
  (h:∀u D,b_ X R L H D->aY v u->Q u D):Us (UP X.prog X.w) A (getAttr (.ref a) f b) Q E s:=by
 obtain⟨g,j,r,_,_,_⟩:=mI I.hok e;obtain⟨u,i,d⟩:=jt.some_of (by rw[<-l];exact r f);exact OS I.kIn j (c.get f) c.hd n i (JU d)<|h u _ (I.tok _) d
theorem t0(I:b_ X R L H s)(e:H a=U (.ins C dx N))(c:u_ X.K C)(k:k_ X.K C m g)(l:N.lookup m=Y)
  (h:Q (.ref g,[.ref a]) s):Us (UP X.prog X.w) A (getMethod (.ref a) m pl) Q E s:=by
 obtain⟨b,d,r,_,_,_⟩:=mI I.hok e;exact Md I.kIn d (c.get m) k.at_ k.fn (jt.none_of (by rw[<-l];exact r m)) h
theorem CJ(I:b_ X R L H s)(e:H a=U (.ins C dx N))(c:u_ X.K C)(n:c7 X.K C f)(F:N.length<1000)(l:aY y u)
  (h:∀v,b_ X R L (upd H a<|.ins C dx<|eJ f y N) v->Q () v):Us (UP X.prog X.w) A (setAttr (.ref a) f u) Q E s:=by
 obtain⟨i,J,r,j,_,k⟩:=mI I.hok e;have m:(N.map (·.1)).length<=UC:=by rw[TX,V5];lia
 refine NX I.kIn J c.sa c.po n.taker c.hd j m λh' d p=>h _ ?_;have D:∃o,h'.get? dx=U o:=let ⟨o,_,_,e',_⟩:=d.ns;⟨o,e'⟩
 refine I.write (x:=a) (e:=dx) (by rw[e];exact XV) (.inr k) (λb q t z=>(p.2 b t).trans z) D<|⟨by rw[bt J.ne];exact k,?_,J.ne,d.obj,_,d.ns,λg=>?_,λg B=>?_⟩
 .have:=q8 f y N;lia
 .show jt _ _
  rw[qZ];by_cases q:g=f
  .rw[Uf q,Uf q];exact l
  .rw[Uh q,Uh q];exact r g
 .by_cases q:g=f
  .rw[q];exact(pA f y N).1
  .refine(pA f y N).2 g (j g λz=>B ?_)
   show(if g=f then U u else i g)=Y;rw[Uh q];exact z
theorem b_.made(I:b_ X R L H s):b_ X R L (upd (upd H s.heap.objs.size<|.own<|s.heap.objs.size+1) (s.heap.objs.size+1)<|.ins C s.heap.objs.size [])
  {s with heap:=(s.heap.push Zb).push (instObj C s.heap.objs.size)}:=by
 have c:(s.heap.push Zb).get? _=U Zb:=Ut _ Z;have d:((s.heap.push Zb).push<|instObj C s.heap.objs.size).get? (s.heap.objs.size+1)=U (instObj C s.heap.objs.size):=by
  have:=Ut (s.heap.push Zb) (o:=instObj C s.heap.objs.size) Z;rwa[VX]at this
 have j:=I.laid (o:= .own<|s.heap.objs.size+1) (t':=s.toks) (λb u q=>T1 _ q) (Ug _) ⟨_,c⟩;refine j.laid (λb u q=>T1 _ q) (Nat.le_of_eq<|VX _ _) ?_;have f:s.heap.objs.size≠s.heap.objs.size+1:=U7<|Yd _;refine⟨by rw[bt f,aw],Vp _,f,d,λ_=>Y,(Heap.Ns1.of_empty (⟨Zb,#[],_,c,Z,(λe i=>UG i nl),λ_=>Z⟩)).at λo q=>T1 _ q,λ_=>XV,λy h=>UG Z h⟩
theorem O7{w:UY}{f:U3}{pos:Xp}{s:Uj}(c:XW e f d (Vv e d)=Vv e d)
  (h:Us (UP prog w) A (Vv e d) (λo b=>Us (UP prog w) A (getAttr o f O) Q E b) E s):Us (UP prog w) A (Vv (.Attribute e f pos) d) Q E s:=
 Attribute_any_ h (by rw[arm_eval_Attribute,c])
def tFld(K:UA)(c:TE)(f:U3):TE:=λL H Q=>c L H λx b=>∃a C dx N v,x= .ref a/\b a=U (.ins C dx N)/\u_ K C/\c7 K C f/\N.lookup f=U v/\Q v b
noncomputable def PU(K:UA)(c d:TE)(f:U3):TS:=λD L H=>d L H λy e=>c L e λx b=>∃a C dx N,x= .ref a/\b a=U (.ins C dx N)/\u_ K C/\c7 K C f/\N.length<1000/\
 D.nx L (upd b a<|.ins C dx<|eJ f y N)
variable{o e v:Expr}{pos f5 d:Xp}{z T:TE}
theorem Qm(b:PE X e z)(d:XW e f X.env (Vv e X.env)=Vv e X.env):PE X (.Attribute e f pos) (tFld X.K z f):=by
 refine λR s L H Q I h=>O7 d<|ee (b R s L H _ I h) λu r ⟨x,g,i,j,a,C,dx,N,v,o,k,c,n,l,q⟩=>?_;subst o;obtain rfl:u=UE a:=j;exact EA i k c n l λt y m p=>⟨v,g,m,p,q⟩
theorem ia(e:PE X o z)(b:PE X v T)(w:Zc v (U<|.Attribute o f f5) pos.line X.env=Wo T4):PS X (.Assign [.Attribute o f f5] v pos) (PU X.K z T f):=by
 refine λR s L H D I h=>plainObj_wpAny_Assign_Attribute (ee (b R s L H _ I h) λu d ⟨y,g,i,j,q⟩=>ee (e R d L g _ i q) λk B ⟨x,F,m,p,a,C,dx,N,A,r,c,n,l,E⟩=>?_) w;subst A;obtain rfl:k=UE a:=p;exact CJ m r c n l j λJ t=>⟨L,_,t,E⟩
variable{Q:a0f}{c:Uc}{b:Bool}
inductive p0 (K:UA) (H:Hp):V->Uc->Prop where
 |non:p0 K H .non (.type "NoneType")
 |bl (x:Bool):p0 K H (.bl x) (.type "bool")
 |int (i:Int):p0 K H (.int i) (.type "int")
 |str (x:U3):p0 K H (.str x) (.type "str")
 |lst {a:T8} {xs:a0k} (e:H a=U (.lst xs)):p0 K H (.ref a) (.type "list")
 |frz {a:T8} {o:Vy} {xs:a0k} (e:H a=U (.frz o (.lst xs))):p0 K H (.ref a) (.type "list")
 |tup {a:T8} {xs:a0k} (e:H a=U (.tup xs)):p0 K H (.ref a) (.type "tuple")
 |ins {a C dx:T8} {N:a0G} (e:H a=U (.ins C dx N)) (cl:u_ K C) (ha:Xv K (.ref C) "__class__"=U (U (.builtin "object.__class__")))
  (hn:specialIn K (.builtin "object.__class__") "__get__"=U (U<|.builtin "getset_descriptor.__get__")) (htk:PySem.W.takesIn K (.builtin "object.__class__")=U O)
  (hm:PySem.W.mroIn K C (.type "object")=U O):p0 K H (.ref a)<|.ref C
theorem JO(I:b_ X R L H s)(d:aY x u)(f:p0 X.K H x t)(e:kitOne X.K t c=U b)(h:∀j,Q (.bool b) {s with toks:=j}):
  Us (UP X.prog X.w) A (call (.builtin "isinstance") [u,c]) Q E s:=by
 cases f with
 |non=>cases(show u=U4 from d);exact Z1 PySem.W.kitx_none I.kIn XV e (λz=>nomatch z) h
 |bl y=>cases(show u=ZY y from d);exact Z1 PySem.W.kitx_bool I.kIn XV e (λz=>nomatch z) h
 |int i=>obtain⟨t,q⟩:=(show ∃t,u=X2 i t from d);cases q;exact Z1 PySem.W.kitx_int I.kIn XV e (λz=>nomatch z) h
 |str y=>obtain⟨t,q⟩:=(show ∃t,u=Value.str y t from d);cases q;exact Z1 PySem.W.kitx_str I.kIn XV e (λz=>nomatch z) h
 |@lst a xs ea=>
  cases(show u=UE a from d);obtain⟨_,_,n,_,g⟩:=(show b6 _ _ H _ a (.lst xs)from I.hok a _ ea);exact Z1 kitx_list I.kIn ⟨_,g,Z⟩ e (λz=>nomatch z) h
 |@frz a ob xs ea=>
  cases(show u=UE a from d);obtain⟨_,_,_,n,_,g⟩:=(show b6 _ _ H _ a (.frz ob<|.lst xs)from I.hok a _ ea);exact Z1 kitx_list I.kIn ⟨_,g,Z⟩ e (λz=>nomatch z) h
 |@tup a xs ea=>
  cases(show u=UE a from d);obtain⟨_,_,_,p⟩:=(show b6 _ _ H _ a (.tup xs)from I.hok a _ ea);obtain⟨o,g,k,_⟩:=p;exact Z1 kitx_tuple I.kIn ⟨o,g,k⟩ e (λz=>nomatch z) h
 |@ins a C dx N ea cl ha hn htk hm=>
  cases(show u=UE a from d);obtain⟨l,f5,_⟩:=mI I.hok ea;obtain⟨m,J,_⟩:=f5.look;exact Z1 (PySem.W.kitx_own (cl.get _) cl.hd ha hn htk hm) I.kIn J e (λz=>nomatch z) h
structure d4 (k:Nat) (A:Vn):Prop where
 hd:A.handled=Y
 dp:A.depth+3*k+5<recursionLimit
 un:A.units+16*k+200<YJ
 gd:A.guards=U []
theorem d4.mono{A:Vn}(r:d4 k A)(h:j<=k):d4 j A:=⟨r.hd,by have:=r.dp;lia,by have:=r.un;lia,r.gd⟩
theorem d4.deeper{A:Vn}(r:d4 (k+1) A)(a:Env):d4 k (A.deeper a):=
 ⟨r.hd,by have:=r.dp;show A.depth+1+3*k+5<_;lia,by have:=r.un;show A.units+3+16*k+200<_;lia,r.gd⟩
theorem DJ{A:Vn}{C:T8}:(A.under<|.builtin "type.__call__" ⟨.ref C::g,kw⟩).depth=A.depth+1:=by
 first|rfl|simp[Code.weight]
theorem DI{A:Vn}{C:T8}:(A.under<|.builtin "type.__call__" ⟨.ref C::g,kw⟩).units=A.units+1:=by
 first|rfl|simp[Code.cUnits]
theorem d4.make{A:Vn}(r:d4 (k+1) A)(C:T8)(a:a0g)(d:List<|U3×Uc):d4 k (A.under<|.builtin "type.__call__" ⟨.ref C::a,d⟩):=
 ⟨r.hd,by have:=r.dp;rw[DJ];lia,by have:=r.un;rw[DI];lia,by first|exact r.gd|simp[Code.guards]⟩
theorem d4.depth{A:Vn}(r:d4 k A):A.depth<recursionLimit:=by have:=r.dp;lia
theorem d4.units{A:Vn}(r:d4 k A):A.units+64<YJ:=by have:=r.un;lia
noncomputable def KZ:TA:=λ_ H Q=>Q [] H
def MT(z:TE)(a:TA):TA:=λL H Q=>z L H λx d=>a L d λb g=>Q (x::b) g
variable{a:List Expr}{c:TE}{t:TA}
theorem j6:PA X [] KZ:=λ_ _ _ _ H Q I h=>Calls.spliced_nil ⟨[],H,I,.nil,h⟩
theorem gi(b:PE X e c)(d:PA X a t)(f:autoParam (b0a X e a) qQ):PA X (e::a) (MT c t):=by
 intro pos R s L H Q I h;rw[f];exact Calls.spliced_cons<|ee (b R s L H _ I h) λu g ⟨x,i,j,o,v⟩=>(ee (d _ R g L i _ j v) λA n ⟨w,k,l,m,z⟩=>⟨x::w,k,l,.cons o m,z⟩)
def tTup(t:TA):TE:=λL H Q=>t L H λa d=>a.length<=UC/\∀p,d p=Y->Q (.ref p) (upd d p<|.tup a)
def Pk(t:TA):TE:=λL H Q=>t L H λa d=>a.length<=UC/\∀p,d p=Y->Q (.ref p) (upd d p<|.lst a)
theorem Qh{m}(h:PA X a t):PE X (.Tuple a m pos) (tTup t):=by
 refine λR s L H Q I j=>wpAny_Tuple_spliced<|ee (h _ R s L H _ I j) λc d ⟨f,g,i,r,z,q⟩=>⟨by rw[<-r.length];exact z,?_⟩;have k:=i.hok.fresh<|Ug _;exact⟨.ref _,upd g _<|.tup f,i.laid (λb u e=>T1 _ e) (Ug _) ⟨z,c,r,⟨_,Ut _ Z,Z,_,Z⟩⟩,Z,q _ k⟩
theorem fF(h:PA X a t):PE X (.List a pos) (Pk t):=by
 refine λR s L H Q I j=>wpAny_List_spliced<|ee (h _ R s L H _ I j) λc d ⟨f,g,i,r,z,q⟩=>⟨by rw[<-r.length];exact z,?_⟩;have k:=i.hok.fresh<|Ug _;exact⟨.ref _,upd g _<|.lst f,i.laid (λb u e=>T1 _ e) (Ug _) ⟨z,c,0,r,Ut _ Z⟩,Z,q _ k⟩
abbrev Sp:=a0k->Hp->VK->XK->Prop
abbrev O2:=List Env->Hp->Uj->XK->Uc->Uj->Prop
structure z_ (P:UT) (w:UY) (K:UA) (mg:a0j) (base:Vl) (A:Vn) (outer:List Env) (s:Uj) (H:Hp):Prop where
 frames:A.frames=U outer
 mod:Mod K mg base
 bs:∀b o,base.get? b=U o->s.heap.get? b=U o/\H b=Y
 bsz:base.objs.size<=s.heap.objs.size
 funs:s.heap.FunFrames base outer
 frf:∀b∈io outer,H b=Y
 hok:lw P w H s.heap
 bare:ZB s.gens
def CE(a:List Env)(P:UT)(w:UY)(H:Hp)(s:Uj)(Q:VK)(u:Uc)(b:Uj):Prop:=
 ∃v l,b.os=s.os/\ZB b.gens/\Un (io a) [] H l s.heap b.heap/\lw P w l b.heap/\aY v u/\Q v l
def CR(c:O2)(a:List Env)(P:UT)(w:UY)(H:Hp)(s:Uj)(Q:VK)(E:XK)(r:Result)(b:Uj):Prop:=
 match r with
 | .ok (.ret u)=>CE a P w H s Q u b
 | .ok _=>False
 | .error e=>c a H s E e b
structure e_ (P:UT) (w:UY) (K:UA) (mg:a0j) (base:Vl) (CX:O2) (k:Nat) (f:T8) (fd:Uw) (ps:a0i) (sp:Sp):Prop where
 len:∀vs H Q E,sp vs H Q E->vs.length=ps.length
 run:∀(A:Vn) (outer:List Env) (s:Uj) (H:Hp) (args:Args) (us:a0g) (vs:a0k) (Q:VK) (E:XK),d4 k A->z_ P w K mg base A outer s H->BindsTo s fd args (ps.zip us)->aE vs us->sp vs H Q E->
  YC (UP P w) A (.call (.ref f) args) (CR CX outer P w H s Q E) s
theorem e_.mono{P:UT}{w:UY}{K:UA}{f:T8}(F:e_ P w K g base CX j f i ps m)(h:j<=k):
  e_ P w K g base CX k f i ps m:=⟨F.len,λA a s H b c e Q E d=>F.run A a s H b c e Q E<|d.mono h⟩
theorem z_.make{P:UT}{w:UY}{K:UA}{A:Vn}{s:Uj}{H:Hp}(e:z_ P w K j i A g s H)(C:T8)(a:a0g)(d:List<|U3×Uc):
  z_ P w K j i (A.under<|.builtin "type.__call__" ⟨.ref C::a,d⟩) g s H:=⟨by first|exact e.frames|(simpa[Code.envs]using e.frames),e.mod,e.bs,e.bsz,e.funs,e.frf,e.hok,e.bare⟩
variable{a:Uj}
theorem b_.env0(I:b_ X R L H s):z_ X.prog X.w X.K X.mg X.base X.A X.stack s H:=
 ⟨I.ok.frames,I.ok.mod,I.bs,Um I.ok.bsz I.sz,I.stack,I.stkFree,I.hok,I.bare⟩
theorem b_.after{Q:VK}(I:b_ X R L H s)(h:CE X.stack X.prog X.w H s Q u a):EP X R L Q u a:=by
 obtain⟨v,l,f,c,n,e,r,q⟩:=h;obtain⟨j,g,d,t,i⟩:=a;obtain rfl:i=s.os:=f;exact⟨v,l,I.call n e c (λb z=>UG z nl),r,q⟩
def Sa(a:Sp)(d:a0k)(E:a0u)(t:TA):TE:=λL H Q=>t L H λb g=>a (b++d) g Q<|E L
def CA(C:T8)(m:U3)(b:Sp)(d:a0k)(E:a0u)(z:TE)(t:TA):TE:=λL H Q=>z L H λx g=>∃a dx N,x= .ref a/\g a=U (.ins C dx N)/\N.lookup m=Y/\
 t L g λc i=>b (x::(c++d)) i Q<|E L
def cz(K:UA)(d:Uw)(b:a0i)(c:a0g):Prop:=
 ∀(s:Uj) (a:a0g),K.In s.heap->(a++c).length=b.length->BindsTo s d ⟨a,[]⟩ (b.zip<|a++c)
theorem cz.all{K:UA}{a:a0i}(h:∀us:a0g,us.length=a.length->bindArgs g ⟨us,[]⟩=Wo (a.zip us)):cz K g a []:=λs us _ d=>by
 rw[UQ]at d⊢;exact .of_eq<|h us d
def dL(b:O2)(X:Cx)(E:a0u):Prop:=∀(R:a0d) (L:St) (H:Hp) (s:Uj) (e:Uc) (a:Uj),b_ X R L H s->b X.stack H s (E L) e a->X.xe e a
end
section
variable{X:Cx}{CX:O2}{k:Nat}{f C:T8}{fd:Uw}{ps:a0i}{sp:Sp}{z:a0k}{ds:a0g}{E:a0u}{x m:U3}{p pos cb:Xp}{e o:Expr}{f5:List Expr}{ta:TE}{t:TA}
theorem xI(F:e_ X.prog X.w X.K X.mg X.base CX k f fd ps sp)(c:d4 k X.A)(d:cz X.K fd ps ds)(m:aE z ds)(o:dL CX X E)
  (I:b_ X j i H s) (r:aE vs us) (h:sp (vs++z) H Q<|E i):Us (UP X.prog X.w) X.A (call (.ref f) us) (EP X j i Q) X.xe s:=by
 have b:=r.append m;have g:(us++ds).length=ps.length:=by rw[<-b.length];exact F.len _ _ _ _ h
 refine wpAny_call<|ZH (F.run _ _ s H ⟨us,[]⟩ _ _ Q _ c I.env0 (d s us I.kIn g) b h) λr p a=>?_;cases r with
 |error e=>exact o j i H s e p I a
 |ok fl=>
  cases fl with
  |ret u=>exact I.after a
  |next=>exact WZ a
  |brk=>exact WZ a
  |cont=>exact WZ a
theorem mB(F:e_ X.prog X.w X.K X.mg X.base CX k f fd ps sp)(g:d4 k X.A)(i:Gl X x)(m:X.mg x=U (.ref f))(j:Zx X.K (.ref f)=O)(l:cz X.K fd ps ds)(o:aE z ds)(C:dL CX X E)
  (D:PA X (e::f5) t) (b:autoParam (b0c x) qX) (n:autoParam (b0a X e f5) qQ) (c:autoParam (b0b X pos f5) qQ):
  PE X (.Call (.Name x p) (e::f5) [] pos) (Sa sp z E t):=by
 refine λa s u H Q I h=>ZQ<|uS I i m ?_ b;exact PySem.W.callWith_K I.ok.mod.kin j (ee (D _ a s u H _ I h) λG v ⟨M,y,d,r,q⟩=>⟨d.kIn,xI F g l o C d r q⟩) n c
theorem Oe(v:PE X o ta)(c:u_ X.K C)(p:k_ X.K C m f)(F:e_ X.prog X.w X.K X.mg X.base CX k f fd ps sp)(y:d4 k X.A)(B:cz X.K fd ps ds)(D:aE z ds)(G:dL CX X E)(M:PA X (e::f5) t)
  (d:autoParam (b0a X e f5) qQ) (g:autoParam (b0b X pos f5) qQ)
  (J:autoParam (Vv (.Call (.Attribute o m cb) (e::f5) [] pos) X.env=(do
   let ov <-Vv o X.env
   Yp cb.atName
   let (f,first) <-YY [ov] (getMethod ov m pl)
   callWith pos f first (WD pos<|Uu (e::f5) X.env) (XR pos<|WA [] X.env))) qQ):
  PE X (.Call (.Attribute o m cb) (e::f5) [] pos) (CA C m sp z E ta t):=by
 refine λb s i H Q I h=>PySem.W.methodCall_KW (ee (v b s i H _ I h) λu L ⟨x,N,j,eH,a,R,fs,S,P,l,q⟩=>?_) J;subst S;obtain rfl:u=UE a:=eH;apply t0 j P c p l;refine PySem.W.callWith_K I.ok.mod.kin p.kp (ee (M _ b L i N _ j q) λus T ⟨vs,ek,n,r,V⟩=>⟨n.kIn,?_⟩) d g
 exact xI (vs:= .ref a::vs) F y B D G n (.cons Z r) V
theorem Ls(g:PE X o ta)(c:u_ X.K C)(e:k_ X.K C m f)(F:e_ X.prog X.w X.K X.mg X.base CX k f fd ps sp)(i:d4 k X.A)(j:cz X.K fd ps ds)(p:aE z ds)(t:dL CX X E)
  (n:autoParam (Vv (.Call (.Attribute o m cb) [] [] pos) X.env=(do
   let N <-Vv o X.env
   Yp cb.atName
   let (f,first) <-YY [N] (getMethod N m pl)
   callWith pos f first (WD pos<|Uu [] X.env) (XR pos<|WA [] X.env))) qQ):
  PE X (.Call (.Attribute o m cb) [] [] pos) (CA C m sp z E ta KZ):=by
 refine λb s r H Q I h=>PySem.W.methodCall_KW (ee (g b s r H _ I h) λu B ⟨x,J,d,v,a,L,G,D,y,l,q⟩=>?_) n;subst D;obtain rfl:u=UE a:=v;apply t0 d y c e l;exact PySem.W.callWith_K0 d.kIn e.kp<|xI (vs:=[.ref a]) F i j p t d (.cons Z .nil) q
structure Mk (K:UA) (C f:T8):Prop where
 makes:PySem.W.makesIn K C=O
 init:Xv K (.ref C) "__init__"=U (U<|.ref f)
 fn:isFn K (.ref f)=O
 kp:Zx K (.ref C)=O
def PK(X:Cx)(b:List Keyword)(t:TA):Prop:=
 ∀(pos:Xp) (a:a0d) (s:Uj) (c:St) (H:Hp) (Q:a0k->Hp->Prop),b_ X a c H s->t c H Q->Us (UP X.prog X.w) X.A (evalAll<|(XR pos<|WA b X.env).map (·.2)) (AP X a c Q) X.xe s
variable{a:a0i}{k:Xp}{f:List Keyword}{m:TE}{o:TA}{z:Option U3}
theorem Oa(o:PE X e m)(c:PK X f t):PK X (⟨z,e,k⟩::f) (MT m t):=by
 intro pos a s b H Q I h;show Us _ _ _ _ _ s
 exact wpAny_evalAll_cons<|My<|ee (o a s b H _ I h) λu d ⟨x,g,i,p,C⟩=>My<|Wu<|TZ<|ee (c _ a d b g _ i C) λG q ⟨D,j,l,n,E⟩=>⟨x::D,j,l,.cons p n,E⟩
structure N_ (K:UA) (fd:Uw) (ps a:a0i) (g:a0g->a0g->a0g) (gV:a0k->a0k->a0k):Prop where
 to:∀(s:Uj) (us ws:a0g),K.In s.heap->(g us ws).length=ps.length->BindsTo s fd ⟨us,a.zip ws⟩ (ps.zip<|g us ws)
 rel:∀{vs:a0k} {us:a0g} {zs:a0k} {ws:a0g},aE vs us->aE zs ws->aE (gV vs zs) (g us ws)
variable{g:a0g->a0g->a0g}{a:a0k->a0k->a0k}
structure bi (N P:a0i) (sc:Scope):Prop where
 kind:sc.kind= .function
 co:sc.isCoroutine=T4
 gen:sc.isGenerator=T4
 nd:N.Nodup
 pre:N.take P.length=P
 par:∀x∈P,sc.names.lookup x=U .local\/sc.names.lookup x=U .cell
 nofree:∀y∈sc.names,y.2≠ .free
theorem wf{b:U3->Option Yi}{x:U3}:∀{a:List (U3×Uc)} {m:a0j},(∀v,(x,v)∉a)->bindL b a m x=m x
 |[],_,_=>rfl
 |(n,v)::r,m,h=>by
  unfold bindL;rw[wf λw c=>h w<|T3 _ c];split
  .have:x≠n:=by rintro rfl;exact h v Ud
   simp[this]
  .rfl
theorem wj{b:U3->Option Yi}{x:U3}:∀{a:List (U3×Uc)} {m:a0j},(∀v,(x,v)∉a)->bindC b a m x=m x
 |[],_,_=>rfl
 |(n,v)::r,m,h=>by
  unfold bindC;rw[wj λw c=>h w<|T3 _ c];split
  .rfl
  .have:x≠n:=by rintro rfl;exact h v Ud
   simp[this]
theorem wg{a:U3->Option Yi}{x:U3}{v:Uc}:∀{P:a0i} {e:a0g} {i:Nat} {m:a0j},P.Nodup->P[i]?=U x->e[i]?=U v->a x=U .local->
  bindL a (P.zip e) m x=U v
 |[],_,_,_,_,h,_,_=>by simp at h
 |_::_,[],_,_,_,_,h,_=>by simp at h
 |p::P,w::e,0,m,nd,h1,h2,hk=>by
  simp at h1 h2;subst h1;subst h2;show bindL a ((p,w)::P.zip e) m p=_;unfold bindL;rw[wf λv b=>(Vs.mp nd).1 (W7 b).1,Uf hk];simp
 |p::P,w::e,i+1,m,nd,h1,h2,hk=>by
  show bindL a _ m x=_;unfold bindL;exact wg (Vs.mp nd).2 (by exact h1) (by exact h2) hk
theorem wk{a:U3->Option Yi}{x:U3}{v:Uc}:∀{P:a0i} {e:a0g} {i:Nat} {m:a0j},P.Nodup->P[i]?=U x->e[i]?=U v->a x≠U .local->
  bindC a (P.zip e) m x=U v
 |[],_,_,_,_,h,_,_=>by simp at h
 |_::_,[],_,_,_,_,h,_=>by simp at h
 |p::P,w::e,0,m,nd,h1,h2,hk=>by
  simp at h1 h2;subst h1;subst h2;show bindC a ((p,w)::P.zip e) m p=_;unfold bindC;rw[wj λv b=>(Vs.mp nd).1 (W7 b).1,Uh hk];simp
 |p::P,w::e,i+1,m,nd,h1,h2,hk=>by
  show bindC a _ m x=_;unfold bindC;exact wk (Vs.mp nd).2 (by exact h1) (by exact h2) hk
noncomputable def gJ(N:a0i)(a:a0k):St:=a.map U++UL (N.length-a.length) Y
noncomputable def f9(CX:O2)(P:UT)(w:UY)(K:UA)(mg:a0j)(base:Vl)(N:a0i)(a:U3)(g:Scope)(f:T8)(k:Uc)(A:Vn)(outer:List Env)(s:Uj)(H:Hp)(E:XK):Cx where
 prog:=P
 w:=w
 K:=K
 mg:=mg
 base:=base
 A:=A.deeper (Yw a g s.heap.objs.size f k)
 N:=N
 s₀:=s
 H₀:=H
 env:=Yw a g s.heap.objs.size f k
 outer:=outer
 stack:=Yw a g s.heap.objs.size f k::outer
 ex:=[]
 calm:=O
 fn:=λ_=>O
 pn:=[]
 xe:=λe m=>Us (UP P w) (A.deeper<|Yw a g s.heap.objs.size f k) (leaving (Yw a g s.heap.objs.size f k) e) (λ_ b=>CX outer H s E e b) (λc b=>CX outer H s E c b) m
theorem yU{a:Scope}{x:U3}(h:a.names.lookup x=U .cell):∃c,(V8 n a.names []).lookup x=U c:=by
 exact Option.isSome_iff_exists.mp (cellsFrom_some _ n []<|.inl h)
theorem JQ{CX:O2}{K:UA}{N ps:a0i}{g:Scope}{f:T8}{A:Vn}{s L:Uj}{E:XK}{m:a0k}
  (S:bi N ps g) (t:A.handled=Y) (j:z_ P w K mg base A outer s H) (n:m.length=ps.length) (r:aE m us)
  (x:InCallC s s.heap.objs.size (bindL (Yw qual g s.heap.objs.size f cd).kindOf (ps.zip us) λ_=>Y) (V8 (s.heap.objs.size+1) g.names []) (bindC (Yw qual g s.heap.objs.size f cd).kindOf (ps.zip us) λ_=>Y) L):
  b_ (f9 CX P w K mg base N qual g f cd A outer s H E) [] (gJ N m) H L:=by
 have R:ps.length<=N.length:=by have:=U6 Y2 S.pre;rw[Ve]at this;lia
 obtain⟨I,o,rfl,ek⟩:=x.done;have l:∀b:T8,b∉(f9 CX P w K mg base N qual g f cd A outer s H E).ex:=λb z=>UG (show b∈([]:a0r)from z) nl;refine⟨⟨j.mod,S.kind,Z,Z,Ug _,λy z c I d=>?_,λy hy=>?_,λy c _ h=>?_,λ_=>t,Around.frames_deeper j.frames,.inr ⟨Z,Z⟩,λb z=>UG z<|l b,j.bs,j.bsz,λb _ _=>l b,λb z=>UG z<|l b,j.funs,j.frf⟩,
  rfl,j.bare,Un.kept ek,⟨_,x.toInCall.ns,λi y v I d W=>?_⟩,λy c h=>⟨_,x.cell y c h⟩,j.hok.fresh<|Ug _,λy c h=>?_,λp B=>UG (show p∈([]:a0d)from B) nl,j.hok.kept ek,?_⟩
 .exact name_of_addr x.apart (VR I) (VR d)
 .have hy:=hy
  obtain hy|hy:=hy
  .exact yU hy
  .exact UG Z (S.nofree _<|VR hy)
 .exact Xu (x.above y c<|VR h)
 .have J:i<m.length:=by
   unfold gJ at d;by_cases J:i<m.length
   .exact J
   .rw[Wq<|by simpa using J]at d
    rw[WG]at d;split at d<;>cases d
  have C:m[i]?=U v:=by
   unfold gJ at d;rw[Yc (by simpa using J),T9]at d;cases e:m[i]? with
   |none=>rw[e]at d;cases d
   |some a=>rw[e]at d;cases d;rfl
  obtain⟨u,Q,T⟩:=r.get C;have B:ps[i]?=U y:=by
   rw[<-S.pre,List.getElem?_take_of_lt rk];exact I
  have F:ps.Nodup:=by rw[<-S.pre];exact S.nd.sublist<|List.take_sublist _ _
  refine⟨u,T,?_⟩;obtain k|k:=S.par y (Uo B)
  .exact .inl ⟨k,wg F B Q k⟩
  .obtain⟨c,e⟩:=yU k
   refine .inr ⟨.inl k,c,e,?_⟩;have q:=x.cell y c e;rw[wk F B Q (by show g.names.lookup y≠_;rw[k];decide)]at q;exact q
 .exact j.hok.fresh (Xu<|x.above y c<|VR h)
 .unfold gJ
  show _=N.length;grind
theorem Nr{CX:O2}{K:UA}{k:Nat}{f:T8}
  {N ps:a0i} {sp:Sp} (I:K.lookup f=U ⟨oc,od,.func<|Yv name qual params body scope dV kV doc pm an cdv ct,osl⟩) (B:Y9 K cdv qual=O) (S:bi N ps scope)
  (z:∀m H Q E,sp m H Q E->m.length=ps.length)
  (d:∀(A:Vn) (g:List Env) (s:Uj) (H:Hp) (m:a0k) (Q:VK) (E:XK),d4 k (A.deeper<|Yw qual scope s.heap.objs.size f cdv)->sp m H Q E->
   ∃t,PSs (f9 CX P w K mg base N qual scope f cdv A g s H E) body t/\t {nx:=λ_ c=>Q .non c,rt:=Q} (gJ N m) H):
  e_ P w K mg base CX (k+1) f (Yv name qual params body scope dV kV doc pm an cdv ct) ps sp:=by
 refine⟨z,λA g s H D G m Q E F i cb r j=>?_⟩;have f5:=z _ _ _ _ j;have R:=i.mod.kin.keeps λb o e=>(i.bs b o e).1;have h:∀y∈ps.zip G,scope.names.lookup y.1=U _\/(scope.names.lookup y.1=U _/\((V8 (s.heap.objs.size+1) _ []).lookup y.1).isSome=O):=λ⟨n,v⟩ M=>by
  obtain q|q:=S.par n (W7 M).1
  .exact .inl q
  .exact .inr ⟨q,cellsFrom_some _ _ _<|.inl q⟩
 refine codeAny_call_function F.depth (R _ _ I) Z S.co S.gen Z (PySem.W.codeRec_of R B)<|cb _ _ _ _<|wpAny_newFunctionEnv_cells S.kind h λX he T x=>?_;subst he;refine⟨(i.mod.nolimit.keeps λb o e=>(i.bs b o e).1).keeps x.toInCall.keep,codeAny_func ?_⟩;obtain⟨t,ht,hq⟩:=d A g s H m Q E (F.deeper _) j;refine Vt (ht [] T _ H _ (JQ S F.hd i f5 r x) hq) (λfl C p=>?_) λe C p=>p;have l:∀{a:St} {c:Hp} {v:V} {u:Uc},b_ (f9 CX P w K mg base N qual scope f cdv A g s H E) [] a c C->aY v u->Q v c->CE g P w H s Q u C:=
  λ{a c v u} J L q=>⟨v,c,J.os,J.bare,J.base,J.hok,L,q⟩
 cases fl with
 |ret u=>
  obtain⟨v,a,c,J,L,q⟩:=p;exact l J L q
 |next=>
  obtain⟨a,c,J,q⟩:=p;exact l (v:=V.non) J Z q
 |brk=>
  obtain⟨_,_,_,q⟩:=p;exact WZ q
 |cont=>
  obtain⟨_,_,_,q⟩:=p;exact WZ q
variable{f T:String}{r:a0J}
def tCB(r:a0J)(t:TA):TE:=λa H Q=>t a H λe b=>r e b Q
theorem nh(i:cN X (.builtin f) r)(j:Gl X x)(g:X.mg x=Y)(l:XN x=U (.builtin f))(k:PA X (e::f5) t)(m:autoParam (x≠"__name__") qX)(b:autoParam (b0c x) qX)
  (n:autoParam (b0a X e f5) qQ) (c:autoParam (b0b X pos f5) qQ):PE X (.Call (.Name x p) (e::f5) [] pos) (tCB r t):=by
 exact λa s d H Q I h=>ZQ<|gE I j g l (Rows.callWith_builtin1 (ee (k _ a s d H _ I h) λo q ⟨z,u,v,C,D⟩=>i a q d u z o Q v C D) n c) m b
theorem vN(i:cN X (.type T) r)(j:Gl X x)(f:X.mg x=Y)(l:XN x=U (.type T))(g:PA X (e::f5) t)(k:autoParam (x≠"__name__") qX)(b:autoParam (b0c x) qX)
  (n:autoParam (b0a X e f5) qQ) (c:autoParam (b0b X pos f5) qQ):PE X (.Call (.Name x p) (e::f5) [] pos) (tCB r t):=by
 exact λa s d H Q I h=>ZQ<|gE I j f l (VJ (ee (g _ a s d H _ I h) λm q ⟨o,u,v,z,C⟩=>i a q d u o m Q v z C) n c) k b
end
end L2
namespace HT
def lexLt:a0e->a0e->Bool
 |[],[]=>T4
 |[],_::_=>O
 |_::_,[]=>T4
 |x::xs,y::ys=>if x=y then lexLt xs ys else decide (x<y)
theorem lexLt_cons(x y:Int)(D E:a0e):lexLt (x::D) (y::E)=if x=y then lexLt D E else decide (x<y):=Z
theorem ww:lexLt [] []=T4:=Z
theorem uQ(y:Int)(D:a0e):lexLt [] (y::D)=O:=Z
theorem uR(x:Int)(D:a0e):lexLt (x::D) []=T4:=Z
theorem Mj(A:Vn)(s:Uj)(a:Int)(t:Tok)(c:Int)(u:Tok):∃e,V1 A s (.int a t) (.int c u) e/\(e=O↔a=c):=
 ⟨(a==c),V1.int_int a t c u,nl⟩
theorem Le(A:Vn)(s:Uj)(a:Int)(t:Tok)(c:Int)(u:Tok)(D:UT)(w:UY)(E:a0f)(Q:a0f)(h:Q (.bool<|decide (a<c)) s):
  Us (UP D w) A (richCompare .Lt (.int a t)<|.int c u) Q E s:=
 (Rows.lt_int h:Us _ A _ Q E s)
section
open PySem.SeqAt
open PySem.AutoSeq1 (wpAny_loadPart')
open PySem.MeetsSeq PySem.MeetsSeq2 PySem.MeetsSeq3
theorem wo(l b:T8)(D f:a0E)(n ek:Nat)(f5 eH:a0U)(z P:Array<|Option Uc)(K I:a0e)(cb:YV D.toList K)(W:YV f.toList I):
  Meets (Builtin.«tuple.__lt__» ⟨[.ref l,.ref b],[]⟩)
   (λ_ R s=>s.heap.get? l=U {cls:= .type "tuple",dict:=f5,data:= .seq D n,slots:=z}/\s.heap.get? b=U {cls:= .type "tuple",dict:=eH,data:= .seq f ek,slots:=P}/\
    R (.ok<|.ret<|.bool<|lexLt K I) s):=
 .of_wp λE w A R s h=>by
  obtain⟨J,g,d,L,M⟩:=s;obtain⟨hl,hb,h⟩:=h;have f2:=AutoSeq1.sub_tuple_tuple;have z1:D.size=K.length:=by rw[<-cb.length];simp
  have z2:f.size=I.length:=by rw[<-W.length];simp
  wp_walk using wpAny_loadPart' hl,wpAny_loadPart' hb,Zf _ (λG b V=>b.1=Y/\V=⟨J,g,d,L,M⟩/\∃(S N:a0g) (j k:a0e),G=S.zip N/\
   YV S j/\YV N k/\j.length+f.size=k.length+D.size/\R (.ok<|.ret<|.bool<|lexLt j k) ⟨J,g,d,L,M⟩) _
  case turn=>
   rintro⟨y,x⟩ G b V ⟨v,rfl,S,N,j,k,m,B,o,i,p⟩;cases B with
   |nil=>rw[ZF]at m;cases m
   |cons a t F=>
    cases o with
    |nil=>rw[List.zip_nil_right]at m;cases m
    |cons c u H=>
     injection m with Q C
     injection Q with hy hx
     subst hy hx;rw[lexLt_cons]at p;simp only[Ur]at i;obtain⟨e,he,r⟩:=Mj _ ⟨J,g,d,L,M⟩ a t c u;refine My<|he E w _ _ ?_;cases e with
     |true=>
      rw[Uf<|r.mp Z]at p
      wp_walk
      exact⟨Z,Z,_,_,_,_,C,F,H,by grind,p⟩
     |false=>
      rw[Uh (λq=>UG (r.mpr q) Uk)]at p;have T:=Le A.in1 ⟨J,g,d,L,M⟩ a t c u E w
      wp_walk using T
      exact⟨_,Z,by exact p⟩
  case fin=>
   rintro⟨b1,b2⟩ V ⟨v,rfl,S,N,j,k,m,B,o,i,p⟩;subst v;have X:lexLt j k=decide (D.size<f.size):=by
    cases B with
    |nil=>
     cases o with
     |nil=>
      simp only[W6]at i;exact(UX rk).symm
     |cons c u hw=>
      simp only[W6,Ur]at i;exact(Ux rk).symm
    |cons a t X=>
     cases o with
     |nil=>
      simp only[W6]at i;exact(UX rk).symm
     |cons c u hw=>
      rw[VU]at m;cases m
   rw[X]at p
   wp_walk
   exact⟨_,Z,by simpa[Builtin.Tuple.tupleCompareSizes]using p⟩
  case h=>
   exact⟨Z,Z,D.toList,f.toList,K,I,Z,cb,W,rk,h⟩
end
section
variable{z:UT}{w:UY}{A:Vn}{E:a0f}{s:Uj}
theorem lt_tupInts{D a:a0E}(o:IsTup s.heap l D)(p:IsTup s.heap b a)(q:YV D.toList ns)(r:YV a.toList ms)
  (t:A.units<YJ) (h:Q (.bool<|lexLt ns ms) s):Us (UP z w) A (Vz .Lt (.ref l)<|.ref b) Q E s:=by
 obtain⟨⟨M,u,G,S⟩,j,k,n,K⟩:=id o;obtain⟨⟨m,f,g,i⟩,c,d,v,e⟩:=id p;subst k K d e;exact richCompare_meets_room (op:= .Lt) ⟨_,j,Z⟩ ⟨_,c,Z⟩ PySem.F.slot_tuple_lt PySem.F.entry_tuple_lt (PySem.F.args_tuple_lt_2 _ _) (wo l b D a n v u f S i ns ms q r)
  ⟨j,c,show ZY _≠Value.notImplemented/\Q _ s from⟨(λx=>nomatch x),h⟩⟩ t
theorem cat_tup{D a:a0g}(u:IsTup s.heap t D.toArray)(v:IsTup s.heap b a.toArray)(m:D≠[])
  (y:a=[]->Q (.ref t) s) (B:a≠[]->Q (.ref s.heap.objs.size) {s with heap:=s.heap.push {cls:= .type "tuple",data:= .seq (D++a).toArray}})
  (k:D.length+a.length<=UC):Us (UP z w) A (W8 .Add (.ref t)<|.ref b) Q E s:=by
 obtain⟨⟨cls,o,data,G⟩,i,p,n,K⟩:=id u;obtain⟨⟨q,d,l,f⟩,c,g,r,h⟩:=id v;subst p K g h;have e:D.toArray++a.toArray=(D++a).toArray:=by simp
 by_cases j:a=[]
 .exact concat_meets ⟨_,i,Z⟩ ⟨_,c,Z⟩ noFill_tuple_add seq_tuple_add ZP ZG (Zt _ _)
   (tuple_addW1 t b _ _ n r o d G f (by simpa using m)<|by simp[j]) ⟨i,c,y j⟩
 .refine concat_meets ⟨_,i,Z⟩ ⟨_,c,Z⟩ noFill_tuple_add seq_tuple_add ZP ZG (Zt _ _)
   (tuple_addW2 t b _ _ n r o d G f (by simpa using m) (by simpa using j)<|by exact k) ⟨i,c,?_⟩
  rw[e];exact B j
noncomputable def sIx(n d:Nat):a0o->Nat
 |none=>d
 |some v=>if v<0 then(v+(n:Int)).toNat else W0 v.toNat n
theorem sIx_none(n d:Nat):sIx n d Y=d:=Z
theorem sIx_nat(n d k:Nat):sIx n d (U (k:Int))=W0 k n:=by
 show(if(k:Int)<0 then((k:Int)+(n:Int)).toNat else W0 _ n)=W0 k n;rw[Uh rk,VA]
theorem PR(n d:Nat)(s:d<=n)(o:a0o):sIx n d o<=n:=by
 cases o with
 |none=>exact s
 |some v=>
  show(if v<0 then(v+(n:Int)).toNat else W0 _ n)<=n;by_cases a:v<0
  .rw[Uf a];lia
  .rw[Uh a];exact Ye _ _
theorem BC(v:Int)(n d:Nat):(if v<0 then max (v+(n:Int)) 0 else W0 v (n:Int))=((sIx n d (U v):Nat):Int):=by
 show(if v<0 then max _ 0 else W0 v _)=(((if v<0 then(v+(n:Int)).toNat else W0 _ n):Nat):Int);by_cases a:v<0
 .simp only[Uf a];lia
 .simp only[Uh a];grind
theorem EW(s a:a0o)(n:Nat):YT s a 1 (n:Int)=(((sIx n 0 s:Nat):Int),((sIx n n a:Nat):Int)):=by
 have b:¬((1:Int)<0):=by lia
 unfold YT;apply WM
 .cases s with
  |none=>rfl
  |some v=>exact BC v n 0
 .cases a with
  |none=>rfl
  |some v=>exact BC v n n
theorem CW(i j:Nat):Xz (i:Int) (j:Int) 1=j-i:=by
 unfold Xz;have a:(1:Int)>0:=by lia
 simp only[a];split<;>lia
theorem sE(p:IsPart v o)(h:Q o s):Us (UP z w) A (Builtin.Slice.slicePartIndex v) Q E s:=by
 cases p with
 |none=>exact slicePart_none h
 |int i t=>exact slicePart_int h
theorem rp{G:T8}{d e:Uc}{D a:a0o}{n:Nat}{Q:Int×Int×Nat->Uj->Prop}(K:s.heap.IsSliceOf G d e .none)(M:IsPart d D)(f:IsPart e a)
  (h:Q (((sIx n 0 D:Nat):Int),1,sIx n n a-sIx n 0 D) s):Us (UP z w) A (Builtin.Slice.sliceApplied (.ref G)<|Wo (n:Int)) Q E s:=by
 obtain⟨S,b,g,c⟩:=id K;refine My<|My<|VI b c Z<|My<|VI b c Z<|My<|VI b c Z<|TZ<|My<|slicePart_none ?_;refine My<|sE M<|My<|sE f<|My<|TZ ?_;show Us _ _ (match YT D a 1 (n:Int)with|(D,a)=>Wo (D,(1:Int),Xz D a 1)) _ _ s
 rw[EW D a n];show Us _ _ (Wo _) _ _ s;rw[CW];exact TZ h
theorem Lp(s:a0E)(i k:Nat):((Ue k).filterMap λ(m:Nat)=>s[((i:Int)+(m:Int)*1).toNat]?).toArray=((s.toList.drop i).take k).toArray:=by
 have e:(λ(m:Nat)=>s[((i:Int)+(m:Int)*1).toNat]?)=λm=>s[i+m]?:=by
  funext m;have:((i:Int)+(m:Int)*1).toNat=i+m:=by lia
  rw[this]
 rw[e];have:=pick_run s i k;rw[List.filterMap_map]at this;have a:((λx=>s[x]?)∘λx=>i+x)=λm=>s[i+m]?:=Z;rw[a]at this;rw[this]
theorem getItem_tuple_cut{D:a0E}{G b:a0o}(c:IsTup s.heap t D)(K:s.heap.IsSliceOf o vl vu .none)(M:IsPart vl G)(i:IsPart vu b)
  (j:¬(sIx D.size 0 G=0/\sIx D.size D.size b=D.size))
  (h:Q (.ref s.heap.objs.size) {s with heap:=s.heap.push {cls:= .type "tuple",data:= .seq ((D.toList.drop<|sIx D.size 0 G).take<|sIx D.size D.size b-sIx D.size 0 G).toArray}})
  (k:D.size<=UC):Us (UP z w) A (getItem (.ref t)<|.ref o) Q E s:=by
 have a:sizeOk (.seq ((D.toList.drop<|sIx D.size 0 G).take<|sIx D.size D.size b-sIx D.size 0 G).toArray):=by
  show((D.toList.drop<|sIx _ 0 G).take<|sIx _ _ b-sIx _ 0 G).toArray.size<=UC;rw[UB,Ve,X7,UO];omega
 have n:sIx _ _ b<=D.size:=PR _ _ (Ug _) b;obtain⟨S,d,e,l⟩:=id K;unfold getItem
 try with_reducible apply VB
 refine My<|wpAny_sequenceKey c.typeIs vy ?_;refine My (wpAny_callSpecial?_slot c.typeIs Yl
  (U2 Yl c.typeIs entry_tuple_getitem ?_<|args_tuple_getitem _ _))
 show Us _ _ (Builtin.Tuple.tupleItemsOf _>>=_) _ _ s;refine My<|tupleItemsOf_ c<|My<|wpAny_typeOf (⟨S,d,e⟩) ?_;refine My<|rp K M i ?_;have g:¬((((sIx D.size 0 G:Nat):Int)==0&&(1:Int)==1&&(sIx D.size D.size b-sIx D.size 0 G)==D.size)=O):=by
  intro q;rw[US,US]at q;have p:=eq_of_beq q.2;exact j ⟨rk,by omega⟩
 show Us _ _ (if(((sIx _ 0 G:Nat):Int)==0&&(1:Int)==1&&(sIx _ _ b-sIx _ 0 G)==D.size)=O then _ else _) _ _ s;rw[Uh g,Lp]
 first
  |exact My (U1 (TZ ⟨_,Z,TZ h⟩) a)
  |exact My _
  |exact My _
  |exact My _
end
end HT
namespace L2
abbrev TO:=St->Hp->(a0o->Hp->Prop)->Prop
def PO(X:Cx)(e:Option Expr)(t:TO):Prop:=
 ∀(a:a0d) (s:Uj) (b:St) (H:Hp) (Q:a0o->Hp->Prop),b_ X a b H s->t b H Q->
  Us (UP X.prog X.w) X.A (evalPart e X.env) (λu D=>∃o c,b_ X a b c D/\IsPart u o/\Q o c) X.xe s
noncomputable def NP:TO:=λ_ H Q=>Q Y H
def R8(t:TE):TO:=λa H Q=>t a H λx b=>∃i,x= .int i/\Q (U i) b
theorem jF{D:a0e}:∀{E:a0g},aE (D.map V.int) E->YV E D:=by
 induction D with
 |nil=>intro E r;cases r;exact .nil
 |cons n D G=>
  intro E r;cases r with
  |cons K a=>
   obtain⟨t,e⟩:=K;subst e;exact .cons n t<|G a
section
variable{X:Cx}{e:Expr}{te:TE}{cb f5:Option Expr}{tl th:TO}{pos p2:Xp}
theorem zP:PO X Y NP:=by
 intro a s b H Q I h;exact TZ ⟨Y,H,I,.none,h⟩
theorem zO(h:PE X e te):PO X (U e) (R8 te):=by
 intro a s b H Q I c;refine ee (h a s b H _ I c) λu g ⟨x,d,f,D,E⟩=>?_;obtain⟨i,rfl,q⟩:=E;obtain⟨t,rfl⟩:=D;exact⟨U i,d,f,.int i t,q⟩
def SlR(X:Cx)(r:V->a0o->a0o->Hp->VK->Prop):Prop:=
 ∀(a:a0d) (s:Uj) (b:St) (H:Hp) (x:V) (v c d:Uc) (cb f5:a0o) (e:T8) (Q:VK),b_ X a b H s->aY x v->s.heap.IsSliceOf e c d .none->IsPart c cb->IsPart d f5->r x cb f5 H Q->
  ∃T f,typeLookup (.type T) "__getitem__"=Wo (U<|.builtin f)/\s.TypeIs v T/\Us (UP X.prog X.w) X.A (getItem v<|.ref e) (EP X a b Q) X.xe s
def tSl(r:V->a0o->a0o->Hp->VK->Prop)(te:TE)(tl th:TO):TE:=λa H Q=>te a H λx b=>tl a b λl c=>th a c λu d=>r x l u d Q
theorem rJ(j:SlR X r)(k:PE X e te)(m:PO X cb tl)(n:PO X f5 th):PE X (.Subscript e (.Slice cb f5 Y p2) pos) (tSl r te tl th):=by
 refine λa s d H Q I h=>Subscript_<|ee (k a s d H _ I h) λv o ⟨x,p,t,D,E⟩=>(wpAny_Slice<|ee (m a o d p _ t E) λf y ⟨l,B,C,G,K⟩=>ee (n a y d B _ C K) λg c ⟨u,i,F,J,M⟩=>?_);apply TZ;obtain⟨T,w,N,A,P⟩:=j a {c with heap:=c.heap.push {cls:= .type "slice",data:= .fields #[f,g,.none]}} d i x v f g l u _ Q (F.kept λb R q=>T1 _ q) D (Heap.IsSliceOf.new ..) G J M;exact tail_any A N P (by with_unfolding_all rfl)
noncomputable def lU(e:a0k)(cb f5:a0o):a0k:=(e.drop<|HT.sIx e.length 0 cb).take<|HT.sIx e.length e.length f5-HT.sIx e.length 0 cb
theorem rb(e:a0k)(cb f5:a0o):(lU e cb f5).length<=e.length:=by
 unfold lU;rw[Ve,X7];lia
def rSlT(K:UA):V->a0o->a0o->Hp->VK->Prop:=λx cb f5 H Q=>∃a e,x= .ref a/\i0 K H a e/\
 ¬(HT.sIx e.length 0 cb=0/\HT.sIx e.length e.length f5=e.length)/\∀p,H p=Y->Q (.ref p) (upd H p<|.tup<|lU e cb f5)
theorem PC:SlR X (rSlT X.K):=by
 intro d s l H x v m n cb f5 S Q I i E G j h;obtain⟨a,e,rfl,M,k,q⟩:=h;cases i;obtain⟨D,r,f,g⟩:=I.tuple M;have c:D.toArray.size=e.length:=by exact r.length.symm
 refine⟨"tuple",_,Yl.lookup,f.typeIs,HT.getItem_tuple_cut f E G j (by rw[c];exact k) ?_ (by rw[c];exact g)⟩;rw[c];refine⟨.ref _,_,I.laid (λb p q=>T1 _ q) (Ug _) ?_,Z,q _<|I.hok.fresh<|Ug _⟩;exact⟨Um (rb e cb f5) g,_,(r.drop<|HT.sIx _ 0 cb).take<|HT.sIx _ _ f5-HT.sIx _ 0 cb,IsTup.new _ _⟩
def CS(K:UA):R2:=λx y H Q=>∃a b D e,x= .ref a/\y= .ref b/\i0 K H a D/\i0 K H b e/\D≠[]/\D.length+e.length<=UC/\
 (e=[]->Q (.ref a) H)/\(e≠[]->∀p,H p=Y->Q (.ref p) (upd H p<|.tup<|D++e))
theorem aE.nil_iff(r:aE a b):b=[]↔a=[]:=by
 cases r with
 |nil=>simp
 |cons _ _=>simp
theorem Ol:hE X (W8 .Add) (CS X.K):=by
 intro d s m H x y v u Q I i j h;obtain⟨a,b,D,E,rfl,rfl,G,k,M,f,S,V⟩:=h;cases i;cases j;obtain⟨cb,e,l,_⟩:=I.tuple G;obtain⟨g,c,p2,_⟩:=I.tuple k;refine HT.cat_tup l p2 (λz=>M<|e.nil_iff.mp z) (λz=>⟨.ref a,H,I,Z,S<|c.nil_iff.mp z⟩) (λz=>⟨.ref _,_,I.laid (λb n q=>T1 _ q) (Ug _) ?_,Z,V (λw=>z<|c.nil_iff.mpr w) _<|I.hok.fresh<|Ug _⟩) (by rw[<-e.length,<-c.length];exact f);exact⟨by rw[Uv];exact f,_,e.append c,IsTup.new _ _⟩
noncomputable def u3(n:Nat)(i:Int):a0L:=if 0<=i then(if i<n then U i.toNat else Y)else if -(n:Int)<=i then U (i+n).toNat else Y
def ra{e:Type}(xs:List e)(i:Int):Option e:=(u3 xs.length i).bind λj=>xs[j]?
theorem AD(h:u3 n i=U j):seqIndex? i n=U j/\j<n/\-(n:Int)<=i/\i<n:=by
 unfold u3 at h;by_cases b:0<=i
 .rw[Uf b]at h
  by_cases a:i<n
  .rw[Uf a]at h
   have e:=UR h;exact⟨by rw[seqIndex_of b a,e],rk,rk,a⟩
  .rw[Uh a]at h;cases h
 .rw[Uh b]at h
  by_cases a:-(n:Int)<=i
  .rw[Uf a]at h
   exact⟨by rw[seqIndex_neg rk a,UR h],rk,a,rk⟩
  .rw[Uh a]at h;cases h
theorem BG{E:Type}{D:List E}{i:Int}{v:E}(h:ra D i=U v):∃j,seqIndex? i D.length=U j/\D[j]?=U v/\j<D.length/\-(D.length:Int)<=i/\i<D.length:=by
 unfold ra at h;cases e:u3 _ i with
 |none=>rw[e]at h;cases h
 |some j=>
  rw[e]at h;obtain⟨a,b,c,d⟩:=AD e;exact⟨j,a,h,b,c,d⟩
theorem O8{E:Type}{D:List E}{j:Nat}{v:E}(h:D[j]?=U v):ra D (j:Int)=U v:=by
 have a:=(Ui.mp h).1;have e:u3 D.length (j:Int)=U j:=by
  unfold u3;rw[Uf rk,Uf rk];simp
 unfold ra;rw[e];exact h
def BJ(b:Expr):Prop:=∀o i,subscripted b T4 o i=operate [o,i] (getItem o i)
def U_(X:Cx)(r:R2):Prop:=
 ∀(c a:Expr) (b:a0d) (s:Uj) (d:St) (H:Hp) (x y:V) (v u:Uc) (Q:VK),b_ X b d H s->aY x v->aY y u->r x y H Q->
  subscripted a T4 v u=operate [v,u] (getItem v u)->Us (UP X.prog X.w) X.A (subscriptTail c a v u) (EP X b d Q) X.xe s
def MtR(X:Cx)(c:String)(r:a0K):Prop:=
 ∀(a:a0d) (s:Uj) (b:St) (H:Hp) (x:V) (e:a0k) (v:Uc) (D:a0g) (Q:VK),b_ X a b H s->aY x v->aE e D->r x e H Q->
  Us (UP X.prog X.w) X.A (call (.builtin c)<|v::D) (EP X a b Q) X.xe s
variable{a b:Expr}{C B:TE}
theorem U_.or(h:U_ X r)(b:U_ X k):U_ X (λx y H Q=>r x y H Q\/k x y H Q):=by
 intro c d f s g H x y v u Q I i j q a;obtain q|q:=q
 .exact h c d f s g H x y v u Q I i j q a
 .exact b c d f s g H x y v u Q I i j q a
theorem ib(d:U_ X r)(e:PE X a C)(f:PE X b B)(D:BJ b):PE X (.Subscript a b pos) (tOp r C B):=by
 exact λc s g H Q I h=>Subscript_<|Mw e f I h λv u i x y j k l m q=>d a b c i g j x y v u Q k l m q<|D _ _
def xN(K:UA):R2:=λx y H Q=>∃p a i v,x= .ref p/\y= .int i/\fy K H p a/\ra a i=U v/\Q v H
def Lf(K:UA):R2:=λx y H Q=>∃p a i v,x= .ref p/\y= .int i/\i0 K H p a/\ra a i=U v/\Q v H
theorem eM:U_ X (xN X.K):=by
 intro g k c s n H x y v u Q I B C h e;obtain⟨p,E,i,z,rfl,rfl,F,J,q⟩:=h;cases B;obtain⟨t,rfl⟩:=C;obtain⟨a,r,b,P⟩:=I.list F;obtain⟨j,f,L,R,N,h5⟩:=BG J;obtain⟨w,o,l⟩:=r.get L;have T:=r.length;have G:=pi;have d:EP X c n Q w s:=⟨z,H,I,l,q⟩;by_cases A:0<=i
 .have m:i.toNat=j:=by
   rw[seqIndex_of A h5]at f;exact UR f
  exact item_listR b.isList A rk (by rw[m];simpa using o) d e
 .have m:(i+(a.toArray.size:Int)).toNat=j:=by
   rw[seqIndex_neg rk N]at f;rw[UB,<-T];exact UR f
  exact subscriptTail_builtinR b.isList.typeIs slot_list_getitem.lookup
   (wpAny_getItem_list_neg b.isList rk (by rw[UB]<;>lia) rk (by rw[m];simpa using o) ⟨Z,d⟩) e
theorem Rg:U_ X (Lf X.K):=by
 intro d f c s l H x y v u Q I m n h b;obtain⟨p,E,i,z,rfl,rfl,o,A,q⟩:=h;cases m;obtain⟨t,rfl⟩:=n;obtain⟨e,r,a,L⟩:=I.tuple o;obtain⟨j,B,C,N,k,h5⟩:=BG A;obtain⟨w,F,g⟩:=r.get C;have J:=r.length;have G:=pi;exact subscriptTail_builtinR a.typeIs slot_tuple_getitem.lookup
  (getItem_tuple a rk rk (by rw[UB,<-J];exact B) (by simpa using F) ⟨Z,⟨z,H,I,g,q⟩⟩) b
theorem DH(a:a0g)(n j:Nat)(u:Uc):VD (·.setIfInBounds j u) {cls:= .type "list",data:= .seq a.toArray n}={cls:= .type "list",data:= .seq (a.set j u).toArray n}:=by
 simp[VD]
theorem b_.lst{s:Uj}{xs:a0k}(I:b_ X c d H s)(h:H p=U (.lst xs)):
  ∃(a:a0g) (n:Nat),aE xs a/\s.heap.get? p=U {cls:= .type "list",data:= .seq a.toArray n}/\xs.length<=UC:=by
 obtain⟨z,a,n,r,e⟩:=I.hok p _ h;exact⟨a,n,r,e,z⟩
theorem b_.lstUpd{s:Uj}{D C:a0k}{B a:a0g}(I:b_ X j k H s)(h:H p=U (.lst D))
  (d:s.heap.get? p=U {cls:= .type "list",data:= .seq B.toArray n}) (c:f {cls:= .type "list",data:= .seq B.toArray n}={cls:= .type "list",data:= .seq a.toArray n'}) (r:aE C a) (g:C.length<=UC) (t:Nat):
  b_ X j k (upd H p<|.lst C) {s with heap:=s.heap.update p f,toks:=t}:=by
 have e:(s.heap.update p f).get? p=U {cls:= .type "list",data:= .seq a.toArray n'}:=by
  rw[W2 f d (by rw[c]<;>rfl),c]
 refine I.write (by rw[h];trivial) (.inl Z) (λb u i q=>(Heap.get?_update_other _ _<|Ne.symm i).trans q) ⟨_,e⟩ ?_;exact⟨g,a,n',r,e⟩
def MZ:V->V->V->Hp->(Hp->Prop)->Prop:=λo i v H Q=>∃p a k j,o= .ref p/\i= .int k/\H p=U (.lst a)/\u3 a.length k=U j/\Q (upd H p<|.lst<|a.set j v)
theorem iu:MC X MZ:=by
 intro c s C H o i v P R u Q I F J L h;obtain⟨p,b,k,j,rfl,rfl,m,N,q⟩:=h;cases F;obtain⟨t,rfl⟩:=J;obtain⟨a,n,r,f,ek⟩:=I.lst m;obtain⟨d,T,w,y⟩:=AD N;have g:=r.length;have e:=pi;have A:=
  I.lstUpd m f (DH a n j u) (r.set L j) (by rw[VL];exact ek) s.toks
 by_cases B:0<=k
 .have l:k.toNat=j:=by
   rw[seqIndex_of B y]at d;exact UR d
  exact PySem.W.ki_setAt f B rk (by rw[UB,<-g];exact y) (by rw[l];exact⟨_,A,q⟩)
 .have l:(k+(a.toArray.size:Int)).toNat=j:=by
   rw[seqIndex_neg rk w]at d;rw[UB,<-g];exact UR d
  exact PySem.W.ki_setBack f rk (by rw[UB,<-g];exact w) rk (by rw[l];exact⟨_,A,q⟩)
theorem xt(cb f5:a0o)(n:Nat):(Yk cb f5 Y n).1=((HT.sIx n 0 cb:Nat):Int)/\(Yk cb f5 Y n).2.1=((HT.sIx n n f5:Nat):Int)/\(Yk cb f5 Y n).2.2=1:=by
 refine⟨?_,?_,Z⟩
 .cases cb with
  |none=>simp[Yk,HT.sIx]
  |some i=>
   simp only[Yk,HT.sIx,Option.getD_none];by_cases h:i<0
   .simp only[h]<;>grind
   .simp only[h]<;>grind
 .cases f5 with
  |none=>simp[Yk,HT.sIx]
  |some i=>
   simp only[Yk,HT.sIx,Option.getD_none];by_cases h:i<0
   .simp only[h]<;>lia
   .simp only[h]<;>lia
theorem wq(a:a0g)(cb f5:a0o):slicePick a.toArray cb f5 Y=((a.drop<|HT.sIx a.length 0 cb).take<|HT.sIx a.length a.length f5-HT.sIx a.length 0 cb).toArray:=by
 obtain⟨c,d,f⟩:=xt cb f5 _;unfold slicePick;rw[c,d,f];rw[sliceRange_one,pick_run]<;>rfl
def rSlL(K:UA):V->a0o->a0o->Hp->VK->Prop:=λx cb f5 H Q=>∃a b,x= .ref a/\fy K H a b/\∀p,H p=Y->Q (.ref p) (upd H p<|.lst<|lU b cb f5)
theorem zt:SlR X (rSlL X.K):=by
 intro d s k H x v l m cb f5 G Q I g B C i h;obtain⟨a,e,rfl,D,q⟩:=h;cases g;obtain⟨E,r,f,j⟩:=I.list D;have c:=r.length;refine⟨"list",_,slot_list_getitem.lookup,f.isList.typeIs,wpAny_getItem_list_slice f.isList B C i .none nl ?_ (by rw[UB]<;>lia)⟩
 rw[wq,<-c];refine⟨.ref _,_,I.laid (λb n q=>T1 _ q) (Ug _) ?_,Z,q _<|I.hok.fresh<|Ug _⟩;exact⟨Um (rb e cb f5) j,_,0,(r.drop<|HT.sIx _ 0 cb).take<|HT.sIx _ _ f5-HT.sIx _ 0 cb,Ut _ Z⟩
noncomputable def iM:V->Bool
 | .non=>O
 | .bl _=>O
 | .int _=>O
 | .str _=>O
 |_=>T4
noncomputable def eqV:V->V->Bool
 | .non,.non=>O
 | .bl a,.bl b=>a==b
 | .bl a,.int b=>(if a then 1 else 0)==b
 | .int a,.bl b=>a==(if b then 1 else 0)
 | .int a,.int b=>a==b
 | .str a,.str b=>a==b
 |_,_=>T4
theorem RA(d:aY y u)(c:aY x v)(g:iM y=O)(f:iM x=O):V1 A s u v (eqV y x):=by
 cases y with
 |non=>
  cases d;cases x with
  |non=>cases c;exact V1.same _
  |bl b=>cases c;exact V1.none_bool b
  |int b=>obtain⟨t,rfl⟩:=c;exact V1.none_int b t
  |str b=>obtain⟨t,rfl⟩:=c;exact V1.none_str b t
  |_=>exact UG (show T4=O from f) Uk
 |bl a=>
  cases d;cases x with
  |non=>cases c;exact V1.bool_none a
  |bl b=>cases c;exact V1.bool_bool a b
  |int b=>obtain⟨t,rfl⟩:=c;exact V1.bool_int a b t
  |str b=>obtain⟨t,rfl⟩:=c;exact V1.bool_str a b t
  |_=>exact UG (show T4=O from f) Uk
 |int a=>
  obtain⟨e,rfl⟩:=d;cases x with
  |non=>cases c;exact V1.int_none a e
  |bl b=>cases c;exact V1.int_bool a e b
  |int b=>obtain⟨t,rfl⟩:=c;exact V1.int_int a e b t
  |str b=>obtain⟨t,rfl⟩:=c;exact V1.int_str a e b t
  |_=>exact UG (show T4=O from f) Uk
 |str a=>
  obtain⟨e,rfl⟩:=d;cases x with
  |non=>cases c;exact V1.str_none a e
  |bl b=>cases c;exact V1.str_bool a e b
  |int b=>obtain⟨t,rfl⟩:=c;exact V1.str_int a e b t
  |str b=>obtain⟨t,rfl⟩:=c;exact V1.str_str a e b t
  |_=>exact UG (show T4=O from f) Uk
 |_=>exact UG (show T4=O from g) Uk
def y4(x:V)(u:Uc):Bool:=match u with
 | .none=>eqV .non x
 | .bool b=>eqV (.bl b) x
 | .int i _=>eqV (.int i) x
 | .str z _=>eqV (.str z) x
 |_=>T4
theorem Kf(r:aY y u)(f:iM y=O):y4 x u=eqV y x:=by
 cases y with
 |non=>cases r;rfl
 |bl b=>cases r;rfl
 |int i=>obtain⟨t,rfl⟩:=r;rfl
 |str z=>obtain⟨t,rfl⟩:=r;rfl
 |_=>exact UG (show T4=O from f) Uk
theorem mS:∀{a:a0k} {b:a0g},aE a b->a.all iM=O->b.any (y4 x)=a.any λy=>eqV y x
 |_,_,.nil,_=>rfl
 |y::a,u::b,.cons r t,f=>by
  rw[ZK,US]at f;rw[YW,YW,Kf r f.1,mS t f.2]
theorem kj(c:aY x v)(d:iM x=O):∀{a:a0k} {b:a0g},aE a b->a.all iM=O->∀u∈b,V1 A s u v<|y4 x u
 |_,_,.nil,_=>λu hu=>by cases hu
 |y::a,u::b,.cons r t,f=>λg hu=>by
  rw[ZK,US]at f;obtain rfl|hu:=Uq.mp hu
  .rw[Kf r f.1];exact RA r c f.1 d
  .exact kj c d t f.2 g hu
def inV(x:V)(a:a0k):Bool:=a.any λy=>eqV y x
def rIn(K:UA)(b:Bool):R2:=λx y H Q=>∃p a,y= .ref p/\(fy K H p a\/i0 K H p a)/\iM x=O/\a.all iM=O/\Q (.bl (if b then !inV x a else inV x a)) H
theorem eY:hE X (Vz .In) (rIn X.K T4):=by
 intro d s k H x y v u Q I f i h;obtain⟨p,b,rfl,hq,g,a,q⟩:=h;cases i;obtain hq|hq:=hq
 .obtain⟨its,r,pl,j⟩:=I.list hq
  refine SeqAt.in_listAt _ pl.isList (λw c=>kj f g r a w<|by simpa using c) ⟨.bl _,H,I,Z,?_⟩;rw[show its.toArray.any _=its.any (y4 x) by simp,mS r a];exact q
 .obtain⟨its,r,pl,j⟩:=I.tuple hq
  refine SeqAt.in_tupleAt _ pl (λw c=>kj f g r a w<|by simpa using c) ⟨.bl _,H,I,Z,?_⟩;rw[show its.toArray.any _=its.any (y4 x) by simp,mS r a];exact q
theorem j7:hE X (Vz .NotIn) (rIn X.K O):=by
 intro d s k H x y v u Q I f i h;obtain⟨p,b,rfl,hq,g,a,q⟩:=h;cases i;obtain hq|hq:=hq
 .obtain⟨its,r,pl,j⟩:=I.list hq
  refine SeqAt.notIn_listAt _ pl.isList (λw c=>kj f g r a w<|by simpa using c) ⟨.bl _,H,I,Z,?_⟩;rw[show its.toArray.any _=its.any (y4 x) by simp,mS r a];exact q
 .obtain⟨its,r,pl,j⟩:=I.tuple hq
  refine SeqAt.notIn_tupleAt _ pl (λw c=>kj f g r a w<|by simpa using c) ⟨.bl _,H,I,Z,?_⟩;rw[show its.toArray.any _=its.any (y4 x) by simp,mS r a];exact q
theorem pR:cN X (.builtin "len") (λb H Q=>∃p a,b=[.ref p]/\(fy X.K H p a\/i0 X.K H p a)/\Q (.int a.length) H):=by
 intro f s j H b e Q I r h;obtain⟨p,a,rfl,hq,q⟩:=h;obtain⟨u,rfl,g⟩:=gG r;cases g;have B:=pi;obtain hq|hq:=hq
 .obtain⟨its,d,pl,i⟩:=I.list hq
  have c:=d.length;exact Calls.call_len_list pl.isList (by rw[UB]<;>lia) ⟨.int _,H,I.tok _,⟨s.toks+1,by rw[UB,c]⟩,q⟩
 .obtain⟨its,d,pl,i⟩:=I.tuple hq
  have c:=d.length;exact len_tuple pl (by rw[UB]<;>lia) ⟨.int _,H,I.tok _,⟨s.toks+1,by rw[UB,c]⟩,q⟩
theorem bP:cN X (.type "list") (λG H Q=>∃p C,G=[.ref p]/\(fy X.K H p C\/i0 X.K H p C)/\∀l,H l=Y->Q (.ref l) (upd H l<|.lst C)):=by
 intro f s v H G M Q I r h;obtain⟨p,C,rfl,hq,q⟩:=h;obtain⟨u,rfl,y⟩:=gG r;cases y
 have g:∀(a:a0g),aE C a->C.length<=UC->∀(B:Vl) (c:Nat),(∀b t,s.heap.get? b=U t->B.get? b=U t)->
   B.get? _=U {cls:= .type "list",dict:=Y,data:= .seq _ c,slots:=#[]}->EP X f v Q _ {s with heap:=B}:=λa d i B c D e=>
  ⟨.ref _,_,I.laid D (Ug _) (show b6 _ _ _ B _ (.lst C)from⟨i,a,c,d,e⟩),Z,q _<|I.hok.fresh<|Ug _⟩
 obtain hq|hq:=hq
 .obtain⟨a,d,pl,i⟩:=I.list hq
  have j:=d.length;obtain⟨o,k,m,n,E⟩:=pl.isList;exact call_list_seq p (.inl Z) k m E (λB c D e=>g a d i B c D e) (by rw[UB]<;>lia)
 .obtain⟨a,d,pl,i⟩:=I.tuple hq
  have j:=d.length;obtain⟨o,k,m,n,E⟩:=pl;exact call_list_seq p (.inr Z) k m E (λB c D e=>g a d i B c D e) (by rw[UB]<;>lia)
theorem fI:cN X (.type "tuple") (λC H Q=>∃p a,C=[.ref p]/\((fy X.K H p a/\∀l,H l=Y->Q (.ref l) (upd H l<|.tup a))\/(i0 X.K H p a/\Q (.ref p) H))):=by
 intro c s g H C E Q I r h;obtain⟨p,a,rfl,h⟩:=h;obtain⟨u,rfl,m⟩:=gG r;cases m;obtain⟨d,q⟩|⟨d,q⟩:=h
 .obtain⟨its,f,pl,i⟩:=I.list d
  have j:=f.length;refine call_tuple_list pl.isList (λB D=>?_) (by rw[UB]<;>lia)
  have k:=I.kept (t':=s.toks) D;have n:=
   k.laid (t':=s.toks) (λb o e=>T1 _ e) (Ug _) (show b6 _ _ _ _ _ (.tup a)from⟨i,its,f,IsTup.new _ _⟩)
  exact⟨.ref _,_,n,Z,q _<|k.hok.fresh<|Ug _⟩
 .obtain⟨its,f,pl,i⟩:=I.tuple d
  exact call_tuple_same pl ⟨.ref p,H,I,Z,q⟩
def tyV(K:UA)(T:String)(x:V)(H:Hp):Prop:=match x with
 | .str _=>T="str"
 | .int _=>T="int"
 | .ref p=>(T="list"/\∃a,fy K H p a)\/(T="tuple"/\∃o,K.lookup p=U o/\o.cls= .type "tuple"/\o.dict=Y)
 |_=>False
theorem FR{s:Uj}(I:b_ X j k H s)(r:aY x v)(b:tyV X.K T x H):
  s.TypeIs v T/\∀a,v= .ref a->∃d,s.heap.get? a=U d/\d.dict=Y:=by
 cases x with
 |str z=>
  obtain⟨t,rfl⟩:=r;cases(show T="str"from b);exact⟨typeIs_str s z t,λ_ e=>nomatch e⟩
 |int i=>
  obtain⟨t,rfl⟩:=r;cases(show T="int"from b);exact⟨typeIs_int s i t,λ_ e=>nomatch e⟩
 |ref p=>
  cases r;obtain⟨rfl,C,g⟩|⟨rfl,o,f,h,B⟩:=b
  .obtain⟨its,_,pl,_⟩:=I.list g
   refine⟨pl.isList.typeIs,λa e=>?_⟩;cases e;obtain⟨o,n,e,c,B,_⟩:=pl;exact⟨o,e,B⟩
  .refine⟨⟨o,I.kIn p o f,h⟩,λa e=>?_⟩
   cases e;exact⟨o,I.kIn _ o f,B⟩
 |_=>exact WZ b
def Po(K:UA)(T:String)(r:a0K)(a:TE):TE:=λd H Q=>a d H λx c=>tyV K T x c/\r x [] c Q
def tBM(K:UA)(T:String)(r:a0K)(a:TE)(t:TA):TE:=λc H Q=>a c H λx d=>tyV K T x d/\t c d λb f=>r x b f Q
variable{o:Expr}{L:List Expr}{N:TE}{t:TA}{b:U3}{z a:Xp}{T J:String}{r:a0K}
theorem Qn(k:PlainAttrs T)(e:Slot T b J)(g:typeOf (.builtin J)=Wo (.type "method_descriptor"))(B:MtR X J r)(l:PE X o N)
  (d:autoParam (XW o b X.env (Vv o X.env)=Vv o X.env) qQ) (f:autoParam ((z.endLine==a.line)=O) qQ):PE X (.Call (.Attribute o b z) [] [] a) (Po X.K T r N):=by
 refine λc s i H Q I h=>wpAny_Call_method0_late d f<|ee (l c s i H _ I h) λv m ⟨x,n,j,t,C,D⟩=>?_;obtain⟨p,q⟩:=FR j t C;exact⟨T,J,k,e,g,p,q,Yy Z<|PySem.evalArgs_none<|B c m i n x [] v [] Q j t .nil D⟩
theorem lc(n:PlainAttrs T)(D:Slot T b J)(j:typeOf (.builtin J)=Wo (.type "method_descriptor"))(G:MtR X J r)(p:PE X o N)(M:PA X (e::L) t)
  (f:autoParam (XW o b X.env (Vv o X.env)=Vv o X.env) qQ)
  (i:autoParam (((WD a<|Uu (e::L) X.env).all (λx=>!x.1)&&(XR a<|WA [] X.env).all (λx=>x.1.isSome)
   &&decide ((e::L).length+([]:List Keyword).length+(if([]:List Keyword).isEmpty then 0 else 1)<30))=O) qQ)
  (g:autoParam ((z.endLine==a.line)=O) qQ) (S:autoParam (b0a X e L) qQ) (d:autoParam (b0b X a L) qQ):
  PE X (.Call (.Attribute o b z) (e::L) [] a) (tBM X.K T r N t):=by
 refine λc s k H Q I h=>wpAny_Call_method_late f i g Z<|ee (p c s k H _ I h) λv q ⟨x,u,l,E,V,cb⟩=>?_;obtain⟨w,y⟩:=FR l E V;refine⟨T,J,n,D,j,w,y,?_⟩;have m:=M a c q k u _ l cb;rw[S]at m⊢;refine Yy (by show(T4||(WD a _).any _)=T4;rw[d]<;>rfl) (Calls.evalArgs_plain ?_)
 exact ee m λf5 A ⟨R,B,C,F,P⟩=>G c A k B x R v f5 Q C E F P
def MtM(X:Cx)(J:String)(r:a0K):Prop:=
 ∀(c:a0d) (s:Uj) (d:St) (H:Hp) (x:V) (a:a0k) (v:Uc) (b:a0g) (Q:VK),b_ X c d H s->aY x v->aE a b->r x a H Q->
  Us (UP X.prog X.w) X.A (call (.builtin J)<|v::b) (EP X c d Q) X.xe s
theorem aE.one:∀{x:V} {a:a0g},aE [x] a->∃u,a=[u]/\aY x u
 |_,_,.cons r .nil=>⟨_,Z,r⟩
theorem aE.zero:∀{a:a0g},aE [] a->a=[]
 |_,.nil=>rfl
theorem aE.reverse{a:a0k}{b:a0g}(h:aE a b):aE a.reverse b.reverse:=by
 induction h with
 |nil=>exact .nil
 |cons r t e=>rw[ZE,ZE];exact aE.append e<|.cons r .nil
theorem aE.rep(h:aE c d):∀k:Nat,aE (UL k c).flatten (UL k d).flatten
 |0=> .nil
 |k+1=>by
  rw[VF,VF,W9,W9];exact aE.append h<|aE.rep h k
theorem vV(a:a0g):∀(k:Nat) (b:a0g),
  List.foldl (λc d=>c++d) b.toArray (UL k a.toArray)=(b++(UL k a).flatten).toArray
 |0,b=>by simp
 |k+1,b=>by
  have e:b.toArray++a.toArray=(b++a).toArray:=by simp
  have f:(b++a)++(UL k a).flatten=b++(UL (k+1) a).flatten:=by
   rw[VF,W9,Vi]
  rw[<-f,<-vV a k _,<-e,VF,List.foldl_cons]
end
section
variable{X:Cx}{W:a0d}{R:St}{H:Hp}{s:Uj}{l b:T8}{xs ys B:a0k}
theorem b_.lset{b its':a0g}(I:b_ X W R H s)(a:H l=U (.lst xs))
  (e:s.heap.get? l=U {cls:= .type "list",data:= .seq b.toArray n}) (c:f b.toArray=its'.toArray) (d:aE ys its') (g:ys.length<=UC):
  b_ X W R (upd H l<|.lst ys) {s with heap:=s.heap.update l<|VD f,toks:=k}:=by
 have q:=PySem.IsL.update e f;rw[c]at q;refine I.write (by rw[a];exact trivial) (.inl Z) (λj u h i=>(Heap.get?_update_other _ _<|Ne.symm h).trans i) ⟨_,q⟩ ?_;exact⟨g,its',_,d,q⟩
theorem b_.lnew{its:a0g}(I:b_ X W R H s)(a:aE ys its)(c:ys.length<=UC):
  b_ X W R (upd H s.heap.objs.size<|.lst ys) {s with heap:=s.heap.push {cls:= .type "list",data:= .seq its.toArray},toks:=t'}:=
 I.laid (λ_ _ q=>T1 _ q) (Ug _) ⟨c,its,0,a,Ut _ Z⟩
theorem b_.fresh(I:b_ X W R H s):H s.heap.objs.size=Y:=I.hok.fresh<|Ug _
theorem b_.lstM(I:b_ X W R H s)(a:H l=U (.lst xs)):xs.length<=UC/\∃(b:a0g) (n:Nat),aE xs b/\xs.length=b.length/\s.heap.get? l=U {cls:= .type "list",data:= .seq b.toArray n}:=by
 obtain⟨z,b,n,r,e⟩:=I.hok l _ a;exact⟨z,b,n,r,r.length,e⟩
theorem LA(h:n<=UC):Y5 n=T4:=by
 unfold Y5;exact UX rk
def zI:V->a0k->Hp->VK->Prop:=λx b H Q=>∃l xs y,x= .ref l/\b=[y]/\H l=U (.lst xs)/\xs.length<UC/\Q .non (upd H l<|.lst<|xs++[y])
theorem eZ:MtM X "list.append" zI:=by
 intro W s R H x B v D Q I c d h;obtain⟨l,xs,y,rfl,rfl,a,g,q⟩:=h;cases c;obtain⟨u,rfl,f⟩:=d.one;obtain⟨z,b,n,r,i,e⟩:=I.lstM a;refine call_meets F.slot_list_append ⟨_,e,Z⟩ F.entry_list_append (F.args_list_append_2 _ _) (PySem.list_append l _ n u<|by rw[UB];lia) ⟨e,⟨.non,_,I.lset a e nl (r.append<|.cons f .nil) ?_,Z,q⟩⟩;rw[Uv,Vf];lia
def HG:V->a0k->Hp->VK->Prop:=λx b H Q=>∃l xs,x= .ref l/\b=[]/\H l=U (.lst xs)/\Q .non (upd H l<|.lst [])
theorem LG:MtM X "list.clear" HG:=by
 intro W s R H x B v D Q I d f h;obtain⟨l,xs,rfl,rfl,c,q⟩:=h;cases d;have a:=f.zero;subst a;obtain⟨z,b,n,r,g,e⟩:=I.lstM c;exact call_meets F.slot_list_clear ⟨_,e,Z⟩ F.entry_list_clear (F.args_list_clear_1 _) (AutoSeq1.list_clear_list_0 l _ n<|by rw[UB];lia) ⟨e,⟨.non,_,I.lset c e Z .nil<|Vp _,Z,q⟩⟩
noncomputable def rCat:R2:=λx y H Q=>∃l b xs B,x= .ref l/\y= .ref b/\H l=U (.lst xs)/\H b=U (.lst B)/\xs.length+B.length<=UC/\∀p,H p=Y->Q (.ref p) (upd H p<|.lst<|xs++B)
theorem Qv:hE X (W8 .Add) rCat:=by
 intro W s R H x y v u Q I c d h;obtain⟨l,b,xs,B,rfl,rfl,f,hB,m,q⟩:=h;cases c;cases d;obtain⟨z,D,n,r,o,e⟩:=I.lstM f;obtain⟨p,a,t,g,i,j⟩:=I.lstM hB;refine PySem.P.add_list e j ?_ (by rw[UB,UB];lia);have k:D.toArray++a.toArray=(D++a).toArray:=by simp
 rw[k];exact⟨.ref _,_,I.lnew (r.append g) (by rw[Uv];omega),Z,q _ I.fresh⟩
noncomputable def rRep:R2:=λx y H Q=>∃l k xs,x= .ref l/\y= .int k/\H l=U (.lst xs)/\-(2^63)<=k/\k<2^63/\xs.length*k.toNat<=UC/\
 ∀p,H p=Y->Q (.ref p) (upd H p<|.lst (UL k.toNat xs).flatten)
theorem OH{b:Type}(xs:List b)(k:Nat):(UL k xs).flatten.length=k*xs.length:=by
 induction k with
 |zero=>simp
 |succ k l=>rw[VF,W9,Uv,l,Nat.succ_mul,Nat.add_comm]
theorem Qq:hE X (W8 .Mult) rRep:=by
 intro W s R H x y v u Q I w A h;obtain⟨l,k,xs,rfl,rfl,B,C,J,p,q⟩:=h;cases w;obtain⟨t,rfl⟩:=A;obtain⟨z,b,n,r,L,e⟩:=I.lstM B;have d:b.toArray.size*k.toNat<=UC:=by rw[UB,<-L];exact p
 have f:¬b.toArray.size*k.toNat>(2^63-1)/8:=by
  have:(UC:Nat)<=(2^63-1)/8:=by decide
  lia
 have g:¬(!Builtin.List.listFitsIndex k)=O:=by
  rw[fitsIndex_both C J];exact Uk
 have c:¬Y5 (b.toArray.size*k.toNat)=O:=by
  rw[LA d];exact Uk
 have i:List.foldl (λj o=>j++o) #[] (UL (if b.toArray.isEmpty=O then 0 else k.toNat) b.toArray)=(UL k.toNat b).flatten.toArray:=by
  have N:=λm=>by
   have:=vV b m [];rw[VY]at this;exact this
  rw[N];cases b with
  |nil=>simp
  |cons a P=>rw[Uh nl]
 refine wpAny_binaryOp_repeat_ref vy ⟨_,e,Z⟩ (λD=>typeIs_int D k t) noFill_list_mul F.fills_int_mul F.slot_int_rmul repeat_list F.slot_int_index.lookup
  (call_meets F.slot_int_rmul (typeIs_int s k t) F.entry_int_rmul (F.args_int_rmul_2 _ _) (int___rmul___int_list k t l _ n)
   ⟨e,Z,⟨_,e,Z⟩,call_meets F.slot_list_mul ⟨_,e,Z⟩ F.entry_list_mul (F.args_list_mul_2 _ _) (AutoListH.list___mul___list_int_3 l _ n k t g f c) ⟨e,?_⟩⟩)
 rw[i];exact⟨.ref _,_,I.lnew (r.rep _) (by rw[OH,WU];exact p),Z,q _ I.fresh⟩
variable{a:UT}{w:UY}{A:Vn}{E:a0f}
end
end L2
namespace Att
open PySem.W PySem.Calls
theorem tY:∀(D:a0e) (E:a0g),WellAll P h E (D.map WData.int)->YV E D:=by
 intro D
 induction D with
 |nil=>
  intro E w;cases w;exact .nil
 |cons n D G=>
  intro E w;cases w with
  |cons a b=>
   cases a;exact .cons _ _<|G _ b
theorem GN{l:OpenLaw}(G:l.most=U n){h:Vl}
  (b:l.row.toRowW.claim.pre args=O) (f:WellAll P h vals args):
  ∃a E D,vals=[UE a]/\args=[WData.list<|D.map WData.int]/\h.get? a=U {cls:= .type "list",data:= .seq E.toArray}/\YV E D/\D.length<=n:=by
 have g:l.pre.holds [] {args:=args}=O:=(pre_splitW b).2;obtain⟨d,r,rfl,i,j⟩:=hasAllW_cons ((pre_splitW b).1);obtain rfl:=hasAllW_nil j;obtain⟨K,rfl,k⟩:=hasW_list i;obtain⟨D,rfl⟩:=items_int k;have c:D.length<=n:=by
  unfold OpenLaw.pre at g;have e:(WTm.not<|.lt (.lit<|.int (n:Int))<|.len<|.arg 0).holds [] {args:=[.list<|D.map .int]}=O:=by
   have e:=(holds_andW g).1;rw[G]at e;exact e
  have h5:=condW_of e<|w_not<|w_lt w_lit<|w_len_list<|w_arg Z;rw[TX]at h5;refine Nat.le_of_not_lt λq=>?_;have m:(n:Int)<((D.length:Nat):Int):=by omega
  first
   |(rw[Ux m]at h5;exact UG h5 vy)
   |(simp at h5;lia)
 cases f with
 |cons o p=>
  cases p;cases o with
  |list ho hall=>exact⟨_,_,D,Z,Z,ho,tY D _ hall,c⟩
theorem HM(l:OpenLaw)(args:List WData):l.row.toRowW.claim.post args (.bool O) args=O:=
 postW_of
  (show WShape.has [] _ _=O by first|rfl|decide|simp[WShape.has])
  (show(WTm.eq _<|.lit<|.bool O).value [] {args:=args,res:=U<|.bool O,after:=args}=U (.bool<|O==O)from w_eq_bool (w_res Z) w_lit) Z
theorem attach_call{l:OpenLaw}{d:DefRec}
  (Q:l.most=U n) (k:d.params.defaults=[])
  (K:∀(w:UY) (D b:Uj) (M m:a0j) (g:T8) (o:Vy) (p S c:Uc) (a:T8) (E:a0g) (V:a0e),
   Ground q loose [] XP w D M m b.heap->YP w b.heap->
   b.heap.get? g=U o->o.data= .func (docDef d.name d.params d.body d.scope p S c)->b.heap.CodeRec S d.name->M d.name=U (.ref g)->
   b.heap.get? a=U {cls:= .type "list",data:= .seq E.toArray}->YV E V->V.length<=n->b.gens=#[]->
   YC (UP l.prog w) callerA (.call (.ref g) ⟨[.ref a],[]⟩) (λr s=>r= .ok (.ret<|.bool O)/\OldK b.heap s.heap/\s.os=b.os/\ZB s.gens) b):
  WalkO q loose XP YP l.row.toRowW d [] (λf E=>PySem.call f E):=by
 intro w D b M m G X g o p S c B C F R t y u H x z W h A I v J;obtain rfl:B= .none:=Dflts.none y k;obtain rfl:C= .none:=Dflts.noKw y;obtain⟨a,E,V,rfl,rfl,i,e,j⟩:=GN Q h v;refine enter_call<|ZH (K w D b M m g o p S c a E V G X F (fd_plain R) t u i e j H) λr s L=>?_;obtain⟨rfl,N,f5,P⟩:=L;exact⟨.inl ⟨.bool O,.bool O,[],Z,λ_=>Z,.bool O,HM l _,λ_=>⟨Z5,λ_ T=>(nomatch T)⟩⟩,N,f5,P⟩
section
variable{a:UT}{w:UY}{A:Vn}{E:a0f}{s:Uj}{K:UA}
end
end Att
namespace L2
theorem vi:∀{D:a0g} {E:a0e},YV D E->aE (E.map V.int) D
 |_,_,.nil=> .nil
 |_,_,.cons n t h=> .cons ⟨t,Z⟩<|vi h
def MD(H:Hp):Prop:=∀b,H b=Y\/∃o D,H b=U (.frz o<|.lst D)
theorem LY{K:UA}{c:Uj}{G:a0g}{M:a0e}
  (R:K.In c.heap) (p:c.heap.Ns WB mg) (g:c.heap.Ns builtinsNs mb) (I:∀x:U3,x≠"__name__"->mb x=XN x) (t:c.heap.NoLimit) (hg:c.gens=#[])
  (ha:c.heap.get? a=U {cls:= .type "list",data:= .seq G.toArray}) (T:YV G M) (cb:M.length<=UC) (hr:d4 k callerA)
  (F:∀D:Vl,K.In D->D.Ns WB mg->e_ P w K mg D CX k fa fd [x] sp) (l:∀(s:Uj) (u:Uc),BindsTo s fd ⟨[u],[]⟩ [(x,u)])
  (J:∀H:Hp,MD H->fy K H a (M.map V.int)->sp [.ref a] H (λv _=>v= .bl O) λ_ _ _=>False)
  (L:∀H e E,CX [] H c (λ_ _ _=>False) e E->False):
  YC (UP P w) callerA (.call (.ref fa) ⟨[.ref a],[]⟩) (λr E=>r= .ok (.ret<|.bool O)/\OldK c.heap E.heap/\E.os=c.os/\ZB E.gens) c:=by
 have W:=vi T;have y:=T.length
 --from an abstract heap in which nothing but the script may be tracked
 have j:∀H:Hp,MD H->fy K H a (M.map V.int)->lw P w H c.heap->(∀b,H b≠Y->b=a)->(H a≠Y->K.lookup a=Y)->
   YC (UP P w) callerA (.call (.ref fa) ⟨[.ref a],[]⟩) (λr E=>r= .ok (.ret<|.bool O)/\OldK c.heap E.heap/\E.os=c.os/\ZB E.gens) c:=by
  intro H X hS S ek hK;have f:∀{b:T8} {o:Vy},c.heap.get? b=U o->H b=Y->(nP c.heap H).get? b=U o:=λe n=>Mb e n;have N:∀{b:T8} {o:Vy} {es:Array W3} {ep:Nat},c.heap.get? b=U o->o.data= .dict es ep->H b=Y:=λ{b o es ep} e d=>by
   cases q:H b with
   |none=>rfl
   |some u=>
    have eH:=ek b (by rw[q];simp);subst eH;rw[ha]at e;cases e;have d':=d;cases d'
  have i:∀{b:T8} {m:a0j},c.heap.Ns b m->(nP c.heap H).Ns b m:=λ{b m} ⟨o,es,ep,e,d,r⟩=>⟨o,es,ep,f e<|N e d,d,r⟩;have A:=λb o e=>f (R b o e) (by
   cases q:H b with
   |none=>rfl
   |some u=>
    have eH:=ek b (by rw[q];simp);subst eH;rw[hK<|by rw[q];simp]at e;cases e)
  have hM:Mod K mg _:=⟨A,i p,⟨mb,i g,I⟩,let ⟨mc,h1,h2⟩:=t;⟨mc,i h1,h2⟩⟩
  refine ZH ((F _ A<|i p).run callerA [] c H ⟨[.ref a],[]⟩ [.ref a] [.ref a] _ _ hr (⟨Z,hM,λb o e=>Oq e,Nat.le_of_eq<|PySem.W.hideAll_size _ _,trivial,λb g=>UG (show b∈([]:a0r)from g) nl,S,.of_eq hg⟩) (l c<|.ref a) (.cons Z .nil)<|J H X hS) λr E h=>?_;cases r with
  |error e=>exact(L H e E h).elim
  |ok fl=>
   cases fl with
   |next=>exact WZ h
   |brk=>exact WZ h
   |cont=>exact WZ h
   |ret u=>
    obtain⟨v,H',os,aa,un,B,r',q⟩:=h;have q':=q;subst q';obtain rfl:u=ZY O:=r';refine⟨Z,OldK.of_keep λb o e=>?_,os,aa⟩;cases q:H b with
    |none=>exact un.keep b o e q (λz=>UG (show b∈([]:a0r)from z) nl) nl
    |some u=>
     obtain z|⟨ob,xs,z⟩:=X b
     .rw[q]at z;cases z
     .have z2:=un.frzs b ob _ z
      obtain⟨f5,_⟩:=S b _ z;obtain⟨e2,_⟩:=B b _ z2;rw[e]at f5;cases f5;exact e2
 cases Q:K.lookup a with
 |some o=>
  --the script is one of the module's own objects
  have e:=R a o Q;rw[ha]at e;cases e;refine j _ (λ_=> .inl Z) (.inr ⟨_,G.toArray,_,Q,Z,Z,Z,by rw[UB,y];exact cb,by exact W⟩) (λb u z=>by have C:=z;cases C) (λb z=>UG Z z) λz=>UG Z z
 |none=>
  refine j (λb=>if b=a then U (.frz {cls:= .type "list",data:= .seq _} _)else Y) (λb=>?_) (.inl<|.inr ⟨{cls:= .type "list",data:= .seq G.toArray},Uf Z⟩) (λb u z=>?_) (λb z=>?_) λ_=>Q
  .by_cases g:b=a
   .exact .inr ⟨_,_,Uf g⟩
   .exact .inl (Uh g)
  .by_cases g:b=a
   .have C:=(Uf g).symm.trans z
    cases C;subst g;exact⟨ha,by rw[TX];exact cb,G,_,W,ha⟩
   .have C:=(Uh g).symm.trans z
    cases C
  .by_cases g:b=a
   .exact g
   .exact UG (Uh g) z
theorem walk_of{l:PySem.W.OpenLaw}{n k:Nat}{q:UT}{E:a0i}{XP:(U3->Option Uc)->Vl->Prop}{YP:UY->Vl->Prop}{d:DefRec}{K:Params->UA}{CX:UY->O2}{sp:UY->Sp}{x:U3}
  (hn:l.most=U n) (r:n<=UC) (t:d.params.defaults=[]) (J:d4 k callerA)
  (L:∀(w:UY) (h:Vl),YP w h->(K w.params).In h)
  (F:∀(w:UY) (M:a0j) (p:T8) (h:Vl),(K w.params).In h->h.Ns WB M->M d.name=U (.ref p)->
   ∃B:Uw,(∀(s:Uj) (u:Uc),BindsTo s B ⟨[u],[]⟩ [(x,u)])/\
    ∀D:Vl,(K w.params).In D->D.Ns WB M->e_ l.prog w (K w.params) M D (CX w) k p B [x] (sp w))
  (y:∀(w:UY) (H:Hp) (a:T8) (S:a0e),S.length<=n->MD H->fy (K w.params) H a (S.map V.int)->sp w [.ref a] H (λv _=>v= .bl O) λ_ _ _=>False)
  (A:∀(w:UY) (H:Hp) (s:Uj) (e:Uc) (z:Uj),CX w [] H s (λ_ _ _=>False) e z->False):
  PySem.W.WalkO q E XP YP l.row.toRowW d [] (λf vs=>PySem.call f vs):=by
 refine Att.attach_call hn t λw aa j M X p o f5 cd N a vs S G ek ho hd eH C m i c P=>?_;have I:=L w _ ek;obtain⟨B,Q,hF⟩:=F w M p _ I G.T.g C;exact LY I G.T.g G.T.b G.T.builtins G.T.nolimit P m i (Um c r) J hF Q (λH R cb=>y w H a S c R cb) λH e z=>A w H j e z
noncomputable def bX(s:Va)(j:Nat):Va:=match s with
 | .ClassDef _ _ _ body _ _ _ _ _ _ _=>body.getD j<|.Pass ⟨0,0,0,0⟩
 |_=> .Pass ⟨0,0,0,0⟩
noncomputable def jJ(s:Va):Arguments:=match s with
 | .FunctionDef _ a _ _ _ _ _ _ _ _=>a
 |_=>{posonlyargs:=[],args:=[],vararg:=Y,kwonlyargs:=[],kw_defaults:=[],kwarg:=Y,defaults:=[]}
noncomputable def cK(s:Va):a0R:=match s with
 | .FunctionDef _ _ b _ _ _ _ _ _ _=>b
 |_=>[]
noncomputable def ag(s:Va):Scope:=match s with
 | .FunctionDef _ _ _ _ _ _ sc _ _ _=>sc
 |_=>{kind:= .function,names:=[],isGenerator:=T4,isCoroutine:=T4}
abbrev E0:St->XK:=λ_ _ _ _=>False
structure Fun (K:UA) (x qual:U3) (st:Va) (f:T8) (fd:Uw):Prop where
 ex:∃(oc:Uc) (od:a0U) (kV doc pm:Uc) (an:a0U) (cdv ct:Uc) (osl:Array<|Option Uc),
  fd=Yv x qual (jJ st) (cK st) (ag st) .none kV doc pm an cdv ct/\K.lookup f=U ⟨oc,od,.func fd,osl⟩/\Y9 K cdv qual=O
 kp:Zx K (.ref f)=O
section
variable{P:UT}{w:UY}{K:UA}{b:a0j}{base:Vl}
theorem wS{A:Vn}(a:d4 k A):A.units+1<YJ:=VC (Nat.add_le_add_left (by decide:1<=64) _) a.units
theorem vt(h:n<=1000):n<UC:=VC h vy
variable{X:Cx}
theorem pv(i:Nat){pos:Xp}(b:autoParam (X.N[i]?=U x) qQ)(c:Vis X.env.scope x:=by first|exact Wm Z|exact Xn (Wm Z)|exact Xn (Xn Z))(w:autoParam (b0c x) qX)
  (a:autoParam ((x==("__classdict__":U3))=T4) qX):PE X (.Name x pos) (lM i):=Qg b c w a
theorem iteT{A B:Prop}(h:A):if O=O then A else B:=by
 rw[Uf Z];exact h
theorem ite2{c A B:Prop} [Decidable c](a:c->A)(b:¬c->B):if c then A else B:=by
 by_cases h:c
 .rw[Uf h]
  exact a h
 .rw[Uh h]
  exact b h
def cj(H a:Hp):Prop:=∀b o,H b=U o->a b=U o
theorem cj.refl(H:Hp):cj H H:=λ_ _ h=>h
theorem cj.trans(a:cj H H1)(b:cj H1 H2):cj H H2:=λc o h=>b c o<|a c o h
theorem cj.free(e:cj H H')(h:H' l=Option.none):H l=Option.none:=by
 cases q:H l with
 |none=>rfl
 |some o=>
  rw[e l o q]at h;cases h
theorem dX:∀(b:a0N) (n:Nat) (acc:a0m),V8 n b acc=V8 n b []++acc
 |[],_,_=>rfl
 |(x,k)::r,n,acc=>by
  unfold V8;split
  .rw[dX r _<|(x,n)::acc,dX r _ [(x,n)],Vi]
   rfl
  .exact dX r n _
theorem jq:∀{b:a0N} {n:Nat} {x:U3} {c:T8},(x,c)∈V8 n b []->(x,NameKind.cell)∈b
 |[],_,_,_,h=>by cases h
 |(y,k)::r,n,x,c,h=>by
  unfold V8 at h;split at h
  .rename_i a
   rw[dX]at h;obtain h|h:=Vr.mp h
   .exact T3 _ (jq h)
   .obtain⟨rfl,_⟩:x=y/\c=n:=by simpa using h
    obtain rfl:k= .cell:=by simpa using a
    exact Ud
  .exact T3 _ (jq h)
noncomputable def dQ(cells:a0m):a0N->a0m->a0m
 |[],acc=>acc
 |(x,k)::r,acc=>if k== .free then dQ cells r ((x,(cells.lookup x).getD 0)::acc)else dQ cells r acc
theorem nw{cells:a0m}:∀{b:a0N} {acc:a0m} {x:U3} {c:T8},(x,c)∈dQ cells b acc->(x,c)∈acc\/((x,W4)∈b/\c=(cells.lookup x).getD 0)
 |[],_,_,_,h=> .inl h
 |(y,k)::r,acc,x,c,h=>by
  unfold dQ at h;split at h
  .rename_i a
   obtain rfl:k= .free:=by simpa using a
   obtain h|⟨h,e⟩:=nw h
   .obtain h|h:=Uq.mp h
    .cases h
     exact .inr ⟨Ud,Z⟩
    .exact .inl h
   .exact .inr ⟨T3 _ h,e⟩
  .obtain h|⟨h,e⟩:=nw h
   .exact .inl h
   .exact .inr ⟨T3 _ h,e⟩
theorem rX:∀{b:a0N} {w:a0m} {p:U3×T8},p∈w->p∈dQ cells b w
 |[],_,_,h=>h
 |(y,k)::r,w,p,h=>by
  unfold dQ;split
  .exact rX (T3 _ h)
  .exact rX h
theorem rW{cells:a0m}:∀{b:a0N} {acc:a0m} {x:U3},(x,W4)∈b->(x,(cells.lookup x).getD 0)∈dQ cells b acc
 |[],_,_,h=>by cases h
 |(y,k)::r,acc,x,h=>by
  unfold dQ;obtain h|h:=Uq.mp h
  .cases h
   rw[Uf vy];exact rX Ud
  .split
   .exact rW h
   .exact rW h
theorem oy{b:Type}:∀{l:List (U3×b)} {x:U3} {c:b},(x,c)∈l->∃d,l.lookup x=U d
 |[],_,_,h=>by cases h
 |(y,d)::r,x,c,h=>by
  rw[ZU];cases a:x==y with
  |true=>exact⟨d,Z⟩
  |false=>
   obtain h|h:=Uq.mp h
   .cases h
    simp at a
   .exact oy h
theorem dI{w:Type}:∀{l:List (U3×w)} {x:U3} {c:w},(l.map (·.1)).Nodup->(x,c)∈l->l.lookup x=U c
 |[],_,_,_,h=>by cases h
 |(y,d)::r,x,c,nd,h=>by
  rw[Ul]at nd;obtain⟨a,b⟩:=Vs.mp nd;rw[ZU];obtain h|h:=Uq.mp h
  .cases h
   simp
  .have:x≠y:=λe=>a<|e▸List.mem_map_of_mem (f:=(·.1)) h
   rw[beq_eq_false_iff_ne.mpr this];exact dI b h
theorem u9{env:Env}(f:U3×Yi->a0m->Sem (ForInStep a0m))
  (g:∀D E K,f (D,E) K=if E== .free then(do let a <-cellOf env D;Wo (.yield<|(D,a)::K))else Wo (.yield K)):
  ∀(w:a0N) (G:a0m),(∀y∈w,y.2= .free->∃c,env.cells.lookup y.1=U c)->forIn w G f=Wo (dQ env.cells w G)
 |[],_,_=>by rfl
 |(x,k)::r,G,h=>by
  rw[XA,g];unfold dQ;have i:=λy M=>h y<|T3 _ M;by_cases b:(k==W4)=O
  .rw[Uf b,Uf b]
   obtain⟨c,j⟩:=h _ Ud (by simpa using b);have d:=j;have e:cellOf env x=Wo c:=by unfold cellOf;rw[d]
   rw[e,d];exact u9 f g r _ i
  .rw[Uh b,Uh b]
   rw[pure_bind];exact u9 f g r _ i
theorem EN{b:Scope}{env:Env}(h:∀y∈b.names,y.2= .free->∃c,env.cells.lookup y.1=U c):closureFor b env=Wo (dQ env.cells b.names []):=by
 dsimp only[closureFor];rw[u9 _ (λD w E=>by cases a:w==W4<;>simp) _ [] h]
 rfl
theorem Ml{M:Model}{E:a0f}{s:Uj}{w:Scope}
  (f:∀G:Vl,G.Ns s.heap.objs.size (λ_=>Y)->(∀b o,s.heap.get? b=U o->G.get? b=U o)->
   (∀n c,(n,c)∈V8 (s.heap.objs.size+1) w.names []->G.IsCell c Y/\s.heap.objs.size+1<=c)->
   ((V8 (s.heap.objs.size+1) w.names []).Pairwise λx y=>x.2≠y.2)->
   Q (newEnv w s.heap.objs.size globals (V8 (s.heap.objs.size+1) w.names cl) g Y .none (U h) builtinsNs) {s with heap:=G}):
  Us M A (newFunctionEnv w globals cl [] g Y .none<|U h) Q E s:=by
 simp only[newFunctionEnv,Option.isSome_some,Vm];refine My<|wpAny_alloc<|My<|wpAny_layCells _ (λS D K=>by cases a:D==NameKind.cell<;>simp[a]) _ _ _ _ ?_
 have P:=cellsFrom_ok w.names (s.heap.push {cls:= .type "dict",data:= .dict #[]}) _ [] ⟨λ_ _ V=>(nomatch V),Z5⟩ (by exact Ug _);rw[VX]at P;rw[show({s with heap:=s.heap.push {cls:= .type "dict",data:= .dict #[]}}:Uj).heap.objs.size=s.heap.objs.size+1 from VX ..];exact My<|TZ<|TZ (f _ ((Heap.Ns.new _<|.type "dict").keeps<|pushCells_keeps _ _) (λb o e=>pushCells_keeps _ _ b o<|T1 _ e) P.empty P.apart)
noncomputable abbrev aT(X:Cx)(a:a0i)(w:Scope)(D:a0m)(C:T8)(b:a0r)(s:Uj)(H:Hp):Cx:=
 {X with N:=a,s₀:=s,H₀:=H,env:=compEnvC w D C X.env,outer:=X.stack,stack:=X.stack,ex:=b,fn:=λx=>w.names.lookup x !=U .free,pn:=[],xe:=λ_ _=>False}
theorem j0{b:Scope}{y:U3×Yi}(h:y∈(relabel b c).names):y∈b.names\/(y.2= .cell/\(y.1,W4)∈b.names):=by
 obtain⟨⟨n,k⟩,w,e⟩:=T7.mp h
 dsimp only at e
 split at e
 .rename_i a
  cases e;simp only[US,Xk]at a;obtain⟨⟨a,_⟩,_⟩:=a;subst a;exact .inr ⟨Z,w⟩
 .cases e
  exact .inl w
theorem L8{X:Cx}{R:St}{s:Uj}{Nc G:a0i}{K:a0a}{w:Scope}{h':Vl}(I:b_ X a_ R H s)
  (hk:w.kind= .function) (g:(w.names.map (·.1)).Nodup) (f:∀y∈w.names,y.2= .free->X.env.kindOf y.1=U .cell\/X.env.kindOf y.1=U .free)
  (T:Nc=G++K.map (λj=>X.N.getD j Yg)) (cb:∀j∈K,j<X.N.length/\w.names.lookup (X.N.getD j Yg)=U .free)
  (F:∀b∈fp,gy X a_ H b) (W:∀b∈fp,∃o,s.heap.get? b=U o) (ns:h'.Ns s.heap.objs.size λ_=>Y) (D:∀b o,s.heap.get? b=U o->h'.get? b=U o)
  (eH:∀n c,(n,c)∈V8 (s.heap.objs.size+1) w.names []->h'.IsCell c Y/\s.heap.objs.size+1<=c) (ca:(V8 (s.heap.objs.size+1) w.names []).Pairwise λx y=>x.2≠y.2):
  b_ (aT X Nc w (V8 (s.heap.objs.size+1) w.names<|dQ X.env.cells w.names []) s.heap.objs.size fp s H) [] (UL G.length Y++K.map (λj=>R.getD j Y)) H {s with heap:=h'}:=by
 --the cells
 have aa:∀{x:U3} {c:T8},(x,c)∈dQ _ _ []->X.env.cells.lookup x=U c/\(x,W4)∈w.names:=λ{x c} h=>by
  obtain h|⟨hm,e⟩:=nw h
  .cases h
  .obtain⟨d,hd⟩:=I.ok.has x<|f _ hm Z
   rw[hd]at e;exact⟨by rw[hd,e];rfl,hm⟩
 have a:∀{x:U3} {c:T8},(V8 _ _<|dQ _ w.names []).lookup x=U c->
   (x,c)∈V8 (s.heap.objs.size+1) w.names []\/(X.env.cells.lookup x=U c/\(x,W4)∈w.names):=λ{x c} h=>by
  have h:=VR h;rw[dX]at h;obtain h|h:=Vr.mp h
  .exact .inl h
  .exact .inr (aa h)
 have E:∀{x:U3},(x,W4)∈w.names->∃c,X.env.cells.lookup x=U c/\(V8 _ w.names<|dQ _ w.names []).lookup x=U c:=λ{x} hm=>by
  obtain⟨d,hd⟩:=I.ok.has x<|f _ hm Z;have e:=rW (cells:=X.env.cells) (acc:=[]) hm;obtain⟨c,Q⟩:=oy (l:=V8 (s.heap.objs.size+1) w.names<|dQ _ w.names []) (by rw[dX];exact Vg _ e);obtain z|⟨z,_⟩:=a Q
  .have B:=dI g<|jq z
   rw[dI g hm]at B;cases B
  .exact⟨c,z,Q⟩
 have k:=λ{x c} h=>let ⟨v,q⟩:=I.cell x c h;q.lt
 have ek:=I.stkSub;refine⟨⟨I.ok.mod,hk,I.ok.glob,I.ok.blt,Ug _,λx y c h1 h2=>?_,λx hx=>?_,λx c hf h=>?_,I.ok.hd,I.ok.frames,.inl Z,λb J=>⟨?_,λx c h e=>?_⟩,I.bs,Um I.ok.bsz I.sz,λb o e J=>?_,λb J hf=>?_,I.stack,I.stkFree⟩,
  rfl,I.bare,Un.kept D,⟨_,ns,λi x v e1 A e3=>?_⟩,λx c h=>?_,I.hok.fresh<|Ug _,λx c h=>?_,λp hp=>UG hp nl,I.hok.kept D,?_⟩
 .rcases a h1 with B|⟨B,_⟩<;>obtain f5|⟨f5,_⟩:=a h2
  .exact name_of_addr ca B f5
  .exact UG (UN (k f5)<|Um (ZM _) (eH _ _ B).2) (Vq _)
  .exact UG (UN (k B)<|Um (ZM _) (eH _ _ f5).2) (Vq _)
  .exact I.ok.inj _ _ _ B f5
 .--has
  have hx:=hx;have hm:(x,NameKind.cell)∈w.names\/(x,W4)∈w.names:=by
   obtain hx|hx:=hx
   .obtain z|⟨_,z⟩:=j0 (VR hx)
    .exact .inl z
    .exact .inr z
   .obtain z|⟨_,z⟩:=j0 (VR hx)
    .exact .inr z
    .exact .inr z
  obtain hm|hm:=hm
  .have q:=cellsFrom_some w.names (s.heap.objs.size+1) (dQ X.env.cells w.names [])<|.inl<|dI g hm
   exact Option.isSome_iff_exists.mp q
  .obtain⟨c,_,Q⟩:=E hm
   exact⟨c,Q⟩
 .--cab
  obtain z|⟨_,z⟩:=a h
  .exact Um (ZM _) (eH _ _ z).2
  .have z':(w.names.lookup x !=U .free)=O:=hf
   rw[dI g z]at z';exact UG z' vy
 .obtain⟨o,e⟩:=W b J
  exact U7<|UJ e
 .obtain z|⟨z,_⟩:=a h
  .obtain⟨o,e'⟩:=W b J
   subst e;exact UG (UN (UJ e')<|Um (ZM _) (eH _ _ z).2)<|Vq _
  .exact(F b J).2.2.2.2.1 x c z e
 .obtain⟨_,_,_,h4,_⟩:=F b J
  obtain z|z:=h4
  .exact I.ok.noex b o e z
  .exact UG (UN (UJ (I.ok.bs b o e).1) z) (Vq _)
 .obtain⟨_,h2,h3,_⟩:=F b J
  obtain z|z:=Uq.mp (ek b hf)
  .exact h2 z
  .exact h3 z
 .--the names' values
  have hi:¬i<G.length:=λhi=>by
   rw[Yc (by simpa using hi),WG]at A;split at A<;>cases A
  have L:(G++K.map (λj=>X.N.getD j Yg))[i]?=U x:=by rw[<-T];exact e1
  rw[Wq rk]at L;rw[Wq<|by simpa using hi]at A;rw[V9]at A;cases q:K[i-G.length]? with
  |none=>rw[T9,q]at A;cases A
  |some j=>
   rw[T9,q]at L A;have C:X.N.getD j Yg=x:=UR L;have P:R.getD j Y=U v:=UR A;obtain⟨hj,t⟩:=cb j<|Uo q;rw[C]at t;obtain⟨c,Q,ab⟩:=E<|VR t;have ac:X.N[j]?=U x:=by
    rw[<-C,T6,Ua hj];rfl
   have S:R[j]?=U (U v):=by
    have hl:j<R.length:=by rw[I.len];exact hj
    rw[T6,Ua hl]at P;rw[Ua hl];exact U6 U P
   have V:=f _ (VR t) Z;obtain⟨m,hn,hl⟩:=I.loc;obtain⟨u,r,l⟩:=hl j x v ac S<|V.elim (λz=> .inr<|.inl z) λz=> .inr<|.inr z;refine⟨u,r,.inr ⟨?_,c,ab,?_⟩⟩
   .obtain z|z|z:=e3
    .exfalso
     obtain y|⟨y,_⟩:=j0 (VR z)
     .rw[dI g y]at t;cases t
     .cases y
    .exact .inl z
    .exact .inr z
   .obtain⟨l,_⟩|⟨_,c',e,z⟩:=l
    .exfalso
     obtain y|y:=V
     .have y':=y
      rw[l]at y';cases y'
     .have y':=y
      rw[l]at y';cases y'
    .rw[Q]at e
     cases e;exact z.keeps D
 .obtain z|⟨z,_⟩:=a h
  .exact⟨Y,(eH _ _ z).1⟩
  .obtain⟨v,q⟩:=I.cell x c z
   exact⟨v,q.keeps D⟩
 .obtain z|⟨z,_⟩:=a h
  .exact I.hok.fresh (Um (ZM _) (eH _ _ z).2)
  .exact I.freeC x c z
 .show _=Nc.length
  rw[T,Uv,Uv,V9,TX,TX]
abbrev TB:=St->Hp->(St->Hp->Prop)->Prop
abbrev a0Y:=T8->TB
inductive CKd where
 |L (e:Expr)|S (e:Expr)|D (k v:Expr)
instance:Coe Expr CKd:=⟨.L⟩
noncomputable def ul(c:CKd)(gens:a0T)(b:Scope)(pos:Xp):Expr:=match c with
 | .L e=> .ListComp e gens b pos
 | .S e=> .SetComp e gens b pos
 | .D k v=> .DictComp k v gens b pos
noncomputable def emC(c:CKd)(w:Uc)(b:Env):Sem Unit:=match c with
 | .L e=>do let _ <-call (.builtin "list.append") [w,<-Vv e b]
 | .S e=>do let v <-Vv e b;Yp e.pos;let _ <-call (.builtin "set.add") [w,v]
 | .D k v=>do
   let kv <-Vv k b
   let vv <-YY [kv] (Vv v b)
   match w with
   | .ref d=>do
    Yp {k.pos with endLine:=v.pos.endLine,endCol:=v.pos.endCol}
    YY [kv,vv] (dictSet d kv vv)
   |_=>unsupported "internal:dictcomp"
noncomputable def jf(c:CKd)(w:a0T)(D:Scope)(pos:Xp)(d:Nat)(G:Uc)(b:Env)(k:Sem PySem.Fin):Sem PySem.Fin:=
 match w[d+1]? with
 |some E=>do
  let x <-Vv E.iter b
  Yp E.iter.pos
  let x <-if E.is_async !=0 then foldedIterable E.iter x else Vo E.iter b x
  let _ <-runOwn (.compStart (ul c w D pos) (d+1) (<-YY [x] (if E.is_async !=0 then asyncIter x else pyIter x)) G b) b
  k
 |none=>do
  emC c G b
  k
theorem yR{a b:Expr}{pos:Xp}(e:f[d]?=U ⟨a,b,k,0⟩):
  compTurn (ul c f g pos) d j i h=(do
   Yp b.pos
   match <-X3 j with
   |none=>Wo<|.done .next
   |some v=>
    Zy a j v
    Zu a h v
    let mut ok:=O
    for y in k do
     if ok then ok <-isTrue y h (Vv y h)
    if ok then jf c f g pos d i h (again<|.compLoop (ul c f g pos) d j i h)
    else again (.compLoop (ul c f g pos) d j i h)):=by
 cases c<;>(
  unfold compTurn jf ul
  dsimp only
  rw[e]
  dsimp only
  cases f[d+1]?<;>rfl)
variable{f5:UT}{A:Vn}{R:Result->Uj->Prop}{s:Uj}
theorem LQ{pos:Xp}(C:J[d]?=U ⟨b0,T,Q,0⟩)(I:Nat->Uj->Prop)
  (p:∀n s,I n s->Us (UP f5 w) A (X3 N) (λr a=>match r with
   |none=>R (.ok .next) a
   |some v=>Us (UP f5 w) A (Zy b0 N v) (λ_ b=>Us (UP f5 w) A (Zu b0 F v) (λ_ j=>
    Us (UP f5 w) A (forIn Q O λy r=>if r=O then do let G <-isTrue y F (Vv y F);Wo (ZJ G)else Wo (ZJ r)) (λG g=>
     if G=O then ∀(k:Sem PySem.Fin) (u:PySem.Fin->Uj->Prop) (B:a0f),(∀i m,m<n->I m i->Us (UP f5 w) A k u B i)->Us (UP f5 w) A (jf c J H pos d L F k) u B g
     else ∃m,m<n/\I m g) (λ_ _=>False) j) (λ_ _=>False) b) (λ_ _=>False) a) (λ_ _=>False) s)
  (n:Nat) (h:I n s):
  YC (UP f5 w) A (.compLoop (ul c J H pos) d N L F) R s:=by
 refine codeAny_loop Z I (λn s hI=>?_) n h
 suffices z:Us _ A ((compTurn (ul c J H _) d N L F).onRaise _) (λt K=>match t with
   |Fin.done f=>R (Vw f) K
   |Fin.again c'=>c'=Code.compLoop (ul c J H _) d N L F/\∃m,m<n/\I m K) _ s by cases c<;>exact z
 apply wpAny_noted;rw[yR C];refine My<|Wu<|My<|Vt (p n s hI) (λr a D=>?_) λ_ _ E=>E.elim;cases r with
 |none=>exact TZ D
 |some v=>
  refine My<|Vt D (λ_ b o=>(My<|Vt o (λ_ j q=>My<|Vt q (λG g l=>?_) λ_ _ E=>E.elim) λ_ _ E=>E.elim)) λ_ _ E=>E.elim;cases G with
  |false=>exact TZ ⟨Z,l⟩
  |true=>exact l _ _ _ λi m M hI=>TZ ⟨Z,m,M,hI⟩
theorem GF{pos:Xp}(j:l[d]?=U ⟨b0,n,p,0⟩)
  (i:YC (UP f5 w) A (.compLoop (ul c l k pos) d q o m) R s)
  (h:Us (UP f5 w) A (pyIter q) (λa D=>YC (UP f5 w) A (.compLoop (ul c l k pos) d a o m) R D) (λ_ _=>False) s):
  YC (UP f5 w) A (.compStart (ul c l k pos) d q o m) R s:=by
 apply codeAny_of_tree
 suffices z:Us (UP f5 w) A ((compStart (ul c l k pos) d q o m).onRaise _) (λg D=>match g with
   |Fin.done f=>R (Vw f) D
   |Fin.again c'=>c'.quiet=O/\YC (UP f5 w) A c' R D) _ s by cases c<;>exact z
 apply wpAny_notedAt;unfold compStart;have b:(clausesOf<|ul c l k pos)[d]?=U ⟨b0,n,p,0⟩:=by cases c<;>exact j
 generalize (clausesOf<|ul c l k pos)[d]?=og at b⊢;subst b;refine My<|Ze<|wpAny_ite ?_;split
 .first
   |exact My (TZ (TZ (And.intro Z i)))
   |exact TZ (And.intro Z i)
 .first
   |exact My _
   |(refine My (Xm ?_);exact My (Wu (My (Vt h (λa D E=>TZ<|And.intro Z E) λ_ _ x=>x.elim))))
def eX(X:Cx)(b:List Expr)(t:TT):Prop:=
 ∀(a:a0d) (s:Uj) (d:St) (H:Hp) (Q:a0V),b_ X a d H s->t d H Q->
  Us (UP X.prog X.w) X.A (forIn b O λc r=>if r=O then do let ok <-isTrue c X.env (Vv c X.env);Wo (ZJ ok)else Wo (ZJ r)) (TP X a d Q) X.xe s
noncomputable def Pl:TT:=λ_ H Q=>Q O H
theorem xS{X:Cx}:eX X [] Pl:=λ_ _ _ H _ I h=>TZ ⟨H,I,h⟩
theorem Ln{X:Cx}(d:PT X c t):eX X [c] t:=λa s e H Q I h=>by
 rw[XA];exact My<|My<|Vt (d a s e H Q I h) (λb w f=>TZ<|TZ f) λ_ _ x=>x
def PB(X:Cx)(c:CKd)(gens:a0T)(E:Scope)(pos:Xp)(d:Nat)(D:T8)(t:TB):Prop:=
 ∀(a:a0d) (s:Uj) (e:St) (H:Hp) (Q:a0H),b_ X a e H s->t e H Q->
  ∀(k:Sem PySem.Fin) (f:PySem.Fin->Uj->Prop) (g:a0f),(∀G b h,b_ X a b h G->Q b h->Us (UP X.prog X.w) X.A k f g G)->Us (UP X.prog X.w) X.A (jf c gens E pos d (.ref D) X.env k) f g s
def dP(J:It)(g:TG)(s:TT)(j:TB):TB:=λc H Q=>∃W:Nat->Nat->St->Hp->Prop,(∃m,W 0 m c H)/\∀i m c H,W i m c H->
 (J.stop i H/\Q c H)\/(J.go i H/\∃N:St->Hp->Prop,(∀d e,N d e->∃f,f<m/\W (i+1) f d e)/\∀x e,J.yld i H x e->g x c e λa k=>s a k λb h=>if b=O then j a h N else N a h)
def ET(D:T8)(c:TE):TB:=λa H Q=>c a H λv b=>∃s,b D=U (.lst s)/\s.length<UC/\Q a (upd b D<|.lst<|s++[v])
def ES(b:TI)(c:It->TB):TB:=λa H Q=>b a H λJ d=>c J a d Q
variable{c:CKd}{ab b0 P:Expr}{aa:List Expr}{gens:a0T}{scope:Scope}{pos:Xp}{d:Nat}{D:T8}
theorem v5(hg:gens[d]?=U ⟨b0,P,aa,0⟩)(hc:X.calm=O)(F:X.xe=λ_ _=>False)(S:PG X b0 g)(V:eX X aa tt)(j:PB X c gens scope pos d D tb)
  {s:Uj}
  (I:b_ X a_ σ H s) (T:p3 X.prog X.w X.K b0 J fp it tn) (st:tn 0 s.heap) (hf:∀b∈fp,gy X a_ H b) (h:dP J g tt tb σ H Q):
  YC (UP X.prog X.w) X.A (.compStart (ul c gens scope pos) d (.ref it) (.ref D) X.env) (λr G=>r= .ok .next/\∃a f,b_ X a_ a f G/\Q a f) s:=by
 obtain⟨W,⟨m0,w0⟩,L⟩:=h;have l:∀{f:Hp},(∀b∈fp,f b=Y)->∀b∈fp,gy X a_ f b:=λhn b j=>⟨hn b j,(hf b j).2⟩;have t:YC (UP X.prog X.w) X.A (.compLoop (ul c gens scope pos) d (.ref it) (.ref D) X.env) (λr G=>r= .ok .next/\∃a f,b_ X a_ a f G/\Q a f) s:=by
  refine LQ hg (λn G=>∃i a f,b_ X a_ a f G/\tn i G.heap/\(∀b∈fp,f b=Y)/\W i n a f) ?_ m0 ⟨0,σ,H,I,st,λb j=>(hf b j).1,w0⟩;rintro n s3 ⟨i,p,cb,I3,f5,ek,w3⟩;obtain⟨M,qn⟩|⟨go,N,hN,step⟩:=L i n p cb w3
  .refine ee (T.done X Z Z Z hc i a_ s3 p cb _ I3 (l ek) f5 M) λr s4 ⟨hr,I4⟩=>?_
   subst hr;exact⟨Z,p,cb,I4,qn⟩
  .refine ee (T.item X Z Z Z hc i a_ s3 p cb _ I3 (l ek) f5 go) λr s4 ⟨u,hr,h4⟩=>?_
   subst hr;refine ee h4 λ_ s5 ⟨x,H5,I5,r5,y5,v,ab⟩=>?_;have E:∀{q:St} {y:Hp} {B:Uj},b_ X _ q y B->N q y->∃m,m<n/\∃i a f,b_ X a_ a f B/\tn i _/\(∀b∈fp,f b=Y)/\W i m a f:=λ{q y B} C n7=>by
    obtain⟨m',hm,w7⟩:=hN q y n7;refine⟨m',hm,i+1,q,y,C.unpinned,T.keep _ _ _ v λb j o e=>(C.pin _<|Vg _<|Vg _<|jD j e).1,λb j=>?_,w7⟩;obtain⟨o,e,d⟩:=T.obj _ _ v b j;exact(C.pin _<|Vg _<|Vg _<|jD j e).2.1
   have h6:=S _ s5 p H5 x u _ (I5.pinned (l ab)<|T.obj _ _ v) r5<|step x H5 y5;rw[F]at h6;refine ee h6 λ_ s6 ⟨eH,H6,I6,q6⟩=>?_;have h7:=V _ s6 eH H6 _ I6 q6;rw[F]at h7;refine ee h7 λb B ⟨y,C,R⟩=>?_;cases b with
   |true=>
    rw[Uf Z]at R⊢;refine λk Q' E' hk=>j _ B eH y N C R k Q' E' λs8 ad H8 I8 n8=>?_;obtain⟨m,hm,z⟩:=E I8 n8;exact hk s8 m hm z
   |false=>
    rw[Uh Uk]at R⊢;exact E C R
 exact GF hg t<|T.self _ 0 s _ _ st t
theorem aI(m:gens[d+1]?=Y)(o:PE X ab x)(b:X.xe=λ_ _=>False):PB X ab gens scope pos d D (ET D x):=by
 intro a s g H Q I h k y B p;unfold jf;rw[m];show Us _ _ _ _ _ _
 have i:=o a s g H _ I h;rw[b]at i;refine My<|My<|Vt i (λu C ⟨v,J,j,r,w,l,L,q⟩=>?_) λ_ _ f=>f.elim;obtain⟨z,c,n,t,N,e⟩:=j.lstM l;refine My<|call_meets F.slot_list_append ⟨_,e,Z⟩ F.entry_list_append (F.args_list_append_2 _ _) (PySem.list_append D _ n u<|by rw[UB];lia) ⟨e,TZ<|p _ g _ (j.lset l e nl (t.append<|.cons r .nil) ?_) q⟩;rw[Uv,Vf];lia
theorem qp(o:gens[d+1]?=U ⟨target',iter',ifs',0⟩)(p:X.calm=O)(a:X.xe=λ_ _=>False)(t:PI X target' iter' wi)
  (j:PG X target' g) (l:eX X ifs' tt) (u:PB X c gens scope pos (d+1) D tb) (w:autoParam (∀x,Vo iter' X.env x=Wo x) xz):PB X c gens scope pos d D (ES wi λJ=>dP J g tt tb):=by
 intro b s y H Q I h k eH cb B;unfold jf;rw[o];have i:=t b s y H _ I h;rw[a]at i;refine My<|Vt i (λv E i=>My<|Wu ?_) λ_ _ f=>f.elim;refine My<|XI (w v) ?_;refine My<|VB<|Vt i (λC G F=>?_) λ_ _ f=>f.elim;obtain⟨K,M,P,J,R,e,L,T,m,f2,q⟩:=F;subst e;refine My<|wpAny_runOwn<|ZH (v5 o p a j l u L T m f2 q) λr A ⟨N,z⟩=>?_;subst N;obtain⟨n,f5,ek,W⟩:=z;exact B A n f5 ek W
noncomputable def mQ(b:a0i)(c:a0a)(a:St):St:=UL b.length Y++c.map (λj=>a.getD j Y)
def Mks(X:Cx)(mk:Sem Uc)(g:T8->HO):Prop:=∀(a:a0d) (s:Uj) (f:St) (H:Hp) (E:a0f) (Q:a0f),b_ X a f H s->
 (∀e:Uj,b_ X a f (upd H s.heap.objs.size<|g s.heap.objs.size) e->(∀b o,s.heap.get? b=U o->e.heap.get? b=U o)->Q (.ref s.heap.objs.size) e)->Us (UP X.prog X.w) X.A mk Q E s
theorem x6{X:Cx}:Mks X (newList []) λ_=> .lst []:=λa s f H E Q I h=>U1<|h _ (I.lnew .nil<|Vp _) λb o e=>T1 _ e
def su(c:a0i)(d:a0a)(e:TI)(f:T8->It->TB):TE:=λa H Q=>e a H λJ b=>∀D,b D=Y->f D J (mQ c d a) (upd b D<|.lst []) λ_ g=>Q (.ref D) g
structure c_ (X:Cx) (scope:Scope) (Nc c4:a0i) (b4:a0a):Prop where
 kind:scope.kind= .function
 nd:(scope.names.map (·.1)).Nodup
 free:∀y∈scope.names,y.2= .free->X.env.kindOf y.1=U .cell\/X.env.kindOf y.1=U .free
 names:Nc=c4++b4.map (λj=>X.N.getD j Yg)
 cap:∀j∈b4,j<X.N.length/\scope.names.lookup (X.N.getD j Yg)=U .free
variable{R:a0T}{Nc c4:a0i}{b4:a0a}{g:TG}{tt:TT}{tb:a0Y}{wi:TI}
def RU(X:Cx)(a:a0d)(H:Hp)(C:T8):Prop:=H C=Y/\C≠X.env.locals/\X.s₀.heap.objs.size<=C/\(∀x c,X.env.cells.lookup x=U c->c≠C)/\∀p∈X.pn++a,p.1≠C
theorem je{c:CKd}{mk:Sem Uc}{B:T8->HO}(f5:Mks X mk B){f:a0d}{F:St}{H:Hp}{s:Uj}{it:T8}{h:a0r}{Q:Nat->Vl->Prop}{J:It}{E:a0f}{QQ:T8->Hp->Prop}{RR:Uc->T8->Result->Uj->Prop}
  (hc:X.calm=O) (S:c_ X scope Nc c4 b4)
  (L:∀(cl:a0m) (C:T8) (h:a0r) (s:Uj) (H:Hp),PG (aT X Nc scope cl C h s H) b0 g/\eX (aT X Nc scope cl C h s H) aa tt/\∀D,PB (aT X Nc scope cl C h s H) c (⟨b0,P,aa,0⟩::R) scope pos 0 D<|tb D)
  (I:b_ X f F H s) (T:p3 X.prog X.w X.K b0 J h it Q) (st:Q 0 s.heap) (ek:∀b∈h,gy X f H b)
  (q:∀D,H D=Y->dP J g tt (tb D) (mQ c4 b4 F) (upd H D<|B D) λ_ k=>QQ D k)
  (W:∀(D C:T8) (M:Uj) (k:Hp) (m:a0j),b_ X f F k M->M.heap.Ns C m->RU X f k C->QQ D k->RR (.ref D) C (.ok .next) M):
  Us (UP X.prog X.w) X.A mk (λV t=>Us (UP X.prog X.w) X.A (newFunctionEnv scope X.env.globals (dQ X.env.cells scope.names []) [] X.env.qual Y .none<|U X.env) (λj u=>
   YC (UP X.prog X.w) X.A (.compStart (ul c (⟨b0,P,aa,0⟩::R) scope pos) 0 (.ref it) V {j with scope:=relabel scope X.env}) (RR V j.locals) u) E t) E s:=by
 refine f5 f s F H _ _ I λi l y=>?_;have hD:=I.fresh;have q3:=q _ hD;have eH:∀b∈h,∃o,i.heap.get? b=U o:=λb L=>let ⟨o,e,_⟩:=T.obj _ _ st b L;⟨o,y b o e⟩
 have cb:∀b∈h,gy X f (upd H _<|B s.heap.objs.size) b:=λb a=>⟨by
  rw[bt]
  .exact(ek b a).1
  .obtain⟨o,e,_⟩:=T.obj _ _ st b a
   exact U7<|UJ e,(ek b a).2⟩
 generalize ab:upd H _ _=H3 at l q3 cb;generalize s.heap.objs.size=D at hD ab q3⊢;refine Ml λh' ns G ce ca=>?_;have N:=L8 l S.kind S.nd S.free S.names S.cap cb eH ns G ce ca;obtain⟨b1,b2,b3⟩:=L _ _ h i H3;have f4:∀b∈h,gy _ [] H3 b:=λb a=>
  ⟨(cb b a).1,(N.ok.exf b a).1,N.ok.exfs b a,.inl a,(N.ok.exf b a).2,λp hp=>UG hp nl⟩
 refine ZH (v5 (X:=aT X Nc _ _ _ h i H3) Z hc Z b1 b2 (b3 D) N T (T.keep _ _ _ st λb L o e=>G b o<|y b o e) f4 q3) λr M ⟨hr,ad,k,n,q'⟩=>?_;subst hr;obtain⟨m,hm,_⟩:=n.loc;refine W D _ M k m (l.call' n.os n.base n.hok n.bare λb a=>?_) hm ⟨n.free,WV l.lt,l.sz,λx c e z=>?_,λp hp z=>?_⟩ q'
 .obtain⟨_,h2,h3,h4,h5,h6⟩:=ek b a
  exact⟨h4,h2,h5,h6⟩
 .obtain⟨v,e'⟩:=l.cell x c e
  exact UG (z▸e'.lt)<|Vq _
 .have:=UJ (l.pin p hp).1
  rw[z]at this;exact UG this<|Vq _
theorem b_.letgo{s:Uj}(I:b_ X h i H s)(o:RU X h H C)(c:UU C s.heap j):b_ X h i H {s with heap:=j}:=
 I.turned (λb f a e=>(c.2 b a).trans e) o.1 (Ne.symm<|Ne.symm o.2.1) (.inr o.2.2.1) o.2.2.2.1 o.2.2.2.2
theorem c_.clo(S:c_ X scope Nc c4 b4)(b:X.Ok):closureFor scope X.env=Wo (dQ X.env.cells scope.names []):=EN λy c a=>b.has _<|S.free y c a
theorem c_.loc(S:c_ X scope Nc c4 b4):∀x∈scope.names,x.2= .local->scope.names.lookup x.1=U .local:=λx b a=>dI S.nd (by rw[<-a];exact b)
theorem qo(j:X.calm=O)(S:c_ X scope Nc c4 b4)(k:PI X b0 P wi)
  (l:∀(d:a0m) (C:T8) (b:a0r) (s:Uj) (H:Hp),PG (aT X Nc scope d C b s H) b0 g/\eX (aT X Nc scope d C b s H) aa tt/\∀D,PB (aT X Nc scope d C b s H) ab (⟨b0,P,aa,0⟩::R) scope pos 0 D<|tb D)
  (G:autoParam (∀x,Vo P X.env x=Wo x) xz):PE X (.ListComp ab (⟨b0,P,aa,0⟩::R) scope pos) (su c4 b4 wi λD J=>dP J g tt<|tb D):=by
 intro a s n H Q I h;refine Xl Z G (S.clo I.ok) S.kind S.loc<|Vt (k a s n H _ I h) (λv N o=>Vt o (λp f5 r=>?_) λ_ _ x=>x) λ_ _ x=>x;obtain⟨M,b,L,J,W,e,t,T,f,f2,q⟩:=r;subst e;exact je x6 j S l t T f f2 q λD C V u m y K B F=>⟨m,K,λz i=>⟨.ref D,u,y.letgo B i,Z,F⟩⟩
theorem zM{b f:Xp}(y:X.N.Nodup)(l:X.N[i]?=U x)(G:Iv X.env.scope x)(B:X.calm=O)(S:c_ X scope Nc c4 b4)(F:PI X b0 P wi)
  (f5:∀(d:a0m) (C:T8) (k:a0r) (s:Uj) (H:Hp),PG (aT X Nc scope d C k s H) b0 g/\eX (aT X Nc scope d C k s H) aa tt/\∀D,PB (aT X Nc scope d C k s H) ab (⟨b0,P,aa,0⟩::R) scope pos 0 D<|tb D)
  (n:autoParam (Zc (.ListComp ab (⟨b0,P,aa,0⟩::R) scope pos) (U<|.Name x b) f.line X.env=Wo O) qQ)
  (K:autoParam (∀x,Vo P X.env x=Wo x) xz) (Q:autoParam (b0d X x) xy):
  PS X (.Assign [.Name x b] (.ListComp ab (⟨b0,P,aa,0⟩::R) scope pos) f) (gr (su c4 b4 wi λD J=>dP J g tt<|tb D)<|d7 i):=by
 intro j s W H D I h;rw[exec_Assign_Name_used _ _ _ _ n];refine My<|Wu<|My ?_;show Us _ _ _ _ _ s
 refine My<|Vt (Xl Z K (S.clo I.ok) S.kind S.loc
  (Vt (F j s W H _ I h) (λv s1 cb=>Vt cb (λL M V=>?_) λ_ _ e=>e) λ_ _ e=>e)) (λ_ s' hq=>TZ<|TZ hq) λ_ _ e=>e
 obtain⟨it,k,tn,J,H2,e,o,T,p,f2,q⟩:=V;subst e;refine je x6 B S f5 o T p f2 q λA C s' H' m I' ns r q'=>?_;refine wpAny_assign_Name<|oJ I' y l G (v:= .ref A) Z (λM o ⟨a,sb,ha⟩=>?_) Q;have t:C≠a:=by
  obtain rfl|ha:=ha
  .exact r.2.1
  .exact λz=>r.2.2.2.1 x a ha z.symm
 exact⟨m,ns.sameBut sb t,λh' u=>⟨_,H',o.letgo r u,q'⟩⟩
end
end L2
namespace L2
open Sem (wp)
open Builtin Builtin.ObjectAttr
structure XShape (h:Vl) (C:T8) (bm:a0g):Prop where
 at_:∃(nm q:U3) (N:T8) (bs:a0g) (hdct:Bool) (sn:a0i) (sub:a0g) (ab:Bool) (col:a0S) (dd:a0U) (k0 k1 k2 k3 k5:Option Uc),
  h.get? C=U (excClassObj nm q C N bs bm hdct sn sub ab col dd k0 k1 k2 k3 k5 "ValueError.__new__")
 val:bm.contains (.type "ValueError")=O
 bas:bm.contains (.type "BaseException")=O
 att:bm.contains (.type "AttributeError")=T4
 nam:bm.contains (.type "NameError")=T4
section
variable{i:UT}{w:UY}{A:Vn}{E:a0f}{h:Vl}{g:Array GenState}{d:Drawn}{t:Nat}{j:Wr}{C:T8}{k f:a0g}
noncomputable def AU:a0g->Bool
 |[.type a,.type b,.type c,.type d]=>a=="ValueError"&&b=="Exception"&&c=="BaseException"&&d=="object"
 | .ref _::r=>AU r
 |_=>T4
variable{s:Uj}{e:T8}{K:UA}{b:ClassData}{a:U3}{v:Uc}
end
end L2
namespace L2
theorem b6.there{h:Vl}(x:b6 P w H h a o):∃b,h.get? a=U b:=by
 cases o with
 |lst xs=>obtain⟨_,_,_,_,e⟩:=x;exact⟨_,e⟩
 |tup xs=>obtain⟨_,_,_,_,e,_⟩:=x;exact⟨_,e⟩
 |ins C dx fs=>obtain⟨_,_,_,e,_⟩:=x;exact⟨_,e⟩
 |own y=>exact x
 |xd fs=>obtain⟨_,⟨_,_,_,e,_⟩,_⟩:=x;exact⟨_,e⟩
 |rng lo hi=>obtain⟨_,_,_,e⟩:=x;exact⟨_,e⟩
 |frz b u=>obtain⟨e,_⟩:=x;exact⟨_,e⟩
 |tbl ps=>exact⟨_,(show h.get? a=U _ from x)⟩
 |met f y=>exact⟨_,(show h.get? a=U _ from x)⟩
 |ext φ=>obtain⟨_,e,_⟩:=x;exact e
structure Flown (P:UT) (w:UY) (outer:List Env) (H:Hp) (s:Uj) (E:XK) (x C:T8) (H':Hp) (s':Uj):Prop where
 os:s'.os=s.os
 bare:ZB s'.gens
 un:Un (io outer) [] H H' s.heap s'.heap
 hok:lw P w H' s'.heap
 tr:∃(oe:Vy) (vs:a0E) (T:T8) (oT:Vy) (ts:a0E) (a0:Uc),s'.heap.get? x=U oe/\(oe.cls= .ref C/\vs[0]?=U a0)/\oe.data= .fields vs/\vs[1]?=U (.ref T)/\T≠x/\s'.heap.get? T=U oT/\oT.data= .fields ts/\ts[3]?=U .none/\H' T=Y/\s.heap.get? T=Y
 xn:H' x=Y
 xs:s.heap.get? x=Y
 wish:E (.ref C) Y H'
def hO(P:UT)(w:UY):O2:=λD H s E e G=>∃x C a,e= .ref x/\Flown P w D H s E x C a G
theorem JA{X:Cx}{s G:Uj}{E:XK}(I:b_ X a_ σ H s)(g:X.stack=X.env::X.outer)(i:X.env.frame=U X.env.locals)(Q:X.ex=[])
  (os:G.os=X.s₀.os) (M:ZB G.gens) (d:Un (io X.stack) [] X.H₀ H' X.s₀.heap G.heap) (S:lw X.prog X.w H' G.heap) (y:∀b∈io X.stack,H' b=Y)
  (c:∀b∈ext,X.s₀.heap.get? b=Y/\H' b=Y) (hx:x∈ext) (V:E (.ref C) Y H')
  (L:Heap.LeftW (hideAll G.heap<|ext++io X.stack) (X.env::X.outer) x (.ref C) a0 G.heap h'):Flown X.prog X.w X.outer X.H₀ X.s₀ E x C H' {G with heap:=h'}:=by
 obtain⟨R,L2,f5,W⟩:=L;have j:∀b∈io _,b∈io X.stack:=λb hb=>by
  rw[g];unfold io;rw[V7,i];exact T3 _ hb
 have h:∀b∈io X.stack,b=X.env.locals\/b∈io _:=λb hb=>by
  rw[g]at hb;unfold io at hb;rw[V7,i]at hb;exact Uq.mp hb
 have D:=λb o e B cb=>
  R b o (hideAll_get _ e λhm=>(Vr.mp hm).elim B cb)
 have k:∀b o,X.s₀.heap.get? b=U o->b∉ext:=λb o e hb=>by rw[(c b hb).1]at e;cases e
 have f:∀b∈io _,∃o,h'.get? b=U o/\∀vs,o.data≠ .fields vs:=λb hb=>(L2.mem<|by rw[<-g];exact hb).2;obtain⟨A,vs,T,oT,ek,he,hc,hd,B,l,F,P,m,h3⟩:=f5;have p:H' T=Y/\X.s₀.heap.get? T=Y:=by
  by_cases hm:T∈ext++io X.stack
  .obtain hm|hm:=Vr.mp hm
   .exact⟨(c T hm).2,(c T hm).1⟩
   .obtain⟨o,e,K⟩:=f T hm
    rw[P]at e;cases e;exact UG m<|K ek
  .have hs:G.heap.get? T=Y:=by
    cases q:G.heap.get? T with
    |none=>rfl
    |some o=>rw[hideAll_get _ q hm]at l;cases l
   constructor
   .cases q:H' T with
    |none=>rfl
    |some o=>obtain⟨ob,e⟩:=(S T o q).there;rw[hs]at e;cases e
   .cases q:X.s₀.heap.get? T with
    |none=>rfl
    |some o=>obtain⟨ob,e⟩:=d.there T o q nl;rw[hs]at e;cases e
 refine⟨os,M,⟨λb o e n hb _=>?_,λb o e n hb _=>?_,λb o e n hb=>d.free b o e n hb,λb o e _=>?_,d.tups,d.frzs,d.tbls⟩,λa o e=>?_,⟨A,vs,T,oT,ek,a0,he,hc,hd,B,F,P,m,h3,p.1,p.2⟩,(c x hx).2,(c x hx).1,V⟩
 .have K:=λz=>(h b z).elim ((λb o e=>U7<|UN (UJ e) I.ok.above) b o e) hb
  exact D b o (d.keep b o e n K nl) (k b o e) K
 .obtain⟨sl,r⟩:=d.slot b o e n (j b hb) nl
  obtain⟨_,J,v,K⟩:=I.ok.funs.mem hb;rw[e]at v;cases v;obtain⟨N,e3⟩:=W b _ r K;exact⟨N,e3⟩
 .obtain⟨J,r⟩:=d.there b o e nl
  by_cases hb:b∈io X.stack
  .obtain⟨o2,v,_⟩:=f b hb
   exact⟨o2,v⟩
  .exact⟨J,D b J r (k b o e) hb⟩
 .refine(S a o e).stay (λb u hb r=>?_) (λ_ q=>q) λ_ _ q=>q
  have t:H' b≠Y:=by
   obtain rfl|hb:=hb
   .rw[e];simp
   .rw[hb];simp
  exact D b u r (λz=>t (c b z).2) λz=>t<|y b z
theorem JZ{h base:Vl}(d:h.FunFrames base l)(c:∀b∈io l,b∈as):h.FunFrames (hideAll h as) l:=
 PySem.W.funFrames_hide d λD e a E=>c a (by exact Zm.mpr ⟨D,e,E⟩)
theorem Oh{X:Cx}{E F:XK}(a:X.stack=X.env::X.outer)(d:X.env.frame=U X.env.locals)(f:X.ex=[])(R:∀D J H,F D J H->E D J H)
  (I:b_ X a_ σ H s) (h:hO X.prog X.w X.stack H s F e s'):
  Us (UP X.prog X.w) X.A (leaving X.env e) (λ_ j=>hO X.prog X.w X.outer X.H₀ X.s₀ E e j) E1 s':=by
 obtain⟨x,C,N,rfl,os,G,S,V,⟨cb,vs,T,ek,f5,a0,he,hc,hd,h1,k,hT,m,h3,n,p⟩,xn,xs,K⟩:=h;have M:∀b∈X.fs,b∈io X.stack:=λb hb=>by
  rw[a];unfold io;rw[V7,d];exact T3 _ hb
 have eH:Un (io X.stack) [] X.H₀ H X.s₀.heap s.heap:=by
  have b:=I.base;rw[f]at b;exact b.mono M λ_ z=>z
 have g:∀b,s.heap.get? b=Y->X.s₀.heap.get? b=Y:=λb e=>by
  cases q:X.s₀.heap.get? b with
  |none=>rfl
  |some o=>obtain⟨o',P⟩:=eH.there b o q nl;rw[e]at P;cases P
 have c:=I.stack;have i:s'.heap.FunFrames X.base X.stack:=by
  have aa:∀(l:List _),(∀b∈io l,b∈io X.stack)->s.heap.FunFrames X.base l->s'.heap.FunFrames X.base l:=by
   intro l
   induction l with
   |nil=>intro _ _;trivial
   |cons ab r ih=>
    intro hs hl;obtain⟨hk,⟨L,o,t,hn,u,v⟩,hr⟩:=hl;have Q:=hs L (by unfold io;rw[V7,t];exact Ud);obtain⟨sl,e⟩:=S.slot L o u (I.stkFree L Q) Q nl;exact⟨hk,⟨L,_,t,hn,e,v⟩,ih (λb hb=>hs b<|by unfold io;rw[V7,t];exact T3 _ hb) hr⟩
  exact aa _ (λ_ hb=>hb) c
 have y:∀b∈io _,N b=Y:=λb hb=>by
  obtain⟨_,o,u,_⟩:=c.mem hb;exact S.free b o u (I.stkFree b hb) nl
 have B:∀b∈io _,b∈[x,T]++io X.stack:=λb hb=>Vg _ hb;have hF:s'.heap.FunFrames (hideAll s'.heap<|[x,T]++io X.stack) (X.env::X.outer):=by
  have z:=JZ i B;rw[a]at z⊢;exact z
 refine wpAny_leaving_nextW (by rw[<-a];exact I.ok.frames) hF d ⟨cb,vs,T,ek,f5,he,hc,hd,h1,hideAll_none _ nl,k,hT,m,h3⟩ (λb o q=>PySem.W.of_hideAll _ q) (hideAll_none _<|by exact .head _) λh' L=>?_;refine⟨x,C,N,Z,JA I a d f (os.trans I.os) G (eH.trans S) V y (λb hb=>?_) (by exact .head _) (R _ _ _ K) L⟩;obtain rfl|hb:=Uq.mp hb
 .exact⟨g _ xs,xn⟩
 .obtain rfl:b=T:=by simpa using hb
  exact⟨g _ p,n⟩
section
variable{X:Cx}{c:a0d}{a:St}{H d:Hp}{s b:Uj}{E:XK}{x C:T8}
structure XC (K:UA) (C:T8):Prop where
 sh:∃bm,∀h:Vl,K.In h->XShape h C bm
 sa:Xv K (.ref C) "__setattr__"=U (U<|.builtin "object.__setattr__")
 cd:∃cd,PySem.W.clsIn K C=U cd/\cd.hasDict=O/\AU cd.mro=O
structure XMk (K:UA) (C f:T8):Prop where
 xc:XC K C
 init:Xv K (.ref C) "__init__"=U (U<|.ref f)
 fn:isFn K (.ref f)=O
 kp:Zx K (.ref C)=O
end
section
variable{X:Cx}{l:O2}{k:Nat}{f C:T8}{h:Uw}{g:a0i}{d:Sp}{b:a0k}{j:a0g}{E:a0u}{x m:U3}{p pos a:Xp}{e o:Expr}{i:List Expr}{c:TE}{t:TA}
structure ClsFn (K:UA) (D:T8) (m:U3) (f:T8):Prop where
 ga:specialIn K (.ref D) "__getattribute__"=U (U<|.builtin "type.__getattribute__")
 rd:PySem.W.readsIn K D (.type "type")=O
 fnd:PySem.W.findCls K (.ref D) (.type "type") m=U (.val<|.ref f)
 kp:Zx K (.ref f)=O
end
section
variable{P:UT}{w:UY}{K:UA}{B:a0j}{base:Vl}{N:a0i}{v:U3}{i:Scope}{f:T8}{j:Uc}{A:Vn}{y:List Env}{s:Uj}{H:Hp}{E:XK}
theorem cM:dL (hO P w) (f9 (hO P w) P w K B base N v i f j A y s H E) (λ_=>E):=λa b c d e D I h=>Oh Z Z Z (λ_ _ _ z=>z) I h
theorem wL:dL (hO P w) X E0:=λ_ _ _ _ _ _ _ h=>by
 obtain⟨_,_,_,_,F⟩:=h;exact F.wish.elim
theorem bD:PassesOwn (UP P w) (A.deeper<|Yw v i s.heap.objs.size f j) (Yw v i s.heap.objs.size f j) (f9 (hO P w) P w K B base N v i f j A y s H E).xe:=PassesOwn.leaving
structure g8 (K:UA) (x v:U3) (st:Va) (f:T8) (fd:Uw):Prop where
 ex:∃(oc:Uc) (od:a0U) (dV kV doc pm:Uc) (an:a0U) (cdv ct:Uc) (osl:Array<|Option Uc),
  fd=Yv x v (jJ st) (cK st) (ag st) dV kV doc pm an cdv ct/\K.lookup f=U ⟨oc,od,.func fd,osl⟩/\Y9 K cdv v=O
 kp:Zx K (.ref f)=O
theorem OU{K:UA}{x v:U3}{i:Va}{f:T8}(l:K.lookup f=U ⟨oc,od,.func<|Yv x v (jJ i) (cK i) (ag i) dV kV doc pm an a ct,b⟩)
  (c:Y9 K a v=O) (k:Zx K (.ref f)=O):g8 K x v i f (Yv x v (jJ i) (cK i) (ag i) dV kV doc pm an a ct):=⟨⟨oc,od,dV,kV,doc,pm,an,a,ct,b,Z,l,c⟩,k⟩
theorem g8.okE{x v:U3}{G:Va}{f:T8}{N M:a0i}(F:g8 K x v G f u)(S:bi N M<|ag G)(V:∀D H Q E,r D H Q E->D.length=M.length)
  (b:∀(a:Uc) (A:Vn) (y:List Env) (s:Uj) (H:Hp) (D:a0k) (Q:VK) (E:XK),d4 k (A.deeper<|Yw v (ag G) s.heap.objs.size f a)->r D H Q E->
   ∃t,PSs (f9 (hO P w) P w K B base N v (ag G) f a A y s H E) (cK G) t/\t {nx:=λ_ e=>Q .non e,rt:=Q} (gJ N D) H):e_ P w K B base (hO P w) (k+1) f u M r:=by
 obtain⟨l,m,n,o,g,p,q,a,z,h,rfl,i,c⟩:=F.ex;exact Nr i c S V λA y s H D Q E j d=>b a A y s H D Q E j d
theorem g8.ok{x v:U3}{D:Va}{f:T8}{N G:a0i}(F:g8 K x v D f z)(S:bi N G<|ag D)(M:∀vs H Q E,sp vs H Q E->vs.length=G.length)
  (b:∀(a:Uc) (A:Vn) (y:List Env) (s:Uj) (H:Hp) (vs:a0k) (Q:VK) (E:XK),d4 k (A.deeper<|Yw v (ag D) s.heap.objs.size f a)->sp vs H Q E->
   ∃t,PSs (f9 (hO P w) P w K B base N v (ag D) f a A y s H E).nox (cK D) t/\t {nx:=λ_ e=>Q .non e,rt:=Q} (gJ N vs) H):e_ P w K B base (hO P w) (k+1) f z G sp:=by
 obtain⟨m,n,o,p,g,r,u,a,V,i,rfl,j,c⟩:=F.ex;refine Nr j c S M λA y s H vs Q E l d=>?_;obtain⟨t,h,q⟩:=b a A y s H vs Q E l d;exact⟨t,h.nox,q⟩
abbrev TJ:=St->Hp->Nat->(Nat->Hp->Prop)->Prop
variable{X:Cx}{es:List Expr}{t:TJ}{pos:Xp}
theorem v8(i:X.calm=O):cN X (.builtin "sum") (λf H Q=>∃(a:T8) (t:a0e),f=[.ref a]/\fy X.K H a (t.map V.int)/\Q (.int t.sum) H):=by
 intro b s o H f B Q I r h;obtain⟨a,t,rfl,j,q⟩:=h;cases r with
 |cons A k=>
  cases A;cases k;obtain⟨w,l,p,u⟩:=I.list j;have c:=jF l;obtain⟨f,y⟩:=c.allInts.items;have d:=p.isList;rw[y]at d;refine sum_intListG (I.ok.hd i) d λD v E m=>?_;have e:preSum (numAt f) f.size=t.sum:=by
   have g:=c.numsOf;have n:w=(Yj f).toList:=by rw[<-y]
   rw[n,nums_intItems]at g;rw[preSum_eq,WR nl,g]
  rw[e];exact⟨.int _,H,I.kept m,⟨_,Z⟩,q⟩
def w4(i j:Int):Prop:=0<j/\j.natAbs.log2<9000
theorem j9:hE X (W8 .FloorDiv) (rI w4 λi j=> .int<|i/j):=q_ λi j _ _ _ _ _ a q=>by
 have b:=a.1;refine floordiv_int rk ?_<|.inl<|PyProof.noPylong_of_log2 a.2;rw[Zr _ rk];exact q
def ipC(C:a0W)(f:a0M):TIp:=λx y H Q=>∃i j,x= .int i/\y= .int j/\C i j/\Q (.int<|f i j) H
theorem OP:PIp X .FloorDiv (ipC w4 λi j=>i/j):=by
 intro a s d H x y v u Q I f b h;obtain⟨i,j,rfl,rfl,c,q⟩:=h;obtain⟨t,rfl⟩:=f;obtain⟨w,rfl⟩:=b;have e:=c.1;refine ifloordiv_int rk ?_<|.inl<|PyProof.noPylong_of_log2 c.2;rw[Zr _ rk];exact⟨.int _,H,I.tok _,⟨_,Z⟩,q⟩
theorem FP:∀{f:List String} {i:a0g},aE (f.map V.ty) i->i=f.map Xf
 |[],_,r=>by cases r;rfl
 |c::f,_,r=>by
  cases r with
  |cons j a=>
   cases j;rw[FP a];rfl
theorem EO{K:UA}{xs:a0k}{H:Hp}(Pv:Nat->St->Hp->Prop)(u:Pv 0 c H)(k:∀i c H,i<=xs.length->Pv i c H->fy K H a xs)
  (h:∀i x c H,xs[i]?=U x->Pv i c H->g x c H λd v=>z d v λb r=>if b=O then C d r (Pv<|i+1)else Pv (i+1) d r) (l:∀c H,Pv xs.length c H->Q c H):dP (Itl K a) g z C c H Q:=by
 refine⟨λi m c H=>i<=xs.length/\m+i=xs.length/\Pv i c H,⟨xs.length,Vp _,rk,u⟩,λi m c H ⟨n,s,j⟩=>?_⟩;by_cases o:i<xs.length
 .refine .inr ⟨⟨xs,xs[i],k i c H n j,Ua o⟩,Pv<|i+1,λy p q=>⟨m-1,rk,by grind,rk,q⟩,λx p ⟨e,f⟩=>?_⟩
  subst e;exact h i x c p (f xs<|k i c p n j) j
 .obtain rfl:i=xs.length:=by lia
  exact .inl ⟨⟨xs,k _ c H n j,Ug _⟩,l c H j⟩
theorem c_.plain{X:Cx}{i:Scope}(k:i.kind= .function)(s:(i.names.map (·.1)).Nodup)(f:∀y∈i.names,y.2≠ .free):c_ X i c4 c4 []:=
 ⟨k,s,λy t e=>UG e<|f y t,nl,λj a=>UG a nl⟩
def wZ(i j:Int):Prop:=i.natAbs<2^1000/\j.natAbs<2^1000
theorem lH{k:Int}(h:k.natAbs<2^1000):Builtin.Int.intBits k<=2^20:=by
 unfold Builtin.Int.intBits;split
 .exact Vp _
 .rename_i a
  have b:k.natAbs≠0:=by
   intro z;have:=Int.natAbs_eq_zero.mp z;subst this;simp at a
  have:=(Nat.log2_lt b).mpr h;have e:(2:Nat)^20=1048576:=by decide
  lia
theorem bQ{X:Cx}:hE X (W8 .Mult) (rI wZ λi j=> .int<|i*j):=q_ λ_ _ _ _ _ _ _ a q=>mul_int q<|IntMulOk.of_bits (lH a.1)<|lH a.2
theorem cj.upd{H:Hp}(h:H a=Y):cj H (upd H a o):=λb u e=>by rw[bt<|aP e h];exact e
abbrev eg:=Int×a0e
abbrev a0n:=List<|eg×T8×V
abbrev a0B:=List<|eg×T8×Uc
abbrev a0F:=List eg
noncomputable def hI(k:a0e):Int:=reduceHash<|YU<|k.map hashInt
def hB:Bool->eg->Int
 |true,k=>reduceHash<|YU [hashInt k.1,hI k.2]
 |false,k=>hI k.2
def EX(a:T8)(b:Bool)(i:Nat)(j:a0n)(h:Vl):Prop:=
 ∃o es,∃f:a0B,h.get? a=U o/\o.ExactDict/\o.data= .dict es i/\es.toList=f.map (λy=>⟨hB b y.1,.ref y.2.1,y.2.2⟩)/\(f.map (·.1)).Nodup/\(a==Zd)=T4/\f.length<=UC/\
  Zs (λ(x:eg×T8×V) (y:eg×T8×Uc)=>x.1=y.1/\x.2.1=y.2.1/\aY x.2.2 y.2.2) j f
noncomputable def cX(a:T8)(b:Bool)(f:Nat)(i:a0n):HO:= .ext<|EX a b f i
theorem u5{P:UT}{w:UY}{b:Bool}{H:Hp}(S:EX a b g l h):b6 P w H h a (cX a b g l):=by
 refine⟨S,?_,λc d z k=>?_⟩
 .obtain⟨o,_,_,e,_⟩:=S
  exact⟨o,e⟩
 .obtain⟨o,es,ys,e,r⟩:=z
  exact⟨o,es,ys,k _ e,r⟩
end
end L2
namespace L2.Pu
theorem la{D d e:Sort _}{P Q R:D->d->e->Prop}{C:Prop}(h:∃a b c,P a b c/\Q a b c/\R a b c)(k:∀a b c,P a b c->Q a b c->R a b c->C):C:=by
 obtain⟨a,b,c,x,y,z⟩:=h;exact k a b c x y z
theorem r8{D c:Sort _}{P Q R:D->c->Prop}{C:Prop}(h:∃a b,P a b/\Q a b/\R a b)(k:∀a b,P a b->Q a b->R a b->C):C:=by
 obtain⟨a,b,x,y,z⟩:=h;exact k a b x y z
set_option genInjectivity true in
inductive D where
 |non|bl (b:Bool)|int (i:Int)|str (x:U3)|ty (n:String)|txt
 |lst (xs:List D)|tup (xs:List D)|scr (xs:a0e)|obj (C:T8) (ns:a0i) (xs:List D)|bag|adr (a:T8)|dct (b:Bool) (ks:a0F) (vs:List D)
abbrev a0c:=List D
abbrev a0l:=Option D
abbrev a0v:=List a0c
abbrev a0C:=Option a0c
abbrev a0Z:=D->D->a0l
structure Bg where
 cells:a0e
 i:Int
 j:Int
structure Fx where
 A:T8->Prop
 bg:a0t
def KL(K:UA)(a:T8)(E:a0k):Prop:=
 ∃(o:Vy) (D:a0E) (n:Nat),K.lookup a=U o/\o.cls= .type "list"/\o.dict=Y/\o.data= .seq D n/\D.size<=UC/\aE E D.toList
def KT(K:UA)(a:T8)(E:a0k):Prop:=
 ∃(o:Vy) (D:a0E) (n:Nat),K.lookup a=U o/\o.cls= .type "tuple"/\o.data= .seq D n/\D.size<=UC/\aE E D.toList
def TQ(K:UA)(F:Fx)(H:Hp)(c:T8)(D:a0k):Prop:=(¬F.A c/\Rd H c (.tup D))\/KT K c D
def gx(K:UA)(F:Fx)(H:Hp):Bool->eg->T8->Prop
 |true,k,c=>∃e,TQ K F H c [.int k.1,.ref e]/\TQ K F H e (k.2.map V.int)
 |false,k,c=>k.1=0/\TQ K F H c (k.2.map V.int)
mutual
noncomputable def b5(K:UA)(F:Fx)(H:Hp):D->V->Prop
 | .non,v=>v= .non
 | .bl b,v=>v= .bl b
 | .int i,v=>v= .int i
 | .str x,v=>v= .str x
 | .ty n,v=>v= .ty n
 | .txt,v=>∃z,v= .str z
 | .lst ds,v=>∃a E,v= .ref a/\(¬F.A a/\Rd H a (.lst E))/\bb K F H ds E
 | .scr ns,v=>∃a,v= .ref a/\((¬F.A a/\Rd H a (.lst<|ns.map V.int))\/KL K a (ns.map V.int))
 | .tup ds,v=>∃a E,v= .ref a/\((¬F.A a/\Rd H a (.tup E))\/KT K a E)/\bb K F H ds E
 | .obj C ns ds,v=>∃a c E,v= .ref a/\¬F.A a/\H a=U (.ins C c<|ns.zip E)/\ns.length=E.length/\bb K F H ds E
 | .bag,v=>∃b l,F.bg=U (b,l)/\v= .ref b
 | .adr a,v=>v= .ref a
 | .dct b ks vs,v=>∃a G E,v= .ref a/\(¬F.A a/\H a=U (cX a b G E))/\ks=E.map (·.1)/\(∀x∈E,gx K F H b x.1 x.2.1)/\bb K F H vs (E.map (·.2.2))
noncomputable def bb(K:UA)(F:Fx)(H:Hp):a0c->a0k->Prop
 |[],xs=>xs=[]
 |d::ds,xs=>∃x r,xs=x::r/\b5 K F H d x/\bb K F H ds r
end
structure Tr (F:Fx) (H:Hp) (F2:Fx) (H2:Hp):Prop where
 av:∀a,¬F.A a->H a≠Y->¬F2.A a
 kp:∀a o,¬F.A a->H a=U o->H2 a=U o
 bg:F2.bg=F.bg
theorem Tr.refl(F:Fx)(H:Hp):Tr F H F H:=⟨λ_ h _=>h,λ_ _ _ h=>h,Z⟩
theorem Tr.trans(a:Tr F H F1 H1)(b:Tr F1 H1 F2 H2):Tr F H F2 H2:=
 ⟨λx c d=>b.av x (a.av x c d) (by
   cases q:H x with
   |none=>exact UG q d
   |some o=>rw[a.kp x o c q];simp),
  λx o c d=>b.kp x o (a.av x c<|by rw[d];simp)<|a.kp x o c d,b.bg.trans a.bg⟩
theorem Rd.tr{F b:Fx}(t:Tr F H b H2)(h:¬F.A a)(r:Rd H a u):¬b.A a/\Rd H2 a u:=by
 obtain r|⟨o,r⟩:=r
 .exact⟨t.av a h (by rw[r];simp),.inl<|t.kp a _ h r⟩
 .exact⟨t.av a h (by rw[r];simp),.inr ⟨o,t.kp a _ h r⟩⟩
theorem TQ.tr{K:UA}(t:Tr F H F2 H2)(h:TQ K F H c xs):TQ K F2 H2 c xs:=h.imp (λh=>Rd.tr t h.1 h.2) id
theorem gx.tr{K:UA}{b:Bool}(t:Tr F H F2 H2)(h:gx K F H b k c):gx K F2 H2 b k c:=by
 cases b with
 |true=>
  obtain⟨e,a,d⟩:=h;exact⟨e,a.tr t,d.tr t⟩
 |false=>exact⟨h.1,h.2.tr t⟩
mutual
theorem b5.tr{K:UA}(t:Tr F H F2 H2):∀(d:D) (v:V),b5 K F H d v->b5 K F2 H2 d v
 | .non,v,h=>h
 | .bl b,v,h=>h
 | .int i,v,h=>h
 | .str x,v,h=>h
 | .ty n,v,h=>h
 | .txt,v,h=>h
 | .lst ds,v,h=>by
  unfold b5 at h⊢;obtain⟨a,E,e,c,f⟩:=h;exact⟨a,E,e,Rd.tr t c.1 c.2,bb.tr t ds E f⟩
 | .scr ns,v,h=>by
  unfold b5 at h⊢;obtain⟨a,e,c⟩:=h;exact⟨a,e,c.imp (λ⟨p,q⟩=>Rd.tr t p q) id⟩
 | .tup ds,v,h=>by
  unfold b5 at h⊢;obtain⟨a,E,e,c,f⟩:=h;exact⟨a,E,e,c.imp (λ⟨p,q⟩=>Rd.tr t p q) id,bb.tr t ds E f⟩
 | .obj C ns ds,v,h=>by
  unfold b5 at h⊢;obtain⟨a,k,E,e,c,f,g,j⟩:=h;exact⟨a,k,E,e,t.av a c (by rw[f];simp),t.kp a _ c f,g,bb.tr t ds E j⟩
 | .bag,v,h=>by
  unfold b5 at h⊢;rw[t.bg];exact h
 | .adr a,v,h=>by
  unfold b5 at h⊢;exact h
 | .dct b ks vs,v,h=>by
  unfold b5 at h⊢;obtain⟨a,G,E,e,c,f,g,j⟩:=h;exact⟨a,G,E,e,⟨t.av a c.1 (by rw[c.2];simp),t.kp a _ c.1 c.2⟩,f,λx M=>(g x M).tr t,bb.tr t vs _ j⟩
theorem bb.tr{K:UA}(t:Tr F H F2 H2):∀(ds:a0c) (xs:a0k),bb K F H ds xs->bb K F2 H2 ds xs
 |[],xs,h=>h
 |d::ds,xs,h=>by
  unfold bb at h⊢;obtain⟨x,r,e,a,b⟩:=h;exact⟨x,r,e,b5.tr t d x a,bb.tr t ds r b⟩
end
section
variable{K:UA}{F:Fx}{H:Hp}
theorem bb.nil:bb K F H [] []:=Z
theorem bb.cons(h:b5 K F H d x)(t:bb K F H ds xs):bb K F H (d::ds) (x::xs):=⟨x,xs,Z,h,t⟩
theorem bb.length:∀{ds:a0c} {xs:a0k},bb K F H ds xs->ds.length=xs.length
 |[],xs,h=>by have e:=h;subst e;rfl
 |d::ds,xs,h=>by
  obtain⟨x,r,e,_,a⟩:=h;subst e;rw[Ur,Ur,bb.length a]
theorem bb.get:∀{E:a0c} {G:a0k} {i:Nat} {d:D},bb K F H E G->E[i]?=U d->∃x,G[i]?=U x/\b5 K F H d x
 |[],_,_,_,_,e=>by simp at e
 |c::E,G,0,d,h,e=>by
  obtain⟨x,r,q,a,b⟩:=h;subst q;simp at e;subst e;exact⟨x,Z,a⟩
 |c::E,G,i+1,d,h,e=>by
  obtain⟨x,r,q,a,b⟩:=h;subst q;obtain⟨y,f,g⟩:=bb.get b (by exact e);exact⟨y,by exact f,g⟩
theorem bb.getV:∀{E:a0c} {D:a0k} {i:Nat} {x:V},bb K F H E D->D[i]?=U x->∃d,E[i]?=U d/\b5 K F H d x
 |[],D,_,_,h,e=>by have q:=h;subst q;simp at e
 |c::E,D,0,d,h,e=>by
  obtain⟨x,r,q,a,b⟩:=h;subst q;simp at e;subst e;exact⟨c,Z,a⟩
 |c::E,D,i+1,d,h,e=>by
  obtain⟨x,r,q,a,b⟩:=h;subst q;obtain⟨y,f,g⟩:=bb.getV b (by exact e);exact⟨y,by exact f,g⟩
theorem bb.append:∀{ds E:a0c} {xs D:a0k},bb K F H ds xs->bb K F H E D->bb K F H (ds++E) (xs++D)
 |[],_,xs,_,h,h'=>by have q:=h;subst q;exact h'
 |c::ds,E,xs,D,h,h'=>by
  obtain⟨x,r,q,a,b⟩:=h;subst q;exact⟨x,r++D,Z,a,bb.append b h'⟩
theorem bb.take:∀{ds:a0c} {xs:a0k} (n:Nat),bb K F H ds xs->bb K F H (ds.take n) (xs.take n)
 |[],xs,n,h=>by have q:=h;subst q;simp;rfl
 |c::ds,xs,0,h=>by rfl
 |c::ds,xs,n+1,h=>by
  obtain⟨x,r,q,a,b⟩:=h;subst q;exact⟨x,r.take n,Z,a,bb.take n b⟩
theorem bb.drop:∀{ds:a0c} {D:a0k} (n:Nat),bb K F H ds D->bb K F H (ds.drop n) (D.drop n)
 |[],D,n,h=>by have q:=h;subst q;simp;rfl
 |c::ds,D,0,h=>h
 |c::ds,D,n+1,h=>by
  obtain⟨x,r,q,b,a⟩:=h;subst q;exact bb.drop n a
theorem bb.set:∀{ds:a0c} {xs:a0k} (i:Nat) {d:D} {x:V},bb K F H ds xs->b5 K F H d x->bb K F H (ds.set i d) (xs.set i x)
 |[],xs,i,_,_,h,_=>by have q:=h;subst q;rfl
 |c::ds,xs,0,d,x,h,hd=>by
  obtain⟨y,r,q,b,a⟩:=h;subst q;exact⟨x,r,Z,hd,a⟩
 |c::ds,xs,i+1,d,x,h,hd=>by
  obtain⟨y,r,q,b,a⟩:=h;subst q;exact⟨y,r.set i x,Z,b,bb.set i a hd⟩
theorem b5.sqL(h:b5 K F H (.lst d) v):∃a D,v= .ref a/\fy K H a D/\bb K F H d D:=by
 unfold b5 at h;obtain⟨a,D,e,b,c⟩:=h;exact⟨a,D,e,.inl b.2,c⟩
theorem b5.rdL(h:b5 K F H (.lst d) v):∃a D,v= .ref a/\Rd H a (.lst D)/\bb K F H d D:=by
 unfold b5 at h;obtain⟨a,D,e,b,c⟩:=h;exact⟨a,D,e,b.2,c⟩
theorem b5.scr{D:a0e}(h:b5 K F H (.scr D) v):∃a,v= .ref a/\fy K H a (D.map V.int):=by
 unfold b5 at h;obtain⟨a,e,b⟩:=h;exact⟨a,e,b.imp (λp=>p.2) id⟩
theorem b5.sqT(h:b5 K F H (.tup d) v):∃a D,v= .ref a/\i0 K H a D/\bb K F H d D:=by
 unfold b5 at h;obtain⟨a,D,e,b,c⟩:=h;exact⟨a,D,e,b.imp (λp=>p.2) id,c⟩
theorem b5.int(h:b5 K F H (.int i) v):v= .int i:=h
theorem b5.bl{i:Bool}(h:b5 K F H (.bl i) v):v= .bl i:=h
theorem b5.str(h:b5 K F H (.str i) v):v= .str i:=h
theorem b5.non(h:b5 K F H .non v):v= .non:=h
theorem b5.ty(h:b5 K F H (.ty n) v):v= .ty n:=h
theorem bb.ints:∀(E:a0e) {G:a0k},bb K F H (E.map D.int) G->G=E.map V.int
 |[],G,h=>h
 |n::E,G,h=>by
  obtain⟨x,r,e,a,b⟩:=h;rw[e,bb.ints E b];rw[a];rfl
theorem bb.ofInts:∀(E:a0e),bb K F H (E.map D.int)<|E.map V.int
 |[]=>rfl
 |n::E=>⟨.int n,E.map _,Z,Z,bb.ofInts E⟩
structure Fr (F:Fx) (H:Hp) (β:Bg):Prop where
 occ:∀a,F.A a->H a≠Y
 bgA:∀b l,F.bg=U (b,l)->F.A b/\F.A l/\b≠l
 bag:∀b l,F.bg=U (b,l)->H b=U (.lst [.ref l,.int β.i,.int β.j])/\H l=U (.lst<|β.cells.map V.int)
structure To (F:Fx) (H H':Hp) (β':Bg):Prop where
 kp:∀a o,H a=U o->(∀b l,F.bg=U (b,l)->a≠b/\a≠l)->H' a=U o
 fr:Fr F H' β'
theorem To.refl{F:Fx}{H:Hp}(fr:Fr F H a):To F H H a:=⟨λ_ _ h _=>h,fr⟩
theorem To.trans{F:Fx}{H c d:Hp}(a:To F H c β1)(b:To F c d β2):To F H d β2:=⟨λx o h n=>b.kp x o (a.kp x o h n) n,b.fr⟩
theorem Fr.same{F:Fx}{H c:Hp}(fr:Fr F H d)(s:cj H c):To F H c d:=
 ⟨λa o h _=>s a o h,⟨λa h q=>(by
  cases e:H a with
  |none=>exact fr.occ a h e
  |some o=>exact UG ((s a o e).symm.trans q) nl),fr.bgA,λb l e=>⟨s _ _ (fr.bag b l e).1,s _ _ (fr.bag b l e).2⟩⟩⟩
theorem Fr.upd{F:Fx}{H:Hp}(fr:Fr F H a)(o:HO)(h:H p=Y):To F H (upd H p o) a:=fr.same<|cj.upd h
theorem Fr.fresh{F:Fx}{H:Hp}(fr:Fr F H a)(h:H p=Y):¬F.A p:=λq=>fr.occ p q h
theorem To.tr{F:Fx}{H c:Hp}(fr:Fr F H f)(t:To F H c d):Tr F H F c:=
 ⟨λ_ h _=>h,λa o h e=>t.kp a o e λb l q=>⟨λz=>h<|z▸(fr.bgA b l q).1,λz=>h<|z▸(fr.bgA b l q).2.1⟩,Z⟩
abbrev Dn:=List a0l
structure js (K:UA) (F:Fx) (H:Hp) (δ:Dn) (σ:St):Prop where
 len:δ.length=σ.length
 tell:∀(i:Nat) (d:D),δ[i]?=U (U d)->∃v,σ[i]?=U (U v)/\b5 K F H d v
theorem js.tr{K:UA}{F a:Fx}{H b:Hp}(t:Tr F H a b)(h:js K F H c f):js K a b c f:=⟨h.len,λi d e=>let ⟨v,h1,h2⟩:=h.tell i d e;⟨v,h1,b5.tr t d v h2⟩⟩
theorem js.set{K:UA}{F:Fx}{H:Hp}{D:Dn}{a:St}(h:js K F H D a)(E:b5 K F H d v):js K F H (D.set i<|U d) (a.set i<|U v):=by
 refine⟨by rw[VL,VL,h.len],λj c e=>?_⟩;rw[V2]at e;rw[V2];by_cases q:i=j
 .subst q
  rw[Uf Z]at e⊢;split at e
  .rename_i b
   cases e;rw[Uf<|by rw[<-h.len];exact b];exact⟨v,Z,E⟩
  .cases e
 .rw[Uh q]at e⊢
  exact h.tell j c e
def Sub(F E:Dn):Prop:=∀(i:Nat) (d:D),F[i]?=U (U d)->E[i]?=U (U d)
theorem js.sub{K:UA}{F:Fx}{H:Hp}{E D:Dn}(h:js K F H D a)(s:Sub E D)(l:E.length=D.length):js K F H E a:=⟨l.trans h.len,λi d e=>h.tell i d<|s i d e⟩
abbrev M(D:Type):=Bg->Option (Except T8 D×Bg)
abbrev a0s:=Dn->M Bool
noncomputable def M.ret{D:Type}(a:D):M D:=λE=>U (.ok a,E)
noncomputable def M.bind{D b:Type}(m:M D)(k:D->M b):M b:=λE=>match m E with
 |none=>Y
 |some (.error C,β1)=>U (.error C,β1)
 |some (.ok a,β1)=>k a β1
noncomputable def M.ofO{D:Type}(o:Option D):M D:=λE=>match o with
 |some a=>U (.ok a,E)
 |none=>Y
noncomputable def M.fail{D:Type}:M D:=λ_=>Y
theorem M.bind_some{D b:Type}(a:D)(k:D->M b):M.bind (M.ofO<|U a) k=k a:=Z
theorem M.bind_ok{D b:Type}{m:M D}{k:D->M b}{β β1:Bg}{a:D}(h:m β=U (.ok a,β1)):M.bind m k β=k a β1:=by unfold M.bind;rw[h]
theorem M.bind_err{E a:Type}{m:M E}{k:E->M a}{F D:Bg}{C:T8}(h:m F=U (.error C,D)):M.bind m k F=U (.error C,D):=by unfold M.bind;rw[h]
def run{D c:Type}(R:Hp->D->c->Prop)(F:Fx)(E:a0u)(e:St)(m:M D)(H:Hp)(Q:c->Hp->Prop)(G:Bg):Prop:=
 ∃r a,m G=U (r,a)/\match r with
  | .ok d=>∀v b,To F H b a->R b d v->Q v b
  | .error C=>∀b,To F H b a->E e (.ref C) Y b
theorem run.mono{D c:Type}{R:Hp->D->c->Prop}{F:Fx}{E:a0u}{g:St}{m:M D}{H:Hp}{Q i:c->Hp->Prop}{β:Bg}(h:run R F E g m H Q β)(f:∀v a,Q v a->i v a):run R F E g m H i β:=by
 obtain⟨r,b,e,h⟩:=h;refine⟨r,b,e,?_⟩;cases r with
 |ok d=>exact λv a t q=>f v a<|h v a t q
 |error C=>exact h
theorem run.bind{D l i j:Type}{R:Hp->D->l->Prop}{R2:Hp->i->j->Prop}{F:Fx}{E:a0u}{b:St}{m:M D}{k:D->M i}{H:Hp}{Q:j->Hp->Prop}{β:Bg}(h:run R2 F E b (M.bind m k) H Q β):
  run R F E b m H (λv a=>∃d β1,To F H a β1/\R a d v/\run R2 F E b (k d) a Q β1) β:=by
 obtain⟨r,c,e,h⟩:=h;cases q:m β with
 |none=>unfold M.bind at e;rw[q]at e;cases e
 |some z=>
  obtain⟨G,β1⟩:=z;refine⟨G,β1,q,?_⟩;cases G with
  |error C=>
   rw[M.bind_err q]at e;cases e;exact h
  |ok d=>
   rw[M.bind_ok q]at e;refine λv a t K=>⟨d,β1,t,K,r,c,e,?_⟩;cases r with
   |ok S=>exact λv2 f g n=>h v2 f (t.trans g) n
   |error C=>exact λf g=>h f<|t.trans g
theorem run.ret{D b:Type}{R:Hp->D->b->Prop}{F:Fx}{E:a0u}{c:St}{a:D}{v:b}{H:Hp}{Q:b->Hp->Prop}{β:Bg}(fr:Fr F H β)(h:run R F E c (M.ret a) H Q β)(r:R H a v):Q v H:=by
 obtain⟨_,_,e,h⟩:=h;cases e;exact h v H (To.refl fr) r
theorem run.ofO{D c:Type}{R:Hp->D->c->Prop}{F:Fx}{E:a0u}{d:St}{o:Option D}{H:Hp}{Q:c->Hp->Prop}{G:Bg}(h:run R F E d (M.ofO o) H Q G):∃a,o=U a/\∀v b,To F H b G->R b a v->Q v b:=by
 obtain⟨_,_,e,h⟩:=h;cases o with
 |none=>cases e
 |some a=>cases e;exact⟨a,Z,h⟩
abbrev FD:=Dn->M D
abbrev a1a:=Option<|FD
abbrev FL:=Dn->M a0c
def tV(K:UA)(f:FD)(E:a0u):TE:=λa H Q=>∃F D G,Fr F H G/\js K F H D a/\run (b5 K F) F E a (f D) H Q G
def jm(K:UA)(f:FL)(E:a0u):TA:=λa H Q=>∃F D G,Fr F H G/\js K F H D a/\run (bb K F) F E a (f D) H Q G
def i_(K:UA)(f:a0s)(E:a0u):TT:=λc H Q=>∃F D G,Fr F H G/\js K F H D c/\run (λ_ (a b:Bool)=>b=a) F E c (f D) H Q G
theorem _root_.L2.PE.imp(h:PE X e t)(f:∀a H Q,c a H Q->t a H Q):PE X e c:=λb s a H Q I q=>h b s a H Q I<|f a H Q q
theorem _root_.L2.PT.imp(h:PT X e t)(f:∀a H Q,c a H Q->t a H Q):PT X e c:=λb s a H Q I q=>h b s a H Q I<|f a H Q q
theorem _root_.L2.PW.imp(h:PW X e t)(f:∀a H Q,d a H Q->t a H Q):PW X e d:=λc b s a H Q I q=>h c b s a H Q I<|f a H Q q
theorem _root_.L2.PA.imp(h:PA X e t)(f:∀a H Q,c a H Q->t a H Q):PA X e c:=λpos b s a H Q I q=>h _ b s a H Q I<|f a H Q q
def ac(i:Nat):FD:=λD=>M.ofO<|D.getD i Y
def fC(d:D):FD:=λ_=>M.ret d
def f1(E:D->a0l)(f:FD):FD:=λF=>M.bind (f F) λa=>M.ofO<|E a
def f2(E:a0Z)(f g:FD):FD:=λD=>M.bind (f D) λa=>M.bind (g D) λb=>M.ofO<|E a b
noncomputable def ax:FL:=λ_=>M.ret []
def ae(f:FD)(g:FL):FL:=λD=>M.bind (f D) λa=>M.bind (g D) λE=>M.ret<|a::E
def aR(D:a0c->a0l)(g:FL):FD:=λE=>M.bind (g E) λF=>M.ofO<|D F
def bN(m:a0c->M D)(g:FL):FD:=λE=>M.bind (g E) λF=>m F
variable{X:Cx}{E:a0u}{e a b:Expr}{es:List Expr}{pos:Xp}
theorem RZ(i:Nat)(h:PE X (.Name x pos)<|lM i):PE X (.Name x pos) (tV X.K (ac i) E):=h.imp λl H Q c=>by
 obtain⟨F,a,b,fr,f,r⟩:=c;obtain⟨d,e,r⟩:=run.ofO r;have g:a[i]?=U (U d):=by
  rw[T6]at e;cases q:a[i]? with
  |none=>rw[q]at e;cases e
  |some z=>rw[q]at e;simp at e;rw[e]
 obtain⟨v,j,k⟩:=f.tell i d g;exact⟨v,j,r v H (To.refl fr) k⟩
theorem t_(h:PE X e<|tC v)(a:∀F H,b5 X.K F H d v):PE X e (tV X.K (fC d) E):=h.imp λf H Q c=>by obtain⟨F,b,D,fr,g,r⟩:=c;exact run.ret fr r<|a F H
theorem ak{i j pos}:PE X (.Constant (.int i) j pos) (tV X.K (fC<|.int i) E):=t_ cr λ_ _=>Z
theorem re{i j pos}:PE X (.Constant (.bool i) j pos) (tV X.K (fC<|.bl i) E):=t_ Sw λ_ _=>Z
theorem BS{j pos}:PE X (.Constant .none j pos) (tV X.K (fC .non) E):=t_ Ql λ_ _=>Z
theorem dN{i j pos}:PE X (.Constant (.str i) j pos) (tV X.K (fC<|.str i) E):=t_ Qi λ_ _=>Z
theorem dY:PA X [] (jm X.K ax E):=j6.imp λd H Q c=>by obtain⟨F,a,b,fr,f,r⟩:=c;exact run.ret fr r bb.nil
theorem bT(D:PE X e<|tV X.K f E)(k:PA X es<|jm X.K g E)(G:autoParam (b0a X e es) qQ):PA X (e::es) (jm X.K (ae f g) E):=
 (gi D k G).imp λm H Q c=>la c λF b M fr i r=>⟨F,b,M,fr,i,(run.bind r).mono λv n ⟨d,a,t,S,V⟩=>
  ⟨F,b,a,t.fr,i.tr<|t.tr fr,(run.bind V).mono λq o c=>r8 c λs p j h l=>run.ret j.fr l<|bb.cons (b5.tr (j.tr t.fr) _ _ S) h⟩⟩
def bz(K:UA)(r:R2)(E:a0Z):Prop:=∀(F:Fx) (H:Hp) (a:Bg) (Q:VK) (b e d:D) (v1 v2:V),Fr F H a->b5 K F H b v1->b5 K F H e v2->E b e=U d->
 (∀v c,To F H c a->b5 K F c d v->Q v c)->r v1 v2 H Q
def NE(K:UA)(r:V->Hp->VK->Prop)(e:D->a0l):Prop:=∀(F:Fx) (H:Hp) (a:Bg) (Q:VK) (b d:D) (v1:V),Fr F H a->b5 K F H b v1->e b=U d->
 (∀v c,To F H c a->b5 K F c d v->Q v c)->r v1 H Q
def dh(K:UA)(r:a0J)(E:a0c->a0l):Prop:=∀(F:Fx) (H:Hp) (a:Bg) (Q:VK) (b:a0c) (d:D) (e:a0k),Fr F H a->bb K F H b e->E b=U d->
 (∀v c,To F H c a->b5 K F c d v->Q v c)->r e H Q
theorem sr{K:UA}(l:bz K r op){H:Hp}(h:tV K (f2 op f g) E s H Q):tOp r (tV K f E) (tV K g E) s H Q:=by
 obtain⟨F,e,D,fr,j,h⟩:=h;refine⟨F,e,D,fr,j,(run.bind h).mono λv q c=>r8 c λd a t G M=>⟨F,e,a,t.fr,j.tr<|t.tr fr,(run.bind M).mono λv2 n c=>r8 c λS b m i o=>?_⟩⟩;obtain⟨V,p,k⟩:=run.ofO o;exact l F n b Q d S V v v2 m.fr (b5.tr (m.tr t.fr) _ _ G) i p k
theorem aG(c:hE X (W8 op) r)(l:bz X.K r o)(e:PE X a<|tV X.K f E)(d:PE X b<|tV X.K g E):PE X (.BinOp a op b pos) (tV X.K (f2 o f g) E):=
 (fm c e d).imp λ_ _ _=>sr l
theorem jz(c:hE X (Vz op) r)(l:bz X.K r o)(e:PE X a<|tV X.K f E)(d:PE X b<|tV X.K g E)(D:autoParam (Zh op b=T4) jw):PE X (.Compare a [op] [b] pos) (tV X.K (f2 o f g) E):=
 (Og c e d D).imp λ_ _ _=>sr l
theorem KQ(g:UnR X (unaryOp op) r)(l:NE X.K r o)(e:PE X a<|tV X.K f E):PE X (.UnaryOp op a pos) (tV X.K (f1 o f) E):=
 (Sv g e).imp λm H Q c=>la c λF D G fr i h=>⟨F,D,G,fr,i,(run.bind h).mono λv j c=>r8 c λd b t M S=>let ⟨d3,e3,k⟩:=run.ofO S;l F j b Q d d3 v t.fr M e3 k⟩
theorem aV(c:U_ X r)(l:bz X.K r o)(e:PE X a<|tV X.K f E)(d:PE X b<|tV X.K g E)(D:BJ b:=by exact λ_ _=>Z):PE X (.Subscript a b pos) (tV X.K (f2 o f g) E):=
 (ib c e d D).imp λ_ _ _=>sr l
theorem GC{K:UA}(l:dh K r op){H:Hp}(h:tV K (aR op g) E m H Q):tCB r (jm K g E) m H Q:=by
 obtain⟨F,b,e,fr,c,h⟩:=h;refine⟨F,b,e,fr,c,(run.bind h).mono λv f i=>r8 i λd a t D G=>?_⟩;obtain⟨M,j,k⟩:=run.ofO G;exact l F f a Q d M v t.fr D j k
theorem bL{f:String}(h:cN X (.builtin f) r)(l:dh X.K r op)(i:Gl X x)(a:X.mg x=Y)(j:XN x=U (.builtin f))(b:PA X (e::es)<|jm X.K g E)(D:autoParam (x≠"__name__") qX)(c:autoParam (b0c x) qX)
  (k:autoParam (b0a X e es) qQ) (d:autoParam (b0b X pos es) qQ):PE X (.Call (.Name x p) (e::es) [] pos) (tV X.K (aR op g) E):=
 (nh h i a j b D c k d).imp λ_ _ _=>GC l
theorem bR(f:cN X (.type T) r)(l:dh X.K r op)(h:Gl X x)(a:X.mg x=Y)(i:XN x=U (.type T))(b:PA X (e::es)<|jm X.K g E)(D:autoParam (x≠"__name__") qX)(c:autoParam (b0c x) qX)
  (j:autoParam (b0a X e es) qQ) (d:autoParam (b0b X pos es) qQ):PE X (.Call (.Name x p) (e::es) [] pos) (tV X.K (aR op g) E):=
 (vN f h a i b D c j d).imp λ_ _ _=>GC l
noncomputable def fU(a:a0c):a0l:=if a.length<=UC then U (.tup a)else Y
noncomputable def ft(ds:a0c):a0l:=if ds.length<=UC then U (.lst ds)else Y
theorem b5.newT{K:UA}{F:Fx}{H:Hp}(fr:Fr F H f)(h:H p=Y)(a:bb K F H d c):b5 K F (upd H p<|.tup c) (.tup d) (.ref p):=
 ⟨p,c,Z,.inl ⟨fr.fresh h,.inl aw⟩,bb.tr ((fr.upd _ h).tr fr) _ _ a⟩
theorem b5.newL{K:UA}{F:Fx}{H:Hp}(fr:Fr F H f)(h:H p=Y)(a:bb K F H d c):b5 K F (upd H p<|.lst c) (.lst d) (.ref p):=
 ⟨p,c,Z,⟨fr.fresh h,.inl aw⟩,bb.tr ((fr.upd _ h).tr fr) _ _ a⟩
theorem bC{m}(h:PA X es<|jm X.K g E):PE X (.Tuple es m pos) (tV X.K (aR fU g) E):=
 (Qh h).imp λj H Q d=>la d λF b e fr i r=>⟨F,b,e,fr,i,(run.bind r).mono λM l d=>by
  obtain⟨S,D,t,a,G⟩:=d;obtain⟨V,c,k⟩:=run.ofO G;unfold fU at c;split at c
  .cases c
   exact⟨by rw[<-a.length];assumption,λp f=>k _ _ (t.fr.upd _ f)<|b5.newT t.fr f a⟩
  .cases c⟩
theorem eB(h:PA X es<|jm X.K g E):PE X (.List es pos) (tV X.K (aR ft g) E):=
 (fF h).imp λj H Q d=>la d λF b e fr i r=>⟨F,b,e,fr,i,(run.bind r).mono λM l d=>by
  obtain⟨S,D,t,a,G⟩:=d;obtain⟨V,c,k⟩:=run.ofO G;unfold ft at c;split at c
  .cases c
   exact⟨by rw[<-a.length];assumption,λp f=>k _ _ (t.fr.upd _ f)<|b5.newL t.fr f a⟩
  .cases c⟩
def P_(K:UA)(n:Nat)(m:a0c->M D):Sp:=λa H Q E=>a.length=n/\∃F b e,Fr F H e/\bb K F H b a/\run (b5 K F) F (λ_=>E) [] (m b) H Q e
variable{p:Xp}{x:U3}{k n:Nat}{f:T8}{fd:Uw}{ps:a0i}
theorem run.toE{a c:Type}{R:Hp->a->c->Prop}{F:Fx}{E:a0u}{d:St}{m:M a}{H:Hp}{Q:c->Hp->Prop}{b:Bg}(h:run R F E d m H Q b):run R F (λ_=>E d) [] m H Q b:=h
theorem FO(G:e_ X.prog X.w X.K X.mg X.base (hO X.prog X.w) k f fd ps<|P_ X.K n m)(q:d4 k X.A)(u:Gl X x)(V:X.mg x=U (.ref f))(v:Zx X.K (.ref f)=O)(y:cz X.K fd ps [])(s:dL (hO X.prog X.w) X E)
  (z:PA X (e::es)<|jm X.K g E) (T:∀a b r h,g a b=U (.ok r,h)->r.length=n) (c:autoParam (b0c x) qX) (B:autoParam (b0a X e es) qQ) (d:autoParam (b0b X pos es) qQ):
  PE X (.Call (.Name x p) (e::es) [] pos) (tV X.K (bN m g) E):=
 (mB G q u V v y .nil s z c B d).imp λP H Q I=>la I λF a b fr J r=>⟨F,a,b,fr,J,by
  obtain⟨M,i,l,o⟩:=run.bind r;refine⟨M,i,l,?_⟩;cases M with
  |error C=>exact o
  |ok R=>
   intro f5 L t S;obtain⟨W,D,N,j,cb⟩:=o f5 L t S;refine⟨by rw[UQ,<-S.length,T _ _ _ _ l],F,W,D,N.fr,by rw[UQ];exact j,run.toE cb⟩⟩
theorem se{r:a0c}(h:ax d g=U (.ok r,c)):r.length=0:=by cases h;rfl
theorem aZ{f:FD}{n:Nat}(d:∀a b r c,g a b=U (.ok r,c)->r.length=n):∀a b r c,ae f g a b=U (.ok r,c)->r.length=n+1:=by
 intro a b r c h;unfold ae M.bind at h;split at h
 .cases h
 .cases h
 .dsimp only at h
  split at h
  .cases h
  .cases h
  .rename_i as _ i
   cases h;rw[Ur,d _ _ _ _ i]
noncomputable def q_(g:Int->Int->a0l):D->D->a0l
 | .int i,.int j=>g i j
 |_,_=>Y
theorem kg{a b d:D}(h:q_ g a b=U d):∃i j,a= .int i/\b= .int j/\g i j=U d:=by
 cases a<;>first|cases h|(cases b<;>first|cases h|exact⟨_,_,Z,Z,h⟩)
theorem IW{g:a0M}:bz K (wh λi j=> .int<|g i j) (q_ λi j=>U<|.int<|g i j):=λF H a Q b f d v1 v2 fr c h e k=>by
 obtain⟨i,j,rfl,rfl,e⟩:=kg e;cases e;exact⟨i,j,c,h,k _ H (To.refl fr) Z⟩
theorem nC{g:Int->Int->Bool}:bz K (wh λi j=> .bl<|g i j) (q_ λi j=>U<|.bl<|g i j):=λF H a Q b f d v1 v2 fr c h e k=>by
 obtain⟨i,j,rfl,rfl,e⟩:=kg e;cases e;exact⟨i,j,c,h,k _ H (To.refl fr) Z⟩
theorem pk{C:a0W}{c:Int->Int->Bool}{g:a0M}(l:∀i j,c i j=O->C i j):bz K (rI C λi j=> .int<|g i j) (q_ λi j=>if c i j=O then U (.int<|g i j)else Y):=λF H a Q b f d v1 v2 fr m o e k=>by
 obtain⟨i,j,rfl,rfl,h⟩:=kg e;split at h
 .cases h
  exact⟨i,j,m,o,l _ _ (by assumption),k _ H (To.refl fr) Z⟩
 .cases h
noncomputable def iS(i:Int):Bool:=decide (i.natAbs<2^1000)
def xl:D->D->a0l:=q_ λi j=>U<|.int<|i-j
def nV:D->D->a0l:=q_ λi j=>if(decide (0<j)&&decide (j.natAbs.log2<9000))=O then U (.int<|i/j)else Y
def x5:D->D->a0l:=q_ λi j=>if decide (0<j)=O then U (.int<|i % j)else Y
def ltD:D->D->a0l:=q_ λi j=>U<|.bl<|decide (i<j)
def leD:D->D->a0l:=q_ λi j=>U<|.bl<|decide (i<=j)
def B_:D->D->a0l:=q_ λi j=>U<|.bl<|decide (j<i)
theorem gl:bz K (wh λi j=> .int<|i-j) xl:=IW
theorem yj:bz K (wh λi j=> .bl<|decide (i<j)) ltD:=nC
theorem pw:bz K (wh λi j=> .bl<|decide (i<=j)) leD:=nC
theorem iF:bz K (wh λi j=> .bl<|decide (j<i)) B_:=nC
theorem pz:bz K (rI w4 λi j=> .int<|i/j) nV:=pk λi j h=>by
 simp only[US,UZ]at h;exact h
theorem Nh:bz K (rI (λ_ j=>0<j) λi j=> .int<|i % j) x5:=pk λi j h=>WE h
noncomputable def CT:R2:=λx y H Q=>∃l b a c,x= .ref l/\y= .ref b/\Rd H l (.lst a)/\Rd H b (.lst c)/\a.length+c.length<=UC/\∀p,H p=Y->Q (.ref p) (upd H p<|.lst<|a++c)
theorem Om:hE X (W8 .Add) CT:=by
 intro d s t H x y v u Q I i j h;obtain⟨l,b,f,w,rfl,rfl,m,hB,A,q⟩:=h;cases i;cases j;obtain⟨z,a,n,r,e⟩:=m.ok I.hok;obtain⟨B,c,C,g,o⟩:=hB.ok I.hok;have J:=r.length;have L:=g.length;refine PySem.P.add_list e o ?_ (by simp only[UB];lia);rw[show a.toArray++c.toArray=(a++c).toArray by simp];exact⟨.ref _,_,I.lnew (r.append g) (by rw[Uv];omega),Z,q _ I.fresh⟩
def CU(K:UA):R2:=λx y H Q=>∃a b e,x= .ref a/\y= .ref b/\i0 K H a []/\i0 K H b e/\Q (.ref b) H
theorem On:hE X (W8 .Add) (CU X.K):=by
 intro l s R H x y v u Q I t w h;obtain⟨a,b,F,rfl,rfl,f,A,q⟩:=h;cases t;cases w;obtain⟨k,p,B,_⟩:=I.tuple f;obtain⟨m,P,C,_⟩:=I.tuple A;cases p;obtain⟨⟨G,D,J,i⟩,o,r,n,e⟩:=B;obtain⟨⟨M,E,L,j⟩,c,d,N,g⟩:=C;subst r e d g;exact PySem.concat_meets ⟨_,o,Z⟩ ⟨_,c,Z⟩ noFill_tuple_add seq_tuple_add ZP ZG (Zt _ _) (tuple_addW0 a b _ _ n N D E i j mo) ⟨o,c,⟨.ref b,H,I,Z,q⟩⟩
noncomputable def dR:D->D->a0l
 | .int i,.int j=>U<|.int<|i+j
 | .tup [],.tup b=>U<|.tup b
 | .lst a,.lst b=>if a.length+b.length<=UC then U (.lst<|a++b)else Y
 | .tup (c::a),.tup b=>if(c::a).length+b.length<=UC then U (.tup<|c::a++b)else Y
 |_,_=>Y
theorem bM:bz K (λx y H Q=>(wh λi j=> .int<|i+j) x y H Q\/CT x y H Q\/CS K x y H Q\/CU K x y H Q) dR:=λF H E Q G M d v1 v2 fr h l e k=>by
 unfold dR at e;split at e
 .cases e
  exact .inl ⟨_,_,h,l,k _ H (To.refl fr) Z⟩
 .cases e
  obtain⟨a,f,rfl,n,c⟩:=b5.sqT h;obtain⟨b,D,rfl,m,g⟩:=b5.sqT l;have q:=c;subst q;exact .inr<|.inr<|.inr ⟨a,b,D,Z,Z,n,m,k _ H (To.refl fr) l⟩
 .split at e
  .cases e
   obtain⟨a,f,rfl,n,c⟩:=b5.rdL h;obtain⟨b,D,rfl,m,g⟩:=b5.rdL l;exact .inr<|.inl ⟨a,b,f,D,Z,Z,n,m,by rw[<-c.length,<-g.length];assumption,λp o=>k _ _ (fr.upd _ o)<|b5.newL fr o<|c.append g⟩
  .cases e
 .split at e
  .cases e
   obtain⟨a,f,rfl,n,c⟩:=b5.sqT h;obtain⟨b,D,rfl,m,g⟩:=b5.sqT l;have r:=c.length;have t:=g.length;refine .inr<|.inr<|.inl ⟨a,b,f,D,Z,Z,n,m,(λz=>by subst z;cases r),by rw[<-r,<-t];assumption,λz=>?_,λ_ p o=>k _ _ (fr.upd _ o)<|b5.newT fr o<|c.append g⟩;subst z;have u:=ZT.mp t;subst u;rw[UQ]at k;exact k _ H (To.refl fr) h
  .cases e
 .cases e
theorem aS:hE X (W8 .Add) (λx y H Q=>(wh λi j=> .int<|i+j) x y H Q\/CT x y H Q\/CS X.K x y H Q\/CU X.K x y H Q):=tu.or<|Om.or<|Ol.or On
def dy:D->D->a0l:=q_ λi j=>if(iS i&&iS j)=O then U (.int<|i*j)else Y
theorem cY:bz K (rI wZ λi j=> .int<|i*j) dy:=pk λi j h=>by
 simp only[US,iS,UZ]at h;exact h
noncomputable def eqS:D->D->a0S
 | .non,.non=>U O
 | .int i,.int j=>U<|decide (i=j)
 | .bl i,.bl j=>U<|decide (i=j)
 | .str i,.str j=>U<|decide (i=j)
 | .int _,.str _=>U T4
 | .str _,.int _=>U T4
 | .bl _,.str _=>U T4
 | .str _,.bl _=>U T4
 | .non,.int _=>U T4
 | .int _,.non=>U T4
 | .non,.str _=>U T4
 | .str _,.non=>U T4
 |_,_=>Y
theorem Kg{F:Fx}{H:Hp}{a b:D}{c:Bool}(h:eqS a b=U c)(d:b5 K F H a v)(g:b5 K F H b w):K9 v w=O/\decide (v=w)=c:=by
 cases a<;>first|cases h|(cases b<;>first|(cases h;cases d;cases g;exact⟨Z,Z⟩)|(cases h;cases d;cases g;exact⟨Z,nl⟩)|cases h)
noncomputable def isN:D->Bool
 | .non=>O
 |_=>T4
theorem Rh{F:Fx}{H:Hp}(h:b5 K F H d v):decide (v= .non)=isN d:=by
 cases d with
 |non=>cases h.non;rfl
 |bl b=>cases h.bl;rfl
 |int b=>cases h.int;rfl
 |str b=>cases h.str;rfl
 |ty b=>cases h.ty;rfl
 |txt=>unfold b5 at h;obtain⟨z,rfl⟩:=h;rfl
 |lst ds=>obtain⟨a,e,rfl,_⟩:=b5.sqL h;rfl
 |tup ds=>obtain⟨a,e,rfl,_⟩:=b5.sqT h;rfl
 |scr ds=>obtain⟨a,rfl,_⟩:=b5.scr h;rfl
 |obj C ns ds=>
  unfold b5 at h;obtain⟨a,_,_,rfl,_⟩:=h;rfl
 |bag=>
  unfold b5 at h;obtain⟨a,_,_,rfl⟩:=h;rfl
 |adr a=>
  unfold b5 at h;obtain rfl:=h;rfl
 |dct b ks vs=>
  unfold b5 at h;obtain⟨a,_,e,rfl,_⟩:=h;rfl
noncomputable def DX:D->D->a0l
 |a,.non=>U<|.bl<|isN a
 |_,_=>Y
theorem DQ:bz K (λx y H Q=>y= .non/\Q (.bl<|decide (x= .non)) H) DX:=λF H a Q b f d v1 v2 fr c g e k=>by
 unfold DX at e;split at e
 .cases e
  exact⟨g,by rw[Rh c];exact k _ H (To.refl fr) Z⟩
 .cases e
noncomputable def gq:D->Bool
 | .int _=>O| .bl _=>O| .str _=>O| .non=>O|_=>T4
noncomputable def eqF:D->D->Bool
 | .non,.non=>O
 | .bl a,.bl b=>a==b
 | .bl a,.int b=>(if a then 1 else 0)==b
 | .int a,.bl b=>a==(if b then 1 else 0)
 | .int a,.int b=>a==b
 | .str a,.str b=>a==b
 |_,_=>T4
noncomputable def dZ:D->a0C
 | .lst a=>U a
 | .tup a=>U a
 |_=>Y
def inB(x:D)(a:a0c):Bool:=a.any λy=>eqF y x
def y3(a:Bool)(x y:D):a0l:=(dZ y).bind λb=>if(gq x&&b.all gq)=O then U (.bl (if a then !inB x b else inB x b))else Y
theorem uW{F:Fx}{H:Hp}(f:gq d=O)(h:b5 K F H d v):iM v=O:=by
 cases d<;>first|(cases h.int;rfl)|(cases h.bl;rfl)|(cases h.str;rfl)|(cases h.non;rfl)|cases f
theorem Rz{F:Fx}{H:Hp}{a b:D}(g:gq a=O)(h:gq b=O)(c:b5 K F H a v)(d:b5 K F H b w):eqV v w=eqF a b:=by
 cases a<;>first
  |(exfalso;exact Uk g)
  |(cases b<;>first
   |(exfalso;exact Uk h)
   |(cases c.int;cases d.int;rfl)|(cases c.int;cases d.bl;rfl)|(cases c.int;cases d.str;rfl)|(cases c.int;cases d.non;rfl)
   |(cases c.bl;cases d.int;rfl)|(cases c.bl;cases d.bl;rfl)|(cases c.bl;cases d.str;rfl)|(cases c.bl;cases d.non;rfl)
   |(cases c.str;cases d.int;rfl)|(cases c.str;cases d.bl;rfl)|(cases c.str;cases d.str;rfl)|(cases c.str;cases d.non;rfl)
   |(cases c.non;cases d.int;rfl)|(cases c.non;cases d.bl;rfl)|(cases c.non;cases d.str;rfl)|(cases c.non;cases d.non;rfl))
theorem yy{F:Fx}{H:Hp}{x:D}(c:gq x=O)(e:b5 K F H x v):∀{b:a0c} {a:a0k},b.all gq=O->bb K F H b a->a.all iM=O/\inV v a=inB x b
 |[],a,_,h=>by have q:=h;subst q;exact⟨Z,Z⟩
 |d::b,a,f,h=>by
  obtain⟨y,r,q,g,j⟩:=h;subst q;rw[ZK,US]at f;obtain⟨l,i⟩:=yy c e f.2 j;refine⟨by rw[ZK,uW f.1 g,l];rfl,?_⟩;unfold inV inB at i⊢;rw[YW,YW,i,Rz f.1 c g e]
theorem kn{neg:Bool}:bz K (rIn K neg) (y3 neg):=λF H p Q x n d v1 v2 fr g l e k=>by
 unfold y3 at e;cases q:dZ n with
 |none=>rw[q]at e;cases e
 |some D=>
  rw[q]at e;simp only[Wf]at e;split at e
  .rename_i c
   rw[US]at c;cases e;cases n<;>first|(cases q;obtain⟨a,b,rfl,f,h⟩:=b5.sqL l;obtain⟨i,j⟩:=yy c.1 g c.2 h;exact⟨a,b,Z,.inl f,uW c.1 g,i,by rw[j];exact k _ H (To.refl fr) Z⟩)|(cases q;obtain⟨a,b,rfl,f,h⟩:=b5.sqT l;obtain⟨i,j⟩:=yy c.1 g c.2 h;exact⟨a,b,Z,.inr f,uW c.1 g,i,by rw[j];exact k _ H (To.refl fr) Z⟩)|cases q
  .cases e
def gs:D->D->a0l
 | .lst xs,.int i=>ra xs i
 | .tup xs,.int i=>ra xs i
 |_,_=>Y
theorem yX{F:Fx}{H:Hp}(h:bb K F H c g)(e:ra c i=U d):∃v,ra g i=U v/\b5 K F H d v:=by
 unfold ra at e⊢;rw[<-h.length];cases q:u3 _ i with
 |none=>rw[q]at e;cases e
 |some j=>
  rw[q]at e;exact h.get e
theorem bc:bz K (λx y H Q=>xN K x y H Q\/Lf K x y H Q) gs:=λF H f Q n p d v1 v2 fr h i e k=>by
 unfold gs at e;split at e
 .obtain⟨a,xs,rfl,r1,c⟩:=b5.sqL h
  obtain⟨v,g,b⟩:=yX c e;exact .inl ⟨a,xs,_,v,Z,i,r1,g,k _ H (To.refl fr) b⟩
 .obtain⟨a,xs,rfl,r1,c⟩:=b5.sqT h
  obtain⟨v,g,b⟩:=yX c e;exact .inr ⟨a,xs,_,v,Z,i,r1,g,k _ H (To.refl fr) b⟩
 .cases e
theorem aA:U_ X (λx y H Q=>xN X.K x y H Q\/Lf X.K x y H Q):=eM.or Rg
noncomputable def fA:a0c->a0l
 |[.lst xs]=>U<|.int xs.length
 |[.tup xs]=>U<|.int xs.length
 |_=>Y
theorem bb.one{F:Fx}{H:Hp}(h:bb K F H [d] i):∃v,i=[v]/\b5 K F H d v:=by
 obtain⟨x,r,e,c,g⟩:=h;have q:=g;subst q;exact⟨x,e,c⟩
theorem bb.two{F:Fx}{H:Hp}(h:bb K F H [d,c] l):∃v w,l=[v,w]/\b5 K F H d v/\b5 K F H c w:=by
 obtain⟨x,r,e,g,i⟩:=h;obtain⟨y,rfl,j⟩:=bb.one i;exact⟨x,y,e,g,j⟩
theorem SU:dh K (λb H Q=>∃p f,b=[.ref p]/\(fy K H p f\/i0 K H p f)/\Q (.int f.length) H) fA:=λF H n Q x d D fr h e k=>by
 unfold fA at e;split at e
 .cases e
  obtain⟨v,rfl,g⟩:=bb.one h;obtain⟨a,b,rfl,r,c⟩:=b5.sqL g;exact⟨a,b,Z,.inl r,by rw[<-c.length];exact k _ H (To.refl fr) Z⟩
 .cases e
  obtain⟨v,rfl,g⟩:=bb.one h;obtain⟨a,b,rfl,r,c⟩:=b5.sqT g;exact⟨a,b,Z,.inr r,by rw[<-c.length];exact k _ H (To.refl fr) Z⟩
 .cases e
noncomputable def vd:a0c->a0l
 |[.int i]=>U<|.int (if i<0 then -i else i)
 |_=>Y
theorem Nk:dh K (λa H Q=>∃i,a=[.int i]/\Q (.int (if i<0 then -i else i)) H) vd:=λF H b Q f d n fr h e k=>by
 unfold vd at e;split at e
 .cases e
  obtain⟨v,rfl,g⟩:=bb.one h;cases g.int;exact⟨_,Z,k _ H (To.refl fr) Z⟩
 .cases e
noncomputable def x8:a0c->a0l
 |[.int i,.int j]=>U<|.int (if j<i then j else i)
 |_=>Y
noncomputable def DG:a0c->a0l
 |[.int i,.int j]=>U<|.int (if j>i then j else i)
 |_=>Y
theorem wQ:dh K (λa H Q=>∃i j,a=[.int i,.int j]/\Q (.int (if j<i then j else i)) H) x8:=λF H f Q n d p fr h e k=>by
 unfold x8 at e;split at e
 .cases e
  obtain⟨v,w,rfl,g,b⟩:=bb.two h;cases g.int;cases b.int;exact⟨_,_,Z,k _ H (To.refl fr) Z⟩
 .cases e
theorem Ni:dh K (λa H Q=>∃i j,a=[.int i,.int j]/\Q (.int (if j>i then j else i)) H) DG:=λF H f Q n d p fr h e k=>by
 unfold DG at e;split at e
 .cases e
  obtain⟨v,w,rfl,g,b⟩:=bb.two h;cases g.int;cases b.int;exact⟨_,_,Z,k _ H (To.refl fr) Z⟩
 .cases e
noncomputable def cS:a0c->Option a0e
 |[]=>U []
 | .int i::r=>(cS r).map (i::·)
 |_=>Y
theorem gt:∀{a:a0c} {b:a0e},cS a=U b->a=b.map D.int
 |[],b,h=>by cases h;rfl
 |d::a,b,h=>by
  cases d with
  |int i=>
   unfold cS at h;cases q:cS a with
   |none=>rw[q]at h;cases h
   |some c=>rw[q]at h;cases h;rw[gt q];rfl
  |_=>cases h
theorem ij:∀a:a0e,cS (a.map D.int)=U a
 |[]=>rfl
 |n::a=>by
  show(cS<|a.map _).map _=_;rw[ij a];rfl
def K1:a0c->a0l
 |[.lst xs]=>(cS xs).map λa=> .int a.sum
 |_=>Y
theorem SS:dh K (λf H Q=>∃(a:T8) (b:a0e),f=[.ref a]/\fy K H a (b.map V.int)/\Q (.int b.sum) H) K1:=λF H n Q p d x fr h e k=>by
 unfold K1 at e;split at e
 .rename_i f
  cases q:cS f with
  |none=>rw[q]at e;cases e
  |some b=>
   rw[q]at e;cases e;obtain⟨v,rfl,g⟩:=bb.one h;obtain⟨a,D,rfl,r,c⟩:=b5.sqL g;rw[gt q]at c;have i:=bb.ints b c;subst i;exact⟨a,b,Z,r,k _ H (To.refl fr) Z⟩
 .cases e
noncomputable def qs:a0c->a0l
 |[.lst xs]=>U<|.lst xs
 |[.tup xs]=>U<|.lst xs
 |_=>Y
theorem f8:dh K (λb H Q=>∃p f,b=[.ref p]/\(fy K H p f\/i0 K H p f)/\∀l,H l=Y->Q (.ref l) (upd H l<|.lst f)) qs:=λF H n Q x d D fr h e k=>by
 unfold qs at e;split at e
 .cases e
  obtain⟨v,rfl,g⟩:=bb.one h;obtain⟨a,b,rfl,r,i⟩:=b5.sqL g;exact⟨a,b,Z,.inl r,λl c=>k _ _ (fr.upd _ c)<|b5.newL fr c i⟩
 .cases e
  obtain⟨v,rfl,g⟩:=bb.one h;obtain⟨a,b,rfl,r,i⟩:=b5.sqT g;exact⟨a,b,Z,.inr r,λl c=>k _ _ (fr.upd _ c)<|b5.newL fr c i⟩
 .cases e
noncomputable def xg:a0c->a0l
 |[.lst xs]=>U<|.tup xs
 |[.tup xs]=>U<|.tup xs
 |_=>Y
theorem mG:dh K (λb H Q=>∃p f,b=[.ref p]/\((fy K H p f/\∀l,H l=Y->Q (.ref l) (upd H l<|.tup f))\/(i0 K H p f/\Q (.ref p) H))) xg:=λF H n Q x d D fr h e k=>by
 unfold xg at e;split at e
 .cases e
  obtain⟨v,rfl,g⟩:=bb.one h;obtain⟨a,b,rfl,r,c⟩:=b5.sqL g;exact⟨a,b,Z,.inl ⟨r,λl i=>k _ _ (fr.upd _ i)<|b5.newT fr i c⟩⟩
 .cases e
  obtain⟨v,rfl,g⟩:=bb.one h;obtain⟨a,b,rfl,r,c⟩:=b5.sqT g;exact⟨a,b,Z,.inr ⟨r,k _ H (To.refl fr) g⟩⟩
 .cases e
noncomputable def asB:D->a0S
 | .bl b=>U b
 |_=>Y
theorem kD{b:Bool}(h:asB d=U b):d= .bl b:=by cases d<;>first|(cases h;rfl)|cases h
noncomputable def KU:D->a0S
 | .non=>U T4
 | .bl b=>U b
 | .int i=>U<|i !=0
 | .lst xs=>U<|!xs.isEmpty
 | .tup xs=>U<|!xs.isEmpty
 |_=>Y
def fB(f:FD):Dn->M Bool:=λa=>M.bind (f a) λd=>M.ofO<|asB d
def yH(f:FD):Dn->M Bool:=λa=>M.bind (f a) λd=>M.ofO<|KU d
def uX(f g:a0s):Dn->M Bool:=λa=>M.bind (f a) λc=>if c=O then M.ret O else g a
def EJ(f:a0s):Dn->M Bool:=λa=>M.bind (f a) λc=>M.ret<|!c
def EK(f g:FD):FD:=λa=>M.bind (f a) λd=>M.bind (M.ofO<|asB d) λc=>if c=O then g a else M.ret (.bl T4)
def fIf(t:a0s)(f g:FD):FD:=λa=>M.bind (t a) λc=>if c=O then f a else g a
def mM(o d:a0Z)(f g h:FD):FD:=λe=>M.bind (f e) λa=>M.bind (g e) λb=>M.bind (M.ofO<|o a b) λz=>M.bind (M.ofO<|asB z) λc=>if c=O then M.bind (h e) (λw=>M.ofO<|d b w)else M.ret (.bl T4)
variable{c:Expr}{I:List Expr}
theorem M.ofO_bind{b d:Type}{o:Option b}{k:b->M d}{c:Bg}{z:Except T8 d×Bg}(h:M.bind (M.ofO o) k c=U z):∃a,o=U a/\k a c=U z:=by
 cases o with
 |none=>cases h
 |some a=>exact⟨a,Z,h⟩
theorem run.ofO_bind{b g i:Type}{R:Hp->g->i->Prop}{F:Fx}{j:St}{o:Option b}{k:b->M g}{H:Hp}{Q:i->Hp->Prop}{c:Bg}(h:run R F E j (M.bind (M.ofO o) k) H Q c):∃a,o=U a/\run R F E j (k a) H Q c:=by
 obtain⟨r,d,e,h⟩:=h;obtain⟨a,q,e⟩:=M.ofO_bind e;exact⟨a,q,r,d,e,h⟩
theorem run.bOk{F:Fx}{H:Hp}(fr:Fr F H g)(c:b5 K F H d v)(h:run (λ_ (a b:Bool)=>b=a) F E i (M.ofO<|asB d) H Q g):∃k,v= .bl k/\Q k H:=by
 obtain⟨b,e,k⟩:=run.ofO h;rw[kD e]at c;exact⟨b,c,k b H (To.refl fr) Z⟩
theorem rh{f:FD}{H:Hp}(h:i_ K (fB f) E m H Q):tV K f E m H λx g=>∃k,x= .bl k/\Q k g:=by
 obtain⟨F,a,b,fr,i,h⟩:=h;exact⟨F,a,b,fr,i,(run.bind h).mono λv l j=>r8 j λd c t e n=>run.bOk t.fr e n⟩
theorem aU{f g:FD}(d:hE X (Vz op) r)(l:bz X.K r o)(c:PE X a<|tV X.K f E)(i:PE X b<|tV X.K g E)(e:autoParam (Zh op b=T4) jw):PT X (.Compare a [op] [b] pos) (i_ X.K (fB (f2 o f g)) E):=
 (zL d c i e).imp λj H Q h=>sr l<|rh h
theorem GA{f g h:FD}(l:bz K r o)(W:bz K r' s){H:Hp}(B:tV K (mM o s f g h) E σ H Q):GB r r' (tV K f E) (tV K g E) (tV K h E) σ H Q:=by
 obtain⟨F,b,D,fr,I,B⟩:=B;refine⟨F,b,D,fr,I,(run.bind B).mono λv H1 j=>r8 j λd n t G S=>⟨F,b,n,t.fr,I.tr<|t.tr fr,(run.bind S).mono λv2 cb j=>r8 j λp a m u R=>?_⟩⟩;obtain⟨z,P,V⟩:=run.ofO_bind R;obtain⟨c,X,A⟩:=run.ofO_bind V;rw[kD X]at P;refine l F cb a _ d p _ v v2 m.fr (b5.tr (m.tr t.fr) _ _ G) u P λvz T i hz=>⟨c,hz,?_⟩;cases c with
 |true=>
  rw[Uf Z]at A;refine⟨F,b,a,i.fr,I.tr<|(t.tr fr).trans<|(m.tr t.fr).trans<|i.tr m.fr,?_⟩;have r5:run (b5 K F) F E σ (M.bind (h b) λw=>M.ofO<|s p w) T Q a:=by
   obtain⟨J,y,e,q⟩:=A;refine⟨J,y,e,?_⟩;cases J with
   |ok d=>exact λv L x=>q v L<|i.trans x
   |error C=>exact λL x=>q L<|i.trans x
  refine(run.bind r5).mono λw H4 j=>r8 j λdw N f5 ek r6=>?_;obtain⟨d3,e3,k⟩:=run.ofO r6;exact W F H4 N Q p dw d3 v2 w f5.fr (b5.tr ((i.tr m.fr).trans<|f5.tr i.fr) _ _ u) ek e3 k
 |false=>
  rw[Uh Uk]at A;obtain⟨J,y,e,q⟩:=A;cases e;exact q _ T i Z
theorem ux{f g h:FD}(i:hE X (Vz op) r)(d:hE X (Vz s) v)(l:bz X.K r o)(j:bz X.K v w)(e:PE X a<|tV X.K f E)(m:PE X b<|tV X.K g E)(t:PE X c<|tV X.K h E)(k:autoParam (lastMarks [op,s] [b,c]=T4) jv):
  PT X (.Compare a [op,s] [b,c] pos) (i_ X.K (fB<|mM o w f g h) E):=(Lh i d e m t k).imp λu H Q q=>GA l j<|rh q
theorem NM{F:Fx}{H:Hp}{k:Bool}(h:KU d=U k)(c:b5 K F H d v):MA K v H k:=by
 cases d with
 |non=>cases h;cases c.non;rfl
 |bl b=>cases h;cases c.bl;rfl
 |int i=>cases h;cases c.int;rfl
 |lst xs=>
  cases h;obtain⟨a,e,rfl,r,g⟩:=b5.sqL c;refine .inl ⟨e,r,?_⟩;have:=g.length;cases xs<;>cases e<;>first|rfl|(simp at this)
 |tup xs=>
  cases h;obtain⟨a,e,rfl,r,g⟩:=b5.sqT c;refine .inr ⟨e,r,?_⟩;have:=g.length;cases xs<;>cases e<;>first|rfl|(simp at this)
 |_=>cases h
theorem qg{f:FD}(b:PE X a<|tV X.K f E)(j:autoParam (∀g,isTrue a X.env g=(do let v <-g;Yp a.pos;YY [v] (truthy v))) xz):PT X a (i_ X.K (yH f) E):=
 (Lg b j).imp λo H Q i=>la i λF c n fr l h=>⟨F,c,n,fr,l,(run.bind h).mono λv m i=>by
  obtain⟨d,p,t,x,D⟩:=i;obtain⟨k,e,q⟩:=run.ofO D;exact⟨k,NM e x,q k m (To.refl t.fr) Z⟩⟩
theorem qh{f:a0s}(c:PT X a<|i_ X.K f E):PT X (.UnaryOp .Not a pos) (i_ X.K (EJ f) E):=
 (Qb c).imp λj H Q g=>la g λF e k fr i h=>⟨F,e,k,fr,i,(run.bind h).mono λv l g=>by
  obtain⟨d,n,t,p,x⟩:=g;subst p;exact run.ret t.fr x Z⟩
theorem Pi{f g:a0s}{H:Hp}(h:i_ K (uX f g) E m H Q):tOr (i_ K f E) (i_ K g E) m H Q:=by
 obtain⟨F,k,n,fr,i,h⟩:=h;refine⟨F,k,n,fr,i,(run.bind h).mono λv l j=>r8 j λd e t p c=>?_⟩;subst p;cases v with
 |false=>rw[Uh Uk]at c⊢;exact⟨F,k,e,t.fr,i.tr<|t.tr fr,c⟩
 |true=>rw[Uf Z]at c⊢;exact run.ret t.fr c Z
theorem qa{f:a0s}(b:PT X a<|i_ X.K f E):PW X (.BoolOp .Or [a] pos) (i_ X.K f E):=P9 b
theorem ut{f g:a0s}(c:PT X a<|i_ X.K f E)(d:PW X (.BoolOp .Or (b::I) pos)<|i_ X.K g E):PW X (.BoolOp .Or (a::b::I) pos) (i_ X.K (uX f g) E):=(Ss c d).imp λ_ _ _=>Pi
theorem l5{e:Expr}{f:a0s}(h:PW X e<|i_ X.K f E):PT X e (i_ X.K f E):=PW.pt h
theorem run.asB{F:Fx}{k:Bool->M D}{H:Hp}(a:b5 K F H d v)(h:run (b5 K F) F E g (M.bind (M.ofO<|asB d) k) H Q i):∃c,v= .bl c/\run (b5 K F) F E g (k c) H Q i:=by
 obtain⟨c,e,h⟩:=run.ofO_bind h;rw[kD e]at a;exact⟨c,a,h⟩
theorem R5{f g:FD}(p:PE X a<|tV X.K f E)(m:PE X (.BoolOp .And (b::I) pos)<|tV X.K g E):PE X (.BoolOp .And (a::b::I) pos) (tV X.K (EK f g) E):=
 (Qo p m).imp λo H Q j=>la j λF n x fr l h=>⟨F,n,x,fr,l,(run.bind h).mono λv q j=>by
  obtain⟨d,k,t,D,G⟩:=j;obtain⟨c,e,i⟩:=run.asB D G;refine⟨c,e,?_⟩;cases c with
  |true=>rw[Uf Z]at i⊢;exact⟨F,n,k,t.fr,l.tr<|t.tr fr,i⟩
  |false=>rw[Uh Uk]at i⊢;exact run.ret t.fr i Z⟩
theorem BT{f g:FD}(l:PT X c<|i_ X.K t E)(p:PE X a<|tV X.K f E)(m:PE X b<|tV X.K g E):PE X (.IfExp c a b pos) (tV X.K (fIf t f g) E):=
 (Lw l p m).imp λo H Q i=>la i λF n x fr j h=>⟨F,n,x,fr,j,(run.bind h).mono λv q i=>by
  obtain⟨d,e,t,D,k⟩:=i;subst D;cases v with
  |true=>rw[Uf Z]at k⊢;exact⟨F,n,e,t.fr,j.tr<|t.tr fr,k⟩
  |false=>rw[Uh Uk]at k⊢;exact⟨F,n,e,t.fr,j.tr<|t.tr fr,k⟩⟩
noncomputable def tyD:D->Option String
 | .non=>U "NoneType"| .bl _=>U "bool"| .int _=>U "int"| .str _=>U "str"| .lst _=>U "list"| .tup _=>U "tuple"|_=>Y
def tys:List String:=["int","bool","str","NoneType","list","tuple"]
noncomputable def DT(a b:String):a0S:=if tys.contains a&&tys.contains b&&b !="NoneType"&&(b !="int"||a==b)then U (a==b)else Y
noncomputable def DS(a b c:String):a0S:=if tys.contains a&&(b=="list"&&c=="tuple"||b=="int"&&c=="str")then U (a==b||a==c||a=="bool"&&b=="int")else Y
theorem y2{a:String}(h:tys.contains a=O):a="int"\/a="bool"\/a="str"\/a="NoneType"\/a="list"\/a="tuple":=by
 simpa[tys]using h
theorem OL{a b:String}{c:Bool}(h:DT a b=U c):kitOne K (.type a) (.type b)=U c:=by
 unfold DT at h;split at h
 case isFalse=>cases h
 rename_i q;simp only[US]at q;cases h;rcases y2 q.1.1.1 with rfl|rfl|rfl|rfl|rfl|rfl<;>rcases y2 q.1.1.2 with rfl|rfl|rfl|rfl|rfl|rfl<;>first|exact UG q.1.2 vy|exact UG q.2 vy|kernel_rfl
theorem OK{a b d:String}{c:Bool}(h:DS a b d=U c):PySem.W.kitAny K (.type a) ([b,d].map Xf)=U c:=by
 unfold DS at h;split at h
 case isFalse=>cases h
 rename_i q;simp only[US,Bool.or_eq_true,Xk]at q;cases h;rcases q.2 with⟨rfl,rfl⟩|⟨rfl,rfl⟩<;>rcases y2 q.1 with rfl|rfl|rfl|rfl|rfl|rfl<;>kernel_rfl
def TyG(K:UA)(H:Hp)(x:V)(t:Uc):Prop:=p0 K H x t\/(∃a b,x= .ref a/\fy K H a b/\t= .type "list")\/(∃a b,x= .ref a/\i0 K H a b/\t= .type "tuple")
def M3(K:UA):a0k->Hp->VK->Prop:=λa H Q=>∃x c t b,a=[x,.ty c]/\TyG K H x t/\kitOne K t (.type c)=U b/\Q (.bl b) H
theorem Ko:cN X (.builtin "isinstance") (M3 X.K):=by
 intro j s u H F G Q I r h;obtain⟨x,c,t,b,rfl,f,e,q⟩:=h;cases r with
 |cons k d=>
  cases d with
  |cons d m=>
   cases m;cases d;obtain f|⟨a,E,rfl,n,rfl⟩|⟨a,E,rfl,n,rfl⟩:=f
   .exact JO I k f e λl=>⟨.bl b,H,I.tok _,Z,q⟩
   .cases k
    obtain⟨p,_,D,_⟩:=I.list n;obtain⟨o,g,i,_⟩:=D.isList;exact Z1 kitx_list I.kIn ⟨o,g,i⟩ e (λz=>nomatch z) λl=>⟨.bl b,H,I.tok _,Z,q⟩
   .cases k
    obtain⟨p,_,D,_⟩:=I.tuple n;obtain⟨o,g,i,_⟩:=D;exact Z1 kitx_tuple I.kIn ⟨o,g,i⟩ e (λz=>nomatch z) λl=>⟨.bl b,H,I.tok _,Z,q⟩
theorem FS{F:Fx}{H:Hp}(h:tyD d=U t)(c:b5 K F H d v):TyG K H v (.type t):=by
 cases d with
 |non=>cases h;cases c.non;exact .inl .non
 |bl b=>cases h;cases c.bl;exact .inl<|.bl b
 |int b=>cases h;cases c.int;exact .inl<|.int b
 |str b=>cases h;cases c.str;exact .inl<|.str b
 |lst ds=>cases h;obtain⟨a,e,rfl,f,_⟩:=b5.sqL c;exact .inr<|.inl ⟨a,e,Z,f,Z⟩
 |tup ds=>cases h;obtain⟨a,e,rfl,f,_⟩:=b5.sqT c;exact .inr<|.inr ⟨a,e,Z,f,Z⟩
 |_=>cases h
def kr:a0c->a0l
 |[x,.ty c]=>(tyD x).bind λt=>(DT t c).map D.bl
 |_=>Y
theorem SV:dh K (M3 K) kr:=λF H f Q n d p fr h e k=>by
 unfold kr at e;split at e
 .rename_i x c
  cases q:tyD x with
  |none=>rw[q]at e;cases e
  |some t=>
   rw[q]at e;simp only[Wf]at e;cases a:DT t c with
   |none=>rw[a]at e;cases e
   |some b=>
    rw[a]at e;cases e;obtain⟨v,w,rfl,g,i⟩:=bb.two h;cases i.ty;exact⟨v,c,_,b,Z,FS q g,OL a,k _ H (To.refl fr) Z⟩
 .cases e
def HF(K:UA):a0k->Hp->VK->Prop:=λc H Q=>∃(x:V) (tp:T8) (a:List String) (t:Uc) (b:Bool),c=[x,.ref tp]/\i0 K H tp (a.map V.ty)/\TyG K H x t/\PySem.W.kitAny K t (a.map Xf)=U b/\Q (.bl b) H
theorem ug:cN X (.builtin "isinstance") (HF X.K):=by
 intro m s P H f S Q I r h;obtain⟨x,tp,V,t,b,rfl,A,D,e,q⟩:=h;cases r with
 |cons c B=>
  cases B with
  |cons B R=>
   cases R;cases B;obtain⟨k,T,⟨⟨oc,f5,cb,w⟩,g,u,n,j⟩,_⟩:=I.tuple A;rw[FP T]at j
   subst u j;have d:∀N,EP X m P Q _ {s with toks:=N}:=λN=>⟨.bl b,H,I.tok _,Z,q⟩;obtain D|⟨a,G,rfl,E,rfl⟩|⟨a,G,rfl,E,rfl⟩:=D
   .cases D with
    |non=>cases c;exact Z2 PySem.W.kitx_none I.kIn XV g e (λz=>nomatch z) d
    |bl y=>cases c;exact Z2 PySem.W.kitx_bool I.kIn XV g e (λz=>nomatch z) d
    |int i=>obtain⟨t,rfl⟩:=c;exact Z2 PySem.W.kitx_int I.kIn XV g e (λz=>nomatch z) d
    |str y=>obtain⟨t,rfl⟩:=c;exact Z2 PySem.W.kitx_str I.kIn XV g e (λz=>nomatch z) d
    |@lst a f ea=>
     cases c;obtain⟨_,_,n,_,v⟩:=(show b6 _ _ H _ a (.lst f)from I.hok a _ ea);exact Z2 kitx_list I.kIn ⟨_,v,Z⟩ g e (λz=>nomatch z) d
    |@frz a ob f ea=>
     cases c;obtain⟨_,_,_,n,_,v⟩:=(show b6 _ _ H _ a (.frz ob<|.lst f)from I.hok a _ ea);exact Z2 kitx_list I.kIn ⟨_,v,Z⟩ g e (λz=>nomatch z) d
    |@tup a f ea=>
     cases c;obtain⟨_,_,_,p⟩:=(show b6 _ _ H _ a (.tup f)from I.hok a _ ea);obtain⟨o,v,M,_⟩:=p;exact Z2 kitx_tuple I.kIn ⟨o,v,M⟩ g e (λz=>nomatch z) d
    |@ins a C dx fs ea cl ha hn htk hm=>
     cases c;obtain⟨mA,ek,_⟩:=mI I.hok ea;obtain⟨f5,J,_⟩:=ek.look;exact Z2 (PySem.W.kitx_own (cl.get _) cl.hd ha hn htk hm) I.kIn J g e (λz=>nomatch z) d
   .cases c
    obtain⟨k,_,F,_⟩:=I.list E;obtain⟨o,l,L,_⟩:=F.isList;exact Z2 kitx_list I.kIn ⟨o,l,L⟩ g e (λz=>nomatch z) d
   .cases c
    obtain⟨k,_,F,_⟩:=I.tuple E;obtain⟨o,l,L,_⟩:=F;exact Z2 kitx_tuple I.kIn ⟨o,l,L⟩ g e (λz=>nomatch z) d
def wR:a0c->a0l
 |[x,.tup [.ty a,.ty b]]=>(tyD x).bind λt=>(DS t a b).map D.bl
 |_=>Y
theorem JG:dh K (HF K) wR:=λF H D Q E d G fr h e k=>by
 unfold wR at e;split at e
 .rename_i x a b
  cases q:tyD x with
  |none=>rw[q]at e;cases e
  |some t=>
   rw[q]at e;simp only[Wf]at e;cases f:DS t a b with
   |none=>rw[f]at e;cases e
   |some c=>
    rw[f]at e;cases e;obtain⟨v,w,rfl,g,i⟩:=bb.two h;obtain⟨p,I,rfl,n,j⟩:=b5.sqT i;obtain⟨y,z,rfl,l,m⟩:=bb.two j;cases l.ty;cases m.ty;exact⟨v,p,[a,b],_,c,Z,n,FS q g,OK f,k _ H (To.refl fr) Z⟩
 .cases e
def B6(K:UA)(J:It)(F:Fx)(H:Hp)(b:a0c):Prop:=∀(h:Fx) (g:Hp) (a:Bg),Tr F H h g->Fr h g a->∀i,(∀d,b[i]?=U d->J.go i g/\∀x j,J.yld i g x j->cj g j/\b5 K h j d x)/\(i=b.length->J.stop i g)
theorem B6.tr{K:UA}{F d:Fx}{H g:Hp}(t:Tr F H d g)(h:B6 K J F H ds):B6 K J d g ds:=λi j a l fr=>h i j a (t.trans l) fr
def iV(K:UA)(f:FL)(E:a0u):TI:=λd H R=>∃F a b,Fr F H b/\js K F H a d/\run (λg (c:a0c) (J:It)=>B6 K J F g c) F E d (f a) H R b
theorem _root_.L2.PI.imp{X:Cx}{a e:Expr}(h:PI X a e t)(f:∀d H Q,i d H Q->t d H Q):PI X a e i:=λg s d H Q I q=>h g s d H Q I<|f d H Q q
variable{tg:Expr}
def Rj(K:UA)(g:TE):TI:=λh H R=>g h H λx d=>(∃a,x= .ref a/\(∃b,fy K d a b)/\R (Itl K a) d)\/(∃a,x= .ref a/\(∃b,i0 K d a b)/\R (Itt K a) d)
theorem HP(t:PE X l tl):PI X tg l (Rj X.K tl):=by
 refine λg s u H R I h=>ee (t g s u H _ I h) λv d ⟨x,m,i,f,k⟩=>?_;have j:∀b∈[d.heap.objs.size],gy X g m b:=λb w=>by
  obtain rfl:b=d.heap.objs.size:=by simpa using w
  exact i.fpOk (Ug _)<|i.hok.fresh<|Ug _
 obtain⟨a,e,⟨n,r⟩,q⟩|⟨a,e,⟨n,r⟩,q⟩:=k
 .subst e
  cases f;obtain⟨c,y,p,A⟩:=i.list r;exact Z3 p.isList ⟨d.heap.objs.size,[d.heap.objs.size],_,_,m,Z,i.kept λb o e=>T1 _ e,vj a _,⟨_,Ut _ Z,Z,Z⟩,j,q⟩
 .subst e
  cases f;obtain⟨c,y,p,A⟩:=i.tuple r;exact ZR (show d.heap.IsTuple a _ from p) ⟨d.heap.objs.size,[d.heap.objs.size],_,_,m,Z,i.kept λb o e=>T1 _ e,BU a _,⟨_,Ut _ Z,Z,Z⟩,j,q⟩
theorem yt{F:Fx}{H:Hp}{a:T8}(h:b5 K F H (.lst s)<|.ref a):B6 K (Itl K a) F H s:=λq r n t fr i=>by
 obtain⟨u,b,e,c,g⟩:=b5.sqL (b5.tr t _ _ h);cases e;refine⟨λd k=>?_,λo=>⟨b,c,by rw[<-g.length,o];exact Ug _⟩⟩;obtain⟨x,p,_⟩:=g.get k;refine⟨⟨b,x,c,p⟩,λy v f=>?_⟩;obtain⟨rfl,f⟩:=f;obtain⟨D,l,j⟩:=g.getV<|f b c;rw[k]at l;cases l;exact⟨cj.refl _,j⟩
theorem AE{F:Fx}{H:Hp}{a:T8}(h:b5 K F H (.tup s)<|.ref a):B6 K (Itt K a) F H s:=λq r n t fr i=>by
 obtain⟨u,b,e,c,g⟩:=b5.sqT (b5.tr t _ _ h);cases e;refine⟨λd k=>?_,λo=>⟨b,c,by rw[<-g.length,o];exact Ug _⟩⟩;obtain⟨x,p,_⟩:=g.get k;refine⟨⟨b,x,c,p⟩,λy v f=>?_⟩;obtain⟨rfl,f⟩:=f;obtain⟨D,l,j⟩:=g.getV<|f b c;rw[k]at l;cases l;exact⟨cj.refl _,j⟩
def c5(f:FD):FL:=λa=>M.bind (f a) λd=>M.ofO<|dZ d
theorem aQ{f:FD}(j:PE X l<|tV X.K f E):PI X tg l (iV X.K (c5 f) E):=
 (HP j).imp λq H R g=>la g λF p x fr m h=>⟨F,p,x,fr,m,(run.bind h).mono λv i g=>by
  obtain⟨d,D,t,b,G⟩:=g;obtain⟨I,e,k⟩:=run.ofO G;cases d<;>first
   |(cases e;obtain⟨a,c,rfl,n,o⟩:=b5.sqL b;exact .inl ⟨a,Z,⟨c,n⟩,k _ i (To.refl t.fr) (yt b)⟩)
   |(cases e;obtain⟨a,c,rfl,n,o⟩:=b5.sqT b;exact .inr ⟨a,Z,⟨c,n⟩,k _ i (To.refl t.fr) (AE b)⟩)
   |cases e⟩
noncomputable def bw(a:Int)(n:Nat):a0c:=(Ue n).map λ(i:Nat)=> .int<|a+(i:Int)
theorem vR{F:Fx}{H:Hp}{b:Int}{n:Nat}:B6 K (Itr b n) F H (bw b n):=λl m c t fr i=>by
 refine⟨λd a=>?_,λg=>?_⟩
 .unfold bw at a
  have g:i<n:=by
   have:=(Ui.mp a).1;simpa using this
  rw[T9,U8 g]at a;cases a;exact⟨g,λx o ⟨h,j⟩=>by subst h j;exact⟨cj.refl _,Z⟩⟩
 .show n<=i
  rw[g];simp[bw]
def gR:a0c->a0C
 |[.int j]=>if(decide (-(2^62)<=j)&&decide (j<2^62))=O then U (bw 0 j.toNat)else Y
 |_=>Y
def rE:a0c->a0C
 |[.int i,.int j]=>if(decide (-(2^62)<=i)&&decide (i<2^62)&&decide (-(2^62)<=j)&&decide (j<2^62))=O then U (bw i (j-i).toNat)else Y
 |_=>Y
def c9(a:a0c->a0C)(g:FL):FL:=λb=>M.bind (g b) λc=>M.ofO<|a c
theorem cB{a:Expr}{p pos:Xp}(j:Gl X "range")(b:X.mg "range"=Y)(c:PA X [a]<|jm X.K g E)(f:autoParam (Uu [a] X.env=[(T4,Vv a X.env)]) qQ):PI X tg (.Call (.Name "range" p) [a] [] pos) (iV X.K (c9 gR g) E):=
 (HU j b c f).imp λr H R d=>la d λF n x fr m h=>⟨F,n,x,fr,m,(run.bind h).mono λM o d=>by
  obtain⟨S,D,t,G,I⟩:=d;obtain⟨l,e,k⟩:=run.ofO I;unfold gR at e;split at e
  .split at e
   .rename_i i
    cases e;simp only[US,UZ]at i;obtain⟨v,rfl,q⟩:=bb.one G;cases q.int;exact⟨_,Z,i.1,i.2,k _ o (To.refl t.fr) vR⟩
   .cases e
  .cases e⟩
theorem nM{a b:Expr}{p pos:Xp}(m:Gl X "range")(c:X.mg "range"=Y)(f:PA X [a,b]<|jm X.K g E)(n:autoParam (Uu [a,b] X.env=[(T4,Vv a X.env),(T4,Vv b X.env)]) qQ)(i:autoParam (Uu [b] X.env=[(T4,Vv b X.env)]) qQ):PI X tg (.Call (.Name "range" p) [a,b] [] pos) (iV X.K (c9 rE g) E):=
 (HS m c f n i).imp λy H R j=>la j λF x D fr o h=>⟨F,x,D,fr,o,(run.bind h).mono λS q j=>by
  obtain⟨V,G,t,I,M⟩:=j;obtain⟨l,e,k⟩:=run.ofO M;unfold rE at e;split at e
  .split at e
   .rename_i d
    cases e;simp only[US,UZ]at d;obtain⟨v,w,rfl,r,u⟩:=bb.two I;cases r.int;cases u.int;exact⟨_,_,Z,⟨d.1.1.1,d.1.1.2,d.1.2,d.2⟩,k _ q (To.refl t.fr) vR⟩
   .cases e
  .cases e⟩
abbrev ni:=D->Dn->Option Dn
abbrev kF:=a0c->Dn->Option Dn
def dg(K:UA)(g:TG)(tg:ni):Prop:=∀(F:Fx) (H:Hp) (b a:Dn) (i:St) (d:D) (v:V) (Q:a0H),js K F H b i->b5 K F H d v->tg d b=U a->(∀h,js K F H a h->Q h H)->g v i H Q
def uo(K:UA)(g:TGs)(tg:kF):Prop:=∀(F:Fx) (H:Hp) (b a:Dn) (h:St) (c:a0c) (e:a0k) (Q:a0H),js K F H b h->bb K F H c e->tg c b=U a->(∀d,js K F H a d->Q d H)->g e h H Q
noncomputable def g_(i:Nat):ni:=λd a=>if(a.getD i<|U .non).isNone then U (a.set i<|U d)else Y
noncomputable def jL:kF:=λa b=>match a with
 |[]=>U b
 |_=>Y
noncomputable def fc(t:ni)(u:kF):kF:=λb c=>match b with
 |[]=>Y
 |d::r=>(t d c).bind λa=>u r a
noncomputable def O_(t:kF):ni:=λd a=>match d with
 | .tup ds=>t ds a
 |_=>Y
theorem xi{b a:Dn}(h:g_ i d b=U a):b[i]?=U Y/\a=b.set i (U d):=by
 unfold g_ at h;split at h
 .rename_i q
  cases h;refine⟨?_,Z⟩;rw[T6]at q;cases e:b[i]? with
  |none=>rw[e]at q;cases q
  |some z=>
   rw[e]at q;cases z with
   |none=>rfl
   |some w=>cases q
 .cases h
theorem ao:dg K (d7 i) (g_ i):=λF H c a h d v Q g b e k=>by
 obtain⟨_,rfl⟩:=xi e;exact k _<|g.set b
theorem cf:uo K gNil jL:=λF H f a g b n Q d c e k=>by
 cases b with
 |nil=>cases e;exact⟨c,k _ d⟩
 |cons _ _=>cases e
theorem aL(m:dg K t s)(o:uo K u uf):uo K (ED t u) (fc s uf):=λF H b a v c p Q w f e k=>by
 cases c with
 |nil=>cases e
 |cons d r=>
  obtain⟨x,l,rfl,n,y⟩:=f;have h:(s d b).bind _=U a:=e;cases q:s d b with
  |none=>rw[q]at h;cases h
  |some g=>
   rw[q]at h;exact⟨x,l,Z,m F H b g v d x _ w n q λi j=>o F H g a i r l Q j y h k⟩
theorem cR{n:Nat}(h:uo K t l)(x:∀f c b,l f c=U b->f.length=n):dg K (Me K n t) (O_ l):=λF H c b i d v Q j D e k=>by
 cases d<;>first
  |(obtain⟨a,p,rfl,E,g⟩:=b5.sqT D;exact⟨a,p,Z,E,by rw[<-g.length];exact x _ _ _ e,h F H c b i _ p Q j g e k⟩)
  |cases e
theorem bS:∀b c a,jL b c=U a->b.length=0:=λb c a h=>by
 cases b with
 |nil=>rfl
 |cons _ _=>cases h
theorem aJ{n:Nat}(h:∀b c a,u b c=U a->b.length=n):∀b c a,fc t u b c=U a->b.length=n+1:=λb c a e=>by
 cases b with
 |nil=>cases e
 |cons d r=>
  have g:(t d c).bind _=U a:=e;cases q:t d c with
  |none=>rw[q]at g;cases g
  |some i=>rw[q]at g;rw[Ur,h _ _ _ g]
def eU(tg:ni):Prop:=∀d b a,tg d b=U a->Sub b a/\b.length=a.length
def wX(tg:kF):Prop:=∀d b a,tg d b=U a->Sub b a/\b.length=a.length
theorem au:eU (g_ i):=λd b a e=>by
 obtain⟨q,rfl⟩:=xi e;refine⟨λj c g=>?_,by rw[VL]⟩;rw[V2];by_cases z:i=j
 .subst z;rw[q]at g;cases g
 .rw[Uh z];exact g
theorem b9:wX jL:=λa c b e=>by
 cases a with
 |nil=>cases e;exact⟨λ_ _ h=>h,Z⟩
 |cons _ _=>cases e
theorem aK(j:eU t)(l:wX u):wX (fc t u):=λf b a e=>by
 cases f with
 |nil=>cases e
 |cons d r=>
  have g:(t d b).bind _=U a:=e;cases q:t d b with
  |none=>rw[q]at g;cases g
  |some m=>
   rw[q]at g;obtain⟨k,n⟩:=j _ _ _ q;obtain⟨p,o⟩:=l _ _ _ g;exact⟨λi c h=>p i c<|k i c h,n.trans o⟩
theorem cP(h:wX t):eU (O_ t):=λd b a e=>by
 cases d<;>first|exact h _ _ _ e|cases e
structure o0 (F:Fx) (D:T8) (H H':Hp) (β':Bg):Prop where
 kp:∀a o,H a=U o->a≠D->(∀b l,F.bg=U (b,l)->a≠b/\a≠l)->H' a=U o
 fr:Fr F H' β'
theorem o0.trans{F:Fx}{D:T8}{H d g:Hp}(a:o0 F D H d β1)(b:o0 F D d g β2):o0 F D H g β2:=⟨λx o h n m=>b.kp x o (a.kp x o h n m) n m,b.fr⟩
theorem To.toD{F:Fx}{H d:Hp}(t:To F H d g)(D:T8):o0 F D H d g:=⟨λa o h _ m=>t.kp a o h m,t.fr⟩
theorem o0.tr{F:Fx}{D:T8}{H d:Hp}(fr:Fr F H j)(g:F.A D)(t:o0 F D H d i):Tr F H F d:=
 ⟨λ_ h _=>h,λa o h e=>t.kp a o e (λz=>h<|z▸g) λb l q=>⟨λz=>h<|z▸(fr.bgA b l q).1,λz=>h<|z▸(fr.bgA b l q).2.1⟩,Z⟩
structure AR where
 R:Fx->Hp->T8->List Pu.D->Prop
 Z:List Pu.D->Prop
 tr:∀{F F2:Fx} {H H':Hp} {D:T8} {as:List Pu.D},R F H D as->(∀o,H D=U o->H' D=U o)->Tr F H F2 H'->R F2 H' D as
 zp:∀{as os:List Pu.D},Z (as++os)->Z as
noncomputable def RL(K:UA):AR where
 R:=λF H D b=>∃a,H D=U (.lst a)/\bb K F H b a
 Z:=λl=>l.length<=UC
 tr:=λh k t=>by
  obtain⟨a,d,g⟩:=h;exact⟨a,k _ d,bb.tr t _ _ g⟩
 zp:=λh=>by rw[Uv]at h;lia
def gc(K:UA)(R:AR)(D:T8)(j:TB)(f:Dn->M (List Pu.D)):Prop:=∀(F:Fx) (H:Hp) (a:Dn) (k d:Bg) (i:St) (c e:List Pu.D) (Q:a0H),Fr F H k->F.A D->(∀b l,F.bg=U (b,l)->D≠b/\D≠l)->js K F H a i->R.R F H D c->
 f a k=U (.ok e,d)->R.Z (c++e)->(∀g h,o0 F D H h d->js K F h a g->R.R F h D (c++e)->Q g h)->j i H Q
abbrev lJ(K:UA):=gc K<|RL K
def j_(f:Dn->M Pu.D):Dn->M (List Pu.D):=λa=>M.bind (f a) λd=>M.ret [d]
theorem M.bind_inv{c g:Type}{m:M c}{k:c->M g}{f d:Bg}{r:g}(h:M.bind m k f=U (.ok r,d)):∃a b,m f=U (.ok a,b)/\k a b=U (.ok r,d):=by
 unfold M.bind at h;split at h
 .cases h
 .cases h
 .rename_i a b e
  exact⟨a,b,e,h⟩
theorem E0.run{b i:Type}{R:Hp->b->i->Prop}{F:Fx}{j:St}{m:M b}{H:Hp}{Q:i->Hp->Prop}{c d:Bg}{a:b}(e:m c=U (.ok a,d))(h:∀v g,To F H g d->R g a v->Q v g):run R F E0 j m H Q c:=⟨.ok a,d,e,h⟩
theorem aN{D:T8}{f:Dn->M Pu.D}:lJ K D (ET D<|tV K f E0) (j_ f):=λF H E G g w S X Q fr y i m A e B k=>by
 obtain⟨c,C,x⟩:=A;obtain⟨d,V,I,J⟩:=M.bind_inv e;cases J;refine⟨F,E,G,fr,m,E0.run I λv r t L=>?_⟩;have N:=bb.tr (t.tr fr) _ _ x;refine⟨c,t.kp D _ C i,by rw[<-x.length];have:=(show(S++[d]).length<=UC from B);simp at this;lia,?_⟩;have u:o0 F D r (upd r D<|.lst<|c++[v]) g:=by
  refine⟨λa o h n _=>by rw[bt n];exact h,λa h q=>?_,fr.bgA,λb l q=>?_⟩
  .by_cases z:a=D
   .subst z;rw[aw]at q;cases q
   .rw[bt z]at q;exact t.fr.occ a h q
  .rw[bt (i b l q).1.symm,bt (i b l q).2.symm]
   exact t.fr.bag b l q
 have p:=u.tr t.fr y;exact k w _ ((t.toD D).trans u) (m.tr<|(t.tr fr).trans p) ⟨_,aw,bb.append (bb.tr p _ _ N) ⟨v,[],Z,b5.tr p _ _ L,Z⟩⟩
def ot(tg:ni)(e:a0s)(b:Dn->M (List Pu.D)):List Pu.D->Dn->M (List Pu.D)
 |[],_=>M.ret []
 |d::ds,δ=>match tg d δ with
  |none=>M.fail
  |some a=>M.bind (e a) λc=>M.bind (if c=O then b a else M.ret []) λo=>M.bind (ot tg e b ds δ) λf=>M.ret<|o++f
theorem qu{R:AR}{D:T8}{tg:ni}{b:Dn->M (List Pu.D)}(hg:dg K g tg)(sg:eU tg)(hb:gc K R D tb b){F:Fx}{H:Hp}{as os f:List Pu.D}(fr:Fr F H β)(hA:F.A D)(hn:∀b l,F.bg=U (b,l)->D≠b/\D≠l)(vk:js K F H s σ)(hR:R.R F H D as)
  (it:B6 K J F H f) (e:ot tg tt b f s β=U (.ok os,β')) (hz:R.Z<|as++os) (k:∀j t,o0 F D H t β'->js K F t s j->R.R F t D (as++os)->Q j t):dP J g (i_ K tt E0) tb σ H Q:=by
 refine⟨λi m j t=>m+i=f.length/\∃a r v,o0 F D H t a/\js K F t s j/\R.R F t D r/\ot tg tt b (f.drop i) s a=U (.ok v,β')/\r++v=as++os,
  ⟨f.length,rk,β,as,os,⟨λ_ _ h _ _=>h,fr⟩,vk,hR,e,Z⟩,?_⟩
 rintro i m j t ⟨hm,a,r,v,B,C,I,u,V⟩;obtain⟨iy,is⟩:=it F t a (B.tr fr hA) B.fr i;cases T:f[i]? with
 |none=>
  have f5:=Zz.mp T;rw[WQ f5]at u;cases u;refine .inl ⟨is rk,k j t B C ?_⟩;rw[<-V,UQ];exact I
 |some d=>
  have f5:=(Ui.mp T).1;obtain⟨go,yl⟩:=iy d T;have ed:f.drop i=d::f.drop (i+1):=by
   rw[VH f5];congr 1;exact UR<|(Ua f5).symm.trans T
  rw[ed]at u;unfold ot at u;cases q:tg d s with
  |none=>rw[q]at u;cases u
  |some n=>
   rw[q]at u;obtain⟨c,E,e2,e3⟩:=M.bind_inv u;obtain⟨o,p,W,e5⟩:=M.bind_inv e3;obtain⟨aa,af,e6,e7⟩:=M.bind_inv e5;cases e7;obtain⟨s1,s2⟩:=sg _ _ _ q;refine .inr ⟨go,λL cb=>o0 F D H cb p/\js K F cb s L/\R.R F cb D (r++o),?_,λx H2 hy=>?_⟩
   .rintro L cb ⟨t9,vk9,hR9⟩
    exact⟨m-1,rk,rk,p,r++o,aa,t9,vk9,hR9,e6,by rw[Vi];exact V⟩
   .obtain⟨sm,dx⟩:=yl x H2 hy
    have G:=B.fr.same sm;have N:=G.tr B.fr;refine hg F H2 s n j d x _ (C.tr N) dx q λab w=>⟨F,n,a,G.fr,w,E0.run e2 λc' H3 S ec=>?_⟩;subst ec;have y:=S.tr G.fr;have ek:=R.tr I (λo z=>S.kp D o (sm _ _ z) hn)<|N.trans y;have P:=B.trans<|(G.trans S).toD D;have ac:R.Z (r++o):=by
     rw[<-V,<-Vi]at hz;exact R.zp hz
    cases c' with
    |true=>
     rw[Uf Z]at W⊢;exact hb F H3 n E p ab r o _ S.fr hA hn (w.tr y) ek W ac λag H4 t4 ad ae=>⟨P.trans t4,ad.sub s1 s2,ae⟩
    |false=>
     rw[Uh Uk]at W⊢;cases W;exact⟨P,(w.tr y).sub s1 s2,by rw[UQ];exact ek⟩
def L_(c:Dn->M (List Pu.D))(tg:ni)(e:a0s)(b:Dn->M (List Pu.D)):Dn->M (List Pu.D):=λa=>M.bind (c a) λf=>ot tg e b f a
theorem rO{D:T8}{tg:ni}{b:Dn->M (List Pu.D)}(j:dg K g tg)(l:eU tg)(m:gc K R D s b):gc K R D (ES (iV K L E0) λJ=>dP J g (i_ K N E0) s) (L_ L tg N b):=λF H c f q C p x Q fr r a h u e v k=>by
 obtain⟨E,n,w,y⟩:=M.bind_inv e;exact⟨F,c,f,fr,h,E0.run w λJ i t A=>(qu j l m t.fr r a (h.tr<|t.tr fr) (R.tr u (λo z=>t.kp D o z a)<|t.tr fr) A y v λd i B=>k d i<|(t.toD D).trans B)⟩
theorem AB{D:T8}{tg:ni}{b:Dn->M (List Pu.D)}(d:dg K g tg)(h:eU tg)(i:lJ K D j b):lJ K D (ES (iV K l E0) λJ=>dP J g (i_ K m E0) j) (L_ l tg m b):=rO d h i
noncomputable def lg(nv:Nat)(b4:a0a)(δ:Dn):Dn:=UL nv Y++b4.map λj=>δ.getD j Y
def cE(nv:Nat)(b4:a0a)(it:Dn->M (List Pu.D))(tg:ni)(c:a0s)(b:Dn->M (List Pu.D)):Dn->M Pu.D:=λa e=>match it a e with
 |none=>Y
 |some (.error C,β1)=>U (.error C,β1)
 |some (.ok ds,β1)=>match ot tg c b ds (lg nv b4 a) β1 with
  |some (.ok os,β2)=>if os.length<=UC then U (.ok<|.lst os,β2)else Y
  |_=>Y
theorem uh{F:Fx}{H:Hp}{a:a0i}(h:js K F H r s):js K F H (lg a.length b4 r) (mQ a b4 s):=by
 refine⟨by simp[lg,mQ],λi d e=>?_⟩;unfold lg at e;unfold mQ;rw[List.getElem?_append]at e⊢;rw[V9]at e⊢;by_cases g:i<a.length
 .rw[Uf g,WG,Uf g]at e
  cases e
 .rw[Uh g,T9]at e⊢
  cases q:b4[i-a.length]? with
  |none=>rw[q]at e;cases e
  |some j=>
   rw[q]at e;simp only[VP,Option.some.injEq]at e⊢;rw[T6]at e;cases z:r[j]? with
   |none=>rw[z]at e;cases e
   |some w=>
    rw[z]at e;have l:=e;subst l;obtain⟨v,m,o⟩:=h.tell j d z;exact⟨v,by rw[T6,m];rfl,o⟩
theorem xj{c:a0i}{f:a0a}{k:Dn->M (List Pu.D)}{g:TG}{tg:ni}{p:a0s}{P:a0Y}{b:Dn->M (List Pu.D)}(R:dg K g tg)(G:eU tg)(S:∀D,lJ K D (P D) b){T:St}{H:Hp}{Q:VK}(h:tV K (cE c.length f k tg p b) E T H Q):
  su c f (iV K k E) (λD J=>dP J g (i_ K p E0)<|P D) T H Q:=by
 obtain⟨F,V,X,fr,f5,r,v,e,h⟩:=h;unfold cE at e;refine⟨F,V,X,fr,f5,?_⟩;split at e
 .cases e
 .rename_i C β1 q
  cases e;exact⟨.error C,_,q,h⟩
 .rename_i ds β1 q
  split at e
  .rename_i os β2 q2
   split at e
   .rename_i hz
    cases e;refine⟨.ok ds,β1,q,λJ u t s D i=>?_⟩;have d:=t.fr.fresh i;have W:=t.fr.upd (.lst []) i;have B:Fr ⟨λa=>F.A a\/a=D,F.bg⟩ (upd u D<|.lst []) β1:=by
     refine⟨λa ha z=>?_,λb l z=>let ⟨x,y,w⟩:=fr.bgA b l z;⟨.inl x,.inl y,w⟩,W.fr.bag⟩
     obtain ha|ha:=ha
     .exact W.fr.occ a ha z
     .subst ha;rw[aw]at z;cases z
    have j:Tr F u ⟨λa=>F.A a\/a=D,F.bg⟩ (upd u D<|.lst []):=⟨λa ha hs z=>by
     obtain z|z:=z
     .exact ha z
     .subst z;exact hs i,λa o ha z=>by rw[bt<|aP z i];exact z,Z⟩
    refine qu (as:=[]) R G (S D) B (.inr Z) (λb l z=>⟨λw=>d<|w▸(fr.bgA b l z).1,λw=>d<|w▸(fr.bgA b l z).2.1⟩) (uh<|f5.tr<|(t.tr fr).trans j) ⟨[],aw,Z⟩ (s.tr j) q2 (show os.length<=UC from hz) λaa cb I ab L=>?_;obtain⟨m,N,ek⟩:=L;have tf:To F u cb v:=by
     refine⟨λa o z n=>I.kp a o (by rw[bt<|aP z i];exact z) (aP z i) n,λa ha z=>I.fr.occ a (Wm ha) z,fr.bgA,I.fr.bag⟩
    refine h _ cb (t.trans tf) ⟨D,m,Z,⟨d,.inl N⟩,bb.tr (F:=⟨λa=>F.A a\/a=D,F.bg⟩) ⟨λa ha _ z=>ha<|Wm z,λa o _ z=>z,Z⟩ _ _ ek⟩
   .cases e
  .cases e
inductive Sl where
 |sh (d:D)|own (ds:a0c)|grd (ba:a0v)|odc (b:Bool) (ks:a0F) (vs:a0c)
abbrev a0D:=Option Sl
abbrev Ds:=List a0D
set_option genInjectivity true in
inductive s_ where
 |nx (δ:Ds)|rt (d:D)|bk (δ:Ds)|ct (δ:Ds)|ex (C:T8) (δ:Ds)|rg (ba:a0v)
abbrev a0z:=s_->Bg->Prop
abbrev G:=Ds->Bg->Option (s_×Bg)
abbrev Ow:=T8->a0L
noncomputable def d_(B:Ow)(b:a0t):Fx:=⟨λa=>B a≠Y,b⟩
noncomputable def o1(B:Ow)(b:a0t):Fx:=⟨λa=>B a=U 0\/B a=U 1,b⟩
def bE(K:UA)(F:Fx)(H:Hp)(P:T8->Prop):a0v->a0r->Prop
 |[],[]=>True
 |ds::ba,r::rs=>P r/\(∃a,H r=U (.lst a)/\bb K F H ds a)/\bE K F H P ba rs
 |_,_=>False
theorem bE.tr{K:UA}{F i:Fx}{H d:Hp}(t:Tr F H i d):∀{b:a0v} {a:a0r},bE K F H P b a->(∀r xs,r∈a->P r->H r=U (.lst xs)->P2 r/\d r=U (.lst xs))->bE K i d P2 b a
 |[],[],_,_=>trivial
 |ds::b,r::a,h,f=>by
  obtain⟨j,⟨xs,l,m⟩,o⟩:=h;obtain⟨p,q⟩:=f r xs Ud j l;exact⟨p,⟨xs,q,bb.tr t _ _ m⟩,bE.tr t o λu g v=>f u g<|T3 _ v⟩
 |[],_::_,h,_=>h.elim
 |_::_,[],h,_=>h.elim
theorem bE.all{K:UA}{F:Fx}{H:Hp}:∀{c:a0v} {a:a0r},bE K F H P c a->∀r∈a,P r/\∃b,H r=U (.lst b)
 |[],[],_,r,hr=>by cases hr
 |ds::c,r0::a,h,r,hr=>by
  obtain⟨d,⟨b,g,j⟩,i⟩:=h;obtain rfl|hr:=Uq.mp hr
  .exact⟨d,b,g⟩
  .exact bE.all i r hr
 |[],_::_,h,_,_=>h.elim
 |_::_,[],h,_,_=>h.elim
theorem bE.den{K:UA}{F d:Fx}{H:Hp}(t:Tr F H d H):∀{b:a0v} {a:a0r},bE K F H P b a->(∀r,r∈a->P r->¬d.A r)->bb K d H (b.map D.lst) (a.map V.ref)
 |[],[],_,_=>rfl
 |ds::b,r::a,h,f=>by
  obtain⟨g,⟨c,i,j⟩,l⟩:=h;exact bb.cons ⟨r,c,Z,⟨f r Ud g,.inl i⟩,bb.tr t _ _ j⟩<|bE.den t l λm o=>f m<|T3 _ o
 |[],_::_,h,_=>h.elim
 |_::_,[],h,_=>h.elim
theorem bE.len{K:UA}{F:Fx}{H:Hp}:∀{a:a0v} {b:a0r},bE K F H P a b->a.length=b.length
 |[],[],_=>rfl
 |ds::a,r::b,h=>by simp[bE.len h.2.2]
 |[],_::_,h=>h.elim
 |_::_,[],h=>h.elim
def jg(K:UA)(F:Fx)(c H:Hp)(e:a0v)(v:V):Prop:=∃a b,v= .ref a/\c a=Y/\H a=U (.lst<|b.map V.ref)/\(a::b).Nodup/\bE K F H (λr=>c r=Y) e b
def ODc(K:UA)(F:Fx)(H:Hp)(a:T8)(b:Bool)(e:a0F)(f:a0c):Prop:=∃k c,H a=U (cX a b k c)/\e=c.map (·.1)/\(∀x∈c,gx K F H b x.1 x.2.1)/\bb K F H f (c.map (·.2.2))
theorem ODc.tr{K:UA}{F g:Fx}{H d:Hp}{a:T8}{b:Bool}(t:Tr F H g d)(h:ODc K F H a b q r)(k:∀o,H a=U o->d a=U o):ODc K g d a b q r:=by
 obtain⟨c,e,i,j,l,m⟩:=h;exact⟨c,e,k _ i,j,λx f=>(l x f).tr t,bb.tr t _ _ m⟩
def D2(H:Hp)(a:T8):Prop:=(∃b,H a=U (.lst b))\/∃d,H a=U (.ext d)
theorem D2.imp{H d:Hp}{a:T8}(h:D2 H a)(k:∀o,H a=U o->d a=U o):D2 d a:=Or.imp (λ⟨b,z⟩=>⟨b,k _ z⟩) (λ⟨g,z⟩=>⟨g,k _ z⟩) h
def pY(K:UA)(B:Ow)(c:a0t)(H:Hp)(i:Nat):Sl->V->Prop
 | .sh d,v=>b5 K (d_ B c) H d v
 | .own ds,v=>∃a f,v= .ref a/\B a=U (i+2)/\H a=U (.lst f)/\bb K (d_ B c) H ds f
 | .grd ba,v=>∃a e,v= .ref a/\B a=U (i+2)/\H a=U (.lst<|e.map V.ref)/\(a::e).Nodup/\bE K (d_ B c) H (λr=>B r=U (i+2)) ba e
 | .odc b ks vs,v=>∃a,v= .ref a/\B a=U (i+2)/\ODc K (d_ B c) H a b ks vs
theorem pY.tr{K:UA}{H g:Hp}(h:pY K B u H j s v)(t:Tr (d_ B u) H (d_ B2 u) g)(k:∀c,B c=U (j+2)->B2 c=U (j+2)/\∀o,H c=U o->g c=U o):pY K B2 u g j s v:=by
 cases s with
 |sh d=>exact b5.tr t _ _ h
 |own cs=>
  obtain⟨c,l,e,a,f,i⟩:=h;exact⟨c,l,e,(k c a).1,(k c a).2 _ f,bb.tr t _ _ i⟩
 |grd ba=>
  obtain⟨c,n,e,a,f,i,m⟩:=h;exact⟨c,n,e,(k c a).1,(k c a).2 _ f,i,bE.tr t m λr _ _ p q=>⟨(k r p).1,(k r p).2 _ q⟩⟩
 |odc b ks vs=>
  obtain⟨c,e,a,f⟩:=h;exact⟨c,e,(k c a).1,f.tr t (k c a).2⟩
structure fw (K:UA) (H₀:Hp) (B:Ow) (bg:a0t) (H:Hp) (δ:Ds) (β:Bg) (σ:St):Prop where
 fr:Fr (d_ B bg) H β
 bgt:∀b l,bg=U (b,l)->B b=U 1/\B l=U 1
 len:δ.length=σ.length
 cov:∀a,H₀ a≠Y->H a≠Y
 new:∀a k,B a=U (k+2)->H₀ a=Y
 lst:∀a k,B a=U (k+2)->D2 H a
 tell:∀(i:Nat) (s:Sl),δ[i]?=U (U s)->∃v,σ[i]?=U (U v)/\pY K B bg H i s v
structure hY (B:Ow) (H:Hp) (B':Ow) (H':Hp):Prop where
 kp:∀a o,H a=U o->(B a=Y\/B a=U 0)->H' a=U o
 tg:∀a,B a=U 0\/B a=U 1->B' a=B a
 nn:∀a o,H a=U o->B a=Y->B' a=Y
 al:∀a,H a≠Y->H' a≠Y
theorem hY.refl(B:Ow)(H:Hp):hY B H B H:=⟨λ_ _ h _=>h,λ_ _=>Z,λ_ _ _ h=>h,λ_ h=>h⟩
theorem hY.trans{H d g:Hp}(a:hY B H B1 d)(b:hY B1 d B2 g):hY B H B2 g:=by
 refine⟨λx o h n=>b.kp x o (a.kp x o h n) ?_,λx h=>?_,λx o h n=>b.nn x o (a.kp x o h<|.inl n)<|a.nn x o h n,λx h=>b.al x<|a.al x h⟩
 .obtain n|n:=n
  .exact .inl (a.nn x o h n)
  .exact .inr ((a.tg x<|.inl n).trans n)
 .have e:=a.tg x h
  rw[<-e]at h;exact(b.tg x h).trans e
def iR(K:UA)(a:Hp)(b:a0t)(E:a0u)(Dn:si)(B:Ow)(H:Hp)(o:s_)(j:Bg):Prop:=match o with
 | .nx δ'=>∀h i g,hY B H i g->fw K a i b g δ' j h->Dn.nx h g
 | .bk δ'=>∀h i g,hY B H i g->fw K a i b g δ' j h->Dn.bk h g
 | .ct δ'=>∀h i g,hY B H i g->fw K a i b g δ' j h->Dn.ct h g
 | .rt d=>∀v i g,hY B H i g->Fr (d_ i b) g j->b5 K (d_ i b) g d v->Dn.rt v g
 | .rg ba=>∀v i g,hY B H i g->Fr (d_ i b) g j->jg K (d_ i b) a g ba v->Dn.rt v g
 | .ex C δ'=>∀h i g,hY B H i g->fw K a i b g δ' j h->E h (.ref C) Y g
theorem iR.pre{K:UA}{E:a0u}{Dn:si}{H l:Hp}(s:hY B H B1 l)(h:iR K H₀ q E Dn B H o m):iR K H₀ q E Dn B1 l o m:=by
 cases o with
 |nx δ=>exact λg i j t=>h g i j<|s.trans t
 |bk δ=>exact λg i j t=>h g i j<|s.trans t
 |ct δ=>exact λg i j t=>h g i j<|s.trans t
 |rt d=>exact λv i j t=>h v i j<|s.trans t
 |rg d=>exact λv i j t=>h v i j<|s.trans t
 |ex C δ=>exact λg i j t=>h g i j<|s.trans t
def tG(K:UA)(a:Hp)(g:G)(E:a0u):TS:=λDn h H=>∃B b c e o d,fw K a B b H c e h/\g c e=U (o,d)/\iR K a b E Dn B H o d
theorem _root_.L2.PS.imp{X:Cx}{e:Va}(h:PS X e t)(f:∀D d H,i D d H->t D d H):PS X e i:=λg s d H D I q=>h g s d H D I<|f D d H q
theorem _root_.L2.PSs.imp{X:Cx}{e:a0R}(h:PSs X e t)(f:∀D d H,i D d H->t D d H):PSs X e i:=λg s d H D I q=>h g s d H D I<|f D d H q
noncomputable def vw(δ:Ds):Dn:=δ.map λs=>match s with
 |some (.sh d)=>U d
 |_=>Y
noncomputable def hL(δ:Ds):Dn:=δ.map λs=>match s with
 |some (.sh d)=>U d
 |some (.own ds)=>U<|.lst ds
 |some (.grd ba)=>U<|.lst<|ba.map D.lst
 |some (.odc b ks vs)=>U<|.dct b ks vs
 |none=>Y
variable{f:Hp}{B:Ow}{T:a0t}{f5:Hp}{p:Ds}{R W:Bg}{cb:St}
theorem RY{i:Nat}{d:D}(e:(vw p)[i]?=U (U d)):p[i]?=U (U<|.sh d):=by
 unfold vw at e;rw[T9]at e;cases q:p[i]? with
 |none=>rw[q]at e;cases e
 |some z=>
  rw[q]at e;cases z with
  |none=>cases e
  |some s=>
   cases s with
   |sh c=>cases e;rfl
   |own ds=>cases e
   |grd ba=>cases e
   |odc b ks vs=>cases e
theorem fw.view(h:fw K f B T H p R cb):js K (d_ B T) H (vw p) cb:=⟨by unfold vw;rw[TX,h.len],λi d e=>h.tell i _<|RY e⟩
theorem trA:Tr (d_ B T) H (o1 B T) H:=⟨λa h _ z=>by
 have b:¬(B a≠Y):=h;obtain z|z:=z
 .exact b (by rw[z];simp)
 .exact b (by rw[z];simp),λ_ _ _ h=>h,Z⟩
theorem fw.frA(h:fw K f B T H p R cb):Fr (o1 B T) H R:=⟨λa c=>h.fr.occ a (by
 show B a≠Y;rcases c with z|z<;>rw[z]<;>simp),λb l e=>⟨.inr (h.bgt b l e).1,.inr (h.bgt b l e).2,(h.fr.bgA b l e).2.2⟩,h.fr.bag⟩
theorem fw.viewA(h:fw K f B T H p R cb):js K (o1 B T) H (hL p) cb:=by
 refine⟨by unfold hL;rw[TX,h.len],λi d e=>?_⟩;unfold hL at e;rw[T9]at e;cases q:p[i]? with
 |none=>rw[q]at e;cases e
 |some z=>
  rw[q]at e;cases z with
  |none=>cases e
  |some s=>
   obtain⟨v,m,o⟩:=h.tell i s q;cases s with
   |sh c=>cases e;exact⟨v,m,b5.tr trA _ _ o⟩
   |own ds=>
    cases e;obtain⟨a,k,g,j,l,t⟩:=o;refine⟨v,m,a,k,g,⟨λz=>?_,.inl l⟩,bb.tr trA _ _ t⟩;have z':B a=U 0\/B a=U 1:=z;rw[j]at z';rcases z' with z'|z'<;>cases z'
   |grd ba=>
    cases e;obtain⟨a,E,g,j,l,t,u⟩:=o;have w:∀c,B c=U (i+2)->¬(o1 B T).A c:=λc y z=>by
     have z':B c=U 0\/B c=U 1:=z;rw[y]at z';rcases z' with z'|z'<;>cases z'
    exact⟨v,m,a,_,g,⟨w a j,.inl l⟩,bE.den trA u λr _ C=>w r C⟩
   |odc b ks vs=>
    cases e;obtain⟨a,g,j,n,k,l,t,u,I⟩:=o;refine⟨v,m,?_⟩;refine⟨a,n,k,g,⟨λz=>?_,l⟩,t,λx D=>(u x D).tr trA,bb.tr trA _ _ I⟩;have z':B a=U 0\/B a=U 1:=z;rw[j]at z';rcases z' with z'|z'<;>cases z'
theorem fw.to{F:Fx}(h:fw K f B T H p R cb)(hF:F.bg=T)(t:To F H f5 W):fw K f B T f5 p W cb/\hY B H B f5:=by
 have u:∀a,B a≠U 1->∀b l,F.bg=U _->a≠b/\a≠l:=λa x b l e=>by
  rw[hF]at e;exact⟨λz=>x<|z▸(h.bgt b l e).1,λz=>x<|z▸(h.bgt b l e).2⟩
 have D:=λa o e n=>t.kp a o e<|u a n;have fr:Fr _ f5 W:=⟨λa x z=>(by
  by_cases y:B a=U 1
  .by_cases g:∃b l,T=U (b,l)/\(a=b\/a=l)
   .obtain⟨b,l,e,q⟩:=g
    obtain⟨j,m⟩:=t.fr.bag b l<|hF.trans e;obtain rfl|rfl:=q
    .rw[j]at z;cases z
    .rw[m]at z;cases z
   .cases q:H a with
    |none=>exact h.fr.occ a x q
    |some o=>
     rw[t.kp a o q λb l e=>⟨λw=>g ⟨b,l,hF.symm.trans e,.inl w⟩,λw=>g ⟨b,l,hF.symm.trans e,.inr w⟩⟩]at z;cases z
  .cases q:H a with
   |none=>exact h.fr.occ a x q
   |some o=>rw[D a o q y]at z;cases z),h.fr.bgA,λb l e=>t.fr.bag b l<|hF.trans e⟩
 have E:∀a,H a≠Y->f5 a≠Y:=λa x z=>by
  by_cases g:∃b l,T=U (b,l)/\(a=b\/a=l)
  .obtain⟨b,l,e,q⟩:=g
   obtain⟨j,m⟩:=t.fr.bag b l<|hF.trans e;obtain rfl|rfl:=q
   .rw[j]at z;cases z
   .rw[m]at z;cases z
  .cases q:H a with
   |none=>exact x q
   |some o=>
    rw[t.kp a o q λb l e=>⟨λw=>g ⟨b,l,hF.symm.trans e,.inl w⟩,λw=>g ⟨b,l,hF.symm.trans e,.inr w⟩⟩]at z;cases z
 refine⟨⟨fr,h.bgt,h.len,λa x=>E a<|h.cov a x,h.new,λc k r=>(h.lst c k r).imp λo z=>D c o z (by rw[r];intro z;cases z),λi s e=>?_⟩,λa o e n=>D a o e (by rcases n with n|n<;>rw[n]<;>simp),λ_ _=>Z,λ_ _ _ n=>n,E⟩
 obtain⟨v,A,C⟩:=h.tell i s e;exact⟨v,A,C.tr (⟨λ_ n _=>n,λa o n e=>D a o e (λz=>n (by show B a≠Y;rw[z];simp)),Z⟩) λc d=>⟨d,λo q=>D c o q<|by rw[d];intro z;cases z⟩⟩
theorem fw.set(h:fw K f B T H p R cb)(a:b5 K (d_ B T) H d v):fw K f B T H (p.set i<|U<|.sh d) R (cb.set i<|U v):=by
 refine⟨h.fr,h.bgt,by rw[VL,VL,h.len],h.cov,h.new,h.lst,λj c e=>?_⟩;rw[V2]at e;rw[V2];by_cases q:i=j
 .subst q
  rw[Uf Z]at e⊢;split at e
  .rename_i g
   cases e;rw[Uf<|by rw[<-h.len];exact g];exact⟨v,Z,a⟩
  .cases e
 .rw[Uh q]at e⊢
  exact h.tell j c e
noncomputable def gNil:G:=λp R=>U (.nx p,R)
noncomputable def aM(g h:G):G:=λp R=>match g p R with
 |some (.nx δ1,β1)=>h δ1 β1
 |r=>r
def dm(i:Nat)(f:FD):G:=λp R=>match f (vw p) R with
 |some (.ok d,β1)=>U (.nx<|p.set i<|U<|.sh d,β1)
 |some (.error C,β1)=>U (.ex C p,β1)
 |none=>Y
noncomputable def nQ(f:FD):G:=λp R=>match f (hL p) R with
 |some (.ok _,β1)=>U (.nx p,β1)
 |some (.error C,β1)=>U (.ex C p,β1)
 |none=>Y
noncomputable def eS(f:FD):G:=λp R=>match f (hL p) R with
 |some (.ok d,β1)=>U (.rt d,β1)
 |some (.error C,β1)=>U (.ex C p,β1)
 |none=>Y
noncomputable def pq(t:a0s)(g h:G):G:=λp R=>match t (hL p) R with
 |some (.ok O,β1)=>g p β1
 |some (.ok T4,β1)=>h p β1
 |some (.error C,β1)=>U (.ex C p,β1)
 |none=>Y
variable{a:Va}{b:a0R}
theorem bu:PSs X [] (tG X.K X.H₀ gNil E):=uK.imp λD cb H d=>by
 obtain⟨B,T,p,R,o,W,ok,e,h⟩:=d;cases e;exact h cb B H (hY.refl B H) ok
theorem af(i:PS X a<|tG X.K X.H₀ g E)(j:PSs X b<|tG X.K X.H₀ h E):PSs X (a::b) (tG X.K X.H₀ (aM g h) E):=(dj i j).imp λD cb H l=>by
 obtain⟨B,T,p,R,o,W,ok,e,q⟩:=l;unfold aM at e;split at e
 .rename_i δ1 β1 m
  exact⟨B,T,p,R,.nx δ1,β1,ok,m,λt u f5 s d=>⟨u,T,δ1,β1,o,W,d,e,iR.pre s q⟩⟩
 .rename_i r v
  refine⟨B,T,p,R,o,W,ok,e,?_⟩;cases o with
  |nx δ1=>exact UG e<|v δ1 W
  |_=>exact q
theorem ai(d:PS X a<|tG X.K X.H₀ g E):PSs X [a] (tG X.K X.H₀ g E):=mz d
theorem aF{x:U3}{f:FD}(h:PS X (.Assign [.Name x pos'] e pos)<|gr (tV X.K f E)<|d7 i):PS X (.Assign [.Name x pos'] e pos) (tG X.K X.H₀ (dm i f) E):=h.imp λD cb H m=>by
 obtain⟨B,T,p,R,o,W,ok,e,q⟩:=m;refine⟨d_ B T,vw p,R,ok.fr,ok.view,?_⟩;unfold dm at e;split at e
 .rename_i d β1 j
  cases e;refine⟨.ok d,_,j,λv f5 t a=>?_⟩;obtain⟨g,l⟩:=ok.to Z t;exact q _ B f5 l<|g.set a
 .rename_i C β1 j
  cases e;refine⟨.error C,_,j,λf5 t=>?_⟩;obtain⟨g,l⟩:=ok.to Z t;exact q _ B f5 l g
 .cases e
theorem hV{f:FD}(h:PS X (.Expr e pos)<|wA<|tV X.K f E):PS X (.Expr e pos) (tG X.K X.H₀ (nQ f) E):=h.imp λD cb H l=>by
 obtain⟨B,T,p,R,o,W,ok,e,q⟩:=l;refine⟨o1 B T,hL p,R,ok.frA,ok.viewA,?_⟩;unfold nQ at e;split at e
 .rename_i d β1 i
  cases e;refine⟨.ok d,_,i,λv f5 t a=>?_⟩;obtain⟨g,j⟩:=ok.to Z t;exact q _ B f5 j g
 .rename_i C β1 i
  cases e;refine⟨.error C,_,i,λf5 t=>?_⟩;obtain⟨g,j⟩:=ok.to Z t;exact q _ B f5 j g
 .cases e
noncomputable def iE(B:Ow):Ow:=λa=>if B a=U 0\/B a=U 1 then B a else Y
theorem QL{B:Ow}{T:a0t}{H:Hp}:Tr (o1 B T) H (d_ (iE B) T) H:=⟨λa h _ z=>by
 have d:iE B a≠Y:=z;unfold iE at d;split at d
 .rename_i q;exact h q
 .exact d Z,λ_ _ _ h=>h,Z⟩
theorem LV{B:Ow}{H:Hp}:hY B H (iE B) H:=⟨λ_ _ h _=>h,λa h=>by unfold iE;rw[Uf h],λa o h n=>by unfold iE;rw[n];simp,λ_ h=>h⟩
theorem ay{f:FD}(h:PS X (.Return (U e) pos)<|uy<|tV X.K f E):PS X (.Return (U e) pos) (tG X.K X.H₀ (eS f) E):=h.imp λD cb H r=>by
 obtain⟨B,T,p,R,o,W,ok,e,q⟩:=r;refine⟨o1 B T,hL p,R,ok.frA,ok.viewA,?_⟩;unfold eS at e;split at e
 .rename_i d β1 j
  cases e;refine⟨.ok d,_,j,λv f5 t c=>?_⟩;obtain⟨g,m⟩:=ok.to Z t;refine q _ _ f5 (m.trans LV) ⟨λa k=>g.fr.occ a ?_,λb l e=>?_,g.fr.bag⟩<|b5.tr QL _ _ c
  .have i:iE B a≠Y:=k
   show B a≠Y;unfold iE at i;split at i
   .exact i
   .exact UG Z i
  .refine⟨?_,?_,(g.fr.bgA b l e).2.2⟩
   .show iE B b≠Y
    unfold iE;rw[Uf<|.inr (ok.bgt b l e).1,(ok.bgt b l e).1];simp
   .show iE B l≠Y
    unfold iE;rw[Uf<|.inr (ok.bgt b l e).2,(ok.bgt b l e).2];simp
 .rename_i C β1 j
  cases e;refine⟨.error C,_,j,λf5 t=>?_⟩;obtain⟨g,m⟩:=ok.to Z t;exact q _ B f5 m g
 .cases e
theorem bK{c:Expr}{a b:a0R}(l:PT X c<|i_ X.K t E)(k:PSs X a<|tG X.K X.H₀ g E)(m:PSs X b<|tG X.K X.H₀ h E):PS X (.If c a b pos) (tG X.K X.H₀ (pq t g h) E):=(M4 l k m).imp λD cb H r=>by
 obtain⟨B,T,p,R,o,W,ok,e,q⟩:=r;refine⟨o1 B T,hL p,R,ok.frA,ok.viewA,?_⟩;unfold pq at e;split at e
 .rename_i β1 i
  refine⟨.ok O,_,i,λv f5 t f=>?_⟩;subst f;obtain⟨d,j⟩:=ok.to Z t;exact⟨B,T,p,β1,o,W,d,e,iR.pre j q⟩
 .rename_i β1 i
  refine⟨.ok T4,_,i,λv f5 t f=>?_⟩;subst f;obtain⟨d,j⟩:=ok.to Z t;exact⟨B,T,p,β1,o,W,d,e,iR.pre j q⟩
 .rename_i C β1 i
  cases e;refine⟨.error C,_,i,λf5 t=>?_⟩;obtain⟨d,j⟩:=ok.to Z t;exact q _ B f5 j d
 .cases e
abbrev TgS:=D->Ds->Option Ds
abbrev pV:=a0c->Ds->Option Ds
def oh(K:UA)(g:TG)(tg:TgS):Prop:=∀(f:Hp) (B:Ow) (T:a0t) (H:Hp) (p a:Ds) (R:Bg) (cb:St) (d:D) (v:V) (Q:a0H),fw K f B T H p R cb->b5 K (d_ B T) H d v->tg d p=U a->(∀h,fw K f B T H a R h->Q h H)->g v cb H Q
def uk(K:UA)(g:TGs)(tg:pV):Prop:=∀(f:Hp) (B:Ow) (T:a0t) (H:Hp) (p a:Ds) (R:Bg) (cb:St) (b:a0c) (c:a0k) (Q:a0H),fw K f B T H p R cb->bb K (d_ B T) H b c->tg b p=U a->(∀d,fw K f B T H a R d->Q d H)->g c cb H Q
noncomputable def sgN(i:Nat):TgS:=λd p=>U<|p.set i<|U<|.sh d
noncomputable def K7:pV:=λa p=>match a with
 |[]=>U p
 |_=>Y
noncomputable def CI(t:TgS)(u:pV):pV:=λb p=>match b with
 |[]=>Y
 |d::r=>(t d p).bind λa=>u r a
noncomputable def sgT(t:pV):TgS:=λd p=>match d with
 | .tup ds=>t ds p
 |_=>Y
theorem az:oh K (d7 i) (sgN i):=λf B T H p a R cb d v Q b c e k=>by
 cases e;exact k _<|b.set c
theorem dW:uk K L2.gNil K7:=λf B T H p a R cb b x Q c n e k=>by
 cases b with
 |nil=>cases e;exact⟨n,k _ c⟩
 |cons _ _=>cases e
theorem bq(m:oh K t s)(o:uk K u uf):uk K (ED t u) (CI s uf):=λf B T H p a R cb b E Q c n e k=>by
 cases b with
 |nil=>cases e
 |cons d r=>
  obtain⟨x,l,rfl,D,v⟩:=n;have h:(s d p).bind _=U a:=e;cases q:s d p with
  |none=>rw[q]at h;cases h
  |some g=>
   rw[q]at h;exact⟨x,l,Z,m f B T H p g R cb d x _ c D q λi j=>o f B T H g a R i r l Q j v h k⟩
theorem di:∀b p a,K7 b p=U a->b.length=0:=λb p a h=>by
 cases b with
 |nil=>rfl
 |cons _ _=>cases h
theorem bp{n:Nat}(h:∀b p a,u b p=U a->b.length=n):∀b p a,CI t u b p=U a->b.length=n+1:=λb p a e=>by
 cases b with
 |nil=>cases e
 |cons d r=>
  have g:(t d p).bind _=U a:=e;cases q:t d p with
  |none=>rw[q]at g;cases g
  |some i=>rw[q]at g;rw[Ur,h _ _ _ g]
theorem fG{n:Nat}(h:uk K t i)(D:∀c p b,i c p=U b->c.length=n):oh K (Me K n t) (sgT i):=λf B T H p b R cb d v Q E F e k=>by
 cases d<;>first
  |(obtain⟨a,x,rfl,G,g⟩:=b5.sqT F;exact⟨a,x,Z,G,by rw[<-g.length];exact D _ _ _ e,h f B T H p b R cb _ x Q E g e k⟩)
  |cases e
def EF(f:FD)(tg:TgS):G:=λp R=>match f (vw p) R with
 |some (.ok d,β1)=>(tg d p).map λa=>(.nx a,β1)
 |some (.error C,β1)=>U (.ex C p,β1)
 |none=>Y
theorem CP{f:FD}{tg:TgS}(l:oh X.K g tg)(h:PS X (.Assign [s] e pos)<|gr (tV X.K f E) g):PS X (.Assign [s] e pos) (tG X.K X.H₀ (EF f tg) E):=h.imp λD cb H w=>by
 obtain⟨B,T,p,R,o,W,ok,e,q⟩:=w;refine⟨d_ B T,vw p,R,ok.fr,ok.view,?_⟩;unfold EF at e;split at e
 .rename_i d β1 j
  cases a:tg d p with
  |none=>rw[a]at e;cases e
  |some b=>
   rw[a]at e;cases e;refine⟨.ok d,_,j,λv f5 t c=>?_⟩;obtain⟨i,m⟩:=ok.to Z t;exact l _ B T f5 p b _ cb d v _ i c a λr u=>q r B f5 m u
 .rename_i C β1 j
  cases e;refine⟨.error C,_,j,λf5 t=>?_⟩;obtain⟨i,m⟩:=ok.to Z t;exact q _ B f5 m i
 .cases e
def yA(i j:Nat)(f:FL):G:=λp R=>match f (vw p) R with
 |some (.ok [c,d],β1)=>U (.nx<|(p.set i<|U<|.sh c).set j<|U<|.sh d,β1)
 |some (.error C,β1)=>U (.ex C p,β1)
 |_=>Y
theorem Sh{f:FL}(h:PS X a<|Ph i j<|jm X.K f E):PS X a (tG X.K X.H₀ (yA i j f) E):=h.imp λD cb H r=>by
 obtain⟨B,T,p,R,o,W,ok,e,q⟩:=r;refine⟨d_ B T,vw p,R,ok.fr,ok.view,?_⟩;unfold yA at e;split at e
 .rename_i c d β1 l
  cases e;refine⟨.ok [c,d],_,l,λk f5 t b=>?_⟩;obtain⟨g,m⟩:=ok.to Z t;obtain⟨v,w,rfl,u,y⟩:=bb.two b;exact⟨v,w,Z,q _ B f5 m<|(g.set u).set y⟩
 .rename_i C β1 l
  cases e;refine⟨.error C,_,l,λf5 t=>?_⟩;obtain⟨g,m⟩:=ok.to Z t;exact q _ B f5 m g
 .cases e
def EE(i:Nat)(a:a0Z)(f:FD):G:=λp R=>match(vw p).getD i Y with
 |none=>Y
 |some c=>match f (vw p) R with
  |some (.ok d,β1)=>(a c d).map λz=>(.nx<|p.set i<|U<|.sh z,β1)
  |some (.error C,β1)=>U (.ex C p,β1)
  |none=>Y
theorem m3{f:FD}(l:bz X.K s op)(h:PS X a<|Pp i (tV X.K f E) s):PS X a (tG X.K X.H₀ (EE i op f) E):=h.imp λD cb H I=>by
 obtain⟨B,T,p,R,o,W,ok,e,q⟩:=I;unfold EE at e;split at e
 .cases e
 .rename_i c j
  have m:(vw p)[i]?=U (U c):=by
   rw[T6]at j;cases z:(vw p)[i]? with
   |none=>rw[z]at j;cases j
   |some w=>rw[z]at j;simp at j;rw[j]
  obtain⟨v,J,L⟩:=ok.view.tell i c m;refine⟨v,J,d_ B T,vw p,R,ok.fr,ok.view,?_⟩;split at e
  .rename_i d β1 r
   cases b:op c d with
   |none=>rw[b]at e;cases e
   |some z=>
    rw[b]at e;cases e;refine⟨.ok d,_,r,λw f5 t k=>?_⟩;obtain⟨g,y⟩:=ok.to Z t;refine l _ f5 W _ c d z v w t.fr (b5.tr (t.tr ok.fr) _ _ L) k b λu N ek P=>?_;obtain⟨A,Q⟩:=g.to Z ek;exact q _ B N (y.trans Q)<|A.set P
  .rename_i C β1 r
   cases e;refine⟨.error C,_,r,λf5 t=>?_⟩;obtain⟨g,y⟩:=ok.to Z t;exact q _ B f5 y g
  .cases e
theorem hY.tr{B d:Ow}{H f5:Hp}{T:a0t}(s:hY B H d f5):Tr (d_ B T) H (d_ d T) f5:=
 ⟨λa h b z=>by
  have c:B a=Y:=by
   cases q:B a with
   |none=>rfl
   |some t=>exact UG (show B a≠Y by rw[q];simp) h
  cases q:H a with
  |none=>exact b q
  |some o=>exact z<|s.nn a o q c,λa o h e=>s.kp a o e<|.inl (by
  cases q:B a with
  |none=>rfl
  |some t=>exact UG (show B a≠Y by rw[q];simp) h),Z⟩
def bY(t:a0s)(g:G):Nat->G
 |0,_,_=>Y
 |n+1,p,R=>match t (hL p) R with
  |some (.ok O,β1)=>match g p β1 with
   |some (.nx δ1,β2)=>bY t g n δ1 β2
   |some (.ct δ1,β2)=>bY t g n δ1 β2
   |some (.bk δ1,β2)=>U (.nx δ1,β2)
   |r=>r
  |some (.ok T4,β1)=>U (.nx p,β1)
  |some (.error C,β1)=>U (.ex C p,β1)
  |none=>Y
theorem pG:∀{n:Nat} {p:Ds} {R:Bg} {r:s_×Bg},bY t g n p R=U r->bY t g (n+1) p R=U r
 |0,_,_,_,h=>by cases h
 |n+1,p,R,r,h=>by
  have e:∀m,bY t g (m+1) p R=match t _ R with
    |some (.ok O,a)=>match g p a with
     |some (.nx δ1,c)=>bY t g m δ1 c
     |some (.ct δ1,c)=>bY t g m δ1 c
     |some (.bk δ1,c)=>U _
     |r=>r
    |some (.ok T4,a)=>U _
    |some (.error C,a)=>U _
    |none=>Y:=λm=>Z
  rw[e]at h⊢;cases q:t _ R with
  |none=>rw[q]at h;cases h
  |some z=>
   obtain⟨b,a⟩:=z;rw[q]at h;cases b with
   |error C=>exact h
   |ok b=>
    cases b with
    |false=>exact h
    |true=>
     dsimp only at h⊢
     cases f:g p a with
     |none=>rw[f]at h;cases h
     |some y=>
      obtain⟨o,c⟩:=y;rw[f]at h;cases o with
      |nx δ1=>exact pG h
      |ct δ1=>exact pG h
      |bk δ1=>exact h
      |rt d=>exact h
      |rg d=>exact h
      |ex C δ1=>exact h
theorem lE{n m:Nat}{p:Ds}{R:Bg}(h:bY t g n p R=U r)(l:n<=m):bY t g m p R=U r:=by
 induction m with
 |zero=>
  obtain rfl:n=0:=by lia
  exact h
 |succ m a=>
  by_cases q:n=m+1
  .subst q;exact h
  .exact pG (a rk)
end
open Classical in
def gWh(t:a0s)(g:G):G:=λD E=>if h:∃r n,bY t g n D E=U r then U h.choose else Y
theorem JX(h:bY t g n c d=U r):gWh t g c d=U r:=by
 have D:∃r n,bY t g n c d=U r:=⟨r,n,h⟩;unfold gWh;rw[dif_pos D];obtain⟨m,E⟩:=D.choose_spec;have a:=lE E<|Nat.le_max_right n m;rw[lE h<|Nat.le_max_left n m]at a;rw[<-UR a]
theorem OT(h:gWh t g a b=U r):∃n,bY t g n a b=U r:=by
 unfold gWh at h;split at h
 .rename_i hx
  obtain⟨m,D⟩:=hx.choose_spec;cases h;exact⟨m,D⟩
 .cases h
section
variable{X:Cx}{E:a0u}{e:Expr}{st:Va}{j:a0R}{pos:Xp}{K:UA}
theorem zy(T:PassesOwn (UP X.prog X.w) X.A X.env X.xe)(cb:PT X c<|i_ X.K t E)(W:PSs X body<|tG X.K X.H₀ g E):PS X (.While c body [] pos) (tG X.K X.H₀ (gWh t g) E):=(Li T cb W).imp λD σ H ek=>by
 obtain⟨B,V,δ,β,o,l,ok,e,q⟩:=ek;obtain⟨n,e⟩:=OT e;refine⟨λm u P=>∃j M S,hY B H j P/\fw _ _ j V P M S u/\bY t g m M S=U _,⟨n,B,δ,β,hY.refl B H,ok,e⟩,?_⟩;rintro m u P ⟨j,M,S,r,h,f⟩;refine⟨o1 j V,hL M,S,h.frA,h.viewA,?_⟩;cases m with
 |zero=>cases f
 |succ m=>
  unfold bY at f;split at f
  .rename_i β2 y
   refine⟨.ok O,_,y,λv N s hd=>?_⟩;subst hd;obtain⟨b,k⟩:=h.to Z s;refine⟨λF Q=>∃eH a G,hY B H eH Q/\fw _ _ eH V Q a G F/\bY t g m a G=U _,λF Q ⟨eH,a,G,z⟩=>⟨m,Yd m,eH,a,G,z⟩,?_⟩;split at f
   .rename_i a G I
    exact⟨j,V,M,β2,.nx a,G,b,I,λp J R L i=>⟨J,a,G,r.trans<|k.trans L,i,f⟩⟩
   .rename_i a G I
    exact⟨j,V,M,β2,.ct a,G,b,I,λp J R L i=>⟨J,a,G,r.trans<|k.trans L,i,f⟩⟩
   .rename_i a G I
    cases f;exact⟨j,V,M,β2,.bk a,_,b,I,λp J R L i=>q p J R (r.trans<|k.trans L) i⟩
   .rename_i x f5 h2 h3
    refine⟨j,V,M,β2,o,l,b,f,?_⟩;have q2:=iR.pre (r.trans k) q;cases o with
    |nx a=>exact UG f<|f5 _ _
    |ct a=>exact UG f<|h2 _ _
    |bk a=>exact UG f<|h3 _ _
    |rt d=>exact q2
    |rg d=>exact q2
    |ex C a=>exact q2
  .rename_i β2 y
   cases f;refine⟨.ok T4,_,y,λv N s hd=>?_⟩;subst hd;obtain⟨b,k⟩:=h.to Z s;exact q _ j N (r.trans k) b
  .rename_i C β2 y
   cases f;refine⟨.error C,_,y,λN s=>?_⟩;obtain⟨b,k⟩:=h.to Z s;exact q _ j N (r.trans k) b
  .cases f
noncomputable def ry(e:TgS)(g:G):a0c->G
 |[],δ,β=>U (.nx δ,β)
 |d::ds,δ,β=>match e d δ with
  |none=>Y
  |some j=>match g j β with
   |some (.nx δ2,β2)=>ry e g ds δ2 β2
   |some (.ct δ2,β2)=>ry e g ds δ2 β2
   |some (.bk δ2,β2)=>U (.nx δ2,β2)
   |r=>r
def qD(j:Ds->M a0c)(D:TgS)(g:G):G:=λe E=>match j e E with
 |some (.ok ds,β1)=>ry D g ds e β1
 |some (.error C,β1)=>U (.ex C e,β1)
 |none=>Y
abbrev Mg(e:FL):TgS->G->G:=qD λj=>e<|vw j
theorem GV(hw:∀{B s H δ β Q R},fw X.K X.H₀ B s H δ β Q->run (λek (M:a0c) (J:It)=>B6 X.K J (d_ B s) ek M) (d_ B s) E Q (it δ) H R β->wi Q H R)(l:oh X.K tgg tg)(h:PS X (.For tgt z body [] pos)<|CB wi tgg<|tG X.K X.H₀ g E):PS X (.For tgt z body [] pos) (tG X.K X.H₀ (qD it tg g) E):=h.imp λD Q H h_=>by
 obtain⟨B,s,δ,β,o,y,ok,e,q⟩:=h_;apply hw ok;unfold qD at e;split at e
 .rename_i M β1 f5
  refine⟨.ok M,_,f5,λJ S t hJ=>?_⟩;obtain⟨V,s1⟩:=ok.to Z t;refine⟨λi m n F=>m+i=M.length/\∃k p G,hY B S k F/\fw _ _ k s F p G n/\ry tg g (M.drop i) p G=U _,⟨M.length,rk,B,δ,β1,hY.refl B S,V,e⟩,?_⟩;rintro i m n F ⟨hm,k,p,G,I,c,b⟩;obtain⟨iy,is⟩:=hJ _ F G I.tr c.fr i;cases T:M[i]? with
  |none=>
   have cb:=Zz.mp T;rw[WQ cb]at b;cases b;exact .inl ⟨is rk,q n k F (s1.trans I) c⟩
  |some d=>
   have cb:=(Ui.mp T).1;obtain⟨go,yl⟩:=iy d T;have ed:M.drop i=d::M.drop (i+1):=by
    rw[VH cb];congr 1;exact UR<|(Ua cb).symm.trans T
   rw[ed]at b;unfold ry at b;split at b
   .cases b
   .rename_i f e3
    refine .inr ⟨go,λL H9=>∃W r u,hY B S W H9/\fw _ _ W s H9 r u L/\ry tg g _ r u=U _,λL H9 ⟨W,r,u,z1,z2,z3⟩=>⟨m-1,rk,rk,W,r,u,z1,z2,z3⟩,λx H3 hy=>?_⟩;obtain⟨sm,dx⟩:=yl x H3 hy;obtain⟨aa,s3⟩:=c.to Z<|c.fr.same sm;refine l _ k s H3 p f G n d x _ aa dx e3 λab v=>?_;have w:=I.trans s3;split at b
    .rename_i a β5 N
     exact⟨k,s,f,G,.nx a,β5,v,N,λA eH H6 P j=>⟨eH,a,β5,w.trans P,j,b⟩⟩
    .rename_i a β5 N
     exact⟨k,s,f,G,.ct a,β5,v,N,λA eH H6 P j=>⟨eH,a,β5,w.trans P,j,b⟩⟩
    .rename_i a β5 N
     cases b;exact⟨k,s,f,G,.bk a,_,v,N,λA eH H6 P j=>q A eH H6 (s1.trans<|w.trans P) j⟩
    .rename_i x h1 h2 h3
     refine⟨k,s,f,G,o,y,v,b,?_⟩;have q2:=iR.pre (s1.trans w) q;cases o with
     |nx a=>exact UG b<|h1 _ _
     |ct a=>exact UG b<|h2 _ _
     |bk a=>exact UG b<|h3 _ _
     |rt d=>exact q2
     |rg d=>exact q2
     |ex C a=>exact q2
 .rename_i C β1 f5
  cases e;refine⟨.error C,_,f5,λek t=>?_⟩;obtain⟨c,I⟩:=ok.to Z t;exact q _ B ek I c
 .cases e
theorem br(l:oh X.K b d)(h:PS X (.For c a body [] pos)<|CB (iV X.K f E) b<|tG X.K X.H₀ g E):PS X (.For c a body [] pos) (tG X.K X.H₀ (Mg f d g) E):=GV (λe r=>⟨_,_,_,e.fr,e.view,r⟩) l h
theorem fw.claim{E:Ds}{A:St}(S:T8->Prop)(D:fw K H₀ B x H E Q A)(t:To (d_ B x) H H' R)(g:∀c,S c->H c=Y/\D2 H' c)(V:∀{r:Ow},(∀c,S c->r c=U (i+2))->(∀c,r c≠Y->B c≠Y\/S c)->Tr (d_ B x) H (d_ r x) H'->pY K r x H' i P v):
  ∃C,fw K H₀ C x H' (E.set i<|U P) R (A.set i<|U v)/\hY B H C H':=by
 classical
 obtain⟨a,F⟩:=D.to Z t;have m:∀c n,B c=U n->¬S c:=λc n e z=>by rw[(λc f=>WY λz=>D.fr.occ c z (g c f).1) c z]at e;cases e
 have p:hY B H (λc=>if S c then U (i+2)else B c) H':=⟨F.kp,λc f=>Uh<|f.elim (m c 0)<|m c 1,λc o h n=>(Uh λz=>by rw[(g c z).1]at h;cases h).trans n,F.al⟩;have G:Tr (d_ B x) H _ H':=p.tr;have u:∀b l,x=U _->(if S b then U (i+2)else B b)=U 1/\(if S l then U (i+2)else B l)=U 1:=λb l e=>by
  obtain⟨M,I⟩:=D.bgt b l e;exact⟨(Uh<|m b 1 M).trans M,(Uh<|m l 1 I).trans I⟩
 refine⟨λc=>if S c then U (i+2)else B c,⟨⟨λc f z=>?_,λb l e=>⟨λz=>(by cases z.symm.trans (u b l e).1),λz=>(by cases z.symm.trans (u b l e).2),(D.fr.bgA b l e).2.2⟩,a.fr.bag⟩,u,by rw[VL,VL,D.len],a.cov,λc k f=>?_,λc k f=>?_,λj s e=>?_⟩,p⟩
 .by_cases q:S c
  .rcases(g c q).2 with⟨_,w⟩|⟨_,w⟩<;>(rw[w]at z;cases z)
  .exact a.fr.occ c (λy=>f<|(Uh q).trans y) z
 .by_cases z:S c
  .cases w:H₀ c with
   |none=>rfl
   |some o=>exact UG (g c z).1 (D.cov c<|by rw[w];simp)
  .exact D.new c k ((Uh z).symm.trans f)
 .by_cases z:S c
  .exact(g c z).2
  .exact a.lst c k ((Uh z).symm.trans f)
 .rw[V2]at e⊢
  by_cases q:i=j
  .subst q
   rw[Uf Z]at e⊢;split at e
   .rename_i J
    cases e;rw[Uf<|by rw[<-D.len];exact J];exact⟨_,Z,V (λc z=>Uf z) (λc z=>WY λy=>z<|(Uh λw=>y<|.inr w).trans<|WY λw=>y<|.inl w) G⟩
   .cases e
  .rw[Uh q]at e⊢
   obtain⟨w,L,N⟩:=D.tell j s e;exact⟨w,L,N.tr G λc d=>⟨(Uh<|m c _ d).trans d,λo h=>t.kp c o h λb l z=>⟨λy=>(by subst y;rw[(D.bgt _ _ z).1]at d;cases d),λy=>(by subst y;rw[(D.bgt _ _ z).2]at d;cases d)⟩⟩⟩
theorem fw.newAt{e:Ds}{b:St}(j:fw K H₀ B k H e l b)(d:H p=Y)(g:D2 (upd H p u) p)(D:∀{a:Ow},a p=U (i+2)->Tr (d_ B k) H (d_ a k) (upd H p u)->pY K a k (upd H p u) i sl (.ref p)):
  ∃f,fw K H₀ f k (upd H p u) (e.set i<|U sl) l (b.set i<|U<|.ref p)/\hY B H f (upd H p u):=j.claim _ (j.fr.upd u d) (λc z=>by cases z;exact⟨d,g⟩) λh _ E=>D (h p Z) E
theorem fw.writeAt{E:Ds}(D:fw K H₀ B w H E A x)(M:x[i]?=U (U<|.ref a))(hB:B a=U (i+2))(p:D2 (upd H a u) a)(S:Tr (d_ B w) H (d_ B w) (upd H a u)->pY K B w (upd H a u) i sl (.ref a)):
  fw K H₀ B w (upd H a u) (E.set i<|U sl) A x/\hY B H B (upd H a u):=by
 have f:hY B H B (upd H a u):=by
  refine⟨λc o h n=>?_,λ_ _=>Z,λ_ _ _ n=>n,λc g=>?_⟩
  .rw[bt]
   .exact h
   .intro z;subst z;rw[hB]at n;rcases n with n|n<;>cases n
  .by_cases z:c=a
   .subst z;rw[aw];simp
   .rw[bt z];exact g
 have G:Tr _ H (d_ B w) _:=f.tr;refine⟨⟨⟨λc g z=>?_,D.fr.bgA,λb l e=>?_⟩,D.bgt,by rw[VL,D.len],λa V=>f.al a<|D.cov a V,D.new,λc k g=>(by
  by_cases z:c=a
  .subst z;exact p
  .exact(D.lst c k g).imp λo y=>by rw[bt z];exact y),λj s e=>?_⟩,f⟩
 .by_cases q:c=a
  .subst q;rw[aw]at z;cases z
  .rw[bt q]at z;exact D.fr.occ c g z
 .obtain⟨b1,m⟩:=D.bgt b l e
  rw[bt (λz=>by subst z;rw[hB]at b1;cases b1),bt (λz=>by subst z;rw[hB]at m;cases m)];exact D.fr.bag b l e
 .rw[V2]at e
  by_cases q:i=j
  .subst q
   rw[Uf Z]at e;split at e
   .cases e
    exact⟨_,M,S G⟩
   .cases e
  .rw[Uh q]at e
   obtain⟨v,r,t⟩:=D.tell j s e;exact⟨v,r,t.tr G λc d=>⟨d,λo z=>(bt λy=>by subst y;rw[hB]at d;cases d;exact q Z).trans z⟩⟩
theorem fw.newOwn{j:Ds}{a:St}(D:fw K H₀ B f H j g a)(c:H p=Y)(E:bb K (d_ B f) H h d):
  ∃b,fw K H₀ b f (upd H p<|.lst d) (j.set i<|U<|.own h) g (a.set i<|U<|.ref p)/\hY B H b (upd H p<|.lst d):=D.newAt c (.inl ⟨d,aw⟩) λe t=>⟨p,d,Z,e,aw,bb.tr t _ _ E⟩
theorem fw.writeOwn{e:Ds}(j:fw K H₀ B b H e d c)(D:c[i]?=U (U<|.ref a))(hB:B a=U (i+2))(G:H a=U (.lst f))(E:bb K (d_ B b) H ds xs):
  fw K H₀ B b (upd H a<|.lst xs) (e.set i<|U<|.own ds) d c/\hY B H B (upd H a<|.lst xs):=j.writeAt D hB (.inl ⟨xs,aw⟩) λt=>⟨a,xs,Z,hB,aw,bb.tr t _ _ E⟩
def EC(i:Nat)(f:FL):G:=λe j=>match f (vw e) j with
 |some (.ok ds,β1)=>if ds.length<=UC then U (.nx<|e.set i<|U<|.own ds,β1)else Y
 |some (.error C,β1)=>U (.ex C e,β1)
 |none=>Y
theorem kQ(h:PS X st<|gr (Pk<|jm X.K f E)<|d7 i):PS X st (tG X.K X.H₀ (EC i f) E):=h.imp λD r H j=>by
 obtain⟨B,M,S,V,o,k,ok,e,q⟩:=j;refine⟨d_ B M,vw S,V,ok.fr,ok.view,?_⟩;unfold EC at e;split at e
 .rename_i ds β1 b
  split at e
  .rename_i l
   cases e;refine⟨.ok ds,_,b,λs g t G=>⟨by rw[<-G.length];exact l,λp m=>?_⟩⟩;obtain⟨a,c⟩:=ok.to Z t;obtain⟨u,d,n⟩:=a.newOwn m G;exact q _ _ _ (c.trans n) d
  .cases e
 .rename_i C β1 b
  cases e;refine⟨.error C,_,b,λg t=>?_⟩;obtain⟨a,c⟩:=ok.to Z t;exact q _ B g c a
 .cases e
def EG(i:Nat)(f:FL):G:=λe j=>match e.getD i Y with
 |some (.own cs)=>match f (vw e) j with
  |some (.ok [d],β1)=>if cs.length<UC then U (.nx<|e.set i<|U<|.own<|cs++[d],β1)else Y
  |some (.error C,β1)=>U (.ex C e,β1)
  |_=>Y
 |_=>Y
theorem getD_some{j:Type}{e:List (Option j)}{i:Nat}{s:j}(h:e.getD i Y=U s):e[i]?=U (U s):=by
 rw[T6]at h;cases z:e[i]? with
 |none=>rw[z]at h;cases h
 |some w=>rw[z]at h;simp at h;rw[h]
theorem kU(h:PS X st<|wA<|tBM X.K "list" zI (lM i)<|jm X.K f E):PS X st (tG X.K X.H₀ (EG i f) E):=h.imp λD P H y=>by
 obtain⟨B,G,M,S,o,A,ok,e,q⟩:=y;unfold EG at e;split at e
 .rename_i cs u
  obtain⟨v,l,a,V,rfl,F,I,Q⟩:=ok.tell i _<|getD_some u;refine⟨_,l,.inl ⟨Z,V,fy.of I⟩,d_ B G,vw M,S,ok.fr,ok.view,?_⟩;split at e
  .rename_i d β1 m
   split at e
   .rename_i J
    cases e;refine⟨.ok [d],_,m,λx w t s=>?_⟩;obtain⟨b,n⟩:=ok.to Z t;obtain⟨v,rfl,L⟩:=bb.one s;obtain⟨R,c,T,g,p,N,j,k⟩:=b.tell i _<|getD_some u;rw[l]at c;cases c;cases p;refine⟨a,g,v,Z,Z,j,by rw[<-k.length];exact J,?_⟩;obtain⟨r,W⟩:=b.writeOwn l F j<|bb.append k<|bb.cons L bb.nil;exact q _ _ _ (n.trans W) r
   .cases e
  .rename_i C β1 m
   cases e;refine⟨.error C,_,m,λw t=>?_⟩;obtain⟨b,n⟩:=ok.to Z t;exact q _ B w n b
  .cases e
 .cases e
noncomputable def fz(i:Nat)(e:Ds):Ds:=match e.getD i Y with
 |some (.own ds)=>e.set i<|U<|.sh<|.lst ds
 |some (.grd ba)=>e.set i<|U<|.sh<|.lst<|ba.map D.lst
 |some (.odc b ks vs)=>e.set i<|U<|.sh<|.dct b ks vs
 |_=>e
theorem fw.letGo{E:Ds}(S:T8->Prop)(D:fw K H₀ B x H E J I)(r:∀c,S c->B c=U (i+2))(A:I[i]?=U (U v))(X:∀{g:Ow},(∀c,S c->g c=Y)->(∀c,¬S c->g c=B c)->Tr (d_ B x) H (d_ g x) H->pY K g x H i L v):∃t,fw K H₀ t x H (E.set i<|U L) J I/\hY B H t H:=by
 classical
 have G:∀c n,(if S c then Y else B c)=U n->B c=U n:=λc n e=>by
  by_cases z:S c
  .rw[Uf z]at e;cases e
  .exact(Uh z).symm.trans e
 have u:∀c,B c=Y->(if S c then Y else B c)=Y:=λc e=>by rw[e];exact ite_self _
 have m:∀c,B c=U 0\/B c=U 1->¬S c:=λc h z=>by rw[r c z]at h;rcases h with h|h<;>cases h
 have f:hY B H _ H:=⟨λ_ _ h _=>h,λc a=>Uh<|m c a,λc o h n=>u c n,λ_ h=>h⟩;have M:Tr (d_ B x) H _ H:=f.tr;have p:∀b l,x=U _->(if S b then Y else B b)=U 1/\(if S l then Y else B l)=U 1:=λb l e=>by
  obtain⟨V,y⟩:=D.bgt b l e;exact⟨(Uh<|m b<|.inr V).trans V,(Uh<|m l<|.inr y).trans y⟩
 refine⟨λc=>if S c then Y else B c,⟨⟨λc a=>D.fr.occ c λz=>a<|u c z,λb l e=>⟨λz=>(by cases z.symm.trans (p b l e).1),λz=>(by cases z.symm.trans (p b l e).2),(D.fr.bgA b l e).2.2⟩,D.fr.bag⟩,p,by rw[VL,D.len],D.cov,λc k a=>D.new c k<|G c _ a,λc k a=>D.lst c k<|G c _ a,λj s e=>?_⟩,f⟩;rw[V2]at e;by_cases q:i=j
 .subst q
  rw[Uf Z]at e;split at e
  .cases e
   exact⟨v,A,X (λc z=>Uf z) (λc z=>Uh z) M⟩
  .cases e
 .rw[Uh q]at e
  obtain⟨w,C,F⟩:=D.tell j s e;exact⟨w,C,F.tr M λc d=>⟨(Uh λz=>by rw[r c z]at d;cases d;exact q Z).trans d,λ_ z=>z⟩⟩
theorem fw.freeze(i:Nat)(e:fw K H₀ B s H w y A):∃n,fw K H₀ n s H (fz i w) y A/\hY B H n H:=by
 unfold fz;split
 .rename_i ds d
  obtain⟨v,f,a,E,g,h,j,k⟩:=e.tell i _<|getD_some d;exact e.letGo (·=a) (λc z=>z▸h) f λb _ D=>⟨a,E,g,⟨λz=>z<|b a Z,.inl j⟩,bb.tr D _ _ k⟩
 .rename_i ba d
  obtain⟨v,f,a,G,g,h,j,V,o⟩:=e.tell i _<|getD_some d;exact e.letGo (λc=>c=a\/c∈G) (λc z=>z.elim (·▸h) λz=>(o.all c z).1) f λb _ D=>⟨a,_,g,⟨λz=>z<|b a<|.inl Z,.inl j⟩,bE.den D o λr p _ z=>z<|b r<|.inr p⟩
 .rename_i q l m d
  obtain⟨v,f,a,g,h,M,E,j,k,t,u⟩:=e.tell i _<|getD_some d;exact e.letGo (·=a) (λc z=>z▸h) f λb _ D=>by
   show b5 _ _ _ _ _;exact⟨a,M,E,g,⟨λz=>z<|b a Z,j⟩,k,λx S=>(t x S).tr D,bb.tr D _ _ u⟩
 .exact⟨B,e,hY.refl B H⟩
noncomputable def fzG(i:Nat)(g:G):G:=λe j=>g (fz i e) j
theorem Lc(i:Nat)(h:PSs X j<|tG X.K X.H₀ g E):PSs X j (tG X.K X.H₀ (fzG i g) E):=h.imp λD f H c=>by
 obtain⟨B,G,M,S,o,a,ok,e,q⟩:=c;obtain⟨d,b,s⟩:=ok.freeze i;exact⟨d,G,fz i M,S,o,a,b,e,iR.pre s q⟩
noncomputable def ll(n:Nat)(ds:a0c):Ds:=ds.map (λd=>U<|Sl.sh d)++UL (n-ds.length) Y
def fV(n:Nat)(g:G):a0c->M D:=λe j=>match g (ll n e) j with
 |some (.rt d,β')=>U (.ok d,β')
 |some (.nx _,β')=>U (.ok .non,β')
 |some (.ex C _,β')=>U (.error C,β')
 |_=>Y
theorem sy{F:Fx}{N:a0i}(fr:Fr F H x)(E:bb K F H w y):∃B,fw K H B F.bg H (ll N.length w) x (gJ N y)/\(∀a,F.A a->B a=U 0\/B a=U 1)/\(∀a,B a=U 1->∃b l,F.bg=U (b,l)/\(a=b\/a=l))/\(∀a,B a≠Y->F.A a):=by
 classical
 refine⟨λa=>if F.A a then(if ∃b l,F.bg=U (b,l)/\(a=b\/a=l)then U 1 else U 0)else Y,⟨⟨λa D=>fr.occ a ?_,λb l e=>?_,fr.bag⟩,λb l e=>?_,?_,λ_ h=>h,λc k m=>(by
  have f:=m;split at f
  .split at f<;>cases f
  .cases f),λc k m=>(by
  have f:=m;split at f
  .split at f<;>cases f
  .cases f),λi s e=>?_⟩,λa D=>?_,λa D=>?_,λa D=>?_⟩
 .have g:(if F.A a then(if ∃b l,F.bg=U _/\(a=b\/a=l)then U 1 else U 0)else Y)≠(Y:a0L):=D
  split at g
  .assumption
  .exact UG Z g
 .obtain⟨a1,a2,a3⟩:=fr.bgA b l e
  refine⟨?_,?_,a3⟩
  .show(if F.A b then(if ∃j l,F.bg=U _/\(b=j\/b=l)then U 1 else U 0)else Y)≠(Y:a0L)
   rw[Uf a1];split<;>simp
  .show(if F.A l then(if ∃j p,F.bg=U _/\(l=j\/l=p)then U 1 else U 0)else Y)≠(Y:a0L)
   rw[Uf a2];split<;>simp
 .obtain⟨a1,a2,a3⟩:=fr.bgA b l e
  exact⟨by rw[Uf a1,Uf ⟨b,l,e,.inl Z⟩],by rw[Uf a2,Uf ⟨b,l,e,.inr Z⟩]⟩
 .unfold ll gJ
  rw[Uv,Uv,TX,TX,V9,V9,E.length]
 .unfold ll at e
  unfold gJ;rw[List.getElem?_append,TX]at e;rw[List.getElem?_append,TX,<-E.length];by_cases n:i<w.length
  .rw[Uf n,T9]at e
   rw[Uf n,T9];cases z:w[i]? with
   |none=>rw[z]at e;cases e
   |some d=>
    rw[z]at e;cases e;obtain⟨v,r,t⟩:=E.get z;refine⟨v,by rw[r];rfl,?_⟩;have o:Tr F H (d_ (λa=>if F.A a then(if ∃b l,F.bg=U (b,l)/\(a=b\/a=l)then U 1 else U 0)else Y) F.bg) H:=by
     refine⟨λa D _ u=>?_,λ_ _ _ h=>h,Z⟩;have q:(if F.A a then(if ∃b l,F.bg=U _/\(a=b\/a=l)then U 1 else U 0)else Y)≠(Y:a0L):=u;rw[Uh D]at q;exact q Z
    exact b5.tr o _ _ t
  .rw[Uh n,WG]at e
   split at e<;>cases e
 .simp only[Uf D]
  split
  .exact .inr Z
  .exact .inl Z
 .simp only at D
  split at D
  .split at D
   .assumption
   .cases D
  .cases D
 .simp only at D
  split at D
  .assumption
  .exact UG Z D
variable{P:UT}{w:UY}{mg:a0j}{X:Vl}
theorem OV{st:Va}{N M:a0i}(F:g8 K x qual st f fd)(S:bi N M<|ag st)
  (y:∀(j:Uc) (A:Vn) (D:List Env) (s:Uj) (H:Hp) (E:XK),d4 k (A.deeper<|Yw qual (ag st) s.heap.objs.size f j)->
   PSs (f9 (hO P w) P w K mg X N qual (ag st) f j A D s H E) (cK st) (tG K H g (λ_=>E))):e_ P w K mg X (hO P w) (k+1) f fd M (P_ K M.length<|fV N.length g):=by
 refine F.okE S (λvs H Q E h=>h.1) λj A D s H vs Q E ek h=>?_;obtain⟨hl,p,V,β,fr,hd,r,i,e,h⟩:=h;refine⟨_,y j A D s H E ek,?_⟩;obtain⟨B,ok,T,f5,hn⟩:=sy fr hd;have I:∀{u:Ow} {c:Hp},hY B H u c->Fr (d_ u _) c i->To p H c i/\Tr (d_ u _) c p c:=λ{u c} s m=>by
  have hs:∀a,p.A a->u a≠Y:=λa G=>by
   rw[s.tg a<|T a G];rcases T a G with z|z<;>rw[z]<;>simp
  refine⟨⟨λa o G n=>s.kp a o G ?_,λa G=>m.occ a<|hs a G,λb l e=>fr.bgA b l e,m.bag⟩,λa G _ z=>G<|hs a z,λ_ _ _ h=>h,Z⟩;cases q:B a with
  |none=>exact .inl Z
  |some t=>
   have:=T a (hn a<|by rw[q];simp);obtain z|z:=this
   .rw[q]at z;exact .inr z
   .obtain⟨b,l,e,w⟩:=f5 a z
    obtain⟨n1,n2⟩:=n b l e;obtain w|w:=w
    .exact UG w n1
    .exact UG w n2
 unfold fV at e;split at e
 .rename_i d β1 eH
  cases e;refine⟨B,p.bg,ll _ V,β,.rt d,i,ok,eH,λv u c s m hv=>?_⟩;obtain⟨R,cb⟩:=I s m;exact h v c R<|b5.tr cb _ _ hv
 .rename_i J β1 eH
  cases e;refine⟨B,p.bg,ll _ V,β,.nx J,i,ok,eH,λW u c s L=>?_⟩;obtain⟨R,cb⟩:=I s L.fr;exact h _ c R Z
 .rename_i C J β1 eH
  cases e;refine⟨B,p.bg,ll _ V,β,.ex C J,i,ok,eH,λW u c s L=>?_⟩;obtain⟨R,cb⟩:=I s L.fr;exact h c R
 .cases e
variable{q:UT}{A:Vn}
theorem TK(g:A.handled=Y)(G t:T8)(S:t≠G)(D:a0E):Draws q w A G [G,t] D.size (λi v=>D[i]?=U v) (λi h=>h.IsTupleIter G t i/\h.IsTuple t D) where
 live:=λ_ _ st=>let ⟨o,e,_⟩:=st.1;⟨o,e⟩
 frame:=λ_ _ _ st k=>⟨st.1.at λo e=>k G (by exact .head _) o e,by
  obtain⟨o,e,r⟩:=st.2;exact⟨o,k t nl o e,r⟩⟩
 item:=λi s Q E l st n=>by
  obtain⟨o,c,M,b⟩:=id st.1;obtain⟨j,d,_,P,f⟩:=st.2;have K:D[i]?=U D[i]:=by simp
  unfold We;refine My<|wpAny_callSpecial?_slot st.1.typeIs Yb<|U2 Yb st.1.typeIs F.entry_tuple_iterator_next ?_<|F.args_tuple_iterator_next_1 _;show Us _ _ (field _ 0>>=_) _ _ _;refine My<|VI c b Z ?_;show Us _ _ (if(UE t==U4)=O then _ else _) _ _ _;refine My<|VI c b Z ?_;refine My<|Wg d f ?_;simp only[VA,K];refine My<|Xx c b nl<|TZ ⟨D[i],Z,TZ<|n _ _ _ K ⟨?_,?_⟩<|VO ..⟩
  .exact⟨_,W2 _ c<|YR<|V3 b _,(ZN ..).trans M,by rw[V3 b];simp[XO]⟩
  .exact⟨j,(VO ..).extBut _ _ S d,by assumption,P,f⟩
 done:=λs Q E st p=>by
  obtain⟨o,c,M,b⟩:=id st.1;obtain⟨j,d,_,P,f⟩:=st.2;have K:D[D.size]?=Y:=by simp
  unfold We;refine My<|wpAny_callSpecial?_slot st.1.typeIs Yb<|U2 Yb st.1.typeIs F.entry_tuple_iterator_next ?_<|F.args_tuple_iterator_next_1 _;show Us _ _ (field _ 0>>=_) _ _ _;refine My<|VI c b Z ?_;show Us _ _ (if(UE t==U4)=O then _ else _) _ _ _;refine My<|VI c b Z ?_;refine My<|Wg d f ?_;simp only[VA,K];refine My<|Xm<|My<|Xx c b nl ?_;apply My;refine My (U1 ?_<|by size_fits);refine My<|XI (by first|rfl|(simp only;rfl))<|U1 ?_ (by size_fits)
  simp only;refine My<|wpAny_handled ?_
  first|rw[show A.in1.handled=Y from g]|rw[g];skip
  exact My<|TZ<|wpAny_throw<|p _ _ (((VO ..).extBut.push _).push _) ⟨_,Ut _ Z,Z⟩
structure Ap (z TI TO i1 i2:T8) (f1 f2:a0r):Prop where
 a1:TI≠z
 a2:TO≠z
 a3:i1≠z
 a4:i2≠z
 a5:TI≠TO
 a6:TI≠i1
 a7:TI≠i2
 a8:TO≠i1
 a9:TO≠i2
 b1:i1≠i2
 c1:z∉f1
 c2:TO∉f1
 c3:i2∉f1
 d1:z∉f2
 d2:TO∉f2
 d3:i1∉f2
 m1:i1∈f1
 m2:i2∈f2
end
section
variable{prog:UT}{w:UY}{A:Vn}{E:a0f}{s:Uj}
theorem cU{s:T8}{f:a0r}{h w:Vl}(a:UU s h w)(n:s∉f):∀b∈f,∀o,h.get? b=U o->w.get? b=U o:=λb c o e=>a.extBut b o (λq=>n<|q▸c) e
theorem FC{z TI TO r t:T8}{f1 f2:a0r}{u B k:Nat}{P1 P2:Nat->Uc->Prop}{W X:Nat->Vl->Prop}{a b:Uc}{Q:a0f}(L:Draws prog w A r f1 u P1 W)(N:Draws prog w A t f2 B P2 X)(d:Ap z TI TO r t f1 f2)
  (P:ZZ s.heap z TI TO .none) (eI:Xs s.heap TI (.ref r)<|.ref t) (eO:Xs s.heap TO a b) (s1:W k s.heap) (s2:X k s.heap) (k1:k<u) (k2:k<B)
  (hQ:∀D tk x y,P1 k x->P2 k y->ZZ D z TI TO (XO s.heap.objs.size)->Xs D TO x y->W (k+1) D->X (k+1) D->Xs D s.heap.objs.size x y->D.objs.size=s.heap.objs.size+1->(∀c o,c≠z->c≠TO->c≠r->c≠t->s.heap.get? c=U o->D.get? c=U o)->Q (.ref s.heap.objs.size) {s with heap:=D,toks:=tk}):
  Us (UP prog w) A (Builtin.«zip.__next__» ⟨[.ref z],[]⟩) (λf5 s'=>∃v,f5= .done (.ret v)/\Q v s') E s:=by
 obtain⟨G,gg,dd,af,os⟩:=s;show Us _ _ (field _ 2>>=_) _ _ _;refine My<|VI P Z Z ?_;refine My<|VI P Z Z<|My<|Wg eI Z ?_;apply My;refine My<|VI P Z Z<|TZ ?_;refine My<|Xm<|My<|VI P Z Z ?_;refine My<|VZ P nl λK C g=>?_
 apply My;dsimp only[List.zipIdx_nil];refine My<|My<|wpAny_onRaise ?_;refine My<|L.item k _ _ _ k1 (L.frame _ _ _ s1<|cU g d.c1) λx M ag px S h=>TZ ?_
 replace h:UU r K M:=h
 have R:=h.extBut _ _ d.a8<|g.extBut _ _ d.a2 eO;refine My<|Wg R Z<|My<|wpAny_updateSeq_pair R λV F i=>?_
 refine My<|wpAny_letGo<|TZ<|My<|My<|wpAny_onRaise ?_;refine My<|N.item k _ _ _ k2 (N.frame _ _ _ (N.frame _ _ _ (N.frame _ _ _ s2<|cU g d.d1)<|cU h d.d3)<|cU i d.d2) λy g4 ah py aa j=>TZ ?_
 replace j:UU t V g4:=j
 have T:=j.extBut _ _ d.a9 F;refine My<|Wg T Z<|My<|wpAny_updateSeq_pair T λf m l=>?_
 replace m:Xs f TO x y:=m
 refine My<|wpAny_letGo<|TZ<|TZ<|My<|Wg m Z<|My<|wpAny_newTuple ?_;have zs:f.objs.size=G.objs.size:=by rw[l.1,j.1,i.1,h.1,g.1]
 have cb:=l.extBut _ _ d.a2.symm<|j.extBut _ _ d.a4.symm<|i.extBut _ _ d.a2.symm<|h.extBut _ _ d.a3.symm C;have ab:∀c o,c≠z->c≠TO->c≠r->c≠t->G.get? c=U o->f.get? c=U o:=λc o u B n3 n4 e=>l.extBut _ _ B<|j.extBut _ _ n4<|i.extBut _ _ B<|h.extBut _ _ n3<|g.extBut _ _ u e;have ac:=L.frame _ _ _ (L.frame _ _ _ (L.frame _ _ _ S<|cU i d.c2)<|cU j d.c3)<|cU l d.c2;have ad:=N.frame _ _ _ aa<|cU l d.d2;have zl:=UJ cb;apply My;refine My<|VZ (T1 _ cb) nl λg7 H I=>?_
 refine VZ H nl λeH p J=>?_
 have ek:∀c o,c≠z->f.get? c=U o->eH.get? c=U o:=λc o n e=>J.extBut _ _ n<|I.extBut _ _ n<|T1 _ e;have eT:=J.extBut _ _ (WV zl)<|I.extBut _ _ (WV zl)<|Ut _ Z;have z8:eH.objs.size=f.objs.size+1:=by rw[J.1,I.1,VX]
 rw[zs]at p eT z8;refine TZ ⟨_,Z,?_⟩;rw[zs];exact hQ eH _ x y px py p (ek _ _ d.a2 m) (L.frame _ _ _ ac λb hb o e=>ek b o (λq=>d.c1<|q▸hb) e) (N.frame _ _ _ ad λb hb o e=>ek b o (λq=>d.d1<|q▸hb) e) eT z8 λc o u B n3 n4 e=>ek c o u<|ab c o u B n3 n4 e
theorem KG{z TI TO n r:T8}{f1 f2:a0r}(H:Draws prog w A n f1 m P1 S1)(I:Draws prog w A r f2 T P2 S2)(i:Ap z TI TO n r f1 f2)
  (u:ZZ s.heap z TI TO .none) (ek:Xs s.heap TI (.ref n)<|.ref r) (f5:Xs s.heap TO a b) (cb:S1 k s.heap) (G:S2 k s.heap) (N:k=m\/(k<m/\k=T))
  (W:∀D e K,(∀c o,c≠z->c≠TO->c≠n->c≠r->s.heap.get? c=U o->D.get? c=U o)->(∃o,D.get? e=U o/\o.cls= .type "StopIteration")->E (.ref e) {s with heap:=D,toks:=K}):
  Us (UP prog w) A (Builtin.«zip.__next__» ⟨[.ref z],[]⟩) Q E s:=by
 obtain⟨M,gg,dd,S,os⟩:=s;show Us _ _ (field _ 2>>=_) _ _ _;refine My<|VI u Z Z ?_;refine My<|VI u Z Z<|My<|Wg ek Z ?_;apply My;refine My<|VI u Z Z<|TZ ?_;refine My<|Xm<|My<|VI u Z Z ?_;refine My<|VZ u nl λJ j f=>?_
 apply My;dsimp only[List.zipIdx_nil];refine My<|My<|wpAny_onRaise ?_;obtain rfl|⟨N,rfl⟩:=N
 .refine My (H.done _ _ _ (H.frame _ _ _ cb<|cU f i.c1) λt e d eH=>?_)
  obtain⟨P,h,v⟩:=eH;have y:=d _ _ i.a3.symm j;have p:e≠z:=λq=>by subst q;rw[y]at h;cases h;simp at v
  exact VZ y nl λL _ g=>W L e _ (λc o m _ R _ q=>g.extBut _ _ m<|d _ _ R<|f.extBut _ _ m q) ⟨P,g.extBut _ _ p h,v⟩
 .refine My (H.item k _ _ _ N (H.frame _ _ _ cb<|cU f i.c1) λx t V px aa d=>TZ ?_)
  replace d:UU n J t:=d
  have B:=d.extBut _ _ i.a8<|f.extBut _ _ i.a2 f5;refine My<|Wg B Z<|My<|wpAny_updateSeq_pair B λL ab g=>?_
  refine My<|wpAny_letGo<|TZ<|My<|My<|wpAny_onRaise ?_;refine My<|I.done _ _ _ (I.frame _ _ _ (I.frame _ _ _ (I.frame _ _ _ G<|cU f i.d1)<|cU d i.d3)<|cU g i.d2) λX e l eH=>?_
  obtain⟨P,h,v⟩:=eH;have C:=l _ _ i.a4.symm<|g.extBut _ _ i.a2.symm<|d.extBut _ _ i.a3.symm j;have p:e≠z:=λq=>by subst q;rw[C]at h;cases h;simp at v
  exact VZ C nl λg5 _ F=>W g5 e _ (λc o m T R n4 q=>F.extBut _ _ m<|l _ _ n4<|g.extBut _ _ T<|d.extBut _ _ R<|f.extBut _ _ m q) ⟨P,F.extBut _ _ p h,v⟩
theorem FA{z TI TO e f:T8}{f1 f2:a0r}(i:∀d:Vn,d.handled=A.handled->Draws prog w d e f1 I P1 S1)(j:∀d:Vn,d.handled=A.handled->Draws prog w d f f2 n2 P2 S2)(l:Ap z TI TO e f f1 f2)
  (h:ZZ s.heap z TI TO .none) (m:Xs s.heap TI (.ref e)<|.ref f) (n:Xs s.heap TO a b) (p:S1 k s.heap) (q:S2 k s.heap) (r:k<I) (t:k<n2)
  (u:∀D g x y,P1 k x->P2 k y->ZZ D z TI TO (XO s.heap.objs.size)->Xs D TO x y->S1 (k+1) D->S2 (k+1) D->Xs D s.heap.objs.size x y->D.objs.size=s.heap.objs.size+1->(∀c o,c≠z->c≠TO->c≠e->c≠f->s.heap.get? c=U o->D.get? c=U o)->Q (U<|.ref s.heap.objs.size) {s with heap:=D,toks:=g}):
  Us (UP prog w) A (X3<|.ref z) Q E s:=by
 have ty:s.TypeIs (.ref z) "zip":=⟨_,h,Z⟩;exact My<|XX<|wpAny_callSpecial?_slot ty F.slot_zip_next<|U2 F.slot_zip_next ty F.entry_zip_next (FC (i _ Z) (j _ Z) l h m n p q r t λD g x y G K M S V v B C H=>TZ<|u D g x y G K M S V v B C H)<|F.args_zip_next_1 _
theorem KF{z TI TO f g:T8}{f1 f2:a0r}(j:∀d:Vn,d.handled=A.handled->Draws prog w d f f1 x P1 S1)(l:∀d:Vn,d.handled=A.handled->Draws prog w d g f2 n2 P2 S2)(m:Ap z TI TO f g f1 f2)
  (h:ZZ s.heap z TI TO .none) (n:Xs s.heap TI (.ref f)<|.ref g) (p:Xs s.heap TO a b) (q:S1 k s.heap) (r:S2 k s.heap) (t:k=x\/(k<x/\k=n2))
  (u:∀D i,(∀c o,c≠z->c≠TO->c≠f->c≠g->s.heap.get? c=U o->D.get? c=U o)->Q Y {s with heap:=D,toks:=i}):Us (UP prog w) A (X3<|.ref z) Q E s:=by
 have ty:s.TypeIs (.ref z) "zip":=⟨_,h,Z⟩;refine My<|XX<|wpAny_callSpecial?_slot ty F.slot_zip_next<|U2 F.slot_zip_next ty F.entry_zip_next (KG (j _ Z) (l _ Z) m h n p q r t λD e i v y=>?_)<|F.args_zip_next_1 _;obtain⟨o,B,C⟩:=y;exact My<|Wp ⟨o,B,C⟩ isSubtype_stop<|TZ<|u _ _ v
def D1(b:Bool)(h:Vl)(a:T8)(s:a0E):Prop:=if b=O then h.IsList a s else h.IsTuple a s
noncomputable def Nn(b:Bool):String:=if b=O then "list_iterator"else "tuple_iterator"
noncomputable abbrev tU(b:Bool)(a:T8):Vy:={cls:= .type<|Nn b,data:= .fields #[.ref a,.int 0 0]}
def il(b:Bool)(h:Vl)(s a:T8)(k:Nat):Prop:=if b=O then h.IsListIter s a k else h.IsTupleIter s a k
theorem D1.keep{b:Bool}{h s:Vl}(x:D1 b h a c)(k:∀o,h.get? a=U o->s.get? a=U o):D1 b s a c:=by
 unfold D1 at x⊢;split at x
 .rename_i q;rw[Uf q];exact x.at λo e=>k o e
 .rename_i q;rw[Uh q]
  obtain⟨o,e,r⟩:=x;exact⟨o,k o e,r⟩
theorem sZ{b:Bool}(x:D1 b s.heap a c)(h:Q (.ref s.heap.objs.size) {s with heap:=s.heap.push (tU b a)}):Us (UP prog w) A (pyIter<|.ref a) Q E s:=by
 cases b with
 |true=>exact Z3 (show s.heap.IsList a c from x) h
 |false=>exact ZR (show s.heap.IsTuple a c from x) h
theorem wW(b:Bool)(c:A.handled=Y)(D a:T8)(E:a≠D)(s:a0E):Draws prog w A D [D,a] s.size (λi v=>s[i]?=U v) (λi h=>il b h D a i/\D1 b h a s):=by
 cases b with
 |true=>exact Draws.list c D a E s
 |false=>exact TK c D a E s
abbrev zH1(s:Bool)(h:Vl)(a:T8):Vl:=h.push<|tU s a
abbrev zH2(s a:Bool)(h:Vl)(b c:T8):Vl:=(zH1 s h b).push<|tU a c
abbrev zH3(s b:Bool)(h:Vl)(a c:T8):Vl:=(zH2 s b h a c).push {cls:= .type "tuple",data:= .seq #[.ref h.objs.size,.ref (zH1 s h a).objs.size]}
abbrev zH4(s a:Bool)(h:Vl)(b c:T8):Vl:=(zH3 s a h b c).push {cls:= .type "tuple",data:= .seq #[.none,.none]}
abbrev zH5(s a:Bool)(h:Vl)(b c:T8):Vl:=(zH4 s a h b c).push {cls:= .type "zip",data:= .fields #[.none,.bool T4,.bool T4,.ref (zH2 s a h b c).objs.size,.ref (zH3 s a h b c).objs.size]}
theorem DF(D c:Bool)(a b:T8)(E G:a0E):
  Meets (Builtin.«zip.__new__» ⟨[.type "zip",.ref a,.ref b],[]⟩) (λ_ R s=>D1 D s.heap a E/\D1 c s.heap b G/\R (.ok<|.ret<|.ref (zH4 D c s.heap a b).objs.size) {s with heap:=zH5 D c s.heap a b}):=
 .of_wp λprog w A R s h=>by
  obtain⟨f,g,d,i,K⟩:=s;obtain⟨k,l,q⟩:=h;have j:=sub_zip;have n:D1 c (Shared.heap ⟨f.push<|tU D a,g,d,i,K⟩) b G:=l.keep λo e=>T1 _ e
  wp_walk using sZ k,sZ n
  exact⟨_,Z,q⟩
theorem Kl{D d:Bool}(r:D1 D s.heap y B)(t:D1 d s.heap z C)
  (h:∀G,ZZ G (s.heap.objs.size+4) (s.heap.objs.size+2) (s.heap.objs.size+3) .none->Xs G (s.heap.objs.size+2) (.ref s.heap.objs.size) (.ref<|s.heap.objs.size+1)->Xs G (s.heap.objs.size+3) .none .none->il D G s.heap.objs.size y 0->il d G (s.heap.objs.size+1) z 0->G.objs.size=s.heap.objs.size+5->(∀c o,s.heap.get? c=U o->G.get? c=U o)->Q (.ref<|s.heap.objs.size+4) {s with heap:=G}):
  Us (UP prog w) A (call (.type "zip") [.ref y,.ref z]) Q E s:=by
 refine callType_new F.called_zip vy (F.typeCall_zip_2 _ _) (F.newCall_zip_2 _ _) (λK=>F.args_object_init_3 K _ _) F.entry_zip_new (DF D d y z B C) ⟨r,t,?_⟩;have g:(zH1 D _ y).objs.size=s.heap.objs.size+1:=VX ..;have i:(zH2 D d s.heap y z).objs.size=s.heap.objs.size+2:=by rw[VX,g]
 have j:(zH3 D d s.heap y z).objs.size=s.heap.objs.size+3:=by rw[VX,i]
 have k:(zH4 D d s.heap y z).objs.size=s.heap.objs.size+4:=by rw[VX,j]
 have u:(zH5 D d s.heap y z).objs.size=s.heap.objs.size+5:=by rw[VX,k]
 have l:(zH5 D d s.heap y z).get? _=U _:=Ut _ Z;have m:(zH5 D d s.heap y z).get? _=U _:=T1 _<|Ut _ Z;have n:(zH5 D d s.heap y z).get? _=U _:=T1 _<|T1 _<|Ut _ Z;have q:(zH5 D d s.heap y z).get? _=U _:=T1 _<|T1 _<|T1 _<|Ut _ Z;rw[i,j,k]at l;rw[g,i]at n;rw[j]at m;rw[g]at q;rw[k];have f:∀(b:Bool) (G:Vl) (p a:T8),G.get? p=U (tU b a)->il b G p a 0:=λb G p a e=>by
  cases b with
  |true=>exact⟨_,e,Z,Z⟩
  |false=>exact⟨_,e,Z,Z⟩
 exact⟨⟨_,l,Z⟩,h _ l n m (f _ _ _ _ (T1 _<|T1 _<|T1 _<|T1 _<|Ut _ Z)) (f _ _ _ _ q) u λc o x=>T1 _<|T1 _<|T1 _<|T1 _<|T1 _ x⟩
def zv(b:Bool)(K:UA)(H:Hp)(a:T8)(s:a0k):Prop:=if b=O then fy K H a s else i0 K H a s
noncomputable def Itz(A a:Bool)(K:UA)(b c:T8):It:=
 ⟨λi H=>∃s w x y,zv A K H b s/\zv a K H c w/\s[i]?=U x/\w[i]?=U y,
  λi H v d=>∃p x y,H p=Y/\v= .ref p/\d=upd H p (.tup [x,y])/\∀s w,zv A K H b s->zv a K H c w->s[i]?=U x/\w[i]?=U y,
  λi H=>∃s w,zv A K H b s/\zv a K H c w/\(s.length=i\/(i<s.length/\w.length=i))⟩
variable{X:Cx}{A:a0d}{σ:St}{H:Hp}
theorem b_.src{b:Bool}(I:b_ X A σ H s)(h:zv b X.K H a c):∃w:a0g,aE c w/\D1 b s.heap a w.toArray:=by
 cases b with
 |true=>
  obtain⟨w,r,p,_⟩:=I.list (show fy _ H a c from h);exact⟨w,r,p.isList⟩
 |false=>
  obtain⟨w,r,p,_⟩:=I.tuple (show i0 _ H a c from h);exact⟨w,r,p⟩
theorem b_.src_inj{b:Bool}(I:b_ X A σ H s)(h:zv b X.K H a c)(w:zv b X.K H a d):c=d:=by
 cases b with
 |true=>exact I.list_inj (show fy _ H a c from h) w
 |false=>exact I.tuple_inj (show i0 _ H a c from h) w
theorem il.get{b:Bool}{h:Vl}(x:il b h f a k):∃o,h.get? f=U o/\o.cls= .type (Nn b)/\∃s,o.data= .fields s:=by
 cases b with
 |true=>obtain⟨o,e,c,d⟩:=(show h.IsListIter f a k from x);exact⟨o,e,c,_,d⟩
 |false=>obtain⟨o,e,c,d⟩:=(show h.IsTupleIter f a k from x);exact⟨o,e,c,_,d⟩
theorem il.keep{b:Bool}{h s:Vl}(x:il b h c a k)(q:∀o,h.get? c=U o->s.get? c=U o):il b s c a k:=by
 cases b with
 |true=>exact(show h.IsListIter c a k from x).at λo e=>q o e
 |false=>exact(show h.IsTupleIter c a k from x).at λo e=>q o e
theorem b_.turnNew{E:Vl}{t':Nat}{ch:a0r}{p:T8}{o:HO}(I:b_ X A σ H s)(a:∀b∈ch,gy X A H b)(k:∀b u,b∉ch->s.heap.get? b=U u->E.get? b=U u)(d:s.heap.objs.size<=p)(G:b6 X.prog X.w (upd H p o) E p o):b_ X A σ (upd H p o) {s with heap:=E,toks:=t'}:=by
 have D:=I.hok.fresh d;have K:∀b u,H b=U u->b∉ch:=λb u e z=>by rw[(a b z).1]at e;cases e
 refine I.call' Z ⟨λb u e _ _ hc=>k b u hc e,λb u e _ _ hc=>⟨u.slots,k b u hc e⟩,λb u e z hc=>?_,λb u e hc=>⟨u,k b u hc e⟩,λb M e=>?_,λb u M e=>?_,λb M e=>⟨#[],?_⟩⟩ (λb u e=>?_) I.bare λb f=>?_
 .rw[bt<|U7<|UN (UJ e) d];exact z
 .rw[bt<|aP e D];exact e
 .rw[bt<|aP e D];exact e
 .rw[bt<|aP e D,e];simp
 .by_cases z:b=p
  .subst z;rw[aw]at e;cases e;exact G
  .rw[bt z]at e
   refine(I.hok b u e).stay (λc v hc q=>k c v ?_ q) (λc q=>by rw[bt<|aP q D];exact q) λc S q=>by rw[bt<|aP q D];exact q
   obtain rfl|hc:=hc
   .exact K _ _ e
   .exact K _ _ hc
 .obtain⟨j,f1,f2,g,h,i⟩:=a b f
  exact⟨g,f1,h,i⟩
theorem b_.turnL{w:Vl}{ch:a0r}(I:b_ X A σ H s)(a:∀b∈ch,gy X A H b)(k:∀b u,b∉ch->s.heap.get? b=U u->w.get? b=U u):b_ X A σ H {s with heap:=w,toks:=t'}:=by
 have D:∀b u,H b=U u->b∉ch:=λb u e z=>by rw[(a b z).1]at e;cases e
 refine I.call' Z ⟨λb u e _ _ hc=>k b u hc e,λb u e _ _ hc=>⟨u.slots,k b u hc e⟩,λb u e z hc=>z,λb u e hc=>⟨u,k b u hc e⟩,λb E e=>e,λb u E e=>e,λb E e=>⟨#[],by rw[e];simp⟩⟩ (λb u e=>?_) I.bare λb d=>?_
 .refine(I.hok b u e).stay (λc v hc q=>k c v ?_ q) (λc q=>q) λc G q=>q
  obtain rfl|hc:=hc
  .exact D _ _ e
  .exact D _ _ hc
 .obtain⟨i,f1,f2,f,g,h⟩:=a b d
  exact⟨f,f1,g,h⟩
theorem b_.src_ne{b:Bool}(I:b_ X A σ H s)(h:zv b X.K H a l)(f:gy X A H c):a≠c:=by
 obtain⟨i,f1,f2,f3,j,k⟩:=f;have d:∀o,X.K.lookup a=U o->a≠c:=λo e z=>by
  have g:=I.ok.mod.kin a o e;subst z;obtain f3|f3:=f3
  .exact I.ok.noex a o g f3
  .exact UG (UN (UJ (I.ok.bs a o g).1) f3) (Vq _)
 have w:∀u,Rd H a u->a≠c:=λu r z=>by
  subst z;rcases r with r|⟨_,r⟩<;>rw[i]at r<;>cases r
 cases b with
 |true=>
  obtain h|⟨o,_,_,e,_⟩:=(show fy _ H a l from h)
  .exact w _ h
  .exact d o e
 |false=>
  obtain h|⟨o,_,_,e,_⟩:=(show i0 _ H a l from h)
  .exact w _ h
  .exact d o e
theorem KS{w:UY}{K:UA}{x1}{pos:Xp}(b1 b2:Bool)(C F z TI TO f g:T8)(nd:[z,TI,TO,f,g].Nodup):
  p3 P w K (.Tuple elts x1 pos) (Itz b1 b2 K C F) [z,TI,TO,f,g] z (λi h=>ZZ h z TI TO .none/\Xs h TI (.ref f) (.ref g)/\(∃a b,Xs h TO a b)/\il b1 h f C i/\il b2 h g F i) where
 mem:=by exact .head _
 obj:=λi h G b j=>by
  obtain⟨p,r,⟨a,b',J⟩,L,N⟩:=G;simp only[Uq,VN,Yo]at j;obtain rfl|rfl|rfl|rfl|rfl:=j
  .exact⟨_,p,λv q=>by cases q⟩
  .exact⟨_,r,λv q=>by cases q⟩
  .exact⟨_,J,λv q=>by cases q⟩
  .obtain⟨o,e,_,fs,d⟩:=L.get
   exact⟨o,e,λv q=>by rw[d]at q;cases q⟩
  .obtain⟨o,e,_,fs,d⟩:=N.get
   exact⟨o,e,λv q=>by rw[d]at q;cases q⟩
 keep:=λi h D G k=>by
  obtain⟨p,r,⟨a,b',J⟩,L,N⟩:=G;exact⟨k z (by exact .head _) _ p,k TI (by exact .tail _ (.head _)) _ r,⟨a,b',k TO (by exact .tail _ (.tail _ (.head _))) _ J⟩,L.keep λo e=>k f nl o e,N.keep λo e=>k g nl o e⟩
 item:=by
  intro X hP hw hK n i A s σ H E I eH G hg;subst hP hw hK;obtain⟨xs,ys,x,y,M,S,hx,hy⟩:=hg;obtain⟨p,r,⟨a,b',J⟩,L,N⟩:=G;obtain⟨l,r1,p1⟩:=b_.src I M;obtain⟨m,r2,p2⟩:=b_.src I S;have V:=I.ok.hd n;simp only[Vs,Uq,VN,Yo,not_or]at nd;obtain⟨⟨ek,z2,cb,W⟩,⟨t1,t2,t3⟩,⟨f5,o2⟩,R,_⟩:=nd;have t:=λc n=>b_.src_ne I M<|eH c n;have B:=λc n=>b_.src_ne I S<|eH c n;have ap:Ap z TI TO f g [f,C] [g,F]:=⟨Ne.symm ek,Ne.symm z2,Ne.symm cb,Ne.symm W,t1,t2,t3,f5,o2,R,by simp[cb,(t z nl).symm],by simp[f5,(t TO nl).symm],by simp[Ne.symm R,(t g nl).symm],by simp[W,(B z nl).symm],by simp[o2,(B TO nl).symm],by simp[R,(B f nl).symm],by exact .head _,by exact .head _⟩;have k1:i<l.toArray.size:=by
   rw[UB,<-r1.length];exact(Ui.mp hx).1
  have k2:i<m.toArray.size:=by
   rw[UB,<-r2.length];exact(Ui.mp hy).1
  refine FA (λA' D=>wW b1 (D.trans V) f C (t f nl) _) (λA' D=>wW b2 (D.trans V) g F (B g nl) _) ap p r J ⟨L,p1⟩ ⟨N,p2⟩ k1 k2 λD tk u v pu pv fz fO f1 f2 fT sz kp=>⟨_,Z,wpAny_letOwnedTupleGo_zip fz λT aa Q=>?_⟩
  obtain⟨u',hu,ru⟩:=r1.get hx;obtain⟨v',hv,rv⟩:=r2.get hy;have eu:u=u':=by
   have:l[i]?=U u:=by simpa using pu
   rw[this]at hu;exact UR hu
  have ev:v=v':=by
   have:m[i]?=U v:=by simpa using pv
   rw[this]at hv;exact UR hv
  subst eu ev;have kk:∀b o,b∉[z,TI,TO,f,g]->s.heap.get? b=U o->T.get? b=U o:=λb o j e=>by
   simp only[Uq,VN,Yo,not_or]at j;exact Q.extBut b o j.1<|kp b o j.1 j.2.2.1 j.2.2.2.1 j.2.2.2.2 e
  have I2:b_ X A σ (upd H s.heap.objs.size<|.tup [x,y]) {s with heap:=T,toks:=tk}:=by
   refine b_.turnNew I eH kk (Ug _) ⟨by show 2<=UC;decide,[u,v],.cons ru<|.cons rv .nil,_,Q.extBut _ _ (WV<|UJ p) fT,Z,_,Z⟩
  refine⟨.ref _,_,I2,Z,⟨s.heap.objs.size,x,y,I.hok.fresh<|Ug _,Z,Z,λas bs h1 h2=>⟨by rw[b_.src_inj I h1 M];exact hx,by rw[b_.src_inj I h2 S];exact hy⟩⟩,⟨aa,?_,⟨u,v,?_⟩,?_,?_⟩,λb j=>?_⟩
  .exact Q.extBut _ _ (Ne.symm ek) (kp TI _ (Ne.symm ek) t1 t2 t3 r)
  .exact Q.extBut _ _ (Ne.symm z2) fO
  .exact f1.1.keep λo e=>Q.extBut _ _ (Ne.symm cb) e
  .exact f2.1.keep λo e=>Q.extBut _ _ (Ne.symm W) e
  .rw[bt]
   .exact(eH b j).1
   .intro q
    have ol:∃o,s.heap.get? b=U o:=by
     simp only[Uq,VN,Yo]at j;obtain rfl|rfl|rfl|rfl|rfl:=j
     .exact⟨_,p⟩
     .exact⟨_,r⟩
     .exact⟨_,J⟩
     .obtain⟨o,e,_⟩:=L.get;exact⟨o,e⟩
     .obtain⟨o,e,_⟩:=N.get;exact⟨o,e⟩
    obtain⟨o,e⟩:=ol;exact UG (UJ e) (by rw[q];exact Vq _)
 done:=by
  intro X hP hw hK n i A s σ H E I eH G hg;subst hP hw hK;obtain⟨xs,ys,M,S,hl⟩:=hg;obtain⟨p,r,⟨a,b',J⟩,L,N⟩:=G;obtain⟨l,r1,p1⟩:=b_.src I M;obtain⟨m,r2,p2⟩:=b_.src I S;have V:=I.ok.hd n;simp only[Vs,Uq,VN,Yo,not_or]at nd;obtain⟨⟨ek,z2,cb,W⟩,⟨t1,t2,t3⟩,⟨f5,o2⟩,R,_⟩:=nd;have t:=λc n=>b_.src_ne I M<|eH c n;have B:=λc n=>b_.src_ne I S<|eH c n;have g1:l.toArray.size=xs.length:=by rw[UB,<-r1.length]
  have g2:m.toArray.size=ys.length:=by rw[UB,<-r2.length]
  refine KF (λA' D=>wW b1 (D.trans V) f C (t f nl) _) (λA' D=>wW b2 (D.trans V) g F (B g nl) _) (⟨Ne.symm ek,Ne.symm z2,Ne.symm cb,Ne.symm W,t1,t2,t3,f5,o2,R,by simp[cb,(t z nl).symm],by simp[f5,(t TO nl).symm],by simp[Ne.symm R,(t g nl).symm],by simp[W,(B z nl).symm],by simp[o2,(B TO nl).symm],by simp[R,(B f nl).symm],by exact .head _,by exact .head _⟩) p r J ⟨L,p1⟩ ⟨N,p2⟩ ?_ λD tk kp=>⟨Z,b_.turnL I eH λb o j e=>?_⟩
  .rw[g1,g2]
   obtain hl|⟨h1,h2⟩:=hl
   .exact .inl hl.symm
   .exact .inr ⟨h1,h2.symm⟩
  .simp only[Uq,VN,Yo,not_or]at j
   exact kp b o j.1 j.2.2.1 j.2.2.2.1 j.2.2.2.2 e
 self:=λ_ _ _ _ _ G h=>wpAny_pyIter_zip G.1 h
end
section
variable{X:Cx}{E:a0u}{K:UA}
def iZp(K:UA)(e:TA):TI:=λf H R=>e f H λE a=>∃D d b c G M,E=[.ref b,.ref c]/\zv D K a b G/\zv d K a c M/\R (Itz D d K b c) a
theorem Qf{p pos:Xp}{W}(A:Gl X "zip")(M:X.mg "zip"=Y)(S:PA X [a,b] cb)(V:autoParam (Uu [a,b] X.env=[(T4,Vv a X.env),(T4,Vv b X.env)]) qQ)(g:autoParam (Uu [b] X.env=[(T4,Vv b X.env)]) qQ):
  PI X (.Tuple x W z) (.Call (.Name "zip" p) [a,b] [] pos) (iZp X.K cb):=by
 refine λf s n H R I h=>Call_ (gE I A M Boot.«zip»<|VJ (ee (S _ f s n H _ I h) λP d ⟨vs,o,i,Q,D⟩=>?_) (by rw[V,g])<|by rw[g];rfl);obtain⟨E,t,u,v,xs,ys,e,D,T,q⟩:=D;subst e;cases Q with
 |cons r k=>
  cases k with
  |cons B k=>
   cases k;cases r;cases B;obtain⟨C,v1,F⟩:=b_.src i D;obtain⟨J,v2,L⟩:=b_.src i T;refine Kl F L λG w N ek l m sz f5=>(wpAny_pyIter_zip w ?_);refine⟨_,[d.heap.objs.size+4,d.heap.objs.size+2,d.heap.objs.size+3,d.heap.objs.size,d.heap.objs.size+1],_,Itz E t _ u v,o,Z,i.kept (t':=d.toks) f5,KS E t u v _ _ _ _ _ nl,⟨w,N,⟨_,_,ek⟩,l,m⟩,λc y=>?_,q⟩;have j:d.heap.objs.size<=c:=by
    simp only[Uq,VN,Yo]at y;obtain rfl|rfl|rfl|rfl|rfl:=y
    .exact Wn _ _
    .exact Wn _ _
    .exact Wn _ _
    .exact Ug _
    .exact Wn _ _
   exact i.fpOk j<|i.hok.fresh j
noncomputable def d8:a0c->a0c->a0c
 |x::xs,y::ys=> .tup [x,y]::d8 xs ys
 |_,_=>[]
theorem w6:∀(D E:a0c),(d8 D E).length=W0 D.length E.length
 |[],E=>by simp[d8]
 |x::D,[]=>by simp[d8]
 |x::D,y::E=>by
  show(d8 D E).length+1=_;rw[w6 D E,Ur,Ur];lia
theorem w8:∀{E G:a0c} {i:Nat} {d:D},(d8 E G)[i]?=U d->∃x y,E[i]?=U x/\G[i]?=U y/\d= .tup [x,y]
 |[],G,i,d,h=>by simp[d8]at h
 |x::E,[],i,d,h=>by simp[d8]at h
 |x::E,y::G,0,d,h=>by
  simp[d8]at h;exact⟨x,y,Z,Z,h.symm⟩
 |x::E,y::G,i+1,d,h=>by
  have K:(d8 E G)[i]?=U d:=by simpa[d8]using h
  obtain⟨a,b,c,e,f⟩:=w8 K;exact⟨a,b,by exact c,by exact e,f⟩
def KI:a0c->a0C
 |[a,b]=>(dZ a).bind λD=>(dZ b).map λE=>d8 D E
 |_=>Y
theorem b5.sqS(h:b5 K F H d v)(e:dZ d=U k):∃b a,v= .ref a/\∀f c,Tr F H f c->∃D,zv b K c a D/\bb K f c k D:=by
 cases d<;>first
  |(cases e;obtain⟨a,D,rfl,_⟩:=b5.sqL h;refine⟨O,a,rfl,λf c t=>?_⟩;obtain⟨j,E,g,G,i⟩:=b5.sqL<|b5.tr t _ _ h;cases g;exact⟨E,G,i⟩)
  |(cases e;obtain⟨a,D,rfl,_⟩:=b5.sqT h;refine⟨T4,a,rfl,λf c t=>?_⟩;obtain⟨j,E,g,G,i⟩:=b5.sqT<|b5.tr t _ _ h;cases g;exact⟨E,G,i⟩)
  |cases e
theorem OO{G h:Bool}(o:∀b a,Tr F H b a->∃D,zv G K a L D/\bb K b a N D)(q:∀b a,Tr F H b a->∃D,zv h K a Q D/\bb K b a P D):B6 K (Itz G h K L Q) F H (d8 N P):=λb a V t fr i=>by
 obtain⟨D,c,M⟩:=o b a t;obtain⟨E,e,S⟩:=q b a t;refine⟨λd X=>?_,λr=>?_⟩
 .obtain⟨x,y,f,g,rfl⟩:=w8 X
  obtain⟨u,j,s⟩:=M.get f;obtain⟨v,k,w⟩:=S.get g;refine⟨⟨D,E,u,v,c,e,j,k⟩,λz C A=>?_⟩;obtain⟨p,I,J,l,rfl,rfl,B⟩:=A;obtain⟨m,n⟩:=B D E c e;rw[j]at m;rw[k]at n;cases m;cases n;exact⟨cj.upd l,b5.newT fr l<|bb.cons s<|bb.cons w bb.nil⟩
 .rw[w6]at r
  have g:=S.length;refine⟨D,E,c,e,?_⟩;rw[<-M.length,<-g];lia
def nz(g:FL):FL:=c9 KI g
theorem lC{p pos:Xp}{W}(o:Gl X "zip")(M:X.mg "zip"=Y)(S:PA X [a,b]<|jm X.K g E)(V:autoParam (Uu [a,b] X.env=[(T4,Vv a X.env),(T4,Vv b X.env)]) qQ)(i:autoParam (Uu [b] X.env=[(T4,Vv b X.env)]) qQ):
  PI X (.Tuple s W x) (.Call (.Name "zip" p) [a,b] [] pos) (iV X.K (nz g) E):=
 (Qf o M S V i).imp λJ H R j=>la j λF z N fr q h=>⟨F,z,N,fr,q,(run.bind h).mono λek f j=>by
  obtain⟨f5,eH,t,P,Q⟩:=j;obtain⟨l,e,k⟩:=run.ofO Q;unfold KI at e;split at e
  .rename_i c d
   obtain⟨v,L,rfl,r,u⟩:=bb.two P;cases D:dZ c with
   |none=>rw[D]at e;cases e
   |some xs=>
    cases G:dZ d with
    |none=>rw[D,G]at e;cases e
    |some ys=>
     rw[D,G]at e;cases e;obtain⟨T,w,rfl,m⟩:=b5.sqS r D;obtain⟨y,A,rfl,n⟩:=b5.sqS u G;obtain⟨cb,B,_⟩:=m F f<|Tr.refl F f;obtain⟨C,I,_⟩:=n F f<|Tr.refl F f;exact⟨T,y,w,A,cb,C,Z,B,I,k _ f (To.refl t.fr)<|OO m n⟩
  .cases e⟩
variable{a:List Expr}
end
section
variable{P:UT}{w:UY}{K:UA}{e:a0j}{d:Vl}{N:a0i}{c:U3}{a:Scope}{f:T8}{g:Uc}{A:Vn}{b:List Env}{s:Uj}{H:Hp}{E:XK}
end
section
variable{X:Cx}{E:a0u}{K:UA}
variable{y z v:Expr}{w:List Expr}{rest:a0T}{u:Scope}{pos:Xp}{A c4:a0i}{b4:a0a}{g:TG}{B:a0Y}
theorem aX:eX X [] (i_ X.K (λ_=>M.ret O) E0):=λa s b H Q I c=>by obtain⟨F,g,u,fr,d,r⟩:=c;exact xS a s b H Q I<|run.ret fr r Z
theorem jH(a:PT X c<|i_ X.K t E0):eX X [c] (i_ X.K t E0):=Ln a
theorem bh(c:X.calm=O)(S:c_ X u A c4 b4)(d:PI X z v<|iV X.K m E)
  (e:∀(G:a0m) (C:T8) (a:a0r) (s:Uj) (H:Hp),PG (aT X A u G C a s H) z g/\eX (aT X A u G C a s H) w (i_ X.K n E0)/\∀D,PB (aT X A u G C a s H) y (⟨z,v,w,0⟩::rest) u pos 0 D<|B D)
  (f:dg X.K g l) (i:eU l) (j:∀D,lJ X.K D (B D) b) (M:autoParam (∀x,Vo v X.env x=Wo x) xz):PE X (.ListComp y (⟨z,v,w,0⟩::rest) u pos) (tV X.K (cE c4.length b4 m l n b) E):=
 (qo c S d e M).imp λk H Q h=>xj f i j h
theorem sJ{a c:Xp}(j:X.N.Nodup)(d:X.N[i]?=U x)(M:Iv X.env.scope x)(k:X.calm=O)(S:c_ X u A c4 b4)(l:PI X z v<|iV X.K F E)
  (m:∀(G:a0m) (C:T8) (f:a0r) (s:Uj) (H:Hp),PG (aT X A u G C f s H) z g/\eX (aT X A u G C f s H) w (i_ X.K I E0)/\∀D,PB (aT X A u G C f s H) y (⟨z,v,w,0⟩::rest) u pos 0 D<|B D)
  (n:dg X.K g t) (o:eU t) (p:∀D,lJ X.K D (B D) b)
  (e:autoParam (Zc (.ListComp y (⟨z,v,w,0⟩::rest) u pos) (U<|.Name x a) c.line X.env=Wo O) qQ)
  (V:autoParam (∀x,Vo v X.env x=Wo x) xz) (q:autoParam (b0d X x) xy):
  PS X (.Assign [.Name x a] (.ListComp y (⟨z,v,w,0⟩::rest) u pos) c) (tG X.K X.H₀ (dm i<|cE c4.length b4 F t I b) E):=
 aF ((zM j d M k S l m e V q).imp λD r H h=>xj n o p h)
noncomputable def negD:D->a0l
 | .int i=>U<|.int<|-i
 |_=>Y
theorem DP:NE K (rU λi=> .int<|-i) negD:=λF H u Q g d v1 fr a e k=>by
 cases g<;>first|(cases e;exact⟨_,a,k _ H (To.refl fr) Z⟩)|cases e
noncomputable def Kx:D->a0o
 | .int i=>U i
 |_=>Y
noncomputable def pO(g:a0c)(u a:a0o):a0c:=(g.drop<|HT.sIx g.length 0 u).take<|HT.sIx g.length g.length a-HT.sIx g.length 0 u
def slD:D->a0o->a0o->a0l
 | .lst xs,lo,hi=>U<|.lst<|pO xs lo hi
 | .scr ns,lo,hi=>U<|.lst<|pO (ns.map D.int) lo hi
 |_,_,_=>Y
def qF(f:a1a):Dn->M a0o:=λu=>match f with
 |none=>M.ret Y
 |some g=>M.bind (g u) λd=>M.bind (M.ofO<|Kx d) λi=>M.ret<|U i
def fSl(f:FD)(u a:a1a):FD:=λg=>M.bind (f g) λd=>M.bind (qF u g) λl=>M.bind (qF a g) λh=>M.ofO<|slD d l h
def vh(X:Cx)(e:Option Expr)(f:a1a)(E:a0u):Prop:=PO X e (λc H Q=>∃F g u,Fr F H u/\js X.K F H g c/\run (λ_ (a b:a0o)=>b=a) F E c (qF f g) H Q u)
theorem mE:vh X Y Y E:=λa s b H Q I c=>by obtain⟨F,g,u,fr,d,r⟩:=c;exact zP a s b H Q I<|run.ret fr r Z
theorem mC(h:PE X e<|tV X.K f E):vh X (U e) (U f) E:=λa s c H Q I b=>la b λF g u fr j r=>zO h a s c H Q I ⟨F,g,u,fr,j,(run.bind r).mono λv l b=>by
  obtain⟨d,w,t,y,z⟩:=b;obtain⟨i,e,k⟩:=run.ofO_bind z;cases d<;>first|(cases e;exact⟨_,y,run.ret t.fr k Z⟩)|cases e⟩
theorem bb.cut(h:bb K F H b c)(g a:a0o):bb K F H (pO b g a) (lU c g a):=by
 unfold pO;rw[h.length];exact(h.drop _).take _
theorem qe{M y:Option Expr}{fl A:a1a}(B:PE X e<|tV X.K f E)(C:vh X M fl E)(I:vh X y A E):PE X (.Subscript e (.Slice M y Y p2) pos) (tV X.K (fSl f fl A) E):=
 (rJ zt B C I).imp λcb H Q o=>la o λF g S fr q r=>⟨F,g,S,fr,q,(run.bind r).mono λv P ⟨d,z,t,V,s⟩=>
  ⟨F,g,z,t.fr,q.tr<|t.tr fr,(run.bind s).mono λl T ⟨R,D,n,u,J⟩=>
   ⟨F,g,D,n.fr,q.tr<|(t.tr fr).trans<|n.tr t.fr,(run.bind J).mono λh W o=>by
    obtain⟨b,x,i,w,L⟩:=o;subst u w;obtain⟨c,e,k⟩:=run.ofO L;have j:=b5.tr ((n.tr t.fr).trans<|i.tr n.fr) _ _ V;cases d<;>first
     |(cases e;obtain⟨a,f5,rfl,G,N⟩:=b5.sqL j;exact⟨a,f5,rfl,G,λp m=>k _ _ (i.fr.upd _ m)<|b5.newL i.fr m<|N.cut l h⟩)
     |(cases e;obtain⟨a,rfl,G⟩:=b5.scr j;exact⟨a,_,rfl,G,λp m=>k _ _ (i.fr.upd _ m)<|b5.newL i.fr m<|(bb.ofInts _).cut l h⟩)
     |cases e⟩⟩⟩
def Bg.ok(β:Bg):Prop:=β.cells≠[]/\β.cells.length<=64/\(∀c∈β.cells,0<=c)/\0<=β.j
end
noncomputable def Bg.pos(β:Bg):Nat:=(β.i % (β.cells.length:Int)).toNat
def Bg.cell(D:Bg):Int:=D.cells.getD D.pos 0
noncomputable def Bg.nxt(D:Bg):Int:=(D.j+D.cell % 2147483629+77)*48271 % 2147483629
noncomputable def k8(E:Bg)(D:Int):Int:=if 10^18<=E.cell then E.cell % D else E.nxt/64 % D
noncomputable def m9(D:Bg)(E:Int):Bg:=if 10^18<=D.cell then⟨D.cells.set D.pos<|D.cell/E,D.i,D.j⟩else⟨D.cells,D.i+1,D.nxt⟩
open Classical in
def dO:a0c->M D:=λG E=>match G with
 |[.bag,.int lot]=>if E.ok/\0<lot/\lot<1073741824 then U (Vw<|D.int<|k8 E lot,m9 E lot)else Y
 |_=>Y
theorem IK{E:Bg}(h:dO b E=U (r,a)):∃D,b=[.bag,.int D]/\E.ok/\0<D/\D<1073741824/\r= .ok (.int<|k8 E D)/\a=m9 E D:=by
 unfold dO at h;split at h
 .split at h
  .rename_i D q
   cases h;exact⟨D,Z,q.1,q.2.1,q.2.2,Z,Z⟩
  .cases h
 .cases h
theorem Bg.ok.at{β:Bg}(h:β.ok):β.pos<β.cells.length/\β.cells[β.pos]?=U β.cell/\0<=β.cell/\β.i % (β.cells.length:Int)=(β.pos:Int):=by
 obtain⟨D,G,E,b⟩:=id h;have c:=List.length_pos_iff.mpr D;have K:0<=β.i % (β.cells.length:Int):=Y7 _ rk;have M:β.i % (β.cells.length:Int)<β.cells.length:=Zq _ rk;have a:β.pos<β.cells.length:=by unfold Bg.pos;lia
 have e:β.cell=β.cells[β.pos]:=by
  unfold Bg.cell;rw[T6,Ua a];rfl
 refine⟨a,by rw[e];exact Ua a,by rw[e];exact E _<|Vj a,?_⟩;unfold Bg.pos;lia
theorem zJ{D:Bg}(h:D.ok)(b:0<g):0<=k8 D g/\k8 D g<g/\(m9 D g).ok:=by
 obtain⟨f,_,d,_⟩:=h.at;obtain⟨E,G,K,e⟩:=id h;unfold k8 m9;split
 .refine⟨Y7 _ rk,Zq _ b,?_,by rw[VL];exact G,λc a=>?_,e⟩
  .intro z
   have:=U6 Y2 z;rw[VL]at this;exact E<|ZT.mp this
  .obtain a|rfl:=Wv a
   .exact K c a
   .exact Int.ediv_nonneg d rk
 .exact⟨Y7 _ rk,Zq _ b,E,G,K,Y7 _ vy⟩
end L2.Pu
namespace L2.Hs
open PySem.SetTable
def Rs(D:a0y):Prop:=∀i k x y:Nat,i<k->D[i]?=U x->D[k]?=U y->x<y
theorem sd{E:a0y}(r:Rs E):∀(fuel D c:Nat),D<=c->c<=E.size->c-D<=fuel->(∀i x,i<D->E[i]?=U x->x<j)->(∀i x,c<=i->E[i]?=U x->j<=x)->
  below.go E j fuel D c<=E.size/\(∀i x,i<below.go E j fuel D c->E[i]?=U x->x<j)/\∀i x,below.go E j fuel D c<=i->E[i]?=U x->j<=x
 |0,D,c,h1,h2,h3,a,b=>by
  have:D=c:=by grind
  subst this;exact⟨h2,a,b⟩
 |fuel+1,D,c,h1,h2,h3,a,b=>by
  unfold below.go;by_cases q:D<c
  .rw[Uf q]
   simp only;have K:(D+c)/2<E.size:=by lia
   have e:E[(D+c)/2]?=U (E.getD ((D+c)/2) j):=by simp[K]
   by_cases z:E.getD ((D+c)/2) j<j
   .rw[Uf z]
    refine sd r _ _ _ rk h2 (by omega) (λi x d G=>?_) b;by_cases w:i=(D+c)/2
    .subst w
     rw[e]at G;cases G;exact z
    .exact Zi (r i _ x _ rk G e) z
   .rw[Uh z]
    refine sd r _ _ _ rk rk (by omega) a (λi x d G=>?_);by_cases w:i=(D+c)/2
    .subst w
     rw[e]at G;cases G;omega
    .have:=r _ i _ x rk e G
     lia
  .rw[Uh q]
   have:D=c:=by lia
   subst this;exact⟨h2,a,b⟩
theorem kC{D:a0y}(r:Rs D):below D j<=D.size/\(∀i x,i<below D j->D[i]?=U x->x<j)/\∀i x,below D j<=i->D[i]?=U x->j<=x:=
 sd r _ 0 _ (Vp _) (Ug _) rk (λi x h=>UG h<|WK i) (λi x h e=>by
  have:=(Vh.mp e).1;lia)
theorem Mx(r:Rs f)(h:f[i]?=U j):below f j=i:=by
 obtain⟨c,a,b⟩:=kC r;obtain q|q|q:=Xd (below f j) i
 .have d:=(Vh.mp h).1
  have e:f[below f j]?=U _:=getElem?_pos f _ rk;have:=b _ _ (Ug _) e;have:=r _ _ _ _ q e h;lia
 .exact q
 .have:=a _ _ q h
  lia
theorem vx{t:Vu}(r:Rs t.place)(h:t.place[i]?=U j):t.slot j= .live i:=by
 unfold slot;simp only[Mx r h,h,beq_self_eq_true,Vm]
theorem CH{t:Vu}(d:t.dummies=#[])(h:∀i:Nat,t.place[i]?≠U j):t.slot j= .empty:=by
 unfold slot;have a:(t.place[below t.place j]?==U j)=T4:=by
  rw[beq_eq_false_iff_ne];exact h _
 have b:has t.dummies j=T4:=by rw[d];rfl
 simp only[a,b,Uz,Vc]
noncomputable def fx(t:Vu):Nat->Probe->Probe
 |0,p=>p
 |n+1,p=>fx t n<|t.advance p
theorem rQ(t:Vu):∀(n:Nat) (p:Probe),fx t (n+1) p=t.advance (fx t n p)
 |0,p=>rfl
 |n+1,p=>by
  show fx t _ _=t.advance _;exact rQ t n<|t.advance p
theorem qx(t:Vu):∀(n m:Nat) (p:Probe),fx t (n+m) p=fx t m (fx t n p)
 |0,m,p=>by rw[V4];rfl
 |n+1,m,p=>by
  rw[show n+1+m=(n+m)+1 by lia];exact qx t n m<|t.advance p
structure Pv (t:Vu) (p:Probe):Prop where
 j:p.j+p.more<=t.mask
 more:p.more<=9
 i:p.i<=t.mask
 pt:p.perturb<2^64
 du:p.dummy=Y
theorem vK{D i:Nat}(h:i<=D):i<=runEnd D i/\runEnd D i<=D/\runEnd D i-i<=9:=by
 unfold runEnd;by_cases q:i+9<=D
 .rw[Uf q];lia
 .rw[Uh q];lia
noncomputable def x0(t:Vu)(i D:Nat):Probe:={j:=i,more:=runEnd t.mask i-i,i,perturb:=D,dummy:=Y}
theorem ui{t:Vu}(h:i<=t.mask)(a:pt<2^64):Pv t (x0 t i pt):=by
 obtain⟨c,d,b⟩:=vK h;refine⟨?_,b,h,a,Z⟩;show i+(runEnd _ i-i)<=t.mask;grind
theorem vp(t:Vu)(h:Int):t.probeStart h=x0 t (bits h % (t.mask+1)) (bits h):=Z
theorem qJ(h:Int):bits h<2^64:=by
 unfold bits;lia
theorem rn(t:Vu)(h:Int):Pv t (t.probeStart h):=by
 rw[vp];exact ui (by have:=YX (bits h) (show t.mask+1>0 by lia);lia)<|qJ h
noncomputable abbrev lpI(D i E:Nat):Nat:=(i*5+1+E/32) % (D+1)
theorem KA{t:Vu}{p:Probe}(h:0<p.more):t.advance p={p with j:=p.j+1,more:=p.more-1}:=by
 unfold advance;rw[Uf h]
theorem BI{t:Vu}{p:Probe}(h:p.more=0)(D:p.dummy=Y):t.advance p=x0 t (lpI t.mask p.i p.perturb) (p.perturb/32):=by
 unfold advance;rw[Uh rk];unfold leap x0;simp only[D]
theorem DL(D i E:Nat):lpI D i E<=D:=by
 have:=YX (i*5+1+E/32) (show D+1>0 by lia);unfold lpI;omega
theorem Kz{t:Vu}(v:Pv t p):Pv t (t.advance p):=by
 by_cases q:0<p.more
 .rw[KA q]
  exact⟨by have:=v.j;lia,by have:=v.more;lia,v.i,v.pt,v.du⟩
 .rw[BI rk v.du]
  exact ui (DL _ _ _)<|VC (Z9 _ _) v.pt
theorem pC:∀(n:Nat) {p:Probe},Pv t p->Pv t (fx t n p)
 |0,_,v=>v
 |n+1,_,v=>pC n<|Kz v
theorem uU:∀(k:Nat) {p:Probe},Pv t p->k<=p.more->fx t k p={p with j:=p.j+k,more:=p.more-k}
 |0,p,v,h=>by rfl
 |k+1,p,v,h=>by
  rw[rQ,uU k v rk,KA (show 0<p.more-k by lia)];lia
theorem rR{t:Vu}{p:Probe}(v:Pv t p):fx t (p.more+1) p=x0 t (lpI t.mask p.i p.perturb) (p.perturb/32):=by
 rw[rQ,uU _ v<|Ug _];exact BI (Xe _) v.du
def cV(D:Nat):Nat->Nat×Nat->Nat×Nat
 |0,x=>x
 |k+1,x=>cV D k (lpI D x.1 x.2,x.2/32)
theorem kY(D:Nat):∀(k:Nat) (x:Nat×Nat),cV D (k+1) x=(lpI D (cV D k x).1 (cV D k x).2,(cV D k x).2/32)
 |0,x=>rfl
 |k+1,x=>kY D k _
theorem yq{t:Vu}:∀(k:Nat) {p:Probe},Pv t p->∃n,n<=10*(k+1)/\fx t n p=x0 t (cV t.mask (k+1) (p.i,p.perturb)).1 (cV t.mask (k+1) (p.i,p.perturb)).2
 |0,p,v=>⟨p.more+1,by have:=v.more;lia,rR v⟩
 |k+1,p,v=>by
  obtain⟨n,D,e⟩:=yq k v;have v2:=pC n v;rw[e]at v2;refine⟨n+((x0 t (cV t.mask (k+1) (p.i,p.perturb)).1 (cV t.mask (k+1) (p.i,p.perturb)).2).more+1),by have:=v2.more;lia,?_⟩;rw[qx,e,rR v2,kY _<|k+1];rfl
def Mk(D:Nat):Prop:=D=7\/D=31\/D=127
noncomputable def Z_(D:Nat):Nat->Nat->Nat
 |0,i=>i
 |k+1,i=>Z_ D k<|(i*5+1) % (D+1)
theorem qq(D:Nat):∀(a b i:Nat),Z_ D (a+b) i=Z_ D b (Z_ D a i)
 |0,b,i=>by rw[V4];rfl
 |a+1,b,i=>by
  rw[show a+1+b=(a+b)+1 by lia];exact qq D a b _
def M7(D:Nat):Bool:=(Z_ D (D+1) 0==0)&&(Ue<|D+1).all λj=>(Ue<|D+1).any λk=>Z_ D k 0==j
theorem Qp{D:Nat}(h:Mk D):M7 D=O:=by
 rcases h with rfl|rfl|rfl<;>decide +kernel
theorem zS{D i j:Nat}(h:Mk D)(l:i<=D)(m:j<=D):∃k,k<=D/\Z_ D k i=j:=by
 have o:=Qp h;unfold M7 at o;rw[US,Xk,X5]at o;obtain⟨g,E⟩:=o;obtain⟨a,e,c⟩:=List.any_eq_true.mp (E i<|UD.mpr rk);obtain⟨b,f,d⟩:=List.any_eq_true.mp (E j<|UD.mpr rk);rw[Xk]at c d;have:=UD.mp e;by_cases q:a<=b
 .refine⟨b-a,by grind,?_⟩
  rw[<-c,<-qq,show a+(b-a)=b by grind,d]
 .refine⟨b+(D+1)-a,rk,?_⟩
  rw[<-c,<-qq,show a+(b+(D+1)-a)=(D+1)+b by lia,qq,g,d]
theorem oX(D:Nat):∀(k i:Nat),cV D k (i,0)=(Z_ D k i,0)
 |0,i=>rfl
 |k+1,i=>by
  show cV D k (lpI D i 0,0/32)=_;rw[show(0/32:Nat)=0 from Z,oX D k];rfl
theorem rC(D:Nat):∀(a b:Nat) (x:Nat×Nat),cV D (a+b) x=cV D b (cV D a x)
 |0,b,x=>by rw[V4];rfl
 |a+1,b,x=>by
  rw[show a+1+b=(a+b)+1 by lia];exact rC D a b _
theorem rB(D:Nat):∀(k:Nat) (x:Nat×Nat),(cV D k x).2=x.2/32^k
 |0,x=>by simp[cV]
 |k+1,x=>by
  rw[kY,rB D k x,Nat.div_div_eq_div_mul,Nat.pow_succ]
theorem zF(D:Nat):∀(k:Nat) (x:Nat×Nat),x.1<=D->(cV D k x).1<=D
 |0,x,h=>h
 |k+1,x,h=>by rw[kY];exact DL _ _ _
theorem TN{t:Vu}(h:Mk t.mask)(v:Pv t p)(a:j<=t.mask):∃n,n<10*turns t.mask/\(fx t n p).j=j:=by
 have z:(cV t.mask 13 (p.i,p.perturb)).2=0:=by
  rw[rB];exact Nat.div_eq_of_lt (UN v.pt vy)
 obtain⟨k,c,e⟩:=zS h (zF _ 13 (p.i,p.perturb) v.i) a;obtain⟨n,D,b⟩:=yq (12+k) v;refine⟨n,by unfold turns;lia,?_⟩;rw[b];rw[show 12+k+1=13+k by lia,rC,show cV _ 13 _=((cV _ 13 _).1,0)from WM Z z,oX];exact e
abbrev Lv(t:Vu)(j:Nat):Prop:=∃k:Nat,t.place[k]?=U j
structure Tb (t:Vu) (hs:a0e):Prop where
 km:Mk t.mask
 sz:t.place.size=hs.length
 rs:Rs t.place
 le:∀i j:Nat,t.place[i]?=U j->j<=t.mask
 du:t.dummies=#[]
 nf:t.place.size*5<t.mask*3
 rch:∀(i:Nat) (h:Int) (j:Nat),hs[i]?=U h->t.place[i]?=U j->∃n,(fx t n<|t.probeStart h).j=j/\∀m<n,Lv t (fx t m<|t.probeStart h).j
theorem Mk.odd(h:Mk m):m % 2=1/\7<=m/\m<=127:=by
 rcases h with rfl|rfl|rfl<;>decide
theorem gap{D:a0y}(r:Rs D):∀n,n<=D.size->(∀i:Nat,i<n->D[i]?=U i)\/∃j,j<n/\∀i:Nat,D[i]?≠U j
 |0,_=> .inl λi h=>UG h<|WK i
 |n+1,h=>by
  obtain q|⟨j,c,b⟩:=gap r n rk
  .have e:=getElem?_pos D n rk
   by_cases z:D[n]=n
   .refine .inl λi d=>?_
    by_cases w:i=n
    .subst w;rw[e,z]
    .exact q i rk
   .have lt:n<=D[n]:=by
     cases n with
     |zero=>lia
     |succ m=>
      have:=r m _ _ _ rk (q m rk) e;omega
    refine .inr ⟨n,rk,λi a=>?_⟩;obtain w|w|w:=Xd i n
    .rw[q i w]at a;lia
    .subst w;rw[e]at a;exact z<|UR a
    .have:=r n i _ _ w e a
     omega
  .exact .inr ⟨j,rk,b⟩
theorem Ro{D:a0y}(r:Rs D):∃j,j<=D.size/\∀i:Nat,D[i]?≠U j:=by
 obtain q|⟨j,c,a⟩:=gap r _ (Ug _)
 .refine⟨D.size,Ug _,λi e=>?_⟩
  have b:=(Vh.mp e).1;rw[q i b]at e;lia
 .exact⟨j,rk,a⟩
theorem Np{t:Vu}(r:Rs t.place)(d:t.dummies=#[]):∀(fuel:Nat) (p:Probe) (e:Nat),Pv t p->e<fuel->¬Lv t (fx t e p).j->
  ∃m,m<=e/\(∀a<m,∃i,t.place[i]?=U (fx t a p).j/\hashAt i≠h)/\
   ((¬Lv t (fx t m p).j/\probe.go t hashAt h fuel p=U (.empty (fx t m p).j Y))\/∃i,t.place[i]?=U (fx t m p).j/\hashAt i=h/\probe.go t hashAt h fuel p=U (.candidate (fx t m p).j i<|fx t (m+1) p))
 |0,_,_,_,h,_=>UG h<|WK _
 |fuel+1,p,e,v,hf,he=>by
  unfold probe.go;by_cases q:Lv t p.j
  .obtain⟨i,b⟩:=q
   rw[vx r b];simp only;by_cases z:hashAt i=h
   .refine⟨0,Vp _,λa D=>UG D<|WK _,.inr ⟨i,b,z,?_⟩⟩
    rw[Uf<|by rw[Xk];exact z];rfl
   .rw[Uh<|by rw[Xk];exact z]
    cases e with
    |zero=>exact UG ⟨i,b⟩ he
    |succ e=>
     obtain⟨m,D,E,c⟩:=Np r d fuel _ e (Kz v) rk he;refine⟨m+1,rk,λa f=>?_,c⟩;cases a with
     |zero=>exact⟨i,b,z⟩
     |succ a=>exact E a rk
  .rw[CH d (λi b=>q ⟨i,b⟩)]
   refine⟨0,Vp _,λa D=>UG D<|WK _,.inl ⟨q,?_⟩⟩;rw[v.du];rfl
theorem Tb.free{t:Vu}(T:Tb t hs)(v:Pv t p):∃e,e<10*turns t.mask/\¬Lv t (fx t e p).j:=by
 obtain⟨j,f,a⟩:=Ro T.rs;have:=T.nf;obtain⟨e,b,c⟩:=TN T.km v (show j<=t.mask by lia);exact⟨e,b,λ⟨k,d⟩=>a k<|by rw[<-c];exact d⟩
theorem JR{E:Type}{D:Array E}{p:Nat}{x:E}(b:p<=D.size)(i:Nat):(insertAt D p x)[i]?=if i<p then D[i]? else if i=p then U x else D[i-1]?:=by
 unfold insertAt;rw[Array.getElem?_append];have a:((D.extract 0 p).push x).size=p+1:=by simp;lia
 rw[a];by_cases q:i<p
 .rw[Uf rk,Uf q,Array.getElem?_push,Array.size_extract]
  rw[Uh rk,Array.getElem?_extract];lia
 .by_cases z:i=p
  .subst z
   rw[Uf rk,Uh (by omega),Uf Z,Array.getElem?_push,Array.size_extract,Uf rk]
  .rw[Uh rk,Uh q,Uh z,Array.getElem?_extract]
   by_cases w:i-1<D.size
   .rw[Uf rk]
    congr 1;lia
   .rw[Uh rk,WN rk]
theorem ik{E:Type}{D:Array E}{p:Nat}{x:E}(a:p<=D.size):(insertAt D p x).size=D.size+1:=by
 unfold insertAt;simp;grind
theorem Tb.put{t:Vu}{hs:a0e}(T:Tb t hs)(w:¬Lv t j)(s:(fx t n<|t.probeStart h).j=j)(L:∀m<n,Lv t (fx t m<|t.probeStart h).j)(N:(t.place.size+1)*5<t.mask*3):
  (t.put j).1.dummies=#[]/\(t.put j).1.mask=t.mask/\(t.put j).1.place.size=t.place.size+1/\(t.put j).2<=t.place.size/\Tb (t.put j).1 (hs.take (t.put j).2++h::hs.drop (t.put j).2):=by
 obtain⟨K,A,b3⟩:=kC T.rs;have v:has t.dummies j=T4:=by rw[T.du];rfl
 have r:(t.put j).1.dummies=#[]:=by
  show(if has _ j=O then _ else t.dummies)=#[];rw[v,Uh Uk,T.du]
 have G:(t.put j).1.place=insertAt _ _ j:=Z;have g:=λi=>JR (x:=j) K i;have u:∀x,Lv t x->Lv _ x:=λx ⟨k,e⟩=>by
  by_cases q:k<below t.place j
  .exact⟨k,by rw[G,g,Uf q];exact e⟩
  .exact⟨k+1,by rw[G,g,Uh rk,Uh rk];exact e⟩
 have M:∀m p,fx (t.put j).1 m p=fx t m p:=λm=>by
  induction m with
  |zero=>intro p;rfl
  |succ m P=>exact λp=>P<|t.advance p
 refine⟨r,Z,by rw[G,ik K],K,⟨T.km,?_,?_,?_,r,?_,?_⟩⟩
 .rw[G,ik K,T.sz]
  have:(t.put j).2<=hs.length:=by rw[<-T.sz];exact K
  simp;grind
 .intro i k x y l hx hy
  rw[G,g]at hx hy;by_cases E:i<below t.place j
  .rw[Uf E]at hx
   by_cases V:k<below t.place j
   .rw[Uf V]at hy
    exact T.rs i k x y l hx hy
   .rw[Uh V]at hy
    by_cases D:k=below t.place j
    .rw[Uf D]at hy;cases hy
     exact A i x E hx
    .rw[Uh D]at hy
     exact T.rs i _ x y rk hx hy
  .rw[Uh E]at hx
   rw[Uh rk,Uh rk]at hy;by_cases D:i=below t.place j
   .rw[Uf D]at hx;cases hx
    have I:=b3 _ y rk hy;have:y≠j:=λz=>(λk e=>w ⟨k,e⟩) _ (by rw[hy,z]);lia
   .rw[Uh D]at hx
    exact T.rs _ _ x y rk hx hy
 .intro i x hx
  rw[G,g]at hx;by_cases E:i<below t.place j
  .rw[Uf E]at hx;exact T.le i x hx
  .rw[Uh E]at hx
   by_cases D:i=below t.place j
   .rw[Uf D]at hx;cases hx
    have:=(pC n<|rn t h).j;show j<=t.mask;lia
   .rw[Uh D]at hx;exact T.le _ x hx
 .rw[G,ik K];exact N
 .intro i h' x C hx
  have J:(t.put j).2<=hs.length:=by rw[<-T.sz];exact K
  have o:(t.put j).2=below _ j:=Z;rw[G,g]at hx;have c:(if i<below t.place j then hs[i]? else if i=below t.place j then U h else hs[i-1]?)=U h':=by
   rw[<-C,o];by_cases E:i<below t.place j
   .rw[Uf E,Yc (by rw[Ve];lia),List.getElem?_take_of_lt E]
   .rw[Uh E,Wq (by rw[Ve];lia),Ve,Nat.min_eq_left rk]
    by_cases D:i=below t.place j
    .rw[Uf D,D,Xe];rfl
    .rw[Uh D,show i-below _ j=(i-1-below t.place j)+1 by lia,List.getElem?_cons_succ,Zl]
     congr 1;lia
  have d:∀f,hs[f]?=U h'->t.place[f]?=U x->∃n,(fx _ n<|(t.put j).1.probeStart h').j=x/\∀m<n,Lv _ (fx _ m<|(t.put j).1.probeStart h').j:=λf a b=>by
   obtain⟨F,H,o⟩:=T.rch f h' x a b;refine⟨F,by rw[M];exact H,λm S=>?_⟩;rw[M];exact u _<|o m S
  by_cases E:i<below t.place j
  .rw[Uf E]at hx c
   exact d i c hx
  .rw[Uh E]at hx c
   by_cases D:i=below t.place j
   .rw[Uf D]at hx c
    cases hx;cases c;refine⟨n,by rw[M];exact s,λm S=>?_⟩;rw[M];exact u _<|L m S
   .rw[Uh D]at hx c
    exact d _ c hx
theorem yr{t u:Vu}(h:t.mask=u.mask):∀(n:Nat) (p:Probe),fx t n p=fx u n p
 |0,p=>rfl
 |n+1,p=>by
  show fx t n _=fx u n _;have:t.advance p=u.advance p:=by unfold advance;rw[h]
  rw[this];exact yr h n _
theorem CD{t u:Vu}(h:t.mask=u.mask)(x:Int):t.probeStart x=u.probeStart x:=by unfold probeStart;rw[h]
noncomputable abbrev tm(mask:Nat):Vu:={mask,place:=#[],dummies:=#[],finger:=0,led:=O,moves:=0,plain:=O}
noncomputable abbrev fr(owner:a0w)(j:Nat):Bool:=(owner.getD j<|U 0).isNone
theorem AM{D:Nat}{owner:a0w}:∀(fuel i E:Nat),i<=D->E<2^64->(∃b,b<fuel/\fr owner (cV D b (i,E)).1=O)->
  ∃n,layClean.free D owner fuel i E=U (fx (tm D) n<|x0 (tm D) i E).j/\fr owner (fx (tm D) n<|x0 (tm D) i E).j=O/\∀m<n,fr owner (fx (tm D) m<|x0 (tm D) i E).j=T4
 |0,_,_,_,_,⟨b,h,_⟩=>UG h<|WK b
 |fuel+1,i,E,hi,hp,⟨b,hb,hf⟩=>by
  have v:=ui (t:=tm D) hi hp;obtain⟨M,A,B⟩:=vK hi;have f:(x0 (tm D) i E).more=runEnd D i-i:=Z;have d:∀k,k<=runEnd D i-i->(fx _ k<|x0 _ i E).j=i+k:=λk c=>by
   rw[uU k v c];rfl
  unfold layClean.free;split
  .rename_i k c
   obtain⟨g,l,o⟩:=List.find?_range_eq_some.mp c;have:=UD.mp l;refine⟨k,by rw[d k rk],by rw[d k rk];exact g,λm G=>?_⟩;rw[d m<|by grind];have:=o m G;simpa using this
  .rename_i c
   have K:∀k,k<=runEnd D i-i->fr _ _=T4:=λk p=>by
    have:=List.find?_range_eq_none.mp c k rk;simpa using this
   cases b with
   |zero=>
    exact UG hf (by rw[show(cV D 0 _).1=i+0 from Z,K 0 rk];exact Uk)
   |succ b=>
    obtain⟨n,u,w,y⟩:=AM fuel _ _ (DL _ _ _) (VC (Z9 _ _) hp) ⟨b,rk,hf⟩;have a:∀m,fx _ (runEnd D i-i+1+m) _=fx _ m (x0 _ _<|E/32):=λm=>by
     rw[qx,<-f,rR v];rfl
    refine⟨runEnd D i-i+1+n,by rw[a];exact u,by rw[a];exact w,λm G=>?_⟩;by_cases q:m<=runEnd D i-i
    .rw[d m q];exact K m q
    .obtain⟨e,rfl⟩:∃e,m=runEnd D i-i+1+e:=⟨m-(runEnd D i-i+1),by grind⟩
     rw[a];exact y e rk
structure Ow (mask:Nat) (owner:a0w) (hs:a0e):Prop where
 sz:owner.size=mask+1
 lt:∀j k:Nat,owner[j]?=U (U k)->k<hs.length
 un:∀j j' k:Nat,owner[j]?=U (U k)->owner[j']?=U (U k)->j=j'
 cn:owner.toList.countP (·.isSome)=hs.length
 ex:∀(k:Nat) (h:Int),hs[k]?=U h->∃j n:Nat,owner[j]?=U (U k)/\(fx (tm mask) n<|(tm mask).probeStart h).j=j/\∀m<n,∃k':Nat,owner[(fx (tm mask) m<|(tm mask).probeStart h).j]?=U (U k')
theorem EH{D:Nat}{owner:a0w}(E:owner.size=D+1){j:Nat}(b:j<=D):(fr owner j=O↔owner[j]?=U Y)/\(fr owner j=T4↔∃k:Nat,owner[j]?=U (U k)):=by
 have e:=getElem?_pos owner j (by omega);have a:owner.getD j (U 0)=owner[j]:=by simp[show j<owner.size by omega]
 unfold fr;rw[a,e];cases owner[j]<;>simp
theorem Ow.step{D:Nat}{owner:a0w}{G:a0e}(X:Ow D owner G)(h:Int)(M:Mk D)(R:G.length<=D):
  ∃j,layClean.free D owner (turns D) (bits h % (D+1)) (bits h)=U j/\Ow D (owner.setIfInBounds j<|U G.length) (G++[h]):=by
 have p:bits h % (D+1)<=D:=by have:=YX (bits h) (show D+1>0 by lia);lia
 have⟨r,h1,h2⟩:∃r,r<=D/\fr owner r=O:=by
  refine WY λz=>?_;have S:∀a∈owner.toList,Option.isSome a=O:=λa s=>by
   obtain⟨i,d,e⟩:=List.getElem_of_mem s;have I:i<owner.size:=by exact d
   have J:fr owner i=T4:=by
    cases q:fr _ i with
    |false=>rfl
    |true=>exact UG ⟨i,by have:=X.sz;lia,q⟩ z
   obtain⟨k,u⟩:=(EH X.sz (show i<=D by have:=X.sz;lia)).2.mp J;have:owner[i]?=U a:=by rw[<-XE,Ua d,e]
   rw[this]at u;cases u;rfl
  have:=List.countP_eq_length.mpr S;rw[X.cn]at this;have:=X.sz;simp at*;lia
 have z:(cV D 13 (bits h % (D+1),bits h)).2=0:=by
  rw[rB];exact Nat.div_eq_of_lt (UN (qJ h) vy)
 obtain⟨k,u,e⟩:=zS M (zF D 13 (bits h % (D+1),bits h) p) h1;have L:fr owner (cV D (13+k) (bits h % (D+1),bits h)).1=O:=by
  rw[rC,show cV D 13 _=((cV D 13 _).1,0)from WM Z z,oX];rw[e];exact h2
 obtain⟨n,B,C,N⟩:=AM (turns D) _ _ p (qJ h) ⟨13+k,by unfold turns;lia,L⟩;have F:∀m,(fx (tm D) m<|x0 (tm D) (bits h % (D+1))<|bits h).j<=D:=λm=>by
  have:=(pC m<|ui (t:=tm D) p<|qJ h).j;lia
 generalize H:(fx _ n<|x0 _ _<|bits h).j=j at B C;have P:j<=D:=by rw[<-H];exact F n
 have f:=(EH X.sz P).1.mp C;have g:j<owner.size:=by have:=X.sz;lia
 have set:∀x:Nat,(owner.setIfInBounds j<|U _)[x]?=if j=x then U (U G.length)else owner[x]?:=λx=>by
  rw[Array.getElem?_setIfInBounds];by_cases q:j=x
  .rw[Uf q,Uf q,Uf g]
  .rw[Uh q,Uh q]
 refine⟨j,B,⟨by rw[Array.size_setIfInBounds];exact X.sz,λx k E=>?_,λx y k E K=>?_,?_,λk T c=>?_⟩⟩
 .rw[set]at E
  rw[Uv];by_cases q:j=x
  .rw[Uf q]at E;cases E;simp
  .rw[Uh q]at E
   have:=X.lt x k E;lia
 .rw[set]at E K
  by_cases q:j=x
  .rw[Uf q]at E;cases E
   by_cases o:j=y
   .lia
   .rw[Uh o]at K
    exact UG (X.lt y _ K)<|Vq _
  .rw[Uh q]at E
   by_cases o:j=y
   .rw[Uf o]at K;cases K
    exact UG (X.lt x _ E)<|Vq _
   .rw[Uh o]at K
    exact X.un x y k E K
 .rw[Array.toList_setIfInBounds,List.countP_set (by exact g),X.cn]
  have:owner.toList[j]'(by exact g)=Y:=by
   have e:=getElem?_pos owner j g;rw[f]at e;exact(UR e).symm
  rw[this];simp
 .by_cases q:k<G.length
  .rw[Yc q]at c
   obtain⟨x,Q,V,l,W⟩:=X.ex k T c;refine⟨x,Q,?_,l,λm M=>?_⟩
   .rw[set,Uh (λw=>by subst w;rw[f]at V;cases V)];exact V
   .obtain⟨v,b⟩:=W m M
    exact⟨v,by rw[set,Uh (λw=>by rw[<-w,f]at b;cases b)];exact b⟩
  .have A:=(Ui.mp c).1
   rw[Uv,Vf]at A;have:k=G.length:=by lia
   subst this;rw[Wq<|Ug _,Xe]at c;cases c;refine⟨j,n,by rw[set,Uf Z],H,λm M=>?_⟩;obtain⟨v,b⟩:=(EH X.sz<|F m).2.mp<|N m M;exact⟨v,by rw[vp,set,Uh (λw=>by rw[<-w,f]at b;cases b)];exact b⟩
theorem Ow.nil(D:Nat):Ow D (Array.replicate (D+1) Y) []:=by
 have g:∀x:Nat,(Array.replicate _ (Y:a0L))[x]?=if x<D+1 then U Y else Y:=λx=>Array.getElem?_replicate;refine⟨nl,λj k h=>?_,λj b k h=>?_,nl,λk h a=>by simp at a⟩
 .rw[g]at h
  split at h<;>cases h
 .rw[g]at h
  split at h<;>cases h
theorem yi{E:Nat}(M:Mk E):∀(l:a0e) (D:a0w) (G:a0e),Ow E D G->G.length+l.length<=E+1->∃a,l.foldl (λ(K:Option<|a0w×Nat) h=>do
   let (D,k) <-K
   let j <-layClean.free E D (turns E) (bits h % (E+1)) (bits h)
   Wo (D.setIfInBounds j<|U k,k+1)) (U (D,G.length))=U (a,G.length+l.length)/\Ow E a (G++l)
 |[],D,G,g,_=>⟨D,Z,by rw[UQ];exact g⟩
 |h::l,D,G,g,hl=>by
  rw[Ur]at hl;obtain⟨j,e,d⟩:=g.step h M rk;obtain⟨f,b,c⟩:=yi M l _ _ d (by rw[Uv,Vf];lia);refine⟨f,?_,by rw[Vi]at c;exact c⟩;rw[List.foldl_cons];simp only[Option.bind_eq_bind,Wf,e];rw[Uv,Vf]at b;rw[Ur,show G.length+(l.length+1)=G.length+1+l.length by lia];exact b
theorem QP{D:Nat}(K:Mk D)(G:Array Int)(b:G.size<=D+1):∃E,layClean D G=U E/\Ow D E G.toList:=by
 obtain⟨o,e,c⟩:=yi K G.toList _ [] (Ow.nil D) (by simpa using b);refine⟨o,?_,c⟩;unfold layClean;rw[<-Array.foldl_toList];have a:=e;exact(U6 _ a).trans Z
theorem yB{D E:Type}{f:D->Option E}{g:D->E}:∀{l:List D},(∀a∈l,f a=U (g a))->l.filterMap f=l.map g
 |[],_=>rfl
 |a::l,h=>by
  rw[V7,h a Ud,Ul,yB λb c=>h b<|T3 a c]
noncomputable def cQ(E:Nat)(D:a0w):a0h:=(Ue<|E+1).filterMap λj=>(D.getD j Y).map (j,·)
theorem LS{E:Nat}{D:a0w}(G:D.size=E+1){j k:Nat}:(j,k)∈cQ E D↔D[j]?=U (U k):=by
 unfold cQ;rw[Zm];constructor
 .rintro⟨x,hx,e⟩
  have c:=UD.mp hx;have a:D.getD x Y=D[x]:=by simp[show x<D.size by omega]
  rw[a]at e;cases q:D[x]with
  |none=>rw[q]at e;cases e
  |some d=>
   rw[q]at e;simp only[VP,Option.some.injEq,Prod.mk.injEq]at e;obtain⟨rfl,rfl⟩:=e;rw[getElem?_pos D x (by omega),q]
 .intro e
  have b:=(Vh.mp e).1;refine⟨j,UD.mpr (by omega),?_⟩;have a:D.getD j Y=D[j]:=by simp[b]
  rw[getElem?_pos D j b]at e;rw[a,UR e];rfl
theorem IV(E:Nat)(D:a0w):(cQ E D).Pairwise λa b=>a.1<b.1:=by
 unfold cQ;refine List.Pairwise.filterMap _ (λa f h b d g c=>?_) List.pairwise_lt_range;cases q:D.getD a Y with
 |none=>rw[q]at d;cases d
 |some k=>
  rw[q]at d;cases e:D.getD f Y with
  |none=>rw[e]at c;cases c
  |some i=>
   rw[e]at c;cases d;cases c;exact h
theorem HC{t:Vu}{hs:Array Int}(S:Mk<|sizeAbove wanted-1)(nf:hs.size*5<(sizeAbove wanted-1)*3):
  ∃(K:Vu) (c:a0y),t.relaid hs wanted=U (K,c)/\c.toList.Perm (Ue hs.size)/\Tb K (c.toList.map λk=>hs.getD k 0)/\K.led=t.led/\K.plain=t.plain:=by
 have ho:=S.odd;obtain⟨D,e,ek⟩:=QP S hs rk;generalize N:sizeAbove _-1=mask at*;have d:hs.toList.length=hs.size:=by rfl
 have f:=IV mask D;have g:∀{j k:Nat},(j,k)∈cQ _ D↔D[j]?=U _:=LS ek.sz;have P:t.relaid hs wanted=U ({mask,place:=((cQ mask D).map (·.1)).toArray,dummies:=#[],finger:=t.finger,led:=t.led,moves:=t.movedTo mask,plain:=t.plain},((cQ mask D).map (·.2)).toArray):=by
  unfold relaid laid;rw[N,e];rfl
 have E:((cQ mask D).map (·.2)).Perm (Ue hs.size):=by
  refine(List.perm_ext_iff_of_nodup ?_ List.nodup_range).mpr λk=>?_
  .unfold List.Nodup
   rw[WH];refine List.Pairwise.imp_of_mem (λ{a b} G A h z=>?_) f;obtain⟨j,k⟩:=a;obtain⟨r,v⟩:=b;have Q:=z;subst Q;have:=ek.un j r k (g.mp G)<|g.mp A;lia
  .rw[T7,UD]
   constructor
   .rintro⟨⟨j,v⟩,h,rfl⟩
    have:=ek.lt j v<|g.mp h;rwa[d]at this
   .intro w
    obtain⟨j,n,B,_⟩:=ek.ex k _ (Ua<|by exact w);exact⟨(j,k),g.mpr B,Z⟩
 have l:(cQ mask D).length=hs.size:=by
  have:=E.length_eq;rwa[TX,UF]at this
 refine⟨_,_,P,by exact E,?_,Z,Z⟩;have M:∀{i:Nat} {x:Nat},(((cQ _ D).map (·.1)).toArray)[i]?=U x->∃k,(cQ mask D)[i]?=U (x,k):=λ{i x} h=>by
  rw[Z8,T9]at h;cases q:(cQ _ D)[i]? with
  |none=>rw[q]at h;cases h
  |some a=>
   rw[q]at h;cases h;exact⟨a.2,Z⟩
 have C:∀{j k:Nat},D[j]?=U (U k)->∃i:Nat,(((cQ _ D).map (·.1)).toArray)[i]?=U j:=λ{j k} h=>by
  obtain⟨i,T,f5⟩:=List.getElem_of_mem<|g.mpr h;exact⟨i,by rw[Z8,T9,Ua T,f5];rfl⟩
 refine⟨S,?_,?_,?_,Z,?_,?_⟩
 .show(((cQ _ D).map _).toArray).size=_
  simp
 .intro i k x y F hx hy
  obtain⟨a,G⟩:=M hx;obtain⟨b,A⟩:=M hy;obtain⟨B,H⟩:=Ui.mp G;obtain⟨W,X⟩:=Ui.mp A;have:=Ww.mp f i k B W F;rw[H,X]at this;exact this
 .intro i j h
  obtain⟨a,G⟩:=M h;have:=(Vh.mp<|g.mp<|Uo G).1;have:=ek.sz;grind
 .show(((cQ _ D).map _).toArray).size*5<mask*3
  have:(((cQ mask D).map (·.1)).toArray).size=hs.size:=by simp[l]
  lia
 .intro i h j I cb
  obtain⟨k,w⟩:=M cb;have o:=g.mp<|Uo w;have R:hs.toList[k]?=U h:=by
   rw[T9]at I;have H:((cQ mask D).map (·.2)).toArray.toList[i]?=U k:=by
    show((cQ _ D).map _)[i]?=_;rw[T9,w];rfl
   rw[H]at I;have kl:k<hs.size:=by have:=ek.lt j k o;rwa[d]at this
   have:=UR I;rw[XE,getElem?_pos hs k kl,<-this];simp[kl]
  obtain⟨r,n,s,a2,a3⟩:=ek.ex k h R;have:=ek.un j r k o s;subst this;have V:∀(u:Vu),u.mask=mask->∀m,fx u m (u.probeStart h)=fx (tm _) m _:=λu L m=>by
   rw[CD (u:=tm _) L,yr (u:=tm _) L]
  refine⟨n,by rw[V _ Z];exact a2,λm J=>?_⟩;rw[V _ Z];obtain⟨v,p⟩:=a3 m J;exact C p
theorem vM{t:Vu}(a:t.probe f h p=r)(T:Tb t g)(v:Pv t p)(b:e<10*turns t.mask)(c:¬Lv t (fx t e p).j):
  ∃m,m<=e/\(∀d<m,∃i,t.place[i]?=U (fx t d p).j/\f i≠h)/\
   ((¬Lv t (fx t m p).j/\r=U (.empty (fx t m p).j Y))\/∃i,t.place[i]?=U (fx t m p).j/\f i=h/\r=U (.candidate (fx t m p).j i<|fx t (m+1) p)):=by
 subst a;exact Np T.rs T.du _ p e v b c
section
variable{prog:UT}{w:UY}{A:Vn}{E:a0f}{s:Uj}
noncomputable abbrev jn(prog:UT)(w:UY):HeapKind prog w a0e:=tupleKind<|Z0 prog w
noncomputable abbrev hsh(prog:UT)(w:UY)(k:a0e):Int:=(jn prog w).hash k
theorem Tb.fits{t:Vu}{hs:a0e}(T:Tb t hs)(s:hs.length=n):t.fits n=O:=by
 have:=T.nf;have:=T.sz;unfold SetTable.fits SetTable.fill;rw[T.du];simp;lia
theorem items_int(h:ItemsAre (Z0 prog w) b a):∀v∈a,∃n t,v=X2 n t:=by
 induction h with
 |nil=>intro v hv;cases hv
 |@cons k v' b a h1 _ ih=>
  intro v hv;obtain rfl|hv:=Uq.mp hv
  .obtain⟨t,e⟩:=ZA h1
   exact⟨_,t,e⟩
  .exact ih v hv
theorem FQ{M:Model}{o:Vy}(b:s.heap.get? a=U o)(h:Q o.cls s):Us M A (typeOf<|.ref a) Q E s:=by
 show Us M A _ Q E s;exact My<|wpAny_loadPart b<|TZ h
theorem xV(e:(jn prog w).is s.heap k x)(h:Q T4 s):Us (UP prog w) A (ofAClassStatement 8<|.ref x) Q E s:=by
 obtain⟨o,G,n,d,f,M,g⟩:=e;unfold ofAClassStatement;refine My<|FQ d ?_;rw[f];dsimp only[Vm];refine My<|TZ ?_;refine My<|Wg d M<|My ?_;rw[<-Ym];refine Zf _ (λD r K=>r.1=Y/\K=s/\∀v∈D,∃n t,v=X2 n t) _ ?_ ?_ _ _ ⟨Z,Z,items_int g⟩
 .rintro v D r K ⟨b,rfl,a⟩
  obtain⟨n,t,rfl⟩:=a v Ud;refine My<|TZ ?_;exact TZ ⟨Z,Z,λu c=>a u<|T3 _ c⟩
 .rintro⟨r1,i⟩ K ⟨b,rfl,_⟩
  simp only at b;subst b;exact TZ h
theorem Mu(d:(jn prog w).is s.heap k x)(h:Q O s):Us (UP prog w) A (hashByValue 8<|.ref x) Q E s:=by
 have e:=IsTupleKey.typeIs d;obtain⟨o,G,n,f,i,M,g⟩:=d;refine My<|WW e F.slot_tuple_hash.lookup ?_;refine My<|Wg f M<|My ?_;rw[<-Ym];refine Zf _ (λD r K=>r.1=Y/\K=s/\∀v∈D,∃n t,v=X2 n t) _ ?_ ?_ _ _ ⟨Z,Z,items_int g⟩
 .rintro v D r K ⟨b,rfl,a⟩
  obtain⟨n,t,rfl⟩:=a v Ud;refine My<|TZ ?_;exact TZ ⟨Z,Z,λu c=>a u<|T3 _ c⟩
 .rintro⟨r1,j⟩ K ⟨b,rfl,_⟩
  simp only at b;subst b;exact TZ h
theorem Ou(f:(jn prog w).is s.heap k x):∀(l:a0q) {Q:Bool->Uj->Prop},(∀y∈l,(jn prog w).is s.heap y.1 y.2)->Q T4 s->Us (UP prog w) A (searchCouldBeSeen (.ref x)<|l.map λy=>UE y.2) Q E s:=by
 intro l Q g h;refine My<|Zf _ (λD r G=>r.1=Y/\G=s/\∃b:a0q,D=b.map _/\∀y∈b,(jn _ w).is _ y.1 y.2) _ ?_ ?_ _ _ ⟨Z,Z,l,Z,g⟩
 .rintro v D r G ⟨d,rfl,b,e,a⟩
  cases b with
  |nil=>cases e
  |cons y b=>
   cases e;have M:=a y Ud;have K:(Y:a0S)=Y/\G=G/\∃c:a0q,b.map _=c.map (λy=>UE y.2)/\∀y∈c,(jn _ w).is _ y.1 y.2:=⟨Z,Z,b,Z,λu i=>a u<|T3 y i⟩;by_cases q:x==y.2
   .simp only[q]
    exact TZ K
   .simp only[q]
    refine My<|(jn _ w).quiet f ?_;refine My<|(jn _ w).quiet M ?_;refine My<|xV f ?_;refine My<|xV M ?_;exact TZ K
 .rintro⟨r1,j⟩ G ⟨d,rfl,_⟩
  simp only at d;subst d;exact TZ h
theorem GM{o:Vy}{K:a0x}{t:Vu}{D:a0q}(hu:A.units<YJ)(ho:s.heap.get? a=U o)(hd:o.data= .set K ep t)
  (H:K.toList=D.map λx=>(hsh prog w x.1,UE x.2)) (hx:∀x∈D,(jn prog w).is s.heap x.1 x.2) (T:Tb t<|D.map λx=>hsh prog w x.1) (hk:(jn prog w).is s.heap k b)
  (he:e<10*turns t.mask) (R:¬Lv t (fx t e<|t.probeStart<|hsh prog w k).j) (ha:∀m<e,Lv t (fx t m<|t.probeStart<|hsh prog w k).j)
  (q1:k∈D.map (·.1)->Q (.there Y) s) (q2:k∉D.map (·.1)->Q (.free (fx t e<|t.probeStart<|hsh prog w k).j T4) s):
  ∀(n c m:Nat) (st:Option Probe),e=m+n->n<c->st.getD (t.probeStart<|hsh prog w k)=fx t m (t.probeStart<|hsh prog w k)->(∀g<m,∀(i:Nat) x,t.place[i]?=U (fx t g<|t.probeStart<|hsh prog w k).j->D[i]?=U x->x.1≠k)->
   Us (UP prog w) A (setSearchFrom a (.ref b) (hsh prog w k) O c st) Q E s:=by
 have ac:K.size=D.length:=by rw[<-UO,H,TX]
 have cb:t.fits K.size=O:=T.fits (by rw[TX,ac]);have l:∀i:Nat,K[i]?=(D[i]?).map λx=>(hsh _ w _,UE _):=λi=>by rw[<-XE,H,T9]
 have gw:t.gaveWay=T4:=by
  have:=T.km.odd;unfold SetTable.gaveWay;lia
 intro n
 induction n using Nat.strongRecOn with
 |_ n ih=>
  intro c m st em al ad p;cases c with
  |zero=>lia
  |succ c=>
   unfold setSearchFrom;refine My<|Wd ho hd cb ?_
   dsimp only
   rw[ad,gw];simp only[Uz,Vc];have v:=pC m<|rn t<|hsh prog w k;have M:∀n',fx t n' _=fx t _ (t.probeStart<|hsh prog w k):=λn'=>(qx t m n' _).symm;have G:∀{i eH j:Nat},t.place[i]?=U j->t.place[eH]?=U j->i=eH:=λ{i eH j} u C=>by
    obtain q|q|q:=Xd i eH
    .exact UG (T.rs i eH j j q u C) (Vq j)
    .exact q
    .exact UG (T.rs eH i j j q C u) (Vq j)
   split
   .rename_i W heq
    obtain⟨g,ae,r,d⟩:=vM heq T v (e:=n) rk (by rw[M,<-em];exact R);obtain⟨X,I⟩|⟨i,P,am,I⟩:=d
    .cases I
     have ek:g=n:=by
      obtain q|q:=Nat.lt_or_ge g n
      .rw[M]at X
       exact UG (ha _ rk) X
      .lia
     subst ek;apply TZ;rw[M,<-em];refine q2 λf5=>?_;obtain⟨x,af,J⟩:=T7.mp f5;obtain⟨B,ag,ah⟩:=List.getElem_of_mem af;have h:D[B]?=U x:=by rw[Ua ag,ah]
     have L:B<t.place.size:=by have:=T.sz;rw[TX]at this;lia
     obtain⟨F,a1,a2⟩:=T.rch B (hsh _ w k) _ (by rw[T9,h,<-J];rfl)<|getElem?_pos _ B L;have an:F<e:=by
      obtain q|q|q:=Xd F e
      .exact q
      .subst q
       exact UG ⟨B,by rw[a1];exact getElem?_pos _ B L⟩ R
      .exact UG (a2 e q) R
     have V:t.place[B]?=U (fx t F<|t.probeStart<|hsh prog w k).j:=by rw[a1];exact getElem?_pos _ B L
     by_cases q:F<m
     .exact p F q B x V h J
     .obtain⟨i,u,C⟩:=r (F-m) (by grind)
      rw[M,show m+(F-m)=F by grind]at u;have:=G u V;subst this;apply C;show(K[i]?.map _).getD 0=_;rw[l,h,<-J];rfl
    .cases I
     have N:i<D.length:=by
      have u:=(Vh.mp P).1;have:=T.sz;rw[TX]at this;lia
     have h:=Ua N;have aa:K[i]?=U (hsh prog w D[i].1,UE D[i].2):=by rw[l,h];rfl
     have ai:=hx _<|Vj N;rw[M]at P;simp only;have el:(Vx (λx=>x.snd) (Array.filter (λx=>x.fst==hsh prog w k) K).toList)=(D.filter λy=>hsh prog w y.1==hsh prog w k).map λy=>UE y.2:=by
      rw[Array.toList_filter,H,List.filter_map,Ub];rfl
     rw[el];have sm:t.sameMemory t.moves t.mask=U O:=by unfold sameMemory;simp
     have sl:=vx T.rs P;cases ak:t.led
     all_goals simp only[WT,M,aa]
     all_goals try refine My<|(λhq=>Ou hk _ (λy hy=>hx y (VS.mp hy).1) hq) ?_
     all_goals
      refine My<|VB<|(jn _ w).eqBool hu ai hk<|My<|Wd ho hd cb ?_;rw[XF];by_cases q:D[i].1=k
      .rw[Uf<|Ux q]
       exact TZ<|q1<|T7.mpr ⟨D[i],Vj N,q⟩
      .rw[Uh<|by simpa using q]
       simp only[sm,Vm,sl,aa];apply My;unfold isSame;simp only[beq_self_eq_true];refine TZ<|My<|TZ ?_;simp only[Vm];rw[Uh<|by simpa using q];have ek:g<n:=by
        obtain z|z:=Nat.lt_or_ge g n
        .exact z
        .obtain rfl:g=n:=by lia
         rw[<-em]at P;exact UG ⟨i,P⟩ R
       refine ih (n-(g+1)) rk c _ _ rk rk Z λS ao i2 x2 u C z=>?_;by_cases q1:S<m
       .exact p S q1 i2 x2 u C z
       .by_cases q2:S=m+g
        .subst q2
         have:=G P u;subst this;rw[h]at C;cases C;exact q z
        .obtain⟨i3,h3,h4⟩:=r (S-m) (by grind)
         rw[M,show m+(S-m)=S by grind]at h3;have:=G h3 u;subst this;apply h4;show(K[i3]?.map _).getD 0=_;rw[l,C,<-z];rfl
   .rename_i hno
    have aj:∀f:Nat->Int,(∀W,t.probe f (hsh prog w k) _=U W->False)->False:=λf cb=>by
     obtain⟨g,ae,r,d⟩:=vM Z T v (e:=n) rk (by rw[M,<-em];exact R);obtain⟨_,I⟩|⟨i,_,_,I⟩:=d
     .exact cb _ I
     .exact cb _ I
    exact(aj _ hno).elim
theorem least{P:Nat->Prop}:∀n,P n->∃m,m<=n/\P m/\∀k<m,¬P k:=by
 intro n
 induction n using Nat.strongRecOn with
 |_ n ih=>
  intro h;by_cases q:∃k,k<n/\P k
  .obtain⟨k,a,b⟩:=q
   obtain⟨m,d,c⟩:=ih k a b;exact⟨m,rk,c⟩
  .exact⟨n,Ug n,h,λk a b=>q ⟨k,a,b⟩⟩
def vf(prog:UT)(w:UY)(h:Vl)(a:T8)(s:a0q):Prop:=
 ∃o A D t,h.get? a=U o/\o.ExactSet/\o.data= .set A D t/\(A.toList=s.map λx=>(hsh prog w x.1,UE x.2))/\(s.map (·.1)).Nodup/\(∀x∈s,(jn prog w).is h x.1 x.2)/\(Tb t<|s.map λx=>hsh prog w x.1)/\t.plain=O/\t.led=!(w.params.followText "set-order")
theorem sf{h A:Vl}{o:Vy}{l m t}(x:(jn prog w).is h k b)(g:h.get? a=U o)(D:o.data= .set l m t)(hs:UU a h A):(jn prog w).is A k b:=by
 obtain⟨f,s,n,d,i,c,j⟩:=x;have e:b≠a:=by
  rintro rfl;obtain rfl:f=o:=UR<|d.symm.trans g;rw[D]at c;exact nomatch c
 exact⟨f,s,n,(hs.2 b e).trans d,i,c,j⟩
theorem vo{h:Vl}{o:Vy}(c:h.get? a=U o)(w:o.data= .set e d t)(b:a0x)(s:Vu):(h.update a<|Z6 b s).get? a=U {o with data:= .set b (d+1) s}:=by
 have:=W2 (Z6 b s) c (by rw[putSet_of b s w];rfl);rw[putSet_of b s w]at this;exact this
theorem Qa{t:Vu}(T:Tb t hs)(j:Nat):(t.put j).1.dummies=#[]/\(t.put j).1.place.size=t.place.size+1/\(t.put j).2<=t.place.size:=by
 obtain⟨s,a,b3⟩:=kC T.rs;have w:has t.dummies j=T4:=by rw[T.du];rfl
 refine⟨?_,ik s,s⟩;show(if has _ j=O then _ else t.dummies)=#[];rw[w,Uh Uk,T.du]
theorem OQ{w D:Type}{A:List w}{s:Array D}{f:w->D}(e:s.toList=A.map f){p:Nat}(c:p<=s.size)(x:w):(insertAt s p<|f x).toList=(A.take p++x::A.drop p).map f:=by
 unfold insertAt;simp only[Array.toList_append,Array.toList_push,Array.toList_extract];have a:(s.toList.extract 0 p)=s.toList.take p:=by rfl
 have b:(s.toList.extract p s.size)=s.toList.drop p:=by
  simp only[List.extract];rw[WR nl]
 rw[a,b,e,UK,Ul,ZL,Xg,Vi];rfl
theorem RK{D:a0q}(hu:A.units<YJ)(S:vf prog w s.heap a D)(hk:(jn prog w).is s.heap k b)(hn:D.length<63)
  (h:∀K q,UU a s.heap K->vf prog w K a q->(k∈D.map (·.1)->q=D)->(k∉D.map (·.1)->q.Perm ((k,b)::D))->Q (decide (k∉D.map (·.1))) {s with heap:=K}):
  Us (UP prog w) A (setAddHashed a (.ref b)<|hsh prog w k) Q E s:=by
 have S0:=S;obtain⟨o,G,ep,t,g,X,V,W,af,hx,T,hp,J⟩:=S;have F:G.size=D.length:=by rw[<-UO,W,TX]
 have hf:t.fits G.size=O:=T.fits (by rw[TX,F]);have f5:t.place.size=D.length:=by rw[T.sz,TX]
 obtain⟨e0,ag,ah⟩:=T.free<|rn t<|hsh _ w k;obtain⟨e,aj,hl,f⟩:=least (P:=λe=>¬Lv t (fx t e<|t.probeStart<|hsh _ w k).j) e0 ah;have ha:=λm M=>Classical.not_not.mp<|f m M;have ak:=T.km.odd;refine VB<|My<|Wd g V hf ?_;dsimp only[Uz];apply My;refine GM hu g V W hx T hk rk hl ha (λM=>?_) (λM=>?_) e 100000 0 Y rk (by unfold turns at ag;lia) Z (λm' ai=>UG ai<|WK _)
 .apply TZ
  have:=h _ D (UU.refl a _) S0 (λ_=>Z) (λz=>UG M z);rw[UX (λz=>z M)]at this;exact this
 .have hQ:=λK q h1 h2 h3=>by
   have:=h K q h1 h2 (λz=>UG z M) (λ_=>h3);rwa[Ux M]at this
  simp only;refine My<|Wd g V hf ?_;generalize hj:(fx t e<|t.probeStart<|hsh _ w k).j=j at hl;obtain⟨pd,ps,pl⟩:=Qa T j;generalize y:t.put j=tp at pd ps pl;obtain⟨u,p⟩:=tp;have l:u.plain=O:=by
   have:(t.put j).1.plain=t.plain:=Z;rw[y]at this;rw[this,hp]
  have L:u.led=t.led:=by
   have:(t.put j).1.led=t.led:=Z;rw[y]at this;exact this
  have v:u.mask=t.mask:=by
   have:(t.put j).1.mask=t.mask:=Z;rw[y]at this;exact this
  rw[l];refine My<|Mu hk ?_;simp only[Vm];have N:=OQ W (p:=p) rk (k,b);have B:(insertAt G p (hsh prog w k,UE b)).size=G.size+1:=ik rk;have d:(D.take p++(k,b)::D.drop p).Perm ((k,b)::D):=by
   have:=List.perm_middle (a:=(k,b)) (l₁:=D.take p) (l₂:=D.drop p);rwa[Wa]at this
  have nd1:((D.take p++(k,b)::D.drop p).map (·.1)).Nodup:=by
   apply(d.map _).nodup_iff.mpr;rw[Ul,Vs];exact⟨M,af⟩
  refine My (wpAny_storeSet_of g V ?_<|by rw[B,V5];lia);have H:=VO s.heap a<|Z6 (insertAt G p (hsh prog w k,UE b)) u;have g1:=vo g V (insertAt G p (hsh prog w k,UE b)) u;have aa:∀x∈D.take p++(k,b)::D.drop p,(jn _ w).is _ x.1 x.2:=λx hx'=>by
   obtain rfl|hx':=Uq.mp (d.mem_iff.mp hx')
   .exact sf hk g V H
   .exact sf (hx x hx') g V H
  by_cases r:u.tooFull=O
  .simp only[r]
   have fu:u.fill*5≥u.mask*3:=by exact WE r
   have fe:u.fill=D.length+1:=by unfold SetTable.fill;rw[pd,ps,f5];rfl
   have al:=T.nf;have f1:u.fits (insertAt G p (hsh prog w k,UE b)).size=O:=by
    unfold SetTable.fits;rw[B,fe,ps,f5,F,v];simp;lia
   have wm:Mk (sizeAbove (grown<|G.size+1)-1)/\(G.size+1)*5<(sizeAbove (grown<|G.size+1)-1)*3/\sizeAbove (grown<|G.size+1)<=128:=by
    rw[fe,v]at fu;rw[F];obtain z|z|z:=T.km
    .have:D.length=4:=by lia
     rw[this];exact⟨.inr (.inl vy),vy,vy⟩
    .have:D.length=18:=by lia
     rw[this];exact⟨.inr (.inr vy),vy,vy⟩
    .lia
   have C:(Array.map (λx=>x.fst)<|insertAt G p (hsh prog w k,UE b)).size=G.size+1:=by rw[Array.size_map,B]
   obtain⟨t2,c,er,op,T2,ab,I⟩:=HC wm.1 (by rw[C];exact wm.2.1);apply My;refine My<|Wd g1 Z f1 ?_;simp only;rw[Uh<|by rw[V5];lia,er];generalize am:insertAt G p _=es1 at*;generalize an:D.take p++(k,b)::D.drop p=xs1 at*;have l1:xs1.length=G.size+1:=by rw[d.length_eq,Ur,F]
   have cb:∀i,i<xs1.length->es1[i]?=U (hsh _ w (xs1.getD i _).1,UE (xs1.getD i (k,b)).2):=λi R=>by
    rw[<-XE,N,T9,Ua R,T6,Ua R];rfl
   have om:∀i∈c.toList,i<xs1.length:=λi R=>by
    have:=UD.mp<|op.mem_iff.mp R;lia
   have ac:(c.filterMap λx=>es1[x]?).toList=(c.toList.map λi=>xs1.getD i (k,b)).map λx=>(hsh prog w x.1,UE x.2):=by
    rw[Array.toList_filterMap,yB λi R=>cb i<|om i R,Ub];rfl
   have n:(c.toList.map λi=>xs1.getD i (k,b)).Perm xs1:=by
    refine(op.map _).trans<|List.Perm.of_eq ?_;rw[C,<-l1];refine Wj nl λi h1 h2=>?_;rw[WX,Xq,T6,Ua h2];rfl
   have ad:(c.filterMap λx=>es1[x]?).size=es1.size:=by
    rw[<-UO,ac,TX,n.length_eq,l1,B]
   apply My;show Us _ _ (if((c.filterMap λx=>es1[x]?).size !=es1.size)=O then _ else _) _ _ _;rw[Uh<|by rw[ad];simp];refine TZ<|wpAny_storeSet_of g1 Z ?_ (by rw[ad,B,V5];lia);have ae:=VO (s.heap.update a<|Z6 es1 u) a<|Z6 (c.filterMap λx=>es1[x]?) t2;refine TZ<|hQ _ _ (H.trans ae) ⟨_,_,_,t2,vo g1 Z _ t2,X,Z,ac,?_,λx hx'=>?_,?_,by rw[I,l],by rw[ab,L,J]⟩<|n.trans d
   .exact(n.map _).nodup_iff.mpr nd1
   .exact sf (aa x<|n.mem_iff.mp hx') g1 Z ae
   .have eh:(c.toList.map λi=>xs1.getD i (k,b)).map (λx=>hsh prog w x.1)=c.toList.map λi=>(es1.map (·.1)).getD i 0:=by
     rw[Ub];refine UH λi R=>?_;have h2:(es1.map (·.1))[i]?=U (hsh prog w (xs1.getD i (k,b)).1):=by rw[Array.getElem?_map,cb i<|om i R];rfl
     obtain⟨h4,h5⟩:=(Vh.mp h2);rw[Zk];rw[<-h5];simp[Xb];lia
    rw[eh];exact T2
  .simp only[r]
   refine TZ<|hQ _ _ H ⟨_,_,_,u,g1,X,Z,N,nd1,aa,?_,l,by rw[L,J]⟩ d;have nf:(t.place.size+1)*5<t.mask*3:=by
    have:¬(u.fill*5≥u.mask*3):=by
     exact λz=>r (by exact Ux z)
    unfold SetTable.fill at this;rw[pd,ps,v]at this;simp at this;omega
   have:=(T.put hl hj (ha) nf).2.2.2.2;rw[y]at this;rw[UK,Ul,ZL,Xg];exact this
end
namespace F2
theorem si_next:Slot "set_iterator" "__next__" "set_iterator.__next__":= .of (owner:="set_iterator") (n:="__next__") (by rw[typeLookup_type,builtinLookup_eq_fast];kernel_rfl) (by decide +kernel) (by decide +kernel) (by decide +kernel)
  (by first|exact .inl (by decide +kernel)|exact .inr (by decide +kernel)) (by rw[YZ];kernel_rfl)
theorem si_iter:Slot "set_iterator" "__iter__" "set_iterator.__iter__":= .of (owner:="set_iterator") (n:="__iter__") (by rw[typeLookup_type,builtinLookup_eq_fast];kernel_rfl) (by decide +kernel) (by decide +kernel) (by decide +kernel)
  (by first|exact .inl (by decide +kernel)|exact .inr (by decide +kernel)) (by rw[YZ];kernel_rfl)
theorem ent_next:entryFor table "set_iterator.__next__"=U Builtin.«set_iterator.__next__»:=entryFor_of_tree mh
theorem ent_iter:entryFor table "set_iterator.__iter__"=U Builtin.«dict_keyiterator.__iter__»:=entryFor_alias (id':="dict_keyiterator.__iter__") mh Z (by decide +kernel) mh
theorem ent_set_iter:entryFor table "set.__iter__"=U Builtin.«frozenset.__iter__»:=entryFor_alias (id':="frozenset.__iter__") mh Z (by decide +kernel) mh
theorem args_next(a:Uc):argsOk "set_iterator.__next__" ⟨[a],[]⟩:=by unfold argsOk;kernel_rfl
theorem args_iter(a:Uc):argsOk "set_iterator.__iter__" ⟨[a],[]⟩:=by unfold argsOk;kernel_rfl
end F2
theorem ub{D:Type}:∀{l:List D} {i:Nat} (h:i<l.length),(l[i]::l.eraseIdx i).Perm l
 |[],i,h=>UG h<|WK i
 |a::l,0,h=> .refl _
 |a::l,i+1,h=>by
  show(l[i]'(by simpa using h)::a::l.eraseIdx i).Perm _;exact(List.Perm.swap _ _ _).trans<|(ub<|by simpa using h).cons a
theorem zQ{D:Type}(next:a0O):∀(fuel k:Nat) (left:List D) (a:Array D),left.length<=fuel->(pickOrder.go next fuel k left a).toList.Perm (a.toList++left)
 |0,k,left,a,h=>by
  have:left=[]:=ZT.mp rk;subst this;unfold pickOrder.go;rw[UQ]
 |fuel+1,k,left,a,h=>by
  unfold pickOrder.go;cases left with
  |nil=>simp
  |cons c d=>
   have b:next k % (c::d).length<(c::d).length:=YX _ nl
   rw[Ua b];apply(zQ _ fuel _ _ _ (by rw[List.length_eraseIdx_of_lt b];lia)).trans
   rw[Array.toList_push,Vi];exact List.Perm.append_left _<|ub b
theorem HN{D:Type}(next:a0O)(xs:Array D):(pickOrder next xs).toList.Perm xs.toList:=by
 unfold pickOrder;apply(zQ _ xs.size 0 _ #[] nl).trans
 simp
section
variable{prog:UT}{w:UY}{A:Vn}{E:a0f}{s:Uj}
noncomputable def fq(w:UY)(a:T8)(ep:Nat)(s:a0x):a0x:=if w.params.followText "set-order"=O then pickOrder (w.params.setOrder a ep) s else s
theorem ny(w:UY)(a:T8)(ep:Nat)(s:a0x):(fq w a ep s).toList.Perm s.toList:=by
 unfold fq;split
 .exact HN _ _
 .exact .refl _
structure SIt (w:UY) (h:Vl) (I a:T8) (es:a0x) (ep:Nat) (t:Vu) (i:Nat):Prop where
 st:∃o,h.get? a=U o/\o.data= .set es ep t
 it:∃(o:Vy) (sl:Nat),h.get? I=U o/\o.cls= .type "set_iterator"/\o.data= .fields #[.int sl 0,.int i 0,.ref a,.int es.size 0,.int ep 0]/\(w.params.followText "set-order"=T4->below t.place sl=i)
theorem pT{M:Model}(h:Q (M.w.params.followText "set-order") s):Us M A setsByText Q E s:=by
 unfold setsByText;exact My<|Ze<|TZ h
theorem ID{D:a0x}{t:Vu}{e:Int×Uc}(T:Tb t hs)(h:t.fits D.size=O)(H:t.plain=O)(J:t.led=!(w.params.followText "set-order"))(x:SIt w s.heap I a D ek t i)(k:I≠a)(l:(fq w a ek D)[i]?=U e)
  (L:∀M,SIt w M I a D ek t (i+1)->UU I s.heap M->Q (U e.2) {s with heap:=M}):Us (UP prog w) A (X3<|.ref I) Q E s:=by
 obtain⟨⟨N,b,c⟩,o,V,n,u,G,p⟩:=id x;have y:s.TypeIs (.ref I) "set_iterator":=⟨o,n,u⟩;refine My<|XX<|wpAny_callSpecial?_slot y F2.si_next<|U2 F2.si_next y F2.ent_next ?_<|F2.args_next _;refine My<|TZ<|My<|Y0 n G ?_;refine My<|wpAny_setEntries_of b c h ?_;rw[XG];apply My;simp only[VA]
 have d:∀K:Nat,(w.params.followText "set-order"=T4->below _ K=i+1)->Us (UP prog w) A.in1 (do
    setField _ 0 _
    setField _ 1 (XO<|i+1)
    ret _) (λd S=>∃v,d=Fin.done (Flow.ret v)/\Us (UP prog w) A (Wo<|U v) Q E S) (λe S=>Us (UP prog w) A (do
     if(<-isInstance e (Xf "StopIteration"))=O then Wo Y else throw e) Q E S) s:=λK r=>by
  refine My<|Xx n G nl ?_;have B:(s.heap.update I<|Obj.mapFields (·.setIfInBounds 0 (XO K))).get? I=U _:=W2 _ n<|YR<|V3 G _;refine My<|Xx B (V3 G _) nl<|TZ ⟨_,Z,TZ<|L _ ⟨⟨N,?_,c⟩,⟨_,K,W2 _ B<|YR<|V3 (V3 G _) _,?_,?_,r⟩⟩<|(VO ..).trans<|VO ..⟩
  .rw[Ws _ _ _ _<|Ne.symm k,Ws _ _ _ _<|Ne.symm k];exact b
  .rw[ZN,ZN];exact u
  .rw[V3<|V3 G _];simp[XO]
 unfold setNext;refine My<|Wd b c h<|My<|pT ?_;have C:(UP prog w).w=w:=Z;rw[C];cases q:w.params.followText "set-order"
 .have f:fq w a ek D=D:=by unfold fq;rw[q];rfl
  rw[f]at l;have cb:=(Vh.mp l).1;simp only[Uz,Vc];have P:t.place.size=D.size:=by
   unfold SetTable.fits at h;simp only[US,Xk]at h;exact h.1
  rw[Uh (λz=>by
   have F:(!t.plain&&decide _)=O:=z;rw[H]at F;cases F)]
  apply My;show Us _ _ (if(!t.led&&!D.isEmpty)=O then _ else _) _ _ _;rw[Uh<|by rw[J,q];exact Uk];refine TZ<|TZ ?_;have g:=getElem?_pos t.place i (by omega);rw[p q,l,g];refine d _ λ_=>?_;obtain⟨f5,R,b3⟩:=kC (j:=t.place[i]+1) T.rs;obtain z|z|z:=Xd (below t.place<|t.place[i]+1) (i+1)
  .have:=b3 i _ rk g
   lia
  .exact z
  .have m:=getElem?_pos t.place (i+1) (by grind)
   have W:=R _ _ z m;have X:=T.rs i _ _ _ rk g m;grind
 .have f:fq w a ek D=pickOrder (w.params.setOrder a ek) D:=by unfold fq;rw[q];rfl
  rw[f]at l;rw[XG];apply My;refine My<|Wd b c h<|My<|pT ?_;rw[C,q];refine My<|Ze<|TZ<|TZ ?_;rw[show((UP _ w).w.params.setOrder a ek)=w.params.setOrder a ek from Z,l];exact d _ λz=>by rw[q]at z;cases z
theorem LD{D:a0x}{t:Vu}(r:A.handled=Y)(T:Tb t J)(g:t.fits D.size=O)(u:t.plain=O)(y:t.led=!(w.params.followText "set-order"))(x:SIt w s.heap I a D H t D.size)
  (B:∀K,Heap.ExtBut I s.heap K->Q Y {s with heap:=K}):Us (UP prog w) A (X3<|.ref I) Q E s:=by
 obtain⟨⟨F,d,f⟩,o,S,h,C,M,i⟩:=id x;have l:s.TypeIs (.ref I) "set_iterator":=⟨o,h,C⟩;refine My<|XX<|wpAny_callSpecial?_slot l F2.si_next<|U2 F2.si_next l F2.ent_next ?_<|F2.args_next _;refine My<|TZ<|My<|Y0 h M ?_;refine My<|wpAny_setEntries_of d f g ?_;rw[XG];apply My;simp only[VA]
 have c:Us (UP prog w) A.in1 (do
    setField (UE I) 2 U4
    let e <-newExc (Xf "StopIteration") []
    (raiseNew e:Sem _)) (λc G=>∃v,c=Fin.done (Flow.ret v)/\Us (UP prog w) A (Wo<|U v) Q E G) (λe G=>Us (UP prog w) A (do
     if(<-isInstance e (Xf "StopIteration"))=O then Wo Y else throw e) Q E G) s:=by
  refine My<|Xx h M nl<|My ?_;refine My (U1 (My<|XI (by first|rfl|(simp only;rfl)) ?_)<|by size_fits)
  refine U1 ?_ (by size_fits);simp only;refine My<|wpAny_handled ?_;rw[show A.in1.handled=Y from r];refine My<|TZ<|wpAny_throw ?_;exact My<|Wp ⟨_,Ut _ Z,Z⟩ isSubtype_stop<|TZ<|B _<|((VO ..).extBut.push _).push _
 unfold setNext;refine My<|Wd d f g<|My<|pT ?_;have n:(UP prog w).w=w:=Z;rw[n];have j:(fq w a H D).size=D.size:=by rw[<-UO,(ny w a H D).length_eq,UO]
 cases q:w.params.followText "set-order"
 .simp only[Uz,Vc]
  rw[Uh (λz=>by
   have p:(!t.plain&&decide _)=O:=z;rw[u]at p;cases p)]
  apply My;show Us _ _ (if(!t.led&&!D.isEmpty)=O then _ else _) _ _ _;rw[Uh<|by rw[y,q];exact Uk];refine TZ<|TZ ?_;rw[i q,WN<|Ug _];exact c
 .have k:fq w a H D=pickOrder (w.params.setOrder a H) D:=by unfold fq;rw[q];rfl
  rw[XG];apply My;refine My<|Wd d f g<|My<|pT ?_;rw[n,q];refine My<|Ze<|TZ<|TZ ?_;rw[show((UP _ w).w.params.setOrder a H)=w.params.setOrder a H from Z,<-k,WN<|by rw[j];exact Ug _];exact c
theorem SIt.at{h h':Vl}(x:SIt w h I a es ep t i)(k:∀b,b=I\/b=a->∀o,h.get? b=U o->h'.get? b=U o):SIt w h' I a es ep t i:=by
 obtain⟨⟨e,c,d⟩,o,s,f,r⟩:=x;exact⟨⟨e,k a (.inr Z) e c,d⟩,o,s,k I (.inl Z) o f,r⟩
theorem KM(q:A.handled=Y){D:a0x}{t:Vu}(T:Tb t x)(l:t.fits D.size=O)(m:t.plain=O)(n:t.led=!(w.params.followText "set-order"))(f:I≠a):
  Walks prog w A I [I,a] [I] D.size (λi v=>∃e,(fq w a ep D)[i]?=U e/\v=e.2) (λi h=>SIt w h I a D ep t i) where
 sub:=λb c=>by simp at c;simp[c]
 frame:=λ_ _ _ G r=>G.at λb c o e=>r b (by simpa using c) o e
 item:=λi s Q E L G d=>by
  have u:(fq w a ep D).size=D.size:=by rw[<-UO,(ny w a ep D).length_eq,UO]
  have p:(fq w a ep D)[i]?=U _:=getElem?_pos _ i rk;exact ID T l m n G f p λK g y=>d _ K _ ⟨_,p,Z⟩ g λb o c e=>y.extBut b o (λh=>c<|by simp[h]) e
 done:=λs Q E G d=>LD q T l m n G λK j=>d K _ λb o c e=>j b o (λh=>c<|by simp[h]) e
 self:=λi s Q E G d=>by
  obtain⟨⟨N,B,C⟩,o,M,F,H,S,J⟩:=G;have k:s.TypeIs (.ref I) "set_iterator":=⟨o,F,H⟩;refine Y1 k F2.si_iter<|U2 F2.si_iter k F2.ent_iter ?_<|F2.args_iter _;exact TZ ⟨_,Z,"set_iterator",_,k,F2.si_next.lookup,d⟩
end
end L2.Hs
namespace L2.Hs
open PySem.SetTable
section
variable{prog:UT}{w:UY}{A:Vn}{E:a0f}{s:Uj}
theorem L5{o:Vy}{D:a0x}{t:Vu}(b:s.heap.get? a=U o)(f:o.cls= .type "set")(G:o.data= .set D ep t)(c:t.fits D.size=O)(g:t.plain=O)
  (h:Q (.ref s.heap.objs.size) {s with heap:=s.heap.push {cls:= .type "set_iterator",data:= .fields #[.int (0:Nat) 0,.int (0:Nat) 0,.ref a,.int D.size 0,.int ep 0]}}):Us (UP prog w) A (pyIter<|.ref a) Q E s:=by
 have d:s.TypeIs (.ref a) "set":=⟨o,b,f⟩;refine Y1 d F.slot_set_iter<|U2 F.slot_set_iter d F2.ent_set_iter ?_<|F.args_set_iter_1 _;refine My<|XI (a:=a) Z<|My<|My<|wpAny_setEntries_of b G c<|TZ ?_;apply My;refine My<|Wd b G c<|My<|pT<|TZ ?_;rw[Uh (λz=>by
  have e:(!((UP _ w).w.params.followText "set-order")&&(!t.plain&&decide _))=O:=z;rw[g]at e;simp at e)]
 refine My<|TZ<|My<|wpAny_setEpoch_of b G c ?_;exact My<|U1<|TZ ⟨_,Z,"set_iterator",_,⟨_,Ut _ Z,Z⟩,F2.si_next.lookup,h⟩
theorem zd{o:Vy}{G:a0x}{t:Vu}(hh:A.handled=Y)(R:s.heap.get? a=U o)(B:o.cls= .type "set")(V:o.data= .set G ep t)(T:Tb t hs)(cb:t.fits G.size=O)(X:t.plain=O)(hl:t.led=!(w.params.followText "set-order"))
  (aa:G.size<=1000)
  (hQ:∀S ek x,(∀b o,s.heap.get? b=U o->S.get? b=U o)->s.heap.objs.size<=S.objs.size->s.toks<=ek->x.Perm (G.toList.map (·.2))->Q x {s with heap:=S,toks:=ek}):Us (UP prog w) A (collect<|.ref a) Q E s:=by
 unfold collect;refine My<|wpAny_runValue<|Zv F.entry_proto_collect ?_;rw[YM F.plain_proto_collect _];show Us _ A.in1 (newList []>>=λl=>again<|.builtin "list.__iadd__" ⟨[l,.ref a],[]⟩) _ _ s;refine My<|U1 ?_;refine TZ ⟨plainId_quiet ZS _,Zv F.entry_list_iadd ?_⟩;rw[YM ZS _];have ha:=UJ R;have g:(s.heap.push {cls:= .type "list",data:= .seq ([]:a0g).toArray}).get? a=U o:=T1 _ R;have C:(s.heap.push {cls:= .type "list",data:= .seq ([]:a0g).toArray}).get? s.heap.objs.size=U {cls:= .type "list",data:= .seq ([]:a0g).toArray}:=Ut _ Z;have r:s.heap.objs.size≠a:=WV ha;have y:XQ (.ref s.heap.objs.size) (.ref a)=T4:=by simp[XQ,r]
 have H:(⟨s.heap.push {cls:= .type "list",data:= .seq ([]:a0g).toArray},s.gens,s.drawn,s.toks,s.os⟩:Uj).TypeIs (.ref a) "set":=⟨o,g,B⟩;show Us _ A.in1 (Xi (.ref s.heap.objs.size) (.ref a)<|.ref s.heap.objs.size) _ _ _;unfold Xi;refine My<|wpAny_typeOf H ?_;rw[Uh<|by rw[y];decide];refine My<|L5 g B V cb X ?_;refine My<|VB ?_;unfold Builtin.List.listLengthHint;have n:(⟨(s.heap.push {cls:= .type "list",data:= .seq ([]:a0g).toArray}).push {cls:= .type "set_iterator",data:= .fields #[.int (0:Nat) 0,.int (0:Nat) 0,.ref a,.int G.size 0,.int ep 0]},s.gens,s.drawn,s.toks,s.os⟩:Uj).TypeIs (.ref a) "set":=⟨o,T1 _ g,B⟩;refine My (WW n F.slot_set_len.lookup ?_)
 (generalize u:("set.__len__":String)=id0;wp_delta;rw[show splitId id0=U ("set","__len__")from by subst u;decide +kernel];subst u)
 refine My<|Wp (b:=O) n (by rw[YZ];kernel_rfl) ?_;rw[Uh vy];show Us _ _ (if _ then _ else _) _ _ _;rw[Uf vy];refine My<|wpAny_typeOf n ?_;refine TZ ?_;rw[Uf vy];refine My<|Xm ?_;have f5:(s.heap.push {cls:= .type "list",data:= .seq ([]:a0g).toArray}).objs.size=s.heap.objs.size+1:=by rw[size_push']
 generalize h:(s.heap.push {cls:= .type "list",data:= .seq ([]:a0g).toArray}).push {cls:= .type "set_iterator",data:= .fields #[.int (0:Nat) 0,.int (0:Nat) 0,.ref a,.int G.size 0,.int ep 0]}=d;have gS:d.get? s.heap.objs.size=U (WL "list" #[] 0):=by rw[<-h];exact T1 _ C
 have gI:d.get? (s.heap.objs.size+1)=U {cls:= .type "set_iterator",data:= .fields #[.int (0:Nat) 0,.int (0:Nat) 0,.ref a,.int G.size 0,.int ep 0]}:=by rw[<-h,<-f5];exact Ut _ Z
 have ga:d.get? a=U o:=by rw[<-h];exact T1 _ g
 have p:∀b f,s.heap.get? b=U f->d.get? b=U f:=λb f e=>by rw[<-h];exact T1 _<|T1 _ e
 unfold Builtin.List.listTouch;refine My<|My<|Yz gS Z ?_ (by show 0<=_;lia) (by show 1<=_;lia);obtain⟨e1,g1⟩:∃e1,(d.update s.heap.objs.size<|VD λD=>D.push U4).get? s.heap.objs.size=U (WL "list" #[U4] e1):=⟨_,get?_update_seq gS λD=>D.push U4⟩;refine Yz g1 Z ?_ (by show 1<=UC;decide) (by show 0<=_;lia);obtain⟨J,g2⟩:∃J,((d.update s.heap.objs.size<|VD λD=>D.push U4).update s.heap.objs.size<|VD λD=>D.pop).get? s.heap.objs.size=U (WL "list" #[] J):=⟨_,get?_update_seq g1 λD=>D.pop⟩;have c:∀b f,b≠s.heap.objs.size->d.get? b=U f->((d.update s.heap.objs.size<|VD λD=>D.push U4).update s.heap.objs.size<|VD λD=>D.pop).get? b=U f:=λb f q e=>by
  rw[Ws _ _ _ _ q,Ws _ _ _ _ q];exact e
 generalize (d.update s.heap.objs.size<|VD λD=>D.push U4).update s.heap.objs.size (VD λD=>D.pop)=h4 at g2 c;have L:s.heap.objs.size+1≠a:=WV<|Xc ha;have st:SIt w h4 (s.heap.objs.size+1) a G ep t 0:=⟨⟨o,c a o (Ne.symm r) ga,V⟩,_,0,c _ _ rk gI,Z,Z,λ_=>by
  have:=kC (j:=0) T.rs;rcases Nat.eq_zero_or_pos (below t.place 0)with z|z
  .exact z
  .have e:=getElem?_pos t.place 0 rk
   have:=this.2.1 0 _ z e;lia⟩
 have W:=KM (prog:=prog) (w:=w) (A:=A.in1) (I:=s.heap.objs.size+1) (a:=a) (ep:=ep) hh T cb X hl L;show Us _ _ (again _) _ _ _;rw[f5];refine TZ ⟨plainId_quiet F.plain_extend_loop _,codeAny_extend_loopS W.toS (by rw[V5];lia) s.heap.objs.size (by simp;lia) _ G.size 0 _ #[] J Z (Vp _) st g2 (ItemsOf.nil _) λK k c' M v m=>?_⟩;show Us _ A (load s.heap.objs.size>>=_) _ _ K;refine My<|wpAny_load v ?_;refine TZ ?_;have N:K={s with heap:=K.heap,toks:=K.toks}:=by
  have y:=M.gens;have d:=M.drawn;have h3:=M.os;obtain⟨a1,a2,a3,a4,a5⟩:=K;simp only at y d h3;subst y d h3;rfl
 rw[N];refine hQ _ _ _ (λb f e=>?_) (Xu<|UJ v) M.toks ?_
 .have q:=UJ e
  exact M.heap b f (by simp only[Uq,VN,Yo,not_or];exact⟨U7 q,U7<|Xc q⟩)<|c b f (U7 q)<|p b f e
 .refine List.Perm.trans (List.Perm.of_eq ?_) ((ny w a ep G).map (·.2))
  have eH:(fq w a ep G).size=G.size:=by rw[<-UO,(ny w a ep G).length_eq,UO]
  refine Wj (by rw[UO,TX,UO,eH,m.1]) λi q1 q2=>?_;have P:i<k.size:=by simpa using q1
  obtain⟨e,he,hv⟩:=m.2 i _<|getElem?_pos k i P;rw[W5,hv,WX,W5];have:=Vh.mp he;obtain⟨z1,z2⟩:=this;rw[z2]
end
end L2.Hs
namespace L2.Hs
open PySem.W
section
variable{d β:Type}{lt:Nat->Nat->Bool}{n:Nat}
def Rn(lt:Nat->Nat->Bool)(n:Nat):KasT d->(d->Prop)->Prop
 | .ret a,Φ=>Φ a
 | .ask i j k,Φ=>i<n/\j<n/\Rn lt n (k<|lt i j) Φ
theorem Rn.bind{Φ:β->Prop}:∀{t:KasT d},Rn lt n t (λa=>Rn lt n (f a) Φ)->Rn lt n (t.bind f) Φ
 | .ret a,h=>h
 | .ask i j k,⟨h1,h2,h3⟩=>⟨h1,h2,Rn.bind h3⟩
theorem Rn.mono{Φ Ψ:d->Prop}(b:∀a,Φ a->Ψ a):∀{t:KasT d},Rn lt n t Φ->Rn lt n t Ψ
 | .ret a,h=>b a h
 | .ask i j k,⟨h1,h2,h3⟩=>⟨h1,h2,Rn.mono b h3⟩
theorem Rn.wp{Φ:d->Prop}(b:∀i j,i<n->j<n->∀C:Bool->Uj->Prop,C (lt i j) s->cmp i j C s)(c:∀a,Φ a->Q a s):∀{t:KasT d},Rn lt n t Φ->t.kasWp cmp Q s
 | .ret a,h=>c a h
 | .ask i j k,⟨h1,h2,h3⟩=>b i j h1 h2 _<|Rn.wp b c h3
end
section
variable{B:a0O}{n:Nat}
noncomputable abbrev w_(B:a0O)(i j:Nat):Bool:=decide (B i<B j)
noncomputable abbrev ky(B:a0O)(p:a0y)(i:Nat):Nat:=B<|p.getD i 0
structure Pm (B:a0O) (n:Nat) (p:a0y):Prop where
 perm:p.toList.Perm (Ue n)
 inj:∀i j,i<n->j<n->B i=B j->i=j
theorem Pm.sz{p:a0y}(h:Pm B n p):p.size=n:=by have:=h.perm.length_eq;simpa using this
theorem Pm.lt{p:a0y}(h:Pm B n p)(a:i<n):p.getD i 0<n:=by
 have D:=h.sz;have e:p.getD i 0=p[i]:=by simp[show i<p.size by omega]
 rw[e];exact UD.mp (h.perm.mem_iff.mp nl)
theorem Pm.ne(h:Pm B n p)(a:i<j)(b:j<n):ky B p i≠ky B p j:=λz=>by
 have E:=h.sz;have:=h.inj _ _ (h.lt (show i<n by lia)) (h.lt b) z;have c:p.getD i 0=p.toList[i]'(by simp;grind):=by simp[show i<p.size by lia]
 have d:p.getD j 0=p.toList[j]'(by simp;lia):=by simp[show j<p.size by lia]
 rw[c,d]at this;exact UG this<|Ww.mp (h.perm.nodup_iff.mpr List.nodup_range) i j (by simp;lia) (by simp;lia) a
theorem Pm.of{p q:a0y}(h:Pm B n p)(a:q.Perm p):Pm B n q:=⟨(Array.perm_iff_toList_perm.mp a).trans h.perm,h.inj⟩
def So(B:a0O)(p:a0y)(k:Nat):Prop:=∀i j,i<j->j<k->ky B p i<ky B p j
def De(B:a0O)(p:a0y)(k:Nat):Prop:=∀i j,i<j->j<k->ky B p j<ky B p i
theorem So.succ(h:So B p k)(c:1<=k)(b:ky B p (k-1)<ky B p k):So B p (k+1):=λi j a d=>by
 by_cases q:j=k
 .subst q
  by_cases z:i=j-1
  .subst z;exact b
  .exact Zi (h i _ rk<|by omega) b
 .exact h i j a rk
theorem De.succ(h:De B p k)(c:1<=k)(b:ky B p k<ky B p (k-1)):De B p (k+1):=λi j a d=>by
 by_cases q:j=k
 .subst q
  by_cases z:i=j-1
  .subst z;exact b
  .exact Zi b (h i _ rk<|by omega)
 .exact h i j a rk
theorem yY(P:Pm B n p):∀(f k:Nat),1<=k->k+f<=n->So B p k->Rn (w_ B) n (kas_asc p f k) λm=>k<=m/\m<=k+f/\So B p m/\(m=k+f\/ky B p m<ky B p (m-1))
 |0,k,_,_,h=>⟨Ug k,Ug _,h,.inl Z⟩
 |f+1,k,h1,h2,h=>by
  refine⟨P.lt rk,P.lt rk,?_⟩;by_cases q:ky B p k<ky B p (k-1)
  .rw[show w_ B _ _=O from Ux q];dsimp only;rw[Uf Z]
   exact⟨Ug k,rk,h,.inr q⟩
  .rw[show w_ B _ _=T4 from UX q];dsimp only;rw[Uh Uk]
   have:=P.ne (show k-1<k by omega) (show k<n by lia);exact Rn.mono (λm D=>⟨by omega,by omega,D.2.2.1,by obtain z|z:=D.2.2.2;exact .inl rk;exact .inr z⟩) (yY P f _ rk rk<|h.succ h1<|by omega)
theorem AV(P:Pm B n p):∀(f k:Nat),1<=k->k+f<=n->De B p k->Rn (w_ B) n (kas_desc f p k 0) λr=>r.1=p/\r.2.2=0/\k<=r.2.1/\r.2.1<=k+f/\De B p r.2.1
 |0,k,_,_,h=>⟨Z,Z,Ug k,Ug _,h⟩
 |f+1,k,h1,h2,h=>by
  refine⟨P.lt rk,P.lt rk,?_⟩;by_cases q:ky B p k<ky B p (k-1)
  .rw[show w_ B _ _=O from Ux q];dsimp only;rw[Uf Z,Uh<|Vq 0]
   exact Rn.mono (λm D=>⟨D.1,D.2.1,rk,rk,D.2.2.2.2⟩)<|AV P f _ rk rk<|h.succ h1 q
  .rw[show w_ B _ _=T4 from UX q];dsimp only;rw[Uh Uk]
   have:=P.ne (show k-1<k by omega) (show k<n by lia);refine⟨P.lt rk,P.lt rk,?_⟩;rw[show w_ B _ _=O from Ux (show ky B p _<ky B p k by omega)];dsimp only;exact⟨Z,Z,Ug k,rk,h⟩
theorem AL{p q:a0y}(h:p[i]?=q[j]?):p.getD i 0=q.getD j 0:=by
 have a:∀(r:a0y) (x:Nat),r.getD x 0=(r[x]?).getD 0:=λr x=>by
  by_cases n:x<r.size
  .simp[n]
  .simp[n]
 rw[a,a,h]
theorem P3{p:a0y}(a:k<=p.size)(h:De B p k):So B (kas_rev p 0 k) k:=λi j b c=>by
 have g:∀x,x<k->(kas_rev p 0 k).getD x 0=p.getD (k-1-x) 0:=λx n=>by
  apply AL;unfold kas_rev;rw[getElem?_mirror_all a,Uf rk];lia
 show B _<B _;rw[g i rk,g j c];exact h _ _ (by grind) (by grind)
theorem KW(P:Pm B n p)(b:1<=k)(c:k<=n)(h:De B p k):Rn (w_ B) n (kas_tail3 k n p) λr=>Pm B n r.2/\1<=r.1/\r.1<=n/\So B r.2 r.1:=by
 have a:Pm B n (kas_rev p 0 k):=P.of<|mirror_perm _ _ _ _;exact Rn.bind<|Rn.mono (λm D=>⟨a,by omega,by omega,D.2.2.1⟩)<|yY a _ k b rk<|P3 (by rw[P.sz];exact c) h
theorem Mq(P:Pm B n p)(e:1<=n):Rn (w_ B) n (kas_count n p) λr=>Pm B n r.2/\1<=r.1/\r.1<=n/\So B r.2 r.1:=by
 unfold kas_count;refine Rn.bind (Rn.mono (λm G=>?_)<|yY P _ 1 (Ug 1) rk λi j a b=>by omega);obtain⟨S,V,D,K⟩:=G;by_cases q:m=n
 .rw[Uf<|by rw[Xk];exact q]
  exact⟨P,by omega,rk,D⟩
 .rw[Uh<|by rw[Xk];exact q]
  have M:ky B p m<ky B p (m-1):=by
   obtain z|z:=K
   .lia
   .exact z
  by_cases E:m>1
  .rw[Uf E]
   refine⟨P.lt rk,P.lt rk,?_⟩;rw[show w_ B _ _=O from Ux (D 0 _ rk rk)];dsimp only;exact⟨P,by omega,rk,D⟩
  .rw[Uh E]
   obtain rfl:m=1:=by lia
   unfold kas_descPart;refine Rn.bind<|Rn.mono (λr c=>?_) (AV P _ _ rk rk λi j a b=>by
    obtain rfl:j=1:=by lia
    obtain rfl:i=0:=by lia
    exact M)
   obtain⟨rfl,f,b3,g,d⟩:=c;rw[Uh rk];exact KW P rk rk d
theorem j5{p:a0y}{k:Nat}(P:Pm B n p)(a:k<n):∀(f l r:Nat),l<=r->r<=k->r-l<=f->(∀i,i<l->ky B p i<ky B p k)->(∀i,r<=i->i<k->ky B p k<ky B p i)->So B p k->
  Rn (w_ B) n (kas_place p k f l r) λm=>m<=k/\(∀i,i<m->ky B p i<ky B p k)/\∀i,m<=i->i<k->ky B p k<ky B p i
 |0,l,r,h1,h2,h3,ha,hb,_=>by
  obtain rfl:l=r:=by grind
  exact⟨h2,ha,hb⟩
 |f+1,l,r,h1,h2,h3,ha,hb,so=>by
  unfold kas_place;by_cases q:l≥r
  .rw[Uf q]
   obtain rfl:l=r:=by lia
   exact⟨h2,ha,hb⟩
  .rw[Uh q]
   refine⟨P.lt (by omega),P.lt rk,?_⟩;by_cases z:ky B p k<ky B p ((l+r)/2)
   .rw[show w_ B _ _=O from Ux z];dsimp only;rw[Uf Z]
    refine j5 P a f l _ rk rk (by omega) ha (λi c b=>?_) so;by_cases w:i=(l+r)/2
    .subst w;exact z
    .exact Zi z (so _ i rk b)
   .rw[show w_ B _ _=T4 from UX z];dsimp only;rw[Uh Uk]
    have d:=P.ne (show(l+r)/2<k by lia) a;refine j5 P a f _ r rk h2 (by grind) (λi c=>?_) hb so;by_cases w:i=(l+r)/2
    .subst w;lia
    .exact Zi (so i ((l+r)/2) rk rk) rk
theorem Kv:∀(f:Nat) {p:a0y} {k:Nat},Pm B n p->k+f=n->So B p k->Rn (w_ B) n (kas_bin f p k) λb=>Pm B n b/\So B b n
 |0,p,k,P,hk,so=>⟨P,by rw[<-hk];exact so⟩
 |f+1,p,k,P,hk,so=>by
  unfold kas_bin;refine Rn.bind<|Rn.mono (λm G=>?_)<|j5 P rk k 0 k (Vp _) (Ug _) rk (λi h=>UG h<|WK i) (λi l c=>by grind) so;obtain⟨l,c,o⟩:=G;refine Kv f (P.of<|bubble_perm _ _ _) (by grind) λi j a t=>?_;have K:k<p.size:=by rw[P.sz];lia
  have g:∀x:Nat,(bubble p k<|k-m).getD x 0=p.getD (if x=m then k else if m<x/\x<=k then x-1 else x) 0:=λx=>by
   apply AL;rw[getElem?_bubble K _<|by grind];by_cases q:x=m
   .rw[Uf rk,Uf q]
   .rw[Uh (by grind),Uh q]
    by_cases D:m<x/\x<=k
    .rw[Uf rk,Uf D]
    .rw[Uh rk,Uh D]
  show B _<B _;rw[g i,g j];by_cases E:i=m
  .rw[Uf E,Uh rk,Uf rk]
   exact o _ rk rk
  .rw[Uh E]
   by_cases D:j=m
   .rw[Uf D,Uh rk]
    exact c i rk
   .rw[Uh D]
    by_cases d:m<i/\i<=k
    .rw[Uf d,Uf rk]
     exact so _ _ rk rk
    .rw[Uh d]
     by_cases e:m<j/\j<=k
     .rw[Uf e]
      exact so i _ rk rk
     .rw[Uh e]
      exact so i j a rk
theorem NV(a:1<=n)(D:∀i j,i<n->j<n->B i=B j->i=j):Rn (w_ B) n (kas_sort n) λp=>Pm B n p/\So B p n:=by
 unfold kas_sort;refine Rn.bind<|Rn.mono (λr b=>?_)<|Mq (⟨.refl _,D⟩) a;obtain⟨E,K,M,G⟩:=b;by_cases q:r.1<n
 .rw[Uf q,Nat.max_eq_left K]
  exact Kv _ E (by grind) G
 .rw[Uh q]
  obtain rfl:r.1=n:=by lia
  exact⟨E,G⟩
noncomputable def ci:a0e->a0e->Bool
 |[],[]=>T4
 |[],_::_=>O
 |_::_,[]=>T4
 |a::as,b::bs=>if a=b then ci as bs else decide (a<b)
theorem iD:∀x,ci x x=T4
 |[]=>rfl
 |a::as=>by unfold ci;rw[Uf Z];exact iD as
theorem tL:∀{x y z},ci x y=O->ci y z=O->ci x z=O
 |[],[],_,h,_=>by cases h
 |[],_::_,[],_,h=>by cases h
 |[],_::_,_::_,_,_=>rfl
 |_::_,[],_,h,_=>by cases h
 |_::_,_::_,[],_,h=>by cases h
 |a::as,b::bs,c::cs,h1,h2=>by
  unfold ci at h1 h2⊢;by_cases B:a=b
  .rw[Uf B]at h1
   by_cases n:b=c
   .rw[Uf n]at h2
    rw[Uf<|B.trans n];exact tL h1 h2
   .rw[Uh n]at h2
    rw[Uh (by rw[B];exact n),B];exact h2
  .rw[Uh B]at h1
   have d:=WE h1;by_cases n:b=c
   .rw[Uh (by rw[<-n];exact B),<-n];exact h1
   .rw[Uh n]at h2
    have e:=WE h2;rw[Uh rk];exact Ux rk
theorem qt:∀{x y},ci x y=T4->ci y x=T4->x=y
 |[],[],_,_=>rfl
 |[],_::_,h,_=>by cases h
 |_::_,[],_,h=>by cases h
 |a::as,b::bs,h1,h2=>by
  unfold ci at h1 h2;by_cases q:a=b
  .rw[Uf q]at h1
   rw[Uf q.symm]at h2;rw[q,qt h1 h2]
  .rw[Uh q]at h1
   rw[Uh<|Ne.symm q]at h2;have:=of_decide_eq_false h1;have:=of_decide_eq_false h2;omega
theorem yQ:∀{L:a0a},(∀l∈L,p l=O->q l=O)->∀{i},i∈L->p i=T4->q i=O->L.countP p<L.countP q
 |[],_,i,h,_,_=>by cases h
 |a::L,hpq,i,hi,h1,h2=>by
  have n:=List.countP_mono_left λl b=>hpq l<|T3 a b;obtain rfl|hi:=Uq.mp hi
  .rw[List.countP_cons_of_neg (by rw[h1];exact Uk),List.countP_cons_of_pos h2]
   lia
  .have ih:=yQ (λl b=>hpq l<|T3 a b) hi h1 h2
   rw[List.countP_cons,List.countP_cons];have:(if p a=O then 1 else 0)<=(if q a=O then 1 else 0):=by
    by_cases z:p a=O
    .rw[Uf z,Uf<|hpq a Ud z];exact Ug 1
    .rw[Uh z];exact Vp _
   lia
def jj(ks:LI)(i:Nat):Nat:=(Ue ks.length).countP λj=>ci (ks.getD j [])<|ks.getD i []
theorem wG{n:LI}(a:i<n.length)(h:ci (n.getD i []) (n.getD j [])=O):jj n i<jj n j:=
 yQ (λl _ b=>tL b h) (UD.mpr a) (iD _) h
theorem GZ{ks:LI}(b:i<ks.length)(c:j<ks.length):decide (jj ks i<jj ks j)=ci (ks.getD i []) (ks.getD j []):=by
 cases h:ci _ (ks.getD j [])with
 |true=>exact Ux<|wG b h
 |false=>
  refine UX λz=>?_;cases a:ci _ (ks.getD i [])with
  |true=>have:=wG c a;lia
  |false=>
   unfold jj at z;rw[qt h a]at z;exact Vq _ z
theorem PZ{ks:LI}(n:ks.Nodup)(a:i<ks.length)(b:j<ks.length)(h:jj ks i=jj ks j):i=j:=by
 have e:ks.getD i []=ks.getD j []:=by
  apply qt
  .cases z:ci _ (ks.getD j [])with
   |false=>rfl
   |true=>have:=wG a z;lia
  .cases z:ci _ (ks.getD i [])with
   |false=>rfl
   |true=>have:=wG b z;lia
 rw[T6,T6,Ua a,Ua b]at e;have c:=e;obtain z|z|z:=Xd i j
 .exact UG c (Ww.mp n i j a b z)
 .exact z
 .exact UG c.symm (Ww.mp n j i b a z)
abbrev Up(l:LI):Prop:=l.Pairwise λa b=>ci a b=O
theorem qf:∀{l m:LI},Up l->Up m->(∀x,x∈l↔x∈m)->l=m
 |[],[],_,_,_=>rfl
 |[],b::m,_,_,h=>by have:=(h b).mpr Ud;cases this
 |a::l,[],_,_,h=>by have:=(h a).mp Ud;cases this
 |a::l,b::m,h1,h2,h=>by
  obtain⟨c,d⟩:=Yq.mp h1;obtain⟨B,D⟩:=Yq.mp h2;have e:a=b:=by
   obtain z|z:=Uq.mp ((h a).mp Ud)
   .exact z
   .obtain w|w:=Uq.mp ((h b).mpr Ud)
    .exact w.symm
    .have:=tL (B a z)<|c b w
     rw[iD]at this;cases this
  subst e;congr 1;refine qf d D λx=>⟨λn=>?_,λn=>?_⟩
  .obtain rfl|z:=Uq.mp ((h x).mp<|T3 a n)
   .have:=c x n;rw[iD]at this;cases this
   .exact z
  .obtain rfl|z:=Uq.mp ((h x).mpr<|T3 a n)
   .have:=B x n;rw[iD]at this;cases this
   .exact z
variable{aa:UT}{w:UY}{A:Vn}{E:a0f}{s:Uj}
theorem z9{b:Bool}:∀{G E:a0e} {B D:a0g} (i:Nat),ItemsAre (Z0 aa w) G B->ItemsAre (Z0 aa w) E D->∀n m:Nat,(decide (n+B.length<m+D.length)=decide (G.length<E.length))->Q (ci G E) s->KatLex aa w A O (decide (n+B.length<m+D.length)) Q (B.zip D) i s
 |[],E,B,D,i,hx,hy,n,m,e,q=>by
  cases hx;cases hy with
  |nil=>rw[ZF];exact kat_nil (by rw[e];exact q)
  |cons c d=>rw[ZF];exact kat_nil (by rw[e];exact q)
 |x::G,E,B,D,i,hx,hy,n,m,e,q=>by
  cases hx with
  |@cons _ u _ us' c d=>
   cases hy with
   |nil=>rw[List.zip_nil_right];exact kat_nil (by rw[e];exact q)
   |@cons y v _ vs' h3 h4=>
    obtain⟨g,rfl⟩:=ZA c;obtain⟨h,rfl⟩:=ZA h3;refine kat_cons<|wpAny_eqBool_int ?_;unfold ci at q;by_cases z:x=y
    .rw[Uf z]at q
     rw[show(x==y)=O by rw[Xk];exact z];have f:∀k l:Nat,decide (k+(us'.length+1)<l+(vs'.length+1))=decide (k+1+us'.length<l+1+vs'.length):=λk l=>decide_eq_decide.mpr rk;rw[Ur,Ur,f];refine z9 (b:=b) _ d h4 _ _ ?_ q;rw[<-f,<-Ur,<-Ur,e,Ur,Ur];exact decide_eq_decide.mpr rk
    .rw[Uh z]at q
     rw[show(x==y)=T4 by rw[beq_eq_false_iff_ne];exact z];apply kat_no;cases j:(O&&i==0)with
     |true=>exact oneLt_int q
     |false=>exact kat_one _ _<|lt_int (show PySem.W.BoolBack Q _ s from q)
theorem IL(n:(jn aa w).is s.heap q x)(B:(jn aa w).is s.heap r y)(h:Q (ci q r) s):Us (UP aa w) A (keyLt' (tuples' O) (.ref x)<|.ref y) Q E s:=by
 obtain⟨k,l,m,d,i,e,a⟩:=n;obtain⟨o2,o,p,f,j,g,c⟩:=B;apply kat_lt d e f g;have:=z9 (A:=A) (b:=O) 0 a c 0 0 (by rw[V4,V4,a.length,c.length]) h;rw[V4,V4,UO,UO]at this;exact this
structure Srb (aa:UT) (w:UY) (A:Vn) (is:Vl->a0e->T8->Prop):Prop where
 fr:∀{h h':Vl} {k:a0e} {x:T8},is h k x->(∀b o,o.cls= .type "tuple"->h.get? b=U o->h'.get? b=U o)->is h' k x
 tup:∀{h:Vl} {k:a0e} {x:T8},is h k x->∃o its n i t,h.get? x=U o/\o.cls= .type "tuple"/\o.data= .seq its n/\its[0]?=U (.int i t)
 lt:∀{E:a0f} {s:Uj} {Q:Bool->Uj->Prop} {x y:T8} {xs ys:a0e},is s.heap xs x->is s.heap ys y->Q (ci xs ys) s->Us (UP aa w) A (keyLt' (tuples' O) (.ref x)<|.ref y) Q E s
theorem zk(S:Srb aa w A is):∀{ks:a0q},(∀k∈ks,is s.heap k.1 k.2)->∃B:a0g,KatTups s.heap (ks.map λk=>UE k.2) B/\B.length=ks.length/\∀v∈B,∃n t,v=X2 n t
 |[],_=>⟨[],trivial,Z,λv hv=>by cases hv⟩
 |k::ks,h=>by
  obtain⟨B,a,b,c⟩:=zk S λd f=>h d<|T3 k f;obtain⟨o,D,n,i,t,g,j,E,e⟩:=S.tup<|h k Ud;refine⟨_::B,KatTups.cons g j E e a,by rw[Ur,Ur,b],λv hv=>?_⟩;obtain rfl|hv:=Uq.mp hv
  .exact⟨i,t,Z⟩
  .exact c v hv
abbrev isI(aa:UT)(w:UY)(h:Vl)(k:a0e)(x:T8):Prop:=(jn aa w).is h k x/\1<=k.length
theorem CF:Srb aa w A (isI aa w) where
 fr:=λ⟨⟨o,s,n,d,b,f,c⟩,l⟩ k=>⟨⟨o,s,n,k _ _ b d,b,f,c⟩,l⟩
 tup:=λ⟨⟨o,s,n,d,b,f,c⟩,l⟩=>by
  have g:0<s.size:=by rw[<-UO,<-c.length];lia
  obtain⟨i,t,e⟩:=items_int c s[0] (by exact Vj _);exact⟨o,s,n,i,t,d,b,f,by rw[getElem?_pos s 0 g,e]⟩
 lt:=λB D h=>IL B.1 D.1 h
theorem vq(S:Srb aa w A is){ks:a0q}{n:Nat}(L:s.heap.get? a=U (WL "list" (ks.map λk=>UE k.2).toArray n))(hk:∀k∈ks,is s.heap k.1 k.2)(nd:(ks.map (·.1)).Nodup)(ae:ks.length<64)
  (h:∀(V:Vl) (l:a0q) (n':Nat),l.Perm ks->Up (l.map (·.1))->V.get? a=U (WL "list" (l.map λk=>UE k.2).toArray n')->(∀b o,b≠a->s.heap.get? b=U o->V.get? b=U o)->P (.done<|.ret .none) {s with heap:=V}):
  Us (UP aa w) A (Builtin.«list.sort» ⟨[.ref a],[]⟩) P E s:=by
 have ha:=UJ L;rw[list_sort_plain];refine My<|listItems_at L Z<|My (Yz L Z ?_ (by simp[V5];lia) nl);obtain⟨B,N⟩:∃B,(s.heap.update a<|VD λ_=>#[]).get? a=U _:=⟨_,get?_update_seq L _⟩;refine My<|seqEpoch_at N Z<|My (wpAny_newTuple (My<|wpAny_newList (VB ?_)<|Vp _)<|by simp[V5];lia);generalize m:(ks.map λk=>UE _)=vs at*;have q:vs.length=ks.length:=by rw[<-m,TX]
 have d:(((s.heap.update a<|VD λ_=>#[]).push<|WL "tuple" vs.toArray 0).push<|WL "list" #[] 0).get? a=U (WL "list" #[] B):=by
  rw[Heap.get?_push_ne _ _ _ (by rw[size_push',Heap.size_update];exact U7<|Xc ha),Heap.get?_push_ne _ _ _<|by rw[Heap.size_update];exact U7 ha];exact N
 have D:∀b o,b≠a->s.heap.get? b=U o->(((s.heap.update a<|VD λ_=>#[]).push<|WL "tuple" vs.toArray 0).push<|WL "list" #[] 0).get? b=U o:=λb o F e=>by
  refine T1 _<|T1 _ ?_;rw[Ws _ _ _ _ F];exact e
 show Us _ A _ P E {s with heap:=((s.heap.update a<|VD λ_=>#[]).push<|WL "tuple" vs.toArray 0).push _};generalize af:((s.heap.update a<|VD λ_=>#[]).push<|WL "tuple" vs.toArray 0).push _=h6 at d D
 dsimp only
 have eH:∀(l:a0q) (u:a0E),l.Perm ks->Up _->u=(l.map λk=>UE _).toArray->P _ {s with heap:=h6.update a _}:=λl u p1 p2 e=>by
  refine h _ l _ p1 p2 (by rw[<-e];exact get?_update_seq d λ_=>u) λb o F W=>?_;rw[Ws _ _ _ _ F];exact D b o F W
 by_cases I:vs.toArray.size<2
 .rw[Uf I,Uf I]
  refine My<|TZ ?_;refine My<|TZ ?_
  dsimp only
  refine My<|seqEpoch_at d Z ?_;have X:((arrOf<|SortSt.mk' general' (vs.toArray.zip vs.toArray) #[] 7 Y).map (·.2))=vs.toArray:=by
   show(vs.toArray.zip _).map _=_;apply Array.toList_inj.mp;rw[Array.toList_map,Array.toList_zip];exact List.map_snd_zip<|Ug _
  rw[X];refine My (Yz d Z ?_ nl<|by simp[V5];lia);rw[XG];refine TZ (eH ks _ (.refl _) ?_<|by rw[m]);have ek:ks.length<2:=by rw[<-q];exact I
  match ks,ek with
  |[],_=>exact Z5
  |[k],_=>exact Xh _ _
  |_::_::_,ek=>simp at ek;lia
 .rw[Uh I,Uh I]
  have ag:2<=ks.length:=by rw[<-q];simp at I;omega
  have H:=λk f5=>S.fr (hk k f5) λb o hc F=>D b o (λz=>by
   subst z;rw[L]at F;cases F;exact UG (Xf.inj hc) vy) F
  obtain⟨fs,t1,t2,t3⟩:=zk S (s:={s with heap:=h6}) H;rw[m]at t1;refine My<|kat_kind (T:= .type "int") t1 rk (λv hv=>?_) Z ?_
  .obtain⟨x,t,rfl⟩:=t3 v hv
   exact Looks.of_pure Z
  show Us _ _ _ _ _ _;have J:(ks.map (·.1)).length=vs.length:=by rw[TX,q]
  have K:∀i,i<vs.length->∃k∈ks,vs.getD i U4= .ref _/\(ks.map _).getD i []=k.1/\ks[i]?=U k:=λi c=>by
   have f:i<ks.length:=by lia
   refine⟨ks[i],Vj f,?_,?_,Ua f⟩
   .rw[<-m,T6,T9,Ua f];rfl
   .rw[T6,T9,Ua f];rfl
  refine My<|Vt (kat_run (Q:=λg M=>M={s with heap:=h6}/\failedOf g=Y/\∃p:a0y,Pm _ _ p/\So _ p _/\arrOf g=p.map _)
   (G:=λp M=>M={s with heap:=h6}/\Pm _ _ p/\So _ p _) Z rk rk (λp g M a1 a2 a3 a4=>⟨a4.1,a3,p,a4.2.1,a4.2.2,a2⟩)
   (Rn.wp (λi j c y C hC=>?_) (λp hp=>⟨Z,hp⟩)<|NV rk λi j c y hr=>PZ nd (by rw[J];exact c) (by rw[J];exact y) hr)) (λr M hr=>?_) λ_ _ e=>e
  .obtain⟨k1,m1,B,f1,_⟩:=K i c
   obtain⟨k2,m2,e2,f2,_⟩:=K j y;unfold kas_ask;rw[B,e2];apply S.lt (H k1 m1) (H k2 m2);have:=GZ (by rw[J];exact c) (by rw[J];exact y);rw[f1,f2]at this;rw[<-this];exact hC
  .obtain⟨⟨⟩,g⟩:=r
   obtain⟨rfl,hf,p,P1,so,ab⟩:=hr
   have R:=P1.sz;rw[kat_snds Z ab];refine My<|seqEpoch_at d Z<|My (Yz d Z ?_ nl<|by simp[V5];lia);rw[hf];rw[XG];have cb:∀i∈p.toList,i<vs.length:=λi c=>UD.mp<|P1.perm.mem_iff.mp c;refine TZ<|eH (p.toList.map λi=>ks.getD i ([],0)) _ ?_ ?_ ?_
   .refine(P1.perm.map _).trans (List.Perm.of_eq ?_)
    rw[q];refine Wj nl λi q1 q2=>?_;rw[WX,Xq,T6,Ua q2];rfl
   .rw[Ub]
    unfold Up;rw[WH];refine Ww.mpr λi j c y ac=>?_;have f:i<vs.length:=by simpa[R]using c
    have ad:j<vs.length:=by simpa[R]using y
    have gd:∀x _,p.getD x 0=p.toList[x]:=λx hx=>by
     have:x<p.size:=by exact hx
     simp[this]
    have z:=so i j ac ad;unfold ky at z;rw[gd i c,gd j y]at z;obtain⟨k1,m1,B,f1,g1⟩:=K _<|cb _<|Vj c;obtain⟨k2,m2,e2,f2,g2⟩:=K _<|cb _<|Vj y;have:=GZ (by rw[J];exact cb _<|Vj c) (by rw[J];exact cb _<|Vj y);rw[Ux z,f1,f2]at this;simp only[Zk];rw[T6,T6,g1,g2];exact this.symm
   .rw[Ub]
    congr 1;refine UH λi c=>?_;obtain⟨k1,m1,B,f1,g1⟩:=K i<|cb i c;rw[B];rw[Zk];rw[T6,g1];rfl
theorem Lr{w A:Type}{f:w->A}{B g:List A}(p:B.Perm g):∀{n:List w},g=n.map f->∃s:List w,s.Perm n/\B=s.map f:=by
 induction p with
 |nil=>
  intro n e;cases n with
  |nil=>exact⟨[],.refl _,Z⟩
  |cons _ _=>cases e
 |cons x _ D=>
  intro n e;cases n with
  |nil=>cases e
  |cons a n=>
   cases e;obtain⟨s,c,d⟩:=D Z;exact⟨a::s,c.cons a,by rw[d];rfl⟩
 |swap x y l=>
  intro n e
  match n,e with
  |[],e=>cases e
  |[_],e=>cases e
  |a::b::n,e=>
   cases e;exact⟨b::a::n,.swap _ _ _,Z⟩
 |trans _ _ ih1 ih2=>
  intro n e;obtain⟨s,c,d⟩:=ih2 e;obtain⟨h,i,j⟩:=ih1 d;exact⟨h,i.trans c,j⟩
theorem CG{n:a0q}(H:A.handled=Y)(S:vf aa w s.heap a n)(I:∀x∈n,1<=x.1.length)(J:n.length<64)
  (h:∀(l:T8) (D:Vl) (f v:Nat) (g:a0q),g.Perm n->Up (g.map (·.1))->D.get? l=U (WL "list" (g.map λk=>UE k.2).toArray v)->s.heap.objs.size<=l->(∀b o,s.heap.get? b=U o->D.get? b=U o)->s.toks<=f->Q (.ref l) {s with heap:=D,toks:=f}):
  Us (UP aa w) A (call (.builtin "sorted") [.ref a]) Q E s:=by
 obtain⟨o,V,ep,t,L,y,f5,i,B,hx,T,N,j⟩:=S;have C:V.size=n.length:=by rw[<-UO,i,TX]
 apply Calls.call_function_entry kind_sorted plain_sorted entry_sorted (args_sorted1 _);refine My<|TZ ?_;refine My<|zd H L y.1 f5 T (T.fits (by rw[TX,C])) N j rk λp f vs G q M pv=>?_;rw[i,Ub]at pv;obtain⟨K,r,rfl⟩:=Lr pv Z;have P:=r.length_eq;refine My (wpAny_newList ?_<|by rw[TX,V5];lia);have c:∀b d,s.heap.get? b=U d->(p.push<|WL "list" (K.map λk=>UE k.2).toArray 0).get? b=U d:=λb d e=>T1 _<|G b d e;have u:(p.push<|WL "list" (K.map λk=>UE k.2).toArray 0).get? _=U _:=Ut _ Z;refine My<|VB<|U2 slot_list_sort ⟨_,u,Z⟩ entry_list_sort (vq CF u (λk F=>⟨?_,I k<|r.mem_iff.mp F⟩) ((r.map _).nodup_iff.mpr B) rk λD g v q1 q2 q3 q4=>⟨_,Z,?_⟩)<|args_list_sort _
 .obtain⟨R,its,m,cb,W,X,ek⟩:=hx k<|r.mem_iff.mp F
  exact⟨R,its,m,c _ _ cb,W,X,ek⟩
 .refine TZ ⟨_,Z,h _ D f v g (q1.trans r) q2 q3 q (λb d e=>q4 b d (λz=>?_)<|c b d e) M⟩
  have:=UJ e;exact UG (z▸this)<|Nat.not_lt.mpr q
end
end L2.Hs
namespace L2.Hs
section
variable{g:UT}{w:UY}
def vg(g:UT)(w:UY)(a:T8)(D:a0q)(h:Vl):Prop:=
 ∃o E G t,h.get? a=U o/\o.ExactSet/\o.data= .set E G t/\(E.toList=D.map λx=>(hsh g w x.1,UE x.2))/\(D.map (·.1)).Nodup/\(Tb t<|D.map λx=>hsh g w x.1)/\t.plain=O/\t.led=!(w.params.followText "set-order")
noncomputable def pW(g:UT)(w:UY)(a:T8)(D:a0q):HO:= .ext<|vg g w a D
theorem vg.to(S:vg g w a xs h)(D:∀x∈xs,(jn g w).is h x.1 x.2):vf g w h a xs:=by
 obtain⟨o,E,G,t,b,c,d,e,h5,f⟩:=S;exact⟨o,E,G,t,b,c,d,e,h5,D,f⟩
theorem zu(S:vg g w a d h):b6 g w H h a (pW g w a d):=by
 refine⟨S,?_,λb c z k=>?_⟩
 .obtain⟨o,_,_,_,e,_⟩:=S
  exact⟨o,e⟩
 .obtain⟨o,es,ep,t,e,r⟩:=z
  exact⟨o,es,ep,t,k _ e,r⟩
theorem L6{k:a0e}:∀{D:a0g},aE (k.map V.int) D->ItemsAre (Z0 g w) k D:=by
 induction k with
 |nil=>intro D h;cases h;exact .nil
 |cons i k E=>
  intro D h;cases h with
  |cons a b=>
   obtain⟨t,rfl⟩:=a;exact .cons (by simp[Z0,Value.isInt])<|E b
variable{X:Cx}
theorem qy{s:Uj}{k:a0e}(I:b_ X d f H s)(h:i0 X.K H b<|k.map V.int):(jn X.prog X.w).is s.heap k b:=by
 obtain⟨g,a,⟨o,e,c,n,D⟩,_⟩:=I.tuple h;exact⟨o,g.toArray,n,e,c,D,L6 a⟩
theorem oE:∀a:a0q,aE (a.map λz=>V.ref z.2)<|a.map λk=>UE k.2
 |[]=> .nil
 |_::a=> .cons Z<|oE a
theorem Ox:Mks X (newSet<|.type "set") λD=>pW X.prog X.w D []:=λa s c H E Q I h=>by
 unfold newSet;refine My<|My<|Ze<|TZ ?_
 dsimp only[newObj];exact My<|wpAny_alloc<|TZ<|h _ (I.laid (λ_ _ q=>T1 _ q) (Ug _)<|zu ⟨_,#[],0,_,Ut _ Z,⟨Z,Z,Z⟩,Z,Z,.nil,⟨.inl Z,Z,λx00 x01 x02 x03 x04=>by simp[SetTable.fresh]at*,λx00 x01 x04=>by simp[SetTable.fresh]at x04,Z,by show 0*5<7*3;decide,λx00 x04 x01 x05=>by simp at x05⟩,Z,Z⟩) λb o e=>T1 _ e
def Kq(P:UT)(w:UY)(K:UA)(D:T8)(e:TE):TB:=λd H Q=>e d H λv c=>∃g k b,c D=U (pW P w D g)/\v= .ref b/\i0 K c b (k.map V.int)/\(∀x∈g,i0 K c x.2<|x.1.map V.int)/\g.length<63/\
 ∀a,(k∈g.map (·.1)->a=g)->(k∉g.map (·.1)->a.Perm ((k,b)::g))->Q d (upd c D<|pW P w D a)
theorem xT{pos:Xp}{D:T8}(p:X.A.units+1<YJ)(J:z[d+1]?=Y)(L:PE X elt te)(j:X.xe=λ_ _=>False):PB X (.S elt) z scope pos d D (Kq X.prog X.w X.K D te):=by
 intro a s y H Q I h k Q' E' N;unfold jf;rw[J];show Us _ _ _ _ _ _
 have c:=L a s y H _ I h;rw[j]at c;refine My<|My<|Vt c (λu g l=>?_) λ_ _ f=>f.elim;obtain⟨v,H1,i,r,E,eH,b,B,rfl,C,G,hn,q⟩:=l;cases r;have S:=(i.hok D _ B).1;have P:=S.to λx h=>qy i<|G x h;obtain⟨o,M,V,t,R,T,_⟩:=S;refine My<|Wu<|My<|U2 F.slot_set_add ⟨o,R,T.1⟩ F.entry_set_add ?_<|F.args_set_add_2 _ _;unfold Builtin.«set.add» Builtin.Frozenset.oneOther;simp only[List.isEmpty_nil,bind_assoc];refine My<|TZ ?_
 refine My<|TZ ?_
 try dsimp only
 refine My<|VB<|My<|(jn _ _).pyHash p (qy i C)<|RK p P (qy (s:=g) i C) hn λh' m cb W c1 c2=>?_;refine TZ ⟨_,Z,TZ<|N _ y _ (i.write (by rw[B];trivial) (.inl Z) (λb u n e=>(cb.2 b n).trans e) ?_<|zu ?_)<|q m c1 c2⟩
 all_goals obtain⟨o,M,V,t,c,l,ek,f5,h5,G,h6⟩:=W
 .exact⟨o,c⟩
 .exact⟨o,M,V,t,c,l,ek,f5,h5,h6⟩
def oH(c:T8->HO)(g:a0i)(w:a0a)(d:TI)(e:T8->It->TB):TE:=λa H Q=>d a H λJ b=>∀D,b D=Y->e D J (mQ g w a) (upd b D<|c D) λ_ f=>Q (.ref D) f
theorem Od{d a b:Expr}{f:List Expr}{G:a0T}{E:Scope}{pos:Xp}{j V:a0i}{z:a0a}{g:TG}{tt:TT}{o:a0Y}{p:TI}(r:X.calm=O)(S:c_ X E j V z)(t:PI X a b p)
  (u:∀(K:a0m) (C:T8) (k:a0r) (s:Uj) (H:Hp),PG (aT X j E K C k s H) a g/\eX (aT X j E K C k s H) f tt/\∀D,PB (aT X j E K C k s H) (.S d) (⟨a,b,f,0⟩::G) E pos 0 D<|o D)
  (hs:autoParam (∀x,Vo b X.env x=Wo x) xz):PE X (.SetComp d (⟨a,b,f,0⟩::G) E pos) (oH (λD=>pW X.prog X.w D []) V z p λD J=>dP J g tt<|o D):=by
 refine λi s y H Q I h=>Xl Z hs (S.clo I.ok) S.kind S.loc<|Vt (t i s y H _ I h) (λv W B=>Vt B (λF f5 L=>?_) λ_ _ x=>x) λ_ _ x=>x;obtain⟨it,k,c,J,H2,e,N,T,l,f2,q⟩:=L;subst e;exact je Ox r S u N T l f2 q λD C s' cb m P ns R A=>⟨m,ns,λh' n=>⟨.ref D,cb,P.letgo R n,Z,A⟩⟩
def zH(P:UT)(w:UY)(K:UA):a0k->Hp->VK->Prop:=λD H Q=>∃a g,D=[.ref a]/\H a=U (pW P w a g)/\(∀x∈g,i0 K H x.2 (x.1.map V.int)/\1<=x.1.length)/\g.length<64/\
 ∀(l:T8) (b:a0q),H l=Y->b.Perm g->Up (b.map (·.1))->Q (.ref l) (upd H l<|.lst<|b.map λz=>V.ref z.2)
theorem ze(d:X.calm=O):cN X (.builtin "sorted") (zH X.prog X.w X.K):=by
 intro c s j H v y Q I r h;obtain⟨a,M,rfl,n,E,t,q⟩:=h;obtain⟨u,rfl,rfl⟩:=gG r;refine CG (I.ok.hd d) (((I.hok a _ n).1).to λx h=>qy I (E x h).1) (λx h=>(E x h).2) t λl A e f b p g i G D m=>⟨.ref l,_,I.laid (t':=e) (o:= .lst<|b.map λz=>V.ref _) D G ⟨?_,b.map λk=>UE _,f,?_,i⟩,Z,q l b (I.hok.fresh G) p g⟩
 .rw[TX,p.length_eq,V5];lia
 .exact oE b
end
end L2.Hs
namespace L2.Pu
open L2.Hs
def i9(E:Nat)(G:a0a)(K:FL)(M:ni)(S:a0s)(b:FL)(a:a0c->a0l):FD:=λD V=>match K D V with
 |none=>Y
 |some (.error C,β1)=>U (.error C,β1)
 |some (.ok ds,β1)=>match ot M S b ds (lg E G D) β1 with
  |some (.ok os,β2)=>(a os).map λd=>(.ok d,β2)
  |_=>Y
section
variable{K:UA}{E:a0u}
theorem vm{R:AR}{p:T8->HO}{c:a0c->a0l}{S:a0i}{V:a0a}{s:FL}{g:TG}{M:ni}{tt:a0s}{P:a0Y}{b:FL}(hg:dg K g M)(sg:eU M)(hb:∀D,gc K R D (P D) b)
  (r0:∀F H D,R.R F (upd H D<|p D) D []) (hp:∀os d,c os=U d->R.Z os) {T:St} {H:Hp} {Q f5:VK} (h:tV K (i9 S.length V s M tt b c) E T H f5)
  (k:∀F B f D os d,Fr F B f->¬F.A D->R.R F B D os->c os=U d->(∀v j,To F B j f->b5 K F j d v->f5 v j)->Q (.ref D) B):
  oH p S V (iV K s E) (λD J=>dP J g (i_ K tt E0)<|P D) T H Q:=by
 obtain⟨F,δ,β,fr,W,r,f,e,h⟩:=h;unfold i9 at e;refine⟨F,δ,β,fr,W,?_⟩;split at e
 .cases e
 .rename_i C β1 q
  cases e;exact⟨.error C,_,q,h⟩
 .rename_i ds β1 q
  split at e
  .rename_i os β2 q2
   cases G:c os with
   |none=>rw[G]at e;cases e
   |some d=>
    rw[G]at e;cases e;refine⟨.ok ds,β1,q,λJ I t hJ D m=>?_⟩;have i:=t.fr.fresh m;have X:=t.fr.upd (p D) m;have L:Fr ⟨λa=>F.A a\/a=D,F.bg⟩ (upd I D<|p D) β1:=by
     refine⟨λa ha z=>?_,λb l z=>let ⟨x,y,w⟩:=fr.bgA b l z;⟨.inl x,.inl y,w⟩,X.fr.bag⟩
     obtain ha|ha:=ha
     .exact X.fr.occ a ha z
     .subst ha;rw[aw]at z;cases z
    have u:Tr F I ⟨λa=>F.A a\/a=D,F.bg⟩ (upd I D<|p D):=⟨λa ha hs z=>by
     obtain z|z:=z
     .exact ha z
     .subst z;exact hs m,λa o ha z=>by rw[bt<|aP z m];exact z,Z⟩
    refine qu hg sg (hb D) L (.inr Z) (λb l z=>⟨λw=>i<|w▸(fr.bgA b l z).1,λw=>i<|w▸(fr.bgA b l z).2.1⟩) (uh<|W.tr<|(t.tr fr).trans u) (r0 _ _ _) (hJ.tr u) q2 (hp os d G) λaa j N ab ek=>?_;have cb:To F I j f:=by
     refine⟨λa o z n=>N.kp a o (by rw[bt<|aP z m];exact z) (aP z m) n,λa ha z=>N.fr.occ a (Wm ha) z,fr.bgA,N.fr.bag⟩
    exact k F j f D os d cb.fr i (R.tr ek (λ_ z=>z) ⟨λa ha _ z=>ha<|Wm z,λa o _ z=>z,Z⟩) G λv H3 t4 hv=>h v H3 ((t.trans cb).trans t4) hv
  .cases e
noncomputable abbrev lk(k:a0e):D:= .tup<|k.map .int
theorem u4{k:a0e}(h:b5 K F H (lk k) v):∃b,v= .ref b/\i0 K H b (k.map V.int):=by
 obtain⟨a,E,rfl,D,c⟩:=b5.sqT h;cases bb.ints k c;exact⟨a,Z,D⟩
theorem ge(h:lk k=lk l):k=l:=by
 injection h with h
 exact List.map_inj_right (λa b z=>by injection z)|>.mp h
theorem nd_len{D:Type} [BEq D] [LawfulBEq D]:∀{l m:List D},l.Nodup->(∀x∈l,x∈m)->l.length<=m.length
 |[],_,_,_=>Vp _
 |a::l,m,nd,h=>by
  obtain⟨b,c⟩:=Vs.mp nd;have:=nd_len c λx E=>(List.mem_erase_of_ne (λ(z:x=a)=>b<|z▸E)).mpr<|h x<|T3 a E;rw[List.length_erase_of_mem<|h a Ud]at this;have:=List.length_pos_of_mem<|h a Ud;rw[Ur];lia
noncomputable def RS(P:UT)(w:UY)(K:UA):AR where
 R:=λF H D M=>∃E,H D=U (pW P w D E)/\(E.map (·.1)).Nodup/\(∀x∈E,b5 K F H (lk x.1) (.ref x.2)/\lk x.1∈M)/\∀d∈M,∃k∈E.map (·.1),d=lk k
 Z:=λl=>∃G:LI,G.length<63/\∀d∈l,∃k∈G,d=lk k
 tr:=λh k t=>by
  obtain⟨E,a,b,c,e⟩:=h;exact⟨E,k _ a,b,λx S=>⟨b5.tr t _ _ (c x S).1,(c x S).2⟩,e⟩
 zp:=λh=>by
  obtain⟨G,a,b⟩:=h;exact⟨G,a,λd V=>b d<|Xa _ V⟩
theorem LW{D:T8}:gc K (RS P w K) D (Kq P w K D<|tV K f E0) (j_ f):=λF H δ β r cb as os Q fr R u I T e B k=>by
 obtain⟨E,W,s,G,ha⟩:=T;obtain⟨d,aa,X,f5⟩:=M.bind_inv e;cases f5;refine⟨F,δ,β,fr,I,E0.run X λv A t J=>?_⟩;obtain⟨ks,z1,L⟩:=B;obtain⟨j,m,rfl⟩:=L d<|Vg _ Ud;obtain⟨b,rfl,sq⟩:=u4 J;have c:=λx h=>b5.tr (t.tr fr) _ _ (G x h).1;have g:E.length<63:=by
  have:=nd_len s λx C=>by
   obtain⟨y,hy,rfl⟩:=T7.mp C;obtain⟨l,hl,e⟩:=L _<|Xa _ (G y hy).2;rw[ge e];exact hl
  rw[TX]at this;lia
 refine⟨E,j,b,t.kp D _ W u,Z,sq,λx h=>?_,g,λi c1 c2=>?_⟩
 .obtain⟨b',e,q⟩:=u4<|c x h
  cases e;exact q
 have N:o0 F D A (upd A D<|pW P w D i) r:=by
  refine⟨λa o h n _=>by rw[bt n];exact h,λa h q=>?_,fr.bgA,λb l q=>?_⟩
  .by_cases z:a=D
   .subst z;rw[aw]at q;cases q
   .rw[bt z]at q;exact t.fr.occ a h q
  .rw[bt (u b l q).1.symm,bt (u b l q).2.symm]
   exact t.fr.bag b l q
 have S:=N.tr t.fr R;refine k cb _ ((t.toD D).trans N) (I.tr<|(t.tr fr).trans S) ⟨i,aw,?_⟩;by_cases V:j∈E.map (·.1)
 .cases c1 V
  refine⟨s,λx h=>⟨b5.tr S _ _<|c x h,Xa _ (G x h).2⟩,λd hd=>?_⟩;obtain hd|hd:=Vr.mp hd
  .exact ha d hd
  .exact⟨j,V,UM.mp hd⟩
 .have p:=c2 V
  refine⟨(p.map _).nodup_iff.mpr<|Vs.mpr ⟨V,s⟩,λx h=>?_,λd hd=>?_⟩
  .obtain rfl|h:=Uq.mp (p.mem_iff.mp h)
   .exact⟨b5.tr S _ _ J,Vg _ Ud⟩
   .exact⟨b5.tr S _ _<|c x h,Xa _ (G x h).2⟩
  .obtain hd|hd:=Vr.mp hd
   .obtain⟨k2,h2,e⟩:=ha d hd
    exact⟨k2,(p.map _).mem_iff.mpr<|T3 _ h2,e⟩
   .exact⟨j,(p.map _).mem_iff.mpr Ud,UM.mp hd⟩
def Srt(D:LI)(E:a0c):Prop:=Up D/\D.length<63/\(∀k∈D,1<=k.length/\lk k∈E)/\∀d∈E,∃k∈D,d=lk k
theorem Srt.eq{D:a0c}(a:Srt d D)(b:Srt ls D):d=ls:=qf a.1 b.1 λx=>⟨λh=>by
 obtain⟨l,c,e⟩:=b.2.2.2 _ (a.2.2.1 x h).2;rw[ge e];exact c,λh=>by
 obtain⟨l,c,e⟩:=a.2.2.2 _ (b.2.2.1 x h).2;rw[ge e];exact c⟩
open Classical in
def g9(D:a0c):a0l:=if h:∃E,Srt E D then U (.lst<|h.choose.map lk)else Y
theorem xo{D:LI}{E:a0c}(h:Srt D E):g9 E=U (.lst<|D.map lk):=by
 have q:∃D,Srt D E:=⟨D,h⟩;unfold g9;rw[dif_pos q,q.choose_spec.eq h]
theorem kJ{D:a0c}(h:g9 D=U d):∃E,Srt E D/\d= .lst (E.map lk):=by
 unfold g9 at h;split at h
 .rename_i q
  cases h;exact⟨_,q.choose_spec,Z⟩
 .cases h
theorem pM:∀{a:a0q},(∀z∈a,b5 K F H (lk z.1)<|.ref z.2)->bb K F H ((a.map (·.1)).map lk) (a.map λz=>V.ref z.2)
 |[],_=>bb.nil
 |z::a,h=>bb.cons (h z Ud)<|pM λx D=>h x<|T3 z D
end
section
variable{X:Cx}{E:a0u}{af b0 ab:Expr}{ad:List Expr}{ac:a0T}{aa:Scope}{pos p ae:Xp}{Nc c4:a0i}{b4:a0a}{g:TG}{tb:a0Y}
theorem KR(c:Gl X "sorted")(hm:X.mg "sorted"=Y)(k:X.calm=O)(S:c_ X aa Nc c4 b4)(n:PI X b0 ab<|iV X.K it E)
  (o:∀(V:a0m) (C:T8) (f:a0r) (s:Uj) (H:Hp),PG (aT X Nc aa V C f s H) b0 g/\eX (aT X Nc aa V C f s H) ad (i_ X.K tt E0)/\∀D,PB (aT X Nc aa V C f s H) (.S af) (⟨b0,ab,ad,0⟩::ac) aa pos 0 D<|tb D)
  (r:dg X.K g tg) (t:eU tg) (u:∀D,gc X.K (RS X.prog X.w X.K) D (tb D) b) (hs:autoParam (∀x,Vo ab X.env x=Wo x) xz):
  PE X (.Call (.Name "sorted" p) [.SetComp af (⟨b0,ab,ad,0⟩::ac) aa pos] [] ae) (tV X.K (i9 c4.length b4 it tg tt b g9) E):=
 (nh (ze k) c hm mh<|gi (Od k S n o hs) j6).imp λcb H Q h=>by
  refine vm (Q:=λv A=>zH X.prog X.w X.K [v] A Q) r t u (λF H D=>⟨[],aw,.nil,λx G=>UG G nl,λd hd=>UG hd nl⟩) (λos d e=>?_) h λF W B D os d fr I J e q=>?_
  .obtain⟨ks,s,_⟩:=kJ e
   exact⟨ks,s.2.1,s.2.2.2⟩
  .obtain⟨ks,s,rfl⟩:=kJ e
   obtain⟨xs,L,nd,G,ha⟩:=J;have i:∀x∈xs,x.1∈ks:=λx h=>by
    obtain⟨l,a,e⟩:=s.2.2.2 _ (G x h).2;rw[ge e];exact a
   have hn:xs.length<64:=by
    have:=nd_len (m:=ks) nd λy M=>by
     obtain⟨x,h,rfl⟩:=T7.mp M;exact i x h
    rw[TX]at this;have:=s.2.1;lia
   refine⟨D,xs,Z,L,λx h=>?_,hn,λl N a j eH=>?_⟩
   .obtain⟨ek,e,q⟩:=u4 (G x h).1
    cases e;exact⟨q,(s.2.2.1 _<|i x h).1⟩
   .have P:ks=N.map (·.1):=qf s.1 eH λy=>by
     refine⟨λM=>?_,λM=>?_⟩
     .obtain⟨f5,R,e⟩:=ha _ (s.2.2.1 y M).2
      rw[ge e];exact(j.map (·.1)).mem_iff.mpr R
     .obtain⟨x,h,rfl⟩:=T7.mp<|(j.map (·.1)).mem_iff.mp M
      exact i x h
    rw[P]at q;exact q _ _ (fr.upd _ a)<|b5.newL fr a<|pM λz T=>(G z<|j.mem_iff.mp T).1
end
end L2.Pu
namespace L2.Hs
section
variable{I:UT}{w:UY}{A:Vn}{E:a0f}{s:Uj}
def J_(I:UT)(w:UY)(h:Vl)(k:eg)(a:T8):Prop:=∃o n t b,h.get? a=U o/\o.cls= .type "tuple"/\o.data= .seq #[.int k.1 t,.ref b] n/\(jn I w).is h k.2 b
theorem J_.ty(x:J_ I w s.heap k a):s.TypeIs (.ref a) "tuple":=let ⟨o,_,_,_,ho,hc,_⟩:=x;⟨o,ho,hc⟩
theorem J_.inj(s:J_ I w h x a)(A:J_ I w h y a):x=y:=by
 obtain⟨o,n,t,b,f,_,D,g⟩:=s;obtain⟨i,l,E,m,d,_,c,e⟩:=A;obtain rfl:o=i:=UR<|f.symm.trans d;rw[D]at c;simp only[Data.seq.injEq,Array.mk.injEq,Xj,X2.injEq,UE.injEq]at c;obtain⟨⟨⟨j,_⟩,k,_⟩,_⟩:=c;subst k;exact WM j<|(jn I w).inj g e
theorem Rl(k:a0e):hsh I w k=hI k:=by show tupleKeyHash _ _=_;rfl
theorem Rm{k:eg}(g:A.units+1<YJ)(f:J_ I w s.heap k a)(h:Q (hB O k) {s with toks:=s.toks+(k.2.length+3)}):Us (UP I w) A (pyHash<|.ref a) Q E s:=by
 have c:=f.ty;obtain⟨o,n,t,b,i,_,G,j⟩:=f;unfold pyHash
 refine My<|wpAny_cRoomFor_or (.inr rk)<|My<|WW c F.slot_tuple_hash.lookup ?_;refine My<|WW c F.slot_tuple_hash.lookup ?_;refine My<|wpAny_callSpecialIfBoundUnlessNone?_slot c F.slot_tuple_hash<|U2 F.slot_tuple_hash c F.entry_tuple_hash ?_<|F.args_tuple_hash_1 _;show Us _ _ (Builtin.Tuple.tupleItemsOf _>>=_) _ _ s;refine My<|wpAny_tupleItemsOf i G<|My ?_;refine My<|My<|wpAny_pyHash_int<|TZ<|My<|My<|(jn I w).pyHash g j<|TZ<|TZ ?_;have D:Q (hB O k) {s with toks:=s.toks+1+(k.2.length+1)+1}:=by
  have e:s.toks+1+(k.2.length+1)+1=s.toks+(k.2.length+3):=by lia
  rw[e];exact h
 apply wpAny_ret_mkInt;generalize l:YU _=z;have m:hB O k=reduceHash z:=by rw[<-l,show(jn I w).hash _=hI _ from Rl _];rfl
 rw[m]at D;show Us _ _ (if(decide _&&decide _)=O then _ else _) Q E _;unfold reduceHash at D;by_cases d:(decide (-(2:Int)^63<=z)&&decide (z<2^63))=O
 .rw[Uf d]
  rw[Uf d]at D;exact TZ D
 .rw[Uh d]
  rw[Uh d]at D;exact My<|Xm<|TZ D
theorem eq_p(o:A.units+1<YJ)(D:J_ I w s.heap x a)(G:J_ I w s.heap y b)(h:Q (decide (x=y)) s):Us (UP I w) A (eqBool (.ref a)<|.ref b) Q E s:=by
 unfold eqBool
 try with_reducible apply VB
 show Us _ _ _ Q E s;by_cases c:(UE a==UE b)=O
 .rw[Uf c]
  have e:a=b:=by have:=eq_of_beq c;injection this
  subst e;obtain rfl:=D.inj G;exact My (Xm<|TZ<|by simpa using h)
 .rw[Uh c]
  refine My (wpAny_richCompare_same_room D.ty G.ty F.slot_tuple_eq
   (U2 F.slot_tuple_eq D.ty F.entry_tuple_eq ?_<|F.args_tuple_eq_2 _ _) rk)
  have g:=G.ty;obtain⟨p,q,r,t,i,_,j,k⟩:=D;obtain⟨u,v,B,C,l,_,m,n⟩:=G;show Us _ _ (isInstance _ _>>=_) _ _ s;refine My<|Wp g isSubtype_tuple_tuple ?_;dsimp only[Uz];refine My<|wpAny_tupleItemsOf i j<|My<|wpAny_tupleItemsOf l m ?_;apply My;refine My<|My<|(Z0 I w).eqBool (a:=x.1) (b:=y.1) (by simp[Z0,Value.isInt]) (by simp[Z0,Value.isInt]) ?_;by_cases d:x.1=y.1
  .rw[Ux d]
   refine TZ<|My<|My<|(jn I w).eqBool o k n ?_;by_cases f:x.2=y.2
   .rw[Ux f]
    rw[Ux<|WM d f]at h;exact TZ<|TZ<|TZ ⟨_,Z,(λe=>nomatch e),VE h⟩
   .rw[UX f]
    rw[UX (λe=>f<|U6 _ e)]at h;exact My<|TZ<|TZ<|TZ<|TZ ⟨_,Z,(λe=>nomatch e),VE h⟩
  .rw[UX d]
   rw[UX (λe=>d<|U6 _ e)]at h;exact My<|TZ<|TZ<|TZ<|TZ ⟨_,Z,(λe=>nomatch e),VE h⟩
theorem N6(e:(jn I w).is s.heap k a)(h:Q O s):Us (UP I w) A (eqIsQuiet (m+1)<|.ref a) Q E s:=by
 have f:=IsTupleKey.typeIs e;obtain⟨o,G,n,g,_,M,i⟩:=e;unfold eqIsQuiet;refine My<|WW f F.slot_tuple_eq.lookup ?_;refine My<|Wp f isSubtype_tuple_tuple ?_;refine My<|Wg g M<|My ?_;rw[<-Ym];refine Zf _ (λD r K=>r.1=Y/\K=s/\∀v∈D,carriedByValue v=O) _ ?_ ?_ _ _ ⟨Z,Z,i.byValue⟩
 .rintro v D r K ⟨c,rfl,b⟩
  rw[eqIsQuiet_byValue _<|b v Ud];refine My<|TZ ?_;exact TZ ⟨Z,Z,λu d=>b u<|T3 _ d⟩
 .rintro⟨r1,j⟩ K ⟨c,rfl,_⟩
  simp only at c;subst c;exact TZ h
def PKd(I:UT)(w:UY):HeapKind I w eg where
 is:=J_ I w
 hash:=hB O
 draws:=λk=>k.2.length+3
 room:=λA=>A.units+1<YJ
 inj:=λs D=>s.inj D
 keeps:=λx f E G=>by
  obtain⟨g,n,t,b,c,i,a,j⟩:=x;refine⟨g,n,t,b,(G.2 _ ?_).trans c,i,a,(jn I w).keeps j f E G⟩;rintro rfl;obtain rfl:=UR<|c.symm.trans f;rw[E]at a;exact nomatch a
 pyHash:=λd e h=>Rm d e h
 eqBool:=λd s D h=>eq_p d s D h
 quiet:=λe h=>(by
  have x00:=e.ty;obtain⟨x01,x02,x03,x04,x05,_,x06,x07⟩:=e;unfold eqIsQuiet;refine My<|WW x00 F.slot_tuple_eq.lookup ?_;show Us _ _ _ _ _ _;refine My<|Wp x00 isSubtype_tuple_tuple ?_;dsimp only[Uz];refine My<|Wg x05 x06<|My ?_;show Us _ _ (forIn #[X2 _ x03,UE x04] _ _) _ _ _;rw[<-Ym];rw[XA];rw[eqIsQuiet_byValue _ Z];exact My<|My<|TZ<|TZ<|My<|My<|N6 x07<|TZ<|TZ<|TZ h)
def FKd(I:UT)(w:UY):HeapKind I w eg where
 is:=λh k a=>k.1=0/\(jn I w).is h k.2 a
 hash:=hB T4
 draws:=λk=>k.2.length+1
 room:=λA=>A.units+1<YJ
 inj:=λD G=>WM (D.1.trans G.1.symm) ((jn I w).inj D.2 G.2)
 keeps:=λx f K M=>⟨x.1,(jn I w).keeps x.2 f K M⟩
 pyHash:=λc d h=>(jn I w).pyHash (Nat.lt_of_succ_lt c) d.2 h
 eqBool:=λ{A E s x y a b Q} c D G h=>(jn I w).eqBool (Nat.lt_of_succ_lt c) D.2 G.2 (by
  have e:decide (x.2=y.2)=decide (x=y):=by
   by_cases q:x.2=y.2
   .rw[Ux q,Ux<|WM (D.1.trans G.1.symm) q]
   .rw[UX q,UX (λz=>q<|U6 _ z)]
  rw[e];exact h)
 quiet:=λd h=>(jn I w).quiet d.2 h
def KB(I:UT)(w:UY):Bool->HeapKind I w eg
 |true=>PKd I w
 |false=>FKd I w
theorem uT{b:Bool}:(KB I w b).hash=hB b:=by cases b<;>rfl
theorem mH{b:Bool}{A:Vn}(h:A.units+1<YJ):(KB I w b).room A:=by cases b<;>exact h
def z4(K:UA)(H:Hp):Bool->eg->T8->Prop
 |true,k,c=>∃e,i0 K H c [.int k.1,.ref e]/\i0 K H e (k.2.map V.int)
 |false,k,c=>k.1=0/\i0 K H c (k.2.map V.int)
abbrev XY(x:eg×T8×V)(y:eg×T8×Uc):Prop:=x.1=y.1/\x.2.1=y.2.1/\aY x.2.2 y.2.2
theorem lV:∀{xs:a0n} {s:a0B},Zs XY xs s->xs.map (·.1)=s.map (·.1)
 |_,_,.nil=>rfl
 |_,_,.cons h t=>by rw[Ul,Ul,h.1,lV t]
theorem FE:∀{s:a0n} {w:a0B},Zs XY s w->∀y∈w,∃x∈s,XY x y
 |_,_,.nil,y,h=>by cases h
 |_,_,.cons (a:=a) h t,y,hy=>by
  obtain rfl|hy:=Uq.mp hy
  .exact⟨a,Ud,h⟩
  .obtain⟨x,hx,e⟩:=FE t y hy
   exact⟨x,T3 _ hx,e⟩
noncomputable def pa(xs:a0n)(k:eg):Option V:=(xs.find? λx=>decide (x.1=k)).map (·.2.2)
theorem lW:∀{s:a0n} {w:a0B},Zs XY s w->jt (pa s k) ((atKey w k).map (·.2))
 |_,_,.nil=>by simp[pa,atKey,jt]
 |_,_,.cons (a:=a) h t=>by
  unfold pa atKey at⊢;rw[WI,WI,<-h.1];by_cases q:a.1=k
  .rw[Ux q];exact h.2.2
  .rw[UX q];exact (lW (k:=k) t)
theorem uq(h:XY x y):∀{s:a0n} {w:a0B},Zs XY s w->Zs XY (s++[x]) (w++[y])
 |_,_,.nil=> .cons h .nil
 |_,_,.cons h' t=> .cons h'<|uq h t
variable{X:Cx}{a_:a0d}{z:St}{H:Hp}
theorem nE{b:Bool}(I:b_ X a_ z H s)(h:z4 X.K H b k c):(KB X.prog X.w b).is s.heap k c:=by
 cases b with
 |true=>
  obtain⟨e,a,d⟩:=h;obtain⟨A,f,⟨o,g,i,n,D⟩,_⟩:=I.tuple a;obtain⟨j,l,rfl,⟨t,rfl⟩,rfl⟩:=wz f;exact⟨o,n,t,e,g,i,D,qy I d⟩
 |false=>exact⟨h.1,qy I h.2⟩
theorem big{a_:a0d}{z:St}{H:Hp}{s:Uj}(I:b_ X a_ z H s):Zd<s.heap.objs.size:=Zi vy (show WB<s.heap.objs.size from(I.mod.glob.keeps I.bk).lt)
theorem kx{b:Bool}(I:b_ X a_ z H s)(d:H a=U (cX a b n xs))(e:∀x∈xs,z4 X.K H b x.1 x.2.1):∃A,s.heap.DictOfH (KB X.prog X.w b) a A/\Zs XY xs A/\A.length<=UC/\(a==Zd)=T4:=by
 obtain⟨o,D,A,f,g,h,i,h5,j,k,c⟩:EX a b n xs _:=(I.hok a _ d).1;refine⟨A,⟨o,D,n,f,g,h,?_,λy E=>?_,h5⟩,c,k,j⟩
 .rw[i];unfold entryOfKey;rw[uT]
 .obtain⟨x,hx,l,m,_⟩:=FE c y E
  rw[<-l,<-m];exact nE I<|e x hx
def P7(K:UA):R2:=λx y H Q=>∃a b w s k c v,x= .ref a/\y= .ref c/\H a=U (cX a b w s)/\(∀x∈s,z4 K H b x.1 x.2.1)/\z4 K H b k c/\pa s k=U v/\Q v H
theorem kq(l:X.A.units+2<YJ):U_ X (P7 X.K):=by
 intro g i a_ s z H x y v u Q I m n h w;obtain⟨a,b,G,M,k,c,o,rfl,rfl,t,B,C,J,q⟩:=h;cases m;cases n;obtain⟨D,d,p,_,_⟩:=kx I t B;have f:=lW (k:=k) p;rw[J]at f;cases e:atKey D k with
 |none=>rw[e]at f;exact f.elim
 |some r=>
  rw[e]at f;exact subscriptTail_builtinR d.typeIs PySem.F.slot_dict_getitem.lookup (wpAny_getItem_heap (mH l) (nE I C) d e ⟨Z,o,H,I.tok _,f,q⟩) w
theorem rK{b:Bool}:Mks X newDict λD=>cX D b 0 []:=λa_ s z H E Q I h=>U1<|h _ (I.laid (λ_ _ q=>T1 _ q) (Ug _)<|u5 ⟨_,#[],[],Ut _ Z,⟨Z,Z,Z⟩,Z,Z,.nil,beq_eq_false_iff_ne.mpr<|Ne.symm<|U7<|big I,Vp _,.nil⟩) λb o e=>T1 _ e
def Kr(K:UA)(b:Bool)(D:T8)(e f:TE):TB:=λz H Q=>e z H λx g=>f z g λy a=>∃w s k c,x= .ref c/\a D=U (cX D b w s)/\(∀x∈s,z4 K a b x.1 x.2.1)/\z4 K a b k c/\k∉s.map (·.1)/\s.length<UC/\∀d,Q z<|upd a D<|cX D b d<|s++[(k,c,y)]
theorem np{pos:Xp}{D:T8}{b:Bool}(L:X.A.units+1<YJ)(N:gens[d+1]?=Y)(eH:PE X ke tk)(P:PE X ve tv)(a:X.xe=λ_ _=>False):PB X (.D ke ve) gens scope pos d D (Kr X.K b D tk tv):=by
 intro a_ s z H Q I h k Q' E' R;unfold jf;rw[N];have t:=eH a_ s z H _ I h;rw[a]at t;refine My<|My<|Vt t (λu T cb=>?_) λ_ _ f=>f.elim;obtain⟨v,W,ek,r,G⟩:=cb;have B:=P a_ T z W _ ek G;rw[a]at B;refine My<|VB<|Vt B (λu2 s2 f5=>?_) λ_ _ f=>f.elim;obtain⟨v2,H2,i,M,S,V,j,c,rfl,C,hx,hc,hn,hl,q⟩:=f5;cases r;obtain⟨w,dd,p,hz,l⟩:=kx i C hx;have F:=lV p;have e0:atKey w j=Y:=by
  cases e:atKey w j with
  |none=>rfl
  |some r=>
   exfalso
   unfold atKey at e;cases m:w.find? (λx=>decide (x.1=j))with
   |none=>rw[m]at e;cases e
   |some y=>
    have:=List.find?_some m;exact hn (by rw[F];exact T7.mpr ⟨y,List.mem_of_find?_eq_some m,WE this⟩)
 refine My<|Wu<|VB<|wpAny_dictSet_heap (mH L) (nE i hc) dd (λh' E sb=>?_) hz;rw[storedH_new e0]at E;obtain⟨o,es,ep,J,g2,g3,g4,g5,g6⟩:=E;have g:w.length=V.length:=by rw[<-TX,<-F,TX]
 refine R _ z _ (i.write (by rw[C];trivial) (.inl Z) (λb u n e=>(sb.2 b n).trans e) ⟨o,J⟩<|u5 ⟨o,es,_,J,g2,g3,?_,g6,l,?_,uq ⟨Z,Z,M⟩ p⟩)<|q ep
 .rw[g4];unfold entryOfKey;rw[uT]
 .rw[Uv,g,Vf];lia
theorem Lx{b:Bool}{k l a d:Expr}{f:List Expr}{G:a0T}{E:Scope}{pos:Xp}{i V:a0i}{b4:a0a}{g:TG}{tt:TT}{p:a0Y}{r:TI}(t:X.calm=O)(S:c_ X E i V b4)(u:PI X a d r)
  (y:∀(K:a0m) (C:T8) (j:a0r) (s:Uj) (H:Hp),PG (aT X i E K C j s H) a g/\eX (aT X i E K C j s H) f tt/\∀D,PB (aT X i E K C j s H) (.D k l) (⟨a,d,f,0⟩::G) E pos 0 D<|p D)
  (hs:autoParam (∀x,Vo d X.env x=Wo x) xz):PE X (.DictComp k l (⟨a,d,f,0⟩::G) E pos) (oH (λD=>cX D b 0 []) V b4 r λD J=>dP J g tt<|p D):=by
 refine λa_ s z H Q I h=>Xl Z hs (S.clo I.ok) S.kind S.loc<|Vt (u a_ s z H _ I h) (λv W B=>Vt B (λF cb L=>?_) λ_ _ x=>x) λ_ _ x=>x;obtain⟨it,j,c,J,H2,e,N,T,n,f2,q⟩:=L;subst e;exact je rK t S y N T n f2 q λD C s' ek m P ns R f5=>⟨m,ns,λh' o=>⟨.ref D,ek,P.letgo R o,Z,f5⟩⟩
end
end L2.Hs
namespace L2.Pu
open L2.Hs
def dK:Bool->eg->D
 |true,k=> .tup [.int k.1,lk k.2]
 |false,k=>lk k.2
def I_(b:Bool)(k:eg):Prop:=b=T4->k.1=0
theorem RG{b:Bool}(a:I_ b k)(c:I_ b l)(h:dK b k=dK b l):k=l:=by
 cases b with
 |true=>
  simp only[dK,D.tup.injEq,Xj,D.int.injEq,and_true]at h;exact WM h.1<|ge<|U6 D.tup h.2
 |false=>exact WM ((a Z).trans (c Z).symm)<|ge h
section
variable{K:UA}{F:Fx}{H:Hp}{E:a0u}
theorem yN(h:b5 K F H (.tup b) v):∃a D,v= .ref a/\TQ K F H a D/\bb K F H b D:=by
 unfold b5 at h;exact h
theorem sj(h:TQ K F H a b)(D:bb K F H c b):b5 K F H (.tup c) (.ref a):=by
 unfold b5;exact⟨a,b,Z,h,D⟩
theorem TQ.sq(h:TQ K F H c a):i0 K H c a:=h.imp (·.2) id
theorem gx.s{b:Bool}(h:gx K F H b k c):z4 K H b k c:=by
 cases b with
 |true=>
  obtain⟨e,a,d⟩:=h;exact⟨e,a.sq,d.sq⟩
 |false=>exact⟨h.1,h.2.sq⟩
theorem gx.z{b:Bool}(h:gx K F H b k c):I_ b k:=λe=>by subst e;exact h.1
theorem tP{b:Bool}(g:I_ b k)(h:b5 K F H (dK b k) v):∃c,v= .ref c/\gx K F H b k c:=by
 cases b with
 |true=>
  obtain⟨a,D,rfl,q,d⟩:=yN h;obtain⟨i,j,rfl,E,G⟩:=bb.two d;cases E.int;obtain⟨e,S,rfl,M,f⟩:=yN G;cases bb.ints _ f;exact⟨a,Z,e,q,M⟩
 |false=>
  obtain⟨a,D,rfl,q,d⟩:=yN h;cases bb.ints _ d;exact⟨a,Z,g Z,q⟩
theorem DB{b:Bool}(h:gx K F H b k c):b5 K F H (dK b k) (.ref c):=by
 cases b with
 |true=>
  obtain⟨e,a,d⟩:=h;exact sj a<|bb.cons Z<|bb.cons (sj d<|bb.ofInts _) bb.nil
 |false=>exact sj h.2<|bb.ofInts _
abbrev F_(b:Bool)(p:eg×D):D:= .tup [dK b p.1,p.2]
def Dk(b:Bool)(E:List<|eg×D)(F:a0c):Prop:=F=E.map (F_ b)/\(E.map (·.1)).Nodup/\E.length<=UC/\∀p∈E,I_ b p.1
theorem Oj{b:Bool}{p q:eg×D}(a:I_ b p.1)(c:I_ b q.1)(h:F_ b p=F_ b q):p=q:=by
 simp only[D.tup.injEq,Xj,and_true]at h;exact WM (RG a c h.1) h.2
theorem nu{b:Bool}:∀{l m:List (eg×D)},(∀p∈l,I_ b p.1)->(∀p∈m,I_ b p.1)->l.map (F_ b)=m.map (F_ b)->l=m
 |[],[],_,_,_=>rfl
 |[],_::_,_,_,h=>by cases h
 |_::_,[],_,_,h=>by cases h
 |p::l,q::m,hl,hm,h=>by
  rw[Ul,Ul,Xj]at h;rw[Oj (hl p Ud) (hm q Ud) h.1,nu (λx E=>hl x<|T3 _ E) (λx E=>hm x<|T3 _ E) h.2]
theorem Dk.eq{b:Bool}{D:a0c}(x:Dk b l D)(y:Dk b m D):l=m:=nu x.2.2.2 y.2.2.2<|x.1.symm.trans y.1
open Classical in
def nW(b:Bool)(E:a0c):a0l:=if h:∃D,Dk b D E then U (.dct b (h.choose.map (·.1))<|h.choose.map (·.2))else Y
theorem AY{b:Bool}{kvs:List (eg×D)}{E:a0c}(h:Dk b kvs E):nW b E=U (.dct b (kvs.map (·.1))<|kvs.map (·.2)):=by
 have q:∃kvs,Dk b kvs E:=⟨kvs,h⟩;unfold nW;rw[dif_pos q,q.choose_spec.eq h]
theorem yP{b:Bool}{E:a0c}(h:nW b E=U d):∃D,Dk b D E/\d= .dct b (D.map (·.1)) (D.map (·.2)):=by
 unfold nW at h;split at h
 .rename_i q
  cases h;exact⟨_,q.choose_spec,Z⟩
 .cases h
noncomputable def RD(K:UA)(b:Bool):AR where
 R:=λF H D S=>∃M,∃a:List<|(eg×Pu.D)×T8×V,S=a.map (λz=>F_ b z.1)/\H D=U (cX D b M<|a.map λz=>(z.1.1,z.2))/\∀z∈a,gx K F H b z.1.1 z.2.1/\b5 K F H z.1.2 z.2.2
 Z:=λl=>∃G E,Dk b G (l++E)
 tr:=λh k t=>by
  obtain⟨M,a,e,f,c⟩:=h;exact⟨M,a,e,k _ f,λz d=>⟨(c z d).1.tr t,b5.tr t _ _ (c z d).2⟩⟩
 zp:=λh=>by
  obtain⟨G,E,h⟩:=h;exact⟨G,_,by rw[<-Vi];exact h⟩
def Mt(f g:FD):FL:=λD=>M.bind (f D) λk=>M.bind (g D) λv=>M.ret [.tup [k,v]]
theorem rP{b:Bool}{D:T8}:gc K (RD K b) D (Kr K b D (tV K f E0)<|tV K g E0) (Mt f g):=λF H δ β B σ as os Q fr hA A C hR e hz k=>by
 obtain⟨ep,d,rfl,hD,S⟩:=hR;obtain⟨R,V,e1,e2⟩:=M.bind_inv e;obtain⟨T,ab,e3,e4⟩:=M.bind_inv e2;cases e4;obtain⟨E,aa,I,f5,z3,W⟩:=hz;have J:∀p∈d.map (·.1),I_ b _:=λp r=>by
  obtain⟨z,h,rfl⟩:=T7.mp r;exact(S z h).1.z
 have L:d.length<E.length:=by
  have:=U6 Y2 I;simp at this;lia
 have ez:(d.map (·.1)).map (F_ b)=(E.take d.length).map (F_ b):=by
  rw[ZL,<-I,Vi,List.take_append_of_le_length nl,WR nl,Ub];rfl
 have N:F_ b E[d.length]= .tup [R,T]:=by
  have X:(E.map<|F_ b)[d.length]?=U (.tup [R,T]):=by
   rw[<-I,Vi,Wq nl];simp
  rw[T9,Ua L]at X;exact UR X
 have u:=W _<|Vj L;generalize r:E[d.length]=p at N u;obtain⟨j,vv⟩:=p;simp only[Pu.D.tup.injEq,Xj,and_true]at N;obtain⟨rfl,rfl⟩:=N;have w:=λhm=>by
  have h2:E.take d.length++(j,vv)::E.drop (d.length+1)=E:=by
   rw[<-r,<-VH L,Wa]
  rw[<-h2,<-(nu J (λp r=>W p<|Wl r) ez),UK,Ul,ZD]at f5;refine f5.2.2 j ?_ j Ud Z;rw[Ub];exact hm
 refine⟨F,δ,β,fr,C,E0.run e1 λv H1 t hv=>⟨F,δ,V,t.fr,C.tr<|t.tr fr,E0.run e3 λv2 cb m ek=>?_⟩⟩;obtain⟨c,rfl,P⟩:=tP u (b5.tr (m.tr t.fr) _ _ hv);have i:=(t.tr fr).trans<|m.tr t.fr;refine⟨ep,_,j,c,Z,m.kp D _ (t.kp D _ hD A) A,λx h=>?_,P.s,?_,?_,λy=>?_⟩
 .obtain⟨z,h',rfl⟩:=T7.mp h
  exact((S z h').1.tr i).s
 .rw[Ub];exact w
 .rw[TX];lia
 have tD:o0 F D cb (upd cb D<|cX D b y<|(d.map λz=>(z.1.1,z.2))++[(j,c,v2)]) B:=by
  refine⟨λa o h n _=>by rw[bt n];exact h,λa h q=>?_,fr.bgA,λb l q=>?_⟩
  .by_cases z:a=D
   .subst z;rw[aw]at q;cases q
   .rw[bt z]at q;exact m.fr.occ a h q
  .rw[bt (A b l q).1.symm,bt (A b l q).2.symm]
   exact m.fr.bag b l q
 have G:=tD.tr m.fr hA;refine k σ _ (((t.trans m).toD D).trans tD) (C.tr<|i.trans G) ⟨y,d++[((j,vv),c,v2)],by rw[UK];rfl,by rw[UK];exact aw,λz h=>?_⟩;obtain h|h:=Vr.mp h
 .exact⟨(S z h).1.tr<|i.trans G,b5.tr (i.trans G) _ _ (S z h).2⟩
 .cases UM.mp h
  exact⟨P.tr G,b5.tr G _ _ ek⟩
theorem yO{F:Fx}{H:Hp}{E:Type}{f:E->D}{g:E->V}:∀{a:List E},(∀z∈a,b5 K F H (f z)<|g z)->bb K F H (a.map f) (a.map g)
 |[],_=>bb.nil
 |z::a,h=>bb.cons (h z Ud)<|yO λx G=>h x<|T3 z G
end
theorem yM{K:UA}{E:a0u}{kb:Bool}{S:a0i}{V:a0a}{g:TG}{c:a0Y}{v:FL}{M:ni}{w:a0s}{b:FL}(i:dg K g M)(j:eU M)(k:∀D,gc K (RD K kb) D (c D) b){f:St}{H:Hp}{Q:VK}(h:tV K (i9 S.length V v M w b<|nW kb) E f H Q):
  oH (λD=>cX D kb 0 []) S V (iV K v E) (λD J=>dP J g (i_ K w E0)<|c D) f H Q:=by
 refine vm i j k (λF H D=>⟨0,[],Z,aw,λx G=>UG G nl⟩) (λy d e=>?_) h λF u l D y d fr a m e q=>?_
 .obtain⟨kvs,s,_⟩:=yP e
  exact⟨kvs,[],by rw[UQ];exact s⟩
 .obtain⟨kvs,s,rfl⟩:=yP e
  obtain⟨A,n,rfl,o,G⟩:=m;have r:=nu s.2.2.2 (λp t=>by
   obtain⟨z,h,rfl⟩:=T7.mp t;exact(G z h).1.z) (by rw[<-s.1,Ub];rfl)
  apply q _ _ (To.refl fr);subst r;refine⟨D,A,_,Z,⟨a,o⟩,nl,λx h=>?_,?_⟩
  .obtain⟨z,h',rfl⟩:=T7.mp h
   exact(G z h').1
  .rw[Ub,Ub]
   exact yO λz h=>(G z h).2
section
variable{X:Cx}{E:a0u}{B u q m:Expr}{p:List Expr}{n:a0T}{l:Scope}{pos:Xp}{t I:a0i}{J:a0a}{g:TG}{w:a0Y}
theorem NK{kb:Bool}(c:X.calm=O)(S:c_ X l t I J)(d:PI X q m<|iV X.K r E)
  (e:∀(G:a0m) (C:T8) (a:a0r) (s:Uj) (H:Hp),PG (aT X t l G C a s H) q g/\eX (aT X t l G C a s H) p (i_ X.K v E0)/\∀D,PB (aT X t l G C a s H) (.D B u) (⟨q,m,p,0⟩::n) l pos 0 D<|w D)
  (f:dg X.K g o) (i:eU o) (j:∀D,gc X.K (RD X.K kb) D (w D) b) (M:autoParam (∀x,Vo m X.env x=Wo x) xz):
  PE X (.DictComp B u (⟨q,m,p,0⟩::n) l pos) (tV X.K (i9 I.length J r o v b<|nW kb) E):=
 (Lx c S d e M).imp λk H Q h=>yM f i j h
noncomputable def jh:a0c->Option a0e
 |[]=>U []
 | .int i::r=>(jh r).map (i::·)
 |_=>Y
def fM:Bool->D->Option eg
 |false,.tup ds=>(jh ds).map λl=>(0,l)
 |true,.tup [.int i,.tup ds]=>(jh ds).map λl=>(i,l)
 |_,_=>Y
theorem uv:∀(l:a0e),jh (l.map .int)=U l
 |[]=>rfl
 |i::l=>by show(jh<|l.map _).map _=_;rw[uv l];rfl
theorem nq:∀{n:a0c} {l:a0e},jh n=U l->n=l.map .int
 |[],l,h=>by cases h;rfl
 | .int i::r,l,h=>by
  have g:(jh r).map _=U l:=h;cases q:jh r with
  |none=>rw[q]at g;cases g
  |some m=>rw[q]at g;cases g;rw[nq q];rfl
 | .non::_,_,h=>by cases h
 | .bl _::_,_,h=>by cases h
 | .str _::_,_,h=>by cases h
 | .ty _::_,_,h=>by cases h
 | .txt::_,_,h=>by cases h
 | .lst _::_,_,h=>by cases h
 | .tup _::_,_,h=>by cases h
 | .scr _::_,_,h=>by cases h
 | .obj _ _ _::_,_,h=>by cases h
 | .bag::_,_,h=>by cases h
 | .adr _::_,_,h=>by cases h
 | .dct _ _ _::_,_,h=>by cases h
theorem fJ{b:Bool}(h:I_ b k):fM b (dK b k)=U k:=by
 cases b with
 |true=>show(jh _).map _=_;rw[uv];rfl
 |false=>show(jh _).map _=_;rw[uv];exact U6 U<|WM (h Z).symm Z
theorem nF{b:Bool}(h:fM b d=U k):I_ b k/\d=dK b k:=by
 unfold fM at h;split at h
 .rename_i ds
  cases q:jh ds with
  |none=>rw[q]at h;cases h
  |some l=>rw[q]at h;cases h;exact⟨λ_=>Z,by rw[nq q];rfl⟩
 .rename_i i ds
  cases q:jh ds with
  |none=>rw[q]at h;cases h
  |some l=>rw[q]at h;cases h;exact⟨λz=>(by cases z),by rw[nq q];rfl⟩
 .cases h
noncomputable def lK(g:a0F)(l:a0c)(k:eg):a0l:=((g.zip l).find? λp=>decide (p.1=k)).map (·.2)
variable{K:UA}{F:Fx}{H:Hp}
def RelD(K:UA)(F:Fx)(H:Hp):a0l->Option V->Prop
 |none,v=>v=Y
 |some d,v=>∃u,v=U u/\b5 K F H d u
theorem tK:∀{l:a0n} {g:a0c},bb K F H g (l.map (·.2.2))->RelD K F H (lK (l.map (·.1)) g k) (pa l k)
 |[],g,_=>by rfl
 |x::l,g,h=>by
  cases g with
  |nil=>cases h
  |cons d g=>
   obtain⟨u,r,e,a,b⟩:=h;rw[Ul,Xj]at e;obtain⟨rfl,rfl⟩:=e;unfold lK pa at⊢;rw[Ul,VU,WI,WI];by_cases q:x.1=k
   .rw[Ux q];exact⟨_,Z,a⟩
   .rw[UX q];exact (tK (k:=k) b)
def uZ:D->D->a0l
 | .dct b ks vs,y=>(fM b y).bind<|lK ks vs
 |_,_=>Y
theorem qw:bz K (P7 K) uZ:=λF H E Q G g d v1 v2 fr h i e k=>by
 unfold uZ at e;split at e
 .rename_i b ks vs
  cases q:fM b g with
  |none=>rw[q]at e;cases e
  |some f=>
   rw[q]at e;have j:lK ks vs f=U d:=e;obtain⟨l,rfl⟩:=nF q;obtain⟨c,rfl,m⟩:=tP l i;obtain⟨a,w,B,rfl,n,rfl,o,p⟩:=h;have:=tK (k:=f) p;rw[j]at this;obtain⟨u,r,t⟩:=this;exact⟨a,b,w,B,f,c,u,Z,Z,n.2,λx D=>(o x D).s,m.s,r,k u H (To.refl fr) t⟩
 .cases e
def Sm(K:UA):V->a0k->Hp->VK->Prop:=λx l H Q=>∃a b m g k c z,x= .ref a/\l=[.ref c,z]/\H a=U (cX a b m g)/\(∀x∈g,z4 K H b x.1 x.2.1)/\z4 K H b k c/\Q ((pa g k).getD z) H
variable{o e:Expr}{es:List Expr}{ab aa:Xp}
theorem Ov(n:X.A.units+2<YJ):MtR X "dict.get" (Sm X.K):=by
 intro l s N H x D v E Q I r t h;obtain⟨a,b,G,e,k,c,z,rfl,rfl,u,B,C,q⟩:=h;cases r;obtain⟨P,J,rfl,g,L⟩:=wz t;cases g;obtain⟨j,d,p,_,o⟩:=kx I u B;have f:=lW (k:=k) p;refine call_meetsIn PySem.F.slot_dict_get d.typeIs PySem.F.entry_dict_get (PySem.F.args_dict_get_3 _ _ _) (meetsH_dict_get_default _ a c o J) ⟨mH n,k,j,nE I C,d,_,H,I.tok _,?_,q⟩;cases m:pa e k with
 |none=>
  rw[m]at f;cases i:(atKey j k).map (·.2)with
  |none=>exact L
  |some w=>rw[i]at f;exact f.elim
 |some y=>
  rw[m]at f;cases i:(atKey j k).map (·.2)with
  |none=>rw[i]at f;exact f.elim
  |some w=>rw[i]at f;exact f
def Mi(f:FD)(g:FL):FD:=λe=>M.bind (f e) λd=>match d with
 | .dct b ks vs=>M.bind (g e) λl=>M.ofO (match l with
  |[k,z]=>(fM b k).map λk=>(lK ks vs k).getD z
  |_=>Y)
 |_=>M.fail
theorem R3{g:FL}(hu:X.A.units+2<YJ)(ho:PE X o<|tV X.K f E)(ha:PA X (e::es)<|jm X.K g E)
  (n:autoParam (XW o "get" X.env (Vv o X.env)=Vv o X.env) qQ)
  (y:autoParam (((WD aa<|Uu (e::es) X.env).all (λx=>!x.1)&&(XR aa<|WA [] X.env).all (λx=>x.1.isSome)
   &&decide ((e::es).length+([]:List Keyword).length+(if([]:List Keyword).isEmpty then 0 else 1)<30))=O) qQ)
  (p:autoParam ((ab.endLine==aa.line)=O) qQ) (hs:autoParam (b0a X e es) qQ) (m:autoParam (b0b X aa es) qQ):
  PE X (.Call (.Attribute o "get" ab) (e::es) [] aa) (tV X.K (Mi f g) E):=by
 intro j s C H Q I h;obtain⟨F,δ,β,fr,vk,h⟩:=h;refine wpAny_Call_method_late n y p Z<|ee (ho j s C H _ I ⟨F,δ,β,fr,vk,(run.bind h)⟩) λv s1 h1=>?_;obtain⟨x,H1,I1,r1,d,S,t,hd,q1⟩:=h1;have V:∀{L:M D},L=M.fail->run (b5 X.K F) F E C L H1 Q S->False:=λ{L} e r=>by
  obtain⟨r,ad,e',_⟩:=r;rw[e]at e';cases e'
 cases d<;>first|exact(V Z q1).elim|skip
 rename_i b ks vs;have B:=hd;obtain⟨a,ep,G,rfl,N,rfl,hk,dl⟩:=B;cases r1;obtain⟨ys,dd,_,_,_⟩:=kx I1 N.2 λx hx=>(hk x hx).s;refine⟨"dict","dict.get",PySem.F.plainAttrs_dict,PySem.F.slot_dict_get,PySem.F.type_dict_get,dd.typeIs,λb e=>?_,?_⟩
 .cases e
  obtain⟨ob,_,_,g1,g2,_⟩:=dd;exact⟨ob,g1,g2.2.1⟩
 have hA:=ha aa j s1 C H1 _ I1 ⟨F,δ,S,t.fr,vk.tr<|t.tr fr,run.bind q1⟩;rw[hs]at hA⊢;refine Yy (by show(T4||(WD aa _).any _)=T4;rw[m]<;>rfl) (Calls.evalArgs_plain (ee hA λus s2 h2=>?_))
 obtain⟨ws,J,I2,r2,as,ae,t2,cb,q2⟩:=h2;obtain⟨z,w,kf⟩:=run.ofO q2;have tt:=t2.tr t.fr;split at w
 .rename_i k zz
  cases P:fM b k with
  |none=>rw[P]at w;cases w
  |some i=>
   rw[P]at w;cases w;obtain⟨hz,rfl⟩:=nF P;obtain⟨w1,T,rfl,R,W⟩:=bb.two cb;obtain⟨c,rfl,kc⟩:=tP hz R;have f5:=bb.tr tt _ _ dl;refine Ov hu j s2 C J (.ref a) [.ref c,T] _ us Q I2 Z r2 ⟨a,b,ep,G,i,c,T,Z,Z,tt.kp a _ N.1 N.2,λx hx=>((hk x hx).tr tt).s,kc.s,kf _ J (To.refl t2.fr) ?_⟩;show b5 _ F J ((lK _ vs i).getD zz) _;have l:=tK (k:=i) f5;cases q:lK _ vs i with
   |none=>
    rw[q]at l;have l':=l;rw[l'];exact W
   |some d=>
    rw[q]at l;obtain⟨u,l',ac⟩:=l;rw[l'];exact ac
 .cases w
end
end L2.Pu
namespace L2.Hs
section
variable{prog:UT}{w:UY}{A:Vn}{E:a0f}{s:Uj}{d z v:T8}{od:Vy}{es:Array W3}{ep i:Nat}{ok ov:Uc}
theorem ER(a:s.TypeIs (.ref d) "dict")(i:(d==Zd)=T4)(h:Q (.ref s.heap.objs.size) {s with heap:=s.heap.push {cls:= .type "dict_items",data:= .fields #[.ref d]}}):Us (UP prog w) A (call (.builtin "dict.items") [.ref d]) Q E s:=by
 refine U2 F.slot_dict_items a F.entry_dict_items ?_<|F.args_dict_items_1 _;apply My;refine My<|wpAny_notOrdered_dict a ?_;apply TZ;unfold Yn;rw[Uh<|by rw[i];exact Uk];exact My<|TZ<|My<|U1<|TZ ⟨_,Z,h⟩
theorem DW(a:s.heap.IsItemsView v d)(e:s.heap.get? d=U od)(i:od.data= .dict es ep)
  (h:Q (.ref s.heap.objs.size) {s with heap:=s.heap.push {cls:= .type "dict_itemiterator",data:= .fields #[.none,.bool T4,.ref d,.int 0 0,.int es.size 0,.int ep 0,.none,.none]}}):Us (UP prog w) A (pyIter<|.ref v) Q E s:=by
 obtain⟨o,b,f,c⟩:=id a;refine Y1 a.typeIs F.slot_dict_items_iter<|U2 F.slot_dict_items_iter a.typeIs F.entry_dict_items_iter ?_<|F.args_dict_items_iter_1 _;refine My<|TZ<|My ?_;refine My<|VI b c Z<|TZ<|My ?_;refine My<|X9 e i<|My<|YD e i ?_;simp only[show Wt "dict_itemiterator"=O from by decide,Vm];refine U1 (TZ ⟨_,Z,"dict_itemiterator",_,⟨_,Ut _ Z,Z⟩,Wb.lookup,?_⟩)
  (by simp only[sizeOk,Zo,UB,Uv,Ur,W6,V5];lia)
 simpa[XO,Zo]using h
theorem DU(a:ZO s.heap z d i es.size ep ok ov)(h:Q (.ref z) s):Us (UP prog w) A (pyIter<|.ref z) Q E s:=by
 have c:s.TypeIs (.ref z) "dict_itemiterator":=⟨_,a,Z⟩;refine Y1 c F.slot_dict_itemiterator_iter<|U2 F.slot_dict_itemiterator_iter c (b:=Builtin.«dict_keyiterator.__iter__») (entryFor_alias (id':="dict_keyiterator.__iter__") mh Z (by decide +kernel) mh) ?_<|F.args_dict_itemiterator_iter_1 _;show Us _ _ (ret<|.ref z) _ _ s;exact TZ ⟨_,Z,"dict_itemiterator",_,c,Wb.lookup,h⟩
theorem DV{e:W3}(l:ZO s.heap z d i es.size ep ok ov)(f5:s.heap.get? d=U od)(M:od.data= .dict es ep)(K:es[i]?=U e)
  (S:∀D,IsItemIterOut D z d (i+1) es.size ep e.key e.val s.heap.objs.size->D.get? s.heap.objs.size=U {cls:= .type "tuple",data:= .seq #[e.key,e.val]}->D.objs.size=s.heap.objs.size+1->
   (∀b o,b≠z->s.heap.get? b=U o->D.get? b=U o)->Q (U<|.ref s.heap.objs.size) {s with heap:=D}):Us (UP prog w) A (X3<|.ref z) Q E s:=by
 obtain⟨m,g,R,T,G⟩:=s;have t:Shared.TypeIs ⟨m,g,R,T,G⟩ (.ref z) "dict_itemiterator":=⟨_,l,Z⟩;have cb:i<es.size:=by
  obtain h|h:=Nat.lt_or_ge i _
  .exact h
  .simp[WN h]at K
 obtain rfl:es[i]=e:=by rw[X4 cb]at K;exact UR K
 unfold X3;refine My<|XX (wpAny_callSpecial?_slot t Wb
  (U2 Wb t F.entry_dict_itemiterator_next ?_<|F.args_dict_itemiterator_next_1 _))
 refine My<|TZ<|My<|My ?_
 first|refine My (Xy t (TZ ?_))|refine My (Ys t (TZ ?_))
 refine My<|Y0 l Z ?_;show Us _ _ (if(UE d==U4)=O then _ else _) _ _ _;refine My<|TZ<|My<|X9 f5 M ?_;rw[Uh nl];refine My<|TZ<|My<|YD f5 M ?_;rw[Uh nl];apply TZ;simp only[Vc,VA,X4 cb];apply My
 first|refine My (Xy t (TZ ?_))|refine My (Ys t (TZ ?_))
 refine My<|wpAny_isOneOf_itemiter t ?_;show Us _ _ (setField _ 3 (XO<|(i:Int)+1)>>=_) _ _ ⟨m,g,R,T,G⟩;refine My<|VZ l nl λv a c=>?_
 replace c:UU z m v:=c
 have k:Shared.TypeIs ⟨v,g,R,T,G⟩ (.ref z) "dict_itemiterator":=⟨_,a,Z⟩;refine My<|VB<|My<|wpAny_isOneOf_itemiter k<|My<|wpAny_isOneOf_itemiter k ?_;refine My<|wpAny_newTuple ?_;have f:ZO (v.push {cls:= .type "tuple",data:= .seq #[es[i].key,es[i].val]}) z d _ _ ep ok ov:=T1 _ a;have j:=c.1;have X:=U7<|UJ l;have u:(v.push {cls:= .type "tuple",data:= .seq #[es[i].key,es[i].val]}).get? m.objs.size=U {cls:= .type "tuple",data:= .seq #[es[i].key,es[i].val]}:=by rw[<-j];exact Ut _ Z
 have y:(v.push {cls:= .type "tuple",data:= .seq #[es[i].key,es[i].val]}).objs.size=m.objs.size+1:=by rw[VX,j]
 have B:∀b o,b≠z->m.get? b=U o->(v.push {cls:= .type "tuple",data:= .seq #[es[i].key,es[i].val]}).get? b=U o:=λb o W e=>T1 _<|c.extBut b o W e;generalize v.push {cls:= .type "tuple",data:= .seq #[es[i].key,es[i].val]}=h₂ at*;rw[j];apply My;refine My<|VI f Z Z<|TZ ?_;refine My<|VI f Z (x:=ok) Z<|My<|VI f Z (x:=ov) Z<|My<|VZ f nl λn C H=>(My<|VZ C nl λp I J=>(My<|VZ I nl λq L N=>?_));refine My<|VZ L nl λr eH P=>?_;have ek:=((show UU z _ n from H).trans (show UU z n p from J)).trans<|(show UU z p q from N).trans (show UU z q r from P);exact My<|wpAny_letGo<|TZ<|TZ ⟨_,Z,TZ<|S r eH (ek.extBut _ _ X.symm u) (by rw[ek.1,y]) λb o W e=>ek.extBut b o W<|B b o W e⟩
theorem JM(g:A.handled=Y)(c:ZO s.heap z d i es.size ep ok ov)(f:s.heap.get? d=U od)(v:od.data= .dict es ep)(G:es.size<=i)
  (h:∀D,Heap.ExtBut z s.heap D->Q Y {s with heap:=D}):Us (UP prog w) A (X3<|.ref z) Q E s:=by
 have e:s.TypeIs (.ref z) "dict_itemiterator":=⟨_,c,Z⟩;refine My<|XX (wpAny_callSpecial?_slot e Wb
  (U2 Wb e F.entry_dict_itemiterator_next ?_<|F.args_dict_itemiterator_next_1 _))
 refine My<|TZ<|My<|My ?_
 first|refine My (Xy e (TZ ?_))|refine My (Ys e (TZ ?_))
 refine My<|Y0 c Z ?_;show Us _ _ (if(UE d==U4)=O then _ else _) _ _ s;refine My<|TZ<|My<|X9 f v ?_;rw[Uh nl];refine My<|TZ<|My<|YD f v ?_;rw[Uh nl];apply TZ;simp only[Vc,VA,WN G];apply My
 first|refine My (Xy e (TZ ?_))|refine My (Ys e (TZ ?_))
 show Us _ _ (setField _ 2 _>>=_) _ _ s;refine My<|Xx c Z nl ?_;apply My;refine My (U1 (My<|XI (by first|rfl|(simp only;rfl)) ?_)<|by size_fits)
 refine U1 ?_ (by size_fits);simp only;refine My<|wpAny_handled ?_;rw[show A.in1.handled=Y from g];refine My<|TZ<|wpAny_throw ?_;exact My<|Wp ⟨_,Ut _ Z,Z⟩ isSubtype_stop<|TZ<|h _<|((VO ..).extBut.push _).push _
theorem JK(v:(d==Zd)=T4)(a:s.heap.get? d=U od)(c:od.cls= .type "dict")(i:od.data= .dict es ep)
  (h:Q (.ref s.heap.objs.size) {s with heap:=s.heap.push {cls:= .type "dict_keyiterator",data:= .fields #[.ref d,.int 0 0,.int es.size 0,.int ep 0]}}):Us (UP prog w) A (pyIter<|.ref d) Q E s:=by
 have b:s.TypeIs (.ref d) "dict":=⟨od,a,c⟩;refine Y1 b F.slot_dict_iter<|U2 F.slot_dict_iter b F.entry_dict_iter ?_<|F.args_dict_iter_1 _;refine My<|My<|wpAny_notOrdered_dict b ?_;apply TZ;show Us _ _ (Yn d>>=_) _ _ s;unfold Yn;rw[Uh<|by rw[v];exact Uk];refine My<|TZ<|My<|X9 a i<|My<|YD a i<|My<|U1<|TZ ⟨_,Z,"dict_keyiterator",_,⟨_,Ut _ Z,Z⟩,WO.lookup,?_⟩;simpa[XO]using h
theorem JJ{e:W3}(c:s.heap.IsKeyIter z d i es.size ep)(j:s.heap.get? d=U od)(D:od.data= .dict es ep)(G:es[i]?=U e)
  (k:∀v,v.IsKeyIter z d (i+1) es.size ep->UU z s.heap v->Q (U e.key) {s with heap:=v}):Us (UP prog w) A (X3<|.ref z) Q E s:=by
 obtain⟨o,g,l,f⟩:=id c;have b:=c.typeIs;obtain⟨h,rfl⟩:=Vh.mp G;refine My<|XX<|wpAny_callSpecial?_slot b WO<|U2 WO b F.entry_dict_keyiterator_next ?_<|F.args_dict_keyiterator_next_1 _;refine My<|TZ<|My<|My ?_
 first|refine My (XJ b (TZ ?_))|refine My (YA b (TZ ?_))
 refine My<|Y0 g f ?_;show Us _ _ (if(UE d==U4)=O then _ else _) _ _ s;refine My<|TZ<|My<|X9 j D ?_;rw[Uh nl];refine My<|TZ<|My<|YD j D ?_;rw[Uh nl];apply TZ;simp only[Vc,VA,X4 h];apply My
 first|refine My (XJ b (TZ ?_))|refine My (YA b (TZ ?_))
 refine My<|wpAny_isOneOf_keyiter b ?_;show Us _ _ (setField _ 1 _>>=_) _ _ s;refine My<|Xx g f nl ?_;have a:(s.heap.update z<|Obj.mapFields (·.setIfInBounds 1 (XO<|(i:Int)+1))).IsKeyIter z d (i+1) es.size ep:=⟨_,W2 _ g<|YR<|V3 f _,(ZN ..).trans l,by rw[V3 f];simp[XO]⟩;refine My<|VB<|My<|wpAny_isOneOf_keyiter a.typeIs ?_;exact TZ<|TZ ⟨_,Z,TZ<|k _ a<|VO ..⟩
theorem L0(j:A.handled=Y)(e:s.heap.IsKeyIter z d i es.size ep)(f:s.heap.get? d=U od)(v:od.data= .dict es ep)(G:es.size<=i)
  (k:∀D,Heap.ExtBut z s.heap D->Q Y {s with heap:=D}):Us (UP prog w) A (X3<|.ref z) Q E s:=by
 obtain⟨o,g,l,h⟩:=id e;have c:=e.typeIs;refine My<|XX<|wpAny_callSpecial?_slot c WO<|U2 WO c F.entry_dict_keyiterator_next ?_<|F.args_dict_keyiterator_next_1 _;refine My<|TZ<|My<|My ?_
 first|refine My (XJ c (TZ ?_))|refine My (YA c (TZ ?_))
 refine My<|Y0 g h ?_;show Us _ _ (if(UE d==U4)=O then _ else _) _ _ s;refine My<|TZ<|My<|X9 f v ?_;rw[Uh nl];refine My<|TZ<|My<|YD f v ?_;rw[Uh nl];apply TZ;simp only[Vc,VA,WN G];apply My
 first|refine My (XJ c (TZ ?_))|refine My (YA c (TZ ?_))
 show Us _ _ (setField _ 0 _>>=_) _ _ s;refine My<|Xx g h nl ?_;apply My;refine My (U1 (My<|XI (by first|rfl|(simp only;rfl)) ?_)<|by size_fits)
 refine U1 ?_ (by size_fits);simp only;refine My<|wpAny_handled ?_;rw[show A.in1.handled=Y from j];refine My<|TZ<|wpAny_throw ?_;exact My<|Wp ⟨_,Ut _ Z,Z⟩ isSubtype_stop<|TZ<|k _<|((VO ..).extBut.push _).push _
def KIt(h:Vl)(I d:T8)(es:Array W3)(ep i:Nat):Prop:=h.IsKeyIter I d i es.size ep/\∃od,h.get? d=U od/\od.data= .dict es ep
theorem FI(q:A.handled=Y)(j:I≠d):Walks prog w A I [I,d] [I] es.size (λi v=>∃e,es[i]?=U e/\v=e.key) (λi h=>KIt h I d es ep i) where
 sub:=λb a=>by simp at a;simp[a]
 frame:=λ_ _ _ D m=>by
  obtain⟨⟨o,r,t⟩,od,c,f⟩:=D;exact⟨⟨o,m I (by exact .head _) o r,t⟩,od,m d nl od c,f⟩
 item:=λi s Q E u D g=>by
  obtain⟨D,od,c,f⟩:=D;have n:=getElem?_pos es i u;exact JJ D c f n λG k p=>g _ G _ ⟨_,n,Z⟩ ⟨k,od,p.extBut d od (Ne.symm j) c,f⟩ λb o a e=>p.extBut b o (λz=>a<|by simp[z]) e
 done:=λs Q E D g=>by
  obtain⟨D,od,c,f⟩:=D;exact L0 q D c f (Ug _) λG l=>g G _ λb o a e=>l b o (λz=>a<|by simp[z]) e
 self:=λ_ _ _ _ D g=>wpAny_pyIter_keyiter D.1 g
end
end L2.Hs
namespace L2.Hs
open PySem.SetTable
section
variable{prog:UT}{w:UY}{A:Vn}{E:a0f}{s:Uj}
theorem yS{o:Vy}{es:Array W3}(z:A.handled=Y)(hs:(a==Zd)=T4)(eH:s.heap.get? a=U o)(y:o.cls= .type "dict")(S:o.data= .dict es ep)
  (aa:es.size<=1000)
  (hQ:∀M P V,(∀b o,s.heap.get? b=U o->M.get? b=U o)->s.heap.objs.size<=M.objs.size->s.toks<=P->V=es.toList.map (·.key)->Q V {s with heap:=M,toks:=P}):Us (UP prog w) A (collect<|.ref a) Q E s:=by
 unfold collect;refine My<|wpAny_runValue<|Zv F.entry_proto_collect ?_;rw[YM F.plain_proto_collect _];show Us _ A.in1 (newList []>>=λl=>again<|.builtin "list.__iadd__" ⟨[l,.ref a],[]⟩) _ _ s;refine My<|U1 ?_;refine TZ ⟨plainId_quiet ZS _,Zv F.entry_list_iadd ?_⟩;rw[YM ZS _];have x:=UJ eH;have h:(s.heap.push {cls:= .type "list",data:= .seq ([]:a0g).toArray}).get? a=U o:=T1 _ eH;have B:(s.heap.push {cls:= .type "list",data:= .seq ([]:a0g).toArray}).get? s.heap.objs.size=U {cls:= .type "list",data:= .seq ([]:a0g).toArray}:=Ut _ Z;have r:s.heap.objs.size≠a:=WV x;have v:XQ (.ref s.heap.objs.size) (.ref a)=T4:=by simp[XQ,r]
 have C:(⟨s.heap.push {cls:= .type "list",data:= .seq ([]:a0g).toArray},s.gens,s.drawn,s.toks,s.os⟩:Uj).TypeIs (.ref a) "dict":=⟨o,h,y⟩;show Us _ A.in1 (Xi (.ref s.heap.objs.size) (.ref a)<|.ref s.heap.objs.size) _ _ _;unfold Xi;refine My<|wpAny_typeOf C ?_;rw[Uh<|by rw[v];decide];refine My<|JK hs h y S ?_;refine My<|VB ?_;unfold Builtin.List.listLengthHint;have n:(⟨(s.heap.push {cls:= .type "list",data:= .seq ([]:a0g).toArray}).push {cls:= .type "dict_keyiterator",data:= .fields #[.ref a,.int 0 0,.int es.size 0,.int ep 0]},s.gens,s.drawn,s.toks,s.os⟩:Uj).TypeIs (.ref a) "dict":=⟨o,T1 _ h,y⟩;refine My (WW n F.slot_dict_len.lookup ?_)
 (generalize t:("dict.__len__":String)=id0;wp_delta;rw[show splitId id0=U ("dict","__len__")from by subst t;decide +kernel];subst t)
 refine My<|Wp (b:=O) n (by rw[YZ];kernel_rfl) ?_;rw[Uh vy];show Us _ _ (if _ then _ else _) _ _ _;rw[Uf vy];refine My<|wpAny_typeOf n ?_;refine TZ ?_;rw[Uf vy];refine My<|Xm ?_;have R:(s.heap.push {cls:= .type "list",data:= .seq ([]:a0g).toArray}).objs.size=s.heap.objs.size+1:=by rw[size_push']
 generalize j:(s.heap.push {cls:= .type "list",data:= .seq ([]:a0g).toArray}).push {cls:= .type "dict_keyiterator",data:= .fields #[.ref a,.int 0 0,.int es.size 0,.int ep 0]}=f;have T:f.get? s.heap.objs.size=U (WL "list" #[] 0):=by rw[<-j];exact T1 _ B
 have gI:f.get? (s.heap.objs.size+1)=U {cls:= .type "dict_keyiterator",data:= .fields #[.ref a,.int 0 0,.int es.size 0,.int ep 0]}:=by rw[<-j,<-R];exact Ut _ Z
 have ga:f.get? a=U o:=by rw[<-j];exact T1 _ h
 have p:∀b g,s.heap.get? b=U g->f.get? b=U g:=λb g e=>by rw[<-j];exact T1 _<|T1 _ e
 unfold Builtin.List.listTouch;refine My<|My<|Yz T Z ?_ (by show 0<=_;lia) (by show 1<=_;lia);obtain⟨cb,X⟩:∃cb,(f.update s.heap.objs.size<|VD λD=>D.push U4).get? s.heap.objs.size=U (WL "list" #[U4] cb):=⟨_,get?_update_seq T λD=>D.push U4⟩;refine Yz X Z ?_ (by show 1<=UC;decide) (by show 0<=_;lia);obtain⟨H,ek⟩:∃H,((f.update s.heap.objs.size<|VD λD=>D.push U4).update s.heap.objs.size<|VD λD=>D.pop).get? s.heap.objs.size=U (WL "list" #[] H):=⟨_,get?_update_seq X λD=>D.pop⟩;have c:∀b g,b≠s.heap.objs.size->f.get? b=U g->((f.update s.heap.objs.size<|VD λD=>D.push U4).update s.heap.objs.size<|VD λD=>D.pop).get? b=U g:=λb g q e=>by
  rw[Ws _ _ _ _ q,Ws _ _ _ _ q];exact e
 generalize (f.update s.heap.objs.size<|VD λD=>D.push U4).update s.heap.objs.size (VD λD=>D.pop)=h4 at ek c;have J:s.heap.objs.size+1≠a:=WV<|Xc x;have st:KIt h4 (s.heap.objs.size+1) a es ep 0:=⟨⟨_,c _ _ rk gI,Z,Z⟩,o,c a o (Ne.symm r) ga,S⟩;have W:=FI (prog:=prog) (w:=w) (A:=A.in1) (I:=s.heap.objs.size+1) (d:=a) (es:=es) (ep:=ep) z J;show Us _ _ (again _) _ _ _;rw[R];refine TZ ⟨plainId_quiet F.plain_extend_loop _,codeAny_extend_loopS W.toS (by rw[V5];lia) s.heap.objs.size (by simp;lia) _ es.size 0 _ #[] H Z (Vp _) st ek (ItemsOf.nil _) λG k c' K u m=>?_⟩;show Us _ A (load s.heap.objs.size>>=_) _ _ G;refine My<|wpAny_load u ?_;refine TZ ?_;have L:G={s with heap:=G.heap,toks:=G.toks}:=by
  have v:=K.gens;have f:=K.drawn;have f5:=K.os;obtain⟨a1,a2,a3,a4,a5⟩:=G;simp only at v f f5;subst v f f5;rfl
 rw[L];refine hQ _ _ _ (λb g e=>?_) (Xu<|UJ u) K.toks ?_
 .have q:=UJ e
  exact K.heap b g (by simp only[Uq,VN,Yo,not_or];exact⟨U7 q,U7<|Xc q⟩)<|c b g (U7 q)<|p b g e
 .refine Wj (by rw[UO,TX,UO,m.1]) λi q1 q2=>?_
  have N:i<k.size:=by simpa using q1
  obtain⟨e,he,hv⟩:=m.2 i _<|getElem?_pos k i N;rw[W5,hv,WX,W5];obtain⟨z1,z2⟩:=Vh.mp he;rw[z2]
theorem y7{o:Vy}{K:Array W3}{xs:a0q}(u:A.handled=Y)(V:(a==Zd)=T4)(v:s.heap.get? a=U o)(y:o.cls= .type "dict")(I:o.data= .dict K T)(t:K.toList.map (·.key)=xs.map λk=>UE k.2)(q:(xs.map (·.1)).Nodup)(S:∀{B:Vn},B.units<=A.units+3->Srb prog w B is)(J:∀x∈xs,is s.heap x.1 x.2)(C:xs.length<64)
  (h:∀(l:T8) (D:Vl) (g r:Nat) (i:a0q),i.Perm xs->Up (i.map (·.1))->D.get? l=U (WL "list" (i.map λk=>UE k.2).toArray r)->s.heap.objs.size<=l->(∀b o,s.heap.get? b=U o->D.get? b=U o)->s.toks<=g->Q (.ref l) {s with heap:=D,toks:=g}):
  Us (UP prog w) A (call (.builtin "sorted") [.ref a]) Q E s:=by
 have F:K.size=xs.length:=by rw[<-UO,<-TX,t,TX]
 apply Calls.call_function_entry kind_sorted plain_sorted entry_sorted (args_sorted1 _);refine My<|TZ<|My<|yS u V v y I rk λj g R G n M pv=>?_;rw[t]at pv;subst pv;refine My (wpAny_newList ?_<|by rw[TX,V5];lia);have c:∀b d,s.heap.get? b=U d->(j.push<|WL "list" (xs.map λk=>UE k.2).toArray 0).get? b=U d:=λb d e=>T1 _<|G b d e;have p:(j.push<|WL "list" (xs.map λk=>UE k.2).toArray 0).get? _=U _:=Ut _ Z;refine My<|VB<|U2 slot_list_sort ⟨_,p,Z⟩ entry_list_sort (vq (S ?_) p (λk H=>(S<|Wn _ 3).fr (J k H) λb o _=>c b o) q (by omega) λD i r L N f P=>⟨_,Z,?_⟩)<|args_list_sort _
 .first|(show A.units+1<=A.units+3;lia)|(show A.units+2<=A.units+3;lia)|(show A.units+3<=A.units+3;lia)|(show A.units<=A.units+3;lia)
 .refine TZ ⟨_,Z,h _ D g r i L N f n (λb d e=>P b d (λz=>?_)<|c b d e) M⟩
  have:=UJ e;exact UG (z▸this)<|Nat.not_lt.mpr n
open PySem.W (kat_lt kat_cons kat_yes kat_no kat_nil kat_one)
theorem IZ:∀l m:a0e,HT.lexLt l m=ci l m
 |[],[]=>rfl
 |[],_::_=>rfl
 |_::_,[]=>rfl
 |a::l,b::m=>by rw[HT.lexLt_cons,IZ l m];rfl
theorem yv(h:PySem.ItemsAre (Z0 prog w) b c):YV c b:=by
 induction h with
 |nil=>exact .nil
 |cons a _ s=>
  obtain⟨t,rfl⟩:=ZA a;exact .cons _ t s
theorem lt_p{x y:eg}(j:A.units+1<YJ)(D:J_ prog w s.heap x a)(G:J_ prog w s.heap y b)(h:Q (ci (x.1::x.2)<|y.1::y.2) s):Us (UP prog w) A (keyLt' (tuples' O) (.ref a)<|.ref b) Q E s:=by
 obtain⟨o,n,t,c,k,_,K,i⟩:=D;obtain⟨F,H,M,I,e,_,f,d⟩:=G;apply kat_lt k K e f;unfold ci at h;refine kat_cons<|wpAny_eqBool_int ?_;by_cases z:x.1=y.1
 .rw[Uf z]at h
  rw[show(x.1==y.1)=O by rw[Xk];exact z];refine kat_yes<|kat_cons<|(jn _ w).eqBool (Nat.lt_of_succ_lt j) i d ?_;by_cases g:x.2=y.2
  .rw[Ux g]
   rw[g,iD]at h;exact kat_yes<|kat_nil h
  .rw[UX g]
   obtain⟨l,J,m,p,q,r,u⟩:=i;obtain⟨o2,L,v,f1,f2,B,C⟩:=d;exact kat_no (kat_one _ _<|HT.lt_tupInts ⟨l,p,q,m,r⟩ ⟨o2,f1,f2,v,B⟩ (yv u) (yv C) rk<|by rw[IZ];exact h)
 .rw[Uh z]at h
  rw[show(x.1==y.1)=T4 by rw[beq_eq_false_iff_ne];exact z];exact kat_no<|oneLt_int h
abbrev kl(b:Bool)(k:eg):a0e:=cond b (k.1::k.2) k.2
def isB(prog:UT)(w:UY)(b:Bool)(h:Vl)(k:a0e)(x:T8):Prop:=∃y,k=kl b y/\(KB prog w b).is h y x/\1<=k.length
theorem Se(j:A.units+1<YJ):∀b,Srb prog w A<|isB prog w b
 |false=>⟨λ⟨y,e,⟨z,g⟩,l⟩ k=>⟨y,e,⟨z,((CF (A:=A)).fr ⟨g,by rw[e]at l;exact l⟩ k).1⟩,l⟩,λ⟨y,e,⟨z,g⟩,l⟩=>(CF (A:=A)).tup ⟨g,by rw[e]at l;exact l⟩,λ⟨y,e,⟨_,g⟩,_⟩ ⟨B,c,⟨_,D⟩,_⟩ h=>IL g D<|by rw[e,c]at h;exact h⟩
 |true=>⟨λ⟨y,e,⟨o,n,t,b,d,a,f,p,s,m,q,i,r,u⟩,l⟩ k=>⟨y,e,⟨o,n,t,b,k _ _ a d,a,f,p,s,m,k _ _ i q,i,r,u⟩,l⟩,λ⟨y,e,⟨o,n,t,b,d,a,f,_⟩,l⟩=>⟨o,_,n,y.1,t,d,a,f,Z⟩,λ⟨y,e,E,_⟩ ⟨z,c,v,_⟩ h=>lt_p j E v<|by rw[e,c]at h;exact h⟩
theorem SL{b:Bool}{l:a0F}(s:l.Nodup)(h:b=T4->∀x∈l,x.1=0):(l.map<|kl b).Nodup:=WH.mpr<|s.imp_of_mem λ{x y} w A D e=>D (by
 cases b with
 |true=>exact WM (XZ e).1 (XZ e).2
 |false=>exact WM ((h Z x w).trans (h Z y A).symm) e)
end
section
variable{X:Cx}
abbrev kA(b:Bool)(y:eg×T8×V):a0e×T8:=(kl b y.1,y.2.1)
def rF(K:UA):a0k->Hp->VK->Prop:=λE H Q=>∃a b G D,E=[.ref a]/\H a=U (cX a b G D)/\(∀x∈D,z4 K H b x.1 x.2.1/\1<=(kl b x.1).length)/\D.length<64/\
 ∀(l:T8) (c:a0q),H l=Y->c.Perm (D.map<|kA b)->Up (c.map (·.1))->Q (.ref l) (upd H l<|.lst<|c.map λz=>V.ref z.2)
theorem MG{b:Bool}:∀{xs:a0n} {D:a0B},Zs XY xs D->xs.map (kA b)=D.map λy=>(kl b y.1,y.2.1)
 |_,_,.nil=>rfl
 |_,_,.cons h t=>by
  rw[Ul,Ul,MG t];unfold kA;rw[h.1,h.2.1]
theorem kB(m:X.calm=O)(R:X.A.units+64<YJ):cN X (.builtin "sorted") (rF X.K):=by
 intro g s T H xs us Q I r h;obtain⟨a,b,ep,S,rfl,J,E,hn,q⟩:=h;obtain⟨u,rfl,n⟩:=gG r;cases n;obtain⟨f5,⟨o,es,t,v,w,B,C,h5,F⟩,p,W,f⟩:=kx I J λx h=>(E x h).1;have i:=MG (b:=b) p;refine y7 (xs:=S.map<|kA b) (I.ok.hd m) f v w.1 B ?_ ?_ (λhB=>Se rk b) ?_ (by rw[TX];exact hn) λl h' L N c j ek P M D cb=>?_
 .rw[C,i,Ub,Ub];rfl
 .have:=SL (b:=b) F λe x d=>by
   subst e;rw[<-(lV p)]at d;obtain⟨y,G,rfl⟩:=T7.mp d;exact(E y G).1.1
  rw[Ub]at this;rw[i,Ub];exact this
 .intro x d
  obtain⟨y,G,rfl⟩:=T7.mp d;exact⟨y.1,Z,nE I (E y G).1,(E y G).2⟩
 .refine⟨.ref l,_,I.laid (o:= .lst<|c.map λz=>V.ref _) D M ⟨?_,c.map λk=>UE _,N,?_,P⟩,Z,q l c (I.hok.fresh M) j ek⟩
  .rw[TX,j.length_eq,TX,V5];lia
  .exact oE c
end
end L2.Hs
namespace L2.Pu
section
variable{X:Cx}{E:a0u}{K:UA}{a b:Expr}{es:List Expr}{pos:Xp}
theorem To.none(t:To F H H1 f)(h:H1 p=Y):H p=Y:=by
 cases q:H p with
 |none=>rfl
 |some o=>
  have:=t.kp p o q λb l e=>by
   obtain⟨c,d⟩:=t.fr.bag b l e;exact⟨λw=>(by subst w;rw[c]at h;cases h),λw=>(by subst w;rw[d]at h;cases h)⟩
  rw[this]at h;cases h
noncomputable def Fx.but(F:Fx)(a:T8):Fx:=⟨λc=>F.A c\/c=a,F.bg⟩
theorem Fx.tr_but{F:Fx}(fr:Fr F H g)(d:H p=Y)(a:∀c o,H c=U o->H1 c=U o):Tr F H (F.but p) H1:=⟨λc e f z=>by
 obtain z|z:=z
 .exact e z
 .subst z;exact f d,λc o _ h=>a c o h,Z⟩
theorem Fx.tr_of{F:Fx}:Tr (F.but p) H F H:=⟨λc h _ z=>h<|Wm z,λ_ _ _ h=>h,Z⟩
def dn(K:UA)(F:Fx)(D H:Hp)(E:a0c)(v:V):Prop:=∃a b,v= .ref a/\D a=Y/\H a=U (.lst b)/\bb K (F.but a) H E b
def E_(K:UA)(f:FL)(E:a0u):TE:=λc H Q=>∃F a b,Fr F H b/\js K F H a c/\run (dn K F H) F E c (f a) H Q b
def tVG(K:UA)(f:Dn->M a0v)(E:a0u):TE:=λc H Q=>∃F a b,Fr F H b/\js K F H a c/\run (jg K F H) F E c (f a) H Q b
noncomputable def szL(ds:a0c):a0C:=if ds.length<=UC then U ds else Y
def M8(a:a0c->a0C)(g:FL):FL:=λb=>M.bind (g b) λD=>M.ofO<|a D
theorem dn.new(t:To F H H1 f)(d:H1 p=Y)(a:bb K F H1 g e):dn K F H (upd H1 p<|.lst e) g (.ref p):=
 ⟨p,e,Z,t.none d,aw,bb.tr (Fx.tr_but t.fr d λc o h=>by rw[bt<|aP h d];exact h) _ _ a⟩
def ND(K:UA)(r:a0J)(M:a0c->a0C):Prop:=∀(F:Fx) (a H:Hp) (b:Bg) (Q:VK) (D E:a0c) (G:a0k),To F a H b->bb K F H D G->M D=U E->
 (∀v c,To F H c b->dn K F a c E v->Q v c)->r G H Q
theorem Lz(i:cN X (.type T) r)(l:ND X.K r op)(j:Gl X x)(b:X.mg x=Y)(m:XN x=U (.type T))(D:PA X (e::es)<|jm X.K g E)(G:autoParam (x≠"__name__") qX)(c:autoParam (b0c x) qX)
  (n:autoParam (b0a X e es) qQ) (d:autoParam (b0b X pos es) qQ):PE X (.Call (.Name x p) (e::es) [] pos) (E_ X.K (M8 op g) E):=
 (vN i j b m D G c n d).imp λv H Q f=>la f λF M S fr o h=>⟨F,M,S,fr,o,(run.bind h).mono λV q f=>by
  obtain⟨s,a,t,w,y⟩:=f;obtain⟨z,u,k⟩:=run.ofO y;exact l F H q a Q s z V t w u k⟩
def DN:a0c->a0C
 |[.lst xs]=>U xs
 |[.tup xs]=>U xs
 |_=>Y
theorem OC:ND K (λb H Q=>∃p D,b=[.ref p]/\(fy K H p D\/i0 K H p D)/\∀l,H l=Y->Q (.ref l) (upd H l<|.lst D)) DN:=λF E H G Q M S V t h e k=>by
 unfold DN at e;split at e
 .cases e
  obtain⟨v,rfl,g⟩:=bb.one h;obtain⟨a,b,rfl,r,d⟩:=b5.sqL g;exact⟨a,b,Z,.inl r,λl c=>k _ _ (t.fr.upd _ c)<|dn.new t c d⟩
 .cases e
  obtain⟨v,rfl,g⟩:=bb.one h;obtain⟨a,b,rfl,r,d⟩:=b5.sqT g;exact⟨a,b,Z,.inr r,λl c=>k _ _ (t.fr.upd _ c)<|dn.new t c d⟩
 .cases e
theorem bb.rep(h:bb K F H c d):∀n:Nat,bb K F H (UL n c).flatten (UL n d).flatten
 |0=>rfl
 |n+1=>by
  rw[VF,W9,VF,W9];exact bb.append h<|bb.rep h n
noncomputable def xL(a:a0c)(d:D):a0C:=match d with
 | .int k=>if(decide (-(2^63)<=k)&&decide (k<2^63)&&decide (a.length<=UC)&&decide (a.length*k.toNat<=UC))=O then U (UL k.toNat a).flatten else Y
 |_=>Y
def DC(g:FL)(f:FD):FL:=λb=>M.bind (g b) λa=>M.bind (M.ofO<|szL a) λa=>M.bind (f b) λd=>M.ofO<|xL a d
theorem SC(x:PA X es<|jm X.K g E)(cb:PE X b<|tV X.K f E):PE X (.BinOp (.List es pos') .Mult b pos) (E_ X.K (DC g f) E):=
 (fm Qq (fF x) cb).imp λP H Q j=>la j λF G β fr B r=>⟨F,G,β,fr,B,(run.bind r).mono λD T j=>by
  obtain⟨ds,a,t,S,r1⟩:=j;obtain⟨R,n,W⟩:=run.ofO_bind r1;unfold szL at n;split at n
  .rename_i f5
   cases n;refine⟨by rw[<-S.length];exact f5,λp I=>?_⟩;have m:=t.fr.upd (.lst D) I;have J:=t.fr.fresh I;refine⟨F,G,a,m.fr,(B.tr<|t.tr fr).tr<|m.tr t.fr,?_⟩;obtain⟨L,V,e,h⟩:=W;have u:run (dn X.K F H) F E P (M.bind (f G) λd=>M.ofO<|xL ds d) (upd T p<|.lst D) Q a:=by
    refine⟨L,V,e,?_⟩;cases L with
    |ok d=>exact λv y c=>h v y<|m.trans c
    |error C=>exact λy c=>h y<|m.trans c
   refine(run.bind u).mono λw A j=>r8 j λd aa c hw r3=>?_;obtain⟨os,i,k⟩:=run.ofO r3;unfold xL at i;split at i
   .split at i
    .rename_i kk o
     cases i;simp only[US,UZ]at o;cases hw;have s:=m.trans c;exact⟨p,_,D,Z,Z,c.kp p _ aw λb l q=>⟨λz=>J<|z▸(fr.bgA b l q).1,λz=>J<|z▸(fr.bgA b l q).2.1⟩,o.1.1.1,o.1.1.2,by rw[<-S.length];exact o.2,λq N=>k _ _ (c.fr.upd _ N)<|dn.new (t.trans s) N<|(bb.tr (s.tr t.fr) _ _ S).rep _⟩
    .cases i
   .cases i
  .cases n⟩
def gF(nv:Nat)(b4:a0a)(it:Dn->M (List Pu.D))(tg:ni)(E:a0s)(b:Dn->M (List Pu.D)):Dn->M (List Pu.D):=λa G=>match it a G with
 |none=>Y
 |some (.error C,β1)=>U (.error C,β1)
 |some (.ok ds,β1)=>match ot tg E b ds (lg nv b4 a) β1 with
  |some (.ok os,β2)=>if os.length<=UC then U (.ok os,β2)else Y
  |_=>Y
theorem FZ{S:a0i}{V:a0a}{X:Dn->M (List Pu.D)}{g:TG}{G:ni}{s:a0s}{I:a0Y}{b:Dn->M (List Pu.D)}(T:dg K g G)(f5:eU G)(W:∀D,lJ K D (I D) b){L:St}{H:Hp}{Q:VK}(h:E_ K (gF S.length V X G s b) E L H Q):
  su S V (iV K X E) (λD J=>dP J g (i_ K s E0)<|I D) L H Q:=by
 obtain⟨F,δ,β,fr,N,r,k,e,h⟩:=h;unfold gF at e;refine⟨F,δ,β,fr,N,?_⟩;split at e
 .cases e
 .rename_i C β1 q
  cases e;exact⟨.error C,_,q,h⟩
 .rename_i ds β1 q
  split at e
  .rename_i os β2 q2
   split at e
   .rename_i cb
    cases e;refine⟨.ok ds,β1,q,λJ j t R D c=>?_⟩;have d:=t.fr.fresh c;have ek:=t.fr.upd (.lst []) c;have m:Fr ⟨λa=>F.A a\/a=D,F.bg⟩ (upd j D<|.lst []) β1:=by
     refine⟨λa ha z=>?_,λb l z=>let ⟨x,y,w⟩:=fr.bgA b l z;⟨.inl x,.inl y,w⟩,ek.fr.bag⟩
     obtain ha|ha:=ha
     .exact ek.fr.occ a ha z
     .subst ha;rw[aw]at z;cases z
    have f:Tr F j ⟨λa=>F.A a\/a=D,F.bg⟩ (upd j D<|.lst []):=⟨λa ha hs z=>by
     obtain z|z:=z
     .exact ha z
     .subst z;exact hs c,λa o ha z=>by rw[bt<|aP z c];exact z,Z⟩
    refine qu (as:=[]) T f5 (W D) m (.inr Z) (λb l z=>⟨λw=>d<|w▸(fr.bgA b l z).1,λw=>d<|w▸(fr.bgA b l z).2.1⟩) (uh<|N.tr<|(t.tr fr).trans f) ⟨[],aw,Z⟩ (R.tr f) q2 (show os.length<=UC from cb) λaa P p ab u=>?_;obtain⟨i,v,B⟩:=u;have tf:To F j P k:=by
     refine⟨λa o z n=>p.kp a o (by rw[bt<|aP z c];exact z) (aP z c) n,λa ha z=>p.fr.occ a (Wm ha) z,fr.bgA,p.fr.bag⟩
    exact h _ P (t.trans tf) ⟨D,i,Z,t.none c,v,B⟩
   .cases e
  .cases e
def rZ(E:ni)(G:a0s)(b:Dn->M (List<|List Pu.D)):List Pu.D->Dn->M (List<|List Pu.D)
 |[],_=>M.ret []
 |d::ds,δ=>match E d δ with
  |none=>M.fail
  |some a=>M.bind (G a) λc=>M.bind (if c=O then b a else M.ret []) λo=>M.bind (rZ E G b ds δ) λK=>M.ret<|o++K
def S_(K:UA)(F:Fx)(D:T8)(E H:Hp)(G:List<|List Pu.D)(a:a0k):Prop:=(∀c,E c≠Y->H c≠Y)/\∃b,a=b.map V.ref/\(D::b).Nodup/\bE K F H (λr=>E r=Y) G b
theorem S_.mono{F:Fx}{D:T8}(g:F.A D)(i:∀b l,F.bg=U (b,l)->H0 b≠Y/\H0 l≠Y)(fr:Fr F H β)(t:o0 F D H H1 β1)(h:S_ K F D H0 H as n):S_ K F D H0 H1 as n:=by
 obtain⟨cv,G,e,a,j⟩:=h;refine⟨λc k z=>?_,G,e,a,bE.tr (t.tr fr g) j λr M m p q=>⟨p,t.kp r _ q (λz=>?_) λb l w=>⟨λz=>?_,λz=>?_⟩⟩⟩
 .cases q:H c with
  |none=>exact cv c k q
  |some o=>
   by_cases E:c=D
   .subst E;exact t.fr.occ _ g z
   .by_cases d:∃b l,F.bg=U (b,l)/\(c=b\/c=l)
    .obtain⟨b,l,w,f⟩:=d
     obtain rfl|rfl:=f
     .exact t.fr.occ _ (fr.bgA _ _ w).1 z
     .exact t.fr.occ _ (fr.bgA _ _ w).2.1 z
    .rw[t.kp c o q E λb l w=>⟨λy=>d ⟨b,l,w,.inl y⟩,λy=>d ⟨b,l,w,.inr y⟩⟩]at z
     cases z
 .subst z;exact(Vs.mp a).1 m
 .subst z;exact(i _ _ w).1 p
 .subst z;exact(i _ _ w).2 p
def um(K:UA)(D:T8)(i:TB)(f:Dn->M (List<|List Pu.D)):Prop:=∀(F:Fx) (E H:Hp) (G:Dn) (X d:Bg) (h:St) (a:a0k) (S V:List<|List Pu.D) (Q:a0H),Fr F H X->F.A D->(∀b l,F.bg=U (b,l)->D≠b/\D≠l)->(∀b l,F.bg=U (b,l)->E b≠Y/\E l≠Y)->js K F H G h->H D=U (.lst a)->S_ K F D E H S a->
 f G X=U (.ok V,d)->S.length+V.length<=UC->(∀e g c,o0 F D H g d->js K F g G e->g D=U (.lst c)->S_ K F D E g (S++V) c->Q e g)->i h H Q
def vb(f:Dn->M (List Pu.D)):Dn->M (List<|List Pu.D):=λa=>M.bind (f a) λd=>M.ret [d]
theorem bE.snoc(p:P r)(c:H r=U (.lst e))(d:bb K F H f e):∀{a:List (List Pu.D)} {b:a0r},bE K F H P a b->bE K F H P (a++[f]) (b++[r])
 |[],[],_=>⟨p,⟨e,c,d⟩,trivial⟩
 |_::_,_::_,h=>⟨h.1,h.2.1,bE.snoc p c d h.2.2⟩
 |[],_::_,h=>h.elim
 |_::_,[],h=>h.elim
theorem z6{D:T8}:um K D (ET D<|E_ K f E0) (vb f):=λF G H s β j cb E as os Q fr m p P R T S e u k=>by
 obtain⟨d,aa,e1,e2⟩:=M.bind_inv e;cases e2;refine⟨F,s,β,fr,R,E0.run e1 λv f5 t hv=>?_⟩;have w:=S.mono m P fr<|t.toD D;obtain⟨r,xs,rfl,g,n1,n2⟩:=hv;obtain⟨cv,X,A,nd,W⟩:=w;obtain⟨B,c,C,I,J⟩:=S;have i:E.length=as.length:=by rw[A,TX,W.len]
 have L:c=X:=by
  have:=C.symm.trans A;exact List.map_inj_right (λa b q=>by cases q;rfl)|>.mp this
 subst L;have nD:r≠D:=λz=>by subst z;rw[T]at g;cases g
 have nr:r∉c:=λz=>by
  obtain⟨_,ys,q⟩:=J.all r z;rw[q]at g;cases g
 have N:G r=Y:=by
  cases q:G r with
  |none=>rfl
  |some o=>exact UG g (B r<|by rw[q];simp)
 refine⟨E,t.kp D _ T p,by rw[i];simp at u;lia,?_⟩;have ek:o0 F D f5 (upd f5 D<|.lst<|E++[.ref r]) j:=by
  refine⟨λa o h n _=>by rw[bt n];exact h,λa h q=>?_,fr.bgA,λb l q=>?_⟩
  .by_cases z:a=D
   .subst z;rw[aw]at q;cases q
   .rw[bt z]at q;exact t.fr.occ a h q
  .rw[bt (p b l q).1.symm,bt (p b l q).2.symm]
   exact t.fr.bag b l q
 refine k cb _ _ ((t.toD D).trans ek) (R.tr<|(t.tr fr).trans (ek.tr t.fr m)) aw<|S_.mono m P t.fr ek ⟨cv,c++[r],by rw[A,UK];rfl,?_,bE.snoc N n1 (bb.tr Fx.tr_of _ _ n2) W⟩;rw[<-Wh,ZD];refine⟨I,nl,λx hx y hy=>?_⟩;obtain rfl:y=r:=by simpa using hy
 obtain rfl|hx:=Uq.mp hx
 .exact nD.symm
 .exact λz=>nr<|z▸hx
end
section
variable{X:Cx}{E:a0u}{K:UA}
theorem OB{D:T8}(hg:dg K g tg)(sg:eU tg)(hb:um K D tb b){F:Fx}{as os:List (List Pu.D)}(fr:Fr F H β)(W:F.A D)(hn:∀b l,F.bg=U (b,l)->D≠b/\D≠l)(h0:∀b l,F.bg=U (b,l)->H0 b≠Y/\H0 l≠Y)(vk:js K F H z σ)(hD:H D=U (.lst acc))(hd:S_ K F D H0 H as acc)
  (it:B6 K J F H s) (e:rZ tg tt b s z β=U (.ok os,β')) (hz:as.length+os.length<=UC) (k:∀f n a,o0 F D H n β'->js K F n z f->n D=U (.lst a)->S_ K F D H0 n (as++os) a->Q f n):dP J g (i_ K tt E0) tb σ H Q:=by
 refine⟨λi m f n=>m+i=s.length/\∃E a j t,o0 F D H n E/\js K F n z f/\n D=U (.lst a)/\S_ K F D H0 n j a/\rZ tg tt b (s.drop i) z E=U (.ok t,β')/\j++t=as++os,
  ⟨s.length,rk,β,acc,as,os,⟨λ_ _ h _ _=>h,fr⟩,vk,hD,hd,e,Z⟩,?_⟩
 rintro i m f n ⟨hm,E,a,j,t,u,y,B,C,r,ea⟩;obtain⟨iy,is⟩:=it F n E (u.tr fr W) u.fr i;cases ek:s[i]? with
 |none=>
  have f5:=Zz.mp ek;rw[WQ f5]at r;cases r;refine .inl ⟨is rk,k f n a u y B ?_⟩;rw[<-ea,UQ];exact C
 |some d=>
  have f5:=(Ui.mp ek).1;obtain⟨go,yl⟩:=iy d ek;have ed:s.drop i=d::s.drop (i+1):=by
   rw[VH f5];congr 1;exact UR<|(Ua f5).symm.trans ek
  rw[ed]at r;unfold rZ at r;cases q:tg d z with
  |none=>rw[q]at r;cases r
  |some G=>
   rw[q]at r;obtain⟨c,V,e2,e3⟩:=M.bind_inv r;obtain⟨o,S,X,e5⟩:=M.bind_inv e3;obtain⟨I,ai,e6,e7⟩:=M.bind_inv e5;cases e7;obtain⟨s1,s2⟩:=sg _ _ _ q;refine .inr ⟨go,λL N=>∃p,o0 F D H N S/\js K F N z L/\N D=U (.lst p)/\S_ K F D H0 N (j++o) p,?_,λx H2 hy=>?_⟩
   .rintro L N ⟨p,t9,vk9,hD9,hd9⟩
    exact⟨m-1,rk,rk,S,p,j++o,I,t9,vk9,hD9,hd9,e6,by rw[Vi];exact ea⟩
   .obtain⟨sm,dx⟩:=yl x H2 hy
    have w:=u.fr.same sm;refine hg F H2 z G f d x _ (y.tr (w.tr u.fr)) dx q λac v=>⟨F,G,E,w.fr,v,E0.run e2 λc' H3 eH ec=>?_⟩;subst ec;have P:=eH.kp D _ (sm _ _ B) hn;have R:=eH.tr w.fr;have d3:=(C.mono W h0 u.fr<|w.toD D).mono W h0 w.fr<|eH.toD D;have T:=u.trans<|(w.trans eH).toD D;have ae:j.length+(o++I).length<=UC:=by
     have:=U6 Y2 ea;simp only[Uv]at this⊢;lia
    cases c' with
    |true=>
     rw[Uf Z]at X⊢;exact hb F H0 H3 G V S ac a j o _ eH.fr W hn h0 (v.tr R) P d3 X (by rw[Uv]at ae;lia) λaj H4 cb t4 af ag ah=>⟨cb,T.trans t4,af.sub s1 s2,ag,ah⟩
    |false=>
     rw[Uh Uk]at X⊢;cases X;exact⟨a,T,(v.tr R).sub s1 s2,P,by rw[UQ];exact d3⟩
def jc(G:Nat)(K:a0a)(S:Dn->M (List Pu.D))(V:ni)(X:a0s)(b:Dn->M (List<|List Pu.D)):Dn->M (List<|List Pu.D):=λE a=>match S E a with
 |none=>Y
 |some (.error C,β1)=>U (.error C,β1)
 |some (.ok ds,β1)=>match rZ V X b ds (lg G K E) β1 with
  |some (.ok os,β2)=>if os.length<=UC then U (.ok os,β2)else Y
  |_=>Y
theorem vn{S:a0i}{V:a0a}{X:Dn->M (List Pu.D)}{g:TG}{G:ni}{s:a0s}{I:a0Y}{b:Dn->M (List<|List Pu.D)}(T:dg K g G)(cb:eU G)(W:∀D,um K D (I D) b){L:St}{H:Hp}{Q:VK}(h:tVG K (jc S.length V X G s b) E L H Q):
  su S V (iV K X E) (λD J=>dP J g (i_ K s E0)<|I D) L H Q:=by
 obtain⟨F,δ,β,fr,N,r,k,e,h⟩:=h;unfold jc at e;refine⟨F,δ,β,fr,N,?_⟩;split at e
 .cases e
 .rename_i C β1 q
  cases e;exact⟨.error C,_,q,h⟩
 .rename_i ds β1 q
  split at e
  .rename_i os β2 q2
   split at e
   .rename_i ek
    cases e;refine⟨.ok ds,β1,q,λJ f t f5 D d=>?_⟩;have i:=t.fr.fresh d;have eH:=t.fr.upd (.lst []) d;have m:Fr ⟨λa=>F.A a\/a=D,F.bg⟩ (upd f D<|.lst []) β1:=by
     refine⟨λa ha z=>?_,λb l z=>let ⟨x,y,w⟩:=fr.bgA b l z;⟨.inl x,.inl y,w⟩,eH.fr.bag⟩
     obtain ha|ha:=ha
     .exact eH.fr.occ a ha z
     .subst ha;rw[aw]at z;cases z
    have j:Tr F f ⟨λa=>F.A a\/a=D,F.bg⟩ (upd f D<|.lst []):=⟨λa ha hs z=>by
     obtain z|z:=z
     .exact ha z
     .subst z;exact hs d,λa o ha z=>by rw[bt<|aP z d];exact z,Z⟩
    have cv:∀c,H c≠Y->upd f D (.lst []) c≠Y:=λc hc z=>by
     by_cases w:c=D
     .subst w;rw[aw]at z;cases z
     .rw[bt w]at z;exact hc<|t.none z
    refine OB (as:=[]) T cb (W D) m (.inr Z) (λb l z=>⟨λw=>i<|w▸(fr.bgA b l z).1,λw=>i<|w▸(fr.bgA b l z).2.1⟩) (λb l z=>⟨fr.occ _ (fr.bgA b l z).1,fr.occ _ (fr.bgA b l z).2.1⟩) (uh<|N.tr<|(t.tr fr).trans j) aw ⟨cv,[],Z,nl,trivial⟩ (f5.tr j) q2 (by simpa using ek) λaa P R u ab v B=>?_;have tf:To F f P k:=by
     refine⟨λa o z n=>u.kp a o (by rw[bt<|aP z d];exact z) (aP z d) n,λa ha z=>u.fr.occ a (Wm ha) z,fr.bgA,u.fr.bag⟩
    obtain⟨_,rs,ea,nd,rl⟩:=B;subst ea;exact h _ P (t.trans tf) ⟨D,rs,Z,t.none d,v,nd,bE.tr (F:=⟨λa=>F.A a\/a=D,F.bg⟩) ⟨λa ha _ z=>ha<|Wm z,λa o _ z=>z,Z⟩ rl λr xs _ p q=>⟨p,q⟩⟩
   .cases e
  .cases e
section
variable{p q m:Expr}{o:List Expr}{n:a0T}{l:Scope}{pos:Xp}{r u:a0i}{v:a0a}{g:TG}{t:a0Y}
theorem HZ(c:X.calm=O)(S:c_ X l r u v)(d:PI X q m<|iV X.K y E)
  (e:∀(G:a0m) (C:T8) (a:a0r) (s:Uj) (H:Hp),PG (aT X r l G C a s H) q g/\eX (aT X r l G C a s H) o (i_ X.K z E0)/\∀D,PB (aT X r l G C a s H) p (⟨q,m,o,0⟩::n) l pos 0 D<|t D)
  (f:dg X.K g w) (i:eU w) (j:∀D,lJ X.K D (t D) b) (M:autoParam (∀x,Vo m X.env x=Wo x) xz):PE X (.ListComp p (⟨q,m,o,0⟩::n) l pos) (E_ X.K (gF u.length v y w z b) E):=
 (qo c S d e M).imp λk H Q h=>FZ f i j h
theorem Rp(c:X.calm=O)(S:c_ X l r u v)(d:PI X q m<|iV X.K y E)
  (e:∀(G:a0m) (C:T8) (a:a0r) (s:Uj) (H:Hp),PG (aT X r l G C a s H) q g/\eX (aT X r l G C a s H) o (i_ X.K z E0)/\∀D,PB (aT X r l G C a s H) p (⟨q,m,o,0⟩::n) l pos 0 D<|t D)
  (f:dg X.K g w) (i:eU w) (j:∀D,um X.K D (t D) b) (M:autoParam (∀x,Vo m X.env x=Wo x) xz):PE X (.ListComp p (⟨q,m,o,0⟩::n) l pos) (tVG X.K (jc u.length v y w z b) E):=
 (qo c S d e M).imp λk H Q h=>vn f i j h
end
mutual
noncomputable def noL:D->Bool
 | .int _=>O
 | .bl _=>O
 | .str _=>O
 | .non=>O
 | .tup ds=>noLs ds
 |_=>T4
noncomputable def noLs:a0c->Bool
 |[]=>O
 |d::ds=>noL d&&noLs ds
end
mutual
theorem zY{F b:Fx}(hF:∀c,b.A c->F.A c\/D2 H c):∀(d:D) (v:V),noL d=O->b5 K F H d v->b5 K b H d v
 | .int i,v,_,h=>h
 | .bl i,v,_,h=>h
 | .str i,v,_,h=>h
 | .non,v,_,h=>h
 | .tup ds,v,n,h=>by
  obtain⟨a,E,e,h1,f⟩:=h;refine⟨a,E,e,?_,noLs_den hF ds E (by simpa[noL]using n) f⟩;rcases h1 with⟨h1,r⟩|h1
  .refine .inl ⟨λz=>?_,r⟩
   rcases hF a z with z|⟨G,z⟩|⟨G,z⟩
   .exact h1 z
   .rcases r with r|⟨o,r⟩<;>rw[z]at r<;>cases r
   .rcases r with r|⟨o,r⟩<;>rw[z]at r<;>cases r
  .exact .inr h1
 | .lst _,_,n,_=>by simp[noL]at n
 | .scr _,_,n,_=>by simp[noL]at n
 | .ty _,_,n,_=>by simp[noL]at n
 | .txt,_,n,_=>by simp[noL]at n
 | .obj _ _ _,_,n,_=>by simp[noL]at n
 | .bag,_,n,_=>by simp[noL]at n
 | .adr _,_,n,_=>by simp[noL]at n
 | .dct _ _ _,_,n,_=>by simp[noL]at n
theorem noLs_den{F a:Fx}(hF:∀c,a.A c->F.A c\/D2 H c):∀(D:a0c) (E:a0k),noLs D=O->bb K F H D E->bb K a H D E
 |[],E,_,h=>h
 |d::D,E,n,h=>by
  have b:noL d=O/\noLs D=O:=by simpa[noLs]using n
  obtain⟨x,f,e,g,i⟩:=h;exact⟨x,f,e,zY hF d x b.1 g,noLs_den hF D f b.2 i⟩
end
theorem bE.noL{F a:Fx}(hF:∀c,a.A c->F.A c\/D2 H c):∀{D:a0v} {E:a0r},(∀ds∈D,noLs ds=O)->bE K F H P D E->(∀r∈E,P2 r)->bE K a H P2 D E
 |[],[],_,_,_=>trivial
 |ds::D,r::E,n,h,p=>by
  obtain⟨f,⟨M,b,d⟩,e⟩:=h;exact⟨p r Ud,⟨M,b,noLs_den hF _ _ (n ds Ud) d⟩,bE.noL hF (λx G=>n x<|T3 _ G) e λx G=>p x<|T3 _ G⟩
 |[],_::_,_,h,_=>h.elim
 |_::_,[],_,h,_=>h.elim
theorem fw.newGrd{E:Ds}{d:St}(G:fw K H₀ B n H E p d)(t:To (d_ B n) H H' o)(M:∀S∈ba,noLs S=O)(j:jg K (d_ B n) H H' ba v):
  ∃e,fw K H₀ e n H' (E.set i<|U<|.grd ba) o (d.set i<|U v)/\hY B H e H':=by
 obtain⟨a,D,rfl,k,f,V,b⟩:=j;have g:∀c,c=a\/c∈D->H c=Y/\D2 H' c:=λc hc=>by
  obtain rfl|hc:=hc
  .exact⟨k,.inl ⟨_,f⟩⟩
  .exact⟨(b.all c hc).1,.inl (b.all c hc).2⟩
 exact G.claim _ t g λh l _=>⟨a,D,Z,h a<|.inl Z,f,V,bE.noL (λc hc=>(l c hc).imp id λw=>(g c w).2) M b λr m=>h r<|.inr m⟩
end
section
variable{X:Cx}{E:a0u}{K:UA}{st:Va}{L:Hp}{B:Ow}{J:a0t}{H H':Hp}{δ:Ds}{β aa:Bg}{f5:St}
theorem fw.newOwnE(E:fw K L B J H δ β f5)(t:To (d_ B J) H H' aa)(e:dn K (d_ B J) H H' m v):
  ∃b,fw K L b J H' (δ.set i<|U<|.own m) aa (f5.set i<|U v)/\hY B H b H':=by
 obtain⟨a,D,rfl,f,d,g⟩:=e;exact E.claim (·=a) t (λc z=>by cases z;exact⟨f,.inl ⟨D,d⟩⟩) λ{j} k l _=>⟨a,D,Z,k a Z,d,bb.tr (show Tr ((d_ B J).but a) H' (d_ j J) H' from⟨λc h _ z=>h<|l c z,λ_ _ _ h=>h,Z⟩) _ _ g⟩
def wV(i:Nat)(f:FL):G:=λδ β=>match f (vw δ) β with
 |some (.ok ds,β1)=>U (.nx<|δ.set i<|U<|.own ds,β1)
 |some (.error C,β1)=>U (.ex C δ,β1)
 |none=>Y
theorem PL(h:PS X st<|gr (E_ X.K f E)<|d7 i):PS X st (tG X.K X.H₀ (wV i f) E):=h.imp λD f5 H d=>by
 obtain⟨B,J,δ,β,o,aa,ok,e,q⟩:=d;refine⟨d_ B J,vw δ,β,ok.fr,ok.view,?_⟩;unfold wV at e;split at e
 .rename_i ds β1 b
  cases e;refine⟨.ok ds,_,b,λv H' t G=>?_⟩;obtain⟨g,a,c⟩:=ok.newOwnE t G;exact q _ _ _ c a
 .rename_i C β1 b
  cases e;refine⟨.error C,_,b,λH' t=>?_⟩;obtain⟨a,c⟩:=ok.to Z t;exact q _ B H' c a
 .cases e
def uV(i:Nat)(f:Dn->M a0v):G:=λδ β=>match f (vw δ) β with
 |some (.ok ba,β1)=>if(ba.all noLs)=O then U (.nx<|δ.set i<|U<|.grd ba,β1)else Y
 |some (.error C,β1)=>U (.ex C δ,β1)
 |none=>Y
theorem MX(h:PS X st<|gr (tVG X.K f E)<|d7 i):PS X st (tG X.K X.H₀ (uV i f) E):=h.imp λD f5 H g=>by
 obtain⟨B,J,δ,β,o,aa,ok,e,q⟩:=g;refine⟨d_ B J,vw δ,β,ok.fr,ok.view,?_⟩;unfold uV at e;split at e
 .rename_i ba β1 b
  split at e
  .rename_i hn
   cases e;refine⟨.ok ba,_,b,λv H' t G=>?_⟩;obtain⟨j,a,c⟩:=ok.newGrd t (λL d=>X5.mp hn L d) G;exact q _ _ _ c a
  .cases e
 .rename_i C β1 b
  cases e;refine⟨.error C,_,b,λH' t=>?_⟩;obtain⟨a,c⟩:=ok.to Z t;exact q _ B H' c a
 .cases e
theorem bE.put{H:Hp}(t:Tr F H F<|upd H r<|.lst k)(E:bb K F (upd H r<|.lst k) ds k):∀{ba:a0v} {B:a0r} (j:Nat),bE K F H P ba B->B.Nodup->B[j]?=U r->bE K F (upd H r<|.lst k) P (ba.set j ds) B
 |d0::ba,r0::B,0,h,nd,e=>by
  obtain rfl:r0=r:=by simpa using e
  have D:∀a∈B,a≠r0:=λa b z=>(Vs.mp nd).1<|z▸b;exact⟨h.1,⟨k,aw,E⟩,bE.tr t h.2.2 λa G b p q=>⟨p,by rw[bt<|D a b];exact q⟩⟩
 |d0::ba,r0::B,j+1,h,nd,e=>by
  have c:B[j]?=U r:=by exact e
  obtain⟨d,⟨G,f,g⟩,i⟩:=h;exact⟨d,⟨G,by rw[bt (λz=>(Vs.mp nd).1<|z▸Uo c:r0≠r)];exact f,bb.tr t _ _ g⟩,bE.put t E j i (Vs.mp nd).2 c⟩
 |[],[],_,_,_,e=>by simp at e
 |[],_::_,_,h,_,_=>h.elim
 |_::_,[],_,h,_,_=>h.elim
theorem bE.at{H:Hp}:∀{ba:a0v} {rs:a0r} {j:Nat} {ds:a0c},bE K F H P ba rs->ba[j]?=U ds->∃r xs,rs[j]?=U r/\P r/\H r=U (.lst xs)/\bb K F H ds xs
 |d0::ba,r0::rs,0,ds,h,e=>by
  obtain rfl:d0=ds:=by simpa using e
  obtain⟨a,⟨B,b,c⟩,g⟩:=h;exact⟨r0,B,Z,a,b,c⟩
 |d0::ba,r0::rs,j+1,ds,h,e=>by
  obtain⟨r,xs,d,f⟩:=bE.at h.2.2 (by exact e);exact⟨r,xs,by exact d,f⟩
 |[],[],_,_,_,e=>by simp at e
 |[],_::_,_,_,h,_=>h.elim
 |_::_,[],_,_,h,_=>h.elim
theorem fw.writeRow{E:a0r}{X:a0v}(D:fw K L B J H δ β f5)(x:f5[i]?=U (U<|.ref a))(hB:B a=U (i+2))(G:H a=U (.lst<|E.map V.ref))(M:(a::E).Nodup)(u:bE K (d_ B J) H (λr=>B r=U (i+2)) X E)(w:E[j]?=U r)(I:H r=U (.lst t))(N:bb K (d_ B J) H ds xs):
  fw K L B J (upd H r<|.lst xs) (δ.set i<|U<|.grd<|X.set j ds) β f5/\hY B H B (upd H r<|.lst xs):=by
 have m:=Uo w;have f:=(u.all r m).1;have g:hY B H B (upd H r<|.lst xs):=by
  refine⟨λc o h n=>?_,λ_ _=>Z,λ_ _ _ n=>n,λc p=>?_⟩
  .rw[bt]
   .exact h
   .intro z;subst z;rw[f]at n;rcases n with n|n<;>cases n
  .by_cases z:c=r
   .subst z;rw[aw];simp
   .rw[bt z];exact p
 have S:Tr _ H (d_ B J) _:=g.tr;refine⟨⟨⟨λc p z=>?_,D.fr.bgA,λb l e=>?_⟩,D.bgt,by rw[VL,D.len],λa G=>g.al a<|D.cov a G,D.new,λc k p=>(by
  by_cases z:c=r
  .subst z;exact .inl ⟨xs,aw⟩
  .exact(D.lst c k p).imp λo y=>by rw[bt z];exact y),λk s e=>?_⟩,g⟩
 .by_cases q:c=r
  .subst q;rw[aw]at z;cases z
  .rw[bt q]at z;exact D.fr.occ c p z
 .obtain⟨b1,A⟩:=D.bgt b l e
  rw[bt (λz=>by subst z;rw[f]at b1;cases b1),bt (λz=>by subst z;rw[f]at A;cases A)];exact D.fr.bag b l e
 .rw[V2]at e
  by_cases q:i=k
  .subst q
   rw[Uf Z]at e;split at e
   .cases e
    exact⟨_,x,a,E,Z,hB,by rw[bt (λz=>(Vs.mp M).1<|z▸m:a≠r)];exact G,M,bE.put S (bb.tr S _ _ N) j u (Vs.mp M).2 w⟩
   .cases e
  .rw[Uh q]at e
   obtain⟨v,C,F⟩:=D.tell k s e;exact⟨v,C,F.tr S λc d=>⟨d,λo z=>(bt λy=>by subst y;rw[f]at d;cases d;exact q Z).trans z⟩⟩
def pI(f:Dn->M a0v):G:=λδ β=>match f (vw δ) β with
 |some (.ok ba,β1)=>U (.rg ba,β1)
 |some (.error C,β1)=>U (.ex C δ,β1)
 |none=>Y
theorem N3{pos:Xp}(h:PS X (.Return (U e) pos)<|uy<|tVG X.K f E):PS X (.Return (U e) pos) (tG X.K X.H₀ (pI f) E):=h.imp λD f5 H j=>by
 obtain⟨B,J,δ,β,o,aa,ok,e,q⟩:=j;refine⟨d_ B J,vw δ,β,ok.fr,ok.view,?_⟩;unfold pI at e;split at e
 .rename_i ba β1 d
  cases e;refine⟨.ok ba,_,d,λv H' t G=>?_⟩;obtain⟨b,g⟩:=ok.to Z t;have i:∀c,H c=Y->X.H₀ c=Y:=λc k=>by
   cases w:X.H₀ c with
   |none=>rfl
   |some o=>exact UG k (ok.cov c<|by rw[w];simp)
  obtain⟨a,L,rfl,l,m,M,n⟩:=G;exact q _ B H' g b.fr ⟨a,L,Z,i a l,m,M,bE.tr (Tr.refl _ _) n λr S _ p y=>⟨i r p,y⟩⟩
 .rename_i C β1 d
  cases e;refine⟨.error C,_,d,λH' t=>?_⟩;obtain⟨b,g⟩:=ok.to Z t;exact q _ B H' g b
 .cases e
def spG(K:UA)(n:Nat)(m:a0c->M a0v):Sp:=λB H Q E=>B.length=n/\∃F D β,Fr F H β/\bb K F H D B/\run (jg K F H) F (λ_=>E) [] (m D) H Q β
def qI(n:Nat)(g:G):a0c->M a0v:=λB β=>match g (ll n B) β with
 |some (.rg ba,aa)=>U (.ok ba,aa)
 |some (.ex C _,aa)=>U (.error C,aa)
 |_=>Y
variable{P:UT}{w:UY}{mg:a0j}{ab:Vl}
theorem OW{st:Va}{N V:a0i}(n m:Nat)(g:G)(F:g8 K x qual st f fd)(S:bi N V<|ag st)(L:V.length=n)(eH:N.length=m)
  (j:∀(c:Uc) (A:Vn) (D:List Env) (s:Uj) (H:Hp) (E:XK),d4 k (A.deeper<|Yw qual (ag st) s.heap.objs.size f c)->
   PSs (f9 (hO P w) P w K mg ab N qual (ag st) f c A D s H E) (cK st) (tG K H g (λ_=>E))):e_ P w K mg ab (hO P w) (k+1) f fd V (spG K n<|qI m g):=by
 subst L eH;refine F.okE S (λvs H Q E h=>h.1) λc A D s H vs Q E hr h=>?_;obtain⟨hl,u,X,β,fr,hd,r,aa,e,h⟩:=h;refine⟨_,j c A D s H E hr,?_⟩;obtain⟨B,ok,R,h1,hn⟩:=sy fr hd;have J:∀{I:Ow} {H':Hp},hY B H I H'->Fr (d_ I _) H' aa->To u H H' aa/\Tr (d_ I _) H' u H':=λ{I H'} s i=>by
  have hs:∀a,u.A a->I a≠Y:=λa M=>by
   rw[s.tg a<|R a M];rcases R a M with z|z<;>rw[z]<;>simp
  refine⟨⟨λa o M n=>s.kp a o M ?_,λa M=>i.occ a<|hs a M,λb l e=>fr.bgA b l e,i.bag⟩,λa M _ z=>M<|hs a z,λ_ _ _ h=>h,Z⟩;cases q:B a with
  |none=>exact .inl Z
  |some t=>
   have:=R a (hn a<|by rw[q];simp);obtain z|z:=this
   .rw[q]at z;exact .inr z
   .obtain⟨b,l,e,w⟩:=h1 a z
    obtain⟨T,n2⟩:=n b l e;obtain w|w:=w
    .exact UG w T
    .exact UG w n2
 unfold qI at e;split at e
 .rename_i d β1 cb
  cases e;refine⟨B,u.bg,ll _ X,β,.rg d,aa,ok,cb,λv I H' s i hv=>?_⟩;obtain⟨W,t2⟩:=J s i;obtain⟨a,rs,ev,n0,T,nd,rl⟩:=hv;exact h v H' W ⟨a,rs,ev,n0,T,nd,bE.tr t2 rl λr xs _ p y=>⟨p,y⟩⟩
 .rename_i C ek β1 cb
  cases e;refine⟨B,u.bg,ll _ X,β,.ex C ek,aa,ok,cb,λac I H' s f5=>?_⟩;obtain⟨W,t2⟩:=J s f5.fr;exact h H' W
 .cases e
variable{e:Expr}{s:List Expr}{pos p:Xp}{x:U3}{k n:Nat}{f:T8}{B:Uw}{z:a0i}
def yK(m:a0c->M a0v)(g:FL):Dn->M a0v:=λδ=>M.bind (g δ) λe=>m e
theorem jg.pre{K:UA}{H b H':Hp}(t:To F H b j)(h:jg K F b H' ba v):jg K F H H' ba v:=by
 obtain⟨a,e,c,d,g,f,i⟩:=h;exact⟨a,e,c,t.none d,g,f,bE.tr (Tr.refl _ _) i λr k _ p y=>⟨t.none p,y⟩⟩
theorem Rq(G:e_ X.prog X.w X.K X.mg X.base (hO X.prog X.w) k f B z<|spG X.K n m)(q:d4 k X.A)(u:Gl X x)(V:X.mg x=U (.ref f))(y:Zx X.K (.ref f)=O)(I:cz X.K B z [])(hx:dL (hO X.prog X.w) X E)
  (ha:PA X (e::s)<|jm X.K g E) (hn:∀δ β r aa,g δ β=U (.ok r,aa)->r.length=n) (a:autoParam (b0c x) qX) (J:autoParam (b0a X e s) qQ) (b:autoParam (b0b X pos s) qQ):
  PE X (.Call (.Name x p) (e::s) [] pos) (tVG X.K (yK m g) E):=
 (mB G q u V y I .nil hx ha a J b).imp λf5 H Q L=>la L λF δ β fr N r=>⟨F,δ,β,fr,N,by
  obtain⟨P,c,h,i⟩:=run.bind r;refine⟨P,c,h,?_⟩;cases P with
  |error C=>exact i
  |ok ds=>
   intro vs cb t S;obtain⟨d',D,j,d,r1⟩:=i vs cb t S;refine⟨by rw[UQ,<-S.length,hn _ _ _ _ h],F,d',D,j.fr,by rw[UQ];exact d,?_⟩;obtain⟨l,M,R,o⟩:=r1;refine⟨l,M,R,?_⟩;cases l with
   |ok ba=>exact λv H' W T=>o v H' W<|jg.pre j T
   |error C=>exact o⟩
end
end L2.Pu
namespace L2
end L2
namespace L2.Pu
section
variable{X:Cx}{E:a0u}{K:UA}
def iQ(K:UA)(E:a0j)(x:U3)(d:D):Prop:=∃u v,E x=U u/\aY v u/\∀F H,b5 K F H d v
theorem lZ{pos:Xp}(c:iQ X.K X.mg x d)(a:autoParam (Gl X x) qQ)(D:autoParam (b0c x) qX):PE X (.Name x pos) (tV X.K (fC d) E):=by
 obtain⟨u,v,b,e,f⟩:=c;exact t_ (Of a b e D) f
theorem lY{pos:Xp}(c:iQ X.K X.mg x d)(a:autoParam (Gl X x) qQ)(D:autoParam (b0c x) qX):PE X (.Name x pos) (tV X.K (fC d) E):=lZ c a D
mutual
noncomputable def ri:D->Option PyData
 | .non=>U .none
 | .bl b=>U<|.bool b
 | .int i=>U<|.int i
 | .str x=>U<|.str x
 | .lst xs=>(toPs xs).map PyData.list
 | .tup xs=>(toPs xs).map PyData.tuple
 |_=>Y
noncomputable def toPs:a0c->Option (List PyData)
 |[]=>U []
 |x::xs=>match ri x,toPs xs with
  |some p,U ps=>U<|p::ps
  |_,_=>Y
end
mutual
theorem mw{s:Uj}(I:b_ X y z H s):∀(d:D) (v:V) (u:Uc) (p:PyData),b5 X.K F H d v->ri d=U p->aY v u->∃G,Reads s.heap u p G
 | .non,v,u,p,h,e,r=>by cases e;cases h.non;cases r;exact⟨_,.none⟩
 | .bl b,v,u,p,h,e,r=>by cases e;cases h.bl;cases r;exact⟨_,.bool b⟩
 | .int i,v,u,p,h,e,r=>by cases e;cases h.int;obtain⟨t,rfl⟩:=r;exact⟨_,.int i t⟩
 | .str x,v,u,p,h,e,r=>by cases e;cases h.str;obtain⟨t,rfl⟩:=r;exact⟨_,.str x t⟩
 | .lst xs,v,u,p,h,e,r=>by
  unfold ri at e;cases q:toPs xs with
  |none=>rw[q]at e;cases e
  |some M=>
   rw[q]at e;cases e;obtain⟨a,S,rfl,l,c⟩:=b5.sqL h;cases r;obtain⟨E,f,m,_⟩:=I.list l;obtain⟨G,g⟩:=reads_L I xs S E M c q f;obtain⟨o,j,k,n,w⟩:=m.isList;exact⟨_,.list j k w<|by simpa using g⟩
 | .tup xs,v,u,p,h,e,r=>by
  unfold ri at e;cases q:toPs xs with
  |none=>rw[q]at e;cases e
  |some M=>
   rw[q]at e;cases e;obtain⟨a,S,rfl,l,c⟩:=b5.sqT h;cases r;obtain⟨E,f,m,_⟩:=I.tuple l;obtain⟨G,g⟩:=reads_L I xs S E M c q f;obtain⟨o,j,k,n,w⟩:=m;exact⟨_,.tuple j k w<|by simpa using g⟩
 | .ty _,_,_,_,_,e,_=>by cases e
 | .txt,_,_,_,_,e,_=>by cases e
 | .scr _,_,_,_,_,e,_=>by cases e
 | .obj _ _ _,_,_,_,_,e,_=>by cases e
 | .bag,_,_,_,_,e,_=>by cases e
 | .adr _,_,_,_,_,e,_=>by cases e
 | .dct _ _ _,_,_,_,_,e,_=>by cases e
theorem reads_L{s:Uj}(I:b_ X m n H s):∀(E:a0c) (D:a0k) (G:a0g) (M:List PyData),bb X.K F H E D->toPs E=U M->aE D G->∃S,ReadsAll s.heap G M S
 |[],D,G,M,h,e,r=>by
  have q:D=[]:=h;subst q;cases e;cases r;exact⟨_,.nil⟩
 |d::E,D,G,M,h,e,r=>by
  obtain⟨x,a,rfl,b,c⟩:=h;unfold toPs at e;split at e
  .rename_i p pr f g
   cases e;cases r with
   |cons V i=>
    obtain⟨S,j⟩:=mw I d x _ p b f V;obtain⟨l,k⟩:=reads_L I E a _ pr c g i;exact⟨_,.cons j k⟩
  .cases e
end
def n6(a b:D):a0S:=match ri a,ri b with
 |some p,U q=>if(Za p&&Za q)=O then U (Xo p q)else Y
 |_,_=>Y
def dJ(a b:D):a0l:=match eqS a b with
 |some c=>U<|.bl c
 |none=>(n6 a b).map D.bl
def ic(a b:D):a0l:=match eqS a b with
 |some c=>U<|.bl<|!c
 |none=>(n6 a b).map λc=>D.bl<|!c
def uG(X:Cx)(g:Bool->Bool):R2:=λx y H Q=>∃(F:Fx) (a b:D) (c:Bool),b5 X.K F H a x/\b5 X.K F H b y/\n6 a b=U c/\Q (.bl<|g c) H
theorem v7{c:Bool}(h:n6 a b=U c):∃p q,ri a=U p/\ri b=U q/\Za p=O/\Za q=O/\c=Xo p q:=by
 unfold n6 at h;split at h
 .rename_i p q d e
  split at h
  .rename_i hs
   rw[US]at hs;cases h;exact⟨p,q,d,e,hs.1,hs.2,Z⟩
  .cases h
 .cases h
theorem Qu(f:d4 k X.A):hE X (Vz .Eq) (uG X id):=by
 intro d s t H x y v u Q I g i h;obtain⟨F,a,b,c,D,E,e,q⟩:=h;obtain⟨p,j,l,m,n,o,rfl⟩:=v7 e;obtain⟨K,G⟩:=mw I a x v p D l g;obtain⟨M,r⟩:=mw I b y u j E m i;exact eq_dataH G r n o f.units ⟨.bl _,H,I,Z,q⟩
theorem Qs(f:d4 k X.A):hE X (Vz .NotEq) (uG X not):=by
 intro d s t H x y v u Q I g i h;obtain⟨F,a,b,c,D,E,e,q⟩:=h;obtain⟨p,j,l,m,n,o,rfl⟩:=v7 e;obtain⟨K,G⟩:=mw I a x v p D l g;obtain⟨M,r⟩:=mw I b y u j E m i;exact ne_dataH G r n o f.units ⟨.bl _,H,I,Z,q⟩
theorem cu(a:d4 k X.A):hE X (Vz .Eq) (λx y H Q=>rEq x y H Q\/uG X id x y H Q):=SB.or<|Qu a
theorem gD(a:d4 k X.A):hE X (Vz .NotEq) (λx y H Q=>rNe x y H Q\/uG X not x y H Q):=Sz.or<|Qs a
theorem de:bz X.K (λx y H Q=>rEq x y H Q\/uG X id x y H Q) dJ:=λF H G Q D E d v1 v2 fr a b e k=>by
 unfold dJ at e;split at e
 .rename_i c q
  cases e;obtain⟨f,g⟩:=Kg q a b;exact .inl ⟨f,by rw[g];exact k _ H (To.refl fr) Z⟩
 .cases q:n6 D E with
  |none=>rw[q]at e;cases e
  |some c=>rw[q]at e;cases e;exact .inr ⟨F,D,E,c,a,b,q,k _ H (To.refl fr) Z⟩
theorem iJ:bz X.K (λx y H Q=>rNe x y H Q\/uG X not x y H Q) ic:=λF H G Q D E d v1 v2 fr a b e k=>by
 unfold ic at e;split at e
 .rename_i c q
  cases e;obtain⟨f,g⟩:=Kg q a b;exact .inl ⟨f,by rw[g];exact k _ H (To.refl fr) Z⟩
 .cases q:n6 D E with
  |none=>rw[q]at e;cases e
  |some c=>rw[q]at e;cases e;exact .inr ⟨F,D,E,c,a,b,q,k _ H (To.refl fr) Z⟩
theorem TH(i j:Int):dJ (.int i) (.int j)=U (.bl<|decide (i=j)):=Z
theorem TF(i j:Int):ic (.int i) (.int j)=U (.bl<|!decide (i=j)):=Z
def n5(d:D):Bool:=match ri d with
 |some p=>Za p
 |none=>T4
theorem Nj{C:a0W}{c:Int->Int->Bool}{g:a0M}(b:∀i j,c i j=O->C i j):bz K (ipC C g) (q_ λi j=>if c i j=O then U (.int<|g i j)else Y):=λF H D Q E G d v1 v2 fr f h e k=>by
 obtain⟨i,j,rfl,rfl,a⟩:=kg e;split at a
 .cases a
  exact⟨i,j,f,h,b _ _ (by assumption),k _ H (To.refl fr) Z⟩
 .cases a
def addI:D->D->a0l:=q_ λi j=>U<|.int<|i+j
theorem AC:bz K (ipI λi j=>i+j) addI:=λF H D Q E G d v1 v2 fr a b e k=>by
 obtain⟨i,j,rfl,rfl,c⟩:=kg e;cases c;exact⟨i,j,a,b,k _ H (To.refl fr) Z⟩
theorem qz:PIp X .Mult (ipC wZ λi j=>i*j):=by
 intro a s e H x y v u Q I b d h;obtain⟨i,j,rfl,rfl,c,q⟩:=h;obtain⟨t,rfl⟩:=b;obtain⟨D,rfl⟩:=d;exact imul_int ⟨.int _,H,I.tok _,⟨_,Z⟩,q⟩<|IntMulOk.of_bits (lH c.1)<|lH c.2
theorem qv:bz K (ipC wZ λi j=>i*j) dy:=Nj λi j h=>by
 simp only[US,iS,UZ]at h;exact h
theorem LZ:bz K (ipC w4 λi j=>i/j) nV:=Nj λi j h=>by
 simp only[US,UZ]at h;exact h
abbrev gH:=K1
theorem QS:dh K (λE H Q=>∃(a:T8) (D:a0e),E=[.ref a]/\fy K H a (D.map V.int)/\Q (.int D.sum) H) gH:=SS
def NF(H:Hp)(b l:T8):Prop:=∃(D:a0e) (i j:Int),H b=U (.lst [.ref l,.int i,.int j])/\H l=U (.lst<|D.map V.int)/\D≠[]/\D.length<=64/\(∀c∈D,0<=c)/\0<=j
theorem TM(D:a0e):∃a:a0e,lU (D.map V.int) Y (U 63)=a.map V.int/\a.length<=63:=by
 refine⟨(D.drop<|HT.sIx D.length 0 Y).take<|HT.sIx D.length D.length (U 63)-HT.sIx D.length 0 Y,?_,?_⟩
 .unfold lU
  rw[TX,ZL,Xg]
 .rw[Ve]
  have:HT.sIx D.length D.length (U 63)<=63:=by
   unfold HT.sIx;lia
  omega
def Sf(K:UA):Sp:=λD H Q _=>∃(a:T8) (E:a0e),D=[.ref a]/\fy K H a (E.map V.int)/\∀(b l:T8) (c:Hp),H b=Y->H l=Y->NF c b l->cj H c->Q (.ref b) c
def MU(K:UA):Sp:=λE H Q _=>∃(a:T8) (D:a0e),E=[.ref a]/\fy K H a (D.map V.int)/\D.length<=63/\∀b,Q (.bl O) b
theorem O6(sm:cj H₀ H)(A:H₀ b=Y)(C:H₀ l=Y)(B:NF H b l):∃E,E.ok/\fw K H₀ (λc=>if c=b\/c=l then U 1 else Y) (U (b,l)) H (Y::U (.sh .bag)::UL n Y) E (U (.ref a)::U (.ref b)::UL n Y):=by
 obtain⟨D,i,j,g,h,p,v,w,y⟩:=B;have m:=SG g h (by
  intro z;cases D with
  |nil=>exact p Z
  |cons c r=>cases z)
 refine⟨⟨D,i,j⟩,⟨p,v,w,y⟩,⟨⟨λc f=>?_,λt u e=>?_,λt u e=>?_⟩,λt u e=>?_,nl,λc f=>?_,λc k f=>(by
  have d:=f;split at d<;>cases d),λc k f=>(by
  have d:=f;split at d<;>cases d),λk s e=>?_⟩⟩
 .have d:(if c=b\/c=l then U 1 else Y)≠(Y:a0L):=f
  split at d
  .rename_i q
   obtain rfl|rfl:=q
   .rw[g];simp
   .rw[h];simp
  .exact UG Z d
 .cases e
  refine⟨?_,?_,m⟩
  .show(if b=b\/b=l then U 1 else Y)≠(Y:a0L)
   rw[Uf<|.inl Z];simp
  .show(if l=b\/l=l then U 1 else Y)≠(Y:a0L)
   rw[Uf<|.inr Z];simp
 .cases e
  exact⟨g,h⟩
 .cases e
  exact⟨Uf<|.inl Z,Uf<|.inr Z⟩
 .cases q:H₀ c with
  |none=>exact UG q f
  |some o=>rw[sm c o q];simp
 .match k with
  |0=>simp at e
  |1=>
   simp at e;subst e;exact⟨.ref b,Z,b,l,Z,Z⟩
  |k+2=>
   simp only[List.getElem?_cons_succ,WG]at e;split at e<;>cases e
variable{P:UT}{w:UY}{mg:a0j}{base:Vl}
theorem gU{M:Va}{N V:a0i}(n m:Nat)(g:G)(F:g8 K x c M f h)(S:bi N V<|ag M)(d:V.length=n)(e:N.length=m)
  (a:∀(b:Uc) (A:Vn) (D:List Env) (s:Uj) (H:Hp) (E:XK),d4 k (A.deeper<|Yw c (ag M) s.heap.objs.size f b)->
   PSs (f9 (hO P w) P w K mg base N c (ag M) f b A D s H E) (cK M) (tG K H g (λ_=>E))):e_ P w K mg base (hO P w) (k+1) f h V (P_ K n<|fV m g):=by
 subst d e;exact OV F S a
end
end L2.Pu
namespace L2
theorem c_.ofB{X:Cx}{w:Scope}{D:a0a}(k:w.kind= .function)(E:(w.names.map (·.1)).Nodup)
  (fr:(w.names.all λy=>y.2 != .free||(X.env.scope.names.lookup y.1==U .cell||X.env.scope.names.lookup y.1==U .free))=O) (G:Nc=c4++D.map (λj=>X.N.getD j Yg))
  (a:(D.all λj=>decide (j<X.N.length)&&w.names.lookup (X.N.getD j Yg)==U .free)=O):c_ X w Nc c4 D:=by
 refine⟨k,E,λy K e=>?_,G,λj b=>?_⟩
 .have:=X5.mp fr y K
  rw[e]at this;simp only[XG,Bool.false_or,Bool.or_eq_true,Xk]at this;exact this
 .have:=X5.mp a j b
  simp only[US,UZ,Xk]at this;exact this
end L2
namespace L2.Pu
theorem Ny(i j:Int):x5 (.int i) (.int j)=if decide (0<j)=O then U (.int<|i % j)else Y:=Z
theorem Mn(i j:Int):B_ (.int i) (.int j)=U (.bl<|decide (j<i)):=Z
end L2.Pu
namespace L2.Pu
section
variable{X:Cx}{E:a0u}{K:UA}{y z u:Expr}{w:List Expr}{v:a0T}{t:Scope}{pos:Xp}{A F:a0i}{I:a0a}{g:TG}{B:a0Y}
theorem PN{a c:Xp}(j:X.N.Nodup)(d:X.N[i]?=U x)(M:Iv X.env.scope x)(k:X.calm=O)(S:c_ X t A F I)(l:PI X z u<|iV X.K L E)
  (m:∀(G:a0m) (C:T8) (f:a0r) (s:Uj) (H:Hp),PG (aT X A t G C f s H) z g/\eX (aT X A t G C f s H) w (i_ X.K Q E0)/\∀D,PB (aT X A t G C f s H) y (⟨z,u,w,0⟩::v) t pos 0 D<|B D)
  (n:dg X.K g J) (o:eU J) (p:∀D,um X.K D (B D) b)
  (e:autoParam (Zc (.ListComp y (⟨z,u,w,0⟩::v) t pos) (U<|.Name x a) c.line X.env=Wo O) qQ)
  (P:autoParam (∀x,Vo u X.env x=Wo x) xz) (q:autoParam (b0d X x) xy):
  PS X (.Assign [.Name x a] (.ListComp y (⟨z,u,w,0⟩::v) t pos) c) (tG X.K X.H₀ (uV i<|jc F.length I L J Q b) E):=
 MX ((zM j d M k S l m e P q).imp λD r H h=>vn n o p h)
end
end L2.Pu
namespace L2
section
variable{X:Cx}
theorem Mv{D:a1b}{w:a0g}(r:aE (D.map V.bl) w){i:Nat}{v:Uc}(h:w.toArray[i]?=U v):v= .bool (D.getD i T4):=by
 have E:w[i]?=U v:=by simpa using h
 have a:=r.length;rw[TX]at a;have b:i<D.length:=by rw[a];exact(Ui.mp E).1
 obtain⟨u,c,d⟩:=r.get (by rw[T9,Ua b];rfl);rw[E]at c;cases c;rw[T6,Ua b];exact d
theorem HD{α:Type}(f:Bool->Bool)(w:a1b):(Ue w.length).map (λi=>w.getD i T4)=w:=by
 apply List.ext_getElem?;intro i;rw[T9];by_cases h:i<w.length
 .rw[U8 h,Ua h]
  simp[Ua h]
 .rw[YK (by simpa using h),YK rk];rfl
theorem HE(w:a1b):((Ue w.length).any λi=>w.getD i T4)=w.any id:=by
 conv=>rhs;rw[<-HD (α:=Bool) id w]
 rw[List.any_map];rfl
theorem pS(l:X.calm=O):cN X (.builtin "any") (λG H Q=>∃(a:T8) (E:a1b),G=[.ref a]/\fy X.K H a (E.map V.bl)/\Q (.bl<|E.any id) H):=by
 intro j s B H G P Q I r h;obtain⟨a,E,rfl,m,q⟩:=h;cases r with
 |cons M n=>
  cases M;cases n;obtain⟨D,k,p,C⟩:=I.list m;have f:=p.isList;have c:D.toArray.size=E.length:=by rw[UB,<-k.length,TX]
  have d:∀b o,s.heap.get? b=U o->b≠s.heap.objs.size:=λb o e z=>by
   rw[z,Heap.get?_none_of_le<|Ug _]at e;cases e
  have g:a≠s.heap.objs.size:=by
   obtain⟨o,e,_⟩:=f;exact d a o e
  refine call_any_walk<|Z3 f ⟨s.heap.objs.size,[s.heap.objs.size,a],[s.heap.objs.size],D.toArray.size,_,_,λi=>E.getD i T4,Z,Walks.list (prog:=X.prog) (w:=X.w) (show X.A.in1.handled=Y from I.ok.hd l) _ a g _,⟨⟨_,Ut _ Z,Z,Z⟩,f.push _⟩,λi v S F J t u=>?_,λx L y=>?_⟩
  .rw[Mv k t]
   exact VE u
  .rw[c,HE]
   exact⟨.bl<|E.any id,H,I.kept λb o e=>y b o (λz=>d b o e<|by simpa using z)<|T1 _ e,Z,q⟩
end
end L2
namespace L2.Pu
noncomputable def fL:a0c->Option a1b
 |[]=>U []
 | .bl b::r=>(fL r).map (b::·)
 |_=>Y
theorem rc{K:UA}:∀{w:a0c} {D:a0k} {E:a1b},fL w=U E->bb K F H w D->D=E.map V.bl
 |[],D,E,e,h=>by
  cases e;cases h;rfl
 |d::w,D,E,e,h=>by
  obtain⟨x,f,rfl,a,c⟩:=h;cases d<;>first
   |(rename_i b
     cases q:fL w with
     |none=>simp[fL,q]at e
     |some r=>
     simp[fL,q]at e;subst e;cases a.bl;rw[rc q c];rfl)
   |simp[fL]at e
def EU:a0c->a0l
 |[.lst ds]=>(fL ds).map λw=> .bl<|w.any id
 |_=>Y
variable{K:UA}
theorem DR:dh K (λD H Q=>∃(a:T8) (w:a1b),D=[.ref a]/\fy K H a (w.map V.bl)/\Q (.bl<|w.any id) H) EU:=λF H E Q G d M fr h e k=>by
 unfold EU at e;split at e
 .obtain⟨v,rfl,g⟩:=bb.one h
  obtain⟨a,D,rfl,r,b⟩:=b5.sqL g;obtain⟨w,q,e⟩:=ZV.mp e;subst e;rw[rc q b]at r;exact⟨a,w,Z,r,k _ H (To.refl fr) Z⟩
 .cases e
end L2.Pu
namespace L2
section
variable{X:Cx}{a b c d:Expr}{ta w tc P:TE}{pos:Xp}
def R7(i e:R2)(tc P:TE)(y:V):TE:=λf H Q=>tc f H λw j=>i y w j λk g=>∃h,k= .bl h/\(if h=O then P f g λl m=>e w l m Q else Q (.bl T4) g)
def zn(r h e:R2)(ta w tc P:TE):TE:=λf H Q=>ta f H λx i=>w f i λy j=>r x y j λz g=>∃k,z= .bl k/\(if k=O then R7 h e tc P y f g Q else Q (.bl T4) g)
theorem HL(J:hE X (Vz op) r)(l:hE X (Vz op') r')(i:hE X (Vz op'') r'')(G:PE X a ta)(L:PE X b w)(N:PE X c tc)(K:PE X d P)
  (M:autoParam (lastMarks [op,op',op''] [b,c,d]=T4) jv):PT X (.Compare a [op,op',op''] [b,c,d] pos) (BZ<|zn r r' r'' ta w tc P):=by
 refine λf s g H Q I h=>isTrue_chain (ee (G f s g H _ I h) λv eH ⟨x,R,T,S,V⟩=>test_link (ee (L f eH g R _ T V) λu cb ⟨y,W,ek,o,q2⟩=>
  ee (J f cb g W x y v u _ ek S o q2) λf5 s3 ⟨z,p,q,r3,k,e,D⟩=>?_)) M
 subst e;cases r3;apply VE;cases k with
 |false=>
  obtain⟨m,j,n⟩:=D;cases j;exact ite_ff ⟨p,q,n⟩
 |true=>
  refine ite_tt<|test_link<|ee (N f s3 g p _ q D) λt s4 ⟨A,H4,I4,B,q4⟩=>ee (l f s4 g H4 y A u t _ I4 o B q4) λf5 s5 ⟨z',C,F,r5,m,j,E⟩=>?_;subst j;cases r5;apply VE;cases m with
  |false=>
   obtain⟨m,j,n⟩:=E;cases j;exact ite_ff ⟨C,F,n⟩
  |true=>
   refine ite_tt<|test_last<|ee (K f s5 g C _ F E) λw' s6 ⟨z2,H6,I6,r6,q6⟩=>ee (i f s6 g H6 A z2 t w' _ I6 B r6 q6) λd' s7 ⟨z3,H7,I7,r7,k3,e3,q7⟩=>?_;subst e3;cases r7;exact VE ⟨H7,I7,q7⟩
end
end L2
namespace L2.Pu
section
variable{X:Cx}{E:a0u}{a b c d:Expr}{pos:Xp}{K:UA}
def Nw(f e:a0Z)(h i:FD)(y:D):FD:=λa=>M.bind (h a) λw=>M.bind (M.ofO<|f y w) λz=>M.bind (M.ofO<|asB z) λc=>if c=O then M.bind (i a) (λg=>M.ofO<|e w g)else M.ret (.bl T4)
def qG(o j e:a0Z)(f g h i:FD):FD:=λd=>M.bind (f d) λa=>M.bind (g d) λb=>M.bind (M.ofO<|o a b) λz=>M.bind (M.ofO<|asB z) λc=>if c=O then Nw j e h i b d else M.ret (.bl T4)
theorem run.later{c i:Type}{R:Hp->c->i->Prop}{F:Fx}{j:St}{m:M c}{H k:Hp}{Q:i->Hp->Prop}{a:Bg}(t:To F H k a)(h:run R F E j m H Q a):run R F E j m k Q a:=by
 obtain⟨l,f,e,q⟩:=h;refine⟨l,f,e,?_⟩;cases l with
 |ok d=>exact λv g b=>q v g<|t.trans b
 |error C=>exact λg b=>q g<|t.trans b
theorem CC(l:bz K r o)(l':bz K r' o')(cb:bz K s x)(T:tV K (qG o o' x f g h i) E σ H Q):zn r r' s (tV K f E) (tV K g E) (tV K h E) (tV K i E) σ H Q:=by
 obtain⟨F,b,β,fr,W,T⟩:=T;refine⟨F,b,β,fr,W,(run.bind T).mono λv H1 n=>r8 n λd D t hd r1=>⟨F,b,D,t.fr,W.tr<|t.tr fr,(run.bind r1).mono λv2 H2 n=>r8 n λV a p u r2=>?_⟩⟩;obtain⟨z,X,r3⟩:=run.ofO_bind r2;obtain⟨c,ec,L⟩:=run.ofO_bind r3;rw[kD ec]at X;refine l F H2 a _ d V _ v v2 p.fr (b5.tr (p.tr t.fr) _ _ hd) u X λvz H3 j hz=>⟨c,hz,?_⟩;cases c with
 |true=>
  rw[Uf Z]at L;have f5:=b5.tr (j.tr p.fr) _ _ u;have y:=(W.tr<|(t.tr fr).trans<|p.tr t.fr).tr<|j.tr p.fr;refine⟨F,b,a,j.fr,y,(run.bind (run.later j L)).mono λw H4 n=>r8 n λdw A B C r6=>?_⟩;obtain⟨z',I,r7⟩:=run.ofO_bind r6;obtain⟨c',R,N⟩:=run.ofO_bind r7;rw[kD R]at I;refine l' F H4 A _ V dw _ v2 w B.fr (b5.tr (B.tr j.fr) _ _ f5) C I λaa H5 m G=>⟨c',G,?_⟩;cases c' with
  |true=>
   rw[Uf Z]at N;refine⟨F,b,A,m.fr,y.tr<|(B.tr j.fr).trans<|m.tr B.fr,(run.bind<|run.later m N).mono λw' H6 ⟨M,P,t6,J,r9⟩=>?_⟩;obtain⟨d3,e3,k⟩:=run.ofO r9;exact cb F H6 P Q dw M d3 w w' t6.fr (b5.tr ((m.tr B.fr).trans<|t6.tr m.fr) _ _ C) J e3 k
  |false=>
   rw[Uh Uk]at N;obtain⟨rr,S,e,q⟩:=N;cases e;exact q _ H5 m Z
 |false=>
  rw[Uh Uk]at L;obtain⟨rr,S,e,q⟩:=L;cases e;exact q _ H3 j Z
theorem KY(m:hE X (Vz op) r)(j:hE X (Vz v) z)(e:hE X (Vz s) x)(l:bz X.K r o)(n:bz X.K z A)(k:bz X.K x y)(w:PE X a<|tV X.K f E)(p:PE X b<|tV X.K g E)(t:PE X c<|tV X.K h E)(D:PE X d<|tV X.K i E)(G:autoParam (lastMarks [op,v,s] [b,c,d]=T4) jv):
  PT X (.Compare a [op,v,s] [b,c,d] pos) (i_ X.K (fB<|qG o A y f g h i) E):=(HL m j e w p t D G).imp λu H Q q=>CC l n k<|rh q
variable{st:Va}{o:Hp}{B:Ow}{bg:a0t}{H z:Hp}{δ:Ds}{β P:Bg}{σ:St}
theorem fw.AtoB(a:fw K o B bg H δ β σ):∀c,(d_ B bg).A c->(o1 B bg).A c\/D2 H c:=λc f=>by
 cases q:B c with
 |none=>exact UG q f
 |some k=>
  match k,q with
  |0,q=>exact .inl<|.inl q
  |1,q=>exact .inl<|.inr q
  |k+2,q=>exact .inr<|a.lst c k q
theorem fw.noB{d:D}(a:fw K o B bg H δ β σ)(b:noL d=O)(h:b5 K (o1 B bg) H d v):b5 K (d_ B bg) H d v:=zY a.AtoB d v b h
def wU(i:Nat)(f:FD):G:=λδ β=>match f (hL δ) β with
 |some (.ok d,β1)=>if noL d=O then U (.nx<|δ.set i<|U<|.sh d,β1)else Y
 |some (.error C,β1)=>U (.ex C δ,β1)
 |none=>Y
theorem PJ(h:PS X st<|gr (tV X.K f E)<|d7 i):PS X st (tG X.K X.H₀ (wU i f) E):=h.imp λD σ H l=>by
 obtain⟨B,bg,δ,β,o,P,ok,e,q⟩:=l;refine⟨o1 B bg,hL δ,β,ok.frA,ok.viewA,?_⟩;unfold wU at e;split at e
 .rename_i d β1 j
  split at e
  .rename_i hn
   cases e;refine⟨.ok d,_,j,λv z t a=>?_⟩;obtain⟨g,k⟩:=ok.to Z t;exact q _ B z k<|g.set<|g.noB hn a
  .cases e
 .rename_i C β1 j
  cases e;refine⟨.error C,_,j,λz t=>?_⟩;obtain⟨g,k⟩:=ok.to Z t;exact q _ B z k g
 .cases e
def qC(i:Nat)(e f g:FD):G:=λδ β=>match g (hL δ) β with
 |some (.ok d,β1)=>match e (hL δ) β1 with
  |some (.ok (.int ka),β2)=>match f (hL δ) β2 with
   |some (.ok (.int kb),β3)=>match δ.getD i Y with
    |some (.grd ba)=>match u3 ba.length ka with
     |some a=>match ba[a]? with
      |some b=>match u3 b.length kb with
       |some c=>if noL d=O then U (.nx<|δ.set i<|U<|.grd<|ba.set a<|b.set c d,β3)else Y
       |none=>Y
      |none=>Y
     |none=>Y
    |_=>Y
   |_=>Y
  |_=>Y
 |_=>Y
theorem xH(h:PS X st<|gr (tV X.K fv E)<|Mf (tOp (xN X.K) (lM i)<|tV X.K fa E) (tV X.K fb E) MZ):PS X st (tG X.K X.H₀ (qC i fa fb fv) E):=h.imp λD σ H h_=>by
 obtain⟨B,bg,δ,β,o,P,ok,e,q⟩:=h_;refine⟨o1 B bg,hL δ,β,ok.frA,ok.viewA,?_⟩;unfold qC at e;split at e
 .rename_i d β1 e1
  refine⟨.ok d,_,e1,λv H1 t1 c=>?_⟩;obtain⟨f,s1⟩:=ok.to Z t1;split at e
  .rename_i ka β2 e2
   split at e
   .rename_i kb β3 e3
    split at e
    .rename_i ba Q
     split at e
     .rename_i ja ea
      split at e
      .rename_i ds er
       split at e
       .rename_i jb eb
        split at e
        .rename_i R
         cases e;obtain⟨w,N,a,rs,rfl,hB,ha,nd,rl⟩:=f.tell i _<|getD_some Q;refine⟨_,N,o1 B bg,hL δ,β1,f.frA,f.viewA,.ok<|.int ka,β2,e2,λy H2 t2 hy=>?_⟩;cases hy;obtain⟨j,S⟩:=f.to Z t2;obtain⟨w2,s,a2,g,ew,k,m,aa,n⟩:=j.tell i _<|getD_some Q;rw[N]at s;cases s;cases ew;obtain⟨r,xs,T,hp,hx,dl⟩:=n.at er;refine⟨a,g.map _,ka,.ref r,Z,Z,fy.of m,?_,?_⟩
         .unfold ra
          rw[TX,<-n.len,ea];show(g.map _)[ja]?=_;rw[T9,T];rfl
         .refine⟨o1 B bg,hL δ,β2,j.frA,j.viewA,.ok<|.int kb,_,e3,λz x t3 hz=>?_⟩
          cases hz;obtain⟨p,s3⟩:=j.to Z t3;obtain⟨w3,h3,a3,t,f5,W,u,cb,A⟩:=p.tell i _<|getD_some Q;rw[N]at h3;cases h3;cases f5;have F:g=t:=by
           have ek:=t3.kp a _ m (λb l y=>⟨λw=>(by subst w;rw[(ok.bgt _ _ y).1]at k;cases k),λw=>(by subst w;rw[(ok.bgt _ _ y).2]at k;cases k)⟩);rw[u]at ek;have k2:t.map V.ref=g.map V.ref:=by injection ek with ek;injection ek
           exact(List.map_inj_right (λa b q=>by cases q;rfl)|>.mp k2).symm
          subst F;obtain⟨r',C,I,ab,J,L⟩:=A.at er;rw[T]at I;cases I;have G:=b5.tr (s3.tr) _ _<|b5.tr (S.tr) _ _ (f.noB R c);refine⟨r,C,kb,jb,Z,Z,J,by rw[<-L.length];exact eb,?_⟩;obtain⟨M,s4⟩:=p.writeRow N W u cb A T J<|bb.set jb L G;exact q _ _ _ (s1.trans<|S.trans<|s3.trans s4) M
        .cases e
       .cases e
      .cases e
     .cases e
    .cases e
   .cases e
  .cases e
 .cases e
variable{e:Expr}{z:List Expr}
def o2(c:D->D->a0C)(f g:FD):FL:=λδ=>M.bind (f δ) λa=>M.bind (g δ) λb=>M.ofO<|c a b
noncomputable def Ite(K:UA)(l:T8):It:=
 ⟨λi H=>∃a x,fy K H l a/\a[i]?=U x,
  λi H v z=>∃p x,H p=Y/\v= .ref p/\z=upd H p (.tup [.int (i:Int),x])/\∀a,fy K H l a->a[i]?=U x,
  λi H=>∃a,fy K H l a/\a.length=i⟩
theorem FT{P:UT}{w:UY}{K:UA}{x1}{pos:Xp}(l e a:T8)(t:e≠a):
  p3 P w K (.Tuple elts x1 pos) (Ite K l) [e,a] e (λi h=>(∃f,IsEnum h e a (i:Int) f)/\h.IsListIter a l i) where
 mem:=by exact .head _
 obj:=λi h st b j=>by
  obtain⟨⟨f,m⟩,p⟩:=st;simp only[Uq,VN,Yo]at j;obtain rfl|rfl:=j
  .exact⟨_,m,λv q=>by cases q⟩
  .obtain⟨o,q,_,d⟩:=p
   exact⟨o,q,λv z=>by rw[d]at z;cases z⟩
 keep:=λi h B st k=>by
  obtain⟨⟨f,m⟩,p⟩:=st;exact⟨⟨f,k e (by exact .head _) _ m⟩,p.at λo q=>k a nl o q⟩
 item:=by
  intro X L N ek Q i r s σ H E I y st R;subst L N ek;obtain⟨V,x,c,G⟩:=R;obtain⟨⟨f,m⟩,p⟩:=st;obtain⟨g,D,T⟩:=b_.src (b:=O) I c;have M:=I.ok.hd Q;have f5:=b_.src_ne (b:=O) I c (y a<|by exact .tail _ (.head _));have n:i<g.toArray.size:=by
   rw[UB,<-D.length];exact(Ui.mp G).1
  refine wpAny_pyNext_enum_itemD (Draws.list (show(X.A.in1).handled=Y from M) a l f5 _) m ⟨p,T⟩ n t (by simp[t,(b_.src_ne (b:=O) I c (y e<|by exact .head _)).symm]) λu B W pu fo f1 fT sz S=>?_;refine⟨_,Z,wpAny_letOwnedTupleGo_enum fo λC F J=>?_⟩
  obtain⟨u',cb,ru⟩:=D.get G;have eu:u=u':=by
   have:g[i]?=U u:=by simpa using pu
   rw[this]at cb;exact UR cb
  subst eu;have kk:∀b o,b∉[e,a]->s.heap.get? b=U o->C.get? b=U o:=λb o j q=>by
   simp only[Uq,VN,Yo,not_or]at j;exact J.extBut b o j.1<|S b o j.1 j.2 q
  have I2:b_ X r σ (upd H s.heap.objs.size<|.tup [.int (i:Int),x]) {s with heap:=C,toks:=W+1}:=by
   refine b_.turnNew I y kk (Ug _) ⟨by show 2<=UC;decide,[.int i W,u],.cons ⟨_,Z⟩<|.cons ru .nil,_,J.extBut _ _ (WV<|UJ m) fT,Z,_,Z⟩
  refine⟨.ref _,_,I2,Z,⟨s.heap.objs.size,x,I.hok.fresh<|Ug _,Z,Z,λas h1=>by rw[b_.src_inj (b:=O) I h1 c];exact G⟩,⟨⟨_,by exact F⟩,?_⟩,λb j=>?_⟩
  .exact f1.1.at λo q=>J.extBut _ _ t.symm q
  .rw[bt]
   .exact(y b j).1
   .intro q
    have ol:∃o,s.heap.get? b=U o:=by
     simp only[Uq,VN,Yo]at j;obtain rfl|rfl:=j
     .exact⟨_,m⟩
     .obtain⟨o,z,_⟩:=p;exact⟨o,z⟩
    obtain⟨o,z⟩:=ol;exact UG (UJ z) (by rw[q];exact Vq _)
 done:=by
  intro X L N ek Q i r s σ H E I y st R;subst L N ek;obtain⟨V,c,hl⟩:=R;obtain⟨⟨f,m⟩,p⟩:=st;obtain⟨g,D,T⟩:=b_.src (b:=O) I c;have M:=I.ok.hd Q;have f5:=b_.src_ne (b:=O) I c (y a<|by exact .tail _ (.head _));have g1:g.toArray.size=i:=by rw[UB,<-D.length,hl]
  refine wpAny_pyNext_enum_endD (Draws.list (show(X.A.in1).handled=Y from M) a l f5 _) m (by rw[g1];exact⟨p,T⟩) λB S=>⟨Z,b_.turnL I y λb o j q=>?_⟩;simp only[Uq,VN,Yo,not_or]at j;exact S b o j.2 q
 self:=λ_ _ _ _ _ st h=>by
  obtain⟨⟨f,m⟩,p⟩:=st;exact wpAny_pyIter_enum m h
def iEn(K:UA)(g:TA):TI:=λσ H R=>g σ H λa f=>∃l b,a=[.ref l]/\fy K f l b/\R (Ite K l) f
theorem Oc{a:Expr}{p pos:Xp}{F}(o:Gl X "enumerate")(z:X.mg "enumerate"=Y)(B:PA X [a] J)(D:autoParam (Uu [a] X.env=[(T4,Vv a X.env)]) qQ):
  PI X (.Tuple x F C) (.Call (.Name "enumerate" p) [a] [] pos) (iEn X.K J):=by
 refine λf s σ H R I h=>Call_ (gE I o z Boot.«enumerate»<|VJ (ee (B _ f s σ H _ I h) λM g ⟨P,k,j,E,d⟩=>?_) (by rw[D];rfl) mo);obtain⟨l,S,e,d,q⟩:=d;subst e;cases E with
 |cons r t=>
  cases t;cases r;obtain⟨u,v1,v⟩:=b_.src (b:=O) j d;refine call_enumerate_list v λw m y V G=>(wpAny_pyIter_enum m ?_);refine⟨_,[g.heap.objs.size+1,g.heap.objs.size],_,Ite _ l,k,Z,j.kept (t':=g.toks) G,FT l _ _<|Nat.succ_ne_self _,⟨⟨_,m⟩,y⟩,λc n=>?_,q⟩;have i:g.heap.objs.size<=c:=by
   simp only[Uq,VN,Yo]at n;obtain rfl|rfl:=n
   .exact Wn _ _
   .exact Ug _
  exact j.fpOk i<|j.hok.fresh i
noncomputable def cZ:Nat->a0c->a0c
 |_,[]=>[]
 |n,x::xs=> .tup [.int (n:Int),x]::cZ (n+1) xs
theorem jd:∀(n:Nat) (a:a0c),(cZ n a).length=a.length
 |_,[]=>rfl
 |n,x::a=>by
  show(cZ _ a).length+1=a.length+1;rw[jd _ a]
theorem pK:∀{n:Nat} {b:a0c} {i:Nat} {d:D},(cZ n b)[i]?=U d->∃x,b[i]?=U x/\d= .tup [.int ((n+i:Nat):Int),x]
 |n,[],i,d,h=>by simp[cZ]at h
 |n,x::b,0,d,h=>by
  simp[cZ]at h;exact⟨x,Z,by rw[<-h];simp⟩
 |n,x::b,i+1,d,h=>by
  have c:(cZ (n+1) b)[i]?=U d:=by simpa[cZ]using h
  obtain⟨a,f,g⟩:=pK c;exact⟨a,by exact f,by rw[g,show n+1+i=n+(i+1) by lia]⟩
def Nx:a0c->a0C
 |[.lst xs]=>U<|cZ 0 xs
 |_=>Y
theorem L7{H:Hp}(o:∀g f,Tr F H g f->∃a,fy K f l a/\bb K g f s a):B6 K (Ite K l) F H (cZ 0 s):=λg f c t fr i=>by
 obtain⟨a,h,b⟩:=o g f t;refine⟨λd e=>?_,λj=>?_⟩
 .obtain⟨x,q,rfl⟩:=pK e
  obtain⟨u,k,w⟩:=b.get q;refine⟨⟨a,u,h,k⟩,λz y r=>?_⟩;obtain⟨p,A,m,rfl,rfl,v⟩:=r;have n:=v a h;rw[k]at n;cases n;rw[V4];exact⟨cj.upd m,b5.newT fr m<|bb.cons Z<|bb.cons w bb.nil⟩
 .rw[jd]at j
  exact⟨a,h,by rw[<-b.length,j]⟩
def Nb(g:FL):FL:=c9 Nx g
theorem ku{a:Expr}{p pos:Xp}{J}(q:Gl X "enumerate")(c:X.mg "enumerate"=Y)(d:PA X [a]<|jm X.K g E)(w:autoParam (Uu [a] X.env=[(T4,Vv a X.env)]) qQ):
  PI X (.Tuple s J x) (.Call (.Name "enumerate" p) [a] [] pos) (iV X.K (Nb g) E):=
 (Oc q c d w).imp λσ H R j=>la j λF δ β fr r h=>⟨F,δ,β,fr,r,(run.bind h).mono λS f j=>by
  obtain⟨V,B,t,D,G⟩:=j;obtain⟨l,e,k⟩:=run.ofO G;unfold Nx at e;split at e
  .rename_i xs
   cases e;obtain⟨v,rfl,o⟩:=bb.one D;have z:∃a,v= .ref a/\∀m i,Tr F f m i->∃b,fy X.K i a b/\bb X.K m i xs b:=by
    obtain⟨a,b,rfl,_⟩:=b5.sqL o;refine⟨a,Z,λm i u=>?_⟩;obtain⟨I,n,y,M,A⟩:=b5.sqL<|b5.tr u _ _ o;cases y;exact⟨n,M,A⟩
   obtain⟨a,rfl,z⟩:=z;obtain⟨P,C,_⟩:=z F f<|Tr.refl F f;exact⟨a,P,Z,C,k _ f (To.refl t.fr)<|L7 z⟩
  .cases e⟩
def cF(K:UA)(g:Uw)(b:a0i)(h:a0c):Prop:=∃a f,cz K g b a/\aE f a/\∀F H,bb K F H h f
inductive Sr (α:Type) where
 |kw (j:Nat)|df (a:α)
noncomputable def Sr.pick{b:Type}(z:b)(f:List b):Sr b->b
 | .kw j=>f.getD j z
 | .df a=>a
def gK{a:Type}(z:a)(n k:Nat)(b:List<|Sr a)(c f:List a):List a:=if c.length=n/\f.length=k then c++b.map (Sr.pick z f)else[]
inductive nj {α γ:Type} (R:α->γ->Prop):List (Sr α)->List (Sr γ)->Prop where
 |nil:nj R [] []
 |kw {j:Nat} {a:List (Sr α)} {c:List (Sr γ)}:nj R a c->nj R (.kw j::a) (.kw j::c)
 |df {x:α} {y:γ} {a:List (Sr α)} {c:List (Sr γ)}:R x y->nj R a c->nj R (.df x::a) (.df y::c)
theorem aE.getD:∀{f:a0k} {g:a0g} (j:Nat),aE f g->aY (f.getD j .non) (g.getD j .none)
 |_,_,_,.nil=>rfl
 |_,_,0,.cons r _=>r
 |_,_,j+1,.cons _ t=>aE.getD j t
theorem nj.vals(r:aE zs ws):∀{a:List (Sr V)} {c:List (Sr Uc)},nj aY a c->aE (a.map<|Sr.pick .non zs) (c.map<|Sr.pick .none ws)
 |_,_,.nil=> .nil
 |_,_,.kw (j:=j) h=> .cons (aE.getD j r)<|nj.vals r h
 |_,_,.df q h=> .cons q<|nj.vals r h
theorem bb.getD{K:UA}{H:Hp}:∀{ds:a0c} {f:a0k} (j:Nat),bb K F H ds f->b5 K F H (ds.getD j .non) (f.getD j .non)
 |[],f,j,h=>by have q:=h;subst q;rfl
 |d::ds,f,0,h=>by
  obtain⟨x,r,e,g,i⟩:=h;subst e;exact g
 |d::ds,f,j+1,h=>by
  obtain⟨x,r,e,g,i⟩:=h;subst e;exact bb.getD j i
theorem nj.den{K:UA}{H:Hp}(r:bb K F H f zs):∀{a:List (Sr D)} {c:List (Sr V)},nj (λd v=>∀F H,b5 K F H d v) a c->bb K F H (a.map<|Sr.pick .non f) (c.map<|Sr.pick .non zs)
 |_,_,.nil=>bb.nil
 |_,_,.kw (j:=j) h=>bb.cons (bb.getD j r)<|nj.den r h
 |_,_,.df q h=>bb.cons (q F H)<|nj.den r h
theorem nj.len{b f:Type}{R:b->f->Prop}:∀{a:List (Sr b)} {c:List (Sr f)},nj R a c->a.length=c.length
 |_,_,.nil=>rfl
 |_,_,.kw h=>by rw[Ur,Ur,nj.len h]
 |_,_,.df _ h=>by rw[Ur,Ur,nj.len h]
structure D_ (K:UA) (fd:Uw) (ps ks:a0i) (n:Nat) (src:List<|Sr D):Prop where
 ex:∃(sv:List<|Sr Uc) (sx:List<|Sr V),nj aY sx sv/\nj (λd v=>∀F H,b5 K F H d v) src sx/\∀(s:Uj) (us ws:a0g),K.In s.heap->us.length=n->ws.length=ks.length->BindsTo s fd ⟨us,ks.zip ws⟩ (ps.zip<|us++sv.map (Sr.pick .none ws))
 len:ps.length=n+src.length
 pos:0<ps.length
theorem D_.kb{K:UA}{e a:a0i}(h:D_ K p e a n src):∃(c:List<|Sr Uc) (f:List<|Sr V),nj (λd v=>∀F H,b5 K F H d v) src f/\N_ K p e a (gK .none n a.length c) (gK .non n a.length f):=by
 obtain⟨c,f,z,l,b⟩:=h.ex;refine⟨c,f,l,λs w k m g=>?_,λ{B w o k} i j=>?_⟩
 .unfold gK at g⊢
  split at g
  .rename_i q
   rw[Uf q];exact b s w k m q.1 q.2
  .exact UG g (by have:=h.pos;simp;lia)
 .unfold gK
  by_cases q:B.length=n/\o.length=a.length
  .rw[Uf q,Uf<|by rw[<-i.length,<-j.length];exact q]
   exact i.append<|nj.vals j z
  .rw[Uh q,Uh<|by rw[<-i.length,<-j.length];exact q]
   exact .nil
variable{p c:Xp}{x:U3}{k n:Nat}{f:T8}{d:Uw}{a h:a0i}{b:List Keyword}{B:Option U3}
def Rw(m:a0c->M D)(g:FL)(h:a0c):FD:=λδ=>M.bind (g δ) λa=>m<|a++h
theorem NL{h:a0c}(G:e_ X.prog X.w X.K X.mg X.base (hO X.prog X.w) k f d a<|P_ X.K n m)(y:d4 k X.A)(I:Gl X x)(S:X.mg x=U (.ref f))(J:Zx X.K (.ref f)=O)(L:cF X.K d a h)(V:dL (hO X.prog X.w) X E)
  (s:PA X (e::z)<|jm X.K g E) (hn:∀δ β r P,g δ β=U (.ok r,P)->r.length+h.length=n) (i:autoParam (b0c x) qX) (N:autoParam (b0a X e z) qQ) (j:autoParam (b0b X pos z) qQ):
  PE X (.Call (.Name x p) (e::z) [] pos) (tV X.K (Rw m g h) E):=by
 obtain⟨ds,cb,b,T,B⟩:=L;refine(mB G y I S J b T V s i N j).imp λσ H Q R=>la R λF δ β fr W r=>⟨F,δ,β,fr,W,?_⟩;obtain⟨D,l,u,v⟩:=run.bind r;refine⟨D,l,u,?_⟩;cases D with
 |error C=>exact v
 |ok as=>
  intro vs o t M;obtain⟨d',c,f5,q,r1⟩:=v vs o t M;have hz:=(B F o).length;refine⟨by rw[Uv,<-M.length,<-hz,hn _ _ _ _ u],F,d'++h,c,f5.fr,bb.append q<|B F o,run.toE r1⟩
theorem FK:PK X [] (jm X.K ax E):=λpos g s σ H Q I h=>by obtain⟨F,δ,β,fr,i,r⟩:=h;exact wpAny_evalAll_nil ⟨[],H,I,.nil,(run.ret fr r bb.nil)⟩
theorem zi{f:FD}(k:PE X e<|tV X.K f E)(m:PK X b<|jm X.K g E):PK X (⟨B,e,c⟩::b) (jm X.K (ae f g) E):=λpos h s σ H Q I ⟨F,δ,β,fr,j,r⟩=>
 Oa k m _ h s σ H Q I ⟨F,δ,β,fr,j,(run.bind r).mono λv u ⟨d,a,t,n,p⟩=>
  ⟨F,δ,a,t.fr,j.tr<|t.tr fr,(run.bind p).mono λx y o=>r8 o λz w l i q=>run.ret l.fr q<|bb.cons (b5.tr (l.tr t.fr) _ _ n) i⟩⟩
theorem fw.toB{o:Hp}{B:Ow}{bg:a0t}{H z:Hp}{δ:Ds}{β P:Bg}{σ:St}(a:fw K o B bg H δ β σ)(t:To (o1 B bg) H z P):To (d_ B bg) H z P:=⟨t.kp,(a.to Z t).1.fr⟩
def EB(i:Nat)(f:FL):G:=λδ β=>match f (hL δ) β with
 |some (.ok ds,β1)=>if noLs ds=O then U (.nx<|δ.set i<|U<|.own ds,β1)else Y
 |some (.error C,β1)=>U (.ex C δ,β1)
 |none=>Y
theorem PM{f:FL}(h:PS X st<|gr (E_ X.K f E)<|d7 i):PS X st (tG X.K X.H₀ (EB i f) E):=h.imp λD σ H r=>by
 obtain⟨B,bg,δ,β,o,P,ok,e,q⟩:=r;refine⟨o1 B bg,hL δ,β,ok.frA,ok.viewA,?_⟩;unfold EB at e;split at e
 .rename_i ds β1 j
  split at e
  .rename_i hn
   cases e;refine⟨.ok ds,_,j,λv z t b=>?_⟩;obtain⟨a,d,rfl,u,y,F⟩:=b;obtain⟨l,_⟩:=ok.to Z t;have hF:∀c,((d_ B bg).but a).A c->((o1 B bg).but a).A c\/D2 z c:=λc hc=>by
    obtain hc|hc:=hc
    .exact(l.AtoB c hc).imp Wm id
    .exact .inl (.inr hc)
   obtain⟨I,g,m⟩:=ok.newOwnE (ok.toB t) ⟨a,d,Z,u,y,noLs_den hF _ _ hn F⟩;exact q _ _ _ m g
  .cases e
 .rename_i C β1 j
  cases e;refine⟨.error C,_,j,λz t=>?_⟩;obtain⟨g,m⟩:=ok.to Z t;exact q _ B z m g
 .cases e
theorem u6{b:FL}{δ:Dn}{β a c:Bg}{e d:a0c}(g:j δ β=U (.ok e,a))(h:ot l m b e (lg q b4 δ) a=U (.ok d,c))(i:d.length<=UC):cE q b4 j l m b δ β=U (.ok<|.lst d,c):=by
 unfold cE;simp only[g,h,i,Vm]
def plD:Nat->D->Prop
 |_,.int _=>True
 |_,.bl _=>True
 |_,.non=>True
 |n+1,.lst xs=>∀x∈xs,plD n x
 |n+1,.tup xs=>∀x∈xs,plD n x
 |_,_=>False
theorem N9:∀(n:Nat) (d:D),plD n d->∃p,ri d=U p/\p.canLay0=O/\p.depth<=n+1:=by
 have g:∀(n:Nat) (b:a0c),(∀x∈b,∃p,ri x=U p/\p.canLay0=O/\p.depth<=n)->∃a,toPs b=U a/\PyData.canLayAll0 a=O/\PyData.depthAll a<=n:=by
  intro n b
  induction b with
  |nil=>exact λ_=>⟨[],Z,Z,by simp[PyData.depthAll]⟩
  |cons x b c=>
   intro h;obtain⟨p,o,q,r⟩:=h x Ud;obtain⟨a,j,l,m⟩:=c λy f=>h y<|T3 _ f;refine⟨p::a,?_,?_,?_⟩
   .unfold toPs;rw[o,j]
   .simp[PyData.canLayAll0,q,l]
   .simp only[PyData.depthAll];omega
 intro n
 induction n with
 |zero=>
  intro d h;cases d with
  |int i=>exact⟨.int i,Z,Z,by simp[XU]⟩
  |bl i=>exact⟨.bool i,Z,Z,by simp[XU]⟩
  |non=>exact⟨.none,Z,Z,by simp[XU]⟩
  |_=>exact h.elim
 |succ n c=>
  intro d h;cases d with
  |int i=>exact⟨.int i,Z,Z,by simp[XU]⟩
  |bl i=>exact⟨.bool i,Z,Z,by simp[XU]⟩
  |non=>exact⟨.none,Z,Z,by simp[XU]⟩
  |lst b=>
   obtain⟨a,j,l,m⟩:=g _ b λx e=>c x<|h x e;exact⟨.list a,by unfold ri;simp[j],by simp[PyData.canLay0,l],by rw[XU];lia⟩
  |tup b=>
   obtain⟨a,j,l,m⟩:=g _ b λx e=>c x<|h x e;exact⟨.tuple a,by unfold ri;simp[j],by simp[PyData.canLay0,l],by rw[XU];lia⟩
  |_=>exact h.elim
theorem yT{d:D}(n:Nat)(h:plD n d)(a:n<=60):n5 d=O:=by
 obtain⟨p,g,i,j⟩:=N9 n d h;unfold n5;simp only[Za];lia
def Gw(g:G)(δ:Ds)(β:Bg)(Q:a0z):Prop:=∃o P,g δ β=U (o,P)/\Q o P
end
section
variable{g h a b s p:G}{δ δ1:Ds}{β β1 β2 β3:Bg}{Q R:a0z}{i:Nat}{f q u v:FD}{fl:FL}{j:Dn->M a0v}{d x y z:D}{ds as:a0c}{t:a0s}{c:Bool}{C:T8}{K:UA}
theorem Gw.mono(k:Gw g δ β R)(q:∀o β,R o β->Q o β):Gw g δ β Q:=let ⟨o,β',e,r⟩:=k;⟨o,β',e,q _ _ r⟩
theorem N0:aM g gNil=g:=by
 funext δ β;unfold aM;split
 .rename_i δ1 β1 e;exact e.symm
 .rfl
theorem aj(k:Gw (aM g gNil) δ β Q):Gw g δ β Q:=by rw[N0]at k;exact k
theorem cx(q:Q (.nx δ) β):Gw gNil δ β Q:=⟨_,_,Z,q⟩
theorem dM(e:g δ β=U (.nx δ1,β1))(k:Gw h δ1 β1 Q):Gw (aM g h) δ β Q:=by
 obtain⟨o,j,l,q⟩:=k;exact⟨o,j,by unfold aM;rw[e];exact l,q⟩
theorem qb(k:Gw (aM a<|aM b h) δ β Q):Gw (aM (aM a b) h) δ β Q:=by
 obtain⟨o,j,l,q⟩:=k;refine⟨o,j,?_,q⟩;rw[<-l];unfold aM;split<;>rename_i e<;>(split at e<;>simp_all)
theorem aO(k:Gw h δ β Q):Gw (aM gNil h) δ β Q:=dM Z k
theorem BO(k:Gw g (fz i δ) β Q):Gw (fzG i g) δ β Q:=k
theorem aD(e:f (vw δ) β=U (.ok d,β1))(k:Gw h (δ.set i<|U<|.sh d) β1 Q):Gw (aM (dm i f) h) δ β Q:=dM (by unfold dm;rw[e]) k
theorem O9(e:f (hL δ) β=U (.ok d,β1))(k:Gw h (δ.set i<|U<|.sh d) β1 Q)(j:autoParam (noL d=O) qQ):Gw (aM (wU i f) h) δ β Q:=dM (by unfold wU;simp only[e,j,Vm]) k
theorem g0(e:f (hL δ) β=U (.ok d,β1))(k:Gw h δ β1 Q):Gw (aM (nQ f) h) δ β Q:=dM (by unfold nQ;rw[e]) k
theorem lL(e:t (hL δ) β=U (.ok c,β1))(k:Gw (aM (if c=O then s else p) h) δ β1 Q):Gw (aM (pq t s p) h) δ β Q:=by
 obtain⟨o,j,l,q⟩:=k;refine⟨o,j,?_,q⟩;rw[<-l];unfold aM pq;rw[e];cases c<;>rfl
theorem e8(e:t (hL δ) β=U (.ok O,β1))(k:Gw (aM s h) δ β1 Q):Gw (aM (pq t s p) h) δ β Q:=lL e k
theorem bj(e:t (hL δ) β=U (.ok T4,β1))(k:Gw (aM p h) δ β1 Q):Gw (aM (pq t s p) h) δ β Q:=lL e k
theorem aB(e:f (hL δ) β=U (.ok d,β1))(q:Q (.rt d) β1):Gw (aM (eS f) h) δ β Q:=⟨_,_,by unfold aM eS;rw[e],q⟩
theorem NJ(e:j (vw δ) β=U (.ok ba,β1))(q:Q (.rg ba) β1):Gw (aM (pI j) h) δ β Q:=⟨_,_,by unfold aM pI;rw[e],q⟩
theorem ML{ba:a0v}(e:j (vw δ) β=U (.ok ba,β1))(a:ba.all noLs=O)(k:Gw h (δ.set i<|U<|.grd ba) β1 Q):Gw (aM (uV i j) h) δ β Q:=dM (by unfold uV;simp only[e,a,Vm]) k
theorem MK{ba:a0v}(e:v (hL δ) β=U (.ok d,β1))(j:q (hL δ) β1=U (.ok<|.int ka,β2))(l:u (hL δ) β2=U (.ok<|.int kb,β3))(m:δ.getD i Y=U (.grd ba))
  (n:u3 ba.length ka=U ja) (o:ba[ja]?=U ds) (p:u3 ds.length kb=U jb) (a:noL d=O) (k:Gw h (δ.set i<|U<|.grd<|ba.set ja<|ds.set jb d) β3 Q):Gw (aM (qC i q u v) h) δ β Q:=
 dM (by unfold qC;simp only[e,j,l,m,n,o,p,a,Vm]) k
theorem kH(e:fl (vw δ) β=U (.ok ds,β1))(j:ds.length<=UC)(k:Gw h (δ.set i<|U<|.own ds) β1 Q):Gw (aM (EC i fl) h) δ β Q:=dM (by unfold EC;simp only[e,j,Vm]) k
theorem kI{cs:a0c}(j:δ.getD i Y=U (.own cs))(e:fl (vw δ) β=U (.ok [d],β1))(l:cs.length<UC)(k:Gw h (δ.set i<|U<|.own<|cs++[d]) β1 Q):Gw (aM (EG i fl) h) δ β Q:=
 dM (by unfold EG;simp only[j,e,l,Vm]) k
theorem BQ(e:f (vw δ) β=U (.ok d,β1))(j:l d δ=U δ1)(k:Gw h δ1 β1 Q):Gw (aM (EF f l) h) δ β Q:=dM (by unfold EF;simp only[e,j,VP]) k
def Tn(I:Ds->Bg->Prop)(h:G)(Q:a0z):s_->Bg->Prop:=λo β=>match o with
 | .nx δ=>I δ β
 | .ct δ=>I δ β
 | .bk δ=>Gw h δ β Q
 |o=>Q o β
theorem bn(e:it δ β=U (.ok ds,β1))(u:Nat->Ds->Bg->Prop)(N:u 0 δ β1)(b:∀i d δ β,ds[i]?=U d->u i δ β->∃δ1,tg d δ=U δ1/\Gw g δ1 β (Tn (u<|i+1) h Q))(k:∀δ β,u ds.length δ β->Gw h δ β Q):
  Gw (aM (qD it tg g) h) δ β Q:=by
 have c:∀(a:a0c) (j:Nat) (δ:Ds) (β:Bg),a=ds.drop j->j+a.length=ds.length->u j δ β->Gw (aM (ry tg g a) h) δ β Q:=by
  intro a
  induction a with
  |nil=>
   intro j δ β _ B F;exact dM Z<|k δ β<|B▸F
  |cons d a s=>
   intro j δ β L B F;have f5:ds[j]?=U d:=by
    have:=U6 (λl=>l[0]?) L;simpa[Zl]using this.symm
   obtain⟨δ1,v,o,β2,A,q⟩:=b j d δ β f5 F;have H:a=ds.drop (j+1):=by
    have:=U6 List.tail L;simpa[List.tail_drop]using this
   have f:=λm I=>s _ m β2 H (by simp at B;grind) I;have n:∀{r:G} {m:Ds},Gw (aM r h) m β2 Q->ry tg g _ δ β=r m β2->Gw (aM (ry tg g<|d::a) h) δ β Q:=λ{r m} ⟨T,p,J,X⟩ W=>⟨T,p,by rw[<-J];unfold aM;rw[W],X⟩;cases o with
   |nx m=>exact n (f m q) (by rw[ry];simp only[v,A])
   |ct m=>exact n (f m q) (by rw[ry];simp only[v,A])
   |bk m=>exact n (aO q) (by rw[ry];simp only[v,A];rfl)
   |rt d'=>exact⟨_,β2,by unfold aM;rw[ry];simp only[v,A],q⟩
   |rg d'=>exact⟨_,β2,by unfold aM;rw[ry];simp only[v,A],q⟩
   |ex C m=>exact⟨_,β2,by unfold aM;rw[ry];simp only[v,A],q⟩
 obtain⟨o,p,J,q⟩:=c ds 0 δ β1 mo nl N;refine⟨o,p,?_,q⟩;rw[<-J];unfold aM qD;rw[e]
theorem mR{S:Except T8 D->Bg->Prop}(k:Gw g (ll n ds) β (λo j=>match o with| .rt d=>S (.ok d) j| .nx _=>S (.ok .non) j| .ex C _=>S (.error C) j|_=>False)):∃r j,fV n g ds β=U (r,j)/\S r j:=by
 obtain⟨o,j,e,q⟩:=k;cases o with
 |rt d=>exact⟨.ok d,j,by unfold fV;rw[e],q⟩
 |nx δ=>exact⟨.ok _,j,by unfold fV;rw[e],q⟩
 |ex C δ=>exact⟨.error C,j,by unfold fV;rw[e],q⟩
 |_=>exact q.elim
theorem O4{S:a0v->Bg->Prop}(k:Gw g (ll n ds) β (λo j=>match o with| .rg d=>S d j|_=>False)):∃r j,qI n g ds β=U (.ok r,j)/\S r j:=by
 obtain⟨o,j,e,q⟩:=k;cases o with
 |rg d=>exact⟨d,j,by unfold qI;rw[e],q⟩
 |_=>exact q.elim
theorem aC(k:Gw g (ll n ds) β (λo j=>j=β/\(match o with| .rt d=>r= .ok d| .nx _=>r= .ok .non| .ex C _=>r= .error C|_=>False))):fV n g ds β=U (r,β):=by
 obtain⟨l,j,e,a,b⟩:=mR (S:=λl j=>j=β/\r=l) (k.mono λo j h=>by
  cases o<;>first|exact h|exact h.2)
 subst a b;exact e
theorem O5(k:Gw g (ll n ds) β (λo j=>j=β/\(match o with| .rg d=>r=d|_=>False))):qI n g ds β=U (.ok r,β):=by
 obtain⟨l,j,e,a,b⟩:=O4 (k.mono λo j h=>by
  cases o<;>first|exact h|exact h.2)
 subst a b;exact e
theorem am{δ:Dn}(e:fl δ β=U (.ok as,β1))(j:m as β1=U r):bN m fl δ β=U r:=by unfold bN M.bind;rw[e];exact j
theorem NH{δ:Dn}(e:fl δ β=U (.ok as,β1))(j:m as β1=U r):yK m fl δ β=U r:=by unfold yK M.bind;rw[e];exact j
theorem cp{δ:Dn}(e:q δ β=U (.ok x,β1))(j:u δ β1=U (.ok y,β2))(k:op x y=U z):f2 op q u δ β=U (.ok z,β2):=by unfold f2 M.bind;rw[e];simp only[j,M.ofO,k]
theorem x_1{δ:Dn}(e:q δ β=U (.ok x,β1))(j:op x=U z):f1 op q δ β=U (.ok z,β1):=by unfold f1 M.bind;rw[e];simp only[M.ofO,j]
theorem ah{δ:Dn}(e:fl δ β=U (.ok as,β1))(j:op as=U z):aR op fl δ β=U (.ok z,β1):=by unfold aR M.bind;rw[e];simp only[M.ofO,j]
theorem aa{δ:Dn}(e:q δ β=U (.ok x,β1))(j:fl δ β1=U (.ok as,β2)):ae q fl δ β=U (.ok<|x::as,β2):=by unfold ae M.bind;rw[e];simp only[j,M.ret]
theorem bF{δ:Dn}(e:fl δ β=U (.ok as,β1))(j:op as=U ds):c9 op fl δ β=U (.ok ds,β1):=by unfold c9 M.bind;rw[e];simp only[j,M.ofO]
theorem bG{δ:Dn}(e:q δ β=U (.ok x,β1))(j:dZ x=U ds):c5 q δ β=U (.ok ds,β1):=by unfold c5 M.bind;rw[e];simp only[j,M.ofO]
theorem dv{δ:Dn}(e:q δ β=U (.ok<|.bl c,β1)):fB q δ β=U (.ok c,β1):=by unfold fB M.bind;rw[e];rfl
theorem p7{δ:Dn}(e:q δ β=U (.ok x,β1))(j:KU x=U c):yH q δ β=U (.ok c,β1):=by unfold yH M.bind;rw[e];simp only[M.ofO,j]
theorem p9{δ:Dn}(e:t δ β=U (.ok c,β1)):EJ t δ β=U (.ok<|!c,β1):=by unfold EJ M.bind;rw[e];rfl
theorem bU(a:β.ok)(k:0<lot)(l:lot<1073741824):∃v e,dO [.bag,.int lot] β=U (.ok<|.int v,e)/\0<=v/\v<lot/\e.ok:=by
 obtain⟨m,b,j⟩:=zJ a k;exact⟨_,_,(by
  unfold dO;exact Uf ⟨a,k,l⟩),m,b,j⟩
theorem pB{n:Nat}{k:Int}(e:0<=k)(j:k<n):u3 n k=U k.toNat:=by unfold u3;rw[Uf e,Uf j]
theorem JL{k:Int}{d:D}(e:0<=k)(h:l[k.toNat]?=U d):gs (.lst l) (.int k)=U d:=by
 have j:=(Ui.mp h).1;show ra l k=U d;unfold ra;rw[pB e rk];exact h
theorem lT{x y:D}:gs (.tup [x,y]) (.int 0)=U x:=Z
theorem nG{x y:D}:gs (.tup [x,y]) (.int 1)=U y:=Z
end
section
variable{β β1 β2:Bg}{f g h i:FD}{t u:a0s}{δ:Dn}{c e:Bool}{x y z w:Int}{d:D}
theorem p8(a:t δ β=U (.ok T4,β1))(b:u δ β1=U (.ok e,β2)):uX t u δ β=U (.ok e,β2):=by
 unfold uX M.bind;rw[a];simp[b]
theorem NG(a:f δ β=U (.ok<|.bl O,β1))(b:g δ β1=U (.ok d,β2)):EK f g δ β=U (.ok d,β2):=by
 unfold EK M.bind;rw[a];simp[asB,M.ofO,b]
theorem le_int:leD (.int x) (.int y)=U (.bl<|decide (x<=y)):=Z
theorem lt_int:ltD (.int x) (.int y)=U (.bl<|decide (x<y)):=Z
theorem gt_int:B_ (.int x) (.int y)=U (.bl<|decide (y<x)):=Z
theorem zf(a:f δ β=U (.ok<|.int x,β))(b:g δ β=U (.ok<|.int y,β))(j:h δ β=U (.ok<|.int z,β)):mM leD leD f g h δ β=U (.ok<|.bl<|decide (x<=y)&&decide (y<=z),β):=by
 unfold mM M.bind;rw[a];simp only[b,le_int,M.ofO,asB];by_cases q:x<=y
 .simp only[q,decide_true,Vm,j,le_int,XF]
 .simp only[q,Zw,Uz,Vc,M.ret,YB]
theorem KK(a:f δ β=U (.ok<|.int x,β))(b:g δ β=U (.ok<|.int y,β))(j:h δ β=U (.ok<|.int z,β))(k:i δ β=U (.ok<|.int w,β)):qG leD leD leD f g h i δ β=U (.ok<|.bl<|decide (x<=y)&&decide (y<=z)&&decide (z<=w),β):=by
 unfold qG Nw M.bind;rw[a];simp only[b,le_int,M.ofO,asB];by_cases q:x<=y
 .simp only[q,decide_true,Vm,j,le_int,XF]
  by_cases c:y<=z
  .simp only[c,decide_true,Vm,k,le_int,XF]
  .simp only[c,Zw,Uz,Vc,M.ret,YB]
 .simp only[q,Zw,Uz,Vc,M.ret,YB]
noncomputable abbrev gI(ba:LI):a0v:=ba.map λr=>r.map D.int
noncomputable abbrev lG(c:a0v):D:= .lst<|c.map D.lst
abbrev eo(ba:LI):D:=lG<|gI ba
noncomputable def pD(p:Int×Int):D:= .tup [.int p.1,.int p.2]
abbrev gP(b:LP):a0v:=b.map λr=>r.map pD
abbrev eA(b:LP):D:=lG<|gP b
def ko{e:Type}(r c:Nat)(m:List<|List e):Prop:=m.length=r/\∀d∈m,d.length=c
noncomputable def tot(ba:LI):Int:=(ba.map VT).sum
theorem bf(h:n<=1000):n<=UC:=Um h vy
theorem iY:∀r:a0e,noLs (r.map D.int)=O
 |[]=>rfl
 |x::r=>by
  show(noL _&&noLs _)=O;rw[iY r];rfl
theorem tz:∀r:List<|Int×Int,noLs (r.map pD)=O
 |[]=>rfl
 |x::r=>by
  show(noL _&&noLs _)=O;rw[tz r];rfl
theorem Qy(b:LP):(gP b).all noLs=O:=by
 rw[X5];intro x c;obtain⟨r,_,rfl⟩:=T7.mp c;exact tz r
theorem ko.map{d a:Type}{f:d->a}{r c:Nat}{m:List (List d)}(h:ko r c m):ko r c (m.map λx=>x.map f):=⟨by rw[TX,h.1],λe b=>by
 obtain⟨x,g,rfl⟩:=T7.mp b;rw[TX];exact h.2 x g⟩
theorem ko.set{d:Type}{r c i j:Nat}{m:List (List d)}{row:List d}{v:d}(h:ko r c m)(a:m[i]?=U row):ko r c (m.set i<|row.set j v):=⟨by rw[VL,h.1],λx e=>by
 obtain e|rfl:=Wv e
 .exact h.2 x e
 .rw[VL];exact h.2 _<|Uo a⟩
theorem ko.at{d:Type}{r c i:Nat}{m:List (List d)}(h:ko r c m)(b:i<r):∃row,m[i]?=U row/\row.length=c:=by
 have a:i<m.length:=by rw[h.1];exact b
 exact⟨m[i],Ua a,h.2 _<|Vj a⟩
theorem NA{c:Type}{l:List c}{i:Nat}(h:i<l.length):∃x,l[i]?=U x:=⟨l[i],Ua h⟩
theorem l7:∀{c:a0e} {j:Nat} {x v:Int},c[j]?=U x->(c.set j v).sum=c.sum-x+v
 |[],j,x,v,h=>by simp at h
 |y::c,0,x,v,h=>by
  simp at h;subst h;simp only[List.set_cons_zero,UI];lia
 |y::c,j+1,x,v,h=>by
  have d:c[j]?=U x:=by exact h
  simp only[List.set_cons_succ,UI,l7 d];lia
theorem NN{ba:LI}{i j:Nat}{row:a0e}{x v:Int}(a:ba[i]?=U row)(b:row[j]?=U x):tot (ba.set i<|row.set j v)=tot ba-x+v:=by
 unfold tot;rw[Zg,l7 (by rw[T9,a];rfl),l7 b];lia
theorem Qz{ba:LI}{i j:Nat}{row:a0e}(h:∀r∈ba,∀x∈r,0<=x)(b:ba[i]?=U row)(k:0<=v):∀r∈ba.set i (row.set j v),∀x∈r,0<=x:=λr a x c=>by
 obtain a|rfl:=Wv a
 .exact h r a x c
 .obtain c|rfl:=Wv c
  .exact h _ (Uo b) x c
  .exact k
theorem oI:∀{xs:a0e},(∀x∈xs,0<=x)->0<=xs.sum
 |[],_=>by simp
 |y::xs,h=>by
  have:=oI λx c=>h x<|T3 _ c;have:=h y Ud;rw[UI];lia
theorem yh:∀{xs:a0e},(∀x∈xs,0<=x)->∀x∈xs,x<=xs.sum
 |[],_,x,hx=>by cases hx
 |y::xs,h,x,hx=>by
  have:=oI λx hx=>h x<|T3 _ hx;have:=h y Ud;obtain rfl|hx:=Uq.mp hx
  .simp only[UI];lia
  .have:=yh (λx hx=>h x<|T3 _ hx) x hx
   rw[UI];lia
theorem QN(h:∀r∈ba,∀x∈r,0<=x):∀r∈ba,∀x∈r,x<=tot ba:=λr a x c=>by
 have j:=yh (h r a) x c;have k:=yh (λs d=>by
  obtain⟨q,b,rfl⟩:=T7.mp d;exact oI<|h q b) _<|T7.mpr ⟨r,a,Z⟩
 unfold tot;lia
structure Tab (r c:Nat) (ba:LI):Prop where
 shp:ko r c ba
 nn:∀row∈ba,∀x∈row,0<=x
 tot:tot ba<=40
 r0:1<=r
 r1:r<=4
 c0:1<=c
 c1:c<=6
theorem gf(c:a0e):gH [.lst<|c.map D.int]=U (.int c.sum):=by
 show((cS<|c.map _).map λl=>D.int _)=_;have:∀c:a0e,cS (c.map D.int)=U c:=λc=>by
  induction c with
  |nil=>rfl
  |cons n c d=>simp[cS,d]
 rw[this];rfl
theorem F3{n:Int}(a:0<=n)(h:n<=10^9):gR [.int n]=U (bw 0 n.toNat):=by
 have q:(decide (-(2^62)<=n)&&decide (n<2^62))=O:=by
  rw[US];lia
 show(if(decide _&&decide _)=O then U (bw 0 _)else Y)=_;rw[Uf q]
theorem wH{d:D}(h:(bw 0 n)[k]?=U d):k<n/\d= .int (k:Int):=by
 unfold bw at h;have a:k<n:=by
  have:=(Ui.mp h).1;simpa using this
 rw[T9,U8 a]at h;exact⟨a,by cases h;simp⟩
theorem xK(n:Nat):(bw 0 n).length=n:=by simp[bw]
theorem bv{c:Type}{f:FD}{δ:Dn}{β:Bg}(xs:List c)(u v:c->D)(a:it δ β=U (.ok<|xs.map u,β))
  (b:∀x∈xs,∃δ1,tg (u x) (lg nv b4 δ)=U δ1/\f δ1 β=U (.ok<|v x,β)) (j:xs.length<=UC):cE nv b4 it tg (λ_=>M.ret O) (j_ f) δ β=U (.ok<|.lst<|xs.map v,β):=by
 refine u6 a ?_ (by rw[TX];exact j);have d:∀xs:List c,(∀x∈xs,∃δ1,tg (u x) (lg nv b4 δ)=U δ1/\f δ1 β=U (.ok<|v x,β))->ot tg (λ_=>M.ret O) (j_ f) (xs.map u) (lg nv b4 δ) β=U (.ok<|xs.map v,β):=by
  intro xs
  induction xs with
  |nil=>intro _;rfl
  |cons x xs e=>
   intro h;obtain⟨δ1,k,l⟩:=h x Ud;rw[Ul,ot];simp only[k,M.bind,M.ret,reduceIte,j_,l,e λy g=>h y<|T3 _ g,Ul,Wh,VY]
 exact d xs b
theorem v6{e:Type}{f:FL}{δ:Dn}{β:Bg}(d:List e)(u:e->D)(v:e->a0c)(a:it δ β=U (.ok<|d.map u,β))
  (b:∀x∈d,∃c,tg (u x) (lg nv b4 δ)=U c/\f c β=U (.ok<|v x,β)) (j:d.length<=UC):jc nv b4 it tg (λ_=>M.ret O) (vb f) δ β=U (.ok<|d.map v,β):=by
 have g:∀d:List e,(∀x∈d,∃c,tg (u x) (lg nv b4 δ)=U c/\f c β=U (.ok<|v x,β))->rZ tg (λ_=>M.ret O) (vb f) (d.map u) (lg nv b4 δ) β=U (.ok<|d.map v,β):=by
  intro d
  induction d with
  |nil=>intro _;rfl
  |cons x d i=>
   intro h;obtain⟨c,k,l⟩:=h x Ud;rw[Ul,rZ];simp only[k,M.bind,M.ret,reduceIte,vb,l,i λy t=>h y<|T3 _ t,Ul,Wh,VY]
 unfold jc;simp only[a,g d b,TX,j,Vm]
theorem Kk{e:Type}{f:FD}{δ:Dn}{β:Bg}(d:List e)(u:e->D)(v:e->D)(a:it δ β=U (.ok<|d.map u,β))
  (b:∀x∈d,∃c,tg (u x) (lg nv b4 δ)=U c/\f c β=U (.ok<|v x,β)) (j:d.length<=UC):gF nv b4 it tg (λ_=>M.ret O) (j_ f) δ β=U (.ok<|d.map v,β):=by
 have g:∀d:List e,(∀x∈d,∃c,tg (u x) (lg nv b4 δ)=U c/\f c β=U (.ok<|v x,β))->ot tg (λ_=>M.ret O) (j_ f) (d.map u) (lg nv b4 δ) β=U (.ok<|d.map v,β):=by
  intro d
  induction d with
  |nil=>intro _;rfl
  |cons x d i=>
   intro h;obtain⟨c,k,l⟩:=h x Ud;rw[Ul,ot];simp only[k,M.bind,M.ret,reduceIte,j_,l,i λy t=>h y<|T3 _ t,Ul,Wh,VY]
 unfold gF;simp only[a,g d b,TX,j,Vm]
theorem P5{ds:a0c}{c:Nat}(a:ds.length<=UC)(b:ds.length*c<=UC)(j:c<=1000000):xL ds (.int (c:Int))=U (UL c ds).flatten:=by
 have q:(decide (-(2^63)<=(c:Int))&&decide ((c:Int)<2^63)&&decide (ds.length<=UC)&&decide (ds.length*(c:Int).toNat<=UC))=O:=by
  simp only[US,UZ];exact⟨⟨⟨rk,rk⟩,a⟩,by exact b⟩
 unfold xL;simp only[q,Vm];rw[VA]
theorem yD{d:Type}(x:d):∀c:Nat,(UL c [x]).flatten=UL c x
 |0=>rfl
 |c+1=>by rw[VF,W9,yD x c];rfl
theorem SD{f:FD}{g:FD}{x:D}{c:Nat}{δ:Dn}{β:Bg}(b:f δ β=U (.ok x,β))(j:g δ β=U (.ok<|.int (c:Int),β))(k:c<=1000):DC (ae f ax) g δ β=U (.ok<|UL c x,β):=by
 have a:[x].length<=UC:=by rw[Vf];decide
 have l:[x].length*c<=UC:=by rw[Vf,Nat.one_mul];exact bf k
 have r:=P5 a l rk;rw[yD]at r;have s:szL [x]=U [x]:=by
  unfold szL;rw[Uf a]
 unfold DC;rw[M.bind_ok (aa b Z),s,M.bind_some,M.bind_ok j,r];rfl
theorem Kt(c:a1b):fL (c.map D.bl)=U c:=by
 induction c with
 |nil=>rfl
 |cons b c d=>simp[fL,d]
theorem any_map{α:Type}(c:List α)(p:α->Bool):EU [.lst<|c.map λx=>D.bl<|p x]=U (.bl<|c.any p):=by
 show(fL _).map _=_;rw[show(c.map λx=>D.bl<|p x)=(c.map p).map _ by rw[Ub];rfl,Kt];rw[VP,List.any_map];rfl
theorem lz{c:Type}(r:Nat)(x:c):(Ue r).map (λ_=>x)=UL r x:=by rw[List.map_const',UF]
theorem da{xs:a0c}(h:xs.length=r):fA [.lst xs]=U (.int (r:Int)):=by subst h;rfl
theorem yg{ba:a0v}(h:ba.length=r):fA [lG ba]=U (.int (r:Int)):=da (by rw[TX,h])
theorem tR{ba:a0v}{k:Nat}{row:a0c}(h:ba[k]?=U row):gs (lG ba) (.int (k:Int))=U (.lst row):=JL rk (by rw[VA,T9,h];rfl)
theorem cw{c:a0c}{k:Nat}{d:D}(h:c[k]?=U d):gs (.lst c) (.int (k:Int))=U d:=JL rk (by exact h)
theorem bZ{x y:D}:fU [x,y]=U (.tup [x,y]):=by
 unfold fU;rw[Uf (show[x,y].length<=UC by rw[Ur,Vf];decide)]
theorem LN:ft []=U (.lst []):=by
 unfold ft;rw[Uf (show([]:a0c).length<=UC by decide)]
theorem nB{x:D}:ft [x]=U (.lst [x]):=by
 unfold ft;rw[Uf (show[x].length<=UC by rw[Vf];decide)]
theorem DE{x y:Int}:x8 [.int x,.int y]=U (.int<|W0 x y):=by
 unfold x8;simp only;split<;>grind
theorem QJ{x y:Int}:DG [.int x,.int y]=U (.int<|max x y):=by
 unfold DG;simp only;congr 2;split<;>lia
theorem eq_int{x y:Int}:dJ (.int x) (.int y)=U (.bl<|decide (x=y)):=by rw[TH]
theorem ne_int{x y:Int}:ic (.int x) (.int y)=U (.bl<|!decide (x=y)):=by rw[TF]
theorem mP{i:Nat}{d:D}(h:(cZ 0 j)[i]?=U d):∃x,j[i]?=U x/\d= .tup [.int (i:Int),x]:=by
 obtain⟨x,b,a⟩:=pK h;rw[V4]at a;exact⟨x,b,a⟩
theorem bH{c a:Type}{f:c->a}{xs:List c}{i:Nat}{d:a}(h:(xs.map f)[i]?=U d):∃x,xs[i]?=U x/\d=f x:=by
 rw[T9]at h;cases q:xs[i]? with
 |none=>rw[q]at h;cases h
 |some x=>rw[q]at h;exact⟨x,Z,by cases h;rfl⟩
noncomputable abbrev qE(r c:Nat):LP:=UL r<|UL c (0,40)
noncomputable def H_{d:Type}(m:List<|List d)(i j:Nat):Option d:=(m[i]?).bind λc=>c[j]?
theorem at2_set{d:Type}{m:List (List d)}{i j k l:Nat}{c:List d}{v x:d}(a:m[i]?=U c)(h:H_ (m.set i<|c.set j v) k l=U x):(k=i/\l=j/\x=v)\/(H_ m k l=U x/\¬(k=i/\l=j)):=by
 unfold H_ at h⊢;rw[V2]at h;by_cases q:i=k
 .subst q
  rw[Uf Z]at h;split at h
  .simp only[Wf]at h
   rw[V2]at h;by_cases w:j=l
   .subst w
    rw[Uf Z]at h;split at h
    .exact .inl ⟨Z,Z,(UR h).symm⟩
    .cases h
   .rw[Uh w]at h
    exact .inr ⟨by rw[a];exact h,λz=>w z.2.symm⟩
  .cases h
 .rw[Uh q]at h
  exact .inr ⟨h,λz=>q z.1.symm⟩
theorem BH{d:Type}{m:List (List d)}{i j:Nat}{x:d}(h:H_ m i j=U x):∃c∈m,x∈c:=by
 unfold H_ at h;cases q:m[i]? with
 |none=>rw[q]at h;cases h
 |some c=>rw[q]at h;exact⟨c,Uo q,Uo h⟩
theorem pU{c:Type}{m:List (List c)}{i j:Nat}{row:List c}{x:c}(a:m[i]?=U row)(b:row[j]?=U x):H_ m i j=U x:=by unfold H_;rw[a];exact b
structure r_ (p:Int×Int):Prop where
 l:0<=p.1
 m:p.1<=p.2
 h:p.2<=40
def Kp(ba:LI)(b:LP):Prop:=∀i j x p,H_ ba i j=U x->H_ b i j=U p->p.1<=x/\x<=p.2
structure A_ (r c:Nat) (b:LP):Prop where
 shp:ko r c b
 ok:∀row∈b,∀p∈row,r_ p
theorem A_.set{r c i j:Nat}{b:LP}{row:List (Int×Int)}(h:A_ r c b)(k:b[i]?=U row)(l:r_ p):A_ r c (b.set i<|row.set j p):=⟨h.shp.set k,λq a x d=>by
 obtain a|rfl:=Wv a
 .exact h.ok q a x d
 .obtain d|rfl:=Wv d
  .exact h.ok _ (Uo k) x d
  .exact l⟩
theorem A_.free(r c:Nat):A_ r c (qE r c):=⟨⟨nl,λx00 x01=>by rw[(Wz.mp x01).2];simp⟩,λd b p a=>by
 rw[(Wz.mp b).2]at a;rw[(Wz.mp a).2];exact⟨vy,vy,vy⟩⟩
theorem Tab.le40{r c:Nat}(t:Tab r c ba):∀d∈ba,∀x∈d,0<=x/\x<=40:=λd a x e=>⟨t.nn d a x e,by
 have:=QN t.nn d a x e;have:=t.tot;lia⟩
theorem Kp.free{r c:Nat}(t:Tab r c ba):Kp ba (qE r c):=λi j x p e k=>by
 obtain⟨d,l,b⟩:=BH e;obtain⟨q,m,a⟩:=BH k;rw[(Wz.mp m).2]at a;rw[(Wz.mp a).2];exact t.le40 d l x b
theorem Kp.set{b:LP}{i j:Nat}{row:List (Int×Int)}{p:Int×Int}{x:Int}(h:Kp ba b)(m:b[i]?=U row)(d:H_ ba i j=U x)(n:p.1<=x)(o:x<=p.2):Kp ba (b.set i<|row.set j p):=λk l y q c a=>by
 obtain⟨rfl,rfl,rfl⟩|⟨a,_⟩:=at2_set m a
 .rw[d]at c
  cases c;exact⟨n,o⟩
 .exact h k l y q c a
theorem BA{d:Type}{δ:Dn}{β:Bg}(xs:List d)(u:d->D)(o:d->a0c)(a:it δ β=U (.ok<|xs.map u,β))
  (j:∀x∈xs,∃c,tg (u x) (lg nv b4 δ)=U c/\b c β=U (.ok<|o x,β)) (k:(xs.flatMap o).length<=UC):cE nv b4 it tg (λ_=>M.ret O) b δ β=U (.ok<|.lst<|xs.flatMap o,β):=by
 refine u6 a ?_ k;have e:∀xs:List d,(∀x∈xs,∃c,tg (u x) (lg nv b4 δ)=U c/\b c β=U (.ok<|o x,β))->ot tg (λ_=>M.ret O) b (xs.map u) (lg nv b4 δ) β=U (.ok<|xs.flatMap o,β):=by
  intro xs
  induction xs with
  |nil=>intro _;rfl
  |cons x xs f=>
   intro h;obtain⟨c,l,m⟩:=h x Ud;rw[Ul,ot];simp only[l,M.bind,M.ret,reduceIte,m,f λy g=>h y<|T3 _ g,U9]
 exact e xs j
theorem IB{e:Type}{f:FD}{δ:Dn}{β:Bg}(d:List e)(u v:e->D)(a:it δ β=U (.ok<|d.map u,β))
  (b:∀x∈d,∃c,tg (u x) δ=U c/\f c β=U (.ok<|v x,β)):L_ it tg (λ_=>M.ret O) (j_ f) δ β=U (.ok<|d.map v,β):=by
 have g:∀d:List e,(∀x∈d,∃c,tg (u x) δ=U c/\f c β=U (.ok<|v x,β))->ot tg (λ_=>M.ret O) (j_ f) (d.map u) δ β=U (.ok<|d.map v,β):=by
  intro d
  induction d with
  |nil=>intro _;rfl
  |cons x d i=>
   intro h;obtain⟨c,j,k⟩:=h x Ud;rw[Ul,ot];simp only[j,M.bind,M.ret,reduceIte,j_,k,i λy t=>h y<|T3 _ t,Ul,Wh,VY]
 unfold L_;rw[M.bind_ok a];exact g d b
theorem Ke{c a:Type}{f:c->List a}:∀{l:List c},(∀x∈l,(f x).length<=n)->(l.flatMap f).length<=n*l.length
 |[],_=>by simp
 |x::l,h=>by
  have b:=h x Ud;have j:=Ke λy d=>h y<|T3 _ d;rw[U9,Uv,Ur,Nat.mul_add];lia
theorem iq{e a:Type}(u:e->D)(v:a->D):∀(c:List e) (d:List a),d8 (c.map u) (d.map v)=(c.zip d).map λp=>D.tup [u p.1,v p.2]
 |[],d=>by simp[d8]
 |x::c,[]=>by simp[d8]
 |x::c,y::d=>by simp[d8,iq u v c d]
theorem nX{c:a0c}{k:Nat}:pO c (U (k:Int)) Y=c.drop k:=by
 unfold pO;rw[HT.sIx_none,HT.sIx_nat];by_cases h:k<=c.length
 .rw[show W0 k _=k by lia]
  rw[WR<|by rw[X7];lia]
 .rw[WQ (by grind),WQ rk]
  simp
theorem kG{f g:FD}{δ:Dn}{β:Bg}(a:f δ β=U (.ok<|.lst j,β))(b:g δ β=U (.ok<|.int k,β)):fSl f (U g) Y δ β=U (.ok<|.lst<|pO j (U k) Y,β):=by
 unfold fSl qF;simp only[M.bind,a,b,M.ret,M.ofO,Kx,slD]
theorem qL{c d:a0c}(h:c.length+d.length<=1000):dR (.lst c) (.lst d)=U (.lst<|c++d):=by
 unfold dR;simp only;rw[Uf<|bf h]
def mT:a0c->a0g->Prop
 |[],[]=>True
 | .int i::ds,.int j _::vs=>i=j/\mT ds vs
 | .str x::ds,.str y _::vs=>x=y/\mT ds vs
 | .bl x::ds,.bool y::vs=>x=y/\mT ds vs
 | .non::ds,.none::vs=>mT ds vs
 |_,_=>False
theorem i8{K:UA}:∀{ds:a0c} {vs:a0g},mT ds vs->∃c,aE c vs/\∀F H,bb K F H ds c
 |[],[],_=>⟨[],.nil,λ_ _=>bb.nil⟩
 | .int i::ds,.int j t::vs,h=>by
  obtain⟨e,h⟩:=h;subst e;obtain⟨c,a,b⟩:=i8 h;exact⟨.int i::c,.cons ⟨t,Z⟩ a,λF H=>bb.cons Z<|b F H⟩
 | .str i::ds,.str j t::vs,h=>by
  obtain⟨e,h⟩:=h;subst e;obtain⟨c,a,b⟩:=i8 h;exact⟨.str i::c,.cons ⟨t,Z⟩ a,λF H=>bb.cons Z<|b F H⟩
 | .bl i::ds,.bool j::vs,h=>by
  obtain⟨e,h⟩:=h;subst e;obtain⟨c,a,b⟩:=i8 h;exact⟨.bl i::c,.cons Z a,λF H=>bb.cons Z<|b F H⟩
 | .non::ds,.none::vs,h=>by
  obtain⟨c,a,b⟩:=i8 (vs:=vs) h;exact⟨.non::c,.cons Z a,λF H=>bb.cons Z<|b F H⟩
def VIs(K:UA)(d:D)(u:Uc):Prop:=∃v,aY v u/\∀F H,b5 K F H d v
theorem qd{K:UA}{i:Int}{t:Tok}:VIs K (.int i) (.int i t):=⟨.int i,⟨t,Z⟩,λ_ _=>Z⟩
theorem qc{K:UA}{q3:a0E}(a:K.lookup p=U ⟨q1,q2,.seq q3 q4,q5⟩)(b:q1= .type "tuple")(j:q3.size<=UC)(k:mT n q3.toList):VIs K (.tup n) (.ref p):=by
 obtain⟨c,l,m⟩:=i8 k;exact⟨.ref p,Z,λF H=>⟨p,c,Z,.inr ⟨_,q3,q4,a,b,Z,j,l⟩,m F H⟩⟩
theorem kz{K:UA}{mg:a0j}{x:U3}{d:D}{u:Uc}(h:mg x=U u)(v:VIs K d u):iQ K mg x d:=let ⟨w,h1,h2⟩:=v;⟨u,w,h,h1,h2⟩
theorem RF{K:UA}{d:a0i}{us:a0g}(n:Nat)(l:d.length=n+us.length)(b:∀(s:Uj) (c:a0g),K.In s.heap->c.length=n->BindsTo s m ⟨c,[]⟩ (d.zip<|c++us))(h:∃c,aE c us/\∀F H,bb K F H dd c):cF K m d dd:=
 let ⟨c,h1,h2⟩:=h
 ⟨us,c,λs a j k=>b s a j (by rw[Uv]at k;lia),h1,h2⟩
theorem RC{K:UA}:∃c,aE c []/\∀F H,bb K F H [] c:=⟨[],.nil,λ_ _=>bb.nil⟩
theorem OZ{K:UA}{d:D}{u:Uc}(v:VIs K d u)(h:∃c,aE c us/\∀F H,bb K F H l c):∃c,aE c (u::us)/\∀F H,bb K F H (d::l) c:=by
 obtain⟨w,a,b⟩:=v;obtain⟨c,j,k⟩:=h;exact⟨w::c,.cons a j,λF H=>bb.cons (b F H)<|k F H⟩
inductive T_ (K:UA):List (Sr D)->List (Sr Uc)->Prop where
 |nil:T_ K [] []
 |kw {j:Nat} {a:List (Sr D)} {c:List (Sr Uc)}:T_ K a c->T_ K (.kw j::a) (.kw j::c)
 |df {x:D} {y:Uc} {a:List (Sr D)} {c:List (Sr Uc)}:VIs K x y->T_ K a c->T_ K (.df x::a) (.df y::c)
theorem T_.mid{K:UA}:∀{a:List (Sr D)} {c:List (Sr Uc)},T_ K a c->∃b:List<|Sr V,nj aY b c/\nj (λd v=>∀F H,b5 K F H d v) a b
 |_,_,.nil=>⟨[],.nil,.nil⟩
 |_,_,.kw (j:=j) h=>let ⟨b,h1,h2⟩:=T_.mid h;⟨.kw j::b,.kw h1,.kw h2⟩
 |_,_,.df v h=>let ⟨b,h1,h2⟩:=T_.mid h;let ⟨w,g1,g2⟩:=v;⟨.df w::b,.df g1 h1,.df g2 h2⟩
theorem Nl{K:UA}{d e:a0i}{c:List (Sr D)}{sv:List (Sr Uc)}(h:T_ K c sv)(j:d.length=n+c.length)(k:0<d.length)(b:∀(s:Uj) (us a:a0g),K.In s.heap->us.length=n->a.length=e.length->BindsTo s l ⟨us,e.zip a⟩ (d.zip<|us++sv.map (Sr.pick .none a))):D_ K l d e n c:=
 ⟨let ⟨sx,h1,h2⟩:=h.mid;⟨sv,sx,h1,h2,b⟩,j,k⟩
variable{X:Cx}{E:a0u}{K:UA}{a:Va}
end
section
variable{h:G}{δ:Ds}{β β1 b a:Bg}{Q:a0z}{i:Nat}{k j e:FD}{fl:FL}{d m l:D}{ds:a0c}{c:a0Z}
theorem wx{δ:Dn}{β β1:Bg}(a:t δ β=U (.ok O,β1))(b:f δ β1=U r):fIf t f g δ β=U r:=by
 unfold fIf M.bind;rw[a];exact b
theorem wy{δ:Dn}{β β1:Bg}(a:t δ β=U (.ok T4,β1))(b:g δ β1=U r):fIf t f g δ β=U r:=by
 unfold fIf M.bind;rw[a];exact b
theorem LF{c:Bool}(h:dJ x y=U (.bl c)):ic x y=U (.bl<|!c):=by
 unfold dJ at h;unfold ic;cases q:eqS x y with
 |some e=>
  rw[q]at h;cases h;rfl
 |none=>
  rw[q]at h;cases z:n6 x y with
  |none=>rw[z]at h;cases h
  |some e=>rw[z]at h;cases h;rfl
theorem pZ{d:D}{δ:Dn}{β:Bg}(e:δ.getD n Y=U d):ac n δ β=U (.ok d,β):=by unfold ac;rw[e];rfl
end
section
variable{β β1 a:Bg}{f g h:FD}{δ:Dn}{x y z:Int}
theorem FG(a:f δ β=U (.ok<|.int x,β))(b:g δ β=U (.ok<|.int y,β))(c:h δ β=U (.ok<|.int z,β)):mM leD ltD f g h δ β=U (.ok<|.bl<|decide (x<=y)&&decide (y<z),β):=by
 unfold mM M.bind;rw[a];simp only[b,le_int,M.ofO,asB];by_cases q:x<=y
 .simp only[q,decide_true,Vm,c,lt_int,XF]
 .simp only[q,Zw,Uz,Vc,M.ret,YB]
theorem tJ{K:UA}{f:U3}:∀{w:a0i} {y:a0c} {g:a0k},bb K F H y g->(w.zip y).lookup f=U d->∃v,(w.zip g).lookup f=U v/\b5 K F H d v
 |[],y,g,h,e=>by simp at e
 |n::w,[],g,h,e=>by simp at e
 |n::w,c::y,g,h,e=>by
  obtain⟨x,r,q,a,b⟩:=h;subst q;rw[VU,ZU]at e⊢;split at e
  .rename_i z
   cases e;exact⟨x,Z,a⟩
  .rename_i z
   exact tJ b e
theorem vQ{w:Type}:∀{f:a0i} {g:List w},m∉f->(f.zip g).lookup m=Y
 |[],g,_=>by simp
 |n::f,[],_=>by rfl
 |n::f,x::g,h=>by
  rw[VU,ZU];have b:=λz=>h<|T3 _ z;rw[show(m==n)=T4 by simpa using (λz=>h (by rw[z];exact Ud))];exact vQ b
theorem cF.nil{K:UA}(b:cz K c ps []):cF K c ps []:=⟨[],[],b,.nil,λ_ _=>bb.nil⟩
end
section
variable{X:Cx}{E:a0u}{o e:Expr}{es:List Expr}{pos p s c:Xp}{x m:U3}{k n:Nat}{f C:T8}{fd:Uw}{ps ks:a0i}{P:List Keyword}
noncomputable def nR(C:T8)(f:U3):D->a0l
 | .obj C' ns ds=>if C'=C then(ns.zip ds).lookup f else Y
 |_=>Y
theorem cL{f:U3}(c:u_ X.K C)(n:c7 X.K C f)(j:PE X e<|tV X.K g E)(l:autoParam (XW e f X.env (Vv e X.env)=Vv e X.env) qQ):PE X (.Attribute e f pos) (tV X.K (f1 (nR C f) g) E):=
 (Qm j l).imp λL H Q i=>la i λF o p fr q h=>⟨F,o,p,fr,q,(run.bind h).mono λv r i=>by
  obtain⟨d,s,t,m,x⟩:=i;obtain⟨D,b,k⟩:=run.ofO x;cases d<;>first|cases b|skip
  rename_i u G M;unfold nR at b;simp only at b;split at b
  .rename_i z
   subst z;obtain⟨a,y,P,rfl,N,A,R,B⟩:=m;obtain⟨w,I,J⟩:=tJ B b;exact⟨a,u,y,_,w,Z,A,c,n,I,k w r (To.refl t.fr) J⟩
  .cases b⟩
def iN{e:Type}(C:T8)(m:U3)(a:a0c->M e)(b:FD)(g:FL)(c:a0c):Dn->M e:=λf=>M.bind (b f) λd=>match d with
 | .obj C' ns _=>if C'=C/\m∉ns then M.bind (g f) λk=>a (d::(k++c))else M.fail
 |_=>M.fail
def spT{c:Type}(K:UA)(T:Fx->Hp->Hp->c->V->Prop)(n:Nat)(m:a0c->M c):Sp:=λe H Q E=>e.length=n/\∃F f k,Fr F H k/\bb K F H f e/\run (T F H) F (λ_=>E) [] (m f) H Q k
theorem x9{w:Type}{T:Fx->Hp->Hp->w->V->Prop}{f5:a0c->M w}{W:FD}{g:FL}{j:a0c}{K:UA}{b:a0k}{l:St}{H:Hp}{Q:VK}(hT:∀{F H q u f d v},To F H q f->T F q u d v->T F H u d v)(G:∀F H,bb K F H j b)(hn:∀o f r c,g o f=U (.ok r,c)->r.length+j.length+1=n)(h:∃F o f,Fr F H f/\js K F H o l/\run (T F H) F E l (iN C m f5 W g j o) H Q f):CA C m (spT K T n f5) b E (tV K W E) (jm K g E) l H Q:=by
 obtain⟨F,o,f,fr,cb,h⟩:=h;refine⟨F,o,f,fr,cb,(run.bind h).mono λv q h_=>r8 h_ λd p t x s=>?_⟩;have k:∀{y:M w},y=M.fail->run (T F H) F E l y q Q p->False:=λ{y} e r=>by
  obtain⟨r,c,R,_⟩:=r;rw[e]at R;cases R
 cases d<;>first|exact(k Z s).elim|skip
 rename_i C' ns ds;simp only at s;split at s
 .rename_i z
  obtain⟨rfl,hm⟩:=z;have A:=x;obtain⟨a,dx,xs,rfl,h1,h2,h3,B⟩:=x;refine⟨a,dx,_,Z,h2,vQ hm,F,o,p,t.fr,cb.tr<|t.tr fr,?_⟩;obtain⟨P,I,S,X⟩:=run.bind s;refine⟨P,I,S,?_⟩;cases P with
  |error C=>exact X
  |ok as=>
   intro vs J t2 i;obtain⟨d',D,L,N,r3⟩:=X vs J t2 i;have hz:=(G F J).length;refine⟨by rw[Ur,Uv,<-i.length,<-hz,hn _ _ _ _ S],F,_::(d'++j),D,L.fr,bb.cons (b5.tr (L.tr t.fr) _ _ A)<|bb.append N<|G F J,?_⟩;obtain⟨r4,ek,e4,B⟩:=r3;refine⟨r4,ek,e4,?_⟩;cases r4 with
   |error C=>exact B
   |ok d=>exact λv u t5 hv=>B v u t5<|hT (t.trans L) hv
 .exact(k Z s).elim
theorem oF{a:a0c}(c:u_ X.K C)(p:k_ X.K C m f)(G:e_ X.prog X.w X.K X.mg X.base (hO X.prog X.w) k f fd ps<|P_ X.K n J)(l:d4 k X.A)(q:cF X.K fd ps a)(x:dL (hO X.prog X.w) X E)
  (t:PE X o<|tV X.K L E) (D:PA X (e::es)<|jm X.K g E) (M:∀P S r j,g P S=U (.ok r,j)->r.length+a.length+1=n)
  (d:autoParam (b0a X e es) qQ) (i:autoParam (b0b X pos es) qQ)
  (u:autoParam (Vv (.Call (.Attribute o m s) (e::es) [] pos) X.env=(do
   let I <-Vv o X.env
   Yp s.atName
   let (f,first) <-YY [I] (getMethod I m pl)
   callWith pos f first (WD pos<|Uu (e::es) X.env) (XR pos<|WA [] X.env))) qQ):
  PE X (.Call (.Attribute o m s) (e::es) [] pos) (tV X.K (iN C m J L g a) E):=by
 obtain⟨N,v,b,y,V⟩:=q;exact(Oe t c p G l b y x D d i u).imp λB H Q h=>x9 (λ_ z=>z) V M h
theorem eE{d:a0c}(c:u_ X.K C)(D:k_ X.K C m f)(G:e_ X.prog X.w X.K X.mg X.base (hO X.prog X.w) k f fd ps<|P_ X.K n mf)(i:d4 k X.A)(j:cF X.K fd ps d)(M:dL (hO X.prog X.w) X E)
  (l:PE X o<|tV X.K fo E) (P:d.length+1=n)
  (q:autoParam (Vv (.Call (.Attribute o m s) [] [] pos) X.env=(do
   let f5 <-Vv o X.env
   Yp s.atName
   let (f,first) <-YY [f5] (getMethod f5 m pl)
   callWith pos f first (WD pos<|Uu [] X.env) (XR pos<|WA [] X.env))) qQ):
  PE X (.Call (.Attribute o m s) [] [] pos) (tV X.K (iN C m mf fo ax d) E):=by
 obtain⟨ds,t,b,u,S⟩:=j;refine(Ls l c D G i b u M q).imp λcb H Q h=>?_;obtain⟨F,p,x,fr,y,h⟩:=x9 (T:=λF _=>b5 _ F) (λ_ z=>z) S (λp x r B e=>by cases e;simpa using P) h;exact⟨F,p,x,fr,y,h.mono λv W ⟨a,I,V,J,ha,L,ek,N,aa,g,eH,R⟩=>⟨a,I,V,J,ha,L,run.ret g R bb.nil⟩⟩
def EL(f g:FD):FD:=λc e=>match f c e with
 |none=>g c e
 |some r=>U r
theorem MN{f g:FD}(j:PE X e<|tV X.K f E)(l:PE X e<|tV X.K g E):PE X e (tV X.K (EL f g) E):=λa s d H Q I t=>by
 obtain⟨F,k,m,fr,i,r,b,c,h⟩:=t;unfold EL at c;split at c
 .exact l a s d H Q I ⟨F,k,m,fr,i,r,b,c,h⟩
 .rename_i q
  cases c;exact j a s d H Q I ⟨F,k,m,fr,i,r,b,q,h⟩
structure ToX (F:Fx) (x:T8) (H H':Hp) (β':Bg):Prop where
 kp:∀a o,a≠x->H a=U o->(∀b l,F.bg=U (b,l)->a≠b/\a≠l)->H' a=U o
 fr:Fr F H' β'
def spI(K:UA)(C:T8)(k:a0i)(n:Nat)(g:a0c->M a0c):Sp:=λp H Q E=>∃x e F m o d,p= .ref x::e/\e.length=n/\Fr F H o/\F.A x/\(∀b l,F.bg=U (b,l)->x≠b/\x≠l)/\H x=U (.ins C d [])/\bb K F H m e/\
 ∃r a,g m o=U (r,a)/\match r with
  | .ok es=>∀c f,ToX F x H c a->c x=U (.ins C d<|k.zip f)->k.length=f.length->bb K F c es f->Q .non c
  | .error Ce=>∀c,ToX F x H c a->E (.ref Ce) Y c
variable{m:a0i}
theorem LJ{K:UA}{k:a0k}(fr:Fr F H2 A)(N:k.length=n)(G:bb K F H2 ds k)(r:run (b5 K F) F E σ (M.bind (mi ds) λw=>M.ret<|.obj C m w) H2 Q A):
  ∀x c,H2 x=Y->H2 c=Y->c≠x->spI K C m n mi (.ref x::k) (upd (upd H2 c<|.own x) x<|.ins C c []) (λv cb=>v= .non/\Q (.ref x) cb) (E σ):=by
 intro x c p B S;have H:=fr.fresh p;have e:cj H2 (upd (upd H2 c<|.own x) x<|.ins C c []):=λa o h=>by
  rw[bt<|aP h p,bt<|aP h B];exact h
 have t:=fr.same e;have I:Fr (F.but x) _ A:=⟨λa ha z=>(by
  obtain ha|ha:=ha
  .exact t.fr.occ a ha z
  .subst ha;rw[aw]at z;cases z),λb l q=>let ⟨z1,z2,z3⟩:=fr.bgA b l q;⟨.inl z1,.inl z2,z3⟩,t.fr.bag⟩
 have J:Tr F H2 (F.but x) _:=⟨λa T R z=>by
  obtain z|z:=z
  .exact T z
  .subst z;exact R p,λa o _ h=>e a o h,Z⟩
 obtain⟨W,d,g,h⟩:=r;refine⟨x,k,F.but x,ds,A,c,Z,N,I,.inr Z,λb l q=>⟨λz=>H<|z▸(fr.bgA b l q).1,λz=>H<|z▸(fr.bgA b l q).2.1⟩,aw,bb.tr J _ _ G,?_⟩;have j:∀{i:Hp} {d:Bg},ToX (F.but x) x _ i d->To F H2 i d:=λ{i d} f=>⟨λa o ha n=>f.kp a o (aP ha p) (e a o ha) n,⟨λa ha=>f.fr.occ a<|.inl ha,fr.bgA,f.fr.bag⟩⟩;cases q:mi ds A with
 |none=>unfold M.bind at g;rw[q]at g;cases g
 |some z=>
  obtain⟨D,s⟩:=z;refine⟨D,s,Z,?_⟩;cases D with
  |error f5=>
   rw[M.bind_err q]at g;cases g;exact λi f=>h i<|j f
  |ok w=>
   rw[M.bind_ok q]at g;cases g;refine λi P f L u y=>⟨Z,h _ i (j f) ⟨x,c,P,Z,H,L,u,bb.tr Fx.tr_of _ _ y⟩⟩
def yI(C:T8)(m:a0i)(a:a0c->M a0c)(g b:FL)(c:List<|Sr D):FD:=λe=>M.bind (g e) λf=>M.bind (b e) λks=>M.bind (a<|f++c.map (Sr.pick .non ks)) λk=>M.ret<|.obj C m k
def Pj(C:T8)(e:Sp)(d:a0k->a0k->a0k)(E:a0u)(t g:TA):TE:=λb H Q=>t b H λf h=>g b h λi c=>∀x a,c x=Y->c a=Y->a≠x->
 e (d (.ref x::f) i) (upd (upd c a<|.own x) x<|.ins C a []) (λv j=>v= .non/\Q (.ref x) j) (E b)
theorem Lu(M:Mk X.K C f)(F:e_ X.prog X.w X.K X.mg X.base CX k f fd ps sp)(cb:d4 (k+1) X.A)(ek:Gl X x)(n:X.mg x=U (.ref C))(eH:N_ X.K fd ps ks g gV)(o:dL CX X E)
  (D:PA X (e::es) t) (B:PK X P tk) (i:autoParam ((XR pos<|WA P X.env).all (·.1.isSome)=O) qQ) (J:autoParam ((XR pos<|WA P X.env).filterMap (·.1)=ks) qQ)
  (L:autoParam (b0c x) qX) (f5:autoParam (b0a X e es) qQ)
  (N:autoParam (((WD pos<|Uu (e::es) X.env).any (·.1)||(XR pos (WA P X.env)).any (·.1.isNone))=T4) qQ):
  PE X (.Call (.Name x p) (e::es) P pos) (Pj C sp gV E t tk):=by
 refine λa s l H Q I h=>ZQ<|uS I ek n (PySem.W.callWith_KW I.ok.mod.kin M.kp i (ee (D _ a s l H _ I h) λm G ⟨vs,S,z,r,q⟩=>?_) N f5) L;refine ee (B _ a G l S _ z q) λd c ⟨zs,H2,j,rz,q2⟩=>⟨j.kIn,?_⟩;rw[J];have R:=q2 _ _ (j.hok.fresh<|ZM _) (j.hok.fresh<|Ug _)<|U7<|Yd _;have y:=b_.made (C:=C) j;have T:=eH.rel (.cons (show aY (V.ref<|c.heap.objs.size+1) (UE<|c.heap.objs.size+1)from Z) r) rz;have hl:(g (UE (c.heap.objs.size+1)::m) d).length=ps.length:=by rw[<-T.length];exact F.len _ _ _ _ R
 refine wpAny_call<|LK j.kIn M.makes M.init (beq_iff_eq.mp M.fn)<|ZH (F.run _ _ _ _ ⟨UE _::m,ks.zip d⟩ _ _ _ _ (cb.make C m<|ks.zip d)
  (y.env0.make C m<|ks.zip d) (eH.to _ _ d y.kIn hl) T R) λr s' b=>?_
 cases r with
 |error e=>exact o a l _ _ e s' y b
 |ok fl=>
  cases fl with
  |ret u=>
   obtain⟨v,H',I4,rv,ev,q4⟩:=y.after b;subst ev;exact⟨rv,⟨V.ref<|c.heap.objs.size+1,H',I4,Z,q4⟩⟩
  |next=>exact WZ b
  |brk=>exact WZ b
  |cont=>exact WZ b
theorem zj{o:List (Sr D)}(Mm:Mk X.K C f)(G:e_ X.prog X.w X.K X.mg X.base (hO X.prog X.w) k f fd ps<|spI X.K C m n mi)(hr:d4 (k+1) X.A)(hg:Gl X x)(hm:X.mg x=U (.ref C))(hb:D_ X.K fd ps ks (n1+1) o)(hx:dL (hO X.prog X.w) X E)
  (ha:PA X (e::es)<|jm X.K g E) (c:PK X P<|jm X.K gk E) (hn:∀s M r a,g s M=U (.ok r,a)->r.length=n1) (d:∀s M r a,gk s M=U (.ok r,a)->r.length=ks.length) (h3:n1+o.length=n)
  (b:autoParam ((XR pos<|WA P X.env).all (·.1.isSome)=O) qQ) (h:autoParam ((XR pos<|WA P X.env).filterMap (·.1)=ks) qQ)
  (i:autoParam (b0c x) qX) (he:autoParam (b0a X e es) qQ)
  (j:autoParam (((WD pos<|Uu (e::es) X.env).any (·.1)||(XR pos (WA P X.env)).any (·.1.isNone))=T4) qQ):
  PE X (.Call (.Name x p) (e::es) P pos) (tV X.K (yI C m mi g gk o) E):=by
 obtain⟨sv,J,rd,kb⟩:=hb.kb;refine(Lu Mm G hr hg hm kb hx ha c b h i he j).imp λσ H Q h_=>la h_ λF s M fr L r=>⟨F,s,M,fr,L,?_⟩;obtain⟨r0,l,N,ek⟩:=run.bind r;refine⟨r0,l,N,?_⟩;cases r0 with
 |error C=>exact ek
 |ok as=>
  intro S H1 t z;obtain⟨d',aa,q,u,r1⟩:=ek S H1 t z;refine⟨F,s,aa,q.fr,L.tr<|q.tr fr,?_⟩;obtain⟨T,ab,f5,W⟩:=run.bind r1;refine⟨T,ab,f5,?_⟩;cases T with
  |error C=>exact W
  |ok bs=>
   intro v cb t2 R;obtain⟨d2,ac,t3,B,r3⟩:=W v cb t2 R;have l1:=hn _ _ _ _ N;have I:=bb.tr (t3.tr q.fr) _ _ u;intro y dx;have g1:gK V.non _ _ J (.ref y::S) v= .ref y::(S++J.map _):=Uf ⟨by rw[Ur,<-z.length,l1],by rw[<-R.length,d _ _ _ _ f5]⟩;rw[g1];exact LJ t3.fr (by rw[Uv,TX,<-z.length,l1,<-rd.len,h3]) (bb.append I<|nj.den B rd) r3 y dx
abbrev IP:=Ds->a0c->Bg->Option (Except T8 a0c×Bg)
noncomputable def DY:IP:=λ_ c e=>U (.ok c,e)
noncomputable def jE(g:G)(a:IP):IP:=λe c f=>match g e f with
 |some (.nx δ1,β1)=>match e[0]?,δ1[0]? with
  |some (U (Sl.sh (D.adr x))),U (U (Sl.sh (D.adr y)))=>if x=y then a δ1 c β1 else Y
  |_,_=>Y
 |some (.ex C _,β1)=>U (.error C,β1)
 |_=>Y
def gm(f:FD)(a:IP):IP:=λe c k=>match f (vw e) k with
 |some (.ok d,β1)=>a e (c++[d]) β1
 |some (.error C,β1)=>U (.error C,β1)
 |none=>Y
structure p_ (x:T8) (B:Ow) (H:Hp) (B':Ow) (H':Hp):Prop where
 kp:∀a o,a≠x->H a=U o->(B a=Y\/B a=U 0)->H' a=U o
 tg:∀a,B a=U 0\/B a=U 1->B' a=B a
 nn:∀a o,a≠x->H a=U o->B a=Y->B' a=Y
 al:∀a,H a≠Y->H' a≠Y
end
theorem hY.x{x:T8}{B b:Ow}{H c:Hp}(s:hY B H b c):p_ x B H b c:=⟨λa o _=>s.kp a o,s.tg,λa o _=>s.nn a o,s.al⟩
theorem p_.trans(a:p_ x B H B1 H1)(b:p_ x B1 H1 B2 H2):p_ x B H B2 H2:=by
 refine⟨λc o w h n=>b.kp c o w (a.kp c o w h n) ?_,λc h=>?_,λc o w h n=>b.nn c o w (a.kp c o w h<|.inl n)<|a.nn c o w h n,λc h=>b.al c<|a.al c h⟩
 .obtain n|n:=n
  .exact .inl (a.nn c o w h n)
  .exact .inr ((a.tg c<|.inl n).trans n)
 .have e:=a.tg c h
  rw[<-e]at h;exact(b.tg c h).trans e
def mU(K:UA)(D:a0t)(E:a0u)(Dn:si)(B:Ow)(H:Hp)(x C e:T8)(w:a0i)(r:Except T8 a0c)(d:Bg):Prop:=match r with
 | .ok ds=>∀b c a G,p_ x B H c a->Fr (d_ c D) a d->a x=U (.ins C e<|w.zip G)->w.length=G.length->bb K (d_ c D) a ds G->Dn.nx b a
 | .error Ce=>∀b c a,p_ x B H c a->Fr (d_ c D) a d->E b (.ref Ce) Y a
theorem mU.pre{K:UA}{E:a0u}{Dn:si}(s:p_ x B H B1 H1)(h:mU K f E Dn B H x C g all r e):mU K f E Dn B1 H1 x C g all r e:=by
 cases r with
 |ok D=>exact λa b c w t=>h a b c w<|s.trans t
 |error d=>exact λa b c t=>h a b c<|s.trans t
def tI(K:UA)(D:Hp)(C:T8)(a w:a0i)(f:IP)(E:a0u):TS:=λDn g H=>∃B G M P x e b c r d,fw K D B G H M P g/\M[0]?=U (U<|.sh<|.adr x)/\B x=U 0/\H x=U (.ins C e<|a.zip b)/\a.length=b.length/\bb K (d_ B G) H c b/\f M c P=U (r,d)/\mU K G E Dn B H x C e (a++w) r d
theorem vL:∀{w:a0i} {D:a0k},w.length=D.length->f∉w->eJ f y (w.zip D)=(w++[f]).zip (D++[y])
 |[],[],_,_=>rfl
 |n::w,v::D,h,hf=>by
  show(if n=f then(n,y)::w.zip D else(n,v)::eJ f y (w.zip D))=_;rw[Uh (λz=>hf (by rw[z];exact Ud)),vL (by simpa using h) λz=>hf<|T3 _ z];rfl
 |[],_::_,h,_=>by simp at h
 |_::_,[],h,_=>by simp at h
theorem fw.upd0{K:UA}(w:fw K H₀ B A H C F I)(D:B x=U 0):fw K H₀ B A (upd H x o) C F I/\p_ x B H B (upd H x o):=by
 have E:∀c,H c≠Y->upd H x o c≠Y:=λc a=>by
  by_cases z:c=x
  .subst z;rw[aw];simp
  .rw[bt z];exact a
 have g:∀b l,A=U _->b≠x/\l≠x:=λb l e=>by
  obtain⟨G,f⟩:=w.bgt b l e;exact⟨λz=>(by rw[z,D]at G;cases G),λz=>(by rw[z,D]at f;cases f)⟩
 have M:Tr _ H (d_ B A) (upd H x o):=⟨λ_ h _=>h,λc u a e=>by
  rw[bt]
  .exact e
  .intro z;subst z;exact a (by show B c≠Y;rw[D];simp),Z⟩
 refine⟨⟨⟨λc a=>E c<|w.fr.occ c a,w.fr.bgA,λb l e=>?_⟩,w.bgt,w.len,λc a=>E c<|w.cov c a,w.new,λc k a=>?_,λi s e=>?_⟩,λc u P h _=>by rw[bt P];exact h,λ_ _=>Z,λ_ _ _ _ n=>n,E⟩
 .obtain⟨j,m⟩:=w.fr.bag b l e
  obtain⟨p,q⟩:=g b l e;exact⟨by rw[bt p];exact j,by rw[bt q];exact m⟩
 .exact(w.lst c k a).imp λo h=>by rw[bt];exact h;intro z;subst z;rw[D]at a;cases a
 .obtain⟨v,r,t⟩:=w.tell i s e
  exact⟨v,r,t.tr M λc d=>⟨d,λo z=>(bt λy=>by subst y;rw[D]at d;cases d).trans z⟩⟩
section
variable{X:Cx}{E:a0u}{st:Va}{aa:a0R}{C:T8}{w P:a0i}{ip:IP}
theorem No:PSs X [] (tI X.K X.H₀ C w [] DY E):=uK.imp λDn b H c=>by
 obtain⟨B,G,M,P,x,i,a,d,r,f,ok,j,S,g,h,D,e,k⟩:=c;cases e;rw[UQ]at k;exact k b B H a (hY.refl B H).x ok.fr g h D
theorem tZ(l:PS X st<|tG X.K X.H₀ g E)(m:PSs X aa<|tI X.K X.H₀ C w P ip E):PSs X (st::aa) (tI X.K X.H₀ C w P (jE g ip) E):=(dj l m).imp λDn v H n=>by
 obtain⟨B,D,M,S,x,o,c,d,r,f,ok,p,G,q,t,V,e,k⟩:=n;unfold jE at e;split at e
 .rename_i δ1 β1 h
  split at e
  .rename_i y A q1 q2
   split at e
   .rename_i z
    subst z;rw[p]at q1;cases q1;exact⟨B,D,M,S,.nx δ1,β1,ok,h,λb i j s a=>⟨i,D,δ1,β1,x,o,c,d,r,f,a,q2,(s.tg x<|.inl G).trans G,s.kp x _ q<|.inr G,t,bb.tr s.tr _ _ V,e,mU.pre s.x k⟩⟩
   .cases e
  .cases e
 .rename_i u δ1 β1 h
  cases e;exact⟨B,D,M,S,.ex u δ1,_,ok,h,λb i j s a=>k b i j s.x a.fr⟩
 .cases e
theorem jG(c:u_ X.K C)(n:c7 X.K C f)(ek:f∉w)(J:w.length<1000)(Q:PS X st<|PU X.K (lM 0) (tV X.K fv E) f)(R:PSs X aa<|tI X.K X.H₀ C (w++[f]) P ip E):PSs X (st::aa) (tI X.K X.H₀ C w (f::P) (gm fv ip) E):=(dj Q R).imp λDn T H f5=>by
 obtain⟨B,D,M,S,x,l,g,p,r,q,ok,L,G,W,N,V,e,k⟩:=f5;refine⟨d_ B D,vw M,S,ok.fr,ok.view,?_⟩;unfold gm at e;split at e
 .rename_i d β1 t
  refine⟨.ok d,β1,t,λy m A s=>?_⟩;obtain⟨b,i⟩:=ok.to Z A;obtain⟨v,cb,F⟩:=b.tell 0 _ L;have hv:=F;subst hv;refine⟨_,cb,x,C,l,_,Z,i.kp x _ W<|.inr G,c,n,?_,?_⟩
  .rw[XB];lia
  obtain⟨I,s2⟩:=b.upd0 (o:= .ins C l<|eJ f y<|w.zip g) G;have j:Tr _ m (d_ B D) (upd m x<|.ins C l<|eJ f y<|w.zip g):=⟨λ_ h _=>h,λa u ha e=>by
   rw[bt]
   .exact e
   .intro z;subst z;exact ha (by show B a≠Y;rw[G];simp),Z⟩
  refine⟨B,D,M,β1,x,l,g++[y],p++[d],r,q,I,L,G,by rw[aw,vL N ek],by simp[N],bb.append (bb.tr j _ _<|bb.tr i.tr _ _ V)<|bb.cons (b5.tr j _ _ s) bb.nil,e,?_⟩;rw[Vi];exact mU.pre (i.x.trans s2) k
 .rename_i Ce β1 t
  cases e;refine⟨.error Ce,_,t,λm A=>?_⟩;obtain⟨b,i⟩:=ok.to Z A;exact k T B m i.x b.fr
 .cases e
end
open Classical in
def nK(m:Nat)(a:IP):a0c->M a0c:=λw D=>if h:∃r,∀x,a (ll m<|.adr x::w) [] D=U r then U h.choose else Y
theorem yw(h:∀x,a (ll m<|.adr x::b) [] β=U r):nK m a b β=U r:=by
 have w:∃r,∀x,a (ll m<|.adr x::b) [] β=U r:=⟨r,h⟩;unfold nK;rw[dif_pos w];have:=w.choose_spec 0;rw[h 0]at this;exact this.symm
theorem JS(h:nK m a b c=U r):∀x,a (ll m<|.adr x::b) [] c=U r:=by
 unfold nK at h;split at h
 .rename_i hx
  have:=hx.choose_spec;cases h;exact this
 .cases h
section
variable{P:UT}{w:UY}{K:UA}{mg:a0j}{aa:Vl}
theorem AN{st:Va}{N ps G:a0i}(n m:Nat)(ip:IP)(F:g8 K x qual st f fd)(S:bi N ps<|ag st)(ek:ps.length=n+1)(R:N.length=m)
  (p:∀(i:Uc) (A:Vn) (D:List Env) (s:Uj) (H:Hp) (E:XK),d4 k (A.deeper<|Yw qual (ag st) s.heap.objs.size f i)->
   PSs (f9 (hO P w) P w K mg aa N qual (ag st) f i A D s H E) (cK st) (tI K H C [] G ip (λ_=>E))):e_ P w K mg aa (hO P w) (k+1) f fd ps (spI K C G n<|nK m ip):=by
 subst R;refine F.okE S (λvs H Q E h=>?_) λi A D s H vs Q E hr h=>?_
 .obtain⟨y,M,j,ds,β,dx,rfl,hl,_⟩:=h
  rw[Ur,hl,ek]
 obtain⟨y,M,j,ds,β,dx,rfl,hl,fr,T,nb,hH,hd,r,d,e,h⟩:=h;refine⟨_,p i A D s H E hr,?_⟩;obtain⟨B,ok,L,h1,hn⟩:=sy fr (bb.cons Z hd:bb K j H (.adr y::ds) _);have hy:B y=U 0:=by
  obtain z|z:=L y T
  .exact z
  .obtain⟨b,l,q,w⟩:=h1 y z
   obtain⟨W,X⟩:=nb b l q;obtain w|w:=w
   .exact UG w W
   .exact UG w X
 have v:∀{u:Ow} {g:Hp} {d:Bg},p_ y B H u g->Fr (d_ u _) g d->ToX j y H g d/\Tr (d_ u _) g j g:=λ{u g d} s c=>by
  have hs:∀a,j.A a->u a≠Y:=λa V=>by
   rw[s.tg a<|L a V];rcases L a V with z|z<;>rw[z]<;>simp
  refine⟨⟨λa o ne V n=>s.kp a o ne V ?_,λa V=>c.occ a<|hs a V,λb l e=>fr.bgA b l e,c.bag⟩,λa V _ z=>V<|hs a z,λ_ _ _ h=>h,Z⟩;cases q:B a with
  |none=>exact .inl Z
  |some t=>
   have:=L a (hn a<|by rw[q];simp);obtain z|z:=this
   .rw[q]at z;exact .inr z
   .obtain⟨b,l,e,w⟩:=h1 a z
    obtain⟨W,X⟩:=n b l e;obtain w|w:=w
    .exact UG w W
    .exact UG w X
 refine⟨B,j.bg,ll _<|.adr y::ds,β,y,dx,[],[],r,d,ok,Z,hy,hH,Z,bb.nil,JS e y,?_⟩;cases r with
 |ok es=>
  intro cb u g vs s c f5 I J;obtain⟨t1,t2⟩:=v s c;exact h g vs t1 f5 I<|bb.tr t2 _ _ J
 |error Ce=>
  exact λcb u g s c=>h g (v s c).1
variable{X:Cx}{E:a0u}{d:Va}
variable{h:G}{b:Ds}{c a:Bg}{Q:a0z}{i:Nat}{f:FD}
end
section
variable{C u:T8}{m:U3}{e:a0i}{l:a0c->M D}{q:a0c->M a0c}{n:FD}{g t:FL}{o k as s:a0c}{p:List (Sr D)}{δ:Dn}{β β1 β2 b:Bg}{r:Except T8 D×Bg}{d:D}{f:U3}{h:G}{Q:a0z}{i:Nat}{a:Ds}
theorem dF{d:Type}{l:a0c->M d}{r:Except T8 d×Bg}(a:n δ β=U (.ok<|.obj C e k,β1))(b:g δ β1=U (.ok as,β2))(c:l (.obj C e k::(as++o)) β2=U r)(f:autoParam (m∉e) qX):iN C m l n g o δ β=U r:=by
 unfold iN;rw[M.bind_ok a];simp only[f,not_false_eq_true,and_self,Vm];rw[M.bind_ok b];exact c
theorem bx(a:x δ β=U (.ok<|.obj C e k,β1))(b:(e.zip k).lookup f=U d):f1 (nR C f) x δ β=U (.ok d,β1):=by
 apply x_1 a;unfold nR;simp only;exact b
theorem Pa{fl:FL}(e:fl (vw a) β=U (.ok ds,β1))(k:Gw h (a.set i<|U<|.own ds) β1 Q):Gw (aM (wV i fl) h) a β Q:=dM (by unfold wV;rw[e]) k
theorem pE{g:G}{δ δ1:Ds}{r:Except T8 a0c×Bg}(e:g δ β=U (.nx δ1,β1))(a:δ[0]?=U (U<|.sh<|.adr x))(b:δ1[0]?=U (U<|.sh<|.adr x))(k:c δ1 done β1=U r):jE g c δ done β=U r:=by
 unfold jE;simp only[e,a,b];exact k
theorem ii{f:FD}{δ:Ds}{d:D}{r:Except T8 a0c×Bg}(e:f (vw δ) β=U (.ok d,β1))(k:c δ (done++[d]) β1=U r):gm f c δ done β=U r:=by
 unfold gm;rw[e];exact k
noncomputable def B3{a:Type}(d:a)(c:Nat)(ba:List<|List a):List (List a):=(Ue c).map λj=>ba.map λb=>b.getD j d
abbrev tp(c:Nat)(ba:LI):LI:=B3 0 c ba
theorem uw{b:Type}{d:b}{r c:Nat}{e:List (List b)}(h:e.length=r):ko c r (B3 d c e):=⟨by simp[B3],λf a=>by
 obtain⟨j,_,rfl⟩:=T7.mp a;rw[TX,h]⟩
theorem Pf{b:Type}{d:b}{e:List (List b)}(h:j<c):(B3 d c e)[j]?=U (e.map λa=>a.getD j d):=by
 unfold B3;rw[T9,U8 h];rfl
theorem CQ{d:Int}:∀(a:a0e),(Ue a.length).map (λj=>a.getD j d)=a:=λa=>by
 refine List.ext_getElem? λi=>?_;rw[T9];by_cases h:i<a.length
 .rw[U8 h]
  show U (a.getD i d)=_;rw[T6,Ua h];rfl
 .rw[YK (by simpa using h),YK rk];rfl
theorem uz{a:Type}(f g:a->Int):∀l:List a,(l.map λx=>f x+g x).sum=(l.map f).sum+(l.map g).sum
 |[]=>by rfl
 |x::l=>by
  simp only[Ul,UI,uz f g l];lia
theorem rj{a:Type}:∀l:List a,(l.map λ_=>(0:Int)).sum=0
 |[]=>rfl
 |x::l=>by simp only[Ul,UI,rj l];rfl
theorem FX:∀{ba:LI},(∀row∈ba,row.length=c)->tot (tp c ba)=tot ba
 |[],_=>by
  show((B3 0 c []).map VT).sum=0;unfold B3;rw[Ub];exact rj<|Ue c
 |row::ba,h=>by
  have b:=FX λx d=>h x<|T3 _ d;have a:=h _ Ud;unfold tot tp B3 at b⊢;rw[Ub]at b⊢;have e:(λj=>(VT<|(row::ba).map λrow=>row.getD j 0))=λj=>row.getD j 0+(ba.map λrow=>row.getD j 0).sum:=by
   funext j;rw[Ul,UI]
  show((Ue c).map λj=>(VT<|(row::ba).map λrow=>row.getD j 0)).sum=_;rw[e,uz,<-a,CQ,a,Ul,UI];congr 1
theorem MR(h:∀row∈ba,∀x∈row,0<=x):∀row∈tp c ba,∀x∈row,0<=x:=λrow a x d=>by
 obtain⟨j,_,rfl⟩:=T7.mp a;obtain⟨q,b,rfl⟩:=T7.mp d;rw[T6];cases e:q[j]? with
 |none=>exact Int.le_refl 0
 |some y=>exact h q b y<|Uo e
end
end L2.Pu
namespace L2.Pu
def jr(ns:a0e):Int:=ns.foldl W0<|ns.headD 0
theorem n_:∀(w:a0e) (z:Int),w.foldl W0 z<=z/\(∀a∈w,w.foldl W0 z<=a)/\(w.foldl W0 z=z\/w.foldl W0 z∈w)
 |[],z=>⟨Int.le_refl _,λ_ h=>(by cases h),.inl Z⟩
 |x::w,z=>by
  obtain⟨c,b,h3⟩:=n_ w<|W0 z x;show w.foldl W0 _<=z/\_/\(w.foldl W0 _=z\/_);refine⟨by grind,λa ha=>?_,?_⟩
  .obtain rfl|ha:=Uq.mp ha
   .show w.foldl W0 _<=a
    grind
   .exact b a ha
  .obtain h3|h3:=h3
   .by_cases q:z<=x
    .exact .inl rk
    .exact .inr (by rw[Uq];left;grind)
   .exact .inr (T3 _ h3)
theorem yc(h:ns≠[]):jr ns∈ns:=by
 cases ns with
 |nil=>exact UG Z h
 |cons x ns=>
  obtain h|h:=(n_ _ x).2.2
  .unfold jr
   show(x::ns).foldl W0 x∈_;rw[h];exact Ud
  .exact h
theorem z7(h:a∈ns):jr ns<=a:=(n_ ns _).2.1 a h
theorem QK(b:m∈ns)(c:∀a∈ns,m<=a):m=jr ns:=by
 have:=c _ (yc λz=>by rw[z]at b;cases b);have:=z7 b;lia
section
variable{X:Cx}
theorem yW{w:Array (Int×Tok)}(E:0<w.size)(e:w.toList.map (·.1)=ns):numAt w (argBest (λi j=>decide (numAt w i<numAt w j))<|w.size-1)=jr ns:=by
 obtain⟨d,b⟩:=argBest_lt (numAt w)<|w.size-1;refine QK ?_ λa D=>?_
 .rw[numAt_eq,e];exact getD_mem (by rw[<-e,TX,UO];omega)
 .obtain⟨j,c,rfl⟩:=mem_getD D
  rw[<-e,TX,UO]at c;rw[<-e,<-numAt_eq];exact b j rk
variable{p:UT}{w:UY}{A:Vn}{E:a0f}{s:Uj}{l:T8}{xs:Array (Int×Tok)}
theorem LH(g:A.handled=Y)(c:s.heap.IsTuple l<|Yj xs)(d:0<xs.size)
  (h:∀v D f,(Yj xs)[argBest (λi j=>decide (numAt xs i<numAt xs j))<|xs.size-1]?=U v->(∀b o,s.heap.get? b=U o->D.get? b=U o)->Q v {s with heap:=D,toks:=f}):
  Us (UP p w) A (call (.builtin "min") [.ref l]) Q E s:=by
 have a:l<s.heap.objs.size:=by obtain⟨_,e,_⟩:=c;exact UJ e
 refine call_min_walk<|ZR c ⟨_,_,_,_,_,_,_,Z,Walks.tuple (A:=A.in1) g _ l (U7 a)<|Yj xs,⟨⟨_,Ut _ Z,Z,Z⟩,c.at λo e=>T1 _ e⟩,λb hb=>?_,by simpa[Yj]using d,CmpOf.ints_lt _ (λ_ _=>intItems_at),λv D f k m=>?_⟩
 .show b<(s.heap.push _).objs.size
  rw[VX];obtain rfl|hb:=Uq.mp hb
  .exact Yd _
  .obtain rfl|hb:=Uq.mp hb
   .exact Xc a
   .cases hb
 .exact h v D f (by simpa[Yj]using k) λb o e=>m b o (λhm=>by
   obtain n|hm:=Uq.mp hm
   .exact UG (n▸UJ e) (Vq _)
   .cases hm)<|T1 _ e
variable{K:UA}
abbrev M1(K:UA):a0k->Hp->VK->Prop:=λxs H Q=>∃(p:T8) (l:a0e),xs=[.ref p]/\(fy K H p (l.map V.int)\/i0 K H p (l.map V.int))/\l≠[]/\Q (.int<|jr l) H
theorem wa(f:X.calm=O):cN X (.builtin "min") (M1 X.K):=by
 intro g s y H xs M Q I r h;obtain⟨p,w,rfl,hq,c,q⟩:=h;obtain⟨u,rfl,k⟩:=gG r;cases k;have E:∀{l:a0g},aE (w.map _) l->∃xs:Array<|Int×Tok,l.toArray=Yj xs/\xs.toList.map _=w/\0<xs.size:=λ{l} b=>by
  have i:=jF b;obtain⟨xs,A⟩:=i.allInts.items;have a:=i.numsOf;have m:l=(Yj xs).toList:=by rw[<-A]
  rw[m,nums_intItems]at a;refine⟨xs,A,a,?_⟩;have:(xs.toList.map (·.1)).length=w.length:=by rw[a]
  rw[TX,UO]at this;cases w with
  |nil=>exact UG Z c
  |cons=>rw[this];exact Nat.succ_pos _
 obtain hq|hq:=hq
 .obtain⟨l,b,pl,n⟩:=I.list hq
  obtain⟨xs,A,a,D⟩:=E b;have j:=pl.isList;rw[A]at j;refine min_intList (I.ok.hd f) j D λv G o d e=>?_;obtain⟨t,rfl⟩:=intItems_at d;rw[yW D a];exact⟨.int<|jr w,H,I.kept e,⟨_,Z⟩,q⟩
 .obtain⟨l,b,pl,n⟩:=I.tuple hq
  obtain⟨xs,A,a,D⟩:=E b;rw[A]at pl;refine LH (I.ok.hd f) pl D λv G o d e=>?_;obtain⟨t,rfl⟩:=intItems_at d;rw[yW D a];exact⟨.int<|jr w,H,I.kept e,⟨_,Z⟩,q⟩
def tF:Option a0e->a0l
 |some (n::ns)=>U<|.int<|jr<|n::ns
 |_=>Y
def wO:a0c->a0l
 |[.lst xs]=>tF<|cS xs
 |[.tup xs]=>tF<|cS xs
 |_=>Y
theorem vP(e:tF o=U d):∃l,o=U l/\l≠[]/\d= .int (jr l):=by
 match o,e with
 |some (n::l),e=>cases e;exact⟨_,Z,(λz=>by cases z),Z⟩
theorem JE:dh K (M1 K) wO:=λF H s Q w d A fr h e k=>by
 unfold wO at e;split at e
 .rename_i xs
  obtain⟨l,q,b,rfl⟩:=vP e;obtain⟨v,rfl,g⟩:=bb.one h;obtain⟨a,p,rfl,r,c⟩:=b5.sqL g;rw[gt q]at c;have f:=bb.ints l c;subst f;exact⟨a,l,Z,.inl r,b,k _ H (To.refl fr) Z⟩
 .rename_i xs
  obtain⟨l,q,b,rfl⟩:=vP e;obtain⟨v,rfl,g⟩:=bb.one h;obtain⟨a,p,rfl,r,c⟩:=b5.sqT g;rw[gt q]at c;have f:=bb.ints l c;subst f;exact⟨a,l,Z,.inr r,b,k _ H (To.refl fr) Z⟩
 .cases e
end
end L2.Pu
namespace L2
end L2
namespace L2.Pu
section
variable{X:Cx}{E:a0u}{K:UA}{e l c:Expr}{d:List Expr}{b:a0T}{a:Scope}{pos:Xp}{m j:a0i}{k:a0a}{g:TG}{i:a0Y}
variable{f:Va}{a:Hp}{B:Ow}{g:a0t}{H h:Hp}{d:Ds}{e b:Bg}{c:St}
theorem lU1{us:a0g}(h:us.length=1):∃a,us=[a]:=List.length_eq_one_iff.mp h
theorem lU2{us:a0g}(h:us.length=2):∃c d,us=[c,d]:=by
 obtain⟨a,l,rfl⟩:=WF h;obtain⟨b,rfl⟩:=lU1 (by simpa using h);exact⟨_,_,Z⟩
theorem lU3{us:a0g}(h:us.length=3):∃d e f,us=[d,e,f]:=by
 obtain⟨a,l,rfl⟩:=WF h;obtain⟨b,c,rfl⟩:=lU2 (by simpa using h);exact⟨_,_,_,Z⟩
theorem lU4{us:a0g}(h:us.length=4):∃e f g i,us=[e,f,g,i]:=by
 obtain⟨a,l,rfl⟩:=WF h;obtain⟨b,c,d,rfl⟩:=lU3 (by simpa using h);exact⟨_,_,_,_,Z⟩
theorem lU5{us:a0g}(h:us.length=5):∃f g i j k,us=[f,g,i,j,k]:=by
 obtain⟨a,l,rfl⟩:=WF h;obtain⟨b,c,d,e,rfl⟩:=lU4 (by simpa using h);exact⟨_,_,_,_,_,Z⟩
end
section
variable{X:Cx}{E:a0u}{e t o y z h:Expr}{q:List Expr}{pos p:Xp}{f1 f2 B I d:FD}{g:FL}{k j n:Nat}{f:T8}{v:Uw}{u:a0i}{x:U3}{a:a0c->a0l}{r:a0J}{c T:String}
theorem vv(i:Nat){x:U3}(b:autoParam (X.N[i]?=U x) qQ)(c:Vis X.env.scope x:=by first|exact Wm Z|exact Xn (Wm Z)|exact Xn (Xn Z))(d:autoParam (b0c x) qX)
  (a:autoParam ((x==("__classdict__":U3))=T4) qX):PE X (.Name x pos) (tV X.K (ac i) E):=RZ i<|pv i b c d a
theorem dc(a:PE X t<|tV X.K f1 E)(b:autoParam (b0a X t []) qQ):PA X [t] (jm X.K (ae f1 ax) E):=bT a dY b
theorem dr(a:PE X t<|tV X.K f1 E)(b:PE X o<|tV X.K f2 E)(c:autoParam (b0a X t [o]) qQ)(d:autoParam (b0a X o []) qQ):PA X [t,o] (jm X.K (ae f1<|ae f2 ax) E):=bT a (dc b d) c
theorem lj(a:PE X t<|tV X.K f1 E)(b:PE X o<|tV X.K f2 E)(c:PE X y<|tV X.K B E)(d:autoParam (b0a X t [o,y]) qQ)(h:autoParam (b0a X o [y]) qQ)(i:autoParam (b0a X y []) qQ):PA X [t,o,y] (jm X.K (ae f1<|ae f2<|ae B ax) E):=bT a (dr b c h i) d
theorem B9(a:PE X t<|tV X.K f1 E)(b:PE X o<|tV X.K f2 E)(c:PE X y<|tV X.K B E)(d:PE X z<|tV X.K I E)(h:autoParam (b0a X t [o,y,z]) qQ)(i:autoParam (b0a X o [y,z]) qQ)(l:autoParam (b0a X y [z]) qQ)(m:autoParam (b0a X z []) qQ):PA X [t,o,y,z] (jm X.K (ae f1<|ae f2<|ae B<|ae I ax) E):=bT a (lj b c d i l m) h
theorem C_(c:Dn)(d:Bg)(r:a0c)(a:Bg)(h:ax c d=U (.ok r,a)):r.length=0:=se h
structure FB (P:UT) (w:UY) (K:UA) (mg:a0j) (base:Vl) (k:Nat) (x:U3) (f:T8) (v:Uw) (u:a0i) (n:Nat) (m:a0c->M D):Prop where
 ok:e_ P w K mg base (hO P w) k f v u (P_ K n m)
 m:mg x=U (.ref f)
 kp:Zx K (.ref f)=O
 b:cz K v u []
theorem vc(G:FB X.prog X.w X.K X.mg X.base j x f v u n m)(h:d4 k X.A)(t:PA X (e::q)<|jm X.K g E)(i:autoParam (j<=k) qX)(y:dL (hO X.prog X.w) X E:=by first|exact cM|exact wL|assumption)(l:autoParam (Gl X x) qQ)
  (z:∀B D r d,g B D=U (.ok r,d)->r.length=n:=by repeat (first|exact C_|apply aZ)) (a:autoParam (b0c x) qX) (o:autoParam (b0a X e q) qQ) (c:autoParam (b0b X pos q) qQ):
  PE X (.Call (.Name x p) (e::q) [] pos) (tV X.K (bN m g) E):=FO G.ok (h.mono i) l G.m G.kp G.b y t z a o c
theorem cT(d:X.mg "len"=Y)(f:PA X (e::q)<|jm X.K g E)(b:autoParam (Gl X "len") qQ)(c:autoParam (b0a X e q) qQ)(a:autoParam (b0b X pos q) qQ):PE X (.Call (.Name "len" p) (e::q) [] pos) (tV X.K (aR fA g) E):=bL pR SU b d PySem.boot_len f vy vy c a
theorem fW(f:X.mg "sum"=Y)(h:PA X (e::q)<|jm X.K g E)(b:autoParam (Gl X "sum") qQ)(c:autoParam (X.calm=O) qQ)(d:autoParam (b0a X e q) qQ)(a:autoParam (b0b X pos q) qQ):PE X (.Call (.Name "sum" p) (e::q) [] pos) (tV X.K (aR gH g) E):=bL (v8 c) QS b f Boot.«sum» h vy vy d a
theorem oG(d:X.mg "isinstance"=Y)(f:PA X (e::q)<|jm X.K g E)(b:autoParam (Gl X "isinstance") qQ)(c:autoParam (b0a X e q) qQ)(a:autoParam (b0b X pos q) qQ):PE X (.Call (.Name "isinstance" p) (e::q) [] pos) (tV X.K (aR kr g) E):=bL Ko SV b d Boot.«isinstance» f vy vy c a
theorem hU{c:Scope}(a e:a0i)(d:a0a)(k:autoParam (c.kind= .function) qQ)(f:autoParam ((c.names.map (·.1)).Nodup) jx)
  (fr:autoParam ((c.names.all λy=>y.2 != .free||(X.env.scope.names.lookup y.1==U .cell||X.env.scope.names.lookup y.1==U .free))=O) qQ) (g:autoParam (a=e++d.map (λj=>X.N.getD j Yg)) qQ)
  (b:autoParam ((d.all λj=>decide (j<X.N.length)&&c.names.lookup (X.N.getD j Yg)==U .free)=O) qQ):c_ X c a e d:=c_.ofB k f fr g b
theorem eP{a:a0i}(h:autoParam a.Nodup jx):(aT X a b cl C i s H).N.Nodup:=h
theorem dk(i:Nat){x:U3}(a:X.N.Nodup)(b:autoParam (X.N[i]?=U x) qQ)(d:autoParam (Iv X.env.scope x) ju)(c:autoParam (b0d X x) xy):PG X (.Name x pos) (d7 i):=zR a b d c
theorem d5(i:Nat){x:U3}{e:Expr}{pos a:Xp}(b:X.N.Nodup)(c:PE X e l)(d:autoParam (X.N[i]?=U x) qQ)(f:autoParam (Iv X.env.scope x) ju)(g:autoParam (Zc e (U (.Name x a)) pos.line X.env=Wo T4) qQ)(h:autoParam (b0d X x) xy):PS X (.Assign [.Name x a] e pos) (gr l (d7 i)):=tj b d f c g h
theorem lv{Q:a0g->Prop}(h:∀a,Q [a])(us:a0g)(b:us.length=1):Q us:=by obtain⟨_,rfl⟩:=lU1 b;exact h _
theorem s9{Q:a0g->Prop}(h:∀a b,Q [a,b])(us:a0g)(c:us.length=2):Q us:=by obtain⟨_,_,rfl⟩:=lU2 c;exact h _ _
theorem na{Q:a0g->Prop}(h:∀a b c,Q [a,b,c])(us:a0g)(d:us.length=3):Q us:=by obtain⟨_,_,_,rfl⟩:=lU3 d;exact h _ _ _
theorem bA4{Q:a0g->Prop}(h:∀a b c d,Q [a,b,c,d])(us:a0g)(i:us.length=4):Q us:=by obtain⟨_,_,_,_,rfl⟩:=lU4 i;exact h _ _ _ _
theorem ej{N Q:a0i}{c:Scope}(a:autoParam (c.kind= .function) qQ)(b:autoParam (c.isCoroutine=T4) qQ)(g:autoParam (c.isGenerator=T4) qQ)(d:autoParam N.Nodup jx)(e:autoParam (N.take Q.length=Q) qQ)(f:autoParam (∀x∈Q,c.names.lookup x=U .local\/c.names.lookup x=U .cell) jx)(h:autoParam (∀y∈c.names,y.2≠ .free) jx):bi N Q c:=⟨a,b,g,d,e,f,h⟩
structure f0 (K:UA) (mg:a0j) (x:U3) (st:Va) (f:T8) (v:Uw) (u:a0i):Prop where
 F:g8 K x x st f v
 m:mg x=U (.ref f)
 b:cz K v u []
theorem f_{P:UT}{w:UY}{K:UA}{mg:a0j}{base:Vl}{x:U3}{e:Va}{f:T8}{v:Uw}{N u:a0i}{k n:Nat}{g:G}(m:Nat)(F:f0 K mg x e f v u)(S:bi N u<|ag e)(a:∀(c:Uc) (A:Vn) (d:List Env) (s:Uj) (H:Hp) (E:XK),d4 k (A.deeper<|Yw x (ag e) s.heap.objs.size f c)->PSs (f9 (hO P w) P w K mg base N x (ag e) f c A d s H E) (cK e) (tG K H g (λ_=>E)))(h:autoParam (u.length=n) qQ)(j:autoParam (N.length=m) qQ):FB P w K mg base (k+1) x f v u n (fV m g):=⟨gU n m g F.F S h j a,F.m,F.F.kp,F.b⟩
end
end L2.Pu
namespace L2
section
variable{a:UT}{w:UY}{A:Vn}{E:a0f}{s:Uj}{K:UA}
variable{X:Cx}
end
namespace Pu
section
variable{X:Cx}{E:a0u}
end
end Pu
end L2
namespace L2.Pu
section
variable{X:Cx}{E:a0u}{a b:Expr}{pos:Xp}{k:Nat}{f C:T8}{l:Uw}{ps:a0i}{K:UA}
structure IsC (K:UA) (C:T8):Prop where
 cl:u_ K C
 ha:Xv K (.ref C) "__class__"=U (U<|.builtin "object.__class__")
 hn:specialIn K (.builtin "object.__class__") "__get__"=U (U<|.builtin "getset_descriptor.__get__")
 htk:PySem.W.takesIn K (.builtin "object.__class__")=U O
 hm:PySem.W.mroIn K C (.type "object")=U O
theorem R6{r c:Nat}{a:LI}(b:ko r c a):tp r (tp c a)=a:=by
 obtain⟨e,g⟩:=b;refine Wj (by simp[B3,e]) λi n d=>?_;have h:=g _<|Vj d;refine Wj (by simp[B3,h]) λj o l=>?_;have m:j<c:=by lia
 simp[B3,d,l]
theorem lst2:ft [x,y]=U (.lst [x,y]):=by
 unfold ft;rw[Uf (show[x,y].length<=UC by rw[Ur,Vf];decide)]
variable{k f e b:Xp}
noncomputable def S(n:Nat)(f:a0P):Int:=((Ue n).map f).sum
theorem RO(f:a0P):S 0 f=0:=Z
theorem im(n:Nat)(f:a0P):S (n+1) f=S n f+f n:=by
 unfold S;rw[WJ,UK,XD];simp
theorem eW{f g:a0P}(h:∀i<n,f i=g i):S n f=S n g:=by
 unfold S;rw[UH λi c=>h i<|UD.mp c]
theorem wY(n:Nat)(f g:a0P):S n (λi=>f i+g i)=S n f+S n g:=uz f g _
theorem pX(n:Nat):S n (λ_=>0)=0:=rj _
theorem TW(n:Nat)(f:a0P):S n (λi=>-f i)=-S n f:=by
 induction n with
 |zero=>rfl
 |succ n a=>rw[im,im,a];lia
theorem KC(n m:Nat)(h:Nat->Nat->Int):S n (λi=>S m (λj=>h i j))=S m (λj=>S n (λi=>h i j)):=by
 induction n with
 |zero=>rw[RO];exact(pX m).symm
 |succ n a=>
  rw[im,a,<-wY];exact eW λj _=>(im n _).symm
theorem rm{g:a0P}:∀{l L:a0a},l.Sublist L->L.Nodup->(l.map g).sum=(L.map λx=>if x∈l then g x else 0).sum
 |_,_,.slnil,_=>rfl
 |l,_,.cons a h,nd=>by
  have c:=(Vs.mp nd);rw[Ul,UI,Uh (λz=>c.1<|h.subset z),rm h c.2,YE]
 |_,_,.cons₂ a (l₁:=l) h,nd=>by
  have c:=(Vs.mp nd);rw[Ul,Ul,UI,UI,Uf Ud,rm h c.2];congr 2;refine UH λx e=>?_;by_cases q:x∈l
  .rw[Uf q,Uf<|T3 _ q]
  .rw[Uh q,Uh λz=>(Uq.mp z).elim (λz=>c.1<|z▸e:x≠a) q]
theorem qi{l:a0a}(h:l.Sublist<|Ue n):(l.map g).sum=S n λx=>if x∈l then g x else 0:=rm h List.nodup_range
theorem AO{p:Nat->Bool}{g:a0P}:∀l:a0a,((l.filter p).map g).sum=(l.map λx=>if p x=O then g x else 0).sum
 |[]=>rfl
 |x::l=>by
  rw[X6,Ul,UI,<-AO l];by_cases q:p x=O
  .rw[Uf q,Uf q,Ul,UI]
  .rw[Uh q,Uh q,YE]
noncomputable abbrev nI(l:a0a):a0e:=l.map λ(i:Nat)=>(i:Int)
noncomputable abbrev nL(l:a0a):D:= .lst<|(nI l).map D.int
theorem AG:∀a:a0e,inB (.int i) (a.map D.int)=decide (i∈a)
 |[]=>rfl
 |x::a=>by
  have b:=AG (i:=i) a;unfold inB at b⊢;rw[Ul,YW,b];show(decide _||_)=_;rw[Z4];simp only[Bool.or_eq_true,UZ,Uq];constructor
  .rintro(h|h)
   .exact .inl h.symm
   .exact .inr h
  .rintro(h|h)
   .exact .inl h.symm
   .exact .inr h
theorem vW:∀a:a0e,(a.map D.int).all gq=O
 |[]=>rfl
 |_::a=>vW a
theorem Ri{b:a0e}{a:Bool}:y3 a (.int i) (.lst<|b.map D.int)=U (.bl (if a then !decide (i∈b)else decide (i∈b))):=by
 show(if(gq _&&(b.map _).all gq)=O then _ else _)=_;rw[vW,Bool.and_true,Uf (show gq _=O from Z),AG]
theorem QH{i:Nat}{l:a0a}:((i:Int)∈nI l)↔i∈l:=by
 constructor
 .intro h
  obtain⟨j,c,e⟩:=T7.mp h;exact(Int.ofNat.inj e)▸c
 .intro h
  exact T7.mpr ⟨i,h,Z⟩
theorem yx{i:Nat}{l:a0a}{a:Bool}:y3 a (.int (i:Int)) (nL l)=U (.bl (if a then !decide (i∈l)else decide (i∈l))):=by
 rw[Ri];simp only[QH]
theorem gb{k:Type}{f:FD}(b:List k)(u v:k->D)(p:k->Bool)(g:it δ β=U (.ok<|b.map u,β))
  (i:∀x∈b,∃a,tg (u x) (lg nv b4 δ)=U a/\tt a β=U (.ok<|p x,β)/\(p x=O->f a β=U (.ok<|v x,β))) (j:b.length<=UC):cE nv b4 it tg tt (j_ f) δ β=U (.ok<|.lst<|(b.filter p).map v,β):=by
 refine u6 g ?_ (by rw[TX];exact Um (XH _ _) j);have w:∀b:List k,(∀x∈b,∃a,tg (u x) (lg nv b4 δ)=U a/\tt a β=U (.ok<|p x,β)/\(p x=O->f a β=U (.ok<|v x,β)))->ot tg tt (j_ f) (b.map u) (lg nv b4 δ) β=U (.ok<|(b.filter p).map v,β):=by
  intro b
  induction b with
  |nil=>intro _;rfl
  |cons x b C=>
   intro h;obtain⟨a,d,c,l⟩:=h x Ud;have e:=C λy E=>h y<|T3 _ E;rw[Ul,ot,X6];cases q:p x with
   |true=>
    rw[q]at c;simp only[d,M.bind,M.ret,c,j_,l q,e,Uf,Ul,Wh,VY]
   |false=>
    rw[q]at c;simp only[d,M.bind,M.ret,c,e,Uz,Vc,VY]
 exact w b i
theorem q9:∀(n:Nat) (a:a0c),cZ n a=(Ue a.length).map λ(i:Nat)=>D.tup [.int ((n+i:Nat):Int),a.getD i .non]
 |n,[]=>rfl
 |n,x::a=>by
  rw[cZ,q9 _ a,Ur,List.range_succ_eq_map,Ul,Ub];congr 1;refine UH λi _=>?_;rw[show n+1+i=n+(i+1) by lia];rfl
noncomputable abbrev bI(b:LP)(i j:Nat):Int×Int:=(b.getD i []).getD j (0,0)
theorem ko.getD{α:Type}{m:List (List α)}(h:ko r c m)(d:i<r):m[i]?=U (m.getD i [])/\(m.getD i []).length=c:=by
 obtain⟨a,e,l⟩:=h.at d;have:m.getD i []=a:=by rw[T6,e];rfl
 rw[this];exact⟨e,l⟩
theorem qK{a:Type}{l:List a}{i:Nat}{d:a}(h:i<l.length):l[i]?=U (l.getD i d):=by
 rw[T6,Ua h];rfl
theorem Nm{a:a0e}(h:i<a.length):gs (.lst<|a.map D.int) (.int (i:Int))=U (.int<|a.getD i 0):=cw (by rw[T9,qK h];rfl)
theorem yp{b:LP}(a:ko r c b)(g:i<r)(h:j<c):gs (eA b) (.int (i:Int))=U (.lst<|(b.getD i []).map pD)/\gs (.lst<|(b.getD i []).map pD) (.int (j:Int))=U (pD<|bI b i j):=by
 obtain⟨e,l⟩:=a.getD g;refine⟨tR (by rw[T9,e];rfl),cw ?_⟩;rw[T9,qK rk];rfl
noncomputable def tE(a:a0e)(c:a0a):Int:=(c.map λi=>a.getD i 0).sum
def gn(a:a0e)(b:LP)(r:Nat)(c:a0a)(j:Nat):Int:=a.getD j 0-S r λi=>if i∈c then 0 else(bI b i j).1
def gZ(b:LP)(c:a0a)(j:Nat):Int:=(c.map λi=>(bI b i j).2).sum
def wF(a:a0e)(b:LP)(r c:Nat)(d e:a0a):Int:=S c λj=>if j∈e then gn a b r d j else gZ b d j
def hF(b:LP)(c d:a0a)(i j:Nat):Int:=(if i∈c/\j∉d then(bI b i j).2 else 0)-(if i∉c/\j∈d then(bI b i j).1 else 0)
theorem N4{b:LP}{d e:a0a}(h:d.Sublist<|Ue r)(g:e.Sublist<|Ue c):
  wF cs b r c d e=tE cs e+S r λi=>S c λj=>hF b d e i j:=by
 unfold tE;rw[qi g,KC,<-wY];refine eW λj l=>?_;by_cases q:j∈e
 .rw[Uf q,Uf q]
  unfold gn;rw[Int.sub_eq_add_neg,<-TW];congr 1;refine eW λi g=>?_;unfold hF;by_cases z:i∈d
  .simp[q]
  .simp[q]
 .rw[Uh q,Uh q,YE]
  unfold gZ;rw[qi h];refine eW λi g=>?_;unfold hF;by_cases z:i∈d
  .simp[q]
  .simp[q]
end
end L2.Pu
namespace L2.Pu
section
variable{X:Cx}{K:UA}
variable{E:a0u}{o e:Expr}{d b:Xp}
def iK(ns:a0e):Int:=ns.foldl max<|ns.headD 0
theorem lp:∀(d:a0e) (z:Int),z<=d.foldl max z/\(∀a∈d,a<=d.foldl max z)/\(d.foldl max z=z\/d.foldl max z∈d)
 |[],z=>⟨Int.le_refl _,λ_ h=>(by cases h),.inl Z⟩
 |x::d,z=>by
  obtain⟨c,b,h3⟩:=lp d<|max z x;show z<=d.foldl _ _/\_/\(d.foldl _ _=z\/_);refine⟨by grind,λa ha=>?_,?_⟩
  .obtain rfl|ha:=Uq.mp ha
   .show a<=d.foldl _ _
    grind
   .exact b a ha
  .obtain h3|h3:=h3
   .by_cases q:x<=z
    .exact .inl rk
    .exact .inr (by rw[Uq];left;grind)
   .exact .inr (T3 _ h3)
theorem vT(h:ns≠[]):iK ns∈ns:=by
 cases ns with
 |nil=>exact UG Z h
 |cons x ns=>
  obtain h|h:=(lp _ x).2.2
  .unfold iK
   show(x::ns).foldl _ x∈_;rw[h];exact Ud
  .exact h
theorem yz(h:a∈ns):a<=iK ns:=(lp ns _).2.1 a h
theorem OR(b:m∈ns)(c:∀a∈ns,a<=m):m=iK ns:=by
 have:=c _ (vT λz=>by rw[z]at b;cases b);have:=yz b;lia
theorem Kw{o:Array (Int×Tok)}(D:0<o.size)(e:o.toList.map (·.1)=ns):numAt o (argBest (λi j=>decide (numAt o i>numAt o j))<|o.size-1)=iK ns:=by
 obtain⟨d,b⟩:=argBest_gt (numAt o)<|o.size-1;refine OR ?_ λa w=>?_
 .rw[numAt_eq,e];exact getD_mem (by rw[<-e,TX,UO];omega)
 .obtain⟨j,c,rfl⟩:=mem_getD w
  rw[<-e,TX,UO]at c;rw[<-e,<-numAt_eq];exact b j rk
abbrev M2(K:UA):a0k->Hp->VK->Prop:=λd H Q=>∃(p:T8) (b:a0e),d=[.ref p]/\fy K H p (b.map V.int)/\b≠[]/\Q (.int<|iK b) H
theorem wb(g:X.calm=O):cN X (.builtin "max") (M2 X.K):=by
 intro c s y H e M Q I r h;obtain⟨p,o,rfl,i,a,q⟩:=h;obtain⟨u,rfl,j⟩:=gG r;cases j;obtain⟨w,k,G,A⟩:=I.list i;have d:=jF k;obtain⟨e,D⟩:=d.allInts.items;have b:=d.numsOf;have l:w=(Yj e).toList:=by rw[<-D]
 rw[l,nums_intItems]at b;have E:0<e.size:=by
  have:(e.toList.map (·.1)).length=o.length:=by rw[b]
  rw[TX,UO]at this;cases o with
  |nil=>exact UG Z a
  |cons=>rw[this];exact Nat.succ_pos _
 have f:=G.isList;rw[D]at f;refine max_intList (I.ok.hd g) f E λv P B m n=>?_;obtain⟨t,rfl⟩:=intItems_at m;rw[Kw E b];exact⟨.int<|iK o,H,I.kept n,⟨_,Z⟩,q⟩
def qr:a0c->a0l
 |[.lst xs]=>match cS xs with
  |some (n::ns)=>U<|.int<|iK<|n::ns
  |_=>Y
 |_=>Y
theorem JF:dh K (M2 K) qr:=λF H o Q w d D fr h e k=>by
 unfold qr at e;split at e
 .rename_i xs
  split at e
  .rename_i n ns q
   cases e;obtain⟨v,rfl,g⟩:=bb.one h;obtain⟨a,E,rfl,r,b⟩:=b5.sqL g;rw[gt q]at b;have c:=bb.ints _ b;subst c;exact⟨a,n::ns,Z,r,λz=>(by cases z),k _ H (To.refl fr) Z⟩
  .cases e
 .cases e
end
end L2.Pu
namespace L2.Pu
noncomputable def JY:G:=λ_ _=>Y
theorem dD{w:Va}{K:UA}{E:a0u}:PS X w (tG K H JY E):=λ_ _ _ _ _ _ h=>by
 obtain⟨_,_,_,_,_,_,_,e,_⟩:=h;cases e
section
variable{j:UT}{w:UY}{A:Vn}{E:a0f}{s:Uj}{l:T8}{t:Array (Int×Tok)}
theorem K0(f:A.handled=Y)(c:s.heap.IsTuple l<|Yj t)
  (h:∀D d G,(∀b o,s.heap.get? b=U o->D.get? b=U o)->Q (.int (preSum (numAt t) t.size) G) {s with heap:=D,toks:=d}):
  Us (UP j w) A (call (.builtin "sum") [.ref l]) Q E s:=by
 have a:l<s.heap.objs.size:=by obtain⟨_,e,_⟩:=c;exact UJ e
 refine call_sum_walkG<|ZR c ⟨_,_,_,_,_,_,numAt t,Z,Walks.tuple (A:=A.in1) f _ l (U7 a)<|Yj t,⟨⟨_,Ut _ Z,Z,Z⟩,c.at λo e=>T1 _ e⟩,λb hb=>?_,(λ_ _=>intItems_at),λD d G g=>?_⟩
 .show b<(s.heap.push _).objs.size
  rw[VX];obtain rfl|hb:=Uq.mp hb
  .exact Yd _
  .obtain rfl|hb:=Uq.mp hb
   .exact Xc a
   .cases hb
 .have:=h D d G λb o e=>g b o (λhm=>by
   obtain i|hm:=Uq.mp hm
   .exact UG (i▸UJ e) (Vq _)
   .cases hm)<|T1 _ e
  simpa[Yj]using this
variable{X:Cx}{K:UA}
abbrev MY(K:UA):a0k->Hp->VK->Prop:=λt H Q=>∃(p:T8) (j:a0e),t=[.ref p]/\(fy K H p (j.map V.int)\/i0 K H p (j.map V.int))/\Q (.int j.sum) H
theorem Km(b:X.calm=O):cN X (.builtin "sum") (MY X.K):=by
 intro a s f H t E Q I r h;obtain⟨p,l,rfl,hq|hq,q⟩:=h
 .exact v8 b a s f H _ E Q I r ⟨p,l,Z,hq,q⟩
 .obtain⟨u,rfl,g⟩:=gG r
  cases g;obtain⟨w,i,A,m⟩:=I.tuple hq;have c:=jF i;obtain⟨t,D⟩:=c.allInts.items;have d:=c.numsOf;have j:w=(Yj t).toList:=by rw[<-D]
  rw[j,nums_intItems]at d;rw[D]at A;refine K0 (I.ok.hd b) A λG n M k=>?_;have e:preSum (numAt t) t.size=l.sum:=by rw[preSum_eq,WR nl,d]
  rw[e];exact⟨.int _,H,I.kept k,⟨_,Z⟩,q⟩
def sw:a0c->a0l
 |[.lst t]=>(cS t).map λj=> .int j.sum
 |[.tup t]=>(cS t).map λj=> .int j.sum
 |_=>Y
theorem QR:dh K (MY K) sw:=λF H s Q w d A fr h e k=>by
 unfold sw at e;split at e
 .rename_i t
  obtain⟨j,q,rfl⟩:=ZV.mp e;obtain⟨v,rfl,g⟩:=bb.one h;obtain⟨a,l,rfl,r,b⟩:=b5.sqL g;rw[gt q]at b;have c:=bb.ints j b;subst c;exact⟨a,j,Z,.inl r,k _ H (To.refl fr) Z⟩
 .rename_i t
  obtain⟨j,q,rfl⟩:=ZV.mp e;obtain⟨v,rfl,g⟩:=bb.one h;obtain⟨a,l,rfl,r,b⟩:=b5.sqT g;rw[gt q]at b;have c:=bb.ints j b;subst c;exact⟨a,j,Z,.inr r,k _ H (To.refl fr) Z⟩
 .cases e
end
end L2.Pu
namespace L2.Pu
open L2.Hs
noncomputable def Iti(a:T8)(D n:Nat):It:=
 ⟨λi H=>∃b w,H a=U (cX a b D w)/\w.length=n/\i<n,
  λi H v c=>∃p x,H p=Y/\v= .ref p/\c=upd H p (.tup [.ref x.1,x.2])/\∀b w,H a=U (cX a b D w)->(w[i]?).map (·.2)=U x,
  λi H=>∃b w,H a=U (cX a b D w)/\w.length=n/\i=n⟩
theorem MH:∀{w:a0n} {D:a0B} {i:Nat} {y:eg×T8×Uc},Zs XY w D->D[i]?=U y->∃x,w[i]?=U x/\XY x y
 |_,_,0,_,.cons h t,e=>by cases e;exact⟨_,Z,h⟩
 |_,_,i+1,_,.cons h t,e=>MH (i:=i) t e
 |_,_,0,_,.nil,e=>by cases e
 |_,_,_+1,_,.nil,e=>by cases e
section
variable{X:Cx}{a_:a0d}{σ:St}{H:Hp}{s:Uj}{a:T8}{b:Bool}{ep i:Nat}{xs:a0n}
theorem ud(I:b_ X a_ σ H s)(h:H a=U (cX a b ep xs)):∃(o:Vy) (es:Array W3),s.heap.get? a=U o/\o.data= .dict es ep/\es.size=xs.length/\o.ExactDict/\(a==Zd)=T4/\∀(i:Nat) (e:W3),es[i]?=U e->∃x,xs[i]?=U x/\e.key= .ref x.2.1/\aY x.2.2 e.val:=by
 obtain⟨o,es,w,j,k,l,d,h5,m,t,g⟩:EX a b ep xs _:=(I.hok a _ h).1;have n:w.length=xs.length:=by rw[<-TX,<-lV g,TX]
 refine⟨o,es,j,l,by rw[<-UO,d,TX,n],k,m,λi e c=>?_⟩;rw[<-XE,d,T9]at c;cases q:w[i]? with
 |none=>rw[q]at c;cases c
 |some y=>
  rw[q]at c;cases c;obtain⟨x,D,_,p,r⟩:=MH g q;exact⟨x,D,by rw[p],r⟩
theorem BW{P:UT}{w:UY}{K:UA}{x1}{pos:Xp}(a M:T8)(n ep:Nat):
  p3 P w K (.Tuple elts x1 pos) (Iti a ep n) [M] M (λi h=>∃G d,ZO h M a i n ep G d) where
 mem:=by simp
 obj:=λi h D b c=>by
  obtain⟨G,d,e⟩:=D;cases UM.mp c;exact⟨_,e,λv q=>by cases q⟩
 keep:=λi h S D k=>by
  obtain⟨G,d,e⟩:=D;exact⟨G,d,k M nl _ e⟩
 item:=by
  intro X l m p C i a_ s σ H E I f D r;subst l m p;obtain⟨G,d,e⟩:=D;obtain⟨b,xs,t,T,F⟩:=r;obtain⟨o,es,g,j,cb,h4,h5,W⟩:=ud I t;have V:n=es.size:=by lia
  subst V;have hx:=X4 F;refine DV e g j hx λS ek f5 sz kp=>⟨_,Z,wpAny_letOwnedTupleGo_items ek λA ei J=>?_⟩;obtain⟨x,ex,L,N⟩:=W i _ hx;have eH:=WV<|UJ e;have I2:b_ X a_ σ (upd H _<|.tup [.ref _,x.2.2]) {s with heap:=A,toks:=s.toks}:=
   b_.turnNew I f (λb u c q=>J.extBut b u (λz=>c<|by rw[z];simp)<|kp b u (λz=>c<|by rw[z];simp) q) (Ug _) ⟨by show 2<=UC;decide,[es[i].key,es[i].val],.cons L<|.cons N .nil,_,J.extBut _ _ eH f5,Z,_,Z⟩
  refine⟨.ref _,_,I2,Z,⟨s.heap.objs.size,x.2,I.hok.fresh<|Ug _,Z,Z,λb' aa B=>?_⟩,⟨_,_,ei⟩,λb c=>?_⟩
  .obtain⟨o',es',Q,R,_,_,_,g6⟩:=ud I B
   rw[g]at Q;cases Q;rw[j]at R;cases R;obtain⟨y,ey,fk,fv⟩:=g6 i _ hx;rw[ey];rw[L]at fk
   injection fk with fk
   exact U6 U<|WM fk.symm<|aY.inj fv N
  .cases UM.mp c
   rw[bt eH.symm];exact(f _ c).1
 done:=by
  intro X l m p C i a_ s σ H E I f D r;subst l m p;obtain⟨G,d,e⟩:=D;obtain⟨b,xs,t,T,F⟩:=r;obtain⟨o,es,g,j,cb,_⟩:=ud I t;have V:n=es.size:=by lia
  subst V;refine JM (I.ok.hd C) e g j rk λS kp=>⟨Z,b_.turnL I f λb o c q=>kp b o (λz=>c<|by rw[z];simp) q⟩
 self:=λ_ _ _ _ _ D h=>by
  obtain⟨G,d,e⟩:=D;exact DU (es:=(UL n (⟨0,.none,.none⟩:W3)).toArray) (by rw[UB,V9];exact e) h
variable{E:a0u}{K:UA}{o:Expr}{w i z:Xp}{B:List Expr}{C:Nat}
def iItm(i:TE):TI:=λσ H R=>i σ H λx c=>∃a b ep xs,x= .ref a/\c a=U (cX a b ep xs)/\R (Iti a ep xs.length) c
theorem Lq(p:PE X o to)(c:autoParam (XW o "items" X.env (Vv o X.env)=Vv o X.env) qQ)(d:autoParam ((w.endLine==i.line)=O) qQ):PI X (.Tuple B C z) (.Call (.Attribute o "items" w) [] [] i) (iItm to):=by
 refine λa_ s σ H R I h=>wpAny_Call_method0_late c d<|ee (p a_ s σ H _ I h) λv f g=>?_;obtain⟨x,m,n,D,a,b,ep,xs,rfl,r,q⟩:=g;cases D;obtain⟨j,E,g,t,u,k,h5,_⟩:=ud n r;refine⟨"dict","dict.items",PySem.F.plainAttrs_dict,PySem.F.slot_dict_items,PySem.F.type_dict_items,⟨j,g,k.1⟩,λb e=>?_,?_⟩
 .cases e;exact⟨j,g,k.2.1⟩
 refine Yy Z<|PySem.evalArgs_none<|ER ⟨j,g,k.1⟩ h5 ?_;have l:b_ X a_ σ m {f with heap:=f.heap.push {cls:= .type "dict_items",data:= .fields #[.ref a]},toks:=f.toks}:=n.kept λb o e=>T1 _ e;apply DW ⟨_,Ut _ Z,Z,Z⟩ (T1 _ g) t;rw[u];exact⟨_,[_],_,_,m,Z,l.kept λb o e=>T1 _ e,BW a _ _ ep,⟨_,_,Ut _ Z⟩,λb y=>by
  cases UM.mp y;exact l.fpOk (Ug _)<|l.hok.fresh<|Ug _,q⟩
def itmD:D->a0C
 | .dct b ks vs=>U<|X8 (λk v=> .tup [dK b k,v]) ks vs
 |_=>Y
theorem JN{F:Fx}{H:Hp}{b:Bool}{a:T8}{ep:Nat}{xs:a0n}(C:¬F.A a)(I:H a=U (cX a b ep xs))(g:T=xs.map (·.1))(J:∀x∈xs,gx K F H b x.1 x.2.1)(h:bb K F H W<|xs.map (·.2.2)):B6 K (Iti a ep xs.length) F H (X8 (λk v=> .tup [dK b k,v]) T W):=λQ j s t fr i=>by
 have L:W.length=xs.length:=by rw[h.length,TX]
 have N:T.length=xs.length:=by rw[g,TX]
 have c:=t.kp a _ C I;refine⟨λd o=>?_,λe=>⟨b,xs,c,Z,by rw[e,List.length_zipWith,N,L,Nat.min_self]⟩⟩;have e:i<xs.length:=by
  have:=(Ui.mp o).1;rw[List.length_zipWith]at this;lia
 refine⟨⟨b,xs,c,Z,e⟩,λy R w=>?_⟩;obtain⟨p,x,l,rfl,rfl,z⟩:=w;have m:=z b xs c;rw[Ua e]at m;have f:=UR m;subst f;have n:cj j (upd j p<|.tup [.ref xs[i].2.1,xs[i].2.2]):=cj.upd l;obtain⟨v,q⟩:∃v,W[i]?=U v:=⟨_,Ua rk⟩;have f5:T[i]?=U xs[i].1:=by rw[g,T9,Ua e];rfl
 rw[List.getElem?_zipWith,f5,q]at o;cases o;obtain⟨u,r,E⟩:=(bb.tr t _ _ h).get q;rw[T9,Ua e]at r;cases r;have B:=(fr.same n).tr fr;exact⟨n,sj (.inl ⟨fr.fresh l,.inl aw⟩)<|bb.cons (b5.tr B _ _<|DB<|(J _<|Vj e).tr t)<|bb.cons (b5.tr B _ _ E) bb.nil⟩
def nItm(f:FD):FL:=λa=>M.bind (f a) λd=>M.ofO<|itmD d
theorem AH(m:PE X o<|tV X.K f E)(c:autoParam (XW o "items" X.env (Vv o X.env)=Vv o X.env) qQ)(g:autoParam ((w.endLine==i.line)=O) qQ):PI X (.Tuple B C z) (.Call (.Attribute o "items" w) [] [] i) (iV X.K (nItm f) E):=
 (Lq m c g).imp λσ H R j=>la j λF s D fr n h=>⟨F,s,D,fr,n,(run.bind h).mono λv p j=>by
  obtain⟨d,G,t,b,M⟩:=j;obtain⟨P,e,k⟩:=run.ofO M;cases d<;>first|(cases e;done)|skip
  cases e;unfold b5 at b;obtain⟨a,ep,xs,rfl,l,q,r,u⟩:=b;exact⟨a,_,ep,xs,Z,l.2,k _ p (To.refl t.fr)<|JN l.1 l.2 q r u⟩⟩
end
end L2.Pu
namespace L2.Hs
theorem zZ:mroOf (.type "reversed")=Wo [.type "reversed",.type "object"]:=by rw[mroOf_type];kernel_rfl
theorem LR:typeLookup (.type "reversed") "__new__"=Wo (U<|.builtin "reversed.__new__"):=by rw[typeLookup_type,builtinLookup_eq_fast];kernel_rfl
theorem LL:Bind.madeBy (.type "reversed")=Wo (U "reversed.__new__"):=madeBy_type zZ LR (by decide +kernel)
theorem NQ:isSubtype (.type "reversed") (.type "reversed")=Wo O:=by rw[YZ];kernel_rfl
theorem K2:isSubtype (.type "range_iterator") (.type "reversed")=Wo T4:=by rw[YZ];kernel_rfl
theorem OX:entryFor table "reversed.__new__"=U Builtin.«reversed.__new__»:=entryFor_of_tree mh
section
variable{l:UT}{w:UY}{A:Vn}{E:a0f}{s:Uj}
theorem Ms(a:IsRange s.heap r 0 n 1 t u v)(j:0<=n)(g:n<2^62)
  (h:Q (.ref s.heap.objs.size) {s with heap:=s.heap.push {cls:= .type "range_iterator",data:= .fields #[XO<|n-1,XO n,XO<|-1]}}):Us (UP l w) A (call (.type "reversed") [.ref r]) Q E s:=by
 refine wpAny_call<|codeAny_of_tree ?_;show Us _ _ (callAny (.type "reversed") _) _ _ _;refine TZ ⟨Code.quiet_builtin _ (by decide +kernel),Zv F.entry_type_call ?_⟩;rw[Around.under_plain (weight_type_call_type "reversed" [.ref r] [])<|units_type_call_type "reversed" [.ref r] []];have g:(Xf "reversed"==Xf "type")=T4:=by decide +kernel
 have k:((Manifest.find? "reversed").bind (·.mro.findSome? λt=>(Manifest.find? t).bind λb=>if b.noNew then U O else if b.attrs.any (·.1=="__new__")then U T4 else Y)).getD T4=T4:=by decide +kernel
 have e:=zZ;have c:=LL;have i:checkTypeCall "reversed" ⟨[.ref r],[]⟩=Wo ():=by kernel_rfl
 repeat (any_goals (first|assumption|wp_step))
 refine codeAny_call_builtin (by decide +kernel) OX<|XI (show checkBuiltinCall "reversed.__new__" ⟨[.type "reversed",.ref r],[]⟩=Wo () by kernel_rfl) ?_;have f:s.TypeIs (.ref r) "range":=⟨_,a,Z⟩;unfold Builtin.«reversed.__new__»
 repeat (any_goals (first|assumption|wp_step))
 refine XI NQ<|TZ ?_;refine My (m:=ZC _ _ _) ?_;refine XI (show ZC "reversed" (Xf "reversed") ⟨[.type "reversed",.ref r],[]⟩=Wo ()from Z) ?_;refine My (m:=checkCount "reversed" 1 1 _)<|TZ ?_;show Us _ _ (specialOf (.ref r) (Uy "__reversed__")>>=_) _ _ s;refine My<|WW f F.slot_range_reversed.lookup ?_;show Us _ _ (bindSpecial (.builtin "range.__reversed__") (.ref r)>>=_) _ _ s;refine My<|XI (F.slot_range_reversed.bind _) ?_;show Us _ _ (rule "reversed.__new__.own-method">>=_) _ _ s;refine My<|Xm<|My<|wpAny_runValue<|codeAny_call_builtin F.slot_range_reversed.plain F.entry_range_reversed<|F.slot_range_reversed.check _ _ _ _ _ _ _ _ f (F.args_range_reversed_1 _) ?_;unfold Builtin.«range.__reversed__»;refine My (m:=selfOnly "range.__reversed__" _)<|TZ<|My ?_;unfold Builtin.Range.rangeFields;refine My<|VI a Z (x:= .int 0 t) Z<|My (m:=asInt? _)<|TZ ?_;refine My<|VI a Z (x:= .int n u) Z<|My (m:=asInt? _)<|TZ ?_;refine My<|VI a Z (x:= .int 1 v) Z<|My (m:=asInt? _)<|TZ<|TZ ?_;have D:Y6 0 n 1=n:=by rw[rangeSize_one];split<;>lia
 simp only[D];have d:(VG 0&&VG n&&VG 1&&VG (-1)&&VG (0-1)&&VG n)=O:=by
  have:VG n=O:=by unfold VG;simp;lia
  rw[this];decide
 simp only[d,Vm,WT,Uz,Vc];rw[show(0:Int)+(n-1)*1=n-1 by lia];refine My<|U1<|TZ<|TZ ?_;exact My<|Wp (T:="range_iterator") (b:=T4) ⟨_,Ut _ Z,Z⟩ K2<|My<|Xm<|TZ h
end
end L2.Hs
namespace L2.Pu
open L2.Hs
noncomputable def Itd(n:Nat):It:=⟨λi _=>i<n,λi H v a=>v= .int ((n:Int)-1-i)/\a=H,λi _=>n<=i⟩
theorem qO{P:UT}{w:UY}{K:UA}(G:T8)(n:Nat):p3 P w K x (Itd n) [G] G (λi h=>IsRangeIter h G ((n:Int)-1+(i:Nat)*-1) ((n:Int)-(i:Nat))<|-1) where
 mem:=by exact .head _
 obj:=λi h D b c=>by
  cases UM.mp c;exact⟨_,D,λv z=>by
   have C:=z;cases C⟩
 keep:=λi h M D k=>k G (by exact .head _) _ D
 item:=by
  intro X g j l m i a s A H E I f D p;subst g j l;obtain⟨q,f1,f2,r,u,y⟩:=f G nl;refine(Walks.range (I.ok.hd m) G _ _ n).item i s _ _ p D λv M B F d J=>?_;obtain⟨t,rfl⟩:=F;exact⟨_,Z,wT d Z Z vy ⟨.int<|(n:Int)-1-i,H,I.turned (λb o c e=>J b o (by simpa using c) e) q f1 r u y,⟨t,by rw[show(n:Int)-1+(i:Int)*-1=(n:Int)-1-i by lia]⟩,⟨Z,Z⟩,d,λb c=>(f b c).1⟩⟩
 done:=by
  intro X g j l m i a s A H E I f D p;subst g j l;obtain⟨q,f1,f2,r,u,y⟩:=f G nl;exact wpAny_pyNext_range_end (I.ok.hd m) D (by have:n<=i:=p;lia) λM N=>⟨Z,I.turned (λb o c e=>N b o c e) q f1 r u y⟩
 self:=λ_ _ _ _ _ D h=>wpAny_pyIter_rangeiter D h
section
variable{X:Cx}{E:a0u}{K:UA}{C:Expr}
def Tx(a:TA):TI:=λb H R=>a b H λw c=>∃j:Int,w=[.int j]/\0<=j/\j<2^62/\R (Itd j.toNat) c
theorem HQ{p pos r f:Xp}(g:Gl X "reversed")(i:X.mg "reversed"=Y)(v:Gl X "range")(w:X.mg "range"=Y)(D:PA X [a] z)(E:autoParam (Uu [a] X.env=[(T4,Vv a X.env)]) qQ)
  (k:autoParam (Uu [.Call (.Name "range" p) [a] [] pos] X.env=[(T4,Vv (.Call (.Name "range" p) [a] [] pos) X.env)]) qQ):PI X C (.Call (.Name "reversed" r) [.Call (.Name "range" p) [a] [] pos] [] f) (Tx z):=by
 refine λc s m H R I h=>Call_<|gE I g i Boot.«reversed»<|VJ (Calls.spliced_cons<|Call_<|gE I v w boot_range<|VJ (ee (D _ c s m H _ I h) λP d y=>?_) E Z) k Z;obtain⟨S,n,A,G,j,rfl,K,M,q⟩:=y;obtain⟨u,rfl,t,rfl⟩:=gG G;refine call_range_1<|Calls.spliced_nil<|Ms (IsRange.new ..) K M<|wpAny_pyIter_rangeiter (Ut _ Z) ?_;have l:b_ X c m n {d with heap:=d.heap.push {cls:= .type "range",data:= .fields #[.int 0 d.toks,.int j t,.int 1<|d.toks+1]},toks:=d.toks+1+1}:=A.kept λb o e=>T1 _ e;refine⟨_,[_],_,_,n,Z,l.kept λb o e=>T1 _ e,qO _ _,?_,λb B=>?_,q⟩
 .show IsRangeIter _ _ _ _ _
  rw[show((j.toNat:Nat):Int)-1+((0:Nat):Int)*-1=j-1 by lia,show((j.toNat:Nat):Int)-((0:Nat):Int)=j by lia];exact Ut _ Z
 .cases UM.mp B
  exact l.fpOk (Ug _)<|l.hok.fresh<|Ug _
noncomputable def eC(n:Nat):a0c:=(Ue n).map λ(i:Nat)=> .int<|(n:Int)-1-i
theorem tT:B6 K (Itd n) F H (eC n):=λe f C t fr i=>by
 refine⟨λd w=>?_,λa=>?_⟩
 .unfold eC at w
  have a:i<n:=by
   have:=(Ui.mp w).1;simpa using this
  rw[T9,U8 a]at w;cases w;exact⟨a,λx g ⟨b,c⟩=>by subst b c;exact⟨cj.refl _,Z⟩⟩
 .show n<=i
  rw[a];simp[eC]
def wE:a0c->a0C
 |[.int j]=>if(decide (0<=j)&&decide (j<2^62))=O then U (eC j.toNat)else Y
 |_=>Y
theorem L9{p pos m b:Xp}(c:Gl X "reversed")(d:X.mg "reversed"=Y)(n:Gl X "range")(w:X.mg "range"=Y)(D:PA X [a]<|jm X.K g E)(G:autoParam (Uu [a] X.env=[(T4,Vv a X.env)]) qQ)
  (f:autoParam (Uu [.Call (.Name "range" p) [a] [] pos] X.env=[(T4,Vv (.Call (.Name "range" p) [a] [] pos) X.env)]) qQ):PI X C (.Call (.Name "reversed" m) [.Call (.Name "range" p) [a] [] pos] [] b) (iV X.K (c9 wE g) E):=
 (HQ c d n w D G f).imp λu H R i=>la i λF M P fr o h=>⟨F,M,P,fr,o,(run.bind h).mono λx q i=>by
  obtain⟨y,S,t,V,s⟩:=i;obtain⟨l,e,k⟩:=run.ofO s;unfold wE at e;split at e
  .split at e
   .rename_i j
    cases e;simp only[US,UZ]at j;obtain⟨v,rfl,r⟩:=bb.one V;cases r.int;exact⟨_,Z,j.1,j.2,k _ q (To.refl t.fr) tT⟩
   .cases e
  .cases e⟩
variable{e m:Expr}{z tm:TE}{pos L:Xp}
theorem Lo(e:a0g):slicePick e.toArray Y Y (U<|-1)=e.reverse.toArray:=by
 have a:Yk Y Y (U<|-1) e.toArray.size=((e.length:Int)-1,-1,-1):=by simp[Yk]
 unfold slicePick;rw[a];apply U6 _;have b:sliceRange ((e.length:Int)-1) (-1) (-1)=(Ue e.length).map λk=>e.length-1-k:=by
  unfold sliceRange;have c:(if(-1:Int)>0 then(if(e.length:Int)-1< -1 then(-1-((e.length:Int)-1)+-1-1)/ -1 else 0)else(if(e.length:Int)-1>-1 then((e.length:Int)-1- -1- -1-1)/(- -1)else 0)).toNat=e.length:=by
   rw[Uh vy];split
   .lia
   .lia
  simp only[c];exact UH λk _=>by grind
 show(sliceRange _ _<|-1).filterMap _=_;rw[b,List.filterMap_map];obtain _|⟨x,r⟩:=e
 .rfl
 generalize h:x::r=e;rw[yB (g:=λk=>e.getD _ x) λk d=>by
  have:=UD.mp d;simp only[Zk,Z8];rw[T6,Ua<|by grind];rfl]
 refine Wj nl λi f j=>?_;have l:i<e.length:=by simpa using f
 rw[WX,Xq,List.getElem_reverse,T6,Ua rk];rfl
def tRev(K:UA)(z tm:TE):TE:=λc H Q=>z c H λx d=>tm c d λy b=>∃a e,x= .ref a/\y= .int (-1)/\fy K b a e/\∀p,b p=Y->Q (.ref p) (upd b p<|.lst e.reverse)
theorem Qj(l:PE X e z)(E:PE X m tm):PE X (.Subscript e (.Slice Y Y (U m) L) pos) (tRev X.K z tm):=by
 refine λc s f H Q I h=>Subscript_<|ee (l c s f H _ I h) λv n o=>?_;obtain⟨x,p,r,G,M⟩:=o;apply wpAny_Slice;refine TZ<|TZ ?_;refine ee (E c n f p _ r M) λu d B=>?_;obtain⟨y,C,g,F,a,P,rfl,rfl,S,q⟩:=B;cases G;obtain⟨t,rfl⟩:=F;obtain⟨its,i,D,j⟩:=g.list S;have k:b_ X c f C {d with heap:=d.heap.push {cls:= .type "slice",data:= .fields #[.none,.none,.int (-1) t]}}:=g.kept λb J q=>T1 _ q;refine tail_any (D.isList.push _).typeIs slot_list_getitem.lookup (wpAny_getItem_list_slice (D.isList.push _) (Heap.IsSliceOf.new ..) .none .none (.int _ t) vy ?_<|by rw[UB,<-i.length];exact j) (by with_unfolding_all rfl)
 rw[Lo];exact⟨.ref _,_,k.lnew i.reverse (by rw[List.length_reverse];exact j),Z,q _<|k.hok.fresh<|Ug _⟩
noncomputable def P4:D->D->a0l
 | .lst ds,.int (-1)=>U<|.lst ds.reverse
 |_,_=>Y
theorem bb.reverse:∀{ds:a0c} {e:a0k},bb K F H ds e->bb K F H ds.reverse e.reverse
 |[],e,h=>by have q:=h;subst q;exact bb.nil
 |d::ds,e,h=>by
  obtain⟨x,r,rfl,a,b⟩:=h;rw[ZE,ZE];exact bb.append (bb.reverse b)<|bb.cons a bb.nil
theorem MM(o:PE X e<|tV X.K f E)(D:PE X m<|tV X.K g E):PE X (.Subscript e (.Slice Y Y (U m) L) pos) (tV X.K (f2 P4 f g) E):=
 (Qj o D).imp λu H Q b=>la b λF C G fr l h=>⟨F,C,G,fr,l,(run.bind h).mono λv y b=>r8 b λd w t M P=>⟨F,C,w,t.fr,l.tr<|t.tr fr,(run.bind P).mono λv2 A b=>r8 b λx S i j q=>by
  obtain⟨z,c,k⟩:=run.ofO q;unfold P4 at c;split at c
  .cases c
   obtain⟨a,V,rfl,s,r⟩:=b5.sqL<|b5.tr (i.tr t.fr) _ _ M;cases j.int;exact⟨a,V,Z,Z,s,λp n=>k _ _ (i.fr.upd _ n)<|b5.newL i.fr n<|bb.reverse r⟩
  .cases c⟩⟩
end
end L2.Pu
namespace L2.Pu
theorem G_{A:Vn}(a:d4 k A):A.units+2<YJ:=VC (Nat.add_le_add_left (by decide:2<=64) _) a.units
open L2.Hs
section
variable{X:Cx}{E:a0u}{ke ve b0 aa:Expr}{ac:List Expr}{ab:a0T}{P:Scope}{pos:Xp}{Nc c4:a0i}{b4:a0a}{g:TG}{tb:a0Y}
theorem N8{kb:Bool}{b d:Xp}(y:X.N.Nodup)(k:X.N[i]?=U x)(K:Iv X.env.scope x)(B:X.calm=O)(S:c_ X P Nc c4 b4)(F:PI X b0 aa wi)
  (L:∀(E:a0m) (C:T8) (j:a0r) (s:Uj) (H:Hp),PG (aT X Nc P E C j s H) b0 g/\eX (aT X Nc P E C j s H) ac tt/\∀D,PB (aT X Nc P E C j s H) (.D ke ve) (⟨b0,aa,ac,0⟩::ab) P pos 0 D<|tb D)
  (l:autoParam (Zc (.DictComp ke ve (⟨b0,aa,ac,0⟩::ab) P pos) (U<|.Name x b) d.line X.env=Wo O) qQ)
  (M:autoParam (∀x,Vo aa X.env x=Wo x) xz) (cb:autoParam (b0d X x) xy):
  PS X (.Assign [.Name x b] (.DictComp ke ve (⟨b0,aa,ac,0⟩::ab) P pos) d) (gr (oH (λD=>cX D kb 0 []) c4 b4 wi λD J=>dP J g tt<|tb D)<|d7 i):=by
 intro f s R H D I h;rw[exec_Assign_Name_used _ _ _ _ l];refine My<|Wu<|My ?_;show Us _ _ _ _ _ s
 refine My<|Vt (Xl Z M (S.clo I.ok) S.kind S.loc
  (Vt (F f s R H _ I h) (λv s1 Q=>Vt Q (λW f5 n=>?_) λ_ _ e=>e) λ_ _ e=>e)) (λ_ s' c=>TZ<|TZ c) λ_ _ e=>e
 obtain⟨it,j,tn,J,H2,e,o,T,p,f2,q⟩:=n;subst e;refine je rK B S L o T p f2 q λA C s' V m I' ns r q'=>?_;refine wpAny_assign_Name<|oJ I' y k K (v:= .ref A) Z (λf5 o n=>?_) cb;obtain⟨a,sb,ha⟩:=n;have t:C≠a:=by
  obtain rfl|ha:=ha
  .exact r.2.1
  .exact λz=>r.2.2.2.1 x a ha z.symm
 exact⟨m,ns.sameBut sb t,λh' u=>⟨_,V,o.letgo r u,q'⟩⟩
theorem GT{kb:Bool}{a c:Xp}(j:X.N.Nodup)(d:X.N[i]?=U x)(G:Iv X.env.scope x)(k:X.calm=O)(S:c_ X P Nc c4 b4)(l:PI X b0 aa<|iV X.K u E)
  (m:∀(w:a0m) (C:T8) (f:a0r) (s:Uj) (H:Hp),PG (aT X Nc P w C f s H) b0 g/\eX (aT X Nc P w C f s H) ac (i_ X.K v E0)/\∀D,PB (aT X Nc P w C f s H) (.D ke ve) (⟨b0,aa,ac,0⟩::ab) P pos 0 D<|tb D)
  (n:dg X.K g t) (o:eU t) (p:∀D,gc X.K (RD X.K kb) D (tb D) b)
  (e:autoParam (Zc (.DictComp ke ve (⟨b0,aa,ac,0⟩::ab) P pos) (U<|.Name x a) c.line X.env=Wo O) qQ)
  (M:autoParam (∀x,Vo aa X.env x=Wo x) xz) (q:autoParam (b0d X x) xy):
  PS X (.Assign [.Name x a] (.DictComp ke ve (⟨b0,aa,ac,0⟩::ab) P pos) c) (tG X.K X.H₀ (dm i<|i9 c4.length b4 u t v b<|nW kb) E):=
 aF ((N8 j d G k S l m e M q).imp λD r H h=>yM n o p h)
end
end L2.Pu
namespace L2.Hs
section
variable{X:Cx}
def P6(K:UA):R2:=λx y H Q=>∃a b D w k c,x= .ref c/\y= .ref a/\H a=U (cX a b D w)/\(∀x∈w,z4 K H b x.1 x.2.1)/\z4 K H b k c/\Q (.bl (pa w k).isNone) H
theorem zU(i:X.A.units+2<YJ):hE X (Vz .NotIn) (P6 X.K):=by
 intro c s t H x y v u Q I j l h;obtain⟨d,b,M,D,k,a,rfl,rfl,m,n,o,q⟩:=h;cases j;cases l;obtain⟨E,w,p,_,G⟩:=kx I m n;have f:=lW (k:=k) p;show Us _ _ _ _ _ s
 apply My;unfold contains
 try with_reducible apply VB
 refine My<|WW w.typeIs slot_dict_contains.lookup ?_;refine My (wpAny_callSpecialUnlessNone?_slot w.typeIs slot_dict_contains
  (U2 slot_dict_contains w.typeIs entry_dict_contains ?_<|args_dict_contains _ _))
 show Us _ _ (dictGet d _>>=_) _ _ s;refine My<|wpAny_dictGet_heap (mH i) (nE I o) w ?_;cases g:atKey E k with
 |some r=>
  rw[g]at f;cases e:pa D k with
  |none=>rw[e]at f;exact f.elim
  |some z=>
   rw[e]at q;exact TZ ⟨_,Z,VE<|TZ ⟨.bl _,H,I.tok _,Z,q⟩⟩
 |none=>
  rw[g]at f;cases e:pa D k with
  |some z=>rw[e]at f;exact f.elim
  |none=>
   rw[e]at q;exact My<|wpAny_pendingKey_other G<|TZ ⟨_,Z,VE<|TZ ⟨.bl _,H,I.tok _,Z,q⟩⟩
end
end L2.Hs
namespace L2.Pu
open L2.Hs
section
variable{K:UA}
def LC:D->D->a0l
 |y,.dct b ks vs=>(fM b y).map λk=> .bl (lK ks vs k).isNone
 |_,_=>Y
theorem ST:bz K (P6 K) LC:=λF H P Q E S d v1 v2 fr h g e k=>by
 unfold LC at e;split at e
 .rename_i b ks vs
  cases q:fM b E with
  |none=>rw[q]at e;cases e
  |some f=>
   rw[q]at e;cases e;obtain⟨i,rfl⟩:=nF q;obtain⟨c,rfl,j⟩:=tP i h;obtain⟨a,G,w,rfl,l,rfl,m,n⟩:=g;refine⟨a,b,G,w,f,c,Z,Z,l.2,λx M=>(m x M).s,j.s,?_⟩;have:=tK (k:=f) n
   dsimp only at k
   cases D:lK _ vs f with
   |none=>
    rw[D]at this k;have t:=this;rw[t];exact k _ H (To.refl fr) Z
   |some z=>
    rw[D]at this k;obtain⟨u,t,_⟩:=this;rw[t];exact k _ H (To.refl fr) Z
 .cases e
end
end L2.Pu
namespace L2.Pu
section
variable{X:Cx}{E:a0u}{K:UA}{f:Va}{a:Hp}{B:Ow}{g:a0t}{H h:Hp}{d:Ds}{e b:Bg}{c:St}
end
end L2.Pu
namespace L2.Pu
open PySem.SeqAt
open PySem.AutoSeq1 (wpAny_loadPart')
open PySem.MeetsSeq PySem.MeetsSeq2 PySem.MeetsSeq3
end L2.Pu
namespace L2.Hs
section
variable{X:Cx}
def Pn(b:Bool):TE:=λ_ H Q=>∀D,H D=Y->Q (.ref D) (upd H D<|cX D b 0 [])
theorem ng{b:Bool}{pos:Xp}:PE X (.Dict [] [] pos) (Pn b):=by
 intro a s c H Q I h;refine My<|Wu ?_;exact rK a s c H _ _ I λe d _=>⟨.ref _,_,d,Z,h _<|I.hok.fresh<|Ug _⟩
def F0(xs:a0n)(k:eg)(c:T8)(v:V):a0n:=if(pa xs k).isSome then xs.map (λx=>if x.1=k then(x.1,x.2.1,v)else x)else xs++[(k,c,v)]
theorem FF(h:∀x y,XY x y->XY (f x) (g y)):∀{w:a0n} {D:a0B},Zs XY w D->Zs XY (w.map f) (D.map g)
 |_,_,.nil=> .nil
 |_,_,.cons a t=> .cons (h _ _ a)<|FF h t
theorem KJ(p:Zs XY b d)(r:aY v u):Zs XY (F0 b k c v) (storedH d k c u):=by
 have f:=lW (k:=k) p;unfold F0;cases e:atKey d k with
 |none=>
  rw[e]at f;cases q:pa b k with
  |some w=>rw[q]at f;exact f.elim
  |none=>
   rw[storedH_new e];exact uq ⟨Z,Z,r⟩ p
 |some w=>
  rw[e]at f;cases q:pa b k with
  |none=>rw[q]at f;exact f.elim
  |some a=>
   rw[storedH_old e];refine FF (λx y h=>?_) p;unfold putAt;rw[<-h.1];by_cases z:x.1=k
   .rw[Uf z,Uf z];exact⟨Z,h.2.1,r⟩
   .rw[Uh z,Uh z];exact h
theorem NS(w:a0n)(k:eg)(c:T8)(v:V):(F0 w k c v).length<=w.length+1:=by
 unfold F0;split
 .rw[TX];lia
 .simp
def M0(K:UA):V->V->V->Hp->(Hp->Prop)->Prop:=λo i v H Q=>∃a b D w k c,o= .ref a/\i= .ref c/\H a=U (cX a b D w)/\(∀x∈w,z4 K H b x.1 x.2.1)/\z4 K H b k c/\w.length<UC/\∀d,Q<|upd H a<|cX a b d<|F0 w k c v
theorem jN(t:X.A.units+2<YJ):MC X (M0 X.K):=by
 intro j s ek H o i v f5 G u Q I y B C h;obtain⟨a,b,M,w,k,c,rfl,rfl,l,F,J,P,q⟩:=h;cases y;cases B;obtain⟨S,L,p,N,f⟩:=kx I l F;refine wpAny_setItem_heap (mH t) (nE I J) L (λV D eH=>?_) N;have m:=KJ (k:=k) (c:=c) p C;obtain⟨o,E,g,r,R,T,cb,x,W⟩:=D;have d:=U6 Y2<|lV m;rw[TX,TX]at d;have:=NS w k c v;exact⟨_,I.write (by rw[l];trivial) (.inl Z) (λb u n e=>(eH.2 b n).trans e) ⟨o,r⟩<|u5 ⟨o,E,_,r,R,T,by rw[cb];unfold entryOfKey;rw[uT],W,f,rk,m⟩,q g⟩
end
end L2.Hs
namespace L2.Pu
open L2.Hs
def K_(w:a0F)(k:eg):a0F:=if k∈w then w else w++[k]
def stY(w:a0F)(E:a0c)(k:eg)(d:D):a0c:=if k∈w then(w.zip E).map (λp=>if p.1=k then d else p.2)else E++[d]
section
variable{K:UA}{F:Fx}{H:Hp}
theorem uO:∀{xs:a0n},(pa xs k).isSome=decide (k∈xs.map (·.1))
 |[]=>by simp[pa]
 |x::xs=>by
  have w:=uO (k:=k) (xs:=xs);unfold pa at w⊢;rw[WI];by_cases q:x.1=k
  .simp[q]
  .rw[UX q]
   rw[w];exact decide_eq_decide.mpr (by rw[Ul,Uq];exact⟨.inr,λz=>z.resolve_left λy=>q y.symm⟩)
theorem K4{w:a0n}:(F0 w k c v).map (·.1)=K_ (w.map (·.1)) k:=by
 unfold F0 K_;rw[uO];by_cases q:k∈w.map (·.1)
 .rw[Uf<|Ux q,Uf q,Ub]
  refine UH λx _=>?_;show(if x.1=k then(x.1,x.2.1,v)else x).1=x.1;split<;>rfl
 .rw[Uh (λz=>q<|WE z),Uh q,UK];rfl
theorem NT{xs:a0n}(D:b5 K F H d v)(h:bb K F H f<|xs.map (·.2.2)):bb K F H (stY (xs.map (·.1)) f k d) ((F0 xs k c v).map (·.2.2)):=by
 unfold F0 stY;rw[uO];by_cases q:k∈xs.map (·.1)
 .rw[Uf<|Ux q,Uf q]
  clear q
  induction xs generalizing f with
  |nil=>exact bb.nil
  |cons x xs E=>
   cases f with
   |nil=>cases h
   |cons w f=>
    obtain⟨u,r,e,a,b⟩:=h;rw[Ul,Xj]at e;obtain⟨rfl,rfl⟩:=e;refine bb.cons ?_<|E b;show b5 K F H (if x.1=k then d else w) (if x.1=k then(x.1,x.2.1,v)else x).2.2;by_cases z:x.1=k
    .rw[Uf z,Uf z];exact D
    .rw[Uh z,Uh z];exact a
 .rw[Uh (λz=>q<|WE z),Uh q,UK]
  exact bb.append h<|bb.cons D bb.nil
theorem Pt{b:Bool}(a:∀x∈e,gx K F H b x.1 x.2.1)(d:gx K F H b k c):∀x∈F0 e k c v,gx K F H b x.1 x.2.1:=λx w=>by
 unfold F0 at w;split at w
 .obtain⟨y,hy,rfl⟩:=T7.mp w
  split
  .exact a y hy
  .exact a y hy
 .obtain h|h:=Vr.mp w
  .exact a x h
  .cases UM.mp h
   exact d
variable{X:Cx}{E:a0u}{z:Va}
def Rr(i:Nat)(b:Bool):G:=λw z=>U (.nx<|w.set i<|U<|.odc b [] [],z)
theorem CO{b:Bool}(h:PS X z<|gr (Pn b)<|d7 i):PS X z (tG X.K X.H₀ (Rr i b) E):=h.imp λD j H c=>by
 obtain⟨B,F,G,M,o,d,ok,e,q⟩:=c;cases e;intro p f;obtain⟨k,a,g⟩:=ok.newAt (sl:= .odc b [] []) f (.inr ⟨_,aw⟩) λe _=>⟨p,Z,e,0,[],aw,Z,(λx w=>by cases w),bb.nil⟩;exact q _ _ _ g a
def t8(i:Nat)(fk a:FD):G:=λw z=>match a (hL w) z with
 |some (.ok d,β1)=>match fk (hL w) β1 with
  |some (.ok kd,β2)=>match w.getD i Y with
   |some (.odc b ks vs)=>match fM b kd with
    |some k=>if(noL d&&decide (ks.length<UC))=O then U (.nx<|w.set i<|U<|.odc b (K_ ks k)<|stY ks vs k d,β2)else Y
    |none=>Y
   |_=>Y
  |_=>Y
 |some (.error C,β1)=>U (.ex C w,β1)
 |none=>Y
theorem sQ{fk L:FD}(h:PS X z<|gr (tV X.K L E)<|Mf (lM i) (tV X.K fk E)<|M0 X.K):PS X z (tG X.K X.H₀ (t8 i fk L) E):=h.imp λD σ H R=>by
 obtain⟨B,M,P,S,o,T,ok,e,q⟩:=R;refine⟨o1 B M,hL P,S,ok.frA,ok.viewA,?_⟩;unfold t8 at e;split at e
 .rename_i d β1 p
  refine⟨.ok d,_,p,λv H1 t V=>?_⟩;obtain⟨g,u⟩:=ok.to Z t;split at e
  .rename_i kd β2 W
   split at e
   .rename_i b ks vs N
    split at e
    .rename_i k I
     split at e
     .rename_i hn
      cases e;rw[US,UZ]at hn;obtain⟨w,r,a,rfl,hB,h2⟩:=g.tell i _<|getD_some N;refine⟨_,r,o1 B M,hL P,β1,g.frA,g.viewA,.ok kd,_,W,λkv H2 f y=>?_⟩;obtain⟨j,n⟩:=g.to Z f;obtain⟨_,l,a',e',aa,ep,F,hD,A,f5,dl⟩:=j.tell i _<|getD_some N;rw[r]at l;cases l;cases e';obtain⟨hz,rfl⟩:=nF I;have nk:noL (dK b k)=O:=by
       cases b with
       |true=>show(O&&(noLs _&&O))=O;rw[iY];rfl
       |false=>exact iY _
      obtain⟨c,rfl,Q⟩:=tP hz<|j.noB nk y;subst A;refine⟨a,b,ep,F,k,c,Z,Z,hD,λx G=>(f5 x G).s,Q.s,by rw[<-TX];exact hn.2,λm=>?_⟩;obtain⟨J,s3⟩:=j.writeAt (sl:= .odc b _<|stY _ vs k d) r hB (.inr ⟨_,aw⟩) λt=>⟨a,Z,hB,m,_,aw,K4.symm,Pt (λx G=>(f5 x G).tr t)<|Q.tr t,NT (b5.tr t _ _ (b5.tr n.tr _ _<|g.noB hn.1 V))<|bb.tr t _ _ dl⟩;exact q _ B _ ((u.trans n).trans s3) J
     .cases e
    .cases e
   .cases e
  .cases e
 .rename_i C β1 p
  cases e;refine⟨.error C,_,p,λH' t=>?_⟩;obtain⟨j,n⟩:=ok.to Z t;exact q _ B H' n j
 .cases e
def PD:D->a0o->a0o->a0l
 | .tup xs,lo,hi=>if HT.sIx xs.length 0 lo=0/\HT.sIx xs.length xs.length hi=xs.length then Y else U (.tup<|pO xs lo hi)
 |_,_,_=>Y
def fSlT(f:FD)(z a:a1a):FD:=λw=>M.bind (f w) λd=>M.bind (qF z w) λl=>M.bind (qF a w) λh=>M.ofO<|PD d l h
theorem xb{X:Cx}{E:a0u}{pos:Xp}{G u:Option Expr}{fl y:a1a}(I:PE X e<|tV X.K f E)(J:vh X G fl E)(L:vh X u y E):PE X (.Subscript e (.Slice G u Y p2) pos) (tV X.K (fSlT f fl y) E):=
 (rJ PC I J L).imp λT H Q i=>la i λF w M fr j r=>⟨F,w,M,fr,j,(run.bind r).mono λv q ⟨d,z,t,P,S⟩=>
  ⟨F,w,z,t.fr,j.tr<|t.tr fr,(run.bind S).mono λl W ⟨R,D,g,m,N⟩=>
   ⟨F,w,D,g.fr,j.tr<|(t.tr fr).trans<|g.tr t.fr,(run.bind N).mono λh b i=>by
    obtain⟨h',V,n,o,f5⟩:=i;subst m o;obtain⟨c,e,k⟩:=run.ofO f5;unfold PD at e;split at e
    .split at e
     .cases e
     .rename_i A
      cases e;obtain⟨a,s,rfl,x,B⟩:=b5.sqT (b5.tr ((g.tr t.fr).trans<|n.tr g.fr) _ _ P);rw[B.length]at A;exact⟨a,s,Z,x,A,λp C=>k _ _ (n.fr.upd _ C)<|b5.newT n.fr C<|B.cut l h⟩
    .cases e⟩⟩⟩
def xm:a0c->a0l
 |[.dct T4 ks _]=>if ks.length<64 then g9 (ks.map λk=>lk k.2)else Y
 |_=>Y
theorem JD{K:UA}:dh K (rF K) xm:=λF H P Q S d V fr h e k=>by
 unfold xm at e;split at e
 .rename_i ks t
  obtain⟨v,rfl,f⟩:=bb.one h;unfold b5 at f;obtain⟨a,M,E,rfl,j,rfl,g,u⟩:=f;split at e
  .rename_i hn
   rw[TX]at hn;obtain⟨i,s,rfl⟩:=kJ e;have G:∀x∈E,x.1.2∈i:=λx w=>by
    obtain⟨l,b,e⟩:=s.2.2.2 _<|T7.mpr ⟨x.1,T7.mpr ⟨x,w,Z⟩,Z⟩;rw[ge e];exact b
   refine⟨a,T4,M,E,Z,j.2,λx w=>⟨(g x w).s,(s.2.2.1 _<|G x w).1⟩,hn,λl m b c n=>?_⟩;have o:=qf s.1 n λy=>by
    refine⟨λD=>?_,λD=>?_⟩
    .obtain⟨q,p,e⟩:=T7.mp (s.2.2.1 y D).2
     obtain⟨x,w,rfl⟩:=T7.mp p;apply(c.map _).mem_iff.mpr;rw[Ub];exact T7.mpr ⟨x,w,ge e⟩
    .have:=(c.map _).mem_iff.mp D
     rw[Ub]at this;obtain⟨x,w,rfl⟩:=T7.mp this;exact G x w
   rw[o]at k;refine k _ _ (fr.upd _ b)<|b5.newL fr b<|pM λz r=>?_;obtain⟨x,w,rfl⟩:=T7.mp<|c.mem_iff.mp r;exact DB<|g x w
  .cases e
 .cases e
end
end L2.Pu
namespace L2.Pu
section
variable{X:Cx}
end
end L2.Pu
namespace L2.Pu
open L2.Hs
section
variable{X:Cx}{E:a0u}{K:UA}{w:Expr}
def Tu(a:TA):TI:=λb H R=>a b H λw c=>∃j:Int,w=[.int j,.int<|-1,.int<|-1]/\-1<=j/\j<2^62/\R (Itd (j+1).toNat) c
theorem HR{p pos:Xp}(n:Gl X "range")(D:X.mg "range"=Y)(E:PA X [a,b,c] x)(G:autoParam (Uu [a,b,c] X.env=[(T4,Vv a X.env),(T4,Vv b X.env),(T4,Vv c X.env)]) qQ)(f:autoParam (Uu [b,c] X.env=[(T4,Vv b X.env),(T4,Vv c X.env)]) qQ):
  PI X w (.Call (.Name "range" p) [a,b,c] [] pos) (Tu x):=by
 refine λd s l H R I h=>Call_ (gE I n D boot_range<|VJ (ee (E _ d s l H _ I h) λP i u=>?_) (by rw[G,f])<|by rw[f];rfl);obtain⟨S,m,v,K,j,rfl,V,M,q⟩:=u;cases K with
 |cons r g=>cases g with
  |cons y g=>cases g with
   |cons A g=>
    cases g;obtain⟨t,rfl⟩:=r;obtain⟨t',rfl⟩:=y;obtain⟨B,rfl⟩:=A;refine call_range_3 vy<|wpAny_pyIter_range (IsRange.new ..) (PySem.W.small_down rk M vy vy) ?_;have k:b_ X d l m {i with heap:=i.heap.push {cls:= .type "range",data:= .fields #[.int j t,.int (-1) t',.int (-1) B]}}:=v.kept λb o e=>T1 _ e;refine⟨_,[_],_,_,m,Z,k.kept λb o e=>T1 _ e,qO _ _,?_,λb C=>?_,q⟩
    .show IsRangeIter _ _ _ _ _
     have F:(((j+1).toNat:Nat):Int)-1+((0:Nat):Int)*-1=j:=by lia
     have J:(((j+1).toNat:Nat):Int)-((0:Nat):Int)=Y6 j (-1) (-1):=by
      rw[PySem.W.rangeSize_downNat];lia
     rw[F,J];exact Ut _ Z
    .cases UM.mp C
     exact k.fpOk (Ug _)<|k.hok.fresh<|Ug _
def PY:a0c->a0C
 |[.int j,.int (-1),.int (-1)]=>if(decide (-1<=j)&&decide (j<2^62))=O then U (eC (j+1).toNat)else Y
 |_=>Y
theorem Ma{p pos:Xp}(j:Gl X "range")(D:X.mg "range"=Y)(G:PA X [a,b,c]<|jm X.K g E)(M:autoParam (Uu [a,b,c] X.env=[(T4,Vv a X.env),(T4,Vv b X.env),(T4,Vv c X.env)]) qQ)(d:autoParam (Uu [b,c] X.env=[(T4,Vv b X.env),(T4,Vv c X.env)]) qQ):PI X w (.Call (.Name "range" p) [a,b,c] [] pos) (iV X.K (c9 PY g) E):=
 (HR j D G M d).imp λA H R f=>la f λF P S fr m h=>⟨F,P,S,fr,m,(run.bind h).mono λz n f=>by
  obtain⟨B,V,t,s,x⟩:=f;obtain⟨l,e,k⟩:=run.ofO x;unfold PY at e;split at e
  .split at e
   .rename_i i
    cases e;simp only[US,UZ]at i;obtain⟨v,r,rfl,o,q⟩:=s;obtain⟨v2,v3,rfl,u,y⟩:=bb.two q;cases o.int;cases u.int;cases y.int;exact⟨_,Z,i.1,i.2,k _ n (To.refl t.fr) tT⟩
   .cases e
  .cases e⟩
end
end L2.Pu
namespace L2.Pu
section
variable{P:UT}{w:UY}{K:UA}{mg:a0j}{aa:Vl}
theorem Rt{M:Va}{N ps:a0i}(n m:Nat)(g:FL)(F:g8 K x qual M f fd)(S:bi N ps<|ag M)(R:ps.length=n)(T:N.length=m)
  (u:∀(j:Uc) (A:Vn) (D:List Env) (s:Uj) (H:Hp) (E:XK),d4 k (A.deeper<|Yw qual (ag M) s.heap.objs.size f j)->
   PSs (f9 (hO P w) P w K mg aa N qual (ag M) f j A D s H E) (cK M) (uy<|E_ K g (λ_=>E))):e_ P w K mg aa (hO P w) (k+1) f fd ps (spT K (dn K) n λds=>g<|vw<|ll m ds):=by
 subst R T;refine F.okE S (λvs H Q E h=>h.1) λj A D s H vs Q E ek h=>?_;obtain⟨hl,p,ds,β,fr,hd,r,y,e,h⟩:=h;refine⟨_,u j A D s H E ek,?_⟩;obtain⟨B,ok,cb,f5,hn⟩:=sy fr hd;have J:∀{L:Ow} {i:Hp},hY B H L i->Fr (d_ L _) i y->To p H i y/\∀a,p.A a->L a≠Y:=λ{L i} s eH=>by
  have V:∀a,p.A a->L a≠Y:=λa G=>by
   rw[s.tg a<|cb a G];rcases cb a G with z|z<;>rw[z]<;>simp
  refine⟨⟨λa o G n=>s.kp a o G ?_,λa G=>eH.occ a<|V a G,λb l e=>fr.bgA b l e,eH.bag⟩,V⟩;cases q:B a with
  |none=>exact .inl Z
  |some t=>
   have:=cb a (hn a<|by rw[q];simp);obtain z|z:=this
   .rw[q]at z;exact .inr z
   .obtain⟨b,l,e,w⟩:=f5 a z
    obtain⟨W,n2⟩:=n b l e;obtain w|w:=w
    .exact UG w W
    .exact UG w n2
 refine⟨d_ B _,vw<|ll _ ds,β,ok.fr,ok.view,r,y,e,?_⟩;cases r with
 |ok d=>
  intro v i t hv;obtain⟨I,X⟩:=ok.to (F:=d_ B _) Z t;obtain⟨t1,V⟩:=J X I.fr;obtain⟨a,xs,rfl,n0,W,dl⟩:=hv;exact h _ i t1 ⟨a,xs,Z,n0,W,bb.tr (⟨λc hc _ z=>hc<|Or.imp (V c) id z,λ_ _ _ h=>h,Z⟩:Tr ((d_ B _).but a) i (p.but a) i) _ _ dl⟩
 |error C=>
  intro i t;obtain⟨I,X⟩:=ok.to (F:=d_ B _) Z t;exact h i (J X I.fr).1
variable{X:Cx}{E:a0u}{o e c:Expr}{s:List Expr}{pos l:Xp}{m:U3}{k n:Nat}{f C:T8}{w:Uw}{u:a0i}{a r:a0R}{t:a0s}{g h:FL}
theorem dn.pre{K:UA}(t:To F H H1 i)(h:dn K F H1 H' j v):dn K F H H' j v:=by
 obtain⟨a,c,b,d,r⟩:=h;exact⟨a,c,b,t.none d,r⟩
def Mh(g:FL):FD:=λa=>M.bind (g a) λc=>M.ret<|.lst c
theorem R1(h:PE X e<|E_ X.K g E):PE X e (tV X.K (Mh g) E):=h.imp λq H Q b=>la b λF c f fr d r=>⟨F,c,f,fr,d,(run.bind r).mono λv u b=>r8 b λo k t i m=>by
 obtain⟨a,n,rfl,j,l,p⟩:=i;exact run.ret t.fr m ⟨a,n,Z,⟨λz=>fr.occ a z j,.inl l⟩,bb.tr Fx.tr_of _ _ p⟩⟩
theorem Mr(e:cE p b4 v x y b z A=U (.ok<|.lst B,j)):gF p b4 v x y b z A=U (.ok B,j):=by
 unfold cE at e;unfold gF;split at e
 .cases e
 .cases e
 .rename_i d
  split at e
  .rename_i i
   split at e
   .rename_i q
    cases e;simp only[i,Uf q]
   .cases e
  all_goals cases e
theorem RV(e:g b β=U (.ok ds,β1)):Mh g b β=U (.ok<|.lst ds,β1):=by
 unfold Mh;rw[M.bind_ok e];rfl
def Rk(i j:Nat):Ds->M a0c:=λa=>match a.getD i Y,a.getD j Y with
 |some (.own ds),U (.sh d)=>M.ofO<|(gs (.lst ds) d).bind dZ
 |_,_=>M.fail
theorem PP{g:G}(l:oh X.K z Q)(h:PS X (.For T x body [] pos)<|CB (Rj X.K<|tOp (xN X.K) (lM i)<|lM j) z<|tG X.K X.H₀ g E):PS X (.For T x body [] pos) (tG X.K X.H₀ (qD (Rk i j) Q g) E):=GV (λ{B C H M P N R} f r=>by
 unfold Rk at r;split at r
 .rename_i ds d b p
  obtain⟨s,e,k⟩:=run.ofO r;obtain⟨v,u,a,D,rfl,_,y,A⟩:=f.tell i _<|getD_some b;obtain⟨w,F,I⟩:=f.tell j _<|getD_some p;cases d<;>first|cases e|skip
  rename_i n;cases(show b5 X.K (d_ B C) H _ w from I).int;cases q:ra ds n with
  |none=>rw[show gs _ _=ra ds n from Z,q]at e;cases e
  |some c=>
   rw[show gs _ _=ra ds n from Z,q]at e;obtain⟨v,J,m⟩:=yX A q;refine⟨_,u,_,F,a,D,n,v,Z,Z,fy.of y,J,?_⟩;cases c<;>first
    |(cases e;obtain⟨a,o,rfl,t,L⟩:=b5.sqL m;exact .inl ⟨a,Z,⟨o,t⟩,k _ H (To.refl f.fr) (yt m)⟩)
    |(cases e;obtain⟨a,o,rfl,t,L⟩:=b5.sqT m;exact .inr ⟨a,Z,⟨o,t⟩,k _ H (To.refl f.fr) (AE m)⟩)
    |cases e
 .obtain⟨_,_,e,_⟩:=r
  cases e) l h
variable{a:Va}
end
end L2.Pu
namespace L2.Pu
open L2.Hs
def SrP(w D:a0F):Prop:=Up (w.map<|kl O)/\D.length<64/\∀k,k∈w↔k∈D
theorem ym:∀{w a:a0F},w.map (kl O)=a.map (kl O)->w=a
 |[],[],_=>rfl
 |[],_::_,h=>by cases h
 |_::_,[],h=>by cases h
 |x::w,y::a,h=>by
  obtain⟨b,c⟩:=XZ h;rw[ym c,show x=y from WM (XZ b).1 (XZ b).2]
theorem yk{w:a0F}:kl O k∈w.map (kl O)↔k∈w:=⟨λh=>by
 obtain⟨y,D,e⟩:=T7.mp h;rw[show k=y from WM (XZ e).1.symm (XZ e).2.symm];exact D,λh=>T7.mpr ⟨k,h,Z⟩⟩
theorem SrP.eq{D c E:a0F}(a:SrP D E)(b:SrP c E):D=c:=ym<|qf a.1 b.1 λx=>⟨λh=>by
 obtain⟨y,w,rfl⟩:=T7.mp h;exact yk.mpr<|(b.2.2 y).mpr<|(a.2.2 y).mp w,λh=>by
 obtain⟨y,w,rfl⟩:=T7.mp h;exact yk.mpr<|(a.2.2 y).mpr<|(b.2.2 y).mp w⟩
open Classical in
def sB:a0c->a0l
 |[.dct O ks _]=>if h:∃a,SrP a ks then U (.lst<|h.choose.map<|dK O)else Y
 |_=>Y
theorem K5{w a:a0F}(h:SrP a w):sB [.dct O w b]=U (.lst<|a.map<|dK O):=by
 have q:∃a,SrP a w:=⟨a,h⟩;unfold sB;simp only[dif_pos q];rw[q.choose_spec.eq h]
theorem vZ{K:UA}{F:Fx}{H:Hp}{w:Type}{f:w->D}{g:w->T8}:∀{a:List w},(∀z∈a,b5 K F H (f z)<|.ref<|g z)->bb K F H (a.map f) (a.map λz=>V.ref<|g z)
 |[],_=>bb.nil
 |z::a,h=>bb.cons (h z Ud)<|vZ λx E=>h x<|T3 z E
theorem JC{K:UA}:dh K (rF K) sB:=λF H G Q M d P fr h e k=>by
 unfold sB at e;split at e
 .rename_i ks u
  split at e
  .rename_i q
   cases e;have s:=q.choose_spec;generalize q.choose=ls at s k;obtain⟨v,rfl,g⟩:=bb.one h;obtain⟨a,E,D,rfl,o,rfl,i,A⟩:=g;refine⟨a,O,E,D,Z,o.2,λx w=>⟨(i x w).s,ZX<|Vp _⟩,by have:=s.2.1;rw[TX]at this;exact this,λl j m n p=>?_⟩;have c:∀z∈j,∃x∈D,z=kA O x:=λz b=>by
    obtain⟨x,w,e⟩:=T7.mp<|n.mem_iff.mp b;exact⟨x,w,e.symm⟩
   have r:ls=j.map λz=>(z.1.headD 0,z.1.tail):=ym (by
    rw[Ub];refine(qf s.1 p λy=>?_).trans<|UH λz b=>?_
    .constructor
     .intro hy
      obtain⟨t,f,rfl⟩:=T7.mp hy;obtain⟨x,w,rfl⟩:=T7.mp<|(s.2.2 t).mp f;exact T7.mpr ⟨kA O x,n.mem_iff.mpr<|T7.mpr ⟨x,w,Z⟩,Z⟩
     .intro hy
      obtain⟨z,b,rfl⟩:=T7.mp hy;obtain⟨x,w,rfl⟩:=c z b;exact yk.mpr<|(s.2.2 _).mpr<|T7.mpr ⟨x,w,Z⟩
    .obtain⟨x,w,rfl⟩:=c z b
     rfl)
   rw[r,Ub]at k;refine k _ _ (fr.upd _ m)<|b5.newL fr m<|vZ λz b=>?_;obtain⟨x,w,rfl⟩:=c z b;exact DB<|i x w
  .cases e
 .cases e
end L2.Pu
namespace HT
open PySem.SeqAt
open PySem.AutoSeq1 (wpAny_loadPart')
open PySem.MeetsSeq PySem.MeetsSeq2 PySem.MeetsSeq3
section
variable{a:UT}{w:UY}{A:Vn}{E:a0f}{s:Uj}
end
end HT
namespace L2
section
variable{X:Cx}
end
end L2
namespace L2.Pu
section
variable{X:Cx}{E:a0u}{E0:XK}{k:Nat}{f C:T8}{fd:Uw}{P:a0i}{c:Sp}{d:O2}{b:a0k}{ds:a0g}
variable{K:UA}{e:Expr}{p pos:Xp}
variable{o:Expr}{s:List Expr}{z:Va}{a:Xp}{x m:U3}{n:Nat}
def yJ(m:a0c->M a0c)(g:FL):FL:=λa=>M.bind (g a) m
theorem IA{m:a0c->M a0c}(G:e_ X.prog X.w X.K X.mg X.base (hO X.prog X.w) k f fd P<|spT X.K (dn X.K) n m)(y:d4 k X.A)(B:Gl X x)(hm:X.mg x=U (.ref f))(I:Zx X.K (.ref f)=O)(J:cz X.K fd P [])(hx:dL (hO X.prog X.w) X E)
  (ha:PA X (e::s)<|jm X.K g E) (hn:∀o z r c,g o z=U (.ok r,c)->r.length=n) (a:autoParam (b0c x) qX) (L:autoParam (b0a X e s) qQ) (b:autoParam (b0b X pos s) qQ):
  PE X (.Call (.Name x p) (e::s) [] pos) (E_ X.K (yJ m g) E):=
 (mB G y B hm I J .nil hx ha a L b).imp λσ H Q N=>la N λF o z fr cb r=>⟨F,o,z,fr,cb,by
  obtain⟨V,h,j,l⟩:=run.bind r;refine⟨V,h,j,?_⟩;cases V with
  |error C=>exact l
  |ok ds=>
   intro vs T t hd;obtain⟨d',D,q,i,u,S,W,r1⟩:=l vs T t hd;refine⟨by rw[UQ,<-hd.length,hn _ _ _ _ j],F,d',D,q.fr,by rw[UQ];exact i,u,S,W,?_⟩;cases u with
   |error C=>exact r1
   |ok d=>exact λv f5 R hv=>r1 v f5 R<|hv.pre q⟩
def Nq(i:Nat):G:=λa b=>match a.getD i Y with
 |some (.own _)=>U (.nx<|a.set i<|U<|.own [],b)
 |_=>Y
theorem PQ(h:PS X z<|wA<|Po X.K "list" HG<|lM i):PS X z (tG X.K X.H₀ (Nq i) E):=h.imp λD u H g=>by
 obtain⟨B,k,m,n,o,j,ok,e,q⟩:=g;unfold Nq at e;split at e
 case h_2=>cases e
 rename_i p l;cases e;obtain⟨v,d,a,f,rfl,r,b,y⟩:=ok.tell i _<|getD_some l;refine⟨_,d,.inl ⟨Z,f,fy.of b⟩,a,f,Z,Z,b,?_⟩;obtain⟨c,t⟩:=ok.writeOwn d r b bb.nil;exact q _ _ _ t c
end
section
variable{X:Cx}{E:XK}{e:Expr}{pos:Xp}{o:a0R}{g:FL}
def Nv(i:Nat)(f:FD)(g:FL):FL:=λe=>M.bind (f e) λd=>g<|e.set i<|U d
theorem Py(h:PS X (.Assign [.Name x pos'] e pos)<|gr (tV X.K f (λ_=>E))<|d7 i)(c:PSs X o<|uy<|E_ X.K g (λ_=>E)):PSs X (.Assign [.Name x pos'] e pos::o) (uy<|E_ X.K (Nv i f g) (λ_=>E)):=
 (dj h c).imp λD m H a=>la a λF M V fr b r=>⟨F,M,V,fr,b,(run.bind r).mono λv n a=>by
  obtain⟨d,w,t,p,P,G,e,S⟩:=a;refine⟨F,M.set i<|U d,w,t.fr,(b.tr<|t.tr fr).set p,P,G,e,?_⟩;cases P with
  |error C=>exact S
  |ok d=>exact λv j k l=>S v j k<|l.pre t⟩
end
end L2.Pu
namespace L2.Hs
end L2.Hs
namespace L2.Pu
open L2.Hs
def DZ:a0c->a0l
 |[.bl k]=>U<|.int (if k then 1 else 0)
 |_=>Y
theorem JH{K:UA}:dh K (λw H Q=>(∃i,w=[.int i]/\Q (.int i) H)\/∃k,w=[.bl k]/\Q (.int (if k then 1 else 0)) H) DZ:=λF H D Q E d G fr h e k=>by
 unfold DZ at e;split at e
 .rename_i b
  cases e;obtain⟨v,rfl,a⟩:=bb.one h;cases(show v=V.bl b from a);exact .inr ⟨b,Z,k _ _ (To.refl fr) Z⟩
 .cases e
end L2.Pu
namespace Law
open L2 L2.Pu
open L2.Hs (xT kq np zU ng jN kB)
noncomputable def cy(i:Nat):Va:=PySem.Challenge.pw_edgetally_k31_ends_small.main.body.getD i<|.Pass ⟨0,0,0,0⟩
abbrev ql:Va:=cy 93
set_option genSizeOf false in
set_option genInjectivity false in
structure Ad where
 Aa:T8
 Ab:T8
 Ac:Uw
 Ae:T8
 Af:T8
 Ag:T8
 Ah:Uw
 Ai:T8
 Aj:Uw
 Ak:T8
 Al:Uw
 Am:T8
 An:Uw
 Ao:T8
 Aq:Uw
 Ar:T8
 As:Uw
 At:T8
 Au:Uw
 Av:T8
 Aw:Uw
 Ax:T8
 Ay:Uw
 Az:T8
 A0:Uw
 A1:T8
 A2:Uw
 A3:T8
 A4:Uw
 A5:T8
 A6:Uw
 A7:T8
 A8:Uw
 A9:T8
 Ba:Uw
 Bb:T8
 Bc:Uw
 Bd:T8
 Be:Uw
 Bf:T8
 Bh:Uw
 Bi:T8
 Bj:Uw
 Bk:T8
 Bl:Uw
 Bm:T8
 Bn:Uw
 Bo:T8
 Bp:Uw
 Bq:T8
 Br:Uw
 Bs:T8
 Bt:Uw
 Bu:T8
 Bv:Uw
 Bw:T8
 Bx:Uw
 By:T8
 Bz:Uw
 B0:T8
 B5:Uw
 B7:T8
 B8:Uw
 Ca:T8
 Cb:Uw
 Cc:T8
 Cd:Uw
 Cf:T8
 Cg:Uw
 Ch:T8
 Ci:Uw
 Cj:T8
 Ck:Uw
 Cl:T8
 Cm:Uw
 Cn:T8
 Co:Uw
 Cp:T8
 Cq:Uw
 Cr:T8
 Cs:Uw
 Ct:T8
 Cu:Uw
 Cv:T8
 Cw:Uw
 Cy:T8
 Cz:Uw
 C0:T8
 C2:Uw
 C3:T8
 C4:Uw
 C5:T8
 C6:Uw
 C7:T8
 C8:Uw
 C9:T8
 Da:Uw
 Db:T8
 Dc:Uw
 Dd:T8
 Df:Uw
 Dg:T8
 Dh:Uw
 Di:T8
 Dj:Uw
 Dl:T8
 Dm:Uw
 Do:T8
 Dp:Uw
 Dq:T8
 Dr:Uw
 Dt:T8
 Du:Uw
 Dv:T8
 Dw:Uw
 Dx:T8
 Dy:Uw
 Dz:T8
 D0:Uw
 D3:T8
 D4:Uw
 D5:T8
 D6:Uw
 D7:T8
 D8:Uw
 D9:T8
 Ea:Uw
 Eb:T8
 Ec:Uw
 Ed:T8
 Ee:Uw
 Ef:T8
 Eg:Uw
 Eh:T8
 Ei:Uw
 Ej:T8
 Ek:Uw
 El:T8
 Em:Uw
 En:T8
 Eo:Uw
 Ep:T8
 Er:Uw
 Es:T8
 Et:Uw
 Eu:T8
 Ev:Uw
 Ew:T8
 Ex:Uw
 Ey:T8
 Ez:Uw
 E2:T8
 E3:Uw
 E4:T8
 E5:Uw
 E6:T8
 E7:Uw
 E8:T8
 E9:Uw
 Fa:T8
 Fb:Uw
structure x_ (K:UA) (mg:a0j) (a:Ad):Prop where
 Fc:mg "ValueError"=Y
 Fd:mg "abs"=Y
 Fe:mg "any"=Y
 Ff:mg "bool"=Y
 Fg:mg "enumerate"=Y
 Fh:mg "int"=Y
 Fi:mg "isinstance"=Y
 Fj:mg "len"=Y
 Fk:mg "list"=Y
 Fl:mg "max"=Y
 Fm:mg "min"=Y
 Fn:mg "range"=Y
 Fo:mg "reversed"=Y
 Fp:mg "sorted"=Y
 Fq:mg "str"=Y
 Fs:mg "sum"=Y
 Ft:mg "tuple"=Y
 Fu:mg "zip"=Y
 Fv:iQ K mg "BY_PLACE" (.tup [.str<|Uy "most",.str<|Uy "least"])
 Fw:iQ K mg "BY_PRODUCT" (.tup [.str<|Uy "rare",.str<|Uy "power"])
 Fy:iQ K mg "KINDS" (.tup [.str<|Uy "rare",.str<|Uy "square",.str<|Uy "power",.str<|Uy "off",.str<|Uy "most",.str<|Uy "least"])
 Fz:iQ K mg "MOST" (.int 40)
 F4:iQ K mg "MOST_COLUMNS" (.int 6)
 F5:iQ K mg "MOST_ROWS" (.int 4)
 F6:iQ K mg "WIDE" (.int 500)
 F7:g8 K "free" "free" (cy 15) a.Ag a.Ah
 F8:mg "free"=U (.ref a.Ag)
 F9:cF K a.Ah ["rows","columns","pair"] [.tup [.int 0,.int 40]]
 Ga:f0 K mg "check_sums" (cy 16) a.Ai a.Aj ["rowsums","columnsums"]
 Gb:f0 K mg "check_there" (cy 17) a.Ak a.Al ["place","many"]
 Gc:f0 K mg "check_cell" (cy 18) a.Am a.An ["row","column","rows","columns"]
 Gd:f0 K mg "check_pair" (cy 19) a.Ao a.Aq ["pair"]
 Ge:f0 K mg "settled_bounds" (cy 20) a.Ar a.As ["bounds","rows","columns"]
 Gf:f0 K mg "factorial" (cy 23) a.At a.Au ["number"]
 Gg:f0 K mg "power" (cy 24) a.Av a.Aw ["base","many"]
 Gh:f0 K mg "ways" (cy 25) a.Ax a.Ay ["parts"]
 Gi:f0 K mg "common_factor" (cy 26) a.Az a.A0 ["one","other"]
 Gj:f0 K mg "fillings" (cy 27) a.A1 a.A2 ["rests","many","pairs"]
 Gk:f0 K mg "need_of" (cy 29) a.A3 a.A4 ["rowsums","over"]
 Gm:f0 K mg "room_inside" (cy 30) a.A5 a.A6 ["columnsums","bounds","over","column"]
 Gn:f0 K mg "room_beside" (cy 31) a.A7 a.A8 ["bounds","over","column"]
 Go:f0 K mg "room_of" (cy 32) a.A9 a.Ba ["columnsums","bounds","over","into"]
 Gp:f0 K mg "narrowest" (cy 33) a.Bb a.Bc ["columnsums","bounds","over"]
 Gq:f0 K mg "choices" (cy 34) a.Bd a.Be ["many"]
 Gr:f0 K mg "check_fit" (cy 35) a.Bf a.Bh ["rowsums","columnsums","bounds"]
 Gs:f0 K mg "check_wide" (cy 38) a.Bi a.Bj ["rowsums"]
 Gu:f0 K mg "settled_for_net" (cy 39) a.Bk a.Bl ["rowsums","columnsums","bounds"]
 Gv:f0 K mg "column_fillings" (cy 40) a.Bm a.Bn ["rests","columnsums","bounds","column"]
 Gx:f0 K mg "rests_behind" (cy 41) a.Bo a.Bp ["rests","counts"]
 Gy:f0 K mg "nodes_by_level" (cy 42) a.Bq a.Br ["rowsums","columnsums","bounds"]
 Gz:f0 K mg "node_counts" (cy 43) a.Bs a.Bt ["rests","filled","behind"]
 G0:f0 K mg "counted_nodes" (cy 44) a.Bu a.Bv ["rowsums","columnsums","bounds"]
 G1:f0 K mg "paper_rows" (cy 45) a.Bw a.Bx ["counted"]
 G2:f0 K mg "check_same_sums" (cy 48) a.By a.Bz ["net","measure"]
 G3:f0 K mg "node_ends" (cy 49) a.B0 a.B5 ["net","measure","level","rests","found"]
 G4:f0 K mg "ends_by_node" (cy 50) a.B7 a.B8 ["net","measure"]
 G5:f0 K mg "ends" (cy 51) a.Ca a.Cb ["net","measure"]
 G6:f0 K mg "least_common" (cy 56) a.Cc a.Cd ["numbers"]
 G7:f0 K mg "power_part" (cy 57) a.Cf a.Cg ["counts"]
 G8:f0 K mg "square_part" (cy 58) a.Ch a.Ci ["counts","products","even"]
 G9:f0 K mg "off_part" (cy 59) a.Cj a.Ck ["counts","products","things"]
 Ha:f0 K mg "_law_bag" (cy 62) a.Cl a.Cm ["_law_script"]
 Hb:f0 K mg "_law_pull" (cy 63) a.Cn a.Co ["_law_bag_here","_law_lot"]
 Hc:f0 K mg "_law_same" (cy 64) a.Cp a.Cq ["_law_found","_law_due"]
 Hd:f0 K mg "_law_grid" (cy 65) a.Cr a.Cs ["_law_bag_here","_law_block","_law_columns","_law_things"]
 He:f0 K mg "_law_small" (cy 66) a.Ct a.Cu ["_law_bag_here"]
 Hf:f0 K mg "_law_turned" (cy 67) a.Cv a.Cw ["_law_block"]
 Hg:f0 K mg "_law_rowsums" (cy 68) a.Cy a.Cz ["_law_grid_here"]
 Hh:f0 K mg "_law_columnsums" (cy 69) a.C0 a.C2 ["_law_grid_here"]
 Hi:f0 K mg "_law_free" (cy 70) a.C3 a.C4 ["_law_block","_law_columns"]
 Hj:f0 K mg "_law_bounds" (cy 71) a.C5 a.C6 ["_law_bag_here","_law_grid_here"]
 Hk:f0 K mg "_law_copied" (cy 72) a.C7 a.C8 ["_law_block"]
 Hl:f0 K mg "_law_fit" (cy 73) a.C9 a.Da ["_law_rests","_law_lot","_law_pairs"]
 Hm:f0 K mg "_law_less" (cy 74) a.Db a.Dc ["_law_rests","_law_column"]
 Hn:f0 K mg "_law_listing" (cy 75) a.Dd a.Df ["_law_rowsums_here","_law_columnsums_here","_law_limits"]
 Ho:f0 K mg "_law_factorial" (cy 76) a.Dg a.Dh ["_law_lot"]
 Hq:f0 K mg "_law_ways" (cy 77) a.Di a.Dj ["_law_parts"]
 Hr:f0 K mg "_law_gcd" (cy 78) a.Dl a.Dm ["_law_one","_law_other"]
 Ht:f0 K mg "_law_kind" (cy 79) a.Do a.Dp ["_law_bag_here"]
 Hu:f0 K mg "_law_place" (cy 80) a.Dq a.Dr ["_law_bag_here","_law_grid_here"]
 Hv:f0 K mg "_law_even" (cy 81) a.Dt a.Du ["_law_rowsums_here","_law_columnsums_here"]
 Hw:f0 K mg "_law_self_power" (cy 82) a.Dv a.Dw ["_law_count"]
 Hx:f0 K mg "_law_net" (cy 83) a.Dx a.Dy ["_law_grid_here","_law_limits"]
 Hy:f0 K mg "_law_scale" (cy 84) a.Dz a.D0 ["_law_kind_here","_law_grid_here","_law_where"]
 Hz:f0 K mg "_law_nodes" (cy 85) a.D3 a.D4 ["_law_rowsums_here","_law_columnsums_here","_law_limits"]
 Ia:f0 K mg "_law_counted" (cy 86) a.D5 a.D6 ["_law_rowsums_here","_law_columnsums_here","_law_limits"]
 Ib:f0 K mg "_law_counts_from" (cy 87) a.D7 a.D8 ["_law_columnsums_here","_law_limits","_law_node"]
 Id:f0 K mg "_law_living" (cy 88) a.D9 a.Ea ["_law_rowsums_here","_law_columnsums_here","_law_limits"]
 Ie:f0 K mg "_law_part" (cy 89) a.Eb a.Ec ["_law_kind_here","_law_sides_here","_law_where","_law_to","_law_column"]
 Ig:f0 K mg "_law_together" (cy 90) a.Ed a.Ee ["_law_kind_here","_law_one","_law_other"]
 Ih:f0 K mg "_law_begun" (cy 91) a.Ef a.Eg ["_law_kind_here"]
 Ii:f0 K mg "_law_sides" (cy 92) a.Eh a.Ei ["_law_grid_here"]
 Ij:g8 K "__init__" "Net.__init__" (bX (cy 46) 0) a.Ej a.Ek
 Ik:Mk K a.Ae a.Ej
 Il:D_ K a.Ek ["self","rowsums","columnsums","bounds"] ["bounds"] 3 [.kw 0]
 Im:g8 K "__init__" "Measure.__init__" (bX (cy 60) 0) a.El a.Em
 Io:Mk K a.Af a.El
 Ip:D_ K a.Em ["self","kind","rowsums","columnsums","place"] ["place"] 4 [.kw 0]
 Iq:g8 K "rowsums" "Net.rowsums" (bX (cy 46) 3) a.En a.Eo
 Ir:k_ K a.Ae "rowsums" a.En
 Iu:cz K a.Eo ["self"] []
 Iw:g8 K "rowsums" "Measure.rowsums" (bX (cy 60) 1) a.Ep a.Er
 Ix:k_ K a.Af "rowsums" a.Ep
 Iy:cz K a.Er ["self"] []
 Iz:g8 K "columnsums" "Net.columnsums" (bX (cy 46) 4) a.Es a.Et
 I0:k_ K a.Ae "columnsums" a.Es
 I9:cz K a.Et ["self"] []
 Ja:g8 K "columnsums" "Measure.columnsums" (bX (cy 60) 2) a.Eu a.Ev
 Jb:k_ K a.Af "columnsums" a.Eu
 Jc:cz K a.Ev ["self"] []
 Jd:g8 K "paper" "Net.paper" (bX (cy 46) 10) a.Ew a.Ex
 Je:k_ K a.Ae "paper" a.Ew
 Jf:cz K a.Ex ["self"] []
 Jg:g8 K "steps" "Net.steps" (bX (cy 46) 9) a.Ey a.Ez
 Jh:k_ K a.Ae "steps" a.Ey
 Ji:cz K a.Ez ["self","level","rests"] []
 Jj:g8 K "counts_at" "Net.counts_at" (bX (cy 46) 6) a.E2 a.E3
 Jk:k_ K a.Ae "counts_at" a.E2
 Jl:cz K a.E3 ["self","level","rests"] []
 Jm:g8 K "part" "Measure.part" (bX (cy 60) 3) a.E4 a.E5
 Jn:k_ K a.Af "part" a.E4
 Jo:cz K a.E5 ["self","column","counts"] []
 Jp:g8 K "begun" "Measure.begun" (bX (cy 60) 5) a.E6 a.E7
 Jq:k_ K a.Af "begun" a.E6
 Jr:cz K a.E7 ["self"] []
 Js:g8 K "together" "Measure.together" (bX (cy 60) 4) a.E8 a.E9
 Jt:k_ K a.Af "together" a.E8
 Ju:cz K a.E9 ["self","one","other"] []
 Jv:u_ K a.Ae
 Jw:mg "Net"=U (.ref a.Ae)
 Jx:c7 K a.Ae "column_list"
 Jy:c7 K a.Ae "counted"
 Jz:c7 K a.Ae "pairs"
 J0:c7 K a.Ae "row_list"
 J1:u_ K a.Af
 J2:mg "Measure"=U (.ref a.Af)
 J3:c7 K a.Af "column_list"
 J4:c7 K a.Af "even"
 J5:c7 K a.Af "kind"
 J6:c7 K a.Af "place"
 J7:c7 K a.Af "row_list"
 J8:g8 K "__init__" "EdgeError.__init__" (bX (cy 2) 0) a.Ab a.Ac
 J9:cz K a.Ac ["self","word","why"] []
 Ka:mg "EdgeError"=U (.ref a.Aa)
 Kb:ClsFn K a.Aa "__init__" a.Ab
section
variable{P:UT}{w:UY}{K:UA}{mg:a0j}{aa:Vl}{a:Ad}
theorem kM:bi ["_law_bag_here","_law_lot","_law_cells","_law_at","_law_cell"] ["_law_bag_here","_law_lot"] (ag<|cy 63):=ej
theorem HW(N:x_ K mg a):e_ P w K mg aa (hO P w) 2 a.Cn a.Co ["_law_bag_here","_law_lot"] (P_ K 2 dO):=by
 refine N.Hb.F.ok kM (λvs H Q E h=>h.1) (λek A x s H vs Q E hr h=>?_);obtain⟨_,F,ds,D,fr,hd,r,f5,e,k⟩:=h;obtain⟨G,rfl,ok,I,h1,rfl,rfl⟩:=IK e;obtain⟨v,w',rfl,d1,d2⟩:=bb.two hd;unfold b5 at d1;obtain⟨b,l,d,rfl⟩:=d1;cases d2.int;obtain⟨t,J⟩:=fr.bag b l d;obtain⟨ab,al,m⟩:=fr.bgA b l d;obtain⟨W,L,ac,X⟩:=ok.at;obtain⟨_,_,ad,_⟩:=zJ ok I;have M:((D.cells.map V.int).length:Int)=(D.cells.length:Int):=by rw[TX]
 refine⟨_,dj (tj (i:=2) kM.nd Z (Wm Z)<|ib eM (pv 0) cr (λ_ _=>Z))
  (dj (tj (i:=3) kM.nd Z (Wm Z)<|fm j8 (ib eM (pv 0) cr (λ_ _=>Z))<|nh pR mo N.Fj PySem.boot_len<|gi (pv 2) j6)
  (dj (tj (i:=4) kM.nd Z (Wm Z)<|ib eM (pv 2) (pv 3) (λ_ _=>Z))
  (dj (M4 (zL SA (pv 4) (fm Qr cr cr)<|xW _)
   (dj (eK (fm zV (pv 4)<|pv 1)<|gC (pv 2) (pv 3) iu)<|mz<|aq<|fm j8 (pv 4)<|pv 1) uK)
  (dj (eK (fm tu (ib eM (pv 0) cr (λ_ _=>Z)) cr)<|gC (pv 0) cr iu)
  (dj (eK (fm j8 (fm Qt (fm tu (fm tu (ib eM (pv 0) cr (λ_ _=>Z))<|fm j8 (pv 4) cr) cr) cr) cr)<|gC (pv 0) cr iu)
  (mz<|aq<|fm j8 (fm zV (ib eM (pv 0) cr (λ_ _=>Z)) cr)<|pv 1)))))),?_⟩
 refine⟨_,Z,b,_,_,_,Z,Z,fy.of t,Z,⟨_,Z,b,_,_,_,Z,Z,fy.of t,Z,_,Z,l,_,Z,.inl<|fy.of J,_,_,Z,Z,?_,?_⟩⟩
 .have:=W
  rw[M];lia
 refine⟨_,Z,_,Z,l,_,_,_,Z,Z,fy.of J,by rw[M,X];exact (O8 (by rw[T9,L];rfl)),⟨_,Z,_,_,Z,Z,⟨vy,vy,vy⟩,_,_,Z,Z,_,Z,?_⟩⟩;have S:∀{R:Hp} {p:T8} {o:HO},(∀c,F.A c->R c≠Y)->∀c,F.A c->upd R p o c≠Y:=λ{R p o} f c u z=>by
  by_cases q:c=p
  .subst q;rw[aw]at z;cases z
  .rw[bt q]at z;exact f c u z
 refine ite2 (λg=>?_) (λg=>?_)
 .have big:=WE g
  refine⟨_,Z,_,Z,_,_,Z,Z,⟨I,h1⟩,_,Z,_,Z,l,_,_,D.pos,Z,Z,J,?_,?_⟩
  .rw[M,X,TX]
   unfold u3;rw[Uf rk,Uf rk];simp
  refine⟨_,Z,_,Z,_,_,Z,Z,I,?_⟩;have T:k8 D G=D.cell % G:=Uf big;have cb:m9 D G=⟨D.cells.set _<|D.cell/G,D.i,D.j⟩:=Uf big;rw[T,cb]at k;refine k _ _ ⟨λc o u n=>by rw[bt (n b l d).2];exact u,S fr.occ,fr.bgA,λb' l' y=>?_⟩ Z;rw[d]at y;cases y;exact⟨by rw[bt m];exact t,by rw[aw,Zg]⟩
 .have big:=λq=>g<|Ux q
  refine⟨_,Z,b,_,_,_,Z,Z,fy.of t,Z,_,_,Z,Z,_,Z,b,_,_,1,Z,Z,t,Z,?_⟩;have B:(upd H b<|.lst [.ref l,.int<|D.i+1,.int D.j]) b=U _:=aw;refine⟨_,Z,b,_,_,_,Z,Z,fy.of B,Z,_,Z,_,_,Z,Z,(by show(0:Int)<2147483629;decide),_,_,Z,Z,_,_,Z,Z,_,_,Z,Z,.inr ⟨vy,vy⟩,_,_,Z,Z,(by show(0:Int)<2147483629;decide),_,Z,b,_,_,2,Z,Z,B,Z,?_⟩;have C:(upd (upd H b<|.lst [.ref l,.int<|D.i+1,.int D.j]) b<|.lst [.ref l,.int<|D.i+1,.int D.nxt]) b=U _:=aw;refine⟨_,Z,b,_,_,_,Z,Z,fy.of C,Z,_,_,Z,Z,⟨vy,vy⟩,_,Z,_,_,Z,Z,I,?_⟩;have T:k8 D G=D.nxt/64 % G:=Uh big;have cb:m9 D G=⟨D.cells,D.i+1,D.nxt⟩:=Uh big;rw[T,cb]at k;refine k _ _ ⟨λc o u n=>by rw[bt (n b l d).1,bt (n b l d).1];exact u,S<|S fr.occ,fr.bgA,λb' l' y=>?_⟩ Z;rw[d]at y;cases y;exact⟨C,by rw[bt m.symm,bt m.symm];exact J⟩
theorem Lb:bi ["_law_script"] ["_law_script"] (ag<|cy 62):=ej
theorem nd1:(["_law_cell"]:a0i).Nodup:=by decide +kernel
theorem Ly(N:x_ K mg a):e_ P w K mg aa (hO P w) 1 a.Cl a.Cm ["_law_script"] (Sf K):=by
 refine N.Ha.F.ok Lb (λS H Q E h=>?_) (λek A M s H S Q E hr h=>?_)
 .obtain⟨a,ns,rfl,_⟩:=h
  rfl
 .obtain⟨a,ns,rfl,f5,k⟩:=h
  refine⟨_,mz<|aq<|fF<|gi (fm Qv (qo Z (c_.plain Z (by decide +kernel)<|by decide +kernel) (Ob<|rJ zt (pv 0) zP<|zO cr)
   (λcl C fp s H=>⟨zR (i:=0) nd1 Z<|Wm Z,xS,λD=>aI Z (nh rY mo N.Fd Boot.«abs»<|gi (pv 0) j6) Z⟩))<|fF<|gi cr j6)<|gi cr<|gi cr j6,?_⟩
  obtain⟨q,J,ab⟩:=TM ns;refine⟨_,Z,63,Z,a,_,Z,f5,λp hp=>?_⟩;rw[J];have eH:cj H (upd H p<|.lst<|q.map V.int):=cj.upd hp;refine⟨p,Z,⟨_,fy.of aw⟩,λD B=>?_⟩;have r:D≠p:=λz=>by subst z;rw[aw]at B;cases B
  refine EO (λi I g=>∃G:a0e,(∃v,I=[v])/\G.length=i/\(∀c∈G,0<=c)/\g D=U (.lst<|G.map V.int)/\g p=U (.lst<|q.map V.int)/\cj H g) ⟨[],⟨_,Z⟩,Z,(λ_ h=>nomatch h),aw,by rw[bt r.symm,aw],eH.trans<|cj.upd B⟩
   (λi I g _ ⟨_,_,_,_,_,e,_⟩=>fy.of e) ?_ ?_
  .rintro i x I g n ⟨G,⟨v,rfl⟩,l,m,d,t,u⟩
   have ac:i<q.length:=by have:=(Ui.mp n).1;rwa[TX]at this
   obtain⟨z,rfl⟩:∃z,x=V.int z:=by
    rw[T9]at n;cases e:q[i]? with
    |none=>rw[e]at n;cases n
    |some z=>rw[e]at n;exact⟨z,(UR n).symm⟩
   unfold d7 Pl;refine iteT<|⟨_,Z,_,Z,G.map _,d,by rw[TX];exact vt rk,G++[if z<0 then -z else z],⟨_,Z⟩,by rw[Uv,l];rfl,λc hc=>?_,by rw[aw,UK];rfl,by rw[bt r.symm];exact t,λb o e=>?_⟩
   .obtain hc|hc:=Vr.mp hc
    .exact m c hc
    .obtain rfl:c=_:=by simpa using hc
     split<;>lia
   .rw[bt<|aP e<|eH.free B]
    exact u b o e
  .rintro I g ⟨G,⟨v,rfl⟩,l,m,d,t,u⟩
   rw[TX]at l;refine⟨vy,λR j=>⟨D,R,_,_,Z,Z,by rw[bt<|aP d j];exact d,aw,by exact Xu (vt<|by simp;lia),λT y=>⟨(by show 3<=UC;decide),λcb f=>?_⟩⟩⟩;have W:cj g (upd g R<|.lst [V.int 1]):=cj.upd j;have X:=W.trans<|cj.upd (o:= .lst<|G.map V.int++[V.int 1]) y;have L:T≠cb:=λz=>by subst z;rw[aw]at f;cases f
   refine k cb T _ ((u.trans X).free f) ((u.trans W).free y) ⟨G++[1],0,0,aw,by rw[bt L,aw,UK];rfl,nl,by simp;lia,λc hc=>?_,vy⟩<|(u.trans X).trans<|cj.upd f;obtain hc|hc:=Vr.mp hc
   .exact m c hc
   .obtain rfl:c=1:=by simpa using hc
    decide
theorem bA(N:x_ K mg a):FB P w K mg aa 2 "_law_pull" a.Cn a.Co ["_law_bag_here","_law_lot"] 2 dO:=⟨HW N,N.Hb.m,N.Hb.F.kp,N.Hb.b⟩
structure q00 where
 v:a0c->M D
 P:(a0c->M D)->Prop
 h:P v
abbrev QF(K:UA)(a:Ad)(k:Nat)(x:U3)(f:T8)(d:Uw)(E:a0i)(n:Nat)(m:a0c->M D):Prop:=∀{P:UT} {w:UY} {mg:a0j} {aa:Vl} (N:x_ K mg a),FB P w K mg aa k x f d E n m
theorem q01{K:UA}{a:Ad}{k:Nat}{x:U3}{f:T8}{d:Uw}{E:a0i}{n:Nat}{m:a0c->M D}(h:QF K a k x f d E n m){P:UT}{w:UY}{mg:a0j}{aa:Vl}(N:x_ K mg a):FB P w K mg aa k x f d E n m:=h N
abbrev QM(K:UA)(a:Ad)(k:Nat)(f:T8)(d:Uw)(E:a0i)(n:Nat)(m:a0c->M D):Prop:=∀{P:UT} {w:UY} {mg:a0j} {aa:Vl} (N:x_ K mg a),e_ P w K mg aa (hO P w) k f d E (P_ K n m)
theorem q10{K:UA}{a:Ad}{k:Nat}{f:T8}{d:Uw}{E:a0i}{n:Nat}{m:a0c->M D}(h:QM K a k f d E n m){P:UT}{w:UY}{mg:a0j}{aa:Vl}(N:x_ K mg a):e_ P w K mg aa (hO P w) k f d E (P_ K n m):=h N
theorem N1:bi ["rows","columns","pair"] ["rows","columns","pair"] (ag<|cy 15):=ej
def P8(K:UA)(a:Ad):q00:=⟨_,QM K a 2 a.Ag a.Ah ["rows","columns","pair"] 3,λN=>by
 exact gU 3 3 _ N.F7 N1 Z Z λb A w s H E d=>ai<|ay<|aq<|bh Z (hU ["row","pair","columns"] ["row"] [2,1]) (cB mo N.Fn<|dc<|vv 0) (λG C c s H=>⟨(dk 0 eP),aX,λD=>aI Z (bh Z (hU ["column","pair"] ["column"] [1]) (cB mo N.Fn<|dc<|vv 2) (λG C c s H=>⟨(dk 0 eP),aX,λD=>aI Z (vv 1) Z⟩) ao au (λD=>aN)) Z⟩) ao au (λD=>aN)⟩
theorem wu:bi ["rowsums","columnsums"] ["rowsums","columnsums"] (ag<|cy 16):=ej
def fZ(K:UA)(a:Ad):q00:=⟨_,QF K a 2 "check_sums" a.Ai a.Aj ["rowsums","columnsums"] 2,λN=>by
 exact f_ 2 N.Ga wu λb A w s H E c=>af (bK (qh<|ux ld ld pw pw (ak) (cT N.Fj<|dc<|vv 0)<|lZ N.F5) (ai<|dD)<|bu)
   (af (bK (qh<|ux ld ld pw pw (ak) (cT N.Fj<|dc<|vv 1)<|lZ N.F4) (ai<|dD)<|bu)
   (af (bK (l5<|ut (qg<|bL (pS Z) DR mo N.Fe Boot.«any»<|dc<|bh Z (hU ["many"] ["many"] []) (aQ<|vv 0) (λG C d s H=>⟨(dk 0 eP),aX,λD=>aI Z (jz tq yj (vv 0)<|ak) Z⟩) ao au (λD=>aN))<|qa<|qg<|bL (pS Z) DR mo N.Fe Boot.«any»<|dc<|bh Z (hU ["many"] ["many"] []) (aQ<|vv 1) (λG C d s H=>⟨(dk 0 eP),aX,λD=>aI Z (jz tq yj (vv 0)<|ak) Z⟩) ao au (λD=>aN)) (ai<|dD)<|bu)
   (af (bK (aU (gD c) iJ (fW N.Fs<|dc<|vv 0)<|fW N.Fs<|dc<|vv 1) (ai<|dD)<|bu)
   (ai<|bK (aU gj iF (fW N.Fs<|dc<|vv 0)<|lZ N.Fz) (ai<|dD)<|bu))))⟩
theorem uD:bi ["place","many"] ["place","many"] (ag<|cy 17):=ej
def fE(K:UA)(a:Ad):q00:=⟨_,QF K a 2 "check_there" a.Ak a.Al ["place","many"] 2,λN=>by
 exact f_ 2 N.Gb uD λb A w s H E c=>ai<|bK (qh<|ux ld tq pw yj (ak) (vv 0)<|vv 1) (ai<|dD)<|bu⟩
theorem wv:bi ["row","column","rows","columns"] ["row","column","rows","columns"] (ag<|cy 18):=ej
def h9(K:UA)(a:Ad):q00:=⟨_,QF K a 3 "check_cell" a.Am a.An ["row","column","rows","columns"] 4,λN=>by
 exact f_ 4 N.Gc wv λc A w s H E b=>af (hV<|cc<|vc (q01 (fE K a).3 N) b<|dr (vv 0)<|vv 2)
   (ai<|hV<|cc<|vc (q01 (fE K a).3 N) b<|dr (vv 1)<|vv 3)⟩
theorem ji:bi ["pair","low","high"] ["pair"] (ag<|cy 19):=ej
def j3(K:UA)(a:Ad):q00:=⟨_,QF K a 2 "check_pair" a.Ao a.Aq ["pair"] 1,λN=>by
 exact f_ 3 N.Gd ji λb A w s H E c=>af (CP (fG (bq az<|bq az dW)<|bp<|bp di)<|eK (vv 0)<|bB Z<|ar (dk 1 ji.nd)<|ar (dk 2 ji.nd) bo)
   (ai<|bK (qh<|KY ld ld ld pw pw pw (ak) (vv 1) (vv 2)<|lZ N.Fz) (ai<|dD)<|bu)⟩
theorem gu:bi ["bounds","rows","columns","pairs","pair"] ["bounds","rows","columns"] (ag<|cy 20):=ej
def dH(K:UA)(a:Ad):q00:=⟨_,QF K a 3 "settled_bounds" a.Ar a.As ["bounds","rows","columns"] 3,λN=>by
 exact f_ 5 N.Ge gu λd A w s H E b=>af (bK (aU xU DQ (vv 0)<|BS) (ai<|ay<|aq<|NL (q10 (P8 K a).3 N) (b.mono vy) mo N.F8 N.F7.kp N.F9 cM (dr (vv 1)<|vv 2) (λG M r c h=>by rw[(aZ<|aZ C_) G M r c h];rfl))<|bu)
   (af (bK (l5<|ut (aU (gD b) iJ (cT N.Fj<|dc<|vv 0)<|vv 1)<|qa<|qg<|bL (pS Z) DR mo N.Fe Boot.«any»<|dc<|bh Z (hU ["pairs","columns"] ["pairs"] [2]) (aQ<|vv 0) (λP C e s H=>⟨(dk 0 eP),aX,λD=>aI Z (jz (gD b) iJ (cT N.Fj<|dc<|vv 0)<|vv 1) Z⟩) ao au (λD=>aN)) (ai<|dD)<|bu)
   (af (br az<|aW bD Z (aQ<|vv 0) (dk 3 gu.nd)<|ai<|br az<|aW bD Z (aQ<|vv 3) (dk 4 gu.nd)<|ai<|hV<|cc<|vc (q01 (j3 K a).3 N) b<|dc<|vv 4)
   (ai<|ay<|aq<|bh Z (hU ["pairs"] ["pairs"] []) (aQ<|vv 0) (λP C e s H=>⟨(dk 0 eP),aX,λD=>aI Z (bR bP f8 mo N.Fk Boot.«list»<|dc<|vv 0) Z⟩) ao au (λD=>aN))))⟩
theorem hG:bi ["number","product","factor"] ["number"] (ag<|cy 23):=ej
def iH(K:UA)(a:Ad):q00:=⟨_,QF K a 2 "factorial" a.At a.Au ["number"] 1,λN=>by
 exact f_ 3 N.Gf hG λb A w s H E c=>af (aF<|d5 1 hG.nd<|ak)
   (af (br az<|aW bD Z (nM mo N.Fn<|dr (ak)<|aG aS bM (vv 0)<|ak) (dk 2 hG.nd)<|ai<|m3 qv<|j4 (i:=1) hG.nd Z (by first|exact Wm Z|exact Xn Z) (vv 2) qz)
   (ai<|ay<|aq<|vv 1))⟩
theorem mX:bi ["base","many","product","factor"] ["base","many"] (ag<|cy 24):=ej
def uH(K:UA)(a:Ad):q00:=⟨_,QF K a 2 "power" a.Av a.Aw ["base","many"] 2,λN=>by
 exact f_ 4 N.Gg mX λb A w s H E c=>af (aF<|d5 2 mX.nd<|ak)
   (af (br az<|aW bD Z (cB mo N.Fn<|dc<|vv 1) (dk 3 mX.nd)<|ai<|m3 qv<|j4 (i:=2) mX.nd Z (by first|exact Wm Z|exact Xn Z) (vv 0) qz)
   (ai<|ay<|aq<|vv 2))⟩
theorem ma:bi ["parts","part","told"] ["parts"] (ag<|cy 25):=ej
def sU(K:UA)(a:Ad):q00:=⟨_,QF K a 3 "ways" a.Ax a.Ay ["parts"] 1,λN=>by
 exact f_ 3 N.Gh ma λc A w s H E b=>af (br az<|aW bD Z (aQ<|vv 0) (dk 1 ma.nd)<|ai<|bK (aU tq yj (vv 1)<|ak) (ai<|dD)<|bu)
   (af (aF<|d5 2 ma.nd<|vc (q01 (iH K a).3 N) b<|dc<|bL (Km Z) QR mo N.Fs Boot.«sum»<|dc<|vv 0)
   (af (br az<|aW bD Z (aQ<|vv 0) (dk 1 ma.nd)<|ai<|m3 LZ<|j4 (i:=2) ma.nd Z (by first|exact Wm Z|exact Xn Z) (vc (q01 (iH K a).3 N) b (dc (vv 1))) OP)
   (ai<|ay<|aq<|vv 2)))⟩
theorem jP:bi ["one","other"] ["one","other"] (ag<|cy 26):=ej
def hZ(K:UA)(a:Ad):q00:=⟨_,QF K a 2 "common_factor" a.Az a.A0 ["one","other"] 2,λN=>by
 exact f_ 2 N.Gi jP λb A w s H E c=>af (zy bD (aU gj iF (vv 1)<|ak)<|ai<|Sh<|Qc (i:=0) (j:=1) Z jP.nd Z Z vy Z Z (dr (vv 1)<|aG j8 Nh (vv 0)<|vv 1) Z)
   (ai<|ay<|aq<|vv 0)⟩
theorem dB:bi ["rests","many","pairs","lows","tops","begun","row","fewest_behind","most_behind"] ["rests","many","pairs"] (ag<|cy 27):=ej
def m7(K:UA)(a:Ad):q00:=⟨_,QF K a 2 "fillings" a.A1 a.A2 ["rests","many","pairs"] 3,λN=>by
 exact f_ 9 N.Gj dB λc A w s H E d=>af (aF<|d5 3 dB.nd<|bh Z (hU ["low","high"] ["low","high"] []) (aQ<|vv 2) (λG C b s H=>⟨(bB Z<|ar (dk 0 eP)<|ar (dk 1 eP) bo),aX,λD=>aI Z (vv 0) Z⟩) (cR (aL ao<|aL ao cf)<|aJ<|aJ bS) (cP<|aK au<|aK au b9) (λD=>aN))
   (af (aF<|d5 4 dB.nd<|bh Z (hU ["rest","low","high"] ["rest","low","high"] []) (lC mo N.Fu<|dr (vv 0)<|vv 2) (λG C b s H=>⟨(bB Z<|ar (dk 0 eP)<|ar (bB Z<|ar (dk 1 eP)<|ar (dk 2 eP) bo) bo),aX,λD=>aI Z (bL (lF Z) wQ mo N.Fm Boot.«min»<|dr (vv 0)<|vv 2) Z⟩) (cR (aL ao<|aL (cR (aL ao<|aL ao cf)<|aJ<|aJ bS) cf)<|aJ<|aJ bS) (cP<|aK au<|aK (cP<|aK au<|aK au b9) b9) (λD=>aN))
   (af (aF<|d5 5 dB.nd<|eB<|dc<|bC<|dr (bC<|dY)<|vv 1)
   (af (br az<|aW bD Z (cB mo N.Fn<|dc<|cT N.Fj<|dc<|vv 0) (dk 6 dB.nd) (af (aF<|d5 7 dB.nd<|fW N.Fs<|dc<|qe (vv 3) (mC<|aG aS bM (vv 6)<|ak)<|mE)
   (af (aF<|d5 8 dB.nd<|fW N.Fs<|dc<|qe (vv 4) (mC<|aG aS bM (vv 6)<|ak)<|mE)
   (ai<|sJ (i:=5) dB.nd Z (by first|exact Wm Z|exact Xn Z) Z (hU ["counts","left","count","lows","row","most_behind","tops","fewest_behind"] ["counts","left","count"] [3,6,8,4,7]) (aQ (vv 5)) (λG C b s H=>⟨(bB Z<|ar (dk 0 eP)<|ar (dk 1 eP) bo),aX,λD=>qp Z Z Z (nM mo N.Fn<|dr (bL (wc Z) Ni mo N.Fl Boot.«max»<|dr (aV aA bc (vv 3)<|vv 4)<|aG eL gl (vv 1)<|vv 5)<|aG aS bM (bL (lF Z) wQ mo N.Fm Boot.«min»<|dr (aV aA bc (vv 6)<|vv 4)<|aG eL gl (vv 1)<|vv 7)<|ak) (dk 2 eP) (aX)<|aI Z (bC<|dr (aG aS bM (vv 0)<|bC<|dc<|vv 2)<|aG eL gl (vv 1)<|vv 2) Z⟩) (cR (aL ao<|aL ao cf)<|aJ<|aJ bS) (cP<|aK au<|aK au b9) (λD=>AB ao au<|aN)))))
   (ai<|ay<|aq<|bh Z (hU ["counts","left"] ["counts","left"] []) (aQ<|vv 5) (λG C b s H=>⟨(bB Z<|ar (dk 0 eP)<|ar (dk 1 eP) bo),jH<|aU (cu d) de (vv 1)<|ak,λD=>aI Z (vv 0) Z⟩) (cR (aL ao<|aL ao cf)<|aJ<|aJ bS) (cP<|aK au<|aK au b9) (λD=>aN)))))⟩
theorem CL:bi ["rowsums","over"] ["rowsums","over"] (ag<|cy 29):=ej
def oZ(K:UA)(a:Ad):q00:=⟨_,QF K a 2 "need_of" a.A3 a.A4 ["rowsums","over"] 2,λN=>by
 exact f_ 2 N.Gk CL λb A w s H E c=>ai<|ay<|aq<|fW N.Fs<|dc<|bh Z (hU ["row","rowsums"] ["row"] [0]) (aQ<|vv 1) (λG C d s H=>⟨(dk 0 eP),aX,λD=>aI Z (aV aA bc (vv 1)<|vv 0) Z⟩) ao au (λD=>aN)⟩
theorem md:bi ["columnsums","bounds","over","column","lows"] ["columnsums","bounds","over","column"] (ag<|cy 30):=ej
def dS(K:UA)(a:Ad):q00:=⟨_,QF K a 2 "room_inside" a.A5 a.A6 ["columnsums","bounds","over","column"] 4,λN=>by
 exact f_ 5 N.Gm md λb A w s H E c=>af (sJ (i:=4) md.nd Z (by first|exact Wm Z|exact Xn Z) Z (hU ["row","pairs","over","column"] ["row","pairs"] [2,3]) (ku mo N.Fg (dc (vv 1))) (λG C d s H=>⟨(bB Z<|ar (dk 0 eP)<|ar (dk 1 eP) bo),jH<|aU j7 (kn) (vv 0)<|vv 2,λD=>aI Z (aV aA bc (aV aA bc (vv 1)<|vv 3)<|ak) Z⟩) (cR (aL ao<|aL ao cf)<|aJ<|aJ bS) (cP<|aK au<|aK au b9) (λD=>aN))
   (ai<|ay<|aq<|aG eL gl (aV aA bc (vv 0)<|vv 3)<|fW N.Fs<|dc<|vv 4)⟩
theorem uC:bi ["bounds","over","column"] ["bounds","over","column"] (ag<|cy 31):=ej
def dT(K:UA)(a:Ad):q00:=⟨_,QF K a 2 "room_beside" a.A7 a.A8 ["bounds","over","column"] 3,λN=>by
 exact f_ 3 N.Gn uC λb A w s H E c=>ai<|ay<|aq<|fW N.Fs<|dc<|bh Z (hU ["row","bounds","column"] ["row"] [0,2]) (aQ<|vv 1) (λG C d s H=>⟨(dk 0 eP),aX,λD=>aI Z (aV aA bc (aV aA bc (aV aA bc (vv 1)<|vv 0)<|vv 2)<|ak) Z⟩) ao au (λD=>aN)⟩
theorem CK:bi ["columnsums","bounds","over","into"] ["columnsums","bounds","over","into"] (ag<|cy 32):=ej
def oY(K:UA)(a:Ad):q00:=⟨_,QF K a 3 "room_of" a.A9 a.Ba ["columnsums","bounds","over","into"] 4,λN=>by
 exact f_ 4 N.Go CK λc A w s H E b=>ai<|ay<|aq<|fW N.Fs<|dc<|bh Z (hU ["column","into","columnsums","bounds","over"] ["column"] [3,0,1,2]) (cB mo N.Fn<|dc<|cT N.Fj<|dc<|vv 0) (λG C d s H=>⟨(dk 0 eP),aX,λD=>aI Z (BT (aU eY (kn) (vv 0)<|vv 1) (vc (q01 (dS K a).3 N) b<|B9 (vv 2) (vv 3) (vv 4)<|vv 0)<|vc (q01 (dT K a).3 N) b<|lj (vv 3) (vv 4)<|vv 0) Z⟩) ao au (λD=>aN)⟩
theorem xu:bi ["columnsums","bounds","over"] ["columnsums","bounds","over"] (ag<|cy 33):=ej
def lO(K:UA)(a:Ad):q00:=⟨_,QF K a 3 "narrowest" a.Bb a.Bc ["columnsums","bounds","over"] 3,λN=>by
 exact f_ 3 N.Gp xu λc A w s H E b=>ai<|ay<|aq<|bh Z (hU ["column","columnsums","bounds","over"] ["column"] [0,1,2]) (cB mo N.Fn<|dc<|cT N.Fj<|dc<|vv 0) (λG C d s H=>⟨(dk 0 eP),jH<|aU tq yj (vc (q01 (dS K a).3 N) b<|B9 (vv 1) (vv 2) (vv 3)<|vv 0)<|vc (q01 (dT K a).3 N) b<|lj (vv 2) (vv 3)<|vv 0,λD=>aI Z (vv 0) Z⟩) ao au (λD=>aN)⟩
theorem jB:bi ["many","told","number"] ["many"] (ag<|cy 34):=ej
def o7(K:UA)(a:Ad):q00:=⟨_,QF K a 2 "choices" a.Bd a.Be ["many"] 1,λN=>by
 exact f_ 3 N.Gq jB λb A w s H E c=>af (aF<|d5 1 jB.nd<|eB<|dc<|eB<|dY)
   (af (br az<|aW bD Z (cB mo N.Fn<|dc<|vv 0) (dk 2 jB.nd)<|ai<|aF<|d5 1 jB.nd<|aG aS bM (vv 1)<|bh Z (hU ["chosen","number"] ["chosen"] [2]) (aQ<|vv 1) (λG C d s H=>⟨(dk 0 eP),aX,λD=>aI Z (aG aS bM (vv 0)<|eB<|dc<|vv 1) Z⟩) ao au (λD=>aN))
   (ai<|ay<|aq<|vv 1))⟩
theorem jQ:bi ["rowsums","columnsums","bounds","over","into"] ["rowsums","columnsums","bounds"] (ag<|cy 35):=ej
def gB(K:UA)(a:Ad):q00:=⟨_,QF K a 4 "check_fit" a.Bf a.Bh ["rowsums","columnsums","bounds"] 3,λN=>by
 exact f_ 5 N.Gr jQ λc A w s H E b=>ai<|br az<|aW bD Z (aQ<|vc (q01 (o7 K a).3 N) b<|dc<|cT N.Fj<|dc<|vv 0) (dk 3 jQ.nd) (af (aF<|d5 4 jQ.nd<|vc (q01 (lO K a).3 N) b<|lj (vv 1) (vv 2)<|vv 3)
   (ai<|bK (aU gj iF (vc (q01 (oZ K a).3 N) b<|dr (vv 0)<|vv 3)<|vc (q01 (oY K a).3 N) b<|B9 (vv 1) (vv 2) (vv 3)<|vv 4) (ai<|dD)<|bu))⟩
theorem gN:bi ["rowsums","wide","many"] ["rowsums"] (ag<|cy 38):=ej
def jZ(K:UA)(a:Ad):q00:=⟨_,QF K a 2 "check_wide" a.Bi a.Bj ["rowsums"] 1,λN=>by
 exact f_ 3 N.Gs gN λb A w s H E c=>af (aF<|d5 1 gN.nd<|ak)
   (af (br az<|aW bD Z (aQ<|vv 0) (dk 2 gN.nd)<|ai<|m3 qv<|j4 (i:=1) gN.nd Z (by first|exact Wm Z|exact Xn Z) (aG aS bM (vv 2) (ak)) qz)
   (ai<|bK (aU gj iF (vv 1)<|lZ N.F6) (ai<|dD)<|bu))⟩
theorem iT:bi ["rowsums","columnsums","bounds","settled"] ["rowsums","columnsums","bounds"] (ag<|cy 39):=ej
def eD(K:UA)(a:Ad):q00:=⟨_,QF K a 4 "settled_for_net" a.Bk a.Bl ["rowsums","columnsums","bounds"] 3,λN=>by
 exact f_ 4 N.Gu iT λc A w s H E b=>af (hV<|cc<|vc (q01 (fZ K a).3 N) b<|dr (vv 0)<|vv 1)
   (af (aF<|d5 3 iT.nd<|vc (q01 (dH K a).3 N) b<|lj (vv 2) (cT N.Fj<|dc<|vv 0)<|cT N.Fj<|dc<|vv 1)
   (af (hV<|cc<|vc (q01 (jZ K a).3 N) b<|dc<|vv 0)
   (ai<|ay<|aq<|vv 3)))⟩
theorem oM:bi ["rests","columnsums","bounds","column"] ["rests","columnsums","bounds","column"] (ag<|cy 40):=ej
def cJ(K:UA)(a:Ad):q00:=⟨_,QF K a 3 "column_fillings" a.Bm a.Bn ["rests","columnsums","bounds","column"] 4,λN=>by
 exact f_ 4 N.Gv oM λb A w s H E c=>ai<|ay<|aq<|vc (q01 (m7 K a).3 N) c<|lj (vv 0) (aV aA bc (vv 1)<|vv 3)<|bh Z (hU ["pairs","column"] ["pairs"] [3]) (aQ<|vv 2) (λG C d s H=>⟨(dk 0 eP),aX,λD=>aI Z (aV aA bc (vv 0)<|vv 1) Z⟩) ao au (λD=>aN)⟩
theorem sF:bi ["rests","counts"] ["rests","counts"] (ag<|cy 41):=ej
def dE(K:UA)(a:Ad):q00:=⟨_,QF K a 2 "rests_behind" a.Bo a.Bp ["rests","counts"] 2,λN=>by
 exact f_ 2 N.Gx sF λb A w s H E c=>ai<|ay<|aq<|bR fI mG mo N.Ft Boot.«tuple»<|dc<|bh Z (hU ["rest","count"] ["rest","count"] []) (lC mo N.Fu<|dr (vv 0)<|vv 1) (λG C d s H=>⟨(bB Z<|ar (dk 0 eP)<|ar (dk 1 eP) bo),aX,λD=>aI Z (aG eL gl (vv 0)<|vv 1) Z⟩) (cR (aL ao<|aL ao cf)<|aJ<|aJ bS) (cP<|aK au<|aK au b9) (λD=>aN)⟩
theorem cI:bi ["rowsums","columnsums","bounds","here","told","column","behind"] ["rowsums","columnsums","bounds"] (ag<|cy 42):=ej
def gT(K:UA)(a:Ad):q00:=⟨_,QF K a 4 "nodes_by_level" a.Bq a.Br ["rowsums","columnsums","bounds"] 3,λN=>by
 exact f_ 7 N.Gy cI λc A w s H E b=>af (aF<|d5 3 cI.nd<|eB<|dc<|bR fI mG mo N.Ft Boot.«tuple»<|dc<|vv 0)
   (af (kQ<|d5 4 cI.nd<|fF<|dc<|vv 3)
   (af (br az<|aW bD Z (cB mo N.Fn<|dc<|cT N.Fj<|dc<|vv 1) (dk 5 cI.nd) (af (aF<|d5 6 cI.nd<|KR mo N.Fp Z (hU ["rests","counts","columnsums","bounds","column"] ["rests","counts"] [1,2,5]) (aQ<|vv 3) (λG C d s H=>⟨(dk 0 eP),aX,λD=>qp Z Z Z (aQ<|vc (q01 (cJ K a).3 N) b<|B9 (vv 0) (vv 2) (vv 3)<|vv 4) (dk 1 eP) (aX)<|xT (wS b) Z (vc (q01 (dE K a).3 N) b<|dr (vv 0)<|vv 1) Z⟩) ao au (λD=>rO ao au<|LW))
   (af (kU<|cc<|lc VQ VV VW eZ (pv 4)<|dc<|vv 6)
   (ai<|aF<|d5 3 cI.nd<|vv 6))))
   (ai<|ay<|aq<|vv 4)))⟩
theorem cm:bi ["rests","filled","behind","tables","dealings","counts","tables_behind","dealings_behind"] ["rests","filled","behind"] (ag<|cy 43):=ej
def jl(K:UA)(a:Ad):q00:=⟨_,QF K a 4 "node_counts" a.Bs a.Bt ["rests","filled","behind"] 3,λN=>by
 exact f_ 8 N.Gz cm λc A w s H E b=>af (aF<|d5 3 cm.nd<|ak)
   (af (aF<|d5 4 cm.nd<|ak)
   (af (br az<|aW bD Z (aQ<|vv 1) (dk 5 cm.nd) (af (CP (fG (bq az<|bq az dW)<|bp<|bp di)<|eK (aV (kq<|G_ b) qw (vv 2)<|vc (q01 (dE K a).3 N) b<|dr (vv 0)<|vv 5)<|bB Z<|ar (dk 6 cm.nd)<|ar (dk 7 cm.nd) bo)
   (af (m3 AC<|j4 (i:=3) cm.nd Z (by first|exact Wm Z|exact Xn Z) (vv 6) JP)
   (ai<|m3 AC<|j4 (i:=4) cm.nd Z (by first|exact Wm Z|exact Xn Z) (aG bQ cY (vc (q01 (sU K a).3 N) b (dc (vv 5))) (vv 7)) JP))))
   (ai<|ay<|aq<|bC<|dr (vv 3)<|vv 4)))⟩
theorem bV:bi ["rowsums","columnsums","bounds","levels","last","here","told","level","behind"] ["rowsums","columnsums","bounds"] (ag<|cy 44):=ej
def fR(K:UA)(a:Ad):q00:=⟨_,QF K a 5 "counted_nodes" a.Bu a.Bv ["rowsums","columnsums","bounds"] 3,λN=>by
 exact f_ 9 N.G0 bV λe A w s H E c=>af (aF<|d5 3 bV.nd<|vc (q01 (gT K a).3 N) c<|lj (vv 0) (vv 1)<|vv 2)
   (af (aF<|d5 4 bV.nd<|cT N.Fj<|dc<|vv 1)
   (af (GT (i:=5) bV.nd Z (by first|exact Wm Z|exact Xn Z) Z (hU ["rests"] ["rests"] []) (aQ (aV aA bc (vv 3) (vv 4))) (λG C d s H=>⟨(dk 0 eP),aX,λD=>np (b:=T4) (wS c) Z (vv 0) (bC<|dr (ak)<|ak) Z⟩) ao au (λD=>rP))
   (af (kQ<|d5 6 bV.nd<|fF<|dc<|vv 5)
   (af (br az<|aW bD Z (L9 mo N.Fo mo N.Fn<|dc<|vv 4) (dk 7 bV.nd) (af (aF<|d5 8 bV.nd<|vv 5)
   (af (GT (i:=5) bV.nd Z (by first|exact Wm Z|exact Xn Z) Z (hU ["rests","columnsums","bounds","level","behind"] ["rests"] [1,2,7,8]) (aQ (aV aA bc (vv 3) (vv 7))) (λG C d s H=>⟨(dk 0 eP),aX,λD=>np (b:=T4) (wS c) Z (vv 0) (vc (q01 (jl K a).3 N) c<|lj (vv 0) (vc (q01 (cJ K a).3 N) c<|B9 (vv 0) (vv 1) (vv 2)<|vv 3)<|vv 4) Z⟩) ao au (λD=>rP))
   (ai<|kU<|cc<|lc VQ VV VW eZ (pv 6)<|dc<|vv 5))))
   (ai<|ay<|aq<|NK Z (hU ["level","nodes","rests","counts"] ["level","nodes","rests","counts"] []) (ku mo N.Fg<|dc<|MM (vv 6)<|KQ xf DP<|ak) (λG C d s H=>⟨(bB Z<|ar (dk 0 eP)<|ar (dk 1 eP) bo),aX,λD=>qp Z Z Z (AH<|vv 1) (bB Z<|ar (dk 2 eP)<|ar (dk 3 eP) bo) (aX)<|np (b:=O) (wS c) Z (bC<|dr (vv 0)<|vv 2) (vv 3) Z⟩) (cR (aL ao<|aL ao cf)<|aJ<|aJ bS) (cP<|aK au<|aK au b9) (λD=>rO (cR (aL ao<|aL ao cf)<|aJ<|aJ bS) (cP<|aK au<|aK au b9)<|rP))))))⟩
theorem wr:bi ["counted"] ["counted"] (ag<|cy 45):=ej
def jV(K:UA)(a:Ad):q00:=⟨_,QF K a 2 "paper_rows" a.Bw a.Bx ["counted"] 1,λN=>by
 exact f_ 1 N.G1 wr λb A w s H E c=>ai<|ay<|aq<|bh Z (hU ["level","rests","tables","dealings"] ["level","rests","tables","dealings"] []) (AH<|vv 0) (λG C d s H=>⟨(bB Z<|ar (bB Z<|ar (dk 0 eP)<|ar (dk 1 eP) bo)<|ar (bB Z<|ar (dk 2 eP)<|ar (dk 3 eP) bo) bo),aX,λD=>aI Z (bC<|B9 (vv 0) (vv 1) (vv 2)<|vv 3) Z⟩) (cR (aL (cR (aL ao<|aL ao cf)<|aJ<|aJ bS)<|aL (cR (aL ao<|aL ao cf)<|aJ<|aJ bS) cf)<|aJ<|aJ bS) (cP<|aK (cP<|aK au<|aK au b9)<|aK (cP<|aK au<|aK au b9) b9) (λD=>aN)⟩
theorem uF:bi ["self"] ["self"] (ag<|bX (cy 46) 3):=ej
def jo(K:UA)(a:Ad):q00:=⟨_,QM K a 2 a.En a.Eo ["self"] 1,λN=>by
 exact gU 1 1 _ N.Iq uF Z Z λb A w s H E c=>ai<|ay<|aq<|bR bP f8 mo N.Fk Boot.«list»<|dc<|cL N.Jv N.J0<|vv 0⟩
theorem oO:bi ["self"] ["self"] (ag<|bX (cy 60) 1):=ej
def qN(K:UA)(a:Ad):q00:=⟨_,QM K a 2 a.Ep a.Er ["self"] 1,λN=>by
 exact gU 1 1 _ N.Iw oO Z Z λb A w s H E c=>ai<|ay<|aq<|bR bP f8 mo N.Fk Boot.«list»<|dc<|cL N.J1 N.J7<|vv 0⟩
theorem qM:bi ["self"] ["self"] (ag<|bX (cy 46) 4):=ej
def fj(K:UA)(a:Ad):q00:=⟨_,QM K a 2 a.Es a.Et ["self"] 1,λN=>by
 exact gU 1 1 _ N.Iz qM Z Z λb A w s H E c=>ai<|ay<|aq<|bR bP f8 mo N.Fk Boot.«list»<|dc<|cL N.Jv N.Jx<|vv 0⟩
theorem me:bi ["self"] ["self"] (ag<|bX (cy 60) 2):=ej
def m8(K:UA)(a:Ad):q00:=⟨_,QM K a 2 a.Eu a.Ev ["self"] 1,λN=>by
 exact gU 1 1 _ N.Ja me Z Z λb A w s H E c=>ai<|ay<|aq<|bR bP f8 mo N.Fk Boot.«list»<|dc<|cL N.J1 N.J3<|vv 0⟩
theorem oN:bi ["net","measure"] ["net","measure"] (ag<|cy 48):=ej
def gv(K:UA)(a:Ad):q00:=⟨_,QF K a 3 "check_same_sums" a.By a.Bz ["net","measure"] 2,λN=>by
 exact f_ 2 N.G2 oN λc A w s H E b=>ai<|bK (l5<|ut (aU (gD b) iJ (eE N.Jv N.Ir (q10 (jo K a).3 N) (b.mono vy) (cF.nil N.Iu) cM (vv 0) Z)<|MN (eE N.Jv N.Ir (q10 (jo K a).3 N) (b.mono vy) (cF.nil N.Iu) cM (vv 1) Z)<|eE N.J1 N.Ix (q10 (qN K a).3 N) (b.mono vy) (cF.nil N.Iy) cM (vv 1) Z)<|qa<|aU (gD b) iJ (eE N.Jv N.I0 (q10 (fj K a).3 N) (b.mono vy) (cF.nil N.I9) cM (vv 0) Z)<|MN (eE N.Jv N.I0 (q10 (fj K a).3 N) (b.mono vy) (cF.nil N.I9) cM (vv 1) Z)<|eE N.J1 N.Jb (q10 (m8 K a).3 N) (b.mono vy) (cF.nil N.Jc) cM (vv 1) Z) (ai<|dD)<|bu⟩
theorem rq:bi ["self","level","rests"] ["self","level","rests"] (ag<|bX (cy 46) 6):=ej
def k7(K:UA)(a:Ad):q00:=⟨_,QM K a 2 a.E2 a.E3 ["self","level","rests"] 3,λN=>by
 exact gU 3 3 _ N.Jj rq Z Z λb A w s H E c=>ai<|ay<|aq<|R3 (G_ c) (cL N.Jv N.Jy<|vv 0)<|dr (bC<|dr (vv 1)<|vv 2)<|bC<|dr (ak)<|ak⟩
theorem xw:bi ["self","level","rests"] ["self","level","rests"] (ag<|bX (cy 46) 9):=ej
def lS(K:UA)(a:Ad):q00:=⟨_,QM K a 4 a.Ey a.Ez ["self","level","rests"] 3,λN=>by
 exact gU 3 3 _ N.Jg xw Z Z λd A w s H E b=>af (bK (l5<|ut (aU (zU<|G_ b) ST (bC<|dr (vv 1)<|vv 2)<|cL N.Jv N.Jy<|vv 0)<|qa<|aU (cu b) de (vv 1)<|cT N.Fj<|dc<|cL N.Jv N.Jx<|vv 0) (ai<|ay<|aq<|eB<|dY)<|bu)
   (ai<|ay<|aq<|bh Z (hU ["counts","self","level","rests"] ["counts"] [0,1,2]) (aQ<|vc (q01 (cJ K a).3 N) b<|B9 (vv 2) (cL N.Jv N.Jx<|vv 0) (cL N.Jv N.Jz<|vv 0)<|vv 1) (λP C e s H=>⟨(dk 0 eP),jH<|aU gj iF (aV aA bc (oF N.Jv N.Jk (q10 (k7 K a).3 N) (b.mono vy) (cF.nil N.Jl) wL (vv 1) (dr (aG aS bM (vv 2)<|ak)<|vc (q01 (dE K a).3 N) b<|dr (vv 3)<|vv 0) (λG M r c h=>by rw[(aZ<|aZ C_) G M r c h];rfl))<|ak)<|ak,λD=>aI Z (vv 0) Z⟩) ao au (λD=>aN))⟩
theorem y8:bi ["counts","products","things"] ["counts","products","things"] (ag<|cy 59):=ej
def m4(K:UA)(a:Ad):q00:=⟨_,QF K a 2 "off_part" a.Cj a.Ck ["counts","products","things"] 3,λN=>by
 exact f_ 3 N.G9 y8 λb A w s H E c=>ai<|ay<|aq<|fW N.Fs<|dc<|bh Z (hU ["count","product","things"] ["count","product"] [2]) (lC mo N.Fu<|dr (vv 0)<|vv 1) (λG C d s H=>⟨(bB Z<|ar (dk 0 eP)<|ar (dk 1 eP) bo),aX,λD=>aI Z (bL rY Nk mo N.Fd Boot.«abs»<|dc<|aG eL gl (aG bQ cY (vv 0)<|vv 2)<|vv 1) Z⟩) (cR (aL ao<|aL ao cf)<|aJ<|aJ bS) (cP<|aK au<|aK au b9) (λD=>aN)⟩
theorem gL:bi ["counts","told","count"] ["counts"] (ag<|cy 57):=ej
def jU(K:UA)(a:Ad):q00:=⟨_,QF K a 3 "power_part" a.Cf a.Cg ["counts"] 1,λN=>by
 exact f_ 3 N.G7 gL λb A w s H E c=>af (aF<|d5 1 gL.nd<|ak)
   (af (br az<|aW bD Z (aQ<|vv 0) (dk 2 gL.nd)<|ai<|m3 qv<|j4 (i:=1) gL.nd Z (by first|exact Wm Z|exact Xn Z) (vc (q01 (uH K a).3 N) c (dr (vv 2) (vv 2))) qz)
   (ai<|ay<|aq<|vv 1))⟩
theorem uB:bi ["counts","products","even"] ["counts","products","even"] (ag<|cy 58):=ej
def jk(K:UA)(a:Ad):q00:=⟨_,QF K a 2 "square_part" a.Ch a.Ci ["counts","products","even"] 3,λN=>by
 exact f_ 3 N.G8 uB λb A w s H E c=>ai<|ay<|aq<|fW N.Fs<|dc<|bh Z (hU ["count","product","even"] ["count","product"] [2]) (lC mo N.Fu<|dr (vv 0)<|vv 1) (λG C d s H=>⟨(bB Z<|ar (dk 0 eP)<|ar (dk 1 eP) bo),jH<|aU gj iF (vv 1)<|ak,λD=>aI Z (aG j9 pz (aG bQ cY (aG bQ cY (vv 0)<|vv 0)<|vv 2)<|vv 1) Z⟩) (cR (aL ao<|aL ao cf)<|aJ<|aJ bS) (cP<|aK au<|aK au b9) (λD=>aN)⟩
theorem kO:bi ["self","column","counts","products"] ["self","column","counts"] (ag<|bX (cy 60) 3):=ej
def iA(K:UA)(a:Ad):q00:=⟨_,QM K a 4 a.E4 a.E5 ["self","column","counts"] 3,λN=>by
 exact gU 3 4 _ N.Jm kO Z Z λc A w s H E b=>af (bK (aU (cu b) de (cL N.J1 N.J5<|vv 0)<|dN) (ai<|ay<|aq<|vc (q01 (sU K a).3 N) b<|dc<|vv 2)<|bu)
   (af (bK (aU (cu b) de (cL N.J1 N.J5<|vv 0)<|dN) (ai<|ay<|aq<|vc (q01 (jU K a).3 N) b<|dc<|vv 2)<|bu)
   (af (bK (aU eY (kn) (cL N.J1 N.J5<|vv 0)<|lY N.Fv) (ai<|ay<|aq<|BT (aU (cu b) de (vv 1)<|aV aA bc (cL N.J1 N.J6<|vv 0)<|ak) (aV aA bc (vv 2)<|aV aA bc (cL N.J1 N.J6<|vv 0)<|ak)<|ak)<|bu)
   (af (sJ (i:=3) kO.nd Z (by first|exact Wm Z|exact Xn Z) Z (hU ["across","self","column"] ["across"] [0,1]) (aQ (cL N.J1 N.J7 (vv 0))) (λG C d s H=>⟨(dk 0 eP),aX,λD=>aI Z (aG bQ cY (vv 0)<|aV aA bc (cL N.J1 N.J3<|vv 1)<|vv 2) Z⟩) ao au (λD=>aN))
   (af (bK (aU (cu b) de (cL N.J1 N.J5<|vv 0)<|dN) (ai<|ay<|aq<|vc (q01 (jk K a).3 N) b<|lj (vv 2) (vv 3)<|cL N.J1 N.J4<|vv 0)<|bu)
   (ai<|ay<|aq<|vc (q01 (m4 K a).3 N) b<|lj (vv 2) (vv 3)<|fW N.Fs<|dc<|cL N.J1 N.J7<|vv 0)))))⟩
theorem rA:bi ["self"] ["self"] (ag<|bX (cy 60) 5):=ej
def fS(K:UA)(a:Ad):q00:=⟨_,QM K a 2 a.E6 a.E7 ["self"] 1,λN=>by
 exact gU 1 1 _ N.Jp rA Z Z λb A w s H E c=>ai<|ay<|aq<|BT (aU eY (kn) (cL N.J1 N.J5<|vv 0)<|lY N.Fw) (ak)<|ak⟩
theorem oA:bi ["self","one","other"] ["self","one","other"] (ag<|bX (cy 60) 4):=ej
def d6(K:UA)(a:Ad):q00:=⟨_,QM K a 2 a.E8 a.E9 ["self","one","other"] 3,λN=>by
 exact gU 3 3 _ N.Js oA Z Z λb A w s H E c=>ai<|ay<|aq<|BT (aU eY (kn) (cL N.J1 N.J5<|vv 0)<|lY N.Fw) (aG bQ cY (vv 1)<|vv 2)<|aG aS bM (vv 1)<|vv 2⟩
theorem dG:bi ["net","measure","level","rests","found","leasts","greatests","counts","least","greatest","part"] ["net","measure","level","rests","found"] (ag<|cy 49):=ej
def lN(K:UA)(a:Ad):q00:=⟨_,QF K a 5 "node_ends" a.B0 a.B5 ["net","measure","level","rests","found"] 5,λN=>by
 exact f_ 11 N.G3 dG λd A G s H E c=>af (bK (aU (cu c) de (vv 2)<|cT N.Fj<|dc<|eE N.Jv N.I0 (q10 (fj K a).3 N) (c.mono vy) (cF.nil N.I9) cM (vv 0) Z) (ai<|ay<|aq<|bC<|dr (eE N.J1 N.Jq (q10 (fS K a).3 N) (c.mono vy) (cF.nil N.Jr) cM (vv 1) Z)<|eE N.J1 N.Jq (q10 (fS K a).3 N) (c.mono vy) (cF.nil N.Jr) cM (vv 1) Z)<|bu)
   (af (kQ<|d5 5 dG.nd<|fF<|dY)
   (af (kQ<|d5 6 dG.nd<|fF<|dY)
   (af (br az<|aW bD Z (aQ<|oF N.Jv N.Jh (q10 (lS K a).3 N) (c.mono vy) (cF.nil N.Ji) cM (vv 0) (dr (vv 2)<|vv 3) (λw D r b h=>by rw[(aZ<|aZ C_) w D r b h];rfl)) (dk 7 dG.nd) (af (CP (fG (bq az<|bq az dW)<|bp<|bp di)<|eK (aV (kq<|G_ c) qw (vv 4)<|bC<|dr (aG aS bM (vv 2)<|ak)<|vc (q01 (dE K a).3 N) c<|dr (vv 3)<|vv 7)<|bB Z<|ar (dk 8 dG.nd)<|ar (dk 9 dG.nd) bo)
   (af (aF<|d5 10 dG.nd<|oF N.J1 N.Jn (q10 (iA K a).3 N) (c.mono vy) (cF.nil N.Jo) cM (vv 1) (dr (vv 2)<|vv 7) (λw D r b h=>by rw[(aZ<|aZ C_) w D r b h];rfl))
   (af (kU<|cc<|lc VQ VV VW eZ (pv 5)<|dc<|oF N.J1 N.Jt (q10 (d6 K a).3 N) (c.mono vy) (cF.nil N.Ju) cM (vv 1) (dr (vv 10)<|vv 8) (λw D r b h=>by rw[(aZ<|aZ C_) w D r b h];rfl))
   (ai<|kU<|cc<|lc VQ VV VW eZ (pv 6)<|dc<|oF N.J1 N.Jt (q10 (d6 K a).3 N) (c.mono vy) (cF.nil N.Ju) cM (vv 1) (dr (vv 10)<|vv 9) (λw D r b h=>by rw[(aZ<|aZ C_) w D r b h];rfl))))))
   (ai<|ay<|aq<|bC<|dr (bL (wa Z) JE mo N.Fm Boot.«min»<|dc<|vv 5)<|bL (wb Z) JF mo N.Fl Boot.«max»<|dc<|vv 6))))⟩
theorem xx:bi ["self"] ["self"] (ag<|bX (cy 46) 10):=ej
def iI(K:UA)(a:Ad):q00:=⟨_,QM K a 3 a.Ew a.Ex ["self"] 1,λN=>by
 exact gU 1 1 _ N.Jd xx Z Z λb A w s H E c=>ai<|ay<|aq<|vc (q01 (jV K a).3 N) c<|dc<|cL N.Jv N.Jy<|vv 0⟩
theorem c8:bi ["net","measure","found","level","rests","tables","dealings"] ["net","measure"] (ag<|cy 50):=ej
def iz(K:UA)(a:Ad):q00:=⟨_,QF K a 6 "ends_by_node" a.B7 a.B8 ["net","measure"] 2,λN=>by
 exact f_ 7 N.G4 c8 λd A w s H E c=>af (hV<|cc<|vc (q01 (gv K a).3 N) c<|dr (vv 0)<|vv 1)
   (af (CO<|d5 2 c8.nd<|ng (b:=O))
   (af (br (fG (bq az<|bq az<|bq az<|bq az dW)<|bp<|bp<|bp<|bp di)<|aW bD Z (aQ<|MM (eE N.Jv N.Je (q10 (iI K a).3 N) (c.mono vy) (cF.nil N.Jf) cM (vv 0) Z)<|KQ xf DP<|ak) (bB Z<|ar (dk 3 c8.nd)<|ar (dk 4 c8.nd)<|ar (dk 5 c8.nd)<|ar (dk 6 c8.nd) bo)<|ai<|bK (aU gj iF (vv 5)<|ak) (ai<|sQ<|eK (vc (q01 (lN K a).3 N) c<|bT (vv 0)<|bT (vv 1)<|bT (vv 3)<|bT (vv 4)<|bT (vv 2)<|dY)<|gC (pv 2) (bC<|dr (vv 3)<|vv 4)<|jN<|G_ c)<|bu)
   (ai<|ay<|aq<|vv 2)))⟩
theorem zw:bi ["net","measure","found"] ["net","measure"] (ag<|cy 51):=ej
def sY(K:UA)(a:Ad):{m:a0c->M a0c//∀{P:UT} {w:UY} {mg:a0j} {aa:Vl} (_:x_ K mg a),e_ P w K mg aa (hO P w) 7 a.Ca a.Cb ["net","measure"] (spT K (dn K) 2 m)}:=⟨_,λ{P w mg aa} N=>by
 exact Rt 2 3 _ N.G5.F zw Z Z λc A G s H E b=>Py (d5 2 zw.nd<|vc (q01 (iz K a).3 N) b<|dr (vv 0)<|vv 1)
   (mz<|aq<|HZ Z (hU ["level","rests","tables","dealings","found"] ["level","rests","tables","dealings"] [2]) (aQ<|eE N.Jv N.Je (q10 (iI K a).3 N) (b.mono vy) (cF.nil N.Jf) cM (vv 0) Z) (λS C d s H=>⟨(bB Z<|ar (dk 0 eP)<|ar (dk 1 eP)<|ar (dk 2 eP)<|ar (dk 3 eP) bo),jH<|aU gj iF (vv 2)<|ak,λD=>aI Z (bC<|B9 (vv 0) (vv 1) (aV aA bc (aV (kq<|G_ b) qw (vv 4)<|bC<|dr (vv 0)<|vv 1)<|ak)<|aV aA bc (aV (kq<|G_ b) qw (vv 4)<|bC<|dr (vv 0)<|vv 1)<|ak) Z⟩) (cR (aL ao<|aL ao<|aL ao<|aL ao cf)<|aJ<|aJ<|aJ<|aJ bS) (cP<|aK au<|aK au<|aK au<|aK au b9) (λD=>aN))⟩
theorem fP:bi ["numbers","told","number"] ["numbers"] (ag<|cy 56):=ej
def eF(K:UA)(a:Ad):q00:=⟨_,QF K a 3 "least_common" a.Cc a.Cd ["numbers"] 1,λN=>by
 exact f_ 3 N.G6 fP λb A w s H E c=>af (aF<|d5 1 fP.nd<|ak)
   (af (br az<|aW bD Z (aQ<|vv 0) (dk 2 fP.nd)<|ai<|aF<|d5 1 fP.nd<|aG j9 pz (aG bQ cY (vv 1)<|vv 2)<|vc (q01 (hZ K a).3 N) c<|dr (vv 1)<|vv 2)
   (ai<|ay<|aq<|vv 1))⟩
theorem GO:bi ["_law_found","_law_due"] ["_law_found","_law_due"] (ag<|cy 64):=ej
def iG(K:UA)(a:Ad)(b:a0c->M D):G:=
  aM (pq (yH<|aR wR<|ae (ac 1)<|ae (aR fU<|ae (fC<|.ty "list")<|ae (fC<|.ty "tuple")<|ax)<|ax) (aM (pq (uX (fB<|f2 (ic) (aR kr<|ae (ac 1)<|ae (fC<|.ty "list")<|ax)<|aR kr<|ae (ac 0)<|ae (fC<|.ty "list")<|ax)<|fB<|f2 (ic) (aR kr<|ae (ac 1)<|ae (fC<|.ty "tuple")<|ax)<|aR kr<|ae (ac 0)<|ae (fC<|.ty "tuple")<|ax) (eS<|fC<|.bl T4)<|gNil)
  (aM (pq (fB<|f2 (ic) (aR fA<|ae (ac 0)<|ax)<|aR fA<|ae (ac 1)<|ax) (eS<|fC<|.bl T4)<|gNil)
  (eS<|f2 (y3 O) (fC<|.bl T4)<|cE 2 [] (nz<|ae (ac 0)<|ae (ac 1)<|ax) (O_<|fc (g_ 0)<|fc (g_ 1) jL) (λ_=>M.ret O)<|j_<|bN b<|ae (ac 0)<|ae (ac 1)<|ax)))<|gNil)
  (aM (pq (fB<|f2 (DX) (ac 1)<|fC .non) (eS<|f2 (DX) (ac 0)<|fC .non)<|gNil)
  (aM (pq (uX (fB<|f2 (ic) (aR kr<|ae (ac 1)<|ae (fC<|.ty "str")<|ax)<|aR kr<|ae (ac 0)<|ae (fC<|.ty "str")<|ax)<|fB<|f2 (ic) (aR kr<|ae (ac 1)<|ae (fC<|.ty "bool")<|ax)<|aR kr<|ae (ac 0)<|ae (fC<|.ty "bool")<|ax) (eS<|fC<|.bl T4)<|gNil)
  (eS<|EK (aR wR<|ae (ac 0)<|ae (aR fU<|ae (fC<|.ty "int")<|ae (fC<|.ty "str")<|ax)<|ax)<|f2 (dJ) (ac 0)<|ac 1)))
def cW(K:UA)(a:Ad):Nat->a0c->M D
 |0=>λ_=>M.fail
 |n+1=>fV 2<|iG K a<|cW K a n
theorem tw(N:x_ K mg a):∀n,e_ P w K mg aa (hO P w) (n+1) a.Cp a.Cq ["_law_found","_law_due"]<|P_ K 2<|cW K a n
 |0=>⟨λS H Q E h=>h.1,λA G s H M p S Q E c i j r h=>by
  obtain⟨_,F,q,t,_,_,l,V,e,_⟩:=h;cases e⟩
 |n+1=>by
  unfold cW;exact gU 2 2 _ N.Hc.F GO Z Z λg A G s H E c=>af (bK (qg<|bL ug JG mo N.Fi Boot.«isinstance»<|dr (vv 1)<|bC<|dr (t_ (dU (v:= .ty "list") mo N.Fk Boot.«list» rfl) (λ_ _=>Z))<|t_ (dU (v:= .ty "tuple") mo N.Ft Boot.«tuple» rfl) (λ_ _=>Z)) (af (bK (l5<|ut (aU (gD c) iJ (oG N.Fi<|dr (vv 1)<|t_ (dU (v:= .ty "list") mo N.Fk Boot.«list» rfl) (λ_ _=>Z))<|oG N.Fi<|dr (vv 0)<|t_ (dU (v:= .ty "list") mo N.Fk Boot.«list» rfl) (λ_ _=>Z))<|qa<|aU (gD c) iJ (oG N.Fi<|dr (vv 1)<|t_ (dU (v:= .ty "tuple") mo N.Ft Boot.«tuple» rfl) (λ_ _=>Z))<|oG N.Fi<|dr (vv 0)<|t_ (dU (v:= .ty "tuple") mo N.Ft Boot.«tuple» rfl) (λ_ _=>Z)) (ai<|ay<|aq<|re)<|bu)
   (af (bK (aU (gD c) iJ (cT N.Fj<|dc<|vv 0)<|cT N.Fj<|dc<|vv 1) (ai<|ay<|aq<|re)<|bu)
   (ai<|ay<|aq<|jz j7 (kn) (re)<|bh Z (hU ["_law_one","_law_other"] ["_law_one","_law_other"] []) (lC mo N.Fu<|dr (vv 0)<|vv 1) (λu C o s H=>⟨(bB Z<|ar (dk 0 eP)<|ar (dk 1 eP) bo),aX,λD=>aI Z (FO (tw N n) (c.mono<|Ug _) mo N.Hc.m N.Hc.F.kp N.Hc.b wL (dr (vv 0)<|vv 1)<|aZ<|aZ C_) Z⟩) (cR (aL ao<|aL ao cf)<|aJ<|aJ bS) (cP<|aK au<|aK au b9) (λD=>aN))))<|bu)
   (af (bK (aU xU DQ (vv 1)<|BS) (ai<|ay<|aq<|jz xU DQ (vv 0)<|BS)<|bu)
   (af (bK (l5<|ut (aU (gD c) iJ (oG N.Fi<|dr (vv 1)<|t_ (dU (v:= .ty "str") mo N.Fq Boot.«str» rfl) (λ_ _=>Z))<|oG N.Fi<|dr (vv 0)<|t_ (dU (v:= .ty "str") mo N.Fq Boot.«str» rfl) (λ_ _=>Z))<|qa<|aU (gD c) iJ (oG N.Fi<|dr (vv 1)<|t_ (dU (v:= .ty "bool") mo N.Ff Boot.«bool» rfl) (λ_ _=>Z))<|oG N.Fi<|dr (vv 0)<|t_ (dU (v:= .ty "bool") mo N.Ff Boot.«bool» rfl) (λ_ _=>Z)) (ai<|ay<|aq<|re)<|bu)
   (ai<|ay<|aq<|R5 (bL ug JG mo N.Fi Boot.«isinstance»<|dr (vv 0)<|bC<|dr (t_ (dU (v:= .ty "int") mo N.Fh Boot.«int» rfl) (λ_ _=>Z))<|t_ (dU (v:= .ty "str") mo N.Fq Boot.«str» rfl) (λ_ _=>Z))<|λx08 x09 x10 x11 x12 x13 x14=>BoolOp_one<|(jz (cu c) de (vv 0)<|vv 1) x08 x09 x10 x11 x12 x13 x14)))
theorem vO(N:x_ K mg a):FB P w K mg aa 7 "_law_same" a.Cp a.Cq ["_law_found","_law_due"] 2 (cW K a 5):=⟨(tw N 5).mono vy,N.Hc.m,N.Hc.F.kp,N.Hc.b⟩
theorem iU:bi ["_law_bag_here","_law_block","_law_columns","_law_things","_law_grid_here","_law_thing","_law_at","_law_to"] ["_law_bag_here","_law_block","_law_columns","_law_things"] (ag<|cy 65):=ej
def rS(K:UA)(a:Ad):G:=
  aM (uV 4<|jc 1 [2] (c9 gR<|ae (ac 1)<|ax) (g_ 0) (λ_=>M.ret O)<|vb<|DC (ae (fC<|.int 0)<|ax)<|ac 1)
  (aM (Mg (c9 gR<|ae (ac 3)<|ax) (sgN 5) (aM (dm 6<|bN dO<|ae (ac 0)<|ae (ac 1)<|ax)
  (aM (dm 7<|bN dO<|ae (ac 0)<|ae (ac 2)<|ax)
  (qC 4 (ac 6) (ac 7)<|f2 dR (f2 gs (f2 gs (ac 4)<|ac 6)<|ac 7)<|fC<|.int 1))))
  (eS<|ac 4))
def f6(K:UA)(a:Ad):a0c->M D:=fV 8<|rS K a
theorem lh(N:x_ K mg a):FB P w K mg aa 3 "_law_grid" a.Cr a.Cs ["_law_bag_here","_law_block","_law_columns","_law_things"] 4 (f6 K a):=⟨by
 exact gU 4 8 _ N.Hd.F iU Z Z λd A G s H E c=>af (PN iU.nd Z (by first|exact Wm Z|exact Xn _) Z (hU ["_law_row","_law_columns"] ["_law_row"] [2]) (cB mo N.Fn (dc (vv 1))) (λM C e s H=>⟨(dk 0 eP),aX,λD=>aI Z (SC (dc<|ak)<|vv 1) Z⟩) ao au (λD=>z6))
   (af (br az<|aW bD Z (cB mo N.Fn<|dc<|vv 3) (dk 5 iU.nd) (af (aF<|d5 6 iU.nd<|vc (bA N) c<|dr (vv 0)<|vv 1)
   (af (aF<|d5 7 iU.nd<|vc (bA N) c<|dr (vv 0)<|vv 2)
   (ai<|xH<|eK (aG aS bM (aV aA bc (aV aA bc (vv 4)<|vv 6)<|vv 7)<|ak)<|gC (ib eM (pv 4) (vv 6) (λ_ _=>Z)) (vv 7) iu))))
   (ai<|ay<|aq<|vv 4)),N.Hd.m,N.Hd.F.kp,N.Hd.b⟩
theorem jA:bi ["_law_bag_here","_law_way","_law_block","_law_columns"] ["_law_bag_here"] (ag<|cy 66):=ej
def pF(K:UA)(a:Ad):G:=
  aM (dm 1<|bN dO<|ae (ac 0)<|ae (fC<|.int 8)<|ax)
  (aM (pq (fB<|f2 (dJ) (ac 1)<|fC<|.int 0) (eS<|bN (f6 K a)<|ae (ac 0)<|ae (fC<|.int 4)<|ae (fC<|.int 6)<|ae (bN dO<|ae (ac 0)<|ae (fC<|.int 5)<|ax)<|ax)<|gNil)
  (aM (pq (fB<|f2 (dJ) (ac 1)<|fC<|.int 1) (eS<|bN (f6 K a)<|ae (ac 0)<|ae (fC<|.int 1)<|ae (f2 dR (fC<|.int 1)<|bN dO<|ae (ac 0)<|ae (fC<|.int 6)<|ax)<|ae (bN dO<|ae (ac 0)<|ae (fC<|.int 8)<|ax)<|ax)<|gNil)
  (aM (pq (fB<|f2 (dJ) (ac 1)<|fC<|.int 2) (eS<|bN (f6 K a)<|ae (ac 0)<|ae (f2 dR (fC<|.int 1)<|bN dO<|ae (ac 0)<|ae (fC<|.int 4)<|ax)<|ae (fC<|.int 1)<|ae (bN dO<|ae (ac 0)<|ae (fC<|.int 8)<|ax)<|ax)<|gNil)
  (aM (dm 2<|f2 dR (fC<|.int 2)<|bN dO<|ae (ac 0)<|ae (fC<|.int 2)<|ax)
  (aM (dm 3<|f2 dR (fC<|.int 2)<|bN dO<|ae (ac 0)<|ae (fC<|.int 3)<|ax)
  (eS<|bN (f6 K a)<|ae (ac 0)<|ae (ac 2)<|ae (ac 3)<|ae (bN dO<|ae (ac 0)<|ae (fC<|.int 8)<|ax)<|ax))))))
def lA(K:UA)(a:Ad):a0c->M D:=fV 4<|pF K a
theorem DA(N:x_ K mg a):FB P w K mg aa 4 "_law_small" a.Ct a.Cu ["_law_bag_here"] 1 (lA K a):=⟨by
 exact gU 1 4 _ N.He.F jA Z Z λd A D s H E c=>af (aF<|d5 1 jA.nd<|vc (bA N) c<|dr (vv 0)<|ak)
   (af (bK (aU (cu c) de (vv 1)<|ak) (ai<|ay<|aq<|vc (lh N) c<|B9 (vv 0) (ak) (ak)<|vc (bA N) c<|dr (vv 0)<|ak)<|bu)
   (af (bK (aU (cu c) de (vv 1)<|ak) (ai<|ay<|aq<|vc (lh N) c<|B9 (vv 0) (ak) (aG aS bM (ak)<|vc (bA N) c<|dr (vv 0)<|ak)<|vc (bA N) c<|dr (vv 0)<|ak)<|bu)
   (af (bK (aU (cu c) de (vv 1)<|ak) (ai<|ay<|aq<|vc (lh N) c<|B9 (vv 0) (aG aS bM (ak)<|vc (bA N) c<|dr (vv 0)<|ak) (ak)<|vc (bA N) c<|dr (vv 0)<|ak)<|bu)
   (af (aF<|d5 2 jA.nd<|aG aS bM (ak)<|vc (bA N) c<|dr (vv 0)<|ak)
   (af (aF<|d5 3 jA.nd<|aG aS bM (ak)<|vc (bA N) c<|dr (vv 0)<|ak)
   (ai<|ay<|aq<|vc (lh N) c<|B9 (vv 0) (vv 2) (vv 3)<|vc (bA N) c<|dr (vv 0)<|ak)))))),N.He.m,N.He.F.kp,N.He.b⟩
theorem y9:bi ["_law_block"] ["_law_block"] (ag<|cy 67):=ej
def sW(K:UA)(a:Ad):q00:=⟨_,QF K a 2 "_law_turned" a.Cv a.Cw ["_law_block"] 1,λN=>by
 exact f_ 1 N.Hf y9 λb A w s H E d=>ai<|ay<|aq<|bh Z (hU ["_law_to","_law_block"] ["_law_to"] [0]) (cB mo N.Fn<|dc<|cT N.Fj<|dc<|aV aA bc (vv 0)<|ak) (λG C c s H=>⟨(dk 0 eP),aX,λD=>aI Z (bh Z (hU ["_law_row","_law_to"] ["_law_row"] [0]) (aQ<|vv 1) (λG C c s H=>⟨(dk 0 eP),aX,λD=>aI Z (aV aA bc (vv 0)<|vv 1) Z⟩) ao au (λD=>aN)) Z⟩) ao au (λD=>aN)⟩
theorem xv:bi ["_law_grid_here"] ["_law_grid_here"] (ag<|cy 68):=ej
def gz(K:UA)(a:Ad):q00:=⟨_,QF K a 2 "_law_rowsums" a.Cy a.Cz ["_law_grid_here"] 1,λN=>by
 exact f_ 1 N.Hg xv λb A w s H E c=>ai<|ay<|aq<|bh Z (hU ["_law_row"] ["_law_row"] []) (aQ<|vv 0) (λG C d s H=>⟨(dk 0 eP),aX,λD=>aI Z (fW N.Fs<|dc<|vv 0) Z⟩) ao au (λD=>aN)⟩
theorem sH:bi ["_law_grid_here"] ["_law_grid_here"] (ag<|cy 69):=ej
def eG(K:UA)(a:Ad):q00:=⟨_,QF K a 3 "_law_columnsums" a.C0 a.C2 ["_law_grid_here"] 1,λN=>by
 exact f_ 1 N.Hh sH λb A w s H E c=>ai<|ay<|aq<|bh Z (hU ["_law_column"] ["_law_column"] []) (aQ<|vc (q01 (sW K a).3 N) c<|dc<|vv 0) (λG C d s H=>⟨(dk 0 eP),aX,λD=>aI Z (fW N.Fs<|dc<|vv 0) Z⟩) ao au (λD=>aN)⟩
theorem GR:bi ["_law_block","_law_columns"] ["_law_block","_law_columns"] (ag<|cy 70):=ej
def vU(K:UA)(a:Ad):G:=
  pI (jc 1 [1] (c9 gR<|ae (ac 0)<|ax) (g_ 0) (λ_=>M.ret O)<|vb<|gF 1 [] (c9 gR<|ae (ac 1)<|ax) (g_ 0) (λ_=>M.ret O)<|j_<|aR fU<|ae (fC<|.int 0)<|ae (fC<|.int 40)<|ax)
def pf(K:UA)(a:Ad):a0c->M a0v:=qI 2<|vU K a
theorem CZ(N:x_ K mg a):e_ P w K mg aa (hO P w) 2 a.C3 a.C4 ["_law_block","_law_columns"] (spG K 2<|pf K a):=by
 unfold pf;exact OW 2 2 _ N.Hi.F GR Z Z λb A G s H E d=>ai<|N3<|aq<|Rp Z (hU ["_law_at","_law_columns"] ["_law_at"] [1]) (cB mo N.Fn<|dc<|vv 0) (λM C c s H=>⟨(dk 0 eP),aX,λD=>aI Z (HZ Z (hU ["_law_to"] ["_law_to"] []) (cB mo N.Fn<|dc<|vv 1) (λM C c s H=>⟨(dk 0 eP),aX,λD=>aI Z (bC<|dr (ak)<|ak) Z⟩) ao au (λD=>aN)) Z⟩) ao au (λD=>z6)
theorem d9:bi ["_law_bag_here","_law_grid_here","_law_told","_law_at","_law_row","_law_to","_law_count","_law_way"] ["_law_bag_here","_law_grid_here"] (ag<|cy 71):=ej
def jC(K:UA)(a:Ad):q00:=⟨_,QF K a 3 "_law_bounds" a.C5 a.C6 ["_law_bag_here","_law_grid_here"] 2,λN=>by
 exact f_ 8 N.Hj d9 λd A w s H E c=>af (MX<|d5 2 d9.nd<|Rq (CZ N) (c.mono vy) mo N.Hi.m N.Hi.F.kp N.Hi.b cM (dr (cT N.Fj<|dc<|vv 1)<|cT N.Fj<|dc<|aV aA bc (vv 1)<|ak)<|aZ<|aZ C_)
   (af (bK (aU (cu c) de (vc (bA N) c<|dr (vv 0)<|ak)<|ak) (ai<|ay<|aq<|vv 2)<|bu)
   (af (br (fG (bq az<|bq az dW)<|bp<|bp di)<|aW bD Z (ku mo N.Fg<|dc<|vv 1) (bB Z<|ar (dk 3 d9.nd)<|ar (dk 4 d9.nd) bo)<|ai<|br (fG (bq az<|bq az dW)<|bp<|bp di)<|aW bD Z (ku mo N.Fg<|dc<|vv 4) (bB Z<|ar (dk 5 d9.nd)<|ar (dk 6 d9.nd) bo) (af (aF<|d5 7 d9.nd<|vc (bA N) c<|dr (vv 0)<|ak)
   (af (bK (aU (cu c) de (vv 7)<|ak) (ai<|xH<|eK (bC<|dr (aG eL gl (vv 6)<|vc (bA N) c<|dr (vv 0)<|aG aS bM (vv 6)<|ak)<|bL (lF Z) wQ mo N.Fm Boot.«min»<|dr (ak)<|aG aS bM (vv 6)<|vc (bA N) c<|dr (vv 0)<|ak)<|gC (ib eM (pv 2) (vv 3) (λ_ _=>Z)) (vv 5) iu)<|bu)
   (ai<|bK (aU (cu c) de (vv 7)<|ak) (ai<|xH<|eK (bC<|dr (ak)<|bL (wc Z) Ni mo N.Fl Boot.«max»<|dr (vv 6)<|vc (bA N) c<|dr (vv 0)<|ak)<|gC (ib eM (pv 2) (vv 3) (λ_ _=>Z)) (vv 5) iu)<|bu))))
   (ai<|ay<|aq<|vv 2)))⟩
theorem zb:bi ["_law_block"] ["_law_block"] (ag<|cy 72):=ej
def sX(K:UA)(a:Ad):q00:=⟨_,QF K a 2 "_law_copied" a.C7 a.C8 ["_law_block"] 1,λN=>by
 exact f_ 1 N.Hk zb λb A w s H E c=>ai<|ay<|aq<|bh Z (hU ["_law_row"] ["_law_row"] []) (aQ<|vv 0) (λG C d s H=>⟨(dk 0 eP),aX,λD=>aI Z (bR bP f8 mo N.Fk Boot.«list»<|dc<|vv 0) Z⟩) ao au (λD=>aN)⟩
theorem fY:bi ["_law_rests","_law_lot","_law_pairs","_law_found","_law_rest","_law_duo","_law_longer","_law_one","_law_count"] ["_law_rests","_law_lot","_law_pairs"] (ag<|cy 73):=ej
def mx(K:UA)(a:Ad):q00:=⟨_,QF K a 2 "_law_fit" a.C9 a.Da ["_law_rests","_law_lot","_law_pairs"] 3,λN=>by
 exact f_ 9 N.Hl fY λb A w s H E c=>af (aF<|d5 3 fY.nd<|eB<|dc<|eB<|dY)
   (af (br (fG (bq az<|bq az dW)<|bp<|bp di)<|aW bD Z (lC mo N.Fu<|dr (vv 0)<|vv 2) (bB Z<|ar (dk 4 fY.nd)<|ar (dk 5 fY.nd) bo) (af (kQ<|d5 6 fY.nd<|fF<|dY)
   (af (br az<|aW bD Z (aQ<|vv 3) (dk 7 fY.nd)<|ai<|br az<|aW bD Z (nM mo N.Fn<|dr (aV aA bc (vv 5)<|ak)<|aG aS bM (bL (lF Z) wQ mo N.Fm Boot.«min»<|dr (aV aA bc (vv 5)<|ak)<|vv 4)<|ak) (dk 8 fY.nd)<|ai<|kU<|cc<|lc VQ VV VW eZ (pv 6)<|dc<|aG aS bM (vv 7)<|eB<|dc<|vv 8)
   (Lc 6<|ai<|aF<|d5 3 fY.nd<|vv 6))))
   (ai<|ay<|aq<|bh Z (hU ["_law_one","_law_lot"] ["_law_one"] [1]) (aQ<|vv 3) (λG C d s H=>⟨(dk 0 eP),jH<|aU (cu c) de (fW N.Fs<|dc<|vv 0)<|vv 1,λD=>aI Z (vv 0) Z⟩) ao au (λD=>aN)))⟩
theorem GP:bi ["_law_rests","_law_column"] ["_law_rests","_law_column"] (ag<|cy 74):=ej
def jX(K:UA)(a:Ad):q00:=⟨_,QF K a 2 "_law_less" a.Db a.Dc ["_law_rests","_law_column"] 2,λN=>by
 exact f_ 2 N.Hm GP λb A w s H E c=>ai<|ay<|aq<|bh Z (hU ["_law_rest","_law_count"] ["_law_rest","_law_count"] []) (lC mo N.Fu<|dr (vv 0)<|vv 1) (λG C d s H=>⟨(bB Z<|ar (dk 0 eP)<|ar (dk 1 eP) bo),aX,λD=>aI Z (aG eL gl (vv 0)<|vv 1) Z⟩) (cR (aL ao<|aL ao cf)<|aJ<|aJ bS) (cP<|aK au<|aK au b9) (λD=>aN)⟩
theorem cA:bi ["_law_rowsums_here","_law_columnsums_here","_law_limits","_law_found","_law_to","_law_lot","_law_longer","_law_told","_law_rests","_law_column"] ["_law_rowsums_here","_law_columnsums_here","_law_limits"] (ag<|cy 75):=ej
def lP(K:UA)(a:Ad):q00:=⟨_,QF K a 3 "_law_listing" a.Dd a.Df ["_law_rowsums_here","_law_columnsums_here","_law_limits"] 3,λN=>by
 exact f_ 10 N.Hn cA λc A w s H E b=>af (aF<|d5 3 cA.nd<|eB<|dc<|bC<|dr (eB<|dY)<|bR bP f8 mo N.Fk Boot.«list»<|dc<|vv 0)
   (af (br (fG (bq az<|bq az dW)<|bp<|bp di)<|aW bD Z (ku mo N.Fg<|dc<|vv 1) (bB Z<|ar (dk 4 cA.nd)<|ar (dk 5 cA.nd) bo) (af (kQ<|d5 6 cA.nd<|fF<|dY)
   (af (br (fG (bq az<|bq az dW)<|bp<|bp di)<|aW bD Z (aQ<|vv 3) (bB Z<|ar (dk 7 cA.nd)<|ar (dk 8 cA.nd) bo)<|ai<|br az<|aW bD Z (aQ<|vc (q01 (mx K a).3 N) b<|lj (vv 8) (vv 5)<|bh Z (hU ["_law_row","_law_to"] ["_law_row"] [4]) (aQ<|vv 2) (λG C d s H=>⟨(dk 0 eP),aX,λD=>aI Z (aV aA bc (vv 0)<|vv 1) Z⟩) ao au (λD=>aN)) (dk 9 cA.nd)<|ai<|kU<|cc<|lc VQ VV VW eZ (pv 6)<|dc<|bC<|dr (aG aS bM (vv 7)<|eB<|dc<|vv 9)<|vc (q01 (jX K a).3 N) b<|dr (vv 8)<|vv 9)
   (Lc 6<|ai<|aF<|d5 3 cA.nd<|vv 6))))
   (ai<|ay<|aq<|bh Z (hU ["_law_told","_law_rests"] ["_law_told","_law_rests"] []) (aQ<|vv 3) (λG C d s H=>⟨(bB Z<|ar (dk 0 eP)<|ar (dk 1 eP) bo),aX,λD=>aI Z (vv 0) Z⟩) (cR (aL ao<|aL ao cf)<|aJ<|aJ bS) (cP<|aK au<|aK au b9) (λD=>aN)))⟩
theorem gh:bi ["_law_lot","_law_found","_law_k"] ["_law_lot"] (ag<|cy 76):=ej
def gQ(K:UA)(a:Ad):q00:=⟨_,QF K a 2 "_law_factorial" a.Dg a.Dh ["_law_lot"] 1,λN=>by
 exact f_ 3 N.Ho gh λb A w s H E c=>af (aF<|d5 1 gh.nd<|ak)
   (af (br az<|aW bD Z (nM mo N.Fn<|dr (ak)<|aG aS bM (vv 0)<|ak) (dk 2 gh.nd)<|ai<|aF<|d5 1 gh.nd<|aG bQ cY (vv 1)<|vv 2)
   (ai<|ay<|aq<|vv 1))⟩
theorem kK:bi ["_law_parts","_law_under","_law_part_here"] ["_law_parts"] (ag<|cy 77):=ej
def m5(K:UA)(a:Ad):q00:=⟨_,QF K a 3 "_law_ways" a.Di a.Dj ["_law_parts"] 1,λN=>by
 exact f_ 3 N.Hq kK λc A w s H E b=>af (aF<|d5 1 kK.nd<|ak)
   (af (br az<|aW bD Z (aQ<|vv 0) (dk 2 kK.nd)<|ai<|aF<|d5 1 kK.nd<|aG bQ cY (vv 1)<|vc (q01 (gQ K a).3 N) b<|dc<|vv 2)
   (ai<|ay<|aq<|aG j9 pz (vc (q01 (gQ K a).3 N) b<|dc<|fW N.Fs<|dc<|vv 0)<|vv 1))⟩
theorem mZ:bi ["_law_one","_law_other","_law_kept"] ["_law_one","_law_other"] (ag<|cy 78):=ej
def uJ(K:UA)(a:Ad):q00:=⟨_,QF K a 2 "_law_gcd" a.Dl a.Dm ["_law_one","_law_other"] 2,λN=>by
 exact f_ 3 N.Hr mZ λb A w s H E c=>af (zy bD (aU gj iF (vv 1)<|ak) (af (aF<|d5 2 mZ.nd<|aG j8 Nh (vv 0)<|vv 1)
   (af (aF<|d5 0 mZ.nd<|vv 1)
   (ai<|aF<|d5 1 mZ.nd<|vv 2))))
   (ai<|ay<|aq<|vv 0)⟩
theorem GQ:bi ["_law_bag_here"] ["_law_bag_here"] (ag<|cy 79):=ej
def jY(K:UA)(a:Ad):q00:=⟨_,QF K a 3 "_law_kind" a.Do a.Dp ["_law_bag_here"] 1,λN=>by
 exact f_ 1 N.Ht GQ λb A w s H E c=>ai<|ay<|aq<|aV aA bc (eB<|bT (dN)<|bT (dN)<|bT (dN)<|bT (dN)<|bT (dN)<|bT (dN)<|dY)<|vc (bA N) c<|dr (vv 0)<|ak⟩
theorem sG:bi ["_law_bag_here","_law_grid_here","_law_at"] ["_law_bag_here","_law_grid_here"] (ag<|cy 80):=ej
def kZ(K:UA)(a:Ad):q00:=⟨_,QF K a 3 "_law_place" a.Dq a.Dr ["_law_bag_here","_law_grid_here"] 2,λN=>by
 exact f_ 3 N.Hu sG λc A w s H E b=>af (aF<|d5 2 sG.nd<|vc (bA N) b<|dr (vv 0)<|cT N.Fj<|dc<|vv 1)
   (ai<|ay<|aq<|bC<|dr (vv 2)<|vc (bA N) b<|dr (vv 0)<|cT N.Fj<|dc<|aV aA bc (vv 1)<|ak)⟩
theorem gW:bi ["_law_rowsums_here","_law_columnsums_here","_law_found","_law_one","_law_other","_law_both"] ["_law_rowsums_here","_law_columnsums_here"] (ag<|cy 81):=ej
def rH(K:UA)(a:Ad):q00:=⟨_,QF K a 3 "_law_even" a.Dt a.Du ["_law_rowsums_here","_law_columnsums_here"] 2,λN=>by
 exact f_ 6 N.Hv gW λb A w s H E c=>af (aF<|d5 2 gW.nd<|ak)
   (af (br az<|aW bD Z (aQ<|vv 0) (dk 3 gW.nd)<|ai<|br az<|aW bD Z (aQ<|vv 1) (dk 4 gW.nd) (af (aF<|d5 5 gW.nd<|aG bQ cY (vv 3)<|vv 4)
   (ai<|bK (aU gj iF (vv 5)<|ak) (ai<|aF<|d5 2 gW.nd<|aG j9 pz (aG bQ cY (vv 2)<|vv 5)<|vc (q01 (uJ K a).3 N) c<|dr (vv 2)<|vv 5)<|bu)))
   (ai<|ay<|aq<|vv 2))⟩
theorem fQ:bi ["_law_count","_law_found","_law_k"] ["_law_count"] (ag<|cy 82):=ej
def ix(K:UA)(a:Ad):q00:=⟨_,QF K a 2 "_law_self_power" a.Dv a.Dw ["_law_count"] 1,λN=>by
 exact f_ 3 N.Hw fQ λb A w s H E c=>af (aF<|d5 1 fQ.nd<|ak)
   (af (br az<|aW bD Z (cB mo N.Fn<|dc<|vv 0) (dk 2 fQ.nd)<|ai<|aF<|d5 1 fQ.nd<|aG bQ cY (vv 1)<|vv 0)
   (ai<|ay<|aq<|vv 1))⟩
theorem kN:bi ["self","rowsums","columnsums","bounds","settled"] ["self","rowsums","columnsums","bounds"] (ag<|bX (cy 46) 0):=ej
def yu(K:UA)(a:Ad):IP:=
  jE (dm 4<|bN (eD K a).1<|ae (ac 1)<|ae (ac 2)<|ae (ac 3)<|ax)
  (jE (nQ<|bN (gB K a).1<|ae (ac 1)<|ae (ac 2)<|ae (ac 4)<|ax)
  (gm (aR qs<|ae (ac 1)<|ax)
  (gm (aR qs<|ae (ac 2)<|ax)
  (gm (ac 4)
  (gm (bN (fR K a).1<|ae (ac 1)<|ae (ac 2)<|ae (ac 4)<|ax)
  (DY))))))
def tH(K:UA)(a:Ad):a0c->M a0c:=nK 5<|yu K a
theorem Oo(N:x_ K mg a):e_ P w K mg aa (hO P w) 6 a.Ej a.Ek ["self","rowsums","columnsums","bounds"] (spI K a.Ae ["row_list","column_list","pairs","counted"] 3<|tH K a):=by
 exact AN 3 5 _ N.Ij kN Z Z λc A D s H E b=>tZ (aF<|d5 4 kN.nd<|vc (q01 (eD K a).3 N) b<|lj (vv 1) (vv 2)<|vv 3)
   (tZ (hV<|cc<|vc (q01 (gB K a).3 N) b<|lj (vv 1) (vv 2)<|vv 4)
   (jG N.Jv N.J0 vy vy (ia (pv 0) (bR bP f8 mo N.Fk Boot.«list»<|dc<|vv 1) Z)
   (jG N.Jv N.Jx vy vy (ia (pv 0) (bR bP f8 mo N.Fk Boot.«list»<|dc<|vv 2) Z)
   (jG N.Jv N.Jz vy vy (ia (pv 0) (vv 4) Z)
   (jG N.Jv N.Jy vy vy (ia (pv 0) (vc (q01 (fR K a).3 N) b<|lj (vv 1) (vv 2)<|vv 4) Z)
   (No))))))
theorem La:bi ["_law_grid_here","_law_limits"] ["_law_grid_here","_law_limits"] (ag<|cy 83):=ej
def uI(K:UA)(a:Ad):q00:=⟨_,QF K a 8 "_law_net" a.Dx a.Dy ["_law_grid_here","_law_limits"] 2,λN=>by
 exact f_ 2 N.Hx La λc A w s H E b=>ai<|ay<|aq<|zj N.Ik (Oo N) (b.mono vy) mo N.Jw N.Il cM (dr (vc (q01 (gz K a).3 N) b<|dc<|vv 0)<|vc (q01 (eG K a).3 N) b<|dc<|vv 0) (zi (vc (q01 (sX K a).3 N) b<|dc<|vv 1)<|FK) (aZ<|aZ C_) (aZ C_) Z⟩
theorem oB:bi ["self","kind","rowsums","columnsums","place"] ["self","kind","rowsums","columnsums","place"] (ag<|bX (cy 60) 0):=ej
def tX(K:UA)(a:Ad):IP:=
  jE (nQ<|bN (fZ K a).1<|ae (ac 2)<|ae (ac 3)<|ax)
  (jE (pq (fB<|f2 (y3 O) (ac 1)<|fC<|.tup [.str<|Uy "rare",.str<|Uy "square",.str<|Uy "power",.str<|Uy "off",.str<|Uy "most",.str<|Uy "least"]) (JY)<|gNil)
  (jE (pq (fB<|f2 (y3 T4) (ac 1)<|fC<|.tup [.str<|Uy "most",.str<|Uy "least"]) (nQ<|bN (h9 K a).1<|ae (f2 gs (ac 4)<|fC<|.int 0)<|ae (f2 gs (ac 4)<|fC<|.int 1)<|ae (aR fA<|ae (ac 2)<|ax)<|ae (aR fA<|ae (ac 3)<|ax)<|ax)<|gNil)
  (gm (ac 1)
  (gm (aR qs<|ae (ac 2)<|ax)
  (gm (aR qs<|ae (ac 3)<|ax)
  (gm (ac 4)
  (gm (bN (eF K a).1<|ae (cE 2 [3] (c5<|ac 2) (g_ 0) (λ_=>M.ret O)<|L_ (c5<|ac 2) (g_ 1) (fB<|f2 (B_) (f2 dy (ac 0)<|ac 1)<|fC<|.int 0)<|j_<|f2 dy (ac 0)<|ac 1)<|ax)
  (DY))))))))
def nA(K:UA)(a:Ad):a0c->M a0c:=nK 5<|tX K a
theorem zc(N:x_ K mg a):e_ P w K mg aa (hO P w) 4 a.El a.Em ["self","kind","rowsums","columnsums","place"] (spI K a.Af ["kind","row_list","column_list","place","even"] 4<|nA K a):=by
 unfold nA
 exact AN 4 5 _ N.Im oB Z Z λc A G s H E b=>tZ (hV<|cc<|vc (q01 (fZ K a).3 N) b<|dr (vv 2)<|vv 3)
   (tZ (bK (aU j7 (kn) (vv 1)<|lY N.Fy) (ai<|dD)<|bu)
   (tZ (bK (aU eY (kn) (vv 1)<|lY N.Fv) (ai<|hV<|cc<|vc (q01 (h9 K a).3 N) b<|B9 (aV aA bc (vv 4)<|ak) (aV aA bc (vv 4)<|ak) (cT N.Fj<|dc<|vv 2)<|cT N.Fj<|dc<|vv 3)<|bu)
   (jG N.J1 N.J5 vy vy (ia (pv 0) (vv 1) Z)
   (jG N.J1 N.J7 vy vy (ia (pv 0) (bR bP f8 mo N.Fk Boot.«list»<|dc<|vv 2) Z)
   (jG N.J1 N.J3 vy vy (ia (pv 0) (bR bP f8 mo N.Fk Boot.«list»<|dc<|vv 3) Z)
   (jG N.J1 N.J6 vy vy (ia (pv 0) (vv 4) Z)
   (jG N.J1 N.J4 vy vy (ia (pv 0) (vc (q01 (eF K a).3 N) b<|dc<|bh Z (hU ["across","down","columnsums"] ["across","down"] [3]) (aQ<|vv 2) (λM C d s H=>⟨(dk 0 eP),aX,λD=>qp Z Z Z (aQ<|vv 2) (dk 1 eP) (jH<|aU gj iF (aG bQ cY (vv 0)<|vv 1)<|ak)<|aI Z (aG bQ cY (vv 0)<|vv 1) Z⟩) ao au (λD=>AB ao au<|aN)) Z)
   (No))))))))
theorem CM:bi ["_law_kind_here","_law_grid_here","_law_where"] ["_law_kind_here","_law_grid_here","_law_where"] (ag<|cy 84):=ej
def o4(K:UA)(a:Ad):q00:=⟨_,QF K a 6 "_law_scale" a.Dz a.D0 ["_law_kind_here","_law_grid_here","_law_where"] 3,λN=>by
 exact f_ 3 N.Hy CM λc A w s H E b=>ai<|ay<|aq<|zj N.Io (zc N) (b.mono vy) mo N.J2 N.Ip cM (lj (vv 0) (vc (q01 (gz K a).3 N) b<|dc<|vv 1)<|vc (q01 (eG K a).3 N) b<|dc<|vv 1) (zi (vv 2)<|FK) (aZ<|aZ<|aZ C_) (aZ C_) Z⟩
theorem fi:bi ["_law_rowsums_here","_law_columnsums_here","_law_limits","_law_levels","_law_to","_law_lot","_law_seen","_law_rests","_law_column"] ["_law_rowsums_here","_law_columnsums_here","_law_limits"] (ag<|cy 85):=ej
def o5(K:UA)(a:Ad):q00:=⟨_,QF K a 3 "_law_nodes" a.D3 a.D4 ["_law_rowsums_here","_law_columnsums_here","_law_limits"] 3,λN=>by
 exact f_ 9 N.Hz fi λd A w s H E c=>af (kQ<|d5 3 fi.nd<|fF<|dc<|eB<|dc<|bR fI mG mo N.Ft Boot.«tuple»<|dc<|vv 0)
   (af (br (fG (bq az<|bq az dW)<|bp<|bp di)<|aW bD Z (ku mo N.Fg<|dc<|vv 1) (bB Z<|ar (dk 4 fi.nd)<|ar (dk 5 fi.nd) bo) (af (CO<|d5 6 fi.nd<|ng (b:=T4))
   (af (PP az<|aW bD Z (HP<|ib eM (pv 3) (pv 4) (λ_ _=>Z)) (dk 7 fi.nd)<|ai<|br az<|aW bD Z (aQ<|vc (q01 (mx K a).3 N) c<|lj (vv 7) (vv 5)<|bh Z (hU ["_law_row","_law_to"] ["_law_row"] [4]) (aQ<|vv 2) (λG C e s H=>⟨(dk 0 eP),aX,λD=>aI Z (aV aA bc (vv 0)<|vv 1) Z⟩) ao au (λD=>aN)) (dk 8 fi.nd)<|ai<|sQ<|eK (re)<|gC (pv 6) (bR fI mG mo N.Ft Boot.«tuple»<|dc<|vc (q01 (jX K a).3 N) c<|dr (vv 7)<|vv 8)<|jN<|G_ c)
   (Lc 6<|ai<|kU<|cc<|lc VQ VV VW eZ (pv 3)<|dc<|bL (kB Z c.units) JD mo N.Fp Boot.«sorted»<|dc<|vv 6))))
   (ai<|ay<|aq<|vv 3))⟩
theorem bO:bi ["_law_rowsums_here","_law_columnsums_here","_law_limits","_law_levels","_law_told","_law_rests","_law_stage","_law_tables","_law_dealings","_law_column","_law_more"] ["_law_rowsums_here","_law_columnsums_here","_law_limits"] (ag<|cy 86):=ej
def lR(K:UA)(a:Ad):q00:=⟨_,QF K a 4 "_law_counted" a.D5 a.D6 ["_law_rowsums_here","_law_columnsums_here","_law_limits"] 3,λN=>by
 exact f_ 11 N.Ia bO λd A w s H E c=>af (aF<|d5 3 bO.nd<|vc (q01 (o5 K a).3 N) c<|lj (vv 0) (vv 1)<|vv 2)
   (af (CO<|d5 4 bO.nd<|ng (b:=O))
   (af (br az<|aW bD Z (aQ<|aV aA bc (vv 3)<|KQ xf DP<|ak) (dk 5 bO.nd)<|ai<|sQ<|eK (bC<|dr (ak)<|ak)<|gC (pv 4) (bC<|dr (cT N.Fj<|dc<|vv 1)<|vv 5)<|jN<|G_ c)
   (af (br az<|aW bD Z (Ma mo N.Fn<|lj (aG eL gl (cT N.Fj<|dc<|vv 1)<|ak) (aG eL gl (ak)<|ak)<|aG eL gl (ak)<|ak) (dk 6 bO.nd)<|ai<|br az<|aW bD Z (aQ<|aV aA bc (vv 3)<|vv 6) (dk 5 bO.nd) (af (aF<|d5 7 bO.nd<|ak)
   (af (aF<|d5 8 bO.nd<|ak)
   (af (br az<|aW bD Z (aQ<|vc (q01 (mx K a).3 N) c<|lj (vv 5) (aV aA bc (vv 1)<|vv 6)<|bh Z (hU ["_law_row","_law_stage"] ["_law_row"] [6]) (aQ<|vv 2) (λG C e s H=>⟨(dk 0 eP),aX,λD=>aI Z (aV aA bc (vv 0)<|vv 1) Z⟩) ao au (λD=>aN)) (dk 9 bO.nd) (af (PJ<|d5 10 bO.nd<|aV (kq<|G_ c) qw (vv 4)<|bC<|dr (aG aS bM (vv 6)<|ak)<|bR fI mG mo N.Ft Boot.«tuple»<|dc<|vc (q01 (jX K a).3 N) c<|dr (vv 5)<|vv 9)
   (af (aF<|d5 7 bO.nd<|aG aS bM (vv 7)<|aV aA bc (vv 10)<|ak)
   (ai<|aF<|d5 8 bO.nd<|aG aS bM (vv 8)<|aG bQ cY (aV aA bc (vv 10)<|ak)<|vc (q01 (m5 K a).3 N) c<|dc<|vv 9))))
   (ai<|sQ<|eK (bC<|dr (vv 7)<|vv 8)<|gC (pv 4) (bC<|dr (vv 6)<|vv 5)<|jN<|G_ c)))))
   (ai<|ay<|aq<|bh Z (hU ["_law_key","_law_told"] ["_law_key"] [4]) (aQ<|bL (kB Z c.units) JC mo N.Fp Boot.«sorted»<|dc<|vv 4) (λG C e s H=>⟨(dk 0 eP),aX,λD=>aI Z (aG aS bM (vv 0)<|aV (kq<|G_ c) qw (vv 1)<|vv 0) Z⟩) ao au (λD=>aN)))))⟩
theorem jO:bi ["_law_columnsums_here","_law_limits","_law_node","_law_part_here"] ["_law_columnsums_here","_law_limits","_law_node"] (ag<|cy 87):=ej
def k6(K:UA)(a:Ad):q00:=⟨_,QF K a 4 "_law_counts_from" a.D7 a.D8 ["_law_columnsums_here","_law_limits","_law_node"] 3,λN=>by
 exact f_ 4 N.Ib jO λb A w s H E c=>af (sJ (i:=3) jO.nd Z (by first|exact Wm Z|exact Xn Z) Z (hU ["_law_row","_law_node"] ["_law_row"] [2]) (aQ (vv 1)) (λG C d s H=>⟨(dk 0 eP),aX,λD=>aI Z (qe (vv 0) (mC<|aV aA bc (vv 1)<|ak)<|mE) Z⟩) ao au (λD=>aN))
   (ai<|ay<|aq<|vc (q01 (lP K a).3 N) c<|lj (aV aA bc (vv 2)<|ak) (qe (vv 0) (mC<|aV aA bc (vv 2)<|ak)<|mE)<|vv 3)⟩
theorem za:bi ["_law_rowsums_here","_law_columnsums_here","_law_limits"] ["_law_rowsums_here","_law_columnsums_here","_law_limits"] (ag<|cy 88):=ej
def m6(K:UA)(a:Ad):q00:=⟨_,QF K a 5 "_law_living" a.D9 a.Ea ["_law_rowsums_here","_law_columnsums_here","_law_limits"] 3,λN=>by
 exact f_ 3 N.Id za λb A w s H E c=>ai<|ay<|aq<|bh Z (hU ["_law_row"] ["_law_row"] []) (aQ<|vc (q01 (lR K a).3 N) c<|lj (vv 0) (vv 1)<|vv 2) (λG C d s H=>⟨(dk 0 eP),jH<|aU gj iF (aV aA bc (vv 0)<|ak)<|ak,λD=>aI Z (xb (vv 0) (mE)<|mC<|ak) Z⟩) ao au (λD=>aN)⟩
theorem dA:bi ["_law_kind_here","_law_sides_here","_law_where","_law_to","_law_column","_law_found","_law_count","_law_utmost","_law_both"] ["_law_kind_here","_law_sides_here","_law_where","_law_to","_law_column"] (ag<|cy 89):=ej
def rG(K:UA)(a:Ad):q00:=⟨_,QF K a 4 "_law_part" a.Eb a.Ec ["_law_kind_here","_law_sides_here","_law_where","_law_to","_law_column"] 5,λN=>by
 exact f_ 9 N.Ie dA λc A w s H E b=>af (bK (aU (cu b) de (vv 0)<|dN) (ai<|ay<|aq<|vc (q01 (m5 K a).3 N) b<|dc<|vv 4)<|bu)
   (af (bK (aU (cu b) de (vv 0)<|dN) (af (aF<|d5 5 dA.nd<|ak)
   (af (br az<|aW bD Z (aQ<|vv 4) (dk 6 dA.nd)<|ai<|aF<|d5 5 dA.nd<|aG bQ cY (vv 5)<|vc (q01 (ix K a).3 N) b<|dc<|vv 6)
   (ai<|ay<|aq<|vv 5)))<|bu)
   (af (bK (aU eY (kn) (vv 0)<|bC<|dr (dN)<|dN) (ai<|ay<|aq<|aV aA bc (eB<|dr (ak)<|aV aA bc (vv 4)<|aV aA bc (vv 2)<|ak)<|bR we JH mo N.Fh Boot.«int»<|dc<|jz (cu b) de (vv 3)<|aV aA bc (vv 2)<|ak)<|bu)
   (af (aF<|d5 5 dA.nd<|ak)
   (af (br (fG (bq az<|bq az dW)<|bp<|bp di)<|aW bD Z (lC mo N.Fu<|dr (aV aA bc (vv 1)<|ak)<|vv 4) (bB Z<|ar (dk 7 dA.nd)<|ar (dk 6 dA.nd) bo) (af (aF<|d5 8 dA.nd<|aG bQ cY (vv 7)<|aV aA bc (aV aA bc (vv 1)<|ak)<|vv 3)
   (ai<|bK (aU (cu b) de (vv 0)<|dN) (ai<|aF<|d5 5 dA.nd<|aG aS bM (vv 5)<|bL rY Nk mo N.Fd Boot.«abs»<|dc<|aG eL gl (aG bQ cY (vv 6)<|fW N.Fs<|dc<|aV aA bc (vv 1)<|ak)<|vv 8)<|ai<|bK (aU gj iF (vv 8)<|ak) (ai<|aF<|d5 5 dA.nd<|aG aS bM (vv 5)<|aG j9 pz (aG bQ cY (aG bQ cY (vv 6)<|vv 6)<|aV aA bc (vv 1)<|ak)<|vv 8)<|bu)))
   (ai<|ay<|aq<|vv 5)))))⟩
theorem wt:bi ["_law_kind_here","_law_one","_law_other"] ["_law_kind_here","_law_one","_law_other"] (ag<|cy 90):=ej
def jW(K:UA)(a:Ad):q00:=⟨_,QF K a 2 "_law_together" a.Ed a.Ee ["_law_kind_here","_law_one","_law_other"] 3,λN=>by
 exact f_ 3 N.Ig wt λb A w s H E c=>af (bK (aU eY (kn) (vv 0)<|bC<|dr (dN)<|dN) (ai<|ay<|aq<|aG bQ cY (vv 1)<|vv 2)<|bu)
   (ai<|ay<|aq<|aG aS bM (vv 1)<|vv 2)⟩
theorem CN:bi ["_law_kind_here"] ["_law_kind_here"] (ag<|cy 91):=ej
def o6(K:UA)(a:Ad):q00:=⟨_,QF K a 2 "_law_begun" a.Ef a.Eg ["_law_kind_here"] 1,λN=>by
 exact f_ 1 N.Ih CN λb A w s H E c=>ai<|ay<|aq<|bR we JH mo N.Fh Boot.«int»<|dc<|jz eY (kn) (vv 0)<|bC<|dr (dN)<|dN⟩
theorem mY:bi ["_law_grid_here","_law_rowsums_here","_law_columnsums_here"] ["_law_grid_here"] (ag<|cy 92):=ej
def o3(K:UA)(a:Ad):q00:=⟨_,QF K a 4 "_law_sides" a.Eh a.Ei ["_law_grid_here"] 1,λN=>by
 exact f_ 3 N.Ii mY λc A w s H E b=>af (aF<|d5 1 mY.nd<|vc (q01 (gz K a).3 N) b<|dc<|vv 0)
   (af (aF<|d5 2 mY.nd<|vc (q01 (eG K a).3 N) b<|dc<|vv 0)
   (ai<|ay<|aq<|bC<|lj (vv 1) (vv 2)<|vc (q01 (rH K a).3 N) b<|dr (vv 1)<|vv 2))⟩
theorem cq:bi ["_law_script","_law_bag_here","_law_grid_here","_law_limits","_law_kind_here","_law_where","_law_sides_here","_law_net_here","_law_scale_here","_law_told","_law_nodes_here","_law_k","_law_found","_law_columns","_law_so_far","_law_to","_law_column","_law_part_here","_law_kept"] ["_law_script"] (ag ql):=ej
def sV(K:UA)(a:Ad):{g:G//∀(P:UT) (w:UY) {mg:a0j} (aa:Vl) (N:x_ K mg a) (f:T8) (d:Uc) (A:Vn) (M:List Env) (s:Uj) (H:Hp) (E:XK),d4 8 (A.deeper<|Rows.envOfC "law" (ag ql) s.heap.objs.size f d)->PSs (f9 (hO P w) P w K mg aa ["_law_script","_law_bag_here","_law_grid_here","_law_limits","_law_kind_here","_law_where","_law_sides_here","_law_net_here","_law_scale_here","_law_told","_law_nodes_here","_law_k","_law_found","_law_columns","_law_so_far","_law_to","_law_column","_law_part_here","_law_kept"] "law" (ag ql) f d A M s H E) (cK ql).tail (tG K H g (λ_=>E))}:=⟨_,λP w mg aa N f d A M s H E c=>by
 exact af (aF<|d5 2 cq.nd<|vc (DA N) c<|dc<|vv 1)
   (af (aF<|d5 3 cq.nd<|vc (q01 (jC K a).3 N) c<|dr (vv 1)<|vv 2)
   (af (aF<|d5 4 cq.nd<|vc (q01 (jY K a).3 N) c<|dc<|vv 1)
   (af (aF<|d5 5 cq.nd<|vc (q01 (kZ K a).3 N) c<|dr (vv 1)<|vv 2)
   (af (aF<|d5 6 cq.nd<|vc (q01 (o3 K a).3 N) c<|dc<|vv 2)
   (af (aF<|d5 7 cq.nd<|vc (q01 (uI K a).3 N) c<|dr (vv 2)<|vv 3)
   (af (aF<|d5 8 cq.nd<|vc (q01 (o4 K a).3 N) c<|lj (vv 4) (vv 2)<|vv 5)
   (af (PL<|d5 9 cq.nd<|IA ((sY K a).2 N) (c.mono vy) Z N.G5.m N.G5.F.kp N.G5.b cM (dr (vv 7)<|vv 8)<|aZ<|aZ λ_ _ _ _=>se)
   (af (aF<|d5 10 cq.nd<|vc (q01 (m6 K a).3 N) c<|lj (aV aA bc (vv 6)<|ak) (aV aA bc (vv 6)<|ak)<|vv 3)
   (af (bK (qh<|qg<|vc (vO N) c<|dr (bh Z (hU ["_law_row"] ["_law_row"] []) (aQ<|vv 9) (λS C e s H=>⟨(dk 0 eP),aX,λD=>aI Z (xb (vv 0) (mE)<|mC<|ak) Z⟩) ao au (λD=>aN))<|vv 10) (ai<|ay<|aq<|re)<|bu)
   (af (br az<|aW bD Z (aQ<|eB<|lj (ak) (vc (bA N) c<|dr (vv 1)<|cT N.Fj<|dc<|vv 10)<|aG eL gl (cT N.Fj<|dc<|vv 10)<|ak) (dk 11 cq.nd) (af (kQ<|d5 12 cq.nd<|fF<|dY)
   (af (br az<|aW bD Z (aQ<|vc (q01 (k6 K a).3 N) c<|lj (aV aA bc (vv 6)<|ak) (vv 3)<|aV aA bc (vv 10)<|vv 11) (dk 13 cq.nd) (af (aF<|d5 14 cq.nd<|vc (q01 (o6 K a).3 N) c<|dc<|vv 4)
   (af (br (fG (bq az<|bq az dW)<|bp<|bp di)<|aW bD Z (ku mo N.Fg<|dc<|vv 13) (bB Z<|ar (dk 15 cq.nd)<|ar (dk 16 cq.nd) bo) (af (aF<|d5 17 cq.nd<|vc (q01 (rG K a).3 N) c<|bT (vv 4)<|bT (vv 6)<|bT (vv 5)<|bT (aG aS bM (aV aA bc (aV aA bc (vv 10)<|vv 11)<|ak)<|vv 15)<|bT (vv 16)<|dY)
   (ai<|aF<|d5 14 cq.nd<|vc (q01 (jW K a).3 N) c<|lj (vv 4) (vv 14)<|vv 17)))
   (ai<|kU<|cc<|lc VQ VV VW eZ (pv 12)<|dc<|vv 14))))
   (ai<|bK (qh<|qg<|vc (vO N) c<|dr (aV aA bc (vv 9)<|vv 11)<|aG aS bM (aV aA bc (vv 10)<|vv 11)<|bC<|dr (bL (wa Z) JE mo N.Fm Boot.«min»<|dc<|vv 12)<|bL (wb Z) JF mo N.Fl Boot.«max»<|dc<|vv 12) (ai<|ay<|aq<|re)<|bu))))
   (af (PM<|d5 18 cq.nd<|Lz bP OC mo N.Fk Boot.«list»<|dc<|vv 9)
   (af (PQ<|cc<|Qn VQ PySem.F.slot_list_clear PySem.F.type_list_clear LG<|pv 9)
   (ai<|ay<|aq<|jz (cu c) de (R1<|IA ((sY K a).2 N) (c.mono vy) Z N.G5.m N.G5.F.kp N.G5.b cM (dr (vv 7)<|vv 8)<|aZ<|aZ λ_ _ _ _=>se)<|vv 18)))))))))))))⟩
theorem Qx{f:T8}{o:Uw}(F:g8 K "law" "law" ql f o)(N:x_ K mg a)(T:∀G:Bg,G.ok->∃c,(sV K a).1 [Y,U<|.sh .bag,Y,Y,Y,Y,Y,Y,Y,Y,Y,Y,Y,Y,Y,Y,Y,Y,Y] G=U (.rt<|.bl O,c)):
  e_ P w K mg aa (hO P w) 9 f o ["_law_script"] (MU K):=by
 refine F.okE cq (λM H Q E h=>?_) (λd A D s H M Q E p h=>?_)
 .obtain⟨a,ns,rfl,_⟩:=h
  rfl
 .obtain⟨a1,ns,rfl,r,q,k⟩:=h
  refine⟨_,dj (d5 1 cq.nd<|mB (Ly N) (p.mono vy) Z N.Ha.m N.Ha.F.kp N.Ha.b .nil wL<|gi (pv 0) j6) ((sV K a).2 P w aa N f d A D s H E p),?_⟩;refine⟨_,Z,a1,ns,Z,r,λb l C g i t u=>?_⟩;obtain⟨G,ok,j⟩:=O6 u g i t;obtain⟨c,e⟩:=T G ok;exact⟨_,_,_,G,_,c,j,e,λv I y s fr B=>by cases B.bl;exact k y⟩
end
end Law
namespace L2.Pu
noncomputable def dt:Nat->Nat
 |0=>1
 |n+1=>dt n*(n+1)
noncomputable def pr(l:a0a):Nat:=l.foldr (·*·) 1
theorem Qd:pr []=1:=Z
theorem xR(l m:a0a):pr (l++m)=pr l*pr m:=by
 induction l with
 |nil=>simp[pr]
 |cons x l w=>
  show x*pr (l++m)=x*pr l*pr m;rw[w,Y4]
theorem l3{w:Type}{l:List w}{i:Nat}{x:w}(h:l[i]?=U x):l.take (i+1)=l.take i++[x]:=by
 rw[List.take_succ,h];rfl
theorem iB{w:Type}{f:w->Nat}{l:List w}{i:Nat}{x:w}(h:l[i]?=U x):pr ((l.take<|i+1).map f)=pr ((l.take i).map f)*f x:=by
 rw[l3 h,UK,xR];simp[pr]
theorem NR{w:Type}{f:w->Nat}{l:List w}{i:Nat}{x:w}(h:l[i]?=U x):((l.take<|i+1).map f).sum=((l.take i).map f).sum+f x:=by
 rw[l3 h,UK,XD];simp
theorem Sc{w:Type}{f:w->Nat}{l:List w}(i:Nat):((l.take i).map f).sum<=(l.map f).sum:=by
 have e:(l.map f).sum=((l.take i).map f).sum+((l.drop i).map f).sum:=by rw[<-XD,<-UK,Wa]
 lia
theorem mJ:∀n,0<dt n
 |0=>by decide
 |n+1=>Nat.mul_pos (mJ n) rk
theorem yG:∀{n m:Nat},n<=m->dt n<=dt m:=by
 intro n m h
 induction h with
 |refl=>exact Ug _
 |step h w=>exact Um w (Yx _ rk)
theorem mK{n:Nat}(h:n<=40):dt n<=2^160:=Um (yG h) (by decide +kernel)
theorem xQ{l:a0a}(h:∀x∈l,0<x):0<pr l:=by
 induction l with
 |nil=>decide
 |cons x l w=>exact Nat.mul_pos (h x Ud)<|w λy D=>h y<|T3 _ D
theorem M5{l:a0a}{m:Nat}(h:∀x∈l,x<=2^m):pr l<=2^(m*l.length):=by
 induction l with
 |nil=>exact Nat.one_le_two_pow
 |cons x l w=>
  show x*pr l<=_;rw[Ur,Nat.mul_succ,Nat.add_comm,Nat.pow_add];exact YH (h x Ud)<|w λy D=>h y<|T3 _ D
theorem Su{n:Nat}(h:n<=40):n^n<=2^(6*n):=by
 rw[Nat.pow_mul];exact Nat.pow_le_pow_left rk n
theorem M6{l:a0a}(h:∀x∈l,x<=40):pr (l.map λn=>n^n)<=2^(6*l.sum):=by
 induction l with
 |nil=>decide
 |cons x l w=>
  show x^x*pr _<=_;rw[UI,Nat.mul_add,Nat.pow_add];exact YH (Su<|h x Ud)<|w λy D=>h y<|T3 _ D
theorem db{l:a0a}{x:Nat}(h:x∈l):x<=l.sum:=by
 induction l with
 |nil=>cases h
 |cons y l w=>
  rw[UI];obtain rfl|h:=Uq.mp h
  .lia
  .have:=w h;lia
theorem bW{t m:Nat}(h:t<=2^m)(w:m<=999):t<2^1000:=VC (Um h<|X1 vy w) (Nat.pow_lt_pow_right vy vy)
theorem ef{t n:Nat}(a:t<2^1000)(b:n<2^1000):dy (.int (t:Int)) (.int (n:Int))=U (.int ((t*n:Nat):Int)):=by
 have c:iS _=O:=Ux (by rw[Int.natAbs_natCast];exact a);have d:iS _=O:=Ux (by rw[Int.natAbs_natCast];exact b);show(if(iS _&&iS _)=O then _ else _)=_;simp only[c,d];rfl
theorem ua{t g:Nat}(d:0<g)(a:g<2^1000):nV (.int (t:Int)) (.int (g:Int))=U (.int ((t/g:Nat):Int)):=by
 have c:decide (((g:Int)).natAbs.log2<9000)=O:=Ux (by
  rw[Int.natAbs_natCast];have:=(Nat.log2_lt rk).mpr a;lia)
 show(if(decide _&&decide _)=O then _ else _)=_;simp only[(Ux rk:decide ((0:Int)<(g:Int))=O),c];rfl
theorem y6{t n:Nat}:dR (.int (t:Int)) (.int (n:Int))=U (.int ((t+n:Nat):Int)):=by
 rw[Y8];rfl
theorem iZ(l:a0a):(nI l).sum=((l.sum:Nat):Int):=by
 induction l with
 |nil=>rfl
 |cons x l w=>
  show(x:Int)+(nI l).sum=_;rw[w,UI,Y8]
theorem ig{l:a0a}{i:Nat}{d:D}(h:((nI l).map D.int)[i]?=U d):∃n,l[i]?=U n/\d= .int (n:Int):=by
 obtain⟨x,w,rfl⟩:=bH h;obtain⟨n,E,rfl⟩:=bH w;exact⟨n,E,Z⟩
theorem i5(l:a0a):((nI l).map D.int).length=l.length:=by rw[TX,TX]
def Sq(l:a0a)(d:D):Prop:=d=nL l\/d= .tup ((nI l).map D.int)
theorem Sq.seq{l:a0a}{d:D}(h:Sq l d):dZ d=U ((nI l).map D.int):=by rcases h with rfl|rfl<;>rfl
theorem rg2'{i j:Int}(a:0<=i)(b:i<=10^9)(c:0<=j)(d:j<=10^9):rE [.int i,.int j]=U (bw i (j-i).toNat):=by
 have q:(decide (-(2^62)<=i)&&decide (i<2^62)&&decide (-(2^62)<=j)&&decide (j<2^62))=O:=by
  simp only[US];lia
 show(if(decide _&&decide _&&decide _&&decide _)=O then U (bw i _)else Y)=_;rw[Uf q]
theorem rg2{n:Nat}(h:n<=1000):rE [.int 2,.int<|(n:Int)+1]=U (bw 2<|n-1):=by
 rw[rg2' vy vy rk rk,show((n:Int)+1-2).toNat=n-1 by lia]
def lcS(t n:Nat):Nat:=t*n/YF t n
def pb(l:a0a):Nat:=l.foldl lcS 1
theorem AA(l:a0a)(n:Nat):pb (l++[n])=lcS (pb l) n:=by unfold pb;rw[List.foldl_append];rfl
theorem JB{l:a0a}(h:∀n∈l,1<=n/\n<=2^11):1<=pb l/\pb l<=2^(11*l.length):=by
 have w:∀(l:a0a) (t m:Nat),(∀n∈l,1<=n/\n<=2^11)->1<=t->t<=2^m->1<=l.foldl lcS t/\l.foldl lcS t<=2^(m+11*l.length):=by
  intro l
  induction l with
  |nil=>exact λt m _ a b=>⟨a,b⟩
  |cons n l D=>
   intro t m h a b;obtain⟨e,f⟩:=h n Ud;have c:0<YF t n:=Nat.gcd_pos_of_pos_left _ a;have:=D _ _ (λx E=>h x<|T3 _ E) (Nat.div_pos (Um (Nat.gcd_le_left _ a)<|Yx _ e) c) (Um (Z9 _ _)<|by rw[Nat.pow_add];exact YH b f);rw[Ur,Nat.mul_succ,show m+(11*l.length+11)=m+11+11*l.length by lia];exact this
 have:=w l 1 0 h (Ug _) vy;rwa[V4]at this
end L2.Pu
namespace L2.Pu
open L2.Hs
def nJ(k:a0e):LI->LI
 |[]=>[k]
 |x::l=>if ci k x=O then k::x::l else if k=x then x::l else x::nJ k l
theorem nN{k y:a0e}:∀{l:LI},y∈nJ k l↔y=k\/y∈l
 |[]=>by simp[nJ]
 |x::l=>by
  unfold nJ;split
  .simp
  .split
   .rename_i h
    subst h;simp
   .rw[Uq,nN,Uq]
    exact or_left_comm
theorem AF{k:a0e}:∀{l:LI},Up l->Up (nJ k l)
 |[],_=>by exact Xh _ _
 |x::l,h=>by
  obtain⟨a,b⟩:=Yq.mp h;unfold nJ;split
  .rename_i q
   refine Yq.mpr ⟨λy hy=>?_,h⟩;obtain rfl|hy:=Uq.mp hy
   .exact q
   .exact tL q (a y hy)
  .split
   .exact h
   .rename_i q1 q2
    refine Yq.mpr ⟨λy hy=>?_,AF b⟩;obtain rfl|hy:=nN.mp hy
    .cases q:ci x y with
     |true=>rfl
     |false=>exact UG (qt (by simpa using q1) q) q2
    .exact a y hy
def oK(w:LI):LI:=w.foldr nJ []
theorem l8:∀w,Up<|oK w
 |[]=> .nil
 |k::w=>AF<|l8 w
theorem fX{y:a0e}:∀{w:LI},y∈oK w↔y∈w
 |[]=>by simp[oK]
 |k::w=>by
  show y∈nJ k (oK w)↔_;rw[nN,fX,Uq]
theorem MQ{l:LI}(h:Up l):l.Nodup:=h.imp λ{a b} q e=>by
 subst e;rw[iD]at q;cases q
theorem Pw{w:LI}(b:∀k∈w,1<=k.length){m:LI}(D:m.length<63)(c:∀k∈w,k∈m):g9 (w.map lk)=U (.lst<|(oK w).map lk):=by
 refine xo ⟨l8 w,VC (nd_len (MQ<|l8 w) λx E=>c x<|fX.mp E) D,λk a=>⟨b k<|fX.mp a,T7.mpr ⟨k,fX.mp a,Z⟩⟩,λd G=>?_⟩;obtain⟨k,a,rfl⟩:=T7.mp G;exact⟨k,fX.mpr a,Z⟩
end L2.Pu
namespace L2.Nt
noncomputable def sm{w:Type}(l:List w)(f:w->Nat):Nat:=(l.map f).sum
section
variable{d β:Type}
theorem GK{f:d->Nat}:sm [] f=0:=Z
theorem cG{a:d}{l:List d}{f:d->Nat}:sm (a::l) f=f a+sm l f:=by unfold sm;rw[Ul,UI]
theorem xq{l m:List d}{f:d->Nat}:sm (l++m) f=sm l f+sm m f:=by unfold sm;rw[UK,XD]
theorem ff{f g:d->Nat}:∀{l:List d},(∀a∈l,f a=g a)->sm l f=sm l g
 |[],_=>rfl
 |a::l,h=>by rw[cG,cG,h a Ud,ff λb c=>h b<|T3 a c]
theorem xp{g:β->d}{f:d->Nat}{l:List β}:sm (l.map g) f=sm l λb=>f (g b):=by unfold sm;rw[Ub];rfl
theorem uA{g:β->List d}{f:d->Nat}:∀{l:List β},sm (l.flatMap g) f=sm l λb=>sm (g b) f
 |[]=>rfl
 |b::l=>by rw[U9,xq,cG,uA]
theorem zr:∀{l:List d},(sm l λ_=>0)=0
 |[]=>rfl
 |a::l=>by rw[cG,zr]
theorem GL{f g:d->Nat}:∀{l:List d},(sm l λa=>f a+g a)=sm l f+sm l g
 |[]=>rfl
 |a::l=>by rw[cG,cG,cG,GL];lia
theorem sD{c:Nat}{f:d->Nat}:∀{l:List d},(sm l λa=>c*f a)=c*sm l f
 |[]=>rfl
 |a::l=>by rw[cG,cG,sD,Nat.mul_add]
theorem MV{f:a0O}{m:Nat}:∀{n:Nat},m<=n->sm (Ue<|m+1) f=sm (Ue<|n+1) λa=>if a<=m then f a else 0
 |0,h=>by
  obtain rfl:m=0:=by lia
  exact ff λa d=>by
   have:=UD.mp d;rw[Uf rk]
 |n+1,h=>by
  obtain q|q:=Nat.lt_or_ge m (n+1)
  .rw[WJ (n:=n+1),xq,<-MV (by lia:m<=n),cG,GK,Uh rk]
   lia
  .obtain rfl:m=n+1:=by lia
   exact ff λa d=>by
    have:=UD.mp d;rw[Uf rk]
noncomputable def cg:a0a->Nat->a0p
 |[],0=>[[]]
 |[],_+1=>[]
 |x::r,c=>(Ue<|W0 x c+1).flatMap λa=>(cg r<|c-a).map (a::·)
noncomputable def less(r v:a0a):a0a:=X8 (·-·) r v
theorem FM{x c:Nat}{r:a0a}{f:a0a->Nat}:sm (cg (x::r) c) f=sm (Ue<|W0 x c+1) λa=>sm (cg r<|c-a) λv=>f (a::v):=by
 show sm ((Ue<|W0 x c+1).flatMap λa=>(cg r<|c-a).map _) f=_;rw[uA];exact ff λa _=>xp
end
end L2.Nt
namespace L2.Nt
open L2.Pu
noncomputable def ch:Nat->Nat->Nat
 |_,0=>1
 |0,_+1=>0
 |n+1,k+1=>ch n k+ch n (k+1)
theorem ue:∀{n k:Nat},n<k->ch n k=0
 |0,k+1,_=>by simp[ch]
 |n+1,k+1,h=>by
  show ch n k+ch n _=0;rw[ue rk,ue rk]
theorem va(n:Nat):ch n 0=1:=by cases n<;>rfl
theorem BD:∀n,ch n n=1
 |0=>rfl
 |n+1=>by
  show ch n n+ch n _=1;rw[BD n,ue rk]
theorem EI(n:Nat):dt (n+1)=(n+1)*dt n:=WU _<|n+1
theorem pQ:∀n a b:Nat,a+b=n->ch (a+b) a*(dt a*dt b)=dt (a+b)
 |n,0,b,_=>by rw[va];simp[dt]
 |n,a+1,0,_=>by rw[Nat.add_zero,BD];simp[dt]
 |0,a+1,b+1,h=>by lia
 |n+1,a+1,b+1,h=>by
  have c:=pQ n a (b+1) rk;have d:=pQ n (a+1) b rk;have e:a+1+(b+1)=(a+b+1)+1:=by lia
  have f:a+(b+1)=a+b+1:=by lia
  have g:a+1+b=a+b+1:=by lia
  rw[f]at c;rw[g]at d;rw[e];show(ch _ a+ch _ _)*(dt _*dt _)=dt _;rw[EI<|a+b+1,Nat.add_mul];have i:ch (a+b+1) a*(dt (a+1)*dt (b+1))=(a+1)*dt (a+b+1):=by
   rw[<-c,EI a];rw[Y4,YI]
  have j:ch (a+b+1) (a+1)*(dt (a+1)*dt (b+1))=(b+1)*dt (a+b+1):=by
   rw[<-d,EI b];simp only[Y4,YI]
  rw[i,j,<-Nat.add_mul,show a+1+(b+1)=a+b+1+1 by lia]
theorem qj{f:a0O}{n:Nat}:sm (Ue<|n+1) f=f 0+sm (Ue n) λa=>f (a+1):=by
 rw[List.range_succ_eq_map,cG,xp]
theorem KP:∀(x y c:Nat),(sm (Ue<|c+1) λa=>ch x a*ch y (c-a))=ch (x+y) c
 |0,y,c=>by
  rw[qj,va,Nat.one_mul,Nat.sub_zero,V4];have:(sm (Ue c) λa=>ch 0 (a+1)*ch y (c-(a+1)))=0:=(ff λa _=>by rw[ue rk,Nat.zero_mul]).trans zr;rw[this];rfl
 |x+1,y,0=>by rw[qj];simp[va,GK]
 |x+1,y,c+1=>by
  have b:=KP x y<|c+1;rw[qj]at b;rw[qj];have e:(sm (Ue<|c+1) λa=>ch (x+1) (a+1)*ch y (c+1-(a+1)))=(sm (Ue<|c+1) λa=>ch x a*ch y (c-a))+sm (Ue<|c+1) λa=>ch x (a+1)*ch y (c+1-(a+1)):=by
   rw[<-GL];refine ff λa _=>?_;show(ch x a+ch x _)*_=_;rw[Nat.add_mul,Nat.add_sub_add_right]
  rw[e,KP x y c];have f:x+1+y=x+y+1:=by lia
  rw[f];show _=ch _ c+ch _ _;rw[<-b,va,va];lia
theorem vdm(x y c:Nat):(sm (Ue<|W0 x c+1) λa=>ch x a*ch y (c-a))=ch (x+y) c:=by
 rw[MV<|Ye x c,<-KP];refine ff λa w=>?_;have:=UD.mp w;by_cases q:a<=x
 .rw[Uf rk]
 .rw[Uh rk,ue rk,Nat.zero_mul]
def pc:a0a->a0a->Nat
 |x::r,a::v=>ch x a*pc r v
 |_,_=>1
theorem HV:∀(r:a0a) (c:Nat),sm (cg r c) (pc r)=ch r.sum c
 |[],0=>rfl
 |[],c+1=>rfl
 |x::r,c=>by
  rw[FM,UI,<-vdm];exact ff λa _=>by rw[<-HV r _,<-sD];rfl
theorem ir:∀{r:a0a} {c:Nat} {v:a0a},v∈cg r c->v.sum=c/\(less r v).sum+c=r.sum/\v.length=r.length/\pr (r.map dt)=pc r v*(pr (v.map dt)*pr ((less r v).map dt))
 |[],0,v,h=>by cases UM.mp h;exact⟨Z,Z,Z,Z⟩
 |[],c+1,v,h=>by cases h
 |x::r,c,v,h=>by
  obtain⟨a,E,b⟩:=Vk.mp h;obtain⟨u,d,rfl⟩:=T7.mp b;have e:=UD.mp E;obtain⟨f,g,i,j⟩:=ir d;refine⟨by rw[UI,f];grind,?_,by rw[Ur,i,Ur],?_⟩
  .show((x-a)::less r u).sum+c=_
   rw[UI,UI,<-g];grind
  .show dt x*pr _=(ch x a*pc r u)*((dt a*pr _)*(dt _*pr ((less r u).map dt)))
   have w:=pQ x a (x-a) rk;rw[show a+(x-a)=x by lia]at w;rw[j,<-w];simp only[Y4,YI]
def mu:a0a->Nat
 |[]=>1
 |x::r=>ch (x+r.sum) x*mu r
theorem kh:∀r:a0a,mu r*pr (r.map dt)=dt r.sum
 |[]=>rfl
 |x::r=>by
  show(ch _ x*mu r)*(dt x*pr _)=dt _;rw[UI,<-pQ _ x _ Z,<-kh r];simp only[Y4,YI]
theorem uL(r:a0a):0<pr (r.map dt):=xQ λx w=>by
 obtain⟨n,_,rfl⟩:=T7.mp w;exact mJ n
theorem QC(r:a0a):dt r.sum/pr (r.map dt)=mu r:=by rw[<-kh,Nat.mul_div_cancel _<|uL r]
def dls:a0a->a0a->Nat
 |_,[]=>1
 |r,c::cs=>sm (cg r c) λv=>mu v*dls (less r v) cs
theorem MF:∀{r:a0a},r.sum=0->mu r=1
 |[],_=>rfl
 |x::r,h=>by
  rw[UI]at h;obtain rfl:x=0:=by lia
  show ch _ 0*mu r=1;rw[va,MF rk]
theorem pL:∀(w r:a0a),r.sum=w.sum->dls r w=mu r
 |[],r,h=>(MF h).symm
 |c::w,r,h=>by
  rw[UI]at h;apply Nat.eq_of_mul_eq_mul_right (uL r);rw[kh];show sm _ _*_=_;rw[WU,<-sD];have e:(sm (cg r c) λv=>pr (r.map dt)*(mu v*dls (less r v) w))=sm (cg r c) λv=>(dt c*dt (r.sum-c))*pc r v:=by
   refine ff λv a=>?_;obtain⟨b,f,g,d⟩:=ir a;rw[pL w _ rk,d];have D:=kh v;have E:=kh<|less r v;rw[b]at D;rw[show(less r v).sum=r.sum-c by lia]at E;rw[<-D,<-E];simp only[Y4,YI,WU]
  rw[e,sD,HV,WU];have:=pQ r.sum c (r.sum-c) rk;rw[show c+(r.sum-c)=r.sum by lia]at this;exact this
def lb:a0a->a0a->Prop
 |[],[]=>True
 |a::v,x::r=>a<=x/\lb v r
 |_,_=>False
theorem lb.refl:∀r,lb r r
 |[]=>trivial
 |_::r=>⟨Ug _,lb.refl r⟩
theorem lb.tr:∀{u v r:a0a},lb u v->lb v r->lb u r
 |[],[],[],_,_=>trivial
 |_::_,_::_,_::_,h,q=>⟨Um h.1 q.1,h.2.tr q.2⟩
 |[],_::_,_,h,_=>h.elim
 |_::_,[],_,h,_=>h.elim
 |[],[],_::_,_,q=>q.elim
 |_::_,_::_,[],_,q=>q.elim
theorem lb.len:∀{v r:a0a},lb v r->v.length=r.length
 |[],[],_=>rfl
 |_::_,_::_,h=>U6 (·+1) h.2.len
 |[],_::_,h=>h.elim
 |_::_,[],h=>h.elim
theorem lb.less:∀{v r:a0a},lb v r->lb (less r v) r
 |[],[],_=>trivial
 |a::v,x::r,h=>⟨Nat.sub_le x a,h.2.less⟩
 |[],_::_,h=>h.elim
 |_::_,[],h=>h.elim
theorem lb.pr:∀{v r:a0a},lb v r->L2.Pu.pr (v.map (·+1))<=L2.Pu.pr (r.map (·+1))
 |[],[],_=>Ug _
 |_::_,_::_,h=>YH (ZX h.1) h.2.pr
 |[],_::_,h=>h.elim
 |_::_,[],h=>h.elim
theorem lb.sum:∀{v r:a0a},lb v r->v.sum<=r.sum
 |[],[],_=>Ug _
 |_::_,_::_,h=>by exact Nat.add_le_add h.1 h.2.sum
 |[],_::_,h=>h.elim
 |_::_,[],h=>h.elim
theorem b8:∀{r:a0a} {c:Nat} {v:a0a},v∈cg r c->lb v r
 |[],0,v,h=>by cases UM.mp h;exact trivial
 |[],c+1,v,h=>by cases h
 |x::r,c,v,h=>by
  obtain⟨a,D,b⟩:=Vk.mp h;obtain⟨u,d,rfl⟩:=T7.mp b;have e:=UD.mp D;exact⟨by grind,b8 d⟩
theorem ki:∀{r v:a0a},lb v r->v∈cg r v.sum
 |[],[],_=>UM.mpr Z
 |x::r,a::v,h=>by
  refine Vk.mpr ⟨a,UD.mpr (by rw[UI];have:=h.1;lia),T7.mpr ⟨v,?_,Z⟩⟩;rw[UI,ZW];exact ki h.2
 |[],_::_,h=>h.elim
 |_::_,[],h=>h.elim
theorem fK{w a:Type}{f:w->List a}{n:Nat}:∀{l:List w},(∀x∈l,(f x).length<=n)->(l.flatMap f).length<=l.length*n
 |[],_=>by simp
 |x::l,h=>by
  rw[U9,Uv,Ur,Nat.succ_mul,Nat.add_comm];exact Nat.add_le_add (fK λy D=>h y<|T3 _ D)<|h x Ud
theorem mW:∀(r:a0a) (c:Nat),(cg r c).length<=pr (r.dropLast.map (·+1))
 |[],0=>Ug _
 |[],_+1=>Vp _
 |[x],c=>by
  have h:cg [x] c=(Ue<|W0 x c+1).flatMap λa=>(cg []<|c-a).map _:=Z;rw[h,WJ,V0,Uv];have e:((Ue<|W0 x c).flatMap λa=>(cg []<|c-a).map (a::·))=[]:=by
   refine Yt.mpr λa w=>?_;have:=UD.mp w;obtain⟨n,D⟩:∃n,c-a=n+1:=⟨c-a-1,by grind⟩;rw[D];rfl
  rw[e];cases q:c-W0 x c<;>simp[cg,q,pr]
 |x::y::r,c=>by
  have h:=fK (l:=Ue<|W0 x c+1) (f:=λa=>(cg _<|c-a).map (a::·)) λa _=>by rw[TX];exact mW (y::r)<|c-a
  rw[UF]at h;apply Um h;exact X0 _ rk
theorem nU{w D a:Type}{f:w->List D}{g:D->List a}(l:List w):(l.flatMap f).flatMap g=l.flatMap λx=>(f x).flatMap g:=List.flatMap_assoc
theorem wK(r:a0a)(k:Nat):pr ((r.take k).map (·+1))<=pr (r.map (·+1)):=by
 conv=>rhs;rw[<-Wa k r,UK,xR]
 exact Yx _ (xQ λx w=>by
  obtain⟨n,_,rfl⟩:=T7.mp w;lia)
theorem wN(l:a0a):(nI l).map Int.toNat=l:=by
 rw[Ub];exact(UH λx _=>Z).trans<|List.map_id l
theorem i6{l m:a0a}(h:nI l=nI m):l=m:=by rw[<-wN l,h,wN]
theorem IG{w a:Type}{f:w->a}{l:List w}(h:(l.map f).Nodup):l.Nodup:=(WH.mp h).imp λq e=>q<|U6 f e
theorem IH{D c:Type}{f:D->c}(w:∀a b,f a=f b->a=b){l:List D}(h:l.Nodup):(l.map f).Nodup:=WH.mpr<|h.imp λq e=>q<|w _ _ e
theorem gY{w:a0a}{k:Nat}(h:k<w.length):w.drop k=w.getD k 0::w.drop (k+1):=by
 rw[VH h,T6,Ua h];rfl
noncomputable def Q_:a0h->a0a->Bool
 |p::ps,a::v=>decide (p.1<=a)&&decide (a<=p.2)&&Q_ ps v
 |_,_=>O
def vB(w:a0h)(r:a0a)(c:Nat):a0p:=(cg r c).filter<|Q_ w
theorem uu{p:Nat×Nat}{w:a0h}{x:Nat}{r:a0a}{c:Nat}:vB (p::w) (x::r) c=(Ue<|W0 x c+1).flatMap λa=>if p.1<=a/\a<=p.2 then(vB w r<|c-a).map (a::·)else[]:=by
 show((Ue<|W0 x c+1).flatMap λa=>(cg r<|c-a).map _).filter _=_;rw[List.filter_flatMap];refine U6 (List.flatMap · _)<|funext λa=>?_;rw[List.filter_map];by_cases q:p.1<=a/\a<=p.2
 .rw[Uf q]
  refine U6 _<|List.filter_congr λv _=>?_;show(decide _&&decide _&&Q_ w v)=Q_ w v;rw[Ux q.1,Ux q.2];rfl
 .rw[Uh q,List.filter_eq_nil_iff.mpr,Wc]
  intro v _ h;have h:(decide _&&decide _&&Q_ w v)=O:=h;simp only[US,UZ]at h;exact q h.1
noncomputable def l6:a0h->a0a->a0a
 |p::ps,x::r=>W0 x p.2::l6 ps r
 |_,_=>[]
noncomputable def lr(w:a0h):a0a:=w.map (·.1)
theorem MP:∀{w:a0h} {r:a0a} {c:Nat} {v:a0a},w.length=r.length->v∈vB w r c->(lr w).sum<=c/\c<=(l6 w r).sum
 |[],[],c,v,_,h=>by
  have:=ir<|(VS.mp h).1;simp at this;simp[lr];lia
 |p::w,x::r,c,v,e,h=>by
  rw[uu]at h;obtain⟨a,D,h⟩:=Vk.mp h;by_cases q:p.1<=a/\a<=p.2
  .rw[Uf q]at h
   obtain⟨u,b,rfl⟩:=T7.mp h;have i:=MP (by simpa using e) b;have:=UD.mp D;simp only[lr,l6,Ul,UI]at i⊢;lia
  .rw[Uh q]at h;cases h
noncomputable def nxB(x:Nat)(p:Nat×Nat)(few a:Nat)(b:a0a×Nat):List (a0a×Nat):=(Ue<|W0 (W0 x p.2+few) b.2+1-few-max p.1 (b.2-a)).map λi=>(b.1++[max p.1 (b.2-a)+i],b.2-(max p.1 (b.2-a)+i))
def o_(w:a0h)(r:a0a)(c:Nat):Nat->List (a0a×Nat)
 |0=>[([],c)]
 |k+1=>(o_ w r c k).flatMap<|nxB (r.getD k 0) (w.getD k (0,0)) ((lr w).drop<|k+1).sum ((l6 w r).drop<|k+1).sum
theorem pJ{b:Type}{f:Nat->List b}{lo n N:Nat}(h:∀a<N,f a≠[]->lo<=a/\a<n)(D:n<=N):(Ue N).flatMap f=(Ue<|n-lo).flatMap λi=>f (lo+i):=by
 have e:∀{a},a<N->¬(lo<=a/\a<n)->f a=[]:=λ{a} w q=>WY λz=>q<|h a w z;obtain⟨d,rfl⟩:∃d,N=n+d:=⟨N-n,by grind⟩;rw[List.range_add,V0,YO,(Yt.mpr λa w=>e (by have:=UD.mp w;lia) rk:(Ue d).flatMap _=[]),UQ];obtain q|q:=Nat.le_total lo n
 .obtain⟨m,rfl⟩:∃m,n=lo+m:=⟨n-lo,rk⟩
  rw[List.range_add,V0,Yt.mpr λa w=>e (by have:=UD.mp w;lia) (by have:=UD.mp w;lia),VY,YO,ZW]
 .rw[show n-lo=0 by lia,Yt.mpr λa w=>e (by have:=UD.mp w;lia) rk];rfl
theorem xh:∀{w:a0h} {r:a0a} (k:Nat),l6 (w.drop k) (r.drop k)=(l6 w r).drop k
 |_,_,0=>rfl
 |[],r,k+1=>by simp[l6]
 |p::w,[],k+1=>by cases h:(w.drop k)<;>simp[l6]
 |p::w,x::r,k+1=>xh k
theorem fN{w:Type}{l:List w}{k:Nat}{d:w}(h:k<l.length):l.getD k d=l[k]:=by rw[T6,Ua h];rfl
theorem dz{w a:Type}{f g:w->List a}:∀{l:List w},(∀x∈l,f x=g x)->l.flatMap f=l.flatMap g
 |[],_=>rfl
 |x::l,h=>by rw[U9,U9,h x Ud,dz λy D=>h y<|T3 _ D]
theorem zq{D:a0h}{r:a0a}(j:D.length=r.length)(c:Nat):∀k,k<=r.length->((o_ D r c k).flatMap λb=>(vB (D.drop k) (r.drop k) b.2).map (b.1++·))=vB D r c
 |0,_=>by simp[o_]
 |k+1,h=>by
  rw[<-zq j c k rk];show((o_ D r c k).flatMap _).flatMap _=_;rw[nU];refine U6 (List.flatMap · (o_ D r c k))<|funext λb=>?_;have o:k<r.length:=by lia
  have p:k<D.length:=by lia
  rw[VH o,VH p,fN o,fN p,uu,VM,pJ (λa d E=>?_)<|Yr _ _]
  .unfold nxB
   rw[YO,show W0 _ _=W0 (W0 r[k] D[k].2+((lr D).drop<|k+1).sum) b.2+1-((lr D).drop<|k+1).sum from Nat.min_eq_right (by have:=Yr r[k] D[k].2;omega)];refine dz λi t=>?_;have:=UD.mp t;have g:=Um (Yr (W0 r[k] D[k].2+((lr D).drop<|k+1).sum) b.2)<|Nat.add_le_add_right (Ye _ _) _;rw[Uf ⟨Um (Nat.le_max_left _ _)<|Wn _ _,by generalize W0 _ b.2=x at*;generalize max D[k].1 _=y at*;omega⟩,Ub];exact UH λv _=>by simp
  .by_cases q:D[k].1<=a/\a<=D[k].2
   .rw[Uf q]at E
    obtain⟨w,e⟩:=List.exists_mem_of_ne_nil _ E;obtain⟨w,e,_⟩:=T7.mp e;obtain⟨v,u,_⟩:=T7.mp e;have:=MP (by simp[j]) u;rw[xh]at this;unfold lr at this⊢;rw[Xg]at this;have l:=Yu.mp<|YG d;have m:=Yu.mpr ⟨l.1,q.2⟩;refine⟨Nat.max_le.mpr ⟨q.1,?_⟩,Nat.lt_min.mpr ⟨d,Nat.lt_sub_of_add_lt<|Nat.lt_succ_of_le<|Yu.mpr ⟨Nat.add_le_add_right m _,?_⟩⟩⟩<;>clear d m<;>grind
   .rw[Uh q]at E;exact UG Z E
theorem Pb(c:Nat):vB [] [] c=if(c:Int)=0 then[[]]else[]:=by
 cases c with
 |zero=>rfl
 |succ n=>rw[Uh rk];rfl
theorem NU{w:a0h}{r:a0a}(a:w.length=r.length)(c:Nat):((o_ w r c r.length).filter λb=>decide ((b.2:Int)=0)).map (·.1)=vB w r c:=by
 rw[<-zq a c _ (Ug _),YN,<-a,YN,a];generalize o_ w r c _=l
 induction l with
 |nil=>rfl
 |cons b l D=>
  rw[U9,X6,<-D,Pb];by_cases q:(b.2:Int)=0
  .rw[Uf q,Uf<|Ux q];simp
  .rw[Uh q,Uh<|by simp;lia];rfl
theorem zo{w:a0h}{r:a0a}(c:Nat):∀k,k<=r.length->(o_ w r c k).length<=pr ((r.take k).map (·+1))
 |0,_=>Ug _
 |k+1,h=>by
  rw[iB (Ua rk)];refine Um (fK λb _=>?_) (X0 _<|zo c k rk);unfold nxB;rw[TX,UF,fN (show k<r.length by lia)];refine Um (Nat.sub_le _ _)<|Nat.sub_le_of_le_add ?_;rw[Nat.add_right_comm];exact ZX<|Um (Yr _ _)<|Nat.add_le_add_right (Yr _ _) _
theorem GG(w:a0h)(r:a0a)(c:Nat):∀k,∀b∈o_ w r c k,b.2<=c/\b.1.length=k
 |0,b,h=>by cases UM.mp h;exact⟨Ug _,Z⟩
 |k+1,b,h=>by
  obtain⟨d,D,a⟩:=Vk.mp (show b∈(o_ w r c k).flatMap _ from h);obtain⟨i,_,rfl⟩:=T7.mp a;obtain⟨G,E⟩:=GG w r c k d D;exact⟨rk,by rw[Uv,E];rfl⟩
theorem FV:∀{ps:a0h} {r:a0a},(l6 ps r).sum<=r.sum
 |[],r=>Vp _
 |_::_,[]=>Ug _
 |p::ps,x::r=>by
  have:=FV (ps:=ps) (r:=r);simp only[l6,UI];lia
abbrev Wy:=Nat->a0a->a0p
def M_(w:a0a)(W:Wy):Prop:=∀k r,(W k r).Sublist<|cg r<|w.getD k 0
def nwI(W:Wy)(L:a0p)(k:Nat):LI:=L.flatMap λr=>(W k r).map λv=>nI<|less r v
def nwL(W:Wy)(L:a0p)(k:Nat):a0p:=(oK<|nwI W L k).map λk=>k.map Int.toNat
section
variable{W:Wy}{cs rs:a0a}
theorem iC{L:a0p}{k:Nat}{y:a0e}:y∈nwI W L k↔∃r∈L,∃v∈W k r,y=nI (less r v):=by
 unfold nwI;constructor
 .intro h
  obtain⟨r,a,h⟩:=Vk.mp h;obtain⟨v,b,rfl⟩:=T7.mp h;exact⟨r,a,v,b,Z⟩
 .rintro⟨r,a,v,b,rfl⟩
  exact Vk.mpr ⟨r,a,T7.mpr ⟨v,b,Z⟩⟩
theorem wM(L:a0p)(k:Nat):(nwL W L k).map nI=oK (nwI W L k):=by
 unfold nwL;rw[Ub];refine(UH λy w=>?_).trans<|List.map_id _;obtain⟨r,_,v,_,rfl⟩:=iC.mp<|fX.mp w;show nI ((nI _).map _)=_;rw[wN];rfl
theorem gX{L:a0p}{k:Nat}{u:a0a}:u∈nwL W L k↔∃r∈L,∃v∈W k r,u=less r v:=by
 constructor
 .intro h
  have:nI u∈oK (nwI W L k):=by rw[<-wM];exact T7.mpr ⟨u,h,Z⟩
  obtain⟨r,a,v,b,e⟩:=iC.mp<|fX.mp this;exact⟨r,a,v,b,i6 e⟩
 .rintro⟨r,a,v,b,rfl⟩
  exact T7.mpr ⟨nI<|less r v,fX.mpr<|iC.mpr ⟨r,a,v,b,Z⟩,wN _⟩
def fh(W:Wy)(rs:a0a):Nat->a0p
 |0=>[rs]
 |k+1=>nwL W (fh W rs k) k
theorem mF:∀k,(fh W rs k).Nodup
 |0=>Xh _ _
 |k+1=>IG (by show(Vx nI<|nwL _ _ _).Nodup;rw[wM];exact MQ<|l8 _)
theorem f7(b:M_ cs W)(w:rs.sum=cs.sum):∀k,k<=cs.length->∀r∈fh W rs k,lb r rs/\r.sum=(cs.drop k).sum
 |0,_,r,h=>by cases UM.mp h;exact⟨lb.refl _,w⟩
 |k+1,hk,u,h=>by
  obtain⟨r,c,v,a,rfl⟩:=gX.mp (show u∈nwL W _ k from h);have a:=(b k r).subset a;obtain⟨D,E⟩:=f7 b w k rk r c;have G:=(ir a).2.1;rw[E,gY rk,UI]at G;exact⟨(b8 a).less.tr D,rk⟩
theorem Oz(a:M_ cs W)(w:rs.sum=cs.sum){k:Nat}(b:k<=cs.length):(fh W rs k).length<=pr (rs.dropLast.map (·+1)):=
 Um (nd_len (mF k) (m:=cg rs (cs.drop k).sum) λr c=>by
  obtain⟨d,e⟩:=f7 a w k b r c;rw[<-e];exact ki d) (mW _ _)
theorem zW(a:M_ cs W)(w:rs.sum=cs.sum)(d:1<=rs.length)(e:pr (rs.dropLast.map (·+1))<63){k:Nat}(f:k<cs.length):g9 ((nwI W (fh W rs k) k).map lk)=U (.lst<|(fh W rs<|k+1).map λr=>lk<|nI r):=by
 refine(Pw (m:=(cg rs (cs.drop<|k+1).sum).map nI) ?_ (by rw[TX];exact VC (mW _ _) e) ?_).trans ?_
 .intro x hx
  obtain⟨r,b,v,c,rfl⟩:=iC.mp hx;rw[TX,((b8<|(a k r).subset c).less.tr (f7 a w k rk r b).1).len];exact d
 .intro x hx
  obtain⟨r,b,v,c,rfl⟩:=iC.mp hx;obtain⟨D,E⟩:=f7 a w _ f _<|gX.mpr ⟨r,b,v,c,Z⟩;exact T7.mpr ⟨less r v,by rw[<-E];exact ki D,Z⟩
 .rw[<-wM,Ub];rfl
def kyW(W:Wy)(rs:a0a)(n:Nat):List (Int×a0e):=(Ue n).flatMap λk=>(fh W rs k).map λr=>((k:Int),nI r)
theorem JI:∀n,(kyW W rs n).Nodup
 |0=>List.nodup_nil
 |n+1=>by
  unfold kyW;rw[WJ,V0,U9,YQ,UQ];refine ZD.mpr ⟨JI n,IH (λr s e=>i6 (WS.mp e).2)<|mF n,λx w y D e=>?_⟩;obtain⟨k,a,h⟩:=Vk.mp w;obtain⟨r,_,rfl⟩:=T7.mp h;obtain⟨s,_,e⟩:=T7.mp D;have:=(WS.mp e).1;have b:=UD.mp a;lia
def mm(W:Wy):Nat->Nat->a0a->Nat
 |0,_,_=>1
 |j+1,k,r=>sm (W k r) λv=>mm W j (k+1)<|less r v
def xr(W:Wy):Nat->Nat->a0a->Nat
 |0,_,_=>1
 |j+1,k,r=>sm (W k r) λv=>mu v*xr W j (k+1) (less r v)
theorem sC{E:Type}{f g:E->Nat}{l m:List E}(h:l.Sublist m)(q:∀a∈m,f a<=g a):sm l f<=sm m g:=by
 induction h with
 |slnil=>exact Ug _
 |cons a _ w=>rw[cG];exact Um (w λx D=>q x<|T3 _ D)<|Nat.le_add_left _ _
 |cons_cons a _ w=>rw[cG,cG];exact Nat.add_le_add (q a Ud)<|w λx D=>q x<|T3 _ D
theorem yL(a:M_ cs W):∀(j k:Nat) (r:a0a),k+j=cs.length->xr W j k r<=dls r (cs.drop k)
 |0,k,r,h=>by rw[show k=cs.length by omega,YN];exact Ug _
 |j+1,k,r,h=>by
  rw[gY rk];exact sC (a k r) λv _=>Nat.mul_le_mul_left _ (yL a j _ _<|by grind)
noncomputable def R_:a0h->a0a->a0p
 |p::ps,x::r=>(Ue<|W0 p.2 x+1-p.1).flatMap λi=>(R_ ps r).map ((p.1+i)::·)
 |_,_=>[[]]
theorem Ks:∀{w:a0h} {r:a0a} {c:Nat},w.length=r.length->(R_ w r).filter (λv=>decide (v.sum=c))=vB w r c
 |[],[],c,_=>by cases c<;>rfl
 |p::w,x::r,c,h=>by
  have E:w.length=r.length:=by simpa using h
  rw[uu,pJ (λa b D=>?_)<|Yr _ _]
  .show((Ue<|W0 _ x+1-p.1).flatMap λi=>(R_ w r).map _).filter _=_
   rw[List.filter_flatMap];have e:∀i,List.filter (λv=>decide (v.sum=c)) _=if p.1+i<=c then(vB w r<|c-(p.1+i)).map ((p.1+i)::·)else[]:=λi=>by
    rw[List.filter_map];by_cases q:p.1+i<=c
    .rw[Uf q,<-Ks E]
     refine U6 _<|List.filter_congr λv _=>?_;show decide _=_;rw[UI];exact decide_eq_decide.mpr (by grind)
    .rw[Uh q,List.filter_eq_nil_iff.mpr,Wc]
     intro v _ z;have z:decide _=O:=z;rw[UI,UZ]at z;lia
   rw[dz λi _=>e i,pJ (λa D q=>⟨Vp _,?_⟩)<|Nat.sub_le_sub_right (Ye _ _) _,Nat.sub_zero]
   .refine dz λi d=>?_
    have g:=Nat.lt_min.mp<|Nat.add_lt_of_lt_sub'<|UD.mp d;rw[V4,Uf (Yu.mp<|YG g.1).2,Uf ⟨Wn _ _,(Yu.mp<|YG g.2).1⟩]
   .by_cases z:p.1+a<=c
    .have g:=Nat.add_lt_of_lt_sub' D
     exact Nat.lt_sub_iff_add_lt'.mpr<|Nat.lt_min.mpr ⟨Nat.lt_succ_of_le<|Yu.mpr ⟨(Yu.mp<|YG g).2,z⟩,g⟩
    .rw[Uh z]at q;exact UG Z q
  .by_cases q:p.1<=a/\a<=p.2
   .exact⟨q.1,Nat.lt_min.mpr ⟨b,Nat.lt_succ_of_le<|Yu.mpr ⟨q.2,(Yu.mp<|YG b).1⟩⟩⟩
   .rw[Uh q]at D;exact UG Z D
noncomputable def nS(w:a0h)(r:a0a):Nat->a0p
 |0=>[[]]
 |k+1=>(nS w r k).flatMap λu=>(Ue<|W0 (w.getD k (0,0)).2 (r.getD k 0)+1-(w.getD k (0,0)).1).map λi=>u++[(w.getD k (0,0)).1+i]
theorem AK{w:a0h}{r:a0a}(c:w.length=r.length):∀k,k<=r.length->((nS w r k).flatMap λu=>(R_ (w.drop k)<|r.drop k).map (u++·))=R_ w r
 |0,_=>by simp[nS]
 |k+1,h=>by
  rw[<-AK c k rk];show((nS w r k).flatMap _).flatMap _=_;rw[nU];refine dz λu _=>?_;have a:k<r.length:=by lia
  have b:k<w.length:=by lia
  rw[VH a,VH b,fN a,fN b];show _=((Ue<|W0 _ _+1-w[k].1).flatMap λi=>(R_ _<|r.drop<|k+1).map _).map _;rw[VM,YO];refine dz λi _=>?_;rw[Ub];exact UH λv _=>nl
theorem AJ{w:a0h}{r:a0a}(a:w.length=r.length):nS w r r.length=R_ w r:=by
 rw[<-AK a _ (Ug _),YN,<-a,YN];show _=(nS w r _).flatMap λu=>[u++[]];generalize nS w r _=l
 induction l with
 |nil=>rfl
 |cons x l D=>rw[U9,<-D,UQ];rfl
theorem AI{w:a0h}{r:a0a}:∀k,k<=r.length->(nS w r k).length<=pr ((r.take k).map (·+1))
 |0,_=>Ug _
 |k+1,h=>by
  rw[iB (Ua rk)];refine Um (fK λb _=>?_) (X0 _<|AI k rk);rw[TX,UF,fN (show k<r.length by lia)];exact Um (Nat.sub_le _ _)<|ZX<|Ye _ _
theorem JV{w:a0h}{r:a0a}:∀k,∀u∈nS w r k,u.length=k
 |0,b,h=>by cases UM.mp h;rfl
 |k+1,b,h=>by
  obtain⟨d,D,a⟩:=Vk.mp (show b∈(nS w r k).flatMap _ from h);obtain⟨i,_,rfl⟩:=T7.mp a;rw[Uv,JV k d D];rfl
def lst(W:Wy)(rs:a0a):Nat->List (a0p×a0a)
 |0=>[([],rs)]
 |k+1=>(lst W rs k).flatMap λq=>(W k q.2).map λv=>(q.1++[v],less q.2 v)
theorem GJ{w:Type}:∀l:List w,(sm l λ_=>1)=l.length
 |[]=>rfl
 |x::l=>by rw[cG,GJ l,Ur,Nat.add_comm]
theorem IJ(r:a0a):0<mu r:=Nat.pos_of_ne_zero λz=>by
 have:=kh r;have:=mJ r.sum;lia
theorem yb(b:M_ cs W)(w:rs.sum=cs.sum):∀k,k<=cs.length->∀q∈lst W rs k,lb q.2 rs/\q.2.sum=(cs.drop k).sum/\q.1.length=k
 |0,_,q,h=>by cases UM.mp h;exact⟨lb.refl _,w,Z⟩
 |k+1,hk,u,h=>by
  obtain⟨q,c,d⟩:=Vk.mp (show u∈(lst W rs k).flatMap _ from h);obtain⟨v,a,rfl⟩:=T7.mp d;have a:=(b k _).subset a;obtain⟨D,E,G⟩:=yb b w k rk q c;have K:=(ir a).2.1;rw[E,gY rk,UI]at K;exact⟨(b8 a).less.tr D,rk,by rw[Uv,G];rfl⟩
theorem IM(a:M_ cs W):∀k,k<=cs.length->(sm (lst W rs k) λq=>dls q.2<|cs.drop k)<=dls rs cs
 |0,_=>Ug _
 |k+1,h=>by
  refine Um ?_ (IM a k rk);show sm ((lst W rs k).flatMap _) _<=_;rw[uA];refine sC (Z7 _) λq _=>?_;rw[xp,gY (k:=k) rk];exact sC (a k _) λv _=>Nat.le_mul_of_pos_left _<|IJ v
theorem z5(a:M_ cs W)(w:rs.sum=cs.sum){k:Nat}(b:k<=cs.length):(lst W rs k).length<=mu rs:=by
 rw[<-pL cs rs w,<-GJ];refine Um (sC (Z7 _) λq c=>?_)<|IM a k b;rw[pL _ _ (yb a w k b q c).2.1];exact IJ _
end
end L2.Nt
namespace L2.Pu
theorem KD{n:Nat}{f g:a0P}(h:∀i<n,f i<=g i):S n f<=S n g:=by
 induction n with
 |zero=>exact Int.le_refl _
 |succ n w=>
  rw[im,im];have a:=w λi b=>h i rk;have c:=h n rk;lia
theorem NC(n:Nat)(f g:a0P):S n (λi=>f i-g i)=S n f-S n g:=by
 induction n with
 |zero=>rfl
 |succ n w=>rw[im,im,im,w];lia
noncomputable def fl(x y:Bool)(l h:Int):Int:=(if x=O/\y=T4 then h else 0)-(if x=T4/\y=O then l else 0)
def slk(w D:a0P)(E a:Nat->Nat->Int)(r c:Nat)(X b:Nat->Bool):Int:=
 S c (λj=>if b j=O then D j else 0)-S r (λi=>if X i=O then w i else 0)+S r λi=>S c λj=>fl (X i) (b j) (E i j)<|a i j
section
variable{m o:a0P}{p l:Nat->Nat->Int}{r c:Nat}
theorem NW{g:Nat->Nat->Int}(h:∀i<r,∀j<c,p i j<=g i j/\g i j<=l i j)(d:∀i<r,m i=S c (g i))(e:∀j<c,o j=S r λi=>g i j)(X n:Nat->Bool):0<=slk m o p l r c X n:=by
 have f:S c (λj=>if n j=O then o j else 0)=S r λi=>S c λj=>if n j=O then g i j else 0:=by
  rw[KC];refine eW λj a=>?_;cases q:n j with
  |true=>simp only;exact e j a
  |false=>simp only[Uz];exact(pX r).symm
 have k:S r (λi=>if X i=O then m i else 0)=S r λi=>S c λj=>if X i=O then g i j else 0:=by
  refine eW λi l=>?_;cases q:X i with
  |true=>simp only;exact d i l
  |false=>simp only[Uz];exact(pX c).symm
 unfold slk;rw[f,k,<-NC,<-wY];refine Int.le_trans (Int.le_of_eq (pX r).symm)<|KD λi b=>?_;rw[<-NC,<-wY];refine Int.le_trans (Int.le_of_eq (pX c).symm)<|KD λj a=>?_;have:=h i b j a;unfold fl;cases X i<;>cases n j<;>simp<;>lia
noncomputable def y_:Nat->a0p
 |0=>[[]]
 |n+1=>y_ n++(y_ n).map (·++[n])
theorem jK:∀(n:Nat) (l:a0a),l∈y_ n->l.Sublist (Ue n)
 |0,l,h=>by rw[UM.mp h];exact .slnil
 |n+1,l,h=>by
  rw[WJ];obtain h|h:=Vr.mp h
  .exact(jK n l h).trans (List.sublist_append_left _ _)
  .obtain⟨a,h',rfl⟩:=T7.mp h
   exact(jK n a h').append<|Z7 _
theorem BE:∀n:Nat,(y_ n).length=2^n
 |0=>rfl
 |n+1=>by
  rw[y_,Uv,TX,BE n,Nat.pow_succ];lia
end
section
variable{o m:a0e}{b:LP}{r c:Nat}
abbrev slB(o m:a0e)(b:LP)(r c:Nat)(X a:Nat->Bool):Int:=slk (λi=>o.getD i 0) (λj=>m.getD j 0) (λi j=>(bI b i j).1) (λi j=>(bI b i j).2) r c X a
theorem PF{a d:a0a}(e:a.Sublist<|Ue r)(f:d.Sublist<|Ue c):wF m b r c a d-tE o a=slB o m b r c (λi=>decide (i∈a)) (λj=>decide (j∈d)):=by
 rw[N4 e f];unfold tE slB slk;rw[qi f,qi e];have h:∀(n:Nat) (l:a0a) (g:a0P),S n (λj=>if decide (j∈l)=O then g j else 0)=S n (λj=>if j∈l then g j else 0):=λn l g=>eW λj _=>by simp
 rw[h,h];have k:(S r λi=>S c λj=>hF b a d i j)=S r λi=>S c λj=>fl (decide (i∈a)) (decide (j∈d)) (bI b i j).1 (bI b i j).2:=by
  refine eW λi _=>eW λj _=>?_;unfold hF fl;simp
 simp only;grind
def xY(m:a0e)(b:LP)(r c:Nat)(a:a0a):a0a:=(Ue c).filter λj=>decide (gn m b r a j<gZ b a j)
end
end L2.Pu
namespace L2.Nt
open L2.Pu
def stW(W:Wy)(j k:Nat)(r:a0a):a0p:=(W k r).filter λv=>decide ((0:Int)<((mm W j (k+1) (less r v):Nat):Int))
def Wk(W:Wy):Nat->a0a->a0p->Prop
 |_,_,[]=>True
 |k,r,v::vs=>v∈W k r/\Wk W (k+1) (less r v) vs
section
variable{W:Wy}{cs:a0a}
theorem Ng{w:Type}{f:w->Nat}{a:w}:∀{l:List w},a∈l->f a<=sm l f
 |b::l,h=>by
  rw[cG];obtain rfl|h:=Uq.mp h
  .lia
  .have:=Ng (f:=f) h;lia
theorem FH:∀{j k:Nat} {r:a0a} {vs:a0p},Wk W k r vs->vs.length=j->0<mm W j k r
 |_,_,_,[],_,rfl=>Nat.one_pos
 |_,k,r,v::vs,h,rfl=>UN (FH h.2 Z)<|Ng (f:=λv=>mm W _ _<|less r v) h.1
def kE(u v:a0a):a0a:=X8 (·+·) u v
def B4(n:Nat):a0p->a0a
 |[]=>UL n 0
 |v::vs=>kE v<|B4 n vs
theorem yf:∀{v r:a0a},v.length=r.length->less (kE v r) v=r/\lb v (kE v r)
 |[],[],_=>⟨Z,trivial⟩
 |x::v,y::r,h=>by
  obtain⟨a,b⟩:=yf (by simpa using h);refine⟨?_,Wn _ _,b⟩;show(x+y-x)::less (kE v r) v=_;rw[a,ZW]
theorem yZ:∀{v r:a0a},lb v r->kE v (less r v)=r
 |[],[],_=>rfl
 |x::v,y::r,h=>by
  show(x+(y-x))::kE v (less r v)=_;rw[yZ h.2,Nat.add_sub_cancel' h.1]
 |[],_::_,h=>h.elim
 |_::_,[],h=>h.elim
theorem qm{n:Nat}:∀{w:a0p},(∀v∈w,v.length=n)->(B4 n w).length=n
 |[],_=>V9
 |v::w,h=>by
  show(X8 _ _ _).length=n;rw[List.length_zipWith,h v Ud,qm λu a=>h u<|T3 _ a,Nat.min_self]
theorem Ps:∀{r:a0a},r.sum=0->r=UL r.length 0
 |[],_=>rfl
 |x::r,h=>by
  rw[UI]at h;obtain rfl:x=0:=by lia
  rw[Ur,VF,<-Ps rk]
theorem ur(a:M_ cs W):∀{w:a0p} {k:Nat} {r:a0a},Wk W k r w->k+w.length=cs.length->r.sum=(cs.drop k).sum->w.map VT=cs.drop k/\r=B4 r.length w/\∀v∈w,v.length=r.length
 |[],k,r,_,e,s=>by
  rw[WQ (by exact e▸Ug _)]at s⊢;exact⟨Z,Ps s,λ_ h=>by cases h⟩
 |v::w,k,r,h,e,s=>by
  rw[Ur]at e;have b:=(a k r).subset h.1;obtain⟨E,K,G,_⟩:=ir b;have D:=b8 b;rw[gY rk,UI]at s;obtain⟨g,c,d⟩:=ur a h.2 (by grind) rk;rw[D.less.len]at c d;refine⟨by rw[gY rk,Ul,g,E],?_,λu hu=>?_⟩
  .show r=kE v _
   rw[<-c,yZ D]
  .obtain rfl|hu:=Uq.mp hu
   .exact G
   .exact d u hu
theorem MJ{n:Nat}:∀{vs:a0p} {k:Nat},(∀v∈vs,v.length=n)->(∀i r v,vs[i]?=U v->lb v r->v∈W (k+i) r)->Wk W k (B4 n vs) vs
 |[],_,_,_=>trivial
 |v::vs,k,h,hw=>by
  have b:=λu a=>h u<|T3 _ a;obtain⟨c,d⟩:=yf (r:=B4 n vs) (by rw[h v Ud,qm b]);refine⟨hw 0 _ v Z d,?_⟩;show Wk W _ (less (kE v<|B4 n vs) v) vs;rw[c];exact MJ b λi r u a w=>by
   have:=hw (i+1) r u a w;rwa[show k+(i+1)=k+1+i by lia]at this
theorem l7:∀{l:a0a} {i x y:Nat},l[i]?=U x->(l.set i y).sum+x=l.sum+y
 |a::l,0,x,y,h=>by
  cases h;show(y::l).sum+a=(a::l).sum+y;rw[UI,UI];lia
 |a::l,i+1,x,y,h=>by
  have:=l7 (i:=i) (y:=y) h;show(a::l.set i y).sum+x=(a::l).sum+y;rw[UI,UI];grind
theorem RM{u v:a0a}{i x y:Nat}(a:u[i]?=U x)(b:v[i]?=U y):(kE u v)[i]?=U (x+y):=by
 unfold kE;rw[List.getElem?_zipWith,a,b]
theorem GX{n i:Nat}:∀{D:a0p},(∀v∈D,v.length=n)->i<n->(B4 n D).getD i 0=(D.map λv=>v.getD i 0).sum
 |[],_,hi=>by
  show(UL n 0).getD i 0=0;rw[T6,WG,Uf hi];rfl
 |v::D,h,hi=>by
  have a:=λw b=>h w<|T3 _ b;have c:=h v Ud;have d:=qm a;rw[Ul,UI,<-GX a hi];show(kE v<|B4 n D).getD i 0=_;rw[T6,RM (Ua rk) (Ua rk),fN rk,fN rk];rfl
def qk(W:Wy):Nat->Nat->a0a->List a0p
 |0,_,_=>[[]]
 |j+1,k,r=>(W k r).flatMap λv=>(qk W j (k+1)<|less r v).map (v::·)
variable{rs:a0a}
theorem z0(m:Nat):∀k,k<=m->((lst W rs k).flatMap λq=>(qk W (m-k) k q.2).map (q.1++·))=qk W m 0 rs
 |0,_=>by
  show(qk W _ 0 rs).map _++[]=_;rw[UQ,Nat.sub_zero];exact(UH λx _=>VY x).trans<|List.map_id _
 |k+1,h=>by
  rw[<-z0 m k rk];show((lst W rs k).flatMap _).flatMap _=_;rw[nU];refine dz λq _=>?_;rw[show m-k=m-(k+1)+1 by grind,YO];show _=((W k _).flatMap λv=>(qk W _ _<|less _ v).map _).map _;rw[VM];refine dz λv _=>?_;rw[Ub];exact UH λu _=>nl
theorem SR(m:Nat):(lst W rs m).map (·.1)=qk W m 0 rs:=by
 rw[<-z0 m m (Ug _),Xe];generalize lst W rs m=l
 induction l with
 |nil=>rfl
 |cons q l w=>rw[Ul,U9,w];simp[qk]
theorem zK:∀(j k:Nat) (r:a0a),(qk W j k r).length=mm W j k r
 |0,_,_=>rfl
 |j+1,k,r=>by
  show((W k r).flatMap _).length=_;rw[List.length_flatMap];congr 1;exact UH λv _=>by rw[TX,zK]
theorem xP:∀{j k:Nat} {r:a0a} {w:a0p},w∈qk W j k r->Wk W k r w/\w.length=j
 |0,_,_,w,h=>by cases UM.mp h;exact⟨trivial,Z⟩
 |j+1,k,r,w,h=>by
  obtain⟨v,a,b⟩:=Vk.mp (show w∈(W k r).flatMap _ from h);obtain⟨D,c,rfl⟩:=T7.mp b;obtain⟨d,e⟩:=xP c;exact⟨⟨a,d⟩,by rw[Ur,e]⟩
theorem HJ{W V:Wy}{k:Nat}(h:∀i r,V i r=W (k+i) r):∀(j i:Nat) (r:a0a),qk V j i r=qk W j (k+i) r
 |0,_,_=>rfl
 |j+1,i,r=>by
  show(V i r).flatMap _=(W _ r).flatMap _;rw[h];exact dz λv _=>by rw[HJ h j<|i+1];rfl
theorem HK{W:Wy}{cs:a0a}(a:M_ cs W):∀{j k:Nat} {r:a0a} {D:a0p},D∈qk W j k r->∀v∈D,lb v r
 |0,_,_,D,h,v,hv=>by cases UM.mp h;cases hv
 |j+1,k,r,D,h,v,hv=>by
  obtain⟨w,c,d⟩:=Vk.mp (show D∈(W k r).flatMap _ from h);obtain⟨E,e,rfl⟩:=T7.mp d;have b:=b8<|(a k r).subset c;obtain rfl|hv:=Uq.mp hv
  .exact b
  .exact(HK a e v hv).tr b.less
end
end L2.Nt
namespace L2.Pu
theorem GI{w a:a0c}{d:D}(h:g9 w=U d)(q:∀d,d∈w↔d∈a):g9 a=U d:=by
 obtain⟨G,s,rfl⟩:=kJ h;exact xo ⟨s.1,s.2.1,λk b=>⟨(s.2.2.1 k b).1,(q _).mp (s.2.2.1 k b).2⟩,λd E=>s.2.2.2 d<|(q d).mpr E⟩
end L2.Pu
namespace Law
open L2 L2.Pu L2.Nt
section
variable{K:UA}{a:Ad}{β:Bg}
abbrev tN(l:a0a):D:=lk<|nI l
abbrev eN(b:a0a×Nat):D:= .tup [tN b.1,.int (b.2:Int)]
abbrev pN(p:Nat×Nat):D:=pD ((p.1:Int),(p.2:Int))
def Ic(r:a0a):Prop:=1<=r.length/\r.length<=4/\r.sum<=40/\pr (r.map (·+1))<=500
theorem oC{f g:FD}{δ:Dn}{x y:D}{ds a:a0c}(b:f δ β=U (.ok x,β))(c:g δ β=U (.ok y,β))(d:dZ x=U ds)(e:dZ y=U a):nz (ae f<|ae g ax) δ β=U (.ok<|d8 ds a,β):=bF (aa b<|aa c Z) (by
 unfold KI;simp only[d,e,Wf,VP])
theorem w5{a:Type}{f g:a->D}:∀l:List a,d8 (l.map f) (l.map g)=l.map λx=> .tup [f x,g x]
 |[]=>rfl
 |x::l=>U6 _<|w5 l
theorem P0{a:Nat}{h:Int}(b:-1000<=h)(c:h<=1000)(d:a<=1000):rE [.int (a:Int),.int h]=U ((Ue (h-a).toNat).map λi=>D.int ((a+i:Nat):Int)):=by
 have e:rE [.int (a:Int),.int h]=U (bw a (h-a).toNat):=by
  rw[rE];rw[Uf<|by grind]
 rw[e];exact U6 U (UH λi _=>by congr 1)
theorem addT{l:a0a}{c:Nat}(h:l.length<=100):dR (tN l) (.tup [.int (c:Int)])=U (tN<|l++[c]):=by
 cases l with
 |nil=>rfl
 |cons x l=>
  show(if _ then _ else _)=_;rw[Uf<|bf<|by simp at h⊢;lia];simp
theorem GE(l:a0a)(k:Nat):gH [.lst<|((nI l).map D.int).drop k]=U (.int (((l.drop k).sum:Nat):Int)):=by
 rw[<-Xg,<-Xg];exact(gf _).trans (by rw[<-iZ])
theorem FY:∀{r:a0a} {ps:a0h},(r.zip ps).map (λq=>D.int<|W0 (q.1:Int) (q.2.2:Int))=(nI<|l6 ps r).map D.int
 |[],_=>by cases ‹a0h›<;>rfl
 |_::_,[]=>rfl
 |x::r,p::ps=>by
  show _::_=D.int _::(nI<|l6 ps r).map _;rw[<-(FY (r:=r) (ps:=ps))];show D.int _::_=_;rw[show W0 _ _=((W0 x p.2:Nat):Int) by grind];rfl
theorem FW:∀{a:a0h} {r:a0a} {k:Nat} (b:k<a.length) (c:k<r.length),(l6 a r)[k]?=U (W0 r[k] a[k].2)
 |p::a,x::r,0,_,_=>rfl
 |p::a,x::r,k+1,b,c=>FW (k:=k) (by simpa using b) (by simpa using c)
abbrev yF(a:a0h)(r:a0a)(c:Nat)(w:D)(b d e:a0D):Ds:=[U<|.sh<|tN r,U<|.sh<|.int (c:Int),U<|.sh<|.lst<|a.map pN,U<|.sh<|.lst<|(nI<|lr a).map .int,U<|.sh<|.lst<|(nI<|l6 a r).map .int,U<|.sh w,b,d,e]
theorem Rv{w:a0h}{r:a0a}{c:Nat}(H:Ic r)(v:w.length=r.length)(A:∀p∈w,p.1<=40/\p.2<=40)(R:c<=40):(m7 K a).1 [tN r,.int (c:Int),.lst<|w.map pN] β=U (.ok<|.lst<|(vB w r c).map tN,β):=by
 obtain⟨_,T,G,f5⟩:=H;have I:r.length<=UC:=bf rk;have o:∀k,k<=r.length->(o_ w r c k).length<=UC:=λk m=>bf (Um (zo c k m)<|Um (wK r k) rk);unfold m7
 dsimp only
 refine aC ?_;refine aD (d:= .lst<|(nI<|lr w).map .int) (β1:=β) ?_ ?_
 .have:=bv (nv:=2) (b4:=[]) (it:=c5<|ac 2) (tg:=O_<|fc (g_ 0)<|fc (g_ 1) jL) (f:=ac 0) (δ:=vw<|yF w r c .non Y Y Y) (β:=β) w pN (λp=> .int (p.1:Int)) Z (λx _=>⟨[U<|.int (x.1:Int),U<|.int (x.2:Int)],Z,Z⟩) (by rw[v];exact I)
  refine Eq.trans this ?_;unfold lr;rw[Ub,Ub];rfl
 refine aD (d:= .lst<|(nI<|l6 w r).map .int) (β1:=β) ?_ ?_
 .rw[<-FY]
  exact bv (nv:=3) (b4:=[]) (it:=nz<|ae (ac 0)<|ae (ac 2)<|ax) (tg:=O_<|fc (g_ 0)<|fc (O_<|fc (g_ 1)<|fc (g_ 2) jL) jL) (f:=aR x8<|ae (ac 0)<|ae (ac 2)<|ax) (δ:=vw<|yF w r c .non Y Y Y) (β:=β) (r.zip w) (λq=>D.tup [.int (q.1:Int),pN q.2]) _ (by
   rw[<-iq (λx:Nat=>D.int (x:Int)) pN];refine oC (x:=tN r) (y:= .lst<|w.map pN) Z Z ?_ Z;show U _=U _;rw[Ub];rfl) (λq _=>⟨[U<|.int (q.1:Int),U<|.int (q.2.1:Int),U<|.int (q.2.2:Int)],Z,ah Z DE⟩) (bf<|by rw[XB];lia)
 refine aD (d:= .lst<|(o_ w r c 0).map eN) (β1:=β) (ah (aa (ah (aa (ah Z Z)<|aa Z Z) bZ) Z) nB) ?_;refine bn (ds:=bw 0 r.length) (β1:=β) (bF (aa (ah (z:= .int (r.length:Int)) Z (by show U (D.int _)=_;rw[TX,TX])) Z)<|F3 rk rk) (λk δ C=>β=C/\∃B t u,δ=yF w r c (.lst<|(o_ w r c k).map eN) B t u) ⟨Z,Y,Y,Y,Z⟩ ?_ ?_
 .rintro k d δ _ hd ⟨rfl,B,t,u,rfl⟩
  obtain⟨m,rfl⟩:=wH hd;have j:k<w.length:=by lia
  have J:w[k]?=U w[k]:=Ua j;have b40:=A _<|Vj j;have W:(lr w).sum<=160:=by
   have g:∀l:a0h,(∀p∈l,p.1<=40/\p.2<=40)->(lr l).sum<=40*l.length:=λl=>by
    induction l with
    |nil=>intro _;exact Ug _
    |cons p l E=>
     intro h;have:=E λq v=>h q<|T3 _ v;have:=(h p Ud).1;simp only[lr,Ul,UI,Ur]at*;lia
   have:=g w A;lia
  have F:∀(l:a0a) (n:Nat),(l.drop n).sum<=l.sum:=λl n=>by
   conv=>rhs;rw[<-Wa n l,XD]
   lia
  have L:=F (lr w)<|k+1;have N:=Um (F (l6 w r)<|k+1) FV;refine⟨yF w r c (.lst<|(o_ w r c k).map eN) (U<|.sh<|.int (k:Int)) t u,Z,?_⟩;refine aD (d:= .int ((((lr w).drop<|k+1).sum:Nat):Int)) (β1:=β) (ah (aa (kG Z<|cp Z Z Z) Z)<|(U6 (λl=>gH [.lst l])<|nX (k:=k+1)).trans<|GE _ _) ?_;refine aD (d:= .int ((((l6 w r).drop<|k+1).sum:Nat):Int)) (β1:=β) (ah (aa (kG Z<|cp Z Z Z) Z)<|(U6 (λl=>gH [.lst l])<|nX (k:=k+1)).trans<|GE _ _) ?_;refine aj<|aD (d:= .lst<|(o_ w r c<|k+1).map eN) (β1:=β) ?_<|cx ⟨Z,_,_,_,Z⟩;have e:(o_ w r c<|k+1).map eN=(o_ w r c k).flatMap λb=>(nxB r[k] w[k] ((lr w).drop<|k+1).sum ((l6 w r).drop<|k+1).sum b).map eN:=by
   show((o_ w r c k).flatMap _).map eN=_;rw[VM,fN m,fN j]
  rw[e];refine BA (o_ w r c k) eN _ Z (λb A=>⟨[U<|tN b.1,U<|.int (b.2:Int),Y,U<|.lst<|(nI<|lr w).map .int,U<|.int (k:Int),U<|.int ((((l6 w r).drop<|k+1).sum:Nat):Int),U<|.lst<|(nI<|l6 w r).map .int,U<|.int ((((lr w).drop<|k+1).sum:Nat):Int)],Z,?_⟩) (by
   rw[<-e,TX];exact o (k+1) m)
  obtain⟨X,M⟩:=GG w r c k b A;have P:=db<|Vj m;unfold nxB;generalize ((lr w).drop<|k+1).sum=few at*;generalize ((l6 w r).drop<|k+1).sum=most at*;refine(IB (Ue<|W0 (W0 r[k] w[k].2+few) b.2+1-few-max w[k].1 (b.2-most)) (λi=>D.int ((max w[k].1 (b.2-most)+i:Nat):Int)) (λi=>eN (b.1++[max w[k].1 (b.2-most)+i],b.2-(max w[k].1 (b.2-most)+i))) ?_ ?_).trans (by rw[Ub];rfl)
  .refine bF (as:=[.int ((max w[k].1 (b.2-most):Nat):Int),.int<|W0 ((W0 r[k] w[k].2:Nat):Int) ((b.2:Int)-few)+1]) (aa (ah (aa (cp Z Z<|cw (d:= .int (w[k].1:Int)) ?_)<|aa (cp Z Z Z) Z)<|QJ.trans ?_)<|aa (cp (ah (aa (cp Z Z<|cw (d:= .int ((W0 r[k] w[k].2:Nat):Int)) ?_)<|aa (cp Z Z Z) Z) DE) Z Z) Z) ((P0 rk rk rk).trans ?_)
   .unfold lr
    rw[T9,T9,T9,J];rfl
   .rw[show max (w[k].1:Int) ((b.2:Int)-(most:Int))=((max w[k].1 (b.2-most):Nat):Int) by lia]
   .rw[T9,T9,FW j m];rfl
   .rw[show(W0 ((W0 r[k] w[k].2:Nat):Int) ((b.2:Int)-few)+1-((max w[k].1 (b.2-most):Nat):Int)).toNat=W0 (W0 r[k] w[k].2+few) b.2+1-few-max w[k].1 (b.2-most) by generalize W0 r[k] w[k].2=x;generalize max w[k].1 (b.2-most)=y;lia]
  .refine λi cb=>⟨[U<|tN b.1,U<|.int (b.2:Int),U<|.int ((max w[k].1 (b.2-most)+i:Nat):Int),U<|.lst<|(nI<|lr w).map .int,U<|.int (k:Int),U<|.int (most:Int),U<|.lst<|(nI<|l6 w r).map .int,U<|.int (few:Int)],Z,ah (aa (cp Z (ah Z Z)<|addT (l:=b.1) (c:=max w[k].1 (b.2-most)+i) rk)<|aa (cp Z Z Z) Z)<|bZ.trans ?_⟩
   have Q:=UD.mp cb;show U (D.tup [_,.int _])=U (D.tup [_,.int _]);rw[show(b.2:Int)-((max w[k].1 (b.2-most)+i:Nat):Int)=((b.2-(max w[k].1 (b.2-most)+i):Nat):Int) by lia]
 .rintro δ _ ⟨rfl,B,t,u,rfl⟩
  rw[xK];have h:=gb (nv:=2) (b4:=[]) (it:=c5<|ac 5) (tg:=O_<|fc (g_ 0)<|fc (g_ 1) jL) (tt:=fB<|f2 (dJ) (ac 1)<|fC<|.int 0) (f:=ac 0) (δ:=hL<|yF w r c (.lst<|(o_ w r c r.length).map eN) B t u) (β:=β) (o_ w r c r.length) eN (λb=>tN b.1) (λb=>decide ((b.2:Int)=0)) Z (λb _=>⟨[U<|tN b.1,U<|.int (b.2:Int)],Z,dv<|cp Z Z eq_int,λ_=>Z⟩)<|o _<|Ug _;refine aj<|aB h ⟨Z,?_⟩;rw[<-NU v,Ub];rfl
theorem yV{E:Type}{G:ni}{b:FL}{K:Dn}{β:Bg}(u:E->D)(o:E->a0c):∀(w:List E),(∀x∈w,∃a,G (u x) K=U a/\b a β=U (.ok<|o x,β))->ot G (λ_=>M.ret O) b (w.map u) K β=U (.ok<|w.flatMap o,β)
 |[],_=>rfl
 |x::w,h=>by
  obtain⟨a,c,d⟩:=h x Ud;rw[Ul,ot];simp only[c,M.bind,M.ret,reduceIte,d,yV u o w λy P=>h y<|T3 _ P,U9]
theorem nY{E:Type}{K:Nat}{P:a0a}{S:FL}{V:ni}{b:FL}{c:a0c->a0l}{G:Dn}{β:Bg}{d:D}(w:List E)(u:E->D)(o:E->a0c)(e:S G β=U (.ok<|w.map u,β))
  (f:∀x∈w,∃a,V (u x) (lg K P G)=U a/\b a β=U (.ok<|o x,β)) (g:c (w.flatMap o)=U d):i9 K P S V (λ_=>M.ret O) b c G β=U (.ok d,β):=by
 unfold i9;rw[e];simp only[yV u o w f,g,VP]
theorem SE{E:Type}{K:FL}{P:ni}{b:FL}{G:Dn}{β:Bg}(w:List E)(u:E->D)(o:E->a0c)(c:K G β=U (.ok<|w.map u,β))(d:∀x∈w,∃a,P (u x) G=U a/\b a β=U (.ok<|o x,β)):L_ K P (λ_=>M.ret O) b G β=U (.ok<|w.flatMap o,β):=by
 unfold L_ M.bind;rw[c];exact yV u o w d
noncomputable abbrev iO(B:a0b):LP:=B.map λa=>a.map λp=>((p.1:Int),(p.2:Int))
abbrev j1(B:a0b):D:=eA<|iO B
noncomputable def nZ(B:a0b)(k:Nat):a0h:=B.map λa=>a.getD k (0,0)
def vr(r c:Nat)(B:a0b):Prop:=ko r c B/\∀a∈B,∀p∈a,p.1<=p.2/\p.2<=40
def wB(B:a0b)(cs:a0a):Wy:=λk r=>vB (nZ B k) r<|cs.getD k 0
theorem BR(B:a0b)(a:a0a):M_ a (wB B a):=λk r=>List.filter_sublist
theorem vr.col{r c k:Nat}{B:a0b}(h:vr r c B)(e:k<c):(nZ B k).length=r/\∀p∈nZ B k,p.1<=40/\p.2<=40:=by
 refine⟨by unfold nZ;rw[TX,h.1.1],λp d=>?_⟩;obtain⟨a,b,rfl⟩:=T7.mp d;have l:=h.1.2 a b;rw[fN rk];have:=h.2 a b _<|Vj (show k<a.length by lia);lia
theorem O0{r E:a0a}{B:a0b}{k:Nat}(c:Ic r)(hB:vr r.length E.length B)(i:E.sum<=40)(e:k<E.length):(cJ K a).1 [tN r,nL E,j1 B,.int (k:Int)] β=U (.ok<|.lst<|(wB B E k r).map tN,β):=by
 have g:E[k]?=U (E.getD k 0):=by rw[T6,Ua e];rfl
 obtain⟨l,q⟩:=hB.col e;unfold cJ
 refine aC<|aj<|aB (am (aa Z<|aa (cp Z Z<|cw<|by rw[T9,T9,g];rfl)<|aa ?_ Z)<|Rv c l q<|Um (db<|Uo g) i) ⟨Z,Z⟩;have h:=bv (nv:=1) (b4:=[3]) (it:=c5<|ac 2) (tg:=g_ 0) (f:=f2 gs (ac 0)<|ac 1) (δ:=[U<|tN r,U<|nL E,U<|j1 B,U<|.int _]) (β:=β) B _ (λw=>pN<|w.getD k (0,0)) (bG Z (by
  show U _=U _;rw[Ub,Ub];exact U6 U<|UH λw _=>U6 D.lst (by show Vx pD _=_;rw[Ub];rfl))) (λw b=>⟨[U<|D.lst<|w.map pN,U<|.int (k:Int)],Z,cp Z Z<|cw (by
   have l:=hB.1.2 w b;rw[T9,fN rk,Ua rk];rfl)⟩)<|bf (by rw[hB.1.1];have:=c.2.1;lia)
 apply h.trans;unfold nZ;rw[Ub];rfl
theorem ye:∀{r v:a0a},lb v r->(r.zip v).map (λp=>D.int<|(p.1:Int)-(p.2:Int))=(nI<|less r v).map D.int
 |[],[],_=>rfl
 |x::r,y::v,h=>by
  have b:=h.1;show _::_=D.int _::(nI<|less r v).map _;rw[<-(ye h.2)];show D.int _::_=_;rw[show(x:Int)-(y:Int)=((x-y:Nat):Int) by grind];rfl
 |[],_::_,h=>h.elim
 |_::_,[],h=>h.elim
theorem wI{r v:a0a}(h:lb v r)(b:r.length<=4):(dE K a).1 [tN r,tN v] β=U (.ok<|tN<|less r v,β):=by
 unfold dE
 dsimp only
 refine aC<|aj<|aB (ah (aa (x:= .lst<|(nI<|less r v).map _) ?_ Z) Z) ⟨Z,Z⟩;rw[<-ye h];refine bv _ (λp=>D.tup [.int _,.int _]) _ ?_ (λp _=>⟨[U<|.int _,U<|.int _],Z,Z⟩) (bf<|by rw[XB];lia);rw[<-iq (λx:Nat=>D.int _) (λx:Nat=>D.int _)];apply oC Z Z
 .show U _=U _
  rw[Ub];rfl
 .show U _=U _
  rw[Ub];rfl
structure Nt0 (rs cs:a0a):Prop where
 nr:Ic rs
 wd:pr (rs.dropLast.map (·+1))<63
 sm:rs.sum=cs.sum
 c1:1<=cs.length
 c6:cs.length<=6
structure lq (K:UA) (a:Ad) (rs cs:a0a) (W:Wy) (bd:D):Prop extends Nt0 rs cs where
 ok:M_ cs W
 fl:∀{β:Bg} {k:Nat} {r:a0a},k<cs.length->Ic r->r.length=rs.length->(cJ K a).1 [tN r,nL cs,bd,.int (k:Int)] β=U (.ok<|.lst<|(W k r).map tN,β)
theorem lq.at{rs cs r:a0a}{k:Nat}{W:Wy}{b:D}(h:lq K a rs cs W b)(c:k<=cs.length)(d:r∈fh W rs k):Ic r/\r.length=rs.length/\r.sum<=40:=by
 have q:=(f7 h.ok h.sm k c r d).1;obtain⟨e,f,g,i⟩:=h.nr;have w:=q.len;have E:=q.sum;have G:=q.pr;exact⟨⟨rk,rk,rk,rk⟩,w,rk⟩
abbrev lm(W:Wy)(a:a0a)(k:Nat):D:= .lst<|(fh W a k).map tN
theorem LB{w cs:a0a}{W:Wy}{b:D}(h:lq K a w cs W b):(gT K a).1 [nL w,nL cs,b] β=U (.ok<|.lst<|(Ue<|cs.length+1).map<|lm W w,β):=by
 have G:=h.c6;unfold gT
 dsimp only
 apply aC;refine aD (ah (aa (ah Z Z) Z) nB)<|kH Z (show 1<=UC by decide) ?_;refine bn (bF (aa (ah Z<|da<|by rw[TX,TX]) Z)<|F3 rk rk) (λk E c=>β=c/\∃e f,E=[U<|.sh<|nL w,U<|.sh<|nL cs,U<|.sh<|b,U<|.sh<|lm W w k,U<|.own<|(Ue<|k+1).map<|lm W w,e,f]) ⟨Z,Y,Y,Z⟩ ?_ ?_
 .rintro k d E _ hd ⟨rfl,e,f,rfl⟩
  obtain⟨g,rfl⟩:=wH hd;refine⟨_,Z,aD ?_<|kI Z Z (UN (show _<1000 by rw[TX,UF];lia) vy)<|aj<|aD (d:=lm W w<|k+1) Z<|cx ⟨Z,U<|.sh<|.int (k:Int),U<|.sh<|lm W w<|k+1,?_⟩⟩
  .refine nY _ tN (λr=>(W k r).map λv=>tN<|less r v) Z (λr j=>⟨[U<|tN r,Y,U<|nL cs,U<|b,U<|.int _],Z,?_⟩) ?_
   .obtain⟨i,l,_⟩:=h.at rk j
    exact IB _ tN _ (bG (am Z<|h.fl g i l) Z) (λv m=>⟨[U<|tN r,U<|tN v,U<|nL cs,U<|b,U<|.int _],Z,am Z<|wI (b8<|(h.ok k r).subset m) i.2.1⟩)
   .rw[<-zW h.ok h.sm h.nr.1 h.wd g]
    unfold nwI;rw[VM];simp only[Ub];rfl
  .rw[WJ (n:=k+1),UK];rfl
 .rintro E _ ⟨rfl,e,f,rfl⟩
  rw[xK];exact aj<|aB Z ⟨Z,Z⟩
theorem mV{i:Nat}{w:a0Z}{f:FD}{c d z:D}{h:G}{a:Ds}{β β1:Bg}{Q:a0z}(b:(vw a).getD i Y=U c)(e:f (vw a) β=U (.ok d,β1))(g:w c d=U z)(k:Gw h (a.set i<|U<|.sh z) β1 Q):Gw (aM (EE i w f) h) a β Q:=dM (by unfold EE;simp only[b,e,g,VP]) k
theorem HB{m i:Nat}{d:D}(h:(bw 2 m)[i]?=U d):i<m/\d= .int ((i+2:Nat):Int):=by
 obtain⟨x,a,rfl⟩:=bH h;have b:=(Ui.mp a).1;rw[UF]at b;rw[U8 b]at a;exact⟨b,rk⟩
theorem sS(a:Int)(m:Nat):(bw a m).length=m:=by unfold bw;rw[TX,UF]
theorem oD{n:Nat}(h:n<=2^11):n<2^1000:=bW h vy
theorem AT(n:Nat):dt (n-1+1)=dt n:=by cases n<;>rfl
theorem AQ{n:Nat}(h:n<=40):(iH K a).1 [.int (n:Int)] β=U (.ok<|.int ((dt n:Nat):Int),β):=by
 unfold iH
 dsimp only
 apply aC;refine aD Z<|bn (bF (aa Z<|aa (cp Z Z Z) Z)<|rg2 rk) (λi w b=>β=b/\∃c,w=[U<|.sh<|.int _,U<|.sh<|.int ((dt (i+1):Nat):Int),c]) ⟨Z,Y,Z⟩ ?_ ?_
 .rintro i d w _ hd ⟨rfl,c,rfl⟩
  obtain⟨e,rfl⟩:=HB hd;exact⟨_,Z,aj<|mV Z Z (ef (bW (mK rk) vy)<|oD rk)<|cx ⟨Z,_,Z⟩⟩
 .rintro w _ ⟨rfl,c,rfl⟩
  rw[sS,AT];exact aj<|aB Z ⟨Z,Z⟩
theorem yd{n:Nat}(h:n<=40):(gQ K a).1 [.int (n:Int)] β=U (.ok<|.int ((dt n:Nat):Int),β):=by
 unfold gQ
 dsimp only
 apply aC;refine aD Z<|bn (bF (aa Z<|aa (cp Z Z Z) Z)<|rg2 rk) (λi w b=>β=b/\∃c,w=[U<|.sh<|.int _,U<|.sh<|.int ((dt (i+1):Nat):Int),c]) ⟨Z,Y,Z⟩ ?_ ?_
 .rintro i d w _ hd ⟨rfl,c,rfl⟩
  obtain⟨e,rfl⟩:=HB hd;exact⟨_,Z,aj<|aD (cp Z Z<|ef (bW (mK rk) vy)<|oD rk)<|cx ⟨Z,_,Z⟩⟩
 .rintro w _ ⟨rfl,c,rfl⟩
  rw[sS,AT];exact aj<|aB Z ⟨Z,Z⟩
def t7(l:a0a):Nat:=dt l.sum/pr (l.map dt)
theorem RN{l:a0a}{d:D}(h:Sq l d):sw [d]=U (.int ((l.sum:Nat):Int)):=by
 rw[<-iZ];obtain rfl|rfl:=h
 .exact gf _
 .exact gf _
theorem ie(l:a0a):gH [nL l]=U (.int ((l.sum:Nat):Int)):=by rw[<-iZ];exact gf _
theorem iP{l:a0a}{i n:Nat}(h:l.sum<=40)(a:l[i]?=U n):n<=40:=Um (db<|Uo a) h
theorem zg{l:a0a}{E:D}(M:Sq l E)(h:l.sum<=40):(sU K a).1 [E] β=U (.ok<|.int ((t7 l:Nat):Int),β):=by
 unfold sU
 apply aC;refine bn (bG Z M.seq) (λi w c=>β=c/\∃b,w=[U<|.sh E,b,Y]) ⟨Z,Y,Z⟩ ?_ ?_
 .rintro i d w _ hd ⟨rfl,b,rfl⟩
  obtain⟨n,G,rfl⟩:=ig hd;exact⟨_,Z,aj<|bj (dv<|cp Z Z (by show U _=_;rw[UX rk]))<|aO<|cx ⟨Z,_,Z⟩⟩
 rintro w _ ⟨rfl,b,rfl⟩;refine aD (am (aa (ah Z<|RN M) Z)<|AQ h)<|bn (bG Z M.seq) (λi w c=>β=c/\∃b,w=[U<|.sh E,b,U<|.sh<|.int ((dt _/pr ((l.take i).map dt):Nat):Int)]) ⟨Z,b,by rw[Zn,Wc,Qd,Nat.div_one];rfl⟩ ?_ ?_
 .rintro i d w _ hd ⟨rfl,b,rfl⟩
  obtain⟨n,G,rfl⟩:=ig hd;refine⟨_,Z,aj<|mV Z (am Z<|AQ<|iP h G) (ua (mJ n)<|bW (mK<|iP h G) vy)<|cx ⟨Z,U<|.sh<|.int (n:Int),?_⟩⟩;rw[iB G,Nat.div_div_eq_div_mul];rfl
 .rintro w _ ⟨rfl,b,rfl⟩
  rw[i5,UV];exact aj<|aB Z ⟨Z,Z⟩
theorem AS{l:a0a}{i:Nat}(h:l.sum<=40)(b:l.length<=4):pr ((l.take i).map dt)<=2^640:=by
 refine Um (M5 (m:=160) λx a=>?_)<|X1 vy ?_
 .obtain⟨n,hn,rfl⟩:=T7.mp a
  exact mK<|Um (db<|Wl hn) h
 .rw[TX,Ve];lia
theorem ya{l:a0a}(h:l.sum<=40)(e:l.length<=4):(m5 K a).1 [nL l] β=U (.ok<|.int ((t7 l:Nat):Int),β):=by
 unfold m5
 apply aC;refine aD Z<|bn Z (λi w b=>β=b/\∃c,w=[U<|.sh<|nL l,U<|.sh<|.int ((pr ((l.take i).map dt):Nat):Int),c]) ⟨Z,Y,Z⟩ ?_ ?_
 .rintro i d w _ hd ⟨rfl,c,rfl⟩
  obtain⟨n,E,rfl⟩:=ig hd;refine⟨_,Z,aj<|aD (cp Z (am Z<|yd<|iP h E)<|ef (bW (AS h e) vy)<|bW (mK<|iP h E) vy)<|cx ⟨Z,U<|.sh<|.int (n:Int),?_⟩⟩;rw[iB E];rfl
 .rintro w _ ⟨rfl,c,rfl⟩
  rw[i5,UV];have f:=AS (i:=l.length) h e;rw[UV]at f;exact aj<|aB (cp (am (aa (ah Z<|ie l) Z)<|yd h) Z<|ua (xQ λx G=>by obtain⟨n,_,rfl⟩:=T7.mp G;exact mJ n)<|bW f vy) ⟨Z,Z⟩
theorem lX{l:a0a}(h:l.sum<=40):t7 l<=2^160:=Um (Z9 _ _)<|mK h
theorem zh{cs:a0p}{i:Nat}(h:∀l∈cs,l.sum<=40)(b:cs.length<=6):pr ((cs.take i).map t7)<=2^960:=by
 refine Um (M5 (m:=160) λx a=>?_)<|X1 vy ?_
 .obtain⟨n,hn,rfl⟩:=T7.mp a
  exact lX<|h n<|Wl hn
 .rw[TX,Ve];lia
theorem wJ{n i:Nat}(h:n<=40)(b:i<=40):n^i<2^1000:=bW (m:=240) (Um (Nat.pow_le_pow_left (show n<=2^6 by lia) i)<|by rw[<-Nat.pow_mul];exact X1 vy rk) vy
theorem Lm{n:Nat}(h:n<=40):(uH K a).1 [.int (n:Int),.int (n:Int)] β=U (.ok<|.int ((n^n:Nat):Int),β):=by
 unfold uH
 dsimp only
 apply aC;refine aD Z<|bn (bF Z<|F3 rk rk) (λi w b=>β=b/\i<=n/\∃c,w=[U<|.sh<|.int _,U<|.sh<|.int _,U<|.sh<|.int ((n^i:Nat):Int),c]) ⟨Z,rk,Y,Z⟩ ?_ ?_
 .rintro i d w _ hd ⟨rfl,_,c,rfl⟩
  obtain⟨e,rfl⟩:=wH hd;exact⟨_,Z,aj<|mV Z Z (ef (wJ h rk)<|oD rk)<|cx ⟨Z,rk,_,Z⟩⟩
 .rintro w _ ⟨rfl,_,c,rfl⟩
  rw[sS];exact aj<|aB Z ⟨Z,Z⟩
theorem K8{n:Nat}(h:n<=40):(ix K a).1 [.int (n:Int)] β=U (.ok<|.int ((n^n:Nat):Int),β):=by
 unfold ix
 dsimp only
 apply aC;refine aD Z<|bn (bF Z<|F3 rk rk) (λi w b=>β=b/\i<=n/\∃c,w=[U<|.sh<|.int _,U<|.sh<|.int ((n^i:Nat):Int),c]) ⟨Z,rk,Y,Z⟩ ?_ ?_
 .rintro i d w _ hd ⟨rfl,_,c,rfl⟩
  obtain⟨e,rfl⟩:=wH hd;exact⟨_,Z,aj<|aD (cp Z Z<|ef (wJ h rk)<|oD rk)<|cx ⟨Z,rk,_,Z⟩⟩
 .rintro w _ ⟨rfl,_,c,rfl⟩
  rw[sS];exact aj<|aB Z ⟨Z,Z⟩
def pwN(l:a0a):Nat:=pr<|l.map λn=>n^n
theorem s0{l:a0a}{i:Nat}(h:l.sum<=40):pr ((l.take i).map λn=>n^n)<=2^(6*(l.take i).sum):=M6 λx a=>Um (db<|Wl a) h
theorem BY{l:a0a}(i:Nat):(l.take i).sum<=l.sum:=by
 have:=Sc (f:=λn:Nat=>n) (l:=l) i;simpa using this
theorem Ll{l:a0a}{E:D}(M:Sq l E)(h:l.sum<=40):(jU K a).1 [E] β=U (.ok<|.int ((pwN l:Nat):Int),β):=by
 unfold jU
 apply aC;refine aD Z<|bn (bG Z M.seq) (λi G b=>β=b/\∃c,G=[U<|.sh E,U<|.sh<|.int ((pr ((l.take i).map λn=>n^n):Nat):Int),c]) ⟨Z,Y,Z⟩ ?_ ?_
 .rintro i d G _ hd ⟨rfl,c,rfl⟩
  obtain⟨n,w,rfl⟩:=ig hd;refine⟨_,Z,aj<|mV Z (am Z<|Lm<|iP h w) (ef (bW (s0 h) (by have:=BY (l:=l) i;lia))<|wJ (iP h w)<|iP h w)<|cx ⟨Z,U<|.sh<|.int (n:Int),?_⟩⟩;rw[iB w];rfl
 .rintro G _ ⟨rfl,c,rfl⟩
  rw[i5,UV];exact aj<|aB Z ⟨Z,Z⟩
theorem w9(l:a0a):t7 l=mu l:=QC l
theorem Nd{l:a0a}(h:l.sum<=40):mu l<=2^160:=by rw[<-w9];exact lX h
theorem wC{a:Type}{l:List a}{i:Nat}{x:a}(f:a->Nat)(h:l[i]?=U x):L2.Nt.sm (l.take<|i+1) f=L2.Nt.sm (l.take i) f+f x:=by
 rw[List.take_add_one,h,xq];rfl
abbrev cv(W:Wy)(m k:Nat)(r:a0a):D:= .tup [.int ((mm W (m-k) k r:Nat):Int),.int ((xr W (m-k) k r:Nat):Int)]
abbrev sA(W:Wy)(a:a0a)(m k:Nat):D:= .dct T4 ((fh W a k).map λr=>((0:Int),nI r))<|(fh W a k).map<|cv W m k
theorem IT{f:a0a->D}{u:a0a}:∀{L:a0p},u∈L->lK (L.map λr=>((0:Int),nI r)) (L.map f) (0,nI u)=U (f u)
 |r::L,h=>by
  unfold lK;rw[Ul,Ul,VU,WI];by_cases q:r=u
  .rw[q,Ux Z];rfl
  .rw[UX λe=>q<|i6 (WS.mp e).2]
   exact IT<|(Uq.mp h).resolve_left λe=>q e.symm
theorem DD{w cs r:a0a}{W:Wy}{q:D}{k:Nat}(h:lq K a w cs W q)(o:k<cs.length)(p:r∈fh W w k):(jl K a).1 [tN r,.lst<|(W k r).map tN,sA W w cs.length<|k+1] β=U (.ok<|cv W cs.length k r,β):=by
 obtain⟨t,y,u⟩:=h.at rk p;unfold jl
 apply aC;refine aD Z<|aD Z<|bn Z (λi E e=>β=e/\∃f g j,E=[U<|.sh<|tN r,U<|.sh<|.lst<|(W k r).map tN,U<|.sh<|sA W w _<|k+1,U<|.sh<|.int ((L2.Nt.sm ((W k r).take i) λv=>mm W (cs.length-(k+1)) (k+1) (less r v):Nat):Int),U<|.sh<|.int ((L2.Nt.sm ((W k r).take i) λv=>mu v*xr W (cs.length-(k+1)) (k+1) (less r v):Nat):Int),f,g,j]) ⟨Z,Y,Y,Y,Z⟩ ?_ ?_
 .rintro i d E _ hd ⟨rfl,f,g,j,rfl⟩
  obtain⟨v,l,rfl⟩:=bH hd;have G:=Uo l;have m:=gX.mpr ⟨r,p,v,G,Z⟩;have b:=(h.ok k r).subset G;have c:=Um (b8 b).sum u;have n:=(h.at o m).2.2;refine⟨_,Z,BQ (cp Z (am Z<|wI (b8 b) t.2.1)<|(by
   show(fM T4<|dK T4 (0,nI _)).bind _=_;rw[fJ λ_=>Z];exact IT m)) Z<|mV Z Z Z<|aj<|mV Z (cp (am Z<|zg (.inr Z) c) Z<|ef (bW (lX c) vy)<|bW (Um (yL h.ok _ _ _<|by grind)<|by rw[pL _ _ ((f7 h.ok h.sm _ o _ m).2)];exact Nd n) vy) Z<|cx ⟨Z,U<|.sh<|tN v,U<|.sh<|.int ((mm W (cs.length-(k+1)) (k+1) (less r v):Nat):Int),U<|.sh<|.int ((xr W (cs.length-(k+1)) (k+1) (less r v):Nat):Int),?_⟩⟩;rw[wC _ l,wC _ l,w9,Y8,Y8];rfl
 .rintro E _ ⟨rfl,f,g,j,rfl⟩
  rw[TX,UV];refine aj<|aB (ah Z bZ) ⟨Z,?_⟩;show Vw (D.tup [.int _,.int _])=_;rw[show cs.length-k=cs.length-(k+1)+1 by grind];rfl
theorem BN{f g:FD}{a:Dn}{k v:D}(b:f a β=U (.ok k,β))(c:g a β=U (.ok v,β)):Mt f g a β=U (.ok [.tup [k,v]],β):=by
 unfold Mt M.bind;rw[b];simp only[c,M.ret]
theorem yC{a b:Type}(f:a->b)(l:List a):(l.flatMap λx=>[f x])=l.map f:=by
 induction l with
 |nil=>rfl
 |cons x l w=>rw[U9,w];rfl
theorem i7{rs cs:a0a}{W:Wy}{b:D}(h:lq K a rs cs W b){k:Nat}(c:k<=cs.length):(fh W rs k).length<=62:=by
 have:=Oz h.ok h.sm c;have:=h.wd;lia
theorem dk0{w cs:a0a}{W:Wy}{b:D}(h:lq K a w cs W b){k:Nat}(c:k<=cs.length){E:a0c}(e:E=(fh W w k).map λr=> .tup [tN r,cv W cs.length k r]):nW T4 E=U (sA W w cs.length k):=by
 refine(AY (kvs:=(fh W w k).map λr=>(((0:Int),nI r),cv W cs.length k r)) ⟨?_,?_,?_,?_⟩).trans ?_
 .rw[e,Ub];rfl
 .rw[Ub];exact IH (λx y q=>i6 (WS.mp q).2)<|mF k
 .rw[TX];exact bf (by have:=i7 h c;lia)
 .rintro p d _
  obtain⟨r,_,rfl⟩:=T7.mp d;rfl
 .rw[Ub,Ub];rfl
theorem Sj{n i:Nat}{d:D}(h:(eC n)[i]?=U d):i<n/\d= .int ((n-1-i:Nat):Int):=by
 obtain⟨x,a,rfl⟩:=bH h;have b:=(Ui.mp a).1;rw[UF]at b;rw[U8 b]at a;exact⟨b,rk⟩
theorem HA{f:Nat->D}{n k:Nat}(h:k<n):((Ue n).map f)[k]?=U (f k):=by rw[T9,U8 h];rfl
theorem Ki{f:Nat->D}:∀n j,cZ j ((List.range' j n).map f)=(List.range' j n).map λk=> .tup [.int (k:Int),f k]
 |0,_=>rfl
 |n+1,j=>by
  rw[List.range'_succ,Ul,Ul,<-Ki n _];rfl
theorem N5{f:Nat->D}(m:Nat):((Ue<|m+1).map λj=>f<|m-j).reverse=(Ue<|m+1).map f:=Wj nl λi b c=>by
 simp only[List.length_reverse,TX,UF]at b;simp only[List.getElem_reverse,WX,Xq,TX,UF];congr 1;lia
abbrev EV(W:Wy)(a:a0a)(m:Nat):a0c:=(Ue<|m+1).flatMap λk=>(fh W a k).map<|cv W m k
abbrev rV(W:Wy)(rs:a0a)(m:Nat):D:= .dct O (kyW W rs<|m+1)<|EV W rs m
theorem dk1{rs cs:a0a}{W:Wy}{b:D}(h:lq K a rs cs W b){w:a0c}(e:w=(Ue<|cs.length+1).flatMap λ(k:Nat)=>(fh W rs k).map λr=> .tup [.tup [.int (k:Int),tN r],cv W cs.length k r]):nW O w=U (rV W rs cs.length):=by
 refine(AY (kvs:=(Ue<|cs.length+1).flatMap λ(k:Nat)=>(fh W rs k).map λr=>(((k:Int),nI r),cv W cs.length k r)) ⟨?_,?_,?_,?_⟩).trans ?_
 .rw[e,VM];simp only[Ub];rfl
 .have:=JI (W:=W) (rs:=rs)<|cs.length+1
  unfold kyW at this;rw[VM];simp only[Ub];exact this
 .refine bf (Um (fK (n:=62) λk c=>?_) (by have:=h.c6;rw[UF];lia))
  have:=UD.mp c;rw[TX];exact i7 h rk
 .rintro p _ q
  cases q
 .unfold rV
  rw[VM,VM];simp only[Ub];rfl
theorem EM{w cs:a0a}{W:Wy}{b:D}(h:lq K a w cs W b):(fR K a).1 [nL w,nL cs,b] β=U (.ok<|rV W w cs.length,β):=by
 have G:=h.c6;unfold fR
 dsimp only
 apply aC;refine aD (am Z<|LB h)<|aD (ah Z<|da<|by rw[TX,TX]) ?_;refine aD (nY _ tN _ (bG (cp Z Z<|cw<|HA rk) Z) (λr _=>⟨[U<|tN r],Z,BN Z<|ah Z bZ⟩)<|dk0 h (Ug _)<|by rw[yC];simp only[cv,Xe];rfl)<|kH Z (show 1<=UC by decide) ?_;refine bn (bF Z<|(by
  rw[wE];rw[Uf (by rw[US];lia),VA])) (λi E c=>β=c/\∃e f,E=[U<|.sh<|nL w,U<|.sh<|nL cs,U<|.sh<|b,U<|.sh<|.lst<|(Ue<|cs.length+1).map<|lm W w,U<|.sh<|.int _,U<|.sh<|sA W w _<|cs.length-i,U<|.own<|(Ue<|i+1).map λj=>sA W w _<|cs.length-j,e,f]) ⟨Z,Y,Y,Z⟩ ?_ ?_
 .rintro i d E _ hd ⟨rfl,e,f,rfl⟩
  obtain⟨p,rfl⟩:=Sj hd;have l:cs.length-1-i<cs.length:=by omega
  have o:cs.length-i=(cs.length-1-i)+1:=by grind
  have m:cs.length-(i+1)=cs.length-1-i:=by lia
  rw[o];refine⟨_,Z,aD Z<|aD (nY _ tN _ (bG (cp Z Z<|cw<|HA rk) Z) (λr g=>⟨[U<|tN r,U<|nL cs,U<|b,U<|.int _,U<|sA W w _<|cs.length-1-i+1],Z,BN Z<|am (aa Z<|aa (am Z<|h.fl l (h.at rk g).1 (h.at rk g).2.1) Z)<|DD h l g⟩)<|dk0 h rk<|yC _ _)<|aj<|kI Z Z (UN (show _<1000 by rw[TX,UF];lia) vy)<|cx ⟨Z,U<|.sh<|.int ((cs.length-1-i:Nat):Int),U<|.sh<|sA W w cs.length<|cs.length-1-i+1,?_⟩⟩;rw[WJ (n:=i+1),UK,m];show _=[_,_,_,_,_,_,U<|Sl.own<|_++[sA W w _<|cs.length-(i+1)],_,_];rw[m];rfl
 .rintro E _ ⟨rfl,e,f,rfl⟩
  rw[show(eC _).length=cs.length by unfold eC;rw[TX,UF]];refine aj<|aB (nY (Ue<|cs.length+1) (λk=> .tup [.int (k:Int),sA W w _ k]) _ (bF (aa (cp Z Z Z) Z) ?_) (λk _=>⟨[U<|.int (k:Int),U<|sA W w cs.length k,Y,Y],Z,?_⟩)<|dk1 h Z) ⟨Z,Z⟩
  .show U (cZ 0 _)=_
   rw[N5,List.range_eq_range',Ki]
  .refine(SE _ (λr=> .tup [tN r,cv W cs.length k r]) _ ?_ (λr _=>⟨[U<|.int (k:Int),U<|sA W w cs.length k,U<|tN r,U<|cv W cs.length k r],Z,BN (ah Z bZ) Z⟩)).trans (by rw[yC])
   show U _=_;rw[List.zipWith_map_left,List.zipWith_map_right,List.zipWith_self];rfl
theorem tp_e{r c:Nat}{w:LI}(E:ko r c w)(P:1<=r)(S:r<=30)(V:c<=30){δ:Dn}(h:δ.getD 0 Y=U (eo w)):cE 1 [0] (c9 gR<|ae (aR fA<|ae (f2 gs (ac 0)<|fC<|.int 0)<|ax)<|ax) (g_ 0) (λ_=>M.ret O) (j_<|cE 1 [0] (c5<|ac 1) (g_ 0) (λ_=>M.ret O)<|j_<|f2 gs (ac 0)<|ac 1) δ β=U (.ok<|eo<|tp c w,β):=by
 obtain⟨b,d,g⟩:=E.at (i:=0) rk;have k:(gI w)[0]?=U (b.map D.int):=by rw[T9,d];rfl
 have e:=bv (nv:=1) (b4:=[0]) (it:=c9 gR<|ae _<|ax) (tg:=g_ 0) (f:=cE 1 [0] (c5<|ac 1) (g_ 0) (λ_=>M.ret O)<|j_<|f2 gs (ac 0)<|ac 1) (Ue c) _ (λj=>D.lst<|w.map λa=>D.int<|a.getD j 0) (bF (aa (ah (aa (cp (pZ h) Z<|tR k) Z) (da<|by rw[TX,g]):aR fA (ae (f2 gs (ac 0)<|fC<|.int 0)<|ax) δ β=U _) Z)<|F3 rk rk) ?_ (bf<|by rw[UF];lia)
 .rw[e]
  unfold tp;show _=U (Vw<|D.lst<|Vx _<|Vx _<|Vx _ _,β);rw[Ub,Ub];congr 4;refine UH λj _=>?_;show _=D.lst ((w.map λa=>a.getD j 0).map _);rw[Ub];rfl
 .intro j o
  have p:=UD.mp o;have m:lg 1 [0] δ=[Y,U<|eo w]:=by
   unfold lg;rw[Ul,h];rfl
  refine⟨[U<|.int<|0+(j:Int),U<|eo w],by rw[m];rfl,?_⟩;have K:(gI w).map D.lst=w.map λa=>D.lst (a.map D.int):=by rw[Ub];rfl
  refine bv w _ _ (by show U _=_;rw[K]) (λa q=>⟨_,Z,cp Z Z ?_⟩) (bf<|by rw[E.1];lia);have t:=E.2 a q;obtain⟨x,G⟩:=NA (l:=a) (i:=j) rk;rw[YE];apply cw;rw[T9,G,T6,G];rfl
theorem DK{r c:Nat}{w:LI}(D:ko r c w)(E:1<=r)(G:r<=30)(M:c<=30):(sW K a).1 [eo w] β=U (.ok<|eo<|tp c w,β):=
 aC (aj<|aB (tp_e D E G M Z) ⟨Z,Z⟩)
noncomputable abbrev iL(a:a0e):D:= .lst<|a.map D.int
theorem GD{w:LI}(h:w.length<=1000){f:FD}{δ:Dn}(e:f δ β=U (.ok<|eo w,β)):cE 1 [] (c5 f) (g_ 0) (λ_=>M.ret O) (j_<|aR gH<|ae (ac 0)<|ax) δ β=U (.ok<|iL<|w.map VT,β):=by
 have E:(gI w).map D.lst=w.map λa=>D.lst (a.map D.int):=by rw[Ub];rfl
 have:=bv (nv:=1) (b4:=[]) (it:=c5 f) (tg:=g_ 0) (f:=aR gH<|ae (ac 0)<|ax) w _ _ (by rw[<-E];exact bG e Z) (λa _=>⟨_,Z,ah Z<|gf a⟩)<|bf h;rw[this];show _=U (Vw<|D.lst<|(w.map VT).map _,β);rw[Ub];rfl
theorem sR{ba:LI}(h:ba.length<=1000):(gz K a).1 [eo ba] β=U (.ok<|iL<|ba.map VT,β):=
 aC (aj<|aB (GD h Z) ⟨Z,Z⟩)
theorem oz{r c:Nat}{ba:LI}(w:ko r c ba)(D:1<=r)(E:r<=30)(G:c<=30):(eG K a).1 [eo ba] β=U (.ok<|iL<|(tp c ba).map VT,β):=
 aC (aj<|aB (GD (by rw[(uw w.1).1];lia)<|am Z<|DK w D E G) ⟨Z,Z⟩)
noncomputable def gp(G:LI)(i j:Nat):Int:=(G.getD i []).getD j 0
theorem TC{G:LI}{i j:Nat}{a:a0e}{x:Int}(b:G[i]?=U a)(c:a[j]?=U x):gp G i j=x:=by
 unfold gp;simp only[T6,b,c,Option.getD_some]
theorem JW{G:LI}{i j:Nat}{a:a0e}(b:G[i]?=U a):a.getD j 0=gp G i j:=by
 unfold gp;rw[T6 (l:=G),b];rfl
theorem KE:∀(a:a0e),S a.length (λj=>a.getD j 0)=a.sum:=λa=>by
 unfold S;congr 1;refine Wj nl λi c b=>?_;rw[WX,Xq,T6,Ua b];rfl
theorem RQ{r c i:Nat}{A:LI}(d:ko r c A)(e:i<r):S c (gp A i)=(A.map VT).getD i 0:=by
 obtain⟨f,b,g⟩:=d.at e;rw[T6,T9,b];show _=f.sum;rw[<-KE,g];exact eW λj _=>(JW b).symm
theorem RT{r c j:Nat}{A:LI}(b:ko r c A)(f:j<c):S r (λp=>gp A p j)=((tp c A).map VT).getD j 0:=by
 have e:(tp c A)[j]?=U (A.map λa=>a.getD j 0):=by
  show((Ue c).map λj=>A.map λa=>a.getD j 0)[j]?=_;rw[T9,U8 f];rfl
 rw[T6,T9,e];show _=(A.map λa=>a.getD j 0).sum;rw[<-KE,TX,b.1];refine eW λp g=>?_;obtain⟨h,d,i⟩:=b.at g;rw[T6,T9,d];exact(JW d).symm
theorem IE{w:a0e}{b:a0a}(c:∀i∈b,i<w.length)(d:b.length<=1000):(oZ K a).1 [iL w,nL b] β=U (.ok<|.int<|tE w b,β):=by
 unfold oZ
 refine aC<|aj<|aB (ah (aa ?_ Z)<|gf _) ⟨Z,Z⟩;have:=bv (nv:=1) (b4:=[0]) (it:=c5<|ac 1) (tg:=g_ 0) (f:=f2 gs (ac 1)<|ac 0) (δ:=[U<|iL w,U<|nL b]) b _ _ (by show U (Vw<|(nI b).map _,β)=_;rw[Ub];rfl) (λi e=>⟨_,Z,cp Z Z<|Nm<|c i e⟩)<|bf d;apply this.trans;rw[Ub];rfl
theorem vS{r c j:Nat}{w:a0e}{b:LP}{g:a0a}(E:ko r c b)(n:w.length=c)(k:r<=1000)(l:j<c):(dS K a).1 [iL w,eA b,nL g,.int (j:Int)] β=U (.ok<|.int<|gn w b r g j,β):=by
 unfold dS
 dsimp only
 refine aC ?_;refine aD (d:=iL<|((Ue r).filter λi=>!decide (i∈g)).map λi=>(bI b i j).1) (β1:=β) ?_ ?_
 .have m:((gP b).map D.lst).length=r:=by rw[TX,TX,E.1]
  have:=gb (nv:=2) (b4:=[2,3]) (it:=Nb<|ae (ac 1) ax) (tg:=O_<|fc (g_ 0)<|fc (g_ 1) jL) (tt:=fB<|f2 (y3 O) (ac 0)<|ac 2) (f:=f2 gs (f2 gs (ac 1)<|ac 3)<|fC<|.int 0) (δ:=[U<|iL w,U<|eA b,U<|nL g,U<|.int (j:Int),Y]) (β:=β) (Ue r) (λi=>D.tup [.int (i:Int),.lst<|(b.getD i []).map pD]) (λi=>D.int (bI b i j).1) (λi=>!decide (i∈g)) ?_ (λi h=>⟨_,Z,dv<|cp Z Z yx,λ_=>cp (cp Z Z (yp E (UD.mp h) l).2) Z lT⟩) (bf<|by rw[UF];exact k)
  .refine this.trans ?_
   show _=U (Vw<|D.lst<|(((Ue r).filter λi=>!decide (i∈g)).map λi=>(bI b i j).1).map D.int,β);rw[Ub];rfl
  .show U (Vw<|cZ 0<|(gP b).map D.lst,β)=_
   rw[q9,m];congr 3;refine UH λi h=>?_;rw[V4];congr 3;obtain⟨e,_⟩:=E.getD<|UD.mp h;rw[T6,T9,T9,e];rfl
 refine aj<|aB (cp (x:= .int<|w.getD j 0) (cp Z Z<|Nm rk) (ah Z<|gf _) Z) ⟨Z,?_⟩;have e:(Ue r).map (λi=>if i∈g then(0:Int)else(bI b i j).1)=(Ue r).map (λx=>if(!decide (x∈g))=O then(bI b x j).1 else 0):=UH λi _=>by by_cases q:i∈g<;>simp[q]
 unfold gn S;rw[AO,e]
theorem wn{r c j:Nat}{b:LP}{d:a0a}(w:ko r c b)(e:∀i∈d,i<r)(k:d.length<=1000)(g:j<c):(dT K a).1 [eA b,nL d,.int (j:Int)] β=U (.ok<|.int<|gZ b d j,β):=by
 unfold dT
 refine aC<|aj<|aB (ah (aa ?_ Z)<|gf _) ⟨Z,Z⟩;have:=bv (nv:=1) (b4:=[0,2]) (it:=c5<|ac 1) (tg:=g_ 0) (f:=f2 gs (f2 gs (f2 gs (ac 1)<|ac 0)<|ac 2)<|fC<|.int 1) (δ:=[U<|eA b,U<|nL d,U<|.int _]) d _ _ (by show U (Vw<|(nI d).map _,β)=_;rw[Ub];rfl) (λi h=>⟨_,Z,cp (cp (cp Z Z (yp w (e i h) g).1) Z (yp w (e i h) g).2) Z nG⟩)<|bf k;apply this.trans;rw[Ub];rfl
theorem GY{r c:Nat}{w:a0e}{b:LP}{d e:a0a}(E:ko r c b)(k:w.length=c)(l:r<=1000)(h:c<=1000)(m:∀i∈d,i<r)(n:d.length<=1000):(oY K a).1 [iL w,eA b,nL d,nL e] β=U (.ok<|.int<|wF w b r c d e,β):=by
 unfold oY
 dsimp only
 refine aC<|aj<|aB (ah (aa (x:=iL ((Ue c).map λj=>if j∈e then gn w b r d j else gZ b d j)) ?_ Z)<|gf _) ⟨Z,Z⟩;have:=bv (nv:=1) (b4:=[3,0,1,2]) (it:=c9 gR<|ae (aR fA<|ae (ac 0)<|ax)<|ax) (tg:=g_ 0) (f:=fIf (fB<|f2 (y3 T4) (ac 0)<|ac 1) (bN (dS K a).1<|ae (ac 2)<|ae (ac 3)<|ae (ac 4)<|ae (ac 0)<|ax)<|bN (dT K a).1<|ae (ac 3)<|ae (ac 4)<|ae (ac 0)<|ax) (δ:=[U<|iL w,U<|eA b,U<|nL d,U<|nL e]) (β:=β) (Ue c) (λj=>D.int<|0+(j:Int)) (λj=>D.int (if j∈e then gn w b r d j else gZ b d j)) (bF (ds:=bw 0 c) (aa (ah Z<|da<|by rw[TX,k]) Z)<|F3 rk rk) (λj o=>⟨[U<|.int (j:Int),U<|nL e,U<|iL w,U<|eA b,U<|nL d],by rw[YE];rfl,?_⟩) (bf<|by rw[UF];exact h)
 .refine this.trans ?_
  show _=U (Vw<|D.lst<|((Ue c).map λj=>if j∈e then gn w b r d j else gZ b d j).map D.int,β);rw[Ub];rfl
 .have g:=UD.mp o
  by_cases q:j∈e
  .rw[Uf q]
   exact wx (dv<|cp Z Z<|by rw[yx];simp[q])<|am Z<|vS E k l g
  .rw[Uh q]
   exact wy (dv<|cp Z Z<|by rw[yx];simp[q])<|am Z<|wn E m n g
theorem II{r c:Nat}{w:a0e}{b:LP}{d:a0a}(E:ko r c b)(g:w.length=c)(l:r<=1000)(e:c<=1000)(m:∀i∈d,i<r)(n:d.length<=1000):(lO K a).1 [iL w,eA b,nL d] β=U (.ok<|nL<|xY w b r c d,β):=by
 unfold lO
 dsimp only
 refine aC ?_;have h:=gb (nv:=1) (b4:=[0,1,2]) (it:=c9 gR<|ae (aR fA<|ae (ac 0)<|ax)<|ax) (tg:=g_ 0) (tt:=fB<|f2 (ltD) (bN (dS K a).1<|ae (ac 1)<|ae (ac 2)<|ae (ac 3)<|ae (ac 0)<|ax)<|bN (dT K a).1<|ae (ac 2)<|ae (ac 3)<|ae (ac 0)<|ax) (f:=ac 0) (δ:=[U<|iL w,U<|eA b,U<|nL d]) (β:=β) (Ue c) (λj=>D.int<|0+(j:Int)) (λj=>D.int (j:Int)) (λj=>decide (gn w b r d j<gZ b d j))
  (bF (ds:=bw 0 c) (aa (ah Z<|da<|by rw[TX,g]) Z)<|F3 rk rk)
  (λj k=>⟨[U<|.int (j:Int),U<|iL w,U<|eA b,U<|nL d],by rw[YE];rfl,dv<|cp (am Z<|vS E g l<|UD.mp k) (am Z<|wn E m n<|UD.mp k) Z,λ_=>Z⟩) (bf<|by rw[UF];exact e)
 refine aj<|aB h ⟨Z,?_⟩;show Vw (D.lst<|(nI<|xY w b r c d).map D.int)=_;rw[Ub];rfl
theorem PX{n i:Nat}{d:D}(h:(bw 0 n)[i]?=U d):i<n/\d= .int (i:Int):=by
 obtain⟨x,a,rfl⟩:=bH h;have b:=(Ui.mp a).1;rw[UF]at b;rw[U8 b]at a;cases a;exact⟨b,by rw[YE]⟩
theorem EQ{n:Nat}(w:n<=6):(o7 K a).1 [.int (n:Int)] β=U (.ok<|.lst<|(y_ n).map nL,β):=by
 unfold o7
 dsimp only
 apply aC;refine aD (ah (aa (ah Z LN) Z) nB)<|bn (ds:=bw 0 n) (bF Z<|F3 rk rk) (λi δ b=>β=b/\∃c,δ=[U<|.sh<|.int _,U<|.sh<|.lst<|(y_ i).map nL,c]) ⟨Z,Y,Z⟩ ?_ ?_
 .rintro i d δ _ hd ⟨rfl,c,rfl⟩
  obtain⟨g,rfl⟩:=PX hd;have j:(y_ i).length<=64:=by rw[BE];exact Um (X1 vy (show i<=6 by lia)) vy
  refine⟨[U<|.sh<|.int _,U<|.sh<|.lst<|(y_ i).map nL,U<|.sh<|.int _],Z,aj<|aD ?_<|cx ⟨Z,_,Z⟩⟩;have h:=bv (nv:=1) (b4:=[2]) (it:=c5<|ac 1) (tg:=g_ 0) (f:=f2 dR (ac 0)<|aR ft<|ae (ac 1)<|ax) (δ:=vw [U<|.sh<|.int (n:Int),U<|.sh<|.lst<|(y_ i).map nL,U<|.sh<|.int _]) (β:=β) _ nL (λl=>nL<|l++[i]) Z (λl e=>⟨[U<|nL l,U<|.int (i:Int)],Z,by
   have k:l.length<=i:=by have:=(jK i l e).length_le;rwa[UF]at this
   refine cp Z (ah Z nB)<|(qL ?_).trans ?_
   .rw[TX,TX,Vf];lia
   .simp only[nL,UK,Ul,Wc]⟩) (bf rk)
  refine cp Z h<|(qL ?_).trans ?_
  .rw[TX,TX];lia
  .rw[y_,UK,Ub];rfl
 .rintro δ _ ⟨rfl,c,rfl⟩
  rw[show(bw 0 n).length=n by unfold bw;rw[TX,UF]];exact aj<|aB Z ⟨Z,Z⟩
theorem RH{r:Nat}{b:a0a}(h:b∈y_ r):(∀i∈b,i<r)/\b.length<=r:=⟨λi c=>UD.mp<|(jK r b h).subset c,by have:=(jK r b h).length_le;rwa[UF]at this⟩
theorem Ru{r c:Nat}{E w:a0e}{b:LP}(P:ko r c b)(l:E.length=r)(m:w.length=c)(n:r<=6)(p:c<=6)(V:∀X u,0<=slB E w b r c X u):(gB K a).1 [iL E,iL w,eA b] β=U (.ok .non,β):=by
 unfold gB
 dsimp only
 refine aC<|aj<|bn (bG (am (aa (ah Z<|da<|by rw[TX,l]) Z)<|EQ n) Z) (λi G f=>β=f/\∃g h,G=[U<|.sh<|iL E,U<|.sh<|iL w,U<|.sh<|eA b,g,h]) ⟨Z,Y,Y,Z⟩ ?_ ?_
 .rintro i d G _ hd ⟨rfl,g,h,rfl⟩
  obtain⟨e,q,rfl⟩:=bH hd;have S:=Uo q;obtain⟨k,t⟩:=RH S;refine⟨_,Z,aD (am Z<|II P m rk rk k rk) (aj<|bj (dv<|cp (am Z<|IE (by rw[l];exact k) rk) (am Z<|GY P m rk rk k rk) ?_)<|aO<|cx ⟨Z,_,_,Z⟩)⟩;have o:=V (λi=>decide (i∈e)) (λj=>decide (j∈xY w b r c e));have M:(xY w b r c e).Sublist _:=List.filter_sublist;rw[<-PF (jK r e S) M]at o;show U _=_;rw[UX rk]
 .rintro G _ ⟨rfl,g,h,rfl⟩
  exact cx ⟨Z,Z⟩
theorem NO{r c:Nat}{a:LI}{b:LP}(w:ko r c a)(m:ko r c b)(G:Kp a b)(X g:Nat->Bool):0<=slB (a.map VT) ((tp c a).map VT) b r c X g:=by
 refine NW (λi f j h=>?_) (λi f=>(RQ w f).symm) (λj h=>(RT w h).symm) X g;obtain⟨D,k,n⟩:=w.at f;have E:=qK (l:=D) (i:=j) (d:=0) rk;obtain⟨e,l⟩:=m.getD f;rw[TC k E];exact G i j _ _ (pU k E)<|pU e (qK (l:=b.getD i []) (i:=j) (d:=((0,0):Int×Int)) rk)
variable{rs cs:a0a}
theorem qA{g:G}{a:Ds}{o:s_}(h:Gw g a β (λc b=>c=o/\b=β)):g a β=U (o,β):=by
 obtain⟨c,b,e,rfl,rfl⟩:=h;exact e
theorem jy{t:a0s}{d b h:G}{a:Ds}{β1:Bg}{c:Bool}{Q:a0z}(e:t (hL a) β=U (.ok c,β1))(f:c=T4)(k:Gw (aM b h) a β1 Q):Gw (aM (pq t d b) h) a β Q:=by
 subst f;exact bj e k
theorem NY{r c:Nat}{b:LP}(g:A_ r c b)(n:r<=1000):(dH K a).1 [eA b,.int (r:Int),.int (c:Int)] β=U (.ok<|eA b,β):=by
 unfold dH
 apply aC;refine bj (dv<|cp Z Z Z)<|aO ?_;have o:cE 1 [2] (c5<|ac 0) (g_ 0) _ (j_<|f2 _ (aR fA<|ae (ac 0)<|ax)<|ac 1) [U<|eA b,U<|.int (r:Int),U<|.int _,Y,Y] β=U (.ok<|.lst<|b.map λ_=>D.bl T4,β):=
  bv b _ _ (by show U _=_;rw[Ub];rfl) (λw h=>⟨_,Z,cp (ah Z<|da (r:=c)<|by rw[TX];exact g.shp.2 w h) Z<|ne_int.trans<|by rw[Ux Z];rfl⟩) (bf<|by rw[g.shp.1];exact n)
 refine jy (p8 (dv<|cp (ah Z<|yg (r:=r)<|by rw[TX];exact g.shp.1) Z<|ne_int.trans<|by rw[Ux Z];rfl)<|p7 (ah (aa o Z)<|any_map b λ_=>T4) Z) nl<|aO<|bn Z (λi E e=>β=e/\∃l f,E=[U<|.sh<|eA b,U<|.sh<|.int _,U<|.sh<|.int _,l,f]) ⟨Z,Y,Y,Z⟩ ?_ ?_
 .rintro i d E _ hd ⟨rfl,l,f,rfl⟩
  obtain⟨y,G,rfl⟩:=bH hd;obtain⟨w,k,rfl⟩:=bH G;refine⟨_,Z,aj<|bn Z (λj E e=>β=e/\∃f,E=[U<|.sh<|eA b,U<|.sh<|.int _,U<|.sh<|.int _,U<|.sh<|.lst<|w.map pD,f]) ⟨Z,_,Z⟩ ?_ ?_⟩
  .rintro j d E _ hd ⟨rfl,f,rfl⟩
   obtain⟨p,m,rfl⟩:=bH hd;exact⟨_,Z,aj<|g0 (am Z<|(by
    obtain⟨x00,x01,x02⟩:=(g.ok w (Uo k) p<|Uo m);unfold j3
    apply aC;exact BQ Z Z<|aj<|jy (p9<|dv<|KK Z Z Z Z) rk<|aO<|cx ⟨Z,Z⟩))<|cx ⟨Z,_,Z⟩⟩
  .rintro E _ ⟨rfl,f,rfl⟩
   exact cx ⟨Z,_,_,Z⟩
 .rintro E _ ⟨rfl,l,f,rfl⟩
  exact aj<|aB (bv _ _ _ Z (λx _=>⟨_,Z,Z⟩)<|bf<|by rw[TX,g.shp.1];exact n) ⟨Z,Z⟩
theorem IC(l:a0a){n:Nat}{δ:Dn}(b:l.length<=1000)(e:δ.getD n Y=U (nL l)):yH (aR EU<|ae (cE 1 [] (c5<|ac n) (g_ 0) (λ_=>M.ret O)<|j_<|f2 (ltD) (ac 0)<|fC<|.int 0)<|ax) δ β=U (.ok T4,β):=by
 refine p7 (ah (aa (bv (nv:=1) (b4:=[]) (tg:=g_ 0) (f:=f2 _ _<|fC<|.int 0) (β:=β) _ _ _ (bG (pZ e) Z) (λx _=>⟨_,Z,Z⟩) (bf<|by rw[TX];exact b)) Z)<|any_map _ _)<|U6 U<|List.any_eq_false.mpr λx a=>?_;obtain⟨n,_,rfl⟩:=T7.mp a;simp
theorem rN(l:a0a):fA [nL l]=U (.int (l.length:Int)):=da (by rw[TX,TX])
theorem AZ(h:Nt0 rs cs):(fZ K a).1 [nL rs,nL cs] β=U (.ok .non,β):=by
 obtain⟨b,c,d,e⟩:=h.nr;have w:=h.c1;have D:=h.c6;unfold fZ
 dsimp only
 refine aC<|jy (p9<|dv<|zf Z (ah Z<|rN rs) Z) (by simp;lia)<|aO<|jy (p9<|dv<|zf Z (ah Z<|rN cs) Z) (by simp;lia)<|aO<|bj (p8 (IC rs rk Z)<|IC cs rk Z)<|aO ?_;exact jy (dv<|cp (ah Z<|ie rs) (ah Z<|ie cs) ne_int) (by rw[h.sm];simp)<|aO<|aj<|jy (dv<|cp (ah Z<|ie rs) Z gt_int) (by simp;lia)<|aO<|cx ⟨Z,Z⟩
theorem NI(h:Ic rs):(jZ K a).1 [nL rs] β=U (.ok .non,β):=by
 obtain⟨g,j,k,e⟩:=h;unfold jZ
 apply aC;refine aD Z<|bn Z (λi w b=>β=b/\∃c,w=[U<|.sh<|nL rs,U<|.sh<|.int ((pr ((rs.take i).map (·+1)):Nat):Int),c]) ⟨Z,Y,Z⟩ ?_ ?_
 .rintro i d w _ hd ⟨rfl,c,rfl⟩
  obtain⟨n,E,rfl⟩:=ig hd;have f:=db<|Uo E;have l:=Um (wK rs i) e;refine⟨_,Z,aj<|mV Z (cp Z Z Z) (ef (oD rk)<|oD rk)<|cx ⟨Z,U<|.sh<|.int (n:Int),?_⟩⟩;rw[iB E];rfl
 .rintro w _ ⟨rfl,c,rfl⟩
  rw[i5,UV];exact aj<|jy (dv<|cp Z Z gt_int) (by simp;lia)<|aO<|cx ⟨Z,Z⟩
structure u8 (ba:LI) (B:a0b) (rs cs:a0a):Prop extends Nt0 rs cs where
 shp:ko rs.length cs.length ba
 rw1:ba.map VT=nI rs
 cl1:(tp cs.length ba).map VT=nI cs
 bok:vr rs.length cs.length B
 kp:Kp ba<|iO B
theorem lI{r c:Nat}{B:a0b}(h:ko r c B):ko r c (iO B):=h.map
theorem vr.bnd{r c:Nat}{B:a0b}(h:vr r c B):A_ r c (iO B):=⟨lI h.1,λa e p f=>by
 obtain⟨b,g,rfl⟩:=T7.mp e;obtain⟨d,i,rfl⟩:=T7.mp f;have:=h.2 b g d i;exact⟨rk,rk,rk⟩⟩
theorem u8.nt{ba:LI}{B:a0b}(h:u8 ba B rs cs):lq K a rs cs (wB B cs) (j1 B):=⟨h.toNt0,BR B cs,λ{β k r} b c e=>O0 c (by rw[e];exact h.bok) (by rw[<-h.sm];exact h.nr.2.2.1) b⟩
theorem u8.fit{w:LI}{B:a0b}(h:u8 w B rs cs):(gB K a).1 [nL rs,nL cs,j1 B] β=U (.ok .non,β):=by
 have b:=h.nr.2.1;have D:=h.c6;refine Ru (lI h.bok.1) (TX _) (TX _) rk (by omega) λX c=>?_;rw[<-h.rw1,<-h.cl1];exact NO h.shp (lI h.bok.1) h.kp X c
abbrev nFs(B:a0b)(rs cs:a0a):a0c:=[nL rs,nL cs,j1 B,rV (wB B cs) rs cs.length]
abbrev o9(a:Ad)(B:a0b)(rs cs:a0a):D:= .obj a.Ae ["row_list","column_list","pairs","counted"]<|nFs B rs cs
theorem SO{w:LI}{B:a0b}{d:D}(h:u8 w B rs cs)(E:∀{β:Bg},(dH K a).1 [d,.int (rs.length:Int),.int (cs.length:Int)] β=U (.ok<|j1 B,β)):tH K a [nL rs,nL cs,d] β=U (.ok<|nFs B rs cs,β):=yw λx=>by
 have b:(eD K a).1 [nL rs,nL cs,d] β=U (.ok<|j1 B,β):=by
  unfold eD
  exact aC<|g0 (am Z<|AZ h.toNt0)<|aD (am (aa Z<|aa (ah Z<|rN rs)<|aa (ah Z<|rN cs) Z) E)<|g0 (am Z<|NI h.nr)<|aj<|aB Z ⟨Z,Z⟩
 unfold yu;refine pE (qA<|aj<|aD (am Z b)<|cx ⟨Z,Z⟩) Z Z<|pE (qA<|aj<|g0 (am Z h.fit)<|cx ⟨Z,Z⟩) Z Z ?_;exact ii (ah Z Z)<|ii (ah Z Z)<|ii Z<|ii (am Z<|EM h.nt) Z
theorem RW{f:FD}{g:FL}{a:Dn}{b:Bool}{w:a0F}{E:a0c}{k z d:D}{y:eg}(c:f a β=U (.ok<|.dct b w E,β))(e:g a β=U (.ok [k,z],β))(h:fM b k=U y)(i:lK w E y=U d):Mi f g a β=U (.ok d,β):=by
 unfold Mi;rw[M.bind_ok c];simp only;rw[M.bind_ok e];simp only[h,i,VP,Option.getD_some,M.ofO]
theorem O1:∀(y x:Nat) (β:Bg),bY (fB<|f2 (B_) (ac 1)<|fC<|.int 0) (yA 0 1<|ae (ac 1)<|ae (f2 x5 (ac 0)<|ac 1)<|ax) (y+1) [U<|.sh<|.int x,U<|.sh<|.int y] β=U (.nx [U<|.sh<|.int (YF x y:Nat),U<|.sh<|.int 0],β):=by
 intro y
 induction y using Nat.strongRecOn with
 |ind y ih=>
  intro x β;by_cases w:y=0
  .subst w
   unfold bY;simp only[aM,eS,yA,ac,fC,f2,ax,ae,fB,M.bind,M.ret,M.ofO,vw,hL,ll,Ul,Wc,List.set_cons_zero,List.set_cons_succ,List.getD_cons_zero,List.getD_cons_succ,Ur,W6,List.replicate_zero,VF,UQ,Wh,VY,Xe,Nat.reduceSub,Nat.reduceAdd,Int.reduceLT,Ny,Mn,asB,VP,Wf,Vm,Vc,reduceIte,decide_true,Zw,Uz,Int.natCast_zero,Int.lt_irrefl,Nat.gcd_zero_right]
  .have b:(0:Int)<(y:Int):=by lia
   have D:(x:Int) % (y:Int)=((x % y:Nat):Int):=by simp
   have a:=lE (ih (x % y) (YX _ rk) y β) (show x % y+1<=y from YX _ rk);have c:YF y (x % y)=YF x y:=by rw[Nat.gcd_comm x y,Nat.gcd_rec y x,Nat.gcd_comm]
   rw[c]at a;unfold bY;simp only[aM,eS,yA,ac,fC,f2,ax,ae,fB,M.bind,M.ret,M.ofO,vw,hL,ll,Ul,Wc,List.set_cons_zero,List.set_cons_succ,List.getD_cons_zero,List.getD_cons_succ,Ur,W6,List.replicate_zero,VF,UQ,Wh,VY,Xe,Nat.reduceSub,Nat.reduceAdd,Int.reduceLT,Ny,Mn,asB,VP,Wf,Vm,Vc,reduceIte,decide_true,Zw,Uz,b,D,a]
theorem IX:∀(y x:Nat) (c:a0D) (β:Bg),∃b,bY (fB<|f2 (B_) (ac 1)<|fC<|.int 0) (aM (dm 2<|f2 x5 (ac 0)<|ac 1)<|aM (dm 0<|ac 1)<|dm 1<|ac 2) (y+1) [U<|.sh<|.int x,U<|.sh<|.int y,c] β=U (.nx [U<|.sh<|.int (YF x y:Nat),U<|.sh<|.int 0,b],β):=by
 intro y
 induction y using Nat.strongRecOn with
 |ind y ih=>
  intro x c β;by_cases w:y=0
  .subst w
   refine⟨c,?_⟩;unfold bY;simp only[ac,fC,f2,fB,M.bind,M.ret,M.ofO,vw,hL,Ul,Wc,List.getD_cons_zero,List.getD_cons_succ,Mn,asB,Int.natCast_zero,Int.lt_irrefl,Zw,Nat.gcd_zero_right]
  .have e:(0:Int)<(y:Int):=by lia
   have D:(x:Int) % (y:Int)=((x % y:Nat):Int):=by simp
   obtain⟨b,a⟩:=ih (x % y) (YX _ rk) y (U<|.sh<|.int ((x % y:Nat):Int)) β;have a:=lE a (show x % y+1<=y from YX _ rk);have f:YF y (x % y)=YF x y:=by rw[Nat.gcd_comm x y,Nat.gcd_rec y x,Nat.gcd_comm]
   rw[f]at a;refine⟨b,?_⟩;unfold bY;have g:fB (f2 (B_) (ac 1)<|fC<|.int 0) (hL [U<|.sh<|.int x,U<|.sh<|.int y,c]) β=U (.ok O,β):=dv (cp Z Z<|by rw[Pu.gt_int,Ux e]);have h:aM (dm 2<|f2 x5 (ac 0)<|ac 1) (aM (dm 0<|ac 1)<|dm 1<|ac 2) [U<|.sh<|.int x,U<|.sh<|.int y,c] β=U (.nx [U<|.sh<|.int (y:Int),U<|.sh<|.int ((x % y:Nat):Int),U<|.sh<|.int ((x % y:Nat):Int)],β):=qA<|aD (d:= .int ((x % y:Nat):Int)) (β1:=β) (cp Z Z (by show(if decide ((0:Int)<(y:Int))=O then _ else _)=_;rw[Ux e,Uf Z,D]))<|aD (d:= .int (y:Int)) (β1:=β) Z<|aj<|aD (d:= .int ((x % y:Nat):Int)) (β1:=β) Z<|cx ⟨Z,Z⟩;simp only[g,h,a]
theorem wP{l:a0a}(h:∀n∈l,1<=n/\n<=2^11)(b:l.length<=24):1<=pb l/\pb l<2^1000:=⟨(JB h).1,bW (JB h).2 rk⟩
theorem tM{t n:Nat}(b:1<=t)(c:t<2^1000):0<YF t n/\YF t n<2^1000:=⟨Nat.gcd_pos_of_pos_left _ b,VC (Nat.gcd_le_left _ b) c⟩
theorem QO{w:a0a}(h:∀n∈w,1<=n/\n<=2^11)(j:w.length<=24):(eF K a).1 [nL w] β=U (.ok<|.int ((pb w:Nat):Int),β):=by
 unfold eF
 apply aC;refine aD Z<|bn Z (λi E b=>β=b/\∃c,E=[U<|.sh<|nL w,U<|.sh<|.int ((pb (w.take i):Nat):Int),c]) ⟨Z,Y,Z⟩ ?_ ?_
 .rintro i d E _ hd ⟨rfl,c,rfl⟩
  obtain⟨n,G,rfl⟩:=ig hd;obtain⟨k,g⟩:=h n<|Uo G;obtain⟨f,e⟩:=wP (l:=w.take i) (λx M=>h x<|Wl M) (by rw[Ve];lia);refine⟨_,Z,aj<|aD (cp (cp Z Z<|ef e<|oD g) (am Z<|(by
   unfold hZ
   exact aC<|dM (JX<|O1 n _ _)<|aj<|aB Z ⟨Z,Z⟩))<|ua (tM f e).1 (tM f e).2)<|cx ⟨Z,U<|.sh<|.int (n:Int),?_⟩⟩;rw[l3 G,AA];rfl
 .rintro E _ ⟨rfl,c,rfl⟩
  rw[i5,UV];exact aj<|aB Z ⟨Z,Z⟩
def iw(x:Nat)(ys:a0a):a0a:=(ys.filter λy=>decide (0<x*y)).map λy=>x*y
def ck(xs ys:a0a):a0a:=xs.flatMap λx=>iw x ys
theorem x3{x y:Nat}(a:x<=40)(w:y<=40):x*y<=1600:=YH a w
theorem zG{x:Nat}{ys:a0a}(a:x<=40)(w:∀y∈ys,y<=40):∀n∈iw x ys,1<=n/\n<=2^11:=λn D=>by
 obtain⟨y,b,rfl⟩:=T7.mp D;have:=(VS.mp b).2;have:=x3 a<|w y (VS.mp b).1;lia
theorem xJ{x:Nat}{ys:a0a}:(iw x ys).length<=ys.length:=by unfold iw;rw[TX];exact XH _ _
theorem nc{xs ys:a0a}(a:∀x∈xs,x<=40)(w:∀y∈ys,y<=40):∀n∈ck xs ys,1<=n/\n<=2^11:=λn D=>by
 obtain⟨x,b,c⟩:=Vk.mp D;exact zG (a x b) w n c
theorem k9{xs ys:a0a}(a:ys.length<=6):(ck xs ys).length<=xs.length*6:=by
 unfold ck
 induction xs with
 |nil=>simp
 |cons x xs w=>
  rw[U9,Uv,Ur];have:=xJ (x:=x) (ys:=ys);lia
structure Ok2 (xs ys:a0a):Prop where
 lx:xs.length<=4
 ly:ys.length<=6
 hx:∀x∈xs,x<=40
 hy:∀y∈ys,y<=40
theorem Lk{xs ys:a0a}(o:Ok2 xs ys){i j x:Nat}(a:x<=40)(d:i<=3):(∀n∈ck (xs.take i) ys++iw x (ys.take j),1<=n/\n<=2^11)/\(ck (xs.take i) ys++iw x (ys.take j)).length<=24:=by
 refine⟨λn w=>?_,?_⟩
 .obtain h|h:=Vr.mp w
  .exact nc (λx a=>o.hx x<|Wl a) o.hy n h
  .exact zG a (λy D=>o.hy y<|Wl D) n h
 .rw[Uv]
  have b:=k9 (xs:=xs.take i) o.ly;have c:=xJ (x:=x) (ys:=ys.take j);rw[Ve]at b c;have:=o.ly;omega
theorem LU{E w:a0a}(o:Ok2 E w):(rH K a).1 [nL E,nL w] β=U (.ok<|.int ((pb (ck E w):Nat):Int),β):=by
 have S:=o.lx;unfold rH
 apply aC;refine aD Z<|bn Z (λi G g=>β=g/\∃k e b,G=[U<|.sh<|nL E,U<|.sh<|nL w,U<|.sh<|.int ((pb (ck (E.take i) w):Nat):Int),k,e,b]) ⟨Z,Y,Y,Y,Z⟩ ?_ ?_
 .rintro i d G _ hd ⟨rfl,k,e,b,rfl⟩
  obtain⟨x,M,rfl⟩:=ig hd;have f:=o.hx x<|Uo M;have v:=(Ui.mp M).1;refine⟨[U<|.sh<|nL E,U<|.sh<|nL w,U<|.sh<|.int _,U<|.sh<|.int _,e,b],Z,aj (bn Z (λj G g=>β=g/\∃e b,G=[U<|.sh<|nL E,U<|.sh<|nL w,U<|.sh<|.int ((pb (ck _ w++iw x (w.take j)):Nat):Int),U<|.sh<|.int _,e,b]) ⟨Z,e,b,by show _=[_,_,U<|Sl.sh<|D.int ((pb (ck _ w++[]):Nat):Int),_,_,_];rw[UQ]⟩ ?_ ?_)⟩
  .rintro j d G _ hd ⟨rfl,e,b,rfl⟩
   obtain⟨y,P,rfl⟩:=ig hd;have h:=o.hy y<|Uo P;have p:=x3 f h;obtain⟨r,t⟩:=Lk o (i:=i) f rk;obtain⟨m,l⟩:=wP r t;have n:∀(q:Bool),decide (0<x*y)=q->ck (E.take i) w++iw x (w.take<|j+1)=(ck (E.take i) w++iw x (w.take j))++if q=O then[x*y]else[]:=λq u=>by
    unfold iw;rw[l3 P,List.filter_append,UK,Vi];cases q<;>simp[u]
   refine⟨[U<|.sh<|nL E,U<|.sh<|nL w,U<|.sh<|.int _,U<|.sh<|.int _,U<|.sh<|.int _,b],Z,aD (cp Z Z<|ef (oD rk)<|oD rk)<|aj<|lL (c:=decide (0<x*y)) (dv<|cp Z Z<|gt_int.trans<|by congr 2;rw[YL];omega) ?_⟩;cases q:decide (0<x*y)with
   |true=>
    rw[Uf Z,n O q];refine aD (cp (cp Z Z<|ef l<|oD rk) (am Z<|(by
     obtain⟨x00,x01⟩:=IX (x*y) _ Y _;unfold uJ
     exact aC<|dM (JX x01)<|aj<|aB Z ⟨Z,Z⟩))<|ua (tM m l).1 (tM m l).2)<|cx ⟨Z,U<|.sh<|.int (y:Int),U<|.sh<|.int ((x*y:Nat):Int),?_⟩;rw[Uf Z,AA];rfl
   |false=>
    rw[Uh Uk,n T4 q];refine aO<|cx ⟨Z,U<|.sh<|.int (y:Int),U<|.sh<|.int ((x*y:Nat):Int),?_⟩;rw[Uh Uk,UQ];rfl
  .rintro G _ ⟨rfl,e,b,rfl⟩
   rw[i5,UV];refine cx ⟨Z,U<|.sh<|.int (x:Int),e,b,?_⟩;have:ck (E.take<|i+1) w=ck (E.take i) w++iw x w:=by
    unfold ck;rw[l3 M,V0];simp
   rw[this]
 .rintro G _ ⟨rfl,k,e,b,rfl⟩
  rw[i5,UV];exact aj<|aB Z ⟨Z,Z⟩
abbrev KX(l xs:a0a)(y:Nat):a0h:=l.zip<|xs.map λx=>x*y
def sqF(e:Nat)(z:Nat×Nat):Nat:=if 0<z.2 then z.1*z.1*e/z.2 else 0
def offF(T:Nat)(z:Nat×Nat):Nat:=(((z.1*T:Nat):Int)-(z.2:Int)).natAbs
def sqN(e:Nat)(l xs:a0a)(y:Nat):Nat:=((KX l xs y).map<|sqF e).sum
def offN(T:Nat)(l xs:a0a)(y:Nat):Nat:=((KX l xs y).map<|offF T).sum
theorem BL{l a:a0a}{y:Nat}{z:Nat×Nat}(d:l.sum<=40)(w:∀x∈a,x<=40)(D:y<=40)(h:z∈KX l a y):z.1<=40/\z.2<=1600:=by
 have c:=W7 h;obtain⟨x,b,e⟩:=T7.mp c.2;exact⟨Um (db c.1) d,by rw[<-e];exact x3 (w x b) D⟩
theorem Px{e:Nat}{n p:Nat}(d:e<2^1000)(a:n<=40)(l:p<=1600)(b:0<p){f g h:FD}{δ:Dn}(c:f δ β=U (.ok<|.int (n:Int),β))(i:g δ β=U (.ok<|.int (e:Int),β))(j:h δ β=U (.ok<|.int (p:Int),β)):
  f2 nV (f2 dy (f2 dy f f) g) h δ β=U (.ok<|.int ((sqF e (n,p):Nat):Int),β):=by
 have k:=x3 a a;unfold sqF;rw[Uf b];exact cp (cp (cp c c<|ef (oD rk)<|oD rk) i<|ef (oD rk) d) j (ua b<|oD rk)
theorem NB{T n p:Nat}(e:T<=40)(a:n<=40){f g h:FD}{δ:Dn}(b:f δ β=U (.ok<|.int (n:Int),β))(c:g δ β=U (.ok<|.int (T:Int),β))(d:h δ β=U (.ok<|.int (p:Int),β)):
  aR vd (ae (f2 xl (f2 dy f g) h) ax) δ β=U (.ok<|.int ((offF T (n,p):Nat):Int),β):=by
 refine ah (aa (cp (cp b c<|ef (oD rk)<|oD rk) d Z) Z) ?_;show U _=U (D.int (((((n*T:Nat):Int)-(p:Int)).natAbs:Nat):Int));by_cases q:((n*T:Nat):Int)-(p:Int)<0
 .rw[Uf q];grind
 .rw[Uh q];lia
theorem BM{l m:a0a}{a:D}(w:Sq l a){f g:FD}{δ:Dn}(b:f δ β=U (.ok a,β))(c:g δ β=U (.ok<|nL m,β)):nz (ae f<|ae g ax) δ β=U (.ok<|(l.zip m).map λz=>D.tup [.int (z.1:Int),.int (z.2:Int)],β):=by
 have h:nz (ae f<|ae g ax) δ β=U (.ok<|d8 ((nI l).map D.int)<|(nI m).map D.int,β):=by
  obtain rfl|rfl:=w
  .exact bF (aa b<|aa c Z) Z
  .exact bF (aa b<|aa c Z) Z
 rw[h,Ub,Ub];exact U6 (λz=>U (Vw z,β))<|iq ..
theorem yE{a:Type}{p:a->Bool}{g:a->Nat}:∀l:List a,((l.filter p).map g).sum=(l.map λx=>if p x=O then g x else 0).sum
 |[]=>rfl
 |x::l=>by
  rw[X6,Ul,UI,<-yE l];by_cases q:p x=O
  .rw[Uf q,Uf q,Ul,UI]
  .rw[Uh q,Uh q,V4]
theorem xZ{a:Type}(g:a->Nat)(l:List a):D.lst (l.map λx=>D.int ((g x:Nat):Int))=nL (l.map g):=by
 show _=D.lst _;rw[Ub,Ub];rfl
theorem EZ{l a:a0a}{y:Nat}(h:l.length<=1000):(KX l a y).length<=1000:=by grind
theorem GH{e:Nat}{l xs:a0a}{y:Nat}{w:D}(M:Sq l w)(b:l.sum<=40)(h:l.length<=4)(E:∀x∈xs,x<=40)(G:y<=40)(g:e<2^1000):(jk K a).1 [w,nL<|xs.map λx=>x*y,.int (e:Int)] β=U (.ok<|.int ((sqN e l xs y:Nat):Int),β):=by
 unfold jk
 dsimp only
 refine aC ?_;have c:=gb (nv:=2) (b4:=[2]) (it:=nz<|ae (ac 0)<|ae (ac 1)<|ax) (tg:=O_<|fc (g_ 0)<|fc (g_ 1) jL) (tt:=fB<|f2 (B_) (ac 1)<|fC<|.int 0) (f:=f2 nV (f2 dy (f2 dy (ac 0)<|ac 0)<|ac 2)<|ac 1) (δ:=[U w,U<|nL<|xs.map λx=>x*y,U<|.int (e:Int)]) (β:=β) (KX l xs y) (λz=>D.tup [.int (z.1:Int),.int (z.2:Int)]) (λz=>D.int ((sqF e z:Nat):Int)) (λz=>decide (0<z.2)) (BM M Z Z)
  (λz d=>⟨[U<|.int (z.1:Int),U<|.int (z.2:Int),U<|.int (e:Int)],Z,dv (cp Z Z<|gt_int.trans<|by congr 2;simp only[YL];lia),λq=>Px g (BL b E G d).1 (BL b E G d).2 (WE q) Z Z Z⟩) (bf<|EZ rk)
 rw[xZ]at c;refine aj<|aB (ah (aa c Z)<|ie _) ⟨Z,?_⟩;rw[yE];unfold sqN;congr 4;refine UH λz _=>?_;unfold sqF;by_cases q:0<z.2
 .simp[q]
 .simp[q]
theorem Op{T:Nat}{l xs:a0a}{y:Nat}{w:D}(E:Sq l w)(b:l.sum<=40)(g:l.length<=4)(G:∀x∈xs,x<=40)(M:y<=40)(d:T<=40):(m4 K a).1 [w,nL<|xs.map λx=>x*y,.int (T:Int)] β=U (.ok<|.int ((offN T l xs y:Nat):Int),β):=by
 unfold m4
 apply aC;have c:=bv (nv:=2) (b4:=[2]) (it:=nz<|ae (ac 0)<|ae (ac 1)<|ax) (tg:=O_<|fc (g_ 0)<|fc (g_ 1) jL) (f:=aR vd<|ae (f2 xl (f2 dy (ac 0)<|ac 2)<|ac 1)<|ax) (δ:=[U w,U<|nL<|xs.map λx=>x*y,U<|.int _]) (β:=β) _ _ _ (BM E Z Z)
  (λz e=>⟨[U<|.int _,U<|.int _,U<|.int _],Z,NB d (BL b G M e).1 Z Z Z⟩) (bf<|EZ rk)
 rw[xZ]at c;exact aj<|aB (ah (aa c Z)<|ie _) ⟨Z,Z⟩
noncomputable abbrev RS(f:a0O)(n:Nat):Nat:=((Ue n).map f).sum
abbrev RP(f:a0O)(n:Nat):Nat:=pr<|(Ue n).map f
theorem jI{a:Type}{l:List a}{i:Nat}{x d:a}(h:l[i]?=U x):l.getD i d=x:=by rw[T6,h];rfl
theorem tQ{l:a0a}{i n:Nat}(h:l[i]?=U n):gs (nL l) (.int (i:Int))=U (.int (n:Int)):=cw (by rw[T9,T9,h];rfl)
theorem uj{a:Type}{l:List a}{i:Nat}(h:i<l.length):∃x,l[i]?=U x:=⟨_,Ua h⟩
inductive Kd where|rare|square|power|off|most|least
def Kd.nm:Kd->U3
 | .rare=>Uy "rare"| .square=>Uy "square"| .power=>Uy "power"| .off=>Uy "off"| .most=>Uy "most"| .least=>Uy "least"
def Kd.isP:Kd->Bool
 | .rare=>O| .power=>O|_=>T4
def Kd.less:Kd->Bool
 | .rare=>O| .least=>O|_=>T4
def Kd.pl:Kd->Bool
 | .most=>O| .least=>O|_=>T4
def k4(k:Kd)(xs a:a0a)(p q j:Nat)(l:a0a):Nat:=match k with
 | .rare=>t7 l| .power=>pwN l| .square=>sqN (pb<|ck xs a) l xs (a.getD j 0)| .off=>offN xs.sum l xs (a.getD j 0)|_=>if j=q then l.getD p 0 else 0
def hW(k:Kd)(t n:Nat):Nat:=if k.isP=O then t*n else t+n
def BX(k:Kd)(f:a0O)(n:Nat):Nat:=if k.isP=O then RP f n else RS f n
theorem HH{cs:a0p}(h:∀l∈cs,l.sum<=40):pr (cs.map pwN)<=2^(6*(cs.map VT).sum):=by
 induction cs with
 |nil=>decide
 |cons l cs w=>
  show pwN l*pr _<=_;rw[Ul,UI,Nat.mul_add,Nat.pow_add];exact YH (M6 λx a=>Um (db a)<|h l Ud)<|w λx a=>h x<|T3 _ a
theorem kEq(k:Kd):dJ (.str k.nm) (.str<|Uy "rare")=U (.bl (match k with| .rare=>O|_=>T4))/\dJ (.str k.nm) (.str<|Uy "square")=U (.bl (match k with| .square=>O|_=>T4))/\dJ (.str k.nm) (.str<|Uy "off")=U (.bl (match k with| .off=>O|_=>T4))/\dJ (.str k.nm) (.str<|Uy "power")=U (.bl (match k with| .power=>O|_=>T4))/\ic (.str k.nm) (.str<|Uy "power")=U (.bl (match k with| .power=>T4|_=>O)):=by
 cases k<;>exact⟨mh,mh,mh,mh,mh⟩
theorem kIn(k:Kd):y3 T4 (.str k.nm) (.tup [.str<|Uy "rare",.str<|Uy "power"])=U (.bl k.isP)/\y3 T4 (.str k.nm) (.tup [.str<|Uy "rare",.str<|Uy "least"])=U (.bl k.less)/\y3 T4 (.str k.nm) (.tup [.str<|Uy "most",.str<|Uy "least"])=U (.bl k.pl)/\y3 O (.str k.nm) (.tup [.str<|Uy "rare",.str<|Uy "square",.str<|Uy "power",.str<|Uy "off",.str<|Uy "most",.str<|Uy "least"])=U (.bl T4):=by
 cases k<;>exact⟨mh,mh,mh,mh⟩
theorem Os{E:Type}{S:FL}{G:ni}{K:a0s}{f:FD}{w:Dn}(xs:List E)(u v:E->D)(c:E->Bool)(i:S w β=U (.ok<|xs.map u,β))
  (j:∀x∈xs,∃a,G (u x) w=U a/\K a β=U (.ok<|c x,β)/\f a β=U (.ok<|v x,β)):L_ S G K (j_ f) w β=U (.ok<|(xs.filter c).map v,β):=by
 have P:∀xs:List E,(∀x∈xs,∃a,G (u x) w=U a/\K a β=U (.ok<|c x,β)/\f a β=U (.ok<|v x,β))->ot G K (j_ f) (xs.map u) w β=U (.ok<|(xs.filter c).map v,β):=by
  intro xs
  induction xs with
  |nil=>intro _;rfl
  |cons x xs V=>
   intro h;obtain⟨a,d,b,e⟩:=h x Ud;have g:=V λy k=>h y<|T3 _ k;rw[Ul,ot];cases q:c x with
   |true=>
    rw[q]at b;simp only[d,b,M.bind,M.ret,reduceIte,j_,e,g,X6,q,Ul,Wh,VY]
   |false=>
    rw[q]at b;simp only[d,b,M.bind,M.ret,reduceIte,g,X6,q,Uz,VY]
 unfold L_;rw[M.bind_ok i];exact P xs j
abbrev mNs:a0i:=["kind","row_list","column_list","place","even"]
abbrev mFs(k:Kd)(a w:a0a)(p q:Nat):a0c:=[.str k.nm,nL a,nL w,.tup [.int (p:Int),.int (q:Int)],.int ((pb (ck a w):Nat):Int)]
theorem Rx{xs w:a0a}(o:Ok2 xs w){E:Dn}(c:E.getD 2 Y=U (nL xs))(d:E.getD 3 Y=U (nL w)):bN (eF K a).1 (ae (cE 2 [3] (c5<|ac 2) (g_ 0) (λ_=>M.ret O)<|L_ (c5<|ac 2) (g_ 1) (fB<|f2 (B_) (f2 dy (ac 0)<|ac 1)<|fC<|.int 0)<|j_<|f2 dy (ac 0)<|ac 1)<|ax) E β=U (.ok<|.int ((pb (ck xs w):Nat):Int),β):=by
 have b:lg 2 [3] E=[Y,Y,U<|nL w]:=by
  unfold lg;simp only[Ul,Wc,d];rfl
 have mu:∀x∈xs,∀y∈w,dy (.int (x:Int)) (.int (y:Int))=U (.int ((x*y:Nat):Int)):=λx G y P=>ef (oD (by have:=o.hx x G;lia))<|oD (by have:=o.hy y P;lia);have e:cE 2 [3] (c5<|ac 2) (g_ 0) (λ_=>M.ret O) (L_ (c5<|ac 2) (g_ 1) (fB<|f2 (B_) (f2 dy (ac 0)<|ac 1)<|fC<|.int 0)<|j_<|f2 dy (ac 0)<|ac 1) E β=U (.ok<|.lst<|xs.flatMap λx=>(w.filter λy=>decide (0<x*y)).map λy=>D.int ((x*y:Nat):Int),β):=by
  refine BA (nv:=2) (b4:=[3]) xs (λx=>D.int (x:Int)) _ (bG (pZ c) (by show U _=_;rw[Ub];rfl)) (λx G=>⟨[U<|.int (x:Int),Y,U<|nL w],by rw[b];rfl,Os w (λy=>D.int (y:Int)) _ _ (by show U (Vw<|(nI w).map D.int,β)=_;rw[Ub];rfl) (λy P=>⟨[U<|.int (x:Int),U<|.int (y:Int),U<|nL w],Z,dv (cp (cp Z Z<|mu x G y P) Z<|gt_int.trans<|by congr 2;simp only[YL];lia),cp Z Z<|mu x G y P⟩)⟩)<|bf ?_;have:=Ke (f:=λx:Nat=>(w.filter λy=>decide (0<x*y)).map λy=>D.int ((x*y:Nat):Int)) (n:=6) (l:=xs) λx _=>by
   rw[TX];have:=XH (λy=>decide (0<x*y)) w;have:=o.ly;lia
  have:=o.lx;lia
 have g:D.lst (xs.flatMap λx=>(w.filter λy=>decide (0<x*y)).map λy=>D.int ((x*y:Nat):Int))=nL (ck xs w):=by
  show _=D.lst (((ck xs w).map _).map _);unfold ck iw;rw[Ub,VM];congr 2;funext x;rw[Ub];rfl
 rw[g]at e;exact am (aa e Z)<|QO (nc o.hx o.hy) (by have:=k9 (xs:=xs) o.ly;have:=o.lx;lia)
theorem thI{i:Int}{m:Nat}(h:0<=i/\i<(m:Int)):(fE K a).1 [.int i,.int (m:Int)] β=U (.ok .non,β):=by
 obtain⟨i,rfl⟩:∃n:Nat,i=(n:Int):=⟨i.toNat,rk⟩;exact (by
  unfold fE
  exact aC<|aj<|jy (p9<|dv<|FG Z Z Z) (by simp;lia)<|aO<|cx ⟨Z,Z⟩)
theorem Oy{w D:a0a}{p q:Nat}(o:Ok2 w D)(G:Nt0 w D)(h:p<w.length)(i:q<D.length)(k:Kd):nA K a [.str k.nm,nL w,nL D,.tup [.int (p:Int),.int (q:Int)]] β=U (.ok<|mFs k w D p q,β):=by
 have M:=o.lx;obtain⟨r,t,j,l⟩:=kIn k;have m:=AZ (K:=K) (a:=a) (β:=β) G
 let b:T8->Ds:=λx=>[U<|.sh<|.adr x,U<|.sh<|.str k.nm,U<|.sh<|nL w,U<|.sh<|nL D,U<|.sh<|.tup [.int (p:Int),.int (q:Int)]]
 have g:∀{n:Nat} {f:a0a} {E:Dn},E.getD n Y=U (nL f)->aR fA (ae _ ax) E β=U _:=λ{n f E} e=>ah (aa (pZ e) Z) (da<|by rw[TX,TX]);refine yw λx=>pE (qA<|aj<|g0 (am Z m)<|cx ⟨Z,Z⟩) Z Z<|pE (qA<|aj<|bj (dv<|cp Z Z l)<|aO<|cx ⟨Z,Z⟩) Z Z<|pE (δ1:=b x) (qA<|aj<|lL (dv<|cp Z Z j) ?_) Z Z ?_
 .cases k.pl with
  |true=>exact g0 (am (aa (cp Z Z lT)<|aa (cp Z Z nG)<|aa (g Z)<|aa (g Z) Z)<|(by
   unfold h9
   apply aC;exact g0 (am Z<|thI rk)<|aj<|g0 (am Z<|thI rk)<|cx ⟨Z,Z⟩))<|cx ⟨Z,Z⟩
  |false=>exact aO<|cx ⟨Z,Z⟩
 .exact ii Z (ii Z<|ii Z<|ii Z<|ii (Rx o Z Z) Z)
abbrev mD(a:Ad)(k:Kd)(xs ys:a0a)(p q:Nat):D:= .obj a.Af mNs<|mFs k xs ys p q
theorem Mz{xs ys:a0a}{p q:Nat}(k:Kd):(fS K a).1 [mD a k xs ys p q] β=U (.ok<|.int ((BX k (λ_=>0) 0:Nat):Int),β):=by
 obtain⟨b,c,d,e⟩:=kIn k;unfold fS
 apply aC;unfold  BX;cases h:k.isP with
 |true=>exact aj<|aB (wx (dv<|cp (bx Z Z) Z<|by rw[b,h]) Z) ⟨Z,Z⟩
 |false=>exact aj<|aB (wy (dv<|cp (bx Z Z) Z<|by rw[b,h]) Z) ⟨Z,Z⟩
theorem qP{xs ys:a0a}{p q t n:Nat}(k:Kd)(b:k.isP=O->t<2^1000/\n<2^1000):(d6 K a).1 [mD a k xs ys p q,.int (t:Int),.int (n:Int)] β=U (.ok<|.int ((hW k t n:Nat):Int),β):=by
 obtain⟨c,d,e,f⟩:=kIn k;unfold d6
 apply aC;unfold  hW;cases h:k.isP with
 |true=>exact aj<|aB (wx (dv<|cp (bx Z Z) Z<|by rw[c,h])<|cp Z Z<|ef (b h).1 (b h).2) ⟨Z,Z⟩
 |false=>exact aj<|aB (wy (dv<|cp (bx Z Z) Z<|by rw[c,h])<|cp Z Z y6) ⟨Z,Z⟩
structure Cl1 (r c:Nat) (xs ys:a0a):Prop where
 ok:Ok2 xs ys
 lx:xs.length=r
 ly:ys.length=c
 tx:xs.sum<=40
theorem Oi{r c p q j:Nat}{xs ys l:a0a}{S:D}(C:Cl1 r c xs ys)(P:Sq l S)(B:j<c)(b:l.sum<=40)(u:l.length=r)(F:p<r)(k:Kd):(iA K a).1 [mD a k xs ys p q,.int (j:Int),S] β=U (.ok<|.int ((k4 k xs ys p q j l:Nat):Int),β):=by
 obtain⟨f,v,I,g,J⟩:=kEq k;obtain⟨L,N,m,R⟩:=kIn k;obtain⟨y,V⟩:=uj (l:=ys) (i:=j) (by rw[C.ly];exact B);have e:=C.ok.hy y<|Uo V;have A:l.length<=4:=by rw[u];have:=C.ok.lx;have:=C.lx;lia
 have H:=wP (nc C.ok.hx C.ok.hy) (by have:=k9 (xs:=xs) C.ok.ly;have:=C.ok.lx;lia);have pc:cE 1 [0,1] (c5<|f1 (nR a.Af "row_list")<|ac 0) (g_ 0) (λ_=>M.ret O) (j_<|f2 dy (ac 0)<|f2 gs (f1 (nR a.Af "column_list")<|ac 1)<|ac 2) [U<|mD a k xs ys p q,U<|.int (j:Int),U S,Y] β=U (.ok<|nL<|xs.map λx=>x*y,β):=by
  rw[<-xZ];exact bv (nv:=1) (b4:=[0,1]) xs (λx=>D.int (x:Int)) _ (bG (bx Z Z) (by show U _=_;rw[Ub];rfl)) (λx Q=>⟨[U<|.int (x:Int),U<|mD a k xs ys p q,U<|.int (j:Int)],Z,cp Z (cp (bx Z Z) Z<|tQ V)<|ef (oD (by have:=C.ok.hx x Q;lia))<|oD rk⟩)<|bf (by have:=C.ok.lx;lia)
 have E:k.pl=O->k4 k xs ys p q j l=(if j=q then l.getD p 0 else 0):=λz=>by cases k<;>first|rfl|cases z
 unfold iA
 dsimp only
 refine aC ?_;have s:k.pl=O->∀{h:G},Gw (aM (eS<|fIf (fB<|f2 (dJ) (ac 1)<|f2 gs (f1 (nR a.Af "place")<|ac 0)<|fC<|.int 1) (f2 gs (ac 2)<|f2 gs (f1 (nR a.Af "place")<|ac 0)<|fC<|.int 0)<|fC<|.int 0) h) (ll 4 [mD a k xs ys p q,.int (j:Int),S]) β (λo t=>t=β/\(match o with| .rt d=>(Vw (D.int ((k4 k xs ys p q j l:Nat):Int)):Except T8 D)= .ok d| .nx _=>(Vw (D.int ((k4 k xs ys p q j l:Nat):Int)):Except T8 D)= .ok .non| .ex C _=>(Vw (D.int ((k4 k xs ys p q j l:Nat):Int)):Except T8 D)= .error C|_=>False)):=λz h=>by
  rw[E z];by_cases w:j=q
  .obtain⟨n,hn⟩:=uj (l:=l) (i:=p) (by rw[u];exact F)
   refine aB (wx (dv<|cp Z (cp (bx Z Z) Z nG)<|eq_int.trans<|by rw[Ux rk])<|cp Z (cp (bx Z Z) Z lT) ?_) ⟨Z,by rw[Uf w,jI hn]⟩;rcases P with rfl|rfl
   .exact tQ hn
   .exact tQ hn
  .exact aB (wy (dv<|cp Z (cp (bx Z Z) Z nG)<|eq_int.trans<|by rw[UX rk]) Z) ⟨Z,by rw[Uh w];rfl⟩
 cases k with
 |rare=>exact e8 (dv<|cp (bx Z Z) Z f)<|aB (am Z<|zg P b) ⟨Z,Z⟩
 |power=>exact bj (dv<|cp (bx Z Z) Z f)<|aO<|e8 (dv<|cp (bx Z Z) Z g)<|aB (am Z<|Ll P b) ⟨Z,Z⟩
 |most=>exact bj (dv<|cp (bx Z Z) Z f)<|aO<|bj (dv<|cp (bx Z Z) Z g)<|aO<|e8 (dv<|cp (bx Z Z) Z m)<|s Z
 |least=>exact bj (dv<|cp (bx Z Z) Z f)<|aO<|bj (dv<|cp (bx Z Z) Z g)<|aO<|e8 (dv<|cp (bx Z Z) Z m)<|s Z
 |square=>
  refine bj (dv<|cp (bx Z Z) Z f)<|aO<|bj (dv<|cp (bx Z Z) Z g)<|aO<|bj (dv<|cp (bx Z Z) Z m)<|aO ?_;refine aD (d:=nL<|xs.map λx=>x*y) (β1:=β) pc<|e8 (dv<|cp (bx Z Z) Z v)<|aB (am (aa Z<|aa Z<|aa (bx Z Z) Z)<|GH P b A C.ok.hx e H.2) ⟨Z,?_⟩;show Vw (D.int ((sqN _ l xs (ys.getD j 0):Nat):Int))=_;rw[jI V]
 |off=>
  refine bj (dv<|cp (bx Z Z) Z f)<|aO<|bj (dv<|cp (bx Z Z) Z g)<|aO<|bj (dv<|cp (bx Z Z) Z m)<|aO ?_;refine aD (d:=nL<|xs.map λx=>x*y) (β1:=β) pc<|bj (dv<|cp (bx Z Z) Z v)<|aO<|aj<|aB (am (aa Z<|aa Z<|aa (ah (aa (bx Z Z) Z)<|ie xs) Z)<|Op P b A C.ok.hx e C.tx) ⟨Z,?_⟩;show Vw (D.int ((offN _ l xs (ys.getD j 0):Nat):Int))=_;rw[jI V]
def lQ(k:Kd)(l:a0a):Nat:=if k.isP=O then pr l else l.sum
theorem Mp(k:Kd)(x:Nat)(l:a0a):lQ k (x::l)=hW k x (lQ k l):=by
 unfold lQ hW;split<;>rfl
theorem Mo(k:Kd)(x:Nat)(l:a0a):lQ k (l++[x])=hW k (lQ k l) x:=by
 unfold lQ hW;split
 .rw[xR];simp[pr]
 .simp
def wl(P:a0Q):Nat->a0p->a0a
 |_,[]=>[]
 |j,v::vs=>P j v::wl P (j+1) vs
theorem xO(P:a0Q)(v:a0a):∀(a:a0p) (j:Nat),wl P j (a++[v])=wl P j a++[P (j+a.length) v]
 |[],j=>rfl
 |u::a,j=>by
  show P j u::wl P _ (a++[v])=_;rw[xO P v a<|j+1,Ur,show j+1+a.length=j+(a.length+1) by lia];rfl
def ss(k:Kd)(P:a0Q)(W:Wy)(m j:Nat)(r:a0a):a0a:=(qk W (m-j) j r).map λa=>lQ k<|wl P j a
theorem KO(k:Kd)(P:a0Q)(W:Wy)(m:Nat)(r:a0a):ss k P W m m r=[lQ k []]:=by
 unfold ss;rw[Xe];rfl
theorem KN{k:Kd}{P:a0Q}{W:Wy}{m j:Nat}{r:a0a}(h:j<m):ss k P W m j r=(W j r).flatMap λv=>(ss k P W m (j+1)<|less r v).map (hW k<|P j v):=by
 obtain⟨d,e⟩:∃d,m-j=d+1:=⟨m-j-1,by grind⟩;have b:m-(j+1)=d:=by grind
 unfold ss;rw[e,b];show Vx _ ((W j r).flatMap λv=>(qk W d _<|less r v).map _)=_;rw[VM];congr 1;funext v;rw[Ub,Ub];exact UH λa _=>Mp ..
theorem FJ{k:Kd}{P:a0Q}{W:Wy}{m j:Nat}{r:a0a}:ss k P W m j r≠[]↔0<mm W (m-j) j r:=by
 unfold ss;rw[<-zK,List.length_pos_iff,ne_eq,Yh]
def ro(l:a0a):Nat:=(jr<|nI l).toNat
def rx(l:a0a):Nat:=(iK<|nI l).toNat
theorem M9{l:a0a}(h:l≠[]):nI l≠[]:=λz=>h<|Yh.mp z
theorem lB{l:a0a}(h:l≠[]):ro l∈l/\(∀x∈l,ro l<=x)/\jr (nI l)=((ro l:Nat):Int):=by
 obtain⟨n,w,e⟩:=T7.mp<|yc<|M9 h;have q:ro l=n:=by unfold ro;rw[<-e];rfl
 refine⟨q▸w,λx D=>?_,by rw[q];exact e.symm⟩;have:=z7 (ns:=nI l)<|T7.mpr ⟨x,D,Z⟩;rw[<-e]at this;rw[q];exact Int.ofNat_le.mp this
theorem lD{l:a0a}(h:l≠[]):rx l∈l/\(∀x∈l,x<=rx l)/\iK (nI l)=((rx l:Nat):Int):=by
 obtain⟨n,w,e⟩:=T7.mp<|vT<|M9 h;have q:rx l=n:=by unfold rx;rw[<-e];rfl
 refine⟨q▸w,λx D=>?_,by rw[q];exact e.symm⟩;have:=yz (ns:=nI l)<|T7.mpr ⟨x,D,Z⟩;rw[<-e]at this;rw[q];exact Int.ofNat_le.mp this
theorem BB(k:Kd)(x:Nat){y z:Nat}(h:y<=z):hW k x y<=hW k x z:=by
 unfold hW;split
 .exact Nat.mul_le_mul_left x h
 .exact Nat.add_le_add_left h x
theorem Kh{k:Kd}{P:a0Q}{W:Wy}{m j:Nat}{r:a0a}(h:j<m)(S:a0p)(d:∀v,v∈S↔v∈W j r/\ss k P W m (j+1) (less r v)≠[])(n:ss k P W m j r≠[]):
  ro (ss k P W m j r)=ro (S.map λv=>hW k (P j v)<|ro<|ss k P W m (j+1)<|less r v)/\rx (ss k P W m j r)=rx (S.map λv=>hW k (P j v)<|rx<|ss k P W m (j+1)<|less r v)/\S≠[]:=by
 have a:∀x,x∈ss k P W m j r↔∃v∈S,∃y∈ss k P W m _ (less r v),x=hW k (P j v) y:=λx=>by
  rw[KN h,Vk];constructor
  .rintro⟨v,c,f⟩
   obtain⟨y,g,rfl⟩:=T7.mp f;exact⟨v,(d v).mpr ⟨c,List.ne_nil_of_mem g⟩,y,g,Z⟩
  .rintro⟨v,c,y,g,rfl⟩
   exact⟨v,((d v).mp c).1,T7.mpr ⟨y,g,Z⟩⟩
 obtain⟨D,E,_⟩:=lB n;obtain⟨G,o,_⟩:=lD n;obtain⟨v1,c,A,p,q⟩:=(a _).mp D;obtain⟨v2,f,B,t,u⟩:=(a _).mp G;have w:=List.ne_nil_of_mem c;have l:(S.map λv=>hW k (P j v)<|rx<|ss k P W m (j+1)<|less r v)≠[]:=λz=>w<|Yh.mp z;obtain⟨K,M,_⟩:=lB (λz=>w<|Yh.mp z);obtain⟨V,s,_⟩:=lD l;refine⟨Nat.le_antisymm ?_ ?_,Nat.le_antisymm ?_ ?_,w⟩
 .obtain⟨v,b,e⟩:=T7.mp K
  rw[<-e];exact E _<|(a _).mpr ⟨v,b,_,(lB ((d v).mp b).2).1,Z⟩
 .rw[q]
  exact Um (M _<|T7.mpr ⟨v1,c,Z⟩)<|BB k _<|(lB ((d v1).mp c).2).2.1 _ p
 .rw[u]
  exact Um (BB k _<|(lD ((d v2).mp f).2).2.1 _ t)<|s _<|T7.mpr ⟨v2,f,Z⟩
 .obtain⟨v,b,e⟩:=T7.mp V
  rw[<-e];exact o _<|(a _).mpr ⟨v,b,_,(lD ((d v).mp b).2).1,Z⟩
variable{W:Wy}{i:D}
abbrev jp(a:Ad)(W:Wy)(i:D)(rs cs:a0a):D:= .obj a.Ae ["row_list","column_list","pairs","counted"] [nL rs,nL cs,i,rV W rs cs.length]
theorem OF{b c:a0F}{v1 v2:a0c}{y:eg}(h:b.length=v1.length):lK (b++c) (v1++v2) y=(lK b v1 y).or (lK c v2 y):=by
 unfold lK;rw[List.zip_append h,List.find?_append];cases(b.zip v1).find? λp=>decide (p.1=y)<;>rfl
theorem Nf{f:a0a->D}{u:a0a}{k:Int}:∀{L:a0p},u∈L->lK (L.map λr=>(k,nI r)) (L.map f) (k,nI u)=U (f u)
 |r::L,h=>by
  unfold lK;rw[Ul,Ul,VU,WI];by_cases q:r=u
  .rw[q,Ux Z];rfl
  .rw[UX λe=>q<|i6 (WS.mp e).2]
   exact Nf<|(Uq.mp h).resolve_left λe=>q e.symm
theorem IS{f:a0a->D}{y:eg}{k:Int}(h:k≠y.1):∀{L:a0p},lK (L.map λr=>(k,nI r)) (L.map f) y=Y
 |[]=>rfl
 |r::L=>by
  unfold lK at⊢;rw[Ul,Ul,VU,WI,UX λe=>h (WS.mp e).1];exact (IS (f:=f) h (L:=L))
theorem IU{m k:Nat}{u:a0a}(b:u∈fh W rs k):∀{L:a0a},k∈L->lK (L.flatMap λk=>(fh W rs k).map λr=>((k:Int),nI r)) (L.flatMap λk=>(fh W rs k).map<|cv W m k) ((k:Int),nI u)=U (cv W m k u)
 |j::L,h=>by
  rw[U9,U9,OF<|by rw[TX,TX]];by_cases q:j=k
  .subst q
   rw[Nf b];rfl
  .rw[IS (by show(j:Int)≠(k:Int);lia),Option.none_or]
   exact IU b<|(Uq.mp h).resolve_left λe=>q e.symm
theorem L1{k:Nat}{u:a0a}(c:k<=cs.length)(b:u∈fh W rs k):lK (kyW W rs<|cs.length+1) (EV W rs cs.length) ((k:Int),nI u)=U (cv W cs.length k u):=IU b (UD.mpr rk)
theorem RI{k:Nat}{u:a0a}(c:k<=cs.length)(d:u∈fh W rs k):(k7 K a).1 [jp a W i rs cs,.int (k:Int),tN u] β=U (.ok<|cv W cs.length k u,β):=
 aC (aj<|aB (RW (bx Z Z) (aa (ah Z bZ)<|aa (ah Z bZ) Z) (fJ (k:=((k:Int),nI u)) λe=>(by cases e))<|L1 c d) ⟨Z,Z⟩)
theorem lq.nx{k:Nat}{r v:a0a}(h:lq K a rs cs W i)(b:r∈fh W rs k)(c:v∈W k r):less r v∈fh W rs (k+1):=gX.mpr ⟨r,b,v,c,Z⟩
theorem MI{k:Nat}{r:a0a}(h:lq K a rs cs W i)(b:Ic r):(W k r).length<=500:=by
 have:=(h.ok k r).length_le;have:=mW r<|cs.getD k 0;have:=wK r<|r.length-1;rw[<-List.dropLast_eq_take]at this;have:=b.2.2.2;lia
abbrev sT(W:Wy)(cs:a0a)(k:Nat)(r:a0a):a0p:=stW W (cs.length-(k+1)) k r
abbrev tB(W:Wy)(cs:a0a)(k:Nat)(r v:a0a):Nat:=mm W (cs.length-(k+1)) (k+1)<|less r v
theorem Sd{k:Nat}{r:a0a}(h:lq K a rs cs W i)(b:Ic r):(sT W cs k r).length<=500:=Um List.filter_sublist.length_le<|MI h b
theorem K3{k:Nat}{r:a0a}(h:lq K a rs cs W i)(d:k<cs.length)(b:r∈fh W rs k):(lS K a).1 [jp a W i rs cs,.int (k:Int),tN r] β=U (.ok<|.lst<|(sT W cs k r).map tN,β):=by
 obtain⟨c,f,g⟩:=h.at rk b;unfold lS
 refine aC<|jy (p8 (dv<|cp (ah Z bZ) (bx Z Z)<|(by
  show(fM O<|dK O ((_:Int),nI _)).map _=_;rw[fJ λx00=>(by cases x00),VP,L1 rk b];rfl))<|dv<|cp Z (ah (aa (bx Z Z) Z)<|rN cs) eq_int) rk<|aO<|aj<|aB (gb _ tN tN _ (bG (am (aa Z<|aa (bx Z Z)<|aa (bx Z Z)<|aa Z Z)<|h.fl d c f) Z) (λv e=>⟨[U<|tN v,U<|jp a W i rs cs,U<|.int _,U<|tN r],Z,?_,λ_=>Z⟩)<|bf ?_) ⟨Z,Z⟩
 .exact dv (cp (cp (dF Z (aa (cp Z Z Z)<|aa (am Z<|wI (b8<|(h.ok k r).subset e) c.2.1) Z)<|RI d<|h.nx b e) Z lT) Z gt_int)
 .have:=MI (k:=k) h c
  lia
theorem uM:(fj K a).1 [jp a W i rs cs] β=U (.ok<|nL cs,β):=aC<|aj<|aB (ah (aa (bx Z Z) Z) Z) ⟨Z,Z⟩
theorem FU(l:a0a):xg [nL l]=U (tN l):=Z
theorem TV{l:a0a}{c:Nat}(h:l.length<=100):dR (nL l) (.lst [.int (c:Int)])=U (nL<|l++[c]):=by
 refine(qL<|by rw[TX,TX,Vf];lia).trans ?_;show _=U (D.lst<|Vx _<|Vx _<|l++[c]);rw[UK,UK];rfl
abbrev fiS(a:a0h)(x:D)(c:Nat)(f:D)(b d e g h:a0D):Ds:=[U<|.sh x,U<|.sh<|.int (c:Int),U<|.sh<|.lst<|a.map pN,U<|.sh f,b,d,e,g,h]
theorem Sk{w:Nat}{n i:Nat}{d:D}(h:((Ue n).map λi=>D.int ((w+i:Nat):Int))[i]?=U d):i<n/\d= .int ((w+i:Nat):Int):=by
 obtain⟨x,a,rfl⟩:=bH h;have b:=(Ui.mp a).1;rw[UF]at b;rw[U8 b]at a;cases a;exact⟨b,Z⟩
theorem dC{a:Type}{l:List a}{i:Nat}{x:a}(h:l[i]?=U x):l.take (i+1)=l.take i++[x]:=by rw[List.take_add_one,h];rfl
theorem uP{w:a0h}{x:D}{r:a0a}{c:Nat}(G:dZ x=U ((nI r).map D.int))(J:Ic r)(A:w.length=r.length)(L:∀p∈w,p.1<=40/\p.2<=40):(mx K a).1 [x,.int (c:Int),.lst<|w.map pN] β=U (.ok<|.lst<|(vB w r c).map nL,β):=by
 obtain⟨_,T,M,N⟩:=J;have n:∀k,k<=r.length->(nS w r k).length<=500:=λk B=>Um (AI k B)<|Um (wK r k) N;unfold mx
 dsimp only
 refine aC ?_;refine aD (d:= .lst<|(nS w r 0).map nL) (β1:=β) (ah (aa (ah Z LN) Z) nB) ?_;refine bn (ds:=(r.zip w).map λq=> .tup [.int (q.1:Int),pN q.2]) (β1:=β) ?_ (λk δ g=>β=g/\∃C F o m b,δ=fiS w x c (.lst<|(nS w r k).map nL) C F o m b) ⟨Z,Y,Y,Y,Y,Y,Z⟩ ?_ ?_
 .rw[<-iq (λx:Nat=>D.int (x:Int)) pN]
  exact oC (x:=x) (y:= .lst<|w.map pN) Z Z (G.trans<|by rw[Ub];rfl) Z
 .rintro k d δ _ hd ⟨rfl,C,F,o,m,b,rfl⟩
  obtain⟨q,I,rfl⟩:=bH hd;have B:k<r.length:=by
   have:=(Ui.mp I).1;rw[XB]at this;lia
  have t:k<w.length:=by lia
  obtain rfl:q=(r[k],w[k]):=by
   have:=(Ui.mp I).2;rw[List.getElem_zip]at this;exact this.symm
  have b40:=L _<|Vj t;have eH:=db<|Vj B;refine⟨fiS w x c (.lst<|(nS w r k).map nL) (U<|.sh<|.int (r[k]:Int)) (U<|.sh<|pN w[k]) o m b,Z,?_⟩;refine kH (ds:=[]) (β1:=β) Z (Vp _) ?_;have E:∀u:a0a,((Ue<|W0 w[k].2 r[k]+1-w[k].1).map λi=>u++[w[k].1+i]).length<=41:=λu=>by rw[TX,UF];lia
  refine bn (ds:=(nS w r k).map nL) (β1:=β) Z (λi δ g=>β=g/\∃m b,δ=fiS w x c (.lst<|(nS w r k).map nL) (U<|.sh<|.int (r[k]:Int)) (U<|.sh<|pN w[k]) (U<|.own<|(((nS w r k).take i).flatMap λu=>(Ue<|W0 w[k].2 r[k]+1-w[k].1).map λj=>u++[w[k].1+j]).map nL) m b) ⟨Z,m,b,Z⟩ ?_ ?_
  .rintro i d δ _ hd ⟨rfl,m,b,rfl⟩
   obtain⟨u,H,rfl⟩:=bH hd;have cb:=JV k u<|Uo H;have X:=(Ui.mp H).1;have ek:=n k rk;have f5:(((nS w r k).take i).flatMap λu=>(Ue<|W0 w[k].2 r[k]+1-w[k].1).map λj=>u++[w[k].1+j]).length<=500*41:=Um (fK λu _=>E u) (X0 _<|by rw[Ve];lia);refine⟨_,Z,aj<|bn (ds:=(Ue<|W0 w[k].2 r[k]+1-w[k].1).map λj=>D.int ((w[k].1+j:Nat):Int)) (β1:=β) (bF (as:=[.int (w[k].1:Int),.int<|(W0 w[k].2 r[k]:Nat)+1]) (aa (cp Z Z lT)<|aa (cp (x:= .int ((W0 w[k].2 r[k]:Nat):Int)) (ah (aa (cp Z Z nG)<|aa Z Z)<|DE.trans ?_) Z Z) Z)<|(P0 rk rk rk).trans ?_) (λj δ g=>β=g/\∃b,δ=fiS w x c (.lst<|(nS w r k).map nL) (U<|.sh<|.int (r[k]:Int)) (U<|.sh<|pN w[k]) (U<|.own<|(((nS w r k).take i).flatMap λu=>(Ue<|W0 w[k].2 r[k]+1-w[k].1).map λj=>u++[w[k].1+j]).map nL++((Ue<|W0 w[k].2 r[k]+1-w[k].1).take j).map λj=>nL<|u++[w[k].1+j]) (U<|.sh<|nL u) b) ⟨Z,b,by rw[Zn,Wc,UQ];rfl⟩ ?_ ?_⟩
   .rw[show W0 (w[k].2:Int) (r[k]:Int)=((W0 w[k].2 r[k]:Nat):Int) by lia]
   .rw[show((W0 w[k].2 r[k]:Nat)+1-(w[k].1:Int):Int).toNat=W0 w[k].2 r[k]+1-w[k].1 by lia]
   .rintro j d δ _ hd ⟨rfl,b,rfl⟩
    obtain⟨Q,rfl⟩:=Sk hd;have e:(Ue<|W0 w[k].2 r[k]+1-w[k].1)[j]?=U j:=U8 Q;refine⟨_,Z,aj<|kI (d:=nL<|u++[w[k].1+j]) Z (aa (cp Z (ah Z nB)<|TV rk) Z) (UN (show _<50000 by rw[Uv,TX,TX,Ve,UF];lia) vy)<|cx ⟨Z,U<|.sh<|.int ((w[k].1+j:Nat):Int),?_⟩⟩;rw[dC e,UK];show[_,_,_,_,_,_,U<|Sl.own<|_++_++[_],_,_]=[_,_,_,_,_,_,U<|Sl.own<|_++(_++[_]),_,_];rw[Vi]
   .rintro δ _ ⟨rfl,b,rfl⟩
    rw[TX,UF];refine cx ⟨Z,U<|.sh<|nL u,b,?_⟩;rw[dC H,V0,UK,U9,YQ,UQ,Ub,WR (l:=Ue<|W0 w[k].2 r[k]+1-w[k].1)<|by rw[UF];exact Ug _];rfl
  .rintro δ _ ⟨rfl,m,b,rfl⟩
   rw[TX,UV];refine BO<|aj<|aD (d:= .lst<|(nS w r<|k+1).map nL) (β1:=β) ?_<|cx ⟨Z,_,_,_,_,_,Z⟩;have R:nS w r (k+1)=(nS w r k).flatMap λu=>(Ue<|W0 w[k].2 r[k]+1-w[k].1).map λi=>u++[w[k].1+i]:=by
    show List.flatMap _ _=_;rw[fN B,fN t]
   rw[R];rfl
 .rintro δ _ ⟨rfl,C,F,o,m,b,rfl⟩
  rw[TX,XB,A,Nat.min_self,AJ A];have h:=gb (nv:=1) (b4:=[1]) (it:=c5<|ac 3) (tg:=g_ 0) (tt:=fB<|f2 (dJ) (aR gH<|ae (ac 0)<|ax)<|ac 1) (f:=ac 0) (δ:=hL<|fiS w x c (.lst<|(R_ w r).map nL) C F o m b) (β:=β) (R_ w r) nL nL (λv=>decide (v.sum=c)) Z (λv _=>⟨[U<|nL v,U<|.int (c:Int)],Z,dv (cp (ah Z<|ie v) Z<|eq_int.trans<|by rw[decide_eq_decide.mpr (show((v.sum:Nat):Int)=(c:Int)↔v.sum=c by lia)]),λ_=>Z⟩)<|bf (by rw[<-AJ A];have:=n r.length<|Ug _;lia);refine aj<|aB h ⟨Z,?_⟩;rw[Ks A]
theorem rM{x:D}{r v:a0a}(i:dZ x=U ((nI r).map D.int))(h:lb v r)(b:r.length<=4):(jX K a).1 [x,nL v] β=U (.ok<|nL<|less r v,β):=by
 unfold jX
 refine aC<|aj<|aB ?_ ⟨Z,Z⟩;unfold nL;rw[<-ye h];refine bv _ (λp=>D.tup [.int _,.int _]) _ ?_ (λp _=>⟨[U<|.int _,U<|.int _],Z,Z⟩) (bf<|by grind);rw[<-iq (λx:Nat=>D.int _) (λx:Nat=>D.int _)];refine oC Z Z (i.trans<|by rw[Ub];rfl) ?_
 .show U _=U _
  rw[Ub];rfl
theorem u7{r c k n i:Nat}{B:a0b}(hB:vr r c B)(g:r<=4)(j:k<c){δ:Dn}(d:δ.getD i Y=U (j1 B))(e:lg 1 [n] δ=[Y,U<|.int (k:Int)]):cE 1 [n] (c5<|ac i) (g_ 0) (λ_=>M.ret O) (j_<|f2 gs (ac 0)<|ac 1) δ β=U (.ok<|.lst<|(nZ B k).map pN,β):=by
 have h:=bv (tg:=g_ 0) (f:=f2 gs (ac 0)<|ac 1) (β:=β) B (λa=>D.lst<|a.map pN) (λa=>pN<|a.getD k (0,0)) (bG (pZ d) (by
  show U _=U _;rw[Ub,Ub];exact U6 U<|UH λa _=>U6 D.lst (by show Vx pD _=_;rw[Ub];rfl))) (λa b=>⟨[U<|D.lst<|a.map pN,U<|.int _],by rw[e];rfl,cp Z Z<|cw (by
   have l:=hB.1.2 a b;rw[T9,fN rk,Ua rk];rfl)⟩) (bf<|by rw[hB.1.1];lia)
 apply h.trans;unfold nZ;rw[Ub];rfl
theorem QD{rs:a0a}(h:rs.sum<=8):mu rs<=40320:=by
 have b:mu rs<=dt rs.sum:=by
  rw[<-kh];exact Yx _<|uL rs
 exact Um b (Um (yG h) vy)
noncomputable abbrev eQ(q:a0p×a0a):D:= .tup [.lst<|q.1.map nL,nL q.2]
abbrev liS(rs cs:a0a)(B:a0b)(f:D)(b c d e g h:a0D):Ds:=[U<|.sh<|tN rs,U<|.sh<|nL cs,U<|.sh<|j1 B,U<|.sh f,b,c,d,e,g,h]
abbrev nxQ(W:Wy)(k:Nat)(q:a0p×a0a):List (a0p×a0a):=(W k q.2).map λv=>(q.1++[v],less q.2 v)
theorem DM{rs cs:a0a}{B:a0b}(P:Ic rs)(G:rs.sum=cs.sum)(s:cs.length<=6)(C:rs.sum<=8)(hB:vr rs.length cs.length B):(lP K a).1 [tN rs,nL cs,j1 B] β=U (.ok<|.lst<|(lst (wB B cs) rs cs.length).map λq=> .lst<|q.1.map nL,β):=by
 obtain⟨N,F,L,Q⟩:=P;have m:=BR B cs;have h:∀k,k<=cs.length->(lst _ rs k).length<=40320:=λk l=>Um (z5 m G l)<|QD C;unfold lP
 dsimp only
 apply aC;refine aD (ah (aa (ah (aa (ah Z LN)<|aa (ah Z Z) Z) bZ) Z) nB)<|bn (bF Z Z) (λk w e=>β=e/\∃o p r f g b,w=liS rs cs B (.lst<|(lst (wB B cs) rs k).map eQ) o p r f g b) ⟨Z,Y,Y,Y,Y,Y,Y,Z⟩ ?_ ?_
 .rintro k d w _ hd ⟨rfl,o,p,r,f,g,b,rfl⟩
  obtain⟨x,S,rfl⟩:=mP hd;obtain⟨n,M,rfl⟩:=ig S;have l:=(Ui.mp M).1;have H:cs.getD k 0=n:=by rw[T6,M];rfl
  obtain⟨V,I⟩:=hB.col l;refine⟨_,Z,kH Z (Vp _) ?_⟩;have y:∀i,(((lst _ rs k).take i).flatMap<|nxQ _ k).length<=40320:=λi=>by
   refine Um ?_<|h _ l;show _<=((lst _ rs k).flatMap<|nxQ _ k).length
   conv=>rhs;rw[<-Wa i (lst _ rs k),V0,Uv]
   exact Wn _ _
  refine bn Z (λi w e=>β=e/\∃f g b,w=liS rs cs B _ _ _ (U<|.own<|(((lst (wB B cs) rs k).take i).flatMap<|nxQ (wB B cs) k).map eQ) f g b) ⟨Z,f,g,b,Z⟩ ?_ ?_
  .rintro i d w _ hd ⟨rfl,f,g,b,rfl⟩
   obtain⟨q,t,rfl⟩:=bH hd;obtain⟨E,z,X⟩:=yb m G k rk q (Uo t);have J:=E.len;have u:=E.sum;have R:=E.pr;have T:(wB B cs k q.2).length<=40320:=by
    have:=y<|i+1;rw[dC t,V0,U9,YQ,UQ,Uv,TX]at this;lia
   refine⟨_,Z,aj<|bn (ds:=(wB B cs k _).map nL) (bG (am (aa Z<|aa Z<|aa (u7 hB F l Z Z) Z)<|uP Z (⟨rk,rk,rk,rk⟩) (by rw[V,J]) I)<|by unfold wB;rw[H];rfl) (λj w e=>β=e/\∃b,w=liS rs cs B _ _ _ (U<|.own<|(((lst _ rs k).take i).flatMap<|nxQ _ k).map eQ++((wB B cs k q.2).take j).map λv=>eQ (q.1++[v],less q.2 v)) _ _ b) ⟨Z,b,by rw[Zn,Wc,UQ];rfl⟩ ?_ ?_⟩
   .rintro j d w _ hd ⟨rfl,b,rfl⟩
    obtain⟨v,A,rfl⟩:=bH hd;have c:=y i;refine⟨_,Z,aj<|kI (d:=eQ (q.1++[v],less _ v)) Z (aa (ah (aa (cp Z (ah Z nB)<|(qL<|by rw[TX,Vf];lia).trans ?_)<|aa (am Z<|rM Z (b8 ((m k _).subset<|Uo A)) rk) Z) bZ) Z) (UN (show _<100000 by rw[Uv,TX,TX,Ve];lia) vy)<|cx ⟨Z,U<|.sh<|nL v,?_⟩⟩
    .rw[UK];rfl
    .rw[dC A,UK]
     show[_,_,_,_,_,_,U<|Sl.own<|_++_++[_],_,_,_]=[_,_,_,_,_,_,U<|Sl.own<|_++(_++[_]),_,_,_];rw[Vi]
   .rintro w _ ⟨rfl,b,rfl⟩
    rw[TX,UV];refine cx ⟨Z,U<|.sh<|.lst<|q.1.map nL,U<|.sh<|nL q.2,b,?_⟩;rw[dC t,V0,UK,U9,YQ,UQ,Ub];rfl
  .rintro w _ ⟨rfl,f,g,b,rfl⟩
   rw[TX,UV];exact BO<|aj<|aD Z<|cx ⟨Z,_,_,_,_,_,_,Z⟩
 .rintro w _ ⟨rfl,o,p,r,f,g,b,rfl⟩
  rw[jd,TX,TX];exact aj<|aB (bv _ eQ _ Z (λq _=>⟨[U<|.lst<|q.1.map nL,U<|nL _],Z,Z⟩)<|Um (h _<|Ug _) vy) ⟨Z,Z⟩
theorem eqI(i j:Int):Xo (.int i) (.int j)=decide (i=j):=by unfold Xo;exact Bool.beq_eq_decide_eq i j
theorem vY{w:Type} [DecidableEq w]{f:w->PyData}(b:∀x y,Xo (f x) (f y)=decide (x=y)):∀a i:List w,WP (a.map f) (i.map f)=decide (a=i)
 |[],[]=>by simp[WP]
 |[],y::i=>by simp[WP]
 |x::a,[]=>by simp[WP]
 |x::a,y::i=>by
  rw[Ul,Ul,WP,b,vY b a i];by_cases h:x=y<;>by_cases q:a=i<;>simp[q]
theorem rf{a:Type}{f:a->D}{g:a->PyData}(h:∀x,ri (f x)=U (g x)):∀l:List a,toPs (l.map f)=U (l.map g)
 |[]=>by simp[toPs]
 |x::l=>by
  rw[Ul,toPs,h x,rf h l];rfl
theorem vX{x y:D}{p q:PyData}(d:eqS x y=Y)(a:ri x=U p)(i:ri y=U q)(b:n5 x=O)(c:n5 y=O):dJ x y=U (.bl<|Xo p q):=by
 unfold dJ n6;unfold n5 at b c;rw[a]at b;rw[i]at c;simp only[d,a,i,b,c,YS,Vm,VP]
theorem BP{i:Nat}{b:Bool}{h:G}{a:Ds}{Q:a0z}(k:Gw h (a.set i<|U<|.odc b [] []) β Q):Gw (aM (Rr i b) h) a β Q:=dM Z k
theorem xa{i:Nat}{fk c:FD}{h:G}{a:Ds}{Q:a0z}{d kd:D}{b:Bool}{w:a0F}{E:a0c}{k:eg}{β1 β2:Bg}(e:c (hL a) β=U (.ok d,β1))(f:fk (hL a) β1=U (.ok kd,β2))(g:a.getD i Y=U (.odc b w E))(j:fM b kd=U k)(K:noL d=O)(l:w.length<UC)(m:Gw h (a.set i<|U<|.odc b (K_ w k)<|stY w E k d) β2 Q):Gw (aM (t8 i fk c) h) a β Q:=
 dM (by unfold t8;simp only[e,f,g,j,K,Ux l,YS,Vm]) m
def Sn(W:Wy)(rs:a0a)(k:Nat)(P:a0X)(a:a0F):Prop:=a.Nodup/\(∀y∈a,∃u∈fh W rs (k+1),y=(0,nI u))/\∀r v,P r v->(0,nI<|less r v)∈a
theorem Sn.mono{k:Nat}{P b:a0X}{a:a0F}(h:Sn W rs k P a)(q:∀r v,b r v->P r v):Sn W rs k b a:=⟨h.1,h.2.1,λr v z=>h.2.2 r v<|q r v z⟩
theorem Sn.add{k:Nat}{P d:a0X}{a:a0F}{r v:a0a}(h:Sn W rs k P a)(g:r∈fh W rs k)(i:v∈W k r)(q:∀b c,d b c->P b c\/(b=r/\c=v)):Sn W rs k d (K_ a (0,nI<|less r v)):=by
 obtain⟨f,j,l⟩:=h;have E:∀y,y∈K_ a _↔y∈a\/y=(0,nI<|less r v):=λy=>by
  unfold K_;split
  .rename_i z
   exact⟨.inl,λw=>w.elim id λe=>e▸z⟩
  .simp
 refine⟨?_,λy D=>?_,λb c z=>(E _).mpr ?_⟩
 .unfold K_
  split
  .exact f
  .rename_i z
   exact ZD.mpr ⟨f,Xh _ _,λx G y D e=>z<|by rw[<-UM.mp D,<-e];exact G⟩
 .obtain z|z:=(E y).mp D
  .exact j y z
  .exact⟨less r v,gX.mpr ⟨r,g,v,i,Z⟩,z⟩
 .obtain z|⟨rfl,rfl⟩:=q b c z
  .exact .inl (l _ _ z)
  .exact .inr Z
theorem Sn.len{k:Nat}{P:a0X}{w:a0F}(h:Sn W rs k P w)(b:lq K a rs cs W i)(d:k<cs.length):w.length<=62:=by
 have:=L2.Pu.nd_len h.1 λy D=>by
  obtain⟨u,c,rfl⟩:=h.2.1 y D;exact T7.mpr ⟨u,c,Z⟩
 rw[TX]at this;exact Um this (i7 b rk)
theorem Sn.srt{k:Nat}{P:a0X}{w:a0F}{D:a0c}(h:Sn W rs k P w)(b:lq K a rs cs W i)(f:k<cs.length)(q:∀r∈fh W rs k,∀v∈W k r,P r v):xm [.dct T4 w D]=U (lm W rs<|k+1):=by
 have:=h.len b f;show(if w.length<64 then g9 (w.map λk=>lk _)else Y)=_;rw[Uf rk];refine GI (zW b.ok b.sm b.nr.1 b.wd f) λd=>⟨λz=>?_,λz=>?_⟩
 .obtain⟨y,hy,rfl⟩:=T7.mp z
  obtain⟨r,c,v,e,rfl⟩:=iC.mp hy;exact T7.mpr ⟨_,h.2.2 r v<|q r c v e,Z⟩
 .obtain⟨y,hy,rfl⟩:=T7.mp z
  obtain⟨u,g,rfl⟩:=h.2.1 y hy;obtain⟨r,c,v,e,rfl⟩:=gX.mp g;exact T7.mpr ⟨_,iC.mpr ⟨r,c,v,e,Z⟩,Z⟩
abbrev ndS(rs cs:a0a)(B:a0b)(l:a0c)(b c d e f:a0D):Ds:=[U<|.sh<|nL rs,U<|.sh<|nL cs,U<|.sh<|j1 B,U<|.own l,b,c,d,e,f]
theorem IR{B:a0b}(h:lq K a rs cs (wB B cs)<|j1 B)(hB:vr rs.length cs.length B):(o5 K a).1 [nL rs,nL cs,j1 B] β=U (.ok<|.lst<|(Ue<|cs.length+1).map<|lm (wB B cs) rs,β):=by
 have s:=h.c6;unfold o5
 apply aC;refine bn (bF Z Z) (λk E e=>β=e/\∃q t u g b,E=ndS rs cs B ((Ue<|k+1).map<|lm (wB B cs) rs) q t u g b) ⟨Z,Y,Y,Y,Y,Y,Z⟩ ?_ ?_
 .rintro k d E _ hd ⟨rfl,q,t,u,g,b,rfl⟩
  obtain⟨x,S,rfl⟩:=mP hd;obtain⟨n,P,rfl⟩:=ig S;have m:=(Ui.mp P).1;have I:cs.getD k 0=n:=by rw[T6,P];rfl
  obtain⟨V,J⟩:=hB.col m;refine⟨_,Z,BP ?_⟩;refine bn (ds:=(fh (wB B cs) rs k).map tN) ?_ (λi E e=>β=e/\∃w G g b,E=ndS rs cs B _ _ _ (U<|.odc T4 w G) g b/\Sn (wB B cs) rs k (λr v=>r∈(fh (wB B cs) rs k).take i/\v∈wB B cs k r) w) ⟨Z,[],[],g,b,Z,List.nodup_nil,(λy W=>by cases W),λr v z=>by simp at z⟩ ?_ ?_
  .show M.ofO _ β=_
   rw[cw<|by rw[T9,U8 rk];rfl];rfl
  .rintro i d E _ hd ⟨rfl,w,G,g,b,rfl,f⟩
   obtain⟨r,A,rfl⟩:=bH hd;have o:=Uo A;obtain⟨C,L,N⟩:=h.at rk o;refine⟨_,Z,aj<|bn (ds:=(wB B cs k r).map nL) (bG (am (aa Z<|aa Z<|aa (u7 hB h.nr.2.1 m Z Z) Z)<|uP Z C (by rw[V,L]) J)<|by unfold wB;rw[I];rfl) (λj E e=>β=e/\∃w G b,E=ndS rs cs B _ _ _ (U<|.odc T4 w G) _ b/\Sn _ rs k (λl v=>(l∈(fh _ rs k).take i/\v∈wB B cs k l)\/(l=r/\v∈(wB B cs k r).take j)) w) ⟨Z,w,G,b,Z,f.mono λr v z=>z.elim id λz=>by simp at z⟩ ?_ ?_⟩
   .rintro j d E _ hd ⟨rfl,w,G,b,rfl,f⟩
    obtain⟨v,F,rfl⟩:=bH hd;have p:=Uo F;have c:=f.len h m;refine⟨_,Z,aj<|xa (kd:=dK T4 _) Z (ah (aa (am Z<|rM Z (b8<|(h.ok k r).subset p) C.2.1) Z)<|FU _) Z (fJ λ_=>Z) Z (UN (show _<100 by lia) vy)<|cx ⟨Z,_,_,_,Z,f.add o p λl Q z=>?_⟩⟩;obtain z|⟨z1,z2⟩:=z
    .exact .inl (.inl z)
    .rw[dC F]at z2
     obtain z2|z2:=Vr.mp z2
     .exact .inl (.inr ⟨z1,z2⟩)
     .exact .inr ⟨z1,UM.mp z2⟩
   .rintro E _ ⟨rfl,w,G,b,rfl,f⟩
    rw[TX,UV]at f;refine cx ⟨Z,w,G,_,_,Z,f.mono λl v z=>?_⟩;obtain⟨z1,z2⟩:=z;rw[dC A]at z1;obtain z1|z1:=Vr.mp z1
    .exact .inl ⟨z1,z2⟩
    .cases UM.mp z1
     exact .inr ⟨Z,z2⟩
  .rintro E _ ⟨rfl,w,G,g,b,rfl,f⟩
   rw[TX,UV]at f;refine BO<|aj<|kI Z (aa (ah Z<|f.srt h m λr o v p=>⟨o,p⟩) Z) (UN (show _<1000 by rw[TX,UF];lia) vy)<|cx ⟨Z,U<|.sh<|.int (k:Int),U<|.sh<|.int (n:Int),U<|.sh<|.dct T4 w G,g,b,?_⟩;rw[WJ (n:=k+1),UK];rfl
 .rintro E _ ⟨rfl,q,t,u,g,b,rfl⟩
  rw[jd,TX,TX];exact aj<|aB Z ⟨Z,Z⟩
theorem Ry(u v:a0a):WP (u.map λ(n:Nat)=> .int (n:Int)) (v.map λ(n:Nat)=> .int (n:Int))=decide (u=v):=vY (λx y=>(eqI _ _).trans<|decide_eq_decide.mpr rk) u v
theorem MS(u:a0a):toPs ((nI u).map D.int)=U (u.map λ(n:Nat)=> .int (n:Int)):=by
 rw[Ub];exact rf (λn=>Z) u
abbrev R4:=Int×a0e×Int×Int
abbrev rL(p:R4):a0c:=[.int p.1,lk p.2.1,.int p.2.2.1,.int p.2.2.2]
abbrev rD(p:R4):D:= .tup<|rL p
abbrev pap(l:List R4):D:= .lst<|l.map rD
def h8(W:Wy)(rs:a0a)(m:Nat):a0A:=(Ue<|m+1).flatMap λk=>(fh W rs k).map λr=>(k,r)
abbrev X_(W:Wy)(m:Nat)(p:Nat×a0a):R4:=((p.1:Int),nI p.2,((mm W (m-p.1) p.1 p.2:Nat):Int),((xr W (m-p.1) p.1 p.2:Nat):Int))
theorem SK(m:Nat):kyW W rs (m+1)=(h8 W rs m).map λp=>((p.1:Int),nI p.2):=by
 unfold h8;rw[VM];simp only[Ub];rfl
theorem SH(m:Nat):EV W rs m=(h8 W rs m).map λp=>cv W m p.1 p.2:=by
 unfold h8;rw[VM];simp only[Ub];rfl
theorem pe{m:Nat}{p:Nat×a0a}:p∈h8 W rs m↔p.1<=m/\p.2∈fh W rs p.1:=by
 constructor
 .intro h
  obtain⟨k,c,b⟩:=Vk.mp h;obtain⟨r,d,rfl⟩:=T7.mp b;exact⟨by have:=UD.mp c;lia,d⟩
 .rintro⟨e,b⟩
  exact Vk.mpr ⟨p.1,UD.mpr rk,T7.mpr ⟨p.2,b,Z⟩⟩
theorem EY{a:Type}{f:eg->D->D}{g:a->eg}{u:a->D}:∀l:List a,X8 f (l.map g) (l.map u)=l.map λx=>f (g x)<|u x
 |[]=>rfl
 |x::l=>U6 _<|EY l
theorem Pd{x y z v:D}:fU [x,y,z,v]=U (.tup [x,y,z,v]):=by
 unfold fU;rw[Uf<|bf (by show 4<=1000;decide)]
theorem zX(w:(h8 W rs cs.length).length<=1000):(iI K a).1 [jp a W i rs cs] β=U (.ok<|pap<|(h8 W rs cs.length).map<|X_ W cs.length,β):=by
 unfold iI
 exact aC<|aj<|aB (am (aa (bx Z Z) Z)<|(by
  unfold jV
  apply aC;refine aj<|aB (bv _ (λx00=> .tup [.tup [.int _,tN _],cv W cs.length x00.1 x00.2]) _ ?_ (λx00 _=>⟨[U<|.int (x00.1:Int),U<|tN x00.2,U<|.int _,U<|.int _],Z,ah Z Pd⟩)<|bf w) ⟨Z,?_⟩
  .show U _=_
   rw[SK,SH,EY];rfl
  .unfold pap
   rw[Ub];rfl)) ⟨Z,Z⟩
end
section
variable{K:UA}{a:Ad}{β:Bg}{rs cs:a0a}{W:Wy}{s:D}
open L2.Hs (Up ci kl)
abbrev kP(p:Nat×a0a):eg:=((p.1:Int),nI p.2)
theorem yn{p q:Nat×a0a}(h:kP p=kP q):p=q:=WM (by have:=(WS.mp h).1;lia)<|i6 (WS.mp h).2
theorem ph{f:Nat×a0a->D}{p:Nat×a0a}:∀{N:a0A},p∈N->lK (N.map kP) (N.map f) (kP p)=U (f p)
 |q::N,h=>by
  unfold lK;rw[Ul,Ul,VU,WI];by_cases z:q=p
  .rw[z,Ux Z];rfl
  .rw[UX λe=>z<|yn e]
   exact ph<|(Uq.mp h).resolve_left λe=>z e.symm
def oa(W:Wy)(rs:a0a)(m t:Nat):a0A:=(Ue t).flatMap λi=>(fh W rs<|m-i).map λr=>(m-i,r)
theorem uY{m t:Nat}{p:Nat×a0a}(f:t<=m+1):p∈oa W rs m t↔(p.1<=m/\m<p.1+t)/\p.2∈fh W rs p.1:=by
 constructor
 .intro h
  obtain⟨i,c,b⟩:=Vk.mp h;obtain⟨r,d,rfl⟩:=T7.mp b;have:=UD.mp c;exact⟨⟨by show m-i<=m;grind,by show m<m-i+t;lia⟩,d⟩
 .rintro⟨⟨g,b⟩,e⟩
  refine Vk.mpr ⟨m-p.1,UD.mpr (by grind),T7.mpr ⟨p.2,?_,?_⟩⟩
  .rw[show m-(m-p.1)=p.1 by lia];exact e
  .rw[show m-(m-p.1)=p.1 by lia]
theorem rT(m t:Nat):oa W rs m (t+1)=oa W rs m t++(fh W rs<|m-t).map λr=>(m-t,r):=by
 unfold oa;rw[WJ,V0,U9,YQ,UQ]
abbrev L4(W:Wy)(m:Nat)(p:Nat×a0a):D:=cv W m p.1 p.2
abbrev cnS(W:Wy)(rs cs:a0a)(s:D)(N:a0A)(c d e f g b:a0D):Ds:=[U<|.sh<|nL rs,U<|.sh<|nL cs,U<|.sh s,U<|.sh<|.lst<|(Ue<|cs.length+1).map<|lm W rs,U<|.odc O (N.map kP)<|N.map<|L4 W cs.length,c,d,e,f,g,b]
theorem HI{W:Wy}{s:D}{N:a0A}{c f g i j b:a0D}{fk l:FD}{h:G}{Q:a0z}{p:Nat×a0a}(n:p∉N)(o:N.length<=1000)(r:fk (hL<|cnS W rs cs s N c f g i j b) β=U (.ok<|.tup [.int (p.1:Int),tN p.2],β))(t:l (hL<|cnS W rs cs s N c f g i j b) β=U (.ok<|L4 W cs.length p,β))
  (k:Gw h (cnS W rs cs s (N++[p]) c f g i j b) β Q):Gw (aM (t8 4 fk l) h) (cnS W rs cs s N c f g i j b) β Q:=by
 have m:kP p∉N.map kP:=λz=>by
  obtain⟨q,u,e⟩:=T7.mp z;exact n<|yn e▸u
 refine xa (kd:=dK O<|kP p) t r Z (fJ λe=>(by cases e)) Z (VC (show _<=1000 by rw[TX];exact o) vy) ?_;unfold K_ stY;rw[Uh m,Uh m];have v:N.map kP++[kP p]=(N++[p]).map kP:=by rw[UK];rfl
 have y:N.map (L4 W cs.length)++[L4 W cs.length p]=(N++[p]).map (L4 W cs.length):=by rw[UK];rfl
 rw[v,y];exact k
theorem BF{m t i:Nat}{r:a0a}(h:t<=m)(b:(fh W rs<|m-t)[i]?=U r):(m-t,r)∉oa W rs m t++((fh W rs<|m-t).take i).map λr=>(m-t,r):=λz=>by
 obtain z|z:=Vr.mp z
 .have:=((uY rk).mp z).1.2
  simp only at this;lia
 .obtain⟨q,c,e⟩:=T7.mp z
  cases(WS.mp e).2;obtain⟨j,k,d⟩:=List.mem_take_iff_getElem.mp c;obtain⟨f,g⟩:=Ui.mp b;have:=(List.getElem_inj<|mF<|m-t).mp<|d.trans g.symm;lia
theorem SQ(k:Nat):Up ((fh W rs k).map nI):=by
 cases k with
 |zero=>exact Xh _ _
 |succ k=>rw[show fh W rs _=nwL W _ k from Z,wM];exact l8 _
theorem SI(m:Nat):Up ((h8 W rs m).map λp=>kl O<|kP p):=by
 unfold h8;rw[VM];refine List.pairwise_flatMap.mpr ⟨λk _=>?_,?_⟩
 .rw[Ub]
  refine WH.mpr<|(WH.mp<|SQ k).imp λ{x y} h=>?_;show ci ((k:Int)::nI x) ((k:Int)::nI y)=O;unfold ci;rw[Uf Z];exact h
 .refine List.pairwise_lt_range.imp λ{i j} b x a y s=>?_
  obtain⟨_,c,rfl⟩:=T7.mp a;obtain⟨u,_,rfl⟩:=T7.mp c;obtain⟨_,d,rfl⟩:=T7.mp s;obtain⟨v,_,rfl⟩:=T7.mp d;show ci ((i:Int)::nI u) ((j:Int)::nI v)=O;unfold ci;rw[Uh rk];exact Ux rk
theorem OI{B:a0b}(h:lq K a rs cs (wB B cs)<|j1 B)(hB:vr rs.length cs.length B)(P:(oa (wB B cs) rs cs.length<|cs.length+1).length<64):(lR K a).1 [nL rs,nL cs,j1 B] β=U (.ok<|pap<|(h8 (wB B cs) rs cs.length).map<|X_ (wB B cs) cs.length,β):=by
 have c6:=h.c6;have n:∀t,t<=cs.length->∀i,(oa (wB B cs) rs cs.length t++((fh (wB B cs) rs<|cs.length-t).take i).map λr=>(cs.length-t,r)).length<=1000:=λt f i=>by
  have l1:(oa (wB B cs) rs cs.length t).length<=62*t:=by
   unfold oa;refine Um (fK λk o=>?_) (by rw[UF,WU];exact Ug _);rw[TX];exact i7 h rk
  have l2:=i7 h (k:=cs.length-t) rk;rw[Uv,TX,Ve];lia
 unfold lR
 refine aC<|aD (am Z<|IR h hB)<|BP ?_;have J:∀k,k<=cs.length->gs (.lst<|(Ue<|cs.length+1).map<|lm (wB B cs) rs) (.int (k:Int))=U _:=λk o=>cw (by rw[T9,U8 rk];rfl);have L:gs (.lst<|(Ue<|cs.length+1).map<|lm (wB B cs) rs) (.int<|-1)=U (lm (wB B cs) rs cs.length):=by
  show ra _ _=_;unfold ra u3;rw[TX,UF,Uh vy,Uf rk,show((-1:Int)+((cs.length+1:Nat):Int)).toNat=cs.length by lia,Wf,T9,U8 rk];rfl
 refine bn (ds:=(fh (wB B cs) rs<|cs.length-0).map tN) (bG (cp Z Z L) Z) (λi s c=>β=c/\∃g,s=cnS (wB B cs) rs cs (j1 B) (oa (wB B cs) rs cs.length 0++((fh (wB B cs) rs<|cs.length-0).take i).map λr=>(cs.length-0,r)) g Y Y Y Y Y) ⟨Z,Y,Z⟩ ?_ ?_
 .rintro i d s _ hd ⟨rfl,g,rfl⟩
  obtain⟨r,A,rfl⟩:=bH hd;refine⟨_,Z,aj<|HI (BF (Vp _) A) (n 0 (Vp _) i) (ah (aa (ah Z<|rN cs)<|aa Z Z) bZ) (ah Z<|bZ.trans ?_)<|cx ⟨Z,U<|.sh<|tN r,?_⟩⟩
  .show U _=U (cv (wB B cs) cs.length cs.length r)
   unfold cv;rw[Xe];rfl
  .rw[dC A,UK,Vi];rfl
 rintro s _ ⟨rfl,g,rfl⟩;rw[TX,UV,<-rT];refine bn (ds:=eC cs.length) (bF (aa (cp (ah Z<|rN cs) Z Z) Z) ?_) (λt s c=>β=c/\∃g f5 q u l b,s=cnS (wB B cs) rs cs (j1 B) (oa (wB B cs) rs cs.length<|t+1) g f5 q u l b) ⟨Z,g,Y,Y,Y,Y,Y,Z⟩ ?_ ?_
 .show(if(decide _&&decide _)=O then U (eC _)else Y)=_
  rw[Uf (by simp;lia),show((cs.length:Int)-1+1).toNat=cs.length by lia]
 .rintro t d s _ hd ⟨rfl,g,f5,q,u,l,b,rfl⟩
  have f:t<cs.length:=by
   have:=(Ui.mp hd).1;simpa[eC]using this
  obtain rfl:d= .int ((cs.length-(t+1):Nat):Int):=by
   unfold eC at hd;rw[T9,U8 f]at hd;cases hd;exact U6 D.int (by grind)
  have o:cs.length-(t+1)<cs.length:=by omega
  obtain⟨V,W⟩:=hB.col o;refine⟨_,Z,aj<|bn (bG (cp Z Z<|J _ rk) Z) (λi s c=>β=c/\∃g q u l b,s=cnS (wB B cs) rs cs (j1 B) (oa (wB B cs) rs cs.length (t+1)++((fh (wB B cs) rs<|cs.length-(t+1)).take i).map λr=>(cs.length-(t+1),r)) g _ q u l b) ⟨Z,g,q,u,l,b,by rw[Zn,Wc,UQ];rfl⟩ ?_ ?_⟩
  .rintro i d s _ hd ⟨rfl,g,q,u,l,b,rfl⟩
   obtain⟨r,A,rfl⟩:=bH hd;have Q:=Uo A;have E:=BF rk A;have G:=n (t+1) rk i;have C:∀v∈wB B cs _ r,(cs.length-(t+1)+1,less r v)∈oa (wB B cs) rs cs.length (t+1)++((fh (wB B cs) rs<|cs.length-(t+1)).take i).map λr=>(cs.length-(t+1),r):=λv F=>Vr.mpr<|.inl<|(uY rk).mpr ⟨⟨rk,by show _<_+1+(t+1);grind⟩,gX.mpr ⟨r,Q,v,F,Z⟩⟩;have e9:oa (wB B cs) rs cs.length (t+1)++((fh (wB B cs) rs<|cs.length-(t+1)).take<|i+1).map (λr=>(cs.length-(t+1),r))=(oa (wB B cs) rs cs.length (t+1)++((fh (wB B cs) rs<|cs.length-(t+1)).take i).map (λr=>(cs.length-(t+1),r)))++[(cs.length-(t+1),r)]:=by
    rw[dC A,UK,Vi];rfl
   rw[e9];generalize oa (wB B cs) rs cs.length (t+1)++((fh (wB B cs) rs<|cs.length-(t+1)).take i).map _=N at E G C;obtain⟨R,n2,n3⟩:=h.at (Xu o) Q;have et:mm (wB B cs) (cs.length-(cs.length-(t+1))) (cs.length-(t+1)) r=L2.Nt.sm (wB B cs (cs.length-(t+1)) r) λv=>mm (wB B cs) (cs.length-(cs.length-(t+1)+1)) (cs.length-(t+1)+1) (less r v):=by rw[show cs.length-(cs.length-(t+1))=cs.length-(cs.length-(t+1)+1)+1 by lia];rfl
   have ed:xr (wB B cs) (cs.length-(cs.length-(t+1))) (cs.length-(t+1)) r=L2.Nt.sm (wB B cs (cs.length-(t+1)) r) λv=>mu v*xr (wB B cs) (cs.length-(cs.length-(t+1)+1)) (cs.length-(t+1)+1) (less r v):=by rw[show cs.length-(cs.length-(t+1))=cs.length-(cs.length-(t+1)+1)+1 by lia];rfl
   generalize cs.length-(t+1)=k at*;refine⟨_,Z,aD Z<|aD Z ?_⟩;refine bn (ds:=(wB B cs k r).map nL) (bG (am (aa Z<|aa (cp Z Z<|cw<|by rw[T9,T9,fN o,Ua o];rfl)<|aa (u7 hB h.nr.2.1 o Z Z) Z)<|uP Z R (by rw[V,n2]) W) Z) (λj s c=>β=c/\∃l b,s=cnS (wB B cs) rs cs (j1 B) N _ _ (U<|.sh<|.int ((L2.Nt.sm ((wB B cs k r).take j) λv=>mm (wB B cs) (cs.length-(k+1)) (k+1) (less r v):Nat):Int)) (U<|.sh<|.int ((L2.Nt.sm ((wB B cs k r).take j) λv=>mu v*xr (wB B cs) (cs.length-(k+1)) (k+1) (less r v):Nat):Int)) l b) ⟨Z,l,b,Z⟩ ?_ ?_
   .rintro j d s _ hd ⟨rfl,l,b,rfl⟩
    obtain⟨v,F,rfl⟩:=bH hd;have w:=Uo F;have y:=(h.ok k r).subset w;have M:=gX.mpr ⟨r,Q,v,w,Z⟩;have T:=(f7 h.ok h.sm (k+1) o _ M).2;have H:=Um (b8 y).sum n3;have m:=(h.at o M).2.2;have v4:v.length<=4:=by rw[(b8 y).len];exact R.2.1
    have dx:uZ (.dct O (N.map kP)<|N.map<|L4 (wB B cs) cs.length) (.tup [.int ((k+1:Nat):Int),tN<|less r v])=U (cv (wB B cs) cs.length (k+1)<|less r v):=by
     show(fM O<|dK O (((k+1:Nat):Int),nI<|less r v)).bind _=_;rw[fJ λe=>(by cases e)];exact ph<|C v w
    refine⟨_,Z,O9 (cp Z (ah (aa (cp Z Z Z)<|aa (ah (aa (am Z<|rM Z (b8 y) R.2.1) Z)<|FU _) Z) bZ) dx) ?_⟩;exact aD (d:= .int _) (cp Z (cp Z Z lT)<|by rw[wC _ F];rfl)<|aj<|aD (cp Z (cp (cp Z Z nG) (am Z<|ya H v4)<|ef (bW (Um (yL h.ok _ _ _<|by grind)<|by rw[pL _ _ T];exact Nd m) vy)<|bW (lX H) vy)<|by rw[wC _ F,w9,WU];rfl)<|cx ⟨Z,_,_,Z⟩
   .rintro s _ ⟨rfl,l,b,rfl⟩
    rw[TX,UV,<-et,<-ed];exact aj<|HI E G (ah Z bZ) (ah Z bZ)<|cx ⟨Z,_,_,_,_,_,Z⟩
  .rintro s _ ⟨rfl,g,q,u,l,b,rfl⟩
   rw[TX,UV,<-rT];exact cx ⟨Z,_,_,_,_,_,_,Z⟩
 .rintro s _ ⟨rfl,g,f5,q,u,l,b,rfl⟩
  rw[show(eC cs.length).length=cs.length by simp[eC]];have X:∀p,p∈h8 (wB B cs) rs cs.length↔p∈oa (wB B cs) rs cs.length _:=λp=>by
   rw[pe,uY<|Ug _];exact⟨λz=>⟨⟨z.1,rk⟩,z.2⟩,λz=>⟨z.1.1,z.2⟩⟩
  have sp:SrP ((h8 (wB B cs) rs cs.length).map kP) ((oa (wB B cs) rs cs.length<|cs.length+1).map kP):=⟨by rw[Ub];exact SI _,by rw[TX];exact P,λk=>⟨λz=>by
   obtain⟨p,I,rfl⟩:=T7.mp z;exact T7.mpr ⟨p,(X p).mp I,Z⟩,λz=>by
   obtain⟨p,I,rfl⟩:=T7.mp z;exact T7.mpr ⟨p,(X p).mpr I,Z⟩⟩⟩
  have l9:(h8 (wB B cs) rs cs.length).length<=1000:=Um (fK λk o=>by
   have:=UD.mp o;rw[TX];exact i7 h rk) (by rw[UF];lia)
  refine aj<|aB (d:= .lst<|(h8 (wB B cs) rs cs.length).map λp=>rD<|X_ (wB B cs) cs.length p) (bv _ _ _ (bG (ah Z<|K5 sp)<|by rw[Ub];rfl) (λp I=>⟨[U<|dK O<|kP p,U<|.dct O _<|(oa (wB B cs) rs cs.length<|cs.length+1).map<|L4 (wB B cs) cs.length],Z,cp Z (cp (z:=L4 (wB B cs) cs.length p) Z Z ?_) ?_⟩)<|bf l9) ⟨Z,by show Vw (D.lst _)=Vw (D.lst _);rw[Ub];rfl⟩
  .show(fM O<|dK O<|kP p).bind _=_
   rw[fJ λe=>(by cases e)];exact ph<|(X p).mp I
  .show dR (.tup [.int (p.1:Int),tN p.2]) _=_
   unfold dR;simp only;rfl
end
section
variable{K:UA}{a:Ad}{β:Bg}{rs cs:a0a}{W:Wy}{s:D}{kd:Kd}{p q:Nat}
abbrev pP(kd:Kd)(rs cs:a0a)(p q:Nat):Nat->a0a->Nat:=k4 kd rs cs p q
abbrev vE(kd:Kd)(W:Wy)(rs cs:a0a)(p q j:Nat)(r:a0a):a0a:=ss kd (pP kd rs cs p q) W cs.length j r
abbrev eV(kd:Kd)(W:Wy)(rs cs:a0a)(p q:Nat)(x:Nat×a0a):D:= .tup [.int ((ro (vE kd W rs cs p q x.1 x.2):Nat):Int),.int ((rx (vE kd W rs cs p q x.1 x.2):Nat):Int)]
theorem my{kd:Kd}{f:a0a->Nat}(b:∀j v,pP kd rs cs p q j v=f v):∀(a:a0p) (j:Nat),wl (pP kd rs cs p q) j a=a.map f
 |[],_=>rfl
 |v::a,j=>by
  show pP kd rs cs p q j v::wl _ _ a=_;rw[b,my b a<|j+1];rfl
theorem MO(h:lq K a rs cs W s){j:Nat}{r:a0a}(d:j<=cs.length)(e:r∈fh W rs j)(g:kd.isP=O){y:Nat}(E:y∈vE kd W rs cs p q j r):y<2^1000:=by
 obtain⟨w,c,rfl⟩:=T7.mp E;obtain⟨k,n⟩:=xP c;have G:=h.c6;obtain⟨o,t,l⟩:=h.at d e;have D:=(f7 h.ok h.sm j d _ e).2;obtain⟨m,_,_⟩:=ur h.ok k (by grind) D;have tot:(w.map VT).sum<=40:=by rw[m,<-D];exact l
 have b:=λv c=>Um (db<|T7.mpr ⟨v,c,Z⟩) tot;unfold lQ;rw[Uf g];cases kd with
 |rare=>
  rw[my (λ_ _=>Z)];have:=zh (i:=w.length) b (by grind);rw[UV]at this;exact bW this vy
 |power=>
  rw[my (λ_ _=>Z)];exact bW (HH b) rk
 |_=>cases g
abbrev neS(kd:Kd)(a:Ad)(W:Wy)(s:D)(rs cs:a0a)(p q j:Nat)(r:a0a)(F:D)(l g:a0a)(c d e b:a0D):Ds:=[U<|.sh<|jp a W s rs cs,U<|.sh<|mD a kd rs cs p q,U<|.sh<|.int (j:Int),U<|.sh<|tN r,U<|.sh F,U<|.own<|(nI l).map D.int,U<|.own<|(nI g).map D.int,c,d,e,b]
theorem QE(S:a0p)(f:a0a->Nat){i:Nat}{v:a0a}(h:S[i]?=U v):(nI<|(S.take<|i+1).map f).map D.int=(nI<|(S.take i).map f).map D.int++[.int ((f v:Nat):Int)]:=by
 rw[dC h,UK];simp only[UK];rfl
theorem LE(h:lq K a rs cs W s)(C:Cl1 rs.length cs.length rs cs)(S:p<rs.length){j:Nat}{r:a0a}(V:j<=cs.length)(H:r∈fh W rs j)(F:vE kd W rs cs p q j r≠[]){N:a0A}(hN:j<cs.length->∀u,u∈fh W rs (j+1)->vE kd W rs cs p q (j+1) u≠[]->(j+1,u)∈N):
  (lN K a).1 [jp a W s rs cs,mD a kd rs cs p q,.int (j:Int),tN r,.dct O (N.map kP)<|N.map<|eV kd W rs cs p q] β=U (.ok<|eV kd W rs cs p q (j,r),β):=by
 have c6:=h.c6;have c:fA [nL cs]=U _:=da (by rw[TX,TX]);obtain⟨t,n2,n3⟩:=h.at V H;unfold lN
 apply aC;by_cases e:j=cs.length
 .subst e
  have e0:BX kd (λ_=>0) 0=lQ kd []:=by cases kd<;>rfl
  have I:vE kd W rs cs p q _ r=[lQ kd []]:=KO ..;rw[I]at F;have w:ro (vE kd W rs cs p q cs.length r)=lQ kd []:=by
   rw[I];exact UM.mp (lB F).1
  have g:rx (vE kd W rs cs p q cs.length r)=lQ kd []:=by
   rw[I];exact UM.mp (lD F).1
  have E:=Mz (K:=K) (a:=a) (β:=β) (xs:=rs) (ys:=cs) (p:=p) (q:=q) kd;rw[e0]at E;refine e8 (dv<|cp Z (ah (aa (dF Z Z uM) Z) c)<|eq_int.trans<|by rw[Ux Z])<|aB (ah (aa (dF Z Z E)<|aa (dF Z Z E) Z) bZ) ⟨Z,?_⟩;show Vw (D.tup [_,_])=Vw _;rw[w,g]
 .have b:j<cs.length:=by lia
  refine bj (dv<|cp Z (ah (aa (dF Z Z uM) Z) c)<|eq_int.trans<|by rw[UX rk])<|aO<|kH Z (Vp _)<|kH Z (Vp _) ?_;have X:∀v,v∈sT W cs j r↔v∈W j r/\vE kd W rs cs p q (j+1) (less r v)≠[]:=λv=>by
   rw[FJ];show v∈List.filter _ _↔_;rw[VS,UZ];exact and_congr_right λ_=>by omega
  obtain⟨w,g,ne⟩:=Kh b _ X F;have sl:=Sd h t (k:=j);refine bn (bG (dF Z Z<|K3 h b H) Z) (λi G J=>β=J/\∃L cb Q m,G=neS kd a W s rs cs p q j r _ (((sT W cs j r).take i).map λv=>hW kd (pP kd rs cs p q j v)<|ro<|vE kd W rs cs p q (j+1)<|less r v) (((sT W cs j r).take i).map λv=>hW kd (pP kd rs cs p q j v)<|rx<|vE kd W rs cs p q (j+1)<|less r v) L cb Q m) ⟨Z,Y,Y,Y,Y,Z⟩ ?_ ?_
  .rintro i d G _ hd ⟨rfl,L,cb,Q,m,rfl⟩
   obtain⟨v,g,rfl⟩:=bH hd;obtain⟨f5,R⟩:=(X v).mp<|Uo g;have o:=(h.ok j r).subset f5;have T:=h.nx H f5;have y:=Um (b8 o).sum n3;have vl:v.length=rs.length:=by rw[(b8 o).len];exact n2
   have dx:uZ (.dct O (N.map kP)<|N.map<|eV kd W rs cs p q) (.tup [.int ((j+1:Nat):Int),tN<|less r v])=U (eV kd W rs cs p q (j+1,less r v)):=by
    show(fM O<|dK O (((j+1:Nat):Int),nI<|less r v)).bind _=_;rw[fJ λe=>(by cases e)];exact ph<|hN b _ T R
   have n:kd.isP=O->pP kd rs cs p q j v<2^1000:=λA=>by
    cases kd with
    |rare=>exact bW (lX y) vy
    |power=>
     have:=s0 (i:=v.length) y;rw[UV]at this;exact bW this rk
    |_=>cases A
   have t2:=qP (K:=K) (a:=a) (β:=β) (xs:=rs) (ys:=cs) (p:=p) (q:=q) kd λA=>⟨n A,MO h b T A (lD R).1⟩;have M:∀f:a0a->Nat,((nI<|((sT W cs j r).take i).map f).map D.int).length<UC:=λf=>VC (show _<=500 by simp only[TX,Ve];lia) vy;refine⟨_,Z,BQ (cp Z (ah (aa (cp Z Z Z)<|aa (am Z<|wI (b8 o) t.2.1) Z) bZ) dx) Z ?_⟩;refine aD (dF Z Z<|Oi C (.inr Z) b y vl S kd) ?_;refine kI Z (aa (dF Z Z (qP (K:=K) (a:=a) (β:=β) (xs:=rs) (ys:=cs) (p:=p) (q:=q) kd λA=>⟨n A,MO h b T A (lB R).1⟩)) Z) (M _) ?_;refine aj<|kI Z (aa (dF Z Z t2) Z) (M _)<|cx ⟨Z,U<|.sh<|tN v,U<|.sh<|.int ((ro (vE kd W rs cs p q (j+1)<|less r v):Nat):Int),U<|.sh<|.int ((rx (vE kd W rs cs p q (j+1)<|less r v):Nat):Int),U<|.sh<|.int ((pP kd rs cs p q j v:Nat):Int),?_⟩;unfold neS;rw[QE _ _ g,QE _ _ g];rfl
  .rintro G _ ⟨rfl,L,cb,Q,m,rfl⟩
   rw[TX,UV];have m1:∀{l:a0a},l≠[]->wO [.lst<|(nI l).map _]=U (.int ((ro l:Nat):Int)):=λ{l} B=>by
    show tF _=_;rw[ij,<-(lB B).2.2];cases l with
    |nil=>exact UG Z B
    |cons x l=>rfl
   have m2:∀{l:a0a},l≠[]->qr [.lst<|(nI l).map D.int]=U (.int ((rx l:Nat):Int)):=λ{l} B=>by
    unfold qr;simp only[ij];rw[<-(lD B).2.2];cases l with
    |nil=>exact UG Z B
    |cons x l=>rfl
   have P:∀f:a0a->Nat,(sT W cs j r).map f≠[]:=λf z=>ne<|Yh.mp z;refine aj<|aB (ah (aa (ah Z<|m1<|P _)<|aa (ah Z<|m2<|P _) Z) bZ) ⟨Z,?_⟩;show Vw (D.tup [_,_])=Vw _;rw[w,g]
theorem IF(l:a0a):ic (nL l) (nL l)=U (.bl T4):=by
 have t:ri (nL l)=U (.list<|l.map λ(n:Nat)=> .int (n:Int)):=by
  show(toPs _).map _=_;rw[MS];rfl
 have c:n5 (nL l)=O:=yT 1 (λx a=>by
  obtain⟨i,_,rfl⟩:=T7.mp a;trivial) vy
 refine(LF<|vX Z t t c c).trans ?_;rw[Xo,Ry,Ux Z];rfl
theorem Ky{m:U3}{f1 f2:a0c->M D}{x:D}{s:Dn}(w:m∉mNs)(E:s.getD 1 Y=U (mD a kd rs cs p q))(c:a.Af=a.Ae->f1 [mD a kd rs cs p q] β=U (.ok x,β))(d:f2 [mD a kd rs cs p q] β=U (.ok x,β)):EL (iN a.Ae m f1 (ac 1) ax []) (iN a.Af m f2 (ac 1) ax []) s β=U (.ok x,β):=by
 have b:ac 1 s β=U _:=pZ E;unfold EL;by_cases h:a.Af=a.Ae
 .have e:iN a.Ae m f1 (ac 1) ax [] s β=U (.ok x,β):=by
   rw[<-h];exact dF b Z (c h) w
  rw[e]
 .have e:iN a.Ae m f1 (ac 1) ax [] s β=Y:=by
   unfold iN;rw[M.bind_ok b];simp only[h];rfl
  rw[e];exact dF b Z d w
theorem Nu{f:U3}{x:D}(h:a.Af=a.Ae)(e:(mNs.zip<|mFs kd rs cs p q).lookup f=U x):nR a.Ae f (mD a kd rs cs p q)=U x:=by
 show(if a.Af=a.Ae then _ else Y)=_;rw[Uf h];exact e
theorem SJ(m:Nat):(h8 W rs m).Pairwise λx y=>x.1<=y.1/\x≠y:=by
 unfold h8;refine List.pairwise_flatMap.mpr ⟨λk _=>WH.mpr<|(mF k).imp λh=>⟨Ug k,λe=>h (WS.mp e).2⟩,List.pairwise_lt_range.imp λ{i j} b x a y p=>?_⟩;obtain⟨_,_,rfl⟩:=T7.mp a;obtain⟨_,_,rfl⟩:=T7.mp p;exact⟨Xu b,λe=>U7 b (WS.mp e).1⟩
theorem Ku{m i k:Nat}{x y:Nat×a0a}(a:(h8 W rs m).reverse[i]?=U x)(p:(h8 W rs m).reverse[k]?=U y)(h:i<k):y.1<=x.1/\y≠x:=by
 obtain⟨b,rfl⟩:=Ui.mp a;obtain⟨c,rfl⟩:=Ui.mp p;exact Ww.mp (List.pairwise_reverse.mpr<|SJ m) _ _ b c h
theorem TU{m i:Nat}{x y:Nat×a0a}(a:(h8 W rs m).reverse[i]?=U x)(p:y∈h8 W rs m)(h:x.1<y.1):y∈(h8 W rs m).reverse.take i:=by
 obtain⟨k,b⟩:=List.getElem?_of_mem<|List.mem_reverse.mpr p;have:k<i:=by
  obtain z|z|z:=Xd k i
  .exact z
  .subst z
   rw[a]at b;cases b;lia
  .have:=(Ku a b z).1
   lia
 exact Uo (by rw[List.getElem?_take,Uf this];exact b)
theorem RJ{m i:Nat}{x:Nat×a0a}(a:(h8 W rs m).reverse[i]?=U x):x∉(h8 W rs m).reverse.take i:=λz=>by
 obtain⟨k,b⟩:=List.getElem?_of_mem z;rw[List.getElem?_take]at b;split at b
 .rename_i h
  exact(Ku b a h).2 Z
 .cases b
abbrev pos(W:Wy)(m:Nat)(x:Nat×a0a):Bool:=decide (0<mm W (m-x.1) x.1 x.2)
abbrev evN(W:Wy)(rs cs:a0a):a0A:=(h8 W rs cs.length).reverse.filter<|pos W cs.length
abbrev ebS(kd:Kd)(a:Ad)(W:Wy)(s:D)(rs cs:a0a)(p q:Nat)(N:a0A)(b c d e:a0D):Ds:=[U<|.sh<|jp a W s rs cs,U<|.sh<|mD a kd rs cs p q,U<|.odc O (N.map kP)<|N.map<|eV kd W rs cs p q,b,c,d,e]
theorem CV{x:Nat×a0a}:pos W cs.length x=O↔vE kd W rs cs p q x.1 x.2≠[]:=by
 rw[FJ];exact decide_eq_true_iff
theorem RB(h:lq K a rs cs W s)(C:Cl1 rs.length cs.length rs cs)(B:p<rs.length)(G:(h8 W rs cs.length).length<=1000):(iz K a).1 [jp a W s rs cs,mD a kd rs cs p q] β=U (.ok<|.dct O ((evN W rs cs).map kP)<|(evN W rs cs).map<|eV kd W rs cs p q,β):=by
 unfold iz
 refine aC<|g0 (am Z (by
  unfold gv
  apply aC;refine aj<|bj (p8 (dv<|cp (dF Z Z (aC<|aj<|aB (ah (aa (bx Z Z) Z) Z) ⟨Z,Z⟩)) (Ky vy Z (λx00=>?_) ?_)<|IF _)<|dv<|cp (dF Z Z uM) (Ky vy Z (λx00=>?_) ?_)<|IF _)<|aO<|cx ⟨Z,Z⟩
  .exact aC (aj<|aB (ah (aa (x_1 Z<|Nu x00 Z) Z) Z) ⟨Z,Z⟩)
  .exact aC (aj<|aB (ah (aa (bx Z Z) Z) Z) ⟨Z,Z⟩)
  .exact aC (aj<|aB (ah (aa (x_1 Z<|Nu x00 Z) Z) Z) ⟨Z,Z⟩)
  .exact aC (aj<|aB (ah (aa (bx Z Z) Z) Z) ⟨Z,Z⟩)))<|BP<|bn (ds:=(h8 W rs cs.length).reverse.map λx=>rD<|X_ W cs.length x) (bG (cp (dF Z Z<|zX G) Z Z) ?_) (λi w g=>β=g/\∃k l m n,w=ebS kd a W s rs cs p q (((h8 W rs cs.length).reverse.take i).filter<|pos W cs.length) k l m n) ⟨Z,Y,Y,Y,Y,Z⟩ ?_ ?_
 .show U _=U _
  rw[Ub,<-List.map_reverse];rfl
 .rintro i d w _ hd ⟨rfl,k,l,m,n,rfl⟩
  obtain⟨⟨j,r⟩,c,rfl⟩:=bH hd;have D:=pe.mp<|List.mem_reverse.mp<|Uo c;refine⟨_,Z,aj ?_⟩;have o:=dC c;have E:=RJ c;have v:=λy=>TU (y:=y) c;generalize (h8 W rs _).reverse.take i=T at o E v;have f:B_ (.int ((mm W (cs.length-j) j r:Nat):Int)) (.int 0)=U (.bl<|pos W cs.length (j,r)):=gt_int.trans (by congr 2;simp only[YL];omega);rw[o,List.filter_append];by_cases b:pos W cs.length (j,r)=O
  .rw[List.filter_cons_of_pos b]
   rw[b]at f;have A:kP _∉(T.filter<|pos W cs.length).map kP:=λz=>by
    obtain⟨y,M,e⟩:=T7.mp z;exact (λz=>E (VS.mp z).1)<|yn e▸M
   have H:(T.filter<|pos W cs.length).length<=1000:=by
    apply Um (XH _ _);have:=U6 Y2 o;rw[Ve,Uv,List.length_reverse]at this;lia
   refine e8 (dv<|cp Z Z f)<|xa (kd:=dK O<|kP _) (am Z<|LE h C B D.1 D.2 (CV.mp b) λt u=>(λu t J b=>VS.mpr ⟨v _ (pe.mpr ⟨t,J⟩)<|Yd j,CV.mpr b⟩:∀u,j<cs.length->u∈fh W rs _->vE kd W rs cs p q _ u≠[]->(j+1,u)∈T.filter _) u t) (ah Z bZ) Z (fJ λe=>(by cases e)) Z (VC (show _<=1000 by rw[TX];exact H) vy)<|cx ⟨Z,U<|.sh<|.int (j:Int),U<|.sh<|tN r,U<|.sh<|.int ((mm W (cs.length-j) j r:Nat):Int),U<|.sh<|.int ((xr W (cs.length-j) j r:Nat):Int),?_⟩;unfold K_ stY ebS;rw[Uh A,Uh A,UK,UK];rfl
  .rw[List.filter_cons_of_neg b,List.filter_nil,UQ]
   rw[Bool.not_eq_true]at b;rw[b]at f;exact bj (dv<|cp Z Z f)<|aO<|cx ⟨Z,U<|.sh<|.int _,U<|.sh<|tN r,U<|.sh<|.int _,U<|.sh<|.int _,Z⟩
 .rintro w _ ⟨rfl,k,l,m,n,rfl⟩
  rw[TX,UV];exact aj<|aB Z ⟨Z,Z⟩
abbrev lu(kd:Kd)(W:Wy)(rs cs:a0a)(p q:Nat)(x:Nat×a0a):D:= .tup [.int (x.1:Int),tN x.2,.int ((ro (vE kd W rs cs p q x.1 x.2):Nat):Int),.int ((rx (vE kd W rs cs p q x.1 x.2):Nat):Int)]
theorem OY(h:lq K a rs cs W s)(C:Cl1 rs.length cs.length rs cs)(c:p<rs.length)(w:(h8 W rs cs.length).length<=1000):(sY K a).1 [jp a W s rs cs,mD a kd rs cs p q] β=U (.ok<|((h8 W rs cs.length).filter<|pos W cs.length).map<|lu kd W rs cs p q,β):=by
 unfold sY
 dsimp only
 unfold Nv;rw[M.bind_ok<|am Z<|RB h C c w];refine Mr<|gb _ (λx=>rD<|X_ W cs.length x) _ _ (bG (dF Z Z<|zX w) ?_) (λx D=>⟨[U<|.int _,U<|tN _,U<|.int _,U<|.int _,U<|.dct O _<|(evN W rs cs).map<|eV kd W rs cs p q],Z,dv (cp Z Z<|gt_int.trans<|by congr 2;simp only[YL];omega),λd=>?_⟩)<|bf w
 .show U _=U _
  rw[Ub];rfl
 have b:uZ (.dct O ((evN W rs cs).map kP)<|(evN W rs cs).map<|eV kd W rs cs p q) (.tup [.int (x.1:Int),tN x.2])=U (eV kd W rs cs p q x):=by
  show(fM O<|dK O<|kP x).bind _=_;rw[fJ λe=>(by cases e)];exact ph<|VS.mpr ⟨List.mem_reverse.mpr D,d⟩
 exact ah (aa Z<|aa Z<|aa (cp (cp Z (ah Z bZ) b) Z Z)<|aa (cp (cp Z (ah Z bZ) b) Z Z) Z) Pd
abbrev sdD(xs a:a0a):D:= .tup [nL xs,nL a,.int ((pb (ck xs a):Nat):Int)]
theorem Tz{g:G}{a:Ds}{Q:a0z}{d:D}(q:Q (.rt d) β)(h:Gw g a β λo b=>b=β/\o= .rt d):Gw g a β Q:=by
 obtain⟨o,b,e,rfl,rfl⟩:=h;exact⟨_,_,e,q⟩
theorem OJ(k:Kd):(o6 K a).1 [.str k.nm] β=U (.ok<|.int ((lQ k []:Nat):Int),β):=by
 obtain⟨b,_⟩:=kIn k;unfold o6
 dsimp only
 refine aC<|aj<|aB (ah (aa (cp Z (ah Z bZ) b) Z) Z) ⟨Z,?_⟩;cases k<;>rfl
theorem OA{t n:Nat}(k:Kd)(b:k.isP=O->t<2^1000/\n<2^1000):(jW K a).1 [.str k.nm,.int (t:Int),.int (n:Int)] β=U (.ok<|.int ((hW k t n:Nat):Int),β):=by
 obtain⟨c,_⟩:=kIn k;unfold jW
 apply aC;unfold  hW;cases h:k.isP with
 |true=>exact e8 (dv<|cp Z (ah Z bZ)<|by rw[c,h])<|aB (cp Z Z<|ef (b h).1 (b h).2) ⟨Z,Z⟩
 |false=>exact bj (dv<|cp Z (ah Z bZ)<|by rw[c,h])<|aO<|aj<|aB (cp Z Z y6) ⟨Z,Z⟩
theorem BK{y:Nat}:∀l xs:a0a,(xs.zip l).map (λz=>(z.2,z.1*y))=KX l xs y
 |[],[]=>rfl
 |[],_::_=>rfl
 |_::_,[]=>rfl
 |n::l,x::xs=>U6 _<|BK l xs
abbrev ptS(k:Kd)(xs a:a0a)(p q j:Nat)(l:a0a)(t:Nat)(b c d:a0D):Ds:=[U<|.sh<|.str k.nm,U<|.sh<|sdD xs a,U<|.sh<|.tup [.int (p:Int),.int (q:Int)],U<|.sh<|.int (j:Int),U<|.sh<|nL l,U<|.sh<|.int (t:Int),b,c,d]
theorem LO{r c p q j:Nat}{xs s l:a0a}(C:Cl1 r c xs s)(X:j<c)(g:l.sum<=40)(eH:l.length=r)(ek:p<r)(k:Kd):(rG K a).1 [.str k.nm,sdD xs s,.tup [.int (p:Int),.int (q:Int)],.int (j:Int),nL l] β=U (.ok<|.int ((k4 k xs s p q j l:Nat):Int),β):=by
 obtain⟨H,k2,Q,I,k5⟩:=kEq k;obtain⟨i1,i2,L,i4⟩:=kIn k;obtain⟨y,S⟩:=uj (l:=s) (i:=j) (by rw[C.ly];exact X);have J:=C.ok.hy y<|Uo S;have f5:l.length<=4:=by rw[eH];have:=C.ok.lx;have:=C.lx;lia
 have x:=wP (nc C.ok.hx C.ok.hy) (by have:=k9 (xs:=xs) C.ok.ly;have:=C.ok.lx;lia)
 have R:∀(F:Nat×Nat->Nat),(∀(t:Nat) (z:Nat×Nat),z∈xs.zip l->∀u,Gw (aM (pq (fB<|f2 (dJ) (ac 0)<|fC<|.str<|Uy "off") (dm 5<|f2 dR (ac 5)<|aR vd<|ae (f2 xl (f2 dy (ac 6)<|aR gH<|ae (f2 gs (ac 1)<|fC<|.int 0)<|ax)<|ac 8)<|ax)<|pq (fB<|f2 (B_) (ac 8)<|fC<|.int 0) (dm 5<|f2 dR (ac 5)<|f2 nV (f2 dy (f2 dy (ac 6)<|ac 6)<|f2 gs (ac 1)<|fC<|.int 2)<|ac 8)<|gNil) gNil) (ptS k xs s p q j l t (U<|.sh<|.int (z.2:Int)) u<|U<|.sh<|.int ((z.1*y:Nat):Int)) β (λo b=>b=β/\o= .nx (ptS k xs s p q j l (t+F (z.2,z.1*y)) (U<|.sh<|.int (z.2:Int)) u<|U<|.sh<|.int ((z.1*y:Nat):Int))))->
   Gw (aM (dm 5<|fC<|.int 0)<|aM (Mg (nz<|ae (f2 gs (ac 1)<|fC<|.int 0)<|ae (ac 4)<|ax) (sgT<|CI (sgN 7)<|CI (sgN 6) K7)<|aM (dm 8<|f2 dy (ac 7)<|f2 gs (f2 gs (ac 1)<|fC<|.int 1)<|ac 3)<|pq (fB<|f2 (dJ) (ac 0)<|fC<|.str<|Uy "off") (dm 5<|f2 dR (ac 5)<|aR vd<|ae (f2 xl (f2 dy (ac 6)<|aR gH<|ae (f2 gs (ac 1)<|fC<|.int 0)<|ax)<|ac 8)<|ax)<|pq (fB<|f2 (B_) (ac 8)<|fC<|.int 0) (dm 5<|f2 dR (ac 5)<|f2 nV (f2 dy (f2 dy (ac 6)<|ac 6)<|f2 gs (ac 1)<|fC<|.int 2)<|ac 8)<|gNil)<|eS<|ac 5) (ll 9 [.str k.nm,sdD xs s,.tup [.int (p:Int),.int (q:Int)],.int (j:Int),nL l]) β (λo b=>b=β/\o= .rt (.int ((((KX l xs y).map F).sum:Nat):Int))):=λF st=>by
  refine aD (d:= .int 0) (β1:=β) Z ?_;refine bn (ds:=(xs.zip l).map λz=>D.tup [.int (z.1:Int),.int (z.2:Int)]) (β1:=β) (BM (.inl Z) (cp Z Z Z) Z) (λi E b=>β=b/\∃A N u,E=ptS k xs s p q j l (((KX l xs y).take i).map F).sum A N u) ⟨Z,Y,Y,Y,Z⟩ ?_ ?_
  .rintro i d E _ hd ⟨rfl,A,N,u,rfl⟩
   obtain⟨z,B,rfl⟩:=bH hd;have V:=Uo B;have v:=C.ok.hx z.1 (W7 V).1;have ez:(KX l xs y)[i]?=U (z.2,z.1*y):=by rw[<-BK,T9,B];rfl
   rw[NR (f:=F) ez];refine⟨_,Z,aD (d:= .int ((z.1*y:Nat):Int)) (β1:=β) (cp Z (cp (cp Z Z Z) Z<|tQ S)<|ef (oD rk)<|oD rk)<|aj ?_⟩;obtain⟨o,b,e,rfl,rfl⟩:=st (((KX l xs y).take i).map F).sum z V<|U<|.sh<|.int (z.1:Int);exact⟨_,_,e,Z,_,_,_,Z⟩
  .rintro E _ ⟨rfl,A,N,u,rfl⟩
   refine aj<|aB Z ⟨Z,?_⟩;rw[TX,<-TX (f:=λz:Nat×Nat=>(z.2,z.1*y)),BK,UV]
 have W:k.pl=O->∀{h:G},Gw (aM (eS<|f2 gs (aR ft<|ae (fC<|.int 0)<|ae (f2 gs (ac 4)<|f2 gs (ac 2)<|fC<|.int 0)<|ax)<|aR DZ<|ae (f2 (dJ) (ac 3)<|f2 gs (ac 2)<|fC<|.int 1)<|ax) h) (ll 9 [.str k.nm,sdD xs s,.tup [.int (p:Int),.int (q:Int)],.int (j:Int),nL l]) β (λo b=>b=β/\o= .rt (.int ((k4 k xs s p q j l:Nat):Int))):=λz h=>by
  obtain⟨n,M⟩:=uj (l:=l) (i:=p) (by rw[eH];exact ek);have P:k4 k xs s p q j l=(if j=q then n else 0):=by
   rw[<-jI (d:=0) M];cases k<;>first|rfl|cases z
  rw[P];have T:aR ft (ae (fC<|.int 0)<|ae (f2 gs (ac 4)<|f2 gs (ac 2)<|fC<|.int 0)<|ax) (hL<|ll 9 [.str k.nm,sdD xs s,.tup [.int (p:Int),.int (q:Int)],.int (j:Int),nL l]) β=U (.ok<|.lst [.int 0,.int (n:Int)],β):=ah (aa Z<|aa (cp Z (cp Z Z lT)<|tQ M) Z) lst2;by_cases w:j=q
  .refine aB (cp T (ah (aa (cp Z (cp Z Z nG)<|eq_int.trans<|by rw[Ux rk]) Z) Z) (z:= .int (n:Int)) Z) ⟨Z,by rw[Uf w]⟩
  .refine aB (cp T (ah (aa (cp Z (cp Z Z nG)<|eq_int.trans<|by rw[UX rk]) Z) Z) (z:= .int 0) Z) ⟨Z,by rw[Uh w];rfl⟩
 unfold rG
 dsimp only
 refine aC ?_;refine Tz (d:= .int ((k4 k xs s p q j l:Nat):Int)) ⟨Z,Z⟩ ?_;cases k with
 |rare=>exact e8 (dv<|cp Z Z H)<|aB (am Z<|ya g f5) ⟨Z,Z⟩
 |power=>
  refine bj (dv<|cp Z Z H)<|aO<|e8 (dv<|cp Z Z I)<|qb ?_;refine aD (d:= .int 1) (β1:=β) Z<|qb ?_;refine bn (ds:=(nI l).map D.int) (β1:=β) (bG Z Z) (λi E b=>β=b/\∃A,E=ptS .power xs s p q j l (pr<|(l.take i).map λn=>n^n) A Y Y) ⟨Z,Y,Z⟩ ?_ ?_
  .rintro i d E _ hd ⟨rfl,A,rfl⟩
   obtain⟨n,M,rfl⟩:=ig hd;refine⟨_,Z,aj<|aD (cp Z (am Z<|K8<|iP g M)<|ef (bW (s0 g) (by have:=BY (l:=l) i;lia))<|wJ (iP g M)<|iP g M)<|cx ⟨Z,U<|.sh<|.int (n:Int),?_⟩⟩;rw[iB (f:=λn=>n^n) M];rfl
  .rintro E _ ⟨rfl,A,rfl⟩
   rw[i5,UV];exact aB Z ⟨Z,Z⟩
 |most=>exact bj (dv<|cp Z Z H)<|aO<|bj (dv<|cp Z Z I)<|aO<|e8 (dv<|cp Z (ah Z bZ) L)<|W Z
 |least=>exact bj (dv<|cp Z Z H)<|aO<|bj (dv<|cp Z Z I)<|aO<|e8 (dv<|cp Z (ah Z bZ) L)<|W Z
 |square=>
  refine bj (dv<|cp Z Z H)<|aO<|bj (dv<|cp Z Z I)<|aO<|bj (dv<|cp Z (ah Z bZ) L)<|aO ?_;have:=R (sqF<|pb<|ck xs s) λt z B u=>by
   have v:=C.ok.hx z.1 (W7 B).1;have m:=Um (db (W7 B).2) g;have hw:=x3 v J;refine bj (β1:=β) (dv<|cp Z Z Q) ?_;by_cases cb:0<z.1*y
   .exact e8 (β1:=β) (dv<|cp Z Z<|gt_int.trans<|by rw[Ux rk]) (aD (cp Z (Px x.2 m hw cb Z (cp Z Z Z) Z) y6)<|cx ⟨Z,Z⟩)
   .refine bj (β1:=β) (dv<|cp Z Z<|gt_int.trans<|by rw[UX rk]) (aO<|cx ⟨Z,?_⟩)
    unfold sqF;rw[Uh cb];rfl
  show Gw _ _ _ λo b=>b=β/\o= .rt (.int ((sqN _ l xs (s.getD j 0):Nat):Int));rw[jI S];exact this
 |off=>
  refine bj (dv<|cp Z Z H)<|aO<|bj (dv<|cp Z Z I)<|aO<|bj (dv<|cp Z (ah Z bZ) L)<|aO ?_;have:=R (offF xs.sum) λt z B u=>by
   have m:=Um (db (W7 B).2) g;exact e8 (β1:=β) (dv<|cp Z Z Q)<|aD (cp Z (NB C.tx m Z (ah (aa (cp Z Z Z) Z)<|ie xs) Z) y6)<|cx ⟨Z,Z⟩
  show Gw _ _ _ λo b=>b=β/\o= .rt (.int ((offN _ l xs (s.getD j 0):Nat):Int));rw[jI S];exact this
theorem v1:∀x<8,∀s<8,(cg [x] s).length<=9:=by decide +kernel
theorem v2:∀x<8,∀y<8-x,∀s<8,(cg [x,y] s).length<=9:=by decide +kernel
theorem v3:∀x<8,∀y<8-x,∀z<8-x-y,∀s<8,(cg [x,y,z] s).length<=9:=by decide +kernel
theorem v4:∀x<5,∀y<5-x,∀z<5-x-y,∀w<5-x-y-z,∀s<5,(cg [x,y,z,w] s).length<=9:=by decide +kernel
theorem v9:∀(rs:a0a) (s:Nat),rs.length<=4->(rs.length<=3/\rs.sum<=7)\/rs.sum<=4->s<=rs.sum->(cg rs s).length<=9
 |[],s,_,_,h=>by
  obtain rfl:s=0:=by simpa using h
  decide
 |[x],s,_,h,e=>by
  simp at h e;exact v1 x rk s rk
 |[x,y],s,_,h,e=>by
  simp at h e;exact v2 x rk y rk s rk
 |[x,y,z],s,_,h,e=>by
  simp at h e;exact v3 x rk y rk z rk s rk
 |[x,y,z,w],s,_,h,e=>by
  simp at h e;exact v4 x rk y rk z rk w rk s rk
 |_::_::_::_::_::_,_,h,_,_=>by simp at h
theorem SM(h:lq K a rs cs W s)(h3:cs.length=1\/(rs.length<=3/\rs.sum<=7)\/rs.sum<=4):(oa W rs cs.length<|cs.length+1).length<64:=by
 rw[rT,Uv,TX,Xe,show(fh W rs 0).length=1 from Z];have f:∀{n:Nat},(∀k,k<=cs.length->(fh W rs k).length<=n)->(oa W rs cs.length _).length<=cs.length*n:=λ{n} q=>by
  unfold oa;refine Um (fK λk b=>?_) (by rw[UF];exact Ug _);rw[TX];exact q _ (by grind)
 obtain e|h3:=h3
 .have:=f λk=>i7 h
  lia
 .have:=f λk=>(λx05=>by
   have x00:(cs.drop k).sum<=rs.sum:=by
    have:=XD (l₁:=cs.take k) (l₂:=cs.drop k);rw[Wa]at this;have:=h.sm;lia
   refine Um (L2.Pu.nd_len (mF k) λx01 x02=>?_)<|v9 rs _ h.nr.2.1 h3 x00;obtain⟨x03,x04⟩:=f7 h.ok h.sm k x05 x01 x02;exact x04▸ki x03)
  have:=X0 9 h.c6;lia
theorem OE{B:a0b}(h:lq K a rs cs (wB B cs)<|j1 B)(hB:vr rs.length cs.length B)(b:cs.length=1\/(rs.length<=3/\rs.sum<=7)\/rs.sum<=4)(p:(h8 (wB B cs) rs cs.length).length<=1000):(m6 K a).1 [nL rs,nL cs,j1 B] β=U (.ok<|.lst<|((h8 (wB B cs) rs cs.length).filter<|pos (wB B cs) cs.length).map λx=>dK O<|kP x,β):=by
 unfold m6
 apply aC;refine aj<|aB (gb _ _ _ _ (bG (am Z<|OI h hB<|SM h b) ?_) (λx _=>⟨[U<|rD<|X_ (wB B cs) cs.length x],Z,dv (cp (cp Z Z Z) Z<|gt_int.trans<|by congr 2;lia),λ_=>Z⟩)<|bf p) ⟨Z,Z⟩;show U _=U _;rw[Ub];rfl
theorem Kj{ba:a0v}(h:ba.length<=1000):(sX K a).1 [lG ba] β=U (.ok<|lG ba,β):=
 aC (aj<|aB (bv ba _ _ Z (λx _=>⟨_,Z,Z⟩)<|bf h) ⟨Z,Z⟩)
abbrev bdS(ba:LI)(b:LP)(c d e f g:a0D):Ds:=[U<|.sh .bag,U<|.sh<|eo ba,U<|.grd<|gP b,c,d,e,f,g]
def BdI(r c:Nat)(ba:LI)(d e:a0D)(a:Ds)(β:Bg):Prop:=β.ok/\∃(b:LP) (f g h:a0D),a=bdS ba b d e f g h/\A_ r c b/\Kp ba b
theorem DO{r c:Nat}{ba:LI}(t:Tab r c ba)(ok:β.ok):∃(b:LP) (f:Bg),(jC K a).1 [.bag,eo ba] β=U (.ok<|eA b,f)/\A_ r c b/\Kp ba b/\f.ok:=by
 suffices h:∃g f,(jC K a).1 [.bag,eo ba] β=U (g,f)/\(∃(b:LP),g= .ok (eA b)/\A_ r c b/\Kp ba b/\f.ok) by
  obtain⟨g,f,e,b,rfl,P,S⟩:=h;exact⟨b,f,e,P,S⟩
 have r1:=t.r1;have c1:=t.c1;have c0:=t.c0;have r0:=t.r0;obtain⟨H,I,J⟩:=t.shp.at (i:=0) rk;have V:(gI ba)[0]?=U (H.map D.int):=by rw[T9,I];rfl
 unfold jC
 dsimp only
 apply mR;refine ML (NH (aa (ah Z<|yg<|by rw[TX,t.shp.1])<|aa (ah (aa (cp Z Z<|tR V) Z)<|da<|by rw[TX,J]) Z)<|(by
  have x00:∀x01:Nat,gF 1 [] _ _ _ _ [U<|.int<|0+(x01:Int),U<|.int _] β=U (.ok<|(UL c _).map pD,β):=λx01=>by
   have x02:=Kk (nv:=1) (b4:=[]) (it:=c9 gR<|ae (ac 1)<|ax) (tg:=g_ 0) (f:=aR fU<|ae (fC<|.int 0)<|ae (fC<|.int 40)<|ax) (δ:=[U<|.int<|0+(x01:Int),U<|.int (c:Int)]) (β:=β) (Ue c) _ (λ_=>pD (0,40))
    (bF Z<|F3 rk rk) (λx01 _=>⟨_,Z,ah Z bZ⟩) (bf<|by rw[UF];lia)
   rw[lz]at x02;rw[Xr];exact x02
  have x02:=v6 (nv:=1) (b4:=[1]) (it:=c9 gR<|ae (ac 0)<|ax) (tg:=g_ 0) (δ:=[U<|.int (r:Int),U<|.int _]) (Ue r) _ _
   (bF Z<|F3 rk rk) (λx01 _=>⟨_,Z,x00 x01⟩) (bf<|by rw[UF];lia)
  rw[lz]at x02;refine O5<|aj<|NJ x02 ⟨Z,?_⟩;show gP _=_;show Vx _ _=_;rw[Xr])) (Qy _) ?_;obtain⟨W,β1,p1,a0,a1,T⟩:=bU ok (lot:=3) vy vy;refine lL (dv<|cp (am Z p1) Z eq_int) ?_;by_cases hw:W=0
 .rw[Uf<|by simpa using hw]
  exact aB Z ⟨_,Z,A_.free r c,Kp.free t,T⟩
 rw[Uh<|by simpa using hw];apply aO;refine bn Z (λ_ s β=>∃z s4,BdI r c ba z s4 s β) ⟨Y,Y,T,qE r c,Y,Y,Y,Z,A_.free r c,Kp.free t⟩ ?_ ?_
 .rintro i d s β2 hd ⟨z,s4,L,b,f5,M,cb,rfl,o,C⟩
  obtain⟨x,hx,rfl⟩:=mP hd;obtain⟨y,hy,rfl⟩:=bH hx;obtain⟨q,m,rfl⟩:=bH hy;have hi:i<r:=by rw[<-t.shp.1];exact(Ui.mp m).1
  have X:=t.shp.2 q<|Uo m;refine⟨bdS ba b _ _ f5 M cb,Z,aj (bn Z (λ_=>BdI r c ba _<|U<|.sh<|.lst<|q.map _) ⟨L,b,f5,M,cb,Z,o,C⟩ ?_ (λs β h=>cx ⟨_,_,h⟩))⟩;rintro j d s af hd ⟨ab,b,f5,M,cb,rfl,o,C⟩;obtain⟨x,hx,rfl⟩:=mP hd;obtain⟨n,hn,rfl⟩:=bH hx;have hj:j<c:=by rw[<-X];exact(Ui.mp hn).1
  have ae:=t.le40 q (Uo m) n<|Uo hn;obtain⟨A,l,N⟩:=o.shp.at hi;refine⟨bdS ba b _ _ _ _ cb,Z,?_⟩;obtain⟨w,B,p4,W,w1,eH⟩:=bU ab (lot:=4) vy vy;apply aD (am Z p4)
  have E:∀(p:Int×Int) (s:Ds),r_ p->p.1<=n->n<=p.2->∀{β5:Bg} {fv:FD} {h:G} {Q:a0z},fv _ B=U (.ok<|pD p,β5)->
    (∀b,A_ r c b->Kp ba b->Gw h (bdS ba b _ _ _ _<|U<|.sh<|.int w) β5 Q)->
    Gw (aM (qC 2 (ac 3) (ac 5) fv) h) (bdS ba b (U<|.sh<|.int i) (U<|.sh<|.lst<|q.map D.int) (U<|.sh<|.int j) (U<|.sh<|.int n)<|U<|.sh<|.int w) B Q:=λp s hp P S β5 fv h Q e k=>by
   refine MK (ds:=A.map pD) (ja:=i) (jb:=j) e Z Z Z ?_ ?_ ?_ Z ?_
   .rw[TX,o.shp.1];exact pB rk rk
   .rw[T9,l];rfl
   .rw[TX,N];exact pB rk rk
   .have ek:(gP b).set i ((A.map pD).set j<|pD p)=gP (b.set i<|A.set j p):=by
     show _=Vx _ _;rw[Zg,Zg]
    rw[ek];exact k _ (o.set l hp)<|C.set l (pU m hn) P S
  refine lL (dv<|cp Z Z eq_int) ?_;by_cases q0:w=0
  .rw[Uf<|by simpa using q0]
   obtain⟨u,β5,p5,u0,u1,ad⟩:=bU eH (lot:=n+1) rk rk;obtain⟨v,F,p6,v0,v1,R⟩:=bU ad (lot:=3) vy vy;refine E (n-u,W0 40<|n+v) [] ⟨by show 0<=n-u;lia,by show n-u<=W0 40 _;lia,by show W0 40 _<=40;lia⟩ (by show n-u<=n;lia) (by show n<=W0 40 _;lia) (β5:=F) ?_ λb o C=>?_
   .exact ah (aa (cp Z (am (aa Z<|aa (cp Z Z Z) Z) p5) Z)<|aa (ah (aa Z<|aa (cp Z (am Z p6) Z) Z) DE) Z) bZ
   .refine aj (bj ?_<|aO<|cx ⟨R,b,_,_,_,Z,o,C⟩)
    rw[show(T4:Bool)=decide (w=1) by rw[q0];rfl];exact dv<|cp Z Z eq_int
  .rw[Uh<|by simpa using q0]
   refine aO<|aj<|lL (dv<|cp Z Z eq_int) ?_;by_cases q1:w=1
   .rw[Uf<|by simpa using q1]
    obtain⟨v,F,p6,v0,v1,R⟩:=bU eH (lot:=3) vy vy;exact E (0,max n v) [] ⟨by show(0:Int)<=0;lia,by show 0<=max n v;lia,by show max n v<=40;lia⟩ (by show 0<=n;lia) (by show n<=max n v;lia) (ah (aa Z<|aa (ah (aa Z<|aa (am Z p6) Z) QJ) Z) bZ) λb o C=>cx ⟨R,b,_,_,_,Z,o,C⟩
   .rw[Uh<|by simpa using q1]
    exact aO<|cx ⟨eH,b,_,_,_,Z,o,C⟩
 .rintro s β2 ⟨z,s4,L,b,f5,M,cb,rfl,o,C⟩
  exact aj<|aB Z ⟨b,Z,o,C,L⟩
theorem sk:∀{xs:a0e},(∀x∈xs,0<=x)->∃l:a0a,xs=nI l
 |[],_=>⟨[],Z⟩
 |x::xs,h=>by
  obtain⟨l,e⟩:=sk λy a=>h y<|T3 _ a;have:=h x Ud;exact⟨x.toNat::l,by rw[e];show _=((x.toNat:Nat):Int)::_;rw[Int.toNat_of_nonneg this]⟩
abbrev gdS(r c t:Nat)(ba:LI)(b d e:a0D):Ds:=[U<|.sh .bag,U<|.sh<|.int (r:Int),U<|.sh<|.int (c:Int),U<|.sh<|.int (t:Int),U<|.grd<|gI ba,b,d,e]
theorem qB{r c t:Nat}(s:β.ok)(w:1<=r)(E:r<=4)(G:1<=c)(M:c<=6)(H:t<=40):∃(ba:LI) (j:Bg),f6 K a [.bag,.int (r:Int),.int (c:Int),.int (t:Int)] β=U (.ok<|eo ba,j)/\(Tab r c ba/\tot ba=(t:Int))/\j.ok:=by
 suffices h:∃g j,f6 K a [.bag,.int _,.int _,.int _] β=U (g,j)/\(∃(ba:LI),g= .ok (eo ba)/\(Tab r c ba/\tot ba=(t:Int))/\j.ok) by
  obtain⟨g,j,e,ba,rfl,I,J⟩:=h;exact⟨ba,j,e,I,J⟩
 apply mR;refine ML (v6 (Ue r) _ _ (bF Z<|F3 rk rk) (λx _=>⟨_,Z,SD Z Z rk⟩)<|bf<|by rw[UF];lia) ?_ ?_
 .rw[X5]
  intro x p;obtain⟨_,_,rfl⟩:=T7.mp p;rw[<-Xr];exact iY _
 have L:(Ue r).map (λ_=>UL c<|D.int 0)=gI (UL r<|UL c 0):=by
  show _=Vx _ _;rw[Xr,List.map_const',Xr,UF]
 rw[L];refine bn (bF Z<|F3 rk rk) (λi q β=>β.ok/\∃ba o y A,q=gdS r c t ba o y A/\ko r c ba/\(∀row∈ba,∀x∈row,0<=x)/\tot ba=(i:Int)) ⟨s,UL r<|UL c 0,Y,Y,Y,Z,⟨nl,λrow h=>?_⟩,λrow h x p=>?_,?_⟩ ?_ ?_
 .rw[(Wz.mp h).2];simp
 .rw[(Wz.mp h).2]at p
  rw[(Wz.mp p).2];exact Int.le_refl _
 .unfold tot
  rw[Xr];have z:∀n:Nat,(UL n (0:Int)).sum=0:=λn=>by
   induction n with
   |zero=>rfl
   |succ n P=>rw[VF,UI,P];rfl
  rw[z,z];rfl
 .rintro i d q j hd ⟨k,ba,o,y,A,rfl,sh,nn,H⟩
  obtain⟨v,β1,N,Q,v1,B⟩:=bU k (lot:=(r:Int)) rk rk;obtain⟨u,β2,f,R,T,C⟩:=bU B (lot:=(c:Int)) rk rk;obtain⟨v,rfl⟩:∃n:Nat,v=(n:Int):=⟨v.toNat,rk⟩;obtain⟨u,rfl⟩:∃n:Nat,u=(n:Int):=⟨u.toNat,rk⟩;obtain⟨row,b,m⟩:=sh.at (i:=v) rk;obtain⟨x,p⟩:=NA (l:=row) (i:=u) rk;refine⟨_,Z,aD (am Z N)<|aD (am Z f)<|aj<|MK (ds:=row.map D.int) (ja:=v) (jb:=u) (cp (cp (cp Z Z<|tR (row:=row.map D.int) ?_) Z<|cw (d:= .int x) ?_) Z Z) Z Z Z ?_ ?_ ?_ Z<|cx ⟨C,ba.set v<|row.set u<|x+1,U<|.sh d,U<|.sh<|.int (v:Int),U<|.sh<|.int (u:Int),?_,sh.set b,Qz nn b ?_,?_⟩⟩
  .rw[T9,b];rfl
  .rw[T9,p];rfl
  .rw[TX,sh.1];exact pB rk rk
  .rw[T9,b];rfl
  .rw[TX,m];exact pB rk rk
  .show[_,_,_,_,U<|Sl.grd<|(gI ba).set v<|(row.map _).set u<|.int<|x+1,_,_,_]=_
   rw[show(gI ba).set v _=gI (ba.set v<|row.set u<|x+1) by show _=Vx _ _;rw[Zg,Zg]]
  .have:=nn _ (Uo b) x<|Uo p
   lia
  .have:=NN (v:=x+1) b p
   lia
 .rintro q j ⟨k,ba,o,y,A,rfl,sh,nn,F⟩
  rw[xK]at F;exact aj<|aB Z ⟨ba,Z,⟨⟨sh,nn,rk,w,E,G,M⟩,F⟩,k⟩
def Sml(r c:Nat)(a:LI):Prop:=Tab r c a/\tot a<=7/\(c=1\/r<=3\/tot a<=4)
theorem K6(V:β.ok):∃(p:LI) (r c:Nat) (b:Bg),lA K a [.bag] β=U (.ok<|eo p,b)/\Sml r c p/\b.ok:=by
 suffices h:∃g b,lA K a [.bag] β=U (g,b)/\(∃(p:LI) (r c:Nat),g= .ok (eo p)/\Sml r c p/\b.ok) by
  obtain⟨g,b,e,p,r,c,rfl,B,C⟩:=h;exact⟨p,r,c,b,e,B,C⟩
 apply mR;have u:∀(k n:Nat),dR (.int _) (.int _)=U (.int ((k+n:Nat):Int)):=λk n=>by show U _=_;rw[Y8]
 obtain⟨y,β1,F,I,x,j⟩:=bU V (lot:=8) vy vy;apply aD (am Z F);refine lL (dv<|cp Z Z eq_int) ?_;by_cases E:y=0
 .rw[Uf<|Ux E]
  obtain⟨t,q,l,v,w,d⟩:=bU j (lot:=5) vy vy;obtain⟨t,rfl⟩:∃n:Nat,t=(n:Int):=⟨t.toNat,rk⟩;obtain⟨p,s,e,g,f⟩:=qB (r:=4) (c:=6) (t:=t) d vy vy vy vy rk;exact aB (am (aa Z<|aa Z<|aa Z<|aa (am Z l) Z) e) ⟨p,4,6,Z,⟨g.1,rk,rk⟩,f⟩
 rw[Uh<|by simp[E]];refine lL (dv<|cp Z Z eq_int) ?_;by_cases G:y=1
 .rw[Uf<|Ux G]
  obtain⟨c,q,l,v,w,d⟩:=bU j (lot:=6) vy vy;obtain⟨t,s,m,M,P,f⟩:=bU d (lot:=8) vy vy;obtain⟨c,rfl⟩:∃n:Nat,c=(n:Int):=⟨c.toNat,rk⟩;obtain⟨t,rfl⟩:∃n:Nat,t=(n:Int):=⟨t.toNat,rk⟩;obtain⟨p,o,e,g,i⟩:=qB (r:=1) (c:=1+c) (t:=t) f vy vy rk rk rk;exact aB (am (aa Z<|aa Z<|aa (cp Z (am Z l)<|u 1 c)<|aa (am Z m) Z) e) ⟨p,1,1+c,Z,⟨g.1,rk,by omega⟩,i⟩
 rw[Uh<|by simp[G]];refine lL (dv<|cp Z Z eq_int) ?_;by_cases S:y=2
 .rw[Uf<|Ux S]
  obtain⟨c,q,l,v,w,d⟩:=bU j (lot:=4) vy vy;obtain⟨t,s,m,M,P,f⟩:=bU d (lot:=8) vy vy;obtain⟨c,rfl⟩:∃n:Nat,c=(n:Int):=⟨c.toNat,rk⟩;obtain⟨t,rfl⟩:∃n:Nat,t=(n:Int):=⟨t.toNat,rk⟩;obtain⟨p,o,e,g,i⟩:=qB (r:=1+c) (c:=1) (t:=t) f rk rk vy vy rk;exact aB (am (aa Z<|aa (cp Z (am Z l)<|u 1 c)<|aa Z<|aa (am Z m) Z) e) ⟨p,1+c,1,Z,⟨g.1,rk,rk⟩,i⟩
 rw[Uh<|by simp[S]];obtain⟨r,q,l,v,w,d⟩:=bU j (lot:=2) vy vy;obtain⟨c,s,m,M,P,f⟩:=bU d (lot:=3) vy vy;obtain⟨t,o,H,J,z,i⟩:=bU f (lot:=8) vy vy;obtain⟨r,rfl⟩:∃n:Nat,r=(n:Int):=⟨r.toNat,rk⟩;obtain⟨c,rfl⟩:∃n:Nat,c=(n:Int):=⟨c.toNat,rk⟩;obtain⟨t,rfl⟩:∃n:Nat,t=(n:Int):=⟨t.toNat,rk⟩;obtain⟨p,W,e,g,A⟩:=qB (r:=2+r) (c:=2+c) (t:=t) i rk rk rk rk rk;exact aD (cp Z (am Z l)<|u 2 r)<|aD (cp Z (am Z m)<|u 2 c)<|aj<|aB (am (aa Z<|aa Z<|aa Z<|aa (am Z H) Z) e) ⟨p,2+r,2+c,Z,⟨g.1,rk,rk⟩,A⟩
theorem few1:∀x<9,(x+1)*1<=500/\1<63:=by decide
theorem few2:∀x<9,∀y<9-x,(x+1)*((y+1)*1)<=500/\(x+1)*1<63:=by decide
theorem few3:∀x<9,∀y<9-x,∀z<9-x-y,(x+1)*((y+1)*((z+1)*1))<=500/\(x+1)*((y+1)*1)<63:=by decide
theorem few4:∀x<9,∀y<9-x,∀z<9-x-y,∀w<9-x-y-z,(x+1)*((y+1)*((z+1)*((w+1)*1)))<=500/\(x+1)*((y+1)*((z+1)*1))<63:=by decide
theorem few:∀{rs:a0a},1<=rs.length->rs.length<=4->rs.sum<=8->Ic rs/\pr (rs.dropLast.map (·+1))<63
 |[x],_,l,h=>by
  have q:=few1 x (by simp at h;lia);exact⟨⟨by show 1<=1;decide,l,rk,q.1⟩,q.2⟩
 |[x,y],_,l,h=>by
  have q:=few2 x (by simp at h;lia) y (by simp at h;lia);exact⟨⟨by show 1<=2;decide,l,rk,q.1⟩,q.2⟩
 |[x,y,z],_,l,h=>by
  have q:=few3 x (by simp at h;lia) y (by simp at h;lia) z (by simp at h;omega);exact⟨⟨by show 1<=3;decide,l,rk,q.1⟩,q.2⟩
 |[x,y,z,w],_,l,h=>by
  have q:=few4 x (by simp at h;lia) y (by simp at h;lia) z (by simp at h;omega) w (by simp at h;omega);exact⟨⟨by show 1<=4;decide,l,rk,q.1⟩,q.2⟩
 |[],h,_,_=>by simp at h
 |_::_::_::_::_::_,_,h,_=>by simp at h
theorem toB{r c:Nat}{b:LP}(h:A_ r c b):∃B,b=iO B/\vr r c B:=by
 have e:b=iO (b.map λa=>a.map λp=>(p.1.toNat,p.2.toNat)):=by
  unfold iO;rw[Ub];refine(List.map_id b).symm.trans<|UH λa g=>?_;show a=Vx _ _;rw[Ub];refine(List.map_id a).symm.trans<|UH λp i=>?_;obtain⟨q,s,w⟩:=h.ok a g p i;exact WM (show p.1=((p.1.toNat:Nat):Int) by lia) (show p.2=((p.2.toNat:Nat):Int) by lia)
 refine⟨_,e,h.shp.map,λa g p i=>?_⟩;obtain⟨d,j,rfl⟩:=T7.mp g;obtain⟨f,k,rfl⟩:=T7.mp i;obtain⟨q,s,w⟩:=h.ok d j f k;show f.1.toNat<=f.2.toNat/\f.2.toNat<=40;lia
theorem Pz{r c:Nat}{a:LI}{b:LP}(s:Sml r c a)(j:A_ r c b)(w:Kp a b):∃B rs cs,b=iO B/\u8 a B rs cs/\rs.length=r/\cs.length=c/\rs.sum<=8/\(cs.length=1\/(rs.length<=3/\rs.sum<=7)\/rs.sum<=4):=by
 obtain⟨t,n,o⟩:=s;obtain⟨B,rfl,ok⟩:=toB j;obtain⟨rs,e⟩:=sk λx q=>by
  obtain⟨p,f,rfl⟩:=T7.mp q;exact oI<|t.nn p f
 obtain⟨cs,g⟩:=sk (xs:=(tp c a).map VT) λx q=>by
  obtain⟨p,f,rfl⟩:=T7.mp q;exact oI<|MR t.nn p f
 have k:rs.length=r:=by rw[<-t.shp.1,<-TX VT,e,TX]
 have l:cs.length=c:=by rw[<-(uw (d:=(0:Int)) (c:=c) t.shp.1).1,<-TX VT];exact(U6 Y2 g).symm▸(TX _).symm
 have u:((rs.sum:Nat):Int)=tot a:=by
  unfold tot;rw[e,iZ]
 have i:rs.sum<=8:=by lia
 have m:rs.sum=cs.sum:=by
  have h:=FX t.shp.2;unfold tot at h;rw[g,e,iZ,iZ]at h;lia
 have M:=t.r0;have P:=t.r1;have E:=t.c1;obtain⟨G,K⟩:=few rk rk i;subst k l;exact⟨B,rs,cs,Z,⟨⟨G,K,m,t.c0,E⟩,t.shp,e,g,ok,w⟩,Z,Z,i,rk⟩
theorem OD{ba:LI}{B:a0b}{rs cs:a0a}(h:u8 ba B rs cs):(uI K a).1 [eo ba,j1 B] β=U (.ok<|o9 a B rs cs,β):=by
 obtain⟨e,g,_,_⟩:=h.nr;have p:=h.c6;have b:=sR (K:=K) (a:=a) (β:=β) (by rw[h.shp.1];lia);have c:=oz (K:=K) (a:=a) (β:=β) h.shp e rk rk;rw[h.rw1]at b;rw[h.cl1]at c;unfold uI
 refine aC<|aj<|aB ?_ ⟨Z,Z⟩;unfold yI;rw[M.bind_ok<|aa (am Z b)<|aa (am Z c) Z,M.bind_ok<|aa (am Z (Kj (K:=K) (a:=a) (β:=β) (ba:=gP<|iO B) (by rw[TX,(lI h.bok.1).1];lia))) Z];exact(M.bind_ok<|SO h<|NY h.bok.bnd (by have:=h.nr.2.1;lia)).trans Z
theorem sI(n:Nat){i:Int}:cW K a (n+1) [.int i,.int i] β=U (.ok<|.bl O,β):=by
 show fV 2 _ _ _=_;apply aC;refine bj (p7 (ah Z Z) Z)<|aO<|bj (dv<|cp Z Z Z)<|aO ?_;exact bj (p8 (dv<|cp (ah Z Z) (ah Z Z) Z)<|dv<|cp (ah Z Z) (ah Z Z) Z)<|aO<|aj<|aB (NG (ah Z Z)<|cp Z Z<|by rw[Pu.eq_int,Ux Z]) ⟨Z,Z⟩
theorem SF(a:a0c):y3 O (.bl T4) (.lst<|a.map λ_=> .bl O)=U (.bl O):=by
 have h:(a.map λ_=>D.bl O).all gq=O/\(a.map λ_=>D.bl O).any (λy=>eqF y<|.bl T4)=T4:=by
  induction a with
  |nil=>exact⟨Z,Z⟩
  |cons x a p=>exact⟨by rw[Ul,ZK,p.1];rfl,by rw[Ul,YW,p.2];rfl⟩
 unfold y3 inB;simp only[dZ,Wf,gq,XF,h.1,h.2,Vm,Bool.not_false]
theorem wD(n:Nat){d:D}{p:a0c}(q:d= .lst p\/d= .tup p)(b:p.length<=1000)(h:∀x∈p,cW K a (n+1) [x,x] β=U (.ok<|.bl O,β)):cW K a (n+2) [d,d] β=U (.ok<|.bl O,β):=by
 have z:d8 p p=p.map λx=> .tup [x,x]:=by simpa using w5 (f:=id) (g:=id) p
 show fV 2 _ _ _=_;apply aC;obtain rfl|rfl:=q
 all_goals
  refine e8 (p7 (ah Z Z) Z)<|qb<|bj (p8 (dv<|cp (ah Z Z) (ah Z Z) Z)<|dv<|cp (ah Z Z) (ah Z Z) Z)<|aO<|qb ?_;exact bj (dv<|cp (ah Z Z) (ah Z Z)<|ne_int.trans nl)<|aO<|aB (cp Z (bv p _ _ ((oC Z Z Z Z).trans<|by rw[z]) (λx s=>⟨[U x,U x],Z,am Z<|h x s⟩)<|bf b)<|SF p) ⟨Z,Z⟩
theorem OM(s:β.ok):∃(k:Kd) (c:Bg),(jY K a).1 [.bag] β=U (.ok<|.str k.nm,c)/\c.ok:=by
 obtain⟨v,w,g,j,v1,d⟩:=bU s (lot:=6) vy vy;have h:∀{β:Bg},aR ft (ae (fC<|.str<|Uy "rare")<|ae (fC<|.str<|Uy "square")<|ae (fC<|.str<|Uy "power")<|ae (fC<|.str<|Uy "off")<|ae (fC<|.str<|Uy "most")<|ae (fC<|.str<|Uy "least")<|ax) [U D.bag] β=U (.ok<|.lst [.str _,.str _,.str _,.str Kd.off.nm,.str _,.str _],β):=λ{β}=>ah Z (by
  unfold ft;rfl)
 have p:∀(k:Kd),gs _ _=U _->∃(k:Kd) (c:Bg),(jY K a).1 [.bag] β=U (.ok<|.str k.nm,c)/\c.ok:=λk e=>by
  suffices q:∃x b,(jY K a).1 [.bag] β=U (x,b)/\(x= .ok (.str k.nm)/\b.ok) by
   obtain⟨x,b,i,rfl,f⟩:=q;exact⟨k,b,i,f⟩
  unfold jY
  exact mR<|aj<|aB (cp h (am Z g) e) ⟨Z,d⟩
 have:v=0\/v=1\/v=2\/v=3\/v=4\/v=5:=by lia
 obtain rfl|rfl|rfl|rfl|rfl|rfl:=this
 .exact p .rare Z
 .exact p .square Z
 .exact p .power Z
 .exact p .off Z
 .exact p .most Z
 .exact p .least Z
theorem j5{r c:Nat}{s:LI}(t:Tab r c s)(w:β.ok):∃(p q:Nat) (j:Bg),(kZ K a).1 [.bag,eo s] β=U (.ok<|.tup [.int (p:Int),.int (q:Int)],j)/\p<r/\q<c/\j.ok:=by
 have G:=t.r0;have M:=t.r1;have P:=t.c0;have S:=t.c1;obtain⟨v,β1,m,y,v1,k⟩:=bU w (lot:=(r:Int)) rk rk;obtain⟨u,E,n,A,B,f⟩:=bU k (lot:=(c:Int)) rk rk;obtain⟨e,g,h⟩:=t.shp.at (i:=0) rk;have l:(gI s)[0]?=U (e.map D.int):=by rw[T9,g];rfl
 obtain⟨p,rfl⟩:∃p:Nat,v=(p:Int):=⟨v.toNat,rk⟩;obtain⟨q,rfl⟩:∃q:Nat,u=(q:Int):=⟨u.toNat,rk⟩
 suffices z:∃x b,(kZ K a).1 [.bag,eo s] β=U (x,b)/\(x= .ok (.tup [.int (p:Int),.int (q:Int)])/\b.ok) by
  obtain⟨x,b,o,rfl,f⟩:=z;exact⟨p,q,b,o,rk,rk,f⟩
 unfold kZ
 apply mR;exact aD (am (aa Z<|aa (ah Z<|yg<|by rw[TX,t.shp.1]) Z) m)<|aj<|aB (ah (aa Z<|aa (am (aa Z<|aa (ah (aa (cp Z Z<|tR l) Z)<|da<|by rw[TX,h]) Z) n) Z) bZ) ⟨Z,f⟩
theorem u8.sums{g:LI}{B:a0b}(p:u8 g B rs cs):(∀β,(gz K a).1 [eo g] β=U (.ok<|nL rs,β))/\∀β,(eG K a).1 [eo g] β=U (.ok<|nL cs,β):=by
 have s:=p.c6;have d:=p.nr.2.1;refine⟨λβ=>?_,λβ=>?_⟩
 .have b:=sR (K:=K) (a:=a) (β:=β) (by rw[p.shp.1];lia)
  rw[p.rw1]at b;exact b
 .have c:=oz (K:=K) (a:=a) (β:=β) p.shp p.nr.1 rk rk
  rw[p.cl1]at c;exact c
theorem u8.cl{g:LI}{B:a0b}(a:u8 g B rs cs)(b:rs.sum<=8):Cl1 rs.length cs.length rs cs:=by
 have c:=a.sm;exact⟨⟨a.nr.2.1,a.c6,λx q=>Um (db q) rk,λy s=>Um (db s) rk⟩,Z,Z,rk⟩
theorem MW(n:Nat){l:a0a}(h:l.length<=4):cW K a (n+2) [tN l,tN l] β=U (.ok<|.bl O,β):=wD n (.inr Z) (by rw[TX,TX];lia) λz b=>by
 obtain⟨i,_,rfl⟩:=T7.mp b;exact sI n
theorem PH{N:a0A}(b:N.length<=1000)(h:∀x∈N,x.2.length<=4):cW K a 5 [.lst<|N.map λx=>dK O<|kP x,.lst<|N.map λx=>dK O<|kP x] β=U (.ok<|.bl O,β):=wD 3 (.inl Z) (by rw[TX];exact b) λz c=>by
 obtain⟨x,p,rfl⟩:=T7.mp c;refine wD 2 (.inr Z) (by show 2<=1000;decide) λw hw=>?_;obtain rfl|hw:=Uq.mp hw
 .exact sI 2
 .obtain rfl:=UM.mp hw
  exact MW 1<|h x p
theorem Sg{x:Nat×a0a}(h:x.2.length<=4):cW K a 5 [lu kd W rs cs p q x,lu kd W rs cs p q x] β=U (.ok<|.bl O,β):=wD 3 (.inr Z) (by show 4<=1000;decide) λw hw=>by
 obtain rfl|hw:=Uq.mp hw
 .exact sI 3
 obtain rfl|hw:=Uq.mp hw
 .exact MW 2 h
 obtain rfl|hw:=Uq.mp hw
 .exact sI 3
 obtain rfl:=UM.mp hw;exact sI 3
theorem Sx(b:kd.isP=O){v:a0a}(h:v.sum<=40)(j:Nat):pP kd rs cs p q j v<2^1000:=by
 cases kd with
 |rare=>exact bW (lX h) vy
 |power=>
  have:=s0 (i:=v.length) h;rw[UV]at this;exact bW this rk
 |_=>cases b
theorem TL(c:kd.isP=O){a:a0p}(b:∀v∈a,v.sum<=40)(d:a.length<=6)(tot:(a.map VT).sum<=40)(i j:Nat):lQ kd (wl (pP kd rs cs p q) j<|a.take i)<2^1000:=by
 unfold lQ;rw[Uf c];cases kd with
 |rare=>
  rw[my (λ_ _=>Z)];exact bW (zh b d) vy
 |power=>
  rw[my (λ_ _=>Z)];have h:=BY (l:=a.map VT) i;rw[<-ZL]at h;exact bW (HH (cs:=a.take i) λv g=>b v<|Wl g) rk
 |_=>cases c
theorem QG{l:a0a}(b:l≠[]):wO [.lst<|(nI l).map D.int]=U (.int ((ro l:Nat):Int)):=by
 show tF _=_;rw[ij,<-(lB b).2.2];cases l with
 |nil=>exact UG Z b
 |cons x l=>rfl
theorem QI{l:a0a}(b:l≠[]):qr [.lst<|(nI l).map D.int]=U (.int ((rx l:Nat):Int)):=by
 unfold qr;simp only[ij];rw[<-(lD b).2.2];cases l with
 |nil=>exact UG Z b
 |cons x l=>rfl
variable{n:Nat}{vs:a0p}
abbrev csC(vs:a0p):a0a:=vs.map VT
abbrev rwC(n:Nat)(vs:a0p):LI:=tp n<|vs.map nI
theorem Na(v:a0a)(j:Nat):(nI v).getD j 0=((v.getD j 0:Nat):Int):=by
 rw[T6,T6,T9];cases v[j]?<;>rfl
theorem Ld(c:∀v∈vs,v.length=n):(rwC n vs).map VT=nI (B4 n vs):=by
 have e:B4 n vs=(Ue n).map λj=>(B4 n vs).getD j 0:=Wj (by rw[qm c,TX,UF]) λi d f=>by
  rw[WX,Xq,fN d]
 rw[e];show Vx _ (Vx _ _)=Vx _ _;rw[Ub,Ub];refine UH λj b=>?_;show((vs.map nI).map λa=>a.getD j 0).sum=(((B4 n vs).getD j 0:Nat):Int);rw[GX c (UD.mp b),<-iZ,Ub];show _=(Vx _<|Vx _ _).sum;rw[Ub];exact U6 VT<|UH λv _=>Na v j
theorem SN(vs:a0p):(vs.map nI).map VT=nI (csC vs):=by
 show _=Vx _ _;rw[Ub,Ub];exact UH λv _=>iZ v
theorem PV{i:Nat}(b:i<n):(rwC n vs)[i]?=U (nI<|vs.map λv=>v.getD i 0):=by
 rw[Pf b];congr 1;show _=Vx _ _;rw[Ub,Ub];exact UH λv _=>Na v i
theorem HX:∀{a:a0h} {v:a0a},(∀(i:Nat) (p:Nat×Nat) (x:Nat),a[i]?=U p->v[i]?=U x->p.1<=x/\x<=p.2)->Q_ a v=O
 |[],_,_=>by rfl
 |_::_,[],_=>by rfl
 |p::a,x::v,h=>by
  have:=h 0 p x Z Z;show(decide _&&decide _&&Q_ a v)=O;rw[HX λi p x b c=>h (i+1) p x b c,Ux this.1,Ux this.2];rfl
theorem zm:∀{a:LI},(∀row∈a,∀x∈row,0<=x)->∃l:a0p,a=l.map nI
 |[],_=>⟨[],Z⟩
 |x::a,h=>by
  obtain⟨l,e⟩:=zm λy n=>h y<|T3 _ n;obtain⟨m,b⟩:=sk<|h x Ud;exact⟨m::l,by rw[e,b];rfl⟩
theorem u8.pos{a:LI}{B:a0b}{rs cs:a0a}(h:u8 a B rs cs)(w:∀row∈a,∀x∈row,0<=x):0<mm (wB B cs) cs.length 0 rs:=by
 obtain⟨vs,e⟩:=zm<|MR w;have n:=uw (d:=(0:Int)) (c:=cs.length) h.shp.1;have o:vs.length=cs.length:=by rw[<-TX,<-e];exact n.1
 have k:∀v∈vs,v.length=rs.length:=λv g=>by
  rw[<-TX];apply n.2 _;show nI v∈tp _ a;rw[e];exact T7.mpr ⟨v,g,Z⟩
 have l:a=rwC rs.length vs:=by rw[<-R6 h.shp,e]
 have t:cs=csC vs:=i6 (by rw[<-SN,<-e,h.cl1]);refine FH ?_ o;rw[(i6 (by rw[<-Ld k,<-l,h.rw1]):rs=B4 _ vs)];refine MJ k λi r v g E=>?_;rw[V4];have y:=(Ui.mp g).1;refine VS.mpr ⟨?_,HX λj p x m s=>?_⟩
 .have q:cs.getD i 0=v.sum:=by rw[t,T6,T9,g];rfl
  rw[q];exact ki E
 .unfold nZ at m
  obtain⟨row,b,rfl⟩:=bH m;have A:=h.bok.1.2 _<|Uo b;have u:j<rs.length:=by rw[<-k v (Uo g)];exact(Ui.mp s).1
  have K:H_ (iO B) j i=U (((row.getD i _).1:Int),((row.getD i (0,0)).2:Int)):=pU (by rw[T9,b];rfl) (by rw[T9,fN rk,Ua rk];rfl);have:=h.kp j i _ _ (pU (by rw[l];exact PV u) (by rw[T9,T9,g];show U ((v.getD j 0:Nat):Int)=_;rw[T6,s];rfl):H_ a j i=U (x:Int)) K;lia
theorem Nz(B:a0b):j1 B= .lst (B.map λa=>D.lst<|a.map pN):=by
 show D.lst _=_;rw[Ub,Ub];exact U6 _<|UH λa _=>U6 D.lst (by show Vx pD _=_;rw[Ub];rfl)
theorem RX(B:a0b)(cs:a0a)(k:Nat):∀i r,wB (B.map (·.drop k)) (cs.drop k) i r=wB B cs (k+i) r:=λi r=>by
 unfold wB nZ;rw[Ub,T6,Zl,<-T6];exact U6 (λl=>vB l r _) (UH λa _=>by show(a.drop k).getD i _=_;rw[T6,Zl,<-T6])
theorem vr.drop{r c:Nat}{B:a0b}(h:vr r c B)(k:Nat):vr r (c-k) (B.map (·.drop k)):=⟨⟨by rw[TX,h.1.1],λa d=>by
 obtain⟨b,e,rfl⟩:=T7.mp d;rw[X7,h.1.2 b e]⟩,λa d p f=>by
 obtain⟨b,e,rfl⟩:=T7.mp d;exact h.2 b e p<|List.mem_of_mem_drop f⟩
abbrev cD(vs:a0p):D:= .lst<|vs.map nL
theorem LT{rs cs:a0a}{B:a0b}(b:lq K a rs cs (wB B cs)<|j1 B)(hB:vr rs.length cs.length B)(m:rs.sum<=8){k:Nat}{u:a0a}(e:k<=cs.length)(f:u∈fh (wB B cs) rs k):(k6 K a).1 [nL cs,j1 B,dK O<|kP (k,u)] β=U (.ok<|.lst<|(qk (wB B cs) (cs.length-k) k u).map cD,β)/\(qk (wB B cs) (cs.length-k) k u).length<=40320:=by
 obtain⟨o,r,v⟩:=b.at e f;have w:=b.c6;have y:=b.nr.2.1;obtain⟨s,p⟩:=f7 b.ok b.sm k e u f;have g:=Um s.sum m;have c:vr u.length (cs.drop k).length (B.map (·.drop k)):=by
  rw[r,X7];exact hB.drop k
 have t:=X7 (l:=cs) (i:=k);have h:(lst (wB (B.map (·.drop k))<|cs.drop k) u (cs.drop k).length).map (·.1)=qk (wB B cs) (cs.length-k) k u:=by rw[SR,HJ<|RX B cs k,t];rfl
 have j:=DM (K:=K) (a:=a) (β:=β) o p (by grind) g c;rw[show(lst _ u _).map _=((lst _ u _).map _).map cD by rw[Ub];rfl,h]at j;refine⟨?_,?_⟩
 .apply aC
  refine aD (β1:=β) ?_<|aj<|aB (am (aa (cp Z Z nG)<|aa ((kG Z<|cp Z Z lT).trans ?_)<|aa Z Z) j) ⟨Z,Z⟩
  .rw[Nz<|B.map _,Ub]
   exact bv B _ (λn=>D.lst<|(n.drop k).map pN) (bG Z<|by rw[Nz];rfl) (λn _=>⟨[U<|.lst<|n.map pN,U<|dK O<|kP _],Z,(kG Z<|cp Z Z lT).trans<|by rw[nX,Xg]⟩) (bf<|by rw[hB.1.1];lia)
  .rw[nX,<-Xg,<-Xg]
 .rw[<-h,TX]
  exact Um (z5 (BR _ _) p<|Ug _)<|QD g
theorem uc{n:Type}{f:n->PyData}(b:∀x,Xo (f x) (f x)=O):∀a:List n,WP (a.map f) (a.map f)=O
 |[]=>by simp[WP]
 |x::a=>by rw[Ul,WP,b,uc b a];rfl
theorem nlE{k:Kd}{W:Wy}{rs cs:a0a}{p q:Nat}:∀N:a0A,noLs (N.map<|lu k W rs cs p q)=O
 |[]=>rfl
 |x::N=>by
  rw[Ul,noLs,nlE N];simp only[noL,noLs,iY,YS]
theorem lst3{x y z:D}:ft [x,y,z]=U (.lst [x,y,z]):=by
 unfold ft;rw[Uf<|bf (by show 3<=1000;decide)]
abbrev l31(g:D)(B:a0b)(rs cs:a0a)(k:Kd)(p q:Nat)(d m:D)(c:a0c)(b:D)(e f h i j l o r:a0D):Ds:=[Y,U<|.sh .bag,U<|.sh g,U<|.sh<|j1 B,U<|.sh<|.str k.nm,U<|.sh<|.tup [.int (p:Int),.int (q:Int)],U<|.sh<|sdD rs cs,U<|.sh d,U<|.sh m,U<|.own c,U<|.sh b,e,f,h,i,j,l,o,r]
theorem LX(β:Bg)(ok:β.ok):∃I,(sV K a).1 [Y,U<|.sh .bag,Y,Y,Y,Y,Y,Y,Y,Y,Y,Y,Y,Y,Y,Y,Y,Y,Y] β=U (.rt<|.bl O,I):=by
 suffices h:Gw ((sV K a).1) [Y,U<|.sh .bag,Y,Y,Y,Y,Y,Y,Y,Y,Y,Y,Y,Y,Y,Y,Y,Y,Y] β (λo _=>o= .rt (.bl O)) by
  obtain⟨o,I,e,rfl⟩:=h;exact⟨I,e⟩
 obtain⟨g,r,c,β1,e1,f5,V⟩:=K6 ok;obtain⟨l,al,e2,bl,kl,ab⟩:=DO f5.1 V;obtain⟨B,rs,cs,rfl,G,rfl,rfl,s8,h3⟩:=Pz f5 bl kl;obtain⟨k,an,e3,ad⟩:=OM ab;obtain⟨p,q,R,e4,hp,hq,af⟩:=j5 f5.1 ad;have C:=G.cl s8;have Q:lq K a rs cs (wB B cs) (j1 B):=G.nt;have c6:=G.c6;have r4:=G.nr.2.1;have l9:(h8 (wB B cs) rs cs.length).length<=1000:=Um (fK λk S=>by
  have:=UD.mp S;rw[TX];exact i7 Q rk) (by rw[UF];lia)
 have en:=λβ=>OY (β:=β) (kd:=k) (q:=q) Q C hp l9;have li:=λβ=>OE (β:=β) Q G.bok h3 l9;have hN:∀x∈(h8 (wB B cs) rs cs.length).filter (pos (wB B cs) cs.length),(x.1<=cs.length/\x.2∈fh (wB B cs) rs x.1)/\vE k (wB B cs) rs cs p q x.1 x.2≠[]:=λx P=>⟨pe.mp (VS.mp P).1,CV.mp (VS.mp P).2⟩;have n9:((h8 (wB B cs) rs cs.length).filter<|pos (wB B cs) cs.length).length<=1000:=Um (XH _ _) l9;have n0:0<((h8 (wB B cs) rs cs.length).filter<|pos (wB B cs) cs.length).length:=List.length_pos_of_mem (VS.mpr ⟨pe.mpr ⟨Vp _,UM.mpr Z⟩,Ux<|G.pos f5.1.nn⟩:((0,rs):Nat×a0a)∈_);generalize (h8 (wB B cs) rs cs.length).filter (pos (wB B cs) cs.length)=N at*;have x4:∀x∈N,x.2.length<=4:=λx P=>by
  obtain⟨_,n2,_⟩:=Q.at (hN x P).1.1 (hN x P).1.2;lia
 unfold sV
 dsimp only
 refine aD (am Z e1)<|aD (am Z e2)<|aD (am Z e3)<|aD (am Z e4)<|aD (am Z<|(by
  unfold o3
  exact aC<|aD (am Z<|G.sums.1 _)<|aD (am Z<|G.sums.2 _)<|aj<|aB (ah (aa Z<|aa Z<|aa (am Z<|LU C.ok) Z) (by
   unfold fU;rw[Uf<|bf (by show 3<=1000;decide)])) ⟨Z,Z⟩))<|aD (am Z<|OD G)<|aD (am Z<|(by
  unfold o4
  dsimp only
  apply aC;refine aj<|aB ?_ ⟨Z,Z⟩;unfold yI;rw[M.bind_ok<|aa Z<|aa (am Z<|G.sums.1 _)<|aa (am Z<|G.sums.2 _) Z,M.bind_ok<|aa Z Z];exact(M.bind_ok<|Oy C.ok G.toNt0 hp hq k).trans Z))<|Pa (by exact(M.bind_ok<|aa Z<|aa Z Z).trans<|en R)<|aD (am (aa (cp Z Z Z)<|aa (cp Z Z Z)<|aa Z Z)<|li R) ?_;generalize eo g=gd;refine bj (p9<|p7 (am (aa (bv N (lu k (wB B cs) rs cs p q) (λx=>dK O<|kP x) (bG Z Z) (λx _=>⟨[U<|lu k (wB B cs) rs cs p q x],Z,Z⟩)<|bf n9)<|aa Z Z)<|PH n9 x4) Z)<|aO ?_;have ln:fA [.lst<|N.map λx=>dK O<|kP x]=U (.int (N.length:Int)):=da (by rw[TX]);obtain⟨y,s,pp,y0,y1,ao⟩:=bU af (lot:=(N.length:Int)) rk rk;obtain⟨y,rfl⟩:∃n:Nat,y=(n:Int):=⟨y.toNat,rk⟩;have n1:(N.length:Int)-1=((N.length-1:Nat):Int):=by grind
 refine bn (bG (ah (aa Z<|aa (am (aa Z<|aa (ah Z ln) Z) pp)<|aa (cp (ah Z ln) Z (by show U (D.int _)=_;rw[n1])) Z)<|lst3) Z) (λ_ E I=>s=I/\∃J L F H f m A,E=(l31 gd B rs cs k p q (o9 a B rs cs) (mD a k rs cs p q) _ (.lst<|N.map λx=>dK O<|kP x) J L F H f m A Y)) ⟨Z,Y,Y,Y,Y,Y,Y,Y,Z⟩ ?_ ?_
 .rintro i d E _ hd ⟨rfl,J,L,F,H,f,m,A,rfl⟩
  obtain⟨t,rfl,ht⟩:∃t:Nat,d= .int (t:Int)/\t<N.length:=by
   have:=Uo hd;obtain rfl|this:=Uq.mp this
   .exact⟨0,Z,n0⟩
   obtain rfl|this:=Uq.mp this
   .exact⟨y,Z,rk⟩
   .obtain rfl:=UM.mp this
    exact⟨_,Z,rk⟩
  obtain⟨⟨j,u⟩,P⟩:=uj ht;have hm:=Uo P;obtain⟨⟨hj,hu⟩,T⟩:=hN _ hm;obtain⟨ap,n2,n3⟩:=Q.at hj hu;obtain⟨le,us⟩:=f7 Q.ok Q.sm j hj u hu;obtain⟨lf,l4⟩:=LT Q G.bok s8 hj hu;have cb:gs (.lst<|N.map λx=>dK O<|kP x) (.int (t:Int))=U (dK O<|kP (j,u)):=cw (by rw[T9,P];rfl);refine⟨_,Z,kH Z (Vp _) ?_⟩;refine bn (bG (am (aa (cp Z Z Z)<|aa Z<|aa (cp Z Z cb) Z) lf) Z) (λi E I=>s=I/\∃F H f m A,E=(l31 gd B rs cs k p q (o9 a B rs cs) (mD a k rs cs p q) (N.map<|lu k (wB B cs) rs cs p q) (.lst<|N.map λx=>dK O<|kP x) (U<|.sh<|.int (t:Int)) (U<|.own<|(nI<|((qk (wB B cs) (cs.length-j) j u).take i).map (λvs=>lQ k<|wl (pP k rs cs p q) j vs)).map D.int) F H f m A Y)) ⟨Z,F,H,f,m,A,Z⟩ ?_ ?_
  .rintro i d E _ hd ⟨rfl,F,H,f,m,A,rfl⟩
   obtain⟨vs,hi,rfl⟩:=bH hd;have X:=Uo hi;obtain⟨hw,hl⟩:=xP X;obtain⟨es,_,ek⟩:=ur Q.ok hw (by grind) us;have eH:=λv T=>Um (HK Q.ok X v T).sum n3;have tot:(vs.map VT).sum<=40:=by rw[es,<-us];exact n3
   refine⟨_,Z,aD (am Z<|OJ k) ?_⟩;refine bn (bF Z Z) (λc E I=>s=I/\∃f m A,E=(l31 gd B rs cs k p q (o9 a B rs cs) (mD a k rs cs p q) _ (.lst<|N.map λx=>dK O<|kP x) (U<|.sh<|.int (t:Int)) _ (U<|.sh<|cD vs) (U<|.sh<|.int ((lQ k (wl (pP k rs cs p q) j<|vs.take c):Nat):Int)) f m A Y)) ⟨Z,f,m,A,Z⟩ ?_ ?_
   .rintro c d E _ hd ⟨rfl,f,m,A,rfl⟩
    obtain⟨d',ai,rfl⟩:=mP hd;obtain⟨v,T,rfl⟩:=bH ai;have hc:=(Ui.mp T).1;have mv:=Uo T;have e9:lQ k (wl (pP k rs cs p q) j<|vs.take<|c+1)=hW k (lQ k<|wl (pP k rs cs p q) j<|vs.take c) (pP k rs cs p q (j+c) v):=by rw[dC T,xO,Mo,Ve,Nat.min_eq_left<|Xu hc]
    refine⟨_,Z,aD (am (aa Z<|aa Z<|aa Z<|aa (cp (cp (cp Z Z cb) Z lT) Z y6)<|aa Z Z)<|LO C (by grind) (eH v mv) ((ek v mv).trans n2) hp k) ?_⟩;rw[e9];exact aj<|aD (am Z<|OA k λS=>⟨TL S eH (by grind) tot c j,Sx S (eH v mv) _⟩)<|cx ⟨Z,_,_,_,Z⟩
   .rintro E _ ⟨rfl,f,m,A,rfl⟩
    rw[jd,TX,UV];refine aj<|kI Z (aa Z Z) (VC (show _<=40320 by simp only[TX,Ve];exact Um (Ye _ _) l4) vy)<|cx ⟨Z,U<|.sh<|cD vs,U<|.sh<|.int ((lQ k (wl (pP k rs cs p q) j vs):Nat):Int),f,m,A,?_⟩;rw[dC hi,UK];simp only[UK];rfl
  .rintro E _ ⟨rfl,F,H,f,m,A,rfl⟩
   rw[TX,UV];refine aj<|bj (p9<|p7 (am (aa (cp Z Z (cw (by rw[T9,P];rfl)))<|aa (cp (cp Z Z cb) (ah (aa (ah Z<|QG T)<|aa (ah Z<|QI T) Z) bZ) ?_) Z)<|Sg<|x4 _ hm) Z)<|aO<|cx ⟨Z,_,_,_,_,_,_,_,Z⟩;show dR (.tup [.int (j:Int),tN u]) (.tup [_,_])=_;unfold dR;simp only;rw[Uf<|bf (by show 4<=1000;decide)];rfl
 .rintro E _ ⟨rfl,J,L,F,H,f,m,A,rfl⟩
  have ak:dJ (.lst<|N.map<|lu k (wB B cs) rs cs p q) (.lst<|N.map<|lu k (wB B cs) rs cs p q)=U (.bl O):=by
   have t2:∀x,ri (lu k (wB B cs) rs cs p q x)=U (.tuple [.int (x.1:Int),.tuple<|x.2.map λ(n:Nat)=> .int (n:Int),.int ((ro (vE k (wB B cs) rs cs p q x.1 x.2):Nat):Int),.int ((rx (vE k (wB B cs) rs cs p q x.1 x.2):Nat):Int)]):=λx=>by
    simp only[ri,toPs,MS,VP]
   have t3:=rf t2 N;have c:n5 (.lst<|N.map<|lu k (wB B cs) rs cs p q)=O:=yT 3 (λz hz=>by
    obtain⟨x,_,rfl⟩:=T7.mp hz;intro w hw;obtain rfl|hw:=Uq.mp hw
    .trivial
    obtain rfl|hw:=Uq.mp hw
    .intro z hz
     obtain⟨i,_,rfl⟩:=T7.mp hz;trivial
    obtain rfl|hw:=Uq.mp hw
    .trivial
    cases UM.mp hw;trivial) vy
   have t4:=U6 (Option.map PyData.list) t3;refine(vX (x:= .lst<|N.map<|lu k (wB B cs) rs cs p q) (y:= .lst<|N.map<|lu k (wB B cs) rs cs p q) Z t4 t4 c c).trans ?_;rw[Xo];exact U6 (λb=>U<|D.bl b)<|(uc λx=>by
    rw[Xo];simp only[WP,eqI];rw[Xo,Ry];simp) N
  refine dM (δ1:=(l31 gd B rs cs k p q (o9 a B rs cs) (mD a k rs cs p q) (N.map<|lu k (wB B cs) rs cs p q) (.lst<|N.map λx=>dK O<|kP x) J L F H f m A<|U<|.own<|N.map<|lu k (wB B cs) rs cs p q)) ?_<|dM Z<|aj<|aB (cp (RV<|by unfold yJ;exact(M.bind_ok<|aa Z<|aa Z Z).trans<|en s) Z ak) Z;have e:M8 DN (ae (ac 9) ax) (hL<|l31 gd B rs cs k p q (o9 a B rs cs) (mD a k rs cs p q) (N.map<|lu k (wB B cs) rs cs p q) (.lst<|N.map λx=>dK O<|kP x) J L F H f m A Y) s=U _:=Z;unfold EB;rw[e];simp only;rw[Uf (nlE (k:=k) (W:=wB B cs) (rs:=rs) (cs:=cs) (p:=p) (q:=q) N)];rfl
end
end Law
namespace L2.Pu
open PySem.W
section
variable{j:String->Option Builtin}{p:UT}{w:UY}{f:Nat}{g:Option Uc}{i:Env}{q:Xp}
theorem bJ(k:Nat){n N:Nat}{s D r:Uj}{b:a0R}{c:Code}{pos a:Xp}(h:segRun j p w f g 1 n s (piecesOf (b.take k) i c pos [topFrame q])=U (.next,D,c,a))
  (d:topRun j p w f g N D (restOf (b.drop k) i c a [topFrame q])=U r):topRun j p w f g (n+N) s (restOf b i c pos [topFrame q])=U r:=by
 have:=piece_app h d;rwa[Wa]at this
theorem Mc{N:Nat}{s r:Uj}{b:a0R}{c:Code}{pos:Xp}(e:b=[])(k:topRun j p w f g N s ⟨doneF .next,c,pos,[topFrame q]⟩=U r):topRun j p w f g N s (restOf b i c pos [topFrame q])=U r:=by
 subst e;exact piece_nil k
end
end L2.Pu
namespace Law
open L2 L2.Pu
noncomputable abbrev E(P:Params)(n:U3)(t:Nat)(v:Uc):W3:=⟨PyData.keyHash P<|n,.str (n) t,v⟩
noncomputable abbrev FN(x q:U3)(s:Va)(b c a d:Uc)(e:a0U)(w D:Uc):Uw:=Yv x q (jJ s) (cK s) (ag s) b c a d e w D
noncomputable abbrev fO(f:Uw):Vy:=⟨.type "function",Y,.func f,#[]⟩
noncomputable abbrev tO(l:a0g):Vy:=⟨.type "tuple",Y,.seq l.toArray 0,#[]⟩
noncomputable abbrev cO(l:a0g):Vy:=⟨.type "code",Y,.fields l.toArray,#[]⟩
noncomputable abbrev eR(P:Params)(n:U3)(t r:Nat):W3:=E P n t<|.ref r
noncomputable abbrev nO(l:a0g):Vy:=⟨.none,Y,.fields l.toArray,#[]⟩
noncomputable abbrev fB(x q:U3)(s:Va):Vy:=⟨.none,Y,.func ⟨x,q,jJ s,.stmts<|cK s,ag s,0,[],.none,.none,.none,.none,Y,.none,.none,0⟩,#[]⟩
noncomputable abbrev cC(n q:U3)(t l a D c fl r:Nat)(b:Bool)(E d:Nat)(x y z w:Uc)(u e v:Nat):Vy:=cO [.str n t,.str q<|t+1,.str "/claim/cut.py"<|t+2,.int l 0,.int a 0,.int D 0,.int c 0,.int fl 0,.ref r,.bool b,.int E 0,.ref d,x,y,z,w,.int u 0,.int e 0,.str "/claim/cut.py" v]
abbrev eTt:a0g:=[(.ref 38),(.type "ValueError"),(.type "Exception"),(.type "BaseException"),(.type "object")]
noncomputable abbrev xOo(x:U3)(a d b t u:Nat):Vy:=⟨(.type "type"),Y,(.cls ⟨x,[(.ref 38)],(.ref a)::eTt,d,x,O,[],[],T4,Y,T4⟩),#[(U<|.ref b),Y,(U<|.str x t),(U<|.str x u),(U<|.builtin "ValueError.__new__"),(U<|.bool O)]⟩
noncomputable abbrev iSs(n:Nat):Vy:=⟨(.type "builtin_function_or_method"),Y,(.fields #[(.builtin "object.__init_subclass__"),(.ref n)]),#[]⟩
noncomputable abbrev v_:Uc:= .str "edgetally.errors" 194
noncomputable abbrev W_:Uc:= .str "edgetally.net" 556
noncomputable abbrev Wi:Uc:= .str "edgetally.measures" 777
noncomputable abbrev V_:Uc:= .str "EdgeError" 204
noncomputable abbrev tx4:Uc:= .str "EdgeError" 196
noncomputable abbrev tx5:Uc:= .str "__main__" 164
noncomputable def trL:a0a->a0g
 |a::b::c::l=> .int a 0:: .int b 0:: .ref c::trL l
 |_=>[]
noncomputable abbrev nT(l:a0a):Vy:=nO<|trL l
noncomputable def stL:Nat->a0i->a0g
 |_,[]=>[]
 |t,x::l=> .str x t::stL (t+1) l
noncomputable abbrev tS(t:Nat)(l:a0i):Vy:=tO<|stL t l
noncomputable def fD(o:Vy):Uw:=match o.data with
 | .func f=>f
 |_=>FN "" "" (cy 0) .none .none .none .none Y .none .none
abbrev T5:=U3×U3×Nat×Nat×a0i
noncomputable abbrev h5(x:U3)(l a:Nat)(n:a0i):T5:=(x,x,l,a,n)
def zN:a0i->Nat
 |[]=>4
 |_=>6
def uN(d k:Uc)(b:Nat)(v:Uc)(s:Va)(x q:U3)(r t l a:Nat)(n:a0i):a0I:=[tO [],nO []]++(match n with|[]=>[]|_=>[tS (t+3) n,tO []])++[fB x q s,match n with|[]=>cC x q t l a 0 b 3 r O 181 (r+1) .none .none .none (.ref<|r+2) (t+3) l (t+4)|_=>cC x q t l a 0 b 3 r O 181 (r+1) .none (.ref<|r+2) (.ref<|r+3) (.ref<|r+4) (t+3+n.length) l<|t+4+n.length,fO<|FN x q s d k .none v Y (.ref<|r+zN n-1) .none]
def gO(v:Uc)(s:Nat->Va):Nat->Nat->Nat->List T5->a0I
 |i,r,t,(x,q,l,a,n)::L=>uN .none .none 0 v (s i) x q r t l a n++gO v s (i+1) (r+zN n+1) (t+n.length+6) L
 |_,_,_,_=>[]
def gM(P:Params):Nat->Nat->List T5->List W3
 |r,t,(x,_,_,_,n)::L=>E P x (t+n.length+5) (.ref<|r+zN n)::gM P (r+zN n+1) (t+n.length+6) L
 |_,_,_=>[]
def gA:Nat->List T5->a0r
 |r,(_,_,_,_,n)::L=>(r+zN n-1)::(r+zN n)::gA (r+zN n+1) L
 |_,_=>[]
noncomputable def fk(L:a0I)(i:Nat):Uw:=fD<|L.getD i<|tO []
noncomputable abbrev frO(a b:Nat)(v:Uc):Vy:=⟨(.type "frame"),Y,.plain,#[(U<|.ref a),(U<|.ref 3),(U<|.ref b),Y,(U v),Y,(U<|.ref 0)]⟩
noncomputable abbrev suO(a:Nat):Vy:=⟨(.type "super"),Y,(.fields #[(.ref a),(.ref a),(.ref a)]),#[]⟩
noncomputable def b23:Vy:=⟨(.type "builtin_function_or_method"),Y,(.fields #[(.builtin "type.__prepare__"),(.type "type")]),#[]⟩
def uE(P:Params)(i R T l:Nat)(x q:U3)(d n c:a0i):a0I:=let M:=R+7+d.length;let t:=T+12+d.length;let u:=t+5+n.length;let y:=E P "__module__" (T+7) v_;let z:=[E P "__firstlineno__" (T+11)<|.int l<|T+10,eR P "__init__" u<|M+6,eR P "__static_attributes__" (u+1+c.length)<|M+7];[tO [.ref 38],b23,⟨.type "dict",Y,.dict (y::E P "__qualname__" (T+9) (.str x<|T+8)::z).toArray 5,#[]⟩,tO [],nT [l+2,4,M+5],cC x x (T+2) l 0 0 0 0 (R+3) T4 181 (R+4) .none .none .none .none (T+5) l<|T+6,frO (R+5) (R+2) v_]++(match d with|[]=>[]|_=>[tS (T+12) d])++uN (match d with|[]=> .none|_=> .ref<|R+7) .none 0 v_ (bX (cy i) 0) "__init__" q M t (l+2) n.length n++[tS (u+1) c,⟨.type "dict",Y,.dict (y::z++[E P "__doc__" (u+2+c.length) .none]).toArray 2,#[]⟩,xOo x (M+9) (M+8) R T<|T+8,suO<|M+9,iSs<|M+9]
section
variable(P:Params)
def llA:List T5:=[h5 "_wall" 1 1 ["k"]]
def rrA:a0I:=gO tx5 cy 0 15 187 llA
def llB:List T5:=[("__init__","EdgeError.__init__",7,3,["self","word","why"])]
def rrB:a0I:=gO v_ (bX<|cy 2) 0 29 208 llB
def llD:List T5:=[h5 "check_sums" 48 2 [],h5 "check_there" 59 2 ["place","many"],h5 "check_cell" 62 4 ["row","column","rows","columns"],h5 "check_pair" 65 1 ["pair","low","high"],h5 "settled_bounds" 69 3 [],h5 "rows_turned" 78 1 []]
def rrD:a0I:=gO (.str "edgetally.bounds" 401) cy 16 187 418 llD
def llE:List T5:=[h5 "factorial" 81 1 ["number","product","factor"],h5 "power" 86 2 ["base","many","product","factor"],h5 "ways" 91 1 ["parts","part","told"],h5 "common_factor" 99 2 ["one","other"],h5 "fillings" 103 3 []]
def rrE:a0I:=gO (.str "edgetally.counts" 463) cy 23 223 465 llE
def llF:List T5:=[h5 "need_of" 113 2 [],h5 "room_inside" 115 4 [],h5 "room_beside" 118 3 [],h5 "room_of" 120 4 [],h5 "narrowest" 122 3 [],h5 "choices" 124 1 [],h5 "check_fit" 129 3 ["rowsums","columnsums","bounds","over","into"]]
def rrF:a0I:=gO (.str "edgetally.fits" 507) cy 29 256 509 llF
def llG:List T5:=[h5 "check_wide" 136 1 ["rowsums","wide","many"],h5 "settled_for_net" 142 3 ["rowsums","columnsums","bounds","settled"],h5 "column_fillings" 147 4 [],h5 "rests_behind" 149 2 [],h5 "nodes_by_level" 151 3 [],h5 "node_counts" 159 3 ["rests","filled","behind","tables","dealings","counts","tables_behind","dealings_behind"],h5 "counted_nodes" 167 3 [],h5 "paper_rows" 177 1 []]
def Y_:a0I:=gO W_ cy 38 293 560 llG
noncomputable def llI:List T5:=[("__eq__","Net.__eq__",189,2,["self","other"]),("__len__","Net.__len__",192,1,["self"]),("rowsums","Net.rowsums",195,1,["self"]),("columnsums","Net.columnsums",198,1,["self"]),("bounds","Net.bounds",201,1,[]),("counts_at","Net.counts_at",204,3,["self","level","rests"]),("tables","Net.tables",207,1,["self"]),("dealings","Net.dealings",210,1,["self"]),("steps","Net.steps",213,3,[]),("paper","Net.paper",218,1,["self"])]
def rrI:a0I:=gO W_ (bX<|cy 46) 1 354 647 llI
def llJ:List T5:=[h5 "check_same_sums" 221 2 ["net","measure"],h5 "node_ends" 224 5 ["net","measure","level","rests","found","leasts","greatests","counts","least","greatest","part"],h5 "ends_by_node" 235 2 ["net","measure","found","level","rests","tables","dealings"],h5 "ends" 242 2 []]
def rrJ:a0I:=gO (.str "edgetally.ends" 731) cy 48 427 733 llJ
def llK:List T5:=[h5 "least_common" 249 1 ["numbers","told","number"],h5 "power_part" 254 1 ["counts","told","count"],h5 "square_part" 259 3 [],h5 "off_part" 261 3 []]
def rrK:a0I:=gO Wi cy 56 456 792 llK
noncomputable def llM:List T5:=[("rowsums","Measure.rowsums",277,1,["self"]),("columnsums","Measure.columnsums",280,1,["self"]),("part","Measure.part",283,3,[]),("together","Measure.together",295,3,["self","one","other"]),("begun","Measure.begun",298,1,["self"]),("of","Measure.of",301,2,["self","rows","gathered","column","counts"]),("beyond","Measure.beyond",307,3,["self","value","seen"])]
def rrM:a0I:=gO Wi (bX<|cy 60) 1 494 843 llM
def llN:List T5:=[h5 "_law_bag" 310 1 [],h5 "_law_pull" 312 2 ["_law_bag_here","_law_lot","_law_cells","_law_at","_law_cell"],h5 "_law_same" 322 2 [],h5 "_law_grid" 334 4 [],h5 "_law_small" 341 1 ["_law_bag_here","_law_way","_law_block","_law_columns"],h5 "_law_turned" 352 1 [],h5 "_law_rowsums" 354 1 [],h5 "_law_columnsums" 356 1 [],h5 "_law_free" 358 2 [],h5 "_law_bounds" 360 2 ["_law_bag_here","_law_grid_here","_law_told","_law_at","_law_row","_law_to","_law_count","_law_way"],h5 "_law_copied" 372 1 [],h5 "_law_fit" 374 3 [],h5 "_law_less" 383 2 [],h5 "_law_listing" 385 3 [],h5 "_law_factorial" 394 1 ["_law_lot","_law_found","_law_k"],h5 "_law_ways" 399 1 ["_law_parts","_law_under","_law_part_here"],h5 "_law_gcd" 404 2 ["_law_one","_law_other","_law_kept"],h5 "_law_kind" 410 1 ["_law_bag_here"],h5 "_law_place" 412 2 ["_law_bag_here","_law_grid_here","_law_at"],h5 "_law_even" 415 2 ["_law_rowsums_here","_law_columnsums_here","_law_found","_law_one","_law_other","_law_both"],h5 "_law_self_power" 423 1 ["_law_count","_law_found","_law_k"],h5 "_law_net" 428 2 ["_law_grid_here","_law_limits"],h5 "_law_scale" 430 3 ["_law_kind_here","_law_grid_here","_law_where"],h5 "_law_nodes" 432 3 [],h5 "_law_counted" 441 3 [],h5 "_law_counts_from" 456 3 [],h5 "_law_living" 459 3 [],h5 "_law_part" 461 5 ["_law_kind_here","_law_sides_here","_law_where","_law_to","_law_column","_law_found","_law_count","_law_utmost","_law_both"],h5 "_law_together" 479 3 ["_law_kind_here","_law_one","_law_other"],h5 "_law_begun" 483 1 ["_law_kind_here"],h5 "_law_sides" 485 1 ["_law_grid_here","_law_rowsums_here","_law_columnsums_here"],h5 "law" 489 1 []]
def j2:a0I:=gO (.str "law_edgetally_k31_ends_small" 912) cy 62 548 914 llN
def rrC:a0I:=uN .none (.ref 181) 1 (.str "edgetally.bounds" 401) (cy 15) "free" "free" 182 412 46 2 []
def rrH:a0I:=uN .none (.ref 346) 1 W_ (bX (cy 46) 0) "__init__" "Net.__init__" 347 636 181 3 ["self","rowsums","columnsums","bounds","settled"]
def rrL:a0I:=uN .none (.ref 488) 1 Wi (bX (cy 60) 0) "__init__" "Measure.__init__" 489 837 265 4 []
def mL:List W3:=(E P "__name__" 165<|.str "law_edgetally_k31_ends_small" 912)::((match(PySem.W.boot_o_3 P).data with| .dict e _=>e.toList|_=>[]).drop 1)++gM P 15 187 llA++[(eR P "EdgeError" 223 38),(eR P "BadSums" 248 59),(eR P "BadBounds" 273 79),(eR P "TooWide" 298 98),(eR P "Barred" 325 117),(eR P "BadRule" 350 137),(eR P "BadCell" 375 157),(eR P "BadNumber" 400 177),(E P "MOST" 404<|.int 40 403),(E P "MOST_ROWS" 406<|.int 4 405),(E P "MOST_COLUMNS" 408<|.int 6 407),(eR P "FREE" 410 180),(eR P "free" 417 186)]++gM P 187 418 llD++gM P 223 465 llE++gM P 256 509 llF++[(E P "WIDE" 559<|.int 500 558)]++gM P 293 560 llG++[(eR P "Net" 730 422)]++gM P 427 733 llJ++[(eR P "KINDS" 785 453),(eR P "BY_PRODUCT" 788 454),(eR P "BY_PLACE" 791 455)]++gM P 456 792 llK++[(eR P "Measure" 911 543)]++gM P 548 914 llN
def up(n:Nat)(v:Uc):Vy:=⟨.type "dict",Y,.dict (((mL P).take n).set 0<|E P "__name__" 165 v).toArray n,#[]⟩
noncomputable def b3:Vy:=⟨(.type "dict"),Y,(.dict (mL P).toArray 95),#[]⟩
def b7:Vy:=tO []
noncomputable def pj:a0a:=[1,0,20,5,0,27,10,0,47,14,0,67,18,0,87,23,0,106,29,0,125,33,0,145,37,0,165,46,0,185,48,0,190,59,0,197,62,0,204,65,0,211,69,0,216,78,0,221,81,0,228,86,0,235,91,0,242,99,0,249,103,0,254,113,0,259,115,0,264,118,0,269,120,0,274,122,0,279,124,0,284,129,0,291,136,0,298,142,0,305,147,0,310,149,0,315,151,0,320,159,0,327,167,0,332,177,0,337,179,0,344,221,0,432,224,0,439,235,0,446,242,0,451,249,0,461,254,0,468,259,0,473,261,0,478,263,0,485,310,0,551,312,0,558,322,0,563,334,0,568,341,0,575,352,0,580,354,0,585,356,0,590,358,0,595,360,0,602,372,0,607,374,0,612,383,0,617,385,0,622,394,0,629,399,0,636,404,0,643,410,0,650,412,0,657,415,0,664,423,0,671,428,0,678,430,0,685,432,0,690,441,0,695,456,0,700,459,0,705,461,0,712,479,0,719,483,0,726,485,0,733,489,0,738]
def b12:Vy:=nT pj
def b13:Vy:=cC "<module>" "<module>" 182 1 0 0 0 0 11 T4 181 12 .none .none .none .none 185 1 186
def b14:Vy:=frO 13 3 tx5
def b22:Vy:=tO [(.type "ValueError")]
def b24:Vy:=⟨(.type "dict"),Y,(.dict ([(E P "__module__" 203 v_),(E P "__qualname__" 205 V_),(E P "__firstlineno__" 207<|.int 5 206)]++gM P 29 208 llB++[(eR P "__static_attributes__" 218 36)]).toArray 5),#[]⟩
def b26:Vy:=nT [7,4,34]
def b27:Vy:=cC "EdgeError" "EdgeError" 198 5 0 0 0 0 25 T4 181 26 .none .none .none .none 201 5 202
def b28:Vy:=frO 27 24 v_
def b36:Vy:=tS 217 ["word"]
def b37:Vy:=⟨(.type "dict"),Y,(.dict ([(E P "__module__" 203 v_),(E P "__firstlineno__" 207<|.int 5 206)]++gM P 29 208 llB++[(eR P "__static_attributes__" 218 36),(eR P "__weakref__" 220 39),(E P "__doc__" 221 .none)]).toArray 3),#[]⟩
def b38:Vy:=⟨(.type "type"),Y,(.cls ⟨"EdgeError",[(.type "ValueError")],[(.ref 38),(.type "ValueError"),(.type "Exception"),(.type "BaseException"),(.type "object")],37,"EdgeError",O,[],[(.ref 59),(.ref 79),(.ref 98),(.ref 117),(.ref 137),(.ref 157),(.ref 177)],T4,Y,T4⟩),#[(U<|.ref 22),Y,(U tx4),(U V_),(U<|.builtin "ValueError.__new__"),(U<|.bool O)]⟩
noncomputable def b39:Vy:=⟨(.type "getset_descriptor"),Y,(.fields #[(.str "__weakref__" 219),(.ref 38),(.builtin "ExceptionGroup.__weakref__"),.none]),#[]⟩
def b40:Vy:=suO 38
def b41:Vy:=iSs 38
def b180:Vy:=tO [(.int 0 409),(.int 40 403)]
def b181:Vy:=⟨(.type "dict"),Y,(.dict #[(eR P "pair" 411 180)] 1),#[]⟩
def b341:Vy:=⟨(.type "dict"),Y,(.dict ([(E P "__module__" 630 W_),(E P "__qualname__" 632<|.str "Net" 631),(E P "__firstlineno__" 634<|.int 179 633),(eR P "__init__" 646 353)]++gM P 354 647 llI++[(eR P "__static_attributes__" 722 420)]).toArray 15),#[]⟩
def b343:Vy:=nT [181,4,352,189,4,359,192,4,366,195,4,373,198,4,380,201,4,385,204,4,392,207,4,399,210,4,406,213,4,411,218,4,418]
def b344:Vy:=cC "Net" "Net" 625 179 0 0 0 0 342 T4 181 343 .none .none .none .none 628 179 629
def b345:Vy:=frO 344 341 W_
def b346:Vy:=⟨(.type "dict"),Y,(.dict #[(E P "bounds" 635 .none)] 1),#[]⟩
def b420:Vy:=tS 718 ["column_list","counted","pairs","row_list"]
def b421:Vy:=⟨(.type "dict"),Y,(.dict ([(E P "__module__" 630 W_),(E P "__firstlineno__" 634<|.int 179 633),(eR P "__init__" 646 353)]++gM P 354 647 llI++[(eR P "__static_attributes__" 722 420),(eR P "__dict__" 724 423),(eR P "__weakref__" 726 424),(E P "__doc__" 727 .none),(E P "__hash__" 728 .none)]).toArray 5),#[]⟩
noncomputable def b422:Vy:=⟨(.type "type"),Y,(.cls ⟨"Net",[(.type "object")],[(.ref 422),(.type "object")],421,"Net",O,[],[],T4,Y,T4⟩),#[Y,Y,(U<|.str "Net" 623),(U<|.str "Net" 631),(U<|.builtin "object.__new__"),(U<|.bool O)]⟩
noncomputable def b423:Vy:=⟨(.type "getset_descriptor"),Y,(.fields #[(.str "__dict__" 723),(.ref 422),(.builtin "function.__dict__"),(.builtin "function.__dict__#set")]),#[]⟩
noncomputable def b424:Vy:=⟨(.type "getset_descriptor"),Y,(.fields #[(.str "__weakref__" 725),(.ref 422),(.builtin "ExceptionGroup.__weakref__"),.none]),#[]⟩
def b425:Vy:=suO 422
def b426:Vy:=iSs 422
def b453:Vy:=tS 779 ["rare","square","power","off","most","least"]
def b454:Vy:=tS 786 ["rare","power"]
def b455:Vy:=tS 789 ["most","least"]
def b482:Vy:=⟨(.type "dict"),Y,(.dict ([(E P "__module__" 829 Wi),(E P "__qualname__" 831<|.str "Measure" 830),(E P "__firstlineno__" 833<|.int 263 832),(eR P "__init__" 842 493)]++gM P 494 843 llM++[(eR P "__static_attributes__" 904 541)]).toArray 12),#[]⟩
def b484:Vy:=nT [265,4,492,277,4,499,280,4,506,283,4,511,295,4,518,298,4,525,301,4,532,307,4,539]
def b485:Vy:=cC "Measure" "Measure" 824 263 0 0 0 0 483 T4 181 484 .none .none .none .none 827 263 828
def b486:Vy:=frO 485 482 Wi
def b487:Vy:=tO [(.int 0 834),(.int 0 835)]
def b488:Vy:=⟨(.type "dict"),Y,(.dict #[(eR P "place" 836 487)] 1),#[]⟩
def b541:Vy:=tS 899 ["column_list","even","kind","place","row_list"]
def b542:Vy:=⟨(.type "dict"),Y,(.dict ([(E P "__module__" 829 Wi),(E P "__firstlineno__" 833<|.int 263 832),(eR P "__init__" 842 493)]++gM P 494 843 llM++[(eR P "__static_attributes__" 904 541),(eR P "__dict__" 906 544),(eR P "__weakref__" 908 545),(E P "__doc__" 909 .none)]).toArray 4),#[]⟩
noncomputable def b543:Vy:=⟨(.type "type"),Y,(.cls ⟨"Measure",[(.type "object")],[(.ref 543),(.type "object")],542,"Measure",O,[],[],T4,Y,T4⟩),#[Y,Y,(U<|.str "Measure" 822),(U<|.str "Measure" 830),(U<|.builtin "object.__new__"),(U<|.bool O)]⟩
noncomputable def b544:Vy:=⟨(.type "getset_descriptor"),Y,(.fields #[(.str "__dict__" 905),(.ref 543),(.builtin "function.__dict__"),(.builtin "function.__dict__#set")]),#[]⟩
noncomputable def b545:Vy:=⟨(.type "getset_descriptor"),Y,(.fields #[(.str "__weakref__" 907),(.ref 543),(.builtin "ExceptionGroup.__weakref__"),.none]),#[]⟩
def b546:Vy:=suO 543
def b547:Vy:=iSs 543
def Tg:Vy:=nT<|pj.take 3
def k1_3:Vy:=up P 10 v_
def Te:Vy:=nT<|pj.take 6
def k2_3:Vy:=up P 11 v_
def Td:Vy:=⟨(.type "type"),Y,(.cls ⟨"EdgeError",[(.type "ValueError")],[(.ref 38),(.type "ValueError"),(.type "Exception"),(.type "BaseException"),(.type "object")],37,"EdgeError",O,[],[],T4,Y,T4⟩),#[(U<|.ref 22),Y,(U tx4),(U V_),(U<|.builtin "ValueError.__new__"),(U<|.bool O)]⟩
def Tc:Vy:=nT<|pj.take 9
def k3_3:Vy:=up P 12 v_
def Ta:Vy:=⟨(.type "type"),Y,(.cls ⟨"EdgeError",[(.type "ValueError")],[(.ref 38),(.type "ValueError"),(.type "Exception"),(.type "BaseException"),(.type "object")],37,"EdgeError",O,[],[(.ref 59)],T4,Y,T4⟩),#[(U<|.ref 22),Y,(U tx4),(U V_),(U<|.builtin "ValueError.__new__"),(U<|.bool O)]⟩
def S9:Vy:=nT<|pj.take 12
def k4_3:Vy:=up P 13 v_
def S8:Vy:=⟨(.type "type"),Y,(.cls ⟨"EdgeError",[(.type "ValueError")],[(.ref 38),(.type "ValueError"),(.type "Exception"),(.type "BaseException"),(.type "object")],37,"EdgeError",O,[],[(.ref 59),(.ref 79)],T4,Y,T4⟩),#[(U<|.ref 22),Y,(U tx4),(U V_),(U<|.builtin "ValueError.__new__"),(U<|.bool O)]⟩
def S7:Vy:=nT<|pj.take 15
def k5_3:Vy:=up P 14 v_
def S6:Vy:=⟨(.type "type"),Y,(.cls ⟨"EdgeError",[(.type "ValueError")],[(.ref 38),(.type "ValueError"),(.type "Exception"),(.type "BaseException"),(.type "object")],37,"EdgeError",O,[],[(.ref 59),(.ref 79),(.ref 98)],T4,Y,T4⟩),#[(U<|.ref 22),Y,(U tx4),(U V_),(U<|.builtin "ValueError.__new__"),(U<|.bool O)]⟩
def S5:Vy:=nT<|pj.take 18
def k6_3:Vy:=up P 15 v_
def S4:Vy:=⟨(.type "type"),Y,(.cls ⟨"EdgeError",[(.type "ValueError")],[(.ref 38),(.type "ValueError"),(.type "Exception"),(.type "BaseException"),(.type "object")],37,"EdgeError",O,[],[(.ref 59),(.ref 79),(.ref 98),(.ref 117)],T4,Y,T4⟩),#[(U<|.ref 22),Y,(U tx4),(U V_),(U<|.builtin "ValueError.__new__"),(U<|.bool O)]⟩
def S3:Vy:=nT<|pj.take 21
def k7_3:Vy:=up P 16 v_
def SZ:Vy:=⟨(.type "type"),Y,(.cls ⟨"EdgeError",[(.type "ValueError")],[(.ref 38),(.type "ValueError"),(.type "Exception"),(.type "BaseException"),(.type "object")],37,"EdgeError",O,[],[(.ref 59),(.ref 79),(.ref 98),(.ref 117),(.ref 137)],T4,Y,T4⟩),#[(U<|.ref 22),Y,(U tx4),(U V_),(U<|.builtin "ValueError.__new__"),(U<|.bool O)]⟩
def SY:Vy:=nT<|pj.take 24
def k8_3:Vy:=up P 17 v_
def SX:Vy:=⟨(.type "type"),Y,(.cls ⟨"EdgeError",[(.type "ValueError")],[(.ref 38),(.type "ValueError"),(.type "Exception"),(.type "BaseException"),(.type "object")],37,"EdgeError",O,[],[(.ref 59),(.ref 79),(.ref 98),(.ref 117),(.ref 137),(.ref 157)],T4,Y,T4⟩),#[(U<|.ref 22),Y,(U tx4),(U V_),(U<|.builtin "ValueError.__new__"),(U<|.bool O)]⟩
def SW:Vy:=nT<|pj.take 27
def k9_3:Vy:=up P 18 v_
def Re:Vy:=nT<|pj.take 45
noncomputable def Tt:Vy:=up P 28<|.str "edgetally.bounds" 401
def Rb:Vy:=nT<|pj.take 69
noncomputable def Ts:Vy:=up P 36<|.str "edgetally.fits" 507
def Q9:Vy:=nT<|pj.take 93
def Tq:Vy:=up P 45 W_
def Q7:Vy:=nT<|pj.take 108
def Tp:Vy:=up P 50 W_
def Q5:Vy:=nT<|pj.take 111
def Tm:Vy:=up P 51 W_
def Q3:Vy:=nT<|pj.take 129
def Tl:Vy:=up P 60 Wi
def Q1:Vy:=nT<|pj.take 135
def Tk:Vy:=up P 62 Wi
def QZ:Vy:=nT<|pj.take 138
def Tj:Vy:=up P 63 Wi
def QX:Vy:=nT<|pj.take 162
noncomputable def Ti:Vy:=⟨(.type "dict"),Y,(.dict ((mL P).take 71).toArray 71),#[]⟩
def QV:Vy:=nT<|pj.take 186
noncomputable def Th:Vy:=⟨(.type "dict"),Y,(.dict ((mL P).take 79).toArray 79),#[]⟩
def QT:Vy:=nT<|pj.take 210
noncomputable def Tf:Vy:=⟨(.type "dict"),Y,(.dict ((mL P).take 87).toArray 87),#[]⟩
def kL:a0I:=((PySem.W.boot_heap P).objs.toList.set 3<|b3 P)++[b7,b12,b13,b14]++rrA++[b22,b23,b24 P,b7,b26,b27,b28]++rrB++[b36,b37 P,b38,b39,b40,b41]++uE P 3 42 224 10 "BadSums" "BadSums.__init__" ["these sums are no table's"] ["self","why"] []++uE P 4 62 249 14 "BadBounds" "BadBounds.__init__" ["these bounds are no table's"] ["self","why"] []++uE P 5 82 274 18 "TooWide" "TooWide.__init__" [] ["self","wide"] ["wide"]++uE P 6 101 299 23 "Barred" "Barred.__init__" [] ["self","over","into"] ["into","over"]++uE P 7 120 326 29 "BadRule" "BadRule.__init__" ["there is no such rule"] ["self","why"] []++uE P 8 140 351 33 "BadCell" "BadCell.__init__" ["there is no such cell"] ["self","why"] []++uE P 9 160 376 37 "BadNumber" "BadNumber.__init__" ["this number is out of its bounds"] ["self","why"] []++[b180,b181 P]++rrC++rrD++rrE++rrF++Y_++[b7,b23,b341 P,b7,b343,b344,b345,b346 P]++rrH++rrI++[b420,b421 P,b422,b423,b424,b425,b426]++rrJ++[b453,b454,b455]++rrK++[b7,b23,b482 P,b7,b484,b485,b486,b487,b488 P]++rrL++rrM++[b541,b542 P,b543,b544,b545,b546,b547]++j2
abbrev h0H:Vl:=PySem.W.boot_heap P
def h1H:Vl:=⟨⟨(((kL P).take 15).set 3<|PySem.W.boot_o_3 P).set 12<|nO []⟩,{}⟩
def k1H:Vl:=⟨⟨(((kL P).take 22).set 3<|k1_3 P).set 12<|Tg⟩,{}⟩
def k2H:Vl:=⟨⟨((((kL P).take 42).set 3<|k2_3 P).set 12<|Te).set 38<|Td⟩,{}⟩
def k3H:Vl:=⟨⟨((((kL P).take 62).set 3<|k3_3 P).set 12<|Tc).set 38<|Ta⟩,{}⟩
def k4H:Vl:=⟨⟨((((kL P).take 82).set 3<|k4_3 P).set 12<|S9).set 38<|S8⟩,{}⟩
def k5H:Vl:=⟨⟨((((kL P).take 101).set 3<|k5_3 P).set 12<|S7).set 38<|S6⟩,{}⟩
def k6H:Vl:=⟨⟨((((kL P).take 120).set 3<|k6_3 P).set 12<|S5).set 38<|S4⟩,{}⟩
def k7H:Vl:=⟨⟨((((kL P).take 140).set 3<|k7_3 P).set 12<|S3).set 38<|SZ⟩,{}⟩
def k8H:Vl:=⟨⟨((((kL P).take 160).set 3<|k8_3 P).set 12<|SY).set 38<|SX⟩,{}⟩
def k9H:Vl:=⟨⟨(((kL P).take 180).set 3<|k9_3 P).set 12<|SW⟩,{}⟩
def Rf:Vl:=⟨⟨(((kL P).take 218).set 3<|Tt P).set 12<|Re⟩,{}⟩
def Rc:Vl:=⟨⟨(((kL P).take 266).set 3<|Ts P).set 12<|Rb⟩,{}⟩
def Ra:Vl:=⟨⟨(((kL P).take 312).set 3<|Tq P).set 12<|Q9⟩,{}⟩
def Q8:Vl:=⟨⟨(((kL P).take 339).set 3<|Tp P).set 12<|Q7⟩,{}⟩
def Q6:Vl:=⟨⟨(((kL P).take 427).set 3<|Tm P).set 12<|Q5⟩,{}⟩
def Q4:Vl:=⟨⟨(((kL P).take 470).set 3<|Tl P).set 12<|Q3⟩,{}⟩
def Q2:Vl:=⟨⟨(((kL P).take 480).set 3<|Tk P).set 12<|Q1⟩,{}⟩
def Q0:Vl:=⟨⟨(((kL P).take 548).set 3<|Tj P).set 12<|QZ⟩,{}⟩
def QY:Vl:=⟨⟨(((kL P).take 592).set 3<|Ti P).set 12<|QX⟩,{}⟩
def QW:Vl:=⟨⟨(((kL P).take 638).set 3<|Th P).set 12<|QV⟩,{}⟩
def QU:Vl:=⟨⟨(((kL P).take 692).set 3<|Tf P).set 12<|QT⟩,{}⟩
noncomputable def yo:Vl:=⟨⟨kL P⟩,{}⟩
end
noncomputable def aH:a0r:=[2,3]++gA 29 llB++[37,38,180,181,185,186,190,191,197,198,204,205,211,212,216,217]++gA 223 llE++gA 256 llF++gA 293 llG++[346,352,353,373,374,380,381,392,393,411,412,418,419,421,422]++gA 427 llJ++[453,454,455]++gA 456 llK++[487,488,492,493,499,500,506,507,511,512,518,519,525,526,542,543]++gA 548 llN
def KH(P:Params):UA:=aH.map λi=>(i,(kL P).getD i<|tO [])
noncomputable def qH:UT:={PySem.Challenge.pw_edgetally_k31_ends_small with main:={PySem.Challenge.pw_edgetally_k31_ends_small.main with body:=[cy 0,cy 2,cy 3,cy 4,cy 5,cy 6,cy 7,cy 8,cy 9,cy 11,cy 12,cy 13,cy 14,cy 16,cy 17,cy 18,cy 19,cy 20,cy 21,cy 23,cy 24,cy 25,cy 26,cy 27,cy 29,cy 30,cy 31,cy 32,cy 33,cy 34,cy 35,cy 37,cy 38,cy 39,cy 40,cy 41,cy 42,cy 43,cy 44,cy 45,cy 46,cy 48,cy 49,cy 50,cy 51,cy 53,cy 54,cy 55,cy 56,cy 57,cy 58,cy 59,cy 60,cy 62,cy 63,cy 64,cy 65,cy 66,cy 67,cy 68,cy 69,cy 70,cy 71,cy 72,cy 73,cy 74,cy 75,cy 76,cy 77,cy 78,cy 79,cy 80,cy 81,cy 82,cy 83,cy 84,cy 85,cy 86,cy 87,cy 88,cy 89,cy 90,cy 91,cy 92,cy 93]}}
noncomputable abbrev lvH:List (U3×PySem.W.WData):=[("FREE",PySem.W.WData.tuple [PySem.W.WData.int 0,PySem.W.WData.int 40])]
noncomputable abbrev loH:a0i:=["BadSums","BadBounds","BadRule","BadCell","BadNumber","FREE","free","Net","Measure"]
abbrev hkH:=PySem.W.kHook KH aH (λ_=>mh)
def xtH(s:Uj):Bool:=PySem.W.xlAt qH lvH s&&PySem.W.recOk (PySem.W.RowW.records<|WC<|W1 Vb) s
noncomputable abbrev pH:UT:=PySem.W.RowW.prog<|WC<|W1 Vb
noncomputable def l0:a0R:=PySem.W.behindTheImports pH
def m_:Env:={scope:=pH.main.scope,locals:=mainNs,globals:=mainNs,cells:=[],code:=(.ref 13),frame:=(U 14)}
def cH:Code:= .body l0 m_
noncomputable abbrev l_:List Frame:=[PySem.W.topFrame ⟨0,0,0,0⟩]
theorem opH(w:UY):(PySem.W.fencedOpening UW pH w 10266).map (λs=>(s.heap,s.gens,s.drawn,s.toks))=U (h0H w.params,#[],{},181):=by kernel_rfl
theorem szH(w:UY):((h0H w.params).isNs WB&&(#[]:Array GenState).size==0,(h0H w.params).objs.size,(h0H w.params).nsMap WB "__annotations__")=(O,11,(U<|.ref 6)):=by kernel_rfl
theorem r1H(w:UY)(D:Wr):PySem.W.topGo UW pH w 11 (U<|.ref 6) 12 ⟨h0H w.params,#[],{},181,D⟩ (PySem.W.topStub pH)=U (⟨h1H w.params,#[],{},187,D⟩,⟨denote UW<|.body l0 m_,cH,⟨0,0,0,0⟩,l_⟩):=by kernel_rfl
theorem r2H(w:UY)(D:Wr):Vd UW pH w 11 (U<|.ref 6) 1 1 ⟨h1H w.params,#[],{},187,D⟩ (PySem.W.blockOf l0 m_ cH ⟨0,0,0,0⟩ l_)=U (.next,⟨h1H w.params,#[],{},187,D⟩,cH,⟨0,0,0,0⟩):=by kernel_rfl
theorem c1H(w:UY)(D:Wr):Vd UW pH w 11 (U<|.ref 6) 1 39 ⟨h1H w.params,#[],{},187,D⟩ (U5 (l0.take 2) m_ cH ⟨0,0,0,0⟩ l_)=U (.next,⟨k1H w.params,#[],{},196,D⟩,cH,⟨4,0,4,8⟩):=by kernel_rfl
theorem c2H(w:UY)(D:Wr):Vd UW pH w 11 (U<|.ref 6) 1 220 ⟨k1H w.params,#[],{},196,D⟩ (U5 ((l0.drop 2).take 1) m_ cH ⟨4,0,4,8⟩ l_)=U (.next,⟨k2H w.params,#[],{},224,D⟩,cH,⟨5,0,9,24⟩):=by kernel_rfl
theorem c3H(w:UY)(D:Wr):Vd UW pH w 11 (U<|.ref 6) 1 247 ⟨k2H w.params,#[],{},224,D⟩ (U5 (((l0.drop 2).drop 1).take 1) m_ cH ⟨5,0,9,24⟩ l_)=U (.next,⟨k3H w.params,#[],{},249,D⟩,cH,⟨10,0,13,45⟩):=by kernel_rfl
theorem c4H(w:UY)(D:Wr):Vd UW pH w 11 (U<|.ref 6) 1 247 ⟨k3H w.params,#[],{},249,D⟩ (U5 ((((l0.drop 2).drop 1).drop 1).take 1) m_ cH ⟨10,0,13,45⟩ l_)=U (.next,⟨k4H w.params,#[],{},274,D⟩,cH,⟨14,0,17,47⟩):=by kernel_rfl
theorem c5H(w:UY)(D:Wr):Vd UW pH w 11 (U<|.ref 6) 1 246 ⟨k4H w.params,#[],{},274,D⟩ (U5 (((((l0.drop 2).drop 1).drop 1).drop 1).take 1) m_ cH ⟨14,0,17,47⟩ l_)=U (.next,⟨k5H w.params,#[],{},299,D⟩,cH,⟨18,0,22,24⟩):=by kernel_rfl
theorem c6H(w:UY)(D:Wr):Vd UW pH w 11 (U<|.ref 6) 1 248 ⟨k5H w.params,#[],{},299,D⟩ (U5 ((((((l0.drop 2).drop 1).drop 1).drop 1).drop 1).take 1) m_ cH ⟨18,0,22,24⟩ l_)=U (.next,⟨k6H w.params,#[],{},326,D⟩,cH,⟨23,0,28,30⟩):=by kernel_rfl
theorem c7H(w:UY)(D:Wr):Vd UW pH w 11 (U<|.ref 6) 1 247 ⟨k6H w.params,#[],{},326,D⟩ (U5 (((((((l0.drop 2).drop 1).drop 1).drop 1).drop 1).drop 1).take 1) m_ cH ⟨23,0,28,30⟩ l_)=U (.next,⟨k7H w.params,#[],{},351,D⟩,cH,⟨29,0,32,45⟩):=by kernel_rfl
theorem c8H(w:UY)(D:Wr):Vd UW pH w 11 (U<|.ref 6) 1 247 ⟨k7H w.params,#[],{},351,D⟩ (U5 ((((((((l0.drop 2).drop 1).drop 1).drop 1).drop 1).drop 1).drop 1).take 1) m_ cH ⟨29,0,32,45⟩ l_)=U (.next,⟨k8H w.params,#[],{},376,D⟩,cH,⟨33,0,36,45⟩):=by kernel_rfl
theorem c9H(w:UY)(D:Wr):Vd UW pH w 11 (U<|.ref 6) 1 247 ⟨k8H w.params,#[],{},376,D⟩ (U5 (((((((((l0.drop 2).drop 1).drop 1).drop 1).drop 1).drop 1).drop 1).drop 1).take 1) m_ cH ⟨33,0,36,45⟩ l_)=U (.next,⟨k9H w.params,#[],{},401,D⟩,cH,⟨37,0,40,47⟩):=by kernel_rfl
theorem c10H(w:UY)(D:Wr):Vd UW pH w 11 (U<|.ref 6) 1 228 ⟨k9H w.params,#[],{},401,D⟩ (U5 ((((((((((l0.drop 2).drop 1).drop 1).drop 1).drop 1).drop 1).drop 1).drop 1).drop 1).take 11) m_ cH ⟨37,0,40,47⟩ l_)=U (.next,⟨Rf w.params,#[],{},457,D⟩,cH,⟨69,0,77,44⟩):=by kernel_rfl
theorem c11H(w:UY)(D:Wr):Vd UW pH w 11 (U<|.ref 6) 1 247 ⟨Rf w.params,#[],{},457,D⟩ (U5 (((((((((((l0.drop 2).drop 1).drop 1).drop 1).drop 1).drop 1).drop 1).drop 1).drop 1).drop 11).take 10) m_ cH ⟨69,0,77,44⟩ l_)=U (.next,⟨Rc w.params,#[],{},521,D⟩,cH,⟨115,0,117,41⟩):=by kernel_rfl
theorem c12H(w:UY)(D:Wr):Vd UW pH w 11 (U<|.ref 6) 1 245 ⟨Rc w.params,#[],{},521,D⟩ (U5 ((((((((((((l0.drop 2).drop 1).drop 1).drop 1).drop 1).drop 1).drop 1).drop 1).drop 1).drop 11).drop 10).take 10) m_ cH ⟨115,0,117,41⟩ l_)=U (.next,⟨Ra w.params,#[],{},585,D⟩,cH,⟨147,0,148,83⟩):=by kernel_rfl
theorem c13H(w:UY)(D:Wr):Vd UW pH w 11 (U<|.ref 6) 1 141 ⟨Ra w.params,#[],{},585,D⟩ (U5 (((((((((((((l0.drop 2).drop 1).drop 1).drop 1).drop 1).drop 1).drop 1).drop 1).drop 1).drop 11).drop 10).drop 10).take 5) m_ cH ⟨147,0,148,83⟩ l_)=U (.next,⟨Q8 w.params,#[],{},623,D⟩,cH,⟨177,0,178,103⟩):=by kernel_rfl
theorem c14H(w:UY)(D:Wr):Vd UW pH w 11 (U<|.ref 6) 1 547 ⟨Q8 w.params,#[],{},623,D⟩ (U5 ((((((((((((((l0.drop 2).drop 1).drop 1).drop 1).drop 1).drop 1).drop 1).drop 1).drop 1).drop 11).drop 10).drop 10).drop 5).take 1) m_ cH ⟨177,0,178,103⟩ l_)=U (.next,⟨Q6 w.params,#[],{},731,D⟩,cH,⟨179,0,219,39⟩):=by kernel_rfl
theorem c15H(w:UY)(D:Wr):Vd UW pH w 11 (U<|.ref 6) 1 251 ⟨Q6 w.params,#[],{},731,D⟩ (U5 (((((((((((((((l0.drop 2).drop 1).drop 1).drop 1).drop 1).drop 1).drop 1).drop 1).drop 1).drop 11).drop 10).drop 10).drop 5).drop 1).take 11) m_ cH ⟨179,0,219,39⟩ l_)=U (.next,⟨Q4 w.params,#[],{},810,D⟩,cH,⟨254,0,258,15⟩):=by kernel_rfl
theorem c16H(w:UY)(D:Wr):Vd UW pH w 11 (U<|.ref 6) 1 53 ⟨Q4 w.params,#[],{},810,D⟩ (U5 ((((((((((((((((l0.drop 2).drop 1).drop 1).drop 1).drop 1).drop 1).drop 1).drop 1).drop 1).drop 11).drop 10).drop 10).drop 5).drop 1).drop 11).take 2) m_ cH ⟨254,0,258,15⟩ l_)=U (.next,⟨Q2 w.params,#[],{},822,D⟩,cH,⟨261,0,262,91⟩):=by kernel_rfl
theorem c17H(w:UY)(D:Wr):Vd UW pH w 11 (U<|.ref 6) 1 454 ⟨Q2 w.params,#[],{},822,D⟩ (U5 (((((((((((((((((l0.drop 2).drop 1).drop 1).drop 1).drop 1).drop 1).drop 1).drop 1).drop 1).drop 11).drop 10).drop 10).drop 5).drop 1).drop 11).drop 2).take 1) m_ cH ⟨261,0,262,91⟩ l_)=U (.next,⟨Q0 w.params,#[],{},912,D⟩,cH,⟨263,0,308,16⟩):=by kernel_rfl
theorem c18H(w:UY)(D:Wr):Vd UW pH w 11 (U<|.ref 6) 1 231 ⟨Q0 w.params,#[],{},912,D⟩ (U5 ((((((((((((((((((l0.drop 2).drop 1).drop 1).drop 1).drop 1).drop 1).drop 1).drop 1).drop 1).drop 11).drop 10).drop 10).drop 5).drop 1).drop 11).drop 2).drop 1).take 9) m_ cH ⟨263,0,308,16⟩ l_)=U (.next,⟨QY w.params,#[],{},971,D⟩,cH,⟨356,0,357,76⟩):=by kernel_rfl
theorem c19H(w:UY)(D:Wr):Vd UW pH w 11 (U<|.ref 6) 1 229 ⟨QY w.params,#[],{},971,D⟩ (U5 (((((((((((((((((((l0.drop 2).drop 1).drop 1).drop 1).drop 1).drop 1).drop 1).drop 1).drop 1).drop 11).drop 10).drop 10).drop 5).drop 1).drop 11).drop 2).drop 1).drop 9).take 8) m_ cH ⟨356,0,357,76⟩ l_)=U (.next,⟨QW w.params,#[],{},1033,D⟩,cH,⟨399,0,403,56⟩):=by kernel_rfl
theorem c20H(w:UY)(D:Wr):Vd UW pH w 11 (U<|.ref 6) 1 244 ⟨QW w.params,#[],{},1033,D⟩ (U5 ((((((((((((((((((((l0.drop 2).drop 1).drop 1).drop 1).drop 1).drop 1).drop 1).drop 1).drop 1).drop 11).drop 10).drop 10).drop 5).drop 1).drop 11).drop 2).drop 1).drop 9).drop 8).take 8) m_ cH ⟨399,0,403,56⟩ l_)=U (.next,⟨QU w.params,#[],{},1102,D⟩,cH,⟨432,0,440,22⟩):=by kernel_rfl
theorem e0H:(((((((((((((((((((((l0.drop 2).drop 1).drop 1).drop 1).drop 1).drop 1).drop 1).drop 1).drop 1).drop 11).drop 10).drop 10).drop 5).drop 1).drop 11).drop 2).drop 1).drop 9).drop 8).drop 8).drop 8)=[]:=by kernel_rfl
theorem r9H(w:UY)(D:Wr):PySem.W.topRun UW pH w 11 (U<|.ref 6) 2 ⟨yo w.params,#[],{},1166,D⟩ ⟨PySem.W.doneF .next,cH,⟨489,0,514,60⟩,l_⟩=U ⟨yo w.params,#[],{},1166,D⟩:=by kernel_rfl
theorem rnH(w:UY)(D:Wr):PySem.W.topRun UW pH w 11 (U<|.ref 6) (12+(1+(39+(220+(247+(247+(246+(248+(247+(247+(247+(228+(247+(245+(141+(547+(251+(53+(454+(231+(229+(244+(233+2))))))))))))))))))))))) ⟨h0H w.params,#[],{},181,D⟩ (PySem.W.topStub pH)=U ⟨yo w.params,#[],{},1166,D⟩:=PySem.W.go_top (r1H w D)<|PySem.W.piece_block (r2H w D)<|bJ 2 (c1H w D)<|bJ 1 (c2H w D)<|bJ 1 (c3H w D)<|bJ 1 (c4H w D)<|bJ 1 (c5H w D)<|bJ 1 (c6H w D)<|bJ 1 (c7H w D)<|bJ 1 (c8H w D)<|bJ 1 (c9H w D)<|bJ 11 (c10H w D)<|bJ 10 (c11H w D)<|bJ 10 (c12H w D)<|bJ 5 (c13H w D)<|bJ 1 (c14H w D)<|bJ 11 (c15H w D)<|bJ 2 (c16H w D)<|bJ 1 (c17H w D)<|bJ 9 (c18H w D)<|bJ 8 (c19H w D)<|bJ 8 (c20H w D)<|bJ 8 mh<|Mc e0H<|r9H w D
section
open PySem PySem.W PyProof.Rows
theorem xq0{q:Program}{l m:List Str}{X:Shared->Bool}{s:Shared}(h0:PyProof.Rows.seen ((recsOf q).map (·.name)) (ownsOf q) [] {heap:=s.heap,drawn:=s.drawn,toks:=s.toks,os:=s.os}=expectedOf q)(h1:s.heap.bltView=bltViewBooted)(h2:s.heap.keysOk (looseW q l) ((recsOf q).map (·.name)) ((litsOf q).map (·.1)) ((clssOf q (looseW q l)).map (·.name))=true)(h3:(s.heap.accountedOkI m&&s.heap.isNs mainGlobals&&s.heap.isNs builtinsNs&&tablesOk q s.heap&&X s&&s.gens.size==0)=true)(h4:tabsOk q s=true)(h5:pinSeenD q (drecsOf q) s=pinGoodD (drecsOf q))(h6:plainSeenE q (looseW q l) s=plainGoodE q (looseW q l))(h7:plainSeenD q l s=plainGoodD q l)(h8:wideSeen q s=wideGood q)(h9:clsSeenW q l s=clsGoodW q l):openSeen q l m X true s=openGood q l:=by
 simp only [Bool.and_eq_true] at h3;obtain⟨⟨⟨⟨⟨a1,a2⟩,a3⟩,a4⟩,a5⟩,a6⟩:=h3;unfold openSeen openGood;rw[h0,h1,h2,h4,h5,h6,h7,h8,h9,a1,a2,a3,a4,a5,if_pos Z,a6];rfl
theorem xq1{A B:Type}{a:Bool}{b b':A}{c c':B}(h:a=true)(k:b=b')(l:c=c'):(a,b,c)=(true,b',c'):=by subst h k l;rfl
theorem xq2(w:UY)(D:Wr):PyProof.Rows.seen ((recsOf qH).map (·.name)) (ownsOf qH) [] {heap:=yo w.params,drawn:={},toks:=1166,os:=D}=expectedOf qH:=by kernel_rfl
theorem xq3(w:UY)(D:Wr):(yo w.params).bltView=bltViewBooted:=by kernel_rfl
theorem xq4(w:UY)(D:Wr):(yo w.params).keysOk (looseW qH loH) ((recsOf qH).map (·.name)) ((litsOf qH).map (·.1)) ((clssOf qH (looseW qH loH)).map (·.name))=true:=by kernel_rfl
theorem xq5(w:UY)(D:Wr):((yo w.params).accountedOkI (importedModules pH.main.body)&&(yo w.params).isNs mainGlobals&&(yo w.params).isNs builtinsNs&&tablesOk qH (yo w.params)&&xtH ⟨yo w.params,#[],{},1166,D⟩&&(#[]:Array GenState).size==0)=true:=by kernel_rfl
theorem xq6(w:UY)(D:Wr):tabsOk qH ⟨yo w.params,#[],{},1166,D⟩=true:=by kernel_rfl
theorem xq7(w:UY)(D:Wr):pinSeenD qH (drecsOf qH) ⟨yo w.params,#[],{},1166,D⟩=pinGoodD (drecsOf qH):=by kernel_rfl
theorem xq8(w:UY)(D:Wr):plainSeenE qH (looseW qH loH) ⟨yo w.params,#[],{},1166,D⟩=plainGoodE qH (looseW qH loH):=by kernel_rfl
theorem xq9(w:UY)(D:Wr):plainSeenD qH loH ⟨yo w.params,#[],{},1166,D⟩=plainGoodD qH loH:=by kernel_rfl
theorem xqa(w:UY)(D:Wr):wideSeen qH ⟨yo w.params,#[],{},1166,D⟩=wideGood qH:=by kernel_rfl
theorem xqb(w:UY)(D:Wr):clsSeenW qH loH ⟨yo w.params,#[],{},1166,D⟩=clsGoodW qH loH:=by kernel_rfl
theorem xqc(w:UY)(D:Wr):(staticsOk (importedModules pH.main.body) (h0H w.params) (yo w.params)&&namesBound pH (yo w.params)&&gensDone ⟨yo w.params,#[],{},1166,D⟩&&laidKept (h0H w.params) (yo w.params))=true:=by kernel_rfl
theorem xqd(w:UY)(D:Wr):Hook.obs hkH ⟨yo w.params,#[],{},1166,D⟩=Hook.val hkH w:=by kernel_rfl
theorem xqe(w:UY)(D:Wr):openSeen qH loH (importedModules pH.main.body) xtH true ⟨yo w.params,#[],{},1166,D⟩=openGood qH loH:=xq0 (s:=⟨yo w.params,#[],{},1166,D⟩) (xq2 w D) (xq3 w D) (xq4 w D) (xq5 w D) (xq6 w D) (xq7 w D) (xq8 w D) (xq9 w D) (xqa w D) (xqb w D)
theorem hlH:PySem.W.LeftO pH qH loH xtH (PySem.W.Hook.obs hkH) (PySem.W.Hook.val hkH) 10266:=PySem.W.LeftO.of_pieces (H₀:=h0H) (H₁:=yo) opH szH rnH (by decide +kernel) λw=>funext λD=>xq1 (xqc w D) (xqe w D) (xqd w D)
end
theorem okH:(PySem.W.chainsOk qH&&PySem.W.opensWell (PySem.W.RowW.prog<|WC<|W1 Vb)&&(PySem.W.frees (WC<|W1 Vb)&&(PySem.W.RowW.within<|WC<|W1 Vb).isEmpty))=O:=by decide +kernel
abbrev adH:Ad:=⟨38,35,fk rrB 6,422,543,186,fk rrC 4,191,fk rrD 4,198,fk rrD 11,205,fk rrD 18,212,fk rrD 25,217,fk rrD 30,229,fk rrE 6,236,fk rrE 13,243,fk rrE 20,250,fk rrE 27,255,fk rrE 32,260,fk rrF 4,265,fk rrF 9,270,fk rrF 14,275,fk rrF 19,280,fk rrF 24,285,fk rrF 29,292,fk rrF 36,299,fk Y_ 6,306,fk Y_ 13,311,fk Y_ 18,316,fk Y_ 23,321,fk Y_ 28,328,fk Y_ 35,333,fk Y_ 40,338,fk Y_ 45,433,fk rrJ 6,440,fk rrJ 13,447,fk rrJ 20,452,fk rrJ 25,462,fk rrK 6,469,fk rrK 13,474,fk rrK 18,479,fk rrK 23,552,fk j2 4,559,fk j2 11,564,fk j2 16,569,fk j2 21,576,fk j2 28,581,fk j2 33,586,fk j2 38,591,fk j2 43,596,fk j2 48,603,fk j2 55,608,fk j2 60,613,fk j2 65,618,fk j2 70,623,fk j2 75,630,fk j2 82,637,fk j2 89,644,fk j2 96,651,fk j2 103,658,fk j2 110,665,fk j2 117,672,fk j2 124,679,fk j2 131,686,fk j2 138,691,fk j2 143,696,fk j2 148,701,fk j2 153,706,fk j2 158,713,fk j2 165,720,fk j2 172,727,fk j2 179,734,fk j2 186,353,fk rrH 6,493,fk rrL 4,374,fk rrI 20,500,fk rrM 6,381,fk rrI 27,507,fk rrM 13,419,fk rrI 65,412,fk rrI 58,393,fk rrI 39,512,fk rrM 18,526,fk rrM 32,519,fk rrM 25,739,fk j2 191⟩
section
variable{P:Params}{h:Vl}{l:a0j}
theorem fH{x q:U3}{s:Va}{f:T8}{a b d e h w:Uc}{g:a0U}(l:autoParam ((KH P).lookup f=U (fO<|FN x q s a b d e g h w)) xk)(c:autoParam (Y9 (KH P) h q=O) xk)(k:autoParam (Zx (KH P) (.ref f)=O) xk):g8 (KH P) x q s f (FN x q s a b d e g h w):=OU l c k
theorem mO(X:(KH P).In h)(G:h.Ns WB l){n:U3}{v:Uc}(e:autoParam (PySem.W.nsIn (KH P) WB n=U (U v)) xk):l n=U v:=mg_of X G e
theorem mN(X:(KH P).In h)(G:h.Ns WB l){n:U3}(e:autoParam (PySem.W.nsIn (KH P) WB n=U Y) xk):l n=Y:=PySem.W.mg_none_of X G e
theorem nH(X:(KH P).In h)(G:h.Ns WB l):x_ (KH P) l adH where
 Fc:=mN X G
 Fd:=mN X G
 Fe:=mN X G
 Ff:=mN X G
 Fg:=mN X G
 Fh:=mN X G
 Fi:=mN X G
 Fj:=mN X G
 Fk:=mN X G
 Fl:=mN X G
 Fm:=mN X G
 Fn:=mN X G
 Fo:=mN X G
 Fp:=mN X G
 Fq:=mN X G
 Fs:=mN X G
 Ft:=mN X G
 Fu:=mN X G
 Fv:=kz (u:=(.ref 455)) (mO X G) (qc (p:=455) (q1:=(.type "tuple")) (q2:=Y) (q3:=#[(.str "most" 789),(.str "least" 790)]) (q4:=0) (q5:=#[]) mh Z vy<|by repeat (first|exact trivial|refine⟨Z,?_⟩))
 Fw:=kz (u:=(.ref 454)) (mO X G) (qc (p:=454) (q1:=(.type "tuple")) (q2:=Y) (q3:=#[(.str "rare" 786),(.str "power" 787)]) (q4:=0) (q5:=#[]) mh Z vy<|by repeat (first|exact trivial|refine⟨Z,?_⟩))
 Fy:=kz (u:=(.ref 453)) (mO X G) (qc (p:=453) (q1:=(.type "tuple")) (q2:=Y) (q3:=#[(.str "rare" 779),(.str "square" 780),(.str "power" 781),(.str "off" 782),(.str "most" 783),(.str "least" 784)]) (q4:=0) (q5:=#[]) mh Z vy<|by repeat (first|exact trivial|refine⟨Z,?_⟩))
 Fz:=kz (u:=(.int 40 403)) (mO X G) qd
 F4:=kz (u:=(.int 6 407)) (mO X G) qd
 F5:=kz (u:=(.int 4 405)) (mO X G) qd
 F6:=kz (u:=(.int 500 558)) (mO X G) qd
 F7:=fH
 F8:=mO X G
 F9:=RF (us:=[(.ref 180)]) 2 Z (λs us b a=>by obtain⟨e,f,rfl⟩:=lU2 a;exact PySem.W.kp_binds b λS=>mh) (OZ (qc (p:=180) (q1:=(.type "tuple")) (q2:=Y) (q3:=#[(.int 0 409),(.int 40 403)]) (q4:=0) (q5:=#[]) mh Z vy<|by repeat (first|exact trivial|refine⟨Z,?_⟩)) RC)
 Ga:=⟨fH,mO X G,.all<|s9 λ_ _=>Z⟩
 Gb:=⟨fH,mO X G,.all<|s9 λ_ _=>Z⟩
 Gc:=⟨fH,mO X G,.all<|bA4 λ_ _ _ _=>Z⟩
 Gd:=⟨fH,mO X G,.all<|lv λ_=>Z⟩
 Ge:=⟨fH,mO X G,.all<|na λ_ _ _=>Z⟩
 Gf:=⟨fH,mO X G,.all<|lv λ_=>Z⟩
 Gg:=⟨fH,mO X G,.all<|s9 λ_ _=>Z⟩
 Gh:=⟨fH,mO X G,.all<|lv λ_=>Z⟩
 Gi:=⟨fH,mO X G,.all<|s9 λ_ _=>Z⟩
 Gj:=⟨fH,mO X G,.all<|na λ_ _ _=>Z⟩
 Gk:=⟨fH,mO X G,.all<|s9 λ_ _=>Z⟩
 Gm:=⟨fH,mO X G,.all<|bA4 λ_ _ _ _=>Z⟩
 Gn:=⟨fH,mO X G,.all<|na λ_ _ _=>Z⟩
 Go:=⟨fH,mO X G,.all<|bA4 λ_ _ _ _=>Z⟩
 Gp:=⟨fH,mO X G,.all<|na λ_ _ _=>Z⟩
 Gq:=⟨fH,mO X G,.all<|lv λ_=>Z⟩
 Gr:=⟨fH,mO X G,.all<|na λ_ _ _=>Z⟩
 Gs:=⟨fH,mO X G,.all<|lv λ_=>Z⟩
 Gu:=⟨fH,mO X G,.all<|na λ_ _ _=>Z⟩
 Gv:=⟨fH,mO X G,.all<|bA4 λ_ _ _ _=>Z⟩
 Gx:=⟨fH,mO X G,.all<|s9 λ_ _=>Z⟩
 Gy:=⟨fH,mO X G,.all<|na λ_ _ _=>Z⟩
 Gz:=⟨fH,mO X G,.all<|na λ_ _ _=>Z⟩
 G0:=⟨fH,mO X G,.all<|na λ_ _ _=>Z⟩
 G1:=⟨fH,mO X G,.all<|lv λ_=>Z⟩
 G2:=⟨fH,mO X G,.all<|s9 λ_ _=>Z⟩
 G3:=⟨fH,mO X G,.all λus a=>by obtain⟨_,_,_,_,_,rfl⟩:=lU5 a;rfl⟩
 G4:=⟨fH,mO X G,.all<|s9 λ_ _=>Z⟩
 G5:=⟨fH,mO X G,.all<|s9 λ_ _=>Z⟩
 G6:=⟨fH,mO X G,.all<|lv λ_=>Z⟩
 G7:=⟨fH,mO X G,.all<|lv λ_=>Z⟩
 G8:=⟨fH,mO X G,.all<|na λ_ _ _=>Z⟩
 G9:=⟨fH,mO X G,.all<|na λ_ _ _=>Z⟩
 Ha:=⟨fH,mO X G,.all<|lv λ_=>Z⟩
 Hb:=⟨fH,mO X G,.all<|s9 λ_ _=>Z⟩
 Hc:=⟨fH,mO X G,.all<|s9 λ_ _=>Z⟩
 Hd:=⟨fH,mO X G,.all<|bA4 λ_ _ _ _=>Z⟩
 He:=⟨fH,mO X G,.all<|lv λ_=>Z⟩
 Hf:=⟨fH,mO X G,.all<|lv λ_=>Z⟩
 Hg:=⟨fH,mO X G,.all<|lv λ_=>Z⟩
 Hh:=⟨fH,mO X G,.all<|lv λ_=>Z⟩
 Hi:=⟨fH,mO X G,.all<|s9 λ_ _=>Z⟩
 Hj:=⟨fH,mO X G,.all<|s9 λ_ _=>Z⟩
 Hk:=⟨fH,mO X G,.all<|lv λ_=>Z⟩
 Hl:=⟨fH,mO X G,.all<|na λ_ _ _=>Z⟩
 Hm:=⟨fH,mO X G,.all<|s9 λ_ _=>Z⟩
 Hn:=⟨fH,mO X G,.all<|na λ_ _ _=>Z⟩
 Ho:=⟨fH,mO X G,.all<|lv λ_=>Z⟩
 Hq:=⟨fH,mO X G,.all<|lv λ_=>Z⟩
 Hr:=⟨fH,mO X G,.all<|s9 λ_ _=>Z⟩
 Ht:=⟨fH,mO X G,.all<|lv λ_=>Z⟩
 Hu:=⟨fH,mO X G,.all<|s9 λ_ _=>Z⟩
 Hv:=⟨fH,mO X G,.all<|s9 λ_ _=>Z⟩
 Hw:=⟨fH,mO X G,.all<|lv λ_=>Z⟩
 Hx:=⟨fH,mO X G,.all<|s9 λ_ _=>Z⟩
 Hy:=⟨fH,mO X G,.all<|na λ_ _ _=>Z⟩
 Hz:=⟨fH,mO X G,.all<|na λ_ _ _=>Z⟩
 Ia:=⟨fH,mO X G,.all<|na λ_ _ _=>Z⟩
 Ib:=⟨fH,mO X G,.all<|na λ_ _ _=>Z⟩
 Id:=⟨fH,mO X G,.all<|na λ_ _ _=>Z⟩
 Ie:=⟨fH,mO X G,.all λus a=>by obtain⟨_,_,_,_,_,rfl⟩:=lU5 a;rfl⟩
 Ig:=⟨fH,mO X G,.all<|na λ_ _ _=>Z⟩
 Ih:=⟨fH,mO X G,.all<|lv λ_=>Z⟩
 Ii:=⟨fH,mO X G,.all<|lv λ_=>Z⟩
 Ij:=fH
 Ik:=⟨mh,mh,mh,mh⟩
 Il:=Nl (sv:=[.kw 0]) (.kw .nil) Z vy λs us g b c d=>by obtain⟨e,f,i,rfl⟩:=lU3 c;obtain⟨j,rfl⟩:=lU1 d;exact .of_eq Z
 Im:=fH
 Io:=⟨mh,mh,mh,mh⟩
 Ip:=Nl (sv:=[.kw 0]) (.kw .nil) Z vy λs us g b c d=>by obtain⟨e,f,i,k,rfl⟩:=lU4 c;obtain⟨j,rfl⟩:=lU1 d;exact .of_eq Z
 Iq:=fH
 Ir:=⟨mh,mh,mh⟩
 Iu:= .all (lv λ_=>Z)
 Iw:=fH
 Ix:=⟨mh,mh,mh⟩
 Iy:= .all (lv λ_=>Z)
 Iz:=fH
 I0:=⟨mh,mh,mh⟩
 I9:= .all (lv λ_=>Z)
 Ja:=fH
 Jb:=⟨mh,mh,mh⟩
 Jc:= .all (lv λ_=>Z)
 Jd:=fH
 Je:=⟨mh,mh,mh⟩
 Jf:= .all (lv λ_=>Z)
 Jg:=fH
 Jh:=⟨mh,mh,mh⟩
 Ji:= .all (na λ_ _ _=>Z)
 Jj:=fH
 Jk:=⟨mh,mh,mh⟩
 Jl:= .all (na λ_ _ _=>Z)
 Jm:=fH
 Jn:=⟨mh,mh,mh⟩
 Jo:= .all (na λ_ _ _=>Z)
 Jp:=fH
 Jq:=⟨mh,mh,mh⟩
 Jr:= .all (lv λ_=>Z)
 Js:=fH
 Jt:=⟨mh,mh,mh⟩
 Ju:= .all (na λ_ _ _=>Z)
 Jv:=⟨mh,mh,mh,mh⟩
 Jw:=mO X G
 J1:=⟨mh,mh,mh,mh⟩
 J2:=mO X G
 J3:=show Xv (KH P) _ _=_ by kernel_rfl
 J4:=show Xv (KH P) _ _=_ by kernel_rfl
 J5:=show Xv (KH P) _ _=_ by kernel_rfl
 J6:=show Xv (KH P) _ _=_ by kernel_rfl
 J7:=show Xv (KH P) _ _=_ by kernel_rfl
 Jx:=show Xv (KH P) _ _=_ by kernel_rfl
 Jy:=show Xv (KH P) _ _=_ by kernel_rfl
 Jz:=show Xv (KH P) _ _=_ by kernel_rfl
 J0:=show Xv (KH P) _ _=_ by kernel_rfl
 J8:=fH
 J9:= .all (na λ_ _ _=>Z)
 Ka:=mO X G
 Kb:=⟨mh,mh,mh,mh⟩
theorem wlkH:PySem.W.WalkO qH loH (PySem.W.XL qH lvH) (PySem.W.Hook.says hkH) (WC<|W1 Vb) (Option.get (PySem.W.defOf qH "law") Z).1 [] (λf D=>PySem.call f D):=
 L2.walk_of (n:=63) (k:=9) (x:="_law_script") (CX:=λw=>hO _ w) (sp:=λw=>MU<|KH w.params) Z vy Z ⟨Z,vy,vy,Z⟩ (λw h m=>PySem.W.kIn_of m) (λw l i h c G b=>by
  have e:=b.symm.trans (mg_of c G (v:= .ref 739) mh);cases e;exact⟨FN "law" "law" (cy 93) .none .none .none (.str "law_edgetally_k31_ends_small" 912) Y (.ref 738) .none,λs v=> .of_eq Z,λbase _ _=>Qx (a:=adH) (fH mh mh mh) (nH c G) λE M=>LX (K:=KH w.params) (a:=adH) E M⟩) (λ_ _ a P d _ g=>⟨a,P,Z,g,d,λ_=>Z⟩) λ_ _ _ _ _ h=>by obtain⟨x,C,j,_,fl⟩:=h;obtain⟨_,_,z⟩:=fl.wish;all_goals exact z
end
end Law
open PySem.W
set_option maxHeartbeats 0 in
theorem PySem.Challenge.cw_edgetally_k31_ends_small_holds : PySem.Challenge.rw_edgetally_k31_ends_small.Holds := by
 w_on
 refine holds_law Law.wsH λsaid=>?_;refine holds_open (q:=Law.qH) (loose:=Law.loH) (Xt:=Law.xtH) (XP:=XL Law.qH Law.lvH) (Yf:=Hook.obs Law.hkH) (Ya:=Hook.val Law.hkH) (YP:=Hook.says Law.hkH) (N:=10266) Law.hlH (Hook.of Law.hkH) (Hook.keeps Law.hkH) (λs e=>xl_of s (Bool.and_eq_true_iff.mp e).1) XL.keeps mo mo mo (λs e=>recFacts_of (Bool.and_eq_true_iff.mp e).2) mo said Law.okH ⟨Z,Z,Z,Z,Z,by decide +kernel⟩ ?hw ?hc
 case hw=>w_witness2
 exact Law.wlkH
