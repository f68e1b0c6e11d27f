import PyProof.Rows.All
import Wide.All
import OpenK.AllK
import Wide.FinOn
import Lean
import PyProof.EqAt
import PyProof.EqKinds
import PyProof.TupleCall
import PyProof.NsDelKeeps
import PyProof.ListRange
import PyProof.ExcArgsOwn
import PySem.Challenge.RW_edgetally_k32_ends_held
set_option Elab.async false
set_option linter.all false
set_option genSizeOf false
set_option genInjectivity false
set_option compiler.extract_closed false
set_option bootstrap.genMatcherCode false
set_option maxHeartbeats 8000000
set_option maxRecDepth 100000
theorem zzz(_:1=1:=by rfl):1=1:=rfl
def z6:=zzz._auto_1
theorem zzy(_:1=1:=by decide):1=1:=rfl
def z7:=zzy._auto_1
theorem zzx(_:1=1:=by intro _;rfl):1=1:=rfl
def z9:=zzx._auto_1
theorem zzw(_:1=1:=by first|exact .inl Z|exact .inr Z|assumption):1=1:=rfl
def q8:=zzw._auto_1
theorem zzv(_:1=1:=by kernel_rfl):1=1:=rfl
def q9:=zzv._auto_1
theorem zzu(_:1=1:=by decide +kernel):1=1:=rfl
def xZ:=zzu._auto_1
theorem zzt(_:1=1:=by with_unfolding_all rfl):1=1:=rfl
def xJ:=zzt._auto_1
theorem zzs(_:1=1:=by first|exact yt _|rfl):1=1:=rfl
def x3:=zzs._auto_1
theorem zzr(_:1=1:=by first|exact WU Z|exact XZ Z):1=1:=rfl
def x5:=zzr._auto_1
theorem Law.wsPt0:PySem.Challenge.rw_edgetally_k32_ends_held.row.wellSaid=true:=by decide +kernel
theorem Law.wsH:PySem.W.OpenLaw.wellSaid PySem.Challenge.rw_edgetally_k32_ends_held=true:=by unfold PySem.W.OpenLaw.wellSaid;rw[wsPt0];decide +kernel
theorem Z{q:Sort u}{a:q}:a=a:=rfl
theorem ln{p:Prop}(h:p:=by lia):p:=h
theorem rb{p:Prop}(h:autoParam p z7):p:=h
theorem rc{p:Prop}(h:p:=by simp):p:=h
theorem re{p:Prop}(h:autoParam p z6):p:=h
theorem rf{p:Prop}(h:autoParam p q9):p:=h
noncomputable section
abbrev cb:="_law_bag_here"
abbrev ek:="_law_grid_here"
abbrev fg:="columnsums"
abbrev f':="_law_kind_here"
abbrev ik:="_law_columnsums_here"
abbrev i':="rowsums"
abbrev jv:="self"
abbrev jw:="_law_rowsums_here"
abbrev jW:="bounds"
abbrev jX:="_law_limits"
abbrev jY:="_law_where"
abbrev jZ:="_law_block"
abbrev kI:="ValueError"
abbrev kJ:="EdgeError"
abbrev kK:="ValueError.__new__"
abbrev lP:="tuple"
abbrev lQ:="list"
abbrev lS:="measure"
abbrev lT:="_law_sides_here"
abbrev mK:="rests"
abbrev mM:="_law_columns"
abbrev mP:="_law_other"
abbrev mQ:="_law_found"
abbrev mR:="BaseException"
abbrev mT:="counts"
abbrev mU:="_law_one"
abbrev oE:="_law_lot"
abbrev oF:="_law_column"
abbrev oG:="column"
abbrev oH:="__static_attributes__"
abbrev oI:="__init__"
abbrev oJ:="column_list"
abbrev oK:="object"
abbrev pe:="_law_count"
abbrev pf:="Exception"
abbrev ph:="reversed"
abbrev rh:="place"
abbrev rj:="object.__class__"
abbrev rk:="_law_script"
abbrev rm:="level"
abbrev sZ:="__firstlineno__"
abbrev td:="row_list"
abbrev ti:="over"
abbrev tj:="range"
abbrev tq:="power"
abbrev tu:="columns"
abbrev tw:="_law_to"
abbrev tA:="_law_rests"
abbrev tE:="many"
abbrev vP:="getset_descriptor"
abbrev vQ:="dict"
abbrev vR:="net"
abbrev vS:="least"
abbrev vT:="rows"
abbrev vU:="__name__"
abbrev vV:="_law_at"
abbrev vW:="isinstance"
abbrev vX:="Measure"
abbrev wh:="__weakref__"
abbrev xY:="type"
abbrev x6:="ExceptionGroup.__weakref__"
abbrev x8:="dict_itemiterator"
abbrev x9:="other"
abbrev x':="__module__"
abbrev ya:="counted"
abbrev yb:="set_iterator"
abbrev yc:="products"
abbrev yd:="_law_due"
abbrev y':="enumerate"
abbrev zT:="rare"
abbrev AA:="str"
abbrev AB:="sorted"
abbrev AC:="set_iterator.__next__"
abbrev C1:="set_iterator.__iter__"
abbrev D':="number"
abbrev F':="pairs"
abbrev G':="most"
abbrev HS:="_law_parts"
abbrev HW:="square"
abbrev HY:="set-order"
abbrev J':="pair"
abbrev K':="object.__setattr__"
abbrev L':="bool"
abbrev M':="behind"
abbrev N':="found"
abbrev O':="int"
abbrev P':="_law_things"
abbrev R':="told"
abbrev S':="reversed.__new__"
abbrev T':="edgetally.bounds"
abbrev UE:="dealings"
abbrev UG:="_law_way"
abbrev U0:="zip"
abbrev U':="settled_for_net"
abbrev V':="check_same_sums"
abbrev W':="_law_self_power"
abbrev X':="_law_known"
abbrev Y':="numbers"
abbrev Z':="kind"
abbrev ε:="_law_part_here"
abbrev ζ:="_law_factorial"
abbrev η:="one"
abbrev θ:="law_edgetally_k32_ends_held"
abbrev ι:="_law_told"
abbrev κ:="_law_node"
abbrev ν:="_law_both"
abbrev ξ:="type.__call__"
abbrev ο:="common_factor"
abbrev π:="builtin_function_or_method"
abbrev ρ:="_law_together"
abbrev ς:="__classdict__"
abbrev χ:List PySem.Str:=["_law_rowsums_here","_law_columnsums_here","_law_limits"]
abbrev ψ:List PySem.Str:=[rk,cb,ek,jX,f',jY,"_law_net_here","_law_scale_here",yd,"_law_handed","_law_bent_here"]
abbrev ω:List PySem.Str:=[mK,"filled",M',"tables",UE,mT,"tables_behind","dealings_behind"]
abbrev Α:List PySem.Str:=[vR,lS,rm,mK,N',"leasts","greatests",mT,vS,"greatest","part"]
abbrev Β:List PySem.Str:=["level","rests","tables","dealings"]
abbrev Γ:List PySem.Str:=[i',fg,jW]
abbrev Δ:List PySem.Str:=["row",oG,vT,tu]
abbrev Ε:List PySem.Str:=[jv,rm,mK]
abbrev Ζ:List PySem.Str:=[vR,lS]
abbrev Η:List PySem.Str:=[jw,ik,jX]
abbrev Θ:List PySem.Str:=[jv,Z',i',fg,rh]
open Array renaming length_toList->Vp,getElem?_eq_some_iff->VZ,getElem?_eq_none->Xv,getElem?_toList->XI,getElem_toList->XQ,getD->X0,getElem?_eq_getElem->YL,forIn_toList->YZ
open Bool renaming true->O,false->UK,false_ne_true->UX,false_eq_true->Vd,and_eq_true->Vu,not_true->Xz,true_and->Yr,false_and->Zg
open Classical renaming byContradiction->XG
open Except renaming ok->VP
open False renaming elim->XH
open Function renaming comp->Z2
open Int renaming toNat_natCast->Wc,natCast_add->Y5,zero_add->Zk,emod_nonneg->ZP,emod_lt_of_pos->Z6,fdiv_eq_ediv_of_nonneg->Z7
open List renaming length->ϱ,length_map->UD,mem_cons_of_mem->UI,getElem?_eq_getElem->UJ,mem_map->UL,getElem?_map->UN,getD_eq_getElem?_getD->UO,mem_cons_self->UP,map_map->UR,range->UT,getElem?_eq_some_iff->UY,map_cons->UZ,mem_of_getElem?->U2,mem_cons->U4,length_cons->U5,length_append->Va,size_toArray->Vf,mem_range->Vg,length_range->Vi,map_append->Vj,sum_cons->Vk,replicate->Vn,map_congr_left->Vr,mem_singleton->Vs,append_nil->VA,take_length->VB,length_take->VI,length_set->VM,getElem?_range->VN,getElem_mem->VU,length_singleton->VX,mem_append_right->VY,nodup_cons->V2,append_assoc->V5,flatMap_cons->V6,mem_append->V7,mem_flatMap->Wb,mem_filter->Wg,replicate_succ->Wm,drop_eq_getElem_cons->Wo,not_mem_nil->Wr,zip_cons_cons->Wv,map->Ww,map_flatMap->WA,sum->WC,getElem?_set->WG,nil_append->WH,exists_cons_of_length_eq_add_one->WK,take_of_length_le->WL,filterMap_cons->WQ,length_replicate->WS,cons_append->WY,ext_getElem->WZ,mem_of_mem_take->W0,getElem?_append_right->W4,map_nil->W5,find?_cons->W8,mem_or_eq_of_mem_set->Xa,pairwise_iff_getElem->Xb,length_filter_le->Xc,take_append_drop->Xd,mem_replicate->Xf,getElem?_replicate->Xn,pairwise_map->Xo,range_succ->Xp,flatMap_append->Xs,drop_eq_nil_of_le->Xx,getElem_map->XE,length_nil->XR,length_zip->XS,of_mem_zip->XT,flatten_cons->XW,mem_append_left->XX,map_eq_nil_iff->X4,all_eq_true->X5,mem_reverse->X6,pairwise_singleton->X7,getElem_range->Yg,map_replicate->Yh,forIn_cons->Yq,map_drop->Ys,forIn_nil->YD,filter_cons->YM,length_drop->YN,zipWith->YO,getElem?_append_left->YS,length_reverse->YU,sum_append->Y1,pairwise_cons->Y6,flatMap_eq_nil_iff->Y9,map_set->Zh,getElem?_eq_none->Zr,drop_length->Zu,any_cons->Zz,map_take->ZA,length->ZJ,lookup->ZK,filter_sublist->ZQ,mem_filterMap->Z3
open List.cons renaming injEq->X9,inj->YH
open Min renaming min->XF
open Nat renaming le_refl->UV,le_trans->U1,lt_of_lt_of_le->Vo,ne_of_lt->VJ,zero_le->VL,lt_of_le_of_lt->VT,lt_irrefl->V4,zero_add->WM,le_add_right->Xi,mul_le_mul_right->Xk,pow_le_pow_right->Xl,not_lt_zero->Xq,mul_comm->XA,ne_of_gt->XB,lt_succ_of_lt->X1,lt_trichotomy->X2,lt_succ_self->Yb,le_of_lt->Yj,sub_self->Yk,mul_le_mul->YI,min_le_left->Y7,le_min->Za,le_mul_of_pos_right->Zc,gcd->Zl,le_of_lt_succ->Zm,mul_left_comm->Zn,min_le_right->ZB,mod_lt->ZC,succ_le_succ->ZD,mul_assoc->ZL,le_succ->ZM,div_le_self->ZR,lt_trans->Z0,add_le_add->Z8
open Option renaming some->U,none->Y,map_some->Wx,bind_some->WJ
open Option.some renaming inj->Vt
open Or renaming inl->WU,inr->XZ
open Prod renaming ext->Xu,ext_iff->Xy
open Pure renaming pure->W2
open PyProof.Rows renaming callWith_type1->Wq,slot_tuple_getitem->WE,seqObj->Xr,listUpdate_at->Ze,envOfC->Zo,IntsAre->Zy
open PySem renaming wpAny_bind->My,wpAny_pure->UF,Addr->UM,Value->UQ,Shared->UW,wpAny->U6,starEach->U8,FuncData->U9,sizeLine->Ve,model->Vq,Program->Vw,treeTable->Vz,World->VC,wpAny_call_entry->VD,wpAny_newObj_type->VE,Str->VF,Stmt->VQ,Heap->V0,foldedSetIterable->V1,Around->V3,wpAny_mono->V8,SetTable->V9,eval->Wa,Obj->Wd,compareOp->We,wpAny_holding->Wf,wpAny_truthy_bool->Wl,wpAny_field->Wp,mem_of_lookup->Wz,wpAny_setField_rec->WD,sizeLine_eq->WN,Comprehension->WO,cellsFrom->WR,wpAny_setState_of->WV,wpAny_seqItems->WX,OsState->W1,wpAny_isInstance->W3,wpAny_standAt->W9,keywordEach->Xg,mainGlobals->Xh,backTo->Xm,wpAny_specialOf->XD,DictEntry->XN,binaryOp->XU,wpAny_rule->XV,wpAny_comprehension_free->Yd,Pos->Ye,IsPair->Yi,firstArgMember->Ym,wpAny_setField->Yn,wpAny_typeNameOfWhole_itemiter->Yo,wpAny_of_eq->Yu,wpAny_typeNameOfWhole_keyiter->Yv,bootBuiltins->Yx,rawInt->Yy,backToKw->YB,wpAny_passesOwn->YC,wpAny_attempt->YG,pyNext->YK,wpAny_dictEntries->YQ,NameKind->YW,intItems->YX,sliceBounds->YY,standAt->Y4,wpAny_typeNameOf_itemiter->Y8,attributeBase->Zd,wpAny_typeNameOf_keyiter->Zf,codeAny->Zi,wpAny_dictEpoch->Zj,cLine->Zp,holding->ZE,isSubtype_type->ZF,wpAny_fieldsOf->ZG,wpAny_pyIter_slot->ZH,wpAny_typeOf->ZI,swapsWith->ZV,sysModules->ZW,wpAny_askSetting->ZX,wpAny_forIn_list->ZY,behindInMarks->ZZ,Paired->Z9
open PySem.Around renaming under_plainId->Zt
open PySem.Builtin.Dict renaming showsAll->Y0
open PySem.Builtin.Dict_items renaming ownsTuple->W7,ownedTupleFields->Z4,ownedTupleIsFree->Z5
open PySem.Builtin.List renaming listExtendWith->X8,listSameRef->Yz,listTooLong->ZN
open PySem.Builtin.Range renaming rangeFitsLong->Wn,rangeSize->ZO
open PySem.Builtin.Slice renaming slicePlaces->Yp,sliceAdjust->Zw
open PySem.Builtin.SmallTypes renaming nextOf->WW,ownedTupleIsFree->Xe,ownedTupleHandOut->Z1
open PySem.Builtin.Tuple renaming tupleExact->Yw,tupleItemsOf->Zq,tupleHashOf->Zx
open PySem.Challenge renaming rw_edgetally_k32_ends_held->VW
open PySem.F renaming plainAttrs_list->Wh,slot_list_append->Ws,type_list_append->Wt,slot_dict_itemiterator_next->WT,slot_dict_keyiterator_next->Xw,slot_tuple_iterator_next->YR
open PySem.Heap renaming get?_push_of_some->UH,get?_push_size->U7,lt_size->Vm,SameBut->Vy,size_push->WB,get?_update_ne->W6,get?_update_self->XM
open PySem.Heap.SameBut renaming update->Wu
open PySem.NameKind renaming free->XO
open PySem.Obj renaming mapSeq->Wj,data_mapFields->WI,isFreed_of_fields->Zv
open PySem.PyData renaming eqv->YA,depth->YE,eqvAll->YV
open PySem.SeqAt renaming EqAt->WF,shaped->ZT
open PySem.Str renaming ofString->Vc,empty->YT
open PySem.Value renaming ref->Vh,none->VH,type->X3,int->YJ,bool->Y2
open PySem.W renaming Frag->Vb,piecesOf->VG,segRun->VO,findIn->Yl,fnOf->Zb,codeIn->ZS,emptyDict->ZU
open PySem.W.OpenLaw renaming row->XJ
open PySem.W.OpenRow renaming toRowW->Xj
open True renaming intro->YF
open PySem PySem.Spec PyProof PyProof.Rows
abbrev a1c:=List Bool
abbrev a0Y:=Int->Int->Prop
abbrev a0W:=Option UM
abbrev Ϭ:=List WO
abbrev a0T:=List VQ
abbrev a0R:=Option Bool
abbrev a0P:=Nat->Int
abbrev ϲ:=Nat->Nat
abbrev a0N:=List<|VF×YW
abbrev a0M:=Int->Int->Int
abbrev ϳ:=Option Nat
abbrev Ϡ:=List Wd
abbrev ϫ:=Array UQ
abbrev a0A:=Array Nat
abbrev a0z:=Array<|Int×UQ
abbrev a0y:=Array ϳ
abbrev Ϫ:=Option<|UM×UM
abbrev ϗ:=List UM
abbrev ϝ:=List<|VF×UM
abbrev ϛ:=Option Int
abbrev ϙ:=VF->Option UQ
abbrev ϒ:=List VF
abbrev Ϟ:=List<|Nat×Nat
abbrev ό:=List UQ
abbrev ϕ:=UQ->UW->Prop
abbrev ϖ:=List<|UM×Wd
abbrev ώ:=List Int
abbrev ϡ:=List<|ώ×UM
abbrev ϰ:=List Ϟ
abbrev ϊ:=List Nat
abbrev Ϩ:=List<|Nat×ϊ
abbrev Ϙ:=List ϊ
abbrev a0Q:=Nat->ϊ->Nat
abbrev a0Z:=ϊ->ϊ->Prop
abbrev US:=@if_pos
abbrev UU:=@if_neg
abbrev U3:=@decide_eq_true
abbrev Vl:=@absurd
abbrev Vv:=@decide_eq_false
abbrev Vx:=@decide_eq_true_eq
abbrev VR:=@congrArg
abbrev VS:=@if_false
abbrev VV:=@if_true
abbrev WP:=@of_decide_eq_true
abbrev Yc:=@beq_iff_eq
abbrev Yt:=@bne_self_eq_false
abbrev Y3:=@or_false
abbrev Zs:=@decide_eq_decide
open PySem.W (Frag instObj methodObj hideAll hideAll_get hideAll_none lookIn plainGet hasDictIn findIn plainGet_of isFn takerIn emptyDict keepIn specialIn kitOne kia_one kitx_list kitx_tuple cellsFrom_some mg_of kia_tup)
abbrev LI:=List ώ
abbrev LP:=List (List<|Int×Int)
--CHANGE:your row's module here,as the last of these ai
namespace L2
set_option genInjectivity true in
inductive V where
 |non|bl (b:Bool)|int (i:Int)|str (x:VF)|ref (a:UM)|ty (n:String)
 deriving DecidableEq
abbrev ύ:=List V
abbrev a0G:=List<|VF×V
def bf:V->UQ->Prop
 | .non,u=>u=VH
 | .bl b,u=>u=Y2 b
 | .int i,u=>∃t,u=YJ i t
 | .str x,u=>∃t,u=Value.str x t
 | .ref a,u=>u=Vh a
 | .ty n,u=>u=X3 n
abbrev aG:ύ->ό->Prop:=Z9 bf
theorem aG.length(r:aG xs us):xs.length=us.length:=Paired.length r
theorem aG.get:∀{xs:ύ} {D:ό} {i:Nat} {x:V},aG xs D->xs[i]?=U x->∃u,D[i]?=U u/\bf x u
 |_,_,_,_,.nil,e=>by simp at e
 |_,_,0,_,.cons r _,e=>by simp at e;subst e;exact⟨_,Z,r⟩
 |_,_,i+1,x,.cons _ t,e=>by
  obtain⟨u,a,b⟩:=aG.get t (by exact e);simp_all
theorem aG.set(r:bf x u):∀{xs:ύ} {D:ό} (i:Nat),aG xs D->aG (xs.set i x) (D.set i u)
 |_,_,_,.nil=> .nil
 |_,_,0,.cons _ t=> .cons r t
 |_,_,i+1,.cons q t=> .cons q<|aG.set r i t
theorem aG.append:∀{xs D:ύ} {E a:ό},aG xs E->aG D a->aG (xs++D) (E++a)
 |_,_,_,_,.nil,s=>s
 |_,_,_,_,.cons r t,s=> .cons r<|aG.append t s
theorem aG.take:∀{xs:ύ} {D:ό} (n:Nat),aG xs D->aG (xs.take n) (D.take n)
 |_,_,0,_=> .nil
 |_,_,_+1,.nil=> .nil
 |_,_,n+1,.cons r t=> .cons r<|aG.take n t
theorem aG.drop:∀{xs:ύ} {D:ό} (n:Nat),aG xs D->aG (xs.drop n) (D.drop n)
 |_,_,0,r=>r
 |_,_,_+1,.nil=> .nil
 |_,_,n+1,.cons _ t=>aG.drop n t
def jV:Option V->Option UQ->Prop
 |some v,U u=>bf v u
 |none,Y=>True
 |_,_=>False
inductive HO where
 |lst (xs:ύ)
 |tup (xs:ύ)
 |ins (C dx:UM) (fs:a0G)
 |own (x:UM)
 |xd (fs:a0G)
 |met (f x:UM)
 |rng (lo hi:Int)
 |frz (o:Wd) (u:HO)
 |tbl (ps:ϫ)
 |ext (φ:V0->Prop)
abbrev Hp:=UM->Option HO
abbrev a0X:=Bool->Hp->Prop
noncomputable def upd(H:Hp)(a:UM)(o:HO):Hp:=λb=>if b=a then U o else H b
theorem ay:upd H a o a=U o:=by unfold upd;rw[US Z]
theorem bb(h:b≠a):upd H a o b=H b:=by unfold upd;rw[UU h]
theorem Tu{H:Hp}(h:H a=U o)(D:H b=U u)(d:o≠u):a≠b:=by
 intro e;simp_all
theorem aR{H:Hp}(h:H a=U o)(D:H b=Y):a≠b:=by
 intro e;simp_all
section
variable(P:Vw)(w:VC)
def cm(P:Vw)(w:VC)(H:Hp)(h:V0)(a:UM):HO->Prop
 | .lst xs=>xs.length<=Ve/\∃(D:ό) (n:Nat),aG xs D/\h.get? a=U {cls:= .type lQ,data:= .seq D.toArray n}
 | .tup xs=>xs.length<=Ve/\∃D:ό,aG xs D/\IsTup h a D.toArray
 | .ins C dx fs=>H dx=U (.own a)/\fs.length<=1000/\dx≠a/\h.get? a=U (instObj C dx)/\
   ∃b,h.Ns1 dx b/\(∀f,jV (fs.lookup f)<|b f)/\PySem.Within b (fs.map (·.1))
 | .own _=>∃o,h.get? a=U o
 | .xd fs=>∃b,h.Ns1 a b/\∀f,jV (fs.lookup f)<|b f
 | .rng lo hi=>∃t u v,h.get? a=U {cls:= .type tj,data:= .fields #[.int lo t,.int hi u,.int 1 v]}
 | .frz o u=>h.get? a=U o/\cm P w H h a u
 | .tbl ps=>h.get? a=U {cls:= .none,data:= .fields ps}
 | .met f x=>h.get? a=U (methodObj (.ref f)<|.ref x)
 | .ext φ=>φ h/\(∃o,h.get? a=U o)/\∀c d:V0,φ c->(∀o,c.get? a=U o->d.get? a=U o)->φ d
def lr(H:Hp)(h:V0):Prop:=∀a o,H a=U o->cm P w H h a o
end
section
variable{P:Vw}{w:VC}{H s:Hp}{h h':V0}{a:UM}{o:HO}
theorem cm.lt(x:cm P w H h a o):a<h.objs.size:=by
 cases o with
 |lst xs=>obtain⟨_,_,_,_,e⟩:=x;exact Vm e
 |tup xs=>obtain⟨_,_,_,p⟩:=x;exact p.lt
 |ins C dx fs=>obtain⟨_,_,_,e,_⟩:=x;exact Vm e
 |own y=>obtain⟨_,e⟩:=x;exact Vm e
 |xd fs=>obtain⟨_,⟨_,_,_,e,_⟩,_⟩:=x;exact Vm e
 |rng lo hi=>obtain⟨_,_,_,e⟩:=x;exact Vm e
 |frz ob u=>obtain⟨e,_⟩:=x;exact Vm e
 |tbl ps=>exact Vm (show h.get? a=U _ from x)
 |met f y=>exact Vm (show h.get? a=U _ from x)
 |ext φ=>obtain⟨_,⟨_,e⟩,_⟩:=x;exact Vm e
theorem cm.stay(x:cm P w H h a o)(k:∀b u,(b=a\/H b=U (.own a))->h.get? b=U u->h'.get? b=U u)
  (l:∀b,H b=U (.own a)->s b=U (.own a)) (A:∀b E,H b=U (.tup E)->s b=U (.tup E)):cm P w s h' a o:=by
 induction o with
 |lst E=>obtain⟨z,D,n,r,e⟩:=x;exact⟨z,D,n,r,k _ _ (.inl Z) e⟩
 |tup E=>obtain⟨z,D,r,g,e,c⟩:=x;exact⟨z,D,r,g,k _ _ (.inl Z) e,c⟩
 |ins C dx fs=>
  obtain⟨d,z,S,e,i,⟨j,G,K,m,c⟩,r⟩:=x;exact⟨l _ d,z,S,k _ _ (.inl Z) e,i,⟨j,G,K,k _ _ (.inr d) m,c⟩,r⟩
 |own y=>obtain⟨g,e⟩:=x;exact⟨g,k _ _ (.inl Z) e⟩
 |xd fs=>obtain⟨i,⟨j,G,K,e,c⟩,r⟩:=x;exact⟨i,⟨j,G,K,k _ _ (.inl Z) e,c⟩,r⟩
 |rng lo hi=>obtain⟨t,u,v,e⟩:=x;exact⟨t,u,v,k _ _ (.inl Z) e⟩
 |frz g u ih=>obtain⟨e,q⟩:=x;exact⟨k _ _ (.inl Z) e,ih q⟩
 |tbl ps=>
  have e:=x;exact k a _ (.inl Z) e
 |met f y=>
  have e:=x;exact k a _ (.inl Z) e
 |ext φ=>obtain⟨p,⟨o,e⟩,M⟩:=x;exact⟨M _ _ p λo q=>k _ _ (.inl Z) q,⟨o,k _ _ (.inl Z) e⟩,M⟩
theorem lr.lt(x:lr P w H h)(e:H a=U o):a<h.objs.size:=(x a o e).lt
theorem lr.fresh(x:lr P w H h)(e:h.objs.size<=a):H a=Y:=by
 cases q:H a with
 |none=>rfl
 |some u=>exact Vl (Vo (x.lt q) e)<|V4 _
theorem lr.kept(x:lr P w H h)(k:∀b u,h.get? b=U u->h'.get? b=U u):lr P w H h':=λa o e=>
 (x a o e).stay (λb u _ q=>k b u q) (λ_ q=>q) λ_ _ q=>q
theorem lr.laid(x:lr P w H h)(k:∀b u,h.get? b=U u->h'.get? b=U u)(f:h.objs.size<=a)(s:cm P w (upd H a o) h' a o):lr P w (upd H a o) h':=λb u e=>by
 have D:=x.fresh f;by_cases d:b=a
 .subst d;rw[ay]at e;simp_all
 .rw[bb d]at e
  exact(x b u e).stay (λc v _ q=>k c v q) (λc q=>by rw[bb<|aR q D];exact q) λc E q=>by rw[bb<|aR q D];exact q
def Rd(H:Hp)(a:UM)(u:HO):Prop:=H a=U u\/∃o,H a=U (.frz o u)
theorem Rd.ok(r:Rd H a u)(x:lr P w H h):cm P w H h a u:=by
 obtain r|⟨o,r⟩:=r
 .exact x a u r
 .obtain⟨_,q⟩:=x a _ r
  exact q
def Mut:Option HO->Prop
 |some (.lst _)=>True
 |some (.ins _ _ _)=>True
 |some (.ext _)=>True
 |_=>False
variable{x e:UM}{p:HO}
theorem lr.write(s:lr P w H h)(mu:Mut<|H x)(l:e=x\/H e=U (.own x))(k:∀b u,b≠e->h.get? b=U u->h'.get? b=U u)(j:∃u,h'.get? e=U u)
  (o:cm P w (upd H x p) h' x p):lr P w (upd H x p) h':=λb u q=>by
 have f:∀c y,H c=U (.own y)->c≠x:=λc y r z=>by subst z;rw[r]at mu;exact mu
 have g:∀c a,H c=U (.tup a)->c≠x:=λc a r z=>by subst z;rw[r]at mu;exact mu
 by_cases i:b=x
 .subst i;rw[ay]at q;cases q;exact o
 .rw[bb i]at q
  by_cases d:b=e
  .have m:H b=U (.own x):=by
    obtain z|z:=l
    .exact Vl (d.trans z) i
    .rw[d];exact z
   rw[q]at m;cases m;obtain⟨v,n⟩:=j;exact⟨v,by rw[d];exact n⟩
  .refine(s b u q).stay (λc v hc r=>k c v ?_ r) (λc r=>by rw[bb<|f c b r];exact r) λc a r=>by rw[bb<|g c a r];exact r
   obtain rfl|hc:=hc
   .exact d
   .rintro rfl
    obtain z|z:=l
    .exact f c b hc z
    .rw[hc]at z;cases z;exact i Z
structure Un (fs ex:ϗ) (H s:Hp) (h h':V0):Prop where
 keep:∀b o,h.get? b=U o->H b=Y->b∉fs->b∉ex->h'.get? b=U o
 slot:∀b o,h.get? b=U o->H b=Y->b∈fs->b∉ex->∃sl,h'.get? b=U {o with slots:=sl}
 free:∀b o,h.get? b=U o->H b=Y->b∉ex->s b=Y
 there:∀b o,h.get? b=U o->b∉ex->∃p,h'.get? b=U p
 tups:∀b xs,H b=U (.tup xs)->s b=U (.tup xs)
 frzs:∀b o u,H b=U (.frz o u)->s b=U (.frz o u)
 tbls:∀b ps,H b=U (.tbl ps)->∃more,s b=U (.tbl<|ps++more)
variable{l g ex i:ϗ}{m s:Hp}{k r:V0}
theorem Un.any(u:Un l ex H m h k)(q:h.get? b=U ob)(n:H b=Y)(a:b∉ex):∃e,k.get? b=U {ob with slots:=e}:=by
 by_cases c:b∈l
 .exact u.slot b ob q n c a
 .exact⟨ob.slots,u.keep b ob q n c a⟩
theorem Un.trans(a:Un l ex H m h k)(b:Un l ex m s k r):Un l ex H s h r where
 keep:=λc d q n g e=>b.keep c d (a.keep c d q n g e) (a.free c d q n e) g e
 slot:=λc d q n g e=>by
  obtain⟨E,f⟩:=a.slot c d q n g e;obtain⟨i,j⟩:=b.slot c _ f (a.free c d q n e) g e;exact⟨i,j⟩
 free:=λc d q n e=>by
  obtain⟨p,f⟩:=a.there c d q e;exact b.free c p f (a.free c d q n e) e
 there:=λc d q e=>by
  obtain⟨p,f⟩:=a.there c d q e;exact b.there c p f e
 tups:=λc o q=>b.tups c o (a.tups c o q)
 frzs:=λc d o q=>b.frzs c d o (a.frzs c d o q)
 tbls:=λc w q=>by
  obtain⟨x,f⟩:=a.tbls c w q;obtain⟨D,j⟩:=b.tbls c _ f;exact⟨x++D,by rw[j,Array.append_assoc]⟩
theorem Un.kept(k:∀b u,h.get? b=U u->h'.get? b=U u):Un l ex H H h h':=
 ⟨λb c q _ _ _=>k b c q,λb c q _ _ _=>⟨c.slots,k b c q⟩,λ_ _ _ n _=>n,λb c q _=>⟨c,k b c q⟩,λ_ _ q=>q,λ_ _ _ q=>q,λ_ a q=>⟨#[],by rw[q];simp⟩⟩
theorem Un.refl:Un l ex H H h h:=Un.kept λ_ _ q=>q
theorem Un.laid(k:∀b u,h.get? b=U u->h'.get? b=U u)(c:h.objs.size<=a)(e:H a=Y):Un l ex H (upd H a o) h h' where
 keep:=λb u q _ _ _=>k b u q
 slot:=λb u q _ _ _=>⟨u.slots,k b u q⟩
 free:=λb u q n _=>by rw[bb<|VJ<|Vo (Vm q) c];exact n
 there:=λb u q _=>⟨u,k b u q⟩
 tups:=λb g q=>by rw[bb<|aR q e];exact q
 frzs:=λb u g q=>by rw[bb<|aR q e];exact q
 tbls:=λb i q=>⟨#[],by rw[bb<|aR q e,q];simp⟩
theorem Un.write(mu:Mut<|H x)(g:e=x\/H e=U (.own x))(k:∀b u,b≠e->h.get? b=U u->h'.get? b=U u)(d:∃u,h'.get? e=U u):Un l ex H (upd H x o) h h':=by
 have i:∀b,H b=Y->b≠x:=λb n z=>by subst z;rw[n]at mu;exact mu
 have f:∀b,H b=Y->b≠e:=λb n z=>by
  simp_all
 have a:∀b u,H b=U u->¬Mut (U u)->b≠x:=λb u q m z=>by subst z;rw[q]at mu;exact m mu
 refine⟨λb u q n _ _=>k b u (f b n) q,λb u q n _ _=>⟨u.slots,k b u (f b n) q⟩,λb u q n _=>by rw[bb<|i b n];exact n,λb u q _=>?_,
  λb p q=>by rw[bb<|a b _ q λz=>z];exact q,λb u p q=>by rw[bb<|a b _ q λz=>z];exact q,λb s q=>⟨#[],by rw[bb<|a b _ q λz=>z,q];simp⟩⟩
 by_cases c:b=e
 .subst c;exact d
 .exact⟨u,k b u c q⟩
theorem Un.mono(u:Un l ex H m h k)(e:∀b∈l,b∈g)(a:∀b∈ex,b∈i):Un g i H m h k:=
 ⟨λb d q n f c=>u.keep b d q n (λz=>f<|e b z) λz=>c<|a b z,λ_ _ q n _ c=>u.any q n λz=>c<|a _ z,λb d q n c=>u.free b d q n λz=>c<|a b z,λb d q c=>u.there b d q λz=>c<|a b z,u.tups,u.frzs,u.tbls⟩
noncomputable def trk(h:V0)(H:Hp):ϗ:=(UT h.objs.size).filter λa=>(H a).isSome
noncomputable def oo(h:V0)(H:Hp):V0:=hideAll h<|trk h H
theorem KC(h)(H):(oo h H).objs.size=h.objs.size:=PySem.W.hideAll_size _ _
theorem ME{o}(e:h.get? b=U o)(n:H b=Y):(oo h H).get? b=U o:=
 hideAll_get _ e λa=>by
  have q:=(Wg.mp a).2;simp_all
theorem OW{o}(e:(oo h H).get? b=U o):h.get? b=U o/\H b=Y:=by
 have c:=PySem.W.of_hideAll _ e;refine⟨c,?_⟩;cases q:H b with
 |none=>rfl
 |some x=>
  have z:(oo h H).get? b=Y:=hideAll_none _ (Wg.mpr ⟨Vg.mpr<|Vm c,by simp[q]⟩);simp_all
structure Mod (K:Vb) (mg:ϙ) (base:V0):Prop where
 kin:K.In base
 glob:base.Ns Xh mg
 blt:∃mb,base.Ns builtinsNs mb/\∀x:VF,x≠vU->mb x=Yx x
 nolimit:base.NoLimit
structure Cx where
 prog:Vw
 w:VC
 K:Vb
 mg:VF->Option UQ
 base:V0
 A:V3
 N:ϒ
 s₀:UW
 H₀:Hp
 env:Env
 outer:List Env
 stack:List Env
 ex:ϗ
 fn:VF->Bool
 calm:Bool
 pn:ϖ
 xe:UQ->UW->Prop
abbrev Ϛ(X:Cx)(a:Expr)(b:List Expr):=U8 (a::b) X.env=(UK,Wa a X.env)::U8 b X.env
abbrev ϣ(X:Cx)(a:Ye)(b:List Expr):=(Xm a<|U8 b X.env).any (·.1)=UK
abbrev ϟ(a:VF):=(a==("__debug__":VF))=UK
abbrev ϯ(X:Cx)(a:VF):=X.fn a=O\/X.env.scope.names.lookup a=U .local
noncomputable def hY(l:List Env):ϗ:=l.filterMap (·.frame)
end
noncomputable abbrev Cx.fs(X:Cx):ϗ:=hY X.outer
def Vis(a:Scope)(x:VF):Prop:=a.names.lookup x=U .local\/a.names.lookup x=U .cell\/a.names.lookup x=U .free
def Iv(a:Scope)(x:VF):Prop:=a.names.lookup x=U .local\/a.names.lookup x=U .cell
def Look(D:Env)(h:V0)(m:ϙ)(x:VF)(u:UQ):Prop:=
 (D.kindOf x=U .local/\m x=U u)\/((D.kindOf x=U .cell\/D.kindOf x=U .free)/\∃c,D.cells.lookup x=U c/\h.IsCell c (U u))
structure Cx.Ok (X:Cx):Prop where
 mod:Mod X.K X.mg X.base
 kind:X.env.scope.kind= .function
 glob:X.env.globals=Xh
 blt:X.env.builtins=builtinsNs
 above:X.s₀.heap.objs.size<=X.env.locals
 inj:∀x y c,X.env.cells.lookup x=U c->X.env.cells.lookup y=U c->x=y
 has:∀x,(X.env.kindOf x=U .cell\/X.env.kindOf x=U .free)->∃c,X.env.cells.lookup x=U c
 cab:∀x c,X.fn x=O->X.env.cells.lookup x=U c->X.s₀.heap.objs.size<=c
 hd:X.calm=O->X.A.handled=Y
 frames:X.A.frames=U X.stack
 stk:X.stack=X.outer\/(X.stack=X.env::X.outer/\X.env.frame=U X.env.locals)
 exf:∀b∈X.ex,b≠X.env.locals/\∀x c,X.env.cells.lookup x=U c->c≠b
 bs:∀b o,X.base.get? b=U o->X.s₀.heap.get? b=U o/\X.H₀ b=Y
 bsz:X.base.objs.size<=X.s₀.heap.objs.size
 noex:∀b o,X.base.get? b=U o->b∉X.ex
 exfs:∀b∈X.ex,b∉X.fs
 funs:X.s₀.heap.FunFrames X.base X.outer
 frf:∀b∈X.fs,X.H₀ b=Y
structure b5 (X:Cx) (aj:ϖ) (σ:List<|Option V) (H:Hp) (s:UW):Prop where
 ok:X.Ok
 os:s.os=X.s₀.os
 bare:AllBare s.gens
 base:Un X.fs X.ex X.H₀ H X.s₀.heap s.heap
 loc:∃m,s.heap.Ns X.env.locals m/\∀(i:Nat) (x:VF) (v:V),X.N[i]?=U x->σ[i]?=U (U v)->Vis X.env.scope x->∃u,bf v u/\Look X.env s.heap m x u
 cell:∀x c,X.env.cells.lookup x=U c->∃v,s.heap.IsCell c v
 free:H X.env.locals=Y
 freeC:∀x c,X.env.cells.lookup x=U c->H c=Y
 pin:∀p∈X.pn++aj,s.heap.get? p.1=U p.2/\H p.1=Y/\p.1≠X.env.locals/\p.1∉X.fs/\∀v,p.2.data≠ .cell v
 hok:lr X.prog X.w H s.heap
 len:σ.length=X.N.length
section
variable{X:Cx}{aj:ϖ}{σ:List (Option V)}{H R:Hp}{s:UW}{h':V0}
theorem Cx.Ok.nofr(s:X.Ok)(e:X.base.get? b=U o):b∉X.fs:=λa=>by
 have:=(s.funs.mem a).1;simp_all
theorem b5.bs(I:b5 X aj σ H s):∀b o,X.base.get? b=U o->s.heap.get? b=U o/\H b=Y:=λb o e=>
 ⟨I.base.keep b o (I.ok.bs b o e).1 (I.ok.bs b o e).2 (I.ok.nofr e)<|I.ok.noex b o e,I.base.free b o (I.ok.bs b o e).1 (I.ok.bs b o e).2<|I.ok.noex b o e⟩
theorem b5.bk(I:b5 X aj σ H s):∀b o,X.base.get? b=U o->s.heap.get? b=U o:=λb o e=>(I.bs b o e).1
theorem b5.mod(I:b5 X aj σ H s):Mod X.K X.mg X.base:=I.ok.mod
theorem b5.kIn(I:b5 X aj σ H s):X.K.In s.heap:=I.ok.mod.kin.keeps I.bk
theorem b5.lt(I:b5 X aj σ H s):X.env.locals<s.heap.objs.size:=by obtain⟨_,hn,_⟩:=I.loc;exact hn.lt
theorem b5.sz(I:b5 X aj σ H s):X.s₀.heap.objs.size<=s.heap.objs.size:=U1 I.ok.above<|Yj I.lt
theorem b5.nofs(I:b5 X aj σ H s)(h:s.heap.objs.size<=a):a∉X.fs:=λb=>by
 obtain⟨_,o,c,_⟩:=I.ok.funs.mem b;exact Vl (Vo (Vm c)<|U1 I.sz h)<|V4 _
theorem b5.cne(I:b5 X aj σ H s):∀x c,X.env.cells.lookup x=U c->c≠X.env.locals:=λx c e z=>by
 obtain⟨v,o,d,D⟩:=I.cell x c e;obtain⟨m,⟨f,E,G,a,b,_⟩,_⟩:=I.loc;simp_all
theorem b5.funs(I:b5 X aj σ H s):s.heap.FunFrames X.base X.outer:=by
 have D:∀(l:List _),(∀b∈hY l,b∈X.fs)->X.s₀.heap.FunFrames X.base l->s.heap.FunFrames X.base l:=by
  intro l
  induction l with
  |nil=>intro _ _;trivial
  |cons G r K=>
   intro E f;obtain⟨g,⟨L,o,a,M,h,R⟩,i⟩:=f;have c:=E L (by unfold hY;rw[WQ,a];exact UP);obtain⟨S,e⟩:=I.base.slot L o h (I.ok.frf L c) c λz=>I.ok.exfs L z c;exact⟨g,⟨L,_,a,M,e,R⟩,K (λb d=>E b<|by unfold hY;rw[WQ,a];exact UI _ d) i⟩
 exact D _ (λ_ d=>d) I.ok.funs
theorem b5.stack(I:b5 X aj σ H s):s.heap.FunFrames X.base X.stack:=by
 obtain e|⟨e,a⟩:=I.ok.stk
 .rw[e];exact I.funs
 .rw[e]
  obtain⟨m,D,_⟩:=I.loc;exact .cons (by rw[I.ok.kind];decide) a D (Heap.get?_none_of_le<|U1 I.ok.bsz I.ok.above) I.funs
theorem b5.stkSub(I:b5 X aj σ H s):∀b∈hY X.stack,b∈X.env.locals::X.fs:=λb a=>by
 obtain e|⟨e,c⟩:=I.ok.stk
 .rw[e]at a;exact UI _ a
 .rw[e]at a
  unfold hY at a;rw[WQ,c]at a;exact a
theorem b5.stkFree(I:b5 X aj σ H s):∀b∈hY X.stack,H b=Y:=λb hb=>by
 obtain e|hb:=U4.mp (I.stkSub b hb)
 .rw[e];exact I.free
 .obtain⟨_,o,a,_⟩:=I.ok.funs.mem hb
  exact I.base.free b o a (I.ok.frf b hb) λz=>I.ok.exfs b z hb
theorem b5.step{ch:ϗ}(I:b5 X aj σ H s)
  (a:∀b∈ch,(b∈X.ex\/X.s₀.heap.objs.size<=b)/\b≠X.env.locals/\(∀x c,X.env.cells.lookup x=U c->c≠b)/\∀p∈X.pn++aj,p.1≠b)
  (G:∀b o,b≠X.env.locals->b∉X.fs->b∉ch->s.heap.get? b=U o->H b=Y->h'.get? b=U o)
  (K:∀b o,b≠X.env.locals->b∈X.fs->b∉ch->s.heap.get? b=U o->H b=Y->∃o8,h'.get? b=U {o with slots:=o8}) (E:∀b o,b∉ch->s.heap.get? b=U o->H b=Y->R b=Y)
  (M:∀b o,b∉ch->s.heap.get? b=U o->∃A,h'.get? b=U A)
  (S:∀b xs,H b=U (.tup xs)->R b=U (.tup xs)) (V:∀b o u,H b=U (.frz o u)->R b=U (.frz o u)) (Q:∀b o7,H b=U (.tbl o7)->∃T,R b=U (.tbl<|o7++T))
  (ns:∀m,s.heap.Ns X.env.locals m->h'.Ns X.env.locals m) (W:lr X.prog X.w R h') (N:AllBare g'):
  b5 X aj σ R {s with heap:=h',gens:=g',drawn:=d',toks:=t'}:=by
 have B:∀b o,X.s₀.heap.get? b=U o->b≠X.env.locals:=λb o e=>VJ<|Vo (Vm e) I.ok.above;have h:∀b o,X.s₀.heap.get? b=U o->b∉X.ex->b∉ch:=λb o e D t=>by
  obtain z|z:=(a b t).1
  .exact D z
  .exact Vl (Vo (Vm e) z) (V4 _)
 have f:∀x c,X.env.cells.lookup x=U c->∀v,s.heap.IsCell c v->h'.IsCell c v:=λx c e v f5=>by
  obtain⟨o,y,hd⟩:=f5
  have g:=λz=>(a c z).2.2.1 x c e Z;by_cases J:c∈X.fs
  .obtain⟨o8,q⟩:=K c o (I.cne x c e) J g y<|I.freeC x c e
   exact⟨_,q,hd⟩
  .exact⟨o,G c o (I.cne x c e) J g y<|I.freeC x c e,hd⟩
 refine⟨I.ok,I.os,N,⟨λb o e n t D=>?_,λb o e n t D=>?_,λb o e n D=>?_,λb o e D=>?_,λb xs e=>S b xs<|I.base.tups b xs e,λb o xs e=>V b o xs<|I.base.frzs b o xs e,λb o7 e=>?_⟩,?_,λx c e=>?_,?_,λx c e=>?_,λp L=>?_,W,I.len⟩
 .exact G b o (B b o e) t (h b o e D) (I.base.keep b o e n t D) (I.base.free b o e n D)
 .obtain⟨o8,j⟩:=I.base.slot b o e n t D
  obtain⟨F,C⟩:=K b _ (B b o e) t (h b o e D) j<|I.base.free b o e n D;exact⟨F,C⟩
 .obtain⟨A,j⟩:=I.base.there b o e D
  exact E b A (h b o e D) j<|I.base.free b o e n D
 .obtain⟨A,j⟩:=I.base.there b o e D
  exact M b A (h b o e D) j
 .obtain⟨m1,j⟩:=I.base.tbls b o7 e
  obtain⟨m2,C⟩:=Q b _ j;exact⟨m1++m2,by rw[C,Array.append_assoc]⟩
 .obtain⟨m,hn,o9⟩:=I.loc
  refine⟨m,ns m hn,λi x v j C P=>?_⟩;obtain⟨u,r,l⟩:=o9 i x v j C P;refine⟨u,r,?_⟩;obtain l|⟨k,c,e,z⟩:=l
  .exact .inl l
  .exact .inr ⟨k,c,e,f x c e _ z⟩
 .obtain⟨v,z⟩:=I.cell x c e
  exact⟨v,f x c e v z⟩
 .obtain⟨m,⟨o,_,_,y,_⟩,_⟩:=I.loc
  exact E _ o (λz=>(a _ z).2.1 Z) y I.free
 .obtain⟨v,o,y,hd⟩:=I.cell x c e
  exact E c o (λz=>(a c z).2.2.1 x c e Z) y<|I.freeC x c e
 .obtain⟨e,n,ne,nf,d⟩:=I.pin p L
  have g:=λz=>(a _ z).2.2.2 p L Z;exact⟨G _ _ ne nf g e n,E _ _ g e n,ne,nf,d⟩
theorem b5.un(I:b5 X aj σ H s)(u:Un X.fs [] H R s.heap h')(D:lr X.prog X.w R h'):b5 X aj σ R {s with heap:=h',toks:=t'}:=by
 obtain⟨m,⟨o,G,K,g,r⟩,_⟩:=id I.loc;obtain⟨M,h⟩:=u.any g I.free rc;exact I.step (ch:=[]) (λ_ z=>nomatch z) (λb o _ c _ e n=>u.keep b o e n c rc) (λb o _ c _ e n=>u.slot b o e n c rc) (λb o _ e n=>u.free b o e n rc) (λb o _ e=>u.there b o e rc) u.tups u.frzs u.tbls (λj E=>by
  obtain⟨k,d,f,a,i⟩:=E;rw[g]at a;cases a;exact⟨_,d,f,h,i⟩) D I.bare
theorem b5.call{ch}(I:b5 X aj σ H s)(u:Un (hY X.stack) ch H R s.heap h')(D:lr X.prog X.w R h')(k:AllBare g')
  (d:∀b∈ch,(b∈X.ex\/X.s₀.heap.objs.size<=b)/\b≠X.env.locals/\(∀x c,X.env.cells.lookup x=U c->c≠b)/\∀p∈X.pn++aj,p.1≠b):
  b5 X aj σ R {s with heap:=h',gens:=g',drawn:=d',toks:=t'}:=by
 obtain⟨m,⟨o,G,K,j,r⟩,_⟩:=id I.loc;obtain⟨M,g⟩:=u.any j I.free λz=>(d _ z).2.1 Z;exact I.step d (λb o g l a e n=>u.keep b o e n (λz=>(U4.mp<|I.stkSub b z).elim g l) a) (λb o _ _ a e n=>u.any e n a) (λb o a e n=>u.free b o e n a) (λb o a e=>u.there b o e a) u.tups u.frzs u.tbls (λt E=>by
  obtain⟨v,h,i,f,q⟩:=E;rw[j]at f;cases f;exact⟨_,h,i,g,q⟩) D k
theorem b5.turned(I:b5 X aj σ H s)(k:∀b o,b≠t->s.heap.get? b=U o->h'.get? b=U o)(D:H t=Y)(f:t≠X.env.locals)
  (g:t∈X.ex\/X.s₀.heap.objs.size<=t) (h:∀x c,X.env.cells.lookup x=U c->c≠t) (i:∀p∈X.pn++aj,p.1≠t):b5 X aj σ H {s with heap:=h',toks:=t'}:=by
 have d:∀b u,H b=U u->b≠t:=λb u e z=>by rw[z,D]at e;cases e
 refine I.step (ch:=[t]) (λb j=>?_) (λb o _ _ a e _=>k b o (λz=>a<|by simp[z]) e) (λb o _ _ a e _=>⟨o.slots,k b o (λz=>a<|by simp[z]) e⟩) (λ_ _ _ _ n=>n)
  (λb o a e=>⟨o,k b o (λz=>a<|by simp[z]) e⟩) (λ_ _ e=>e) (λ_ _ _ e=>e) (λb G e=>⟨#[],by rw[e];simp⟩) (λm E=>?_) (λb u e=>?_) I.bare
 .have e:b=t:=by simpa using j
  subst e;exact⟨g,f,h,i⟩
 .obtain⟨o,es,ep,l,r⟩:=E
  exact⟨o,es,ep,k _ o (Ne.symm f) l,r⟩
 .refine(I.hok b u e).stay (λc v a q=>k c v ?_ q) (λ_ q=>q) λ_ _ q=>q
  obtain z|z:=a
  .rw[z];exact d b u e
  .exact d c _ z
theorem b5.tok(I:b5 X aj σ H s)(t):b5 X aj σ H {s with toks:=t}:=I.un Un.refl I.hok
theorem b5.kept(I:b5 X aj σ H s)(k:∀b u,s.heap.get? b=U u->h'.get? b=U u):b5 X aj σ H {s with heap:=h',toks:=t'}:=I.un (Un.kept k)<|I.hok.kept k
theorem b5.laid{a:UM}{o}{t'}(I:b5 X aj σ H s)(k:∀b u,s.heap.get? b=U u->h'.get? b=U u)(c:s.heap.objs.size<=a)(D:cm X.prog X.w (upd H a o) h' a o):
  b5 X aj σ (upd H a o) {s with heap:=h',toks:=t'}:=I.un (Un.laid k c<|I.hok.fresh c)<|I.hok.laid k c D
theorem b5.write(I:b5 X aj σ H s)(mu:Mut<|H x)(c:e=x\/H e=U (.own x))(k:∀b u,b≠e->s.heap.get? b=U u->h'.get? b=U u)(a:∃u,h'.get? e=U u)
  (D:cm X.prog X.w (upd H x o) h' x o):b5 X aj σ (upd H x o) {s with heap:=h',toks:=d}:=I.un (Un.write mu c k a)<|I.hok.write mu c k a D
theorem b5.pins_of(I:b5 X aj σ H s)(h:∀p∈pins',s.heap.get? p.1=U p.2/\H p.1=Y/\p.1≠X.env.locals/\p.1∉X.fs/\∀v,p.2.data≠ .cell v):b5 X pins' σ H s:=
 ⟨I.ok,I.os,I.bare,I.base,I.loc,I.cell,I.free,I.freeC,λp a=>(V7.mp a).elim (λz=>I.pin p<|XX _ z)<|h p,I.hok,I.len⟩
theorem yu{N:ϒ}(c:N.Nodup){i j:Nat}(a:N[i]?=U x)(b:N[j]?=U x):i=j:=by
 obtain⟨f,d⟩:=UY.mp a;obtain⟨g,e⟩:=UY.mp b;exact(List.getElem_inj c).mp<|d.trans e.symm
theorem oY{M:Model}{E:ϕ}(I:b5 X aj σ H s)(hN:X.N.Nodup)(L:X.N[i]?=U x)(G:Iv X.env.scope x)(r:bf v u)
  (h:∀S,b5 X aj (σ.set i<|U v) H S->(∃a,Vy a s.heap S.heap/\(a=X.env.locals\/X.env.cells.lookup x=U a))->Q () S) (hf:autoParam (ϯ X x) q8):U6 M A (storeName X.env x u) Q E s:=by
 obtain⟨m,V,hl⟩:=id I.loc;have o8:(X.env.scope.kind== .class||(X.env.scope.kind== .module&&X.env.locals !=X.env.globals))=UK:=by rw[I.ok.kind];rfl
 have B:i<ϱ σ:=by rw[I.len];exact(UY.mp L).1
 have K:=I.cne;have f:∀{a:UM} {h':V0},(∃o,s.heap.get? a=U o/\H a=Y)->Vy a _ h'->lr _ _ H h':=λ{a h'} ha D b ob e=>by
  obtain⟨_,_,l⟩:=ha;refine(I.hok b ob e).stay (λc W hc q=>(D.2 c ?_).trans q) (λ_ q=>q) λ_ _ q=>q;rintro rfl;obtain rfl|hc:=hc
  .rw[l]at e;cases e
  .rw[l]at hc;cases hc
 obtain hk|hk:=G
 .refine wpAny_storeName_local hk V (λh' w D=>?_) o8
  obtain⟨oL,_,_,aa,_⟩:=id V;refine h _ ⟨I.ok,I.os,I.bare,⟨λb o e n C G=>?_,λb o e n C G=>?_,I.base.free,λb o e G=>?_,I.base.tups,I.base.frzs,I.base.tbls⟩,⟨_,w,λj y v' g t e3=>?_⟩,λy c e=>?_,I.free,I.freeC,λp hp=>?_,f ⟨oL,aa,I.free⟩ D,by simpa using I.len⟩ ⟨_,D,.inl Z⟩
  .exact(D.2 b<|VJ<|Vo (Vm e) I.ok.above).trans (I.base.keep b o e n C G)
  .obtain⟨sl,g⟩:=I.base.slot b o e n C G
   exact⟨sl,(D.2 b<|VJ<|Vo (Vm e) I.ok.above).trans g⟩
  .obtain⟨o',g⟩:=I.base.there b o e G
   exact⟨o',(D.2 b<|VJ<|Vo (Vm e) I.ok.above).trans g⟩
  .by_cases F:j=i
   .subst F
    rw[L]at g;cases g;rw[List.getElem?_set_self B]at t;cases t;exact⟨u,r,.inl ⟨hk,rc⟩⟩
   .rw[List.getElem?_set_ne<|Ne.symm F]at t
    obtain⟨u',r',q⟩:=hl j y v' g t e3;refine⟨u',r',?_⟩;obtain⟨k,e⟩|⟨k,c,e,z⟩:=q
    .refine .inl ⟨k,?_⟩
     have:y≠x:=λe=>F<|yu hN g<|e▸L;simp[this,e]
    .exact .inr ⟨k,c,e,z.sameBut D<|K y c e⟩
  .obtain⟨W,z⟩:=I.cell y c e
   exact⟨W,z.sameBut D<|K y c e⟩
  .obtain⟨e,n,ne,nf,d⟩:=I.pin p hp
   exact⟨(D.2 _ ne).trans e,n,ne,nf,d⟩
 .have J:X.fn x=O:=by
   obtain z|z:=hf
   .exact z
   .rw[z]at hk;cases hk
  obtain⟨c,hc⟩:=I.ok.has x<|.inl hk;obtain⟨W,z⟩:=I.cell x c hc;refine wpAny_storeName_cell I.ok.kind hk hc z (λh' P D=>?_);obtain⟨oc,R,T⟩:=id z;refine h {s with heap:=h'} ⟨I.ok,I.os,I.bare,⟨λb o e n C G=>?_,λb o e n C G=>?_,I.base.free,λb o e G=>?_,I.base.tups,I.base.frzs,I.base.tbls⟩,⟨m,V.sameBut D<|Ne.symm<|K x c hc,λj y v' g t e3=>?_⟩,λy o7 e=>?_,I.free,I.freeC,λp hp=>?_,f ⟨oc,R,I.freeC x c hc⟩ D,by simpa using I.len⟩ ⟨c,D,.inr hc⟩
  .exact(D.2 b<|VJ<|Vo (Vm e)<|I.ok.cab x c J hc).trans (I.base.keep b o e n C G)
  .obtain⟨sl,g⟩:=I.base.slot b o e n C G
   exact⟨sl,(D.2 b<|VJ<|Vo (Vm e)<|I.ok.cab x c J hc).trans g⟩
  .obtain⟨o',g⟩:=I.base.there b o e G
   exact⟨o',(D.2 b<|VJ<|Vo (Vm e)<|I.ok.cab x c J hc).trans g⟩
  .by_cases F:j=i
   .subst F
    rw[L]at g;cases g;rw[List.getElem?_set_self B]at t;cases t;exact⟨u,r,.inr ⟨.inl hk,c,hc,P⟩⟩
   .rw[List.getElem?_set_ne<|Ne.symm F]at t
    obtain⟨u',r',q⟩:=hl j y v' g t e3;refine⟨u',r',?_⟩;obtain q|⟨k,o7,e,z'⟩:=q
    .exact .inl q
    .refine .inr ⟨k,o7,e,z'.sameBut D ?_⟩
     rintro rfl;exact F<|yu hN g<|I.ok.inj _ _ _ e hc▸L
  .by_cases f5:o7=c
   .subst f5;exact⟨_,P⟩
   .obtain⟨w2,z2⟩:=I.cell y o7 e
    exact⟨w2,z2.sameBut D f5⟩
  .obtain⟨e,n,ne,nf,d⟩:=I.pin p hp
   refine⟨(D.2 _ ?_).trans e,n,ne,nf,d⟩;intro q;simp_all
theorem kE{M:Model}{E:ϕ}(I:b5 X aj σ H s)(a:X.N.Nodup)(b:X.N[i]?=U x)(G:Iv X.env.scope x)(r:bf v u)
  (h:∀D,b5 X aj (σ.set i<|U v) H D->Q () D) (c:autoParam (ϯ X x) q8):U6 M A (storeName X.env x u) Q E s:=
 oY I a b G r (λD d _=>h D d) c
theorem b5.call'(I:b5 X aj σ H s)(d:s'.os=s.os)(u:Un (hY X.stack) ch H R s.heap s'.heap)(D:lr X.prog X.w R s'.heap)(f:AllBare s'.gens)
  (a:∀b∈ch,(b∈X.ex\/X.s₀.heap.objs.size<=b)/\b≠X.env.locals/\(∀x c,X.env.cells.lookup x=U c->c≠b)/\∀p∈X.pn++aj,p.1≠b):b5 X aj σ R s':=by
 obtain⟨h',g',d',t',g⟩:=s';have e:=d;subst e;exact I.call u D f a
abbrev XK:=UQ->a0W->Hp->Prop
abbrev St:=List<|Option V
abbrev ϔ:=St->XK
abbrev a0H:=St->Hp->Prop
abbrev VK:=V->Hp->Prop
abbrev a0J:=ύ->Hp->VK->Prop
abbrev a0V:=V->ύ->Hp->VK->Prop
abbrev TE:=St->Hp->VK->Prop
abbrev TT:=St->Hp->(Bool->Hp->Prop)->Prop
abbrev TA:=St->Hp->(ύ->Hp->Prop)->Prop
structure ry where
 nx:St->Hp->Prop
 rt:VK
 bk:St->Hp->Prop:=λ_ _=>False
 ct:St->Hp->Prop:=λ_ _=>False
abbrev TS:=ry->St->Hp->Prop
def EP(X:Cx)(aj:ϖ)(σ:St)(Q:VK)(u:UQ)(s:UW):Prop:=∃v R,b5 X aj σ R s/\bf v u/\Q v R
def TP(X:Cx)(aj:ϖ)(σ:St)(Q:a0X)(b:Bool)(s:UW):Prop:=∃R,b5 X aj σ R s/\Q b R
def AP(X:Cx)(aj:ϖ)(σ:St)(Q:ύ->Hp->Prop)(D:ό)(E:UW):Prop:=∃s R,b5 X aj σ R E/\aG s D/\Q s R
def SP(X:Cx)(aj:ϖ)(D:ry)(f:Flow)(s:UW):Prop:=
 match f with
 | .next=>∃a R,b5 X aj a R s/\D.nx a R
 | .brk=>∃a R,b5 X aj a R s/\D.bk a R
 | .cont=>∃a R,b5 X aj a R s/\D.ct a R
 | .ret u=>∃v a R,b5 X aj a R s/\bf v u/\D.rt v R
def PE(X:Cx)(e:Expr)(t:TE):Prop:=
 ∀(aj:ϖ) (s:UW) (σ:St) (H:Hp) (Q:VK),b5 X aj σ H s->t σ H Q->U6 (Vq X.prog X.w) X.A (Wa e X.env) (EP X aj σ Q) X.xe s
def PT(X:Cx)(e:Expr)(t:TT):Prop:=
 ∀(aj:ϖ) (s:UW) (σ:St) (H:Hp) (Q:a0X),b5 X aj σ H s->t σ H Q->U6 (Vq X.prog X.w) X.A (isTrue e X.env<|Wa e X.env) (TP X aj σ Q) X.xe s
def PW(X:Cx)(e:Expr)(t:TT):Prop:=
 ∀(a:Sem UQ) (aj:ϖ) (s:UW) (σ:St) (H:Hp) (Q:a0X),b5 X aj σ H s->t σ H Q->U6 (Vq X.prog X.w) X.A (isTrue e X.env a) (TP X aj σ Q) X.xe s
theorem PW.pt(h:PW X e t):PT X e t:=h _
def PA(X:Cx)(D:List Expr)(t:TA):Prop:=
 ∀(pos:Ye) (aj:ϖ) (s:UW) (σ:St) (H:Hp) (Q:ύ->Hp->Prop),b5 X aj σ H s->t σ H Q->U6 (Vq X.prog X.w) X.A (spliced<|Xm pos<|U8 D X.env) (AP X aj σ Q) X.xe s
def PS(X:Cx)(E:VQ)(t:TS):Prop:=
 ∀(aj:ϖ) (s:UW) (σ:St) (H:Hp) (D:ry),b5 X aj σ H s->t D σ H->U6 (Vq X.prog X.w) X.A (exec E X.env) (SP X aj D) X.xe s
def PSs(X:Cx)(E:a0T)(t:TS):Prop:=
 ∀(aj:ϖ) (s:UW) (σ:St) (H:Hp) (D:ry),b5 X aj σ H s->t D σ H->U6 (Vq X.prog X.w) X.A (execs E X.env) (SP X aj D) X.xe s
theorem dv(h:U6 M A t Q E s)(c:∀a s,Q a s->b a s):U6 M A t b E s:=V8 h c λ_ _ x=>x
def iR(i:Nat):TE:=λσ H Q=>∃v,σ[i]?=U (U v)/\Q v H
def tC(v:V):TE:=λ_ H Q=>Q v H
theorem QT{pos:Ye}(g:X.N[i]?=U x)(j:Vis X.env.scope x)(D:autoParam (ϟ x) z7)(d:autoParam ((x==(ς:VF))=UK) z7):PE X (.Name x pos) (iR i):=by
 intro aj s σ H Q I h;obtain⟨v,e,h⟩:=h;obtain⟨m,E,k⟩:=I.loc;obtain⟨u,r,l⟩:=k i x v g e j;have b:EP X aj σ Q u s:=⟨v,H,I,r,h⟩;obtain⟨hk,G⟩|⟨hk,c,f,a⟩:=l
 .exact wpAny_Name (wpAny_loadName_local I.ok.kind hk E G b) D
 .obtain hk|hk:=hk
  .exact wpAny_Name (wpAny_loadName_cell I.ok.kind hk f a b) D
  .exact wpAny_Name (wpAny_loadName_free I.ok.kind hk f a b d) D
theorem cD:PE X (.Constant (.int i) j pos) (tC<|.int i):=λ_ _ _ H _ I h=>wpAny_Constant_int ⟨.int i,H,I.tok _,⟨_,Z⟩,h⟩
theorem Th:PE X (.Constant (.bool b) j pos) (tC<|.bl b):=λ_ _ _ H _ I h=>Constant_bool ⟨.bl b,H,I,Z,h⟩
theorem QY:PE X (.Constant .none j pos) (tC .non):=λ_ _ _ H _ I h=>Constant_none ⟨.non,H,I,Z,h⟩
theorem QV:PE X (.Constant (.str x) j pos) (tC<|.str x):=λ_ _ _ H _ I h=>Calls.Constant_str ⟨.str x,H,I.tok _,⟨_,Z⟩,h⟩
def Gl(X:Cx)(x:VF):Prop:=X.env.kindOf x=U .globalImplicit
theorem vf{E:ϕ}{aj:ϖ}{s:UW}{σ:St}{H:Hp}{pos:Ye}(I:b5 X aj σ H s)(a:Gl X x)(D:X.mg x=U u)(h:Q u s)
  (G:autoParam (ϟ x) z7):U6 (Vq X.prog X.w) X.A (Wa (.Name x pos) X.env) Q E s:=
 Calls.Name_function_global I.ok.kind a (Calls.loadGlobal_global (by rw[I.ok.glob];exact I.mod.glob.keeps I.bk) D h) G
theorem gN{E:ϕ}{aj:ϖ}{s:UW}{σ:St}{H:Hp}{pos:Ye}(I:b5 X aj σ H s)(a:Gl X x)(D:X.mg x=Y)(b:Yx x=U u)(h:Q u s)
  (G:autoParam (x≠vU) z7) (K:autoParam (ϟ x) z7):U6 (Vq X.prog X.w) X.A (Wa (.Name x pos) X.env) Q E s:=by
 obtain⟨e,c,d⟩:=I.mod.blt;exact Calls.Name_function_global I.ok.kind a (Calls.loadGlobal_builtin (by rw[I.ok.glob];exact I.mod.glob.keeps I.bk) D (by rw[I.ok.blt];exact c.keeps I.bk) ((d x G).trans b) h) K
theorem OM{pos:Ye}(a:Gl X x)(s:X.mg x=U u)(r:bf v u)(D:autoParam (ϟ x) z7):PE X (.Name x pos) (tC v):=
 λ_ _ _ H _ I h=>vf I a s ⟨v,H,I,r,h⟩ D
theorem dZ{pos:Ye}(a:Gl X x)(s:X.mg x=Y)(b:Yx x=U u)(r:bf v u)(D:autoParam (x≠vU) z7)(E:autoParam (ϟ x) z7):PE X (.Name x pos) (tC v):=
 λ_ _ _ H _ I h=>gN I a s b ⟨v,H,I,r,h⟩ D E
variable{a b:Expr}{m l:TE}{pos:Ye}
variable{k o:TT}{j:List Expr}
def tOr(t u:TT):TT:=λσ H Q=>t σ H λc d=>if c=O then Q O d else u σ d Q
def tNot(t:TT):TT:=λσ H Q=>t σ H λc d=>Q (!c) d
theorem QK(b:PT X a k):PW X (.BoolOp .Or [a] pos) k:=by
 refine λd aj s σ H Q I h=>isTrue_or<|dv (b aj s σ H Q I h) λc f e=>?_;cases c with
 |false=>exact isTrue_or_nil e
 |true=>exact e
theorem Td(m:PT X a k)(f:PW X (.BoolOp .Or (b::j) pos) o):PW X (.BoolOp .Or (a::b::j) pos) (tOr k o):=by
 refine λg aj s σ H Q I h=>isTrue_or<|dv (m aj s σ H _ I h) λc i z=>?_;obtain⟨d,e,l⟩:=z;cases c with
 |true=>exact⟨d,e,l⟩
 |false=>exact f g aj i σ d Q e l
theorem QN(b:PT X a k):PT X (.UnaryOp .Not a pos) (tNot k):=by
 exact λaj s σ H Q I h=>isTrue_not<|b aj s σ H _ I h
def SW(m l:TE):TE:=λσ H Q=>m σ H λx d=>∃c,x= .bl c/\if c=O then l σ d Q else Q (.bl UK) d
theorem QX(h:PE X a t):PE X (.BoolOp op [a] pos) t:=λaj s σ H Q I c=>BoolOp_one<|h aj s σ H Q I c
theorem Q0(o:PE X a m)(f:PE X (.BoolOp .And (b::j) pos) l):PE X (.BoolOp .And (a::b::j) pos) (SW m l):=by
 refine λaj s σ H Q I h=>BoolOp_and<|dv (o aj s σ H _ I h) λv g z=>?_;obtain⟨x,d,e,D,k⟩:=z;obtain⟨c,rfl,k⟩:=k;cases D;apply Wl;cases c with
 |true=>exact f aj g σ d Q e k
 |false=>exact⟨.bl UK,d,e,Z,k⟩
def tIf(t:TT)(m l:TE):TE:=λσ H Q=>t σ H λc d=>if c=O then m σ d Q else l σ d Q
theorem LZ(i:PT X c k)(D:PE X a m)(j:PE X b l):PE X (.IfExp c a b pos) (tIf k m l):=by
 refine λaj s σ H Q I h=>wpAny_IfExp<|dv (i aj s σ H _ I h) λd e z=>?_;obtain⟨f,g,o⟩:=z;cases d with
 |true=>exact D aj e σ f Q g o
 |false=>exact j aj e σ f Q g o
def e_(K:Vb)(H:Hp)(a:UM)(xs:ύ):Prop:=
 Rd H a (.lst xs)\/
  ∃(o:Wd) (b:ϫ) (n:Nat),K.lookup a=U o/\o.cls= .type lQ/\o.dict=Y/\o.data= .seq b n/\b.size<=Ve/\aG xs b.toList
def hW(K:Vb)(H:Hp)(a:UM)(j:ύ):Prop:=
 Rd H a (.tup j)\/
  ∃(o:Wd) (b:ϫ) (n:Nat),K.lookup a=U o/\o.cls= .type lP/\o.data= .seq b n/\b.size<=Ve/\aG j b.toList
noncomputable def absV:UQ->Option V
 | .none=>U .non
 | .bool b=>U<|.bl b
 | .int i _=>U<|.int i
 | .str x _=>U<|.str x
 | .ref a=>U<|.ref a
 | .type n=>U<|.ty n
 |_=>Y
theorem bf.abs(r:bf x u):absV u=U x:=by
 cases x with
 |non=>cases r;rfl
 |bl _=>cases r;rfl
 |int _=>obtain⟨t,rfl⟩:=r;rfl
 |str _=>obtain⟨t,rfl⟩:=r;rfl
 |ref _=>cases r;rfl
 |ty _=>cases r;rfl
theorem bf.inj(r:bf x u)(q:bf y u):x=y:=Vt<|r.abs.symm.trans q.abs
theorem aG.inj:∀{a b:ύ} {j:ό},aG a j->aG b j->a=b
 |_,_,_,.nil,.nil=>rfl
 |_,_,_,.cons r t,.cons r' t'=>by rw[r.inj r',aG.inj t t']
end
section
variable{X:Cx}{aj:ϖ}{σ:St}{H:Hp}{s:UW}{a:UM}{xs ys:ύ}
theorem e_.of{K}(h:H a=U (.lst xs)):e_ K H a xs:= .inl<|.inl h
theorem b5.list(I:b5 X aj σ H s)(h:e_ X.K H a xs):∃its:ό,aG xs its/\PlainL s.heap a its.toArray/\xs.length<=Ve:=by
 obtain h|⟨o,its,n,b,c,D,E,d,r⟩:=h
 .obtain⟨z,its,n,r,e⟩:=h.ok I.hok
  exact⟨its,r,⟨_,n,e,Z,Z,Z⟩,z⟩
 .refine⟨its.toList,r,⟨o,n,I.kIn a o b,c,D,by exact E⟩,?_⟩
  have e:=r.length;simp_all
theorem b5.tuple(I:b5 X aj σ H s)(h:hW X.K H a xs):∃D:ό,aG xs D/\IsTup s.heap a D.toArray/\xs.length<=Ve:=by
 obtain h|⟨o,D,n,b,c,E,d,r⟩:=h
 .obtain⟨z,D,r,p⟩:=h.ok I.hok
  exact⟨D,r,p,z⟩
 .refine⟨D.toList,r,⟨o,I.kIn a o b,c,n,by exact E⟩,?_⟩
  have e:=r.length;simp_all
theorem b5.list_inj(I:b5 X aj σ H s)(h:e_ X.K H a xs)(M:e_ X.K H a ys):xs=ys:=by
 obtain⟨E,r,⟨o,n,e,_,_,d⟩,_⟩:=I.list h;obtain⟨D,c,⟨f,g,b,_,_,G⟩,_⟩:=I.list M;rw[e]at b;cases b;rw[d]at G
 injection G with S _
 have:E=D:=by exact VR Array.toList S
 subst this;exact r.inj c
theorem b5.tuple_inj(I:b5 X aj σ H s)(h:hW X.K H a xs)(M:hW X.K H a ys):xs=ys:=by
 obtain⟨E,r,⟨o,e,_,n,d⟩,_⟩:=I.tuple h;obtain⟨D,c,⟨f,b,_,g,G⟩,_⟩:=I.tuple M;rw[e]at b;cases b;rw[d]at G
 injection G with S _
 have:E=D:=by exact VR Array.toList S
 subst this;exact r.inj c
noncomputable abbrev Cx.wish(X:Cx)(E:ϕ):Cx:={X with xe:=E}
noncomputable abbrev Cx.nox(X:Cx):Cx:=X.wish λ_ _=>False
theorem Cx.Ok.wish(a:X.Ok)(E):(X.wish E).Ok:=
 ⟨a.mod,a.kind,a.glob,a.blt,a.above,a.inj,a.has,a.cab,a.hd,a.frames,a.stk,a.exf,a.bs,a.bsz,a.noex,a.exfs,a.funs,a.frf⟩
theorem Cx.Ok.unwish(a:(X.wish E).Ok):X.Ok:=
 ⟨a.mod,a.kind,a.glob,a.blt,a.above,a.inj,a.has,a.cab,a.hd,a.frames,a.stk,a.exf,a.bs,a.bsz,a.noex,a.exfs,a.funs,a.frf⟩
variable{E:ϕ}
theorem b5.wish(I:b5 X aj σ H s)(E):b5 (X.wish E) aj σ H s:=⟨I.ok.wish E,I.os,I.bare,I.base,I.loc,I.cell,I.free,I.freeC,I.pin,I.hok,I.len⟩
theorem b5.unwish(I:b5 (X.wish E) aj σ H s):b5 X aj σ H s:=⟨I.ok.unwish,I.os,I.bare,I.base,I.loc,I.cell,I.free,I.freeC,I.pin,I.hok,I.len⟩
theorem SP.unwish(h:SP (X.wish E) aj D f d):SP X aj D f d:=by
 cases f with
 |next=>obtain⟨b,c,I,q⟩:=h;exact⟨b,c,I.unwish,q⟩
 |brk=>obtain⟨b,c,I,q⟩:=h;exact⟨b,c,I.unwish,q⟩
 |cont=>obtain⟨b,c,I,q⟩:=h;exact⟨b,c,I.unwish,q⟩
 |ret u=>obtain⟨v,b,c,I,r,q⟩:=h;exact⟨v,b,c,I.unwish,r,q⟩
theorem PSs.nox{a}(h:PSs X.nox a t):PSs X a t:=λaj s σ H D I b=>
 V8 (h aj s σ H D (I.wish _) b) (λ_ _ q=>q.unwish) λ_ _ z=>XH z
variable{f5:VQ}{rest:a0T}{t u:TS}{e:Expr}{a:TE}{pos:Ye}
noncomputable def SU:TS:=λD σ H=>D.nx σ H
def tSeq(t u:TS):TS:=λD σ H=>t {D with nx:=u D} σ H
theorem u6:PSs X [] SU:=λ_ _ σ H _ I h=>wpAny_execs_nil ⟨σ,H,I,h⟩
theorem dP(c:PS X f5 t)(d:PSs X rest u):PSs X (f5::rest) (tSeq t u):=by
 refine λaj s σ H D I h=>wpAny_execs_cons<|dv (c aj s σ H {D with nx:=u D} I h) λf g q=>?_;cases f with
 |next=>
  obtain⟨b,i,j,q⟩:=q;exact d aj g b i D j q
 |ret v=>exact q
 |brk=>exact q
 |cont=>exact q
theorem qv(b:PS X f5 t):PSs X [f5] t:=by
 refine λaj s σ H D I h=>wpAny_execs_cons<|dv (b aj s σ H D I h) λf c q=>?_;cases f with
 |next=>exact wpAny_execs_nil q
 |ret v=>exact q
 |brk=>exact q
 |cont=>exact q
theorem b5.quiet(I:b5 X aj σ H s):interactive X.env=UK:=by simp[interactive,I.ok.kind]
def sP(a:TE):TS:=λD σ H=>a σ H λ_ b=>D.nx σ b
theorem b6(b:PE X e a)(t:autoParam (ZV e Y pos.line X.env=W2 UK) z6):PS X (.Expr e pos) (sP a):=by
 exact λaj s σ H D I h=>wpAny_Expr_any (dv (b aj s σ H _ I h) λv f z=>by obtain⟨x,c,d,E,u⟩:=z;exact ⟨σ,c,d,u⟩) I.quiet t
def Ls(a:TE):TS:=λD σ H=>a σ H D.rt
theorem aw(b:PE X e a):PS X (.Return (U e) pos) (Ls a):=by
 exact λaj s σ H D I h=>wpAny_Return_some<|dv (b aj s σ H _ I h) λv f z=>by obtain⟨x,c,d,t,u⟩:=z;exact ⟨x,σ,c,d,t,u⟩
def tIfS(c:TT)(t u:TS):TS:=λD σ H=>c σ H λb d=>if b=O then t D σ d else u D σ d
theorem Nw{a b}(j:PT X c tc)(E:PSs X a t)(k:PSs X b u):PS X (.If c a b pos) (tIfS tc t u):=by
 refine λaj s σ H D I h=>wpAny_If<|dv (j aj s σ H _ I h) λd f z=>?_;obtain⟨g,i,e⟩:=z;cases d with
 |true=>exact E aj f σ g D i e
 |false=>exact k aj f σ g D i e
abbrev TG:=V->St->Hp->(St->Hp->Prop)->Prop
abbrev TGs:=ύ->St->Hp->(St->Hp->Prop)->Prop
def PG(X:Cx)(b:Expr)(t:TG):Prop:=
 ∀(aj:ϖ) (s:UW) (σ:St) (H:Hp) (v:V) (u:UQ) (Q:a0H),b5 X aj σ H s->bf v u->t v σ H Q->
  U6 (Vq X.prog X.w) X.A (assign b X.env u) (λ_ a=>∃c d,b5 X aj c d a/\Q c d) X.xe s
def PGs(X:Cx)(d:List Expr)(t:TGs):Prop:=
 ∀(aj:ϖ) (s:UW) (σ:St) (H:Hp) (a:ύ) (e:ό) (Q:a0H),b5 X aj σ H s->aG a e->t a σ H Q->
  U6 (Vq X.prog X.w) X.A (assignInOrder ((assignEach d X.env).map (·.2)) e) (λ_ u=>∃b c,b5 X aj b c u/\Q b c) X.xe s
abbrev M2:=V->V->V->Hp->(Hp->Prop)->Prop
def M3(X:Cx)(t:M2):Prop:=
 ∀(aj:ϖ) (s:UW) (σ:St) (H:Hp) (o i v:V) (b c u:UQ) (Q:Hp->Prop),b5 X aj σ H s->bf o b->bf i c->bf v u->t o i v H Q->
  U6 (Vq X.prog X.w) X.A (setItem b c u) (λ_ a=>∃d,b5 X aj σ d a/\Q d) X.xe s
abbrev TIp:=V->V->Hp->VK->Prop
def PIp(X:Cx)(a:Operator)(t:TIp):Prop:=
 ∀(aj:ϖ) (s:UW) (σ:St) (H:Hp) (x y:V) (v u:UQ) (Q:VK),b5 X aj σ H s->bf x v->bf y u->t x y H Q->
  U6 (Vq X.prog X.w) X.A (inplaceOp a v u) (EP X aj σ Q) X.xe s
def fJ(i:Nat):TG:=λv σ H Q=>Q (σ.set i<|U v) H
theorem AO(b:X.N.Nodup)(c:X.N[i]?=U x)(a:Iv X.env.scope x)(d:autoParam (ϯ X x) q8):PG X (.Name x pos) (fJ i):=by
 exact λaj s σ H v u Q I r h=>wpAny_assign_Name<|kE I b c a r (λe f=>⟨_,H,f,h⟩) d
noncomputable def gNil:TGs:=λa σ H Q=>a=[]/\Q σ H
def FE(t:TG)(u:TGs):TGs:=λa σ H Q=>∃v r,a=v::r/\t v σ H λb c=>u r b c Q
theorem bF:PGs X [] gNil:=by
 intro aj s σ H a t Q I r h;obtain⟨e,h⟩:=h;subst e;exact assignInOrder_nil ⟨σ,H,I,h⟩
theorem aB{t}{u}(c:PG X e t)(d:PGs X m u)
  (a:autoParam ((assignEach (e::m) X.env).map (·.2)=assign e X.env::(assignEach m X.env).map (·.2)) z6):PGs X (e::m) (FE t u):=by
 intro aj s σ H E G Q I r h;obtain⟨v,l,f,h⟩:=h;subst f;cases r with
 |cons r g=>
  rw[a];exact assignInOrder_cons<|dv (c aj s σ H _ _ _ I r h) λ_ i z=>by obtain⟨b,j,k,D⟩:=z;exact (d aj i b j _ _ Q k g D)
def MH(K:Vb)(n:Nat)(t:TGs):TG:=λv σ H Q=>∃a xs,v= .ref a/\hW K H a xs/\xs.length=n/\t xs σ H Q
theorem bV{t:TGs}(g:X.calm=O)(h:PGs X w t)
  (D:autoParam ((assignEach w X.env).length=n) z6) (c:autoParam ((assignEach w X.env).findIdx? (·.1)=Y) z6):PG X (.Tuple w k pos) (MH X.K n t):=by
 intro aj s σ H v u Q I r d;obtain⟨a,xs,i,j,l,d⟩:=d;subst i;cases r;obtain⟨E,f,m,q⟩:=I.tuple j;refine assign_Tuple_tuple (I.ok.hd g) m (by simp[D,<-l,f.length]) c λG M=>?_;exact h aj _ σ H xs _ Q (I.kept (t':=s.toks) λb o e=>M b o (VJ<|Vm e) e) (by exact f) d
def MI(a b:TE)(t:M2):TG:=λv σ H Q=>a σ H λo c=>b σ c λi d=>t o i v d λf=>Q σ f
theorem cI{t}(d:PE X o to)(f:PE X i z)(a:M3 X t)
  (e:autoParam (∀v,assign (.Subscript o i pos) X.env v=(do
   let b <-ZE [v] (Wa o X.env)
   let c <-ZE [v,b] (Wa i X.env)
   Y4 pos
   ZE [v,b,c] (setItem b c v)
   release [v,b,c] [])) z9):PG X (.Subscript o i pos) (MI to z t):=by
 intro aj s σ H v u Q I r h;rw[e];exact My<|Wf<|dv (d aj s σ H _ I h) λb g W=>by obtain⟨x,j,k,D,E⟩:=W;exact (My<|Wf<|dv (f aj g σ j _ k E) λc l f5=>by obtain⟨y,m,n,p,G⟩:=f5;exact (My<|W9<|My<|Wf<|dv (a aj l σ m x y v b c u _ n D p r G) λ_ A B=>by obtain⟨q,w,K⟩:=B;exact (wpAny_release ⟨σ,q,w,K⟩)))
def ie(a:TE)(g:TG):TS:=λD σ H=>a σ H λx b=>g x σ b D.nx
theorem cf{t e}(b:PE X e a)(c:PG X t g)(u:autoParam (swapsWithSole [t] e pos.line X.env=W2 UK) z6)(d:autoParam (swappedStores [t] e X.env=W2 Y) z6)
  (f:autoParam ((assignEach [t] X.env).map (·.2)=[assign t X.env]) z6):PS X (.Assign [t] e pos) (ie a g):=by
 refine λaj s σ H D I h=>wpAny_Assign_stores (dv (b aj s σ H _ I h) λv i z=>?_) u d;obtain⟨x,j,k,E,G⟩:=z;rw[f];exact dv (c aj i σ j x v _ k E G) λ_ l q=>q
theorem tT(b:X.N.Nodup)(c:X.N[i]?=U x)(t:Iv X.env.scope x)(d:PE X e a)(u:autoParam (ZV e (U<|.Name x pos') pos.line X.env=W2 UK) z6)(f:autoParam (ϯ X x) q8):
  PS X (.Assign [.Name x pos'] e pos) (ie a<|fJ i):=by
 exact λaj s σ H D I h=>wpAny_Assign_Name (dv (d aj s σ H _ I h) λv l z=>by obtain⟨y,g,j,E,G⟩:=z;exact (kE j b c t E (λm k=>⟨_,g,k,G⟩) f)) u
def P7(i j:Nat)(b:TA):TS:=λD σ H=>b σ H λa c=>∃v w,a=[v,w]/\D.nx ((σ.set i<|U v).set j<|U w) c
theorem QO{a b}(B:X.calm=O)(m:X.N.Nodup)(C:X.N[i]?=U x)(F:X.N[j]?=U y)(g:i≠j)
  (u:X.env.scope.names.lookup x=U .local) (E:X.env.scope.names.lookup y=U .local) (G:PA X [a,b] z)
  (J:swappedStores [.Tuple [.Name x px,.Name y py] kt pt] (.Tuple [a,b] k2 pt2) X.env=W2 (U [x,y]))
  (K:autoParam (swapsWithSole [.Tuple [.Name x px,.Name y py] kt pt] (.Tuple [a,b] k2 pt2) pos.line X.env=W2 UK) z6):
  PS X (.Assign [.Tuple [.Name x px,.Name y py] kt pt] (.Tuple [a,b] k2 pt2) pos) (P7 i j z):=by
 intro aj s σ H D I h;refine My<|W9 ?_;refine My<|UF ?_;refine My<|Tuple_<|dv (G _ aj s σ H _ I h) λM c A=>?_;obtain⟨V,n,L,S,t⟩:=A;obtain⟨v,w,o7,t⟩:=t;subst o7;obtain⟨d,f,rfl,P,k⟩:∃d f,M=[d,f]/\bf v d/\bf w f:=by
  cases S with
  |cons p q=>
   cases q with
   |cons Q R=>
    cases R;exact⟨_,_,Z,p,Q⟩
 refine VE ?_ (by show 2<=Ve;decide);rw[J];refine My<|UF ?_;show U6 _ _ _ _ _ _
 refine My<|XV<|My<|unpackItems_tuple (items:=#[d,f]) (I.ok.hd B) (IsTup.new _ _) λh' l=>?_;have T:=(L.kept λb o e=>UH _ e).kept (t':=c.toks) λb o e=>l b o (VJ<|Vm e) e;refine My<|assignInOrder_cons<|wpAny_bindName<|kE T m F (.inl E) k (λf5 W=>(assignInOrder_cons<|wpAny_bindName<|kE W m C (.inl u) P (λA r=>assignInOrder_nil<|UF ?_)<|.inr u))<|.inr E;rw[List.set_comm _ _<|Ne.symm g]at r;exact⟨_,n,r,t⟩
def Qd(i:Nat)(a:TE)(b:TIp):TS:=λD σ H=>∃x,σ[i]?=U (U x)/\a σ H λy c=>b x y c λz d=>D.nx (σ.set i<|U z) d
theorem kT{e:Expr}{a:TE}(n:X.N.Nodup)(j:X.N[i]?=U x)(t:Iv X.env.scope x)(o:PE X e a)(p:PIp X op o7)(q:autoParam (ϯ X x) q8):
  PS X (.AugAssign (.Name x pos') op e pos) (Qd i a o7):=by
 intro aj s σ H D I h;obtain⟨v,B,h⟩:=h;obtain⟨m,G,C⟩:=I.loc;have g:Vis X.env.scope x:=by obtain k|k:=t;exact .inl k;exact .inr (.inl k)
 obtain⟨u,r,l⟩:=C i x v j B g;apply wpAny_AugAssign_Name;have E:U6 (Vq X.prog X.w) X.A (Wa e X.env) (λw d=>U6 (Vq X.prog X.w) X.A (inplaceOp op u w) (λr f=>U6 (Vq X.prog X.w) X.A (storeName X.env x r) (λ_=>SP X aj D .next) X.xe f) X.xe d) X.xe s:=by
  exact dv (o aj s σ H _ I h) λw F f5=>by obtain⟨y,J,L,K,M⟩:=f5;exact (dv (p aj F σ J v y u w _ L r K M) λz o8 z=>by obtain⟨W,o9,P,Q,S⟩:=z;exact (kE P n j t Q (λf5 R=>⟨_,o9,R,S⟩) q))
 obtain⟨hk,V⟩|⟨hk,c,T,b⟩:=l
 .exact wpAny_loadName_local I.ok.kind hk G V E
 .obtain hk|hk:=hk
  .exact wpAny_loadName_cell I.ok.kind hk T b E
  .obtain k|k:=t
   .have:X.env.scope.names.lookup x=U _:=hk
    simp_all
   .have:X.env.scope.names.lookup x=U _:=hk
    simp_all
def ipI(f:a0M):TIp:=λx y H Q=>∃i j,x= .int i/\y= .int j/\Q (.int<|f i j) H
theorem Kx:PIp X .Add (ipI λi j=>i+j):=by
 intro aj s σ H x y v u Q I a b h;obtain⟨i,j,c,d,q⟩:=h;subst c;subst d;obtain⟨t,rfl⟩:=a;obtain⟨e,rfl⟩:=b;exact iadd_int ⟨.int _,H,I.tok _,⟨_,Z⟩,q⟩
def P6(c:TT)(i:TS):TS:=λD σ H=>∃W:Nat->St->Hp->Prop,(∃m,W m σ H)/\∀m σ H,W m σ H->
 c σ H λb f=>if b=O then ∃N:St->Hp->Prop,(∀d g,N d g->∃h,h<m/\W h d g)/\i {D with nx:=N,ct:=N,bk:=D.nx} σ f else D.nx σ f
theorem LM(q:PassesOwn (Vq X.prog X.w) X.A X.env X.xe)(J:PT X c tc)(L:PSs X body x):PS X (.While c body [] pos) (P6 tc x):=by
 intro aj s σ H D I h;obtain⟨W,⟨o8,P⟩,i⟩:=h;refine wpAny_While<|codeAny_whileLoop (λn u=>∃j r,b5 X aj j r u/\W n j r) ?_ o8 ⟨σ,H,I,P⟩;rintro n Q ⟨g,y,R,T⟩;refine YC q<|dv (J aj Q g y _ R<|i n g y T) λb o7 z=>?_;obtain⟨B,C,a⟩:=z;cases b with
 |true=>
  obtain⟨N,F,a⟩:=a;refine YC q<|dv (L aj o7 g B _ C a) λf f5 e=>?_;cases f with
  |next=>
   obtain⟨d,k,l,m⟩:=e;obtain⟨o,t,p⟩:=F d k m;exact⟨o,t,d,k,l,p⟩
  |cont=>
   obtain⟨d,k,l,m⟩:=e;obtain⟨o,t,p⟩:=F d k m;exact⟨o,t,d,k,l,p⟩
  |brk=>exact e
  |ret v=>exact e
 |false=>
  rw[UU UX];exact wpAny_execs_nil ⟨g,B,C,a⟩
structure It where
 go:Nat->Hp->Prop
 yld:Nat->Hp->V->Hp->Prop
 stop:Nat->Hp->Prop
def gF(X:Cx)(aj:ϖ)(H:Hp)(b:UM):Prop:=
 H b=Y/\b≠X.env.locals/\b∉X.fs/\(b∈X.ex\/X.s₀.heap.objs.size<=b)/\(∀x c,X.env.cells.lookup x=U c->c≠b)/\∀p∈X.pn++aj,p.1≠b
theorem b5.fpOk(I:b5 X aj σ H s)(d:s.heap.objs.size<=b)(a:f b=Y):gF X aj f b:=by
 refine⟨a,XB<|Vo I.lt d,I.nofs d,.inr<|U1 I.sz d,λx c e z=>?_,λp g z=>?_⟩
 .obtain⟨v,q⟩:=I.cell x c e
  exact Vl (Vo q.lt<|by rw[z];exact d)<|V4 _
 .exact Vl (Vo (Vm (I.pin p g).1)<|by rw[z];exact d) (V4 _)
structure p3 (P:Vw) (w:VC) (K:Vb) (tg:Expr) (J:It) (fp:ϗ) (it:UM) (tn:Nat->V0->Prop):Prop where
 mem:it∈fp
 obj:∀i h,tn i h->∀b∈fp,∃o,h.get? b=U o/\∀v,o.data≠ .cell v
 keep:∀i h h',tn i h->(∀b∈fp,∀o,h.get? b=U o->h'.get? b=U o)->tn i h'
 item:∀(X:Cx),X.prog=P->X.w=w->X.K=K->X.calm=O->∀(i:Nat) (aj:ϖ) (s:UW) (σ:St) (H:Hp) (E:ϕ),b5 X aj σ H s->(∀b∈fp,gF X aj H b)->tn i s.heap->J.go i H->
  U6 (Vq P w) X.A (YK<|.ref it) (λr s1=>∃u,r=U u/\
   U6 (Vq P w) X.A (letOwnedTupleGo tg (.ref it) u) (λ_ s2=>∃x H',b5 X aj σ H' s2/\bf x u/\J.yld i H x H'/\tn (i+1) s2.heap/\∀b∈fp,H' b=Y) E s1) E s
 done:∀(X:Cx),X.prog=P->X.w=w->X.K=K->X.calm=O->∀(i:Nat) (aj:ϖ) (s:UW) (σ:St) (H:Hp) (E:ϕ),b5 X aj σ H s->(∀b∈fp,gF X aj H b)->tn i s.heap->J.stop i H->
  U6 (Vq P w) X.A (YK<|.ref it) (λr s1=>r=Y/\b5 X aj σ H s1) E s
 self:∀(A:V3) (i:Nat) (s:UW) (Q:ϕ) (E:ϕ),tn i s.heap->Q (.ref it) s->U6 (Vq P w) A (pyIter<|.ref it) Q E s
abbrev TI:=St->Hp->(It->Hp->Prop)->Prop
def PIE(X:Cx)(aj:ϖ)(σ:St)(e:Expr)(R:It->Hp->Prop)(c:UQ)(f:UW):Prop:=
 ∃(a:UM) (g:ϗ) (h:Nat->V0->Prop) (J:It) (d:Hp),c= .ref a/\b5 X aj σ d f/\p3 X.prog X.w X.K e J g a h/\h 0 f.heap/\(∀b∈g,gF X aj d b)/\R J d
def PI(X:Cx)(a b:Expr)(c:TI):Prop:=
 ∀(aj:ϖ) (s:UW) (σ:St) (H:Hp) (R:It->Hp->Prop),b5 X aj σ H s->c σ H R->
  U6 (Vq X.prog X.w) X.A (Wa b X.env) (λv d=>U6 (Vq X.prog X.w) X.A (pyIter v) (PIE X aj σ a R) X.xe d) X.xe s
theorem xk{M}{E:ϕ}{s:UW}{u}{o}(c:s.heap.get? f=U o)(d:o.cls= .type n)(a:o.data= .fields g)
  (e:[y',U0,x8,"dict_reverseitemiterator","odict_iterator","itertools.zip_longest","itertools.pairwise"].contains n=UK) (b:Q () s):U6 M A (letOwnedTupleGo i (.ref f) u) Q E s:=by
 unfold letOwnedTupleGo;cases i<;>first
  |exact UF b
  |(cases u<;>first
   |exact UF b
   |(refine My (wpAny_load c ?_)
     rw[d,a];show U6 M A (if([y',U0,x8,"dict_reverseitemiterator","odict_iterator","itertools.zip_longest","itertools.pairwise"].contains n&&g[0]?==U _)=O then _ else _) Q E s;rw[UU<|by intro h;rw[e,Zg]at h;cases h];exact UF b))
noncomputable def Itl(K:Vb)(a:UM):It:=
 ⟨λi H=>∃xs x,e_ K H a xs/\xs[i]?=U x,λi H x b=>b=H/\∀xs,e_ K H a xs->xs[i]?=U x,λi H=>∃xs,e_ K H a xs/\xs.length<=i⟩
noncomputable def Itt(K:Vb)(a:UM):It:=
 ⟨λi H=>∃xs x,hW K H a xs/\xs[i]?=U x,λi H x b=>b=H/\∀xs,hW K H a xs->xs[i]?=U x,λi H=>∃xs,hW K H a xs/\xs.length<=i⟩
noncomputable def Itr(a:Int)(n:Nat):It:=⟨λi _=>i<n,λi H x b=>b=H/\x= .int (a+i),λi _=>n<=i⟩
theorem vH{K}(a t):p3 P w K W (Itl K a) [t] t (λi h=>h.IsListIter t a i) where
 mem:=by simp
 obj:=λi h f5 b f=>by
  have e:b=t:=by simpa using f
  subst e;obtain⟨o,e,c,d⟩:=f5;simp_all
 keep:=λi h D f5 k=>f5.at λo e=>k t (by exact .head _) o e
 item:=by
  intro X m n q J i aj s σ H E I j f5 r;subst m n q;obtain⟨xs,x,l,G⟩:=r;obtain⟨M,y,p,L⟩:=I.list l;obtain⟨u,N,R⟩:=y.get G;obtain⟨A,f1,f2,B,C,F⟩:=j t (by exact .head _);refine wpAny_pyNext_list_item f5 p.isList (by simpa using N) λD g Q=>?_;obtain⟨o,e,c,d⟩:=id g;exact⟨u,Z,xk e c d rb ⟨x,H,I.turned (t':=s.toks) (λb o f e=>(Q.2 b f).trans e) A f1 B C F,R,⟨Z,λys S=>by rw[I.list_inj S l];exact G⟩,g,λb f=>(j b f).1⟩⟩
 done:=by
  intro X m n q J i aj s σ H E I j f5 r;subst m n q;obtain⟨xs,l,G⟩:=r;obtain⟨M,y,p,L⟩:=I.list l;obtain⟨A,f1,f2,B,C,F⟩:=j t (by exact .head _);have v:=y.length;exact wpAny_pyNext_list_end (I.ok.hd J) f5 p.isList (by simp;lia) λD T=>⟨Z,I.turned (λb o f e=>T b o f e) A f1 B C F⟩
 self:=λ_ _ _ _ _ f5 h=>wpAny_pyIter_listiter f5 h
theorem CU{K}(a t):p3 P w K W (Itt K a) [t] t (λi h=>h.IsTupleIter t a i) where
 mem:=by simp
 obj:=λi h f5 b f=>by
  have e:b=t:=by simpa using f
  subst e;obtain⟨o,e,c,d⟩:=f5;simp_all
 keep:=λi h G f5 k=>f5.at λo e=>k t (by exact .head _) o e
 item:=by
  intro X m n q J i aj s σ H E I j f5 r;subst m n q;obtain⟨xs,x,l,M⟩:=r;obtain⟨D,y,p,L⟩:=I.tuple l;obtain⟨u,N,R⟩:=y.get M;obtain⟨A,f1,f2,B,C,F⟩:=j t (by exact .head _);refine wpAny_pyNext_tuple_item f5 (show s.heap.IsTuple a _ from p) (by simpa using N) λG g Q=>?_;obtain⟨o,e,c,d⟩:=id g;exact⟨u,Z,xk e c d rb ⟨x,H,I.turned (t':=s.toks) (λb o f e=>(Q.2 b f).trans e) A f1 B C F,R,⟨Z,λys S=>by rw[I.tuple_inj S l];exact M⟩,g,λb f=>(j b f).1⟩⟩
 done:=by
  intro X m n q J i aj s σ H E I j f5 r;subst m n q;obtain⟨xs,l,M⟩:=r;obtain⟨D,y,p,L⟩:=I.tuple l;obtain⟨A,f1,f2,B,C,F⟩:=j t (by exact .head _);have v:=y.length;exact wpAny_pyNext_tuple_end (I.ok.hd J) f5 (show s.heap.IsTuple a _ from p) (by simp;lia) λG T=>⟨Z,I.turned (λb o f e=>T b o f e) A f1 B C F⟩
 self:=λ_ _ _ _ _ f5 h=>wpAny_pyIter_tupleiter f5 h
theorem CV{K}(a)(u)(n):p3 P w K x (Itr u n) [a] a (λi h=>IsRangeIter h a (u+(i:Nat)*1) ((n:Int)-(i:Nat)) 1) where
 mem:=by simp
 obj:=λi h f5 b c=>by
  simp_all
 keep:=λi h D f5 k=>k a (by exact .head _) _ f5
 item:=by
  intro X g j l m i aj s σ H E I f f5 p;subst g j l;obtain⟨q,f1,f2,r,y,A⟩:=f a rc;refine (Walks.range (prog:=X.prog) (w:=X.w) (I.ok.hd m) a u 1 n).item i s _ _ p f5 λv D B F d J=>?_;obtain⟨t,rfl⟩:=F;refine⟨_,Z,xk d Z Z rb ⟨.int<|u+i,H,I.turned (λb o c e=>J b o (by simpa using c) e) q f1 r y A,⟨t,?_⟩,⟨Z,Z⟩,d,λb c=>(f b c).1⟩⟩;simp_all
 done:=by
  intro X g j l m i aj s σ H E I f f5 p;obtain⟨q,f1,f2,r,y,A⟩:=f a rc;exact wpAny_pyNext_range_end (I.ok.hd m) f5 (by have:n<=i:=p;lia) λD N=>⟨Z,I.turned (λb o c e=>N b o c e) q f1 r y A⟩
 self:=λ_ _ _ _ _ f5 h=>wpAny_pyIter_rangeiter f5 h
variable{z:Expr}
def Uq(K:Vb)(c:TE):TI:=λσ H R=>c σ H λx b=>∃a,x= .ref a/\(∃xs,e_ K b a xs)/\R (Itl K a) b
theorem OI(f:PE X l tl):PI X z l (Uq X.K tl):=by
 refine λaj s σ H R I h=>dv (f aj s σ H _ I h) λv c y=>?_;obtain⟨x,g,d,t,u⟩:=y;obtain⟨a,e,⟨xs,i⟩,q⟩:=u;subst e;cases t;obtain⟨D,k,p,m⟩:=d.list i;apply PySem.wpAny_pyIter_list p.isList;refine⟨c.heap.objs.size,[c.heap.objs.size],_,_,g,Z,d.kept λb o e=>UH _ e,vH a _,⟨_,U7 _ Z,Z,Z⟩,λb j=>?_,q⟩;have e:b=c.heap.objs.size:=by simpa using j
 subst e;exact d.fpOk (UV _)<|d.hok.fresh<|UV _
theorem yj{aj}{σ:St}{H}{s}{E:ϕ}{a c}{t u v}(I:b5 X aj σ H s)(f:-(2^62)<=a)(g:a<2^62)(h:-(2^62)<=c)(i:c<2^62)
  (q:R (Itr a (c-a).toNat) H):U6 (Vq X.prog X.w) X.A (pyIter<|.ref s.heap.objs.size) (PIE X aj σ z R) E {s with heap:=s.heap.push {cls:= .type "range",data:= .fields #[.int a t,.int c u,.int 1 v]},toks:=m}:=by
 apply wpAny_pyIter_range (IsRange.new ..) (small_one f g h i);have d:b5 X aj σ H {s with heap:=s.heap.push {cls:= .type "range",data:= .fields #[.int a t,.int c u,.int 1 v]},toks:=m}:=I.kept λb o e=>UH _ e;refine⟨(s.heap.push {cls:= .type "range",data:= .fields #[.int a t,.int c u,.int 1 v]}).objs.size,[(s.heap.push {cls:= .type "range",data:= .fields #[.int a t,.int c u,.int 1 v]}).objs.size],_,_,H,Z,
  d.kept λb o e=>UH _ e,CV _ a _,?_,λb j=>?_,q⟩
 .have k:a+((0:Nat):Int)*1=a:=by simp
  have l:(((c-a).toNat:Nat):Int)-((0:Nat):Int)=ZO a c 1:=by rw[rangeSize_one];split<;>grind
  show IsRangeIter _ _ _ _ 1;rw[k,l];exact U7 _ Z
 .have e:b=(s.heap.push {cls:= .type "range",data:= .fields #[.int a t,.int c u,.int 1 v]}).objs.size:=by simpa using j
  subst e;exact d.fpOk (UV _)<|d.hok.fresh<|UV _
def Um(b:TA):TI:=λσ H R=>b σ H λa c=>∃j:Int,a=[.int j]/\-(2^62)<=j/\j<2^62/\R (Itr 0 j.toNat) c
def Ul(b:TA):TI:=λσ H R=>b σ H λa c=>∃i j:Int,a=[.int i,.int j]/\(-(2^62)<=i/\i<2^62/\-(2^62)<=j/\j<2^62)/\R (Itr i (j-i).toNat) c
theorem IV{a:Expr}{p pos:Ye}(b:Gl X "range")(D:X.mg "range"=Y)(E:PA X [a] i)(G:autoParam (U8 [a] X.env=[(UK,Wa a X.env)]) z6):PI X z (.Call (.Name "range" p) [a] [] pos) (Um i):=by
 refine λaj s σ H R I h=>Call_<|gN I b D boot_range<|Wq (dv (E _ aj s σ H _ I h) λS f y=>?_) G Z;obtain⟨V,g,c,K,u⟩:=y;obtain⟨j,e,u,M,q⟩:=u;subst e;cases K with
 |cons r d=>
  cases d;obtain⟨t,rfl⟩:=r;exact call_range_1 (yj c ln ln u M<|by simpa using q)
theorem IU{a b:Expr}{p pos:Ye}(f:Gl X tj)(D:X.mg tj=Y)(E:PA X [a,b] n)(G:autoParam (U8 [a,b] X.env=[(UK,Wa a X.env),(UK,Wa b X.env)]) z6)(c:autoParam (U8 [b] X.env=[(UK,Wa b X.env)]) z6):
  PI X z (.Call (.Name tj p) [a,b] [] pos) (Ul n):=by
 refine λaj s σ H R I h=>Call_ (gN I f D boot_range<|Wq (dv (E _ aj s σ H _ I h) λf5 l ⟨o,m,g,K,u⟩=>?_) (by rw[G,c])<|by rw[c];rfl);obtain⟨i,j,e,⟨u,M,S,V⟩,q⟩:=u;subst e;cases K with
 |cons r d=>
  cases d with
  |cons k d=>
   cases d;obtain⟨t,rfl⟩:=r;obtain⟨v,rfl⟩:=k;exact call_range_2<|yj g u M S V q
def DC(h:TI)(g:TG)(j:TS):TS:=λD σ H=>h σ H λJ k=>∃W:Nat->Nat->St->Hp->Prop,(∃m,W 0 m σ k)/\∀i m σ H,W i m σ H->
 (J.stop i H/\D.nx σ H)\/(J.go i H/\∃N:St->Hp->Prop,(∀b c,N b c->∃f,f<m/\W (i+1) f b c)/\∀x c,J.yld i H x c->g x σ c λd l=>j {D with nx:=N,ct:=N,bk:=D.nx} d l)
noncomputable def pE(c:ϗ)(h:V0):ϖ:=c.filterMap λb=>(h.get? b).map λo=>(b,o)
theorem j9(c:b∈d)(e:h.get? b=U o):(b,o)∈pE d h:=Z3.mpr ⟨b,c,by rw[e];rfl⟩
theorem IZ(c:p∈pE g h):p.1∈g/\h.get? p.1=U p.2:=by
 obtain⟨b,d,e⟩:=Z3.mp c;cases q:h.get? b with
 |none=>rw[q]at e;cases e
 |some o=>
  rw[q]at e;have f:=Vt e;subst f;exact⟨d,q⟩
theorem b5.pinned(I:b5 X aj σ H s)(g:∀b∈k,gF X aj H b)(h:∀b∈k,∃o,s.heap.get? b=U o/\∀v,o.data≠ .cell v):b5 X (aj++pE k s.heap) σ H s:=
 I.pins_of λp i=>(V7.mp i).elim (λz=>I.pin p<|VY _ z) λz=>by
  obtain⟨c,e⟩:=IZ z;obtain⟨j,f1,f2,_⟩:=g _ c;obtain⟨o,f,d⟩:=h _ c;simp_all
theorem b5.unpinned{aj a}(I:b5 X (aj++a) σ H s):b5 X aj σ H s:=I.pins_of λp b=>I.pin p<|VY _<|XX _ b
theorem bo{pos:Ye}(L:PassesOwn (Vq X.prog X.w) X.A X.env X.xe)(V:X.calm=O)(hi:PI X z iter wi)(hg:PG X z g)(j:PSs X body tb)
  (hs:autoParam (∀x,V1 iter X.env x=W2 x) z9):PS X (.For z iter body [] pos) (DC wi g tb):=by
 refine λaj s σ H D I h=>wpAny_For (dv (hi aj s σ H _ I h) λv s1 h1=>dv h1 λaa s2 h2=>?_) hs;obtain⟨it,o9,tn,J,H2,e,I2,T,o7,f2,W,⟨m0,w0⟩,P⟩:=h2;subst e
 --what _ O of _ _ _ _ _ _
 have k:∀{B:Hp},(∀b∈o9,B b=Y)->∀b∈o9,gF X aj B b:=λhn b j=>⟨hn b j,(f2 b j).2⟩;refine codeAny_forLoop_any (λn s'=>∃i l B,b5 X aj l B s'/\tn i s'.heap/\(∀b∈o9,B b=Y)/\W i n l B) ?_ m0 ⟨0,σ,H2,I2,o7,λb j=>(f2 b j).1,w0⟩;rintro n s3 ⟨i,p,f5,I3,Q,R,w3⟩;obtain⟨t,qn⟩|⟨go,N,hN,step⟩:=P i n p f5 w3
 .refine YC L (dv (T.done X Z Z Z V i aj s3 p f5 _ I3 (k R) Q t) λr s4 z0=>?_)
  obtain⟨E,I4⟩:=z0
  subst E;exact wpAny_execs_nil ⟨p,f5,I4,qn⟩
 .refine YC L (dv (T.item X Z Z Z V i aj s3 p f5 _ I3 (k R) Q go) λr s4 K=>?_)
  obtain⟨u,E,h4⟩:=K
  subst E;refine YC L<|dv h4 λ_ s5 r=>?_;obtain⟨x,H5,I5,r5,y5,F,G⟩:=r;refine YC L<|dv (hg _ s5 p H5 x u _ (I5.pinned (k G)<|T.obj _ _ F) r5<|step x H5 y5) λ_ s6 ⟨M,H6,I6,q6⟩=>(YC L<|dv (j _ s6 M H6 _ I6 q6) λf S C=>?_);have a:∀{c:St} {q:Hp},b5 X _ c q S->N c q->∃m,m<n/\∃i l B,b5 X aj l B S/\tn i _/\(∀b∈o9,B b=Y)/\W i m l B:=λ{c q} y o8=>by
   obtain⟨m',hm,w7⟩:=hN c q o8;refine⟨m',hm,i+1,c,q,y.unpinned,T.keep _ _ _ F λb j o e=>(y.pin _<|VY _<|VY _<|j9 j e).1,λb j=>?_,w7⟩;obtain⟨o,e,d⟩:=T.obj _ _ F b j;exact(y.pin _<|VY _<|VY _<|j9 j e).2.1
  cases f with
  |next=>obtain⟨c,q,y,o8⟩:=C;exact a y o8
  |cont=>obtain⟨c,q,y,o8⟩:=C;exact a y o8
  |brk=>obtain⟨c,q,y,C⟩:=C;exact⟨c,q,y.unpinned,C⟩
  |ret v=>obtain⟨x7,c,q,y,r7,C⟩:=C;exact⟨x7,c,q,y.unpinned,r7,C⟩
abbrev R2:=V->V->Hp->VK->Prop
def g8(X:Cx)(f:UQ->UQ->Sem UQ)(r:R2):Prop:=
 ∀(aj:ϖ) (s:UW) (σ:St) (H:Hp) (x y:V) (v u:UQ) (Q:VK),b5 X aj σ H s->bf x v->bf y u->r x y H Q->
  U6 (Vq X.prog X.w) X.A (f v u) (EP X aj σ Q) X.xe s
def UnR(X:Cx)(f:UQ->Sem UQ)(r:V->Hp->VK->Prop):Prop:=
 ∀(aj:ϖ) (s:UW) (σ:St) (H:Hp) (x:V) (v:UQ) (Q:VK),b5 X aj σ H s->bf x v->r x H Q->
  U6 (Vq X.prog X.w) X.A (f v) (EP X aj σ Q) X.xe s
def cT(X:Cx)(f:UQ)(r:a0J):Prop:=
 ∀(aj:ϖ) (s:UW) (σ:St) (H:Hp) (xs:ύ) (a:ό) (Q:VK),b5 X aj σ H s->aG xs a->r xs H Q->
  U6 (Vq X.prog X.w) X.A (call f a) (EP X aj σ Q) X.xe s
def TruR(X:Cx)(r:V->Hp->(Bool->Hp->Prop)->Prop):Prop:=
 ∀(aj:ϖ) (s:UW) (σ:St) (H:Hp) (x:V) (v:UQ) (Q:a0X),b5 X aj σ H s->bf x v->r x H Q->
  U6 (Vq X.prog X.w) X.A (truthy v) (TP X aj σ Q) X.xe s
def tOp(r:R2)(b c:TE):TE:=λσ H Q=>b σ H λx d=>c σ d λy f=>r x y f Q
def tUn(r:V->Hp->VK->Prop)(b:TE):TE:=λσ H Q=>b σ H λx c=>r x c Q
def rI(C:a0Y)(g:Int->Int->V):R2:=λx y H Q=>∃i j,x= .int i/\y= .int j/\C i j/\Q (g i j) H
def up(g:Int->Int->V):R2:=λx y H Q=>∃i j,x= .int i/\y= .int j/\Q (g i j) H
def rU(g:Int->V):V->Hp->VK->Prop:=λx H Q=>∃i,x= .int i/\Q (g i) H
end
section
variable{X:Cx}{a b c:Expr}{ta tb tc:TE}{pos:Ye}
theorem MX(c:PE X a ta)(m:PE X b tb){R:V->V->Hp->Prop}(I:b5 X d e H s)
  (h:ta e H λx l=>tb e l λy g=>R x y g) {f:UQ->UQ->Sem UQ}
  (n:∀v u k x y g,b5 X d e g k->bf x v->bf y u->R x y g->U6 (Vq X.prog X.w) X.A (f v u) Q X.xe k):
  U6 (Vq X.prog X.w) X.A (Wa a X.env) (λv i=>U6 (Vq X.prog X.w) X.A (Wa b X.env) (λu j=>U6 (Vq X.prog X.w) X.A (f v u) Q X.xe j) X.xe i) X.xe s:=by
 exact dv (c d s e H _ I h) λv o t=>by obtain⟨x,l,p,D,E⟩:=t;exact (dv (m d o e l _ p E) λu k z=>by obtain⟨y,g,q,r,G⟩:=z;exact (n v u k x y g q D r G))
theorem eL(e:g8 X (XU op) r)(c:PE X a ta)(f:PE X b tb):PE X (.BinOp a op b pos) (tOp r ta tb):=by
 exact λd s g H Q I h=>wpAny_BinOp<|MX c f I h λv u i x y j k l m q=>e d i g j x y v u Q k l m q
theorem Tg(f:UnR X (unaryOp op) r)(b:PE X a ta):PE X (.UnaryOp op a pos) (tUn r ta):=by
 exact λd s e H Q I h=>UnaryOp_<|dv (b d s e H _ I h) λv g z=>by obtain⟨x,i,j,c,D⟩:=z;exact f d g e i x v Q j c D
theorem q_{g:a0M}
  (d:∀(i j:Int) (t u:Tok) (s:UW) (Q:ϕ) (E:ϕ),C i j->Q (.int (g i j) s.toks) {s with toks:=s.toks+1}->U6 (Vq X.prog X.w) X.A (f (.int i t)<|.int j u) Q E s):
  g8 X f (rI C λi j=> .int<|g i j):=by
 intro e s n H x y v u Q I k l h;obtain⟨i,j,rfl,rfl,m,q⟩:=h;obtain⟨t,rfl⟩:=k;obtain⟨a,rfl⟩:=l;exact d i j t a s _ _ m ⟨.int<|g i j,H,I.tok _,⟨_,Z⟩,q⟩
theorem Q8{g:a0M}
  (d:∀(i j:Int) (t u:Tok) (s:UW) (Q:ϕ) (E:ϕ),Q (.int (g i j) s.toks) {s with toks:=s.toks+1}->U6 (Vq X.prog X.w) X.A (f (.int i t)<|.int j u) Q E s):
  g8 X f (up λi j=> .int<|g i j):=by
 intro e s m H x y v u Q I k l h;obtain⟨i,j,rfl,rfl,q⟩:=h;obtain⟨t,rfl⟩:=k;obtain⟨a,rfl⟩:=l;exact d i j t a s _ _ ⟨.int<|g i j,H,I.tok _,⟨_,Z⟩,q⟩
theorem DX{g:Int->Int->Bool}
  (d:∀(i j:Int) (t u:Tok) (s:UW) (Q:ϕ) (E:ϕ),Q (.bool<|g i j) s->U6 (Vq X.prog X.w) X.A (f (.int i t)<|.int j u) Q E s):
  g8 X f (up λi j=> .bl<|g i j):=by
 intro e s m H x y v u Q I k l h;obtain⟨i,j,rfl,rfl,q⟩:=h;obtain⟨t,rfl⟩:=k;obtain⟨a,rfl⟩:=l;exact d i j t a s _ _ ⟨.bl<|g i j,H,I,Z,q⟩
def CDiv(i j:Int):Prop:=0<j/\j<1073741824
def CPow(i j:Int):Prop:=0<=j/\j<=1000000/\i.natAbs<2^64
def M5(i j:Int):Prop:=(-(2^64)<i/\i<2^64)\/(-(2^64)<j/\j<2^64)
theorem M5.ok(h:M5 i j):IntMulOk i j:=by
 obtain⟨d,e⟩|⟨d,e⟩:=h
 .exact .of_left (intBits_le_64 d e)
 .exact .of_right (intBits_le_64 d e)
theorem tU:g8 X (XU .Add) (up λi j=> .int<|i+j):=Q8 λ_ _ _ _ _ _ _ q=>add_int q
theorem dQ:g8 X (XU .Sub) (up λi j=> .int<|i-j):=Q8 λ_ _ _ _ _ _ _ q=>sub_int q
theorem Q5:g8 X (XU .Mult) (rI M5 λi j=> .int<|i*j):=q_ λ_ _ _ _ _ _ _ d q=>mul_int q d.ok
theorem AS:g8 X (XU .FloorDiv) (rI CDiv λi j=> .int<|i/j):=q_ λi j _ _ _ _ _ d q=>by
 have e:=d.1;have f:=d.2;exact floordiv_int ln (by rw[Z7 i ln];exact q) (.inl<|PyProof.noPylong_small<|by grind)
theorem kZ:g8 X (XU .Mod) (rI (λ_ j=>0<j) λi j=> .int<|i % j):=q_ λi j _ _ _ _ _ d q=>by
 have e:=d;exact mod_int' ln (by rw[Int.fmod_eq_emod_of_nonneg i ln];exact q)
theorem Q3:g8 X (XU .Pow) (rI CPow λi j=> .int<|i^j.toNat):=q_ λ_ _ _ _ _ _ _ d q=>pow_int_small d.1 d.2.1 d.2.2 q
theorem unI{g:Int->Int}
  (d:∀(i:Int) (t:Tok) (s:UW) (Q:ϕ) (E:ϕ),Q (.int (g i) s.toks) {s with toks:=s.toks+1}->U6 (Vq X.prog X.w) X.A (f<|.int i t) Q E s):
  UnR X f (rU λi=> .int<|g i):=by
 intro e s k H x v Q I j h;obtain⟨i,rfl,q⟩:=h;obtain⟨t,rfl⟩:=j;exact d i t s _ _ ⟨.int<|g i,H,I.tok _,⟨_,Z⟩,q⟩
theorem mC:UnR X (unaryOp .USub) (rU λi=> .int<|-i):=unI λ_ _ _ _ _ q=>neg_int q
noncomputable def LD:V->V->Bool
 | .non,.non=>O| .non,.int _=>O| .int _,.non=>O| .non,.bl _=>O| .bl _,.non=>O| .non,.str _=>O| .str _,.non=>O
 | .int _,.int _=>O| .bl _,.bl _=>O| .str _,.str _=>O
 | .int _,.str _=>O| .str _,.int _=>O| .bl _,.str _=>O| .str _,.bl _=>O
 |_,_=>UK
noncomputable def rEq:R2:=λx y H Q=>LD x y=O/\Q (.bl<|decide (x=y)) H
noncomputable def rNe:R2:=λx y H Q=>LD x y=O/\Q (.bl<|!decide (x=y)) H
theorem BW:decide (V.int i=V.int j)=(i==j):=by
 rw[Bool.eq_iff_iff];simp
theorem L4:decide (V.bl i=V.bl j)=(i==j):=by
 rw[Bool.eq_iff_iff];simp
theorem BV:decide (V.str i=V.str j)=(i==j):=by
 rw[Bool.eq_iff_iff];simp
theorem dk(I:b5 X aj f H s)(q:Q (.bl k) H)(e:k=d):EP X aj f Q (.bool d) s:=by
 subst e;exact⟨.bl k,H,I,Z,q⟩
theorem Tl:g8 X (We .Eq) rEq:=by
 intro f s g H x y v u Q I e d h;obtain⟨b,q⟩:=h;cases x with
 |non=>
  cases e;cases y with
  |non=>cases d;exact PySem.EqNone.eq_none_none (dk I q re)
  |bl j=>cases d;exact PySem.EqNone.eq_none_bool (dk I q re)
  |int j=>obtain⟨a,rfl⟩:=d;exact PySem.EqNone.eq_none_int (dk I q re)
  |str j=>obtain⟨a,rfl⟩:=d;exact PySem.EqNone.eq_none_str (dk I q re)
  |_=>exact Vl (show UK=O from b) UX
 |bl i=>
  cases e;cases y with
  |non=>cases d;exact PySem.EqNone.eq_bool_none (dk I q re)
  |bl j=>cases d;exact eq_bool<|dk I q L4
  |str j=>obtain⟨a,rfl⟩:=d;exact PySem.EqMixed.eq_bool_str (dk I q re)
  |_=>exact Vl (show UK=O from b) UX
 |int i=>
  obtain⟨t,rfl⟩:=e;cases y with
  |non=>cases d;exact PySem.EqNone.eq_int_none (dk I q re)
  |int j=>obtain⟨a,rfl⟩:=d;exact eq_int<|dk I q BW
  |str j=>obtain⟨a,rfl⟩:=d;exact PySem.EqMixed.eq_int_str (dk I q re)
  |_=>exact Vl (show UK=O from b) UX
 |str i=>
  obtain⟨t,rfl⟩:=e;cases y with
  |non=>cases d;exact PySem.EqNone.eq_str_none (dk I q re)
  |bl j=>cases d;exact PySem.EqMixed.eq_str_bool (dk I q re)
  |int j=>obtain⟨a,rfl⟩:=d;exact PySem.EqMixed.eq_str_int (dk I q re)
  |str j=>obtain⟨a,rfl⟩:=d;exact eq_str<|dk I q BV
  |_=>exact Vl (show UK=O from b) UX
 |_=>cases y<;>exact Vl (show UK=O from b) UX
theorem Tj:g8 X (We .NotEq) rNe:=by
 intro f s g H x y v u Q I e d h;obtain⟨b,q⟩:=h;cases x with
 |non=>
  cases e;cases y with
  |non=>cases d;exact PySem.EqNone.ne_none_none (dk I q re)
  |bl j=>cases d;exact PySem.EqNone.ne_none_bool (dk I q re)
  |int j=>obtain⟨a,rfl⟩:=d;exact PySem.EqNone.ne_none_int (dk I q re)
  |str j=>obtain⟨a,rfl⟩:=d;exact PySem.EqNone.ne_none_str (dk I q re)
  |_=>exact Vl (show UK=O from b) UX
 |bl i=>
  cases e;cases y with
  |non=>cases d;exact PySem.EqNone.ne_bool_none (dk I q re)
  |bl j=>cases d;exact ne_bool<|dk I q<|VR _ L4
  |str j=>obtain⟨a,rfl⟩:=d;exact PySem.EqMixed.ne_bool_str (dk I q re)
  |_=>exact Vl (show UK=O from b) UX
 |int i=>
  obtain⟨t,rfl⟩:=e;cases y with
  |non=>cases d;exact PySem.EqNone.ne_int_none (dk I q re)
  |int j=>obtain⟨a,rfl⟩:=d;exact ne_int<|dk I q<|VR _ BW
  |str j=>obtain⟨a,rfl⟩:=d;exact PySem.EqMixed.ne_int_str (dk I q re)
  |_=>exact Vl (show UK=O from b) UX
 |str i=>
  obtain⟨t,rfl⟩:=e;cases y with
  |non=>cases d;exact PySem.EqNone.ne_str_none (dk I q re)
  |bl j=>cases d;exact PySem.EqMixed.ne_str_bool (dk I q re)
  |int j=>obtain⟨a,rfl⟩:=d;exact PySem.EqMixed.ne_str_int (dk I q re)
  |str j=>obtain⟨a,rfl⟩:=d;exact ne_str<|dk I q<|VR _ BV
  |_=>exact Vl (show UK=O from b) UX
 |_=>cases y<;>exact Vl (show UK=O from b) UX
theorem qA:g8 X (We .Lt) (up λi j=> .bl<|decide (i<j)):=DX λ_ _ _ _ _ _ _ q=>lt_int q
theorem lZ:g8 X (We .LtE) (up λi j=> .bl<|decide (i<=j)):=DX λ_ _ _ _ _ _ _ q=>le_int q
theorem gr:g8 X (We .Gt) (up λi j=> .bl<|decide (j<i)):=DX λ_ _ _ _ _ _ _ q=>gt_int q
theorem Tk:g8 X (We .GtE) (up λi j=> .bl<|decide (j<=i)):=DX λ_ _ _ _ _ _ _ q=>ge_int q
theorem yq:g8 X (We .Is) (λx y H Q=>y= .non/\Q (.bl<|decide (x= .non)) H):=by
 intro d s g H x y v u Q I e f h;obtain⟨rfl,q⟩:=h;cases f;refine is_none_gen<|dk I q ?_;cases x<;>first
  |(cases e;rfl)
  |(obtain⟨t,rfl⟩:=e;rfl)
theorem g8.or(h:g8 X f r)(a:g8 X f j):g8 X f (λx y H Q=>r x y H Q\/j x y H Q):=by
 intro d s e H x y v u Q I g i q;obtain q|q:=q
 .exact h d s e H x y v u Q I g i q
 .exact a d s e H x y v u Q I g i q
theorem yt(b)(h:autoParam (op≠ .In) z7)(d:autoParam (op≠ .NotIn) z7):ZZ op b=UK:=by
 have e:(op==CmpOp.In)=UK:=by cases op<;>first|rfl|exact Vl Z h
 have f:(op==CmpOp.NotIn)=UK:=by cases op<;>first|rfl|exact Vl Z d
 cases b<;>simp[ZZ,e,f]
theorem ON(e:g8 X (We op) r)(c:PE X a ta)(f:PE X b tb)(D:ZZ op b=UK):PE X (.Compare a [op] [b] pos) (tOp r ta tb):=by
 exact λd s g H Q I h=>wpAny_Compare1 (MX c f I h λv u i x y j k l m q=>e d i g j x y v u Q k l m q) D
def CZ(t:TE):TT:=λd H Q=>t d H λx e=>∃k,x= .bl k/\Q k e
theorem AI(g:g8 X (We op) r)(D:PE X a ta)(i:PE X b tb)(E:ZZ op b=UK):PT X (.Compare a [op] [b] pos) (CZ<|tOp r ta tb):=by
 refine λd s f H Q I h=>wpAny_isTrue_Compare1 (dv (D d s f H _ I h) λv j ⟨x,l,m,G,K⟩=>dv (i d j f l _ m K) λu n ⟨y,o,p,q,M⟩=>
  dv (g d n f o x y v u _ p G q M) λc B c=>?_) E
 obtain⟨z,t,w,A,k,e,S⟩:=c
 subst e;cases A;exact Wl ⟨t,w,S⟩
def GZ(r f:R2)(ta tb tc:TE):TE:=λd H Q=>ta d H λx g=>tb d g λy h=>r x y h λz e=>∃k,z= .bl k/\
 (if k=O then tc d e λi j=>f y i j Q else Q (.bl UK) e)
theorem LL(n:g8 X (We op) r)(i:g8 X (We op') r')(E:PE X a ta)(o:PE X b tb)(p:PE X c tc)
  (G:autoParam (lastMarks [op,op'] [b,c]=UK) xJ):PT X (.Compare a [op,op'] [b,c] pos) (CZ<|GZ r r' ta tb tc):=by
 refine λf s g H Q I h=>isTrue_chain (dv (E f s g H _ I h) λv q ⟨x,t,w,K,M⟩=>test_link (dv (o f q g t _ w M) λu A ⟨y,B,C,j,S⟩=>
  dv (n f A g B x y v u _ C K j S) λd F z0=>?_)) G
 obtain⟨z,l,m,J,k,e,D⟩:=z0
 subst e;cases J;apply Wl;cases k with
 |false=>
  obtain⟨k',L,N⟩:=D;cases L;exact ite_ff ⟨l,m,N⟩
 |true=>
  refine ite_tt<|test_last<|dv (p f F g l _ m D) λo9 P ⟨R,T,o7,W,V⟩=>dv (i f P g T y R u o9 _ o7 j W V) λd' s5 d=>?_;obtain⟨z2,o8,f5,r5,k2,e2,q5⟩:=d;subst e2;cases r5;exact Wl ⟨o8,f5,q5⟩
def M1(K:Vb)(x:V)(H:Hp)(k:Bool):Prop:=
 match x with
 | .non=>k=UK
 | .bl b=>k=b
 | .int i=>k=(i !=0)
 | .str y=>y.length<=Ve/\k=((y.length:Int) !=0)
 | .ref p=>(∃a,e_ K H p a/\k=!a.isEmpty)\/∃a,hW K H p a/\k=!a.isEmpty
 |_=>False
theorem uj(r:aG e d):(!d.toArray.isEmpty)=!e.isEmpty:=by
 cases r<;>simp
theorem m3:(Ve:Nat)<2^63:=by decide
theorem P4:TruR X (λx H Q=>∃k,M1 X.K x H k/\Q k H):=by
 intro j s m H x v Q I f h;obtain⟨k,e,q⟩:=h;have n:=m3;cases x with
 |non=>
  cases f;have d:=e;subst d;exact truthy_none ⟨H,I,q⟩
 |bl b=>
  cases f;have d:=e;subst d;exact Wl ⟨H,I,q⟩
 |int i=>
  obtain⟨t,rfl⟩:=f;have d:=e;subst d;exact PySem.P.truthy_int ⟨H,I,q⟩
 |str y=>
  obtain⟨t,rfl⟩:=f;obtain⟨M,d⟩:y.length<=Ve/\k=((y.length:Int) !=0):=e;subst d;exact PySem.P.truthy_str ln ⟨H,I.tok _,q⟩
 |ref p=>
  cases f;have d:=e;obtain⟨a,c,d⟩|⟨a,c,d⟩:=d
  .subst d
   obtain⟨D,r,E,l⟩:=I.list c;have g:=r.length;exact wpAny_truthy_list E.isList (by rw[Vf];lia) ⟨H,I.tok _,by rw[uj r];exact q⟩
  .subst d
   obtain⟨D,r,E,l⟩:=I.tuple c;have g:=r.length;exact truthy_tuple E (by rw[Vf];lia) ⟨H,I.tok _,by rw[uj r];exact q⟩
 |_=>exact(show False from e).elim
theorem LK(b:PE X a ta)(i:∀d,isTrue a X.env d=(do let v <-d;Y4 a.pos;ZE [v] (truthy v))):
  PT X a (λf H Q=>ta f H λx g=>∃k,M1 X.K x g k/\Q k g):=by
 exact λe s f H Q I h=>isTrue_plain (dv (b e s f H _ I h) λv j z=>by obtain⟨x,l,m,c,D⟩:=z;exact P4 e j f l x v Q m c D)<|i _
theorem gR(r:aG [x] e):∃u,e=[u]/\bf x u:=by
 cases r with
 |cons a d=>cases d;exact⟨_,Z,a⟩
theorem wS(r:aG [x,y] h):∃u d,h=[u,d]/\bf x u/\bf y d:=by
 cases r with
 |cons a e=>
  cases e with
  |cons f g=>cases g;exact⟨_,_,Z,a,f⟩
theorem sC:cT X (.builtin "abs") (λxs H Q=>∃i,xs=[.int i]/\Q (.int (if i<0 then -i else i)) H):=by
 intro d s e H xs a Q I r h;obtain⟨i,rfl,q⟩:=h;obtain⟨u,rfl,t,rfl⟩:=gR r;exact call_abs_int λu f=>⟨.int _,H,I.tok _,⟨_,Z⟩,q⟩
theorem wx(f:X.calm=O):cT X (.builtin "max") (λa H Q=>∃i j,a=[.int i,.int j]/\Q (.int (if j>i then j else i)) H):=by
 intro e s g H a b Q I r h;obtain⟨i,j,rfl,q⟩:=h;obtain⟨u,l,rfl,⟨t,rfl⟩,⟨c,rfl⟩⟩:=wS r;refine max_two_ints (I.ok.hd f) λD m k=>⟨_,H,I.kept k,?_,q⟩;by_cases d:j>i
 .rw[US d,US d];exact⟨_,Z⟩
 .rw[UU d,UU d];exact⟨_,Z⟩
theorem mh(f:X.calm=O):cT X (.builtin "min") (λa H Q=>∃i j,a=[.int i,.int j]/\Q (.int (if j<i then j else i)) H):=by
 intro e s g H a b Q I r h;obtain⟨i,j,rfl,q⟩:=h;obtain⟨u,l,rfl,⟨t,rfl⟩,⟨c,rfl⟩⟩:=wS r;refine min_two_ints (I.ok.hd f) λD m k=>⟨_,H,I.kept k,?_,q⟩;by_cases d:j<i
 .rw[US d,US d];exact⟨_,Z⟩
 .rw[UU d,UU d];exact⟨_,Z⟩
theorem wy:cT X (.type O') (λa H Q=>(∃i,a=[.int i]/\Q (.int i) H)\/∃k,a=[.bl k]/\Q (.int (if k then 1 else 0)) H):=by
 intro d s e H a b Q I r h;obtain⟨i,rfl,q⟩|⟨k,rfl,q⟩:=h
 .obtain⟨u,rfl,t,rfl⟩:=gR r
  exact call_int_int ⟨.int i,H,I,⟨_,Z⟩,q⟩
 .obtain⟨u,rfl,r1⟩:=gR r
  cases r1;exact call_int_bool ⟨.int _,H,I.tok _,⟨_,Z⟩,q⟩
structure y4 (h:V0) (x dx C:UM) (mA:ϙ):Prop where
 obj:h.get? x=U (instObj C dx)
 ns:h.Ns1 dx mA
 ne:dx≠x
theorem JN{h:V0}(n:h.Ns1 k mA):∃f,h.get? k=U f/\∀b,lookIn b f=U (mA b):=by
 obtain⟨o,c,K,g,D,i,_,E⟩:=n;refine⟨o,g,λb=>?_⟩;have e:=E b;unfold nsFind findBy at e;rw[<-Array.find?_toList]at e;unfold lookIn;rw[D]
 dsimp only
 split
 .rename_i y q
  simp_all
 .rename_i q
  rw[q]at e;have a:c.toList.any (·.refKey)=UK:=by
   rw[List.any_eq_false];intro y G;obtain⟨z,t,d⟩:=i y<|Array.mem_toList_iff.mp G;simp[DictEntry.refKey,d]
  simp_all
theorem y4.look(I:y4 h x e C mA):∃d,PySem.W.InstAt h x (instObj C e) C (U d)/\∀a,lookIn a d=U (mA a):=
 let ⟨d,ho,hl⟩:=JN I.ns
 ⟨d,⟨I.obj,Z,Z,ho⟩,hl⟩
variable{z:Vw}{w:VC}{A:V3}{E:ϕ}{s:UW}{K:Vb}{x N C f:UM}{L:ϙ}{c:VF}{v:UQ}
theorem Pn(X:K.In s.heap)(I:y4 s.heap x N C L)(g:plainGet K C c=O)(i:hasDictIn K C=O)
  (a:Yl K (.ref C) c=U Y) (j:L c=U v) (e:PySem.W.handedIn v=O) (h:Q v {s with toks:=s.toks+1}):
  U6 (Vq z w) A (getAttr (.ref x) c d) Q E s:=by
 obtain⟨l,J,k⟩:=I.look;exact PySem.W.get_value X J (plainGet_of g).1 (PySem.W.findObj_own i a Z<|by rw[k,j]) e h
theorem MG(X:K.In s.heap)(I:y4 s.heap x N C L)(d:plainGet K C c=O)
  (e:Yl K (.ref C) c=U (U<|.ref f)) (g:isFn K (.ref f)=O) (i:L c=Y) (h:Q (.ref f,[.ref x]) s):
  U6 (Vq z w) A (getMethod (.ref x) c l) Q E s:=by
 obtain⟨j,J,k⟩:=I.look;exact PySem.W.method_fn X J (plainGet_of d).1 (plainGet_of d).2 e (beq_iff_eq.mp g) (by show(lookIn c j).map _=U UK;rw[k,i];rfl) h
theorem Ot{D:ϒ}(X:K.In s.heap)(I:y4 s.heap x N C L)
  (G:Yl K (.ref C) "__setattr__"=U (U<|.builtin K')) (l:PySem.W.plainOver K C=O) (m:takerIn K C c=U Y) (n:hasDictIn K C=O)
  (o:PySem.Within L D) (p:ϱ D<=Ve)
  (h:∀f,y4 f x N C (λy=>if y=c then U v else L y)->Vy N s.heap f->Q () {s with heap:=f,toks:=s.toks+2}):
  U6 (Vq z w) A (setAttr (.ref x) c v) Q E s:=by
 obtain⟨B,J,F⟩:=I.look;refine PySem.W.set_plain X J G<|PySem.W.osa_open X J l m λb=>?_;obtain⟨S,q,g⟩:=PySem.W.any_some n;refine My<|UF<|My<|My<|wpAny_loadPart I.obj<|My<|PySem.W.Looks.here (PySem.W.looks_clsIn X q) ?_;rw[g];refine UF<|My<|UF<|My<|wpAny_nsSet1 I.ns λf d e=>?_;obtain⟨H,t,u,i,j,k⟩:=d.count<|PySem.Within.cons c v o;exact My<|wpAny_lookBehind i (by rw[j];exact pastItsLine_dict<|U1 k<|by rw[U5];lia)<|UF<|h _ ⟨(e.2 _<|Ne.symm I.ne).trans I.obj,d,I.ne⟩ e
theorem Mf(X:K.In s.heap)(b:PySem.W.makesIn K C=O)
  (e:Yl K (.ref C) oI=U (U<|.ref f)) (i:PySem.W.typeIn K (.ref f)=U (.type "function"))
  (h:Zi (Vq z w) (A.under<|.builtin ξ ⟨.ref C::k,kw⟩) (.call (.ref f) ⟨.ref (s.heap.objs.size+1)::k,kw⟩) (PySem.W.InitBack (s.heap.objs.size+1) R)
   {s with heap:=(s.heap.push ZU).push (instObj C s.heap.objs.size)}):
  Zi (Vq z w) A (.call (.ref C) ⟨k,kw⟩) R s:=by
 obtain⟨j,g,d,t,c⟩:=s;exact PySem.W.make_core (PySem.W.makes_of X b) (PySem.W.looks_findIn X e) (λa=>PySem.W.bind_fn X a i) (.inl Z) h
noncomputable def eU(f:VF)(v:V):a0G->a0G
 |[]=>[(f,v)]
 |(g,x)::r=>if g=f then(g,v)::r else(g,x)::eU f v r
theorem rn(f g)(v):∀a:a0G,(eU f v a).lookup g=if g=f then U v else a.lookup g
 |[]=>by
  show ZK g [(f,v)]=_;by_cases h:g=f
  .have d:=beq_iff_eq.mpr h
   simp_all
  .have d:=beq_eq_false_iff_ne.mpr h
   simp only[ZK,d,UU h]
 |(k,x)::r=>by
  rw[show eU f v _=(if k=f then(k,v)::r else(k,x)::eU f v r)from Z];by_cases i:k=f
  .rw[US i]
   by_cases h:g=k
   .have d:=beq_iff_eq.mpr h
    simp_all
   .have d:=beq_eq_false_iff_ne.mpr h
    simp only[ZK,d,UU (λe:g=f=>h<|e.trans i.symm)]
  .rw[UU i]
   by_cases h:g=k
   .have d:=beq_iff_eq.mpr h
    simp_all
   .have d:=beq_eq_false_iff_ne.mpr h
    simp only[ZK,d];exact (rn f g v r)
theorem pM(f)(v):∀a:a0G,f∈(eU f v a).map (·.1)/\∀g,g∈a.map (·.1)->g∈(eU f v a).map (·.1)
 |[]=>⟨by simp[eU],λg h=>by simp at h⟩
 |(k,x)::r=>by
  obtain⟨i,j⟩:=pM f v r;rw[show eU f v _=(if k=f then(k,v)::r else(k,x)::eU f v r)from Z];by_cases d:k=f
  .rw[US d]
   subst d;exact⟨by exact .head _,λg h=>by exact h⟩
  .rw[UU d]
   refine⟨?_,λg h=>?_⟩
   .rw[UZ]
    exact UI _ i
   .rw[UZ]at h⊢
    obtain e|e:=U4.mp h
    .exact U4.mpr (.inl e)
    .exact UI _ (j g e)
theorem rp(f)(v):∀a:a0G,ϱ (eU f v a)<=ϱ a+1
 |[]=>by simp[eU]
 |(k,x)::r=>by
  have b:=rp f v r;rw[show eU f v _=(if k=f then(k,v)::r else(k,x)::eU f v r)from Z];by_cases d:k=f
  .rw[US d,U5,U5];lia
  .rw[UU d,U5,U5];lia
theorem jV.some_of{v}(r:jV (U v) o):∃u,o=U u/\bf v u:=by
 cases o with
 |none=>exact(show False from r).elim
 |some u=>exact⟨u,Z,r⟩
theorem jV.none_of(r:jV Y o):o=Y:=by
 cases o with
 |none=>rfl
 |some u=>exact(show False from r).elim
theorem KD{v}(r:bf v u):PySem.W.handedIn u=O:=by
 cases v with
 |non=>cases(show u=VH from r);rfl
 |bl b=>cases(show u=Y2 b from r);rfl
 |int i=>obtain⟨t,e⟩:=(show ∃t,u=YJ i t from r);cases e;rfl
 |str x=>obtain⟨t,e⟩:=(show ∃t,u=Value.str x t from r);cases e;rfl
 |ref a=>cases(show u=Vh a from r);rfl
 |ty n=>cases(show u=X3 n from r);rfl
end
section
variable{P:Vw}{w:VC}{H l:Hp}{h h':V0}{a C dx:UM}{N n:a0G}
theorem m5(l:lr P w H h)(e:H a=U (.ins C dx N)):∃b,y4 h a dx C b/\(∀f,jV (N.lookup f)<|b f)/\PySem.Within b (N.map (·.1))/\ϱ N<=1000/\H dx=U (.own a):=by
 obtain⟨d,z,D,c,b,n,r,q⟩:=(show cm P w H h a (.ins C dx N)from l a _ e);exact⟨b,⟨c,n,D⟩,r,q,z,d⟩
structure t_ (K:Vb) (C:UM):Prop where
 pg:plainGet K C YT=O
 hd:hasDictIn K C=O
 po:PySem.W.plainOver K C=O
 sa:Yl K (.ref C) "__setattr__"=U (U<|.builtin K')
theorem t_.get{K}(c:t_ K C)(f):plainGet K C f=O:=c.pg
def dg(K:Vb)(C:UM)(f:VF):Prop:=Yl K (.ref C) f=U Y
theorem dg.taker{K}(n:dg K C f):takerIn K C f=U Y:=by
 unfold takerIn;rw[show Yl K _ f=U Y from n];rfl
structure j_ (K:Vb) (C:UM) (m:VF) (f:UM):Prop where
 at_:Yl K (.ref C) m=U (U<|.ref f)
 fn:isFn K (.ref f)=O
 kp:keepIn K (.ref f)=O
variable{X:Cx}{R:ϖ}{L:St}{s:UW}{f:VF}{v:V}{A:V3}{E:ϕ}
theorem FA(I:b5 X R L H s)(e:H a=U (.ins C dx N))(c:t_ X.K C)(n:dg X.K C f)(l:N.lookup f=U v)
  (h:∀u D,b5 X R L H D->bf v u->Q u D):U6 (Vq X.prog X.w) A (getAttr (.ref a) f b) Q E s:=by
 obtain⟨g,j,r,_,_,_⟩:=m5 I.hok e;obtain⟨u,i,d⟩:=jV.some_of (by rw[<-l];exact r f);exact Pn I.kIn j (c.get f) c.hd n i (KD d)<|h u _ (I.tok _) d
theorem uq(I:b5 X R L H s)(e:H a=U (.ins C dx N))(c:t_ X.K C)(k:j_ X.K C m g)(l:N.lookup m=Y)
  (h:Q (.ref g,[.ref a]) s):U6 (Vq X.prog X.w) A (getMethod (.ref a) m pl) Q E s:=by
 obtain⟨b,d,r,_,_,_⟩:=m5 I.hok e;exact MG I.kIn d (c.get m) k.at_ k.fn (jV.none_of (by rw[<-l];exact r m)) h
theorem DL(I:b5 X R L H s)(e:H a=U (.ins C dx N))(c:t_ X.K C)(n:dg X.K C f)(F:ϱ N<1000)(l:bf y u)
  (h:∀v,b5 X R L (upd H a<|.ins C dx<|eU f y N) v->Q () v):U6 (Vq X.prog X.w) A (setAttr (.ref a) f u) Q E s:=by
 obtain⟨i,J,r,j,_,k⟩:=m5 I.hok e;have m:ϱ (N.map (·.1))<=Ve:=by rw[UD,WN];lia
 refine Ot I.kIn J c.sa c.po n.taker c.hd j m λh' d p=>h _ ?_;have D:∃o,h'.get? dx=U o:=by obtain⟨o,_,_,e',_⟩:=d.ns;exact ⟨o,e'⟩
 refine I.write (x:=a) (e:=dx) (by rw[e];exact YF) (.inr k) (λb q t z=>(p.2 b t).trans z) D<|⟨by rw[bb J.ne];exact k,?_,J.ne,d.obj,_,d.ns,λg=>?_,λg B=>?_⟩
 .have:=rp f y N;lia
 .show jV _ _
  rw[rn];by_cases q:g=f
  .rw[US q,US q];exact l
  .rw[UU q,UU q];exact r g
 .by_cases q:g=f
  .rw[q];exact(pM f y N).1
  .refine(pM f y N).2 g (j g λz=>B ?_)
   simp_all
theorem b5.made(I:b5 X R L H s):b5 X R L (upd (upd H s.heap.objs.size<|.own<|s.heap.objs.size+1) (s.heap.objs.size+1)<|.ins C s.heap.objs.size [])
  {s with heap:=(s.heap.push ZU).push (instObj C s.heap.objs.size)}:=by
 have c:(s.heap.push ZU).get? _=U ZU:=U7 _ Z;have d:((s.heap.push ZU).push<|instObj C s.heap.objs.size).get? (s.heap.objs.size+1)=U (instObj C s.heap.objs.size):=by
  have:=U7 (s.heap.push ZU) (o:=instObj C s.heap.objs.size) Z;rwa[WB]at this
 have j:=I.laid (o:= .own<|s.heap.objs.size+1) (t':=s.toks) (λb u q=>UH _ q) (UV _) ⟨_,c⟩;refine j.laid (λb u q=>UH _ q) (Nat.le_of_eq<|WB _ _) ?_;have f:s.heap.objs.size≠s.heap.objs.size+1:=VJ<|Yb _;refine⟨by rw[bb f,ay],VL _,f,d,λ_=>Y,(Heap.Ns1.of_empty (⟨ZU,#[],_,c,Z,(λe i=>Vl i rc),λ_=>Z⟩)).at λo q=>UH _ q,λ_=>YF,λy h=>Vl Z h⟩
theorem PM{w}{f}{pos}{s}(c:Zd e f d (Wa e d)=Wa e d)
  (h:U6 (Vq prog w) A (Wa e d) (λo b=>U6 (Vq prog w) A (getAttr o f O) Q E b) E s):U6 (Vq prog w) A (Wa (.Attribute e f pos) d) Q E s:=
 Attribute_any_ h (by rw[arm_eval_Attribute,c])
def tFld(K:Vb)(c:TE)(f:VF):TE:=λL H Q=>c L H λx b=>∃a C dx N v,x= .ref a/\b a=U (.ins C dx N)/\t_ K C/\dg K C f/\N.lookup f=U v/\Q v b
def Qv(K:Vb)(c d:TE)(f:VF):TS:=λD L H=>d L H λy e=>c L e λx b=>∃a C dx N,x= .ref a/\b a=U (.ins C dx N)/\t_ K C/\dg K C f/\N.length<1000/\
 D.nx L (upd b a<|.ins C dx<|eU f y N)
variable{o e v:Expr}{pos f5 d:Ye}{z T:TE}
theorem QZ(b:PE X e z)(d:Zd e f X.env (Wa e X.env)=Wa e X.env):PE X (.Attribute e f pos) (tFld X.K z f):=by
 refine λR s L H Q I h=>PM d<|dv (b R s L H _ I h) λu r w=>?_;obtain⟨x,g,i,j,a,C,dx,N,v,o,k,c,n,l,q⟩:=w;subst o;obtain rfl:u=Vh a:=j;exact FA i k c n l λt y m p=>⟨v,g,m,p,q⟩
theorem ir(e:PE X o z)(b:PE X v T)(w:ZV v (U<|.Attribute o f f5) pos.line X.env=W2 UK):PS X (.Assign [.Attribute o f f5] v pos) (Qv X.K z T f):=by
 refine λR s L H D I h=>plainObj_wpAny_Assign_Attribute (dv (b R s L H _ I h) λu d ⟨y,g,i,j,q⟩=>dv (e R d L g _ i q) λk B u=>?_) w;obtain⟨x,F,m,p,a,C,dx,N,A,r,c,n,l,E⟩:=u;subst A;obtain rfl:k=Vh a:=p;exact DL m r c n l j λJ t=>⟨L,_,t,E⟩
variable{Q:ϕ}{c:UQ}{b:Bool}
inductive p0 (K:Vb) (H:Hp):V->UQ->Prop where
 |non:p0 K H .non (.type "NoneType")
 |bl (x:Bool):p0 K H (.bl x) (.type L')
 |int (i:Int):p0 K H (.int i) (.type O')
 |str (x:VF):p0 K H (.str x) (.type AA)
 |lst {a:UM} {xs:ύ} (e:H a=U (.lst xs)):p0 K H (.ref a) (.type lQ)
 |frz {a:UM} {o:Wd} {xs:ύ} (e:H a=U (.frz o (.lst xs))):p0 K H (.ref a) (.type lQ)
 |tup {a:UM} {xs:ύ} (e:H a=U (.tup xs)):p0 K H (.ref a) (.type lP)
 |ins {a C dx:UM} {N:a0G} (e:H a=U (.ins C dx N)) (cl:t_ K C) (ha:Yl K (.ref C) "__class__"=U (U (.builtin rj)))
  (hn:specialIn K (.builtin rj) "__get__"=U (U<|.builtin "getset_descriptor.__get__")) (htk:PySem.W.takesIn K (.builtin rj)=U O)
  (hm:PySem.W.mroIn K C (.type oK)=U O):p0 K H (.ref a)<|.ref C
theorem Kw(I:b5 X R L H s)(d:bf x u)(f:p0 X.K H x t)(e:kitOne X.K t c=U b)(h:∀j,Q (.bool b) {s with toks:=j}):
  U6 (Vq X.prog X.w) A (call (.builtin vW) [u,c]) Q E s:=by
 cases f with
 |non=>cases(show u=VH from d);exact kia_one PySem.W.kitx_none I.kIn YF e (λz=>nomatch z) h
 |bl y=>cases(show u=Y2 y from d);exact kia_one PySem.W.kitx_bool I.kIn YF e (λz=>nomatch z) h
 |int i=>obtain⟨t,q⟩:=(show ∃t,u=YJ i t from d);cases q;exact kia_one PySem.W.kitx_int I.kIn YF e (λz=>nomatch z) h
 |str y=>obtain⟨t,q⟩:=(show ∃t,u=Value.str y t from d);cases q;exact kia_one PySem.W.kitx_str I.kIn YF e (λz=>nomatch z) h
 |@lst a xs ea=>
  cases(show u=Vh a from d);obtain⟨_,_,n,_,g⟩:=(show cm X.prog X.w H s.heap a (.lst xs)from I.hok a _ ea);exact kia_one kitx_list I.kIn ⟨_,g,Z⟩ e (λz=>nomatch z) h
 |@frz a ob xs ea=>
  cases(show u=Vh a from d);obtain⟨_,_,_,n,_,g⟩:=(show cm X.prog X.w H s.heap a (.frz ob<|.lst xs)from I.hok a _ ea);exact kia_one kitx_list I.kIn ⟨_,g,Z⟩ e (λz=>nomatch z) h
 |@tup a xs ea=>
  cases(show u=Vh a from d);obtain⟨_,_,_,p⟩:=(show cm X.prog X.w H s.heap a (.tup xs)from I.hok a _ ea);obtain⟨o,g,k,_⟩:=p;exact kia_one kitx_tuple I.kIn ⟨o,g,k⟩ e (λz=>nomatch z) h
 |@ins a C dx N ea cl ha hn htk hm=>
  cases(show u=Vh a from d);obtain⟨l,f5,_⟩:=m5 I.hok ea;obtain⟨m,J,_⟩:=f5.look;exact kia_one (PySem.W.kitx_own (cl.get _) cl.hd ha hn htk hm) I.kIn J e (λz=>nomatch z) h
structure d4 (k:Nat) (A:V3):Prop where
 hd:A.handled=Y
 dp:A.depth+3*k+5<recursionLimit
 un:A.units+16*k+200<Zp
 gd:A.guards=U []
theorem d4.mono(r:d4 k A)(h:j<=k):d4 j A:=⟨r.hd,by have:=r.dp;lia,by have:=r.un;lia,r.gd⟩
theorem d4.deeper(r:d4 (k+1) A)(a):d4 k (A.deeper a):=
 ⟨r.hd,by have:=r.dp;show A.depth+1+3*k+5<_;lia,by have:=r.un;show A.units+3+16*k+200<_;lia,r.gd⟩
theorem EK{A:V3}{C}:(A.under<|.builtin ξ ⟨.ref C::g,kw⟩).depth=A.depth+1:=by
 rfl
theorem EJ{A:V3}{C}:(A.under<|.builtin ξ ⟨.ref C::g,kw⟩).units=A.units+1:=by
 rfl
theorem d4.make(r:d4 (k+1) A)(C)(a)(d:List<|VF×UQ):d4 k (A.under<|.builtin "type.__call__" ⟨.ref C::a,d⟩):=
 ⟨r.hd,by have:=r.dp;rw[EK];lia,by have:=r.un;rw[EJ];lia,by first|exact r.gd|simp[Code.guards]⟩
theorem d4.depth(r:d4 k A):A.depth<recursionLimit:=by have:=r.dp;lia
theorem d4.units(r:d4 k A):A.units+64<Zp:=by have:=r.un;lia
noncomputable def DA:TA:=λ_ H Q=>Q [] H
def DD(z:TE)(a:TA):TA:=λL H Q=>z L H λx d=>a L d λb g=>Q (x::b) g
variable{a:List Expr}{c:TE}{t:TA}
theorem jy:PA X [] DA:=λ_ _ _ _ H Q I h=>Calls.spliced_nil ⟨[],H,I,.nil,h⟩
theorem fQ(b:PE X e c)(d:PA X a t)(f:autoParam (Ϛ X e a) z6):PA X (e::a) (DD c t):=by
 intro pos R s L H Q I h;rw[f];exact Calls.spliced_cons<|dv (b R s L H _ I h) λu g ⟨x,i,j,o,v⟩=>(dv (d _ R g L i _ j v) λA n ⟨w,k,l,m,z⟩=>⟨x::w,k,l,.cons o m,z⟩)
def tTup(t:TA):TE:=λL H Q=>t L H λa d=>a.length<=Ve/\∀p,d p=Y->Q (.ref p) (upd d p<|.tup a)
def Qa(t:TA):TE:=λL H Q=>t L H λa d=>a.length<=Ve/\∀p,d p=Y->Q (.ref p) (upd d p<|.lst a)
theorem QU(h:PA X a t):PE X (.Tuple a m pos) (tTup t):=by
 refine λR s L H Q I j=>wpAny_Tuple_spliced<|dv (h _ R s L H _ I j) λc d ⟨f,g,i,r,z,q⟩=>⟨by rw[<-r.length];exact z,?_⟩;have k:=i.hok.fresh<|UV _;exact⟨.ref _,upd g _<|.tup f,i.laid (λb u e=>UH _ e) (UV _) ⟨z,c,r,⟨_,U7 _ Z,Z,_,Z⟩⟩,Z,q _ k⟩
theorem fM(h:PA X a t):PE X (.List a pos) (Qa t):=by
 refine λR s L H Q I j=>wpAny_List_spliced<|dv (h _ R s L H _ I j) λc d ⟨f,g,i,r,z,q⟩=>⟨by rw[<-r.length];exact z,?_⟩;have k:=i.hok.fresh<|UV _;exact⟨.ref _,upd g _<|.lst f,i.laid (λb u e=>UH _ e) (UV _) ⟨z,c,0,r,U7 _ Z⟩,Z,q _ k⟩
abbrev Sp:=ύ->Hp->VK->XK->Prop
abbrev O2:=List Env->Hp->UW->XK->UQ->UW->Prop
structure zv (P:Vw) (w:VC) (K:Vb) (mg:ϙ) (base:V0) (A:V3) (outer:List Env) (s:UW) (H:Hp):Prop where
 frames:A.frames=U outer
 mod:Mod K mg base
 bs:∀b o,base.get? b=U o->s.heap.get? b=U o/\H b=Y
 bsz:base.objs.size<=s.heap.objs.size
 funs:s.heap.FunFrames base outer
 frf:∀b∈hY outer,H b=Y
 hok:lr P w H s.heap
 bare:AllBare s.gens
def CE(a:List Env)(P:Vw)(w:VC)(H:Hp)(s:UW)(Q:VK)(u:UQ)(b:UW):Prop:=
 ∃v l,b.os=s.os/\AllBare b.gens/\Un (hY a) [] H l s.heap b.heap/\lr P w l b.heap/\bf v u/\Q v l
def CR(c:O2)(a:List Env)(P:Vw)(w:VC)(H:Hp)(s:UW)(Q:VK)(E:XK)(r:Result)(b:UW):Prop:=
 match r with
 | .ok (.ret u)=>CE a P w H s Q u b
 | .ok _=>False
 | .error e=>c a H s E e b
structure fw (P:Vw) (w:VC) (K:Vb) (mg:ϙ) (base:V0) (CX:O2) (k:Nat) (f:UM) (fd:U9) (ps:ϒ) (sp:Sp):Prop where
 len:∀vs H Q E,sp vs H Q E->vs.length=ps.length
 run:∀(A:V3) (outer:List Env) (s:UW) (H:Hp) (args:Args) (us:ό) (vs:ύ) (Q:VK) (E:XK),d4 k A->zv P w K mg base A outer s H->BindsTo s fd args (ps.zip us)->aG vs us->sp vs H Q E->
  Zi (Vq P w) A (.call (.ref f) args) (CR CX outer P w H s Q E) s
theorem fw.mono{K}{f}(F:fw P w K g base CX j f i ps m)(h:j<=k):
  fw P w K g base CX k f i ps m:=⟨F.len,λA a s H b c e Q E d=>F.run A a s H b c e Q E<|d.mono h⟩
theorem zv.make{K}(e:zv P w K j i A g s H)(C)(a)(d:List<|VF×UQ):
  zv P w K j i (A.under<|.builtin "type.__call__" ⟨.ref C::a,d⟩) g s H:=⟨by first|exact e.frames|(simpa[Code.envs]using e.frames),e.mod,e.bs,e.bsz,e.funs,e.frf,e.hok,e.bare⟩
variable{a:UW}
theorem b5.env0(I:b5 X R L H s):zv X.prog X.w X.K X.mg X.base X.A X.stack s H:=
 ⟨I.ok.frames,I.ok.mod,I.bs,U1 I.ok.bsz I.sz,I.stack,I.stkFree,I.hok,I.bare⟩
theorem b5.after{Q}(I:b5 X R L H s)(h:CE X.stack X.prog X.w H s Q u a):EP X R L Q u a:=by
 obtain⟨v,l,f,c,n,e,r,q⟩:=h;obtain⟨j,g,d,t,i⟩:=a;obtain rfl:i=s.os:=f;exact⟨v,l,I.call n e c (λb z=>Vl z rc),r,q⟩
def SV(a:Sp)(d:ύ)(E:ϔ)(t:TA):TE:=λL H Q=>t L H λb g=>a (b++d) g Q<|E L
def DB(C:UM)(m:VF)(b:Sp)(d:ύ)(E:ϔ)(z:TE)(t:TA):TE:=λL H Q=>z L H λx g=>∃a dx N,x= .ref a/\g a=U (.ins C dx N)/\N.lookup m=Y/\
 t L g λc i=>b (x::(c++d)) i Q<|E L
def cL(K:Vb)(d:U9)(b:ϒ)(c:ό):Prop:=
 ∀(s:UW) (a:ό),K.In s.heap->(a++c).length=b.length->BindsTo s d ⟨a,[]⟩ (b.zip<|a++c)
theorem cL.all{K}{a:ϒ}(h:∀us:ό,ϱ us=ϱ a->bindArgs g ⟨us,[]⟩=W2 (a.zip us)):cL K g a []:=λs us _ d=>by
 rw[VA]at d⊢;exact .of_eq<|h us d
def eB(b:O2)(X:Cx)(E:ϔ):Prop:=∀(R:ϖ) (L:St) (H:Hp) (s:UW) (e:UQ) (a:UW),b5 X R L H s->b X.stack H s (E L) e a->X.xe e a
end
section
variable{X:Cx}{CX:O2}{k:Nat}{f C:UM}{fd:U9}{ps:ϒ}{sp:Sp}{z:ύ}{ds:ό}{E:ϔ}{x m:VF}{p pos o7:Ye}{e o:Expr}{f5:List Expr}{ta:TE}{t:TA}
theorem yf(F:fw X.prog X.w X.K X.mg X.base CX k f fd ps sp)(c:d4 k X.A)(d:cL X.K fd ps ds)(m:aG z ds)(o:eB CX X E)
  (I:b5 X aj i H s) (r:aG vs us) (h:sp (vs++z) H Q<|E i):U6 (Vq X.prog X.w) X.A (call (.ref f) us) (EP X aj i Q) X.xe s:=by
 have b:=r.append m;have g:(us++ds).length=ps.length:=by rw[<-b.length];exact F.len _ _ _ _ h
 refine wpAny_call<|PySem.codeAny_mono (F.run _ _ s H ⟨us,[]⟩ _ _ Q _ c I.env0 (d s us I.kIn g) b h) λr p a=>?_;cases r with
 |error e=>exact o aj i H s e p I a
 |ok fl=>
  cases fl with
  |ret u=>exact I.after a
  |next=>exact XH a
  |brk=>exact XH a
  |cont=>exact XH a
theorem qx(F:fw X.prog X.w X.K X.mg X.base CX k f fd ps sp)(g:d4 k X.A)(i:Gl X x)(m:X.mg x=U (.ref f))(j:keepIn X.K (.ref f)=O)(l:cL X.K fd ps ds)(o:aG z ds)(C:eB CX X E)
  (D:PA X (e::f5) t) (b:autoParam (ϟ x) z7) (n:autoParam (Ϛ X e f5) z6) (c:autoParam (ϣ X pos f5) z6):
  PE X (.Call (.Name x p) (e::f5) [] pos) (SV sp z E t):=by
 refine λa s u H Q I h=>PySem.wpAny_Call_Name_kw<|vf I i m ?_ b;exact PySem.W.callWith_K I.ok.mod.kin j (dv (D _ a s u H _ I h) λG v o7=>by obtain⟨M,y,d,r,q⟩:=o7;exact ⟨d.kIn,yf F g l o C d r q⟩) n c
theorem OL(v:PE X o ta)(c:t_ X.K C)(p:j_ X.K C m f)(F:fw X.prog X.w X.K X.mg X.base CX k f fd ps sp)(y:d4 k X.A)(B:cL X.K fd ps ds)(D:aG z ds)(G:eB CX X E)(M:PA X (e::f5) t)
  (d:autoParam (Ϛ X e f5) z6) (g:autoParam (ϣ X pos f5) z6)
  (J:autoParam (Wa (.Call (.Attribute o m o7) (e::f5) [] pos) X.env=(do
   let ov <-Wa o X.env
   Y4 o7.atName
   let (f,first) <-ZE [ov] (getMethod ov m pl)
   callWith pos f first (Xm pos<|U8 (e::f5) X.env) (YB pos<|Xg [] X.env))) z6):
  PE X (.Call (.Attribute o m o7) (e::f5) [] pos) (DB C m sp z E ta t):=by
 refine λb s i H Q I h=>PySem.W.methodCall_KW (dv (v b s i H _ I h) λu L z0=>?_) J;obtain⟨x,N,j,o9,a,R,fs,S,P,l,q⟩:=z0;subst S;obtain rfl:u=Vh a:=o9;apply uq j P c p l;refine PySem.W.callWith_K I.ok.mod.kin p.kp (dv (M _ b L i N _ j q) λus T ⟨vs,o8,n,r,V⟩=>⟨n.kIn,?_⟩) d g
 exact yf (vs:= .ref a::vs) F y B D G n (.cons Z r) V
theorem LX(g:PE X o ta)(c:t_ X.K C)(e:j_ X.K C m f)(F:fw X.prog X.w X.K X.mg X.base CX k f fd ps sp)(i:d4 k X.A)(j:cL X.K fd ps ds)(p:aG z ds)(t:eB CX X E)
  (n:autoParam (Wa (.Call (.Attribute o m o7) [] [] pos) X.env=(do
   let N <-Wa o X.env
   Y4 o7.atName
   let (f,first) <-ZE [N] (getMethod N m pl)
   callWith pos f first (Xm pos<|U8 [] X.env) (YB pos<|Xg [] X.env))) z6):
  PE X (.Call (.Attribute o m o7) [] [] pos) (DB C m sp z E ta DA):=by
 refine λb s r H Q I h=>PySem.W.methodCall_KW (dv (g b s r H _ I h) λu B f5=>?_) n;obtain⟨x,J,d,v,a,L,G,D,y,l,q⟩:=f5;subst D;obtain rfl:u=Vh a:=v;apply uq d y c e l;exact PySem.W.callWith_K0 d.kIn e.kp<|yf (vs:=[.ref a]) F i j p t d (.cons Z .nil) q
structure Mk (K:Vb) (C f:UM):Prop where
 makes:PySem.W.makesIn K C=O
 init:Yl K (.ref C) oI=U (U<|.ref f)
 fn:isFn K (.ref f)=O
 kp:keepIn K (.ref C)=O
def PK(X:Cx)(b:List Keyword)(t:TA):Prop:=
 ∀(pos:Ye) (a:ϖ) (s:UW) (c:St) (H:Hp) (Q:ύ->Hp->Prop),b5 X a c H s->t c H Q->U6 (Vq X.prog X.w) X.A (evalAll<|(YB pos<|Xg b X.env).map (·.2)) (AP X a c Q) X.xe s
variable{a:ϒ}{k:Ye}{f:List Keyword}{m:TE}{o:TA}{z:Option VF}
theorem QR:PK X [] DA:=λ_ _ _ _ H Q I h=>wpAny_evalAll_nil ⟨[],H,I,.nil,h⟩
theorem OH(o:PE X e m)(c:PK X f t):PK X (⟨z,e,k⟩::f) (DD m t):=by
 intro pos a s b H Q I h;show U6 _ _ _ _ _ s
 exact wpAny_evalAll_cons<|My<|dv (o a s b H _ I h) λu d ⟨x,g,i,p,C⟩=>My<|W9<|UF<|dv (c _ a d b g _ i C) λG q ⟨D,j,l,n,E⟩=>⟨x::D,j,l,.cons p n,E⟩
structure N_ (K:Vb) (fd:U9) (ps a:ϒ) (g:ό->ό->ό) (gV:ύ->ύ->ύ):Prop where
 to:∀(s:UW) (us ws:ό),K.In s.heap->(g us ws).length=ps.length->BindsTo s fd ⟨us,a.zip ws⟩ (ps.zip<|g us ws)
 rel:∀{vs:ύ} {us:ό} {zs:ύ} {ws:ό},aG vs us->aG zs ws->aG (gV vs zs) (g us ws)
variable{g:ό->ό->ό}{a:ύ->ύ->ύ}
structure ba (N P:ϒ) (sc:Scope):Prop where
 kind:sc.kind= .function
 co:sc.isCoroutine=UK
 gen:sc.isGenerator=UK
 nd:N.Nodup
 pre:N.take P.length=P
 par:∀x∈P,sc.names.lookup x=U .local\/sc.names.lookup x=U .cell
 nofree:∀y∈sc.names,y.2≠ .free
theorem wz{x}:∀{a:List (VF×UQ)} {m:ϙ},(∀v,(x,v)∉a)->bindL b a m x=m x
 |[],_,_=>rfl
 |(n,v)::r,m,h=>by
  unfold bindL;rw[wz λw c=>h w<|UI _ c];split
  .have:x≠n:=by rintro rfl;exact h v UP
   simp[this]
  .rfl
theorem wC{x}:∀{a:List (VF×UQ)} {m:ϙ},(∀v,(x,v)∉a)->bindC b a m x=m x
 |[],_,_=>rfl
 |(n,v)::r,m,h=>by
  unfold bindC;rw[wC λw c=>h w<|UI _ c];split
  .rfl
  .have:x≠n:=by rintro rfl;exact h v UP
   simp[this]
theorem wA{a:VF->Option YW}{x}{v}:∀{P:ϒ} {e:ό} {i:Nat} {m:ϙ},P.Nodup->P[i]?=U x->e[i]?=U v->a x=U .local->
  bindL a (P.zip e) m x=U v
 |[],_,_,_,_,h,_,_=>by simp at h
 |_::_,[],_,_,_,_,h,_=>by simp at h
 |p::P,w::e,0,m,nd,h1,h2,hk=>by
  simp at h1 h2;subst h1;subst h2;show bindL a ((p,w)::P.zip e) m p=_;unfold bindL;rw[wz λv b=>(V2.mp nd).1 (XT b).1,US hk];simp
 |p::P,w::e,i+1,m,nd,h1,h2,hk=>by
  show bindL a _ m x=_;unfold bindL;exact wA (V2.mp nd).2 (by exact h1) (by exact h2) hk
theorem wD{a:VF->Option YW}{x}{v}:∀{P:ϒ} {e:ό} {i:Nat} {m:ϙ},P.Nodup->P[i]?=U x->e[i]?=U v->a x≠U .local->
  bindC a (P.zip e) m x=U v
 |[],_,_,_,_,h,_,_=>by simp at h
 |_::_,[],_,_,_,_,h,_=>by simp at h
 |p::P,w::e,0,m,nd,h1,h2,hk=>by
  simp at h1 h2;subst h1;subst h2;show bindC a ((p,w)::P.zip e) m p=_;unfold bindC;rw[wC λv b=>(V2.mp nd).1 (XT b).1,UU hk];simp
 |p::P,w::e,i+1,m,nd,h1,h2,hk=>by
  show bindC a _ m x=_;unfold bindC;exact wD (V2.mp nd).2 (by exact h1) (by exact h2) hk
noncomputable def gU(N:ϒ)(a:ύ):St:=a.map U++Vn (N.length-a.length) Y
noncomputable def gD(CX:O2)(P:Vw)(w:VC)(K:Vb)(mg:ϙ)(base:V0)(N:ϒ)(a:VF)(g:Scope)(f:UM)(k:UQ)(A:V3)(outer:List Env)(s:UW)(H:Hp)(E:XK):Cx where
 prog:=P
 w:=w
 K:=K
 mg:=mg
 base:=base
 A:=A.deeper (Zo a g s.heap.objs.size f k)
 N:=N
 s₀:=s
 H₀:=H
 env:=Zo a g s.heap.objs.size f k
 outer:=outer
 stack:=Zo a g s.heap.objs.size f k::outer
 ex:=[]
 calm:=O
 fn:=λ_=>O
 pn:=[]
 xe:=λe m=>U6 (Vq P w) (A.deeper<|Zo a g s.heap.objs.size f k) (leaving (Zo a g s.heap.objs.size f k) e) (λ_ b=>CX outer H s E e b) (λc b=>CX outer H s E c b) m
theorem zt{a:Scope}{x}(h:a.names.lookup x=U .cell):∃c,(WR n a.names []).lookup x=U c:=by
 exact Option.isSome_iff_exists.mp (cellsFrom_some _ n []<|.inl h)
theorem Ky{CX}{K}{N ps}{g}{f}{A}{s L}{E}{m:ύ}
  (S:ba N ps g) (t:A.handled=Y) (j:zv P w K mg base A outer s H) (n:ϱ m=ϱ ps) (r:aG m us)
  (x:InCallC s s.heap.objs.size (bindL (Zo qual g s.heap.objs.size f cd).kindOf (ps.zip us) λ_=>Y) (WR (s.heap.objs.size+1) g.names []) (bindC (Zo qual g s.heap.objs.size f cd).kindOf (ps.zip us) λ_=>Y) L):
  b5 (gD CX P w K mg base N qual g f cd A outer s H E) [] (gU N m) H L:=by
 have R:ϱ ps<=ϱ N:=by have:=VR ZJ S.pre;rw[VI]at this;lia
 obtain⟨I,o,rfl,o8⟩:=x.done;have l:∀b:UM,b∉(gD CX P w K mg base N qual g f cd A outer s H E).ex:=λb z=>Vl (show b∈([]:ϗ)from z) rc;refine⟨⟨j.mod,S.kind,Z,Z,UV _,λy z c I d=>?_,λy hy=>?_,λy c _ h=>?_,λ_=>t,Around.frames_deeper j.frames,.inr ⟨Z,Z⟩,λb z=>Vl z<|l b,j.bs,j.bsz,λb _ _=>l b,λb z=>Vl z<|l b,j.funs,j.frf⟩,
  rfl,j.bare,Un.kept o8,⟨_,x.toInCall.ns,λi y v I d W=>?_⟩,λy c h=>⟨_,x.cell y c h⟩,j.hok.fresh<|UV _,λy c h=>?_,λp B=>Vl (show p∈([]:ϖ)from B) rc,j.hok.kept o8,?_⟩
 .exact name_of_addr x.apart (Wz I) (Wz d)
 .have hy:=hy
  obtain hy|hy:=hy
  .exact zt hy
  .exact Vl Z (S.nofree _<|Wz hy)
 .exact Yj (x.above y c<|Wz h)
 .have J:i<ϱ m:=by
   unfold gU at d;by_cases J:i<ϱ m
   .exact J
   .rw[W4<|by simpa using J]at d
    rw[Xn]at d;simp_all
  have C:m[i]?=U v:=by
   unfold gU at d;rw[YS (by simpa using J),UN]at d;cases e:m[i]? with
   |none=>rw[e]at d;cases d
   |some a=>rw[e]at d;cases d;rfl
  obtain⟨u,Q,T⟩:=r.get C;have B:ps[i]?=U y:=by
   rw[<-S.pre,List.getElem?_take_of_lt ln];exact I
  have F:ps.Nodup:=by rw[<-S.pre];exact S.nd.sublist<|List.take_sublist _ _
  refine⟨u,T,?_⟩;obtain k|k:=S.par y (U2 B)
  .exact .inl ⟨k,wA F B Q k⟩
  .obtain⟨c,e⟩:=zt k
   refine .inr ⟨.inl k,c,e,?_⟩;have q:=x.cell y c e;rw[wD F B Q (by show g.names.lookup y≠_;rw[k];decide)]at q;exact q
 .exact j.hok.fresh (Yj<|x.above y c<|Wz h)
 .unfold gU
  show _=ϱ N;simp_all
theorem NX{K}{k}{f}
  (I:K.lookup f=U ⟨oc,od,.func<|Zb name qual params body scope dV kV doc pm an cdv ct,osl⟩) (B:ZS K cdv qual=O) (S:ba N ps scope)
  (z:∀m H Q E,sp m H Q E->ϱ m=ϱ ps)
  (d:∀(A:V3) (g:List Env) (s:UW) (H:Hp) (m:ύ) (Q:VK) (E:XK),d4 k (A.deeper<|Zo qual scope s.heap.objs.size f cdv)->sp m H Q E->
   ∃t,PSs (gD CX P w K mg base N qual scope f cdv A g s H E) body t/\t {nx:=λ_ c=>Q .non c,rt:=Q} (gU N m) H):
  fw P w K mg base CX (k+1) f (Zb name qual params body scope dV kV doc pm an cdv ct) ps sp:=by
 refine⟨z,λA g s H D G m Q E F i o7 r j=>?_⟩;have f5:=z _ _ _ _ j;have R:=i.mod.kin.keeps λb o e=>(i.bs b o e).1;have h:∀y∈ps.zip G,scope.names.lookup y.1=U _\/(scope.names.lookup y.1=U _/\((WR (s.heap.objs.size+1) _ []).lookup y.1).isSome=O):=λ⟨n,v⟩ M=>by
  obtain q|q:=S.par n (XT M).1
  .exact .inl q
  .exact .inr ⟨q,cellsFrom_some _ _ _<|.inl q⟩
 refine codeAny_call_function F.depth (R _ _ I) Z S.co S.gen Z (PySem.W.codeRec_of R B)<|o7 _ _ _ _<|wpAny_newFunctionEnv_cells S.kind h λX he T x=>?_;subst he;refine⟨(i.mod.nolimit.keeps λb o e=>(i.bs b o e).1).keeps x.toInCall.keep,codeAny_func ?_⟩;obtain⟨t,ht,hq⟩:=d A g s H m Q E (F.deeper _) j;refine V8 (ht [] T _ H _ (Ky S F.hd i f5 r x) hq) (λfl C p=>?_) λe C p=>p;have l:∀{a:St} {c:Hp} {v:V} {u:UQ},b5 (gD CX P w K mg base N qual scope f cdv A g s H E) [] a c C->bf v u->Q v c->CE g P w H s Q u C:=
  λ{a c v u} J L q=>⟨v,c,J.os,J.bare,J.base,J.hok,L,q⟩
 cases fl with
 |ret u=>
  obtain⟨v,a,c,J,L,q⟩:=p;exact l J L q
 |next=>
  obtain⟨a,c,J,q⟩:=p;exact l (v:=V.non) J Z q
 |brk=>
  obtain⟨_,_,_,q⟩:=p;exact XH q
 |cont=>
  obtain⟨_,_,_,q⟩:=p;exact XH q
variable{f T:String}{r:a0J}
def tCB(r:a0J)(t:TA):TE:=λa H Q=>t a H λe b=>r e b Q
theorem nR(i:cT X (.builtin f) r)(j:Gl X x)(g:X.mg x=Y)(l:Yx x=U (.builtin f))(k:PA X (e::f5) t)(m:autoParam (x≠vU) z7)(b:autoParam (ϟ x) z7)
  (n:autoParam (Ϛ X e f5) z6) (c:autoParam (ϣ X pos f5) z6):PE X (.Call (.Name x p) (e::f5) [] pos) (tCB r t):=by
 exact λa s d H Q I h=>PySem.wpAny_Call_Name_kw<|gN I j g l (Rows.callWith_builtin1 (dv (k _ a s d H _ I h) λo q ⟨z,u,v,C,D⟩=>i a q d u z o Q v C D) n c) m b
theorem v6(i:cT X (.type T) r)(j:Gl X x)(f:X.mg x=Y)(l:Yx x=U (.type T))(g:PA X (e::f5) t)(k:autoParam (x≠vU) z7)(b:autoParam (ϟ x) z7)
  (n:autoParam (Ϛ X e f5) z6) (c:autoParam (ϣ X pos f5) z6):PE X (.Call (.Name x p) (e::f5) [] pos) (tCB r t):=by
 exact λa s d H Q I h=>PySem.wpAny_Call_Name_kw<|gN I j f l (Wq (dv (g _ a s d H _ I h) λm q ⟨o,u,v,z,C⟩=>i a q d u o m Q v z C) n c) k b
end
end L2
namespace HT
def lexLt:ώ->ώ->Bool
 |[],[]=>UK
 |[],_::_=>O
 |_::_,[]=>UK
 |x::xs,y::ys=>if x=y then lexLt xs ys else decide (x<y)
theorem lexLt_cons(x y)(D E):lexLt (x::D) (y::E)=if x=y then lexLt D E else decide (x<y):=Z
theorem wL:lexLt [] []=UK:=Z
theorem vb(y)(D):lexLt [] (y::D)=O:=Z
theorem vd(x)(D):lexLt (x::D) []=UK:=Z
theorem MN(A)(s)(a)(t)(c)(u):∃e,WF A s (.int a t) (.int c u) e/\(e=O↔a=c):=
 ⟨(a==c),WF.int_int a t c u,rc⟩
theorem LH(A)(s)(a)(t)(c)(u)(D)(w)(E)(Q)(h:Q (.bool<|decide (a<c)) s):
  U6 (Vq D w) A (richCompare .Lt (.int a t)<|.int c u) Q E s:=
 (Rows.lt_int h:U6 _ A _ Q E s)
section
open PySem.SeqAt
open PySem.AutoSeq1 (wpAny_loadPart')
open PySem.MeetsSeq PySem.MeetsSeq2 PySem.MeetsSeq3
theorem wF(l b)(D f)(n o8)(f5 o9)(z P:Array<|Option UQ)(K I)(o7:Zy D.toList K)(W:Zy f.toList I):
  Meets (Builtin.«tuple.__lt__» ⟨[.ref l,.ref b],[]⟩)
   (λ_ R s=>s.heap.get? l=U {cls:= .type "tuple",dict:=f5,data:= .seq D n,slots:=z}/\s.heap.get? b=U {cls:= .type "tuple",dict:=o9,data:= .seq f o8,slots:=P}/\
    R (.ok<|.ret<|.bool<|lexLt K I) s):=
 .of_wp λE w A R s h=>by
  obtain⟨J,g,d,L,M⟩:=s;obtain⟨hl,hb,h⟩:=h;have f2:=AutoSeq1.sub_tuple_tuple;have z1:D.size=K.length:=by rw[<-o7.length];simp
  have z2:f.size=I.length:=by rw[<-W.length];simp
  wp_walk using wpAny_loadPart' hl,wpAny_loadPart' hb,ZY _ (λG b V=>b.1=Y/\V=⟨J,g,d,L,M⟩/\∃(S N:ό) (j k:ώ),G=S.zip N/\
   Zy S j/\Zy N k/\j.length+f.size=k.length+D.size/\R (.ok<|.ret<|.bool<|lexLt j k) ⟨J,g,d,L,M⟩) _
  case turn=>
   rintro⟨y,x⟩ G b V ⟨v,rfl,S,N,j,k,m,B,o,i,p⟩;cases B with
   |nil=>rw[List.zip_nil_left]at m;cases m
   |cons a t F=>
    cases o with
    |nil=>rw[List.zip_nil_right]at m;cases m
    |cons c u H=>
     injection m with Q C
     injection Q with hy hx
     subst hy hx;rw[lexLt_cons]at p;simp only[U5]at i;obtain⟨e,he,r⟩:=MN _ ⟨J,g,d,L,M⟩ a t c u;refine My<|he E w _ _ ?_;cases e with
     |true=>
      rw[US<|r.mp Z]at p
      wp_walk
      exact⟨Z,Z,_,_,_,_,C,F,H,by grind,p⟩
     |false=>
      rw[UU (λq=>Vl (r.mpr q) UX)]at p;have T:=LH A.in1 ⟨J,g,d,L,M⟩ a t c u E w
      wp_walk using T
      exact⟨_,Z,by exact p⟩
  case fin=>
   rintro⟨b1,b2⟩ V ⟨v,rfl,S,N,j,k,m,B,o,i,p⟩;subst v;have X:lexLt j k=decide (D.size<f.size):=by
    cases B with
    |nil=>
     cases o with
     |nil=>
      simp only[XR]at i;exact(Vv ln).symm
     |cons c u hw=>
      simp only[XR,U5]at i;exact(U3 ln).symm
    |cons a t X=>
     cases o with
     |nil=>
      simp only[XR]at i;exact(Vv ln).symm
     |cons c u hw=>
      rw[Wv]at m;cases m
   rw[X]at p
   wp_walk
   exact⟨_,Z,by simpa[Builtin.Tuple.tupleCompareSizes]using p⟩
  case h=>
   exact⟨Z,Z,D.toList,f.toList,K,I,Z,o7,W,ln,h⟩
end
section
variable{z:Vw}{w:VC}{A:V3}{E:ϕ}{s:UW}
theorem lt_tupInts{D a:ϫ}(o:IsTup s.heap l D)(p:IsTup s.heap b a)(q:Zy D.toList ns)(r:Zy a.toList ms)
  (t:A.units<Zp) (h:Q (.bool<|lexLt ns ms) s):U6 (Vq z w) A (We .Lt (.ref l)<|.ref b) Q E s:=by
 obtain⟨⟨M,u,G,S⟩,j,k,n,K⟩:=id o;obtain⟨⟨m,f,g,i⟩,c,d,v,e⟩:=id p;subst k K d e;exact richCompare_meets_room (op:= .Lt) ⟨_,j,Z⟩ ⟨_,c,Z⟩ PySem.F.slot_tuple_lt PySem.F.entry_tuple_lt (PySem.F.args_tuple_lt_2 _ _) (wF l b D a n v u f S i ns ms q r)
  ⟨j,c,show Y2 _≠Value.notImplemented/\Q _ s from⟨(λx=>nomatch x),h⟩⟩ t
theorem cat_tup{D a:ό}(u:IsTup s.heap t D.toArray)(v:IsTup s.heap b a.toArray)(m:D≠[])
  (y:a=[]->Q (.ref t) s) (B:a≠[]->Q (.ref s.heap.objs.size) {s with heap:=s.heap.push {cls:= .type "tuple",data:= .seq (D++a).toArray}})
  (k:ϱ D+ϱ a<=Ve):U6 (Vq z w) A (XU .Add (.ref t)<|.ref b) Q E s:=by
 obtain⟨⟨cls,o,data,G⟩,i,p,n,K⟩:=id u;obtain⟨⟨q,d,l,f⟩,c,g,r,h⟩:=id v;subst p K g h;have e:D.toArray++a.toArray=(D++a).toArray:=by simp
 by_cases j:a=[]
 .exact concat_meets ⟨_,i,Z⟩ ⟨_,c,Z⟩ noFill_tuple_add seq_tuple_add PySem.F.slot_tuple_add PySem.F.entry_tuple_add (PySem.F.args_tuple_add_2 _ _)
   (tuple_addW1 t b _ _ n r o d G f (by simpa using m)<|by simp[j]) ⟨i,c,y j⟩
 .refine concat_meets ⟨_,i,Z⟩ ⟨_,c,Z⟩ noFill_tuple_add seq_tuple_add PySem.F.slot_tuple_add PySem.F.entry_tuple_add (PySem.F.args_tuple_add_2 _ _)
   (tuple_addW2 t b _ _ n r o d G f (by simpa using m) (by simpa using j)<|by exact k) ⟨i,c,?_⟩
  rw[e];exact B j
noncomputable def sIx(n d:Nat):ϛ->Nat
 |none=>d
 |some v=>if v<0 then(v+(n:Int)).toNat else XF v.toNat n
theorem sIx_none(n d):sIx n d Y=d:=Z
theorem sIx_nat(n d k:Nat):sIx n d (U (k:Int))=XF k n:=by
 rfl
theorem Qu(n d)(s:d<=n)(o):sIx n d o<=n:=by
 cases o with
 |none=>exact s
 |some v=>
  show(if v<0 then(v+(n:Int)).toNat else XF _ n)<=n;by_cases a:v<0
  .rw[US a];lia
  .rw[UU a];exact ZB _ _
theorem CB(v)(n d:Nat):(if v<0 then max (v+(n:Int)) 0 else XF v (n:Int))=((sIx n d (U v):Nat):Int):=by
 show(if v<0 then max _ 0 else XF v _)=(((if v<0 then(v+(n:Int)).toNat else XF _ n):Nat):Int);by_cases a:v<0
 .simp only[US a];lia
 .simp only[UU a];grind
theorem FY(s a)(n:Nat):Zw s a 1 (n:Int)=(((sIx n 0 s:Nat):Int),((sIx n n a:Nat):Int)):=by
 have b:¬((1:Int)<0):=by lia
 unfold Zw;apply Xu
 .cases s with
  |none=>rfl
  |some v=>exact CB v n 0
 .cases a with
  |none=>rfl
  |some v=>exact CB v n n
theorem DW(i j:Nat):Yp (i:Int) (j:Int) 1=j-i:=by
 unfold Yp;have a:(1:Int)>0:=by lia
 simp only[a,VV,Int.ediv_one];split<;>lia
theorem sV(p:IsPart v o)(h:Q o s):U6 (Vq z w) A (Builtin.Slice.slicePartIndex v) Q E s:=by
 cases p with
 |none=>exact slicePart_none h
 |int i t=>exact slicePart_int h
theorem kF{D a:ϛ}{n}{Q:Int×Int×Nat->UW->Prop}(K:s.heap.IsSliceOf G d e .none)(M:IsPart d D)(f:IsPart e a)
  (h:Q (((sIx n 0 D:Nat):Int),1,sIx n n a-sIx n 0 D) s):U6 (Vq z w) A (Builtin.Slice.sliceApplied (.ref G)<|W2 (n:Int)) Q E s:=by
 obtain⟨S,b,g,c⟩:=id K;refine My<|My<|Wp b c Z<|My<|Wp b c Z<|My<|Wp b c Z<|UF<|My<|slicePart_none ?_;refine My<|sV M<|My<|sV f<|My<|UF ?_;show U6 _ _ (match Zw D a 1 (n:Int)with|(D,a)=>W2 (D,(1:Int),Yp D a 1)) _ _ s
 rw[FY D a n];show U6 _ _ (W2 _) _ _ s;rw[DW];exact UF h
theorem LU(s:ϫ)(i k:Nat):((UT k).filterMap λ(m:Nat)=>s[((i:Int)+(m:Int)*1).toNat]?).toArray=((s.toList.drop i).take k).toArray:=by
 have e:(λ(m:Nat)=>s[((i:Int)+(m:Int)*1).toNat]?)=λm=>s[i+m]?:=by
  funext m;have:((i:Int)+(m:Int)*1).toNat=i+m:=by lia
  rw[this]
 rw[e];have:=pick_run s i k;rw[List.filterMap_map]at this;have a:((λx=>s[x]?)∘λx=>i+x)=λm=>s[i+m]?:=Z;simp_all
theorem getItem_tuple_cut{D:ϫ}{G b:ϛ}(c:IsTup s.heap t D)(K:s.heap.IsSliceOf o vl vu .none)(M:IsPart vl G)(i:IsPart vu b)
  (j:¬(sIx D.size 0 G=0/\sIx D.size D.size b=D.size))
  (h:Q (.ref s.heap.objs.size) {s with heap:=s.heap.push {cls:= .type "tuple",data:= .seq ((D.toList.drop<|sIx D.size 0 G).take<|sIx D.size D.size b-sIx D.size 0 G).toArray}})
  (k:D.size<=Ve):U6 (Vq z w) A (getItem (.ref t)<|.ref o) Q E s:=by
 have a:sizeOk (.seq ((D.toList.drop<|sIx D.size 0 G).take<|sIx D.size D.size b-sIx D.size 0 G).toArray):=by
  show((D.toList.drop<|sIx _ 0 G).take<|sIx _ _ b-sIx _ 0 G).toArray.size<=Ve;rw[Vf,VI,YN,Vp];omega
 have n:sIx _ _ b<=D.size:=Qu _ _ (UV _) b;obtain⟨S,d,e,l⟩:=id K;unfold getItem
 try with_reducible apply Wf
 refine My<|wpAny_sequenceKey c.typeIs rb ?_;refine My (wpAny_callSpecial?_slot c.typeIs WE
  (VD WE c.typeIs entry_tuple_getitem ?_<|args_tuple_getitem _ _))
 show U6 _ _ (Builtin.Tuple.tupleItemsOf _>>=_) _ _ s;refine My<|tupleItemsOf_ c<|My<|wpAny_typeOf (⟨S,d,e⟩) ?_;refine My<|kF K M i ?_;have g:¬((((sIx D.size 0 G:Nat):Int)==0&&(1:Int)==1&&(sIx D.size D.size b-sIx D.size 0 G)==D.size)=O):=by
  simp_all
 show U6 _ _ (if(((sIx _ 0 G:Nat):Int)==0&&(1:Int)==1&&(sIx _ _ b-sIx _ 0 G)==D.size)=O then _ else _) _ _ s;rw[UU g,LU]
 first
  |exact My (VE (UF ⟨_,Z,UF h⟩) a)
  |exact My _
  |exact My _
  |exact My _
end
end HT
namespace L2
abbrev TO:=St->Hp->(ϛ->Hp->Prop)->Prop
def PO(X:Cx)(e:Option Expr)(t:TO):Prop:=
 ∀(a:ϖ) (s:UW) (b:St) (H:Hp) (Q:ϛ->Hp->Prop),b5 X a b H s->t b H Q->
  U6 (Vq X.prog X.w) X.A (evalPart e X.env) (λu D=>∃o c,b5 X a b c D/\IsPart u o/\Q o c) X.xe s
noncomputable def Oi:TO:=λ_ H Q=>Q Y H
def ST(t:TE):TO:=λa H Q=>t a H λx b=>∃i,x= .int i/\Q (U i) b
theorem ki:∀{E:ό},aG (D.map V.int) E->Zy E D:=by
 induction D with
 |nil=>intro E r;cases r;exact .nil
 |cons n D G=>
  intro E r;cases r with
  |cons K a=>
   obtain⟨t,e⟩:=K;subst e;exact .cons n t<|G a
section
variable{X:Cx}{e:Expr}{te:TE}{o7 f5:Option Expr}{tl th:TO}{pos p2:Ye}
theorem AM:PO X Y Oi:=by
 intro a s b H Q I h;exact UF ⟨Y,H,I,.none,h⟩
theorem AL(h:PE X e te):PO X (U e) (ST te):=by
 intro a s b H Q I c;refine dv (h a s b H _ I c) λu g z=>?_;obtain⟨x,d,f,D,E⟩:=z;obtain⟨i,rfl,q⟩:=E;obtain⟨t,rfl⟩:=D;exact⟨U i,d,f,.int i t,q⟩
def SlR(X:Cx)(r:V->ϛ->ϛ->Hp->VK->Prop):Prop:=
 ∀(a:ϖ) (s:UW) (b:St) (H:Hp) (x:V) (v c d:UQ) (o7 f5:ϛ) (e:UM) (Q:VK),b5 X a b H s->bf x v->s.heap.IsSliceOf e c d .none->IsPart c o7->IsPart d f5->r x o7 f5 H Q->
  ∃T f,typeLookup (.type T) "__getitem__"=W2 (U<|.builtin f)/\s.TypeIs v T/\U6 (Vq X.prog X.w) X.A (getItem v<|.ref e) (EP X a b Q) X.xe s
def tSl(r:V->ϛ->ϛ->Hp->VK->Prop)(te:TE)(tl th:TO):TE:=λa H Q=>te a H λx b=>tl a b λl c=>th a c λu d=>r x l u d Q
theorem nQ(j:SlR X r)(k:PE X e te)(m:PO X o7 tl)(n:PO X f5 th):PE X (.Subscript e (.Slice o7 f5 Y p2) pos) (tSl r te tl th):=by
 refine λa s d H Q I h=>Subscript_<|dv (k a s d H _ I h) λv o ⟨x,p,t,D,E⟩=>(wpAny_Slice<|dv (m a o d p _ t E) λf y ⟨l,B,C,G,K⟩=>dv (n a y d B _ C K) λg c z=>?_);obtain⟨u,i,F,J,M⟩:=z;apply UF;obtain⟨T,w,N,A,P⟩:=j a {c with heap:=c.heap.push {cls:= .type "slice",data:= .fields #[f,g,.none]}} d i x v f g l u _ Q (F.kept λb R q=>UH _ q) D (Heap.IsSliceOf.new ..) G J M;exact tail_any A N P (by with_unfolding_all rfl)
noncomputable def lq(e:ύ)(o7 f5:ϛ):ύ:=(e.drop<|HT.sIx e.length 0 o7).take<|HT.sIx e.length e.length f5-HT.sIx e.length 0 o7
theorem rA(e)(o7 f5):ϱ (lq e o7 f5)<=ϱ e:=by
 unfold lq;rw[VI,YN];lia
def rSlT(K:Vb):V->ϛ->ϛ->Hp->VK->Prop:=λx o7 f5 H Q=>∃a e,x= .ref a/\hW K H a e/\
 ¬(HT.sIx e.length 0 o7=0/\HT.sIx e.length e.length f5=e.length)/\∀p,H p=Y->Q (.ref p) (upd H p<|.tup<|lq e o7 f5)
theorem HK:SlR X (rSlT X.K):=by
 intro d s l H x v m n o7 f5 S Q I i E G j h;obtain⟨a,e,rfl,M,k,q⟩:=h;cases i;obtain⟨D,r,f,g⟩:=I.tuple M;have c:D.toArray.size=ϱ e:=by exact r.length.symm
 refine⟨lP,_,WE.lookup,f.typeIs,HT.getItem_tuple_cut f E G j (by rw[c];exact k) ?_ (by rw[c];exact g)⟩;rw[c];refine⟨.ref _,_,I.laid (λb p q=>UH _ q) (UV _) ?_,Z,q _<|I.hok.fresh<|UV _⟩;exact⟨U1 (rA e o7 f5) g,_,(r.drop<|HT.sIx _ 0 o7).take<|HT.sIx _ _ f5-HT.sIx _ 0 o7,IsTup.new _ _⟩
def DT(K:Vb):R2:=λx y H Q=>∃a b D e,x= .ref a/\y= .ref b/\hW K H a D/\hW K H b e/\D≠[]/\D.length+e.length<=Ve/\
 (e=[]->Q (.ref a) H)/\(e≠[]->∀p,H p=Y->Q (.ref p) (upd H p<|.tup<|D++e))
theorem aG.nil_iff(r:aG a b):b=[]↔a=[]:=by
 cases r with
 |nil=>simp
 |cons _ _=>simp
theorem OS:g8 X (XU .Add) (DT X.K):=by
 intro d s m H x y v u Q I i j h;obtain⟨a,b,D,E,rfl,rfl,G,k,M,f,S,V⟩:=h;cases i;cases j;obtain⟨o7,e,l,_⟩:=I.tuple G;obtain⟨g,c,p2,_⟩:=I.tuple k;refine HT.cat_tup l p2 (λz=>M<|e.nil_iff.mp z) (λz=>⟨.ref a,H,I,Z,S<|c.nil_iff.mp z⟩) (λz=>⟨.ref _,_,I.laid (λb n q=>UH _ q) (UV _) ?_,Z,V (λw=>z<|c.nil_iff.mpr w) _<|I.hok.fresh<|UV _⟩) (by rw[<-e.length,<-c.length];exact f);exact⟨by rw[Va];exact f,_,e.append c,IsTup.new _ _⟩
noncomputable def ko(n:Nat)(i:Int):ϳ:=if 0<=i then(if i<n then U i.toNat else Y)else if -(n:Int)<=i then U (i+n).toNat else Y
def l6{e:Type}(xs:List e)(i:Int):Option e:=(ko xs.length i).bind λj=>xs[j]?
theorem vi(h:ko n i=U j):seqIndex? i n=U j/\j<n/\-(n:Int)<=i/\i<n:=by
 unfold ko at h;by_cases b:0<=i
 .rw[US b]at h
  by_cases a:i<n
  .rw[US a]at h
   have e:=Vt h;exact⟨by rw[seqIndex_of b a,e],ln,ln,a⟩
  .rw[UU a]at h;cases h
 .rw[UU b]at h
  by_cases a:-(n:Int)<=i
  .rw[US a]at h
   exact⟨by rw[seqIndex_neg ln a,Vt h],ln,a,ln⟩
  .rw[UU a]at h;cases h
theorem CG(h:l6 D i=U v):∃j,seqIndex? i (ϱ D)=U j/\D[j]?=U v/\j<ϱ D/\-(ϱ D:Int)<=i/\i<ϱ D:=by
 unfold l6 at h;cases e:ko _ i with
 |none=>rw[e]at h;cases h
 |some j=>
  rw[e]at h;obtain⟨a,b,c,d⟩:=vi e;exact⟨j,a,h,b,c,d⟩
theorem PN{j:Nat}(h:D[j]?=U v):l6 D (j:Int)=U v:=by
 have a:=(UY.mp h).1;have e:ko (ϱ D) (j:Int)=U j:=by
  unfold ko;simp_all
 unfold l6;rw[e];exact h
def CJ(b:Expr):Prop:=∀o i,subscripted b UK o i=operate [o,i] (getItem o i)
def V_(X:Cx)(r:R2):Prop:=
 ∀(c a:Expr) (b:ϖ) (s:UW) (d:St) (H:Hp) (x y:V) (v u:UQ) (Q:VK),b5 X b d H s->bf x v->bf y u->r x y H Q->
  subscripted a UK v u=operate [v,u] (getItem v u)->U6 (Vq X.prog X.w) X.A (subscriptTail c a v u) (EP X b d Q) X.xe s
def MtR(X:Cx)(c:String)(r:a0V):Prop:=
 ∀(a:ϖ) (s:UW) (b:St) (H:Hp) (x:V) (e:ύ) (v:UQ) (D:ό) (Q:VK),b5 X a b H s->bf x v->aG e D->r x e H Q->
  U6 (Vq X.prog X.w) X.A (call (.builtin c)<|v::D) (EP X a b Q) X.xe s
variable{a b:Expr}{C B:TE}
theorem V_.or(h:V_ X r)(b:V_ X k):V_ X (λx y H Q=>r x y H Q\/k x y H Q):=by
 intro c d f s g H x y v u Q I i j q a;obtain q|q:=q
 .exact h c d f s g H x y v u Q I i j q a
 .exact b c d f s g H x y v u Q I i j q a
theorem dD(d:V_ X r)(e:PE X a C)(f:PE X b B)(D:CJ b):PE X (.Subscript a b pos) (tOp r C B):=by
 exact λc s g H Q I h=>Subscript_<|MX e f I h λv u i x y j k l m q=>d a b c i g j x y v u Q k l m q<|D _ _
def uU(K:Vb):R2:=λx y H Q=>∃p a i v,x= .ref p/\y= .int i/\e_ K H p a/\l6 a i=U v/\Q v H
def LJ(K:Vb):R2:=λx y H Q=>∃p a i v,x= .ref p/\y= .int i/\hW K H p a/\l6 a i=U v/\Q v H
theorem b9:V_ X (uU X.K):=by
 intro g k c s n H x y v u Q I B C h e;obtain⟨p,E,i,z,rfl,rfl,F,J,q⟩:=h;cases B;obtain⟨t,rfl⟩:=C;obtain⟨a,r,b,P⟩:=I.list F;obtain⟨j,f,L,R,N,h5⟩:=CG J;obtain⟨w,o,l⟩:=r.get L;have T:=r.length;have G:=m3;have d:EP X c n Q w s:=⟨z,H,I,l,q⟩;by_cases A:0<=i
 .have m:i.toNat=j:=by
   rw[seqIndex_of A h5]at f;exact Vt f
  exact item_listR b.isList A ln (by rw[m];simpa using o) d e
 .have m:(i+(a.toArray.size:Int)).toNat=j:=by
   rw[seqIndex_neg ln N]at f;simp_all
  exact subscriptTail_builtinR b.isList.typeIs slot_list_getitem.lookup
   (wpAny_getItem_list_neg b.isList ln (by rw[Vf]<;>lia) ln (by rw[m];simpa using o) ⟨Z,d⟩) e
theorem R5:V_ X (LJ X.K):=by
 intro d f c s l H x y v u Q I m n h b;obtain⟨p,E,i,z,rfl,rfl,o,A,q⟩:=h;cases m;obtain⟨t,rfl⟩:=n;obtain⟨e,r,a,L⟩:=I.tuple o;obtain⟨j,B,C,N,k,h5⟩:=CG A;obtain⟨w,F,g⟩:=r.get C;have J:=r.length;have G:=m3;exact subscriptTail_builtinR a.typeIs slot_tuple_getitem.lookup
  (getItem_tuple a ln ln (by rw[Vf,<-J];exact B) (by simpa using F) ⟨Z,⟨z,H,I,g,q⟩⟩) b
theorem EI(a:ό)(n j)(u):Wj (·.setIfInBounds j u) {cls:= .type "list",data:= .seq a.toArray n}={cls:= .type "list",data:= .seq (a.set j u).toArray n}:=by
 simp[Wj]
theorem b5.lst{s:UW}{xs:ύ}(I:b5 X aj c H s)(h:H p=U (.lst xs)):
  ∃(a:ό) (n:Nat),aG xs a/\s.heap.get? p=U {cls:= .type lQ,data:= .seq a.toArray n}/\ϱ xs<=Ve:=by
 obtain⟨z,a,n,r,e⟩:=I.hok p _ h;exact⟨a,n,r,e,z⟩
theorem b5.lstUpd{D C}{B a:ό}(I:b5 X aj j H s)(h:H p=U (.lst D))
  (d:s.heap.get? p=U {cls:= .type lQ,data:= .seq B.toArray n}) (c:f {cls:= .type lQ,data:= .seq B.toArray n}={cls:= .type lQ,data:= .seq a.toArray n'}) (r:aG C a) (g:ϱ C<=Ve) (t):
  b5 X aj j (upd H p<|.lst C) {s with heap:=s.heap.update p f,toks:=t}:=by
 have e:(s.heap.update p f).get? p=U {cls:= .type lQ,data:= .seq a.toArray n'}:=by
  rw[XM f d (by rw[c]<;>rfl),c]
 refine I.write (by rw[h];trivial) (.inl Z) (λb u i q=>(Heap.get?_update_other _ _<|Ne.symm i).trans q) ⟨_,e⟩ ?_;exact⟨g,a,n',r,e⟩
def No:V->V->V->Hp->(Hp->Prop)->Prop:=λo i v H Q=>∃p a k j,o= .ref p/\i= .int k/\H p=U (.lst a)/\ko a.length k=U j/\Q (upd H p<|.lst<|a.set j v)
theorem cY:M3 X No:=by
 intro c s C H o i v P R u Q I F J L h;obtain⟨p,b,k,j,rfl,rfl,m,N,q⟩:=h;cases F;obtain⟨t,rfl⟩:=J;obtain⟨a,n,r,f,o8⟩:=I.lst m;obtain⟨d,T,w,y⟩:=vi N;have g:=r.length;have e:=m3;have A:=
  I.lstUpd m f (EI a n j u) (r.set L j) (by rw[VM];exact o8) s.toks
 by_cases B:0<=k
 .have l:k.toNat=j:=by
   rw[seqIndex_of B y]at d;exact Vt d
  exact PySem.W.ki_setAt f B ln (by rw[Vf,<-g];exact y) (by rw[l];exact⟨_,A,q⟩)
 .have l:(k+(a.toArray.size:Int)).toNat=j:=by
   rw[seqIndex_neg ln w]at d;simp_all
  exact PySem.W.ki_setBack f ln (by rw[Vf,<-g];exact w) ln (by rw[l];exact⟨_,A,q⟩)
theorem xR(o7 f5)(n):(YY o7 f5 Y n).1=((HT.sIx n 0 o7:Nat):Int)/\(YY o7 f5 Y n).2.1=((HT.sIx n n f5:Nat):Int)/\(YY o7 f5 Y n).2.2=1:=by
 refine⟨?_,?_,Z⟩
 .cases o7 with
  |none=>simp[YY,HT.sIx]
  |some i=>
   simp only[YY,HT.sIx,Option.getD_none];by_cases h:i<0
   .simp only[h]<;>grind
   .simp only[h]<;>grind
 .cases f5 with
  |none=>simp[YY,HT.sIx]
  |some i=>
   simp only[YY,HT.sIx,Option.getD_none];by_cases h:i<0
   .simp only[h]<;>lia
   .simp only[h]<;>lia
theorem wG(a:ό)(o7 f5):slicePick a.toArray o7 f5 Y=((a.drop<|HT.sIx (ϱ a) 0 o7).take<|HT.sIx (ϱ a) (ϱ a) f5-HT.sIx (ϱ a) 0 o7).toArray:=by
 obtain⟨c,d,f⟩:=xR o7 f5 _;unfold slicePick;rw[c,d,f];rw[sliceRange_one,pick_run]<;>rfl
def rSlL(K:Vb):V->ϛ->ϛ->Hp->VK->Prop:=λx o7 f5 H Q=>∃a b,x= .ref a/\e_ K H a b/\∀p,H p=Y->Q (.ref p) (upd H p<|.lst<|lq b o7 f5)
theorem zY:SlR X (rSlL X.K):=by
 intro d s k H x v l m o7 f5 G Q I g B C i h;obtain⟨a,e,rfl,D,q⟩:=h;cases g;obtain⟨E,r,f,j⟩:=I.list D;have c:=r.length;refine⟨lQ,_,slot_list_getitem.lookup,f.isList.typeIs,wpAny_getItem_list_slice f.isList B C i .none rc ?_ (by rw[Vf]<;>lia)⟩
 rw[wG,<-c];refine⟨.ref _,_,I.laid (λb n q=>UH _ q) (UV _) ?_,Z,q _<|I.hok.fresh<|UV _⟩;exact⟨U1 (rA e o7 f5) j,_,0,(r.drop<|HT.sIx _ 0 o7).take<|HT.sIx _ _ f5-HT.sIx _ 0 o7,U7 _ Z⟩
noncomputable def jk:V->Bool
 | .non=>O
 | .bl _=>O
 | .int _=>O
 | .str _=>O
 |_=>UK
noncomputable def eqV:V->V->Bool
 | .non,.non=>O
 | .bl a,.bl b=>a==b
 | .bl a,.int b=>(if a then 1 else 0)==b
 | .int a,.bl b=>a==(if b then 1 else 0)
 | .int a,.int b=>a==b
 | .str a,.str b=>a==b
 |_,_=>UK
theorem Ss(d:bf y u)(c:bf x v)(g:jk y=O)(f:jk x=O):WF A s u v (eqV y x):=by
 cases y with
 |non=>
  cases d;cases x with
  |non=>cases c;exact WF.same _
  |bl b=>cases c;exact WF.none_bool b
  |int b=>obtain⟨t,rfl⟩:=c;exact WF.none_int b t
  |str b=>obtain⟨t,rfl⟩:=c;exact WF.none_str b t
  |_=>exact Vl (show UK=O from f) UX
 |bl a=>
  cases d;cases x with
  |non=>cases c;exact WF.bool_none a
  |bl b=>cases c;exact WF.bool_bool a b
  |int b=>obtain⟨t,rfl⟩:=c;exact WF.bool_int a b t
  |str b=>obtain⟨t,rfl⟩:=c;exact WF.bool_str a b t
  |_=>exact Vl (show UK=O from f) UX
 |int a=>
  obtain⟨e,rfl⟩:=d;cases x with
  |non=>cases c;exact WF.int_none a e
  |bl b=>cases c;exact WF.int_bool a e b
  |int b=>obtain⟨t,rfl⟩:=c;exact WF.int_int a e b t
  |str b=>obtain⟨t,rfl⟩:=c;exact WF.int_str a e b t
  |_=>exact Vl (show UK=O from f) UX
 |str a=>
  obtain⟨e,rfl⟩:=d;cases x with
  |non=>cases c;exact WF.str_none a e
  |bl b=>cases c;exact WF.str_bool a e b
  |int b=>obtain⟨t,rfl⟩:=c;exact WF.str_int a e b t
  |str b=>obtain⟨t,rfl⟩:=c;exact WF.str_str a e b t
  |_=>exact Vl (show UK=O from f) UX
 |_=>exact Vl (show UK=O from g) UX
def x_(x:V)(u:UQ):Bool:=match u with
 | .none=>eqV .non x
 | .bool b=>eqV (.bl b) x
 | .int i _=>eqV (.int i) x
 | .str z _=>eqV (.str z) x
 |_=>UK
theorem KO(r:bf y u)(f:jk y=O):x_ x u=eqV y x:=by
 cases y with
 |non=>cases r;rfl
 |bl b=>cases r;rfl
 |int i=>obtain⟨t,rfl⟩:=r;rfl
 |str z=>obtain⟨t,rfl⟩:=r;rfl
 |_=>exact Vl (show UK=O from f) UX
theorem nc:∀{a:ύ} {b:ό},aG a b->a.all jk=O->b.any (x_ x)=a.any λy=>eqV y x
 |_,_,.nil,_=>rfl
 |y::a,u::b,.cons r t,f=>by
  rw[List.all_cons,Vu]at f;rw[Zz,Zz,KO r f.1,nc t f.2]
theorem k9(c:bf x v)(d:jk x=O):∀{a:ύ} {b:ό},aG a b->a.all jk=O->∀u∈b,WF A s u v<|x_ x u
 |_,_,.nil,_=>λu hu=>by cases hu
 |y::a,u::b,.cons r t,f=>λg hu=>by
  rw[List.all_cons,Vu]at f;obtain rfl|hu:=U4.mp hu
  .rw[KO r f.1];exact Ss r c f.1 d
  .exact k9 c d t f.2 g hu
def inV(x:V)(a:ύ):Bool:=a.any λy=>eqV y x
def rIn(K:Vb)(b:Bool):R2:=λx y H Q=>∃p a,y= .ref p/\(e_ K H p a\/hW K H p a)/\jk x=O/\a.all jk=O/\Q (.bl (if b then !inV x a else inV x a)) H
theorem fi:g8 X (We .In) (rIn X.K UK):=by
 intro d s k H x y v u Q I f i h;obtain⟨p,b,rfl,hq,g,a,q⟩:=h;cases i;obtain hq|hq:=hq
 .obtain⟨its,r,pl,j⟩:=I.list hq
  refine SeqAt.in_listAt _ pl.isList (λw c=>k9 f g r a w<|by simpa using c) ⟨.bl _,H,I,Z,?_⟩;rw[show its.toArray.any _=its.any (x_ x) by simp,nc r a];exact q
 .obtain⟨its,r,pl,j⟩:=I.tuple hq
  refine SeqAt.in_tupleAt _ pl (λw c=>k9 f g r a w<|by simpa using c) ⟨.bl _,H,I,Z,?_⟩;rw[show its.toArray.any _=its.any (x_ x) by simp,nc r a];exact q
theorem kY:g8 X (We .NotIn) (rIn X.K O):=by
 intro d s k H x y v u Q I f i h;obtain⟨p,b,rfl,hq,g,a,q⟩:=h;cases i;obtain hq|hq:=hq
 .obtain⟨its,r,pl,j⟩:=I.list hq
  refine SeqAt.notIn_listAt _ pl.isList (λw c=>k9 f g r a w<|by simpa using c) ⟨.bl _,H,I,Z,?_⟩;rw[show its.toArray.any _=its.any (x_ x) by simp,nc r a];exact q
 .obtain⟨its,r,pl,j⟩:=I.tuple hq
  refine SeqAt.notIn_tupleAt _ pl (λw c=>k9 f g r a w<|by simpa using c) ⟨.bl _,H,I,Z,?_⟩;rw[show its.toArray.any _=its.any (x_ x) by simp,nc r a];exact q
theorem qa:cT X (.builtin "len") (λb H Q=>∃p a,b=[.ref p]/\(e_ X.K H p a\/hW X.K H p a)/\Q (.int a.length) H):=by
 intro f s j H b e Q I r h;obtain⟨p,a,rfl,hq,q⟩:=h;obtain⟨u,rfl,g⟩:=gR r;cases g;have B:=m3;obtain hq|hq:=hq
 .obtain⟨its,d,pl,i⟩:=I.list hq
  have c:=d.length;exact Calls.call_len_list pl.isList (by rw[Vf]<;>lia) ⟨.int _,H,I.tok _,⟨s.toks+1,by rw[Vf,c]⟩,q⟩
 .obtain⟨its,d,pl,i⟩:=I.tuple hq
  have c:=d.length;exact len_tuple pl (by rw[Vf]<;>lia) ⟨.int _,H,I.tok _,⟨s.toks+1,by rw[Vf,c]⟩,q⟩
theorem bT:cT X (.type lQ) (λG H Q=>∃p C,G=[.ref p]/\(e_ X.K H p C\/hW X.K H p C)/\∀l,H l=Y->Q (.ref l) (upd H l<|.lst C)):=by
 intro f s v H G M Q I r h;obtain⟨p,C,rfl,hq,q⟩:=h;obtain⟨u,rfl,y⟩:=gR r;cases y
 have g:∀(a:ό),aG C a->C.length<=Ve->∀(B:V0) (c:Nat),(∀b t,s.heap.get? b=U t->B.get? b=U t)->
   B.get? _=U {cls:= .type lQ,dict:=Y,data:= .seq _ c,slots:=#[]}->EP X f v Q _ {s with heap:=B}:=λa d i B c D e=>
  ⟨.ref _,_,I.laid D (UV _) (show cm _ _ _ B _ (.lst C)from⟨i,a,c,d,e⟩),Z,q _<|I.hok.fresh<|UV _⟩
 obtain hq|hq:=hq
 .obtain⟨a,d,pl,i⟩:=I.list hq
  have j:=d.length;obtain⟨o,k,m,n,E⟩:=pl.isList;exact call_list_seq p (.inl Z) k m E (λB c D e=>g a d i B c D e) (by rw[Vf]<;>lia)
 .obtain⟨a,d,pl,i⟩:=I.tuple hq
  have j:=d.length;obtain⟨o,k,m,n,E⟩:=pl;exact call_list_seq p (.inr Z) k m E (λB c D e=>g a d i B c D e) (by rw[Vf]<;>lia)
theorem dC:cT X (.type lP) (λC H Q=>∃p a,C=[.ref p]/\((e_ X.K H p a/\∀l,H l=Y->Q (.ref l) (upd H l<|.tup a))\/(hW X.K H p a/\Q (.ref p) H))):=by
 intro c s g H C E Q I r h;obtain⟨p,a,rfl,h⟩:=h;obtain⟨u,rfl,m⟩:=gR r;cases m;obtain⟨d,q⟩|⟨d,q⟩:=h
 .obtain⟨its,f,pl,i⟩:=I.list d
  have j:=f.length;refine call_tuple_list pl.isList (λB D=>?_) (by rw[Vf]<;>lia)
  have k:=I.kept (t':=s.toks) D;have n:=
   k.laid (t':=s.toks) (λb o e=>UH _ e) (UV _) (show cm _ _ _ _ _ (.tup a)from⟨i,its,f,IsTup.new _ _⟩)
  exact⟨.ref _,_,n,Z,q _<|k.hok.fresh<|UV _⟩
 .obtain⟨its,f,pl,i⟩:=I.tuple d
  exact call_tuple_same pl ⟨.ref p,H,I,Z,q⟩
def tyV(K:Vb)(T:String)(x:V)(H:Hp):Prop:=match x with
 | .str _=>T=AA
 | .int _=>T=O'
 | .ref p=>(T=lQ/\∃a,e_ K H p a)\/(T=lP/\∃o,K.lookup p=U o/\o.cls= .type lP/\o.dict=Y)
 |_=>False
theorem P0(I:b5 X aj j H s)(r:bf x v)(b:tyV X.K T x H):
  s.TypeIs v T/\∀a,v= .ref a->∃d,s.heap.get? a=U d/\d.dict=Y:=by
 cases x with
 |str z=>
  obtain⟨t,rfl⟩:=r;cases(show T=AA from b);exact⟨typeIs_str s z t,λ_ e=>nomatch e⟩
 |int i=>
  obtain⟨t,rfl⟩:=r;cases(show T=O' from b);exact⟨typeIs_int s i t,λ_ e=>nomatch e⟩
 |ref p=>
  cases r;obtain⟨rfl,C,g⟩|⟨rfl,o,f,h,B⟩:=b
  .obtain⟨its,_,pl,_⟩:=I.list g
   refine⟨pl.isList.typeIs,λa e=>?_⟩;cases e;obtain⟨o,n,e,c,B,_⟩:=pl;exact⟨o,e,B⟩
  .refine⟨⟨o,I.kIn p o f,h⟩,λa e=>?_⟩
   cases e;exact⟨o,I.kIn _ o f,B⟩
 |_=>exact XH b
def tBM(K:Vb)(T:String)(r:a0V)(a:TE)(t:TA):TE:=λc H Q=>a c H λx d=>tyV K T x d/\t c d λb f=>r x b f Q
variable{o:Expr}{J:List Expr}{N:TE}{t:TA}{b:VF}{z a:Ye}{T L:String}{r:a0V}
theorem jh(n:PlainAttrs T)(D:Slot T b L)(j:typeOf (.builtin L)=W2 (.type "method_descriptor"))(G:MtR X L r)(p:PE X o N)(M:PA X (e::J) t)
  (f:autoParam (Zd o b X.env (Wa o X.env)=Wa o X.env) z6)
  (i:autoParam (((Xm a<|U8 (e::J) X.env).all (λx=>!x.1)&&(YB a<|Xg [] X.env).all (λx=>x.1.isSome)
   &&decide (ϱ (e::J)+ϱ ([]:List Keyword)+(if([]:List Keyword).isEmpty then 0 else 1)<30))=O) z6)
  (g:autoParam ((z.endLine==a.line)=O) z6) (S:autoParam (Ϛ X e J) z6) (d:autoParam (ϣ X a J) z6):
  PE X (.Call (.Attribute o b z) (e::J) [] a) (tBM X.K T r N t):=by
 refine λc s k H Q I h=>wpAny_Call_method_late f i g Z<|dv (p c s k H _ I h) λv q R=>?_;obtain⟨x,u,l,E,V,o7⟩:=R;obtain⟨w,y⟩:=P0 l E V;refine⟨T,L,n,D,j,w,y,?_⟩;have m:=M a c q k u _ l o7;rw[S]at m⊢;refine PySem.Calls.callWith_builtin (by show(UK||(Xm a _).any _)=UK;rw[d]<;>rfl) (Calls.evalArgs_plain ?_)
 exact dv m λf5 A W=>by obtain⟨o8,B,C,F,P⟩:=W;exact G c A k B x o8 v f5 Q C E F P
def MtM(X:Cx)(L:String)(r:a0V):Prop:=
 ∀(c:ϖ) (s:UW) (d:St) (H:Hp) (x:V) (a:ύ) (v:UQ) (b:ό) (Q:VK),b5 X c d H s->bf x v->aG a b->r x a H Q->
  U6 (Vq X.prog X.w) X.A (call (.builtin L)<|v::b) (EP X c d Q) X.xe s
theorem aG.one:∀{x:V} {a:ό},aG [x] a->∃u,a=[u]/\bf x u
 |_,_,.cons r .nil=>⟨_,Z,r⟩
theorem aG.eraseIdx:∀{xs:ύ} {a:ό} (i:Nat),aG xs a->aG (xs.eraseIdx i) (a.eraseIdx i)
 |_,_,_,.nil=> .nil
 |_,_,0,.cons _ t=>t
 |_,_,i+1,.cons r t=> .cons r<|aG.eraseIdx i t
theorem aG.reverse{a}{b}(h:aG a b):aG a.reverse b.reverse:=by
 induction h with
 |nil=>exact .nil
 |cons r t e=>rw[List.reverse_cons,List.reverse_cons];exact aG.append e<|.cons r .nil
theorem aG.rep(h:aG c d):∀k:Nat,aG (Vn k c).flatten (Vn k d).flatten
 |0=> .nil
 |k+1=>by
  rw[Wm,Wm,XW,XW];exact aG.append h<|aG.rep h k
theorem wb{a}:∀(l:List a) (i:Nat),ϱ (l.eraseIdx i)<=ϱ l
 |[],_=>UV _
 |_::_,0=>ZM _
 |_::r,i+1=>ZD<|wb r i
theorem wk(a):∀(k:Nat) (b:ό),
  List.foldl (λc d=>c++d) b.toArray (Vn k a.toArray)=(b++(Vn k a).flatten).toArray
 |0,b=>by simp
 |k+1,b=>by
  have e:b.toArray++a.toArray=(b++a).toArray:=by simp
  have f:(b++a)++(Vn k a).flatten=b++(Vn (k+1) a).flatten:=by
   rw[Wm,XW,V5]
  rw[<-f,<-wk a k _,<-e,Wm,List.foldl_cons]
end
section
variable{X:Cx}{W:ϖ}{R:St}{H:Hp}{s:UW}{l b:UM}{xs ys B:ύ}
theorem b5.lset{b its':ό}(I:b5 X W R H s)(a:H l=U (.lst xs))
  (e:s.heap.get? l=U {cls:= .type lQ,data:= .seq b.toArray n}) (c:f b.toArray=its'.toArray) (d:aG ys its') (g:ϱ ys<=Ve):
  b5 X W R (upd H l<|.lst ys) {s with heap:=s.heap.update l<|Wj f,toks:=k}:=by
 have q:=PySem.IsL.update e f;rw[c]at q;refine I.write (by rw[a];exact trivial) (.inl Z) (λj u h i=>(Heap.get?_update_other _ _<|Ne.symm h).trans i) ⟨_,q⟩ ?_;exact⟨g,its',_,d,q⟩
theorem b5.lnew{its}(I:b5 X W R H s)(a:aG ys its)(c:ϱ ys<=Ve):
  b5 X W R (upd H s.heap.objs.size<|.lst ys) {s with heap:=s.heap.push {cls:= .type lQ,data:= .seq its.toArray},toks:=t'}:=
 I.laid (λ_ _ q=>UH _ q) (UV _) ⟨c,its,0,a,U7 _ Z⟩
theorem b5.fresh(I:b5 X W R H s):H s.heap.objs.size=Y:=I.hok.fresh<|UV _
theorem b5.lstM(I:b5 X W R H s)(a:H l=U (.lst xs)):xs.length<=Ve/\∃(b:ό) (n:Nat),aG xs b/\xs.length=b.length/\s.heap.get? l=U {cls:= .type lQ,data:= .seq b.toArray n}:=by
 obtain⟨z,b,n,r,e⟩:=I.hok l _ a;exact⟨z,b,n,r,r.length,e⟩
theorem L7(h:n<=Ve):ZN n=UK:=by
 unfold ZN;simp_all
def uW:V->ύ->Hp->VK->Prop:=λx b H Q=>∃l xs y,x= .ref l/\b=[y]/\H l=U (.lst xs)/\xs.length<Ve/\Q .non (upd H l<|.lst<|xs++[y])
theorem eA:MtM X "list.append" uW:=by
 intro W s R H x B v D Q I c d h;obtain⟨l,xs,y,rfl,rfl,a,g,q⟩:=h;cases c;obtain⟨u,rfl,f⟩:=d.one;obtain⟨z,b,n,r,i,e⟩:=I.lstM a;refine call_meets F.slot_list_append ⟨_,e,Z⟩ F.entry_list_append (F.args_list_append_2 _ _) (PySem.list_append l _ n u<|by rw[Vf];lia) ⟨e,⟨.non,_,I.lset a e rc (r.append<|.cons f .nil) ?_,Z,q⟩⟩;rw[Va,VX];lia
def II:V->ύ->Hp->VK->Prop:=λx b H Q=>∃l xs i k y,x= .ref l/\b=[.int i]/\H l=U (.lst xs)/\-(2^63)<=i/\i<2^63/\seqIndex? i xs.length=U k/\xs[k]?=U y/\Q y (upd H l<|.lst<|xs.eraseIdx k)
theorem Mc:MtM X "list.pop" II:=by
 intro W s R H x D v E Q I d f h;obtain⟨l,xs,i,k,y,rfl,rfl,c,g,j,m,B,q⟩:=h;cases d;obtain⟨u,rfl,o⟩:=f.one;obtain⟨t,rfl⟩:=o;obtain⟨z,b,n,r,p,e⟩:=I.lstM c;obtain⟨w,A,a⟩:=r.get B;refine call_meets F.slot_list_pop ⟨_,e,Z⟩ F.entry_list_pop (F.args_list_pop_2 _ _)
  (MeetsSeq.list_pop_at l _ n i t k w (fitsIndex_both g j) (by rw[Vf,<-p];exact m) (by rw[<-XI];exact A)<|by rw[Vf];lia) ⟨e,?_⟩
 refine⟨y,_,I.lset c e ?_ (r.eraseIdx k) ?_,a,q⟩
 .show b.toArray.eraseIdxIfInBounds k=(b.eraseIdx k).toArray
  simp
 .have:=wb xs k
  lia
noncomputable def rCat:R2:=λx y H Q=>∃l b xs B,x= .ref l/\y= .ref b/\H l=U (.lst xs)/\H b=U (.lst B)/\xs.length+B.length<=Ve/\∀p,H p=Y->Q (.ref p) (upd H p<|.lst<|xs++B)
theorem Q7:g8 X (XU .Add) rCat:=by
 intro W s R H x y v u Q I c d h;obtain⟨l,b,xs,B,rfl,rfl,f,hB,m,q⟩:=h;cases c;cases d;obtain⟨z,D,n,r,o,e⟩:=I.lstM f;obtain⟨p,a,t,g,i,j⟩:=I.lstM hB;refine PySem.P.add_list e j ?_ (by rw[Vf,Vf];lia);have k:D.toArray++a.toArray=(D++a).toArray:=by simp
 rw[k];exact⟨.ref _,_,I.lnew (r.append g) (by rw[Va];omega),Z,q _ I.fresh⟩
noncomputable def rRep:R2:=λx y H Q=>∃l k xs,x= .ref l/\y= .int k/\H l=U (.lst xs)/\-(2^63)<=k/\k<2^63/\xs.length*k.toNat<=Ve/\
 ∀p,H p=Y->Q (.ref p) (upd H p<|.lst (Vn k.toNat xs).flatten)
theorem Pc{b}(xs:List b)(k):(Vn k xs).flatten.length=k*ϱ xs:=by
 simp_all
theorem Q2:g8 X (XU .Mult) rRep:=by
 intro W s R H x y v u Q I w A h;obtain⟨l,k,xs,rfl,rfl,B,C,J,p,q⟩:=h;cases w;obtain⟨t,rfl⟩:=A;obtain⟨z,b,n,r,L,e⟩:=I.lstM B;have d:b.toArray.size*k.toNat<=Ve:=by rw[Vf,<-L];exact p
 have f:¬b.toArray.size*k.toNat>(2^63-1)/8:=by
  have:(Ve:Nat)<=(2^63-1)/8:=by decide
  lia
 have g:¬(!Builtin.List.listFitsIndex k)=O:=by
  rw[fitsIndex_both C J];exact UX
 have c:¬ZN (b.toArray.size*k.toNat)=O:=by
  rw[L7 d];exact UX
 have i:List.foldl (λj o=>j++o) #[] (Vn (if b.toArray.isEmpty=O then 0 else k.toNat) b.toArray)=(Vn k.toNat b).flatten.toArray:=by
  have N:=λm=>by
   have:=wk b m [];rw[WH]at this;exact this
  rw[N];cases b with
  |nil=>simp
  |cons a P=>rw[UU rc]
 refine wpAny_binaryOp_repeat_ref rb ⟨_,e,Z⟩ (λD=>typeIs_int D k t) noFill_list_mul F.fills_int_mul F.slot_int_rmul repeat_list F.slot_int_index.lookup
  (call_meets F.slot_int_rmul (typeIs_int s k t) F.entry_int_rmul (F.args_int_rmul_2 _ _) (int___rmul___int_list k t l _ n)
   ⟨e,Z,⟨_,e,Z⟩,call_meets F.slot_list_mul ⟨_,e,Z⟩ F.entry_list_mul (F.args_list_mul_2 _ _) (AutoListH.list___mul___list_int_3 l _ n k t g f c) ⟨e,?_⟩⟩)
 rw[i];exact⟨.ref _,_,I.lnew (r.rep _) (by rw[Pc,XA];exact p),Z,q _ I.fresh⟩
variable{a:Vw}{w:VC}{A:V3}{E:ϕ}
end
end L2
namespace Att
open PySem.W PySem.Calls
theorem um:∀(D:ώ) (E:ό),WellAll P h E (D.map WData.int)->Zy E D:=by
 intro D
 induction D with
 |nil=>
  intro E w;cases w;exact .nil
 |cons n D G=>
  intro E w;cases w with
  |cons a b=>
   cases a;exact .cons _ _<|G _ b
theorem HM{l:OpenLaw}(G:l.most=U n)
  (b:l.row.toRowW.claim.pre args=O) (f:WellAll P h vals args):
  ∃a E D,vals=[Vh a]/\args=[WData.list<|D.map WData.int]/\h.get? a=U {cls:= .type "list",data:= .seq E.toArray}/\Zy E D/\ϱ D<=n:=by
 have g:l.pre.holds [] {args:=args}=O:=(pre_splitW b).2;obtain⟨d,r,rfl,i,j⟩:=hasAllW_cons ((pre_splitW b).1);obtain rfl:=hasAllW_nil j;obtain⟨K,rfl,k⟩:=hasW_list i;obtain⟨D,rfl⟩:=items_int k;have c:ϱ D<=n:=by
  unfold OpenLaw.pre at g;have e:(WTm.not<|.lt (.lit<|.int (n:Int))<|.len<|.arg 0).holds [] {args:=[.list<|D.map .int]}=O:=by
   have e:=(holds_andW g).1;rw[G]at e;exact e
  have h5:=condW_of e<|w_not<|w_lt w_lit<|w_len_list<|w_arg Z;rw[UD]at h5;refine Nat.le_of_not_lt λq=>?_;have m:(n:Int)<((ϱ D:Nat):Int):=by omega
  simp_all
 cases f with
 |cons o p=>
  cases p;cases o with
  |list ho hall=>exact⟨_,_,D,Z,Z,ho,um D _ hall,c⟩
theorem IO(l:OpenLaw)(args):l.row.toRowW.claim.post args (.bool O) args=O:=
 postW_of
  (show WShape.has [] _ _=O by first|rfl|decide|simp[WShape.has])
  (show(WTm.eq _<|.lit<|.bool O).value [] {args:=args,res:=U<|.bool O,after:=args}=U (.bool<|O==O)from w_eq_bool (w_res Z) w_lit) Z
theorem attach_call{l:OpenLaw}
  (Q:l.most=U n) (k:d.params.defaults=[])
  (K:∀(w:VC) (D b:UW) (M m:ϙ) (g:UM) (o:Wd) (p S c:UQ) (a:UM) (E:ό) (V:ώ),
   Ground q loose [] XP w D M m b.heap->YP w b.heap->
   b.heap.get? g=U o->o.data= .func (docDef d.name d.params d.body d.scope p S c)->b.heap.CodeRec S d.name->M d.name=U (.ref g)->
   b.heap.get? a=U {cls:= .type lQ,data:= .seq E.toArray}->Zy E V->ϱ V<=n->b.gens=#[]->
   Zi (Vq l.prog w) callerA (.call (.ref g) ⟨[.ref a],[]⟩) (λr s=>r= .ok (.ret<|.bool O)/\OldK b.heap s.heap/\s.os=b.os/\AllBare s.gens) b):
  WalkO q loose XP YP l.row.toRowW d [] (λf E=>PySem.call f E):=by
 intro w D b M m G X g o p S c B C F R t y u H x z W h A I v J;obtain rfl:B= .none:=Dflts.none y k;obtain rfl:C= .none:=Dflts.noKw y;obtain⟨a,E,V,rfl,rfl,i,e,j⟩:=HM Q h v;refine enter_call<|codeAny_mono (K w D b M m g o p S c a E V G X F (fd_plain R) t u i e j H) λr s L=>?_;obtain⟨rfl,N,f5,P⟩:=L;exact⟨.inl ⟨.bool O,.bool O,[],Z,λ_=>Z,.bool O,IO l _,λ_=>⟨List.Pairwise.nil,λ_ T=>(nomatch T)⟩⟩,N,f5,P⟩
section
variable{a:Vw}{w:VC}{A:V3}{E:ϕ}{s:UW}{K:Vb}
end
end Att
namespace L2
theorem vG:∀{D:ό} {E:ώ},Zy D E->aG (E.map V.int) D
 |_,_,.nil=> .nil
 |_,_,.cons n t h=> .cons ⟨t,Z⟩<|vG h
def M4(H:Hp):Prop:=∀b,H b=Y\/∃o D,H b=U (.frz o<|.lst D)
theorem Mu{K}
  (R:K.In c.heap) (p:c.heap.Ns Xh mg) (g:c.heap.Ns builtinsNs mb) (I:∀x:VF,x≠"__name__"->mb x=Yx x) (t:c.heap.NoLimit) (hg:c.gens=#[])
  (ha:c.heap.get? a=U {cls:= .type "list",data:= .seq G.toArray}) (T:Zy G M) (o7:M.length<=Ve) (hr:d4 k callerA)
  (F:∀D:V0,K.In D->D.Ns Xh mg->fw P w K mg D CX k fa fd [x] sp) (l:∀(s:UW) (u:UQ),BindsTo s fd ⟨[u],[]⟩ [(x,u)])
  (J:∀H:Hp,M4 H->e_ K H a (M.map V.int)->sp [.ref a] H (λv _=>v= .bl O) λ_ _ _=>False)
  (L:∀H e E,CX [] H c (λ_ _ _=>False) e E->False):
  Zi (Vq P w) callerA (.call (.ref fa) ⟨[.ref a],[]⟩) (λr E=>r= .ok (.ret<|.bool O)/\OldK c.heap E.heap/\E.os=c.os/\AllBare E.gens) c:=by
 have W:=vG T;have y:=T.length
 --from an abstract heap in which nothing but the script may be tracked
 have j:∀H:Hp,M4 H->e_ K H a (M.map V.int)->lr P w H c.heap->(∀b,H b≠Y->b=a)->(H a≠Y->K.lookup a=Y)->
   Zi (Vq P w) callerA (.call (.ref fa) ⟨[.ref a],[]⟩) (λr E=>r= .ok (.ret<|.bool O)/\OldK c.heap E.heap/\E.os=c.os/\AllBare E.gens) c:=by
  intro H X hS S o8 hK;have f:∀{b:UM} {o:Wd},c.heap.get? b=U o->H b=Y->(oo c.heap H).get? b=U o:=λe n=>ME e n;have N:∀{b:UM} {o:Wd} {es:Array XN} {ep:Nat},c.heap.get? b=U o->o.data= .dict es ep->H b=Y:=λ{b o es ep} e d=>by
   cases q:H b with
   |none=>rfl
   |some u=>
    have o9:=o8 b (by rw[q];simp);subst o9;rw[ha]at e;cases e;simp_all
  have i:∀{b:UM} {m:ϙ},c.heap.Ns b m->(oo c.heap H).Ns b m:=λ{b m} ⟨o,es,ep,e,d,r⟩=>⟨o,es,ep,f e<|N e d,d,r⟩;have A:=λb o e=>f (R b o e) (by
   cases q:H b with
   |none=>rfl
   |some u=>
    have o9:=o8 b (by rw[q];simp);subst o9;simp_all)
  have hM:Mod K mg _:=⟨A,i p,⟨mb,i g,I⟩,let ⟨mc,h1,h2⟩:=t;⟨mc,i h1,h2⟩⟩
  refine PySem.codeAny_mono ((F _ A<|i p).run callerA [] c H ⟨[.ref a],[]⟩ [.ref a] [.ref a] _ _ hr (⟨Z,hM,λb o e=>OW e,Nat.le_of_eq<|PySem.W.hideAll_size _ _,trivial,λb g=>Vl (show b∈([]:ϗ)from g) rc,S,.of_eq hg⟩) (l c<|.ref a) (.cons Z .nil)<|J H X hS) λr E h=>?_;cases r with
  |error e=>exact(L H e E h).elim
  |ok fl=>
   cases fl with
   |next=>exact XH h
   |brk=>exact XH h
   |cont=>exact XH h
   |ret u=>
    obtain⟨v,H',os,aa,un,B,r',q⟩:=h;have q':=q;subst q';obtain rfl:u=Y2 O:=r';refine⟨Z,OldK.of_keep λb o e=>?_,os,aa⟩;cases q:H b with
    |none=>exact un.keep b o e q (λz=>Vl (show b∈([]:ϗ)from z) rc) rc
    |some u=>
     obtain z|⟨ob,xs,z⟩:=X b
     .rw[q]at z;cases z
     .have z2:=un.frzs b ob _ z
      obtain⟨f5,_⟩:=S b _ z;obtain⟨e2,_⟩:=B b _ z2;simp_all
 cases Q:K.lookup a with
 |some o=>
  --the script is one of the module's own objects
  have e:=R a o Q;rw[ha]at e;cases e;refine j _ (λ_=> .inl Z) (.inr ⟨_,G.toArray,_,Q,Z,Z,Z,by rw[Vf,y];exact o7,by exact W⟩) (λb u z=>by have C:=z;cases C) (λb z=>Vl Z z) λz=>Vl Z z
 |none=>
  refine j (λb=>if b=a then U (.frz {cls:= .type "list",data:= .seq _} _)else Y) (λb=>?_) (.inl<|.inr ⟨{cls:= .type "list",data:= .seq G.toArray},US Z⟩) (λb u z=>?_) (λb z=>?_) λ_=>Q
  .by_cases g:b=a
   .exact .inr ⟨_,_,US g⟩
   .exact .inl (UU g)
  .by_cases g:b=a
   .have C:=(US g).symm.trans z
    cases C;subst g;exact⟨ha,by rw[UD];exact o7,G,_,W,ha⟩
   .have C:=(UU g).symm.trans z
    cases C
  .by_cases g:b=a
   .exact g
   .exact Vl (UU g) z
theorem walk_of{l:PySem.W.OpenLaw}{n k}{q}{E:ϒ}{XP:(VF->Option UQ)->V0->Prop}{YP:VC->V0->Prop}{d}{K:Params->Vb}{CX:VC->O2}{sp:VC->Sp}{x}
  (hn:l.most=U n) (r:n<=Ve) (t:d.params.defaults=[]) (J:d4 k callerA)
  (L:∀(w:VC) (h:V0),YP w h->(K w.params).In h)
  (F:∀(w:VC) (M:ϙ) (p:UM) (h:V0),(K w.params).In h->h.Ns Xh M->M d.name=U (.ref p)->
   ∃B:U9,(∀(s:UW) (u:UQ),BindsTo s B ⟨[u],[]⟩ [(x,u)])/\
    ∀D:V0,(K w.params).In D->D.Ns Xh M->fw l.prog w (K w.params) M D (CX w) k p B [x] (sp w))
  (y:∀(w:VC) (H:Hp) (a:UM) (S:ώ),ϱ S<=n->M4 H->e_ (K w.params) H a (S.map V.int)->sp w [.ref a] H (λv _=>v= .bl O) λ_ _ _=>False)
  (A:∀(w:VC) (H:Hp) (s:UW) (e:UQ) (z:UW),CX w [] H s (λ_ _ _=>False) e z->False):
  PySem.W.WalkO q E XP YP l.row.toRowW d [] (λf vs=>PySem.call f vs):=by
 refine Att.attach_call hn t λw aa j M X p o f5 cd N a vs S G o8 ho hd o9 C m i c P=>?_;have I:=L w _ o8;obtain⟨B,Q,hF⟩:=F w M p _ I G.T.g C;exact Mu I G.T.g G.T.b G.T.builtins G.T.nolimit P m i (U1 c r) J hF Q (λH R o7=>y w H a S c R o7) λH e z=>A w H j e z
noncomputable def cc(s:VQ)(j:Nat):VQ:=match s with
 | .ClassDef _ _ _ body _ _ _ _ _ _ _=>body.getD j<|.Pass ⟨0,0,0,0⟩
 |_=> .Pass ⟨0,0,0,0⟩
noncomputable def ku(s:VQ):Arguments:=match s with
 | .FunctionDef _ a _ _ _ _ _ _ _ _=>a
 |_=>{posonlyargs:=[],args:=[],vararg:=Y,kwonlyargs:=[],kw_defaults:=[],kwarg:=Y,defaults:=[]}
noncomputable def c7(s:VQ):a0T:=match s with
 | .FunctionDef _ _ b _ _ _ _ _ _ _=>b
 |_=>[]
noncomputable def ak(s:VQ):Scope:=match s with
 | .FunctionDef _ _ _ _ _ _ sc _ _ _=>sc
 |_=>{kind:= .function,names:=[],isGenerator:=UK,isCoroutine:=UK}
abbrev E0:St->XK:=λ_ _ _ _=>False
structure Fun (K:Vb) (x qual:VF) (st:VQ) (f:UM) (fd:U9):Prop where
 ex:∃(oc:UQ) (od:a0W) (kV doc pm:UQ) (an:a0W) (cdv ct:UQ) (osl:Array<|Option UQ),
  fd=Zb x qual (ku st) (c7 st) (ak st) .none kV doc pm an cdv ct/\K.lookup f=U ⟨oc,od,.func fd,osl⟩/\ZS K cdv qual=O
 kp:keepIn K (.ref f)=O
section
variable{P:Vw}{w:VC}{K:Vb}{b:ϙ}{base:V0}
theorem xj(a:d4 k A):A.units+1<Zp:=VT (Nat.add_le_add_left (by decide:1<=64) _) a.units
theorem vN(h:n<=1000):n<Ve:=VT h rb
variable{X:Cx}
theorem pv(i:Nat){pos:Ye}(b:autoParam (X.N[i]?=U x) z6)(c:Vis X.env.scope x:=by first|exact WU Z|exact XZ (WU Z)|exact XZ (XZ Z))(w:autoParam (ϟ x) z7)
  (a:autoParam ((x==(ς:VF))=UK) z7):PE X (.Name x pos) (iR i):=QT b c w a
theorem iteT{A B:Prop}(h:A):if O=O then A else B:=by
 simp_all
theorem ite2{c A B:Prop} [Decidable c](a:c->A)(b:¬c->B):if c then A else B:=by
 simp_all
def cw(H a:Hp):Prop:=∀b o,H b=U o->a b=U o
theorem cw.refl(H):cw H H:=λ_ _ h=>h
theorem cw.trans(a:cw H H1)(b:cw H1 H2):cw H H2:=λc o h=>b c o<|a c o h
theorem cw.free(e:cw H H')(h:H' l=Option.none):H l=Option.none:=by
 cases q:H l with
 |none=>rfl
 |some o=>
  rw[e l o q]at h;cases h
theorem d6:∀(b:a0N) (n:Nat) (acc:ϝ),WR n b acc=WR n b []++acc:=List.rec (λ_ _=>Z) λ⟨x,k⟩ r h n acc=>by
  unfold WR;split
  .rw[h _<|(x,n)::acc,h _ [(x,n)],V5]
   rfl
  .exact h n _
theorem jT:∀{b:a0N} {n:Nat} {x:VF} {c:UM},(x,c)∈WR n b []->(x,NameKind.cell)∈b
 |[],_,_,_,h=>by cases h
 |(y,k)::r,n,x,c,h=>by
  unfold WR at h;split at h
  .rename_i a
   rw[d6]at h;obtain h|h:=V7.mp h
   .exact UI _ (jT h)
   .obtain⟨rfl,_⟩:x=y/\c=n:=by simpa using h
    simp_all
  .exact UI _ (jT h)
noncomputable def dW(cells:ϝ):a0N->ϝ->ϝ
 |[],acc=>acc
 |(x,k)::r,acc=>if k== .free then dW cells r ((x,(cells.lookup x).getD 0)::acc)else dW cells r acc
theorem ni:∀{b:a0N} {acc:ϝ} {x:VF} {c:UM},(x,c)∈dW cells b acc->(x,c)∈acc\/((x,XO)∈b/\c=(cells.lookup x).getD 0)
 |[],_,_,_,h=> .inl h
 |(y,k)::r,acc,x,c,h=>by
  unfold dW at h;split at h
  .rename_i a
   obtain rfl:k= .free:=by simpa using a
   obtain h|⟨h,e⟩:=ni h
   .obtain h|h:=U4.mp h
    .cases h
     exact .inr ⟨UP,Z⟩
    .exact .inl h
   .exact .inr ⟨UI _ h,e⟩
  .obtain h|⟨h,e⟩:=ni h
   .exact .inl h
   .exact .inr ⟨UI _ h,e⟩
theorem sB:∀{b:a0N} {w:ϝ} {p:VF×UM},p∈w->p∈dW cells b w
 |[],_,_,h=>h
 |(y,k)::r,w,p,h=>by
  unfold dW;split
  .exact sB (UI _ h)
  .exact sB h
theorem sy:∀{b:a0N} {acc:ϝ} {x:VF},(x,XO)∈b->(x,(cells.lookup x).getD 0)∈dW cells b acc
 |[],_,_,h=>by cases h
 |(y,k)::r,acc,x,h=>by
  unfold dW;obtain h|h:=U4.mp h
  .cases h
   rw[US rb];exact sB UP
  .split
   .exact sy h
   .exact sy h
theorem oM{b}:∀{l:List (VF×b)} {x:VF} {c:b},(x,c)∈l->∃d,l.lookup x=U d
 |[],_,_,h=>by cases h
 |(y,d)::r,x,c,h=>by
  rw[List.lookup_cons];cases a:x==y with
  |true=>exact⟨d,Z⟩
  |false=>
   obtain h|h:=U4.mp h
   .cases h
    simp_all
   .exact oM h
theorem dR{w}:∀{l:List (VF×w)} {x:VF} {c:w},(l.map (·.1)).Nodup->(x,c)∈l->l.lookup x=U c
 |[],_,_,_,h=>by cases h
 |(y,d)::r,x,c,nd,h=>by
  rw[UZ]at nd;obtain⟨a,b⟩:=V2.mp nd;rw[List.lookup_cons];obtain h|h:=U4.mp h
  .cases h
   simp
  .have:x≠y:=λe=>a<|e▸List.mem_map_of_mem (f:=(·.1)) h
   rw[beq_eq_false_iff_ne.mpr this];exact dR b h
theorem vy(f:VF×YW->ϝ->Sem (ForInStep ϝ))
  (g:∀D E K,f (D,E) K=if E== .free then(do let a <-cellOf env D;W2 (.yield<|(D,a)::K))else W2 (.yield K)):
  ∀(w:a0N) (G:ϝ),(∀y∈w,y.2= .free->∃c,env.cells.lookup y.1=U c)->forIn w G f=W2 (dW env.cells w G)
 |[],_,_=>by rfl
 |(x,k)::r,G,h=>by
  rw[Yq,g];unfold dW;have i:=λy M=>h y<|UI _ M;by_cases b:(k==XO)=O
  .rw[US b,US b]
   obtain⟨c,j⟩:=h _ UP (by simpa using b);have d:=j;have e:cellOf env x=W2 c:=by unfold cellOf;rw[d]
   rw[e,d];exact vy f g r _ i
  .rw[UU b,UU b]
   rw[pure_bind];exact vy f g r _ i
theorem FQ{b}(h:∀y∈b.names,y.2= .free->∃c,env.cells.lookup y.1=U c):closureFor b env=W2 (dW env.cells b.names []):=by
 dsimp only[closureFor];rw[vy _ (λD w E=>by cases a:w==XO<;>simp) _ [] h]
 rfl
theorem MO{M}{E:ϕ}{s:UW}{w}
  (f:∀G:V0,G.Ns s.heap.objs.size (λ_=>Y)->(∀b o,s.heap.get? b=U o->G.get? b=U o)->
   (∀n c,(n,c)∈WR (s.heap.objs.size+1) w.names []->G.IsCell c Y/\s.heap.objs.size+1<=c)->
   ((WR (s.heap.objs.size+1) w.names []).Pairwise λx y=>x.2≠y.2)->
   Q (newEnv w s.heap.objs.size globals (WR (s.heap.objs.size+1) w.names cl) g Y .none (U h) builtinsNs) {s with heap:=G}):
  U6 M A (newFunctionEnv w globals cl [] g Y .none<|U h) Q E s:=by
 simp only[newFunctionEnv,Option.isSome_some,VV];refine My<|wpAny_alloc<|My<|wpAny_layCells _ (λS D K=>by cases a:D==NameKind.cell<;>simp[a]) _ _ _ _ ?_
 have P:=cellsFrom_ok w.names (s.heap.push {cls:= .type "dict",data:= .dict #[]}) _ [] ⟨λ_ _ V=>(nomatch V),List.Pairwise.nil⟩ (by exact UV _);rw[WB]at P;rw[show({s with heap:=s.heap.push {cls:= .type "dict",data:= .dict #[]}}:UW).heap.objs.size=s.heap.objs.size+1 from WB ..];exact My<|UF<|UF (f _ ((Heap.Ns.new _<|.type "dict").keeps<|pushCells_keeps _ _) (λb o e=>pushCells_keeps _ _ b o<|UH _ e) P.empty P.apart)
noncomputable abbrev aY(X:Cx)(a:ϒ)(w:Scope)(D:ϝ)(C:UM)(b:ϗ)(s:UW)(H:Hp):Cx:=
 {X with N:=a,s₀:=s,H₀:=H,env:=compEnvC w D C X.env,outer:=X.stack,stack:=X.stack,ex:=b,fn:=λx=>w.names.lookup x !=U .free,pn:=[],xe:=λ_ _=>False}
theorem js{b}(h:y∈(relabel b c).names):y∈b.names\/(y.2= .cell/\(y.1,XO)∈b.names):=by
 obtain⟨⟨n,k⟩,w,e⟩:=UL.mp h
 dsimp only at e
 split at e
 .rename_i a
  cases e;simp_all
 .cases e
  exact .inl w
theorem MB{K:ϊ}{w}(I:b5 X aj R H s)
  (hk:w.kind= .function) (g:(w.names.map (·.1)).Nodup) (f:∀y∈w.names,y.2= .free->X.env.kindOf y.1=U .cell\/X.env.kindOf y.1=U .free)
  (T:Nc=G++K.map (λj=>X.N.getD j YT)) (o7:∀j∈K,j<ϱ X.N/\w.names.lookup (X.N.getD j YT)=U .free)
  (F:∀b∈fp,gF X aj H b) (W:∀b∈fp,∃o,s.heap.get? b=U o) (ns:h'.Ns s.heap.objs.size λ_=>Y) (D:∀b o,s.heap.get? b=U o->h'.get? b=U o)
  (o9:∀n c,(n,c)∈WR (s.heap.objs.size+1) w.names []->h'.IsCell c Y/\s.heap.objs.size+1<=c) (ca:(WR (s.heap.objs.size+1) w.names []).Pairwise λx y=>x.2≠y.2):
  b5 (aY X Nc w (WR (s.heap.objs.size+1) w.names<|dW X.env.cells w.names []) s.heap.objs.size fp s H) [] (Vn (ϱ G) Y++K.map (λj=>R.getD j Y)) H {s with heap:=h'}:=by
 --the cells
 have aa:∀{x:VF} {c:UM},(x,c)∈dW _ _ []->X.env.cells.lookup x=U c/\(x,XO)∈w.names:=λ{x c} h=>by
  obtain h|⟨hm,e⟩:=ni h
  .cases h
  .obtain⟨d,hd⟩:=I.ok.has x<|f _ hm Z
   rw[hd]at e;simp_all
 have a:∀{x:VF} {c:UM},(WR _ _<|dW _ w.names []).lookup x=U c->
   (x,c)∈WR (s.heap.objs.size+1) w.names []\/(X.env.cells.lookup x=U c/\(x,XO)∈w.names):=λ{x c} h=>by
  have h:=Wz h;rw[d6]at h;obtain h|h:=V7.mp h
  .exact .inl h
  .exact .inr (aa h)
 have E:∀{x:VF},(x,XO)∈w.names->∃c,X.env.cells.lookup x=U c/\(WR _ w.names<|dW _ w.names []).lookup x=U c:=λ{x} hm=>by
  obtain⟨d,hd⟩:=I.ok.has x<|f _ hm Z;have e:=sy (cells:=X.env.cells) (acc:=[]) hm;obtain⟨c,Q⟩:=oM (l:=WR (s.heap.objs.size+1) w.names<|dW _ w.names []) (by rw[d6];exact VY _ e);obtain z|⟨z,_⟩:=a Q
  .have B:=dR g<|jT z
   rw[dR g hm]at B;cases B
  .exact⟨c,z,Q⟩
 have k:=λ{x c} h=>let ⟨v,q⟩:=I.cell x c h;q.lt
 have o8:=I.stkSub;refine⟨⟨I.ok.mod,hk,I.ok.glob,I.ok.blt,UV _,λx y c h1 h2=>?_,λx hx=>?_,λx c hf h=>?_,I.ok.hd,I.ok.frames,.inl Z,λb J=>⟨?_,λx c h e=>?_⟩,I.bs,U1 I.ok.bsz I.sz,λb o e J=>?_,λb J hf=>?_,I.stack,I.stkFree⟩,
  rfl,I.bare,Un.kept D,⟨_,ns,λi x v e1 A e3=>?_⟩,λx c h=>?_,I.hok.fresh<|UV _,λx c h=>?_,λp hp=>Vl hp rc,I.hok.kept D,?_⟩
 .rcases a h1 with B|⟨B,_⟩<;>obtain f5|⟨f5,_⟩:=a h2
  .exact name_of_addr ca B f5
  .exact Vl (Vo (k f5)<|U1 (ZM _) (o9 _ _ B).2) (V4 _)
  .exact Vl (Vo (k B)<|U1 (ZM _) (o9 _ _ f5).2) (V4 _)
  .exact I.ok.inj _ _ _ B f5
 .--has
  have hx:=hx;have hm:(x,NameKind.cell)∈w.names\/(x,XO)∈w.names:=by
   obtain hx|hx:=hx
   .obtain z|⟨_,z⟩:=js (Wz hx)
    .exact .inl z
    .exact .inr z
   .obtain z|⟨_,z⟩:=js (Wz hx)
    .exact .inr z
    .exact .inr z
  obtain hm|hm:=hm
  .have q:=cellsFrom_some w.names (s.heap.objs.size+1) (dW X.env.cells w.names [])<|.inl<|dR g hm
   exact Option.isSome_iff_exists.mp q
  .obtain⟨c,_,Q⟩:=E hm
   exact⟨c,Q⟩
 .--cab
  obtain z|⟨_,z⟩:=a h
  .exact U1 (ZM _) (o9 _ _ z).2
  .have z':(w.names.lookup x !=U .free)=O:=hf
   rw[dR g z]at z';simp_all
 .obtain⟨o,e⟩:=W b J
  exact VJ<|Vm e
 .obtain z|⟨z,_⟩:=a h
  .obtain⟨o,e'⟩:=W b J
   subst e;exact Vl (Vo (Vm e')<|U1 (ZM _) (o9 _ _ z).2)<|V4 _
  .exact(F b J).2.2.2.2.1 x c z e
 .obtain⟨_,_,_,h4,_⟩:=F b J
  obtain z|z:=h4
  .exact I.ok.noex b o e z
  .exact Vl (Vo (Vm (I.ok.bs b o e).1) z) (V4 _)
 .obtain⟨_,h2,h3,_⟩:=F b J
  obtain z|z:=U4.mp (o8 b hf)
  .exact h2 z
  .exact h3 z
 .--the names' values
  have hi:¬i<ϱ G:=λhi=>by
   rw[YS (by simpa using hi),Xn]at A;simp_all
  have L:(G++K.map (λj=>X.N.getD j YT))[i]?=U x:=by rw[<-T];exact e1
  rw[W4 ln]at L;rw[W4<|by simpa using hi]at A;rw[WS]at A;cases q:K[i-ϱ G]? with
  |none=>rw[UN,q]at A;cases A
  |some j=>
   rw[UN,q]at L A;have C:X.N.getD j YT=x:=Vt L;have P:R.getD j Y=U v:=Vt A;obtain⟨hj,t⟩:=o7 j<|U2 q;rw[C]at t;obtain⟨c,Q,ab⟩:=E<|Wz t;have ac:X.N[j]?=U x:=by
    rw[<-C,UO,UJ hj];rfl
   have S:R[j]?=U (U v):=by
    have hl:j<ϱ R:=by rw[I.len];exact hj
    rw[UO,UJ hl]at P;simp_all
   have V:=f _ (Wz t) Z;obtain⟨m,hn,hl⟩:=I.loc;obtain⟨u,r,l⟩:=hl j x v ac S<|V.elim (λz=> .inr<|.inl z) λz=> .inr<|.inr z;refine⟨u,r,.inr ⟨?_,c,ab,?_⟩⟩
   .obtain z|z|z:=e3
    .exfalso
     obtain y|⟨y,_⟩:=js (Wz z)
     .rw[dR g y]at t;cases t
     .cases y
    .exact .inl z
    .exact .inr z
   .obtain⟨l,_⟩|⟨_,c',e,z⟩:=l
    .exfalso
     simp_all
    .rw[Q]at e
     cases e;exact z.keeps D
 .obtain z|⟨z,_⟩:=a h
  .exact⟨Y,(o9 _ _ z).1⟩
  .obtain⟨v,q⟩:=I.cell x c z
   exact⟨v,q.keeps D⟩
 .obtain z|⟨z,_⟩:=a h
  .exact I.hok.fresh (U1 (ZM _) (o9 _ _ z).2)
  .exact I.freeC x c z
 .show _=ϱ Nc
  simp_all
abbrev TB:=St->Hp->(St->Hp->Prop)->Prop
abbrev ϧ:=UM->TB
inductive CKd where
 |L (e:Expr)|S (e:Expr)|D (k v:Expr)
instance:Coe Expr CKd:=⟨.L⟩
noncomputable def s9(c:CKd)(gens:Ϭ)(b:Scope)(pos:Ye):Expr:=match c with
 | .L e=> .ListComp e gens b pos
 | .S e=> .SetComp e gens b pos
 | .D k v=> .DictComp k v gens b pos
noncomputable def emC(c:CKd)(w:UQ)(b:Env):Sem Unit:=match c with
 | .L e=>do let _ <-call (.builtin "list.append") [w,<-Wa e b]
 | .S e=>do let v <-Wa e b;Y4 e.pos;let _ <-call (.builtin "set.add") [w,v]
 | .D k v=>do
   let kv <-Wa k b
   let vv <-ZE [kv] (Wa v b)
   match w with
   | .ref d=>do
    Y4 {k.pos with endLine:=v.pos.endLine,endCol:=v.pos.endCol}
    ZE [kv,vv] (dictSet d kv vv)
   |_=>unsupported "internal:dictcomp"
noncomputable def jK(c:CKd)(w:Ϭ)(D:Scope)(pos:Ye)(d:Nat)(G:UQ)(b:Env)(k:Sem PySem.Fin):Sem PySem.Fin:=
 match w[d+1]? with
 |some E=>do
  let x <-Wa E.iter b
  Y4 E.iter.pos
  let x <-if E.is_async !=0 then foldedIterable E.iter x else V1 E.iter b x
  let _ <-runOwn (.compStart (s9 c w D pos) (d+1) (<-ZE [x] (if E.is_async !=0 then asyncIter x else pyIter x)) G b) b
  k
 |none=>do
  emC c G b
  k
theorem zo{a b:Expr}{pos:Ye}(e:f[d]?=U ⟨a,b,k,0⟩):
  compTurn (s9 c f g pos) d j i h=(do
   Y4 b.pos
   match <-YK j with
   |none=>W2<|.done .next
   |some v=>
    letOwnedTupleGo a j v
    assign a h v
    let mut ok:=O
    for y in k do
     if ok then ok <-isTrue y h (Wa y h)
    if ok then jK c f g pos d i h (again<|.compLoop (s9 c f g pos) d j i h)
    else again (.compLoop (s9 c f g pos) d j i h)):=by
 cases c<;>(
  unfold compTurn jK s9
  dsimp only
  rw[e]
  dsimp only
  cases f[d+1]?<;>rfl)
variable{f5:Vw}{A:V3}{R:Result->UW->Prop}{s:UW}
theorem Ml(C:J[d]?=U ⟨T,e,Q,0⟩)(I:Nat->UW->Prop)
  (p:∀n s,I n s->U6 (Vq f5 w) A (YK N) (λr a=>match r with
   |none=>R (.ok .next) a
   |some v=>U6 (Vq f5 w) A (letOwnedTupleGo T N v) (λ_ b=>U6 (Vq f5 w) A (assign T F v) (λ_ j=>
    U6 (Vq f5 w) A (forIn Q O λy r=>if r=O then do let G <-isTrue y F (Wa y F);W2 (ForInStep.yield G)else W2 (ForInStep.yield r)) (λG g=>
     if G=O then ∀(k:Sem PySem.Fin) (u:PySem.Fin->UW->Prop) (B:ϕ),(∀i m,m<n->I m i->U6 (Vq f5 w) A k u B i)->U6 (Vq f5 w) A (jK c J H pos d L F k) u B g
     else ∃m,m<n/\I m g) (λ_ _=>False) j) (λ_ _=>False) b) (λ_ _=>False) a) (λ_ _=>False) s)
  (n) (h:I n s):
  Zi (Vq f5 w) A (.compLoop (s9 c J H pos) d N L F) R s:=by
 refine codeAny_loop Z I (λn s hI=>?_) n h
 suffices z:U6 _ A ((compTurn (s9 c J H _) d N L F).onRaise _) (λt K=>match t with
   |Fin.done f=>R (VP f) K
   |Fin.again c'=>c'=Code.compLoop (s9 c J H _) d N L F/\∃m,m<n/\I m K) _ s by cases c<;>exact z
 apply wpAny_noted;rw[zo C];refine My<|W9<|My<|V8 (p n s hI) (λr a D=>?_) λ_ _ E=>E.elim;cases r with
 |none=>exact UF D
 |some v=>
  refine My<|V8 D (λ_ b o=>(My<|V8 o (λ_ j q=>My<|V8 q (λG g l=>?_) λ_ _ E=>E.elim) λ_ _ E=>E.elim)) λ_ _ E=>E.elim;cases G with
  |false=>exact UF ⟨Z,l⟩
  |true=>exact l _ _ _ λi m M hI=>UF ⟨Z,m,M,hI⟩
theorem HD(j:l[d]?=U ⟨r,n,p,0⟩)
  (i:Zi (Vq f5 w) A (.compLoop (s9 c l k pos) d q o m) R s)
  (h:U6 (Vq f5 w) A (pyIter q) (λa D=>Zi (Vq f5 w) A (.compLoop (s9 c l k pos) d a o m) R D) (λ_ _=>False) s):
  Zi (Vq f5 w) A (.compStart (s9 c l k pos) d q o m) R s:=by
 apply codeAny_of_tree
 suffices z:U6 (Vq f5 w) A ((compStart (s9 c l k pos) d q o m).onRaise _) (λg D=>match g with
   |Fin.done f=>R (VP f) D
   |Fin.again c'=>c'.quiet=O/\Zi (Vq f5 w) A c' R D) _ s by cases c<;>exact z
 apply wpAny_notedAt;unfold compStart;have b:(clausesOf<|s9 c l k pos)[d]?=U ⟨r,n,p,0⟩:=by cases c<;>exact j
 generalize (clausesOf<|s9 c l k pos)[d]?=og at b⊢;subst b;refine My<|ZX<|wpAny_ite ?_;split
 .first
   |exact My (UF (UF (And.intro Z i)))
   |exact UF (And.intro Z i)
 .first
   |exact My _
   |(refine My (XV ?_);exact My (W9 (My (V8 h (λa D E=>UF<|And.intro Z E) λ_ _ x=>x.elim))))
def e8(X:Cx)(b:List Expr)(t:TT):Prop:=
 ∀(a:ϖ) (s:UW) (d:St) (H:Hp) (Q:a0X),b5 X a d H s->t d H Q->
  U6 (Vq X.prog X.w) X.A (forIn b O λc r=>if r=O then do let ok <-isTrue c X.env (Wa c X.env);W2 (ForInStep.yield ok)else W2 (ForInStep.yield r)) (TP X a d Q) X.xe s
noncomputable def Qb:TT:=λ_ H Q=>Q O H
theorem yo:e8 X [] Qb:=λ_ _ _ H _ I h=>UF ⟨H,I,h⟩
theorem LS(d:PT X c t):e8 X [c] t:=λa s e H Q I h=>by
 rw[Yq];exact My<|My<|V8 (d a s e H Q I h) (λb w f=>UF<|UF f) λ_ _ x=>x
def PB(X:Cx)(c:CKd)(gens:Ϭ)(E:Scope)(pos:Ye)(d:Nat)(D:UM)(t:TB):Prop:=
 ∀(a:ϖ) (s:UW) (e:St) (H:Hp) (Q:a0H),b5 X a e H s->t e H Q->
  ∀(k:Sem PySem.Fin) (f:PySem.Fin->UW->Prop) (g:ϕ),(∀G b h,b5 X a b h G->Q b h->U6 (Vq X.prog X.w) X.A k f g G)->U6 (Vq X.prog X.w) X.A (jK c gens E pos d (.ref D) X.env k) f g s
def dU(J:It)(g:TG)(s:TT)(j:TB):TB:=λc H Q=>∃W:Nat->Nat->St->Hp->Prop,(∃m,W 0 m c H)/\∀i m c H,W i m c H->
 (J.stop i H/\Q c H)\/(J.go i H/\∃N:St->Hp->Prop,(∀d e,N d e->∃f,f<m/\W (i+1) f d e)/\∀x e,J.yld i H x e->g x c e λa k=>s a k λb h=>if b=O then j a h N else N a h)
def FV(D:UM)(c:TE):TB:=λa H Q=>c a H λv b=>∃s,b D=U (.lst s)/\s.length<Ve/\Q a (upd b D<|.lst<|s++[v])
def FU(b:TI)(c:It->TB):TB:=λa H Q=>b a H λJ d=>c J a d Q
variable{c:CKd}{ab bt P:Expr}{aa:List Expr}{gens:Ϭ}{scope:Scope}{pos:Ye}{d:Nat}{D:UM}
theorem wr(hg:gens[d]?=U ⟨bt,P,aa,0⟩)(hc:X.calm=O)(F:X.xe=λ_ _=>False)(S:PG X bt g)(V:e8 X aa tt)(j:PB X c gens scope pos d D tb)
 
  (I:b5 X aj σ H s) (T:p3 X.prog X.w X.K bt J fp it tn) (st:tn 0 s.heap) (hf:∀b∈fp,gF X aj H b) (h:dU J g tt tb σ H Q):
  Zi (Vq X.prog X.w) X.A (.compStart (s9 c gens scope pos) d (.ref it) (.ref D) X.env) (λr G=>r= .ok .next/\∃a f,b5 X aj a f G/\Q a f) s:=by
 obtain⟨W,⟨m0,w0⟩,L⟩:=h;have l:∀{f:Hp},(∀b∈fp,f b=Y)->∀b∈fp,gF X aj f b:=λhn b j=>⟨hn b j,(hf b j).2⟩;have t:Zi (Vq X.prog X.w) X.A (.compLoop (s9 c gens scope pos) d (.ref it) (.ref D) X.env) (λr G=>r= .ok .next/\∃a f,b5 X aj a f G/\Q a f) s:=by
  refine Ml hg (λn G=>∃i a f,b5 X aj a f G/\tn i G.heap/\(∀b∈fp,f b=Y)/\W i n a f) ?_ m0 ⟨0,σ,H,I,st,λb j=>(hf b j).1,w0⟩;rintro n s3 ⟨i,p,o7,I3,f5,o8,w3⟩;rcases L i n p o7 w3 with⟨M,qn⟩|⟨go,N,hN,step⟩
  .refine dv (T.done X Z Z Z hc i aj s3 p o7 _ I3 (l o8) f5 M) λr s4 z0=>?_
   obtain⟨hr,I4⟩:=z0
   subst hr;exact⟨Z,p,o7,I4,qn⟩
  .refine dv (T.item X Z Z Z hc i aj s3 p o7 _ I3 (l o8) f5 go) λr s4 z0=>?_
   obtain⟨u,hr,h4⟩:=z0
   subst hr;refine dv h4 λ_ s5 z0=>?_;obtain⟨x,H5,I5,r5,y5,v,ab⟩:=z0;have ac:=I5.pinned (l ab)<|T.obj _ _ v;have E:∀{q:St} {y:Hp} {B:UW},b5 X (aj++pE fp s5.heap) q y B->N q y->∃m,m<n/\∃i a f,b5 X aj a f B/\tn i B.heap/\(∀b∈fp,f b=Y)/\W i m a f:=λ{q y B} C n7=>by
    obtain⟨m',hm,w7⟩:=hN q y n7;refine⟨m',hm,i+1,q,y,C.unpinned,T.keep _ _ _ v λb j o e=>(C.pin (b,o)<|VY _<|VY _<|j9 j e).1,λb j=>?_,w7⟩;obtain⟨o,e,d⟩:=T.obj _ _ v b j;exact(C.pin (b,o)<|VY _<|VY _<|j9 j e).2.1
   have h6:=S _ s5 p H5 x u _ ac r5<|step x H5 y5;rw[F]at h6;refine dv h6 λ_ s6 z0=>?_;obtain⟨o9,H6,I6,q6⟩:=z0;have h7:=V _ s6 o9 H6 _ I6 q6;rw[F]at h7;refine dv h7 λb B z0=>?_;obtain⟨y,C,R⟩:=z0;cases b with
   |true=>
    rw[US Z]at R⊢;intro k Q' E' hk;refine j _ B o9 y N C R k Q' E' λs8 ad H8 I8 n8=>?_;obtain⟨m,hm,z⟩:=E I8 n8;exact hk s8 m hm z
   |false=>
    rw[UU UX]at R⊢;exact E C R
 exact HD hg t<|T.self X.A 0 s _ _ st t
theorem aN(m:gens[d+1]?=Y)(o:PE X ab x)(b:X.xe=λ_ _=>False):PB X ab gens scope pos d D (FV D x):=by
 intro a s g H Q I h k y B p;unfold jK;rw[m];show U6 _ _ _ _ _ _
 have i:=o a s g H _ I h;rw[b]at i;refine My<|My<|V8 i (λu C T=>?_) λ_ _ f=>f.elim;obtain⟨v,J,j,r,w,l,L,q⟩:=T;obtain⟨z,c,n,t,N,e⟩:=j.lstM l;refine My<|call_meets F.slot_list_append ⟨_,e,Z⟩ F.entry_list_append (F.args_list_append_2 _ _) (PySem.list_append D _ n u<|by rw[Vf];lia) ⟨e,UF<|p _ g _ (j.lset l e rc (t.append<|.cons r .nil) ?_) q⟩;rw[Va,VX];lia
theorem qy(o:gens[d+1]?=U ⟨target',iter',ifs',0⟩)(p:X.calm=O)(a:X.xe=λ_ _=>False)(t:PI X target' iter' wi)
  (j:PG X target' g) (l:e8 X ifs' tt) (u:PB X c gens scope pos (d+1) D tb) (w:autoParam (∀x,V1 iter' X.env x=W2 x) z9):PB X c gens scope pos d D (FU wi λJ=>dU J g tt tb):=by
 intro b s y H Q I h k o9 o7 B;unfold jK;rw[o];have i:=t b s y H _ I h;rw[a]at i;refine My<|V8 i (λv E i=>My<|W9 ?_) λ_ _ f=>f.elim;refine My<|Yu (w v) ?_;refine My<|Wf<|V8 i (λC G F=>?_) λ_ _ f=>f.elim;obtain⟨K,M,P,J,R,e,L,T,m,f2,q⟩:=F;subst e;refine My<|wpAny_runOwn<|PySem.codeAny_mono (wr o p a j l u L T m f2 q) λr A r=>?_;obtain⟨N,z⟩:=r;subst N;obtain⟨n,f5,o8,W⟩:=z;exact B A n f5 o8 W
noncomputable def m9(b:ϒ)(c:ϊ)(a:St):St:=Vn b.length Y++c.map (λj=>a.getD j Y)
def Mks(X:Cx)(mk:Sem UQ)(g:UM->HO):Prop:=∀(a:ϖ) (s:UW) (f:St) (H:Hp) (E:ϕ) (Q:ϕ),b5 X a f H s->
 (∀e:UW,b5 X a f (upd H s.heap.objs.size<|g s.heap.objs.size) e->(∀b o,s.heap.get? b=U o->e.heap.get? b=U o)->Q (.ref s.heap.objs.size) e)->U6 (Vq X.prog X.w) X.A mk Q E s
theorem yz:Mks X (newList []) λ_=> .lst []:=λa s f H E Q I h=>VE<|h _ (I.lnew .nil<|VL _) λb o e=>UH _ e
def sQ(c:ϒ)(d:ϊ)(e:TI)(f:UM->It->TB):TE:=λa H Q=>e a H λJ b=>∀D,b D=Y->f D J (m9 c d a) (upd b D<|.lst []) λ_ g=>Q (.ref D) g
structure cy (X:Cx) (scope:Scope) (Nc cx:ϒ) (b4:ϊ):Prop where
 kind:scope.kind= .function
 nd:(scope.names.map (·.1)).Nodup
 free:∀y∈scope.names,y.2= .free->X.env.kindOf y.1=U .cell\/X.env.kindOf y.1=U .free
 names:Nc=cx++b4.map (λj=>X.N.getD j YT)
 cap:∀j∈b4,j<X.N.length/\scope.names.lookup (X.N.getD j YT)=U .free
variable{R:Ϭ}{Nc cx:ϒ}{b4:ϊ}{g:TG}{tt:TT}{tb:ϧ}{wi:TI}
def SH(X:Cx)(a:ϖ)(H:Hp)(C:UM):Prop:=H C=Y/\C≠X.env.locals/\X.s₀.heap.objs.size<=C/\(∀x c,X.env.cells.lookup x=U c->c≠C)/\∀p∈X.pn++a,p.1≠C
theorem jI{c}{mk}{B:UM->HO}(f5:Mks X mk B){f}{F:St}{H}{s}{it}{h}{Q:Nat->V0->Prop}{J}{E:ϕ}{QQ:UM->Hp->Prop}{RR:UQ->UM->Result->UW->Prop}
  (hc:X.calm=O) (S:cy X scope Nc cx b4)
  (L:∀(cl:ϝ) (C:UM) (h:ϗ) (s:UW) (H:Hp),PG (aY X Nc scope cl C h s H) bt g/\e8 (aY X Nc scope cl C h s H) aa tt/\∀D,PB (aY X Nc scope cl C h s H) c (⟨bt,P,aa,0⟩::R) scope pos 0 D<|tb D)
  (I:b5 X f F H s) (T:p3 X.prog X.w X.K bt J h it Q) (st:Q 0 s.heap) (o8:∀b∈h,gF X f H b)
  (q:∀D,H D=Y->dU J g tt (tb D) (m9 cx b4 F) (upd H D<|B D) λ_ k=>QQ D k)
  (W:∀(D C:UM) (M:UW) (k:Hp) (m:ϙ),b5 X f F k M->M.heap.Ns C m->SH X f k C->QQ D k->RR (.ref D) C (.ok .next) M):
  U6 (Vq X.prog X.w) X.A mk (λV t=>U6 (Vq X.prog X.w) X.A (newFunctionEnv scope X.env.globals (dW X.env.cells scope.names []) [] X.env.qual Y .none<|U X.env) (λj u=>
   Zi (Vq X.prog X.w) X.A (.compStart (s9 c (⟨bt,P,aa,0⟩::R) scope pos) 0 (.ref it) V {j with scope:=relabel scope X.env}) (RR V j.locals) u) E t) E s:=by
 refine f5 f s F H _ _ I λi l y=>?_;have hD:=I.fresh;have q3:=q _ hD;have o9:∀b∈h,∃o,i.heap.get? b=U o:=λb L=>by obtain⟨o,e,_⟩:=T.obj _ _ st b L;exact ⟨o,y b o e⟩
 have o7:∀b∈h,gF X f (upd H _<|B s.heap.objs.size) b:=λb a=>⟨by
  rw[bb]
  .exact(o8 b a).1
  .obtain⟨o,e,_⟩:=T.obj _ _ st b a
   exact VJ<|Vm e,(o8 b a).2⟩
 generalize ab:upd H _ _=H3 at l q3 o7;generalize s.heap.objs.size=D at hD ab q3⊢;refine MO λh' ns G ce ca=>?_;have N:=MB l S.kind S.nd S.free S.names S.cap o7 o9 ns G ce ca;obtain⟨b1,b2,b3⟩:=L _ _ h i H3;have f4:∀b∈h,gF _ [] H3 b:=λb a=>
  ⟨(o7 b a).1,(N.ok.exf b a).1,N.ok.exfs b a,.inl a,(N.ok.exf b a).2,λp hp=>Vl hp rc⟩
 refine PySem.codeAny_mono (wr (X:=aY X Nc _ _ _ h i H3) Z hc Z b1 b2 (b3 D) N T (T.keep _ _ _ st λb L o e=>G b o<|y b o e) f4 q3) λr M r=>?_;obtain⟨hr,ad,k,n,q'⟩:=r;subst hr;obtain⟨m,hm,_⟩:=n.loc;refine W D _ M k m (l.call' n.os n.base n.hok n.bare λb a=>?_) hm ⟨n.free,XB l.lt,l.sz,λx c e z=>?_,λp hp z=>?_⟩ q'
 .obtain⟨_,h2,h3,h4,h5,h6⟩:=o8 b a
  exact⟨h4,h2,h5,h6⟩
 .obtain⟨v,e'⟩:=l.cell x c e
  exact Vl (z▸e'.lt)<|V4 _
 .have:=Vm (l.pin p hp).1
  rw[z]at this;exact Vl this<|V4 _
theorem b5.letgo(I:b5 X aj h H s)(o:SH X aj H C)(c:Vy C s.heap i):b5 X aj h H {s with heap:=i}:=
 I.turned (λb f a e=>(c.2 b a).trans e) o.1 (Ne.symm<|Ne.symm o.2.1) (.inr o.2.2.1) o.2.2.2.1 o.2.2.2.2
theorem cy.clo(S:cy X scope Nc cx b4)(b:X.Ok):closureFor scope X.env=W2 (dW X.env.cells scope.names []):=FQ λy c a=>b.has _<|S.free y c a
theorem cy.loc(S:cy X scope Nc cx b4):∀x∈scope.names,x.2= .local->scope.names.lookup x.1=U .local:=λx b a=>dR S.nd (by rw[<-a];exact b)
theorem qw(j:X.calm=O)(S:cy X scope Nc cx b4)(k:PI X bt P wi)
  (l:∀(d:ϝ) (C:UM) (b:ϗ) (s:UW) (H:Hp),PG (aY X Nc scope d C b s H) bt g/\e8 (aY X Nc scope d C b s H) aa tt/\∀D,PB (aY X Nc scope d C b s H) ab (⟨bt,P,aa,0⟩::R) scope pos 0 D<|tb D)
  (G:autoParam (∀x,V1 P X.env x=W2 x) z9):PE X (.ListComp ab (⟨bt,P,aa,0⟩::R) scope pos) (sQ cx b4 wi λD J=>dU J g tt<|tb D):=by
 intro a s n H Q I h;refine Yd Z G (S.clo I.ok) S.kind S.loc<|V8 (k a s n H _ I h) (λv N o=>V8 o (λp f5 r=>?_) λ_ _ x=>x) λ_ _ x=>x;obtain⟨M,b,L,J,W,e,t,T,f,f2,q⟩:=r;subst e;exact jI yz j S l t T f f2 q λD C V u m y K B F=>⟨m,K,λz i=>⟨.ref D,u,y.letgo B i,Z,F⟩⟩
theorem AJ{b f}(y:X.N.Nodup)(l:X.N[i]?=U x)(G:Iv X.env.scope x)(B:X.calm=O)(S:cy X scope Nc cx b4)(F:PI X bt P wi)
  (f5:∀(d:ϝ) (C:UM) (k:ϗ) (s:UW) (H:Hp),PG (aY X Nc scope d C k s H) bt g/\e8 (aY X Nc scope d C k s H) aa tt/\∀D,PB (aY X Nc scope d C k s H) ab (⟨bt,P,aa,0⟩::R) scope pos 0 D<|tb D)
  (n:autoParam (ZV (.ListComp ab (⟨bt,P,aa,0⟩::R) scope pos) (U<|.Name x b) f.line X.env=W2 O) z6)
  (K:autoParam (∀x,V1 P X.env x=W2 x) z9) (Q:autoParam (ϯ X x) q8):
  PS X (.Assign [.Name x b] (.ListComp ab (⟨bt,P,aa,0⟩::R) scope pos) f) (ie (sQ cx b4 wi λD J=>dU J g tt<|tb D)<|fJ i):=by
 intro j s W H D I h;rw[exec_Assign_Name_used _ _ _ _ n];refine My<|W9<|My ?_;show U6 _ _ _ _ _ s
 refine My<|V8 (Yd Z K (S.clo I.ok) S.kind S.loc
  (V8 (F j s W H _ I h) (λv s1 o7=>V8 o7 (λL M V=>?_) λ_ _ e=>e) λ_ _ e=>e)) (λ_ s' hq=>UF<|UF hq) λ_ _ e=>e
 obtain⟨it,k,tn,J,H2,e,o,T,p,f2,q⟩:=V;subst e;refine jI yz B S f5 o T p f2 q λA C s' H' m I' ns r q'=>?_;refine wpAny_assign_Name<|oY I' y l G (v:= .ref A) Z (λM o w=>?_) Q;obtain⟨a,sb,ha⟩:=w;have t:C≠a:=by
  obtain rfl|ha:=ha
  .exact r.2.1
  .exact λz=>r.2.2.2.1 x a ha z.symm
 exact⟨m,ns.sameBut sb t,λh' u=>⟨_,H',o.letgo r u,q'⟩⟩
end
end L2
namespace L2
open Sem (wp)
open Builtin Builtin.ObjectAttr
structure XShape (h:V0) (C:UM) (bm:ό):Prop where
 at_:∃(nm q:VF) (N:UM) (bs:ό) (hdct:Bool) (sn:ϒ) (sub:ό) (ab:Bool) (col:a0R) (dd:a0W) (k0 k1 k2 k3 k5:Option UQ),
  h.get? C=U (excClassObj nm q C N bs bm hdct sn sub ab col dd k0 k1 k2 k3 k5 kK)
 val:bm.contains (.type kI)=O
 bas:bm.contains (.type mR)=O
 att:bm.contains (.type "AttributeError")=UK
 nam:bm.contains (.type "NameError")=UK
section
variable{i:Vw}{w:VC}{A:V3}{E:ϕ}{h:V0}{g:Array GenState}{d:Drawn}{t:Nat}{j:W1}{C:UM}{k f:ό}
noncomputable def BT:ό->Bool
 |[.type a,.type b,.type c,.type d]=>a==kI&&b==pf&&c==mR&&d==oK
 | .ref _::r=>BT r
 |_=>UK
variable{s:UW}{e:UM}{K:Vb}{b:ClassData}{a:VF}{v:UQ}
end
end L2
namespace L2
theorem cm.there(x:cm P w H h a o):∃b,h.get? a=U b:=by
 cases o with
 |lst xs=>obtain⟨_,_,_,_,e⟩:=x;exact⟨_,e⟩
 |tup xs=>obtain⟨_,_,_,_,e,_⟩:=x;exact⟨_,e⟩
 |ins C dx fs=>obtain⟨_,_,_,e,_⟩:=x;exact⟨_,e⟩
 |own y=>exact x
 |xd fs=>obtain⟨_,⟨_,_,_,e,_⟩,_⟩:=x;exact⟨_,e⟩
 |rng lo hi=>obtain⟨_,_,_,e⟩:=x;exact⟨_,e⟩
 |frz b u=>obtain⟨e,_⟩:=x;exact⟨_,e⟩
 |tbl ps=>exact⟨_,(show h.get? a=U _ from x)⟩
 |met f y=>exact⟨_,(show h.get? a=U _ from x)⟩
 |ext φ=>obtain⟨_,e,_⟩:=x;exact e
structure Flown (P:Vw) (w:VC) (outer:List Env) (H:Hp) (s:UW) (E:XK) (x C:UM) (H':Hp) (s':UW):Prop where
 os:s'.os=s.os
 bare:AllBare s'.gens
 un:Un (hY outer) [] H H' s.heap s'.heap
 hok:lr P w H' s'.heap
 tr:∃(oe:Wd) (vs:ϫ) (T:UM) (oT:Wd) (ts:ϫ) (a0:UQ),s'.heap.get? x=U oe/\(oe.cls= .ref C/\vs[0]?=U a0)/\oe.data= .fields vs/\vs[1]?=U (.ref T)/\T≠x/\s'.heap.get? T=U oT/\oT.data= .fields ts/\ts[3]?=U .none/\H' T=Y/\s.heap.get? T=Y
 xn:H' x=Y
 xs:s.heap.get? x=Y
 wish:E (.ref C) Y H'
def hO(P:Vw)(w:VC):O2:=λD H s E e G=>∃x C a,e= .ref x/\Flown P w D H s E x C a G
theorem JX{s G:UW}(I:b5 X aj σ H s)(g:X.stack=X.env::X.outer)(i:X.env.frame=U X.env.locals)(Q:X.ex=[])
  (os:G.os=X.s₀.os) (M:AllBare G.gens) (d:Un (hY X.stack) [] X.H₀ H' X.s₀.heap G.heap) (S:lr X.prog X.w H' G.heap) (y:∀b∈hY X.stack,H' b=Y)
  (c:∀b∈ext,X.s₀.heap.get? b=Y/\H' b=Y) (hx:x∈ext) (V:E (.ref C) Y H')
  (L:Heap.LeftW (hideAll G.heap<|ext++hY X.stack) (X.env::X.outer) x (.ref C) a0 G.heap h'):Flown X.prog X.w X.outer X.H₀ X.s₀ E x C H' {G with heap:=h'}:=by
 obtain⟨R,L2,f5,W⟩:=L;have j:∀b∈hY _,b∈hY X.stack:=λb hb=>by
  rw[g];unfold hY;rw[WQ,i];exact UI _ hb
 have h:∀b∈hY X.stack,b=X.env.locals\/b∈hY _:=λb hb=>by
  rw[g]at hb;unfold hY at hb;rw[WQ,i]at hb;exact U4.mp hb
 have D:=λb o e B o7=>
  R b o (hideAll_get _ e λhm=>(V7.mp hm).elim B o7)
 have k:∀b o,X.s₀.heap.get? b=U o->b∉ext:=λb o e hb=>by rw[(c b hb).1]at e;cases e
 have f:∀b∈hY _,∃o,h'.get? b=U o/\∀vs,o.data≠ .fields vs:=λb hb=>(L2.mem<|by rw[<-g];exact hb).2;obtain⟨A,vs,T,oT,o8,he,hc,hd,B,l,F,P,m,h3⟩:=f5;have p:H' T=Y/\X.s₀.heap.get? T=Y:=by
  by_cases hm:T∈ext++hY X.stack
  .obtain hm|hm:=V7.mp hm
   .exact⟨(c T hm).2,(c T hm).1⟩
   .obtain⟨o,e,K⟩:=f T hm
    simp_all
  .have hs:G.heap.get? T=Y:=by
    cases q:G.heap.get? T with
    |none=>rfl
    |some o=>rw[hideAll_get _ q hm]at l;cases l
   constructor
   .cases q:H' T with
    |none=>rfl
    |some o=>obtain⟨ob,e⟩:=(S T o q).there;simp_all
   .cases q:X.s₀.heap.get? T with
    |none=>rfl
    |some o=>obtain⟨ob,e⟩:=d.there T o q rc;simp_all
 refine⟨os,M,⟨λb o e n hb _=>?_,λb o e n hb _=>?_,λb o e n hb=>d.free b o e n hb,λb o e _=>?_,d.tups,d.frzs,d.tbls⟩,λa o e=>?_,⟨A,vs,T,oT,o8,a0,he,hc,hd,B,F,P,m,h3,p.1,p.2⟩,(c x hx).2,(c x hx).1,V⟩
 .have K:=λz=>(h b z).elim ((λb o e=>VJ<|Vo (Vm e) I.ok.above) b o e) hb
  exact D b o (d.keep b o e n K rc) (k b o e) K
 .obtain⟨sl,r⟩:=d.slot b o e n (j b hb) rc
  obtain⟨_,J,v,K⟩:=I.ok.funs.mem hb;rw[e]at v;cases v;obtain⟨N,e3⟩:=W b _ r K;exact⟨N,e3⟩
 .obtain⟨J,r⟩:=d.there b o e rc
  by_cases hb:b∈hY X.stack
  .obtain⟨o2,v,_⟩:=f b hb
   exact⟨o2,v⟩
  .exact⟨J,D b J r (k b o e) hb⟩
 .refine(S a o e).stay (λb u hb r=>?_) (λ_ q=>q) λ_ _ q=>q
  have t:H' b≠Y:=by
   obtain rfl|hb:=hb
   .rw[e];simp
   .rw[hb];simp
  exact D b u r (λz=>t (c b z).2) λz=>t<|y b z
theorem KJ{h base:V0}(d:h.FunFrames base l)(c:∀b∈hY l,b∈as):h.FunFrames (hideAll h as) l:=
 PySem.W.funFrames_hide d λD e a E=>c a (by exact Z3.mpr ⟨D,e,E⟩)
theorem OO{X:Cx}{E F}(a:X.stack=X.env::X.outer)(d:X.env.frame=U X.env.locals)(f:X.ex=[])(R:∀D J H,F D J H->E D J H)
  (I:b5 X aj σ H s) (h:hO X.prog X.w X.stack H s F e s'):
  U6 (Vq X.prog X.w) X.A (leaving X.env e) (λ_ j=>hO X.prog X.w X.outer X.H₀ X.s₀ E e j) E1 s':=by
 obtain⟨x,C,N,rfl,os,G,S,V,⟨o7,vs,T,o8,f5,a0,he,hc,hd,h1,k,hT,m,h3,n,p⟩,xn,xs,K⟩:=h;have M:∀b∈X.fs,b∈hY X.stack:=λb hb=>by
  rw[a];unfold hY;rw[WQ,d];exact UI _ hb
 have o9:Un (hY X.stack) [] X.H₀ H X.s₀.heap s.heap:=by
  have b:=I.base;rw[f]at b;exact b.mono M λ_ z=>z
 have g:∀b,s.heap.get? b=Y->X.s₀.heap.get? b=Y:=λb e=>by
  cases q:X.s₀.heap.get? b with
  |none=>rfl
  |some o=>obtain⟨o',P⟩:=o9.there b o q rc;simp_all
 have c:=I.stack;have i:s'.heap.FunFrames X.base X.stack:=by
  have aa:∀(l:List _),(∀b∈hY l,b∈hY X.stack)->s.heap.FunFrames X.base l->s'.heap.FunFrames X.base l:=by
   intro l
   induction l with
   |nil=>intro _ _;trivial
   |cons ab r ih=>
    intro hs hl;obtain⟨hk,⟨L,o,t,hn,u,v⟩,hr⟩:=hl;have Q:=hs L (by unfold hY;rw[WQ,t];exact UP);obtain⟨sl,e⟩:=S.slot L o u (I.stkFree L Q) Q rc;exact⟨hk,⟨L,_,t,hn,e,v⟩,ih (λb hb=>hs b<|by unfold hY;rw[WQ,t];exact UI _ hb) hr⟩
  exact aa _ (λ_ hb=>hb) c
 have y:∀b∈hY _,N b=Y:=λb hb=>by
  obtain⟨_,o,u,_⟩:=c.mem hb;exact S.free b o u (I.stkFree b hb) rc
 have B:∀b∈hY _,b∈[x,T]++hY X.stack:=λb hb=>VY _ hb;have hF:s'.heap.FunFrames (hideAll s'.heap<|[x,T]++hY X.stack) (X.env::X.outer):=by
  have z:=KJ i B;simp_all
 refine wpAny_leaving_nextW (by rw[<-a];exact I.ok.frames) hF d ⟨o7,vs,T,o8,f5,he,hc,hd,h1,hideAll_none _ rc,k,hT,m,h3⟩ (λb o q=>PySem.W.of_hideAll _ q) (hideAll_none _<|by exact .head _) λh' L=>?_;refine⟨x,C,N,Z,JX I a d f (os.trans I.os) G (o9.trans S) V y (λb hb=>?_) (by exact .head _) (R _ _ _ K) L⟩;obtain rfl|hb:=U4.mp hb
 .exact⟨g _ xs,xn⟩
 .obtain rfl:b=T:=by simpa using hb
  exact⟨g _ p,n⟩
section
variable{X:Cx}{c:ϖ}{a:St}{H d:Hp}{s b:UW}{E:XK}{x C:UM}
structure XC (K:Vb) (C:UM):Prop where
 sh:∃bm,∀h:V0,K.In h->XShape h C bm
 sa:Yl K (.ref C) "__setattr__"=U (U<|.builtin K')
 cd:∃cd,PySem.W.clsIn K C=U cd/\cd.hasDict=O/\BT cd.mro=O
structure XMk (K:Vb) (C f:UM):Prop where
 xc:XC K C
 init:Yl K (.ref C) oI=U (U<|.ref f)
 fn:isFn K (.ref f)=O
 kp:keepIn K (.ref C)=O
end
section
variable{X:Cx}{l:O2}{k:Nat}{f C:UM}{h:U9}{g:ϒ}{d:Sp}{b:ύ}{j:ό}{E:ϔ}{x m:VF}{p pos a:Ye}{e o:Expr}{i:List Expr}{c:TE}{t:TA}
structure ClsFn (K:Vb) (D:UM) (m:VF) (f:UM):Prop where
 ga:specialIn K (.ref D) "__getattribute__"=U (U<|.builtin "type.__getattribute__")
 rd:PySem.W.readsIn K D (.type xY)=O
 fnd:PySem.W.findCls K (.ref D) (.type xY) m=U (.val<|.ref f)
 kp:keepIn K (.ref f)=O
end
section
variable{P:Vw}{w:VC}{K:Vb}{B:ϙ}{base:V0}{N:ϒ}{v:VF}{i:Scope}{f:UM}{j:UQ}{A:V3}{y:List Env}{s:UW}{H:Hp}{E:XK}
theorem dj:eB (hO P w) (gD (hO P w) P w K B base N v i f j A y s H E) (λ_=>E):=λa b c d e D I h=>OO Z Z Z (λ_ _ _ z=>z) I h
theorem w9:eB (hO P w) X E0:=λ_ _ _ _ _ _ _ h=>by
 obtain⟨_,_,_,_,F⟩:=h;exact F.wish.elim
theorem bQ:PassesOwn (Vq P w) (A.deeper<|Zo v i s.heap.objs.size f j) (Zo v i s.heap.objs.size f j) (gD (hO P w) P w K B base N v i f j A y s H E).xe:=PassesOwn.leaving
structure gs (K:Vb) (x v:VF) (st:VQ) (f:UM) (fd:U9):Prop where
 ex:∃(oc:UQ) (od:a0W) (dV kV doc pm:UQ) (an:a0W) (cdv ct:UQ) (osl:Array<|Option UQ),
  fd=Zb x v (ku st) (c7 st) (ak st) dV kV doc pm an cdv ct/\K.lookup f=U ⟨oc,od,.func fd,osl⟩/\ZS K cdv v=O
 kp:keepIn K (.ref f)=O
theorem Pq{i}(l:K.lookup f=U ⟨oc,od,.func<|Zb x v (ku i) (c7 i) (ak i) dV kV doc pm an a ct,b⟩)
  (c:ZS K a v=O) (k:keepIn K (.ref f)=O):gs K x v i f (Zb x v (ku i) (c7 i) (ak i) dV kV doc pm an a ct):=⟨⟨oc,od,dV,kV,doc,pm,an,a,ct,b,Z,l,c⟩,k⟩
theorem gs.okE(F:gs K x v G f u)(S:ba N M<|ak G)(V:∀D H Q E,r D H Q E->ϱ D=ϱ M)
  (b:∀(a:UQ) (A:V3) (y:List Env) (s:UW) (H:Hp) (D:ύ) (Q:VK) (E:XK),d4 k (A.deeper<|Zo v (ak G) s.heap.objs.size f a)->r D H Q E->
   ∃t,PSs (gD (hO P w) P w K B base N v (ak G) f a A y s H E) (c7 G) t/\t {nx:=λ_ e=>Q .non e,rt:=Q} (gU N D) H):fw P w K B base (hO P w) (k+1) f u M r:=by
 obtain⟨l,m,n,o,g,p,q,a,z,h,rfl,i,c⟩:=F.ex;exact NX i c S V λA y s H D Q E j d=>b a A y s H D Q E j d
theorem gs.ok(F:gs K x v D f z)(S:ba N G<|ak D)(M:∀vs H Q E,sp vs H Q E->ϱ vs=ϱ G)
  (b:∀(a:UQ) (A:V3) (y:List Env) (s:UW) (H:Hp) (vs:ύ) (Q:VK) (E:XK),d4 k (A.deeper<|Zo v (ak D) s.heap.objs.size f a)->sp vs H Q E->
   ∃t,PSs (gD (hO P w) P w K B base N v (ak D) f a A y s H E).nox (c7 D) t/\t {nx:=λ_ e=>Q .non e,rt:=Q} (gU N vs) H):fw P w K B base (hO P w) (k+1) f z G sp:=by
 obtain⟨m,n,o,p,g,r,u,a,V,i,rfl,j,c⟩:=F.ex;refine NX j c S M λA y s H vs Q E l d=>?_;obtain⟨t,h,q⟩:=b a A y s H vs Q E l d;exact⟨t,h.nox,q⟩
abbrev TJ:=St->Hp->Nat->(Nat->Hp->Prop)->Prop
variable{X:Cx}{es:List Expr}{t:TJ}{pos:Ye}
theorem wu(i:X.calm=O):cT X (.builtin "sum") (λf H Q=>∃(a:UM) (t:ώ),f=[.ref a]/\e_ X.K H a (t.map V.int)/\Q (.int t.sum) H):=by
 intro b s o H f B Q I r h;obtain⟨a,t,rfl,j,q⟩:=h;cases r with
 |cons A k=>
  cases A;cases k;obtain⟨w,l,p,u⟩:=I.list j;have c:=ki l;obtain⟨f,y⟩:=c.allInts.items;have d:=p.isList;rw[y]at d;refine sum_intListG (I.ok.hd i) d λD v E m=>?_;have e:preSum (numAt f) f.size=t.sum:=by
   have g:=c.numsOf;have n:w=(YX f).toList:=by rw[<-y]
   rw[n,nums_intItems]at g;rw[preSum_eq,WL rc,g]
  rw[e];exact⟨.int _,H,I.kept m,⟨_,Z⟩,q⟩
def xx(i j:Int):Prop:=0<j/\j.natAbs.log2<9000
theorem k6:g8 X (XU .FloorDiv) (rI xx λi j=> .int<|i/j):=q_ λi j _ _ _ _ _ a q=>by
 have b:=a.1;refine floordiv_int ln ?_<|.inl<|PyProof.noPylong_of_log2 a.2;rw[Z7 _ ln];exact q
def ipC(C:a0Y)(f:a0M):TIp:=λx y H Q=>∃i j,x= .int i/\y= .int j/\C i j/\Q (.int<|f i j) H
theorem Pj:PIp X .FloorDiv (ipC xx λi j=>i/j):=by
 intro a s d H x y v u Q I f b h;obtain⟨i,j,rfl,rfl,c,q⟩:=h;obtain⟨t,rfl⟩:=f;obtain⟨w,rfl⟩:=b;have e:=c.1;refine ifloordiv_int ln ?_<|.inl<|PyProof.noPylong_of_log2 c.2;rw[Z7 _ ln];exact⟨.int _,H,I.tok _,⟨_,Z⟩,q⟩
theorem GP:∀{f:List String} {i:ό},aG (f.map V.ty) i->i=f.map X3:=@List.rec _ _ (@λ_ r=>by cases r;rfl) (λc f h=>@λ_ r=>by
  cases r with
  |cons j a=>
   cases j;rw[h a];rfl)
theorem FR(Pv:Nat->St->Hp->Prop)(u:Pv 0 c H)(k:∀i c H,i<=ϱ xs->Pv i c H->e_ K H a xs)
  (h:∀i x c H,xs[i]?=U x->Pv i c H->g x c H λd v=>z d v λb r=>if b=O then C d r (Pv<|i+1)else Pv (i+1) d r) (l:∀c H,Pv (ϱ xs) c H->Q c H):dU (Itl K a) g z C c H Q:=by
 refine⟨λi m c H=>i<=ϱ xs/\m+i=ϱ xs/\Pv i c H,⟨ϱ xs,VL _,ln,u⟩,λi m c H w=>?_⟩;obtain⟨n,s,j⟩:=w;by_cases o:i<ϱ xs
 .refine .inr ⟨⟨xs,xs[i],k i c H n j,UJ o⟩,Pv<|i+1,λy p q=>⟨m-1,ln,ln,ln,q⟩,λx p y=>?_⟩
  obtain⟨e,f⟩:=y
  subst e;exact h i x c p (f xs<|k i c p n j) j
 .obtain rfl:i=ϱ xs:=by lia
  exact .inl ⟨⟨xs,k _ c H n j,UV _⟩,l c H j⟩
theorem cy.plain{X}{i}(k:i.kind= .function)(s:(i.names.map (·.1)).Nodup)(f:∀y∈i.names,y.2≠ .free):cy X i cx cx []:=
 ⟨k,s,λy t e=>Vl e<|f y t,rc,λj a=>Vl a rc⟩
def xw(i j:Int):Prop:=i.natAbs<2^1000/\j.natAbs<2^1000
theorem mj(h:k.natAbs<2^1000):Builtin.Int.intBits k<=2^20:=by
 unfold Builtin.Int.intBits;split
 .exact VL _
 .rename_i a
  have b:k.natAbs≠0:=by
   simp_all
  have:=(Nat.log2_lt b).mpr h;have e:(2:Nat)^20=1048576:=by decide
  lia
theorem bM:g8 X (XU .Mult) (rI xw λi j=> .int<|i*j):=q_ λ_ _ _ _ _ _ _ a q=>mul_int q<|IntMulOk.of_bits (mj a.1)<|mj a.2
theorem cw.upd{H:Hp}(h:H a=Y):cw H (upd H a o):=λb u e=>by rw[bb<|aR e h];exact e
abbrev d5:=Int×ώ
abbrev ϩ:=List<|d5×UM×V
abbrev a0C:=List<|d5×UM×UQ
abbrev Ϯ:=List d5
noncomputable def hI(k:ώ):Int:=reduceHash<|Zx<|k.map hashInt
def hB:Bool->d5->Int
 |true,k=>reduceHash<|Zx [hashInt k.1,hI k.2]
 |false,k=>hI k.2
def GA(a:UM)(b:Bool)(i:Nat)(j:ϩ)(h:V0):Prop:=
 ∃o es,∃f:a0C,h.get? a=U o/\o.ExactDict/\o.data= .dict es i/\es.toList=f.map (λy=>⟨hB b y.1,.ref y.2.1,y.2.2⟩)/\(f.map (·.1)).Nodup/\(a==ZW)=UK/\f.length<=Ve/\
  Z9 (λ(x:d5×UM×V) (y:d5×UM×UQ)=>x.1=y.1/\x.2.1=y.2.1/\bf x.2.2 y.2.2) j f
noncomputable def c8(a:UM)(b:Bool)(f:Nat)(i:ϩ):HO:= .ext<|GA a b f i
theorem vq{P}{w}{b}{H}(S:GA a b g l h):cm P w H h a (c8 a b g l):=by
 refine⟨S,?_,λc d z k=>?_⟩
 .obtain⟨o,_,_,e,_⟩:=S
  exact⟨o,e⟩
 .obtain⟨o,es,ys,e,r⟩:=z
  exact⟨o,es,ys,k _ e,r⟩
end
end L2
namespace L2.Pu
theorem k4{D d e}{P Q R:D->d->e->Prop}{C:Prop}(h:∃a b c,P a b c/\Q a b c/\R a b c)(k:∀a b c,P a b c->Q a b c->R a b c->C):C:=by
 obtain⟨a,b,c,x,y,z⟩:=h;exact k a b c x y z
theorem ro{D c}{P Q R:D->c->Prop}{C:Prop}(h:∃a b,P a b/\Q a b/\R a b)(k:∀a b,P a b->Q a b->R a b->C):C:=by
 obtain⟨a,b,x,y,z⟩:=h;exact k a b x y z
set_option genInjectivity true in
inductive D where
 |non|bl (b:Bool)|int (i:Int)|str (x:VF)|ty (n:String)|txt
 |lst (xs:List D)|tup (xs:List D)|scr (xs:ώ)|obj (C:UM) (ns:ϒ) (xs:List D)|bag|adr (a:UM)|dct (b:Bool) (ks:Ϯ) (vs:List D)
abbrev ϋ:=List D
abbrev ϓ:=Option D
abbrev Ϝ:=List ϋ
abbrev Ϧ:=Option ϋ
abbrev a1b:=D->D->ϓ
structure Bg where
 cells:ώ
 i:Int
 j:Int
structure Fx where
 A:UM->Prop
 bg:Ϫ
def KL(K:Vb)(a:UM)(E:ύ):Prop:=
 ∃(o:Wd) (D:ϫ) (n:Nat),K.lookup a=U o/\o.cls= .type lQ/\o.dict=Y/\o.data= .seq D n/\D.size<=Ve/\aG E D.toList
def KT(K:Vb)(a:UM)(E:ύ):Prop:=
 ∃(o:Wd) (D:ϫ) (n:Nat),K.lookup a=U o/\o.cls= .type lP/\o.data= .seq D n/\D.size<=Ve/\aG E D.toList
def TQ(K:Vb)(F:Fx)(H:Hp)(c:UM)(D:ύ):Prop:=(¬F.A c/\Rd H c (.tup D))\/KT K c D
def gE(K:Vb)(F:Fx)(H:Hp):Bool->d5->UM->Prop
 |true,k,c=>∃e,TQ K F H c [.int k.1,.ref e]/\TQ K F H e (k.2.map V.int)
 |false,k,c=>k.1=0/\TQ K F H c (k.2.map V.int)
mutual
noncomputable def bi(K:Vb)(F:Fx)(H:Hp):D->V->Prop
 | .non,v=>v= .non
 | .bl b,v=>v= .bl b
 | .int i,v=>v= .int i
 | .str x,v=>v= .str x
 | .ty n,v=>v= .ty n
 | .txt,v=>∃z,v= .str z
 | .lst ds,v=>∃a E,v= .ref a/\(¬F.A a/\Rd H a (.lst E))/\a_ K F H ds E
 | .scr ns,v=>∃a,v= .ref a/\((¬F.A a/\Rd H a (.lst<|ns.map V.int))\/KL K a (ns.map V.int))
 | .tup ds,v=>∃a E,v= .ref a/\((¬F.A a/\Rd H a (.tup E))\/KT K a E)/\a_ K F H ds E
 | .obj C ns ds,v=>∃a c E,v= .ref a/\¬F.A a/\H a=U (.ins C c<|ns.zip E)/\ns.length=E.length/\a_ K F H ds E
 | .bag,v=>∃b l,F.bg=U (b,l)/\v= .ref b
 | .adr a,v=>v= .ref a
 | .dct b ks vs,v=>∃a G E,v= .ref a/\(¬F.A a/\H a=U (c8 a b G E))/\ks=E.map (·.1)/\(∀x∈E,gE K F H b x.1 x.2.1)/\a_ K F H vs (E.map (·.2.2))
noncomputable def a_(K:Vb)(F:Fx)(H:Hp):ϋ->ύ->Prop
 |[],xs=>xs=[]
 |d::ds,xs=>∃x r,xs=x::r/\bi K F H d x/\a_ K F H ds r
end
structure Tr (F:Fx) (H:Hp) (F2:Fx) (H2:Hp):Prop where
 av:∀a,¬F.A a->H a≠Y->¬F2.A a
 kp:∀a o,¬F.A a->H a=U o->H2 a=U o
 bg:F2.bg=F.bg
theorem Tr.refl(F)(H):Tr F H F H:=⟨λ_ h _=>h,λ_ _ _ h=>h,Z⟩
theorem Tr.trans(a:Tr F H F1 H1)(b:Tr F1 H1 F2 H2):Tr F H F2 H2:=
 ⟨λx c d=>b.av x (a.av x c d) (by
   cases q:H x with
   |none=>exact Vl q d
   |some o=>rw[a.kp x o c q];simp),
  λx o c d=>b.kp x o (a.av x c<|by rw[d];simp)<|a.kp x o c d,b.bg.trans a.bg⟩
theorem Rd.tr(t:Tr F H b H2)(h:¬F.A a)(r:Rd H a u):¬b.A a/\Rd H2 a u:=by
 obtain r|⟨o,r⟩:=r
 .exact⟨t.av a h (by rw[r];simp),.inl<|t.kp a _ h r⟩
 .exact⟨t.av a h (by rw[r];simp),.inr ⟨o,t.kp a _ h r⟩⟩
theorem TQ.tr{K}(t:Tr F H F2 H2)(h:TQ K F H c xs):TQ K F2 H2 c xs:=h.imp (λh=>Rd.tr t h.1 h.2) id
theorem gE.tr{K}(t:Tr F H F2 H2)(h:gE K F H b k c):gE K F2 H2 b k c:=by
 cases b with
 |true=>
  obtain⟨e,a,d⟩:=h;exact⟨e,a.tr t,d.tr t⟩
 |false=>exact⟨h.1,h.2.tr t⟩
mutual
theorem bi.tr{K:Vb}(t:Tr F H F2 H2):∀(d:D) (v:V),bi K F H d v->bi K F2 H2 d v
 | .non,v,h=>h
 | .bl b,v,h=>h
 | .int i,v,h=>h
 | .str x,v,h=>h
 | .ty n,v,h=>h
 | .txt,v,h=>h
 | .lst ds,v,h=>by
  unfold bi at h⊢;obtain⟨a,E,e,c,f⟩:=h;exact⟨a,E,e,Rd.tr t c.1 c.2,a_.tr t ds E f⟩
 | .scr ns,v,h=>by
  unfold bi at h⊢;obtain⟨a,e,c⟩:=h;exact⟨a,e,c.imp (λ⟨p,q⟩=>Rd.tr t p q) id⟩
 | .tup ds,v,h=>by
  unfold bi at h⊢;obtain⟨a,E,e,c,f⟩:=h;exact⟨a,E,e,c.imp (λ⟨p,q⟩=>Rd.tr t p q) id,a_.tr t ds E f⟩
 | .obj C ns ds,v,h=>by
  unfold bi at h⊢;obtain⟨a,k,E,e,c,f,g,j⟩:=h;exact⟨a,k,E,e,t.av a c (by rw[f];simp),t.kp a _ c f,g,a_.tr t ds E j⟩
 | .bag,v,h=>by
  unfold bi at h⊢;rw[t.bg];exact h
 | .adr a,v,h=>by
  unfold bi at h⊢;exact h
 | .dct b ks vs,v,h=>by
  unfold bi at h⊢;obtain⟨a,G,E,e,c,f,g,j⟩:=h;exact⟨a,G,E,e,⟨t.av a c.1 (by rw[c.2];simp),t.kp a _ c.1 c.2⟩,f,λx M=>(g x M).tr t,a_.tr t vs _ j⟩
theorem a_.tr{K:Vb}(t:Tr F H F2 H2):∀(ds:ϋ) (xs:ύ),a_ K F H ds xs->a_ K F2 H2 ds xs
 |[],xs,h=>h
 |d::ds,xs,h=>by
  unfold a_ at h⊢;obtain⟨x,r,e,a,b⟩:=h;exact⟨x,r,e,bi.tr t d x a,a_.tr t ds r b⟩
end
section
variable{K:Vb}{F:Fx}{H:Hp}
theorem a_.nil:a_ K F H [] []:=Z
theorem a_.cons(h:bi K F H d x)(t:a_ K F H ds xs):a_ K F H (d::ds) (x::xs):=⟨x,xs,Z,h,t⟩
theorem a_.length:∀{ds:ϋ} {xs:ύ},a_ K F H ds xs->ds.length=xs.length:=@List.rec _ _ (@λxs h=>by have e:=h;subst e;rfl) (λd ds w=>@λxs h=>by
  obtain⟨x,r,e,_,a⟩:=h;subst e;rw[U5,U5,w a])
theorem a_.get:∀{ds:ϋ} {xs:ύ} {i:Nat} {d:D},a_ K F H ds xs->ds[i]?=U d->∃x,xs[i]?=U x/\bi K F H d x
 |[],_,_,_,_,e=>by simp at e
 |c::ds,xs,0,d,h,e=>by
  obtain⟨x,r,q,a,b⟩:=h;simp_all
 |c::ds,xs,i+1,d,h,e=>by
  obtain⟨x,r,q,a,b⟩:=h;subst q;obtain⟨y,f,g⟩:=a_.get b (by exact e);simp_all
theorem a_.getV:∀{E:ϋ} {D:ύ} {i:Nat} {x:V},a_ K F H E D->D[i]?=U x->∃d,E[i]?=U d/\bi K F H d x
 |[],D,_,_,h,e=>by have q:=h;subst q;simp at e
 |c::E,D,0,d,h,e=>by
  obtain⟨x,r,q,a,b⟩:=h;simp_all
 |c::E,D,i+1,d,h,e=>by
  obtain⟨x,r,q,a,b⟩:=h;subst q;obtain⟨y,f,g⟩:=a_.getV b (by exact e);simp_all
theorem a_.append:∀{ds E:ϋ} {xs D:ύ},a_ K F H ds xs->a_ K F H E D->a_ K F H (ds++E) (xs++D):=@List.rec _ _ (@λ_ xs _ h h'=>by have q:=h;subst q;exact h') (λc ds w=>@λE xs D h h'=>by
  obtain⟨x,r,q,a,b⟩:=h;subst q;exact⟨x,r++D,Z,a,w b h'⟩)
theorem a_.take:∀{ds:ϋ} {xs:ύ} (n:Nat),a_ K F H ds xs->a_ K F H (ds.take n) (xs.take n)
 |[],xs,n,h=>by have q:=h;subst q;simp;rfl
 |c::ds,xs,0,h=>by rfl
 |c::ds,xs,n+1,h=>by
  obtain⟨x,r,q,a,b⟩:=h;subst q;exact⟨x,r.take n,Z,a,a_.take n b⟩
theorem a_.drop:∀{ds:ϋ} {xs:ύ} (n:Nat),a_ K F H ds xs->a_ K F H (ds.drop n) (xs.drop n)
 |[],xs,n,h=>by have q:=h;subst q;simp;rfl
 |c::ds,xs,0,h=>h
 |c::ds,xs,n+1,h=>by
  obtain⟨x,r,q,b,a⟩:=h;subst q;exact a_.drop n a
theorem a_.set:∀{ds:ϋ} {xs:ύ} (i:Nat) {d:D} {x:V},a_ K F H ds xs->bi K F H d x->a_ K F H (ds.set i d) (xs.set i x)
 |[],xs,i,_,_,h,_=>by have q:=h;subst q;rfl
 |c::ds,xs,0,d,x,h,hd=>by
  obtain⟨y,r,q,b,a⟩:=h;subst q;exact⟨x,r,Z,hd,a⟩
 |c::ds,xs,i+1,d,x,h,hd=>by
  obtain⟨y,r,q,b,a⟩:=h;subst q;exact⟨y,r.set i x,Z,b,a_.set i a hd⟩
theorem bi.sqL(h:bi K F H (.lst d) v):∃a D,v= .ref a/\e_ K H a D/\a_ K F H d D:=by
 unfold bi at h;obtain⟨a,D,e,b,c⟩:=h;exact⟨a,D,e,.inl b.2,c⟩
theorem bi.rdL(h:bi K F H (.lst d) v):∃a D,v= .ref a/\Rd H a (.lst D)/\a_ K F H d D:=by
 unfold bi at h;obtain⟨a,D,e,b,c⟩:=h;exact⟨a,D,e,b.2,c⟩
theorem bi.scr{D}(h:bi K F H (.scr D) v):∃a,v= .ref a/\e_ K H a (D.map V.int):=by
 unfold bi at h;obtain⟨a,e,b⟩:=h;exact⟨a,e,b.imp (λp=>p.2) id⟩
theorem bi.sqT(h:bi K F H (.tup d) v):∃a D,v= .ref a/\hW K H a D/\a_ K F H d D:=by
 unfold bi at h;obtain⟨a,D,e,b,c⟩:=h;exact⟨a,D,e,b.imp (λp=>p.2) id,c⟩
theorem bi.int(h:bi K F H (.int i) v):v= .int i:=h
theorem bi.bl(h:bi K F H (.bl i) v):v= .bl i:=h
theorem bi.str(h:bi K F H (.str i) v):v= .str i:=h
theorem bi.non(h:bi K F H .non v):v= .non:=h
theorem bi.ty(h:bi K F H (.ty n) v):v= .ty n:=h
theorem a_.ints:∀(E:ώ) {G:ύ},a_ K F H (E.map D.int) G->G=E.map V.int:=List.rec (@λG h=>h) λn E w=>@λG h=>by
  obtain⟨x,r,e,a,b⟩:=h;rw[e,w b];rw[a];rfl
theorem a_.ofInts:∀(E:ώ),a_ K F H (E.map D.int)<|E.map V.int:=List.rec Z λn E h=>⟨.int n,E.map _,Z,Z,h⟩
structure Fr (F:Fx) (H:Hp) (β:Bg):Prop where
 occ:∀a,F.A a->H a≠Y
 bgA:∀b l,F.bg=U (b,l)->F.A b/\F.A l/\b≠l
 bag:∀b l,F.bg=U (b,l)->H b=U (.lst [.ref l,.int β.i,.int β.j])/\H l=U (.lst<|β.cells.map V.int)
structure To (F:Fx) (H H':Hp) (β':Bg):Prop where
 kp:∀a o,H a=U o->(∀b l,F.bg=U (b,l)->a≠b/\a≠l)->H' a=U o
 fr:Fr F H' β'
theorem To.refl(fr:Fr F H a):To F H H a:=⟨λ_ _ h _=>h,fr⟩
theorem To.trans(a:To F H c β1)(b:To F c d β2):To F H d β2:=⟨λx o h n=>b.kp x o (a.kp x o h n) n,b.fr⟩
theorem Fr.same(fr:Fr F H d)(s:cw H c):To F H c d:=
 ⟨λa o h _=>s a o h,⟨λa h q=>(by
  cases e:H a with
  |none=>exact fr.occ a h e
  |some o=>exact Vl ((s a o e).symm.trans q) rc),fr.bgA,λb l e=>⟨s _ _ (fr.bag b l e).1,s _ _ (fr.bag b l e).2⟩⟩⟩
theorem Fr.upd{F:Fx}{H:Hp}(fr:Fr F H a)(o:HO)(h:H p=Y):To F H (upd H p o) a:=fr.same<|cw.upd h
theorem Fr.fresh(fr:Fr F H a)(h:H p=Y):¬F.A p:=λq=>fr.occ p q h
theorem To.tr(fr:Fr F H f)(t:To F H c d):Tr F H F c:=
 ⟨λ_ h _=>h,λa o h e=>t.kp a o e λb l q=>⟨λz=>h<|z▸(fr.bgA b l q).1,λz=>h<|z▸(fr.bgA b l q).2.1⟩,Z⟩
abbrev Dn:=List ϓ
structure i_ (K:Vb) (F:Fx) (H:Hp) (δ:Dn) (σ:St):Prop where
 len:δ.length=σ.length
 tell:∀(i:Nat) (d:D),δ[i]?=U (U d)->∃v,σ[i]?=U (U v)/\bi K F H d v
theorem i_.tr(t:Tr F H a b)(h:i_ K F H c f):i_ K a b c f:=⟨h.len,λi d e=>by obtain⟨v,h1,h2⟩:=h.tell i d e;exact ⟨v,h1,bi.tr t d v h2⟩⟩
theorem i_.set{K}{F}{H}{D}{a}(h:i_ K F H D a)(E:bi K F H d v):i_ K F H (D.set i<|U d) (a.set i<|U v):=by
 refine⟨by rw[VM,VM,h.len],λj c e=>?_⟩;rw[WG]at e;rw[WG];by_cases q:i=j
 .subst q
  rw[US Z]at e⊢;split at e
  .rename_i b
   cases e;rw[US<|by rw[<-h.len];exact b];exact⟨v,Z,E⟩
  .cases e
 .rw[UU q]at e⊢
  exact h.tell j c e
def Sub(F E:Dn):Prop:=∀(i:Nat) (d:D),F[i]?=U (U d)->E[i]?=U (U d)
theorem i_.sub{E D}(h:i_ K F H D a)(s:Sub E D)(l:ϱ E=ϱ D):i_ K F H E a:=⟨l.trans h.len,λi d e=>h.tell i d<|s i d e⟩
abbrev M(D:Type):=Bg->Option (Except UM D×Bg)
abbrev Ϥ:=Dn->M Bool
noncomputable def M.ret{D:Type}(a:D):M D:=λE=>U (.ok a,E)
noncomputable def M.bind{D b:Type}(m:M D)(k:D->M b):M b:=λE=>match m E with
 |none=>Y
 |some (.error C,β1)=>U (.error C,β1)
 |some (.ok a,β1)=>k a β1
noncomputable def M.ofO{D:Type}(o:Option D):M D:=λE=>match o with
 |some a=>U (.ok a,E)
 |none=>Y
noncomputable def M.fail{D:Type}:M D:=λ_=>Y
theorem M.bind_some{D b}(a)(k:D->M b):M.bind (M.ofO<|U a) k=k a:=Z
theorem M.bind_ok{D b}{m}{k:D->M b}{β β1}{a}(h:m β=U (.ok a,β1)):M.bind m k β=k a β1:=by unfold M.bind;rw[h]
theorem M.bind_err{k:E->M a}{F D}{C}(h:m F=U (.error C,D)):M.bind m k F=U (.error C,D):=by unfold M.bind;rw[h]
def run{D c:Type}(R:Hp->D->c->Prop)(F:Fx)(E:ϔ)(e:St)(m:M D)(H:Hp)(Q:c->Hp->Prop)(G:Bg):Prop:=
 ∃r a,m G=U (r,a)/\match r with
  | .ok d=>∀v b,To F H b a->R b d v->Q v b
  | .error C=>∀b,To F H b a->E e (.ref C) Y b
theorem run.mono{D c}{R:Hp->D->c->Prop}{m}{Q i:c->Hp->Prop}(h:run R F E g m H Q β)(f:∀v a,Q v a->i v a):run R F E g m H i β:=by
 obtain⟨r,b,e,h⟩:=h;refine⟨r,b,e,?_⟩;cases r with
 |ok d=>exact λv a t q=>f v a<|h v a t q
 |error C=>exact h
theorem run.bind{D l i j}{R:Hp->D->l->Prop}{R2:Hp->i->j->Prop}{F}{E}{b}{m}{k:D->M i}{H}{Q:j->Hp->Prop}{β}(h:run R2 F E b (M.bind m k) H Q β):
  run R F E b m H (λv a=>∃d β1,To F H a β1/\R a d v/\run R2 F E b (k d) a Q β1) β:=by
 obtain⟨r,c,e,h⟩:=h;cases q:m β with
 |none=>unfold M.bind at e;rw[q]at e;cases e
 |some z=>
  obtain⟨G,β1⟩:=z;refine⟨G,β1,q,?_⟩;cases G with
  |error C=>
   rw[M.bind_err q]at e;cases e;exact h
  |ok d=>
   rw[M.bind_ok q]at e;refine λv a t K=>⟨d,β1,t,K,r,c,e,?_⟩;cases r with
   |ok S=>exact λv2 f g n=>h v2 f (t.trans g) n
   |error C=>exact λf g=>h f<|t.trans g
theorem run.ret{D b}{R:Hp->D->b->Prop}{a}{v}{Q:b->Hp->Prop}(fr:Fr F H β)(h:run R F E c (M.ret a) H Q β)(r:R H a v):Q v H:=by
 obtain⟨_,_,e,h⟩:=h;cases e;exact h v H (To.refl fr) r
theorem run.ofO{D c}{R:Hp->D->c->Prop}{o}{Q:c->Hp->Prop}{G}(h:run R F E d (M.ofO o) H Q G):∃a,o=U a/\∀v b,To F H b G->R b a v->Q v b:=by
 obtain⟨_,_,e,h⟩:=h;cases o with
 |none=>cases e
 |some a=>cases e;exact⟨a,Z,h⟩
abbrev FD:=Dn->M D
abbrev a0S:=Option<|FD
abbrev FL:=Dn->M ϋ
def tV(K:Vb)(f:FD)(E:ϔ):TE:=λa H Q=>∃F D G,Fr F H G/\i_ K F H D a/\run (bi K F) F E a (f D) H Q G
def ix(K:Vb)(f:FL)(E:ϔ):TA:=λa H Q=>∃F D G,Fr F H G/\i_ K F H D a/\run (a_ K F) F E a (f D) H Q G
def io(K:Vb)(f:Ϥ)(E:ϔ):TT:=λc H Q=>∃F D G,Fr F H G/\i_ K F H D c/\run (λ_ (a b:Bool)=>b=a) F E c (f D) H Q G
theorem _root_.L2.PE.imp(h:PE X e t)(f:∀a H Q,c a H Q->t a H Q):PE X e c:=λb s a H Q I q=>h b s a H Q I<|f a H Q q
theorem _root_.L2.PT.imp(h:PT X e t)(f:∀a H Q,c a H Q->t a H Q):PT X e c:=λb s a H Q I q=>h b s a H Q I<|f a H Q q
theorem _root_.L2.PW.imp(h:PW X e t)(f:∀a H Q,d a H Q->t a H Q):PW X e d:=λc b s a H Q I q=>h c b s a H Q I<|f a H Q q
theorem _root_.L2.PA.imp(h:PA X e t)(f:∀a H Q,c a H Q->t a H Q):PA X e c:=λpos b s a H Q I q=>h _ b s a H Q I<|f a H Q q
def ac(i:Nat):FD:=λD=>M.ofO<|D.getD i Y
def fC(d:D):FD:=λ_=>M.ret d
def f1(E:D->ϓ)(f:FD):FD:=λF=>M.bind (f F) λa=>M.ofO<|E a
def f2(op:a1b)(f g:FD):FD:=λD=>M.bind (f D) λa=>M.bind (g D) λb=>M.ofO<|op a b
noncomputable def az:FL:=λ_=>M.ret []
def af(f:FD)(g:FL):FL:=λD=>M.bind (f D) λa=>M.bind (g D) λE=>M.ret<|a::E
def aX(D:ϋ->ϓ)(g:FL):FD:=λE=>M.bind (g E) λF=>M.ofO<|D F
def bW(m:ϋ->M D)(g:FL):FD:=λE=>M.bind (g E) λF=>m F
variable{X:Cx}{E:ϔ}{e a b:Expr}{es:List Expr}{pos:Ye}
theorem SL(i)(h:PE X (.Name x pos)<|iR i):PE X (.Name x pos) (tV X.K (ac i) E):=h.imp λl H Q c=>by
 obtain⟨F,a,b,fr,f,r⟩:=c;obtain⟨d,e,r⟩:=run.ofO r;have g:a[i]?=U (U d):=by
  rw[UO]at e;cases q:a[i]? with
  |none=>rw[q]at e;cases e
  |some z=>rw[q]at e;simp_all
 obtain⟨v,j,k⟩:=f.tell i d g;exact⟨v,j,r v H (To.refl fr) k⟩
theorem sA(h:PE X e<|tC v)(a:∀F H,bi X.K F H d v):PE X e (tV X.K (fC d) E):=h.imp λf H Q c=>by obtain⟨F,b,D,fr,g,r⟩:=c;exact run.ret fr r<|a F H
theorem ag{i j pos}:PE X (.Constant (.int i) j pos) (tV X.K (fC<|.int i) E):=sA cD λ_ _=>Z
theorem rC{i j pos}:PE X (.Constant (.bool i) j pos) (tV X.K (fC<|.bl i) E):=sA Th λ_ _=>Z
theorem CS{j pos}:PE X (.Constant .none j pos) (tV X.K (fC .non) E):=sA QY λ_ _=>Z
theorem dS{i j pos}:PE X (.Constant (.str i) j pos) (tV X.K (fC<|.str i) E):=sA QV λ_ _=>Z
theorem d8:PA X [] (ix X.K az E):=jy.imp λd H Q c=>by obtain⟨F,a,b,fr,f,r⟩:=c;exact run.ret fr r a_.nil
theorem bD(D:PE X e<|tV X.K f E)(k:PA X es<|ix X.K g E)(G:autoParam (Ϛ X e es) z6):PA X (e::es) (ix X.K (af f g) E):=
 (fQ D k G).imp λm H Q c=>k4 c λF b M fr i r=>⟨F,b,M,fr,i,(run.bind r).mono λv n ⟨d,a,t,S,V⟩=>
  ⟨F,b,a,t.fr,i.tr<|t.tr fr,(run.bind V).mono λq o c=>ro c λs p j h l=>run.ret j.fr l<|a_.cons (bi.tr (j.tr t.fr) _ _ S) h⟩⟩
def bz(K:Vb)(r:R2)(E:a1b):Prop:=∀(F:Fx) (H:Hp) (a:Bg) (Q:VK) (b e d:D) (v1 v2:V),Fr F H a->bi K F H b v1->bi K F H e v2->E b e=U d->
 (∀v c,To F H c a->bi K F c d v->Q v c)->r v1 v2 H Q
def N7(K:Vb)(r:V->Hp->VK->Prop)(e:D->ϓ):Prop:=∀(F:Fx) (H:Hp) (a:Bg) (Q:VK) (b d:D) (v1:V),Fr F H a->bi K F H b v1->e b=U d->
 (∀v c,To F H c a->bi K F c d v->Q v c)->r v1 H Q
def dA(K:Vb)(r:a0J)(E:ϋ->ϓ):Prop:=∀(F:Fx) (H:Hp) (a:Bg) (Q:VK) (b:ϋ) (d:D) (e:ύ),Fr F H a->a_ K F H b e->E b=U d->
 (∀v c,To F H c a->bi K F c d v->Q v c)->r e H Q
theorem sO(l:bz K r op)(h:tV K (f2 op f g) E s H Q):tOp r (tV K f E) (tV K g E) s H Q:=by
 obtain⟨F,e,D,fr,j,h⟩:=h;refine⟨F,e,D,fr,j,(run.bind h).mono λv q c=>ro c λd a t G M=>⟨F,e,a,t.fr,j.tr<|t.tr fr,(run.bind M).mono λv2 n c=>ro c λS b m i o=>?_⟩⟩;obtain⟨V,p,k⟩:=run.ofO o;exact l F n b Q d S V v v2 m.fr (bi.tr (m.tr t.fr) _ _ G) i p k
theorem aD(c:g8 X (XU op) r)(l:bz X.K r o)(e:PE X a<|tV X.K f E)(d:PE X b<|tV X.K g E):PE X (.BinOp a op b pos) (tV X.K (f2 o f g) E):=
 (eL c e d).imp λ_ _ _=>sO l
theorem jd(c:g8 X (We op) r)(l:bz X.K r o)(e:PE X a<|tV X.K f E)(d:PE X b<|tV X.K g E)(D:autoParam (ZZ op b=UK) x3):PE X (.Compare a [op] [b] pos) (tV X.K (f2 o f g) E):=
 (ON c e d D).imp λ_ _ _=>sO l
theorem uJ(g:UnR X (unaryOp op) r)(l:N7 X.K r o)(e:PE X a<|tV X.K f E):PE X (.UnaryOp op a pos) (tV X.K (f1 o f) E):=
 (Tg g e).imp λm H Q c=>k4 c λF D G fr i h=>⟨F,D,G,fr,i,(run.bind h).mono λv j c=>ro c λd b t M S=>by obtain⟨d3,e3,k⟩:=run.ofO S;exact l F j b Q d d3 v t.fr M e3 k⟩
theorem aL(c:V_ X r)(l:bz X.K r o)(e:PE X a<|tV X.K f E)(d:PE X b<|tV X.K g E)(D:CJ b:=by exact λ_ _=>Z):PE X (.Subscript a b pos) (tV X.K (f2 o f g) E):=
 (dD c e d D).imp λ_ _ _=>sO l
theorem HA(l:dA K r op)(h:tV K (aX op g) E m H Q):tCB r (ix K g E) m H Q:=by
 obtain⟨F,b,e,fr,c,h⟩:=h;refine⟨F,b,e,fr,c,(run.bind h).mono λv f i=>ro i λd a t D G=>?_⟩;obtain⟨M,j,k⟩:=run.ofO G;exact l F f a Q d M v t.fr D j k
theorem bL{f:String}(h:cT X (.builtin f) r)(l:dA X.K r op)(i:Gl X x)(a:X.mg x=Y)(j:Yx x=U (.builtin f))(b:PA X (e::es)<|ix X.K g E)(D:autoParam (x≠vU) z7)(c:autoParam (ϟ x) z7)
  (k:autoParam (Ϛ X e es) z6) (d:autoParam (ϣ X pos es) z6):PE X (.Call (.Name x p) (e::es) [] pos) (tV X.K (aX op g) E):=
 (nR h i a j b D c k d).imp λ_ _ _=>HA l
theorem bK(f:cT X (.type T) r)(l:dA X.K r op)(h:Gl X x)(a:X.mg x=Y)(i:Yx x=U (.type T))(b:PA X (e::es)<|ix X.K g E)(D:autoParam (x≠vU) z7)(c:autoParam (ϟ x) z7)
  (j:autoParam (Ϛ X e es) z6) (d:autoParam (ϣ X pos es) z6):PE X (.Call (.Name x p) (e::es) [] pos) (tV X.K (aX op g) E):=
 (v6 f h a i b D c j d).imp λ_ _ _=>HA l
noncomputable def fZ(a:ϋ):ϓ:=if a.length<=Ve then U (.tup a)else Y
noncomputable def gu(ds:ϋ):ϓ:=if ds.length<=Ve then U (.lst ds)else Y
theorem bi.newT(fr:Fr F H f)(h:H p=Y)(a:a_ K F H d c):bi K F (upd H p<|.tup c) (.tup d) (.ref p):=
 ⟨p,c,Z,.inl ⟨fr.fresh h,.inl ay⟩,a_.tr ((fr.upd _ h).tr fr) _ _ a⟩
theorem bi.newL(fr:Fr F H f)(h:H p=Y)(a:a_ K F H d c):bi K F (upd H p<|.lst c) (.lst d) (.ref p):=
 ⟨p,c,Z,⟨fr.fresh h,.inl ay⟩,a_.tr ((fr.upd _ h).tr fr) _ _ a⟩
theorem bH(h:PA X es<|ix X.K g E):PE X (.Tuple es m pos) (tV X.K (aX fZ g) E):=
 (QU h).imp λj H Q d=>k4 d λF b e fr i r=>⟨F,b,e,fr,i,(run.bind r).mono λM l d=>by
  obtain⟨S,D,t,a,G⟩:=d;obtain⟨V,c,k⟩:=run.ofO G;unfold fZ at c;split at c
  .cases c
   exact⟨by rw[<-a.length];assumption,λp f=>k _ _ (t.fr.upd _ f)<|bi.newT t.fr f a⟩
  .cases c⟩
theorem fU(h:PA X es<|ix X.K g E):PE X (.List es pos) (tV X.K (aX gu g) E):=
 (fM h).imp λj H Q d=>k4 d λF b e fr i r=>⟨F,b,e,fr,i,(run.bind r).mono λM l d=>by
  obtain⟨S,D,t,a,G⟩:=d;obtain⟨V,c,k⟩:=run.ofO G;unfold gu at c;split at c
  .cases c
   exact⟨by rw[<-a.length];assumption,λp f=>k _ _ (t.fr.upd _ f)<|bi.newL t.fr f a⟩
  .cases c⟩
def P_(K:Vb)(n:Nat)(m:ϋ->M D):Sp:=λa H Q E=>a.length=n/\∃F b e,Fr F H e/\a_ K F H b a/\run (bi K F) F (λ_=>E) [] (m b) H Q e
variable{p:Ye}{x:VF}{k n:Nat}{f:UM}{fd:U9}{ps:ϒ}
theorem run.toE{a c}{R:Hp->a->c->Prop}{m}{Q:c->Hp->Prop}{b}(h:run R F E d m H Q b):run R F (λ_=>E d) [] m H Q b:=h
theorem GO(G:fw X.prog X.w X.K X.mg X.base (hO X.prog X.w) k f fd ps<|P_ X.K n m)(q:d4 k X.A)(u:Gl X x)(V:X.mg x=U (.ref f))(v:keepIn X.K (.ref f)=O)(y:cL X.K fd ps [])(s:eB (hO X.prog X.w) X E)
  (z:PA X (e::es)<|ix X.K g E) (T:∀a b r h,g a b=U (.ok r,h)->r.length=n) (c:autoParam (ϟ x) z7) (B:autoParam (Ϛ X e es) z6) (d:autoParam (ϣ X pos es) z6):
  PE X (.Call (.Name x p) (e::es) [] pos) (tV X.K (bW m g) E):=
 (qx G q u V v y .nil s z c B d).imp λP H Q I=>k4 I λF a b fr J r=>⟨F,a,b,fr,J,by
  obtain⟨M,i,l,o⟩:=run.bind r;refine⟨M,i,l,?_⟩;cases M with
  |error C=>exact o
  |ok R=>
   intro f5 L t S;obtain⟨W,D,N,j,o7⟩:=o f5 L t S;refine⟨by rw[VA,<-S.length,T _ _ _ _ l],F,W,D,N.fr,by rw[VA];exact j,run.toE o7⟩⟩
theorem M0(h:az d g=U (.ok r,c)):ϱ r=0:=by cases h;rfl
theorem bq{f}(d:∀a b r c,g a b=U (.ok r,c)->ϱ r=n):∀a b r c,af f g a b=U (.ok r,c)->ϱ r=n+1:=by
 intro a b r c h;unfold af M.bind at h;split at h
 .cases h
 .cases h
 .dsimp only at h
  split at h
  .cases h
  .cases h
  .rename_i as _ i
   cases h;rw[U5,d _ _ _ _ i]
noncomputable def q_(g:Int->Int->ϓ):D->D->ϓ
 | .int i,.int j=>g i j
 |_,_=>Y
theorem k7{a b d}(h:q_ g a b=U d):∃i j,a= .int i/\b= .int j/\g i j=U d:=by
 cases a<;>first|cases h|(cases b<;>first|cases h|exact⟨_,_,Z,Z,h⟩)
theorem JT{g:a0M}:bz K (up λi j=> .int<|g i j) (q_ λi j=>U<|.int<|g i j):=λF H a Q b f d v1 v2 fr c h e k=>by
 obtain⟨i,j,rfl,rfl,e⟩:=k7 e;cases e;exact⟨i,j,c,h,k _ H (To.refl fr) Z⟩
theorem nZ{g:Int->Int->Bool}:bz K (up λi j=> .bl<|g i j) (q_ λi j=>U<|.bl<|g i j):=λF H a Q b f d v1 v2 fr c h e k=>by
 obtain⟨i,j,rfl,rfl,e⟩:=k7 e;cases e;exact⟨i,j,c,h,k _ H (To.refl fr) Z⟩
theorem pI{c:Int->Int->Bool}{g:a0M}(l:∀i j,c i j=O->C i j):bz K (rI C λi j=> .int<|g i j) (q_ λi j=>if c i j=O then U (.int<|g i j)else Y):=λF H a Q b f d v1 v2 fr m o e k=>by
 obtain⟨i,j,rfl,rfl,h⟩:=k7 e;split at h
 .cases h
  exact⟨i,j,m,o,l _ _ (by assumption),k _ H (To.refl fr) Z⟩
 .cases h
noncomputable def cG(i:Int):Bool:=decide (i.natAbs<2^1000)
def xL:D->D->ϓ:=q_ λi j=>U<|.int<|i-j
def ox:D->D->ϓ:=q_ λi j=>if(decide (0<j)&&decide (j.natAbs.log2<9000))=O then U (.int<|i/j)else Y
def yy:D->D->ϓ:=q_ λi j=>if decide (0<j)=O then U (.int<|i % j)else Y
def ltD:D->D->ϓ:=q_ λi j=>U<|.bl<|decide (i<j)
def leD:D->D->ϓ:=q_ λi j=>U<|.bl<|decide (i<=j)
def B_:D->D->ϓ:=q_ λi j=>U<|.bl<|decide (j<i)
theorem fG:bz K (up λi j=> .int<|i-j) xL:=JT
theorem vg:bz K (up λi j=> .bl<|decide (i<j)) ltD:=nZ
theorem pK:bz K (up λi j=> .bl<|decide (i<=j)) leD:=nZ
theorem i8:bz K (up λi j=> .bl<|decide (j<i)) B_:=nZ
theorem pL:bz K (rI xx λi j=> .int<|i/j) ox:=pI λi j h=>by
 simp only[Vu,Vx]at h;exact h
theorem NO:bz K (rI (λ_ j=>0<j) λi j=> .int<|i % j) yy:=pI λi j h=>WP h
noncomputable def DU:R2:=λx y H Q=>∃l b a c,x= .ref l/\y= .ref b/\Rd H l (.lst a)/\Rd H b (.lst c)/\a.length+c.length<=Ve/\∀p,H p=Y->Q (.ref p) (upd H p<|.lst<|a++c)
theorem AT:g8 X (XU .Add) DU:=by
 intro d s t H x y v u Q I i j h;obtain⟨l,b,f,w,rfl,rfl,m,hB,A,q⟩:=h;cases i;cases j;obtain⟨z,a,n,r,e⟩:=m.ok I.hok;obtain⟨B,c,C,g,o⟩:=hB.ok I.hok;have J:=r.length;have L:=g.length;refine PySem.P.add_list e o ?_ (by simp only[Vf];lia);rw[show a.toArray++c.toArray=(a++c).toArray by simp];exact⟨.ref _,_,I.lnew (r.append g) (by rw[Va];omega),Z,q _ I.fresh⟩
def DV(K:Vb):R2:=λx y H Q=>∃a b e,x= .ref a/\y= .ref b/\hW K H a []/\hW K H b e/\Q (.ref b) H
theorem OT:g8 X (XU .Add) (DV X.K):=by
 intro l s R H x y v u Q I t w h;obtain⟨a,b,F,rfl,rfl,f,A,q⟩:=h;cases t;cases w;obtain⟨k,p,B,_⟩:=I.tuple f;obtain⟨m,P,C,_⟩:=I.tuple A;cases p;obtain⟨⟨G,D,J,i⟩,o,r,n,e⟩:=B;obtain⟨⟨M,E,L,j⟩,c,d,N,g⟩:=C;subst r e d g;exact PySem.concat_meets ⟨_,o,Z⟩ ⟨_,c,Z⟩ noFill_tuple_add seq_tuple_add PySem.F.slot_tuple_add PySem.F.entry_tuple_add (PySem.F.args_tuple_add_2 _ _) (tuple_addW0 a b _ _ n N D E i j re) ⟨o,c,⟨.ref b,H,I,Z,q⟩⟩
noncomputable def dG:D->D->ϓ
 | .int i,.int j=>U<|.int<|i+j
 | .tup [],.tup b=>U<|.tup b
 | .lst a,.lst b=>if a.length+b.length<=Ve then U (.lst<|a++b)else Y
 | .tup (c::a),.tup b=>if(c::a).length+b.length<=Ve then U (.tup<|c::a++b)else Y
 |_,_=>Y
theorem bu:bz K (λx y H Q=>(up λi j=> .int<|i+j) x y H Q\/DU x y H Q\/DT K x y H Q\/DV K x y H Q) dG:=λF H E Q G M d v1 v2 fr h l e k=>by
 unfold dG at e;split at e
 .cases e
  exact .inl ⟨_,_,h,l,k _ H (To.refl fr) Z⟩
 .cases e
  obtain⟨a,f,rfl,n,c⟩:=bi.sqT h;obtain⟨b,D,rfl,m,g⟩:=bi.sqT l;have q:=c;subst q;exact .inr<|.inr<|.inr ⟨a,b,D,Z,Z,n,m,k _ H (To.refl fr) l⟩
 .split at e
  .cases e
   obtain⟨a,f,rfl,n,c⟩:=bi.rdL h;obtain⟨b,D,rfl,m,g⟩:=bi.rdL l;exact .inr<|.inl ⟨a,b,f,D,Z,Z,n,m,by rw[<-c.length,<-g.length];assumption,λp o=>k _ _ (fr.upd _ o)<|bi.newL fr o<|c.append g⟩
  .cases e
 .split at e
  .cases e
   obtain⟨a,f,rfl,n,c⟩:=bi.sqT h;obtain⟨b,D,rfl,m,g⟩:=bi.sqT l;have r:=c.length;have t:=g.length;refine .inr<|.inr<|.inl ⟨a,b,f,D,Z,Z,n,m,(λz=>by subst z;cases r),by rw[<-r,<-t];assumption,λz=>?_,λ_ p o=>k _ _ (fr.upd _ o)<|bi.newT fr o<|c.append g⟩;subst z;have u:=List.length_eq_zero_iff.mp t;subst u;rw[VA]at k;exact k _ H (To.refl fr) h
  .cases e
 .cases e
theorem aI:g8 X (XU .Add) (λx y H Q=>(up λi j=> .int<|i+j) x y H Q\/DU x y H Q\/DT X.K x y H Q\/DV X.K x y H Q):=tU.or<|AT.or<|OS.or OT
def db:D->D->ϓ:=q_ λi j=>if(cG i&&cG j)=O then U (.int<|i*j)else Y
theorem cF:bz K (rI xw λi j=> .int<|i*j) db:=pI λi j h=>by
 simp only[Vu,cG,Vx]at h;exact h
noncomputable def eqS:D->D->a0R
 | .non,.non=>U O
 | .int i,.int j=>U<|decide (i=j)
 | .bl i,.bl j=>U<|decide (i=j)
 | .str i,.str j=>U<|decide (i=j)
 | .int _,.str _=>U UK
 | .str _,.int _=>U UK
 | .bl _,.str _=>U UK
 | .str _,.bl _=>U UK
 | .non,.int _=>U UK
 | .int _,.non=>U UK
 | .non,.str _=>U UK
 | .str _,.non=>U UK
 |_,_=>Y
theorem KP{a b}(h:eqS a b=U c)(d:bi K F H a v)(g:bi K F H b w):LD v w=O/\decide (v=w)=c:=by
 cases a<;>first|cases h|(cases b<;>first|(cases h;cases d;cases g;exact⟨Z,Z⟩)|(cases h;cases d;cases g;exact⟨Z,rc⟩)|cases h)
noncomputable def isN:D->Bool
 | .non=>O
 |_=>UK
theorem R6(h:bi K F H d v):decide (v= .non)=isN d:=by
 cases d with
 |non=>cases h.non;rfl
 |bl b=>cases h.bl;rfl
 |int b=>cases h.int;rfl
 |str b=>cases h.str;rfl
 |ty b=>cases h.ty;rfl
 |txt=>unfold bi at h;obtain⟨z,rfl⟩:=h;rfl
 |lst ds=>obtain⟨a,e,rfl,_⟩:=bi.sqL h;rfl
 |tup ds=>obtain⟨a,e,rfl,_⟩:=bi.sqT h;rfl
 |scr ds=>obtain⟨a,rfl,_⟩:=bi.scr h;rfl
 |obj C ns ds=>
  unfold bi at h;obtain⟨a,_,_,rfl,_⟩:=h;rfl
 |bag=>
  unfold bi at h;obtain⟨a,_,_,rfl⟩:=h;rfl
 |adr a=>
  unfold bi at h;obtain rfl:=h;rfl
 |dct b ks vs=>
  unfold bi at h;obtain⟨a,_,e,rfl,_⟩:=h;rfl
noncomputable def EX:D->D->ϓ
 |a,.non=>U<|.bl<|isN a
 |_,_=>Y
theorem EO:bz K (λx y H Q=>y= .non/\Q (.bl<|decide (x= .non)) H) EX:=λF H a Q b f d v1 v2 fr c g e k=>by
 unfold EX at e;split at e
 .cases e
  exact⟨g,by rw[R6 c];exact k _ H (To.refl fr) Z⟩
 .cases e
noncomputable def eM:D->Bool
 | .int _=>O| .bl _=>O| .str _=>O| .non=>O|_=>UK
noncomputable def eqF:D->D->Bool
 | .non,.non=>O
 | .bl a,.bl b=>a==b
 | .bl a,.int b=>(if a then 1 else 0)==b
 | .int a,.bl b=>a==(if b then 1 else 0)
 | .int a,.int b=>a==b
 | .str a,.str b=>a==b
 |_,_=>UK
noncomputable def d9:D->Ϧ
 | .lst a=>U a
 | .tup a=>U a
 |_=>Y
def inB(x:D)(a:ϋ):Bool:=a.any λy=>eqF y x
def x4(a:Bool)(x y:D):ϓ:=(d9 y).bind λb=>if(eM x&&b.all eM)=O then U (.bl (if a then !inB x b else inB x b))else Y
theorem vm(f:eM d=O)(h:bi K F H d v):jk v=O:=by
 cases d<;>first|(cases h.int;rfl)|(cases h.bl;rfl)|(cases h.str;rfl)|(cases h.non;rfl)|cases f
theorem Sm{a b}(g:eM a=O)(h:eM b=O)(c:bi K F H a v)(d:bi K F H b w):eqV v w=eqF a b:=by
 cases a<;>first
  |(exfalso;exact UX g)
  |(cases b<;>first
   |(exfalso;exact UX h)
   |(cases c.int;cases d.int;rfl)|(cases c.int;cases d.bl;rfl)|(cases c.int;cases d.str;rfl)|(cases c.int;cases d.non;rfl)
   |(cases c.bl;cases d.int;rfl)|(cases c.bl;cases d.bl;rfl)|(cases c.bl;cases d.str;rfl)|(cases c.bl;cases d.non;rfl)
   |(cases c.str;cases d.int;rfl)|(cases c.str;cases d.bl;rfl)|(cases c.str;cases d.str;rfl)|(cases c.str;cases d.non;rfl)
   |(cases c.non;cases d.int;rfl)|(cases c.non;cases d.bl;rfl)|(cases c.non;cases d.str;rfl)|(cases c.non;cases d.non;rfl))
theorem yX{x}(c:eM x=O)(e:bi K F H x v):∀{b:ϋ} {a:ύ},b.all eM=O->a_ K F H b a->a.all jk=O/\inV v a=inB x b
 |[],a,_,h=>by have q:=h;subst q;exact⟨Z,Z⟩
 |d::b,a,f,h=>by
  obtain⟨y,r,q,g,j⟩:=h;subst q;rw[List.all_cons,Vu]at f;obtain⟨l,i⟩:=yX c e f.2 j;refine⟨by rw[List.all_cons,vm f.1 g,l];rfl,?_⟩;unfold inV inB at i⊢;rw[Zz,Zz,i,Sm f.1 c g e]
theorem lc:bz K (rIn K neg) (x4 neg):=λF H p Q x n d v1 v2 fr g l e k=>by
 unfold x4 at e;cases q:d9 n with
 |none=>rw[q]at e;cases e
 |some D=>
  rw[q]at e;simp only[WJ]at e;split at e
  .rename_i c
   rw[Vu]at c;cases e;cases n<;>first|(cases q;obtain⟨a,b,rfl,f,h⟩:=bi.sqL l;obtain⟨i,j⟩:=yX c.1 g c.2 h;exact⟨a,b,Z,.inl f,vm c.1 g,i,by rw[j];exact k _ H (To.refl fr) Z⟩)|(cases q;obtain⟨a,b,rfl,f,h⟩:=bi.sqT l;obtain⟨i,j⟩:=yX c.1 g c.2 h;exact⟨a,b,Z,.inr f,vm c.1 g,i,by rw[j];exact k _ H (To.refl fr) Z⟩)|cases q
  .cases e
def f0:D->D->ϓ
 | .lst xs,.int i=>l6 xs i
 | .tup xs,.int i=>l6 xs i
 |_,_=>Y
theorem uB(h:a_ K F H ds c)(e:l6 ds i=U d):∃v,l6 c i=U v/\bi K F H d v:=by
 unfold l6 at e⊢;rw[<-h.length];cases q:ko _ i with
 |none=>rw[q]at e;cases e
 |some j=>
  rw[q]at e;exact h.get e
theorem aO:bz K (λx y H Q=>uU K x y H Q\/LJ K x y H Q) f0:=λF H f Q n p d v1 v2 fr h i e k=>by
 unfold f0 at e;split at e
 .obtain⟨a,xs,rfl,r1,c⟩:=bi.sqL h
  obtain⟨v,g,b⟩:=uB c e;exact .inl ⟨a,xs,_,v,Z,i,r1,g,k _ H (To.refl fr) b⟩
 .obtain⟨a,xs,rfl,r1,c⟩:=bi.sqT h
  obtain⟨v,g,b⟩:=uB c e;exact .inr ⟨a,xs,_,v,Z,i,r1,g,k _ H (To.refl fr) b⟩
 .cases e
theorem au:V_ X (λx y H Q=>uU X.K x y H Q\/LJ X.K x y H Q):=b9.or R5
noncomputable def fF:ϋ->ϓ
 |[.lst xs]=>U<|.int xs.length
 |[.tup xs]=>U<|.int xs.length
 |_=>Y
theorem a_.one(h:a_ K F H [d] i):∃v,i=[v]/\bi K F H d v:=by
 obtain⟨x,r,e,c,g⟩:=h;have q:=g;subst q;exact⟨x,e,c⟩
theorem a_.two(h:a_ K F H [d,c] l):∃v w,l=[v,w]/\bi K F H d v/\bi K F H c w:=by
 obtain⟨x,r,e,g,i⟩:=h;obtain⟨y,rfl,j⟩:=a_.one i;exact⟨x,y,e,g,j⟩
theorem TF:dA K (λb H Q=>∃p f,b=[.ref p]/\(e_ K H p f\/hW K H p f)/\Q (.int f.length) H) fF:=λF H n Q x d D fr h e k=>by
 unfold fF at e;split at e
 .cases e
  obtain⟨v,rfl,g⟩:=a_.one h;obtain⟨a,b,rfl,r,c⟩:=bi.sqL g;exact⟨a,b,Z,.inl r,by rw[<-c.length];exact k _ H (To.refl fr) Z⟩
 .cases e
  obtain⟨v,rfl,g⟩:=a_.one h;obtain⟨a,b,rfl,r,c⟩:=bi.sqT g;exact⟨a,b,Z,.inr r,by rw[<-c.length];exact k _ H (To.refl fr) Z⟩
 .cases e
noncomputable def vC:ϋ->ϓ
 |[.int i]=>U<|.int (if i<0 then -i else i)
 |_=>Y
theorem NR:dA K (λa H Q=>∃i,a=[.int i]/\Q (.int (if i<0 then -i else i)) H) vC:=λF H b Q f d n fr h e k=>by
 unfold vC at e;split at e
 .cases e
  obtain⟨v,rfl,g⟩:=a_.one h;cases g.int;exact⟨_,Z,k _ H (To.refl fr) Z⟩
 .cases e
noncomputable def yA:ϋ->ϓ
 |[.int i,.int j]=>U<|.int (if j<i then j else i)
 |_=>Y
noncomputable def EH:ϋ->ϓ
 |[.int i,.int j]=>U<|.int (if j>i then j else i)
 |_=>Y
theorem xh:dA K (λa H Q=>∃i j,a=[.int i,.int j]/\Q (.int (if j<i then j else i)) H) yA:=λF H f Q n d p fr h e k=>by
 unfold yA at e;split at e
 .cases e
  obtain⟨v,w,rfl,g,b⟩:=a_.two h;cases g.int;cases b.int;exact⟨_,_,Z,k _ H (To.refl fr) Z⟩
 .cases e
theorem NP:dA K (λa H Q=>∃i j,a=[.int i,.int j]/\Q (.int (if j>i then j else i)) H) EH:=λF H f Q n d p fr h e k=>by
 unfold EH at e;split at e
 .cases e
  obtain⟨v,w,rfl,g,b⟩:=a_.two h;cases g.int;cases b.int;exact⟨_,_,Z,k _ H (To.refl fr) Z⟩
 .cases e
noncomputable def cV:ϋ->Option ώ
 |[]=>U []
 | .int i::r=>(cV r).map (i::·)
 |_=>Y
theorem f_:∀{a:ϋ} {b:ώ},cV a=U b->a=b.map D.int:=@List.rec _ _ (@λb h=>by cases h;rfl) (λd a w=>@λb h=>by
  cases d with
  |int i=>
   unfold cV at h;cases q:cV a with
   |none=>rw[q]at h;cases h
   |some c=>rw[q]at h;cases h;rw[w q];rfl
  |_=>cases h)
theorem iE:∀a:ώ,cV (a.map D.int)=U a:=List.rec Z λn a h=>by
  show(cV<|a.map _).map _=_;rw[h];rfl
def Lw:ϋ->ϓ
 |[.lst xs]=>(cV xs).map λa=> .int a.sum
 |_=>Y
theorem TD:dA K (λf H Q=>∃(a:UM) (b:ώ),f=[.ref a]/\e_ K H a (b.map V.int)/\Q (.int b.sum) H) Lw:=λF H n Q p d x fr h e k=>by
 unfold Lw at e;split at e
 .rename_i f
  cases q:cV f with
  |none=>rw[q]at e;cases e
  |some b=>
   rw[q]at e;cases e;obtain⟨v,rfl,g⟩:=a_.one h;obtain⟨a,D,rfl,r,c⟩:=bi.sqL g;rw[f_ q]at c;have i:=a_.ints b c;subst i;exact⟨a,b,Z,r,k _ H (To.refl fr) Z⟩
 .cases e
noncomputable def qC:ϋ->ϓ
 |[.lst xs]=>U<|.lst xs
 |[.tup xs]=>U<|.lst xs
 |_=>Y
theorem fN:dA K (λb H Q=>∃p f,b=[.ref p]/\(e_ K H p f\/hW K H p f)/\∀l,H l=Y->Q (.ref l) (upd H l<|.lst f)) qC:=λF H n Q x d D fr h e k=>by
 unfold qC at e;split at e
 .cases e
  obtain⟨v,rfl,g⟩:=a_.one h;obtain⟨a,b,rfl,r,i⟩:=bi.sqL g;exact⟨a,b,Z,.inl r,λl c=>k _ _ (fr.upd _ c)<|bi.newL fr c i⟩
 .cases e
  obtain⟨v,rfl,g⟩:=a_.one h;obtain⟨a,b,rfl,r,i⟩:=bi.sqT g;exact⟨a,b,Z,.inr r,λl c=>k _ _ (fr.upd _ c)<|bi.newL fr c i⟩
 .cases e
noncomputable def xE:ϋ->ϓ
 |[.lst xs]=>U<|.tup xs
 |[.tup xs]=>U<|.tup xs
 |_=>Y
theorem i7:dA K (λb H Q=>∃p f,b=[.ref p]/\((e_ K H p f/\∀l,H l=Y->Q (.ref l) (upd H l<|.tup f))\/(hW K H p f/\Q (.ref p) H))) xE:=λF H n Q x d D fr h e k=>by
 unfold xE at e;split at e
 .cases e
  obtain⟨v,rfl,g⟩:=a_.one h;obtain⟨a,b,rfl,r,c⟩:=bi.sqL g;exact⟨a,b,Z,.inl ⟨r,λl i=>k _ _ (fr.upd _ i)<|bi.newT fr i c⟩⟩
 .cases e
  obtain⟨v,rfl,g⟩:=a_.one h;obtain⟨a,b,rfl,r,c⟩:=bi.sqT g;exact⟨a,b,Z,.inr ⟨r,k _ H (To.refl fr) g⟩⟩
 .cases e
noncomputable def asB:D->a0R
 | .bl b=>U b
 |_=>Y
theorem lB{b}(h:asB d=U b):d= .bl b:=by cases d<;>first|(cases h;rfl)|cases h
noncomputable def Lo:D->a0R
 | .non=>U UK
 | .bl b=>U b
 | .int i=>U<|i !=0
 | .lst xs=>U<|!xs.isEmpty
 | .tup xs=>U<|!xs.isEmpty
 |_=>Y
def fB(f:FD):Dn->M Bool:=λa=>M.bind (f a) λd=>M.ofO<|asB d
def za(f:FD):Dn->M Bool:=λa=>M.bind (f a) λd=>M.ofO<|Lo d
def vn(f g:Ϥ):Dn->M Bool:=λa=>M.bind (f a) λc=>if c=O then M.ret O else g a
def FK(f:Ϥ):Dn->M Bool:=λa=>M.bind (f a) λc=>M.ret<|!c
def FM(f g:FD):FD:=λa=>M.bind (f a) λd=>M.bind (M.ofO<|asB d) λc=>if c=O then g a else M.ret (.bl UK)
def fIf(t:Ϥ)(f g:FD):FD:=λa=>M.bind (t a) λc=>if c=O then f a else g a
def m8(o d:a1b)(f g h:FD):FD:=λe=>M.bind (f e) λa=>M.bind (g e) λb=>M.bind (M.ofO<|o a b) λz=>M.bind (M.ofO<|asB z) λc=>if c=O then M.bind (h e) (λw=>M.ofO<|d b w)else M.ret (.bl UK)
variable{c:Expr}{I:List Expr}
theorem M.ofO_bind{b d}{o}{k:b->M d}{c}{z}(h:M.bind (M.ofO o) k c=U z):∃a,o=U a/\k a c=U z:=by
 cases o with
 |none=>cases h
 |some a=>exact⟨a,Z,h⟩
theorem run.ofO_bind{b g i}{R:Hp->g->i->Prop}{o}{k:b->M g}{Q:i->Hp->Prop}{c}(h:run R F E j (M.bind (M.ofO o) k) H Q c):∃a,o=U a/\run R F E j (k a) H Q c:=by
 obtain⟨r,d,e,h⟩:=h;obtain⟨a,q,e⟩:=M.ofO_bind e;exact⟨a,q,r,d,e,h⟩
theorem run.bOk{F:Fx}{H:Hp}(fr:Fr F H g)(c:bi K F H d v)(h:run (λ_ (a b:Bool)=>b=a) F E i (M.ofO<|asB d) H Q g):∃k,v= .bl k/\Q k H:=by
 obtain⟨b,e,k⟩:=run.ofO h;rw[lB e]at c;exact⟨b,c,k b H (To.refl fr) Z⟩
theorem rE{f}(h:io K (fB f) E m H Q):tV K f E m H λx g=>∃k,x= .bl k/\Q k g:=by
 obtain⟨F,a,b,fr,i,h⟩:=h;exact⟨F,a,b,fr,i,(run.bind h).mono λv l j=>ro j λd c t e n=>run.bOk t.fr e n⟩
theorem aM{f g:FD}(d:g8 X (We op) r)(l:bz X.K r o)(c:PE X a<|tV X.K f E)(i:PE X b<|tV X.K g E)(e:autoParam (ZZ op b=UK) x3):PT X (.Compare a [op] [b] pos) (io X.K (fB (f2 o f g)) E):=
 (AI d c i e).imp λj H Q h=>sO l<|rE h
theorem GY{f g h}(l:bz K r o)(W:bz K r' s)(B:tV K (m8 o s f g h) E σ H Q):GZ r r' (tV K f E) (tV K g E) (tV K h E) σ H Q:=by
 obtain⟨F,b,D,fr,I,B⟩:=B;refine⟨F,b,D,fr,I,(run.bind B).mono λv H1 j=>ro j λd n t G S=>⟨F,b,n,t.fr,I.tr<|t.tr fr,(run.bind S).mono λv2 o7 j=>ro j λp a m u R=>?_⟩⟩;obtain⟨z,P,V⟩:=run.ofO_bind R;obtain⟨c,X,A⟩:=run.ofO_bind V;rw[lB X]at P;refine l F o7 a _ d p _ v v2 m.fr (bi.tr (m.tr t.fr) _ _ G) u P λvz T i hz=>⟨c,hz,?_⟩;cases c with
 |true=>
  rw[US Z]at A;refine⟨F,b,a,i.fr,I.tr<|(t.tr fr).trans<|(m.tr t.fr).trans<|i.tr m.fr,?_⟩;have r5:run (bi K F) F E σ (M.bind (h b) λw=>M.ofO<|s p w) T Q a:=by
   obtain⟨J,y,e,q⟩:=A;refine⟨J,y,e,?_⟩;cases J with
   |ok d=>exact λv L x=>q v L<|i.trans x
   |error C=>exact λL x=>q L<|i.trans x
  refine(run.bind r5).mono λw H4 j=>ro j λdw N f5 o8 r6=>?_;obtain⟨d3,e3,k⟩:=run.ofO r6;exact W F H4 N Q p dw d3 v2 w f5.fr (bi.tr ((i.tr m.fr).trans<|f5.tr i.fr) _ _ u) o8 e3 k
 |false=>
  rw[UU UX]at A;obtain⟨J,y,e,q⟩:=A;cases e;exact q _ T i Z
theorem uO{f g h:FD}(i:g8 X (We op) r)(d:g8 X (We s) v)(l:bz X.K r o)(j:bz X.K v w)(e:PE X a<|tV X.K f E)(m:PE X b<|tV X.K g E)(t:PE X c<|tV X.K h E)(k:autoParam (lastMarks [op,s] [b,c]=UK) xJ):
  PT X (.Compare a [op,s] [b,c] pos) (io X.K (fB<|m8 o w f g h) E):=(LL i d e m t k).imp λu H Q q=>GY l j<|rE q
theorem Of{k}(h:Lo d=U k)(c:bi K F H d v):M1 K v H k:=by
 cases d with
 |non=>cases h;cases c.non;rfl
 |bl b=>cases h;cases c.bl;rfl
 |int i=>cases h;cases c.int;rfl
 |lst xs=>
  cases h;obtain⟨a,e,rfl,r,g⟩:=bi.sqL c;refine .inl ⟨e,r,?_⟩;have:=g.length;cases xs<;>cases e<;>first|rfl|(simp at this)
 |tup xs=>
  cases h;obtain⟨a,e,rfl,r,g⟩:=bi.sqT c;refine .inr ⟨e,r,?_⟩;have:=g.length;cases xs<;>cases e<;>first|rfl|(simp at this)
 |_=>cases h
theorem sM{f}(b:PE X a<|tV X.K f E)(j:autoParam (∀g,isTrue a X.env g=(do let v <-g;Y4 a.pos;ZE [v] (truthy v))) z9):PT X a (io X.K (za f) E):=
 (LK b j).imp λo H Q i=>k4 i λF c n fr l h=>⟨F,c,n,fr,l,(run.bind h).mono λv m i=>by
  obtain⟨d,p,t,x,D⟩:=i;obtain⟨k,e,q⟩:=run.ofO D;exact⟨k,Of e x,q k m (To.refl t.fr) Z⟩⟩
theorem sN{f}(c:PT X a<|io X.K f E):PT X (.UnaryOp .Not a pos) (io X.K (FK f) E):=
 (QN c).imp λj H Q g=>k4 g λF e k fr i h=>⟨F,e,k,fr,i,(run.bind h).mono λv l g=>by
  obtain⟨d,n,t,p,x⟩:=g;subst p;exact run.ret t.fr x Z⟩
theorem P8{f g}(h:io K (vn f g) E m H Q):tOr (io K f E) (io K g E) m H Q:=by
 obtain⟨F,k,n,fr,i,h⟩:=h;refine⟨F,k,n,fr,i,(run.bind h).mono λv l j=>ro j λd e t p c=>?_⟩;subst p;cases v with
 |false=>rw[UU UX]at c⊢;exact⟨F,k,e,t.fr,i.tr<|t.tr fr,c⟩
 |true=>rw[US Z]at c⊢;exact run.ret t.fr c Z
theorem nl{f}(b:PT X a<|io X.K f E):PW X (.BoolOp .Or [a] pos) (io X.K f E):=QK b
theorem oR{f g}(c:PT X a<|io X.K f E)(d:PW X (.BoolOp .Or (b::I) pos)<|io X.K g E):PW X (.BoolOp .Or (a::b::I) pos) (io X.K (vn f g) E):=(Td c d).imp λ_ _ _=>P8
theorem kD{f}(h:PW X e<|io X.K f E):PT X e (io X.K f E):=PW.pt h
theorem SM{f}(h:PE X a<|tV X.K f E):PE X (.BoolOp op [a] pos) (tV X.K f E):=QX h
theorem run.asB{F:Fx}{k:Bool->M D}{H:Hp}(a:bi K F H d v)(h:run (bi K F) F E g (M.bind (M.ofO<|asB d) k) H Q i):∃c,v= .bl c/\run (bi K F) F E g (k c) H Q i:=by
 obtain⟨c,e,h⟩:=run.ofO_bind h;rw[lB e]at a;exact⟨c,a,h⟩
theorem SO{f g}(p:PE X a<|tV X.K f E)(m:PE X (.BoolOp .And (b::I) pos)<|tV X.K g E):PE X (.BoolOp .And (a::b::I) pos) (tV X.K (FM f g) E):=
 (Q0 p m).imp λo H Q j=>k4 j λF n x fr l h=>⟨F,n,x,fr,l,(run.bind h).mono λv q j=>by
  obtain⟨d,k,t,D,G⟩:=j;obtain⟨c,e,i⟩:=run.asB D G;refine⟨c,e,?_⟩;cases c with
  |true=>rw[US Z]at i⊢;exact⟨F,n,k,t.fr,l.tr<|t.tr fr,i⟩
  |false=>rw[UU UX]at i⊢;exact run.ret t.fr i Z⟩
theorem CT{f g}(l:PT X c<|io X.K t E)(p:PE X a<|tV X.K f E)(m:PE X b<|tV X.K g E):PE X (.IfExp c a b pos) (tV X.K (fIf t f g) E):=
 (LZ l p m).imp λo H Q i=>k4 i λF n x fr j h=>⟨F,n,x,fr,j,(run.bind h).mono λv q i=>by
  obtain⟨d,e,t,D,k⟩:=i;subst D;cases v with
  |true=>rw[US Z]at k⊢;exact⟨F,n,e,t.fr,j.tr<|t.tr fr,k⟩
  |false=>rw[UU UX]at k⊢;exact⟨F,n,e,t.fr,j.tr<|t.tr fr,k⟩⟩
noncomputable def tyD:D->Option String
 | .non=>U "NoneType"| .bl _=>U "bool"| .int _=>U "int"| .str _=>U "str"| .lst _=>U "list"| .tup _=>U "tuple"|_=>Y
def tys:List String:=[O',L',AA,"NoneType",lQ,lP]
noncomputable def ES(a b:String):a0R:=if tys.contains a&&tys.contains b&&b !="NoneType"&&(b !=O'||a==b)then U (a==b)else Y
noncomputable def ER(a b c:String):a0R:=if tys.contains a&&(b==lQ&&c==lP||b==O'&&c==AA)then U (a==b||a==c||a==L'&&b==O')else Y
theorem x0{a}(h:tys.contains a=O):a="int"\/a="bool"\/a="str"\/a="NoneType"\/a="list"\/a="tuple":=by
 simpa[tys]using h
theorem Pf{a b:String}{c:Bool}(h:ES a b=U c):kitOne K (.type a) (.type b)=U c:=by
 unfold ES at h;split at h
 case isFalse=>cases h
 rename_i q;simp only[Vu]at q;cases h;rcases x0 q.1.1.1 with rfl|rfl|rfl|rfl|rfl|rfl<;>rcases x0 q.1.1.2 with rfl|rfl|rfl|rfl|rfl|rfl<;>first|exact Vl q.1.2 rb|exact Vl q.2 rb|kernel_rfl
theorem Pe{a b d:String}{c:Bool}(h:ER a b d=U c):PySem.W.kitAny K (.type a) ([b,d].map X3)=U c:=by
 unfold ER at h;split at h
 case isFalse=>cases h
 rename_i q;simp only[Vu,Bool.or_eq_true,Yc]at q;cases h;rcases q.2 with⟨rfl,rfl⟩|⟨rfl,rfl⟩<;>rcases x0 q.1 with rfl|rfl|rfl|rfl|rfl|rfl<;>kernel_rfl
def TyG(K:Vb)(H:Hp)(x:V)(t:UQ):Prop:=p0 K H x t\/(∃a b,x= .ref a/\e_ K H a b/\t= .type lQ)\/(∃a b,x= .ref a/\hW K H a b/\t= .type lP)
def Nv(K:Vb):ύ->Hp->VK->Prop:=λa H Q=>∃x c t b,a=[x,.ty c]/\TyG K H x t/\kitOne K t (.type c)=U b/\Q (.bl b) H
theorem KY:cT X (.builtin vW) (Nv X.K):=by
 intro j s u H F G Q I r h;obtain⟨x,c,t,b,rfl,f,e,q⟩:=h;cases r with
 |cons k d=>
  cases d with
  |cons d m=>
   cases m;cases d;rcases f with f|⟨a,E,rfl,n,rfl⟩|⟨a,E,rfl,n,rfl⟩
   .exact Kw I k f e λl=>⟨.bl b,H,I.tok _,Z,q⟩
   .cases k
    obtain⟨p,_,D,_⟩:=I.list n;obtain⟨o,g,i,_⟩:=D.isList;exact kia_one kitx_list I.kIn ⟨o,g,i⟩ e (λz=>nomatch z) λl=>⟨.bl b,H,I.tok _,Z,q⟩
   .cases k
    obtain⟨p,_,D,_⟩:=I.tuple n;obtain⟨o,g,i,_⟩:=D;exact kia_one kitx_tuple I.kIn ⟨o,g,i⟩ e (λz=>nomatch z) λl=>⟨.bl b,H,I.tok _,Z,q⟩
theorem GR(h:tyD d=U t)(c:bi K F H d v):TyG K H v (.type t):=by
 cases d with
 |non=>cases h;cases c.non;exact .inl .non
 |bl b=>cases h;cases c.bl;exact .inl<|.bl b
 |int b=>cases h;cases c.int;exact .inl<|.int b
 |str b=>cases h;cases c.str;exact .inl<|.str b
 |lst ds=>cases h;obtain⟨a,e,rfl,f,_⟩:=bi.sqL c;exact .inr<|.inl ⟨a,e,Z,f,Z⟩
 |tup ds=>cases h;obtain⟨a,e,rfl,f,_⟩:=bi.sqT c;exact .inr<|.inr ⟨a,e,Z,f,Z⟩
 |_=>cases h
def lf:ϋ->ϓ
 |[x,.ty c]=>(tyD x).bind λt=>(ES t c).map D.bl
 |_=>Y
theorem TH:dA K (Nv K) lf:=λF H f Q n d p fr h e k=>by
 unfold lf at e;split at e
 .rename_i x c
  cases q:tyD x with
  |none=>rw[q]at e;cases e
  |some t=>
   rw[q]at e;simp only[WJ]at e;cases a:ES t c with
   |none=>rw[a]at e;cases e
   |some b=>
    rw[a]at e;cases e;obtain⟨v,w,rfl,g,i⟩:=a_.two h;cases i.ty;exact⟨v,c,_,b,Z,GR q g,Pf a,k _ H (To.refl fr) Z⟩
 .cases e
def IJ(K:Vb):ύ->Hp->VK->Prop:=λc H Q=>∃(x:V) (tp:UM) (a:List String) (t:UQ) (b:Bool),c=[x,.ref tp]/\hW K H tp (a.map V.ty)/\TyG K H x t/\PySem.W.kitAny K t (a.map X3)=U b/\Q (.bl b) H
theorem uy:cT X (.builtin vW) (IJ X.K):=by
 intro m s P H f S Q I r h;obtain⟨x,tp,V,t,b,rfl,A,D,e,q⟩:=h;cases r with
 |cons c B=>
  cases B with
  |cons B R=>
   cases R;cases B;obtain⟨k,T,⟨⟨oc,o7,o8,f5⟩,g,u,n,j⟩,_⟩:=I.tuple A;rw[GP T]at j
   dsimp only at u j
   subst u j;have d:∀N,EP X m P Q (.bool b) {s with toks:=N}:=λN=>⟨.bl b,H,I.tok _,Z,q⟩;rcases D with D|⟨a,G,rfl,E,rfl⟩|⟨a,G,rfl,E,rfl⟩
   .cases D with
    |non=>cases c;exact kia_tup PySem.W.kitx_none I.kIn YF g e (λz=>nomatch z) d
    |bl y=>cases c;exact kia_tup PySem.W.kitx_bool I.kIn YF g e (λz=>nomatch z) d
    |int i=>obtain⟨t,rfl⟩:=c;exact kia_tup PySem.W.kitx_int I.kIn YF g e (λz=>nomatch z) d
    |str y=>obtain⟨t,rfl⟩:=c;exact kia_tup PySem.W.kitx_str I.kIn YF g e (λz=>nomatch z) d
    |@lst a f ea=>
     cases c;obtain⟨_,_,n,_,v⟩:=(show cm X.prog X.w H s.heap a (.lst f)from I.hok a _ ea);exact kia_tup kitx_list I.kIn ⟨_,v,Z⟩ g e (λz=>nomatch z) d
    |@frz a ob f ea=>
     cases c;obtain⟨_,_,_,n,_,v⟩:=(show cm X.prog X.w H s.heap a (.frz ob<|.lst f)from I.hok a _ ea);exact kia_tup kitx_list I.kIn ⟨_,v,Z⟩ g e (λz=>nomatch z) d
    |@tup a f ea=>
     cases c;obtain⟨_,_,_,p⟩:=(show cm X.prog X.w H s.heap a (.tup f)from I.hok a _ ea);obtain⟨o,v,M,_⟩:=p;exact kia_tup kitx_tuple I.kIn ⟨o,v,M⟩ g e (λz=>nomatch z) d
    |@ins a C dx fs ea cl ha hn htk hm=>
     cases c;obtain⟨mA,o9,_⟩:=m5 I.hok ea;obtain⟨o7,J,_⟩:=o9.look;exact kia_tup (PySem.W.kitx_own (cl.get _) cl.hd ha hn htk hm) I.kIn J g e (λz=>nomatch z) d
   .cases c
    obtain⟨k,_,F,_⟩:=I.list E;obtain⟨o,l,L,_⟩:=F.isList;exact kia_tup kitx_list I.kIn ⟨o,l,L⟩ g e (λz=>nomatch z) d
   .cases c
    obtain⟨k,_,F,_⟩:=I.tuple E;obtain⟨o,l,L,_⟩:=F;exact kia_tup kitx_tuple I.kIn ⟨o,l,L⟩ g e (λz=>nomatch z) d
def xi:ϋ->ϓ
 |[x,.tup [.ty a,.ty b]]=>(tyD x).bind λt=>(ER t a b).map D.bl
 |_=>Y
theorem Kn:dA K (IJ K) xi:=λF H D Q E d G fr h e k=>by
 unfold xi at e;split at e
 .rename_i x a b
  cases q:tyD x with
  |none=>rw[q]at e;cases e
  |some t=>
   rw[q]at e;simp only[WJ]at e;cases f:ER t a b with
   |none=>rw[f]at e;cases e
   |some c=>
    rw[f]at e;cases e;obtain⟨v,w,rfl,g,i⟩:=a_.two h;obtain⟨p,I,rfl,n,j⟩:=bi.sqT i;obtain⟨y,z,rfl,l,m⟩:=a_.two j;cases l.ty;cases m.ty;exact⟨v,p,[a,b],_,c,Z,n,GR q g,Pe f,k _ H (To.refl fr) Z⟩
 .cases e
def B4(K:Vb)(J:It)(F:Fx)(H:Hp)(b:ϋ):Prop:=∀(h:Fx) (g:Hp) (a:Bg),Tr F H h g->Fr h g a->∀i,(∀d,b[i]?=U d->J.go i g/\∀x j,J.yld i g x j->cw g j/\bi K h j d x)/\(i=b.length->J.stop i g)
theorem B4.tr(t:Tr F H d g)(h:B4 K J F H ds):B4 K J d g ds:=λi j a l fr=>h i j a (t.trans l) fr
def iV(K:Vb)(f:FL)(E:ϔ):TI:=λd H R=>∃F a b,Fr F H b/\i_ K F H a d/\run (λg (c:ϋ) (J:It)=>B4 K J F g c) F E d (f a) H R b
theorem _root_.L2.PI.imp(h:PI X a e t)(f:∀d H Q,i d H Q->t d H Q):PI X a e i:=λg s d H Q I q=>h g s d H Q I<|f d H Q q
variable{tg:Expr}
def R8(K:Vb)(g:TE):TI:=λh H R=>g h H λx d=>(∃a,x= .ref a/\(∃b,e_ K d a b)/\R (Itl K a) d)\/(∃a,x= .ref a/\(∃b,hW K d a b)/\R (Itt K a) d)
theorem IR(t:PE X l tl):PI X tg l (R8 X.K tl):=by
 refine λg s u H R I h=>dv (t g s u H _ I h) λv d z=>?_;obtain⟨x,m,i,f,k⟩:=z;have j:∀b∈[d.heap.objs.size],gF X g m b:=λb w=>by
  obtain rfl:b=d.heap.objs.size:=by simpa using w
  exact i.fpOk (UV _)<|i.hok.fresh<|UV _
 obtain⟨a,e,⟨n,r⟩,q⟩|⟨a,e,⟨n,r⟩,q⟩:=k
 .subst e
  cases f;obtain⟨c,y,p,A⟩:=i.list r;exact PySem.wpAny_pyIter_list p.isList ⟨d.heap.objs.size,[d.heap.objs.size],_,_,m,Z,i.kept λb o e=>UH _ e,vH a _,⟨_,U7 _ Z,Z,Z⟩,j,q⟩
 .subst e
  cases f;obtain⟨c,y,p,A⟩:=i.tuple r;exact PySem.wpAny_pyIter_tuple (show d.heap.IsTuple a _ from p) ⟨d.heap.objs.size,[d.heap.objs.size],_,_,m,Z,i.kept λb o e=>UH _ e,CU a _,⟨_,U7 _ Z,Z,Z⟩,j,q⟩
theorem yS{a}(h:bi K F H (.lst s)<|.ref a):B4 K (Itl K a) F H s:=λq r n t fr i=>by
 obtain⟨u,b,e,c,g⟩:=bi.sqL (bi.tr t _ _ h);cases e;refine⟨λd k=>?_,λo=>⟨b,c,by rw[<-g.length,o];exact UV _⟩⟩;obtain⟨x,p,_⟩:=g.get k;refine⟨⟨b,x,c,p⟩,λy v f=>?_⟩;obtain⟨rfl,f⟩:=f;obtain⟨D,l,j⟩:=g.getV<|f b c;rw[k]at l;cases l;exact⟨cw.refl _,j⟩
theorem BF{a}(h:bi K F H (.tup s)<|.ref a):B4 K (Itt K a) F H s:=λq r n t fr i=>by
 obtain⟨u,b,e,c,g⟩:=bi.sqT (bi.tr t _ _ h);cases e;refine⟨λd k=>?_,λo=>⟨b,c,by rw[<-g.length,o];exact UV _⟩⟩;obtain⟨x,p,_⟩:=g.get k;refine⟨⟨b,x,c,p⟩,λy v f=>?_⟩;obtain⟨rfl,f⟩:=f;obtain⟨D,l,j⟩:=g.getV<|f b c;rw[k]at l;cases l;exact⟨cw.refl _,j⟩
def cR(f:FD):FL:=λa=>M.bind (f a) λd=>M.ofO<|d9 d
theorem aW{f}(j:PE X l<|tV X.K f E):PI X tg l (iV X.K (cR f) E):=
 (IR j).imp λq H R g=>k4 g λF p x fr m h=>⟨F,p,x,fr,m,(run.bind h).mono λv i g=>by
  obtain⟨d,D,t,b,G⟩:=g;obtain⟨I,e,k⟩:=run.ofO G;cases d<;>first
   |(cases e;obtain⟨a,c,rfl,n,o⟩:=bi.sqL b;exact .inl ⟨a,Z,⟨c,n⟩,k _ i (To.refl t.fr) (yS b)⟩)
   |(cases e;obtain⟨a,c,rfl,n,o⟩:=bi.sqT b;exact .inr ⟨a,Z,⟨c,n⟩,k _ i (To.refl t.fr) (BF b)⟩)
   |cases e⟩
noncomputable def bv(a:Int)(n:Nat):ϋ:=(UT n).map λ(i:Nat)=> .int<|a+(i:Int)
theorem we{b}{n}:B4 K (Itr b n) F H (bv b n):=λl m c t fr i=>by
 refine⟨λd a=>?_,λg=>?_⟩
 .unfold bv at a
  have g:i<n:=by
   have:=(UY.mp a).1;simp_all
  rw[UN,VN g]at a;cases a;exact⟨g,λx o z=>by obtain⟨h,j⟩:=z;subst h j;exact⟨cw.refl _,Z⟩⟩
 .show n<=i
  rw[g];simp[bv]
def g0:ϋ->Ϧ
 |[.int j]=>if(decide (-(2^62)<=j)&&decide (j<2^62))=O then U (bv 0 j.toNat)else Y
 |_=>Y
def rO:ϋ->Ϧ
 |[.int i,.int j]=>if(decide (-(2^62)<=i)&&decide (i<2^62)&&decide (-(2^62)<=j)&&decide (j<2^62))=O then U (bv i (j-i).toNat)else Y
 |_=>Y
def dm(a:ϋ->Ϧ)(g:FL):FL:=λb=>M.bind (g b) λc=>M.ofO<|a c
theorem cJ{a:Expr}{p pos:Ye}(j:Gl X "range")(b:X.mg "range"=Y)(c:PA X [a]<|ix X.K g E)(f:autoParam (U8 [a] X.env=[(UK,Wa a X.env)]) z6):PI X tg (.Call (.Name "range" p) [a] [] pos) (iV X.K (dm g0 g) E):=
 (IV j b c f).imp λr H R d=>k4 d λF n x fr m h=>⟨F,n,x,fr,m,(run.bind h).mono λM o d=>by
  obtain⟨S,D,t,G,I⟩:=d;obtain⟨l,e,k⟩:=run.ofO I;unfold g0 at e;split at e
  .split at e
   .rename_i i
    cases e;simp only[Vu,Vx]at i;obtain⟨v,rfl,q⟩:=a_.one G;cases q.int;exact⟨_,Z,i.1,i.2,k _ o (To.refl t.fr) we⟩
   .cases e
  .cases e⟩
theorem oj{a b:Expr}{p pos:Ye}(m:Gl X "range")(c:X.mg "range"=Y)(f:PA X [a,b]<|ix X.K g E)(n:autoParam (U8 [a,b] X.env=[(UK,Wa a X.env),(UK,Wa b X.env)]) z6)(i:autoParam (U8 [b] X.env=[(UK,Wa b X.env)]) z6):PI X tg (.Call (.Name "range" p) [a,b] [] pos) (iV X.K (dm rO g) E):=
 (IU m c f n i).imp λy H R j=>k4 j λF x D fr o h=>⟨F,x,D,fr,o,(run.bind h).mono λS q j=>by
  obtain⟨V,G,t,I,M⟩:=j;obtain⟨l,e,k⟩:=run.ofO M;unfold rO at e;split at e
  .split at e
   .rename_i d
    cases e;simp only[Vu,Vx]at d;obtain⟨v,w,rfl,r,u⟩:=a_.two I;cases r.int;cases u.int;exact⟨_,_,Z,⟨d.1.1.1,d.1.1.2,d.1.2,d.2⟩,k _ q (To.refl t.fr) we⟩
   .cases e
  .cases e⟩
abbrev l_:=D->Dn->Option Dn
abbrev lD:=ϋ->Dn->Option Dn
def dz(K:Vb)(g:TG)(tg:l_):Prop:=∀(F:Fx) (H:Hp) (b a:Dn) (i:St) (d:D) (v:V) (Q:a0H),i_ K F H b i->bi K F H d v->tg d b=U a->(∀h,i_ K F H a h->Q h H)->g v i H Q
def uF(K:Vb)(g:TGs)(tg:lD):Prop:=∀(F:Fx) (H:Hp) (b a:Dn) (h:St) (c:ϋ) (e:ύ) (Q:a0H),i_ K F H b h->a_ K F H c e->tg c b=U a->(∀d,i_ K F H a d->Q d H)->g e h H Q
noncomputable def gt(i:Nat):l_:=λd a=>if(a.getD i<|U .non).isNone then U (a.set i<|U d)else Y
noncomputable def kC:lD:=λa b=>match a with
 |[]=>U b
 |_=>Y
noncomputable def fj(t:l_)(u:lD):lD:=λb c=>match b with
 |[]=>Y
 |d::r=>(t d c).bind λa=>u r a
noncomputable def O_(t:lD):l_:=λd a=>match d with
 | .tup ds=>t ds a
 |_=>Y
theorem xH{b a}(h:gt i d b=U a):b[i]?=U Y/\a=b.set i (U d):=by
 unfold gt at h;split at h
 .rename_i q
  cases h;refine⟨?_,Z⟩;rw[UO]at q;cases e:b[i]? with
  |none=>rw[e]at q;cases q
  |some z=>
   simp_all
 .cases h
theorem ar:dz K (fJ i) (gt i):=λF H c a h d v Q g b e k=>by
 obtain⟨_,rfl⟩:=xH e;exact k _<|g.set b
theorem cE:uF K gNil kC:=λF H f a g b n Q d c e k=>by
 cases b with
 |nil=>cases e;exact⟨c,k _ d⟩
 |cons _ _=>cases e
theorem aU(m:dz K t s)(o:uF K u uf):uF K (FE t u) (fj s uf):=λF H b a v c p Q w f e k=>by
 cases c with
 |nil=>cases e
 |cons d r=>
  obtain⟨x,l,rfl,n,y⟩:=f;have h:(s d b).bind _=U a:=e;cases q:s d b with
  |none=>rw[q]at h;cases h
  |some g=>
   rw[q]at h;exact⟨x,l,Z,m F H b g v d x _ w n q λi j=>o F H g a i r l Q j y h k⟩
theorem de(h:uF K t l)(x:∀f c b,l f c=U b->f.length=n):dz K (MH K n t) (O_ l):=λF H c b i d v Q j D e k=>by
 cases d<;>first
  |(obtain⟨a,p,rfl,E,g⟩:=bi.sqT D;exact⟨a,p,Z,E,by rw[<-g.length];exact x _ _ _ e,h F H c b i _ p Q j g e k⟩)
  |cases e
theorem bY:∀b c a,kC b c=U a->ϱ b=0:=λb c a h=>by
 cases b with
 |nil=>rfl
 |cons _ _=>cases h
theorem aS(h:∀b c a,u b c=U a->ϱ b=n):∀b c a,fj t u b c=U a->ϱ b=n+1:=λb c a e=>by
 cases b with
 |nil=>cases e
 |cons d r=>
  have g:(t d c).bind _=U a:=e;cases q:t d c with
  |none=>rw[q]at g;cases g
  |some i=>rw[q]at g;rw[U5,h _ _ _ g]
def eY(tg:l_):Prop:=∀d b a,tg d b=U a->Sub b a/\b.length=a.length
def xu(tg:lD):Prop:=∀d b a,tg d b=U a->Sub b a/\b.length=a.length
theorem ax:eY (gt i):=λd b a e=>by
 obtain⟨q,rfl⟩:=xH e;refine⟨λj c g=>?_,by rw[VM]⟩;rw[WG];by_cases z:i=j
 .subst z;simp_all
 .rw[UU z];exact g
theorem cA:xu kC:=λa c b e=>by
 cases a with
 |nil=>cases e;exact⟨λ_ _ h=>h,Z⟩
 |cons _ _=>cases e
theorem aT(j:eY t)(l:xu u):xu (fj t u):=λf b a e=>by
 cases f with
 |nil=>cases e
 |cons d r=>
  have g:(t d b).bind _=U a:=e;cases q:t d b with
  |none=>rw[q]at g;cases g
  |some m=>
   rw[q]at g;obtain⟨k,n⟩:=j _ _ _ q;obtain⟨p,o⟩:=l _ _ _ g;exact⟨λi c h=>p i c<|k i c h,n.trans o⟩
theorem da(h:xu t):eY (O_ t):=λd b a e=>by
 cases d<;>first|exact h _ _ _ e|cases e
structure pb (F:Fx) (D:UM) (H H':Hp) (β':Bg):Prop where
 kp:∀a o,H a=U o->a≠D->(∀b l,F.bg=U (b,l)->a≠b/\a≠l)->H' a=U o
 fr:Fr F H' β'
theorem pb.trans{D}(a:pb F D H d β1)(b:pb F D d g β2):pb F D H g β2:=⟨λx o h n m=>b.kp x o (a.kp x o h n m) n m,b.fr⟩
theorem To.toD(t:To F H d g)(D):pb F D H d g:=⟨λa o h _ m=>t.kp a o h m,t.fr⟩
theorem pb.tr{D}(fr:Fr F H j)(g:F.A D)(t:pb F D H d i):Tr F H F d:=
 ⟨λ_ h _=>h,λa o h e=>t.kp a o e (λz=>h<|z▸g) λb l q=>⟨λz=>h<|z▸(fr.bgA b l q).1,λz=>h<|z▸(fr.bgA b l q).2.1⟩,Z⟩
structure AR where
 R:Fx->Hp->UM->List Pu.D->Prop
 Z:List Pu.D->Prop
 tr:∀{F F2:Fx} {H H':Hp} {D:UM} {as:List Pu.D},R F H D as->(∀o,H D=U o->H' D=U o)->Tr F H F2 H'->R F2 H' D as
 zp:∀{as os:List Pu.D},Z (as++os)->Z as
noncomputable def RL(K:Vb):AR where
 R:=λF H D b=>∃a,H D=U (.lst a)/\a_ K F H b a
 Z:=λl=>l.length<=Ve
 tr:=λh k t=>by
  obtain⟨a,d,g⟩:=h;exact⟨a,k _ d,a_.tr t _ _ g⟩
 zp:=λh=>by rw[Va]at h;lia
def gl(K:Vb)(R:AR)(D:UM)(j:TB)(f:Dn->M (List Pu.D)):Prop:=∀(F:Fx) (H:Hp) (a:Dn) (k d:Bg) (i:St) (c e:List Pu.D) (Q:a0H),Fr F H k->F.A D->(∀b l,F.bg=U (b,l)->D≠b/\D≠l)->i_ K F H a i->R.R F H D c->
 f a k=U (.ok e,d)->R.Z (c++e)->(∀g h,pb F D H h d->i_ K F h a g->R.R F h D (c++e)->Q g h)->j i H Q
abbrev mn(K:Vb):=gl K<|RL K
def j0(f:Dn->M Pu.D):Dn->M (List Pu.D):=λa=>M.bind (f a) λd=>M.ret [d]
theorem M.bind_inv{c g}{m}{k:c->M g}{f d}{r}(h:M.bind m k f=U (.ok r,d)):∃a b,m f=U (.ok a,b)/\k a b=U (.ok r,d):=by
 unfold M.bind at h;split at h
 .cases h
 .cases h
 .rename_i a b e
  exact⟨a,b,e,h⟩
theorem E0.run{b i:Type}{R:Hp->b->i->Prop}{F:Fx}{j:St}{m:M b}{H:Hp}{Q:i->Hp->Prop}{c d:Bg}{a:b}(e:m c=U (.ok a,d))(h:∀v g,To F H g d->R g a v->Q v g):run R F E0 j m H Q c:=⟨.ok a,d,e,h⟩
theorem aV{D}{f:Dn->M Pu.D}:mn K D (FV D<|tV K f E0) (j0 f):=λF H E G g w S X Q fr y i m A e B k=>by
 obtain⟨c,C,x⟩:=A;obtain⟨d,V,I,J⟩:=M.bind_inv e;cases J;refine⟨F,E,G,fr,m,E0.run I λv r t L=>?_⟩;have N:=a_.tr (t.tr fr) _ _ x;refine⟨c,t.kp D _ C i,by rw[<-x.length];have:=(show(S++[d]).length<=Ve from B);simp at this;lia,?_⟩;have u:pb F D r (upd r D<|.lst<|c++[v]) g:=by
  refine⟨λa o h n _=>by rw[bb n];exact h,λa h q=>?_,fr.bgA,λb l q=>?_⟩
  .by_cases z:a=D
   .subst z;rw[ay]at q;cases q
   .rw[bb z]at q;exact t.fr.occ a h q
  .rw[bb (i b l q).1.symm,bb (i b l q).2.symm]
   exact t.fr.bag b l q
 have p:=u.tr t.fr y;exact k w _ ((t.toD D).trans u) (m.tr<|(t.tr fr).trans p) ⟨_,ay,a_.append (a_.tr p _ _ N) ⟨v,[],Z,bi.tr p _ _ L,Z⟩⟩
def oa(tg:l_)(e:Ϥ)(b:Dn->M (List Pu.D)):List Pu.D->Dn->M (List Pu.D)
 |[],_=>M.ret []
 |d::ds,δ=>match tg d δ with
  |none=>M.fail
  |some a=>M.bind (e a) λc=>M.bind (if c=O then b a else M.ret []) λo=>M.bind (oa tg e b ds δ) λf=>M.ret<|o++f
theorem qE{D}{tg}{b:Dn->M (List Pu.D)}(hg:dz K g tg)(sg:eY tg)(hb:gl K R D tb b){as os f}(fr:Fr F H β)(hA:F.A D)(hn:∀b l,F.bg=U (b,l)->D≠b/\D≠l)(vk:i_ K F H s σ)(hR:R.R F H D as)
  (it:B4 K J F H f) (e:oa tg tt b f s β=U (.ok os,β')) (hz:R.Z<|as++os) (k:∀j t,pb F D H t β'->i_ K F t s j->R.R F t D (as++os)->Q j t):dU J g (io K tt E0) tb σ H Q:=by
 refine⟨λi m j t=>m+i=ϱ f/\∃a r v,pb F D H t a/\i_ K F t s j/\R.R F t D r/\oa tg tt b (f.drop i) s a=U (.ok v,β')/\r++v=as++os,
  ⟨ϱ f,ln,β,as,os,⟨λ_ _ h _ _=>h,fr⟩,vk,hR,e,Z⟩,?_⟩
 rintro i m j t ⟨hm,a,r,v,B,C,I,u,V⟩;obtain⟨iy,is⟩:=it F t a (B.tr fr hA) B.fr i;cases T:f[i]? with
 |none=>
  have f5:=List.getElem?_eq_none_iff.mp T;rw[Xx f5]at u;cases u;refine .inl ⟨is ln,k j t B C ?_⟩;simp_all
 |some d=>
  have f5:=(UY.mp T).1;obtain⟨go,yl⟩:=iy d T;have ed:f.drop i=d::f.drop (i+1):=by
   rw[Wo f5];simp_all
  rw[ed]at u;unfold oa at u;cases q:tg d s with
  |none=>rw[q]at u;cases u
  |some n=>
   rw[q]at u;obtain⟨c,E,e2,e3⟩:=M.bind_inv u;obtain⟨o,p,W,e5⟩:=M.bind_inv e3;obtain⟨aa,ae,e6,e7⟩:=M.bind_inv e5;cases e7;obtain⟨s1,s2⟩:=sg _ _ _ q;refine .inr ⟨go,λL o7=>pb F D H o7 p/\i_ K F o7 s L/\R.R F o7 D (r++o),?_,λx H2 hy=>?_⟩
   .rintro L o7 ⟨t9,vk9,hR9⟩
    exact⟨m-1,ln,ln,p,r++o,aa,t9,vk9,hR9,e6,by rw[V5];exact V⟩
   .obtain⟨sm,dx⟩:=yl x H2 hy
    have G:=B.fr.same sm;have N:=G.tr B.fr;refine hg F H2 s n j d x _ (C.tr N) dx q λab w=>⟨F,n,a,G.fr,w,E0.run e2 λc' H3 S ec=>?_⟩;subst ec;have y:=S.tr G.fr;have o8:=R.tr I (λo z=>S.kp D o (sm _ _ z) hn)<|N.trans y;have P:=B.trans<|(G.trans S).toD D;have ac:R.Z (r++o):=by
     rw[<-V,<-V5]at hz;exact R.zp hz
    cases c' with
    |true=>
     rw[US Z]at W⊢;exact hb F H3 n E p ab r o _ S.fr hA hn (w.tr y) o8 W ac λak H4 t4 ad af=>⟨P.trans t4,ad.sub s1 s2,af⟩
    |false=>
     rw[UU UX]at W⊢;cases W;exact⟨P,(w.tr y).sub s1 s2,by rw[VA];exact o8⟩
def M_(c:Dn->M (List Pu.D))(tg:l_)(e:Ϥ)(b:Dn->M (List Pu.D)):Dn->M (List Pu.D):=λa=>M.bind (c a) λf=>oa tg e b f a
theorem rY{D}{tg}{b:Dn->M (List Pu.D)}(j:dz K g tg)(l:eY tg)(m:gl K R D s b):gl K R D (FU (iV K L E0) λJ=>dU J g (io K N E0) s) (M_ L tg N b):=λF H c f q C p x Q fr r a h u e v k=>by
 obtain⟨E,n,w,y⟩:=M.bind_inv e;exact⟨F,c,f,fr,h,E0.run w λJ i t A=>(qE j l m t.fr r a (h.tr<|t.tr fr) (R.tr u (λo z=>t.kp D o z a)<|t.tr fr) A y v λd i B=>k d i<|(t.toD D).trans B)⟩
theorem BD{D}{tg}{b:Dn->M (List Pu.D)}(d:dz K g tg)(h:eY tg)(i:mn K D j b):mn K D (FU (iV K l E0) λJ=>dU J g (io K m E0) j) (M_ l tg m b):=rY d h i
noncomputable def k_(nv:Nat)(b4:ϊ)(δ:Dn):Dn:=Vn nv Y++b4.map λj=>δ.getD j Y
def c9(nv:Nat)(b4:ϊ)(it:Dn->M (List Pu.D))(tg:l_)(c:Ϥ)(b:Dn->M (List Pu.D)):Dn->M Pu.D:=λa e=>match it a e with
 |none=>Y
 |some (.error C,β1)=>U (.error C,β1)
 |some (.ok ds,β1)=>match oa tg c b ds (k_ nv b4 a) β1 with
  |some (.ok os,β2)=>if os.length<=Ve then U (.ok<|.lst os,β2)else Y
  |_=>Y
theorem uz{F}{H}{a:ϒ}(h:i_ K F H r s):i_ K F H (k_ (ϱ a) b4 r) (m9 a b4 s):=by
 refine⟨by simp[k_,m9],λi d e=>?_⟩;unfold k_ at e;unfold m9;rw[List.getElem?_append]at e⊢;rw[WS]at e⊢;by_cases g:i<ϱ a
 .rw[US g,Xn,US g]at e
  cases e
 .rw[UU g,UN]at e⊢
  cases q:b4[i-ϱ a]? with
  |none=>rw[q]at e;cases e
  |some j=>
   rw[q]at e;simp only[Wx,Option.some.injEq]at e⊢;rw[UO]at e;cases z:r[j]? with
   |none=>rw[z]at e;cases e
   |some w=>
    rw[z]at e;have l:=e;subst l;obtain⟨v,m,o⟩:=h.tell j d z;simp_all
theorem xI{c}{f}{k:Dn->M (List Pu.D)}{tg}{p}{P:ϧ}{b:Dn->M (List Pu.D)}(R:dz K g tg)(G:eY tg)(S:∀D,mn K D (P D) b)(h:tV K (c9 (ϱ c) f k tg p b) E T H Q):
  sQ c f (iV K k E) (λD J=>dU J g (io K p E0)<|P D) T H Q:=by
 obtain⟨F,V,X,fr,f5,r,v,e,h⟩:=h;unfold c9 at e;refine⟨F,V,X,fr,f5,?_⟩;split at e
 .cases e
 .rename_i C β1 q
  cases e;exact⟨.error C,_,q,h⟩
 .rename_i ds β1 q
  split at e
  .rename_i os β2 q2
   split at e
   .rename_i hz
    cases e;refine⟨.ok ds,β1,q,λJ u t s D i=>?_⟩;have d:=t.fr.fresh i;have W:=t.fr.upd (.lst []) i;have B:Fr ⟨λa=>F.A a\/a=D,F.bg⟩ (upd u D<|.lst []) β1:=by
     refine⟨λa ha z=>?_,λb l z=>let ⟨x,y,w⟩:=fr.bgA b l z;⟨.inl x,.inl y,w⟩,W.fr.bag⟩
     obtain ha|ha:=ha
     .exact W.fr.occ a ha z
     .subst ha;rw[ay]at z;cases z
    have j:Tr F u ⟨λa=>F.A a\/a=D,F.bg⟩ (upd u D<|.lst []):=⟨λa ha hs z=>by
     obtain z|z:=z
     .exact ha z
     .subst z;exact hs i,λa o ha z=>by rw[bb<|aR z i];exact z,Z⟩
    refine qE (as:=[]) R G (S D) B (.inr Z) (λb l z=>⟨λw=>d<|w▸(fr.bgA b l z).1,λw=>d<|w▸(fr.bgA b l z).2.1⟩) (uz<|f5.tr<|(t.tr fr).trans j) ⟨[],ay,Z⟩ (s.tr j) q2 (show ϱ os<=Ve from hz) λaa o7 I ab L=>?_;obtain⟨m,N,o8⟩:=L;have tf:To F u o7 v:=by
     refine⟨λa o z n=>I.kp a o (by rw[bb<|aR z i];exact z) (aR z i) n,λa ha z=>I.fr.occ a (WU ha) z,fr.bgA,I.fr.bag⟩
    refine h _ o7 (t.trans tf) ⟨D,m,Z,⟨d,.inl N⟩,a_.tr (F:=⟨λa=>F.A a\/a=D,F.bg⟩) ⟨λa ha _ z=>ha<|WU z,λa o _ z=>z,Z⟩ _ _ o8⟩
   .cases e
  .cases e
inductive Sl where
 |sh (d:D)|own (ds:ϋ)|grd (ai:Ϝ)|odc (b:Bool) (ks:Ϯ) (vs:ϋ)
abbrev ϥ:=Option Sl
abbrev Ds:=List ϥ
set_option genInjectivity true in
inductive m_ where
 |nx (δ:Ds)|rt (d:D)|bk (δ:Ds)|ct (δ:Ds)|ex (C:UM) (δ:Ds)|rg (ai:Ϝ)
abbrev a0x:=m_->Bg->Prop
abbrev G:=Ds->Bg->Option (m_×Bg)
abbrev Ow:=UM->ϳ
noncomputable def ee(B:Ow)(b:Ϫ):Fx:=⟨λa=>B a≠Y,b⟩
noncomputable def ra(B:Ow)(b:Ϫ):Fx:=⟨λa=>B a=U 0\/B a=U 1,b⟩
def bG(K:Vb)(F:Fx)(H:Hp)(P:UM->Prop):Ϝ->ϗ->Prop
 |[],[]=>True
 |ds::ai,r::rs=>P r/\(∃a,H r=U (.lst a)/\a_ K F H ds a)/\bG K F H P ai rs
 |_,_=>False
theorem bG.tr(t:Tr F H i d):∀{b:Ϝ} {a:ϗ},bG K F H P b a->(∀r xs,r∈a->P r->H r=U (.lst xs)->P2 r/\d r=U (.lst xs))->bG K i d P2 b a
 |[],[],_,_=>trivial
 |ds::b,r::a,h,f=>by
  obtain⟨j,⟨xs,l,m⟩,o⟩:=h;obtain⟨p,q⟩:=f r xs UP j l;exact⟨p,⟨xs,q,a_.tr t _ _ m⟩,bG.tr t o λu g v=>f u g<|UI _ v⟩
 |[],_::_,h,_=>h.elim
 |_::_,[],h,_=>h.elim
theorem bG.all:∀{c:Ϝ} {a:ϗ},bG K F H P c a->∀r∈a,P r/\∃b,H r=U (.lst b)
 |[],[],_,r,hr=>by cases hr
 |ds::c,r0::a,h,r,hr=>by
  obtain⟨d,⟨b,g,j⟩,i⟩:=h;obtain rfl|hr:=U4.mp hr
  .exact⟨d,b,g⟩
  .exact bG.all i r hr
 |[],_::_,h,_,_=>h.elim
 |_::_,[],h,_,_=>h.elim
theorem bG.den(t:Tr F H d H):∀{b:Ϝ} {a:ϗ},bG K F H P b a->(∀r,r∈a->P r->¬d.A r)->a_ K d H (b.map D.lst) (a.map V.ref)
 |[],[],_,_=>rfl
 |ds::b,r::a,h,f=>by
  obtain⟨g,⟨c,i,j⟩,l⟩:=h;exact a_.cons ⟨r,c,Z,⟨f r UP g,.inl i⟩,a_.tr t _ _ j⟩<|bG.den t l λm o=>f m<|UI _ o
 |[],_::_,h,_=>h.elim
 |_::_,[],h,_=>h.elim
theorem bG.len:∀{a:Ϝ} {b:ϗ},bG K F H P a b->ϱ a=ϱ b
 |[],[],_=>rfl
 |ds::a,r::b,h=>by simp[bG.len h.2.2]
 |[],_::_,h=>h.elim
 |_::_,[],h=>h.elim
def jL(K:Vb)(F:Fx)(c H:Hp)(e:Ϝ)(v:V):Prop:=∃a b,v= .ref a/\c a=Y/\H a=U (.lst<|b.map V.ref)/\(a::b).Nodup/\bG K F H (λr=>c r=Y) e b
def ODc(K:Vb)(F:Fx)(H:Hp)(a:UM)(b:Bool)(e:Ϯ)(f:ϋ):Prop:=∃k c,H a=U (c8 a b k c)/\e=c.map (·.1)/\(∀x∈c,gE K F H b x.1 x.2.1)/\a_ K F H f (c.map (·.2.2))
theorem ODc.tr{a}{b}(t:Tr F H g d)(h:ODc K F H a b q r)(k:∀o,H a=U o->d a=U o):ODc K g d a b q r:=by
 obtain⟨c,e,i,j,l,m⟩:=h;exact⟨c,e,k _ i,j,λx f=>(l x f).tr t,a_.tr t _ _ m⟩
def Ic(H:Hp)(a:UM):Prop:=(∃b,H a=U (.lst b))\/∃d,H a=U (.ext d)
theorem Ic.imp{a}(h:Ic H a)(k:∀o,H a=U o->d a=U o):Ic d a:=Or.imp (λx=>by obtain⟨b,z⟩:=x;exact ⟨b,k _ z⟩) (λy=>by obtain⟨g,z⟩:=y;exact ⟨g,k _ z⟩) h
def qj(K:Vb)(B:Ow)(c:Ϫ)(H:Hp)(i:Nat):Sl->V->Prop
 | .sh d,v=>bi K (ee B c) H d v
 | .own ds,v=>∃a f,v= .ref a/\B a=U (i+2)/\H a=U (.lst f)/\a_ K (ee B c) H ds f
 | .grd ai,v=>∃a e,v= .ref a/\B a=U (i+2)/\H a=U (.lst<|e.map V.ref)/\(a::e).Nodup/\bG K (ee B c) H (λr=>B r=U (i+2)) ai e
 | .odc b ks vs,v=>∃a,v= .ref a/\B a=U (i+2)/\ODc K (ee B c) H a b ks vs
theorem qj.tr(h:qj K B u H j s v)(t:Tr (ee B u) H (ee B2 u) g)(k:∀c,B c=U (j+2)->B2 c=U (j+2)/\∀o,H c=U o->g c=U o):qj K B2 u g j s v:=by
 cases s with
 |sh d=>exact bi.tr t _ _ h
 |own cs=>
  obtain⟨c,l,e,a,f,i⟩:=h;exact⟨c,l,e,(k c a).1,(k c a).2 _ f,a_.tr t _ _ i⟩
 |grd ai=>
  obtain⟨c,n,e,a,f,i,m⟩:=h;exact⟨c,n,e,(k c a).1,(k c a).2 _ f,i,bG.tr t m λr _ _ p q=>⟨(k r p).1,(k r p).2 _ q⟩⟩
 |odc b ks vs=>
  obtain⟨c,e,a,f⟩:=h;exact⟨c,e,(k c a).1,f.tr t (k c a).2⟩
structure fh (K:Vb) (H₀:Hp) (B:Ow) (bg:Ϫ) (H:Hp) (δ:Ds) (β:Bg) (σ:St):Prop where
 fr:Fr (ee B bg) H β
 bgt:∀b l,bg=U (b,l)->B b=U 1/\B l=U 1
 len:δ.length=σ.length
 cov:∀a,H₀ a≠Y->H a≠Y
 new:∀a k,B a=U (k+2)->H₀ a=Y
 lst:∀a k,B a=U (k+2)->Ic H a
 tell:∀(i:Nat) (s:Sl),δ[i]?=U (U s)->∃v,σ[i]?=U (U v)/\qj K B bg H i s v
structure hL (B:Ow) (H:Hp) (B':Ow) (H':Hp):Prop where
 kp:∀a o,H a=U o->(B a=Y\/B a=U 0)->H' a=U o
 tg:∀a,B a=U 0\/B a=U 1->B' a=B a
 nn:∀a o,H a=U o->B a=Y->B' a=Y
 al:∀a,H a≠Y->H' a≠Y
theorem hL.refl(B)(H):hL B H B H:=⟨λ_ _ h _=>h,λ_ _=>Z,λ_ _ _ h=>h,λ_ h=>h⟩
theorem hL.trans(a:hL B H B1 d)(b:hL B1 d B2 g):hL B H B2 g:=by
 refine⟨λx o h n=>b.kp x o (a.kp x o h n) ?_,λx h=>?_,λx o h n=>b.nn x o (a.kp x o h<|.inl n)<|a.nn x o h n,λx h=>b.al x<|a.al x h⟩
 .obtain n|n:=n
  .exact .inl (a.nn x o h n)
  .exact .inr ((a.tg x<|.inl n).trans n)
 .have e:=a.tg x h
  rw[<-e]at h;exact(b.tg x h).trans e
def iO(K:Vb)(a:Hp)(b:Ϫ)(E:ϔ)(Dn:ry)(B:Ow)(H:Hp)(o:m_)(j:Bg):Prop:=match o with
 | .nx δ'=>∀h i g,hL B H i g->fh K a i b g δ' j h->Dn.nx h g
 | .bk δ'=>∀h i g,hL B H i g->fh K a i b g δ' j h->Dn.bk h g
 | .ct δ'=>∀h i g,hL B H i g->fh K a i b g δ' j h->Dn.ct h g
 | .rt d=>∀v i g,hL B H i g->Fr (ee i b) g j->bi K (ee i b) g d v->Dn.rt v g
 | .rg ai=>∀v i g,hL B H i g->Fr (ee i b) g j->jL K (ee i b) a g ai v->Dn.rt v g
 | .ex C δ'=>∀h i g,hL B H i g->fh K a i b g δ' j h->E h (.ref C) Y g
theorem iO.pre{Dn}(s:hL B H B1 l)(h:iO K H₀ q E Dn B H o m):iO K H₀ q E Dn B1 l o m:=by
 cases o with
 |nx δ=>exact λg i j t=>h g i j<|s.trans t
 |bk δ=>exact λg i j t=>h g i j<|s.trans t
 |ct δ=>exact λg i j t=>h g i j<|s.trans t
 |rt d=>exact λv i j t=>h v i j<|s.trans t
 |rg d=>exact λv i j t=>h v i j<|s.trans t
 |ex C δ=>exact λg i j t=>h g i j<|s.trans t
def tG(K:Vb)(a:Hp)(g:G)(E:ϔ):TS:=λDn h H=>∃B b c e o d,fh K a B b H c e h/\g c e=U (o,d)/\iO K a b E Dn B H o d
theorem _root_.L2.PS.imp{e}(h:PS X e t)(f:∀D d H,i D d H->t D d H):PS X e i:=λg s d H D I q=>h g s d H D I<|f D d H q
theorem _root_.L2.PSs.imp{e}(h:PSs X e t)(f:∀D d H,i D d H->t D d H):PSs X e i:=λg s d H D I q=>h g s d H D I<|f D d H q
noncomputable def vw(δ:Ds):Dn:=δ.map λs=>match s with
 |some (.sh d)=>U d
 |_=>Y
noncomputable def fy(δ:Ds):Dn:=δ.map λs=>match s with
 |some (.sh d)=>U d
 |some (.own ds)=>U<|.lst ds
 |some (.grd ai)=>U<|.lst<|ai.map D.lst
 |some (.odc b ks vs)=>U<|.dct b ks vs
 |none=>Y
variable{f:Hp}{B:Ow}{T:Ϫ}{f5:Hp}{p:Ds}{R W:Bg}{o7:St}
theorem SK{i:Nat}(e:(vw p)[i]?=U (U d)):p[i]?=U (U<|.sh d):=by
 unfold vw at e;rw[UN]at e;cases q:p[i]? with
 |none=>rw[q]at e;cases e
 |some z=>
  rw[q]at e;cases z with
  |none=>cases e
  |some s=>
   cases s with
   |sh c=>cases e;rfl
   |own ds=>cases e
   |grd ai=>cases e
   |odc b ks vs=>cases e
theorem fh.view(h:fh K f B T H p R o7):i_ K (ee B T) H (vw p) o7:=⟨by unfold vw;rw[UD,h.len],λi d e=>h.tell i _<|SK e⟩
theorem trA:Tr (ee B T) H (ra B T) H:=⟨λa h _ z=>by
 have b:¬(B a≠Y):=h;obtain z|z:=z
 .exact b (by rw[z];simp)
 .exact b (by rw[z];simp),λ_ _ _ h=>h,Z⟩
theorem fh.frA(h:fh K f B T H p R o7):Fr (ra B T) H R:=⟨λa c=>h.fr.occ a (by
 show B a≠Y;rcases c with z|z<;>rw[z]<;>simp),λb l e=>⟨.inr (h.bgt b l e).1,.inr (h.bgt b l e).2,(h.fr.bgA b l e).2.2⟩,h.fr.bag⟩
theorem fh.viewA(h:fh K f B T H p R o7):i_ K (ra B T) H (fy p) o7:=by
 refine⟨by unfold fy;rw[UD,h.len],λi d e=>?_⟩;unfold fy at e;rw[UN]at e;cases q:p[i]? with
 |none=>rw[q]at e;cases e
 |some z=>
  rw[q]at e;cases z with
  |none=>cases e
  |some s=>
   obtain⟨v,m,o⟩:=h.tell i s q;cases s with
   |sh c=>cases e;exact⟨v,m,bi.tr trA _ _ o⟩
   |own ds=>
    cases e;obtain⟨a,k,g,j,l,t⟩:=o;refine⟨v,m,a,k,g,⟨λz=>?_,.inl l⟩,a_.tr trA _ _ t⟩;have z':B a=U 0\/B a=U 1:=z;simp_all
   |grd ai=>
    cases e;obtain⟨a,E,g,j,l,t,u⟩:=o;have w:∀c,B c=U (i+2)->¬(ra B T).A c:=λc y z=>by
     have z':B c=U 0\/B c=U 1:=z;simp_all
    exact⟨v,m,a,_,g,⟨w a j,.inl l⟩,bG.den trA u λr _ C=>w r C⟩
   |odc b ks vs=>
    cases e;obtain⟨a,g,j,n,k,l,t,u,I⟩:=o;refine⟨v,m,?_⟩;refine⟨a,n,k,g,⟨λz=>?_,l⟩,t,λx D=>(u x D).tr trA,a_.tr trA _ _ I⟩;have z':B a=U 0\/B a=U 1:=z;simp_all
theorem fh.to(h:fh K f B T H p R o7)(hF:F.bg=T)(t:To F H f5 W):fh K f B T f5 p W o7/\hL B H B f5:=by
 have u:∀a,B a≠U 1->∀b l,F.bg=U _->a≠b/\a≠l:=λa x b l e=>by
  rw[hF]at e;exact⟨λz=>x<|z▸(h.bgt b l e).1,λz=>x<|z▸(h.bgt b l e).2⟩
 have D:=λa o e n=>t.kp a o e<|u a n;have fr:Fr _ f5 W:=⟨λa x z=>(by
  by_cases y:B a=U 1
  .by_cases g:∃b l,T=U (b,l)/\(a=b\/a=l)
   .obtain⟨b,l,e,q⟩:=g
    obtain⟨j,m⟩:=t.fr.bag b l<|hF.trans e;obtain rfl|rfl:=q
    .rw[j]at z;cases z
    .rw[m]at z;cases z
   .cases q:H a with
    |none=>exact h.fr.occ a x q
    |some o=>
     rw[t.kp a o q λb l e=>⟨λw=>g ⟨b,l,hF.symm.trans e,.inl w⟩,λw=>g ⟨b,l,hF.symm.trans e,.inr w⟩⟩]at z;cases z
  .cases q:H a with
   |none=>exact h.fr.occ a x q
   |some o=>rw[D a o q y]at z;cases z),h.fr.bgA,λb l e=>t.fr.bag b l<|hF.trans e⟩
 have E:∀a,H a≠Y->f5 a≠Y:=λa x z=>by
  by_cases g:∃b l,T=U (b,l)/\(a=b\/a=l)
  .obtain⟨b,l,e,q⟩:=g
   obtain⟨j,m⟩:=t.fr.bag b l<|hF.trans e;obtain rfl|rfl:=q
   .rw[j]at z;cases z
   .rw[m]at z;cases z
  .cases q:H a with
   |none=>exact x q
   |some o=>
    rw[t.kp a o q λb l e=>⟨λw=>g ⟨b,l,hF.symm.trans e,.inl w⟩,λw=>g ⟨b,l,hF.symm.trans e,.inr w⟩⟩]at z;cases z
 refine⟨⟨fr,h.bgt,h.len,λa x=>E a<|h.cov a x,h.new,λc k r=>(h.lst c k r).imp λo z=>D c o z (by rw[r];simp_all),λi s e=>?_⟩,λa o e n=>D a o e (by rcases n with n|n<;>rw[n]<;>simp),λ_ _=>Z,λ_ _ _ n=>n,E⟩
 obtain⟨v,A,C⟩:=h.tell i s e;exact⟨v,A,C.tr (⟨λ_ n _=>n,λa o n e=>D a o e (λz=>n (by show B a≠Y;rw[z];simp)),Z⟩) λc d=>⟨d,λo q=>D c o q<|by rw[d];simp_all⟩⟩
theorem fh.set(h:fh K f B T H p R o7)(a:bi K (ee B T) H d v):fh K f B T H (p.set i<|U<|.sh d) R (o7.set i<|U v):=by
 refine⟨h.fr,h.bgt,by rw[VM,VM,h.len],h.cov,h.new,h.lst,λj c e=>?_⟩;rw[WG]at e;rw[WG];by_cases q:i=j
 .subst q
  rw[US Z]at e⊢;split at e
  .rename_i g
   cases e;rw[US<|by rw[<-h.len];exact g];exact⟨v,Z,a⟩
  .cases e
 .rw[UU q]at e⊢
  exact h.tell j c e
noncomputable def gNil:G:=λp R=>U (.nx p,R)
noncomputable def aP(g h:G):G:=λp R=>match g p R with
 |some (.nx δ1,β1)=>h δ1 β1
 |r=>r
def dB(i:Nat)(f:FD):G:=λp R=>match f (vw p) R with
 |some (.ok d,β1)=>U (.nx<|p.set i<|U<|.sh d,β1)
 |some (.error C,β1)=>U (.ex C p,β1)
 |none=>Y
def xm(i:Nat)(f:FD):G:=λp R=>match f (fy p) R with
 |some (.ok d,β1)=>if eM d=O then U (.nx<|p.set i<|U<|.sh d,β1)else Y
 |some (.error C,β1)=>U (.ex C p,β1)
 |none=>Y
noncomputable def ou(f:FD):G:=λp R=>match f (fy p) R with
 |some (.ok _,β1)=>U (.nx p,β1)
 |some (.error C,β1)=>U (.ex C p,β1)
 |none=>Y
noncomputable def eW(f:FD):G:=λp R=>match f (fy p) R with
 |some (.ok d,β1)=>U (.rt d,β1)
 |some (.error C,β1)=>U (.ex C p,β1)
 |none=>Y
noncomputable def pa(t:Ϥ)(g h:G):G:=λp R=>match t (fy p) R with
 |some (.ok O,β1)=>g p β1
 |some (.ok UK,β1)=>h p β1
 |some (.error C,β1)=>U (.ex C p,β1)
 |none=>Y
variable{a:VQ}{b:a0T}
theorem bc:PSs X [] (tG X.K X.H₀ gNil E):=u6.imp λD o7 H d=>by
 obtain⟨B,T,p,R,o,W,ok,e,h⟩:=d;cases e;exact h o7 B H (hL.refl B H) ok
theorem ae(i:PS X a<|tG X.K X.H₀ g E)(j:PSs X b<|tG X.K X.H₀ h E):PSs X (a::b) (tG X.K X.H₀ (aP g h) E):=(dP i j).imp λD o7 H l=>by
 obtain⟨B,T,p,R,o,W,ok,e,q⟩:=l;unfold aP at e;split at e
 .rename_i δ1 β1 m
  exact⟨B,T,p,R,.nx δ1,β1,ok,m,λt u f5 s d=>⟨u,T,δ1,β1,o,W,d,e,iO.pre s q⟩⟩
 .rename_i r v
  refine⟨B,T,p,R,o,W,ok,e,?_⟩;cases o with
  |nx δ1=>exact Vl e<|v δ1 W
  |_=>exact q
theorem am(d:PS X a<|tG X.K X.H₀ g E):PSs X [a] (tG X.K X.H₀ g E):=qv d
theorem aJ{f}(h:PS X (.Assign [.Name x pos'] e pos)<|ie (tV X.K f E)<|fJ i):PS X (.Assign [.Name x pos'] e pos) (tG X.K X.H₀ (dB i f) E):=h.imp λD o7 H m=>by
 obtain⟨B,T,p,R,o,W,ok,e,q⟩:=m;refine⟨ee B T,vw p,R,ok.fr,ok.view,?_⟩;unfold dB at e;split at e
 .rename_i d β1 j
  cases e;refine⟨.ok d,_,j,λv f5 t a=>?_⟩;obtain⟨g,l⟩:=ok.to Z t;exact q _ B f5 l<|g.set a
 .rename_i C β1 j
  cases e;refine⟨.error C,_,j,λf5 t=>?_⟩;obtain⟨g,l⟩:=ok.to Z t;exact q _ B f5 l g
 .cases e
theorem MK{K}{F g}{H}(i:eM d=O)(h:bi K F H d v):bi K g H d v:=by
 cases d<;>first|exact h|cases i
theorem Qq{f}(h:PS X (.Assign [.Name x pos'] e pos)<|ie (tV X.K f E)<|fJ i):PS X (.Assign [.Name x pos'] e pos) (tG X.K X.H₀ (xm i f) E):=h.imp λD o7 H m=>by
 obtain⟨B,T,p,R,o,W,ok,e,q⟩:=m;refine⟨ra B T,fy p,R,ok.frA,ok.viewA,?_⟩;unfold xm at e;split at e
 .rename_i d β1 j
  split at e
  .rename_i r
   cases e;refine⟨.ok d,_,j,λv f5 t a=>?_⟩;obtain⟨g,l⟩:=ok.to Z t;exact q _ B f5 l<|g.set<|MK r a
  .cases e
 .rename_i C β1 j
  cases e;refine⟨.error C,_,j,λf5 t=>?_⟩;obtain⟨g,l⟩:=ok.to Z t;exact q _ B f5 l g
 .cases e
theorem ij{f}(h:PS X (.Expr e pos)<|sP<|tV X.K f E):PS X (.Expr e pos) (tG X.K X.H₀ (ou f) E):=h.imp λD o7 H l=>by
 obtain⟨B,T,p,R,o,W,ok,e,q⟩:=l;refine⟨ra B T,fy p,R,ok.frA,ok.viewA,?_⟩;unfold ou at e;split at e
 .rename_i d β1 i
  cases e;refine⟨.ok d,_,i,λv f5 t a=>?_⟩;obtain⟨g,j⟩:=ok.to Z t;exact q _ B f5 j g
 .rename_i C β1 i
  cases e;refine⟨.error C,_,i,λf5 t=>?_⟩;obtain⟨g,j⟩:=ok.to Z t;exact q _ B f5 j g
 .cases e
noncomputable def i6(B:Ow):Ow:=λa=>if B a=U 0\/B a=U 1 then B a else Y
theorem Rr{H}:Tr (ra B T) H (ee (i6 B) T) H:=⟨λa h _ z=>by
 have d:i6 B a≠Y:=z;unfold i6 at d;split at d
 .rename_i q;exact h q
 .exact d Z,λ_ _ _ h=>h,Z⟩
theorem Mq{H}:hL B H (i6 B) H:=⟨λ_ _ h _=>h,λa h=>by unfold i6;rw[US h],λa o h n=>by unfold i6;rw[n];simp,λ_ h=>h⟩
theorem aA{f}(h:PS X (.Return (U e) pos)<|Ls<|tV X.K f E):PS X (.Return (U e) pos) (tG X.K X.H₀ (eW f) E):=h.imp λD o7 H r=>by
 obtain⟨B,T,p,R,o,W,ok,e,q⟩:=r;refine⟨ra B T,fy p,R,ok.frA,ok.viewA,?_⟩;unfold eW at e;split at e
 .rename_i d β1 j
  cases e;refine⟨.ok d,_,j,λv f5 t c=>?_⟩;obtain⟨g,m⟩:=ok.to Z t;refine q _ _ f5 (m.trans Mq) ⟨λa k=>g.fr.occ a ?_,λb l e=>?_,g.fr.bag⟩<|bi.tr Rr _ _ c
  .have i:i6 B a≠Y:=k
   show B a≠Y;unfold i6 at i;split at i
   .exact i
   .exact Vl Z i
  .refine⟨?_,?_,(g.fr.bgA b l e).2.2⟩
   .show i6 B b≠Y
    unfold i6;rw[US<|.inr (ok.bgt b l e).1,(ok.bgt b l e).1];simp
   .show i6 B l≠Y
    unfold i6;rw[US<|.inr (ok.bgt b l e).2,(ok.bgt b l e).2];simp
 .rename_i C β1 j
  cases e;refine⟨.error C,_,j,λf5 t=>?_⟩;obtain⟨g,m⟩:=ok.to Z t;exact q _ B f5 m g
 .cases e
theorem br{c}{a b}(l:PT X c<|io X.K t E)(k:PSs X a<|tG X.K X.H₀ g E)(m:PSs X b<|tG X.K X.H₀ h E):PS X (.If c a b pos) (tG X.K X.H₀ (pa t g h) E):=(Nw l k m).imp λD o7 H r=>by
 obtain⟨B,T,p,R,o,W,ok,e,q⟩:=r;refine⟨ra B T,fy p,R,ok.frA,ok.viewA,?_⟩;unfold pa at e;split at e
 .rename_i β1 i
  refine⟨.ok O,_,i,λv f5 t f=>?_⟩;subst f;obtain⟨d,j⟩:=ok.to Z t;exact⟨B,T,p,β1,o,W,d,e,iO.pre j q⟩
 .rename_i β1 i
  refine⟨.ok UK,_,i,λv f5 t f=>?_⟩;subst f;obtain⟨d,j⟩:=ok.to Z t;exact⟨B,T,p,β1,o,W,d,e,iO.pre j q⟩
 .rename_i C β1 i
  cases e;refine⟨.error C,_,i,λf5 t=>?_⟩;obtain⟨d,j⟩:=ok.to Z t;exact q _ B f5 j d
 .cases e
abbrev TgS:=D->Ds->Option Ds
abbrev qf:=ϋ->Ds->Option Ds
def oC(K:Vb)(g:TG)(tg:TgS):Prop:=∀(f:Hp) (B:Ow) (T:Ϫ) (H:Hp) (p a:Ds) (R:Bg) (o7:St) (d:D) (v:V) (Q:a0H),fh K f B T H p R o7->bi K (ee B T) H d v->tg d p=U a->(∀h,fh K f B T H a R h->Q h H)->g v o7 H Q
def uC(K:Vb)(g:TGs)(tg:qf):Prop:=∀(f:Hp) (B:Ow) (T:Ϫ) (H:Hp) (p a:Ds) (R:Bg) (o7:St) (b:ϋ) (c:ύ) (Q:a0H),fh K f B T H p R o7->a_ K (ee B T) H b c->tg b p=U a->(∀d,fh K f B T H a R d->Q d H)->g c o7 H Q
noncomputable def sgN(i:Nat):TgS:=λd p=>U<|p.set i<|U<|.sh d
noncomputable def LB:qf:=λa p=>match a with
 |[]=>U p
 |_=>Y
noncomputable def DK(t:TgS)(u:qf):qf:=λb p=>match b with
 |[]=>Y
 |d::r=>(t d p).bind λa=>u r a
noncomputable def sgT(t:qf):TgS:=λd p=>match d with
 | .tup ds=>t ds p
 |_=>Y
theorem aK:oC K (fJ i) (sgN i):=λf B T H p a R o7 d v Q b c e k=>by
 cases e;exact k _<|b.set c
theorem gv:uC K L2.gNil LB:=λf B T H p a R o7 b x Q c n e k=>by
 cases b with
 |nil=>cases e;exact⟨n,k _ c⟩
 |cons _ _=>cases e
theorem bS(m:oC K t s)(o:uC K u uf):uC K (FE t u) (DK s uf):=λf B T H p a R o7 b E Q c n e k=>by
 cases b with
 |nil=>cases e
 |cons d r=>
  obtain⟨x,l,rfl,D,v⟩:=n;have h:(s d p).bind _=U a:=e;cases q:s d p with
  |none=>rw[q]at h;cases h
  |some g=>
   rw[q]at h;exact⟨x,l,Z,m f B T H p g R o7 d x _ c D q λi j=>o f B T H g a R i r l Q j v h k⟩
theorem fq:∀b p a,LB b p=U a->ϱ b=0:=λb p a h=>by
 cases b with
 |nil=>rfl
 |cons _ _=>cases h
theorem bP(h:∀b p a,u b p=U a->ϱ b=n):∀b p a,DK t u b p=U a->ϱ b=n+1:=λb p a e=>by
 cases b with
 |nil=>cases e
 |cons d r=>
  have g:(t d p).bind _=U a:=e;cases q:t d p with
  |none=>rw[q]at g;cases g
  |some i=>rw[q]at g;rw[U5,h _ _ _ g]
theorem iz(h:uC K t i)(D:∀c p b,i c p=U b->c.length=n):oC K (MH K n t) (sgT i):=λf B T H p b R o7 d v Q E F e k=>by
 cases d<;>first
  |(obtain⟨a,x,rfl,G,g⟩:=bi.sqT F;exact⟨a,x,Z,G,by rw[<-g.length];exact D _ _ _ e,h f B T H p b R o7 _ x Q E g e k⟩)
  |cases e
def FG(f:FD)(tg:TgS):G:=λp R=>match f (vw p) R with
 |some (.ok d,β1)=>(tg d p).map λa=>(.nx a,β1)
 |some (.error C,β1)=>U (.ex C p,β1)
 |none=>Y
theorem DR{f}{tg}(l:oC X.K g tg)(h:PS X (.Assign [s] e pos)<|ie (tV X.K f E) g):PS X (.Assign [s] e pos) (tG X.K X.H₀ (FG f tg) E):=h.imp λD o7 H w=>by
 obtain⟨B,T,p,R,o,W,ok,e,q⟩:=w;refine⟨ee B T,vw p,R,ok.fr,ok.view,?_⟩;unfold FG at e;split at e
 .rename_i d β1 j
  cases a:tg d p with
  |none=>rw[a]at e;cases e
  |some b=>
   rw[a]at e;cases e;refine⟨.ok d,_,j,λv f5 t c=>?_⟩;obtain⟨i,m⟩:=ok.to Z t;exact l _ B T f5 p b _ o7 d v _ i c a λr u=>q r B f5 m u
 .rename_i C β1 j
  cases e;refine⟨.error C,_,j,λf5 t=>?_⟩;obtain⟨i,m⟩:=ok.to Z t;exact q _ B f5 m i
 .cases e
def yZ(i j:Nat)(f:FL):G:=λp R=>match f (vw p) R with
 |some (.ok [c,d],β1)=>U (.nx<|(p.set i<|U<|.sh c).set j<|U<|.sh d,β1)
 |some (.error C,β1)=>U (.ex C p,β1)
 |_=>Y
theorem S7{f}(h:PS X a<|P7 i j<|ix X.K f E):PS X a (tG X.K X.H₀ (yZ i j f) E):=h.imp λD o7 H r=>by
 obtain⟨B,T,p,R,o,W,ok,e,q⟩:=r;refine⟨ee B T,vw p,R,ok.fr,ok.view,?_⟩;unfold yZ at e;split at e
 .rename_i c d β1 l
  cases e;refine⟨.ok [c,d],_,l,λk f5 t b=>?_⟩;obtain⟨g,m⟩:=ok.to Z t;obtain⟨v,w,rfl,u,y⟩:=a_.two b;exact⟨v,w,Z,q _ B f5 m<|(g.set u).set y⟩
 .rename_i C β1 l
  cases e;refine⟨.error C,_,l,λf5 t=>?_⟩;obtain⟨g,m⟩:=ok.to Z t;exact q _ B f5 m g
 .cases e
def FF(i:Nat)(a:a1b)(f:FD):G:=λp R=>match(vw p).getD i Y with
 |none=>Y
 |some c=>match f (vw p) R with
  |some (.ok d,β1)=>(a c d).map λz=>(.nx<|p.set i<|U<|.sh z,β1)
  |some (.error C,β1)=>U (.ex C p,β1)
  |none=>Y
theorem nC{f}(l:bz X.K s op)(h:PS X a<|Qd i (tV X.K f E) s):PS X a (tG X.K X.H₀ (FF i op f) E):=h.imp λD o7 H I=>by
 obtain⟨B,T,p,R,o,W,ok,e,q⟩:=I;unfold FF at e;split at e
 .cases e
 .rename_i c j
  have m:(vw p)[i]?=U (U c):=by
   rw[UO]at j;cases z:(vw p)[i]? with
   |none=>rw[z]at j;cases j
   |some w=>rw[z]at j;simp_all
  obtain⟨v,J,L⟩:=ok.view.tell i c m;refine⟨v,J,ee B T,vw p,R,ok.fr,ok.view,?_⟩;split at e
  .rename_i d β1 r
   cases b:op c d with
   |none=>rw[b]at e;cases e
   |some z=>
    rw[b]at e;cases e;refine⟨.ok d,_,r,λw f5 t k=>?_⟩;obtain⟨g,y⟩:=ok.to Z t;refine l _ f5 W _ c d z v w t.fr (bi.tr (t.tr ok.fr) _ _ L) k b λu N o8 P=>?_;obtain⟨A,Q⟩:=g.to Z o8;exact q _ B N (y.trans Q)<|A.set P
  .rename_i C β1 r
   cases e;refine⟨.error C,_,r,λf5 t=>?_⟩;obtain⟨g,y⟩:=ok.to Z t;exact q _ B f5 y g
  .cases e
theorem hL.tr{H f5}{T}(s:hL B H d f5):Tr (ee B T) H (ee d T) f5:=
 ⟨λa h b z=>by
  have c:B a=Y:=by
   cases q:B a with
   |none=>rfl
   |some t=>exact Vl (show B a≠Y by rw[q];simp) h
  cases q:H a with
  |none=>exact b q
  |some o=>exact z<|s.nn a o q c,λa o h e=>s.kp a o e<|.inl (by
  cases q:B a with
  |none=>rfl
  |some t=>exact Vl (show B a≠Y by rw[q];simp) h),Z⟩
def ci(t:Ϥ)(g:G):Nat->G
 |0,_,_=>Y
 |n+1,p,R=>match t (fy p) R with
  |some (.ok O,β1)=>match g p β1 with
   |some (.nx δ1,β2)=>ci t g n δ1 β2
   |some (.ct δ1,β2)=>ci t g n δ1 β2
   |some (.bk δ1,β2)=>U (.nx δ1,β2)
   |r=>r
  |some (.ok UK,β1)=>U (.nx p,β1)
  |some (.error C,β1)=>U (.ex C p,β1)
  |none=>Y
theorem pV:∀{n:Nat} {p:Ds} {R:Bg} {r:m_×Bg},ci t g n p R=U r->ci t g (n+1) p R=U r:=@Nat.rec _ (@λ_ _ _ h=>by cases h) (λn w=>@λp R r h=>by
  have e:∀m,ci t g (m+1) p R=match t _ R with
    |some (.ok O,a)=>match g p a with
     |some (.nx δ1,c)=>ci t g m δ1 c
     |some (.ct δ1,c)=>ci t g m δ1 c
     |some (.bk δ1,c)=>U _
     |r=>r
    |some (.ok UK,a)=>U _
    |some (.error C,a)=>U _
    |none=>Y:=λm=>Z
  rw[e]at h⊢;cases q:t _ R with
  |none=>rw[q]at h;cases h
  |some z=>
   obtain⟨b,a⟩:=z;rw[q]at h;cases b with
   |error C=>exact h
   |ok b=>
    cases b with
    |false=>exact h
    |true=>
     dsimp only at h⊢
     cases f:g p a with
     |none=>rw[f]at h;cases h
     |some y=>
      obtain⟨o,c⟩:=y;rw[f]at h;cases o with
      |nx δ1=>exact w h
      |ct δ1=>exact w h
      |bk δ1=>exact h
      |rt d=>exact h
      |rg d=>exact h
      |ex C δ1=>exact h)
theorem l8(h:ci t g n p R=U r)(l:n<=m):ci t g m p R=U r:=by
 induction m with
 |zero=>
  simp_all
 |succ m a=>
  by_cases q:n=m+1
  .subst q;exact h
  .exact pV (a ln)
end
open Classical in
def gWh(t:Ϥ)(g:G):G:=λD E=>if h:∃r n,ci t g n D E=U r then U h.choose else Y
theorem KG(h:ci t g n c d=U r):gWh t g c d=U r:=by
 have D:∃r n,ci t g n c d=U r:=⟨r,n,h⟩;unfold gWh;rw[dif_pos D];obtain⟨m,E⟩:=D.choose_spec;have a:=l8 E<|Nat.le_max_right n m;rw[l8 h<|Nat.le_max_left n m]at a;rw[<-Vt a]
theorem Pp(h:gWh t g a b=U r):∃n,ci t g n a b=U r:=by
 unfold gWh at h;split at h
 .rename_i hx
  obtain⟨m,D⟩:=hx.choose_spec;cases h;exact⟨m,D⟩
 .cases h
section
variable{X:Cx}{E:ϔ}{e:Expr}{st:VQ}{j:a0T}{pos:Ye}{K:Vb}
theorem z5(T:PassesOwn (Vq X.prog X.w) X.A X.env X.xe)(o7:PT X c<|io X.K t E)(W:PSs X body<|tG X.K X.H₀ g E):PS X (.While c body [] pos) (tG X.K X.H₀ (gWh t g) E):=(LM T o7 W).imp λD σ H o8=>by
 obtain⟨B,V,δ,β,o,l,ok,e,q⟩:=o8;obtain⟨n,e⟩:=Pp e;refine⟨λm u P=>∃j M S,hL B H j P/\fh X.K X.H₀ j V P M S u/\ci t g m M S=U (o,l),⟨n,B,δ,β,hL.refl B H,ok,e⟩,?_⟩;rintro m u P ⟨j,M,S,r,h,f⟩;refine⟨ra j V,fy M,S,h.frA,h.viewA,?_⟩;cases m with
 |zero=>cases f
 |succ m=>
  unfold ci at f;split at f
  .rename_i β2 y
   refine⟨.ok O,_,y,λv N s hd=>?_⟩;subst hd;obtain⟨b,k⟩:=h.to Z s;rw[US Z];refine⟨λF Q=>∃o9 a G,hL B H o9 Q/\fh X.K X.H₀ o9 V Q a G F/\ci t g m a G=U (o,l),λF Q v=>by obtain⟨o9,a,G,z⟩:=v;exact ⟨m,Yb m,o9,a,G,z⟩,?_⟩;split at f
   .rename_i a G I
    exact⟨j,V,M,β2,.nx a,G,b,I,λp J R L i=>⟨J,a,G,r.trans<|k.trans L,i,f⟩⟩
   .rename_i a G I
    exact⟨j,V,M,β2,.ct a,G,b,I,λp J R L i=>⟨J,a,G,r.trans<|k.trans L,i,f⟩⟩
   .rename_i a G I
    cases f;exact⟨j,V,M,β2,.bk a,_,b,I,λp J R L i=>q p J R (r.trans<|k.trans L) i⟩
   .rename_i x f5 h2 h3
    refine⟨j,V,M,β2,o,l,b,f,?_⟩;have q2:=iO.pre (r.trans k) q;cases o with
    |nx a=>exact Vl f<|f5 _ _
    |ct a=>exact Vl f<|h2 _ _
    |bk a=>exact Vl f<|h3 _ _
    |rt d=>exact q2
    |rg d=>exact q2
    |ex C a=>exact q2
  .rename_i β2 y
   cases f;refine⟨.ok UK,_,y,λv N s hd=>?_⟩;subst hd;obtain⟨b,k⟩:=h.to Z s;rw[UU UX];exact q _ j N (r.trans k) b
  .rename_i C β2 y
   cases f;refine⟨.error C,_,y,λN s=>?_⟩;obtain⟨b,k⟩:=h.to Z s;exact q _ j N (r.trans k) b
  .cases f
noncomputable def ri(e:TgS)(g:G):ϋ->G
 |[],δ,β=>U (.nx δ,β)
 |d::ds,δ,β=>match e d δ with
  |none=>Y
  |some j=>match g j β with
   |some (.nx δ2,β2)=>ri e g ds δ2 β2
   |some (.ct δ2,β2)=>ri e g ds δ2 β2
   |some (.bk δ2,β2)=>U (.nx δ2,β2)
   |r=>r
def qM(j:Ds->M ϋ)(D:TgS)(g:G):G:=λe E=>match j e E with
 |some (.ok ds,β1)=>ri D g ds e β1
 |some (.error C,β1)=>U (.ex C e,β1)
 |none=>Y
abbrev MJ(e:FL):TgS->G->G:=qM λj=>e<|vw j
theorem HX(hw:∀{B s H δ β Q R},fh X.K X.H₀ B s H δ β Q->run (λo8 (M:ϋ) (J:It)=>B4 X.K J (ee B s) o8 M) (ee B s) E Q (it δ) H R β->wi Q H R)(l:oC X.K tgg tg)(h:PS X (.For tgt z body [] pos)<|DC wi tgg<|tG X.K X.H₀ g E):PS X (.For tgt z body [] pos) (tG X.K X.H₀ (qM it tg g) E):=h.imp λD Q H h_=>by
 obtain⟨B,s,δ,β,o,y,ok,e,q⟩:=h_;apply hw ok;unfold qM at e;split at e
 .rename_i M β1 f5
  refine⟨.ok M,_,f5,λJ S t hJ=>?_⟩;obtain⟨V,s1⟩:=ok.to Z t;refine⟨λi m n F=>m+i=ϱ M/\∃k p G,hL B S k F/\fh _ _ k s F p G n/\ri tg g (M.drop i) p G=U _,⟨ϱ M,ln,B,δ,β1,hL.refl B S,V,e⟩,?_⟩;rintro i m n F ⟨hm,k,p,G,I,c,b⟩;obtain⟨iy,is⟩:=hJ _ F G I.tr c.fr i;cases T:M[i]? with
  |none=>
   have o7:=List.getElem?_eq_none_iff.mp T;rw[Xx o7]at b;cases b;exact .inl ⟨is ln,q n k F (s1.trans I) c⟩
  |some d=>
   have o7:=(UY.mp T).1;obtain⟨go,yl⟩:=iy d T;have ed:M.drop i=d::M.drop (i+1):=by
    rw[Wo o7];simp_all
   rw[ed]at b;unfold ri at b;split at b
   .cases b
   .rename_i f e3
    refine .inr ⟨go,λL H9=>∃W r u,hL B S W H9/\fh _ _ W s H9 r u L/\ri tg g _ r u=U _,λL H9 D=>by obtain⟨W,r,u,z1,z2,z3⟩:=D;exact ⟨m-1,ln,ln,W,r,u,z1,z2,z3⟩,λx H3 hy=>?_⟩;obtain⟨sm,dx⟩:=yl x H3 hy;obtain⟨aa,s3⟩:=c.to Z<|c.fr.same sm;refine l _ k s H3 p f G n d x _ aa dx e3 λab v=>?_;have w:=I.trans s3;split at b
    .rename_i a β5 N
     exact⟨k,s,f,G,.nx a,β5,v,N,λA o9 H6 P j=>⟨o9,a,β5,w.trans P,j,b⟩⟩
    .rename_i a β5 N
     exact⟨k,s,f,G,.ct a,β5,v,N,λA o9 H6 P j=>⟨o9,a,β5,w.trans P,j,b⟩⟩
    .rename_i a β5 N
     cases b;exact⟨k,s,f,G,.bk a,_,v,N,λA o9 H6 P j=>q A o9 H6 (s1.trans<|w.trans P) j⟩
    .rename_i x h1 h2 h3
     refine⟨k,s,f,G,o,y,v,b,?_⟩;have q2:=iO.pre (s1.trans w) q;cases o with
     |nx a=>exact Vl b<|h1 _ _
     |ct a=>exact Vl b<|h2 _ _
     |bk a=>exact Vl b<|h3 _ _
     |rt d=>exact q2
     |rg d=>exact q2
     |ex C a=>exact q2
 .rename_i C β1 f5
  cases e;refine⟨.error C,_,f5,λo8 t=>?_⟩;obtain⟨c,I⟩:=ok.to Z t;exact q _ B o8 I c
 .cases e
theorem bC(l:oC X.K b d)(h:PS X (.For c a body [] pos)<|DC (iV X.K f E) b<|tG X.K X.H₀ g E):PS X (.For c a body [] pos) (tG X.K X.H₀ (MJ f d g) E):=HX (λe r=>⟨_,_,_,e.fr,e.view,r⟩) l h
theorem fh.claim{E}(S:UM->Prop)(D:fh K H₀ B x H E Q A)(t:To (ee B x) H H' R)(g:∀c,S c->H c=Y/\Ic H' c)(V:∀{r:Ow},(∀c,S c->r c=U (i+2))->(∀c,r c≠Y->B c≠Y\/S c)->Tr (ee B x) H (ee r x) H'->qj K r x H' i P v):
  ∃C,fh K H₀ C x H' (E.set i<|U P) R (A.set i<|U v)/\hL B H C H':=by
 classical
 obtain⟨a,F⟩:=D.to Z t;have m:∀c n,B c=U n->¬S c:=λc n e z=>by rw[(λc f=>XG λz=>D.fr.occ c z (g c f).1) c z]at e;cases e
 have p:hL B H (λc=>if S c then U (i+2)else B c) H':=⟨F.kp,λc f=>UU<|f.elim (m c 0)<|m c 1,λc o h n=>(UU λz=>by rw[(g c z).1]at h;cases h).trans n,F.al⟩;have G:Tr (ee B x) H _ H':=p.tr;have u:∀b l,x=U _->(if S b then U (i+2)else B b)=U 1/\(if S l then U (i+2)else B l)=U 1:=λb l e=>by
  obtain⟨M,I⟩:=D.bgt b l e;simp_all
 refine⟨λc=>if S c then U (i+2)else B c,⟨⟨λc f z=>?_,λb l e=>⟨λz=>(by cases z.symm.trans (u b l e).1),λz=>(by cases z.symm.trans (u b l e).2),(D.fr.bgA b l e).2.2⟩,a.fr.bag⟩,u,by rw[VM,VM,D.len],a.cov,λc k f=>?_,λc k f=>?_,λj s e=>?_⟩,p⟩
 .by_cases q:S c
  .rcases(g c q).2 with⟨_,w⟩|⟨_,w⟩<;>(rw[w]at z;cases z)
  .exact a.fr.occ c (λy=>f<|(UU q).trans y) z
 .by_cases z:S c
  .cases w:H₀ c with
   |none=>rfl
   |some o=>exact Vl (g c z).1 (D.cov c<|by rw[w];simp)
  .exact D.new c k ((UU z).symm.trans f)
 .by_cases z:S c
  .exact(g c z).2
  .exact a.lst c k ((UU z).symm.trans f)
 .rw[WG]at e⊢
  by_cases q:i=j
  .subst q
   rw[US Z]at e⊢;split at e
   .rename_i J
    cases e;rw[US<|by rw[<-D.len];exact J];exact⟨_,Z,V (λc z=>US z) (λc z=>XG λy=>z<|(UU λw=>y<|.inr w).trans<|XG λw=>y<|.inl w) G⟩
   .cases e
  .rw[UU q]at e⊢
   obtain⟨w,L,N⟩:=D.tell j s e;exact⟨w,L,N.tr G λc d=>⟨(UU<|m c _ d).trans d,λo h=>t.kp c o h λb l z=>⟨λy=>(by subst y;rw[(D.bgt _ _ z).1]at d;cases d),λy=>(by subst y;rw[(D.bgt _ _ z).2]at d;cases d)⟩⟩⟩
theorem fh.newAt{e}(j:fh K H₀ B k H e l b)(d:H p=Y)(g:Ic (upd H p u) p)(D:∀{a:Ow},a p=U (i+2)->Tr (ee B k) H (ee a k) (upd H p u)->qj K a k (upd H p u) i sl (.ref p)):
  ∃f,fh K H₀ f k (upd H p u) (e.set i<|U sl) l (b.set i<|U<|.ref p)/\hL B H f (upd H p u):=j.claim _ (j.fr.upd u d) (λc z=>by cases z;exact⟨d,g⟩) λh _ E=>D (h p Z) E
theorem fh.writeAt{E}(D:fh K H₀ B w H E A x)(M:x[i]?=U (U<|.ref a))(hB:B a=U (i+2))(p:Ic (upd H a u) a)(S:Tr (ee B w) H (ee B w) (upd H a u)->qj K B w (upd H a u) i sl (.ref a)):
  fh K H₀ B w (upd H a u) (E.set i<|U sl) A x/\hL B H B (upd H a u):=by
 have f:hL B H B (upd H a u):=by
  refine⟨λc o h n=>?_,λ_ _=>Z,λ_ _ _ n=>n,λc g=>?_⟩
  .rw[bb]
   .exact h
   .intro z;simp_all
  .by_cases z:c=a
   .subst z;rw[ay];simp
   .rw[bb z];exact g
 have G:Tr _ H (ee B w) _:=f.tr;refine⟨⟨⟨λc g z=>?_,D.fr.bgA,λb l e=>?_⟩,D.bgt,by rw[VM,D.len],λa V=>f.al a<|D.cov a V,D.new,λc k g=>(by
  by_cases z:c=a
  .subst z;exact p
  .exact(D.lst c k g).imp λo y=>by rw[bb z];exact y),λj s e=>?_⟩,f⟩
 .by_cases q:c=a
  .subst q;rw[ay]at z;cases z
  .rw[bb q]at z;exact D.fr.occ c g z
 .obtain⟨b1,m⟩:=D.bgt b l e
  rw[bb (λz=>by subst z;simp_all),bb (λz=>by subst z;simp_all)];exact D.fr.bag b l e
 .rw[WG]at e
  by_cases q:i=j
  .subst q
   simp_all
  .rw[UU q]at e
   obtain⟨v,r,t⟩:=D.tell j s e;exact⟨v,r,t.tr G λc d=>⟨d,λo z=>(bb λy=>by subst y;simp_all).trans z⟩⟩
theorem fh.newOwn{j}{a}(D:fh K H₀ B f H j g a)(c:H p=Y)(E:a_ K (ee B f) H h d):
  ∃b,fh K H₀ b f (upd H p<|.lst d) (j.set i<|U<|.own h) g (a.set i<|U<|.ref p)/\hL B H b (upd H p<|.lst d):=D.newAt c (.inl ⟨d,ay⟩) λe t=>⟨p,d,Z,e,ay,a_.tr t _ _ E⟩
theorem fh.writeOwn{e}(j:fh K H₀ B b H e d c)(D:c[i]?=U (U<|.ref a))(hB:B a=U (i+2))(G:H a=U (.lst f))(E:a_ K (ee B b) H ds xs):
  fh K H₀ B b (upd H a<|.lst xs) (e.set i<|U<|.own ds) d c/\hL B H B (upd H a<|.lst xs):=j.writeAt D hB (.inl ⟨xs,ay⟩) λt=>⟨a,xs,Z,hB,ay,a_.tr t _ _ E⟩
def FC(i:Nat)(f:FL):G:=λe j=>match f (vw e) j with
 |some (.ok ds,β1)=>if ds.length<=Ve then U (.nx<|e.set i<|U<|.own ds,β1)else Y
 |some (.error C,β1)=>U (.ex C e,β1)
 |none=>Y
theorem lO(h:PS X st<|ie (Qa<|ix X.K f E)<|fJ i):PS X st (tG X.K X.H₀ (FC i f) E):=h.imp λD r H j=>by
 obtain⟨B,M,S,V,o,k,ok,e,q⟩:=j;refine⟨ee B M,vw S,V,ok.fr,ok.view,?_⟩;unfold FC at e;split at e
 .rename_i ds β1 b
  split at e
  .rename_i l
   cases e;refine⟨.ok ds,_,b,λs g t G=>⟨by rw[<-G.length];exact l,λp m=>?_⟩⟩;obtain⟨a,c⟩:=ok.to Z t;obtain⟨u,d,n⟩:=a.newOwn m G;exact q _ _ _ (c.trans n) d
  .cases e
 .rename_i C β1 b
  cases e;refine⟨.error C,_,b,λg t=>?_⟩;obtain⟨a,c⟩:=ok.to Z t;exact q _ B g c a
 .cases e
def FH(i:Nat)(f:FL):G:=λe j=>match e.getD i Y with
 |some (.own cs)=>match f (vw e) j with
  |some (.ok [d],β1)=>if cs.length<Ve then U (.nx<|e.set i<|U<|.own<|cs++[d],β1)else Y
  |some (.error C,β1)=>U (.ex C e,β1)
  |_=>Y
 |_=>Y
theorem getD_some{j}{e:List (Option j)}{s}(h:e.getD i Y=U s):e[i]?=U (U s):=by
 rw[UO]at h;cases z:e[i]? with
 |none=>rw[z]at h;cases h
 |some w=>rw[z]at h;simp_all
theorem lR(h:PS X st<|sP<|tBM X.K lQ uW (iR i)<|ix X.K f E):PS X st (tG X.K X.H₀ (FH i f) E):=h.imp λD P H y=>by
 obtain⟨B,G,M,S,o,A,ok,e,q⟩:=y;unfold FH at e;split at e
 .rename_i cs u
  obtain⟨v,l,a,V,rfl,F,I,Q⟩:=ok.tell i _<|getD_some u;refine⟨_,l,.inl ⟨Z,V,e_.of I⟩,ee B G,vw M,S,ok.fr,ok.view,?_⟩;split at e
  .rename_i d β1 m
   split at e
   .rename_i J
    cases e;refine⟨.ok [d],_,m,λx w t s=>?_⟩;obtain⟨b,n⟩:=ok.to Z t;obtain⟨v,rfl,L⟩:=a_.one s;obtain⟨R,c,T,g,p,N,j,k⟩:=b.tell i _<|getD_some u;rw[l]at c;cases c;cases p;refine⟨a,g,v,Z,Z,j,by rw[<-k.length];exact J,?_⟩;obtain⟨r,W⟩:=b.writeOwn l F j<|a_.append k<|a_.cons L a_.nil;exact q _ _ _ (n.trans W) r
   .cases e
  .rename_i C β1 m
   cases e;refine⟨.error C,_,m,λw t=>?_⟩;obtain⟨b,n⟩:=ok.to Z t;exact q _ B w n b
  .cases e
 .cases e
noncomputable def fz(i:Nat)(e:Ds):Ds:=match e.getD i Y with
 |some (.own ds)=>e.set i<|U<|.sh<|.lst ds
 |some (.grd ai)=>e.set i<|U<|.sh<|.lst<|ai.map D.lst
 |some (.odc b ks vs)=>e.set i<|U<|.sh<|.dct b ks vs
 |_=>e
theorem fh.letGo{E}(S:UM->Prop)(D:fh K H₀ B x H E J I)(r:∀c,S c->B c=U (i+2))(A:I[i]?=U (U v))(X:∀{g:Ow},(∀c,S c->g c=Y)->(∀c,¬S c->g c=B c)->Tr (ee B x) H (ee g x) H->qj K g x H i L v):∃t,fh K H₀ t x H (E.set i<|U L) J I/\hL B H t H:=by
 classical
 have G:∀c n,(if S c then Y else B c)=U n->B c=U n:=λc n e=>by
  simp_all
 have u:∀c,B c=Y->(if S c then Y else B c)=Y:=λc e=>by rw[e];exact ite_self _
 have m:∀c,B c=U 0\/B c=U 1->¬S c:=λc h z=>by rw[r c z]at h;rcases h with h|h<;>cases h
 have f:hL B H _ H:=⟨λ_ _ h _=>h,λc a=>UU<|m c a,λc o h n=>u c n,λ_ h=>h⟩;have M:Tr (ee B x) H _ H:=f.tr;have p:∀b l,x=U _->(if S b then Y else B b)=U 1/\(if S l then Y else B l)=U 1:=λb l e=>by
  obtain⟨V,y⟩:=D.bgt b l e;simp_all
 refine⟨λc=>if S c then Y else B c,⟨⟨λc a=>D.fr.occ c λz=>a<|u c z,λb l e=>⟨λz=>(by cases z.symm.trans (p b l e).1),λz=>(by cases z.symm.trans (p b l e).2),(D.fr.bgA b l e).2.2⟩,D.fr.bag⟩,p,by rw[VM,D.len],D.cov,λc k a=>D.new c k<|G c _ a,λc k a=>D.lst c k<|G c _ a,λj s e=>?_⟩,f⟩;rw[WG]at e;by_cases q:i=j
 .subst q
  simp_all
 .rw[UU q]at e
  obtain⟨w,C,F⟩:=D.tell j s e;exact⟨w,C,F.tr M λc d=>⟨(UU λz=>by rw[r c z]at d;simp_all).trans d,λ_ z=>z⟩⟩
theorem fh.freeze(i)(e:fh K H₀ B s H w y A):∃n,fh K H₀ n s H (fz i w) y A/\hL B H n H:=by
 unfold fz;split
 .rename_i ds d
  obtain⟨v,f,a,E,g,h,j,k⟩:=e.tell i _<|getD_some d;exact e.letGo (·=a) (λc z=>z▸h) f λb _ D=>⟨a,E,g,⟨λz=>z<|b a Z,.inl j⟩,a_.tr D _ _ k⟩
 .rename_i ai d
  obtain⟨v,f,a,G,g,h,j,V,o⟩:=e.tell i _<|getD_some d;exact e.letGo (λc=>c=a\/c∈G) (λc z=>z.elim (·▸h) λz=>(o.all c z).1) f λb _ D=>⟨a,_,g,⟨λz=>z<|b a<|.inl Z,.inl j⟩,bG.den D o λr p _ z=>z<|b r<|.inr p⟩
 .rename_i q l m d
  obtain⟨v,f,a,g,h,M,E,j,k,t,u⟩:=e.tell i _<|getD_some d;exact e.letGo (·=a) (λc z=>z▸h) f λb _ D=>by
   show bi _ _ _ _ _;exact⟨a,M,E,g,⟨λz=>z<|b a Z,j⟩,k,λx S=>(t x S).tr D,a_.tr D _ _ u⟩
 .exact⟨B,e,hL.refl B H⟩
noncomputable def fzG(i:Nat)(g:G):G:=λe j=>g (fz i e) j
theorem ye(i)(h:PSs X j<|tG X.K X.H₀ g E):PSs X j (tG X.K X.H₀ (fzG i g) E):=h.imp λD f H c=>by
 obtain⟨B,G,M,S,o,a,ok,e,q⟩:=c;obtain⟨d,b,s⟩:=ok.freeze i;exact⟨d,G,fz i M,S,o,a,b,e,iO.pre s q⟩
noncomputable def lv(n:Nat)(ds:ϋ):Ds:=ds.map (λd=>U<|Sl.sh d)++Vn (n-ds.length) Y
def fK(n:Nat)(g:G):ϋ->M D:=λe j=>match g (lv n e) j with
 |some (.rt d,β')=>U (.ok d,β')
 |some (.nx _,β')=>U (.ok .non,β')
 |some (.ex C _,β')=>U (.error C,β')
 |_=>Y
theorem xM{F}{N}(fr:Fr F H x)(E:a_ K F H w y):∃B,fh K H B F.bg H (lv N.length w) x (gU N y)/\(∀a,F.A a->B a=U 0\/B a=U 1)/\(∀a,B a=U 1->∃b l,F.bg=U (b,l)/\(a=b\/a=l))/\(∀a,B a≠Y->F.A a):=by
 classical
 refine⟨λa=>if F.A a then(if ∃b l,F.bg=U (b,l)/\(a=b\/a=l)then U 1 else U 0)else Y,⟨⟨λa D=>fr.occ a ?_,λb l e=>?_,fr.bag⟩,λb l e=>?_,?_,λ_ h=>h,λc k m=>(by
  have f:=m;split at f
  .split at f<;>cases f
  .cases f),λc k m=>(by
  have f:=m;split at f
  .split at f<;>cases f
  .cases f),λi s e=>?_⟩,λa D=>?_,λa D=>?_,λa D=>?_⟩
 .have g:(if F.A a then(if ∃b l,F.bg=U _/\(a=b\/a=l)then U 1 else U 0)else Y)≠(Y:ϳ):=D
  simp_all
 .obtain⟨a1,a2,a3⟩:=fr.bgA b l e
  refine⟨?_,?_,a3⟩
  .show(if F.A b then(if ∃j l,F.bg=U _/\(b=j\/b=l)then U 1 else U 0)else Y)≠(Y:ϳ)
   rw[US a1];split<;>simp
  .show(if F.A l then(if ∃j p,F.bg=U _/\(l=j\/l=p)then U 1 else U 0)else Y)≠(Y:ϳ)
   rw[US a2];split<;>simp
 .obtain⟨a1,a2,a3⟩:=fr.bgA b l e
  exact⟨by rw[US a1,US ⟨b,l,e,.inl Z⟩],by rw[US a2,US ⟨b,l,e,.inr Z⟩]⟩
 .unfold lv gU
  rw[Va,Va,UD,UD,WS,WS,E.length]
 .unfold lv at e
  unfold gU;rw[List.getElem?_append,UD]at e;rw[List.getElem?_append,UD,<-E.length];by_cases n:i<w.length
  .rw[US n,UN]at e
   rw[US n,UN];cases z:w[i]? with
   |none=>rw[z]at e;cases e
   |some d=>
    rw[z]at e;cases e;obtain⟨v,r,t⟩:=E.get z;refine⟨v,by rw[r];rfl,?_⟩;have o:Tr F H (ee (λa=>if F.A a then(if ∃b l,F.bg=U (b,l)/\(a=b\/a=l)then U 1 else U 0)else Y) F.bg) H:=by
     refine⟨λa D _ u=>?_,λ_ _ _ h=>h,Z⟩;have q:(if F.A a then(if ∃b l,F.bg=U _/\(a=b\/a=l)then U 1 else U 0)else Y)≠(Y:ϳ):=u;simp_all
    exact bi.tr o _ _ t
  .rw[UU n,Xn]at e
   simp_all
 .simp only[US D]
  split
  .exact .inr Z
  .exact .inl Z
 .simp only at D
  split at D
  .split at D
   .assumption
   .cases D
  .cases D
 .simp only at D
  simp_all
variable{P:Vw}{w:VC}{mg:ϙ}{X:V0}
theorem Pr{N M}(F:gs K x qual st f fd)(S:ba N M<|ak st)
  (y:∀(j:UQ) (A:V3) (D:List Env) (s:UW) (H:Hp) (E:XK),d4 k (A.deeper<|Zo qual (ak st) s.heap.objs.size f j)->
   PSs (gD (hO P w) P w K mg X N qual (ak st) f j A D s H E) (c7 st) (tG K H g (λ_=>E))):fw P w K mg X (hO P w) (k+1) f fd M (P_ K (ϱ M)<|fK (ϱ N) g):=by
 refine F.okE S (λvs H Q E h=>h.1) λj A D s H vs Q E o8 h=>?_;obtain⟨hl,p,V,β,fr,hd,r,i,e,h⟩:=h;refine⟨_,y j A D s H E o8,?_⟩;obtain⟨B,ok,T,f5,hn⟩:=xM fr hd;have I:∀{u:Ow} {c:Hp},hL B H u c->Fr (ee u _) c i->To p H c i/\Tr (ee u _) c p c:=λ{u c} s m=>by
  have hs:∀a,p.A a->u a≠Y:=λa G=>by
   rw[s.tg a<|T a G];rcases T a G with z|z<;>rw[z]<;>simp
  refine⟨⟨λa o G n=>s.kp a o G ?_,λa G=>m.occ a<|hs a G,λb l e=>fr.bgA b l e,m.bag⟩,λa G _ z=>G<|hs a z,λ_ _ _ h=>h,Z⟩;cases q:B a with
  |none=>exact .inl Z
  |some t=>
   have:=T a (hn a<|by rw[q];simp);obtain z|z:=this
   .rw[q]at z;exact .inr z
   .obtain⟨b,l,e,w⟩:=f5 a z
    obtain⟨n1,n2⟩:=n b l e;obtain w|w:=w
    .exact Vl w n1
    .exact Vl w n2
 unfold fK at e;split at e
 .rename_i d β1 o9
  cases e;refine⟨B,p.bg,lv _ V,β,.rt d,i,ok,o9,λv u c s m hv=>?_⟩;obtain⟨R,o7⟩:=I s m;exact h v c R<|bi.tr o7 _ _ hv
 .rename_i J β1 o9
  cases e;refine⟨B,p.bg,lv _ V,β,.nx J,i,ok,o9,λW u c s L=>?_⟩;obtain⟨R,o7⟩:=I s L.fr;exact h _ c R Z
 .rename_i C J β1 o9
  cases e;refine⟨B,p.bg,lv _ V,β,.ex C J,i,ok,o9,λW u c s L=>?_⟩;obtain⟨R,o7⟩:=I s L.fr;exact h c R
 .cases e
variable{q:Vw}{A:V3}
theorem Uw(g:A.handled=Y)(G t)(S:t≠G)(D:ϫ):Draws q w A G [G,t] D.size (λi v=>D[i]?=U v) (λi h=>h.IsTupleIter G t i/\h.IsTuple t D) where
 live:=λ_ _ st=>by obtain⟨o,e,_⟩:=st.1;exact ⟨o,e⟩
 frame:=λ_ _ _ st k=>⟨st.1.at λo e=>k G (by exact .head _) o e,by
  obtain⟨o,e,r⟩:=st.2;exact⟨o,k t rc o e,r⟩⟩
 item:=λi s Q E l st n=>by
  obtain⟨o,c,M,b⟩:=id st.1;obtain⟨j,d,_,P,f⟩:=st.2;have K:D[i]?=U D[i]:=by simp
  unfold WW;refine My<|wpAny_callSpecial?_slot st.1.typeIs YR<|VD YR st.1.typeIs F.entry_tuple_iterator_next ?_<|F.args_tuple_iterator_next_1 _;show U6 _ _ (field _ 0>>=_) _ _ _;refine My<|Wp c b Z ?_;show U6 _ _ (if(Vh t==VH)=O then _ else _) _ _ _;refine My<|Wp c b Z ?_;refine My<|WX d f ?_;simp only[Wc,K];refine My<|Yn c b rc<|UF ⟨D[i],Z,UF<|n _ _ _ K ⟨?_,?_⟩<|Wu ..⟩
  .exact⟨_,XM _ c<|Zv<|WI b _,(PySem.Obj.cls_mapFields ..).trans M,by rw[WI b];simp[Yy]⟩
  .exact⟨j,(Wu ..).extBut _ _ S d,by assumption,P,f⟩
 done:=λs Q E st p=>by
  obtain⟨o,c,M,b⟩:=id st.1;obtain⟨j,d,_,P,f⟩:=st.2;have K:D[D.size]?=Y:=by simp
  unfold WW;refine My<|wpAny_callSpecial?_slot st.1.typeIs YR<|VD YR st.1.typeIs F.entry_tuple_iterator_next ?_<|F.args_tuple_iterator_next_1 _;show U6 _ _ (field _ 0>>=_) _ _ _;refine My<|Wp c b Z ?_;show U6 _ _ (if(Vh t==VH)=O then _ else _) _ _ _;refine My<|Wp c b Z ?_;refine My<|WX d f ?_;simp only[Wc,K];refine My<|XV<|My<|Yn c b rc ?_;apply My;refine My (VE ?_<|by size_fits);refine My<|Yu (by first|rfl|(simp only;rfl))<|VE ?_ (by size_fits)
  simp only;refine My<|wpAny_handled ?_
  first|rw[show A.in1.handled=Y from g]|rw[g];skip
  exact My<|UF<|wpAny_throw<|p _ _ (((Wu ..).extBut.push _).push _) ⟨_,U7 _ Z,Z⟩
structure Ap (z TI TO i1 i2:UM) (f1 f2:ϗ):Prop where
 a1:TI≠z
 a2:TO≠z
 a3:i1≠z
 a4:i2≠z
 a5:TI≠TO
 a6:TI≠i1
 a7:TI≠i2
 a8:TO≠i1
 a9:TO≠i2
 b1:i1≠i2
 c1:z∉f1
 c2:TO∉f1
 c3:i2∉f1
 d1:z∉f2
 d2:TO∉f2
 d3:i1∉f2
 m1:i1∈f1
 m2:i2∈f2
end
section
variable{prog:Vw}{w:VC}{A:V3}{E:ϕ}{s:UW}
theorem cZ{s}{f:ϗ}{h w}(a:Vy s h w)(n:s∉f):∀b∈f,∀o,h.get? b=U o->w.get? b=U o:=λb c o e=>a.extBut b o (λq=>n<|q▸c) e
theorem GE{z TI TO r t}{f1 f2:ϗ}{u B k}{P1 P2:Nat->UQ->Prop}{W X:Nat->V0->Prop}{a b}{Q:ϕ}(L:Draws prog w A r f1 u P1 W)(N:Draws prog w A t f2 B P2 X)(d:Ap z TI TO r t f1 f2)
  (P:IsZip s.heap z TI TO .none) (eI:Yi s.heap TI (.ref r)<|.ref t) (eO:Yi s.heap TO a b) (s1:W k s.heap) (s2:X k s.heap) (k1:k<u) (k2:k<B)
  (hQ:∀D tk x y,P1 k x->P2 k y->IsZip D z TI TO (Yy s.heap.objs.size)->Yi D TO x y->W (k+1) D->X (k+1) D->Yi D s.heap.objs.size x y->D.objs.size=s.heap.objs.size+1->(∀c o,c≠z->c≠TO->c≠r->c≠t->s.heap.get? c=U o->D.get? c=U o)->Q (.ref s.heap.objs.size) {s with heap:=D,toks:=tk}):
  U6 (Vq prog w) A (Builtin.«zip.__next__» ⟨[.ref z],[]⟩) (λf5 s'=>∃v,f5= .done (.ret v)/\Q v s') E s:=by
 obtain⟨G,gg,dd,ae,os⟩:=s;show U6 _ _ (field _ 2>>=_) _ _ _;refine My<|Wp P Z Z ?_;refine My<|Wp P Z Z<|My<|WX eI Z ?_;apply My;refine My<|Wp P Z Z<|UF ?_;refine My<|XV<|My<|Wp P Z Z ?_;refine My<|WD P rc λK C g=>?_
 apply My;dsimp only[List.zipIdx_nil];refine My<|My<|wpAny_onRaise ?_;refine My<|L.item k _ _ _ k1 (L.frame _ _ _ s1<|cZ g d.c1) λx M ak px S h=>UF ?_
 replace h:Vy r K M:=h
 have R:=h.extBut _ _ d.a8<|g.extBut _ _ d.a2 eO;refine My<|WX R Z<|My<|wpAny_updateSeq_pair R λV F i=>?_
 refine My<|wpAny_letGo<|UF<|My<|My<|wpAny_onRaise ?_;refine My<|N.item k _ _ _ k2 (N.frame _ _ _ (N.frame _ _ _ (N.frame _ _ _ s2<|cZ g d.d1)<|cZ h d.d3)<|cZ i d.d2) λy g4 ah py aa j=>UF ?_
 replace j:Vy t V g4:=j
 have T:=j.extBut _ _ d.a9 F;refine My<|WX T Z<|My<|wpAny_updateSeq_pair T λf m l=>?_
 replace m:Yi f TO x y:=m
 refine My<|wpAny_letGo<|UF<|UF<|My<|WX m Z<|My<|wpAny_newTuple ?_;have zs:f.objs.size=G.objs.size:=by rw[l.1,j.1,i.1,h.1,g.1]
 have o7:=l.extBut _ _ d.a2.symm<|j.extBut _ _ d.a4.symm<|i.extBut _ _ d.a2.symm<|h.extBut _ _ d.a3.symm C;have ab:∀c o,c≠z->c≠TO->c≠r->c≠t->G.get? c=U o->f.get? c=U o:=λc o u B n3 n4 e=>l.extBut _ _ B<|j.extBut _ _ n4<|i.extBut _ _ B<|h.extBut _ _ n3<|g.extBut _ _ u e;have ac:=L.frame _ _ _ (L.frame _ _ _ (L.frame _ _ _ S<|cZ i d.c2)<|cZ j d.c3)<|cZ l d.c2;have ad:=N.frame _ _ _ aa<|cZ l d.d2;have zl:=Vm o7;apply My;refine My<|WD (UH _ o7) rc λg7 H I=>?_
 refine WD H rc λo9 p J=>?_
 have o8:∀c o,c≠z->f.get? c=U o->o9.get? c=U o:=λc o n e=>J.extBut _ _ n<|I.extBut _ _ n<|UH _ e;have eT:=J.extBut _ _ (XB zl)<|I.extBut _ _ (XB zl)<|U7 _ Z;have z8:o9.objs.size=f.objs.size+1:=by rw[J.1,I.1,WB]
 rw[zs]at p eT z8;refine UF ⟨_,Z,?_⟩;rw[zs];exact hQ o9 _ x y px py p (o8 _ _ d.a2 m) (L.frame _ _ _ ac λb hb o e=>o8 b o (λq=>d.c1<|q▸hb) e) (N.frame _ _ _ ad λb hb o e=>o8 b o (λq=>d.d1<|q▸hb) e) eT z8 λc o u B n3 n4 e=>o8 c o u<|ab c o u B n3 n4 e
theorem Le{z TI TO n r}{f1 f2:ϗ}(H:Draws prog w A n f1 m P1 S1)(I:Draws prog w A r f2 T P2 S2)(i:Ap z TI TO n r f1 f2)
  (u:IsZip s.heap z TI TO .none) (o8:Yi s.heap TI (.ref n)<|.ref r) (f5:Yi s.heap TO a b) (o7:S1 k s.heap) (G:S2 k s.heap) (N:k=m\/(k<m/\k=T))
  (W:∀D e K,(∀c o,c≠z->c≠TO->c≠n->c≠r->s.heap.get? c=U o->D.get? c=U o)->(∃o,D.get? e=U o/\o.cls= .type "StopIteration")->E (.ref e) {s with heap:=D,toks:=K}):
  U6 (Vq prog w) A (Builtin.«zip.__next__» ⟨[.ref z],[]⟩) Q E s:=by
 obtain⟨M,gg,dd,S,os⟩:=s;show U6 _ _ (field _ 2>>=_) _ _ _;refine My<|Wp u Z Z ?_;refine My<|Wp u Z Z<|My<|WX o8 Z ?_;apply My;refine My<|Wp u Z Z<|UF ?_;refine My<|XV<|My<|Wp u Z Z ?_;refine My<|WD u rc λJ j f=>?_
 apply My;dsimp only[List.zipIdx_nil];refine My<|My<|wpAny_onRaise ?_;obtain rfl|⟨N,rfl⟩:=N
 .refine My (H.done _ _ _ (H.frame _ _ _ o7<|cZ f i.c1) λt e d o9=>?_)
  obtain⟨P,h,v⟩:=o9;have y:=d _ _ i.a3.symm j;have p:e≠z:=λq=>by subst q;rw[y]at h;cases h;simp at v
  exact WD y rc λL _ g=>W L e _ (λc o m _ R _ q=>g.extBut _ _ m<|d _ _ R<|f.extBut _ _ m q) ⟨P,g.extBut _ _ p h,v⟩
 .refine My (H.item k _ _ _ N (H.frame _ _ _ o7<|cZ f i.c1) λx t V px aa d=>UF ?_)
  replace d:Vy n J t:=d
  have B:=d.extBut _ _ i.a8<|f.extBut _ _ i.a2 f5;refine My<|WX B Z<|My<|wpAny_updateSeq_pair B λL ab g=>?_
  refine My<|wpAny_letGo<|UF<|My<|My<|wpAny_onRaise ?_;refine My<|I.done _ _ _ (I.frame _ _ _ (I.frame _ _ _ (I.frame _ _ _ G<|cZ f i.d1)<|cZ d i.d3)<|cZ g i.d2) λX e l o9=>?_
  obtain⟨P,h,v⟩:=o9;have C:=l _ _ i.a4.symm<|g.extBut _ _ i.a2.symm<|d.extBut _ _ i.a3.symm j;have p:e≠z:=λq=>by subst q;rw[C]at h;cases h;simp at v
  exact WD C rc λg5 _ F=>W g5 e _ (λc o m T R n4 q=>F.extBut _ _ m<|l _ _ n4<|g.extBut _ _ T<|d.extBut _ _ R<|f.extBut _ _ m q) ⟨P,F.extBut _ _ p h,v⟩
theorem GD{z TI TO e f}{f1 f2:ϗ}(i:∀d:V3,d.handled=A.handled->Draws prog w d e f1 I P1 S1)(j:∀d:V3,d.handled=A.handled->Draws prog w d f f2 n2 P2 S2)(l:Ap z TI TO e f f1 f2)
  (h:IsZip s.heap z TI TO .none) (m:Yi s.heap TI (.ref e)<|.ref f) (n:Yi s.heap TO a b) (p:S1 k s.heap) (q:S2 k s.heap) (r:k<I) (t:k<n2)
  (u:∀D g x y,P1 k x->P2 k y->IsZip D z TI TO (Yy s.heap.objs.size)->Yi D TO x y->S1 (k+1) D->S2 (k+1) D->Yi D s.heap.objs.size x y->D.objs.size=s.heap.objs.size+1->(∀c o,c≠z->c≠TO->c≠e->c≠f->s.heap.get? c=U o->D.get? c=U o)->Q (U<|.ref s.heap.objs.size) {s with heap:=D,toks:=g}):
  U6 (Vq prog w) A (YK<|.ref z) Q E s:=by
 have ty:s.TypeIs (.ref z) U0:=⟨_,h,Z⟩;exact My<|YG<|wpAny_callSpecial?_slot ty F.slot_zip_next<|VD F.slot_zip_next ty F.entry_zip_next (GE (i _ Z) (j _ Z) l h m n p q r t λD g x y G K M S V v B C H=>UF<|u D g x y G K M S V v B C H)<|F.args_zip_next_1 _
theorem Ld{z TI TO f g}{f1 f2:ϗ}(j:∀d:V3,d.handled=A.handled->Draws prog w d f f1 x P1 S1)(l:∀d:V3,d.handled=A.handled->Draws prog w d g f2 n2 P2 S2)(m:Ap z TI TO f g f1 f2)
  (h:IsZip s.heap z TI TO .none) (n:Yi s.heap TI (.ref f)<|.ref g) (p:Yi s.heap TO a b) (q:S1 k s.heap) (r:S2 k s.heap) (t:k=x\/(k<x/\k=n2))
  (u:∀D i,(∀c o,c≠z->c≠TO->c≠f->c≠g->s.heap.get? c=U o->D.get? c=U o)->Q Y {s with heap:=D,toks:=i}):U6 (Vq prog w) A (YK<|.ref z) Q E s:=by
 have ty:s.TypeIs (.ref z) U0:=⟨_,h,Z⟩;refine My<|YG<|wpAny_callSpecial?_slot ty F.slot_zip_next<|VD F.slot_zip_next ty F.entry_zip_next (Le (j _ Z) (l _ Z) m h n p q r t λD e i v y=>?_)<|F.args_zip_next_1 _;obtain⟨o,B,C⟩:=y;exact My<|W3 ⟨o,B,C⟩ isSubtype_stop<|UF<|u _ _ v
def D1(b:Bool)(h:V0)(a:UM)(s:ϫ):Prop:=if b=O then h.IsList a s else h.IsTuple a s
noncomputable def NU(b:Bool):String:=if b=O then "list_iterator"else "tuple_iterator"
noncomputable abbrev ui(b:Bool)(a:UM):Wd:={cls:= .type<|NU b,data:= .fields #[.ref a,.int 0 0]}
def iK(b:Bool)(h:V0)(s a:UM)(k:Nat):Prop:=if b=O then h.IsListIter s a k else h.IsTupleIter s a k
theorem D1.keep{h s}(x:D1 b h a c)(k:∀o,h.get? a=U o->s.get? a=U o):D1 b s a c:=by
 unfold D1 at x⊢;split at x
 .rename_i q;rw[US q];exact x.at λo e=>k o e
 .rename_i q;rw[UU q]
  obtain⟨o,e,r⟩:=x;exact⟨o,k o e,r⟩
theorem tQ{b}(x:D1 b s.heap a c)(h:Q (.ref s.heap.objs.size) {s with heap:=s.heap.push (ui b a)}):U6 (Vq prog w) A (pyIter<|.ref a) Q E s:=by
 cases b with
 |true=>exact wpAny_pyIter_list (show s.heap.IsList a c from x) h
 |false=>exact wpAny_pyIter_tuple (show s.heap.IsTuple a c from x) h
theorem xq(b)(c:A.handled=Y)(D a)(E:a≠D)(s):Draws prog w A D [D,a] s.size (λi v=>s[i]?=U v) (λi h=>iK b h D a i/\D1 b h a s):=by
 cases b with
 |true=>exact Draws.list c D a E s
 |false=>exact Uw c D a E s
abbrev zH1(s:Bool)(h:V0)(a:UM):V0:=h.push<|ui s a
abbrev zH2(s a:Bool)(h:V0)(b c:UM):V0:=(zH1 s h b).push<|ui a c
abbrev zH3(s b:Bool)(h:V0)(a c:UM):V0:=(zH2 s b h a c).push {cls:= .type lP,data:= .seq #[.ref h.objs.size,.ref (zH1 s h a).objs.size]}
abbrev zH4(s a:Bool)(h:V0)(b c:UM):V0:=(zH3 s a h b c).push {cls:= .type lP,data:= .seq #[.none,.none]}
abbrev zH5(s a:Bool)(h:V0)(b c:UM):V0:=(zH4 s a h b c).push {cls:= .type U0,data:= .fields #[.none,.bool UK,.bool UK,.ref (zH2 s a h b c).objs.size,.ref (zH3 s a h b c).objs.size]}
theorem EG(D c)(a b)(E G):
  Meets (Builtin.«zip.__new__» ⟨[.type U0,.ref a,.ref b],[]⟩) (λ_ R s=>D1 D s.heap a E/\D1 c s.heap b G/\R (.ok<|.ret<|.ref (zH4 D c s.heap a b).objs.size) {s with heap:=zH5 D c s.heap a b}):=
 .of_wp λprog w A R s h=>by
  obtain⟨f,g,d,i,K⟩:=s;obtain⟨k,l,q⟩:=h;have j:=sub_zip;have n:D1 c (Shared.heap ⟨f.push<|ui D a,g,d,i,K⟩) b G:=l.keep λo e=>UH _ e
  wp_walk using tQ k,tQ n
  exact⟨_,Z,q⟩
theorem KU{D d}(r:D1 D s.heap y B)(t:D1 d s.heap z C)
  (h:∀G,IsZip G (s.heap.objs.size+4) (s.heap.objs.size+2) (s.heap.objs.size+3) .none->Yi G (s.heap.objs.size+2) (.ref s.heap.objs.size) (.ref<|s.heap.objs.size+1)->Yi G (s.heap.objs.size+3) .none .none->iK D G s.heap.objs.size y 0->iK d G (s.heap.objs.size+1) z 0->G.objs.size=s.heap.objs.size+5->(∀c o,s.heap.get? c=U o->G.get? c=U o)->Q (.ref<|s.heap.objs.size+4) {s with heap:=G}):
  U6 (Vq prog w) A (call (.type U0) [.ref y,.ref z]) Q E s:=by
 refine callType_new F.called_zip rb (F.typeCall_zip_2 _ _) (F.newCall_zip_2 _ _) (λK=>F.args_object_init_3 K _ _) F.entry_zip_new (EG D d y z B C) ⟨r,t,?_⟩;have g:(zH1 D _ y).objs.size=s.heap.objs.size+1:=WB ..;have i:(zH2 D d s.heap y z).objs.size=s.heap.objs.size+2:=by rw[WB,g]
 have j:(zH3 D d s.heap y z).objs.size=s.heap.objs.size+3:=by rw[WB,i]
 have k:(zH4 D d s.heap y z).objs.size=s.heap.objs.size+4:=by rw[WB,j]
 have u:(zH5 D d s.heap y z).objs.size=s.heap.objs.size+5:=by rw[WB,k]
 have l:(zH5 D d s.heap y z).get? _=U _:=U7 _ Z;have m:(zH5 D d s.heap y z).get? _=U _:=UH _<|U7 _ Z;have n:(zH5 D d s.heap y z).get? _=U _:=UH _<|UH _<|U7 _ Z;have q:(zH5 D d s.heap y z).get? _=U _:=UH _<|UH _<|UH _<|U7 _ Z;rw[i,j,k]at l;rw[g,i]at n;rw[j]at m;rw[g]at q;rw[k];have f:∀(b:Bool) (G:V0) (p a:UM),G.get? p=U (ui b a)->iK b G p a 0:=λb G p a e=>by
  cases b with
  |true=>exact⟨_,e,Z,Z⟩
  |false=>exact⟨_,e,Z,Z⟩
 exact⟨⟨_,l,Z⟩,h _ l n m (f _ _ _ _ (UH _<|UH _<|UH _<|UH _<|U7 _ Z)) (f _ _ _ _ q) u λc o x=>UH _<|UH _<|UH _<|UH _<|UH _ x⟩
def y3(b:Bool)(K:Vb)(H:Hp)(a:UM)(s:ύ):Prop:=if b=O then e_ K H a s else hW K H a s
noncomputable def Itz(A a:Bool)(K:Vb)(b c:UM):It:=
 ⟨λi H=>∃s w x y,y3 A K H b s/\y3 a K H c w/\s[i]?=U x/\w[i]?=U y,
  λi H v d=>∃p x y,H p=Y/\v= .ref p/\d=upd H p (.tup [x,y])/\∀s w,y3 A K H b s->y3 a K H c w->s[i]?=U x/\w[i]?=U y,
  λi H=>∃s w,y3 A K H b s/\y3 a K H c w/\(s.length=i\/(i<s.length/\w.length=i))⟩
variable{X:Cx}{A:ϖ}{σ:St}{H:Hp}
theorem b5.src(I:b5 X A σ H s)(h:y3 b X.K H a c):∃w:ό,aG c w/\D1 b s.heap a w.toArray:=by
 cases b with
 |true=>
  obtain⟨w,r,p,_⟩:=I.list (show e_ _ H a c from h);exact⟨w,r,p.isList⟩
 |false=>
  obtain⟨w,r,p,_⟩:=I.tuple (show hW _ H a c from h);exact⟨w,r,p⟩
theorem b5.src_inj(I:b5 X A σ H s)(h:y3 b X.K H a c)(w:y3 b X.K H a d):c=d:=by
 cases b with
 |true=>exact I.list_inj (show e_ _ H a c from h) w
 |false=>exact I.tuple_inj (show hW _ H a c from h) w
theorem iK.get(x:iK b h f a k):∃o,h.get? f=U o/\o.cls= .type (NU b)/\∃s,o.data= .fields s:=by
 cases b with
 |true=>obtain⟨o,e,c,d⟩:=(show h.IsListIter f a k from x);exact⟨o,e,c,_,d⟩
 |false=>obtain⟨o,e,c,d⟩:=(show h.IsTupleIter f a k from x);exact⟨o,e,c,_,d⟩
theorem iK.keep{h s}(x:iK b h c a k)(q:∀o,h.get? c=U o->s.get? c=U o):iK b s c a k:=by
 cases b with
 |true=>exact(show h.IsListIter c a k from x).at λo e=>q o e
 |false=>exact(show h.IsTupleIter c a k from x).at λo e=>q o e
theorem b5.turnNew{E}{t'}{ch:ϗ}{p:UM}{o}(I:b5 X A σ H s)(a:∀b∈ch,gF X A H b)(k:∀b u,b∉ch->s.heap.get? b=U u->E.get? b=U u)(d:s.heap.objs.size<=p)(G:cm X.prog X.w (upd H p o) E p o):b5 X A σ (upd H p o) {s with heap:=E,toks:=t'}:=by
 have D:=I.hok.fresh d;have K:∀b u,H b=U u->b∉ch:=λb u e z=>by rw[(a b z).1]at e;cases e
 refine I.call' Z ⟨λb u e _ _ hc=>k b u hc e,λb u e _ _ hc=>⟨u.slots,k b u hc e⟩,λb u e z hc=>?_,λb u e hc=>⟨u,k b u hc e⟩,λb M e=>?_,λb u M e=>?_,λb M e=>⟨#[],?_⟩⟩ (λb u e=>?_) I.bare λb f=>?_
 .rw[bb<|VJ<|Vo (Vm e) d];exact z
 .rw[bb<|aR e D];exact e
 .rw[bb<|aR e D];exact e
 .rw[bb<|aR e D,e];simp
 .by_cases z:b=p
  .subst z;rw[ay]at e;simp_all
  .rw[bb z]at e
   refine(I.hok b u e).stay (λc v hc q=>k c v ?_ q) (λc q=>by rw[bb<|aR q D];exact q) λc S q=>by rw[bb<|aR q D];exact q
   obtain rfl|hc:=hc
   .exact K _ _ e
   .exact K _ _ hc
 .obtain⟨j,f1,f2,g,h,i⟩:=a b f
  exact⟨g,f1,h,i⟩
theorem b5.turnL{w}{ch:ϗ}(I:b5 X A σ H s)(a:∀b∈ch,gF X A H b)(k:∀b u,b∉ch->s.heap.get? b=U u->w.get? b=U u):b5 X A σ H {s with heap:=w,toks:=t'}:=by
 have D:∀b u,H b=U u->b∉ch:=λb u e z=>by rw[(a b z).1]at e;cases e
 refine I.call' Z ⟨λb u e _ _ hc=>k b u hc e,λb u e _ _ hc=>⟨u.slots,k b u hc e⟩,λb u e z hc=>z,λb u e hc=>⟨u,k b u hc e⟩,λb E e=>e,λb u E e=>e,λb E e=>⟨#[],by rw[e];simp⟩⟩ (λb u e=>?_) I.bare λb d=>?_
 .refine(I.hok b u e).stay (λc v hc q=>k c v ?_ q) (λc q=>q) λc G q=>q
  obtain rfl|hc:=hc
  .exact D _ _ e
  .exact D _ _ hc
 .obtain⟨i,f1,f2,f,g,h⟩:=a b d
  exact⟨f,f1,g,h⟩
theorem b5.src_ne(I:b5 X A σ H s)(h:y3 b X.K H a l)(f:gF X A H c):a≠c:=by
 obtain⟨i,f1,f2,f3,j,k⟩:=f;have d:∀o,X.K.lookup a=U o->a≠c:=λo e z=>by
  have g:=I.ok.mod.kin a o e;subst z;obtain f3|f3:=f3
  .exact I.ok.noex a o g f3
  .exact Vl (Vo (Vm (I.ok.bs a o g).1) f3) (V4 _)
 have w:∀u,Rd H a u->a≠c:=λu r z=>by
  subst z;rcases r with r|⟨_,r⟩<;>rw[i]at r<;>cases r
 cases b with
 |true=>
  obtain h|⟨o,_,_,e,_⟩:=(show e_ _ H a l from h)
  .exact w _ h
  .exact d o e
 |false=>
  obtain h|⟨o,_,_,e,_⟩:=(show hW _ H a l from h)
  .exact w _ h
  .exact d o e
theorem Ln{w}{K}{x1}{pos}(b1 b2)(C F z TI TO f g)(nd:[z,TI,TO,f,g].Nodup):
  p3 P w K (.Tuple elts x1 pos) (Itz b1 b2 K C F) [z,TI,TO,f,g] z (λi h=>IsZip h z TI TO .none/\Yi h TI (.ref f) (.ref g)/\(∃a b,Yi h TO a b)/\iK b1 h f C i/\iK b2 h g F i) where
 mem:=by exact .head _
 obj:=λi h G b j=>by
  obtain⟨p,r,⟨a,b',J⟩,L,N⟩:=G;simp only[U4,Wr,Y3]at j;obtain rfl|rfl|rfl|rfl|rfl:=j
  .exact⟨_,p,λv q=>by cases q⟩
  .exact⟨_,r,λv q=>by cases q⟩
  .exact⟨_,J,λv q=>by cases q⟩
  .obtain⟨o,e,_,fs,d⟩:=L.get
   simp_all
  .obtain⟨o,e,_,fs,d⟩:=N.get
   simp_all
 keep:=λi h D G k=>by
  obtain⟨p,r,⟨a,b',J⟩,L,N⟩:=G;exact⟨k z (by exact .head _) _ p,k TI (by exact .tail _ (.head _)) _ r,⟨a,b',k TO (by exact .tail _ (.tail _ (.head _))) _ J⟩,L.keep λo e=>k f rc o e,N.keep λo e=>k g rc o e⟩
 item:=by
  intro X hP hw hK n i A s σ H E I o9 G hg;subst hP hw hK;obtain⟨xs,ys,x,y,M,S,hx,hy⟩:=hg;obtain⟨p,r,⟨a,b',J⟩,L,N⟩:=G;obtain⟨l,r1,p1⟩:=b5.src I M;obtain⟨m,r2,p2⟩:=b5.src I S;have V:=I.ok.hd n;simp only[V2,U4,Wr,Y3,not_or]at nd;obtain⟨⟨o8,z2,o7,W⟩,⟨t1,t2,t3⟩,⟨f5,o2⟩,R,_⟩:=nd;have t:=λc n=>b5.src_ne I M<|o9 c n;have B:=λc n=>b5.src_ne I S<|o9 c n;have ap:Ap z TI TO f g [f,C] [g,F]:=⟨Ne.symm o8,Ne.symm z2,Ne.symm o7,Ne.symm W,t1,t2,t3,f5,o2,R,by simp[o7,(t z rc).symm],by simp[f5,(t TO rc).symm],by simp[Ne.symm R,(t g rc).symm],by simp[W,(B z rc).symm],by simp[o2,(B TO rc).symm],by simp[R,(B f rc).symm],by exact .head _,by exact .head _⟩;have k1:i<l.toArray.size:=by
   rw[Vf,<-r1.length];exact(UY.mp hx).1
  have k2:i<m.toArray.size:=by
   rw[Vf,<-r2.length];exact(UY.mp hy).1
  refine GD (λA' D=>xq b1 (D.trans V) f C (t f rc) _) (λA' D=>xq b2 (D.trans V) g F (B g rc) _) ap p r J ⟨L,p1⟩ ⟨N,p2⟩ k1 k2 λD tk u v pu pv fz fO f1 f2 fT sz kp=>⟨_,Z,wpAny_letOwnedTupleGo_zip fz λT aa Q=>?_⟩
  obtain⟨u',hu,ru⟩:=r1.get hx;obtain⟨v',hv,rv⟩:=r2.get hy;have eu:u=u':=by
   simp_all
  have ev:v=v':=by
   simp_all
  subst eu ev;have kk:∀b o,b∉[z,TI,TO,f,g]->s.heap.get? b=U o->T.get? b=U o:=λb o j e=>by
   simp only[U4,Wr,Y3,not_or]at j;exact Q.extBut b o j.1<|kp b o j.1 j.2.2.1 j.2.2.2.1 j.2.2.2.2 e
  have I2:b5 X A σ (upd H s.heap.objs.size<|.tup [x,y]) {s with heap:=T,toks:=tk}:=by
   refine b5.turnNew I o9 kk (UV _) ⟨by show 2<=Ve;decide,[u,v],.cons ru<|.cons rv .nil,_,Q.extBut _ _ (XB<|Vm p) fT,Z,_,Z⟩
  refine⟨.ref _,_,I2,Z,⟨s.heap.objs.size,x,y,I.hok.fresh<|UV _,Z,Z,λas bs h1 h2=>⟨by rw[b5.src_inj I h1 M];exact hx,by rw[b5.src_inj I h2 S];exact hy⟩⟩,⟨aa,?_,⟨u,v,?_⟩,?_,?_⟩,λb j=>?_⟩
  .exact Q.extBut _ _ (Ne.symm o8) (kp TI _ (Ne.symm o8) t1 t2 t3 r)
  .exact Q.extBut _ _ (Ne.symm z2) fO
  .exact f1.1.keep λo e=>Q.extBut _ _ (Ne.symm o7) e
  .exact f2.1.keep λo e=>Q.extBut _ _ (Ne.symm W) e
  .rw[bb]
   .exact(o9 b j).1
   .intro q
    have ol:∃o,s.heap.get? b=U o:=by
     simp only[U4,Wr,Y3]at j;obtain rfl|rfl|rfl|rfl|rfl:=j
     .exact⟨_,p⟩
     .exact⟨_,r⟩
     .exact⟨_,J⟩
     .obtain⟨o,e,_⟩:=L.get;exact⟨o,e⟩
     .obtain⟨o,e,_⟩:=N.get;exact⟨o,e⟩
    obtain⟨o,e⟩:=ol;exact Vl (Vm e) (by rw[q];exact V4 _)
 done:=by
  intro X hP hw hK n i A s σ H E I o9 G hg;subst hP hw hK;obtain⟨xs,ys,M,S,hl⟩:=hg;obtain⟨p,r,⟨a,b',J⟩,L,N⟩:=G;obtain⟨l,r1,p1⟩:=b5.src I M;obtain⟨m,r2,p2⟩:=b5.src I S;have V:=I.ok.hd n;simp only[V2,U4,Wr,Y3,not_or]at nd;obtain⟨⟨o8,z2,o7,W⟩,⟨t1,t2,t3⟩,⟨f5,o2⟩,R,_⟩:=nd;have t:=λc n=>b5.src_ne I M<|o9 c n;have B:=λc n=>b5.src_ne I S<|o9 c n;have g1:l.toArray.size=xs.length:=by rw[Vf,<-r1.length]
  have g2:m.toArray.size=ys.length:=by rw[Vf,<-r2.length]
  refine Ld (λA' D=>xq b1 (D.trans V) f C (t f rc) _) (λA' D=>xq b2 (D.trans V) g F (B g rc) _) (⟨Ne.symm o8,Ne.symm z2,Ne.symm o7,Ne.symm W,t1,t2,t3,f5,o2,R,by simp[o7,(t z rc).symm],by simp[f5,(t TO rc).symm],by simp[Ne.symm R,(t g rc).symm],by simp[W,(B z rc).symm],by simp[o2,(B TO rc).symm],by simp[R,(B f rc).symm],by exact .head _,by exact .head _⟩) p r J ⟨L,p1⟩ ⟨N,p2⟩ ?_ λD tk kp=>⟨Z,b5.turnL I o9 λb o j e=>?_⟩
  .rw[g1,g2]
   obtain hl|⟨h1,h2⟩:=hl
   .exact .inl hl.symm
   .exact .inr ⟨h1,h2.symm⟩
  .simp only[U4,Wr,Y3,not_or]at j
   exact kp b o j.1 j.2.2.1 j.2.2.2.1 j.2.2.2.2 e
 self:=λ_ _ _ _ _ G h=>wpAny_pyIter_zip G.1 h
end
section
variable{X:Cx}{E:ϔ}{K:Vb}
def iZp(K:Vb)(e:TA):TI:=λf H R=>e f H λE a=>∃D d b c G M,E=[.ref b,.ref c]/\y3 D K a b G/\y3 d K a c M/\R (Itz D d K b c) a
theorem QS{p pos:Ye}{W}(A:Gl X "zip")(M:X.mg "zip"=Y)(S:PA X [a,b] o7)(V:autoParam (U8 [a,b] X.env=[(UK,Wa a X.env),(UK,Wa b X.env)]) z6)(g:autoParam (U8 [b] X.env=[(UK,Wa b X.env)]) z6):
  PI X (.Tuple x W z) (.Call (.Name "zip" p) [a,b] [] pos) (iZp X.K o7):=by
 refine λf s n H R I h=>Call_ (gN I A M Boot.«zip»<|Wq (dv (S _ f s n H _ I h) λP d ⟨vs,o,i,Q,D⟩=>?_) (by rw[V,g])<|by rw[g];rfl);obtain⟨E,t,u,v,xs,ys,e,D,T,q⟩:=D;subst e;cases Q with
 |cons r k=>
  cases k with
  |cons B k=>
   cases k;cases r;cases B;obtain⟨C,v1,F⟩:=b5.src i D;obtain⟨J,v2,L⟩:=b5.src i T;refine KU F L λG w N o8 l m sz f5=>(wpAny_pyIter_zip w ?_);refine⟨_,[d.heap.objs.size+4,d.heap.objs.size+2,d.heap.objs.size+3,d.heap.objs.size,d.heap.objs.size+1],_,Itz E t _ u v,o,Z,i.kept (t':=d.toks) f5,Ln E t u v _ _ _ _ _ rc,⟨w,N,⟨_,_,o8⟩,l,m⟩,λc y=>?_,q⟩;have j:d.heap.objs.size<=c:=by
    simp only[U4,Wr,Y3]at y;obtain rfl|rfl|rfl|rfl|rfl:=y
    .exact Xi _ _
    .exact Xi _ _
    .exact Xi _ _
    .exact UV _
    .exact Xi _ _
   exact i.fpOk j<|i.hok.fresh j
noncomputable def eC:ϋ->ϋ->ϋ
 |x::xs,y::ys=> .tup [x,y]::eC xs ys
 |_,_=>[]
theorem xz:∀(D E:ϋ),ϱ (eC D E)=XF (ϱ D) (ϱ E)
 |[],E=>by simp[eC]
 |x::D,[]=>by simp[eC]
 |x::D,y::E=>by
  show(eC D E).length+1=_;rw[xz D E,U5,U5];lia
theorem xA:∀{E G:ϋ} {i:Nat} {d:D},(eC E G)[i]?=U d->∃x y,E[i]?=U x/\G[i]?=U y/\d= .tup [x,y]
 |[],G,i,d,h=>by simp[eC]at h
 |x::E,[],i,d,h=>by simp[eC]at h
 |x::E,y::G,0,d,h=>by
  simp[eC]at h;exact⟨x,y,Z,Z,h.symm⟩
 |x::E,y::G,i+1,d,h=>by
  have K:(eC E G)[i]?=U d:=by simpa[eC]using h
  obtain⟨a,b,c,e,f⟩:=xA K;exact⟨a,b,by exact c,by exact e,f⟩
def Lf:ϋ->Ϧ
 |[a,b]=>(d9 a).bind λD=>(d9 b).map λE=>eC D E
 |_=>Y
theorem bi.sqS(h:bi K F H d v)(e:d9 d=U k):∃b a,v= .ref a/\∀f c,Tr F H f c->∃D,y3 b K c a D/\a_ K f c k D:=by
 cases d<;>first
  |(cases e;obtain⟨a,D,rfl,_⟩:=bi.sqL h;refine⟨O,a,rfl,λf c t=>?_⟩;obtain⟨j,E,g,G,i⟩:=bi.sqL<|bi.tr t _ _ h;cases g;exact⟨E,G,i⟩)
  |(cases e;obtain⟨a,D,rfl,_⟩:=bi.sqT h;refine⟨UK,a,rfl,λf c t=>?_⟩;obtain⟨j,E,g,G,i⟩:=bi.sqT<|bi.tr t _ _ h;cases g;exact⟨E,G,i⟩)
  |cases e
theorem Pi{G h}(o:∀b a,Tr F H b a->∃D,y3 G K a L D/\a_ K b a N D)(q:∀b a,Tr F H b a->∃D,y3 h K a Q D/\a_ K b a P D):B4 K (Itz G h K L Q) F H (eC N P):=λb a V t fr i=>by
 obtain⟨D,c,M⟩:=o b a t;obtain⟨E,e,S⟩:=q b a t;refine⟨λd X=>?_,λr=>?_⟩
 .obtain⟨x,y,f,g,rfl⟩:=xA X
  obtain⟨u,j,s⟩:=M.get f;obtain⟨v,k,w⟩:=S.get g;refine⟨⟨D,E,u,v,c,e,j,k⟩,λz C A=>?_⟩;obtain⟨p,I,J,l,rfl,rfl,B⟩:=A;obtain⟨m,n⟩:=B D E c e;rw[j]at m;rw[k]at n;cases m;cases n;exact⟨cw.upd l,bi.newT fr l<|a_.cons s<|a_.cons w a_.nil⟩
 .rw[xz]at r
  have g:=S.length;refine⟨D,E,c,e,?_⟩;rw[<-M.length,<-g];lia
def nX(g:FL):FL:=dm Lf g
theorem l7{p pos:Ye}{W}(o:Gl X U0)(M:X.mg U0=Y)(S:PA X [a,b]<|ix X.K g E)(V:autoParam (U8 [a,b] X.env=[(UK,Wa a X.env),(UK,Wa b X.env)]) z6)(i:autoParam (U8 [b] X.env=[(UK,Wa b X.env)]) z6):
  PI X (.Tuple s W x) (.Call (.Name U0 p) [a,b] [] pos) (iV X.K (nX g) E):=
 (QS o M S V i).imp λJ H R j=>k4 j λF z N fr q h=>⟨F,z,N,fr,q,(run.bind h).mono λo8 f j=>by
  obtain⟨f5,o9,t,P,Q⟩:=j;obtain⟨l,e,k⟩:=run.ofO Q;unfold Lf at e;split at e
  .rename_i c d
   obtain⟨v,L,rfl,r,u⟩:=a_.two P;cases D:d9 c with
   |none=>rw[D]at e;cases e
   |some xs=>
    cases G:d9 d with
    |none=>rw[D,G]at e;cases e
    |some ys=>
     rw[D,G]at e;cases e;obtain⟨T,w,rfl,m⟩:=bi.sqS r D;obtain⟨y,A,rfl,n⟩:=bi.sqS u G;obtain⟨o7,B,_⟩:=m F f<|Tr.refl F f;obtain⟨C,I,_⟩:=n F f<|Tr.refl F f;exact⟨T,y,w,A,o7,C,Z,B,I,k _ f (To.refl t.fr)<|Pi m n⟩
  .cases e⟩
variable{a:List Expr}
end
section
variable{P:Vw}{w:VC}{K:Vb}{e:ϙ}{d:V0}{N:ϒ}{c:VF}{a:Scope}{f:UM}{g:UQ}{A:V3}{b:List Env}{s:UW}{H:Hp}{E:XK}
end
section
variable{X:Cx}{E:ϔ}{K:Vb}
variable{y z v:Expr}{w:List Expr}{rest:Ϭ}{u:Scope}{pos:Ye}{A cx:ϒ}{b4:ϊ}{g:TG}{B:ϧ}
theorem aZ:e8 X [] (io X.K (λ_=>M.ret O) E0):=λa s b H Q I c=>by obtain⟨F,g,u,fr,d,r⟩:=c;exact yo a s b H Q I<|run.ret fr r Z
theorem kn(a:PT X c<|io X.K t E0):e8 X [c] (io X.K t E0):=LS a
theorem bp(c:X.calm=O)(S:cy X u A cx b4)(d:PI X z v<|iV X.K m E)
  (e:∀(G:ϝ) (C:UM) (a:ϗ) (s:UW) (H:Hp),PG (aY X A u G C a s H) z g/\e8 (aY X A u G C a s H) w (io X.K n E0)/\∀D,PB (aY X A u G C a s H) y (⟨z,v,w,0⟩::rest) u pos 0 D<|B D)
  (f:dz X.K g l) (i:eY l) (j:∀D,mn X.K D (B D) b) (M:autoParam (∀x,V1 v X.env x=W2 x) z9):PE X (.ListComp y (⟨z,v,w,0⟩::rest) u pos) (tV X.K (c9 (ϱ cx) b4 m l n b) E):=
 (qw c S d e M).imp λk H Q h=>xI f i j h
theorem xX(j:X.N.Nodup)(d:X.N[i]?=U x)(M:Iv X.env.scope x)(k:X.calm=O)(S:cy X u A cx b4)(l:PI X z v<|iV X.K F E)
  (m:∀(G:ϝ) (C:UM) (f:ϗ) (s:UW) (H:Hp),PG (aY X A u G C f s H) z g/\e8 (aY X A u G C f s H) w (io X.K I E0)/\∀D,PB (aY X A u G C f s H) y (⟨z,v,w,0⟩::rest) u pos 0 D<|B D)
  (n:dz X.K g t) (o:eY t) (p:∀D,mn X.K D (B D) b)
  (e:autoParam (ZV (.ListComp y (⟨z,v,w,0⟩::rest) u pos) (U<|.Name x a) c.line X.env=W2 O) z6)
  (V:autoParam (∀x,V1 v X.env x=W2 x) z9) (q:autoParam (ϯ X x) q8):
  PS X (.Assign [.Name x a] (.ListComp y (⟨z,v,w,0⟩::rest) u pos) c) (tG X.K X.H₀ (dB i<|c9 (ϱ cx) b4 F t I b) E):=
 aJ ((AJ j d M k S l m e V q).imp λD r H h=>xI n o p h)
noncomputable def negD:D->ϓ
 | .int i=>U<|.int<|-i
 |_=>Y
theorem qF:N7 K (rU λi=> .int<|-i) negD:=λF H u Q g d v1 fr a e k=>by
 cases g<;>first|(cases e;exact⟨_,a,k _ H (To.refl fr) Z⟩)|cases e
noncomputable def qe:D->ϛ
 | .int i=>U i
 |_=>Y
noncomputable def eX(xs:ϋ)(g a:ϛ):ϋ:=(xs.drop<|HT.sIx xs.length 0 g).take<|HT.sIx xs.length xs.length a-HT.sIx xs.length 0 g
def slD:D->ϛ->ϛ->ϓ
 | .lst xs,lo,hi=>U<|.lst<|eX xs lo hi
 | .scr ns,lo,hi=>U<|.lst<|eX (ns.map D.int) lo hi
 |_,_,_=>Y
def iH(f:a0S):Dn->M ϛ:=λu=>match f with
 |none=>M.ret Y
 |some g=>M.bind (g u) λd=>M.bind (M.ofO<|qe d) λi=>M.ret<|U i
def fSl(f:FD)(u a:a0S):FD:=λg=>M.bind (f g) λd=>M.bind (iH u g) λl=>M.bind (iH a g) λh=>M.ofO<|slD d l h
def qi(X:Cx)(e:Option Expr)(f:a0S)(E:ϔ):Prop:=PO X e (λc H Q=>∃F g u,Fr F H u/\i_ X.K F H g c/\run (λ_ (a b:ϛ)=>b=a) F E c (iH f g) H Q u)
theorem gf:qi X Y Y E:=λa s b H Q I c=>by obtain⟨F,g,u,fr,d,r⟩:=c;exact AM a s b H Q I<|run.ret fr r Z
theorem ge(h:PE X e<|tV X.K f E):qi X (U e) (U f) E:=λa s c H Q I b=>k4 b λF g u fr j r=>AL h a s c H Q I ⟨F,g,u,fr,j,(run.bind r).mono λv l b=>by
  obtain⟨d,w,t,y,z⟩:=b;obtain⟨i,e,k⟩:=run.ofO_bind z;cases d<;>first|(cases e;exact⟨_,y,run.ret t.fr k Z⟩)|cases e⟩
theorem a_.cut(h:a_ K F H b c)(g a):a_ K F H (eX b g a) (lq c g a):=by
 unfold eX;rw[h.length];exact(h.drop _).take _
theorem hV{M y}{fl A}(B:PE X e<|tV X.K f E)(C:qi X M fl E)(I:qi X y A E):PE X (.Subscript e (.Slice M y Y p2) pos) (tV X.K (fSl f fl A) E):=
 (nQ zY B C I).imp λo7 H Q o=>k4 o λF g S fr q r=>⟨F,g,S,fr,q,(run.bind r).mono λv P p=>by obtain⟨d,z,t,V,s⟩:=p;exact 
  ⟨F,g,z,t.fr,q.tr<|t.tr fr,(run.bind s).mono λl T v=>by obtain⟨R,D,n,u,J⟩:=v;exact 
   ⟨F,g,D,n.fr,q.tr<|(t.tr fr).trans<|n.tr t.fr,(run.bind J).mono λh W o=>by
    obtain⟨b,x,i,w,L⟩:=o;subst u w;obtain⟨c,e,k⟩:=run.ofO L;have j:=bi.tr ((n.tr t.fr).trans<|i.tr n.fr) _ _ V;cases d<;>first
     |(cases e;obtain⟨a,f5,rfl,G,N⟩:=bi.sqL j;exact⟨a,f5,rfl,G,λp m=>k _ _ (i.fr.upd _ m)<|bi.newL i.fr m<|N.cut l h⟩)
     |(cases e;obtain⟨a,rfl,G⟩:=bi.scr j;exact⟨a,_,rfl,G,λp m=>k _ _ (i.fr.upd _ m)<|bi.newL i.fr m<|(a_.ofInts _).cut l h⟩)
     |cases e⟩⟩⟩
def Bg.ok(β:Bg):Prop:=β.cells≠[]/\β.cells.length<=64/\(∀c∈β.cells,0<=c)/\0<=β.j
end
noncomputable def Bg.pos(β:Bg):Nat:=(β.i % (β.cells.length:Int)).toNat
def Bg.cell(D:Bg):Int:=D.cells.getD D.pos 0
noncomputable def Bg.nxt(D:Bg):Int:=(D.j+D.cell % 2147483629+77)*48271 % 2147483629
noncomputable def lY(E:Bg)(D:Int):Int:=if 10^18<=E.cell then E.cell % D else E.nxt/64 % D
noncomputable def nP(D:Bg)(E:Int):Bg:=if 10^18<=D.cell then⟨D.cells.set D.pos<|D.cell/E,D.i,D.j⟩else⟨D.cells,D.i+1,D.nxt⟩
open Classical in
def dT:ϋ->M D:=λG E=>match G with
 |[.bag,.int lot]=>if E.ok/\0<lot/\lot<1073741824 then U (VP<|D.int<|lY E lot,nP E lot)else Y
 |_=>Y
theorem Mh{D}(h:D.ok)(a:0<c)(b:c<1073741824):dT [.bag,.int c] D=U (.ok<|.int<|lY D c,nP D c):=by
 unfold dT;exact US ⟨h,a,b⟩
theorem JJ(h:dT b E=U (r,a)):∃D,b=[.bag,.int D]/\E.ok/\0<D/\D<1073741824/\r= .ok (.int<|lY E D)/\a=nP E D:=by
 unfold dT at h;split at h
 .split at h
  .rename_i D q
   simp_all
  .cases h
 .cases h
theorem Bg.ok.at{β:Bg}(h:β.ok):β.pos<ϱ β.cells/\β.cells[β.pos]?=U β.cell/\0<=β.cell/\β.i % (ϱ β.cells:Int)=(β.pos:Int):=by
 obtain⟨D,G,E,b⟩:=id h;have c:=List.length_pos_iff.mpr D;have K:0<=β.i % (ϱ β.cells:Int):=ZP _ ln;have M:β.i % (ϱ β.cells:Int)<ϱ β.cells:=Z6 _ ln;have a:β.pos<ϱ β.cells:=by unfold Bg.pos;lia
 have e:β.cell=β.cells[β.pos]:=by
  unfold Bg.cell;simp_all
 refine⟨a,by rw[e];exact UJ a,by rw[e];simp_all,?_⟩;unfold Bg.pos;lia
theorem AG{D}(h:D.ok)(b:0<g):0<=lY D g/\lY D g<g/\(nP D g).ok:=by
 obtain⟨f,_,d,_⟩:=h.at;obtain⟨E,G,K,e⟩:=id h;unfold lY nP;split
 .refine⟨ZP _ ln,Z6 _ b,?_,by rw[VM];exact G,λc a=>?_,e⟩
  .intro z
   simp_all
  .obtain a|rfl:=Xa a
   .exact K c a
   .exact Int.ediv_nonneg d ln
 .exact⟨ZP _ ln,Z6 _ b,E,G,K,ZP _ rb⟩
end L2.Pu
namespace L2.Hs
open PySem.SetTable
def Rs(D:a0A):Prop:=∀i k x y:Nat,i<k->D[i]?=U x->D[k]?=U y->x<y
theorem sF(r:Rs E):∀(fuel D c:Nat),D<=c->c<=E.size->c-D<=fuel->(∀i x,i<D->E[i]?=U x->x<j)->(∀i x,c<=i->E[i]?=U x->j<=x)->
  below.go E j fuel D c<=E.size/\(∀i x,i<below.go E j fuel D c->E[i]?=U x->x<j)/\∀i x,below.go E j fuel D c<=i->E[i]?=U x->j<=x
 |0,D,c,h1,h2,h3,a,b=>by
  have:D=c:=by grind
  subst this;exact⟨h2,a,b⟩
 |fuel+1,D,c,h1,h2,h3,a,b=>by
  unfold below.go;by_cases q:D<c
  .rw[US q]
   simp only;have K:(D+c)/2<E.size:=by lia
   have e:E[(D+c)/2]?=U (E.getD ((D+c)/2) j):=by simp[K]
   by_cases z:E.getD ((D+c)/2) j<j
   .rw[US z]
    refine sF r _ _ _ ln h2 (by omega) (λi x d G=>?_) b;by_cases w:i=(D+c)/2
    .subst w
     rw[e]at G;cases G;exact z
    .exact Z0 (r i _ x _ ln G e) z
   .rw[UU z]
    refine sF r _ _ _ ln ln (by omega) a (λi x d G=>?_);by_cases w:i=(D+c)/2
    .subst w
     simp_all
    .have:=r _ i _ x ln e G
     lia
  .rw[UU q]
   have:D=c:=by lia
   subst this;exact⟨h2,a,b⟩
theorem lA{D}(r:Rs D):below D j<=D.size/\(∀i x,i<below D j->D[i]?=U x->x<j)/\∀i x,below D j<=i->D[i]?=U x->j<=x:=
 sF r _ 0 _ (VL _) (UV _) ln (λi x h=>Vl h<|Xq i) (λi x h e=>by
  have:=(VZ.mp e).1;lia)
theorem MY(r:Rs f)(h:f[i]?=U j):below f j=i:=by
 obtain⟨c,a,b⟩:=lA r;obtain q|q|q:=X2 (below f j) i
 .have d:=(VZ.mp h).1
  have e:f[below f j]?=U _:=getElem?_pos f _ ln;have:=b _ _ (UV _) e;have:=r _ _ _ _ q e h;lia
 .exact q
 .have:=a _ _ q h
  lia
theorem vO{t:V9}(r:Rs t.place)(h:t.place[i]?=U j):t.slot j= .live i:=by
 unfold slot;simp only[MY r h,h,beq_self_eq_true,VV]
theorem DI{t:V9}(d:t.dummies=#[])(h:∀i:Nat,t.place[i]?≠U j):t.slot j= .empty:=by
 unfold slot;have a:(t.place[below t.place j]?==U j)=UK:=by
  simp_all
 have b:has t.dummies j=UK:=by rw[d];rfl
 simp_all
noncomputable def ff(t:V9):Nat->Probe->Probe
 |0,p=>p
 |n+1,p=>ff t n<|t.advance p
theorem se(t):∀(n:Nat) (p:Probe),ff t (n+1) p=t.advance (ff t n p)
 |0,p=>rfl
 |n+1,p=>by
  show ff t _ _=t.advance _;exact se t n<|t.advance p
theorem qI(t):∀(n m:Nat) (p:Probe),ff t (n+m) p=ff t m (ff t n p)
 |0,m,p=>by rw[WM];rfl
 |n+1,m,p=>by
  rw[show n+1+m=(n+m)+1 by lia];exact qI t n m<|t.advance p
structure Pv (t:V9) (p:Probe):Prop where
 j:p.j+p.more<=t.mask
 more:p.more<=9
 i:p.i<=t.mask
 pt:p.perturb<2^64
 du:p.dummy=Y
theorem vY(h:i<=D):i<=runEnd D i/\runEnd D i<=D/\runEnd D i-i<=9:=by
 unfold runEnd;by_cases q:i+9<=D
 .rw[US q];lia
 .rw[UU q];lia
noncomputable def v_(t:V9)(i D:Nat):Probe:={j:=i,more:=runEnd t.mask i-i,i,perturb:=D,dummy:=Y}
theorem uA(h:i<=t.mask)(a:pt<2^64):Pv t (v_ t i pt):=by
 obtain⟨c,d,b⟩:=vY h;refine⟨?_,b,h,a,Z⟩;show i+(runEnd _ i-i)<=t.mask;grind
theorem vL(t)(h):t.probeStart h=v_ t (bits h % (t.mask+1)) (bits h):=Z
theorem qT(h):bits h<2^64:=by
 unfold bits;lia
theorem rH(t)(h):Pv t (t.probeStart h):=by
 rw[vL];exact uA (by have:=ZC (bits h) (show t.mask+1>0 by lia);lia)<|qT h
noncomputable abbrev lpI(D i E:Nat):Nat:=(i*5+1+E/32) % (D+1)
theorem K9{t:V9}{p}(h:0<p.more):t.advance p={p with j:=p.j+1,more:=p.more-1}:=by
 unfold advance;rw[US h]
theorem CI(h:p.more=0)(D:p.dummy=Y):t.advance p=v_ t (lpI t.mask p.i p.perturb) (p.perturb/32):=by
 unfold advance;rw[UU ln];unfold leap v_;simp only[D]
theorem EM(D i E):lpI D i E<=D:=by
 have:=ZC (i*5+1+E/32) (show D+1>0 by lia);unfold lpI;lia
theorem K8(v:Pv t p):Pv t (t.advance p):=by
 by_cases q:0<p.more
 .rw[K9 q]
  exact⟨by have:=v.j;lia,by have:=v.more;lia,v.i,v.pt,v.du⟩
 .rw[CI ln v.du]
  exact uA (EM _ _ _)<|VT (ZR _ _) v.pt
theorem pR:∀(n:Nat) {p:Probe},Pv t p->Pv t (ff t n p):=Nat.rec (@λ_ v=>v) λn h=>@λ_ v=>h<|K8 v
theorem vj:∀(k:Nat) {p:Probe},Pv t p->k<=p.more->ff t k p={p with j:=p.j+k,more:=p.more-k}:=Nat.rec (@λp v h=>re) λk w=>@λp v h=>by
  rw[se,w v ln,K9 (show 0<p.more-k by lia)];lia
theorem sf(v:Pv t p):ff t (p.more+1) p=v_ t (lpI t.mask p.i p.perturb) (p.perturb/32):=by
 rw[se,vj _ v<|UV _];exact CI (Yk _) v.du
def c5(D:Nat):Nat->Nat×Nat->Nat×Nat
 |0,x=>x
 |k+1,x=>c5 D k (lpI D x.1 x.2,x.2/32)
theorem lU(D):∀(k:Nat) (x:Nat×Nat),c5 D (k+1) x=(lpI D (c5 D k x).1 (c5 D k x).2,(c5 D k x).2/32)
 |0,x=>rfl
 |k+1,x=>lU D k _
theorem yQ:∀(k:Nat) {p:Probe},Pv t p->∃n,n<=10*(k+1)/\ff t n p=v_ t (c5 t.mask (k+1) (p.i,p.perturb)).1 (c5 t.mask (k+1) (p.i,p.perturb)).2:=Nat.rec (@λp v=>⟨p.more+1,by have:=v.more;lia,sf v⟩) λk h=>@λp v=>by
  obtain⟨n,D,e⟩:=h v;have v2:=pR n v;rw[e]at v2;refine⟨n+((v_ t (c5 t.mask (k+1) (p.i,p.perturb)).1 (c5 t.mask (k+1) (p.i,p.perturb)).2).more+1),by have:=v2.more;lia,?_⟩;rw[qI,e,sf v2,lU _<|k+1];rfl
def Mk(D:Nat):Prop:=D=7\/D=31\/D=127
noncomputable def orb(D:Nat):Nat->Nat->Nat
 |0,i=>i
 |k+1,i=>orb D k<|(i*5+1) % (D+1)
theorem qz(D):∀(a b i:Nat),orb D (a+b) i=orb D b (orb D a i)
 |0,b,i=>by rw[WM];rfl
 |a+1,b,i=>by
  rw[show a+1+b=(a+b)+1 by lia];exact qz D a b _
def NA(D:Nat):Bool:=(orb D (D+1) 0==0)&&(UT<|D+1).all λj=>(UT<|D+1).any λk=>orb D k 0==j
theorem Q1(h:Mk D):NA D=O:=by
 rcases h with rfl|rfl|rfl<;>decide +kernel
theorem AQ(h:Mk D)(l:i<=D)(m:j<=D):∃k,k<=D/\orb D k i=j:=by
 have o:=Q1 h;unfold NA at o;rw[Vu,Yc,X5]at o;obtain⟨g,E⟩:=o;obtain⟨a,e,c⟩:=List.any_eq_true.mp (E i<|Vg.mpr ln);obtain⟨b,f,d⟩:=List.any_eq_true.mp (E j<|Vg.mpr ln);rw[Yc]at c d;have:=Vg.mp e;by_cases q:a<=b
 .refine⟨b-a,by grind,?_⟩
  rw[<-c,<-qz,show a+(b-a)=b by grind,d]
 .refine⟨b+(D+1)-a,ln,?_⟩
  rw[<-c,<-qz,show a+(b+(D+1)-a)=(D+1)+b by lia,qz,g,d]
theorem pk(D):∀(k i:Nat),c5 D k (i,0)=(orb D k i,0)
 |0,i=>rfl
 |k+1,i=>by
  show c5 D k (lpI D i 0,0/32)=_;rw[show(0/32:Nat)=0 from Z,pk D k];rfl
theorem rN(D):∀(a b:Nat) (x:Nat×Nat),c5 D (a+b) x=c5 D b (c5 D a x)
 |0,b,x=>by rw[WM];rfl
 |a+1,b,x=>by
  rw[show a+1+b=(a+b)+1 by lia];exact rN D a b _
theorem rM(D):∀(k:Nat) (x:Nat×Nat),(c5 D k x).2=x.2/32^k
 |0,x=>by simp[c5]
 |k+1,x=>by
  rw[lU,rM D k x,Nat.div_div_eq_div_mul,Nat.pow_succ]
theorem AD(D):∀(k:Nat) (x:Nat×Nat),x.1<=D->(c5 D k x).1<=D:=Nat.rec (λx h=>h) λk _ x h=>by rw[lU];exact EM _ _ _
theorem Uy(h:Mk t.mask)(v:Pv t p)(a:j<=t.mask):∃n,n<10*turns t.mask/\(ff t n p).j=j:=by
 have z:(c5 t.mask 13 (p.i,p.perturb)).2=0:=by
  rw[rM];exact Nat.div_eq_of_lt (Vo v.pt rb)
 obtain⟨k,c,e⟩:=AQ h (AD _ 13 (p.i,p.perturb) v.i) a;obtain⟨n,D,b⟩:=yQ (12+k) v;refine⟨n,by unfold turns;lia,?_⟩;rw[b];rw[show 12+k+1=13+k by lia,rN,show c5 _ 13 _=((c5 _ 13 _).1,0)from Xu Z z,pk];exact e
abbrev Lv(t:V9)(j:Nat):Prop:=∃k:Nat,t.place[k]?=U j
structure Tb (t:V9) (hs:ώ):Prop where
 km:Mk t.mask
 sz:t.place.size=hs.length
 rs:Rs t.place
 le:∀i j:Nat,t.place[i]?=U j->j<=t.mask
 du:t.dummies=#[]
 nf:t.place.size*5<t.mask*3
 rch:∀(i:Nat) (h:Int) (j:Nat),hs[i]?=U h->t.place[i]?=U j->∃n,(ff t n<|t.probeStart h).j=j/\∀m<n,Lv t (ff t m<|t.probeStart h).j
theorem Mk.odd(h:Mk m):m % 2=1/\7<=m/\m<=127:=by
 rcases h with rfl|rfl|rfl<;>decide
theorem gap(r:Rs D):∀n,n<=D.size->(∀i:Nat,i<n->D[i]?=U i)\/∃j,j<n/\∀i:Nat,D[i]?≠U j
 |0,_=> .inl λi h=>Vl h<|Xq i
 |n+1,h=>by
  rcases gap r n (by lia)with q|⟨j,c,b⟩
  .have e:D[n]?=U D[n]:=getElem?_pos D n ln
   by_cases z:D[n]=n
   .refine .inl λi d=>?_
    by_cases w:i=n
    .subst w;rw[e,z]
    .exact q i ln
   .have lt:n<=D[n]:=by
     cases n with
     |zero=>lia
     |succ m=>
      have:=r m (m+1) _ _ ln (q m ln) e;lia
    refine .inr ⟨n,ln,λi a=>?_⟩;rcases X2 i n with w|w|w
    .rw[q i w]at a;cases a;lia
    .subst w;rw[e]at a;exact z<|Vt a
    .have:=r n i _ _ w e a
     lia
  .exact .inr ⟨j,ln,b⟩
theorem Sd(r:Rs D):∃j,j<=D.size/\∀i:Nat,D[i]?≠U j:=by
 obtain q|⟨j,c,a⟩:=gap r _ (UV _)
 .refine⟨D.size,UV _,λi e=>?_⟩
  have b:=(VZ.mp e).1;simp_all
 .exact⟨j,ln,a⟩
theorem NW{t}(r:Rs t.place)(d:t.dummies=#[]):∀(fuel:Nat) (p:Probe) (e:Nat),Pv t p->e<fuel->¬Lv t (ff t e p).j->
  ∃m,m<=e/\(∀a<m,∃i,t.place[i]?=U (ff t a p).j/\hashAt i≠h)/\
   ((¬Lv t (ff t m p).j/\probe.go t hashAt h fuel p=U (.empty (ff t m p).j Y))\/∃i,t.place[i]?=U (ff t m p).j/\hashAt i=h/\probe.go t hashAt h fuel p=U (.candidate (ff t m p).j i<|ff t (m+1) p))
 |0,_,_,_,h,_=>Vl h<|Xq _
 |fuel+1,p,e,v,hf,he=>by
  unfold probe.go;by_cases q:Lv t p.j
  .obtain⟨i,b⟩:=q
   rw[vO r b];simp only;by_cases z:hashAt i=h
   .refine⟨0,VL _,λa D=>Vl D<|Xq _,.inr ⟨i,b,z,?_⟩⟩
    rw[US<|by rw[Yc];exact z];rfl
   .rw[UU<|by rw[Yc];exact z]
    cases e with
    |zero=>exact Vl ⟨i,b⟩ he
    |succ e=>
     obtain⟨m,D,E,c⟩:=NW r d fuel (t.advance p) e (K8 v) ln he;refine⟨m+1,ln,λa f=>?_,c⟩;cases a with
     |zero=>exact⟨i,b,z⟩
     |succ a=>exact E a ln
  .rw[DI d (λi b=>q ⟨i,b⟩)]
   refine⟨0,VL _,λa D=>Vl D<|Xq _,.inl ⟨q,?_⟩⟩;simp only[v.du];rfl
theorem Tb.free(T:Tb t hs)(v:Pv t p):∃e,e<10*turns t.mask/\¬Lv t (ff t e p).j:=by
 obtain⟨j,f,a⟩:=Sd T.rs;have:=T.nf;obtain⟨e,b,c⟩:=Uy T.km v (show j<=t.mask by lia);exact⟨e,b,λz=>by obtain⟨k,d⟩:=z;exact a k<|by rw[<-c];exact d⟩
theorem Kz{p}{x}(b:p<=D.size)(i):(insertAt D p x)[i]?=if i<p then D[i]? else if i=p then U x else D[i-1]?:=by
 unfold insertAt;rw[Array.getElem?_append];have a:((D.extract 0 p).push x).size=p+1:=by simp;lia
 rw[a];by_cases q:i<p
 .rw[US ln,US q,Array.getElem?_push,Array.size_extract]
  rw[UU ln,Array.getElem?_extract];lia
 .by_cases z:i=p
  .subst z
   rw[US ln,UU (by omega),US Z,Array.getElem?_push,Array.size_extract,US ln]
  .rw[UU ln,UU q,UU z,Array.getElem?_extract]
   by_cases w:i-1<D.size
   .rw[US ln]
    congr 1;lia
   .rw[UU ln,Xv ln]
theorem iF{p}{x}(a:p<=D.size):(insertAt D p x).size=D.size+1:=by
 unfold insertAt;simp;lia
theorem Tb.put(T:Tb t hs)(w:¬Lv t j)(s:(ff t n<|t.probeStart h).j=j)(L:∀m<n,Lv t (ff t m<|t.probeStart h).j)(N:(t.place.size+1)*5<t.mask*3):
  (t.put j).1.dummies=#[]/\(t.put j).1.mask=t.mask/\(t.put j).1.place.size=t.place.size+1/\(t.put j).2<=t.place.size/\Tb (t.put j).1 (hs.take (t.put j).2++h::hs.drop (t.put j).2):=by
 obtain⟨K,A,b3⟩:=lA (j:=j) T.rs;have R:has t.dummies j=UK:=by unfold has;rw[T.du];rfl
 have r:(t.put j).1.dummies=#[]:=by
  show(if has t.dummies j=O then _ else t.dummies)=#[];rw[R,UU UX,T.du]
 have G:(t.put j).1.place=insertAt t.place (below t.place j) j:=Z;have g:=λi=>Kz (x:=j) K i;have u:∀x,Lv t x->Lv (t.put j).1 x:=λx Q=>by
  obtain⟨k,e⟩:=Q
  by_cases q:k<below t.place j
  .exact⟨k,by rw[G,g,US q];exact e⟩
  .exact⟨k+1,by rw[G,g,UU ln,UU ln];exact e⟩
 have M:∀m p,ff (t.put j).1 m p=ff t m p:=λm=>by
  induction m with
  |zero=>intro p;rfl
  |succ m P=>intro p;exact P<|t.advance p
 refine⟨r,Z,by rw[G,iF K],K,⟨T.km,?_,?_,?_,r,?_,?_⟩⟩
 .rw[G,iF K,T.sz]
  have:(t.put j).2<=ϱ hs:=by rw[<-T.sz];exact K
  simp;lia
 .intro i k x y l hx hy
  rw[G,g]at hx hy;have B:∀k,t.place[k]?≠U j:=λk e=>w ⟨k,e⟩;by_cases E:i<below t.place j
  .rw[US E]at hx
   by_cases V:k<below t.place j
   .rw[US V]at hy
    exact T.rs i k x y l hx hy
   .rw[UU V]at hy
    by_cases D:k=below t.place j
    .rw[US D]at hy;cases hy
     exact A i x E hx
    .rw[UU D]at hy
     exact T.rs i (k-1) x y ln hx hy
  .rw[UU E]at hx
   rw[UU ln,UU ln]at hy;by_cases D:i=below t.place j
   .rw[US D]at hx;cases hx
    have I:=b3 (k-1) y ln hy;have:y≠j:=λz=>B (k-1) (by rw[hy,z]);lia
   .rw[UU D]at hx
    exact T.rs (i-1) (k-1) x y ln hx hy
 .intro i x hx
  rw[G,g]at hx;by_cases E:i<below t.place j
  .rw[US E]at hx;exact T.le i x hx
  .rw[UU E]at hx
   by_cases D:i=below t.place j
   .rw[US D]at hx;cases hx
    have v:=pR n<|rH t h;have:=v.j;show j<=t.mask;lia
   .rw[UU D]at hx;exact T.le _ x hx
 .rw[G,iF K];exact N
 .intro i h' x C hx
  have J:(t.put j).2<=ϱ hs:=by rw[<-T.sz];exact K
  have o:(t.put j).2=below t.place j:=Z;rw[G,g]at hx;have c:(if i<below t.place j then hs[i]? else if i=below t.place j then U h else hs[i-1]?)=U h':=by
   rw[<-C,o];by_cases E:i<below t.place j
   .rw[US E,YS (by rw[VI];lia),List.getElem?_take_of_lt E]
   .rw[UU E,W4 (by rw[VI];lia),VI,Nat.min_eq_left ln]
    by_cases D:i=below t.place j
    .rw[US D,D,Yk];rfl
    .rw[UU D,show i-below t.place j=(i-1-below t.place j)+1 by lia,List.getElem?_cons_succ,List.getElem?_drop]
     congr 1;lia
  have d:∀f,hs[f]?=U h'->t.place[f]?=U x->∃n,(ff (t.put j).1 n<|(t.put j).1.probeStart h').j=x/\∀m<n,Lv (t.put j).1 (ff (t.put j).1 m<|(t.put j).1.probeStart h').j:=λf a b=>by
   obtain⟨F,H,o⟩:=T.rch f h' x a b;refine⟨F,by rw[M];exact H,λm S=>?_⟩;rw[M];exact u _<|o m S
  by_cases E:i<below t.place j
  .rw[US E]at hx c
   exact d i c hx
  .rw[UU E]at hx c
   by_cases D:i=below t.place j
   .rw[US D]at hx c
    cases hx;cases c;refine⟨n,by rw[M];exact s,λm S=>?_⟩;rw[M];exact u _<|L m S
   .rw[UU D]at hx c
    exact d (i-1) c hx
theorem yR(h:t.mask=u.mask):∀(n:Nat) (p:Probe),ff t n p=ff u n p
 |0,p=>rfl
 |n+1,p=>by
  show ff t n _=ff u n _;have:t.advance p=u.advance p:=by unfold advance;rw[h]
  rw[this];exact yR h n _
theorem DF{t u:V9}(h:t.mask=u.mask)(x):t.probeStart x=u.probeStart x:=by unfold probeStart;rw[h]
noncomputable abbrev tm(mask:Nat):V9:={mask,place:=#[],dummies:=#[],finger:=0,led:=O,moves:=0,plain:=O}
noncomputable abbrev fr(owner:a0y)(j:Nat):Bool:=(owner.getD j<|U 0).isNone
theorem BN:∀(fuel i E:Nat),i<=D->E<2^64->(∃b,b<fuel/\fr owner (c5 D b (i,E)).1=O)->
  ∃n,layClean.free D owner fuel i E=U (ff (tm D) n<|v_ (tm D) i E).j/\fr owner (ff (tm D) n<|v_ (tm D) i E).j=O/\∀m<n,fr owner (ff (tm D) m<|v_ (tm D) i E).j=UK
 |0,_,_,_,_,⟨b,h,_⟩=>Vl h<|Xq b
 |fuel+1,i,E,hi,hp,⟨b,hb,hf⟩=>by
  have v:=uA (t:=tm D) hi hp;obtain⟨M,A,B⟩:=vY hi;have f:(v_ (tm D) i E).more=runEnd D i-i:=Z;have d:∀k,k<=runEnd D i-i->(ff (tm D) k<|v_ (tm D) i E).j=i+k:=λk c=>by
   rw[vj k v c];rfl
  unfold layClean.free;split
  .rename_i k c
   obtain⟨g,l,o⟩:=List.find?_range_eq_some.mp c;have:=Vg.mp l;refine⟨k,by rw[d k ln],by rw[d k ln];exact g,λm G=>?_⟩;rw[d m ln];have:=o m G;simpa using this
  .rename_i c
   have K:∀k,k<=runEnd D i-i->fr owner (i+k)=UK:=λk p=>by
    have:=List.find?_range_eq_none.mp c k ln;simp_all
   cases b with
   |zero=>
    have r:=K 0 ln;exact Vl hf (by rw[show(c5 D 0 (i,E)).1=i+0 from Z,r];exact UX)
   |succ b=>
    obtain⟨n,u,w,y⟩:=BN fuel (lpI D i E) (E/32) (EM _ _ _) (VT (ZR _ _) hp) ⟨b,ln,hf⟩;have a:∀m,ff (tm D) (runEnd D i-i+1+m) (v_ (tm D) i E)=ff (tm D) m (v_ (tm D) (lpI D i E)<|E/32):=λm=>by
     rw[qI,<-f,sf v];rfl
    refine⟨runEnd D i-i+1+n,by rw[a];exact u,by rw[a];exact w,λm G=>?_⟩;by_cases q:m<=runEnd D i-i
    .rw[d m q];exact K m q
    .obtain⟨e,rfl⟩:∃e,m=runEnd D i-i+1+e:=⟨m-(runEnd D i-i+1),ln⟩
     rw[a];exact y e ln
structure Ow (mask:Nat) (owner:a0y) (hs:ώ):Prop where
 sz:owner.size=mask+1
 lt:∀j k:Nat,owner[j]?=U (U k)->k<hs.length
 un:∀j j' k:Nat,owner[j]?=U (U k)->owner[j']?=U (U k)->j=j'
 cn:owner.toList.countP (·.isSome)=hs.length
 ex:∀(k:Nat) (h:Int),hs[k]?=U h->∃j n:Nat,owner[j]?=U (U k)/\(ff (tm mask) n<|(tm mask).probeStart h).j=j/\∀m<n,∃k':Nat,owner[(ff (tm mask) m<|(tm mask).probeStart h).j]?=U (U k')
theorem FI(E:owner.size=D+1)(b:j<=D):(fr owner j=O↔owner[j]?=U Y)/\(fr owner j=UK↔∃k:Nat,owner[j]?=U (U k)):=by
 have e:=getElem?_pos owner j (by omega);have a:owner.getD j (U 0)=owner[j]:=by simp[show j<owner.size by omega]
 unfold fr;rw[a,e];cases owner[j]<;>simp
theorem Ow.step(X:Ow D owner G)(h)(M:Mk D)(R:ϱ G<=D):
  ∃j,layClean.free D owner (turns D) (bits h % (D+1)) (bits h)=U j/\Ow D (owner.setIfInBounds j<|U (ϱ G)) (G++[h]):=by
 have p:bits h % (D+1)<=D:=by have:=ZC (bits h) (show D+1>0 by lia);lia
 have⟨r,h1,h2⟩:∃r,r<=D/\fr owner r=O:=by
  refine XG λz=>?_;have S:∀a∈owner.toList,Option.isSome a=O:=λa s=>by
   obtain⟨i,d,e⟩:=List.getElem_of_mem s;have I:i<owner.size:=by exact d
   have J:fr owner i=UK:=by
    cases q:fr _ i with
    |false=>rfl
    |true=>exact Vl ⟨i,by have:=X.sz;lia,q⟩ z
   simp_all
  have:=List.countP_eq_length.mpr S;rw[X.cn]at this;have:=X.sz;simp at*;lia
 have z:(c5 D 13 (bits h % (D+1),bits h)).2=0:=by
  rw[rM];exact Nat.div_eq_of_lt (Vo (qT h) rb)
 obtain⟨k,u,e⟩:=AQ M (AD D 13 (bits h % (D+1),bits h) p) h1;have L:fr owner (c5 D (13+k) (bits h % (D+1),bits h)).1=O:=by
  rw[rN,show c5 D 13 _=((c5 D 13 _).1,0)from Xu Z z,pk];rw[e];exact h2
 obtain⟨n,B,C,N⟩:=BN (turns D) _ _ p (qT h) ⟨13+k,by unfold turns;lia,L⟩;have F:∀m,(ff (tm D) m<|v_ (tm D) (bits h % (D+1))<|bits h).j<=D:=λm=>by
  have:=(pR m<|uA (t:=tm D) p<|qT h).j;lia
 generalize H:(ff _ n<|v_ _ _<|bits h).j=j at B C;have P:j<=D:=by rw[<-H];exact F n
 have f:=(FI X.sz P).1.mp C;have g:j<owner.size:=by have:=X.sz;lia
 have set:∀x:Nat,(owner.setIfInBounds j<|U _)[x]?=if j=x then U (U (ϱ G))else owner[x]?:=λx=>by
  rw[Array.getElem?_setIfInBounds];by_cases q:j=x
  .rw[US q,US q,US g]
  .rw[UU q,UU q]
 refine⟨j,B,⟨by rw[Array.size_setIfInBounds];exact X.sz,λx k E=>?_,λx y k E K=>?_,?_,λk T c=>?_⟩⟩
 .rw[set]at E
  rw[Va];by_cases q:j=x
  .rw[US q]at E;cases E;simp
  .rw[UU q]at E
   have:=X.lt x k E;lia
 .rw[set]at E K
  by_cases q:j=x
  .rw[US q]at E;cases E
   by_cases o:j=y
   .lia
   .rw[UU o]at K
    exact Vl (X.lt y _ K)<|V4 _
  .rw[UU q]at E
   by_cases o:j=y
   .rw[US o]at K;cases K
    exact Vl (X.lt x _ E)<|V4 _
   .rw[UU o]at K
    exact X.un x y k E K
 .rw[Array.toList_setIfInBounds,List.countP_set (by exact g),X.cn]
  simp_all
 .by_cases q:k<ϱ G
  .rw[YS q]at c
   obtain⟨x,Q,V,l,W⟩:=X.ex k T c;refine⟨x,Q,?_,l,λm M=>?_⟩
   .rw[set,UU (λw=>by subst w;simp_all)];exact V
   .obtain⟨v,b⟩:=W m M
    exact⟨v,by rw[set,UU (λw=>by rw[<-w,f]at b;cases b)];exact b⟩
  .have A:=(UY.mp c).1
   rw[Va,VX]at A;have:k=ϱ G:=by lia
   subst this;rw[W4<|UV _,Yk]at c;cases c;refine⟨j,n,by rw[set,US Z],H,λm M=>?_⟩;obtain⟨v,b⟩:=(FI X.sz<|F m).2.mp<|N m M;exact⟨v,by rw[vL,set,UU (λw=>by rw[<-w,f]at b;cases b)];exact b⟩
theorem Ow.nil(D):Ow D (Array.replicate (D+1) Y) []:=by
 have g:∀x:Nat,(Array.replicate _ (Y:ϳ))[x]?=if x<D+1 then U Y else Y:=λx=>Array.getElem?_replicate;refine⟨rc,λj k h=>?_,λj b k h=>?_,rc,λk h a=>by simp at a⟩
 .rw[g]at h
  simp_all
 .rw[g]at h
  simp_all
theorem yL(M:Mk E):∀(l:ώ) (D:a0y) (G:ώ),Ow E D G->ϱ G+ϱ l<=E+1->∃a,l.foldl (λ(K:Option<|a0y×Nat) h=>do
   let (D,k) <-K
   let j <-layClean.free E D (turns E) (bits h % (E+1)) (bits h)
   W2 (D.setIfInBounds j<|U k,k+1)) (U (D,ϱ G))=U (a,ϱ G+ϱ l)/\Ow E a (G++l)
 |[],D,G,g,_=>⟨D,Z,by rw[VA];exact g⟩
 |h::l,D,G,g,hl=>by
  rw[U5]at hl;obtain⟨j,e,d⟩:=g.step h M ln;obtain⟨f,b,c⟩:=yL M l _ _ d (by rw[Va,VX];lia);refine⟨f,?_,by rw[V5]at c;exact c⟩;rw[List.foldl_cons];simp only[Option.bind_eq_bind,WJ,e];rw[Va,VX]at b;rw[U5,show ϱ G+(ϱ l+1)=ϱ G+1+ϱ l by lia];exact b
theorem Rv(K:Mk D)(G)(b:G.size<=D+1):∃E,layClean D G=U E/\Ow D E G.toList:=by
 obtain⟨o,e,a⟩:=yL K G.toList _ [] (Ow.nil D) (by simpa using b);refine⟨o,?_,a⟩;unfold layClean;simp_all
theorem y0{f:D->Option E}{g:D->E}:∀{l:List D},(∀a∈l,f a=U (g a))->l.filterMap f=l.map g:=@List.rec _ _ (@λ_=>Z) (λa l w=>@λh=>by
  rw[WQ,h a UP,UZ,w λb c=>h b<|UI a c])
noncomputable def cU(E:Nat)(D:a0y):Ϟ:=(UT<|E+1).filterMap λj=>(D.getD j Y).map (j,·)
theorem Mo(G:D.size=E+1){j k}:(j,k)∈cU E D↔D[j]?=U (U k):=by
 unfold cU;rw[Z3];constructor
 .rintro⟨x,hx,e⟩
  have c:=Vg.mp hx;have a:D.getD x Y=D[x]:=by simp[X0,show x<D.size by lia]
  rw[a]at e;cases q:D[x]with
  |none=>rw[q]at e;cases e
  |some d=>
   rw[q]at e;simp only[Wx,Option.some.injEq,Prod.mk.injEq]at e;simp_all
 .intro e
  have b:=(VZ.mp e).1;refine⟨j,Vg.mpr ln,?_⟩;have a:D.getD j Y=D[j]:=by simp[X0,b]
  rw[getElem?_pos D j b]at e;rw[a,Vt e];rfl
theorem JS(E)(D):(cU E D).Pairwise λa b=>a.1<b.1:=by
 unfold cU;refine List.Pairwise.filterMap _ (λa f h b d g c=>?_) List.pairwise_lt_range;cases q:D.getD a Y with
 |none=>rw[q]at d;cases d
 |some k=>
  rw[q]at d;cases e:D.getD f Y with
  |none=>rw[e]at c;cases c
  |some i=>
   rw[e]at c;cases d;cases c;exact h
theorem IF{t:V9}{hs}(S:Mk<|sizeAbove wanted-1)(nf:hs.size*5<(sizeAbove wanted-1)*3):
  ∃(K:V9) (c:a0A),t.relaid hs wanted=U (K,c)/\c.toList.Perm (UT hs.size)/\Tb K (c.toList.map λk=>hs.getD k 0)/\K.led=t.led/\K.plain=t.plain:=by
 have ho:=S.odd;obtain⟨D,e,o8⟩:=Rv S hs ln;generalize N:sizeAbove _-1=mask at*;have d:ϱ hs.toList=hs.size:=by rfl
 have f:=JS mask D;have g:∀{j k:Nat},(j,k)∈cU _ D↔D[j]?=U _:=Mo o8.sz;have P:t.relaid hs wanted=U ({mask,place:=((cU mask D).map (·.1)).toArray,dummies:=#[],finger:=t.finger,led:=t.led,moves:=t.movedTo mask,plain:=t.plain},((cU mask D).map (·.2)).toArray):=by
  unfold relaid laid;rw[N,e];rfl
 have E:((cU mask D).map (·.2)).Perm (UT hs.size):=by
  refine(List.perm_ext_iff_of_nodup ?_ List.nodup_range).mpr λk=>?_
  .unfold List.Nodup
   rw[Xo];refine List.Pairwise.imp_of_mem (λ{a b} G A h z=>?_) f;obtain⟨j,k⟩:=a;obtain⟨r,v⟩:=b;have Q:=z;subst Q;have:=o8.un j r k (g.mp G)<|g.mp A;lia
  .rw[UL,Vg]
   constructor
   .rintro⟨⟨j,v⟩,h,rfl⟩
    have:=o8.lt j v<|g.mp h;rwa[d]at this
   .intro w
    obtain⟨j,n,B,_⟩:=o8.ex k _ (UJ<|by exact w);exact⟨(j,k),g.mpr B,Z⟩
 have l:ϱ (cU mask D)=hs.size:=by
  have:=E.length_eq;simp_all
 refine⟨_,_,P,by exact E,?_,Z,Z⟩;have M:∀{i:Nat} {x:Nat},(((cU _ D).map (·.1)).toArray)[i]?=U x->∃k,(cU mask D)[i]?=U (x,k):=λ{i x} h=>by
  rw[List.getElem?_toArray,UN]at h;cases q:(cU _ D)[i]? with
  |none=>rw[q]at h;cases h
  |some a=>
   rw[q]at h;cases h;exact⟨a.2,Z⟩
 have C:∀{j k:Nat},D[j]?=U (U k)->∃i:Nat,(((cU _ D).map (·.1)).toArray)[i]?=U j:=λ{j k} h=>by
  obtain⟨i,T,f5⟩:=List.getElem_of_mem<|g.mpr h;exact⟨i,by rw[List.getElem?_toArray,UN,UJ T,f5];rfl⟩
 refine⟨S,?_,?_,?_,Z,?_,?_⟩
 .show(((cU _ D).map _).toArray).size=_
  simp
 .intro i k x y F hx hy
  obtain⟨a,G⟩:=M hx;obtain⟨b,A⟩:=M hy;obtain⟨B,H⟩:=UY.mp G;obtain⟨W,X⟩:=UY.mp A;have:=Xb.mp f i k B W F;simp_all
 .intro i j h
  obtain⟨a,G⟩:=M h;have:=(VZ.mp<|g.mp<|U2 G).1;have:=o8.sz;grind
 .show(((cU _ D).map _).toArray).size*5<mask*3
  simp_all
 .intro i h j I o7
  obtain⟨k,w⟩:=M o7;have o:=g.mp<|U2 w;have R:hs.toList[k]?=U h:=by
   rw[UN]at I;have H:((cU mask D).map (·.2)).toArray.toList[i]?=U k:=by
    simp_all
   rw[H]at I;have kl:k<hs.size:=by have:=o8.lt j k o;rwa[d]at this
   simp_all
  obtain⟨r,n,s,a2,a3⟩:=o8.ex k h R;have:=o8.un j r k o s;subst this;have V:∀(u:V9),u.mask=mask->∀m,ff u m (u.probeStart h)=ff (tm _) m _:=λu L m=>by
   rw[DF (u:=tm _) L,yR (u:=tm _) L]
  refine⟨n,by rw[V _ Z];exact a2,λm J=>?_⟩;rw[V _ Z];obtain⟨v,p⟩:=a3 m J;exact C p
theorem v5(a:t.probe f h p=r)(T:Tb t g)(v:Pv t p)(b:e<10*turns t.mask)(c:¬Lv t (ff t e p).j):
  ∃m,m<=e/\(∀d<m,∃i,t.place[i]?=U (ff t d p).j/\f i≠h)/\
   ((¬Lv t (ff t m p).j/\r=U (.empty (ff t m p).j Y))\/∃i,t.place[i]?=U (ff t m p).j/\f i=h/\r=U (.candidate (ff t m p).j i<|ff t (m+1) p)):=by
 subst a;exact NW T.rs T.du _ p e v b c
section
variable{prog:Vw}{w:VC}{A:V3}{E:ϕ}{s:UW}
noncomputable abbrev iD(prog:Vw)(w:VC):HeapKind prog w ώ:=tupleKind<|intKind prog w
noncomputable abbrev hsh(prog:Vw)(w:VC)(k:ώ):Int:=(iD prog w).hash k
theorem Tb.fits(T:Tb t hs)(s:ϱ hs=n):t.fits n=O:=by
 have:=T.nf;have:=T.sz;unfold SetTable.fits SetTable.fill;rw[T.du];simp;lia
theorem items_int(h:ItemsAre (intKind prog w) b a):∀v∈a,∃n t,v=YJ n t:=by
 induction h with
 |nil=>intro v hv;cases hv
 |@cons k v' b a h1 _ ih=>
  intro v hv;rcases U4.mp hv with rfl|hv
  .obtain⟨t,e⟩:=Value.isInt_shape h1
   exact⟨_,t,e⟩
  .exact ih v hv
theorem GQ{o}(b:s.heap.get? a=U o)(h:Q o.cls s):U6 M A (typeOf<|.ref a) Q E s:=by
 show U6 M A _ Q E s;exact My<|wpAny_loadPart b<|UF h
theorem yr(e:(iD prog w).is s.heap k x)(h:Q UK s):U6 (Vq prog w) A (ofAClassStatement 8<|.ref x) Q E s:=by
 obtain⟨o,G,n,d,f,M,g⟩:=e;unfold ofAClassStatement;refine My<|GQ d ?_;rw[f];dsimp only[VV];refine My<|UF ?_;refine My<|WX d M<|My ?_;rw[<-YZ];refine ZY _ (λD r K=>r.1=Y/\K=s/\∀v∈D,∃n t,v=YJ n t) _ ?_ ?_ _ _ ⟨Z,Z,items_int g⟩
 .rintro v D r K ⟨b,rfl,a⟩
  obtain⟨n,t,rfl⟩:=a v UP;refine My<|UF ?_;exact UF ⟨Z,Z,λu c=>a u<|UI _ c⟩
 .rintro⟨r1,i⟩ K ⟨b,rfl,_⟩
  simp only at b;subst b;exact UF h
theorem MU(d:(iD prog w).is s.heap k x)(h:Q O s):U6 (Vq prog w) A (hashByValue 8<|.ref x) Q E s:=by
 have e:=IsTupleKey.typeIs d;obtain⟨o,G,n,f,i,M,g⟩:=d;refine My<|XD e F.slot_tuple_hash.lookup ?_;refine My<|WX f M<|My ?_;rw[<-YZ];refine ZY _ (λD r K=>r.1=Y/\K=s/\∀v∈D,∃n t,v=YJ n t) _ ?_ ?_ _ _ ⟨Z,Z,items_int g⟩
 .rintro v D r K ⟨b,rfl,a⟩
  obtain⟨n,t,rfl⟩:=a v UP;refine My<|UF ?_;exact UF ⟨Z,Z,λu c=>a u<|UI _ c⟩
 .rintro⟨r1,j⟩ K ⟨b,rfl,_⟩
  simp only at b;subst b;exact UF h
theorem OZ(f:(iD prog w).is s.heap k x):∀(l:ϡ) {Q:Bool->UW->Prop},(∀y∈l,(iD prog w).is s.heap y.1 y.2)->Q UK s->U6 (Vq prog w) A (searchCouldBeSeen (.ref x)<|l.map λy=>Vh y.2) Q E s:=by
 intro l Q g h;refine My<|ZY _ (λD r G=>r.1=Y/\G=s/\∃b:ϡ,D=b.map _/\∀y∈b,(iD _ w).is _ y.1 y.2) _ ?_ ?_ _ _ ⟨Z,Z,l,Z,g⟩
 .rintro v D r G ⟨d,rfl,b,e,a⟩
  cases b with
  |nil=>cases e
  |cons y b=>
   cases e;have M:=a y UP;have K:(Y:a0R)=Y/\G=G/\∃c:ϡ,b.map _=c.map (λy=>Vh y.2)/\∀y∈c,(iD _ w).is _ y.1 y.2:=⟨Z,Z,b,Z,λu i=>a u<|UI y i⟩;by_cases q:x==y.2
   .simp only[q]
    exact UF K
   .simp only[q]
    refine My<|(iD _ w).quiet f ?_;refine My<|(iD _ w).quiet M ?_;refine My<|yr f ?_;refine My<|yr M ?_;exact UF K
 .rintro⟨r1,j⟩ G ⟨d,rfl,_⟩
  simp only at d;subst d;exact UF h
theorem HL{o}{K:a0z}{t}{D:ϡ}(hu:A.units<Zp)(ho:s.heap.get? a=U o)(hd:o.data= .set K ep t)
  (H:K.toList=D.map λx=>(hsh prog w x.1,Vh x.2)) (hx:∀x∈D,(iD prog w).is s.heap x.1 x.2) (T:Tb t<|D.map λx=>hsh prog w x.1) (hk:(iD prog w).is s.heap k b)
  (he:e<10*turns t.mask) (R:¬Lv t (ff t e<|t.probeStart<|hsh prog w k).j) (ha:∀m<e,Lv t (ff t m<|t.probeStart<|hsh prog w k).j)
  (q1:k∈D.map (·.1)->Q (.there Y) s) (q2:k∉D.map (·.1)->Q (.free (ff t e<|t.probeStart<|hsh prog w k).j UK) s):
  ∀(n c m:Nat) (st:Option Probe),e=m+n->n<c->st.getD (t.probeStart<|hsh prog w k)=ff t m (t.probeStart<|hsh prog w k)->(∀g<m,∀(i:Nat) x,t.place[i]?=U (ff t g<|t.probeStart<|hsh prog w k).j->D[i]?=U x->x.1≠k)->
   U6 (Vq prog w) A (setSearchFrom a (.ref b) (hsh prog w k) O c st) Q E s:=by
 have ac:K.size=ϱ D:=by rw[<-Vp,H,UD]
 have o7:t.fits K.size=O:=T.fits (by rw[UD,ac]);have l:∀i:Nat,K[i]?=(D[i]?).map λx=>(hsh prog w x.1,Vh x.2):=λi=>by rw[<-XI,H,UN]
 have gw:t.gaveWay=UK:=by
  have:=T.km.odd;unfold SetTable.gaveWay;simp_all
 intro n
 induction n using Nat.strongRecOn with
 |_ n ih=>
  intro c m st em al ad p;cases c with
  |zero=>lia
  |succ c=>
   unfold setSearchFrom;refine My<|WV ho hd o7 ?_
   dsimp only
   rw[ad,gw];simp only[Vd,VS];have v:=pR m<|rH t<|hsh prog w k;have M:∀n',ff t n' (ff t m<|t.probeStart<|hsh prog w k)=ff t (m+n') (t.probeStart<|hsh prog w k):=λn'=>(qI t m n' _).symm;have G:∀{i o9 j:Nat},t.place[i]?=U j->t.place[o9]?=U j->i=o9:=λ{i o9 j} u C=>by
    rcases X2 i o9 with q|q|q
    .exact Vl (T.rs i o9 j j q u C) (V4 j)
    .exact q
    .exact Vl (T.rs o9 i j j q C u) (V4 j)
   split
   .rename_i W heq
    obtain⟨g,ae,r,d⟩:=v5 heq T v (e:=n) ln (by rw[M,<-em];exact R);rcases d with⟨X,I⟩|⟨i,P,am,I⟩
    .cases I
     have o8:g=n:=by
      rcases Nat.lt_or_ge g n with q|q
      .rw[M]at X
       exact Vl (ha (m+g) ln) X
      .lia
     subst o8;refine UF ?_;rw[M,<-em];refine q2 λf5=>?_;obtain⟨x,af,J⟩:=UL.mp f5;obtain⟨B,ag,ah⟩:=List.getElem_of_mem af;have h:D[B]?=U x:=by rw[UJ ag,ah]
     have L:B<t.place.size:=by have:=T.sz;rw[UD]at this;lia
     obtain⟨F,a1,a2⟩:=T.rch B (hsh prog w k) t.place[B] (by rw[UN,h,<-J];rfl)<|getElem?_pos t.place B L;have an:F<e:=by
      rcases X2 F e with q|q|q
      .exact q
      .subst q
       exact Vl ⟨B,by rw[a1];simp⟩ R
      .exact Vl (a2 e q) R
     have V:t.place[B]?=U (ff t F<|t.probeStart<|hsh prog w k).j:=by rw[a1];exact getElem?_pos t.place B L
     by_cases q:F<m
     .exact p F q B x V h J
     .obtain⟨i,u,C⟩:=r (F-m) ln
      rw[M,show m+(F-m)=F by lia]at u;have:=G u V;subst this;refine C ?_;show(K[i]?.map (·.1)).getD 0=_;rw[l,h,<-J];rfl
    .cases I
     have N:i<ϱ D:=by
      have u:=(VZ.mp P).1;have:=T.sz;rw[UD]at this;lia
     have h:D[i]?=U D[i]:=UJ N;have aa:K[i]?=U (hsh prog w D[i].1,Vh D[i].2):=by rw[l,h];rfl
     have ai:=hx D[i]<|VU N;rw[M]at P;simp only;have el:(Ww (λx=>x.snd) (Array.filter (λx=>x.fst==hsh prog w k) K).toList)=(D.filter λy=>hsh prog w y.1==hsh prog w k).map λy=>Vh y.2:=by
      rw[Array.toList_filter,H,List.filter_map,UR];rfl
     rw[el];have ab:∀{Q':Bool->UW->Prop},Q' UK s->U6 (Vq prog w) A (searchCouldBeSeen (.ref b)<|(D.filter λy=>hsh prog w y.1==hsh prog w k).map λy=>Vh y.2) Q' E s:=λhq=>OZ hk _ (λy hy=>hx y (Wg.mp hy).1) hq;have sm:t.sameMemory t.moves t.mask=U O:=by unfold sameMemory;simp
     have sl:t.slot (ff t (m+g)<|t.probeStart<|hsh prog w k).j= .live i:=vO T.rs P;cases ak:t.led
     all_goals simp only[Bool.not_false,Xz,Vd,VV,VS,M,aa]
     all_goals try refine My<|ab ?_
     all_goals try simp only[Vd,VS]
     all_goals
      refine My<|Wf<|(iD prog w).eqBool hu ai hk<|My<|WV ho hd o7 ?_;simp only[Yr];by_cases q:D[i].1=k
      .rw[US<|U3 q]
       exact UF<|q1<|UL.mpr ⟨D[i],VU N,q⟩
      .rw[UU<|by simpa using q]
       simp only[sm,VV,sl,aa];refine My ?_;unfold isSame;simp only[beq_self_eq_true,VV];refine UF<|My<|UF ?_;simp only[VV];rw[UU<|by simpa using q];have o8:g<n:=by
        rcases Nat.lt_or_ge g n with z|z
        .exact z
        .obtain rfl:g=n:=by lia
         rw[<-em]at P;exact Vl ⟨i,P⟩ R
       refine ih (n-(g+1)) ln c (m+g+1) _ ln ln Z λS ao i2 x2 u C z=>?_;by_cases q1:S<m
       .exact p S q1 i2 x2 u C z
       .by_cases q2:S=m+g
        .subst q2
         have:=G P u;subst this;rw[h]at C;cases C;exact q z
        .obtain⟨i3,h3,h4⟩:=r (S-m) ln
         rw[M,show m+(S-m)=S by lia]at h3;have:=G h3 u;subst this;refine h4 ?_;show(K[i3]?.map (·.1)).getD 0=_;rw[l,C,<-z];rfl
   .rename_i hno
    have aj:∀f:Nat->Int,(∀W,t.probe f (hsh prog w k) (ff t m<|t.probeStart<|hsh prog w k)=U W->False)->False:=λf o7=>by
     obtain⟨g,ae,r,d⟩:=v5 (f:=f) Z T v (e:=n) ln (by rw[M,<-em];exact R);rcases d with⟨_,I⟩|⟨i,_,_,I⟩
     .exact o7 _ I
     .exact o7 _ I
    exact(aj _ hno).elim
theorem least{P:Nat->Prop}:∀n,P n->∃m,m<=n/\P m/\∀k<m,¬P k:=by
 intro n
 induction n using Nat.strongRecOn with
 |_ n ih=>
  intro h;by_cases q:∃k,k<n/\P k
  .obtain⟨k,a,b⟩:=q
   obtain⟨m,d,c⟩:=ih k a b;exact⟨m,ln,c⟩
  .exact⟨n,UV n,h,λk a b=>q ⟨k,a,b⟩⟩
def vD(prog:Vw)(w:VC)(h:V0)(a:UM)(s:ϡ):Prop:=
 ∃o A D t,h.get? a=U o/\o.ExactSet/\o.data= .set A D t/\(A.toList=s.map λx=>(hsh prog w x.1,Vh x.2))/\(s.map (·.1)).Nodup/\(∀x∈s,(iD prog w).is h x.1 x.2)/\(Tb t<|s.map λx=>hsh prog w x.1)/\t.plain=O/\t.led=!(w.params.followText HY)
theorem sG{h A}(x:(iD prog w).is h k b)(g:h.get? a=U o)(D:o.data= .set l m t)(hs:Vy a h A):(iD prog w).is A k b:=by
 obtain⟨f,s,n,d,i,c,j⟩:=x;have e:b≠a:=by
  rintro rfl;simp_all
 exact⟨f,s,n,(hs.2 b e).trans d,i,c,j⟩
theorem vK{h:V0}(c:h.get? a=U o)(w:o.data= .set e d t)(b)(s):(h.update a<|Obj.putSet b s).get? a=U {o with data:= .set b (d+1) s}:=by
 have:=XM (Obj.putSet b s) c (by rw[putSet_of b s w];rfl);rw[putSet_of b s w]at this;exact this
theorem QL(T:Tb t hs)(j):(t.put j).1.dummies=#[]/\(t.put j).1.place.size=t.place.size+1/\(t.put j).2<=t.place.size:=by
 obtain⟨s,a,b3⟩:=lA T.rs;have w:has t.dummies j=UK:=by rw[T.du];rfl
 refine⟨?_,iF s,s⟩;show(if has _ j=O then _ else t.dummies)=#[];rw[w,UU UX,T.du]
theorem Pk{w D}{A:List w}{s}{f:w->D}(e:s.toList=A.map f)(c:p<=s.size)(x):(insertAt s p<|f x).toList=(A.take p++x::A.drop p).map f:=by
 unfold insertAt;simp only[Array.toList_append,Array.toList_push,Array.toList_extract];have a:(s.toList.extract 0 p)=s.toList.take p:=by rfl
 have b:(s.toList.extract p s.size)=s.toList.drop p:=by
  simp only[List.extract];rw[WL rc]
 simp_all
theorem SB{D}(hu:A.units<Zp)(S:vD prog w s.heap a D)(hk:(iD prog w).is s.heap k b)(hn:ϱ D<63)
  (h:∀K q,Vy a s.heap K->vD prog w K a q->(k∈D.map (·.1)->q=D)->(k∉D.map (·.1)->q.Perm ((k,b)::D))->Q (decide (k∉D.map (·.1))) {s with heap:=K}):
  U6 (Vq prog w) A (setAddHashed a (.ref b)<|hsh prog w k) Q E s:=by
 have S0:=S;obtain⟨o,G,ep,t,o7,X,V,W,af,hx,T,hp,J⟩:=S;have F:G.size=ϱ D:=by rw[<-Vp,W,UD]
 have hf:t.fits G.size=O:=T.fits (by rw[UD,F]);have o8:t.place.size=ϱ D:=by rw[T.sz,UD]
 obtain⟨e0,ag,ah⟩:=T.free<|rH t<|hsh prog w k;obtain⟨e,aj,hl,f5⟩:=least (P:=λe=>¬Lv t (ff t e<|t.probeStart<|hsh prog w k).j) e0 ah;have ha:∀m<e,Lv t (ff t m<|t.probeStart<|hsh prog w k).j:=λm M=>Classical.not_not.mp<|f5 m M;have ak:=T.km.odd;unfold setAddHashed setAddHashedIn;refine Wf<|My<|WV o7 V hf ?_;have hb:byScan (Vh b) G=UK:=Z;simp only[hb,Vd,VS];refine My ?_;unfold setSearch;refine HL (e:=e) hu o7 V W hx T hk ln hl ha (λM=>?_) (λM=>?_) e 100000 0 Y ln (by unfold turns at ag;lia) Z (λm' ai=>Vl ai<|Xq _)
 .refine UF ?_
  have:=h s.heap D (Vy.refl a s.heap) S0 (λ_=>Z) (λz=>Vl M z);rw[Vv (λz=>z M)]at this;exact this
 .have hQ:∀K q,Vy a s.heap K->vD prog w K a q->q.Perm ((k,b)::D)->Q O {s with heap:=K}:=λK q h1 h2 h3=>by
   have:=h K q h1 h2 (λz=>Vl z M) (λ_=>h3);rwa[U3 M]at this
  simp only;refine My<|WV o7 V hf ?_;generalize hj:(ff t e<|t.probeStart<|hsh prog w k).j=j at hl;obtain⟨pd,ps,pl⟩:=QL T j;generalize y:t.put j=tp at pd ps pl;obtain⟨u,p⟩:=tp;simp only at pd ps pl⊢;have l:u.plain=O:=by
   have:(t.put j).1.plain=t.plain:=Z;simp_all
  have L:u.led=t.led:=by
   have:(t.put j).1.led=t.led:=Z;simp_all
  have v:u.mask=t.mask:=by
   have:(t.put j).1.mask=t.mask:=Z;simp_all
  rw[l];simp only[VV];refine My<|MU hk ?_;simp only[VV];have N:=Pk (f:=λx:ώ×UM=>(hsh prog w x.1,Vh x.2)) W (p:=p) ln (k,b);have B:(insertAt G p (hsh prog w k,Vh b)).size=G.size+1:=iF ln;have d:(D.take p++(k,b)::D.drop p).Perm ((k,b)::D):=by
   have:=List.perm_middle (a:=(k,b)) (l₁:=D.take p) (l₂:=D.drop p);simp_all
  have nd1:((D.take p++(k,b)::D.drop p).map (·.1)).Nodup:=by
   refine(d.map (·.1)).nodup_iff.mpr ?_;rw[UZ,V2];exact⟨M,af⟩
  refine My (wpAny_storeSet_of o7 V ?_<|by rw[B,WN];lia);have H:=Wu s.heap a<|Obj.putSet (insertAt G p (hsh prog w k,Vh b)) u;have g1:=vK o7 V (insertAt G p (hsh prog w k,Vh b)) u;have aa:∀x∈D.take p++(k,b)::D.drop p,(iD prog w).is (s.heap.update a<|Obj.putSet (insertAt G p (hsh prog w k,Vh b)) u) x.1 x.2:=λx hx'=>by
   rcases U4.mp (d.mem_iff.mp hx')with rfl|hx'
   .exact sG hk o7 V H
   .exact sG (hx x hx') o7 V H
  by_cases r:u.tooFull=O
  .simp only[r,Bool.not_false,Bool.and_self,VV]
   have fu:u.fill*5≥u.mask*3:=by unfold tooFull at r;exact WP r
   have fe:u.fill=ϱ D+1:=by unfold SetTable.fill;rw[pd,ps,o8];rfl
   have al:=T.nf;have f1:u.fits (insertAt G p (hsh prog w k,Vh b)).size=O:=by
    unfold SetTable.fits;rw[B,fe,ps,o8,F,v];simp;lia
   have wm:Mk (sizeAbove (grown<|G.size+1)-1)/\(G.size+1)*5<(sizeAbove (grown<|G.size+1)-1)*3/\sizeAbove (grown<|G.size+1)<=128:=by
    rw[fe,v]at fu;rw[F];rcases T.km with z|z|z
    .have:ϱ D=4:=by lia
     rw[this];exact⟨.inr (.inl rb),rb,rb⟩
    .have:ϱ D=18:=by lia
     rw[this];exact⟨.inr (.inr rb),rb,rb⟩
    .lia
   have C:(Array.map (λx=>x.fst)<|insertAt G p (hsh prog w k,Vh b)).size=G.size+1:=by rw[Array.size_map,B]
   obtain⟨t2,c,er,op,T2,ab,I⟩:=IF (t:=u) (hs:=(insertAt G p (hsh prog w k,Vh b)).map (·.1)) (wanted:=grown<|G.size+1) wm.1 (by rw[C];exact wm.2.1);refine My ?_;unfold setRelay;refine My<|WV g1 Z f1 ?_;simp only;rw[UU<|by rw[WN];lia];rw[er];generalize am:insertAt G p (hsh prog w k,Vh b)=es1 at*;generalize an:D.take p++(k,b)::D.drop p=xs1 at*;have l1:ϱ xs1=G.size+1:=by rw[d.length_eq,U5,F]
   have o9:∀i,i<ϱ xs1->es1[i]?=U (hsh prog w (xs1.getD i (k,b)).1,Vh (xs1.getD i (k,b)).2):=λi R=>by
    rw[<-XI,N,UN,UJ R,UO,UJ R];rfl
   have om:∀i∈c.toList,i<ϱ xs1:=λi R=>by
    have:=Vg.mp<|op.mem_iff.mp R;simp_all
   have ac:(c.filterMap λx=>es1[x]?).toList=(c.toList.map λi=>xs1.getD i (k,b)).map λx=>(hsh prog w x.1,Vh x.2):=by
    rw[Array.toList_filterMap,y0 (g:=λi=>(hsh prog w (xs1.getD i (k,b)).1,Vh (xs1.getD i (k,b)).2)) λi R=>o9 i<|om i R,UR];rfl
   have n:(c.toList.map λi=>xs1.getD i (k,b)).Perm xs1:=by
    refine(op.map _).trans<|List.Perm.of_eq ?_;rw[C,<-l1];refine WZ rc λi h1 h2=>?_;rw[XE,Yg,UO,UJ h2];rfl
   have ad:(c.filterMap λx=>es1[x]?).size=es1.size:=by
    rw[<-Vp,ac,UD,n.length_eq,l1,B]
   refine My ?_;show U6 _ _ (if((c.filterMap λx=>es1[x]?).size !=es1.size)=O then _ else _) _ _ _;rw[UU<|by rw[ad];simp];refine UF ?_;refine wpAny_storeSet_of g1 Z ?_ (by rw[ad,B,WN];lia);have ae:=Wu (s.heap.update a<|Obj.putSet es1 u) a<|Obj.putSet (c.filterMap λx=>es1[x]?) t2;have g2:=vK g1 Z (c.filterMap λx=>es1[x]?) t2;refine UF<|hQ _ (c.toList.map λi=>xs1.getD i (k,b)) (H.trans ae) ⟨_,_,_,t2,g2,X,Z,ac,?_,λx hx'=>?_,?_,by rw[I,l],by rw[ab,L,J]⟩<|n.trans d
   .exact(n.map (·.1)).nodup_iff.mpr nd1
   .exact sG (aa x<|n.mem_iff.mp hx') g1 Z ae
   .have eh:(c.toList.map λi=>xs1.getD i (k,b)).map (λx=>hsh prog w x.1)=c.toList.map λi=>(es1.map (·.1)).getD i 0:=by
     simp_all
    rw[eh];exact T2
  .simp only[r,Bool.not_false,Bool.and_false,VS,Yr,Vd]
   refine UF<|hQ _ (D.take p++(k,b)::D.drop p) H ⟨_,_,_,u,g1,X,Z,N,nd1,aa,?_,l,by rw[L,J]⟩ d;have nf:(t.place.size+1)*5<t.mask*3:=by
    have:¬(u.fill*5≥u.mask*3):=by
     intro z;exact r (by unfold tooFull;exact U3 z)
    unfold SetTable.fill at this;simp_all
   have:=(T.put (h:=hsh prog w k) hl hj (by exact ha) nf).2.2.2.2;simp_all
end
namespace F2
theorem si_next:Slot yb "__next__" AC:= .of (owner:=yb) (n:="__next__") (by rw[typeLookup_type,builtinLookup_eq_fast];kernel_rfl) (by decide +kernel) (by decide +kernel) (by decide +kernel)
  (by first|exact .inl (by decide +kernel)|exact .inr (by decide +kernel)) (by rw[ZF];kernel_rfl)
theorem si_iter:Slot yb "__iter__" C1:= .of (owner:=yb) (n:="__iter__") (by rw[typeLookup_type,builtinLookup_eq_fast];kernel_rfl) (by decide +kernel) (by decide +kernel) (by decide +kernel)
  (by first|exact .inl (by decide +kernel)|exact .inr (by decide +kernel)) (by rw[ZF];kernel_rfl)
theorem ent_next:entryFor table AC=U Builtin.«set_iterator.__next__»:=entryFor_of_tree rf
theorem ent_iter:entryFor table C1=U Builtin.«dict_keyiterator.__iter__»:=entryFor_alias (id':="dict_keyiterator.__iter__") rf Z (by decide +kernel) rf
theorem ent_set_iter:entryFor table "set.__iter__"=U Builtin.«frozenset.__iter__»:=entryFor_alias (id':="frozenset.__iter__") rf Z (by decide +kernel) rf
theorem args_next(a:UQ):argsOk AC ⟨[a],[]⟩:=by unfold argsOk;kernel_rfl
theorem args_iter(a:UQ):argsOk C1 ⟨[a],[]⟩:=by unfold argsOk;kernel_rfl
end F2
theorem uu:∀{l:List D} {i:Nat} (h:i<ϱ l),(l[i]::l.eraseIdx i).Perm l
 |[],i,h=>Vl h<|Xq i
 |a::l,0,h=> .refl _
 |a::l,i+1,h=>by
  show(l[i]'(by simpa using h)::a::l.eraseIdx i).Perm _;exact(List.Perm.swap _ _ _).trans<|(uu<|by simpa using h).cons a
theorem AN(next):∀(fuel k:Nat) (left:List D) (a:Array D),ϱ left<=fuel->(pickOrder.go next fuel k left a).toList.Perm (a.toList++left)
 |0,k,left,a,h=>by
  have:left=[]:=List.length_eq_zero_iff.mp ln;subst this;unfold pickOrder.go;rw[VA]
 |fuel+1,k,left,a,h=>by
  unfold pickOrder.go;cases left with
  |nil=>simp
  |cons c d=>
   have b:next k % ϱ (c::d)<ϱ (c::d):=ZC _ rc
   rw[UJ b];apply(AN _ fuel _ _ _ (by rw[List.length_eraseIdx_of_lt b];lia)).trans
   rw[Array.toList_push,V5];exact List.Perm.append_left _<|uu b
theorem IQ(next)(xs:Array D):(pickOrder next xs).toList.Perm xs.toList:=by
 unfold pickOrder;apply(AN _ xs.size 0 _ #[] rc).trans
 simp
section
variable{prog:Vw}{w:VC}{A:V3}{E:ϕ}{s:UW}
noncomputable def fE(w:VC)(a:UM)(ep:Nat)(s:a0z):a0z:=if w.params.followText HY=O then pickOrder (w.params.setOrder a ep) s else s
theorem nW(w)(a)(ep)(s):(fE w a ep s).toList.Perm s.toList:=by
 unfold fE;split
 .exact IQ _ _
 .exact .refl _
structure SIt (w:VC) (h:V0) (I a:UM) (es:a0z) (ep:Nat) (t:V9) (i:Nat):Prop where
 st:∃o,h.get? a=U o/\o.data= .set es ep t
 it:∃(o:Wd) (sl:Nat),h.get? I=U o/\o.cls= .type yb/\o.data= .fields #[.int sl 0,.int i 0,.ref a,.int es.size 0,.int ep 0]/\(w.params.followText HY=UK->below t.place sl=i)
theorem qc(h:Q (M.w.params.followText HY) s):U6 M A setsByText Q E s:=by
 unfold setsByText;exact My<|ZX<|UF h
theorem JC{D}{t}{e}(T:Tb t hs)(h:t.fits D.size=O)(H:t.plain=O)(J:t.led=!(w.params.followText "set-order"))(x:SIt w s.heap I a D o8 t i)(k:I≠a)(l:(fE w a o8 D)[i]?=U e)
  (L:∀M,SIt w M I a D o8 t (i+1)->Vy I s.heap M->Q (U e.2) {s with heap:=M}):U6 (Vq prog w) A (YK<|.ref I) Q E s:=by
 obtain⟨⟨N,b,c⟩,o,V,n,u,G,p⟩:=id x;have y:s.TypeIs (.ref I) "set_iterator":=⟨o,n,u⟩;refine My<|YG<|wpAny_callSpecial?_slot y F2.si_next<|VD F2.si_next y F2.ent_next ?_<|F2.args_next _;refine My<|UF<|My<|ZG n G ?_;refine My<|wpAny_setEntries_of b c h ?_;rw[Yt];apply My;simp only[Wc]
 have d:∀K:Nat,(w.params.followText "set-order"=UK->below _ K=i+1)->U6 (Vq prog w) A.in1 (do
    setField _ 0 _
    setField _ 1 (Yy<|i+1)
    ret _) (λd S=>∃v,d=Fin.done (Flow.ret v)/\U6 (Vq prog w) A (W2<|U v) Q E S) (λe S=>U6 (Vq prog w) A (do
     if(<-isInstance e (X3 "StopIteration"))=O then W2 Y else throw e) Q E S) s:=λK r=>by
  refine My<|Yn n G rc ?_;have B:(s.heap.update I<|Obj.mapFields (·.setIfInBounds 0 (Yy K))).get? I=U _:=XM _ n<|Zv<|WI G _;refine My<|Yn B (WI G _) rc<|UF ⟨_,Z,UF<|L _ ⟨⟨N,?_,c⟩,⟨_,K,XM _ B<|Zv<|WI (WI G _) _,?_,?_,r⟩⟩<|(Wu ..).trans<|Wu ..⟩
  .rw[W6 _ _ _ _<|Ne.symm k,W6 _ _ _ _<|Ne.symm k];exact b
  .rw[PySem.Obj.cls_mapFields,PySem.Obj.cls_mapFields];exact u
  .rw[WI<|WI G _];simp[Yy]
 unfold setNext;refine My<|WV b c h<|My<|qc ?_;have C:(Vq prog w).w=w:=Z;rw[C];cases q:w.params.followText "set-order"
 .have f:fE w a o8 D=D:=by unfold fE;rw[q];rfl
  rw[f]at l;have o7:=(VZ.mp l).1;simp only[Vd,VS];have P:t.place.size=D.size:=by
   unfold SetTable.fits at h;simp_all
  rw[UU (λz=>by
   have F:(!t.plain&&decide _)=O:=z;simp_all)]
  apply My;show U6 _ _ (if(!t.led&&!D.isEmpty)=O then _ else _) _ _ _;rw[UU<|by rw[J,q];exact UX];refine UF<|UF ?_;have g:=getElem?_pos t.place i (by omega);rw[p q,l,g];refine d _ λ_=>?_;obtain⟨f5,R,b3⟩:=lA (j:=t.place[i]+1) T.rs;obtain z|z|z:=X2 (below t.place<|t.place[i]+1) (i+1)
  .have:=b3 i _ ln g
   lia
  .exact z
  .have m:=getElem?_pos t.place (i+1) (by grind)
   have W:=R _ _ z m;have X:=T.rs i _ _ _ ln g m;grind
 .have f:fE w a o8 D=pickOrder (w.params.setOrder a o8) D:=by unfold fE;rw[q];rfl
  rw[f]at l;rw[Yt];apply My;refine My<|WV b c h<|My<|qc ?_;rw[C,q];refine My<|ZX<|UF<|UF ?_;simp_all
theorem L9{D}{t}(r:A.handled=Y)(T:Tb t J)(g:t.fits D.size=O)(u:t.plain=O)(y:t.led=!(w.params.followText "set-order"))(x:SIt w s.heap I a D H t D.size)
  (B:∀K,Heap.ExtBut I s.heap K->Q Y {s with heap:=K}):U6 (Vq prog w) A (YK<|.ref I) Q E s:=by
 obtain⟨⟨F,d,f⟩,o,S,h,C,M,i⟩:=id x;have l:s.TypeIs (.ref I) "set_iterator":=⟨o,h,C⟩;refine My<|YG<|wpAny_callSpecial?_slot l F2.si_next<|VD F2.si_next l F2.ent_next ?_<|F2.args_next _;refine My<|UF<|My<|ZG h M ?_;refine My<|wpAny_setEntries_of d f g ?_;rw[Yt];apply My;simp only[Wc]
 have c:U6 (Vq prog w) A.in1 (do
    setField (Vh I) 2 VH
    let e <-newExc (X3 "StopIteration") []
    (raiseNew e:Sem _)) (λc G=>∃v,c=Fin.done (Flow.ret v)/\U6 (Vq prog w) A (W2<|U v) Q E G) (λe G=>U6 (Vq prog w) A (do
     if(<-isInstance e (X3 "StopIteration"))=O then W2 Y else throw e) Q E G) s:=by
  refine My<|Yn h M rc<|My ?_;refine My (VE (My<|Yu (by first|rfl|(simp only;rfl)) ?_)<|by size_fits)
  refine VE ?_ (by size_fits);simp only;refine My<|wpAny_handled ?_;rw[show A.in1.handled=Y from r];refine My<|UF<|wpAny_throw ?_;exact My<|W3 ⟨_,U7 _ Z,Z⟩ isSubtype_stop<|UF<|B _<|((Wu ..).extBut.push _).push _
 unfold setNext;refine My<|WV d f g<|My<|qc ?_;have n:(Vq prog w).w=w:=Z;rw[n];have j:(fE w a H D).size=D.size:=by rw[<-Vp,(nW w a H D).length_eq,Vp]
 cases q:w.params.followText "set-order"
 .simp only[Vd,VS]
  rw[UU (λz=>by
   have p:(!t.plain&&decide _)=O:=z;simp_all)]
  apply My;show U6 _ _ (if(!t.led&&!D.isEmpty)=O then _ else _) _ _ _;rw[UU<|by rw[y,q];exact UX];refine UF<|UF ?_;rw[i q,Xv<|UV _];exact c
 .have k:fE w a H D=pickOrder (w.params.setOrder a H) D:=by unfold fE;rw[q];rfl
  rw[Yt];apply My;refine My<|WV d f g<|My<|qc ?_;rw[n,q];refine My<|ZX<|UF<|UF ?_;simp_all
theorem SIt.at(x:SIt w h I a es ep t i)(k:∀b,b=I\/b=a->∀o,h.get? b=U o->h'.get? b=U o):SIt w h' I a es ep t i:=by
 obtain⟨⟨e,c,d⟩,o,s,f,r⟩:=x;exact⟨⟨e,k a (.inr Z) e c,d⟩,o,s,k I (.inl Z) o f,r⟩
theorem Li(q:A.handled=Y){D}{t}(T:Tb t x)(l:t.fits D.size=O)(m:t.plain=O)(n:t.led=!(w.params.followText "set-order"))(f:I≠a):
  Walks prog w A I [I,a] [I] D.size (λi v=>∃e,(fE w a ep D)[i]?=U e/\v=e.2) (λi h=>SIt w h I a D ep t i) where
 sub:=λb c=>by simp at c;simp[c]
 frame:=λ_ _ _ G r=>G.at λb c o e=>r b (by simpa using c) o e
 item:=λi s Q E L G d=>by
  have u:(fE w a ep D).size=D.size:=by rw[<-Vp,(nW w a ep D).length_eq,Vp]
  have p:(fE w a ep D)[i]?=U _:=getElem?_pos _ i ln;exact JC T l m n G f p λK g y=>d _ K _ ⟨_,p,Z⟩ g λb o c e=>y.extBut b o (λh=>c<|by simp[h]) e
 done:=λs Q E G d=>L9 q T l m n G λK j=>d K _ λb o c e=>j b o (λh=>c<|by simp[h]) e
 self:=λi s Q E G d=>by
  obtain⟨⟨N,B,C⟩,o,M,F,H,S,J⟩:=G;have k:s.TypeIs (.ref I) "set_iterator":=⟨o,F,H⟩;refine ZH k F2.si_iter<|VD F2.si_iter k F2.ent_iter ?_<|F2.args_iter _;exact UF ⟨_,Z,"set_iterator",_,k,F2.si_next.lookup,d⟩
end
end L2.Hs
namespace L2.Hs
open PySem.SetTable
section
variable{prog:Vw}{w:VC}{A:V3}{E:ϕ}{s:UW}
theorem Mx{o}{D:a0z}{t}(b:s.heap.get? a=U o)(f:o.cls= .type "set")(G:o.data= .set D ep t)(c:t.fits D.size=O)(g:t.plain=O)
  (h:Q (.ref s.heap.objs.size) {s with heap:=s.heap.push {cls:= .type "set_iterator",data:= .fields #[.int (0:Nat) 0,.int (0:Nat) 0,.ref a,.int D.size 0,.int ep 0]}}):U6 (Vq prog w) A (pyIter<|.ref a) Q E s:=by
 have d:s.TypeIs (.ref a) "set":=⟨o,b,f⟩;refine ZH d F.slot_set_iter<|VD F.slot_set_iter d F2.ent_set_iter ?_<|F.args_set_iter_1 _;refine My<|Yu (a:=a) Z<|My<|My<|wpAny_setEntries_of b G c<|UF ?_;apply My;refine My<|WV b G c<|My<|qc<|UF ?_;rw[UU (λz=>by
  have e:(!((Vq _ w).w.params.followText "set-order")&&(!t.plain&&decide _))=O:=z;rw[g]at e;simp at e)]
 refine My<|UF<|My<|wpAny_setEpoch_of b G c ?_;exact My<|VE<|UF ⟨_,Z,"set_iterator",_,⟨_,U7 _ Z,Z⟩,F2.si_next.lookup,h⟩
theorem zI{o:Wd}{G:a0z}{t:V9}(hh:A.handled=Y)(R:s.heap.get? a=U o)(B:o.cls= .type "set")(V:o.data= .set G ep t)(T:Tb t hs)(o7:t.fits G.size=O)(X:t.plain=O)(hl:t.led=!(w.params.followText "set-order"))
  (aa:G.size<=1000)
  (hQ:∀S o8 x,(∀b o,s.heap.get? b=U o->S.get? b=U o)->s.heap.objs.size<=S.objs.size->s.toks<=o8->x.Perm (G.toList.map (·.2))->Q x {s with heap:=S,toks:=o8}):U6 (Vq prog w) A (collect<|.ref a) Q E s:=by
 unfold collect;refine My<|wpAny_runValue<|codeAny_builtin F.entry_proto_collect ?_;rw[Zt F.plain_proto_collect _];show U6 _ A.in1 (newList []>>=λl=>again<|.builtin "list.__iadd__" ⟨[l,.ref a],[]⟩) _ _ s;refine My<|VE ?_;refine UF ⟨plainId_quiet F.plain_list_iadd _,codeAny_builtin F.entry_list_iadd ?_⟩;rw[Zt F.plain_list_iadd _];have ha:=Vm R;have g:(s.heap.push {cls:= .type "list",data:= .seq ([]:ό).toArray}).get? a=U o:=UH _ R;have C:(s.heap.push {cls:= .type "list",data:= .seq ([]:ό).toArray}).get? s.heap.objs.size=U {cls:= .type "list",data:= .seq ([]:ό).toArray}:=U7 _ Z;have r:s.heap.objs.size≠a:=XB ha;have y:Yz (.ref s.heap.objs.size) (.ref a)=UK:=by simp[Yz,r]
 have H:(⟨s.heap.push {cls:= .type "list",data:= .seq ([]:ό).toArray},s.gens,s.drawn,s.toks,s.os⟩:UW).TypeIs (.ref a) "set":=⟨o,g,B⟩;show U6 _ A.in1 (X8 (.ref s.heap.objs.size) (.ref a)<|.ref s.heap.objs.size) _ _ _;unfold X8;refine My<|ZI H ?_;rw[UU<|by rw[y];decide];refine My<|Mx g B V o7 X ?_;refine My<|Wf ?_;unfold Builtin.List.listLengthHint;have n:(⟨(s.heap.push {cls:= .type "list",data:= .seq ([]:ό).toArray}).push {cls:= .type "set_iterator",data:= .fields #[.int (0:Nat) 0,.int (0:Nat) 0,.ref a,.int G.size 0,.int ep 0]},s.gens,s.drawn,s.toks,s.os⟩:UW).TypeIs (.ref a) "set":=⟨o,UH _ g,B⟩;refine My (XD n F.slot_set_len.lookup ?_)
 (generalize u:("set.__len__":String)=id0;wp_delta;rw[show splitId id0=U ("set","__len__")from by subst u;decide +kernel];subst u)
 refine My<|W3 (b:=O) n (by rw[ZF];kernel_rfl) ?_;rw[UU rb];show U6 _ _ (if _ then _ else _) _ _ _;rw[US rb];refine My<|ZI n ?_;refine UF ?_;rw[US rb];refine My<|XV ?_;have f5:(s.heap.push {cls:= .type "list",data:= .seq ([]:ό).toArray}).objs.size=s.heap.objs.size+1:=by rw[size_push']
 generalize h:(s.heap.push {cls:= .type "list",data:= .seq ([]:ό).toArray}).push {cls:= .type "set_iterator",data:= .fields #[.int (0:Nat) 0,.int (0:Nat) 0,.ref a,.int G.size 0,.int ep 0]}=d;have gS:d.get? s.heap.objs.size=U (Xr "list" #[] 0):=by rw[<-h];exact UH _ C
 have gI:d.get? (s.heap.objs.size+1)=U {cls:= .type "set_iterator",data:= .fields #[.int (0:Nat) 0,.int (0:Nat) 0,.ref a,.int G.size 0,.int ep 0]}:=by rw[<-h,<-f5];exact U7 _ Z
 have ga:d.get? a=U o:=by rw[<-h];exact UH _ g
 have p:∀b f,s.heap.get? b=U f->d.get? b=U f:=λb f e=>by rw[<-h];exact UH _<|UH _ e
 unfold Builtin.List.listTouch;refine My<|My<|Ze gS Z ?_ (by show 0<=_;lia) (by show 1<=_;lia);obtain⟨e1,g1⟩:∃e1,(d.update s.heap.objs.size<|Wj λD=>D.push VH).get? s.heap.objs.size=U (Xr "list" #[VH] e1):=⟨_,get?_update_seq gS λD=>D.push VH⟩;refine Ze g1 Z ?_ (by show 1<=Ve;decide) (by show 0<=_;lia);obtain⟨J,g2⟩:∃J,((d.update s.heap.objs.size<|Wj λD=>D.push VH).update s.heap.objs.size<|Wj λD=>D.pop).get? s.heap.objs.size=U (Xr "list" #[] J):=⟨_,get?_update_seq g1 λD=>D.pop⟩;have c:∀b f,b≠s.heap.objs.size->d.get? b=U f->((d.update s.heap.objs.size<|Wj λD=>D.push VH).update s.heap.objs.size<|Wj λD=>D.pop).get? b=U f:=λb f q e=>by
  rw[W6 _ _ _ _ q,W6 _ _ _ _ q];exact e
 generalize (d.update s.heap.objs.size<|Wj λD=>D.push VH).update s.heap.objs.size (Wj λD=>D.pop)=h4 at g2 c;have L:s.heap.objs.size+1≠a:=XB<|X1 ha;have st:SIt w h4 (s.heap.objs.size+1) a G ep t 0:=⟨⟨o,c a o (Ne.symm r) ga,V⟩,_,0,c _ _ ln gI,Z,Z,λ_=>by
  have:=lA (j:=0) T.rs;rcases Nat.eq_zero_or_pos (below t.place 0)with z|z
  .exact z
  .have e:=getElem?_pos t.place 0 ln
   have:=this.2.1 0 _ z e;lia⟩
 have W:=Li (prog:=prog) (w:=w) (A:=A.in1) (I:=s.heap.objs.size+1) (a:=a) (ep:=ep) hh T o7 X hl L;show U6 _ _ (again _) _ _ _;rw[f5];refine UF ⟨plainId_quiet F.plain_extend_loop _,codeAny_extend_loopS W.toS (by rw[WN];lia) s.heap.objs.size (by simp;lia) _ G.size 0 _ #[] J Z (VL _) st g2 (ItemsOf.nil _) λK k c' M v m=>?_⟩;show U6 _ A (load s.heap.objs.size>>=_) _ _ K;refine My<|wpAny_load v ?_;refine UF ?_;have N:K={s with heap:=K.heap,toks:=K.toks}:=by
  have y:=M.gens;have d:=M.drawn;have h3:=M.os;obtain⟨a1,a2,a3,a4,a5⟩:=K;simp only at y d h3;subst y d h3;rfl
 rw[N];refine hQ _ _ _ (λb f e=>?_) (Yj<|Vm v) M.toks ?_
 .have q:=Vm e
  exact M.heap b f (by simp only[U4,Wr,Y3,not_or];exact⟨VJ q,VJ<|X1 q⟩)<|c b f (VJ q)<|p b f e
 .refine List.Perm.trans (List.Perm.of_eq ?_) ((nW w a ep G).map (·.2))
  have o9:(fE w a ep G).size=G.size:=by rw[<-Vp,(nW w a ep G).length_eq,Vp]
  refine WZ (by rw[Vp,UD,Vp,o9,m.1]) λi q1 q2=>?_;have P:i<k.size:=by simpa using q1
  obtain⟨e,he,hv⟩:=m.2 i _<|getElem?_pos k i P;rw[XQ,hv,XE,XQ];have:=VZ.mp he;obtain⟨z1,z2⟩:=this;rw[z2]
end
end L2.Hs
namespace L2.Hs
open PySem.W
section
variable{d β:Type}{lt:Nat->Nat->Bool}{n:Nat}
def Rn(lt:Nat->Nat->Bool)(n:Nat):KasT d->(d->Prop)->Prop
 | .ret a,Φ=>Φ a
 | .ask i j k,Φ=>i<n/\j<n/\Rn lt n (k<|lt i j) Φ
theorem Rn.bind:∀{t:KasT d},Rn lt n t (λa=>Rn lt n (f a) Φ)->Rn lt n (t.bind f) Φ
 | .ret a,h=>h
 | .ask i j k,⟨h1,h2,h3⟩=>⟨h1,h2,Rn.bind h3⟩
theorem Rn.mono(b:∀a,Φ a->Ψ a):∀{t:KasT d},Rn lt n t Φ->Rn lt n t Ψ
 | .ret a,h=>b a h
 | .ask i j k,⟨h1,h2,h3⟩=>⟨h1,h2,Rn.mono b h3⟩
theorem Rn.wp(b:∀i j,i<n->j<n->∀C:Bool->UW->Prop,C (lt i j) s->cmp i j C s)(c:∀a,Φ a->Q a s):∀{t:KasT d},Rn lt n t Φ->t.kasWp cmp Q s
 | .ret a,h=>c a h
 | .ask i j k,⟨h1,h2,h3⟩=>b i j h1 h2 _<|Rn.wp b c h3
end
section
variable{B:ϲ}{n:Nat}
noncomputable abbrev u3(B:ϲ)(i j:Nat):Bool:=decide (B i<B j)
noncomputable abbrev ky(B:ϲ)(p:a0A)(i:Nat):Nat:=B<|p.getD i 0
structure Pm (B:ϲ) (n:Nat) (p:a0A):Prop where
 perm:p.toList.Perm (UT n)
 inj:∀i j,i<n->j<n->B i=B j->i=j
theorem Pm.sz(h:Pm B n p):p.size=n:=by have:=h.perm.length_eq;simp_all
theorem Pm.lt(h:Pm B n p)(a:i<n):p.getD i 0<n:=by
 have D:=h.sz;have e:p.getD i 0=p[i]:=by simp[show i<p.size by omega]
 rw[e];exact Vg.mp (h.perm.mem_iff.mp rc)
theorem Pm.ne(h:Pm B n p)(a:i<j)(b:j<n):ky B p i≠ky B p j:=λz=>by
 have E:=h.sz;have:=h.inj _ _ (h.lt (show i<n by lia)) (h.lt b) z;have c:p.getD i 0=p.toList[i]'(by simp;grind):=by simp[show i<p.size by lia]
 have d:p.getD j 0=p.toList[j]'(by simp;lia):=by simp[show j<p.size by lia]
 rw[c,d]at this;exact Vl this<|Xb.mp (h.perm.nodup_iff.mpr List.nodup_range) i j (by simp;lia) (by simp;lia) a
theorem Pm.of(h:Pm B n p)(a:q.Perm p):Pm B n q:=⟨(Array.perm_iff_toList_perm.mp a).trans h.perm,h.inj⟩
def So(B:ϲ)(p:a0A)(k:Nat):Prop:=∀i j,i<j->j<k->ky B p i<ky B p j
def De(B:ϲ)(p:a0A)(k:Nat):Prop:=∀i j,i<j->j<k->ky B p j<ky B p i
theorem So.succ(h:So B p k)(c:1<=k)(b:ky B p (k-1)<ky B p k):So B p (k+1):=λi j a d=>by
 by_cases q:j=k
 .subst q
  by_cases z:i=j-1
  .subst z;exact b
  .exact Z0 (h i _ ln<|by omega) b
 .exact h i j a ln
theorem De.succ(h:De B p k)(c:1<=k)(b:ky B p k<ky B p (k-1)):De B p (k+1):=λi j a d=>by
 by_cases q:j=k
 .subst q
  by_cases z:i=j-1
  .subst z;exact b
  .exact Z0 b (h i _ ln<|by omega)
 .exact h i j a ln
theorem zA(P:Pm B n p):∀(f k:Nat),1<=k->k+f<=n->So B p k->Rn (u3 B) n (kas_asc p f k) λm=>k<=m/\m<=k+f/\So B p m/\(m=k+f\/ky B p m<ky B p (m-1))
 |0,k,_,_,h=>⟨UV k,UV _,h,.inl Z⟩
 |f+1,k,h1,h2,h=>by
  refine⟨P.lt ln,P.lt ln,?_⟩;by_cases q:ky B p k<ky B p (k-1)
  .rw[show u3 B _ _=O from U3 q];dsimp only;rw[US Z]
   exact⟨UV k,ln,h,.inr q⟩
  .rw[show u3 B _ _=UK from Vv q];dsimp only;rw[UU UX]
   have:=P.ne (show k-1<k by omega) (show k<n by lia);exact Rn.mono (λm D=>⟨by omega,by omega,D.2.2.1,by obtain z|z:=D.2.2.2;exact .inl ln;exact .inr z⟩) (zA P f _ ln ln<|h.succ h1<|by omega)
theorem BU(P:Pm B n p):∀(f k:Nat),1<=k->k+f<=n->De B p k->Rn (u3 B) n (kas_desc f p k 0) λr=>r.1=p/\r.2.2=0/\k<=r.2.1/\r.2.1<=k+f/\De B p r.2.1
 |0,k,_,_,h=>⟨Z,Z,UV k,UV _,h⟩
 |f+1,k,h1,h2,h=>by
  refine⟨P.lt ln,P.lt ln,?_⟩;by_cases q:ky B p k<ky B p (k-1)
  .rw[show u3 B _ _=O from U3 q];dsimp only;rw[US Z,UU<|V4 0]
   exact Rn.mono (λm D=>⟨D.1,D.2.1,ln,ln,D.2.2.2.2⟩)<|BU P f _ ln ln<|h.succ h1 q
  .rw[show u3 B _ _=UK from Vv q];dsimp only;rw[UU UX]
   have:=P.ne (show k-1<k by omega) (show k<n by lia);refine⟨P.lt ln,P.lt ln,?_⟩;rw[show u3 B _ _=O from U3 (show ky B p _<ky B p k by omega)];dsimp only;exact⟨Z,Z,UV k,ln,h⟩
theorem BM{p q:a0A}(h:p[i]?=q[j]?):p.getD i 0=q.getD j 0:=by
 simp_all
theorem QB(a:k<=p.size)(h:De B p k):So B (kas_rev p 0 k) k:=λi j b c=>by
 have g:∀x,x<k->(kas_rev p 0 k).getD x 0=p.getD (k-1-x) 0:=λx n=>by
  apply BM;unfold kas_rev;rw[getElem?_mirror_all a,US ln];lia
 show B _<B _;rw[g i ln,g j c];exact h _ _ (by grind) (by grind)
theorem Lq(P:Pm B n p)(b:1<=k)(c:k<=n)(h:De B p k):Rn (u3 B) n (kas_tail3 k n p) λr=>Pm B n r.2/\1<=r.1/\r.1<=n/\So B r.2 r.1:=by
 have a:Pm B n (kas_rev p 0 k):=P.of<|mirror_perm _ _ _ _;exact Rn.bind<|Rn.mono (λm D=>⟨a,by omega,by omega,D.2.2.1⟩)<|zA a _ k b ln<|QB (by rw[P.sz];exact c) h
theorem MR(P:Pm B n p)(e:1<=n):Rn (u3 B) n (kas_count n p) λr=>Pm B n r.2/\1<=r.1/\r.1<=n/\So B r.2 r.1:=by
 unfold kas_count;refine Rn.bind (Rn.mono (λm G=>?_)<|zA P _ 1 (UV 1) ln λi j a b=>by omega);obtain⟨S,V,D,K⟩:=G;by_cases q:m=n
 .rw[US<|by rw[Yc];exact q]
  exact⟨P,by omega,ln,D⟩
 .rw[UU<|by rw[Yc];exact q]
  have M:ky B p m<ky B p (m-1):=by
   simp_all
  by_cases E:m>1
  .rw[US E]
   refine⟨P.lt ln,P.lt ln,?_⟩;rw[show u3 B _ _=O from U3 (D 0 _ ln ln)];dsimp only;exact⟨P,by omega,ln,D⟩
  .rw[UU E]
   obtain rfl:m=1:=by lia
   unfold kas_descPart;refine Rn.bind<|Rn.mono (λr c=>?_) (BU P _ _ ln ln λi j a b=>by
    obtain rfl:j=1:=by lia
    obtain rfl:i=0:=by lia
    exact M)
   obtain⟨rfl,f,b3,g,d⟩:=c;rw[UU ln];exact Lq P ln ln d
theorem kW(P:Pm B n p)(a:k<n):∀(f l r:Nat),l<=r->r<=k->r-l<=f->(∀i,i<l->ky B p i<ky B p k)->(∀i,r<=i->i<k->ky B p k<ky B p i)->So B p k->
  Rn (u3 B) n (kas_place p k f l r) λm=>m<=k/\(∀i,i<m->ky B p i<ky B p k)/\∀i,m<=i->i<k->ky B p k<ky B p i
 |0,l,r,h1,h2,h3,ha,hb,_=>by
  obtain rfl:l=r:=by grind
  exact⟨h2,ha,hb⟩
 |f+1,l,r,h1,h2,h3,ha,hb,so=>by
  unfold kas_place;by_cases q:l≥r
  .rw[US q]
   obtain rfl:l=r:=by lia
   exact⟨h2,ha,hb⟩
  .rw[UU q]
   refine⟨P.lt (by omega),P.lt ln,?_⟩;by_cases z:ky B p k<ky B p ((l+r)/2)
   .rw[show u3 B _ _=O from U3 z];dsimp only;rw[US Z]
    refine kW P a f l _ ln ln (by omega) ha (λi c b=>?_) so;by_cases w:i=(l+r)/2
    .subst w;exact z
    .exact Z0 z (so _ i ln b)
   .rw[show u3 B _ _=UK from Vv z];dsimp only;rw[UU UX]
    have d:=P.ne (show(l+r)/2<k by lia) a;refine kW P a f _ r ln h2 (by grind) (λi c=>?_) hb so;by_cases w:i=(l+r)/2
    .subst w;lia
    .exact Z0 (so i ((l+r)/2) ln ln) ln
theorem K5:∀(f:Nat) {p:a0A} {k:Nat},Pm B n p->k+f=n->So B p k->Rn (u3 B) n (kas_bin f p k) λE=>Pm B n E/\So B E n:=Nat.rec (@λp k P hk so=>⟨P,by rw[<-hk];exact so⟩) λf w=>@λp k P hk so=>by
  unfold kas_bin;refine Rn.bind<|Rn.mono (λm G=>?_)<|kW P ln k 0 k (VL _) (UV _) ln (λi h=>Vl h<|Xq i) (λi l c=>by grind) so;obtain⟨l,c,o⟩:=G;refine w (P.of<|bubble_perm _ _ _) (by grind) λi j a t=>?_;have K:k<p.size:=by rw[P.sz];lia
  have g:∀x:Nat,(bubble p k<|k-m).getD x 0=p.getD (if x=m then k else if m<x/\x<=k then x-1 else x) 0:=λx=>by
   apply BM;rw[getElem?_bubble K _<|by grind];by_cases q:x=m
   .rw[US ln,US q]
   .rw[UU (by grind),UU q]
    by_cases D:m<x/\x<=k
    .rw[US ln,US D]
    .rw[UU ln,UU D]
  show B _<B _;rw[g i,g j];by_cases E:i=m
  .rw[US E,UU ln,US ln]
   exact o _ ln ln
  .rw[UU E]
   by_cases D:j=m
   .rw[US D,UU ln]
    exact c i ln
   .rw[UU D]
    by_cases d:m<i/\i<=k
    .rw[US d,US ln]
     exact so _ _ ln ln
    .rw[UU d]
     by_cases e:m<j/\j<=k
     .rw[US e]
      exact so i _ ln ln
     .rw[UU e]
      exact so i j a ln
theorem Op(a:1<=n)(D:∀i j,i<n->j<n->B i=B j->i=j):Rn (u3 B) n (kas_sort n) λp=>Pm B n p/\So B p n:=by
 unfold kas_sort;refine Rn.bind<|Rn.mono (λr b=>?_)<|MR (⟨.refl _,D⟩) a;obtain⟨E,K,M,G⟩:=b;by_cases q:r.1<n
 .rw[US q,Nat.max_eq_left K]
  exact K5 _ E (by grind) G
 .rw[UU q]
  obtain rfl:r.1=n:=by lia
  exact⟨E,G⟩
noncomputable def cu:ώ->ώ->Bool
 |[],[]=>UK
 |[],_::_=>O
 |_::_,[]=>UK
 |a::as,b::bs=>if a=b then cu as bs else decide (a<b)
theorem i5:∀x,cu x x=UK:=List.rec Z λa as h=>by unfold cu;simp_all
theorem ub:∀{x y z},cu x y=O->cu y z=O->cu x z=O
 |[],[],_,h,_=>by cases h
 |[],_::_,[],_,h=>by cases h
 |[],_::_,_::_,_,_=>rfl
 |_::_,[],_,h,_=>by cases h
 |_::_,_::_,[],_,h=>by cases h
 |a::as,b::bs,c::cs,h1,h2=>by
  unfold cu at h1 h2⊢;by_cases B:a=b
  .rw[US B]at h1
   by_cases n:b=c
   .rw[US n]at h2
    rw[US<|B.trans n];exact ub h1 h2
   .rw[UU n]at h2
    simp_all
  .rw[UU B]at h1
   have d:=WP h1;by_cases n:b=c
   .rw[UU (by rw[<-n];exact B),<-n];exact h1
   .rw[UU n]at h2
    have e:=WP h2;rw[UU ln];exact U3 ln
theorem qD:∀{x y},cu x y=UK->cu y x=UK->x=y
 |[],[],_,_=>rfl
 |[],_::_,h,_=>by cases h
 |_::_,[],_,h=>by cases h
 |a::as,b::bs,h1,h2=>by
  unfold cu at h1 h2;by_cases q:a=b
  .rw[US q]at h1
   rw[US q.symm]at h2;rw[q,qD h1 h2]
  .rw[UU q]at h1
   rw[UU<|Ne.symm q]at h2;have:=of_decide_eq_false h1;have:=of_decide_eq_false h2;lia
theorem zn:∀{L:ϊ},(∀l∈L,p l=O->q l=O)->∀{i},i∈L->p i=UK->q i=O->L.countP p<L.countP q:=@List.rec _ _ (@λ_ i h _ _=>by cases h) (λa L w=>@λhpq i hi h1 h2=>by
  have n:=List.countP_mono_left λl b=>hpq l<|UI a b;obtain rfl|hi:=U4.mp hi
  .rw[List.countP_cons_of_neg (by rw[h1];exact UX),List.countP_cons_of_pos h2]
   lia
  .have ih:=w (λl b=>hpq l<|UI a b) hi h1 h2
   rw[List.countP_cons,List.countP_cons];have:(if p a=O then 1 else 0)<=(if q a=O then 1 else 0):=by
    by_cases z:p a=O
    .rw[US z,US<|hpq a UP z];exact UV 1
    .rw[UU z];exact VL _
   lia)
def jO(ks:LI)(i:Nat):Nat:=(UT ks.length).countP λj=>cu (ks.getD j [])<|ks.getD i []
theorem wY{n}(a:i<ϱ n)(h:cu (n.getD i []) (n.getD j [])=O):jO n i<jO n j:=
 zn (λl _ b=>ub b h) (Vg.mpr a) (i5 _) h
theorem IC(b:i<ϱ ks)(c:j<ϱ ks):decide (jO ks i<jO ks j)=cu (ks.getD i []) (ks.getD j []):=by
 cases h:cu _ (ks.getD j [])with
 |true=>exact U3<|wY b h
 |false=>
  refine Vv λz=>?_;cases a:cu _ (ks.getD i [])with
  |true=>have:=wY c a;lia
  |false=>
   unfold jO at z;rw[qD h a]at z;exact V4 _ z
theorem Qz(n:ks.Nodup)(a:i<ϱ ks)(b:j<ϱ ks)(h:jO ks i=jO ks j):i=j:=by
 have e:ks.getD i []=ks.getD j []:=by
  apply qD
  .cases z:cu _ (ks.getD j [])with
   |false=>rfl
   |true=>have:=wY a z;lia
  .cases z:cu _ (ks.getD i [])with
   |false=>rfl
   |true=>have:=wY b z;lia
 rw[UO,UO,UJ a,UJ b]at e;have c:=e;obtain z|z|z:=X2 i j
 .exact Vl c (Xb.mp n i j a b z)
 .exact z
 .exact Vl c.symm (Xb.mp n j i b a z)
abbrev Up(l:LI):Prop:=l.Pairwise λa b=>cu a b=O
theorem qq:∀{l m:LI},Up l->Up m->(∀x,x∈l↔x∈m)->l=m
 |[],[],_,_,_=>rfl
 |[],b::m,_,_,h=>by have:=(h b).mpr UP;cases this
 |a::l,[],_,_,h=>by have:=(h a).mp UP;cases this
 |a::l,b::m,h1,h2,h=>by
  obtain⟨c,d⟩:=Y6.mp h1;obtain⟨B,D⟩:=Y6.mp h2;have e:a=b:=by
   obtain z|z:=U4.mp ((h a).mp UP)
   .exact z
   .obtain w|w:=U4.mp ((h b).mpr UP)
    .exact w.symm
    .have:=ub (B a z)<|c b w
     rw[i5]at this;cases this
  subst e;congr 1;refine qq d D λx=>⟨λn=>?_,λn=>?_⟩
  .obtain rfl|z:=U4.mp ((h x).mp<|UI a n)
   .have:=c x n;rw[i5]at this;cases this
   .exact z
  .obtain rfl|z:=U4.mp ((h x).mpr<|UI a n)
   .have:=B x n;rw[i5]at this;cases this
   .exact z
variable{aa:Vw}{w:VC}{A:V3}{E:ϕ}{s:UW}
theorem BA{b:Bool}:∀{G E:ώ} {B D:ό} (i:Nat),ItemsAre (intKind aa w) G B->ItemsAre (intKind aa w) E D->∀n m:Nat,(decide (n+ϱ B<m+ϱ D)=decide (ϱ G<ϱ E))->Q (cu G E) s->KatLex aa w A O (decide (n+ϱ B<m+ϱ D)) Q (B.zip D) i s
 |[],E,B,D,i,hx,hy,n,m,e,q=>by
  cases hx;cases hy with
  |nil=>rw[List.zip_nil_left];exact kat_nil (by rw[e];exact q)
  |cons c d=>rw[List.zip_nil_left];exact kat_nil (by rw[e];exact q)
 |x::G,E,B,D,i,hx,hy,n,m,e,q=>by
  cases hx with
  |@cons _ u _ us' c d=>
   cases hy with
   |nil=>rw[List.zip_nil_right];exact kat_nil (by rw[e];exact q)
   |@cons y v _ vs' h3 h4=>
    obtain⟨g,rfl⟩:=PySem.Value.isInt_shape c;obtain⟨h,rfl⟩:=PySem.Value.isInt_shape h3;refine kat_cons<|wpAny_eqBool_int ?_;unfold cu at q;by_cases z:x=y
    .rw[US z]at q
     rw[show(x==y)=O by rw[Yc];exact z];have f:∀k l:Nat,decide (k+(ϱ us'+1)<l+(ϱ vs'+1))=decide (k+1+ϱ us'<l+1+ϱ vs'):=λk l=>decide_eq_decide.mpr ln;rw[U5,U5,f];refine BA (b:=b) _ d h4 _ _ ?_ q;simp_all
    .rw[UU z]at q
     rw[show(x==y)=UK by rw[beq_eq_false_iff_ne];exact z];apply kat_no;cases j:(O&&i==0)with
     |true=>exact oneLt_int q
     |false=>exact kat_one _ _<|lt_int (show PySem.W.BoolBack Q _ s from q)
theorem JK(n:(iD aa w).is s.heap q x)(B:(iD aa w).is s.heap r y)(h:Q (cu q r) s):U6 (Vq aa w) A (keyLt' (tuples' O) (.ref x)<|.ref y) Q E s:=by
 obtain⟨k,l,m,d,i,e,a⟩:=n;obtain⟨o2,o,p,f,j,g,c⟩:=B;apply kat_lt d e f g;have:=BA (A:=A) (b:=O) 0 a c 0 0 (by rw[WM,WM,a.length,c.length]) h;simp_all
structure Srb (aa:Vw) (w:VC) (A:V3) (is:V0->ώ->UM->Prop):Prop where
 fr:∀{h h':V0} {k:ώ} {x:UM},is h k x->(∀b o,o.cls= .type lP->h.get? b=U o->h'.get? b=U o)->is h' k x
 tup:∀{h:V0} {k:ώ} {x:UM},is h k x->∃o its n i t,h.get? x=U o/\o.cls= .type lP/\o.data= .seq its n/\its[0]?=U (.int i t)
 lt:∀{E:ϕ} {s:UW} {Q:Bool->UW->Prop} {x y:UM} {xs ys:ώ},is s.heap xs x->is s.heap ys y->Q (cu xs ys) s->U6 (Vq aa w) A (keyLt' (tuples' O) (.ref x)<|.ref y) Q E s
theorem zQ(S:Srb aa w A is):∀{ks:ϡ},(∀k∈ks,is s.heap k.1 k.2)->∃B:ό,KatTups s.heap (ks.map λk=>Vh k.2) B/\ϱ B=ϱ ks/\∀v∈B,∃n t,v=YJ n t
 |[],_=>⟨[],trivial,Z,λv hv=>by cases hv⟩
 |k::ks,h=>by
  obtain⟨B,a,b,c⟩:=zQ S λd f=>h d<|UI k f;obtain⟨o,D,n,i,t,g,j,E,e⟩:=S.tup<|h k UP;refine⟨_::B,KatTups.cons g j E e a,by rw[U5,U5,b],λv hv=>?_⟩;obtain rfl|hv:=U4.mp hv
  .exact⟨i,t,Z⟩
  .exact c v hv
abbrev isI(aa:Vw)(w:VC)(h:V0)(k:ώ)(x:UM):Prop:=(iD aa w).is h k x/\1<=k.length
theorem DG:Srb aa w A (isI aa w) where
 fr:=λy k=>by obtain⟨⟨o,s,n,d,b,f,c⟩,l⟩:=y;exact ⟨⟨o,s,n,k _ _ b d,b,f,c⟩,l⟩
 tup:=λz=>by
  obtain⟨⟨o,s,n,d,b,f,c⟩,l⟩:=z
  have g:0<s.size:=by rw[<-Vp,<-c.length];lia
  obtain⟨i,t,e⟩:=items_int c s[0] (by exact VU _);exact⟨o,s,n,i,t,d,b,f,by rw[getElem?_pos s 0 g,e]⟩
 lt:=λB D h=>JK B.1 D.1 h
theorem vM(S:Srb aa w A is){ks:ϡ}{n}(L:s.heap.get? a=U (Xr "list" (ks.map λk=>Vh k.2).toArray n))(hk:∀k∈ks,is s.heap k.1 k.2)(nd:(ks.map (·.1)).Nodup)(ae:ϱ ks<64)
  (h:∀(V:V0) (l:ϡ) (n':Nat),l.Perm ks->Up (l.map (·.1))->V.get? a=U (Xr "list" (l.map λk=>Vh k.2).toArray n')->(∀b o,b≠a->s.heap.get? b=U o->V.get? b=U o)->P (.done<|.ret .none) {s with heap:=V}):
  U6 (Vq aa w) A (Builtin.«list.sort» ⟨[.ref a],[]⟩) P E s:=by
 have ha:=Vm L;rw[list_sort_plain];refine My<|listItems_at L Z<|My (Ze L Z ?_ (by simp[WN];lia) rc);obtain⟨B,N⟩:∃B,(s.heap.update a<|Wj λ_=>#[]).get? a=U _:=⟨_,get?_update_seq L _⟩;refine My<|seqEpoch_at N Z<|My (wpAny_newTuple (My<|wpAny_newList (Wf ?_)<|VL _)<|by simp[WN];lia);generalize m:(ks.map λk=>Vh _)=vs at*;have q:ϱ vs=ϱ ks:=by rw[<-m,UD]
 have d:(((s.heap.update a<|Wj λ_=>#[]).push<|Xr "tuple" vs.toArray 0).push<|Xr "list" #[] 0).get? a=U (Xr "list" #[] B):=by
  rw[Heap.get?_push_ne _ _ _ (by rw[size_push',Heap.size_update];exact VJ<|X1 ha),Heap.get?_push_ne _ _ _<|by rw[Heap.size_update];exact VJ ha];exact N
 have D:∀b o,b≠a->s.heap.get? b=U o->(((s.heap.update a<|Wj λ_=>#[]).push<|Xr "tuple" vs.toArray 0).push<|Xr "list" #[] 0).get? b=U o:=λb o F e=>by
  refine UH _<|UH _ ?_;rw[W6 _ _ _ _ F];exact e
 show U6 _ A _ P E {s with heap:=((s.heap.update a<|Wj λ_=>#[]).push<|Xr "tuple" vs.toArray 0).push _};generalize ae:((s.heap.update a<|Wj λ_=>#[]).push<|Xr "tuple" vs.toArray 0).push _=h6 at d D
 dsimp only
 have o9:∀(l:ϡ) (u:ϫ),l.Perm ks->Up _->u=(l.map λk=>Vh _).toArray->P _ {s with heap:=h6.update a _}:=λl u p1 p2 e=>by
  refine h _ l _ p1 p2 (by rw[<-e];exact get?_update_seq d λ_=>u) λb o F W=>?_;rw[W6 _ _ _ _ F];exact D b o F W
 by_cases I:vs.toArray.size<2
 .rw[US I,US I]
  refine My<|UF ?_;refine My<|UF ?_
  dsimp only
  refine My<|seqEpoch_at d Z ?_;have X:((arrOf<|SortSt.mk' general' (vs.toArray.zip vs.toArray) #[] 7 Y).map (·.2))=vs.toArray:=by
   show(vs.toArray.zip _).map _=_;apply Array.toList_inj.mp;rw[Array.toList_map,Array.toList_zip];exact List.map_snd_zip<|UV _
  rw[X];refine My (Ze d Z ?_ rc<|by simp[WN];lia);rw[Yt];refine UF (o9 ks _ (.refl _) ?_<|by rw[m]);have o8:ϱ ks<2:=by rw[<-q];exact I
  match ks,o8 with
  |[],_=>exact List.Pairwise.nil
  |[k],_=>exact X7 _ _
  |_::_::_,o8=>simp at o8;lia
 .rw[UU I,UU I]
  have ak:2<=ϱ ks:=by rw[<-q];simp at I;omega
  have H:=λk f5=>S.fr (hk k f5) λb o hc F=>D b o (λz=>by
   subst z;rw[L]at F;cases F;exact Vl (X3.inj hc) rb) F
  obtain⟨fs,t1,t2,t3⟩:=zQ S (s:={s with heap:=h6}) H;rw[m]at t1;refine My<|kat_kind (T:= .type "int") t1 ln (λv hv=>?_) Z ?_
  .obtain⟨x,t,rfl⟩:=t3 v hv
   exact Looks.of_pure Z
  show U6 _ _ _ _ _ _;have J:ϱ (ks.map (·.1))=ϱ vs:=by rw[UD,q]
  have K:∀i,i<ϱ vs->∃k∈ks,vs.getD i VH= .ref _/\(ks.map _).getD i []=k.1/\ks[i]?=U k:=λi c=>by
   have f:i<ϱ ks:=by lia
   refine⟨ks[i],VU f,?_,?_,UJ f⟩
   .rw[<-m,UO,UN,UJ f];rfl
   .rw[UO,UN,UJ f];rfl
  refine My<|V8 (kat_run (Q:=λg M=>M={s with heap:=h6}/\failedOf g=Y/\∃p:a0A,Pm _ _ p/\So _ p _/\arrOf g=p.map _)
   (G:=λp M=>M={s with heap:=h6}/\Pm _ _ p/\So _ p _) Z ln ln (λp g M a1 a2 a3 a4=>⟨a4.1,a3,p,a4.2.1,a4.2.2,a2⟩)
   (Rn.wp (λi j c y C hC=>?_) (λp hp=>⟨Z,hp⟩)<|Op ln λi j c y hr=>Qz nd (by rw[J];exact c) (by rw[J];exact y) hr)) (λr M hr=>?_) λ_ _ e=>e
  .obtain⟨k1,m1,B,f1,_⟩:=K i c
   obtain⟨k2,m2,e2,f2,_⟩:=K j y;unfold kas_ask;rw[B,e2];apply S.lt (H k1 m1) (H k2 m2);have:=IC (by rw[J];exact c) (by rw[J];exact y);rw[f1,f2]at this;rw[<-this];exact hC
  .obtain⟨⟨⟩,g⟩:=r
   obtain⟨rfl,hf,p,P1,so,ab⟩:=hr
   have R:=P1.sz;rw[kat_snds Z ab];refine My<|seqEpoch_at d Z<|My (Ze d Z ?_ rc<|by simp[WN];lia);rw[hf];rw[Yt];have o7:∀i∈p.toList,i<ϱ vs:=λi c=>Vg.mp<|P1.perm.mem_iff.mp c;refine UF<|o9 (p.toList.map λi=>ks.getD i ([],0)) _ ?_ ?_ ?_
   .refine(P1.perm.map _).trans (List.Perm.of_eq ?_)
    rw[q];refine WZ rc λi q1 q2=>?_;rw[XE,Yg,UO,UJ q2];rfl
   .rw[UR]
    unfold Up;rw[Xo];refine Xb.mpr λi j c y ac=>?_;have f:i<ϱ vs:=by simpa[R]using c
    have ad:j<ϱ vs:=by simpa[R]using y
    have gd:∀x _,p.getD x 0=p.toList[x]:=λx hx=>by
     have:x<p.size:=by exact hx
     simp[this]
    have z:=so i j ac ad;unfold ky at z;rw[gd i c,gd j y]at z;obtain⟨k1,m1,B,f1,g1⟩:=K _<|o7 _<|VU c;obtain⟨k2,m2,e2,f2,g2⟩:=K _<|o7 _<|VU y;have:=IC (by rw[J];exact o7 _<|VU c) (by rw[J];exact o7 _<|VU y);rw[U3 z,f1,f2]at this;simp only[Z2];rw[UO,UO,g1,g2];exact this.symm
   .rw[UR]
    congr 1;refine Vr λi c=>?_;obtain⟨k1,m1,B,f1,g1⟩:=K i<|o7 i c;rw[B];rw[Z2];rw[UO,g1];rfl
theorem LW{w A}{f:w->A}{B g}(p:B.Perm g):∀{n:List w},g=n.map f->∃s:List w,s.Perm n/\B=s.map f:=by
 induction p with
 |nil=>
  simp
 |cons x _ D=>
  intro n e;cases n with
  |nil=>cases e
  |cons a n=>
   cases e;obtain⟨s,c,d⟩:=D Z;exact⟨a::s,c.cons a,by rw[d];rfl⟩
 |swap x y l=>
  intro n e
  match n,e with
  |[],e=>cases e
  |[_],e=>cases e
  |a::b::n,e=>
   cases e;exact⟨b::a::n,.swap _ _ _,Z⟩
 |trans _ _ ih1 ih2=>
  intro n e;obtain⟨s,c,d⟩:=ih2 e;obtain⟨h,i,j⟩:=ih1 d;exact⟨h,i.trans c,j⟩
theorem DH{n}(H:A.handled=Y)(S:vD aa w s.heap a n)(I:∀x∈n,1<=ϱ x.1)(J:ϱ n<64)
  (h:∀(l:UM) (D:V0) (f v:Nat) (g:ϡ),g.Perm n->Up (g.map (·.1))->D.get? l=U (Xr lQ (g.map λk=>Vh k.2).toArray v)->s.heap.objs.size<=l->(∀b o,s.heap.get? b=U o->D.get? b=U o)->s.toks<=f->Q (.ref l) {s with heap:=D,toks:=f}):
  U6 (Vq aa w) A (call (.builtin AB) [.ref a]) Q E s:=by
 obtain⟨o,V,ep,t,L,y,f5,i,B,hx,T,N,j⟩:=S;have C:V.size=ϱ n:=by rw[<-Vp,i,UD]
 apply Calls.call_function_entry kind_sorted plain_sorted entry_sorted (args_sorted1 _);refine My<|UF ?_;refine My<|zI H L y.1 f5 T (T.fits (by rw[UD,C])) N j ln λp f vs G q M pv=>?_;rw[i,UR]at pv;obtain⟨K,r,rfl⟩:=LW pv Z;have P:=r.length_eq;refine My (wpAny_newList ?_<|by rw[UD,WN];lia);have c:∀b d,s.heap.get? b=U d->(p.push<|Xr lQ (K.map λk=>Vh k.2).toArray 0).get? b=U d:=λb d e=>UH _<|G b d e;have u:(p.push<|Xr lQ (K.map λk=>Vh k.2).toArray 0).get? _=U _:=U7 _ Z;refine My<|Wf<|VD slot_list_sort ⟨_,u,Z⟩ entry_list_sort (vM DG u (λk F=>⟨?_,I k<|r.mem_iff.mp F⟩) ((r.map _).nodup_iff.mpr B) ln λD g v q1 q2 q3 q4=>⟨_,Z,?_⟩)<|args_list_sort _
 .obtain⟨R,its,m,o7,W,X,o8⟩:=hx k<|r.mem_iff.mp F
  exact⟨R,its,m,c _ _ o7,W,X,o8⟩
 .refine UF ⟨_,Z,h _ D f v g (q1.trans r) q2 q3 q (λb d e=>q4 b d (λz=>?_)<|c b d e) M⟩
  have:=Vm e;exact Vl (z▸this)<|Nat.not_lt.mpr q
end
end L2.Hs
namespace L2.Hs
section
variable{g:Vw}{w:VC}
def vF(g:Vw)(w:VC)(a:UM)(D:ϡ)(h:V0):Prop:=
 ∃o E G t,h.get? a=U o/\o.ExactSet/\o.data= .set E G t/\(E.toList=D.map λx=>(hsh g w x.1,Vh x.2))/\(D.map (·.1)).Nodup/\(Tb t<|D.map λx=>hsh g w x.1)/\t.plain=O/\t.led=!(w.params.followText HY)
noncomputable def qg(g:Vw)(w:VC)(a:UM)(D:ϡ):HO:= .ext<|vF g w a D
theorem vF.to(S:vF g w a xs h)(D:∀x∈xs,(iD g w).is h x.1 x.2):vD g w h a xs:=by
 obtain⟨o,E,G,t,b,c,d,e,h5,f⟩:=S;exact⟨o,E,G,t,b,c,d,e,h5,D,f⟩
theorem zZ(S:vF g w a d h):cm g w H h a (qg g w a d):=by
 refine⟨S,?_,λb c z k=>?_⟩
 .obtain⟨o,_,_,_,e,_⟩:=S
  exact⟨o,e⟩
 .obtain⟨o,es,ep,t,e,r⟩:=z
  exact⟨o,es,ep,t,k _ e,r⟩
theorem Mz{k:ώ}:∀{D:ό},aG (k.map V.int) D->ItemsAre (intKind g w) k D:=by
 induction k with
 |nil=>intro D h;cases h;exact .nil
 |cons i k E=>
  intro D h;cases h with
  |cons a b=>
   obtain⟨t,rfl⟩:=a;exact .cons (by simp[intKind,Value.isInt])<|E b
variable{X:Cx}
theorem qJ(I:b5 X aj d H s)(h:hW X.K H b<|k.map V.int):(iD X.prog X.w).is s.heap k b:=by
 obtain⟨g,a,⟨o,e,c,n,D⟩,_⟩:=I.tuple h;exact⟨o,g.toArray,n,e,c,D,Mz a⟩
theorem tb0:Tb (.fresh 0 0 b) []:=⟨.inl Z,Z,λi j a b h=>by simp[SetTable.fresh]at*,λi j h=>by simp[SetTable.fresh]at h,Z,by show 0*5<7*3;decide,λi h j c=>by simp at c⟩
theorem oS:∀a:ϡ,aG (a.map λz=>V.ref z.2)<|a.map λk=>Vh k.2:=List.rec (.nil) λ_ a h=>.cons Z<|h
theorem O1:Mks X (newSet<|.type "set") λD=>qg X.prog X.w D []:=λa s c H E Q I h=>by
 unfold newSet setsByText;refine My<|My<|ZX<|UF ?_
 dsimp only
 simp only[newObj];refine My<|wpAny_alloc<|UF<|h _ (I.laid (t':=s.toks) (λ_ _ q=>UH _ q) (UV _)<|zZ ?_) λb o e=>UH _ e;exact⟨_,#[],0,_,U7 _ Z,⟨Z,Z,Z⟩,Z,Z,.nil,tb0,Z,Z⟩
def KZ(P:Vw)(w:VC)(K:Vb)(D:UM)(e:TE):TB:=λd H Q=>e d H λv c=>∃g k b,c D=U (qg P w D g)/\v= .ref b/\hW K c b (k.map V.int)/\(∀x∈g,hW K c x.2<|x.1.map V.int)/\g.length<63/\
 ∀a,(k∈g.map (·.1)->a=g)->(k∉g.map (·.1)->a.Perm ((k,b)::g))->Q d (upd c D<|qg P w D a)
theorem yp(p:X.A.units+1<Zp)(J:z[d+1]?=Y)(L:PE X elt te)(j:X.xe=λ_ _=>False):PB X (.S elt) z scope pos d D (KZ X.prog X.w X.K D te):=by
 intro a s y H Q I h k Q' E' N;unfold jK;rw[J];show U6 _ _ _ _ _ _
 have c:=L a s y H _ I h;rw[j]at c;refine My<|My<|V8 c (λu g l=>?_) λ_ _ f=>f.elim;obtain⟨v,H1,i,r,E,o9,b,B,rfl,C,G,hn,q⟩:=l;cases r;have S:=(i.hok D _ B).1;have P:=S.to λx h=>qJ i<|G x h;obtain⟨o,M,V,t,R,T,_⟩:=S;refine My<|W9<|My<|VD F.slot_set_add ⟨o,R,T.1⟩ F.entry_set_add ?_<|F.args_set_add_2 _ _;unfold Builtin.«set.add» Builtin.Frozenset.oneOther;simp only[List.isEmpty_nil,bind_assoc];refine My<|UF ?_
 refine My<|UF ?_
 try dsimp only
 refine My<|Wf<|My<|(iD _ _).pyHash p (qJ i C)<|SB p P (qJ (s:=g) i C) hn λh' m o7 W c1 c2=>?_;refine UF ⟨_,Z,UF<|N _ y _ (i.write (by rw[B];trivial) (.inl Z) (λb u n e=>(o7.2 b n).trans e) ?_<|zZ ?_)<|q m c1 c2⟩
 all_goals obtain⟨o,M,V,t,c,l,o8,f5,h5,G,h6⟩:=W
 .exact⟨o,c⟩
 .exact⟨o,M,V,t,c,l,o8,f5,h5,h6⟩
def oW(c:UM->HO)(g:ϒ)(w:ϊ)(d:TI)(e:UM->It->TB):TE:=λa H Q=>d a H λJ b=>∀D,b D=Y->e D J (m9 g w a) (upd b D<|c D) λ_ f=>Q (.ref D) f
theorem OK{j V}{g}{o:ϧ}(r:X.calm=O)(S:cy X E j V z)(t:PI X a b p)
  (u:∀(K:ϝ) (C:UM) (k:ϗ) (s:UW) (H:Hp),PG (aY X j E K C k s H) a g/\e8 (aY X j E K C k s H) f tt/\∀D,PB (aY X j E K C k s H) (.S d) (⟨a,b,f,0⟩::G) E pos 0 D<|o D)
  (hs:autoParam (∀x,V1 b X.env x=W2 x) z9):PE X (.SetComp d (⟨a,b,f,0⟩::G) E pos) (oW (λD=>qg X.prog X.w D []) V z p λD J=>dU J g tt<|o D):=by
 refine λi s y H Q I h=>Yd Z hs (S.clo I.ok) S.kind S.loc<|V8 (t i s y H _ I h) (λv W B=>V8 B (λF f5 L=>?_) λ_ _ x=>x) λ_ _ x=>x;obtain⟨it,k,c,J,H2,e,N,T,l,f2,q⟩:=L;subst e;exact jI O1 r S u N T l f2 q λD C s' o7 m P ns R A=>⟨m,ns,λh' n=>⟨.ref D,o7,P.letgo R n,Z,A⟩⟩
def AF(P:Vw)(w:VC)(K:Vb):ύ->Hp->VK->Prop:=λD H Q=>∃a g,D=[.ref a]/\H a=U (qg P w a g)/\(∀x∈g,hW K H x.2 (x.1.map V.int)/\1<=x.1.length)/\g.length<64/\
 ∀(l:UM) (b:ϡ),H l=Y->b.Perm g->Up (b.map (·.1))->Q (.ref l) (upd H l<|.lst<|b.map λz=>V.ref z.2)
theorem zJ(d:X.calm=O):cT X (.builtin AB) (AF X.prog X.w X.K):=by
 intro c s j H v y Q I r h;obtain⟨a,M,rfl,n,E,t,q⟩:=h;obtain⟨u,rfl,rfl⟩:=gR r;refine DH (I.ok.hd d) (((I.hok a _ n).1).to λx h=>qJ I (E x h).1) (λx h=>(E x h).2) t λl A e f b p g i G D m=>⟨.ref l,_,I.laid (t':=e) (o:= .lst<|b.map λz=>V.ref _) D G ⟨?_,b.map λk=>Vh _,f,?_,i⟩,Z,q l b (I.hok.fresh G) p g⟩
 .rw[UD,p.length_eq,WN];lia
 .exact oS b
end
end L2.Hs
namespace L2.Pu
open L2.Hs
def jG(E:Nat)(G:ϊ)(K:FL)(M:l_)(S:Ϥ)(b:FL)(a:ϋ->ϓ):FD:=λD V=>match K D V with
 |none=>Y
 |some (.error C,β1)=>U (.error C,β1)
 |some (.ok ds,β1)=>match oa M S b ds (k_ E G D) β1 with
  |some (.ok os,β2)=>(a os).map λd=>(.ok d,β2)
  |_=>Y
section
variable{K:Vb}{E:ϔ}
theorem vI{S}{V}{M}{P:ϧ}(hg:dz K g M)(sg:eY M)(hb:∀D,gl K R D (P D) b)
  (r0:∀F H D,R.R F (upd H D<|p D) D []) (hp:∀os d,c os=U d->R.Z os) (h:tV K (jG (ϱ S) V s M tt b c) E T H f5)
  (k:∀F B f D os d,Fr F B f->¬F.A D->R.R F B D os->c os=U d->(∀v j,To F B j f->bi K F j d v->f5 v j)->Q (.ref D) B):
  oW p S V (iV K s E) (λD J=>dU J g (io K tt E0)<|P D) T H Q:=by
 obtain⟨F,δ,β,fr,W,r,f,e,h⟩:=h;unfold jG at e;refine⟨F,δ,β,fr,W,?_⟩;split at e
 .cases e
 .rename_i C β1 q
  cases e;exact⟨.error C,_,q,h⟩
 .rename_i ds β1 q
  split at e
  .rename_i os β2 q2
   cases G:c os with
   |none=>rw[G]at e;cases e
   |some d=>
    rw[G]at e;cases e;refine⟨.ok ds,β1,q,λJ I t hJ D m=>?_⟩;have i:=t.fr.fresh m;have X:=t.fr.upd (p D) m;have L:Fr ⟨λa=>F.A a\/a=D,F.bg⟩ (upd I D<|p D) β1:=by
     refine⟨λa ha z=>?_,λb l z=>let ⟨x,y,w⟩:=fr.bgA b l z;⟨.inl x,.inl y,w⟩,X.fr.bag⟩
     obtain ha|ha:=ha
     .exact X.fr.occ a ha z
     .subst ha;rw[ay]at z;cases z
    have u:Tr F I ⟨λa=>F.A a\/a=D,F.bg⟩ (upd I D<|p D):=⟨λa ha hs z=>by
     obtain z|z:=z
     .exact ha z
     .subst z;exact hs m,λa o ha z=>by rw[bb<|aR z m];exact z,Z⟩
    refine qE hg sg (hb D) L (.inr Z) (λb l z=>⟨λw=>i<|w▸(fr.bgA b l z).1,λw=>i<|w▸(fr.bgA b l z).2.1⟩) (uz<|W.tr<|(t.tr fr).trans u) (r0 _ _ _) (hJ.tr u) q2 (hp os d G) λaa j N ab o8=>?_;have o7:To F I j f:=by
     refine⟨λa o z n=>N.kp a o (by rw[bb<|aR z m];exact z) (aR z m) n,λa ha z=>N.fr.occ a (WU ha) z,fr.bgA,N.fr.bag⟩
    exact k F j f D os d o7.fr i (R.tr o8 (λ_ z=>z) ⟨λa ha _ z=>ha<|WU z,λa o _ z=>z,Z⟩) G λv H3 t4 hv=>h v H3 ((t.trans o7).trans t4) hv
  .cases e
noncomputable abbrev iv(k:ώ):D:= .tup<|k.map .int
theorem vp(h:bi K F H (iv k) v):∃b,v= .ref b/\hW K H b (k.map V.int):=by
 obtain⟨a,E,rfl,D,c⟩:=bi.sqT h;cases a_.ints k c;exact⟨a,Z,D⟩
theorem gm(h:iv k=iv l):k=l:=by
 injection h with h
 exact List.map_inj_right (λa b z=>by injection z)|>.mp h
theorem nd_len{D} [BEq D] [LawfulBEq D]:∀{l m:List D},l.Nodup->(∀x∈l,x∈m)->ϱ l<=ϱ m:=@List.rec _ _ (@λ_ _ _=>VL _) (λa l w=>@λm nd h=>by
  obtain⟨b,c⟩:=V2.mp nd;have:=w c λx E=>(List.mem_erase_of_ne (λ(z:x=a)=>b<|z▸E)).mpr<|h x<|UI a E;rw[List.length_erase_of_mem<|h a UP]at this;have:=List.length_pos_of_mem<|h a UP;rw[U5];lia)
noncomputable def RS(P:Vw)(w:VC)(K:Vb):AR where
 R:=λF H D M=>∃E,H D=U (qg P w D E)/\(E.map (·.1)).Nodup/\(∀x∈E,bi K F H (iv x.1) (.ref x.2)/\iv x.1∈M)/\∀d∈M,∃k∈E.map (·.1),d=iv k
 Z:=λl=>∃G:LI,G.length<63/\∀d∈l,∃k∈G,d=iv k
 tr:=λh k t=>by
  obtain⟨E,a,b,c,e⟩:=h;exact⟨E,k _ a,b,λx S=>⟨bi.tr t _ _ (c x S).1,(c x S).2⟩,e⟩
 zp:=λh=>by
  obtain⟨G,a,b⟩:=h;exact⟨G,a,λd V=>b d<|XX _ V⟩
theorem Ms{D}:gl K (RS P w K) D (KZ P w K D<|tV K f E0) (j0 f):=λF H δ β r o7 as os Q fr R u I T e B k=>by
 obtain⟨E,W,s,G,ha⟩:=T;obtain⟨d,aa,X,f5⟩:=M.bind_inv e;cases f5;refine⟨F,δ,β,fr,I,E0.run X λv A t J=>?_⟩;obtain⟨ks,z1,L⟩:=B;obtain⟨j,m,rfl⟩:=L d<|VY _ UP;obtain⟨b,rfl,sq⟩:=vp J;have c:=λx h=>bi.tr (t.tr fr) _ _ (G x h).1;have g:ϱ E<63:=by
  have:=nd_len s λx C=>by
   obtain⟨y,hy,rfl⟩:=UL.mp C;obtain⟨l,hl,e⟩:=L _<|XX _ (G y hy).2;rw[gm e];exact hl
  rw[UD]at this;lia
 refine⟨E,j,b,t.kp D _ W u,Z,sq,λx h=>?_,g,λi c1 c2=>?_⟩
 .obtain⟨b',e,q⟩:=vp<|c x h
  simp_all
 have N:pb F D A (upd A D<|qg P w D i) r:=by
  refine⟨λa o h n _=>by rw[bb n];exact h,λa h q=>?_,fr.bgA,λb l q=>?_⟩
  .by_cases z:a=D
   .subst z;rw[ay]at q;cases q
   .rw[bb z]at q;exact t.fr.occ a h q
  .rw[bb (u b l q).1.symm,bb (u b l q).2.symm]
   exact t.fr.bag b l q
 have S:=N.tr t.fr R;refine k o7 _ ((t.toD D).trans N) (I.tr<|(t.tr fr).trans S) ⟨i,ay,?_⟩;by_cases V:j∈E.map (·.1)
 .cases c1 V
  refine⟨s,λx h=>⟨bi.tr S _ _<|c x h,XX _ (G x h).2⟩,λd hd=>?_⟩;obtain hd|hd:=V7.mp hd
  .exact ha d hd
  .exact⟨j,V,Vs.mp hd⟩
 .have p:=c2 V
  refine⟨(p.map _).nodup_iff.mpr<|V2.mpr ⟨V,s⟩,λx h=>?_,λd hd=>?_⟩
  .obtain rfl|h:=U4.mp (p.mem_iff.mp h)
   .exact⟨bi.tr S _ _ J,VY _ UP⟩
   .exact⟨bi.tr S _ _<|c x h,XX _ (G x h).2⟩
  .obtain hd|hd:=V7.mp hd
   .obtain⟨k2,h2,e⟩:=ha d hd
    exact⟨k2,(p.map _).mem_iff.mpr<|UI _ h2,e⟩
   .exact⟨j,(p.map _).mem_iff.mpr UP,Vs.mp hd⟩
def Srt(D:LI)(E:ϋ):Prop:=Up D/\D.length<63/\(∀k∈D,1<=k.length/\iv k∈E)/\∀d∈E,∃k∈D,d=iv k
theorem Srt.eq{D}(a:Srt d D)(b:Srt ls D):d=ls:=qq a.1 b.1 λx=>⟨λh=>by
 obtain⟨l,c,e⟩:=b.2.2.2 _ (a.2.2.1 x h).2;rw[gm e];exact c,λh=>by
 obtain⟨l,c,e⟩:=a.2.2.2 _ (b.2.2.1 x h).2;rw[gm e];exact c⟩
open Classical in
def ig(D:ϋ):ϓ:=if h:∃E,Srt E D then U (.lst<|h.choose.map iv)else Y
theorem xP{D}{E}(h:Srt D E):ig E=U (.lst<|D.map iv):=by
 have q:∃D,Srt D E:=⟨D,h⟩;unfold ig;rw[dif_pos q,q.choose_spec.eq h]
theorem lH{D}(h:ig D=U d):∃E,Srt E D/\d= .lst (E.map iv):=by
 unfold ig at h;split at h
 .rename_i q
  cases h;exact⟨_,q.choose_spec,Z⟩
 .cases h
theorem p7:∀{a:ϡ},(∀z∈a,bi K F H (iv z.1)<|.ref z.2)->a_ K F H ((a.map (·.1)).map iv) (a.map λz=>V.ref z.2):=@List.rec _ _ (@λ_=>a_.nil) (λz a w=>@λh=>a_.cons (h z UP)<|w λx D=>h x<|UI z D)
end
section
variable{X:Cx}{E:ϔ}{af bt ab:Expr}{ad:List Expr}{ac:Ϭ}{aa:Scope}{pos p ae:Ye}{Nc cx:ϒ}{b4:ϊ}{g:TG}{tb:ϧ}
theorem Ll(c:Gl X AB)(hm:X.mg AB=Y)(k:X.calm=O)(S:cy X aa Nc cx b4)(n:PI X bt ab<|iV X.K it E)
  (o:∀(V:ϝ) (C:UM) (f:ϗ) (s:UW) (H:Hp),PG (aY X Nc aa V C f s H) bt g/\e8 (aY X Nc aa V C f s H) ad (io X.K tt E0)/\∀D,PB (aY X Nc aa V C f s H) (.S af) (⟨bt,ab,ad,0⟩::ac) aa pos 0 D<|tb D)
  (r:dz X.K g tg) (t:eY tg) (u:∀D,gl X.K (RS X.prog X.w X.K) D (tb D) b) (hs:autoParam (∀x,V1 ab X.env x=W2 x) z9):
  PE X (.Call (.Name AB p) [.SetComp af (⟨bt,ab,ad,0⟩::ac) aa pos] [] ae) (tV X.K (jG cx.length b4 it tg tt b ig) E):=
 (nR (zJ k) c hm rf<|fQ (OK k S n o hs) jy).imp λo7 H Q h=>by
  refine vI (Q:=λv A=>AF X.prog X.w X.K [v] A Q) r t u (λF H D=>⟨[],ay,.nil,λx G=>Vl G rc,λd hd=>Vl hd rc⟩) (λos d e=>?_) h λF W B D os d fr I J e q=>?_
  .obtain⟨ks,s,_⟩:=lH e
   exact⟨ks,s.2.1,s.2.2.2⟩
  .obtain⟨ks,s,rfl⟩:=lH e
   obtain⟨xs,L,nd,G,ha⟩:=J;have i:∀x∈xs,x.1∈ks:=λx h=>by
    obtain⟨l,a,e⟩:=s.2.2.2 _ (G x h).2;rw[gm e];exact a
   have hn:xs.length<64:=by
    have:=nd_len (m:=ks) nd λy M=>by
     obtain⟨x,h,rfl⟩:=UL.mp M;exact i x h
    rw[UD]at this;have:=s.2.1;lia
   refine⟨D,xs,Z,L,λx h=>?_,hn,λl N a j o9=>?_⟩
   .obtain⟨o8,e,q⟩:=vp (G x h).1
    cases e;exact⟨q,(s.2.2.1 _<|i x h).1⟩
   .have P:ks=N.map (·.1):=qq s.1 o9 λy=>by
     refine⟨λM=>?_,λM=>?_⟩
     .obtain⟨f5,R,e⟩:=ha _ (s.2.2.1 y M).2
      rw[gm e];exact(j.map (·.1)).mem_iff.mpr R
     .obtain⟨x,h,rfl⟩:=UL.mp<|(j.map (·.1)).mem_iff.mp M
      exact i x h
    rw[P]at q;exact q _ _ (fr.upd _ a)<|bi.newL fr a<|p7 λz T=>(G z<|j.mem_iff.mp T).1
end
end L2.Pu
namespace L2.Hs
section
variable{I:Vw}{w:VC}{A:V3}{E:ϕ}{s:UW}
def J_(I:Vw)(w:VC)(h:V0)(k:d5)(a:UM):Prop:=∃o n t b,h.get? a=U o/\o.cls= .type lP/\o.data= .seq #[.int k.1 t,.ref b] n/\(iD I w).is h k.2 b
theorem J_.ty(x:J_ I w s.heap k a):s.TypeIs (.ref a) lP:=by obtain⟨o,_,_,_,ho,hc,_⟩:=x;exact ⟨o,ho,hc⟩
theorem J_.inj(s:J_ I w h x a)(A:J_ I w h y a):x=y:=by
 obtain⟨o,n,t,b,f,_,D,g⟩:=s;obtain⟨i,l,E,m,d,_,c,e⟩:=A;obtain rfl:o=i:=Vt<|f.symm.trans d;rw[D]at c;simp only[Data.seq.injEq,Array.mk.injEq,X9,YJ.injEq,Vh.injEq]at c;obtain⟨⟨⟨j,_⟩,k,_⟩,_⟩:=c;subst k;exact Xu j<|(iD I w).inj g e
theorem Sa(k):hsh I w k=hI k:=by show tupleKeyHash _ _=_;rfl
theorem Sc{k}(g:A.units+1<Zp)(f:J_ I w s.heap k a)(h:Q (hB O k) {s with toks:=s.toks+(ϱ k.2+3)}):U6 (Vq I w) A (pyHash<|.ref a) Q E s:=by
 have c:=f.ty;obtain⟨o,n,t,b,i,_,G,j⟩:=f;unfold pyHash
 refine My<|wpAny_cRoomFor_or (.inr ln)<|My<|XD c F.slot_tuple_hash.lookup ?_;refine My<|XD c F.slot_tuple_hash.lookup ?_;refine My<|wpAny_callSpecialIfBoundUnlessNone?_slot c F.slot_tuple_hash<|VD F.slot_tuple_hash c F.entry_tuple_hash ?_<|F.args_tuple_hash_1 _;show U6 _ _ (Builtin.Tuple.tupleItemsOf _>>=_) _ _ s;refine My<|wpAny_tupleItemsOf i G<|My ?_;refine My<|My<|wpAny_pyHash_int<|UF<|My<|My<|(iD I w).pyHash g j<|UF<|UF ?_;have D:Q (hB O k) {s with toks:=s.toks+1+(ϱ k.2+1)+1}:=by
  have e:s.toks+1+(ϱ k.2+1)+1=s.toks+(ϱ k.2+3):=by lia
  simp_all
 apply wpAny_ret_mkInt;generalize l:Zx _=z;have m:hB O k=reduceHash z:=by rw[<-l,show(iD I w).hash _=hI _ from Sa _];rfl
 rw[m]at D;show U6 _ _ (if(decide _&&decide _)=O then _ else _) Q E _;unfold reduceHash at D;by_cases d:(decide (-(2:Int)^63<=z)&&decide (z<2^63))=O
 .rw[US d]
  rw[US d]at D;exact UF D
 .rw[UU d]
  rw[UU d]at D;exact My<|XV<|UF D
theorem eq_p(o:A.units+1<Zp)(D:J_ I w s.heap x a)(G:J_ I w s.heap y b)(h:Q (decide (x=y)) s):U6 (Vq I w) A (eqBool (.ref a)<|.ref b) Q E s:=by
 unfold eqBool
 try with_reducible apply Wf
 show U6 _ _ _ Q E s;by_cases c:(Vh a==Vh b)=O
 .rw[US c]
  have e:a=b:=by have:=eq_of_beq c;injection this
  subst e;obtain rfl:=D.inj G;exact My (XV<|UF<|by simpa using h)
 .rw[UU c]
  refine My (wpAny_richCompare_same_room D.ty G.ty F.slot_tuple_eq
   (VD F.slot_tuple_eq D.ty F.entry_tuple_eq ?_<|F.args_tuple_eq_2 _ _) ln)
  have g:=G.ty;obtain⟨p,q,r,t,i,_,j,k⟩:=D;obtain⟨u,v,B,C,l,_,m,n⟩:=G;show U6 _ _ (isInstance _ _>>=_) _ _ s;refine My<|W3 g isSubtype_tuple_tuple ?_;dsimp only[Vd];refine My<|wpAny_tupleItemsOf i j<|My<|wpAny_tupleItemsOf l m ?_;apply My;refine My<|My<|(PySem.intKind I w).eqBool (a:=x.1) (b:=y.1) (by simp[PySem.intKind,Value.isInt]) (by simp[PySem.intKind,Value.isInt]) ?_;by_cases d:x.1=y.1
  .rw[U3 d]
   refine UF<|My<|My<|(iD I w).eqBool o k n ?_;by_cases f:x.2=y.2
   .rw[U3 f]
    rw[U3<|Xu d f]at h;exact UF<|UF<|UF ⟨_,Z,(λe=>nomatch e),Wl h⟩
   .rw[Vv f]
    rw[Vv (λe=>f<|VR _ e)]at h;exact My<|UF<|UF<|UF<|UF ⟨_,Z,(λe=>nomatch e),Wl h⟩
  .rw[Vv d]
   rw[Vv (λe=>d<|VR _ e)]at h;exact My<|UF<|UF<|UF<|UF ⟨_,Z,(λe=>nomatch e),Wl h⟩
theorem OD(e:(iD I w).is s.heap k a)(h:Q O s):U6 (Vq I w) A (eqIsQuiet (m+1)<|.ref a) Q E s:=by
 have f:=IsTupleKey.typeIs e;obtain⟨o,G,n,g,_,M,i⟩:=e;unfold eqIsQuiet;refine My<|XD f F.slot_tuple_eq.lookup ?_;refine My<|W3 f isSubtype_tuple_tuple ?_;refine My<|WX g M<|My ?_;rw[<-YZ];refine ZY _ (λD r K=>r.1=Y/\K=s/\∀v∈D,carriedByValue v=O) _ ?_ ?_ _ _ ⟨Z,Z,i.byValue⟩
 .rintro v D r K ⟨c,rfl,b⟩
  rw[eqIsQuiet_byValue _<|b v UP];refine My<|UF ?_;exact UF ⟨Z,Z,λu d=>b u<|UI _ d⟩
 .rintro⟨r1,j⟩ K ⟨c,rfl,_⟩
  simp only at c;subst c;exact UF h
theorem OE(c:J_ I w s.heap k a)(h:Q O s):U6 (Vq I w) A (eqIsQuiet 8<|.ref a) Q E s:=by
 have d:=c.ty;obtain⟨o,n,t,b,e,_,D,f⟩:=c;unfold eqIsQuiet;refine My<|XD d F.slot_tuple_eq.lookup ?_;refine My<|W3 d isSubtype_tuple_tuple ?_;refine My<|WX e D<|My ?_;show U6 _ _ (forIn #[YJ _ t,Vh b] _ _) _ _ s;rw[<-YZ];simp only[Yq];exact My<|My<|UF<|UF<|My<|My<|OD f<|UF<|UF<|UF h
def PKd(I:Vw)(w:VC):HeapKind I w d5 where
 is:=J_ I w
 hash:=hB O
 draws:=λk=>k.2.length+3
 room:=λA=>A.units+1<Zp
 inj:=λs D=>s.inj D
 keeps:=λx f E G=>by
  obtain⟨g,n,t,b,c,i,a,j⟩:=x;refine⟨g,n,t,b,(G.2 _ ?_).trans c,i,a,(iD I w).keeps j f E G⟩;rintro rfl;obtain rfl:=Vt<|c.symm.trans f;rw[E]at a;exact nomatch a
 pyHash:=λd e h=>Sc d e h
 eqBool:=λd s D h=>eq_p d s D h
 quiet:=λe h=>OE e h
def FKd(I:Vw)(w:VC):HeapKind I w d5 where
 is:=λh k a=>k.1=0/\(iD I w).is h k.2 a
 hash:=hB UK
 draws:=λk=>k.2.length+1
 room:=λA=>A.units+1<Zp
 inj:=λD G=>Xu (D.1.trans G.1.symm) ((iD I w).inj D.2 G.2)
 keeps:=λx f K M=>⟨x.1,(iD I w).keeps x.2 f K M⟩
 pyHash:=λc d h=>(iD I w).pyHash (Nat.lt_of_succ_lt c) d.2 h
 eqBool:=λ{A E s x y a b Q} c D G h=>(iD I w).eqBool (Nat.lt_of_succ_lt c) D.2 G.2 (by
  have e:decide (x.2=y.2)=decide (x=y):=by
   by_cases q:x.2=y.2
   .rw[U3 q,U3<|Xu (D.1.trans G.1.symm) q]
   .rw[Vv q,Vv (λz=>q<|VR _ z)]
  rw[e];exact h)
 quiet:=λd h=>(iD I w).quiet d.2 h
def KB(I:Vw)(w:VC):Bool->HeapKind I w d5
 |true=>PKd I w
 |false=>FKd I w
theorem vh:(KB I w b).hash=hB b:=by cases b<;>rfl
theorem m4{A}(h:A.units+1<Zp):(KB I w b).room A:=by cases b<;>exact h
def y_(K:Vb)(H:Hp):Bool->d5->UM->Prop
 |true,k,c=>∃e,hW K H c [.int k.1,.ref e]/\hW K H e (k.2.map V.int)
 |false,k,c=>k.1=0/\hW K H c (k.2.map V.int)
abbrev XY(x:d5×UM×V)(y:d5×UM×UQ):Prop:=x.1=y.1/\x.2.1=y.2.1/\bf x.2.2 y.2.2
theorem mw:∀{xs:ϩ} {s:a0C},Z9 XY xs s->xs.map (·.1)=s.map (·.1)
 |_,_,.nil=>rfl
 |_,_,.cons h t=>by rw[UZ,UZ,h.1,mw t]
theorem GF:∀{s:ϩ} {w:a0C},Z9 XY s w->∀y∈w,∃x∈s,XY x y
 |_,_,.nil,y,h=>by cases h
 |_,_,.cons (a:=a) h t,y,hy=>by
  obtain rfl|hy:=U4.mp hy
  .exact⟨a,UP,h⟩
  .obtain⟨x,hx,e⟩:=GF t y hy
   exact⟨x,UI _ hx,e⟩
noncomputable def o0(xs:ϩ)(k:d5):Option V:=(xs.find? λx=>decide (x.1=k)).map (·.2.2)
theorem mx:∀{s:ϩ} {w:a0C},Z9 XY s w->jV (o0 s k) ((atKey w k).map (·.2))
 |_,_,.nil=>by simp[o0,atKey,jV]
 |_,_,.cons (a:=a) h t=>by
  unfold o0 atKey at⊢;rw[W8,W8,<-h.1];by_cases q:a.1=k
  .rw[U3 q];exact h.2.2
  .rw[Vv q];exact (mx (k:=k) t)
theorem uG(h:XY x y):∀{s:ϩ} {w:a0C},Z9 XY s w->Z9 XY (s++[x]) (w++[y])
 |_,_,.nil=> .cons h .nil
 |_,_,.cons h' t=> .cons h'<|uG h t
variable{X:Cx}{aj:ϖ}{z:St}{H:Hp}
theorem n5(I:b5 X aj z H s)(h:y_ X.K H b k c):(KB X.prog X.w b).is s.heap k c:=by
 cases b with
 |true=>
  obtain⟨e,a,d⟩:=h;obtain⟨A,f,⟨o,g,i,n,D⟩,_⟩:=I.tuple a;obtain⟨j,l,rfl,⟨t,rfl⟩,rfl⟩:=wS f;exact⟨o,n,t,e,g,i,D,qJ I d⟩
 |false=>exact⟨h.1,qJ I h.2⟩
theorem big(I:b5 X aj z H s):ZW<s.heap.objs.size:=Z0 rb (show Xh<s.heap.objs.size from(I.mod.glob.keeps I.bk).lt)
theorem lh(I:b5 X aj z H s)(d:H a=U (c8 a b n xs))(e:∀x∈xs,y_ X.K H b x.1 x.2.1):∃A,s.heap.DictOfH (KB X.prog X.w b) a A/\Z9 XY xs A/\ϱ A<=Ve/\(a==ZW)=UK:=by
 obtain⟨o,D,A,f,g,h,i,h5,j,k,c⟩:GA a b n xs _:=(I.hok a _ d).1;refine⟨A,⟨o,D,n,f,g,h,?_,λy E=>?_,h5⟩,c,k,j⟩
 .rw[i];unfold entryOfKey;rw[vh]
 .obtain⟨x,hx,l,m,_⟩:=GF c y E
  rw[<-l,<-m];exact n5 I<|e x hx
def QH(K:Vb):R2:=λx y H Q=>∃a b w s k c v,x= .ref a/\y= .ref c/\H a=U (c8 a b w s)/\(∀x∈s,y_ K H b x.1 x.2.1)/\y_ K H b k c/\o0 s k=U v/\Q v H
theorem gQ(l:X.A.units+2<Zp):V_ X (QH X.K):=by
 intro g i aj s z H x y v u Q I m n h w;obtain⟨a,b,G,M,k,c,o,rfl,rfl,t,B,C,J,q⟩:=h;cases m;cases n;obtain⟨D,d,p,_,_⟩:=lh I t B;have f:=mx (k:=k) p;rw[J]at f;cases e:atKey D k with
 |none=>rw[e]at f;exact f.elim
 |some r=>
  rw[e]at f;exact subscriptTail_builtinR d.typeIs PySem.F.slot_dict_getitem.lookup (wpAny_getItem_heap (m4 l) (n5 I C) d e ⟨Z,o,H,I.tok _,f,q⟩) w
theorem rV:Mks X newDict λD=>c8 D b 0 []:=λaj s z H E Q I h=>VE<|h _ (I.laid (λ_ _ q=>UH _ q) (UV _)<|vq ⟨_,#[],[],U7 _ Z,⟨Z,Z,Z⟩,Z,Z,.nil,beq_eq_false_iff_ne.mpr<|Ne.symm<|VJ<|big I,VL _,.nil⟩) λb o e=>UH _ e
def K0(K:Vb)(b:Bool)(D:UM)(e f:TE):TB:=λz H Q=>e z H λx g=>f z g λy a=>∃w s k c,x= .ref c/\a D=U (c8 D b w s)/\(∀x∈s,y_ K a b x.1 x.2.1)/\y_ K a b k c/\k∉s.map (·.1)/\s.length<Ve/\∀d,Q z<|upd a D<|c8 D b d<|s++[(k,c,y)]
theorem nU{b}(L:X.A.units+1<Zp)(N:gens[d+1]?=Y)(o9:PE X ke tk)(P:PE X ve tv)(a:X.xe=λ_ _=>False):PB X (.D ke ve) gens scope pos d D (K0 X.K b D tk tv):=by
 intro aj s z H Q I h k Q' E' R;unfold jK;rw[N];have t:=o9 aj s z H _ I h;rw[a]at t;refine My<|My<|V8 t (λu T o7=>?_) λ_ _ f=>f.elim;obtain⟨v,W,o8,r,G⟩:=o7;have B:=P aj T z W _ o8 G;rw[a]at B;refine My<|Wf<|V8 B (λu2 s2 f5=>?_) λ_ _ f=>f.elim;obtain⟨v2,H2,i,M,S,V,j,c,rfl,C,hx,hc,hn,hl,q⟩:=f5;cases r;obtain⟨w,dd,p,hz,l⟩:=lh i C hx;have F:=mw p;have e0:atKey w j=Y:=by
  cases e:atKey w j with
  |none=>rfl
  |some r=>
   exfalso
   unfold atKey at e;cases m:w.find? (λx=>decide (x.1=j))with
   |none=>rw[m]at e;cases e
   |some y=>
    have:=List.find?_some m;exact hn (by rw[F];exact UL.mpr ⟨y,List.mem_of_find?_eq_some m,WP this⟩)
 refine My<|W9<|Wf<|wpAny_dictSet_heap (m4 L) (n5 i hc) dd (λh' E sb=>?_) hz;rw[storedH_new e0]at E;obtain⟨o,es,ep,J,g2,g3,g4,g5,g6⟩:=E;have g:ϱ w=ϱ V:=by rw[<-UD,<-F,UD]
 refine R _ z _ (i.write (by rw[C];trivial) (.inl Z) (λb u n e=>(sb.2 b n).trans e) ⟨o,J⟩<|vq ⟨o,es,_,J,g2,g3,?_,g6,l,?_,uG ⟨Z,Z,M⟩ p⟩)<|q ep
 .rw[g4];unfold entryOfKey;rw[vh]
 .rw[Va,g,VX];lia
theorem L0{b:Bool}{k l a d:Expr}{f:List Expr}{G:Ϭ}{E:Scope}{pos:Ye}{i V:ϒ}{b4:ϊ}{g:TG}{tt:TT}{p:ϧ}{r:TI}(t:X.calm=O)(S:cy X E i V b4)(u:PI X a d r)
  (y:∀(K:ϝ) (C:UM) (j:ϗ) (s:UW) (H:Hp),PG (aY X i E K C j s H) a g/\e8 (aY X i E K C j s H) f tt/\∀D,PB (aY X i E K C j s H) (.D k l) (⟨a,d,f,0⟩::G) E pos 0 D<|p D)
  (hs:autoParam (∀x,V1 d X.env x=W2 x) z9):PE X (.DictComp k l (⟨a,d,f,0⟩::G) E pos) (oW (λD=>c8 D b 0 []) V b4 r λD J=>dU J g tt<|p D):=by
 refine λaj s z H Q I h=>Yd Z hs (S.clo I.ok) S.kind S.loc<|V8 (u aj s z H _ I h) (λv W B=>V8 B (λF o7 L=>?_) λ_ _ x=>x) λ_ _ x=>x;obtain⟨it,j,c,J,H2,e,N,T,n,f2,q⟩:=L;subst e;exact jI rV t S y N T n f2 q λD C s' o8 m P ns R f5=>⟨m,ns,λh' o=>⟨.ref D,o8,P.letgo R o,Z,f5⟩⟩
end
end L2.Hs
namespace L2.Pu
open L2.Hs
def dK:Bool->d5->D
 |true,k=> .tup [.int k.1,iv k.2]
 |false,k=>iv k.2
def I_(b:Bool)(k:d5):Prop:=b=UK->k.1=0
theorem Sy(a:I_ b k)(c:I_ b l)(h:dK b k=dK b l):k=l:=by
 cases b with
 |true=>
  simp only[dK,D.tup.injEq,X9,D.int.injEq,and_true]at h;exact Xu h.1<|gm<|VR D.tup h.2
 |false=>exact Xu ((a Z).trans (c Z).symm)<|gm h
section
variable{K:Vb}{F:Fx}{H:Hp}{E:ϔ}
theorem zj(h:bi K F H (.tup b) v):∃a D,v= .ref a/\TQ K F H a D/\a_ K F H b D:=by
 unfold bi at h;exact h
theorem sK(h:TQ K F H a b)(D:a_ K F H c b):bi K F H (.tup c) (.ref a):=by
 unfold bi;exact⟨a,b,Z,h,D⟩
theorem TQ.sq(h:TQ K F H c a):hW K H c a:=h.imp (·.2) id
theorem gE.s(h:gE K F H b k c):y_ K H b k c:=by
 cases b with
 |true=>
  obtain⟨e,a,d⟩:=h;exact⟨e,a.sq,d.sq⟩
 |false=>exact⟨h.1,h.2.sq⟩
theorem gE.z(h:gE K F H b k c):I_ b k:=λe=>by subst e;exact h.1
theorem ud(g:I_ b k)(h:bi K F H (dK b k) v):∃c,v= .ref c/\gE K F H b k c:=by
 cases b with
 |true=>
  obtain⟨a,D,rfl,q,d⟩:=zj h;obtain⟨i,j,rfl,E,G⟩:=a_.two d;cases E.int;obtain⟨e,S,rfl,M,f⟩:=zj G;cases a_.ints _ f;exact⟨a,Z,e,q,M⟩
 |false=>
  obtain⟨a,D,rfl,q,d⟩:=zj h;cases a_.ints _ d;exact⟨a,Z,g Z,q⟩
theorem EA(h:gE K F H b k c):bi K F H (dK b k) (.ref c):=by
 cases b with
 |true=>
  obtain⟨e,a,d⟩:=h;exact sK a<|a_.cons Z<|a_.cons (sK d<|a_.ofInts _) a_.nil
 |false=>exact sK h.2<|a_.ofInts _
abbrev F_(b:Bool)(p:d5×D):D:= .tup [dK b p.1,p.2]
def Dk(b:Bool)(E:List<|d5×D)(F:ϋ):Prop:=F=E.map (F_ b)/\(E.map (·.1)).Nodup/\E.length<=Ve/\∀p∈E,I_ b p.1
theorem OQ(a:I_ b p.1)(c:I_ b q.1)(h:F_ b p=F_ b q):p=q:=by
 simp only[D.tup.injEq,X9,and_true]at h;exact Xu (Sy a c h.1) h.2
theorem nV:∀{l m:List (d5×D)},(∀p∈l,I_ b p.1)->(∀p∈m,I_ b p.1)->l.map (F_ b)=m.map (F_ b)->l=m
 |[],[],_,_,_=>rfl
 |[],_::_,_,_,h=>by cases h
 |_::_,[],_,_,h=>by cases h
 |p::l,q::m,hl,hm,h=>by
  rw[UZ,UZ,X9]at h;rw[OQ (hl p UP) (hm q UP) h.1,nV (λx E=>hl x<|UI _ E) (λx E=>hm x<|UI _ E) h.2]
theorem Dk.eq{D}(x:Dk b l D)(y:Dk b m D):l=m:=nV x.2.2.2 y.2.2.2<|x.1.symm.trans y.1
open Classical in
def oy(b:Bool)(E:ϋ):ϓ:=if h:∃D,Dk b D E then U (.dct b (h.choose.map (·.1))<|h.choose.map (·.2))else Y
theorem BX{E}(h:Dk b kvs E):oy b E=U (.dct b (kvs.map (·.1))<|kvs.map (·.2)):=by
 have q:∃kvs,Dk b kvs E:=⟨kvs,h⟩;unfold oy;rw[dif_pos q,q.choose_spec.eq h]
theorem zm{E}(h:oy b E=U d):∃D,Dk b D E/\d= .dct b (D.map (·.1)) (D.map (·.2)):=by
 unfold oy at h;split at h
 .rename_i q
  cases h;exact⟨_,q.choose_spec,Z⟩
 .cases h
noncomputable def RD(K:Vb)(b:Bool):AR where
 R:=λF H D S=>∃M,∃a:List<|(d5×Pu.D)×UM×V,S=a.map (λz=>F_ b z.1)/\H D=U (c8 D b M<|a.map λz=>(z.1.1,z.2))/\∀z∈a,gE K F H b z.1.1 z.2.1/\bi K F H z.1.2 z.2.2
 Z:=λl=>∃G E,Dk b G (l++E)
 tr:=λh k t=>by
  obtain⟨M,a,e,f,c⟩:=h;exact⟨M,a,e,k _ f,λz d=>⟨(c z d).1.tr t,bi.tr t _ _ (c z d).2⟩⟩
 zp:=λh=>by
  obtain⟨G,E,h⟩:=h;exact⟨G,_,by rw[<-V5];exact h⟩
def MT(f g:FD):FL:=λD=>M.bind (f D) λk=>M.bind (g D) λv=>M.ret [.tup [k,v]]
theorem rZ{b}{D}:gl K (RD K b) D (K0 K b D (tV K f E0)<|tV K g E0) (MT f g):=λF H δ β B σ as os Q fr hA A C hR e hz k=>by
 obtain⟨ep,d,rfl,hD,S⟩:=hR;obtain⟨R,V,e1,e2⟩:=M.bind_inv e;obtain⟨T,ab,e3,e4⟩:=M.bind_inv e2;cases e4;obtain⟨E,aa,I,f5,z3,W⟩:=hz;have J:∀p∈d.map (·.1),I_ b _:=λp r=>by
  obtain⟨z,h,rfl⟩:=UL.mp r;exact(S z h).1.z
 have L:ϱ d<ϱ E:=by
  have:=VR ZJ I;simp at this;lia
 have ez:(d.map (·.1)).map (F_ b)=(E.take (ϱ d)).map (F_ b):=by
  rw[ZA,<-I,V5,List.take_append_of_le_length rc,WL rc,UR];rfl
 have N:F_ b E[ϱ d]= .tup [R,T]:=by
  have X:(E.map<|F_ b)[ϱ d]?=U (.tup [R,T]):=by
   rw[<-I,V5,W4 rc];simp
  rw[UN,UJ L]at X;exact Vt X
 have u:=W _<|VU L;generalize r:E[ϱ d]=p at N u;obtain⟨j,vv⟩:=p;simp only[Pu.D.tup.injEq,X9,and_true]at N;obtain⟨rfl,rfl⟩:=N;have w:=λhm=>by
  have h2:E.take (ϱ d)++(j,vv)::E.drop (ϱ d+1)=E:=by
   rw[<-r,<-Wo L,Xd]
  rw[<-h2,<-(nV J (λp r=>W p<|W0 r) ez),Vj,UZ,List.nodup_append]at f5;refine f5.2.2 j ?_ j UP Z;rw[UR];exact hm
 refine⟨F,δ,β,fr,C,E0.run e1 λv H1 t hv=>⟨F,δ,V,t.fr,C.tr<|t.tr fr,E0.run e3 λv2 o7 m o8=>?_⟩⟩;obtain⟨c,rfl,P⟩:=ud u (bi.tr (m.tr t.fr) _ _ hv);have i:=(t.tr fr).trans<|m.tr t.fr;refine⟨ep,_,j,c,Z,m.kp D _ (t.kp D _ hD A) A,λx h=>?_,P.s,?_,?_,λy=>?_⟩
 .obtain⟨z,h',rfl⟩:=UL.mp h
  exact((S z h').1.tr i).s
 .rw[UR];exact w
 .rw[UD];lia
 have tD:pb F D o7 (upd o7 D<|c8 D b y<|(d.map λz=>(z.1.1,z.2))++[(j,c,v2)]) B:=by
  refine⟨λa o h n _=>by rw[bb n];exact h,λa h q=>?_,fr.bgA,λb l q=>?_⟩
  .by_cases z:a=D
   .subst z;rw[ay]at q;cases q
   .rw[bb z]at q;exact m.fr.occ a h q
  .rw[bb (A b l q).1.symm,bb (A b l q).2.symm]
   exact m.fr.bag b l q
 have G:=tD.tr m.fr hA;refine k σ _ (((t.trans m).toD D).trans tD) (C.tr<|i.trans G) ⟨y,d++[((j,vv),c,v2)],by rw[Vj];rfl,by rw[Vj];exact ay,λz h=>?_⟩;obtain h|h:=V7.mp h
 .exact⟨(S z h).1.tr<|i.trans G,bi.tr (i.trans G) _ _ (S z h).2⟩
 .cases Vs.mp h
  exact⟨P.tr G,bi.tr G _ _ o8⟩
theorem zk{E}{f:E->D}{g:E->V}:∀{a:List E},(∀z∈a,bi K F H (f z)<|g z)->a_ K F H (a.map f) (a.map g):=@List.rec _ _ (@λ_=>a_.nil) (λz a w=>@λh=>a_.cons (h z UP)<|w λx G=>h x<|UI z G)
end
theorem zh{K}{S}{V}{c:ϧ}{M}(i:dz K g M)(j:eY M)(k:∀D,gl K (RD K kb) D (c D) b)(h:tV K (jG (ϱ S) V v M w b<|oy kb) E f H Q):
  oW (λD=>c8 D kb 0 []) S V (iV K v E) (λD J=>dU J g (io K w E0)<|c D) f H Q:=by
 refine vI i j k (λF H D=>⟨0,[],Z,ay,λx G=>Vl G rc⟩) (λy d e=>?_) h λF u l D y d fr a m e q=>?_
 .obtain⟨kvs,s,_⟩:=zm e
  exact⟨kvs,[],by rw[VA];exact s⟩
 .obtain⟨kvs,s,rfl⟩:=zm e
  obtain⟨A,n,rfl,o,G⟩:=m;have r:=nV s.2.2.2 (λp t=>by
   obtain⟨z,h,rfl⟩:=UL.mp t;exact(G z h).1.z) (by rw[<-s.1,UR];rfl)
  apply q _ _ (To.refl fr);subst r;refine⟨D,A,_,Z,⟨a,o⟩,rc,λx h=>?_,?_⟩
  .obtain⟨z,h',rfl⟩:=UL.mp h
   exact(G z h').1
  .rw[UR,UR]
   exact zk λz h=>(G z h).2
section
variable{X:Cx}{E:ϔ}{B u q m:Expr}{p:List Expr}{n:Ϭ}{l:Scope}{pos:Ye}{t I:ϒ}{J:ϊ}{g:TG}{w:ϧ}
theorem Od(c:X.calm=O)(S:cy X l t I J)(d:PI X q m<|iV X.K r E)
  (e:∀(G:ϝ) (C:UM) (a:ϗ) (s:UW) (H:Hp),PG (aY X t l G C a s H) q g/\e8 (aY X t l G C a s H) p (io X.K v E0)/\∀D,PB (aY X t l G C a s H) (.D B u) (⟨q,m,p,0⟩::n) l pos 0 D<|w D)
  (f:dz X.K g o) (i:eY o) (j:∀D,gl X.K (RD X.K kb) D (w D) b) (M:autoParam (∀x,V1 m X.env x=W2 x) z9):
  PE X (.DictComp B u (⟨q,m,p,0⟩::n) l pos) (tV X.K (jG (ϱ I) J r o v b<|oy kb) E):=
 (L0 c S d e M).imp λk H Q h=>zh f i j h
noncomputable def jM:ϋ->Option ώ
 |[]=>U []
 | .int i::r=>(jM r).map (i::·)
 |_=>Y
def eF:Bool->D->Option d5
 |false,.tup ds=>(jM ds).map λl=>(0,l)
 |true,.tup [.int i,.tup ds]=>(jM ds).map λl=>(i,l)
 |_,_=>Y
theorem uL:∀(l:ώ),jM (l.map .int)=U l:=List.rec Z λi l h=>by show(jM<|l.map _).map _=_;rw[h];rfl
theorem na:∀{n:ϋ} {l:ώ},jM n=U l->n=l.map .int
 |[],l,h=>by cases h;rfl
 | .int i::r,l,h=>by
  have g:(jM r).map _=U l:=h;cases q:jM r with
  |none=>rw[q]at g;cases g
  |some m=>rw[q]at g;cases g;rw[na q];rfl
 | .non::_,_,h=>by cases h
 | .bl _::_,_,h=>by cases h
 | .str _::_,_,h=>by cases h
 | .ty _::_,_,h=>by cases h
 | .txt::_,_,h=>by cases h
 | .lst _::_,_,h=>by cases h
 | .tup _::_,_,h=>by cases h
 | .scr _::_,_,h=>by cases h
 | .obj _ _ _::_,_,h=>by cases h
 | .bag::_,_,h=>by cases h
 | .adr _::_,_,h=>by cases h
 | .dct _ _ _::_,_,h=>by cases h
theorem dy(h:I_ b k):eF b (dK b k)=U k:=by
 cases b with
 |true=>show(jM _).map _=_;rw[uL];rfl
 |false=>show(jM _).map _=_;rw[uL];exact VR U<|Xu (h Z).symm Z
theorem n6(h:eF b d=U k):I_ b k/\d=dK b k:=by
 unfold eF at h;split at h
 .rename_i ds
  cases q:jM ds with
  |none=>rw[q]at h;cases h
  |some l=>rw[q]at h;cases h;exact⟨λ_=>Z,by rw[na q];rfl⟩
 .rename_i i ds
  cases q:jM ds with
  |none=>rw[q]at h;cases h
  |some l=>rw[q]at h;cases h;exact⟨λz=>(by cases z),by rw[na q];rfl⟩
 .cases h
noncomputable def lg(g:Ϯ)(l:ϋ)(k:d5):ϓ:=((g.zip l).find? λp=>decide (p.1=k)).map (·.2)
variable{K:Vb}{F:Fx}{H:Hp}
def RelD(K:Vb)(F:Fx)(H:Hp):ϓ->Option V->Prop
 |none,v=>v=Y
 |some d,v=>∃u,v=U u/\bi K F H d u
theorem ua:∀{l:ϩ} {g:ϋ},a_ K F H g (l.map (·.2.2))->RelD K F H (lg (l.map (·.1)) g k) (o0 l k)
 |[],g,_=>by rfl
 |x::l,g,h=>by
  cases g with
  |nil=>cases h
  |cons d g=>
   obtain⟨u,r,e,a,b⟩:=h;rw[UZ,X9]at e;obtain⟨rfl,rfl⟩:=e;unfold lg o0 at⊢;rw[UZ,Wv,W8,W8];by_cases q:x.1=k
   .rw[U3 q];exact⟨_,Z,a⟩
   .rw[Vv q];exact (ua (k:=k) b)
def su:D->D->ϓ
 | .dct b ks vs,y=>(eF b y).bind<|lg ks vs
 |_,_=>Y
theorem kg:bz K (QH K) su:=λF H E Q G g d v1 v2 fr h i e k=>by
 unfold su at e;split at e
 .rename_i b ks vs
  cases q:eF b g with
  |none=>rw[q]at e;cases e
  |some f=>
   rw[q]at e;have j:lg ks vs f=U d:=e;obtain⟨l,rfl⟩:=n6 q;obtain⟨c,rfl,m⟩:=ud l i;obtain⟨a,w,B,rfl,n,rfl,o,p⟩:=h;have:=ua (k:=f) p;rw[j]at this;obtain⟨u,r,t⟩:=this;exact⟨a,b,w,B,f,c,u,Z,Z,n.2,λx D=>(o x D).s,m.s,r,k u H (To.refl fr) t⟩
 .cases e
def Tc(K:Vb):V->ύ->Hp->VK->Prop:=λx l H Q=>∃a b m g k c z,x= .ref a/\l=[.ref c,z]/\H a=U (c8 a b m g)/\(∀x∈g,y_ K H b x.1 x.2.1)/\y_ K H b k c/\Q ((o0 g k).getD z) H
variable{o e:Expr}{es:List Expr}{ab aa:Ye}
theorem O0(n:X.A.units+2<Zp):MtR X "dict.get" (Tc X.K):=by
 intro l s N H x D v E Q I r t h;obtain⟨a,b,G,e,k,c,z,rfl,rfl,u,B,C,q⟩:=h;cases r;obtain⟨P,J,rfl,g,L⟩:=wS t;cases g;obtain⟨j,d,p,_,o⟩:=lh I u B;have f:=mx (k:=k) p;refine call_meetsIn PySem.F.slot_dict_get d.typeIs PySem.F.entry_dict_get (PySem.F.args_dict_get_3 _ _ _) (meetsH_dict_get_default _ a c o J) ⟨m4 n,k,j,n5 I C,d,_,H,I.tok _,?_,q⟩;cases m:o0 e k with
 |none=>
  rw[m]at f;cases i:(atKey j k).map (·.2)with
  |none=>exact L
  |some w=>rw[i]at f;exact f.elim
 |some y=>
  rw[m]at f;cases i:(atKey j k).map (·.2)with
  |none=>rw[i]at f;exact f.elim
  |some w=>rw[i]at f;exact f
def MM(f:FD)(g:FL):FD:=λe=>M.bind (f e) λd=>match d with
 | .dct b ks vs=>M.bind (g e) λl=>M.ofO (match l with
  |[k,z]=>(eF b k).map λk=>(lg ks vs k).getD z
  |_=>Y)
 |_=>M.fail
theorem SN{g}(hu:X.A.units+2<Zp)(ho:PE X o<|tV X.K f E)(ha:PA X (e::es)<|ix X.K g E)
  (n:autoParam (Zd o "get" X.env (Wa o X.env)=Wa o X.env) z6)
  (y:autoParam (((Xm aa<|U8 (e::es) X.env).all (λx=>!x.1)&&(YB aa<|Xg [] X.env).all (λx=>x.1.isSome)
   &&decide (ϱ (e::es)+ϱ ([]:List Keyword)+(if([]:List Keyword).isEmpty then 0 else 1)<30))=O) z6)
  (p:autoParam ((ab.endLine==aa.line)=O) z6) (hs:autoParam (Ϛ X e es) z6) (m:autoParam (ϣ X aa es) z6):
  PE X (.Call (.Attribute o "get" ab) (e::es) [] aa) (tV X.K (MM f g) E):=by
 intro j s C H Q I h;obtain⟨F,δ,β,fr,vk,h⟩:=h;refine wpAny_Call_method_late n y p Z<|dv (ho j s C H _ I ⟨F,δ,β,fr,vk,(run.bind h)⟩) λv s1 h1=>?_;obtain⟨x,H1,I1,r1,d,S,t,hd,q1⟩:=h1;have V:∀{L:M D},L=M.fail->run (bi X.K F) F E C L H1 Q S->False:=λ{L} e r=>by
  obtain⟨r,ad,e',_⟩:=r;rw[e]at e';cases e'
 cases d<;>first|exact(V Z q1).elim|skip
 rename_i b ks vs;have B:=hd;obtain⟨a,ep,G,rfl,N,rfl,hk,dl⟩:=B;cases r1;obtain⟨ys,dd,_,_,_⟩:=lh I1 N.2 λx hx=>(hk x hx).s;refine⟨"dict","dict.get",PySem.F.plainAttrs_dict,PySem.F.slot_dict_get,PySem.F.type_dict_get,dd.typeIs,λb e=>?_,?_⟩
 .cases e
  obtain⟨ob,_,_,g1,g2,_⟩:=dd;exact⟨ob,g1,g2.2.1⟩
 have hA:=ha aa j s1 C H1 _ I1 ⟨F,δ,S,t.fr,vk.tr<|t.tr fr,run.bind q1⟩;rw[hs]at hA⊢;refine PySem.Calls.callWith_builtin (by show(UK||(Xm aa _).any _)=UK;rw[m]<;>rfl) (Calls.evalArgs_plain (dv hA λus s2 h2=>?_))
 obtain⟨ws,J,I2,r2,as,af,t2,o7,q2⟩:=h2;obtain⟨z,w,kf⟩:=run.ofO q2;have tt:=t2.tr t.fr;split at w
 .rename_i k zz
  cases P:eF b k with
  |none=>rw[P]at w;cases w
  |some i=>
   rw[P]at w;cases w;obtain⟨hz,rfl⟩:=n6 P;obtain⟨w1,T,rfl,R,W⟩:=a_.two o7;obtain⟨c,rfl,kc⟩:=ud hz R;have f5:=a_.tr tt _ _ dl;refine O0 hu j s2 C J (.ref a) [.ref c,T] _ us Q I2 Z r2 ⟨a,b,ep,G,i,c,T,Z,Z,tt.kp a _ N.1 N.2,λx hx=>((hk x hx).tr tt).s,kc.s,kf _ J (To.refl t2.fr) ?_⟩;show bi _ F J ((lg _ vs i).getD zz) _;have l:=ua (k:=i) f5;cases q:lg _ vs i with
   |none=>
    rw[q]at l;have l':=l;rw[l'];exact W
   |some d=>
    rw[q]at l;obtain⟨u,l',ac⟩:=l;simp_all
 .cases w
end
end L2.Pu
namespace L2.Hs
section
variable{prog:Vw}{w:VC}{A:V3}{E:ϕ}{s:UW}{d z v:UM}{od:Wd}{es:Array XN}{ep i:Nat}{ok ov:UQ}
theorem FT(a:s.TypeIs (.ref d) vQ)(i:(d==ZW)=UK)(h:Q (.ref s.heap.objs.size) {s with heap:=s.heap.push {cls:= .type "dict_items",data:= .fields #[.ref d]}}):U6 (Vq prog w) A (call (.builtin "dict.items") [.ref d]) Q E s:=by
 refine VD F.slot_dict_items a F.entry_dict_items ?_<|F.args_dict_items_1 _;apply My;refine My<|wpAny_notOrdered_dict a ?_;apply UF;unfold Y0;rw[UU<|by rw[i];exact UX];exact My<|UF<|My<|VE<|UF ⟨_,Z,h⟩
theorem EW(a:s.heap.IsItemsView v d)(e:s.heap.get? d=U od)(i:od.data= .dict es ep)
  (h:Q (.ref s.heap.objs.size) {s with heap:=s.heap.push {cls:= .type "dict_itemiterator",data:= .fields #[.none,.bool UK,.ref d,.int 0 0,.int es.size 0,.int ep 0,.none,.none]}}):U6 (Vq prog w) A (pyIter<|.ref v) Q E s:=by
 obtain⟨o,b,f,c⟩:=id a;refine ZH a.typeIs F.slot_dict_items_iter<|VD F.slot_dict_items_iter a.typeIs F.entry_dict_items_iter ?_<|F.args_dict_items_iter_1 _;refine My<|UF<|My ?_;refine My<|Wp b c Z<|UF<|My ?_;refine My<|YQ e i<|My<|Zj e i ?_;simp only[show W7 "dict_itemiterator"=O from by decide,VV];refine VE (UF ⟨_,Z,"dict_itemiterator",_,⟨_,U7 _ Z,Z⟩,WT.lookup,?_⟩)
  (by simp only[sizeOk,Z4,Vf,Va,U5,XR,WN];lia)
 simpa[Yy,Z4]using h
theorem EU(a:IsItemIter s.heap z d i es.size ep ok ov)(h:Q (.ref z) s):U6 (Vq prog w) A (pyIter<|.ref z) Q E s:=by
 have c:s.TypeIs (.ref z) x8:=⟨_,a,Z⟩;refine ZH c F.slot_dict_itemiterator_iter<|VD F.slot_dict_itemiterator_iter c (b:=Builtin.«dict_keyiterator.__iter__») (entryFor_alias (id':="dict_keyiterator.__iter__") rf Z (by decide +kernel) rf) ?_<|F.args_dict_itemiterator_iter_1 _;show U6 _ _ (ret<|.ref z) _ _ s;exact UF ⟨_,Z,x8,_,c,WT.lookup,h⟩
theorem EV{e}(l:IsItemIter s.heap z d i es.size ep ok ov)(f5:s.heap.get? d=U od)(M:od.data= .dict es ep)(K:es[i]?=U e)
  (S:∀D,IsItemIterOut D z d (i+1) es.size ep e.key e.val s.heap.objs.size->D.get? s.heap.objs.size=U {cls:= .type "tuple",data:= .seq #[e.key,e.val]}->D.objs.size=s.heap.objs.size+1->
   (∀b o,b≠z->s.heap.get? b=U o->D.get? b=U o)->Q (U<|.ref s.heap.objs.size) {s with heap:=D}):U6 (Vq prog w) A (YK<|.ref z) Q E s:=by
 obtain⟨m,g,R,T,G⟩:=s;have t:Shared.TypeIs ⟨m,g,R,T,G⟩ (.ref z) "dict_itemiterator":=⟨_,l,Z⟩;have o7:i<es.size:=by
  obtain h|h:=Nat.lt_or_ge i _
  .exact h
  .simp[Xv h]at K
 obtain rfl:es[i]=e:=by rw[YL o7]at K;exact Vt K
 unfold YK;refine My<|YG (wpAny_callSpecial?_slot t WT
  (VD WT t F.entry_dict_itemiterator_next ?_<|F.args_dict_itemiterator_next_1 _))
 refine My<|UF<|My<|My ?_
 first|refine My (Yo t (UF ?_))|refine My (Y8 t (UF ?_))
 refine My<|ZG l Z ?_;show U6 _ _ (if(Vh d==VH)=O then _ else _) _ _ _;refine My<|UF<|My<|YQ f5 M ?_;rw[UU rc];refine My<|UF<|My<|Zj f5 M ?_;rw[UU rc];apply UF;simp only[VS,Wc,YL o7];apply My
 first|refine My (Yo t (UF ?_))|refine My (Y8 t (UF ?_))
 refine My<|wpAny_isOneOf_itemiter t ?_;show U6 _ _ (setField _ 3 (Yy<|(i:Int)+1)>>=_) _ _ ⟨m,g,R,T,G⟩;refine My<|WD l rc λv a c=>?_
 replace c:Vy z m v:=c
 have k:Shared.TypeIs ⟨v,g,R,T,G⟩ (.ref z) "dict_itemiterator":=⟨_,a,Z⟩;refine My<|Wf<|My<|wpAny_isOneOf_itemiter k<|My<|wpAny_isOneOf_itemiter k ?_;refine My<|wpAny_newTuple ?_;have f:IsItemIter (v.push {cls:= .type "tuple",data:= .seq #[es[i].key,es[i].val]}) z d _ _ ep ok ov:=UH _ a;have j:=c.1;have X:=VJ<|Vm l;have u:(v.push {cls:= .type "tuple",data:= .seq #[es[i].key,es[i].val]}).get? m.objs.size=U {cls:= .type "tuple",data:= .seq #[es[i].key,es[i].val]}:=by rw[<-j];exact U7 _ Z
 have y:(v.push {cls:= .type "tuple",data:= .seq #[es[i].key,es[i].val]}).objs.size=m.objs.size+1:=by rw[WB,j]
 have B:∀b o,b≠z->m.get? b=U o->(v.push {cls:= .type "tuple",data:= .seq #[es[i].key,es[i].val]}).get? b=U o:=λb o W e=>UH _<|c.extBut b o W e;generalize v.push {cls:= .type "tuple",data:= .seq #[es[i].key,es[i].val]}=h₂ at*;rw[j];apply My;refine My<|Wp f Z Z<|UF ?_;refine My<|Wp f Z (x:=ok) Z<|My<|Wp f Z (x:=ov) Z<|My<|WD f rc λn C H=>(My<|WD C rc λp I J=>(My<|WD I rc λq L N=>?_));refine My<|WD L rc λr o9 P=>?_;have o8:=((show Vy z _ n from H).trans (show Vy z n p from J)).trans<|(show Vy z p q from N).trans (show Vy z q r from P);exact My<|wpAny_letGo<|UF<|UF ⟨_,Z,UF<|S r o9 (o8.extBut _ _ X.symm u) (by rw[o8.1,y]) λb o W e=>o8.extBut b o W<|B b o W e⟩
theorem Ku(g:A.handled=Y)(c:IsItemIter s.heap z d i es.size ep ok ov)(f:s.heap.get? d=U od)(v:od.data= .dict es ep)(G:es.size<=i)
  (h:∀D,Heap.ExtBut z s.heap D->Q Y {s with heap:=D}):U6 (Vq prog w) A (YK<|.ref z) Q E s:=by
 have e:s.TypeIs (.ref z) "dict_itemiterator":=⟨_,c,Z⟩;refine My<|YG (wpAny_callSpecial?_slot e WT
  (VD WT e F.entry_dict_itemiterator_next ?_<|F.args_dict_itemiterator_next_1 _))
 refine My<|UF<|My<|My ?_
 first|refine My (Yo e (UF ?_))|refine My (Y8 e (UF ?_))
 refine My<|ZG c Z ?_;show U6 _ _ (if(Vh d==VH)=O then _ else _) _ _ s;refine My<|UF<|My<|YQ f v ?_;rw[UU rc];refine My<|UF<|My<|Zj f v ?_;rw[UU rc];apply UF;simp only[VS,Wc,Xv G];apply My
 first|refine My (Yo e (UF ?_))|refine My (Y8 e (UF ?_))
 show U6 _ _ (setField _ 2 _>>=_) _ _ s;refine My<|Yn c Z rc ?_;apply My;refine My (VE (My<|Yu (by first|rfl|(simp only;rfl)) ?_)<|by size_fits)
 refine VE ?_ (by size_fits);simp only;refine My<|wpAny_handled ?_;rw[show A.in1.handled=Y from g];refine My<|UF<|wpAny_throw ?_;exact My<|W3 ⟨_,U7 _ Z,Z⟩ isSubtype_stop<|UF<|h _<|((Wu ..).extBut.push _).push _
theorem Ks(v:(d==ZW)=UK)(a:s.heap.get? d=U od)(c:od.cls= .type "dict")(i:od.data= .dict es ep)
  (h:Q (.ref s.heap.objs.size) {s with heap:=s.heap.push {cls:= .type "dict_keyiterator",data:= .fields #[.ref d,.int 0 0,.int es.size 0,.int ep 0]}}):U6 (Vq prog w) A (pyIter<|.ref d) Q E s:=by
 have b:s.TypeIs (.ref d) "dict":=⟨od,a,c⟩;refine ZH b F.slot_dict_iter<|VD F.slot_dict_iter b F.entry_dict_iter ?_<|F.args_dict_iter_1 _;refine My<|My<|wpAny_notOrdered_dict b ?_;apply UF;show U6 _ _ (Y0 d>>=_) _ _ s;unfold Y0;rw[UU<|by rw[v];exact UX];refine My<|UF<|My<|YQ a i<|My<|Zj a i<|My<|VE<|UF ⟨_,Z,"dict_keyiterator",_,⟨_,U7 _ Z,Z⟩,Xw.lookup,?_⟩;simpa[Yy]using h
theorem Kr{e}(c:s.heap.IsKeyIter z d i es.size ep)(j:s.heap.get? d=U od)(D:od.data= .dict es ep)(G:es[i]?=U e)
  (k:∀v,v.IsKeyIter z d (i+1) es.size ep->Vy z s.heap v->Q (U e.key) {s with heap:=v}):U6 (Vq prog w) A (YK<|.ref z) Q E s:=by
 obtain⟨o,g,l,f⟩:=id c;have b:=c.typeIs;obtain⟨h,rfl⟩:=VZ.mp G;refine My<|YG<|wpAny_callSpecial?_slot b Xw<|VD Xw b F.entry_dict_keyiterator_next ?_<|F.args_dict_keyiterator_next_1 _;refine My<|UF<|My<|My ?_
 first|refine My (Yv b (UF ?_))|refine My (Zf b (UF ?_))
 refine My<|ZG g f ?_;show U6 _ _ (if(Vh d==VH)=O then _ else _) _ _ s;refine My<|UF<|My<|YQ j D ?_;rw[UU rc];refine My<|UF<|My<|Zj j D ?_;rw[UU rc];apply UF;simp only[VS,Wc,YL h];apply My
 first|refine My (Yv b (UF ?_))|refine My (Zf b (UF ?_))
 refine My<|wpAny_isOneOf_keyiter b ?_;show U6 _ _ (setField _ 1 _>>=_) _ _ s;refine My<|Yn g f rc ?_;have a:(s.heap.update z<|Obj.mapFields (·.setIfInBounds 1 (Yy<|(i:Int)+1))).IsKeyIter z d (i+1) es.size ep:=⟨_,XM _ g<|Zv<|WI f _,(PySem.Obj.cls_mapFields ..).trans l,by rw[WI f];simp[Yy]⟩;refine My<|Wf<|My<|wpAny_isOneOf_keyiter a.typeIs ?_;exact UF<|UF ⟨_,Z,UF<|k _ a<|Wu ..⟩
theorem Mw(j:A.handled=Y)(e:s.heap.IsKeyIter z d i es.size ep)(f:s.heap.get? d=U od)(v:od.data= .dict es ep)(G:es.size<=i)
  (k:∀D,Heap.ExtBut z s.heap D->Q Y {s with heap:=D}):U6 (Vq prog w) A (YK<|.ref z) Q E s:=by
 obtain⟨o,g,l,h⟩:=id e;have c:=e.typeIs;refine My<|YG<|wpAny_callSpecial?_slot c Xw<|VD Xw c F.entry_dict_keyiterator_next ?_<|F.args_dict_keyiterator_next_1 _;refine My<|UF<|My<|My ?_
 first|refine My (Yv c (UF ?_))|refine My (Zf c (UF ?_))
 refine My<|ZG g h ?_;show U6 _ _ (if(Vh d==VH)=O then _ else _) _ _ s;refine My<|UF<|My<|YQ f v ?_;rw[UU rc];refine My<|UF<|My<|Zj f v ?_;rw[UU rc];apply UF;simp only[VS,Wc,Xv G];apply My
 first|refine My (Yv c (UF ?_))|refine My (Zf c (UF ?_))
 show U6 _ _ (setField _ 0 _>>=_) _ _ s;refine My<|Yn g h rc ?_;apply My;refine My (VE (My<|Yu (by first|rfl|(simp only;rfl)) ?_)<|by size_fits)
 refine VE ?_ (by size_fits);simp only;refine My<|wpAny_handled ?_;rw[show A.in1.handled=Y from j];refine My<|UF<|wpAny_throw ?_;exact My<|W3 ⟨_,U7 _ Z,Z⟩ isSubtype_stop<|UF<|k _<|((Wu ..).extBut.push _).push _
def KIt(h:V0)(I d:UM)(es:Array XN)(ep i:Nat):Prop:=h.IsKeyIter I d i es.size ep/\∃od,h.get? d=U od/\od.data= .dict es ep
theorem GJ(q:A.handled=Y)(j:I≠d):Walks prog w A I [I,d] [I] es.size (λi v=>∃e,es[i]?=U e/\v=e.key) (λi h=>KIt h I d es ep i) where
 sub:=λb a=>by simp at a;simp[a]
 frame:=λ_ _ _ D m=>by
  obtain⟨⟨o,r,t⟩,od,c,f⟩:=D;exact⟨⟨o,m I (by exact .head _) o r,t⟩,od,m d rc od c,f⟩
 item:=λi s Q E u D g=>by
  obtain⟨D,od,c,f⟩:=D;have n:=getElem?_pos es i u;exact Kr D c f n λG k p=>g _ G _ ⟨_,n,Z⟩ ⟨k,od,p.extBut d od (Ne.symm j) c,f⟩ λb o a e=>p.extBut b o (λz=>a<|by simp[z]) e
 done:=λs Q E D g=>by
  obtain⟨D,od,c,f⟩:=D;exact Mw q D c f (UV _) λG l=>g G _ λb o a e=>l b o (λz=>a<|by simp[z]) e
 self:=λ_ _ _ _ D g=>wpAny_pyIter_keyiter D.1 g
end
end L2.Hs
namespace L2.Hs
open PySem.SetTable
section
variable{prog:Vw}{w:VC}{A:V3}{E:ϕ}{s:UW}
theorem zq{o:Wd}{es:Array XN}(z:A.handled=Y)(hs:(a==ZW)=UK)(o9:s.heap.get? a=U o)(y:o.cls= .type "dict")(S:o.data= .dict es ep)
  (aa:es.size<=1000)
  (hQ:∀M P V,(∀b o,s.heap.get? b=U o->M.get? b=U o)->s.heap.objs.size<=M.objs.size->s.toks<=P->V=es.toList.map (·.key)->Q V {s with heap:=M,toks:=P}):U6 (Vq prog w) A (collect<|.ref a) Q E s:=by
 unfold collect;refine My<|wpAny_runValue<|codeAny_builtin F.entry_proto_collect ?_;rw[Zt F.plain_proto_collect _];show U6 _ A.in1 (newList []>>=λl=>again<|.builtin "list.__iadd__" ⟨[l,.ref a],[]⟩) _ _ s;refine My<|VE ?_;refine UF ⟨plainId_quiet F.plain_list_iadd _,codeAny_builtin F.entry_list_iadd ?_⟩;rw[Zt F.plain_list_iadd _];have x:=Vm o9;have h:(s.heap.push {cls:= .type "list",data:= .seq ([]:ό).toArray}).get? a=U o:=UH _ o9;have B:(s.heap.push {cls:= .type "list",data:= .seq ([]:ό).toArray}).get? s.heap.objs.size=U {cls:= .type "list",data:= .seq ([]:ό).toArray}:=U7 _ Z;have r:s.heap.objs.size≠a:=XB x;have v:Yz (.ref s.heap.objs.size) (.ref a)=UK:=by simp[Yz,r]
 have C:(⟨s.heap.push {cls:= .type "list",data:= .seq ([]:ό).toArray},s.gens,s.drawn,s.toks,s.os⟩:UW).TypeIs (.ref a) "dict":=⟨o,h,y⟩;show U6 _ A.in1 (X8 (.ref s.heap.objs.size) (.ref a)<|.ref s.heap.objs.size) _ _ _;unfold X8;refine My<|ZI C ?_;rw[UU<|by rw[v];decide];refine My<|Ks hs h y S ?_;refine My<|Wf ?_;unfold Builtin.List.listLengthHint;have n:(⟨(s.heap.push {cls:= .type "list",data:= .seq ([]:ό).toArray}).push {cls:= .type "dict_keyiterator",data:= .fields #[.ref a,.int 0 0,.int es.size 0,.int ep 0]},s.gens,s.drawn,s.toks,s.os⟩:UW).TypeIs (.ref a) "dict":=⟨o,UH _ h,y⟩;refine My (XD n F.slot_dict_len.lookup ?_)
 (generalize t:("dict.__len__":String)=id0;wp_delta;rw[show splitId id0=U ("dict","__len__")from by subst t;decide +kernel];subst t)
 refine My<|W3 (b:=O) n (by rw[ZF];kernel_rfl) ?_;rw[UU rb];show U6 _ _ (if _ then _ else _) _ _ _;rw[US rb];refine My<|ZI n ?_;refine UF ?_;rw[US rb];refine My<|XV ?_;have R:(s.heap.push {cls:= .type "list",data:= .seq ([]:ό).toArray}).objs.size=s.heap.objs.size+1:=by rw[size_push']
 generalize j:(s.heap.push {cls:= .type "list",data:= .seq ([]:ό).toArray}).push {cls:= .type "dict_keyiterator",data:= .fields #[.ref a,.int 0 0,.int es.size 0,.int ep 0]}=f;have T:f.get? s.heap.objs.size=U (Xr "list" #[] 0):=by rw[<-j];exact UH _ B
 have gI:f.get? (s.heap.objs.size+1)=U {cls:= .type "dict_keyiterator",data:= .fields #[.ref a,.int 0 0,.int es.size 0,.int ep 0]}:=by rw[<-j,<-R];exact U7 _ Z
 have ga:f.get? a=U o:=by rw[<-j];exact UH _ h
 have p:∀b g,s.heap.get? b=U g->f.get? b=U g:=λb g e=>by rw[<-j];exact UH _<|UH _ e
 unfold Builtin.List.listTouch;refine My<|My<|Ze T Z ?_ (by show 0<=_;lia) (by show 1<=_;lia);obtain⟨o7,X⟩:∃o7,(f.update s.heap.objs.size<|Wj λD=>D.push VH).get? s.heap.objs.size=U (Xr "list" #[VH] o7):=⟨_,get?_update_seq T λD=>D.push VH⟩;refine Ze X Z ?_ (by show 1<=Ve;decide) (by show 0<=_;lia);obtain⟨H,o8⟩:∃H,((f.update s.heap.objs.size<|Wj λD=>D.push VH).update s.heap.objs.size<|Wj λD=>D.pop).get? s.heap.objs.size=U (Xr "list" #[] H):=⟨_,get?_update_seq X λD=>D.pop⟩;have c:∀b g,b≠s.heap.objs.size->f.get? b=U g->((f.update s.heap.objs.size<|Wj λD=>D.push VH).update s.heap.objs.size<|Wj λD=>D.pop).get? b=U g:=λb g q e=>by
  rw[W6 _ _ _ _ q,W6 _ _ _ _ q];exact e
 generalize (f.update s.heap.objs.size<|Wj λD=>D.push VH).update s.heap.objs.size (Wj λD=>D.pop)=h4 at o8 c;have J:s.heap.objs.size+1≠a:=XB<|X1 x;have st:KIt h4 (s.heap.objs.size+1) a es ep 0:=⟨⟨_,c _ _ ln gI,Z,Z⟩,o,c a o (Ne.symm r) ga,S⟩;have W:=GJ (prog:=prog) (w:=w) (A:=A.in1) (I:=s.heap.objs.size+1) (d:=a) (es:=es) (ep:=ep) z J;show U6 _ _ (again _) _ _ _;rw[R];refine UF ⟨plainId_quiet F.plain_extend_loop _,codeAny_extend_loopS W.toS (by rw[WN];lia) s.heap.objs.size (by simp;lia) _ es.size 0 _ #[] H Z (VL _) st o8 (ItemsOf.nil _) λG k c' K u m=>?_⟩;show U6 _ A (load s.heap.objs.size>>=_) _ _ G;refine My<|wpAny_load u ?_;refine UF ?_;have L:G={s with heap:=G.heap,toks:=G.toks}:=by
  have v:=K.gens;have f:=K.drawn;have f5:=K.os;obtain⟨a1,a2,a3,a4,a5⟩:=G;simp only at v f f5;subst v f f5;rfl
 rw[L];refine hQ _ _ _ (λb g e=>?_) (Yj<|Vm u) K.toks ?_
 .have q:=Vm e
  exact K.heap b g (by simp only[U4,Wr,Y3,not_or];exact⟨VJ q,VJ<|X1 q⟩)<|c b g (VJ q)<|p b g e
 .refine WZ (by rw[Vp,UD,Vp,m.1]) λi q1 q2=>?_
  have N:i<k.size:=by simpa using q1
  obtain⟨e,he,hv⟩:=m.2 i _<|getElem?_pos k i N;rw[XQ,hv,XE,XQ];obtain⟨z1,z2⟩:=VZ.mp he;rw[z2]
theorem zC{o}{K}{xs:ϡ}(u:A.handled=Y)(V:(a==ZW)=UK)(v:s.heap.get? a=U o)(y:o.cls= .type vQ)(I:o.data= .dict K T)(t:K.toList.map (·.key)=xs.map λk=>Vh k.2)(q:(xs.map (·.1)).Nodup)(S:∀{B:V3},B.units<=A.units+3->Srb prog w B is)(J:∀x∈xs,is s.heap x.1 x.2)(C:ϱ xs<64)
  (h:∀(l:UM) (D:V0) (g r:Nat) (i:ϡ),i.Perm xs->Up (i.map (·.1))->D.get? l=U (Xr lQ (i.map λk=>Vh k.2).toArray r)->s.heap.objs.size<=l->(∀b o,s.heap.get? b=U o->D.get? b=U o)->s.toks<=g->Q (.ref l) {s with heap:=D,toks:=g}):
  U6 (Vq prog w) A (call (.builtin AB) [.ref a]) Q E s:=by
 have F:K.size=ϱ xs:=by rw[<-Vp,<-UD,t,UD]
 apply Calls.call_function_entry kind_sorted plain_sorted entry_sorted (args_sorted1 _);refine My<|UF<|My<|zq u V v y I ln λj g R G n M pv=>?_;rw[t]at pv;subst pv;refine My (wpAny_newList ?_<|by rw[UD,WN];lia);have c:∀b d,s.heap.get? b=U d->(j.push<|Xr lQ (xs.map λk=>Vh k.2).toArray 0).get? b=U d:=λb d e=>UH _<|G b d e;have p:(j.push<|Xr lQ (xs.map λk=>Vh k.2).toArray 0).get? _=U _:=U7 _ Z;refine My<|Wf<|VD slot_list_sort ⟨_,p,Z⟩ entry_list_sort (vM (S ?_) p (λk H=>(S<|Xi _ 3).fr (J k H) λb o _=>c b o) q (by omega) λD i r L N f P=>⟨_,Z,?_⟩)<|args_list_sort _
 .first|(show A.units+1<=A.units+3;lia)|(show A.units+2<=A.units+3;lia)|(show A.units+3<=A.units+3;lia)|(show A.units<=A.units+3;lia)
 .refine UF ⟨_,Z,h _ D g r i L N f n (λb d e=>P b d (λz=>?_)<|c b d e) M⟩
  have:=Vm e;exact Vl (z▸this)<|Nat.not_lt.mpr n
open PySem.W (kat_lt kat_cons kat_yes kat_no kat_nil kat_one)
theorem JW:∀l m:ώ,HT.lexLt l m=cu l m
 |[],[]=>rfl
 |[],_::_=>rfl
 |_::_,[]=>rfl
 |a::l,b::m=>by rw[HT.lexLt_cons,JW l m];rfl
theorem yU(h:PySem.ItemsAre (intKind prog w) b c):Zy c b:=by
 induction h with
 |nil=>exact .nil
 |cons a _ s=>
  obtain⟨t,rfl⟩:=Value.isInt_shape a;exact .cons _ t s
theorem lt_p{x y}(j:A.units+1<Zp)(D:J_ prog w s.heap x a)(G:J_ prog w s.heap y b)(h:Q (cu (x.1::x.2)<|y.1::y.2) s):U6 (Vq prog w) A (keyLt' (tuples' O) (.ref a)<|.ref b) Q E s:=by
 obtain⟨o,n,t,c,k,_,K,i⟩:=D;obtain⟨F,H,M,I,e,_,f,d⟩:=G;apply kat_lt k K e f;unfold cu at h;refine kat_cons<|wpAny_eqBool_int ?_;by_cases z:x.1=y.1
 .rw[US z]at h
  rw[show(x.1==y.1)=O by rw[Yc];exact z];refine kat_yes<|kat_cons<|(iD _ w).eqBool (Nat.lt_of_succ_lt j) i d ?_;by_cases g:x.2=y.2
  .rw[U3 g]
   rw[g,i5]at h;exact kat_yes<|kat_nil h
  .rw[Vv g]
   obtain⟨l,J,m,p,q,r,u⟩:=i;obtain⟨o2,L,v,f1,f2,B,C⟩:=d;exact kat_no (kat_one _ _<|HT.lt_tupInts ⟨l,p,q,m,r⟩ ⟨o2,f1,f2,v,B⟩ (yU u) (yU C) ln<|by rw[JW];exact h)
 .rw[UU z]at h
  rw[show(x.1==y.1)=UK by rw[beq_eq_false_iff_ne];exact z];exact kat_no<|oneLt_int h
abbrev kl(b:Bool)(k:d5):ώ:=cond b (k.1::k.2) k.2
def isB(prog:Vw)(w:VC)(b:Bool)(h:V0)(k:ώ)(x:UM):Prop:=∃y,k=kl b y/\(KB prog w b).is h y x/\1<=k.length
theorem SZ(j:A.units+1<Zp):∀b,Srb prog w A<|isB prog w b
 |false=>⟨λT k=>by obtain⟨y,e,⟨z,g⟩,l⟩:=T;exact ⟨y,e,⟨z,((DG (A:=A)).fr ⟨g,by rw[e]at l;exact l⟩ k).1⟩,l⟩,λF=>by obtain⟨y,e,⟨z,g⟩,l⟩:=F;exact (DG (A:=A)).tup ⟨g,by rw[e]at l;exact l⟩,λV W h=>by obtain⟨y,e,⟨_,g⟩,_⟩:=V;obtain⟨B,c,⟨_,D⟩,_⟩:=W;exact JK g D<|by rw[e,c]at h;exact h⟩
 |true=>⟨λX k=>by obtain⟨y,e,⟨o,n,t,b,d,a,f,p,s,m,q,i,r,u⟩,l⟩:=X;exact ⟨y,e,⟨o,n,t,b,k _ _ a d,a,f,p,s,m,k _ _ i q,i,r,u⟩,l⟩,λH=>by obtain⟨y,e,⟨o,n,t,b,d,a,f,_⟩,l⟩:=H;exact ⟨o,_,n,y.1,t,d,a,f,Z⟩,λC x h=>by obtain⟨y,e,E,_⟩:=C;obtain⟨z,c,v,_⟩:=x;exact lt_p j E v<|by rw[e,c]at h;exact h⟩
theorem Tx{l:Ϯ}(s:l.Nodup)(h:b=UK->∀x∈l,x.1=0):(l.map<|kl b).Nodup:=Xo.mpr<|s.imp_of_mem λ{x y} w A D e=>D (by
 cases b with
 |true=>exact Xu (YH e).1 (YH e).2
 |false=>exact Xu ((h Z x w).trans (h Z y A).symm) e)
end
section
variable{X:Cx}
abbrev kA(b:Bool)(y:d5×UM×V):ώ×UM:=(kl b y.1,y.2.1)
def rP(K:Vb):ύ->Hp->VK->Prop:=λE H Q=>∃a b G D,E=[.ref a]/\H a=U (c8 a b G D)/\(∀x∈D,y_ K H b x.1 x.2.1/\1<=(kl b x.1).length)/\D.length<64/\
 ∀(l:UM) (c:ϡ),H l=Y->c.Perm (D.map<|kA b)->Up (c.map (·.1))->Q (.ref l) (upd H l<|.lst<|c.map λz=>V.ref z.2)
theorem M7:∀{xs:ϩ} {D:a0C},Z9 XY xs D->xs.map (kA b)=D.map λy=>(kl b y.1,y.2.1)
 |_,_,.nil=>rfl
 |_,_,.cons h t=>by
  rw[UZ,UZ,M7 t];simp_all
theorem iJ(j:X.calm=O)(P:X.A.units+64<Zp):cT X (.builtin AB) (rP X.K):=by
 intro g s T H xs us Q I r h;obtain⟨a,b,ep,S,rfl,m,E,hn,q⟩:=h;obtain⟨u,rfl,n⟩:=gR r;cases n;obtain⟨J,⟨o,es,t,v,w,B,C,h5,F⟩,p,W,f⟩:=lh I m λx h=>(E x h).1;have i:=M7 (b:=b) p;refine zC (xs:=S.map<|kA b) (I.ok.hd j) f v w.1 B ?_ ?_ (λhB=>SZ ln b) ?_ (by rw[UD];exact hn) λl h' L N c j f5 P M D R=>?_
 .rw[C,i,UR,UR];rfl
 .have:=Tx (b:=b) F λe x d=>by
   subst e;rw[<-(mw p)]at d;obtain⟨y,G,rfl⟩:=UL.mp d;exact(E y G).1.1
  rw[UR]at this;rw[i,UR];exact this
 .intro x d
  obtain⟨y,G,rfl⟩:=UL.mp d;exact⟨y.1,Z,n5 I (E y G).1,(E y G).2⟩
 .refine⟨.ref l,_,I.laid (o:= .lst<|c.map λz=>V.ref _) D M ⟨?_,c.map λk=>Vh _,N,?_,P⟩,Z,q l c (I.hok.fresh M) j f5⟩
  .rw[UD,j.length_eq,UD,WN];lia
  .exact oS c
end
end L2.Hs
namespace L2.Pu
section
variable{X:Cx}{E:ϔ}{K:Vb}{a b:Expr}{es:List Expr}{pos:Ye}
theorem To.none(t:To F H H1 f)(h:H1 p=Y):H p=Y:=by
 cases q:H p with
 |none=>rfl
 |some o=>
  have:=t.kp p o q λb l e=>by
   obtain⟨c,d⟩:=t.fr.bag b l e;exact⟨λw=>(by subst w;simp_all),λw=>(by subst w;simp_all)⟩
  simp_all
noncomputable def Fx.but(F:Fx)(a:UM):Fx:=⟨λc=>F.A c\/c=a,F.bg⟩
theorem Fx.tr_but(fr:Fr F H g)(d:H p=Y)(a:∀c o,H c=U o->H1 c=U o):Tr F H (F.but p) H1:=⟨λc e f z=>by
 obtain z|z:=z
 .exact e z
 .subst z;exact f d,λc o _ h=>a c o h,Z⟩
theorem Fx.tr_of{F:Fx}:Tr (F.but p) H F H:=⟨λc h _ z=>h<|WU z,λ_ _ _ h=>h,Z⟩
def iN(K:Vb)(F:Fx)(D H:Hp)(E:ϋ)(v:V):Prop:=∃a b,v= .ref a/\D a=Y/\H a=U (.lst b)/\a_ K (F.but a) H E b
def tVO(K:Vb)(f:FL)(E:ϔ):TE:=λc H Q=>∃F a b,Fr F H b/\i_ K F H a c/\run (iN K F H) F E c (f a) H Q b
def tVG(K:Vb)(f:Dn->M Ϝ)(E:ϔ):TE:=λc H Q=>∃F a b,Fr F H b/\i_ K F H a c/\run (jL K F H) F E c (f a) H Q b
noncomputable def szL(ds:ϋ):Ϧ:=if ds.length<=Ve then U ds else Y
def Tq(a:ϋ->Ϧ)(g:FL):FL:=λb=>M.bind (g b) λD=>M.ofO<|a D
theorem iN.new(t:To F H H1 f)(d:H1 p=Y)(a:a_ K F H1 g e):iN K F H (upd H1 p<|.lst e) g (.ref p):=
 ⟨p,e,Z,t.none d,ay,a_.tr (Fx.tr_but t.fr d λc o h=>by rw[bb<|aR h d];exact h) _ _ a⟩
def N6(K:Vb)(r:a0J)(M:ϋ->Ϧ):Prop:=∀(F:Fx) (a H:Hp) (b:Bg) (Q:VK) (D E:ϋ) (G:ύ),To F a H b->a_ K F H D G->M D=U E->
 (∀v c,To F H c b->iN K F a c E v->Q v c)->r G H Q
theorem L6(i:cT X (.type T) r)(l:N6 X.K r op)(j:Gl X x)(b:X.mg x=Y)(m:Yx x=U (.type T))(D:PA X (e::es)<|ix X.K g E)(G:autoParam (x≠vU) z7)(c:autoParam (ϟ x) z7)
  (n:autoParam (Ϛ X e es) z6) (d:autoParam (ϣ X pos es) z6):PE X (.Call (.Name x p) (e::es) [] pos) (tVO X.K (Tq op g) E):=
 (v6 i j b m D G c n d).imp λv H Q f=>k4 f λF M S fr o h=>⟨F,M,S,fr,o,(run.bind h).mono λV q f=>by
  obtain⟨s,a,t,w,y⟩:=f;obtain⟨z,u,k⟩:=run.ofO y;exact l F H q a Q s z V t w u k⟩
def NL:ϋ->Ϧ
 |[.lst xs]=>U xs
 |[.tup xs]=>U xs
 |_=>Y
theorem O6:N6 K (λb H Q=>∃p D,b=[.ref p]/\(e_ K H p D\/hW K H p D)/\∀l,H l=Y->Q (.ref l) (upd H l<|.lst D)) NL:=λF E H G Q M S V t h e k=>by
 unfold NL at e;split at e
 .cases e
  obtain⟨v,rfl,g⟩:=a_.one h;obtain⟨a,b,rfl,r,d⟩:=bi.sqL g;exact⟨a,b,Z,.inl r,λl c=>k _ _ (t.fr.upd _ c)<|iN.new t c d⟩
 .cases e
  obtain⟨v,rfl,g⟩:=a_.one h;obtain⟨a,b,rfl,r,d⟩:=bi.sqT g;exact⟨a,b,Z,.inr r,λl c=>k _ _ (t.fr.upd _ c)<|iN.new t c d⟩
 .cases e
theorem a_.rep(h:a_ K F H c d):∀n:Nat,a_ K F H (Vn n c).flatten (Vn n d).flatten
 |0=>rfl
 |n+1=>by
  rw[Wm,XW,Wm,XW];exact a_.append h<|a_.rep h n
noncomputable def yi(a:ϋ)(d:D):Ϧ:=match d with
 | .int k=>if(decide (-(2^63)<=k)&&decide (k<2^63)&&decide (a.length<=Ve)&&decide (a.length*k.toNat<=Ve))=O then U (Vn k.toNat a).flatten else Y
 |_=>Y
def EB(g:FL)(f:FD):FL:=λb=>M.bind (g b) λa=>M.bind (M.ofO<|szL a) λa=>M.bind (f b) λd=>M.ofO<|yi a d
theorem Tm(x:PA X es<|ix X.K g E)(o7:PE X b<|tV X.K f E):PE X (.BinOp (.List es pos') .Mult b pos) (tVO X.K (EB g f) E):=
 (eL Q2 (fM x) o7).imp λP H Q j=>k4 j λF G β fr B r=>⟨F,G,β,fr,B,(run.bind r).mono λD T j=>by
  obtain⟨ds,a,t,S,r1⟩:=j;obtain⟨R,n,W⟩:=run.ofO_bind r1;unfold szL at n;split at n
  .rename_i f5
   cases n;refine⟨by rw[<-S.length];exact f5,λp I=>?_⟩;have m:=t.fr.upd (.lst D) I;have J:=t.fr.fresh I;refine⟨F,G,a,m.fr,(B.tr<|t.tr fr).tr<|m.tr t.fr,?_⟩;obtain⟨L,V,e,h⟩:=W;have u:run (iN X.K F H) F E P (M.bind (f G) λd=>M.ofO<|yi ds d) (upd T p<|.lst D) Q a:=by
    refine⟨L,V,e,?_⟩;cases L with
    |ok d=>exact λv y c=>h v y<|m.trans c
    |error C=>exact λy c=>h y<|m.trans c
   refine(run.bind u).mono λw A j=>ro j λd aa c hw r3=>?_;obtain⟨os,i,k⟩:=run.ofO r3;unfold yi at i;split at i
   .split at i
    .rename_i kk o
     cases i;simp only[Vu,Vx]at o;cases hw;have s:=m.trans c;exact⟨p,_,D,Z,Z,c.kp p _ ay λb l q=>⟨λz=>J<|z▸(fr.bgA b l q).1,λz=>J<|z▸(fr.bgA b l q).2.1⟩,o.1.1.1,o.1.1.2,by rw[<-S.length];exact o.2,λq N=>k _ _ (c.fr.upd _ N)<|iN.new (t.trans s) N<|(a_.tr (s.tr t.fr) _ _ S).rep _⟩
    .cases i
   .cases i
  .cases n⟩
def jH(nv:Nat)(b4:ϊ)(it:Dn->M (List Pu.D))(tg:l_)(E:Ϥ)(b:Dn->M (List Pu.D)):Dn->M (List Pu.D):=λa G=>match it a G with
 |none=>Y
 |some (.error C,β1)=>U (.error C,β1)
 |some (.ok ds,β1)=>match oa tg E b ds (k_ nv b4 a) β1 with
  |some (.ok os,β2)=>if os.length<=Ve then U (.ok os,β2)else Y
  |_=>Y
theorem GX{S}{V}{X:Dn->M (List Pu.D)}{G}{I:ϧ}{b:Dn->M (List Pu.D)}(T:dz K g G)(f5:eY G)(W:∀D,mn K D (I D) b)(h:tVO K (jH (ϱ S) V X G s b) E L H Q):
  sQ S V (iV K X E) (λD J=>dU J g (io K s E0)<|I D) L H Q:=by
 obtain⟨F,δ,β,fr,N,r,k,e,h⟩:=h;unfold jH at e;refine⟨F,δ,β,fr,N,?_⟩;split at e
 .cases e
 .rename_i C β1 q
  cases e;exact⟨.error C,_,q,h⟩
 .rename_i ds β1 q
  split at e
  .rename_i os β2 q2
   split at e
   .rename_i o7
    cases e;refine⟨.ok ds,β1,q,λJ j t R D c=>?_⟩;have d:=t.fr.fresh c;have o8:=t.fr.upd (.lst []) c;have m:Fr ⟨λa=>F.A a\/a=D,F.bg⟩ (upd j D<|.lst []) β1:=by
     refine⟨λa ha z=>?_,λb l z=>let ⟨x,y,w⟩:=fr.bgA b l z;⟨.inl x,.inl y,w⟩,o8.fr.bag⟩
     obtain ha|ha:=ha
     .exact o8.fr.occ a ha z
     .subst ha;rw[ay]at z;cases z
    have f:Tr F j ⟨λa=>F.A a\/a=D,F.bg⟩ (upd j D<|.lst []):=⟨λa ha hs z=>by
     obtain z|z:=z
     .exact ha z
     .subst z;exact hs c,λa o ha z=>by rw[bb<|aR z c];exact z,Z⟩
    refine qE (as:=[]) T f5 (W D) m (.inr Z) (λb l z=>⟨λw=>d<|w▸(fr.bgA b l z).1,λw=>d<|w▸(fr.bgA b l z).2.1⟩) (uz<|N.tr<|(t.tr fr).trans f) ⟨[],ay,Z⟩ (R.tr f) q2 (show ϱ os<=Ve from o7) λaa P p ab u=>?_;obtain⟨i,v,B⟩:=u;have tf:To F j P k:=by
     refine⟨λa o z n=>p.kp a o (by rw[bb<|aR z c];exact z) (aR z c) n,λa ha z=>p.fr.occ a (WU ha) z,fr.bgA,p.fr.bag⟩
    exact h _ P (t.trans tf) ⟨D,i,Z,t.none c,v,B⟩
   .cases e
  .cases e
def sD(E:l_)(G:Ϥ)(b:Dn->M (List<|List Pu.D)):List Pu.D->Dn->M (List<|List Pu.D)
 |[],_=>M.ret []
 |d::ds,δ=>match E d δ with
  |none=>M.fail
  |some a=>M.bind (G a) λc=>M.bind (if c=O then b a else M.ret []) λo=>M.bind (sD E G b ds δ) λK=>M.ret<|o++K
def S_(K:Vb)(F:Fx)(D:UM)(E H:Hp)(G:List<|List Pu.D)(a:ύ):Prop:=(∀c,E c≠Y->H c≠Y)/\∃b,a=b.map V.ref/\(D::b).Nodup/\bG K F H (λr=>E r=Y) G b
theorem S_.mono{D}(g:F.A D)(i:∀b l,F.bg=U (b,l)->H0 b≠Y/\H0 l≠Y)(fr:Fr F H β)(t:pb F D H H1 β1)(h:S_ K F D H0 H as n):S_ K F D H0 H1 as n:=by
 obtain⟨cv,G,e,a,j⟩:=h;refine⟨λc k z=>?_,G,e,a,bG.tr (t.tr fr g) j λr M m p q=>⟨p,t.kp r _ q (λz=>?_) λb l w=>⟨λz=>?_,λz=>?_⟩⟩⟩
 .cases q:H c with
  |none=>exact cv c k q
  |some o=>
   by_cases E:c=D
   .subst E;exact t.fr.occ _ g z
   .by_cases d:∃b l,F.bg=U (b,l)/\(c=b\/c=l)
    .obtain⟨b,l,w,f⟩:=d
     obtain rfl|rfl:=f
     .exact t.fr.occ _ (fr.bgA _ _ w).1 z
     .exact t.fr.occ _ (fr.bgA _ _ w).2.1 z
    .rw[t.kp c o q E λb l w=>⟨λy=>d ⟨b,l,w,.inl y⟩,λy=>d ⟨b,l,w,.inr y⟩⟩]at z
     cases z
 .subst z;simp_all
 .subst z;exact(i _ _ w).1 p
 .subst z;exact(i _ _ w).2 p
def uD(K:Vb)(D:UM)(i:TB)(f:Dn->M (List<|List Pu.D)):Prop:=∀(F:Fx) (E H:Hp) (G:Dn) (X d:Bg) (h:St) (a:ύ) (S V:List<|List Pu.D) (Q:a0H),Fr F H X->F.A D->(∀b l,F.bg=U (b,l)->D≠b/\D≠l)->(∀b l,F.bg=U (b,l)->E b≠Y/\E l≠Y)->i_ K F H G h->H D=U (.lst a)->S_ K F D E H S a->
 f G X=U (.ok V,d)->S.length+V.length<=Ve->(∀e g c,pb F D H g d->i_ K F g G e->g D=U (.lst c)->S_ K F D E g (S++V) c->Q e g)->i h H Q
def sE(f:Dn->M (List Pu.D)):Dn->M (List<|List Pu.D):=λa=>M.bind (f a) λd=>M.ret [d]
theorem bG.snoc(p:P r)(c:H r=U (.lst e))(d:a_ K F H f e):∀{a:List (List Pu.D)} {b:ϗ},bG K F H P a b->bG K F H P (a++[f]) (b++[r])
 |[],[],_=>⟨p,⟨e,c,d⟩,trivial⟩
 |_::_,_::_,h=>⟨h.1,h.2.1,bG.snoc p c d h.2.2⟩
 |[],_::_,h=>h.elim
 |_::_,[],h=>h.elim
theorem mZ{D}:uD K D (FV D<|tVO K f E0) (sE f):=λF G H s β j o7 E as os Q fr m p P R T S e u k=>by
 obtain⟨d,aa,e1,e2⟩:=M.bind_inv e;cases e2;refine⟨F,s,β,fr,R,E0.run e1 λv f5 t hv=>?_⟩;have w:=S.mono m P fr<|t.toD D;obtain⟨r,xs,rfl,g,n1,n2⟩:=hv;obtain⟨cv,X,A,nd,W⟩:=w;obtain⟨B,c,C,I,J⟩:=S;have i:ϱ E=ϱ as:=by rw[A,UD,W.len]
 have L:c=X:=by
  have:=C.symm.trans A;exact List.map_inj_right (λa b q=>by cases q;rfl)|>.mp this
 subst L;have nD:r≠D:=λz=>by subst z;rw[T]at g;cases g
 have nr:r∉c:=λz=>by
  obtain⟨_,ys,q⟩:=J.all r z;simp_all
 have N:G r=Y:=by
  cases q:G r with
  |none=>rfl
  |some o=>exact Vl g (B r<|by rw[q];simp)
 refine⟨E,t.kp D _ T p,by rw[i];simp at u;lia,?_⟩;have o8:pb F D f5 (upd f5 D<|.lst<|E++[.ref r]) j:=by
  refine⟨λa o h n _=>by rw[bb n];exact h,λa h q=>?_,fr.bgA,λb l q=>?_⟩
  .by_cases z:a=D
   .subst z;rw[ay]at q;cases q
   .rw[bb z]at q;exact t.fr.occ a h q
  .rw[bb (p b l q).1.symm,bb (p b l q).2.symm]
   exact t.fr.bag b l q
 refine k o7 _ _ ((t.toD D).trans o8) (R.tr<|(t.tr fr).trans (o8.tr t.fr m)) ay<|S_.mono m P t.fr o8 ⟨cv,c++[r],by rw[A,Vj];rfl,?_,bG.snoc N n1 (a_.tr Fx.tr_of _ _ n2) W⟩;rw[<-WY,List.nodup_append];refine⟨I,rc,λx hx y hy=>?_⟩;obtain rfl:y=r:=by simpa using hy
 obtain rfl|hx:=U4.mp hx
 .exact nD.symm
 .exact λz=>nr<|z▸hx
end
section
variable{X:Cx}{E:ϔ}{K:Vb}
theorem O5{D}(hg:dz K g tg)(sg:eY tg)(hb:uD K D tb b){as os:List (List Pu.D)}(fr:Fr F H β)(W:F.A D)(hn:∀b l,F.bg=U (b,l)->D≠b/\D≠l)(h0:∀b l,F.bg=U (b,l)->H0 b≠Y/\H0 l≠Y)(vk:i_ K F H z σ)(hD:H D=U (.lst acc))(hd:S_ K F D H0 H as acc)
  (it:B4 K J F H s) (e:sD tg tt b s z β=U (.ok os,β')) (hz:ϱ as+ϱ os<=Ve) (k:∀f n a,pb F D H n β'->i_ K F n z f->n D=U (.lst a)->S_ K F D H0 n (as++os) a->Q f n):dU J g (io K tt E0) tb σ H Q:=by
 refine⟨λi m f n=>m+i=ϱ s/\∃E a j t,pb F D H n E/\i_ K F n z f/\n D=U (.lst a)/\S_ K F D H0 n j a/\sD tg tt b (s.drop i) z E=U (.ok t,β')/\j++t=as++os,
  ⟨ϱ s,ln,β,acc,as,os,⟨λ_ _ h _ _=>h,fr⟩,vk,hD,hd,e,Z⟩,?_⟩
 rintro i m f n ⟨hm,E,a,j,t,u,y,B,C,r,ea⟩;obtain⟨iy,is⟩:=it F n E (u.tr fr W) u.fr i;cases o8:s[i]? with
 |none=>
  have f5:=List.getElem?_eq_none_iff.mp o8;rw[Xx f5]at r;cases r;refine .inl ⟨is ln,k f n a u y B ?_⟩;simp_all
 |some d=>
  have f5:=(UY.mp o8).1;obtain⟨go,yl⟩:=iy d o8;have ed:s.drop i=d::s.drop (i+1):=by
   rw[Wo f5];simp_all
  rw[ed]at r;unfold sD at r;cases q:tg d z with
  |none=>rw[q]at r;cases r
  |some G=>
   rw[q]at r;obtain⟨c,V,e2,e3⟩:=M.bind_inv r;obtain⟨o,S,X,e5⟩:=M.bind_inv e3;obtain⟨I,am,e6,e7⟩:=M.bind_inv e5;cases e7;obtain⟨s1,s2⟩:=sg _ _ _ q;refine .inr ⟨go,λL N=>∃p,pb F D H N S/\i_ K F N z L/\N D=U (.lst p)/\S_ K F D H0 N (j++o) p,?_,λx H2 hy=>?_⟩
   .rintro L N ⟨p,t9,vk9,hD9,hd9⟩
    exact⟨m-1,ln,ln,S,p,j++o,I,t9,vk9,hD9,hd9,e6,by rw[V5];exact ea⟩
   .obtain⟨sm,dx⟩:=yl x H2 hy
    have w:=u.fr.same sm;refine hg F H2 z G f d x _ (y.tr (w.tr u.fr)) dx q λac v=>⟨F,G,E,w.fr,v,E0.run e2 λc' H3 o9 ec=>?_⟩;subst ec;have P:=o9.kp D _ (sm _ _ B) hn;have R:=o9.tr w.fr;have d3:=(C.mono W h0 u.fr<|w.toD D).mono W h0 w.fr<|o9.toD D;have T:=u.trans<|(w.trans o9).toD D;have af:ϱ j+ϱ (o++I)<=Ve:=by
     have:=VR ZJ ea;simp only[Va]at this⊢;lia
    cases c' with
    |true=>
     rw[US Z]at X⊢;exact hb F H0 H3 G V S ac a j o _ o9.fr W hn h0 (v.tr R) P d3 X (by rw[Va]at af;lia) λao H4 o7 t4 ae ak ah=>⟨o7,T.trans t4,ae.sub s1 s2,ak,ah⟩
    |false=>
     rw[UU UX]at X⊢;cases X;exact⟨a,T,(v.tr R).sub s1 s2,P,by rw[VA];exact d3⟩
def iI(G:Nat)(K:ϊ)(S:Dn->M (List Pu.D))(V:l_)(X:Ϥ)(b:Dn->M (List<|List Pu.D)):Dn->M (List<|List Pu.D):=λE a=>match S E a with
 |none=>Y
 |some (.error C,β1)=>U (.error C,β1)
 |some (.ok ds,β1)=>match sD V X b ds (k_ G K E) β1 with
  |some (.ok os,β2)=>if os.length<=Ve then U (.ok os,β2)else Y
  |_=>Y
theorem vJ{S}{V}{X:Dn->M (List Pu.D)}{G}{I:ϧ}(T:dz K g G)(o7:eY G)(W:∀D,uD K D (I D) b)(h:tVG K (iI (ϱ S) V X G s b) E L H Q):
  sQ S V (iV K X E) (λD J=>dU J g (io K s E0)<|I D) L H Q:=by
 obtain⟨F,δ,β,fr,N,r,k,e,h⟩:=h;unfold iI at e;refine⟨F,δ,β,fr,N,?_⟩;split at e
 .cases e
 .rename_i C β1 q
  cases e;exact⟨.error C,_,q,h⟩
 .rename_i ds β1 q
  split at e
  .rename_i os β2 q2
   split at e
   .rename_i o8
    cases e;refine⟨.ok ds,β1,q,λJ f t f5 D d=>?_⟩;have i:=t.fr.fresh d;have o9:=t.fr.upd (.lst []) d;have m:Fr ⟨λa=>F.A a\/a=D,F.bg⟩ (upd f D<|.lst []) β1:=by
     refine⟨λa ha z=>?_,λb l z=>let ⟨x,y,w⟩:=fr.bgA b l z;⟨.inl x,.inl y,w⟩,o9.fr.bag⟩
     obtain ha|ha:=ha
     .exact o9.fr.occ a ha z
     .subst ha;rw[ay]at z;cases z
    have j:Tr F f ⟨λa=>F.A a\/a=D,F.bg⟩ (upd f D<|.lst []):=⟨λa ha hs z=>by
     obtain z|z:=z
     .exact ha z
     .subst z;exact hs d,λa o ha z=>by rw[bb<|aR z d];exact z,Z⟩
    have cv:∀c,H c≠Y->upd f D (.lst []) c≠Y:=λc hc z=>by
     by_cases w:c=D
     .subst w;rw[ay]at z;cases z
     .rw[bb w]at z;exact hc<|t.none z
    refine O5 (as:=[]) T o7 (W D) m (.inr Z) (λb l z=>⟨λw=>i<|w▸(fr.bgA b l z).1,λw=>i<|w▸(fr.bgA b l z).2.1⟩) (λb l z=>⟨fr.occ _ (fr.bgA b l z).1,fr.occ _ (fr.bgA b l z).2.1⟩) (uz<|N.tr<|(t.tr fr).trans j) ay ⟨cv,[],Z,rc,trivial⟩ (f5.tr j) q2 (by simpa using o8) λaa P R u ab v B=>?_;have tf:To F f P k:=by
     refine⟨λa o z n=>u.kp a o (by rw[bb<|aR z d];exact z) (aR z d) n,λa ha z=>u.fr.occ a (WU ha) z,fr.bgA,u.fr.bag⟩
    obtain⟨_,rs,ea,nd,rl⟩:=B;subst ea;exact h _ P (t.trans tf) ⟨D,rs,Z,t.none d,v,nd,bG.tr (F:=⟨λa=>F.A a\/a=D,F.bg⟩) ⟨λa ha _ z=>ha<|WU z,λa o _ z=>z,Z⟩ rl λr xs _ p q=>⟨p,q⟩⟩
   .cases e
  .cases e
section
variable{p q m:Expr}{o:List Expr}{n:Ϭ}{l:Scope}{pos:Ye}{r u:ϒ}{v:ϊ}{g:TG}{t:ϧ}
theorem Ra(c:X.calm=O)(S:cy X l r u v)(d:PI X q m<|iV X.K y E)
  (e:∀(G:ϝ) (C:UM) (a:ϗ) (s:UW) (H:Hp),PG (aY X r l G C a s H) q g/\e8 (aY X r l G C a s H) o (io X.K z E0)/\∀D,PB (aY X r l G C a s H) p (⟨q,m,o,0⟩::n) l pos 0 D<|t D)
  (f:dz X.K g w) (i:eY w) (j:∀D,mn X.K D (t D) b) (M:autoParam (∀x,V1 m X.env x=W2 x) z9):PE X (.ListComp p (⟨q,m,o,0⟩::n) l pos) (tVO X.K (jH (ϱ u) v y w z b) E):=
 (qw c S d e M).imp λk H Q h=>GX f i j h
theorem Se(c:X.calm=O)(S:cy X l r u v)(d:PI X q m<|iV X.K y E)
  (e:∀(G:ϝ) (C:UM) (a:ϗ) (s:UW) (H:Hp),PG (aY X r l G C a s H) q g/\e8 (aY X r l G C a s H) o (io X.K z E0)/\∀D,PB (aY X r l G C a s H) p (⟨q,m,o,0⟩::n) l pos 0 D<|t D)
  (f:dz X.K g w) (i:eY w) (j:∀D,uD X.K D (t D) b) (M:autoParam (∀x,V1 m X.env x=W2 x) z9):PE X (.ListComp p (⟨q,m,o,0⟩::n) l pos) (tVG X.K (iI (ϱ u) v y w z b) E):=
 (qw c S d e M).imp λk H Q h=>vJ f i j h
end
mutual
noncomputable def noL:D->Bool
 | .int _=>O
 | .bl _=>O
 | .str _=>O
 | .non=>O
 | .tup ds=>noLs ds
 |_=>UK
noncomputable def noLs:ϋ->Bool
 |[]=>O
 |d::ds=>noL d&&noLs ds
end
mutual
theorem AW{F b:Fx}(hF:∀c,b.A c->F.A c\/Ic H c):∀(d:D) (v:V),noL d=O->bi K F H d v->bi K b H d v
 | .int i,v,_,h=>h
 | .bl i,v,_,h=>h
 | .str i,v,_,h=>h
 | .non,v,_,h=>h
 | .tup ds,v,n,h=>by
  obtain⟨a,E,e,h1,f⟩:=h;refine⟨a,E,e,?_,noLs_den hF ds E (by simpa[noL]using n) f⟩;rcases h1 with⟨h1,r⟩|h1
  .refine .inl ⟨λz=>?_,r⟩
   rcases hF a z with z|⟨G,z⟩|⟨G,z⟩
   .exact h1 z
   .rcases r with r|⟨o,r⟩<;>rw[z]at r<;>cases r
   .rcases r with r|⟨o,r⟩<;>rw[z]at r<;>cases r
  .exact .inr h1
 | .lst _,_,n,_=>by simp[noL]at n
 | .scr _,_,n,_=>by simp[noL]at n
 | .ty _,_,n,_=>by simp[noL]at n
 | .txt,_,n,_=>by simp[noL]at n
 | .obj _ _ _,_,n,_=>by simp[noL]at n
 | .bag,_,n,_=>by simp[noL]at n
 | .adr _,_,n,_=>by simp[noL]at n
 | .dct _ _ _,_,n,_=>by simp[noL]at n
theorem noLs_den{F a:Fx}(hF:∀c,a.A c->F.A c\/Ic H c):∀(D:ϋ) (E:ύ),noLs D=O->a_ K F H D E->a_ K a H D E
 |[],E,_,h=>h
 |d::D,E,n,h=>by
  have b:noL d=O/\noLs D=O:=by simpa[noLs]using n
  obtain⟨x,f,e,g,i⟩:=h;exact⟨x,f,e,AW hF d x b.1 g,noLs_den hF D f b.2 i⟩
end
theorem bG.noL(hF:∀c,a.A c->F.A c\/Ic H c):∀{ai:Ϝ} {D:ϗ},(∀ds∈ai,noLs ds=O)->bG K F H P ai D->(∀r∈D,P2 r)->bG K a H P2 ai D
 |[],[],_,_,_=>trivial
 |ds::ai,r::D,n,h,p=>by
  obtain⟨f,⟨G,b,d⟩,e⟩:=h;exact⟨p r UP,⟨G,b,noLs_den hF _ _ (n ds UP) d⟩,bG.noL hF (λx E=>n x<|UI _ E) e λx E=>p x<|UI _ E⟩
 |[],_::_,_,h,_=>h.elim
 |_::_,[],_,h,_=>h.elim
theorem fh.newGrd{E}{d}(G:fh K H₀ B n H E p d)(t:To (ee B n) H H' o)(M:∀S∈ai,noLs S=O)(j:jL K (ee B n) H H' ai v):
  ∃e,fh K H₀ e n H' (E.set i<|U<|.grd ai) o (d.set i<|U v)/\hL B H e H':=by
 obtain⟨a,D,rfl,k,f,V,b⟩:=j;have g:∀c,c=a\/c∈D->H c=Y/\Ic H' c:=λc hc=>by
  obtain rfl|hc:=hc
  .exact⟨k,.inl ⟨_,f⟩⟩
  .exact⟨(b.all c hc).1,.inl (b.all c hc).2⟩
 exact G.claim _ t g λh l _=>⟨a,D,Z,h a<|.inl Z,f,V,bG.noL (λc hc=>(l c hc).imp id λw=>(g c w).2) M b λr m=>h r<|.inr m⟩
end
section
variable{X:Cx}{E:ϔ}{K:Vb}{st:VQ}{L:Hp}{B:Ow}{J:Ϫ}{H H':Hp}{δ:Ds}{β aa:Bg}{f5:St}
def sk(i:Nat)(f:Dn->M Ϝ):G:=λδ β=>match f (vw δ) β with
 |some (.ok ai,β1)=>if(ai.all noLs)=O then U (.nx<|δ.set i<|U<|.grd ai,β1)else Y
 |some (.error C,β1)=>U (.ex C δ,β1)
 |none=>Y
theorem Nm(h:PS X st<|ie (tVG X.K f E)<|fJ i):PS X st (tG X.K X.H₀ (sk i f) E):=h.imp λD f5 H g=>by
 obtain⟨B,J,δ,β,o,aa,ok,e,q⟩:=g;refine⟨ee B J,vw δ,β,ok.fr,ok.view,?_⟩;unfold sk at e;split at e
 .rename_i ai β1 b
  split at e
  .rename_i hn
   cases e;refine⟨.ok ai,_,b,λv H' t G=>?_⟩;obtain⟨j,a,c⟩:=ok.newGrd t (λL d=>X5.mp hn L d) G;exact q _ _ _ c a
  .cases e
 .rename_i C β1 b
  cases e;refine⟨.error C,_,b,λH' t=>?_⟩;obtain⟨a,c⟩:=ok.to Z t;exact q _ B H' c a
 .cases e
theorem bG.put(t:Tr F H F<|upd H r<|.lst k)(E:a_ K F (upd H r<|.lst k) ds k):∀{ai:Ϝ} {B:ϗ} (j:Nat),bG K F H P ai B->B.Nodup->B[j]?=U r->bG K F (upd H r<|.lst k) P (ai.set j ds) B
 |d0::ai,r0::B,0,h,nd,e=>by
  obtain rfl:r0=r:=by simpa using e
  have D:∀a∈B,a≠r0:=λa b z=>(V2.mp nd).1<|z▸b;exact⟨h.1,⟨k,ay,E⟩,bG.tr t h.2.2 λa G b p q=>⟨p,by rw[bb<|D a b];exact q⟩⟩
 |d0::ai,r0::B,j+1,h,nd,e=>by
  have c:B[j]?=U r:=by exact e
  obtain⟨d,⟨G,f,g⟩,i⟩:=h;exact⟨d,⟨G,by rw[bb (λz=>(V2.mp nd).1<|z▸U2 c:r0≠r)];exact f,a_.tr t _ _ g⟩,bG.put t E j i (V2.mp nd).2 c⟩
 |[],[],_,_,_,e=>by simp at e
 |[],_::_,_,h,_,_=>h.elim
 |_::_,[],_,h,_,_=>h.elim
theorem bG.at:∀{ai:Ϝ} {rs:ϗ} {j:Nat} {ds:ϋ},bG K F H P ai rs->ai[j]?=U ds->∃r xs,rs[j]?=U r/\P r/\H r=U (.lst xs)/\a_ K F H ds xs
 |d0::ai,r0::rs,0,ds,h,e=>by
  obtain rfl:d0=ds:=by simpa using e
  obtain⟨a,⟨B,b,c⟩,g⟩:=h;exact⟨r0,B,Z,a,b,c⟩
 |d0::ai,r0::rs,j+1,ds,h,e=>by
  obtain⟨r,xs,d,f⟩:=bG.at h.2.2 (by exact e);exact⟨r,xs,by exact d,f⟩
 |[],[],_,_,_,e=>by simp at e
 |[],_::_,_,_,h,_=>h.elim
 |_::_,[],_,_,h,_=>h.elim
theorem fh.writeRow{E}{X}(D:fh K L B J H δ β f5)(x:f5[i]?=U (U<|.ref a))(hB:B a=U (i+2))(G:H a=U (.lst<|E.map V.ref))(M:(a::E).Nodup)(u:bG K (ee B J) H (λr=>B r=U (i+2)) X E)(w:E[j]?=U r)(I:H r=U (.lst t))(N:a_ K (ee B J) H ds xs):
  fh K L B J (upd H r<|.lst xs) (δ.set i<|U<|.grd<|X.set j ds) β f5/\hL B H B (upd H r<|.lst xs):=by
 have m:=U2 w;have f:=(u.all r m).1;have g:hL B H B (upd H r<|.lst xs):=by
  refine⟨λc o h n=>?_,λ_ _=>Z,λ_ _ _ n=>n,λc p=>?_⟩
  .rw[bb]
   .exact h
   .intro z;simp_all
  .by_cases z:c=r
   .subst z;rw[ay];simp
   .rw[bb z];exact p
 have S:Tr _ H (ee B J) _:=g.tr;refine⟨⟨⟨λc p z=>?_,D.fr.bgA,λb l e=>?_⟩,D.bgt,by rw[VM,D.len],λa G=>g.al a<|D.cov a G,D.new,λc k p=>(by
  by_cases z:c=r
  .subst z;exact .inl ⟨xs,ay⟩
  .exact(D.lst c k p).imp λo y=>by rw[bb z];exact y),λk s e=>?_⟩,g⟩
 .by_cases q:c=r
  .subst q;rw[ay]at z;cases z
  .rw[bb q]at z;exact D.fr.occ c p z
 .obtain⟨b1,A⟩:=D.bgt b l e
  rw[bb (λz=>by subst z;simp_all),bb (λz=>by subst z;simp_all)];exact D.fr.bag b l e
 .rw[WG]at e
  by_cases q:i=k
  .subst q
   rw[US Z]at e;split at e
   .cases e
    exact⟨_,x,a,E,Z,hB,by rw[bb (λz=>(V2.mp M).1<|z▸m:a≠r)];exact G,M,bG.put S (a_.tr S _ _ N) j u (V2.mp M).2 w⟩
   .cases e
  .rw[UU q]at e
   obtain⟨v,C,F⟩:=D.tell k s e;exact⟨v,C,F.tr S λc d=>⟨d,λo z=>(bb λy=>by subst y;simp_all).trans z⟩⟩
def pW(f:Dn->M Ϝ):G:=λδ β=>match f (vw δ) β with
 |some (.ok ai,β1)=>U (.rg ai,β1)
 |some (.error C,β1)=>U (.ex C δ,β1)
 |none=>Y
theorem OA(h:PS X (.Return (U e) pos)<|Ls<|tVG X.K f E):PS X (.Return (U e) pos) (tG X.K X.H₀ (pW f) E):=h.imp λD f5 H j=>by
 obtain⟨B,J,δ,β,o,aa,ok,e,q⟩:=j;refine⟨ee B J,vw δ,β,ok.fr,ok.view,?_⟩;unfold pW at e;split at e
 .rename_i ai β1 d
  cases e;refine⟨.ok ai,_,d,λv H' t G=>?_⟩;obtain⟨b,g⟩:=ok.to Z t;have i:∀c,H c=Y->X.H₀ c=Y:=λc k=>by
   cases w:X.H₀ c with
   |none=>rfl
   |some o=>exact Vl k (ok.cov c<|by rw[w];simp)
  obtain⟨a,L,rfl,l,m,M,n⟩:=G;exact q _ B H' g b.fr ⟨a,L,Z,i a l,m,M,bG.tr (Tr.refl _ _) n λr S _ p y=>⟨i r p,y⟩⟩
 .rename_i C β1 d
  cases e;refine⟨.error C,_,d,λH' t=>?_⟩;obtain⟨b,g⟩:=ok.to Z t;exact q _ B H' g b
 .cases e
def spG(K:Vb)(n:Nat)(m:ϋ->M Ϝ):Sp:=λB H Q E=>B.length=n/\∃F D β,Fr F H β/\a_ K F H D B/\run (jL K F H) F (λ_=>E) [] (m D) H Q β
def qS(n:Nat)(g:G):ϋ->M Ϝ:=λB β=>match g (lv n B) β with
 |some (.rg ai,aa)=>U (.ok ai,aa)
 |some (.ex C _,aa)=>U (.error C,aa)
 |_=>Y
variable{P:Vw}{w:VC}{mg:ϙ}{ab:V0}
theorem Ps{N V}(n m)(g)(F:gs K x qual st f fd)(S:ba N V<|ak st)(L:ϱ V=n)(o9:ϱ N=m)
  (j:∀(c:UQ) (A:V3) (D:List Env) (s:UW) (H:Hp) (E:XK),d4 k (A.deeper<|Zo qual (ak st) s.heap.objs.size f c)->
   PSs (gD (hO P w) P w K mg ab N qual (ak st) f c A D s H E) (c7 st) (tG K H g (λ_=>E))):fw P w K mg ab (hO P w) (k+1) f fd V (spG K n<|qS m g):=by
 subst L o9;refine F.okE S (λvs H Q E h=>h.1) λc A D s H vs Q E hr h=>?_;obtain⟨hl,u,X,β,fr,hd,r,aa,e,h⟩:=h;refine⟨_,j c A D s H E hr,?_⟩;obtain⟨B,ok,R,h1,hn⟩:=xM fr hd;have J:∀{I:Ow} {H':Hp},hL B H I H'->Fr (ee I _) H' aa->To u H H' aa/\Tr (ee I _) H' u H':=λ{I H'} s i=>by
  have hs:∀a,u.A a->I a≠Y:=λa M=>by
   rw[s.tg a<|R a M];rcases R a M with z|z<;>rw[z]<;>simp
  refine⟨⟨λa o M n=>s.kp a o M ?_,λa M=>i.occ a<|hs a M,λb l e=>fr.bgA b l e,i.bag⟩,λa M _ z=>M<|hs a z,λ_ _ _ h=>h,Z⟩;cases q:B a with
  |none=>exact .inl Z
  |some t=>
   have:=R a (hn a<|by rw[q];simp);obtain z|z:=this
   .rw[q]at z;exact .inr z
   .obtain⟨b,l,e,w⟩:=h1 a z
    obtain⟨T,n2⟩:=n b l e;obtain w|w:=w
    .exact Vl w T
    .exact Vl w n2
 unfold qS at e;split at e
 .rename_i d β1 o7
  cases e;refine⟨B,u.bg,lv _ X,β,.rg d,aa,ok,o7,λv I H' s i hv=>?_⟩;obtain⟨W,t2⟩:=J s i;obtain⟨a,rs,ev,n0,T,nd,rl⟩:=hv;exact h v H' W ⟨a,rs,ev,n0,T,nd,bG.tr t2 rl λr xs _ p y=>⟨p,y⟩⟩
 .rename_i C o8 β1 o7
  cases e;refine⟨B,u.bg,lv _ X,β,.ex C o8,aa,ok,o7,λac I H' s f5=>?_⟩;obtain⟨W,t2⟩:=J s f5.fr;exact h H' W
 .cases e
variable{e:Expr}{s:List Expr}{pos p:Ye}{x:VF}{k n:Nat}{f:UM}{B:U9}{z:ϒ}
def zd(m:ϋ->M Ϝ)(g:FL):Dn->M Ϝ:=λδ=>M.bind (g δ) λe=>m e
theorem jL.pre(t:To F H b j)(h:jL K F b H' ai v):jL K F H H' ai v:=by
 obtain⟨a,e,c,d,g,f,i⟩:=h;exact⟨a,e,c,t.none d,g,f,bG.tr (Tr.refl _ _) i λr k _ p y=>⟨t.none p,y⟩⟩
theorem Sf(G:fw X.prog X.w X.K X.mg X.base (hO X.prog X.w) k f B z<|spG X.K n m)(q:d4 k X.A)(u:Gl X x)(V:X.mg x=U (.ref f))(y:keepIn X.K (.ref f)=O)(I:cL X.K B z [])(hx:eB (hO X.prog X.w) X E)
  (ha:PA X (e::s)<|ix X.K g E) (hn:∀δ β r aa,g δ β=U (.ok r,aa)->r.length=n) (a:autoParam (ϟ x) z7) (J:autoParam (Ϛ X e s) z6) (b:autoParam (ϣ X pos s) z6):
  PE X (.Call (.Name x p) (e::s) [] pos) (tVG X.K (zd m g) E):=
 (qx G q u V y I .nil hx ha a J b).imp λf5 H Q L=>k4 L λF δ β fr N r=>⟨F,δ,β,fr,N,by
  obtain⟨P,c,h,i⟩:=run.bind r;refine⟨P,c,h,?_⟩;cases P with
  |error C=>exact i
  |ok ds=>
   intro vs o7 t S;obtain⟨d',D,j,d,r1⟩:=i vs o7 t S;refine⟨by rw[VA,<-S.length,hn _ _ _ _ h],F,d',D,j.fr,by rw[VA];exact d,?_⟩;obtain⟨l,M,R,o⟩:=r1;refine⟨l,M,R,?_⟩;cases l with
   |ok ai=>exact λv H' W T=>o v H' W<|jL.pre j T
   |error C=>exact o⟩
end
end L2.Pu
namespace L2
end L2
namespace L2.Pu
section
variable{X:Cx}{E:ϔ}{K:Vb}
def jq(K:Vb)(E:ϙ)(x:VF)(d:D):Prop:=∃u v,E x=U u/\bf v u/\∀F H,bi K F H d v
theorem mB{pos:Ye}(c:jq X.K X.mg x d)(a:autoParam (Gl X x) z6)(D:autoParam (ϟ x) z7):PE X (.Name x pos) (tV X.K (fC d) E):=by
 obtain⟨u,v,b,e,f⟩:=c;exact sA (OM a b e D) f
theorem mz{pos:Ye}(c:jq X.K X.mg x d)(a:autoParam (Gl X x) z6)(D:autoParam (ϟ x) z7):PE X (.Name x pos) (tV X.K (fC d) E):=mB c a D
mutual
noncomputable def pj:D->Option PyData
 | .non=>U .none
 | .bl b=>U<|.bool b
 | .int i=>U<|.int i
 | .str x=>U<|.str x
 | .lst xs=>(toPs xs).map PyData.list
 | .tup xs=>(toPs xs).map PyData.tuple
 |_=>Y
noncomputable def toPs:ϋ->Option (List PyData)
 |[]=>U []
 |x::xs=>match pj x,toPs xs with
  |some p,U ps=>U<|p::ps
  |_,_=>Y
end
mutual
theorem mV{s:UW}(I:b5 X aj y H s):∀(d:D) (v:V) (u:UQ) (p:PyData),bi X.K F H d v->pj d=U p->bf v u->∃G,Reads s.heap u p G
 | .non,v,u,p,h,e,r=>by cases e;cases h.non;cases r;exact⟨_,.none⟩
 | .bl b,v,u,p,h,e,r=>by cases e;cases h.bl;cases r;exact⟨_,.bool b⟩
 | .int i,v,u,p,h,e,r=>by cases e;cases h.int;obtain⟨t,rfl⟩:=r;exact⟨_,.int i t⟩
 | .str x,v,u,p,h,e,r=>by cases e;cases h.str;obtain⟨t,rfl⟩:=r;exact⟨_,.str x t⟩
 | .lst xs,v,u,p,h,e,r=>by
  unfold pj at e;cases q:toPs xs with
  |none=>rw[q]at e;cases e
  |some M=>
   rw[q]at e;cases e;obtain⟨a,S,rfl,l,c⟩:=bi.sqL h;cases r;obtain⟨E,f,m,_⟩:=I.list l;obtain⟨G,g⟩:=reads_L I xs S E M c q f;obtain⟨o,j,k,n,w⟩:=m.isList;exact⟨_,.list j k w<|by simpa using g⟩
 | .tup xs,v,u,p,h,e,r=>by
  unfold pj at e;cases q:toPs xs with
  |none=>rw[q]at e;cases e
  |some M=>
   rw[q]at e;cases e;obtain⟨a,S,rfl,l,c⟩:=bi.sqT h;cases r;obtain⟨E,f,m,_⟩:=I.tuple l;obtain⟨G,g⟩:=reads_L I xs S E M c q f;obtain⟨o,j,k,n,w⟩:=m;exact⟨_,.tuple j k w<|by simpa using g⟩
 | .ty _,_,_,_,_,e,_=>by cases e
 | .txt,_,_,_,_,e,_=>by cases e
 | .scr _,_,_,_,_,e,_=>by cases e
 | .obj _ _ _,_,_,_,_,e,_=>by cases e
 | .bag,_,_,_,_,e,_=>by cases e
 | .adr _,_,_,_,_,e,_=>by cases e
 | .dct _ _ _,_,_,_,_,e,_=>by cases e
theorem reads_L{s:UW}(I:b5 X aj m H s):∀(E:ϋ) (D:ύ) (G:ό) (M:List PyData),a_ X.K F H E D->toPs E=U M->aG D G->∃S,ReadsAll s.heap G M S
 |[],D,G,M,h,e,r=>by
  have q:D=[]:=h;subst q;cases e;cases r;exact⟨_,.nil⟩
 |d::E,D,G,M,h,e,r=>by
  obtain⟨x,a,rfl,b,c⟩:=h;unfold toPs at e;split at e
  .rename_i p pr f g
   cases e;cases r with
   |cons V i=>
    obtain⟨S,j⟩:=mV I d x _ p b f V;obtain⟨l,k⟩:=reads_L I E a _ pr c g i;exact⟨_,.cons j k⟩
  .cases e
end
def oB(a b:D):a0R:=match pj a,pj b with
 |some p,U q=>if(ZT p&&ZT q)=O then U (YA p q)else Y
 |_,_=>Y
def dE(a b:D):ϓ:=match eqS a b with
 |some c=>U<|.bl c
 |none=>(oB a b).map D.bl
def iu(a b:D):ϓ:=match eqS a b with
 |some c=>U<|.bl<|!c
 |none=>(oB a b).map λc=>D.bl<|!c
def uV(X:Cx)(g:Bool->Bool):R2:=λx y H Q=>∃(F:Fx) (a b:D) (c:Bool),bi X.K F H a x/\bi X.K F H b y/\oB a b=U c/\Q (.bl<|g c) H
theorem wt(h:oB a b=U c):∃p q,pj a=U p/\pj b=U q/\ZT p=O/\ZT q=O/\c=YA p q:=by
 unfold oB at h;split at h
 .rename_i p q d e
  simp_all
 .cases h
theorem Q6(f:d4 k X.A):g8 X (We .Eq) (uV X id):=by
 intro d s r H x y v u Q I g i h;obtain⟨F,a,b,c,D,E,e,q⟩:=h;obtain⟨p,G,j,l,m,n,rfl⟩:=wt e;obtain⟨M,K⟩:=mV I a x v p D j g;obtain⟨S,o⟩:=mV I b y u G E l i;exact eq_dataH K o m n f.units ⟨.bl _,H,I,Z,q⟩
theorem Q4(f:d4 k X.A):g8 X (We .NotEq) (uV X not):=by
 intro d s r H x y v u Q I g i h;obtain⟨F,a,b,c,D,E,e,q⟩:=h;obtain⟨p,G,j,l,m,n,rfl⟩:=wt e;obtain⟨M,K⟩:=mV I a x v p D j g;obtain⟨S,o⟩:=mV I b y u G E l i;exact ne_dataH K o m n f.units ⟨.bl _,H,I,Z,q⟩
theorem bA(a:d4 k X.A):g8 X (We .Eq) (λx y H Q=>rEq x y H Q\/uV X id x y H Q):=Tl.or<|Q6 a
theorem gc(a:d4 k X.A):g8 X (We .NotEq) (λx y H Q=>rNe x y H Q\/uV X not x y H Q):=Tj.or<|Q4 a
theorem bU:bz X.K (λx y H Q=>rEq x y H Q\/uV X id x y H Q) dE:=λF H G Q D E d v1 v2 fr a b e k=>by
 unfold dE at e;split at e
 .rename_i c q
  cases e;obtain⟨f,g⟩:=KP q a b;exact .inl ⟨f,by rw[g];exact k _ H (To.refl fr) Z⟩
 .cases q:oB D E with
  |none=>rw[q]at e;cases e
  |some c=>rw[q]at e;cases e;exact .inr ⟨F,D,E,c,a,b,q,k _ H (To.refl fr) Z⟩
theorem iB:bz X.K (λx y H Q=>rNe x y H Q\/uV X not x y H Q) iu:=λF H G Q D E d v1 v2 fr a b e k=>by
 unfold iu at e;split at e
 .rename_i c q
  cases e;obtain⟨f,g⟩:=KP q a b;exact .inl ⟨f,by rw[g];exact k _ H (To.refl fr) Z⟩
 .cases q:oB D E with
  |none=>rw[q]at e;cases e
  |some c=>rw[q]at e;cases e;exact .inr ⟨F,D,E,c,a,b,q,k _ H (To.refl fr) Z⟩
theorem Uv(i j):dE (.int i) (.int j)=U (.bl<|decide (i=j)):=Z
theorem Uu(i j):iu (.int i) (.int j)=U (.bl<|!decide (i=j)):=Z
def oA(d:D):Bool:=match pj d with
 |some p=>ZT p
 |none=>UK
theorem NQ{c:Int->Int->Bool}{g}(b:∀i j,c i j=O->C i j):bz K (ipC C g) (q_ λi j=>if c i j=O then U (.int<|g i j)else Y):=λF H D Q E G d v1 v2 fr f h e k=>by
 obtain⟨i,j,rfl,rfl,a⟩:=k7 e;split at a
 .cases a
  exact⟨i,j,f,h,b _ _ (by assumption),k _ H (To.refl fr) Z⟩
 .cases a
def addI:D->D->ϓ:=q_ λi j=>U<|.int<|i+j
theorem BE:bz K (ipI λi j=>i+j) addI:=λF H D Q E G d v1 v2 fr a b e k=>by
 obtain⟨i,j,rfl,rfl,c⟩:=k7 e;cases c;exact⟨i,j,a,b,k _ H (To.refl fr) Z⟩
theorem qK:PIp X .Mult (ipC xw λi j=>i*j):=by
 intro a s e H x y v u Q I b d h;obtain⟨i,j,rfl,rfl,c,q⟩:=h;obtain⟨t,rfl⟩:=b;obtain⟨D,rfl⟩:=d;exact imul_int ⟨.int _,H,I.tok _,⟨_,Z⟩,q⟩<|IntMulOk.of_bits (mj c.1)<|mj c.2
theorem qG:bz K (ipC xw λi j=>i*j) db:=NQ λi j h=>by
 simp only[Vu,cG,Vx]at h;exact h
theorem Mv:bz K (ipC xx λi j=>i/j) ox:=NQ λi j h=>by
 simp only[Vu,Vx]at h;exact h
abbrev gT:=Lw
theorem KW(b:X.calm=O):cT X (.builtin "sum") (λE H Q=>∃(a:UM) (D:ώ),E=[.ref a]/\e_ X.K H a (D.map V.int)/\Q (.int D.sum) H):=wu b
theorem Rx:dA K (λE H Q=>∃(a:UM) (D:ώ),E=[.ref a]/\e_ K H a (D.map V.int)/\Q (.int D.sum) H) gT:=TD
def N8(H:Hp)(b l:UM):Prop:=∃(D:ώ) (i j:Int),H b=U (.lst [.ref l,.int i,.int j])/\H l=U (.lst<|D.map V.int)/\D≠[]/\D.length<=64/\(∀c∈D,0<=c)/\0<=j
theorem Ph(h:k<n):ko n (k:Int)=U k:=by
 unfold ko;simp_all
theorem Ux(D:ώ):∃a:ώ,lq (D.map V.int) Y (U 63)=a.map V.int/\ϱ a<=63:=by
 refine⟨(D.drop<|HT.sIx (ϱ D) 0 Y).take<|HT.sIx (ϱ D) (ϱ D) (U 63)-HT.sIx (ϱ D) 0 Y,?_,?_⟩
 .unfold lq
  simp
 .rw[VI]
  have:HT.sIx (ϱ D) (ϱ D) (U 63)<=63:=by
   unfold HT.sIx;lia
  omega
def S3(K:Vb):Sp:=λD H Q _=>∃(a:UM) (E:ώ),D=[.ref a]/\e_ K H a (E.map V.int)/\∀(b l:UM) (c:Hp),H b=Y->H l=Y->N8 c b l->cw H c->Q (.ref b) c
def Nk(K:Vb):Sp:=λE H Q _=>∃(a:UM) (D:ώ),E=[.ref a]/\e_ K H a (D.map V.int)/\D.length<=63/\∀b,Q (.bl O) b
theorem PL(sm:cw H₀ H)(A:H₀ b=Y)(C:H₀ l=Y)(B:N8 H b l):∃E,E.ok/\fh K H₀ (λc=>if c=b\/c=l then U 1 else Y) (U (b,l)) H (Y::U (.sh .bag)::Vn n Y) E (U (.ref a)::U (.ref b)::Vn n Y):=by
 obtain⟨D,i,j,g,h,p,v,w,y⟩:=B;have m:=Tu g h (by
  intro z;cases D with
  |nil=>exact p Z
  |cons c r=>cases z)
 refine⟨⟨D,i,j⟩,⟨p,v,w,y⟩,⟨⟨λc f=>?_,λt u e=>?_,λt u e=>?_⟩,λt u e=>?_,rc,λc f=>?_,λc k f=>(by
  have d:=f;simp_all),λc k f=>(by
  have d:=f;simp_all),λk s e=>?_⟩⟩
 .have d:(if c=b\/c=l then U 1 else Y)≠(Y:ϳ):=f
  split at d
  .rename_i q
   obtain rfl|rfl:=q
   .rw[g];simp
   .rw[h];simp
  .exact Vl Z d
 .cases e
  refine⟨?_,?_,m⟩
  .show(if b=b\/b=l then U 1 else Y)≠(Y:ϳ)
   simp_all
  .show(if l=b\/l=l then U 1 else Y)≠(Y:ϳ)
   simp
 .cases e
  exact⟨g,h⟩
 .cases e
  simp_all
 .cases q:H₀ c with
  |none=>exact Vl q f
  |some o=>rw[sm c o q];simp
 .match k with
  |0=>simp at e
  |1=>
   simp at e;subst e;exact⟨.ref b,Z,b,l,Z,Z⟩
  |k+2=>
   simp only[List.getElem?_cons_succ,Xn]at e;simp_all
variable{P:Vw}{w:VC}{mg:ϙ}{base:V0}
theorem hG{M}{N V}(n m)(g)(F:gs K x c M f h)(S:ba N V<|ak M)(d:ϱ V=n)(e:ϱ N=m)
  (a:∀(b:UQ) (A:V3) (D:List Env) (s:UW) (H:Hp) (E:XK),d4 k (A.deeper<|Zo c (ak M) s.heap.objs.size f b)->
   PSs (gD (hO P w) P w K mg base N c (ak M) f b A D s H E) (c7 M) (tG K H g (λ_=>E))):fw P w K mg base (hO P w) (k+1) f h V (P_ K n<|fK m g):=by
 subst d e;exact Pr F S a
end
end L2.Pu
namespace L2
theorem cy.ofB(k:w.kind= .function)(E:(w.names.map (·.1)).Nodup)
  (fr:(w.names.all λy=>y.2 != .free||(X.env.scope.names.lookup y.1==U .cell||X.env.scope.names.lookup y.1==U .free))=O) (G:Nc=cx++D.map (λj=>X.N.getD j YT))
  (a:(D.all λj=>decide (j<ϱ X.N)&&w.names.lookup (X.N.getD j YT)==U .free)=O):cy X w Nc cx D:=by
 refine⟨k,E,λy K e=>?_,G,λj b=>?_⟩
 .have:=X5.mp fr y K
  rw[e]at this;simp only[Yt,Bool.false_or,Bool.or_eq_true,Yc]at this;exact this
 .have:=X5.mp a j b
  simp only[Vu,Vx,Yc]at this;exact this
end L2
namespace L2.Pu
theorem N1(i j):yy (.int i) (.int j)=if decide (0<j)=O then U (.int<|i % j)else Y:=Z
theorem MP(i j):B_ (.int i) (.int j)=U (.bl<|decide (j<i)):=Z
end L2.Pu
namespace L2.Pu
section
variable{X:Cx}{E:ϔ}{K:Vb}{y z u:Expr}{w:List Expr}{v:Ϭ}{t:Scope}{pos:Ye}{A F:ϒ}{I:ϊ}{g:TG}{B:ϧ}
theorem tz(j:X.N.Nodup)(d:X.N[i]?=U x)(M:Iv X.env.scope x)(k:X.calm=O)(S:cy X t A F I)(l:PI X z u<|iV X.K L E)
  (m:∀(G:ϝ) (C:UM) (f:ϗ) (s:UW) (H:Hp),PG (aY X A t G C f s H) z g/\e8 (aY X A t G C f s H) w (io X.K Q E0)/\∀D,PB (aY X A t G C f s H) y (⟨z,u,w,0⟩::v) t pos 0 D<|B D)
  (n:dz X.K g J) (o:eY J) (p:∀D,uD X.K D (B D) b)
  (e:autoParam (ZV (.ListComp y (⟨z,u,w,0⟩::v) t pos) (U<|.Name x a) c.line X.env=W2 O) z6)
  (P:autoParam (∀x,V1 u X.env x=W2 x) z9) (q:autoParam (ϯ X x) q8):
  PS X (.Assign [.Name x a] (.ListComp y (⟨z,u,w,0⟩::v) t pos) c) (tG X.K X.H₀ (sk i<|iI (ϱ F) I L J Q b) E):=
 Nm ((AJ j d M k S l m e P q).imp λD r H h=>vJ n o p h)
end
end L2.Pu
namespace L2
section
variable{X:Cx}
theorem MV{D:a1c}(r:aG (D.map V.bl) w){v:UQ}(h:w.toArray[i]?=U v):v= .bool (D.getD i UK):=by
 have E:w[i]?=U v:=by simpa using h
 have a:=r.length;rw[UD]at a;have b:i<D.length:=by rw[a];exact(UY.mp E).1
 obtain⟨u,c,d⟩:=r.get (by rw[UN,UJ b];rfl);rw[E]at c;cases c;rw[UO,UJ b];exact d
theorem IG(f:Bool->Bool)(w):(UT (ϱ w)).map (λi=>w.getD i UK)=w:=by
 apply List.ext_getElem?;intro i;rw[UN];by_cases h:i<ϱ w
 .rw[VN h,UJ h]
  simp[UJ h]
 .rw[Zr (by simpa using h),Zr ln];rfl
theorem IH(w):((UT (ϱ w)).any λi=>w.getD i UK)=w.any id:=by
 conv=>rhs;rw[<-IG id w]
 rw[List.any_map];rfl
theorem qb(l:X.calm=O):cT X (.builtin "any") (λG H Q=>∃(a:UM) (E:a1c),G=[.ref a]/\e_ X.K H a (E.map V.bl)/\Q (.bl<|E.any id) H):=by
 intro j s B H G P Q I r h;obtain⟨a,E,rfl,m,q⟩:=h;cases r with
 |cons M n=>
  cases M;cases n;obtain⟨D,k,p,C⟩:=I.list m;have f:=p.isList;have c:D.toArray.size=E.length:=by rw[Vf,<-k.length,UD]
  have d:∀b o,s.heap.get? b=U o->b≠s.heap.objs.size:=λb o e z=>by
   rw[z,Heap.get?_none_of_le<|UV _]at e;cases e
  have g:a≠s.heap.objs.size:=by
   obtain⟨o,e,_⟩:=f;exact d a o e
  refine call_any_walk<|PySem.wpAny_pyIter_list f ⟨s.heap.objs.size,[s.heap.objs.size,a],[s.heap.objs.size],D.toArray.size,_,_,λi=>E.getD i UK,Z,Walks.list (prog:=X.prog) (w:=X.w) (show X.A.in1.handled=Y from I.ok.hd l) _ a g _,⟨⟨_,U7 _ Z,Z,Z⟩,f.push _⟩,λi v S F J t u=>?_,λx L y=>?_⟩
  .rw[MV k t]
   exact Wl u
  .rw[c,IH]
   exact⟨.bl<|E.any id,H,I.kept λb o e=>y b o (λz=>d b o e<|by simpa using z)<|UH _ e,Z,q⟩
end
end L2
namespace L2.Pu
noncomputable def fS:ϋ->Option a1c
 |[]=>U []
 | .bl b::r=>(fS r).map (b::·)
 |_=>Y
theorem rB{K}:∀{w:ϋ} {D:ύ} {E:a1c},fS w=U E->a_ K F H w D->D=E.map V.bl:=@List.rec _ _ (@λD E e h=>by
  cases e;cases h;rfl) (λd w v=>@λD E e h=>by
  obtain⟨x,f,rfl,a,c⟩:=h;cases d<;>first
   |(rename_i b
     cases q:fS w with
     |none=>simp[fS,q]at e
     |some r=>
     simp[fS,q]at e;subst e;cases a.bl;rw[v q c];rfl)
   |simp[fS]at e)
def FW:ϋ->ϓ
 |[.lst ds]=>(fS ds).map λw=> .bl<|w.any id
 |_=>Y
variable{K:Vb}
theorem EQ:dA K (λD H Q=>∃(a:UM) (w:a1c),D=[.ref a]/\e_ K H a (w.map V.bl)/\Q (.bl<|w.any id) H) FW:=λF H E Q G d M fr h e k=>by
 unfold FW at e;split at e
 .obtain⟨v,rfl,g⟩:=a_.one h
  obtain⟨a,D,rfl,r,b⟩:=bi.sqL g;obtain⟨w,q,e⟩:=Option.map_eq_some_iff.mp e;subst e;rw[rB q b]at r;exact⟨a,w,Z,r,k _ H (To.refl fr) Z⟩
 .cases e
end L2.Pu
namespace L2
section
variable{X:Cx}{a b c d:Expr}{ta w tc P:TE}{pos:Ye}
def SS(i e:R2)(tc P:TE)(y:V):TE:=λf H Q=>tc f H λw j=>i y w j λk g=>∃h,k= .bl h/\(if h=O then P f g λl m=>e w l m Q else Q (.bl UK) g)
def zS(r h e:R2)(ta w tc P:TE):TE:=λf H Q=>ta f H λx i=>w f i λy j=>r x y j λz g=>∃k,z= .bl k/\(if k=O then SS h e tc P y f g Q else Q (.bl UK) g)
theorem IM(J:g8 X (We op) r)(l:g8 X (We op') r')(i:g8 X (We op'') r'')(G:PE X a ta)(L:PE X b w)(N:PE X c tc)(K:PE X d P)
  (M:autoParam (lastMarks [op,op',op''] [b,c,d]=UK) xJ):PT X (.Compare a [op,op',op''] [b,c,d] pos) (CZ<|zS r r' r'' ta w tc P):=by
 refine λf s g H Q I h=>isTrue_chain (dv (G f s g H _ I h) λv o9 ⟨x,R,T,S,V⟩=>test_link (dv (L f o9 g R _ T V) λu o7 ⟨y,W,o8,o,q2⟩=>
  dv (J f o7 g W x y v u _ o8 S o q2) λf5 s3 z0=>?_)) M
 obtain⟨z,p,q,r3,k,e,D⟩:=z0
 subst e;cases r3;apply Wl;cases k with
 |false=>
  obtain⟨m,j,n⟩:=D;cases j;exact ite_ff ⟨p,q,n⟩
 |true=>
  refine ite_tt<|test_link<|dv (N f s3 g p _ q D) λt s4 ⟨A,H4,I4,B,q4⟩=>dv (l f s4 g H4 y A u t _ I4 o B q4) λf5 s5 z0=>?_;obtain⟨z',C,F,r5,m,j,E⟩:=z0;subst j;cases r5;apply Wl;cases m with
  |false=>
   obtain⟨m,j,n⟩:=E;cases j;exact ite_ff ⟨C,F,n⟩
  |true=>
   refine ite_tt<|test_last<|dv (K f s5 g C _ F E) λw' s6 ⟨z2,H6,I6,r6,q6⟩=>dv (i f s6 g H6 A z2 t w' _ I6 B r6 q6) λd' s7 f5=>?_;obtain⟨z3,H7,I7,r7,k3,e3,q7⟩:=f5;subst e3;cases r7;exact Wl ⟨H7,I7,q7⟩
end
end L2
namespace L2.Pu
section
variable{X:Cx}{E:ϔ}{a b c d:Expr}{pos:Ye}{K:Vb}
def NZ(f e:a1b)(h i:FD)(y:D):FD:=λa=>M.bind (h a) λw=>M.bind (M.ofO<|f y w) λz=>M.bind (M.ofO<|asB z) λc=>if c=O then M.bind (i a) (λg=>M.ofO<|e w g)else M.ret (.bl UK)
def qQ(o j e:a1b)(f g h i:FD):FD:=λd=>M.bind (f d) λa=>M.bind (g d) λb=>M.bind (M.ofO<|o a b) λz=>M.bind (M.ofO<|asB z) λc=>if c=O then NZ j e h i b d else M.ret (.bl UK)
theorem run.later{c i}{R:Hp->c->i->Prop}{m}{Q:i->Hp->Prop}{a}(t:To F H k a)(h:run R F E j m H Q a):run R F E j m k Q a:=by
 obtain⟨l,f,e,q⟩:=h;refine⟨l,f,e,?_⟩;cases l with
 |ok d=>exact λv g b=>q v g<|t.trans b
 |error C=>exact λg b=>q g<|t.trans b
theorem DE(l:bz K r o)(l':bz K r' o')(o8:bz K s x)(T:tV K (qQ o o' x f g h i) E σ H Q):zS r r' s (tV K f E) (tV K g E) (tV K h E) (tV K i E) σ H Q:=by
 obtain⟨F,b,β,fr,f5,T⟩:=T;refine⟨F,b,β,fr,f5,(run.bind T).mono λv H1 n=>ro n λd D t hd r1=>⟨F,b,D,t.fr,f5.tr<|t.tr fr,(run.bind r1).mono λv2 H2 n=>ro n λV a p u r2=>?_⟩⟩;obtain⟨z,X,r3⟩:=run.ofO_bind r2;obtain⟨c,ec,L⟩:=run.ofO_bind r3;rw[lB ec]at X;refine l F H2 a _ d V _ v v2 p.fr (bi.tr (p.tr t.fr) _ _ hd) u X λvz H3 j hz=>⟨c,hz,?_⟩;cases c with
 |true=>
  rw[US Z]at L;have o7:=bi.tr (j.tr p.fr) _ _ u;have y:=(f5.tr<|(t.tr fr).trans<|p.tr t.fr).tr<|j.tr p.fr;refine⟨F,b,a,j.fr,y,(run.bind (run.later j L)).mono λw H4 n=>ro n λdw A B C r6=>?_⟩;obtain⟨z',I,r7⟩:=run.ofO_bind r6;obtain⟨c',R,N⟩:=run.ofO_bind r7;rw[lB R]at I;refine l' F H4 A _ V dw _ v2 w B.fr (bi.tr (B.tr j.fr) _ _ o7) C I λaa H5 m G=>⟨c',G,?_⟩;cases c' with
  |true=>
   rw[US Z]at N;refine⟨F,b,A,m.fr,y.tr<|(B.tr j.fr).trans<|m.tr B.fr,(run.bind<|run.later m N).mono λw' H6 W=>?_⟩;obtain⟨M,P,t6,J,r9⟩:=W;obtain⟨d3,e3,k⟩:=run.ofO r9;exact o8 F H6 P Q dw M d3 w w' t6.fr (bi.tr ((m.tr B.fr).trans<|t6.tr m.fr) _ _ C) J e3 k
  |false=>
   rw[UU UX]at N;obtain⟨rr,S,e,q⟩:=N;cases e;exact q _ H5 m Z
 |false=>
  rw[UU UX]at L;obtain⟨rr,S,e,q⟩:=L;cases e;exact q _ H3 j Z
theorem Lr(m:g8 X (We op) r)(j:g8 X (We v) z)(e:g8 X (We s) x)(l:bz X.K r o)(n:bz X.K z A)(k:bz X.K x y)(w:PE X a<|tV X.K f E)(p:PE X b<|tV X.K g E)(t:PE X c<|tV X.K h E)(D:PE X d<|tV X.K i E)(G:autoParam (lastMarks [op,v,s] [b,c,d]=UK) xJ):
  PT X (.Compare a [op,v,s] [b,c,d] pos) (io X.K (fB<|qQ o A y f g h i) E):=(IM m j e w p t D G).imp λu H Q q=>DE l n k<|rE q
variable{st:VQ}{o:Hp}{B:Ow}{bg:Ϫ}{H u:Hp}{δ:Ds}{β P:Bg}{σ:St}
theorem fh.AtoB(a:fh K o B bg H δ β σ):∀c,(ee B bg).A c->(ra B bg).A c\/Ic H c:=λc f=>by
 cases q:B c with
 |none=>exact Vl q f
 |some k=>
  match k,q with
  |0,q=>exact .inl<|.inl q
  |1,q=>exact .inl<|.inr q
  |k+2,q=>exact .inr<|a.lst c k q
theorem fh.noB{d}(a:fh K o B bg H δ β σ)(b:noL d=O)(h:bi K (ra B bg) H d v):bi K (ee B bg) H d v:=AW a.AtoB d v b h
def xl(i:Nat)(f:FD):G:=λδ β=>match f (fy δ) β with
 |some (.ok d,β1)=>if noL d=O then U (.nx<|δ.set i<|U<|.sh d,β1)else Y
 |some (.error C,β1)=>U (.ex C δ,β1)
 |none=>Y
theorem HU(h:PS X st<|ie (tV X.K f E)<|fJ i):PS X st (tG X.K X.H₀ (xl i f) E):=h.imp λD σ H l=>by
 obtain⟨B,bg,δ,β,o,P,ok,e,q⟩:=l;refine⟨ra B bg,fy δ,β,ok.frA,ok.viewA,?_⟩;unfold xl at e;split at e
 .rename_i d β1 j
  split at e
  .rename_i hn
   cases e;refine⟨.ok d,_,j,λv u t a=>?_⟩;obtain⟨g,k⟩:=ok.to Z t;exact q _ B u k<|g.set<|g.noB hn a
  .cases e
 .rename_i C β1 j
  cases e;refine⟨.error C,_,j,λu t=>?_⟩;obtain⟨g,k⟩:=ok.to Z t;exact q _ B u k g
 .cases e
def oq(i:Nat)(e f g:FD):G:=λδ β=>match g (fy δ) β with
 |some (.ok d,β1)=>match e (fy δ) β1 with
  |some (.ok (.int ka),β2)=>match f (fy δ) β2 with
   |some (.ok (.int kb),β3)=>match δ.getD i Y with
    |some (.grd ai)=>match ko ai.length ka with
     |some a=>match ai[a]? with
      |some b=>match ko b.length kb with
       |some c=>if noL d=O then U (.nx<|δ.set i<|U<|.grd<|ai.set a<|b.set c d,β3)else Y
       |none=>Y
      |none=>Y
     |none=>Y
    |_=>Y
   |_=>Y
  |_=>Y
 |_=>Y
theorem gG(h:PS X st<|ie (tV X.K fv E)<|MI (tOp (uU X.K) (iR i)<|tV X.K fa E) (tV X.K fb E) No):PS X st (tG X.K X.H₀ (oq i fa fb fv) E):=h.imp λD σ H h_=>by
 obtain⟨B,bg,δ,β,o,P,ok,e,q⟩:=h_;refine⟨ra B bg,fy δ,β,ok.frA,ok.viewA,?_⟩;unfold oq at e;split at e
 .rename_i d β1 e1
  refine⟨.ok d,_,e1,λv H1 t1 c=>?_⟩;obtain⟨f,s1⟩:=ok.to Z t1;split at e
  .rename_i ka β2 e2
   split at e
   .rename_i kb β3 e3
    split at e
    .rename_i ai Q
     split at e
     .rename_i ja ea
      split at e
      .rename_i ds er
       split at e
       .rename_i jb eb
        split at e
        .rename_i R
         cases e;obtain⟨w,N,a,rs,rfl,hB,ha,nd,rl⟩:=f.tell i _<|getD_some Q;refine⟨_,N,ra B bg,fy δ,β1,f.frA,f.viewA,.ok<|.int ka,β2,e2,λy H2 t2 hy=>?_⟩;cases hy;obtain⟨j,S⟩:=f.to Z t2;obtain⟨w2,s,a2,g,ew,k,m,aa,n⟩:=j.tell i _<|getD_some Q;rw[N]at s;cases s;cases ew;obtain⟨r,xs,T,hp,hx,dl⟩:=n.at er;refine⟨a,g.map _,ka,.ref r,Z,Z,e_.of m,?_,?_⟩
         .unfold l6
          rw[UD,<-n.len,ea];simp_all
         .refine⟨ra B bg,fy δ,β2,j.frA,j.viewA,.ok<|.int kb,_,e3,λz x t3 hz=>?_⟩
          cases hz;obtain⟨p,s3⟩:=j.to Z t3;obtain⟨w3,h3,a3,t,f5,W,u,o7,A⟩:=p.tell i _<|getD_some Q;rw[N]at h3;cases h3;cases f5;have F:g=t:=by
           have o8:=t3.kp a _ m (λb l y=>⟨λw=>(by subst w;rw[(ok.bgt _ _ y).1]at k;cases k),λw=>(by subst w;rw[(ok.bgt _ _ y).2]at k;cases k)⟩);rw[u]at o8;have k2:t.map V.ref=g.map V.ref:=by injection o8 with o8;injection o8
           exact(List.map_inj_right (λa b q=>by cases q;rfl)|>.mp k2).symm
          subst F;obtain⟨r',C,I,ab,J,L⟩:=A.at er;rw[T]at I;cases I;have G:=bi.tr (s3.tr) _ _<|bi.tr (S.tr) _ _ (f.noB R c);refine⟨r,C,kb,jb,Z,Z,J,by rw[<-L.length];exact eb,?_⟩;obtain⟨M,s4⟩:=p.writeRow N W u o7 A T J<|a_.set jb L G;exact q _ _ _ (s1.trans<|S.trans<|s3.trans s4) M
        .cases e
       .cases e
      .cases e
     .cases e
    .cases e
   .cases e
  .cases e
 .cases e
variable{e:Expr}{z:List Expr}
def zu(x y:D):Ϧ:=match x,y with
 | .lst a,.lst b=>if a.length+b.length<=Ve then U (a++b)else Y
 |_,_=>Y
def o2(c:D->D->Ϧ)(f g:FD):FL:=λδ=>M.bind (f δ) λa=>M.bind (g δ) λb=>M.ofO<|c a b
theorem NB(z:PE X a<|tV X.K f E)(C:PE X b<|tV X.K g E):PE X (.BinOp a .Add b pos) (tVO X.K (o2 zu f g) E):=
 (eL AT z C).imp λσ H Q i=>k4 i λF δ β fr y r=>⟨F,δ,β,fr,y,(run.bind r).mono λv I i=>ro i λd e t B w=>⟨F,δ,e,t.fr,y.tr<|t.tr fr,(run.bind w).mono λv2 J i=>by
  obtain⟨P,D,m,n,o⟩:=i;obtain⟨S,h,k⟩:=run.ofO o;unfold zu at h;split at h
  .split at h
   .cases h
    obtain⟨p,G,rfl,w,j⟩:=bi.rdL (bi.tr (m.tr t.fr) _ _ B);obtain⟨q,M,rfl,o,l⟩:=bi.rdL n;exact⟨p,q,G,M,Z,Z,w,o,by rw[<-j.length,<-l.length];assumption,λc A=>k _ _ (m.fr.upd _ A)<|iN.new (t.trans m) A<|j.append l⟩
   .cases h
  .cases h⟩⟩
noncomputable def Ite(K:Vb)(l:UM):It:=
 ⟨λi H=>∃a x,e_ K H l a/\a[i]?=U x,
  λi H v u=>∃p x,H p=Y/\v= .ref p/\u=upd H p (.tup [.int (i:Int),x])/\∀a,e_ K H l a->a[i]?=U x,
  λi H=>∃a,e_ K H l a/\a.length=i⟩
theorem GS{P}{w}{K}{x1}{pos}(l e a)(t:e≠a):
  p3 P w K (.Tuple elts x1 pos) (Ite K l) [e,a] e (λi h=>(∃f,IsEnum h e a (i:Int) f)/\h.IsListIter a l i) where
 mem:=by exact .head _
 obj:=λi h st b j=>by
  obtain⟨⟨f,m⟩,p⟩:=st;simp only[U4,Wr,Y3]at j;obtain rfl|rfl:=j
  .exact⟨_,m,λv q=>by cases q⟩
  .obtain⟨o,q,_,d⟩:=p
   simp_all
 keep:=λi h B st k=>by
  obtain⟨⟨f,m⟩,p⟩:=st;exact⟨⟨f,k e (by exact .head _) _ m⟩,p.at λo q=>k a rc o q⟩
 item:=by
  intro X L N o8 Q i r s σ H E I y st R;subst L N o8;obtain⟨V,x,c,G⟩:=R;obtain⟨⟨f,m⟩,p⟩:=st;obtain⟨g,D,T⟩:=b5.src (b:=O) I c;have M:=I.ok.hd Q;have f5:=b5.src_ne (b:=O) I c (y a<|by exact .tail _ (.head _));have n:i<g.toArray.size:=by
   rw[Vf,<-D.length];exact(UY.mp G).1
  refine wpAny_pyNext_enum_itemD (Draws.list (show(X.A.in1).handled=Y from M) a l f5 _) m ⟨p,T⟩ n t (by simp[t,(b5.src_ne (b:=O) I c (y e<|by exact .head _)).symm]) λu B W pu fo f1 fT sz S=>?_;refine⟨_,Z,wpAny_letOwnedTupleGo_enum fo λC F J=>?_⟩
  obtain⟨u',o7,ru⟩:=D.get G;have eu:u=u':=by
   simp_all
  subst eu;have kk:∀b o,b∉[e,a]->s.heap.get? b=U o->C.get? b=U o:=λb o j q=>by
   simp only[U4,Wr,Y3,not_or]at j;exact J.extBut b o j.1<|S b o j.1 j.2 q
  have I2:b5 X r σ (upd H s.heap.objs.size<|.tup [.int (i:Int),x]) {s with heap:=C,toks:=W+1}:=by
   refine b5.turnNew I y kk (UV _) ⟨by show 2<=Ve;decide,[.int i W,u],.cons ⟨_,Z⟩<|.cons ru .nil,_,J.extBut _ _ (XB<|Vm m) fT,Z,_,Z⟩
  refine⟨.ref _,_,I2,Z,⟨s.heap.objs.size,x,I.hok.fresh<|UV _,Z,Z,λas h1=>by rw[b5.src_inj (b:=O) I h1 c];exact G⟩,⟨⟨_,by exact F⟩,?_⟩,λb j=>?_⟩
  .exact f1.1.at λo q=>J.extBut _ _ t.symm q
  .rw[bb]
   .exact(y b j).1
   .intro q
    have ol:∃o,s.heap.get? b=U o:=by
     simp only[U4,Wr,Y3]at j;obtain rfl|rfl:=j
     .exact⟨_,m⟩
     .obtain⟨o,z,_⟩:=p;exact⟨o,z⟩
    obtain⟨o,z⟩:=ol;exact Vl (Vm z) (by rw[q];exact V4 _)
 done:=by
  intro X L N o8 Q i r s σ H E I y st R;subst L N o8;obtain⟨V,c,hl⟩:=R;obtain⟨⟨f,m⟩,p⟩:=st;obtain⟨g,D,T⟩:=b5.src (b:=O) I c;have M:=I.ok.hd Q;have f5:=b5.src_ne (b:=O) I c (y a<|by exact .tail _ (.head _));have g1:g.toArray.size=i:=by rw[Vf,<-D.length,hl]
  refine wpAny_pyNext_enum_endD (Draws.list (show(X.A.in1).handled=Y from M) a l f5 _) m (by rw[g1];exact⟨p,T⟩) λB S=>⟨Z,b5.turnL I y λb o j q=>?_⟩;simp only[U4,Wr,Y3,not_or]at j;exact S b o j.2 q
 self:=λ_ _ _ _ _ st h=>by
  obtain⟨⟨f,m⟩,p⟩:=st;exact wpAny_pyIter_enum m h
def iEn(K:Vb)(g:TA):TI:=λσ H R=>g σ H λa f=>∃l b,a=[.ref l]/\e_ K f l b/\R (Ite K l) f
theorem OJ{a:Expr}{p pos:Ye}{F}(o:Gl X "enumerate")(z:X.mg "enumerate"=Y)(B:PA X [a] J)(D:autoParam (U8 [a] X.env=[(UK,Wa a X.env)]) z6):
  PI X (.Tuple x F C) (.Call (.Name "enumerate" p) [a] [] pos) (iEn X.K J):=by
 refine λf s σ H R I h=>Call_ (gN I o z Boot.«enumerate»<|Wq (dv (B _ f s σ H _ I h) λM g ⟨P,k,j,E,d⟩=>?_) (by rw[D];rfl) re);obtain⟨l,S,e,d,q⟩:=d;subst e;cases E with
 |cons r t=>
  cases t;cases r;obtain⟨u,v1,v⟩:=b5.src (b:=O) j d;refine call_enumerate_list v λw m y V G=>(wpAny_pyIter_enum m ?_);refine⟨_,[g.heap.objs.size+1,g.heap.objs.size],_,Ite _ l,k,Z,j.kept (t':=g.toks) G,GS l _ _<|Nat.succ_ne_self _,⟨⟨_,m⟩,y⟩,λc n=>?_,q⟩;have i:g.heap.objs.size<=c:=by
   simp only[U4,Wr,Y3]at n;obtain rfl|rfl:=n
   .exact Xi _ _
   .exact UV _
  exact j.fpOk i<|j.hok.fresh i
noncomputable def dF:Nat->ϋ->ϋ
 |_,[]=>[]
 |n,x::xs=> .tup [.int (n:Int),x]::dF (n+1) xs
theorem pY:∀(n:Nat) (a:ϋ),ϱ (dF n a)=ϱ a
 |_,[]=>rfl
 |n,x::a=>by
  show(dF _ a).length+1=ϱ a+1;rw[pY _ a]
theorem pZ:∀{n:Nat} {b:ϋ} {i:Nat} {d:D},(dF n b)[i]?=U d->∃x,b[i]?=U x/\d= .tup [.int ((n+i:Nat):Int),x]
 |n,[],i,d,h=>by simp[dF]at h
 |n,x::b,0,d,h=>by
  simp[dF]at h;simp_all
 |n,x::b,i+1,d,h=>by
  have c:(dF (n+1) b)[i]?=U d:=by simpa[dF]using h
  obtain⟨a,f,g⟩:=pZ c;exact⟨a,by exact f,by rw[g,show n+1+i=n+(i+1) by lia]⟩
def N0:ϋ->Ϧ
 |[.lst xs]=>U<|dF 0 xs
 |_=>Y
theorem MA(o:∀g f,Tr F H g f->∃a,e_ K f l a/\a_ K g f s a):B4 K (Ite K l) F H (dF 0 s):=λg f c t fr i=>by
 obtain⟨a,h,b⟩:=o g f t;refine⟨λd e=>?_,λj=>?_⟩
 .obtain⟨x,q,rfl⟩:=pZ e
  obtain⟨u,k,w⟩:=b.get q;refine⟨⟨a,u,h,k⟩,λz y r=>?_⟩;obtain⟨p,A,m,rfl,rfl,v⟩:=r;have n:=v a h;rw[k]at n;cases n;rw[WM];exact⟨cw.upd m,bi.newT fr m<|a_.cons Z<|a_.cons w a_.nil⟩
 .rw[pY]at j
  exact⟨a,h,by rw[<-b.length,j]⟩
def NH(g:FL):FL:=dm N0 g
theorem pT{a:Expr}{p pos:Ye}{J}(q:Gl X y')(c:X.mg y'=Y)(d:PA X [a]<|ix X.K g E)(w:autoParam (U8 [a] X.env=[(UK,Wa a X.env)]) z6):
  PI X (.Tuple s J x) (.Call (.Name y' p) [a] [] pos) (iV X.K (NH g) E):=
 (OJ q c d w).imp λσ H R j=>k4 j λF δ β fr r h=>⟨F,δ,β,fr,r,(run.bind h).mono λS f j=>by
  obtain⟨V,B,t,D,G⟩:=j;obtain⟨l,e,k⟩:=run.ofO G;unfold N0 at e;split at e
  .rename_i xs
   cases e;obtain⟨v,rfl,o⟩:=a_.one D;have z:∃a,v= .ref a/\∀m i,Tr F f m i->∃b,e_ X.K i a b/\a_ X.K m i xs b:=by
    obtain⟨a,b,rfl,_⟩:=bi.sqL o;refine⟨a,Z,λm i u=>?_⟩;obtain⟨I,n,y,M,A⟩:=bi.sqL<|bi.tr u _ _ o;cases y;exact⟨n,M,A⟩
   obtain⟨a,rfl,z⟩:=z;obtain⟨P,C,_⟩:=z F f<|Tr.refl F f;exact⟨a,P,Z,C,k _ f (To.refl t.fr)<|MA z⟩
  .cases e⟩
def cK(K:Vb)(g:U9)(b:ϒ)(h:ϋ):Prop:=∃a f,cL K g b a/\aG f a/\∀F H,a_ K F H h f
inductive Sr (α:Type) where
 |kw (j:Nat)|df (a:α)
noncomputable def Sr.pick{b:Type}(z:b)(f:List b):Sr b->b
 | .kw j=>f.getD j z
 | .df a=>a
def gK{a:Type}(z:a)(n k:Nat)(b:List<|Sr a)(c f:List a):List a:=if c.length=n/\f.length=k then c++b.map (Sr.pick z f)else[]
inductive mm {α γ:Type} (R:α->γ->Prop):List (Sr α)->List (Sr γ)->Prop where
 |nil:mm R [] []
 |kw {j:Nat} {a:List (Sr α)} {c:List (Sr γ)}:mm R a c->mm R (.kw j::a) (.kw j::c)
 |df {x:α} {y:γ} {a:List (Sr α)} {c:List (Sr γ)}:R x y->mm R a c->mm R (.df x::a) (.df y::c)
theorem aG.getD:∀{f:ύ} {g:ό} (j:Nat),aG f g->bf (f.getD j .non) (g.getD j .none)
 |_,_,_,.nil=>rfl
 |_,_,0,.cons r _=>r
 |_,_,j+1,.cons _ t=>aG.getD j t
theorem mm.vals(r:aG zs ws):∀{a:List (Sr V)} {c:List (Sr UQ)},mm bf a c->aG (a.map<|Sr.pick .non zs) (c.map<|Sr.pick .none ws)
 |_,_,.nil=> .nil
 |_,_,.kw (j:=j) h=> .cons (aG.getD j r)<|mm.vals r h
 |_,_,.df q h=> .cons q<|mm.vals r h
theorem a_.getD:∀{ds:ϋ} {f:ύ} (j:Nat),a_ K F H ds f->bi K F H (ds.getD j .non) (f.getD j .non)
 |[],f,j,h=>by have q:=h;subst q;rfl
 |d::ds,f,0,h=>by
  obtain⟨x,r,e,g,i⟩:=h;subst e;exact g
 |d::ds,f,j+1,h=>by
  obtain⟨x,r,e,g,i⟩:=h;subst e;exact a_.getD j i
theorem mm.den(r:a_ K F H f zs):∀{a:List (Sr D)} {c:List (Sr V)},mm (λd v=>∀F H,bi K F H d v) a c->a_ K F H (a.map<|Sr.pick .non f) (c.map<|Sr.pick .non zs)
 |_,_,.nil=>a_.nil
 |_,_,.kw (j:=j) h=>a_.cons (a_.getD j r)<|mm.den r h
 |_,_,.df q h=>a_.cons (q F H)<|mm.den r h
theorem mm.len{b f}{R:b->f->Prop}:∀{a:List (Sr b)} {c:List (Sr f)},mm R a c->ϱ a=ϱ c
 |_,_,.nil=>rfl
 |_,_,.kw h=>by rw[U5,U5,mm.len h]
 |_,_,.df _ h=>by rw[U5,U5,mm.len h]
structure D2 (K:Vb) (fd:U9) (ps ks:ϒ) (n:Nat) (src:List<|Sr D):Prop where
 ex:∃(sv:List<|Sr UQ) (sx:List<|Sr V),mm bf sx sv/\mm (λd v=>∀F H,bi K F H d v) src sx/\∀(s:UW) (us ws:ό),K.In s.heap->us.length=n->ws.length=ks.length->BindsTo s fd ⟨us,ks.zip ws⟩ (ps.zip<|us++sv.map (Sr.pick .none ws))
 len:ps.length=n+src.length
 pos:0<ps.length
theorem D2.kb{e a}(h:D2 K p e a n src):∃(c:List<|Sr UQ) (f:List<|Sr V),mm (λd v=>∀F H,bi K F H d v) src f/\N_ K p e a (gK .none n a.length c) (gK .non n a.length f):=by
 obtain⟨c,f,w,l,b⟩:=h.ex;refine⟨c,f,l,λs u k m g=>?_,λ{z u o k} i j=>?_⟩
 .unfold gK at g⊢
  split at g
  .rename_i q
   simp_all
  .exact Vl g (by have:=h.pos;simp;lia)
 .unfold gK
  by_cases q:z.length=n/\o.length=a.length
  .rw[US q,US<|by rw[<-i.length,<-j.length];exact q]
   exact i.append<|mm.vals j w
  .rw[UU q,UU<|by rw[<-i.length,<-j.length];exact q]
   exact .nil
variable{p c:Ye}{x:VF}{k n:Nat}{f:UM}{d:U9}{a h:ϒ}{b:List Keyword}{B:Option VF}
def Sj(m:ϋ->M D)(g:FL)(h:ϋ):FD:=λδ=>M.bind (g δ) λa=>m<|a++h
theorem Oe{h:ϋ}(G:fw X.prog X.w X.K X.mg X.base (hO X.prog X.w) k f d a<|P_ X.K n m)(y:d4 k X.A)(I:Gl X x)(S:X.mg x=U (.ref f))(J:keepIn X.K (.ref f)=O)(L:cK X.K d a h)(V:eB (hO X.prog X.w) X E)
  (s:PA X (e::z)<|ix X.K g E) (hn:∀δ β r P,g δ β=U (.ok r,P)->r.length+h.length=n) (i:autoParam (ϟ x) z7) (N:autoParam (Ϛ X e z) z6) (j:autoParam (ϣ X pos z) z6):
  PE X (.Call (.Name x p) (e::z) [] pos) (tV X.K (Sj m g h) E):=by
 obtain⟨ds,o7,b,T,B⟩:=L;refine(qx G y I S J b T V s i N j).imp λσ H Q R=>k4 R λF δ β fr W r=>⟨F,δ,β,fr,W,?_⟩;obtain⟨D,l,u,v⟩:=run.bind r;refine⟨D,l,u,?_⟩;cases D with
 |error C=>exact v
 |ok as=>
  intro vs o t M;obtain⟨d',c,f5,q,r1⟩:=v vs o t M;have hz:=(B F o).length;refine⟨by rw[Va,<-M.length,<-hz,hn _ _ _ _ u],F,d'++h,c,f5.fr,a_.append q<|B F o,run.toE r1⟩
theorem GM:PK X [] (ix X.K az E):=λpos g s σ H Q I h=>by obtain⟨F,δ,β,fr,i,r⟩:=h;exact QR pos g s σ H Q I<|run.ret fr r a_.nil
theorem zO{f}(k:PE X e<|tV X.K f E)(m:PK X b<|ix X.K g E):PK X (⟨B,e,c⟩::b) (ix X.K (af f g) E):=λpos h s σ H Q I ⟨F,δ,β,fr,j,r⟩=>
 OH k m _ h s σ H Q I ⟨F,δ,β,fr,j,(run.bind r).mono λv u z=>by obtain⟨d,a,t,n,p⟩:=z;exact 
  ⟨F,δ,a,t.fr,j.tr<|t.tr fr,(run.bind p).mono λx y o=>ro o λz w l i q=>run.ret l.fr q<|a_.cons (bi.tr (l.tr t.fr) _ _ n) i⟩⟩
theorem vt{b}{δ}{β a c}{e d}(g:j δ β=U (.ok e,a))(h:oa l m b e (k_ q b4 δ) a=U (.ok d,c))(i:ϱ d<=Ve):c9 q b4 j l m b δ β=U (.ok<|.lst d,c):=by
 unfold c9;simp_all
def plD:Nat->D->Prop
 |_,.int _=>True
 |_,.bl _=>True
 |_,.non=>True
 |n+1,.lst xs=>∀x∈xs,plD n x
 |n+1,.tup xs=>∀x∈xs,plD n x
 |_,_=>False
theorem OG:∀(n:Nat) (d:D),plD n d->∃p,pj d=U p/\p.canLay0=O/\p.depth<=n+1:=by
 have g:∀(n:Nat) (b:ϋ),(∀x∈b,∃p,pj x=U p/\p.canLay0=O/\p.depth<=n)->∃a,toPs b=U a/\PyData.canLayAll0 a=O/\PyData.depthAll a<=n:=by
  intro n b
  induction b with
  |nil=>intro _;exact⟨[],Z,Z,by simp[PyData.depthAll]⟩
  |cons x b c=>
   intro h;obtain⟨p,o,q,r⟩:=h x UP;obtain⟨a,j,l,m⟩:=c λy f=>h y<|UI _ f;refine⟨p::a,?_,?_,?_⟩
   .unfold toPs;simp_all
   .simp[PyData.canLayAll0,q,l]
   .simp only[PyData.depthAll];lia
 intro n
 induction n with
 |zero=>
  intro d h;cases d with
  |int i=>exact⟨.int i,Z,Z,by simp[YE]⟩
  |bl i=>exact⟨.bool i,Z,Z,by simp[YE]⟩
  |non=>exact⟨.none,Z,Z,by simp[YE]⟩
  |_=>exact h.elim
 |succ n c=>
  intro d h;cases d with
  |int i=>exact⟨.int i,Z,Z,by simp[YE]⟩
  |bl i=>exact⟨.bool i,Z,Z,by simp[YE]⟩
  |non=>exact⟨.none,Z,Z,by simp[YE]⟩
  |lst b=>
   obtain⟨a,j,l,m⟩:=g (n+1) b λx e=>c x<|h x e;exact⟨.list a,by unfold pj;simp[j],by simp[PyData.canLay0,l],by simp only[YE];lia⟩
  |tup b=>
   obtain⟨a,j,l,m⟩:=g (n+1) b λx e=>c x<|h x e;exact⟨.tuple a,by unfold pj;simp[j],by simp[PyData.canLay0,l],by simp only[YE];lia⟩
  |_=>exact h.elim
theorem zr{d}(n)(h:plD n d)(a:n<=60):oA d=O:=by
 obtain⟨p,g,i,j⟩:=OG n d h;unfold oA;simp only[g,ZT,i,Yr,Vx];lia
def Gw(g:G)(δ:Ds)(β:Bg)(Q:a0x):Prop:=∃o P,g δ β=U (o,P)/\Q o P
end
section
variable{g h a b s p:G}{δ δ1:Ds}{β β1 β2 β3:Bg}{Q R:a0x}{i:Nat}{f q u v:FD}{fl:FL}{j:Dn->M Ϝ}{d x y z:D}{ds as:ϋ}{t:Ϥ}{c:Bool}{C:UM}{K:Vb}
theorem Gw.mono(k:Gw g δ β R)(q:∀o β,R o β->Q o β):Gw g δ β Q:=by obtain⟨o,β',e,r⟩:=k;exact ⟨o,β',e,q _ _ r⟩
theorem Ox:aP g gNil=g:=by
 funext δ β;unfold aP;split
 .rename_i δ1 β1 e;exact e.symm
 .rfl
theorem ao(k:Gw (aP g gNil) δ β Q):Gw g δ β Q:=by rw[Ox]at k;exact k
theorem b_(q:Q (.nx δ) β):Gw gNil δ β Q:=⟨_,_,Z,q⟩
theorem dh(e:g δ β=U (.nx δ1,β1))(k:Gw h δ1 β1 Q):Gw (aP g h) δ β Q:=by
 obtain⟨o,j,l,q⟩:=k;exact⟨o,j,by unfold aP;rw[e];exact l,q⟩
theorem kq(k:Gw (aP a<|aP b h) δ β Q):Gw (aP (aP a b) h) δ β Q:=by
 obtain⟨o,j,l,q⟩:=k;refine⟨o,j,?_,q⟩;rw[<-l];unfold aP;split<;>rename_i e<;>(split at e<;>simp_all)
theorem aQ(k:Gw h δ β Q):Gw (aP gNil h) δ β Q:=dh Z k
theorem wQ(k:Gw g (fz i δ) β Q):Gw (fzG i g) δ β Q:=k
theorem aF(e:f (vw δ) β=U (.ok d,β1))(k:Gw h (δ.set i<|U<|.sh d) β1 Q):Gw (aP (dB i f) h) δ β Q:=dh (by unfold dB;rw[e]) k
theorem PU(e:f (fy δ) β=U (.ok d,β1))(k:Gw h (δ.set i<|U<|.sh d) β1 Q)(j:autoParam (eM d=O) z6):Gw (aP (xm i f) h) δ β Q:=dh (by unfold xm;simp[e,j]) k
theorem GK(e:f (fy δ) β=U (.ok d,β1))(k:Gw h (δ.set i<|U<|.sh d) β1 Q)(j:autoParam (noL d=O) z6):Gw (aP (xl i f) h) δ β Q:=dh (by unfold xl;simp_all) k
theorem ic(e:f (fy δ) β=U (.ok d,β1))(k:Gw h δ β1 Q):Gw (aP (ou f) h) δ β Q:=dh (by unfold ou;rw[e]) k
theorem iQ(e:t (fy δ) β=U (.ok c,β1))(k:Gw (aP (if c=O then s else p) h) δ β1 Q):Gw (aP (pa t s p) h) δ β Q:=by
 obtain⟨o,j,l,q⟩:=k;refine⟨o,j,?_,q⟩;rw[<-l];unfold aP pa;rw[e];cases c<;>rfl
theorem d7(e:t (fy δ) β=U (.ok O,β1))(k:Gw (aP s h) δ β1 Q):Gw (aP (pa t s p) h) δ β Q:=iQ e k
theorem bn(e:t (fy δ) β=U (.ok UK,β1))(k:Gw (aP p h) δ β1 Q):Gw (aP (pa t s p) h) δ β Q:=iQ e k
theorem aC(e:f (fy δ) β=U (.ok d,β1))(q:Q (.rt d) β1):Gw (aP (eW f) h) δ β Q:=⟨_,_,by unfold aP eW;rw[e],q⟩
theorem Oc(e:j (vw δ) β=U (.ok ai,β1))(q:Q (.rg ai) β1):Gw (aP (pW j) h) δ β Q:=⟨_,_,by unfold aP pW;rw[e],q⟩
theorem wP(e:j (vw δ) β=U (.ok ai,β1))(a:ai.all noLs=O)(k:Gw h (δ.set i<|U<|.grd ai) β1 Q):Gw (aP (sk i j) h) δ β Q:=dh (by unfold sk;simp only[e,a,VV]) k
theorem CO(e:v (fy δ) β=U (.ok d,β1))(j:q (fy δ) β1=U (.ok<|.int ka,β2))(l:u (fy δ) β2=U (.ok<|.int kb,β3))(m:δ.getD i Y=U (.grd ai))
  (n:ko (ϱ ai) ka=U ja) (o:ai[ja]?=U ds) (p:ko (ϱ ds) kb=U jb) (a:noL d=O) (k:Gw h (δ.set i<|U<|.grd<|ai.set ja<|ds.set jb d) β3 Q):Gw (aP (oq i q u v) h) δ β Q:=
 dh (by unfold oq;simp_all) k
theorem lE(e:fl (vw δ) β=U (.ok ds,β1))(j:ϱ ds<=Ve)(k:Gw h (δ.set i<|U<|.own ds) β1 Q):Gw (aP (FC i fl) h) δ β Q:=dh (by unfold FC;simp_all) k
theorem lF(j:δ.getD i Y=U (.own cs))(e:fl (vw δ) β=U (.ok [d],β1))(l:ϱ cs<Ve)(k:Gw h (δ.set i<|U<|.own<|cs++[d]) β1 Q):Gw (aP (FH i fl) h) δ β Q:=
 dh (by unfold FH;simp_all) k
theorem CP(e:f (vw δ) β=U (.ok d,β1))(j:l d δ=U δ1)(k:Gw h δ1 β1 Q):Gw (aP (FG f l) h) δ β Q:=dh (by unfold FG;simp_all) k
def Tn(I:Ds->Bg->Prop)(h:G)(Q:a0x):m_->Bg->Prop:=λo β=>match o with
 | .nx δ=>I δ β
 | .ct δ=>I δ β
 | .bk δ=>Gw h δ β Q
 |o=>Q o β
theorem bw(e:it δ β=U (.ok ds,β1))(u:Nat->Ds->Bg->Prop)(N:u 0 δ β1)(b:∀i d δ β,ds[i]?=U d->u i δ β->∃δ1,tg d δ=U δ1/\Gw g δ1 β (Tn (u<|i+1) h Q))(k:∀δ β,u (ϱ ds) δ β->Gw h δ β Q):
  Gw (aP (qM it tg g) h) δ β Q:=by
 have c:∀(a:ϋ) (j:Nat) (δ:Ds) (β:Bg),a=ds.drop j->j+ϱ a=ϱ ds->u j δ β->Gw (aP (ri tg g a) h) δ β Q:=by
  intro a
  induction a with
  |nil=>
   intro j δ β _ B F;exact dh Z<|k δ β<|B▸F
  |cons d a s=>
   intro j δ β L B F;have f5:ds[j]?=U d:=by
    have:=VR (λl=>l[0]?) L;simpa[List.getElem?_drop]using this.symm
   obtain⟨δ1,v,o,β2,A,q⟩:=b j d δ β f5 F;have H:a=ds.drop (j+1):=by
    have:=VR List.tail L;simpa[List.tail_drop]using this
   have f:=λm I=>s _ m β2 H (by simp at B;grind) I;have n:∀{r:G} {m:Ds},Gw (aP r h) m β2 Q->ri tg g _ δ β=r m β2->Gw (aP (ri tg g<|d::a) h) δ β Q:=λ{r m} ⟨T,p,J,X⟩ W=>⟨T,p,by rw[<-J];unfold aP;rw[W],X⟩;cases o with
   |nx m=>exact n (f m q) (by rw[ri];simp only[v,A])
   |ct m=>exact n (f m q) (by rw[ri];simp only[v,A])
   |bk m=>exact n (aQ q) (by rw[ri];simp only[v,A];rfl)
   |rt d'=>exact⟨_,β2,by unfold aP;rw[ri];simp_all,q⟩
   |rg d'=>exact⟨_,β2,by unfold aP;rw[ri];simp_all,q⟩
   |ex C m=>exact⟨_,β2,by unfold aP;rw[ri];simp_all,q⟩
 obtain⟨o,p,J,q⟩:=c ds 0 δ β1 re rc N;refine⟨o,p,?_,q⟩;rw[<-J];unfold aP qM;rw[e]
theorem jJ{S:Except UM D->Bg->Prop}(k:Gw g (lv n ds) β (λo j=>match o with| .rt d=>S (.ok d) j| .nx _=>S (.ok .non) j| .ex C _=>S (.error C) j|_=>False)):∃r j,fK n g ds β=U (r,j)/\S r j:=by
 obtain⟨o,j,e,q⟩:=k;cases o with
 |rt d=>exact⟨.ok d,j,by unfold fK;rw[e],q⟩
 |nx δ=>exact⟨.ok _,j,by unfold fK;rw[e],q⟩
 |ex C δ=>exact⟨.error C,j,by unfold fK;rw[e],q⟩
 |_=>exact q.elim
theorem PF{S:Ϝ->Bg->Prop}(k:Gw g (lv n ds) β (λo j=>match o with| .rg d=>S d j|_=>False)):∃r j,qS n g ds β=U (.ok r,j)/\S r j:=by
 obtain⟨o,j,e,q⟩:=k;cases o with
 |rg d=>exact⟨d,j,by unfold qS;rw[e],q⟩
 |_=>exact q.elim
theorem aE(k:Gw g (lv n ds) β (λo j=>j=β/\(match o with| .rt d=>r= .ok d| .nx _=>r= .ok .non| .ex C _=>r= .error C|_=>False))):fK n g ds β=U (r,β):=by
 obtain⟨l,j,e,a,b⟩:=jJ (S:=λl j=>j=β/\r=l) (k.mono λo j h=>by
  cases o<;>first|exact h|exact h.2)
 subst a b;exact e
theorem PH(k:Gw g (lv n ds) β (λo j=>j=β/\(match o with| .rg d=>r=d|_=>False))):qS n g ds β=U (.ok r,β):=by
 obtain⟨l,j,e,a,b⟩:=PF (k.mono λo j h=>by
  cases o<;>first|exact h|exact h.2)
 subst a b;exact e
theorem aq{δ}(e:fl δ β=U (.ok as,β1))(j:m as β1=U r):bW m fl δ β=U r:=by unfold bW M.bind;rw[e];exact j
theorem N9{δ}(e:fl δ β=U (.ok as,β1))(j:m as β1=U r):zd m fl δ β=U r:=by unfold zd M.bind;rw[e];exact j
theorem b0{δ}(e:q δ β=U (.ok x,β1))(j:u δ β1=U (.ok y,β2))(k:op x y=U z):f2 op q u δ β=U (.ok z,β2):=by unfold f2 M.bind;rw[e];simp only[j,M.ofO,k]
theorem x_1{δ}(e:q δ β=U (.ok x,β1))(j:op x=U z):f1 op q δ β=U (.ok z,β1):=by unfold f1 M.bind;rw[e];simp only[M.ofO,j]
theorem ah{δ}(e:fl δ β=U (.ok as,β1))(j:op as=U z):aX op fl δ β=U (.ok z,β1):=by unfold aX M.bind;rw[e];simp only[M.ofO,j]
theorem aa{δ}(e:q δ β=U (.ok x,β1))(j:fl δ β1=U (.ok as,β2)):af q fl δ β=U (.ok<|x::as,β2):=by unfold af M.bind;rw[e];simp only[j,M.ret]
theorem bO{δ}(e:fl δ β=U (.ok as,β1))(j:op as=U ds):dm op fl δ β=U (.ok ds,β1):=by unfold dm M.bind;rw[e];simp only[j,M.ofO]
theorem bN{δ}(e:q δ β=U (.ok x,β1))(j:d9 x=U ds):cR q δ β=U (.ok ds,β1):=by unfold cR M.bind;rw[e];simp only[j,M.ofO]
theorem dr{δ}(e:q δ β=U (.ok<|.bl c,β1)):fB q δ β=U (.ok c,β1):=by unfold fB M.bind;rw[e];rfl
theorem qm{δ}(e:q δ β=U (.ok x,β1))(j:Lo x=U c):za q δ β=U (.ok c,β1):=by unfold za M.bind;rw[e];simp only[M.ofO,j]
theorem sH{δ}(e:t δ β=U (.ok c,β1)):FK t δ β=U (.ok<|!c,β1):=by unfold FK M.bind;rw[e];rfl
theorem bE(a:β.ok)(k:0<lot)(l:lot<1073741824):∃v e,dT [.bag,.int lot] β=U (.ok<|.int v,e)/\0<=v/\v<lot/\e.ok:=by
 obtain⟨m,b,j⟩:=AG a k;exact⟨_,_,Mh a k l,m,b,j⟩
theorem ld{n:Nat}{k:Int}(e:0<=k)(j:k<n):ko n k=U k.toNat:=by unfold ko;rw[US e,US j]
theorem Kt(e:0<=k)(h:l[k.toNat]?=U d):f0 (.lst l) (.int k)=U d:=by
 have j:=(UY.mp h).1;show l6 l k=U d;unfold l6;rw[ld e ln];exact h
theorem sd:f0 (.tup [x,y]) (.int 0)=U x:=Z
theorem pQ:f0 (.tup [x,y]) (.int 1)=U y:=Z
end
section
variable{β β1 β2:Bg}{f g h i:FD}{t u:Ϥ}{δ:Dn}{c e:Bool}{x y z w:Int}{d:D}
theorem j3(a:t δ β=U (.ok UK,β1))(b:u δ β1=U (.ok e,β2)):vn t u δ β=U (.ok e,β2):=by
 unfold vn M.bind;rw[a];simp[b]
theorem zK(a:f δ β=U (.ok<|.bl O,β1))(b:g δ β1=U (.ok d,β2)):FM f g δ β=U (.ok d,β2):=by
 unfold FM M.bind;rw[a];simp[asB,M.ofO,b]
theorem le_int:leD (.int x) (.int y)=U (.bl<|decide (x<=y)):=Z
theorem lt_int:ltD (.int x) (.int y)=U (.bl<|decide (x<y)):=Z
theorem gt_int:B_ (.int x) (.int y)=U (.bl<|decide (y<x)):=Z
theorem zL(a:f δ β=U (.ok<|.int x,β))(b:g δ β=U (.ok<|.int y,β))(j:h δ β=U (.ok<|.int z,β)):m8 leD leD f g h δ β=U (.ok<|.bl<|decide (x<=y)&&decide (y<=z),β):=by
 unfold m8 M.bind;rw[a];simp only[b,le_int,M.ofO,asB];by_cases q:x<=y
 .simp only[q,decide_true,VV,j,le_int,Yr]
 .simp only[q,decide_false,Vd,VS,M.ret,Zg]
theorem Lh(a:f δ β=U (.ok<|.int x,β))(b:g δ β=U (.ok<|.int y,β))(j:h δ β=U (.ok<|.int z,β))(k:i δ β=U (.ok<|.int w,β)):qQ leD leD leD f g h i δ β=U (.ok<|.bl<|decide (x<=y)&&decide (y<=z)&&decide (z<=w),β):=by
 unfold qQ NZ M.bind;rw[a];simp only[b,le_int,M.ofO,asB];by_cases q:x<=y
 .simp only[q,decide_true,VV,j,le_int,Yr]
  by_cases c:y<=z
  .simp only[c,decide_true,VV,k,le_int,Yr]
  .simp only[c,decide_false,Vd,VS,M.ret,Zg]
 .simp only[q,decide_false,Vd,VS,M.ret,Zg]
theorem jc{g h}{δ}(P:Ds->Bg->Prop)(a:Gw g δ β (λo β1=>∃c,o= .nx c/\P c β1))(b:∀c β1,P c β1->Gw h c β1 Q):Gw (aP g h) δ β Q:=by
 obtain⟨o,β1,e,c,rfl,p⟩:=a;exact dh e<|b c β1 p
noncomputable abbrev gI(ai:LI):Ϝ:=ai.map λr=>r.map D.int
noncomputable abbrev lG(c:Ϝ):D:= .lst<|c.map D.lst
abbrev ck(ai:LI):D:=lG<|gI ai
noncomputable def pD(p:Int×Int):D:= .tup [.int p.1,.int p.2]
abbrev gP(b:LP):Ϝ:=b.map λr=>r.map pD
abbrev eG(b:LP):D:=lG<|gP b
def j2{e:Type}(r c:Nat)(m:List<|List e):Prop:=m.length=r/\∀d∈m,d.length=c
noncomputable def tot(ai:LI):Int:=(ai.map WC).sum
theorem bh(h:n<=1000):n<=Ve:=U1 h rb
theorem ia:∀r:ώ,noLs (r.map D.int)=O:=List.rec Z λx r h=>by
  show(noL _&&noLs _)=O;rw[h];rfl
theorem tX:∀r:List<|Int×Int,noLs (r.map pD)=O:=List.rec Z λx r h=>by
  show(noL _&&noLs _)=O;rw[h];rfl
theorem Rb(b):(gP b).all noLs=O:=by
 rw[X5];intro x c;obtain⟨r,_,rfl⟩:=UL.mp c;exact tX r
theorem j2.map{d a}{f:d->a}{r c}{m}(h:j2 r c m):j2 r c (m.map λx=>x.map f):=⟨by rw[UD,h.1],λe b=>by
 obtain⟨x,g,rfl⟩:=UL.mp b;rw[UD];exact h.2 x g⟩
theorem j2.set{d}{r c i j}{m}{row}{v:d}(h:j2 r c m)(a:m[i]?=U row):j2 r c (m.set i<|row.set j v):=⟨by rw[VM,h.1],λx e=>by
 obtain e|rfl:=Xa e
 .exact h.2 x e
 .rw[VM];exact h.2 _<|U2 a⟩
theorem j2.at{d}{r c i}{m:List (List d)}(h:j2 r c m)(b:i<r):∃row,m[i]?=U row/\ϱ row=c:=by
 have a:i<ϱ m:=by rw[h.1];exact b
 exact⟨m[i],UJ a,h.2 _<|VU a⟩
theorem N3{c}{l:List c}{i}(h:i<ϱ l):∃x,l[i]?=U x:=⟨l[i],UJ h⟩
theorem mF:∀{c:ώ} {j:Nat} {x v:Int},c[j]?=U x->(c.set j v).sum=c.sum-x+v
 |[],j,x,v,h=>by simp at h
 |y::c,0,x,v,h=>by
  simp at h;subst h;simp only[List.set_cons_zero,Vk];lia
 |y::c,j+1,x,v,h=>by
  have d:c[j]?=U x:=by exact h
  simp only[List.set_cons_succ,Vk,mF d];lia
theorem Og{i j}{row}{x v}(a:ai[i]?=U row)(b:row[j]?=U x):tot (ai.set i<|row.set j v)=tot ai-x+v:=by
 unfold tot;rw[Zh,mF (by rw[UN,a];rfl),mF b];lia
theorem Rc{ai:LI}{i j}(h:∀r∈ai,∀x∈r,0<=x)(b:ai[i]?=U row)(k:0<=v):∀r∈ai.set i (row.set j v),∀x∈r,0<=x:=λr a x c=>by
 obtain a|rfl:=Xa a
 .exact h r a x c
 .obtain c|rfl:=Xa c
  .exact h _ (U2 b) x c
  .exact k
theorem oX:∀{xs:ώ},(∀x∈xs,0<=x)->0<=xs.sum:=λ{x0}=>x0.rec (@λ_=>rc) λy xs w=>@λh=>by
  have:=w λx c=>h x<|UI _ c;have:=h y UP;rw[Vk];lia
theorem yJ:∀{xs:ώ},(∀x∈xs,0<=x)->∀x∈xs,x<=xs.sum:=λ{x0}=>x0.rec (@λ_ x hx=>by cases hx) λy xs w=>@λh x hx=>by
  have:=oX λx hx=>h x<|UI _ hx;have:=h y UP;obtain rfl|hx:=U4.mp hx
  .simp only[Vk];lia
  .have:=w (λx hx=>h x<|UI _ hx) x hx
   rw[Vk];lia
theorem Rt(h:∀r∈ai,∀x∈r,0<=x):∀r∈ai,∀x∈r,x<=tot ai:=λr a x c=>by
 have j:=yJ (h r a) x c;have k:=yJ (λs d=>by
  obtain⟨q,b,rfl⟩:=UL.mp d;exact oX<|h q b) _<|UL.mpr ⟨r,a,Z⟩
 unfold tot;lia
structure Tab (r c:Nat) (ai:LI):Prop where
 shp:j2 r c ai
 nn:∀row∈ai,∀x∈row,0<=x
 tot:tot ai<=40
 r0:1<=r
 r1:r<=4
 c0:1<=c
 c1:c<=6
theorem gn(c:ώ):gT [.lst<|c.map D.int]=U (.int c.sum):=by
 show((cV<|c.map _).map λl=>D.int _)=_;have:∀c:ώ,cV (c.map D.int)=U c:=λc=>by
  induction c with
  |nil=>rfl
  |cons n c d=>simp[cV,d]
 simp_all
theorem F3(a:0<=n)(h:n<=10^9):g0 [.int n]=U (bv 0 n.toNat):=by
 have q:(decide (-(2^62)<=n)&&decide (n<2^62))=O:=by
  rw[Vu];lia
 show(if(decide _&&decide _)=O then U (bv 0 _)else Y)=_;rw[US q]
theorem wZ(h:(bv 0 n)[k]?=U d):k<n/\d= .int (k:Int):=by
 unfold bv at h;have a:k<n:=by
  have:=(UY.mp h).1;simp_all
 simp_all
theorem yh(n):ϱ (bv 0 n)=n:=by simp[bv]
theorem bx{d}(xs)(u v:d->D)(a:it δ β=U (.ok<|xs.map u,β))
  (b:∀x∈xs,∃c,tg (u x) (k_ nv b4 δ)=U c/\f c β=U (.ok<|v x,β)) (j:ϱ xs<=Ve):c9 nv b4 it tg (λ_=>M.ret O) (j0 f) δ β=U (.ok<|.lst<|xs.map v,β):=by
 refine vt a ?_ (by rw[UD];exact j);have d:∀xs:List d,(∀x∈xs,∃c,tg (u x) (k_ nv b4 δ)=U c/\f c β=U (.ok<|v x,β))->oa tg (λ_=>M.ret O) (j0 f) (xs.map u) (k_ nv b4 δ) β=U (.ok<|xs.map v,β):=by
  intro xs
  induction xs with
  |nil=>intro _;rfl
  |cons x xs e=>
   intro h;obtain⟨c,k,l⟩:=h x UP;rw[UZ,oa];simp only[k,M.bind,M.ret,reduceIte,j0,l,e λy g=>h y<|UI _ g,UZ,WY,WH]
 exact d xs b
theorem me{d}{f}(xs)(u:d->D)(v:d->ϋ)(a:it δ β=U (.ok<|xs.map u,β))
  (b:∀x∈xs,∃c,tg (u x) (k_ nv b4 δ)=U c/\f c β=U (.ok<|v x,β)) (j:ϱ xs<=Ve):iI nv b4 it tg (λ_=>M.ret O) (sE f) δ β=U (.ok<|xs.map v,β):=by
 have g:∀xs:List d,(∀x∈xs,∃c,tg (u x) (k_ nv b4 δ)=U c/\f c β=U (.ok<|v x,β))->sD tg (λ_=>M.ret O) (sE f) (xs.map u) (k_ nv b4 δ) β=U (.ok<|xs.map v,β):=by
  intro xs
  induction xs with
  |nil=>intro _;rfl
  |cons x xs i=>
   intro h;obtain⟨c,k,l⟩:=h x UP;rw[UZ,sD];simp only[k,M.bind,M.ret,reduceIte,sE,l,i λy t=>h y<|UI _ t,UZ,WY,WH]
 unfold iI;simp_all
theorem KS{e}(d)(u:e->D)(v:e->D)(a:it δ β=U (.ok<|d.map u,β))
  (b:∀x∈d,∃c,tg (u x) (k_ nv b4 δ)=U c/\f c β=U (.ok<|v x,β)) (j:ϱ d<=Ve):jH nv b4 it tg (λ_=>M.ret O) (j0 f) δ β=U (.ok<|d.map v,β):=by
 have g:∀d:List e,(∀x∈d,∃c,tg (u x) (k_ nv b4 δ)=U c/\f c β=U (.ok<|v x,β))->oa tg (λ_=>M.ret O) (j0 f) (d.map u) (k_ nv b4 δ) β=U (.ok<|d.map v,β):=by
  intro d
  induction d with
  |nil=>intro _;rfl
  |cons x d i=>
   intro h;obtain⟨c,k,l⟩:=h x UP;rw[UZ,oa];simp only[k,M.bind,M.ret,reduceIte,j0,l,i λy t=>h y<|UI _ t,UZ,WY,WH]
 unfold jH;simp_all
theorem QD{c}(a:ϱ ds<=Ve)(b:ϱ ds*c<=Ve)(j:c<=1000000):yi ds (.int (c:Int))=U (Vn c ds).flatten:=by
 have q:(decide (-(2^63)<=(c:Int))&&decide ((c:Int)<2^63)&&decide (ϱ ds<=Ve)&&decide (ϱ ds*(c:Int).toNat<=Ve))=O:=by
  simp only[Vu,Vx];exact⟨⟨⟨ln,ln⟩,a⟩,by exact b⟩
 unfold yi;simp only[q,VV];rw[Wc]
theorem y7{d}(x:d):∀c:Nat,(Vn c [x]).flatten=Vn c x
 |0=>rfl
 |c+1=>by rw[Wm,XW,y7 x c];rfl
theorem Tp{x}{c:Nat}(b:f δ β=U (.ok x,β))(j:g δ β=U (.ok<|.int (c:Int),β))(k:c<=1000):EB (af f az) g δ β=U (.ok<|Vn c x,β):=by
 have a:ϱ [x]<=Ve:=by rw[VX];decide
 have l:ϱ [x]*c<=Ve:=by rw[VX,Nat.one_mul];exact bh k
 have r:=QD a l ln;rw[y7]at r;have s:szL [x]=U [x]:=by
  rfl
 unfold EB;rw[M.bind_ok (aa b Z),s,M.bind_some,M.bind_ok j,r];rfl
theorem K2(c):fS (c.map D.bl)=U c:=by
 induction c with
 |nil=>rfl
 |cons b c d=>simp[fS,d]
theorem any_map(c:List α)(p:α->Bool):FW [.lst<|c.map λx=>D.bl<|p x]=U (.bl<|c.any p):=by
 show(fS _).map _=_;rw[show(c.map λx=>D.bl<|p x)=(c.map p).map _ by rw[UR];rfl,K2];simp_all
theorem l3{c}(r)(x:c):(UT r).map (λ_=>x)=Vn r x:=by rw[List.map_const',Vi]
theorem dn(h:ϱ xs=r):fF [.lst xs]=U (.int (r:Int)):=by subst h;rfl
theorem yI(h:ϱ ai=r):fF [lG ai]=U (.int (r:Int)):=dn (by rw[UD,h])
theorem ug{k:Nat}(h:ai[k]?=U row):f0 (lG ai) (.int (k:Int))=U (.lst row):=Kt ln (by rw[Wc,UN,h];rfl)
theorem cQ{c}{k:Nat}(h:c[k]?=U d):f0 (.lst c) (.int (k:Int))=U d:=Kt ln (by exact h)
theorem cj{x y}:fZ [x,y]=U (.tup [x,y]):=by
 rfl
theorem Rp:gu []=U (.lst []):=by
 rfl
theorem rW{x}:gu [x]=U (.lst [x]):=by
 rfl
theorem EF:yA [.int x,.int y]=U (.int<|XF x y):=by
 unfold yA;simp only;split<;>grind
theorem Ro:EH [.int x,.int y]=U (.int<|max x y):=by
 unfold EH;simp only;congr 2;split<;>lia
theorem eq_int:dE (.int x) (.int y)=U (.bl<|decide (x=y)):=by rw[Uv]
theorem ne_int:iu (.int x) (.int y)=U (.bl<|!decide (x=y)):=by rw[Uu]
theorem vo{i:Nat}(h:(dF 0 j)[i]?=U d):∃x,j[i]?=U x/\d= .tup [.int (i:Int),x]:=by
 obtain⟨x,b,a⟩:=pZ h;rw[WM]at a;exact⟨x,b,a⟩
theorem bR{c a}{f:c->a}{xs:List c}{i:Nat}{d}(h:(xs.map f)[i]?=U d):∃x,xs[i]?=U x/\d=f x:=by
 rw[UN]at h;cases q:xs[i]? with
 |none=>rw[q]at h;cases h
 |some x=>rw[q]at h;simp_all
noncomputable abbrev qO(r c:Nat):LP:=Vn r<|Vn c (0,40)
theorem KK(r c):j2 r c (qO r c):=⟨rc,λd h=>by rw[(Xf.mp h).2];simp⟩
noncomputable def H_{d:Type}(m:List<|List d)(i j:Nat):Option d:=(m[i]?).bind λc=>c[j]?
theorem at2_set{d}{m}{i j k l}{c}{v x:d}(a:m[i]?=U c)(h:H_ (m.set i<|c.set j v) k l=U x):(k=i/\l=j/\x=v)\/(H_ m k l=U x/\¬(k=i/\l=j)):=by
 unfold H_ at h⊢;rw[WG]at h;by_cases q:i=k
 .subst q
  rw[US Z]at h;split at h
  .simp only[WJ]at h
   rw[WG]at h;by_cases w:j=l
   .subst w
    simp_all
   .rw[UU w]at h
    exact .inr ⟨by rw[a];exact h,λz=>w z.2.symm⟩
  .cases h
 .rw[UU q]at h
  exact .inr ⟨h,λz=>q z.1.symm⟩
theorem CH{d}{m}{i j}{x:d}(h:H_ m i j=U x):∃c∈m,x∈c:=by
 unfold H_ at h;cases q:m[i]? with
 |none=>rw[q]at h;cases h
 |some c=>rw[q]at h;exact⟨c,U2 q,U2 h⟩
theorem qd{c}{m}{i j}{row}{x:c}(a:m[i]?=U row)(b:row[j]?=U x):H_ m i j=U x:=by unfold H_;rw[a];exact b
structure rx (p:Int×Int):Prop where
 l:0<=p.1
 m:p.1<=p.2
 h:p.2<=40
def Kp(ai:LI)(b:LP):Prop:=∀i j x p,H_ ai i j=U x->H_ b i j=U p->p.1<=x/\x<=p.2
structure zx (r c:Nat) (b:LP):Prop where
 shp:j2 r c b
 ok:∀row∈b,∀p∈row,rx p
theorem zx.set{r c i j}{b}{row}(h:zx r c b)(k:b[i]?=U row)(l:rx p):zx r c (b.set i<|row.set j p):=⟨h.shp.set k,λq a x d=>by
 obtain a|rfl:=Xa a
 .exact h.ok q a x d
 .obtain d|rfl:=Xa d
  .exact h.ok _ (U2 k) x d
  .exact l⟩
theorem zx.free(r c):zx r c (qO r c):=⟨KK r c,λd b p a=>by
 rw[(Xf.mp b).2]at a;rw[(Xf.mp a).2];exact⟨rb,rb,rb⟩⟩
theorem Tab.le40{r c}(t:Tab r c ai):∀d∈ai,∀x∈d,0<=x/\x<=40:=λd a x e=>⟨t.nn d a x e,by
 have:=Rt t.nn d a x e;have:=t.tot;lia⟩
theorem Kp.free{r c}(t:Tab r c ai):Kp ai (qO r c):=λi j x p e k=>by
 obtain⟨d,l,b⟩:=CH e;obtain⟨q,m,a⟩:=CH k;rw[(Xf.mp m).2]at a;rw[(Xf.mp a).2];exact t.le40 d l x b
theorem Kp.set{i j}(h:Kp ai b)(m:b[i]?=U row)(d:H_ ai i j=U x)(n:p.1<=x)(o:x<=p.2):Kp ai (b.set i<|row.set j p):=λk l y q c a=>by
 obtain⟨rfl,rfl,rfl⟩|⟨a,_⟩:=at2_set m a
 .rw[d]at c
  simp_all
 .exact h k l y q c a
theorem BZ{d}(xs:List d)(u:d->D)(o:d->ϋ)(a:it δ β=U (.ok<|xs.map u,β))
  (j:∀x∈xs,∃c,tg (u x) (k_ nv b4 δ)=U c/\b c β=U (.ok<|o x,β)) (k:ϱ (xs.flatMap o)<=Ve):c9 nv b4 it tg (λ_=>M.ret O) b δ β=U (.ok<|.lst<|xs.flatMap o,β):=by
 refine vt a ?_ k;have e:∀xs:List d,(∀x∈xs,∃c,tg (u x) (k_ nv b4 δ)=U c/\b c β=U (.ok<|o x,β))->oa tg (λ_=>M.ret O) b (xs.map u) (k_ nv b4 δ) β=U (.ok<|xs.flatMap o,β):=by
  intro xs
  induction xs with
  |nil=>intro _;rfl
  |cons x xs f=>
   intro h;obtain⟨c,l,m⟩:=h x UP;rw[UZ,oa];simp only[l,M.bind,M.ret,reduceIte,m,f λy g=>h y<|UI _ g,V6]
 exact e xs j
theorem JA{e}(d:List e)(u v:e->D)(a:it δ β=U (.ok<|d.map u,β))
  (b:∀x∈d,∃c,tg (u x) δ=U c/\f c β=U (.ok<|v x,β)):M_ it tg (λ_=>M.ret O) (j0 f) δ β=U (.ok<|d.map v,β):=by
 have g:∀d:List e,(∀x∈d,∃c,tg (u x) δ=U c/\f c β=U (.ok<|v x,β))->oa tg (λ_=>M.ret O) (j0 f) (d.map u) δ β=U (.ok<|d.map v,β):=by
  intro d
  induction d with
  |nil=>intro _;rfl
  |cons x d i=>
   intro h;obtain⟨c,j,k⟩:=h x UP;rw[UZ,oa];simp only[j,M.bind,M.ret,reduceIte,j0,k,i λy t=>h y<|UI _ t,UZ,WY,WH]
 unfold M_;rw[M.bind_ok a];exact g d b
theorem KM{c a}{f:c->List a}:∀{l:List c},(∀x∈l,ϱ (f x)<=n)->ϱ (l.flatMap f)<=n*ϱ l:=@List.rec _ _ (@λ_=>rc) (λx l w=>@λh=>by
  have b:=h x UP;have j:=w λy d=>h y<|UI _ d;rw[V6,Va,U5,Nat.mul_add];lia)
theorem iP{e a}(u:e->D)(v:a->D):∀(c:List e) (d:List a),eC (c.map u) (d.map v)=(c.zip d).map λp=>D.tup [u p.1,v p.2]
 |[],d=>by simp[eC]
 |x::c,[]=>by simp[eC]
 |x::c,y::d=>by simp[eC,iP u v c d]
theorem uw{k:Nat}:eX xs Y (U (k:Int))=xs.take k:=by
 unfold eX;rw[HT.sIx_none,HT.sIx_nat,List.drop_zero,Nat.sub_zero];by_cases h:k<=ϱ xs
 .rw[show XF k _=k by lia]
 .rw[WL ln,WL ln]
theorem i9{k:Nat}:eX xs (U (k:Int)) Y=xs.drop k:=by
 unfold eX;rw[HT.sIx_none,HT.sIx_nat];by_cases h:k<=ϱ xs
 .rw[show XF k _=k by lia]
  rw[WL<|by rw[YN];lia]
 .rw[Xx (by grind),Xx ln]
  simp
theorem uH(a:f δ β=U (.ok<|.lst xs,β))(b:g δ β=U (.ok<|.int k,β)):fSl f Y (U g) δ β=U (.ok<|.lst<|eX xs Y<|U k,β):=by
 unfold fSl iH;simp[M.bind,a,b,M.ret,M.ofO,qe,slD]
theorem jr(a:f δ β=U (.ok<|.lst xs,β))(b:g δ β=U (.ok<|.int k,β)):fSl f (U g) Y δ β=U (.ok<|.lst<|eX xs (U k) Y,β):=by
 unfold fSl iH;simp only[M.bind,a,b,M.ret,M.ofO,qe,slD]
theorem cat_ok(h:ϱ xs+ϱ ys<=1000):zu (.lst xs) (.lst ys)=U (xs++ys):=by
 unfold zu;simp only;rw[US<|bh h]
theorem kz{xs c}(h:ϱ xs+ϱ c<=1000):dG (.lst xs) (.lst c)=U (.lst<|xs++c):=by
 unfold dG;simp only;rw[US<|bh h]
theorem PR{x y}(a:f δ β=U (.ok x,β1))(b:g δ β1=U (.ok y,β2))(j:op x y=U zs):o2 op f g δ β=U (.ok zs,β2):=by
 unfold o2 M.bind;rw[a];simp[b,M.ofO,j]
def ng:ϋ->ό->Prop
 |[],[]=>True
 | .int i::ds,.int j _::vs=>i=j/\ng ds vs
 | .str x::ds,.str y _::vs=>x=y/\ng ds vs
 | .bl x::ds,.bool y::vs=>x=y/\ng ds vs
 | .non::ds,.none::vs=>ng ds vs
 |_,_=>False
theorem jF{K}:∀{ds:ϋ} {vs:ό},ng ds vs->∃c,aG c vs/\∀F H,a_ K F H ds c
 |[],[],_=>⟨[],.nil,λ_ _=>a_.nil⟩
 | .int i::ds,.int j t::vs,h=>by
  obtain⟨e,h⟩:=h;subst e;obtain⟨c,a,b⟩:=jF h;exact⟨.int i::c,.cons ⟨t,Z⟩ a,λF H=>a_.cons Z<|b F H⟩
 | .str i::ds,.str j t::vs,h=>by
  obtain⟨e,h⟩:=h;subst e;obtain⟨c,a,b⟩:=jF h;exact⟨.str i::c,.cons ⟨t,Z⟩ a,λF H=>a_.cons Z<|b F H⟩
 | .bl i::ds,.bool j::vs,h=>by
  obtain⟨e,h⟩:=h;subst e;obtain⟨c,a,b⟩:=jF h;exact⟨.bl i::c,.cons Z a,λF H=>a_.cons Z<|b F H⟩
 | .non::ds,.none::vs,h=>by
  obtain⟨c,a,b⟩:=jF (vs:=vs) h;exact⟨.non::c,.cons Z a,λF H=>a_.cons Z<|b F H⟩
def VIs(K:Vb)(d:D)(u:UQ):Prop:=∃v,bf v u/\∀F H,bi K F H d v
theorem qp{K}{i}{t}:VIs K (.int i) (.int i t):=⟨.int i,⟨t,Z⟩,λ_ _=>Z⟩
theorem qo{K}(a:K.lookup p=U ⟨q1,q2,.seq q3 q4,q5⟩)(b:q1= .type lP)(j:q3.size<=Ve)(k:ng n q3.toList):VIs K (.tup n) (.ref p):=by
 obtain⟨c,l,m⟩:=jF k;exact⟨.ref p,Z,λF H=>⟨p,c,Z,.inr ⟨_,q3,q4,a,b,Z,j,l⟩,m F H⟩⟩
theorem lz{K}{x}{u}(h:mg x=U u)(v:VIs K d u):jq K mg x d:=by obtain⟨w,h1,h2⟩:=v;exact ⟨u,w,h,h1,h2⟩
theorem Sx{K}{d}(n)(l:ϱ d=n+ϱ us)(b:∀(s:UW) (c:ό),K.In s.heap->ϱ c=n->BindsTo s m ⟨c,[]⟩ (d.zip<|c++us))(h:∃c,aG c us/\∀F H,a_ K F H dd c):cK K m d dd:=
 let ⟨c,h1,h2⟩:=h
 ⟨us,c,λs a j k=>b s a j (by rw[Va]at k;lia),h1,h2⟩
theorem Sv{K}:∃c,aG c []/\∀F H,a_ K F H [] c:=⟨[],.nil,λ_ _=>a_.nil⟩
theorem Px{K}{u}(v:VIs K d u)(h:∃c,aG c us/\∀F H,a_ K F H l c):∃c,aG c (u::us)/\∀F H,a_ K F H (d::l) c:=by
 obtain⟨w,a,b⟩:=v;obtain⟨c,j,k⟩:=h;exact⟨w::c,.cons a j,λF H=>a_.cons (b F H)<|k F H⟩
inductive U_ (K:Vb):List (Sr D)->List (Sr UQ)->Prop where
 |nil:U_ K [] []
 |kw {j:Nat} {a:List (Sr D)} {c:List (Sr UQ)}:U_ K a c->U_ K (.kw j::a) (.kw j::c)
 |df {x:D} {y:UQ} {a:List (Sr D)} {c:List (Sr UQ)}:VIs K x y->U_ K a c->U_ K (.df x::a) (.df y::c)
theorem U_.mid{K}:∀{a:List (Sr D)} {c:List (Sr UQ)},U_ K a c->∃b:List<|Sr V,mm bf b c/\mm (λd v=>∀F H,bi K F H d v) a b
 |_,_,.nil=>⟨[],.nil,.nil⟩
 |_,_,.kw (j:=j) h=>by obtain⟨b,h1,h2⟩:=U_.mid h;exact ⟨.kw j::b,.kw h1,.kw h2⟩
 |_,_,.df v h=>by obtain⟨b,h1,h2⟩:=U_.mid h;exact by obtain⟨w,g1,g2⟩:=v;exact ⟨.df w::b,.df g1 h1,.df g2 h2⟩
theorem NS{K}{d e}{c}(h:U_ K c sv)(j:ϱ d=n+ϱ c)(k:0<ϱ d)(b:∀(s:UW) (us a:ό),K.In s.heap->ϱ us=n->ϱ a=ϱ e->BindsTo s l ⟨us,e.zip a⟩ (d.zip<|us++sv.map (Sr.pick .none a))):D2 K l d e n c:=
 ⟨by obtain⟨sx,h1,h2⟩:=h.mid;exact ⟨sv,sx,h1,h2,b⟩,j,k⟩
variable{X:Cx}{E:ϔ}{K:Vb}{a:VQ}
theorem a_.erase:∀{ds:ϋ} {xs:ύ} (i:Nat),a_ K F H ds xs->a_ K F H (ds.eraseIdx i) (xs.eraseIdx i)
 |[],xs,i,h=>by have q:=h;subst q;rfl
 |c::ds,xs,0,h=>by
  obtain⟨y,r,q,b,a⟩:=h;subst q;exact a
 |c::ds,xs,i+1,h=>by
  obtain⟨y,r,q,b,a⟩:=h;subst q;exact⟨y,r.eraseIdx i,Z,b,a_.erase i a⟩
end
section
variable{h:G}{δ:Ds}{β β1 b a:Bg}{Q:a0x}{i:Nat}{k j e:FD}{fl:FL}{d m l:D}{ds:ϋ}{c:a1b}
theorem wN{δ}{β β1}(a:t δ β=U (.ok O,β1))(b:f δ β1=U r):fIf t f g δ β=U r:=by
 unfold fIf M.bind;rw[a];exact b
theorem wO{δ}{β β1}(a:t δ β=U (.ok UK,β1))(b:g δ β1=U r):fIf t f g δ β=U r:=by
 unfold fIf M.bind;rw[a];exact b
theorem yv{c}(h:dE x y=U (.bl c)):iu x y=U (.bl<|!c):=by
 unfold dE at h;unfold iu;cases q:eqS x y with
 |some e=>
  simp_all
 |none=>
  simp_all
theorem ql{d}{δ:Dn}{β}(e:δ.getD n Y=U d):ac n δ β=U (.ok d,β):=by unfold ac;rw[e];rfl
end
section
variable{β β1 a:Bg}{f g h:FD}{δ:Dn}{x y z:Int}
theorem GH(a:f δ β=U (.ok<|.int x,β))(b:g δ β=U (.ok<|.int y,β))(c:h δ β=U (.ok<|.int z,β)):m8 leD ltD f g h δ β=U (.ok<|.bl<|decide (x<=y)&&decide (y<z),β):=by
 unfold m8 M.bind;rw[a];simp only[b,le_int,M.ofO,asB];by_cases q:x<=y
 .simp only[q,decide_true,VV,c,lt_int,Yr]
 .simp only[q,decide_false,Vd,VS,M.ret,Zg]
theorem t8{K}{f}:∀{w:ϒ} {y:ϋ} {g:ύ},a_ K F H y g->(w.zip y).lookup f=U d->∃v,(w.zip g).lookup f=U v/\bi K F H d v
 |[],y,g,h,e=>by simp at e
 |n::w,[],g,h,e=>by simp at e
 |n::w,c::y,g,h,e=>by
  obtain⟨x,r,q,a,b⟩:=h;subst q;rw[Wv,List.lookup_cons]at e⊢;split at e
  .rename_i z
   simp_all
  .rename_i z
   exact t8 b e
theorem wa{w:Type}:∀{f:ϒ} {g:List w},m∉f->(f.zip g).lookup m=Y
 |[],g,_=>by simp
 |n::f,[],_=>by rfl
 |n::f,x::g,h=>by
  rw[Wv,List.lookup_cons];have b:=λz=>h<|UI _ z;rw[show(m==n)=UK by simpa using (λz=>h (by rw[z];exact UP))];exact wa b
theorem cK.nil{K}(b:cL K c ps []):cK K c ps []:=⟨[],[],b,.nil,λ_ _=>a_.nil⟩
end
section
variable{X:Cx}{E:ϔ}{o e:Expr}{es:List Expr}{pos p s c:Ye}{x m:VF}{k n:Nat}{f C:UM}{fd:U9}{ps ks:ϒ}{P:List Keyword}
noncomputable def ow(C:UM)(f:VF):D->ϓ
 | .obj C' ns ds=>if C'=C then(ns.zip ds).lookup f else Y
 |_=>Y
theorem cS{f:VF}(c:t_ X.K C)(n:dg X.K C f)(j:PE X e<|tV X.K g E)(l:autoParam (Zd e f X.env (Wa e X.env)=Wa e X.env) z6):PE X (.Attribute e f pos) (tV X.K (f1 (ow C f) g) E):=
 (QZ j l).imp λL H Q i=>k4 i λF o p fr q h=>⟨F,o,p,fr,q,(run.bind h).mono λv r i=>by
  obtain⟨d,s,t,m,x⟩:=i;obtain⟨D,b,k⟩:=run.ofO x;cases d<;>first|cases b|skip
  rename_i u G M;unfold ow at b;simp only at b;split at b
  .rename_i z
   subst z;obtain⟨a,y,P,rfl,N,A,R,B⟩:=m;obtain⟨w,I,J⟩:=t8 B b;exact⟨a,u,y,_,w,Z,A,c,n,I,k w r (To.refl t.fr) J⟩
  .cases b⟩
def jl{e:Type}(C:UM)(m:VF)(a:ϋ->M e)(b:FD)(g:FL)(c:ϋ):Dn->M e:=λf=>M.bind (b f) λd=>match d with
 | .obj C' ns _=>if C'=C/\m∉ns then M.bind (g f) λk=>a (d::(k++c))else M.fail
 |_=>M.fail
def spT{c:Type}(K:Vb)(T:Fx->Hp->Hp->c->V->Prop)(n:Nat)(m:ϋ->M c):Sp:=λe H Q E=>e.length=n/\∃F f k,Fr F H k/\a_ K F H f e/\run (T F H) F (λ_=>E) [] (m f) H Q k
theorem yB{f5:ϋ->M w}{K}(hT:∀{F H q u f d v},To F H q f->T F q u d v->T F H u d v)(G:∀F H,a_ K F H j b)(hn:∀o f r c,g o f=U (.ok r,c)->r.length+j.length+1=n)(h:∃F o f,Fr F H f/\i_ K F H o l/\run (T F H) F E l (jl C m f5 W g j o) H Q f):DB C m (spT K T n f5) b E (tV K W E) (ix K g E) l H Q:=by
 obtain⟨F,o,f,fr,o7,h⟩:=h;refine⟨F,o,f,fr,o7,(run.bind h).mono λv q h_=>ro h_ λd p t x s=>?_⟩;have k:∀{y:M w},y=M.fail->run (T F H) F E l y q Q p->False:=λ{y} e r=>by
  obtain⟨r,c,R,_⟩:=r;rw[e]at R;cases R
 cases d<;>first|exact(k Z s).elim|skip
 rename_i C' ns ds;simp only at s;split at s
 .rename_i z
  obtain⟨rfl,hm⟩:=z;have A:=x;obtain⟨a,dx,xs,rfl,h1,h2,h3,B⟩:=x;refine⟨a,dx,_,Z,h2,wa hm,F,o,p,t.fr,o7.tr<|t.tr fr,?_⟩;obtain⟨P,I,S,X⟩:=run.bind s;refine⟨P,I,S,?_⟩;cases P with
  |error C=>exact X
  |ok as=>
   intro vs J t2 i;obtain⟨d',D,L,N,r3⟩:=X vs J t2 i;have hz:=(G F J).length;refine⟨by rw[U5,Va,<-i.length,<-hz,hn _ _ _ _ S],F,_::(d'++j),D,L.fr,a_.cons (bi.tr (L.tr t.fr) _ _ A)<|a_.append N<|G F J,?_⟩;obtain⟨r4,o8,e4,B⟩:=r3;refine⟨r4,o8,e4,?_⟩;cases r4 with
   |error C=>exact B
   |ok d=>exact λv u t5 hv=>B v u t5<|hT (t.trans L) hv
 .exact(k Z s).elim
theorem oU(c:t_ X.K C)(p:j_ X.K C m f)(G:fw X.prog X.w X.K X.mg X.base (hO X.prog X.w) k f fd ps<|P_ X.K n J)(l:d4 k X.A)(q:cK X.K fd ps a)(x:eB (hO X.prog X.w) X E)
  (t:PE X o<|tV X.K L E) (D:PA X (e::es)<|ix X.K g E) (M:∀P S r j,g P S=U (.ok r,j)->ϱ r+ϱ a+1=n)
  (d:autoParam (Ϛ X e es) z6) (i:autoParam (ϣ X pos es) z6)
  (u:autoParam (Wa (.Call (.Attribute o m s) (e::es) [] pos) X.env=(do
   let I <-Wa o X.env
   Y4 s.atName
   let (f,first) <-ZE [I] (getMethod I m pl)
   callWith pos f first (Xm pos<|U8 (e::es) X.env) (YB pos<|Xg [] X.env))) z6):
  PE X (.Call (.Attribute o m s) (e::es) [] pos) (tV X.K (jl C m J L g a) E):=by
 obtain⟨N,v,b,y,V⟩:=q;exact(OL t c p G l b y x D d i u).imp λB H Q h=>yB (λ_ z=>z) V M h
theorem eP(c:t_ X.K C)(D:j_ X.K C m f)(G:fw X.prog X.w X.K X.mg X.base (hO X.prog X.w) k f fd ps<|P_ X.K n mf)(i:d4 k X.A)(j:cK X.K fd ps d)(M:eB (hO X.prog X.w) X E)
  (l:PE X o<|tV X.K fo E) (P:ϱ d+1=n)
  (q:autoParam (Wa (.Call (.Attribute o m s) [] [] pos) X.env=(do
   let f5 <-Wa o X.env
   Y4 s.atName
   let (f,first) <-ZE [f5] (getMethod f5 m pl)
   callWith pos f first (Xm pos<|U8 [] X.env) (YB pos<|Xg [] X.env))) z6):
  PE X (.Call (.Attribute o m s) [] [] pos) (tV X.K (jl C m mf fo az d) E):=by
 obtain⟨ds,t,b,u,S⟩:=j;refine(LX l c D G i b u M q).imp λo7 H Q h=>?_;obtain⟨F,p,x,fr,y,h⟩:=yB (T:=λF _=>bi _ F) (λ_ z=>z) S (λp x r B e=>by cases e;simpa using P) h;exact⟨F,p,x,fr,y,h.mono λv W v=>by obtain⟨a,I,V,J,ha,L,o8,N,aa,g,o9,R⟩:=v;exact ⟨a,I,V,J,ha,L,run.ret g R a_.nil⟩⟩
def FO(f g:FD):FD:=λc e=>match f c e with
 |none=>g c e
 |some r=>U r
theorem Nd{f g}(j:PE X e<|tV X.K f E)(l:PE X e<|tV X.K g E):PE X e (tV X.K (FO f g) E):=λa s d H Q I t=>by
 obtain⟨F,k,m,fr,i,r,b,c,h⟩:=t;unfold FO at c;split at c
 .exact l a s d H Q I ⟨F,k,m,fr,i,r,b,c,h⟩
 .rename_i q
  cases c;exact j a s d H Q I ⟨F,k,m,fr,i,r,b,q,h⟩
structure ToX (F:Fx) (x:UM) (H H':Hp) (β':Bg):Prop where
 kp:∀a o,a≠x->H a=U o->(∀b l,F.bg=U (b,l)->a≠b/\a≠l)->H' a=U o
 fr:Fr F H' β'
def spI(K:Vb)(C:UM)(k:ϒ)(n:Nat)(g:ϋ->M ϋ):Sp:=λp H Q E=>∃x e F m o d,p= .ref x::e/\e.length=n/\Fr F H o/\F.A x/\(∀b l,F.bg=U (b,l)->x≠b/\x≠l)/\H x=U (.ins C d [])/\a_ K F H m e/\
 ∃r a,g m o=U (r,a)/\match r with
  | .ok es=>∀c f,ToX F x H c a->c x=U (.ins C d<|k.zip f)->k.length=f.length->a_ K F c es f->Q .non c
  | .error Ce=>∀c,ToX F x H c a->E (.ref Ce) Y c
variable{m:ϒ}
theorem Me{K}{k}(fr:Fr F H2 A)(N:ϱ k=n)(G:a_ K F H2 ds k)(r:run (bi K F) F E σ (M.bind (mi ds) λw=>M.ret<|.obj C m w) H2 Q A):
  ∀x c,H2 x=Y->H2 c=Y->c≠x->spI K C m n mi (.ref x::k) (upd (upd H2 c<|.own x) x<|.ins C c []) (λv o7=>v= .non/\Q (.ref x) o7) (E σ):=by
 intro x c p B S;have H:=fr.fresh p;have e:cw H2 (upd (upd H2 c<|.own x) x<|.ins C c []):=λa o h=>by
  rw[bb<|aR h p,bb<|aR h B];exact h
 have t:=fr.same e;have I:Fr (F.but x) _ A:=⟨λa ha z=>(by
  obtain ha|ha:=ha
  .exact t.fr.occ a ha z
  .subst ha;rw[ay]at z;cases z),λb l q=>let ⟨z1,z2,z3⟩:=fr.bgA b l q;⟨.inl z1,.inl z2,z3⟩,t.fr.bag⟩
 have J:Tr F H2 (F.but x) _:=⟨λa T R z=>by
  obtain z|z:=z
  .exact T z
  .subst z;exact R p,λa o _ h=>e a o h,Z⟩
 obtain⟨W,d,g,h⟩:=r;refine⟨x,k,F.but x,ds,A,c,Z,N,I,.inr Z,λb l q=>⟨λz=>H<|z▸(fr.bgA b l q).1,λz=>H<|z▸(fr.bgA b l q).2.1⟩,ay,a_.tr J _ _ G,?_⟩;have j:∀{i:Hp} {d:Bg},ToX (F.but x) x _ i d->To F H2 i d:=λ{i d} f=>⟨λa o ha n=>f.kp a o (aR ha p) (e a o ha) n,⟨λa ha=>f.fr.occ a<|.inl ha,fr.bgA,f.fr.bag⟩⟩;cases q:mi ds A with
 |none=>unfold M.bind at g;rw[q]at g;cases g
 |some z=>
  obtain⟨D,s⟩:=z;refine⟨D,s,Z,?_⟩;cases D with
  |error f5=>
   rw[M.bind_err q]at g;cases g;exact λi f=>h i<|j f
  |ok w=>
   rw[M.bind_ok q]at g;cases g;refine λi P f L u y=>⟨Z,h _ i (j f) ⟨x,c,P,Z,H,L,u,a_.tr Fx.tr_of _ _ y⟩⟩
def zc(C:UM)(m:ϒ)(a:ϋ->M ϋ)(g b:FL)(c:List<|Sr D):FD:=λe=>M.bind (g e) λf=>M.bind (b e) λks=>M.bind (a<|f++c.map (Sr.pick .non ks)) λk=>M.ret<|.obj C m k
def P9(C:UM)(e:Sp)(d:ύ->ύ->ύ)(E:ϔ)(t g:TA):TE:=λb H Q=>t b H λf h=>g b h λi c=>∀x a,c x=Y->c a=Y->a≠x->
 e (d (.ref x::f) i) (upd (upd c a<|.own x) x<|.ins C a []) (λv j=>v= .non/\Q (.ref x) j) (E b)
theorem LY(M:Mk X.K C f)(F:fw X.prog X.w X.K X.mg X.base CX k f fd ps sp)(o7:d4 (k+1) X.A)(o8:Gl X x)(n:X.mg x=U (.ref C))(o9:N_ X.K fd ps ks g gV)(o:eB CX X E)
  (D:PA X (e::es) t) (B:PK X P tk) (i:autoParam ((YB pos<|Xg P X.env).all (·.1.isSome)=O) z6) (J:autoParam ((YB pos<|Xg P X.env).filterMap (·.1)=ks) z6)
  (L:autoParam (ϟ x) z7) (f5:autoParam (Ϛ X e es) z6)
  (N:autoParam (((Xm pos<|U8 (e::es) X.env).any (·.1)||(YB pos (Xg P X.env)).any (·.1.isNone))=UK) z6):
  PE X (.Call (.Name x p) (e::es) P pos) (P9 C sp gV E t tk):=by
 refine λa s l H Q I h=>PySem.wpAny_Call_Name_kw<|vf I o8 n (PySem.W.callWith_KW I.ok.mod.kin M.kp i (dv (D _ a s l H _ I h) λm G z0=>?_) N f5) L;obtain⟨vs,S,z,r,q⟩:=z0;refine dv (B _ a G l S _ z q) λd c ⟨zs,H2,j,rz,q2⟩=>⟨j.kIn,?_⟩;rw[J];have R:=q2 _ _ (j.hok.fresh<|ZM _) (j.hok.fresh<|UV _)<|VJ<|Yb _;have y:=b5.made (C:=C) j;have T:=o9.rel (.cons (show bf (V.ref<|c.heap.objs.size+1) (Vh<|c.heap.objs.size+1)from Z) r) rz;have hl:(g (Vh (c.heap.objs.size+1)::m) d).length=ps.length:=by rw[<-T.length];exact F.len _ _ _ _ R
 refine wpAny_call<|Mf j.kIn M.makes M.init (beq_iff_eq.mp M.fn)<|PySem.codeAny_mono (F.run _ _ _ _ ⟨Vh _::m,ks.zip d⟩ _ _ _ _ (o7.make C m<|ks.zip d)
  (y.env0.make C m<|ks.zip d) (o9.to _ _ d y.kIn hl) T R) λr s' b=>?_
 cases r with
 |error e=>exact o a l _ _ e s' y b
 |ok fl=>
  cases fl with
  |ret u=>
   obtain⟨v,H',I4,rv,ev,q4⟩:=y.after b;subst ev;exact⟨rv,⟨V.ref<|c.heap.objs.size+1,H',I4,Z,q4⟩⟩
  |next=>exact XH b
  |brk=>exact XH b
  |cont=>exact XH b
theorem zP{o:List (Sr D)}(Mm:Mk X.K C f)(G:fw X.prog X.w X.K X.mg X.base (hO X.prog X.w) k f fd ps<|spI X.K C m n mi)(hr:d4 (k+1) X.A)(hg:Gl X x)(hm:X.mg x=U (.ref C))(hb:D2 X.K fd ps ks (n1+1) o)(hx:eB (hO X.prog X.w) X E)
  (ha:PA X (e::es)<|ix X.K g E) (c:PK X P<|ix X.K gk E) (hn:∀s M r a,g s M=U (.ok r,a)->r.length=n1) (d:∀s M r a,gk s M=U (.ok r,a)->r.length=ks.length) (h3:n1+o.length=n)
  (b:autoParam ((YB pos<|Xg P X.env).all (·.1.isSome)=O) z6) (h:autoParam ((YB pos<|Xg P X.env).filterMap (·.1)=ks) z6)
  (i:autoParam (ϟ x) z7) (he:autoParam (Ϛ X e es) z6)
  (j:autoParam (((Xm pos<|U8 (e::es) X.env).any (·.1)||(YB pos (Xg P X.env)).any (·.1.isNone))=UK) z6):
  PE X (.Call (.Name x p) (e::es) P pos) (tV X.K (zc C m mi g gk o) E):=by
 obtain⟨sv,J,rd,kb⟩:=hb.kb;refine(LY Mm G hr hg hm kb hx ha c b h i he j).imp λσ H Q h_=>k4 h_ λF s M fr L r=>⟨F,s,M,fr,L,?_⟩;obtain⟨r0,l,N,o8⟩:=run.bind r;refine⟨r0,l,N,?_⟩;cases r0 with
 |error C=>exact o8
 |ok as=>
  intro S H1 t z;obtain⟨d',aa,q,u,r1⟩:=o8 S H1 t z;refine⟨F,s,aa,q.fr,L.tr<|q.tr fr,?_⟩;obtain⟨T,ab,f5,W⟩:=run.bind r1;refine⟨T,ab,f5,?_⟩;cases T with
  |error C=>exact W
  |ok bs=>
   intro v o7 t2 R;obtain⟨d2,ac,t3,B,r3⟩:=W v o7 t2 R;have l1:=hn _ _ _ _ N;have I:=a_.tr (t3.tr q.fr) _ _ u;intro y dx;have g1:gK V.non _ _ J (.ref y::S) v= .ref y::(S++J.map _):=US ⟨by rw[U5,<-z.length,l1],by rw[<-R.length,d _ _ _ _ f5]⟩;rw[g1];exact Me t3.fr (by rw[Va,UD,<-z.length,l1,<-rd.len,h3]) (a_.append I<|mm.den B rd) r3 y dx
abbrev IP:=Ds->ϋ->Bg->Option (Except UM ϋ×Bg)
noncomputable def EY:IP:=λ_ c e=>U (.ok c,e)
noncomputable def kh(g:G)(a:IP):IP:=λe c f=>match g e f with
 |some (.nx δ1,β1)=>match e[0]?,δ1[0]? with
  |some (U (Sl.sh (D.adr x))),U (U (Sl.sh (D.adr y)))=>if x=y then a δ1 c β1 else Y
  |_,_=>Y
 |some (.ex C _,β1)=>U (.error C,β1)
 |_=>Y
def gx(f:FD)(a:IP):IP:=λe c k=>match f (vw e) k with
 |some (.ok d,β1)=>a e (c++[d]) β1
 |some (.error C,β1)=>U (.error C,β1)
 |none=>Y
structure p_ (x:UM) (B:Ow) (H:Hp) (B':Ow) (H':Hp):Prop where
 kp:∀a o,a≠x->H a=U o->(B a=Y\/B a=U 0)->H' a=U o
 tg:∀a,B a=U 0\/B a=U 1->B' a=B a
 nn:∀a o,a≠x->H a=U o->B a=Y->B' a=Y
 al:∀a,H a≠Y->H' a≠Y
end
theorem hL.x{x}{B b}{H c}(s:hL B H b c):p_ x B H b c:=⟨λa o _=>s.kp a o,s.tg,λa o _=>s.nn a o,s.al⟩
theorem p_.trans(a:p_ x B H B1 H1)(b:p_ x B1 H1 B2 H2):p_ x B H B2 H2:=by
 refine⟨λc o w h n=>b.kp c o w (a.kp c o w h n) ?_,λc h=>?_,λc o w h n=>b.nn c o w (a.kp c o w h<|.inl n)<|a.nn c o w h n,λc h=>b.al c<|a.al c h⟩
 .obtain n|n:=n
  .exact .inl (a.nn c o w h n)
  .exact .inr ((a.tg c<|.inl n).trans n)
 .have e:=a.tg c h
  rw[<-e]at h;exact(b.tg c h).trans e
def nh(K:Vb)(D:Ϫ)(E:ϔ)(Dn:ry)(B:Ow)(H:Hp)(x C e:UM)(w:ϒ)(r:Except UM ϋ)(d:Bg):Prop:=match r with
 | .ok ds=>∀b c a G,p_ x B H c a->Fr (ee c D) a d->a x=U (.ins C e<|w.zip G)->w.length=G.length->a_ K (ee c D) a ds G->Dn.nx b a
 | .error Ce=>∀b c a,p_ x B H c a->Fr (ee c D) a d->E b (.ref Ce) Y a
theorem nh.pre{K}{Dn}(s:p_ x B H B1 H1)(h:nh K f E Dn B H x C g all r e):nh K f E Dn B1 H1 x C g all r e:=by
 cases r with
 |ok D=>exact λa b c w t=>h a b c w<|s.trans t
 |error d=>exact λa b c t=>h a b c<|s.trans t
def tI(K:Vb)(D:Hp)(C:UM)(a w:ϒ)(f:IP)(E:ϔ):TS:=λDn g H=>∃B G M P x e b c r d,fh K D B G H M P g/\M[0]?=U (U<|.sh<|.adr x)/\B x=U 0/\H x=U (.ins C e<|a.zip b)/\a.length=b.length/\a_ K (ee B G) H c b/\f M c P=U (r,d)/\nh K G E Dn B H x C e (a++w) r d
theorem vZ:∀{w:ϒ} {D:ύ},ϱ w=ϱ D->f∉w->eU f y (w.zip D)=(w++[f]).zip (D++[y])
 |[],[],_,_=>rfl
 |n::w,v::D,h,hf=>by
  show(if n=f then(n,y)::w.zip D else(n,v)::eU f y (w.zip D))=_;rw[UU (λz=>hf (by rw[z];exact UP)),vZ (by simpa using h) λz=>hf<|UI _ z];rfl
 |[],_::_,h,_=>by simp at h
 |_::_,[],h,_=>by simp at h
theorem fh.upd0{K}(w:fh K H₀ B A H C F I)(D:B x=U 0):fh K H₀ B A (upd H x o) C F I/\p_ x B H B (upd H x o):=by
 have E:∀c,H c≠Y->upd H x o c≠Y:=λc a=>by
  by_cases z:c=x
  .subst z;rw[ay];simp
  .rw[bb z];exact a
 have g:∀b l,A=U _->b≠x/\l≠x:=λb l e=>by
  obtain⟨G,f⟩:=w.bgt b l e;exact⟨λz=>(by rw[z,D]at G;cases G),λz=>(by rw[z,D]at f;cases f)⟩
 have M:Tr _ H (ee B A) (upd H x o):=⟨λ_ h _=>h,λc u a e=>by
  rw[bb]
  .exact e
  .intro z;subst z;exact a (by show B c≠Y;rw[D];simp),Z⟩
 refine⟨⟨⟨λc a=>E c<|w.fr.occ c a,w.fr.bgA,λb l e=>?_⟩,w.bgt,w.len,λc a=>E c<|w.cov c a,w.new,λc k a=>?_,λi s e=>?_⟩,λc u P h _=>by rw[bb P];exact h,λ_ _=>Z,λ_ _ _ _ n=>n,E⟩
 .obtain⟨j,m⟩:=w.fr.bag b l e
  obtain⟨p,q⟩:=g b l e;exact⟨by rw[bb p];exact j,by rw[bb q];exact m⟩
 .exact(w.lst c k a).imp λo h=>by rw[bb];exact h;intro z;simp_all
 .obtain⟨v,r,t⟩:=w.tell i s e
  exact⟨v,r,t.tr M λc d=>⟨d,λo z=>(bb λy=>by subst y;simp_all).trans z⟩⟩
section
variable{X:Cx}{E:ϔ}{st:VQ}{aa:a0T}{C:UM}{w P:ϒ}{ip:IP}
theorem NV:PSs X [] (tI X.K X.H₀ C w [] EY E):=u6.imp λDn b H c=>by
 obtain⟨B,G,M,P,x,i,a,d,r,f,ok,j,S,g,h,D,e,k⟩:=c;cases e;rw[VA]at k;exact k b B H a (hL.refl B H).x ok.fr g h D
theorem uo(l:PS X st<|tG X.K X.H₀ g E)(m:PSs X aa<|tI X.K X.H₀ C w P ip E):PSs X (st::aa) (tI X.K X.H₀ C w P (kh g ip) E):=(dP l m).imp λDn v H n=>by
 obtain⟨B,D,M,S,x,o,c,d,r,f,ok,p,G,q,t,V,e,k⟩:=n;unfold kh at e;split at e
 .rename_i δ1 β1 h
  split at e
  .rename_i y A q1 q2
   split at e
   .rename_i z
    subst z;rw[p]at q1;cases q1;exact⟨B,D,M,S,.nx δ1,β1,ok,h,λb i j s a=>⟨i,D,δ1,β1,x,o,c,d,r,f,a,q2,(s.tg x<|.inl G).trans G,s.kp x _ q<|.inr G,t,a_.tr s.tr _ _ V,e,nh.pre s.x k⟩⟩
   .cases e
  .cases e
 .rename_i u δ1 β1 h
  cases e;exact⟨B,D,M,S,.ex u δ1,_,ok,h,λb i j s a=>k b i j s.x a.fr⟩
 .cases e
theorem kj(c:t_ X.K C)(n:dg X.K C f)(o8:f∉w)(J:ϱ w<1000)(Q:PS X st<|Qv X.K (iR 0) (tV X.K fv E) f)(R:PSs X aa<|tI X.K X.H₀ C (w++[f]) P ip E):PSs X (st::aa) (tI X.K X.H₀ C w (f::P) (gx fv ip) E):=(dP Q R).imp λDn T H f5=>by
 obtain⟨B,D,M,S,x,l,g,p,r,q,ok,L,G,W,N,V,e,k⟩:=f5;refine⟨ee B D,vw M,S,ok.fr,ok.view,?_⟩;unfold gx at e;split at e
 .rename_i d β1 t
  refine⟨.ok d,β1,t,λy m A s=>?_⟩;obtain⟨b,i⟩:=ok.to Z A;obtain⟨v,o7,F⟩:=b.tell 0 _ L;have hv:=F;subst hv;refine⟨_,o7,x,C,l,_,Z,i.kp x _ W<|.inr G,c,n,?_,?_⟩
  .rw[XS];lia
  obtain⟨I,s2⟩:=b.upd0 (o:= .ins C l<|eU f y<|w.zip g) G;have j:Tr _ m (ee B D) (upd m x<|.ins C l<|eU f y<|w.zip g):=⟨λ_ h _=>h,λa u ha e=>by
   rw[bb]
   .exact e
   .intro z;subst z;exact ha (by show B a≠Y;rw[G];simp),Z⟩
  refine⟨B,D,M,β1,x,l,g++[y],p++[d],r,q,I,L,G,by rw[ay,vZ N o8],by simp[N],a_.append (a_.tr j _ _<|a_.tr i.tr _ _ V)<|a_.cons (bi.tr j _ _ s) a_.nil,e,?_⟩;rw[V5];exact nh.pre (i.x.trans s2) k
 .rename_i Ce β1 t
  cases e;refine⟨.error Ce,_,t,λm A=>?_⟩;obtain⟨b,i⟩:=ok.to Z A;exact k T B m i.x b.fr
 .cases e
end
open Classical in
def oi(m:Nat)(a:IP):ϋ->M ϋ:=λw D=>if h:∃r,∀x,a (lv m<|.adr x::w) [] D=U r then U h.choose else Y
theorem yV(h:∀x,a (lv m<|.adr x::b) [] β=U r):oi m a b β=U r:=by
 have w:∃r,∀x,a (lv m<|.adr x::b) [] β=U r:=⟨r,h⟩;unfold oi;rw[dif_pos w];have:=w.choose_spec 0;rw[h 0]at this;exact this.symm
theorem KA(h:oi m a b c=U r):∀x,a (lv m<|.adr x::b) [] c=U r:=by
 unfold oi at h;split at h
 .rename_i hx
  have:=hx.choose_spec;cases h;exact this
 .cases h
section
variable{P:Vw}{w:VC}{K:Vb}{mg:ϙ}{aa:V0}
theorem BO{st}{N ps G}(n m)(ip)(F:gs K x qual st f fd)(S:ba N ps<|ak st)(o8:ϱ ps=n+1)(R:ϱ N=m)
  (p:∀(i:UQ) (A:V3) (D:List Env) (s:UW) (H:Hp) (E:XK),d4 k (A.deeper<|Zo qual (ak st) s.heap.objs.size f i)->
   PSs (gD (hO P w) P w K mg aa N qual (ak st) f i A D s H E) (c7 st) (tI K H C [] G ip (λ_=>E))):fw P w K mg aa (hO P w) (k+1) f fd ps (spI K C G n<|oi m ip):=by
 subst R;refine F.okE S (λvs H Q E h=>?_) λi A D s H vs Q E hr h=>?_
 .obtain⟨y,M,j,ds,β,dx,rfl,hl,_⟩:=h
  rw[U5,hl,o8]
 obtain⟨y,M,j,ds,β,dx,rfl,hl,fr,T,nb,hH,hd,r,d,e,h⟩:=h;refine⟨_,p i A D s H E hr,?_⟩;obtain⟨B,ok,L,h1,hn⟩:=xM fr (a_.cons Z hd:a_ K j H (.adr y::ds) _);have hy:B y=U 0:=by
  obtain z|z:=L y T
  .exact z
  .obtain⟨b,l,q,w⟩:=h1 y z
   obtain⟨W,X⟩:=nb b l q;obtain w|w:=w
   .exact Vl w W
   .exact Vl w X
 have v:∀{u:Ow} {g:Hp} {d:Bg},p_ y B H u g->Fr (ee u _) g d->ToX j y H g d/\Tr (ee u _) g j g:=λ{u g d} s c=>by
  have hs:∀a,j.A a->u a≠Y:=λa V=>by
   rw[s.tg a<|L a V];rcases L a V with z|z<;>rw[z]<;>simp
  refine⟨⟨λa o ne V n=>s.kp a o ne V ?_,λa V=>c.occ a<|hs a V,λb l e=>fr.bgA b l e,c.bag⟩,λa V _ z=>V<|hs a z,λ_ _ _ h=>h,Z⟩;cases q:B a with
  |none=>exact .inl Z
  |some t=>
   have:=L a (hn a<|by rw[q];simp);obtain z|z:=this
   .rw[q]at z;exact .inr z
   .obtain⟨b,l,e,w⟩:=h1 a z
    obtain⟨W,X⟩:=n b l e;obtain w|w:=w
    .exact Vl w W
    .exact Vl w X
 refine⟨B,j.bg,lv _<|.adr y::ds,β,y,dx,[],[],r,d,ok,Z,hy,hH,Z,a_.nil,KA e y,?_⟩;cases r with
 |ok es=>
  intro o7 u g vs s c f5 I J;obtain⟨t1,t2⟩:=v s c;exact h g vs t1 f5 I<|a_.tr t2 _ _ J
 |error Ce=>
  exact λo7 u g s c=>h g (v s c).1
variable{X:Cx}{E:ϔ}{d:VQ}
variable{h:G}{b:Ds}{c a:Bg}{Q:a0x}{i:Nat}{f:FD}
end
section
variable{C u:UM}{m:VF}{e:ϒ}{l:ϋ->M D}{q:ϋ->M ϋ}{n:FD}{g t:FL}{o k as s:ϋ}{p:List (Sr D)}{δ:Dn}{β β1 β2 b:Bg}{r:Except UM D×Bg}{d:D}{f:VF}{h:G}{Q:a0x}{i:Nat}{a:Ds}
theorem dM{d}{l:ϋ->M d}{r}(a:n δ β=U (.ok<|.obj C e k,β1))(b:g δ β1=U (.ok as,β2))(c:l (.obj C e k::(as++o)) β2=U r)(f:autoParam (m∉e) z7):jl C m l n g o δ β=U r:=by
 unfold jl;rw[M.bind_ok a];simp only[f,not_false_eq_true,and_self,VV];rw[M.bind_ok b];exact c
theorem bB(a:x δ β=U (.ok<|.obj C e k,β1))(b:(e.zip k).lookup f=U d):f1 (ow C f) x δ β=U (.ok d,β1):=by
 apply x_1 a;unfold ow;simp_all
theorem pS{g}{δ δ1}{r:Except UM ϋ×Bg}(e:g δ β=U (.nx δ1,β1))(a:δ[0]?=U (U<|.sh<|.adr x))(b:δ1[0]?=U (U<|.sh<|.adr x))(k:c δ1 done β1=U r):kh g c δ done β=U r:=by
 unfold kh;simp_all
theorem iC{f}{δ}{r:Except UM ϋ×Bg}(e:f (vw δ) β=U (.ok d,β1))(k:c δ (done++[d]) β1=U r):gx f c δ done β=U r:=by
 unfold gx;rw[e];exact k
noncomputable def A_{a:Type}(d:a)(c:Nat)(ai:List<|List a):List (List a):=(UT c).map λj=>ai.map λb=>b.getD j d
abbrev tp(c:Nat)(ai:LI):LI:=A_ 0 c ai
theorem uM{b}{d:b}{r c}{e}(h:ϱ e=r):j2 c r (A_ d c e):=⟨by simp[A_],λf a=>by
 obtain⟨j,_,rfl⟩:=UL.mp a;rw[UD,h]⟩
theorem P5{b}{d:b}{e}(h:j<c):(A_ d c e)[j]?=U (e.map λa=>a.getD j d):=by
 unfold A_;rw[UN,VN h];rfl
theorem DS{d}:∀(a:ώ),(UT (ϱ a)).map (λj=>a.getD j d)=a:=λa=>by
 refine List.ext_getElem? λi=>?_;rw[UN];by_cases h:i<ϱ a
 .rw[VN h]
  simp_all
 .rw[Zr (by simpa using h),Zr ln];rfl
theorem uP{a}(f g:a->Int):∀l:List a,(l.map λx=>f x+g x).sum=(l.map f).sum+(l.map g).sum
 |[]=>by rfl
 |x::l=>by
  simp only[UZ,Vk,uP f g l];lia
theorem rF{a}:∀l:List a,(l.map λ_=>(0:Int)).sum=0:=List.rec Z λx l h=>by simp only[UZ,Vk,h];rfl
theorem GV:∀{ai:LI},(∀row∈ai,ϱ row=c)->tot (tp c ai)=tot ai:=@List.rec _ _ (@λ_=>by
  show((A_ 0 c []).map WC).sum=0;unfold A_;rw[UR];exact rF<|UT c) (λrow ai w=>@λh=>by
  have b:=w λx d=>h x<|UI _ d;have a:=h _ UP;unfold tot tp A_ at b⊢;rw[UR]at b⊢;have e:(λj=>(WC<|(row::ai).map λrow=>row.getD j 0))=λj=>row.getD j 0+(ai.map λrow=>row.getD j 0).sum:=by
   rfl
  show((UT c).map λj=>(WC<|(row::ai).map λrow=>row.getD j 0)).sum=_;rw[e,uP,<-a,DS,a,UZ,Vk];congr 1)
theorem Ni(h:∀row∈ai,∀x∈row,0<=x):∀row∈tp c ai,∀x∈row,0<=x:=λrow a x d=>by
 obtain⟨j,_,rfl⟩:=UL.mp a;obtain⟨q,b,rfl⟩:=UL.mp d;rw[UO];cases e:q[j]? with
 |none=>exact Int.le_refl 0
 |some y=>exact h q b y<|U2 e
end
end L2.Pu
namespace L2.Pu
def jU(ns:ώ):Int:=ns.foldl XF<|ns.headD 0
theorem nS:∀(w:ώ) (z:Int),w.foldl XF z<=z/\(∀a∈w,w.foldl XF z<=a)/\(w.foldl XF z=z\/w.foldl XF z∈w):=List.rec (λz=>⟨Int.le_refl _,λ_ h=>(by cases h),.inl Z⟩) λx w v z=>by
  obtain⟨c,b,h3⟩:=v<|XF z x;show w.foldl XF _<=z/\_/\(w.foldl XF _=z\/_);refine⟨by grind,λa ha=>?_,?_⟩
  .obtain rfl|ha:=U4.mp ha
   .show w.foldl XF _<=a
    grind
   .exact b a ha
  .obtain h3|h3:=h3
   .by_cases q:z<=x
    .exact .inl ln
    .exact .inr (by rw[U4];left;grind)
   .exact .inr (UI _ h3)
theorem yE(h:ns≠[]):jU ns∈ns:=by
 cases ns with
 |nil=>exact Vl Z h
 |cons x ns=>
  obtain h|h:=(nS _ x).2.2
  .unfold jU
   show(x::ns).foldl XF x∈_;rw[h];exact UP
  .exact h
theorem AZ(h:a∈ns):jU ns<=a:=(nS ns _).2.1 a h
theorem Rq(b:m∈ns)(c:∀a∈ns,m<=a):m=jU ns:=by
 have:=c _ (yE λz=>by rw[z]at b;cases b);have:=AZ b;lia
section
variable{X:Cx}
theorem zy(E:0<w.size)(e:w.toList.map (·.1)=ns):numAt w (argBest (λi j=>decide (numAt w i<numAt w j))<|w.size-1)=jU ns:=by
 obtain⟨d,b⟩:=argBest_lt (numAt w)<|w.size-1;refine Rq ?_ λa D=>?_
 .rw[numAt_eq,e];exact getD_mem (by rw[<-e,UD,Vp];lia)
 .obtain⟨j,c,rfl⟩:=mem_getD D
  rw[<-e,UD,Vp]at c;rw[<-e,<-numAt_eq];exact b j ln
variable{p:Vw}{w:VC}{A:V3}{E:ϕ}{s:UW}{l:UM}{xs:Array (Int×Tok)}
theorem Md(g:A.handled=Y)(c:s.heap.IsTuple l<|YX xs)(d:0<xs.size)
  (h:∀v D f,(YX xs)[argBest (λi j=>decide (numAt xs i<numAt xs j))<|xs.size-1]?=U v->(∀b o,s.heap.get? b=U o->D.get? b=U o)->Q v {s with heap:=D,toks:=f}):
  U6 (Vq p w) A (call (.builtin "min") [.ref l]) Q E s:=by
 have a:l<s.heap.objs.size:=by obtain⟨_,e,_⟩:=c;exact Vm e
 refine call_min_walk<|PySem.wpAny_pyIter_tuple c ⟨_,_,_,_,_,_,_,Z,Walks.tuple (A:=A.in1) g _ l (VJ a)<|YX xs,⟨⟨_,U7 _ Z,Z,Z⟩,c.at λo e=>UH _ e⟩,λb hb=>?_,by simpa[YX]using d,CmpOf.ints_lt _ (λ_ _=>intItems_at),λv D f k m=>?_⟩
 .show b<(s.heap.push _).objs.size
  rw[WB];obtain rfl|hb:=U4.mp hb
  .exact Yb _
  .obtain rfl|hb:=U4.mp hb
   .exact X1 a
   .cases hb
 .exact h v D f (by simpa[YX]using k) λb o e=>m b o (λhm=>by
   obtain n|hm:=U4.mp hm
   .exact Vl (n▸Vm e) (V4 _)
   .cases hm)<|UH _ e
variable{K:Vb}
abbrev Nq(K:Vb):ύ->Hp->VK->Prop:=λxs H Q=>∃(p:UM) (l:ώ),xs=[.ref p]/\(e_ K H p (l.map V.int)\/hW K H p (l.map V.int))/\l≠[]/\Q (.int<|jU l) H
theorem wv(f:X.calm=O):cT X (.builtin "min") (Nq X.K):=by
 intro g s y H xs M Q I r h;obtain⟨p,w,rfl,hq,c,q⟩:=h;obtain⟨u,rfl,k⟩:=gR r;cases k;have E:∀{l:ό},aG (w.map _) l->∃xs:Array<|Int×Tok,l.toArray=YX xs/\xs.toList.map _=w/\0<xs.size:=λ{l} b=>by
  have i:=ki b;obtain⟨xs,A⟩:=i.allInts.items;have a:=i.numsOf;have m:l=(YX xs).toList:=by rw[<-A]
  rw[m,nums_intItems]at a;refine⟨xs,A,a,?_⟩;have:ϱ (xs.toList.map (·.1))=ϱ w:=by rw[a]
  rw[UD,Vp]at this;cases w with
  |nil=>exact Vl Z c
  |cons=>rw[this];simp_all
 obtain hq|hq:=hq
 .obtain⟨l,b,pl,n⟩:=I.list hq
  obtain⟨xs,A,a,D⟩:=E b;have j:=pl.isList;rw[A]at j;refine min_intList (I.ok.hd f) j D λv G o d e=>?_;obtain⟨t,rfl⟩:=intItems_at d;rw[zy D a];exact⟨.int<|jU w,H,I.kept e,⟨_,Z⟩,q⟩
 .obtain⟨l,b,pl,n⟩:=I.tuple hq
  obtain⟨xs,A,a,D⟩:=E b;rw[A]at pl;refine Md (I.ok.hd f) pl D λv G o d e=>?_;obtain⟨t,rfl⟩:=intItems_at d;rw[zy D a];exact⟨.int<|jU w,H,I.kept e,⟨_,Z⟩,q⟩
def tZ:Option ώ->ϓ
 |some (n::ns)=>U<|.int<|jU<|n::ns
 |_=>Y
def xf:ϋ->ϓ
 |[.lst xs]=>tZ<|cV xs
 |[.tup xs]=>tZ<|cV xs
 |_=>Y
theorem v8(e:tZ o=U d):∃l,o=U l/\l≠[]/\d= .int (jU l):=by
 match o,e with
 |some (n::l),e=>cases e;simp_all
theorem JZ:dA K (Nq K) xf:=λF H s Q w d A fr h e k=>by
 unfold xf at e;split at e
 .rename_i xs
  obtain⟨l,q,b,rfl⟩:=v8 e;obtain⟨v,rfl,g⟩:=a_.one h;obtain⟨a,p,rfl,r,c⟩:=bi.sqL g;rw[f_ q]at c;have f:=a_.ints l c;subst f;exact⟨a,l,Z,.inl r,b,k _ H (To.refl fr) Z⟩
 .rename_i xs
  obtain⟨l,q,b,rfl⟩:=v8 e;obtain⟨v,rfl,g⟩:=a_.one h;obtain⟨a,p,rfl,r,c⟩:=bi.sqT g;rw[f_ q]at c;have f:=a_.ints l c;subst f;exact⟨a,l,Z,.inr r,b,k _ H (To.refl fr) Z⟩
 .cases e
end
end L2.Pu
namespace L2
end L2
namespace L2.Pu
section
variable{X:Cx}{E:ϔ}{K:Vb}{e k c:Expr}{d:List Expr}{b:Ϭ}{a:Scope}{pos:Ye}{m j:ϒ}{l:ϊ}{g:TG}{i:ϧ}
variable{f:VQ}{a:Hp}{B:Ow}{g:Ϫ}{H h:Hp}{d:Ds}{e b:Bg}{c:St}
theorem lU1(h:ϱ us=1):∃a,us=[a]:=List.length_eq_one_iff.mp h
theorem lU2{us:ό}(h:ϱ us=2):∃c d,us=[c,d]:=by
 obtain⟨a,l,rfl⟩:=WK h;obtain⟨b,rfl⟩:=lU1 (by simpa using h);exact⟨_,_,Z⟩
theorem lU3{us:ό}(h:ϱ us=3):∃d e f,us=[d,e,f]:=by
 obtain⟨a,l,rfl⟩:=WK h;obtain⟨b,c,rfl⟩:=lU2 (by simpa using h);exact⟨_,_,_,Z⟩
theorem lU4{us:ό}(h:ϱ us=4):∃e f g i,us=[e,f,g,i]:=by
 obtain⟨a,l,rfl⟩:=WK h;obtain⟨b,c,d,rfl⟩:=lU3 (by simpa using h);exact⟨_,_,_,_,Z⟩
theorem lU5{us:ό}(h:ϱ us=5):∃f g i j k,us=[f,g,i,j,k]:=by
 obtain⟨a,l,rfl⟩:=WK h;obtain⟨b,c,d,e,rfl⟩:=lU4 (by simpa using h);exact⟨_,_,_,_,_,Z⟩
end
section
variable{X:Cx}{E:ϔ}{e t o y z h:Expr}{q:List Expr}{pos p:Ye}{f1 f2 B I d:FD}{g:FL}{k j n:Nat}{f:UM}{v:U9}{u:ϒ}{x:VF}{a:ϋ->ϓ}{r:a0J}{c T:String}
theorem vv(i:Nat){x:VF}(b:autoParam (X.N[i]?=U x) z6)(c:Vis X.env.scope x:=by first|exact WU Z|exact XZ (WU Z)|exact XZ (XZ Z))(d:autoParam (ϟ x) z7)
  (a:autoParam ((x==(ς:VF))=UK) z7):PE X (.Name x pos) (tV X.K (ac i) E):=SL i<|pv i b c d a
theorem c4(a:PE X t<|tV X.K f1 E)(b:autoParam (Ϛ X t []) z6):PA X [t] (ix X.K (af f1 az) E):=bD a d8 b
theorem dc(a:PE X t<|tV X.K f1 E)(b:PE X o<|tV X.K f2 E)(c:autoParam (Ϛ X t [o]) z6)(d:autoParam (Ϛ X o []) z6):PA X [t,o] (ix X.K (af f1<|af f2 az) E):=bD a (c4 b d) c
theorem lb(a:PE X t<|tV X.K f1 E)(b:PE X o<|tV X.K f2 E)(c:PE X y<|tV X.K B E)(d:autoParam (Ϛ X t [o,y]) z6)(h:autoParam (Ϛ X o [y]) z6)(i:autoParam (Ϛ X y []) z6):PA X [t,o,y] (ix X.K (af f1<|af f2<|af B az) E):=bD a (dc b c h i) d
theorem xr(a:PE X t<|tV X.K f1 E)(b:PE X o<|tV X.K f2 E)(c:PE X y<|tV X.K B E)(d:PE X z<|tV X.K I E)(h:autoParam (Ϛ X t [o,y,z]) z6)(i:autoParam (Ϛ X o [y,z]) z6)(l:autoParam (Ϛ X y [z]) z6)(m:autoParam (Ϛ X z []) z6):PA X [t,o,y,z] (ix X.K (af f1<|af f2<|af B<|af I az) E):=bD a (lb b c d i l m) h
theorem C_(c)(d)(r)(a)(h:az c d=U (.ok r,a)):ϱ r=0:=M0 h
structure FB (P:Vw) (w:VC) (K:Vb) (mg:ϙ) (base:V0) (k:Nat) (x:VF) (f:UM) (v:U9) (u:ϒ) (n:Nat) (m:ϋ->M D):Prop where
 ok:fw P w K mg base (hO P w) k f v u (P_ K n m)
 m:mg x=U (.ref f)
 kp:keepIn K (.ref f)=O
 b:cL K v u []
theorem vc(G:FB X.prog X.w X.K X.mg X.base j x f v u n m)(h:d4 k X.A)(t:PA X (e::q)<|ix X.K g E)(i:autoParam (j<=k) z7)(y:eB (hO X.prog X.w) X E:=by first|exact dj|exact w9|assumption)(l:autoParam (Gl X x) z6)
  (z:∀B D r d,g B D=U (.ok r,d)->ϱ r=n:=by repeat (first|exact C_|apply bq)) (a:autoParam (ϟ x) z7) (o:autoParam (Ϛ X e q) z6) (c:autoParam (ϣ X pos q) z6):
  PE X (.Call (.Name x p) (e::q) [] pos) (tV X.K (bW m g) E):=GO G.ok (h.mono i) l G.m G.kp G.b y t z a o c
theorem cW(d:X.mg "len"=Y)(f:PA X (e::q)<|ix X.K g E)(b:autoParam (Gl X "len") z6)(c:autoParam (Ϛ X e q) z6)(a:autoParam (ϣ X pos q) z6):PE X (.Call (.Name "len" p) (e::q) [] pos) (tV X.K (aX fF g) E):=bL qa TF b d PySem.boot_len f rb rb c a
theorem f6(f:X.mg "sum"=Y)(h:PA X (e::q)<|ix X.K g E)(b:autoParam (Gl X "sum") z6)(c:autoParam (X.calm=O) z6)(d:autoParam (Ϛ X e q) z6)(a:autoParam (ϣ X pos q) z6):PE X (.Call (.Name "sum" p) (e::q) [] pos) (tV X.K (aX gT g) E):=bL (KW c) Rx b f Boot.«sum» h rb rb d a
theorem oV(d:X.mg vW=Y)(f:PA X (e::q)<|ix X.K g E)(b:autoParam (Gl X vW) z6)(c:autoParam (Ϛ X e q) z6)(a:autoParam (ϣ X pos q) z6):PE X (.Call (.Name vW p) (e::q) [] pos) (tV X.K (aX lf g) E):=bL KY TH b d Boot.«isinstance» f rb rb c a
theorem g_{c}(a e)(d)(k:autoParam (c.kind= .function) z6)(f:autoParam ((c.names.map (·.1)).Nodup) xZ)
  (fr:autoParam ((c.names.all λy=>y.2 != .free||(X.env.scope.names.lookup y.1==U .cell||X.env.scope.names.lookup y.1==U .free))=O) z6) (g:autoParam (a=e++d.map (λj=>X.N.getD j YT)) z6)
  (b:autoParam ((d.all λj=>decide (j<ϱ X.N)&&c.names.lookup (X.N.getD j YT)==U .free)=O) z6):cy X c a e d:=cy.ofB k f fr g b
theorem eg{a:ϒ}(h:autoParam a.Nodup xZ):(aY X a b cl C i s H).N.Nodup:=h
theorem c_(i:Nat){x:VF}(a:X.N.Nodup)(b:autoParam (X.N[i]?=U x) z6)(d:autoParam (Iv X.env.scope x) x5)(c:autoParam (ϯ X x) q8):PG X (.Name x pos) (fJ i):=AO a b d c
theorem dt(i){pos a}(b:X.N.Nodup)(c:PE X e l)(d:autoParam (X.N[i]?=U x) z6)(f:autoParam (Iv X.env.scope x) x5)(g:autoParam (ZV e (U (.Name x a)) pos.line X.env=W2 UK) z6)(h:autoParam (ϯ X x) q8):PS X (.Assign [.Name x a] e pos) (ie l (fJ i)):=tT b d f c g h
theorem lk{Q:ό->Prop}(h:∀a,Q [a])(us)(b:ϱ us=1):Q us:=by obtain⟨_,rfl⟩:=lU1 b;exact h _
theorem ss{Q:ό->Prop}(h:∀a b,Q [a,b])(us)(c:ϱ us=2):Q us:=by obtain⟨_,_,rfl⟩:=lU2 c;exact h _ _
theorem l4{Q:ό->Prop}(h:∀a b c,Q [a,b,c])(us)(d:ϱ us=3):Q us:=by obtain⟨_,_,_,rfl⟩:=lU3 d;exact h _ _ _
theorem bA4{Q:ό->Prop}(h:∀a b c d,Q [a,b,c,d])(us)(i:ϱ us=4):Q us:=by obtain⟨_,_,_,_,rfl⟩:=lU4 i;exact h _ _ _ _
theorem d_{c}(a:autoParam (c.kind= .function) z6)(b:autoParam (c.isCoroutine=UK) z6)(g:autoParam (c.isGenerator=UK) z6)(d:autoParam N.Nodup xZ)(e:autoParam (N.take (ϱ Q)=Q) z6)(f:autoParam (∀x∈Q,c.names.lookup x=U .local\/c.names.lookup x=U .cell) xZ)(h:autoParam (∀y∈c.names,y.2≠ .free) xZ):ba N Q c:=⟨a,b,g,d,e,f,h⟩
structure eo (K:Vb) (mg:ϙ) (x:VF) (st:VQ) (f:UM) (v:U9) (u:ϒ):Prop where
 F:gs K x x st f v
 m:mg x=U (.ref f)
 b:cL K v u []
theorem fx{K}{e}{g}(m)(F:eo K mg x e f v u)(S:ba N u<|ak e)(a:∀(c:UQ) (A:V3) (d:List Env) (s:UW) (H:Hp) (E:XK),d4 k (A.deeper<|Zo x (ak e) s.heap.objs.size f c)->PSs (gD (hO P w) P w K mg base N x (ak e) f c A d s H E) (c7 e) (tG K H g (λ_=>E)))(h:autoParam (ϱ u=n) z6)(j:autoParam (ϱ N=m) z6):FB P w K mg base (k+1) x f v u n (fK m g):=⟨hG n m g F.F S h j a,F.m,F.F.kp,F.b⟩
end
end L2.Pu
namespace L2
section
variable{a:Vw}{w:VC}{A:V3}{E:ϕ}{s:UW}{K:Vb}
variable{X:Cx}
end
namespace Pu
section
variable{X:Cx}{E:ϔ}
end
end Pu
end L2
namespace L2.Pu
section
variable{X:Cx}{E:ϔ}{a b:Expr}{pos:Ye}{k:Nat}{f C:UM}{l:U9}{ps:ϒ}{K:Vb}
noncomputable def NC:D->D->ϓ
 | .bl a,.bl b=>U<|.bl<|!decide (a=b)
 |_,_=>Y
def QG(g:Bool->Bool->Bool):R2:=λx y H Q=>∃p q,x= .bl p/\y= .bl q/\Q (.bl<|g p q) H
theorem MW(p q):(Y2 p==Y2 q)=decide (p=q):=by cases p<;>cases q<;>rfl
theorem OR:g8 X (We .IsNot) (QG λp q=>!decide (p=q)):=by
 intro c s g H x y v u Q I d e h;obtain⟨p,q,rfl,rfl,h⟩:=h;cases d;cases e;exact wpAny_isNot_plain Z ⟨_,H,I,by rw[MW];rfl,h⟩
theorem Ry:bz K (QG λp q=>!decide (p=q)) NC:=λF H a Q b f d v1 v2 fr c g e k=>by
 unfold NC at e;split at e
 .cases e
  exact⟨_,_,c,g,k _ H (To.refl fr) Z⟩
 .cases e
structure IsC (K:Vb) (C:UM):Prop where
 cl:t_ K C
 ha:Yl K (.ref C) "__class__"=U (U<|.builtin rj)
 hn:specialIn K (.builtin rj) "__get__"=U (U<|.builtin "getset_descriptor.__get__")
 htk:PySem.W.takesIn K (.builtin rj)=U O
 hm:PySem.W.mroIn K C (.type oK)=U O
theorem SQ{a}(b:j2 r c a):tp r (tp c a)=a:=by
 obtain⟨e,g⟩:=b;refine WZ (by simp[A_,e]) λi n d=>?_;have h:=g _<|VU d;refine WZ (by simp[A_,h]) λj o l=>?_;have m:j<c:=by lia
 simp[A_,d,l]
theorem Mi:gu [x,y]=U (.lst [x,y]):=by
 rfl
variable{k f e b:Ye}
noncomputable def S(n:Nat)(f:a0P):Int:=((UT n).map f).sum
theorem SE(f):S 0 f=0:=Z
theorem iM(n)(f):S (n+1) f=S n f+f n:=by
 unfold S;rw[Xp,Vj,Y1];simp
theorem eZ{f g}(h:∀i<n,f i=g i):S n f=S n g:=by
 unfold S;rw[Vr λi c=>h i<|Vg.mp c]
theorem xv(n)(f g):S n (λi=>f i+g i)=S n f+S n g:=uP f g _
theorem qh(n):S n (λ_=>0)=0:=rF _
theorem UC(n)(f):S n (λi=>-f i)=-S n f:=by
 induction n with
 |zero=>rfl
 |succ n a=>rw[iM,iM,a];lia
theorem La(n m)(h:Nat->Nat->Int):S n (λi=>S m (λj=>h i j))=S m (λj=>S n (λi=>h i j)):=by
 induction n with
 |zero=>rw[SE];exact(qh m).symm
 |succ n a=>
  rw[iM,a,<-xv];exact eZ λj _=>(iM n _).symm
theorem rG{g:a0P}:∀{l L:ϊ},l.Sublist L->L.Nodup->(l.map g).sum=(L.map λx=>if x∈l then g x else 0).sum
 |_,_,.slnil,_=>rfl
 |l,_,.cons a h,nd=>by
  have c:=(V2.mp nd);rw[UZ,Vk,UU (λz=>c.1<|h.subset z),rG h c.2,Zk]
 |_,_,.cons₂ a (l₁:=l) h,nd=>by
  have c:=(V2.mp nd);rw[UZ,UZ,Vk,Vk,US UP,rG h c.2];congr 2;refine Vr λx e=>?_;by_cases q:x∈l
  .rw[US q,US<|UI _ q]
  .rw[UU q,UU λz=>(U4.mp z).elim (λz=>c.1<|z▸e:x≠a) q]
theorem qr{l:ϊ}(h:l.Sublist<|UT n):(l.map g).sum=S n λx=>if x∈l then g x else 0:=rG h List.nodup_range
theorem BP{g:a0P}:∀l:ϊ,((l.filter p).map g).sum=(l.map λx=>if p x=O then g x else 0).sum:=List.rec Z λx l h=>by
  rw[YM,UZ,Vk,<-h];by_cases q:p x=O
  .rw[US q,US q,UZ,Vk]
  .rw[UU q,UU q,Zk]
noncomputable abbrev nI(l:ϊ):ώ:=l.map λ(i:Nat)=>(i:Int)
noncomputable abbrev nL(l:ϊ):D:= .lst<|(nI l).map D.int
theorem BH:∀a:ώ,inB (.int i) (a.map D.int)=decide (i∈a)
 |[]=>rfl
 |x::a=>by
  have b:=BH (i:=i) a;unfold inB at b⊢;rw[UZ,Zz,b];show(decide _||_)=_;rw[Bool.eq_iff_iff];simp only[Bool.or_eq_true,Vx,U4];constructor
  .rintro(h|h)
   .exact .inl h.symm
   .exact .inr h
  .rintro(h|h)
   .exact .inl h.symm
   .exact .inr h
theorem wl:∀a:ώ,(a.map D.int).all eM=O:=List.rec Z λ_ a h=>h
theorem R7{b:ώ}{a}:x4 a (.int i) (.lst<|b.map D.int)=U (.bl (if a then !decide (i∈b)else decide (i∈b))):=by
 show(if(eM _&&(b.map _).all eM)=O then _ else _)=_;rw[wl,Bool.and_true,US (show eM _=O from Z),BH]
theorem Rl{i:Nat}{l}:((i:Int)∈nI l)↔i∈l:=by
 constructor
 .intro h
  obtain⟨j,c,e⟩:=UL.mp h;exact(Int.ofNat.inj e)▸c
 .intro h
  exact UL.mpr ⟨i,h,Z⟩
theorem yW{i:Nat}{l}{a}:x4 a (.int (i:Int)) (nL l)=U (.bl (if a then !decide (i∈l)else decide (i∈l))):=by
 rw[R7];simp only[Rl]
theorem gj{k}{f}(b)(u v:k->D)(p:k->Bool)(g:it δ β=U (.ok<|b.map u,β))
  (i:∀x∈b,∃a,tg (u x) (k_ nv b4 δ)=U a/\tt a β=U (.ok<|p x,β)/\(p x=O->f a β=U (.ok<|v x,β))) (j:ϱ b<=Ve):c9 nv b4 it tg tt (j0 f) δ β=U (.ok<|.lst<|(b.filter p).map v,β):=by
 refine vt g ?_ (by rw[UD];exact U1 (Xc _ _) j);have w:∀b:List k,(∀x∈b,∃a,tg (u x) (k_ nv b4 δ)=U a/\tt a β=U (.ok<|p x,β)/\(p x=O->f a β=U (.ok<|v x,β)))->oa tg tt (j0 f) (b.map u) (k_ nv b4 δ) β=U (.ok<|(b.filter p).map v,β):=by
  intro b
  induction b with
  |nil=>intro _;rfl
  |cons x b C=>
   intro h;obtain⟨a,d,c,l⟩:=h x UP;have e:=C λy E=>h y<|UI _ E;rw[UZ,oa,YM];cases q:p x with
   |true=>
    rw[q]at c;simp only[d,M.bind,M.ret,c,j0,l q,e,US,UZ,WY,WH]
   |false=>
    rw[q]at c;simp only[d,M.bind,M.ret,c,e,Vd,VS,WH]
 exact w b i
theorem rq:∀(n:Nat) (a:ϋ),dF n a=(UT (ϱ a)).map λ(i:Nat)=>D.tup [.int ((n+i:Nat):Int),a.getD i .non]
 |n,[]=>rfl
 |n,x::a=>by
  rw[dF,rq _ a,U5,List.range_succ_eq_map,UZ,UR];congr 1;refine Vr λi _=>?_;rw[show n+1+i=n+(i+1) by lia];rfl
noncomputable abbrev bI(b:LP)(i j:Nat):Int×Int:=(b.getD i []).getD j (0,0)
theorem j2.getD{m:List (List α)}(h:j2 r c m)(d:i<r):m[i]?=U (m.getD i [])/\ϱ (m.getD i [])=c:=by
 obtain⟨a,e,l⟩:=h.at d;have:m.getD i []=a:=by rw[UO,e];rfl
 simp_all
theorem qU{a:Type}{l}{i}{d:a}(h:i<ϱ l):l[i]?=U (l.getD i d):=by
 simp_all
theorem NT{a}(h:i<ϱ a):f0 (.lst<|a.map D.int) (.int (i:Int))=U (.int<|a.getD i 0):=cQ (by rw[UN,qU h];rfl)
theorem yP{b}(a:j2 r c b)(g:i<r)(h:j<c):f0 (eG b) (.int (i:Int))=U (.lst<|(b.getD i []).map pD)/\f0 (.lst<|(b.getD i []).map pD) (.int (j:Int))=U (pD<|bI b i j):=by
 obtain⟨e,l⟩:=a.getD g;refine⟨ug (by rw[UN,e];rfl),cQ ?_⟩;rw[UN,qU ln];rfl
noncomputable def tY(a:ώ)(c:ϊ):Int:=(c.map λi=>a.getD i 0).sum
def gy(a:ώ)(b:LP)(r:Nat)(c:ϊ)(j:Nat):Int:=a.getD j 0-S r λi=>if i∈c then 0 else(bI b i j).1
def ib(b:LP)(c:ϊ)(j:Nat):Int:=(c.map λi=>(bI b i j).2).sum
def wX(a:ώ)(b:LP)(r c:Nat)(d e:ϊ):Int:=S c λj=>if j∈e then gy a b r d j else ib b d j
def hF(b:LP)(c d:ϊ)(i j:Nat):Int:=(if i∈c/\j∉d then(bI b i j).2 else 0)-(if i∉c/\j∈d then(bI b i j).1 else 0)
theorem OB{b}{d e:ϊ}(h:d.Sublist<|UT r)(g:e.Sublist<|UT c):
  wX cs b r c d e=tY cs e+S r λi=>S c λj=>hF b d e i j:=by
 unfold tY;rw[qr g,La,<-xv];refine eZ λj l=>?_;by_cases q:j∈e
 .rw[US q,US q]
  unfold gy;rw[Int.sub_eq_add_neg,<-UC];congr 1;refine eZ λi g=>?_;unfold hF;by_cases z:i∈d
  .simp[q]
  .simp[q]
 .rw[UU q,UU q,Zk]
  unfold ib;rw[qr h];refine eZ λi g=>?_;unfold hF;by_cases z:i∈d
  .simp[q]
  .simp[q]
end
end L2.Pu
namespace L2.Pu
section
variable{X:Cx}{K:Vb}
variable{E:ϔ}{o e:Expr}{d b:Ye}
def jj(ns:ώ):Int:=ns.foldl max<|ns.headD 0
theorem lj:∀(d:ώ) (z:Int),z<=d.foldl max z/\(∀a∈d,a<=d.foldl max z)/\(d.foldl max z=z\/d.foldl max z∈d):=List.rec (λz=>⟨Int.le_refl _,λ_ h=>(by cases h),.inl Z⟩) λx d w z=>by
  obtain⟨c,b,h3⟩:=w<|max z x;show z<=d.foldl _ _/\_/\(d.foldl _ _=z\/_);refine⟨by grind,λa ha=>?_,?_⟩
  .obtain rfl|ha:=U4.mp ha
   .show a<=d.foldl _ _
    grind
   .exact b a ha
  .obtain h3|h3:=h3
   .by_cases q:x<=z
    .exact .inl ln
    .exact .inr (by rw[U4];left;grind)
   .exact .inr (UI _ h3)
theorem wg(h:ns≠[]):jj ns∈ns:=by
 cases ns with
 |nil=>exact Vl Z h
 |cons x ns=>
  obtain h|h:=(lj _ x).2.2
  .unfold jj
   show(x::ns).foldl _ x∈_;rw[h];exact UP
  .exact h
theorem yY(h:a∈ns):a<=jj ns:=(lj ns _).2.1 a h
theorem Pl(b:m∈ns)(c:∀a∈ns,a<=m):m=jj ns:=by
 have:=c _ (wg λz=>by rw[z]at b;cases b);have:=yY b;lia
theorem K6{o:Array (Int×Tok)}(D:0<o.size)(e:o.toList.map (·.1)=ns):numAt o (argBest (λi j=>decide (numAt o i>numAt o j))<|o.size-1)=jj ns:=by
 obtain⟨d,b⟩:=argBest_gt (numAt o)<|o.size-1;refine Pl ?_ λa w=>?_
 .rw[numAt_eq,e];exact getD_mem (by rw[<-e,UD,Vp];lia)
 .obtain⟨j,c,rfl⟩:=mem_getD w
  rw[<-e,UD,Vp]at c;rw[<-e,<-numAt_eq];exact b j ln
abbrev Nr(K:Vb):ύ->Hp->VK->Prop:=λd H Q=>∃(p:UM) (b:ώ),d=[.ref p]/\e_ K H p (b.map V.int)/\b≠[]/\Q (.int<|jj b) H
theorem ww(g:X.calm=O):cT X (.builtin "max") (Nr X.K):=by
 intro c s y H e M Q I r h;obtain⟨p,o,rfl,i,a,q⟩:=h;obtain⟨u,rfl,j⟩:=gR r;cases j;obtain⟨w,k,G,A⟩:=I.list i;have d:=ki k;obtain⟨e,D⟩:=d.allInts.items;have b:=d.numsOf;have l:w=(YX e).toList:=by rw[<-D]
 rw[l,nums_intItems]at b;have E:0<e.size:=by
  have:ϱ (e.toList.map (·.1))=ϱ o:=by rw[b]
  rw[UD,Vp]at this;cases o with
  |nil=>exact Vl Z a
  |cons=>rw[this];simp_all
 have f:=G.isList;rw[D]at f;refine max_intList (I.ok.hd g) f E λv P B m n=>?_;obtain⟨t,rfl⟩:=intItems_at m;rw[K6 E b];exact⟨.int<|jj o,H,I.kept n,⟨_,Z⟩,q⟩
def qB:ϋ->ϓ
 |[.lst xs]=>match cV xs with
  |some (n::ns)=>U<|.int<|jj<|n::ns
  |_=>Y
 |_=>Y
theorem Km:dA K (Nr K) qB:=λF H o Q w d D fr h e k=>by
 unfold qB at e;split at e
 .rename_i xs
  split at e
  .rename_i n ns q
   cases e;obtain⟨v,rfl,g⟩:=a_.one h;obtain⟨a,E,rfl,r,b⟩:=bi.sqL g;rw[f_ q]at b;have c:=a_.ints _ b;subst c;exact⟨a,n::ns,Z,r,λz=>(by cases z),k _ H (To.refl fr) Z⟩
  .cases e
 .cases e
end
end L2.Pu
namespace L2.Pu
noncomputable def KI:G:=λ_ _=>Y
theorem dJ{w}{K}{E}:PS X w (tG K H KI E):=λ_ _ _ _ _ _ h=>by
 obtain⟨_,_,_,_,_,_,_,e,_⟩:=h;cases e
section
variable{j:Vw}{w:VC}{A:V3}{E:ϕ}{s:UW}{l:UM}{t:Array (Int×Tok)}
theorem Lu(f:A.handled=Y)(c:s.heap.IsTuple l<|YX t)
  (h:∀D d G,(∀b o,s.heap.get? b=U o->D.get? b=U o)->Q (.int (preSum (numAt t) t.size) G) {s with heap:=D,toks:=d}):
  U6 (Vq j w) A (call (.builtin "sum") [.ref l]) Q E s:=by
 have a:l<s.heap.objs.size:=by obtain⟨_,e,_⟩:=c;exact Vm e
 refine call_sum_walkG<|PySem.wpAny_pyIter_tuple c ⟨_,_,_,_,_,_,numAt t,Z,Walks.tuple (A:=A.in1) f _ l (VJ a)<|YX t,⟨⟨_,U7 _ Z,Z,Z⟩,c.at λo e=>UH _ e⟩,λb hb=>?_,(λ_ _=>intItems_at),λD d G g=>?_⟩
 .show b<(s.heap.push _).objs.size
  rw[WB];obtain rfl|hb:=U4.mp hb
  .exact Yb _
  .obtain rfl|hb:=U4.mp hb
   .exact X1 a
   .cases hb
 .have:=h D d G λb o e=>g b o (λhm=>by
   obtain i|hm:=U4.mp hm
   .exact Vl (i▸Vm e) (V4 _)
   .cases hm)<|UH _ e
  simpa[YX]using this
variable{X:Cx}{K:Vb}
abbrev Nn(K:Vb):ύ->Hp->VK->Prop:=λt H Q=>∃(p:UM) (j:ώ),t=[.ref p]/\(e_ K H p (j.map V.int)\/hW K H p (j.map V.int))/\Q (.int j.sum) H
theorem KV(b:X.calm=O):cT X (.builtin "sum") (Nn X.K):=by
 intro a s f H t E Q I r h;obtain⟨p,l,rfl,hq|hq,q⟩:=h
 .exact wu b a s f H _ E Q I r ⟨p,l,Z,hq,q⟩
 .obtain⟨u,rfl,g⟩:=gR r
  cases g;obtain⟨w,i,A,m⟩:=I.tuple hq;have c:=ki i;obtain⟨t,D⟩:=c.allInts.items;have d:=c.numsOf;have j:w=(YX t).toList:=by rw[<-D]
  rw[j,nums_intItems]at d;rw[D]at A;refine Lu (I.ok.hd b) A λG n M k=>?_;have e:preSum (numAt t) t.size=l.sum:=by rw[preSum_eq,WL rc,d]
  rw[e];exact⟨.int _,H,I.kept k,⟨_,Z⟩,q⟩
def sR:ϋ->ϓ
 |[.lst t]=>(cV t).map λj=> .int j.sum
 |[.tup t]=>(cV t).map λj=> .int j.sum
 |_=>Y
theorem Rw:dA K (Nn K) sR:=λF H s Q w d A fr h e k=>by
 unfold sR at e;split at e
 .rename_i t
  obtain⟨j,q,rfl⟩:=Option.map_eq_some_iff.mp e;obtain⟨v,rfl,g⟩:=a_.one h;obtain⟨a,l,rfl,r,b⟩:=bi.sqL g;rw[f_ q]at b;have c:=a_.ints j b;subst c;exact⟨a,j,Z,.inl r,k _ H (To.refl fr) Z⟩
 .rename_i t
  obtain⟨j,q,rfl⟩:=Option.map_eq_some_iff.mp e;obtain⟨v,rfl,g⟩:=a_.one h;obtain⟨a,l,rfl,r,b⟩:=bi.sqT g;rw[f_ q]at b;have c:=a_.ints j b;subst c;exact⟨a,j,Z,.inr r,k _ H (To.refl fr) Z⟩
 .cases e
theorem Qf(j:ώ):sR [.lst<|j.map D.int]=U (.int j.sum):=gn j
theorem Qe(j:ώ):sR [.tup<|j.map D.int]=U (.int j.sum):=gn j
end
end L2.Pu
namespace L2.Pu
open L2.Hs
noncomputable def Iti(a:UM)(D n:Nat):It:=
 ⟨λi H=>∃b w,H a=U (c8 a b D w)/\w.length=n/\i<n,
  λi H v c=>∃p x,H p=Y/\v= .ref p/\c=upd H p (.tup [.ref x.1,x.2])/\∀b w,H a=U (c8 a b D w)->(w[i]?).map (·.2)=U x,
  λi H=>∃b w,H a=U (c8 a b D w)/\w.length=n/\i=n⟩
theorem M8:∀{w:ϩ} {D:a0C} {i:Nat} {y:d5×UM×UQ},Z9 XY w D->D[i]?=U y->∃x,w[i]?=U x/\XY x y
 |_,_,0,_,.cons h t,e=>by cases e;exact⟨_,Z,h⟩
 |_,_,i+1,_,.cons h t,e=>M8 (i:=i) t e
 |_,_,0,_,.nil,e=>by cases e
 |_,_,_+1,_,.nil,e=>by cases e
section
variable{X:Cx}{aj:ϖ}{σ:St}{H:Hp}{s:UW}{a:UM}{b:Bool}{ep i:Nat}{xs:ϩ}
theorem uv(I:b5 X aj σ H s)(h:H a=U (c8 a b ep xs)):∃(o:Wd) (es:Array XN),s.heap.get? a=U o/\o.data= .dict es ep/\es.size=ϱ xs/\o.ExactDict/\(a==ZW)=UK/\∀(i:Nat) (e:XN),es[i]?=U e->∃x,xs[i]?=U x/\e.key= .ref x.2.1/\bf x.2.2 e.val:=by
 obtain⟨o,es,w,j,k,l,d,h5,m,t,g⟩:GA a b ep xs _:=(I.hok a _ h).1;have n:ϱ w=ϱ xs:=by rw[<-UD,<-mw g,UD]
 refine⟨o,es,j,l,by rw[<-Vp,d,UD,n],k,m,λi e c=>?_⟩;rw[<-XI,d,UN]at c;cases q:w[i]? with
 |none=>rw[q]at c;cases c
 |some y=>
  rw[q]at c;cases c;obtain⟨x,D,_,p,r⟩:=M8 g q;exact⟨x,D,by rw[p],r⟩
theorem CW{P}{w}{K}{x1}{pos}(a M)(n ep):
  p3 P w K (.Tuple elts x1 pos) (Iti a ep n) [M] M (λi h=>∃G d,IsItemIter h M a i n ep G d) where
 mem:=by simp
 obj:=λi h D b c=>by
  obtain⟨G,d,e⟩:=D;simp_all
 keep:=λi h S D k=>by
  obtain⟨G,d,e⟩:=D;exact⟨G,d,k M rc _ e⟩
 item:=by
  intro X l m p C i aj s σ H E I f D r;subst l m p;obtain⟨G,d,e⟩:=D;obtain⟨b,xs,t,T,F⟩:=r;obtain⟨o,es,g,j,f5,h4,h5,W⟩:=uv I t;have V:n=es.size:=by lia
  subst V;have hx:=YL F;refine EV e g j hx λS o7 v sz kp=>⟨_,Z,wpAny_letOwnedTupleGo_items o7 λA ei J=>?_⟩;obtain⟨x,ex,L,N⟩:=W i _ hx;have o8:=XB<|Vm e;have I2:b5 X aj σ (upd H _<|.tup [.ref _,x.2.2]) {s with heap:=A,toks:=s.toks}:=
   b5.turnNew I f (λb u c q=>J.extBut b u (λz=>c<|by rw[z];simp)<|kp b u (λz=>c<|by rw[z];simp) q) (UV _) ⟨by show 2<=Ve;decide,[es[i].key,es[i].val],.cons L<|.cons N .nil,_,J.extBut _ _ o8 v,Z,_,Z⟩
  refine⟨.ref _,_,I2,Z,⟨s.heap.objs.size,x.2,I.hok.fresh<|UV _,Z,Z,λb' aa B=>?_⟩,⟨_,_,ei⟩,λb c=>?_⟩
  .obtain⟨o',es',Q,R,_,_,_,g6⟩:=uv I B
   rw[g]at Q;cases Q;rw[j]at R;cases R;obtain⟨y,ey,fk,fv⟩:=g6 i _ hx;rw[ey];rw[L]at fk
   injection fk with fk
   exact VR U<|Xu fk.symm<|bf.inj fv N
  .cases Vs.mp c
   rw[bb o8.symm];exact(f _ c).1
 done:=by
  intro X l m p C i aj s σ H E I f D r;subst l m p;obtain⟨G,d,e⟩:=D;obtain⟨b,xs,t,T,F⟩:=r;obtain⟨o,es,g,j,f5,_⟩:=uv I t;have V:n=es.size:=by lia
  subst V;refine Ku (I.ok.hd C) e g j ln λS kp=>⟨Z,b5.turnL I f λb o c q=>kp b o (λz=>c<|by rw[z];simp) q⟩
 self:=λ_ _ _ _ _ D h=>by
  obtain⟨G,d,e⟩:=D;exact EU (es:=(Vn n (⟨0,.none,.none⟩:XN)).toArray) (by rw[Vf,WS];exact e) h
variable{E:ϔ}{K:Vb}{o:Expr}{w i z:Ye}{B:List Expr}{C:Nat}
def iItm(i:TE):TI:=λσ H R=>i σ H λx c=>∃a b ep xs,x= .ref a/\c a=U (c8 a b ep xs)/\R (Iti a ep xs.length) c
theorem LV(p:PE X o to)(c:autoParam (Zd o "items" X.env (Wa o X.env)=Wa o X.env) z6)(d:autoParam ((w.endLine==i.line)=O) z6):PI X (.Tuple B C z) (.Call (.Attribute o "items" w) [] [] i) (iItm to):=by
 refine λaj s σ H R I h=>wpAny_Call_method0_late c d<|dv (p aj s σ H _ I h) λv f g=>?_;obtain⟨x,m,n,D,a,b,ep,xs,rfl,r,q⟩:=g;cases D;obtain⟨j,E,g,t,u,k,h5,_⟩:=uv n r;refine⟨vQ,"dict.items",PySem.F.plainAttrs_dict,PySem.F.slot_dict_items,PySem.F.type_dict_items,⟨j,g,k.1⟩,λb e=>?_,?_⟩
 .cases e;exact⟨j,g,k.2.1⟩
 refine PySem.Calls.callWith_builtin Z<|PySem.evalArgs_none<|FT ⟨j,g,k.1⟩ h5 ?_;have l:b5 X aj σ m {f with heap:=f.heap.push {cls:= .type "dict_items",data:= .fields #[.ref a]},toks:=f.toks}:=n.kept λb o e=>UH _ e;apply EW ⟨_,U7 _ Z,Z,Z⟩ (UH _ g) t;rw[u];exact⟨_,[_],_,_,m,Z,l.kept λb o e=>UH _ e,CW a _ _ ep,⟨_,_,U7 _ Z⟩,λb y=>by
  cases Vs.mp y;exact l.fpOk (UV _)<|l.hok.fresh<|UV _,q⟩
def itmD:D->Ϧ
 | .dct b ks vs=>U<|YO (λk v=> .tup [dK b k,v]) ks vs
 |_=>Y
theorem Kv(C:¬F.A a)(I:H a=U (c8 a b ep xs))(g:T=xs.map (·.1))(J:∀x∈xs,gE K F H b x.1 x.2.1)(h:a_ K F H W<|xs.map (·.2.2)):B4 K (Iti a ep xs.length) F H (YO (λk v=> .tup [dK b k,v]) T W):=λQ j s t fr i=>by
 have L:W.length=xs.length:=by rw[h.length,UD]
 have N:T.length=xs.length:=by rw[g,UD]
 have c:=t.kp a _ C I;refine⟨λd o=>?_,λe=>⟨b,xs,c,Z,by rw[e,List.length_zipWith,N,L,Nat.min_self]⟩⟩;have e:i<xs.length:=by
  have:=(UY.mp o).1;simp_all
 refine⟨⟨b,xs,c,Z,e⟩,λy R w=>?_⟩;obtain⟨p,x,l,rfl,rfl,z⟩:=w;have m:=z b xs c;rw[UJ e]at m;have f:=Vt m;subst f;have n:cw j (upd j p<|.tup [.ref xs[i].2.1,xs[i].2.2]):=cw.upd l;obtain⟨v,q⟩:∃v,W[i]?=U v:=⟨_,UJ ln⟩;have f5:T[i]?=U xs[i].1:=by rw[g,UN,UJ e];rfl
 rw[List.getElem?_zipWith,f5,q]at o;cases o;obtain⟨u,r,E⟩:=(a_.tr t _ _ h).get q;rw[UN,UJ e]at r;cases r;have B:=(fr.same n).tr fr;exact⟨n,sK (.inl ⟨fr.fresh l,.inl ay⟩)<|a_.cons (bi.tr B _ _<|EA<|(J _<|VU e).tr t)<|a_.cons (bi.tr B _ _ E) a_.nil⟩
def nItm(f:FD):FL:=λa=>M.bind (f a) λd=>M.ofO<|itmD d
theorem BI(m:PE X o<|tV X.K f E)(c:autoParam (Zd o "items" X.env (Wa o X.env)=Wa o X.env) z6)(g:autoParam ((w.endLine==i.line)=O) z6):PI X (.Tuple B C z) (.Call (.Attribute o "items" w) [] [] i) (iV X.K (nItm f) E):=
 (LV m c g).imp λσ H R j=>k4 j λF s D fr n h=>⟨F,s,D,fr,n,(run.bind h).mono λv p j=>by
  obtain⟨d,G,t,b,M⟩:=j;obtain⟨P,e,k⟩:=run.ofO M;cases d<;>first|(cases e;done)|skip
  cases e;unfold bi at b;obtain⟨a,ep,xs,rfl,l,q,r,u⟩:=b;exact⟨a,_,ep,xs,Z,l.2,k _ p (To.refl t.fr)<|Kv l.1 l.2 q r u⟩⟩
end
end L2.Pu
namespace L2.Hs
theorem AX:mroOf (.type ph)=W2 [.type ph,.type oK]:=by rw[mroOf_type];kernel_rfl
theorem Mn:typeLookup (.type ph) "__new__"=W2 (U<|.builtin S'):=by rw[typeLookup_type,builtinLookup_eq_fast];kernel_rfl
theorem Mg:Bind.madeBy (.type ph)=W2 (U S'):=madeBy_type AX Mn (by decide +kernel)
theorem Oj:isSubtype (.type ph) (.type ph)=W2 O:=by rw[ZF];kernel_rfl
theorem Lx:isSubtype (.type "range_iterator") (.type ph)=W2 UK:=by rw[ZF];kernel_rfl
theorem Pt:entryFor table S'=U Builtin.«reversed.__new__»:=entryFor_of_tree rf
section
variable{l:Vw}{w:VC}{A:V3}{E:ϕ}{s:UW}
theorem MS(a:IsRange s.heap r 0 n 1 t u v)(j:0<=n)(g:n<2^62)
  (h:Q (.ref s.heap.objs.size) {s with heap:=s.heap.push {cls:= .type "range_iterator",data:= .fields #[Yy<|n-1,Yy n,Yy<|-1]}}):U6 (Vq l w) A (call (.type "reversed") [.ref r]) Q E s:=by
 refine wpAny_call<|codeAny_of_tree ?_;show U6 _ _ (callAny (.type "reversed") _) _ _ _;refine UF ⟨Code.quiet_builtin _ (by decide +kernel),codeAny_builtin F.entry_type_call ?_⟩;rw[Around.under_plain (weight_type_call_type "reversed" [.ref r] [])<|units_type_call_type "reversed" [.ref r] []];have g:(X3 "reversed"==X3 "type")=UK:=by decide +kernel
 have k:((Manifest.find? "reversed").bind (·.mro.findSome? λt=>(Manifest.find? t).bind λb=>if b.noNew then U O else if b.attrs.any (·.1=="__new__")then U UK else Y)).getD UK=UK:=by decide +kernel
 have e:=AX;have c:=Mg;have i:checkTypeCall "reversed" ⟨[.ref r],[]⟩=W2 ():=by kernel_rfl
 repeat (any_goals (first|assumption|wp_step))
 refine codeAny_call_builtin (by decide +kernel) Pt<|Yu (show checkBuiltinCall "reversed.__new__" ⟨[.type "reversed",.ref r],[]⟩=W2 () by kernel_rfl) ?_;have f:s.TypeIs (.ref r) "range":=⟨_,a,Z⟩;unfold Builtin.«reversed.__new__»
 repeat (any_goals (first|assumption|wp_step))
 refine Yu Oj<|UF ?_;refine My (m:=Builtin.SmallTypes.refuseKeywords _ _ _) ?_;refine Yu (show Builtin.SmallTypes.refuseKeywords "reversed" (X3 "reversed") ⟨[.type "reversed",.ref r],[]⟩=W2 ()from Z) ?_;refine My (m:=checkCount "reversed" 1 1 _)<|UF ?_;show U6 _ _ (specialOf (.ref r) (Vc "__reversed__")>>=_) _ _ s;refine My<|XD f F.slot_range_reversed.lookup ?_;show U6 _ _ (bindSpecial (.builtin "range.__reversed__") (.ref r)>>=_) _ _ s;refine My<|Yu (F.slot_range_reversed.bind _) ?_;show U6 _ _ (rule "reversed.__new__.own-method">>=_) _ _ s;refine My<|XV<|My<|wpAny_runValue<|codeAny_call_builtin F.slot_range_reversed.plain F.entry_range_reversed<|F.slot_range_reversed.check _ _ _ _ _ _ _ _ f (F.args_range_reversed_1 _) ?_;unfold Builtin.«range.__reversed__»;refine My (m:=selfOnly "range.__reversed__" _)<|UF<|My ?_;unfold Builtin.Range.rangeFields;refine My<|Wp a Z (x:= .int 0 t) Z<|My (m:=asInt? _)<|UF ?_;refine My<|Wp a Z (x:= .int n u) Z<|My (m:=asInt? _)<|UF ?_;refine My<|Wp a Z (x:= .int 1 v) Z<|My (m:=asInt? _)<|UF<|UF ?_;have D:ZO 0 n 1=n:=by rw[rangeSize_one];split<;>lia
 simp only[D];have d:(Wn 0&&Wn n&&Wn 1&&Wn (-1)&&Wn (0-1)&&Wn n)=O:=by
  have:Wn n=O:=by unfold Wn;simp;lia
  rw[this];decide
 simp only[d,VV,Xz,Vd,VS];rw[show(0:Int)+(n-1)*1=n-1 by lia];refine My<|VE<|UF<|UF ?_;exact My<|W3 (T:="range_iterator") (b:=UK) ⟨_,U7 _ Z,Z⟩ Lx<|My<|XV<|UF h
end
end L2.Hs
namespace L2.Pu
open L2.Hs
noncomputable def Itd(n:Nat):It:=⟨λi _=>i<n,λi H v a=>v= .int ((n:Int)-1-i)/\a=H,λi _=>n<=i⟩
theorem qX{P}{w}{K}(G)(n):p3 P w K x (Itd n) [G] G (λi h=>IsRangeIter h G ((n:Int)-1+(i:Nat)*-1) ((n:Int)-(i:Nat))<|-1) where
 mem:=by exact .head _
 obj:=λi h D b c=>by
  simp_all
 keep:=λi h M D k=>k G (by exact .head _) _ D
 item:=by
  intro X g j l m i a s A H E I f D p;subst g j l;obtain⟨q,f1,f2,r,u,y⟩:=f G rc;refine(Walks.range (I.ok.hd m) G _ _ n).item i s _ _ p D λv M B F d J=>?_;obtain⟨t,rfl⟩:=F;exact⟨_,Z,xk d Z Z rb ⟨.int<|(n:Int)-1-i,H,I.turned (λb o c e=>J b o (by simpa using c) e) q f1 r u y,⟨t,by rw[show(n:Int)-1+(i:Int)*-1=(n:Int)-1-i by lia]⟩,⟨Z,Z⟩,d,λb c=>(f b c).1⟩⟩
 done:=by
  intro X g j l m i a s A H E I f D p;subst g j l;obtain⟨q,f1,f2,r,u,y⟩:=f G rc;exact wpAny_pyNext_range_end (I.ok.hd m) D (by have:n<=i:=p;lia) λM N=>⟨Z,I.turned (λb o c e=>N b o c e) q f1 r u y⟩
 self:=λ_ _ _ _ _ D h=>wpAny_pyIter_rangeiter D h
section
variable{X:Cx}{E:ϔ}{K:Vb}{C:Expr}
def Uo(a:TA):TI:=λb H R=>a b H λw c=>∃j:Int,w=[.int j]/\0<=j/\j<2^62/\R (Itd j.toNat) c
theorem IS{p pos r f:Ye}(g:Gl X ph)(i:X.mg ph=Y)(v:Gl X tj)(w:X.mg tj=Y)(D:PA X [a] z)(E:autoParam (U8 [a] X.env=[(UK,Wa a X.env)]) z6)
  (k:autoParam (U8 [.Call (.Name tj p) [a] [] pos] X.env=[(UK,Wa (.Call (.Name tj p) [a] [] pos) X.env)]) z6):PI X C (.Call (.Name ph r) [.Call (.Name tj p) [a] [] pos] [] f) (Uo z):=by
 refine λc s m H R I h=>Call_<|gN I g i Boot.«reversed»<|Wq (Calls.spliced_cons<|Call_<|gN I v w boot_range<|Wq (dv (D _ c s m H _ I h) λP d y=>?_) E Z) k Z;obtain⟨S,n,A,G,j,rfl,K,M,q⟩:=y;obtain⟨u,rfl,t,rfl⟩:=gR G;refine call_range_1<|Calls.spliced_nil<|MS (IsRange.new ..) K M<|wpAny_pyIter_rangeiter (U7 _ Z) ?_;have l:b5 X c m n {d with heap:=d.heap.push {cls:= .type tj,data:= .fields #[.int 0 d.toks,.int j t,.int 1<|d.toks+1]},toks:=d.toks+1+1}:=A.kept λb o e=>UH _ e;refine⟨_,[_],_,_,n,Z,l.kept λb o e=>UH _ e,qX _ _,?_,λb B=>?_,q⟩
 .show IsRangeIter _ _ _ _ _
  rw[show((j.toNat:Nat):Int)-1+((0:Nat):Int)*-1=j-1 by lia,show((j.toNat:Nat):Int)-((0:Nat):Int)=j by lia];exact U7 _ Z
 .cases Vs.mp B
  exact l.fpOk (UV _)<|l.hok.fresh<|UV _
noncomputable def eJ(n:Nat):ϋ:=(UT n).map λ(i:Nat)=> .int<|(n:Int)-1-i
theorem uh:B4 K (Itd n) F H (eJ n):=λe f C t fr i=>by
 refine⟨λd w=>?_,λa=>?_⟩
 .unfold eJ at w
  have a:i<n:=by
   have:=(UY.mp w).1;simp_all
  rw[UN,VN a]at w;cases w;exact⟨a,λx g z=>by obtain⟨b,c⟩:=z;subst b c;exact⟨cw.refl _,Z⟩⟩
 .show n<=i
  rw[a];simp[eJ]
def wW:ϋ->Ϧ
 |[.int j]=>if(decide (0<=j)&&decide (j<2^62))=O then U (eJ j.toNat)else Y
 |_=>Y
theorem MC{p pos m b:Ye}(c:Gl X "reversed")(d:X.mg "reversed"=Y)(n:Gl X "range")(w:X.mg "range"=Y)(D:PA X [a]<|ix X.K g E)(G:autoParam (U8 [a] X.env=[(UK,Wa a X.env)]) z6)
  (f:autoParam (U8 [.Call (.Name "range" p) [a] [] pos] X.env=[(UK,Wa (.Call (.Name "range" p) [a] [] pos) X.env)]) z6):PI X C (.Call (.Name "reversed" m) [.Call (.Name "range" p) [a] [] pos] [] b) (iV X.K (dm wW g) E):=
 (IS c d n w D G f).imp λu H R i=>k4 i λF M P fr o h=>⟨F,M,P,fr,o,(run.bind h).mono λx q i=>by
  obtain⟨y,S,t,V,s⟩:=i;obtain⟨l,e,k⟩:=run.ofO s;unfold wW at e;split at e
  .split at e
   .rename_i j
    cases e;simp only[Vu,Vx]at j;obtain⟨v,rfl,r⟩:=a_.one V;cases r.int;exact⟨_,Z,j.1,j.2,k _ q (To.refl t.fr) uh⟩
   .cases e
  .cases e⟩
variable{e m:Expr}{z tm:TE}{pos L:Ye}
theorem LT(e:ό):slicePick e.toArray Y Y (U<|-1)=e.reverse.toArray:=by
 have a:YY Y Y (U<|-1) e.toArray.size=((ϱ e:Int)-1,-1,-1):=by simp[YY]
 unfold slicePick;rw[a];apply VR _;have b:sliceRange ((ϱ e:Int)-1) (-1) (-1)=(UT (ϱ e)).map λk=>ϱ e-1-k:=by
  unfold sliceRange;have c:(if(-1:Int)>0 then(if(ϱ e:Int)-1< -1 then(-1-((ϱ e:Int)-1)+-1-1)/ -1 else 0)else(if(ϱ e:Int)-1>-1 then((ϱ e:Int)-1- -1- -1-1)/(- -1)else 0)).toNat=ϱ e:=by
   rw[UU rb];split
   .lia
   .lia
  simp only[c];exact Vr λk _=>by grind
 show(sliceRange _ _<|-1).filterMap _=_;rw[b,List.filterMap_map];obtain _|⟨x,r⟩:=e
 .rfl
 generalize h:x::r=e;rw[y0 (g:=λk=>e.getD _ x) λk d=>by
  have:=Vg.mp d;simp only[Z2,List.getElem?_toArray];rw[UO,UJ<|by grind];rfl]
 refine WZ rc λi f j=>?_;have l:i<ϱ e:=by simpa using f
 rw[XE,Yg,List.getElem_reverse,UO,UJ ln];rfl
def tRev(K:Vb)(z tm:TE):TE:=λc H Q=>z c H λx d=>tm c d λy b=>∃a e,x= .ref a/\y= .int (-1)/\e_ K b a e/\∀p,b p=Y->Q (.ref p) (upd b p<|.lst e.reverse)
theorem QW(l:PE X e z)(E:PE X m tm):PE X (.Subscript e (.Slice Y Y (U m) L) pos) (tRev X.K z tm):=by
 refine λc s f H Q I h=>Subscript_<|dv (l c s f H _ I h) λv n o=>?_;obtain⟨x,p,r,G,M⟩:=o;apply wpAny_Slice;refine UF<|UF ?_;refine dv (E c n f p _ r M) λu d B=>?_;obtain⟨y,C,g,F,a,P,rfl,rfl,S,q⟩:=B;cases G;obtain⟨t,rfl⟩:=F;obtain⟨its,i,D,j⟩:=g.list S;have k:b5 X c f C {d with heap:=d.heap.push {cls:= .type "slice",data:= .fields #[.none,.none,.int (-1) t]}}:=g.kept λb J q=>UH _ q;refine tail_any (D.isList.push _).typeIs slot_list_getitem.lookup (wpAny_getItem_list_slice (D.isList.push _) (Heap.IsSliceOf.new ..) .none .none (.int _ t) rb ?_<|by rw[Vf,<-i.length];exact j) (by with_unfolding_all rfl)
 rw[LT];exact⟨.ref _,_,k.lnew i.reverse (by rw[List.length_reverse];exact j),Z,q _<|k.hok.fresh<|UV _⟩
noncomputable def QC:D->D->ϓ
 | .lst ds,.int (-1)=>U<|.lst ds.reverse
 |_,_=>Y
theorem a_.reverse:∀{ds:ϋ} {e:ύ},a_ K F H ds e->a_ K F H ds.reverse e.reverse:=@List.rec _ _ (@λe h=>by have q:=h;subst q;exact a_.nil) (λd ds w=>@λe h=>by
  obtain⟨x,r,rfl,a,b⟩:=h;rw[List.reverse_cons,List.reverse_cons];exact a_.append (w b)<|a_.cons a a_.nil)
theorem CQ(o:PE X e<|tV X.K f E)(D:PE X m<|tV X.K g E):PE X (.Subscript e (.Slice Y Y (U m) L) pos) (tV X.K (f2 QC f g) E):=
 (QW o D).imp λu H Q b=>k4 b λF C G fr l h=>⟨F,C,G,fr,l,(run.bind h).mono λv y b=>ro b λd w t M P=>⟨F,C,w,t.fr,l.tr<|t.tr fr,(run.bind P).mono λv2 A b=>ro b λx S i j q=>by
  obtain⟨z,c,k⟩:=run.ofO q;unfold QC at c;split at c
  .cases c
   obtain⟨a,V,rfl,s,r⟩:=bi.sqL<|bi.tr (i.tr t.fr) _ _ M;cases j.int;exact⟨a,V,Z,Z,s,λp n=>k _ _ (i.fr.upd _ n)<|bi.newL i.fr n<|a_.reverse r⟩
  .cases c⟩⟩
end
end L2.Pu
namespace L2.Pu
theorem r_(a:d4 k A):A.units+2<Zp:=VT (Nat.add_le_add_left (by decide:2<=64) _) a.units
open L2.Hs
section
variable{X:Cx}{E:ϔ}{ke ve bt aa:Expr}{ac:List Expr}{ab:Ϭ}{P:Scope}{pos:Ye}{Nc cx:ϒ}{b4:ϊ}{g:TG}{tb:ϧ}
theorem OF{kb:Bool}{b d:Ye}(y:X.N.Nodup)(k:X.N[i]?=U x)(K:Iv X.env.scope x)(B:X.calm=O)(S:cy X P Nc cx b4)(F:PI X bt aa wi)
  (L:∀(E:ϝ) (C:UM) (j:ϗ) (s:UW) (H:Hp),PG (aY X Nc P E C j s H) bt g/\e8 (aY X Nc P E C j s H) ac tt/\∀D,PB (aY X Nc P E C j s H) (.D ke ve) (⟨bt,aa,ac,0⟩::ab) P pos 0 D<|tb D)
  (l:autoParam (ZV (.DictComp ke ve (⟨bt,aa,ac,0⟩::ab) P pos) (U<|.Name x b) d.line X.env=W2 O) z6)
  (M:autoParam (∀x,V1 aa X.env x=W2 x) z9) (o7:autoParam (ϯ X x) q8):
  PS X (.Assign [.Name x b] (.DictComp ke ve (⟨bt,aa,ac,0⟩::ab) P pos) d) (ie (oW (λD=>c8 D kb 0 []) cx b4 wi λD J=>dU J g tt<|tb D)<|fJ i):=by
 intro f s R H D I h;rw[exec_Assign_Name_used _ _ _ _ l];refine My<|W9<|My ?_;show U6 _ _ _ _ _ s
 refine My<|V8 (Yd Z M (S.clo I.ok) S.kind S.loc
  (V8 (F f s R H _ I h) (λv s1 Q=>V8 Q (λW f5 n=>?_) λ_ _ e=>e) λ_ _ e=>e)) (λ_ s' c=>UF<|UF c) λ_ _ e=>e
 obtain⟨it,j,tn,J,H2,e,o,T,p,f2,q⟩:=n;subst e;refine jI rV B S L o T p f2 q λA C s' V m I' ns r q'=>?_;refine wpAny_assign_Name<|oY I' y k K (v:= .ref A) Z (λf5 o n=>?_) o7;obtain⟨a,sb,ha⟩:=n;have t:C≠a:=by
  obtain rfl|ha:=ha
  .exact r.2.1
  .exact λz=>r.2.2.2.1 x a ha z.symm
 exact⟨m,ns.sameBut sb t,λh' u=>⟨_,V,o.letgo r u,q'⟩⟩
theorem HV(j:X.N.Nodup)(d:X.N[i]?=U x)(G:Iv X.env.scope x)(k:X.calm=O)(S:cy X P Nc cx b4)(l:PI X bt aa<|iV X.K u E)
  (m:∀(w:ϝ) (C:UM) (f:ϗ) (s:UW) (H:Hp),PG (aY X Nc P w C f s H) bt g/\e8 (aY X Nc P w C f s H) ac (io X.K v E0)/\∀D,PB (aY X Nc P w C f s H) (.D ke ve) (⟨bt,aa,ac,0⟩::ab) P pos 0 D<|tb D)
  (n:dz X.K g t) (o:eY t) (p:∀D,gl X.K (RD X.K kb) D (tb D) b)
  (e:autoParam (ZV (.DictComp ke ve (⟨bt,aa,ac,0⟩::ab) P pos) (U<|.Name x a) c.line X.env=W2 O) z6)
  (M:autoParam (∀x,V1 aa X.env x=W2 x) z9) (q:autoParam (ϯ X x) q8):
  PS X (.Assign [.Name x a] (.DictComp ke ve (⟨bt,aa,ac,0⟩::ab) P pos) c) (tG X.K X.H₀ (dB i<|jG (ϱ cx) b4 u t v b<|oy kb) E):=
 aJ ((OF j d G k S l m e M q).imp λD r H h=>zh n o p h)
end
end L2.Pu
namespace L2.Hs
section
variable{X:Cx}
def QE(K:Vb)(g:Bool):R2:=λx y H Q=>∃a b D w k c,x= .ref c/\y= .ref a/\H a=U (c8 a b D w)/\(∀x∈w,y_ K H b x.1 x.2.1)/\y_ K H b k c/\Q (.bl<|cond g (o0 w k).isSome (o0 w k).isNone) H
theorem u7(g)(j:X.A.units+2<Zp):g8 X (We<|cond g .In .NotIn) (QE X.K g):=by
 intro c s B H x y v u Q I l m h;obtain⟨d,b,M,D,k,a,rfl,rfl,n,o,t,q⟩:=h;cases l;cases m;obtain⟨E,w,p,_,G⟩:=lh I n o;have f:=mx (k:=k) p;cases g
 all_goals
  apply My;unfold contains
  try with_reducible apply Wf
  refine My<|XD w.typeIs slot_dict_contains.lookup ?_;refine My (wpAny_callSpecialUnlessNone?_slot w.typeIs slot_dict_contains
   (VD slot_dict_contains w.typeIs entry_dict_contains ?_<|args_dict_contains _ _))
  show U6 _ _ (dictGet d _>>=_) _ _ s;refine My<|wpAny_dictGet_heap (m4 j) (n5 I t) w ?_;cases i:atKey E k with
  |some r=>
   rw[i]at f;cases e:o0 D k with
   |none=>rw[e]at f;exact f.elim
   |some z=>
    rw[e]at q
    exact UF ⟨_,Z,Wl<|UF ⟨.bl _,H,I.tok _,Z,q⟩⟩
  |none=>
   rw[i]at f;cases e:o0 D k with
   |some z=>rw[e]at f;exact f.elim
   |none=>
    rw[e]at q;exact My<|wpAny_pendingKey_other G<|UF ⟨_,Z,Wl<|UF ⟨.bl _,H,I.tok _,Z,q⟩⟩
end
end L2.Hs
namespace L2.Pu
open L2.Hs
section
variable{K:Vb}
def EC(g:Bool):D->D->ϓ
 |y,.dct b ks vs=>(eF b y).map λk=> .bl<|cond g (lg ks vs k).isSome (lg ks vs k).isNone
 |_,_=>Y
theorem NN:bz K (QE K g) (EC g):=λF H P Q E S d v1 v2 fr i h e k=>by
 unfold EC at e;split at e
 .rename_i b ks vs
  cases q:eF b E with
  |none=>rw[q]at e;cases e
  |some f=>
   rw[q]at e;cases e;obtain⟨j,rfl⟩:=n6 q;obtain⟨c,rfl,l⟩:=ud j i;obtain⟨a,G,w,rfl,m,rfl,n,o⟩:=h;refine⟨a,b,G,w,f,c,Z,Z,m.2,λx M=>(n x M).s,l.s,?_⟩;have:=ua (k:=f) o
   dsimp only at k
   cases D:lg _ vs f with
   |none=>
    rw[D]at this k;have t:=this;rw[t];exact k _ H (To.refl fr) Z
   |some z=>
    rw[D]at this k;obtain⟨u,t,_⟩:=this;rw[t];exact k _ H (To.refl fr) Z
 .cases e
end
end L2.Pu
namespace L2.Pu
section
variable{X:Cx}{E:ϔ}{K:Vb}{f:VQ}{a:Hp}{B:Ow}{g:Ϫ}{H h:Hp}{d:Ds}{e b:Bg}{c:St}
end
end L2.Pu
namespace L2.Pu
open PySem.SeqAt
open PySem.AutoSeq1 (wpAny_loadPart')
open PySem.MeetsSeq PySem.MeetsSeq2 PySem.MeetsSeq3
end L2.Pu
namespace L2.Hs
section
variable{X:Cx}
def Qc(b:Bool):TE:=λ_ H Q=>∀D,H D=Y->Q (.ref D) (upd H D<|c8 D b 0 [])
theorem kX{pos}:PE X (.Dict [] [] pos) (Qc b):=by
 intro a s c H Q I h;refine My<|W9 ?_;exact rV a s c H _ _ I λe d _=>⟨.ref _,_,d,Z,h _<|I.hok.fresh<|UV _⟩
def E_(xs:ϩ)(k:d5)(c:UM)(v:V):ϩ:=if(o0 xs k).isSome then xs.map (λx=>if x.1=k then(x.1,x.2.1,v)else x)else xs++[(k,c,v)]
theorem GG(h:∀x y,XY x y->XY (f x) (g y)):∀{w:ϩ} {D:a0C},Z9 XY w D->Z9 XY (w.map f) (D.map g)
 |_,_,.nil=> .nil
 |_,_,.cons a t=> .cons (h _ _ a)<|GG h t
theorem Lg(p:Z9 XY b d)(r:bf v u):Z9 XY (E_ b k c v) (storedH d k c u):=by
 have f:=mx (k:=k) p;unfold E_;cases e:atKey d k with
 |none=>
  rw[e]at f;cases q:o0 b k with
  |some w=>rw[q]at f;exact f.elim
  |none=>
   rw[storedH_new e];exact uG ⟨Z,Z,r⟩ p
 |some w=>
  rw[e]at f;cases q:o0 b k with
  |none=>rw[q]at f;exact f.elim
  |some a=>
   rw[storedH_old e];refine GG (λx y h=>?_) p;unfold putAt;rw[<-h.1];by_cases z:x.1=k
   .rw[US z,US z];exact⟨Z,h.2.1,r⟩
   .rw[UU z,UU z];exact h
theorem Om(w)(k)(c)(v):ϱ (E_ w k c v)<=ϱ w+1:=by
 unfold E_;split
 .rw[UD];lia
 .simp
def Np(K:Vb):V->V->V->Hp->(Hp->Prop)->Prop:=λo i v H Q=>∃a b D w k c,o= .ref a/\i= .ref c/\H a=U (c8 a b D w)/\(∀x∈w,y_ K H b x.1 x.2.1)/\y_ K H b k c/\w.length<Ve/\∀d,Q<|upd H a<|c8 a b d<|E_ w k c v
theorem gZ(r:X.A.units+2<Zp):M3 X (Np X.K):=by
 intro j s W H o i v o8 f5 u Q I t y B h;obtain⟨a,b,M,D,k,c,rfl,rfl,l,C,F,P,q⟩:=h;cases t;cases y;obtain⟨S,J,p,L,f⟩:=lh I l C;refine wpAny_setItem_heap (m4 r) (n5 I F) J (λV E N=>?_) L;have w:=Lg (k:=k) (c:=c) p B;obtain⟨o,G,g,m,o9,R,T,x,o7⟩:=E;have d:=VR ZJ<|mw w;rw[UD,UD]at d;have:=Om D k c v;exact⟨_,I.write (by rw[l];trivial) (.inl Z) (λb u n e=>(N.2 b n).trans e) ⟨o,m⟩<|vq ⟨o,G,_,m,o9,R,by rw[T];unfold entryOfKey;rw[vh],o7,f,ln,w⟩,q g⟩
end
end L2.Hs
namespace L2.Pu
open L2.Hs
def F0(w:Ϯ)(k:d5):Ϯ:=if k∈w then w else w++[k]
def stY(w:Ϯ)(E:ϋ)(k:d5)(d:D):ϋ:=if k∈w then(w.zip E).map (λp=>if p.1=k then d else p.2)else E++[d]
section
variable{K:Vb}{F:Fx}{H:Hp}
theorem u9:∀{xs:ϩ},(o0 xs k).isSome=decide (k∈xs.map (·.1))
 |[]=>by simp[o0]
 |x::xs=>by
  have w:=u9 (k:=k) (xs:=xs);unfold o0 at w⊢;rw[W8];by_cases q:x.1=k
  .simp[q]
  .rw[Vv q]
   rw[w];exact decide_eq_decide.mpr (by rw[UZ,U4];exact⟨.inr,λz=>z.resolve_left λy=>q y.symm⟩)
theorem Lz{w}:(E_ w k c v).map (·.1)=F0 (w.map (·.1)) k:=by
 unfold E_ F0;rw[u9];by_cases q:k∈w.map (·.1)
 .rw[US<|U3 q,US q,UR]
  refine Vr λx _=>?_;show(if x.1=k then(x.1,x.2.1,v)else x).1=x.1;split<;>rfl
 .rw[UU (λz=>q<|WP z),UU q,Vj];rfl
theorem On{xs}(D:bi K F H d v)(h:a_ K F H f<|xs.map (·.2.2)):a_ K F H (stY (xs.map (·.1)) f k d) ((E_ xs k c v).map (·.2.2)):=by
 unfold E_ stY;rw[u9];by_cases q:k∈xs.map (·.1)
 .rw[US<|U3 q,US q]
  clear q
  induction xs generalizing f with
  |nil=>exact a_.nil
  |cons x xs E=>
   cases f with
   |nil=>cases h
   |cons w f=>
    obtain⟨u,r,e,a,b⟩:=h;rw[UZ,X9]at e;obtain⟨rfl,rfl⟩:=e;refine a_.cons ?_<|E b;show bi K F H (if x.1=k then d else w) (if x.1=k then(x.1,x.2.1,v)else x).2.2;by_cases z:x.1=k
    .rw[US z,US z];exact D
    .rw[UU z,UU z];exact a
 .rw[UU (λz=>q<|WP z),UU q,Vj]
  exact a_.append h<|a_.cons D a_.nil
theorem Qh(a:∀x∈e,gE K F H b x.1 x.2.1)(d:gE K F H b k c):∀x∈E_ e k c v,gE K F H b x.1 x.2.1:=λx w=>by
 unfold E_ at w;split at w
 .obtain⟨y,hy,rfl⟩:=UL.mp w
  split
  .exact a y hy
  .exact a y hy
 .obtain h|h:=V7.mp w
  .exact a x h
  .cases Vs.mp h
   exact d
variable{X:Cx}{E:ϔ}{z:VQ}
def Sg(i:Nat)(b:Bool):G:=λw z=>U (.nx<|w.set i<|U<|.odc b [] [],z)
theorem wV{b}(h:PS X z<|ie (Qc b)<|fJ i):PS X z (tG X.K X.H₀ (Sg i b) E):=h.imp λD j H c=>by
 obtain⟨B,F,G,M,o,d,ok,e,q⟩:=c;cases e;intro p f;obtain⟨k,a,g⟩:=ok.newAt (sl:= .odc b [] []) f (.inr ⟨_,ay⟩) λe _=>⟨p,Z,e,0,[],ay,Z,(λx w=>by cases w),a_.nil⟩;exact q _ _ _ g a
def qN(i:Nat)(fk a:FD):G:=λw z=>match a (fy w) z with
 |some (.ok d,β1)=>match fk (fy w) β1 with
  |some (.ok kd,β2)=>match w.getD i Y with
   |some (.odc b ks vs)=>match eF b kd with
    |some k=>if(noL d&&decide (ks.length<Ve))=O then U (.nx<|w.set i<|U<|.odc b (F0 ks k)<|stY ks vs k d,β2)else Y
    |none=>Y
   |_=>Y
  |_=>Y
 |some (.error C,β1)=>U (.ex C w,β1)
 |none=>Y
theorem mS(h:PS X z<|ie (tV X.K L E)<|MI (iR i) (tV X.K fk E)<|Np X.K):PS X z (tG X.K X.H₀ (qN i fk L) E):=h.imp λD σ H R=>by
 obtain⟨B,M,P,S,o,T,ok,e,q⟩:=R;refine⟨ra B M,fy P,S,ok.frA,ok.viewA,?_⟩;unfold qN at e;split at e
 .rename_i d β1 p
  refine⟨.ok d,_,p,λv H1 t V=>?_⟩;obtain⟨g,u⟩:=ok.to Z t;split at e
  .rename_i kd β2 W
   split at e
   .rename_i b ks vs N
    split at e
    .rename_i k I
     split at e
     .rename_i hn
      cases e;rw[Vu,Vx]at hn;obtain⟨w,r,a,rfl,hB,h2⟩:=g.tell i _<|getD_some N;refine⟨_,r,ra B M,fy P,β1,g.frA,g.viewA,.ok kd,_,W,λkv H2 f y=>?_⟩;obtain⟨j,n⟩:=g.to Z f;obtain⟨_,l,a',e',aa,ep,F,hD,A,f5,dl⟩:=j.tell i _<|getD_some N;rw[r]at l;cases l;cases e';obtain⟨hz,rfl⟩:=n6 I;have nk:noL (dK b k)=O:=by
       cases b with
       |true=>show(O&&(noLs _&&O))=O;rw[ia];rfl
       |false=>exact ia _
      obtain⟨c,rfl,Q⟩:=ud hz<|j.noB nk y;subst A;refine⟨a,b,ep,F,k,c,Z,Z,hD,λx G=>(f5 x G).s,Q.s,by rw[<-UD];exact hn.2,λm=>?_⟩;obtain⟨J,s3⟩:=j.writeAt (sl:= .odc b _<|stY _ vs k d) r hB (.inr ⟨_,ay⟩) λt=>⟨a,Z,hB,m,_,ay,Lz.symm,Qh (λx G=>(f5 x G).tr t)<|Q.tr t,On (bi.tr t _ _ (bi.tr n.tr _ _<|g.noB hn.1 V))<|a_.tr t _ _ dl⟩;exact q _ B _ ((u.trans n).trans s3) J
     .cases e
    .cases e
   .cases e
  .cases e
 .rename_i C β1 p
  cases e;refine⟨.error C,_,p,λH' t=>?_⟩;obtain⟨j,n⟩:=ok.to Z t;exact q _ B H' n j
 .cases e
def Qm:D->ϛ->ϛ->ϓ
 | .tup xs,lo,hi=>if HT.sIx xs.length 0 lo=0/\HT.sIx xs.length xs.length hi=xs.length then Y else U (.tup<|eX xs lo hi)
 |_,_,_=>Y
def fSlT(f:FD)(z a:a0S):FD:=λw=>M.bind (f w) λd=>M.bind (iH z w) λl=>M.bind (iH a w) λh=>M.ofO<|Qm d l h
theorem Lm{X}{E}{pos}{G u}{fl y}(I:PE X e<|tV X.K f E)(J:qi X G fl E)(L:qi X u y E):PE X (.Subscript e (.Slice G u Y p2) pos) (tV X.K (fSlT f fl y) E):=
 (nQ HK I J L).imp λT H Q i=>k4 i λF w M fr j r=>⟨F,w,M,fr,j,(run.bind r).mono λv R q=>by obtain⟨d,z,t,P,S⟩:=q;exact 
  ⟨F,w,z,t.fr,j.tr<|t.tr fr,(run.bind S).mono λl W v=>by obtain⟨f5,D,g,m,N⟩:=v;exact 
   ⟨F,w,D,g.fr,j.tr<|(t.tr fr).trans<|g.tr t.fr,(run.bind N).mono λh b i=>by
    obtain⟨h',V,n,o,o7⟩:=i;subst m o;obtain⟨c,e,k⟩:=run.ofO o7;unfold Qm at e;split at e
    .split at e
     .cases e
     .rename_i A
      cases e;obtain⟨a,s,rfl,x,B⟩:=bi.sqT (bi.tr ((g.tr t.fr).trans<|n.tr g.fr) _ _ P);rw[B.length]at A;exact⟨a,s,Z,x,A,λp C=>k _ _ (n.fr.upd _ C)<|bi.newT n.fr C<|B.cut l h⟩
    .cases e⟩⟩⟩
def xO:ϋ->ϓ
 |[.dct UK ks _]=>if ks.length<64 then ig (ks.map λk=>iv k.2)else Y
 |_=>Y
theorem JY:dA K (rP K) xO:=λF H P Q S d V fr h e k=>by
 unfold xO at e;split at e
 .rename_i ks t
  obtain⟨v,rfl,f⟩:=a_.one h;unfold bi at f;obtain⟨a,M,E,rfl,j,rfl,g,u⟩:=f;split at e
  .rename_i hn
   rw[UD]at hn;obtain⟨i,s,rfl⟩:=lH e;have G:∀x∈E,x.1.2∈i:=λx w=>by
    obtain⟨l,b,e⟩:=s.2.2.2 _<|UL.mpr ⟨x.1,UL.mpr ⟨x,w,Z⟩,Z⟩;rw[gm e];exact b
   refine⟨a,UK,M,E,Z,j.2,λx w=>⟨(g x w).s,(s.2.2.1 _<|G x w).1⟩,hn,λl m b c n=>?_⟩;have o:=qq s.1 n λy=>by
    refine⟨λD=>?_,λD=>?_⟩
    .obtain⟨q,p,e⟩:=UL.mp (s.2.2.1 y D).2
     obtain⟨x,w,rfl⟩:=UL.mp p;apply(c.map _).mem_iff.mpr;rw[UR];exact UL.mpr ⟨x,w,gm e⟩
    .have:=(c.map _).mem_iff.mp D
     rw[UR]at this;obtain⟨x,w,rfl⟩:=UL.mp this;exact G x w
   rw[o]at k;refine k _ _ (fr.upd _ b)<|bi.newL fr b<|p7 λz r=>?_;obtain⟨x,w,rfl⟩:=UL.mp<|c.mem_iff.mp r;exact EA<|g x w
  .cases e
 .cases e
end
end L2.Pu
namespace L2.Pu
section
variable{X:Cx}
end
end L2.Pu
namespace L2.Pu
open L2.Hs
section
variable{X:Cx}{E:ϔ}{K:Vb}{w:Expr}
def Uk(a:TA):TI:=λb H R=>a b H λw c=>∃j:Int,w=[.int j,.int<|-1,.int<|-1]/\-1<=j/\j<2^62/\R (Itd (j+1).toNat) c
theorem IT{p pos:Ye}(n:Gl X tj)(D:X.mg tj=Y)(E:PA X [a,b,c] x)(G:autoParam (U8 [a,b,c] X.env=[(UK,Wa a X.env),(UK,Wa b X.env),(UK,Wa c X.env)]) z6)(f:autoParam (U8 [b,c] X.env=[(UK,Wa b X.env),(UK,Wa c X.env)]) z6):
  PI X w (.Call (.Name tj p) [a,b,c] [] pos) (Uk x):=by
 refine λd s l H R I h=>Call_ (gN I n D boot_range<|Wq (dv (E _ d s l H _ I h) λP i u=>?_) (by rw[G,f])<|by rw[f];rfl);obtain⟨S,m,v,K,j,rfl,V,M,q⟩:=u;cases K with
 |cons r g=>cases g with
  |cons y g=>cases g with
   |cons A g=>
    cases g;obtain⟨t,rfl⟩:=r;obtain⟨t',rfl⟩:=y;obtain⟨B,rfl⟩:=A;refine call_range_3 rb<|wpAny_pyIter_range (IsRange.new ..) (PySem.W.small_down ln M rb rb) ?_;have k:b5 X d l m {i with heap:=i.heap.push {cls:= .type tj,data:= .fields #[.int j t,.int (-1) t',.int (-1) B]}}:=v.kept λb o e=>UH _ e;refine⟨_,[_],_,_,m,Z,k.kept λb o e=>UH _ e,qX _ _,?_,λb C=>?_,q⟩
    .show IsRangeIter _ _ _ _ _
     have F:(((j+1).toNat:Nat):Int)-1+((0:Nat):Int)*-1=j:=by lia
     have J:(((j+1).toNat:Nat):Int)-((0:Nat):Int)=ZO j (-1) (-1):=by
      rw[PySem.W.rangeSize_downNat];lia
     rw[F,J];exact U7 _ Z
    .cases Vs.mp C
     exact k.fpOk (UV _)<|k.hok.fresh<|UV _
def Qy:ϋ->Ϧ
 |[.int j,.int (-1),.int (-1)]=>if(decide (-1<=j)&&decide (j<2^62))=O then U (eJ (j+1).toNat)else Y
 |_=>Y
theorem MD{p pos:Ye}(j:Gl X "range")(D:X.mg "range"=Y)(G:PA X [a,b,c]<|ix X.K g E)(M:autoParam (U8 [a,b,c] X.env=[(UK,Wa a X.env),(UK,Wa b X.env),(UK,Wa c X.env)]) z6)(d:autoParam (U8 [b,c] X.env=[(UK,Wa b X.env),(UK,Wa c X.env)]) z6):PI X w (.Call (.Name "range" p) [a,b,c] [] pos) (iV X.K (dm Qy g) E):=
 (IT j D G M d).imp λA H R f=>k4 f λF P S fr m h=>⟨F,P,S,fr,m,(run.bind (R:=a_ X.K F) h).mono λz n f=>by
  obtain⟨B,V,t,s,x⟩:=f;obtain⟨l,e,k⟩:=run.ofO x;unfold Qy at e;split at e
  .split at e
   .rename_i i
    cases e;simp only[Vu,Vx]at i;obtain⟨v,r,rfl,o,q⟩:=s;obtain⟨v2,v3,rfl,u,y⟩:=a_.two q;cases o.int;cases u.int;cases y.int;exact⟨_,Z,i.1,i.2,k _ n (To.refl t.fr) uh⟩
   .cases e
  .cases e⟩
end
end L2.Pu
namespace L2.Pu
section
variable{P:Vw}{w:VC}{K:Vb}{v:ϙ}{q:V0}
variable{X:Cx}{E:ϔ}{o e c:Expr}{s:List Expr}{pos l:Ye}{m:VF}{k n:Nat}{f C:UM}{u:U9}{q:ϒ}{a r:a0T}{t:Ϥ}{g h:FL}
def R9(i j:Nat):Ds->M ϋ:=λa=>match a.getD i Y,a.getD j Y with
 |some (.own ds),U (.sh d)=>M.ofO<|(f0 (.lst ds) d).bind d9
 |_,_=>M.fail
theorem Qs{g}(l:oC X.K z Q)(h:PS X (.For T x body [] pos)<|DC (R8 X.K<|tOp (uU X.K) (iR i)<|iR j) z<|tG X.K X.H₀ g E):PS X (.For T x body [] pos) (tG X.K X.H₀ (qM (R9 i j) Q g) E):=HX (λ{B C H M P N R} f r=>by
 unfold R9 at r;split at r
 .rename_i ds d b p
  obtain⟨s,e,k⟩:=run.ofO r;obtain⟨v,u,a,D,rfl,_,y,A⟩:=f.tell i _<|getD_some b;obtain⟨w,F,I⟩:=f.tell j _<|getD_some p;cases d<;>first|cases e|skip
  rename_i n;cases(show bi X.K (ee B C) H _ w from I).int;cases q:l6 ds n with
  |none=>rw[show f0 _ _=l6 ds n from Z,q]at e;cases e
  |some c=>
   rw[show f0 _ _=l6 ds n from Z,q]at e;obtain⟨v,J,m⟩:=uB A q;refine⟨_,u,_,F,a,D,n,v,Z,Z,e_.of y,J,?_⟩;cases c<;>first
    |(cases e;obtain⟨a,o,rfl,t,L⟩:=bi.sqL m;exact .inl ⟨a,Z,⟨o,t⟩,k _ H (To.refl f.fr) (yS m)⟩)
    |(cases e;obtain⟨a,o,rfl,t,L⟩:=bi.sqT m;exact .inr ⟨a,Z,⟨o,t⟩,k _ H (To.refl f.fr) (BF m)⟩)
    |cases e
 .obtain⟨_,_,e,_⟩:=r
  cases e) l h
variable{c:VQ}
def th(i:Nat)(a:Ds):Ds:=match a.getD i Y with
 |some (.grd ai)=>a.set i<|U<|.own<|ai.map D.lst
 |_=>a
def thG(i:Nat)(g:G):G:=λa c=>g (th i a) c
theorem fh.thaw(i)(e:fh K H₀ B x H I J L):∃b,fh K H₀ b x H (th i I) J L/\hL B H b H:=by
 unfold th;split
 .rename_i ai j
  obtain⟨v,l,a,f,p,q,u,g,d⟩:=e.tell i _<|getD_some j;exact e.letGo _ (λc z=>(d.all c z).1) l λy A h=>⟨a,f.map _,p,(A a (V2.mp g).1).trans q,u,bG.den h d λr F _ z=>z<|y r F⟩
 .exact⟨B,e,hL.refl B H⟩
theorem Qp{g}(i)(h:PSs X r<|tG X.K X.H₀ g E):PSs X r (tG X.K X.H₀ (thG i g) E):=h.imp λD p H j=>by
 obtain⟨B,a,c,f,o,b,ok,e,q⟩:=j;obtain⟨l,d,s⟩:=ok.thaw i;exact⟨l,a,th i c,f,o,b,d,e,iO.pre s q⟩
def xo(i:Nat)(f:FL):G:=λa c=>match a.getD i Y with
 |some (.own cs)=>match f (vw a) c with
  |some (.ok [.int k],β1)=>match ko cs.length k with
   |some j=>if cs.length<=Ve then U (.nx<|a.set i<|U<|.own<|cs.eraseIdx j,β1)else Y
   |none=>Y
  |_=>Y
 |_=>Y
theorem Qr{f}(h:PS X c<|sP<|tBM X.K lQ II (iR i)<|ix X.K f E):PS X c (tG X.K X.H₀ (xo i f) E):=h.imp λD x H J=>by
 obtain⟨B,g,m,n,o,L,ok,e,q⟩:=J;unfold xo at e;split at e
 case h_2=>cases e
 rename_i s I;split at e
 case h_2=>cases e
 rename_i k C N;split at e
 case h_2=>cases e
 rename_i j o9;split at e
 case isFalse=>cases e
 rename_i z;cases e;obtain⟨v,y,a,G,rfl,Q,R,e4⟩:=ok.tell i _<|getD_some I;refine⟨_,y,.inl ⟨Z,G,e_.of R⟩,ee B g,vw m,n,ok.fr,ok.view,⟨.ok [.int k],_,N,λvs H' t M=>?_⟩⟩;obtain⟨d,T⟩:=ok.to Z t;obtain⟨u,rfl,o7⟩:=a_.one M;cases o7;obtain⟨v',l,a',p,A,W,r,b⟩:=d.tell i _<|getD_some I;rw[y]at l;cases l;cases A;obtain⟨o8,f5,z3,z4⟩:=vi o9;obtain⟨w,P,dw⟩:=b.get<|UJ f5;have hn:=m3;refine⟨a,p,k,j,w,Z,Z,r,ln,ln,by rw[<-b.length];exact o8,P,?_⟩;obtain⟨F,V⟩:=d.writeOwn y Q r<|a_.erase j b;exact q _ _ _ (T.trans V) F
def xp(i j:Nat):G:=λa c=>match a.getD i Y,a.getD j Y with
 |some (.own cs),U (.sh (.int k))=>match l6 cs k with
  |some d=>if cs.length<Ve then U (.nx<|a.set i<|U<|.own<|cs++[d],c)else Y
  |none=>Y
 |_,_=>Y
theorem Qt(h:PS X c<|sP<|tBM X.K lQ uW (iR i)<|DD (tOp (uU X.K) (iR i)<|iR j) DA):PS X c (tG X.K X.H₀ (xp i j) E):=h.imp λD W H y=>by
 obtain⟨B,g,s,t,o,A,ok,e,q⟩:=y;unfold xp at e;split at e
 case h_2=>cases e
 rename_i m k F I;split at e
 case h_2=>cases e
 rename_i d J;split at e
 case isFalse=>cases e
 rename_i L;cases e;obtain⟨v,l,a,f,rfl,N,b,p⟩:=ok.tell i _<|getD_some F;obtain⟨u,f5,n⟩:=ok.tell j _<|getD_some I;cases(show bi X.K (ee B g) H _ u from n).int;obtain⟨w,Q,R⟩:=uB p J;refine⟨_,l,.inl ⟨Z,f,e_.of b⟩,_,l,_,f5,a,f,k,w,Z,Z,e_.of b,Q,a,f,w,Z,Z,b,by rw[<-p.length];exact L,?_⟩;obtain⟨r,T⟩:=ok.writeOwn l N b<|a_.append p<|a_.cons R a_.nil;exact q _ _ _ T r
end
end L2.Pu
namespace L2.Pu
open L2.Hs
def SrP(w D:Ϯ):Prop:=Up (w.map<|kl O)/\D.length<64/\∀k,k∈w↔k∈D
theorem yN:∀{w a:Ϯ},w.map (kl O)=a.map (kl O)->w=a
 |[],[],_=>rfl
 |[],_::_,h=>by cases h
 |_::_,[],h=>by cases h
 |x::w,y::a,h=>by
  obtain⟨b,c⟩:=YH h;rw[yN c,show x=y from Xu (YH b).1 (YH b).2]
theorem yM{w:Ϯ}:kl O k∈w.map (kl O)↔k∈w:=⟨λh=>by
 obtain⟨y,D,e⟩:=UL.mp h;simp_all,λh=>UL.mpr ⟨k,h,Z⟩⟩
theorem SrP.eq{D c E}(a:SrP D E)(b:SrP c E):D=c:=yN<|qq a.1 b.1 λx=>⟨λh=>by
 obtain⟨y,w,rfl⟩:=UL.mp h;exact yM.mpr<|(b.2.2 y).mpr<|(a.2.2 y).mp w,λh=>by
 obtain⟨y,w,rfl⟩:=UL.mp h;exact yM.mpr<|(a.2.2 y).mpr<|(b.2.2 y).mp w⟩
open Classical in
def sS:ϋ->ϓ
 |[.dct O ks _]=>if h:∃a,SrP a ks then U (.lst<|h.choose.map<|dK O)else Y
 |_=>Y
theorem xN{w a}(h:SrP a w):sS [.dct O w b]=U (.lst<|a.map<|dK O):=by
 have q:∃a,SrP a w:=⟨a,h⟩;unfold sS;simp only[dif_pos q];rw[q.choose_spec.eq h]
theorem wq{K}{f:w->D}{g:w->UM}:∀{a:List w},(∀z∈a,bi K F H (f z)<|.ref<|g z)->a_ K F H (a.map f) (a.map λz=>V.ref<|g z):=@List.rec _ _ (@λ_=>a_.nil) (λz a v=>@λh=>a_.cons (h z UP)<|v λx E=>h x<|UI z E)
theorem wc{K}:dA K (rP K) sS:=λF H G Q M d P fr h e k=>by
 unfold sS at e;split at e
 .rename_i ks u
  split at e
  .rename_i q
   cases e;have s:=q.choose_spec;generalize q.choose=ls at s k;obtain⟨v,rfl,g⟩:=a_.one h;obtain⟨a,E,D,rfl,o,rfl,i,A⟩:=g;refine⟨a,O,E,D,Z,o.2,λx w=>⟨(i x w).s,ZD<|VL _⟩,by have:=s.2.1;simp_all,λl j m n p=>?_⟩;have c:∀z∈j,∃x∈D,z=kA O x:=λz b=>by
    obtain⟨x,w,e⟩:=UL.mp<|n.mem_iff.mp b;exact⟨x,w,e.symm⟩
   have r:ls=j.map λz=>(z.1.headD 0,z.1.tail):=yN (by
    rw[UR];refine(qq s.1 p λy=>?_).trans<|Vr λz b=>?_
    .constructor
     .intro hy
      obtain⟨t,f,rfl⟩:=UL.mp hy;obtain⟨x,w,rfl⟩:=UL.mp<|(s.2.2 t).mp f;exact UL.mpr ⟨kA O x,n.mem_iff.mpr<|UL.mpr ⟨x,w,Z⟩,Z⟩
     .intro hy
      obtain⟨z,b,rfl⟩:=UL.mp hy;obtain⟨x,w,rfl⟩:=c z b;exact yM.mpr<|(s.2.2 _).mpr<|UL.mpr ⟨x,w,Z⟩
    .obtain⟨x,w,rfl⟩:=c z b
     rfl)
   rw[r,UR]at k;refine k _ _ (fr.upd _ m)<|bi.newL fr m<|wq λz b=>?_;obtain⟨x,w,rfl⟩:=c z b;exact EA<|i x w
  .cases e
 .cases e
end L2.Pu
namespace HT
open PySem.SeqAt
open PySem.AutoSeq1 (wpAny_loadPart')
open PySem.MeetsSeq PySem.MeetsSeq2 PySem.MeetsSeq3
section
variable{j:Vw}{w:VC}{A:V3}{E:ϕ}{s:UW}
theorem getItem_tuple_all{D:ϫ}{G b:ϛ}(a:IsTup s.heap t D)(K:s.heap.IsSliceOf k vl vu .none)(M:IsPart vl G)(g:IsPart vu b)
  (f:sIx D.size 0 G=0/\sIx D.size D.size b=D.size) (h:Q (.ref t) s):U6 (Vq j w) A (getItem (.ref t)<|.ref k) Q E s:=by
 obtain⟨P,c,d,i⟩:=id K;unfold getItem
 try with_reducible apply Wf
 refine My<|wpAny_sequenceKey a.typeIs rb ?_;refine My (wpAny_callSpecial?_slot a.typeIs WE
  (VD WE a.typeIs entry_tuple_getitem ?_<|args_tuple_getitem _ _))
 show U6 _ _ (Zq _>>=_) _ _ s;refine My<|tupleItemsOf_ a<|My<|ZI (⟨P,c,d⟩) ?_;refine My<|kF K M g ?_;show U6 _ _ (if(((sIx _ 0 G:Nat):Int)==0&&(1:Int)==1&&(sIx _ _ b-sIx _ 0 G)==D.size)=O then _ else _) _ _ s;rw[US<|by rw[f.1,f.2];simp];apply My;refine My<|ZI a.typeIs<|UF ?_;exact My<|XV<|UF ⟨_,Z,UF h⟩
end
end HT
namespace L2
section
variable{X:Cx}
def rSlA(K:Vb):V->ϛ->ϛ->Hp->VK->Prop:=λx D b H Q=>∃a w,x= .ref a/\hW K H a w/\
 (HT.sIx w.length 0 D=0/\HT.sIx w.length w.length b=w.length->Q (.ref a) H)/\(¬(HT.sIx w.length 0 D=0/\HT.sIx w.length w.length b=w.length)->∀p,H p=Y->Q (.ref p) (upd H p<|.tup<|lq w D b))
theorem Os:SlR X (rSlA X.K):=by
 intro b s j H x v k l E e S Q I f G M g h;obtain⟨a,w,rfl,P,V,n⟩:=h;by_cases d:HT.sIx (ϱ w) 0 E=0/\HT.sIx (ϱ w) (ϱ w) e=ϱ w
 .cases f
  obtain⟨D,r,i,m⟩:=I.tuple P;have c:D.toArray.size=ϱ w:=by exact r.length.symm
  exact⟨lP,_,WE.lookup,i.typeIs,HT.getItem_tuple_all i G M g (by rw[c];exact d) ⟨.ref a,H,I,Z,V d⟩⟩
 .exact HK b s j H _ v k l E e S Q I f G M g ⟨a,w,Z,P,d,n d⟩
end
end L2
namespace L2.Pu
def DJ:D->ϛ->ϛ->ϓ
 | .tup xs,lo,hi=>U<|.tup<|eX xs lo hi
 |_,_,_=>Y
def zb(f:FD)(D a:a0S):FD:=λw=>M.bind (f w) λd=>M.bind (iH D w) λl=>M.bind (iH a w) λh=>M.ofO<|DJ d l h
theorem Py{D a}(h:HT.sIx (ϱ w) 0 D=0/\HT.sIx (ϱ w) (ϱ w) a=ϱ w):eX w D a=w:=by
 unfold eX;simp_all
theorem xD{X}{E}{pos}{M u}{fl y}(I:PE X e<|tV X.K f E)(J:qi X M fl E)(L:qi X u y E):PE X (.Subscript e (.Slice M u Y p2) pos) (tV X.K (zb f fl y) E):=
 (nQ Os I J L).imp λT H Q m=>k4 m λF w P fr n r=>⟨F,w,P,fr,n,(run.bind r).mono λv f5 b=>by obtain⟨d,D,t,S,V⟩:=b;exact 
  ⟨F,w,D,t.fr,n.tr<|t.tr fr,(run.bind V).mono λl W v=>by obtain⟨o7,G,i,o,N⟩:=v;exact 
   ⟨F,w,G,i.fr,n.tr<|(t.tr fr).trans<|i.tr t.fr,(run.bind N).mono λh R m=>by
    obtain⟨h',s,j,q,o8⟩:=m;subst o q;obtain⟨c,e,k⟩:=run.ofO o8;have g:=bi.tr ((i.tr t.fr).trans<|j.tr i.fr) _ _ S;unfold DJ at e;split at e
    .cases e
     obtain⟨a,x,rfl,z,A⟩:=bi.sqT g;refine⟨a,x,Z,z,λB=>k _ _ (To.refl j.fr) ?_,λ_ p C=>k _ _ (j.fr.upd _ C)<|bi.newT j.fr C<|A.cut l h⟩;rw[<-A.length]at B;rw[Py B];exact g
    .cases e⟩⟩⟩
section
variable{X:Cx}{E:ϔ}{E0:XK}{k:Nat}{f C:UM}{h:U9}{g:ϒ}{d:Sp}{j:O2}{b:ύ}{i:ό}
variable{K:Vb}{e:Expr}{p pos:Ye}
variable{o:Expr}{c:List Expr}{b:VQ}{a:Ye}{x m:VF}{n:Nat}
end
end L2.Pu
namespace L2.Hs
end L2.Hs
namespace L2.Pu
open L2.Hs
def EZ:ϋ->ϓ
 |[.bl k]=>U<|.int (if k then 1 else 0)
 |_=>Y
theorem Ko{K}:dA K (λw H Q=>(∃i,w=[.int i]/\Q (.int i) H)\/∃k,w=[.bl k]/\Q (.int (if k then 1 else 0)) H) EZ:=λF H D Q E d G fr h e k=>by
 unfold EZ at e;split at e
 .rename_i b
  cases e;obtain⟨v,rfl,a⟩:=a_.one h;cases(show v=V.bl b from a);exact .inr ⟨b,Z,k _ _ (To.refl fr) Z⟩
 .cases e
end L2.Pu
namespace Law
open L2 L2.Pu
open L2.Hs (yp gQ nU u7 kX gZ iJ)
noncomputable def cp(i:Nat):VQ:=PySem.Challenge.pw_edgetally_k32_ends_held.main.body.getD i<|.Pass ⟨0,0,0,0⟩
abbrev qt:VQ:=cp 96
set_option genSizeOf false in
set_option genInjectivity false in
structure Ad where
 Aa:UM
 Ab:UM
 Ac:U9
 Ae:UM
 Af:UM
 Ag:UM
 Ah:U9
 Ai:UM
 Aj:U9
 Ak:UM
 Al:U9
 Am:UM
 An:U9
 Ao:UM
 Aq:U9
 Ar:UM
 As:U9
 At:UM
 Au:U9
 Av:UM
 Aw:U9
 Ax:UM
 Ay:U9
 Az:UM
 A0:U9
 A1:UM
 A2:U9
 A3:UM
 A4:U9
 A5:UM
 A6:U9
 A7:UM
 A8:U9
 A9:UM
 Ba:U9
 Bb:UM
 Bc:U9
 Bd:UM
 Be:U9
 Bf:UM
 Bh:U9
 Bi:UM
 Bj:U9
 Bk:UM
 Bl:U9
 Bm:UM
 Bn:U9
 Bo:UM
 Bp:U9
 Bq:UM
 Br:U9
 Bs:UM
 Bt:U9
 Bu:UM
 Bv:U9
 Bw:UM
 Bx:U9
 By:UM
 Bz:U9
 B0:UM
 B5:U9
 B7:UM
 B8:U9
 Ca:UM
 Cb:U9
 Cc:UM
 Cd:U9
 Cf:UM
 Cg:U9
 Ch:UM
 Ci:U9
 Cj:UM
 Ck:U9
 Cl:UM
 Cm:U9
 Cn:UM
 Co:U9
 Cp:UM
 Cq:U9
 Cr:UM
 Cs:U9
 Ct:UM
 Cu:U9
 Cv:UM
 Cw:U9
 Cy:UM
 Cz:U9
 C0:UM
 C2:U9
 C3:UM
 C4:U9
 C5:UM
 C6:U9
 C7:UM
 C8:U9
 C9:UM
 Da:U9
 Db:UM
 Dc:U9
 Dd:UM
 Df:U9
 Dg:UM
 Dh:U9
 Di:UM
 Dj:U9
 Dl:UM
 Dm:U9
 Do:UM
 Dp:U9
 Dq:UM
 Dr:U9
 Dt:UM
 Du:U9
 Dv:UM
 Dw:U9
 Dx:UM
 Dy:U9
 Dz:UM
 D0:U9
 D3:UM
 D4:U9
 D5:UM
 D6:U9
 D7:UM
 D8:U9
 D9:UM
 Ea:U9
 Eb:UM
 Ec:U9
 Ed:UM
 Ee:U9
 Ef:UM
 Eg:U9
 Eh:UM
 Ei:U9
 Ej:UM
 Ek:U9
 El:UM
 Em:U9
 En:UM
 Eo:U9
 Ep:UM
 Er:U9
 Es:UM
 Et:U9
 Eu:UM
 Ev:U9
 Ew:UM
 Ex:U9
 Ey:UM
 Ez:U9
 E2:UM
 E3:U9
 E4:UM
 E5:U9
 E6:UM
 E7:U9
 E8:UM
 E9:U9
 Fa:UM
 Fb:U9
 Fc:UM
 Fd:U9
 Fe:UM
 Ff:U9
 Fg:UM
 Fh:U9
structure zi (K:Vb) (mg:ϙ) (a:Ad):Prop where
 Fi:mg kI=Y
 Fj:mg "abs"=Y
 Fk:mg "any"=Y
 Fl:mg L'=Y
 Fm:mg y'=Y
 Fn:mg O'=Y
 Fo:mg vW=Y
 Fp:mg "len"=Y
 Fq:mg lQ=Y
 Fs:mg "max"=Y
 Ft:mg "min"=Y
 Fu:mg tj=Y
 Fv:mg ph=Y
 Fw:mg AB=Y
 Fy:mg AA=Y
 Fz:mg "sum"=Y
 F4:mg lP=Y
 F5:mg U0=Y
 F6:jq K mg "BY_PLACE" (.tup [.str<|Vc G',.str<|Vc vS])
 F7:jq K mg "BY_PRODUCT" (.tup [.str<|Vc zT,.str<|Vc tq])
 F8:jq K mg "KINDS" (.tup [.str<|Vc zT,.str<|Vc HW,.str<|Vc tq,.str<|Vc "off",.str<|Vc G',.str<|Vc vS])
 F9:jq K mg "MOST" (.int 40)
 Ga:jq K mg "MOST_COLUMNS" (.int 6)
 Gb:jq K mg "MOST_ROWS" (.int 4)
 Gc:jq K mg "WIDE" (.int 500)
 Gd:gs K "free" "free" (cp 15) a.Ag a.Ah
 Ge:mg "free"=U (.ref a.Ag)
 Gf:cK K a.Ah [vT,tu,J'] [.tup [.int 0,.int 40]]
 Gg:eo K mg "check_sums" (cp 16) a.Ai a.Aj [i',fg]
 Gh:eo K mg "check_there" (cp 17) a.Ak a.Al [rh,tE]
 Gi:eo K mg "check_cell" (cp 18) a.Am a.An Δ
 Gj:eo K mg "check_pair" (cp 19) a.Ao a.Aq [J']
 Gk:eo K mg "settled_bounds" (cp 20) a.Ar a.As [jW,vT,tu]
 Gm:eo K mg "factorial" (cp 23) a.At a.Au [D']
 Gn:eo K mg tq (cp 24) a.Av a.Aw ["base",tE]
 Go:eo K mg "ways" (cp 25) a.Ax a.Ay ["parts"]
 Gp:eo K mg ο (cp 26) a.Az a.A0 [η,x9]
 Gq:eo K mg "fillings" (cp 27) a.A1 a.A2 [mK,tE,F']
 Gr:eo K mg "need_of" (cp 29) a.A3 a.A4 [i',ti]
 Gs:eo K mg "room_inside" (cp 30) a.A5 a.A6 [fg,jW,ti,oG]
 Gu:eo K mg "room_beside" (cp 31) a.A7 a.A8 [jW,ti,oG]
 Gv:eo K mg "room_of" (cp 32) a.A9 a.Ba [fg,jW,ti,"into"]
 Gx:eo K mg "narrowest" (cp 33) a.Bb a.Bc [fg,jW,ti]
 Gy:eo K mg "choices" (cp 34) a.Bd a.Be [tE]
 Gz:eo K mg "check_fit" (cp 35) a.Bf a.Bh Γ
 G0:eo K mg "check_wide" (cp 38) a.Bi a.Bj [i']
 G1:eo K mg U' (cp 39) a.Bk a.Bl Γ
 G2:eo K mg "column_fillings" (cp 40) a.Bm a.Bn [mK,fg,jW,oG]
 G3:eo K mg "rests_behind" (cp 41) a.Bo a.Bp [mK,mT]
 G4:eo K mg "nodes_by_level" (cp 42) a.Bq a.Br Γ
 G5:eo K mg "node_counts" (cp 43) a.Bs a.Bt [mK,"filled",M']
 G6:eo K mg "counted_nodes" (cp 44) a.Bu a.Bv Γ
 G7:eo K mg "paper_rows" (cp 45) a.Bw a.Bx [ya]
 G8:eo K mg V' (cp 48) a.By a.Bz Ζ
 G9:eo K mg "node_ends" (cp 49) a.B0 a.B5 [vR,lS,rm,mK,N']
 Ha:eo K mg "ends_by_node" (cp 50) a.B7 a.B8 Ζ
 Hb:eo K mg "ends" (cp 51) a.Ca a.Cb Ζ
 Hc:eo K mg "ends_hold" (cp 52) a.Cc a.Cd [vR,lS,vT]
 Hd:eo K mg "least_common" (cp 57) a.Cf a.Cg [Y']
 He:eo K mg "power_part" (cp 58) a.Ch a.Ci [mT]
 Hf:eo K mg "square_part" (cp 59) a.Cj a.Ck [mT,yc,"even"]
 Hg:eo K mg "off_part" (cp 60) a.Cl a.Cm [mT,yc,"things"]
 Hh:eo K mg "_law_bag" (cp 63) a.Cn a.Co [rk]
 Hi:eo K mg "_law_pull" (cp 64) a.Cp a.Cq [cb,oE]
 Hj:eo K mg "_law_same" (cp 65) a.Cr a.Cs [mQ,yd]
 Hk:eo K mg "_law_grid" (cp 66) a.Ct a.Cu [cb,jZ,mM,P']
 Hl:eo K mg "_law_small" (cp 67) a.Cv a.Cw [cb]
 Hm:eo K mg "_law_turned" (cp 68) a.Cy a.Cz [jZ]
 Hn:eo K mg "_law_rowsums" (cp 69) a.C0 a.C2 [ek]
 Ho:eo K mg "_law_columnsums" (cp 70) a.C3 a.C4 [ek]
 Hq:eo K mg "_law_free" (cp 71) a.C5 a.C6 [jZ,mM]
 Hr:eo K mg "_law_bounds" (cp 72) a.C7 a.C8 [cb,ek]
 Ht:eo K mg "_law_copied" (cp 73) a.C9 a.Da [jZ]
 Hu:eo K mg "_law_fit" (cp 74) a.Db a.Dc [tA,oE,"_law_pairs"]
 Hv:eo K mg "_law_less" (cp 75) a.Dd a.Df [tA,oF]
 Hw:eo K mg ζ (cp 76) a.Dg a.Dh [oE]
 Hx:eo K mg "_law_ways" (cp 77) a.Di a.Dj [HS]
 Hy:eo K mg "_law_gcd" (cp 78) a.Dl a.Dm [mU,mP]
 Hz:eo K mg "_law_kind" (cp 79) a.Do a.Dp [cb]
 Ia:eo K mg "_law_place" (cp 80) a.Dq a.Dr [cb,ek]
 Ib:eo K mg "_law_even" (cp 81) a.Dt a.Du [jw,ik]
 Id:eo K mg W' (cp 82) a.Dv a.Dw [pe]
 Ie:eo K mg "_law_net" (cp 83) a.Dx a.Dy [ek,jX]
 Ig:eo K mg "_law_scale" (cp 84) a.Dz a.D0 [f',ek,jY]
 Ih:eo K mg "_law_nodes" (cp 85) a.D3 a.D4 Η
 Ii:eo K mg "_law_counted" (cp 86) a.D5 a.D6 Η
 Ij:eo K mg "_law_bent" (cp 87) a.D7 a.D8 [cb,jZ,jY]
 Ik:eo K mg "_law_living" (cp 88) a.D9 a.Ea Η
 Il:eo K mg "_law_part" (cp 89) a.Eb a.Ec [f',lT,jY,tw,oF]
 Im:eo K mg ρ (cp 90) a.Ed a.Ee [f',mU,mP]
 Io:eo K mg "_law_begun" (cp 91) a.Ef a.Eg [f']
 Ip:eo K mg "_law_ends" (cp 92) a.Eh a.Ei [f',lT,jY,jX]
 Iq:eo K mg "_law_end" (cp 93) a.Ej a.Ek [f',lT,jY,jX,κ,X']
 Ir:eo K mg "_law_middle" (cp 94) a.El a.Em [cb]
 Iu:eo K mg "_law_sides" (cp 95) a.En a.Eo [ek]
 Iw:gs K oI "Net.__init__" (cc (cp 46) 0) a.Ep a.Er
 Ix:Mk K a.Ae a.Ep
 Iy:D2 K a.Er [jv,i',fg,jW] [jW] 3 [.kw 0]
 Iz:gs K oI "Measure.__init__" (cc (cp 61) 0) a.Es a.Et
 I0:Mk K a.Af a.Es
 I9:D2 K a.Et Θ [rh] 4 [.kw 0]
 Ja:gs K i' "Net.rowsums" (cc (cp 46) 3) a.Eu a.Ev
 Jb:j_ K a.Ae i' a.Eu
 Jc:cL K a.Ev [jv] []
 Jd:gs K i' "Measure.rowsums" (cc (cp 61) 1) a.Ew a.Ex
 Je:j_ K a.Af i' a.Ew
 Jf:cL K a.Ex [jv] []
 Jg:gs K fg "Net.columnsums" (cc (cp 46) 4) a.Ey a.Ez
 Jh:j_ K a.Ae fg a.Ey
 Ji:cL K a.Ez [jv] []
 Jj:gs K fg "Measure.columnsums" (cc (cp 61) 2) a.E2 a.E3
 Jk:j_ K a.Af fg a.E2
 Jl:cL K a.E3 [jv] []
 Jm:gs K "paper" "Net.paper" (cc (cp 46) 10) a.E4 a.E5
 Jn:j_ K a.Ae "paper" a.E4
 Jo:cL K a.E5 [jv] []
 Jp:gs K "steps" "Net.steps" (cc (cp 46) 9) a.E6 a.E7
 Jq:j_ K a.Ae "steps" a.E6
 Jr:cL K a.E7 Ε []
 Js:gs K "counts_at" "Net.counts_at" (cc (cp 46) 6) a.E8 a.E9
 Jt:j_ K a.Ae "counts_at" a.E8
 Ju:cL K a.E9 Ε []
 Jv:gs K "part" "Measure.part" (cc (cp 61) 3) a.Fa a.Fb
 Jw:j_ K a.Af "part" a.Fa
 Jx:cL K a.Fb [jv,oG,mT] []
 Jy:gs K "begun" "Measure.begun" (cc (cp 61) 5) a.Fc a.Fd
 Jz:j_ K a.Af "begun" a.Fc
 J0:cL K a.Fd [jv] []
 J1:gs K "together" "Measure.together" (cc (cp 61) 4) a.Fe a.Ff
 J2:j_ K a.Af "together" a.Fe
 J3:cL K a.Ff [jv,η,x9] []
 J4:t_ K a.Ae
 J5:mg "Net"=U (.ref a.Ae)
 J6:dg K a.Ae oJ
 J7:dg K a.Ae ya
 J8:dg K a.Ae F'
 J9:dg K a.Ae td
 Ka:t_ K a.Af
 Kb:mg vX=U (.ref a.Af)
 Kc:dg K a.Af oJ
 Ke:dg K a.Af "even"
 Kf:dg K a.Af Z'
 Kg:dg K a.Af rh
 Kh:dg K a.Af td
 Ki:gs K oI "EdgeError.__init__" (cc (cp 2) 0) a.Ab a.Ac
 Kj:cL K a.Ac [jv,"word","why"] []
 Kk:mg kJ=U (.ref a.Aa)
 Kl:ClsFn K a.Aa oI a.Ab
section
variable{P:Vw}{w:VC}{K:Vb}{mg:ϙ}{aa:V0}{a:Ad}
theorem lJ:ba [cb,oE,"_law_cells",vV,"_law_cell"] [cb,oE] (ak<|cp 64):=d_
theorem IX(N:zi K mg a):fw P w K mg aa (hO P w) 2 a.Cp a.Cq [cb,oE] (P_ K 2 dT):=by
 refine N.Hi.F.ok (k:=1) lJ (λvs H Q E h=>h.1) (λo8 A x s H vs Q E hr h=>?_);obtain⟨_,F,ds,D,fr,hd,r,f5,e,k⟩:=h;obtain⟨G,rfl,ok,I,h1,rfl,rfl⟩:=JJ e;obtain⟨v,w',rfl,d1,d2⟩:=a_.two hd;unfold bi at d1;obtain⟨b,l,d,rfl⟩:=d1;cases d2.int;obtain⟨t,J⟩:=fr.bag b l d;obtain⟨ab,al,m⟩:=fr.bgA b l d;obtain⟨W,L,ac,X⟩:=ok.at;obtain⟨_,_,ad,_⟩:=AG ok I;have M:(ϱ (D.cells.map V.int):Int)=(ϱ D.cells:Int):=by rw[UD]
 have o9:l6 (D.cells.map V.int) (D.pos:Int)=U (.int D.cell):=PN (by rw[UN,L];rfl);refine⟨_,dP (tT (i:=2) lJ.nd Z (WU Z)<|dD b9 (pv 0) cD (λ_ _=>Z))
  (dP (tT (i:=3) lJ.nd Z (WU Z)<|eL kZ (dD b9 (pv 0) cD (λ_ _=>Z))<|nR qa re N.Fp PySem.boot_len<|fQ (pv 2) jy)
  (dP (tT (i:=4) lJ.nd Z (WU Z)<|dD b9 (pv 2) (pv 3) (λ_ _=>Z))
  (dP (Nw (AI Tk (pv 4) (eL Q3 cD cD)<|yt _)
   (dP (cf (eL AS (pv 4)<|pv 1)<|cI (pv 2) (pv 3) cY)<|qv<|aw<|eL kZ (pv 4)<|pv 1) u6)
  (dP (cf (eL tU (dD b9 (pv 0) cD (λ_ _=>Z)) cD)<|cI (pv 0) cD cY)
  (dP (cf (eL kZ (eL Q5 (eL tU (eL tU (dD b9 (pv 0) cD (λ_ _=>Z))<|eL kZ (pv 4) cD) cD) cD) cD)<|cI (pv 0) cD cY)
  (qv<|aw<|eL kZ (eL AS (dD b9 (pv 0) cD (λ_ _=>Z)) cD)<|pv 1)))))),?_⟩
 refine⟨_,Z,b,_,_,_,Z,Z,e_.of t,Z,?_⟩;refine⟨_,Z,b,_,_,_,Z,Z,e_.of t,Z,_,Z,l,_,Z,.inl<|e_.of J,_,_,Z,Z,?_,?_⟩
 .have:=W
  rw[M];lia
 refine⟨_,Z,_,Z,l,_,_,_,Z,Z,e_.of J,by rw[M,X];exact o9,?_⟩;refine⟨_,Z,_,_,Z,Z,⟨rb,rb,rb⟩,_,_,Z,Z,_,Z,?_⟩;have S:∀{R:Hp} {p:UM} {o:HO},(∀c,F.A c->R c≠Y)->∀c,F.A c->upd R p o c≠Y:=λ{R p o} f c u z=>by
  by_cases q:c=p
  .subst q;rw[ay]at z;cases z
  .rw[bb q]at z;exact f c u z
 refine ite2 (λg=>?_) (λg=>?_)
 .have big:(10:Int)^18<=D.cell:=WP g
  refine⟨_,Z,_,Z,_,_,Z,Z,⟨I,h1⟩,_,Z,_,Z,l,_,_,D.pos,Z,Z,J,?_,?_⟩
  .rw[M,X,UD]
   exact Ph W
  refine⟨_,Z,_,Z,_,_,Z,Z,I,?_⟩;have T:lY D G=D.cell % G:=US big;have o7:nP D G=⟨D.cells.set D.pos<|D.cell/G,D.i,D.j⟩:=US big;rw[T,o7]at k;refine k _ _ ⟨λc o u n=>by rw[bb (n b l d).2];exact u,S fr.occ,fr.bgA,λb' l' y=>?_⟩ Z;rw[d]at y;cases y;exact⟨by rw[bb m];exact t,by rw[ay,Zh]⟩
 .have big:¬(10:Int)^18<=D.cell:=λq=>g<|U3 q
  refine⟨_,Z,b,_,_,_,Z,Z,e_.of t,Z,_,_,Z,Z,_,Z,b,_,_,1,Z,Z,t,Z,?_⟩;have B:(upd H b<|.lst [.ref l,.int<|D.i+1,.int D.j]) b=U (.lst [.ref l,.int<|D.i+1,.int D.j]):=ay;refine⟨_,Z,b,_,_,_,Z,Z,e_.of B,Z,_,Z,_,_,Z,Z,(by show(0:Int)<2147483629;decide),_,_,Z,Z,_,_,Z,Z,_,_,Z,Z,.inr ⟨rb,rb⟩,_,_,Z,Z,(by show(0:Int)<2147483629;decide),_,Z,b,_,_,2,Z,Z,B,Z,?_⟩;have C:(upd (upd H b<|.lst [.ref l,.int<|D.i+1,.int D.j]) b<|.lst [.ref l,.int<|D.i+1,.int D.nxt]) b=U (.lst [.ref l,.int<|D.i+1,.int D.nxt]):=ay;refine⟨_,Z,b,_,_,_,Z,Z,e_.of C,Z,_,_,Z,Z,⟨rb,rb⟩,_,Z,_,_,Z,Z,I,?_⟩;have T:lY D G=D.nxt/64 % G:=UU big;have o7:nP D G=⟨D.cells,D.i+1,D.nxt⟩:=UU big;rw[T,o7]at k;refine k _ _ ⟨λc o u n=>by rw[bb (n b l d).1,bb (n b l d).1];exact u,S<|S fr.occ,fr.bgA,λb' l' y=>?_⟩ Z;rw[d]at y;cases y;exact⟨C,by rw[bb m.symm,bb m.symm];exact J⟩
theorem LF:ba [rk] [rk] (ak<|cp 63):=d_
theorem nd1:(["_law_cell"]:ϒ).Nodup:=by decide +kernel
theorem L5(N:zi K mg a):fw P w K mg aa (hO P w) 1 a.Cn a.Co ["_law_script"] (S3 K):=by
 refine N.Hh.F.ok LF (λS H Q E h=>?_) (λo8 A M s H S Q E hr h=>?_)
 .obtain⟨a,ns,rfl,_⟩:=h
  rfl
 .obtain⟨a,ns,rfl,f5,k⟩:=h
  refine⟨_,qv<|aw<|fM<|fQ (eL Q7 (qw Z (cx:=["_law_cell"]) (cy.plain Z (by decide +kernel)<|by decide +kernel) (OI<|nQ zY (pv 0) AM<|AL cD)
   (λcl C fp s H=>⟨AO (i:=0) nd1 Z<|WU Z,yo,λD=>aN Z (nR sC re N.Fj Boot.«abs»<|fQ (pv 0) jy) Z⟩))<|fM<|fQ cD jy)<|fQ cD<|fQ cD jy,?_⟩
  obtain⟨q,J,ab⟩:=Ux ns;refine⟨_,Z,63,Z,a,_,Z,f5,λp hp=>?_⟩;rw[J];have o9:cw H (upd H p<|.lst<|q.map V.int):=cw.upd hp;refine⟨p,Z,⟨_,e_.of ay⟩,λD B=>?_⟩;have r:D≠p:=λz=>by subst z;rw[ay]at B;cases B
  refine FR (xs:=q.map V.int) (λi I g=>∃G:ώ,(∃v,I=[v])/\ϱ G=i/\(∀c∈G,0<=c)/\g D=U (.lst<|G.map V.int)/\g p=U (.lst<|q.map V.int)/\cw H g) ⟨[],⟨_,Z⟩,Z,(λ_ h=>nomatch h),ay,by rw[bb r.symm,ay],o9.trans<|cw.upd B⟩
   (λi I g _ o8=>by obtain⟨_,_,_,_,_,e,_⟩:=o8;exact e_.of e) ?_ ?_
  .rintro i x I g n ⟨G,⟨v,rfl⟩,l,m,d,t,u⟩
   have ac:i<ϱ q:=by have:=(UY.mp n).1;rwa[UD]at this
   obtain⟨z,rfl⟩:∃z,x=V.int z:=by
    rw[UN]at n;cases e:q[i]? with
    |none=>rw[e]at n;cases n
    |some z=>rw[e]at n;exact⟨z,(Vt n).symm⟩
   unfold fJ Qb;refine iteT ?_;refine⟨_,Z,_,Z,G.map V.int,d,by rw[UD];exact vN ln,G++[if z<0 then -z else z],⟨_,Z⟩,by rw[Va,l];rfl,λc hc=>?_,by rw[ay,Vj];rfl,by rw[bb r.symm];exact t,λb o e=>?_⟩
   .rcases V7.mp hc with hc|hc
    .exact m c hc
    .obtain rfl:c=_:=by simpa using hc
     split<;>lia
   .rw[bb<|aR e<|o9.free B]
    exact u b o e
  .rintro I g ⟨G,⟨v,rfl⟩,l,m,d,t,u⟩
   rw[UD]at l;refine⟨rb,λR j=>⟨D,R,_,_,Z,Z,by rw[bb<|aR d j];exact d,ay,by rw[UD];exact Yj (vN<|by simp;lia),λT y=>⟨(by show 3<=Ve;decide),λo7 f=>?_⟩⟩⟩;have W:cw g (upd g R<|.lst [V.int 1]):=cw.upd j;have X:=W.trans<|cw.upd (o:= .lst<|G.map V.int++[V.int 1]) y;have L:T≠o7:=λz=>by subst z;rw[ay]at f;cases f
   refine k o7 T _ ((u.trans X).free f) ((u.trans W).free y) ⟨G++[1],0,0,ay,by rw[bb L,ay,Vj];rfl,rc,by rw[Va];simp;lia,λc hc=>?_,rb⟩<|(u.trans X).trans<|cw.upd f;rcases V7.mp hc with hc|hc
   .exact m c hc
   .obtain rfl:c=1:=by simpa using hc
    decide
theorem bj(N:zi K mg a):FB P w K mg aa 2 "_law_pull" a.Cp a.Cq [cb,oE] 2 dT:=⟨IX N,N.Hi.m,N.Hi.F.kp,N.Hi.b⟩
structure ϑ where
 v:ϋ->M D
 P:(ϋ->M D)->Prop
 h:P v
abbrev QF(K:Vb)(a:Ad)(k:Nat)(x:VF)(f:UM)(d:U9)(E:ϒ)(n:Nat)(m:ϋ->M D):Prop:=∀{P:Vw} {w:VC} {mg:ϙ} {aa:V0} (N:zi K mg a),FB P w K mg aa k x f d E n m
theorem Ϗ{k}{x}{f}{d}{E}{n}{m:ϋ->M D}(h:QF K a k x f d E n m){P}{w}{mg}{aa}(N:zi K mg a):FB P w K mg aa k x f d E n m:=h N
abbrev QM(K:Vb)(a:Ad)(k:Nat)(f:UM)(d:U9)(E:ϒ)(n:Nat)(m:ϋ->M D):Prop:=∀{P:Vw} {w:VC} {mg:ϙ} {aa:V0} (N:zi K mg a),fw P w K mg aa (hO P w) k f d E (P_ K n m)
theorem Ϣ{k}{f}{d}{E}{n}{m:ϋ->M D}(h:QM K a k f d E n m){P}{w}{mg}{aa}(N:zi K mg a):fw P w K mg aa (hO P w) k f d E (P_ K n m):=h N
theorem Oy:ba [vT,tu,J'] [vT,tu,J'] (ak<|cp 15):=d_
def QI(K:Vb)(a:Ad):ϑ:=⟨_,QM K a 2 a.Ag a.Ah ["rows","columns","pair"] 3,λN=>by
 exact hG (k:=1) 3 3 _ N.Gd Oy Z Z λb A w s H E d=>am<|aA<|aw<|bp Z (g_ ["row","pair","columns"] ["row"] [2,1]) (cJ re N.Fu<|c4<|vv 0) (λG C c s H=>⟨(c_ 0 eg),aZ,λD=>aN Z (bp Z (g_ ["column","pair"] ["column"] [1]) (cJ re N.Fu<|c4<|vv 2) (λG C c s H=>⟨(c_ 0 eg),aZ,λD=>aN Z (vv 1) Z⟩) ar ax (λD=>aV)) Z⟩) ar ax (λD=>aV)⟩
theorem wJ:ba [i',fg] [i',fg] (ak<|cp 16):=d_
def gb(K:Vb)(a:Ad):ϑ:=⟨_,QF K a 2 "check_sums" a.Ai a.Aj ["rowsums","columnsums"] 2,λN=>by
 exact fx 2 N.Gg wJ λb A w s H E c=>ae (br (sN<|uO lZ lZ pK pK (ag) (cW N.Fp<|c4<|vv 0)<|mB N.Gb) (am<|dJ)<|bc)
   (ae (br (sN<|uO lZ lZ pK pK (ag) (cW N.Fp<|c4<|vv 1)<|mB N.Ga) (am<|dJ)<|bc)
   (ae (br (kD<|oR (sM<|bL (qb Z) EQ re N.Fk Boot.«any»<|c4<|bp Z (g_ ["many"] ["many"] []) (aW<|vv 0) (λG C d s H=>⟨(c_ 0 eg),aZ,λD=>aN Z (jd qA vg (vv 0)<|ag) Z⟩) ar ax (λD=>aV))<|nl<|sM<|bL (qb Z) EQ re N.Fk Boot.«any»<|c4<|bp Z (g_ ["many"] ["many"] []) (aW<|vv 1) (λG C d s H=>⟨(c_ 0 eg),aZ,λD=>aN Z (jd qA vg (vv 0)<|ag) Z⟩) ar ax (λD=>aV)) (am<|dJ)<|bc)
   (ae (br (aM (gc c) iB (f6 N.Fz<|c4<|vv 0)<|f6 N.Fz<|c4<|vv 1) (am<|dJ)<|bc)
   (am<|br (aM gr i8 (f6 N.Fz<|c4<|vv 0)<|mB N.F9) (am<|dJ)<|bc))))⟩
theorem uS:ba [rh,tE] [rh,tE] (ak<|cp 17):=d_
def fL(K:Vb)(a:Ad):ϑ:=⟨_,QF K a 2 "check_there" a.Ak a.Al [rh,tE] 2,λN=>by
 exact fx 2 N.Gh uS λb A w s H E c=>am<|br (sN<|uO lZ qA pK vg (ag) (vv 0)<|vv 1) (am<|dJ)<|bc⟩
theorem wK:ba Δ Δ (ak<|cp 18):=d_
def iq(K:Vb)(a:Ad):ϑ:=⟨_,QF K a 3 "check_cell" a.Am a.An Δ 4,λN=>by
 exact fx 4 N.Gi wK λc A w s H E b=>ae (ij<|b6<|vc (Ϗ (fL K a).3 N) b<|dc (vv 0)<|vv 2)
   (am<|ij<|b6<|vc (Ϗ (fL K a).3 N) b<|dc (vv 1)<|vv 3)⟩
theorem jN:ba [J',"low","high"] [J'] (ak<|cp 19):=d_
def kS(K:Vb)(a:Ad):ϑ:=⟨_,QF K a 2 "check_pair" a.Ao a.Aq [J'] 1,λN=>by
 exact fx 3 N.Gj jN λb A w s H E c=>ae (DR (iz (bS aK<|bS aK gv)<|bP<|bP fq)<|cf (vv 0)<|bV Z<|aB (c_ 1 jN.nd)<|aB (c_ 2 jN.nd) bF)
   (am<|br (sN<|Lr lZ lZ lZ pK pK pK (ag) (vv 1) (vv 2)<|mB N.F9) (am<|dJ)<|bc)⟩
theorem gB:ba [jW,vT,tu,F',J'] [jW,vT,tu] (ak<|cp 20):=d_
def dO(K:Vb)(a:Ad):ϑ:=⟨_,QF K a 3 "settled_bounds" a.Ar a.As ["bounds","rows","columns"] 3,λN=>by
 exact fx 5 N.Gk gB λd A w s H E b=>ae (br (aM yq EO (vv 0)<|CS) (am<|aA<|aw<|Oe (Ϣ (QI K a).3 N) (b.mono rb) re N.Ge N.Gd.kp N.Gf dj (dc (vv 1)<|vv 2) (λG M r c h=>by rw[(bq<|bq C_) G M r c h];rfl))<|bc)
   (ae (br (kD<|oR (aM (gc b) iB (cW N.Fp<|c4<|vv 0)<|vv 1)<|nl<|sM<|bL (qb Z) EQ re N.Fk Boot.«any»<|c4<|bp Z (g_ ["pairs","columns"] ["pairs"] [2]) (aW<|vv 0) (λP C e s H=>⟨(c_ 0 eg),aZ,λD=>aN Z (jd (gc b) iB (cW N.Fp<|c4<|vv 0)<|vv 1) Z⟩) ar ax (λD=>aV)) (am<|dJ)<|bc)
   (ae (bC aK<|bo bQ Z (aW<|vv 0) (c_ 3 gB.nd)<|am<|bC aK<|bo bQ Z (aW<|vv 3) (c_ 4 gB.nd)<|am<|ij<|b6<|vc (Ϗ (kS K a).3 N) b<|c4<|vv 4)
   (am<|aA<|aw<|bp Z (g_ ["pairs"] ["pairs"] []) (aW<|vv 0) (λP C e s H=>⟨(c_ 0 eg),aZ,λD=>aN Z (bK bT fN re N.Fq Boot.«list»<|c4<|vv 0) Z⟩) ar ax (λD=>aV))))⟩
theorem ii:ba [D',"product","factor"] [D'] (ak<|cp 23):=d_
def je(K:Vb)(a:Ad):ϑ:=⟨_,QF K a 2 "factorial" a.At a.Au [D'] 1,λN=>by
 exact fx 3 N.Gm ii λb A w s H E c=>ae (aJ<|dt 1 ii.nd<|ag)
   (ae (bC aK<|bo bQ Z (oj re N.Fu<|dc (ag)<|aD aI bu (vv 0)<|ag) (c_ 2 ii.nd)<|am<|nC qG<|kT (i:=1) ii.nd Z (by first|exact WU Z|exact XZ Z) (vv 2) qK)
   (am<|aA<|aw<|vv 1))⟩
theorem nz:ba ["base",tE,"product","factor"] ["base",tE] (ak<|cp 24):=d_
def uX(K:Vb)(a:Ad):ϑ:=⟨_,QF K a 2 tq a.Av a.Aw ["base",tE] 2,λN=>by
 exact fx 4 N.Gn nz λb A w s H E c=>ae (aJ<|dt 2 nz.nd<|ag)
   (ae (bC aK<|bo bQ Z (cJ re N.Fu<|c4<|vv 1) (c_ 3 nz.nd)<|am<|nC qG<|kT (i:=2) nz.nd Z (by first|exact WU Z|exact XZ Z) (vv 0) qK)
   (am<|aA<|aw<|vv 2))⟩
theorem mH:ba ["parts","part",R'] ["parts"] (ak<|cp 25):=d_
def tJ(K:Vb)(a:Ad):ϑ:=⟨_,QF K a 3 "ways" a.Ax a.Ay ["parts"] 1,λN=>by
 exact fx 3 N.Go mH λc A w s H E b=>ae (bC aK<|bo bQ Z (aW<|vv 0) (c_ 1 mH.nd)<|am<|br (aM qA vg (vv 1)<|ag) (am<|dJ)<|bc)
   (ae (aJ<|dt 2 mH.nd<|vc (Ϗ (je K a).3 N) b<|c4<|bL (KV Z) Rw re N.Fz Boot.«sum»<|c4<|vv 0)
   (ae (bC aK<|bo bQ Z (aW<|vv 0) (c_ 1 mH.nd)<|am<|nC Mv<|kT (i:=2) mH.nd Z (by first|exact WU Z|exact XZ Z) (vc (Ϗ (je K a).3 N) b (c4 (vv 1))) Pj)
   (am<|aA<|aw<|vv 2)))⟩
theorem kG:ba [η,x9] [η,x9] (ak<|cp 26):=d_
def im(K:Vb)(a:Ad):ϑ:=⟨_,QF K a 2 ο a.Az a.A0 [η,x9] 2,λN=>by
 exact fx 2 N.Gp kG λb A w s H E c=>ae (z5 bQ (aM gr i8 (vv 1)<|ag)<|am<|S7<|QO (i:=0) (j:=1) Z kG.nd Z Z rb Z Z (dc (vv 1)<|aD kZ NO (vv 0)<|vv 1) Z)
   (am<|aA<|aw<|vv 0)⟩
theorem dI:ba [mK,tE,F',"lows","tops","begun","row","fewest_behind","most_behind"] [mK,tE,F'] (ak<|cp 27):=d_
def nK(K:Vb)(a:Ad):ϑ:=⟨_,QF K a 2 "fillings" a.A1 a.A2 ["rests","many","pairs"] 3,λN=>by
 exact fx 9 N.Gq dI λc A w s H E d=>ae (aJ<|dt 3 dI.nd<|bp Z (g_ ["low","high"] ["low","high"] []) (aW<|vv 2) (λG C b s H=>⟨(bV Z<|aB (c_ 0 eg)<|aB (c_ 1 eg) bF),aZ,λD=>aN Z (vv 0) Z⟩) (de (aU ar<|aU ar cE)<|aS<|aS bY) (da<|aT ax<|aT ax cA) (λD=>aV))
   (ae (aJ<|dt 4 dI.nd<|bp Z (g_ ["rest","low","high"] ["rest","low","high"] []) (l7 re N.F5<|dc (vv 0)<|vv 2) (λG C b s H=>⟨(bV Z<|aB (c_ 0 eg)<|aB (bV Z<|aB (c_ 1 eg)<|aB (c_ 2 eg) bF) bF),aZ,λD=>aN Z (bL (mh Z) xh re N.Ft Boot.«min»<|dc (vv 0)<|vv 2) Z⟩) (de (aU ar<|aU (de (aU ar<|aU ar cE)<|aS<|aS bY) cE)<|aS<|aS bY) (da<|aT ax<|aT (da<|aT ax<|aT ax cA) cA) (λD=>aV))
   (ae (aJ<|dt 5 dI.nd<|fU<|c4<|bH<|dc (bH<|d8)<|vv 1)
   (ae (bC aK<|bo bQ Z (cJ re N.Fu<|c4<|cW N.Fp<|c4<|vv 0) (c_ 6 dI.nd) (ae (aJ<|dt 7 dI.nd<|f6 N.Fz<|c4<|hV (vv 3) (ge<|aD aI bu (vv 6)<|ag)<|gf)
   (ae (aJ<|dt 8 dI.nd<|f6 N.Fz<|c4<|hV (vv 4) (ge<|aD aI bu (vv 6)<|ag)<|gf)
   (am<|xX (i:=5) dI.nd Z (by first|exact WU Z|exact XZ Z) Z (g_ ["counts","left","count","lows","row","most_behind","tops","fewest_behind"] ["counts","left","count"] [3,6,8,4,7]) (aW (vv 5)) (λG C b s H=>⟨(bV Z<|aB (c_ 0 eg)<|aB (c_ 1 eg) bF),aZ,λD=>qy Z Z Z (oj re N.Fu<|dc (bL (wx Z) NP re N.Fs Boot.«max»<|dc (aL au aO (vv 3)<|vv 4)<|aD dQ fG (vv 1)<|vv 5)<|aD aI bu (bL (mh Z) xh re N.Ft Boot.«min»<|dc (aL au aO (vv 6)<|vv 4)<|aD dQ fG (vv 1)<|vv 7)<|ag) (c_ 2 eg) (aZ)<|aN Z (bH<|dc (aD aI bu (vv 0)<|bH<|c4<|vv 2)<|aD dQ fG (vv 1)<|vv 2) Z⟩) (de (aU ar<|aU ar cE)<|aS<|aS bY) (da<|aT ax<|aT ax cA) (λD=>BD ar ax<|aV)))))
   (am<|aA<|aw<|bp Z (g_ ["counts","left"] ["counts","left"] []) (aW<|vv 5) (λG C b s H=>⟨(bV Z<|aB (c_ 0 eg)<|aB (c_ 1 eg) bF),kn<|aM (bA d) bU (vv 1)<|ag,λD=>aN Z (vv 0) Z⟩) (de (aU ar<|aU ar cE)<|aS<|aS bY) (da<|aT ax<|aT ax cA) (λD=>aV)))))⟩
theorem DN:ba [i',ti] [i',ti] (ak<|cp 29):=d_
def pq(K:Vb)(a:Ad):ϑ:=⟨_,QF K a 2 "need_of" a.A3 a.A4 ["rowsums","over"] 2,λN=>by
 exact fx 2 N.Gr DN λb A w s H E c=>am<|aA<|aw<|f6 N.Fz<|c4<|bp Z (g_ ["row","rowsums"] ["row"] [0]) (aW<|vv 1) (λG C d s H=>⟨(c_ 0 eg),aZ,λD=>aN Z (aL au aO (vv 1)<|vv 0) Z⟩) ar ax (λD=>aV)⟩
theorem mI:ba [fg,jW,ti,oG,"lows"] [fg,jW,ti,oG] (ak<|cp 30):=d_
def dX(K:Vb)(a:Ad):ϑ:=⟨_,QF K a 2 "room_inside" a.A5 a.A6 ["columnsums","bounds","over","column"] 4,λN=>by
 exact fx 5 N.Gs mI λb A w s H E c=>ae (xX (i:=4) mI.nd Z (by first|exact WU Z|exact XZ Z) Z (g_ ["row","pairs","over","column"] ["row","pairs"] [2,3]) (pT re N.Fm (c4 (vv 1))) (λG C d s H=>⟨(bV Z<|aB (c_ 0 eg)<|aB (c_ 1 eg) bF),kn<|aM kY (lc (neg:=O)) (vv 0)<|vv 2,λD=>aN Z (aL au aO (aL au aO (vv 1)<|vv 3)<|ag) Z⟩) (de (aU ar<|aU ar cE)<|aS<|aS bY) (da<|aT ax<|aT ax cA) (λD=>aV))
   (am<|aA<|aw<|aD dQ fG (aL au aO (vv 0)<|vv 3)<|f6 N.Fz<|c4<|vv 4)⟩
theorem uR:ba [jW,ti,oG] [jW,ti,oG] (ak<|cp 31):=d_
def dY(K:Vb)(a:Ad):ϑ:=⟨_,QF K a 2 "room_beside" a.A7 a.A8 ["bounds","over","column"] 3,λN=>by
 exact fx 3 N.Gu uR λb A w s H E c=>am<|aA<|aw<|f6 N.Fz<|c4<|bp Z (g_ ["row","bounds","column"] ["row"] [0,2]) (aW<|vv 1) (λG C d s H=>⟨(c_ 0 eg),aZ,λD=>aN Z (aL au aO (aL au aO (aL au aO (vv 1)<|vv 0)<|vv 2)<|ag) Z⟩) ar ax (λD=>aV)⟩
theorem DM:ba [fg,jW,ti,"into"] [fg,jW,ti,"into"] (ak<|cp 32):=d_
def pp(K:Vb)(a:Ad):ϑ:=⟨_,QF K a 3 "room_of" a.A9 a.Ba ["columnsums","bounds","over","into"] 4,λN=>by
 exact fx 4 N.Gv DM λc A w s H E b=>am<|aA<|aw<|f6 N.Fz<|c4<|bp Z (g_ ["column","into","columnsums","bounds","over"] ["column"] [3,0,1,2]) (cJ re N.Fu<|c4<|cW N.Fp<|c4<|vv 0) (λG C d s H=>⟨(c_ 0 eg),aZ,λD=>aN Z (CT (aM fi (lc (neg:=UK)) (vv 0)<|vv 1) (vc (Ϗ (dX K a).3 N) b<|xr (vv 2) (vv 3) (vv 4)<|vv 0)<|vc (Ϗ (dY K a).3 N) b<|lb (vv 3) (vv 4)<|vv 0) Z⟩) ar ax (λD=>aV)⟩
theorem xS:ba [fg,jW,ti] [fg,jW,ti] (ak<|cp 33):=d_
def mq(K:Vb)(a:Ad):ϑ:=⟨_,QF K a 3 "narrowest" a.Bb a.Bc ["columnsums","bounds","over"] 3,λN=>by
 exact fx 3 N.Gx xS λc A w s H E b=>am<|aA<|aw<|bp Z (g_ ["column","columnsums","bounds","over"] ["column"] [0,1,2]) (cJ re N.Fu<|c4<|cW N.Fp<|c4<|vv 0) (λG C d s H=>⟨(c_ 0 eg),kn<|aM qA vg (vc (Ϗ (dX K a).3 N) b<|xr (vv 1) (vv 2) (vv 3)<|vv 0)<|vc (Ϗ (dY K a).3 N) b<|lb (vv 2) (vv 3)<|vv 0,λD=>aN Z (vv 0) Z⟩) ar ax (λD=>aV)⟩
theorem j6:ba [tE,R',D'] [tE] (ak<|cp 34):=d_
def pC(K:Vb)(a:Ad):ϑ:=⟨_,QF K a 2 "choices" a.Bd a.Be ["many"] 1,λN=>by
 exact fx 3 N.Gy j6 λb A w s H E c=>ae (aJ<|dt 1 j6.nd<|fU<|c4<|fU<|d8)
   (ae (bC aK<|bo bQ Z (cJ re N.Fu<|c4<|vv 0) (c_ 2 j6.nd)<|am<|aJ<|dt 1 j6.nd<|aD aI bu (vv 1)<|bp Z (g_ ["chosen","number"] ["chosen"] [2]) (aW<|vv 1) (λG C d s H=>⟨(c_ 0 eg),aZ,λD=>aN Z (aD aI bu (vv 0)<|fU<|c4<|vv 1) Z⟩) ar ax (λD=>aV))
   (am<|aA<|aw<|vv 1))⟩
theorem kH:ba [i',fg,jW,ti,"into"] Γ (ak<|cp 35):=d_
def gJ(K:Vb)(a:Ad):ϑ:=⟨_,QF K a 4 "check_fit" a.Bf a.Bh Γ 3,λN=>by
 exact fx 5 N.Gz kH λc A w s H E b=>am<|bC aK<|bo bQ Z (aW<|vc (Ϗ (pC K a).3 N) b<|c4<|cW N.Fp<|c4<|vv 0) (c_ 3 kH.nd) (ae (aJ<|dt 4 kH.nd<|vc (Ϗ (mq K a).3 N) b<|lb (vv 1) (vv 2)<|vv 3)
   (am<|br (aM gr i8 (vc (Ϗ (pq K a).3 N) b<|dc (vv 0)<|vv 3)<|vc (Ϗ (pp K a).3 N) b<|xr (vv 1) (vv 2) (vv 3)<|vv 4) (am<|dJ)<|bc))⟩
theorem gX:ba [i',"wide",tE] [i'] (ak<|cp 38):=d_
def kR(K:Vb)(a:Ad):ϑ:=⟨_,QF K a 2 "check_wide" a.Bi a.Bj [i'] 1,λN=>by
 exact fx 3 N.G0 gX λb A w s H E c=>ae (aJ<|dt 1 gX.nd<|ag)
   (ae (bC aK<|bo bQ Z (aW<|vv 0) (c_ 2 gX.nd)<|am<|nC qG<|kT (i:=1) gX.nd Z (by first|exact WU Z|exact XZ Z) (aD aI bu (vv 2) (ag)) qK)
   (am<|br (aM gr i8 (vv 1)<|mB N.Gc) (am<|dJ)<|bc))⟩
theorem jt:ba [i',fg,jW,"settled"] Γ (ak<|cp 39):=d_
def eK(K:Vb)(a:Ad):ϑ:=⟨_,QF K a 4 U' a.Bk a.Bl Γ 3,λN=>by
 exact fx 4 N.G1 jt λc A w s H E b=>ae (ij<|b6<|vc (Ϗ (gb K a).3 N) b<|dc (vv 0)<|vv 1)
   (ae (aJ<|dt 3 jt.nd<|vc (Ϗ (dO K a).3 N) b<|lb (vv 2) (cW N.Fp<|c4<|vv 0)<|cW N.Fp<|c4<|vv 1)
   (ae (ij<|b6<|vc (Ϗ (kR K a).3 N) b<|c4<|vv 0)
   (am<|aA<|aw<|vv 3)))⟩
theorem o4:ba [mK,fg,jW,oG] [mK,fg,jW,oG] (ak<|cp 40):=d_
def cN(K:Vb)(a:Ad):ϑ:=⟨_,QF K a 3 "column_fillings" a.Bm a.Bn ["rests","columnsums","bounds","column"] 4,λN=>by
 exact fx 4 N.G2 o4 λb A w s H E c=>am<|aA<|aw<|vc (Ϗ (nK K a).3 N) c<|lb (vv 0) (aL au aO (vv 1)<|vv 3)<|bp Z (g_ ["pairs","column"] ["pairs"] [3]) (aW<|vv 2) (λG C d s H=>⟨(c_ 0 eg),aZ,λD=>aN Z (aL au aO (vv 0)<|vv 1) Z⟩) ar ax (λD=>aV)⟩
theorem sW:ba [mK,mT] [mK,mT] (ak<|cp 41):=d_
def dL(K:Vb)(a:Ad):ϑ:=⟨_,QF K a 2 "rests_behind" a.Bo a.Bp ["rests","counts"] 2,λN=>by
 exact fx 2 N.G3 sW λb A w s H E c=>am<|aA<|aw<|bK dC i7 re N.F4 Boot.«tuple»<|c4<|bp Z (g_ ["rest","count"] ["rest","count"] []) (l7 re N.F5<|dc (vv 0)<|vv 1) (λG C d s H=>⟨(bV Z<|aB (c_ 0 eg)<|aB (c_ 1 eg) bF),aZ,λD=>aN Z (aD dQ fG (vv 0)<|vv 1) Z⟩) (de (aU ar<|aU ar cE)<|aS<|aS bY) (da<|aT ax<|aT ax cA) (λD=>aV)⟩
theorem cM:ba [i',fg,jW,"here",R',oG,M'] Γ (ak<|cp 42):=d_
def g9(K:Vb)(a:Ad):ϑ:=⟨_,QF K a 4 "nodes_by_level" a.Bq a.Br ["rowsums","columnsums","bounds"] 3,λN=>by
 exact fx 7 N.G4 cM λc A w s H E b=>ae (aJ<|dt 3 cM.nd<|fU<|c4<|bK dC i7 re N.F4 Boot.«tuple»<|c4<|vv 0)
   (ae (lO<|dt 4 cM.nd<|fM<|c4<|vv 3)
   (ae (bC aK<|bo bQ Z (cJ re N.Fu<|c4<|cW N.Fp<|c4<|vv 1) (c_ 5 cM.nd) (ae (aJ<|dt 6 cM.nd<|Ll re N.Fw Z (g_ ["rests","counts","columnsums","bounds","column"] ["rests","counts"] [1,2,5]) (aW<|vv 3) (λG C d s H=>⟨(c_ 0 eg),aZ,λD=>qy Z Z Z (aW<|vc (Ϗ (cN K a).3 N) b<|xr (vv 0) (vv 2) (vv 3)<|vv 4) (c_ 1 eg) (aZ)<|yp (xj b) Z (vc (Ϗ (dL K a).3 N) b<|dc (vv 0)<|vv 1) Z⟩) ar ax (λD=>rY ar ax<|Ms))
   (ae (lR<|b6<|jh Wh Ws Wt eA (pv 4)<|c4<|vv 6)
   (am<|aJ<|dt 3 cM.nd<|vv 6))))
   (am<|aA<|aw<|vv 4)))⟩
theorem cB:ba ω [mK,"filled",M'] (ak<|cp 43):=d_
def jQ(K:Vb)(a:Ad):ϑ:=⟨_,QF K a 4 "node_counts" a.Bs a.Bt [mK,"filled",M'] 3,λN=>by
 exact fx 8 N.G5 cB λc A w s H E b=>ae (aJ<|dt 3 cB.nd<|ag)
   (ae (aJ<|dt 4 cB.nd<|ag)
   (ae (bC aK<|bo bQ Z (aW<|vv 1) (c_ 5 cB.nd) (ae (DR (iz (bS aK<|bS aK gv)<|bP<|bP fq)<|cf (aL (gQ<|r_ b) kg (vv 2)<|vc (Ϗ (dL K a).3 N) b<|dc (vv 0)<|vv 5)<|bV Z<|aB (c_ 6 cB.nd)<|aB (c_ 7 cB.nd) bF)
   (ae (nC BE<|kT (i:=3) cB.nd Z (by first|exact WU Z|exact XZ Z) (vv 6) Kx)
   (am<|nC BE<|kT (i:=4) cB.nd Z (by first|exact WU Z|exact XZ Z) (aD bM cF (vc (Ϗ (tJ K a).3 N) b (c4 (vv 5))) (vv 7)) Kx))))
   (am<|aA<|aw<|bH<|dc (vv 3)<|vv 4)))⟩
theorem bZ:ba [i',fg,jW,"levels","last","here",R',rm,M'] Γ (ak<|cp 44):=d_
def fX(K:Vb)(a:Ad):ϑ:=⟨_,QF K a 5 "counted_nodes" a.Bu a.Bv ["rowsums","columnsums","bounds"] 3,λN=>by
 exact fx 9 N.G6 bZ λe A w s H E c=>ae (aJ<|dt 3 bZ.nd<|vc (Ϗ (g9 K a).3 N) c<|lb (vv 0) (vv 1)<|vv 2)
   (ae (aJ<|dt 4 bZ.nd<|cW N.Fp<|c4<|vv 1)
   (ae (HV (kb:=UK) (i:=5) bZ.nd Z (by first|exact WU Z|exact XZ Z) Z (g_ ["rests"] ["rests"] []) (aW (aL au aO (vv 3) (vv 4))) (λG C d s H=>⟨(c_ 0 eg),aZ,λD=>nU (b:=UK) (xj c) Z (vv 0) (bH<|dc (ag)<|ag) Z⟩) ar ax (λD=>rZ))
   (ae (lO<|dt 6 bZ.nd<|fM<|c4<|vv 5)
   (ae (bC aK<|bo bQ Z (MC re N.Fv re N.Fu<|c4<|vv 4) (c_ 7 bZ.nd) (ae (aJ<|dt 8 bZ.nd<|vv 5)
   (ae (HV (kb:=UK) (i:=5) bZ.nd Z (by first|exact WU Z|exact XZ Z) Z (g_ ["rests","columnsums","bounds","level","behind"] ["rests"] [1,2,7,8]) (aW (aL au aO (vv 3) (vv 7))) (λG C d s H=>⟨(c_ 0 eg),aZ,λD=>nU (b:=UK) (xj c) Z (vv 0) (vc (Ϗ (jQ K a).3 N) c<|lb (vv 0) (vc (Ϗ (cN K a).3 N) c<|xr (vv 0) (vv 1) (vv 2)<|vv 3)<|vv 4) Z⟩) ar ax (λD=>rZ))
   (am<|lR<|b6<|jh Wh Ws Wt eA (pv 6)<|c4<|vv 5))))
   (am<|aA<|aw<|Od (kb:=O) Z (g_ ["level","nodes","rests","counts"] ["level","nodes","rests","counts"] []) (pT re N.Fm<|c4<|CQ (vv 6)<|uJ mC qF<|ag) (λG C d s H=>⟨(bV Z<|aB (c_ 0 eg)<|aB (c_ 1 eg) bF),aZ,λD=>qy Z Z Z (BI<|vv 1) (bV Z<|aB (c_ 2 eg)<|aB (c_ 3 eg) bF) (aZ)<|nU (b:=O) (xj c) Z (bH<|dc (vv 0)<|vv 2) (vv 3) Z⟩) (de (aU ar<|aU ar cE)<|aS<|aS bY) (da<|aT ax<|aT ax cA) (λD=>rY (de (aU ar<|aU ar cE)<|aS<|aS bY) (da<|aT ax<|aT ax cA)<|rZ))))))⟩
theorem wH:ba [ya] [ya] (ak<|cp 45):=d_
def kN(K:Vb)(a:Ad):ϑ:=⟨_,QF K a 2 "paper_rows" a.Bw a.Bx ["counted"] 1,λN=>by
 exact fx 1 N.G7 wH λb A w s H E c=>am<|aA<|aw<|bp Z (g_ Β Β []) (BI<|vv 0) (λG C d s H=>⟨(bV Z<|aB (bV Z<|aB (c_ 0 eg)<|aB (c_ 1 eg) bF)<|aB (bV Z<|aB (c_ 2 eg)<|aB (c_ 3 eg) bF) bF),aZ,λD=>aN Z (bH<|xr (vv 0) (vv 1) (vv 2)<|vv 3) Z⟩) (de (aU (de (aU ar<|aU ar cE)<|aS<|aS bY)<|aU (de (aU ar<|aU ar cE)<|aS<|aS bY) cE)<|aS<|aS bY) (da<|aT (da<|aT ax<|aT ax cA)<|aT (da<|aT ax<|aT ax cA) cA) (λD=>aV)⟩
theorem uT:ba [jv] [jv] (ak<|cc (cp 46) 3):=d_
def jR(K:Vb)(a:Ad):ϑ:=⟨_,QM K a 2 a.Eu a.Ev [jv] 1,λN=>by
 exact hG (k:=1) 1 1 _ N.Ja uT Z Z λb A w s H E c=>am<|aA<|aw<|bK bT fN re N.Fq Boot.«list»<|c4<|cS N.J4 N.J9<|vv 0⟩
theorem o6:ba [jv] [jv] (ak<|cc (cp 61) 1):=d_
def qW(K:Vb)(a:Ad):ϑ:=⟨_,QM K a 2 a.Ew a.Ex [jv] 1,λN=>by
 exact hG (k:=1) 1 1 _ N.Jd o6 Z Z λb A w s H E c=>am<|aA<|aw<|bK bT fN re N.Fq Boot.«list»<|c4<|cS N.Ka N.Kh<|vv 0⟩
theorem qV:ba [jv] [jv] (ak<|cc (cp 46) 4):=d_
def fA(K:Vb)(a:Ad):ϑ:=⟨_,QM K a 2 a.Ey a.Ez [jv] 1,λN=>by
 exact hG (k:=1) 1 1 _ N.Jg qV Z Z λb A w s H E c=>am<|aA<|aw<|bK bT fN re N.Fq Boot.«list»<|c4<|cS N.J4 N.J6<|vv 0⟩
theorem mJ:ba [jv] [jv] (ak<|cc (cp 61) 2):=d_
def nM(K:Vb)(a:Ad):ϑ:=⟨_,QM K a 2 a.E2 a.E3 [jv] 1,λN=>by
 exact hG (k:=1) 1 1 _ N.Jj mJ Z Z λb A w s H E c=>am<|aA<|aw<|bK bT fN re N.Fq Boot.«list»<|c4<|cS N.Ka N.Kc<|vv 0⟩
theorem o5:ba Ζ Ζ (ak<|cp 48):=d_
def gC(K:Vb)(a:Ad):ϑ:=⟨_,QF K a 3 V' a.By a.Bz Ζ 2,λN=>by
 exact fx 2 N.G8 o5 λc A w s H E b=>am<|br (kD<|oR (aM (gc b) iB (eP N.J4 N.Jb (Ϣ (jR K a).3 N) (b.mono rb) (cK.nil N.Jc) dj (vv 0) Z)<|Nd (eP N.J4 N.Jb (Ϣ (jR K a).3 N) (b.mono rb) (cK.nil N.Jc) dj (vv 1) Z)<|eP N.Ka N.Je (Ϣ (qW K a).3 N) (b.mono rb) (cK.nil N.Jf) dj (vv 1) Z)<|nl<|aM (gc b) iB (eP N.J4 N.Jh (Ϣ (fA K a).3 N) (b.mono rb) (cK.nil N.Ji) dj (vv 0) Z)<|Nd (eP N.J4 N.Jh (Ϣ (fA K a).3 N) (b.mono rb) (cK.nil N.Ji) dj (vv 1) Z)<|eP N.Ka N.Jk (Ϣ (nM K a).3 N) (b.mono rb) (cK.nil N.Jl) dj (vv 1) Z) (am<|dJ)<|bc⟩
theorem rJ:ba Ε Ε (ak<|cc (cp 46) 6):=d_
def lX(K:Vb)(a:Ad):ϑ:=⟨_,QM K a 2 a.E8 a.E9 Ε 3,λN=>by
 exact hG (k:=1) 3 3 _ N.Js rJ Z Z λb A w s H E c=>am<|aA<|aw<|SN (r_ c) (cS N.J4 N.J7<|vv 0)<|dc (bH<|dc (vv 1)<|vv 2)<|bH<|dc (ag)<|ag⟩
theorem xV:ba Ε Ε (ak<|cc (cp 46) 9):=d_
def mv(K:Vb)(a:Ad):ϑ:=⟨_,QM K a 4 a.E6 a.E7 ["self","level","rests"] 3,λN=>by
 exact hG (k:=3) 3 3 _ N.Jp xV Z Z λd A w s H E b=>ae (br (kD<|oR (aM (u7 UK<|r_ b) NN (bH<|dc (vv 1)<|vv 2)<|cS N.J4 N.J7<|vv 0)<|nl<|aM (bA b) bU (vv 1)<|cW N.Fp<|c4<|cS N.J4 N.J6<|vv 0) (am<|aA<|aw<|fU<|d8)<|bc)
   (am<|aA<|aw<|bp Z (g_ ["counts","self","level","rests"] ["counts"] [0,1,2]) (aW<|vc (Ϗ (cN K a).3 N) b<|xr (vv 2) (cS N.J4 N.J6<|vv 0) (cS N.J4 N.J8<|vv 0)<|vv 1) (λP C e s H=>⟨(c_ 0 eg),kn<|aM gr i8 (aL au aO (oU N.J4 N.Jt (Ϣ (lX K a).3 N) (b.mono rb) (cK.nil N.Ju) w9 (vv 1) (dc (aD aI bu (vv 2)<|ag)<|vc (Ϗ (dL K a).3 N) b<|dc (vv 3)<|vv 0) (λG M r c h=>by rw[(bq<|bq C_) G M r c h];rfl))<|ag)<|ag,λD=>aN Z (vv 0) Z⟩) ar ax (λD=>aV))⟩
theorem zD:ba [mT,yc,"things"] [mT,yc,"things"] (ak<|cp 60):=d_
def nE(K:Vb)(a:Ad):ϑ:=⟨_,QF K a 2 "off_part" a.Cl a.Cm ["counts","products","things"] 3,λN=>by
 exact fx 3 N.Hg zD λb A w s H E c=>am<|aA<|aw<|f6 N.Fz<|c4<|bp Z (g_ ["count","product","things"] ["count","product"] [2]) (l7 re N.F5<|dc (vv 0)<|vv 1) (λG C d s H=>⟨(bV Z<|aB (c_ 0 eg)<|aB (c_ 1 eg) bF),aZ,λD=>aN Z (bL sC NR re N.Fj Boot.«abs»<|c4<|aD dQ fG (aD bM cF (vv 0)<|vv 2)<|vv 1) Z⟩) (de (aU ar<|aU ar cE)<|aS<|aS bY) (da<|aT ax<|aT ax cA) (λD=>aV)⟩
theorem gW:ba [mT,R',"count"] [mT] (ak<|cp 58):=d_
def kM(K:Vb)(a:Ad):ϑ:=⟨_,QF K a 3 "power_part" a.Ch a.Ci [mT] 1,λN=>by
 exact fx 3 N.He gW λb A w s H E c=>ae (aJ<|dt 1 gW.nd<|ag)
   (ae (bC aK<|bo bQ Z (aW<|vv 0) (c_ 2 gW.nd)<|am<|nC qG<|kT (i:=1) gW.nd Z (by first|exact WU Z|exact XZ Z) (vc (Ϗ (uX K a).3 N) c (dc (vv 2) (vv 2))) qK)
   (am<|aA<|aw<|vv 1))⟩
theorem uQ:ba [mT,yc,"even"] [mT,yc,"even"] (ak<|cp 59):=d_
def jP(K:Vb)(a:Ad):ϑ:=⟨_,QF K a 2 "square_part" a.Cj a.Ck ["counts","products","even"] 3,λN=>by
 exact fx 3 N.Hf uQ λb A w s H E c=>am<|aA<|aw<|f6 N.Fz<|c4<|bp Z (g_ ["count","product","even"] ["count","product"] [2]) (l7 re N.F5<|dc (vv 0)<|vv 1) (λG C d s H=>⟨(bV Z<|aB (c_ 0 eg)<|aB (c_ 1 eg) bF),kn<|aM gr i8 (vv 1)<|ag,λD=>aN Z (aD k6 pL (aD bM cF (aD bM cF (vv 0)<|vv 0)<|vv 2)<|vv 1) Z⟩) (de (aU ar<|aU ar cE)<|aS<|aS bY) (da<|aT ax<|aT ax cA) (λD=>aV)⟩
theorem lN:ba [jv,oG,mT,yc] [jv,oG,mT] (ak<|cc (cp 61) 3):=d_
def iX(K:Vb)(a:Ad):ϑ:=⟨_,QM K a 4 a.Fa a.Fb ["self","column","counts"] 3,λN=>by
 exact hG (k:=3) 3 4 _ N.Jv lN Z Z λc A w s H E b=>ae (br (aM (bA b) bU (cS N.Ka N.Kf<|vv 0)<|dS) (am<|aA<|aw<|vc (Ϗ (tJ K a).3 N) b<|c4<|vv 2)<|bc)
   (ae (br (aM (bA b) bU (cS N.Ka N.Kf<|vv 0)<|dS) (am<|aA<|aw<|vc (Ϗ (kM K a).3 N) b<|c4<|vv 2)<|bc)
   (ae (br (aM fi (lc (neg:=UK)) (cS N.Ka N.Kf<|vv 0)<|mz N.F6) (am<|aA<|aw<|CT (aM (bA b) bU (vv 1)<|aL au aO (cS N.Ka N.Kg<|vv 0)<|ag) (aL au aO (vv 2)<|aL au aO (cS N.Ka N.Kg<|vv 0)<|ag)<|ag)<|bc)
   (ae (xX (i:=3) lN.nd Z (by first|exact WU Z|exact XZ Z) Z (g_ ["across","self","column"] ["across"] [0,1]) (aW (cS N.Ka N.Kh (vv 0))) (λG C d s H=>⟨(c_ 0 eg),aZ,λD=>aN Z (aD bM cF (vv 0)<|aL au aO (cS N.Ka N.Kc<|vv 1)<|vv 2) Z⟩) ar ax (λD=>aV))
   (ae (br (aM (bA b) bU (cS N.Ka N.Kf<|vv 0)<|dS) (am<|aA<|aw<|vc (Ϗ (jP K a).3 N) b<|lb (vv 2) (vv 3)<|cS N.Ka N.Ke<|vv 0)<|bc)
   (am<|aA<|aw<|vc (Ϗ (nE K a).3 N) b<|lb (vv 2) (vv 3)<|f6 N.Fz<|c4<|cS N.Ka N.Kh<|vv 0)))))⟩
theorem rK:ba [jv] [jv] (ak<|cc (cp 61) 5):=d_
def fY(K:Vb)(a:Ad):ϑ:=⟨_,QM K a 2 a.Fc a.Fd [jv] 1,λN=>by
 exact hG (k:=1) 1 1 _ N.Jy rK Z Z λb A w s H E c=>am<|aA<|aw<|CT (aM fi (lc (neg:=UK)) (cS N.Ka N.Kf<|vv 0)<|mz N.F7) (ag)<|ag⟩
theorem oO:ba [jv,η,x9] [jv,η,x9] (ak<|cc (cp 61) 4):=d_
def ef(K:Vb)(a:Ad):ϑ:=⟨_,QM K a 2 a.Fe a.Ff [jv,η,x9] 3,λN=>by
 exact hG (k:=1) 3 3 _ N.J1 oO Z Z λb A w s H E c=>am<|aA<|aw<|CT (aM fi (lc (neg:=UK)) (cS N.Ka N.Kf<|vv 0)<|mz N.F7) (aD bM cF (vv 1)<|vv 2)<|aD aI bu (vv 1)<|vv 2⟩
theorem dN:ba Α [vR,lS,rm,mK,N'] (ak<|cp 49):=d_
def mo(K:Vb)(a:Ad):ϑ:=⟨_,QF K a 5 "node_ends" a.B0 a.B5 [vR,lS,rm,mK,N'] 5,λN=>by
 exact fx 11 N.G9 dN λd A G s H E c=>ae (br (aM (bA c) bU (vv 2)<|cW N.Fp<|c4<|eP N.J4 N.Jh (Ϣ (fA K a).3 N) (c.mono rb) (cK.nil N.Ji) dj (vv 0) Z) (am<|aA<|aw<|bH<|dc (eP N.Ka N.Jz (Ϣ (fY K a).3 N) (c.mono rb) (cK.nil N.J0) dj (vv 1) Z)<|eP N.Ka N.Jz (Ϣ (fY K a).3 N) (c.mono rb) (cK.nil N.J0) dj (vv 1) Z)<|bc)
   (ae (lO<|dt 5 dN.nd<|fM<|d8)
   (ae (lO<|dt 6 dN.nd<|fM<|d8)
   (ae (bC aK<|bo bQ Z (aW<|oU N.J4 N.Jq (Ϣ (mv K a).3 N) (c.mono rb) (cK.nil N.Jr) dj (vv 0) (dc (vv 2)<|vv 3) (λw D r b h=>by rw[(bq<|bq C_) w D r b h];rfl)) (c_ 7 dN.nd) (ae (DR (iz (bS aK<|bS aK gv)<|bP<|bP fq)<|cf (aL (gQ<|r_ c) kg (vv 4)<|bH<|dc (aD aI bu (vv 2)<|ag)<|vc (Ϗ (dL K a).3 N) c<|dc (vv 3)<|vv 7)<|bV Z<|aB (c_ 8 dN.nd)<|aB (c_ 9 dN.nd) bF)
   (ae (aJ<|dt 10 dN.nd<|oU N.Ka N.Jw (Ϣ (iX K a).3 N) (c.mono rb) (cK.nil N.Jx) dj (vv 1) (dc (vv 2)<|vv 7) (λw D r b h=>by rw[(bq<|bq C_) w D r b h];rfl))
   (ae (lR<|b6<|jh Wh Ws Wt eA (pv 5)<|c4<|oU N.Ka N.J2 (Ϣ (ef K a).3 N) (c.mono rb) (cK.nil N.J3) dj (vv 1) (dc (vv 10)<|vv 8) (λw D r b h=>by rw[(bq<|bq C_) w D r b h];rfl))
   (am<|lR<|b6<|jh Wh Ws Wt eA (pv 6)<|c4<|oU N.Ka N.J2 (Ϣ (ef K a).3 N) (c.mono rb) (cK.nil N.J3) dj (vv 1) (dc (vv 10)<|vv 9) (λw D r b h=>by rw[(bq<|bq C_) w D r b h];rfl))))))
   (am<|aA<|aw<|bH<|dc (bL (wv Z) JZ re N.Ft Boot.«min»<|c4<|vv 5)<|bL (ww Z) Km re N.Fs Boot.«max»<|c4<|vv 6))))⟩
theorem xW:ba [jv] [jv] (ak<|cc (cp 46) 10):=d_
def jg(K:Vb)(a:Ad):ϑ:=⟨_,QM K a 3 a.E4 a.E5 [jv] 1,λN=>by
 exact hG (k:=2) 1 1 _ N.Jm xW Z Z λb A w s H E c=>am<|aA<|aw<|vc (Ϗ (kN K a).3 N) c<|c4<|cS N.J4 N.J7<|vv 0⟩
theorem di:ba [vR,lS,N',rm,mK,"tables",UE] Ζ (ak<|cp 50):=d_
def iW(K:Vb)(a:Ad):ϑ:=⟨_,QF K a 6 "ends_by_node" a.B7 a.B8 Ζ 2,λN=>by
 exact fx 7 N.Ha di λd A w s H E c=>ae (ij<|b6<|vc (Ϗ (gC K a).3 N) c<|dc (vv 0)<|vv 1)
   (ae (wV<|dt 2 di.nd<|kX (b:=O))
   (ae (bC (iz (bS aK<|bS aK<|bS aK<|bS aK gv)<|bP<|bP<|bP<|bP fq)<|bo bQ Z (aW<|CQ (eP N.J4 N.Jn (Ϣ (jg K a).3 N) (c.mono rb) (cK.nil N.Jo) dj (vv 0) Z)<|uJ mC qF<|ag) (bV Z<|aB (c_ 3 di.nd)<|aB (c_ 4 di.nd)<|aB (c_ 5 di.nd)<|aB (c_ 6 di.nd) bF)<|am<|br (aM gr i8 (vv 5)<|ag) (am<|mS<|cf (vc (Ϗ (mo K a).3 N) c<|bD (vv 0)<|bD (vv 1)<|bD (vv 3)<|bD (vv 4)<|bD (vv 2)<|d8)<|cI (pv 2) (bH<|dc (vv 3)<|vv 4)<|gZ<|r_ c)<|bc)
   (am<|aA<|aw<|vv 2)))⟩
theorem z0:ba [vR,lS,N'] Ζ (ak<|cp 51):=d_
def tP(K:Vb)(a:Ad):ϑ:=⟨_,QF K a 7 "ends" a.Ca a.Cb ["net","measure"] 2,λN=>by
 exact fx 3 N.Hb z0 λc A w s H E b=>ae (aJ<|dt 2 z0.nd<|vc (Ϗ (iW K a).3 N) b<|dc (vv 0)<|vv 1)
   (am<|aA<|aw<|bp Z (g_ ["level","rests","tables","dealings","found"] Β [2]) (aW<|eP N.J4 N.Jn (Ϣ (jg K a).3 N) (b.mono rb) (cK.nil N.Jo) dj (vv 0) Z) (λG C d s H=>⟨(bV Z<|aB (c_ 0 eg)<|aB (c_ 1 eg)<|aB (c_ 2 eg)<|aB (c_ 3 eg) bF),kn<|aM gr i8 (vv 2)<|ag,λD=>aN Z (bH<|xr (vv 0) (vv 1) (aL au aO (aL (gQ<|r_ b) kg (vv 4)<|bH<|dc (vv 0)<|vv 1)<|ag)<|aL au aO (aL (gQ<|r_ b) kg (vv 4)<|bH<|dc (vv 0)<|vv 1)<|ag) Z⟩) (de (aU ar<|aU ar<|aU ar<|aU ar cE)<|aS<|aS<|aS<|aS bY) (da<|aT ax<|aT ax<|aT ax<|aT ax cA) (λD=>aV))⟩
theorem xU:ba [vR,lS,vT] [vR,lS,vT] (ak<|cp 52):=d_
def jf(K:Vb)(a:Ad):ϑ:=⟨_,QF K a 8 "ends_hold" a.Cc a.Cd [vR,lS,vT] 3,λN=>by
 exact fx 3 N.Hc xU λc A w s H E b=>am<|aA<|aw<|jd (bA b) bU (vv 2)<|vc (Ϗ (tP K a).3 N) b<|dc (vv 0)<|vv 1⟩
theorem fV:ba [Y',R',D'] [Y'] (ak<|cp 57):=d_
noncomputable def eQ(K:Vb)(a:Ad):ϑ:=⟨_,QF K a 3 "least_common" a.Cf a.Cg [Y'] 1,λN=>by
 exact fx 3 N.Hd fV λb A w s H E c=>ae (aJ<|dt 1 fV.nd<|ag)
   (ae (bC aK<|bo bQ Z (aW<|vv 0) (c_ 2 fV.nd)<|am<|aJ<|dt 1 fV.nd<|aD k6 pL (aD bM cF (vv 1)<|vv 2)<|vc (Ϗ (im K a).3 N) c<|dc (vv 1)<|vv 2)
   (am<|aA<|aw<|vv 1))⟩
theorem HN:ba [mQ,yd] [mQ,yd] (ak<|cp 65):=d_
def gi(K:Vb)(a:Ad)(b:ϋ->M D):G:=
  aP (pa (za<|aX xi<|af (ac 1)<|af (aX fZ<|af (fC<|.ty lQ)<|af (fC<|.ty lP)<|az)<|az) (aP (pa (vn (fB<|f2 (iu) (aX lf<|af (ac 1)<|af (fC<|.ty lQ)<|az)<|aX lf<|af (ac 0)<|af (fC<|.ty lQ)<|az)<|fB<|f2 (iu) (aX lf<|af (ac 1)<|af (fC<|.ty lP)<|az)<|aX lf<|af (ac 0)<|af (fC<|.ty lP)<|az) (eW<|fC<|.bl UK)<|gNil)
  (aP (pa (fB<|f2 (iu) (aX fF<|af (ac 0)<|az)<|aX fF<|af (ac 1)<|az) (eW<|fC<|.bl UK)<|gNil)
  (eW<|f2 (x4 O) (fC<|.bl UK)<|c9 2 [] (nX<|af (ac 0)<|af (ac 1)<|az) (O_<|fj (gt 0)<|fj (gt 1) kC) (λ_=>M.ret O)<|j0<|bW b<|af (ac 0)<|af (ac 1)<|az)))<|gNil)
  (aP (pa (fB<|f2 (EX) (ac 1)<|fC .non) (eW<|f2 (EX) (ac 0)<|fC .non)<|gNil)
  (aP (pa (vn (fB<|f2 (iu) (aX lf<|af (ac 1)<|af (fC<|.ty AA)<|az)<|aX lf<|af (ac 0)<|af (fC<|.ty AA)<|az)<|fB<|f2 (iu) (aX lf<|af (ac 1)<|af (fC<|.ty L')<|az)<|aX lf<|af (ac 0)<|af (fC<|.ty L')<|az) (eW<|fC<|.bl UK)<|gNil)
  (eW<|FM (aX xi<|af (ac 0)<|af (aX fZ<|af (fC<|.ty O')<|af (fC<|.ty AA)<|az)<|az)<|f2 (dE) (ac 0)<|ac 1)))
def cz(K:Vb)(a:Ad):Nat->ϋ->M D
 |0=>λ_=>M.fail
 |n+1=>fK 2<|gi K a<|cz K a n
theorem tW(N:zi K mg a):∀n,fw P w K mg aa (hO P w) (n+1) a.Cr a.Cs [mQ,yd]<|P_ K 2<|cz K a n
 |0=>⟨λS H Q E h=>h.1,λA G s H M p S Q E c i j r h=>by
  obtain⟨_,F,q,t,_,_,l,V,e,_⟩:=h;cases e⟩
 |n+1=>by
  have f:=tW N n;unfold cz;exact hG (k:=n+1) 2 2 (gi K a<|cz K a n) N.Hj.F HN Z Z λg A G s H E c=>ae (br (sM<|bL uy Kn re N.Fo Boot.«isinstance»<|dc (vv 1)<|bH<|dc (sA (d:= .ty lQ) (dZ (v:= .ty lQ) re N.Fq Boot.«list» rfl) (λ_ _=>Z))<|sA (d:= .ty lP) (dZ (v:= .ty lP) re N.F4 Boot.«tuple» rfl) (λ_ _=>Z)) (ae (br (kD<|oR (aM (gc c) iB (oV N.Fo<|dc (vv 1)<|sA (d:= .ty lQ) (dZ (v:= .ty lQ) re N.Fq Boot.«list» rfl) (λ_ _=>Z))<|oV N.Fo<|dc (vv 0)<|sA (d:= .ty lQ) (dZ (v:= .ty lQ) re N.Fq Boot.«list» rfl) (λ_ _=>Z))<|nl<|aM (gc c) iB (oV N.Fo<|dc (vv 1)<|sA (d:= .ty lP) (dZ (v:= .ty lP) re N.F4 Boot.«tuple» rfl) (λ_ _=>Z))<|oV N.Fo<|dc (vv 0)<|sA (d:= .ty lP) (dZ (v:= .ty lP) re N.F4 Boot.«tuple» rfl) (λ_ _=>Z)) (am<|aA<|aw<|rC)<|bc)
   (ae (br (aM (gc c) iB (cW N.Fp<|c4<|vv 0)<|cW N.Fp<|c4<|vv 1) (am<|aA<|aw<|rC)<|bc)
   (am<|aA<|aw<|jd kY (lc (neg:=O)) (rC)<|bp Z (g_ [mU,mP] [mU,mP] []) (l7 re N.F5<|dc (vv 0)<|vv 1) (λu C o s H=>⟨(bV Z<|aB (c_ 0 eg)<|aB (c_ 1 eg) bF),aZ,λD=>aN Z (GO f (c.mono<|UV _) re N.Hj.m N.Hj.F.kp N.Hj.b w9 (dc (vv 0)<|vv 1)<|bq<|bq C_) Z⟩) (de (aU ar<|aU ar cE)<|aS<|aS bY) (da<|aT ax<|aT ax cA) (λD=>aV))))<|bc)
   (ae (br (aM yq EO (vv 1)<|CS) (am<|aA<|aw<|jd yq EO (vv 0)<|CS)<|bc)
   (ae (br (kD<|oR (aM (gc c) iB (oV N.Fo<|dc (vv 1)<|sA (d:= .ty AA) (dZ (v:= .ty AA) re N.Fy Boot.«str» rfl) (λ_ _=>Z))<|oV N.Fo<|dc (vv 0)<|sA (d:= .ty AA) (dZ (v:= .ty AA) re N.Fy Boot.«str» rfl) (λ_ _=>Z))<|nl<|aM (gc c) iB (oV N.Fo<|dc (vv 1)<|sA (d:= .ty L') (dZ (v:= .ty L') re N.Fl Boot.«bool» rfl) (λ_ _=>Z))<|oV N.Fo<|dc (vv 0)<|sA (d:= .ty L') (dZ (v:= .ty L') re N.Fl Boot.«bool» rfl) (λ_ _=>Z)) (am<|aA<|aw<|rC)<|bc)
   (am<|aA<|aw<|SO (bL uy Kn re N.Fo Boot.«isinstance»<|dc (vv 0)<|bH<|dc (sA (d:= .ty O') (dZ (v:= .ty O') re N.Fn Boot.«int» rfl) (λ_ _=>Z))<|sA (d:= .ty AA) (dZ (v:= .ty AA) re N.Fy Boot.«str» rfl) (λ_ _=>Z))<|SM<|jd (bA c) bU (vv 0)<|vv 1)))
theorem v7(N:zi K mg a):FB P w K mg aa 7 "_law_same" a.Cr a.Cs [mQ,yd] 2 (cz K a 5):=⟨(tW N 5).mono rb,N.Hj.m,N.Hj.F.kp,N.Hj.b⟩
theorem ju:ba [cb,jZ,mM,P',ek,"_law_thing",vV,tw] [cb,jZ,mM,P'] (ak<|cp 66):=d_
def sj(K:Vb)(a:Ad):G:=
  aP (sk 4<|iI 1 [2] (dm g0<|af (ac 1)<|az) (gt 0) (λ_=>M.ret O)<|sE<|EB (af (fC<|.int 0)<|az)<|ac 1)
  (aP (MJ (dm g0<|af (ac 3)<|az) (sgN 5) (aP (dB 6<|bW dT<|af (ac 0)<|af (ac 1)<|az)
  (aP (dB 7<|bW dT<|af (ac 0)<|af (ac 2)<|az)
  (oq 4 (ac 6) (ac 7)<|f2 dG (f2 f0 (f2 f0 (ac 4)<|ac 6)<|ac 7)<|fC<|.int 1))))
  (eW<|ac 4))
def gh(K:Vb)(a:Ad):ϋ->M D:=fK 8<|sj K a
theorem jz(N:zi K mg a):FB P w K mg aa 3 "_law_grid" a.Ct a.Cu [cb,jZ,mM,P'] 4 (gh K a):=⟨by
 unfold gh
 exact hG (k:=2) 4 8 (sj K a) N.Hk.F ju Z Z λd A G s H E c=>ae (tz (i:=4) ju.nd Z (by first|exact WU Z|exact XZ Z) Z (g_ ["_law_row",mM] ["_law_row"] [2]) (cJ re N.Fu (c4 (vv 1))) (λM C e s H=>⟨(c_ 0 eg),aZ,λD=>aN Z (Tm (c4<|ag)<|vv 1) Z⟩) ar ax (λD=>mZ))
   (ae (bC aK<|bo bQ Z (cJ re N.Fu<|c4<|vv 3) (c_ 5 ju.nd) (ae (aJ<|dt 6 ju.nd<|vc (bj N) c<|dc (vv 0)<|vv 1)
   (ae (aJ<|dt 7 ju.nd<|vc (bj N) c<|dc (vv 0)<|vv 2)
   (am<|gG<|cf (aD aI bu (aL au aO (aL au aO (vv 4)<|vv 6)<|vv 7)<|ag)<|cI (dD b9 (pv 4) (vv 6) (λ_ _=>Z)) (vv 7) cY))))
   (am<|aA<|aw<|vv 4)),N.Hk.m,N.Hk.F.kp,N.Hk.b⟩
theorem j5:ba [cb,UG,jZ,mM] [cb] (ak<|cp 67):=d_
def pU(K:Vb)(a:Ad):G:=
  aP (dB 1<|bW dT<|af (ac 0)<|af (fC<|.int 8)<|az)
  (aP (pa (fB<|f2 (dE) (ac 1)<|fC<|.int 0) (eW<|bW (gh K a)<|af (ac 0)<|af (fC<|.int 4)<|af (fC<|.int 6)<|af (bW dT<|af (ac 0)<|af (fC<|.int 5)<|az)<|az)<|gNil)
  (aP (pa (fB<|f2 (dE) (ac 1)<|fC<|.int 1) (eW<|bW (gh K a)<|af (ac 0)<|af (fC<|.int 1)<|af (f2 dG (fC<|.int 1)<|bW dT<|af (ac 0)<|af (fC<|.int 6)<|az)<|af (bW dT<|af (ac 0)<|af (fC<|.int 8)<|az)<|az)<|gNil)
  (aP (pa (fB<|f2 (dE) (ac 1)<|fC<|.int 2) (eW<|bW (gh K a)<|af (ac 0)<|af (f2 dG (fC<|.int 1)<|bW dT<|af (ac 0)<|af (fC<|.int 4)<|az)<|af (fC<|.int 1)<|af (bW dT<|af (ac 0)<|af (fC<|.int 8)<|az)<|az)<|gNil)
  (aP (dB 2<|f2 dG (fC<|.int 2)<|bW dT<|af (ac 0)<|af (fC<|.int 2)<|az)
  (aP (dB 3<|f2 dG (fC<|.int 2)<|bW dT<|af (ac 0)<|af (fC<|.int 3)<|az)
  (eW<|bW (gh K a)<|af (ac 0)<|af (ac 2)<|af (ac 3)<|af (bW dT<|af (ac 0)<|af (fC<|.int 8)<|az)<|az))))))
def l5(K:Vb)(a:Ad):ϋ->M D:=fK 4<|pU K a
theorem DZ(N:zi K mg a):FB P w K mg aa 4 "_law_small" a.Cv a.Cw [cb] 1 (l5 K a):=⟨by
 unfold l5
 exact hG (k:=3) 1 4 (pU K a) N.Hl.F j5 Z Z λd A D s H E c=>ae (aJ<|dt 1 j5.nd<|vc (bj N) c<|dc (vv 0)<|ag)
   (ae (br (aM (bA c) bU (vv 1)<|ag) (am<|aA<|aw<|vc (jz N) c<|xr (vv 0) (ag) (ag)<|vc (bj N) c<|dc (vv 0)<|ag)<|bc)
   (ae (br (aM (bA c) bU (vv 1)<|ag) (am<|aA<|aw<|vc (jz N) c<|xr (vv 0) (ag) (aD aI bu (ag)<|vc (bj N) c<|dc (vv 0)<|ag)<|vc (bj N) c<|dc (vv 0)<|ag)<|bc)
   (ae (br (aM (bA c) bU (vv 1)<|ag) (am<|aA<|aw<|vc (jz N) c<|xr (vv 0) (aD aI bu (ag)<|vc (bj N) c<|dc (vv 0)<|ag) (ag)<|vc (bj N) c<|dc (vv 0)<|ag)<|bc)
   (ae (aJ<|dt 2 j5.nd<|aD aI bu (ag)<|vc (bj N) c<|dc (vv 0)<|ag)
   (ae (aJ<|dt 3 j5.nd<|aD aI bu (ag)<|vc (bj N) c<|dc (vv 0)<|ag)
   (am<|aA<|aw<|vc (jz N) c<|xr (vv 0) (vv 2) (vv 3)<|vc (bj N) c<|dc (vv 0)<|ag)))))),N.Hl.m,N.Hl.F.kp,N.Hl.b⟩
theorem zE:ba [jZ] [jZ] (ak<|cp 68):=d_
def tL(K:Vb)(a:Ad):ϑ:=⟨_,QF K a 2 "_law_turned" a.Cy a.Cz ["_law_block"] 1,λN=>by
 exact fx 1 N.Hm zE λb A w s H E d=>am<|aA<|aw<|bp Z (g_ ["_law_to","_law_block"] ["_law_to"] [0]) (cJ re N.Fu<|c4<|cW N.Fp<|c4<|aL au aO (vv 0)<|ag) (λG C c s H=>⟨(c_ 0 eg),aZ,λD=>aN Z (bp Z (g_ ["_law_row","_law_to"] ["_law_row"] [0]) (aW<|vv 1) (λG C c s H=>⟨(c_ 0 eg),aZ,λD=>aN Z (aL au aO (vv 0)<|vv 1) Z⟩) ar ax (λD=>aV)) Z⟩) ar ax (λD=>aV)⟩
theorem xT:ba [ek] [ek] (ak<|cp 69):=d_
def gH(K:Vb)(a:Ad):ϑ:=⟨_,QF K a 2 "_law_rowsums" a.C0 a.C2 ["_law_grid_here"] 1,λN=>by
 exact fx 1 N.Hn xT λb A w s H E c=>am<|aA<|aw<|bp Z (g_ ["_law_row"] ["_law_row"] []) (aW<|vv 0) (λG C d s H=>⟨(c_ 0 eg),aZ,λD=>aN Z (f6 N.Fz<|c4<|vv 0) Z⟩) ar ax (λD=>aV)⟩
theorem sY:ba [ek] [ek] (ak<|cp 70):=d_
def eS(K:Vb)(a:Ad):ϑ:=⟨_,QF K a 3 "_law_columnsums" a.C3 a.C4 ["_law_grid_here"] 1,λN=>by
 exact fx 1 N.Ho sY λb A w s H E c=>am<|aA<|aw<|bp Z (g_ ["_law_column"] ["_law_column"] []) (aW<|vc (Ϗ (tL K a).3 N) c<|c4<|vv 0) (λG C d s H=>⟨(c_ 0 eg),aZ,λD=>aN Z (f6 N.Fz<|c4<|vv 0) Z⟩) ar ax (λD=>aV)⟩
theorem HR:ba [jZ,mM] [jZ,mM] (ak<|cp 71):=d_
def wj(K:Vb)(a:Ad):G:=
  pW (iI 1 [1] (dm g0<|af (ac 0)<|az) (gt 0) (λ_=>M.ret O)<|sE<|jH 1 [] (dm g0<|af (ac 1)<|az) (gt 0) (λ_=>M.ret O)<|j0<|aX fZ<|af (fC<|.int 0)<|af (fC<|.int 40)<|az)
def pG(K:Vb)(a:Ad):ϋ->M Ϝ:=qS 2<|wj K a
theorem DY(N:zi K mg a):fw P w K mg aa (hO P w) 2 a.C5 a.C6 [jZ,mM] (spG K 2<|pG K a):=by
 unfold pG;exact Ps (k:=1) 2 2 (wj K a) N.Hq.F HR Z Z λb A G s H E d=>am<|OA<|aw<|Se Z (g_ [vV,mM] [vV] [1]) (cJ re N.Fu<|c4<|vv 0) (λM C c s H=>⟨(c_ 0 eg),aZ,λD=>aN Z (Ra Z (g_ [tw] [tw] []) (cJ re N.Fu<|c4<|vv 1) (λM C c s H=>⟨(c_ 0 eg),aZ,λD=>aN Z (bH<|dc (ag)<|ag) Z⟩) ar ax (λD=>aV)) Z⟩) ar ax (λD=>mZ)
theorem eD:ba [cb,ek,ι,vV,"_law_row",tw,pe,UG] [cb,ek] (ak<|cp 72):=d_
def j8(K:Vb)(a:Ad):ϑ:=⟨_,QF K a 3 "_law_bounds" a.C7 a.C8 [cb,ek] 2,λN=>by
 exact fx 8 N.Hr eD λd A w s H E c=>ae (Nm<|dt 2 eD.nd<|Sf (DY N) (c.mono rb) re N.Hq.m N.Hq.F.kp N.Hq.b dj (dc (cW N.Fp<|c4<|vv 1)<|cW N.Fp<|c4<|aL au aO (vv 1)<|ag)<|bq<|bq C_)
   (ae (br (aM (bA c) bU (vc (bj N) c<|dc (vv 0)<|ag)<|ag) (am<|aA<|aw<|vv 2)<|bc)
   (ae (bC (iz (bS aK<|bS aK gv)<|bP<|bP fq)<|bo bQ Z (pT re N.Fm<|c4<|vv 1) (bV Z<|aB (c_ 3 eD.nd)<|aB (c_ 4 eD.nd) bF)<|am<|bC (iz (bS aK<|bS aK gv)<|bP<|bP fq)<|bo bQ Z (pT re N.Fm<|c4<|vv 4) (bV Z<|aB (c_ 5 eD.nd)<|aB (c_ 6 eD.nd) bF) (ae (aJ<|dt 7 eD.nd<|vc (bj N) c<|dc (vv 0)<|ag)
   (ae (br (aM (bA c) bU (vv 7)<|ag) (am<|gG<|cf (bH<|dc (aD dQ fG (vv 6)<|vc (bj N) c<|dc (vv 0)<|aD aI bu (vv 6)<|ag)<|bL (mh Z) xh re N.Ft Boot.«min»<|dc (ag)<|aD aI bu (vv 6)<|vc (bj N) c<|dc (vv 0)<|ag)<|cI (dD b9 (pv 2) (vv 3) (λ_ _=>Z)) (vv 5) cY)<|bc)
   (am<|br (aM (bA c) bU (vv 7)<|ag) (am<|gG<|cf (bH<|dc (ag)<|bL (wx Z) NP re N.Fs Boot.«max»<|dc (vv 6)<|vc (bj N) c<|dc (vv 0)<|ag)<|cI (dD b9 (pv 2) (vv 3) (λ_ _=>Z)) (vv 5) cY)<|bc))))
   (am<|aA<|aw<|vv 2)))⟩
theorem zG:ba [jZ] [jZ] (ak<|cp 73):=d_
def tM(K:Vb)(a:Ad):ϑ:=⟨_,QF K a 2 "_law_copied" a.C9 a.Da ["_law_block"] 1,λN=>by
 exact fx 1 N.Ht zG λb A w s H E c=>am<|aA<|aw<|bp Z (g_ ["_law_row"] ["_law_row"] []) (aW<|vv 0) (λG C d s H=>⟨(c_ 0 eg),aZ,λD=>aN Z (bK bT fN re N.Fq Boot.«list»<|c4<|vv 0) Z⟩) ar ax (λD=>aV)⟩
theorem f9:ba [tA,oE,"_law_pairs",mQ,"_law_rest","_law_duo","_law_longer",mU,pe] [tA,oE,"_law_pairs"] (ak<|cp 74):=d_
def mW(K:Vb)(a:Ad):ϑ:=⟨_,QF K a 2 "_law_fit" a.Db a.Dc ["_law_rests","_law_lot","_law_pairs"] 3,λN=>by
 exact fx 9 N.Hu f9 λb A w s H E c=>ae (aJ<|dt 3 f9.nd<|fU<|c4<|fU<|d8)
   (ae (bC (iz (bS aK<|bS aK gv)<|bP<|bP fq)<|bo bQ Z (l7 re N.F5<|dc (vv 0)<|vv 2) (bV Z<|aB (c_ 4 f9.nd)<|aB (c_ 5 f9.nd) bF) (ae (lO<|dt 6 f9.nd<|fM<|d8)
   (ae (bC aK<|bo bQ Z (aW<|vv 3) (c_ 7 f9.nd)<|am<|bC aK<|bo bQ Z (oj re N.Fu<|dc (aL au aO (vv 5)<|ag)<|aD aI bu (bL (mh Z) xh re N.Ft Boot.«min»<|dc (aL au aO (vv 5)<|ag)<|vv 4)<|ag) (c_ 8 f9.nd)<|am<|lR<|b6<|jh Wh Ws Wt eA (pv 6)<|c4<|aD aI bu (vv 7)<|fU<|c4<|vv 8)
   (ye 6<|am<|aJ<|dt 3 f9.nd<|vv 6))))
   (am<|aA<|aw<|bp Z (g_ ["_law_one","_law_lot"] ["_law_one"] [1]) (aW<|vv 3) (λG C d s H=>⟨(c_ 0 eg),kn<|aM (bA c) bU (f6 N.Fz<|c4<|vv 0)<|vv 1,λD=>aN Z (vv 0) Z⟩) ar ax (λD=>aV)))⟩
theorem HP:ba [tA,oF] [tA,oF] (ak<|cp 75):=d_
def kO(K:Vb)(a:Ad):ϑ:=⟨_,QF K a 2 "_law_less" a.Dd a.Df ["_law_rests","_law_column"] 2,λN=>by
 exact fx 2 N.Hv HP λb A w s H E c=>am<|aA<|aw<|bp Z (g_ ["_law_rest","_law_count"] ["_law_rest","_law_count"] []) (l7 re N.F5<|dc (vv 0)<|vv 1) (λG C d s H=>⟨(bV Z<|aB (c_ 0 eg)<|aB (c_ 1 eg) bF),aZ,λD=>aN Z (aD dQ fG (vv 0)<|vv 1) Z⟩) (de (aU ar<|aU ar cE)<|aS<|aS bY) (da<|aT ax<|aT ax cA) (λD=>aV)⟩
theorem gq:ba [oE,mQ,"_law_k"] [oE] (ak<|cp 76):=d_
def gY(K:Vb)(a:Ad):ϑ:=⟨_,QF K a 2 ζ a.Dg a.Dh [oE] 1,λN=>by
 exact fx 3 N.Hw gq λb A w s H E c=>ae (aJ<|dt 1 gq.nd<|ag)
   (ae (bC aK<|bo bQ Z (oj re N.Fu<|dc (ag)<|aD aI bu (vv 0)<|ag) (c_ 2 gq.nd)<|am<|aJ<|dt 1 gq.nd<|aD bM cF (vv 1)<|vv 2)
   (am<|aA<|aw<|vv 1))⟩
theorem lI:ba [HS,"_law_under",ε] [HS] (ak<|cp 77):=d_
def nF(K:Vb)(a:Ad):ϑ:=⟨_,QF K a 3 "_law_ways" a.Di a.Dj [HS] 1,λN=>by
 exact fx 3 N.Hx lI λc A w s H E b=>ae (aJ<|dt 1 lI.nd<|ag)
   (ae (bC aK<|bo bQ Z (aW<|vv 0) (c_ 2 lI.nd)<|am<|aJ<|dt 1 lI.nd<|aD bM cF (vv 1)<|vc (Ϗ (gY K a).3 N) b<|c4<|vv 2)
   (am<|aA<|aw<|aD k6 pL (vc (Ϗ (gY K a).3 N) b<|c4<|f6 N.Fz<|c4<|vv 0)<|vv 1))⟩
theorem nB:ba [mU,mP,"_law_kept"] [mU,mP] (ak<|cp 78):=d_
def uZ(K:Vb)(a:Ad):ϑ:=⟨_,QF K a 2 "_law_gcd" a.Dl a.Dm [mU,mP] 2,λN=>by
 exact fx 3 N.Hy nB λb A w s H E c=>ae (z5 bQ (aM gr i8 (vv 1)<|ag) (ae (aJ<|dt 2 nB.nd<|aD kZ NO (vv 0)<|vv 1)
   (ae (aJ<|dt 0 nB.nd<|vv 1)
   (am<|aJ<|dt 1 nB.nd<|vv 2))))
   (am<|aA<|aw<|vv 0)⟩
theorem HQ:ba [cb] [cb] (ak<|cp 79):=d_
def kQ(K:Vb)(a:Ad):ϑ:=⟨_,QF K a 3 "_law_kind" a.Do a.Dp [cb] 1,λN=>by
 exact fx 1 N.Hz HQ λb A w s H E c=>am<|aA<|aw<|aL au aO (fU<|bD (dS)<|bD (dS)<|bD (dS)<|bD (dS)<|bD (dS)<|bD (dS)<|d8)<|vc (bj N) c<|dc (vv 0)<|ag⟩
theorem sX:ba [cb,ek,vV] [cb,ek] (ak<|cp 80):=d_
def lV(K:Vb)(a:Ad):ϑ:=⟨_,QF K a 3 "_law_place" a.Dq a.Dr [cb,ek] 2,λN=>by
 exact fx 3 N.Ia sX λc A w s H E b=>ae (aJ<|dt 2 sX.nd<|vc (bj N) b<|dc (vv 0)<|cW N.Fp<|c4<|vv 1)
   (am<|aA<|aw<|bH<|dc (vv 2)<|vc (bj N) b<|dc (vv 0)<|cW N.Fp<|c4<|aL au aO (vv 1)<|ag)⟩
theorem hX:ba [jw,ik,mQ,mU,mP,ν] [jw,ik] (ak<|cp 81):=d_
def rR(K:Vb)(a:Ad):ϑ:=⟨_,QF K a 3 "_law_even" a.Dt a.Du [jw,ik] 2,λN=>by
 exact fx 6 N.Ib hX λb A w s H E c=>ae (aJ<|dt 2 hX.nd<|ag)
   (ae (bC aK<|bo bQ Z (aW<|vv 0) (c_ 3 hX.nd)<|am<|bC aK<|bo bQ Z (aW<|vv 1) (c_ 4 hX.nd) (ae (aJ<|dt 5 hX.nd<|aD bM cF (vv 3)<|vv 4)
   (am<|br (aM gr i8 (vv 5)<|ag) (am<|aJ<|dt 2 hX.nd<|aD k6 pL (aD bM cF (vv 2)<|vv 5)<|vc (Ϗ (uZ K a).3 N) c<|dc (vv 2)<|vv 5)<|bc)))
   (am<|aA<|aw<|vv 2))⟩
theorem fW:ba [pe,mQ,"_law_k"] [pe] (ak<|cp 82):=d_
def iU(K:Vb)(a:Ad):ϑ:=⟨_,QF K a 2 W' a.Dv a.Dw [pe] 1,λN=>by
 exact fx 3 N.Id fW λb A w s H E c=>ae (aJ<|dt 1 fW.nd<|ag)
   (ae (bC aK<|bo bQ Z (cJ re N.Fu<|c4<|vv 0) (c_ 2 fW.nd)<|am<|aJ<|dt 1 fW.nd<|aD bM cF (vv 1)<|vv 0)
   (am<|aA<|aw<|vv 1))⟩
theorem lM:ba [jv,i',fg,jW,"settled"] [jv,i',fg,jW] (ak<|cc (cp 46) 0):=d_
def yT(K:Vb)(a:Ad):IP:=
  kh (dB 4<|bW (eK K a).1<|af (ac 1)<|af (ac 2)<|af (ac 3)<|az)
  (kh (ou<|bW (gJ K a).1<|af (ac 1)<|af (ac 2)<|af (ac 4)<|az)
  (gx (aX qC<|af (ac 1)<|az)
  (gx (aX qC<|af (ac 2)<|az)
  (gx (ac 4)
  (gx (bW (fX K a).1<|af (ac 1)<|af (ac 2)<|af (ac 4)<|az)
  (EY))))))
def t0(K:Vb)(a:Ad):ϋ->M ϋ:=oi 5<|yT K a
theorem OU(N:zi K mg a):fw P w K mg aa (hO P w) 6 a.Ep a.Er [jv,i',fg,jW] (spI K a.Ae [td,oJ,F',ya] 3<|t0 K a):=by
 exact BO 3 5 _ N.Iw lM Z Z λc A D s H E b=>uo (aJ<|dt 4 lM.nd<|vc (Ϗ (eK K a).3 N) b<|lb (vv 1) (vv 2)<|vv 3)
   (uo (ij<|b6<|vc (Ϗ (gJ K a).3 N) b<|lb (vv 1) (vv 2)<|vv 4)
   (kj N.J4 N.J9 rb rb (ir (pv 0) (bK bT fN re N.Fq Boot.«list»<|c4<|vv 1) Z)
   (kj N.J4 N.J6 rb rb (ir (pv 0) (bK bT fN re N.Fq Boot.«list»<|c4<|vv 2) Z)
   (kj N.J4 N.J8 rb rb (ir (pv 0) (vv 4) Z)
   (kj N.J4 N.J7 rb rb (ir (pv 0) (vc (Ϗ (fX K a).3 N) b<|lb (vv 1) (vv 2)<|vv 4) Z)
   (NV))))))
theorem LE:ba [ek,jX] [ek,jX] (ak<|cp 83):=d_
def uY(K:Vb)(a:Ad):ϑ:=⟨_,QF K a 8 "_law_net" a.Dx a.Dy [ek,jX] 2,λN=>by
 exact fx 2 N.Ie LE λc A w s H E b=>am<|aA<|aw<|zP N.Ix (OU N) (b.mono rb) re N.J5 N.Iy dj (dc (vc (Ϗ (gH K a).3 N) b<|c4<|vv 0)<|vc (Ϗ (eS K a).3 N) b<|c4<|vv 0) (zO (vc (Ϗ (tM K a).3 N) b<|c4<|vv 1)<|GM) (bq<|bq C_) (bq C_) Z⟩
theorem oP:ba Θ Θ (ak<|cc (cp 61) 0):=d_
def uk(K:Vb)(a:Ad):IP:=
  kh (ou<|bW (gb K a).1<|af (ac 2)<|af (ac 3)<|az)
  (kh (pa (fB<|f2 (x4 O) (ac 1)<|fC<|.tup [.str<|Vc zT,.str<|Vc HW,.str<|Vc tq,.str<|Vc "off",.str<|Vc G',.str<|Vc vS]) (KI)<|gNil)
  (kh (pa (fB<|f2 (x4 UK) (ac 1)<|fC<|.tup [.str<|Vc G',.str<|Vc vS]) (ou<|bW (iq K a).1<|af (f2 f0 (ac 4)<|fC<|.int 0)<|af (f2 f0 (ac 4)<|fC<|.int 1)<|af (aX fF<|af (ac 2)<|az)<|af (aX fF<|af (ac 3)<|az)<|az)<|gNil)
  (gx (ac 1)
  (gx (aX qC<|af (ac 2)<|az)
  (gx (aX qC<|af (ac 3)<|az)
  (gx (ac 4)
  (gx (bW (eQ K a).1<|af (c9 2 [3] (cR<|ac 2) (gt 0) (λ_=>M.ret O)<|M_ (cR<|ac 2) (gt 1) (fB<|f2 (B_) (f2 db (ac 0)<|ac 1)<|fC<|.int 0)<|j0<|f2 db (ac 0)<|ac 1)<|az)
  (EY))))))))
def nY(K:Vb)(a:Ad):ϋ->M ϋ:=oi 5<|uk K a
theorem zH(N:zi K mg a):fw P w K mg aa (hO P w) 4 a.Es a.Et Θ (spI K a.Af [Z',td,oJ,rh,"even"] 4<|nY K a):=by
 unfold nY
 exact BO (k:=3) 4 5 (uk K a) N.Iz oP Z Z λc A G s H E b=>uo (ij<|b6<|vc (Ϗ (gb K a).3 N) b<|dc (vv 2)<|vv 3)
   (uo (br (aM kY (lc (neg:=O)) (vv 1)<|mz N.F8) (am<|dJ)<|bc)
   (uo (br (aM fi (lc (neg:=UK)) (vv 1)<|mz N.F6) (am<|ij<|b6<|vc (Ϗ (iq K a).3 N) b<|xr (aL au aO (vv 4)<|ag) (aL au aO (vv 4)<|ag) (cW N.Fp<|c4<|vv 2)<|cW N.Fp<|c4<|vv 3)<|bc)
   (kj N.Ka N.Kf rb rb (ir (pv 0) (vv 1) Z)
   (kj N.Ka N.Kh rb rb (ir (pv 0) (bK bT fN re N.Fq Boot.«list»<|c4<|vv 2) Z)
   (kj N.Ka N.Kc rb rb (ir (pv 0) (bK bT fN re N.Fq Boot.«list»<|c4<|vv 3) Z)
   (kj N.Ka N.Kg rb rb (ir (pv 0) (vv 4) Z)
   (kj N.Ka N.Ke rb rb (ir (pv 0) (vc (Ϗ (eQ K a).3 N) b<|c4<|bp Z (g_ ["across","down",fg] ["across","down"] [3]) (aW<|vv 2) (λM C d s H=>⟨(c_ 0 eg),aZ,λD=>qy Z Z Z (aW<|vv 2) (c_ 1 eg) (kn<|aM gr i8 (aD bM cF (vv 0)<|vv 1)<|ag)<|aN Z (aD bM cF (vv 0)<|vv 1) Z⟩) ar ax (λD=>BD ar ax<|aV)) Z)
   (NV))))))))
theorem DO:ba [f',ek,jY] [f',ek,jY] (ak<|cp 84):=d_
def pA(K:Vb)(a:Ad):ϑ:=⟨_,QF K a 6 "_law_scale" a.Dz a.D0 [f',ek,jY] 3,λN=>by
 exact fx 3 N.Ig DO λc A w s H E b=>am<|aA<|aw<|zP N.I0 (zH N) (b.mono rb) re N.Kb N.I9 dj (lb (vv 0) (vc (Ϗ (gH K a).3 N) b<|c4<|vv 1)<|vc (Ϗ (eS K a).3 N) b<|c4<|vv 1) (zO (vv 2)<|GM) (bq<|bq<|bq C_) (bq C_) Z⟩
theorem ft:ba [jw,ik,jX,"_law_levels",tw,oE,"_law_seen",tA,oF] Η (ak<|cp 85):=d_
def pB(K:Vb)(a:Ad):ϑ:=⟨_,QF K a 3 "_law_nodes" a.D3 a.D4 χ 3,λN=>by
 exact fx 9 N.Ih ft λd A w s H E c=>ae (lO<|dt 3 ft.nd<|fM<|c4<|fU<|c4<|bK dC i7 re N.F4 Boot.«tuple»<|c4<|vv 0)
   (ae (bC (iz (bS aK<|bS aK gv)<|bP<|bP fq)<|bo bQ Z (pT re N.Fm<|c4<|vv 1) (bV Z<|aB (c_ 4 ft.nd)<|aB (c_ 5 ft.nd) bF) (ae (wV<|dt 6 ft.nd<|kX (b:=UK))
   (ae (Qs aK<|bo bQ Z (IR<|dD b9 (pv 3) (pv 4) (λ_ _=>Z)) (c_ 7 ft.nd)<|am<|bC aK<|bo bQ Z (aW<|vc (Ϗ (mW K a).3 N) c<|lb (vv 7) (vv 5)<|bp Z (g_ ["_law_row","_law_to"] ["_law_row"] [4]) (aW<|vv 2) (λG C e s H=>⟨(c_ 0 eg),aZ,λD=>aN Z (aL au aO (vv 0)<|vv 1) Z⟩) ar ax (λD=>aV)) (c_ 8 ft.nd)<|am<|mS<|cf (rC)<|cI (pv 6) (bK dC i7 re N.F4 Boot.«tuple»<|c4<|vc (Ϗ (kO K a).3 N) c<|dc (vv 7)<|vv 8)<|gZ<|r_ c)
   (ye 6<|am<|lR<|b6<|jh Wh Ws Wt eA (pv 3)<|c4<|bL (iJ Z c.units) JY re N.Fw Boot.«sorted»<|c4<|vv 6))))
   (am<|aA<|aw<|vv 3))⟩
theorem bX:ba [jw,ik,jX,"_law_levels",ι,tA,"_law_stage","_law_tables","_law_dealings",oF,"_law_more"] Η (ak<|cp 86):=d_
def mr(K:Vb)(a:Ad):ϑ:=⟨_,QF K a 4 "_law_counted" a.D5 a.D6 χ 3,λN=>by
 exact fx 11 N.Ii bX λd A w s H E c=>ae (aJ<|dt 3 bX.nd<|vc (Ϗ (pB K a).3 N) c<|lb (vv 0) (vv 1)<|vv 2)
   (ae (wV<|dt 4 bX.nd<|kX (b:=O))
   (ae (bC aK<|bo bQ Z (aW<|aL au aO (vv 3)<|uJ mC qF<|ag) (c_ 5 bX.nd)<|am<|mS<|cf (bH<|dc (ag)<|ag)<|cI (pv 4) (bH<|dc (cW N.Fp<|c4<|vv 1)<|vv 5)<|gZ<|r_ c)
   (ae (bC aK<|bo bQ Z (MD re N.Fu<|lb (aD dQ fG (cW N.Fp<|c4<|vv 1)<|ag) (aD dQ fG (ag)<|ag)<|aD dQ fG (ag)<|ag) (c_ 6 bX.nd)<|am<|bC aK<|bo bQ Z (aW<|aL au aO (vv 3)<|vv 6) (c_ 5 bX.nd) (ae (aJ<|dt 7 bX.nd<|ag)
   (ae (aJ<|dt 8 bX.nd<|ag)
   (ae (bC aK<|bo bQ Z (aW<|vc (Ϗ (mW K a).3 N) c<|lb (vv 5) (aL au aO (vv 1)<|vv 6)<|bp Z (g_ ["_law_row","_law_stage"] ["_law_row"] [6]) (aW<|vv 2) (λG C e s H=>⟨(c_ 0 eg),aZ,λD=>aN Z (aL au aO (vv 0)<|vv 1) Z⟩) ar ax (λD=>aV)) (c_ 9 bX.nd) (ae (HU<|dt 10 bX.nd<|aL (gQ<|r_ c) kg (vv 4)<|bH<|dc (aD aI bu (vv 6)<|ag)<|bK dC i7 re N.F4 Boot.«tuple»<|c4<|vc (Ϗ (kO K a).3 N) c<|dc (vv 5)<|vv 9)
   (ae (aJ<|dt 7 bX.nd<|aD aI bu (vv 7)<|aL au aO (vv 10)<|ag)
   (am<|aJ<|dt 8 bX.nd<|aD aI bu (vv 8)<|aD bM cF (aL au aO (vv 10)<|ag)<|vc (Ϗ (nF K a).3 N) c<|c4<|vv 9))))
   (am<|mS<|cf (bH<|dc (vv 7)<|vv 8)<|cI (pv 4) (bH<|dc (vv 6)<|vv 5)<|gZ<|r_ c)))))
   (am<|aA<|aw<|bp Z (g_ ["_law_key","_law_told"] ["_law_key"] [4]) (aW<|bL (iJ Z c.units) wc re N.Fw Boot.«sorted»<|c4<|vv 4) (λG C e s H=>⟨(c_ 0 eg),aZ,λD=>aN Z (aD aI bu (vv 0)<|aL (gQ<|r_ c) kg (vv 1)<|vv 0) Z⟩) ar ax (λD=>aV)))))⟩
theorem fc:ba [cb,jZ,jY,ι,vV,UG,"_law_kept"] [cb,jZ,jY] (ak<|cp 87):=d_
def nJ(K:Vb)(a:Ad):ϑ:=⟨_,QF K a 3 "_law_bent" a.D7 a.D8 ["_law_bag_here","_law_block","_law_where"] 3,λN=>by
 exact fx 7 N.Ij fc λd A w s H E b=>ae (tz (i:=3) fc.nd Z (by first|exact WU Z|exact XZ Z) Z (g_ ["_law_row"] ["_law_row"] []) (aW (vv 1)) (λG C c s H=>⟨(c_ 0 eg),aZ,λD=>aN Z (L6 bT O6 re N.Fq Boot.«list»<|c4<|vv 0) Z⟩) ar ax (λD=>mZ))
   (ae (Qq<|dt 4 fc.nd<|vc (bj N) b<|dc (vv 0)<|cW N.Fp<|c4<|vv 3)
   (ae (aJ<|dt 5 fc.nd<|vc (bj N) b<|dc (vv 0)<|ag)
   (ae (br (aM qA vg (vv 5)<|ag) (am<|gG<|cf (aD dQ fG (aD aI bu (aL au aO (aL au aO (vv 3)<|vv 4)<|vv 2)<|ag)<|aD bM cF (ag)<|vv 5)<|cI (dD b9 (pv 3) (vv 4) (λ_ _=>Z)) (vv 2) cY)<|bc)
   (ae (br (aM (bA b) bU (vv 5)<|ag) (Qp 3<|am<|Qr<|b6<|jh Wh PySem.F.slot_list_pop PySem.F.type_list_pop Mc (pv 3)<|c4<|vv 4)<|bc)
   (ae (br (aM (bA b) bU (vv 5)<|ag) (Qp 3<|am<|Qt<|b6<|jh Wh Ws Wt eA (pv 3)<|fQ (dD b9 (pv 3) (pv 4) (λ_ _=>Z)) jy)<|bc)
   (ae (br (aM (bA b) bU (vv 5)<|ag) (ye 3<|am<|aJ<|dt 3 fc.nd<|aD aI bu (hV (vv 3) (ge<|ag)<|gf)<|hV (vv 3) (gf)<|ge<|ag)<|bc)
   (ae (br (aM (bA b) bU (vv 5)<|ag) (ye 3<|am<|tz (i:=3) fc.nd Z (by first|exact WU Z|exact XZ Z) Z (g_ ["_law_row"] ["_law_row"] []) (aW (vv 3)) (λG C c s H=>⟨(c_ 0 eg),aZ,λD=>aN Z (NB (aD aI bu (hV (vv 0) (gf)<|ge<|ag)<|fU<|dc (aD bM cF (ag)<|aL au aO (vv 0)<|ag)<|aD bM cF (ag)<|aL au aO (vv 0)<|ag)<|hV (vv 0) (ge<|ag)<|gf) Z⟩) ar ax (λD=>mZ))<|bc)
   (ae (br (aM (bA b) bU (vv 5)<|ag) (ye 3<|am<|tz (i:=3) fc.nd Z (by first|exact WU Z|exact XZ Z) Z (g_ ["_law_row"] ["_law_row"] []) (aW (vv 3)) (λG C c s H=>⟨(c_ 0 eg),aZ,λD=>aN Z (NB (aD aI bu (hV (vv 0) (gf)<|ge<|ag)<|fU<|dc (aD aI bu (aL au aO (vv 0)<|ag)<|ag)<|aD aI bu (aL au aO (vv 0)<|ag)<|ag)<|hV (vv 0) (ge<|ag)<|gf) Z⟩) ar ax (λD=>mZ))<|bc)
   (ae (br (aM (bA b) bU (vv 5)<|ag) (am<|gG<|cf (aD aI bu (xD (aL au aO (aL au aO (vv 3)<|vv 4)<|ag) (ge<|ag)<|gf)<|xD (aL au aO (aL au aO (vv 3)<|vv 4)<|ag) (gf)<|ge<|ag)<|cI (dD b9 (pv 3) (vv 4) (λ_ _=>Z)) (ag) cY)<|bc)
   (ae (br (aM (bA b) bU (vv 5)<|ag) (ae (HU<|dt 6 fc.nd<|aL au aO (aL au aO (vv 3)<|vv 4)<|ag)
   (ae (gG<|cf (aL au aO (aL au aO (vv 3)<|aD dQ fG (vv 4)<|ag)<|ag)<|cI (dD b9 (pv 3) (vv 4) (λ_ _=>Z)) (ag) cY)
   (am<|gG<|cf (vv 6)<|cI (dD b9 (pv 3) (aD dQ fG (vv 4)<|ag) (λ_ _=>Z)) (ag) cY)))<|bc)
   (ae (br (aM (bA b) bU (vv 5)<|ag) (am<|gG<|cf (aD aI bu (aL au aO (aL au aO (vv 3)<|vv 4)<|ag)<|ag)<|cI (dD b9 (pv 3) (vv 4) (λ_ _=>Z)) (ag) cY)<|bc)
   (ae (br (aM (bA b) bU (vv 5)<|ag) (ae (gG<|cf (aD aI bu (aL au aO (aL au aO (vv 3)<|ag)<|vv 2)<|ag)<|cI (dD b9 (pv 3) (ag) (λ_ _=>Z)) (vv 2) cY)
   (am<|gG<|cf (aD aI bu (aL au aO (aL au aO (vv 3)<|uJ mC qF<|ag)<|vv 2)<|ag)<|cI (dD b9 (pv 3) (uJ mC qF<|ag) (λ_ _=>Z)) (vv 2) cY))<|bc)
   (am<|aA<|aw<|bp Z (g_ ["_law_row"] ["_law_row"] []) (aW<|vv 3) (λG C c s H=>⟨(c_ 0 eg),aZ,λD=>aN Z (bK dC i7 re N.F4 Boot.«tuple»<|c4<|vv 0) Z⟩) ar ax (λD=>aV))))))))))))))⟩
theorem zF:ba Η Η (ak<|cp 88):=d_
def nG(K:Vb)(a:Ad):ϑ:=⟨_,QF K a 5 "_law_living" a.D9 a.Ea χ 3,λN=>by
 exact fx 3 N.Ik zF λb A w s H E c=>am<|aA<|aw<|bp Z (g_ ["_law_row"] ["_law_row"] []) (aW<|vc (Ϗ (mr K a).3 N) c<|lb (vv 0) (vv 1)<|vv 2) (λG C d s H=>⟨(c_ 0 eg),kn<|aM gr i8 (aL au aO (vv 0)<|ag)<|ag,λD=>aN Z (Lm (vv 0) (gf)<|ge<|ag) Z⟩) ar ax (λD=>aV)⟩
theorem dH:ba [f',lT,jY,tw,oF,mQ,pe,"_law_utmost",ν] [f',lT,jY,tw,oF] (ak<|cp 89):=d_
def rQ(K:Vb)(a:Ad):ϑ:=⟨_,QF K a 4 "_law_part" a.Eb a.Ec [f',lT,jY,tw,oF] 5,λN=>by
 exact fx 9 N.Il dH λc A w s H E b=>ae (br (aM (bA b) bU (vv 0)<|dS) (am<|aA<|aw<|vc (Ϗ (nF K a).3 N) b<|c4<|vv 4)<|bc)
   (ae (br (aM (bA b) bU (vv 0)<|dS) (ae (aJ<|dt 5 dH.nd<|ag)
   (ae (bC aK<|bo bQ Z (aW<|vv 4) (c_ 6 dH.nd)<|am<|aJ<|dt 5 dH.nd<|aD bM cF (vv 5)<|vc (Ϗ (iU K a).3 N) b<|c4<|vv 6)
   (am<|aA<|aw<|vv 5)))<|bc)
   (ae (br (aM fi (lc (neg:=UK)) (vv 0)<|bH<|dc (dS)<|dS) (am<|aA<|aw<|aL au aO (fU<|dc (ag)<|aL au aO (vv 4)<|aL au aO (vv 2)<|ag)<|bK wy Ko re N.Fn Boot.«int»<|c4<|jd (bA b) bU (vv 3)<|aL au aO (vv 2)<|ag)<|bc)
   (ae (aJ<|dt 5 dH.nd<|ag)
   (ae (bC (iz (bS aK<|bS aK gv)<|bP<|bP fq)<|bo bQ Z (l7 re N.F5<|dc (aL au aO (vv 1)<|ag)<|vv 4) (bV Z<|aB (c_ 7 dH.nd)<|aB (c_ 6 dH.nd) bF) (ae (aJ<|dt 8 dH.nd<|aD bM cF (vv 7)<|aL au aO (aL au aO (vv 1)<|ag)<|vv 3)
   (am<|br (aM (bA b) bU (vv 0)<|dS) (am<|aJ<|dt 5 dH.nd<|aD aI bu (vv 5)<|bL sC NR re N.Fj Boot.«abs»<|c4<|aD dQ fG (aD bM cF (vv 6)<|f6 N.Fz<|c4<|aL au aO (vv 1)<|ag)<|vv 8)<|am<|br (aM gr i8 (vv 8)<|ag) (am<|aJ<|dt 5 dH.nd<|aD aI bu (vv 5)<|aD k6 pL (aD bM cF (aD bM cF (vv 6)<|vv 6)<|aL au aO (vv 1)<|ag)<|vv 8)<|bc)))
   (am<|aA<|aw<|vv 5)))))⟩
theorem wI:ba [f',mU,mP] [f',mU,mP] (ak<|cp 90):=d_
def il(K:Vb)(a:Ad):ϑ:=⟨_,QF K a 2 ρ a.Ed a.Ee [f',mU,mP] 3,λN=>by
 exact fx 3 N.Im wI λb A w s H E c=>ae (br (aM fi (lc (neg:=UK)) (vv 0)<|bH<|dc (dS)<|dS) (am<|aA<|aw<|aD bM cF (vv 1)<|vv 2)<|bc)
   (am<|aA<|aw<|aD aI bu (vv 1)<|vv 2)⟩
theorem DP:ba [f'] [f'] (ak<|cp 91):=d_
def lW(K:Vb)(a:Ad):ϑ:=⟨_,QF K a 2 "_law_begun" a.Ef a.Eg [f'] 1,λN=>by
 exact fx 1 N.Io DP λb A w s H E c=>am<|aA<|aw<|bK wy Ko re N.Fn Boot.«int»<|c4<|jd fi (lc (neg:=UK)) (vv 0)<|bH<|dc (dS)<|dS⟩
theorem iS:ba [f',lT,jY,jX,κ,X',"_law_least","_law_greatest",oF,"_law_behind",ε] [f',lT,jY,jX,κ,X'] (ak<|cp 93):=d_
def u4(K:Vb)(a:Ad):ϑ:=⟨_,QF K a 5 "_law_end" a.Ej a.Ek ["_law_kind_here","_law_sides_here","_law_where","_law_limits","_law_node","_law_known"] 6,λN=>by
 exact fx 11 N.Iq iS λc A w s H E b=>ae (lO<|dt 6 iS.nd<|fM<|d8)
   (ae (lO<|dt 7 iS.nd<|fM<|d8)
   (ae (bC aK<|bo bQ Z (aW<|vc (Ϗ (mW K a).3 N) b<|lb (aL au aO (vv 4)<|ag) (aL au aO (aL au aO (vv 1)<|ag)<|aL au aO (vv 4)<|ag)<|bp Z (g_ ["_law_row","_law_node"] ["_law_row"] [4]) (aW<|vv 3) (λG C d s H=>⟨(c_ 0 eg),aZ,λD=>aN Z (aL au aO (vv 0)<|aL au aO (vv 1)<|ag) Z⟩) ar ax (λD=>aV)) (c_ 8 iS.nd) (ae (aJ<|dt 9 iS.nd<|bH<|dc (aD aI bu (aL au aO (vv 4)<|ag)<|ag)<|bK dC i7 re N.F4 Boot.«tuple»<|c4<|vc (Ϗ (kO K a).3 N) b<|dc (aL au aO (vv 4)<|ag)<|vv 8)
   (am<|br (aM (u7 O<|r_ b) NN (vv 9)<|vv 5) (ae (aJ<|dt 10 iS.nd<|vc (Ϗ (rQ K a).3 N) b<|bD (vv 0)<|bD (vv 1)<|bD (vv 2)<|bD (aL au aO (vv 4)<|ag)<|bD (vv 8)<|d8)
   (ae (lR<|b6<|jh Wh Ws Wt eA (pv 6)<|c4<|vc (Ϗ (il K a).3 N) b<|lb (vv 0) (vv 10)<|aL au aO (aL (gQ<|r_ b) kg (vv 5)<|vv 9)<|ag)
   (am<|lR<|b6<|jh Wh Ws Wt eA (pv 7)<|c4<|vc (Ϗ (il K a).3 N) b<|lb (vv 0) (vv 10)<|aL au aO (aL (gQ<|r_ b) kg (vv 5)<|vv 9)<|ag)))<|bc)))
   (am<|aA<|aw<|bH<|dc (bL (wv Z) JZ re N.Ft Boot.«min»<|c4<|vv 6)<|bL (ww Z) Km re N.Fs Boot.«max»<|c4<|vv 7)))⟩
theorem o3:ba [f',lT,jY,jX,X',κ] [f',lT,jY,jX] (ak<|cp 92):=d_
def rS(K:Vb)(a:Ad):ϑ:=⟨_,QF K a 6 "_law_ends" a.Eh a.Ei ["_law_kind_here","_law_sides_here","_law_where","_law_limits"] 4,λN=>by
 exact fx 6 N.Ip o3 λd A w s H E c=>ae (wV<|dt 4 o3.nd<|kX (b:=O))
   (ae (bC aK<|bo bQ Z (aW<|CQ (vc (Ϗ (nG K a).3 N) c<|lb (aL au aO (vv 1)<|ag) (aL au aO (vv 1)<|ag)<|vv 3)<|uJ mC qF<|ag) (c_ 5 o3.nd)<|am<|br (aM (bA c) bU (aL au aO (vv 5)<|ag)<|cW N.Fp<|c4<|aL au aO (vv 1)<|ag) (am<|mS<|cf (bH<|dc (vc (Ϗ (lW K a).3 N) c<|c4<|vv 0)<|vc (Ϗ (lW K a).3 N) c<|c4<|vv 0)<|cI (pv 4) (vv 5)<|gZ<|r_ c)<|am<|mS<|cf (vc (Ϗ (u4 K a).3 N) c<|bD (vv 0)<|bD (vv 1)<|bD (vv 2)<|bD (vv 3)<|bD (vv 5)<|bD (vv 4)<|d8)<|cI (pv 4) (vv 5)<|gZ<|r_ c)
   (am<|aA<|aw<|bp Z (g_ ["_law_node","_law_known"] ["_law_node"] [4]) (aW<|bL (iJ Z c.units) wc re N.Fw Boot.«sorted»<|c4<|vv 4) (λG C e s H=>⟨(c_ 0 eg),aZ,λD=>aN Z (aD aI bu (vv 0)<|aL (gQ<|r_ c) kg (vv 1)<|vv 0) Z⟩) ar ax (λD=>aV)))⟩
theorem qZ:ba [cb,jZ] [cb] (ak<|cp 94):=d_
def j7(K:Vb)(a:Ad):ϑ:=⟨_,QF K a 5 "_law_middle" a.El a.Em [cb] 1,λN=>by
 exact fx 2 N.Ir qZ λc A w s H E b=>ae (br (aM (bA b) bU (vc (bj N) b<|dc (vv 0)<|ag)<|ag) (am<|aA<|aw<|vc (DZ N) b<|c4<|vv 0)<|bc)
   (ae (aJ<|dt 1 qZ.nd<|aD aI bu (ag)<|vc (bj N) b<|dc (vv 0)<|ag)
   (am<|aA<|aw<|vc (jz N) b<|xr (vv 0) (vv 1) (aD aI bu (ag)<|vc (bj N) b<|dc (vv 0)<|ag)<|vc (bj N) b<|dc (vv 0)<|ag))⟩
theorem nA:ba [ek,jw,ik] [ek] (ak<|cp 95):=d_
def pz(K:Vb)(a:Ad):ϑ:=⟨_,QF K a 4 "_law_sides" a.En a.Eo [ek] 1,λN=>by
 exact fx 3 N.Iu nA λc A w s H E b=>ae (aJ<|dt 1 nA.nd<|vc (Ϗ (gH K a).3 N) b<|c4<|vv 0)
   (ae (aJ<|dt 2 nA.nd<|vc (Ϗ (eS K a).3 N) b<|c4<|vv 0)
   (am<|aA<|aw<|bH<|lb (vv 1) (vv 2)<|vc (Ϗ (rR K a).3 N) b<|dc (vv 1)<|vv 2))⟩
theorem f8:ba ψ [rk] (ak qt):=d_
def tK(K:Vb)(a:Ad):{g:G//∀(P:Vw) (w:VC) {mg:ϙ} (aa:V0) (N:zi K mg a) (f:UM) (c:UQ) (A:V3) (D:List Env) (s:UW) (H:Hp) (E:XK),d4 8 (A.deeper<|Rows.envOfC "law" (ak qt) s.heap.objs.size f c)->PSs (gD (hO P w) P w K mg aa ["_law_script","_law_bag_here","_law_grid_here","_law_limits","_law_kind_here","_law_where","_law_net_here","_law_scale_here","_law_due","_law_handed","_law_bent_here"] "law" (ak qt) f c A D s H E) (c7 qt).tail (tG K H g (λ_=>E))}:=⟨_,λP w mg aa N f c A D s H E b=>by
 exact ae (aJ<|dt 2 f8.nd<|vc (Ϗ (j7 K a).3 N) b<|c4<|vv 1)
   (ae (aJ<|dt 3 f8.nd<|vc (Ϗ (j8 K a).3 N) b<|dc (vv 1)<|vv 2)
   (ae (aJ<|dt 4 f8.nd<|vc (Ϗ (kQ K a).3 N) b<|c4<|vv 1)
   (ae (aJ<|dt 5 f8.nd<|vc (Ϗ (lV K a).3 N) b<|dc (vv 1)<|vv 2)
   (ae (aJ<|dt 6 f8.nd<|vc (Ϗ (uY K a).3 N) b<|dc (vv 2)<|vv 3)
   (ae (aJ<|dt 7 f8.nd<|vc (Ϗ (pA K a).3 N) b<|lb (vv 4) (vv 2)<|vv 5)
   (ae (aJ<|dt 8 f8.nd<|vc (Ϗ (rS K a).3 N) b<|xr (vv 4) (vc (Ϗ (pz K a).3 N) b<|c4<|vv 2) (vv 5)<|vv 3)
   (ae (aJ<|dt 9 f8.nd<|bK bT fN re N.Fq Boot.«list»<|c4<|vv 8)
   (ae (br (kD<|oR (aM OR Ry (vc (Ϗ (jf K a).3 N) b<|lb (vv 6) (vv 7)<|vv 9)<|rC)<|oR (aM (gc b) iB (vv 9)<|vv 8)<|nl<|sN<|sM<|vc (v7 N) b<|dc (vc (Ϗ (tP K a).3 N) b<|dc (vv 6)<|vv 7)<|vv 8) (am<|aA<|aw<|rC)<|bc)
   (ae (aJ<|dt 10 f8.nd<|vc (Ϗ (nJ K a).3 N) b<|lb (vv 1) (vv 8)<|aD aI bu (ag)<|vc (bj N) b<|dc (vv 1)<|ag)
   (am<|aA<|aw<|vc (v7 N) b<|dc (vc (Ϗ (jf K a).3 N) b<|lb (vv 6) (vv 7)<|bK bT fN re N.Fq Boot.«list»<|c4<|vv 10)<|jd (bA b) bU (vv 10)<|vv 8))))))))))⟩
theorem Q9(F:gs K "law" "law" qt f o)(N:zi K mg a)(T:∀G:Bg,G.ok->∃c,(tK K a).1 [Y,U<|.sh .bag,Y,Y,Y,Y,Y,Y,Y,Y,Y] G=U (.rt<|.bl O,c)):
  fw P w K mg aa (hO P w) 9 f o [rk] (Nk K):=by
 refine F.okE f8 (λM H Q E h=>?_) (λd A D s H M Q E p h=>?_)
 .obtain⟨a,ns,rfl,_⟩:=h
  rfl
 .obtain⟨a1,ns,rfl,r,q,k⟩:=h
  have rest:=(tK K a).2 P w aa N f d A D s H E p;refine⟨_,dP (dt 1 f8.nd<|qx (L5 N) (p.mono rb) Z N.Hh.m N.Hh.F.kp N.Hh.b .nil w9<|fQ (pv 0) jy) rest,⟨_,Z,a1,ns,Z,r,λb l C g i t u=>?_⟩⟩;obtain⟨G,ok,j⟩:=PL u g i t;obtain⟨c,e⟩:=T G ok;exact⟨_,_,_,G,_,c,j,e,λv I y s fr B=>by cases B.bl;exact k y⟩
end
end Law
namespace L2.Pu
noncomputable def dq:Nat->Nat
 |0=>1
 |n+1=>dq n*(n+1)
noncomputable def pr(l:ϊ):Nat:=l.foldr (·*·) 1
theorem QP:pr []=1:=Z
theorem IN(l m):pr (l++m)=pr l*pr m:=by
 induction l with
 |nil=>simp[pr]
 |cons x l w=>
  show x*pr (l++m)=x*pr l*pr m;rw[w,ZL]
theorem mE{l:List w}{x}(h:l[i]?=U x):l.take (i+1)=l.take i++[x]:=by
 rw[List.take_succ,h];rfl
theorem iY{w:Type}{f:w->Nat}{l:List w}{i}{x}(h:l[i]?=U x):pr ((l.take<|i+1).map f)=pr ((l.take i).map f)*f x:=by
 rw[mE h,Vj,IN];simp[pr]
theorem Ol{w:Type}{f:w->Nat}{l:List w}{i}{x}(h:l[i]?=U x):((l.take<|i+1).map f).sum=((l.take i).map f).sum+f x:=by
 rw[mE h,Vj,Y1];simp
theorem SX{w:Type}{f:w->Nat}{l:List w}(i):((l.take i).map f).sum<=(l.map f).sum:=by
 have e:(l.map f).sum=((l.take i).map f).sum+((l.drop i).map f).sum:=by rw[<-Y1,<-Vj,Xd]
 lia
theorem qP:∀n,0<dq n:=Nat.rec rb λn h=>Nat.mul_pos (h) ln
theorem ML:∀{n m:Nat},n<=m->dq n<=dq m:=by
 intro n m h
 induction h with
 |refl=>exact UV _
 |step h w=>exact U1 w (Zc _ ln)
theorem Ut:dq 40<=2^160:=by decide +kernel
theorem m7(h:n<=40):dq n<=2^160:=U1 (ML h) Ut
theorem ym(h:∀x∈l,0<x):0<pr l:=by
 induction l with
 |nil=>decide
 |cons x l w=>exact Nat.mul_pos (h x UP)<|w λy D=>h y<|UI _ D
theorem Nx(h:∀x∈l,x<=2^m):pr l<=2^(m*ϱ l):=by
 induction l with
 |nil=>exact Nat.one_le_two_pow
 |cons x l w=>
  show x*pr l<=_;rw[U5,Nat.mul_succ,Nat.add_comm,Nat.pow_add];exact YI (h x UP)<|w λy D=>h y<|UI _ D
theorem Te(h:n<=40):n^n<=2^(6*n):=by
 rw[Nat.pow_mul];exact Nat.pow_le_pow_left ln n
theorem Ny{l:ϊ}(h:∀x∈l,x<=40):pr (l.map λn=>n^n)<=2^(6*l.sum):=by
 induction l with
 |nil=>decide
 |cons x l w=>
  show x^x*pr _<=_;rw[Vk,Nat.mul_add,Nat.pow_add];exact YI (Te<|h x UP)<|w λy D=>h y<|UI _ D
theorem cP{l:ϊ}(h:x∈l):x<=l.sum:=by
 induction l with
 |nil=>cases h
 |cons y l w=>
  rw[Vk];obtain rfl|h:=U4.mp h
  .lia
  .have:=w h;lia
theorem cg(h:t<=2^m)(w:m<=999):t<2^1000:=VT (U1 h<|Xl rb w) (Nat.pow_lt_pow_right rb rb)
theorem eE{t n:Nat}(a:t<2^1000)(b:n<2^1000):db (.int (t:Int)) (.int (n:Int))=U (.int ((t*n:Nat):Int)):=by
 have c:cG _=O:=U3 (by rw[Int.natAbs_natCast];exact a);have d:cG _=O:=U3 (by rw[Int.natAbs_natCast];exact b);show(if(cG _&&cG _)=O then _ else _)=_;simp_all
theorem ut{t g:Nat}(d:0<g)(a:g<2^1000):ox (.int (t:Int)) (.int (g:Int))=U (.int ((t/g:Nat):Int)):=by
 have c:decide (((g:Int)).natAbs.log2<9000)=O:=U3 (by
  rw[Int.natAbs_natCast];have:=(Nat.log2_lt ln).mpr a;lia)
 show(if(decide _&&decide _)=O then _ else _)=_;simp_all
theorem FZ{t n:Nat}:dG (.int (t:Int)) (.int (n:Int))=U (.int ((t+n:Nat):Int)):=by
 rw[Y5];rfl
theorem jA(l):(nI l).sum=((l.sum:Nat):Int):=by
 induction l with
 |nil=>rfl
 |cons x l w=>
  simp_all
theorem ji{i:Nat}(h:((nI l).map D.int)[i]?=U d):∃n,l[i]?=U n/\d= .int (n:Int):=by
 obtain⟨x,w,rfl⟩:=bR h;obtain⟨n,E,rfl⟩:=bR w;exact⟨n,E,Z⟩
theorem jB(l):ϱ ((nI l).map D.int)=ϱ l:=by rw[UD,UD]
def Sq(l:ϊ)(d:D):Prop:=d=nL l\/d= .tup ((nI l).map D.int)
theorem Sq.seq(h:Sq l d):d9 d=U ((nI l).map D.int):=by rcases h with rfl|rfl<;>rfl
theorem rg2'(a:0<=i)(b:i<=10^9)(c:0<=j)(d:j<=10^9):rO [.int i,.int j]=U (bv i (j-i).toNat):=by
 have q:(decide (-(2^62)<=i)&&decide (i<2^62)&&decide (-(2^62)<=j)&&decide (j<2^62))=O:=by
  simp only[Vu];lia
 show(if(decide _&&decide _&&decide _&&decide _)=O then U (bv i _)else Y)=_;rw[US q]
theorem rg2{n:Nat}(h:n<=1000):rO [.int 2,.int<|(n:Int)+1]=U (bv 2<|n-1):=by
 rw[rg2' rb rb ln ln,show((n:Int)+1-2).toNat=n-1 by lia]
def lcS(t n:Nat):Nat:=t*n/Zl t n
def nj(l:ϊ):Nat:=l.foldl lcS 1
theorem BB(l)(n):nj (l++[n])=lcS (nj l) n:=by unfold nj;simp_all
theorem yK(h:∀n∈l,1<=n/\n<=2^11):1<=nj l/\nj l<=2^(11*ϱ l):=by
 have w:∀(l:ϊ) (t m:Nat),(∀n∈l,1<=n/\n<=2^11)->1<=t->t<=2^m->1<=l.foldl lcS t/\l.foldl lcS t<=2^(m+11*ϱ l):=by
  intro l
  induction l with
  |nil=>exact λt m _ a b=>⟨a,b⟩
  |cons n l D=>
   intro t m h a b;obtain⟨e,f⟩:=h n UP;have c:0<Zl t n:=Nat.gcd_pos_of_pos_left _ a;have:=D _ _ (λx E=>h x<|UI _ E) (Nat.div_pos (U1 (Nat.gcd_le_left _ a)<|Zc _ e) c) (U1 (ZR _ _)<|by rw[Nat.pow_add];exact YI b f);rw[U5,Nat.mul_succ,show m+(11*ϱ l+11)=m+11+11*ϱ l by lia];exact this
 have:=w l 1 0 h (UV _) rb;rwa[WM]at this
end L2.Pu
namespace L2.Pu
open L2.Hs
def oh(k:ώ):LI->LI
 |[]=>[k]
 |x::l=>if cu k x=O then k::x::l else if k=x then x::l else x::oh k l
theorem nw:∀{l:LI},y∈oh k l↔y=k\/y∈l:=@List.rec _ _ (by simp[oh]) (λx l w=>by
  unfold oh;split
  .simp
  .split
   .rename_i h
    simp_all
   .rw[U4,w,U4]
    exact or_left_comm)
theorem BG:∀{l:LI},Up l->Up (oh k l):=@List.rec _ _ (@λ_=>by exact X7 _ _) (λx l w=>@λh=>by
  obtain⟨a,b⟩:=Y6.mp h;unfold oh;split
  .rename_i q
   refine Y6.mpr ⟨λy hy=>?_,h⟩;obtain rfl|hy:=U4.mp hy
   .exact q
   .exact ub q (a y hy)
  .split
   .exact h
   .rename_i q1 q2
    refine Y6.mpr ⟨λy hy=>?_,w b⟩;obtain rfl|hy:=nw.mp hy
    .cases q:cu x y with
     |true=>rfl
     |false=>exact Vl (qD (by simpa using q1) q) q2
    .exact a y hy)
def oZ(w:LI):LI:=w.foldr oh []
theorem mG:∀w,Up<|oZ w:=List.rec (.nil) λk w h=>BG<|h
theorem f7:∀{w:LI},y∈oZ w↔y∈w:=@List.rec _ _ (by simp[oZ]) (λk w h=>by
  show y∈oh k (oZ w)↔_;rw[nw,h,U4])
theorem Nh(h:Up l):l.Nodup:=h.imp λ{a b} q e=>by
 subst e;rw[i5]at q;cases q
theorem Qi(b:∀k∈w,1<=ϱ k)(D:ϱ m<63)(c:∀k∈w,k∈m):ig (w.map iv)=U (.lst<|(oZ w).map iv):=by
 refine xP ⟨mG w,VT (nd_len (Nh<|mG w) λx E=>c x<|f7.mp E) D,λk a=>⟨b k<|f7.mp a,UL.mpr ⟨k,f7.mp a,Z⟩⟩,λd G=>?_⟩;obtain⟨k,a,rfl⟩:=UL.mp G;exact⟨k,f7.mpr a,Z⟩
end L2.Pu
namespace L2.Nt
noncomputable def sm{w:Type}(l:List w)(f:w->Nat):Nat:=(l.map f).sum
section
variable{d β:Type}
theorem HH:sm [] f=0:=Z
theorem cX{f:d->Nat}:sm (a::l) f=f a+sm l f:=by unfold sm;rw[UZ,Vk]
theorem xQ:sm (l++m) f=sm l f+sm m f:=by unfold sm;rw[Vj,Y1]
theorem fm:∀{l:List d},(∀a∈l,f a=g a)->sm l f=sm l g:=@List.rec _ _ (@λ_=>Z) (λa l w=>@λh=>by rw[cX,cX,h a UP,w λb c=>h b<|UI a c])
theorem HI{f:d->Nat}{l}:sm (l.map g) f=sm l λb=>f (g b):=by unfold sm;rw[UR];rfl
theorem zX{f:d->Nat}:∀{l:List β},sm (l.flatMap g) f=sm l λb=>sm (g b) f:=@List.rec _ _ Z (λb l h=>by rw[V6,xQ,cX,h])
theorem zW:∀{l:List d},(sm l λ_=>0)=0:=@List.rec _ _ Z (λa l h=>by rw[cX,h])
theorem HJ:∀{l:List d},(sm l λa=>f a+g a)=sm l f+sm l g:=@List.rec _ _ Z (λa l h=>by rw[cX,cX,cX,h];lia)
theorem sU:∀{l:List d},(sm l λa=>c*f a)=c*sm l f:=@List.rec _ _ Z (λa l h=>by rw[cX,cX,h,Nat.mul_add])
theorem Nl{f:ϲ}{m}:∀{n:Nat},m<=n->sm (UT<|m+1) f=sm (UT<|n+1) λa=>if a<=m then f a else 0:=@Nat.rec _ (@λh=>by
  obtain rfl:m=0:=by lia
  exact fm λa d=>by
   have:=Vg.mp d;simp_all) (λn w=>@λh=>by
  obtain q|q:=Nat.lt_or_ge m (n+1)
  .rw[Xp (n:=n+1),xQ,<-w (by lia:m<=n),cX,HH,UU ln]
   lia
  .obtain rfl:m=n+1:=by lia
   exact fm λa d=>by
    have:=Vg.mp d;rw[US ln])
noncomputable def cr:ϊ->Nat->Ϙ
 |[],0=>[[]]
 |[],_+1=>[]
 |x::r,c=>(UT<|XF x c+1).flatMap λa=>(cr r<|c-a).map (a::·)
noncomputable def less(r v:ϊ):ϊ:=YO (·-·) r v
theorem GN{r:ϊ}{f:ϊ->Nat}:sm (cr (x::r) c) f=sm (UT<|XF x c+1) λa=>sm (cr r<|c-a) λv=>f (a::v):=by
 show sm ((UT<|XF x c+1).flatMap λa=>(cr r<|c-a).map _) f=_;rw[zX];exact fm λa _=>HI
end
end L2.Nt
namespace L2.Nt
open L2.Pu
noncomputable def ch:Nat->Nat->Nat
 |_,0=>1
 |0,_+1=>0
 |n+1,k+1=>ch n k+ch n (k+1)
theorem ux:∀{n k:Nat},n<k->ch n k=0
 |0,k+1,_=>by simp[ch]
 |n+1,k+1,h=>by
  show ch n k+ch n _=0;rw[ux ln,ux ln]
theorem vA(n):ch n 0=1:=by cases n<;>rfl
theorem CC:∀n,ch n n=1:=Nat.rec Z λn h=>by
  show ch n n+ch n _=1;rw[h,ux ln]
theorem FJ(n):dq (n+1)=(n+1)*dq n:=XA _<|n+1
theorem p9:∀n a b:Nat,a+b=n->ch (a+b) a*(dq a*dq b)=dq (a+b)
 |n,0,b,_=>by rw[vA];simp[dq]
 |n,a+1,0,_=>by rw[Nat.add_zero,CC];simp[dq]
 |0,a+1,b+1,h=>by lia
 |n+1,a+1,b+1,h=>by
  have c:=p9 n a (b+1) ln;have d:=p9 n (a+1) b ln;have e:a+1+(b+1)=(a+b+1)+1:=by lia
  have f:a+(b+1)=a+b+1:=by lia
  have g:a+1+b=a+b+1:=by lia
  rw[f]at c;rw[g]at d;rw[e];show(ch _ a+ch _ _)*(dq _*dq _)=dq _;rw[FJ<|a+b+1,Nat.add_mul];have i:ch (a+b+1) a*(dq (a+1)*dq (b+1))=(a+1)*dq (a+b+1):=by
   rw[<-c,FJ a];rw[ZL,Zn]
  have j:ch (a+b+1) (a+1)*(dq (a+1)*dq (b+1))=(b+1)*dq (a+b+1):=by
   rw[<-d,FJ b];simp only[ZL,Zn]
  rw[i,j,<-Nat.add_mul,show a+1+(b+1)=a+b+1+1 by lia]
theorem qs{f:ϲ}{n}:sm (UT<|n+1) f=f 0+sm (UT n) λa=>f (a+1):=by
 rw[List.range_succ_eq_map,cX,HI]
theorem Lk:∀(x y c:Nat),(sm (UT<|c+1) λa=>ch x a*ch y (c-a))=ch (x+y) c
 |0,y,c=>by
  rw[qs,vA,Nat.one_mul,Nat.sub_zero,WM];have:(sm (UT c) λa=>ch 0 (a+1)*ch y (c-(a+1)))=0:=(fm λa _=>by rw[ux ln,Nat.zero_mul]).trans zW;rw[this];rfl
 |x+1,y,0=>by rw[qs];simp[vA,HH]
 |x+1,y,c+1=>by
  have b:=Lk x y<|c+1;rw[qs]at b;rw[qs];have e:(sm (UT<|c+1) λa=>ch (x+1) (a+1)*ch y (c+1-(a+1)))=(sm (UT<|c+1) λa=>ch x a*ch y (c-a))+sm (UT<|c+1) λa=>ch x (a+1)*ch y (c+1-(a+1)):=by
   rw[<-HJ];refine fm λa _=>?_;show(ch x a+ch x _)*_=_;rw[Nat.add_mul,Nat.add_sub_add_right]
  rw[e,Lk x y c];have f:x+1+y=x+y+1:=by lia
  rw[f];show _=ch _ c+ch _ _;rw[<-b,vA,vA];lia
theorem vdm(x y c):(sm (UT<|XF x c+1) λa=>ch x a*ch y (c-a))=ch (x+y) c:=by
 rw[Nl<|ZB x c,<-Lk];refine fm λa w=>?_;have:=Vg.mp w;by_cases q:a<=x
 .rw[US ln]
 .rw[UU ln,ux ln,Nat.zero_mul]
def pc:ϊ->ϊ->Nat
 |x::r,a::v=>ch x a*pc r v
 |_,_=>1
theorem IW:∀(r:ϊ) (c:Nat),sm (cr r c) (pc r)=ch r.sum c
 |[],0=>rfl
 |[],c+1=>rfl
 |x::r,c=>by
  rw[GN,Vk,<-vdm];exact fm λa _=>by rw[<-IW r _,<-sU];rfl
theorem kB:∀{r:ϊ} {c:Nat} {v:ϊ},v∈cr r c->v.sum=c/\(less r v).sum+c=r.sum/\ϱ v=ϱ r/\pr (r.map dq)=pc r v*(pr (v.map dq)*pr ((less r v).map dq))
 |[],0,v,h=>by cases Vs.mp h;exact⟨Z,Z,Z,Z⟩
 |[],c+1,v,h=>by cases h
 |x::r,c,v,h=>by
  obtain⟨a,E,b⟩:=Wb.mp h;obtain⟨u,d,rfl⟩:=UL.mp b;have e:=Vg.mp E;obtain⟨f,g,i,j⟩:=kB d;refine⟨by rw[Vk,f];grind,?_,by rw[U5,i,U5],?_⟩
  .show((x-a)::less r u).sum+c=_
   rw[Vk,Vk,<-g];grind
  .show dq x*pr _=(ch x a*pc r u)*((dq a*pr _)*(dq _*pr ((less r u).map dq)))
   have w:=p9 x a (x-a) ln;rw[show a+(x-a)=x by lia]at w;rw[j,<-w];simp only[ZL,Zn]
def mu:ϊ->Nat
 |[]=>1
 |x::r=>ch (x+r.sum) x*mu r
theorem pF:∀r:ϊ,mu r*pr (r.map dq)=dq r.sum:=List.rec Z λx r h=>by
  show(ch _ x*mu r)*(dq x*pr _)=dq _;rw[Vk,<-p9 _ x _ Z,<-h];simp only[ZL,Zn]
theorem AK(r:ϊ):0<pr (r.map dq):=ym λx w=>by
 obtain⟨n,_,rfl⟩:=UL.mp w;exact qP n
theorem Ri(r):dq r.sum/pr (r.map dq)=mu r:=by rw[<-pF,Nat.mul_div_cancel _<|AK r]
def dls:ϊ->ϊ->Nat
 |_,[]=>1
 |r,c::cs=>sm (cr r c) λv=>mu v*dls (less r v) cs
theorem M6:∀{r:ϊ},r.sum=0->mu r=1:=λ{x0}=>x0.rec (@λ_=>Z) λx r w=>@λh=>by
  rw[Vk]at h;obtain rfl:x=0:=by lia
  show ch _ 0*mu r=1;rw[vA,w ln]
theorem zf:∀(w r:ϊ),r.sum=w.sum->dls r w=mu r:=List.rec (λr h=>(M6 h).symm) λc w u r h=>by
  rw[Vk]at h;apply Nat.eq_of_mul_eq_mul_right (AK r);rw[pF];show sm _ _*_=_;rw[XA,<-sU];have e:(sm (cr r c) λv=>pr (r.map dq)*(mu v*dls (less r v) w))=sm (cr r c) λv=>(dq c*dq (r.sum-c))*pc r v:=by
   refine fm λv a=>?_;obtain⟨b,f,g,d⟩:=kB a;rw[u _ ln,d];have D:=pF v;have E:=pF<|less r v;rw[b]at D;rw[show(less r v).sum=r.sum-c by lia]at E;rw[<-D,<-E];simp only[ZL,Zn,XA]
  rw[e,sU,IW,XA];have:=p9 r.sum c (r.sum-c) ln;simp_all
def ll:ϊ->ϊ->Prop
 |[],[]=>True
 |a::v,x::r=>a<=x/\ll v r
 |_,_=>False
theorem ll.refl:∀r,ll r r:=List.rec trivial λ_ r h=>⟨UV _,h⟩
theorem ll.tr:∀{u v r:ϊ},ll u v->ll v r->ll u r
 |[],[],[],_,_=>trivial
 |_::_,_::_,_::_,h,q=>⟨U1 h.1 q.1,h.2.tr q.2⟩
 |[],_::_,_,h,_=>h.elim
 |_::_,[],_,h,_=>h.elim
 |[],[],_::_,_,q=>q.elim
 |_::_,_::_,[],_,q=>q.elim
theorem ll.len:∀{v r:ϊ},ll v r->ϱ v=ϱ r
 |[],[],_=>rfl
 |_::_,_::_,h=>VR (·+1) h.2.len
 |[],_::_,h=>h.elim
 |_::_,[],h=>h.elim
theorem ll.less:∀{v r:ϊ},ll v r->ll (less r v) r
 |[],[],_=>trivial
 |a::v,x::r,h=>⟨Nat.sub_le x a,h.2.less⟩
 |[],_::_,h=>h.elim
 |_::_,[],h=>h.elim
theorem ll.pr:∀{v r:ϊ},ll v r->L2.Pu.pr (v.map (·+1))<=L2.Pu.pr (r.map (·+1))
 |[],[],_=>UV _
 |_::_,_::_,h=>YI (ZD h.1) h.2.pr
 |[],_::_,h=>h.elim
 |_::_,[],h=>h.elim
theorem ll.sum:∀{v r:ϊ},ll v r->v.sum<=r.sum
 |[],[],_=>UV _
 |_::_,_::_,h=>by rw[Vk,Vk];exact Z8 h.1 h.2.sum
 |[],_::_,h=>h.elim
 |_::_,[],h=>h.elim
theorem cq:∀{r:ϊ} {c:Nat} {v:ϊ},v∈cr r c->ll v r
 |[],0,v,h=>by cases Vs.mp h;exact trivial
 |[],c+1,v,h=>by cases h
 |x::r,c,v,h=>by
  obtain⟨a,D,b⟩:=Wb.mp h;obtain⟨u,d,rfl⟩:=UL.mp b;have e:=Vg.mp D;exact⟨by grind,cq d⟩
theorem k8:∀{r v:ϊ},ll v r->v∈cr r v.sum
 |[],[],_=>Vs.mpr Z
 |x::r,a::v,h=>by
  refine Wb.mpr ⟨a,Vg.mpr (by rw[Vk];have:=h.1;lia),UL.mpr ⟨v,?_,Z⟩⟩;rw[Vk,Nat.add_sub_cancel_left];exact k8 h.2
 |[],_::_,h=>h.elim
 |_::_,[],h=>h.elim
theorem fR{f:w->List a}:∀{l:List w},(∀x∈l,ϱ (f x)<=n)->ϱ (l.flatMap f)<=ϱ l*n:=@List.rec _ _ (@λ_=>rc) (λx l v=>@λh=>by
  rw[V6,Va,U5,Nat.succ_mul,Nat.add_comm];exact Z8 (v λy D=>h y<|UI _ D)<|h x UP)
theorem nu:∀(r:ϊ) (c:Nat),ϱ (cr r c)<=pr (r.dropLast.map (·+1))
 |[],0=>UV _
 |[],_+1=>VL _
 |[x],c=>by
  have h:cr [x] c=(UT<|XF x c+1).flatMap λa=>(cr []<|c-a).map _:=Z;rw[h,Xp,Xs,Va];have e:((UT<|XF x c).flatMap λa=>(cr []<|c-a).map (a::·))=[]:=by
   refine Y9.mpr λa w=>?_;have:=Vg.mp w;obtain⟨n,D⟩:∃n,c-a=n+1:=⟨c-a-1,by grind⟩;rw[D];rfl
  rw[e];cases q:c-XF x c<;>simp[cr,q,pr]
 |x::y::r,c=>by
  have h:=fR (l:=UT<|XF x c+1) (f:=λa=>(cr _<|c-a).map (a::·)) λa _=>by rw[UD];exact nu (y::r)<|c-a
  rw[Vi]at h;apply U1 h;exact Xk _ ln
theorem ur{w D a:Type}{f:w->List D}{g:D->List a}(l:List w):(l.flatMap f).flatMap g=l.flatMap λx=>(f x).flatMap g:=List.flatMap_assoc
theorem w6(r:ϊ)(k):pr ((r.take k).map (·+1))<=pr (r.map (·+1)):=by
 conv=>rhs;rw[<-Xd k r,Vj,IN]
 exact Zc _ (ym λx w=>by
  obtain⟨n,_,rfl⟩:=UL.mp w;lia)
theorem xb(l):(nI l).map Int.toNat=l:=by
 rw[UR];exact(Vr λx _=>Z).trans<|List.map_id l
theorem jC(h:nI l=nI m):l=m:=by rw[<-xb l,h,xb]
theorem JF{f:w->a}{l:List w}(h:(l.map f).Nodup):l.Nodup:=(Xo.mp h).imp λq e=>q<|VR f e
theorem JG{D c}{f:D->c}(w:∀a b,f a=f b->a=b){l:List D}(h:l.Nodup):(l.map f).Nodup:=Xo.mpr<|h.imp λq e=>q<|w _ _ e
theorem md(h:k<ϱ w):w.drop k=w.getD k 0::w.drop (k+1):=by
 simp_all
noncomputable def Q_:Ϟ->ϊ->Bool
 |p::ps,a::v=>decide (p.1<=a)&&decide (a<=p.2)&&Q_ ps v
 |_,_=>O
def vB(w:Ϟ)(r:ϊ)(c:Nat):Ϙ:=(cr r c).filter<|Q_ w
theorem PZ(h:v∈vB w r c):v∈cr r c:=(Wg.mp h).1
theorem uK{w:Ϟ}{x}{r:ϊ}{c}:vB (p::w) (x::r) c=(UT<|XF x c+1).flatMap λa=>if p.1<=a/\a<=p.2 then(vB w r<|c-a).map (a::·)else[]:=by
 show((UT<|XF x c+1).flatMap λa=>(cr r<|c-a).map _).filter _=_;rw[List.filter_flatMap];refine VR (List.flatMap · _)<|funext λa=>?_;rw[List.filter_map];by_cases q:p.1<=a/\a<=p.2
 .rw[US q]
  refine VR _<|List.filter_congr λv _=>?_;show(decide _&&decide _&&Q_ w v)=Q_ w v;simp_all
 .rw[UU q,List.filter_eq_nil_iff.mpr,W5]
  intro v _ h;have h:(decide _&&decide _&&Q_ w v)=O:=h;simp only[Vu,Vx]at h;exact q h.1
noncomputable def lL:Ϟ->ϊ->ϊ
 |p::ps,x::r=>XF x p.2::lL ps r
 |_,_=>[]
noncomputable def lm(w:Ϟ):ϊ:=w.map (·.1)
theorem Ng:∀{w:Ϟ} {r:ϊ} {c:Nat} {v:ϊ},ϱ w=ϱ r->v∈vB w r c->(lm w).sum<=c/\c<=(lL w r).sum
 |[],[],c,v,_,h=>by
  have:=kB<|PZ h;simp at this;simp[lm,lL];lia
 |p::w,x::r,c,v,e,h=>by
  rw[uK]at h;obtain⟨a,D,h⟩:=Wb.mp h;by_cases q:p.1<=a/\a<=p.2
  .rw[US q]at h
   obtain⟨u,b,rfl⟩:=UL.mp h;have i:=Ng (by simpa using e) b;have:=Vg.mp D;simp only[lm,lL,UZ,Vk]at i⊢;lia
  .rw[UU q]at h;cases h
noncomputable def nxB(x:Nat)(p:Nat×Nat)(few a:Nat)(b:ϊ×Nat):List (ϊ×Nat):=(UT<|XF (XF x p.2+few) b.2+1-few-max p.1 (b.2-a)).map λi=>(b.1++[max p.1 (b.2-a)+i],b.2-(max p.1 (b.2-a)+i))
def pw(w:Ϟ)(r:ϊ)(c:Nat):Nat->List (ϊ×Nat)
 |0=>[([],c)]
 |k+1=>(pw w r c k).flatMap<|nxB (r.getD k 0) (w.getD k (0,0)) ((lm w).drop<|k+1).sum ((lL w r).drop<|k+1).sum
theorem pX{f:Nat->List b}{lo n N}(h:∀a<N,f a≠[]->lo<=a/\a<n)(D:n<=N):(UT N).flatMap f=(UT<|n-lo).flatMap λi=>f (lo+i):=by
 have e:∀{a},a<N->¬(lo<=a/\a<n)->f a=[]:=λ{a} w q=>XG λz=>q<|h a w z;obtain⟨d,rfl⟩:∃d,N=n+d:=⟨N-n,by grind⟩;rw[List.range_add,Xs,List.flatMap_map,(Y9.mpr λa w=>e (by have:=Vg.mp w;lia) ln:(UT d).flatMap _=[]),VA];obtain q|q:=Nat.le_total lo n
 .obtain⟨m,rfl⟩:∃m,n=lo+m:=⟨n-lo,ln⟩
  rw[List.range_add,Xs,Y9.mpr λa w=>e (by have:=Vg.mp w;lia) (by have:=Vg.mp w;lia),WH,List.flatMap_map,Nat.add_sub_cancel_left]
 .rw[show n-lo=0 by lia,Y9.mpr λa w=>e (by have:=Vg.mp w;lia) ln];rfl
theorem xG:∀{w:Ϟ} {r:ϊ} (k:Nat),lL (w.drop k) (r.drop k)=(lL w r).drop k
 |_,_,0=>rfl
 |[],r,k+1=>by simp[lL]
 |p::w,[],k+1=>by cases h:(w.drop k)<;>simp[lL,h]
 |p::w,x::r,k+1=>xG k
theorem fI{w:Type}{l}{k}{d:w}(h:k<ϱ l):l.getD k d=l[k]:=by rw[UO,UJ h];rfl
theorem gz{f g:w->List a}:∀{l:List w},(∀x∈l,f x=g x)->l.flatMap f=l.flatMap g:=@List.rec _ _ (@λ_=>Z) (λx l v=>@λh=>by rw[V6,V6,h x UP,v λy D=>h y<|UI _ D])
theorem zV{D}(j:ϱ D=ϱ r)(c):∀k,k<=ϱ r->((pw D r c k).flatMap λb=>(vB (D.drop k) (r.drop k) b.2).map (b.1++·))=vB D r c
 |0,_=>by simp[pw]
 |k+1,h=>by
  rw[<-zV j c k ln];show((pw D r c k).flatMap _).flatMap _=_;rw[ur];refine VR (List.flatMap · (pw D r c k))<|funext λb=>?_;have o:k<ϱ r:=by lia
  have p:k<ϱ D:=by lia
  rw[Wo o,Wo p,fI o,fI p,uK,WA,pX (λa d E=>?_)<|Y7 _ _]
  .unfold nxB
   rw[List.flatMap_map,show XF _ _=XF (XF r[k] D[k].2+((lm D).drop<|k+1).sum) b.2+1-((lm D).drop<|k+1).sum from Nat.min_eq_right (by have:=Y7 r[k] D[k].2;omega)];refine gz λi t=>?_;have:=Vg.mp t;have g:=U1 (Y7 (XF r[k] D[k].2+((lm D).drop<|k+1).sum) b.2)<|Nat.add_le_add_right (ZB _ _) _;rw[US ⟨U1 (Nat.le_max_left _ _)<|Xi _ _,by generalize XF _ b.2=x at*;generalize max D[k].1 _=y at*;omega⟩,UR];exact Vr λv _=>by simp
  .by_cases q:D[k].1<=a/\a<=D[k].2
   .rw[US q]at E
    obtain⟨w,e⟩:=List.exists_mem_of_ne_nil _ E;obtain⟨w,e,_⟩:=UL.mp e;obtain⟨v,u,_⟩:=UL.mp e;have:=Ng (by simp[j]) u;rw[xG]at this;unfold lm at this⊢;rw[Ys]at this;have l:=Za.mp<|Zm d;have m:=Za.mpr ⟨l.1,q.2⟩;refine⟨Nat.max_le.mpr ⟨q.1,?_⟩,Nat.lt_min.mpr ⟨d,Nat.lt_sub_of_add_lt<|Nat.lt_succ_of_le<|Za.mpr ⟨Nat.add_le_add_right m _,?_⟩⟩⟩<;>clear d m<;>grind
   .rw[UU q]at E;simp_all
theorem PY(c):vB [] [] c=if(c:Int)=0 then[[]]else[]:=by
 cases c with
 |zero=>rfl
 |succ n=>rw[UU ln];rfl
theorem Oo(a:ϱ w=ϱ r)(c):((pw w r c (ϱ r)).filter λb=>decide ((b.2:Int)=0)).map (·.1)=vB w r c:=by
 rw[<-zV a c _ (UV _),Zu,<-a,Zu,a];generalize pw w r c _=l
 induction l with
 |nil=>rfl
 |cons b l D=>
  rw[V6,YM,<-D,PY];by_cases q:(b.2:Int)=0
  .rw[US q,US<|U3 q];simp
  .rw[UU q,UU<|by simp;lia];rfl
theorem zU{r:ϊ}(c):∀k,k<=ϱ r->ϱ (pw w r c k)<=pr ((r.take k).map (·+1))
 |0,_=>UV _
 |k+1,h=>by
  rw[iY (UJ ln)];refine U1 (fR λb _=>?_) (Xk _<|zU c k ln);unfold nxB;rw[UD,Vi,fI (show k<ϱ r by lia)];refine U1 (Nat.sub_le _ _)<|Nat.sub_le_of_le_add ?_;rw[Nat.add_right_comm];exact ZD<|U1 (Y7 _ _)<|Nat.add_le_add_right (Y7 _ _) _
theorem HE(w)(r)(c):∀k,∀b∈pw w r c k,b.2<=c/\ϱ b.1=k
 |0,b,h=>by cases Vs.mp h;exact⟨UV _,Z⟩
 |k+1,b,h=>by
  obtain⟨d,D,a⟩:=Wb.mp (show b∈(pw w r c k).flatMap _ from h);obtain⟨i,_,rfl⟩:=UL.mp a;obtain⟨G,E⟩:=HE w r c k d D;exact⟨ln,by rw[Va,E];rfl⟩
theorem GT:∀{ps:Ϟ} {r:ϊ},(lL ps r).sum<=r.sum
 |[],r=>VL _
 |_::_,[]=>UV _
 |p::ps,x::r=>by
  have:=GT (ps:=ps) (r:=r);simp only[lL,Vk];lia
abbrev Wy:=Nat->ϊ->Ϙ
def WOk(w:ϊ)(W:Wy):Prop:=∀k r,(W k r).Sublist<|cr r<|w.getD k 0
def nwI(W:Wy)(L:Ϙ)(k:Nat):LI:=L.flatMap λr=>(W k r).map λv=>nI<|less r v
def nwL(W:Wy)(L:Ϙ)(k:Nat):Ϙ:=(oZ<|nwI W L k).map λk=>k.map Int.toNat
section
variable{W:Wy}{cs rs:ϊ}
theorem iZ{y}:y∈nwI W L k↔∃r∈L,∃v∈W k r,y=nI (less r v):=by
 unfold nwI;constructor
 .intro h
  obtain⟨r,a,h⟩:=Wb.mp h;obtain⟨v,b,rfl⟩:=UL.mp h;exact⟨r,a,v,b,Z⟩
 .rintro⟨r,a,v,b,rfl⟩
  exact Wb.mpr ⟨r,a,UL.mpr ⟨v,b,Z⟩⟩
theorem xa(L)(k):(nwL W L k).map nI=oZ (nwI W L k):=by
 unfold nwL;rw[UR];refine(Vr λy w=>?_).trans<|List.map_id _;obtain⟨r,_,v,_,rfl⟩:=iZ.mp<|f7.mp w;simp_all
theorem hZ{u}:u∈nwL W L k↔∃r∈L,∃v∈W k r,u=less r v:=by
 constructor
 .intro h
  have:nI u∈oZ (nwI W L k):=by rw[<-xa];exact UL.mpr ⟨u,h,Z⟩
  obtain⟨r,a,v,b,e⟩:=iZ.mp<|f7.mp this;exact⟨r,a,v,b,jC e⟩
 .rintro⟨r,a,v,b,rfl⟩
  exact UL.mpr ⟨nI<|less r v,f7.mpr<|iZ.mpr ⟨r,a,v,b,Z⟩,xb _⟩
def en(W:Wy)(rs:ϊ):Nat->Ϙ
 |0=>[rs]
 |k+1=>nwL W (en W rs k) k
theorem mY:∀k,(en W rs k).Nodup:=Nat.rec (X7 _ _) λk _=>JF (by show(Ww nI<|nwL _ _ _).Nodup;rw[xa];exact Nh<|mG _)
theorem gL(b:WOk cs W)(w:rs.sum=cs.sum):∀k,k<=ϱ cs->∀r∈en W rs k,ll r rs/\r.sum=(cs.drop k).sum
 |0,_,r,h=>by cases Vs.mp h;exact⟨ll.refl _,w⟩
 |k+1,hk,u,h=>by
  obtain⟨r,c,v,a,rfl⟩:=hZ.mp (show u∈nwL W _ k from h);have a:=(b k r).subset a;obtain⟨D,E⟩:=gL b w k ln r c;have G:=(kB a).2.1;rw[E,md ln,Vk]at G;exact⟨(cq a).less.tr D,ln⟩
theorem O4(a:WOk cs W)(w:rs.sum=cs.sum)(b:k<=ϱ cs):ϱ (en W rs k)<=pr (rs.dropLast.map (·+1)):=
 U1 (nd_len (mY k) (m:=cr rs (cs.drop k).sum) λr c=>by
  obtain⟨d,e⟩:=gL a w k b r c;rw[<-e];exact k8 d) (nu _ _)
theorem AU(a:WOk cs W)(w:rs.sum=cs.sum)(d:1<=ϱ rs)(e:pr (rs.dropLast.map (·+1))<63)(f:k<ϱ cs):ig ((nwI W (en W rs k) k).map iv)=U (.lst<|(en W rs<|k+1).map λr=>iv<|nI r):=by
 refine(Qi (m:=(cr rs (cs.drop<|k+1).sum).map nI) ?_ (by rw[UD];exact VT (nu _ _) e) ?_).trans ?_
 .intro x hx
  obtain⟨r,b,v,c,rfl⟩:=iZ.mp hx;rw[UD,((cq<|(a k r).subset c).less.tr (gL a w k ln r b).1).len];exact d
 .intro x hx
  obtain⟨r,b,v,c,rfl⟩:=iZ.mp hx;obtain⟨D,E⟩:=gL a w _ f _<|hZ.mpr ⟨r,b,v,c,Z⟩;exact UL.mpr ⟨less r v,by rw[<-E];exact k8 D,Z⟩
 .rw[<-xa,UR];rfl
def kyW(W:Wy)(rs:ϊ)(n:Nat):List (Int×ώ):=(UT n).flatMap λk=>(en W rs k).map λr=>((k:Int),nI r)
theorem Kq:∀n,(kyW W rs n).Nodup:=Nat.rec List.nodup_nil λn v=>by
  unfold kyW;rw[Xp,Xs,V6,List.flatMap_nil,VA];refine List.nodup_append.mpr ⟨v,JG (λr s e=>jC (Xy.mp e).2)<|mY n,λx w y D e=>?_⟩;obtain⟨k,a,h⟩:=Wb.mp w;obtain⟨r,_,rfl⟩:=UL.mp h;obtain⟨s,_,e⟩:=UL.mp D;have:=(Xy.mp e).1;have b:=Vg.mp a;lia
def l0(W:Wy):Nat->Nat->ϊ->Nat
 |0,_,_=>1
 |j+1,k,r=>sm (W k r) λv=>l0 W j (k+1)<|less r v
def u_(W:Wy):Nat->Nat->ϊ->Nat
 |0,_,_=>1
 |j+1,k,r=>sm (W k r) λv=>mu v*u_ W j (k+1) (less r v)
theorem Ql(h:l.Sublist m)(q:∀a∈m,f a<=g a):sm l f<=sm m g:=by
 induction h with
 |slnil=>exact UV _
 |cons a _ w=>rw[cX];exact U1 (w λx D=>q x<|UI _ D)<|Nat.le_add_left _ _
 |cons_cons a _ w=>rw[cX,cX];exact Z8 (q a UP)<|w λx D=>q x<|UI _ D
theorem zg(a:WOk cs W):∀(j k:Nat) (r:ϊ),k+j=ϱ cs->u_ W j k r<=dls r (cs.drop k)
 |0,k,r,h=>by rw[show k=ϱ cs by omega,Zu];exact UV _
 |j+1,k,r,h=>by
  rw[md ln];exact Ql (a k r) λv _=>Nat.mul_le_mul_left _ (zg a j _ _<|by grind)
noncomputable def R_:Ϟ->ϊ->Ϙ
 |p::ps,x::r=>(UT<|XF p.2 x+1-p.1).flatMap λi=>(R_ ps r).map ((p.1+i)::·)
 |_,_=>[[]]
theorem K1:∀{w:Ϟ} {r:ϊ} {c:Nat},ϱ w=ϱ r->(R_ w r).filter (λv=>decide (v.sum=c))=vB w r c
 |[],[],c,_=>by cases c<;>rfl
 |p::w,x::r,c,h=>by
  have E:ϱ w=ϱ r:=by simpa using h
  rw[uK,pX (λa b D=>?_)<|Y7 _ _]
  .show((UT<|XF _ x+1-p.1).flatMap λi=>(R_ w r).map _).filter _=_
   rw[List.filter_flatMap];have e:∀i,List.filter (λv=>decide (v.sum=c)) _=if p.1+i<=c then(vB w r<|c-(p.1+i)).map ((p.1+i)::·)else[]:=λi=>by
    rw[List.filter_map];by_cases q:p.1+i<=c
    .rw[US q,<-K1 E]
     refine VR _<|List.filter_congr λv _=>?_;show decide _=_;rw[Vk];exact decide_eq_decide.mpr (by grind)
    .rw[UU q,List.filter_eq_nil_iff.mpr,W5]
     intro v _ z;have z:decide _=O:=z;rw[Vk,Vx]at z;lia
   rw[gz λi _=>e i,pX (λa D q=>⟨VL _,?_⟩)<|Nat.sub_le_sub_right (ZB _ _) _,Nat.sub_zero]
   .refine gz λi d=>?_
    have g:=Nat.lt_min.mp<|Nat.add_lt_of_lt_sub'<|Vg.mp d;rw[WM,US (Za.mp<|Zm g.1).2,US ⟨Xi _ _,(Za.mp<|Zm g.2).1⟩]
   .by_cases z:p.1+a<=c
    .have g:=Nat.add_lt_of_lt_sub' D
     exact Nat.lt_sub_iff_add_lt'.mpr<|Nat.lt_min.mpr ⟨Nat.lt_succ_of_le<|Za.mpr ⟨(Za.mp<|Zm g).2,z⟩,g⟩
    .rw[UU z]at q;simp_all
  .by_cases q:p.1<=a/\a<=p.2
   .exact⟨q.1,Nat.lt_min.mpr ⟨b,Nat.lt_succ_of_le<|Za.mpr ⟨q.2,(Za.mp<|Zm b).1⟩⟩⟩
   .rw[UU q]at D;simp_all
noncomputable def nN(w:Ϟ)(r:ϊ):Nat->Ϙ
 |0=>[[]]
 |k+1=>(nN w r k).flatMap λu=>(UT<|XF (w.getD k (0,0)).2 (r.getD k 0)+1-(w.getD k (0,0)).1).map λi=>u++[(w.getD k (0,0)).1+i]
theorem BL(c:ϱ w=ϱ r):∀k,k<=ϱ r->((nN w r k).flatMap λu=>(R_ (w.drop k)<|r.drop k).map (u++·))=R_ w r
 |0,_=>by simp[nN]
 |k+1,h=>by
  rw[<-BL c k ln];show((nN w r k).flatMap _).flatMap _=_;rw[ur];refine gz λu _=>?_;have a:k<ϱ r:=by lia
  have b:k<ϱ w:=by lia
  rw[Wo a,Wo b,fI a,fI b];show _=((UT<|XF _ _+1-w[k].1).flatMap λi=>(R_ _<|r.drop<|k+1).map _).map _;rw[WA,List.flatMap_map];refine gz λi _=>?_;simp_all
theorem BK(a:ϱ w=ϱ r):nN w r (ϱ r)=R_ w r:=by
 rw[<-BL a _ (UV _),Zu,<-a,Zu];show _=(nN w r _).flatMap λu=>[u++[]];generalize nN w r _=l
 simp_all
theorem BJ{r:ϊ}:∀k,k<=ϱ r->ϱ (nN w r k)<=pr ((r.take k).map (·+1)):=Nat.rec (λ_=>UV _) λk v h=>by
  rw[iY (UJ ln)];refine U1 (fR λb _=>?_) (Xk _<|v ln);rw[UD,Vi,fI (show k<ϱ r by lia)];exact U1 (Nat.sub_le _ _)<|ZD<|ZB _ _
theorem KE:∀k,∀u∈nN w r k,ϱ u=k:=Nat.rec (λb h=>by cases Vs.mp h;rfl) λk v b h=>by
  obtain⟨d,D,a⟩:=Wb.mp (show b∈(nN w r k).flatMap _ from h);obtain⟨i,_,rfl⟩:=UL.mp a;rw[Va,v d D];rfl
end
end L2.Nt
namespace L2.Pu
theorem Lb(h:∀i<n,f i<=g i):S n f<=S n g:=by
 induction n with
 |zero=>exact Int.le_refl _
 |succ n w=>
  rw[iM,iM];have a:=w λi b=>h i ln;have c:=h n ln;lia
theorem N5(n)(f g):S n (λi=>f i-g i)=S n f-S n g:=by
 induction n with
 |zero=>rfl
 |succ n w=>rw[iM,iM,iM,w];lia
noncomputable def fl(x y:Bool)(l h:Int):Int:=(if x=O/\y=UK then h else 0)-(if x=UK/\y=O then l else 0)
def slk(w D:a0P)(E a:Nat->Nat->Int)(r c:Nat)(X b:Nat->Bool):Int:=
 S c (λj=>if b j=O then D j else 0)-S r (λi=>if X i=O then w i else 0)+S r λi=>S c λj=>fl (X i) (b j) (E i j)<|a i j
section
variable{m o:a0P}{p l:Nat->Nat->Int}{r c:Nat}
theorem Oq{g:Nat->Nat->Int}(h:∀i<r,∀j<c,p i j<=g i j/\g i j<=l i j)(d:∀i<r,m i=S c (g i))(e:∀j<c,o j=S r λi=>g i j)(X n:Nat->Bool):0<=slk m o p l r c X n:=by
 have f:S c (λj=>if n j=O then o j else 0)=S r λi=>S c λj=>if n j=O then g i j else 0:=by
  rw[La];refine eZ λj a=>?_;cases q:n j with
  |true=>simp only;exact e j a
  |false=>simp only[Vd];exact(qh r).symm
 have k:S r (λi=>if X i=O then m i else 0)=S r λi=>S c λj=>if X i=O then g i j else 0:=by
  refine eZ λi l=>?_;cases q:X i with
  |true=>simp only;exact d i l
  |false=>simp only[Vd];exact(qh c).symm
 unfold slk;rw[f,k,<-N5,<-xv];refine Int.le_trans (Int.le_of_eq (qh r).symm)<|Lb λi b=>?_;rw[<-N5,<-xv];refine Int.le_trans (Int.le_of_eq (qh c).symm)<|Lb λj a=>?_;have:=h i b j a;unfold fl;cases X i<;>cases n j<;>simp<;>lia
noncomputable def y1:Nat->Ϙ
 |0=>[[]]
 |n+1=>y1 n++(y1 n).map (·++[n])
theorem kx:∀(n:Nat) (l:ϊ),l∈y1 n->l.Sublist (UT n):=Nat.rec (λl h=>by rw[Vs.mp h];exact .slnil) λn w l h=>by
  rw[Xp];obtain h|h:=V7.mp h
  .exact(w l h).trans (List.sublist_append_left _ _)
  .obtain⟨a,h',rfl⟩:=UL.mp h
   simp_all
theorem CD:∀n:Nat,ϱ (y1 n)=2^n:=Nat.rec Z λn h=>by
  rw[y1,Va,UD,h,Nat.pow_succ];lia
end
section
variable{o m:ώ}{b:LP}{r c:Nat}
abbrev slB(o m:ώ)(b:LP)(r c:Nat)(X a:Nat->Bool):Int:=slk (λi=>o.getD i 0) (λj=>m.getD j 0) (λi j=>(bI b i j).1) (λi j=>(bI b i j).2) r c X a
theorem Qn(e:a.Sublist<|UT r)(f:d.Sublist<|UT c):wX m b r c a d-tY o a=slB o m b r c (λi=>decide (i∈a)) (λj=>decide (j∈d)):=by
 rw[OB e f];unfold tY slB slk;rw[qr f,qr e];have h:∀(n:Nat) (l:ϊ) (g:a0P),S n (λj=>if decide (j∈l)=O then g j else 0)=S n (λj=>if j∈l then g j else 0):=λn l g=>eZ λj _=>by simp
 rw[h,h];have k:(S r λi=>S c λj=>hF b a d i j)=S r λi=>S c λj=>fl (decide (i∈a)) (decide (j∈d)) (bI b i j).1 (bI b i j).2:=by
  refine eZ λi _=>eZ λj _=>?_;unfold hF fl;simp
 simp only[k];lia
def yw(m:ώ)(b:LP)(r c:Nat)(a:ϊ):ϊ:=(UT c).filter λj=>decide (gy m b r a j<ib b a j)
end
end L2.Pu
namespace L2.Nt
open L2.Pu
def stW(W:Wy)(j k:Nat)(r:ϊ):Ϙ:=(W k r).filter λv=>decide ((0:Int)<((l0 W j (k+1) (less r v):Nat):Int))
def Wk(W:Wy):Nat->ϊ->Ϙ->Prop
 |_,_,[]=>True
 |k,r,v::vs=>v∈W k r/\Wk W (k+1) (less r v) vs
section
variable{W:Wy}{l:ϊ}
theorem NM{a}:∀{l:List w},a∈l->f a<=sm l f
 |b::l,h=>by
  rw[cX];obtain rfl|h:=U4.mp h
  .lia
  .have:=NM (f:=f) h;lia
theorem GI:∀{j k:Nat} {r:ϊ} {vs:Ϙ},Wk W k r vs->ϱ vs=j->0<l0 W j k r
 |_,_,_,[],_,rfl=>Nat.one_pos
 |_,k,r,v::vs,h,rfl=>Vo (GI h.2 Z)<|NM (f:=λv=>l0 W _ _<|less r v) h.1
def lC(u v:ϊ):ϊ:=YO (·+·) u v
def B3(n:Nat):Ϙ->ϊ
 |[]=>Vn n 0
 |v::vs=>lC v<|B3 n vs
theorem yH:∀{v r:ϊ},ϱ v=ϱ r->less (lC v r) v=r/\ll v (lC v r)
 |[],[],_=>⟨Z,trivial⟩
 |x::v,y::r,h=>by
  obtain⟨a,b⟩:=yH (by simpa using h);refine⟨?_,Xi _ _,b⟩;show(x+y-x)::less (lC v r) v=_;simp_all
theorem zB:∀{v r:ϊ},ll v r->lC v (less r v)=r
 |[],[],_=>rfl
 |x::v,y::r,h=>by
  show(x+(y-x))::lC v (less r v)=_;rw[zB h.2,Nat.add_sub_cancel' h.1]
 |[],_::_,h=>h.elim
 |_::_,[],h=>h.elim
theorem qu:∀{l:Ϙ},(∀v∈l,ϱ v=n)->ϱ (B3 n l)=n:=@List.rec _ _ (@λ_=>WS) (λv l w=>@λh=>by
  show(YO _ _ _).length=n;simp_all)
theorem Qg:∀{r:ϊ},r.sum=0->r=Vn (ϱ r) 0:=λ{x0}=>x0.rec (@λ_=>Z) λx r w=>@λh=>by
  rw[Vk]at h;obtain rfl:x=0:=by lia
  rw[U5,Wm,<-w ln]
theorem uI(a:WOk l W):∀{w:Ϙ} {k:Nat} {r:ϊ},Wk W k r w->k+ϱ w=ϱ l->r.sum=(l.drop k).sum->w.map WC=l.drop k/\r=B3 (ϱ r) w/\∀v∈w,ϱ v=ϱ r
 |[],k,r,_,e,s=>by
  rw[Xx (by exact e▸UV _)]at s⊢;exact⟨Z,Qg s,λ_ h=>by cases h⟩
 |v::w,k,r,h,e,s=>by
  rw[U5]at e;have b:=(a k r).subset h.1;obtain⟨E,K,G,_⟩:=kB b;have D:=cq b;rw[md ln,Vk]at s;obtain⟨g,c,d⟩:=uI a h.2 (by grind) ln;rw[D.less.len]at c d;refine⟨by rw[md ln,UZ,g,E],?_,λu hu=>?_⟩
  .show r=lC v _
   rw[<-c,zB D]
  .obtain rfl|hu:=U4.mp hu
   .exact G
   .exact d u hu
theorem M9:∀{vs:Ϙ} {k:Nat},(∀v∈vs,ϱ v=n)->(∀i r v,vs[i]?=U v->ll v r->v∈W (k+i) r)->Wk W k (B3 n vs) vs:=@List.rec _ _ (@λ_ _ _=>trivial) (λv vs j=>@λk h hw=>by
  have b:=λu a=>h u<|UI _ a;obtain⟨c,d⟩:=yH (r:=B3 n vs) (by rw[h v UP,qu b]);refine⟨hw 0 _ v Z d,?_⟩;show Wk W _ (less (lC v<|B3 n vs) v) vs;rw[c];exact j b λi r u a w=>by
   have:=hw (i+1) r u a w;rwa[show k+(i+1)=k+1+i by lia]at this)
theorem mF:∀{l:ϊ} {i x y:Nat},l[i]?=U x->(l.set i y).sum+x=l.sum+y
 |a::l,0,x,y,h=>by
  cases h;show(y::l).sum+a=(a::l).sum+y;rw[Vk,Vk];lia
 |a::l,i+1,x,y,h=>by
  have:=mF (i:=i) (y:=y) h;show(a::l.set i y).sum+x=(a::l).sum+y;rw[Vk,Vk];grind
theorem SC{i x y:Nat}(a:u[i]?=U x)(b:v[i]?=U y):(lC u v)[i]?=U (x+y):=by
 unfold lC;rw[List.getElem?_zipWith,a,b]
theorem HZ:∀{l:Ϙ},(∀v∈l,ϱ v=n)->i<n->(B3 n l).getD i 0=(l.map λv=>v.getD i 0).sum:=@List.rec _ _ (@λ_ hi=>by
  show(Vn n 0).getD i 0=0;simp_all) (λv l u=>@λh hi=>by
  have a:=λw b=>h w<|UI _ b;have c:=h v UP;have d:=qu a;rw[UZ,Vk,<-u a hi];show(lC v<|B3 n l).getD i 0=_;rw[UO,SC (UJ ln) (UJ ln),fI ln,fI ln];rfl)
def pth(W:Wy):Nat->Nat->ϊ->List Ϙ
 |0,_,_=>[[]]
 |j+1,k,r=>(W k r).flatMap λv=>(pth W j (k+1)<|less r v).map (v::·)
variable{a:ϊ}
theorem AH:∀(j k:Nat) (r:ϊ),ϱ (pth W j k r)=l0 W j k r
 |0,_,_=>rfl
 |j+1,k,r=>by
  show((W k r).flatMap _).length=_;rw[List.length_flatMap];congr 1;exact Vr λv _=>by rw[UD,AH]
theorem yk:∀{j k:Nat} {r:ϊ} {l:Ϙ},l∈pth W j k r->Wk W k r l/\ϱ l=j:=@Nat.rec _ (@λ_ _ l h=>by cases Vs.mp h;exact⟨trivial,Z⟩) (λj u=>@λk r l h=>by
  obtain⟨v,a,b⟩:=Wb.mp (show l∈(W k r).flatMap _ from h);obtain⟨w,c,rfl⟩:=UL.mp b;obtain⟨d,e⟩:=u c;exact⟨⟨a,d⟩,by rw[U5,e]⟩)
end
end L2.Nt
namespace L2.Pu
theorem HG(h:ig w=U d)(q:∀d,d∈w↔d∈a):ig a=U d:=by
 obtain⟨G,s,rfl⟩:=lH h;exact xP ⟨s.1,s.2.1,λk b=>⟨(s.2.2.1 k b).1,(q _).mp (s.2.2.1 k b).2⟩,λd E=>s.2.2.2 d<|(q d).mpr E⟩
end L2.Pu
namespace Law
open L2 L2.Pu L2.Nt
section
variable{K:Vb}{a:Ad}{β:Bg}
abbrev tN(l:ϊ):D:=iv<|nI l
abbrev eN(b:ϊ×Nat):D:= .tup [tN b.1,.int (b.2:Int)]
abbrev pN(p:Nat×Nat):D:=pD ((p.1:Int),(p.2:Int))
def T_(r:ϊ):Prop:=1<=r.length/\r.length<=4/\r.sum<=40/\pr (r.map (·+1))<=500
theorem oQ{ds a}(b:f δ β=U (.ok x,β))(c:g δ β=U (.ok y,β))(d:d9 x=U ds)(e:d9 y=U a):nX (af f<|af g az) δ β=U (.ok<|eC ds a,β):=bO (aa b<|aa c Z) (by
 unfold Lf;simp_all)
theorem xy{a:Type}{f g:a->D}:∀l:List a,eC (l.map f) (l.map g)=l.map λx=> .tup [f x,g x]:=List.rec Z λx l h=>VR _<|h
theorem QA{a:Nat}(b:-1000<=h)(c:h<=1000)(d:a<=1000):rO [.int (a:Int),.int h]=U ((UT (h-a).toNat).map λi=>D.int ((a+i:Nat):Int)):=by
 have e:rO [.int (a:Int),.int h]=U (bv a (h-a).toNat):=by
  rw[rO];rw[US<|by grind]
 rw[e];rfl
theorem addT{l:ϊ}{c:Nat}(h:ϱ l<=100):dG (tN l) (.tup [.int (c:Int)])=U (tN<|l++[c]):=by
 cases l with
 |nil=>rfl
 |cons x l=>
  show(if _ then _ else _)=_;rw[US<|bh<|by simp at h⊢;lia];simp
theorem HC(l)(k):gT [.lst<|((nI l).map D.int).drop k]=U (.int (((l.drop k).sum:Nat):Int)):=by
 rw[<-Ys,<-Ys];exact(gn _).trans (by rw[<-jA])
theorem GW:∀{r:ϊ} {ps:Ϟ},(r.zip ps).map (λq=>D.int<|XF (q.1:Int) (q.2.2:Int))=(nI<|lL ps r).map D.int
 |[],_=>by cases ‹Ϟ›<;>rfl
 |_::_,[]=>rfl
 |x::r,p::ps=>by
  show _::_=D.int _::(nI<|lL ps r).map _;rw[<-(GW (r:=r) (ps:=ps))];show D.int _::_=_;rw[show XF _ _=((XF x p.2:Nat):Int) by grind];rfl
theorem GU:∀{a:Ϟ} {r:ϊ} {k:Nat} (b:k<ϱ a) (c:k<ϱ r),(lL a r)[k]?=U (XF r[k] a[k].2)
 |p::a,x::r,0,_,_=>rfl
 |p::a,x::r,k+1,b,c=>GU (k:=k) (by simpa using b) (by simpa using c)
abbrev y9(a:Ϟ)(r:ϊ)(c:Nat)(w:D)(b d e:ϥ):Ds:=[U<|.sh<|tN r,U<|.sh<|.int (c:Int),U<|.sh<|.lst<|a.map pN,U<|.sh<|.lst<|(nI<|lm a).map .int,U<|.sh<|.lst<|(nI<|lL a r).map .int,U<|.sh w,b,d,e]
theorem Si{w:Ϟ}{r:ϊ}{c:Nat}(H:T_ r)(v:w.length=r.length)(A:∀p∈w,p.1<=40/\p.2<=40)(R:c<=40):(nK K a).1 [tN r,.int (c:Int),.lst<|w.map pN] β=U (.ok<|.lst<|(vB w r c).map tN,β):=by
 obtain⟨_,T,G,f5⟩:=H;have I:r.length<=Ve:=bh ln;have o:∀k,k<=r.length->(pw w r c k).length<=Ve:=λk m=>bh (U1 (zU c k m)<|U1 (w6 r k) ln);unfold nK
 dsimp only
 refine aE ?_;refine aF (d:= .lst<|(nI<|lm w).map .int) (β1:=β) ?_ ?_
 .have:=bx (nv:=2) (b4:=[]) (it:=cR<|ac 2) (tg:=O_<|fj (gt 0)<|fj (gt 1) kC) (f:=ac 0) (δ:=vw<|y9 w r c .non Y Y Y) (β:=β) w pN (λp=> .int (p.1:Int)) Z (λx _=>⟨[U<|.int (x.1:Int),U<|.int (x.2:Int)],Z,Z⟩) (by rw[v];exact I)
  refine Eq.trans this ?_;unfold lm;rw[UR,UR];rfl
 refine aF (d:= .lst<|(nI<|lL w r).map .int) (β1:=β) ?_ ?_
 .rw[<-GW]
  exact bx (nv:=3) (b4:=[]) (it:=nX<|af (ac 0)<|af (ac 2)<|az) (tg:=O_<|fj (gt 0)<|fj (O_<|fj (gt 1)<|fj (gt 2) kC) kC) (f:=aX yA<|af (ac 0)<|af (ac 2)<|az) (δ:=vw<|y9 w r c .non Y Y Y) (β:=β) (r.zip w) (λq=>D.tup [.int (q.1:Int),pN q.2]) _ (by
   rw[<-iP (λx:Nat=>D.int (x:Int)) pN];refine oQ (x:=tN r) (y:= .lst<|w.map pN) Z Z ?_ Z;show U _=U _;rw[UR];rfl) (λq _=>⟨[U<|.int (q.1:Int),U<|.int (q.2.1:Int),U<|.int (q.2.2:Int)],Z,ah Z EF⟩) (bh<|by rw[XS];lia)
 refine aF (d:= .lst<|(pw w r c 0).map eN) (β1:=β) (ah (aa (ah (aa (ah Z Z)<|aa Z Z) cj) Z) rW) ?_;refine bw (ds:=bv 0 r.length) (β1:=β) (bO (aa (ah (z:= .int (r.length:Int)) Z (by show U (D.int _)=_;rw[UD,UD])) Z)<|F3 ln ln) (λk δ C=>β=C/\∃B t u,δ=y9 w r c (.lst<|(pw w r c k).map eN) B t u) ⟨Z,Y,Y,Y,Z⟩ ?_ ?_
 .rintro k d δ _ hd ⟨rfl,B,t,u,rfl⟩
  obtain⟨m,rfl⟩:=wZ hd;have j:k<w.length:=by lia
  have J:w[k]?=U w[k]:=UJ j;have b40:=A _<|VU j;have W:(lm w).sum<=160:=by
   have g:∀l:Ϟ,(∀p∈l,p.1<=40/\p.2<=40)->(lm l).sum<=40*l.length:=λl=>by
    induction l with
    |nil=>intro _;exact UV _
    |cons p l E=>
     intro h;have:=E λq v=>h q<|UI _ v;have:=(h p UP).1;simp only[lm,UZ,Vk,U5]at*;lia
   have:=g w A;lia
  have F:∀(l:ϊ) (n:Nat),(l.drop n).sum<=l.sum:=λl n=>by
   conv=>rhs;rw[<-Xd n l,Y1]
   lia
  have L:=F (lm w)<|k+1;have N:=U1 (F (lL w r)<|k+1) GT;refine⟨y9 w r c (.lst<|(pw w r c k).map eN) (U<|.sh<|.int (k:Int)) t u,Z,?_⟩;refine aF (d:= .int ((((lm w).drop<|k+1).sum:Nat):Int)) (β1:=β) (ah (aa (jr Z<|b0 Z Z Z) Z)<|(VR (λl=>gT [.lst l])<|i9 (k:=k+1)).trans<|HC _ _) ?_;refine aF (d:= .int ((((lL w r).drop<|k+1).sum:Nat):Int)) (β1:=β) (ah (aa (jr Z<|b0 Z Z Z) Z)<|(VR (λl=>gT [.lst l])<|i9 (k:=k+1)).trans<|HC _ _) ?_;refine ao<|aF (d:= .lst<|(pw w r c<|k+1).map eN) (β1:=β) ?_<|b_ ⟨Z,_,_,_,Z⟩;have e:(pw w r c<|k+1).map eN=(pw w r c k).flatMap λb=>(nxB r[k] w[k] ((lm w).drop<|k+1).sum ((lL w r).drop<|k+1).sum b).map eN:=by
   show((pw w r c k).flatMap _).map eN=_;rw[WA,fI m,fI j]
  rw[e];refine BZ (pw w r c k) eN _ Z (λb A=>⟨[U<|tN b.1,U<|.int (b.2:Int),Y,U<|.lst<|(nI<|lm w).map .int,U<|.int (k:Int),U<|.int ((((lL w r).drop<|k+1).sum:Nat):Int),U<|.lst<|(nI<|lL w r).map .int,U<|.int ((((lm w).drop<|k+1).sum:Nat):Int)],Z,?_⟩) (by
   rw[<-e,UD];exact o (k+1) m)
  obtain⟨X,M⟩:=HE w r c k b A;have P:=cP<|VU m;unfold nxB;generalize ((lm w).drop<|k+1).sum=few at*;generalize ((lL w r).drop<|k+1).sum=most at*;refine(JA (UT<|XF (XF r[k] w[k].2+few) b.2+1-few-max w[k].1 (b.2-most)) (λi=>D.int ((max w[k].1 (b.2-most)+i:Nat):Int)) (λi=>eN (b.1++[max w[k].1 (b.2-most)+i],b.2-(max w[k].1 (b.2-most)+i))) ?_ ?_).trans (by rw[UR];rfl)
  .refine bO (as:=[.int ((max w[k].1 (b.2-most):Nat):Int),.int<|XF ((XF r[k] w[k].2:Nat):Int) ((b.2:Int)-few)+1]) (aa (ah (aa (b0 Z Z<|cQ (d:= .int (w[k].1:Int)) ?_)<|aa (b0 Z Z Z) Z)<|Ro.trans ?_)<|aa (b0 (ah (aa (b0 Z Z<|cQ (d:= .int ((XF r[k] w[k].2:Nat):Int)) ?_)<|aa (b0 Z Z Z) Z) EF) Z Z) Z) ((QA ln ln ln).trans ?_)
   .unfold lm
    rw[UN,UN,UN,J];rfl
   .rw[show max (w[k].1:Int) ((b.2:Int)-(most:Int))=((max w[k].1 (b.2-most):Nat):Int) by lia]
   .rw[UN,UN,GU j m];rfl
   .rw[show(XF ((XF r[k] w[k].2:Nat):Int) ((b.2:Int)-few)+1-((max w[k].1 (b.2-most):Nat):Int)).toNat=XF (XF r[k] w[k].2+few) b.2+1-few-max w[k].1 (b.2-most) by generalize XF r[k] w[k].2=x;generalize max w[k].1 (b.2-most)=y;lia]
  .refine λi o7=>⟨[U<|tN b.1,U<|.int (b.2:Int),U<|.int ((max w[k].1 (b.2-most)+i:Nat):Int),U<|.lst<|(nI<|lm w).map .int,U<|.int (k:Int),U<|.int (most:Int),U<|.lst<|(nI<|lL w r).map .int,U<|.int (few:Int)],Z,ah (aa (b0 Z (ah Z Z)<|addT (l:=b.1) (c:=max w[k].1 (b.2-most)+i) ln)<|aa (b0 Z Z Z) Z)<|cj.trans ?_⟩
   have Q:=Vg.mp o7;show U (D.tup [_,.int _])=U (D.tup [_,.int _]);rw[show(b.2:Int)-((max w[k].1 (b.2-most)+i:Nat):Int)=((b.2-(max w[k].1 (b.2-most)+i):Nat):Int) by lia]
 .rintro δ _ ⟨rfl,B,t,u,rfl⟩
  rw[yh];have h:=gj (nv:=2) (b4:=[]) (it:=cR<|ac 5) (tg:=O_<|fj (gt 0)<|fj (gt 1) kC) (tt:=fB<|f2 (dE) (ac 1)<|fC<|.int 0) (f:=ac 0) (δ:=fy<|y9 w r c (.lst<|(pw w r c r.length).map eN) B t u) (β:=β) (pw w r c r.length) eN (λb=>tN b.1) (λb=>decide ((b.2:Int)=0)) Z (λb _=>⟨[U<|tN b.1,U<|.int (b.2:Int)],Z,dr<|b0 Z Z eq_int,λ_=>Z⟩)<|o _<|UV _;refine ao<|aC h ⟨Z,?_⟩;rw[<-Oo v,UR];rfl
theorem zw{E}{G}{K}(u:E->D)(o:E->ϋ):∀(w:List E),(∀x∈w,∃a,G (u x) K=U a/\b a β=U (.ok<|o x,β))->oa G (λ_=>M.ret O) b (w.map u) K β=U (.ok<|w.flatMap o,β)
 |[],_=>rfl
 |x::w,h=>by
  obtain⟨a,c,d⟩:=h x UP;rw[UZ,oa];simp only[c,M.bind,M.ret,reduceIte,d,zw u o w λy P=>h y<|UI _ P,V6]
theorem oz{E:Type}{K}{S}{V}{G}(w:List E)(u:E->D)(o:E->ϋ)(e:S G β=U (.ok<|w.map u,β))
  (f:∀x∈w,∃a,V (u x) (k_ K P G)=U a/\b a β=U (.ok<|o x,β)) (g:c (w.flatMap o)=U d):jG K P S V (λ_=>M.ret O) b c G β=U (.ok d,β):=by
 unfold jG;rw[e];simp only[zw u o w f,g,Wx]
theorem Ts{E:Type}{K}{G}(w:List E)(u:E->D)(o:E->ϋ)(c:K G β=U (.ok<|w.map u,β))(d:∀x∈w,∃a,P (u x) G=U a/\b a β=U (.ok<|o x,β)):M_ K P (λ_=>M.ret O) b G β=U (.ok<|w.flatMap o,β):=by
 unfold M_ M.bind;rw[c];exact zw u o w d
noncomputable abbrev jo(B:ϰ):LP:=B.map λa=>a.map λp=>((p.1:Int),(p.2:Int))
abbrev j1(B:ϰ):D:=eG<|jo B
noncomputable def p8(B:ϰ)(k:Nat):Ϟ:=B.map λa=>a.getD k (0,0)
def D_(r c:Nat)(B:ϰ):Prop:=j2 r c B/\∀a∈B,∀p∈a,p.1<=p.2/\p.2<=40
def wB(B:ϰ)(cs:ϊ):Wy:=λk r=>vB (p8 B k) r<|cs.getD k 0
theorem SJ(B)(a):WOk a (wB B a):=λk r=>ZQ
theorem D_.col(h:D_ r c B)(e:k<c):ϱ (p8 B k)=r/\∀p∈p8 B k,p.1<=40/\p.2<=40:=by
 refine⟨by unfold p8;rw[UD,h.1.1],λp d=>?_⟩;obtain⟨a,b,rfl⟩:=UL.mp d;have l:=h.1.2 a b;rw[fI ln];have:=h.2 a b _<|VU (show k<ϱ a by lia);lia
theorem Pz{r E:ϊ}{B}{k}(c:T_ r)(hB:D_ (ϱ r) (ϱ E) B)(i:E.sum<=40)(e:k<ϱ E):(cN K a).1 [tN r,nL E,j1 B,.int (k:Int)] β=U (.ok<|.lst<|(wB B E k r).map tN,β):=by
 have g:E[k]?=U (E.getD k 0):=by rw[UO,UJ e];rfl
 obtain⟨l,q⟩:=hB.col e;unfold cN
 refine aE<|ao<|aC (aq (aa Z<|aa (b0 Z Z<|cQ<|by rw[UN,UN,g];rfl)<|aa ?_ Z)<|Si c l q<|U1 (cP<|U2 g) i) ⟨Z,Z⟩;have h:=bx (nv:=1) (b4:=[3]) (it:=cR<|ac 2) (tg:=gt 0) (f:=f2 f0 (ac 0)<|ac 1) (δ:=[U<|tN r,U<|nL E,U<|j1 B,U<|.int _]) (β:=β) B _ (λw=>pN<|w.getD k (0,0)) (bN Z (by
  show U _=U _;simp_all)) (λw b=>⟨[U<|D.lst<|w.map pN,U<|.int (k:Int)],Z,b0 Z Z<|cQ (by
   have l:=hB.1.2 w b;simp_all)⟩)<|bh (by rw[hB.1.1];have:=c.2.1;lia)
 apply h.trans;unfold p8;rw[UR];rfl
theorem yG:∀{r v:ϊ},ll v r->(r.zip v).map (λp=>D.int<|(p.1:Int)-(p.2:Int))=(nI<|less r v).map D.int
 |[],[],_=>rfl
 |x::r,y::v,h=>by
  have b:=h.1;show _::_=D.int _::(nI<|less r v).map _;rw[<-(yG h.2)];show D.int _::_=_;rw[show(x:Int)-(y:Int)=((x-y:Nat):Int) by grind];rfl
 |[],_::_,h=>h.elim
 |_::_,[],h=>h.elim
theorem w4{r v}(h:ll v r)(b:ϱ r<=4):(dL K a).1 [tN r,tN v] β=U (.ok<|tN<|less r v,β):=by
 unfold dL
 dsimp only
 refine aE<|ao<|aC (ah (aa (x:= .lst<|(nI<|less r v).map _) ?_ Z) Z) ⟨Z,Z⟩;rw[<-yG h];refine bx _ (λp=>D.tup [.int _,.int _]) _ ?_ (λp _=>⟨[U<|.int _,U<|.int _],Z,Z⟩) (bh<|by rw[XS];lia);rw[<-iP (λx:Nat=>D.int _) (λx:Nat=>D.int _)];apply oQ Z Z
 .show U _=U _
  rw[UR];rfl
 .show U _=U _
  rw[UR];rfl
structure Nt0 (rs cs:ϊ):Prop where
 nr:T_ rs
 wd:pr (rs.dropLast.map (·+1))<63
 sm:rs.sum=cs.sum
 c1:1<=cs.length
 c6:cs.length<=6
structure la (K:Vb) (a:Ad) (rs cs:ϊ) (W:Wy) (bd:D):Prop extends Nt0 rs cs where
 ok:WOk cs W
 fl:∀{β:Bg} {k:Nat} {r:ϊ},k<cs.length->T_ r->r.length=rs.length->(cN K a).1 [tN r,nL cs,bd,.int (k:Int)] β=U (.ok<|.lst<|(W k r).map tN,β)
theorem la.at(h:la K a rs cs W b)(c:k<=ϱ cs)(d:r∈en W rs k):T_ r/\ϱ r=ϱ rs/\r.sum<=40:=by
 have q:=(gL h.ok h.sm k c r d).1;obtain⟨e,f,g,i⟩:=h.nr;have w:=q.len;have E:=q.sum;have G:=q.pr;exact⟨⟨ln,ln,ln,ln⟩,w,ln⟩
abbrev li(W:Wy)(a:ϊ)(k:Nat):D:= .lst<|(en W a k).map tN
theorem L8{b}(h:la K a w cs W b):(g9 K a).1 [nL w,nL cs,b] β=U (.ok<|.lst<|(UT<|ϱ cs+1).map<|li W w,β):=by
 have G:=h.c6;unfold g9
 dsimp only
 apply aE;refine aF (ah (aa (ah Z Z) Z) rW)<|lE Z (show 1<=Ve by decide) ?_;refine bw (bO (aa (ah Z<|dn<|by rw[UD,UD]) Z)<|F3 ln ln) (λk E c=>β=c/\∃e f,E=[U<|.sh<|nL w,U<|.sh<|nL cs,U<|.sh<|b,U<|.sh<|li W w k,U<|.own<|(UT<|k+1).map<|li W w,e,f]) ⟨Z,Y,Y,Z⟩ ?_ ?_
 .rintro k d E _ hd ⟨rfl,e,f,rfl⟩
  obtain⟨g,rfl⟩:=wZ hd;refine⟨_,Z,aF ?_<|lF Z Z (Vo (show _<1000 by rw[UD,Vi];lia) rb)<|ao<|aF (d:=li W w<|k+1) Z<|b_ ⟨Z,U<|.sh<|.int (k:Int),U<|.sh<|li W w<|k+1,?_⟩⟩
  .refine oz _ tN (λr=>(W k r).map λv=>tN<|less r v) Z (λr j=>⟨[U<|tN r,Y,U<|nL cs,U<|b,U<|.int _],Z,?_⟩) ?_
   .obtain⟨i,l,_⟩:=h.at ln j
    exact JA _ tN _ (bN (aq Z<|h.fl g i l) Z) (λv m=>⟨[U<|tN r,U<|tN v,U<|nL cs,U<|b,U<|.int _],Z,aq Z<|w4 (cq<|(h.ok k r).subset m) i.2.1⟩)
   .rw[<-AU h.ok h.sm h.nr.1 h.wd g]
    unfold nwI;rw[WA];simp only[UR];rfl
  .rw[Xp (n:=k+1),Vj];rfl
 .rintro E _ ⟨rfl,e,f,rfl⟩
  rw[yh];exact ao<|aC Z ⟨Z,Z⟩
theorem nq{a}(b:(vw a).getD i Y=U c)(e:f (vw a) β=U (.ok d,β1))(g:w c d=U z)(k:Gw h (a.set i<|U<|.sh z) β1 Q):Gw (aP (FF i w f) h) a β Q:=dh (by unfold FF;simp only[b,e,g,Wx]) k
theorem IE(h:(bv 2 m)[i]?=U d):i<m/\d= .int ((i+2:Nat):Int):=by
 obtain⟨x,a,rfl⟩:=bR h;have b:=(UY.mp a).1;rw[Vi]at b;rw[VN b]at a;exact⟨b,ln⟩
theorem tH(a)(m):ϱ (bv a m)=m:=by unfold bv;rw[UD,Vi]
theorem ot(h:n<=2^11):n<2^1000:=cg h rb
theorem BS(n):dq (n-1+1)=dq n:=by cases n<;>rfl
theorem BQ{n:Nat}(h:n<=40):(je K a).1 [.int (n:Int)] β=U (.ok<|.int ((dq n:Nat):Int),β):=by
 unfold je
 dsimp only
 apply aE;refine aF Z<|bw (bO (aa Z<|aa (b0 Z Z Z) Z)<|rg2 ln) (λi w b=>β=b/\∃c,w=[U<|.sh<|.int _,U<|.sh<|.int ((dq (i+1):Nat):Int),c]) ⟨Z,Y,Z⟩ ?_ ?_
 .rintro i d w _ hd ⟨rfl,c,rfl⟩
  obtain⟨e,rfl⟩:=IE hd;exact⟨_,Z,ao<|nq Z Z (eE (cg (m7 ln) rb)<|ot ln)<|b_ ⟨Z,_,Z⟩⟩
 .rintro w _ ⟨rfl,c,rfl⟩
  rw[tH,BS];exact ao<|aC Z ⟨Z,Z⟩
theorem yF{n:Nat}(h:n<=40):(gY K a).1 [.int (n:Int)] β=U (.ok<|.int ((dq n:Nat):Int),β):=by
 unfold gY
 dsimp only
 apply aE;refine aF Z<|bw (bO (aa Z<|aa (b0 Z Z Z) Z)<|rg2 ln) (λi w b=>β=b/\∃c,w=[U<|.sh<|.int _,U<|.sh<|.int ((dq (i+1):Nat):Int),c]) ⟨Z,Y,Z⟩ ?_ ?_
 .rintro i d w _ hd ⟨rfl,c,rfl⟩
  obtain⟨e,rfl⟩:=IE hd;exact⟨_,Z,ao<|aF (b0 Z Z<|eE (cg (m7 ln) rb)<|ot ln)<|b_ ⟨Z,_,Z⟩⟩
 .rintro w _ ⟨rfl,c,rfl⟩
  rw[tH,BS];exact ao<|aC Z ⟨Z,Z⟩
def w_(l:ϊ):Nat:=dq l.sum/pr (l.map dq)
theorem SD(h:Sq l d):sR [d]=U (.int ((l.sum:Nat):Int)):=by
 rw[<-jA];obtain rfl|rfl:=h
 .exact gn _
 .exact gn _
theorem iw(l):gT [nL l]=U (.int ((l.sum:Nat):Int)):=by rw[<-jA];exact gn _
theorem jp{l:ϊ}{i n:Nat}(h:l.sum<=40)(a:l[i]?=U n):n<=40:=U1 (cP<|U2 a) h
theorem zM{E}(M:Sq l E)(h:l.sum<=40):(tJ K a).1 [E] β=U (.ok<|.int ((w_ l:Nat):Int),β):=by
 unfold tJ
 apply aE;refine bw (bN Z M.seq) (λi w c=>β=c/\∃b,w=[U<|.sh E,b,Y]) ⟨Z,Y,Z⟩ ?_ ?_
 .rintro i d w _ hd ⟨rfl,b,rfl⟩
  obtain⟨n,G,rfl⟩:=ji hd;exact⟨_,Z,ao<|bn (dr<|b0 Z Z (by show U _=_;simp_all))<|aQ<|b_ ⟨Z,_,Z⟩⟩
 rintro w _ ⟨rfl,b,rfl⟩;refine aF (aq (aa (ah Z<|SD M) Z)<|BQ h)<|bw (bN Z M.seq) (λi w c=>β=c/\∃b,w=[U<|.sh E,b,U<|.sh<|.int ((dq _/pr ((l.take i).map dq):Nat):Int)]) ⟨Z,b,by rw[List.take_zero,W5,QP,Nat.div_one];rfl⟩ ?_ ?_
 .rintro i d w _ hd ⟨rfl,b,rfl⟩
  obtain⟨n,G,rfl⟩:=ji hd;refine⟨_,Z,ao<|nq Z (aq Z<|BQ<|jp h G) (ut (qP n)<|cg (m7<|jp h G) rb)<|b_ ⟨Z,U<|.sh<|.int (n:Int),?_⟩⟩;rw[iY G,Nat.div_div_eq_div_mul];rfl
 .rintro w _ ⟨rfl,b,rfl⟩
  rw[jB,VB];exact ao<|aC Z ⟨Z,Z⟩
theorem BR{l:ϊ}{i}(h:l.sum<=40)(b:ϱ l<=4):pr ((l.take i).map dq)<=2^640:=by
 refine U1 (Nx (m:=160) λx a=>?_)<|Xl rb ?_
 .obtain⟨n,hn,rfl⟩:=UL.mp a
  exact m7<|U1 (cP<|W0 hn) h
 .rw[UD,VI];lia
theorem yC{l:ϊ}(h:l.sum<=40)(e:ϱ l<=4):(nF K a).1 [nL l] β=U (.ok<|.int ((w_ l:Nat):Int),β):=by
 unfold nF
 apply aE;refine aF Z<|bw Z (λi w b=>β=b/\∃c,w=[U<|.sh<|nL l,U<|.sh<|.int ((pr ((l.take i).map dq):Nat):Int),c]) ⟨Z,Y,Z⟩ ?_ ?_
 .rintro i d w _ hd ⟨rfl,c,rfl⟩
  obtain⟨n,E,rfl⟩:=ji hd;refine⟨_,Z,ao<|aF (b0 Z (aq Z<|yF<|jp h E)<|eE (cg (BR h e) rb)<|cg (m7<|jp h E) rb)<|b_ ⟨Z,U<|.sh<|.int (n:Int),?_⟩⟩;rw[iY E];rfl
 .rintro w _ ⟨rfl,c,rfl⟩
  rw[jB,VB];have f:=BR (i:=ϱ l) h e;rw[VB]at f;exact ao<|aC (b0 (aq (aa (ah Z<|iw l) Z)<|yF h) Z<|ut (ym λx G=>by obtain⟨n,_,rfl⟩:=UL.mp G;exact qP n)<|cg f rb) ⟨Z,Z⟩
theorem my(h:l.sum<=40):w_ l<=2^160:=U1 (ZR _ _)<|m7 h
theorem Ob{a:Ϙ}{i}(h:∀l∈a,l.sum<=40)(b:ϱ a<=6):pr ((a.take i).map w_)<=2^960:=by
 refine U1 (Nx (m:=160) λx w=>?_)<|Xl rb ?_
 .obtain⟨n,hn,rfl⟩:=UL.mp w
  exact my<|h n<|W0 hn
 .rw[UD,VI];lia
theorem w5(h:n<=40)(b:i<=40):n^i<2^1000:=cg (m:=240) (U1 (Nat.pow_le_pow_left (show n<=2^6 by lia) i)<|by rw[<-Nat.pow_mul];exact Xl rb ln) rb
theorem LR{n:Nat}(h:n<=40):(uX K a).1 [.int (n:Int),.int (n:Int)] β=U (.ok<|.int ((n^n:Nat):Int),β):=by
 unfold uX
 dsimp only
 apply aE;refine aF Z<|bw (bO Z<|F3 ln ln) (λi w b=>β=b/\i<=n/\∃c,w=[U<|.sh<|.int _,U<|.sh<|.int _,U<|.sh<|.int ((n^i:Nat):Int),c]) ⟨Z,ln,Y,Z⟩ ?_ ?_
 .rintro i d w _ hd ⟨rfl,_,c,rfl⟩
  obtain⟨e,rfl⟩:=wZ hd;exact⟨_,Z,ao<|nq Z Z (eE (w5 h ln)<|ot ln)<|b_ ⟨Z,ln,_,Z⟩⟩
 .rintro w _ ⟨rfl,_,c,rfl⟩
  rw[tH];exact ao<|aC Z ⟨Z,Z⟩
theorem LC{n:Nat}(h:n<=40):(iU K a).1 [.int (n:Int)] β=U (.ok<|.int ((n^n:Nat):Int),β):=by
 unfold iU
 dsimp only
 refine aE ?_;refine aF (d:= .int 1) (β1:=β) Z ?_;refine bw (ds:=bv 0 n) (β1:=β) (bO Z<|F3 ln ln) (λi w b=>β=b/\i<=n/\∃c,w=[U<|.sh<|.int (n:Int),U<|.sh<|.int ((n^i:Nat):Int),c]) ⟨Z,ln,Y,Z⟩ ?_ ?_
 .rintro i d w _ hd ⟨rfl,_,c,rfl⟩
  obtain⟨e,rfl⟩:=wZ hd;exact⟨_,Z,ao<|aF (b0 Z Z<|eE (w5 h ln)<|ot ln)<|b_ ⟨Z,ln,_,Z⟩⟩
 .rintro w _ ⟨rfl,_,c,rfl⟩
  rw[tH];exact ao<|aC Z ⟨Z,Z⟩
def pwN(l:ϊ):Nat:=pr<|l.map λn=>n^n
theorem tR{l:ϊ}{i}(h:l.sum<=40):pr ((l.take i).map λn=>n^n)<=2^(6*(l.take i).sum):=Ny λx a=>U1 (cP<|W0 a) h
theorem Nj{l:ϊ}(i):(l.take i).sum<=l.sum:=by
 have:=SX (f:=λn:Nat=>n) (l:=l) i;simp_all
theorem LQ{E}(M:Sq l E)(h:l.sum<=40):(kM K a).1 [E] β=U (.ok<|.int ((pwN l:Nat):Int),β):=by
 unfold kM
 apply aE;refine aF Z<|bw (bN Z M.seq) (λi G b=>β=b/\∃c,G=[U<|.sh E,U<|.sh<|.int ((pr ((l.take i).map λn=>n^n):Nat):Int),c]) ⟨Z,Y,Z⟩ ?_ ?_
 .rintro i d G _ hd ⟨rfl,c,rfl⟩
  obtain⟨n,w,rfl⟩:=ji hd;refine⟨_,Z,ao<|nq Z (aq Z<|LR<|jp h w) (eE (cg (tR h) (by have:=Nj (l:=l) i;lia))<|w5 (jp h w)<|jp h w)<|b_ ⟨Z,U<|.sh<|.int (n:Int),?_⟩⟩;rw[iY w];rfl
 .rintro G _ ⟨rfl,c,rfl⟩
  rw[jB,VB];exact ao<|aC Z ⟨Z,Z⟩
theorem xB(l):w_ l=mu l:=Ri l
theorem NI(h:l.sum<=40):mu l<=2^160:=by rw[<-xB];exact my h
theorem wT{a}{l:List a}{x}(f:a->Nat)(h:l[i]?=U x):L2.Nt.sm (l.take<|i+1) f=L2.Nt.sm (l.take i) f+f x:=by
 rw[List.take_add_one,h,xQ];rfl
abbrev cv(W:Wy)(m k:Nat)(r:ϊ):D:= .tup [.int ((l0 W (m-k) k r:Nat):Int),.int ((u_ W (m-k) k r:Nat):Int)]
abbrev si(W:Wy)(a:ϊ)(m k:Nat):D:= .dct UK ((en W a k).map λr=>((0:Int),nI r))<|(en W a k).map<|cv W m k
theorem JQ{u}:∀{L:Ϙ},u∈L->lg (L.map λr=>((0:Int),nI r)) (L.map f) (0,nI u)=U (f u)
 |r::L,h=>by
  unfold lg;rw[UZ,UZ,Wv,W8];by_cases q:r=u
  .rw[q,U3 Z];rfl
  .rw[Vv λe=>q<|jC (Xy.mp e).2]
   exact JQ<|(U4.mp h).resolve_left λe=>q e.symm
theorem Sw{a u}{m k}(h:u∈en W a k):su (si W a m k) (tN u)=U (cv W m k u):=by
 show(eF UK<|dK UK (0,nI u)).bind _=_;rw[dy λ_=>Z];exact JQ h
theorem EE{W}{q}{k}(h:la K a w cs W q)(o:k<ϱ cs)(p:r∈en W w k):(jQ K a).1 [tN r,.lst<|(W k r).map tN,si W w (ϱ cs)<|k+1] β=U (.ok<|cv W (ϱ cs) k r,β):=by
 obtain⟨t,y,u⟩:=h.at ln p;unfold jQ
 apply aE;refine aF Z<|aF Z<|bw Z (λi E e=>β=e/\∃f g j,E=[U<|.sh<|tN r,U<|.sh<|.lst<|(W k r).map tN,U<|.sh<|si W w _<|k+1,U<|.sh<|.int ((L2.Nt.sm ((W k r).take i) λv=>l0 W (ϱ cs-(k+1)) (k+1) (less r v):Nat):Int),U<|.sh<|.int ((L2.Nt.sm ((W k r).take i) λv=>mu v*u_ W (ϱ cs-(k+1)) (k+1) (less r v):Nat):Int),f,g,j]) ⟨Z,Y,Y,Y,Z⟩ ?_ ?_
 .rintro i d E _ hd ⟨rfl,f,g,j,rfl⟩
  obtain⟨v,l,rfl⟩:=bR hd;have G:=U2 l;have m:=hZ.mpr ⟨r,p,v,G,Z⟩;have b:=(h.ok k r).subset G;have c:=U1 (cq b).sum u;have n:=(h.at o m).2.2;refine⟨_,Z,CP (b0 Z (aq Z<|w4 (cq b) t.2.1)<|(by
   show(eF UK<|dK UK (0,nI _)).bind _=_;rw[dy λ_=>Z];exact JQ m)) Z<|nq Z Z Z<|ao<|nq Z (b0 (aq Z<|zM (.inr Z) c) Z<|eE (cg (my c) rb)<|cg (U1 (zg h.ok _ _ _<|by grind)<|by rw[zf _ _ ((gL h.ok h.sm _ o _ m).2)];exact NI n) rb) Z<|b_ ⟨Z,U<|.sh<|tN v,U<|.sh<|.int ((l0 W (ϱ cs-(k+1)) (k+1) (less r v):Nat):Int),U<|.sh<|.int ((u_ W (ϱ cs-(k+1)) (k+1) (less r v):Nat):Int),?_⟩⟩;rw[wT _ l,wT _ l,xB,Y5,Y5];rfl
 .rintro E _ ⟨rfl,f,g,j,rfl⟩
  rw[UD,VB];refine ao<|aC (ah Z cj) ⟨Z,?_⟩;show VP (D.tup [.int _,.int _])=_;rw[show ϱ cs-k=ϱ cs-(k+1)+1 by grind];rfl
theorem CM{a}(b:f a β=U (.ok k,β))(c:g a β=U (.ok v,β)):MT f g a β=U (.ok [.tup [k,v]],β):=by
 unfold MT M.bind;rw[b];simp only[c,M.ret]
theorem y6{a b}(f:a->b)(l:List a):(l.flatMap λx=>[f x])=l.map f:=by
 induction l with
 |nil=>rfl
 |cons x l w=>rw[V6,w];rfl
theorem jD(h:la K a rs cs W b)(c:k<=ϱ cs):ϱ (en W rs k)<=62:=by
 have:=O4 h.ok h.sm c;have:=h.wd;lia
theorem dk0(h:la K a w cs W b)(c:k<=ϱ cs){E}(e:E=(en W w k).map λr=> .tup [tN r,cv W (ϱ cs) k r]):oy UK E=U (si W w (ϱ cs) k):=by
 refine(BX (kvs:=(en W w k).map λr=>(((0:Int),nI r),cv W (ϱ cs) k r)) ⟨?_,?_,?_,?_⟩).trans ?_
 .rw[e,UR];rfl
 .rw[UR];exact JG (λx y q=>jC (Xy.mp q).2)<|mY k
 .rw[UD];exact bh (by have:=jD h c;lia)
 .rintro p d _
  obtain⟨r,_,rfl⟩:=UL.mp d;rfl
 .rw[UR,UR];rfl
theorem S8{n:Nat}(h:n<=1000):wW [.int (n:Int)]=U (eJ n):=by
 simp only[wW];rw[US (by simp;lia),Wc]
theorem S9(h:(eJ n)[i]?=U d):i<n/\d= .int ((n-1-i:Nat):Int):=by
 obtain⟨x,a,rfl⟩:=bR h;have b:=(UY.mp a).1;rw[Vi]at b;rw[VN b]at a;exact⟨b,ln⟩
theorem ID{f:Nat->D}{n k}(h:k<n):((UT n).map f)[k]?=U (f k):=by rw[UN,VN h];rfl
theorem KQ:∀n j,dF j ((List.range' j n).map f)=(List.range' j n).map λk=> .tup [.int (k:Int),f k]:=Nat.rec (λ_=>Z) λn h j=>by
  rw[List.range'_succ,UZ,UZ,<-h _];rfl
theorem OC{f:Nat->D}(m):((UT<|m+1).map λj=>f<|m-j).reverse=(UT<|m+1).map f:=WZ rc λi b c=>by
 simp only[YU,UD,Vi]at b;simp only[List.getElem_reverse,XE,Yg,UD,Vi];congr 1;lia
abbrev FX(W:Wy)(a:ϊ)(m:Nat):ϋ:=(UT<|m+1).flatMap λk=>(en W a k).map<|cv W m k
abbrev sw(W:Wy)(rs:ϊ)(m:Nat):D:= .dct O (kyW W rs<|m+1)<|FX W rs m
theorem dk1(h:la K a rs cs W b)(e:w=(UT<|ϱ cs+1).flatMap λ(k:Nat)=>(en W rs k).map λr=> .tup [.tup [.int (k:Int),tN r],cv W (ϱ cs) k r]):oy O w=U (sw W rs (ϱ cs)):=by
 refine(BX (kvs:=(UT<|ϱ cs+1).flatMap λ(k:Nat)=>(en W rs k).map λr=>(((k:Int),nI r),cv W (ϱ cs) k r)) ⟨?_,?_,?_,?_⟩).trans ?_
 .rw[e,WA];simp only[UR];rfl
 .have:=Kq (W:=W) (rs:=rs)<|ϱ cs+1
  unfold kyW at this;rw[WA];simp only[UR];exact this
 .refine bh (U1 (fR (n:=62) λk c=>?_) (by have:=h.c6;rw[Vi];lia))
  have:=Vg.mp c;rw[UD];exact jD h ln
 .rintro p _ q
  cases q
 .unfold sw
  rw[WA,WA];simp only[UR];rfl
theorem FP{b}(h:la K a w cs W b):(fX K a).1 [nL w,nL cs,b] β=U (.ok<|sw W w (ϱ cs),β):=by
 have G:=h.c6;unfold fX
 dsimp only
 apply aE;refine aF (aq Z<|L8 h)<|aF (ah Z<|dn<|by rw[UD,UD]) ?_;refine aF (oz _ tN _ (bN (b0 Z Z<|cQ<|ID ln) Z) (λr _=>⟨[U<|tN r],Z,CM Z<|ah Z cj⟩)<|dk0 h (UV _)<|by rw[y6];simp only[cv,Yk];rfl)<|lE Z (show 1<=Ve by decide) ?_;refine bw (bO Z<|(by
  rw[wW];rw[US (by rw[Vu];lia),Wc])) (λi E c=>β=c/\∃e f,E=[U<|.sh<|nL w,U<|.sh<|nL cs,U<|.sh<|b,U<|.sh<|.lst<|(UT<|ϱ cs+1).map<|li W w,U<|.sh<|.int _,U<|.sh<|si W w _<|ϱ cs-i,U<|.own<|(UT<|i+1).map λj=>si W w _<|ϱ cs-j,e,f]) ⟨Z,Y,Y,Z⟩ ?_ ?_
 .rintro i d E _ hd ⟨rfl,e,f,rfl⟩
  obtain⟨p,rfl⟩:=S9 hd;have l:ϱ cs-1-i<ϱ cs:=by omega
  have o:ϱ cs-i=(ϱ cs-1-i)+1:=by grind
  have m:ϱ cs-(i+1)=ϱ cs-1-i:=by lia
  rw[o];refine⟨_,Z,aF Z<|aF (oz _ tN _ (bN (b0 Z Z<|cQ<|ID ln) Z) (λr g=>⟨[U<|tN r,U<|nL cs,U<|b,U<|.int _,U<|si W w _<|ϱ cs-1-i+1],Z,CM Z<|aq (aa Z<|aa (aq Z<|h.fl l (h.at ln g).1 (h.at ln g).2.1) Z)<|EE h l g⟩)<|dk0 h ln<|y6 _ _)<|ao<|lF Z Z (Vo (show _<1000 by rw[UD,Vi];lia) rb)<|b_ ⟨Z,U<|.sh<|.int ((ϱ cs-1-i:Nat):Int),U<|.sh<|si W w (ϱ cs)<|ϱ cs-1-i+1,?_⟩⟩;rw[Xp (n:=i+1),Vj,m];simp_all
 .rintro E _ ⟨rfl,e,f,rfl⟩
  rw[show(eJ _).length=ϱ cs by unfold eJ;rw[UD,Vi]];refine ao<|aC (oz (UT<|ϱ cs+1) (λk=> .tup [.int (k:Int),si W w _ k]) _ (bO (aa (b0 Z Z Z) Z) ?_) (λk _=>⟨[U<|.int (k:Int),U<|si W w (ϱ cs) k,Y,Y],Z,?_⟩)<|dk1 h Z) ⟨Z,Z⟩
  .show U (dF 0 _)=_
   rw[OC,List.range_eq_range',KQ]
  .refine(Ts _ (λr=> .tup [tN r,cv W (ϱ cs) k r]) _ ?_ (λr _=>⟨[U<|.int (k:Int),U<|si W w (ϱ cs) k,U<|tN r,U<|cv W (ϱ cs) k r],Z,CM (ah Z cj) Z⟩)).trans (by rw[y6])
   show U _=_;rw[List.zipWith_map_left,List.zipWith_map_right,List.zipWith_self];rfl
theorem tp_e{w:LI}(E:j2 r c w)(P:1<=r)(S:r<=30)(V:c<=30){δ:Dn}(h:δ.getD 0 Y=U (ck w)):c9 1 [0] (dm g0<|af (aX fF<|af (f2 f0 (ac 0)<|fC<|.int 0)<|az)<|az) (gt 0) (λ_=>M.ret O) (j0<|c9 1 [0] (cR<|ac 1) (gt 0) (λ_=>M.ret O)<|j0<|f2 f0 (ac 0)<|ac 1) δ β=U (.ok<|ck<|tp c w,β):=by
 obtain⟨b,d,g⟩:=E.at (i:=0) ln;have k:(gI w)[0]?=U (b.map D.int):=by rw[UN,d];rfl
 have e:=bx (nv:=1) (b4:=[0]) (it:=dm g0<|af _<|az) (tg:=gt 0) (f:=c9 1 [0] (cR<|ac 1) (gt 0) (λ_=>M.ret O)<|j0<|f2 f0 (ac 0)<|ac 1) (UT c) _ (λj=>D.lst<|w.map λa=>D.int<|a.getD j 0) (bO (aa (ah (aa (b0 (ql h) Z<|ug k) Z) (dn<|by rw[UD,g]):aX fF (af (f2 f0 (ac 0)<|fC<|.int 0)<|az) δ β=U _) Z)<|F3 ln ln) ?_ (bh<|by rw[Vi];lia)
 .rw[e]
  unfold tp;show _=U (VP<|D.lst<|Ww _<|Ww _<|Ww _ _,β);simp_all
 .intro j o
  have p:=Vg.mp o;have m:k_ 1 [0] δ=[Y,U<|ck w]:=by
   unfold k_;rw[UZ,h];rfl
  refine⟨[U<|.int<|0+(j:Int),U<|ck w],by rw[m];rfl,?_⟩;have K:(gI w).map D.lst=w.map λa=>D.lst (a.map D.int):=by rw[UR];rfl
  refine bx w _ _ (by show U _=_;rw[K]) (λa q=>⟨_,Z,b0 Z Z ?_⟩) (bh<|by rw[E.1];lia);have t:=E.2 a q;obtain⟨x,G⟩:=N3 (l:=a) (i:=j) ln;rw[Zk];apply cQ;rw[UN,G,UO,G];rfl
theorem EL{w:LI}(D:j2 r c w)(E:1<=r)(G:r<=30)(M:c<=30):(tL K a).1 [ck w] β=U (.ok<|ck<|tp c w,β):=
 aE (ao<|aC (tp_e D E G M Z) ⟨Z,Z⟩)
noncomputable abbrev iL(a:ώ):D:= .lst<|a.map D.int
theorem HB(h:ϱ w<=1000)(e:f δ β=U (.ok<|ck w,β)):c9 1 [] (cR f) (gt 0) (λ_=>M.ret O) (j0<|aX gT<|af (ac 0)<|az) δ β=U (.ok<|iL<|w.map WC,β):=by
 have E:(gI w).map D.lst=w.map λa=>D.lst (a.map D.int):=by rw[UR];rfl
 have:=bx (nv:=1) (b4:=[]) (it:=cR f) (tg:=gt 0) (f:=aX gT<|af (ac 0)<|az) w _ _ (by rw[<-E];exact bN e Z) (λa _=>⟨_,Z,ah Z<|gn a⟩)<|bh h;simp_all
theorem tF{ai:LI}(h:ϱ ai<=1000):(gH K a).1 [ck ai] β=U (.ok<|iL<|ai.map WC,β):=
 aE (ao<|aC (HB h Z) ⟨Z,Z⟩)
theorem oN{ai:LI}(w:j2 r c ai)(D:1<=r)(E:r<=30)(G:c<=30):(eS K a).1 [ck ai] β=U (.ok<|iL<|(tp c ai).map WC,β):=
 aE (ao<|aC (HB (by rw[(uM w.1).1];lia)<|aq Z<|EL w D E G) ⟨Z,Z⟩)
noncomputable def gp(G:LI)(i j:Nat):Int:=(G.getD i []).getD j 0
theorem Us{G}{a}(b:G[i]?=U a)(c:a[j]?=U x):gp G i j=x:=by
 unfold gp;simp_all
theorem KF{G}{i j}{a}(b:G[i]?=U a):a.getD j 0=gp G i j:=by
 unfold gp;simp_all
theorem Lc:∀(a:ώ),S (ϱ a) (λj=>a.getD j 0)=a.sum:=λa=>by
 unfold S;congr 1;refine WZ rc λi c b=>?_;rw[XE,Yg,UO,UJ b];rfl
theorem SF(d:j2 r c A)(e:i<r):S c (gp A i)=(A.map WC).getD i 0:=by
 obtain⟨f,b,g⟩:=d.at e;rw[UO,UN,b];show _=f.sum;rw[<-Lc,g];exact eZ λj _=>(KF b).symm
theorem SG(b:j2 r c A)(f:j<c):S r (λp=>gp A p j)=((tp c A).map WC).getD j 0:=by
 have e:(tp c A)[j]?=U (A.map λa=>a.getD j 0):=by
  show((UT c).map λj=>A.map λa=>a.getD j 0)[j]?=_;rw[UN,VN f];rfl
 rw[UO,UN,e];show _=(A.map λa=>a.getD j 0).sum;rw[<-Lc,UD,b.1];refine eZ λp g=>?_;obtain⟨h,d,i⟩:=b.at g;rw[UO,UN,d];exact(KF d).symm
theorem JD{w:ώ}{b:ϊ}(c:∀i∈b,i<ϱ w)(d:ϱ b<=1000):(pq K a).1 [iL w,nL b] β=U (.ok<|.int<|tY w b,β):=by
 unfold pq
 refine aE<|ao<|aC (ah (aa ?_ Z)<|gn _) ⟨Z,Z⟩;have:=bx (nv:=1) (b4:=[0]) (it:=cR<|ac 1) (tg:=gt 0) (f:=f2 f0 (ac 1)<|ac 0) (δ:=[U<|iL w,U<|nL b]) b _ _ (by show U (VP<|(nI b).map _,β)=_;rw[UR];rfl) (λi e=>⟨_,Z,b0 Z Z<|NT<|c i e⟩)<|bh d;apply this.trans;rw[UR];rfl
theorem wf{r c j:Nat}{w:ώ}{b:LP}{g:ϊ}(E:j2 r c b)(n:w.length=c)(k:r<=1000)(l:j<c):(dX K a).1 [iL w,eG b,nL g,.int (j:Int)] β=U (.ok<|.int<|gy w b r g j,β):=by
 unfold dX
 dsimp only
 refine aE ?_;refine aF (d:=iL<|((UT r).filter λi=>!decide (i∈g)).map λi=>(bI b i j).1) (β1:=β) ?_ ?_
 .have m:((gP b).map D.lst).length=r:=by rw[UD,UD,E.1]
  have:=gj (nv:=2) (b4:=[2,3]) (it:=NH<|af (ac 1) az) (tg:=O_<|fj (gt 0)<|fj (gt 1) kC) (tt:=fB<|f2 (x4 O) (ac 0)<|ac 2) (f:=f2 f0 (f2 f0 (ac 1)<|ac 3)<|fC<|.int 0) (δ:=[U<|iL w,U<|eG b,U<|nL g,U<|.int (j:Int),Y]) (β:=β) (UT r) (λi=>D.tup [.int (i:Int),.lst<|(b.getD i []).map pD]) (λi=>D.int (bI b i j).1) (λi=>!decide (i∈g)) ?_ (λi h=>⟨_,Z,dr<|b0 Z Z yW,λ_=>b0 (b0 Z Z (yP E (Vg.mp h) l).2) Z sd⟩) (bh<|by rw[Vi];exact k)
  .refine this.trans ?_
   show _=U (VP<|D.lst<|(((UT r).filter λi=>!decide (i∈g)).map λi=>(bI b i j).1).map D.int,β);rw[UR];rfl
  .show U (VP<|dF 0<|(gP b).map D.lst,β)=_
   rw[rq,m];congr 3;refine Vr λi h=>?_;rw[WM];congr 3;obtain⟨e,_⟩:=E.getD<|Vg.mp h;rw[UO,UN,UN,e];rfl
 refine ao<|aC (b0 (x:= .int<|w.getD j 0) (b0 Z Z<|NT ln) (ah Z<|gn _) Z) ⟨Z,?_⟩;have e:(UT r).map (λi=>if i∈g then(0:Int)else(bI b i j).1)=(UT r).map (λx=>if(!decide (x∈g))=O then(bI b x j).1 else 0):=Vr λi _=>by by_cases q:i∈g<;>simp[q]
 unfold gy S;rw[BP,e]
theorem wE{b:LP}{d:ϊ}(w:j2 r c b)(e:∀i∈d,i<r)(k:ϱ d<=1000)(g:j<c):(dY K a).1 [eG b,nL d,.int (j:Int)] β=U (.ok<|.int<|ib b d j,β):=by
 unfold dY
 refine aE<|ao<|aC (ah (aa ?_ Z)<|gn _) ⟨Z,Z⟩;have:=bx (nv:=1) (b4:=[0,2]) (it:=cR<|ac 1) (tg:=gt 0) (f:=f2 f0 (f2 f0 (f2 f0 (ac 1)<|ac 0)<|ac 2)<|fC<|.int 1) (δ:=[U<|eG b,U<|nL d,U<|.int _]) d _ _ (by show U (VP<|(nI d).map _,β)=_;rw[UR];rfl) (λi h=>⟨_,Z,b0 (b0 (b0 Z Z (yP w (e i h) g).1) Z (yP w (e i h) g).2) Z pQ⟩)<|bh k;apply this.trans;rw[UR];rfl
theorem IB{r c:Nat}{w:ώ}{b:LP}{d e:ϊ}(E:j2 r c b)(k:w.length=c)(l:r<=1000)(h:c<=1000)(m:∀i∈d,i<r)(n:d.length<=1000):(pp K a).1 [iL w,eG b,nL d,nL e] β=U (.ok<|.int<|wX w b r c d e,β):=by
 unfold pp
 dsimp only
 refine aE<|ao<|aC (ah (aa (x:=iL ((UT c).map λj=>if j∈e then gy w b r d j else ib b d j)) ?_ Z)<|gn _) ⟨Z,Z⟩;have:=bx (nv:=1) (b4:=[3,0,1,2]) (it:=dm g0<|af (aX fF<|af (ac 0)<|az)<|az) (tg:=gt 0) (f:=fIf (fB<|f2 (x4 UK) (ac 0)<|ac 1) (bW (dX K a).1<|af (ac 2)<|af (ac 3)<|af (ac 4)<|af (ac 0)<|az)<|bW (dY K a).1<|af (ac 3)<|af (ac 4)<|af (ac 0)<|az) (δ:=[U<|iL w,U<|eG b,U<|nL d,U<|nL e]) (β:=β) (UT c) (λj=>D.int<|0+(j:Int)) (λj=>D.int (if j∈e then gy w b r d j else ib b d j)) (bO (ds:=bv 0 c) (aa (ah Z<|dn<|by rw[UD,k]) Z)<|F3 ln ln) (λj o=>⟨[U<|.int (j:Int),U<|nL e,U<|iL w,U<|eG b,U<|nL d],by rw[Zk];rfl,?_⟩) (bh<|by rw[Vi];exact h)
 .refine this.trans ?_
  show _=U (VP<|D.lst<|((UT c).map λj=>if j∈e then gy w b r d j else ib b d j).map D.int,β);rw[UR];rfl
 .have g:=Vg.mp o
  by_cases q:j∈e
  .rw[US q]
   exact wN (dr<|b0 Z Z<|by rw[yW];simp[q])<|aq Z<|wf E k l g
  .rw[UU q]
   exact wO (dr<|b0 Z Z<|by rw[yW];simp[q])<|aq Z<|wE E m n g
theorem JH{r c:Nat}{w:ώ}{b:LP}{d:ϊ}(E:j2 r c b)(g:w.length=c)(l:r<=1000)(e:c<=1000)(m:∀i∈d,i<r)(n:d.length<=1000):(mq K a).1 [iL w,eG b,nL d] β=U (.ok<|nL<|yw w b r c d,β):=by
 unfold mq
 dsimp only
 refine aE ?_;have h:=gj (nv:=1) (b4:=[0,1,2]) (it:=dm g0<|af (aX fF<|af (ac 0)<|az)<|az) (tg:=gt 0) (tt:=fB<|f2 (ltD) (bW (dX K a).1<|af (ac 1)<|af (ac 2)<|af (ac 3)<|af (ac 0)<|az)<|bW (dY K a).1<|af (ac 2)<|af (ac 3)<|af (ac 0)<|az) (f:=ac 0) (δ:=[U<|iL w,U<|eG b,U<|nL d]) (β:=β) (UT c) (λj=>D.int<|0+(j:Int)) (λj=>D.int (j:Int)) (λj=>decide (gy w b r d j<ib b d j))
  (bO (ds:=bv 0 c) (aa (ah Z<|dn<|by rw[UD,g]) Z)<|F3 ln ln)
  (λj k=>⟨[U<|.int (j:Int),U<|iL w,U<|eG b,U<|nL d],by rw[Zk];rfl,dr<|b0 (aq Z<|wf E g l<|Vg.mp k) (aq Z<|wE E m n<|Vg.mp k) Z,λ_=>Z⟩) (bh<|by rw[Vi];exact e)
 refine ao<|aC h ⟨Z,?_⟩;show VP (D.lst<|(nI<|yw w b r c d).map D.int)=_;rw[UR];rfl
theorem Qx(h:(bv 0 n)[i]?=U d):i<n/\d= .int (i:Int):=by
 obtain⟨x,a,rfl⟩:=bR h;have b:=(UY.mp a).1;simp_all
theorem FS{n:Nat}(w:n<=6):(pC K a).1 [.int (n:Int)] β=U (.ok<|.lst<|(y1 n).map nL,β):=by
 unfold pC
 dsimp only
 apply aE;refine aF (ah (aa (ah Z Rp) Z) rW)<|bw (ds:=bv 0 n) (bO Z<|F3 ln ln) (λi δ b=>β=b/\∃c,δ=[U<|.sh<|.int _,U<|.sh<|.lst<|(y1 i).map nL,c]) ⟨Z,Y,Z⟩ ?_ ?_
 .rintro i d δ _ hd ⟨rfl,c,rfl⟩
  obtain⟨g,rfl⟩:=Qx hd;have j:ϱ (y1 i)<=64:=by rw[CD];exact U1 (Xl rb (show i<=6 by lia)) rb
  refine⟨[U<|.sh<|.int _,U<|.sh<|.lst<|(y1 i).map nL,U<|.sh<|.int _],Z,ao<|aF ?_<|b_ ⟨Z,_,Z⟩⟩;have h:=bx (nv:=1) (b4:=[2]) (it:=cR<|ac 1) (tg:=gt 0) (f:=f2 dG (ac 0)<|aX gu<|af (ac 1)<|az) (δ:=vw [U<|.sh<|.int (n:Int),U<|.sh<|.lst<|(y1 i).map nL,U<|.sh<|.int _]) (β:=β) _ nL (λl=>nL<|l++[i]) Z (λl e=>⟨[U<|nL l,U<|.int (i:Int)],Z,by
   have k:ϱ l<=i:=by have:=(kx i l e).length_le;rwa[Vi]at this
   refine b0 Z (ah Z rW)<|(kz ?_).trans ?_
   .rw[UD,UD,VX];lia
   .simp only[nL,Vj,UZ,W5]⟩) (bh ln)
  refine b0 Z h<|(kz ?_).trans ?_
  .rw[UD,UD];lia
  .rw[y1,Vj,UR];rfl
 .rintro δ _ ⟨rfl,c,rfl⟩
  rw[show(bv 0 n).length=n by unfold bv;rw[UD,Vi]];exact ao<|aC Z ⟨Z,Z⟩
theorem Sz(h:b∈y1 r):(∀i∈b,i<r)/\ϱ b<=r:=⟨λi c=>Vg.mp<|(kx r b h).subset c,by have:=(kx r b h).length_le;simp_all⟩
theorem Sh{E w:ώ}{b:LP}(P:j2 r c b)(l:ϱ E=r)(m:ϱ w=c)(n:r<=6)(p:c<=6)(V:∀X u,0<=slB E w b r c X u):(gJ K a).1 [iL E,iL w,eG b] β=U (.ok .non,β):=by
 unfold gJ
 dsimp only
 refine aE<|ao<|bw (bN (aq (aa (ah Z<|dn<|by rw[UD,l]) Z)<|FS n) Z) (λi G f=>β=f/\∃g h,G=[U<|.sh<|iL E,U<|.sh<|iL w,U<|.sh<|eG b,g,h]) ⟨Z,Y,Y,Z⟩ ?_ ?_
 .rintro i d G _ hd ⟨rfl,g,h,rfl⟩
  obtain⟨e,q,rfl⟩:=bR hd;have S:=U2 q;obtain⟨k,t⟩:=Sz S;refine⟨_,Z,aF (aq Z<|JH P m ln ln k ln) (ao<|bn (dr<|b0 (aq Z<|JD (by rw[l];exact k) ln) (aq Z<|IB P m ln ln k ln) ?_)<|aQ<|b_ ⟨Z,_,_,Z⟩)⟩;have o:=V (λi=>decide (i∈e)) (λj=>decide (j∈yw w b r c e));have M:(yw w b r c e).Sublist _:=List.filter_sublist;rw[<-Qn (kx r e S) M]at o;show U _=_;simp_all
 .rintro G _ ⟨rfl,g,h,rfl⟩
  exact b_ ⟨Z,Z⟩
theorem Oh{a}(w:j2 r c a)(m:j2 r c b)(G:Kp a b)(X g:Nat->Bool):0<=slB (a.map WC) ((tp c a).map WC) b r c X g:=by
 refine Oq (λi f j h=>?_) (λi f=>(SF w f).symm) (λj h=>(SG w h).symm) X g;obtain⟨D,k,n⟩:=w.at f;have E:=qU (l:=D) (i:=j) (d:=0) ln;obtain⟨e,l⟩:=m.getD f;rw[Us k E];exact G i j _ _ (qd k E)<|qd e (qU (l:=b.getD i []) (i:=j) (d:=((0,0):Int×Int)) ln)
variable{rs cs:ϊ}
theorem qL{a}(h:Gw g a β (λc b=>c=o/\b=β)):g a β=U (o,β):=by
 obtain⟨c,b,e,rfl,rfl⟩:=h;exact e
theorem j4{d b h}{a}{β1}{c}{Q}(e:t (fy a) β=U (.ok c,β1))(f:c=UK)(k:Gw (aP b h) a β1 Q):Gw (aP (pa t d b) h) a β Q:=by
 subst f;exact bn e k
theorem Ti(h:rx p):(kS K a).1 [pD p] β=U (.ok .non,β):=by
 obtain⟨b,c,e⟩:=h;unfold kS
 apply aE;exact CP Z Z<|ao<|j4 (sH<|dr<|Lh Z Z Z Z) ln<|aQ<|b_ ⟨Z,Z⟩
theorem Ou(g:zx r c b)(n:r<=1000):(dO K a).1 [eG b,.int (r:Int),.int (c:Int)] β=U (.ok<|eG b,β):=by
 unfold dO
 dsimp only
 refine aE ?_;refine bn (β1:=β) (dr<|b0 Z Z Z)<|aQ ?_;have o:c9 1 [2] (cR<|ac 0) (gt 0) (λ_=>M.ret O) (j0<|f2 (iu) (aX fF<|af (ac 0)<|az)<|ac 1) [U<|eG b,U<|.int (r:Int),U<|.int (c:Int),Y,Y] β=U (.ok<|.lst<|b.map λ_=>D.bl UK,β):=
  bx (nv:=1) (b4:=[2]) b (λw=>D.lst<|w.map pD) _ (by show U _=_;rw[UR];rfl) (λw h=>⟨_,Z,b0 (ah Z<|dn (r:=c)<|by rw[UD];exact g.shp.2 w h) Z<|ne_int.trans<|by rw[U3 Z];rfl⟩) (bh<|by rw[g.shp.1];exact n)
 refine j4 (j3 (dr<|b0 (ah Z<|yI (r:=r)<|by rw[UD];exact g.shp.1) Z<|ne_int.trans<|by rw[U3 Z];rfl)<|qm (ah (aa o Z)<|any_map b λ_=>UK) Z) rc<|aQ ?_;refine bw (ds:=(gP b).map D.lst) (β1:=β) Z (λi E e=>β=e/\∃l f,E=[U<|.sh<|eG b,U<|.sh<|.int (r:Int),U<|.sh<|.int (c:Int),l,f]) ⟨Z,Y,Y,Z⟩ ?_ ?_
 .rintro i d E _ hd ⟨rfl,l,f,rfl⟩
  obtain⟨y,G,rfl⟩:=bR hd;obtain⟨w,k,rfl⟩:=bR G;refine⟨_,Z,ao<|bw (ds:=w.map pD) (β1:=β) Z (λj E e=>β=e/\∃f,E=[U<|.sh<|eG b,U<|.sh<|.int (r:Int),U<|.sh<|.int (c:Int),U<|.sh<|.lst<|w.map pD,f]) ⟨Z,_,Z⟩ ?_ ?_⟩
  .rintro j d E _ hd ⟨rfl,f,rfl⟩
   obtain⟨p,m,rfl⟩:=bR hd;exact⟨_,Z,ao<|ic (aq Z<|Ti<|g.ok w (U2 k) p<|U2 m)<|b_ ⟨Z,_,Z⟩⟩
  .rintro E _ ⟨rfl,f,rfl⟩
   exact b_ ⟨Z,_,_,Z⟩
 .rintro E _ ⟨rfl,l,f,rfl⟩
  exact ao<|aC (bx (nv:=1) (b4:=[]) (gP b) D.lst D.lst Z (λx _=>⟨_,Z,Z⟩)<|bh<|by rw[UD,g.shp.1];exact n) ⟨Z,Z⟩
theorem JB(l:ϊ){n}{δ:Dn}(b:ϱ l<=1000)(e:δ.getD n Y=U (nL l)):za (aX FW<|af (c9 1 [] (cR<|ac n) (gt 0) (λ_=>M.ret O)<|j0<|f2 (ltD) (ac 0)<|fC<|.int 0)<|az) δ β=U (.ok UK,β):=by
 refine qm (ah (aa (bx (nv:=1) (b4:=[]) (tg:=gt 0) (f:=f2 _ _<|fC<|.int 0) (β:=β) _ _ _ (bN (ql e) Z) (λx _=>⟨_,Z,Z⟩) (bh<|by rw[UD];exact b)) Z)<|any_map _ _)<|VR U<|List.any_eq_false.mpr λx a=>?_;obtain⟨n,_,rfl⟩:=UL.mp a;simp
theorem pJ(l):fF [nL l]=U (.int (ϱ l:Int)):=dn (by rw[UD,UD])
theorem BY(h:Nt0 rs cs):(gb K a).1 [nL rs,nL cs] β=U (.ok .non,β):=by
 obtain⟨b,c,d,e⟩:=h.nr;have w:=h.c1;have D:=h.c6;unfold gb
 dsimp only
 refine aE<|j4 (sH<|dr<|zL Z (ah Z<|pJ rs) Z) (by simp;lia)<|aQ<|j4 (sH<|dr<|zL Z (ah Z<|pJ cs) Z) (by simp;lia)<|aQ<|bn (j3 (JB rs ln Z)<|JB cs ln Z)<|aQ ?_;exact j4 (dr<|b0 (ah Z<|iw rs) (ah Z<|iw cs) ne_int) (by rw[h.sm];simp)<|aQ<|ao<|j4 (dr<|b0 (ah Z<|iw rs) Z gt_int) (by simp;lia)<|aQ<|b_ ⟨Z,Z⟩
theorem Oa(h:T_ rs):(kR K a).1 [nL rs] β=U (.ok .non,β):=by
 obtain⟨g,j,k,e⟩:=h;unfold kR
 apply aE;refine aF Z<|bw Z (λi w b=>β=b/\∃c,w=[U<|.sh<|nL rs,U<|.sh<|.int ((pr ((rs.take i).map (·+1)):Nat):Int),c]) ⟨Z,Y,Z⟩ ?_ ?_
 .rintro i d w _ hd ⟨rfl,c,rfl⟩
  obtain⟨n,E,rfl⟩:=ji hd;have f:=cP<|U2 E;have l:=U1 (w6 rs i) e;refine⟨_,Z,ao<|nq Z (b0 Z Z Z) (eE (ot ln)<|ot ln)<|b_ ⟨Z,U<|.sh<|.int (n:Int),?_⟩⟩;rw[iY E];rfl
 .rintro w _ ⟨rfl,c,rfl⟩
  rw[jB,VB];exact ao<|j4 (dr<|b0 Z Z gt_int) (by simp;lia)<|aQ<|b_ ⟨Z,Z⟩
structure t7 (ai:LI) (B:ϰ) (rs cs:ϊ):Prop extends Nt0 rs cs where
 shp:j2 rs.length cs.length ai
 rw1:ai.map WC=nI rs
 cl1:(tp cs.length ai).map WC=nI cs
 bok:D_ rs.length cs.length B
 kp:Kp ai<|jo B
theorem ml(h:j2 r c B):j2 r c (jo B):=h.map
theorem D_.bnd(h:D_ r c B):zx r c (jo B):=⟨ml h.1,λa e p f=>by
 obtain⟨b,g,rfl⟩:=UL.mp e;obtain⟨d,i,rfl⟩:=UL.mp f;have:=h.2 b g d i;exact⟨ln,ln,ln⟩⟩
theorem t7.nt(h:t7 ai B rs cs):la K a rs cs (wB B cs) (j1 B):=⟨h.toNt0,SJ B cs,λ{β k r} b c e=>Pz c (by rw[e];exact h.bok) (by rw[<-h.sm];exact h.nr.2.2.1) b⟩
theorem t7.fit(h:t7 w B rs cs):(gJ K a).1 [nL rs,nL cs,j1 B] β=U (.ok .non,β):=by
 have b:=h.nr.2.1;have D:=h.c6;refine Sh (ml h.bok.1) (UD _) (UD _) ln ln λX c=>?_;rw[<-h.rw1,<-h.cl1];exact Oh h.shp (ml h.bok.1) h.kp X c
theorem Ov(h:t7 w B rs cs):(dO K a).1 [j1 B,.int (ϱ rs:Int),.int (ϱ cs:Int)] β=U (.ok<|j1 B,β):=Ou h.bok.bnd (by have:=h.nr.2.1;lia)
abbrev nFs(B:ϰ)(rs cs:ϊ):ϋ:=[nL rs,nL cs,j1 B,sw (wB B cs) rs cs.length]
abbrev Ma(a:Ad)(B:ϰ)(rs cs:ϊ):D:= .obj a.Ae [td,oJ,F',ya]<|nFs B rs cs
theorem Tz{d}(h:t7 w B rs cs)(E:∀{β:Bg},(dO K a).1 [d,.int (ϱ rs:Int),.int (ϱ cs:Int)] β=U (.ok<|j1 B,β)):t0 K a [nL rs,nL cs,d] β=U (.ok<|nFs B rs cs,β):=yV λx=>by
 have b:(eK K a).1 [nL rs,nL cs,d] β=U (.ok<|j1 B,β):=by
  unfold eK
  exact aE<|ic (aq Z<|BY h.toNt0)<|aF (aq (aa Z<|aa (ah Z<|pJ rs)<|aa (ah Z<|pJ cs) Z) E)<|ic (aq Z<|Oa h.nr)<|ao<|aC Z ⟨Z,Z⟩
 unfold yT;refine pS (qL<|ao<|aF (aq Z b)<|b_ ⟨Z,Z⟩) Z Z<|pS (qL<|ao<|ic (aq Z h.fit)<|b_ ⟨Z,Z⟩) Z Z ?_;exact iC (ah Z Z)<|iC (ah Z Z)<|iC Z<|iC (aq Z<|FP h.nt) Z
theorem Rf(h:t7 ai B rs cs):t0 K a [nL rs,nL cs,j1 B] β=U (.ok<|nFs B rs cs,β):=Tz h<|Ov h
theorem SI{a}{E}(c:f a β=U (.ok<|.dct b w E,β))(e:g a β=U (.ok [k,z],β))(h:eF b k=U y)(i:lg w E y=U d):MM f g a β=U (.ok d,β):=by
 unfold MM;rw[M.bind_ok c];simp only;rw[M.bind_ok e];simp only[h,i,Wx,Option.getD_some,M.ofO]
theorem PC:∀(y x:Nat) (β:Bg),ci (fB<|f2 (B_) (ac 1)<|fC<|.int 0) (yZ 0 1<|af (ac 1)<|af (f2 yy (ac 0)<|ac 1)<|az) (y+1) [U<|.sh<|.int x,U<|.sh<|.int y] β=U (.nx [U<|.sh<|.int (Zl x y:Nat),U<|.sh<|.int 0],β):=by
 intro y
 induction y using Nat.strongRecOn with
 |ind y ih=>
  intro x β;by_cases w:y=0
  .subst w
   unfold ci;simp only[aP,eW,yZ,ac,fC,f2,az,af,fB,M.bind,M.ret,M.ofO,vw,fy,lv,UZ,W5,List.set_cons_zero,List.set_cons_succ,List.getD_cons_zero,List.getD_cons_succ,U5,XR,List.replicate_zero,Wm,VA,WY,WH,Yk,Nat.reduceSub,Nat.reduceAdd,Int.reduceLT,N1,MP,asB,Wx,WJ,VV,VS,reduceIte,decide_true,decide_false,Vd,Int.natCast_zero,Int.lt_irrefl,Nat.gcd_zero_right]
  .have b:(0:Int)<(y:Int):=by lia
   have D:(x:Int) % (y:Int)=((x % y:Nat):Int):=by simp
   have a:=l8 (ih (x % y) (ZC _ ln) y β) (show x % y+1<=y from ZC _ ln);have c:Zl y (x % y)=Zl x y:=by rw[Nat.gcd_comm x y,Nat.gcd_rec y x,Nat.gcd_comm]
   rw[c]at a;unfold ci;simp only[aP,eW,yZ,ac,fC,f2,az,af,fB,M.bind,M.ret,M.ofO,vw,fy,lv,UZ,W5,List.set_cons_zero,List.set_cons_succ,List.getD_cons_zero,List.getD_cons_succ,U5,XR,List.replicate_zero,Wm,VA,WY,WH,Yk,Nat.reduceSub,Nat.reduceAdd,Int.reduceLT,N1,MP,asB,Wx,WJ,VV,VS,reduceIte,decide_true,decide_false,Vd,b,D,a]
theorem Uz(x y:Nat):(im K a).1 [.int x,.int y] β=U (.ok<|.int (Zl x y:Nat),β):=by
 unfold im
 exact aE<|dh (KG<|PC y x β)<|ao<|aC Z ⟨Z,Z⟩
theorem JU:∀(y x:Nat) (c:ϥ) (β:Bg),∃b,ci (fB<|f2 (B_) (ac 1)<|fC<|.int 0) (aP (dB 2<|f2 yy (ac 0)<|ac 1)<|aP (dB 0<|ac 1)<|dB 1<|ac 2) (y+1) [U<|.sh<|.int x,U<|.sh<|.int y,c] β=U (.nx [U<|.sh<|.int (Zl x y:Nat),U<|.sh<|.int 0,b],β):=by
 intro y
 induction y using Nat.strongRecOn with
 |ind y ih=>
  intro x c β;by_cases w:y=0
  .subst w
   refine⟨c,?_⟩;unfold ci;simp only[ac,fC,f2,fB,M.bind,M.ret,M.ofO,vw,fy,UZ,W5,List.getD_cons_zero,List.getD_cons_succ,MP,asB,Int.natCast_zero,Int.lt_irrefl,decide_false,Nat.gcd_zero_right]
  .have e:(0:Int)<(y:Int):=by lia
   have D:(x:Int) % (y:Int)=((x % y:Nat):Int):=by simp
   obtain⟨b,a⟩:=ih (x % y) (ZC _ ln) y (U<|.sh<|.int ((x % y:Nat):Int)) β;have a:=l8 a (show x % y+1<=y from ZC _ ln);have f:Zl y (x % y)=Zl x y:=by rw[Nat.gcd_comm x y,Nat.gcd_rec y x,Nat.gcd_comm]
   rw[f]at a;refine⟨b,?_⟩;unfold ci;have g:fB (f2 (B_) (ac 1)<|fC<|.int 0) (fy [U<|.sh<|.int x,U<|.sh<|.int y,c]) β=U (.ok O,β):=dr (b0 Z Z<|by rw[Pu.gt_int,U3 e]);have h:aP (dB 2<|f2 yy (ac 0)<|ac 1) (aP (dB 0<|ac 1)<|dB 1<|ac 2) [U<|.sh<|.int x,U<|.sh<|.int y,c] β=U (.nx [U<|.sh<|.int (y:Int),U<|.sh<|.int ((x % y:Nat):Int),U<|.sh<|.int ((x % y:Nat):Int)],β):=qL<|aF (d:= .int ((x % y:Nat):Int)) (β1:=β) (b0 Z Z (by show(if decide ((0:Int)<(y:Int))=O then _ else _)=_;rw[U3 e,US Z,D]))<|aF (d:= .int (y:Int)) (β1:=β) Z<|ao<|aF (d:= .int ((x % y:Nat):Int)) (β1:=β) Z<|b_ ⟨Z,Z⟩;simp only[g,h,a]
theorem Pa(x y:Nat):(uZ K a).1 [.int x,.int y] β=U (.ok<|.int (Zl x y:Nat),β):=by
 obtain⟨b,l⟩:=JU y x Y β;unfold uZ
 exact aE<|dh (KG l)<|ao<|aC Z ⟨Z,Z⟩
theorem xg(h:∀n∈l,1<=n/\n<=2^11)(b:ϱ l<=24):1<=nj l/\nj l<2^1000:=⟨(yK h).1,cg (yK h).2 ln⟩
theorem uc{t n:Nat}(b:1<=t)(c:t<2^1000):0<Zl t n/\Zl t n<2^1000:=⟨Nat.gcd_pos_of_pos_left _ b,VT (Nat.gcd_le_left _ b) c⟩
theorem Ru{w:ϊ}(h:∀n∈w,1<=n/\n<=2^11)(j:ϱ w<=24):(eQ K a).1 [nL w] β=U (.ok<|.int ((nj w:Nat):Int),β):=by
 unfold eQ
 dsimp only
 refine aE ?_;refine aF (d:= .int 1) (β1:=β) Z ?_;refine bw (ds:=(nI w).map D.int) (β1:=β) Z (λi E b=>β=b/\∃c,E=[U<|.sh<|nL w,U<|.sh<|.int ((nj (w.take i):Nat):Int),c]) ⟨Z,Y,Z⟩ ?_ ?_
 .rintro i d E _ hd ⟨rfl,c,rfl⟩
  obtain⟨n,G,rfl⟩:=ji hd;obtain⟨k,g⟩:=h n<|U2 G;obtain⟨f,e⟩:=xg (l:=w.take i) (λx M=>h x<|W0 M) (by rw[VI];lia);refine⟨_,Z,ao<|aF (b0 (b0 Z Z<|eE e<|ot g) (aq Z<|Uz _ n)<|ut (uc f e).1 (uc f e).2)<|b_ ⟨Z,U<|.sh<|.int (n:Int),?_⟩⟩;rw[mE G,BB];rfl
 .rintro E _ ⟨rfl,c,rfl⟩
  rw[jB,VB];exact ao<|aC Z ⟨Z,Z⟩
def iT(x:Nat)(ys:ϊ):ϊ:=(ys.filter λy=>decide (0<x*y)).map λy=>x*y
def b8(xs ys:ϊ):ϊ:=xs.flatMap λx=>iT x ys
theorem rT(a:x<=40)(w:y<=40):x*y<=1600:=YI a w
theorem AE(a:x<=40)(w:∀y∈ys,y<=40):∀n∈iT x ys,1<=n/\n<=2^11:=λn D=>by
 obtain⟨y,b,rfl⟩:=UL.mp D;have:=(Wg.mp b).2;have:=rT a<|w y (Wg.mp b).1;lia
theorem yg:ϱ (iT x ys)<=ϱ ys:=by unfold iT;rw[UD];exact Xc _ _
theorem kU(a:∀x∈xs,x<=40)(w:∀y∈ys,y<=40):∀n∈b8 xs ys,1<=n/\n<=2^11:=λn D=>by
 obtain⟨x,b,c⟩:=Wb.mp D;exact AE (a x b) w n c
theorem jx{xs ys:ϊ}(a:ϱ ys<=6):ϱ (b8 xs ys)<=ϱ xs*6:=by
 unfold b8
 induction xs with
 |nil=>simp
 |cons x xs w=>
  rw[V6,Va,U5];have:=yg (x:=x) (ys:=ys);lia
structure Ok2 (xs ys:ϊ):Prop where
 lx:xs.length<=4
 ly:ys.length<=6
 hx:∀x∈xs,x<=40
 hy:∀y∈ys,y<=40
theorem LO(o:Ok2 xs ys){i j x}(a:x<=40)(d:i<=3):(∀n∈b8 (xs.take i) ys++iT x (ys.take j),1<=n/\n<=2^11)/\ϱ (b8 (xs.take i) ys++iT x (ys.take j))<=24:=by
 refine⟨λn w=>?_,?_⟩
 .obtain h|h:=V7.mp w
  .exact kU (λx a=>o.hx x<|W0 a) o.hy n h
  .exact AE a (λy D=>o.hy y<|W0 D) n h
 .rw[Va]
  have b:=jx (xs:=xs.take i) o.ly;have c:=yg (x:=x) (ys:=ys.take j);rw[VI]at b c;have:=o.ly;omega
theorem Mp{E w}(o:Ok2 E w):(rR K a).1 [nL E,nL w] β=U (.ok<|.int ((nj (b8 E w):Nat):Int),β):=by
 have S:=o.lx;unfold rR
 apply aE;refine aF Z<|bw Z (λi G g=>β=g/\∃k e b,G=[U<|.sh<|nL E,U<|.sh<|nL w,U<|.sh<|.int ((nj (b8 (E.take i) w):Nat):Int),k,e,b]) ⟨Z,Y,Y,Y,Z⟩ ?_ ?_
 .rintro i d G _ hd ⟨rfl,k,e,b,rfl⟩
  obtain⟨x,M,rfl⟩:=ji hd;have f:=o.hx x<|U2 M;have v:=(UY.mp M).1;refine⟨[U<|.sh<|nL E,U<|.sh<|nL w,U<|.sh<|.int _,U<|.sh<|.int _,e,b],Z,ao (bw Z (λj G g=>β=g/\∃e b,G=[U<|.sh<|nL E,U<|.sh<|nL w,U<|.sh<|.int ((nj (b8 _ w++iT x (w.take j)):Nat):Int),U<|.sh<|.int _,e,b]) ⟨Z,e,b,by show _=[_,_,U<|Sl.sh<|D.int ((nj (b8 _ w++[]):Nat):Int),_,_,_];rw[VA]⟩ ?_ ?_)⟩
  .rintro j d G _ hd ⟨rfl,e,b,rfl⟩
   obtain⟨y,P,rfl⟩:=ji hd;have h:=o.hy y<|U2 P;have p:=rT f h;obtain⟨r,t⟩:=LO o (i:=i) f ln;obtain⟨m,l⟩:=xg r t;have n:∀(q:Bool),decide (0<x*y)=q->b8 (E.take i) w++iT x (w.take<|j+1)=(b8 (E.take i) w++iT x (w.take j))++if q=O then[x*y]else[]:=λq u=>by
    unfold iT;rw[mE P,List.filter_append,Vj,V5];cases q<;>simp[u]
   refine⟨[U<|.sh<|nL E,U<|.sh<|nL w,U<|.sh<|.int _,U<|.sh<|.int _,U<|.sh<|.int _,b],Z,aF (b0 Z Z<|eE (ot ln)<|ot ln)<|ao<|iQ (c:=decide (0<x*y)) (dr<|b0 Z Z<|gt_int.trans<|by congr 2;rw[Zs];omega) ?_⟩;cases q:decide (0<x*y)with
   |true=>
    rw[US Z,n O q];refine aF (b0 (b0 Z Z<|eE l<|ot ln) (aq Z<|(by
     obtain⟨x00,x01⟩:=JU (x*y) _ Y _;unfold uZ
     exact aE<|dh (KG x01)<|ao<|aC Z ⟨Z,Z⟩))<|ut (uc m l).1 (uc m l).2)<|b_ ⟨Z,U<|.sh<|.int (y:Int),U<|.sh<|.int ((x*y:Nat):Int),?_⟩;rw[US Z,BB];rfl
   |false=>
    rw[UU UX,n UK q];refine aQ<|b_ ⟨Z,U<|.sh<|.int (y:Int),U<|.sh<|.int ((x*y:Nat):Int),?_⟩;rw[UU UX,VA];rfl
  .rintro G _ ⟨rfl,e,b,rfl⟩
   rw[jB,VB];refine b_ ⟨Z,U<|.sh<|.int (x:Int),e,b,?_⟩;have:b8 (E.take<|i+1) w=b8 (E.take i) w++iT x w:=by
    unfold b8;rw[mE M,Xs];simp
   rw[this]
 .rintro G _ ⟨rfl,k,e,b,rfl⟩
  rw[jB,VB];exact ao<|aC Z ⟨Z,Z⟩
abbrev z_(l xs:ϊ)(y:Nat):Ϟ:=l.zip<|xs.map λx=>x*y
def Y_(e:Nat)(z:Nat×Nat):Nat:=if 0<z.2 then z.1*z.1*e/z.2 else 0
def B9(T:Nat)(z:Nat×Nat):Nat:=(((z.1*T:Nat):Int)-(z.2:Int)).natAbs
def sqN(e:Nat)(l xs:ϊ)(y:Nat):Nat:=((z_ l xs y).map<|Y_ e).sum
def B6(T:Nat)(l xs:ϊ)(y:Nat):Nat:=((z_ l xs y).map<|B9 T).sum
theorem wM(d:l.sum<=40)(a:∀x∈xs,x<=40)(w:y<=40)(h:z∈z_ l xs y):z.1<=40/\z.2<=1600:=by
 have c:=XT h;obtain⟨x,b,e⟩:=UL.mp c.2;exact⟨U1 (cP c.1) d,by rw[<-e];exact rT (a x b) w⟩
theorem Qj{e}{n p}(d:e<2^1000)(a:n<=40)(l:p<=1600)(b:0<p)(c:f δ β=U (.ok<|.int (n:Int),β))(i:g δ β=U (.ok<|.int (e:Int),β))(j:h δ β=U (.ok<|.int (p:Int),β)):
  f2 ox (f2 db (f2 db f f) g) h δ β=U (.ok<|.int ((Y_ e (n,p):Nat):Int),β):=by
 have k:=rT a a;unfold Y_;rw[US b];exact b0 (b0 (b0 c c<|eE (ot ln)<|ot ln) i<|eE (ot ln) d) j (ut b<|ot ln)
theorem N4{T n p}(e:T<=40)(a:n<=40)(b:f δ β=U (.ok<|.int (n:Int),β))(c:g δ β=U (.ok<|.int (T:Int),β))(d:h δ β=U (.ok<|.int (p:Int),β)):
  aX vC (af (f2 xL (f2 db f g) h) az) δ β=U (.ok<|.int ((B9 T (n,p):Nat):Int),β):=by
 refine ah (aa (b0 (b0 b c<|eE (ot ln)<|ot ln) d Z) Z) ?_;show U _=U (D.int (((((n*T:Nat):Int)-(p:Int)).natAbs:Nat):Int));by_cases q:((n*T:Nat):Int)-(p:Int)<0
 .rw[US q];grind
 .rw[UU q];lia
theorem CL{a}(w:Sq l a){f g:FD}(b:f δ β=U (.ok a,β))(c:g δ β=U (.ok<|nL m,β)):nX (af f<|af g az) δ β=U (.ok<|(l.zip m).map λz=>D.tup [.int (z.1:Int),.int (z.2:Int)],β):=by
 have h:nX (af f<|af g az) δ β=U (.ok<|eC ((nI l).map D.int)<|(nI m).map D.int,β):=by
  obtain rfl|rfl:=w
  .exact bO (aa b<|aa c Z) Z
  .exact bO (aa b<|aa c Z) Z
 rw[h,UR,UR];exact VR (λz=>U (VP z,β))<|iP ..
theorem y8{a:Type}{p:a->Bool}{g:a->Nat}:∀l:List a,((l.filter p).map g).sum=(l.map λx=>if p x=O then g x else 0).sum:=List.rec Z λx l h=>by
  rw[YM,UZ,Vk,<-h];by_cases q:p x=O
  .rw[US q,US q,UZ,Vk]
  .rw[UU q,UU q,WM]
theorem yx{a}(g:a->Nat)(l:List a):D.lst (l.map λx=>D.int ((g x:Nat):Int))=nL (l.map g):=by
 simp_all
theorem GC{l a:ϊ}{y}(h:ϱ l<=1000):ϱ (z_ l a y)<=1000:=by grind
theorem HF{e:Nat}{l xs:ϊ}{y:Nat}{w:D}(M:Sq l w)(b:l.sum<=40)(h:l.length<=4)(E:∀x∈xs,x<=40)(G:y<=40)(g:e<2^1000):(jP K a).1 [w,nL<|xs.map λx=>x*y,.int (e:Int)] β=U (.ok<|.int ((sqN e l xs y:Nat):Int),β):=by
 unfold jP
 dsimp only
 refine aE ?_;have c:=gj (nv:=2) (b4:=[2]) (it:=nX<|af (ac 0)<|af (ac 1)<|az) (tg:=O_<|fj (gt 0)<|fj (gt 1) kC) (tt:=fB<|f2 (B_) (ac 1)<|fC<|.int 0) (f:=f2 ox (f2 db (f2 db (ac 0)<|ac 0)<|ac 2)<|ac 1) (δ:=[U w,U<|nL<|xs.map λx=>x*y,U<|.int (e:Int)]) (β:=β) (z_ l xs y) (λz=>D.tup [.int (z.1:Int),.int (z.2:Int)]) (λz=>D.int ((Y_ e z:Nat):Int)) (λz=>decide (0<z.2)) (CL M Z Z)
  (λz d=>⟨[U<|.int (z.1:Int),U<|.int (z.2:Int),U<|.int (e:Int)],Z,dr (b0 Z Z<|Pu.gt_int.trans<|by congr 2;simp only[Zs];lia),λq=>Qj g (wM b E G d).1 (wM b E G d).2 (WP q) Z Z Z⟩) (bh<|GC ln)
 rw[yx]at c;refine ao<|aC (ah (aa c Z)<|iw _) ⟨Z,?_⟩;rw[y8];unfold sqN;congr 4;refine Vr λz _=>?_;unfold Y_;by_cases q:0<z.2
 .simp[q]
 .simp[q]
theorem OV{T:Nat}{l xs}{y}{w}(E:Sq l w)(b:l.sum<=40)(g:ϱ l<=4)(G:∀x∈xs,x<=40)(M:y<=40)(d:T<=40):(nE K a).1 [w,nL<|xs.map λx=>x*y,.int (T:Int)] β=U (.ok<|.int ((B6 T l xs y:Nat):Int),β):=by
 unfold nE
 apply aE;have c:=bx (nv:=2) (b4:=[2]) (it:=nX<|af (ac 0)<|af (ac 1)<|az) (tg:=O_<|fj (gt 0)<|fj (gt 1) kC) (f:=aX vC<|af (f2 xL (f2 db (ac 0)<|ac 2)<|ac 1)<|az) (δ:=[U w,U<|nL<|xs.map λx=>x*y,U<|.int _]) (β:=β) _ _ _ (CL E Z Z)
  (λz e=>⟨[U<|.int _,U<|.int _,U<|.int _],Z,N4 d (wM b G M e).1 Z Z Z⟩) (bh<|GC ln)
 rw[yx]at c;exact ao<|aC (ah (aa c Z)<|iw _) ⟨Z,Z⟩
noncomputable abbrev RS(f:ϲ)(n:Nat):Nat:=((UT n).map f).sum
abbrev RP(f:ϲ)(n:Nat):Nat:=pr<|(UT n).map f
theorem kr{a:Type}{l:List a}{i}{x d}(h:l[i]?=U x):l.getD i d=x:=by rw[UO,h];rfl
theorem ue{i n:Nat}(h:l[i]?=U n):f0 (nL l) (.int (i:Int))=U (.int (n:Int)):=cQ (by rw[UN,UN,h];rfl)
theorem xt{a}{l:List a}(h:i<ϱ l):∃x,l[i]?=U x:=⟨_,UJ h⟩
inductive Kd where|rare|square|power|off|most|least
def Kd.nm:Kd->VF
 | .rare=>Vc "rare"| .square=>Vc "square"| .power=>Vc "power"| .off=>Vc "off"| .most=>Vc "most"| .least=>Vc "least"
def Kd.isP:Kd->Bool
 | .rare=>O| .power=>O|_=>UK
def Kd.less:Kd->Bool
 | .rare=>O| .least=>O|_=>UK
def Kd.pl:Kd->Bool
 | .most=>O| .least=>O|_=>UK
def jn(k:Kd)(xs a:ϊ)(p q j:Nat)(l:ϊ):Nat:=match k with
 | .rare=>w_ l| .power=>pwN l| .square=>sqN (nj<|b8 xs a) l xs (a.getD j 0)| .off=>B6 xs.sum l xs (a.getD j 0)|_=>if j=q then l.getD p 0 else 0
def hE(k:Kd)(t n:Nat):Nat:=if k.isP=O then t*n else t+n
def CY(k:Kd)(f:ϲ)(n:Nat):Nat:=if k.isP=O then RP f n else RS f n
theorem QJ{cs:Ϙ}(h:∀l∈cs,l.sum<=40):pr (cs.map pwN)<=2^(6*(cs.map WC).sum):=by
 induction cs with
 |nil=>decide
 |cons l cs w=>
  show pwN l*pr _<=_;rw[UZ,Vk,Nat.mul_add,Nat.pow_add];exact YI (Ny λx a=>U1 (cP a)<|h l UP)<|w λx a=>h x<|UI _ a
theorem kEq(k:Kd):dE (.str k.nm) (.str<|Vc zT)=U (.bl (match k with| .rare=>O|_=>UK))/\dE (.str k.nm) (.str<|Vc HW)=U (.bl (match k with| .square=>O|_=>UK))/\dE (.str k.nm) (.str<|Vc "off")=U (.bl (match k with| .off=>O|_=>UK))/\dE (.str k.nm) (.str<|Vc tq)=U (.bl (match k with| .power=>O|_=>UK))/\iu (.str k.nm) (.str<|Vc tq)=U (.bl (match k with| .power=>UK|_=>O)):=by
 cases k<;>exact⟨rf,rf,rf,rf,rf⟩
theorem kIn(k:Kd):x4 UK (.str k.nm) (.tup [.str<|Vc zT,.str<|Vc tq])=U (.bl k.isP)/\x4 UK (.str k.nm) (.tup [.str<|Vc zT,.str<|Vc vS])=U (.bl k.less)/\x4 UK (.str k.nm) (.tup [.str<|Vc G',.str<|Vc vS])=U (.bl k.pl)/\x4 O (.str k.nm) (.tup [.str<|Vc zT,.str<|Vc HW,.str<|Vc tq,.str<|Vc "off",.str<|Vc G',.str<|Vc vS])=U (.bl UK):=by
 cases k<;>exact⟨rf,rf,rf,rf⟩
theorem OX{E}{S}{G}{K}(xs:List E)(u v:E->D)(c:E->Bool)(i:S w β=U (.ok<|xs.map u,β))
  (j:∀x∈xs,∃a,G (u x) w=U a/\K a β=U (.ok<|c x,β)/\f a β=U (.ok<|v x,β)):M_ S G K (j0 f) w β=U (.ok<|(xs.filter c).map v,β):=by
 have P:∀xs:List E,(∀x∈xs,∃a,G (u x) w=U a/\K a β=U (.ok<|c x,β)/\f a β=U (.ok<|v x,β))->oa G K (j0 f) (xs.map u) w β=U (.ok<|(xs.filter c).map v,β):=by
  intro xs
  induction xs with
  |nil=>intro _;rfl
  |cons x xs V=>
   intro h;obtain⟨a,d,b,e⟩:=h x UP;have g:=V λy k=>h y<|UI _ k;rw[UZ,oa];cases q:c x with
   |true=>
    rw[q]at b;simp only[d,b,M.bind,M.ret,reduceIte,j0,e,g,YM,q,UZ,WY,WH]
   |false=>
    rw[q]at b;simp only[d,b,M.bind,M.ret,reduceIte,g,YM,q,Vd,WH]
 unfold M_;rw[M.bind_ok i];exact P xs j
abbrev mNs:ϒ:=[Z',td,oJ,rh,"even"]
abbrev mFs(k:Kd)(a w:ϊ)(p q:Nat):ϋ:=[.str k.nm,nL a,nL w,.tup [.int (p:Int),.int (q:Int)],.int ((nj (b8 a w):Nat):Int)]
theorem Sk{xs w:ϊ}(o:Ok2 xs w){E:Dn}(c:E.getD 2 Y=U (nL xs))(d:E.getD 3 Y=U (nL w)):bW (eQ K a).1 (af (c9 2 [3] (cR<|ac 2) (gt 0) (λ_=>M.ret O)<|M_ (cR<|ac 2) (gt 1) (fB<|f2 (B_) (f2 db (ac 0)<|ac 1)<|fC<|.int 0)<|j0<|f2 db (ac 0)<|ac 1)<|az) E β=U (.ok<|.int ((nj (b8 xs w):Nat):Int),β):=by
 have b:k_ 2 [3] E=[Y,Y,U<|nL w]:=by
  unfold k_;simp only[UZ,W5,d];rfl
 have mu:∀x∈xs,∀y∈w,db (.int (x:Int)) (.int (y:Int))=U (.int ((x*y:Nat):Int)):=λx G y P=>eE (ot (by have:=o.hx x G;lia))<|ot (by have:=o.hy y P;lia);have e:c9 2 [3] (cR<|ac 2) (gt 0) (λ_=>M.ret O) (M_ (cR<|ac 2) (gt 1) (fB<|f2 (B_) (f2 db (ac 0)<|ac 1)<|fC<|.int 0)<|j0<|f2 db (ac 0)<|ac 1) E β=U (.ok<|.lst<|xs.flatMap λx=>(w.filter λy=>decide (0<x*y)).map λy=>D.int ((x*y:Nat):Int),β):=by
  refine BZ (nv:=2) (b4:=[3]) xs (λx=>D.int (x:Int)) _ (bN (ql c) (by show U _=_;rw[UR];rfl)) (λx G=>⟨[U<|.int (x:Int),Y,U<|nL w],by rw[b];rfl,OX w (λy=>D.int (y:Int)) _ _ (by show U (VP<|(nI w).map D.int,β)=_;rw[UR];rfl) (λy P=>⟨[U<|.int (x:Int),U<|.int (y:Int),U<|nL w],Z,dr (b0 (b0 Z Z<|mu x G y P) Z<|Pu.gt_int.trans<|by congr 2;simp only[Zs];lia),b0 Z Z<|mu x G y P⟩)⟩)<|bh ?_;have:=KM (f:=λx:Nat=>(w.filter λy=>decide (0<x*y)).map λy=>D.int ((x*y:Nat):Int)) (n:=6) (l:=xs) λx _=>by
   rw[UD];have:=Xc (λy=>decide (0<x*y)) w;have:=o.ly;lia
  have:=o.lx;lia
 have g:D.lst (xs.flatMap λx=>(w.filter λy=>decide (0<x*y)).map λy=>D.int ((x*y:Nat):Int))=nL (b8 xs w):=by
  show _=D.lst (((b8 xs w).map _).map _);unfold b8 iT;rw[UR,WA];congr 2;funext x;rw[UR];rfl
 rw[g]at e;exact aq (aa e Z)<|Ru (kU o.hx o.hy) (by have:=jx (xs:=xs) o.ly;have:=o.lx;lia)
theorem Lp{n m:Nat}(h:n<m):(fL K a).1 [.int (n:Int),.int (m:Int)] β=U (.ok .non,β):=by
 unfold fL
 exact aE<|ao<|j4 (sH<|dr<|GH Z Z Z) (by simp;lia)<|aQ<|b_ ⟨Z,Z⟩
theorem thI{m:Nat}(h:0<=i/\i<(m:Int)):(fL K a).1 [.int i,.int (m:Int)] β=U (.ok .non,β):=by
 obtain⟨i,rfl⟩:∃n:Nat,i=(n:Int):=⟨i.toNat,ln⟩;exact Lp ln
theorem PD{p q r c:Nat}(b:p<r)(e:q<c)(f:r<=1000)(g:c<=1000):(iq K a).1 [.int (p:Int),.int (q:Int),.int (r:Int),.int (c:Int)] β=U (.ok .non,β):=by
 unfold iq
 apply aE;exact ic (aq Z<|thI ln)<|ao<|ic (aq Z<|thI ln)<|b_ ⟨Z,Z⟩
theorem O3{w D}{p q}(o:Ok2 w D)(G:Nt0 w D)(h:p<ϱ w)(i:q<ϱ D)(k):nY K a [.str k.nm,nL w,nL D,.tup [.int (p:Int),.int (q:Int)]] β=U (.ok<|mFs k w D p q,β):=by
 have M:=o.lx;obtain⟨r,t,j,l⟩:=kIn k;have m:=BY (K:=K) (a:=a) (β:=β) G
 let b:UM->Ds:=λx=>[U<|.sh<|.adr x,U<|.sh<|.str k.nm,U<|.sh<|nL w,U<|.sh<|nL D,U<|.sh<|.tup [.int (p:Int),.int (q:Int)]]
 have g:∀{n:Nat} {f:ϊ} {E:Dn},E.getD n Y=U (nL f)->aX fF (af _ az) E β=U _:=λ{n f E} e=>ah (aa (ql e) Z) (dn<|by rw[UD,UD]);refine yV λx=>pS (qL<|ao<|ic (aq Z m)<|b_ ⟨Z,Z⟩) Z Z<|pS (qL<|ao<|bn (dr<|b0 Z Z l)<|aQ<|b_ ⟨Z,Z⟩) Z Z<|pS (δ1:=b x) (qL<|ao<|iQ (dr<|b0 Z Z j) ?_) Z Z ?_
 .cases k.pl with
  |true=>exact ic (aq (aa (b0 Z Z sd)<|aa (b0 Z Z pQ)<|aa (g Z)<|aa (g Z) Z)<|(by
   unfold iq
   apply aE;exact ic (aq Z<|thI ln)<|ao<|ic (aq Z<|thI ln)<|b_ ⟨Z,Z⟩))<|b_ ⟨Z,Z⟩
  |false=>exact aQ<|b_ ⟨Z,Z⟩
 .exact iC Z (iC Z<|iC Z<|iC Z<|iC (Sk o Z Z) Z)
abbrev mD(a:Ad)(k:Kd)(xs ys:ϊ)(p q:Nat):D:= .obj a.Af mNs<|mFs k xs ys p q
theorem MZ(k):(fY K a).1 [mD a k xs ys p q] β=U (.ok<|.int ((CY k (λ_=>0) 0:Nat):Int),β):=by
 obtain⟨b,c,d,e⟩:=kIn k;unfold fY
 apply aE;unfold  CY;cases h:k.isP with
 |true=>exact ao<|aC (wN (dr<|b0 (bB Z Z) Z<|by rw[b,h]) Z) ⟨Z,Z⟩
 |false=>exact ao<|aC (wO (dr<|b0 (bB Z Z) Z<|by rw[b,h]) Z) ⟨Z,Z⟩
theorem qY{p q t n:Nat}(k)(b:k.isP=O->t<2^1000/\n<2^1000):(ef K a).1 [mD a k xs ys p q,.int (t:Int),.int (n:Int)] β=U (.ok<|.int ((hE k t n:Nat):Int),β):=by
 obtain⟨c,d,e,f⟩:=kIn k;unfold ef
 apply aE;unfold  hE;cases h:k.isP with
 |true=>exact ao<|aC (wN (dr<|b0 (bB Z Z) Z<|by rw[c,h])<|b0 Z Z<|eE (b h).1 (b h).2) ⟨Z,Z⟩
 |false=>exact ao<|aC (wO (dr<|b0 (bB Z Z) Z<|by rw[c,h])<|b0 Z Z FZ) ⟨Z,Z⟩
structure KX (r c:Nat) (xs ys:ϊ):Prop where
 ok:Ok2 xs ys
 lx:xs.length=r
 ly:ys.length=c
 tx:xs.sum<=40
theorem OP{r c p q j:Nat}{xs ys l:ϊ}{S:D}(C:KX r c xs ys)(P:Sq l S)(B:j<c)(b:l.sum<=40)(u:l.length=r)(F:p<r)(k:Kd):(iX K a).1 [mD a k xs ys p q,.int (j:Int),S] β=U (.ok<|.int ((jn k xs ys p q j l:Nat):Int),β):=by
 obtain⟨f,v,I,g,J⟩:=kEq k;obtain⟨L,N,m,R⟩:=kIn k;obtain⟨y,V⟩:=xt (l:=ys) (i:=j) (by rw[C.ly];exact B);have e:=C.ok.hy y<|U2 V;have A:l.length<=4:=by rw[u];have:=C.ok.lx;have:=C.lx;lia
 have H:=xg (kU C.ok.hx C.ok.hy) (by have:=jx (xs:=xs) C.ok.ly;have:=C.ok.lx;lia);have pc:c9 1 [0,1] (cR<|f1 (ow a.Af td)<|ac 0) (gt 0) (λ_=>M.ret O) (j0<|f2 db (ac 0)<|f2 f0 (f1 (ow a.Af oJ)<|ac 1)<|ac 2) [U<|mD a k xs ys p q,U<|.int (j:Int),U S,Y] β=U (.ok<|nL<|xs.map λx=>x*y,β):=by
  rw[<-yx];exact bx (nv:=1) (b4:=[0,1]) xs (λx=>D.int (x:Int)) _ (bN (bB Z Z) (by show U _=_;rw[UR];rfl)) (λx Q=>⟨[U<|.int (x:Int),U<|mD a k xs ys p q,U<|.int (j:Int)],Z,b0 Z (b0 (bB Z Z) Z<|ue V)<|eE (ot (by have:=C.ok.hx x Q;lia))<|ot ln⟩)<|bh (by have:=C.ok.lx;lia)
 have E:k.pl=O->jn k xs ys p q j l=(if j=q then l.getD p 0 else 0):=λz=>by cases k<;>first|rfl|cases z
 unfold iX
 dsimp only
 refine aE ?_;have s:k.pl=O->∀{h:G},Gw (aP (eW<|fIf (fB<|f2 (dE) (ac 1)<|f2 f0 (f1 (ow a.Af rh)<|ac 0)<|fC<|.int 1) (f2 f0 (ac 2)<|f2 f0 (f1 (ow a.Af rh)<|ac 0)<|fC<|.int 0)<|fC<|.int 0) h) (lv 4 [mD a k xs ys p q,.int (j:Int),S]) β (λo t=>t=β/\(match o with| .rt d=>(VP (D.int ((jn k xs ys p q j l:Nat):Int)):Except UM D)= .ok d| .nx _=>(VP (D.int ((jn k xs ys p q j l:Nat):Int)):Except UM D)= .ok .non| .ex C _=>(VP (D.int ((jn k xs ys p q j l:Nat):Int)):Except UM D)= .error C|_=>False)):=λz h=>by
  rw[E z];by_cases w:j=q
  .obtain⟨n,hn⟩:=xt (l:=l) (i:=p) (by rw[u];exact F)
   refine aC (wN (dr<|b0 Z (b0 (bB Z Z) Z pQ)<|eq_int.trans<|by rw[U3 ln])<|b0 Z (b0 (bB Z Z) Z sd) ?_) ⟨Z,by rw[US w,kr hn]⟩;rcases P with rfl|rfl
   .exact ue hn
   .exact ue hn
  .exact aC (wO (dr<|b0 Z (b0 (bB Z Z) Z pQ)<|eq_int.trans<|by rw[Vv ln]) Z) ⟨Z,by rw[UU w];rfl⟩
 cases k with
 |rare=>exact d7 (dr<|b0 (bB Z Z) Z f)<|aC (aq Z<|zM P b) ⟨Z,Z⟩
 |power=>exact bn (dr<|b0 (bB Z Z) Z f)<|aQ<|d7 (dr<|b0 (bB Z Z) Z g)<|aC (aq Z<|LQ P b) ⟨Z,Z⟩
 |most=>exact bn (dr<|b0 (bB Z Z) Z f)<|aQ<|bn (dr<|b0 (bB Z Z) Z g)<|aQ<|d7 (dr<|b0 (bB Z Z) Z m)<|s Z
 |least=>exact bn (dr<|b0 (bB Z Z) Z f)<|aQ<|bn (dr<|b0 (bB Z Z) Z g)<|aQ<|d7 (dr<|b0 (bB Z Z) Z m)<|s Z
 |square=>
  refine bn (dr<|b0 (bB Z Z) Z f)<|aQ<|bn (dr<|b0 (bB Z Z) Z g)<|aQ<|bn (dr<|b0 (bB Z Z) Z m)<|aQ ?_;refine aF (d:=nL<|xs.map λx=>x*y) (β1:=β) pc<|d7 (dr<|b0 (bB Z Z) Z v)<|aC (aq (aa Z<|aa Z<|aa (bB Z Z) Z)<|HF P b A C.ok.hx e H.2) ⟨Z,?_⟩;show VP (D.int ((sqN _ l xs (ys.getD j 0):Nat):Int))=_;rw[kr V]
 |off=>
  refine bn (dr<|b0 (bB Z Z) Z f)<|aQ<|bn (dr<|b0 (bB Z Z) Z g)<|aQ<|bn (dr<|b0 (bB Z Z) Z m)<|aQ ?_;refine aF (d:=nL<|xs.map λx=>x*y) (β1:=β) pc<|bn (dr<|b0 (bB Z Z) Z v)<|aQ<|ao<|aC (aq (aa Z<|aa Z<|aa (ah (aa (bB Z Z) Z)<|iw xs) Z)<|OV P b A C.ok.hx e C.tx) ⟨Z,?_⟩;show VP (D.int ((B6 _ l xs (ys.getD j 0):Nat):Int))=_;rw[kr V]
def vr(k:Kd)(l:ϊ):Nat:=if k.isP=O then pr l else l.sum
theorem MQ(k)(x)(l):vr k (x::l)=hE k x (vr k l):=by
 unfold vr hE;split<;>rfl
def pts(P:a0Q):Nat->Ϙ->ϊ
 |_,[]=>[]
 |j,v::vs=>P j v::pts P (j+1) vs
def r8(k:Kd)(P:a0Q)(W:Wy)(m j:Nat)(r:ϊ):ϊ:=(pth W (m-j) j r).map λa=>vr k<|pts P j a
theorem xC(k)(P)(W)(m)(r):r8 k P W m m r=[vr k []]:=by
 unfold r8;rw[Yk];rfl
theorem Lj{W}{m j}{r}(h:j<m):r8 k P W m j r=(W j r).flatMap λv=>(r8 k P W m (j+1)<|less r v).map (hE k<|P j v):=by
 obtain⟨d,e⟩:∃d,m-j=d+1:=⟨m-j-1,by grind⟩;have b:m-(j+1)=d:=by grind
 unfold r8;rw[e,b];show Ww _ ((W j r).flatMap λv=>(pth W d _<|less r v).map _)=_;rw[WA];congr 1;funext v;rw[UR,UR];exact Vr λa _=>MQ ..
theorem GL{W}{m j}{r}:r8 k P W m j r≠[]↔0<l0 W (m-j) j r:=by
 unfold r8;rw[<-AH,List.length_pos_iff,ne_eq,X4]
def oD(l:ϊ):Nat:=(jU<|nI l).toNat
def o_(l:ϊ):Nat:=(jj<|nI l).toNat
theorem NF(h:l≠[]):nI l≠[]:=λz=>h<|X4.mp z
theorem iA(h:l≠[]):oD l∈l/\(∀x∈l,oD l<=x)/\jU (nI l)=((oD l:Nat):Int):=by
 obtain⟨n,w,e⟩:=UL.mp<|yE<|NF h;have q:oD l=n:=by unfold oD;rw[<-e];rfl
 refine⟨q▸w,λx D=>?_,by rw[q];exact e.symm⟩;have:=AZ (ns:=nI l)<|UL.mpr ⟨x,D,Z⟩;rw[<-e]at this;rw[q];exact Int.ofNat_le.mp this
theorem iG(h:l≠[]):o_ l∈l/\(∀x∈l,x<=o_ l)/\jj (nI l)=((o_ l:Nat):Int):=by
 obtain⟨n,w,e⟩:=UL.mp<|wg<|NF h;have q:o_ l=n:=by unfold o_;rw[<-e];rfl
 refine⟨q▸w,λx D=>?_,by rw[q];exact e.symm⟩;have:=yY (ns:=nI l)<|UL.mpr ⟨x,D,Z⟩;rw[<-e]at this;rw[q];exact Int.ofNat_le.mp this
theorem CA(k)(x)(h:y<=z):hE k x y<=hE k x z:=by
 unfold hE;split
 .exact Nat.mul_le_mul_left x h
 .exact Nat.add_le_add_left h x
theorem wo(h:j<m)(S)(d:∀v,v∈S↔v∈W j r/\r8 k P W m (j+1) (less r v)≠[])(n:r8 k P W m j r≠[]):
  oD (r8 k P W m j r)=oD (S.map λv=>hE k (P j v)<|oD<|r8 k P W m (j+1)<|less r v)/\o_ (r8 k P W m j r)=o_ (S.map λv=>hE k (P j v)<|o_<|r8 k P W m (j+1)<|less r v)/\S≠[]:=by
 have a:∀x,x∈r8 k P W m j r↔∃v∈S,∃y∈r8 k P W m _ (less r v),x=hE k (P j v) y:=λx=>by
  rw[Lj h,Wb];constructor
  .rintro⟨v,c,f⟩
   obtain⟨y,g,rfl⟩:=UL.mp f;exact⟨v,(d v).mpr ⟨c,List.ne_nil_of_mem g⟩,y,g,Z⟩
  .rintro⟨v,c,y,g,rfl⟩
   exact⟨v,((d v).mp c).1,UL.mpr ⟨y,g,Z⟩⟩
 obtain⟨D,E,_⟩:=iA n;obtain⟨G,o,_⟩:=iG n;obtain⟨v1,c,A,p,q⟩:=(a _).mp D;obtain⟨v2,f,B,t,u⟩:=(a _).mp G;have w:=List.ne_nil_of_mem c;have l:(S.map λv=>hE k (P j v)<|o_<|r8 k P W m (j+1)<|less r v)≠[]:=λz=>w<|X4.mp z;obtain⟨K,M,_⟩:=iA (λz=>w<|X4.mp z);obtain⟨V,s,_⟩:=iG l;refine⟨Nat.le_antisymm ?_ ?_,Nat.le_antisymm ?_ ?_,w⟩
 .obtain⟨v,b,e⟩:=UL.mp K
  rw[<-e];exact E _<|(a _).mpr ⟨v,b,_,(iA ((d v).mp b).2).1,Z⟩
 .rw[q]
  exact U1 (M _<|UL.mpr ⟨v1,c,Z⟩)<|CA k _<|(iA ((d v1).mp c).2).2.1 _ p
 .rw[u]
  exact U1 (CA k _<|(iG ((d v2).mp f).2).2.1 _ t)<|s _<|UL.mpr ⟨v2,f,Z⟩
 .obtain⟨v,b,e⟩:=UL.mp V
  rw[<-e];exact o _<|(a _).mpr ⟨v,b,_,(iG ((d v).mp b).2).1,Z⟩
variable{W:Wy}{i:D}
abbrev jS(a:Ad)(W:Wy)(i:D)(rs cs:ϊ):D:= .obj a.Ae [td,oJ,F',ya] [nL rs,nL cs,i,sw W rs cs.length]
theorem O9{b c:Ϯ}{v1 v2:ϋ}{y}(h:ϱ b=ϱ v1):lg (b++c) (v1++v2) y=(lg b v1 y).or (lg c v2 y):=by
 unfold lg;rw[List.zip_append h,List.find?_append];cases(b.zip v1).find? λp=>decide (p.1=y)<;>rfl
theorem NK{u}{k}:∀{L:Ϙ},u∈L->lg (L.map λr=>(k,nI r)) (L.map f) (k,nI u)=U (f u)
 |r::L,h=>by
  unfold lg;rw[UZ,UZ,Wv,W8];by_cases q:r=u
  .rw[q,U3 Z];rfl
  .rw[Vv λe=>q<|jC (Xy.mp e).2]
   exact NK<|(U4.mp h).resolve_left λe=>q e.symm
theorem JP{y}{k}(h:k≠y.1):∀{L:Ϙ},lg (L.map λr=>(k,nI r)) (L.map f) y=Y
 |[]=>rfl
 |r::L=>by
  unfold lg at⊢;rw[UZ,UZ,Wv,W8,Vv λe=>h (Xy.mp e).1];exact (JP (f:=f) h (L:=L))
theorem JR{m k}{u}(b:u∈en W rs k):∀{L:ϊ},k∈L->lg (L.flatMap λk=>(en W rs k).map λr=>((k:Int),nI r)) (L.flatMap λk=>(en W rs k).map<|cv W m k) ((k:Int),nI u)=U (cv W m k u)
 |j::L,h=>by
  rw[V6,V6,O9<|by rw[UD,UD]];by_cases q:j=k
  .subst q
   rw[NK b];rfl
  .rw[JP (by show(j:Int)≠(k:Int);lia),Option.none_or]
   exact JR b<|(U4.mp h).resolve_left λe=>q e.symm
theorem L1(c:k<=ϱ cs)(b:u∈en W rs k):lg (kyW W rs<|ϱ cs+1) (FX W rs (ϱ cs)) ((k:Int),nI u)=U (cv W (ϱ cs) k u):=JR b (Vg.mpr ln)
theorem cat_ok(c:k<=ϱ cs)(d:u∈en W rs k):(lX K a).1 [jS a W i rs cs,.int (k:Int),tN u] β=U (.ok<|cv W (ϱ cs) k u,β):=
 aE (ao<|aC (SI (bB Z Z) (aa (ah Z cj)<|aa (ah Z cj) Z) (dy (k:=((k:Int),nI u)) λe=>(by cases e))<|L1 c d) ⟨Z,Z⟩)
theorem Re(b:k<=ϱ cs)(c:u∈en W rs k):EC UK (.tup [.int (k:Int),tN u]) (sw W rs (ϱ cs))=U (.bl UK):=by
 show(eF O<|dK O ((k:Int),nI u)).map _=_;rw[dy λe=>(by cases e),Wx,L1 b c];rfl
theorem la.nx(h:la K a rs cs W i)(b:r∈en W rs k)(c:v∈W k r):less r v∈en W rs (k+1):=hZ.mpr ⟨r,b,v,c,Z⟩
theorem CN{r}(h:la K a rs cs W i)(b:T_ r):ϱ (W k r)<=500:=by
 have:=(h.ok k r).length_le;have:=nu r<|cs.getD k 0;have:=w6 r<|ϱ r-1;rw[<-List.dropLast_eq_take]at this;have:=b.2.2.2;lia
abbrev sT(W:Wy)(cs:ϊ)(k:Nat)(r:ϊ):Ϙ:=stW W (cs.length-(k+1)) k r
abbrev tB(W:Wy)(cs:ϊ)(k:Nat)(r v:ϊ):Nat:=l0 W (cs.length-(k+1)) (k+1)<|less r v
theorem SY{r}(h:la K a rs cs W i)(b:T_ r):ϱ (sT W cs k r)<=500:=U1 ZQ.length_le<|CN h b
theorem Ly(h:la K a rs cs W i)(d:k<ϱ cs)(b:r∈en W rs k):(mv K a).1 [jS a W i rs cs,.int (k:Int),tN r] β=U (.ok<|.lst<|(sT W cs k r).map tN,β):=by
 obtain⟨c,f,g⟩:=h.at ln b;unfold mv
 dsimp only
 refine aE ?_;refine j4 (j3 (dr<|b0 (ah Z cj) (bB Z Z)<|Re ln b)<|dr<|b0 Z (ah (aa (bB Z Z) Z)<|pJ cs) eq_int) (by simp;lia)<|aQ ?_;refine ao<|aC (gj (W k r) tN tN (λv=>decide ((0:Int)<((tB W cs k r v:Nat):Int))) (bN (aq (aa Z<|aa (bB Z Z)<|aa (bB Z Z)<|aa Z Z)<|h.fl d c f) Z) (λv e=>⟨[U<|tN v,U<|jS a W i rs cs,U<|.int (k:Int),U<|tN r],Z,?_,λ_=>Z⟩)<|bh ?_) ⟨Z,Z⟩
 .exact dr (b0 (b0 (dM Z (aa (x:= .int ((k+1:Nat):Int)) (b0 Z Z Z)<|aa (aq Z<|w4 (cq<|(h.ok k r).subset e) c.2.1) Z)<|cat_ok d<|h.nx b e) Z sd) Z Pu.gt_int)
 .have:=CN (k:=k) h c
  lia
theorem OY:(jR K a).1 [jS a W i rs cs] β=U (.ok<|nL rs,β):=aE<|ao<|aC (ah (aa (bB Z Z) Z) Z) ⟨Z,Z⟩
theorem u8:(fA K a).1 [jS a W i rs cs] β=U (.ok<|nL cs,β):=aE<|ao<|aC (ah (aa (bB Z Z) Z) Z) ⟨Z,Z⟩
theorem xF(l):xE [nL l]=U (tN l):=Z
theorem UB{l:ϊ}{c:Nat}(h:ϱ l<=100):dG (nL l) (.lst [.int (c:Int)])=U (nL<|l++[c]):=by
 refine(kz<|by rw[UD,UD,VX];lia).trans ?_;simp_all
abbrev fiS(a:Ϟ)(x:D)(c:Nat)(f:D)(b d e g h:ϥ):Ds:=[U<|.sh x,U<|.sh<|.int (c:Int),U<|.sh<|.lst<|a.map pN,U<|.sh f,b,d,e,g,h]
theorem Ta{n i}(h:((UT n).map λi=>D.int ((w+i:Nat):Int))[i]?=U d):i<n/\d= .int ((w+i:Nat):Int):=by
 obtain⟨x,a,rfl⟩:=bR h;have b:=(UY.mp a).1;simp_all
theorem fP{a}{l:List a}{i}{x}(h:l[i]?=U x):l.take (i+1)=l.take i++[x]:=by rw[List.take_add_one,h];rfl
theorem va{w:Ϟ}{x:D}{r:ϊ}{c:Nat}(G:d9 x=U ((nI r).map D.int))(J:T_ r)(A:w.length=r.length)(L:∀p∈w,p.1<=40/\p.2<=40):(mW K a).1 [x,.int (c:Int),.lst<|w.map pN] β=U (.ok<|.lst<|(vB w r c).map nL,β):=by
 obtain⟨_,T,M,N⟩:=J;have n:∀k,k<=r.length->(nN w r k).length<=500:=λk B=>U1 (BJ k B)<|U1 (w6 r k) N;unfold mW
 dsimp only
 refine aE ?_;refine aF (d:= .lst<|(nN w r 0).map nL) (β1:=β) (ah (aa (ah Z Rp) Z) rW) ?_;refine bw (ds:=(r.zip w).map λq=> .tup [.int (q.1:Int),pN q.2]) (β1:=β) ?_ (λk δ g=>β=g/\∃C F o m b,δ=fiS w x c (.lst<|(nN w r k).map nL) C F o m b) ⟨Z,Y,Y,Y,Y,Y,Z⟩ ?_ ?_
 .rw[<-iP (λx:Nat=>D.int (x:Int)) pN]
  exact oQ (x:=x) (y:= .lst<|w.map pN) Z Z (G.trans<|by rw[UR];rfl) Z
 .rintro k d δ _ hd ⟨rfl,C,F,o,m,b,rfl⟩
  obtain⟨q,I,rfl⟩:=bR hd;have B:k<r.length:=by
   have:=(UY.mp I).1;rw[XS]at this;lia
  have t:k<w.length:=by lia
  obtain rfl:q=(r[k],w[k]):=by
   have:=(UY.mp I).2;rw[List.getElem_zip]at this;exact this.symm
  have b40:=L _<|VU t;have o9:=cP<|VU B;refine⟨fiS w x c (.lst<|(nN w r k).map nL) (U<|.sh<|.int (r[k]:Int)) (U<|.sh<|pN w[k]) o m b,Z,?_⟩;refine lE (ds:=[]) (β1:=β) Z (VL _) ?_;have E:∀u:ϊ,((UT<|XF w[k].2 r[k]+1-w[k].1).map λi=>u++[w[k].1+i]).length<=41:=λu=>by rw[UD,Vi];lia
  refine bw (ds:=(nN w r k).map nL) (β1:=β) Z (λi δ g=>β=g/\∃m b,δ=fiS w x c (.lst<|(nN w r k).map nL) (U<|.sh<|.int (r[k]:Int)) (U<|.sh<|pN w[k]) (U<|.own<|(((nN w r k).take i).flatMap λu=>(UT<|XF w[k].2 r[k]+1-w[k].1).map λj=>u++[w[k].1+j]).map nL) m b) ⟨Z,m,b,Z⟩ ?_ ?_
  .rintro i d δ _ hd ⟨rfl,m,b,rfl⟩
   obtain⟨u,H,rfl⟩:=bR hd;have o7:=KE k u<|U2 H;have X:=(UY.mp H).1;have o8:=n k ln;have f5:(((nN w r k).take i).flatMap λu=>(UT<|XF w[k].2 r[k]+1-w[k].1).map λj=>u++[w[k].1+j]).length<=500*41:=U1 (fR λu _=>E u) (Xk _<|by rw[VI];lia);refine⟨_,Z,ao<|bw (ds:=(UT<|XF w[k].2 r[k]+1-w[k].1).map λj=>D.int ((w[k].1+j:Nat):Int)) (β1:=β) (bO (as:=[.int (w[k].1:Int),.int<|(XF w[k].2 r[k]:Nat)+1]) (aa (b0 Z Z sd)<|aa (b0 (x:= .int ((XF w[k].2 r[k]:Nat):Int)) (ah (aa (b0 Z Z pQ)<|aa Z Z)<|EF.trans ?_) Z Z) Z)<|(QA ln ln ln).trans ?_) (λj δ g=>β=g/\∃b,δ=fiS w x c (.lst<|(nN w r k).map nL) (U<|.sh<|.int (r[k]:Int)) (U<|.sh<|pN w[k]) (U<|.own<|(((nN w r k).take i).flatMap λu=>(UT<|XF w[k].2 r[k]+1-w[k].1).map λj=>u++[w[k].1+j]).map nL++((UT<|XF w[k].2 r[k]+1-w[k].1).take j).map λj=>nL<|u++[w[k].1+j]) (U<|.sh<|nL u) b) ⟨Z,b,by rw[List.take_zero,W5,VA];rfl⟩ ?_ ?_⟩
   .rw[show XF (w[k].2:Int) (r[k]:Int)=((XF w[k].2 r[k]:Nat):Int) by lia]
   .rw[show((XF w[k].2 r[k]:Nat)+1-(w[k].1:Int):Int).toNat=XF w[k].2 r[k]+1-w[k].1 by lia]
   .rintro j d δ _ hd ⟨rfl,b,rfl⟩
    obtain⟨Q,rfl⟩:=Ta hd;have e:(UT<|XF w[k].2 r[k]+1-w[k].1)[j]?=U j:=VN Q;refine⟨_,Z,ao<|lF (d:=nL<|u++[w[k].1+j]) Z (aa (b0 Z (ah Z rW)<|UB ln) Z) (Vo (show _<50000 by rw[Va,UD,UD,VI,Vi];lia) rb)<|b_ ⟨Z,U<|.sh<|.int ((w[k].1+j:Nat):Int),?_⟩⟩;rw[fP e,Vj];show[_,_,_,_,_,_,U<|Sl.own<|_++_++[_],_,_]=[_,_,_,_,_,_,U<|Sl.own<|_++(_++[_]),_,_];rw[V5]
   .rintro δ _ ⟨rfl,b,rfl⟩
    rw[UD,Vi];refine b_ ⟨Z,U<|.sh<|nL u,b,?_⟩;rw[fP H,Xs,Vj,V6,List.flatMap_nil,VA,UR,WL (l:=UT<|XF w[k].2 r[k]+1-w[k].1)<|by rw[Vi];exact UV _];rfl
  .rintro δ _ ⟨rfl,m,b,rfl⟩
   rw[UD,VB];refine wQ<|ao<|aF (d:= .lst<|(nN w r<|k+1).map nL) (β1:=β) ?_<|b_ ⟨Z,_,_,_,_,_,Z⟩;have R:nN w r (k+1)=(nN w r k).flatMap λu=>(UT<|XF w[k].2 r[k]+1-w[k].1).map λi=>u++[w[k].1+i]:=by
    show List.flatMap _ _=_;rw[fI B,fI t]
   rw[R];rfl
 .rintro δ _ ⟨rfl,C,F,o,m,b,rfl⟩
  rw[UD,XS,A,Nat.min_self,BK A];have h:=gj (nv:=1) (b4:=[1]) (it:=cR<|ac 3) (tg:=gt 0) (tt:=fB<|f2 (dE) (aX gT<|af (ac 0)<|az)<|ac 1) (f:=ac 0) (δ:=fy<|fiS w x c (.lst<|(R_ w r).map nL) C F o m b) (β:=β) (R_ w r) nL nL (λv=>decide (v.sum=c)) Z (λv _=>⟨[U<|nL v,U<|.int (c:Int)],Z,dr (b0 (ah Z<|iw v) Z<|eq_int.trans<|by rw[decide_eq_decide.mpr (show((v.sum:Nat):Int)=(c:Int)↔v.sum=c by lia)]),λ_=>Z⟩)<|bh (by rw[<-BK A];have:=n r.length<|UV _;lia);refine ao<|aC h ⟨Z,?_⟩;rw[K1 A]
theorem rX(i:d9 x=U ((nI r).map D.int))(h:ll v r)(b:ϱ r<=4):(kO K a).1 [x,nL v] β=U (.ok<|nL<|less r v,β):=by
 unfold kO
 refine aE<|ao<|aC ?_ ⟨Z,Z⟩;unfold nL;rw[<-yG h];refine bx _ (λp=>D.tup [.int _,.int _]) _ ?_ (λp _=>⟨[U<|.int _,U<|.int _],Z,Z⟩) (bh<|by grind);rw[<-iP (λx:Nat=>D.int _) (λx:Nat=>D.int _)];refine oQ Z Z (i.trans<|by rw[UR];rfl) ?_
 .show U _=U _
  rw[UR];rfl
theorem vx{r c k n i}(hB:D_ r c B)(m:r<=4)(o:k<c)(d:δ.getD i Y=U (j1 B))(e:k_ 1 [n] δ=[Y,U w])(j:∀x,g [U x,U w] β=U (.ok<|.int (k:Int),β)):c9 1 [n] (cR<|ac i) (gt 0) (λ_=>M.ret O) (j0<|f2 f0 (ac 0) g) δ β=U (.ok<|.lst<|(p8 B k).map pN,β):=by
 have h:=bx (tg:=gt 0) (f:=f2 f0 (ac 0) g) B (λa=>D.lst<|a.map pN) (λa=>pN<|a.getD k (0,0)) (bN (ql d) (by
  show U _=U _;simp_all)) (λa b=>⟨[U<|D.lst<|a.map pN,U w],by rw[e];rfl,b0 Z (j _)<|cQ (by
   have l:=hB.1.2 a b;simp_all)⟩) (bh<|by rw[hB.1.1];lia)
 apply h.trans;unfold p8;rw[UR];rfl
theorem eqI(i j):YA (.int i) (.int j)=decide (i=j):=by unfold YA;rfl
theorem ma [DecidableEq w]{f:w->PyData}(b:∀x y,YA (f x) (f y)=decide (x=y)):∀a i:List w,YV (a.map f) (i.map f)=decide (a=i)
 |[],[]=>by simp[YV]
 |[],y::i=>by simp[YV]
 |x::a,[]=>by simp[YV]
 |x::a,y::i=>by
  rw[UZ,UZ,YV,b,ma b a i];simp_all
theorem ny{a}{f:a->D}{g:a->PyData}(h:∀x,pj (f x)=U (g x)):∀l:List a,toPs (l.map f)=U (l.map g)
 |[]=>by simp[toPs]
 |x::l=>by
  rw[UZ,toPs,h x,ny h l];rfl
theorem wn(d:eqS x y=Y)(a:pj x=U p)(i:pj y=U q)(b:oA x=O)(c:oA y=O):dE x y=U (.bl<|YA p q):=by
 unfold dE oB;unfold oA at b c;simp_all
theorem wR{i}(k:Gw h (δ.set i<|U<|.odc b [] []) β Q):Gw (aP (Sg i b) h) δ β Q:=dh Z k
theorem sI{i}{fk c}{a}{E}(e:c (fy a) β=U (.ok d,β1))(f:fk (fy a) β1=U (.ok kd,β2))(g:a.getD i Y=U (.odc b w E))(j:eF b kd=U k)(K:noL d=O)(l:ϱ w<Ve)(m:Gw h (a.set i<|U<|.odc b (F0 w k)<|stY w E k d) β2 Q):Gw (aP (qN i fk c) h) a β Q:=
 dh (by unfold qN;simp_all) m
def Sn(W:Wy)(rs:ϊ)(k:Nat)(P:a0Z)(a:Ϯ):Prop:=a.Nodup/\(∀y∈a,∃u∈en W rs (k+1),y=(0,nI u))/\∀r v,P r v->(0,nI<|less r v)∈a
theorem Sn.mono{a}(h:Sn W rs k P a)(q:∀r v,b r v->P r v):Sn W rs k b a:=⟨h.1,h.2.1,λr v z=>h.2.2 r v<|q r v z⟩
theorem Sn.add{a}(h:Sn W rs k P a)(g:r∈en W rs k)(i:v∈W k r)(q:∀b c,d b c->P b c\/(b=r/\c=v)):Sn W rs k d (F0 a (0,nI<|less r v)):=by
 obtain⟨f,j,l⟩:=h;have E:∀y,y∈F0 a _↔y∈a\/y=(0,nI<|less r v):=λy=>by
  unfold F0;split
  .rename_i z
   exact⟨.inl,λw=>w.elim id λe=>e▸z⟩
  .simp
 refine⟨?_,λy D=>?_,λb c z=>(E _).mpr ?_⟩
 .unfold F0
  split
  .exact f
  .rename_i z
   exact List.nodup_append.mpr ⟨f,X7 _ _,λx G y D e=>z<|by rw[<-Vs.mp D,<-e];exact G⟩
 .obtain z|z:=(E y).mp D
  .exact j y z
  .exact⟨less r v,hZ.mpr ⟨r,g,v,i,Z⟩,z⟩
 .obtain z|⟨rfl,rfl⟩:=q b c z
  .exact .inl (l _ _ z)
  .exact .inr Z
theorem Sn.len(h:Sn W rs k P w)(b:la K a rs cs W i)(d:k<ϱ cs):ϱ w<=62:=by
 have:=L2.Pu.nd_len h.1 λy D=>by
  obtain⟨u,c,rfl⟩:=h.2.1 y D;exact UL.mpr ⟨u,c,Z⟩
 rw[UD]at this;exact U1 this (jD b ln)
theorem Sn.srt{w}{D:ϋ}(h:Sn W rs k P w)(b:la K a rs cs W i)(f:k<ϱ cs)(q:∀r∈en W rs k,∀v∈W k r,P r v):xO [.dct UK w D]=U (li W rs<|k+1):=by
 have:=h.len b f;show(if ϱ w<64 then ig (w.map λk=>iv _)else Y)=_;rw[US ln];refine HG (AU b.ok b.sm b.nr.1 b.wd f) λd=>⟨λz=>?_,λz=>?_⟩
 .obtain⟨y,hy,rfl⟩:=UL.mp z
  obtain⟨r,c,v,e,rfl⟩:=iZ.mp hy;exact UL.mpr ⟨_,h.2.2 r v<|q r c v e,Z⟩
 .obtain⟨y,hy,rfl⟩:=UL.mp z
  obtain⟨u,g,rfl⟩:=h.2.1 y hy;obtain⟨r,c,v,e,rfl⟩:=hZ.mp g;exact UL.mpr ⟨_,iZ.mpr ⟨r,c,v,e,Z⟩,Z⟩
abbrev ndS(rs cs:ϊ)(B:ϰ)(l:ϋ)(b c d e f:ϥ):Ds:=[U<|.sh<|nL rs,U<|.sh<|nL cs,U<|.sh<|j1 B,U<|.own l,b,c,d,e,f]
theorem JO(h:la K a rs cs (wB B cs)<|j1 B)(hB:D_ (ϱ rs) (ϱ cs) B):(pB K a).1 [nL rs,nL cs,j1 B] β=U (.ok<|.lst<|(UT<|ϱ cs+1).map<|li (wB B cs) rs,β):=by
 have s:=h.c6;have H:=h.nr.2.1;unfold pB
 dsimp only
 refine aE ?_;refine lE (ds:=[li (wB B cs) rs 0]) (β1:=β) (aa (ah (aa (ah Z Z) Z) rW) Z) (show 1<=Ve by decide) ?_;refine bw (ds:=dF 0<|(nI cs).map D.int) (β1:=β) (bO Z Z) (λk E e=>β=e/\∃q t u g b,E=ndS rs cs B ((UT<|k+1).map<|li (wB B cs) rs) q t u g b) ⟨Z,Y,Y,Y,Y,Y,Z⟩ ?_ ?_
 .rintro k d E _ hd ⟨rfl,q,t,u,g,b,rfl⟩
  obtain⟨x,S,rfl⟩:=vo hd;obtain⟨n,P,rfl⟩:=ji S;have m:=(UY.mp P).1;have I:cs.getD k 0=n:=by rw[UO,P];rfl
  obtain⟨V,J⟩:=hB.col m;refine⟨_,Z,wR ?_⟩;refine bw (ds:=(en (wB B cs) rs k).map tN) (β1:=β) ?_ (λi E e=>β=e/\∃w G g b,E=ndS rs cs B ((UT<|k+1).map<|li (wB B cs) rs) (U<|.sh<|.int (k:Int)) (U<|.sh<|.int (n:Int)) (U<|.odc UK w G) g b/\Sn (wB B cs) rs k (λr v=>r∈(en (wB B cs) rs k).take i/\v∈wB B cs k r) w) ⟨Z,[],[],g,b,Z,List.nodup_nil,(λy W=>by cases W),λr v z=>by simp at z⟩ ?_ ?_
  .show M.ofO ((f0 (.lst<|(UT<|k+1).map<|li (wB B cs) rs)<|.int (k:Int)).bind d9) β=_
   rw[cQ (d:=li (wB B cs) rs k)<|by rw[UN,VN ln];rfl];rfl
  .rintro i d E _ hd ⟨rfl,w,G,g,b,rfl,f⟩
   obtain⟨r,A,rfl⟩:=bR hd;have o:=U2 A;obtain⟨C,L,N⟩:=h.at ln o;refine⟨_,Z,ao<|bw (ds:=(wB B cs k r).map nL) (β1:=β) (bN (aq (aa Z<|aa Z<|aa (vx hB H m Z Z λ_=>Z) Z)<|va (c:=n) Z C (by rw[V,L]) J)<|by unfold wB;rw[I];rfl) (λj E e=>β=e/\∃w G b,E=ndS rs cs B ((UT<|k+1).map<|li (wB B cs) rs) (U<|.sh<|.int (k:Int)) (U<|.sh<|.int (n:Int)) (U<|.odc UK w G) (U<|.sh<|tN r) b/\Sn (wB B cs) rs k (λl v=>(l∈(en (wB B cs) rs k).take i/\v∈wB B cs k l)\/(l=r/\v∈(wB B cs k r).take j)) w) ⟨Z,w,G,b,Z,f.mono λr v z=>z.elim id λz=>by simp at z⟩ ?_ ?_⟩
   .rintro j d E _ hd ⟨rfl,w,G,b,rfl,f⟩
    obtain⟨v,F,rfl⟩:=bR hd;have p:=U2 F;have R:=f.len h m;refine⟨_,Z,ao<|sI (d:= .bl O) (kd:=dK UK (0,nI<|less r v)) (β1:=β) (β2:=β) Z (ah (aa (aq Z<|rX Z (cq<|(h.ok k r).subset p) C.2.1) Z)<|xF _) Z (dy λ_=>Z) Z (Vo (show _<100 by lia) rb)<|b_ ⟨Z,_,_,_,Z,f.add o p λl Q z=>?_⟩⟩;rcases z with z|⟨z1,z2⟩
    .exact .inl (.inl z)
    .rw[fP F]at z2
     rcases V7.mp z2 with z2|z2
     .exact .inl (.inr ⟨z1,z2⟩)
     .exact .inr ⟨z1,Vs.mp z2⟩
   .rintro E _ ⟨rfl,w,G,b,rfl,f⟩
    rw[UD,VB]at f;refine b_ ⟨Z,w,G,_,_,Z,f.mono λl v z=>?_⟩;obtain⟨z1,z2⟩:=z;rw[fP A]at z1;rcases V7.mp z1 with z1|z1
    .exact .inl ⟨z1,z2⟩
    .cases Vs.mp z1
     simp_all
  .rintro E _ ⟨rfl,w,G,g,b,rfl,f⟩
   rw[UD,VB]at f;refine wQ<|ao<|lF (cs:=(UT<|k+1).map<|li (wB B cs) rs) (d:=li (wB B cs) rs<|k+1) Z (aa (ah Z<|f.srt h m λr o v p=>⟨o,p⟩) Z) (Vo (show _<1000 by rw[UD,Vi];lia) rb)<|b_ ⟨Z,U<|.sh<|.int (k:Int),U<|.sh<|.int (n:Int),U<|.sh<|.dct UK w G,g,b,?_⟩;rw[Xp (n:=k+1),Vj];rfl
 .rintro E _ ⟨rfl,q,t,u,g,b,rfl⟩
  rw[pY,UD,UD];exact ao<|aC Z ⟨Z,Z⟩
theorem eqvN(u v:ϊ):YV (u.map λ(n:Nat)=> .int (n:Int)) (v.map λ(n:Nat)=> .int (n:Int))=decide (u=v):=ma (λx y=>(eqI _ _).trans<|decide_eq_decide.mpr ln) u v
theorem SR(u):toPs ((nI u).map D.int)=U (u.map λ(n:Nat)=> .int (n:Int)):=by
 rw[UR];exact ny (λn=>Z) u
abbrev R4:=Int×ώ×Int×Int
abbrev ϭ:=List R4
abbrev rL(p:R4):ϋ:=[.int p.1,iv p.2.1,.int p.2.2.1,.int p.2.2.2]
abbrev rD(p:R4):D:= .tup<|rL p
abbrev qk(l:ϭ):D:= .lst<|l.map rD
def hU(W:Wy)(rs:ϊ)(m:Nat):Ϩ:=(UT<|m+1).flatMap λk=>(en W rs k).map λr=>(k,r)
abbrev Z_(W:Wy)(m:Nat)(p:Nat×ϊ):R4:=((p.1:Int),nI p.2,((l0 W (m-p.1) p.1 p.2:Nat):Int),((u_ W (m-p.1) p.1 p.2:Nat):Int))
theorem Tw(m):kyW W rs (m+1)=(hU W rs m).map λp=>((p.1:Int),nI p.2):=by
 unfold hU;rw[WA];simp only[UR];rfl
theorem Tv(m):FX W rs m=(hU W rs m).map λp=>cv W m p.1 p.2:=by
 unfold hU;rw[WA];simp only[UR];rfl
theorem mX:p∈hU W rs m↔p.1<=m/\p.2∈en W rs p.1:=by
 constructor
 .intro h
  obtain⟨k,c,b⟩:=Wb.mp h;obtain⟨r,d,rfl⟩:=UL.mp b;exact⟨by have:=Vg.mp c;lia,d⟩
 .rintro⟨e,b⟩
  exact Wb.mpr ⟨p.1,Vg.mpr ln,UL.mpr ⟨p.2,b,Z⟩⟩
theorem GB{a:Type}{f:d5->D->D}{g:a->d5}{u:a->D}:∀l:List a,YO f (l.map g) (l.map u)=l.map λx=>f (g x)<|u x:=List.rec Z λx l h=>VR _<|h
theorem P3:fZ [x,y,z,v]=U (.tup [x,y,z,v]):=by
 rfl
theorem LN(i:ϱ (hU W rs cs.length)<=1000):(kN K a).1 [sw W rs (ϱ cs)] β=U (.ok<|qk<|(hU W rs (ϱ cs)).map<|Z_ W (ϱ cs),β):=by
 unfold kN
 apply aE;refine ao<|aC (bx _ (λp=> .tup [.tup [.int _,tN _],cv W (ϱ cs) p.1 p.2]) _ ?_ (λp _=>⟨[U<|.int (p.1:Int),U<|tN p.2,U<|.int _,U<|.int _],Z,ah Z P3⟩)<|bh i) ⟨Z,?_⟩
 .show U _=_
  rw[Tw,Tv,GB];rfl
 .unfold qk
  rw[UR];rfl
theorem AV(w:ϱ (hU W rs cs.length)<=1000):(jg K a).1 [jS a W i rs cs] β=U (.ok<|qk<|(hU W rs (ϱ cs)).map<|Z_ W (ϱ cs),β):=by
 unfold jg
 dsimp only
 refine aE ?_;exact ao<|aC (aq (aa (bB Z Z) Z)<|LN w) ⟨Z,Z⟩
end
section
variable{K:Vb}{a:Ad}{β:Bg}{rs s:ϊ}{W:Wy}{w:D}
open L2.Hs (Up cu kl)
abbrev kP(p:Nat×ϊ):d5:=((p.1:Int),nI p.2)
theorem pO(h:kP p=kP q):p=q:=Xu (by have:=(Xy.mp h).1;lia)<|jC (Xy.mp h).2
theorem jE{p}:∀{N:Ϩ},p∈N->lg (N.map kP) (N.map f) (kP p)=U (f p)
 |q::N,h=>by
  unfold lg;rw[UZ,UZ,Wv,W8];by_cases z:q=p
  .rw[z,U3 Z];rfl
  .rw[Vv λe=>z<|pO e]
   exact jE<|(U4.mp h).resolve_left λe=>z e.symm
def n_(W:Wy)(rs:ϊ)(m t:Nat):Ϩ:=(UT t).flatMap λi=>(en W rs<|m-i).map λr=>(m-i,r)
theorem qR{m t}{p}(f:t<=m+1):p∈n_ W rs m t↔(p.1<=m/\m<p.1+t)/\p.2∈en W rs p.1:=by
 constructor
 .intro h
  obtain⟨i,c,b⟩:=Wb.mp h;obtain⟨r,d,rfl⟩:=UL.mp b;have:=Vg.mp c;exact⟨⟨by show m-i<=m;lia,by show m<m-i+t;lia⟩,d⟩
 .rintro⟨⟨g,b⟩,e⟩
  refine Wb.mpr ⟨m-p.1,Vg.mpr ln,UL.mpr ⟨p.2,?_,?_⟩⟩
  .rw[show m-(m-p.1)=p.1 by lia];exact e
  .rw[show m-(m-p.1)=p.1 by lia]
theorem sr(m t):n_ W rs m (t+1)=n_ W rs m t++(en W rs<|m-t).map λr=>(m-t,r):=by
 unfold n_;rw[Xp,Xs,V6,List.flatMap_nil,VA]
abbrev L_(W:Wy)(m:Nat)(p:Nat×ϊ):D:=cv W m p.1 p.2
abbrev cnS(W:Wy)(rs s:ϊ)(w:D)(N:Ϩ)(c d e f g b:ϥ):Ds:=[U<|.sh<|nL rs,U<|.sh<|nL s,U<|.sh w,U<|.sh<|.lst<|(UT<|s.length+1).map<|li W rs,U<|.odc O (N.map kP)<|N.map<|L_ W s.length,c,d,e,f,g,b]
theorem IK{fk l}(n:p∉N)(o:ϱ N<=1000)(r:fk (fy<|cnS W rs s w N c f g i j b) β=U (.ok<|.tup [.int (p.1:Int),tN p.2],β))(t:l (fy<|cnS W rs s w N c f g i j b) β=U (.ok<|L_ W (ϱ s) p,β))
  (k:Gw h (cnS W rs s w (N++[p]) c f g i j b) β Q):Gw (aP (qN 4 fk l) h) (cnS W rs s w N c f g i j b) β Q:=by
 have m:kP p∉N.map kP:=λz=>by
  obtain⟨q,u,e⟩:=UL.mp z;exact n<|pO e▸u
 refine sI (kd:=dK O<|kP p) t r Z (dy λe=>(by cases e)) Z (VT (show _<=1000 by rw[UD];exact o) rb) ?_;unfold F0 stY;rw[UU m,UU m];have v:N.map kP++[kP p]=(N++[p]).map kP:=by rw[Vj];rfl
 have y:N.map (L_ W (ϱ s))++[L_ W (ϱ s) p]=(N++[p]).map (L_ W (ϱ s)):=by rw[Vj];rfl
 rw[v,y];exact k
theorem CF(h:t<=m)(b:(en W rs<|m-t)[i]?=U r):(m-t,r)∉n_ W rs m t++((en W rs<|m-t).take i).map λr=>(m-t,r):=λz=>by
 obtain z|z:=V7.mp z
 .have:=((qR ln).mp z).1.2
  simp_all
 .obtain⟨q,c,e⟩:=UL.mp z
  cases(Xy.mp e).2;obtain⟨j,k,d⟩:=List.mem_take_iff_getElem.mp c;obtain⟨f,g⟩:=UY.mp b;have:=(List.getElem_inj<|mY<|m-t).mp<|d.trans g.symm;lia
theorem TC(k):Up ((en W rs k).map nI):=by
 cases k with
 |zero=>exact X7 _ _
 |succ k=>rw[show en W rs (k+1)=nwL W (en W rs k) k from Z,xa];exact mG _
theorem ND(m):Up ((hU W rs m).map λp=>kl O<|kP p):=by
 unfold hU;rw[WA];refine List.pairwise_flatMap.mpr ⟨λk _=>?_,?_⟩
 .rw[UR]
  refine Xo.mpr<|(Xo.mp<|TC k).imp λ{x y} h=>?_;show cu ((k:Int)::nI x) ((k:Int)::nI y)=O;unfold cu;simp_all
 .refine List.pairwise_lt_range.imp λ{i j} b x a y s=>?_
  obtain⟨_,c,rfl⟩:=UL.mp a;obtain⟨u,_,rfl⟩:=UL.mp c;obtain⟨_,d,rfl⟩:=UL.mp s;obtain⟨v,_,rfl⟩:=UL.mp d;show cu ((i:Int)::nI u) ((j:Int)::nI v)=O;unfold cu;rw[UU ln];simp_all
theorem Pd(h:la K a rs s (wB B s)<|j1 B)(hB:D_ rs.length s.length B)(P:(n_ (wB B s) rs s.length<|s.length+1).length<64):(mr K a).1 [nL rs,nL s,j1 B] β=U (.ok<|qk<|(hU (wB B s) rs s.length).map<|Z_ (wB B s) s.length,β):=by
 have c6:=h.c6;have S:=h.nr.2.1;have X:∀t,t<=s.length->∀i,(n_ (wB B s) rs s.length t++((en (wB B s) rs<|s.length-t).take i).map λr=>(s.length-t,r)).length<=1000:=λt o8 i=>by
  have l1:(n_ (wB B s) rs s.length t).length<=62*t:=by
   unfold n_;refine U1 (fR (n:=62) λk o=>?_) (by rw[Vi,XA];exact UV _);rw[UD];exact jD h ln
  have l2:=jD h (k:=s.length-t) ln;rw[Va,UD,VI];lia
 unfold mr
 dsimp only
 refine aE ?_;refine aF (aq Z<|JO h hB)<|wR ?_;have I:∀k,k<=s.length->f0 (.lst<|(UT<|s.length+1).map<|li (wB B s) rs) (.int (k:Int))=U (li (wB B s) rs k):=λk o=>cQ (by rw[UN,VN ln];rfl);have J:f0 (.lst<|(UT<|s.length+1).map<|li (wB B s) rs) (.int<|-1)=U (li (wB B s) rs s.length):=by
  show l6 _ _=_;unfold l6 ko;rw[UD,Vi,UU rb,US ln,show((-1:Int)+((s.length+1:Nat):Int)).toNat=s.length by lia,WJ,UN,VN ln];rfl
 refine bw (ds:=(en (wB B s) rs<|s.length-0).map tN) (β1:=β) (bN (b0 Z Z J) Z) (λi w c=>β=c/\∃g,w=cnS (wB B s) rs s (j1 B) (n_ (wB B s) rs s.length 0++((en (wB B s) rs<|s.length-0).take i).map λr=>(s.length-0,r)) g Y Y Y Y Y) ⟨Z,Y,Z⟩ ?_ ?_
 .rintro i d w _ hd ⟨rfl,g,rfl⟩
  obtain⟨r,A,rfl⟩:=bR hd;refine⟨_,Z,ao<|IK (p:=(s.length-0,r)) (CF (VL _) A) (X 0 (VL _) i) (ah (aa (ah Z<|pJ s)<|aa Z Z) cj) (ah Z<|cj.trans ?_)<|b_ ⟨Z,U<|.sh<|tN r,?_⟩⟩
  .show U (D.tup [.int 1,.int 1])=U (cv (wB B s) s.length s.length r)
   unfold cv;rw[Yk];rfl
  .rw[fP A,Vj,V5];rfl
 rintro w _ ⟨rfl,g,rfl⟩;rw[UD,VB,<-sr];refine bw (ds:=eJ s.length) (β1:=β) (bO (as:=[.int<|(s.length:Int)-1,.int<|-1,.int<|-1]) (aa (b0 (ah Z<|pJ s) Z Z) Z) ?_) (λt w c=>β=c/\∃g L q u l b,w=cnS (wB B s) rs s (j1 B) (n_ (wB B s) rs s.length<|t+1) g L q u l b) ⟨Z,g,Y,Y,Y,Y,Y,Z⟩ ?_ ?_
 .show(if(decide (-1<=(s.length:Int)-1)&&decide ((s.length:Int)-1<2^62))=O then U (eJ ((s.length:Int)-1+1).toNat)else Y)=_
  rw[US (by simp;lia),show((s.length:Int)-1+1).toNat=s.length by lia]
 .rintro t d w _ hd ⟨rfl,g,L,q,u,l,b,rfl⟩
  have o8:t<s.length:=by
   have:=(UY.mp hd).1;simpa[eJ]using this
  obtain rfl:d= .int ((s.length-(t+1):Nat):Int):=by
   unfold eJ at hd;rw[UN,VN o8]at hd;cases hd;exact VR D.int ln
  have o:s.length-(t+1)<s.length:=by lia
  obtain⟨V,W⟩:=hB.col o;refine⟨_,Z,ao<|bw (ds:=(en (wB B s) rs<|s.length-(t+1)).map tN) (β1:=β) (bN (b0 Z Z<|I _ ln) Z) (λi w c=>β=c/\∃g q u l b,w=cnS (wB B s) rs s (j1 B) (n_ (wB B s) rs s.length (t+1)++((en (wB B s) rs<|s.length-(t+1)).take i).map λr=>(s.length-(t+1),r)) g (U<|.sh<|.int ((s.length-(t+1):Nat):Int)) q u l b) ⟨Z,g,q,u,l,b,by rw[List.take_zero,W5,VA];rfl⟩ ?_ ?_⟩
  .rintro i d w _ hd ⟨rfl,g,q,u,l,b,rfl⟩
   obtain⟨r,A,rfl⟩:=bR hd;have o9:=U2 A;have f5:=CF (m:=s.length) (t:=t+1) ln A;have G:=X (t+1) ln i;have inN:∀v∈wB B s (s.length-(t+1)) r,(s.length-(t+1)+1,less r v)∈n_ (wB B s) rs s.length (t+1)++((en (wB B s) rs<|s.length-(t+1)).take i).map λr=>(s.length-(t+1),r):=λv C=>V7.mpr<|.inl<|(qR ln).mpr ⟨⟨by show _+1<=_;lia,by show _<_+1+(t+1);lia⟩,hZ.mpr ⟨r,o9,v,C,Z⟩⟩;have e9:n_ (wB B s) rs s.length (t+1)++((en (wB B s) rs<|s.length-(t+1)).take<|i+1).map (λr=>(s.length-(t+1),r))=(n_ (wB B s) rs s.length (t+1)++((en (wB B s) rs<|s.length-(t+1)).take i).map (λr=>(s.length-(t+1),r)))++[(s.length-(t+1),r)]:=by
    rw[fP A,Vj,V5];rfl
   rw[e9];generalize n_ (wB B s) rs s.length (t+1)++((en (wB B s) rs<|s.length-(t+1)).take i).map (λr=>(s.length-(t+1),r))=N at f5 G inN;obtain⟨Q,n2,n3⟩:=h.at (Yj o) o9;have et:l0 (wB B s) (s.length-(s.length-(t+1))) (s.length-(t+1)) r=L2.Nt.sm (wB B s (s.length-(t+1)) r) λv=>l0 (wB B s) (s.length-(s.length-(t+1)+1)) (s.length-(t+1)+1) (less r v):=by rw[show s.length-(s.length-(t+1))=s.length-(s.length-(t+1)+1)+1 by lia];rfl
   have ed:u_ (wB B s) (s.length-(s.length-(t+1))) (s.length-(t+1)) r=L2.Nt.sm (wB B s (s.length-(t+1)) r) λv=>mu v*u_ (wB B s) (s.length-(s.length-(t+1)+1)) (s.length-(t+1)+1) (less r v):=by rw[show s.length-(s.length-(t+1))=s.length-(s.length-(t+1)+1)+1 by lia];rfl
   generalize s.length-(t+1)=k at*;refine⟨_,Z,aF (d:= .int 0) (β1:=β) Z<|aF (d:= .int 0) (β1:=β) Z ?_⟩;refine bw (ds:=(wB B s k r).map nL) (β1:=β) (bN (aq (aa Z<|aa (x:= .int ((s.getD k 0:Nat):Int)) (b0 Z Z<|cQ<|by rw[UN,UN,fI o,UJ o];rfl)<|aa (vx hB S o Z Z λ_=>Z) Z)<|va Z Q (by rw[V,n2]) W) Z) (λj w c=>β=c/\∃l b,w=cnS (wB B s) rs s (j1 B) N (U<|.sh<|tN r) (U<|.sh<|.int (k:Int)) (U<|.sh<|.int ((L2.Nt.sm ((wB B s k r).take j) λv=>l0 (wB B s) (s.length-(k+1)) (k+1) (less r v):Nat):Int)) (U<|.sh<|.int ((L2.Nt.sm ((wB B s k r).take j) λv=>mu v*u_ (wB B s) (s.length-(k+1)) (k+1) (less r v):Nat):Int)) l b) ⟨Z,l,b,Z⟩ ?_ ?_
   .rintro j d w _ hd ⟨rfl,l,b,rfl⟩
    obtain⟨v,C,rfl⟩:=bR hd;have E:=U2 C;have y:=(h.ok k r).subset E;have M:=hZ.mpr ⟨r,o9,v,E,Z⟩;have R:=(gL h.ok h.sm (k+1) o _ M).2;have F:v.sum<=40:=U1 (cq y).sum n3;have T:=(h.at o M).2.2;have v4:v.length<=4:=by rw[(cq y).len];exact Q.2.1
    have dx:su (.dct O (N.map kP)<|N.map<|L_ (wB B s) s.length) (.tup [.int ((k+1:Nat):Int),tN<|less r v])=U (cv (wB B s) s.length (k+1)<|less r v):=by
     show(eF O<|dK O (((k+1:Nat):Int),nI<|less r v)).bind _=_;rw[dy λe=>(by cases e)];exact jE (f:=L_ (wB B s) s.length)<|inN v E
    refine⟨_,Z,GK (d:=cv (wB B s) s.length (k+1)<|less r v) (β1:=β) (b0 Z (ah (aa (b0 Z Z Z)<|aa (ah (aa (aq Z<|rX Z (cq y) Q.2.1) Z)<|xF _) Z) cj) dx) ?_⟩;refine aF (d:= .int ((L2.Nt.sm ((wB B s k r).take<|j+1) λv=>l0 (wB B s) (s.length-(k+1)) (k+1) (less r v):Nat):Int)) (β1:=β) (b0 Z (b0 Z Z sd)<|by rw[wT _ C];rfl) ?_;exact ao<|aF (d:= .int ((L2.Nt.sm ((wB B s k r).take<|j+1) λv=>mu v*u_ (wB B s) (s.length-(k+1)) (k+1) (less r v):Nat):Int)) (β1:=β) (b0 Z (b0 (b0 Z Z pQ) (aq Z<|yC F v4)<|eE (cg (U1 (zg h.ok _ _ _ ln)<|by rw[zf _ _ R];exact NI T) rb)<|cg (my F) rb)<|by rw[wT _ C,xB,XA];rfl)<|b_ ⟨Z,_,_,Z⟩
   .rintro w _ ⟨rfl,l,b,rfl⟩
    rw[UD,VB,<-et,<-ed];exact ao<|IK (p:=(k,r)) f5 G (ah Z cj) (ah Z cj)<|b_ ⟨Z,_,_,_,_,_,Z⟩
  .rintro w _ ⟨rfl,g,q,u,l,b,rfl⟩
   rw[UD,VB,<-sr];exact b_ ⟨Z,_,_,_,_,_,_,Z⟩
 .rintro w _ ⟨rfl,g,L,q,u,l,b,rfl⟩
  rw[show(eJ s.length).length=s.length by simp[eJ]];have o7:∀p,p∈hU (wB B s) rs s.length↔p∈n_ (wB B s) rs s.length (s.length+1):=λp=>by
   rw[mX,qR<|UV _];exact⟨λz=>⟨⟨z.1,ln⟩,z.2⟩,λz=>⟨z.1.1,z.2⟩⟩
  have sp:SrP ((hU (wB B s) rs s.length).map kP) ((n_ (wB B s) rs s.length<|s.length+1).map kP):=⟨by rw[UR];exact ND _,by rw[UD];exact P,λk=>⟨λz=>by
   obtain⟨p,H,rfl⟩:=UL.mp z;exact UL.mpr ⟨p,(o7 p).mp H,Z⟩,λz=>by
   obtain⟨p,H,rfl⟩:=UL.mp z;exact UL.mpr ⟨p,(o7 p).mpr H,Z⟩⟩⟩
  have l9:(hU (wB B s) rs s.length).length<=1000:=U1 (fR (n:=62) λk o=>by
   have:=Vg.mp o;rw[UD];exact jD h ln) (by rw[Vi];lia)
  refine ao<|aC (d:= .lst<|(hU (wB B s) rs s.length).map λp=>rD<|Z_ (wB B s) s.length p) (β1:=β) (bx (hU (wB B s) rs s.length) (λp=>dK O<|kP p) _ (bN (ah Z<|xN sp)<|by rw[UR];rfl) (λp H=>⟨[U<|dK O<|kP p,U<|.dct O ((n_ (wB B s) rs s.length<|s.length+1).map kP)<|(n_ (wB B s) rs s.length<|s.length+1).map<|L_ (wB B s) s.length],Z,b0 Z (b0 (z:=L_ (wB B s) s.length p) Z Z ?_) ?_⟩)<|bh l9) ⟨Z,by show VP (D.lst _)=VP (D.lst _);rw[UR];rfl⟩
  .show(eF O<|dK O<|kP p).bind _=_
   rw[dy λe=>(by cases e)];exact jE (f:=L_ (wB B s) s.length)<|(o7 p).mp H
  .show dG (.tup [.int (p.1:Int),tN p.2]) (.tup [.int ((l0 (wB B s) (s.length-p.1) p.1 p.2:Nat):Int),.int ((u_ (wB B s) (s.length-p.1) p.1 p.2:Nat):Int)])=_
   rfl
end
section
variable{K:Vb}{a:Ad}{β:Bg}{rs cs:ϊ}{W:Wy}{s:D}{kd:Kd}{p q:Nat}
abbrev pP(kd:Kd)(rs cs:ϊ)(p q:Nat):Nat->ϊ->Nat:=jn kd rs cs p q
abbrev vE(kd:Kd)(W:Wy)(rs cs:ϊ)(p q j:Nat)(r:ϊ):ϊ:=r8 kd (pP kd rs cs p q) W cs.length j r
abbrev eV(kd:Kd)(W:Wy)(rs cs:ϊ)(p q:Nat)(x:Nat×ϊ):D:= .tup [.int ((oD (vE kd W rs cs p q x.1 x.2):Nat):Int),.int ((o_ (vE kd W rs cs p q x.1 x.2):Nat):Int)]
theorem u5(b:∀j v,pP kd rs cs p q j v=f v):∀(a:Ϙ) (j:Nat),pts (pP kd rs cs p q) j a=a.map f
 |[],_=>rfl
 |v::a,j=>by
  show pP kd rs cs p q j v::pts _ _ a=_;rw[b,u5 b a<|j+1];rfl
theorem sJ(h:la K a rs cs W s)(d:j<=ϱ cs)(e:r∈en W rs j)(g:kd.isP=O)(E:y∈vE kd W rs cs p q j r):y<2^1000:=by
 obtain⟨w,c,rfl⟩:=UL.mp E;obtain⟨k,n⟩:=yk c;have G:=h.c6;obtain⟨o,t,l⟩:=h.at d e;have D:=(gL h.ok h.sm j d _ e).2;obtain⟨m,_,_⟩:=uI h.ok k (by grind) D;have tot:(w.map WC).sum<=40:=by rw[m,<-D];exact l
 have b:=λv c=>U1 (cP<|UL.mpr ⟨v,c,Z⟩) tot;unfold vr;rw[US g];cases kd with
 |rare=>
  rw[u5 (λ_ _=>Z)];have:=Ob (i:=ϱ w) b (by grind);rw[VB]at this;exact cg this rb
 |power=>
  rw[u5 (λ_ _=>Z)];exact cg (QJ b) ln
 |_=>cases g
abbrev neS(kd:Kd)(a:Ad)(W:Wy)(s:D)(rs cs:ϊ)(p q j:Nat)(r:ϊ)(F:D)(l g:ϊ)(c d e b:ϥ):Ds:=[U<|.sh<|jS a W s rs cs,U<|.sh<|mD a kd rs cs p q,U<|.sh<|.int (j:Int),U<|.sh<|tN r,U<|.sh F,U<|.own<|(nI l).map D.int,U<|.own<|(nI g).map D.int,c,d,e,b]
theorem Rj(S:Ϙ)(f:ϊ->Nat)(h:S[i]?=U v):(nI<|(S.take<|i+1).map f).map D.int=(nI<|(S.take i).map f).map D.int++[.int ((f v:Nat):Int)]:=by
 rw[fP h,Vj];simp only[Vj];rfl
theorem Mb(h:la K a rs cs W s)(C:KX (ϱ rs) (ϱ cs) rs cs)(S:p<ϱ rs){j}{r}(V:j<=ϱ cs)(H:r∈en W rs j)(F:vE kd W rs cs p q j r≠[]){N:Ϩ}(hN:j<ϱ cs->∀u,u∈en W rs (j+1)->vE kd W rs cs p q (j+1) u≠[]->(j+1,u)∈N):
  (mo K a).1 [jS a W s rs cs,mD a kd rs cs p q,.int (j:Int),tN r,.dct O (N.map kP)<|N.map<|eV kd W rs cs p q] β=U (.ok<|eV kd W rs cs p q (j,r),β):=by
 have c6:=h.c6;have c:fF [nL cs]=U _:=dn (by rw[UD,UD]);obtain⟨t,n2,n3⟩:=h.at V H;unfold mo
 apply aE;by_cases e:j=ϱ cs
 .subst e
  have e0:CY kd (λ_=>0) 0=vr kd []:=by cases kd<;>rfl
  have I:vE kd W rs cs p q _ r=[vr kd []]:=xC ..;rw[I]at F;have w:oD (vE kd W rs cs p q (ϱ cs) r)=vr kd []:=by
   rw[I];exact Vs.mp (iA F).1
  have g:o_ (vE kd W rs cs p q (ϱ cs) r)=vr kd []:=by
   rw[I];exact Vs.mp (iG F).1
  have E:=MZ (K:=K) (a:=a) (β:=β) (xs:=rs) (ys:=cs) (p:=p) (q:=q) kd;rw[e0]at E;refine d7 (dr<|b0 Z (ah (aa (dM Z Z u8) Z) c)<|eq_int.trans<|by rw[U3 Z])<|aC (ah (aa (dM Z Z E)<|aa (dM Z Z E) Z) cj) ⟨Z,?_⟩;simp_all
 .have b:j<ϱ cs:=by lia
  refine bn (dr<|b0 Z (ah (aa (dM Z Z u8) Z) c)<|eq_int.trans<|by rw[Vv ln])<|aQ<|lE Z (VL _)<|lE Z (VL _) ?_;have X:∀v,v∈sT W cs j r↔v∈W j r/\vE kd W rs cs p q (j+1) (less r v)≠[]:=λv=>by
   rw[GL];show v∈List.filter _ _↔_;simp_all
  obtain⟨w,g,ne⟩:=wo b _ X F;have sl:=SY h t (k:=j);refine bw (bN (dM Z Z<|Ly h b H) Z) (λi G J=>β=J/\∃L o7 Q m,G=neS kd a W s rs cs p q j r _ (((sT W cs j r).take i).map λv=>hE kd (pP kd rs cs p q j v)<|oD<|vE kd W rs cs p q (j+1)<|less r v) (((sT W cs j r).take i).map λv=>hE kd (pP kd rs cs p q j v)<|o_<|vE kd W rs cs p q (j+1)<|less r v) L o7 Q m) ⟨Z,Y,Y,Y,Y,Z⟩ ?_ ?_
  .rintro i d G _ hd ⟨rfl,L,o7,Q,m,rfl⟩
   obtain⟨v,g,rfl⟩:=bR hd;obtain⟨f5,R⟩:=(X v).mp<|U2 g;have o:=(h.ok j r).subset f5;have T:=h.nx H f5;have y:=U1 (cq o).sum n3;have vl:ϱ v=ϱ rs:=by rw[(cq o).len];exact n2
   have dx:su (.dct O (N.map kP)<|N.map<|eV kd W rs cs p q) (.tup [.int ((j+1:Nat):Int),tN<|less r v])=U (eV kd W rs cs p q (j+1,less r v)):=by
    show(eF O<|dK O (((j+1:Nat):Int),nI<|less r v)).bind _=_;rw[dy λe=>(by cases e)];exact jE<|hN b _ T R
   have n:kd.isP=O->pP kd rs cs p q j v<2^1000:=λA=>by
    cases kd with
    |rare=>exact cg (my y) rb
    |power=>
     have:=tR (i:=ϱ v) y;rw[VB]at this;exact cg this ln
    |_=>cases A
   have t2:=qY (K:=K) (a:=a) (β:=β) (xs:=rs) (ys:=cs) (p:=p) (q:=q) kd λA=>⟨n A,sJ h b T A (iG R).1⟩;have M:∀f:ϊ->Nat,ϱ ((nI<|((sT W cs j r).take i).map f).map D.int)<Ve:=λf=>VT (show _<=500 by simp only[UD,VI];lia) rb;refine⟨_,Z,CP (b0 Z (ah (aa (b0 Z Z Z)<|aa (aq Z<|w4 (cq o) t.2.1) Z) cj) dx) Z ?_⟩;refine aF (dM Z Z<|OP C (.inr Z) b y vl S kd) ?_;refine lF Z (aa (dM Z Z (qY (K:=K) (a:=a) (β:=β) (xs:=rs) (ys:=cs) (p:=p) (q:=q) kd λA=>⟨n A,sJ h b T A (iA R).1⟩)) Z) (M _) ?_;refine ao<|lF Z (aa (dM Z Z t2) Z) (M _)<|b_ ⟨Z,U<|.sh<|tN v,U<|.sh<|.int ((oD (vE kd W rs cs p q (j+1)<|less r v):Nat):Int),U<|.sh<|.int ((o_ (vE kd W rs cs p q (j+1)<|less r v):Nat):Int),U<|.sh<|.int ((pP kd rs cs p q j v:Nat):Int),?_⟩;unfold neS;rw[Rj _ _ g,Rj _ _ g];rfl
  .rintro G _ ⟨rfl,L,o7,Q,m,rfl⟩
   rw[UD,VB];have m1:∀{l:ϊ},l≠[]->xf [.lst<|(nI l).map _]=U (.int ((oD l:Nat):Int)):=λ{l} B=>by
    show tZ _=_;rw[iE,<-(iA B).2.2];cases l with
    |nil=>exact Vl Z B
    |cons x l=>rfl
   have m2:∀{l:ϊ},l≠[]->qB [.lst<|(nI l).map D.int]=U (.int ((o_ l:Nat):Int)):=λ{l} B=>by
    unfold qB;simp only[iE];rw[<-(iG B).2.2];cases l with
    |nil=>exact Vl Z B
    |cons x l=>rfl
   have P:∀f:ϊ->Nat,(sT W cs j r).map f≠[]:=λf z=>ne<|X4.mp z;refine ao<|aC (ah (aa (ah Z<|m1<|P _)<|aa (ah Z<|m2<|P _) Z) cj) ⟨Z,?_⟩;simp_all
theorem JE(l):iu (nL l) (nL l)=U (.bl UK):=by
 have t:pj (nL l)=U (.list<|l.map λ(n:Nat)=> .int (n:Int)):=by
  show(toPs _).map _=_;rw[SR];rfl
 have c:oA (nL l)=O:=zr 1 (λx a=>by
  obtain⟨i,_,rfl⟩:=UL.mp a;trivial) rb
 refine(yv<|wn Z t t c c).trans ?_;rw[YA,eqvN,U3 Z];rfl
theorem K7{f1 f2:ϋ->M D}{s}(w:m∉mNs)(E:s.getD 1 Y=U (mD a kd rs cs p q))(c:a.Af=a.Ae->f1 [mD a kd rs cs p q] β=U (.ok x,β))(d:f2 [mD a kd rs cs p q] β=U (.ok x,β)):FO (jl a.Ae m f1 (ac 1) az []) (jl a.Af m f2 (ac 1) az []) s β=U (.ok x,β):=by
 have b:ac 1 s β=U _:=ql E;unfold FO;by_cases h:a.Af=a.Ae
 .have e:jl a.Ae m f1 (ac 1) az [] s β=U (.ok x,β):=by
   rw[<-h];exact dM b Z (c h) w
  rw[e]
 .have e:jl a.Ae m f1 (ac 1) az [] s β=Y:=by
   unfold jl;rw[M.bind_ok b];simp only[h];rfl
  rw[e];exact dM b Z d w
theorem NY(h:a.Af=a.Ae)(e:(mNs.zip<|mFs kd rs cs p q).lookup f=U x):ow a.Ae f (mD a kd rs cs p q)=U x:=by
 show(if a.Af=a.Ae then _ else Y)=_;rw[US h];exact e
theorem Oz:(gC K a).1 [jS a W s rs cs,mD a kd rs cs p q] β=U (.ok .non,β):=by
 unfold gC
 apply aE;refine ao<|bn (j3 (dr<|b0 (dM Z Z OY) (K7 rb Z (λh=>?_) ?_)<|JE rs)<|dr<|b0 (dM Z Z u8) (K7 rb Z (λh=>?_) ?_)<|JE cs)<|aQ<|b_ ⟨Z,Z⟩
 .exact aE (ao<|aC (ah (aa (x_1 Z<|NY h Z) Z) Z) ⟨Z,Z⟩)
 .exact aE (ao<|aC (ah (aa (bB Z Z) Z) Z) ⟨Z,Z⟩)
 .exact aE (ao<|aC (ah (aa (x_1 Z<|NY h Z) Z) Z) ⟨Z,Z⟩)
 .exact aE (ao<|aC (ah (aa (bB Z Z) Z) Z) ⟨Z,Z⟩)
theorem ED(m):(hU W rs m).Pairwise λx y=>x.1<=y.1/\x≠y:=by
 unfold hU;refine List.pairwise_flatMap.mpr ⟨λk _=>Xo.mpr<|(mY k).imp λh=>⟨UV k,λe=>h (Xy.mp e).2⟩,List.pairwise_lt_range.imp λ{i j} b x a y p=>?_⟩;obtain⟨_,_,rfl⟩:=UL.mp a;obtain⟨_,_,rfl⟩:=UL.mp p;exact⟨Yj b,λe=>VJ b (Xy.mp e).1⟩
theorem K3{l:Ϩ}(b:l.Pairwise λx y=>x.1<=y.1/\x≠y){i k:Nat}(a:l.reverse[i]?=U x)(p:l.reverse[k]?=U y)(h:i<k):y.1<=x.1/\y≠x:=by
 obtain⟨c,rfl⟩:=UY.mp a;obtain⟨d,rfl⟩:=UY.mp p;exact Xb.mp (List.pairwise_reverse.mpr b) _ _ c d h
theorem N2{l:Ϩ}(c:l.Pairwise λx y=>x.1<=y.1/\x≠y)(a:l.reverse[i]?=U x)(p:y∈l)(h:x.1<y.1):y∈l.reverse.take i:=by
 obtain⟨k,b⟩:=List.getElem?_of_mem<|X6.mpr p;have:k<i:=by
  obtain z|z|z:=X2 k i
  .exact z
  .subst z
   simp_all
  .have:=(K3 c a b z).1
   lia
 exact U2 (by rw[List.getElem?_take,US this];exact b)
theorem K4{l:Ϩ}(c:l.Pairwise λx y=>x.1<=y.1/\x≠y)(a:l.reverse[i]?=U x):x∉l.reverse.take i:=λz=>by
 obtain⟨k,b⟩:=List.getElem?_of_mem z;rw[List.getElem?_take]at b;split at b
 .rename_i h
  exact(K3 c b a h).2 Z
 .cases b
abbrev pos(W:Wy)(m:Nat)(x:Nat×ϊ):Bool:=decide (0<l0 W (m-x.1) x.1 x.2)
abbrev evN(W:Wy)(rs cs:ϊ):Ϩ:=(hU W rs cs.length).reverse.filter<|pos W cs.length
abbrev ebS(kd:Kd)(a:Ad)(W:Wy)(s:D)(rs cs:ϊ)(p q:Nat)(N:Ϩ)(b c d e:ϥ):Ds:=[U<|.sh<|jS a W s rs cs,U<|.sh<|mD a kd rs cs p q,U<|.odc O (N.map kP)<|N.map<|eV kd W rs cs p q,b,c,d,e]
theorem w8:pos W (ϱ cs) x=O↔vE kd W rs cs p q x.1 x.2≠[]:=by
 rw[GL];simp_all
theorem Su(h:la K a rs cs W s)(C:KX (ϱ rs) (ϱ cs) rs cs)(B:p<ϱ rs)(G:ϱ (hU W rs cs.length)<=1000):(iW K a).1 [jS a W s rs cs,mD a kd rs cs p q] β=U (.ok<|.dct O ((evN W rs cs).map kP)<|(evN W rs cs).map<|eV kd W rs cs p q,β):=by
 unfold iW
 dsimp only
 refine aE ?_;refine ic (aq Z Oz)<|wR ?_;refine bw (ds:=(hU W rs (ϱ cs)).reverse.map λx=>rD<|Z_ W (ϱ cs) x) (β1:=β) (bN (b0 (dM Z Z<|AV G) Z Z) ?_) (λi w g=>β=g/\∃k l m n,w=ebS kd a W s rs cs p q (((hU W rs (ϱ cs)).reverse.take i).filter<|pos W (ϱ cs)) k l m n) ⟨Z,Y,Y,Y,Y,Z⟩ ?_ ?_
 .show U _=U _
  simp
 .rintro i d w _ hd ⟨rfl,k,l,m,n,rfl⟩
  obtain⟨⟨j,r⟩,c,rfl⟩:=bR hd;have D:=mX.mp<|X6.mp<|U2 c;refine⟨_,Z,ao ?_⟩;have o:=fP c;have E:=K4 (ED _) c;have v:=λy=>N2 (ED _) (y:=y) c;generalize (hU W rs (ϱ cs)).reverse.take i=T at o E v;have f:B_ (.int ((l0 W (ϱ cs-j) j r:Nat):Int)) (.int 0)=U (.bl<|pos W (ϱ cs) (j,r)):=Pu.gt_int.trans (by congr 2;simp_all);rw[o,List.filter_append];by_cases b:pos W (ϱ cs) (j,r)=O
  .rw[List.filter_cons_of_pos b]
   rw[b]at f;have F:(j,r)∉T.filter (pos W (ϱ cs)):=λz=>E (Wg.mp z).1;have A:kP (j,r)∉(T.filter<|pos W (ϱ cs)).map kP:=λz=>by
    obtain⟨y,M,e⟩:=UL.mp z;exact F<|pO e▸M
   have H:ϱ (T.filter<|pos W cs.length)<=1000:=by
    refine U1 (Xc _ _) ?_;have:=VR ZJ o;rw[VI,Va,YU]at this;lia
   have I:∀u,j<ϱ cs->u∈en W rs (j+1)->vE kd W rs cs p q (j+1) u≠[]->(j+1,u)∈T.filter (pos W (ϱ cs)):=λu t J b=>Wg.mpr ⟨v _ (mX.mpr ⟨t,J⟩)<|Yb j,w8.mpr b⟩;refine d7 (β1:=β) (dr<|b0 Z Z f)<|sI (d:=eV kd W rs cs p q (j,r)) (kd:=dK O<|kP (j,r)) (β1:=β) (β2:=β) (aq Z<|Mb h C B D.1 D.2 (w8.mp b) λt u=>I u t) (ah Z cj) Z (dy λe=>(by cases e)) Z (VT (show _<=1000 by rw[UD];exact H) rb)<|b_ ⟨Z,U<|.sh<|.int (j:Int),U<|.sh<|tN r,U<|.sh<|.int ((l0 W (ϱ cs-j) j r:Nat):Int),U<|.sh<|.int ((u_ W (ϱ cs-j) j r:Nat):Int),?_⟩;unfold F0 stY ebS;rw[UU A,UU A,Vj,Vj];rfl
  .rw[List.filter_cons_of_neg b,List.filter_nil,VA]
   rw[Bool.not_eq_true]at b;rw[b]at f;exact bn (β1:=β) (dr<|b0 Z Z f)<|aQ<|b_ ⟨Z,U<|.sh<|.int (j:Int),U<|.sh<|tN r,U<|.sh<|.int ((l0 W (ϱ cs-j) j r:Nat):Int),U<|.sh<|.int ((u_ W (ϱ cs-j) j r:Nat):Int),Z⟩
 .rintro w _ ⟨rfl,k,l,m,n,rfl⟩
  rw[UD,VB];exact ao<|aC Z ⟨Z,Z⟩
abbrev L3(kd:Kd)(W:Wy)(rs cs:ϊ)(p q:Nat)(x:Nat×ϊ):R4:=((x.1:Int),nI x.2,((oD (vE kd W rs cs p q x.1 x.2):Nat):Int),((o_ (vE kd W rs cs p q x.1 x.2):Nat):Int))
theorem Pw(h:la K a rs cs W s)(C:KX (ϱ rs) (ϱ cs) rs cs)(c:p<ϱ rs)(w:ϱ (hU W rs cs.length)<=1000):(tP K a).1 [jS a W s rs cs,mD a kd rs cs p q] β=U (.ok<|qk<|((hU W rs (ϱ cs)).filter<|pos W (ϱ cs)).map<|L3 kd W rs cs p q,β):=by
 unfold tP
 refine aE<|aF (aq Z<|Su h C c w)<|ao<|aC (gj _ (λx=>rD<|Z_ W (ϱ cs) x) (λx=>rD<|L3 kd W rs cs p q x) (pos W (ϱ cs)) (bN (dM Z Z<|AV w) ?_) (λx E=>⟨[U<|.int _,U<|tN _,U<|.int _,U<|.int _,U<|.dct O _<|(evN W rs cs).map<|eV kd W rs cs p q],Z,dr (b0 Z Z<|Pu.gt_int.trans<|by congr 2;lia),λd=>?_⟩)<|bh w) ⟨Z,by show VP (D.lst _)=VP _;rw[UR];rfl⟩
 .show U _=U _
  rw[UR];rfl
 have b:su (.dct O ((evN W rs cs).map kP)<|(evN W rs cs).map<|eV kd W rs cs p q) (.tup [.int (x.1:Int),tN x.2])=U (eV kd W rs cs p q x):=by
  show(eF O<|dK O<|kP x).bind _=_;rw[dy λe=>(by cases e)];exact jE<|Wg.mpr ⟨X6.mpr E,d⟩
 exact ah (aa Z<|aa Z<|aa (b0 (b0 Z (ah Z cj) b) Z Z)<|aa (b0 (b0 Z (ah Z cj) b) Z Z) Z) P3
abbrev K_(xs a:ϊ):D:= .tup [nL xs,nL a,.int ((nj (b8 xs a):Nat):Int)]
theorem Ur{a}(q:Q (.rt d) β)(h:Gw g a β λo b=>b=β/\o= .rt d):Gw g a β Q:=by
 obtain⟨o,b,e,rfl,rfl⟩:=h;exact⟨_,_,e,q⟩
theorem BC(k):(lW K a).1 [.str k.nm] β=U (.ok<|.int ((vr k []:Nat):Int),β):=by
 obtain⟨b,_⟩:=kIn k;unfold lW
 dsimp only
 refine aE<|ao<|aC (ah (aa (b0 Z (ah Z cj) b) Z) Z) ⟨Z,?_⟩;cases k<;>rfl
theorem AY{t n:Nat}(k)(b:k.isP=O->t<2^1000/\n<2^1000):(il K a).1 [.str k.nm,.int (t:Int),.int (n:Int)] β=U (.ok<|.int ((hE k t n:Nat):Int),β):=by
 obtain⟨c,_⟩:=kIn k;unfold il
 apply aE;unfold  hE;cases h:k.isP with
 |true=>exact d7 (dr<|b0 Z (ah Z cj)<|by rw[c,h])<|aC (b0 Z Z<|eE (b h).1 (b h).2) ⟨Z,Z⟩
 |false=>exact bn (dr<|b0 Z (ah Z cj)<|by rw[c,h])<|aQ<|ao<|aC (b0 Z Z FZ) ⟨Z,Z⟩
theorem CK:∀l xs:ϊ,(xs.zip l).map (λz=>(z.2,z.1*y))=z_ l xs y
 |[],[]=>rfl
 |[],_::_=>rfl
 |_::_,[]=>rfl
 |n::l,x::xs=>VR _<|CK l xs
abbrev ptS(k:Kd)(xs a:ϊ)(p q j:Nat)(l:ϊ)(t:Nat)(b c d:ϥ):Ds:=[U<|.sh<|.str k.nm,U<|.sh<|K_ xs a,U<|.sh<|.tup [.int (p:Int),.int (q:Int)],U<|.sh<|.int (j:Int),U<|.sh<|nL l,U<|.sh<|.int (t:Int),b,c,d]
theorem Mj{r c p q j:Nat}{xs s l:ϊ}(C:KX r c xs s)(X:j<c)(g:l.sum<=40)(o9:l.length=r)(o8:p<r)(k:Kd):(rQ K a).1 [.str k.nm,K_ xs s,.tup [.int (p:Int),.int (q:Int)],.int (j:Int),nL l] β=U (.ok<|.int ((jn k xs s p q j l:Nat):Int),β):=by
 obtain⟨H,k2,Q,I,k5⟩:=kEq k;obtain⟨i1,i2,L,i4⟩:=kIn k;obtain⟨y,S⟩:=xt (l:=s) (i:=j) (by rw[C.ly];exact X);have J:=C.ok.hy y<|U2 S;have f5:l.length<=4:=by rw[o9];have:=C.ok.lx;have:=C.lx;lia
 have x:=xg (kU C.ok.hx C.ok.hy) (by have:=jx (xs:=xs) C.ok.ly;have:=C.ok.lx;lia)
 have R:∀(F:Nat×Nat->Nat),(∀(t:Nat) (z:Nat×Nat),z∈xs.zip l->∀u,Gw (aP (pa (fB<|f2 (dE) (ac 0)<|fC<|.str<|Vc "off") (dB 5<|f2 dG (ac 5)<|aX vC<|af (f2 xL (f2 db (ac 6)<|aX gT<|af (f2 f0 (ac 1)<|fC<|.int 0)<|az)<|ac 8)<|az)<|pa (fB<|f2 (B_) (ac 8)<|fC<|.int 0) (dB 5<|f2 dG (ac 5)<|f2 ox (f2 db (f2 db (ac 6)<|ac 6)<|f2 f0 (ac 1)<|fC<|.int 2)<|ac 8)<|gNil) gNil) (ptS k xs s p q j l t (U<|.sh<|.int (z.2:Int)) u<|U<|.sh<|.int ((z.1*y:Nat):Int)) β (λo b=>b=β/\o= .nx (ptS k xs s p q j l (t+F (z.2,z.1*y)) (U<|.sh<|.int (z.2:Int)) u<|U<|.sh<|.int ((z.1*y:Nat):Int))))->
   Gw (aP (dB 5<|fC<|.int 0)<|aP (MJ (nX<|af (f2 f0 (ac 1)<|fC<|.int 0)<|af (ac 4)<|az) (sgT<|DK (sgN 7)<|DK (sgN 6) LB)<|aP (dB 8<|f2 db (ac 7)<|f2 f0 (f2 f0 (ac 1)<|fC<|.int 1)<|ac 3)<|pa (fB<|f2 (dE) (ac 0)<|fC<|.str<|Vc "off") (dB 5<|f2 dG (ac 5)<|aX vC<|af (f2 xL (f2 db (ac 6)<|aX gT<|af (f2 f0 (ac 1)<|fC<|.int 0)<|az)<|ac 8)<|az)<|pa (fB<|f2 (B_) (ac 8)<|fC<|.int 0) (dB 5<|f2 dG (ac 5)<|f2 ox (f2 db (f2 db (ac 6)<|ac 6)<|f2 f0 (ac 1)<|fC<|.int 2)<|ac 8)<|gNil)<|eW<|ac 5) (lv 9 [.str k.nm,K_ xs s,.tup [.int (p:Int),.int (q:Int)],.int (j:Int),nL l]) β (λo b=>b=β/\o= .rt (.int ((((z_ l xs y).map F).sum:Nat):Int))):=λF st=>by
  refine aF (d:= .int 0) (β1:=β) Z ?_;refine bw (ds:=(xs.zip l).map λz=>D.tup [.int (z.1:Int),.int (z.2:Int)]) (β1:=β) (CL (.inl Z) (b0 Z Z Z) Z) (λi E b=>β=b/\∃A N u,E=ptS k xs s p q j l (((z_ l xs y).take i).map F).sum A N u) ⟨Z,Y,Y,Y,Z⟩ ?_ ?_
  .rintro i d E _ hd ⟨rfl,A,N,u,rfl⟩
   obtain⟨z,B,rfl⟩:=bR hd;have V:=U2 B;have v:=C.ok.hx z.1 (XT V).1;have ez:(z_ l xs y)[i]?=U (z.2,z.1*y):=by rw[<-CK,UN,B];rfl
   rw[Ol (f:=F) ez];refine⟨_,Z,aF (d:= .int ((z.1*y:Nat):Int)) (β1:=β) (b0 Z (b0 (b0 Z Z Z) Z<|ue S)<|eE (ot ln)<|ot ln)<|ao ?_⟩;obtain⟨o,b,e,rfl,rfl⟩:=st (((z_ l xs y).take i).map F).sum z V<|U<|.sh<|.int (z.1:Int);exact⟨_,_,e,Z,_,_,_,Z⟩
  .rintro E _ ⟨rfl,A,N,u,rfl⟩
   refine ao<|aC Z ⟨Z,?_⟩;rw[UD,<-UD (f:=λz:Nat×Nat=>(z.2,z.1*y)),CK,VB]
 have W:k.pl=O->∀{h:G},Gw (aP (eW<|f2 f0 (aX gu<|af (fC<|.int 0)<|af (f2 f0 (ac 4)<|f2 f0 (ac 2)<|fC<|.int 0)<|az)<|aX EZ<|af (f2 (dE) (ac 3)<|f2 f0 (ac 2)<|fC<|.int 1)<|az) h) (lv 9 [.str k.nm,K_ xs s,.tup [.int (p:Int),.int (q:Int)],.int (j:Int),nL l]) β (λo b=>b=β/\o= .rt (.int ((jn k xs s p q j l:Nat):Int))):=λz h=>by
  obtain⟨n,M⟩:=xt (l:=l) (i:=p) (by rw[o9];exact o8);have P:jn k xs s p q j l=(if j=q then n else 0):=by
   rw[<-kr (d:=0) M];cases k<;>first|rfl|cases z
  rw[P];have T:aX gu (af (fC<|.int 0)<|af (f2 f0 (ac 4)<|f2 f0 (ac 2)<|fC<|.int 0)<|az) (fy<|lv 9 [.str k.nm,K_ xs s,.tup [.int (p:Int),.int (q:Int)],.int (j:Int),nL l]) β=U (.ok<|.lst [.int 0,.int (n:Int)],β):=ah (aa Z<|aa (b0 Z (b0 Z Z sd)<|ue M) Z) Mi;by_cases w:j=q
  .refine aC (b0 T (ah (aa (b0 Z (b0 Z Z pQ)<|eq_int.trans<|by rw[U3 ln]) Z) Z) (z:= .int (n:Int)) Z) ⟨Z,by rw[US w]⟩
  .refine aC (b0 T (ah (aa (b0 Z (b0 Z Z pQ)<|eq_int.trans<|by rw[Vv ln]) Z) Z) (z:= .int 0) Z) ⟨Z,by rw[UU w];rfl⟩
 unfold rQ
 dsimp only
 refine aE ?_;refine Ur (d:= .int ((jn k xs s p q j l:Nat):Int)) ⟨Z,Z⟩ ?_;cases k with
 |rare=>exact d7 (dr<|b0 Z Z H)<|aC (aq Z<|yC g f5) ⟨Z,Z⟩
 |power=>
  refine bn (dr<|b0 Z Z H)<|aQ<|d7 (dr<|b0 Z Z I)<|kq ?_;refine aF (d:= .int 1) (β1:=β) Z<|kq ?_;refine bw (ds:=(nI l).map D.int) (β1:=β) (bN Z Z) (λi E b=>β=b/\∃A,E=ptS .power xs s p q j l (pr<|(l.take i).map λn=>n^n) A Y Y) ⟨Z,Y,Z⟩ ?_ ?_
  .rintro i d E _ hd ⟨rfl,A,rfl⟩
   obtain⟨n,M,rfl⟩:=ji hd;refine⟨_,Z,ao<|aF (b0 Z (aq Z<|LC<|jp g M)<|eE (cg (tR g) (by have:=Nj (l:=l) i;lia))<|w5 (jp g M)<|jp g M)<|b_ ⟨Z,U<|.sh<|.int (n:Int),?_⟩⟩;rw[iY (f:=λn=>n^n) M];rfl
  .rintro E _ ⟨rfl,A,rfl⟩
   rw[jB,VB];exact aC Z ⟨Z,Z⟩
 |most=>exact bn (dr<|b0 Z Z H)<|aQ<|bn (dr<|b0 Z Z I)<|aQ<|d7 (dr<|b0 Z (ah Z cj) L)<|W Z
 |least=>exact bn (dr<|b0 Z Z H)<|aQ<|bn (dr<|b0 Z Z I)<|aQ<|d7 (dr<|b0 Z (ah Z cj) L)<|W Z
 |square=>
  refine bn (dr<|b0 Z Z H)<|aQ<|bn (dr<|b0 Z Z I)<|aQ<|bn (dr<|b0 Z (ah Z cj) L)<|aQ ?_;have:=R (Y_<|nj<|b8 xs s) λt z B u=>by
   have v:=C.ok.hx z.1 (XT B).1;have m:=U1 (cP (XT B).2) g;have hw:=rT v J;refine bn (β1:=β) (dr<|b0 Z Z Q) ?_;by_cases o7:0<z.1*y
   .exact d7 (β1:=β) (dr<|b0 Z Z<|Pu.gt_int.trans<|by rw[U3 ln]) (aF (b0 Z (Qj x.2 m hw o7 Z (b0 Z Z Z) Z) FZ)<|b_ ⟨Z,Z⟩)
   .refine bn (β1:=β) (dr<|b0 Z Z<|Pu.gt_int.trans<|by rw[Vv ln]) (aQ<|b_ ⟨Z,?_⟩)
    unfold Y_;rw[UU o7];rfl
  show Gw _ _ _ λo b=>b=β/\o= .rt (.int ((sqN _ l xs (s.getD j 0):Nat):Int));rw[kr S];exact this
 |off=>
  refine bn (dr<|b0 Z Z H)<|aQ<|bn (dr<|b0 Z Z I)<|aQ<|bn (dr<|b0 Z (ah Z cj) L)<|aQ ?_;have:=R (B9 xs.sum) λt z B u=>by
   have m:=U1 (cP (XT B).2) g;exact d7 (β1:=β) (dr<|b0 Z Z Q)<|aF (b0 Z (N4 C.tx m Z (ah (aa (b0 Z Z Z) Z)<|iw xs) Z) FZ)<|b_ ⟨Z,Z⟩
  show Gw _ _ _ λo b=>b=β/\o= .rt (.int ((B6 _ l xs (s.getD j 0):Nat):Int));rw[kr S];exact this
abbrev bd9(n:Nat):Nat:=if n<=7 then 9 else 16
theorem v1:∀x<12,∀s<x+1,ϱ (cr [x] s)<=bd9 x:=by decide +kernel
theorem v2:∀x<12,∀y<12-x,∀s<x+y+1,ϱ (cr [x,y] s)<=bd9 (x+y):=by decide +kernel
theorem v3:∀x<12,∀y<12-x,∀z<12-x-y,∀s<x+y+z+1,ϱ (cr [x,y,z] s)<=bd9 (x+y+z):=by decide +kernel
theorem v4:∀x<5,∀y<5-x,∀z<5-x-y,∀w<5-x-y-z,∀s<5,ϱ (cr [x,y,z,w] s)<=9:=by decide +kernel
theorem v9:∀(rs:ϊ) (s:Nat),ϱ rs<=4->(ϱ rs<=3/\rs.sum<=11)\/rs.sum<=4->s<=rs.sum->ϱ (cr rs s)<=bd9 rs.sum
 |[],s,_,_,h=>by
  obtain rfl:s=0:=by simpa using h
  decide
 |[x],s,_,h,e=>by
  simp at h e;exact v1 x ln s ln
 |[x,y],s,_,h,e=>by
  simp at h e;exact v2 x ln y ln s ln
 |[x,y,z],s,_,h,e=>by
  simp at h e;have:=v3 x ln y ln z ln s ln;rw[show x+y+z=[x,y,z].sum by simp;lia]at this;exact this
 |[x,y,z,w],s,_,h,e=>by
  simp at h e;have:=v4 x ln y ln z ln w ln s ln;rw[show[x,y,z,w].sum=x+(y+(z+w)) by simp,bd9,US ln];exact this
 |_::_::_::_::_::_,_,h,_,_=>by simp at h
theorem lv9(h:la K a rs cs W s)(b:(ϱ rs<=3/\rs.sum<=11)\/rs.sum<=4)(c:k<=ϱ cs):ϱ (en W rs k)<=bd9 rs.sum:=by
 have e:(cs.drop k).sum<=rs.sum:=by
  have:=Y1 (l₁:=cs.take k) (l₂:=cs.drop k);rw[Xd]at this;have:=h.sm;lia
 refine U1 (L2.Pu.nd_len (mY k) λr d=>?_)<|v9 rs _ h.nr.2.1 b e;obtain⟨p,q⟩:=gL h.ok h.sm k c r d;exact q▸k8 p
theorem NE(h:la K a rs cs W s)(h3:ϱ cs=1\/(ϱ rs<=3/\rs.sum<=11/\(rs.sum<=7\/ϱ cs<=3))\/rs.sum<=4):ϱ (n_ W rs cs.length<|cs.length+1)<64:=by
 have p:=h.c6;rw[sr,Va,UD,Yk,show(en W rs 0).length=1 from Z];have f:∀{n:Nat},(∀k,k<=ϱ cs->ϱ (en W rs k)<=n)->ϱ (n_ W rs cs.length _)<=ϱ cs*n:=λ{n} q=>by
  unfold n_;refine U1 (fR λk b=>?_) (by rw[Vi];exact UV _);simp_all
 obtain e|h3:=h3
 .have:=f λk=>jD h
  lia
 .have:=f λk=>lv9 h ln
  by_cases z:rs.sum<=7
  .rw[bd9,US z]at this
   lia
  .rw[bd9,UU z]at this
   lia
theorem O8(h:la K a rs cs (wB B cs)<|j1 B)(hB:D_ (ϱ rs) (ϱ cs) B)(b:ϱ cs=1\/(ϱ rs<=3/\rs.sum<=11/\(rs.sum<=7\/ϱ cs<=3))\/rs.sum<=4)(p:ϱ (hU (wB B cs) rs cs.length)<=1000):(nG K a).1 [nL rs,nL cs,j1 B] β=U (.ok<|.lst<|((hU (wB B cs) rs (ϱ cs)).filter<|pos (wB B cs) (ϱ cs)).map λx=>dK O<|kP x,β):=by
 unfold nG
 apply aE;refine ao<|aC (gj _ _ _ _ (bN (aq Z<|Pd h hB<|NE h b) ?_) (λx _=>⟨[U<|rD<|Z_ (wB B cs) (ϱ cs) x],Z,dr (b0 (b0 Z Z Z) Z<|Pu.gt_int.trans<|by congr 2;lia),λ_=>Z⟩)<|bh p) ⟨Z,Z⟩;show U _=U _;rw[UR];rfl
theorem KR{ai:Ϝ}(h:ϱ ai<=1000):(tM K a).1 [lG ai] β=U (.ok<|lG ai,β):=
 aE (ao<|aC (bx ai _ _ Z (λx _=>⟨_,Z,Z⟩)<|bh h) ⟨Z,Z⟩)
theorem JV{r c:Nat}(d:r<=1000)(e:c<=1000):pG K a [.int (r:Int),.int (c:Int)] β=U (.ok<|gP<|qO r c,β):=by
 have b:∀x:Nat,jH 1 [] _ _ _ _ [U<|.int<|0+(x:Int),U<|.int _] β=U (.ok<|(Vn c _).map pD,β):=λx=>by
  have h:=KS (nv:=1) (b4:=[]) (it:=dm g0<|af (ac 1)<|az) (tg:=gt 0) (f:=aX fZ<|af (fC<|.int 0)<|af (fC<|.int 40)<|az) (δ:=[U<|.int<|0+(x:Int),U<|.int (c:Int)]) (β:=β) (UT c) _ (λ_=>pD (0,40))
   (bO Z<|F3 ln ln) (λx _=>⟨_,Z,ah Z cj⟩) (bh<|by rw[Vi];lia)
  rw[l3]at h;rw[Yh];exact h
 have h:=me (nv:=1) (b4:=[1]) (it:=dm g0<|af (ac 0)<|az) (tg:=gt 0) (δ:=[U<|.int (r:Int),U<|.int _]) (UT r) _ _
  (bO Z<|F3 ln ln) (λx _=>⟨_,Z,b x⟩) (bh<|by rw[Vi];lia)
 rw[l3]at h;refine PH<|ao<|Oc h ⟨Z,?_⟩;simp_all
abbrev bdS(ai:LI)(b:LP)(c d e f g:ϥ):Ds:=[U<|.sh .bag,U<|.sh<|ck ai,U<|.grd<|gP b,c,d,e,f,g]
def BdI(r c:Nat)(ai:LI)(d e:ϥ)(a:Ds)(β:Bg):Prop:=β.ok/\∃(b:LP) (f g h:ϥ),a=bdS ai b d e f g h/\zx r c b/\Kp ai b
theorem EN(t:Tab r c ai)(ok:β.ok):∃(b:LP) (f:Bg),(j8 K a).1 [.bag,ck ai] β=U (.ok<|eG b,f)/\zx r c b/\Kp ai b/\f.ok:=by
 suffices h:∃g f,(j8 K a).1 [.bag,ck ai] β=U (g,f)/\(∃(b:LP),g= .ok (eG b)/\zx r c b/\Kp ai b/\f.ok) by
  obtain⟨g,f,e,b,rfl,P,S⟩:=h;exact⟨b,f,e,P,S⟩
 have r1:=t.r1;have c1:=t.c1;have c0:=t.c0;have r0:=t.r0;obtain⟨H,I,J⟩:=t.shp.at (i:=0) ln;have V:(gI ai)[0]?=U (H.map D.int):=by rw[UN,I];rfl
 unfold j8
 dsimp only
 refine jJ ?_;refine wP (β1:=β) (N9 (as:=[.int (r:Int),.int (c:Int)]) (β1:=β) (aa (ah Z<|yI<|by rw[UD,t.shp.1])<|aa (ah (aa (x:= .lst<|H.map D.int) (b0 Z Z<|ug V) Z)<|dn<|by rw[UD,J]) Z)<|JV ln ln) (Rb _) ?_;obtain⟨W,β1,p1,a0,a1,T⟩:=bE ok (lot:=3) rb rb;refine iQ (c:=decide (W=0)) (β1:=β1) (dr<|b0 (aq Z p1) Z eq_int) ?_;by_cases hw:W=0
 .rw[US<|by simpa using hw]
  exact aC Z ⟨_,Z,zx.free r c,Kp.free t,T⟩
 rw[UU<|by simpa using hw];refine aQ ?_;refine bw (ds:=dF 0<|(gI ai).map D.lst) (β1:=β1) Z (λ_ s β=>∃z s4,BdI r c ai z s4 s β) ⟨Y,Y,T,qO r c,Y,Y,Y,Z,zx.free r c,Kp.free t⟩ ?_ ?_
 .rintro i d s β2 hd ⟨z,s4,L,b,f5,M,o7,rfl,o,C⟩
  obtain⟨x,hx,rfl⟩:=vo hd;obtain⟨y,hy,rfl⟩:=bR hx;obtain⟨q,m,rfl⟩:=bR hy;have hi:i<r:=by rw[<-t.shp.1];exact(UY.mp m).1
  have X:ϱ q=c:=t.shp.2 q<|U2 m;refine⟨bdS ai b (U<|.sh<|.int i) (U<|.sh<|.lst<|q.map D.int) f5 M o7,Z,ao ?_⟩;refine bw (ds:=dF 0<|q.map D.int) (β1:=β2) Z (λ_=>BdI r c ai (U<|.sh<|.int i)<|U<|.sh<|.lst<|q.map D.int) ⟨L,b,f5,M,o7,Z,o,C⟩ ?_ (λs β h=>b_ ⟨_,_,h⟩);rintro j d s af hd ⟨ab,b,f5,M,o7,rfl,o,C⟩;obtain⟨x,hx,rfl⟩:=vo hd;obtain⟨n,hn,rfl⟩:=bR hx;have hj:j<c:=by rw[<-X];exact(UY.mp hn).1
  have ae:=t.le40 q (U2 m) n<|U2 hn;obtain⟨A,l,N⟩:=o.shp.at hi;refine⟨bdS ai b (U<|.sh<|.int i) (U<|.sh<|.lst<|q.map D.int) (U<|.sh<|.int j) (U<|.sh<|.int n) o7,Z,?_⟩;obtain⟨w,B,p4,W,w1,o9⟩:=bE ab (lot:=4) rb rb;refine aF (d:= .int w) (β1:=B) (aq Z p4) ?_
  have E:∀(p:Int×Int) (s:Ds),rx p->p.1<=n->n<=p.2->∀{β5:Bg} {fv:FD} {h:G} {Q:a0x},fv (fy<|bdS ai b (U<|.sh<|.int i) (U<|.sh<|.lst<|q.map D.int) (U<|.sh<|.int j) (U<|.sh<|.int n)<|U<|.sh<|.int w) B=U (.ok<|pD p,β5)->
    (∀b,zx r c b->Kp ai b->Gw h (bdS ai b (U<|.sh<|.int i) (U<|.sh<|.lst<|q.map D.int) (U<|.sh<|.int j) (U<|.sh<|.int n)<|U<|.sh<|.int w) β5 Q)->
    Gw (aP (oq 2 (ac 3) (ac 5) fv) h) (bdS ai b (U<|.sh<|.int i) (U<|.sh<|.lst<|q.map D.int) (U<|.sh<|.int j) (U<|.sh<|.int n)<|U<|.sh<|.int w) B Q:=λp s hp P S β5 fv h Q e k=>by
   refine CO (d:=pD p) (ai:=gP b) (ds:=A.map pD) (ka:=i) (kb:=j) (ja:=i) (jb:=j) e Z Z Z ?_ ?_ ?_ Z ?_
   .rw[UD,o.shp.1];exact Pu.ld ln ln
   .rw[UN,l];rfl
   .rw[UD,N];exact Pu.ld ln ln
   .have o8:(gP b).set i ((A.map pD).set j<|pD p)=gP (b.set i<|A.set j p):=by
     simp
    rw[o8];exact k _ (o.set l hp)<|C.set l (qd m hn) P S
  refine iQ (c:=decide (w=0)) (β1:=B) (dr<|b0 Z Z eq_int) ?_;by_cases q0:w=0
  .rw[US<|by simpa using q0]
   obtain⟨u,β5,p5,u0,u1,ad⟩:=bE o9 (lot:=n+1) ln ln;obtain⟨v,F,p6,v0,v1,R⟩:=bE ad (lot:=3) rb rb;refine E (n-u,XF 40<|n+v) [] ⟨by show 0<=n-u;lia,by show n-u<=XF 40 (n+v);lia,by show XF 40 (n+v)<=40;lia⟩ (by show n-u<=n;lia) (by show n<=XF 40 (n+v);lia) (β5:=F) ?_ λb o C=>?_
   .exact ah (aa (b0 Z (aq (aa Z<|aa (b0 Z Z Z) Z) p5) Z)<|aa (ah (aa Z<|aa (b0 Z (aq Z p6) Z) Z) EF) Z) cj
   .refine ao (bn (β1:=F) ?_<|aQ<|b_ ⟨R,b,_,_,_,Z,o,C⟩)
    rw[show(UK:Bool)=decide (w=1) by rw[q0];rfl];rfl
  .rw[UU<|by simpa using q0]
   refine aQ<|ao<|iQ (c:=decide (w=1)) (β1:=B) (dr<|b0 Z Z eq_int) ?_;by_cases q1:w=1
   .rw[US<|by simpa using q1]
    obtain⟨v,F,p6,v0,v1,R⟩:=bE o9 (lot:=3) rb rb;refine E (0,max n v) [] ⟨by show(0:Int)<=0;lia,by show 0<=max n v;lia,by show max n v<=40;lia⟩ (by show 0<=n;lia) (by show n<=max n v;lia) (β5:=F) ?_ λb o C=>b_ ⟨R,b,_,_,_,Z,o,C⟩;exact ah (aa Z<|aa (ah (aa Z<|aa (aq Z p6) Z) Ro) Z) cj
   .rw[UU<|by simpa using q1]
    exact aQ<|b_ ⟨o9,b,_,_,_,Z,o,C⟩
 .rintro s β2 ⟨z,s4,L,b,f5,M,o7,rfl,o,C⟩
  exact ao<|aC Z ⟨b,Z,o,C,L⟩
theorem sL:∀{xs:ώ},(∀x∈xs,0<=x)->∃l:ϊ,xs=nI l:=λ{x0}=>x0.rec (@λ_=>⟨[],Z⟩) λx xs w=>@λh=>by
  obtain⟨l,e⟩:=w λy a=>h y<|UI _ a;have:=h x UP;exact⟨x.toNat::l,by rw[e];show _=((x.toNat:Nat):Int)::_;rw[Int.toNat_of_nonneg this]⟩
abbrev gdS(r c t:Nat)(ai:LI)(b d e:ϥ):Ds:=[U<|.sh .bag,U<|.sh<|.int (r:Int),U<|.sh<|.int (c:Int),U<|.sh<|.int (t:Int),U<|.grd<|gI ai,b,d,e]
theorem m6{r c t:Nat}(s:β.ok)(w:1<=r)(E:r<=4)(G:1<=c)(M:c<=6)(H:t<=40):∃(ai:LI) (j:Bg),gh K a [.bag,.int (r:Int),.int (c:Int),.int (t:Int)] β=U (.ok<|ck ai,j)/\(Tab r c ai/\tot ai=(t:Int))/\j.ok:=by
 suffices h:∃g j,gh K a [.bag,.int (r:Int),.int (c:Int),.int (t:Int)] β=U (g,j)/\(∃(ai:LI),g= .ok (ck ai)/\(Tab r c ai/\tot ai=(t:Int))/\j.ok) by
  obtain⟨g,j,e,ai,rfl,I,J⟩:=h;exact⟨ai,j,e,I,J⟩
 refine jJ ?_;unfold sj;refine wP (ai:=(UT r).map λ_=>Vn c<|D.int 0) (β1:=β) (me (UT r) (λi=>D.int<|0+(i:Int)) _ (bO (ds:=bv 0 r) Z<|F3 ln ln) (λx _=>⟨_,Z,Tp (x:= .int 0) (c:=c) Z Z ln⟩)<|bh<|by rw[Vi];lia) ?_ ?_
 .rw[X5]
  intro x p;obtain⟨_,_,rfl⟩:=UL.mp p;rw[<-Yh (f:=D.int)];exact ia _
 have L:(UT r).map (λ_=>Vn c<|D.int 0)=gI (Vn r<|Vn c 0):=by
  show _=Ww _ _;rw[Yh,List.map_const',Yh,Vi]
 rw[L];refine bw (ds:=bv 0 t) (β1:=β) (bO Z<|F3 ln ln) (λi q β=>β.ok/\∃ai o y A,q=gdS r c t ai o y A/\j2 r c ai/\(∀row∈ai,∀x∈row,0<=x)/\tot ai=(i:Int)) ⟨s,Vn r<|Vn c 0,Y,Y,Y,Z,⟨rc,λrow h=>?_⟩,λrow h x p=>?_,?_⟩ ?_ ?_
 .rw[(Xf.mp h).2];simp
 .rw[(Xf.mp h).2]at p
  simp_all
 .unfold tot
  simp
 .rintro i d q j hd ⟨k,ai,o,y,A,rfl,sh,nn,H⟩
  obtain⟨v,β1,N,Q,v1,B⟩:=bE k (lot:=(r:Int)) ln ln;obtain⟨u,β2,X,R,T,C⟩:=bE B (lot:=(c:Int)) ln ln;obtain⟨v,rfl⟩:∃n:Nat,v=(n:Int):=⟨v.toNat,ln⟩;obtain⟨u,rfl⟩:∃n:Nat,u=(n:Int):=⟨u.toNat,ln⟩;obtain⟨row,b,m⟩:=sh.at (i:=v) ln;obtain⟨x,p⟩:=N3 (l:=row) (i:=u) ln;refine⟨_,Z,aF (aq Z N)<|aF (aq Z X)<|ao<|CO (d:= .int<|x+1) (β1:=β2) (β2:=β2) (β3:=β2) (ai:=gI ai) (ds:=row.map D.int) (ka:=v) (kb:=u) (ja:=v) (jb:=u) (b0 (b0 (b0 Z Z<|ug (row:=row.map D.int) ?_) Z<|cQ (d:= .int x) ?_) Z Z) Z Z Z ?_ ?_ ?_ Z<|b_ ⟨C,ai.set v<|row.set u<|x+1,U<|.sh d,U<|.sh<|.int (v:Int),U<|.sh<|.int (u:Int),?_,sh.set b,Rc nn b ?_,?_⟩⟩
  .rw[UN,b];rfl
  .rw[UN,p];rfl
  .rw[UD,sh.1];exact Pu.ld ln ln
  .rw[UN,b];rfl
  .rw[UD,m];exact Pu.ld ln ln
  .show[_,_,_,_,U<|Sl.grd<|(gI ai).set v<|(row.map D.int).set u<|.int<|x+1,_,_,_]=_
   simp
  .have:=nn row (U2 b) x<|U2 p
   lia
  .have:=Og (v:=x+1) b p
   lia
 .rintro q j ⟨k,ai,o,y,A,rfl,sh,nn,F⟩
  rw[yh]at F;exact ao<|aC Z ⟨ai,Z,⟨⟨sh,nn,ln,w,E,G,M⟩,F⟩,k⟩
def Sml(r c:Nat)(a:LI):Prop:=Tab r c a/\(tot a<=7/\(c=1\/r<=3\/tot a<=4)\/tot a<=11/\r<=3/\c<=3)
theorem LA(V:β.ok):∃(p:LI) (r c:Nat) (b:Bg),l5 K a [.bag] β=U (.ok<|ck p,b)/\Sml r c p/\b.ok:=by
 suffices h:∃g b,l5 K a [.bag] β=U (g,b)/\(∃(p:LI) (r c:Nat),g= .ok (ck p)/\Sml r c p/\b.ok) by
  obtain⟨g,b,e,p,r,c,rfl,B,C⟩:=h;exact⟨p,r,c,b,e,B,C⟩
 apply jJ;have u:∀(k n:Nat),dG (.int _) (.int _)=U (.int ((k+n:Nat):Int)):=λk n=>by show U _=_;rw[Y5]
 obtain⟨y,β1,F,I,x,j⟩:=bE V (lot:=8) rb rb;apply aF (aq Z F);refine iQ (dr<|b0 Z Z eq_int) ?_;by_cases E:y=0
 .rw[US<|U3 E]
  obtain⟨t,q,l,v,w,d⟩:=bE j (lot:=5) rb rb;obtain⟨t,rfl⟩:∃n:Nat,t=(n:Int):=⟨t.toNat,ln⟩;obtain⟨p,s,e,g,f⟩:=m6 (r:=4) (c:=6) (t:=t) d rb rb rb rb ln;exact aC (aq (aa Z<|aa Z<|aa Z<|aa (aq Z l) Z) e) ⟨p,4,6,Z,⟨g.1,.inl ⟨ln,ln⟩⟩,f⟩
 rw[UU<|by simp[E]];refine iQ (dr<|b0 Z Z eq_int) ?_;by_cases G:y=1
 .rw[US<|U3 G]
  obtain⟨c,q,l,v,w,d⟩:=bE j (lot:=6) rb rb;obtain⟨t,s,m,M,P,f⟩:=bE d (lot:=8) rb rb;obtain⟨c,rfl⟩:∃n:Nat,c=(n:Int):=⟨c.toNat,ln⟩;obtain⟨t,rfl⟩:∃n:Nat,t=(n:Int):=⟨t.toNat,ln⟩;obtain⟨p,o,e,g,i⟩:=m6 (r:=1) (c:=1+c) (t:=t) f rb rb ln ln ln;exact aC (aq (aa Z<|aa Z<|aa (b0 Z (aq Z l)<|u 1 c)<|aa (aq Z m) Z) e) ⟨p,1,1+c,Z,⟨g.1,.inl ⟨ln,ln⟩⟩,i⟩
 rw[UU<|by simp[G]];refine iQ (dr<|b0 Z Z eq_int) ?_;by_cases S:y=2
 .rw[US<|U3 S]
  obtain⟨c,q,l,v,w,d⟩:=bE j (lot:=4) rb rb;obtain⟨t,s,m,M,P,f⟩:=bE d (lot:=8) rb rb;obtain⟨c,rfl⟩:∃n:Nat,c=(n:Int):=⟨c.toNat,ln⟩;obtain⟨t,rfl⟩:∃n:Nat,t=(n:Int):=⟨t.toNat,ln⟩;obtain⟨p,o,e,g,i⟩:=m6 (r:=1+c) (c:=1) (t:=t) f ln ln rb rb ln;exact aC (aq (aa Z<|aa (b0 Z (aq Z l)<|u 1 c)<|aa Z<|aa (aq Z m) Z) e) ⟨p,1+c,1,Z,⟨g.1,.inl ⟨ln,ln⟩⟩,i⟩
 rw[UU<|by simp[S]];obtain⟨r,q,l,v,w,d⟩:=bE j (lot:=2) rb rb;obtain⟨c,s,m,M,P,f⟩:=bE d (lot:=3) rb rb;obtain⟨t,o,H,J,z,i⟩:=bE f (lot:=8) rb rb;obtain⟨r,rfl⟩:∃n:Nat,r=(n:Int):=⟨r.toNat,ln⟩;obtain⟨c,rfl⟩:∃n:Nat,c=(n:Int):=⟨c.toNat,ln⟩;obtain⟨t,rfl⟩:∃n:Nat,t=(n:Int):=⟨t.toNat,ln⟩;obtain⟨p,W,e,g,A⟩:=m6 (r:=2+r) (c:=2+c) (t:=t) i ln ln ln ln ln;exact aF (b0 Z (aq Z l)<|u 2 r)<|aF (b0 Z (aq Z m)<|u 2 c)<|ao<|aC (aq (aa Z<|aa Z<|aa Z<|aa (aq Z H) Z) e) ⟨p,2+r,2+c,Z,⟨g.1,.inl ⟨ln,ln⟩⟩,A⟩
theorem JI(w:β.ok):∃(p:LI) (r c:Nat) (b:Bg),(j7 K a).1 [.bag] β=U (.ok<|ck p,b)/\Sml r c p/\b.ok:=by
 suffices h:∃g b,(j7 K a).1 [.bag] β=U (g,b)/\(∃(p:LI) (r c:Nat),g= .ok (ck p)/\Sml r c p/\b.ok) by
  obtain⟨g,b,e,p,r,c,rfl,o,u⟩:=h;exact⟨p,r,c,b,e,o,u⟩
 unfold j7
 apply jJ;have m:∀(k n:Nat),dG (.int _) (.int _)=U (.int ((k+n:Nat):Int)):=λk n=>by show U _=_;rw[Y5]
 obtain⟨y,β1,v,H,M,f⟩:=bE w (lot:=2) rb rb;refine iQ (dr<|b0 (aq Z v) Z eq_int) ?_;by_cases s:y=0
 .rw[US<|U3 s]
  obtain⟨p,r,c,q,e,g,d⟩:=LA f;exact aC (aq Z e) ⟨p,r,c,Z,g,d⟩
 rw[UU<|by simp[s]];obtain⟨r,q,A,I,P,d⟩:=bE f (lot:=2) rb rb;obtain⟨c,E,B,S,V,i⟩:=bE d (lot:=2) rb rb;obtain⟨t,C,F,J,W,j⟩:=bE i (lot:=12) rb rb;obtain⟨r,rfl⟩:∃n:Nat,r=(n:Int):=⟨r.toNat,ln⟩;obtain⟨c,rfl⟩:∃n:Nat,c=(n:Int):=⟨c.toNat,ln⟩;obtain⟨t,rfl⟩:∃n:Nat,t=(n:Int):=⟨t.toNat,ln⟩;obtain⟨p,G,e,g,l⟩:=m6 (r:=2+r) (c:=2+c) (t:=t) j ln ln ln ln ln;exact aF (b0 Z (aq Z A)<|m 2 r)<|ao<|aC (aq (aa Z<|aa Z<|aa (b0 Z (aq Z B)<|m 2 c)<|aa (aq Z F) Z) e) ⟨p,2+r,2+c,Z,⟨g.1,.inr ⟨ln,ln,ln⟩⟩,l⟩
theorem few1:∀x<12,(x+1)*1<=500/\1<63:=by decide
theorem few2:∀x<12,∀y<12-x,(x+1)*((y+1)*1)<=500/\(x+1)*1<63:=by decide
theorem few3:∀x<12,∀y<12-x,∀z<12-x-y,(x+1)*((y+1)*((z+1)*1))<=500/\(x+1)*((y+1)*1)<63:=by decide +kernel
theorem few4:∀x<9,∀y<9-x,∀z<9-x-y,∀w<9-x-y-z,(x+1)*((y+1)*((z+1)*((w+1)*1)))<=500/\(x+1)*((y+1)*((z+1)*1))<63:=by decide
theorem few:∀{rs:ϊ},1<=ϱ rs->ϱ rs<=4->rs.sum<=8\/(ϱ rs<=3/\rs.sum<=11)->T_ rs/\pr (rs.dropLast.map (·+1))<63
 |[x],_,l,h=>by
  have q:=few1 x (by simp at h;lia);exact⟨⟨by show 1<=1;decide,l,ln,q.1⟩,q.2⟩
 |[x,y],_,l,h=>by
  have q:=few2 x (by simp at h;lia) y (by simp at h;lia);exact⟨⟨by show 1<=2;decide,l,ln,q.1⟩,q.2⟩
 |[x,y,z],_,l,h=>by
  have q:=few3 x (by simp at h;lia) y (by simp at h;lia) z (by simp at h;lia);exact⟨⟨by show 1<=3;decide,l,ln,q.1⟩,q.2⟩
 |[x,y,z,w],_,l,h=>by
  have q:=few4 x (by simp at h;lia) y (by simp at h;lia) z (by simp at h;lia) w (by simp at h;lia);exact⟨⟨by show 1<=4;decide,l,ln,q.1⟩,q.2⟩
 |[],h,_,_=>by simp at h
 |_::_::_::_::_::_,_,h,_=>by simp at h
theorem toB(h:zx r c b):∃B,b=jo B/\D_ r c B:=by
 have e:b=jo (b.map λa=>a.map λp=>(p.1.toNat,p.2.toNat)):=by
  unfold jo;rw[UR];refine(List.map_id b).symm.trans<|Vr λa g=>?_;show a=Ww _ _;rw[UR];refine(List.map_id a).symm.trans<|Vr λp i=>?_;obtain⟨q,s,w⟩:=h.ok a g p i;exact Xu (show p.1=((p.1.toNat:Nat):Int) by lia) (show p.2=((p.2.toNat:Nat):Int) by lia)
 refine⟨_,e,h.shp.map,λa g p i=>?_⟩;obtain⟨d,j,rfl⟩:=UL.mp g;obtain⟨f,k,rfl⟩:=UL.mp i;obtain⟨q,s,w⟩:=h.ok d j f k;show f.1.toNat<=f.2.toNat/\f.2.toNat<=40;lia
theorem Qk{a}(s:Sml r c a)(i:zx r c b)(w:Kp a b):∃B rs cs,b=jo B/\t7 a B rs cs/\ϱ rs=r/\ϱ cs=c/\rs.sum<=11/\(ϱ cs=1\/(ϱ rs<=3/\rs.sum<=11/\(rs.sum<=7\/ϱ cs<=3))\/rs.sum<=4):=by
 obtain⟨t,n⟩:=s;obtain⟨B,rfl,ok⟩:=toB i;obtain⟨rs,e⟩:=sL λx q=>by
  obtain⟨p,f,rfl⟩:=UL.mp q;exact oX<|t.nn p f
 obtain⟨cs,g⟩:=sL (xs:=(tp c a).map WC) λx q=>by
  obtain⟨p,f,rfl⟩:=UL.mp q;exact oX<|Ni t.nn p f
 have j:ϱ rs=r:=by rw[<-t.shp.1,<-UD WC,e,UD]
 have k:ϱ cs=c:=by rw[<-(uM (d:=(0:Int)) (c:=c) t.shp.1).1,<-UD WC];exact(VR ZJ g).symm▸(UD _).symm
 have o:((rs.sum:Nat):Int)=tot a:=by
  unfold tot;rw[e,jA]
 have l:rs.sum<=8\/(ϱ rs<=3/\rs.sum<=11):=by lia
 have m:rs.sum=cs.sum:=by
  have h:=GV t.shp.2;unfold tot at h;rw[g,e,jA,jA]at h;lia
 have M:=t.r0;have P:=t.r1;have E:=t.c1;obtain⟨G,K⟩:=few ln ln l;subst j k;exact⟨B,rs,cs,Z,⟨⟨G,K,m,t.c0,E⟩,t.shp,e,g,ok,w⟩,Z,Z,ln,ln⟩
theorem O7{rs cs}(h:t7 ai B rs cs):(uY K a).1 [ck ai,j1 B] β=U (.ok<|Ma a B rs cs,β):=by
 obtain⟨e,g,_,_⟩:=h.nr;have p:=h.c6;have b:=tF (K:=K) (a:=a) (β:=β) (by rw[h.shp.1];lia);have c:=oN (K:=K) (a:=a) (β:=β) h.shp e ln ln;rw[h.rw1]at b;rw[h.cl1]at c;unfold uY
 refine aE<|ao<|aC ?_ ⟨Z,Z⟩;unfold zc;rw[M.bind_ok<|aa (aq Z b)<|aa (aq Z c) Z,M.bind_ok<|aa (aq Z (KR (K:=K) (a:=a) (β:=β) (ai:=gP<|jo B) (by rw[UD,(ml h.bok.1).1];lia))) Z];exact(M.bind_ok<|Tz h<|Ou h.bok.bnd (by have:=h.nr.2.1;lia)).trans Z
theorem wU(n){i}:cz K a (n+1) [.int i,.int i] β=U (.ok<|.bl O,β):=by
 show fK 2 _ _ _=_;apply aE;refine bn (qm (ah Z Z) Z)<|aQ<|bn (dr<|b0 Z Z Z)<|aQ ?_;exact bn (j3 (dr<|b0 (ah Z Z) (ah Z Z) Z)<|dr<|b0 (ah Z Z) (ah Z Z) Z)<|aQ<|ao<|aC (zK (ah Z Z)<|b0 Z Z<|by rw[Pu.eq_int,U3 Z]) ⟨Z,Z⟩
theorem Tt(a:ϋ):x4 O (.bl UK) (.lst<|a.map λ_=> .bl O)=U (.bl O):=by
 have h:(a.map λ_=>D.bl O).all eM=O/\(a.map λ_=>D.bl O).any (λy=>eqF y<|.bl UK)=UK:=by
  induction a with
  |nil=>exact⟨Z,Z⟩
  |cons x a p=>exact⟨by rw[UZ,List.all_cons,p.1];rfl,by rw[UZ,Zz,p.2];rfl⟩
 unfold x4 inB;simp only[d9,WJ,eM,Yr,h.1,h.2,VV,Bool.not_false]
theorem DQ(n){p}(q:d= .lst p\/d= .tup p)(b:ϱ p<=1000)(h:∀x∈p,cz K a (n+1) [x,x] β=U (.ok<|.bl O,β)):cz K a (n+2) [d,d] β=U (.ok<|.bl O,β):=by
 have z:eC p p=p.map λx=> .tup [x,x]:=by simpa using xy (f:=id) (g:=id) p
 show fK 2 _ _ _=_;apply aE;obtain rfl|rfl:=q
 all_goals
  refine d7 (qm (ah Z Z) Z)<|kq<|bn (j3 (dr<|b0 (ah Z Z) (ah Z Z) Z)<|dr<|b0 (ah Z Z) (ah Z Z) Z)<|aQ<|kq ?_;exact bn (dr<|b0 (ah Z Z) (ah Z Z)<|ne_int.trans rc)<|aQ<|aC (b0 Z (bx p _ _ ((oQ Z Z Z Z).trans<|by rw[z]) (λx s=>⟨[U x,U x],Z,aq Z<|h x s⟩)<|bh b)<|Tt p) ⟨Z,Z⟩
theorem Pg(s:β.ok):∃(k:Kd) (c:Bg),(kQ K a).1 [.bag] β=U (.ok<|.str k.nm,c)/\c.ok:=by
 obtain⟨v,w,g,j,v1,d⟩:=bE s (lot:=6) rb rb;have h:∀{β:Bg},aX gu (af (fC<|.str<|Vc zT)<|af (fC<|.str<|Vc HW)<|af (fC<|.str<|Vc tq)<|af (fC<|.str<|Vc "off")<|af (fC<|.str<|Vc G')<|af (fC<|.str<|Vc vS)<|az) [U D.bag] β=U (.ok<|.lst [.str _,.str _,.str _,.str Kd.off.nm,.str _,.str _],β):=λ{β}=>ah Z (by
  unfold gu;rfl)
 have p:∀(k:Kd),f0 _ _=U _->∃(k:Kd) (c:Bg),(kQ K a).1 [.bag] β=U (.ok<|.str k.nm,c)/\c.ok:=λk e=>by
  suffices q:∃x b,(kQ K a).1 [.bag] β=U (x,b)/\(x= .ok (.str k.nm)/\b.ok) by
   obtain⟨x,b,i,rfl,f⟩:=q;exact⟨k,b,i,f⟩
  unfold kQ
  exact jJ<|ao<|aC (b0 h (aq Z g) e) ⟨Z,d⟩
 have:v=0\/v=1\/v=2\/v=3\/v=4\/v=5:=by lia
 obtain rfl|rfl|rfl|rfl|rfl|rfl:=this
 .exact p .rare Z
 .exact p .square Z
 .exact p .power Z
 .exact p .off Z
 .exact p .most Z
 .exact p .least Z
theorem kW{s}(t:Tab r c s)(w:β.ok):∃(p q:Nat) (j:Bg),(lV K a).1 [.bag,ck s] β=U (.ok<|.tup [.int (p:Int),.int (q:Int)],j)/\p<r/\q<c/\j.ok:=by
 have G:=t.r0;have M:=t.r1;have P:=t.c0;have S:=t.c1;obtain⟨v,β1,m,y,v1,k⟩:=bE w (lot:=(r:Int)) ln ln;obtain⟨u,E,n,A,B,f⟩:=bE k (lot:=(c:Int)) ln ln;obtain⟨e,g,h⟩:=t.shp.at (i:=0) ln;have l:(gI s)[0]?=U (e.map D.int):=by rw[UN,g];rfl
 obtain⟨p,rfl⟩:∃p:Nat,v=(p:Int):=⟨v.toNat,ln⟩;obtain⟨q,rfl⟩:∃q:Nat,u=(q:Int):=⟨u.toNat,ln⟩
 suffices z:∃x b,(lV K a).1 [.bag,ck s] β=U (x,b)/\(x= .ok (.tup [.int (p:Int),.int (q:Int)])/\b.ok) by
  obtain⟨x,b,o,rfl,f⟩:=z;exact⟨p,q,b,o,ln,ln,f⟩
 unfold lV
 apply jJ;exact aF (aq (aa Z<|aa (ah Z<|yI<|by rw[UD,t.shp.1]) Z) m)<|ao<|aC (ah (aa Z<|aa (aq (aa Z<|aa (ah (aa (b0 Z Z<|ug l) Z)<|dn<|by rw[UD,h]) Z) n) Z) cj) ⟨Z,f⟩
theorem tup3:fZ [x,y,z]=U (.tup [x,y,z]):=by
 rfl
theorem t7.sums(p:t7 g B rs cs):(∀β,(gH K a).1 [ck g] β=U (.ok<|nL rs,β))/\∀β,(eS K a).1 [ck g] β=U (.ok<|nL cs,β):=by
 have s:=p.c6;have d:=p.nr.2.1;refine⟨λβ=>?_,λβ=>?_⟩
 .have b:=tF (K:=K) (a:=a) (β:=β) (by rw[p.shp.1];lia)
  rw[p.rw1]at b;exact b
 .have c:=oN (K:=K) (a:=a) (β:=β) p.shp p.nr.1 ln ln
  rw[p.cl1]at c;exact c
theorem t7.cl(a:t7 g B rs cs)(b:rs.sum<=11):KX (ϱ rs) (ϱ cs) rs cs:=by
 have c:=a.sm;exact⟨⟨a.nr.2.1,a.c6,λx q=>U1 (cP q) ln,λy s=>U1 (cP s) ln⟩,Z,Z,ln⟩
theorem JM(s:t7 g B rs cs)(C:KX (ϱ rs) (ϱ cs) rs cs)(b:p<ϱ rs)(c:q<ϱ cs)(k):(pA K a).1 [.str k.nm,ck g,.tup [.int (p:Int),.int (q:Int)]] β=U (.ok<|mD a k rs cs p q,β):=by
 unfold pA
 apply aE;refine ao<|aC ?_ ⟨Z,Z⟩;unfold zc;rw[M.bind_ok<|aa Z<|aa (aq Z<|s.sums.1 β)<|aa (aq Z<|s.sums.2 β) Z,M.bind_ok<|aa Z Z];exact(M.bind_ok<|O3 C.ok s.toNt0 b c k).trans Z
theorem JL(p:t7 g B rs cs)(C:KX (ϱ rs) (ϱ cs) rs cs):(pz K a).1 [ck g] β=U (.ok<|K_ rs cs,β):=by
 unfold pz
 exact aE<|aF (aq Z<|p.sums.1 β)<|aF (aq Z<|p.sums.2 β)<|ao<|aC (ah (aa Z<|aa Z<|aa (aq Z<|Mp C.ok) Z) tup3) ⟨Z,Z⟩
theorem S4(n){l:ϊ}(h:ϱ l<=4):cz K a (n+2) [tN l,tN l] β=U (.ok<|.bl O,β):=DQ n (.inr Z) (by rw[UD,UD];lia) λz b=>by
 obtain⟨i,_,rfl⟩:=UL.mp b;exact wU n
theorem S5(h:ϱ x.2<=4):cz K a 4 [rD<|L3 kd W rs cs p q x,rD<|L3 kd W rs cs p q x] β=U (.ok<|.bl O,β):=DQ 2 (.inr Z) (by show 4<=1000;decide) λw hw=>by
 obtain rfl|hw:=U4.mp hw
 .exact wU 2
 obtain rfl|hw:=U4.mp hw
 .exact S4 1 h
 obtain rfl|hw:=U4.mp hw
 .exact wU 2
 obtain rfl:=Vs.mp hw;exact wU 2
theorem Qo{l:Ϩ}(b:ϱ l<=1000)(h:∀x∈l,ϱ x.2<=4):cz K a 5 [qk<|l.map<|L3 kd W rs cs p q,qk<|l.map<|L3 kd W rs cs p q] β=U (.ok<|.bl O,β):=DQ 3 (.inl Z) (by rw[UD,UD];exact b) λz c=>by
 obtain⟨y,s,rfl⟩:=UL.mp c;obtain⟨x,w,rfl⟩:=UL.mp s;exact S5<|h x w
theorem Nz(b:kd.isP=O){v}(h:v.sum<=40)(j):pP kd rs cs p q j v<2^1000:=by
 cases kd with
 |rare=>exact cg (my h) rb
 |power=>
  have:=tR (i:=ϱ v) h;rw[VB]at this;exact cg this ln
 |_=>cases b
theorem Rk(b:l≠[]):xf [.lst<|(nI l).map D.int]=U (.int ((oD l:Nat):Int)):=by
 show tZ _=_;rw[iE,<-(iA b).2.2];cases l with
 |nil=>exact Vl Z b
 |cons x l=>rfl
theorem Rm(b:l≠[]):qB [.lst<|(nI l).map D.int]=U (.int ((o_ l:Nat):Int)):=by
 unfold qB;simp only[iE];rw[<-(iG b).2.2];cases l with
 |nil=>exact Vl Z b
 |cons x l=>rfl
end
section
variable{K:Vb}{a:Ad}{β:Bg}
theorem pl_r(p):plD 2 (rD p):=λx hx=>by
 obtain rfl|hx:=U4.mp hx
 .trivial
 obtain rfl|hx:=U4.mp hx
 .intro z b
  obtain⟨i,_,rfl⟩:=UL.mp b;trivial
 obtain rfl|hx:=U4.mp hx
 .trivial
 cases Vs.mp hx;trivial
theorem ze(l m):dE (qk l) (qk m)=U (.bl<|decide (l=m)):=by
 have e:∀p:R4,pj (rD p)=U (.tuple [.int p.1,.tuple<|p.2.1.map .int,.int p.2.2.1,.int p.2.2.2]):=λp=>by
  simp[rL,pj,toPs,(λu=>ny (λx=>Z) u:∀u:ώ,toPs (u.map D.int)=U _),Wx]
 have b:∀l:ϭ,pj (qk l)=U _:=λl=>by
  unfold pj;rw[ny e];rfl
 have c:∀l:ϭ,oA (qk l)=O:=λl=>zr 3 (λx a=>by
  obtain⟨p,_,rfl⟩:=UL.mp a;exact pl_r p) rb
 rw[wn Z (b l) (b m) (c l)<|c m,YA,ma λp q=>?_];rw[YA];simp[YV,eqI];rw[YA,ma eqI];obtain⟨w,E,G,K⟩:=p;obtain⟨M,f,P,S⟩:=q;simp_all
theorem Rg(a:0<=x/\x<=40)(w:0<=y/\y<=40):db (.int x) (.int y)=U (.int<|x*y):=by
 have sm:∀z:Int,0<=z/\z<=40->cG z=O:=λz b=>by
  unfold cG;rw[Vx];exact VT (show z.natAbs<=40 by lia) (by decide +kernel)
 show(if(cG x&&cG y)=O then _ else _)=_;simp_all
theorem UA(x y)(h:ϱ x+ϱ y<=1000):dG (iv x) (iv y)=U (iv<|x++y):=by
 cases x with
 |nil=>rfl
 |cons i x=>
  show(if(D.int i::x.map _).length+ϱ (y.map _)<=Ve then _ else _)=_;rw[US<|bh<|by simpa using h];simp_all
theorem PP{a}(e:f a β=U (.ok<|iv l,β)):zb f (U<|fC<|.int 1) Y a β=U (.ok<|iv<|l.drop 1,β):=by
 unfold zb iH;simp only[M.bind,e,M.ret,M.ofO,fC,qe,DJ];rw[show(1:Int)=((1:Nat):Int)from Z,i9,<-Ys]
theorem PQ{a}(e:f a β=U (.ok<|iv l,β)):zb f Y (U<|fC<|.int 1) a β=U (.ok<|iv<|l.take 1,β):=by
 unfold zb iH;simp only[M.bind,e,M.ret,M.ofO,fC,qe,DJ];rw[show(1:Int)=((1:Nat):Int)from Z,uw,<-ZA]
theorem ET{a}(E:ko (ϱ ai) a=U w)(b:ai[w]?=U p):f0 (.lst<|(ai.map rL).map D.lst) (.int a)=U (.lst<|rL p):=by
 show l6 _ _=_;unfold l6;simp_all
theorem Nu(ai:ϭ):(ai.map rL).all noLs=O:=X5.mpr λx a=>by
 obtain⟨p,_,rfl⟩:=UL.mp a;show(O&&(noLs _&&(O&&(O&&O))))=O;rw[ia];rfl
abbrev G_(R:ϭ)(b:Nat)(c:Sl)(i w:Nat)(d:ϥ):Ds:=[U<|.sh .bag,U<|.sh<|qk R,U<|.sh<|.int (b:Int),U c,U<|.sh<|.int (i:Int),U<|.sh<|.int (w:Int),d]
abbrev lw(ai:ϭ):ϋ:=ai.map λp=>D.lst<|rL p
theorem KN{a b}(f:a->b):∀(l:List a) (i:Nat),(l.map f).eraseIdx i=(l.eraseIdx i).map f
 |[],_=>rfl
 |_::_,0=>rfl
 |x::l,i+1=>VR _<|KN f l i
theorem yD(ai):(ai.map rL).map D.lst=lw ai:=by rw[UR];rfl
def Sb(s:Sl):Prop:=∃a:ϭ,a.length<=1000/\(s= .grd (a.map rL)\/s= .own (lw a)\/s= .sh (.lst<|lw a))
theorem np(j:ai[ja]?=U p)(a:ko (ϱ ai) ka=U ja)(l:ko 4 kb=U jb)(E:(rL p).set jb d=rL p')(K:noL d=O)(m:g (fy<|G_ R b (.grd<|ai.map rL) i w c) β=U (.ok d,β))
  (n:e (fy<|G_ R b (.grd<|ai.map rL) i w c) β=U (.ok<|.int ka,β)) (o:f (fy<|G_ R b (.grd<|ai.map rL) i w c) β=U (.ok<|.int kb,β)) (k:Gw h (G_ R b (.grd<|(ai.set ja p').map rL) i w c) β Q):Gw (aP (oq 3 e f g) h) (G_ R b (.grd<|ai.map rL) i w c) β Q:=by
 apply CO (ds:=rL p) m n o Z (by rw[UD];exact a) (by rw[UN,j];rfl) l K;rw[E,<-Zh];exact k
def RQ(p:R4):Prop:=p.2.1.length<=4/\cG p.2.2.1=O/\cG p.2.2.2=O
abbrev Po(R:ϭ)(c i w:Nat)(β:Bg):m_->Bg->Prop:=λo D=>∃a,o= .nx a/\β=D/\∃b d,a=G_ R c b i w d/\Sb b
section
variable{R:ϭ}{P i w:Nat}{s:ϥ}{p:R4}
theorem yn{ai:ϭ}(h:ϱ ai<=1000):Gw gNil (G_ R P (.grd<|ai.map rL) i w s) β (Po R P i w β):=b_ ⟨_,Z,Z,_,_,Z,ai,h,.inl Z⟩
theorem fld(b:P=2\/P=3)(p):ko 4 (P:Int)=U P/\∃y,f0 (.lst<|rL p) (.int (P:Int))=U (.int y)/\∀x:Int,∃p',(rL p).set P (.int x)=rL p':=by
 obtain rfl|rfl:=b
 .exact⟨Z,p.2.2.1,Z,λx=>⟨(p.1,p.2.1,x,p.2.2.2),Z⟩⟩
 .exact⟨Z,p.2.2.2,Z,λx=>⟨(p.1,p.2.1,p.2.2.1,x),Z⟩⟩
theorem Na{a}(k:Gw g (th n a) β Q):Gw (thG n g) a β Q:=k
theorem ixB(n)(b:i<n):∃j,j<n/\ko n ((i:Int)-1)=U j:=by
 unfold ko;by_cases z:0<=(i:Int)-1
 .exact⟨i-1,ln,by rw[US z,US ln,show((i:Int)-1).toNat=i-1 by lia]⟩
 .exact⟨n-1,ln,by rw[UU z,US ln,show((i:Int)-1+(n:Int)).toNat=n-1 by lia]⟩
theorem ixZ(n)(a:1<=n):ko n (-1)=U (n-1):=by
 unfold ko;rw[UU rb,US ln,show((-1:Int)+(n:Int)).toNat=n-1 by lia]
theorem IA{ai:ϭ}(f:R4->R4){b:FL}(c:ϱ ai<=1000)(d:∀p∈ai,b [U<|.lst<|rL p] β=U (.ok<|rL<|f p,β)):Gw (fzG 3<|sk 3<|iI 1 [] (cR<|ac 3) (gt 0) (λ_=>M.ret O)<|sE b) (G_ R P (.grd<|ai.map rL) i w s) β (Po R P i w β):=by
 refine wQ (ao<|wP (ai:=(ai.map f).map rL) ?_ (Nu _)<|yn<|by rw[UD];exact c);rw[UR];exact me ai _ _ (bN (by show U _=_;rw[yD]) Z) (λp e=>⟨_,Z,d p e⟩)<|bh c
theorem PV{fl}{a}(b:a.getD n Y=U (.own cs))(e:fl (vw a) β=U (.ok [.int k],β1))(c:ko (ϱ cs) k=U j)(d:ϱ cs<=Ve)(f:Gw h (a.set n<|U<|.own<|cs.eraseIdx j) β1 Q):Gw (aP (xo n fl) h) a β Q:=dh (by unfold xo;simp_all) f
theorem PX{a}(b:a.getD n Y=U (.own cs))(c:a.getD j Y=U (.sh<|.int k))(e:l6 cs k=U d)(f:ϱ cs<Ve)(g:Gw h (a.set n<|U<|.own<|cs++[d]) β Q):Gw (aP (xp n j) h) a β Q:=dh (by unfold xp;simp_all) g
theorem Rh(h:cG x=O):db (.int 2) (.int x)=U (.int<|2*x):=by
 have b:cG 2=O:=by
  rfl
 show(if(cG 2&&cG x)=O then _ else _)=_;rw[b,h];rfl
theorem SA:zu (.lst [x,y,z,v]) (.lst [])=U [x,y,z,v]:=L2.Pu.cat_ok (by show 4<=1000;decide)
theorem noT(l):noL (iv l)=O:=ia l
theorem PJ(f5:1<=R.length)(h1:R.length<=900)(T:∀p∈R,RQ p)(B:P=2\/P=3)(ok:β.ok):∃(ai:ϭ) (b:Bg),(nJ K a).1 [.bag,qk R,.int (P:Int)] β=U (.ok<|qk ai,b)/\b.ok:=by
 suffices h:∃x b,(nJ K a).1 [.bag,qk R,.int (P:Int)] β=U (x,b)/\(∃ai,x= .ok (qk ai)/\b.ok) by
  obtain⟨x,b,e,ai,rfl,C⟩:=h;exact⟨ai,b,e,C⟩
 unfold nJ
 dsimp only
 refine jJ ?_;refine wP (ai:=R.map rL) (β1:=β) (me R rD rL Z (λp _=>⟨[U<|rD p],Z,Z⟩)<|bh ln) (Nu _) ?_;obtain⟨i,β1,p1,i0,i1,F⟩:=bE ok (lot:=(R.length:Int)) ln ln;obtain⟨w,M,p2,w0,w1,H⟩:=bE F (lot:=11) rb rb;obtain⟨i,rfl⟩:∃n:Nat,i=(n:Int):=⟨i.toNat,ln⟩;obtain⟨w,rfl⟩:∃n:Nat,w=(n:Int):=⟨w.toNat,ln⟩;have I:i<R.length:=by lia
 have u:R[i]?=U R[i]:=UJ I;have m:ko R.length (i:Int)=U i:=by rw[Pu.ld ln ln,Wc]
 have t:=ET m u;have A:=T _<|VU I;refine PU (aq (aa Z<|aa (ah Z<|dn (r:=R.length)<|by rw[UD,UD]) Z) p1)<|aF (aq Z p2) ?_;show Gw _ (G_ R P (.grd<|R.map rL) i w Y) M _
 let b5:Nat->Ds->Bg->Prop:=λn S β=>M=β/\∃l s,S=G_ R P l i w s/\((n<=w/\l= .grd (R.map rL))\/(w<n/\Sb l))
 have E:∀{n:Nat} {g:G} {S:Ds} {β:Bg},b5 n S β->(w=n->∀s,Gw g (G_ R P (.grd<|R.map rL) i w s) M<|Po R P i w M)->Gw (pa (fB<|f2 dE (ac 5)<|fC<|.int (n:Int)) g gNil) S β (λo β1=>∃V,o= .nx V/\b5 (n+1) V β1):=by
  rintro n g S β ⟨rfl,l,s,rfl,hs⟩ k;refine ao<|iQ (β1:=M) (dr<|b0 Z Z eq_int) ?_;by_cases q:w=n
  .rw[US<|U3 ln]
   rcases hs with⟨_,rfl⟩|⟨z,_⟩
   .obtain⟨o,β3,e,V,rfl,rfl,l,J,rfl,sb⟩:=k q s
    exact dh e<|b_ ⟨_,Z,Z,l,J,Z,.inr ⟨ln,sb⟩⟩
   .lia
  .rw[UU (λz=>q (by have:=WP z;lia))]
   refine aQ<|b_ ⟨_,Z,Z,l,s,Z,hs.imp (λz=>⟨ln,z.2⟩) λz=>⟨ln,z.2⟩⟩
 refine jc (b5 2) (ao<|iQ (β1:=M) (dr<|b0 Z Z lt_int) ?_) ?_
 .by_cases q:w<2
  .rw[US<|U3 ln]
   obtain⟨b1,y,e,f⟩:=fld B R[i];obtain⟨p',ep⟩:=f<|y+1-2*(w:Int);exact np u m b1 ep Z (b0 (b0 (b0 (b0 Z Z t) Z e) Z Z) (b0 Z Z<|Rg ln ln) Z) Z Z<|b_ ⟨_,Z,Z,_,Y,Z,.inr ⟨q,_,by rw[VM];lia,.inl Z⟩⟩
  .rw[UU (λz=>q (by have:=WP z;lia))]
   exact aQ<|b_ ⟨_,Z,Z,_,Y,Z,.inl ⟨ln,Z⟩⟩
 intro S β C;refine jc (b5 3) (E (n:=2) C λ_ s=>?_) ?_
 .refine Na (ao<|PV (cs:=(R.map rL).map D.lst) (k:=(i:Int)) (j:=i) Z Z (by rw[UD,UD];exact m) (bh<|by rw[UD,UD];lia)<|b_ ⟨_,Z,Z,.own<|lw<|R.eraseIdx i,s,?_,R.eraseIdx i,U1 (List.length_eraseIdx_le _ _) ln,.inr<|.inl Z⟩)
  rw[yD];unfold lw;rw[<-KN];rfl
 intro S β h3;refine jc (b5 4) (E (n:=3) h3 λ_ s=>?_) ?_
 .refine Na (ao<|PX (cs:=(R.map rL).map D.lst) (k:=(i:Int)) Z Z t (VT (show _<=1000 by rw[UD,UD];lia) rb)<|b_ ⟨_,Z,Z,.own<|lw<|R++[R[i]],s,?_,R++[R[i]],by rw[Va,VX];lia,.inr<|.inl Z⟩)
  rw[yD];show[_,_,_,U<|Sl.own<|lw R++[_],_,_,_]=[_,_,_,U<|Sl.own<|(R++[R[i]]).map _,_,_,_];rw[Vj];rfl
 intro S β h4;refine jc (b5 5) (E (n:=4) h4 λ_ s=>?_) ?_
 .refine wQ (ao<|aF (d:= .lst<|lw<|R.drop 1++R.take 1) (β1:=M) (b0 (jr (xs:=(R.map rL).map D.lst) Z Z) (uH (xs:=(R.map rL).map D.lst) Z Z) ?_)<|b_ ⟨_,Z,Z,_,s,Z,R.drop 1++R.take 1,by rw[Va,YN,VI];lia,.inr<|.inr Z⟩)
  rw[show eX ((R.map rL).map D.lst) (U 1) Y=((R.map rL).map D.lst).drop 1 from i9 (k:=1),show eX ((R.map rL).map D.lst) Y (U 1)=((R.map rL).map D.lst).take 1 from uw (k:=1),yD,kz<|by rw[YN,VI,UD];lia];unfold lw;rw[Vj,Ys,ZA]
 intro S β h5;refine jc (b5 6) (E (n:=5) h5 λ_ s=>?_) ?_
 .refine IA (λp=>(p.1,p.2.1,2*p.2.2.1,2*p.2.2.2)) ln λp A=>?_
  obtain⟨_,q1,q2⟩:=T p A;exact PR (b0 ((uH (xs:=rL p) Z Z).trans<|by rw[show eX (rL p) Y (U 2)=[.int p.1,iv p.2.1]from uw (k:=2)]) (ah (aa (b0 Z (b0 Z Z Z)<|Rh q1)<|aa (b0 Z (b0 Z Z Z)<|Rh q2) Z) Mi)<|kz (by show 4<=1000;decide)) ((jr (xs:=rL p) Z Z).trans<|by rw[show eX (rL p) (U 4) Y=[]from i9 (k:=4)]) SA
 intro S β h6;refine jc (b5 7) (E (n:=6) h6 λ_ s=>?_) ?_
 .refine IA (λp=>(p.1,p.2.1,p.2.2.1+1,p.2.2.2+1)) ln λp A=>?_
  exact PR (b0 ((uH (xs:=rL p) Z Z).trans<|by rw[show eX (rL p) Y (U 2)=[.int p.1,iv p.2.1]from uw (k:=2)]) (ah (aa (b0 (b0 Z Z Z) Z Z)<|aa (b0 (b0 Z Z Z) Z Z) Z) Mi)<|kz (by show 4<=1000;decide)) ((jr (xs:=rL p) Z Z).trans<|by rw[show eX (rL p) (U 4) Y=[]from i9 (k:=4)]) SA
 intro S β h7;refine jc (b5 8) (E (n:=7) h7 λ_ s=>?_) ?_
 .exact ao (np (p':=(R[i].1,R[i].2.1.drop 1++R[i].2.1.take 1,R[i].2.2)) u m Z Z (noT _) (b0 (PP<|b0 (b0 Z Z t) Z Z) (PQ<|b0 (b0 Z Z t) Z Z)<|UA _ _ (by have:=A.1;rw[YN,VI];lia)) Z Z<|yn<|by rw[VM];lia)
 intro S β h8;refine jc (b5 9) (E (n:=8) h8 λ_ s=>?_) ?_
 .obtain⟨j,o7,W⟩:=ixB R.length I
  have ej:R[j]?=U R[j]:=UJ o7;have c:(R.set i (R[i].1,R[j].2.1,R[i].2.2)).length=R.length:=VM;have v:(R.set i (R[i].1,R[j].2.1,R[i].2.2))[j]?=U (R.set i (R[i].1,R[j].2.1,R[i].2.2))[j]:=UJ (by rw[c];exact o7);generalize hq:(R.set i (R[i].1,R[j].2.1,R[i].2.2))[j]=q at v;exact GK (d:=iv R[i].2.1) (β1:=M) (b0 (b0 Z Z t) Z Z) (np (p':=(R[i].1,R[j].2.1,R[i].2.2)) u m Z Z (noT _) (b0 (b0 Z (b0 Z Z Z)<|ET W ej) Z Z) Z Z<|ao<|np (p':=(q.1,R[i].2.1,q.2.2)) v (by rw[c];exact W) Z Z (noT _) Z (b0 Z Z Z) Z<|yn<|by rw[VM,c];lia)<|noT _
 intro S β h9;refine jc (b5 10) (E (n:=9) h9 λ_ s=>?_) ?_
 .exact ao (np (p':=(R[i].1+1,R[i].2)) u m Z Z Z (b0 (b0 (b0 Z Z t) Z Z) Z Z) Z Z<|yn<|by rw[VM];lia)
 intro S β L;refine jc (b5 11) (E (n:=10) L λ_ s=>?_) ?_
 .have X:R[0]?=U R[0]:=UJ ln
  have o8:ko R.length 0=U 0:=by
   have:=Pu.ld (n:=R.length) (k:=0) ln ln;exact this
  obtain⟨b1,y,e,f⟩:=fld B R[0];obtain⟨p',ep⟩:=f<|y+1;have c:(R.set 0 p').length=R.length:=VM;have N:(R.set 0 p')[R.length-1]?=U (R.set 0 p')[R.length-1]:=UJ (by rw[c];lia);have a1:ko (R.set 0 p').length (-1)=U (R.length-1):=by rw[c];exact ixZ _ f5
  generalize (R.set 0 p')[R.length-1]=q at N;obtain⟨b2,y2,e2,o9⟩:=fld B q;obtain⟨q',Q⟩:=o9<|y2+1;exact np X o8 b1 ep Z (b0 (b0 (b0 Z Z<|ET o8 X) Z e) Z Z) Z Z (ao<|np N a1 b2 Q Z (b0 (b0 (b0 Z (x_1 Z Z)<|ET a1 N) Z e2) Z Z) (x_1 Z Z) Z<|yn<|by rw[VM,c];lia)
 rintro S β ⟨rfl,l,s,rfl,hs⟩;rcases hs with⟨z,_⟩|⟨_,ai,hl,hs⟩
 .lia
 have e:cR (ac 3) (fy<|G_ R P l i w s) M=U (.ok<|lw ai,M):=by
  rcases hs with rfl|rfl|rfl
  .show U (VP<|(ai.map rL).map D.lst,M)=_
   rw[yD]
  .rfl
  .rfl
 exact ao<|aC (bx ai (λp=>D.lst<|rL p) rD e (λp _=>⟨[U<|.lst<|rL p],Z,Z⟩)<|bh hl) ⟨ai,Z,H⟩
end
end
section
variable{K:Vb}{a:Ad}{rs cs:ϊ}{W:Wy}{s:D}{kd:Kd}{p q:Nat}
theorem xK{a}{f:a->Nat}:∀l:List a,(∀x∈l,f x<=n)->(l.map f).sum<=ϱ l*n:=List.rec (λ_=>VL _) λx l w h=>by
  rw[UZ,Vk,U5,Nat.succ_mul,Nat.add_comm];exact Z8 (w λy p=>h y<|UI _ p)<|h x UP
theorem Tf{xs w l:ϊ}(C:KX r c xs w)(k:kd.isP=UK)(d:l.sum<=40)(u:ϱ l<=4):jn kd xs w p q j l<=2^277:=by
 have g:w.getD j 0<=40:=by
  rw[UO];cases h:w[j]? with
  |none=>exact VL _
  |some y=>exact C.ok.hy y<|U2 h
 have m:ϱ (z_ l xs<|w.getD j 0)<=4:=by rw[XS];lia
 have o:=λz=>wM (z:=z) d C.ok.hx g;have e:(2:Nat)^277=8192*2^264:=by rw[show 277=13+264 from Z,Nat.pow_add]
 rw[e];have b:∀{n:Nat},n<=8192->n<=8192*2^264:=λh=>U1 h<|Zc _ (Nat.pow_pos rb);have t:l.getD p 0<=40:=by
  rw[UO];cases h:l[p]? with
  |none=>exact VL _
  |some y=>exact U1 (cP<|U2 h) d
 have a:(if j=q then l.getD p 0 else 0)<=8192*2^264:=by
  split
  .exact b ln
  .exact VL _
 cases kd with
 |rare=>cases k
 |power=>cases k
 |most=>exact a
 |least=>exact a
 |off=>
  have s:=xK (f:=B9 xs.sum) (n:=1600) _ λz i=>by
   have:=o z i;have:=rT this.1 C.tx;unfold B9;lia
  have:=Xk 1600 m;show B6 _ _ _ _<=_;exact b (by unfold B6;lia)
 |square=>
  have s:=xK (f:=Y_<|nj<|b8 xs w) (n:=1600*2^264) _ λz i=>by
   have:=o z i;have:=rT this.1 this.1;unfold Y_;split
   .exact U1 (ZR _ _) (YI this (U1 (yK<|kU C.ok.hx C.ok.hy).2<|Xl rb (by have:=jx (xs:=xs) C.ok.ly;have:=C.ok.lx;lia)))
   .exact VL _
  have:=Xk (1600*2^264) m;show sqN _ _ _ _<=_;unfold sqN;lia
theorem IL:∀(a:Ϙ) (j:Nat),(∀v∈a,∀j,P j v<=n)->(pts P j a).sum<=ϱ a*n:=List.rec (λ_ _=>VL _) λv a w j h=>by
  show(P j v::pts P _ a).sum<=_;rw[Vk,U5,Nat.succ_mul,Nat.add_comm];exact Z8 (w _ λu b=>h u<|UI _ b)<|h v UP j
theorem Nf(h:la K a rs cs W s)(C:KX (ϱ rs) (ϱ cs) rs cs)(d:j<=ϱ cs)(e:r∈en W rs j)(D:y∈vE kd W rs cs p q j r):y<2^1000:=by
 cases f:kd.isP with
 |true=>exact sJ h d e f D
 |false=>
  obtain⟨w,c,rfl⟩:=UL.mp D;obtain⟨g,o⟩:=yk c;have G:=h.c6;obtain⟨t,i,k⟩:=h.at d e;have E:=(gL h.ok h.sm j d _ e).2;obtain⟨l,_,b⟩:=uI h.ok g ln E;have tot:(w.map WC).sum<=40:=by rw[l,<-E];exact k
  unfold vr;rw[f,UU UX];have:=IL w j λv c j=>Tf (p:=p) (q:=q) (j:=j) C f (U1 (cP<|UL.mpr ⟨v,c,Z⟩) tot) (by rw[b v c,i];exact C.ok.lx);exact cg (m:=280) (U1 this<|U1 (Xk _ ln:ϱ w*2^277<=8*2^277)<|by exact UV _) rb
end
section
variable{K:Vb}{a:Ad}{β:Bg}{rs cs:ϊ}{kd:Kd}{p q:Nat}{B:ϰ}
open L2.Hs (Up kl)
theorem Nb{fk b}(g:x∉N)(j:ϱ N<=1000)(l:δ.getD i Y=U (.odc O (N.map kP)<|N.map f))(m:fk (fy δ) β=U (.ok<|dK O<|kP x,β))(n:b (fy δ) β=U (.ok<|f x,β))(a:noL (f x)=O)(k:Gw h (δ.set i<|U<|.odc O ((N++[x]).map kP)<|(N++[x]).map f) β Q):Gw (aP (qN i fk b) h) δ β Q:=by
 have c:kP x∉N.map kP:=λz=>by
  obtain⟨q,o,e⟩:=UL.mp z;exact g<|pO e▸o
 refine sI n m l (dy λe=>(by cases e)) a (VT (show _<=1000 by rw[UD];exact j) rb) ?_;unfold F0 stY;rw[UU c,UU c];simp_all
abbrev leS(kd:Kd)(rs cs:ϊ)(p q:Nat)(B:ϰ)(x:Nat×ϊ)(F:D)(l g:ϊ)(c d b:ϥ):Ds:=[U<|.sh<|.str kd.nm,U<|.sh<|K_ rs cs,U<|.sh<|.tup [.int (p:Int),.int (q:Int)],U<|.sh<|j1 B,U<|.sh<|dK O<|kP x,U<|.sh F,U<|.own<|(nI l).map D.int,U<|.own<|(nI g).map D.int,c,d,b]
theorem NJ{x}:∀{N:Ϩ},x∉N->lg (N.map kP) (N.map f) (kP x)=Y
 |[],_=>rfl
 |q::N,h=>by
  have a:=NJ (f:=f) λz=>h<|UI _ z;unfold lg at⊢;rw[UZ,UZ,Wv,W8,Vv λe=>h<|by rw[<-pO e];exact UP];exact a
abbrev inN(N:Ϩ)(j:Nat)(r v:ϊ):Bool:=decide ((j+1,less r v)∈N)
theorem Uj{N:Ϩ}{f:Nat×ϊ->D}(x):EC O (dK O<|kP x) (.dct O (N.map kP)<|N.map f)=U (.bl<|decide (x∈N)):=by
 show Option.map _ _=_;rw[dy λe=>(by cases e)];show U (D.bl<|Option.isSome _)=_;by_cases h:x∈N
 .rw[jE h,U3 h];rfl
 .rw[Vv h,NJ h];rfl
theorem Pb(h:la K a rs cs (wB B cs)<|j1 B)(hB:D_ (ϱ rs) (ϱ cs) B)(C:KX (ϱ rs) (ϱ cs) rs cs)(W:p<ϱ rs){j}{r}(b:j<ϱ cs)(y:r∈en (wB B cs) rs j)(X:vE kd (wB B cs) rs cs p q j r≠[]){N:Ϩ}(L:∀u,u∈en (wB B cs) rs (j+1)->((j+1,u)∈N↔vE kd (wB B cs) rs cs p q (j+1) u≠[])):
  (u4 K a).1 [.str kd.nm,K_ rs cs,.tup [.int (p:Int),.int (q:Int)],j1 B,dK O<|kP (j,r),.dct O (N.map kP)<|N.map<|eV kd (wB B cs) rs cs p q] β=U (.ok<|eV kd (wB B cs) rs cs p q (j,r),β):=by
 have c6:=h.c6;obtain⟨A,o9,o8⟩:=h.at (Yj b) y;obtain⟨M,f5⟩:=hB.col b;have P:∀v,v∈(wB B cs j r).filter (inN N j r)↔v∈wB B cs j r/\vE kd _ rs cs p q _ _≠[]:=λv=>by
  rw[Wg,Vx];exact and_congr_right λz=>L _<|h.nx y z
 obtain⟨S,o,V⟩:=wo b _ P X;have sl:ϱ (wB B cs j r)<=500:=U1 (CN h A)<|UV _;unfold u4
 apply aE;refine bw (ds:=(wB B cs j r).map nL) (bN (aq (aa (b0 Z Z Z)<|aa (b0 (b0 Z Z Z) (b0 Z Z Z)<|cQ<|by rw[UN,UN,fI b,UJ b];rfl)<|aa (vx hB h.nr.2.1 b Z Z λ_=>b0 Z Z Z) Z)<|va Z A (by rw[M,o9]) f5) Z) (λi w F=>β=F/\∃H I c,w=leS kd rs cs p q B _ _ ((((wB B cs j r).take i).filter<|inN N j r).map λv=>hE kd (pP kd rs cs p q j v)<|oD<|vE kd (wB B cs) rs cs p q (j+1)<|less r v) ((((wB B cs j r).take i).filter<|inN N j r).map λv=>hE kd (pP kd rs cs p q j v)<|o_<|vE kd (wB B cs) rs cs p q (j+1)<|less r v) H I c) ⟨Z,Y,Y,Y,Z⟩ ?_ ?_
 .rintro i d w _ hd ⟨rfl,H,I,c,rfl⟩
  obtain⟨v,o,rfl⟩:=bR hd;have Q:=U2 o;have g:=(h.ok j r).subset Q;have J:=h.nx y Q;have k:=U1 (cq g).sum o8;have s:ϱ v=ϱ rs:=by rw[(cq g).len];exact o9
  have t:=Uj (N:=N) (f:=eV kd (wB B cs) rs cs p q) (j+1,less r v);refine⟨_,Z,aF (ah (aa (b0 (b0 Z Z Z) Z Z)<|aa (ah (aa (aq (aa (b0 Z Z Z)<|aa Z Z)<|rX Z (cq g) A.2.1) Z)<|xF _) Z) cj)<|ao ?_⟩;rw[fP o,List.filter_append];have E:∀f:ϊ->Nat,ϱ ((nI<|(((wB B cs j r).take i).filter<|inN N j r).map f).map D.int)<Ve:=λf=>VT (show _<=500 by
   simp;exact U1 (Xc _ _)<|by rw[VI];lia) rb
  by_cases l:(j+1,less r v)∈N
  .rw[List.filter_cons_of_pos (p:=inN N j r)<|U3 l,List.filter_nil]
   rw[U3 l]at t;have m:=(L _ J).mp l;have R:su (.dct O (N.map kP)<|N.map<|eV kd (wB B cs) rs cs p q) (dK O<|kP (j+1,less r v))=U (eV kd (wB B cs) rs cs p q (j+1,less r v)):=by
    show(eF O<|dK O<|kP _).bind _=_;rw[dy λe=>(by cases e)];exact jE l
   have o7:∀(T:Ϙ) (f:ϊ->Nat),(nI<|T.map f).map _++[D.int _]=(nI<|(T++[v]).map f).map _:=λT f=>by
    rw[Vj];simp only[Vj];rfl
   refine d7 (dr<|b0 Z Z t)<|kq<|aF (aq (aa Z<|aa Z<|aa Z<|aa (b0 Z Z Z)<|aa Z Z)<|Mj C b k s W kd)<|kq<|lF Z (aa (aq (aa Z<|aa Z<|aa (b0 (b0 Z Z R) Z Z) Z)<|AY kd λn=>⟨Nz n k _,sJ h b J n (iA m).1⟩) Z) (E _) ?_;refine lF Z (aa (aq (aa Z<|aa Z<|aa (b0 (b0 Z Z R) Z Z) Z)<|AY kd λn=>⟨Nz n k _,sJ h b J n (iG m).1⟩) Z) (E _)<|b_ ⟨Z,U<|.sh<|nL v,U<|.sh<|dK O<|kP (j+1,less r v),U<|.sh<|.int ((pP kd rs cs p q j v:Nat):Int),?_⟩;unfold leS;rw[<-o7,<-o7];rfl
  .rw[List.filter_cons_of_neg (by rw[Vx];exact l),List.filter_nil,VA]
   rw[Vv l]at t;exact bn (dr<|b0 Z Z t)<|aQ<|b_ ⟨Z,_,_,_,Z⟩
 .rintro w _ ⟨rfl,H,I,c,rfl⟩
  rw[UD,VB];have G:∀f:ϊ->Nat,((wB B cs j r).filter<|inN N j r).map f≠[]:=λf z=>V<|X4.mp z;refine ao<|aC (ah (aa (ah Z<|Rk<|G _)<|aa (ah Z<|Rm<|G _) Z) cj) ⟨Z,?_⟩;simp_all
theorem Mr(h:la K a rs cs (wB B cs)<|j1 B)(hB:D_ (ϱ rs) (ϱ cs) B)(C:KX (ϱ rs) (ϱ cs) rs cs)(I:p<ϱ rs)(A:ϱ cs=1\/(ϱ rs<=3/\rs.sum<=11/\(rs.sum<=7\/ϱ cs<=3))\/rs.sum<=4)(F:ϱ (hU (wB B cs) rs cs.length)<=1000):(rS K a).1 [.str kd.nm,K_ rs cs,.tup [.int (p:Int),.int (q:Int)],j1 B] β=U (.ok<|qk<|((hU (wB B cs) rs (ϱ cs)).filter<|pos (wB B cs) (ϱ cs)).map<|L3 kd (wB B cs) rs cs p q,β):=by
 have m:=List.Pairwise.filter (pos (wB B cs) (ϱ cs))<|ED (W:=wB B cs) (rs:=rs) (ϱ cs);have J:=O8 (β:=β) h hB A F;have mL:∀x,x∈(hU _ rs (ϱ cs)).filter _↔(x.1<=ϱ cs/\x.2∈en (wB B cs) rs x.1)/\vE kd (wB B cs) rs cs p q x.1 x.2≠[]:=λx=>by rw[Wg,mX,w8]
 have N:ϱ ((hU (wB B cs) rs cs.length).filter<|pos (wB B cs) cs.length)<=1000:=U1 (Xc _ _) F;have f5:Up (((hU (wB B cs) rs (ϱ cs)).filter<|pos (wB B cs) (ϱ cs)).map λp=>kl O<|kP p):=List.Pairwise.sublist (List.Sublist.map _ ZQ)<|ND (ϱ cs);generalize (hU (wB B cs) rs (ϱ cs)).filter _=L at*;unfold rS
 refine aE<|wR ?_;refine bw (ds:=L.reverse.map λx=>dK O<|kP x) (bN (b0 (aq (aa (b0 Z Z Z)<|aa (b0 Z Z Z)<|aa Z Z) J) Z Z) ?_) (λi δ o=>β=o/\∃t,δ=[U<|.sh<|.str kd.nm,U<|.sh<|K_ rs cs,U<|.sh<|.tup [.int (p:Int),.int (q:Int)],U<|.sh<|j1 B,U<|.odc O ((L.reverse.take i).map kP)<|(L.reverse.take i).map<|eV kd (wB B cs) rs cs p q,t]) ⟨Z,Y,Z⟩ ?_ ?_
 .show U _=U _
  simp
 .rintro i d δ _ hd ⟨rfl,t,rfl⟩
  obtain⟨⟨j,r⟩,c,rfl⟩:=bR hd;obtain⟨⟨n,Q⟩,l⟩:=(mL _).mp<|X6.mp<|U2 c;have E:=K4 m c;have R:=λy=>N2 m (y:=y) c;have f:∀y,y∈L.reverse.take i->y∈L:=λy G=>X6.mp<|W0 G;have H:ϱ (L.reverse.take i)<=1000:=by rw[VI,YU];lia
  rw[fP c];generalize L.reverse.take i=T at*;have b:=ah (β:=β) (fl:=af (f2 f0 (ac 1)<|fC<|.int 1) az) (δ:=fy [U<|.sh<|.str kd.nm,U<|.sh<|K_ rs cs,U<|.sh<|.tup [.int (p:Int),.int (q:Int)],U<|.sh<|j1 B,U<|.odc O (T.map kP)<|T.map<|eV kd (wB B cs) rs cs p q,U<|.sh<|dK O<|kP (j,r)]) (aa (b0 Z Z Z) Z)<|pJ cs;refine⟨_,Z,ao ?_⟩;by_cases e:j=ϱ cs
  .subst e
   have v:vE kd (wB B cs) rs cs p q (ϱ cs) r=[vr kd []]:=xC ..;rw[v]at l;have M:oD (vE kd (wB B cs) rs cs p q (ϱ cs) r)=vr kd []:=by
    rw[v];exact Vs.mp (iA l).1
   have c:o_ (vE kd (wB B cs) rs cs p q (ϱ cs) r)=vr kd []:=by
    rw[v];exact Vs.mp (iG l).1
   refine d7 (dr<|b0 (b0 Z Z Z) b<|eq_int.trans<|by rw[U3 Z])<|Nb E H Z Z (ah (aa (aq Z<|BC kd)<|aa (aq Z<|BC kd) Z)<|cj.trans ?_) Z<|b_ ⟨Z,_,Z⟩;simp_all
  .have g:j<ϱ cs:=by lia
   refine bn (dr<|b0 (b0 Z Z Z) b<|eq_int.trans<|by rw[Vv ln])<|Nb E H Z Z (aq Z<|Pb h hB C I g Q l λu X=>⟨λz=>((mL _).mp<|f _ z).2,λz=>R _ ((mL _).mpr ⟨⟨g,X⟩,z⟩)<|Yb j⟩) Z<|b_ ⟨Z,_,Z⟩
 .rintro δ _ ⟨rfl,t,rfl⟩
  rw[UD,VB];have P:SrP _ (L.reverse.map kP):=⟨by rw[UR];exact f5,by rw[UD,YU];exact (VT (L2.Pu.nd_len (m.imp λz=>z.2) λx w=>(qR<|UV _).mpr ⟨⟨((mL x).mp w).1.1,ln⟩,((mL x).mp w).1.2⟩)<|NE h A),λk=>by rw[List.map_reverse,X6]⟩;refine ao<|aC (bx L _ (λx=>rD<|L3 kd (wB B cs) rs cs p q x) (bN (ah Z<|xN P)<|by rw[UR];rfl) (λx w=>⟨[U<|dK O<|kP x,U<|.dct O _<|L.reverse.map<|eV kd (wB B cs) rs cs p q],Z,b0 Z (b0 (z:=eV kd (wB B cs) rs cs p q x) Z Z ?_) ?_⟩)<|bh N) ⟨Z,by show VP (D.lst _)=VP (D.lst _);rw[UR];rfl⟩
  .show(eF O<|dK O<|kP x).bind _=_
   rw[dy λe=>(by cases e)];exact jE<|X6.mpr w
  .show dG (.tup [.int (x.1:Int),tN x.2]) _=_
   rfl
end
section
variable{K:Vb}{a:Ad}{β:Bg}{n:Nat}{vs:Ϙ}
abbrev csC(vs:Ϙ):ϊ:=vs.map WC
abbrev rwC(n:Nat)(vs:Ϙ):LI:=tp n<|vs.map nI
theorem NG(v)(j):(nI v).getD j 0=((v.getD j 0:Nat):Int):=by
 rw[UO,UO,UN];cases v[j]?<;>rfl
theorem LG(c:∀v∈vs,ϱ v=n):(rwC n vs).map WC=nI (B3 n vs):=by
 have e:B3 n vs=(UT n).map λj=>(B3 n vs).getD j 0:=WZ (by rw[qu c,UD,Vi]) λi d f=>by
  rw[XE,Yg,fI d]
 rw[e];show Ww _ (Ww _ _)=Ww _ _;rw[UR,UR];refine Vr λj b=>?_;show((vs.map nI).map λa=>a.getD j 0).sum=(((B3 n vs).getD j 0:Nat):Int);rw[HZ c (Vg.mp b),<-jA,UR];show _=(Ww _<|Ww _ _).sum;rw[UR];exact VR WC<|Vr λv _=>NG v j
theorem Ty(vs):(vs.map nI).map WC=nI (csC vs):=by
 show _=Ww _ _;rw[UR,UR];exact Vr λv _=>jA v
theorem Qw(b:i<n):(rwC n vs)[i]?=U (nI<|vs.map λv=>v.getD i 0):=by
 rw[P5 b];congr 1;show _=Ww _ _;rw[UR,UR];exact Vr λv _=>NG v i
theorem IY:∀{a:Ϟ} {v:ϊ},(∀(i:Nat) (p:Nat×Nat) (x:Nat),a[i]?=U p->v[i]?=U x->p.1<=x/\x<=p.2)->Q_ a v=O
 |[],_,_=>by rfl
 |_::_,[],_=>by rfl
 |p::a,x::v,h=>by
  have:=h 0 p x Z Z;show(decide _&&decide _&&Q_ a v)=O;rw[IY λi p x b c=>h (i+1) p x b c,U3 this.1,U3 this.2];rfl
theorem zR:∀{a:LI},(∀row∈a,∀x∈row,0<=x)->∃l:Ϙ,a=l.map nI:=λ{x0}=>x0.rec (@λ_=>⟨[],Z⟩) λx a w=>@λh=>by
  obtain⟨l,e⟩:=w λy n=>h y<|UI _ n;obtain⟨m,b⟩:=sL<|h x UP;exact⟨m::l,by rw[e,b];rfl⟩
theorem t7.pos{a}(h:t7 a B rs cs)(D:∀row∈a,∀x∈row,0<=x):0<l0 (wB B cs) (ϱ cs) 0 rs:=by
 obtain⟨vs,e⟩:=zR<|Ni D;have n:=uM (d:=(0:Int)) (c:=ϱ cs) h.shp.1;have o:ϱ vs=ϱ cs:=by rw[<-UD,<-e];exact n.1
 have k:∀v∈vs,ϱ v=ϱ rs:=λv g=>by
  rw[<-UD];apply n.2 _;show nI v∈tp _ a;rw[e];exact UL.mpr ⟨v,g,Z⟩
 have l:a=rwC (ϱ rs) vs:=by rw[<-SQ h.shp,e]
 have t:cs=csC vs:=jC (by rw[<-Ty,<-e,h.cl1]);refine GI ?_ o;rw[(jC (by rw[<-LG k,<-l,h.rw1]):rs=B3 _ vs)];refine M9 k λi r v g E=>?_;rw[WM];have y:=(UY.mp g).1;refine Wg.mpr ⟨?_,IY λj p x m s=>?_⟩
 .have q:cs.getD i 0=v.sum:=by rw[t,UO,UN,g];rfl
  rw[q];exact k8 E
 .unfold p8 at m
  obtain⟨row,b,rfl⟩:=bR m;have A:=h.bok.1.2 _<|U2 b;have u:j<ϱ rs:=by rw[<-k v (U2 g)];exact(UY.mp s).1
  have K:H_ (jo B) j i=U (((row.getD i _).1:Int),((row.getD i (0,0)).2:Int)):=qd (by rw[UN,b];rfl) (by rw[UN,fI ln,UJ ln];rfl);have:=h.kp j i _ _ (qd (by rw[l];exact Qw u) (by rw[UN,UN,g];show U ((v.getD j 0:Nat):Int)=_;rw[UO,s];rfl):H_ a j i=U (x:Int)) K;lia
theorem lU6{us:ό}(h:ϱ us=6):∃b a n w D E,us=[b,a,n,w,D,E]:=by
 obtain⟨b,l,rfl⟩:=WK h;obtain⟨a,n,w,D,E,rfl⟩:=lU5 (by simpa using h);exact⟨_,_,_,_,_,_,Z⟩
theorem S6:cz K a 5 [.bl i,.bl i] β=U (.ok<|.bl O,β):=by
 show fK 2 _ _ _=_;apply aE;refine bn (qm (ah Z Z) Z)<|aQ<|bn (dr<|b0 Z Z Z)<|aQ ?_;exact bn (j3 (dr<|b0 (ah Z Z) (ah Z Z) Z)<|dr<|b0 (ah Z Z) (ah Z Z) Z)<|aQ<|ao<|aC (zK (ah Z Z)<|b0 Z Z<|by cases i<;>rfl) ⟨Z,Z⟩
theorem Mt(β)(P:β.ok):∃i,(tK K a).1 [Y,U<|.sh .bag,Y,Y,Y,Y,Y,Y,Y,Y,Y] β=U (.rt<|.bl O,i):=by
 suffices h:Gw _ [Y,U<|.sh .bag,Y,Y,Y,Y,Y,Y,Y,Y,Y] β (λo _=>o= .rt (.bl O)) by
  obtain⟨o,i,e,rfl⟩:=h;exact⟨i,e⟩
 obtain⟨g,r,c,β1,d,m,t⟩:=JI P;obtain⟨l,S,V,s,kl,u⟩:=EN (K:=K) (a:=a) m.1 t;obtain⟨B,rs,cs,rfl,E,rfl,rfl,s8,h3⟩:=Qk m s kl;obtain⟨k,ab,e3,y⟩:=Pg u;obtain⟨p,q,b,e4,A,hq,F⟩:=kW m.1 y;have C:=E.cl s8;have j:la K a rs cs _ (j1 B):=E.nt;have c6:=E.c6;have r4:=E.nr.2.1;have l9:ϱ (hU _ rs cs.length)<=500:=U1 (fR λk hk=>by
  have:=Vg.mp hk;rw[UD];exact jD j ln) (by rw[Vi];lia)
 have o7:=λβ=>Pw (β:=β) (kd:=k) (q:=q) j C A ln;have le:=λβ=>Mr (β:=β) (kd:=k) (q:=q) j E.bok C A h3 ln;have H:∀x∈(hU _ rs _).filter _,(x.1<=ϱ cs/\x.2∈en (wB B cs) rs x.1)/\vE k (wB B cs) rs cs p q x.1 x.2≠[]:=λx G=>⟨mX.mp (Wg.mp G).1,w8.mp (Wg.mp G).2⟩;have n9:ϱ ((hU (wB B cs) rs cs.length).filter<|pos (wB B cs) cs.length)<=500:=U1 (Xc _ _) l9;have Q:0<ϱ ((hU (wB B cs) rs cs.length).filter<|pos (wB B cs) cs.length):=List.length_pos_of_mem (Wg.mpr ⟨mX.mpr ⟨VL _,Vs.mpr Z⟩,U3<|E.pos m.1.nn⟩:((0,rs):Nat×ϊ)∈_);generalize (hU (wB B cs) rs (ϱ cs)).filter _=N at*;have T:∀x∈N,ϱ x.2<=4:=λx G=>by
  obtain⟨_,I,_⟩:=j.at (H x G).1.1 (H x G).1.2;lia
 have hr:∀z∈N.map (L3 k (wB B cs) rs cs p q),RQ z:=λz hz=>by
  obtain⟨x,G,rfl⟩:=UL.mp hz;obtain⟨⟨f,I⟩,X⟩:=H x G;refine⟨?_,U3<|Nf j C f I (iA X).1,U3<|Nf j C f I (iG X).1⟩;rw[UD];exact T x G
 have sm:=λβ=>Qo (K:=K) (a:=a) (β:=β) (kd:=k) (W:=wB B cs) (rs:=rs) (cs:=cs) (p:=p) (q:=q) ln T;rw[<-UD]at n9 Q;generalize N.map _=R at*;have M:∀(l:ϭ) (β:Bg),(jf K a).1 [Ma a B rs cs,mD a k rs cs p q,qk l] β=U _:=λl β=>by
  unfold jf
  exact aE<|ao<|aC (b0 Z (aq Z<|o7 β)<|ze l R) ⟨Z,Z⟩
 obtain⟨v,ac,p5,v0,v1,J⟩:=bE F (lot:=2) rb rb;obtain⟨w,hw,ew⟩:∃w:Nat,(w=2\/w=3)/\2+v=(w:Int):=⟨(2+v).toNat,ln,ln⟩;obtain⟨f5,L,e6,ad⟩:=PJ Q ln hr hw J;unfold tK
 refine aF (aq Z d)<|aF (aq Z V)<|aF (aq Z e3)<|aF (aq Z e4)<|aF (aq Z<|O7 E)<|aF (aq Z<|JM E C A hq k)<|aF (aq (aa Z<|aa (aq Z<|JL E C)<|aa Z<|aa Z Z)<|le b)<|aF (ah Z Z)<|bn (j3 (dr<|b0 (aq Z<|(M R b).trans<|by rw[U3 Z]) Z Z)<|j3 (dr<|b0 Z Z<|yv (c:=O)<|(ze R R).trans<|by rw[U3 Z])<|sH<|qm (aq (aa (aq Z<|o7 b)<|aa Z Z)<|sm b) Z)<|aQ ?_;exact aF (aq (aa Z<|aa Z<|aa (b0 Z (aq Z p5) (by show U _=_;rw[ew])) Z) e6)<|ao<|aC (aq (aa (aq (aa Z<|aa Z<|aa (ah Z Z) Z)<|M f5 L)<|aa (b0 Z Z<|ze f5 R) Z) S6) Z
end
end Law
namespace L2.Pu
open PySem.W
section
variable{i:String->Option Builtin}{p:Vw}{w:VC}{d:Nat}{f:Option UQ}{g:Env}{q:Ye}
theorem bJ(k){s D r}(h:segRun i p w d f 1 n s (piecesOf (b.take k) g c pos [topFrame q])=U (.next,D,c,E))
  (a:topRun i p w d f N D (restOf (b.drop k) g c E [topFrame q])=U r):topRun i p w d f (n+N) s (restOf b g c pos [topFrame q])=U r:=by
 have:=piece_app h a;rwa[Xd]at this
theorem MF{b:a0T}{c}{pos}(e:b=[])(k:topRun i p w d f N s ⟨doneF .next,c,pos,[topFrame q]⟩=U r):topRun i p w d f N s (restOf b g c pos [topFrame q])=U r:=by
 subst e;exact piece_nil k
end
end L2.Pu
namespace Law
open L2 L2.Pu
noncomputable abbrev E(P:Params)(n:VF)(t:Nat)(v:UQ):XN:=⟨PyData.keyHash P<|n,.str (n) t,v⟩
noncomputable abbrev FN(x q:VF)(s:VQ)(b c a d:UQ)(e:a0W)(w D:UQ):U9:=Zb x q (ku s) (c7 s) (ak s) b c a d e w D
noncomputable abbrev fO(f:U9):Wd:=⟨.type "function",Y,.func f,#[]⟩
noncomputable abbrev tO(l:ό):Wd:=⟨.type lP,Y,.seq l.toArray 0,#[]⟩
noncomputable abbrev cO(l:ό):Wd:=⟨.type "code",Y,.fields l.toArray,#[]⟩
noncomputable abbrev eR(P:Params)(n:VF)(t r:Nat):XN:=E P n t<|.ref r
noncomputable abbrev nO(l:ό):Wd:=⟨.none,Y,.fields l.toArray,#[]⟩
noncomputable abbrev fB(x q:VF)(s:VQ):Wd:=⟨.none,Y,.func ⟨x,q,ku s,.stmts<|c7 s,ak s,0,[],.none,.none,.none,.none,Y,.none,.none,0⟩,#[]⟩
noncomputable abbrev cC(n q:VF)(t l a D c fl r:Nat)(b:Bool)(E d:Nat)(x y z w:UQ)(u e v:Nat):Wd:=cO [.str n t,.str q<|t+1,.str "/claim/cut.py"<|t+2,.int l 0,.int a 0,.int D 0,.int c 0,.int fl 0,.ref r,.bool b,.int E 0,.ref d,x,y,z,w,.int u 0,.int e 0,.str "/claim/cut.py" v]
abbrev eTt:ό:=[(.ref 38),(.type kI),(.type pf),(.type mR),(.type oK)]
noncomputable abbrev xOo(x:VF)(a d b t u:Nat):Wd:=⟨(.type xY),Y,(.cls ⟨x,[(.ref 38)],(.ref a)::eTt,d,x,O,[],[],UK,Y,UK⟩),#[(U<|.ref b),Y,(U<|.str x t),(U<|.str x u),(U<|.builtin kK),(U<|.bool O)]⟩
noncomputable abbrev iSs(n:Nat):Wd:=⟨(.type π),Y,(.fields #[(.builtin "object.__init_subclass__"),(.ref n)]),#[]⟩
noncomputable abbrev ul:UQ:= .str "edgetally.errors" 194
noncomputable abbrev X_:UQ:= .str "edgetally.net" 556
noncomputable abbrev W_:UQ:= .str "edgetally.measures" 786
noncomputable abbrev Wi:UQ:= .str kJ 204
noncomputable abbrev tx4:UQ:= .str kJ 196
noncomputable abbrev tx5:UQ:= .str "__main__" 164
noncomputable def trL:ϊ->ό
 |a::b::c::l=> .int a 0:: .int b 0:: .ref c::trL l
 |_=>[]
noncomputable abbrev nT(l:ϊ):Wd:=nO<|trL l
noncomputable def stL:Nat->ϒ->ό
 |_,[]=>[]
 |t,x::l=> .str x t::stL (t+1) l
noncomputable abbrev tS(t:Nat)(l:ϒ):Wd:=tO<|stL t l
noncomputable def fD(o:Wd):U9:=match o.data with
 | .func f=>f
 |_=>FN "" "" (cp 0) .none .none .none .none Y .none .none
abbrev T5:=VF×VF×Nat×Nat×ϒ
noncomputable abbrev h5(x:VF)(l a:Nat)(n:ϒ):T5:=(x,x,l,a,n)
def zN:ϒ->Nat
 |[]=>4
 |_=>6
def uN(d k:UQ)(b:Nat)(v:UQ)(s:VQ)(x q:VF)(r t l a:Nat)(n:ϒ):Ϡ:=[tO [],nO []]++(match n with|[]=>[]|_=>[tS (t+3) n,tO []])++[fB x q s,match n with|[]=>cC x q t l a 0 b 3 r O 181 (r+1) .none .none .none (.ref<|r+2) (t+3) l (t+4)|_=>cC x q t l a 0 b 3 r O 181 (r+1) .none (.ref<|r+2) (.ref<|r+3) (.ref<|r+4) (t+3+n.length) l<|t+4+n.length,fO<|FN x q s d k .none v Y (.ref<|r+zN n-1) .none]
def gO(v:UQ)(s:Nat->VQ):Nat->Nat->Nat->List T5->Ϡ
 |i,r,t,(x,q,l,a,n)::L=>uN .none .none 0 v (s i) x q r t l a n++gO v s (i+1) (r+zN n+1) (t+n.length+6) L
 |_,_,_,_=>[]
def gM(P:Params):Nat->Nat->List T5->List XN
 |r,t,(x,_,_,_,n)::L=>E P x (t+n.length+5) (.ref<|r+zN n)::gM P (r+zN n+1) (t+n.length+6) L
 |_,_,_=>[]
def gA:Nat->List T5->ϗ
 |r,(_,_,_,_,n)::L=>(r+zN n-1)::(r+zN n)::gA (r+zN n+1) L
 |_,_=>[]
noncomputable def fk(L:Ϡ)(i:Nat):U9:=fD<|L.getD i<|tO []
noncomputable abbrev frO(a b:Nat)(v:UQ):Wd:=⟨(.type "frame"),Y,.plain,#[(U<|.ref a),(U<|.ref 3),(U<|.ref b),Y,(U v),Y,(U<|.ref 0)]⟩
noncomputable abbrev suO(a:Nat):Wd:=⟨(.type "super"),Y,(.fields #[(.ref a),(.ref a),(.ref a)]),#[]⟩
noncomputable def b23:Wd:=⟨(.type π),Y,(.fields #[(.builtin "type.__prepare__"),(.type xY)]),#[]⟩
def uE(P:Params)(i R T l:Nat)(x q:VF)(d n c:ϒ):Ϡ:=let M:=R+7+d.length;let t:=T+12+d.length;let u:=t+5+n.length;let y:=E P "__module__" (T+7) ul;let z:=[E P "__firstlineno__" (T+11)<|.int l<|T+10,eR P "__init__" u<|M+6,eR P "__static_attributes__" (u+1+c.length)<|M+7];[tO [.ref 38],b23,⟨.type "dict",Y,.dict (y::E P "__qualname__" (T+9) (.str x<|T+8)::z).toArray 5,#[]⟩,tO [],nT [l+2,4,M+5],cC x x (T+2) l 0 0 0 0 (R+3) UK 181 (R+4) .none .none .none .none (T+5) l<|T+6,frO (R+5) (R+2) ul]++(match d with|[]=>[]|_=>[tS (T+12) d])++uN (match d with|[]=> .none|_=> .ref<|R+7) .none 0 ul (cc (cp i) 0) "__init__" q M t (l+2) n.length n++[tS (u+1) c,⟨.type "dict",Y,.dict (y::z++[E P "__doc__" (u+2+c.length) .none]).toArray 2,#[]⟩,xOo x (M+9) (M+8) R T<|T+8,suO<|M+9,iSs<|M+9]
section
variable(P:Params)
def llA:List T5:=[h5 "_wall" 1 1 ["k"]]
def rrA:Ϡ:=gO tx5 cp 0 15 187 llA
def llB:List T5:=[(oI,"EdgeError.__init__",7,3,[jv,"word","why"])]
def rrB:Ϡ:=gO ul (cc<|cp 2) 0 29 208 llB
def llD:List T5:=[h5 "check_sums" 48 2 [],h5 "check_there" 59 2 [rh,tE],h5 "check_cell" 62 4 ["row",oG,vT,tu],h5 "check_pair" 65 1 [J',"low","high"],h5 "settled_bounds" 69 3 [],h5 "rows_turned" 78 1 []]
def rrD:Ϡ:=gO (.str T' 401) cp 16 187 418 llD
def llE:List T5:=[h5 "factorial" 81 1 [D',"product","factor"],h5 tq 86 2 ["base",tE,"product","factor"],h5 "ways" 91 1 ["parts","part",R'],h5 ο 99 2 [η,x9],h5 "fillings" 103 3 []]
def rrE:Ϡ:=gO (.str "edgetally.counts" 463) cp 23 223 465 llE
def llF:List T5:=[h5 "need_of" 113 2 [],h5 "room_inside" 115 4 [],h5 "room_beside" 118 3 [],h5 "room_of" 120 4 [],h5 "narrowest" 122 3 [],h5 "choices" 124 1 [],h5 "check_fit" 129 3 [i',fg,jW,ti,"into"]]
def rrF:Ϡ:=gO (.str "edgetally.fits" 507) cp 29 256 509 llF
def llG:List T5:=[h5 "check_wide" 136 1 [i',"wide",tE],h5 U' 142 3 [i',fg,jW,"settled"],h5 "column_fillings" 147 4 [],h5 "rests_behind" 149 2 [],h5 "nodes_by_level" 151 3 [],h5 "node_counts" 159 3 [mK,"filled",M',"tables",UE,mT,"tables_behind","dealings_behind"],h5 "counted_nodes" 167 3 [],h5 "paper_rows" 177 1 []]
def rrG:Ϡ:=gO X_ cp 38 293 560 llG
noncomputable def llI:List T5:=[("__eq__","Net.__eq__",189,2,[jv,x9]),("__len__","Net.__len__",192,1,[jv]),(i',"Net.rowsums",195,1,[jv]),(fg,"Net.columnsums",198,1,[jv]),(jW,"Net.bounds",201,1,[]),("counts_at","Net.counts_at",204,3,[jv,rm,mK]),("tables","Net.tables",207,1,[jv]),(UE,"Net.dealings",210,1,[jv]),("steps","Net.steps",213,3,[]),("paper","Net.paper",218,1,[jv])]
def rrI:Ϡ:=gO X_ (cc<|cp 46) 1 354 647 llI
def llJ:List T5:=[h5 V' 221 2 [vR,lS],h5 "node_ends" 224 5 [vR,lS,rm,mK,N',"leasts","greatests",mT,vS,"greatest","part"],h5 "ends_by_node" 235 2 [vR,lS,N',rm,mK,"tables",UE],h5 "ends" 242 2 [],h5 "ends_hold" 245 3 [vR,lS,vT]]
def rrJ:Ϡ:=gO (.str "edgetally.ends" 731) cp 48 427 733 llJ
def llK:List T5:=[h5 "least_common" 251 1 [Y',R',D'],h5 "power_part" 256 1 [mT,R',"count"],h5 "square_part" 261 3 [],h5 "off_part" 263 3 []]
def rrK:Ϡ:=gO W_ cp 57 463 801 llK
def llM:List T5:=[(i',"Measure.rowsums",279,1,[jv]),(fg,"Measure.columnsums",282,1,[jv]),("part","Measure.part",285,3,[]),("together","Measure.together",297,3,[jv,η,x9]),("begun","Measure.begun",300,1,[jv]),("of","Measure.of",303,2,[jv,vT,"gathered",oG,mT]),("beyond","Measure.beyond",309,3,[jv,"value","seen"])]
def rrM:Ϡ:=gO W_ (cc<|cp 61) 1 501 852 llM
def llN:List T5:=[h5 "_law_bag" 312 1 [],h5 "_law_pull" 314 2 [cb,oE,"_law_cells",vV,"_law_cell"],h5 "_law_same" 324 2 [],h5 "_law_grid" 336 4 [],h5 "_law_small" 343 1 [cb,UG,jZ,mM],h5 "_law_turned" 354 1 [],h5 "_law_rowsums" 356 1 [],h5 "_law_columnsums" 358 1 [],h5 "_law_free" 360 2 [],h5 "_law_bounds" 362 2 [cb,ek,ι,vV,"_law_row",tw,pe,UG],h5 "_law_copied" 374 1 [],h5 "_law_fit" 376 3 [],h5 "_law_less" 385 2 [],h5 ζ 387 1 [oE,mQ,"_law_k"],h5 "_law_ways" 392 1 [HS,"_law_under",ε],h5 "_law_gcd" 397 2 [mU,mP,"_law_kept"],h5 "_law_kind" 403 1 [cb],h5 "_law_place" 405 2 [cb,ek,vV],h5 "_law_even" 408 2 [jw,ik,mQ,mU,mP,ν],h5 W' 416 1 [pe,mQ,"_law_k"],h5 "_law_net" 421 2 [ek,jX],h5 "_law_scale" 423 3 [f',ek,jY],h5 "_law_nodes" 425 3 [],h5 "_law_counted" 434 3 [],h5 "_law_bent" 449 3 [],h5 "_law_living" 477 3 [],h5 "_law_part" 479 5 [f',lT,jY,tw,oF,mQ,pe,"_law_utmost",ν],h5 ρ 497 3 [f',mU,mP],h5 "_law_begun" 501 1 [f'],h5 "_law_ends" 503 4 [],h5 "_law_end" 511 6 [],h5 "_law_middle" 521 1 [cb,jZ],h5 "_law_sides" 526 1 [ek,jw,ik],h5 "law" 530 1 [rk,cb,ek,jX,f',jY,"_law_net_here","_law_scale_here",yd,"_law_handed","_law_bent_here"]]
def jm:Ϡ:=gO (.str θ 921) cp 63 555 923 llN
def rrC:Ϡ:=uN .none (.ref 181) 1 (.str T' 401) (cp 15) "free" "free" 182 412 46 2 []
def rrH:Ϡ:=uN .none (.ref 346) 1 X_ (cc (cp 46) 0) oI "Net.__init__" 347 636 181 3 [jv,i',fg,jW,"settled"]
def rrL:Ϡ:=uN .none (.ref 495) 1 W_ (cc (cp 61) 0) oI "Measure.__init__" 496 846 267 4 []
def mL:List XN:=(E P "__name__" 165<|.str "law_edgetally_k32_ends_held" 921)::((match(PySem.W.boot_o_3 P).data with| .dict e _=>e.toList|_=>[]).drop 1)++gM P 15 187 llA++[(eR P "EdgeError" 223 38),(eR P "BadSums" 248 59),(eR P "BadBounds" 273 79),(eR P "TooWide" 298 98),(eR P "Barred" 325 117),(eR P "BadRule" 350 137),(eR P "BadCell" 375 157),(eR P "BadNumber" 400 177),(E P "MOST" 404<|.int 40 403),(E P "MOST_ROWS" 406<|.int 4 405),(E P "MOST_COLUMNS" 408<|.int 6 407),(eR P "FREE" 410 180),(eR P "free" 417 186)]++gM P 187 418 llD++gM P 223 465 llE++gM P 256 509 llF++[(E P "WIDE" 559<|.int 500 558)]++gM P 293 560 llG++[(eR P "Net" 730 422)]++gM P 427 733 llJ++[(eR P "KINDS" 794 460),(eR P "BY_PRODUCT" 797 461),(eR P "BY_PLACE" 800 462)]++gM P 463 801 llK++[(eR P "Measure" 920 550)]++gM P 555 923 llN
def s_(n:Nat)(v:UQ):Wd:=⟨.type vQ,Y,.dict (((mL P).take n).set 0<|E P vU 165 v).toArray n,#[]⟩
noncomputable def b3:Wd:=⟨(.type vQ),Y,(.dict (mL P).toArray 98),#[]⟩
def b7:Wd:=tO []
noncomputable def o1:ϊ:=[1,0,20,5,0,27,10,0,47,14,0,67,18,0,87,23,0,106,29,0,125,33,0,145,37,0,165,46,0,185,48,0,190,59,0,197,62,0,204,65,0,211,69,0,216,78,0,221,81,0,228,86,0,235,91,0,242,99,0,249,103,0,254,113,0,259,115,0,264,118,0,269,120,0,274,122,0,279,124,0,284,129,0,291,136,0,298,142,0,305,147,0,310,149,0,315,151,0,320,159,0,327,167,0,332,177,0,337,179,0,344,221,0,432,224,0,439,235,0,446,242,0,451,245,0,458,251,0,468,256,0,475,261,0,480,263,0,485,265,0,492,312,0,558,314,0,565,324,0,570,336,0,575,343,0,582,354,0,587,356,0,592,358,0,597,360,0,602,362,0,609,374,0,614,376,0,619,385,0,624,387,0,631,392,0,638,397,0,645,403,0,652,405,0,659,408,0,666,416,0,673,421,0,680,423,0,687,425,0,692,434,0,697,449,0,702,477,0,707,479,0,714,497,0,721,501,0,728,503,0,733,511,0,738,521,0,745,526,0,752,530,0,759]
def b12:Wd:=nT o1
def b13:Wd:=cC "<module>" "<module>" 182 1 0 0 0 0 11 UK 181 12 .none .none .none .none 185 1 186
def b14:Wd:=frO 13 3 tx5
def b22:Wd:=tO [(.type kI)]
def b24:Wd:=⟨(.type vQ),Y,(.dict ([(E P x' 203 ul),(E P "__qualname__" 205 Wi),(E P sZ 207<|.int 5 206)]++gM P 29 208 llB++[(eR P oH 218 36)]).toArray 5),#[]⟩
def b26:Wd:=nT [7,4,34]
def b27:Wd:=cC kJ kJ 198 5 0 0 0 0 25 UK 181 26 .none .none .none .none 201 5 202
def b28:Wd:=frO 27 24 ul
def b36:Wd:=tS 217 ["word"]
def b37:Wd:=⟨(.type vQ),Y,(.dict ([(E P x' 203 ul),(E P sZ 207<|.int 5 206)]++gM P 29 208 llB++[(eR P oH 218 36),(eR P wh 220 39),(E P "__doc__" 221 .none)]).toArray 3),#[]⟩
def b38:Wd:=⟨(.type xY),Y,(.cls ⟨kJ,[(.type kI)],[(.ref 38),(.type kI),(.type pf),(.type mR),(.type oK)],37,kJ,O,[],[(.ref 59),(.ref 79),(.ref 98),(.ref 117),(.ref 137),(.ref 157),(.ref 177)],UK,Y,UK⟩),#[(U<|.ref 22),Y,(U tx4),(U Wi),(U<|.builtin kK),(U<|.bool O)]⟩
noncomputable def b39:Wd:=⟨(.type vP),Y,(.fields #[(.str wh 219),(.ref 38),(.builtin x6),.none]),#[]⟩
def b40:Wd:=suO 38
def b41:Wd:=iSs 38
def b180:Wd:=tO [(.int 0 409),(.int 40 403)]
def b181:Wd:=⟨(.type vQ),Y,(.dict #[(eR P J' 411 180)] 1),#[]⟩
def b341:Wd:=⟨(.type vQ),Y,(.dict ([(E P x' 630 X_),(E P "__qualname__" 632<|.str "Net" 631),(E P sZ 634<|.int 179 633),(eR P oI 646 353)]++gM P 354 647 llI++[(eR P oH 722 420)]).toArray 15),#[]⟩
def b343:Wd:=nT [181,4,352,189,4,359,192,4,366,195,4,373,198,4,380,201,4,385,204,4,392,207,4,399,210,4,406,213,4,411,218,4,418]
def b344:Wd:=cC "Net" "Net" 625 179 0 0 0 0 342 UK 181 343 .none .none .none .none 628 179 629
def b345:Wd:=frO 344 341 X_
def b346:Wd:=⟨(.type vQ),Y,(.dict #[(E P jW 635 .none)] 1),#[]⟩
def b420:Wd:=tS 718 [oJ,ya,F',td]
def b421:Wd:=⟨(.type vQ),Y,(.dict ([(E P x' 630 X_),(E P sZ 634<|.int 179 633),(eR P oI 646 353)]++gM P 354 647 llI++[(eR P oH 722 420),(eR P "__dict__" 724 423),(eR P wh 726 424),(E P "__doc__" 727 .none),(E P "__hash__" 728 .none)]).toArray 5),#[]⟩
noncomputable def b422:Wd:=⟨(.type xY),Y,(.cls ⟨"Net",[(.type oK)],[(.ref 422),(.type oK)],421,"Net",O,[],[],UK,Y,UK⟩),#[Y,Y,(U<|.str "Net" 623),(U<|.str "Net" 631),(U<|.builtin "object.__new__"),(U<|.bool O)]⟩
noncomputable def b423:Wd:=⟨(.type vP),Y,(.fields #[(.str "__dict__" 723),(.ref 422),(.builtin "function.__dict__"),(.builtin "function.__dict__#set")]),#[]⟩
noncomputable def b424:Wd:=⟨(.type vP),Y,(.fields #[(.str wh 725),(.ref 422),(.builtin x6),.none]),#[]⟩
def b425:Wd:=suO 422
def b426:Wd:=iSs 422
def b460:Wd:=tS 788 [zT,HW,tq,"off",G',vS]
def b461:Wd:=tS 795 [zT,tq]
def b462:Wd:=tS 798 [G',vS]
def b489:Wd:=⟨(.type vQ),Y,(.dict ([(E P x' 838 W_),(E P "__qualname__" 840<|.str vX 839),(E P sZ 842<|.int 265 841),(eR P oI 851 500)]++gM P 501 852 llM++[(eR P oH 913 548)]).toArray 12),#[]⟩
def b491:Wd:=nT [267,4,499,279,4,506,282,4,513,285,4,518,297,4,525,300,4,532,303,4,539,309,4,546]
def b492:Wd:=cC vX vX 833 265 0 0 0 0 490 UK 181 491 .none .none .none .none 836 265 837
def b493:Wd:=frO 492 489 W_
def b494:Wd:=tO [(.int 0 843),(.int 0 844)]
def b495:Wd:=⟨(.type vQ),Y,(.dict #[(eR P rh 845 494)] 1),#[]⟩
def b548:Wd:=tS 908 [oJ,"even",Z',rh,td]
def b549:Wd:=⟨(.type vQ),Y,(.dict ([(E P x' 838 W_),(E P sZ 842<|.int 265 841),(eR P oI 851 500)]++gM P 501 852 llM++[(eR P oH 913 548),(eR P "__dict__" 915 551),(eR P wh 917 552),(E P "__doc__" 918 .none)]).toArray 4),#[]⟩
noncomputable def b550:Wd:=⟨(.type xY),Y,(.cls ⟨vX,[(.type oK)],[(.ref 550),(.type oK)],549,vX,O,[],[],UK,Y,UK⟩),#[Y,Y,(U<|.str vX 831),(U<|.str vX 839),(U<|.builtin "object.__new__"),(U<|.bool O)]⟩
noncomputable def b551:Wd:=⟨(.type vP),Y,(.fields #[(.str "__dict__" 914),(.ref 550),(.builtin "function.__dict__"),(.builtin "function.__dict__#set")]),#[]⟩
noncomputable def b552:Wd:=⟨(.type vP),Y,(.fields #[(.str wh 916),(.ref 550),(.builtin x6),.none]),#[]⟩
def b553:Wd:=suO 550
def b554:Wd:=iSs 550
def T8:Wd:=nT<|o1.take 3
def k1_3:Wd:=s_ P 10 ul
def T4:Wd:=nT<|o1.take 6
def k2_3:Wd:=s_ P 11 ul
def T3:Wd:=⟨(.type xY),Y,(.cls ⟨kJ,[(.type kI)],[(.ref 38),(.type kI),(.type pf),(.type mR),(.type oK)],37,kJ,O,[],[],UK,Y,UK⟩),#[(U<|.ref 22),Y,(U tx4),(U Wi),(U<|.builtin kK),(U<|.bool O)]⟩
def T1:Wd:=nT<|o1.take 9
def k3_3:Wd:=s_ P 12 ul
def T0:Wd:=⟨(.type xY),Y,(.cls ⟨kJ,[(.type kI)],[(.ref 38),(.type kI),(.type pf),(.type mR),(.type oK)],37,kJ,O,[],[(.ref 59)],UK,Y,UK⟩),#[(U<|.ref 22),Y,(U tx4),(U Wi),(U<|.builtin kK),(U<|.bool O)]⟩
def TZ:Wd:=nT<|o1.take 12
def k4_3:Wd:=s_ P 13 ul
def TY:Wd:=⟨(.type xY),Y,(.cls ⟨kJ,[(.type kI)],[(.ref 38),(.type kI),(.type pf),(.type mR),(.type oK)],37,kJ,O,[],[(.ref 59),(.ref 79)],UK,Y,UK⟩),#[(U<|.ref 22),Y,(U tx4),(U Wi),(U<|.builtin kK),(U<|.bool O)]⟩
def TX:Wd:=nT<|o1.take 15
def k5_3:Wd:=s_ P 14 ul
def TW:Wd:=⟨(.type xY),Y,(.cls ⟨kJ,[(.type kI)],[(.ref 38),(.type kI),(.type pf),(.type mR),(.type oK)],37,kJ,O,[],[(.ref 59),(.ref 79),(.ref 98)],UK,Y,UK⟩),#[(U<|.ref 22),Y,(U tx4),(U Wi),(U<|.builtin kK),(U<|.bool O)]⟩
def TV:Wd:=nT<|o1.take 18
def k6_3:Wd:=s_ P 15 ul
def TU:Wd:=⟨(.type xY),Y,(.cls ⟨kJ,[(.type kI)],[(.ref 38),(.type kI),(.type pf),(.type mR),(.type oK)],37,kJ,O,[],[(.ref 59),(.ref 79),(.ref 98),(.ref 117)],UK,Y,UK⟩),#[(U<|.ref 22),Y,(U tx4),(U Wi),(U<|.builtin kK),(U<|.bool O)]⟩
def TR:Wd:=nT<|o1.take 21
def k7_3:Wd:=s_ P 16 ul
def TN:Wd:=⟨(.type xY),Y,(.cls ⟨kJ,[(.type kI)],[(.ref 38),(.type kI),(.type pf),(.type mR),(.type oK)],37,kJ,O,[],[(.ref 59),(.ref 79),(.ref 98),(.ref 117),(.ref 137)],UK,Y,UK⟩),#[(U<|.ref 22),Y,(U tx4),(U Wi),(U<|.builtin kK),(U<|.bool O)]⟩
def TM:Wd:=nT<|o1.take 24
def k8_3:Wd:=s_ P 17 ul
def TL:Wd:=⟨(.type xY),Y,(.cls ⟨kJ,[(.type kI)],[(.ref 38),(.type kI),(.type pf),(.type mR),(.type oK)],37,kJ,O,[],[(.ref 59),(.ref 79),(.ref 98),(.ref 117),(.ref 137),(.ref 157)],UK,Y,UK⟩),#[(U<|.ref 22),Y,(U tx4),(U Wi),(U<|.builtin kK),(U<|.bool O)]⟩
def TK:Wd:=nT<|o1.take 27
def k9_3:Wd:=s_ P 18 ul
def R1:Wd:=nT<|o1.take 45
noncomputable def Ui:Wd:=s_ P 28<|.str T' 401
def RZ:Wd:=nT<|o1.take 69
noncomputable def Uh:Wd:=s_ P 36<|.str "edgetally.fits" 507
def RX:Wd:=nT<|o1.take 93
def Ug:Wd:=s_ P 45 X_
def RV:Wd:=nT<|o1.take 108
def Uf:Wd:=s_ P 50 X_
def RT:Wd:=nT<|o1.take 111
def Ue:Wd:=s_ P 51 X_
def RN:Wd:=nT<|o1.take 129
def Ud:Wd:=s_ P 60 W_
def RK:Wd:=nT<|o1.take 138
def Uc:Wd:=s_ P 63 W_
def RI:Wd:=nT<|o1.take 141
def Ub:Wd:=s_ P 64 W_
def RG:Wd:=nT<|o1.take 165
noncomputable def Ua:Wd:=⟨(.type vQ),Y,(.dict ((mL P).take 72).toArray 72),#[]⟩
def RE:Wd:=nT<|o1.take 189
noncomputable def T9:Wd:=⟨(.type vQ),Y,(.dict ((mL P).take 80).toArray 80),#[]⟩
def RB:Wd:=nT<|o1.take 213
noncomputable def T7:Wd:=⟨(.type vQ),Y,(.dict ((mL P).take 88).toArray 88),#[]⟩
def Rz:Wd:=nT<|o1.take 237
noncomputable def T6:Wd:=⟨(.type vQ),Y,(.dict ((mL P).take 96).toArray 96),#[]⟩
def kL:Ϡ:=((PySem.W.boot_heap P).objs.toList.set 3<|b3 P)++[b7,b12,b13,b14]++rrA++[b22,b23,b24 P,b7,b26,b27,b28]++rrB++[b36,b37 P,b38,b39,b40,b41]++uE P 3 42 224 10 "BadSums" "BadSums.__init__" ["these sums are no table's"] [jv,"why"] []++uE P 4 62 249 14 "BadBounds" "BadBounds.__init__" ["these bounds are no table's"] [jv,"why"] []++uE P 5 82 274 18 "TooWide" "TooWide.__init__" [] [jv,"wide"] ["wide"]++uE P 6 101 299 23 "Barred" "Barred.__init__" [] [jv,ti,"into"] ["into",ti]++uE P 7 120 326 29 "BadRule" "BadRule.__init__" ["there is no such rule"] [jv,"why"] []++uE P 8 140 351 33 "BadCell" "BadCell.__init__" ["there is no such cell"] [jv,"why"] []++uE P 9 160 376 37 "BadNumber" "BadNumber.__init__" ["this number is out of its bounds"] [jv,"why"] []++[b180,b181 P]++rrC++rrD++rrE++rrF++rrG++[b7,b23,b341 P,b7,b343,b344,b345,b346 P]++rrH++rrI++[b420,b421 P,b422,b423,b424,b425,b426]++rrJ++[b460,b461,b462]++rrK++[b7,b23,b489 P,b7,b491,b492,b493,b494,b495 P]++rrL++rrM++[b548,b549 P,b550,b551,b552,b553,b554]++jm
abbrev h0H:V0:=PySem.W.boot_heap P
def h1H:V0:=⟨⟨(((kL P).take 15).set 3<|PySem.W.boot_o_3 P).set 12<|nO []⟩,{}⟩
def k1H:V0:=⟨⟨(((kL P).take 22).set 3<|k1_3 P).set 12<|T8⟩,{}⟩
def k2H:V0:=⟨⟨((((kL P).take 42).set 3<|k2_3 P).set 12<|T4).set 38<|T3⟩,{}⟩
def k3H:V0:=⟨⟨((((kL P).take 62).set 3<|k3_3 P).set 12<|T1).set 38<|T0⟩,{}⟩
def k4H:V0:=⟨⟨((((kL P).take 82).set 3<|k4_3 P).set 12<|TZ).set 38<|TY⟩,{}⟩
def k5H:V0:=⟨⟨((((kL P).take 101).set 3<|k5_3 P).set 12<|TX).set 38<|TW⟩,{}⟩
def k6H:V0:=⟨⟨((((kL P).take 120).set 3<|k6_3 P).set 12<|TV).set 38<|TU⟩,{}⟩
def k7H:V0:=⟨⟨((((kL P).take 140).set 3<|k7_3 P).set 12<|TR).set 38<|TN⟩,{}⟩
def k8H:V0:=⟨⟨((((kL P).take 160).set 3<|k8_3 P).set 12<|TM).set 38<|TL⟩,{}⟩
def k9H:V0:=⟨⟨(((kL P).take 180).set 3<|k9_3 P).set 12<|TK⟩,{}⟩
def R3:V0:=⟨⟨(((kL P).take 218).set 3<|Ui P).set 12<|R1⟩,{}⟩
def R0:V0:=⟨⟨(((kL P).take 266).set 3<|Uh P).set 12<|RZ⟩,{}⟩
def RY:V0:=⟨⟨(((kL P).take 312).set 3<|Ug P).set 12<|RX⟩,{}⟩
def RW:V0:=⟨⟨(((kL P).take 339).set 3<|Uf P).set 12<|RV⟩,{}⟩
def RU:V0:=⟨⟨(((kL P).take 427).set 3<|Ue P).set 12<|RT⟩,{}⟩
def RO:V0:=⟨⟨(((kL P).take 470).set 3<|Ud P).set 12<|RN⟩,{}⟩
def RM:V0:=⟨⟨(((kL P).take 487).set 3<|Uc P).set 12<|RK⟩,{}⟩
def RJ:V0:=⟨⟨(((kL P).take 555).set 3<|Ub P).set 12<|RI⟩,{}⟩
def RH:V0:=⟨⟨(((kL P).take 599).set 3<|Ua P).set 12<|RG⟩,{}⟩
def RF:V0:=⟨⟨(((kL P).take 647).set 3<|T9 P).set 12<|RE⟩,{}⟩
def RC:V0:=⟨⟨(((kL P).take 699).set 3<|T7 P).set 12<|RB⟩,{}⟩
def RA:V0:=⟨⟨(((kL P).take 747).set 3<|T6 P).set 12<|Rz⟩,{}⟩
noncomputable def yO:V0:=⟨⟨kL P⟩,{}⟩
end
noncomputable def aH:ϗ:=[2,3]++gA 29 llB++[37,38,180,181,185,186,190,191,197,198,204,205,211,212,216,217]++gA 223 llE++gA 256 llF++gA 293 llG++[346,352,353,373,374,380,381,392,393,411,412,418,419,421,422]++gA 427 llJ++[460,461,462]++gA 463 llK++[494,495,499,500,506,507,513,514,518,519,525,526,532,533,549,550]++gA 555 llN
def KH(P:Params):Vb:=aH.map λi=>(i,(kL P).getD i<|tO [])
theorem eH:∀P,aH=(KH P).map (·.1):=λ_=>rf
noncomputable def qH:Vw:={PySem.Challenge.pw_edgetally_k32_ends_held with main:={PySem.Challenge.pw_edgetally_k32_ends_held.main with body:=[cp 0,cp 2,cp 3,cp 4,cp 5,cp 6,cp 7,cp 8,cp 9,cp 11,cp 12,cp 13,cp 14,cp 16,cp 17,cp 18,cp 19,cp 20,cp 21,cp 23,cp 24,cp 25,cp 26,cp 27,cp 29,cp 30,cp 31,cp 32,cp 33,cp 34,cp 35,cp 37,cp 38,cp 39,cp 40,cp 41,cp 42,cp 43,cp 44,cp 45,cp 46,cp 48,cp 49,cp 50,cp 51,cp 52,cp 54,cp 55,cp 56,cp 57,cp 58,cp 59,cp 60,cp 61,cp 63,cp 64,cp 65,cp 66,cp 67,cp 68,cp 69,cp 70,cp 71,cp 72,cp 73,cp 74,cp 75,cp 76,cp 77,cp 78,cp 79,cp 80,cp 81,cp 82,cp 83,cp 84,cp 85,cp 86,cp 87,cp 88,cp 89,cp 90,cp 91,cp 92,cp 93,cp 94,cp 95,cp 96]}}
noncomputable abbrev lvH:List (VF×PySem.W.WData):=[("FREE",PySem.W.WData.tuple [PySem.W.WData.int 0,PySem.W.WData.int 40])]
noncomputable abbrev loH:ϒ:=["BadSums","BadBounds","BadRule","BadCell","BadNumber","FREE","free","Net",vX]
abbrev hkH:=PySem.W.kHook KH aH eH
def xtH(s:UW):Bool:=PySem.W.xlAt qH lvH s&&PySem.W.recOk (PySem.W.RowW.records<|Xj<|XJ VW) s
noncomputable abbrev pH:Vw:=PySem.W.RowW.prog<|Xj<|XJ VW
noncomputable def lp:a0T:=PySem.W.behindTheImports pH
def lK:Env:={scope:=pH.main.scope,locals:=mainNs,globals:=mainNs,cells:=[],code:=(.ref 13),frame:=(U 14)}
def cH:Code:= .body lp lK
noncomputable abbrev lu:List Frame:=[PySem.W.topFrame ⟨0,0,0,0⟩]
theorem opH(w:VC):(PySem.W.fencedOpening Vz pH w 10466).map (λs=>(s.heap,s.gens,s.drawn,s.toks))=U (h0H w.params,#[],{},181):=by kernel_rfl
theorem szH(w:VC):((h0H w.params).isNs Xh&&(#[]:Array GenState).size==0,(h0H w.params).objs.size,(h0H w.params).nsMap Xh "__annotations__")=(O,11,(U<|.ref 6)):=by kernel_rfl
theorem r1H(w:VC)(D:W1):PySem.W.topGo Vz pH w 11 (U<|.ref 6) 12 ⟨h0H w.params,#[],{},181,D⟩ (PySem.W.topStub pH)=U (⟨h1H w.params,#[],{},187,D⟩,⟨denote Vz<|.body lp lK,cH,⟨0,0,0,0⟩,lu⟩):=by kernel_rfl
theorem r2H(w:VC)(D:W1):VO Vz pH w 11 (U<|.ref 6) 1 1 ⟨h1H w.params,#[],{},187,D⟩ (PySem.W.blockOf lp lK cH ⟨0,0,0,0⟩ lu)=U (.next,⟨h1H w.params,#[],{},187,D⟩,cH,⟨0,0,0,0⟩):=by kernel_rfl
theorem c1H(w:VC)(D:W1):VO Vz pH w 11 (U<|.ref 6) 1 39 ⟨h1H w.params,#[],{},187,D⟩ (VG (lp.take 2) lK cH ⟨0,0,0,0⟩ lu)=U (.next,⟨k1H w.params,#[],{},196,D⟩,cH,⟨4,0,4,8⟩):=by kernel_rfl
theorem c2H(w:VC)(D:W1):VO Vz pH w 11 (U<|.ref 6) 1 220 ⟨k1H w.params,#[],{},196,D⟩ (VG ((lp.drop 2).take 1) lK cH ⟨4,0,4,8⟩ lu)=U (.next,⟨k2H w.params,#[],{},224,D⟩,cH,⟨5,0,9,24⟩):=by kernel_rfl
theorem c3H(w:VC)(D:W1):VO Vz pH w 11 (U<|.ref 6) 1 247 ⟨k2H w.params,#[],{},224,D⟩ (VG (((lp.drop 2).drop 1).take 1) lK cH ⟨5,0,9,24⟩ lu)=U (.next,⟨k3H w.params,#[],{},249,D⟩,cH,⟨10,0,13,45⟩):=by kernel_rfl
theorem c4H(w:VC)(D:W1):VO Vz pH w 11 (U<|.ref 6) 1 247 ⟨k3H w.params,#[],{},249,D⟩ (VG ((((lp.drop 2).drop 1).drop 1).take 1) lK cH ⟨10,0,13,45⟩ lu)=U (.next,⟨k4H w.params,#[],{},274,D⟩,cH,⟨14,0,17,47⟩):=by kernel_rfl
theorem c5H(w:VC)(D:W1):VO Vz pH w 11 (U<|.ref 6) 1 246 ⟨k4H w.params,#[],{},274,D⟩ (VG (((((lp.drop 2).drop 1).drop 1).drop 1).take 1) lK cH ⟨14,0,17,47⟩ lu)=U (.next,⟨k5H w.params,#[],{},299,D⟩,cH,⟨18,0,22,24⟩):=by kernel_rfl
theorem c6H(w:VC)(D:W1):VO Vz pH w 11 (U<|.ref 6) 1 248 ⟨k5H w.params,#[],{},299,D⟩ (VG ((((((lp.drop 2).drop 1).drop 1).drop 1).drop 1).take 1) lK cH ⟨18,0,22,24⟩ lu)=U (.next,⟨k6H w.params,#[],{},326,D⟩,cH,⟨23,0,28,30⟩):=by kernel_rfl
theorem c7H(w:VC)(D:W1):VO Vz pH w 11 (U<|.ref 6) 1 247 ⟨k6H w.params,#[],{},326,D⟩ (VG (((((((lp.drop 2).drop 1).drop 1).drop 1).drop 1).drop 1).take 1) lK cH ⟨23,0,28,30⟩ lu)=U (.next,⟨k7H w.params,#[],{},351,D⟩,cH,⟨29,0,32,45⟩):=by kernel_rfl
theorem c8H(w:VC)(D:W1):VO Vz pH w 11 (U<|.ref 6) 1 247 ⟨k7H w.params,#[],{},351,D⟩ (VG ((((((((lp.drop 2).drop 1).drop 1).drop 1).drop 1).drop 1).drop 1).take 1) lK cH ⟨29,0,32,45⟩ lu)=U (.next,⟨k8H w.params,#[],{},376,D⟩,cH,⟨33,0,36,45⟩):=by kernel_rfl
theorem c9H(w:VC)(D:W1):VO Vz pH w 11 (U<|.ref 6) 1 247 ⟨k8H w.params,#[],{},376,D⟩ (VG (((((((((lp.drop 2).drop 1).drop 1).drop 1).drop 1).drop 1).drop 1).drop 1).take 1) lK cH ⟨33,0,36,45⟩ lu)=U (.next,⟨k9H w.params,#[],{},401,D⟩,cH,⟨37,0,40,47⟩):=by kernel_rfl
theorem c10H(w:VC)(D:W1):VO Vz pH w 11 (U<|.ref 6) 1 228 ⟨k9H w.params,#[],{},401,D⟩ (VG ((((((((((lp.drop 2).drop 1).drop 1).drop 1).drop 1).drop 1).drop 1).drop 1).drop 1).take 11) lK cH ⟨37,0,40,47⟩ lu)=U (.next,⟨R3 w.params,#[],{},457,D⟩,cH,⟨69,0,77,44⟩):=by kernel_rfl
theorem c11H(w:VC)(D:W1):VO Vz pH w 11 (U<|.ref 6) 1 247 ⟨R3 w.params,#[],{},457,D⟩ (VG (((((((((((lp.drop 2).drop 1).drop 1).drop 1).drop 1).drop 1).drop 1).drop 1).drop 1).drop 11).take 10) lK cH ⟨69,0,77,44⟩ lu)=U (.next,⟨R0 w.params,#[],{},521,D⟩,cH,⟨115,0,117,41⟩):=by kernel_rfl
theorem c12H(w:VC)(D:W1):VO Vz pH w 11 (U<|.ref 6) 1 245 ⟨R0 w.params,#[],{},521,D⟩ (VG ((((((((((((lp.drop 2).drop 1).drop 1).drop 1).drop 1).drop 1).drop 1).drop 1).drop 1).drop 11).drop 10).take 10) lK cH ⟨115,0,117,41⟩ lu)=U (.next,⟨RY w.params,#[],{},585,D⟩,cH,⟨147,0,148,83⟩):=by kernel_rfl
theorem c13H(w:VC)(D:W1):VO Vz pH w 11 (U<|.ref 6) 1 141 ⟨RY w.params,#[],{},585,D⟩ (VG (((((((((((((lp.drop 2).drop 1).drop 1).drop 1).drop 1).drop 1).drop 1).drop 1).drop 1).drop 11).drop 10).drop 10).take 5) lK cH ⟨147,0,148,83⟩ lu)=U (.next,⟨RW w.params,#[],{},623,D⟩,cH,⟨177,0,178,103⟩):=by kernel_rfl
theorem c14H(w:VC)(D:W1):VO Vz pH w 11 (U<|.ref 6) 1 547 ⟨RW w.params,#[],{},623,D⟩ (VG ((((((((((((((lp.drop 2).drop 1).drop 1).drop 1).drop 1).drop 1).drop 1).drop 1).drop 1).drop 11).drop 10).drop 10).drop 5).take 1) lK cH ⟨177,0,178,103⟩ lu)=U (.next,⟨RU w.params,#[],{},731,D⟩,cH,⟨179,0,219,39⟩):=by kernel_rfl
theorem c15H(w:VC)(D:W1):VO Vz pH w 11 (U<|.ref 6) 1 251 ⟨RU w.params,#[],{},731,D⟩ (VG (((((((((((((((lp.drop 2).drop 1).drop 1).drop 1).drop 1).drop 1).drop 1).drop 1).drop 1).drop 11).drop 10).drop 10).drop 5).drop 1).take 11) lK cH ⟨179,0,219,39⟩ lu)=U (.next,⟨RO w.params,#[],{},810,D⟩,cH,⟨251,0,255,15⟩):=by kernel_rfl
theorem c16H(w:VC)(D:W1):VO Vz pH w 11 (U<|.ref 6) 1 84 ⟨RO w.params,#[],{},810,D⟩ (VG ((((((((((((((((lp.drop 2).drop 1).drop 1).drop 1).drop 1).drop 1).drop 1).drop 1).drop 1).drop 11).drop 10).drop 10).drop 5).drop 1).drop 11).take 3) lK cH ⟨251,0,255,15⟩ lu)=U (.next,⟨RM w.params,#[],{},831,D⟩,cH,⟨263,0,264,91⟩):=by kernel_rfl
theorem c17H(w:VC)(D:W1):VO Vz pH w 11 (U<|.ref 6) 1 454 ⟨RM w.params,#[],{},831,D⟩ (VG (((((((((((((((((lp.drop 2).drop 1).drop 1).drop 1).drop 1).drop 1).drop 1).drop 1).drop 1).drop 11).drop 10).drop 10).drop 5).drop 1).drop 11).drop 3).take 1) lK cH ⟨263,0,264,91⟩ lu)=U (.next,⟨RJ w.params,#[],{},921,D⟩,cH,⟨265,0,310,16⟩):=by kernel_rfl
theorem c18H(w:VC)(D:W1):VO Vz pH w 11 (U<|.ref 6) 1 231 ⟨RJ w.params,#[],{},921,D⟩ (VG ((((((((((((((((((lp.drop 2).drop 1).drop 1).drop 1).drop 1).drop 1).drop 1).drop 1).drop 1).drop 11).drop 10).drop 10).drop 5).drop 1).drop 11).drop 3).drop 1).take 9) lK cH ⟨265,0,310,16⟩ lu)=U (.next,⟨RH w.params,#[],{},980,D⟩,cH,⟨358,0,359,76⟩):=by kernel_rfl
theorem c19H(w:VC)(D:W1):VO Vz pH w 11 (U<|.ref 6) 1 234 ⟨RH w.params,#[],{},980,D⟩ (VG (((((((((((((((((((lp.drop 2).drop 1).drop 1).drop 1).drop 1).drop 1).drop 1).drop 1).drop 1).drop 11).drop 10).drop 10).drop 5).drop 1).drop 11).drop 3).drop 1).drop 9).take 8) lK cH ⟨358,0,359,76⟩ lu)=U (.next,⟨RF w.params,#[],{},1045,D⟩,cH,⟨397,0,402,19⟩):=by kernel_rfl
theorem c20H(w:VC)(D:W1):VO Vz pH w 11 (U<|.ref 6) 1 239 ⟨RF w.params,#[],{},1045,D⟩ (VG ((((((((((((((((((((lp.drop 2).drop 1).drop 1).drop 1).drop 1).drop 1).drop 1).drop 1).drop 1).drop 11).drop 10).drop 10).drop 5).drop 1).drop 11).drop 3).drop 1).drop 9).drop 8).take 8) lK cH ⟨397,0,402,19⟩ lu)=U (.next,⟨RC w.params,#[],{},1111,D⟩,cH,⟨434,0,448,77⟩):=by kernel_rfl
theorem c21H(w:VC)(D:W1):VO Vz pH w 11 (U<|.ref 6) 1 232 ⟨RC w.params,#[],{},1111,D⟩ (VG (((((((((((((((((((((lp.drop 2).drop 1).drop 1).drop 1).drop 1).drop 1).drop 1).drop 1).drop 1).drop 11).drop 10).drop 10).drop 5).drop 1).drop 11).drop 3).drop 1).drop 9).drop 8).drop 8).take 8) lK cH ⟨434,0,448,77⟩ lu)=U (.next,⟨RA w.params,#[],{},1174,D⟩,cH,⟨521,0,525,110⟩):=by kernel_rfl
theorem c22H(w:VC)(D:W1):VO Vz pH w 11 (U<|.ref 6) 1 71 ⟨RA w.params,#[],{},1174,D⟩ (VG ((((((((((((((((((((((lp.drop 2).drop 1).drop 1).drop 1).drop 1).drop 1).drop 1).drop 1).drop 1).drop 11).drop 10).drop 10).drop 5).drop 1).drop 11).drop 3).drop 1).drop 9).drop 8).drop 8).drop 8).take 2) lK cH ⟨521,0,525,110⟩ lu)=U (.next,⟨yO w.params,#[],{},1200,D⟩,cH,⟨530,0,543,113⟩):=by kernel_rfl
theorem e0H:((((((((((((((((((((((lp.drop 2).drop 1).drop 1).drop 1).drop 1).drop 1).drop 1).drop 1).drop 1).drop 11).drop 10).drop 10).drop 5).drop 1).drop 11).drop 3).drop 1).drop 9).drop 8).drop 8).drop 8).drop 2)=[]:=by kernel_rfl
theorem r9H(w:VC)(D:W1):PySem.W.topRun Vz pH w 11 (U<|.ref 6) 2 ⟨yO w.params,#[],{},1200,D⟩ ⟨PySem.W.doneF .next,cH,⟨530,0,543,113⟩,lu⟩=U ⟨yO w.params,#[],{},1200,D⟩:=by kernel_rfl
theorem rnH(w)(D):PySem.W.topRun Vz pH w 11 (U<|.ref 6) (12+(1+(39+(220+(247+(247+(246+(248+(247+(247+(247+(228+(247+(245+(141+(547+(251+(84+(454+(231+(234+(239+(232+(71+2)))))))))))))))))))))))) ⟨h0H w.params,#[],{},181,D⟩ (PySem.W.topStub pH)=U ⟨yO w.params,#[],{},1200,D⟩:=PySem.W.go_top (r1H w D)<|PySem.W.piece_block (r2H w D)<|bJ 2 (c1H w D)<|bJ 1 (c2H w D)<|bJ 1 (c3H w D)<|bJ 1 (c4H w D)<|bJ 1 (c5H w D)<|bJ 1 (c6H w D)<|bJ 1 (c7H w D)<|bJ 1 (c8H w D)<|bJ 1 (c9H w D)<|bJ 11 (c10H w D)<|bJ 10 (c11H w D)<|bJ 10 (c12H w D)<|bJ 5 (c13H w D)<|bJ 1 (c14H w D)<|bJ 11 (c15H w D)<|bJ 3 (c16H w D)<|bJ 1 (c17H w D)<|bJ 9 (c18H w D)<|bJ 8 (c19H w D)<|bJ 8 (c20H w D)<|bJ 8 (c21H w D)<|bJ 2 (c22H w D)<|MF e0H<|r9H w D
section
open PySem PySem.W PyProof.Rows
theorem xq0{q:Program}{l m:List Str}{X:Shared->Bool}{s:Shared}(h0:PyProof.Rows.seen ((recsOf q).map (·.name)) (ownsOf q) [] {heap:=s.heap,drawn:=s.drawn,toks:=s.toks,os:=s.os}=expectedOf q)(h1:s.heap.bltView=bltViewBooted)(h2:s.heap.keysOk (looseW q l) ((recsOf q).map (·.name)) ((litsOf q).map (·.1)) ((clssOf q (looseW q l)).map (·.name))=true)(h3:(s.heap.accountedOkI m&&s.heap.isNs mainGlobals&&s.heap.isNs builtinsNs&&tablesOk q s.heap&&X s&&s.gens.size==0)=true)(h4:tabsOk q s=true)(h5:pinSeenD q (drecsOf q) s=pinGoodD (drecsOf q))(h6:plainSeenE q (looseW q l) s=plainGoodE q (looseW q l))(h7:plainSeenD q l s=plainGoodD q l)(h8:wideSeen q s=wideGood q)(h9:clsSeenW q l s=clsGoodW q l):openSeen q l m X true s=openGood q l:=by
 simp only [Bool.and_eq_true] at h3;obtain⟨⟨⟨⟨⟨a1,a2⟩,a3⟩,a4⟩,a5⟩,a6⟩:=h3;unfold openSeen openGood;rw[h0,h1,h2,h4,h5,h6,h7,h8,h9,a1,a2,a3,a4,a5,if_pos Z,a6];rfl
theorem xq1{A B:Type}{a:Bool}{b b':A}{c c':B}(h:a=true)(k:b=b')(l:c=c'):(a,b,c)=(true,b',c'):=by subst h k l;rfl
theorem xq2(w:VC)(D:W1):PyProof.Rows.seen ((recsOf qH).map (·.name)) (ownsOf qH) [] {heap:=yO w.params,drawn:={},toks:=1200,os:=D}=expectedOf qH:=by kernel_rfl
theorem xq3(w:VC)(D:W1):(yO w.params).bltView=bltViewBooted:=by kernel_rfl
theorem xq4(w:VC)(D:W1):(yO w.params).keysOk (looseW qH loH) ((recsOf qH).map (·.name)) ((litsOf qH).map (·.1)) ((clssOf qH (looseW qH loH)).map (·.name))=true:=by kernel_rfl
theorem xq5(w:VC)(D:W1):((yO w.params).accountedOkI (importedModules pH.main.body)&&(yO w.params).isNs mainGlobals&&(yO w.params).isNs builtinsNs&&tablesOk qH (yO w.params)&&xtH ⟨yO w.params,#[],{},1200,D⟩&&(#[]:Array GenState).size==0)=true:=by kernel_rfl
theorem xq6(w:VC)(D:W1):tabsOk qH ⟨yO w.params,#[],{},1200,D⟩=true:=by kernel_rfl
theorem xq7(w:VC)(D:W1):pinSeenD qH (drecsOf qH) ⟨yO w.params,#[],{},1200,D⟩=pinGoodD (drecsOf qH):=by kernel_rfl
theorem xq8(w:VC)(D:W1):plainSeenE qH (looseW qH loH) ⟨yO w.params,#[],{},1200,D⟩=plainGoodE qH (looseW qH loH):=by kernel_rfl
theorem xq9(w:VC)(D:W1):plainSeenD qH loH ⟨yO w.params,#[],{},1200,D⟩=plainGoodD qH loH:=by kernel_rfl
theorem xqa(w:VC)(D:W1):wideSeen qH ⟨yO w.params,#[],{},1200,D⟩=wideGood qH:=by kernel_rfl
theorem xqb(w:VC)(D:W1):clsSeenW qH loH ⟨yO w.params,#[],{},1200,D⟩=clsGoodW qH loH:=by kernel_rfl
theorem xqc(w:VC)(D:W1):(staticsOk (importedModules pH.main.body) (h0H w.params) (yO w.params)&&namesBound pH (yO w.params)&&gensDone ⟨yO w.params,#[],{},1200,D⟩&&laidKept (h0H w.params) (yO w.params))=true:=by kernel_rfl
theorem xqd(w:VC)(D:W1):Hook.obs hkH ⟨yO w.params,#[],{},1200,D⟩=Hook.val hkH w:=by kernel_rfl
theorem xqe(w:VC)(D:W1):openSeen qH loH (importedModules pH.main.body) xtH true ⟨yO w.params,#[],{},1200,D⟩=openGood qH loH:=xq0 (s:=⟨yO w.params,#[],{},1200,D⟩) (xq2 w D) (xq3 w D) (xq4 w D) (xq5 w D) (xq6 w D) (xq7 w D) (xq8 w D) (xq9 w D) (xqa w D) (xqb w D)
theorem hlH:PySem.W.LeftO pH qH loH xtH (PySem.W.Hook.obs hkH) (PySem.W.Hook.val hkH) 10466:=PySem.W.LeftO.of_pieces (H₀:=h0H) (H₁:=yO) opH szH rnH (by decide +kernel) λw=>funext λD=>xq1 (xqc w D) (xqe w D) (xqd w D)
end
theorem okH:(PySem.W.chainsOk qH&&PySem.W.opensWell (PySem.W.RowW.prog<|Xj<|XJ VW)&&(PySem.W.frees (Xj<|XJ VW)&&(PySem.W.RowW.within<|Xj<|XJ VW).isEmpty))=O:=by decide +kernel
abbrev adH:Ad:=⟨38,35,fk rrB 6,422,550,186,fk rrC 4,191,fk rrD 4,198,fk rrD 11,205,fk rrD 18,212,fk rrD 25,217,fk rrD 30,229,fk rrE 6,236,fk rrE 13,243,fk rrE 20,250,fk rrE 27,255,fk rrE 32,260,fk rrF 4,265,fk rrF 9,270,fk rrF 14,275,fk rrF 19,280,fk rrF 24,285,fk rrF 29,292,fk rrF 36,299,fk rrG 6,306,fk rrG 13,311,fk rrG 18,316,fk rrG 23,321,fk rrG 28,328,fk rrG 35,333,fk rrG 40,338,fk rrG 45,433,fk rrJ 6,440,fk rrJ 13,447,fk rrJ 20,452,fk rrJ 25,459,fk rrJ 32,469,fk rrK 6,476,fk rrK 13,481,fk rrK 18,486,fk rrK 23,559,fk jm 4,566,fk jm 11,571,fk jm 16,576,fk jm 21,583,fk jm 28,588,fk jm 33,593,fk jm 38,598,fk jm 43,603,fk jm 48,610,fk jm 55,615,fk jm 60,620,fk jm 65,625,fk jm 70,632,fk jm 77,639,fk jm 84,646,fk jm 91,653,fk jm 98,660,fk jm 105,667,fk jm 112,674,fk jm 119,681,fk jm 126,688,fk jm 133,693,fk jm 138,698,fk jm 143,703,fk jm 148,708,fk jm 153,715,fk jm 160,722,fk jm 167,729,fk jm 174,734,fk jm 179,739,fk jm 184,746,fk jm 191,753,fk jm 198,353,fk rrH 6,500,fk rrL 4,374,fk rrI 20,507,fk rrM 6,381,fk rrI 27,514,fk rrM 13,419,fk rrI 65,412,fk rrI 58,393,fk rrI 39,519,fk rrM 18,533,fk rrM 32,526,fk rrM 25,760,fk jm 205⟩
section
variable{P:Params}{h:V0}{l:ϙ}
theorem fH{x q:VF}{s:VQ}{f:UM}{a b d e h w:UQ}{g:a0W}(l:autoParam ((KH P).lookup f=U (fO<|FN x q s a b d e g h w)) q9)(c:autoParam (ZS (KH P) h q=O) q9)(k:autoParam (keepIn (KH P) (.ref f)=O) q9):gs (KH P) x q s f (FN x q s a b d e g h w):=Pq l c k
theorem mO(X:(KH P).In h)(G:h.Ns Xh l){n:VF}{v:UQ}(e:autoParam (PySem.W.nsIn (KH P) Xh n=U (U v)) q9):l n=U v:=mg_of X G e
theorem mN(X:(KH P).In h)(G:h.Ns Xh l){n:VF}(e:autoParam (PySem.W.nsIn (KH P) Xh n=U Y) q9):l n=Y:=PySem.W.mg_none_of X G e
theorem nH(X:(KH P).In h)(G:h.Ns Xh l):zi (KH P) l adH where
 Fi:=mN X G
 Fj:=mN X G
 Fk:=mN X G
 Fl:=mN X G
 Fm:=mN X G
 Fn:=mN X G
 Fo:=mN X G
 Fp:=mN X G
 Fq:=mN X G
 Fs:=mN X G
 Ft:=mN X G
 Fu:=mN X G
 Fv:=mN X G
 Fw:=mN X G
 Fy:=mN X G
 Fz:=mN X G
 F4:=mN X G
 F5:=mN X G
 F6:=lz (u:=(.ref 462)) (mO X G) (qo (p:=462) (q1:=(.type lP)) (q2:=Y) (q3:=#[(.str G' 798),(.str vS 799)]) (q4:=0) (q5:=#[]) rf Z rb<|by repeat (first|exact trivial|refine⟨Z,?_⟩))
 F7:=lz (u:=(.ref 461)) (mO X G) (qo (p:=461) (q1:=(.type lP)) (q2:=Y) (q3:=#[(.str zT 795),(.str tq 796)]) (q4:=0) (q5:=#[]) rf Z rb<|by repeat (first|exact trivial|refine⟨Z,?_⟩))
 F8:=lz (u:=(.ref 460)) (mO X G) (qo (p:=460) (q1:=(.type lP)) (q2:=Y) (q3:=#[(.str zT 788),(.str HW 789),(.str tq 790),(.str "off" 791),(.str G' 792),(.str vS 793)]) (q4:=0) (q5:=#[]) rf Z rb<|by repeat (first|exact trivial|refine⟨Z,?_⟩))
 F9:=lz (u:=(.int 40 403)) (mO X G) qp
 Ga:=lz (u:=(.int 6 407)) (mO X G) qp
 Gb:=lz (u:=(.int 4 405)) (mO X G) qp
 Gc:=lz (u:=(.int 500 558)) (mO X G) qp
 Gd:=fH
 Ge:=mO X G
 Gf:=Sx (us:=[(.ref 180)]) 2 Z (λs us b a=>by obtain⟨e,f,rfl⟩:=lU2 a;exact PySem.W.kp_binds b λS=>rf) (Px (qo (p:=180) (q1:=(.type lP)) (q2:=Y) (q3:=#[(.int 0 409),(.int 40 403)]) (q4:=0) (q5:=#[]) rf Z rb<|by repeat (first|exact trivial|refine⟨Z,?_⟩)) Sv)
 Gg:=⟨fH,mO X G,.all<|ss λ_ _=>Z⟩
 Gh:=⟨fH,mO X G,.all<|ss λ_ _=>Z⟩
 Gi:=⟨fH,mO X G,.all<|bA4 λ_ _ _ _=>Z⟩
 Gj:=⟨fH,mO X G,.all<|lk λ_=>Z⟩
 Gk:=⟨fH,mO X G,.all<|l4 λ_ _ _=>Z⟩
 Gm:=⟨fH,mO X G,.all<|lk λ_=>Z⟩
 Gn:=⟨fH,mO X G,.all<|ss λ_ _=>Z⟩
 Go:=⟨fH,mO X G,.all<|lk λ_=>Z⟩
 Gp:=⟨fH,mO X G,.all<|ss λ_ _=>Z⟩
 Gq:=⟨fH,mO X G,.all<|l4 λ_ _ _=>Z⟩
 Gr:=⟨fH,mO X G,.all<|ss λ_ _=>Z⟩
 Gs:=⟨fH,mO X G,.all<|bA4 λ_ _ _ _=>Z⟩
 Gu:=⟨fH,mO X G,.all<|l4 λ_ _ _=>Z⟩
 Gv:=⟨fH,mO X G,.all<|bA4 λ_ _ _ _=>Z⟩
 Gx:=⟨fH,mO X G,.all<|l4 λ_ _ _=>Z⟩
 Gy:=⟨fH,mO X G,.all<|lk λ_=>Z⟩
 Gz:=⟨fH,mO X G,.all<|l4 λ_ _ _=>Z⟩
 G0:=⟨fH,mO X G,.all<|lk λ_=>Z⟩
 G1:=⟨fH,mO X G,.all<|l4 λ_ _ _=>Z⟩
 G2:=⟨fH,mO X G,.all<|bA4 λ_ _ _ _=>Z⟩
 G3:=⟨fH,mO X G,.all<|ss λ_ _=>Z⟩
 G4:=⟨fH,mO X G,.all<|l4 λ_ _ _=>Z⟩
 G5:=⟨fH,mO X G,.all<|l4 λ_ _ _=>Z⟩
 G6:=⟨fH,mO X G,.all<|l4 λ_ _ _=>Z⟩
 G7:=⟨fH,mO X G,.all<|lk λ_=>Z⟩
 G8:=⟨fH,mO X G,.all<|ss λ_ _=>Z⟩
 G9:=⟨fH,mO X G,.all λus a=>by obtain⟨_,_,_,_,_,rfl⟩:=lU5 a;rfl⟩
 Ha:=⟨fH,mO X G,.all<|ss λ_ _=>Z⟩
 Hb:=⟨fH,mO X G,.all<|ss λ_ _=>Z⟩
 Hc:=⟨fH,mO X G,.all<|l4 λ_ _ _=>Z⟩
 Hd:=⟨fH,mO X G,.all<|lk λ_=>Z⟩
 He:=⟨fH,mO X G,.all<|lk λ_=>Z⟩
 Hf:=⟨fH,mO X G,.all<|l4 λ_ _ _=>Z⟩
 Hg:=⟨fH,mO X G,.all<|l4 λ_ _ _=>Z⟩
 Hh:=⟨fH,mO X G,.all<|lk λ_=>Z⟩
 Hi:=⟨fH,mO X G,.all<|ss λ_ _=>Z⟩
 Hj:=⟨fH,mO X G,.all<|ss λ_ _=>Z⟩
 Hk:=⟨fH,mO X G,.all<|bA4 λ_ _ _ _=>Z⟩
 Hl:=⟨fH,mO X G,.all<|lk λ_=>Z⟩
 Hm:=⟨fH,mO X G,.all<|lk λ_=>Z⟩
 Hn:=⟨fH,mO X G,.all<|lk λ_=>Z⟩
 Ho:=⟨fH,mO X G,.all<|lk λ_=>Z⟩
 Hq:=⟨fH,mO X G,.all<|ss λ_ _=>Z⟩
 Hr:=⟨fH,mO X G,.all<|ss λ_ _=>Z⟩
 Ht:=⟨fH,mO X G,.all<|lk λ_=>Z⟩
 Hu:=⟨fH,mO X G,.all<|l4 λ_ _ _=>Z⟩
 Hv:=⟨fH,mO X G,.all<|ss λ_ _=>Z⟩
 Hw:=⟨fH,mO X G,.all<|lk λ_=>Z⟩
 Hx:=⟨fH,mO X G,.all<|lk λ_=>Z⟩
 Hy:=⟨fH,mO X G,.all<|ss λ_ _=>Z⟩
 Hz:=⟨fH,mO X G,.all<|lk λ_=>Z⟩
 Ia:=⟨fH,mO X G,.all<|ss λ_ _=>Z⟩
 Ib:=⟨fH,mO X G,.all<|ss λ_ _=>Z⟩
 Id:=⟨fH,mO X G,.all<|lk λ_=>Z⟩
 Ie:=⟨fH,mO X G,.all<|ss λ_ _=>Z⟩
 Ig:=⟨fH,mO X G,.all<|l4 λ_ _ _=>Z⟩
 Ih:=⟨fH,mO X G,.all<|l4 λ_ _ _=>Z⟩
 Ii:=⟨fH,mO X G,.all<|l4 λ_ _ _=>Z⟩
 Ij:=⟨fH,mO X G,.all<|l4 λ_ _ _=>Z⟩
 Ik:=⟨fH,mO X G,.all<|l4 λ_ _ _=>Z⟩
 Il:=⟨fH,mO X G,.all λus a=>by obtain⟨_,_,_,_,_,rfl⟩:=lU5 a;rfl⟩
 Im:=⟨fH,mO X G,.all<|l4 λ_ _ _=>Z⟩
 Io:=⟨fH,mO X G,.all<|lk λ_=>Z⟩
 Ip:=⟨fH,mO X G,.all<|bA4 λ_ _ _ _=>Z⟩
 Iq:=⟨fH,mO X G,.all λus a=>by obtain⟨_,_,_,_,_,_,rfl⟩:=lU6 a;rfl⟩
 Ir:=⟨fH,mO X G,.all<|lk λ_=>Z⟩
 Iu:=⟨fH,mO X G,.all<|lk λ_=>Z⟩
 Iw:=fH
 Ix:=⟨rf,rf,rf,rf⟩
 Iy:=NS (sv:=[.kw 0]) (.kw .nil) Z rb λs us g b c d=>by obtain⟨e,f,i,rfl⟩:=lU3 c;obtain⟨j,rfl⟩:=lU1 d;exact .of_eq Z
 Iz:=fH
 I0:=⟨rf,rf,rf,rf⟩
 I9:=NS (sv:=[.kw 0]) (.kw .nil) Z rb λs us g b c d=>by obtain⟨e,f,i,k,rfl⟩:=lU4 c;obtain⟨j,rfl⟩:=lU1 d;exact .of_eq Z
 Ja:=fH
 Jb:=⟨rf,rf,rf⟩
 Jc:= .all (lk λ_=>Z)
 Jd:=fH
 Je:=⟨rf,rf,rf⟩
 Jf:= .all (lk λ_=>Z)
 Jg:=fH
 Jh:=⟨rf,rf,rf⟩
 Ji:= .all (lk λ_=>Z)
 Jj:=fH
 Jk:=⟨rf,rf,rf⟩
 Jl:= .all (lk λ_=>Z)
 Jm:=fH
 Jn:=⟨rf,rf,rf⟩
 Jo:= .all (lk λ_=>Z)
 Jp:=fH
 Jq:=⟨rf,rf,rf⟩
 Jr:= .all (l4 λ_ _ _=>Z)
 Js:=fH
 Jt:=⟨rf,rf,rf⟩
 Ju:= .all (l4 λ_ _ _=>Z)
 Jv:=fH
 Jw:=⟨rf,rf,rf⟩
 Jx:= .all (l4 λ_ _ _=>Z)
 Jy:=fH
 Jz:=⟨rf,rf,rf⟩
 J0:= .all (lk λ_=>Z)
 J1:=fH
 J2:=⟨rf,rf,rf⟩
 J3:= .all (l4 λ_ _ _=>Z)
 J4:=⟨rf,rf,rf,rf⟩
 J5:=mO X G
 Ka:=⟨rf,rf,rf,rf⟩
 Kb:=mO X G
 Kc:=show Yl (KH P) _ _=_ by kernel_rfl
 Ke:=show Yl (KH P) _ _=_ by kernel_rfl
 Kf:=show Yl (KH P) _ _=_ by kernel_rfl
 Kg:=show Yl (KH P) _ _=_ by kernel_rfl
 Kh:=show Yl (KH P) _ _=_ by kernel_rfl
 J6:=show Yl (KH P) _ _=_ by kernel_rfl
 J7:=show Yl (KH P) _ _=_ by kernel_rfl
 J8:=show Yl (KH P) _ _=_ by kernel_rfl
 J9:=show Yl (KH P) _ _=_ by kernel_rfl
 Ki:=fH
 Kj:= .all (l4 λ_ _ _=>Z)
 Kk:=mO X G
 Kl:=⟨rf,rf,rf,rf⟩
theorem wlkH:PySem.W.WalkO qH loH (PySem.W.XL qH lvH) (PySem.W.Hook.says hkH) (Xj<|XJ VW) (Option.get (PySem.W.defOf qH "law") Z).1 [] (λf D=>PySem.call f D):=
 L2.walk_of (n:=63) (k:=9) (x:=rk) (CX:=λw=>hO _ w) (sp:=λw=>Nk<|KH w.params) Z rb Z ⟨Z,rb,rb,Z⟩ (λw h m=>PySem.W.kIn_of m) (λw l i h c G b=>by
  have e:=b.symm.trans (mg_of c G (v:= .ref 760) rf);cases e;exact⟨FN "law" "law" (cp 96) .none .none .none (.str θ 921) Y (.ref 759) .none,λs v=> .of_eq Z,λbase _ _=>Q9 (a:=adH) (fH rf rf rf) (nH c G) λE M=>Mt (K:=KH w.params) (a:=adH)  E M⟩) (λ_ _ a P d _ g=>⟨a,P,Z,g,d,λ_=>Z⟩) λ_ _ _ _ _ h=>by obtain⟨x,C,j,_,fl⟩:=h;obtain⟨_,_,z⟩:=fl.wish;all_goals exact z
end
end Law
open PySem.W
set_option maxHeartbeats 0 in
theorem PySem.Challenge.cw_edgetally_k32_ends_held_holds : PySem.Challenge.rw_edgetally_k32_ends_held.Holds := by
 w_on
 refine holds_law Law.wsH λsaid=>?_;refine holds_open (q:=Law.qH) (loose:=Law.loH) (Xt:=Law.xtH) (XP:=XL Law.qH Law.lvH) (Yf:=Hook.obs Law.hkH) (Ya:=Hook.val Law.hkH) (YP:=Hook.says Law.hkH) (N:=10466) Law.hlH (Hook.of Law.hkH) (Hook.keeps Law.hkH) (λs e=>xl_of s (Bool.and_eq_true_iff.mp e).1) XL.keeps re re re (λs e=>recFacts_of (Bool.and_eq_true_iff.mp e).2) re said Law.okH ⟨Z,Z,Z,Z,Z,by decide +kernel⟩ ?hw ?hc
 case hw=>w_witness2
 exact Law.wlkH
