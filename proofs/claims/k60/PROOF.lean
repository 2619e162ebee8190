import PyProof.Rows.All
import KE.KDictOf
import KE.KFromBytes
import KE.KItemsList
import KE.KSortTup
import KE.KTupSum
import KE.RegKIsAll
import KE.RegKTryMore
import Lean
import PySem.Challenge.RW_glowflock_k60_what_a_desk_refuses
set_option compiler.extract_closed false
set_option Elab.async false
set_option linter.all false
set_option maxRecDepth 100000
open Array renaming all_toList->VF,append_assoc->QI,foldl->uF,getElem?_eq_some_iff->vO,getElem?_toList->Qi,length_toList->qz,toList->uu,toList_append->Qx,toList_inj->Wo
open Bool renaming and_eq_true->wy,and_eq_true_iff->Qj,and_false->Wr,and_true->QQ,beq_eq_decide_eq->V9,eq_iff_iff->Wy,false_and->w8,false_eq_true->We,false_ne_true->vB,false_or->xS,not_eq_true'->V3,not_false->V8,or_eq_true->W1,or_false->qo,or_self->xg,or_true->xh,true_and->w9,true_or->uA
open Classical renaming not_not->qY
open False renaming elim->vN
open Int renaming dvd_mul_right->Xo,dvd_trans->xQ,ediv_eq_of_eq_mul_right->QJ,emod_lt_of_pos->qP,emod_nonneg->Qs,gcd->vo,gcd_comm->Xg,gcd_dvd_left->qh,gcd_dvd_right->qT,gcd_pos_of_ne_zero_right->V7,gcd_zero_right->Xl,mul_assoc->xP,mul_ediv_cancel_left->VB,mul_ne_zero->xw,mul_pos->QG,natAbs_ediv_le_natAbs->Q7,natAbs_natCast->VT,natCast_ediv->VC,natCast_mul->VR,neg_dvd->Xz,toNat_natCast->WL
open Lean.Syntax renaming mkStrLit->xr
open List renaming all_cons->W2,all_eq_true->wH,all_map->Wf,all_nil->uB,any_cons->W3,any_nil->xk,append_assoc->Vo,append_nil->vS,concat_eq_append->xF,dropLast_concat->xM,dropWhile->QD,dropWhile_cons->xZ,drop_succ_cons->xX,eq_nil_of_length_eq_zero->V2,eq_nil_or_concat->xE,ext_getElem->vv,filterMap_cons->qy,filter_append->WX,filter_cons->W8,flatten_cons->Vn,foldl->XV,foldl_append->qU,forIn_cons->xy,forIn_nil->uf,forall_mem_cons->xN,getD_eq_getElem?_getD->wk,getElem?_append_left->Ww,getElem?_append_right->WR,getElem?_eq_getElem->wg,getElem?_eq_none->vj,getElem?_eq_some_iff->wZ,getElem?_map->wG,getElem?_range->xT,getElem?_set->Vp,getElem?_set_ne->Qk,getElem?_set_self->xz,getElem_map->vb,getElem_mem->Wi,getElem_of_mem->W6,getElem_toArray->xL,head?_cons->X8,headD_cons->Qu,isEmpty_cons->qX,length_append->vc,length_cons->wQ,length_drop->Qe,length_dropLast->xH,length_eq_zero_iff->xn,length_filter_le->WF,length_map->we,length_nil->WO,length_pos_iff->VI,length_range->WK,length_set->Wx,length_singleton->WD,length_take->WH,lookup->qt,lookup_cons->Va,map_append->vJ,map_congr_left->x6,map_cons->wE,map_eq_nil_iff->x8,map_map->qO,map_nil->WQ,mem_append->vR,mem_append_left->Wd,mem_append_right->vd,mem_cons->wz,mem_cons_of_mem->wx,mem_cons_self->wV,mem_filter->Wv,mem_filterMap->qI,mem_iff_getElem->xO,mem_map->wU,mem_of_getElem?->vx,mem_range->Wq,mem_singleton->wY,nil_append->Qp,nodup_cons->qB,nodup_range->xc,not_mem_nil->vI,of_mem_zip->Qm,range->vP,range_succ->X6,replicate->ve,replicate_succ->WP,set_cons_succ->QN,set_cons_zero->QP,size_toArray->wP,tail_cons->Vw,take_add_one->Q2,take_length->WT,take_of_length_le->xC,take_sublist->Xm,take_subset->XH,take_succ_cons->xW,take_zero->ug,zipIdx_cons->XO,zipIdx_nil->X5
open List.cons renaming inj->qp
open Nat renaming gcd_dvd_right->Xp,le_add_right->Qf,le_max_left->XY,le_max_right->XG,le_of_ble_eq_true->w6,le_of_dvd->uo,le_of_lt->qH,le_refl->wo,le_succ->QF,le_trans->w5,log2_lt->XA,lt_irrefl->Vk,lt_of_le_of_lt->Xf,lt_of_lt_of_le->wX,lt_or_ge->vt,lt_succ_of_lt->qW,lt_succ_self->Q8,lt_trans->Qn,min_le_right->XE,mul_le_mul->QE,mul_le_mul_right->Vs,ne_of_gt->vQ,ne_of_lt->wS,pow_le_pow_right->WZ,pow_succ->xa,reduceAdd->QV,reduceEqDiff->Qg,strongRecOn->qE,sub_self->xf,succ_ne_self->XN,two_pow_pos->X1,zero_le->Vu
open Nat.succ renaming inj->xl
open Ne renaming symm->WC
open Option renaming bind_eq_bind->qA,bind_some->VD,getD_none->XF,getD_some->XM,isSome->QY,isSome_iff_exists->Vz,map->uG,map_eq_some_iff->vF,map_some->X2
open Option.some renaming inj->vi,injEq->Q3
open Prod renaming ext->qf
open PyProof.Rows renaming AllBare->VL,callWith_type1->Wb,slot_tuple_getitem->VJ
open PyProof.Rows.IsTup renaming new->qd
open PySem renaming Addr->wc,Around->va,Ctx->ui,FuncData->wt,Heap->wK,IsPair->Ve,NameKind->WU,Program->wO,PyData->wu,Shared->wl,Stmt->wJ,Str->wm,Value->wd,Within->Xc,World->wN,backTo->Wh,behindInMarks->W4,binaryOp->Wu,bootBuiltins->vG,call->XX,call_meets->Vt,codeAny->VN,codeAny_mono->qc,compareOp->vk,importedModules->qF,keywordEach->qw,letOwnedTupleGo->VX,mainGlobals->wB,mem_of_lookup->W5,noteFrame->Vv,passOn->uz,rawInt->Vq,sizeLine->wr,sizeLine_eq->qu,sliceBounds->qx,starEach->wC,sysModules->VU,typeIs_str->qm,wpAny->wq,wpAny_Call_Name_kw->VZ,wpAny_attempt->qr,wpAny_bind->wj,wpAny_call_entry->Vb,wpAny_comprehension_free->qQ,wpAny_execs_cons->ql,wpAny_execs_nil->VW,wpAny_field->vy,wpAny_holding->VM,wpAny_mono->vH,wpAny_newObj_type->Wk,wpAny_passesOwn->Vj,wpAny_pure->wA,wpAny_pyIter_tuple->VY,wpAny_seqItems->Vc,wpAny_setField->Vx,wpAny_setField_rec->Vf,wpAny_standAt->qq,wpAny_truthy_bool->vT
open PySem.Around renaming under->qJ
open PySem.Builtin.Int renaming intBits->xU
open PySem.Builtin.List renaming listTooLong->qL
open PySem.Builtin.Range renaming rangeSize->uC
open PySem.Builtin.Slice renaming sliceAdjust->qC,sliceApplied->QT,sliceFields->ut,slicePartIndex->ub,slicePlaces->Vr
open PySem.Builtin.SmallTypes renaming nextOf->vX,ownedTupleHandOut->qN,ownedTupleIsFree->WJ
open PySem.Builtin.Str renaming occurrences->Wm,strKind->x5,strSliceIndices->XC
open PySem.Builtin.Tuple renaming tupleExact->VA,tupleItemsOf->ul
open PySem.Calls renaming Constant_str->VP,Name_function_global->QR,callWith_builtin->Qc,evalArgs_plain->Qo,spliced_cons->VQ,spliced_nil->Q1
open PySem.Challenge renaming pw_glowflock_k60_what_a_desk_refuses->vV,rw_glowflock_k60_what_a_desk_refuses->Wp
open PySem.Code renaming guards->Xy,isFrame->Xd,isGuard->Q9
open PySem.EntryCells renaming newEntry->xV
open PySem.F renaming args_enumerate_next_1->xp,args_str_split_2->QM,args_tuple_add_2->qK,args_tuple_iterator_next_1->QC,args_zip_next_1->Xv,attrBase_ValueError->QK,entry_enumerate_next->xB,entry_str_split->Q5,entry_tuple_add->qR,entry_tuple_iterator_next->QL,entry_zip_next->XQ,excBase_ValueError->xK,plainAttrs_list->Wn,plainAttrs_str->wI,slot_enumerate_next->qa,slot_int_rmul->XW,slot_list_append->VG,slot_list_count->xq,slot_list_index->xo,slot_str_join->vf,slot_str_partition->QW,slot_str_split->Ws,slot_str_split->xi,slot_tuple_add->Qa,slot_tuple_iterator_next->Vm,slot_zip_next->Qq,type_list_append->VH,type_str_join->vg,type_str_partition->QX,type_str_split->Wt
open PySem.Heap renaming IsTuple->uv,MadeExcOf->ue,SameBut->vW,get?->qG,get?_push_ne->Q4,get?_push_of_some->wn,get?_push_size->wL,get?_update_other->Qb,get?_update_self->Vh,isNs->uh,lt_size->wD,nsMap->XU,size_push->WV,update->V0
open PySem.Heap.IsSliceOf renaming new->uI
open PySem.Heap.SameBut renaming update->xY
open PySem.IntMulOk renaming of_left->XR,of_right->Xw
open PySem.IsRange renaming new->uD
open PySem.Meets renaming of_wp->uE
open PySem.Obj renaming cls_mapFields->Xu,data_mapFields->WW,isFreed_of_fields->Vi,mapFields->Vl,mapSeq->Q6
open PySem.Paired renaming length->uk
open PySem.PassesOwn renaming never->Wg
open PySem.PyData renaming canLay0->vK,canLayAll0->Wc,depth->Vd,depthAll->qD,eqv->Wa,eqvAll->Qd,strOk->vM
open PySem.SeqAt renaming canLay_of_shaped->W9,shaped->vU
open PySem.SeqAt.EqAt renaming int_str->Xa,str_int->Xb
open PySem.Shared renaming heap->XB
open PySem.Str renaming empty->Qh,empty->Qt,ext'->qk,join->qj,join->vE,length->XS,ofString->WY,ofString->wb,ofString_eq_toList->V1
open PySem.StrLaws renaming glued_eq_join->xD,join_split->VE,occ_head->xj,partsBetween_eq->ua,partsFrom_ne->ur,sliceText->V4,split_free->uw,subAt_one->Xx
open PySem.Txt renaming partition->vA,split->wF,startswith->vD
open PySem.Unicode renaming numberText->Xk
open PySem.Value renaming isStrOf->uj
open PySem.W renaming Frag->wa,InstAt->Qz,KeysLit->Qr,Looks->QU,OpenLaw->xv,WalkO->um,callWith_K->WG,cellsFrom_some->qZ,clsIn->xR,codeIn->V6,codeRec_of->Xe,emptyDict->Wj,excIn->vZ,exmOne->vY,findIn->vn,findObj->X3,fnOf->WI,handedIn->XD,hasDictIn->qS,hideAll->Vg,hideAll_get->Qv,hideAll_none->xG,instObj->WM,isFn->Vy,keepIn->Wl,kia_one->WB,kia_tup->WN,kitAny->qb,kitOne->wf,kitx_bool->Xr,kitx_dict->qV,kitx_int->XI,kitx_list->Xs,kitx_none->Xq,kitx_str->XJ,kitx_tuple->Xj,lookIn->Qy,looks_findIn->Ql,makesIn->xu,methodCall_KW->V5,methodObj->QZ,mg_none_of->vC,mg_of->wW,mroIn->uq,nsIn->wM,of_hideAll->VO,plainGet->qg,plainGet_of->Qw,plainOver->Q0,takerIn->xt
open PySem.W.Looks renaming here->uH,ld->uJ
open Rat renaming den_divInt->uc,divInt->wR,divInt_nonneg->Xn,divInt_ofNat->xb,intCast_add->XZ,intCast_eq_zero_iff->xm,intCast_le_intCast->xA,intCast_mul->Wz,intCast_pos->xx,le_iff->xJ,le_of_lt->qM,lt_iff->xI,mul_nonneg->ud,not_lt->W0,num_divInt_den->VS,num_nonneg->W7,pow_succ->Xi,pow_zero->Xh
namespace GH
open PySem PySem.W PyProof.Rows
noncomputable def lH (p:wO) (w:wN) (m:Nat) (an:Option wd) (N:Nat):SharedT->Thread->Option SharedT :=
 Nat.rec (λ_ _=>none) (λ_ ih s t=>match through t with
   | true=>some s
   | false=>match Fast.tw6613529449190102663 m an t with
     | false=>none
     | true=>match Fast.tw10156331382660048174 (Fast.tw11892475500146522536 Fast.tw14364793385576792824) p w s t with
       | some (s',t')=>ih s' t'
       | none=>none) N
theorem NX{p:wO}{w:wN}{m:Nat}{an:Option wd} : ∀{N:Nat}{s r:SharedT}{t:Thread},lH p w m an N s t=some r->topRun treeTable p w m an N s.abs t=some r.abs
 | 0,_,_,_,h=>by cases h
 | n+1,s,r,t,h=>by
  unfold topRun
  change (match through t with
  | true=>some s
  | false=>match Fast.tw6613529449190102663 m an t with
   | false=>none
   | true=>match Fast.tw10156331382660048174 (Fast.tw11892475500146522536 Fast.tw14364793385576792824) p w s t with
    | some (s',t')=>lH p w m an n s' t'
    | none=>none)=some r at h
  rw[<- Fast.te6613529449190102663,<- Fast.te10156331382660048174,<- Fast.te11892475500146522536,<- Fast.te14364793385576792824]at h;cases ht:through t with
  | true=>rw[ht]at h;cases h;rfl
  | false =>
   rw[ht]at h;cases hk:stepOk m an t with
   | false=>rw[hk]at h;cases h
   | true =>
    rw[hk]at h;cases hs:stepT (denote treeTable) p w s t with
    | none=>rw[hs]at h;cases h
    | some x=>obtain⟨s₂,t₂⟩:=x;rw[hs]at h;dsimp only;rw[stepT_spec hs];exact NX h
def Ts:List Obj->Nat->BT->BT
 | [],_,t=>t
 | o::l,n,t=>Ts l (n+1) (t.ins n o)
noncomputable def tE (w:wN) (os:OsState):wl:=⟨boot_heap w.params,#[],boot_drawn,boot_toks,os⟩
noncomputable def mY (w:wN) (os:OsState):SharedT:=⟨Ts (boot_heap w.params).objs.toList 0 .nil,11,{},#[],boot_drawn,boot_toks,os⟩
theorem zwe(w:wN)(os:OsState):(mY w os).abs=tE w os:=by kernel_rfl
theorem ZU{F:wN->Prop}(row:String)(h:∀(w:wN)(b:Bool),F (w.withFollow row b))(w:wN):F w:=by
 have:=h w (w.params.followText row)
 rwa[World.withFollow_self]at this
def zj:List wJ->Nat->wJ
 | [],_=>.Pass default
 | a::l,n=>match n with
  | 0=>a
  | k+1=>zj l k
def Bv(i:Nat):wJ:=zj vV.main.body i
def within:wJ->List wJ
 | .ClassDef _ _ _ b ..=>b
 | _=>[]
def fd(s:wJ)(q:Str)(g:wc)(cl:List (Str × wc))(d k doc m:wd)(an:Option wc)(c ct:wd)(b:wc):Data:=match s with
 | .FunctionDef n a body _ _ _ sc _ _ _=>.func ⟨n,q,a,.stmts body,sc,g,cl,d,k,doc,m,an,c,ct,b⟩
 | _=>.freed
section
open Lean
abbrev A(f:Name)(xs:Array Term):Term:=Syntax.mkApp (mkCIdent f) xs
def nl (n : Nat) : Term:=Unhygienic.run `(nat_lit $(Syntax.mkNumLit (toString n)))
def iL:Int->Term
 | .ofNat n=>A ``Int.ofNat #[nl n]
 | .negSucc n=>A ``Int.negSucc #[nl n]
def sL(x:wm):Term:=A ``wb #[xr x.toString]
def lL(xs:List Term):Term:=xs.foldr (λx r=>A ``List.cons #[x,r]) (mkCIdent ``List.nil)
def aL(xs:List Term):Term:=A ``Array.mk #[lL xs]
def bL(b:Bool):Term:=if b then mkCIdent ``true else mkCIdent ``false
def oL{α : Type}(f : α -> Term):Option α -> Term
 | none=>mkCIdent ``Option.none
 | some x=>A ``Option.some #[f x]
def vL:wd->Term
 | .none=>mkCIdent ``Value.none
 | .ellipsis=>mkCIdent ``Value.ellipsis
 | .notImplemented=>mkCIdent ``Value.notImplemented
 | .bool b=>A ``Value.bool #[bL b]
 | .int i t=>A ``Value.int #[iL i,nl t]
 | .str s t=>A ``Value.str #[sL s,nl t]
 | .type n=>A ``Value.type #[xr n]
 | .builtin n=>A ``Value.builtin #[xr n]
 | .ref a=>A ``Value.ref #[nl a]
 | _=>mkIdent `lacking_value
def cL(c:ClassData):Term:=A ``ClassData.mk #[sL c.name,lL (c.bases.map vL),lL (c.mro.map vL),nl c.ns,sL c.qualname,bL c.hasDict,lL (c.slotNames.map sL),lL (c.subclasses.map vL),bL c.abstract,oL bL c.collection,bL c.hasDel]
def MV:List wJ->Option Pos
 | s::_=>some s.pos
 | _=>none
def zEz(B:List wJ)(f:wt):Term:=Id.run do
 let .stmts b:=f.body | return mkIdent `lacking_lambda
 let is (s:wJ):Bool:=match s with
  | .FunctionDef n _ c ..=>n == f.name&&toString (repr (MV c)) == toString (repr (MV b))
  | _=>false
 match B.findIdx? is with
 | some i=>return A `GH.Bv #[nl i]
 | none=>match B.findIdx? (λs=>(within s).any is)with
  | some i=>return A `GH.zj #[A `GH.within #[A `GH.Bv #[nl i]],nl ((within (zj B i)).findIdx is)]
  | none=>return mkIdent `lacking_def
def dL(B:List wJ)(P:Term):Data->Term
 | .plain=>mkCIdent ``Data.plain
 | .seq xs n=>A ``Data.seq #[aL (xs.toList.map vL),nl n]
 | .dict es n=>A ``Data.dict #[aL (es.toList.map λe=>A ``DictEntry.mk #[match e.key with | .str x _=>A ``PyData.keyHash #[P,sL x] | _=>iL e.hash,vL e.key,vL e.val]),nl n]
 | .cls c=>A ``Data.cls #[cL c]
 | .fields vs=>A ``Data.fields #[aL (vs.toList.map vL)]
 | .func f=>A `GH.fd #[zEz B f,sL f.qualname,nl f.globals,lL (f.closure.map λc=>A ``Prod.mk #[sL c.1,nl c.2]),vL f.defaults,vL f.kwdefaults,vL f.doc,vL f.pyModule,oL nl f.annotations,vL f.code,vL f.closureTuple,nl f.builtins]
 | _=>mkIdent `lacking_data
def obL(B:List wJ)(P:Term)(o:Obj):Term:=A ``Obj.mk #[vL o.cls,oL nl o.dict,dL B P o.data,aL (o.slots.toList.map (oL vL))]
def tL(f:Obj->Term)(os:Array Obj):Nat->Nat->Nat->Term
 | 0,_,_=>mkIdent `lacking_fuel
 | n+1,a,b=>match os[b]? with
  | some o=>A ``BT.node #[f o,tL f os n (2*a) (a+b),tL f os n (2*a) (2*a+b)]
  | none=>mkCIdent ``BT.nil
def aF(p:wO)(N:Nat)(P:Term):Term:=match openEnds table p (aWorld 1) N with
 | some s=>tL (obL p.main.body P) s.heap.objs 20 1 0
 | none=>mkIdent `lacking_run
end
variable{q:wO}{g:Bool}{s:wl}
local macro_rules | `(tactic| exists 0,$x)=>`(tactic| exact $(aF vV 12410 x))
set_option maxHeartbeats 0
noncomputable def S (P:Params):BT:=by exists 0,P
noncomputable def Dd (t:BT) (n:Nat) (a:wc):Option Obj:=match Nat.blt a n with
 | true=>alive ((t.get a).getD default)
 | false=>none
theorem zAm(t:BT)(n:Nat)(l:Life):qG (absHeap t n l)=Dd t n:=by
 funext a
 unfold qG Dd;rw[absHeap_at];cases e:Nat.blt a n with
 | true =>
  have lt:a<n:=w6 e;rw[if_pos lt];dsimp only;obtain⟨c,d,dt,sl⟩:=(t.get a).getD default;cases dt<;>rfl
 | false =>
  have lt:¬ a<n:=λq=>by rw[show Nat.blt a n=true from Nat.ble_eq_true_of_le q]at e;cases e
  rw[if_neg lt]
noncomputable def Nz (q:wO) (loose mods:List Str) (recs:WRecords):{F:(wc->Option Obj)->Array GenState->_ // ∀h gs d k os g,qG h=g->Fast.tw4187177175401517315 q loose mods (λs=>xlAt q [] s&&recOk recs s) true ⟨h,gs,d,k,os⟩=F g gs}:=⟨_,by
 intro h gs d k os g hg
 delta litsAt litsAt._f Flt.mathXt Flt.modTest Flt.patTest Fast.tw4187177175401517315 Fast.tw298464707033697862 Fast.tw8920871248978507458 Fast.tw11398356212714688179 Fast.tw2020367076256383516 Fast.tw1081197705613022005 uh Fast.tw2817317335113233408 Fast.tw16017708745293785899 Fast.tw15623941606353435126 Fast.tw912232860611745870 Fast.tw5160383126252970620 Heap.nsPairs Heap.bltView Heap.nsKeys Fast.tw10880121769531294198 Fast.tw14722251495701143533 Fast.tw9904233695019617717 Fast.tw5263368880259041517 Fast.tw14927025687674330080 Fast.tw10994771534591457954 Fast.tw7193348484503787722 Fast.tw5930804224584009831 Fast.tw5244371056499926238 Fast.tw3277482597662649166 Fast.tw2578726214315757710 Fast.tw9649274521512697073 Fast.tw479339242167458305 Fast.tw7359684028686041444 Fast.tw18429517753735259766 Fast.tw2488268039334873116 Fast.tw16090120013241838585 Fast.tw15717526521509864196 Fast.tw2386780881361962483 Fast.tw2104597623119524560 Fast.tw5970729317478709303 Fast.tw5776809815495173689 Fast.tw5555851639681330969 Fast.tw11698064438423848299 Fast.tw17916874912237369181 Fast.tw13445708840846046136 Fast.tw964301259703733418 Fast.tw5339041792150306595 Fast.tw4746668214238765733 Fast.tw6488979404369697443 Fast.tw17913588196522330232 Fast.tw15977364157196396599 Fast.tw18415734462268123781 Fast.tw1696807537771891022 Fast.tw7317090234206586261 Fast.tw4448462502746266218 Fast.tw1330114474539944938 Fast.tw10826909745831765583 Fast.tw8455316765594285451 Fast.tw1599894383341104664 Fast.tw18387853809812945965 Fast.tw18187449340191768954 Fast.tw7369524293546568484 XU litAt._f litAt xlAt W.strKeyed Heap.nsFind? ownDict lets recordClass globalOf classAt recOk
 dsimp only;rw[hg]⟩
noncomputable def Rp (p:wO) (mods:List Str):{F:(wc->Option Obj)->(wc->Option Obj)->Bool // ∀h0 h1 g0 g1,qG h0=g0->qG h1=g1->(staticsOk mods h0 h1&&namesBound p h1&&laidKept h0 h1)=F g0 g1}:=⟨_,by
 intro h0 h1 g0 g1 e0 e1
 delta uh Heap.nsKeys XU staticsOk namesBound laidKept
 rw[e0,e1]⟩
abbrev PW:=vV
abbrev RW:=Wp
def qv:wO:=view PW [1,2,3,4,5,6,7,8,9,10,12,13,14,15,16,17,18,19,20,21,22,24,25,26,27,28,29,30,31,32,33,35,36,37,39,40,41,42,43,44,45,46,47,48,49,51,52,54,55,56,57,58,59,60,61,62,64,65,66,67,68,69,70,71,72,73,75,76,77,78,79,80,81,82,83,84,85,86,87,88,89,90,92,93,94,95,96,97,98,99,100,101,102,103,104,105,106,107,108,109,110,112,113,114,115,116,117,118,119,120,121,122,123,124,125,126,127,128,129,130,131,133,134,135,136,137,138,139,140,141,142,143,144,145,146,147,148,149,150]
noncomputable def ST (w:wN) (os:OsState):SharedT:=⟨S w.params,887,{},#[],boot_drawn,1391,os⟩
noncomputable def G (w:wN):wc->Option Obj:=Dd (S w.params) 887
noncomputable abbrev MO:=Fast.tw5923862056798008813 PW.main.body
abbrev RC:=RowW.records (OpenRow.toRowW (OpenLaw.row RW))
noncomputable def sn (w:wN):=(Nz qv ["CHANGES","ASKS"] MO RC).1 (G w) #[]
theorem zEO(w:wN):(λos=>lH PW (w.withFollow "special-get-raises" false) 11 (some (.ref 6)) 12410 (mY (w.withFollow "special-get-raises" false) os) (topStub PW))=λos=>some (ST (w.withFollow "special-get-raises" false) os):=by kernel_rfl
theorem zEH(w:wN):(λos=>lH PW (w.withFollow "special-get-raises" true) 11 (some (.ref 6)) 12410 (mY (w.withFollow "special-get-raises" true) os) (topStub PW))=λos=>some (ST (w.withFollow "special-get-raises" true) os):=by kernel_rfl
theorem ran(w:wN):(λos=>lH PW w 11 (some (.ref 6)) 12410 (mY w os) (topStub PW))=λos=>some (ST w os):=ZU (F:=λw=>(λos=>lH PW w 11 (some (.ref 6)) 12410 (mY w os) (topStub PW))=λos=>some (ST w os)) "special-get-raises" (λw b=>by cases b;exact zEO w;exact zEH w) w
theorem zEF(w:wN):(Rp PW MO).1 (qG (boot_heap w.params)) (G w)=true:=by kernel_rfl
theorem b1(w:wN):(sn w).1=expectedOf qv:=by kernel_rfl
theorem b2(w:wN):(sn w).2.1=bltViewBooted:=by kernel_rfl
theorem b3(w:wN):(sn w).2.2.1=true:=by kernel_rfl
theorem b4(w:wN):(sn w).2.2.2.1=true:=by kernel_rfl
def dk:ClsRec:=match Bv 131 with
 | .ClassDef n _ _ b _ _ _ _ _ st pos=>⟨n,none,b,st,pos.line,methsOf b⟩
 | _=>⟨"",none,[],[],0,[]⟩
theorem q6 :plainsOf qv (looseW qv ["CHANGES","ASKS"])=[dk]:=by kernel_rfl
noncomputable def KS:{F:(wc->Option Obj)->ClsRec->Option PlainShape // ∀h g,qG h=g->∀c,h.plainShapeAt c=F g c}:=⟨_,by
 intro h g e c
 delta uh XU Heap.codeRecOk Heap.fnAt Heap.shapeAt Heap.clsAt Heap.plainShapeAt
 rw[e]⟩
theorem b6(w:wN):KS.1 (G w) dk.withCmp=some dk.withCmp.plainShape:=by kernel_rfl
theorem b8(w:wN):(sn w).2.2.2.2.2.2.2.1=wideGood qv:=by kernel_rfl
theorem b9(w:wN):(sn w).2.2.2.2.2.2.2.2=clsGoodW qv ["CHANGES","ASKS"]:=by kernel_rfl
theorem no1 :drecsOf qv=[]:=by kernel_rfl
theorem Y3 :dclssOf qv ["CHANGES","ASKS"]=[]:=by kernel_rfl
theorem size(w:wN):((boot_heap w.params).isNs wB,(boot_heap w.params).objs.size,(boot_heap w.params).nsMap wB "__annotations__")=(true,11,some (.ref 6)):=by kernel_rfl
theorem gG(w:wN)(os:OsState):qG (ST w os).abs.heap=G w:=zAm _ _ _
abbrev XT:=λs=>xlAt qv [] s&&recOk RC s
theorem p5{l m:List Str}{X:wl->Bool}(h:drecsOf q=[]):(openSeen q l m X g s).2.2.2.2.1=pinGoodD (drecsOf q):=by
 show pinSeenD q (drecsOf q) s=_
 rw[h]
 rfl
theorem p6{l m:List Str}{X:wl->Bool}{c:ClsRec}(h:plainsOf q (looseW q l)=[c])(e:s.heap.plainShapeAt c.withCmp=some c.withCmp.plainShape):(openSeen q l m X g s).2.2.2.2.2.1=plainGoodE q (looseW q l):=by
 show plainSeenE q (looseW q l) s=_
 unfold plainSeenE plainGoodE;rw[h];exact congrArg (λx=>[x]) e
theorem p7{l m:List Str}{X:wl->Bool}(h:dclssOf q l=[]):(openSeen q l m X g s).2.2.2.2.2.2.1=plainGoodD q l:=by
 show plainSeenD q l s=_
 unfold plainSeenD plainGoodD;rw[h]
 rfl
theorem Cz(w:wN)(os:OsState):openSeen qv ["CHANGES","ASKS"] (qF PW.main.body) XT true (ST w os).abs=openGood qv ["CHANGES","ASKS"]:=by
 have sw:openSeen qv ["CHANGES","ASKS"] (qF PW.main.body) XT true (ST w os).abs=sn w:=by
  rw[Fast.te4187177175401517315,Fast.te5923862056798008813];exact(Nz qv ["CHANGES","ASKS"] MO RC).2 _ _ _ _ _ _ (gG w os)
 exact qf ((congrArg (λx=>x.1) sw).trans (b1 w)) (qf ((congrArg (λx=>x.2.1) sw).trans (b2 w)) (qf ((congrArg (λx=>x.2.2.1) sw).trans (b3 w)) (qf ((congrArg (λx=>x.2.2.2.1) sw).trans (b4 w)) (qf (p5 no1) (qf (p6 q6 ((KS.2 _ _ (gG w os) dk.withCmp).trans (b6 w))) (qf (p7 Y3) (qf ((congrArg (λx=>x.2.2.2.2.2.2.2.1) sw).trans (b8 w)) ((congrArg (λx=>x.2.2.2.2.2.2.2.2) sw).trans (b9 w)))))))))
theorem zvO{p:wO}{loose:List Str}{Xt:wl->Bool}{A:Type}{Yf:wl->A}{Ya:wN->A}{N m:Nat}{an:Option wd}{st:wN->OsState->SharedT}(e:opening p=plainProg p.main.scope.names)(hN:Nat.ble 600 N=true)(f:∀s,fenceModules? p s=some s)
  (size:∀w:wN,((boot_heap w.params).isNs wB,(boot_heap w.params).objs.size,(boot_heap w.params).nsMap wB "__annotations__")=(true,m,an))
  (hr:∀w:wN,(λos=>lH p w m an N (mY w os) (topStub p))=λos=>some (st w os)) (hg:∀w os,(st w os).gens = #[])
  (hf:∀w os,(staticsOk (qF p.main.body) (boot_heap w.params) (st w os).abs.heap&&namesBound p (st w os).abs.heap&&laidKept (boot_heap w.params) (st w os).abs.heap)=true)
  (Cz:∀w os,openSeen q loose (qF p.main.body) Xt true (st w os).abs=openGood q loose) (hC:∀w os,Yf (st w os).abs=Ya w):LeftO p q loose Xt Yf Ya N:=λw=>by
 obtain⟨⟨h',gs,d,k,os⟩,e',e2⟩:=vF.mp (boot_open e hN f w);obtain⟨rfl,rfl,rfl,rfl⟩:h'=boot_heap w.params/\gs = #[]/\d=boot_drawn/\k=boot_toks:=by simpa using e2
 obtain⟨z1,z2,z3⟩:_/\_/\_:=by simpa only[Prod.mk.injEq] using size w
 have r:=NX (congrFun (hr w) os);rw[zwe]at r;obtain⟨f12,f3⟩:=Qj.mp (hf w os)
 have gd:gensDone (st w os).abs=true:=by
  unfold gensDone SharedT.abs;rw[hg]
  rfl
 unfold openEnds;rw[e']
 show uG _ (topFrom treeTable p w N (tE w os))=_
 have t:topFrom treeTable p w N (tE w os)=some (st w os).abs:=by
  unfold topFrom
  show(match (boot_heap w.params).isNs wB&&true with | true=>(topRun treeTable p w (boot_heap w.params).objs.size ((boot_heap w.params).nsMap wB "__annotations__") N (tE w os) (topStub p)).bind _ | false=>none)=_
  rw[z1,z2,z3,r]
  show(match staticsOk (qF p.main.body) (boot_heap w.params) (st w os).abs.heap&&namesBound p (st w os).abs.heap&&gensDone (st w os).abs&&laidKept (boot_heap w.params) (st w os).abs.heap with | true=>some (st w os).abs | false=>none)=_
  rw[gd,QQ,f12,f3]
  rfl
 rw[t];exact congrArg some (qf (Cz w os) (hC w os))
theorem left{A:Type}{Yf:wl->A}{Ya:wN->A}(hC:∀w os,Yf (ST w os).abs=Ya w):LeftO PW qv ["CHANGES","ASKS"] XT Yf Ya 12410 :=
 zvO (by kernel_rfl) rfl (λs=>by kernel_rfl) size ran (λw os=>rfl) (λw os=>by
  rw[Fast.te5923862056798008813];exact((Rp PW MO).2 _ _ _ _ rfl (gG w os)).trans (zEF w)) Cz hC
theorem My{a b:Bool}(h:a=true)(k:b=true):(a&&b)=true:=by rw[h,k];rfl
theorem Kh :RW.wellSaid=true:=by
 unfold OpenLaw.wellSaid OpenRow.wellSaid OpenRow.partSaid looksOpen
 repeat' with_reducible refine My ?_ ?_
 all_goals decide +kernel
local macro_rules | `(tactic| o_head $H)=>`(tactic| (refine holds_open (q:=GH.qv) (loose:=["CHANGES","ASKS"]) (Xt:=λ s=>xlAt GH.qv [] s && recOk (RowW.records (OpenRow.toRowW (OpenLaw.row Wp))) s) (XP:=XL GH.qv []) (Yf:=Hook.obs $H) (Ya:=Hook.val $H) (YP:=Hook.says $H) (N:=12410) ?hl (Hook.of $H) (Hook.keeps $H) (λ s e=>xl_of s (Qj.mp e).1) XL.keeps (by rfl) (by rfl) (by rfl) (λ s e=>recFacts_of (Qj.mp e).2) (by rfl) (by first | assumption | decide +kernel) (by decide +kernel) ⟨rfl,rfl,rfl,rfl,rfl,by decide +kernel⟩ ?hw ?hc; (case hl=>refine GH.left λ w os=>?_; refine (congrArg (λ g=>List.map g _) (GH.gG w os)).trans ?_; kernel_rfl)))
local macro_rules | `(tactic| o_law)=>`(tactic| refine holds_law GH.Kh λ Kh=>?_)
open_top head for Wp
end GH
set_option maxHeartbeats 4000000
namespace L2
open PySem PySem.Spec PyProof.Rows
variable{H:Hp}{a b:wc}{o:HO}
abbrev Key:=Sum Int Str
def KJ:Key->wd->Bool
 | .inl k,v=>Value.isInt k v
 | .inr x,v=>uj x v
def zEL(w:wN):Key->Int
 | .inl k=>hashInt k
 | .inr x=>hashStr w x
theorem jR :∀{k:Key}{v:wd},KJ k v=true->(∃i t,k=Sum.inl i/\v=Value.int i t)\/(∃x t,k=Sum.inr x/\v=Value.str x t)
 | .inl i,v,h=>by
  obtain⟨t,e⟩:=Value.isInt_shape (k:=i) (v:=v) h;exact .inl ⟨i,t,rfl,e⟩
 | .inr x,v,h=>by
  obtain⟨t,e⟩:=Value.isStrOf_shape (x:=x) (v:=v) h;exact .inr ⟨x,t,rfl,e⟩
theorem zDr(a b:Int):decide ((Sum.inl a:Key)=Sum.inl b)=(a == b):=by
 by_cases e:a=b
 ·subst e;simp
 ·have h:¬ (Sum.inl a:Key)=Sum.inl b:=λq=>e (Sum.inl.inj q)
  rw[decide_eq_false h];exact(beq_eq_false_iff_ne.mpr e).symm
theorem zCJ(a b:Str):decide ((Sum.inr a:Key)=Sum.inr b)=decide (a=b):=by
 by_cases e:a=b
 ·subst e;simp
 ·have h:¬ (Sum.inr a:Key)=Sum.inr b:=λq=>e (Sum.inr.inj q)
  rw[decide_eq_false h,decide_eq_false e]
theorem zCE(a:Int)(b:Str):decide ((Sum.inl a:Key)=Sum.inr b)=false:=decide_eq_false (λq=>nomatch q)
theorem zCn(a:Str)(b:Int):decide ((Sum.inr a:Key)=Sum.inl b)=false:=decide_eq_false (λq=>nomatch q)
def DM(prog:wO)(w:wN):PySem.KeyKind prog w Key where
 is:=KJ
 hash:=zEL w
 inj:=λv a b ha hb=>by
  rcases jR ha with⟨i,t,rfl,rfl⟩ | ⟨x,t,rfl,rfl⟩
  ·rcases jR hb with⟨j,u,rfl,e⟩ | ⟨y,u,rfl,e⟩
   ·injection e with e1 _;rw[e1]
   ·exact nomatch e
  ·rcases jR hb with⟨j,u,rfl,e⟩ | ⟨y,u,rfl,e⟩
   ·exact nomatch e
   ·injection e with e1 _;rw[e1]
 byValue:=λk v h=>by
  rcases jR h with⟨i,t,rfl,rfl⟩ | ⟨x,t,rfl,rfl⟩<;>rfl
 pyHash:=λhv h=>by
  rcases jR hv with⟨i,t,rfl,rfl⟩ | ⟨x,t,rfl,rfl⟩
  ·exact wpAny_pyHash_int h
  ·exact wpAny_pyHash_str h
 eqBool:=λhu hv h=>by
  rcases jR hu with⟨i,t,rfl,rfl⟩ | ⟨x,t,rfl,rfl⟩
  ·rcases jR hv with⟨j,u,rfl,rfl⟩ | ⟨y,u,rfl,rfl⟩
   ·rw[zDr]at h;exact wpAny_eqBool_int h
   ·rw[zCE]at h;exact Xa i t y u _ _ _ _ h
  ·rcases jR hv with⟨j,u,rfl,rfl⟩ | ⟨y,u,rfl,rfl⟩
   ·rw[zCn]at h;exact Xb x t j u _ _ _ _ h
   ·rw[zCJ]at h;exact wpAny_eqBool_str h
 «strs»:=λk x t v h=>by
  rcases jR h with⟨i,u,rfl,e⟩ | ⟨y,u,rfl,e⟩
  ·exact nomatch e
  ·injection e with e1 _
   subst e1;cases v<;>rfl
inductive V where
 | bh | bl (b:Bool) | int (i:Int) | str (x:Str) | byt (b:Array UInt8) | flt (b:UInt64) | ref (a:wc) | ty (n:String)
 deriving DecidableEq
def aV:V->wd->Prop
 | .bh,u=>u=Value.none
 | .bl b,u=>u=Value.bool b
 | .int i,u=>∃t,u=Value.int i t
 | .str x,u=>∃t,u=Value.str x t
 | .byt b,u=>∃t,u=Value.bytes b t
 | .flt b,u=>∃t,u=Value.float b t
 | .ref a,u=>u=Value.ref a
 | .ty n,u=>u=Value.type n
abbrev aE:List V->List wd->Prop:=Paired aV
theorem aE.length{xs:List V}{us:List wd}(r:aE xs us):xs.length=us.length:=uk r
theorem aE.get:∀{xs:List V}{us:List wd}{i:Nat}{x:V},aE xs us->xs[i]? = some x->∃u,us[i]? = some u/\aV x u
 | _,_,_,_,.nil,e=>by simp at e
 | _,_,0,_,.cons r _,e=>by simp at e;subst e;exact⟨_,rfl,r⟩
 | _,_,i+1,x,.cons _ t,e=>by
  obtain⟨u,h1,h2⟩:=aE.get (i:=i) (x:=x) t (by simpa using e);exact⟨u,by simpa using h1,h2⟩
theorem aE.set{x:V}{u:wd}(r:aV x u):∀{xs:List V}{us:List wd}(i:Nat),aE xs us->aE (xs.set i x) (us.set i u)
 | _,_,_,.nil=>.nil
 | _,_,0,.cons _ t=>.cons r t
 | _,_,i+1,.cons q t=>.cons q (aE.set r i t)
theorem aE.append:∀{xs ys:List V}{us ws:List wd},aE xs us->aE ys ws->aE (xs++ys) (us++ws)
 | _,_,_,_,.nil,s=>s
 | _,_,_,_,.cons r t,s=>.cons r (aE.append t s)
theorem aE.take:∀{xs:List V}{us:List wd}(n:Nat),aE xs us->aE (xs.take n) (us.take n)
 | _,_,0,_=>.nil
 | _,_,_+1,.nil=>.nil
 | _,_,n+1,.cons r t=>.cons r (aE.take n t)
theorem aE.drop:∀{xs:List V}{us:List wd}(n:Nat),aE xs us->aE (xs.drop n) (us.drop n)
 | _,_,0,r=>r
 | _,_,_+1,.nil=>.nil
 | _,_,n+1,.cons _ t=>aE.drop n t
def iK:Option V->Option wd->Prop
 | some v,some u=>aV v u
 | none,none=>True
 | _,_=>False
def KV{κ : Type} : List (κ × V)->List (κ × wd)->Prop:=Paired λ(p : κ × V)(q : κ × wd)=>p.1=q.1/\aV p.2 q.2
def kV:Key->V
 | .inl i=>.int i
 | .inr x=>.str x
inductive HO where
 | lst (xs:List V)
 | tup (xs:List V)
 | dK (kvs:List (Key × V)) | dT (kvs:List (List Key × V))
 | set (S:Int->Bool) (n:Nat)
 | ins (C dx:wc) (fs:List (Str × V))
 | own (x:wc)
 | xd (fs:List (Str × V))
 | met (f x:wc)
 | u9 (lo hi:Int)
 | fH (o:Obj) (u:HO)
 | kN (ps:Array wd)
 | ext (φ : wK->Prop)
abbrev Hp:=wc->Option HO
def upd(H:Hp)(a:wc)(o:HO):Hp:=λb=>if b=a then some o else H b
theorem bW : upd H a o a=some o:=by unfold upd;rw[if_pos rfl]
theorem bV(h:b≠a):upd H a o b=H b:=by unfold upd;rw[if_neg h]
theorem PY{u:HO}(h:H a=some o)(h':H b=some u)(d:o≠u):a≠b:=by
 intro e;subst e;rw[h]at h';exact d (vi h')
theorem gv(h:H a=some o)(h':H b=none):a≠b:=by
 intro e;subst e;rw[h]at h';cases h'
section
variable(P:wO)(w:wN)
def cM(H:Hp)(h:wK)(a:wc):HO->Prop
 | .lst xs=>xs.length<=wr /\ ∃(its:List wd)(n:Nat),aE xs its/\h.get? a=some {cls:=.type "list",data:=.seq its.toArray n}
 | .tup xs=>xs.length<=wr /\ ∃its:List wd,aE xs its/\IsTup h a its.toArray
 | .dK kvs=>kvs.length<=wr/\(a == VU)=false /\ ∃vs,KV kvs vs/\h.DictOf (DM P w) a vs
 | .dT kvs=>kvs.length<=wr/\(a == VU)=false /\ ∃xs:List (List Key × wc × wd),
     Paired (λ(p:List Key × V)(q:List Key × wc × wd)=>p.1=q.1/\H q.2.1=some (.tup (p.1.map kV))/\aV p.2 q.2.2) kvs xs /\
     ∃o es ep,h.get? a=some o/\o.ExactDict/\o.data=.dict es ep/\es.toList=xs.map (entryOfKey (tupleKind (DM P w)))/\(xs.map (·.1)).Nodup
 | .set S n=>h.SetOf (intKind P w) a S n
 | .ins C dx fs=>H dx=some (.own a)/\fs.length<=1000/\dx≠a/\h.get? a=some (WM C dx) /\
     ∃mA,h.Ns1 dx mA/\(∀f,iK (fs.lookup f) (mA f))/\Xc mA (fs.map (·.1))
 | .own _=>∃o,h.get? a=some o
 | .xd fs=>∃mA,h.Ns1 a mA /\ ∀f,iK (fs.lookup f) (mA f)
 | .u9 lo hi=>∃t u v,h.get? a=some {cls:=.type "range",data:=.fields #[.int lo t,.int hi u,.int 1 v]}
 | .fH o u=>h.get? a=some o/\cM H h a u
 | .kN ps=>h.get? a=some {cls:=.none,data:=.fields ps}
 | .met f x=>h.get? a=some (QZ (.ref f) (.ref x))
 | .ext φ=>φ h/\(∃o,h.get? a=some o) /\ ∀h1 h2:wK,φ h1->(∀o,h1.get? a=some o->h2.get? a=some o) -> φ h2
def cB(H:Hp)(h:wK):Prop:=∀a o,H a=some o->cM P w H h a o
end
section
variable{P:wO}{w:wN}{H H':Hp}{h h':wK}{a:wc}{o:HO}
theorem cM.lt(x:cM P w H h a o):a<h.objs.size:=by
 cases o with
 | lst xs=>obtain⟨_,_,_,_,e⟩:=x;exact wD e
 | tup xs=>obtain⟨_,_,_,p⟩:=x;exact p.lt
 | dK kvs=>obtain⟨_,_,_,_,o,_,_,e,_⟩:=x;exact wD e
 | dT kvs=>obtain⟨_,_,_,_,o,_,_,e,_⟩:=x;exact wD e
 | set S n=>obtain⟨o,_,_,_,e,_⟩:=x;exact wD e
 | ins C dx fs=>obtain⟨_,_,_,e,_⟩:=x;exact wD e
 | own y=>obtain⟨_,e⟩:=x;exact wD e
 | xd fs=>obtain⟨_,⟨_,_,_,e,_⟩,_⟩:=x;exact wD e
 | u9 lo hi=>obtain⟨_,_,_,e⟩:=x;exact wD e
 | fH ob u=>obtain⟨e,_⟩:=x;exact wD e
 | kN ps=>exact wD (show h.get? a=some _ from x)
 | met f y=>exact wD (show h.get? a=some _ from x)
 | ext φ=>obtain⟨_,⟨_,e⟩,_⟩:=x;exact wD e
theorem Paired.Ki{α β : Type}{F G : α -> β -> Prop} : ∀{l₁ : List α}{l₂ : List β},Paired F l₁ l₂ -> (∀a b,F a b->G a b)->Paired G l₁ l₂
 | _,_,.nil,_=>.nil
 | _,_,.cons r t,f=>.cons (f _ _ r) (Paired.Ki t f)
theorem cM.gX(x:cM P w H h a o)(k:∀b u,(b=a\/H b=some (.own a))->h.get? b=some u->h'.get? b=some u)
  (ho:∀b,H b=some (.own a)->H' b=some (.own a)) (ht:∀b xs,H b=some (.tup xs)->H' b=some (.tup xs)):cM P w H' h' a o:=by
 induction o with
 | lst xs=>obtain⟨z,its,n,r,e⟩:=x;exact⟨z,its,n,r,k _ _ (.inl rfl) e⟩
 | tup xs=>obtain⟨z,its,r,ob,e,c⟩:=x;exact⟨z,its,r,ob,k _ _ (.inl rfl) e,c⟩
 | dK kvs=>obtain⟨z,y,vs,r,ob,es,ep,e,c⟩:=x;exact⟨z,y,vs,r,ob,es,ep,k _ _ (.inl rfl) e,c⟩
 | dT kvs =>
  obtain⟨z,y,xs,r,ob,es,ep,e,c⟩:=x;exact⟨z,y,xs,Paired.Ki r λp q z=>⟨z.1,ht _ _ z.2.1,z.2.2⟩,ob,es,ep,k _ _ (.inl rfl) e,c⟩
 | set S n=>obtain⟨ob,es,ep,t,e,c⟩:=x;exact⟨ob,es,ep,t,k _ _ (.inl rfl) e,c⟩
 | ins C dx fs =>
  obtain⟨d,z,ne,e,mA,⟨od,es,ep,e2,c⟩,r⟩:=x;exact⟨ho _ d,z,ne,k _ _ (.inl rfl) e,mA,⟨od,es,ep,k _ _ (.inr d) e2,c⟩,r⟩
 | own y=>obtain⟨ob,e⟩:=x;exact⟨ob,k _ _ (.inl rfl) e⟩
 | xd fs=>obtain⟨mA,⟨od,es,ep,e,c⟩,r⟩:=x;exact⟨mA,⟨od,es,ep,k _ _ (.inl rfl) e,c⟩,r⟩
 | u9 lo hi=>obtain⟨t,u,v,e⟩:=x;exact⟨t,u,v,k _ _ (.inl rfl) e⟩
 | fH ob u ih=>obtain⟨e,q⟩:=x;exact⟨k _ _ (.inl rfl) e,ih q⟩
 | kN ps =>
  have e:h.get? a=some {cls:=.none,data:=.fields ps}:=x
  show h'.get? a=some {cls:=.none,data:=.fields ps}
  exact k a _ (.inl rfl) e
 | met f y =>
  have e:h.get? a=some (QZ (.ref f) (.ref y)):=x
  show h'.get? a=some (QZ (.ref f) (.ref y))
  exact k a _ (.inl rfl) e
 | ext φ=>obtain⟨p,⟨o,e⟩,st⟩:=x;exact⟨st _ _ p λo q=>k _ _ (.inl rfl) q,⟨o,k _ _ (.inl rfl) e⟩,st⟩
theorem cB.lt(x:cB P w H h)(e:H a=some o):a<h.objs.size:=(x a o e).lt
theorem cB.fresh(x:cB P w H h)(e:h.objs.size<=a):H a=none:=by
 cases q:H a with
 | none=>rfl
 | some u=>exact absurd (wX (x.lt q) e) (Vk _)
theorem cB.kept(x:cB P w H h)(k:∀b u,h.get? b=some u->h'.get? b=some u):cB P w H h':=λa o e =>
 (x a o e).gX (λb u _ q=>k b u q) (λ_ q=>q) λ_ _ q=>q
theorem cB.laid(x:cB P w H h)(k:∀b u,h.get? b=some u->h'.get? b=some u)(hp:h.objs.size<=a)(new:cM P w (upd H a o) h' a o):cB P w (upd H a o) h':=λb u e=>by
 have hn:=x.fresh hp
 by_cases hb:b=a
 ·subst hb;rw[bW]at e;cases e;exact new
 ·rw[bV hb]at e
  exact(x b u e).gX (λc v _ q=>k c v q) (λc q=>by rw[bV (gv q hn)];exact q) λc xs q=>by rw[bV (gv q hn)];exact q
end
def Rd(H:Hp)(a:wc)(u:HO):Prop:=H a=some u \/ ∃o,H a=some (.fH o u)
theorem Rd.ok{P:wO}{w:wN}{H:Hp}{h:wK}{a:wc}{u:HO}(r:Rd H a u)(x:cB P w H h):cM P w H h a u:=by
 rcases r with r | ⟨o,r⟩
 ·exact x a u r
 ·obtain⟨_,q⟩:=x a _ r
  exact q
def sT:Option HO->Prop
 | some (.lst _)=>True
 | some (.dK _)=>True
 | some (.dT _)=>True
 | some (.set _ _)=>True
 | some (.ins _ _ _)=>True
 | some (.ext _)=>True
 | _=>False
section
variable{P:wO}{w:wN}{H:Hp}{h h':wK}{x e:wc}{o':HO}
theorem cB.write(ok:cB P w H h)(mu:sT (H x))(he:e=x\/H e=some (.own x))(k:∀b u,b≠e->h.get? b=some u->h'.get? b=some u)(heo:∃u,h'.get? e=some u)
  (new:cM P w (upd H x o') h' x o'):cB P w (upd H x o') h':=λb u q=>by
 have nown:∀c y,H c=some (.own y)->c≠x:=λc y r z=>by subst z;rw[r]at mu;exact mu
 have ntup:∀c xs,H c=some (.tup xs)->c≠x:=λc xs r z=>by subst z;rw[r]at mu;exact mu
 by_cases hb:b=x
 ·subst hb;rw[bW]at q;cases q;exact new
 ·rw[bV hb]at q
  by_cases hbe:b=e
  ·have q':H b=some (.own x):=by
    rcases he with z | z
    ·exact absurd (hbe.trans z) hb
    ·rw[hbe];exact z
   rw[q]at q';cases q';obtain⟨v,hv⟩:=heo;exact⟨v,by rw[hbe];exact hv⟩
  ·refine(ok b u q).gX (λc v hc r=>k c v ?_ r) (λc r=>by rw[bV (nown c b r)];exact r) λc xs r=>by rw[bV (ntup c xs r)];exact r
   rcases hc with rfl | hc
   ·exact hbe
   ·rintro rfl
    rcases he with z | z
    ·exact nown c b hc z
    ·rw[hc]at z;cases z;exact hb rfl
end
structure Un(fs ex:List wc)(H H':Hp)(h h':wK):Prop where
 keep:∀b o,h.get? b=some o->H b=none->b ∉ fs->b ∉ ex->h'.get? b=some o
 slot:∀b o,h.get? b=some o->H b=none->b∈fs->b ∉ ex->∃sl,h'.get? b=some {o with slots:=sl}
 free:∀b o,h.get? b=some o->H b=none->b ∉ ex->H' b=none
 there:∀b o,h.get? b=some o->b ∉ ex->∃o',h'.get? b=some o'
 eU:∀b xs,H b=some (.tup xs)->H' b=some (.tup xs)
 eF:∀b o u,H b=some (.fH o u)->H' b=some (.fH o u)
 eV:∀b ps,H b=some (.kN ps)->∃more,H' b=some (.kN (ps++more))
section
variable{fs fs' ex ex':List wc}{H H1 H2:Hp}{h h1 h2 h':wK}{a x e:wc}{o:HO}
theorem Un.any(u:Un fs ex H H1 h h1){b:wc}{ob:Obj}(q:h.get? b=some ob)(n:H b=none)(hx:b ∉ ex):∃sl,h1.get? b=some {ob with slots:=sl}:=by
 by_cases hb:b∈fs
 ·exact u.slot b ob q n hb hx
 ·exact⟨ob.slots,u.keep b ob q n hb hx⟩
theorem Un.kept(k:∀b u,h.get? b=some u->h'.get? b=some u):Un fs ex H H h h' :=
 ⟨λb ob q _ _ _=>k b ob q,λb ob q _ _ _=>⟨ob.slots,k b ob q⟩,λ_ _ _ n _=>n,λb ob q _=>⟨ob,k b ob q⟩,λ_ _ q=>q,λ_ _ _ q=>q,λ_ ps q=>⟨#[],by rw[q];simp⟩⟩
theorem Un.refl:Un fs ex H H h h:=Un.kept λ_ _ q=>q
theorem Un.laid(k:∀b u,h.get? b=some u->h'.get? b=some u)(hp:h.objs.size<=a)(hn:H a=none):Un fs ex H (upd H a o) h h' where
 keep:=λb u q _ _ _=>k b u q
 slot:=λb u q _ _ _=>⟨u.slots,k b u q⟩
 free:=λb u q n _=>by rw[bV (wS (wX (wD q) hp))];exact n
 there:=λb u q _=>⟨u,k b u q⟩
 eU:=λb xs q=>by rw[bV (gv q hn)];exact q
 eF:=λb u xs q=>by rw[bV (gv q hn)];exact q
 eV:=λb ps q=>⟨#[],by rw[bV (gv q hn),q];simp⟩
theorem Un.write(mu:sT (H x))(he:e=x\/H e=some (.own x))(k:∀b u,b≠e->h.get? b=some u->h'.get? b=some u)(heo:∃u,h'.get? e=some u):Un fs ex H (upd H x o) h h':=by
 have hx:∀b,H b=none->b≠x:=λb n z=>by subst z;rw[n]at mu;exact mu
 have hb:∀b,H b=none->b≠e:=λb n z=>by
  subst z;rcases he with r | r
  ·exact hx b n r
  ·rw[n]at r;cases r
 have hm:∀b u,H b=some u->¬ sT (some u)->b≠x:=λb u q nm z=>by subst z;rw[q]at mu;exact nm mu
 refine⟨λb u q n _ _=>k b u (hb b n) q,λb u q n _ _=>⟨u.slots,k b u (hb b n) q⟩,λb u q n _=>by rw[bV (hx b n)];exact n,λb u q _=>?_,
  λb xs q=>by rw[bV (hm b _ q λz=>z)];exact q,λb u xs q=>by rw[bV (hm b _ q λz=>z)];exact q,λb ps q=>⟨#[],by rw[bV (hm b _ q λz=>z),q];simp⟩⟩
 by_cases hbe:b=e
 ·subst hbe;exact heo
 ·exact⟨u,k b u hbe q⟩
end
def fA(h:wK)(H:Hp):List wc:=(vP h.objs.size).filter λa=>(H a).isSome
def jE(h:wK)(H:Hp):wK:=Vg h (fA h H)
theorem ZQ(h:wK)(H:Hp):(jE h H).objs.size=h.objs.size:=PySem.W.hideAll_size _ _
theorem zzc{h:wK}{H:Hp}{b:wc}{o:Obj}(e:h.get? b=some o)(n:H b=none):(jE h H).get? b=some o :=
 Qv _ e λhm=>by
  have q:(H b).isSome=true:=(Wv.mp hm).2;rw[n]at q;simp at q
theorem zzZ{h:wK}{H:Hp}{b:wc}{o:Obj}(e:(jE h H).get? b=some o):h.get? b=some o/\H b=none:=by
 have e':h.get? b=some o:=VO (fA h H) e;refine⟨e',?_⟩;cases q:H b with
 | none=>rfl
 | some x =>
  have hm:b∈fA h H:=Wv.mpr ⟨Wq.mpr (wD e'),by simp[q]⟩;have z:(jE h H).get? b=none:=xG (fA h H) hm;rw[z]at e;cases e
def zAn(g h:wK)(L:wc):List (wc × Obj):=(vP h.objs.size).filterMap λa=>if a=L\/(g.get? a).isSome=true then none else(h.get? a).map λo=>(a,o)
def bF(g h:wK)(L d:wc):List (wc × Obj):=(zAn g h L).filter λp=>decide (p.1≠d)
structure Mod(K:wa)(mg:Str->Option wd)(base:wK):Prop where
 fK:K.In base
 glob:base.Ns wB mg
 blt:∃mb,base.Ns builtinsNs mb /\ ∀x:Str,x≠"__name__" -> mb x=vG x
 nolimit:base.NoLimit
structure Cx where
 prog:wO
 w:wN
 K:wa
 mg:Str->Option wd
 base:wK
 A:va
 N:List Str
 s₀ : wl
 H₀ : Hp
 env:Env
 outer:List Env
 stack:List Env
 ex:List wc
 fn:Str->Bool
 calm:Bool
 pn:List (wc × Obj)
 xe:wd->wl->Prop
def bN(l:List Env):List wc:=l.filterMap (·.frame)
abbrev Cx.fs(X:Cx):List wc:=bN X.outer
def yQ(sc:Scope)(x:Str):Prop:=sc.names.lookup x=some .local\/sc.names.lookup x=some .cell\/sc.names.lookup x=some .free
def Loc(sc:Scope)(x:Str):Prop:=sc.names.lookup x=some .local\/sc.names.lookup x=some .cell
def zEN(env:Env)(h:wK)(m:Str->Option wd)(x:Str)(u:wd):Prop :=
 (env.kindOf x=some .local/\m x=some u)\/((env.kindOf x=some .cell\/env.kindOf x=some .free) /\ ∃c,env.cells.lookup x=some c/\h.IsCell c (some u))
structure Cx.Ok(X:Cx):Prop where
 mod:Mod X.K X.mg X.base
 kind:X.env.scope.kind=.function
 glob:X.env.globals=wB
 blt:X.env.builtins=builtinsNs
 above:X.s₀.heap.objs.size<=X.env.locals
 inj:∀x y c,X.env.cells.lookup x=some c->X.env.cells.lookup y=some c->x=y
 has:∀x,(X.env.kindOf x=some .cell\/X.env.kindOf x=some .free)->∃c,X.env.cells.lookup x=some c
 kj:∀x c,X.fn x=true->X.env.cells.lookup x=some c->X.s₀.heap.objs.size<=c
 hd:X.calm=true->X.A.handled=none
 frames:X.A.frames=some X.stack
 lR:X.stack=X.outer\/(X.stack=X.env::X.outer/\X.env.frame=some X.env.locals)
 oY:∀b∈X.ex,b≠X.env.locals /\ ∀x c,X.env.cells.lookup x=some c->c≠b
 bs:∀b o,X.base.get? b=some o->X.s₀.heap.get? b=some o/\X.H₀ b=none
 gC:X.base.objs.size<=X.s₀.heap.objs.size
 j_:∀b o,X.base.get? b=some o->b ∉ X.ex
 kY:∀b∈X.ex,b ∉ X.fs
 dC:X.s₀.heap.FunFrames X.base X.outer
 gP:∀b∈X.fs,X.H₀ b=none
structure Inv(X:Cx)(pins:List (wc × Obj))(σ : List (Option V))(H:Hp)(s:wl):Prop where
 ok:X.Ok
 os:s.os=X.s₀.os
 bare:VL s.gens
 base:Un X.fs X.ex X.H₀ H X.s₀.heap s.heap
 loc:∃m,s.heap.Ns X.env.locals m /\ ∀(i:Nat)(x:Str)(v:V),X.N[i]? = some x -> σ[i]? = some (some v)->yQ X.env.scope x->∃u,aV v u/\zEN X.env s.heap m x u
 cell:∀x c,X.env.cells.lookup x=some c->∃v,s.heap.IsCell c v
 free:H X.env.locals=none
 eS:∀x c,X.env.cells.lookup x=some c->H c=none
 pin:∀p∈X.pn++pins,s.heap.get? p.1=some p.2/\H p.1=none/\p.1≠X.env.locals/\p.1 ∉ X.fs /\ ∀v,p.2.data≠.cell v
 az:cB X.prog X.w H s.heap
 len : σ.length=X.N.length
section
variable{X:Cx}{pins:List (wc × Obj)}{σ : List (Option V)}{H H':Hp}{s:wl}{h':wK}
variable{i t':Nat}{ch:List wc}{x:Str}
theorem Cx.Ok.YL(ok:X.Ok){b:wc}{o:Obj}(e:X.base.get? b=some o):b ∉ X.fs:=λhb=>by
 have:=(ok.dC.mem hb).1;rw[e]at this;cases this
theorem Inv.bs(I:Inv X pins σ H s):∀b o,X.base.get? b=some o->s.heap.get? b=some o/\H b=none:=λb o e =>
 ⟨I.base.keep b o (I.ok.bs b o e).1 (I.ok.bs b o e).2 (I.ok.YL e) (I.ok.j_ b o e),I.base.free b o (I.ok.bs b o e).1 (I.ok.bs b o e).2 (I.ok.j_ b o e)⟩
theorem Inv.bk(I:Inv X pins σ H s):∀b o,X.base.get? b=some o->s.heap.get? b=some o:=λb o e=>(I.bs b o e).1
theorem Inv.mod(I:Inv X pins σ H s):Mod X.K X.mg X.base:=I.ok.mod
theorem Inv.bE(I:Inv X pins σ H s):X.K.In s.heap:=I.ok.mod.fK.keeps I.bk
theorem Inv.lt(I:Inv X pins σ H s):X.env.locals<s.heap.objs.size:=let ⟨_,hn,_⟩:=I.loc;hn.lt
theorem Inv.sz(I:Inv X pins σ H s):X.s₀.heap.objs.size<=s.heap.objs.size:=w5 I.ok.above (qH I.lt)
theorem Inv.YK(I:Inv X pins σ H s){a:wc}(h:s.heap.objs.size<=a):a ∉ X.fs:=λhb=>by
 obtain⟨_,o,ho,_⟩:=I.ok.dC.mem hb;exact absurd (wX (wD ho) (w5 I.sz h)) (Vk _)
theorem Inv.iX(I:Inv X pins σ H s):∀x c,X.env.cells.lookup x=some c->c≠X.env.locals:=λx c e z=>by
 obtain⟨v,o,ho,hd⟩:=I.cell x c e;obtain⟨m,⟨o',es,ep,ho',hd',_⟩,_⟩:=I.loc;rw[z,ho']at ho;cases ho;rw[hd']at hd;cases hd
theorem Inv.dC(I:Inv X pins σ H s):s.heap.FunFrames X.base X.outer:=by
 have all:∀(l:List Env),(∀b∈bN l,b∈X.fs)->X.s₀.heap.FunFrames X.base l->s.heap.FunFrames X.base l:=by
  intro l
  induction l with
  | nil=>intro _ _;trivial
  | cons env r ih =>
   intro hs hl;obtain⟨hk,⟨L,o,hf,hn,ho,hd⟩,hr⟩:=hl;have hL:L∈X.fs:=hs L (by unfold bN;rw[qy,hf];exact wV);obtain⟨sl,e⟩:=I.base.slot L o ho (I.ok.gP L hL) hL λz=>I.ok.kY L z hL
   exact⟨hk,⟨L,_,hf,hn,e,hd⟩,ih (λb hb=>hs b (by unfold bN;rw[qy,hf];exact wx _ hb)) hr⟩
 exact all X.outer (λ_ hb=>hb) I.ok.dC
theorem Inv.stack(I:Inv X pins σ H s):s.heap.FunFrames X.base X.stack:=by
 rcases I.ok.lR with e | ⟨e,hf⟩
 ·rw[e];exact I.dC
 ·rw[e]
  obtain⟨m,hn,_⟩:=I.loc;refine .cons (by rw[I.ok.kind];decide) hf hn ?_ I.dC;exact Heap.get?_none_of_le (w5 I.ok.gC I.ok.above)
theorem Inv.jy(I:Inv X pins σ H s):∀b∈bN X.stack,b∈X.env.locals::X.fs:=λb hb=>by
 rcases I.ok.lR with e | ⟨e,hf⟩
 ·rw[e]at hb;exact wx _ hb
 ·rw[e]at hb
  unfold bN at hb;rw[qy,hf]at hb;exact hb
theorem Inv.oy(I:Inv X pins σ H s):∀b∈bN X.stack,H b=none:=λb hb=>by
 rcases wz.mp (I.jy b hb)with e | hb
 ·rw[e];exact I.free
 ·obtain⟨_,o,ho,_⟩:=I.ok.dC.mem hb
  exact I.base.free b o ho (I.ok.gP b hb) λz=>I.ok.kY b z hb
theorem Inv.step{g':Array GenState}{d':Drawn}(I:Inv X pins σ H s)
  (hch:∀b∈ch,(b∈X.ex\/X.s₀.heap.objs.size<=b)/\b≠X.env.locals/\(∀x c,X.env.cells.lookup x=some c->c≠b) /\ ∀p∈X.pn++pins,p.1≠b)
  (keep:∀b o,b≠X.env.locals->b ∉ X.fs->b ∉ ch->s.heap.get? b=some o->H b=none->h'.get? b=some o)
  (slot:∀b o,b≠X.env.locals->b∈X.fs->b ∉ ch->s.heap.get? b=some o->H b=none->∃sl,h'.get? b=some {o with slots:=sl}) (free:∀b o,b ∉ ch->s.heap.get? b=some o->H b=none->H' b=none)
  (there:∀b o,b ∉ ch->s.heap.get? b=some o->∃o',h'.get? b=some o')
  (eU:∀b xs,H b=some (.tup xs)->H' b=some (.tup xs)) (eF:∀b o u,H b=some (.fH o u)->H' b=some (.fH o u)) (eV:∀b ps,H b=some (.kN ps)->∃more,H' b=some (.kN (ps++more)))
  (ns:∀m,s.heap.Ns X.env.locals m->h'.Ns X.env.locals m) (az:cB X.prog X.w H' h') (hg:VL g') :
  Inv X pins σ H' {s with heap:=h',gens:=g',drawn:=d',toks:=t'}:=by
 have neL:∀b o,X.s₀.heap.get? b=some o->b≠X.env.locals:=λb o e=>wS (wX (wD e) I.ok.above)
 have neC:∀b o,X.s₀.heap.get? b=some o->b ∉ X.ex->b ∉ ch:=λb o e hx hb=>by
  rcases (hch b hb).1 with z | z
  ·exact hx z
  ·exact absurd (wX (wD e) z) (Vk _)
 have cellK:∀x c,X.env.cells.lookup x=some c->∀v,s.heap.IsCell c v->h'.IsCell c v:=λx c e v ⟨o,ho,hd⟩=>by
  have nch:c ∉ ch:=λz=>(hch c z).2.2.1 x c e rfl
  by_cases hc:c∈X.fs
  ·obtain⟨sl,q⟩:=slot c o (I.iX x c e) hc nch ho (I.eS x c e)
   exact⟨_,q,hd⟩
  ·exact⟨o,keep c o (I.iX x c e) hc nch ho (I.eS x c e),hd⟩
 refine⟨I.ok,I.os,hg,⟨λb o e n hb hx=>?_,λb o e n hb hx=>?_,λb o e n hx=>?_,λb o e hx=>?_,λb xs e=>eU b xs (I.base.eU b xs e),λb o xs e=>eF b o xs (I.base.eF b o xs e),λb ps e=>?_⟩,?_,λx c e=>?_,?_,λx c e=>?_,λp hp=>?_,az,I.len⟩
 ·exact keep b o (neL b o e) hb (neC b o e hx) (I.base.keep b o e n hb hx) (I.base.free b o e n hx)
 ·obtain⟨sl,e1⟩:=I.base.slot b o e n hb hx
  obtain⟨sl',e2⟩:=slot b _ (neL b o e) hb (neC b o e hx) e1 (I.base.free b o e n hx);exact⟨sl',e2⟩
 ·obtain⟨o',e1⟩:=I.base.there b o e hx
  exact free b o' (neC b o e hx) e1 (I.base.free b o e n hx)
 ·obtain⟨o',e1⟩:=I.base.there b o e hx
  exact there b o' (neC b o e hx) e1
 ·obtain⟨m1,e1⟩:=I.base.eV b ps e
  obtain⟨m2,e2⟩:=eV b _ e1;exact⟨m1++m2,by rw[e2,QI]⟩
 ·obtain⟨m,hn,hl⟩:=I.loc
  refine⟨m,ns m hn,λi x v e1 e2 e3=>?_⟩;obtain⟨u,r,l⟩:=hl i x v e1 e2 e3;refine⟨u,r,?_⟩;rcases l with l | ⟨k,c,e,z⟩
  ·exact .inl l
  ·exact .inr ⟨k,c,e,cellK x c e _ z⟩
 ·obtain⟨v,z⟩:=I.cell x c e
  exact⟨v,cellK x c e v z⟩
 ·obtain⟨m,⟨o,_,_,ho,_⟩,_⟩:=I.loc
  exact free _ o (λz=>(hch _ z).2.1 rfl) ho I.free
 ·obtain⟨v,o,ho,hd⟩:=I.cell x c e
  exact free c o (λz=>(hch c z).2.2.1 x c e rfl) ho (I.eS x c e)
 ·obtain⟨e,n,ne,nf,d⟩:=I.pin p hp
  have nch:p.1 ∉ ch:=λz=>(hch p.1 z).2.2.2 p hp rfl
  exact⟨keep p.1 p.2 ne nf nch e n,free p.1 p.2 nch e n,ne,nf,d⟩
theorem Inv.un(I:Inv X pins σ H s)(u:Un X.fs [] H H' s.heap h')(az:cB X.prog X.w H' h'):Inv X pins σ H' {s with heap:=h',toks:=t'}:=by
 obtain⟨m,⟨o,es,ep,ho,r⟩,_⟩:=id I.loc;obtain⟨sl,hL⟩:=u.any ho I.free (by simp)
 exact I.step (g':=s.gens) (d':=s.drawn) (ch:=[]) (λ_ z=>nomatch z) (λb o _ hb _ e n=>u.keep b o e n hb (by simp)) (λb o _ hb _ e n=>u.slot b o e n hb (by simp)) (λb o _ e n=>u.free b o e n (by simp)) (λb o _ e=>u.there b o e (by simp)) u.eU u.eF u.eV (λm' hm=>by
  obtain⟨o',es',ep',ho',r'⟩:=hm;rw[ho]at ho';cases ho';exact⟨_,es',ep',hL,r'⟩) az I.bare
theorem Inv.call{g':Array GenState}{d':Drawn}(I:Inv X pins σ H s)(u:Un (bN X.stack) ch H H' s.heap h')(az:cB X.prog X.w H' h')(hg:VL g')
  (hch:∀b∈ch,(b∈X.ex\/X.s₀.heap.objs.size<=b)/\b≠X.env.locals/\(∀x c,X.env.cells.lookup x=some c->c≠b) /\ ∀p∈X.pn++pins,p.1≠b) :
  Inv X pins σ H' {s with heap:=h',gens:=g',drawn:=d',toks:=t'}:=by
 obtain⟨m,⟨o,es,ep,ho,r⟩,_⟩:=id I.loc;obtain⟨sl,hL⟩:=u.any ho I.free λz=>(hch _ z).2.1 rfl
 exact I.step (ch:=ch) hch (λb o hL hb hc e n=>u.keep b o e n (λz=>(wz.mp (I.jy b z)).elim hL hb) hc) (λb o _ _ hc e n=>u.any e n hc) (λb o hc e n=>u.free b o e n hc) (λb o hc e=>u.there b o e hc) u.eU u.eF u.eV (λm' hm=>by
  obtain⟨o',es',ep',ho',r'⟩:=hm;rw[ho]at ho';cases ho';exact⟨_,es',ep',hL,r'⟩) az hg
theorem Inv.turned{it:wc}(I:Inv X pins σ H s)(k:∀b o,b≠it->s.heap.get? b=some o->h'.get? b=some o)(hn:H it=none)(hL:it≠X.env.locals)
  (h1:it∈X.ex\/X.s₀.heap.objs.size<=it) (h2:∀x c,X.env.cells.lookup x=some c->c≠it) (h3:∀p∈X.pn++pins,p.1≠it):Inv X pins σ H {s with heap:=h',toks:=t'}:=by
 have nit:∀b u,H b=some u->b≠it:=λb u e z=>by rw[z,hn]at e;cases e
 refine I.step (g':=s.gens) (d':=s.drawn) (ch:=[it]) (λb hb=>?_) (λb o _ _ hc e _=>k b o (λz=>hc (by simp[z])) e) (λb o _ _ hc e _=>⟨o.slots,k b o (λz=>hc (by simp[z])) e⟩) (λ_ _ _ _ n=>n)
  (λb o hc e=>⟨o,k b o (λz=>hc (by simp[z])) e⟩) (λ_ _ e=>e) (λ_ _ _ e=>e) (λb ps e=>⟨#[],by rw[e];simp⟩) (λm hm=>?_) (λb u e=>?_) I.bare
 ·have e:b=it:=by simpa using hb
  subst e;exact⟨h1,hL,h2,h3⟩
 ·obtain⟨o,es,ep,ho,r⟩:=hm
  exact⟨o,es,ep,k _ o (WC hL) ho,r⟩
 ·refine(I.az b u e).gX (λc v hc q=>k c v ?_ q) (λ_ q=>q) λ_ _ q=>q
  rcases hc with z | z
  ·rw[z];exact nit b u e
  ·exact nit c _ z
theorem Inv.tok(I:Inv X pins σ H s)(t:Nat):Inv X pins σ H {s with toks:=t}:=I.un (h':=s.heap) (t':=t) Un.refl I.az
theorem Inv.kept(I:Inv X pins σ H s)(k:∀b u,s.heap.get? b=some u->h'.get? b=some u):Inv X pins σ H {s with heap:=h',toks:=t'}:=I.un (Un.kept k) (I.az.kept k)
theorem Inv.laid{a:wc}{o:HO}(I:Inv X pins σ H s)(k:∀b u,s.heap.get? b=some u->h'.get? b=some u)(hp:s.heap.objs.size<=a)(new:cM X.prog X.w (upd H a o) h' a o) :
  Inv X pins σ (upd H a o) {s with heap:=h',toks:=t'}:=I.un (Un.laid k hp (I.az.fresh hp)) (I.az.laid k hp new)
theorem Inv.write{x e:wc}{o:HO}(I:Inv X pins σ H s)(mu:sT (H x))(he:e=x\/H e=some (.own x))(k:∀b u,b≠e->s.heap.get? b=some u->h'.get? b=some u)(heo:∃u,h'.get? e=some u)
  (new:cM X.prog X.w (upd H x o) h' x o):Inv X pins σ (upd H x o) {s with heap:=h',toks:=t'}:=I.un (Un.write mu he k heo) (I.az.write mu he k heo new)
theorem Inv.JP{pins':List (wc × Obj)}(I:Inv X pins σ H s)(h:∀p∈pins',s.heap.get? p.1=some p.2/\H p.1=none/\p.1≠X.env.locals/\p.1 ∉ X.fs /\ ∀v,p.2.data≠.cell v):Inv X pins' σ H s :=
 ⟨I.ok,I.os,I.bare,I.base,I.loc,I.cell,I.free,I.eS,λp hp=>(vR.mp hp).elim (λz=>I.pin p (Wd _ z)) (h p),I.az,I.len⟩
theorem CH{N:List Str}(hN:N.Nodup){j:Nat}(a:N[i]? = some x)(b:N[j]? = some x):i=j:=by
 obtain⟨h1,e1⟩:=wZ.mp a;obtain⟨h2,e2⟩:=wZ.mp b;exact(List.getElem_inj hN).mp (e1.trans e2.symm)
theorem Dh{M:Model}{A:va}{E:wd->wl->Prop}{v:V}{u:wd}{Q:Unit->wl->Prop}(I:Inv X pins σ H s)(hN:X.N.Nodup)(hi:X.N[i]? = some x)(hx:Loc X.env.scope x)(r:aV v u)
  (h:∀s',Inv X pins (σ.set i (some v)) H s'->(∃a,vW a s.heap s'.heap/\(a=X.env.locals\/X.env.cells.lookup x=some a))->Q () s') (hf:X.fn x=true\/X.env.scope.names.lookup x=some .local:=by first | exact .inl rfl | exact .inr rfl | assumption):wq M A (storeName X.env x u) Q E s:=by
 obtain⟨m,hn,hl⟩:=id I.loc;have hcls:(X.env.scope.kind == .class || (X.env.scope.kind == .module&&X.env.locals != X.env.globals))=false:=by rw[I.ok.kind];rfl
 have hiσ : i < σ.length:=by rw[I.len];exact(wZ.mp hi).1
 have iX:=I.iX
 have tracked:∀{a:wc}{h':wK},(∃o,s.heap.get? a=some o/\H a=none)->vW a s.heap h'->cB X.prog X.w H h':=λ{a h'} ha hs b ob e=>by
  obtain⟨_,_,hfree⟩:=ha;refine(I.az b ob e).gX (λc w' hc q=>(hs.2 c ?_).trans q) (λ_ q=>q) λ_ _ q=>q
  rintro rfl;rcases hc with rfl | hc
  ·rw[hfree]at e;cases e
  ·rw[hfree]at hc;cases hc
 rcases hx with hk | hk
 ·refine wpAny_storeName_local hk hn (λh' hn' hs=>?_) hcls
  obtain⟨oL,_,_,hoL,_⟩:=id hn;refine h _ ⟨I.ok,I.os,I.bare,⟨λb o e n hb hx=>?_,λb o e n hb hx=>?_,I.base.free,λb o e hx=>?_,I.base.eU,I.base.eF,I.base.eV⟩,⟨_,hn',λj y v' e1 e2 e3=>?_⟩,λy c e=>?_,I.free,I.eS,λp hp=>?_,tracked ⟨oL,hoL,I.free⟩ hs,by simpa using I.len⟩ ⟨_,hs,.inl rfl⟩
  ·exact(hs.2 b (wS (wX (wD e) I.ok.above))).trans (I.base.keep b o e n hb hx)
  ·obtain⟨sl,e1⟩:=I.base.slot b o e n hb hx
   exact⟨sl,(hs.2 b (wS (wX (wD e) I.ok.above))).trans e1⟩
  ·obtain⟨o',e1⟩:=I.base.there b o e hx
   exact⟨o',(hs.2 b (wS (wX (wD e) I.ok.above))).trans e1⟩
  ·by_cases hj:j=i
   ·subst hj
    rw[hi]at e1;cases e1;rw[xz hiσ]at e2;cases e2;exact⟨u,r,.inl ⟨hk,by simp⟩⟩
   ·rw[Qk (WC hj)]at e2
    obtain⟨u',r',q⟩:=hl j y v' e1 e2 e3;refine⟨u',r',?_⟩;rcases q with⟨k,e⟩ | ⟨k,c,e,z⟩
    ·refine .inl ⟨k,?_⟩
     have:y≠x:=λe=>hj (CH hN e1 (e ▸ hi))
     simp[this,e]
    ·exact .inr ⟨k,c,e,z.sameBut hs (iX y c e)⟩
  ·obtain⟨w',z⟩:=I.cell y c e
   exact⟨w',z.sameBut hs (iX y c e)⟩
  ·obtain⟨e,n,ne,nf,d⟩:=I.pin p hp
   exact⟨(hs.2 p.1 ne).trans e,n,ne,nf,d⟩
 ·have hfn:X.fn x=true:=by
   rcases hf with z | z
   ·exact z
   ·rw[z]at hk;cases hk
  obtain⟨c,hc⟩:=I.ok.has x (.inl hk);obtain⟨w',z⟩:=I.cell x c hc;refine wpAny_storeName_cell I.ok.kind hk hc z (λh' hc' hs=>?_);obtain⟨oc,hoc,hocd⟩:=id z;refine h {s with heap:=h'} ⟨I.ok,I.os,I.bare,⟨λb o e n hb hx=>?_,λb o e n hb hx=>?_,I.base.free,λb o e hx=>?_,I.base.eU,I.base.eF,I.base.eV⟩,⟨m,hn.sameBut hs (WC (iX x c hc)),λj y v' e1 e2 e3=>?_⟩,λy c' e=>?_,I.free,I.eS,λp hp=>?_,tracked ⟨oc,hoc,I.eS x c hc⟩ hs,by simpa using I.len⟩ ⟨c,hs,.inr hc⟩
  ·exact(hs.2 b (wS (wX (wD e) (I.ok.kj x c hfn hc)))).trans (I.base.keep b o e n hb hx)
  ·obtain⟨sl,e1⟩:=I.base.slot b o e n hb hx
   exact⟨sl,(hs.2 b (wS (wX (wD e) (I.ok.kj x c hfn hc)))).trans e1⟩
  ·obtain⟨o',e1⟩:=I.base.there b o e hx
   exact⟨o',(hs.2 b (wS (wX (wD e) (I.ok.kj x c hfn hc)))).trans e1⟩
  ·by_cases hj:j=i
   ·subst hj
    rw[hi]at e1;cases e1;rw[xz hiσ]at e2;cases e2;exact⟨u,r,.inr ⟨.inl hk,c,hc,hc'⟩⟩
   ·rw[Qk (WC hj)]at e2
    obtain⟨u',r',q⟩:=hl j y v' e1 e2 e3;refine⟨u',r',?_⟩;rcases q with q | ⟨k,c',e,z'⟩
    ·exact .inl q
    ·refine .inr ⟨k,c',e,z'.sameBut hs ?_⟩
     rintro rfl;exact hj (CH hN e1 (I.ok.inj _ _ _ e hc ▸ hi))
  ·by_cases hcc:c'=c
   ·subst hcc;exact⟨_,hc'⟩
   ·obtain⟨w2,z2⟩:=I.cell y c' e
    exact⟨w2,z2.sameBut hs hcc⟩
  ·obtain⟨e,n,ne,nf,d⟩:=I.pin p hp
   refine⟨(hs.2 p.1 ?_).trans e,n,ne,nf,d⟩;intro q;rw[q,hoc]at e;have q':oc=p.2:=vi e;exact d w' (by rw[<- q'];exact hocd)
theorem ny{M:Model}{A:va}{E:wd->wl->Prop}{v:V}{u:wd}{Q:Unit->wl->Prop}(I:Inv X pins σ H s)(hN:X.N.Nodup)(hi:X.N[i]? = some x)(hx:Loc X.env.scope x)(r:aV v u)
  (h:∀s',Inv X pins (σ.set i (some v)) H s'->Q () s') (hf:X.fn x=true\/X.env.scope.names.lookup x=some .local:=by first | exact .inl rfl | exact .inr rfl | assumption):wq M A (storeName X.env x u) Q E s :=
 Dh I hN hi hx r (λs' I' _=>h s' I') hf
theorem Inv.Ax{s':wl}(I:Inv X pins σ H s)(ho:s'.os=s.os)(u:Un (bN X.stack) ch H H' s.heap s'.heap)(az:cB X.prog X.w H' s'.heap)(hg:VL s'.gens)
  (hch:∀b∈ch,(b∈X.ex\/X.s₀.heap.objs.size<=b)/\b≠X.env.locals/\(∀x c,X.env.cells.lookup x=some c->c≠b) /\ ∀p∈X.pn++pins,p.1≠b):Inv X pins σ H' s':=by
 obtain⟨h',g',d',t',o'⟩:=s';have e:o'=s.os:=ho;subst e;exact I.call (g':=g') (t':=t') (d':=d') u az hg hch
end
abbrev XK:=wd->Option wc->Hp->Prop
abbrev St:=List (Option V)
abbrev VK:=V->Hp->Prop
abbrev TE:=St->Hp->VK->Prop
abbrev TT:=St->Hp->(Bool->Hp->Prop)->Prop
abbrev TA:=St->Hp->(List V->Hp->Prop)->Prop
structure ck where
 nx:St->Hp->Prop
 rt:VK
 bk:St->Hp->Prop:=λ_ _=>False
 ct:St->Hp->Prop:=λ_ _=>False
abbrev TS:=ck->St->Hp->Prop
def EP(X:Cx)(pins:List (wc × Obj))(σ : St)(Q:VK)(u:wd)(s':wl):Prop:=∃v H',Inv X pins σ H' s'/\aV v u/\Q v H'
def TP(X:Cx)(pins:List (wc × Obj))(σ : St)(Q:Bool->Hp->Prop)(b:Bool)(s':wl):Prop:=∃H',Inv X pins σ H' s'/\Q b H'
def AP(X:Cx)(pins:List (wc × Obj))(σ : St)(Q:List V->Hp->Prop)(us:List wd)(s':wl):Prop:=∃vs H',Inv X pins σ H' s'/\aE vs us/\Q vs H'
def SP(X:Cx)(pins:List (wc × Obj))(D:ck)(f:Flow)(s':wl):Prop :=
 match f with
 | .next=>∃σ' H',Inv X pins σ' H' s'/\D.nx σ' H'
 | .brk=>∃σ' H',Inv X pins σ' H' s'/\D.bk σ' H'
 | .cont=>∃σ' H',Inv X pins σ' H' s'/\D.ct σ' H'
 | .ret u=>∃v σ' H',Inv X pins σ' H' s'/\aV v u/\D.rt v H'
def PE(X:Cx)(e:Expr)(t:TE):Prop :=
 ∀(pins:List (wc × Obj))(s:wl)(σ : St)(H:Hp)(Q:VK),Inv X pins σ H s->t σ H Q->wq (model X.prog X.w) X.A (eval e X.env) (EP X pins σ Q) X.xe s
def PT(X:Cx)(e:Expr)(t:TT):Prop :=
 ∀(pins:List (wc × Obj))(s:wl)(σ : St)(H:Hp)(Q:Bool->Hp->Prop),Inv X pins σ H s->t σ H Q->wq (model X.prog X.w) X.A (isTrue e X.env (eval e X.env)) (TP X pins σ Q) X.xe s
def PW(X:Cx)(e:Expr)(t:TT):Prop :=
 ∀(whole:Sem wd)(pins:List (wc × Obj))(s:wl)(σ : St)(H:Hp)(Q:Bool->Hp->Prop),Inv X pins σ H s->t σ H Q->wq (model X.prog X.w) X.A (isTrue e X.env whole) (TP X pins σ Q) X.xe s
theorem PW.pt{X:Cx}{e:Expr}{t:TT}(h:PW X e t):PT X e t:=h _
def PA(X:Cx)(es:List Expr)(t:TA):Prop :=
 ∀(pos:Pos)(pins:List (wc × Obj))(s:wl)(σ : St)(H:Hp)(Q:List V->Hp->Prop),Inv X pins σ H s->t σ H Q->wq (model X.prog X.w) X.A (spliced (Wh pos (wC es X.env))) (AP X pins σ Q) X.xe s
def PS(X:Cx)(st:wJ)(t:TS):Prop :=
 ∀(pins:List (wc × Obj))(s:wl)(σ : St)(H:Hp)(D:ck),Inv X pins σ H s->t D σ H->wq (model X.prog X.w) X.A (exec st X.env) (SP X pins D) X.xe s
def dG(X:Cx)(st:List wJ)(t:TS):Prop :=
 ∀(pins:List (wc × Obj))(s:wl)(σ : St)(H:Hp)(D:ck),Inv X pins σ H s->t D σ H->wq (model X.prog X.w) X.A (execs st X.env) (SP X pins D) X.xe s
theorem au{α : Type}{t:Sem α}{Q Q' : α -> wl->Prop}{M:Model}{A:va}{E:wd->wl->Prop}{s:wl}(h:wq M A t Q E s)(hQ:∀a s,Q a s->Q' a s):wq M A t Q' E s:=vH h hQ λ_ _ x=>x
section
variable{X:Cx}
variable{x:Str}{u:wd}
def cQ(i:Nat):TE:=λσ H Q=>∃v,σ[i]? = some (some v)/\Q v H
def tC(v:V):TE:=λ_ H Q=>Q v H
theorem Kr{i:Nat}{pos:Pos}(hN:X.N[i]? = some x)(hv:yQ X.env.scope x)(hd:(x == ("__debug__" : Str))=false:=by decide)(hcd:(x == ("__classdict__" : Str))=false:=by decide):PE X (.Name x pos) (cQ i):=by
 intro pins s σ H Q I h;obtain⟨v,e,h⟩:=h;obtain⟨m,hn,hl⟩:=I.loc;obtain⟨u,r,l⟩:=hl i x v hN e hv;have fin:EP X pins σ Q u s:=⟨v,H,I,r,h⟩;rcases l with⟨hk,hm⟩ | ⟨hk,c,hc,hcell⟩
 ·exact wpAny_Name (wpAny_loadName_local I.ok.kind hk hn hm fin) hd
 ·rcases hk with hk | hk
  ·exact wpAny_Name (wpAny_loadName_cell I.ok.kind hk hc hcell fin) hd
  ·exact wpAny_Name (wpAny_loadName_free I.ok.kind hk hc hcell fin hcd) hd
theorem aA{i j pos} : PE X (.Constant (.int i) j pos) (tC (.int i)):=λ_ _ _ H _ I h=>wpAny_Constant_int ⟨.int i,H,I.tok _,⟨_,rfl⟩,h⟩
theorem dM{b j pos} : PE X (.Constant (.bool b) j pos) (tC (.bl b)):=λ_ _ _ H _ I h=>Constant_bool ⟨.bl b,H,I,rfl,h⟩
theorem pP{j pos} : PE X (.Constant .none j pos) (tC .bh):=λ_ _ _ H _ I h=>Constant_none ⟨.bh,H,I,rfl,h⟩
theorem ag{x j pos} : PE X (.Constant (.str x) j pos) (tC (.str x)):=λ_ _ _ H _ I h=>VP ⟨.str x,H,I.tok _,⟨_,rfl⟩,h⟩
def Gl(X:Cx)(x:Str):Prop:=X.env.kindOf x=some .globalImplicit
theorem nH{E:wd->wl->Prop}{pins:List (wc × Obj)}{s:wl}{σ : St}{H:Hp}{pos:Pos}{Q:wd->wl->Prop}(I:Inv X pins σ H s)(hg:Gl X x)(hm:X.mg x=some u)(h:Q u s)
  (hd:(x == ("__debug__" : Str))=false:=by decide):wq (model X.prog X.w) X.A (eval (.Name x pos) X.env) Q E s :=
 QR I.ok.kind hg (Calls.loadGlobal_global (by rw[I.ok.glob];exact I.mod.glob.keeps I.bk) hm h) hd
theorem jY{E:wd->wl->Prop}{pins:List (wc × Obj)}{s:wl}{σ : St}{H:Hp}{pos:Pos}{Q:wd->wl->Prop}(I:Inv X pins σ H s)(hg:Gl X x)(hm:X.mg x=none)(hv:vG x=some u)(h:Q u s)
  (hn:x≠"__name__":=by decide) (hd:(x == ("__debug__" : Str))=false:=by decide):wq (model X.prog X.w) X.A (eval (.Name x pos) X.env) Q E s:=by
 obtain⟨mb,h1,h2⟩:=I.mod.blt;exact QR I.ok.kind hg (Calls.loadGlobal_builtin (by rw[I.ok.glob];exact I.mod.glob.keeps I.bk) hm (by rw[I.ok.blt];exact h1.keeps I.bk) ((h2 x hn).trans hv) h) hd
theorem bZ{v:V}{pos:Pos}(hg:Gl X x)(hm:X.mg x=some u)(r:aV v u)(hd:(x == ("__debug__" : Str))=false:=by decide):PE X (.Name x pos) (tC v) :=
 λ_ _ _ H _ I h=>nH I hg hm ⟨v,H,I,r,h⟩ hd
theorem fz{v:V}{pos:Pos}(hg:Gl X x)(hm:X.mg x=none)(hv:vG x=some u)(r:aV v u)(hn:x≠"__name__":=by decide)(hd:(x == ("__debug__" : Str))=false:=by decide):PE X (.Name x pos) (tC v) :=
 λ_ _ _ H _ I h=>jY I hg hm hv ⟨v,H,I,r,h⟩ hn hd
def t2I(ta tb:TE)(k:Int->Int->Hp->Prop):St->Hp->Prop:=λσ H=>ta σ H λx H1=>tb σ H1 λy H2=>∃i j,x=.int i/\y=.int j/\k i j H2
variable{a b:Expr}{ta tb:TE}{pos:Pos}
variable{op:CmpOp}{t:TE}
def PC(X:Cx)(op:CmpOp)(a b:Expr)(t:TE):Prop :=
 ∀(pins:List (wc × Obj))(s:wl)(σ : St)(H:Hp)(Q:VK),Inv X pins σ H s->t σ H Q ->
  wq (model X.prog X.w) X.A (eval a X.env) (λv s₁=>wq (model X.prog X.w) X.A (eval b X.env) (λu s₂=>wq (model X.prog X.w) X.A (vk op v u) (EP X pins σ Q) X.xe s₂) X.xe s₁) X.xe s
theorem Pb(b:Expr)(h:op≠.In)(h2:op≠.NotIn):W4 op b=false:=by
 have e1:(op == CmpOp.In)=false:=by cases op<;>first | rfl | exact absurd rfl h
 have e2:(op == CmpOp.NotIn)=false:=by cases op<;>first | rfl | exact absurd rfl h2
 cases b<;>simp[W4,e1,e2]
def mI(p:Int->Int->Bool)(ta tb:TE):TE:=λσ H Q=>t2I ta tb (λi j H2=>Q (.bl (p i j)) H2) σ H
abbrev tLt:TE->TE->TE:=mI λi j=>decide (i<j)
abbrev tLe:TE->TE->TE:=mI λi j=>decide (i<=j)
abbrev tGt:TE->TE->TE:=mI λi j=>decide (j<i)
abbrev tGe:TE->TE->TE:=mI λi j=>decide (j<=i)
abbrev zEW:TE->TE->TE:=mI λi j=>decide (i=j)
abbrev zEV:TE->TE->TE:=mI λi j=>!decide (i=j)
def tB(t:TE):TT:=λσ H Q=>t σ H λx H1=>∃c,x=.bl c/\Q c H1
theorem Zc(h:PC X op a b t)(h1:W4 op b=false:=by first | exact Pb _ (by decide) (by decide) | rfl):PE X (.Compare a [op] [b] pos) t:=λpins s σ H Q I hw=>wpAny_Compare1 (h pins s σ H Q I hw) h1
theorem zCq(h:PC X op a b t)(h1:W4 op b=false:=by first | exact Pb _ (by decide) (by decide) | rfl):PT X (.Compare a [op] [b] pos) (tB t):=by
 intro pins s σ H Q I hw;refine wpAny_isTrue_Compare1 (au (h pins s σ H _ I hw) λv s1 h1=>au h1 λu s2 h2=>au h2 λc s3 ⟨x,H1,I1,r1,q1⟩=>?_) h1;obtain⟨d,rfl,q⟩:=q1;cases r1;exact vT ⟨H1,I1,q⟩
theorem bI{e:Expr}(h:PE X e t)(he:∀whole,isTrue e X.env whole=(do let v <- whole;standAt e.pos;holding [v] (truthy v)):=by intro _;rfl):PT X e (tB t):=by
 intro pins s σ H Q I hw;refine isTrue_plain (au (h pins s σ H _ I hw) λv s1 ⟨x,H1,I1,r1,q1⟩=>?_) (he _);obtain⟨d,rfl,q⟩:=q1;cases r1;exact vT ⟨H1,I1,q⟩
variable{tA tB':TT}{bF:List Expr}
def Rw(t u:TT):TT:=λσ H Q=>t σ H λc H1=>if c=true then u σ H1 Q else Q false H1
def Ri(t u:TT):TT:=λσ H Q=>t σ H λc H1=>if c=true then Q true H1 else u σ H1 Q
def PK(t:TT):TT:=λσ H Q=>t σ H λc H1=>Q (!c) H1
theorem uP(ha:PT X a tA):PW X (.BoolOp .And [a] pos) tA:=by
 intro wh pins s σ H Q I h;refine isTrue_and (au (ha pins s σ H Q I h) λc s1 e=>?_);cases c with
 | true=>exact isTrue_and_nil e
 | false=>exact e
theorem eG(ha:PT X a tA):PW X (.BoolOp .Or [a] pos) tA:=by
 intro wh pins s σ H Q I h;refine isTrue_or (au (ha pins s σ H Q I h) λc s1 e=>?_);cases c with
 | false=>exact isTrue_or_nil e
 | true=>exact e
theorem zR(ha:PT X a tA)(hb:PW X (.BoolOp .And (b::bF) pos) tB'):PW X (.BoolOp .And (a::b::bF) pos) (Rw tA tB'):=by
 intro wh pins s σ H Q I h;refine isTrue_and (au (ha pins s σ H _ I h) λc s1 ⟨H1,I1,q1⟩=>?_);cases c with
 | true=>exact hb wh pins s1 σ H1 Q I1 q1
 | false=>exact⟨H1,I1,q1⟩
theorem dh(ha:PT X a tA)(hb:PW X (.BoolOp .Or (b::bF) pos) tB'):PW X (.BoolOp .Or (a::b::bF) pos) (Ri tA tB'):=by
 intro wh pins s σ H Q I h;refine isTrue_or (au (ha pins s σ H _ I h) λc s1 ⟨H1,I1,q1⟩=>?_);cases c with
 | true=>exact⟨H1,I1,q1⟩
 | false=>exact hb wh pins s1 σ H1 Q I1 q1
theorem cc(ha:PT X a tA):PT X (.UnaryOp .Not a pos) (PK tA):=by
 intro pins s σ H Q I h;exact isTrue_not (ha pins s σ H (λc H1=>Q (!c) H1) I h)
def AB(ta tb:TE):TE:=λσ H Q=>ta σ H λx H1=>∃c,x=.bl c/\if c=true then tb σ H1 Q else Q (.bl false) H1
def M5(ta tb:TE):TE:=λσ H Q=>ta σ H λx H1=>∃c,x=.bl c/\if c=true then Q (.bl true) H1 else tb σ H1 Q
def Mt(ta:TE):TE:=λσ H Q=>ta σ H λx H1=>∃c,x=.bl c/\Q (.bl (!c)) H1
theorem dD{op}{t:TE}(h:PE X a t):PE X (.BoolOp op [a] pos) t:=λpins s σ H Q I hw=>BoolOp_one (h pins s σ H Q I hw)
theorem dA(ha:PE X a ta)(hb:PE X (.BoolOp .And (b::bF) pos) tb):PE X (.BoolOp .And (a::b::bF) pos) (AB ta tb):=by
 intro pins s σ H Q I h;refine BoolOp_and (au (ha pins s σ H _ I h) λv s1 ⟨x,H1,I1,r1,q1⟩=>?_);obtain⟨c,rfl,q1⟩:=q1;cases r1;refine vT ?_;cases c with
 | true=>exact hb pins s1 σ H1 Q I1 q1
 | false=>exact⟨.bl false,H1,I1,rfl,q1⟩
theorem Bw(ha:PE X a ta)(hb:PE X (.BoolOp .Or (b::bF) pos) tb):PE X (.BoolOp .Or (a::b::bF) pos) (M5 ta tb):=by
 intro pins s σ H Q I h;refine BoolOp_or (au (ha pins s σ H _ I h) λv s1 ⟨x,H1,I1,r1,q1⟩=>?_);obtain⟨c,rfl,q1⟩:=q1;cases r1;refine vT ?_;cases c with
 | false=>exact hb pins s1 σ H1 Q I1 q1
 | true=>exact⟨.bl true,H1,I1,rfl,q1⟩
theorem rh(ha:PE X a ta):PE X (.UnaryOp .Not a pos) (Mt ta):=by
 intro pins s σ H Q I h;refine UnaryOp_ (au (ha pins s σ H _ I h) λv s1 ⟨x,H1,I1,r1,q1⟩=>?_);obtain⟨c,rfl,q1⟩:=q1;cases r1;exact not_of (vT ⟨.bl (!c),H1,I1,rfl,q1⟩)
def M8(t:TT)(ta tb:TE):TE:=λσ H Q=>t σ H λc H1=>if c=true then ta σ H1 Q else tb σ H1 Q
theorem kq{c:Expr}(hc:PT X c tA)(ha:PE X a ta)(hb:PE X b tb):PE X (.IfExp c a b pos) (M8 tA ta tb):=by
 intro pins s σ H Q I h;refine wpAny_IfExp (au (hc pins s σ H _ I h) λd s1 ⟨H1,I1,q1⟩=>?_);cases d with
 | true=>exact ha pins s1 σ H1 Q I1 q1
 | false=>exact hb pins s1 σ H1 Q I1 q1
end
def aI(K:wa)(H:Hp)(a:wc)(xs:List V):Prop :=
 Rd H a (.lst xs) \/
  ∃(o:Obj)(its:Array wd)(n:Nat),K.lookup a=some o/\o.cls=.type "list"/\o.dict=none/\o.data=.seq its n/\its.size<=wr/\aE xs its.toList
def aR(K:wa)(H:Hp)(a:wc)(xs:List V):Prop :=
 Rd H a (.tup xs) \/
  ∃(o:Obj)(its:Array wd)(n:Nat),K.lookup a=some o/\o.cls=.type "tuple"/\o.data=.seq its n/\its.size<=wr/\aE xs its.toList
def zEG:wd->Option V
 | .none=>some .bh
 | .bool b=>some (.bl b)
 | .int i _=>some (.int i)
 | .str x _=>some (.str x)
 | .bytes b _=>some (.byt b)
 | .float b _=>some (.flt b)
 | .ref a=>some (.ref a)
 | .type n=>some (.ty n)
 | _=>none
theorem aV.abs{x:V}{u:wd}(r:aV x u):zEG u=some x:=by
 cases x with
 | bh=>cases r;rfl
 | bl _=>cases r;rfl
 | int _=>obtain⟨t,rfl⟩:=r;rfl
 | str _=>obtain⟨t,rfl⟩:=r;rfl
 | byt _=>obtain⟨t,rfl⟩:=r;rfl
 | flt _=>obtain⟨t,rfl⟩:=r;rfl
 | ref _=>cases r;rfl
 | ty _=>cases r;rfl
theorem aV.inj{x y:V}{u:wd}(r:aV x u)(q:aV y u):x=y:=vi (r.abs.symm.trans q.abs)
theorem aE.inj:∀{xs ys:List V}{us:List wd},aE xs us->aE ys us->xs=ys
 | _,_,_,.nil,.nil=>rfl
 | _,_,_,.cons r t,.cons r' t'=>by rw[r.inj r',aE.inj t t']
section
variable{X:Cx}{pins:List (wc × Obj)}{σ : St}{H:Hp}{s:wl}{a:wc}{xs ys:List V}
theorem aI.of{K:wa}(h:H a=some (.lst xs)):aI K H a xs:=.inl (.inl h)
theorem aR.of{K:wa}(h:H a=some (.tup xs)):aR K H a xs:=.inl (.inl h)
theorem Inv.list(I:Inv X pins σ H s)(h:aI X.K H a xs):∃its:List wd,aE xs its/\PlainL s.heap a its.toArray/\xs.length<=wr:=by
 rcases h with h | ⟨o,its,n,hk,hc,hd,hs,hz,r⟩
 ·obtain⟨z,its,n,r,e⟩:=h.ok I.az
  exact⟨its,r,⟨_,n,e,rfl,rfl,rfl⟩,z⟩
 ·refine⟨its.toList,r,⟨o,n,I.bE a o hk,hc,hd,by simpa using hs⟩,?_⟩
  have e:=r.length;simp only[qz]at e
  lia
theorem Inv.tuple(I:Inv X pins σ H s)(h:aR X.K H a xs):∃its:List wd,aE xs its/\IsTup s.heap a its.toArray/\xs.length<=wr:=by
 rcases h with h | ⟨o,its,n,hk,hc,hs,hz,r⟩
 ·obtain⟨z,its,r,p⟩:=h.ok I.az
  exact⟨its,r,p,z⟩
 ·refine⟨its.toList,r,⟨o,I.bE a o hk,hc,n,by simpa using hs⟩,?_⟩
  have e:=r.length;simp only[qz]at e
  lia
theorem Inv.Au(I:Inv X pins σ H s)(h:aI X.K H a xs)(h':aI X.K H a ys):xs=ys:=by
 obtain⟨its,r,⟨o,n,e,_,_,d⟩,_⟩:=I.list h;obtain⟨its',r',⟨o',n',e',_,_,d'⟩,_⟩:=I.list h';rw[e]at e';cases e';rw[d]at d'
 injection d' with d1 _
 have:its=its':=by simpa using congrArg uu d1
 subst this;exact r.inj r'
theorem Inv.An(I:Inv X pins σ H s)(h:aR X.K H a xs)(h':aR X.K H a ys):xs=ys:=by
 obtain⟨its,r,⟨o,e,_,n,d⟩,_⟩:=I.tuple h;obtain⟨its',r',⟨o',e',_,n',d'⟩,_⟩:=I.tuple h';rw[e]at e';cases e';rw[d]at d'
 injection d' with d1 _
 have:its=its':=by simpa using congrArg uu d1
 subst this;exact r.inj r'
end
abbrev Cx.gY(X:Cx)(E:wd->wl->Prop):Cx:={X with xe:=E}
abbrev Cx.kP(X:Cx):Cx:=X.gY λ_ _=>False
theorem Cx.Ok.gY{X:Cx}(ok:X.Ok)(E:wd->wl->Prop):(X.gY E).Ok :=
 ⟨ok.mod,ok.kind,ok.glob,ok.blt,ok.above,ok.inj,ok.has,ok.kj,ok.hd,ok.frames,ok.lR,ok.oY,ok.bs,ok.gC,ok.j_,ok.kY,ok.dC,ok.gP⟩
theorem Cx.Ok.jz{X:Cx}{E:wd->wl->Prop}(ok:(X.gY E).Ok):X.Ok :=
 ⟨ok.mod,ok.kind,ok.glob,ok.blt,ok.above,ok.inj,ok.has,ok.kj,ok.hd,ok.frames,ok.lR,ok.oY,ok.bs,ok.gC,ok.j_,ok.kY,ok.dC,ok.gP⟩
section
variable{X:Cx}{pins:List (wc × Obj)}{σ : St}{H:Hp}{s:wl}{E:wd->wl->Prop}
theorem Inv.gY(I:Inv X pins σ H s)(E:wd->wl->Prop):Inv (X.gY E) pins σ H s:=⟨I.ok.gY E,I.os,I.bare,I.base,I.loc,I.cell,I.free,I.eS,I.pin,I.az,I.len⟩
theorem Inv.jz(I:Inv (X.gY E) pins σ H s):Inv X pins σ H s:=⟨I.ok.jz,I.os,I.bare,I.base,I.loc,I.cell,I.free,I.eS,I.pin,I.az,I.len⟩
theorem SP.jz{D:ck}{f:Flow}{s':wl}(h:SP (X.gY E) pins D f s'):SP X pins D f s':=by
 cases f with
 | next=>obtain⟨σ',H',I,q⟩:=h;exact⟨σ',H',I.jz,q⟩
 | brk=>obtain⟨σ',H',I,q⟩:=h;exact⟨σ',H',I.jz,q⟩
 | cont=>obtain⟨σ',H',I,q⟩:=h;exact⟨σ',H',I.jz,q⟩
 | ret u=>obtain⟨v,σ',H',I,r,q⟩:=h;exact⟨v,σ',H',I.jz,r,q⟩
theorem dG.kP{st:List wJ}{t:TS}(h:dG X.kP st t):dG X st t:=λpins s σ H D I hw =>
 vH (h pins s σ H D (I.gY _) hw) (λ_ _ q=>q.jz) λ_ _ z=>vN z
end
section
variable{X:Cx}{st:wJ}{bF:List wJ}{t u:TS}{e:Expr}{te:TE}{pos:Pos}
def mV:TS:=λD σ H=>D.nx σ H
def nj(t u:TS):TS:=λD σ H=>t {D with nx:=u D} σ H
theorem bj:dG X [] mV:=λ_ _ σ H _ I h=>VW ⟨σ,H,I,h⟩
theorem aj(h1:PS X st t)(h2:dG X bF u):dG X (st::bF) (nj t u):=by
 intro pins s σ H D I h;refine ql (au (h1 pins s σ H {D with nx:=u D} I h) λf s1 q=>?_);cases f with
 | next =>
  obtain⟨σ',H',I',q⟩:=q;exact h2 pins s1 σ' H' D I' q
 | ret v=>exact q
 | brk=>exact q
 | cont=>exact q
theorem ak(h1:PS X st t):dG X [st] t:=by
 intro pins s σ H D I h;refine ql (au (h1 pins s σ H D I h) λf s1 q=>?_);cases f with
 | next=>exact VW q
 | ret v=>exact q
 | brk=>exact q
 | cont=>exact q
theorem Inv.quiet{pins:List (wc × Obj)}{σ : St}{H:Hp}{s:wl}(I:Inv X pins σ H s):interactive X.env=false:=by simp[interactive,I.ok.kind]
def sQ(te:TE):TS:=λD σ H=>te σ H λ_ H1=>D.nx σ H1
theorem lU(he:PE X e te)(hs:swapsWith e none pos.line X.env=pure false:=by rfl):PS X (.Expr e pos) (sQ te):=by
 intro pins s σ H D I h;exact wpAny_Expr_any (au (he pins s σ H _ I h) λv s1 ⟨x,H1,I1,r1,q1⟩=>⟨σ,H1,I1,q1⟩) I.quiet hs
def z5(te:TE):TS:=λD σ H=>te σ H D.rt
theorem aB(he:PE X e te):PS X (.Return (some e) pos) (z5 te):=by
 intro pins s σ H D I h;exact wpAny_Return_some (au (he pins s σ H _ I h) λv s1 ⟨x,H1,I1,r1,q1⟩=>⟨x,σ,H1,I1,r1,q1⟩)
def pF(c:TT)(t u:TS):TS:=λD σ H=>c σ H λb H1=>if b=true then t D σ H1 else u D σ H1
theorem bo{c:Expr}{a b:List wJ}{tc:TT}(hc:PT X c tc)(ha:dG X a t)(hb:dG X b u):PS X (.If c a b pos) (pF tc t u):=by
 intro pins s σ H D I h;refine wpAny_If (au (hc pins s σ H _ I h) λd s1 ⟨H1,I1,q1⟩=>?_);cases d with
 | true=>exact ha pins s1 σ H1 D I1 q1
 | false=>exact hb pins s1 σ H1 D I1 q1
end
abbrev TG:=V->St->Hp->(St->Hp->Prop)->Prop
abbrev jJ:=List V->St->Hp->(St->Hp->Prop)->Prop
def PG(X:Cx)(target:Expr)(t:TG):Prop :=
 ∀(pins:List (wc × Obj))(s:wl)(σ : St)(H:Hp)(v:V)(u:wd)(Q:St->Hp->Prop),Inv X pins σ H s->aV v u->t v σ H Q ->
  wq (model X.prog X.w) X.A (assign target X.env u) (λ_ s'=>∃σ' H',Inv X pins σ' H' s'/\Q σ' H') X.xe s
def yT(X:Cx)(ts:List Expr)(t:jJ):Prop :=
 ∀(pins:List (wc × Obj))(s:wl)(σ : St)(H:Hp)(vs:List V)(us:List wd)(Q:St->Hp->Prop),Inv X pins σ H s->aE vs us->t vs σ H Q ->
  wq (model X.prog X.w) X.A (assignInOrder ((assignEach ts X.env).map (·.2)) us) (λ_ s'=>∃σ' H',Inv X pins σ' H' s'/\Q σ' H') X.xe s
abbrev zb:=V->V->V->Hp->(Hp->Prop)->Prop
def NQ(X:Cx)(t:zb):Prop :=
 ∀(pins:List (wc × Obj))(s:wl)(σ : St)(H:Hp)(o i v:V)(ov iv u:wd)(Q:Hp->Prop),Inv X pins σ H s->aV o ov->aV i iv->aV v u->t o i v H Q ->
  wq (model X.prog X.w) X.A (setItem ov iv u) (λ_ s'=>∃H',Inv X pins σ H' s'/\Q H') X.xe s
abbrev TIp:=V->V->Hp->VK->Prop
section
variable{X:Cx}{pos:Pos}
variable{i:Nat}{x:Str}{e:Expr}
def gg(i:Nat):TG:=λv σ H Q=>Q (σ.set i (some v)) H
theorem fL(hN:X.N.Nodup)(hi:X.N[i]? = some x)(hx:Loc X.env.scope x)(hf:X.fn x=true\/X.env.scope.names.lookup x=some .local:=by first | exact .inl rfl | exact .inr rfl | assumption):PG X (.Name x pos) (gg i):=by
 intro pins s σ H v u Q I r h;exact wpAny_assign_Name (ny I hN hi hx r (λs' I'=>⟨_,H,I',h⟩) hf)
def Kq:jJ:=λvs σ H Q=>vs=[]/\Q σ H
def M1(t:TG)(u:jJ):jJ:=λvs σ H Q=>∃v r,vs=v::r/\t v σ H λσ' H'=>u r σ' H' Q
theorem rn :yT X [] Kq:=by
 intro pins s σ H vs us Q I r h;obtain⟨e,h⟩:=h;subst e;cases r;exact assignInOrder_nil ⟨σ,H,I,h⟩
theorem jk{es:List Expr}{t:TG}{u:jJ}(h1:PG X e t)(h2:yT X es u)
  (hs:(assignEach (e::es) X.env).map (·.2)=assign e X.env::(assignEach es X.env).map (·.2):=by rfl):yT X (e::es) (M1 t u):=by
 intro pins s σ H vs us Q I r h;obtain⟨v,vr,e1,h⟩:=h;subst e1;cases r with
 | cons r rr =>
  rw[hs];refine assignInOrder_cons (au (h1 pins s σ H _ _ _ I r h) λ_ s1 ⟨σ1,H1,I1,q1⟩=>?_);exact h2 pins s1 σ1 H1 _ _ Q I1 rr q1
def yA(K:wa)(n:Nat)(t:jJ):TG:=λv σ H Q=>∃a xs,v=.ref a/\aR K H a xs/\xs.length=n/\t xs σ H Q
theorem oQ{es:List Expr}{k:Nat}{t:jJ}{n:Nat}(hc:X.calm=true)(h:yT X es t)
  (hn:(assignEach es X.env).length=n:=by rfl) (hst:(assignEach es X.env).findIdx? (·.1)=none:=by rfl):PG X (.Tuple es k pos) (yA X.K n t):=by
 intro pins s σ H v u Q I r hw;obtain⟨a,xs,e1,hq,hl,hw⟩:=hw;subst e1;cases r;obtain⟨its,rv,ht,hz⟩:=I.tuple hq;refine assign_Tuple_tuple (I.ok.hd hc) ht (by simp[hn,<- hl,rv.length]) hst λh' hx=>?_
 have I1:Inv X pins σ H {s with heap:=h'}:=I.kept (t':=s.toks) λb o e=>hx b o (wS (wD e)) e
 exact h pins _ σ H xs _ Q I1 (by simpa using rv) hw
def Ob(to ti:TE)(t:zb):TG:=λv σ H Q=>to σ H λo H1=>ti σ H1 λi H2=>t o i v H2 λH3=>Q σ H3
theorem pT{o i:Expr}{to ti:TE}{t:zb}(ho:PE X o to)(hi:PE X i ti)(hs:NQ X t)
  (ha:∀v,assign (.Subscript o i pos) X.env v=(do
   let ov <- holding [v] (eval o X.env)
   let iv <- holding [v,ov] (eval i X.env)
   standAt pos
   holding [v,ov,iv] (setItem ov iv v)
   release [v,ov,iv] []):=by intro _;rfl):PG X (.Subscript o i pos) (Ob to ti t):=by
 intro pins s σ H v u Q I r h;rw[ha];refine wj (VM (au (ho pins s σ H _ I h) λov s1 ⟨x,H1,I1,r1,q1⟩=>?_));refine wj (VM (au (hi pins s1 σ H1 _ I1 q1) λiv s2 ⟨y,H2,I2,r2,q2⟩=>?_));refine wj (qq (wj (VM (au (hs pins s2 σ H2 x y v ov iv u _ I2 r1 r2 r q2) λ_ s3 ⟨H3,I3,q3⟩=>?_))));exact wpAny_release ⟨σ,H3,I3,q3⟩
def jn(te:TE)(g:TG):TS:=λD σ H=>te σ H λx H1=>g x σ H1 D.nx
theorem lO{tg:Expr}{te:TE}{g:TG}(he:PE X e te)(hg:PG X tg g)(hs:swapsWithSole [tg] e pos.line X.env=pure false:=by rfl)(hw:swappedStores [tg] e X.env=pure none:=by rfl)
  (h1:(assignEach [tg] X.env).map (·.2)=[assign tg X.env]:=by rfl):PS X (.Assign [tg] e pos) (jn te g):=by
 intro pins s σ H D I h;refine wpAny_Assign_stores (au (he pins s σ H _ I h) λv s1 ⟨x,H1,I1,r1,q1⟩=>?_) hs hw;rw[h1];exact au (hg pins s1 σ H1 x v _ I1 r1 q1) λ_ s2 q=>q
theorem Tq{te:TE}{pos':Pos}(hN:X.N.Nodup)(hi:X.N[i]? = some x)(hx:Loc X.env.scope x)(he:PE X e te)(hs:swapsWith e (some (.Name x pos')) pos.line X.env=pure false:=by rfl)(hf:X.fn x=true\/X.env.scope.names.lookup x=some .local:=by first | exact .inl rfl | exact .inr rfl | assumption) :
  PS X (.Assign [.Name x pos'] e pos) (jn te (gg i)):=by
 intro pins s σ H D I h;refine wpAny_Assign_Name (au (he pins s σ H _ I h) λv s1 ⟨y,H1,I1,r1,q1⟩=>?_) hs;exact ny I1 hN hi hx r1 (λs2 I2=>⟨_,H1,I2,q1⟩) hf
def O6(i j:Nat)(ta:TA):TS:=λD σ H=>ta σ H λvs H1=>∃v w,vs=[v,w]/\D.nx ((σ.set i (some v)).set j (some w)) H1
theorem Tw{j:Nat}{y:Str}{a b:Expr}{ta:TA}{px py pt:Pos}{kt k2 pt2}(hc:X.calm=true)(hN:X.N.Nodup)(hi:X.N[i]? = some x)(hj:X.N[j]? = some y)(hij:i≠j)
  (hx:X.env.scope.names.lookup x=some .local) (hy:X.env.scope.names.lookup y=some .local) (ha:PA X [a,b] ta)
  (hw:swappedStores [.Tuple [.Name x px,.Name y py] kt pt] (.Tuple [a,b] k2 pt2) X.env=pure (some [x,y]))
  (hs:swapsWithSole [.Tuple [.Name x px,.Name y py] kt pt] (.Tuple [a,b] k2 pt2) pos.line X.env=pure false:=by rfl) :
  PS X (.Assign [.Tuple [.Name x px,.Name y py] kt pt] (.Tuple [a,b] k2 pt2) pos) (O6 i j ta):=by
 intro pins s σ H D I h;rw[exec_Assign_arm];refine wj (qq ?_);rw[hs];refine wj (wA ?_);rw[if_neg (by decide)];refine wj (Tuple_ (au (ha _ pins s σ H _ I h) λus s1 ⟨vs,H1,I1,r1,q1⟩=>?_));obtain⟨v,w,e1,q1⟩:=q1;subst e1
 obtain⟨u1,u2,rfl,rv,rw'⟩:∃u1 u2,us=[u1,u2]/\aV v u1/\aV w u2:=by
  cases r1 with
  | cons p q =>
   cases q with
   | cons p' q' =>
    cases q';exact⟨_,_,rfl,p,p'⟩
 refine Wk ?_ (by show 2<=wr;decide);have I2:Inv X pins σ H1 {s1 with heap:=s1.heap.push {cls:=.type "tuple",data:=.seq [u1,u2].toArray}}:=I1.kept (t':=s1.toks) λb o e=>wn _ e
 rw[hw];refine wj (wA ?_)
 show wq (model X.prog X.w) X.A (do rule "assign.swapped-stores";let items <- unpackItems (.ref s1.heap.objs.size) 2 none;assignInOrder [λv=>bindName X.env y v,λv=>bindName X.env x v] items.reverse;pure Flow.next) _ _ _
 refine wj (wpAny_rule (wj (unpackItems_tuple (items:=#[u1,u2]) (I.ok.hd hc) (qd s1.heap _) λh' hx'=>?_)));have I3:=I2.kept (h':=h') (t':=s1.toks) λb o e=>hx' b o (wS (wD e)) e
 show wq _ _ (assignInOrder [λv=>bindName X.env y v,λv=>bindName X.env x v] [u2,u1] >>= λ_=>pure Flow.next) _ _ _
 refine wj (assignInOrder_cons (wpAny_bindName (ny I3 hN hj (.inl hy) rw' (λs2 I4=>?_) (.inr hy))));refine assignInOrder_cons (wpAny_bindName (ny I4 hN hi (.inl hx) rv (λs3 I5=>assignInOrder_nil (wA ?_)) (.inr hx)));rw[List.set_comm _ _ (WC hij)]at I5;exact⟨_,H1,I5,q1⟩
end
section
variable{X:Cx}{pos:Pos}
def Ay(c:TT)(tb:TS):TS:=λD σ H=>∃W:Nat->St->Hp->Prop,(∃m,W m σ H) /\ ∀m σ H,W m σ H ->
 c σ H λb H1=>if b=true then ∃N:St->Hp->Prop,(∀σ' H',N σ' H'->∃m',m'<m/\W m' σ' H')/\tb {D with nx:=N,ct:=N,bk:=D.nx} σ H1 else D.nx σ H1
theorem zi{c:Expr}{body:List wJ}{tc:TT}{tb:TS}(hp:PassesOwn (model X.prog X.w) X.A X.env X.xe)(hc:PT X c tc)(hb:dG X body tb):PS X (.While c body [] pos) (Ay tc tb):=by
 intro pins s σ H D I h;obtain⟨W,⟨m0,w0⟩,turn⟩:=h;refine wpAny_While (codeAny_whileLoop (λn s'=>∃σ' H',Inv X pins σ' H' s'/\W n σ' H') ?_ m0 ⟨σ,H,I,w0⟩);rintro n s1 ⟨σ1,H1,I1,w1⟩;refine Vj hp (au (hc pins s1 σ1 H1 _ I1 (turn n σ1 H1 w1)) λb s2 ⟨H2,I2,q2⟩=>?_);cases b with
 | true =>
  obtain⟨N,hN,q2⟩:=q2;rw[if_pos rfl];refine Vj hp (au (hb pins s2 σ1 H2 _ I2 q2) λf s3 q3=>?_);cases f with
  | next =>
   obtain⟨σ3,H3,I3,n3⟩:=q3;obtain⟨m',hm,w3⟩:=hN σ3 H3 n3;exact⟨m',hm,σ3,H3,I3,w3⟩
  | cont =>
   obtain⟨σ3,H3,I3,n3⟩:=q3;obtain⟨m',hm,w3⟩:=hN σ3 H3 n3;exact⟨m',hm,σ3,H3,I3,w3⟩
  | brk=>exact q3
  | ret v=>exact q3
 | false =>
  rw[if_neg vB];exact VW ⟨σ1,H2,I2,q2⟩
end
variable{tg:Expr}{P:wO}{w:wN}{K:wa}
structure It where
 go:Nat->Hp->Prop
 fB:Nat->Hp->V->Hp->Prop
 stop:Nat->Hp->Prop
def cT(X:Cx)(pins:List (wc × Obj))(H:Hp)(b:wc):Prop :=
 H b=none/\b≠X.env.locals/\b ∉ X.fs/\(b∈X.ex\/X.s₀.heap.objs.size<=b)/\(∀x c,X.env.cells.lookup x=some c->c≠b) /\ ∀p∈X.pn++pins,p.1≠b
theorem Inv.g6{X:Cx}{pins:List (wc × Obj)}{σ : St}{H H':Hp}{s:wl}{b:wc}(I:Inv X pins σ H s)(hb:s.heap.objs.size<=b)(hn:H' b=none):cT X pins H' b:=by
 refine⟨hn,vQ (wX I.lt hb),I.YK hb,.inr (w5 I.sz hb),λx c e z=>?_,λp hp z=>?_⟩
 ·obtain⟨v,q⟩:=I.cell x c e
  exact absurd (wX q.lt (by rw[z];exact hb)) (Vk _)
 ·exact absurd (wX (wD (I.pin p hp).1) (by rw[z];exact hb)) (Vk _)
structure gU(P:wO)(w:wN)(K:wa)(tg:Expr)(J:It)(fp:List wc)(it:wc)(tn:Nat->wK->Prop):Prop where
 mem:it∈fp
 obj:∀i h,tn i h->∀b∈fp,∃o,h.get? b=some o /\ ∀v,o.data≠.cell v
 keep:∀i h h',tn i h->(∀b∈fp,∀o,h.get? b=some o->h'.get? b=some o)->tn i h'
 item:∀(X:Cx),X.prog=P->X.w=w->X.K=K->X.calm=true->∀(i:Nat)(pins:List (wc × Obj))(s:wl)(σ : St)(H:Hp)(E:wd->wl->Prop),Inv X pins σ H s->(∀b∈fp,cT X pins H b)->tn i s.heap->J.go i H ->
   wq (model P w) X.A (pyNext (.ref it)) (λr s1=>∃u,r=some u /\
     wq (model P w) X.A (VX tg (.ref it) u) (λ_ s2=>∃x H',Inv X pins σ H' s2/\aV x u/\J.fB i H x H'/\tn (i+1) s2.heap /\ ∀b∈fp,H' b=none) E s1) E s
 done:∀(X:Cx),X.prog=P->X.w=w->X.K=K->X.calm=true->∀(i:Nat)(pins:List (wc × Obj))(s:wl)(σ : St)(H:Hp)(E:wd->wl->Prop),Inv X pins σ H s->(∀b∈fp,cT X pins H b)->tn i s.heap->J.stop i H ->
   wq (model P w) X.A (pyNext (.ref it)) (λr s1=>r=none/\Inv X pins σ H s1) E s
 self:∀(A:va)(i:Nat)(s:wl)(Q:wd->wl->Prop)(E:wd->wl->Prop),tn i s.heap->Q (.ref it) s->wq (model P w) A (pyIter (.ref it)) Q E s
abbrev TI:=St->Hp->(It->Hp->Prop)->Prop
def DO(X:Cx)(pins:List (wc × Obj))(σ : St)(tg:Expr)(R:It->Hp->Prop)(itv:wd)(s2:wl):Prop :=
 ∃(it:wc)(fp:List wc)(tn:Nat->wK->Prop)(J:It)(H':Hp),itv=.ref it/\Inv X pins σ H' s2/\gU X.prog X.w X.K tg J fp it tn/\tn 0 s2.heap/\(∀b∈fp,cT X pins H' b)/\R J H'
def PI(X:Cx)(tg iter:Expr)(wi:TI):Prop :=
 ∀(pins:List (wc × Obj))(s:wl)(σ : St)(H:Hp)(R:It->Hp->Prop),Inv X pins σ H s->wi σ H R ->
  wq (model X.prog X.w) X.A (eval iter X.env) (λv s1=>wq (model X.prog X.w) X.A (pyIter v) (DO X pins σ tg R) X.xe s1) X.xe s
theorem zk{M:Model}{A:va}{E:wd->wl->Prop}{s:wl}{it:wc}{u:wd}{o:Obj}{n:String}{vs:Array wd}{Q:Unit->wl->Prop}(ho:s.heap.get? it=some o)(hc:o.cls=.type n)(hd:o.data=.fields vs)
   (hn:["enumerate","zip","dict_itemiterator","dict_reverseitemiterator","odict_iterator","itertools.zip_longest","itertools.pairwise"].contains n=false) (hQ:Q () s):wq M A (VX tg (.ref it) u) Q E s:=by
 unfold VX
 cases tg<;>first
   | exact wA hQ
   | (cases u<;>first
       | exact wA hQ
       | (refine wj (wpAny_load ho ?_)
          rw[hc,hd]
          show wq M A (if(["enumerate","zip","dict_itemiterator","dict_reverseitemiterator","odict_iterator","itertools.zip_longest","itertools.pairwise"].contains n&&vs[0]? == some (Vq _))=true then _ else _) Q E s
          rw[if_neg (by intro h;rw[hn,w8]at h;cases h)];exact wA hQ))
def jg(K:wa)(a:wc):It :=
 ⟨λi H=>∃xs x,aI K H a xs/\xs[i]? = some x,λi H x H'=>H'=H /\ ∀xs,aI K H a xs->xs[i]? = some x,λi H=>∃xs,aI K H a xs/\xs.length<=i⟩
def iR(K:wa)(a:wc):It :=
 ⟨λi H=>∃xs x,aR K H a xs/\xs[i]? = some x,λi H x H'=>H'=H /\ ∀xs,aR K H a xs->xs[i]? = some x,λi H=>∃xs,aR K H a xs/\xs.length<=i⟩
def ji(lo:Int)(n:Nat):It:=⟨λi _=>i<n,λi H x H'=>H'=H/\x=.int (lo+i),λi _=>n<=i⟩
theorem SO(a it:wc):gU P w K tg (jg K a) [it] it (λi h=>h.IsListIter it a i) where
 mem:=by simp
 obj:=λi h st b hb=>by
  have e:b=it:=by simpa using hb
  subst e;obtain⟨o,e,c,d⟩:=st;exact⟨o,e,λv z=>by rw[d]at z;cases z⟩
 keep:=λi h h' st k=>st.at λo e=>k it (by simp) o e
 item:=by
  intro X hP hw hK hc i pins s σ H E I hf st hg;subst hP hw hK;obtain⟨xs,x,hq,hx⟩:=hg;obtain⟨its,rv,p,hz⟩:=I.list hq;obtain⟨u,hu,ru⟩:=rv.get hx;obtain⟨f0,f1,f2,f3,f4,f5⟩:=hf it (by simp);refine wpAny_pyNext_list_item st p.isList (x:=u) (by simpa using hu) λh' st' sb=>?_
  have I1:Inv X pins σ H {s with heap:=h'}:=I.turned (t':=s.toks) (λb o hb e=>(sb.2 b hb).trans e) f0 f1 f3 f4 f5;obtain⟨o,e,c,d⟩:=id st';exact⟨u,rfl,zk (s:={s with heap:=h'}) e c d (by decide) ⟨x,H,I1,ru,⟨rfl,λys hy=>by rw[I.Au hy hq];exact hx⟩,st',λb hb=>(hf b hb).1⟩⟩
 done:=by
  intro X hP hw hK hc i pins s σ H E I hf st hg;subst hP hw hK;obtain⟨xs,hq,hx⟩:=hg;obtain⟨its,rv,p,hz⟩:=I.list hq;obtain⟨f0,f1,f2,f3,f4,f5⟩:=hf it (by simp);have hl:=rv.length;exact wpAny_pyNext_list_end (I.ok.hd hc) st p.isList (by simp;lia) λh' eb=>⟨rfl,I.turned (t':=s.toks) (λb o hb e=>eb b o hb e) f0 f1 f3 f4 f5⟩
 self:=λ_ _ _ _ _ st h=>wpAny_pyIter_listiter st h
theorem Ss(a it:wc):gU P w K tg (iR K a) [it] it (λi h=>h.IsTupleIter it a i) where
 mem:=by simp
 obj:=λi h st b hb=>by
  have e:b=it:=by simpa using hb
  subst e;obtain⟨o,e,c,d⟩:=st;exact⟨o,e,λv z=>by rw[d]at z;cases z⟩
 keep:=λi h h' st k=>st.at λo e=>k it (by simp) o e
 item:=by
  intro X hP hw hK hc i pins s σ H E I hf st hg;subst hP hw hK;obtain⟨xs,x,hq,hx⟩:=hg;obtain⟨its,rv,p,hz⟩:=I.tuple hq;obtain⟨u,hu,ru⟩:=rv.get hx;obtain⟨f0,f1,f2,f3,f4,f5⟩:=hf it (by simp);refine wpAny_pyNext_tuple_item st (show s.heap.IsTuple a its.toArray from p) (x:=u) (by simpa using hu) λh' st' sb=>?_
  have I1:Inv X pins σ H {s with heap:=h'}:=I.turned (t':=s.toks) (λb o hb e=>(sb.2 b hb).trans e) f0 f1 f3 f4 f5;obtain⟨o,e,c,d⟩:=id st';exact⟨u,rfl,zk (s:={s with heap:=h'}) e c d (by decide) ⟨x,H,I1,ru,⟨rfl,λys hy=>by rw[I.An hy hq];exact hx⟩,st',λb hb=>(hf b hb).1⟩⟩
 done:=by
  intro X hP hw hK hc i pins s σ H E I hf st hg;subst hP hw hK;obtain⟨xs,hq,hx⟩:=hg;obtain⟨its,rv,p,hz⟩:=I.tuple hq;obtain⟨f0,f1,f2,f3,f4,f5⟩:=hf it (by simp);have hl:=rv.length;exact wpAny_pyNext_tuple_end (I.ok.hd hc) st (show s.heap.IsTuple a its.toArray from p) (by simp;lia) λh' eb=>⟨rfl,I.turned (t':=s.toks) (λb o hb e=>eb b o hb e) f0 f1 f3 f4 f5⟩
 self:=λ_ _ _ _ _ st h=>wpAny_pyIter_tupleiter st h
theorem Y8(it:wc)(lo:Int)(n:Nat):gU P w K tg (ji lo n) [it] it (λi h=>IsRangeIter h it (lo+(i:Nat)*1) ((n:Int)-(i:Nat)) 1) where
 mem:=by simp
 obj:=λi h st b hb=>by
  have e:b=it:=by simpa using hb
  subst e
  exact⟨_,st,λv z=>by
   have z':Data.fields _=Data.cell v:=z;cases z'⟩
 keep:=λi h h' st k=>k it (by simp) _ st
 item:=by
  intro X hP hw hK hc i pins s σ H E I hf st hg;subst hP hw hK;obtain⟨f0,f1,f2,f3,f4,f5⟩:=hf it (by simp);have W:=Walks.range (prog:=X.prog) (w:=X.w) (I.ok.hd hc) it lo 1 n;refine W.item i s _ _ hg st λv h' tk hv st' kk=>?_
  obtain⟨t,rfl⟩:=hv;have I1:Inv X pins σ H {s with heap:=h',toks:=tk}:=I.turned (λb o hb e=>kk b o (by simpa using hb) e) f0 f1 f3 f4 f5;refine⟨_,rfl,zk (s:={s with heap:=h',toks:=tk}) (n:="range_iterator") st' rfl rfl (by decide) ⟨.int (lo+i),H,I1,⟨t,?_⟩,⟨rfl,rfl⟩,st',λb hb=>(hf b hb).1⟩⟩;rw[Int.mul_one]
 done:=by
  intro X hP hw hK hc i pins s σ H E I hf st hg;subst hP hw hK;obtain⟨f0,f1,f2,f3,f4,f5⟩:=hf it (by simp);exact wpAny_pyNext_range_end (I.ok.hd hc) st (by have:n<=i:=hg;lia) λh' eb=>⟨rfl,I.turned (t':=s.toks) (λb o hb e=>eb b o hb e) f0 f1 f3 f4 f5⟩
 self:=λ_ _ _ _ _ st h=>wpAny_pyIter_rangeiter st h
section
variable{X:Cx}{tg:Expr}
variable{σ:St}{H:Hp}{s:wl}{fp:List wc}
def CG(K:wa)(tl:TE):TI:=λσ H R=>tl σ H λx H1=>∃a,x=.ref a/\(∃xs,aI K H1 a xs)/\R (jg K a) H1
def Rt(K:wa)(tl:TE):TI:=λσ H R=>tl σ H λx H1=>∃a,x=.ref a/\(∃xs,aR K H1 a xs)/\R (iR K a) H1
theorem eL{l:Expr}{tl:TE}(hl:PE X l tl):PI X tg l (CG X.K tl):=by
 intro pins s σ H R I h;refine au (hl pins s σ H _ I h) λv s1 ⟨x,H1,I1,r1,q1⟩=>?_
 obtain⟨a,e,⟨xs,hq⟩,q⟩:=q1;subst e;cases r1;obtain⟨its,rv,p,hz⟩:=I1.list hq;refine wpAny_pyIter_list p.isList ?_;refine⟨s1.heap.objs.size,[s1.heap.objs.size],_,_,H1,rfl,I1.kept (t':=s1.toks) λb o e=>wn _ e,SO a _,⟨_,wL _ rfl,rfl,rfl⟩,λb hb=>?_,q⟩;have e:b=s1.heap.objs.size:=by simpa using hb
 subst e;exact I1.g6 (wo _) (I1.az.fresh (wo _))
theorem lE{l:Expr}{tl:TE}(hl:PE X l tl):PI X tg l (Rt X.K tl):=by
 intro pins s σ H R I h;refine au (hl pins s σ H _ I h) λv s1 ⟨x,H1,I1,r1,q1⟩=>?_
 obtain⟨a,e,⟨xs,hq⟩,q⟩:=q1;subst e;cases r1;obtain⟨its,rv,p,hz⟩:=I1.tuple hq;refine VY (show s1.heap.IsTuple a its.toArray from p) ?_;refine⟨s1.heap.objs.size,[s1.heap.objs.size],_,_,H1,rfl,I1.kept (t':=s1.toks) λb o e=>wn _ e,Ss a _,⟨_,wL _ rfl,rfl,rfl⟩,λb hb=>?_,q⟩;have e:b=s1.heap.objs.size:=by simpa using hb
 subst e;exact I1.g6 (wo _) (I1.az.fresh (wo _))
theorem zxM{pins:List (wc × Obj)}{R:It->Hp->Prop}{E:wd->wl->Prop}{lo hi:Int}{t u v:Tok}{tk:Nat}(I:Inv X pins σ H s)(h1 : -(2^62)<=lo)(h2:lo<2^62)(h3 : -(2^62)<=hi)(h4:hi<2^62)
  (q:R (ji lo (hi-lo).toNat) H):wq (model X.prog X.w) X.A (pyIter (.ref s.heap.objs.size)) (DO X pins σ tg R) E {s with heap:=s.heap.push {cls:=.type "range",data:=.fields #[.int lo t,.int hi u,.int 1 v]},toks:=tk}:=by
 refine wpAny_pyIter_range (uD ..) (small_one h1 h2 h3 h4) ?_;have I1:Inv X pins σ H {s with heap:=s.heap.push {cls:=.type "range",data:=.fields #[.int lo t,.int hi u,.int 1 v]},toks:=tk}:=I.kept λb o e=>wn _ e
 refine⟨(s.heap.push {cls:=.type "range",data:=.fields #[.int lo t,.int hi u,.int 1 v]}).objs.size,[(s.heap.push {cls:=.type "range",data:=.fields #[.int lo t,.int hi u,.int 1 v]}).objs.size],_,_,H,rfl,
  I1.kept (t':=tk) λb o e=>wn _ e,Y8 _ lo (hi-lo).toNat,?_,λb hb=>?_,q⟩
 ·have e1:lo+((0:Nat):Int)*1=lo:=by simp
  have e2:(((hi-lo).toNat:Nat):Int)-((0:Nat):Int)=uC lo hi 1:=by rw[rangeSize_one];split<;>lia
  show IsRangeIter _ _ (lo+((0:Nat):Int)*1) ((((hi-lo).toNat:Nat):Int)-((0:Nat):Int)) 1
  rw[e1,e2];exact wL _ rfl
 ·have e:b=(s.heap.push {cls:=.type "range",data:=.fields #[.int lo t,.int hi u,.int 1 v]}).objs.size:=by simpa using hb
  subst e;exact I1.g6 (wo _) (I1.az.fresh (wo _))
def Bj(ta:TA):TI:=λσ H R=>ta σ H λvs H1=>∃j:Int,vs=[.int j] /\ -(2^62)<=j/\j<2^62/\R (ji 0 j.toNat) H1
theorem l9{a:Expr}{ta:TA}{p pos:Pos}(hg:Gl X "range")(hm:X.mg "range"=none)(ha:PA X [a] ta)(hs:wC [a] X.env=[(false,eval a X.env)]:=by rfl):PI X tg (.Call (.Name "range" p) [a] [] pos) (Bj ta):=by
 intro pins s σ H R I h;refine Call_ (jY I hg hm boot_range (Wb (au (ha pos pins s σ H _ I h) λus s1 ⟨vs,H1,I1,r1,q1⟩=>?_) hs rfl));obtain⟨j,e,q1,q2,q⟩:=q1;subst e;cases r1 with
 | cons r rr =>
  cases rr;obtain⟨t,rfl⟩:=r;exact call_range_1 (zxM I1 (by lia) (by lia) q1 q2 (by simpa using q))
def pH(wi:TI)(g:TG)(tb:TS):TS:=λD σ H=>wi σ H λJ H1=>∃W:Nat->Nat->St->Hp->Prop,(∃m,W 0 m σ H1) /\ ∀i m σ H,W i m σ H ->
 (J.stop i H/\D.nx σ H)\/(J.go i H /\ ∃N:St->Hp->Prop,(∀σ' H',N σ' H'->∃m',m'<m/\W (i+1) m' σ' H') /\ ∀x H',J.fB i H x H'->g x σ H' λσ2 H2=>tb {D with nx:=N,ct:=N,bk:=D.nx} σ2 H2)
def mP(fp:List wc)(h:wK):List (wc × Obj):=fp.filterMap λb=>(h.get? b).map λo=>(b,o)
theorem m5{h:wK}{b:wc}{o:Obj}(hb:b∈fp)(e:h.get? b=some o):(b,o)∈mP fp h:=qI.mpr ⟨b,hb,by rw[e];rfl⟩
theorem Zf{h:wK}{p:wc × Obj}(hp:p∈mP fp h):p.1∈fp/\h.get? p.1=some p.2:=by
 obtain⟨b,hb,e⟩:=qI.mp hp;cases q:h.get? b with
 | none=>rw[q]at e;cases e
 | some o =>
  rw[q]at e;have e':(b,o)=p:=vi e;subst e';exact⟨hb,q⟩
theorem Inv.pinned{pins:List (wc × Obj)}(I:Inv X pins σ H s)(hf:∀b∈fp,cT X pins H b)(ho:∀b∈fp,∃o,s.heap.get? b=some o /\ ∀v,o.data≠.cell v):Inv X (pins++mP fp s.heap) σ H s :=
 I.JP λp hp=>(vR.mp hp).elim (λz=>I.pin p (vd _ z)) λz=>by
  obtain⟨hb,e⟩:=Zf z;obtain⟨f0,f1,f2,_⟩:=hf p.1 hb;obtain⟨o,e',d⟩:=ho p.1 hb;rw[e]at e';cases e';exact⟨e,f0,f1,f2,d⟩
theorem Inv.mE{pins pl:List (wc × Obj)}(I:Inv X (pins++pl) σ H s):Inv X pins σ H s:=I.JP λp hp=>I.pin p (vd _ (Wd _ hp))
theorem kH{iter:Expr}{body:List wJ}{wi:TI}{g:TG}{tb:TS}{pos:Pos}(hp:PassesOwn (model X.prog X.w) X.A X.env X.xe)(hc:X.calm=true)(hi:PI X tg iter wi)(hg:PG X tg g)(hb:dG X body tb)
  (hs:∀x,foldedSetIterable iter X.env x=pure x:=by intro _;rfl):PS X (.For tg iter body [] pos) (pH wi g tb):=by
 intro pins s σ H D I h;refine wpAny_For (au (hi pins s σ H _ I h) λv s1 h1=>au h1 λitv s2 h2=>?_) hs;obtain⟨it,fp,tn,J,H2,e,I2,T,st2,f2,W,⟨m0,w0⟩,turn⟩:=h2;subst e
 have stat:∀{H':Hp},(∀b∈fp,H' b=none)->∀b∈fp,cT X pins H' b:=λhn b hb=>⟨hn b hb,(f2 b hb).2⟩
 refine codeAny_forLoop_any (λn s'=>∃i σ' H',Inv X pins σ' H' s'/\tn i s'.heap/\(∀b∈fp,H' b=none)/\W i n σ' H') ?_ m0 ⟨0,σ,H2,I2,st2,λb hb=>(f2 b hb).1,w0⟩;rintro n s3 ⟨i,σ3,H3,I3,st3,fr3,w3⟩;rcases turn i n σ3 H3 w3 with⟨stop,qn⟩ | ⟨go,N,hN,step⟩
 ·refine Vj hp (au (T.done X rfl rfl rfl hc i pins s3 σ3 H3 X.xe I3 (stat fr3) st3 stop) λr s4 ⟨hr,I4⟩=>?_)
  subst hr;exact VW ⟨σ3,H3,I4,qn⟩
 ·refine Vj hp (au (T.item X rfl rfl rfl hc i pins s3 σ3 H3 X.xe I3 (stat fr3) st3 go) λr s4 ⟨u,hr,h4⟩=>?_)
  subst hr;refine Vj hp (au h4 λ_ s5 ⟨x,H5,I5,r5,y5,st5,fr5⟩=>?_);have I5':=I5.pinned (stat fr5) (T.obj _ _ st5);refine Vj hp (au (hg _ s5 σ3 H5 x u _ I5' r5 (step x H5 y5)) λ_ s6 ⟨σ6,H6,I6,q6⟩=>?_);refine Vj hp (au (hb _ s6 σ6 H6 _ I6 q6) λf s7 q7=>?_)
  have again:∀{σ7:St}{H7:Hp},Inv X (pins++mP fp s5.heap) σ7 H7 s7->N σ7 H7->∃m,m<n /\ ∃i σ' H',Inv X pins σ' H' s7/\tn i s7.heap/\(∀b∈fp,H' b=none)/\W i m σ' H':=λ{σ7 H7} I7 n7=>by
   obtain⟨m',hm,w7⟩:=hN σ7 H7 n7;refine⟨m',hm,i+1,σ7,H7,I7.mE,T.keep _ _ _ st5 λb hb o e=>(I7.pin (b,o) (vd _ (vd _ (m5 hb e)))).1,λb hb=>?_,w7⟩;obtain⟨o,e,d⟩:=T.obj _ _ st5 b hb;exact(I7.pin (b,o) (vd _ (vd _ (m5 hb e)))).2.1
  cases f with
  | next=>obtain⟨σ7,H7,I7,n7⟩:=q7;exact again I7 n7
  | cont=>obtain⟨σ7,H7,I7,n7⟩:=q7;exact again I7 n7
  | brk=>obtain⟨σ7,H7,I7,q7⟩:=q7;exact⟨σ7,H7,I7.mE,q7⟩
  | ret v=>obtain⟨x7,σ7,H7,I7,r7,q7⟩:=q7;exact⟨x7,σ7,H7,I7.mE,r7,q7⟩
end
variable{g:TG}{tb:TS}{D:ck}{σ:St}{H:Hp}
theorem Zh{K:wa}{a:wc}{xs:List V}(Pv:Nat->St->Hp->Prop)(h0:Pv 0 σ H)(hl:∀i σ H,i<=xs.length->Pv i σ H->aI K H a xs)
  (hs:∀i x σ H,xs[i]? = some x->Pv i σ H->g x σ H λσ2 H2=>tb {D with nx:=Pv (i+1),ct:=Pv (i+1),bk:=D.nx} σ2 H2) (hd:∀σ H,Pv xs.length σ H->D.nx σ H) :
  ∃W:Nat->Nat->St->Hp->Prop,(∃m,W 0 m σ H) /\ ∀i m σ H,W i m σ H ->
   ((jg K a).stop i H/\D.nx σ H)\/((jg K a).go i H /\ ∃N:St->Hp->Prop,(∀σ' H',N σ' H'->∃m',m'<m/\W (i+1) m' σ' H') /\ ∀x H',(jg K a).fB i H x H'->g x σ H' λσ2 H2=>tb {D with nx:=N,ct:=N,bk:=D.nx} σ2 H2):=by
 refine⟨λi m σ H=>m=xs.length-i/\i<=xs.length/\Pv i σ H,⟨xs.length,by simp,Vu _,h0⟩,?_⟩;rintro i m σ H ⟨rfl,hi,p⟩;have q:=hl i σ H hi p
 by_cases hlt:i<xs.length
 ·refine .inr ⟨⟨xs,xs[i],q,by simp[hlt]⟩,Pv (i+1),λσ' H' p'=>⟨xs.length-(i+1),by lia,rfl,hlt,p'⟩,λx H' y=>?_⟩
  obtain⟨e,y⟩:=y;subst e;exact hs i x σ _ (y xs q) p
 ·have e:i=xs.length:=by lia
  subst e;exact .inl ⟨⟨xs,q,wo _⟩,hd σ H p⟩
theorem YW{K:wa}{a:wc}{xs:List V}(Pv:Nat->St->Hp->Prop)(h0:Pv 0 σ H)(hl:∀i σ H,i<=xs.length->Pv i σ H->aR K H a xs)
  (hs:∀i x σ H,xs[i]? = some x->Pv i σ H->g x σ H λσ2 H2=>tb {D with nx:=Pv (i+1),ct:=Pv (i+1),bk:=D.nx} σ2 H2) (hd:∀σ H,Pv xs.length σ H->D.nx σ H) :
  ∃W:Nat->Nat->St->Hp->Prop,(∃m,W 0 m σ H) /\ ∀i m σ H,W i m σ H ->
   ((iR K a).stop i H/\D.nx σ H)\/((iR K a).go i H /\ ∃N:St->Hp->Prop,(∀σ' H',N σ' H'->∃m',m'<m/\W (i+1) m' σ' H') /\ ∀x H',(iR K a).fB i H x H'->g x σ H' λσ2 H2=>tb {D with nx:=N,ct:=N,bk:=D.nx} σ2 H2):=by
 refine⟨λi m σ H=>m=xs.length-i/\i<=xs.length/\Pv i σ H,⟨xs.length,by simp,Vu _,h0⟩,?_⟩;rintro i m σ H ⟨rfl,hi,p⟩;have q:=hl i σ H hi p
 by_cases hlt:i<xs.length
 ·refine .inr ⟨⟨xs,xs[i],q,by simp[hlt]⟩,Pv (i+1),λσ' H' p'=>⟨xs.length-(i+1),by lia,rfl,hlt,p'⟩,λx H' y=>?_⟩
  obtain⟨e,y⟩:=y;subst e;exact hs i x σ _ (y xs q) p
 ·have e:i=xs.length:=by lia
  subst e;exact .inl ⟨⟨xs,q,wo _⟩,hd σ H p⟩
theorem zwo{lo:Int}{n:Nat}(Pv:Nat->St->Hp->Prop)(h0:Pv 0 σ H)
  (hs:∀i σ H,i<n->Pv i σ H->g (.int (lo+i)) σ H λσ2 H2=>tb {D with nx:=Pv (i+1),ct:=Pv (i+1),bk:=D.nx} σ2 H2) (hd:∀σ H,Pv n σ H->D.nx σ H) :
  ∃W:Nat->Nat->St->Hp->Prop,(∃m,W 0 m σ H) /\ ∀i m σ H,W i m σ H ->
   ((ji lo n).stop i H/\D.nx σ H)\/((ji lo n).go i H /\ ∃N:St->Hp->Prop,(∀σ' H',N σ' H'->∃m',m'<m/\W (i+1) m' σ' H') /\ ∀x H',(ji lo n).fB i H x H'->g x σ H' λσ2 H2=>tb {D with nx:=N,ct:=N,bk:=D.nx} σ2 H2):=by
 refine⟨λi m σ H=>m=n-i/\i<=n/\Pv i σ H,⟨n,by simp,Vu _,h0⟩,?_⟩;rintro i m σ H ⟨rfl,hi,p⟩
 by_cases hlt:i<n
 ·refine .inr ⟨hlt,Pv (i+1),λσ' H' p'=>⟨n-(i+1),by lia,rfl,hlt,p'⟩,λx H' y=>?_⟩
  obtain⟨e,y⟩:=y;subst e y;exact hs i σ _ hlt p
 ·have e:i=n:=by lia
  subst e;exact .inl ⟨wo _,hd σ H p⟩
abbrev R2:=V->V->Hp->VK->Prop
def aY(X:Cx)(f:wd->wd->Sem wd)(r:R2):Prop :=
 ∀(pins:List (wc × Obj))(s:wl)(σ : St)(H:Hp)(x y:V)(v u:wd)(Q:VK),Inv X pins σ H s->aV x v->aV y u->r x y H Q ->
  wq (model X.prog X.w) X.A (f v u) (EP X pins σ Q) X.xe s
def EG(X:Cx)(f:wd->Sem wd)(r:V->Hp->VK->Prop):Prop :=
 ∀(pins:List (wc × Obj))(s:wl)(σ : St)(H:Hp)(x:V)(v:wd)(Q:VK),Inv X pins σ H s->aV x v->r x H Q ->
  wq (model X.prog X.w) X.A (f v) (EP X pins σ Q) X.xe s
def aM(X:Cx)(f:wd)(r:List V->Hp->VK->Prop):Prop :=
 ∀(pins:List (wc × Obj))(s:wl)(σ : St)(H:Hp)(xs:List V)(us:List wd)(Q:VK),Inv X pins σ H s->aE xs us->r xs H Q ->
  wq (model X.prog X.w) X.A (call f us) (EP X pins σ Q) X.xe s
def zEM(X:Cx)(r:V->Hp->(Bool->Hp->Prop)->Prop):Prop :=
 ∀(pins:List (wc × Obj))(s:wl)(σ : St)(H:Hp)(x:V)(v:wd)(Q:Bool->Hp->Prop),Inv X pins σ H s->aV x v->r x H Q ->
  wq (model X.prog X.w) X.A (truthy v) (TP X pins σ Q) X.xe s
def cW(r:R2)(ta tb:TE):TE:=λσ H Q=>ta σ H λx H1=>tb σ H1 λy H2=>r x y H2 Q
def BC(r:V->Hp->VK->Prop)(ta:TE):TE:=λσ H Q=>ta σ H λx H1=>r x H1 Q
def rI(C:Int->Int->Prop)(g:Int->Int->V):R2:=λx y H Q=>∃i j,x=.int i/\y=.int j/\C i j/\Q (g i j) H
def gB(g:Int->Int->V):R2:=λx y H Q=>∃i j,x=.int i/\y=.int j/\Q (g i j) H
def rU(g:Int->V):V->Hp->VK->Prop:=λx H Q=>∃i,x=.int i/\Q (g i) H
section
variable{X:Cx}{a b c:Expr}{ta tb tc:TE}{pos:Pos}
theorem Eg(ha:PE X a ta)(hb:PE X b tb){pins:List (wc × Obj)}{s:wl}{σ : St}{H:Hp}{R:V->V->Hp->Prop}(I:Inv X pins σ H s)
  (h:ta σ H λx H1=>tb σ H1 λy H2=>R x y H2) {Q:wd->wl->Prop} {f:wd->wd->Sem wd}
  (hf:∀v u s2 x y H2,Inv X pins σ H2 s2->aV x v->aV y u->R x y H2->wq (model X.prog X.w) X.A (f v u) Q X.xe s2) :
  wq (model X.prog X.w) X.A (eval a X.env) (λv s₁=>wq (model X.prog X.w) X.A (eval b X.env) (λu s₂=>wq (model X.prog X.w) X.A (f v u) Q X.xe s₂) X.xe s₁) X.xe s:=by
 refine au (ha pins s σ H _ I h) λv s1 ⟨x,H1,I1,r1,q1⟩=>?_
 refine au (hb pins s1 σ H1 _ I1 q1) λu s2 ⟨y,H2,I2,r2,q2⟩=>?_
 exact hf v u s2 x y H2 I2 r1 r2 q2
theorem aG{op:Operator}{r:R2}(ho:aY X (Wu op) r)(ha:PE X a ta)(hb:PE X b tb):PE X (.BinOp a op b pos) (cW r ta tb):=by
 intro pins s σ H Q I h;exact wpAny_BinOp (Eg ha hb I h λv u s2 x y H2 I2 rx ry q=>ho pins s2 σ H2 x y v u Q I2 rx ry q)
theorem rA{op:UnaryOp}{r:V->Hp->VK->Prop}(ho:EG X (unaryOp op) r)(ha:PE X a ta):PE X (.UnaryOp op a pos) (BC r ta):=by
 intro pins s σ H Q I h;exact UnaryOp_ (au (ha pins s σ H _ I h) λv s1 ⟨x,H1,I1,r1,q1⟩=>ho pins s1 σ H1 x v Q I1 r1 q1)
theorem tS{f:wd->wd->Sem wd}{C:Int->Int->Prop}{g:Int->Int->Int}
  (rule:∀(i j:Int)(t u:Tok)(s:wl)(Q:wd->wl->Prop)(E:wd->wl->Prop),C i j->Q (.int (g i j) s.toks) {s with toks:=s.toks+1}->wq (model X.prog X.w) X.A (f (.int i t) (.int j u)) Q E s) :
  aY X f (rI C λi j=>.int (g i j)):=by
 intro pins s σ H x y v u Q I rx ry h;obtain⟨i,j,rfl,rfl,hc,q⟩:=h;obtain⟨t,rfl⟩:=rx;obtain⟨t',rfl⟩:=ry;exact rule i j t t' s _ _ hc ⟨.int (g i j),H,I.tok _,⟨_,rfl⟩,q⟩
theorem SH{f:wd->wd->Sem wd}{g:Int->Int->Int}
  (rule:∀(i j:Int)(t u:Tok)(s:wl)(Q:wd->wl->Prop)(E:wd->wl->Prop),Q (.int (g i j) s.toks) {s with toks:=s.toks+1}->wq (model X.prog X.w) X.A (f (.int i t) (.int j u)) Q E s) :
  aY X f (gB λi j=>.int (g i j)):=by
 intro pins s σ H x y v u Q I rx ry h;obtain⟨i,j,rfl,rfl,q⟩:=h;obtain⟨t,rfl⟩:=rx;obtain⟨t',rfl⟩:=ry;exact rule i j t t' s _ _ ⟨.int (g i j),H,I.tok _,⟨_,rfl⟩,q⟩
theorem zM{f:wd->wd->Sem wd}{g:Int->Int->Bool}
  (rule:∀(i j:Int)(t u:Tok)(s:wl)(Q:wd->wl->Prop)(E:wd->wl->Prop),Q (.bool (g i j)) s->wq (model X.prog X.w) X.A (f (.int i t) (.int j u)) Q E s) :
  aY X f (gB λi j=>.bl (g i j)):=by
 intro pins s σ H x y v u Q I rx ry h;obtain⟨i,j,rfl,rfl,q⟩:=h;obtain⟨t,rfl⟩:=rx;obtain⟨t',rfl⟩:=ry;exact rule i j t t' s _ _ ⟨.bl (g i j),H,I,rfl,q⟩
def Lj(i j:Int):Prop:=0<=j/\j<=1000000/\i.natAbs<2^64
theorem zDh:aY X (Wu .Add) (gB λi j=>.int (i+j)):=SH λ_ _ _ _ _ _ _ q=>add_int q
theorem zB6:aY X (Wu .Sub) (gB λi j=>.int (i-j)):=SH λ_ _ _ _ _ _ _ q=>sub_int q
theorem iU:aY X (Wu .Mod) (rI (λ_ j=>0<j) λi j=>.int (i % j)):=tS λi j _ _ _ _ _ hc q=>by
 have h1:(0:Int)<j:=hc;exact mod_int' (by lia) (by rw[Int.fmod_eq_emod_of_nonneg i (by lia)];exact q)
theorem zCv:aY X (Wu .Pow) (rI Lj λi j=>.int (i^j.toNat)):=tS λ_ _ _ _ _ _ _ hc q=>pow_int_small hc.1 hc.2.1 hc.2.2 q
theorem unI{f:wd->Sem wd}{g:Int->Int}
  (rule:∀(i:Int)(t:Tok)(s:wl)(Q:wd->wl->Prop)(E:wd->wl->Prop),Q (.int (g i) s.toks) {s with toks:=s.toks+1}->wq (model X.prog X.w) X.A (f (.int i t)) Q E s) :
  EG X f (rU λi=>.int (g i)):=by
 intro pins s σ H x v Q I rx h;obtain⟨i,rfl,q⟩:=h;obtain⟨t,rfl⟩:=rx;exact rule i t s _ _ ⟨.int (g i),H,I.tok _,⟨_,rfl⟩,q⟩
theorem pD:EG X (unaryOp .USub) (rU λi=>.int (-i)):=unI λ_ _ _ _ _ q=>neg_int q
end
section
variable{X:Cx}{a b c:Expr}{ta tb tc:TE}{pos:Pos}
variable{r r':R2}{op:CmpOp}
theorem Dt{pins:List (wc × Obj)}{σ : St}{H:Hp}{s:wl}{Q:VK}{k k':Bool}(I:Inv X pins σ H s)(q:Q (.bl k) H)(e:k=k'):EP X pins σ Q (.bool k') s:=by
 subst e;exact⟨.bl k,H,I,rfl,q⟩
theorem nJ :aY X (vk .Lt) (gB λi j=>.bl (decide (i<j))):=zM λ_ _ _ _ _ _ _ q=>lt_int q
theorem jj :aY X (vk .LtE) (gB λi j=>.bl (decide (i<=j))):=zM λ_ _ _ _ _ _ _ q=>le_int q
theorem ki :aY X (vk .Gt) (gB λi j=>.bl (decide (j<i))):=zM λ_ _ _ _ _ _ _ q=>gt_int q
theorem OF :aY X (vk .GtE) (gB λi j=>.bl (decide (j<=i))):=zM λ_ _ _ _ _ _ _ q=>ge_int q
theorem zwm :aY X (vk .In) (λx y H Q=>∃i j,x=.str i/\y=.str j/\Q (.bl (!(Wm j i 0 j.length 1).isEmpty)) H):=by
 intro pins s σ H x y v u Q I rx ry h;obtain⟨i,j,rfl,rfl,q⟩:=h;obtain⟨t,rfl⟩:=rx;obtain⟨t',rfl⟩:=ry;exact in_str (Dt I q rfl)
theorem YT :aY X (vk .Is) (λx y H Q=>y=.bh/\Q (.bl (decide (x=.bh))) H):=by
 intro pins s σ H x y v u Q I rx ry h;obtain⟨rfl,q⟩:=h;cases ry;refine is_none_gen (Dt I q ?_)
 cases x<;>first
  | (cases rx;rfl)
  | (obtain⟨t,rfl⟩:=rx;rfl)
theorem aY.or{f:wd->wd->Sem wd}(h:aY X f r)(h':aY X f r'):aY X f (λx y H Q=>r x y H Q\/r' x y H Q):=by
 intro pins s σ H x y v u Q I rx ry q;rcases q with q | q
 ·exact h pins s σ H x y v u Q I rx ry q
 ·exact h' pins s σ H x y v u Q I rx ry q
theorem cN(b:Expr)(h:op≠.In:=by decide)(h2:op≠.NotIn:=by decide):W4 op b=false:=by
 have e1:(op == CmpOp.In)=false:=by cases op<;>first | rfl | exact absurd rfl h
 have e2:(op == CmpOp.NotIn)=false:=by cases op<;>first | rfl | exact absurd rfl h2
 cases b<;>simp[W4,e1,e2]
theorem fw(ho:aY X (vk op) r)(ha:PE X a ta)(hb:PE X b tb)(hm:W4 op b=false):PE X (.Compare a [op] [b] pos) (cW r ta tb):=by
 intro pins s σ H Q I h;exact wpAny_Compare1 (Eg ha hb I h λv u s2 x y H2 I2 rx ry q=>ho pins s2 σ H2 x y v u Q I2 rx ry q) hm
def lq(t:TE):TT:=λσ H Q=>t σ H λx H'=>∃k,x=.bl k/\Q k H'
theorem en(ho:aY X (vk op) r)(ha:PE X a ta)(hb:PE X b tb)(hm:W4 op b=false):PT X (.Compare a [op] [b] pos) (lq (cW r ta tb)):=by
 intro pins s σ H Q I h
 refine wpAny_isTrue_Compare1 (au (ha pins s σ H _ I h) λv s1 ⟨x,H1,I1,r1,q1⟩=>au (hb pins s1 σ H1 _ I1 q1) λu s2 ⟨y,H2,I2,r2,q2⟩ =>
  au (ho pins s2 σ H2 x y v u _ I2 r1 r2 q2) λc s3 ⟨z,H3,I3,r3,k,e,q3⟩=>?_) hm
 subst e;cases r3;exact vT ⟨H3,I3,q3⟩
def ER(r r':R2)(ta tb tc:TE):TE:=λσ H Q=>ta σ H λx H1=>tb σ H1 λy H2=>r x y H2 λz H3=>∃k,z=.bl k /\
 (if k=true then tc σ H3 λw' H4=>r' y w' H4 Q else Q (.bl false) H3)
theorem Zq{op':CmpOp}(ho:aY X (vk op) r)(ho':aY X (vk op') r')(ha:PE X a ta)(hb:PE X b tb)(hc:PE X c tc)
  (hm:lastMarks [op,op'] [b,c]=false:=by with_unfolding_all rfl):PE X (.Compare a [op,op'] [b,c] pos) (ER r r' ta tb tc):=by
 intro pins s σ H Q I h
 refine Compare_chain (au (ha pins s σ H _ I h) λv s1 ⟨x,H1,I1,r1,q1⟩=>chain_link (au (hb pins s1 σ H1 _ I1 q1) λu s2 ⟨y,H2,I2,r2,q2⟩ =>
  au (ho pins s2 σ H2 x y v u _ I2 r1 r2 q2) λd s3 ⟨z,H3,I3,r3,k,e,q3⟩=>?_)) hm
 subst e;cases r3;refine vT ?_;cases k with
 | false=>exact ite_ff ⟨.bl false,H3,I3,rfl,q3⟩
 | true=>exact ite_tt (chain_last (au (hc pins s3 σ H3 _ I3 q3) λw' s4 ⟨z',H4,I4,r4,q4⟩=>ho' pins s4 σ H4 y z' u w' Q I4 r2 r4 q4))
theorem SU{op':CmpOp}(ho:aY X (vk op) r)(ho':aY X (vk op') r')(ha:PE X a ta)(hb:PE X b tb)(hc:PE X c tc)
  (hm:lastMarks [op,op'] [b,c]=false:=by with_unfolding_all rfl):PT X (.Compare a [op,op'] [b,c] pos) (lq (ER r r' ta tb tc)):=by
 intro pins s σ H Q I h
 refine isTrue_chain (au (ha pins s σ H _ I h) λv s1 ⟨x,H1,I1,r1,q1⟩=>test_link (au (hb pins s1 σ H1 _ I1 q1) λu s2 ⟨y,H2,I2,r2,q2⟩ =>
  au (ho pins s2 σ H2 x y v u _ I2 r1 r2 q2) λd s3 ⟨z,H3,I3,r3,k,e,q3⟩=>?_)) hm
 subst e;cases r3;refine vT ?_;cases k with
 | false =>
  obtain⟨k',e',q'⟩:=q3;cases e';exact ite_ff ⟨H3,I3,q'⟩
 | true =>
  refine ite_tt (test_last (au (hc pins s3 σ H3 _ I3 q3) λw' s4 ⟨z',H4,I4,r4,q4⟩=>au (ho' pins s4 σ H4 y z' u w' _ I4 r2 r4 q4) λd' s5 ⟨z2,H5,I5,r5,k2,e2,q5⟩=>?_));subst e2;cases r5;exact vT ⟨H5,I5,q5⟩
def Ez(K:wa)(x:V)(H:Hp)(k:Bool):Prop :=
 match x with
 | .bh=>k=false
 | .bl b=>k=b
 | .int i=>k=(i != 0)
 | .str y=>y.length<=wr/\k=((y.length:Int) != 0)
 | .byt y=>y.size<=wr/\k=((y.size:Int) != 0)
 | .ref p=>(∃xs,aI K H p xs/\k = !xs.isEmpty)\/(∃xs,aR K H p xs/\k = !xs.isEmpty) \/ ∃kvs,H p=some (.dK kvs)/\k = !kvs.isEmpty
 | _=>False
theorem zth{κ : Type}{kvs:List (κ × V)}{vs:List (κ × wd)}(r:KV kvs vs):(!vs.isEmpty) = !kvs.isEmpty:=by
 cases r<;>rfl
theorem Ta{xs:List V}{its:List wd}(r:aE xs its):(!its.toArray.isEmpty) = !xs.isEmpty:=by
 cases r<;>simp
theorem mf :(wr:Nat)<2^63:=by rw[qu];decide
theorem Nu :zEM X (λx H Q=>∃k,Ez X.K x H k/\Q k H):=by
 intro pins s σ H x v Q I rx h;obtain⟨k,e,q⟩:=h;have hl:=mf;have hs:wr=16777216:=qu;cases x with
 | bh =>
  cases rx;have e':k=false:=e;subst e';exact truthy_none ⟨H,I,q⟩
 | bl b =>
  cases rx;have e':k=b:=e;subst e';exact vT ⟨H,I,q⟩
 | int i =>
  obtain⟨t,rfl⟩:=rx;have e':k=(i != 0):=e;subst e';exact PySem.P.truthy_int ⟨H,I,q⟩
 | str y =>
  obtain⟨t,rfl⟩:=rx;obtain⟨hy,e'⟩:y.length<=wr/\k=((y.length:Int) != 0):=e;subst e';exact PySem.P.truthy_str (by lia) ⟨H,I.tok _,q⟩
 | byt y =>
  obtain⟨t,rfl⟩:=rx;obtain⟨hy,e'⟩:y.size<=wr/\k=((y.size:Int) != 0):=e;subst e';exact PySem.W.truthy_bytes (by lia) ⟨H,I.tok _,q⟩
 | ref p =>
  cases rx;have e':(∃xs,aI X.K H p xs/\k = !xs.isEmpty)\/(∃xs,aR X.K H p xs/\k = !xs.isEmpty) \/ ∃kvs,H p=some (.dK kvs)/\k = !kvs.isEmpty:=e;rcases e' with⟨xs,hx,e'⟩ | ⟨xs,hx,e'⟩ | ⟨kvs,hx,e'⟩
  ·subst e'
   obtain⟨its,r,pl,hz⟩:=I.list hx;have hlen:=r.length;exact wpAny_truthy_list pl.isList (by simp only[wP];lia) ⟨H,I.tok _,by rw[Ta r];exact q⟩
  ·subst e'
   obtain⟨its,r,pl,hz⟩:=I.tuple hx;have hlen:=r.length;exact truthy_tuple pl (by simp only[wP];lia) ⟨H,I.tok _,by rw[Ta r];exact q⟩
  ·subst e'
   obtain⟨hz,hS,vs,r,m⟩:kvs.length<=wr/\(p == VU)=false /\ ∃vs,KV kvs vs/\s.heap.DictOf (DM X.prog X.w) p vs:=I.az p _ hx;have hlen:kvs.length=vs.length:=uk r;exact wpAny_truthy_dict hS m (by lia) ⟨H,I.tok _,by rw[zth r];exact q⟩
 | _=>exact(show False from e).elim
theorem zzf(ha:PE X a ta)(he:∀whole,isTrue a X.env whole=(do let v <- whole;standAt a.pos;holding [v] (truthy v))) :
  PT X a (λσ H Q=>ta σ H λx H'=>∃k,Ez X.K x H' k/\Q k H'):=by
 intro pins s σ H Q I h;exact isTrue_plain (au (ha pins s σ H _ I h) λv s1 ⟨x,H1,I1,r1,q1⟩=>Nu pins s1 σ H1 x v Q I1 r1 q1) (he _)
theorem zs6 :aY X (Wu .Add) (λx y H Q=>∃i j,x=.str i/\y=.str j/\i.length+j.length<=wr/\Q (.str (i++j)) H):=by
 intro pins s σ H x y v u Q I rx ry h;obtain⟨i,j,rfl,rfl,hz,q⟩:=h;obtain⟨t,rfl⟩:=rx;obtain⟨t',rfl⟩:=ry;exact add_str (λt' tk=>⟨.str (i++j),H,I.tok _,⟨_,rfl⟩,q⟩) hz
theorem gj{x:V}{us:List wd}(r:aE [x] us):∃u,us=[u]/\aV x u:=by
 cases r with
 | cons r1 r2=>cases r2;exact⟨_,rfl,r1⟩
theorem ig{x y:V}{us:List wd}(r:aE [x,y] us):∃u w',us=[u,w']/\aV x u/\aV y w':=by
 cases r with
 | cons r1 r2 =>
  cases r2 with
  | cons r3 r4=>cases r4;exact⟨_,_,rfl,r1,r3⟩
theorem zyk :aM X (.builtin "abs") (λxs H Q=>∃i,xs=[.int i]/\Q (.int (if i<0 then -i else i)) H):=by
 intro pins s σ H xs us Q I r h;obtain⟨i,rfl,q⟩:=h;obtain⟨u,rfl,t,rfl⟩:=gj r;exact call_abs_int λu tk=>⟨.int (if i<0 then -i else i),H,I.tok _,⟨_,rfl⟩,q⟩
theorem zwP(hc:X.calm=true):aM X (.builtin "max") (λxs H Q=>∃i j,xs=[.int i,.int j]/\Q (.int (if j > i then j else i)) H):=by
 intro pins s σ H xs us Q I r h;obtain⟨i,j,rfl,q⟩:=h;obtain⟨u,w',rfl,⟨t,rfl⟩,⟨t',rfl⟩⟩:=ig r;refine max_two_ints (I.ok.hd hc) λh' tk k=>⟨_,H,I.kept k,?_,q⟩
 by_cases hj:j > i
 ·rw[if_pos hj,if_pos hj];exact⟨_,rfl⟩
 ·rw[if_neg hj,if_neg hj];exact⟨_,rfl⟩
theorem ZE :aM X (.type "str") (λxs H Q=>∃i,xs=[.int i]/\i.natAbs.log2<1920/\Q (.str (toString i)) H):=by
 intro pins s σ H xs us Q I r h;obtain⟨i,rfl,hz,q⟩:=h;obtain⟨u,rfl,t,rfl⟩:=gj r;exact PySem.P.str_of_int hz ⟨.str _,H,I.tok _,⟨_,rfl⟩,q⟩
end
structure lz(h:wK)(x dx C:wc)(mA:Str->Option wd):Prop where
 obj:h.get? x=some (WM C dx)
 ns:h.Ns1 dx mA
 ne:dx≠x
theorem zwx{h:wK}{dx:wc}{mA:Str->Option wd}(n:h.Ns1 dx mA):∃od,h.get? dx=some od /\ ∀name,Qy name od=some (mA name):=by
 obtain⟨o,es,ep,ho,hd,hk,_,hm⟩:=n;refine⟨o,ho,λname=>?_⟩;have e:=hm name;unfold nsFind findBy at e;rw[<- Array.find?_toList]at e;unfold Qy;rw[hd];dsimp only
 split
 ·rename_i y q
  rw[q]at e;exact congrArg some e
 ·rename_i q
  rw[q]at e
  have a:es.toList.any (·.refKey)=false:=by
   rw[List.any_eq_false];intro y hy;obtain⟨z,t,hkey⟩:=hk y (Array.mem_toList_iff.mp hy);simp[DictEntry.refKey,hkey]
  have a':¬ es.toList.any (·.refKey)=true:=by rw[a];exact vB
  rw[if_neg a'];exact congrArg some e
theorem lz.look{h:wK}{x dx C:wc}{mA:Str->Option wd}(I:lz h x dx C mA):∃od,Qz h x (WM C dx) C (some od) /\ ∀name,Qy name od=some (mA name) :=
 let ⟨od,ho,hl⟩:=zwx I.ns
 ⟨od,⟨I.obj,rfl,rfl,ho⟩,hl⟩
section
variable{prog:wO}{w:wN}{A:va}{E:wd->wl->Prop}{s:wl}{K:wa}{x dx C f:wc}{mA:Str->Option wd}{name:Str}{v:wd}
theorem zBg{expr:Bool}{Q:wd->wl->Prop}(X:K.In s.heap)(I:lz s.heap x dx C mA)(hg:qg K C name=true)(hh:qS K C=true)
  (ha:vn K (.ref C) name=some none) (hv:mA name=some v) (hv':XD v=true) (h:Q v {s with toks:=s.toks+1}) :
  wq (model prog w) A (getAttr (.ref x) name expr) Q E s:=by
 obtain⟨od,J,hl⟩:=I.look;exact PySem.W.get_value X J (Qw hg).1 (PySem.W.findObj_own hh ha rfl (by rw[hl,hv])) hv' h
theorem ZT{pl:Sem Bool}{Q:wd × List wd->wl->Prop}(X:K.In s.heap)(I:lz s.heap x dx C mA)(hg:qg K C name=true)
  (hf:vn K (.ref C) name=some (some (.ref f))) (ht:Vy K (.ref f)=true) (hv:mA name=none) (h:Q (.ref f,[.ref x]) s) :
  wq (model prog w) A (getMethod (.ref x) name pl) Q E s:=by
 obtain⟨od,J,hl⟩:=I.look;exact PySem.W.method_fn X J (Qw hg).1 (Qw hg).2 hf (beq_iff_eq.mp ht) (by show(Qy name od).map (·.isSome)=some false;rw[hl,hv];rfl) h
theorem zzN{ns:List Str}{Q:Unit->wl->Prop}(X:K.In s.heap)(I:lz s.heap x dx C mA)
  (hs:vn K (.ref C) "__setattr__"=some (some (.builtin "object.__setattr__"))) (hp:Q0 K C=true) (ht:xt K C name=some none) (hh:qS K C=true)
  (hw:Xc mA ns) (hsz:ns.length<=wr)
  (h:∀h',lz h' x dx C (λy=>if y=name then some v else mA y)->vW dx s.heap h'->Q () {s with heap:=h',toks:=s.toks+2}) :
  wq (model prog w) A (setAttr (.ref x) name v) Q E s:=by
 obtain⟨od,J,hl⟩:=I.look;refine PySem.W.set_plain X J hs (PySem.W.osa_open (s:={s with toks:=s.toks+1}) (r:=none) X J hp ht λb=>?_);obtain⟨cd,hc,hd'⟩:=PySem.W.any_some hh;have hx:s.heap.get? x=some ⟨.ref C,some dx,.plain,#[]⟩:=I.obj;refine wj (wA (wj (wj (wpAny_loadPart hx (wj (uH (s:={s with toks:=s.toks+1}) (PySem.W.looks_clsIn X hc) ?_))))));rw[hd'];refine wA (a:=some dx) (wj (wA (wj ?_)));refine wpAny_nsSet1 (s:={s with toks:=s.toks+1}) I.ns λh' hn2 hs2=>?_
 obtain⟨oD,esD,epD,hoD,hdD,hcD⟩:=hn2.count (PySem.Within.cons name v hw);refine wj (wpAny_lookBehind hoD (by rw[hdD];exact pastItsLine_dict (w5 hcD (by rw[wQ];lia))) ?_);exact wA (h _ ⟨(hs2.2 _ (WC I.ne)).trans I.obj,hn2,I.ne⟩ hs2)
theorem Lm{R:Result->wl->Prop}{vs:List wd}{kw:List (Str × wd)}(X:K.In s.heap)(hm:xu K C=true)
  (hi:vn K (.ref C) "__init__"=some (some (.ref f))) (hf:PySem.W.typeIn K (.ref f)=some (.type "function"))
  (h:VN (model prog w) (A.under (.builtin "type.__call__" ⟨.ref C::vs,kw⟩)) (.call (.ref f) ⟨.ref (s.heap.objs.size+1)::vs,kw⟩) (PySem.W.InitBack (s.heap.objs.size+1) R)
   {s with heap:=(s.heap.push Wj).push (WM C s.heap.objs.size)}) :
  VN (model prog w) A (.call (.ref C) ⟨vs,kw⟩) R s:=by
 obtain⟨hh,g,d,t,os⟩:=s;exact PySem.W.make_core (PySem.W.makes_of X hm) (Ql X hi) (λself=>PySem.W.bind_fn X self hf) (.inl rfl) h
end
def cy(f:Str)(v:V):List (Str × V)->List (Str × V)
 | []=>[(f,v)]
 | (g,x)::r=>if g=f then(g,v)::r else(g,x)::cy f v r
theorem OS(f g:Str)(v:V):∀fs:List (Str × V),(cy f v fs).lookup g=if g=f then some v else fs.lookup g
 | []=>by
  show qt g [(f,v)]=_
  by_cases h:g=f
  ·have hb:(g == f)=true:=beq_iff_eq.mpr h
   simp only[qt,hb,if_pos h]
  ·have hb:(g == f)=false:=beq_eq_false_iff_ne.mpr h
   simp only[qt,hb,if_neg h]
 | (k,x)::r=>by
  have ih:=OS f g v r;rw[show cy f v ((k,x)::r)=(if k=f then(k,v)::r else(k,x)::cy f v r)from rfl]
  by_cases hk:k=f
  ·rw[if_pos hk]
   by_cases h:g=k
   ·have hb:(g == k)=true:=beq_iff_eq.mpr h
    simp only[qt,hb,if_pos (h.trans hk)]
   ·have hb:(g == k)=false:=beq_eq_false_iff_ne.mpr h
    simp only[qt,hb,if_neg (λe:g=f=>h (e.trans hk.symm))]
  ·rw[if_neg hk]
   by_cases h:g=k
   ·have hb:(g == k)=true:=beq_iff_eq.mpr h
    simp only[qt,hb,if_neg (λe:g=f=>hk (h.symm.trans e))]
   ·have hb:(g == k)=false:=beq_eq_false_iff_ne.mpr h
    simp only[qt,hb];exact ih
theorem ET(f:Str)(v:V):∀fs:List (Str × V),f∈(cy f v fs).map (·.1) /\ ∀g,g∈fs.map (·.1)->g∈(cy f v fs).map (·.1)
 | []=>⟨by simp[cy],λg h=>by simp at h⟩
 | (k,x)::r=>by
  obtain⟨i1,i2⟩:=ET f v r;rw[show cy f v ((k,x)::r)=(if k=f then(k,v)::r else(k,x)::cy f v r)from rfl]
  by_cases hk:k=f
  ·rw[if_pos hk]
   subst hk;exact⟨by simp,λg h=>by simpa using h⟩
  ·rw[if_neg hk]
   refine⟨?_,λg h=>?_⟩
   ·rw[wE]
    exact wx _ i1
   ·rw[wE]at h ⊢
    rcases wz.mp h with e | e
    ·exact wz.mpr (.inl e)
    ·exact wx _ (i2 g e)
theorem MM(f:Str)(v:V):∀fs:List (Str × V),(cy f v fs).length<=fs.length+1
 | []=>by simp[cy]
 | (k,x)::r=>by
  have ih:=MM f v r;rw[show cy f v ((k,x)::r)=(if k=f then(k,v)::r else(k,x)::cy f v r)from rfl]
  by_cases hk:k=f
  ·rw[if_pos hk,wQ,wQ];lia
  ·rw[if_neg hk,wQ,wQ];lia
theorem iK.some_of{v:V}{o:Option wd}(r:iK (some v) o):∃u,o=some u/\aV v u:=by
 cases o with
 | none=>exact(show False from r).elim
 | some u=>exact⟨u,rfl,r⟩
theorem iK.none_of{o:Option wd}(r:iK none o):o=none:=by
 cases o with
 | none=>rfl
 | some u=>exact(show False from r).elim
theorem zv1{v:V}{u:wd}(r:aV v u):XD u=true:=by
 cases v with
 | bh=>cases (show u=Value.none from r);rfl
 | bl b=>cases (show u=Value.bool b from r);rfl
 | int i=>obtain⟨t,e⟩:=(show ∃t,u=Value.int i t from r);cases e;rfl
 | str x=>obtain⟨t,e⟩:=(show ∃t,u=Value.str x t from r);cases e;rfl
 | byt b=>obtain⟨t,e⟩:=(show ∃t,u=Value.bytes b t from r);cases e;rfl
 | flt b=>obtain⟨t,e⟩:=(show ∃t,u=Value.float b t from r);cases e;rfl
 | ref a=>cases (show u=Value.ref a from r);rfl
 | ty n=>cases (show u=Value.type n from r);rfl
section
variable{P:wO}{w:wN}{H H':Hp}{h h':wK}{a C dx:wc}{fs fs':List (Str × V)}
theorem EJ(az:cB P w H h)(e:H a=some (.ins C dx fs)):∃mA,lz h a dx C mA/\(∀f,iK (fs.lookup f) (mA f))/\Xc mA (fs.map (·.1))/\fs.length<=1000/\H dx=some (.own a):=by
 obtain⟨d,z,ne,ob,mA,n,r,q⟩:=(show cM P w H h a (.ins C dx fs)from az a _ e);exact⟨mA,⟨ob,n,ne⟩,r,q,z,d⟩
end
structure fh(K:wa)(C:wc):Prop where
 pg:qg K C Qh=true
 hd:qS K C=true
 po:Q0 K C=true
 sa:vn K (.ref C) "__setattr__"=some (some (.builtin "object.__setattr__"))
theorem fh.get{K:wa}{C:wc}(c:fh K C)(f:Str):qg K C f=true:=c.pg
def fT(K:wa)(C:wc)(f:Str):Prop:=vn K (.ref C) f=some none
theorem fT.YG{K:wa}{C:wc}{f:Str}(n:fT K C f):xt K C f=some none:=by
 unfold xt;rw[show vn K (.ref C) f=some none from n]
 rfl
structure jX(K:wa)(C:wc)(m:Str)(f:wc):Prop where
 at_:vn K (.ref C) m=some (some (.ref f))
 fn:Vy K (.ref f)=true
 kp:Wl K (.ref f)=true
section
variable{X:Cx}{pins:List (wc × Obj)}{σ : St}{H:Hp}{s:wl}{a C dx:wc}{fs:List (Str × V)}{f:Str}{v:V}{A:va}{E:wd->wl->Prop}
theorem ztE{b:Bool}{Q:wd->wl->Prop}(I:Inv X pins σ H s)(e:H a=some (.ins C dx fs))(c:fh X.K C)(n:fT X.K C f)(l:fs.lookup f=some v)
  (h:∀u s',Inv X pins σ H s'->aV v u->Q u s'):wq (model X.prog X.w) A (getAttr (.ref a) f b) Q E s:=by
 obtain⟨mA,O,r,_,_,_⟩:=EJ I.az e;obtain⟨u,hu,ru⟩:=iK.some_of (v:=v) (o:=mA f) (by rw[<- l];exact r f);exact zBg I.bE O (c.get f) c.hd n hu (zv1 ru) (h u _ (I.tok _) ru)
theorem zo{m:Str}{g:wc}{pl:Sem Bool}{Q:wd × List wd->wl->Prop}(I:Inv X pins σ H s)(e:H a=some (.ins C dx fs))(c:fh X.K C)(k:jX X.K C m g)(l:fs.lookup m=none)
  (h:Q (.ref g,[.ref a]) s):wq (model X.prog X.w) A (getMethod (.ref a) m pl) Q E s:=by
 obtain⟨mA,O,r,_,_,_⟩:=EJ I.az e;have hn:mA m=none:=iK.none_of (by rw[<- l];exact r m);exact ZT I.bE O (c.get m) k.at_ k.fn hn h
theorem zt2{y:V}{u:wd}{Q:Unit->wl->Prop}(I:Inv X pins σ H s)(e:H a=some (.ins C dx fs))(c:fh X.K C)(n:fT X.K C f)(hl:fs.length<1000)(ry:aV y u)
  (h:∀s',Inv X pins σ (upd H a (.ins C dx (cy f y fs))) s'->Q () s'):wq (model X.prog X.w) A (setAttr (.ref a) f u) Q E s:=by
 obtain⟨mA,O,r,wi,_,ho⟩:=EJ I.az e;have hz:(fs.map (·.1)).length<=wr:=by rw[we,qu];lia
 refine zzN I.bE O c.sa c.po n.YG c.hd wi hz λh' O' sb=>h _ ?_
 have hd:∃o,h'.get? dx=some o:=let ⟨o,_,_,e',_⟩:=O'.ns;⟨o,e'⟩
 refine I.write (x:=a) (e:=dx) (by rw[e];exact True.intro) (.inr ho) (λb q hb z=>(sb.2 b hb).trans z) hd ?_;refine⟨by rw[bV O.ne];exact ho,?_,O.ne,O'.obj,_,O'.ns,λg=>?_,λg hg=>?_⟩
 ·have:=MM f y fs;lia
 ·show iK ((cy f y fs).lookup g) (if g=f then some u else mA g)
  rw[OS]
  by_cases q:g=f
  ·rw[if_pos q,if_pos q];exact ry
  ·rw[if_neg q,if_neg q];exact r g
 ·by_cases q:g=f
  ·rw[q];exact(ET f y fs).1
  ·refine(ET f y fs).2 g (wi g λz=>hg ?_)
   show(if g=f then some u else mA g)=none
   rw[if_neg q];exact z
theorem Inv.made(I:Inv X pins σ H s):Inv X pins σ (upd (upd H s.heap.objs.size (.own (s.heap.objs.size+1))) (s.heap.objs.size+1) (.ins C s.heap.objs.size []))
  {s with heap:=(s.heap.push Wj).push (WM C s.heap.objs.size)}:=by
 have e1:(s.heap.push Wj).get? s.heap.objs.size=some Wj:=wL s.heap rfl
 have e2:((s.heap.push Wj).push (WM C s.heap.objs.size)).get? (s.heap.objs.size+1)=some (WM C s.heap.objs.size):=by
  have:=wL (s.heap.push Wj) (o:=WM C s.heap.objs.size) rfl
  rwa[WV]at this
 have e3:(s.heap.push Wj).Ns s.heap.objs.size (λ_=>none):=⟨Wj,#[],_,e1,rfl,(λe he=>absurd he (by simp)),λ_=>rfl⟩;have I1:=I.laid (a:=s.heap.objs.size) (o:=.own (s.heap.objs.size+1)) (h':=s.heap.push Wj) (t':=s.toks) (λb u q=>wn _ q) (wo _) ⟨_,e1⟩;refine I1.laid (a:=s.heap.objs.size+1) (o:=.ins C s.heap.objs.size []) (t':=s.toks) (λb u q=>wn _ q) (Nat.le_of_eq (WV _ _)) ?_;have ne:s.heap.objs.size≠s.heap.objs.size+1:=wS (Q8 _);refine⟨by rw[bV ne,bW],Vu _,ne,e2,λ_=>none,(Heap.Ns1.of_empty e3).at λo q=>wn _ q,λ_=>True.intro,λy hy=>absurd rfl hy⟩
theorem zAC{prog:wO}{w:wN}{env:Env}{e:Expr}{pos:Pos}{Q:wd->wl->Prop}(hb:attributeBase e f env (eval e env)=eval e env)
  (h:wq (model prog w) A (eval e env) (λo s₁=>wq (model prog w) A (getAttr o f true) Q E s₁) E s):wq (model prog w) A (eval (.Attribute e f pos) env) Q E s :=
 Attribute_any_ h (by rw[arm_eval_Attribute,hb])
end
def LS(K:wa)(ta:TE)(f:Str):TE:=λσ H Q=>ta σ H λx H1=>∃a C dx fs v,x=.ref a/\H1 a=some (.ins C dx fs)/\fh K C/\fT K C f/\fs.lookup f=some v/\Q v H1
def Ly(K:wa)(ta tv:TE)(f:Str):TS:=λD σ H=>tv σ H λy H1=>ta σ H1 λx H2=>∃a C dx fs,x=.ref a/\H2 a=some (.ins C dx fs)/\fh K C/\fT K C f/\fs.length<1000 /\
 D.nx σ (upd H2 a (.ins C dx (cy f y fs)))
section
variable{X:Cx}{o e value:Expr}{f:Str}{pos pos' tpos:Pos}{ta tv:TE}
theorem hZ(he:PE X e ta)(hb:attributeBase e f X.env (eval e X.env)=eval e X.env):PE X (.Attribute e f pos) (LS X.K ta f):=by
 intro pins s σ H Q I h;refine zAC hb (au (he pins s σ H _ I h) λu s1 ⟨x,H1,I1,rx,a,C,dx,fs,v,ex,ea,c,n,l,q⟩=>?_);subst ex;obtain rfl:u=Value.ref a:=rx;exact ztE I1 ea c n l λu' s2 I2 ru=>⟨v,H1,I2,ru,q⟩
theorem lX(ha:PE X o ta)(hv:PE X value tv)(hs:swapsWith value (some (.Attribute o f pos')) pos.line X.env=pure false):PS X (.Assign [.Attribute o f pos'] value pos) (Ly X.K ta tv f):=by
 intro pins s σ H D I h;refine plainObj_wpAny_Assign_Attribute (au (hv pins s σ H _ I h) λu s1 ⟨y,H1,I1,ry,q⟩=>au (ha pins s1 σ H1 _ I1 q) λov s2 ⟨x,H2,I2,rx,a,C,dx,fs,ex,ea,c,n,l,q2⟩=>?_) hs;subst ex;obtain rfl:ov=Value.ref a:=rx;exact zt2 I2 ea c n l ry λs3 I3=>⟨σ,_,I3,q2⟩
end
section
variable{X:Cx}{pins:List (wc × Obj)}{σ : St}{H:Hp}{s:wl}{A:va}{E:wd->wl->Prop}{Q:wd->wl->Prop}{c:wd}{b:Bool}
end
variable{k:Nat}
structure bP(k:Nat)(A:va):Prop where
 hd:A.handled=none
 dp:A.depth+3*k+5<recursionLimit
 un:A.units+16*k+200<cLine
 gd:A.guards=some []
theorem bP.mono{j:Nat}{A:va}(r:bP k A)(h:j<=k):bP j A:=⟨r.hd,by have:=r.dp;lia,by have:=r.un;lia,by first | exact r.gd | (simp[qJ,Xy,Q9,guardIds];exact r.gd)⟩
theorem bP.deeper{A:va}(r:bP (k+1) A)(env:Env):bP k (A.deeper env) :=
 ⟨r.hd,by have:=r.dp;show A.depth+1+3*k+5<_;lia,by have:=r.un;show A.units+3+16*k+200<_;lia,by first | exact r.gd | (simp[qJ,Xy,Q9,guardIds];exact r.gd)⟩
theorem ztU{A:va}{C:wc}{us:List wd}{kw:List (Str × wd)} : (A.under (.builtin "type.__call__" ⟨.ref C::us,kw⟩)).depth=A.depth+1:=by
 first | rfl | simp[qJ,Code.weight,Code.isCreation,Q9,Code.isCaller,Code.frames,Xd,guardIds]
theorem zux{A:va}{C:wc}{us:List wd}{kw:List (Str × wd)} : (A.under (.builtin "type.__call__" ⟨.ref C::us,kw⟩)).units=A.units+1:=by
 first | rfl | simp[qJ,Code.cUnits,Code.frames,Xd]
theorem bP.make{A:va}(r:bP (k+1) A)(C:wc)(us:List wd)(kw:List (Str × wd)):bP k (A.under (.builtin "type.__call__" ⟨.ref C::us,kw⟩)) :=
 ⟨r.hd,by have:=r.dp;rw[ztU];lia,by have:=r.un;rw[zux];lia,by first | exact r.gd | (simp[qJ,Xy,Q9,guardIds];exact r.gd)⟩
theorem bP.depth{A:va}(r:bP k A):A.depth<recursionLimit:=by have:=r.dp;lia
theorem bP.units{A:va}(r:bP k A):A.units+64<cLine:=by have:=r.un;lia
def eI:TA:=λ_ H Q=>Q [] H
def dj(ta:TE)(tr:TA):TA:=λσ H Q=>ta σ H λx H1=>tr σ H1 λxs H2=>Q (x::xs) H2
section
variable{X:Cx}{e:Expr}{es:List Expr}{te:TE}{t:TA}{pos:Pos}
theorem af:PA X [] eI:=λ_ _ _ _ H Q I h=>Q1 ⟨[],H,I,.nil,h⟩
theorem aa(ha:PE X e te)(hr:PA X es t)(hs:wC (e::es) X.env=(false,eval e X.env)::wC es X.env:=by rfl):PA X (e::es) (dj te t):=by
 intro pos pins s σ H Q I h;rw[hs]
 show wq _ _ (spliced ((false,eval e X.env)::Wh pos (wC es X.env))) _ _ s
 refine VQ (au (ha pins s σ H _ I h) λu s1 ⟨x,H1,I1,r1,q1⟩=>?_);exact au (hr pos pins s1 σ H1 _ I1 q1) λus s2 ⟨xs,H2,I2,r2,q2⟩=>⟨x::xs,H2,I2,.cons r1 r2,q2⟩
def zEK(t:TA):TE:=λσ H Q=>t σ H λxs H1=>xs.length<=wr /\ ∀p,H1 p=none->Q (.ref p) (upd H1 p (.tup xs))
def zER(t:TA):TE:=λσ H Q=>t σ H λxs H1=>xs.length<=wr /\ ∀p,H1 p=none->Q (.ref p) (upd H1 p (.lst xs))
theorem zBZ{x1}(h:PA X es t):PE X (.Tuple es x1 pos) (zEK t):=by
 intro pins s σ H Q I hq;refine wpAny_Tuple_spliced (au (h pos pins s σ H _ I hq) λus s1 ⟨xs,H1,I1,r,z,q⟩=>⟨by rw[<- r.length];exact z,?_⟩);have hf:H1 s1.heap.objs.size=none:=I1.az.fresh (wo _);refine⟨.ref s1.heap.objs.size,upd H1 s1.heap.objs.size (.tup xs),I1.laid (t':=s1.toks) (λb u e=>wn _ e) (wo _) ?_,rfl,q _ hf⟩;exact⟨z,us,r,⟨_,wL _ rfl,rfl,_,rfl⟩⟩
theorem zC0(h:PA X es t):PE X (.List es pos) (zER t):=by
 intro pins s σ H Q I hq;refine wpAny_List_spliced (au (h pos pins s σ H _ I hq) λus s1 ⟨xs,H1,I1,r,z,q⟩=>⟨by rw[<- r.length];exact z,?_⟩);have hf:H1 s1.heap.objs.size=none:=I1.az.fresh (wo _);refine⟨.ref s1.heap.objs.size,upd H1 s1.heap.objs.size (.lst xs),I1.laid (t':=s1.toks) (λb u e=>wn _ e) (wo _) ?_,rfl,q _ hf⟩;exact⟨z,us,0,r,wL _ rfl⟩
end
abbrev Sp:=List V->Hp->VK->XK->Prop
abbrev dI:=List Env->Hp->wl->XK->wd->wl->Prop
structure kG(P:wO)(w:wN)(K:wa)(mg:Str->Option wd)(base:wK)(A:va)(outer:List Env)(s:wl)(H:Hp):Prop where
 frames:A.frames=some outer
 mod:Mod K mg base
 bs:∀b o,base.get? b=some o->s.heap.get? b=some o/\H b=none
 gC:base.objs.size<=s.heap.objs.size
 dC:s.heap.FunFrames base outer
 gP:∀b∈bN outer,H b=none
 az:cB P w H s.heap
 bare:VL s.gens
def CE(outer:List Env)(P:wO)(w:wN)(H:Hp)(s:wl)(Q:VK)(u:wd)(s':wl):Prop :=
 ∃v H',s'.os=s.os/\VL s'.gens/\Un (bN outer) [] H H' s.heap s'.heap/\cB P w H' s'.heap/\aV v u/\Q v H'
def CR(CX:dI)(outer:List Env)(P:wO)(w:wN)(H:Hp)(s:wl)(Q:VK)(E:XK)(r:Result)(s':wl):Prop :=
 match r with
 | .ok (.ret u)=>CE outer P w H s Q u s'
 | .ok _=>False
 | .error e=>CX outer H s E e s'
structure aC(P:wO)(w:wN)(K:wa)(mg:Str->Option wd)(base:wK)(CX:dI)(k:Nat)(f:wc)(fd:wt)(ps:List Str)(sp:Sp):Prop where
 len:∀vs H Q E,sp vs H Q E->vs.length=ps.length
 run:∀(A:va)(outer:List Env)(s:wl)(H:Hp)(args:Args)(us:List wd)(vs:List V)(Q:VK)(E:XK),bP k A->kG P w K mg base A outer s H->BindsTo s fd args (ps.zip us)->aE vs us->sp vs H Q E ->
   VN (model P w) A (.call (.ref f) args) (CR CX outer P w H s Q E) s
theorem kG.make{P:wO}{w:wN}{K:wa}{mg:Str->Option wd}{base:wK}{A:va}{outer:List Env}{s:wl}{H:Hp}(e:kG P w K mg base A outer s H)(C:wc)(us:List wd)(kw:List (Str × wd)) :
  kG P w K mg base (A.under (.builtin "type.__call__" ⟨.ref C::us,kw⟩)) outer s H:=⟨by first | exact e.frames | (simpa [qJ,Code.envs,Xd,pushEnvs] using e.frames),e.mod,e.bs,e.gC,e.dC,e.gP,e.az,e.bare⟩
section
variable{X:Cx}{pins:List (wc × Obj)}{σ : St}{H:Hp}{s s':wl}
theorem Inv.oA(I:Inv X pins σ H s):kG X.prog X.w X.K X.mg X.base X.A X.stack s H :=
 ⟨I.ok.frames,I.ok.mod,I.bs,w5 I.ok.gC I.sz,I.stack,I.oy,I.az,I.bare⟩
theorem Inv.after{Q:VK}{u:wd}(I:Inv X pins σ H s)(h:CE X.stack X.prog X.w H s Q u s'):EP X pins σ Q u s':=by
 obtain⟨v,H',os,bare,un,az,r,q⟩:=h;obtain⟨hh,g,d,t,os'⟩:=s';obtain rfl:os'=s.os:=os;exact⟨v,H',I.call (h':=hh) (g':=g) (d':=d) (t':=t) (ch:=[]) un az bare (λb z=>absurd z (by simp)),r,q⟩
end
def oH(sp:Sp)(dvs:List V)(E:XK)(t:TA):TE:=λσ H Q=>t σ H λvs H1=>sp (vs++dvs) H1 Q E
def sJ(C:wc)(m:Str)(sp:Sp)(dvs:List V)(E:XK)(ta:TE)(t:TA):TE:=λσ H Q=>ta σ H λx H1=>∃a dx fs,x=.ref a/\H1 a=some (.ins C dx fs)/\fs.lookup m=none /\
 t σ H1 λvs H2=>sp (x::(vs++dvs)) H2 Q E
def TB(C:wc)(sp:Sp)(dvs:List V)(E:XK)(t:TA):TE:=λσ H Q=>t σ H λvs H1=>∀x dx,H1 x=none->H1 dx=none->dx≠x ->
 sp (.ref x::(vs++dvs)) (upd (upd H1 dx (.own x)) x (.ins C dx [])) (λv H2=>v=.bh/\Q (.ref x) H2) E
def dN(K:wa)(fd:wt)(ps:List Str)(ds:List wd):Prop :=
 ∀(s:wl)(us:List wd),K.In s.heap->(us++ds).length=ps.length->BindsTo s fd ⟨us,[]⟩ (ps.zip (us++ds))
theorem dN.all{K:wa}{fd:wt}{ps:List Str}(h:∀us:List wd,us.length=ps.length->bindArgs fd ⟨us,[]⟩=pure (ps.zip us)):dN K fd ps []:=λs us _ hl=>by
 rw[vS]at hl ⊢;exact .of_eq (h us hl)
def d_(CX:dI)(X:Cx)(E:XK):Prop:=∀(pins:List (wc × Obj))(σ : St)(H:Hp)(s:wl)(e:wd)(s':wl),Inv X pins σ H s->CX X.stack H s E e s'->X.xe e s'
section
variable{X:Cx}{CX:dI}{k:Nat}{f C:wc}{fd:wt}{ps:List Str}{sp:Sp}{dvs:List V}{ds:List wd}{E:XK}{x m:Str}{p pos apos:Pos}{e o:Expr}{es:List Expr}{ta:TE}{t:TA}
theorem oB{pins:List (wc × Obj)}{σ : St}{H:Hp}{s:wl}{Q:VK}{us:List wd}{vs:List V}(F:aC X.prog X.w X.K X.mg X.base CX k f fd ps sp)(hr:bP k X.A)(hb:dN X.K fd ps ds)(hd:aE dvs ds)(hx:d_ CX X E)
  (I:Inv X pins σ H s) (r:aE vs us) (h:sp (vs++dvs) H Q E):wq (model X.prog X.w) X.A (call (.ref f) us) (EP X pins σ Q) X.xe s:=by
 have r2:aE (vs++dvs) (us++ds):=r.append hd;have hl:(us++ds).length=ps.length:=by rw[<- r2.length];exact F.len _ _ _ _ h
 refine wpAny_call (qc (F.run X.A X.stack s H ⟨us,[]⟩ (us++ds) (vs++dvs) Q E hr I.oA (hb s us I.bE hl) r2 h) λr s' hq=>?_);cases r with
 | error e=>exact hx pins σ H s e s' I hq
 | ok fl =>
  cases fl with
  | ret u=>exact I.after hq
  | next=>exact vN hq
  | brk=>exact vN hq
  | cont=>exact vN hq
theorem Tj(F:aC X.prog X.w X.K X.mg X.base CX k f fd ps sp)(hr:bP k X.A)(hg:Gl X x)(hm:X.mg x=some (.ref f))(hk:Wl X.K (.ref f)=true)(hb:dN X.K fd ps ds)(hd:aE dvs ds)(hx:d_ CX X E)
  (ha:PA X (e::es) t) (hdb:(x == ("__debug__" : Str))=false:=by decide) (he:wC (e::es) X.env=(false,eval e X.env)::wC es X.env:=by rfl) (hpl:(Wh pos (wC es X.env)).any (·.1)=false:=by rfl) :
  PE X (.Call (.Name x p) (e::es) [] pos) (oH sp dvs E t):=by
 intro pins s σ H Q I h;refine VZ (nH I hg hm ?_ hdb);refine WG (h₀:=X.base) I.ok.mod.fK hk (au (ha pos pins s σ H _ I h) λus s1 ⟨vs,H1,I1,r,q⟩=>⟨I1.bE,?_⟩) he hpl;exact oB F hr hb hd hx I1 r q
theorem jM{pl:Sem Bool}(he:PE X o ta)(c:fh X.K C)(hm:jX X.K C m f)(F:aC X.prog X.w X.K X.mg X.base CX k f fd ps sp)(hr:bP k X.A)(hb:dN X.K fd ps ds)(hd:aE dvs ds)(hx:d_ CX X E)(ha:PA X (e::es) t)
  (hst:wC (e::es) X.env=(false,eval e X.env)::wC es X.env:=by rfl) (hpl:(Wh pos (wC es X.env)).any (·.1)=false:=by rfl)
  (ht:eval (.Call (.Attribute o m apos) (e::es) [] pos) X.env=(do
   let ov <- eval o X.env
   standAt apos.atName
   let (f,fst0) <- holding [ov] (getMethod ov m pl)
   callWith pos f fst0 (Wh pos (wC (e::es) X.env)) (backToKw pos (qw [] X.env))):=by rfl) :
  PE X (.Call (.Attribute o m apos) (e::es) [] pos) (sJ C m sp dvs E ta t):=by
 intro pins s σ H Q I h;refine V5 (pl:=pl) (au (he pins s σ H _ I h) λu s1 ⟨x,H1,I1,rx,a,dx,fs,ex,ea,l,q⟩=>?_) ht;subst ex;obtain rfl:u=Value.ref a:=rx;refine zo I1 ea c hm l ?_;refine WG (first:=[.ref a]) (h₀:=X.base) I.ok.mod.fK hm.kp (au (ha pos pins s1 σ H1 _ I1 q) λus s2 ⟨vs,H2,I2,r,q2⟩=>⟨I2.bE,?_⟩) hst hpl;exact oB (us:=.ref a::us) (vs:=.ref a::vs) F hr hb hd hx I2 (.cons rfl r) q2
theorem zxR{pl:Sem Bool}(he:PE X o ta)(c:fh X.K C)(hm:jX X.K C m f)(F:aC X.prog X.w X.K X.mg X.base CX k f fd ps sp)(hr:bP k X.A)(hb:dN X.K fd ps ds)(hd:aE dvs ds)(hx:d_ CX X E)
  (ht:eval (.Call (.Attribute o m apos) [] [] pos) X.env=(do
   let ov <- eval o X.env
   standAt apos.atName
   let (f,fst0) <- holding [ov] (getMethod ov m pl)
   callWith pos f fst0 (Wh pos (wC [] X.env)) (backToKw pos (qw [] X.env))):=by rfl) :
  PE X (.Call (.Attribute o m apos) [] [] pos) (sJ C m sp dvs E ta eI):=by
 intro pins s σ H Q I h;refine V5 (pl:=pl) (au (he pins s σ H _ I h) λu s1 ⟨x,H1,I1,rx,a,dx,fs,ex,ea,l,q⟩=>?_) ht;subst ex;obtain rfl:u=Value.ref a:=rx;refine zo I1 ea c hm l ?_;exact PySem.W.callWith_K0 (first:=[.ref a]) I1.bE hm.kp (oB (us:=[.ref a]) (vs:=[.ref a]) F hr hb hd hx I1 (.cons rfl .nil) q)
structure Mk(K:wa)(C f:wc):Prop where
 makes:xu K C=true
 init:vn K (.ref C) "__init__"=some (some (.ref f))
 fn:Vy K (.ref f)=true
 kp:Wl K (.ref C)=true
theorem zxr{pins:List (wc × Obj)}{σ : St}{H:Hp}{s:wl}{Q:VK}{us:List wd}{vs:List V}(M:Mk X.K C f)(F:aC X.prog X.w X.K X.mg X.base CX k f fd ps sp)(hr:bP (k+1) X.A)(hb:dN X.K fd ps ds)(hd:aE dvs ds)
  (hx:d_ CX X E) (I:Inv X pins σ H s) (r:aE vs us)
  (h:∀x dx,H x=none->H dx=none->dx≠x->sp (.ref x::(vs++dvs)) (upd (upd H dx (.own x)) x (.ins C dx [])) (λv H2=>v=.bh/\Q (.ref x) H2) E) :
  wq (model X.prog X.w) X.A (call (.ref C) us) (EP X pins σ Q) X.xe s:=by
 have hq:=h (s.heap.objs.size+1) s.heap.objs.size (I.az.fresh (QF _)) (I.az.fresh (wo _)) (wS (Q8 _));have I2:=Inv.made (C:=C) I;have r2:aE (V.ref (s.heap.objs.size+1)::(vs++dvs)) (Value.ref (s.heap.objs.size+1)::(us++ds)):=.cons rfl (r.append hd)
 have hl:(Value.ref (s.heap.objs.size+1)::us++ds).length=ps.length:=by
  have e:=r2.length;rw[F.len _ _ _ _ hq]at e;exact e.symm
 refine wpAny_call (Lm (f:=f) I.bE M.makes M.init (beq_iff_eq.mp M.fn) (qc (F.run _ X.stack _ _ ⟨Value.ref (s.heap.objs.size+1)::us,[]⟩ (Value.ref (s.heap.objs.size+1)::(us++ds)) _ _ E (hr.make C us [])
  (I2.oA.make C us []) (hb _ (Value.ref (s.heap.objs.size+1)::us) I2.bE hl) r2 hq) λr s' hq'=>?_))
 cases r with
 | error e=>exact hx pins σ _ _ e s' I2 hq'
 | ok fl =>
  cases fl with
  | ret u =>
   obtain⟨v,H',I3,rv,ev,q3⟩:=I2.after hq';subst ev;exact⟨rv,⟨V.ref (s.heap.objs.size+1),H',I3,rfl,q3⟩⟩
  | next=>exact vN hq'
  | brk=>exact vN hq'
  | cont=>exact vN hq'
theorem zzD(M:Mk X.K C f)(F:aC X.prog X.w X.K X.mg X.base CX k f fd ps sp)(hr:bP (k+1) X.A)(hg:Gl X x)(hm:X.mg x=some (.ref C))(hb:dN X.K fd ps ds)(hd:aE dvs ds)(hx:d_ CX X E)
  (ha:PA X (e::es) t) (hdb:(x == ("__debug__" : Str))=false:=by decide) (he:wC (e::es) X.env=(false,eval e X.env)::wC es X.env:=by rfl) (hpl:(Wh pos (wC es X.env)).any (·.1)=false:=by rfl) :
  PE X (.Call (.Name x p) (e::es) [] pos) (TB C sp dvs E t):=by
 intro pins s σ H Q I h;refine VZ (nH I hg hm ?_ hdb);refine WG (h₀:=X.base) I.ok.mod.fK M.kp (au (ha pos pins s σ H _ I h) λus s1 ⟨vs,H1,I1,r,q⟩=>⟨I1.bE,?_⟩) he hpl;exact zxr M F hr hb hd hx I1 r q
end
section
variable{X:Cx}{CX:dI}{k:Nat}{f C:wc}{fd:wt}{ps ks:List Str}{sp:Sp}{E:XK}{x m:Str}{p pos apos kpos:Pos}{e o:Expr}{es:List Expr}{kws:List Keyword}{te ta:TE}{t tk:TA}{nm:Option Str}
variable{g:List wd->List wd->List wd}{gV:List V->List V->List V}
end
variable{base:wK}{qual:Str}
structure aH(N P:List Str)(sc:Scope):Prop where
 kind:sc.kind=.function
 co:sc.isCoroutine=false
 gen:sc.isGenerator=false
 nd:N.Nodup
 pre:N.take P.length=P
 par:∀x∈P,sc.names.lookup x=some .local\/sc.names.lookup x=some .cell
 YD:∀y∈sc.names,y.2≠.free
theorem MB{kindOf:Str->Option WU}{x:Str} : ∀{binds:List (Str × wd)}{m:Str->Option wd},(∀v,(x,v) ∉ binds)->bindL kindOf binds m x=m x
 | [],_,_=>rfl
 | (n,v)::r,m,h=>by
  unfold bindL;rw[MB λw hw=>h w (wx _ hw)]
  split
  ·have:x≠n:=by rintro rfl;exact h v wV
   simp[this]
  ·rfl
theorem SS{kindOf:Str->Option WU}{x:Str} : ∀{binds:List (Str × wd)}{m:Str->Option wd},(∀v,(x,v) ∉ binds)->bindC kindOf binds m x=m x
 | [],_,_=>rfl
 | (n,v)::r,m,h=>by
  unfold bindC;rw[SS λw hw=>h w (wx _ hw)]
  split
  ·rfl
  ·have:x≠n:=by rintro rfl;exact h v wV
   simp[this]
theorem L_{kindOf:Str->Option WU}{x:Str}{v:wd} : ∀{P:List Str}{vs:List wd}{i:Nat}{m:Str->Option wd},P.Nodup->P[i]? = some x->vs[i]? = some v->kindOf x=some .local ->
  bindL kindOf (P.zip vs) m x=some v
 | [],_,_,_,_,h,_,_=>by simp at h
 | _::_,[],_,_,_,_,h,_=>by simp at h
 | p::P,w::vs,0,m,nd,h1,h2,hk=>by
  simp at h1 h2;subst h1;subst h2
  show bindL kindOf ((p,w)::P.zip vs) m p=_
  unfold bindL;rw[MB λv hv=>(qB.mp nd).1 (Qm hv).1,if_pos hk];simp
 | p::P,w::vs,i+1,m,nd,h1,h2,hk=>by
  show bindL kindOf ((p,w)::P.zip vs) m x=_
  unfold bindL;exact L_ (i:=i) (qB.mp nd).2 (by simpa using h1) (by simpa using h2) hk
theorem RF{kindOf:Str->Option WU}{x:Str}{v:wd} : ∀{P:List Str}{vs:List wd}{i:Nat}{m:Str->Option wd},P.Nodup->P[i]? = some x->vs[i]? = some v->kindOf x≠some .local ->
  bindC kindOf (P.zip vs) m x=some v
 | [],_,_,_,_,h,_,_=>by simp at h
 | _::_,[],_,_,_,_,h,_=>by simp at h
 | p::P,w::vs,0,m,nd,h1,h2,hk=>by
  simp at h1 h2;subst h1;subst h2
  show bindC kindOf ((p,w)::P.zip vs) m p=_
  unfold bindC;rw[SS λv hv=>(qB.mp nd).1 (Qm hv).1,if_neg hk];simp
 | p::P,w::vs,i+1,m,nd,h1,h2,hk=>by
  show bindC kindOf ((p,w)::P.zip vs) m x=_
  unfold bindC;exact RF (i:=i) (qB.mp nd).2 (by simpa using h1) (by simpa using h2) hk
def start(N:List Str)(vs:List V):St:=vs.map some++ve (N.length-vs.length) none
def fb(CX:dI)(P:wO)(w:wN)(K:wa)(mg:Str->Option wd)(base:wK)(N:List Str)(qual:Str)(scope:Scope)(f:wc)(cd:wd)(A:va)(outer:List Env)(s:wl)(H:Hp)(E:XK):Cx where
 prog:=P
 w:=w
 K:=K
 mg:=mg
 base:=base
 A:=A.deeper (envOfC qual scope s.heap.objs.size f cd)
 N:=N
 s₀:=s
 H₀:=H
 env:=envOfC qual scope s.heap.objs.size f cd
 outer:=outer
 stack:=envOfC qual scope s.heap.objs.size f cd::outer
 ex:=[]
 calm:=true
 fn:=λ_=>true
 pn:=[]
 xe:=λe s'=>wq (model P w) (A.deeper (envOfC qual scope s.heap.objs.size f cd)) (leaving (envOfC qual scope s.heap.objs.size f cd) e) (λ_ s''=>CX outer H s E e s'') (λe' s''=>CX outer H s E e' s'') s'
theorem yw{sc:Scope}{n:Nat}{x:Str}(h:sc.names.lookup x=some .cell):∃c,(cellsFrom n sc.names []).lookup x=some c:=by
 have q:=qZ sc.names n [] (.inl h);exact Vz.mp q
theorem SV{CX:dI}{P:wO}{w:wN}{K:wa}{mg:Str->Option wd}{N ps:List Str}{scope:Scope}{f:wc}{cd:wd}{A:va}{outer:List Env}{s s1:wl}{H:Hp}{E:XK}{us:List wd}{vs:List V}
  (S:aH N ps scope) (hd:A.handled=none) (e0:kG P w K mg base A outer s H) (hl:vs.length=ps.length) (r:aE vs us)
  (x:InCallC s s.heap.objs.size (bindL (envOfC qual scope s.heap.objs.size f cd).kindOf (ps.zip us) λ_=>none) (cellsFrom (s.heap.objs.size+1) scope.names []) (bindC (envOfC qual scope s.heap.objs.size f cd).kindOf (ps.zip us) λ_=>none) s1) :
  Inv (fb CX P w K mg base N qual scope f cd A outer s H E) [] (start N vs) H s1:=by
 have hpl:ps.length<=N.length:=by have:=congrArg List.length S.pre;rw[WH]at this;lia
 obtain⟨h1,tk,rfl,hk⟩:=x.done;have noA:∀b:wc,b ∉ (fb CX P w K mg base N qual scope f cd A outer s H E).ex:=λb z=>absurd (show b∈([]:List wc)from z) (by simp)
 refine⟨⟨e0.mod,S.kind,rfl,rfl,wo _,λy z c h1 h2=>?_,λy hy=>?_,λy c _ h=>?_,λ_=>hd,Around.frames_deeper e0.frames,.inr ⟨rfl,rfl⟩,λb z=>absurd z (noA b),e0.bs,e0.gC,λb _ _=>noA b,λb z=>absurd z (noA b),e0.dC,e0.gP⟩,
  rfl,e0.bare,Un.kept hk,⟨_,x.toInCall.ns,λi y v h1 h2 h3=>?_⟩,λy c h=>⟨_,x.cell y c h⟩,e0.az.fresh (wo _),λy c h=>?_,λp hp=>absurd (show p∈([]:List (wc × Obj))from hp) (by simp),e0.az.kept hk,?_⟩
 ·exact name_of_addr x.apart (W5 h1) (W5 h2)
 ·have hy:scope.names.lookup y=some .cell\/scope.names.lookup y=some .free:=hy
  rcases hy with hy | hy
  ·exact yw hy
  ·exact absurd rfl (S.YD _ (W5 hy))
 ·exact qH (x.above y c (W5 h))
 ·have hi:i<vs.length:=by
   unfold start at h2
   by_cases hi:i<vs.length
   ·exact hi
   ·rw[WR (by simpa using hi)]at h2
    rw[List.getElem?_replicate]at h2
    split at h2<;>cases h2
  have ha:vs[i]? = some v:=by
   unfold start at h2;rw[Ww (by simpa using hi),wG]at h2;cases e:vs[i]? with
   | none=>rw[e]at h2;cases h2
   | some a=>rw[e]at h2;cases h2;rfl
  obtain⟨u,hu,rv⟩:=r.get ha
  have hp:ps[i]? = some y:=by
   rw[<- S.pre,List.getElem?_take_of_lt (by lia)];exact h1
  have ndP:ps.Nodup:=by rw[<- S.pre];exact S.nd.sublist (Xm _ _)
  refine⟨u,rv,?_⟩;rcases S.par y (vx hp)with k | k
  ·exact .inl ⟨k,L_ ndP hp hu k⟩
  ·obtain⟨c,e⟩:=yw (n:=s.heap.objs.size+1) k
   refine .inr ⟨.inl k,c,e,?_⟩;have q:=x.cell y c e;rw[RF ndP hp hu (by show scope.names.lookup y≠_;rw[k];decide)]at q;exact q
 ·exact e0.az.fresh (qH (x.above y c (W5 h)))
 ·unfold start
  show _=N.length
  rw[vc,we,List.length_replicate]
  lia
theorem Mi{CX:dI}{P:wO}{w:wN}{K:wa}{mg:Str->Option wd}{k:Nat}{f:wc}{name:Str}{params:Arguments}{body:List wJ}{scope:Scope}{dV kV doc pm cdv ct oc:wd}{an od:Option wc}
  {osl:Array (Option wd)} {N ps:List Str} {sp:Sp} (lk:K.lookup f=some ⟨oc,od,.func (WI name qual params body scope dV kV doc pm an cdv ct),osl⟩) (hcd:V6 K cdv qual=true) (S:aH N ps scope)
  (len:∀vs H Q E,sp vs H Q E->vs.length=ps.length)
  (hbody:∀(A:va)(outer:List Env)(s:wl)(H:Hp)(vs:List V)(Q:VK)(E:XK),bP k (A.deeper (envOfC qual scope s.heap.objs.size f cdv))->sp vs H Q E ->
   ∃t,dG (fb CX P w K mg base N qual scope f cdv A outer s H E) body t/\t {nx:=λ_ H'=>Q .bh H',rt:=Q} (start N vs) H) :
  aC P w K mg base CX (k+1) f (WI name qual params body scope dV kV doc pm an cdv ct) ps sp:=by
 refine⟨len,λA outer s H args us vs Q E hr e0 hb r hsp=>?_⟩;have hl:=len _ _ _ _ hsp;have KX:K.In s.heap:=e0.mod.fK.keeps λb o e=>(e0.bs b o e).1
 have lim:s.heap.NoLimit:=e0.mod.nolimit.keeps λb o e=>(e0.bs b o e).1
 have hkind:∀y∈ps.zip us,scope.names.lookup y.1=some .local\/(scope.names.lookup y.1=some .cell/\((cellsFrom (s.heap.objs.size+1) scope.names []).lookup y.1).isSome=true):=λ⟨n,v⟩ hy=>by
  rcases S.par n (Qm hy).1 with q | q
  ·exact .inl q
  ·exact .inr ⟨q,qZ _ _ _ (.inl q)⟩
 refine codeAny_call_function hr.depth (KX _ _ lk) rfl S.co S.gen rfl (Xe KX hcd) (hb _ _ _ _ ?_);refine wpAny_newFunctionEnv_cells S.kind hkind λenv he s1 x=>?_
 subst he;refine⟨lim.keeps x.toInCall.keep,codeAny_func ?_⟩;obtain⟨t,ht,hq⟩:=hbody A outer s H vs Q E (hr.deeper _) hsp;have I:Inv (fb CX P w K mg base N qual scope f cdv A outer s H E) [] (start N vs) H s1:=SV S hr.hd e0 hl r x;refine vH (ht [] s1 (start N vs) H _ I hq) (λfl s' hs=>?_) λe s' hs=>hs
 have fin:∀{σ':St}{H':Hp}{v:V}{u:wd},Inv (fb CX P w K mg base N qual scope f cdv A outer s H E) [] σ' H' s'->aV v u->Q v H'->CE outer P w H s Q u s' :=
  λ{σ' H' v u} J rv q=>⟨v,H',J.os,J.bare,J.base,J.az,rv,q⟩
 cases fl with
 | ret u =>
  obtain⟨v,σ',H',J,rv,q⟩:=hs;exact fin J rv q
 | next =>
  obtain⟨σ',H',J,q⟩:=hs;exact fin (v:=V.bh) (u:=Value.none) J rfl q
 | brk =>
  obtain⟨_,_,_,q⟩:=hs;exact vN q
 | cont =>
  obtain⟨_,_,_,q⟩:=hs;exact vN q
section
variable{X:Cx}{x:Str}{p pos:Pos}{e:Expr}{es:List Expr}{t:TA}{id T:String}{r:List V->Hp->VK->Prop}
def mK(r:List V->Hp->VK->Prop)(t:TA):TE:=λσ H Q=>t σ H λvs H1=>r vs H1 Q
theorem bH(hc:aM X (.builtin id) r)(hg:Gl X x)(hm:X.mg x=none)(hv:vG x=some (.builtin id))(ha:PA X (e::es) t)(hn:x≠"__name__":=by decide)(hdb:(x == ("__debug__" : Str))=false:=by decide)
  (he:wC (e::es) X.env=(false,eval e X.env)::wC es X.env:=by rfl) (hpl:(Wh pos (wC es X.env)).any (·.1)=false:=by rfl):PE X (.Call (.Name x p) (e::es) [] pos) (mK r t):=by
 intro pins s σ H Q I h;refine VZ (jY I hg hm hv ?_ hn hdb);exact PyProof.Rows.callWith_builtin1 (au (ha pos pins s σ H _ I h) λus s1 ⟨vs,H1,I1,r1,q1⟩=>hc pins s1 σ H1 vs us Q I1 r1 q1) he hpl
theorem d5(hc:aM X (.type T) r)(hg:Gl X x)(hm:X.mg x=none)(hv:vG x=some (.type T))(ha:PA X (e::es) t)(hn:x≠"__name__":=by decide)(hdb:(x == ("__debug__" : Str))=false:=by decide)
  (he:wC (e::es) X.env=(false,eval e X.env)::wC es X.env:=by rfl) (hpl:(Wh pos (wC es X.env)).any (·.1)=false:=by rfl):PE X (.Call (.Name x p) (e::es) [] pos) (mK r t):=by
 intro pins s σ H Q I h;refine VZ (jY I hg hm hv ?_ hn hdb);exact Wb (au (ha pos pins s σ H _ I h) λus s1 ⟨vs,H1,I1,r1,q1⟩=>hc pins s1 σ H1 vs us Q I1 r1 q1) he hpl
end
section
variable{κ : Type}[DecidableEq κ]
end
abbrev KT(H:Hp):List (List Key × V)->List (List Key × wc × wd)->Prop:=Paired λp q=>p.1=q.1/\H q.2.1=some (.tup (p.1.map kV))/\aV p.2 q.2.2
section
variable{P:wO}{w:wN}{H:Hp}{h:wK}{a:wc}
end
section
variable{X:Cx}{pins:List (wc × Obj)}{σ : St}{H:Hp}{s:wl}{a:wc}{y v:V}{u r:wd}{o:Option V}{A:va}{E:wd->wl->Prop}
theorem Inv.big(I:Inv X pins σ H s):VU<s.heap.objs.size:=by
 have h:wB<s.heap.objs.size:=(I.mod.glob.keeps I.bk).lt;exact Qn (by decide) h
end
section
variable{X:Cx}{pins:List (wc × Obj)}{σ : St}{H:Hp}{s:wl}{a:wc}{kvs:List (Key × V)}{k:Key}{u:wd}{A:va}{E:wd->wl->Prop}
end
def Q_(i:Expr):Prop:=∀ov iv,subscripted i false ov iv=operate [ov,iv] (getItem ov iv)
theorem Y7{prog:wO}{w:wN}{A:va}{E:wd->wl->Prop}{s:wl}{env:Env}{value slice:Expr}{pos:Pos}{T id:String}{Q:wd->wl->Prop}
  (hl:typeLookup (.type T) "__getitem__"=pure (some (.builtin id))) (hs:Q_ slice)
  (h:wq (model prog w) A (eval value env) (λo s₁=>wq (model prog w) A (eval slice env) (λi s₂=>s₂.TypeIs o T/\wq (model prog w) A (getItem o i) Q E s₂) E s₁) E s) :
  wq (model prog w) A (eval (.Subscript value slice pos) env) Q E s:=by
 refine Subscript_ (vH h (λo s₁ h₁=>vH h₁ (λi s₂ h₂=>?_) λ_ _ x=>x) λ_ _ x=>x);obtain⟨hT,h₂⟩:=h₂;unfold subscriptTail;refine wj ?_;rw[getitemInPython_of_ne hT.not_modules];refine wj (wpAny_specialOf hT hl ?_)
 have fin:wq (model prog w) A (subscripted slice false o i) (λr s₃=>wq (model prog w) A (letTemporaryGo value o r >>= λ_=>pure r) Q E s₃) E s₂:=by
  rw[hs o i];exact wpAny_operating (vH h₂ (λr s₃ h₃=>wj (wpAny_letTemporaryGo (wA h₃))) λ_ _ x=>x)
 first
  | exact wA (wj fin)
  | exact wj (wA (wj fin))
  | exact wj fin
section
variable{X:Cx}{o i e value:Expr}{pos pos' tpos:Pos}{td ty tv:TE}
end
theorem zzg{P:wO}{w:wN}{H:Hp}(h:wK)(hb:VU<h.objs.size):cM P w H (h.push {cls:=.type "dict",data:=.dict #[]}) h.objs.size (.dK []) :=
 ⟨Vu _,beq_eq_false_iff_ne.mpr (WC (wS hb)),[],.nil,Heap.DictOf.new h⟩
def Nl:TE:=λ_ H Q=>∀p,H p=none->Q (.ref p) (upd H p (.dK []))
section
variable{X:Cx}{pos:Pos}
theorem zxZ:PE X (.Dict [] [] pos) Nl:=λpins s σ H Q I h =>
 wpAny_Dict_empty ⟨.ref s.heap.objs.size,_,I.laid (a:=s.heap.objs.size) (o:=.dK []) (t':=s.toks) (λ_ _ q=>wn _ q) (wo _) (zzg s.heap I.big),rfl,h _ (I.az.fresh (wo _))⟩
end
abbrev VV:List (V × V)->List (wd × wd)->Prop:=Paired λp q=>aV p.1 q.1/\aV p.2 q.2
section
variable{X:Cx}{pins:List (wc × Obj)}{σ : St}{H:Hp}{s:wl}{a:wc}{y d:V}{u r:wd}{o:Option V}{A:va}{E:wd->wl->Prop}
end
section
variable{X:Cx}{o e f:Expr}{apos cpos:Pos}{td ty tx:TE}
end
section
variable{X:Cx}{pins:List (wc × Obj)}{σ : St}{H:Hp}{s:wl}{a:wc}{kvs:List (Key × V)}{A:va}{E:wd->wl->Prop}
end
section
variable{X:Cx}{pins:List (wc × Obj)}{σ : St}{H:Hp}{s:wl}{a:wc}{y:V}{u:wd}{A:va}{E:wd->wl->Prop}
end
end L2
namespace HT
open PySem PyProof.Rows
section
open PySem.SeqAt
open PySem.AutoSeq1 (wpAny_loadPart')
open PySem.MeetsSeq PySem.MeetsSeq2 PySem.MeetsSeq3
end
section
variable{prog:wO}{w:wN}{A:va}{E:wd->wl->Prop}{s:wl}
theorem Yv{t b:wc}{vs ws:List wd}{Q:wd->wl->Prop}(ht:IsTup s.heap t vs.toArray)(hb:IsTup s.heap b ws.toArray)(hv:vs≠[])
  (h1:ws=[]->Q (.ref t) s) (h2:ws≠[]->Q (.ref s.heap.objs.size) {s with heap:=s.heap.push {cls:=.type "tuple",data:=.seq (vs++ws).toArray}})
  (hsz:vs.length+ws.length<=wr):wq (model prog w) A (Wu .Add (.ref t) (.ref b)) Q E s:=by
 obtain⟨⟨cls,dd,data,sl⟩,ho,hc,n,hd⟩:=id ht;obtain⟨⟨cls2,dd2,data2,sl2⟩,ho2,hc2,n2,hd2⟩:=id hb;simp only at hc hd hc2 hd2;subst hc hd hc2 hd2;have e:vs.toArray++ws.toArray=(vs++ws).toArray:=by simp
 by_cases hw:ws=[]
 ·exact concat_meets ⟨_,ho,rfl⟩ ⟨_,ho2,rfl⟩ noFill_tuple_add seq_tuple_add Qa qR (qK _ _)
   (tuple_addW1 t b vs.toArray ws.toArray n n2 dd dd2 sl sl2 (by simpa using hv) (by simp[hw])) ⟨ho,ho2,h1 hw⟩
 ·refine concat_meets ⟨_,ho,rfl⟩ ⟨_,ho2,rfl⟩ noFill_tuple_add seq_tuple_add Qa qR (qK _ _)
   (tuple_addW2 t b vs.toArray ws.toArray n n2 dd dd2 sl sl2 (by simpa using hv) (by simpa using hw) (by rw[wP,wP];exact hsz)) ⟨ho,ho2,?_⟩
  rw[e];exact h2 hw
def aQ(n d:Nat):Option Int->Nat
 | none=>d
 | some v=>if v<0 then(v+(n:Int)).toNat else min v.toNat n
theorem zCV(n d:Nat)(hd:d<=n)(o:Option Int):aQ n d o<=n:=by
 cases o with
 | none=>exact hd
 | some v =>
  show(if v<0 then(v+(n:Int)).toNat else min v.toNat n)<=n
  by_cases hv:v<0
  ·rw[if_pos hv];lia
  ·rw[if_neg hv];exact XE _ _
theorem N3(v:Int)(n d:Nat):(if v<0 then max (v+(n:Int)) 0 else min v (n:Int))=((aQ n d (some v):Nat):Int):=by
 show(if v<0 then max (v+(n:Int)) 0 else min v (n:Int))=(((if v<0 then(v+(n:Int)).toNat else min v.toNat n):Nat):Int)
 by_cases hv:v<0
 ·simp only[if_pos hv];lia
 ·simp only[if_neg hv];lia
theorem ztG(lo hi:Option Int)(n:Nat):qC lo hi 1 (n:Int)=(((aQ n 0 lo:Nat):Int),((aQ n n hi:Nat):Int)):=by
 have h1:¬ ((1:Int)<0):=by lia
 unfold qC;simp only[h1,if_false];refine qf ?_ ?_
 ·cases lo with
  | none=>rfl
  | some v=>exact N3 v n 0
 ·cases hi with
  | none=>rfl
  | some v=>exact N3 v n n
theorem zt0(i j:Nat):Vr (i:Int) (j:Int) 1=j-i:=by
 unfold Vr;have h1:(1:Int) > 0:=by lia
 simp only[h1,if_true,Int.ediv_one]
 split<;>lia
theorem MI{v:wd}{o:Option Int}{Q:Option Int->wl->Prop}(p:IsPart v o)(h:Q o s):wq (model prog w) A (ub v) Q E s:=by
 cases p with
 | none=>exact slicePart_none h
 | int i t=>exact slicePart_int h
theorem zk0{sl:wc}{vl vu:wd}{lo hi:Option Int}{n:Nat}{Q:Int × Int × Nat->wl->Prop}(hs:s.heap.IsSliceOf sl vl vu .none)(pl:IsPart vl lo)(pu:IsPart vu hi)
  (h:Q (((aQ n 0 lo:Nat):Int),1,aQ n n hi-aQ n 0 lo) s):wq (model prog w) A (QT (.ref sl) (pure (n:Int))) Q E s:=by
 obtain⟨os,hos,hcs,hds⟩:=id hs;unfold QT ut;refine wj (wj (vy hos hds (x:=vl) rfl (wj (vy hos hds (x:=vu) rfl (wj (vy hos hds (x:=.none) rfl (wA ?_)))))));refine wj (slicePart_none ?_)
 show wq _ _ (if((1:Int) == 0)=true then _ else _) _ _ s
 rw[if_neg (by decide)];refine wj (MI pl (wj (MI pu (wj (wA ?_)))))
 show wq _ _ (match qC lo hi 1 (n:Int)with | (lo,hi)=>pure (lo,(1:Int),Vr lo hi 1)) _ _ s
 rw[ztG lo hi n]
 show wq _ _ (pure (((aQ n 0 lo:Nat):Int),(1:Int),Vr ((aQ n 0 lo:Nat):Int) ((aQ n n hi:Nat):Int) 1)) _ _ s
 rw[zt0];exact wA h
theorem zxx(xs:Array wd)(i k:Nat):((vP k).filterMap λ(m:Nat)=>xs[((i:Int)+(m:Int)*1).toNat]?).toArray=((xs.toList.drop i).take k).toArray:=by
 have e:(λ(m:Nat)=>xs[((i:Int)+(m:Int)*1).toNat]?)=λm=>xs[i+m]?:=by
  funext m
  have:((i:Int)+(m:Int)*1).toNat=i+m:=by lia
  rw[this]
 rw[e];have:=pick_run xs i k;rw[List.filterMap_map]at this;have e2:((λx=>xs[x]?) ∘ λx=>i+x)=λm=>xs[i+m]?:=rfl
 rw[e2]at this;rw[this]
theorem TX{t sl:wc}{items:Array wd}{vl vu:wd}{lo hi:Option Int}{Q:wd->wl->Prop}(ht:IsTup s.heap t items)(hs:s.heap.IsSliceOf sl vl vu .none)(pl:IsPart vl lo)(pu:IsPart vu hi)
  (hw:¬ (aQ items.size 0 lo=0/\aQ items.size items.size hi=items.size))
  (h:Q (.ref s.heap.objs.size) {s with heap:=s.heap.push {cls:=.type "tuple",data:=.seq ((items.toList.drop (aQ items.size 0 lo)).take (aQ items.size items.size hi-aQ items.size 0 lo)).toArray}})
  (hsz:items.size<=wr):wq (model prog w) A (getItem (.ref t) (.ref sl)) Q E s:=by
 have htake:sizeOk (.seq ((items.toList.drop (aQ items.size 0 lo)).take (aQ items.size items.size hi-aQ items.size 0 lo)).toArray):=by
  show((items.toList.drop (aQ items.size 0 lo)).take (aQ items.size items.size hi-aQ items.size 0 lo)).toArray.size<=wr
  rw[wP,WH,Qe,qz]
  lia
 have hj:aQ items.size items.size hi<=items.size:=zCV _ _ (wo _) hi;obtain⟨os,hos,hcs,hds⟩:=id hs;have hTs:s.TypeIs (.ref sl) "slice":=⟨os,hos,hcs⟩;unfold getItem
 try with_reducible refine VM ?_
 first | refine wj (wA ?_) | skip
 refine wj (wpAny_sequenceKey ht.typeIs (by decide) ?_)
 refine wj (wpAny_callSpecial?_slot (name:=WY "__getitem__") ht.typeIs VJ
  (Vb VJ ht.typeIs entry_tuple_getitem ?_ (args_tuple_getitem _ _)))
 show wq _ _ (ul (.ref t) >>= _) _ _ s
 refine wj (tupleItemsOf_ ht ?_);refine wj (wpAny_typeOf hTs ?_);rw[if_pos (by decide)];refine wj (zk0 hs pl pu ?_)
 have hno:¬ ((((aQ items.size 0 lo:Nat):Int) == 0&&(1:Int) == 1&&(aQ items.size items.size hi-aQ items.size 0 lo) == items.size)=true):=by
  intro q;rw[wy,wy]at q;have q1:((aQ items.size 0 lo:Nat):Int)=0:=eq_of_beq q.1.1;have q2:aQ items.size items.size hi-aQ items.size 0 lo=items.size:=eq_of_beq q.2;exact hw ⟨by lia,by lia⟩
 show wq _ _ (if(((aQ items.size 0 lo:Nat):Int) == 0&&(1:Int) == 1&&(aQ items.size items.size hi-aQ items.size 0 lo) == items.size)=true then _ else _) _ _ s
 rw[if_neg hno,zxx]
 first
  | exact wj (m:=VA _) (Wk (wA ⟨_,rfl,wA h⟩) htake)
  | exact wj (m:=VA _) (Wk (wj (wA (wA ⟨_,rfl,wA h⟩))) htake)
  | exact wj (wj (m:=VA _) (Wk (wA (wA ⟨_,rfl,wA h⟩)) htake))
  | exact wj (wj (m:=VA _) (Wk (wA ⟨_,rfl,wA h⟩) htake))
end
end HT
namespace L2
open PySem PySem.Spec PyProof.Rows
abbrev TO:=St->Hp->(Option Int->Hp->Prop)->Prop
def PO(X:Cx)(e:Option Expr)(t:TO):Prop :=
 ∀(pins:List (wc × Obj))(s:wl)(σ : St)(H:Hp)(Q:Option Int->Hp->Prop),Inv X pins σ H s->t σ H Q ->
  wq (model X.prog X.w) X.A (evalPart e X.env) (λu s'=>∃o H',Inv X pins σ H' s'/\IsPart u o/\Q o H') X.xe s
def Fs:TO:=λ_ H Q=>Q none H
def De(t:TE):TO:=λσ H Q=>t σ H λx H1=>∃i,x=.int i/\Q (some i) H1
theorem ztL{ns:List Int} : ∀{us:List wd},aE (ns.map V.int) us->IntsAre us ns:=by
 induction ns with
 | nil=>intro us r;rw[WQ]at r;cases r;exact .nil
 | cons n ns ih =>
  intro us r;rw[wE]at r;cases r with
  | cons r1 r2 =>
   obtain⟨t,e⟩:=r1;subst e;exact .cons n t (ih r2)
section
variable{X:Cx}{e:Expr}{te:TE}{lo hi:Option Expr}{tl th:TO}{pos p2:Pos}
theorem dQ:PO X none Fs:=by
 intro pins s σ H Q I h;rw[evalPart_none];exact wA ⟨none,H,I,.none,h⟩
theorem dZ(h:PE X e te):PO X (some e) (De te):=by
 intro pins s σ H Q I hw;rw[evalPart_some];refine au (h pins s σ H _ I hw) λu s1 ⟨x,H1,I1,r1,q1⟩=>?_
 obtain⟨i,rfl,q⟩:=q1;obtain⟨t,rfl⟩:=r1;exact⟨some i,H1,I1,.int i t,q⟩
def ic(X:Cx)(r:V->Option Int->Option Int->Hp->VK->Prop):Prop :=
 ∀(pins:List (wc × Obj))(s:wl)(σ : St)(H:Hp)(x:V)(v vl vu:wd)(lo hi:Option Int)(sl:wc)(Q:VK),Inv X pins σ H s->aV x v->s.heap.IsSliceOf sl vl vu .none->IsPart vl lo->IsPart vu hi->r x lo hi H Q ->
  ∃T id,typeLookup (.type T) "__getitem__"=pure (some (.builtin id))/\s.TypeIs v T/\wq (model X.prog X.w) X.A (getItem v (.ref sl)) (EP X pins σ Q) X.xe s
theorem ic.or{r r':V->Option Int->Option Int->Hp->VK->Prop}(h:ic X r)(h':ic X r'):ic X (λx lo hi H Q=>r x lo hi H Q\/r' x lo hi H Q):=by
 intro pins s σ H x v vl vu lo hi sl Q I rx hs pl pu q;rcases q with q | q
 ·exact h pins s σ H x v vl vu lo hi sl Q I rx hs pl pu q
 ·exact h' pins s σ H x v vl vu lo hi sl Q I rx hs pl pu q
def CF(r:V->Option Int->Option Int->Hp->VK->Prop)(te:TE)(tl th:TO):TE:=λσ H Q=>te σ H λx H1=>tl σ H1 λl H2=>th σ H2 λu H3=>r x l u H3 Q
theorem dP{r:V->Option Int->Option Int->Hp->VK->Prop}(hr:ic X r)(he:PE X e te)(hl:PO X lo tl)(hu:PO X hi th):PE X (.Subscript e (.Slice lo hi none p2) pos) (CF r te tl th):=by
 intro pins s σ H Q I h;refine Subscript_ (au (he pins s σ H _ I h) λv s1 ⟨x,H1,I1,r1,q1⟩=>?_);refine wpAny_Slice (au (hl pins s1 σ H1 _ I1 q1) λvl s2 ⟨l,H2,I2,pl,q2⟩=>au (hu pins s2 σ H2 _ I2 q2) λvu s3 ⟨u,H3,I3,pu,q3⟩=>?_);rw[evalPart_none];refine wA ?_;have I4:Inv X pins σ H3 {s3 with heap:=s3.heap.push {cls:=.type "slice",data:=.fields #[vl,vu,.none]}}:=I3.kept (t':=s3.toks) λb ob q=>wn _ q
 obtain⟨T,id,hT,ht,hg⟩:=hr pins {s3 with heap:=s3.heap.push {cls:=.type "slice",data:=.fields #[vl,vu,.none]}} σ H3 x v vl vu l u s3.heap.objs.size Q I4 r1 (uI ..) pl pu q3
 show wq (model X.prog X.w) X.A (subscriptTail e (.Slice lo hi none p2) v (.ref s3.heap.objs.size)) (EP X pins σ Q) X.xe {s3 with heap:=s3.heap.push {cls:=.type "slice",data:=.fields #[vl,vu,.none]}}
 exact tail_any (ops:=[.ref s3.heap.objs.size,v]) ht hT hg (by with_unfolding_all rfl)
def fc(xs:List V)(lo hi:Option Int):List V:=(xs.drop (HT.aQ xs.length 0 lo)).take (HT.aQ xs.length xs.length hi-HT.aQ xs.length 0 lo)
theorem RG(xs:List V)(lo hi:Option Int):(fc xs lo hi).length<=xs.length:=by
 unfold fc;rw[WH,Qe]
 lia
def SK(K:wa):V->Option Int->Option Int->Hp->VK->Prop:=λx lo hi H Q=>∃a xs,x=.ref a/\aR K H a xs /\
 ¬ (HT.aQ xs.length 0 lo=0/\HT.aQ xs.length xs.length hi=xs.length) /\ ∀p,H p=none->Q (.ref p) (upd H p (.tup (fc xs lo hi)))
theorem zBY:ic X (SK X.K):=by
 intro pins s σ H x v vl vu lo hi sl Q I rx hs pl pu h;obtain⟨a,xs,rfl,hx,hw,q⟩:=h;cases rx;obtain⟨its,r,ht,hz⟩:=I.tuple hx;have hlen:its.toArray.size=xs.length:=by rw[wP];exact r.length.symm
 refine⟨"tuple",_,VJ.lookup,ht.typeIs,?_⟩;refine HT.TX ht hs pl pu (by rw[hlen];exact hw) ?_ (by rw[hlen];exact hz);rw[hlen];refine⟨.ref s.heap.objs.size,_,I.laid (t':=s.toks) (o:=.tup (fc xs lo hi)) (λb ob q=>wn _ q) (wo _) ?_,rfl,q _ (I.az.fresh (wo _))⟩;exact⟨w5 (RG xs lo hi) hz,_,(r.drop (HT.aQ xs.length 0 lo)).take (HT.aQ xs.length xs.length hi-HT.aQ xs.length 0 lo),qd _ _⟩
def O_(K:wa):R2:=λx y H Q=>∃a b xs ys,x=.ref a/\y=.ref b/\aR K H a xs/\aR K H b ys/\xs≠[]/\xs.length+ys.length<=wr /\
 (ys=[]->Q (.ref a) H)/\(ys≠[]->∀p,H p=none->Q (.ref p) (upd H p (.tup (xs++ys))))
theorem aE.Av{xs:List V}{us:List wd}(r:aE xs us):us=[] ↔ xs=[]:=by
 cases r with
 | nil=>simp
 | cons _ _=>simp
theorem Ze:aY X (Wu .Add) (O_ X.K):=by
 intro pins s σ H x y v u Q I rx ry h;obtain⟨a,b,xs,ys,rfl,rfl,ha,hb,hx,hz,q1,q2⟩:=h;cases rx;cases ry;obtain⟨its,r1,p1,_⟩:=I.tuple ha;obtain⟨its2,r2,p2,_⟩:=I.tuple hb;refine HT.Yv p1 p2 (λz=>hx (r1.Av.mp z)) (λz=>⟨.ref a,H,I,rfl,q1 (r2.Av.mp z)⟩) (λz=>?_) (by rw[<- r1.length,<- r2.length];exact hz);refine⟨.ref s.heap.objs.size,_,I.laid (t':=s.toks) (o:=.tup (xs++ys)) (λb ob q=>wn _ q) (wo _) ?_,rfl,q2 (λw=>z (r2.Av.mpr w)) _ (I.az.fresh (wo _))⟩;exact⟨by rw[vc];exact hz,_,r1.append r2,qd _ _⟩
end
def gc(n:Nat)(i:Int):Option Nat:=if 0<=i then(if i<n then some i.toNat else none)else if -(n:Int)<=i then some (i+n).toNat else none
def gJ{α : Type}(xs:List α)(i:Int):Option α:=(gc xs.length i).bind λj=>xs[j]?
theorem Oz{n:Nat}{i:Int}{j:Nat}(h:gc n i=some j):seqIndex? i n=some j/\j<n /\ -(n:Int)<=i/\i<n:=by
 unfold gc at h
 by_cases h0:0<=i
 ·rw[if_pos h0]at h
  by_cases h1:i<n
  ·rw[if_pos h1]at h
   have e:i.toNat=j:=vi h;exact⟨by rw[seqIndex_of h0 h1,e],by lia,by lia,h1⟩
  ·rw[if_neg h1]at h;cases h
 ·rw[if_neg h0]at h
  by_cases h1 : -(n:Int)<=i
  ·rw[if_pos h1]at h
   have e:(i+n).toNat=j:=vi h;exact⟨by rw[seqIndex_neg (by lia) h1,e],by lia,h1,by lia⟩
  ·rw[if_neg h1]at h;cases h
theorem FH{α : Type}{xs:List α}{i:Int}{v : α}(h:gJ xs i=some v):∃j,seqIndex? i xs.length=some j/\xs[j]? = some v/\j<xs.length /\ -(xs.length:Int)<=i/\i<xs.length:=by
 unfold gJ at h;cases e:gc xs.length i with
 | none=>rw[e]at h;cases h
 | some j =>
  rw[e]at h;obtain⟨h1,h2,h3,h4⟩:=Oz e;exact⟨j,h1,h,h2,h3,h4⟩
theorem gm{α : Type}{xs:List α}{j:Nat}{v : α}(h:xs[j]? = some v):gJ xs (j:Int)=some v:=by
 have hj:j<xs.length:=(wZ.mp h).1
 have e:gc xs.length (j:Int)=some j:=by
  unfold gc;rw[if_pos (by lia),if_pos (by lia)];simp
 unfold gJ;rw[e];exact h
def NN(b:Expr):Prop:=∀o i,subscripted b false o i=operate [o,i] (getItem o i)
def gA(X:Cx)(r:R2):Prop :=
 ∀(value slice:Expr)(pins:List (wc × Obj))(s:wl)(σ : St)(H:Hp)(x y:V)(v u:wd)(Q:VK),Inv X pins σ H s->aV x v->aV y u->r x y H Q ->
  subscripted slice false v u=operate [v,u] (getItem v u)->wq (model X.prog X.w) X.A (subscriptTail value slice v u) (EP X pins σ Q) X.xe s
def Ew(X:Cx)(id:String)(r:V->List V->Hp->VK->Prop):Prop :=
 ∀(pins:List (wc × Obj))(s:wl)(σ : St)(H:Hp)(x:V)(xs:List V)(v:wd)(us:List wd)(Q:VK),Inv X pins σ H s->aV x v->aE xs us->r x xs H Q ->
  wq (model X.prog X.w) X.A (call (.builtin id) (v::us)) (EP X pins σ Q) X.xe s
section
variable{X:Cx}{a b:Expr}{ta tb:TE}{pos:Pos}
variable{σ:St}{H:Hp}{s:wl}{x:V}
theorem gA.or{r r':R2}(h:gA X r)(h':gA X r'):gA X (λx y H Q=>r x y H Q\/r' x y H Q):=by
 intro value slice pins s σ H x y v u Q I rx ry q hs;rcases q with q | q
 ·exact h value slice pins s σ H x y v u Q I rx ry q hs
 ·exact h' value slice pins s σ H x y v u Q I rx ry q hs
theorem f_{r:R2}(hr:gA X r)(ha:PE X a ta)(hb:PE X b tb)(hs:NN b):PE X (.Subscript a b pos) (cW r ta tb):=by
 intro pins s σ H Q I h;exact Subscript_ (Eg ha hb I h λv u s2 x y H2 I2 rx ry q=>hr a b pins s2 σ H2 x y v u Q I2 rx ry q (hs _ _))
def Mm(K:wa):R2:=λx y H Q=>∃p xs i v,x=.ref p/\y=.int i/\aI K H p xs/\gJ xs i=some v/\Q v H
def O4(K:wa):R2:=λx y H Q=>∃p xs i v,x=.ref p/\y=.int i/\aR K H p xs/\gJ xs i=some v/\Q v H
def NL:R2:=λx y H Q=>∃z i c,x=.str z/\y=.int i/\z.length<=wr/\gJ z.cps.toList i=some c/\Q (.str ⟨#[c]⟩) H
theorem zAN :gA X (Mm X.K):=by
 intro value slice pins s σ H x y v u Q I rx ry h hs;obtain⟨p,xs,i,z,rfl,rfl,hq,he,q⟩:=h;cases rx;obtain⟨t,rfl⟩:=ry;obtain⟨its,r,pl,hz⟩:=I.list hq;obtain⟨j,h1,h2,h3,h4,h5⟩:=FH he;obtain⟨w,ew,rw'⟩:=r.get h2;have hl:=r.length;have hn:=mf;have fin:EP X pins σ Q w s:=⟨z,H,I,rw',q⟩
 by_cases h0:0<=i
 ·have hj:i.toNat=j:=by
   rw[seqIndex_of h0 h5]at h1;exact vi h1
  exact item_listR pl.isList h0 (by lia) (by rw[hj];simpa using ew) fin hs
 ·have hj:(i+(its.toArray.size:Int)).toNat=j:=by
   rw[seqIndex_neg (by lia) h4]at h1;rw[wP,<- hl];exact vi h1
  exact subscriptTail_builtinR (x:=w) pl.isList.typeIs slot_list_getitem.lookup
   (wpAny_getItem_list_neg (Q:=λr s'=>r=w/\EP X pins σ Q r s') pl.isList (by lia) (by rw[wP]<;>lia) (by lia) (by rw[hj];simpa using ew) ⟨rfl,fin⟩) hs
theorem zB7 :gA X (O4 X.K):=by
 intro value slice pins s σ H x y v u Q I rx ry h hs;obtain⟨p,xs,i,z,rfl,rfl,hq,he,q⟩:=h;cases rx;obtain⟨t,rfl⟩:=ry;obtain⟨its,r,pl,hz⟩:=I.tuple hq;obtain⟨j,h1,h2,h3,h4,h5⟩:=FH he;obtain⟨w,ew,rw'⟩:=r.get h2;have hl:=r.length;have hn:=mf;have fin:EP X pins σ Q w s:=⟨z,H,I,rw',q⟩
 exact subscriptTail_builtinR (x:=w) pl.typeIs slot_tuple_getitem.lookup
  (getItem_tuple (j:=j) (Q:=λr s'=>r=w/\EP X pins σ Q r s') pl (by lia) (by lia) (by rw[wP,<- hl];exact h1) (by simpa using ew) ⟨rfl,fin⟩) hs
theorem zDv :gA X NL:=by
 intro value slice pins s σ H x y v u Q I rx ry h hs;obtain⟨z,i,c,rfl,rfl,hz,he,q⟩:=h;obtain⟨t,rfl⟩:=rx;obtain⟨t',rfl⟩:=ry;obtain⟨j,h1,h2,h3,h4,h5⟩:=FH he;have hl:z.cps.toList.length=z.length:=by simp[Str.length]
 rw[hl]at h1 h4 h5;have hn:=mf
 exact tail_any (qm s z t) slot_str_getitem.lookup (getItem_str (c:=c) (by
  have e1:decide (i < -(2^63:Int))=false:=decide_eq_false (by lia);have e2:decide (i ≥ 2^63)=false:=decide_eq_false (by lia);rw[e1,e2,qo]) (by rw[h1];simpa using h2) ⟨.str ⟨#[c]⟩,H,I.tok _,⟨_,rfl⟩,q⟩) hs
def cV(K:wa):R2:=λx y H Q=>Mm K x y H Q\/O4 K x y H Q\/NL x y H Q
theorem eK :gA X (cV X.K):=zAN.or (zB7.or zDv)
theorem zuc(its:List wd)(n j:Nat)(u:wd):Q6 (·.setIfInBounds j u) {cls:=.type "list",data:=.seq its.toArray n} = {cls:=.type "list",data:=.seq (its.set j u).toArray n}:=by
 simp[Q6]
theorem Inv.lst{pins:List (wc × Obj)}{p:wc}{xs:List V}(I:Inv X pins σ H s)(h:H p=some (.lst xs)) :
  ∃(its:List wd)(n:Nat),aE xs its/\s.heap.get? p=some {cls:=.type "list",data:=.seq its.toArray n}/\xs.length<=wr:=by
 obtain⟨z,its,n,r,e⟩:=I.az p _ h;exact⟨its,n,r,e,z⟩
theorem Inv.YB{pins:List (wc × Obj)}{p:wc}{xs ys:List V}{its its':List wd}{n n':Nat}{f:Obj->Obj}(I:Inv X pins σ H s)(h:H p=some (.lst xs))
  (ho:s.heap.get? p=some {cls:=.type "list",data:=.seq its.toArray n}) (hf:f {cls:=.type "list",data:=.seq its.toArray n} = {cls:=.type "list",data:=.seq its'.toArray n'}) (r:aE ys its') (hz:ys.length<=wr) (t:Nat) :
  Inv X pins σ (upd H p (.lst ys)) {s with heap:=s.heap.update p f,toks:=t}:=by
 have e:(s.heap.update p f).get? p=some {cls:=.type "list",data:=.seq its'.toArray n'}:=by
  rw[Vh f ho (by rw[hf]<;>rfl),hf]
 refine I.write (x:=p) (e:=p) (by rw[h];trivial) (.inl rfl) (λb u hb q=>(Qb _ _ (WC hb)).trans q) ⟨_,e⟩ ?_;exact⟨hz,its',n',r,e⟩
def Om:V->V->V->Hp->(Hp->Prop)->Prop:=λo i v H Q=>∃p xs k j,o=.ref p/\i=.int k/\H p=some (.lst xs)/\gc xs.length k=some j/\Q (upd H p (.lst (xs.set j v)))
theorem oR :NQ X Om:=by
 intro pins s σ H o i v ov iv u Q I ro ri rv h;obtain⟨p,xs,k,j,rfl,rfl,hp,hj,q⟩:=h;cases ro;obtain⟨t,rfl⟩:=ri;obtain⟨its,n,r,ho,hz⟩:=I.lst hp;obtain⟨h1,h2,h3,h4⟩:=Oz hj;have hl:=r.length;have hn:=mf
 have I':Inv X pins σ (upd H p (.lst (xs.set j v))) {s with heap:=s.heap.update p (Q6 (·.setIfInBounds j u))} :=
  I.YB hp ho (zuc its n j u) (r.set rv j) (by rw[Wx];exact hz) s.toks
 by_cases h0:0<=k
 ·have hk:k.toNat=j:=by
   rw[seqIndex_of h0 h4]at h1;exact vi h1
  exact PySem.W.ki_setAt ho h0 (by lia) (by rw[wP,<- hl];exact h4) (by rw[hk];exact⟨_,I',q⟩)
 ·have hk:(k+(its.toArray.size:Int)).toNat=j:=by
   rw[seqIndex_neg (by lia) h3]at h1;rw[wP,<- hl];exact vi h1
  exact PySem.W.ki_setBack ho (by lia) (by rw[wP,<- hl];exact h3) (by lia) (by rw[hk];exact⟨_,I',q⟩)
theorem YQ(lo hi:Option Int)(n:Nat):(qx lo hi none n).1=((HT.aQ n 0 lo:Nat):Int)/\(qx lo hi none n).2.1=((HT.aQ n n hi:Nat):Int)/\(qx lo hi none n).2.2=1:=by
 refine⟨?_,?_,rfl⟩
 ·cases lo with
  | none=>simp[qx,HT.aQ]
  | some i =>
   simp only[qx,HT.aQ,XF,show(1:Int) > 0 by decide,if_true]
   by_cases h:i<0
   ·simp only[h,if_true]<;>lia
   ·simp only[h,if_false]<;>lia
 ·cases hi with
  | none=>simp[qx,HT.aQ]
  | some i =>
   simp only[qx,HT.aQ,XF,show(1:Int) > 0 by decide,if_true]
   by_cases h:i<0
   ·simp only[h,if_true]<;>lia
   ·simp only[h,if_false]<;>lia
theorem zou(its:List wd)(lo hi:Option Int):slicePick its.toArray lo hi none=((its.drop (HT.aQ its.length 0 lo)).take (HT.aQ its.length its.length hi-HT.aQ its.length 0 lo)).toArray:=by
 obtain⟨h1,h2,h3⟩:=YQ lo hi its.toArray.size;unfold slicePick;rw[h1,h2,h3];simp only[sliceRange_one,pick_run,wP]<;>rfl
def Ro(K:wa):V->Option Int->Option Int->Hp->VK->Prop:=λx lo hi H Q=>∃a xs,x=.ref a/\aI K H a xs /\ ∀p,H p=none->Q (.ref p) (upd H p (.lst (fc xs lo hi)))
theorem zAa :ic X (Ro X.K):=by
 intro pins s σ H x v vl vu lo hi sl Q I rx hs pl pu h;obtain⟨a,xs,rfl,hx,q⟩:=h;cases rx;obtain⟨its,r,ht,hz⟩:=I.list hx;have hlen:=r.length;refine⟨"list",_,slot_list_getitem.lookup,ht.isList.typeIs,?_⟩;refine wpAny_getItem_list_slice ht.isList hs pl pu .none (by simp) ?_ (by rw[wP]<;>lia);rw[zou,<- hlen];refine⟨.ref s.heap.objs.size,_,I.laid (t':=s.toks) (o:=.lst (fc xs lo hi)) (λb ob q=>wn _ q) (wo _) ?_,rfl,q _ (I.az.fresh (wo _))⟩;exact⟨w5 (RG xs lo hi) hz,_,0,(r.drop (HT.aQ xs.length 0 lo)).take (HT.aQ xs.length xs.length hi-HT.aQ xs.length 0 lo),wL _ rfl⟩
def ib:V->Bool
 | .bh=>true
 | .bl _=>true
 | .int _=>true
 | .str _=>true
 | _=>false
def ko:V->V->Bool
 | .bh,.bh=>true
 | .bl a,.bl b=>a == b
 | .bl a,.int b=>(if a then 1 else 0) == b
 | .int a,.bl b=>a == (if b then 1 else 0)
 | .int a,.int b=>a == b
 | .str a,.str b=>a == b
 | _,_=>false
theorem zBU{A:va}{y:V}{u v:wd}(ry:aV y u)(rx:aV x v)(fy:ib y=true)(fx:ib x=true):SeqAt.EqAt A s u v (ko y x):=by
 cases y with
 | bh =>
  cases ry;cases x with
  | bh=>cases rx;exact SeqAt.EqAt.same _
  | bl b=>cases rx;exact SeqAt.EqAt.none_bool b
  | int b=>obtain⟨t,rfl⟩:=rx;exact SeqAt.EqAt.none_int b t
  | str b=>obtain⟨t,rfl⟩:=rx;exact SeqAt.EqAt.none_str b t
  | _=>exact absurd (show false=true from fx) vB
 | bl a =>
  cases ry;cases x with
  | bh=>cases rx;exact SeqAt.EqAt.bool_none a
  | bl b=>cases rx;exact SeqAt.EqAt.bool_bool a b
  | int b=>obtain⟨t,rfl⟩:=rx;exact SeqAt.EqAt.bool_int a b t
  | str b=>obtain⟨t,rfl⟩:=rx;exact SeqAt.EqAt.bool_str a b t
  | _=>exact absurd (show false=true from fx) vB
 | int a =>
  obtain⟨t',rfl⟩:=ry;cases x with
  | bh=>cases rx;exact SeqAt.EqAt.int_none a t'
  | bl b=>cases rx;exact SeqAt.EqAt.int_bool a t' b
  | int b=>obtain⟨t,rfl⟩:=rx;exact SeqAt.EqAt.int_int a t' b t
  | str b=>obtain⟨t,rfl⟩:=rx;exact Xa a t' b t
  | _=>exact absurd (show false=true from fx) vB
 | str a =>
  obtain⟨t',rfl⟩:=ry;cases x with
  | bh=>cases rx;exact SeqAt.EqAt.str_none a t'
  | bl b=>cases rx;exact SeqAt.EqAt.str_bool a t' b
  | int b=>obtain⟨t,rfl⟩:=rx;exact Xb a t' b t
  | str b=>obtain⟨t,rfl⟩:=rx;exact SeqAt.EqAt.str_str a t' b t
  | _=>exact absurd (show false=true from fx) vB
 | _=>exact absurd (show false=true from fy) vB
def d9(x:V)(u:wd):Bool:=match u with
 | .none=>ko .bh x
 | .bool b=>ko (.bl b) x
 | .int i _=>ko (.int i) x
 | .str z _=>ko (.str z) x
 | _=>false
theorem Rk{y:V}{u:wd}(r:aV y u)(f:ib y=true):d9 x u=ko y x:=by
 cases y with
 | bh=>cases r;rfl
 | bl b=>cases r;rfl
 | int i=>obtain⟨t,rfl⟩:=r;rfl
 | str z=>obtain⟨t,rfl⟩:=r;rfl
 | _=>exact absurd (show false=true from f) vB
theorem rg{x:V} : ∀{xs:List V}{us:List wd},aE xs us->xs.all ib=true->us.any (d9 x)=xs.any λy=>ko y x
 | _,_,.nil,_=>rfl
 | y::xs,u::us,.cons r t,f=>by
  rw[W2,wy]at f;rw[W3,W3,Rk r f.1,rg t f.2]
theorem ly{A:va}{s:wl}{x:V}{v:wd}(rx:aV x v)(fx:ib x=true):∀{xs:List V}{us:List wd},aE xs us->xs.all ib=true->∀u∈us,SeqAt.EqAt A s u v (d9 x u)
 | _,_,.nil,_=>λu hu=>by cases hu
 | y::xs,u::us,.cons r t,f=>λu' hu=>by
  rw[W2,wy]at f;rcases wz.mp hu with rfl | hu
  ·rw[Rk r f.1];exact zBU r rx f.1 fx
  ·exact ly rx fx t f.2 u' hu
def v_(x:V)(xs:List V):Bool:=xs.any λy=>ko y x
def kJ(K:wa)(neg:Bool):R2:=λx y H Q=>∃p xs,y=.ref p/\(aI K H p xs\/aR K H p xs)/\ib x=true/\xs.all ib=true/\Q (.bl (if neg then !v_ x xs else v_ x xs)) H
theorem zvD :aY X (vk .In) (kJ X.K false):=by
 intro pins s σ H x y v u Q I rx ry h;obtain⟨p,xs,rfl,hq,fx,fs,q⟩:=h;cases ry;rcases hq with hq | hq
 ·obtain⟨its,r,pl,hz⟩:=I.list hq
  refine SeqAt.in_listAt (d9 x) pl.isList (λw hw=>ly rx fx r fs w (by simpa using hw)) ⟨.bl _,H,I,rfl,?_⟩;rw[show its.toArray.any (d9 x)=its.any (d9 x) by simp,rg r fs];exact q
 ·obtain⟨its,r,pl,hz⟩:=I.tuple hq
  refine SeqAt.in_tupleAt (d9 x) pl (λw hw=>ly rx fx r fs w (by simpa using hw)) ⟨.bl _,H,I,rfl,?_⟩;rw[show its.toArray.any (d9 x)=its.any (d9 x) by simp,rg r fs];exact q
theorem zqo :aY X (vk .NotIn) (kJ X.K true):=by
 intro pins s σ H x y v u Q I rx ry h;obtain⟨p,xs,rfl,hq,fx,fs,q⟩:=h;cases ry;rcases hq with hq | hq
 ·obtain⟨its,r,pl,hz⟩:=I.list hq
  refine SeqAt.notIn_listAt (d9 x) pl.isList (λw hw=>ly rx fx r fs w (by simpa using hw)) ⟨.bl _,H,I,rfl,?_⟩;rw[show its.toArray.any (d9 x)=its.any (d9 x) by simp,rg r fs];exact q
 ·obtain⟨its,r,pl,hz⟩:=I.tuple hq
  refine SeqAt.notIn_tupleAt (d9 x) pl (λw hw=>ly rx fx r fs w (by simpa using hw)) ⟨.bl _,H,I,rfl,?_⟩;rw[show its.toArray.any (d9 x)=its.any (d9 x) by simp,rg r fs];exact q
theorem zrf :aM X (.builtin "len") (λxs H Q=>∃p ys,xs=[.ref p]/\(aI X.K H p ys\/aR X.K H p ys)/\Q (.int ys.length) H):=by
 intro pins s σ H xs us Q I r h;obtain⟨p,ys,rfl,hq,q⟩:=h;obtain⟨u,rfl,rx⟩:=gj r;cases rx;have hn:=mf;rcases hq with hq | hq
 ·obtain⟨its,r',pl,hz⟩:=I.list hq
  have hlen:=r'.length;exact Calls.call_len_list pl.isList (by simp only[wP]<;>lia) ⟨.int ys.length,H,I.tok _,⟨s.toks+1,by rw[wP,hlen]⟩,q⟩
 ·obtain⟨its,r',pl,hz⟩:=I.tuple hq
  have hlen:=r'.length;exact len_tuple pl (by simp only[wP]<;>lia) ⟨.int ys.length,H,I.tok _,⟨s.toks+1,by rw[wP,hlen]⟩,q⟩
theorem Y1 :aM X (.builtin "len") (λxs H Q=>∃z,xs=[.str z]/\z.length<=wr/\Q (.int z.length) H):=by
 intro pins s σ H xs us Q I r h;obtain⟨z,rfl,hz,q⟩:=h;obtain⟨u,rfl,t,rfl⟩:=gj r;have hn:=mf;exact len_str (by lia) ⟨.int z.length,H,I.tok _,⟨_,rfl⟩,q⟩
theorem zqS :aM X (.type "list") (λxs H Q=>∃p ys,xs=[.ref p]/\(aI X.K H p ys\/aR X.K H p ys) /\ ∀l,H l=none->Q (.ref l) (upd H l (.lst ys))):=by
 intro pins s σ H xs us Q I r h;obtain⟨p,ys,rfl,hq,q⟩:=h;obtain⟨u,rfl,rx⟩:=gj r;cases rx
 have fin:∀(its:List wd),aE ys its->ys.length<=wr->∀(h':wK)(c':Nat),(∀b o',s.heap.get? b=some o'->h'.get? b=some o') ->
     h'.get? s.heap.objs.size=some {cls:=.type "list",dict:=none,data:=.seq its.toArray c',slots:=#[]}->EP X pins σ Q (.ref s.heap.objs.size) {s with heap:=h'}:=λits r' hz h' c' kp e =>
   ⟨.ref s.heap.objs.size,_,I.laid (t':=s.toks) kp (wo _) (show cM X.prog X.w _ h' _ (.lst ys)from⟨hz,its,c',r',e⟩),rfl,q _ (I.az.fresh (wo _))⟩
 rcases hq with hq | hq
 . obtain⟨its,r',pl,hz⟩:=I.list hq
   have hlen:=r'.length;obtain⟨o,ho,hc,n,hd⟩:=pl.isList;exact call_list_seq p (.inl rfl) ho hc hd (λh' c' kp e=>fin its r' hz h' c' kp e) (by simp only[wP]<;>lia)
 . obtain⟨its,r',pl,hz⟩:=I.tuple hq
   have hlen:=r'.length;obtain⟨o,ho,hc,n,hd⟩:=pl;exact call_list_seq p (.inr rfl) ho hc hd (λh' c' kp e=>fin its r' hz h' c' kp e) (by simp only[wP]<;>lia)
theorem zot :aM X (.type "tuple") (λxs H Q=>∃p ys,xs=[.ref p]/\((aI X.K H p ys /\ ∀l,H l=none->Q (.ref l) (upd H l (.tup ys)))\/(aR X.K H p ys/\Q (.ref p) H))):=by
 intro pins s σ H xs us Q I r h;obtain⟨p,ys,rfl,h⟩:=h;obtain⟨u,rfl,rx⟩:=gj r;cases rx;rcases h with⟨hq,q⟩ | ⟨hq,q⟩
 ·obtain⟨its,r',pl,hz⟩:=I.list hq
  have hlen:=r'.length;refine call_tuple_list pl.isList (λh' kp=>?_) (by simp only[wP]<;>lia);have I1:Inv X pins σ H {s with heap:=h'}:=I.kept (t':=s.toks) kp
  have I2:Inv X pins σ (upd H h'.objs.size (.tup ys)) {s with heap:=h'.push {cls:=.type "tuple",data:=.seq its.toArray}} :=
   I1.laid (t':=s.toks) (λb o e=>wn _ e) (wo _) (show cM X.prog X.w _ _ _ (.tup ys)from⟨hz,its,r',qd _ _⟩)
  exact⟨.ref h'.objs.size,_,I2,rfl,q _ (I1.az.fresh (wo _))⟩
 ·obtain⟨its,r',pl,hz⟩:=I.tuple hq
  exact call_tuple_same pl ⟨.ref p,H,I,rfl,q⟩
def mq(K:wa)(T:String)(x:V)(H:Hp):Prop:=match x with
 | .str _=>T="str"
 | .int _=>T="int"
 | .ref p=>(T="list" /\ ∃xs,aI K H p xs)\/(T="tuple" /\ ∃o,K.lookup p=some o/\o.cls=.type "tuple"/\o.dict=none) \/
     (T="dict"/\((∃kvs,H p=some (.dK kvs)) \/ ∃kvs,H p=some (.dT kvs)))\/(T="set" /\ ∃S n,H p=some (.set S n))
 | _=>False
theorem Tx{pins:List (wc × Obj)}{T:String}{v:wd}(I:Inv X pins σ H s)(r:aV x v)(ty:mq X.K T x H) :
  s.TypeIs v T /\ ∀a,v=.ref a->∃ob,s.heap.get? a=some ob/\ob.dict=none:=by
 cases x with
 | str z =>
  obtain⟨t,rfl⟩:=r;cases (show T="str" from ty);exact⟨qm s z t,λ_ e=>nomatch e⟩
 | int i =>
  obtain⟨t,rfl⟩:=r;cases (show T="int" from ty);exact⟨typeIs_int s i t,λ_ e=>nomatch e⟩
 | ref p =>
  cases r;rcases ty with⟨rfl,xs,hq⟩ | ⟨rfl,o,hk,hc,hd⟩ | ⟨rfl,hk⟩ | ⟨rfl,S,n,hk⟩
  ·obtain⟨its,_,pl,_⟩:=I.list hq
   refine⟨pl.isList.typeIs,λa e=>?_⟩;cases e;obtain⟨o,n,e,c,hd,_⟩:=pl;exact⟨o,e,hd⟩
  ·refine⟨⟨o,I.bE p o hk,hc⟩,λa e=>?_⟩
   cases e;exact⟨o,I.bE _ o hk,hd⟩
  ·have z:∃o,s.heap.get? p=some o/\o.ExactDict:=by
    rcases hk with⟨kvs,hk⟩ | ⟨kvs,hk⟩
    ·obtain⟨_,_,_,_,o,_,_,e,ex,_⟩:=I.az p _ hk
     exact⟨o,e,ex⟩
    ·obtain⟨_,_,_,_,o,_,_,e,ex,_⟩:=I.az p _ hk
     exact⟨o,e,ex⟩
   obtain⟨o,e,ex⟩:=z;refine⟨⟨o,e,ex.1⟩,λa e2=>?_⟩;cases e2;exact⟨o,e,ex.2.1⟩
  ·obtain⟨o,_,_,_,e,ex,_⟩:=I.az p _ hk
   refine⟨⟨o,e,ex.1⟩,λa e2=>?_⟩;cases e2;exact⟨o,e,ex.2.1⟩
 | _=>exact vN ty
def Rj(K:wa)(T:String)(r:V->List V->Hp->VK->Prop)(to:TE):TE:=λσ H Q=>to σ H λx H1=>mq K T x H1/\r x [] H1 Q
def mM(K:wa)(T:String)(r:V->List V->Hp->VK->Prop)(to:TE)(t:TA):TE:=λσ H Q=>to σ H λx H1=>mq K T x H1/\t σ H1 λxs H2=>r x xs H2 Q
variable{o e:Expr}{es:List Expr}{to:TE}{t:TA}{name:Str}{apos cpos:Pos}{T id:String}{r:V->List V->Hp->VK->Prop}
theorem zCc(pa:PlainAttrs T)(slot:Slot T name id)(hty:typeOf (.builtin id)=pure (.type "method_descriptor"))(hm:Ew X id r)(ho:PE X o to)
  (hbase:attributeBase o name X.env (eval o X.env)=eval o X.env:=by rfl) (hline:(apos.endLine == cpos.line)=true:=by rfl):PE X (.Call (.Attribute o name apos) [] [] cpos) (Rj X.K T r to):=by
 intro pins s σ H Q I h;refine wpAny_Call_method0_late hbase hline (au (ho pins s σ H _ I h) λv s1 ⟨x,H1,I1,r1,ty,q1⟩=>?_);obtain⟨h1,h2⟩:=Tx I1 r1 ty;exact⟨T,id,pa,slot,hty,h1,h2,Qc rfl (PySem.evalArgs_none (hm pins s1 σ H1 x [] v [] Q I1 r1 .nil q1))⟩
theorem cq(pa:PlainAttrs T)(slot:Slot T name id)(hty:typeOf (.builtin id)=pure (.type "method_descriptor"))(hm:Ew X id r)(ho:PE X o to)(ha:PA X (e::es) t)
  (hbase:attributeBase o name X.env (eval o X.env)=eval o X.env:=by rfl)
  (hfew:((Wh cpos (wC (e::es) X.env)).all (λx=>!x.1)&&(backToKw cpos (qw [] X.env)).all (λx=>x.1.isSome)
   && decide ((e::es).length+([]:List Keyword).length+(if([]:List Keyword).isEmpty then 0 else 1)<30))=true:=by rfl)
  (hline:(apos.endLine == cpos.line)=true:=by rfl) (hs:wC (e::es) X.env=(false,eval e X.env)::wC es X.env:=by rfl) (hplain:(Wh cpos (wC es X.env)).any (·.1)=false:=by rfl) :
  PE X (.Call (.Attribute o name apos) (e::es) [] cpos) (mM X.K T r to t):=by
 intro pins s σ H Q I h;refine wpAny_Call_method_late hbase hfew hline rfl (au (ho pins s σ H _ I h) λv s1 ⟨x,H1,I1,r1,ty,q1⟩=>?_);obtain⟨h1,h2⟩:=Tx I1 r1 ty;refine⟨T,id,pa,slot,hty,h1,h2,?_⟩;have hA:=ha cpos pins s1 σ H1 _ I1 q1;rw[hs]at hA ⊢;refine Qc (by show(false || (Wh cpos (wC es X.env)).any (·.1))=false;rw[hplain]<;>rfl) (Qo ?_);exact au hA λus s2 ⟨vs,H2,I2,r2,q2⟩=>hm pins s2 σ H2 x vs v us Q I2 r1 r2 q2
end
def cf(X:Cx)(id:String)(r:V->List V->Hp->VK->Prop):Prop :=
 ∀(pins:List (wc × Obj))(s:wl)(σ : St)(H:Hp)(x:V)(xs:List V)(v:wd)(us:List wd)(Q:VK),Inv X pins σ H s->aV x v->aE xs us->r x xs H Q ->
  wq (model X.prog X.w) X.A (call (.builtin id) (v::us)) (EP X pins σ Q) X.xe s
theorem aE.one:∀{x:V}{us:List wd},aE [x] us->∃u,us=[u]/\aV x u
 | _,_,.cons r .nil=>⟨_,rfl,r⟩
theorem aE.zero:∀{us:List wd},aE [] us->us=[]
 | _,.nil=>rfl
theorem aE.dropLast{xs:List V}{us:List wd}(h:aE xs us):aE xs.dropLast us.dropLast:=by
 induction h with
 | nil=>exact .nil
 | cons r t ih =>
  cases t with
  | nil=>exact .nil
  | cons q t'=>exact .cons r ih
theorem aE.rep{xs:List V}{us:List wd}(h:aE xs us):∀k:Nat,aE (ve k xs).flatten (ve k us).flatten
 | 0=>.nil
 | k+1=>by
  rw[WP,WP,Vn,Vn];exact aE.append h (aE.rep h k)
theorem Y6{α : Type}(l:List α):l.eraseIdx (l.length-1)=l.dropLast:=by
 induction l with
 | nil=>rfl
 | cons a r ih =>
  cases r with
  | nil=>rfl
  | cons b r =>
   have e:(a::b::r).length-1=((b::r).length-1)+1:=by
    have h1:(a::b::r).length=r.length+2:=rfl;have h2:(b::r).length=r.length+1:=rfl
    lia
   rw[e,List.eraseIdx_cons_succ,ih]
   all_goals rfl
theorem Oj(its:List wd):∀(k:Nat)(acc:List wd),
  XV (λx1 x2=>x1++x2) acc.toArray (ve k its.toArray)=(acc++(ve k its).flatten).toArray
 | 0,acc=>by simp
 | k+1,acc=>by
  have e:acc.toArray++its.toArray=(acc++its).toArray:=by simp
  have e2:(acc++its)++(ve k its).flatten=acc++(ve (k+1) its).flatten:=by
   rw[WP,Vn,Vo]
  rw[<- e2,<- Oj its k (acc++its),<- e,WP,List.foldl_cons]
section
variable{X:Cx}{pins:List (wc × Obj)}{σ : St}{H:Hp}{s:wl}{l b:wc}{xs ys zs:List V}
theorem Inv.Kk{its its':List wd}{n:Nat}{f:Array wd->Array wd}{t':Nat}(I:Inv X pins σ H s)(hH:H l=some (.lst xs))
  (e:s.heap.get? l=some {cls:=.type "list",data:=.seq its.toArray n}) (hf:f its.toArray=its'.toArray) (hv:aE ys its') (hz:ys.length<=wr) :
  Inv X pins σ (upd H l (.lst ys)) {s with heap:=s.heap.update l (Q6 f),toks:=t'}:=by
 have q:=PySem.IsL.update e f;rw[hf]at q;refine I.write (x:=l) (e:=l) (by rw[hH];exact trivial) (.inl rfl) (λb' u hb hu=>(Qb s.heap (Q6 f) (WC hb)).trans hu) ⟨_,q⟩ ?_;exact⟨hz,its',_,hv,q⟩
theorem Inv.r_{its:List wd}{t':Nat}(I:Inv X pins σ H s)(hv:aE ys its)(hz:ys.length<=wr) :
  Inv X pins σ (upd H s.heap.objs.size (.lst ys)) {s with heap:=s.heap.push {cls:=.type "list",data:=.seq its.toArray},toks:=t'} :=
 I.laid (λ_ _ q=>wn _ q) (wo _) ⟨hz,its,0,hv,wL _ rfl⟩
theorem Inv.fresh(I:Inv X pins σ H s):H s.heap.objs.size=none:=I.az.fresh (wo _)
theorem Inv.oz(I:Inv X pins σ H s)(hH:H l=some (.lst xs)):xs.length<=wr /\ ∃(its:List wd)(n:Nat),aE xs its/\xs.length=its.length/\s.heap.get? l=some {cls:=.type "list",data:=.seq its.toArray n}:=by
 obtain⟨z,its,n,r,e⟩:=I.az l _ hH;exact⟨z,its,n,r,r.length,e⟩
theorem zxg{n:Nat}(h:n<=wr):qL n=false:=by
 unfold qL;exact decide_eq_false (by lia)
end
section
variable{X:Cx}
def OM:V->List V->Hp->VK->Prop:=λx vs H Q=>∃l xs y,x=.ref l/\vs=[y]/\H l=some (.lst xs)/\xs.length<wr/\Q .bh (upd H l (.lst (xs++[y])))
theorem nY:cf X "list.append" OM:=by
 intro pins s σ H x vs v us Q I rx rv h;obtain⟨l,xs,y,rfl,rfl,hH,hz,q⟩:=h;cases rx;obtain⟨u,rfl,ru⟩:=rv.one;obtain⟨z,its,n,r,hl,e⟩:=I.oz hH;refine Vt F.slot_list_append ⟨_,e,rfl⟩ F.entry_list_append (F.args_list_append_2 _ _) (PySem.list_append l its.toArray n u (by rw[wP];lia)) ⟨e,?_⟩;refine⟨.bh,_,I.Kk (its':=its++[u]) hH e (by simp) (r.append (.cons ru .nil)) ?_,rfl,q⟩;rw[vc,WD]
 lia
def Mh:V->List V->Hp->VK->Prop:=λx vs H Q=>∃l xs y,x=.ref l/\vs=[]/\H l=some (.lst xs)/\xs[xs.length-1]? = some y/\Q y (upd H l (.lst xs.dropLast))
theorem zCR:cf X "list.pop" Mh:=by
 intro pins s σ H x vs v us Q I rx rv h;obtain⟨l,xs,y,rfl,rfl,hH,hy,q⟩:=h;cases rx;have hus:=rv.zero;subst hus;obtain⟨z,its,n,r,hl,e⟩:=I.oz hH;obtain⟨u,hu,ru⟩:=r.get hy
 have hy':its.toArray[its.toArray.size-1]? = some u:=by
  show its.toArray[its.length-1]? = some u
  rw[<- Qi,<- hl];exact hu
 refine Vt F.slot_list_pop ⟨_,e,rfl⟩ F.entry_list_pop (F.args_list_pop_1 _) (MeetsSeq.list_pop_last l its.toArray n u hy' (by rw[wP];lia)) ⟨e,?_⟩;refine⟨y,_,I.Kk (its':=its.dropLast) hH e ?_ r.dropLast ?_,ru,q⟩
 ·show its.toArray.eraseIdxIfInBounds (its.toArray.size-1)=its.dropLast.toArray
  rw[wP,List.eraseIdxIfInBounds_toArray,Y6]
 ·rw[xH]
  lia
def Bu:R2:=λx y H Q=>∃l b xs zs,x=.ref l/\y=.ref b/\H l=some (.lst xs)/\H b=some (.lst zs)/\xs.length+zs.length<=wr /\ ∀p,H p=none->Q (.ref p) (upd H p (.lst (xs++zs)))
theorem zB0:aY X (Wu .Add) Bu:=by
 intro pins s σ H x y v u Q I rx ry h;obtain⟨l,b,xs,zs,rfl,rfl,hH,hB,hz,q⟩:=h;cases rx;cases ry;obtain⟨z,its,n,r,hl,e⟩:=I.oz hH;obtain⟨z2,its2,n2,r2,hl2,e2⟩:=I.oz hB;refine PySem.P.add_list e e2 ?_ (by rw[wP,wP];lia);have ea:its.toArray++its2.toArray=(its++its2).toArray:=by simp
 rw[ea];exact⟨.ref _,_,I.r_ (t':=s.toks) (r.append r2) (by rw[vc];lia),rfl,q _ I.fresh⟩
def pS:R2:=λx y H Q=>∃l k xs,x=.ref l/\y=.int k/\H l=some (.lst xs) /\ -(2^63)<=k/\k<2^63/\xs.length*k.toNat<=wr /\
 ∀p,H p=none->Q (.ref p) (upd H p (.lst (ve k.toNat xs).flatten))
theorem zAD{α : Type}(xs:List α)(k:Nat):(ve k xs).flatten.length=k*xs.length:=by
 induction k with
 | zero=>simp
 | succ k ih=>rw[WP,Vn,vc,ih,Nat.succ_mul,Nat.add_comm]
theorem TF:aY X (Wu .Mult) pS:=by
 intro pins s σ H x y v u Q I rx ry h;obtain⟨l,k,xs,rfl,rfl,hH,h1,h2,hz,q⟩:=h;cases rx;obtain⟨t,rfl⟩:=ry;obtain⟨z,its,n,r,hl,e⟩:=I.oz hH;have hlen:its.toArray.size*k.toNat<=wr:=by rw[wP,<- hl];exact hz
 have hcap:¬ its.toArray.size*k.toNat > (2^63-1) / 8:=by
  have:(wr:Nat)<=(2^63-1) / 8:=by decide
  lia
 have hfit:¬ (!Builtin.List.listFitsIndex k)=true:=by
  rw[fitsIndex_both h1 h2];exact vB
 have hlong:¬ qL (its.toArray.size*k.toNat)=true:=by
  rw[zxg hlen];exact vB
 have hnew:XV (λx1 x2=>x1++x2) #[] (ve (if its.toArray.isEmpty=true then 0 else k.toNat) its.toArray)=(ve k.toNat its).flatten.toArray:=by
  have f0:∀m:Nat,XV (λx1 x2=>x1++x2) #[] (ve m its.toArray)=(ve m its).flatten.toArray:=λm=>by
   have:=Oj its m [];rw[Qp]at this;exact this
  rw[f0];cases its with
  | nil=>simp
  | cons a r'=>rw[if_neg (by simp)]
 refine wpAny_binaryOp_repeat_ref (T:="list") (U:="int") (by decide) ⟨_,e,rfl⟩ (λs'=>typeIs_int s' k t) noFill_list_mul F.fills_int_mul XW repeat_list F.slot_int_index.lookup
  (Vt XW (typeIs_int s k t) F.entry_int_rmul (F.args_int_rmul_2 _ _) (int___rmul___int_list k t l its.toArray n)
   ⟨e,rfl,⟨_,e,rfl⟩,Vt F.slot_list_mul ⟨_,e,rfl⟩ F.entry_list_mul (F.args_list_mul_2 _ _) (AutoListH.list___mul___list_int_3 l its.toArray n k t hfit hcap hlong) ⟨e,?_⟩⟩)
 rw[hnew];exact⟨.ref _,_,I.r_ (t':=s.toks) (r.rep k.toNat) (by rw[zAD,Nat.mul_comm];exact hz),rfl,q _ I.fresh⟩
end
section
variable{prog:wO}{w:wN}{A:va}{E:wd->wl->Prop}{s:wl}
end
section
variable{X:Cx}
end
end L2
namespace Att
open PySem PySem.W PySem.Calls PyProof.Rows
theorem zlV{P:Params}{h:wK} : ∀(ns:List Int)(vs:List wd),WellAll P h vs (ns.map WData.int)->IntsAre vs ns:=by
 intro ns
 induction ns with
 | nil =>
  intro vs w;rw[WQ]at w;cases w;exact .nil
 | cons n ns ih =>
  intro vs w;rw[wE]at w;cases w with
  | cons a b =>
   cases a;exact .cons _ _ (ih _ b)
theorem zwh{l:OpenLaw}{n:Nat}(hn:l.most=some n){P:Params}{h:wK}{args:List WData}{vals:List wd}
  (hpre:l.row.toRowW.claim.pre args=true) (hwl:WellAll P h vals args) :
  ∃a vs ns,vals=[Value.ref a]/\args=[WData.list (ns.map WData.int)]/\h.get? a=some {cls:=.type "list",data:=.seq vs.toArray}/\IntsAre vs ns/\ns.length<=n:=by
 have hsh:WShape.hasAll [] args [.list .int]=true:=(pre_splitW hpre).1;have hc:l.pre.holds [] {args:=args}=true:=(pre_splitW hpre).2;obtain⟨d,r,rfl,h1,h2⟩:=hasAllW_cons hsh;obtain rfl:=hasAllW_nil h2;obtain⟨xs,rfl,h3⟩:=hasW_list h1;obtain⟨ns,rfl⟩:=items_int h3
 have hlen:ns.length<=n:=by
  unfold OpenLaw.pre at hc
  have h4:(WTm.not (.lt (.lit (.int (n:Int))) (.len (.arg 0)))).holds [] {args:=[.list (ns.map .int)]}=true:=by
   have h4:=(holds_andW hc).1;rw[hn]at h4;exact h4
  have h5:=condW_of h4 (w_not (w_lt w_lit (w_len_list (w_arg rfl))));rw[we]at h5;refine Nat.le_of_not_lt λq=>?_
  have q':(n:Int)<((ns.length:Nat):Int):=by lia
  first
   | (rw[decide_eq_true q']at h5;exact absurd h5 (by decide))
   | (simp at h5;lia)
 cases hwl with
 | cons w1 w2 =>
  cases w2;cases w1 with
  | list ho hall=>exact⟨_,_,ns,rfl,rfl,ho,zlV ns _ hall,hlen⟩
theorem zwF(l:OpenLaw)(args:List WData):l.row.toRowW.claim.post args (.bool true) args=true :=
 postW_of (r:=l.row.toRowW) (X:=(true == true))
  (show WShape.has [] (.bool true) .bool=true by first | rfl | decide | simp[WShape.has,WShape.arms,WShape.armsAll])
  (show(WTm.eq .res (.lit (.bool true))).value [] {args:=args,res:=some (.bool true),after:=args}=some (.bool (true == true))from w_eq_bool (w_res rfl) w_lit) rfl
theorem U_{l:OpenLaw}{n:Nat}{q:wO}{loose:List Str}{XP:(Str->Option wd)->wK->Prop}{YP:wN->wK->Prop}{d:DefRec}
  (hn:l.most=some n) (hdf:d.params.defaults=[])
  (call:∀(w:wN)(s₀ s₁ : wl)(mg mb:Str->Option wd)(fa:wc)(o:Obj)(pm cd doc:wd)(a:wc)(vs:List wd)(ns:List Int),
   Ground q loose [] XP w s₀ mg mb s₁.heap->YP w s₁.heap ->
   s₁.heap.get? fa=some o->o.data=.func (docDef d.name d.params d.body d.scope pm cd doc)->s₁.heap.CodeRec cd d.name->mg d.name=some (.ref fa) ->
   s₁.heap.get? a=some {cls:=.type "list",data:=.seq vs.toArray}->IntsAre vs ns->ns.length<=n->s₁.gens = #[] ->
   VN (model l.prog w) callerA (.call (.ref fa) ⟨[.ref a],[]⟩) (λr s'=>r=.ok (.ret (.bool true))/\OldK s₁.heap s'.heap/\s'.os=s₁.os/\VL s'.gens) s₁) :
  WalkO q loose XP YP l.row.toRowW d [] (λf vs=>XX f vs):=by
 intro w s₀ s₁ mg mb G Y fa o pm cd doc dV kV ho hd hcd hD hmg hg args vals as hpre hlay hrd hwl hlo;obtain rfl:dV=.none:=Dflts.none hD hdf;obtain rfl:kV=.none:=Dflts.noKw hD;obtain⟨a,vs,ns,rfl,rfl,hobj,hints,hlen⟩:=zwh hn hpre hwl;refine enter_call (qc (call w s₀ s₁ mg mb fa o pm cd doc a vs ns G Y ho (fd_plain hd) hcd hmg hobj hints hlen hg) λr s' hq=>?_);obtain⟨rfl,h2,h3,h4⟩:=hq;exact⟨.inl ⟨.bool true,.bool true,[],rfl,λ_=>rfl,.bool true,zwF l _,λ_=>⟨List.Pairwise.nil,λ_ hm=>(nomatch hm)⟩⟩,h2,h3,h4⟩
section
variable{prog:wO}{w:wN}{A:va}{E:wd->wl->Prop}{s:wl}{K:Frag}
def zEP(h:wK)(L d:wc):List (wc × Obj):=(vP h.objs.size).filterMap λa=>if a=L\/a=d then none else(h.get? a).map λo=>(a,o)
end
end Att
namespace L2
open PySem PySem.Spec PyProof.Rows
theorem Tp:∀{vs:List wd}{ns:List Int},IntsAre vs ns->aE (ns.map V.int) vs
 | _,_,.nil=>.nil
 | _,_,.cons n t h=>.cons ⟨t,rfl⟩ (Tp h)
def zz(H:Hp):Prop:=∀b,H b=none \/ ∃o xs,H b=some (.fH o (.lst xs))
theorem zyS{P:wO}{w:wN}{K:wa}{mg mb:Str->Option wd}{CX:dI}{k:Nat}{fa a:wc}{fd:wt}{x:Str}{sp:Sp}{s₁ : wl}{vs:List wd}{ns:List Int}
   (KX:K.In s₁.heap) (hns:s₁.heap.Ns wB mg) (hb:s₁.heap.Ns builtinsNs mb) (hbb:∀x:Str,x≠"__name__" -> mb x=vG x) (hlim:s₁.heap.NoLimit) (hg:s₁.gens = #[])
   (ha:s₁.heap.get? a=some {cls:=.type "list",data:=.seq vs.toArray}) (hi:IntsAre vs ns) (hl:ns.length<=wr) (hr:bP k callerA)
   (F:∀base:wK,K.In base->base.Ns wB mg->aC P w K mg base CX k fa fd [x] sp) (hbind:∀(s:wl)(u:wd),BindsTo s fd ⟨[u],[]⟩ [(x,u)])
   (hsp:∀H:Hp,zz H->aI K H a (ns.map V.int)->sp [.ref a] H (λv _=>v=.bl true) λ_ _ _=>False)
   (hCX:∀H e s',CX [] H s₁ (λ_ _ _=>False) e s'->False) :
   VN (model P w) callerA (.call (.ref fa) ⟨[.ref a],[]⟩) (λr s'=>r=.ok (.ret (.bool true))/\OldK s₁.heap s'.heap/\s'.os=s₁.os/\VL s'.gens) s₁:=by
 have rv:=Tp hi;have lenV:=hi.length
 have core:∀H:Hp,zz H->aI K H a (ns.map V.int)->cB P w H s₁.heap->(∀b,H b≠none->b=a)->(H a≠none->K.lookup a=none) ->
     VN (model P w) callerA (.call (.ref fa) ⟨[.ref a],[]⟩) (λr s'=>r=.ok (.ret (.bool true))/\OldK s₁.heap s'.heap/\s'.os=s₁.os/\VL s'.gens) s₁:=by
   intro H hO hS az hA hK;have base_of:∀{b:wc}{o:Obj},s₁.heap.get? b=some o->H b=none->(jE s₁.heap H).get? b=some o:=λe n=>zzc e n
   have noA:∀{b:wc}{o:Obj}{es:Array DictEntry}{ep:Nat},s₁.heap.get? b=some o->o.data=.dict es ep->H b=none:=λ{b o es ep} e d=>by
     cases q:H b with
     | none=>rfl
     | some u =>
       have e':b=a:=hA b (by rw[q];simp);subst e';rw[ha]at e;cases e;have d':Data.seq vs.toArray _=Data.dict es ep:=d;cases d'
   have nsK:∀{b:wc}{m:Str->Option wd},s₁.heap.Ns b m->(jE s₁.heap H).Ns b m:=λ{b m} ⟨o,es,ep,e,d,r⟩=>⟨o,es,ep,base_of e (noA e d),d,r⟩
   have hKb:K.In (jE s₁.heap H):=λb o e=>base_of (KX b o e) (by
     cases q:H b with
     | none=>rfl
     | some u =>
       have e':b=a:=hA b (by rw[q];simp);subst e';rw[hK (by rw[q];simp)]at e;cases e)
   have hM:Mod K mg (jE s₁.heap H):=⟨hKb,nsK hns,⟨mb,nsK hb,hbb⟩,let ⟨mc,h1,h2⟩:=hlim;⟨mc,nsK h1,h2⟩⟩;have e0:kG P w K mg (jE s₁.heap H) callerA [] s₁ H:=⟨rfl,hM,λb o e=>zzZ e,Nat.le_of_eq (ZQ _ _),trivial,λb hb=>absurd (show b∈([]:List wc)from hb) (by simp),az,.of_eq hg⟩;refine qc ((F _ hKb (nsK hns)).run callerA [] s₁ H ⟨[.ref a],[]⟩ [.ref a] [.ref a] _ _ hr e0 (hbind s₁ (.ref a)) (.cons rfl .nil) (hsp H hO hS)) λr s' h=>?_
   cases r with
   | error e=>exact(hCX H e s' h).elim
   | ok fl =>
     cases fl with
     | next=>exact vN h
     | brk=>exact vN h
     | cont=>exact vN h
     | ret u =>
       obtain⟨v,H',os,bare,un,hok',r',q⟩:=h;have q':v=.bl true:=q;subst q';obtain rfl:u=Value.bool true:=r';refine⟨rfl,OldK.of_keep λb o e=>?_,os,bare⟩;cases q:H b with
       | none=>exact un.keep b o e q (by intro z;exact absurd (show b∈([]:List wc)from z) (by simp)) (by simp)
       | some u =>
         rcases hO b with z | ⟨ob,xs,z⟩
         . rw[q]at z;cases z
         . have z2:=un.eF b ob _ z
           obtain⟨e1,_⟩:=az b _ z;obtain⟨e2,_⟩:=hok' b _ z2;rw[e]at e1;cases e1;exact e2
 cases hk:K.lookup a with
 | some o =>
   have e:=KX a o hk;rw[ha]at e;cases e;refine core (λ_=>none) (λ_=>.inl rfl) (.inr ⟨_,vs.toArray,_,hk,rfl,rfl,rfl,by rw[wP,lenV];exact hl,by simpa using rv⟩) (λb u z=>by have z':(none:Option HO)=some u:=z;cases z') (λb z=>absurd rfl z) λz=>absurd rfl z
 | none =>
   refine core (λb=>if b=a then some (.fH {cls:=.type "list",data:=.seq vs.toArray} (.lst (ns.map V.int)))else none) (λb=>?_) (.inl (.inr ⟨{cls:=.type "list",data:=.seq vs.toArray},if_pos rfl⟩)) (λb u z=>?_) (λb z=>?_) λ_=>hk
   . by_cases hb:b=a
     . exact .inr ⟨_,_,if_pos hb⟩
     . exact .inl (if_neg hb)
   . by_cases hb:b=a
     . have z':=(if_pos hb).symm.trans z
       cases z';subst hb;exact⟨ha,by rw[we];exact hl,vs,_,rv,ha⟩
     . have z':=(if_neg hb).symm.trans z
       cases z'
   . by_cases hb:b=a
     . exact hb
     . exact absurd (if_neg hb) z
abbrev KOf{K:wa}{h:wK}(_:K.In h):wa:=K
theorem Yx{l:xv}{n k:Nat}{q:wO}{loose:List Str}{XP:(Str->Option wd)->wK->Prop}{YP:wN->wK->Prop}{d:DefRec}{K:Params->wa}{CX:wN->dI}{sp:wN->Sp}{x:Str}
  (hn:l.most=some n) (hn2:n<=wr) (hdf:d.params.defaults=[]) (hr:bP k callerA)
  (hY:∀(w:wN)(h:wK),YP w h->(K w.params).In h)
  (F:∀(w:wN)(mg:Str->Option wd)(fa:wc)(h:wK),(K w.params).In h->h.Ns wB mg->mg d.name=some (.ref fa) ->
   ∃fd:wt,(∀(s:wl)(u:wd),BindsTo s fd ⟨[u],[]⟩ [(x,u)]) /\
    ∀base:wK,(K w.params).In base->base.Ns wB mg->aC l.prog w (K w.params) mg base (CX w) k fa fd [x] (sp w))
  (hsp:∀(w:wN)(H:Hp)(a:wc)(ns:List Int),ns.length<=n->zz H->aI (K w.params) H a (ns.map V.int)->sp w [.ref a] H (λv _=>v=.bl true) λ_ _ _=>False)
  (hCX:∀(w:wN)(H:Hp)(s:wl)(e:wd)(s':wl),CX w [] H s (λ_ _ _=>False) e s'->False) :
  um q loose XP YP l.row.toRowW d [] (λf vs=>XX f vs):=by
 refine Att.U_ hn hdf λw s₀ s₁ mg mb fa o pm cd doc a vs ns G Y ho hd hcd hmg hobj hints hlen hg=>?_
 have KX:=hY w _ Y;obtain⟨fd,hb,hF⟩:=F w mg fa _ KX G.T.g hmg;exact zyS KX G.T.g G.T.b G.T.builtins G.T.nolimit hg hobj hints (w5 hlen hn2) hr hF hb (λH hO hS=>hsp w H a ns hlen hO hS) λH e s'=>hCX w H s₁ e s'
def kQ(s:wJ):Arguments:=match s with
 | .FunctionDef _ a _ _ _ _ _ _ _ _=>a
 | _=>{posonlyargs:=[],args:=[],vararg:=none,kwonlyargs:=[],kw_defaults:=[],kwarg:=none,defaults:=[]}
def iE(s:wJ):List wJ:=match s with
 | .FunctionDef _ _ b _ _ _ _ _ _ _=>b
 | _=>[]
def aD(s:wJ):Scope:=match s with
 | .FunctionDef _ _ _ _ _ _ sc _ _ _=>sc
 | _=>{kind:=.function,names:=[],isGenerator:=false,isCoroutine:=false}
abbrev aO:dI:=λ_ _ _ _ _ _=>False
abbrev E0:XK:=λ_ _ _=>False
theorem Lu{X:Cx} : d_ aO X E0:=λ_ _ _ _ _ _ _ h=>h.elim
structure ik(K:wa)(x qual:Str)(st:wJ)(f:wc)(fd:wt):Prop where
 ex:∃(oc:wd)(od:Option wc)(kV doc pm:wd)(an:Option wc)(cdv ct:wd)(osl:Array (Option wd)),
   fd=WI x qual (kQ st) (iE st) (aD st) .none kV doc pm an cdv ct/\K.lookup f=some ⟨oc,od,.func fd,osl⟩/\V6 K cdv qual=true
 kp:Wl K (.ref f)=true
section
variable{P:wO}{w:wN}{K:wa}{mg:Str->Option wd}{base:wK}
variable{qual x:Str}{f:wc}
theorem ik.ok{st:wJ}{fd:wt}{N ps:List Str}{k:Nat}{sp:Sp}(F:ik K x qual st f fd)(S:aH N ps (aD st))(len:∀vs H Q E,sp vs H Q E->vs.length=ps.length)
  (hbody:∀(cdv:wd)(A:va)(outer:List Env)(s:wl)(H:Hp)(vs:List V)(Q:VK)(E:XK),bP k (A.deeper (envOfC qual (aD st) s.heap.objs.size f cdv))->sp vs H Q E ->
   ∃t,dG (fb aO P w K mg base N qual (aD st) f cdv A outer s H E).kP (iE st) t/\t {nx:=λ_ H'=>Q .bh H',rt:=Q} (start N vs) H):aC P w K mg base aO (k+1) f fd ps sp:=by
 obtain⟨oc,od,kV,doc,pm,an,cdv,ct,osl,rfl,lk,hcd⟩:=F.ex;refine Mi lk hcd S len λA outer s H vs Q E hr hsp=>?_
 obtain⟨t,h,q⟩:=hbody cdv A outer s H vs Q E hr hsp;exact⟨t,h.kP,q⟩
theorem ik.binds{st:wJ}{fd:wt}{ps:List Str}(F:ik K x qual st f fd)
  (h:∀(kV doc pm:wd)(an:Option wc)(cdv ct:wd)(us:List wd),us.length=ps.length->bindArgs (WI x qual (kQ st) (iE st) (aD st) .none kV doc pm an cdv ct) ⟨us,[]⟩=pure (ps.zip us)):dN K fd ps []:=by
 obtain⟨oc,od,kV,doc,pm,an,cdv,ct,osl,rfl,lk,hcd⟩:=F.ex;exact .all (h kV doc pm an cdv ct)
theorem Dj{st:wJ}{oc:wd}{od an:Option wc}{osl:Array (Option wd)}{kV doc pm cdv ct:wd}(l:K.lookup f=some ⟨oc,od,.func (WI x qual (kQ st) (iE st) (aD st) .none kV doc pm an cdv ct),osl⟩)
  (c:V6 K cdv qual=true) (k:Wl K (.ref f)=true):ik K x qual st f (WI x qual (kQ st) (iE st) (aD st) .none kV doc pm an cdv ct):=⟨⟨oc,od,kV,doc,pm,an,cdv,ct,osl,rfl,l,c⟩,k⟩
end
theorem nC{n:Nat}(h:n<=1000):n<wr:=Xf h (by decide)
section
variable{X:Cx}
theorem pv(i:Nat){x:Str}{pos:Pos}(hN:X.N[i]? = some x:=by rfl)(hv:yQ X.env.scope x:=by first | exact Or.inl rfl | exact Or.inr (Or.inl rfl) | exact Or.inr (Or.inr rfl))(hd:(x == ("__debug__" : Str))=false:=by decide)
  (hcd:(x == ("__classdict__" : Str))=false:=by decide):PE X (.Name x pos) (cQ i):=Kr hN hv hd hcd
end
theorem m8{A B:Prop}(h:B):if false=true then A else B:=by
 rw[if_neg vB];exact h
theorem nB{A B:Prop}(h:A):if true=true then A else B:=by
 rw[if_pos rfl];exact h
def ae(H H':Hp):Prop:=∀b o,H b=some o->H' b=some o
theorem ae.refl(H:Hp):ae H H:=λ_ _ h=>h
theorem ae.trans{H H1 H2:Hp}(a:ae H H1)(b:ae H1 H2):ae H H2:=λc o h=>b c o (a c o h)
theorem ae.seq{K:wa}{H H':Hp}{a:wc}{xs:List V}(e:ae H H')(h:aI K H a xs):aI K H' a xs:=by
 rcases h with(h | ⟨o,h⟩) | h
 ·exact .inl (.inl (e _ _ h))
 ·exact .inl (.inr ⟨o,e _ _ h⟩)
 ·exact .inr h
end L2
namespace GM
variable{B c d t u:Int}{a b h x y:Rat}{k m n w:Nat}{ps xs:List Rat}
def dv(t b:Int):Int:=if b<0 then -((vo t b:Nat):Int)else((vo t b:Nat):Int)
theorem EX{b:Int}(hb:b≠0):0<vo t b:=V7 t hb
theorem OJ{b:Int}(hb:b≠0):dv t b≠0:=by
 have:=EX (t:=t) hb;unfold dv
 split<;>lia
theorem ff{a:Int}(h:d ∣ a)(hd:d≠0):a.fdiv d=a / d:=by
 obtain⟨k,rfl⟩:=h;rw[Int.mul_fdiv_cancel_left _ hd,VB _ hd]
theorem Sj{b:Int}(hb:b≠0):t.fdiv (dv t b)=(wR t b).num:=by
 have hg:=EX (t:=t) hb;have h1:((vo t b:Nat):Int) ∣ t:=qh ..;rw[Rat.num_divInt,Xg b t];unfold dv
 by_cases h:b<0
 ·rw[if_pos h,Int.sign_eq_neg_one_of_neg h,ff (Xz.mpr h1) (by lia),Int.ediv_neg]
  obtain⟨k,hk⟩:=h1;have:(-1:Int)*t=((vo t b:Nat):Int)*(-k):=by rw[Int.neg_one_mul,Int.mul_neg,<- hk]
  rw[this,VB _ (by lia)];have e:t / ((vo t b:Nat):Int)=k:=QJ (by lia) hk;rw[e]
 ·rw[if_neg h,Int.sign_eq_one_of_pos (by lia),Int.one_mul,ff h1 (by lia)]
theorem zCH{b:Int}(hb:b≠0):b.fdiv (dv t b)=((wR t b).den:Int):=by
 have hg:=EX (t:=t) hb;have h1:((vo t b:Nat):Int) ∣ b:=qT ..;rw[uc,if_neg hb,Xg b t];unfold dv
 by_cases h:b<0
 ·rw[if_pos h,ff (Xz.mpr h1) (by lia),Int.ediv_neg,VC]
  obtain⟨k,hk⟩:=h1;have:(b.natAbs:Int)=((vo t b:Nat):Int)*(-k):=by rw[Int.mul_neg,<- hk];lia
  rw[this,VB _ (by lia)];have e:b / ((vo t b:Nat):Int)=k:=QJ (by lia) hk;rw[e]
 ·rw[if_neg h,ff h1 (by lia),VC]
  have:(b.natAbs:Int)=b:=by lia
  rw[this]
def eP(p q:Int):Bool:=decide (1<=q)&&decide (vo p q=1)
theorem CK(r:Rat):eP r.num r.den=true:=by
 have h:=r.reduced;have hd:=r.den_pos;simp only[eP,wy,decide_eq_true_eq];refine⟨by lia,?_⟩;have:Nat.gcd r.num.natAbs r.den=1:=h
 simpa [vo] using this
theorem Cd{p q:Int}(h:eP p q=true):∃r:Rat,p=r.num/\q=(r.den:Int):=by
 simp only[eP,wy,decide_eq_true_eq]at h;obtain⟨h1,h2⟩:=h;refine⟨⟨p,q.toNat,by lia,?_⟩,rfl,by show q=((q.toNat:Nat):Int);lia⟩;have e:q.toNat=q.natAbs:=by lia
 rw[e];exact h2
theorem Sk{a b:Int}(hb:0<b)(ha:0<=a):vo b (a % b)=vo a b:=by
 rw[Xg a b];have e:a=a % b+b*(a / b):=(Int.emod_add_mul_ediv a b).symm
 conv=>rhs;rw[e]
 rw[Int.gcd_add_mul_left_right]
structure Bd(n:Nat)(x:Int):Prop where
 lt:x.natAbs<2^n
theorem Bd.mono{x:Int}(h:Bd m x)(e:m<=n):Bd n x:=⟨wX h.lt (WZ (by decide) e)⟩
theorem Bd.mul{x y:Int}(h:Bd m x)(k:Bd n y):Bd (m+n) (x*y):=by
 refine⟨?_⟩;rw[Int.natAbs_mul,Nat.pow_add];exact Nat.mul_lt_mul'' h.lt k.lt
theorem Bd.add{x y:Int}(h:Bd m x)(k:Bd n y):Bd (max m n+1) (x+y):=by
 have h1:=(h.mono (XY m n)).lt;have h2:=(k.mono (XG m n)).lt;refine⟨?_⟩;rw[xa]
 lia
theorem Bd.sub{x y:Int}(h:Bd m x)(k:Bd n y):Bd (max m n+1) (x-y):=by
 have h1:=(h.mono (XY m n)).lt;have h2:=(k.mono (XG m n)).lt;refine⟨?_⟩;rw[xa]
 lia
theorem Bd.neg{x:Int}(h:Bd n x):Bd n (-x):=⟨by rw[Int.natAbs_neg];exact h.lt⟩
theorem Bd.le{x y:Int}(h:Bd n x)(e:y.natAbs<=x.natAbs):Bd n y:=⟨Xf e h.lt⟩
theorem Bd.log{x:Int}(h:Bd n x)(hn:0<n):x.natAbs.log2<n:=by
 by_cases e:x.natAbs=0
 ·rw[e];exact hn
 ·exact(XA e).mpr h.lt
theorem zDo(t b:Int)(hb:b≠0):(wR t b).num.natAbs<=t.natAbs:=by
 rw[<- Sj hb]
 have h1:dv t b ∣ t:=by
  have:((vo t b:Nat):Int) ∣ t:=qh ..;unfold dv;split
  ·exact Xz.mpr this
  ·exact this
 rw[ff h1 (OJ hb)];exact Q7 t _
theorem FA(t b:Int)(hb:b≠0):(wR t b).den<=b.natAbs:=by
 rw[uc,if_neg hb];exact Nat.div_le_self _ _
structure ah(n:Nat)(x:Rat):Prop where
 t:Bd n x.num
 b:Bd n (x.den:Int)
theorem ah.mono(h:ah m x)(e:m<=n):ah n x:=⟨h.t.mono e,h.b.mono e⟩
theorem ah.divInt{b:Int}(hb:b≠0)(h1:Bd n t)(h2:Bd n b):ah n (wR t b) :=
 ⟨h1.le (zDo t b hb),h2.le (by have:=FA t b hb;simpa using this)⟩
theorem Bd.mF{m:Int}(h1 : -100000000000000000000000000000000000000<=m)(h2:m<=100000000000000000000000000000000000000):Bd 128 m:=⟨by
 have e:(2:Nat)^128=340282366920938463463374607431768211456:=by decide
 rw[e]
 lia⟩
theorem mz(x:Rat):(x.den:Int)≠0:=by have:=x.den_pos;lia
theorem den_pos(x:Rat):(0:Int)<(x.den:Int):=by have:=x.den_pos;lia
theorem Dl(x y:Rat):(x.den:Int)*(y.den:Int)≠0:=xw (mz x) (mz y)
theorem zBW(x y:Rat):wR (x.num*(y.den:Int)+y.num*(x.den:Int)) ((x.den:Int)*(y.den:Int))=x+y:=by
 rw[<- VR,xb,Rat.add_def']
theorem zCi(x y:Rat):wR (x.num*(y.den:Int)-y.num*(x.den:Int)) ((x.den:Int)*(y.den:Int))=x-y:=by
 rw[<- VR,xb,Rat.sub_def']
theorem zCo(x y:Rat):wR (x.num*y.num) ((x.den:Int)*(y.den:Int))=x*y:=by
 rw[<- VR,xb,Rat.mul_def']
theorem zD7(x y:Rat):decide (x.num*(y.den:Int)<y.num*(x.den:Int))=decide (x<y):=by
 rw[Wy,decide_eq_true_eq,decide_eq_true_eq,xI]
theorem ah.add(h:ah m x)(k:ah n y):ah (m+n+1) (x+y):=by
 rw[<- zBW];refine ah.divInt (Dl x y) ?_ ((h.b.mul k.b).mono (by lia));exact((h.t.mul k.b).add (k.t.mul h.b)).mono (by lia)
theorem ah.sub(h:ah m x)(k:ah n y):ah (m+n+1) (x-y):=by
 rw[<- zCi];refine ah.divInt (Dl x y) ?_ ((h.b.mul k.b).mono (by lia));exact((h.t.mul k.b).sub (k.t.mul h.b)).mono (by lia)
theorem ah.mul(h:ah m x)(k:ah n y):ah (m+n) (x*y):=by
 rw[<- zCo];exact ah.divInt (Dl x y) (h.t.mul k.t) (h.b.mul k.b)
theorem ah.zero :ah 1 0:=⟨⟨by decide⟩,⟨by decide⟩⟩
theorem ah.one :ah 1 1:=⟨⟨by decide⟩,⟨by decide⟩⟩
def cx(a b:Rat):Nat->Rat
 | 0=>0
 | n+1=>a*cx a b n+b
def push(a b:Rat):Nat->Rat->Rat
 | 0,x=>x
 | n+1,x=>a*push a b n x+b
theorem zAc(a b:Rat)(n:Nat)(x:Rat):push a b n x=a^n*x+cx a b n:=by
 induction n with
 | zero=>simp[push,cx,Rat.add_zero,Xh]
 | succ n ih=>rw[push,ih,cx,Xi];grind
theorem ah.pow(h:ah k a)(n:Nat):ah (k*n+1) (a^n):=by
 induction n with
 | zero=>rw[Xh];exact ah.one.mono (by lia)
 | succ n ih=>rw[Xi];exact(ih.mul h).mono (by rw[Nat.mul_succ];lia)
theorem ah.cx(h:ah k a)(hb:ah k b)(n:Nat):ah ((2*k+1)*n+1) (cx a b n):=by
 induction n with
 | zero=>exact ah.zero.mono (by lia)
 | succ n ih=>exact((h.mul ih).add hb).mono (by rw[Nat.mul_succ];lia)
theorem hJ(t:Int)(hu:u≠0):(wR t u)*(u:Rat)=(t:Rat):=by
 rw[Rat.divInt_eq_div];exact Rat.div_mul_cancel λz=>hu (xm.mp z)
theorem A_(x:Rat):x*((x.den:Int):Rat)=(x.num:Rat):=by
 have:=hJ x.num (mz x)
 rwa[VS]at this
theorem zp(hu:u≠0)(h:x*(u:Rat)=(t:Rat)):wR t u=x:=by
 have h1:=hJ t hu;have h2:(wR t u-x)*(u:Rat)=0:=by grind
 have h3:(u:Rat)≠0:=by
  intro z;exact hu (xm.mp z)
 have:=Rat.mul_eq_zero.mp h2
 grind
theorem zws(a b:Rat)(t u:Int)(hu:u≠0):wR (a.num*b.den*t+b.num*a.den*u) (u*a.den*b.den)=a*wR t u+b:=by
 refine zp (xw (xw hu (mz a)) (mz b)) ?_;have h1:=hJ t hu;have h2:=A_ a;have h3:=A_ b;simp only[Wz,XZ]
 grind
theorem zw7(h:0<a)(n:Nat):0<a^n:=Rat.pow_pos h
theorem sU(h:0<u):(0:Rat)<(u:Rat):=xx.mpr h
theorem zso(hu:0<u)(ht:0<t):0<wR t u:=by
 have e:=hJ t (show u≠0 by lia);have:=sU ht;rw[<- e]at this;exact(Rat.mul_pos_iff_of_pos_right (sU hu)).mp this
theorem NU(hu:0<u)(h:t<=c*u):wR t u<=(c:Rat):=by
 have e:=hJ t (show u≠0 by lia);refine Rat.le_of_mul_le_mul_right (c:=(u:Rat)) ?_ (sU hu);rw[e,<- Wz];exact xA.mpr h
theorem zuv(hu:0<u)(h:t<c*u):wR t u<(c:Rat):=by
 have e:=hJ t (show u≠0 by lia);refine Rat.lt_of_mul_lt_mul_right (c:=(u:Rat)) ?_ (qM (sU hu));rw[e,<- Wz];exact Rat.intCast_lt_intCast.mpr h
theorem OQ(hu:0<u):((wR t u).den:Int)<=u:=by
 have:=FA t u (by lia)
 lia
theorem zv7(h:x<=(c:Rat)):x.num<=c*x.den:=by
 have:=(xJ x c).mp h
 simpa using this
theorem zB9(h:0<=x):0<=x.num:=W7.mpr h
theorem ah.small{c d:Nat}(h0:0<=x)(hc:x<=((c:Int):Rat))(hd:x.den<=d)(z:c*d<1024)(hd2:d<1024):ah 10 x:=by
 have h1:=zv7 hc;have h2:=zB9 h0;have h3:(c:Int)*(x.den:Int)<=(c:Int)*(d:Int):=Int.mul_le_mul_of_nonneg_left (by lia) (by lia);have h4:(c:Int)*(d:Int)<1024:=by rw[<- VR];lia
 refine⟨⟨?_⟩,⟨?_⟩⟩
 ·show _<1024
  lia
 ·show _<1024
  lia
theorem zDR{z:Int}(e:x=wR z u)(h1:1<=u)(h2:u<=8)(h3:1<=z)(h4:z<=4*u):0<x/\x<=4/\x.den<=8:=by
 subst e;refine⟨zso (by lia) (by lia),NU (c:=4) (by lia) h4,?_⟩;have:=OQ (t:=z) (show 0<u by lia)
 lia
theorem zD5{r:Int}(e:y=wR r u)(h1:1<=u)(h2:u<=12)(h3:0<=r)(h4:r<=u):0<=y/\y<=1/\y.den<=12:=by
 subst e;refine⟨Xn h3 (by lia),NU (c:=1) (by lia) (by lia),?_⟩;have:=OQ (t:=r) (show 0<u by lia)
 lia
theorem ah.four :ah 3 4:=⟨⟨by decide +kernel⟩,⟨by decide +kernel⟩⟩
def Cm(m:Nat)(xs:List Rat):Prop:=∃B:Int,0<B/\Bd m B /\ ∀x∈xs,∃t:Int,x=wR t B/\Bd m t
theorem Cm.mono(h:Cm m xs)(e:m<=n):Cm n xs:=by
 obtain⟨B,h0,h1,h2⟩:=h;exact⟨B,h0,h1.mono e,λx hx=>let ⟨t,e1,e2⟩:=h2 x hx;⟨t,e1,e2.mono e⟩⟩
theorem Cm.jP(h:Cm m xs)(hx:x∈xs):ah m x:=by
 obtain⟨B,h0,h1,h2⟩:=h;obtain⟨t,rfl,ht⟩:=h2 x hx;exact ah.divInt (by lia) ht h1
theorem Cm.pos(h:Cm m xs):1<=m:=by
 obtain⟨B,h0,h1,_⟩:=h;cases m with
 | zero=>have:=h1.lt;simp at this;lia
 | succ m=>lia
theorem Cm.get(h:Cm m xs)(i:Nat):ah m (xs.getD i 0):=by
 rcases vt i xs.length with z | z
 ·rw[wk,wg z]
  exact h.jP (Wi z)
 ·rw[wk,vj z]
  exact ah.zero.mono h.pos
theorem Ed{a b:Rat}(ba:ah 10 a)(bb:ah 10 b){m:Nat}{t u:Int}(hu:0<u)(bt:Bd m t)(bu:Bd m u):∀n:Nat,0<u*((a.den:Int)*(b.den:Int))^n/\Bd (m+21*n) (u*((a.den:Int)*(b.den:Int))^n) /\
  ∃T:Int,push a b n (wR t u)=wR T (u*((a.den:Int)*(b.den:Int))^n)/\Bd (m+21*n) T
 | 0=>⟨by simpa using hu,by simpa using bu,t,by simp[push],by simpa using bt⟩
 | n+1=>by
  obtain⟨h1,h2,T,e,hT⟩:=Ed ba bb hu bt bu n;have eb:u*((a.den:Int)*(b.den:Int))^(n+1)=u*((a.den:Int)*(b.den:Int))^n*(a.den:Int)*(b.den:Int):=by rw[Int.pow_succ,<- xP,xP (u*_)]
  rw[eb];refine⟨QG (QG h1 (den_pos a)) (den_pos b),((h2.mul ba.b).mul bb.b).mono (by lia),a.num*(b.den:Int)*T+b.num*(a.den:Int)*(u*((a.den:Int)*(b.den:Int))^n),?_,(((ba.t.mul bb.b).mul hT).add ((bb.t.mul ba.b).mul h2)).mono (by lia)⟩;rw[push,e];exact(zws a b T _ (by lia)).symm
def zEn(a b:Rat)(n:Nat)(xs:List Rat):List Rat:=(xs.tail.map λy=>push a b n (y+(1-xs.headD 0)))++[0]
def turned(a b:Rat)(ns:List Int)(xs:List Rat):Nat->List Rat
 | 0=>xs
 | k+1=>zEn a b (ns.getD k 0).toNat (turned a b ns xs k)
def nQ(xs:List Rat):Nat->Int
 | 0=>1
 | k+1=>nQ xs k*((xs.getD k 0).den:Int)
theorem NH(xs:List Rat):∀k,0<nQ xs k
 | 0=>by show(0:Int)<1;decide
 | k+1=>QG (NH xs k) (den_pos _)
theorem SA(xs:List Rat):∀k j,j<k->((xs.getD j 0).den:Int) ∣ nQ xs k
 | 0,j,h=>by lia
 | k+1,j,h=>by
  rcases vt j k with z | z
  ·exact xQ (SA xs k j z) (Xo ..)
  ·have:j=k:=by lia
   subst this;exact Int.dvd_mul_left ..
theorem Mn{xs:List Rat}{m:Nat}(h:∀i,ah m (xs.getD i 0)):∀k,Bd (m*k+1) (nQ xs k)
 | 0=>⟨by show(1:Int).natAbs<_;simp⟩
 | k+1=>by
  rw[nQ];refine((Mn h k).mul (h k).b).mono ?_;rw[Nat.mul_add];lia
theorem zut(hB:0<B)(h:(x.den:Int) ∣ B):wR (x.num*B.fdiv x.den) B=x:=by
 obtain⟨c,rfl⟩:=h;rw[ff (Xo ..) (mz x),VB _ (mz x)];refine zp (by lia) ?_;have:=A_ x;rw[Wz,Wz,<- this]
 grind
theorem zAB(hd:0<d)(hB:0<B)(h:Bd m B):Bd m (B.fdiv d):=by
 refine h.le ?_;rw[Int.fdiv_eq_ediv_of_nonneg _ (by lia)];have h1:0<=B / d:=Int.ediv_nonneg (by lia) (by lia);have h2:B / d<=B:=Int.ediv_le_self _ (by lia)
 lia
theorem Nn(x y:Rat):((x*y).num=x.num / (x.num.natAbs.gcd y.den:Nat)*(y.num / (y.num.natAbs.gcd x.den:Nat)))/\((x*y).den=x.den / (y.num.natAbs.gcd x.den)*(y.den / (x.num.natAbs.gcd y.den))):=by
 show(Rat.mul x y).num=_/\(Rat.mul x y).den=_
 unfold Rat.mul;simp only[Int.divExact_eq_ediv,Nat.divExact_eq_div]
 constructor<;>trivial
theorem Ks(x y:Rat):((x+y).num=(x.num*((y.den / x.den.gcd y.den:Nat):Int)+y.num*((x.den / x.den.gcd y.den:Nat):Int)) / (((x.num*((y.den / x.den.gcd y.den:Nat):Int)+y.num*((x.den / x.den.gcd y.den:Nat):Int)).natAbs.gcd (x.den.gcd y.den):Nat):Int))/\((x+y).den=x.den / (x.den.gcd y.den)*(y.den / ((x.num*((y.den / x.den.gcd y.den:Nat):Int)+y.num*((x.den / x.den.gcd y.den:Nat):Int)).natAbs.gcd (x.den.gcd y.den)))):=by
 show(Rat.add x y).num=_/\(Rat.add x y).den=_
 unfold Rat.add
 by_cases hg:x.den.gcd y.den=1
 ·simp[hg]
 ·simp only[hg,dite_false,Rat.maybeNormalize_eq]
  refine⟨by simp,?_⟩;simp;have:(x.num*((y.den / x.den.gcd y.den:Nat):Int)+y.num*((x.den / x.den.gcd y.den:Nat):Int)).natAbs.gcd (x.den.gcd y.den) ∣ y.den:=Nat.dvd_trans (Xp _ _) (Xp _ _);simp at this;rw[Nat.mul_div_assoc _ this]
def eR(x y:Rat):Int:=((vo (x.den:Int) (y.den:Int):Nat):Int)
def kf(x y:Rat):Int:=x.num*(y.den:Int).fdiv (eR x y)+y.num*(x.den:Int).fdiv (eR x y)
def jf(x y:Rat):Int:=((vo (kf x y) (eR x y):Nat):Int)
theorem tW(x y:Rat):0<eR x y:=by
 have:0<vo (x.den:Int) (y.den:Int):=Int.gcd_pos_of_ne_zero_left _ (by have:=x.den_pos;lia);unfold eR;lia
theorem FK(x y:Rat):0<jf x y:=by
 have:0<vo (kf x y) (eR x y):=V7 _ (by have:=tW x y;lia);unfold jf;lia
theorem AH(x y:Rat):eR x y=((x.den.gcd y.den:Nat):Int):=by simp[eR,vo]
theorem rq(x y:Rat):eR x y ∣ (x.den:Int):=qh ..
theorem sr(x y:Rat):eR x y ∣ (y.den:Int):=qT ..
theorem zDt(x y:Rat):jf x y ∣ kf x y:=qh ..
theorem Ep(x y:Rat):jf x y ∣ eR x y:=qT ..
theorem NW(x y:Rat):kf x y=x.num*((y.den / x.den.gcd y.den:Nat):Int)+y.num*((x.den / x.den.gcd y.den:Nat):Int):=by
 have h:=tW x y;rw[kf,ff (sr x y) (by lia),ff (rq x y) (by lia),AH,VC,VC]
theorem KN(x y:Rat):jf x y=(((x.num*((y.den / x.den.gcd y.den:Nat):Int)+y.num*((x.den / x.den.gcd y.den:Nat):Int)).natAbs.gcd (x.den.gcd y.den):Nat):Int):=by
 rw[jf,NW,AH];simp[vo]
theorem zBc(x y:Rat):(kf x y).fdiv (jf x y)=(x+y).num:=by
 have h:=FK x y;rw[ff (zDt x y) (by lia),(Ks x y).1,KN,NW]
theorem zA9(x y:Rat):(x.den:Int).fdiv (eR x y)*(y.den:Int).fdiv (jf x y)=((x+y).den:Int):=by
 have h:=FK x y;have h2:=tW x y;rw[ff (xQ (Ep x y) (sr x y)) (by lia),ff (rq x y) (by lia),(Ks x y).2,KN,AH];simp only[VR,VC]
def fJ(x y:Rat):Int:=((vo x.num (y.den:Int):Nat):Int)
theorem nG(x y:Rat):0<fJ x y:=by
 have:0<vo x.num (y.den:Int):=V7 _ (by have:=y.den_pos;lia);unfold fJ;lia
theorem tZ(x y:Rat):fJ x y ∣ x.num:=qh ..
theorem nK(x y:Rat):fJ x y ∣ (y.den:Int):=qT ..
theorem tR(x y:Rat):fJ x y=((x.num.natAbs.gcd y.den:Nat):Int):=by simp[fJ,vo]
theorem ZK(x y:Rat):x.num.fdiv (fJ x y)*y.num.fdiv (fJ y x)=(x*y).num:=by
 have h:=nG x y;have h2:=nG y x;rw[ff (tZ x y) (by lia),ff (tZ y x) (by lia),(Nn x y).1,tR,tR]
theorem zAQ(x y:Rat):(x.den:Int).fdiv (fJ y x)*(y.den:Int).fdiv (fJ x y)=((x*y).den:Int):=by
 have h:=nG x y;have h2:=nG y x;rw[ff (nK x y) (by lia),ff (nK y x) (by lia),(Nn x y).2,tR,tR];simp only[VR,VC]
theorem lA{a:Int}(h:Bd n a)(hd:d ∣ a)(hp:0<d):Bd n (a.fdiv d):=by
 rw[ff hd (by lia)];exact h.le (Q7 a d)
theorem pU{a:Int}(h:Bd n a)(hd:d ∣ a)(ha:0<a):Bd n d :=
 h.le (uo (by lia) (Int.natAbs_dvd_natAbs.mpr hd))
theorem yV(t b:Int):vo (if t<0 then -t else t) b=vo t b:=by split<;>simp
theorem zBh(h:ah n y):ah n (-y):=⟨by simpa using h.t.neg,by simpa using h.b⟩
theorem zup(x y:Rat):x + -y=x-y:=(Rat.sub_eq_add_neg x y).symm
theorem getD_mem{α : Type}{xs:List α}{d : α}{i:Nat}(h:i<xs.length):xs.getD i d∈xs:=by
 rw[wk,wg h];exact Wi h
def eJ(x:Rat):Bool:=(!decide (x<0))&&(decide (x<1)&&decide ((x.den:Int)<=60))
structure di(x:Rat):Prop where
 nn:0<=x
 lt:x<1
 den:x.den<=60
theorem di.is(h:di x):eJ x=true:=by
 have h1:=h.nn;have h2:=h.lt;have h3:=h.den;have h4:¬ x<0:=W0.mpr h1;have h5:(x.den:Int)<=60:=by lia
 simp[eJ,h4,h2,h5]
theorem di.jP(h:di x):ah 6 x:=by
 have h1:=h.nn;have h2:=h.lt;have h3:=h.den;have n0:0<=x.num:=W7.mpr h1
 have n1:x.num<x.den:=by
   have:=xI x 1 |>.mp h2
   simpa using this
 exact ⟨⟨by have : (2 : Nat) ^ 6 = 64 := by decide
            omega⟩, ⟨by have : (2 : Nat) ^ 6 = 64 := by decide
                        omega⟩⟩
def mx(m:Rat)(l:List Rat):Rat:=l.foldl (λm x=>if m<x then x else m) m
theorem AY:∀(l:List Rat)(m:Rat),mx m l=m\/mx m l∈l
 | [],m=>.inl rfl
 | x::l,m=>by
  have e:mx m (x::l)=mx (if m<x then x else m) l:=rfl;rw[e];rcases AY l (if m<x then x else m)with h | h
  ·rw[h]
   split
   ·exact .inr (wV ..)
   ·exact .inl rfl
  ·exact .inr (wx _ h)
theorem yN(m x:Rat)(l:List Rat):mx m (l++[x])=if mx m l<x then x else mx m l:=by
 unfold mx;rw[qU];rfl
def bO(xs:List Rat):Rat:=mx (xs.getD 0 0) xs
theorem km(h:1<=xs.length):bO xs∈xs:=by
 rcases AY xs (xs.getD 0 0)with e | e
 ·unfold bO
  rw[e,wk,wg (by lia)];exact Wi _
 ·exact e
theorem mR{i:Nat}(h:i<xs.length):xs.take (i+1)=xs.take i++[xs.getD i 0]:=by
 rw[Q2,wk,wg h];rfl
theorem Cw(b:∀i,ah n (xs.getD i 0))(h1:1<=xs.length)(i:Nat):ah n (mx (xs.getD 0 0) (xs.take i)):=by
 rcases AY (xs.take i) (xs.getD 0 0)with e | e
 ·rw[e];exact b 0
 ·have e:=XH _ _ e
  obtain⟨j,hj,ej⟩:=W6 e;rw[<- ej];have:=b j;rw[wk,wg hj]at this;exact this
theorem ZL{r:Int}(h0:0<=r)(h1:r<u)(h2:u<=60):di (wR r u):=by
 refine⟨Xn h0 (by lia),zuv (c:=1) (by lia) (by lia),?_⟩;have:=FA r u (by lia)
 lia
def aF(ps:List Rat)(left:List Nat):List Nat:=left.filter λw=>!decide (ps.getD w 0<1)
def cA(left wave:List Nat):List Nat:=left.filter λw=>!decide (w∈wave)
def dg(f g:Rat)(ps:List Rat)(l:List Nat):List Rat:=l.foldl (λps w=>ps.set w (f*ps.getD w 0+g)) ps
def dX(a b:Rat):Nat->List Rat->List Nat->List (List Nat) × (List Nat × List Rat)
 | 0,ps,left=>([],left,ps)
 | n+1,ps,left=>match aF ps left with
  | []=>([],left,ps)
  | w::ws=>((w::ws)::(dX a b n (dg (a^(w::ws).length) (cx a b (w::ws).length) ps (cA left (w::ws))) (cA left (w::ws))).1,(dX a b n (dg (a^(w::ws).length) (cx a b (w::ws).length) ps (cA left (w::ws))) (cA left (w::ws))).2)
def jr(left:List Nat)(ps:List Rat):List Rat:=(vP ps.length).map λi=>if i∈left then ps.getD i 0 else 0
def fm(xs:List Rat):List Rat:=xs.map (· + (1-bO xs))
def jZ(a b:Rat)(xs:List Rat):List (List Nat) × (List Nat × List Rat):=dX a b xs.length (fm xs) (vP xs.length)
def j7(a b:Rat)(xs:List Rat):List (List Nat):=(jZ a b xs).1
def eC(a b:Rat)(xs:List Rat):List Rat:=jr (jZ a b xs).2.1 (jZ a b xs).2.2
theorem oP{left:List Nat}(h:aF ps left=[]):dX a b n ps left=([],left,ps):=by
 cases n with
 | zero=>rfl
 | succ n=>rw[dX,h]
theorem pC{left:List Nat}(h:aF ps left≠[]):dX a b (n+1) ps left=(aF ps left::(dX a b n (dg (a^(aF ps left).length) (cx a b (aF ps left).length) ps (cA left (aF ps left))) (cA left (aF ps left))).1,(dX a b n (dg (a^(aF ps left).length) (cx a b (aF ps left).length) ps (cA left (aF ps left))) (cA left (aF ps left))).2):=by
 rw[dX];cases e:aF ps left with
 | nil=>exact absurd e h
 | cons w ws=>rfl
theorem Zs(f g:Rat)(ps:List Rat)(l:List Nat)(w:Nat):dg f g ps (l++[w])=(dg f g ps l).set w (f*(dg f g ps l).getD w 0+g):=by
 unfold dg;rw[qU];rfl
theorem lF(f g:Rat):∀(l:List Nat)(ps:List Rat),(dg f g ps l).length=ps.length
 | [],ps=>rfl
 | w::l,ps=>by
  show(dg f g (ps.set w _) l).length=_
  rw[lF f g l,Wx]
theorem M7{j:Nat}(h:w≠j):(ps.set w y).getD j 0=ps.getD j 0:=by
 rw[wk,Vp,if_neg h,wk]
theorem M_(h:w<ps.length):(ps.set w y).getD w 0=y:=by
 rw[wk,Vp,if_pos rfl,if_pos h];rfl
theorem tX(f g:Rat):∀(l:List Nat)(ps:List Rat),l.Nodup->(∀w∈l,w<ps.length)->∀j,(dg f g ps l).getD j 0=if j∈l then f*ps.getD j 0+g else ps.getD j 0
 | [],ps,_,_,j=>by simp[dg]
 | w::l,ps,nd,hl,j=>by
  have nd':=qB.mp nd
  show(dg f g (ps.set w _) l).getD j 0=_
  rw[tX f g l _ nd'.2 (λv hv=>by rw[Wx];exact hl v (wx _ hv)) j]
  by_cases hj:j=w
  ·subst hj
   rw[if_neg nd'.1,if_pos (wV ..),M_ (hl j (wV ..))]
  ·rw[M7 (WC hj)]
   by_cases hm:j∈l
   ·rw[if_pos hm,if_pos (wx _ hm)]
   ·rw[if_neg hm,if_neg (λz=>by rcases wz.mp z with z | z;(exact hj z);exact hm z)]
theorem ztx(ps:List Rat)(left:List Nat):cA left (aF ps left)=left.filter λw=>decide (ps.getD w 0<1):=by
 unfold cA;refine List.filter_congr λw hw=>?_
 have e:(w∈aF ps left)=(¬ ps.getD w 0<1):=by
  unfold aF;rw[Wv];simp[hw]
 simp only[e];simp
theorem Cc(ps:List Rat)(left:List Nat):(aF ps left).length+(cA left (aF ps left)).length=left.length:=by
 rw[ztx];unfold aF
 induction left with
 | nil=>rfl
 | cons w l ih=>by_cases h:ps.getD w 0<1<;>simp only[W8,h,decide_true,decide_false,Bool.not_true,V8,if_true,if_false,We,wQ]<;>lia
theorem zE{left wave:List Nat}(h:left.Nodup):(cA left wave).Nodup:=h.filter _
theorem oI{left wave:List Nat}(h:∀w∈left,w<n):∀w∈cA left wave,w<n:=λw hw=>h w (Wv.mp hw).1
theorem Pu(left:List Nat)(ps:List Rat):(jr left ps).length=ps.length:=by simp[jr]
theorem Fn{left:List Nat}{j:Nat}(h:j<ps.length):(jr left ps).getD j 0=if j∈left then ps.getD j 0 else 0:=by
 unfold jr;rw[wk,wG,xT h]
 rfl
theorem kR(xs:List Rat):(fm xs).length=xs.length:=by simp[fm]
theorem FV{a b:Rat} : ∀(n:Nat)(ps:List Rat)(left:List Nat),(dX a b n ps left).2.2.length=ps.length
 | 0,ps,left=>rfl
 | n+1,ps,left=>by
  by_cases h:aF ps left=[]
  ·rw[oP h]
  ·rw[pC h]
   show(dX a b n _ _).2.2.length=_
   rw[FV n,lF]
theorem Tb(a b:Rat)(xs:List Rat):(eC a b xs).length=xs.length:=by
 unfold eC jZ;rw[Pu,FV,kR]
theorem Cm.J0(h0:0<B)(h1:Bd m B)(h:∀j,j<ps.length->∃t:Int,ps.getD j 0=wR t B/\Bd m t):∀x∈ps,∃t:Int,x=wR t B/\Bd m t:=λx hx=>by
 obtain⟨j,hj,e⟩:=W6 hx;have:=h j hj;rw[wk,wg hj]at this;rw[<- e];exact this
theorem Bp{a b:Rat}(ba:ah 10 a)(bb:ah 10 b){m:Nat}{t:Int}(h:Bd m t):∀n:Nat,Bd (m+21*n) (t*((a.den:Int)*(b.den:Int))^n)
 | 0=>by simpa using h
 | n+1=>by
  rw[Int.pow_succ,<- xP];exact((Bp ba bb h n).mul (ba.b.mul bb.b)).mono (by lia)
theorem Ru(h0:0<B)(hd:0<d):wR t B=wR (t*d) (B*d):=by
 symm
 refine zp (by have:=QG h0 hd;lia) ?_;have q1:=hJ t (show B≠0 by lia);rw[Wz,Wz,<- Rat.mul_assoc,q1]
theorem Cm.wave(c:Cm m (h::ps))(ba:ah 10 a)(bb:ah 10 b)(n:Nat){l:List Nat}(nd:l.Nodup)(hl:∀w∈l,w<ps.length):Cm (m+21*n) (h::dg (a^n) (cx a b n) ps l):=by
 obtain⟨B,h0,h1,h2⟩:=c;have hz:Bd m (0:Int):=⟨by simp;exact X1 m⟩;obtain⟨p1,p2,_⟩:=Ed ba bb h0 hz h1 n;have hd:0<((a.den:Int)*(b.den:Int))^n:=Int.pow_pos (QG (den_pos a) (den_pos b));refine⟨_,p1,p2,λx hx=>?_⟩;rcases wz.mp hx with rfl | hx
 ·obtain⟨t,rfl,ht⟩:=h2 x (wV ..)
  exact⟨_,Ru h0 hd,Bp ba bb ht n⟩
 ·refine Cm.J0 p1 p2 (λj hj=>?_) x hx
  rw[lF]at hj;obtain⟨t,e,ht⟩:=h2 (ps.getD j 0) (wx _ (getD_mem hj));rw[tX _ _ _ _ nd hl]
  split
  ·obtain⟨_,_,T,e2,hT⟩:=Ed ba bb h0 ht h1 n
   exact⟨T,by rw[<- zAc,e,e2],hT⟩
  ·exact⟨_,by rw[e];exact Ru h0 hd,Bp ba bb ht n⟩
theorem Cm.rise{M:Rat}(c:Cm m (h::xs))(hM:M∈xs):Cm (m+2) ((h+(1-M))::xs.map (· + (1-M))):=by
 obtain⟨B,h0,h1,h2⟩:=c;obtain⟨z,ez,hz⟩:=h2 M (wx _ hM)
 have key:∀t:Int,Bd m t->wR t B+(1-M)=wR (t+B-z) B/\Bd (m+2) (t+B-z):=λt ht=>by
  refine⟨?_,((ht.add h1).sub hz).mono (by lia)⟩;rw[ez]
  symm
  refine zp (by lia) ?_;have q1:=hJ t (show B≠0 by lia);have q2:=hJ z (show B≠0 by lia);have q3:((t+B-z:Int):Rat)=(t:Rat)+(B:Rat)-(z:Rat):=by push_cast;rfl
  rw[q3,<- q1,<- q2]
  grind
 refine⟨B,h0,h1.mono (by lia),λx hx=>?_⟩;rcases wz.mp hx with rfl | hx
 ·obtain⟨t,e,ht⟩:=h2 h (wV ..)
  rw[e];exact⟨_,(key t ht).1,(key t ht).2⟩
 ·obtain⟨y,hy,rfl⟩:=wU.mp hx
  obtain⟨t,e,ht⟩:=h2 y (wx _ hy)
  show ∃t:Int,y+(1-M)=_/\_
  rw[e];exact⟨_,(key t ht).1,(key t ht).2⟩
theorem Cm.kW{ys:List Rat}(c:Cm m xs)(h:∀y∈ys,y∈xs\/y=0):Cm m ys:=by
 obtain⟨B,h0,h1,h2⟩:=c;refine⟨B,h0,h1,λy hy=>?_⟩;rcases h y hy with z | rfl
 ·exact h2 y z
 ·exact⟨0,by simp,⟨by simp;exact X1 m⟩⟩
theorem Z1{left:List Nat} : ∀y∈jr left ps,y∈ps\/y=0:=λy hy=>by
 unfold jr at hy;obtain⟨i,hi,e⟩:=wU.mp hy;rw[<- e]
 split
 ·exact .inl (getD_mem (Wq.mp hi))
 ·exact .inr rfl
theorem Cm.Kg{a b:Rat}(ba:ah 10 a)(bb:ah 10 b){h:Rat} : ∀(n m:Nat)(ps:List Rat)(left:List Nat),Cm m (h::ps)->left.Nodup->(∀w∈left,w<ps.length)->Cm (m+21*left.length) (h::(dX a b n ps left).2.2)
 | 0,m,ps,left,c,_,_=>c.mono (by lia)
 | n+1,m,ps,left,c,nd,hl=>by
  by_cases he:aF ps left=[]
  ·rw[oP he];exact c.mono (by lia)
  ·rw[pC he]
   have hn:=Cc ps left;have c1:=c.wave ba bb (aF ps left).length (zE (wave:=aF ps left) nd) (oI (wave:=aF ps left) hl);have:=Cm.Kg ba bb n _ _ (cA left (aF ps left)) c1 (zE nd) (by rw[lF];exact oI hl);exact this.mono (by lia)
theorem Cm.YA(ba:ah 10 a)(bb:ah 10 b)(c:Cm m (h::xs))(h1:1<=xs.length):Cm (m+2+21*xs.length) ((h+(1-bO xs))::eC a b xs):=by
 have c1:=c.rise (km h1);have c2:=Cm.Kg ba bb xs.length _ (fm xs) (vP xs.length) c1 xc (λw hw=>by rw[kR];exact Wq.mp hw);rw[WK]at c2;refine c2.kW λy hy=>?_
 rcases wz.mp hy with rfl | hy
 ·exact .inl (wV ..)
 ·rcases Z1 y hy with z | z
  ·exact .inl (wx _ z)
  ·exact .inr z
theorem Cm.YE(h:∀i,ah k (xs.getD i 0)):Cm (k*xs.length+1+k) xs:=by
 have h0:=NH xs xs.length;have h1:=Mn h xs.length;refine⟨nQ xs xs.length,h0,h1.mono (by lia),Cm.J0 h0 (h1.mono (by lia)) λj hj=>?_⟩;exact⟨_,(zut h0 (SA xs _ j hj)).symm,((h j).t.mul (zAB (den_pos _) h0 h1)).mono (by lia)⟩
def eH(a b:Rat)(xs:List Rat):Nat->List Rat
 | 0=>xs
 | k+1=>eC a b (eH a b xs k)
def fX(a b:Rat)(xs:List Rat):Nat->Rat
 | 0=>0
 | k+1=>fX a b xs k+(1-bO (eH a b xs k))
theorem pX(a b:Rat)(xs:List Rat):∀k,(eH a b xs k).length=xs.length
 | 0=>rfl
 | k+1=>by rw[eH,Tb,pX a b xs k]
theorem Cm.Kj{a b:Rat}(ba:ah 10 a)(bb:ah 10 b){m:Nat}{xs:List Rat}(c:Cm m xs)(h1:1<=xs.length):∀k,Cm (m+(2+21*xs.length)*k) (fX a b xs k::eH a b xs k)
 | 0=>(c.mono (by lia)).kW λy hy=>by
  rcases wz.mp hy with rfl | hy
  ·exact .inr rfl
  ·exact .inl hy
 | k+1=>by
  have:=(Cm.Kj ba bb c h1 k).YA ba bb (by rw[pX];exact h1);rw[pX]at this;exact this.mono (by rw[Nat.mul_add];lia)
theorem zwn{f:Rat->Rat}(h:w<xs.length):(xs.map f).getD w 0=f (xs.getD w 0):=by
 rw[wk,wG,wg h,wk,wg h];rfl
def oV(xs:List Rat)(v:Rat):List Nat:=(vP xs.length).filter λw=>decide (xs.getD w 0=v)
def lM:Nat->List Rat->List Rat
 | 0,_=>[]
 | _+1,[]=>[]
 | n+1,x::l=>bO (x::l)::lM n ((x::l).filter λy=>!decide (y=bO (x::l)))
def kE(xs:List Rat):List Rat:=lM xs.length xs
theorem Rb(n:Nat):lM n []=[]:=by cases n<;>rfl
theorem Oe{l:List Rat}(h:l≠[]):lM (n+1) l=bO l::lM n (l.filter λy=>!decide (y=bO l)):=by
 cases l with
 | nil=>exact absurd rfl h
 | cons x l=>rfl
theorem zsT{l:List Rat}(h:l≠[]):(l.filter λy=>!decide (y=bO l)).length<l.length:=by
 have hm:bO l∈l:=km (VI.mpr h);rcases vt (l.filter λy=>!decide (y=bO l)).length l.length with z | z
 ·exact z
 ·have:=List.length_filter_eq_length_iff.mp (Nat.le_antisymm (WF _ _) z) (bO l) hm
  simp at this
def mB(xs:List Rat):List Int:=(kE xs).map λv=>((oV xs v).length:Int)
theorem N9{a b:Rat}(a0:0<a)(b0:0<=b):∀n:Nat,0<=cx a b n
 | 0=>Rat.le_refl
 | n+1=>by
  have h1:=N9 a0 b0 n;have h2:=ud (qM a0) h1
  show 0<=a*cx a b n+b
  grind
theorem SQ{a b:Rat}(a0:0<a)(b0:0<=b):∀(n:Nat)(ps:List Rat)(left:List Nat),left.length<=n->left.Nodup->(∀w∈left,w<ps.length)->(∀w∈left,0<=ps.getD w 0) ->
  ∀w∈(dX a b n ps left).2.1,w∈left/\0<=(dX a b n ps left).2.2.getD w 0/\(dX a b n ps left).2.2.getD w 0<1
 | 0,ps,left,hn,_,_,_=>by
  have:left=[]:=xn.mp (by lia);subst this;intro w hw;cases (show w∈([]:List Nat)from hw)
 | n+1,ps,left,hn,nd,hlt,nn=>by
  by_cases e:aF ps left=[]
  ·rw[oP e]
   intro w hw;have hw:w∈left:=hw;refine⟨hw,nn w hw,?_⟩;have:¬ w∈aF ps left:=by rw[e];simp
   unfold aF at this;rw[Wv]at this
   show ps.getD w 0<1
   by_cases z:ps.getD w 0<1
   ·exact z
   ·exact absurd ⟨hw,by simp only[z,decide_false,V8]⟩ this
  ·rw[pC e]
   have hl:=Cc ps left;have hp:=VI.mpr e;have nd':(cA left (aF ps left)).Nodup:=zE nd;have lt':∀w∈cA left (aF ps left),w<(dg (a^(aF ps left).length) (cx a b (aF ps left).length) ps (cA left (aF ps left))).length:=λw hw=>by rw[lF];exact oI hlt w hw
   have ih:=SQ a0 b0 n (dg (a^(aF ps left).length) (cx a b (aF ps left).length) ps (cA left (aF ps left))) (cA left (aF ps left)) (by lia) nd' lt' (λw hw=>by
    rw[tX _ _ _ _ nd' (oI hlt),if_pos hw];have h1:=nn w (Wv.mp hw).1;have h2:=ud (qM (zw7 a0 (aF ps left).length)) h1;have h3:=N9 a0 b0 (aF ps left).length
    grind)
   intro w hw;have:=ih w hw;exact⟨(Wv.mp this.1).1,this.2⟩
theorem zyc(nn:∀x∈xs,0<=x)(lt:∀x∈xs,x<1)(hw:w<xs.length):0<=(fm xs).getD w 0:=by
 have h1:=km (xs:=xs) (by lia);have h2:=lt _ h1;have h3:=nn _ (getD_mem (d:=0) hw);unfold fm;rw[zwn hw]
 grind
theorem Sv(a0:0<a)(b0:0<=b)(nn:∀x∈xs,0<=x)(lt:∀x∈xs,x<1):∀y∈eC a b xs,0<=y/\y<1:=λy hy=>by
 obtain⟨j,hj,e⟩:=W6 hy;have hlen:=Tb a b xs;have hjx:j<xs.length:=by lia
 have hpl:(jZ a b xs).2.2.length=xs.length:=by
  unfold jZ;rw[FV,kR]
 have e2:(eC a b xs).getD j 0=y:=by rw[wk,wg hj];exact e
 unfold eC at e2;rw[Fn (by lia)]at e2
 split at e2
 ·rename_i hm
  have:=SQ a0 b0 xs.length (fm xs) (vP xs.length) (by simp) xc (λw hw=>by rw[kR];exact Wq.mp hw) (λw hw=>zyc nn lt (Wq.mp hw)) j hm;rw[<- e2];exact this.2
 ·rw[<- e2];exact⟨Rat.le_refl,by decide⟩
structure ku(xs:List Rat):Prop where
 nn:∀x∈xs,0<=x
 lt:∀x∈xs,x<1
theorem ku.r8(a0:0<a)(b0:0<=b)(h:ku xs):ku (eC a b xs):=⟨λy hy=>(Sv a0 b0 h.nn h.lt y hy).1,λy hy=>(Sv a0 b0 h.nn h.lt y hy).2⟩
theorem ku.at{a b:Rat}(a0:0<a)(b0:0<=b){xs:List Rat}(h:ku xs):∀k,ku (eH a b xs k)
 | 0=>h
 | k+1=>(ku.at a0 b0 h k).r8 a0 b0
theorem zCG{ys:List Rat}(c:Cm m xs)(h:∀y∈ys,y∈xs):Cm m ys:=c.kW λy hy=>.inl (h y hy)
theorem yJ(p:Nat->Prop)[DecidablePred p](t:Nat):∀m:Nat,t<=m->(∀c d,t<=c->c<=d->d<m->p d->p c)->∃u,t<=u/\u<=m /\ ∀c,t<=c->c<m->(p c ↔ c<u)
 | 0,h,_=>⟨0,h,wo 0,λc _ hc=>absurd hc (by lia)⟩
 | m+1,h,mono=>by
  rcases vt m t with z | z
  ·exact⟨m+1,h,wo _,λc h1 h2=>absurd h2 (by lia)⟩
  ·by_cases q:p m
   ·exact⟨m+1,h,wo _,λc h1 h2=>⟨λ_=>h2,λ_=>mono c m h1 (by lia) (by lia) q⟩⟩
   ·obtain⟨u,u1,u2,hu⟩:=yJ p t m z (λc d h1 h2 h3=>mono c d h1 h2 (by lia))
    refine⟨u,u1,by lia,λc h1 h2=>?_⟩;rcases vt c m with y | y
    ·exact hu c h1 y
    ·have:c=m:=by lia
     subst this;exact⟨λk=>absurd k q,λk=>absurd k (by lia)⟩
end GM
namespace L2
open PySem PySem.Spec PyProof.Rows GM
section
variable{K:wa}{H H' H2:Hp}{a p:wc}{xs ys:List V}{o:HO}
theorem ae.upd(h:H p=none):ae H (upd H p o):=λb u e=>by
 rw[bV (gv e h)];exact e
theorem ae.mn(s:ae H H')(h:aR K H a xs):aR K H' a xs:=by
 rcases h with(h | ⟨o,h⟩) | h
 ·exact .inl (.inl (s _ _ h))
 ·exact .inl (.inr ⟨o,s _ _ h⟩)
 ·exact .inr h
structure aZ(H H':Hp):Prop where
 t:∀b xs,H b=some (.tup xs)->H' b=some (.tup xs)
 f:∀b o u,H b=some (.fH o u)->H' b=some (.fH o u)
theorem ae.keep(s:ae H H'):aZ H H':=⟨λb xs h=>s _ _ h,λb o u h=>s _ _ h⟩
theorem aZ.trans(a:aZ H H')(b:aZ H' H2):aZ H H2:=⟨λc xs h=>b.t _ _ (a.t _ _ h),λc o u h=>b.f _ _ _ (a.f _ _ _ h)⟩
theorem aZ.mn(k:aZ H H')(h:aR K H a xs):aR K H' a xs:=by
 rcases h with(h | ⟨o,h⟩) | h
 ·exact .inl (.inl (k.t _ _ h))
 ·exact .inl (.inr ⟨o,k.f _ _ _ h⟩)
 ·exact .inr h
def iA(K:wa)(H:Hp)(a:wc)(xs:List V):Prop :=
 (∃o,H a=some (.fH o (.lst xs))) \/
  ∃(o:Obj)(its:Array wd)(n:Nat),K.lookup a=some o/\o.cls=.type "list"/\o.dict=none/\o.data=.seq its n/\its.size<=wr/\aE xs its.toList
theorem iA.sq(h:iA K H a xs):aI K H a xs:=by
 rcases h with⟨o,h⟩ | h
 ·exact .inl (.inr ⟨o,h⟩)
 ·exact .inr h
theorem aZ.iS(k:aZ H H')(h:iA K H a xs):iA K H' a xs:=by
 rcases h with⟨o,h⟩ | h
 ·exact .inl ⟨o,k.f _ _ _ h⟩
 ·exact .inr h
def Exc(p:wc)(H H':Hp):Prop:=∀b o,b≠p->H b=some o->H' b=some o
theorem Exc.keep(e:Exc p H H')(h:H p=some (.lst xs)):aZ H H' :=
 ⟨λb ys hb=>e b _ (PY hb h (by intro z;cases z)) hb,λb o u hb=>e b _ (PY hb h (by intro z;cases z)) hb⟩
theorem ae.exc(s:ae H H'):Exc p H H':=λb o _ h=>s b o h
theorem Exc.refl(p:wc)(H:Hp):Exc p H H:=λ_ _ _ h=>h
theorem Exc.trans(a:Exc p H H')(b:Exc p H' H2):Exc p H H2:=λc o n h=>b c o n (a c o n h)
theorem Exc.upd(p:wc)(H:Hp)(o:HO):Exc p H (upd H p o):=λb u n h=>by
 rw[bV n];exact h
theorem Exc.at(e:Exc p H H'){q:wc}{u:HO}(n:q≠p)(h:H q=some u):H' q=some u:=e q u n h
end
mutual
def Is(K:wa)(H:Hp):V->wu->Prop
 | v,.none=>v=.bh
 | v,.bool b=>v=.bl b
 | v,.int i=>v=.int i
 | v,.str x=>v=.str x
 | v,.tuple ds=>∃a xs,v=.ref a/\aR K H a xs/\aq K H xs ds
 | v,.list ds=>∃a xs,v=.ref a/\aI K H a xs/\aq K H xs ds
 | v,.dict _=>∃a kvs,v=.ref a/\H a=some (.dK kvs)
def aq(K:wa)(H:Hp):List V->List wu->Prop
 | xs,[]=>xs=[]
 | xs,d::ds=>∃x r,xs=x::r/\Is K H x d/\aq K H r ds
end
section
variable{K:wa}{H H':Hp}{v:V}{xs:List V}{ds:List wu}{d:wu}
theorem cC{i:Int} : Is K H v (.int i) ↔ v=.int i:=by rw[Is]
theorem k8{b:Bool} : Is K H v (.bool b) ↔ v=.bl b:=by rw[Is]
theorem cP{x:Str} : Is K H v (.str x) ↔ v=.str x:=by rw[Is]
theorem kg:Is K H v .none ↔ v=.bh:=by rw[Is]
theorem bX:Is K H v (.tuple ds) ↔ ∃a xs,v=.ref a/\aR K H a xs/\aq K H xs ds:=by rw[Is]
theorem cR:Is K H v (.list ds) ↔ ∃a xs,v=.ref a/\aI K H a xs/\aq K H xs ds:=by rw[Is]
theorem tU{kv:List (wu × wu)} : Is K H v (.dict kv) ↔ ∃a kvs,v=.ref a/\H a=some (.dK kvs):=by rw[Is]
theorem fS:aq K H xs [] ↔ xs=[]:=by rw[aq]
theorem dw:aq K H xs (d::ds) ↔ ∃x r,xs=x::r/\Is K H x d/\aq K H r ds:=by rw[aq]
theorem aq.cons(h:Is K H v d)(t:aq K H xs ds):aq K H (v::xs) (d::ds):=dw.mpr ⟨v,xs,rfl,h,t⟩
theorem aq.nil:aq K H [] []:=fS.mpr rfl
theorem aq.length:∀{ds:List wu}{xs:List V},aq K H xs ds->xs.length=ds.length
 | [],_,h=>by rw[fS.mp h];rfl
 | d::ds,_,h=>by
  obtain⟨x,r,rfl,_,t⟩:=dw.mp h;rw[wQ,wQ,aq.length t]
theorem aq.get:∀{ds:List wu}{xs:List V}{i:Nat}{d:wu},aq K H xs ds->ds[i]? = some d->∃x,xs[i]? = some x/\Is K H x d
 | [],_,_,_,_,e=>by simp at e
 | d::ds,_,0,_,h,e=>by
  obtain⟨x,r,rfl,q,_⟩:=dw.mp h;simp at e;subst e;exact⟨x,rfl,q⟩
 | d::ds,_,i+1,d',h,e=>by
  obtain⟨x,r,rfl,_,t⟩:=dw.mp h;obtain⟨y,h1,h2⟩:=aq.get (i:=i) t (by simpa using e);exact⟨y,by simpa using h1,h2⟩
theorem aq.append:∀{ds es:List wu}{xs ys:List V},aq K H xs ds->aq K H ys es->aq K H (xs++ys) (ds++es)
 | [],_,_,_,h,t=>by rw[fS.mp h];exact t
 | d::ds,_,_,_,h,t=>by
  obtain⟨x,r,rfl,q,u⟩:=dw.mp h;exact .cons q (aq.append u t)
mutual
theorem Is.same(s:ae H H'):∀(d:wu)(v:V),Is K H v d->Is K H' v d
 | .none,v,h=>by rw[kg]at h ⊢;exact h
 | .bool _,v,h=>by rw[k8]at h ⊢;exact h
 | .int _,v,h=>by rw[cC]at h ⊢;exact h
 | .str _,v,h=>by rw[cP]at h ⊢;exact h
 | .tuple ds,v,h=>by
  obtain⟨a,xs,e,q,t⟩:=bX.mp h;exact bX.mpr ⟨a,xs,e,s.mn q,aq.same s ds xs t⟩
 | .list ds,v,h=>by
  obtain⟨a,xs,e,q,t⟩:=cR.mp h;exact cR.mpr ⟨a,xs,e,s.seq q,aq.same s ds xs t⟩
 | .dict _,v,h=>by
  obtain⟨a,kvs,e,q⟩:=tU.mp h;exact tU.mpr ⟨a,kvs,e,s _ _ q⟩
theorem aq.same(s:ae H H'):∀(ds:List wu)(xs:List V),aq K H xs ds->aq K H' xs ds
 | [],xs,h=>by rw[fS]at h ⊢;exact h
 | d::ds,xs,h=>by
  obtain⟨x,r,e,q,t⟩:=dw.mp h;exact dw.mpr ⟨x,r,e,Is.same s d x q,aq.same s ds r t⟩
end
end
mutual
def bJ:wu->Bool
 | .none=>true
 | .bool _=>true
 | .int _=>true
 | .str _=>true
 | .tuple ds=>aU ds
 | .list _=>false
 | .dict _=>false
def aU:List wu->Bool
 | []=>true
 | d::ds=>bJ d&&aU ds
end
section
variable{K:wa}{H H':Hp}
mutual
theorem Is.keep(k:aZ H H'):∀(d:wu)(v:V),bJ d=true->Is K H v d->Is K H' v d
 | .none,v,_,h=>by rw[kg]at h ⊢;exact h
 | .bool _,v,_,h=>by rw[k8]at h ⊢;exact h
 | .int _,v,_,h=>by rw[cC]at h ⊢;exact h
 | .str _,v,_,h=>by rw[cP]at h ⊢;exact h
 | .tuple ds,v,i,h=>by
  obtain⟨a,xs,e,q,t⟩:=bX.mp h;exact bX.mpr ⟨a,xs,e,k.mn q,aq.keep k ds xs (by rw[bJ]at i;exact i) t⟩
 | .list ds,v,i,h=>by rw[bJ]at i;cases i
 | .dict _,v,i,h=>by rw[bJ]at i;cases i
theorem aq.keep(k:aZ H H'):∀(ds:List wu)(xs:List V),aU ds=true->aq K H xs ds->aq K H' xs ds
 | [],xs,_,h=>by rw[fS]at h ⊢;exact h
 | d::ds,xs,i,h=>by
  obtain⟨x,r,e,q,t⟩:=dw.mp h;rw[aU,wy]at i;exact dw.mpr ⟨x,r,e,Is.keep k d x i.1 q,aq.keep k ds r i.2 t⟩
end
end
def N(r:Rat):wu:=.tuple [.int r.num,.int (r.den:Int)]
theorem eX(r:Rat):bJ (N r)=true:=by simp[N,bJ,aU]
section
variable{K:wa}{H H':Hp}{v:V}{r:Rat}
theorem oZ:Is K H v (N r) ↔ ∃a,v=.ref a/\aR K H a [.int r.num,.int (r.den:Int)]:=by
 unfold N;rw[bX]
 constructor
 ·rintro ⟨a,xs,e,q,t⟩
  obtain⟨x,r1,rfl,q1,t⟩:=dw.mp t;obtain⟨y,r2,rfl,q2,t⟩:=dw.mp t;rw[fS.mp t,cC.mp q1,cC.mp q2]at q;exact⟨a,e,q⟩
 ·rintro ⟨a,e,q⟩
  exact⟨a,_,e,q,.cons (cC.mpr rfl) (.cons (cC.mpr rfl) .nil)⟩
end
section
variable{X:Cx}{pins:List (wc × Obj)}{σ : St}{H:Hp}{s:wl}
mutual
theorem Inv.reads(I:Inv X pins σ H s):∀(d:wu)(v:V)(u:wd),d.canLay0=true->Is X.K H v d->aV v u->∃as,Reads s.heap u d as
 | .none,v,u,_,h,r=>by
  cases kg.mp h;cases (show u=Value.none from r);exact⟨_,.none⟩
 | .bool b,v,u,_,h,r=>by
  cases k8.mp h;cases (show u=Value.bool b from r);exact⟨_,.bool b⟩
 | .int i,v,u,_,h,r=>by
  cases cC.mp h;obtain⟨t,e⟩:=(show ∃t,u=Value.int i t from r);cases e;exact⟨_,.int i t⟩
 | .str x,v,u,_,h,r=>by
  cases cP.mp h;obtain⟨t,e⟩:=(show ∃t,u=Value.str x t from r);cases e;exact⟨_,.str x t⟩
 | .tuple ds,v,u,c,h,r=>by
  obtain⟨a,xs,e,q,t⟩:=bX.mp h;subst e;cases (show u=Value.ref a from r);obtain⟨its,rv,⟨o,e1,e2,n,e3⟩,_⟩:=I.tuple q;obtain⟨as,ra⟩:=Inv.readsAll I ds xs its (by rw[vK]at c;exact c) t rv;exact⟨_,.tuple e1 e2 e3 (by simpa using ra)⟩
 | .list ds,v,u,c,h,r=>by
  obtain⟨a,xs,e,q,t⟩:=cR.mp h;subst e;cases (show u=Value.ref a from r);obtain⟨its,rv,⟨o,n,e1,e2,_,e3⟩,_⟩:=I.list q;obtain⟨as,ra⟩:=Inv.readsAll I ds xs its (by rw[vK]at c;exact c) t rv;exact⟨_,.list e1 e2 e3 (by simpa using ra)⟩
 | .dict _,v,u,c,h,r=>by rw[vK]at c;cases c
theorem Inv.readsAll(I:Inv X pins σ H s):∀(ds:List wu)(xs:List V)(us:List wd),Wc ds=true->aq X.K H xs ds->aE xs us->∃as,ReadsAll s.heap us ds as
 | [],xs,us,_,h,r=>by
  rw[fS.mp h]at r;cases r;exact⟨_,.nil⟩
 | d::ds,xs,us,c,h,r=>by
  obtain⟨x,l,e,q,t⟩:=dw.mp h;subst e;rw[Wc,wy]at c;cases r with
  | cons r1 r2 =>
   obtain⟨as,h1⟩:=Inv.reads I d x _ c.1 q r1;obtain⟨bs,h2⟩:=Inv.readsAll I ds l _ c.2 t r2;exact⟨_,.cons h1 h2⟩
end
end
section
variable{X:Cx}
open PySem.SeqAt (shaped)
variable{K:wa}
def jd(K:wa):R2:=λx y H Q=>∃d e,Is K H x d/\Is K H y e/\shaped d=true/\shaped e=true/\Q (.bl (Wa d e)) H
def lV(K:wa):R2:=λx y H Q=>∃d e,Is K H x d/\Is K H y e/\shaped d=true/\shaped e=true/\Q (.bl (!PyData.eqv d e)) H
theorem sF(hu:X.A.units+64<cLine):aY X (vk .Eq) (jd X.K):=by
 intro pins s σ H x y v u Q I rx ry h;obtain⟨d,e,hd,he,sd,se,q⟩:=h;obtain⟨as,h1⟩:=I.reads d x v (W9 sd) hd rx;obtain⟨bs,h2⟩:=I.reads e y u (W9 se) he ry;exact eq_dataH h1 h2 sd se hu ⟨.bl _,H,I,rfl,q⟩
theorem LA(hu:X.A.units+64<cLine):aY X (vk .NotEq) (lV X.K):=by
 intro pins s σ H x y v u Q I rx ry h;obtain⟨d,e,hd,he,sd,se,q⟩:=h;obtain⟨as,h1⟩:=I.reads d x v (W9 sd) hd rx;obtain⟨bs,h2⟩:=I.reads e y u (W9 se) he ry;exact ne_dataH h1 h2 sd se hu ⟨.bl _,H,I,rfl,q⟩
theorem aV.Ym{x:V}{v:wd}(r:aV x v)(c:Bool):(v == Value.bool c)=decide (x=.bl c):=by
 cases x with
 | bh=>cases (show v=Value.none from r);rfl
 | bl b=>cases (show v=Value.bool b from r);cases b<;>cases c<;>rfl
 | int _=>obtain⟨t,rfl⟩:=r;rfl
 | str _=>obtain⟨t,rfl⟩:=r;rfl
 | byt _=>obtain⟨t,rfl⟩:=r;rfl
 | flt _=>obtain⟨t,rfl⟩:=r;rfl
 | ref _=>cases r;rfl
 | ty _=>cases r;rfl
theorem aV.X_{x:V}{v:wd}(r:aV x v)(c:Bool):plainIs v (Value.bool c)=true:=by
 cases x with
 | bh=>cases (show v=Value.none from r);rfl
 | bl b=>cases (show v=Value.bool b from r);rfl
 | int _=>obtain⟨t,rfl⟩:=r;rfl
 | str _=>obtain⟨t,rfl⟩:=r;rfl
 | byt _=>obtain⟨t,rfl⟩:=r;rfl
 | flt _=>obtain⟨t,rfl⟩:=r;rfl
 | ref _=>cases r;rfl
 | ty _=>cases r;rfl
def rIs:R2:=λx y H Q=>(∃c,y=.bl c/\Q (.bl (decide (x=.bl c))) H)\/(y=.bh/\Q (.bl (decide (x=.bh))) H)
theorem zDG :aY X (vk .Is) rIs:=by
 intro pins s σ H x y v u Q I rx ry h;rcases h with⟨c,e,q⟩ | h
 ·subst e
  cases (show u=Value.bool c from ry);exact wpAny_is_plain (rx.X_ c) (Dt I q (rx.Ym c).symm)
 ·exact YT pins s σ H x y v u Q I rx ry h
def kindOf:wu->String
 | .none=>"NoneType"
 | .bool _=>"bool"
 | .int _=>"int"
 | .str _=>"str"
 | .tuple _=>"tuple"
 | .list _=>"list"
 | .dict _=>"dict"
def dH(K:wa):List V->Hp->VK->Prop:=λxs H Q=>∃x T d b,xs=[x,.ty T]/\Is K H x d/\wf K (.type (kindOf d)) (.type T)=some b/\Q (.bl b) H
theorem gW :aM X (.builtin "isinstance") (dH X.K):=by
 intro pins s σ H xs us Q I r h;obtain⟨x,T,d,b,rfl,hd,e,q⟩:=h;obtain⟨u,w',rfl,rx,rt⟩:=ig r;cases (show w'=Value.type T from rt);have fin:∀tk,EP X pins σ Q (.bool b) {s with toks:=tk}:=λtk=>⟨.bl b,H,I.tok _,rfl,q⟩
 cases d with
 | none =>
  cases kg.mp hd;cases (show u=Value.none from rx);exact WB Xq I.bE True.intro e (λz=>nomatch z) fin
 | bool y =>
  cases k8.mp hd;cases (show u=Value.bool y from rx);exact WB Xr I.bE True.intro e (λz=>nomatch z) fin
 | int i =>
  cases cC.mp hd;obtain⟨t,q⟩:=(show ∃t,u=Value.int i t from rx);cases q;exact WB XI I.bE True.intro e (λz=>nomatch z) fin
 | str y =>
  cases cP.mp hd;obtain⟨t,q⟩:=(show ∃t,u=Value.str y t from rx);cases q;exact WB XJ I.bE True.intro e (λz=>nomatch z) fin
 | tuple ds =>
  obtain⟨a,xs,e1,hq,_⟩:=bX.mp hd;subst e1;cases (show u=Value.ref a from rx);obtain⟨its,_,⟨o,h1,h2,_⟩,_⟩:=I.tuple hq;exact WB Xj I.bE ⟨o,h1,h2⟩ e (λz=>nomatch z) fin
 | list ds =>
  obtain⟨a,xs,e1,hq,_⟩:=cR.mp hd;subst e1;cases (show u=Value.ref a from rx);obtain⟨its,_,⟨o,n,h1,h2,_⟩,_⟩:=I.list hq;exact WB Xs I.bE ⟨o,h1,h2⟩ e (λz=>nomatch z) fin
 | dict kv =>
  obtain⟨a,kvs,e1,hq⟩:=tU.mp hd;subst e1;cases (show u=Value.ref a from rx);obtain⟨_,_,vs,_,o,es,ep,h1,h2,_⟩:=(show cM X.prog X.w H s.heap a (.dK kvs)from I.az a _ hq);exact WB qV I.bE ⟨o,h1,h2.1⟩ e (λz=>nomatch z) fin
def isA(T:String)(d:wu):Bool:=(kindOf d == T) || (kindOf d == "bool"&&T == "int")
theorem zzP(d:wu):wf K (.type (kindOf d)) (.type "int")=some (isA "int" d):=by cases d<;>rfl
theorem zwX(d:wu):wf K (.type (kindOf d)) (.type "bool")=some (isA "bool" d):=by cases d<;>rfl
theorem zvT(d:wu):wf K (.type (kindOf d)) (.type "tuple")=some (isA "tuple" d):=by cases d<;>rfl
theorem zy7(d:wu):wf K (.type (kindOf d)) (.type "list")=some (isA "list" d):=by cases d<;>rfl
theorem zAY(d:wu):wf K (.type (kindOf d)) (.type "str")=some (isA "str" d):=by cases d<;>rfl
theorem YH{m n:Nat}{i j:Int}(h:Bd m i)(k:Bd n j)(hm:m<=1000000)(hn:n<=1000000):IntMulOk i j:=by
 have f:∀{m:Nat}{i:Int},Bd m i->m<=1000000->xU i<=2^20:=by
  intro m i h hm;have e:(2:Nat)^20=1048576:=by decide
  have l:=(h.mono (QF m)).log (Nat.succ_pos m);unfold xU
  split<;>lia
 exact .of_bits (f h hm) (f k hn)
theorem d4 :aY X (Wu .Mult) (rI IntMulOk λi j=>.int (i*j)):=tS λ_ _ _ _ _ _ _ hc q=>mul_int q hc
def ng(_ j:Int):Prop:=j≠0/\Bd 8999 j
theorem fD :aY X (Wu .FloorDiv) (rI ng λi j=>.int (i.fdiv j)):=tS λ_ _ _ _ _ _ _ hc q =>
 floordiv_int hc.1 q (.inl (PyProof.noPylong_of_log2 (qW (hc.2.log (by decide)))))
theorem zA5 :aY X (Wu .Add) (λx y H Q=>(gB λi j=>.int (i+j)) x y H Q\/(Bu x y H Q \/ ∃i j,x=.str i/\y=.str j/\i.length+j.length<=wr/\Q (.str (i++j)) H)):=zDh.or (zB0.or zs6)
end
theorem yn:vG "len"=some (.builtin "len"):=by decide +kernel
theorem oG:vG "abs"=some (.builtin "abs"):=by decide +kernel
theorem dy:vG "isinstance"=some (.builtin "isinstance"):=by decide +kernel
theorem nh:vG "int"=some (.type "int"):=by decide +kernel
theorem zBe:vG "bool"=some (.type "bool"):=by decide +kernel
theorem gk:vG "str"=some (.type "str"):=by decide +kernel
theorem zev:vG "tuple"=some (.type "tuple"):=by decide +kernel
theorem mQ:vG "list"=some (.type "list"):=by decide +kernel
def pz(K:wa)(xs:List V)(H:Hp)(Q:VK):Prop:=xs.length<=wr /\ ∀p,H p=none->Q (.ref p) (upd H p (.tup xs))
def zT(K:wa)(xs:List V)(H:Hp)(Q:VK):Prop:=xs.length<=wr /\ ∀p,H p=none->Q (.ref p) (upd H p (.lst xs))
def pW(K:wa)(t:TA):TE:=λσ H Q=>t σ H λxs H1=>pz K xs H1 Q
def rf(K:wa)(t:TA):TE:=λσ H Q=>t σ H λxs H1=>zT K xs H1 Q
def g_:R2:=λx y H Q=>(gB λi j=>.int (i+j)) x y H Q\/(Bu x y H Q \/ ∃i j,x=.str i/\y=.str j/\i.length+j.length<=wr/\Q (.str (i++j)) H)
def Ls:List V->Hp->VK->Prop:=λxs H Q=>∃i:Int,xs=[.int i]/\Q (.int (if i<0 then -i else i)) H
def gy(K:wa):List V->Hp->VK->Prop:=λxs H Q=>∃p ys,xs=[.ref p]/\(aI K H p ys\/aR K H p ys)/\Q (.int ys.length) H
section
variable{X:Cx}{e:Expr}{es:List Expr}{te:TE}{t:TA}{pos:Pos}
theorem cE{x1}(h:PA X es t):PE X (.Tuple es x1 pos) (pW X.K t):=zBZ h
theorem cS(h:PA X es t):PE X (.List es pos) (rf X.K t):=zC0 h
theorem aN:aY X (Wu .Add) g_:=zA5
theorem pN:aM X (.builtin "abs") Ls:=zyk
theorem YX:aM X (.builtin "len") (gy X.K):=zrf
theorem fI{x:Str}{i:Int}{pos:Pos}(hg:Gl X x)(hm:∃t,X.mg x=some (.int i t))(hd:(x == ("__debug__" : Str))=false:=by decide):PE X (.Name x pos) (tC (.int i)):=by
 obtain⟨t,hm⟩:=hm;exact bZ hg hm ⟨t,rfl⟩ hd
theorem Y0{x:Str}{i:Str}{pos:Pos}(hg:Gl X x)(hm:∃t,X.mg x=some (.str i t))(hd:(x == ("__debug__" : Str))=false:=by decide):PE X (.Name x pos) (tC (.str i)):=by
 obtain⟨t,hm⟩:=hm;exact bZ hg hm ⟨t,rfl⟩ hd
end
section
variable{K:wa}{σ : St}{H H':Hp}{Q:VK}{QA:List V->Hp->Prop}{QB:Bool->Hp->Prop}{QS:St->Hp->Prop}{QH:Hp->Prop}{D:ck}{ta tb te:TE}{tt tu:TT}{t tr:TA}{s1 s2:TS}{g:TG}{gs:jJ}{r:R2}{v w:V}{xs ys:List V}{i:Nat}{m n:Int}
variable{j:Nat}{d:wu}{ds:List wu}{B:Prop}
theorem zCt(h : σ[i]? = some (some v))(q:Q v H):cQ i σ H Q:=⟨v,h,q⟩
theorem zEI(q:Q v H):tC v σ H Q:=q
theorem Z_(h:ta σ H λx H1=>tb σ H1 λy H2=>r x y H2 Q):cW r ta tb σ H Q:=h
theorem zEp{u:V->Hp->VK->Prop}(h:ta σ H λx H1=>u x H1 Q):BC u ta σ H Q:=h
theorem zDb(h:t σ H λxs H1=>pz K xs H1 Q):pW K t σ H Q:=h
theorem zC7(h:t σ H λxs H1=>zT K xs H1 Q):rf K t σ H Q:=h
theorem zCa(q:QA [] H):eI σ H QA:=q
theorem zzR(h:te σ H λx H1=>tr σ H1 λxs H2=>QA (x::xs) H2):dj te tr σ H QA:=h
theorem zzE{sp:Sp}{E:XK}(h:t σ H λvs H1=>sp vs H1 Q E):oH sp [] E t σ H Q:=by
 simpa only[oH,vS] using h
theorem zEb{u:List V->Hp->VK->Prop}(h:t σ H λvs H1=>u vs H1 Q):mK u t σ H Q:=h
theorem zAM(h:te σ H λx H'=>∃k,x=.bl k/\QB k H'):lq te σ H QB:=h
theorem zDP(h:te σ H λx H'=>∃k,x=.bl k/\QB k H'):tB te σ H QB:=h
theorem zCN(h:tt σ H λc H1=>if c=true then tu σ H1 QB else QB false H1):Rw tt tu σ H QB:=h
theorem zEg(h:tt σ H λc H1=>if c=true then QB true H1 else tu σ H1 QB):Ri tt tu σ H QB:=h
theorem zB2(h:tt σ H λc H1=>QB (!c) H1):PK tt σ H QB:=h
theorem zAI(h:ta σ H λx H1=>∃c,x=.bl c/\if c=true then tb σ H1 Q else Q (.bl false) H1):AB ta tb σ H Q:=h
theorem zCb(h:ta σ H λx H1=>∃c,x=.bl c/\if c=true then Q (.bl true) H1 else tb σ H1 Q):M5 ta tb σ H Q:=h
theorem zAS(h:ta σ H λx H1=>∃c,x=.bl c/\Q (.bl (!c)) H1):Mt ta σ H Q:=h
theorem zCy(h:tt σ H λc H1=>if c=true then ta σ H1 Q else tb σ H1 Q):M8 tt ta tb σ H Q:=h
theorem Zr(h:s1 {D with nx:=s2 D} σ H):nj s1 s2 D σ H:=h
theorem zAr(h:D.nx σ H):mV D σ H:=h
theorem ZW(h:te σ H D.rt):z5 te D σ H:=h
theorem zCL(h:tt σ H λb H1=>if b=true then s1 D σ H1 else s2 D σ H1):pF tt s1 s2 D σ H:=h
theorem b_(h:te σ H λx H1=>g x σ H1 D.nx):jn te g D σ H:=h
theorem D_(h:te σ H λ_ H1=>D.nx σ H1):sQ te D σ H:=h
theorem zDn(h:t σ H λvs H1=>∃v w,vs=[v,w]/\D.nx ((σ.set i (some v)).set j (some w)) H1):O6 i j t D σ H:=h
theorem zzL(q:QS ((σ.set i (some v)).set j (some w)) H):∃v' w',[v,w]=[v',w']/\QS ((σ.set i (some v')).set j (some w')) H:=⟨v,w,rfl,q⟩
theorem CY(q:QS (σ.set i (some v)) H):gg i v σ H QS:=q
theorem zAW(q:QS σ H):Kq [] σ H QS:=⟨rfl,q⟩
theorem Zv(q:g v σ H λσ' H'=>gs xs σ' H' QS):M1 g gs (v::xs) σ H QS:=⟨v,xs,rfl,q⟩
theorem rm{a:wc}{n:Nat}(h:aR K H a xs)(e:xs.length=n)(q:gs xs σ H QS):yA K n gs (.ref a) σ H QS:=⟨a,xs,rfl,h,e,q⟩
theorem zAq{tset:zb}(h:ta σ H λo H1=>tb σ H1 λi H2=>tset o i v H2 λH3=>QS σ H3):Ob ta tb tset v σ H QS:=h
theorem y_{p:wc}{k:Int}(h:H p=some (.lst xs))(e:gc xs.length k=some j)(q:∀H',Exc p H H'->H' p=some (.lst (xs.set j v))->QH H'):Om (.ref p) (.int k) v H QH :=
 ⟨p,xs,k,j,rfl,rfl,h,e,q _ (Exc.upd p H _) bW⟩
theorem zC1{f:Int->Int->V}(q:Q (f m n) H):gB f (.int m) (.int n) H Q:=⟨m,n,rfl,rfl,q⟩
theorem AV{C:Int->Int->Prop}{f:Int->Int->V}(c:C m n)(q:Q (f m n) H):rI C f (.int m) (.int n) H Q:=⟨m,n,rfl,rfl,c,q⟩
theorem zDC{f:Int->V}(q:Q (f m) H):rU f (.int m) H Q:=⟨m,rfl,q⟩
theorem ZZ(q:Q (.int (m+n)) H):g_ (.int m) (.int n) H Q:=.inl ⟨m,n,rfl,rfl,q⟩
theorem pQ{p b:wc}(h:H p=some (.lst xs))(k:H b=some (.lst ys))(z:xs.length+ys.length<=wr)
  (q:∀c H',H c=none->ae H H'->H' c=some (.lst (xs++ys))->Q (.ref c) H'):g_ (.ref p) (.ref b) H Q :=
 .inr (.inl ⟨p,b,xs,ys,rfl,rfl,h,k,z,λc hc=>q c _ hc (ae.upd hc) bW⟩)
theorem zCT(q:Q (.int (if m<0 then -m else m)) H):Ls [.int m] H Q:=⟨m,rfl,q⟩
theorem ON{p:wc}(h:aR K H p xs)(q:Q (.int xs.length) H):gy K [.ref p] H Q:=⟨p,xs,rfl,.inr h,q⟩
theorem md{p:wc}(h:aI K H p xs)(q:Q (.int xs.length) H):gy K [.ref p] H Q:=⟨p,xs,rfl,.inl h,q⟩
theorem zCP(q:Q (.bl (decide (m=n))) H):jd K (.int m) (.int n) H Q :=
 ⟨.int m,.int n,cC.mpr rfl,cC.mpr rfl,rfl,rfl,by
  have e:Wa (.int m) (.int n)=decide (m=n):=by
   rw[Wa,V9]
  rw[e];exact q⟩
theorem zDd(q:Q (.bl (!decide (m=n))) H):lV K (.int m) (.int n) H Q :=
 ⟨.int m,.int n,cC.mpr rfl,cC.mpr rfl,rfl,rfl,by
  have e:Wa (.int m) (.int n)=decide (m=n):=by
   rw[Wa,V9]
  rw[e];exact q⟩
theorem Bl{e:wu}(h:Is K H v d)(k:Is K H w e)(sd:vU d=true)(se:vU e=true)(q:Q (.bl (Wa d e)) H):jd K v w H Q:=⟨d,e,h,k,sd,se,q⟩
theorem Np{e:wu}(h:Is K H v d)(k:Is K H w e)(sd:vU d=true)(se:vU e=true)(q:Q (.bl (!PyData.eqv d e)) H):lV K v w H Q:=⟨d,e,h,k,sd,se,q⟩
theorem p9{T:String}(h:Is K H v d)(e:wf K (.type (kindOf d)) (.type T)=some (isA T d))(q:Q (.bl (isA T d)) H):dH K [v,.ty T] H Q:=⟨v,T,d,_,rfl,h,e,q⟩
def gT:wu->Bool
 | .tuple _=>true
 | _=>false
def Dg:wu->Bool
 | .int _=>true
 | .bool _=>true
 | _=>false
def Dp:wu->Bool
 | .bool _=>true
 | _=>false
def fF:wu->Bool
 | .list _=>true
 | _=>false
def l_:wu->Bool
 | .str _=>true
 | _=>false
theorem Ol : gT d=true ↔ ∃ds,d=.tuple ds:=by cases d<;>simp[gT]
theorem Tv(h:Is K H v d)(q:Q (.bl (gT d)) H):dH K [v,.ty "tuple"] H Q:=p9 h (zvT d) (by have e:isA "tuple" d=gT d:=(by cases d<;>rfl);rw[e];exact q)
theorem zza(h:Is K H v d)(q:Q (.bl (Dg d)) H):dH K [v,.ty "int"] H Q:=p9 h (zzP d) (by have e:isA "int" d=Dg d:=(by cases d<;>rfl);rw[e];exact q)
theorem zwT(h:Is K H v d)(q:Q (.bl (Dp d)) H):dH K [v,.ty "bool"] H Q:=p9 h (zwX d) (by have e:isA "bool" d=Dp d:=(by cases d<;>rfl);rw[e];exact q)
theorem zI(h:Is K H v d)(q:Q (.bl (fF d)) H):dH K [v,.ty "list"] H Q:=p9 h (zy7 d) (by have e:isA "list" d=fF d:=(by cases d<;>rfl);rw[e];exact q)
theorem yK(h:Is K H v d)(q:Q (.bl (l_ d)) H):dH K [v,.ty "str"] H Q:=p9 h (zAY d) (by have e:isA "str" d=l_ d:=(by cases d<;>rfl);rw[e];exact q)
theorem jm{p:wc}(h:aR K H p xs)(e:gJ xs m=some v)(q:Q v H):cV K (.ref p) (.int m) H Q:=.inr (.inl ⟨p,xs,m,v,rfl,rfl,h,e,q⟩)
theorem dS{p:wc}(h:aI K H p xs)(e:gJ xs m=some v)(q:Q v H):cV K (.ref p) (.int m) H Q:=.inl ⟨p,xs,m,v,rfl,rfl,h,e,q⟩
theorem B6{α : Type}{xs:List α}(h0:0<=m)(h1:m<xs.length):∃v,gJ xs m=some v/\v∈xs:=by
 obtain⟨k,rfl⟩:∃k:Nat,m=(k:Int):=⟨m.toNat,by lia⟩;have l:k<xs.length:=by lia
 exact⟨xs[k],gm (by simp[l]),Wi l⟩
theorem zh{p:wc}(P:V->Prop)(h:aI K H p xs)(h0:0<=m)(h1:m<xs.length)(hP:∀x∈xs,P x)(q:∀x,P x->Q x H):cV K (.ref p) (.int m) H Q:=by
 obtain⟨x,e,hx⟩:=B6 h0 h1;exact dS h e (q x (hP x hx))
theorem zAg{r:Rat}(h:Is K H v (N r))(q:Q (.int r.num) H):cV K v (.int 0) H Q:=by
 obtain⟨a,rfl,h'⟩:=oZ.mp h;exact jm h' rfl q
theorem zzT{r:Rat}(h:Is K H v (N r))(q:Q (.int (r.den:Int)) H):cV K v (.int 1) H Q:=by
 obtain⟨a,rfl,h'⟩:=oZ.mp h;exact jm h' rfl q
theorem bz(h:Is K H v (.tuple ds))(e:ds[j]? = some d)(q:∀x,Is K H x d->Q x H):cV K v (.int (j:Int)) H Q:=by
 obtain⟨a,xs,rfl,h,t⟩:=bX.mp h;obtain⟨x,e1,hx⟩:=t.get e;exact jm h (gm e1) (q x hx)
theorem me(h:Is K H v (.tuple ds))(q:Q (.int ds.length) H):gy K [v] H Q:=by
 obtain⟨a,xs,rfl,h,t⟩:=bX.mp h;exact ON h (by rw[t.length];exact q)
theorem nu{α : Type}{l:List α}(h:l.length<=1000):l.length<=wr:=qH (nC h)
theorem fG(z:xs.length<=1000)(q:∀p H',H p=none->ae H H'->H' p=some (.tup xs)->Q (.ref p) H'):pz K xs H Q:=⟨nu z,λp hp=>q p _ hp (ae.upd hp) bW⟩
theorem fj(z:xs.length<=1000)(q:∀p H',H p=none->ae H H'->H' p=some (.lst xs)->Q (.ref p) H'):zT K xs H Q:=⟨nu z,λp hp=>q p _ hp (ae.upd hp) bW⟩
theorem eE(z:xs.length<=1000)(h:aq K H xs ds)(q:∀v H',ae H H'->Is K H' v (.tuple ds)->Q v H'):pz K xs H Q :=
 fG z λp H' _ s e=>q _ H' s (bX.mpr ⟨p,xs,rfl,.of e,aq.same s ds xs h⟩)
theorem yi{r:Rat}(e1:m=r.num)(e2:n=(r.den:Int))(q:∀v H',ae H H'->Is K H' v (N r)->Q v H'):pz K [.int m,.int n] H Q:=by
 subst e1 e2;exact fG (by show 2<=1000;decide) λp H' _ s e=>q _ H' s (oZ.mpr ⟨p,rfl,.of e⟩)
theorem zAp{p:Prop}[Decidable p]{A:Prop}(h1:p->A)(h2:¬ p->B):if decide p=true then A else B:=by
 by_cases h:p
 ·rw[decide_eq_true h,if_pos rfl];exact h1 h
 ·rw[decide_eq_false h,if_neg vB];exact h2 h
theorem zwW{p:Prop}[Decidable p]{A:Prop}(h1:¬ p->A)(h2:p->B):if(!decide p)=true then A else B:=by
 by_cases h:p
 ·rw[decide_eq_true h];exact m8 (h2 h)
 ·rw[decide_eq_false h];exact nB (h1 h)
theorem zAK{b:Bool}{A:Prop}(h1:b=true->A)(h2:b=false->B):if b=true then A else B:=by
 cases b
 ·exact m8 (h2 rfl)
 ·exact nB (h1 rfl)
theorem zzk{b:Bool}{A:Prop}(h1:b=false->A)(h2:b=true->B):if(!b)=true then A else B:=by
 cases b
 ·exact nB (h1 rfl)
 ·exact m8 (h2 rfl)
end
section
variable{c:TT}{tb:TS}{D:ck}{σ : St}{H:Hp}
def PZ(σ : St)(i:Nat):Int:=match σ[i]? with
 | some (some (.int y))=>y
 | _=>0
def SD(Pv:St->Hp->Prop)(μ : St->Nat)(tb:TS)(D:ck)(σ':St)(H1:Hp):Prop :=
 ∃M:St->Hp->Prop,(∀σ2 H2,M σ2 H2->∃m',m' < μ σ'/\(m' = μ σ2/\Pv σ2 H2))/\tb {D with nx:=M,ct:=M,bk:=D.nx} σ' H1
theorem LV(Pv:St->Hp->Prop)(μ : St->Nat)(h0:Pv σ H)
  (hs:∀σ' H',Pv σ' H'->c σ' H' λb H1=>if b=true then SD Pv μ tb D σ' H1 else D.nx σ' H1):Ay c tb D σ H:=by
 refine⟨λm σ H=>m = μ σ /\ Pv σ H,⟨_,rfl,h0⟩,?_⟩;rintro m σ H ⟨rfl,p⟩;exact hs σ H p
theorem Ot{Pv:St->Hp->Prop}{μ : St->Nat}{σ':St}{H1:Hp}(h:tb {D with nx:=λσ2 H2=>μ σ2 < μ σ'/\Pv σ2 H2,ct:=λσ2 H2=>μ σ2 < μ σ'/\Pv σ2 H2,bk:=D.nx} σ' H1):SD Pv μ tb D σ' H1 :=
 ⟨_,λσ2 H2 q=>⟨_,q.1,rfl,q.2⟩,h⟩
def Ou(g:TG)(tb:TS)(D:ck)(σ : St)(vs:List V)(H1:Hp):Prop:=∃j:Int,vs=[.int j] /\ -(2^62)<=j/\j<2^62 /\
 ∃W:Nat->Nat->St->Hp->Prop,(∃m,W 0 m σ H1) /\ ∀i m σ H,W i m σ H ->
  ((ji 0 j.toNat).stop i H/\D.nx σ H)\/((ji 0 j.toNat).go i H /\ ∃M:St->Hp->Prop,(∀σ' H',M σ' H'->∃m',m'<m/\W (i+1) m' σ' H') /\ ∀x H',(ji 0 j.toNat).fB i H x H'->g x σ H' λσ2 H2=>tb {D with nx:=M,ct:=M,bk:=D.nx} σ2 H2)
theorem zzu{ta:TA}{g:TG}(h:ta σ H λvs H1=>Ou g tb D σ vs H1):pH (Bj ta) g tb D σ H:=h
theorem oO{g:TG}{n:Int}(h0 : -1000000000<=n)(h1:n<1000000000)(Pv:Nat->St->Hp->Prop)(p:Pv 0 σ H)
  (hs:∀(i:Nat) σ H,i<n.toNat->Pv i σ H->g (.int (i:Int)) σ H λσ2 H2=>tb {D with nx:=Pv (i+1),ct:=Pv (i+1),bk:=D.nx} σ2 H2)
  (hd:∀σ H,Pv n.toNat σ H->D.nx σ H):Ou g tb D σ [.int n] H:=by
 refine⟨n,rfl,by lia,by lia,zwo (lo:=0) Pv p (λi σ H hi q=>?_) hd⟩;have e:(0:Int)+(i:Int)=(i:Int):=by lia
 rw[e];exact hs i σ H hi q
end
def B5(K:wa)(g:TG)(tb:TS)(D:ck)(σ : St)(x:V)(H1:Hp):Prop:=∃a,x=.ref a/\(∃xs,aI K H1 a xs) /\
 ∃W:Nat->Nat->St->Hp->Prop,(∃m,W 0 m σ H1) /\ ∀i m σ H,W i m σ H ->
  ((jg K a).stop i H/\D.nx σ H)\/((jg K a).go i H /\ ∃M:St->Hp->Prop,(∀σ' H',M σ' H'->∃m',m'<m/\W (i+1) m' σ' H') /\ ∀x H',(jg K a).fB i H x H'->g x σ H' λσ2 H2=>tb {D with nx:=M,ct:=M,bk:=D.nx} σ2 H2)
def NO(K:wa)(g:TG)(tb:TS)(D:ck)(σ : St)(x:V)(H1:Hp):Prop:=∃a,x=.ref a/\(∃xs,aR K H1 a xs) /\
 ∃W:Nat->Nat->St->Hp->Prop,(∃m,W 0 m σ H1) /\ ∀i m σ H,W i m σ H ->
  ((iR K a).stop i H/\D.nx σ H)\/((iR K a).go i H /\ ∃M:St->Hp->Prop,(∀σ' H',M σ' H'->∃m',m'<m/\W (i+1) m' σ' H') /\ ∀x H',(iR K a).fB i H x H'->g x σ H' λσ2 H2=>tb {D with nx:=M,ct:=M,bk:=D.nx} σ2 H2)
section
variable{K:wa}{te:TE}{g:TG}{tb:TS}{D:ck}{σ : St}{H:Hp}{a:wc}{xs:List V}
theorem zzW(h:te σ H λx H1=>B5 K g tb D σ x H1):pH (CG K te) g tb D σ H:=h
theorem N1(hx:aI K H a xs)(Pv:Nat->St->Hp->Prop)(h0:Pv 0 σ H)(hl:∀i σ H,i<=xs.length->Pv i σ H->aI K H a xs)
  (hs:∀i x σ H,xs[i]? = some x->Pv i σ H->g x σ H λσ2 H2=>tb {D with nx:=Pv (i+1),ct:=Pv (i+1),bk:=D.nx} σ2 H2) (hd:∀σ H,Pv xs.length σ H->D.nx σ H):B5 K g tb D σ (.ref a) H :=
 ⟨a,rfl,⟨xs,hx⟩,Zh Pv h0 hl hs hd⟩
theorem zwg(hx:aR K H a xs)(Pv:Nat->St->Hp->Prop)(h0:Pv 0 σ H)(hl:∀i σ H,i<=xs.length->Pv i σ H->aR K H a xs)
  (hs:∀i x σ H,xs[i]? = some x->Pv i σ H->g x σ H λσ2 H2=>tb {D with nx:=Pv (i+1),ct:=Pv (i+1),bk:=D.nx} σ2 H2) (hd:∀σ H,Pv xs.length σ H->D.nx σ H):NO K g tb D σ (.ref a) H :=
 ⟨a,rfl,⟨xs,hx⟩,YW Pv h0 hl hs hd⟩
end
variable{H:Hp}
theorem Ph{σ : St}{Q:VK}(q:∀p H',H p=none->ae H H'->H' p=some (.dK [])->Q (.ref p) H'):Nl σ H Q:=λp hp=>q p _ hp (ae.upd hp) bW
theorem zCx{K:wa}{a:wc}{xs:List V}(hO:zz H)(h:aI K H a xs):iA K H a xs:=by
 rcases h with(h | ⟨o,h⟩) | h
 ·rcases hO a with z | ⟨ob,ys,z⟩
  ·rw[h]at z;cases z
  ·rw[h]at z;cases z
 ·exact .inl ⟨o,h⟩
 ·exact .inr h
theorem zCF{K:wa}{Q:VK}{a:wc}{ns:List Int}{m:Int}(h:iA K H a (ns.map V.int))(h0:0<=m)(h1:m<((ns.map V.int).length:Int))(q:∀z,Q (.int z) H):cV K (.ref a) (.int m) H Q:=by
 refine zh (λv=>∃z,v=.int z) h.sq h0 h1 (λx hx=>?_) (λx hx=>?_)
 ·obtain⟨z,_,rfl⟩:=wU.mp hx
  exact⟨z,rfl⟩
 ·obtain⟨z,rfl⟩:=hx
  exact q z
section
variable{K:wa}{H H':Hp}{v:V}{d:wu}{a:wc}{xs:List V}{o:HO}
theorem ae.back{H2:Hp}(b:ae H' H2)(s:ae H H'):ae H H2:=s.trans b
theorem aZ.back{H2:Hp}(b:aZ H' H2)(s:aZ H H'):aZ H H2:=s.trans b
theorem Is.by(s:ae H H')(h:Is K H v d):Is K H' v d:=Is.same s d v h
theorem Is.YM(h:Is K H v d)(s:ae H H'):Is K H' v d:=Is.same s d v h
theorem Is.hX{r:Rat}(s:aZ H H')(h:Is K H v (N r)):Is K H' v (N r):=Is.keep s _ v (eX r) h
theorem Is.cJ(s:aZ H H')(i:bJ d=true)(h:Is K H v d):Is K H' v d:=Is.keep s _ v i h
end
def cp(X:Cx)(N':List Str)(scope:Scope)(cl:List (Str × wc))(C:wc)(s₀ : wl)(H₀ : Hp)(fp:List wc)(pins:List (wc × Obj)):Cx where
 prog:=X.prog
 w:=X.w
 K:=X.K
 mg:=X.mg
 base:=X.base
 A:=X.A
 N:=N'
 s₀:=s₀
 H₀:=H₀
 env:=compEnvC scope cl C X.env
 outer:=X.stack
 stack:=X.stack
 ex:=fp
 fn:=λ_=>false
 calm:=X.calm
 pn:=X.pn++pins
 xe:=λ_ _=>False
structure R_(X:Cx)(scope:Scope)(cl:List (Str × wc)):Prop where
 gZ:closureFor scope X.env=pure cl
 sub:∀x c,cl.lookup x=some c->X.env.cells.lookup x=some c
 has:∀x,((relabel scope X.env).names.lookup x=some .cell\/(relabel scope X.env).names.lookup x=some .free)->∃c,cl.lookup x=some c
def c7(src:List (Option Nat))(σ : St):St:=src.map λo=>match o with
 | none=>none
 | some j=>(σ[j]?).join
def Pc(X:Cx)(N':List Str)(src:List (Option Nat)):Prop :=
 N'.length=src.length /\ ∀(i j:Nat)(x:Str),N'[i]? = some x->src[i]? = some (some j)->X.N[j]? = some x/\X.env.scope.names.lookup x=some .cell
section
variable{X:Cx}{pins:List (wc × Obj)}{σ : St}{H:Hp}{s:wl}{N':List Str}{scope:Scope}{cl:List (Str × wc)}{src:List (Option Nat)}{fp:List wc}
theorem Inv.block{h₁ : wK}{tk:Nat}(I:Inv X pins σ H s)(hk:scope.kind=.function)(cok:R_ X scope cl)(sok:Pc X N' src)(hf:∀b∈fp,cT X pins H b)(hlt:∀b∈fp,b<s.heap.objs.size)
  (hns:h₁.Ns s.heap.objs.size λ_=>none) (old:∀b o,s.heap.get? b=some o->h₁.get? b=some o)
  (hvis:∀(i:Nat) x,N'[i]? = some x->src[i]? ≠ some none->(relabel scope X.env).names.lookup x=some .cell\/(relabel scope X.env).names.lookup x=some .free) :
  Inv (cp X N' scope cl s.heap.objs.size s H fp pins) [] (c7 src σ) H {s with heap:=h₁,toks:=tk}:=by
 have hfr:H s.heap.objs.size=none:=I.az.fresh (wo _)
 have iX:∀x c,cl.lookup x=some c->c<s.heap.objs.size:=λx c e=>by
  obtain⟨v,q⟩:=I.cell x c (cok.sub x c e);exact q.lt
 have fplt:∀b∈fp,b ∉ bN X.stack:=λb hb z=>by
  obtain⟨_,f1,f2,_⟩:=hf b hb;exact(wz.mp (I.jy b z)).elim f1 f2
 refine⟨⟨I.ok.mod,?_,I.ok.glob,I.ok.blt,wo _,λx y c h1 h2=>?_,λx hx=>?_,λx c hx=>?_,I.ok.hd,I.ok.frames,.inl rfl,λb hb=>⟨?_,λx c e=>?_⟩,I.bs,w5 I.ok.gC I.sz,λb o e=>?_,fplt,I.stack,I.oy⟩,
  rfl,I.bare,Un.kept old,⟨_,hns,λi x v h1 h2 h3=>?_⟩,λx c e=>?_,hfr,λx c e=>?_,λp hp=>?_,I.az.kept old,?_⟩
 ·show(relabel scope X.env).kind=.function
  exact hk
 ·exact I.ok.inj x y c (cok.sub x c h1) (cok.sub y c h2)
 ·exact cok.has x hx
 ·exact absurd (show false=true from hx) vB
 ·exact wS (hlt b hb)
 ·exact(hf b hb).2.2.2.2.1 x c (cok.sub x c e)
 ·intro hb
  obtain⟨_,_,_,f3,_⟩:=hf b hb;rcases f3 with z | z
  ·exact I.ok.j_ b o e z
  ·exact absurd (wX (wD e) (w5 I.ok.gC z)) (Vk _)
 ·-- a name of the frame around
  have hsrc:∃j,src[i]? = some (some j) /\ σ[j]? = some (some v):=by
   unfold c7 at h2;rw[wG]at h2;cases q:src[i]? with
   | none=>rw[q]at h2;cases h2
   | some o =>
    rw[q]at h2;cases o with
    | none=>cases h2
    | some j =>
     refine⟨j,rfl,?_⟩;have h2':(σ[j]?).join=some v:=vi h2;cases q2 : σ[j]? with
     | none=>rw[q2]at h2';cases h2'
     | some z=>rw[q2]at h2';exact congrArg some h2'
  obtain⟨j,hj,hv⟩:=hsrc;obtain⟨hN,hc⟩:=sok.2 i j x h1 hj;obtain⟨m,_,hl⟩:=I.loc;obtain⟨u,ru,lk⟩:=hl j x v hN hv (.inr (.inl hc));refine⟨u,ru,.inr ⟨hvis i x h1 (by rw[hj];intro z;cases z),?_⟩⟩;rcases lk with⟨k,_⟩ | ⟨_,c,ec,hcell⟩
  ·have k':X.env.scope.names.lookup x=some .local:=k
   rw[hc]at k';cases k'
  ·obtain⟨c',ec'⟩:=cok.has x (hvis i x h1 (by rw[hj];intro z;cases z))
   have:=cok.sub x c' ec';rw[ec]at this;cases this;obtain⟨o,ho,hd⟩:=hcell;exact⟨c,ec',o,old c o ho,hd⟩
 ·obtain⟨v,o,ho,hd⟩:=I.cell x c (cok.sub x c e)
  exact⟨v,o,old c o ho,hd⟩
 ·exact I.eS x c (cok.sub x c e)
 ·have hp':p∈(X.pn++pins)++[]:=hp
  rw[vS]at hp';obtain⟨e,n,ne,nf,d⟩:=I.pin p hp';refine⟨old _ _ e,n,wS (wD e),λz=>?_,d⟩;exact(wz.mp (I.jy p.1 z)).elim ne nf
 ·show(c7 src σ).length=N'.length
  unfold c7;rw[we,sok.1]
end
def MP:TT:=λ_ H Q=>Q true H
def k_(X:Cx)(ifs:List Expr)(t:TT):Prop :=
 ∀(pins:List (wc × Obj))(s:wl)(σ : St)(H:Hp)(Q:Bool->Hp->Prop),Inv X pins σ H s->t σ H Q ->
  wq (model X.prog X.w) X.A (forIn ifs true λc r=>if r=true then do let ok <- isTrue c X.env (eval c X.env);pure (ForInStep.yield ok)else pure (ForInStep.yield r)) (TP X pins σ Q) X.xe s
theorem cX{X:Cx} : k_ X [] MP:=λ_ _ _ H _ I h=>wpAny_tests_nil ⟨H,I,h⟩
theorem zy{X:Cx}{c:Expr}{t:TT}(hc:PT X c t):k_ X [c] t:=λpins s σ H Q I h=>wpAny_tests_one (hc pins s σ H Q I h)
section
variable{prog:wO}{w:wN}{A:va}{R:Result->wl->Prop}{s:wl}
theorem zqs{elt target iter:Expr}{ifs:List Expr}{scope:Scope}{pos:Pos}{it acc:wd}{env:Env}(I:Nat->wl->Prop)
   (turn:∀n s,I n s->wq (model prog w) A (pyNext it) (λr s₁=>match r with
     | none=>R (.ok .next) s₁
     | some v=>wq (model prog w) A (VX target it v) (λ_ s₁'=>wq (model prog w) A (assign target env v) (λ_ s₂ =>
         wq (model prog w) A (forIn ifs true λc r=>if r=true then do let ok <- isTrue c env (eval c env);pure (ForInStep.yield ok)else pure (ForInStep.yield r)) (λok s₃ =>
           if ok=true then wq (model prog w) A (eval elt env) (λx s₄ =>
             wq (model prog w) A (call (.builtin "list.append") [acc,x]) (λ_ s₅=>∃m,m<n/\I m s₅) (λ_ _=>False) s₄) (λ_ _=>False) s₃
           else ∃m,m<n/\I m s₃) (λ_ _=>False) s₂) (λ_ _=>False) s₁') (λ_ _=>False) s₁) (λ_ _=>False) s)
   (n:Nat) (h:I n s):VN (model prog w) A (.compLoop (.ListComp elt [⟨target,iter,ifs,0⟩] scope pos) 0 it acc env) R s:=by
 refine codeAny_loop rfl I (λn s hI=>?_) n h
 show wq _ A ((compTurn (.ListComp elt [⟨target,iter,ifs,0⟩] scope pos) 0 it acc env).onRaise (λx=>do Vv x env;theTreesLotGoes x)) _ _ s
 refine wpAny_noted ?_;rw[compTurn_list];refine wj (qq (wj (vH (turn n s hI) (λr s₁ h₁=>?_) λ_ _ h'=>h'.elim)));cases r with
 | none=>exact wA h₁
 | some v =>
   refine wj (vH h₁ (λ_ s₁' h₁'=>?_) λ_ _ h'=>h'.elim);refine wj (vH h₁' (λ_ s₂ h₂=>wj (vH h₂ (λok s₃ h₃=>?_) λ_ _ h'=>h'.elim)) λ_ _ h'=>h'.elim);cases ok with
   | false=>exact wA ⟨rfl,h₃⟩
   | true=>exact wj (wj (vH h₃ (λx s₄ h₄=>wj (vH h₄ (λ_ s₅ h₅=>wA (wA ⟨rfl,h₅⟩)) λ_ _ h'=>h'.elim)) λ_ _ h'=>h'.elim))
end
def iM(g:TG)(tt:TT)(te:TE)(J:It)(D:wc)(σ0:St)(H0:Hp)(Q:Hp->Prop):Prop :=
 ∃W:Nat->Nat->St->Hp->Prop,(∃m,W 0 m σ0 H0) /\ ∀i m σ' H',W i m σ' H' ->
  (J.stop i H'/\Q H')\/(J.go i H' /\ ∃M:St->Hp->Prop,(∀σ2 H2,M σ2 H2->∃m',m'<m/\W (i+1) m' σ2 H2) /\
   ∀x H2,J.fB i H' x H2->g x σ' H2 λσ3 H3=>tt σ3 H3 λok H4=>if ok=true then te σ3 H4 λy H5=>∃ys,H5 D=some (.lst ys)/\ys.length<wr/\M σ3 (upd H5 D (.lst (ys++[y])))else M σ3 H4)
def iV(src:List (Option Nat))(wi:TI)(g:TG)(tt:TT)(te:TE):TE:=λσ H Q=>wi σ H λJ H1=>∀D,H1 D=none->iM g tt te J D (c7 src σ) (upd H1 D (.lst [])) (λH'=>Q (.ref D) H')
structure Dc(Y:Cx)(tg:Expr)(J:It)(fp:List wc)(it:wc)(tn:Nat->wK->Prop):Prop where
 item:∀(i:Nat)(pins:List (wc × Obj))(s:wl)(σ : St)(H:Hp)(E:wd->wl->Prop),Inv Y pins σ H s->(∀b∈fp,cT Y pins H b)->tn i s.heap->J.go i H ->
   wq (model Y.prog Y.w) Y.A (pyNext (.ref it)) (λr s1=>∃u,r=some u/\wq (model Y.prog Y.w) Y.A (VX tg (.ref it) u) (λ_ s2=>∃x H',Inv Y pins σ H' s2/\aV x u/\J.fB i H x H'/\tn (i+1) s2.heap /\ ∀b∈fp,H' b=none) E s1) E s
 done:∀(i:Nat)(pins:List (wc × Obj))(s:wl)(σ : St)(H:Hp)(E:wd->wl->Prop),Inv Y pins σ H s->(∀b∈fp,cT Y pins H b)->tn i s.heap->J.stop i H ->
   wq (model Y.prog Y.w) Y.A (pyNext (.ref it)) (λr s1=>r=none/\Inv Y pins σ H s1) E s
theorem gU.AX{P:wO}{w:wN}{K:wa}{tg:Expr}{J:It}{fp:List wc}{it:wc}{tn:Nat->wK->Prop}(T:gU P w K tg J fp it tn){Y:Cx}(h1:Y.prog=P)(h2:Y.w=w)(h3:Y.K=K)(hc:Y.calm=true):Dc Y tg J fp it tn:=by
 subst h1 h2 h3;exact⟨T.item Y rfl rfl rfl hc,T.done Y rfl rfl rfl hc⟩
section
variable{X:Cx}{pins:List (wc × Obj)}{σ : St}{H:Hp}{s:wl}{N':List Str}{scope:Scope}{cl:List (Str × wc)}{src:List (Option Nat)}{elt tgt iter:Expr}{ifs:List Expr}{pos:Pos}{wi:TI}{g:TG}{tt:TT}{te:TE}
structure kA(X:Cx)(N':List Str)(scope:Scope)(cl:List (Str × wc))(src:List (Option Nat)):Prop where
 kind:scope.kind=.function
 cell:∀y∈scope.names,y.2≠.cell
 names:∀y∈scope.names,y.2=.local->scope.names.lookup y.1=some .local
 gZ:R_ X scope cl
 Kl:Pc X N' src
 OO:∀(i:Nat) x,N'[i]? = some x->src[i]? ≠ some none->(relabel scope X.env).names.lookup x=some .cell\/(relabel scope X.env).names.lookup x=some .free
theorem Ow{it:wc}{fp:List wc}{tn:Nat->wK->Prop}{J:It}{RQ:wc->Hp->Prop}{E:wd->wl->Prop}{RR:wd->wc->Result->wl->Prop}
   (TC:∀C s₀ H₀,Dc (cp X N' scope cl C s₀ H₀ fp pins) tgt J fp it tn) (ok:kA X N' scope cl src)
   (hg:∀C s₀ H₀ fp pins,PG (cp X N' scope cl C s₀ H₀ fp pins) tgt g) (ht:∀C s₀ H₀ fp pins,k_ (cp X N' scope cl C s₀ H₀ fp pins) ifs tt) (he:∀C s₀ H₀ fp pins,PE (cp X N' scope cl C s₀ H₀ fp pins) elt te)
   (I:Inv X pins σ H s) (T:gU X.prog X.w X.K tgt J fp it tn) (st:tn 0 s.heap) (hf:∀b∈fp,cT X pins H b)
   (rd:∀D,H D=none->iM g tt te J D (c7 src σ) (upd H D (.lst [])) (λH'=>RQ D H'))
   (hRR:∀D C H' s' m,Inv X pins σ H' s'->s'.heap.Ns C m->cT X pins H' C->RQ D H'->RR (.ref D) C (.ok .next) s') :
   wq (model X.prog X.w) X.A (newList []) (λacc s₃=>wq (model X.prog X.w) X.A (newFunctionEnv scope X.env.globals cl [] X.env.qual none .none (some X.env)) (λcenv s₄ =>
     VN (model X.prog X.w) X.A (.compStart (.ListComp elt [⟨tgt,iter,ifs,0⟩] scope pos) 0 (.ref it) acc {cenv with scope:=relabel scope X.env}) (RR acc cenv.locals) s₄) E s₃) E s:=by
 refine Wk ?_ (by show 0<=wr;exact Vu _);have hD:H s.heap.objs.size=none:=I.az.fresh (wo _)
 have I3:Inv X pins σ (upd H s.heap.objs.size (.lst [])) {s with heap:=s.heap.push {cls:=.type "list",data:=.seq ([]:List wd).toArray}} :=
   I.r_ (ys:=[]) (its:=[]) (t':=s.toks) .nil (Vu _)
 have old3:∀b o,s.heap.get? b=some o->(s.heap.push {cls:=.type "list",data:=.seq ([]:List wd).toArray}).get? b=some o:=λb o e=>wn _ e
 have lt0:∀b∈fp,b<s.heap.objs.size:=λb hb=>by
   obtain⟨o,e,_⟩:=T.obj 0 _ st b hb;exact wD e
 have hf3:∀b∈fp,cT X pins (upd H s.heap.objs.size (.lst [])) b:=λb hb=>⟨by rw[bV (wS (lt0 b hb))];exact(hf b hb).1,(hf b hb).2⟩
 have lt3:∀b∈fp,b<(s.heap.push {cls:=.type "list",data:=.seq ([]:List wd).toArray}).objs.size:=λb hb=>by
   rw[WV];exact qW (lt0 b hb)
 have st3:tn 0 (s.heap.push {cls:=.type "list",data:=.seq ([]:List wd).toArray}):=T.keep _ _ _ st λb _ o e=>old3 b o e
 obtain⟨W,⟨m0,w0⟩,turn⟩:=rd _ hD;generalize hs3:({s with heap:=s.heap.push {cls:=.type "list",data:=.seq ([]:List wd).toArray}} : wl)=s3 at I3 ⊢;have hh3:s3.heap=s.heap.push {cls:=.type "list",data:=.seq ([]:List wd).toArray}:=by rw[<- hs3]
 rw[<- hh3]at lt3 st3;clear old3 hs3 hh3;generalize hD':s.heap.objs.size=D at *
 refine wpAny_newFunctionEnv ok.cell (by intro y hy;cases hy) (λh₁ hns₁ hsb₁=>?_) ok.kind;have old:∀b o,s3.heap.get? b=some o->h₁.get? b=some o:=λb o e=>hsb₁.extBut b o (wS (wD e)) (wn _ e)
 have hC:cT X pins (upd H D (.lst [])) s3.heap.objs.size:=I3.g6 (wo _) (I3.az.fresh (wo _))
 have IB:∀tk,Inv (cp X N' scope cl s3.heap.objs.size s3 (upd H D (.lst [])) fp pins) [] (c7 src σ) (upd H D (.lst [])) {s3 with heap:=h₁,toks:=tk}:=λtk =>
   I3.block ok.kind ok.gZ ok.Kl hf3 lt3 hns₁ old ok.OO
 have stB:tn 0 h₁:=T.keep _ _ _ st3 λb _ o e=>old b o e
 have stat:∀{H':Hp} ,(∀b∈fp,H' b=none)->∀b∈fp,cT (cp X N' scope cl s3.heap.objs.size s3 (upd H D (.lst [])) fp pins) [] H' b:=λhn b hb=>by
   obtain⟨_,f1,f2,f3,f4,f5⟩:=hf3 b hb;refine⟨hn b hb,wS (lt3 b hb),λz=>(wz.mp (I3.jy b z)).elim f1 f2,.inl hb,λx c e=>f4 x c (ok.gZ.sub x c e),λp hp=>?_⟩;have hp':p∈(X.pn++pins)++[]:=hp;rw[vS]at hp';exact f5 p hp'
 have back:∀{σ':St}{H':Hp}{s':wl},Inv (cp X N' scope cl s3.heap.objs.size s3 (upd H D (.lst [])) fp pins) [] σ' H' s'->Inv X pins σ H' s'/\(∃m,s'.heap.Ns s3.heap.objs.size m)/\cT X pins H' s3.heap.objs.size:=λ{σ' H' s'} J=>by
   obtain⟨m,hn,_⟩:=J.loc;refine⟨I3.Ax (ch:=fp) J.os J.base J.az J.bare (λb hb=>?_),⟨m,hn⟩,⟨J.free,hC.2⟩⟩;obtain⟨_,f1,_,f3,f4,f5⟩:=hf3 b hb;exact⟨f3,f1,f4,f5⟩
 have loop:∀tk,VN (model X.prog X.w) X.A (.compLoop (.ListComp elt [⟨tgt,iter,ifs,0⟩] scope pos) 0 (.ref it) (.ref D) (compEnvC scope cl s3.heap.objs.size X.env)) (RR (.ref D) s3.heap.objs.size) {s3 with heap:=h₁,toks:=tk}:=by
   intro tk
   refine zqs (λn s'=>∃i σ' H',Inv (cp X N' scope cl s3.heap.objs.size s3 (upd H D (.lst [])) fp pins) [] σ' H' s'/\tn i s'.heap/\(∀b∈fp,H' b=none)/\W i n σ' H') ?_ m0
     ⟨0,_,_,IB tk,stB,λb hb=>(hf3 b hb).1,w0⟩
   rintro n s4 ⟨i,σ4,H4,I4,st4,fr4,w4⟩;rcases turn i n σ4 H4 w4 with⟨stop,q⟩ | ⟨go,M,hM,step⟩
   . refine au ((TC _ _ _).done i [] s4 σ4 H4 (λ_ _=>False) I4 (stat fr4) st4 stop) λr s5 ⟨hr,I5⟩=>?_
     subst hr;obtain⟨J,⟨m,hn⟩,hCf⟩:=back I5;exact hRR D _ H4 s5 m J hn hCf q
   . refine au ((TC _ _ _).item i [] s4 σ4 H4 (λ_ _=>False) I4 (stat fr4) st4 go) λr s5 ⟨u,hr,h5⟩=>?_
     subst hr;refine au h5 λ_ s6 ⟨x,H6,I6,r6,y6,st6,fr6⟩=>?_
     have I6':=I6.pinned (stat fr6) (T.obj _ _ st6)
     have again:∀{σ7:St}{H7:Hp}{s7:wl},Inv (cp X N' scope cl s3.heap.objs.size s3 (upd H D (.lst [])) fp pins) ([]++mP fp s6.heap) σ7 H7 s7->M σ7 H7 ->
         ∃m,m<n /\ ∃i σ' H',Inv (cp X N' scope cl s3.heap.objs.size s3 (upd H D (.lst [])) fp pins) [] σ' H' s7/\tn i s7.heap/\(∀b∈fp,H' b=none)/\W i m σ' H':=λ{σ7 H7 s7} I7 n7=>by
       obtain⟨m',hm,w7⟩:=hM σ7 H7 n7;refine⟨m',hm,i+1,σ7,H7,I7.mE,T.keep _ _ _ st6 λb hb o e=>(I7.pin (b,o) (vd _ (vd _ (m5 hb e)))).1,λb hb=>?_,w7⟩;obtain⟨o,e,d⟩:=T.obj _ _ st6 b hb;exact(I7.pin (b,o) (vd _ (vd _ (m5 hb e)))).2.1
     refine au (hg _ _ _ _ _ _ s6 σ4 H6 x u _ I6' r6 (step x H6 y6)) λ_ s7 ⟨σ7,H7,I7,q7⟩=>?_
     refine au (ht _ _ _ _ _ _ s7 σ7 H7 _ I7 q7) λk s8 ⟨H8,I8,q8⟩=>?_
     cases k with
     | false=>exact again I8 q8
     | true =>
       rw[if_pos rfl]at q8 ⊢;refine au (he _ _ _ _ _ _ s8 σ7 H8 _ I8 q8) λy s9 ⟨yv,H9,I9,r9,ys,hys,hz,q9⟩=>?_
       exact au (nY _ s9 σ7 H9 (.ref D) [yv] (.ref D) [y] (λ_ H'=>M σ7 H') I9 rfl (.cons r9 .nil) ⟨D,ys,yv,rfl,rfl,hys,hz,q9⟩) λ_ s10 ⟨_,H10,I10,_,q10⟩=>again I10 q10
 exact codeAny_compStart_list (loop _) (T.self _ _ _ _ _ stB (loop _))
theorem c_(hc:X.calm=true)(ok:kA X N' scope cl src)(hi:PI X tgt iter wi)
  (hg:∀C s₀ H₀ fp pins,PG (cp X N' scope cl C s₀ H₀ fp pins) tgt g) (ht:∀C s₀ H₀ fp pins,k_ (cp X N' scope cl C s₀ H₀ fp pins) ifs tt) (he:∀C s₀ H₀ fp pins,PE (cp X N' scope cl C s₀ H₀ fp pins) elt te)
  (hs:∀x,foldedSetIterable iter X.env x=pure x:=by intro _;rfl):PE X (.ListComp elt [⟨tgt,iter,ifs,0⟩] scope pos) (iV src wi g tt te):=by
 intro pins s σ H Q I h;rw[eval_ListComp];refine qQ (use:=none) rfl hs ok.gZ.gZ ok.kind ok.names (au (hi pins s σ H _ I h) λv s1 h1=>au h1 λitv s2 h2=>?_);obtain⟨it,fp,tn,J,H2,e,I2,T,st2,f2,rd⟩:=h2;subst e;refine Ow (RQ:=λD H'=>Q (.ref D) H') (RR:=λacc C=>compPost (model X.prog X.w) X.A X.xe none (EP X pins σ Q) acc C) (λ_ _ _=>T.AX rfl rfl rfl hc) ok hg ht he I2 T st2 f2 rd ?_;intro D C H' s' m J hn hC q;obtain⟨c0,c1,_,c3,c4,c5⟩:=hC;exact⟨m,hn,λh' sb=>⟨.ref D,H',J.turned (t':=s'.toks) (λb o hb e=>(sb.2 b hb).trans e) c0 c1 c3 c4 c5,rfl,q⟩⟩
theorem o_{i:Nat}{y:Str}{py spos:Pos}(hN:X.N.Nodup)(hy:X.N[i]? = some y)(hly:Loc X.env.scope y)(hc:X.calm=true)(ok:kA X N' scope cl src)(hi:PI X tgt iter wi)
  (hg:∀C s₀ H₀ fp pins,PG (cp X N' scope cl C s₀ H₀ fp pins) tgt g) (ht:∀C s₀ H₀ fp pins,k_ (cp X N' scope cl C s₀ H₀ fp pins) ifs tt) (he:∀C s₀ H₀ fp pins,PE (cp X N' scope cl C s₀ H₀ fp pins) elt te)
  (hsw:swapsWith (.ListComp elt [⟨tgt,iter,ifs,0⟩] scope pos) (some (.Name y py)) spos.line X.env=pure true:=by rfl)
  (hs:∀x,foldedSetIterable iter X.env x=pure x:=by intro _;rfl) (hf:X.fn y=true\/X.env.scope.names.lookup y=some .local:=by first | exact .inl rfl | exact .inr rfl | assumption) :
  PS X (.Assign [.Name y py] (.ListComp elt [⟨tgt,iter,ifs,0⟩] scope pos) spos) (jn (iV src wi g tt te) (gg i)):=by
 intro pins s σ H D0 I h;rw[exec_Assign_Name_used _ _ _ _ hsw];refine wj (qq (wj ?_))
 show wq _ X.A (do let _ <- comprehension (.ListComp elt [⟨tgt,iter,ifs,0⟩] scope pos) scope X.env _ (newList []) false (eval iter X.env) (some (assign (.Name y py) X.env))) _ _ s
 refine wj (vH (qQ (Q:=λ_ s'=>SP X pins D0 .next s') rfl hs ok.gZ.gZ ok.kind ok.names (au (hi pins s σ H _ I h) λv s1 h1=>au h1 λitv s2 h2=>?_))
  (λ_ s' hq=>wA (wA hq)) λ_ _ e=>e)
 obtain⟨it,fp,tn,J,H2,e,I2,T,st2,f2,rd⟩:=h2;subst e;refine Ow (RQ:=λD H'=>gg i (.ref D) σ H' D0.nx) (RR:=λacc C=>compPost (model X.prog X.w) X.A X.xe (some (assign (.Name y py) X.env)) (λ_ s'=>SP X pins D0 .next s') acc C) (λ_ _ _=>T.AX rfl rfl rfl hc) ok hg ht he I2 T st2 f2 rd ?_;intro D C H' s' m J hn hC q;obtain⟨c0,c1,_,c3,c4,c5⟩:=hC
 show wq _ _ (assign (.Name y py) X.env (.ref D)) _ _ s'
 refine wpAny_assign_Name (Dh J hN hy hly (v:=.ref D) rfl (λs'' J2 ⟨a,sb,ha⟩=>?_) hf)
 have hCa:C≠a:=by
  rcases ha with z | z
  ·rw[z];exact c1
  ·exact(c4 y a z).symm
 exact⟨m,hn.sameBut sb hCa,λh' sb'=>⟨_,H',J2.turned (t':=s''.toks) (λb o hb e=>(sb'.2 b hb).trans e) c0 c1 c3 c4 c5,q⟩⟩
end
variable{T b:wc}
abbrev La(h B:wK)(e:wc)(cls:wd):Prop :=
 ∃oe vs,h.get? e=some oe/\oe.cls=cls/\oe.data=.fields vs/\vs[1]? = some .none/\vs[2]? = some .none/\oe.dict=none/\B.get? e=none
abbrev C9(h B:wK)(e:wc)(cls fl:wd):Prop :=
 ∃oe vs T oT ts,h.get? e=some oe/\oe.cls=cls/\oe.data=.fields vs/\vs[1]? = some (.ref T)/\vs[2]? = some .none/\oe.dict=none/\B.get? e=none/\B.get? T=none/\T≠e/\h.get? T=some oT/\oT.data=.fields ts/\ts[3]? = some fl
structure bS(B:wK)(l:List Env)(e:wc)(cls fl:wd)(h:wK):Prop where
 st:B.StaysIn h
 fr:h.FunFrames B l
 tr:C9 h B e cls fl
theorem zsP{f:Array wd->Array wd}(o:Obj):(Vl f o).dict=o.dict:=by
 obtain⟨c,d,dt,sl⟩:=o;cases dt<;>rfl
theorem gQ{h:wK}{f:Obj->Obj}(n:b≠T):(h.update T f).get? b=h.get? b:=Qb _ _ (WC n)
theorem jq{h:wK}{oT o:Obj}{ts:Array wd}(hT:h.get? T=some oT)(dT:oT.data=.fields ts)(hb:h.get? b=some o)(hn:∀vs,o.data≠.fields vs):b≠T:=by
 rintro rfl;rw[hT]at hb;cases hb;exact hn _ dT
theorem oU{B:wK}{o:Obj}(n:B.get? T=none)(q:B.get? b=some o):b≠T:=by
 rintro rfl;rw[n]at q;cases q
section
variable{M:Model}{A:va}{E:wd->wl->Prop}{s:wl}{B:wK}{l outer:List Env}{env:Env}{L e:wc}{cls fl:wd}{Q:Unit->wl->Prop}
theorem bS.land(F:bS B l e cls fl s.heap)(k:∀h',bS B l e cls .none h'->s.heap.UpToSlots h'->Q () {s with heap:=h'}):wq M A (setFlight (.ref e) none) Q E s:=by
 obtain⟨st,fr,oe,vs,T,oT,ts,he,hc,hd,h1,h2,hdi,be,bT,ne,hT,dT,h3⟩:=F;have sz:3<ts.size:=(vO.mp h3).1;unfold setFlight;refine wj (vy he hd h1 ?_);rw[if_pos (by simp)];have at3:∀b,b≠T->(s.heap.update T (Vl (·.setIfInBounds 3 Value.none))).get? b=s.heap.get? b:=λb n=>gQ n
 have tr:C9 (s.heap.update T (Vl (·.setIfInBounds 3 Value.none))) B e cls .none :=
  ⟨oe,vs,T,Vl (·.setIfInBounds 3 Value.none) oT,ts.setIfInBounds 3 Value.none,(at3 e ne.symm).trans he,hc,hd,h1,h2,hdi,be,bT,ne,
   Vh _ hT (Vi (WW dT _)),WW dT _,by simp[sz]⟩
 refine Vx hT dT sz (k _ ⟨λb o q=>(at3 b (oU bT q)).trans (st b o q),fr.of_keeps λb o hb hn=>⟨o,(at3 b (jq hT dT hb hn)).trans hb,rfl⟩,tr⟩ λb o hb hn=>⟨o.slots,(at3 b (jq hT dT hb hn)).trans hb⟩)
theorem DL{oe:Obj}{vs:Array wd}{head:wd}{had:Bool}(hfr:A.frames=some (env::outer))(hf:env.frame=some L)(st:B.StaysIn s.heap)(fr:s.heap.FunFrames B (env::outer))(he:s.heap.get? e=some oe)
  (hd:oe.data=.fields vs) (sz:1<vs.size) (h2:vs[2]? = some .none) (hdi:oe.dict=none) (be:B.get? e=none) (k:∀h',bS B (env::outer) e oe.cls (Vq L) h'->s.heap.UpToSlots h'->Q () {s with heap:=h'}) :
  wq M A (do let a <- frameOf env;let pl <- entryPlaceOf L had;let b <- xV head a .none (Vq L) .none pl;setField (.ref e) 1 b) Q E s:=by
 have nfr:e ∉ (env::outer).filterMap (·.frame):=λz=>by
  obtain⟨_,o,ho,hnf⟩:=fr.mem z;rw[he]at ho;cases ho;exact hnf vs hd
 refine wj (wpAny_frameOf_fun hfr fr hf λg sg=>wj (wpAny_entryPlaceOf λpl hpl=>?_));unfold xV newFields;refine wj (Wk ?_ (hpl.sizeOk5 _ _ _ _ _));have eg:g.get? e=some oe:=(sg.2.1 e nfr).trans he
 have stg:B.StaysIn g:=λb o q=>by
  rw[sg.2.1 b λz=>?_]
  ·exact st b o q
  ·rw[(fr.mem z).1]at q;cases q
 generalize hob:({cls:=.type "traceback",data:=.fields ([head,.ref L,.none,Vq L,.none]++(if pl.isEmpty then ve 6 Value.none else pl)).toArray} : Obj)=tb;have dtb:tb.data=.fields ([head,.ref L,.none,Vq L,.none]++(if pl.isEmpty then ve 6 Value.none else pl)).toArray:=by rw[<- hob]
 have ftb:tb.isFreed=false:=Vi dtb;have e2:=wn (h:=g) tb eg;have neT:g.objs.size≠e:=vQ (wD eg)
 have at3:∀b o,b≠e->g.get? b=some o->((g.push tb).update e (Vl (·.setIfInBounds 1 (.ref g.objs.size)))).get? b=some o:=λb o n q=>by
  rw[gQ n];exact wn _ q
 refine Vx e2 hd sz (k _ ?_ ?_)
 ·have d3:=WW hd (·.setIfInBounds 1 (Value.ref g.objs.size))
  refine⟨λb o q=>at3 b o (oU be q) (stg b o q),fr.of_keeps λb o hb hn=>?_,_,_,g.objs.size,tb,_,Vh _ e2 (Vi d3),Xu _ _,d3,by simp[sz],?_,?_,be,stg.fresh,neT,?_,dtb,?_⟩
  ·obtain⟨sl,q⟩:=sg.2.2 b o hb
   exact⟨_,at3 b _ (jq he hd hb hn) q,rfl⟩
  ·rw[Array.getElem?_setIfInBounds_ne (by decide)];exact h2
  ·exact(zsP oe).trans hdi
  ·rw[gQ neT];exact wL _ ftb
  ·first | (simp;done) | (rcases hpl with rfl | ⟨_,_,_,_,_,_,_,rfl⟩<;>simp)
 ·exact λb o hb hn=>by
   obtain⟨sl,q⟩:=sg.2.2 b o hb;exact⟨sl,at3 b _ (jq he hd hb hn) q⟩
theorem zvZ(hfr:A.frames=some (env::outer))(hf:env.frame=some L)(st:B.StaysIn s.heap)(fr:s.heap.FunFrames B (env::outer))(t:La s.heap B e cls)
  (k:∀h',bS B (env::outer) e cls (Vq L) h'->s.heap.UpToSlots h'->Q () {s with heap:=h'}):wq M A (Vv (.ref e) env) Q E s:=by
 obtain⟨oe,vs,he,hc,hd,h1,h2,hdi,be⟩:=t;subst hc;unfold Vv;simp only[hf];refine wj (vy he hd h1 ?_);rw[if_neg (by decide)];exact DL hfr hf st fr he hd (vO.mp h1).1 h2 hdi be k
theorem bS.note(F:bS B (env::outer) e cls .none s.heap)(hfr:A.frames=some (env::outer))(hf:env.frame=some L)
  (k:∀h',bS B (env::outer) e cls (Vq L) h'->s.heap.UpToSlots h'->Q () {s with heap:=h'}):wq M A (Vv (.ref e) env) Q E s:=by
 obtain⟨st,fr,oe,vs,T,oT,ts,he,hc,hd,h1,h2,hdi,be,bT,ne,hT,dT,h3⟩:=F;subst hc;unfold Vv;simp only[hf];refine wj (vy he hd h1 ?_);rw[if_pos (by simp)];refine wj (vy hT dT h3 ?_);rw[if_neg (by simp[Vq])];refine wj (Vx hT dT (vO.mp h3).1 ?_);refine DL hfr hf (λb o q=>?_) (fr.of_keeps λb o hb hn=>⟨o,?_,rfl⟩) ?_ hd (vO.mp h1).1 h2 hdi be λh' F' sm=>k h' F' λb o hb hn=>sm b o ?_ hn
 ·show(V0 _ _ _).get? b=_
  rw[gQ (oU bT q)];exact st b o q
 ·show(V0 _ _ _).get? b=_
  rw[gQ (jq hT dT hb hn)];exact hb
 ·show(V0 _ _ _).get? e=_
  rw[gQ ne.symm];exact he
 ·show(V0 _ _ _).get? b=_
  rw[gQ (jq hT dT hb hn)];exact hb
theorem zts(hfr:A.frames=some (env::outer))(hf:env.frame=some L)(st:B.StaysIn s.heap)(fr:s.heap.FunFrames B (env::outer))(t:La s.heap B e cls)
  (k:∀h',bS B outer e cls .none h'->s.heap.UpToSlots h'->Q () {s with heap:=h'}):wq M A (leaving env (.ref e)) Q E s:=by
 unfold leaving;refine wj (zvZ hfr hf st fr t λh1 F1 s1=>bS.land F1 λh2 F2 s2=>k h2 ⟨F2.st,F2.fr.2.2,F2.tr⟩ (s1.trans s2))
theorem bS.leave(F:bS B (env::outer) e cls .none s.heap)(hfr:A.frames=some (env::outer))(hf:env.frame=some L)
  (k:∀h',bS B outer e cls .none h'->s.heap.UpToSlots h'->Q () {s with heap:=h'}):wq M A (leaving env (.ref e)) Q E s:=by
 unfold leaving;refine wj (F.note hfr hf λh1 F1 s1=>bS.land F1 λh2 F2 s2=>k h2 ⟨F2.st,F2.fr.2.2,F2.tr⟩ (s1.trans s2))
end
theorem cM.there{P:wO}{w:wN}{H:Hp}{h:wK}{a:wc}{o:HO}(x:cM P w H h a o):∃u,h.get? a=some u:=by
 cases o with
 | lst xs=>obtain⟨_,_,_,_,e⟩:=x;exact⟨_,e⟩
 | tup xs=>obtain⟨_,_,_,_,e,_⟩:=x;exact⟨_,e⟩
 | dK kvs=>obtain⟨_,_,_,_,o,_,_,e,_⟩:=x;exact⟨_,e⟩
 | dT kvs=>obtain⟨_,_,_,_,o,_,_,e,_⟩:=x;exact⟨_,e⟩
 | set S n=>obtain⟨o,_,_,_,e,_⟩:=x;exact⟨_,e⟩
 | ins C dx fs=>obtain⟨_,_,_,e,_⟩:=x;exact⟨_,e⟩
 | own y=>exact x
 | xd fs=>obtain⟨_,⟨_,_,_,e,_⟩,_⟩:=x;exact⟨_,e⟩
 | u9 lo hi=>obtain⟨_,_,_,e⟩:=x;exact⟨_,e⟩
 | fH ob u=>obtain⟨e,_⟩:=x;exact⟨_,e⟩
 | kN ps=>exact⟨_,x⟩
 | met f y=>exact⟨_,x⟩
 | ext φ=>obtain⟨_,e,_⟩:=x;exact e
structure iD(B:wK)(fs:List wc)(H H':Hp)(h:wK):Prop where
 fA:∀a o,H' a=some o->∃u,B.get? a=some u
 old:∀b o,h.get? b=some o->H b=none->b ∉ fs->B.get? b=some o
 iC:∀b o,h.get? b=some o->b ∉ fs->∃u,B.get? b=some u
def bQ(P:wO)(w:wN):dI:=λouter H s E e s'=>∃(ex:wc)(C:wd)(H':Hp)(B:wK),e=.ref ex/\s'.os=s.os/\VL s'.gens/\Un (bN outer) [] H H' s.heap s'.heap/\cB P w H' s'.heap /\
 bS B outer ex C .none s'.heap/\iD B (bN outer) H H' s.heap/\E C none H'
section
variable{B h h1 h':wK}{fs:List wc}{H H':Hp}{P:wO}{w:wN}
theorem iD.un(ov:iD B fs H H' h)(un:Un fs [] H H' h h1)(hfs:∀b∈fs,H b=none /\ ∃o,h.get? b=some o /\ ∀vs,o.data≠.fields vs)(st:B.StaysIn h')(sm:h1.UpToSlots h'):Un fs [] H H' h h':=by
 have slot:∀b o,h.get? b=some o->b∈fs->∃sl,h'.get? b=some {o with slots:=sl}:=λb o e hb=>by
  obtain⟨n,o',ho',nr⟩:=hfs b hb;rw[e]at ho';cases ho';obtain⟨sl,e1⟩:=un.any e n (by simp);obtain⟨sl2,e2⟩:=sm b _ e1 nr;exact⟨sl2,e2⟩
 refine⟨λb o e n nf _=>st b o (ov.old b o e n nf),λb o e _ hb _=>slot b o e hb,un.free,λb o e _=>?_,un.eU,un.eF,un.eV⟩
 by_cases hb:b∈fs
 ·obtain⟨sl,e1⟩:=slot b o e hb
  exact⟨_,e1⟩
 ·obtain⟨u,e1⟩:=ov.iC b o e hb
  exact⟨u,st b u e1⟩
theorem iD.az(ov:iD B fs H H' h)(az:cB P w H' h1)(st1:B.StaysIn h1)(st:B.StaysIn h'):cB P w H' h':=λa o e=>by
 refine(az a o e).gX (λb u hb r=>?_) (λ_ z=>z) λ_ _ z=>z
 have:∃v,B.get? b=some v:=by
  rcases hb with rfl | hb
  ·exact ov.fA _ _ e
  ·exact ov.fA _ _ hb
 obtain⟨v,ev⟩:=this;have e2:=st1 b v ev;rw[r]at e2;cases e2;exact st b u ev
end
section
variable{X:Cx}{pins:List (wc × Obj)}{σ : St}{H H':Hp}{s s':wl}{B:wK}{ex:wc}{C:wd}{E:XK}{E':wd->wl->Prop}
theorem RU(I:Inv X pins σ H s)(hx:X.ex=[])(os:s'.os=s.os)(bare:VL s'.gens)(un:Un (bN X.stack) [] H H' s.heap s'.heap)(az:cB X.prog X.w H' s'.heap)(stB:B.StaysIn s'.heap)(ov:iD B (bN X.stack) H H' s.heap)
  (q:E C none H') (oX:∀(Q:Unit->wl->Prop),(∀h',bS B X.outer ex C .none h'->s'.heap.UpToSlots h'->Q () {s' with heap:=h'})->wq (model X.prog X.w) X.A (leaving X.env (.ref ex)) Q E' s') :
  wq (model X.prog X.w) X.A (leaving X.env (.ref ex)) (λ_ s''=>bQ X.prog X.w X.outer X.H₀ X.s₀ E (.ref ex) s'') E' s':=by
 have base:Un X.fs [] X.H₀ H X.s₀.heap s.heap:=by have:=I.base;rwa[hx]at this
 have nL:∀b o,X.s₀.heap.get? b=some o->b ∉ X.fs->b ∉ bN X.stack:=λb o e n z=>by
  rcases wz.mp (I.jy b z)with r | r
  ·exact wS (wX (wD e) I.ok.above) r
  ·exact n r
 have old:∀b o,X.s₀.heap.get? b=some o->X.H₀ b=none->b ∉ X.fs->B.get? b=some o:=λb o e n nf =>
  ov.old b o (base.keep b o e n nf (by simp)) (base.free b o e n (by simp)) (nL b o e nf)
 have iC:∀b o,X.s₀.heap.get? b=some o->b ∉ X.fs->∃u,B.get? b=some u:=λb o e nf=>by
  obtain⟨o',e1⟩:=base.there b o e (by simp);exact ov.iC b o' e1 (nL b o e nf)
 refine oX _ λh' F sm=>⟨ex,C,H',B,rfl,os.trans I.os,bare,⟨λb o e n nf _=>F.st b o (old b o e n nf),λb o e n hb _=>?_,λb o e n _=>?_,λb o e _=>?_,λb xs e=>un.eU b xs (base.eU b xs e),
  λb o u e=>un.eF b o u (base.eF b o u e),λb ps e=>?_⟩,λa o e=>?_,F,⟨ov.fA,old,iC⟩,q⟩
 ·obtain⟨sl,e1⟩:=base.slot b o e n hb (by simp)
  obtain⟨sl',e2⟩:=un.any e1 (base.free b o e n (by simp)) (by simp);obtain⟨_,o',ho',nr⟩:=I.ok.dC.mem hb;rw[e]at ho';cases ho';obtain⟨sl2,e3⟩:=sm b _ e2 nr;exact⟨sl2,e3⟩
 ·obtain⟨o',e1⟩:=base.there b o e (by simp)
  exact un.free b o' e1 (base.free b o e n (by simp)) (by simp)
 ·by_cases hb:b∈X.fs
  ·obtain⟨_,o',ho',nr⟩:=I.ok.dC.mem hb
   rw[e]at ho';cases ho';have n:X.H₀ b=none:=I.ok.gP b hb;obtain⟨sl,e1⟩:=base.slot b o e n hb (by simp);obtain⟨sl',e2⟩:=un.any e1 (base.free b o e n (by simp)) (by simp);obtain⟨sl2,e3⟩:=sm b _ e2 nr;exact⟨_,e3⟩
  ·obtain⟨u,e1⟩:=iC b o e hb
   exact⟨u,F.st b u e1⟩
 ·obtain⟨m1,e1⟩:=base.eV b ps e
  obtain⟨m2,e2⟩:=un.eV b _ e1;exact⟨m1++m2,by rw[e2,QI]⟩
 ·refine(az a o e).gX (λb u hb r=>?_) (λ_ z=>z) λ_ _ z=>z
  have:∃v,B.get? b=some v:=by
   rcases hb with rfl | hb
   ·exact ov.fA _ _ e
   ·exact ov.fA _ _ hb
  obtain⟨v,ev⟩:=this;have e2:=stB b v ev;rw[r]at e2;cases e2;exact F.st b u ev
theorem zwb{e:wd}(I:Inv X pins σ H s)(hx:X.ex=[])(hs:X.stack=X.env::X.outer)(hf:X.env.frame=some X.env.locals)(h:bQ X.prog X.w X.stack H s E e s') :
  wq (model X.prog X.w) X.A (leaving X.env e) (λ_ s''=>bQ X.prog X.w X.outer X.H₀ X.s₀ E e s'') E' s':=by
 obtain⟨ex,C,H',B,rfl,os,bare,un,az,F,ov,q⟩:=h;rw[hs]at F;exact RU I hx os bare un az F.st ov q λQ k=>F.leave (I.ok.frames.trans (congrArg some hs)) hf k
theorem zs8{h':wK}{vs:List wd}(I:Inv X pins σ H s)(hx:X.ex=[])(hs:X.stack=X.env::X.outer)(hf:X.env.frame=some X.env.locals)(m:ue s.heap h' ex C vs)(q:E C none H) :
  wq (model X.prog X.w) X.A (leaving X.env (.ref ex)) (λ_ s''=>bQ X.prog X.w X.outer X.H₀ X.s₀ E (.ref ex) s'') E' {s with heap:=h'}:=by
 obtain⟨B,hB⟩:∃B,B=Vg s.heap (bN X.stack):=⟨_,rfl⟩;have hin:∀env∈X.stack,∀b,env.frame=some b->b∈bN X.stack:=λenv he b hb=>qI.mpr ⟨env,he,hb⟩
 have frB:s.heap.FunFrames B X.stack:=by rw[hB];exact PySem.W.funFrames_hide I.stack hin
 have getB:∀{b o},s.heap.get? b=some o->b ∉ bN X.stack->B.get? b=some o:=λe n=>by rw[hB];exact Qv _ e n
 have ofB:∀{b o},B.get? b=some o->s.heap.get? b=some o:=λr=>by rw[hB]at r;exact VO _ r
 have nfr:∀a o,H a=some o->a ∉ bN X.stack:=λa o e z=>by
  have:=I.oy a z;rw[e]at this;cases this
 obtain⟨t,he,_,_⟩:=m.there
 refine RU (B:=B) (s':={s with heap:=h'}) I hx rfl I.bare (Un.kept m.keeps) (I.az.kept m.keeps) (λb o r=>m.keeps b o (ofB r))
  ⟨λa o e=>?_,λb o e _ nf=>getB e nf,λb o e nf=>⟨o,getB e nf⟩⟩ q λQ k=>?_
 ·obtain⟨u,e1⟩:=(I.az a o e).there
  exact⟨u,getB e1 (nfr a o e)⟩
 ·rw[hs]at frB
  refine zts (s:={s with heap:=h'}) (I.ok.frames.trans (congrArg some hs)) hf (λb o r=>m.keeps b o (ofB r)) (frB.of_keeps λb o hb _=>⟨o,m.keeps b o hb,rfl⟩) ⟨_,_,he,rfl,rfl,rfl,rfl,rfl,?_⟩ k;cases z:B.get? ex with
  | none=>rfl
  | some o =>
   have:=ofB z;rw[m.new]at this;cases this
end
variable{K:wa}{base:wK}{qual:Str}
theorem dq{P:wO}{w:wN}{mg:Str->Option wd}{N:List Str}{scope:Scope}{f:wc}{cd:wd}{A:va}{outer:List Env}{s:wl}{H:Hp}{E:XK} :
  d_ (bQ P w) (fb (bQ P w) P w K mg base N qual scope f cd A outer s H E) E:=λpins σ H1 s1 e s' I h=>zwb I rfl rfl rfl h
def PB(X:Cx)(C:wd)(E:XK):Prop:=∀(pins:List (wc × Obj))(σ : St)(H:Hp)(s:wl)(h':wK)(ex:wc)(vs:List wd),Inv X pins σ H s->ue s.heap h' ex C vs->E C none H->X.xe (.ref ex) {s with heap:=h'}
theorem fC{P:wO}{w:wN}{mg:Str->Option wd}{N:List Str}{scope:Scope}{f:wc}{cd C:wd}{A:va}{outer:List Env}{s:wl}{H:Hp}{E:XK} :
  PB (fb (bQ P w) P w K mg base N qual scope f cd A outer s H E) C E:=λpins σ H1 s1 h' ex vs I m q=>zs8 I rfl rfl rfl m q
def gf:List wd:=[.type "ValueError",.type "Exception",.type "BaseException",.type "object"]
theorem zAb{h:wK}{C:wc}{bmB:List wd}{newId:String}(X:K.In h)(q:vZ K C bmB newId=true) :
  ∃bm N nm qn bs hd sn sub ab col dd k0 k1 k2 k3 k5 mN,h.get? C=some (excClassObj nm qn C N bs bm hd sn sub ab col dd k0 k1 k2 k3 k5 newId)/\h.Ns N mN/\mN "__init__"=none/\OwnTail h bmB bm:=by
 unfold vZ at q
 split at q
 case h_2=>cases q
 rename_i dd cd sl ho
 split at q
 case h_2=>cases q
 rename_i C' bm k0 k1 k2 k3 n k5 hm hs;simp only[wy,beq_iff_eq,V3]at q;obtain⟨⟨⟨⟨⟨rfl,rfl⟩,hdel⟩,ht⟩,az⟩,hni⟩:=q;obtain⟨nm,bs,mro,ns,qn,hd,sn,sub,ab,col,del⟩:=cd;dsimp only at hm hdel az hni;subst hm hdel
 have e:sl = #[k0,k1,k2,k3,some (.builtin n),k5]:=by
  cases sl;simp only at hs;rw[hs]
 subst e;exact⟨bm,ns,nm,qn,bs,hd,sn,sub,ab,col,dd,k0,k1,k2,k3,k5,_,X _ _ ho,.of_isNs (PySem.W.isNs_of_in X az),PySem.W.nsMap_none_of_in X az hni,PySem.W.tail_of_in X ht⟩
section
variable{X:Cx}{x:Str}{C:wc}{E:XK}{e:Expr}{es:List Expr}{t:TA}{np cpos pos:Pos}
def Nt(C:wd)(E:XK)(t:TA):TS:=λ_ σ H=>t σ H λvs H1=>vs.length<=wr/\E C none H1
theorem ft(q:vZ X.K C gf "ValueError.__new__"=true)(hc:X.calm=true)(hg:Gl X x)(hm:X.mg x=some (.ref C))(Z:PB X (.ref C) E)(ha:PA X (e::es) t)(hdb:(x == ("__debug__" : Str))=false:=by decide)
  (he:wC (e::es) X.env=(false,eval e X.env)::wC es X.env:=by rfl) (hpl:(Wh cpos (wC es X.env)).any (·.1)=false:=by rfl) :
  PS X (.Raise (some (.Call (.Name x np) (e::es) [] cpos)) none pos) (Nt (.ref C) E t):=by
 intro pins s σ H D I h;obtain⟨bm,N,nm,qn,bs,hd,sn,sub,ab,col,dd,k0,k1,k2,k3,k5,mN,hC,hN,hni,T⟩:=zAb I.ok.mod.fK q
 refine wpAny_Raise_call_subU (C:=C) (nm:=nm) (q:=qn) (N:=N) (bs:=bs) (bm:=bm) (hdct:=hd) (sn:=sn) (sub:=sub) (ab:=ab) (col:=col) (dd:=dd) (k0:=k0) (k1:=k1) (k2:=k2) (k3:=k3) (k5:=k5)
  xK (by decide) xK (mN:=mN) (T.hasType (by decide)) (I.ok.hd hc) (by rw[he];show(false || (Wh cpos (wC es X.env)).any (·.1))=false;rw[hpl];rfl) hni (nH I hg hm ⟨rfl,?_⟩ hdb)
 have ha':=ha cpos pins s σ H _ I h;rw[he]at ha' ⊢;refine Qo (vH ha' (λus s2 ⟨vs,H2,I2,r,z,q2⟩=>⟨rfl,by rw[<- r.length];exact z,I2.bk _ _ hC,hN.keeps I2.bk,T.keeps I2.bk,λh' ex m=>Z pins σ H2 s2 h' ex us I2 m q2⟩) λ_ _ y=>y)
end
abbrev Cx.at(X:Cx)(pn:List (wc × Obj))(E:wd->wl->Prop):Cx:={X with pn:=pn,xe:=E}
abbrev Cx.mG(X:Cx)(pn:List (wc × Obj))(ex:wc)(oe:Obj):Cx:={X with pn:=pn++[(ex,oe)],xe:=λ_ _=>False,A:=X.A.mark (some (.ref ex)),calm:=false}
section
variable{X:Cx}{pins pins':List (wc × Obj)}{σ : St}{H:Hp}{s:wl}{ex:wc}{oe:Obj}
theorem Inv.Km(I:Inv X pins σ H s)(E:wd->wl->Prop):Inv (X.at (X.pn++pins) E) [] σ H s :=
 ⟨⟨I.ok.mod,I.ok.kind,I.ok.glob,I.ok.blt,I.ok.above,I.ok.inj,I.ok.has,I.ok.kj,I.ok.hd,I.ok.frames,I.ok.lR,I.ok.oY,I.ok.bs,I.ok.gC,I.ok.j_,I.ok.kY,I.ok.dC,I.ok.gP⟩,I.os,I.bare,I.base,I.loc,I.cell,I.free,I.eS,
  λp hp=>I.pin p (by rw[vS]at hp;exact hp),I.az,I.len⟩
theorem Inv.kZ{E:wd->wl->Prop}(I:Inv (X.at (X.pn++pins) E) pins' σ H s):Inv X pins σ H s :=
 ⟨⟨I.ok.mod,I.ok.kind,I.ok.glob,I.ok.blt,I.ok.above,I.ok.inj,I.ok.has,I.ok.kj,I.ok.hd,I.ok.frames,I.ok.lR,I.ok.oY,I.ok.bs,I.ok.gC,I.ok.j_,I.ok.kY,I.ok.dC,I.ok.gP⟩,I.os,I.bare,I.base,I.loc,I.cell,I.free,I.eS,
  λp hp=>I.pin p (Wd _ hp),I.az,I.len⟩
theorem Inv.YJ(I:Inv X pins σ H s)(he:s.heap.get? ex=some oe)(hn:H ex=none)(nl:ex≠X.env.locals)(nf:ex ∉ X.fs)(nc:∀v,oe.data≠.cell v):Inv (X.mG (X.pn++pins) ex oe) [] σ H s :=
 ⟨⟨I.ok.mod,I.ok.kind,I.ok.glob,I.ok.blt,I.ok.above,I.ok.inj,I.ok.has,I.ok.kj,λz=>Bool.noConfusion z,I.ok.frames,I.ok.lR,I.ok.oY,I.ok.bs,I.ok.gC,I.ok.j_,I.ok.kY,I.ok.dC,I.ok.gP⟩,I.os,I.bare,I.base,I.loc,I.cell,I.free,I.eS,
  λp hp=>by
   rw[vS]at hp;rcases vR.mp hp with z | z
   ·exact I.pin p z
   ·cases wY.mp z
    exact⟨he,hn,nl,nf,nc⟩,I.az,I.len⟩
theorem Inv.rZ(ok:X.Ok)(I:Inv (X.mG (X.pn++pins) ex oe) pins' σ H s):Inv X pins σ H s :=
 ⟨ok,I.os,I.bare,I.base,I.loc,I.cell,I.free,I.eS,λp hp=>I.pin p (Wd _ (Wd _ hp)),I.az,I.len⟩
theorem Inv.gone{M:Model}{A:va}{E:wd->wl->Prop}{Q:Unit->wl->Prop}{i:Nat}{n:Str}{hp:Pos}(I:Inv X pins σ H s)(hN:X.N.Nodup)(hi:X.N[i]? = some n)(hl:X.env.scope.names.lookup n=some .local)
  (k:∀s',Inv X pins (σ.set i none) H s'->Q () s'):wq M A (do bindName X.env n .none;unbindBehindTheSuite X.env n hp) Q E s:=by
 obtain⟨m,hn,hl'⟩:=id I.loc;have hcls:(X.env.scope.kind == .class || (X.env.scope.kind == .module&&X.env.locals != X.env.globals))=false:=by rw[I.ok.kind];rfl
 have lt:∀b o,X.s₀.heap.get? b=some o->b≠X.env.locals:=λb o e=>wS (wX (wD e) I.ok.above)
 refine wpAny_nameGoes_keeps hl hn hcls λh' v hn' hs=>k _ ⟨I.ok,I.os,I.bare,⟨λb o e z hb hx=>?_,λb o e z hb hx=>?_,I.base.free,λb o e hx=>?_,I.base.eU,I.base.eF,I.base.eV⟩,⟨_,hn',λj y v' e1 e2 e3=>?_⟩,λy c e=>?_,I.free,I.eS,λp hp=>?_,λb ob e=>?_,?_⟩
 ·exact(hs.2 b (lt b o e)).trans (I.base.keep b o e z hb hx)
 ·obtain⟨sl,e1⟩:=I.base.slot b o e z hb hx
  exact⟨sl,(hs.2 b (lt b o e)).trans e1⟩
 ·obtain⟨o',e1⟩:=I.base.there b o e hx
  exact⟨o',(hs.2 b (lt b o e)).trans e1⟩
 ·have hj:j≠i:=λz=>by
   subst z;rw[Vp]at e2
   split at e2
   ·split at e2<;>cases e2
   ·exact absurd rfl ‹_›
  rw[Qk (WC hj)]at e2;obtain⟨u',r',q⟩:=hl' j y v' e1 e2 e3;refine⟨u',r',?_⟩;rcases q with⟨k,e⟩ | ⟨k,c,e,z⟩
  ·refine .inl ⟨k,?_⟩
   have ne:y≠n:=λe=>hj (CH hN e1 (e ▸ hi))
   simp[ne,e]
  ·exact .inr ⟨k,c,e,z.sameBut hs (I.iX y c e)⟩
 ·obtain⟨w',z⟩:=I.cell y c e
  exact⟨w',z.sameBut hs (I.iX y c e)⟩
 ·obtain⟨e,z,ne,nf,d⟩:=I.pin p hp
  exact⟨(hs.2 p.1 ne).trans e,z,ne,nf,d⟩
 ·refine(I.az b ob e).gX (λc w' hc q=>(hs.2 c ?_).trans q) (λ_ q=>q) λ_ _ q=>q
  rintro rfl;have f:=I.free;rcases hc with hc | hc
  ·rw[hc,e]at f;cases f
  ·rw[hc]at f;cases f
 ·rw[Wx];exact I.len
end
def zO(CX:dI)(X:Cx)(W:St->XK):Prop:=∀(pins:List (wc × Obj))(σ : St)(H:Hp)(s:wl)(e:wd)(s':wl),Inv X pins σ H s->CX X.stack H s (W σ) e s'->X.xe e s'
section
variable{X:Cx}{CX:dI}{k:Nat}{f:wc}{fd:wt}{ps:List Str}{sp:Sp}{W:St->XK}{x:Str}{p pos:Pos}{e:Expr}{es:List Expr}{t:TA}
end
structure p8(C:wd)(oe:Obj):Prop where
 cls:oe.cls=C
 fld:∃vs,oe.data=.fields vs/\vs[2]? = some .none
 dict:oe.dict=none
section
variable{X:Cx}{x n:Str}{G:wd}{i:Nat}{b₀ : wJ}{body suite:List wJ}{np hpos pos:Pos}{tb:(St->XK)->TS}{th:wc->wd->TS}
end
structure Hd(X:Cx)(ex:wc)(C:wd)(oe:Obj):Prop where
 hd:X.A.handled=some (.ref ex)
 pn:(ex,oe)∈X.pn
 ob:p8 C oe
section
variable{P:wO}{w:wN}{K:wa}{mg:Str->Option wd}{base:wK}
end
section
variable{X:Cx}{k:Nat}{f:wc}{fd:wt}{ps:List Str}{sp:wc->wd->Sp}{x:Str}{p pos:Pos}{e:Expr}{es:List Expr}{t:TA}{ex:wc}{C:wd}{oe:Obj}
end
variable{scope:Scope}
def fR(cells:List (Str × wc)):List (Str × WU)->List (Str × wc)->List (Str × wc)
 | [],acc=>acc
 | (n,k)::r,acc=>fR cells r (if(k == NameKind.free)=true then(n,(cells.lookup n).getD 0)::acc else acc)
theorem zld{env:Env}(h:∀y∈scope.names,y.2=.free->∃c,env.cells.lookup y.1=some c):closureFor scope env=pure (fR env.cells scope.names []):=by
 unfold closureFor;generalize scope.names=names at h
 suffices g:∀(names:List (Str × WU))(acc:List (Str × wc)),(∀y∈names,y.2=.free->∃c,env.cells.lookup y.1=some c) ->
     (forIn names acc λ(x:Str × WU)(r:List (Str × wc))=>if(x.2 == NameKind.free)=true then do let c <- cellOf env x.1;pure (ForInStep.yield ((x.1,c)::r))else pure (ForInStep.yield r):Sem (List (Str × wc)))=pure (fR env.cells names acc) by
   have:=g names [] h
   show(_ >>= pure)=_
   rw[bind_pure];exact this
 intro names
 induction names with
 | nil=>intro acc _;rfl
 | cons y r ih =>
   intro acc hy;obtain⟨n,k⟩:=y;rw[xy]
   by_cases e:(k == NameKind.free)=true
   . obtain⟨c,hc⟩:=hy (n,k) wV (beq_iff_eq.mp e)
     have hcell:cellOf env n=pure c:=by
       unfold cellOf;rw[hc]
     simp only[e,if_true,hcell,pure_bind];rw[ih _ λz hz=>hy z (wx _ hz)]
     show _=pure (fR env.cells r _)
     simp only[e,if_true,hc,XM]
   . simp only[e,pure_bind]
     rw[if_neg (by simp),pure_bind];dsimp only;rw[ih _ λz hz=>hy z (wx _ hz)]
     show _=pure (fR env.cells r _)
     rw[if_neg e]
theorem Pw{cells:List (Str × wc)} : ∀(names:List (Str × WU))(acc:List (Str × wc))(x:Str)(c:wc),(∀y∈names,y.2=.free->∃c,cells.lookup y.1=some c)->(∀x c,acc.lookup x=some c->cells.lookup x=some c) ->
  (fR cells names acc).lookup x=some c->cells.lookup x=some c
 | [],acc,x,c,_,ha,h=>ha x c h
 | (n,k)::r,acc,x,c,hy,ha,h=>by
  unfold fR at h;refine Pw r _ x c (λz hz=>hy z (wx _ hz)) (λx' c' h'=>?_) h
  split at h'
  ·rename_i e
   obtain⟨c0,hc0⟩:=hy (n,k) wV (beq_iff_eq.mp e);rw[Va]at h'
   split at h'
   ·rename_i e2
    rw[beq_iff_eq.mp e2,hc0];rw[hc0]at h';exact h'
   ·exact ha x' c' h'
  ·exact ha x' c' h'
theorem Mg{cells:List (Str × wc)} : ∀(names:List (Str × WU))(acc:List (Str × wc))(x:Str),(∃c,acc.lookup x=some c)->∃c,(fR cells names acc).lookup x=some c
 | [],acc,x,h=>h
 | (n,k)::r,acc,x,h=>by
  unfold fR;refine Mg r _ x ?_
  split
  ·rw[Va]
   split
   ·exact⟨_,rfl⟩
   ·exact h
  ·exact h
theorem Sr{cells:List (Str × wc)} : ∀(names:List (Str × WU))(acc:List (Str × wc))(x:Str),(x,NameKind.free)∈names->∃c,(fR cells names acc).lookup x=some c
 | [],acc,x,h=>nomatch h
 | (n,k)::r,acc,x,h=>by
  unfold fR;rcases wz.mp h with e | e
  ·cases e
   rw[if_pos (by decide)];refine Mg r _ _ ?_;rw[Va];simp
  ·exact Sr r _ x e
theorem OL(g:Str->WU->WU):∀(names:List (Str × WU))(x:Str),(names.map λy=>(y.1,g y.1 y.2)).lookup x=(names.lookup x).map (g x)
 | [],x=>rfl
 | (n,k)::r,x=>by
  rw[wE,Va,Va];dsimp only
  by_cases e:(x == n)=true
  ·have e':=beq_iff_eq.mp e
   subst e';simp
  ·rw[Bool.not_eq_true]at e
   simp only[e];exact OL g r x
def sH(env:Env)(x:Str)(k:WU):WU:=if(k == .free&&env.scope.kind == .function&&env.kindOf x == some .cell)=true then .cell else k
theorem Li{env:Env}(x:Str):(relabel scope env).names.lookup x=(scope.names.lookup x).map (sH env x):=by
 rw[<- OL]
 show(scope.names.map _).lookup x=_
 congr 2
 funext ⟨n,k⟩
 dsimp only[sH]
 split<;>rfl
def Dv(inner outer:List (Str × WU))(N N':List Str)(src:List (Option Nat)):Bool :=
 (inner.all λy=>(y.2 != .cell)&&(y.2 != .local || inner.lookup y.1 == some .local)&&(y.2 != .free || outer.lookup y.1 == some .cell)) &&
 (N'.length == src.length)&&((N'.zip src).all λp=>match p.2 with
  | none=>true
  | some j=>N[j]? == some p.1&&outer.lookup p.1 == some .cell&&inner.lookup p.1 == some .free)
theorem kA.by{X:Cx}{N':List Str}{src:List (Option Nat)}(hk:scope.kind=.function)(hc:Dv scope.names X.env.scope.names X.N N' src=true)(hf:∀x,X.env.scope.names.lookup x=some .cell->∃c,X.env.cells.lookup x=some c:=by exact λx h=>yw h) :
  kA X N' scope (fR X.env.cells scope.names []) src:=by
 unfold Dv at hc;simp only[wy,wH,beq_iff_eq,W1,bne_iff_ne,ne_eq]at hc;obtain⟨⟨h1,h2⟩,h3⟩:=hc;have fr:∀y∈scope.names,y.2=.free->∃c,X.env.cells.lookup y.1=some c:=λy hy e=>hf _ (((h1 y hy).2).elim (λz=>absurd e z) id)
 have at3:∀(i:Nat)(x:Str)(j:Nat),N'[i]? = some x->src[i]? = some (some j)->X.N[j]? = some x/\X.env.scope.names.lookup x=some .cell/\scope.names.lookup x=some .free:=λi x j e1 e2=>by
  have m:(x,some j)∈N'.zip src:=by
   rw[List.mem_iff_getElem?];exact⟨i,by rw[List.getElem?_zip_eq_some];exact⟨e1,e2⟩⟩
  have:=h3 _ m;simp only[wy,beq_iff_eq]at this;exact⟨this.1.1,this.1.2,this.2⟩
 refine⟨hk,λy hy=>((h1 y hy).1).1,λy hy e=>(((h1 y hy).1).2).elim (λz=>absurd e z) id,⟨zld fr,λx c e=>Pw _ _ x c fr (λ_ _ z=>by simp at z) e,λx e=>?_⟩,⟨h2,λi j x e1 e2=>⟨(at3 i x j e1 e2).1,(at3 i x j e1 e2).2.1⟩⟩,λi x e1 e2=>?_⟩
 ·rw[Li]at e
  cases q:scope.names.lookup x with
  | none=>rw[q]at e;simp at e
  | some k =>
   have hm:=W5 q
   have hk:k=.free:=by
    rw[q]at e;simp only[X2,Q3,sH]at e;have nc:k≠.cell:=((h1 _ hm).1).1;rcases e with e | e
    ·split at e
     ·rename_i z;simp only[wy,beq_iff_eq]at z;exact z.1.1
     ·exact absurd e nc
    ·split at e
     ·cases e
     ·exact e
   subst hk;exact Sr _ _ x hm
 ·obtain⟨o,ho⟩:∃o,src[i]? = some o:=by
   have:i<src.length:=by rw[<- h2];exact(wZ.mp e1).1
   exact⟨src[i],by simp[this]⟩
  cases o with
  | none=>exact absurd ho e2
  | some j =>
   have:=(at3 i x j e1 ho).2.2;rw[Li,this];simp only[X2,Q3,sH]
   split
   ·exact .inl rfl
   ·exact .inr rfl
section
variable{prog:wO}{w:wN}{A:va}{E:wd->wl->Prop}{s:wl}
end
section
variable{X:Cx}{ex:wc}{C:wd}{oe:Obj}{pins:List (wc × Obj)}{σ : St}{H:Hp}{s:wl}{pos:Pos}
variable{tg l:Expr}{tl:TE}
variable{N':List Str}{scope:Scope}{cl:List (Str × wc)}{src:List (Option Nat)}{elt tgt iter:Expr}{ifs:List Expr}{wi:TI}{g:TG}{tt:TT}{te:TE}
end
variable{K:wa}{C x:wc}
structure cU(K:wa)(C:wc):Prop where
 ga:vn K (.ref C) "__getattribute__"=some (some (.builtin "BaseException.__getattribute__"))
 gh:vn K (.ref C) "__getattr__"=some none
 cl:(xR K C).isSome=true
 at_:vn K (.ref C) "__class__"=some (some (.builtin "object.__class__"))
 gt:PySem.W.specialIn K (.builtin "object.__class__") "__get__"=some (some (.builtin "getset_descriptor.__get__"))
 tk:PySem.W.takesIn K (.builtin "object.__class__")=some true
 mr:uq K C (.type "object")=some true
 be:uq K C (.type "BaseException")=some true
theorem zqx(c:cU K C):X3 K C none "__class__"=some (.bind (.builtin "getset_descriptor.__get__") (.builtin "object.__class__")):=by
 obtain⟨cd,hc⟩:=Vz.mp c.cl;unfold X3;rw[hc,VD,c.at_,VD];simp[c.gt,c.tk]
theorem zvA{M:Model}{A:va}{E:wd->wl->Prop}{s:wl}{nm:wd}{Q:Unit->wl->Prop}(L0:QU M s.heap (typeOf (.ref x)) (.ref C))(L1:QU M s.heap (isSubtype (.ref C) (.type "BaseException")) true)
  (hq:Q () s):wq M A (checkBuiltinCall "BaseException.__getattribute__" ⟨[.ref x,nm],[]⟩) Q E s:=by
 have hk:builtinKind "BaseException.__getattribute__"=some .slot:=by decide +kernel
 have hp:splitId "BaseException.__getattribute__"=some ("BaseException","__getattribute__"):=by decide +kernel
 have ha:=F.args_bexc_ga (.ref x) nm;have LI:QU M s.heap (isInstance (.ref x) (.type "BaseException")) true:=L0.andThen L1;simp only[checkBuiltinCall,hk,hp];refine wj (LI.at ?_)
 repeat(first | exact hq | assumption | wp_step)
theorem zvP{prog:wO}{w:wN}{A:va}{E:wd->wl->Prop}{s:wl}{ox:Obj}{Q:Option wd->wl->Prop}(c:cU K C)(X:K.In s.heap)(I:Qz s.heap x ox C none)
  (k:Q (some (.ref C)) {s with toks:=s.toks+1}):wq (model prog w) A (getAttr? (.ref x) "__class__") Q E s:=by
 obtain⟨hh,g,d,t,os⟩:=s;have L0:=I.type (M:=model prog w);have L1:=Ql (M:=model prog w) X c.ga;have L2:=Ql (M:=model prog w) X c.gh;have L3:=PySem.W.looks_mroIn (M:=model prog w) X c.be;have LF:=PySem.W.looks_find (M:=model prog w) X I (zqx c);unfold getAttr? getAttrBy? getAttrBy;refine wj (wpAny_mkText (wj (qr (VM (wj (L0.at (wj (L1.at ?_))))))))
 show wq _ _ (getAttrByItsOwn _ _ _ _ _ _) _ _ _
 unfold getAttrByItsOwn
 show wq _ _ (typeLookup (.ref C) "__getattr__" >>= _) _ _ _
 refine wj (L2.at ?_);refine wj (qr (VM ?_))
 show wq _ _ (boundAndCalled _ _ _) _ _ _
 unfold boundAndCalled;rw[QK.ga.bind];refine wj (wA ?_)
 show wq _ _ (call (.builtin "BaseException.__getattribute__") [.ref x,.str "__class__" t]) _ _ _
 refine wpAny_call (codeAny_call_builtin QK.ga.plain F.entry_bexc_ga (zvA L0 L3 ?_));unfold Builtin.«object.__getattribute__»;refine wj (wA ?_);refine wj (wA ?_);refine wj (L0.at (wj (LF.at ?_)))
 show wq _ _ (holding [_] (call (.builtin "getset_descriptor.__get__") [.builtin "object.__class__",.ref x,.ref C]) >>= ret) _ _ _
 refine wj (VM (wpAny_call (PySem.W.class_get (ox:=ox) (od:=none) X I c.mr ?_)));exact wA (wA (wA k))
theorem A5{ox:Obj}(c:cU K C):PySem.W.KitX K (.ref x) (.ref C) (λh=>Qz h x ox C none) where
 ty:=λ_ _ _ I=>I.type
 it:=λ_ _ X _=>by
  obtain⟨cd,hc⟩:=Vz.mp c.cl;unfold xR at hc
  split at hc
  ·rename_i ho
   intro A' Q' E' s' k q;unfold isType loadHead;exact wj (wpAny_loadPart (k _ _ (X _ _ ho)) (wA q))
  ·cases hc
 ne:=λh tp dd its n sl X htp=>by
  obtain⟨cd,hc⟩:=Vz.mp c.cl;refine Bool.eq_false_iff.mpr λq=>?_
  have e:C=tp:=Value.ref.inj (beq_iff_eq.mp q);subst e;unfold xR at hc
  split at hc
  ·rename_i ho
   have z:=(X _ _ ho).symm.trans htp;cases z
  ·cases hc
 ca:=λ{_ _ _ _ _ s} X I k=>zvP c X I k
def tJ(K:wa)(g:TG)(tt:TT)(te:TE)(src:List (Option Nat))(σ : St)(x:V)(H1:Hp)(Q:VK):Prop :=
 ∃a,x=.ref a/\(∃xs,aI K H1 a xs) /\ ∀D,H1 D=none->iM g tt te (jg K a) D (c7 src σ) (upd H1 D (.lst [])) (λH'=>Q (.ref D) H')
def uK(K:wa)(g:TG)(tt:TT)(te:TE)(src:List (Option Nat))(σ : St)(x:V)(H1:Hp)(Q:VK):Prop :=
 ∃a,x=.ref a/\(∃xs,aR K H1 a xs) /\ ∀D,H1 D=none->iM g tt te (iR K a) D (c7 src σ) (upd H1 D (.lst [])) (λH'=>Q (.ref D) H')
def CA(g:TG)(tt:TT)(te:TE)(src:List (Option Nat))(σ : St)(vs:List V)(H1:Hp)(Q:VK):Prop :=
 ∃j:Int,vs=[.int j] /\ -(2^62)<=j/\j<2^62 /\ ∀D,H1 D=none->iM g tt te (ji 0 j.toNat) D (c7 src σ) (upd H1 D (.lst [])) (λH'=>Q (.ref D) H')
section
variable{K:wa}{g:TG}{tt:TT}{te ta:TE}{tA:TA}{src:List (Option Nat)}{σ : St}{H:Hp}{Q:VK}{a:wc}{xs:List V}{n:Int}
theorem ZN(h:ta σ H λx H1=>tJ K g tt te src σ x H1 Q):iV src (CG K ta) g tt te σ H Q:=h
theorem zyQ(h:ta σ H λx H1=>uK K g tt te src σ x H1 Q):iV src (Rt K ta) g tt te σ H Q:=h
theorem zxI(h:tA σ H λvs H1=>CA g tt te src σ vs H1 Q):iV src (Bj tA) g tt te σ H Q:=h
def pR(Pv:wc->Nat->List V->St->Hp->Prop)(D:wc)(i:Nat)(σ3:St)(y:V)(H5:Hp):Prop :=
 ∃ys,H5 D=some (.lst ys)/\ys.length<wr /\ ∃ys',Pv D (i+1) ys' σ3 (upd H5 D (.lst (ys++[y])))
def hR(Pv:wc->Nat->List V->St->Hp->Prop)(g:TG)(tt:TT)(te:TE)(D:wc)(i:Nat)(x:V)(σ':St)(H':Hp):Prop :=
 g x σ' H' λσ3 H3=>tt σ3 H3 λok H4=>if ok=true then te σ3 H4 λy H5=>pR Pv D i σ3 y H5 else ∃ys',Pv D (i+1) ys' σ3 H4
theorem kr{Pv:wc->Nat->List V->St->Hp->Prop}{D:wc}{i:Nat}{σ3:St}{y:V}{H5:Hp}{ys:List V}(h:H5 D=some (.lst ys))(z:ys.length<=1000)(q:∀H6,Exc D H5 H6->H6 D=some (.lst (ys++[y]))->Pv D (i+1) (ys++[y]) σ3 H6):pR Pv D i σ3 y H5 :=
 ⟨ys,h,nC z,_,q _ (Exc.upd D H5 _) bW⟩
theorem zP{J:It}{N:Nat}{D:wc}{σ0:St}{H0:Hp}{R:Hp->Prop}(Pv:wc->Nat->List V->St->Hp->Prop)(item:Nat->V->Prop)(h0:Pv D 0 [] σ0 H0)
  (stop:∀i ys σ' H',Pv D i ys σ' H'->N<=i->J.stop i H') (go:∀i ys σ' H',Pv D i ys σ' H'->i<N->J.go i H') (fB:∀i ys σ' H' x H2,Pv D i ys σ' H'->J.fB i H' x H2->H2=H'/\item i x)
  (hs:∀i x ys σ' H',i<N->item i x->Pv D i ys σ' H'->hR Pv g tt te D i x σ' H') (hd:∀ys σ' H',Pv D N ys σ' H'->R H'):iM g tt te J D σ0 H0 R:=by
 refine⟨λi m σ' H'=>i+m=N /\ ∃ys,Pv D i ys σ' H',⟨N,by lia,[],h0⟩,?_⟩;rintro i m σ' H' ⟨him,ys,hp⟩
 by_cases hm:m=0
 ·subst hm
  have e:i=N:=by lia
  subst e;exact .inl ⟨stop _ _ _ _ hp (wo _),hd _ _ _ hp⟩
 ·refine .inr ⟨go _ _ _ _ hp (by lia),λσ2 H2=>∃ys,Pv D (i+1) ys σ2 H2,λσ2 H2 h=>⟨m-1,by lia,by lia,h⟩,λx H2 hy2=>?_⟩
  obtain⟨e,hit⟩:=fB _ _ _ _ _ _ hp hy2;subst e;exact hs i x ys σ' H2 (by lia) hit hp
theorem nE(hx:aI K H a xs)(Pv:wc->Nat->List V->St->Hp->Prop)(h0:∀D H',H D=none->ae H H'->H' D=some (.lst [])->Pv D 0 [] (c7 src σ) H')(hl:∀D i ys σ' H',Pv D i ys σ' H'->aI K H' a xs)
  (hs:∀D i x ys σ' H',xs[i]? = some x->Pv D i ys σ' H'->hR Pv g tt te D i x σ' H') (hd:∀D ys σ' H',Pv D xs.length ys σ' H'->Q (.ref D) H'):tJ K g tt te src σ (.ref a) H Q:=by
 refine⟨a,rfl,⟨xs,hx⟩,λD hD=>zP (N:=xs.length) Pv (λi x=>xs[i]? = some x) (h0 D _ hD (ae.upd hD) bW) (λi ys σ' H' hp hi=>⟨xs,hl _ _ _ _ _ hp,hi⟩) (λi ys σ' H' hp hi=>?_) (λi ys σ' H' x H2 hp hy=>?_)
  (λi x ys σ' H' _ hit hp=>hs D i x ys σ' H' hit hp) (hd D)⟩
 ·exact⟨xs,xs[i],hl _ _ _ _ _ hp,by simp[hi]⟩
 ·obtain⟨e,hy⟩:=hy
  exact⟨e,hy xs (hl _ _ _ _ _ hp)⟩
theorem zt9(hx:aR K H a xs)(Pv:wc->Nat->List V->St->Hp->Prop)(h0:∀D H',H D=none->ae H H'->H' D=some (.lst [])->Pv D 0 [] (c7 src σ) H')(hl:∀D i ys σ' H',Pv D i ys σ' H'->aR K H' a xs)
  (hs:∀D i x ys σ' H',xs[i]? = some x->Pv D i ys σ' H'->hR Pv g tt te D i x σ' H') (hd:∀D ys σ' H',Pv D xs.length ys σ' H'->Q (.ref D) H'):uK K g tt te src σ (.ref a) H Q:=by
 refine⟨a,rfl,⟨xs,hx⟩,λD hD=>zP (N:=xs.length) Pv (λi x=>xs[i]? = some x) (h0 D _ hD (ae.upd hD) bW) (λi ys σ' H' hp hi=>⟨xs,hl _ _ _ _ _ hp,hi⟩) (λi ys σ' H' hp hi=>?_) (λi ys σ' H' x H2 hp hy=>?_)
  (λi x ys σ' H' _ hit hp=>hs D i x ys σ' H' hit hp) (hd D)⟩
 ·exact⟨xs,xs[i],hl _ _ _ _ _ hp,by simp[hi]⟩
 ·obtain⟨e,hy⟩:=hy
  exact⟨e,hy xs (hl _ _ _ _ _ hp)⟩
theorem zun(h0' : -1000000000<=n)(h1:n<1000000000)(Pv:wc->Nat->List V->St->Hp->Prop)(h0:∀D H',H D=none->ae H H'->H' D=some (.lst [])->Pv D 0 [] (c7 src σ) H')
  (hs:∀D (i:Nat) ys σ' H',i<n.toNat->Pv D i ys σ' H'->hR Pv g tt te D i (.int (i:Int)) σ' H') (hd:∀D ys σ' H',Pv D n.toNat ys σ' H'->Q (.ref D) H'):CA g tt te src σ [.int n] H Q:=by
 refine⟨n,rfl,by lia,by lia,λD hD=>zP (N:=n.toNat) Pv (λi x=>x=.int (i:Int)) (h0 D _ hD (ae.upd hD) bW) (λi ys σ' H' hp hi=>hi) (λi ys σ' H' hp hi=>hi) (λi ys σ' H' x H2 hp hy=>?_)
  (λi x ys σ' H' hi hit hp=>?_) (hd D)⟩
 ·obtain⟨e,hy⟩:=hy
  exact⟨e,by rw[hy,Int.zero_add]⟩
 ·subst hit
  exact hs D i ys σ' H' hi hp
end
structure sv(u' u:TS):Prop where
 e:u'=u
theorem zAy{t u:TS}{D:ck}{σ : St}{H:Hp}(h:∀u',sv u' u->t {D with nx:=u' D} σ H):nj t u D σ H:=h u ⟨rfl⟩
theorem sv.go{u' u:TS}{D:ck}{σ : St}{H:Hp}(e:sv u' u)(h:u D σ H):u' D σ H:=by rw[e.e];exact h
theorem zop:vG "ValueError"=some (.type "ValueError"):=by decide +kernel
theorem jQ{P:wO}{w:wN}{X:Cx} : d_ (bQ P w) X E0:=λ_ _ _ _ _ _ _ h=>by
 obtain⟨_,_,_,_,_,_,_,_,_,_,_,q⟩:=h;exact q.elim
theorem ik.dO{P:wO}{w:wN}{K:wa}{mg:Str->Option wd}{base:wK}{x qual:Str}{st:wJ}{f:wc}{fd:wt}{N ps:List Str}{k:Nat}{sp:Sp}(F:ik K x qual st f fd)(S:aH N ps (aD st))(len:∀vs H Q E,sp vs H Q E->vs.length=ps.length)
  (hbody:∀(cdv:wd)(A:va)(outer:List Env)(s:wl)(H:Hp)(vs:List V)(Q:VK)(E:XK),bP k (A.deeper (envOfC qual (aD st) s.heap.objs.size f cdv))->sp vs H Q E ->
   ∃t,dG (fb (bQ P w) P w K mg base N qual (aD st) f cdv A outer s H E) (iE st) t/\t {nx:=λ_ H'=>Q .bh H',rt:=Q} (start N vs) H):aC P w K mg base (bQ P w) (k+1) f fd ps sp:=by
 obtain⟨oc,od,kV,doc,pm,an,cdv,ct,osl,rfl,lk,hcd⟩:=F.ex;exact Mi lk hcd S len λA outer s H vs Q E hr hsp=>hbody cdv A outer s H vs Q E hr hsp
theorem Exc.back{p:wc}{H H' H2:Hp}(b:Exc p H' H2)(s:Exc p H H'):Exc p H H2:=s.trans b
theorem YO{X:Cx}{i j v:Int}{k1 k2:Nat}{p1 p2 pos:Pos}(hc:Lj i j)(hv:i^j.toNat=v):PE X (.BinOp (.Constant (.int i) k1 p1) .Pow (.Constant (.int j) k2 p2) pos) (tC (.int v)):=by
 subst hv;exact λpins s σ H Q I h=>(aG zCv aA aA:PE X _ _) pins s σ H Q I ⟨i,j,rfl,rfl,hc,h⟩
theorem YV{α : Type}[DecidableEq α]{x : α}{A B:Prop}(h:B):if(!decide (x=x))=true then A else B:=by simpa using h
theorem zwC{α : Type}[DecidableEq α]{x : α}{A B:Prop}(h:A):if decide (x=x)=true then A else B:=by simpa using h
section
variable{K:wa}{σ : St}{H H':Hp}{Q:VK}{QB:Bool->Hp->Prop}{D:ck}{t:TA}{v w:V}{xs ys:List V}{m n:Int}{r:Rat}{p:wc}
variable{a b:Int}{x y:Rat}
theorem zDY{A B:Prop}(h:B):if(!true)=true then A else B:=by simpa using h
theorem Y2{A B:Prop}(h:A):if(!false)=true then A else B:=by simpa using h
theorem zzy{a b:V}(h:H p=some (.lst [a,b]))(h0:0<=m)(h1:m<2)(q:∀z,z=a\/z=b->Q z H):cV K (.ref p) (.int m) H Q :=
 zh (λz=>z=a\/z=b) (aI.of h) h0 (by simpa using h1) (by simp) q
theorem zBk(h:H p=some (.lst [.int a,.int b]))(h0:0<=m)(h1:m<2)(q:∀z,z=a\/z=b->Q (.int z) H):cV K (.ref p) (.int m) H Q :=
 zzy h h0 h1 λz hz=>by rcases hz with rfl | rfl;exact q _ (.inl rfl);exact q _ (.inr rfl)
theorem zzz{c:Int}(h:H p=some (.lst [.int a,.int b,.int c]))(h0:0<=m)(h1:m<3)(q:∀z,z=a\/z=b\/z=c->Q (.int z) H):cV K (.ref p) (.int m) H Q:=by
 refine zh (λv=>∃z,v=.int z/\(z=a\/z=b\/z=c)) (aI.of h) h0 (by simpa using h1) (λx hx=>?_) λx hx=>?_
 ·simp only[wz,vI,or_false]at hx
  rcases hx with rfl | rfl | rfl
  ·exact⟨_,rfl,.inl rfl⟩
  ·exact⟨_,rfl,.inr (.inl rfl)⟩
  ·exact⟨_,rfl,.inr (.inr rfl)⟩
 ·obtain⟨z,rfl,hz⟩:=hx
  exact q z hz
theorem zzq{c d e f:Int}(h:H p=some (.lst [.int a,.int b,.int c,.int d,.int e,.int f]))(h0:0<=m)(h1:m<6)(q:∀z,z=a\/z=b\/z=c\/z=d\/z=e\/z=f->Q (.int z) H):cV K (.ref p) (.int m) H Q:=by
 refine zh (λv=>∃z,v=.int z/\(z=a\/z=b\/z=c\/z=d\/z=e\/z=f)) (aI.of h) h0 (by simpa using h1) (λx hx=>?_) λx hx=>?_
 ·simp only[wz,vI,or_false]at hx
  rcases hx with rfl | rfl | rfl | rfl | rfl | rfl
  all_goals exact⟨_,rfl,by simp⟩
 ·obtain⟨z,rfl,hz⟩:=hx
  exact q z hz
theorem zzw(a b:Int):Wa (.int a) (.int b)=decide (a=b):=by rw[Wa,V9]
theorem zp8(h1:x.num=y.num)(h2:(x.den:Int)=y.den):x=y:=by
 have h2':x.den=y.den:=by lia
 exact Rat.ext h1 h2'
theorem BL(x y:Rat):Wa (N x) (N y)=decide (x=y):=by
 have e:Wa (N x) (N y)=(decide (x.num=y.num)&&decide ((x.den:Int)=y.den)):=by
  simp only[N,Wa,Qd,QQ,V9]
 rw[e,Wy,wy,decide_eq_true_eq,decide_eq_true_eq,decide_eq_true_eq]
 constructor
 ·rintro ⟨h1,h2⟩;exact zp8 h1 h2
 ·rintro rfl;exact⟨rfl,rfl⟩
theorem zV(x:Rat):vU (N x)=true:=by simp[N,vU,vK,Wc,Vd,qD]
theorem zDw(h:Is K H v (N x))(k:Is K H w (N y))(q:Q (.bl (decide (x=y))) H):jd K v w H Q:=Bl h k (zV x) (zV y) (by rw[BL];exact q)
theorem zBS(h:Is K H v (N x))(k:Is K H w (N y))(q:Q (.bl (!decide (x=y))) H):lV K v w H Q:=Np h k (zV x) (zV y) (by rw[BL];exact q)
end
theorem zCC{X:Cx} : aY X (vk .In) (kJ X.K false):=zvD
theorem zwH{X:Cx} : aY X (vk .NotIn) (kJ X.K true):=zqo
def R(a b:Rat):wu:=.tuple [N a,N b]
theorem By(a b:Rat):bJ (R a b)=true:=by simp[R,bJ,aU,eX]
structure cw(a b:Rat):Prop where
 a0:0<a
 a4:a<=4
 ad:a.den<=8
 b0:0<=b
 b1:b<=1
 bd:b.den<=12
 ab:1<=a+b
theorem cw.ba{a b:Rat}(h:cw a b):ah 10 a:=ah.small (c:=4) (d:=8) (qM h.a0) h.a4 h.ad (by decide) (by decide)
theorem cw.bb{a b:Rat}(h:cw a b):ah 10 b:=ah.small (c:=1) (d:=12) h.b0 h.b1 h.bd (by decide) (by decide)
section
variable{K:wa}{H:Hp}{Q:VK}{v:V}{a b:Rat}{σ : St}{gs:jJ}{QS:St->Hp->Prop}
theorem zBj(h:Is K H v (R a b))(q:∀x,Is K H x (N a)->Q x H):cV K v (.int 0) H Q:=bz (j:=0) h rfl q
theorem zAT(h:Is K H v (R a b))(q:∀x,Is K H x (N b)->Q x H):cV K v (.int 1) H Q:=bz (j:=1) h rfl q
end
section
variable{K:wa}{H H' H2:Hp}{Q:VK}{v w:V}{a b c d:Rat}{D:wc}
theorem Zd(h:Is K H v (R a b))(q:Q (.bl true) H):dH K [v,.ty "tuple"] H Q:=Tv h q
theorem zAH(h:Is K H v (R a b))(q:Q (.int 2) H):gy K [v] H Q:=me h q
theorem ae.grow(s:ae H H')(n:H D=none)(e:Exc D H' H2):ae H H2:=λb o h=>e b o (gv h n) (s b o h)
end
theorem zyB{σ : St}{H:Hp}{Q:Bool->Hp->Prop}(q:Q true H):MP σ H Q:=q
theorem zyq{Pv:wc->Nat->List V->St->Hp->Prop}{g:TG}{tt:TT}{te:TE}{D:wc}{i:Nat}{x:V}{σ':St}{H':Hp}(h:g x σ' H' λσ3 H3=>tt σ3 H3 λok H4=>if ok=true then te σ3 H4 λy H5=>pR Pv D i σ3 y H5 else ∃ys',Pv D (i+1) ys' σ3 H4) :
  hR Pv g tt te D i x σ' H':=h
section
variable{K:wa}{σ : St}{H:Hp}{Q:VK}{E:XK}{D:ck}{t:TA}{C G:wd}{i:Nat}{tb:(St->XK)->TS}{th:wc->wd->TS}{sp:Sp}{W:St->XK}{ex C':wc}{b:Bool}
theorem zyr(h:t σ H λvs H1=>vs.length<=wr/\E C none H1):Nt C E t D σ H:=h
end
variable{es:List Expr}{env:Env}
theorem cZ(s:String):vM (WY s)=true:=by
 rw[V1,vM];simp only[List.all_toArray,Wf,wH,Function.comp,decide_eq_true_eq];intro c _;have:=c.valid;simp only[Char.toNat];rcases this with h | h
 ·have:c.val.toNat<0xd800:=h
  lia
 ·exact h.2
theorem pG{K:wa}{H:Hp}{c:wc}{p q:Int}(r:Rat)(h:aR K H c [.int p,.int q])(e1:r.num=p)(e2:(r.den:Int)=q):Is K H (.ref c) (N r):=by
 subst e1 e2;exact bX.mpr ⟨c,_,rfl,h,dw.mpr ⟨_,_,rfl,cC.mpr rfl,dw.mpr ⟨_,_,rfl,cC.mpr rfl,fS.mpr rfl⟩⟩⟩
theorem ay{c:Const}{k:Nat}{p:Pos} : wC ((.Constant c k p)::es) env=(false,eval (.Constant c k p) env)::wC es env:=rfl
theorem gb{xs:List Expr}{k:Nat}{p:Pos} : wC ((.Tuple xs k p)::es) env=(false,eval (.Tuple xs k p) env)::wC es env:=rfl
theorem MQ{xs:List Expr}{p:Pos} : wC ((.List xs p)::es) env=(false,eval (.List xs p) env)::wC es env:=rfl
theorem jc{o:Operator}{x y:Expr}{p:Pos} : wC ((.BinOp x o y p)::es) env=(false,eval (.BinOp x o y p) env)::wC es env:=rfl
theorem kB{x:Str}{p:Pos} : wC ((.Name x p)::es) env=(false,eval (.Name x p) env)::wC es env:=rfl
theorem RK:∀{us:List wd}{ns:List Int},IntsAre us ns->aE (ns.map V.int) us
 | _,_,.nil=>.nil
 | _,_,.cons n t r=>.cons ⟨t,rfl⟩ (RK r)
theorem zww :vG "sorted"=some (.builtin "sorted"):=by decide +kernel
def B7(K:wa):List V->Hp->VK->Prop:=λxs H Q=>∃(p:wc)(ns:List Int),xs=[.ref p]/\aI K H p (ns.map V.int)/\ns.length<64 /\
 ∀(l:wc)(ms:List Int),H l=none->ms.Perm ns->ms.Pairwise (· <= ·)->Q (.ref l) (upd H l (.lst (ms.map V.int)))
theorem zpK{X:Cx} : aM X (.builtin "sorted") (B7 X.K):=by
 intro pins s σ H xs us Q I r h;obtain⟨p,ns,rfl,hq,h64,q⟩:=h;obtain⟨u,rfl,rx⟩:=gj r;cases rx;obtain⟨its,r',pl,hz⟩:=I.list hq;have hlen:=r'.length;rw[we]at hlen;refine sorted_ints pl.isList (ztL r') (by lia) λout ns' a1 a2 a3=>?_
 obtain⟨e,he⟩:=sortedAll_at s.heap its out;have hl:=a2.length_eq
 have hsz:(ns'.map V.int).length<=wr:=by
  rw[we];exact qH (nC (by lia))
 exact⟨.ref (s.heap.objs.size+1),_,I.laid (t':=s.toks) (λ_ _=>sortedAll_old) (QF _) (show cM X.prog X.w _ _ _ (.lst (ns'.map V.int))from⟨hsz,out.toList,e,RK a1,he⟩),rfl,q _ ns' (I.az.fresh (QF _)) a2 a3⟩
section
variable{K:wa}{H H' H2:Hp}{Q:VK}{R:Prop}{v w y:V}{p l:wc}{xs ys zs:List V}{ns:List Int}{m:Int}{σ : St}
theorem zvF(h:aI K H p (ns.map V.int))(h64:ns.length<64)(q:∀(l:wc)(H':Hp)(ms:List Int),H l=none->ae H H'->H' l=some (.lst (ms.map V.int))->ms.Perm ns->ms.Pairwise (· <= ·)->Q (.ref l) H'):B7 K [.ref p] H Q :=
 ⟨p,ns,rfl,h,h64,λl ms hl a b=>q l _ ms hl (ae.upd hl) bW a b⟩
end
def Lw(K:wa):V->List V->Hp->VK->Prop:=λx vs H Q=>∃(l:wc)(bs:List Bool)(j:Nat),x=.ref l/\vs=[.bl true]/\aI K H l (bs.map V.bl)/\bs.length<=1000/\bs[j]? = some true/\(∀m,m<j->bs[m]? = some false)/\Q (.int (j:Int)) H
theorem Ct:∀{bs:List Bool}{us:List wd},aE (bs.map V.bl) us->us=bs.map Value.bool
 | [],_,r=>by cases r;rfl
 | b::bs,_,r=>by
  rw[wE]at r;cases r with
  | cons r1 r2=>rw[Ct r2,wE,show _=Value.bool b from r1]
theorem zxN{X:Cx} : cf X "list.index" (Lw X.K):=by
 intro pins s σ H x vs v us Q I rx rv h;obtain⟨l,bs,j,rfl,rfl,hq,hn,hj,hm,q⟩:=h;cases rx;obtain⟨u,rfl,ru⟩:=rv.one;cases (show u=Value.bool true from ru);obtain⟨its,r,pl,hz⟩:=I.list hq;have hits:=Ct r;subst hits;obtain⟨⟨cls,dd,data,sl⟩,ho,hc,n,hd⟩:=id pl.isList;simp only at hc hd;subst hc hd
 have hjl:j<bs.length:=by
  rcases vt j bs.length with z | z
  ·exact z
  ·rw[vj z]at hj;cases hj
 have fs:(bs.map V.bl).all ib=true:=by
  rw[wH];intro y hy;obtain⟨b,_,rfl⟩:=wU.mp hy
  rfl
 refine Vt xo ⟨_,ho,rfl⟩ PySem.F.entry_list_index (PySem.F.args_list_index_2 _ _)
  (SeqAt.list_indexAt l (bs.map Value.bool).toArray n dd sl (.bool true) (d9 (.bl true)) j (by simpa using hjl) (by lia) ?_ ?_) ⟨ho,λy hy=>ly (x:=.bl true) rfl rfl r fs y (by simpa using hy),⟨.int (j:Int),H,I.tok _,⟨_,rfl⟩,q⟩⟩
 ·have e:bs[j]=true:=by rw[wg hjl]at hj;exact vi hj
  simp only[xL,vb,e]
  rfl
 ·intro i hi hlt
  have hi':i<bs.length:=by lia
  have e:bs[i]=false:=by
   have:=hm i hlt;rw[wg hi']at this;exact vi this
  simp only[xL,vb,e]
  rfl
section
variable{K:wa}{H H' H2:Hp}{Q:VK}{R:Prop}{v w y:V}{p l:wc}{xs ys zs:List V}{ns:List Int}{m:Int}{σ : St}{to:TE}{t:TA}{T:String}{r:V->List V->Hp->VK->Prop}
theorem zD3(h:to σ H λx H1=>mq K T x H1/\t σ H1 λxs H2=>r x xs H2 Q):mM K T r to t σ H Q:=h
theorem zCz(h:to σ H λx H1=>mq K T x H1/\r x [] H1 Q):Rj K T r to σ H Q:=h
theorem ma(h:aI K H p xs)(q:R):mq K "list" (.ref p) H/\R:=⟨.inl ⟨rfl,xs,h⟩,q⟩
theorem oa{bs:List Bool}(j:Nat)(h:aI K H p (bs.map V.bl))(hn:bs.length<=1000)(hj:bs[j]? = some true)(hm:∀m,m<j->bs[m]? = some false)(q:Q (.int (j:Int)) H):Lw K (.ref p) [.bl true] H Q:=⟨p,bs,j,rfl,rfl,h,hn,hj,hm,q⟩
theorem yW(h:H l=some (.lst xs))(z:xs.length<=1000)(q:∀H',Exc l H H'->H' l=some (.lst (xs++[y]))->Q .bh H'):OM (.ref l) [y] H Q:=⟨l,xs,y,rfl,rfl,h,nC z,q _ (Exc.upd l H _) bW⟩
end
variable{X:Cx}
def oW(K:wa):List V->Hp->VK->Prop:=λxs H Q=>∃p ys,xs=[.ref p]/\((aI K H p ys /\ ∀l,H l=none->Q (.ref l) (upd H l (.tup ys)))\/(aR K H p ys/\Q (.ref p) H))
def yG(K:wa):List V->Hp->VK->Prop:=λxs H Q=>∃p ys,xs=[.ref p]/\(aI K H p ys\/aR K H p ys) /\ ∀l,H l=none->Q (.ref l) (upd H l (.lst ys))
theorem zsg : aM X (.type "tuple") (oW X.K):=zot
theorem Po : aM X (.type "list") (yG X.K):=zqS
def pL(K:wa):V->Option Int->Option Int->Hp->VK->Prop:=λx lo hi H Q=>Ro K x lo hi H Q\/SK K x lo hi H Q
theorem eB : ic X (pL X.K):=zAa.or zBY
section
variable{K:wa}{H H' H2:Hp}{Q:VK}{QO:Option Int->Hp->Prop}{R:Prop}{v w y:V}{p l:wc}{xs ys zs:List V}{ds es:List wu}{m:Int}{σ : St}{te:TE}{tl th:TO}{r:V->Option Int->Option Int->Hp->VK->Prop}{lo hi:Option Int}
theorem ml(h:aI K H p ys)(q:∀l H',H l=none->ae H H'->H' l=some (.tup ys)->Q (.ref l) H'):oW K [.ref p] H Q:=⟨p,ys,rfl,.inl ⟨h,λl hl=>q l _ hl (ae.upd hl) bW⟩⟩
theorem lS(h:Is K H v (.list ds))(q:∀w H',ae H H'->Is K H' w (.tuple ds)->Q w H'):oW K [v] H Q:=by
 obtain⟨a,xs,rfl,hs,t⟩:=cR.mp h;exact ml hs λl H' _ s e=>q _ H' s (bX.mpr ⟨l,xs,rfl,.of e,aq.same s ds xs t⟩)
theorem ztt(h:Is K H v (.tuple ds))(q:Q v H):oW K [v] H Q:=by
 obtain⟨a,xs,rfl,hs,t⟩:=bX.mp h;exact⟨a,xs,rfl,.inr ⟨hs,q⟩⟩
theorem NT(h:Is K H v (.tuple ds))(q:∀l H' ys,H l=none->ae H H'->H' l=some (.lst ys)->aq K H' ys ds->Q (.ref l) H'):yG K [v] H Q:=by
 obtain⟨a,xs,rfl,hs,t⟩:=bX.mp h;exact⟨a,xs,rfl,.inr hs,λl hl=>q l _ xs hl (ae.upd hl) bW (aq.same (ae.upd hl) ds xs t)⟩
theorem ZM(h:te σ H λx H1=>tl σ H1 λl H2=>th σ H2 λu H3=>r x l u H3 Q):CF r te tl th σ H Q:=h
theorem zwl(q:QO none H):Fs σ H QO:=q
theorem zAw(h:te σ H λx H1=>∃i,x=.int i/\QO (some i) H1):De te σ H QO:=h
theorem zya{RI:Int->Prop}(q:RI m):∃i,V.int m=V.int i/\RI i:=⟨m,rfl,q⟩
def cutD{α : Type}(xs:List α)(lo hi:Option Int):List α:=(xs.drop (HT.aQ xs.length 0 lo)).take (HT.aQ xs.length xs.length hi-HT.aQ xs.length 0 lo)
theorem aq.take:∀{ds:List wu}{xs:List V}(n:Nat),aq K H xs ds->aq K H (xs.take n) (ds.take n)
 | _,_,0,h=>by simp[aq.nil]
 | [],_,n+1,h=>by rw[fS.mp h];simp[aq.nil]
 | d::ds,_,n+1,h=>by
  obtain⟨x,r,rfl,q,t⟩:=dw.mp h;rw[xW,xW];exact .cons q (aq.take n t)
theorem aq.drop:∀{ds:List wu}{xs:List V}(n:Nat),aq K H xs ds->aq K H (xs.drop n) (ds.drop n)
 | _,_,0,h=>by simpa using h
 | [],_,n+1,h=>by rw[fS.mp h];simp[aq.nil]
 | d::ds,_,n+1,h=>by
  obtain⟨x,r,rfl,q,t⟩:=dw.mp h;rw[xX,xX];exact aq.drop n t
theorem aq.cut(h:aq K H xs ds):aq K H (fc xs lo hi) (cutD ds lo hi):=by
 unfold fc cutD;rw[h.length];exact(h.drop _).take _
theorem gE(h:aI K H p xs)(q:∀l H',H l=none->ae H H'->H' l=some (.lst (fc xs lo hi))->Q (.ref l) H'):pL K (.ref p) lo hi H Q:=.inl ⟨p,xs,rfl,h,λl hl=>q l _ hl (ae.upd hl) bW⟩
theorem NP(h:Is K H v (.list ds))(q:∀l H' ys,H l=none->ae H H'->H' l=some (.lst ys)->aq K H' ys (cutD ds lo hi)->Q (.ref l) H'):pL K v lo hi H Q:=by
 obtain⟨a,xs,rfl,hs,t⟩:=cR.mp h;exact gE hs λl H' hl s e=>q l H' _ hl s e (aq.same s _ _ t.cut)
theorem BH{α : Type}(xs:List α):cutD xs none (some (-1))=xs.dropLast:=by
 unfold cutD
 show(xs.drop 0).take (((-1:Int)+(xs.length:Int)).toNat-0)=_
 rw[List.drop_zero,List.dropLast_eq_take]
 congr 1
 lia
end
def TN(xs:List Rat):wu:=.tuple (xs.map N)
def LN(xs:List Rat):wu:=.list (xs.map N)
theorem gw:∀xs:List Rat,aU (xs.map N)=true
 | []=>by simp[aU]
 | x::xs=>by rw[wE,aU,eX,gw xs];rfl
theorem R9(xs:List Rat):bJ (TN xs)=true:=by rw[TN,bJ];exact gw xs
theorem zxO(x:Rat):(N x).canLay0=true:=by simp[N,vK,Wc]
theorem Se:∀xs:List Rat,Wc (xs.map N)=true
 | []=>by simp[Wc]
 | x::xs=>by rw[wE,Wc,zxO,Se xs];rfl
section
variable{K:wa}{H H' H2:Hp}{Q:VK}{v w y:V}{p l:wc}{vs:List V}{xs ys:List Rat}{m:Int}{σ : St}
theorem AQ{i:Nat}(t:aq K H vs (xs.map N))(h:i<xs.length):∃x,vs[i]? = some x/\Is K H x (N (xs.getD i 0)):=by
 refine t.get ?_;rw[wG,wk,wg h]
 rfl
theorem gz{i:Nat}{x:V}(t:aq K H vs (xs.map N))(h:vs[i]? = some x):i<xs.length/\Is K H x (N (xs.getD i 0)):=by
 have hl:=t.length;rw[we]at hl
 have hi:i<xs.length:=by
  rcases vt i vs.length with z | z
  ·lia
  ·rw[vj z]at h;cases h
 obtain⟨x',e,hx⟩:=AQ t hi;rw[h]at e;cases e;exact⟨hi,hx⟩
theorem NF(h:Is K H v (TN xs))(h0:0<=m)(h1:m<xs.length)(q:∀x,Is K H x (N (xs.getD m.toNat 0))->Q x H):cV K v (.int m) H Q:=by
 obtain⟨a,vs,rfl,hs,t⟩:=bX.mp h;obtain⟨n,rfl⟩:∃n:Nat,m=(n:Int):=⟨m.toNat,by lia⟩;obtain⟨x,e,hx⟩:=AQ (i:=n) t (by lia);exact jm hs (gm e) (q x hx)
theorem sX(h:Is K H v (LN xs))(h0:0<=m)(h1:m<xs.length)(q:∀x,Is K H x (N (xs.getD m.toNat 0))->Q x H):cV K v (.int m) H Q:=by
 obtain⟨a,vs,rfl,hs,t⟩:=cR.mp h;obtain⟨n,rfl⟩:∃n:Nat,m=(n:Int):=⟨m.toNat,by lia⟩;obtain⟨x,e,hx⟩:=AQ (i:=n) t (by lia);exact dS hs (gm e) (q x hx)
theorem mh(h:Is K H v (TN xs))(q:Q (.int xs.length) H):gy K [v] H Q:=me h (by rw[we];exact q)
theorem zye(h:Is K H v (LN xs))(q:Q (.int xs.length) H):gy K [v] H Q:=by
 obtain⟨a,vs,rfl,hs,t⟩:=cR.mp h;have:=t.length;rw[we]at this;exact md hs (by rw[this];exact q)
theorem iJ(h:H l=some (.lst vs))(t:aq K H vs (xs.map N)):Is K H (.ref l) (LN xs):=cR.mpr ⟨l,vs,rfl,.of h,t⟩
theorem lC:∀{xs:List Rat}{vs:List V},vs.length=xs.length->(∀i x,vs[i]? = some x->Is K H x (N (xs.getD i 0)))->aq K H vs (xs.map N)
 | [],vs,hl,_=>by
  have:vs=[]:=V2 hl;subst this;exact .nil
 | x::xs,[],hl,_=>by cases hl
 | x::xs,u::vs,hl,h=>by
  rw[wE];exact .cons (h 0 u rfl) (lC (by simpa using hl) λi y e=>h (i+1) y e)
end
section
variable{K:wa}{g:TG}{tt:TT}{te:TE}{src:List (Option Nat)}{σ : St}{H:Hp}{Q:VK}{a:wc}{vs:List V}{n:Int}{tl:St}{o0:Option V}
def fO(H:Hp)(tl:St)(Rel:Nat->V->Hp->Prop)(D:wc)(i:Nat)(ys:List V)(σ':St)(H':Hp):Prop :=
 (∃o,σ'=o::tl)/\H D=none/\ae H H'/\H' D=some (.lst ys)/\ys.length=i /\ ∀j y,ys[j]? = some y->Rel j y H'
theorem fO.same{Rel:Nat->V->Hp->Prop}{D:wc}{i:Nat}{ys:List V}{σ':St}{H':Hp}(h:fO H tl Rel D i ys σ' H'):ae H H':=h.2.2.1
theorem cY{Rel:Nat->V->Hp->Prop}{D:wc}{i:Nat}{ys:List V}{σ' σ3:St}{H1 H5:Hp}{y:V}(inv:fO H tl Rel D i ys σ' H1)(hi:i<=1000)(hk:∀i v H1 H2,aZ H1 H2->Rel i v H1->Rel i v H2)(hσ : ∃o,σ3=o::tl)(s:ae H1 H5)(r:Rel i y H5):pR (fO H tl Rel) D i σ3 y H5:=by
 obtain⟨_,hn,s1,hD,hl,hr⟩:=inv;have hD5:=s _ _ hD;refine kr hD5 (by lia) λH6 E6 e6=>⟨hσ,hn,(s1.trans s).grow hn E6,e6,by simp[hl],λj z hz=>?_⟩
 have k6:aZ H5 H6:=E6.keep hD5;rcases vt j ys.length with hj | hj
 ·rw[Ww hj]at hz
  exact hk _ _ _ _ (s.keep.trans k6) (hr j z hz)
 ·have hj':j=ys.length:=by
   rcases vt ys.length j with q | q
   ·rw[vj (by simp;lia)]at hz;cases hz
   ·lia
  subst hj';rw[WR (wo _),xf]at hz;cases hz;rw[hl];exact hk _ _ _ _ k6 r
theorem gq(hx:aI K H a vs)(hsrc:c7 src σ = o0::tl)(Rel:Nat->V->Hp->Prop)(hs:∀D i x ys o H1,vs[i]? = some x->fO H tl Rel D i ys (o::tl) H1->hR (fO H tl Rel) g tt te D i x (o::tl) H1)
  (hd:∀D ys H',H D=none->ae H H'->H' D=some (.lst ys)->ys.length=vs.length->(∀j y,ys[j]? = some y->Rel j y H')->Q (.ref D) H'):tJ K g tt te src σ (.ref a) H Q:=by
 refine nE hx (fO H tl Rel) (λD H' n s e=>⟨⟨o0,hsrc⟩,n,s,e,rfl,λj y z=>by simp at z⟩) (λD i ys σ' H' h=>h.same.seq hx) ?_ λD ys σ' H' ⟨_,n,s,e,hl,r⟩=>hd D ys H' n s e hl r
 rintro D i x ys σ' H' hx' h;obtain⟨⟨o,rfl⟩,_⟩:=id h;exact hs D i x ys o H' hx' h
theorem kn(hx:aR K H a vs)(hsrc:c7 src σ = o0::tl)(Rel:Nat->V->Hp->Prop)(hs:∀D i x ys o H1,vs[i]? = some x->fO H tl Rel D i ys (o::tl) H1->hR (fO H tl Rel) g tt te D i x (o::tl) H1)
  (hd:∀D ys H',H D=none->ae H H'->H' D=some (.lst ys)->ys.length=vs.length->(∀j y,ys[j]? = some y->Rel j y H')->Q (.ref D) H'):uK K g tt te src σ (.ref a) H Q:=by
 refine zt9 hx (fO H tl Rel) (λD H' n s e=>⟨⟨o0,hsrc⟩,n,s,e,rfl,λj y z=>by simp at z⟩) (λD i ys σ' H' h=>h.same.mn hx) ?_ λD ys σ' H' ⟨_,n,s,e,hl,r⟩=>hd D ys H' n s e hl r
 rintro D i x ys σ' H' hx' h;obtain⟨⟨o,rfl⟩,_⟩:=id h;exact hs D i x ys o H' hx' h
theorem M9(h0:0<=n)(h1:n<1000000000)(hsrc:c7 src σ = o0::tl)(Rel:Nat->V->Hp->Prop)(hs:∀D (i:Nat) ys o H1,i<n.toNat->fO H tl Rel D i ys (o::tl) H1->hR (fO H tl Rel) g tt te D i (.int (i:Int)) (o::tl) H1)
  (hd:∀D ys H',H D=none->ae H H'->H' D=some (.lst ys)->ys.length=n.toNat->(∀j y,ys[j]? = some y->Rel j y H')->Q (.ref D) H'):CA g tt te src σ [.int n] H Q:=by
 refine zun (by lia) h1 (fO H tl Rel) (λD H' n s e=>⟨⟨o0,hsrc⟩,n,s,e,rfl,λj y z=>by simp at z⟩) ?_ λD ys σ' H' ⟨_,n,s,e,hl,r⟩=>hd D ys H' n s e hl r
 rintro D i ys σ' H' hi h;obtain⟨⟨o,rfl⟩,_⟩:=id h;exact hs D i ys o H' hi h
theorem rE{xs:List Rat} : ∀(i:Nat)(v:V)(H1 H2:Hp),aZ H1 H2->Is K H1 v (N (xs.getD i 0))->Is K H2 v (N (xs.getD i 0)):=λi v H1 H2 k h=>h.hX k
end
theorem LC{H H':Hp}{l:wc}(s:ae H H')(h:H' l=none):H l=none:=by
 cases e:H l with
 | none=>rfl
 | some o=>rw[s _ _ e]at h;cases h
def TZ(ns:List Int):wu:=.tuple (ns.map PyData.int)
theorem Ku:∀ns:List Int,aU (ns.map PyData.int)=true
 | []=>by simp[aU]
 | n::ns=>by rw[wE,aU,Ku ns];rfl
theorem zDe(ns:List Int):bJ (TZ ns)=true:=by rw[TZ,bJ];exact Ku ns
section
variable{K:wa}{H H' H2:Hp}{Q:VK}{v w y:V}{p l:wc}{vs:List V}{ns:List Int}{rss:List (List Rat)}{m:Int}{σ : St}
theorem mO:∀{ns:List Int}{vs:List V},aq K H vs (ns.map PyData.int) ↔ vs=ns.map V.int
 | [],vs=>by rw[WQ,fS];rfl
 | n::ns,vs=>by
  rw[wE,dw,wE]
  constructor
  ·rintro ⟨x,r,rfl,h,t⟩
   rw[cC.mp h,mO.mp t]
  ·rintro rfl
   exact⟨_,_,rfl,cC.mpr rfl,mO.mpr rfl⟩
theorem uV:Is K H v (TZ ns) ↔ ∃a,v=.ref a/\aR K H a (ns.map V.int):=by
 unfold TZ;rw[bX]
 constructor
 ·rintro ⟨a,xs,e,h,t⟩
  rw[mO.mp t]at h;exact⟨a,e,h⟩
 ·rintro ⟨a,e,h⟩
  exact⟨a,_,e,h,mO.mpr rfl⟩
theorem zyb(h:Is K H v (TZ ns))(q:Q (.int ns.length) H):gy K [v] H Q:=me h (by rw[we];exact q)
theorem zAX{α : Type}{xs:List α}{x : α}(h:xs[xs.length-1]? = some x):gJ xs (-1)=some x:=by
 have hl:0<xs.length:=by
  cases xs with
  | nil=>cases h
  | cons _ _=>simp
 unfold gJ gc;rw[if_neg (by lia),if_pos (by lia)]
 show xs[((-1:Int)+(xs.length:Int)).toNat]? = some x
 rw[show((-1:Int)+(xs.length:Int)).toNat=xs.length-1 by lia];exact h
end
def Ea(K:wa):R2:=λx y H Q=>O_ K x y H Q \/ ∃a b ys,x=.ref a/\y=.ref b/\aR K H a []/\aR K H b ys/\Q (.ref b) H
theorem ZY{X:Cx} : aY X (Wu .Add) (Ea X.K):=by
 intro pins s σ H x y v u Q I rx ry h;rcases h with h | ⟨a,b,ys,rfl,rfl,ha,hb,q⟩
 ·exact Ze pins s σ H x y v u Q I rx ry h
 ·cases rx
  cases ry;obtain⟨its,r1,p1,_⟩:=I.tuple ha;cases r1;obtain⟨its2,r2,p2,_⟩:=I.tuple hb;obtain⟨⟨cls,dd,data,sl⟩,ho,hc,n,hd⟩:=id p1;obtain⟨⟨cls2,dd2,data2,sl2⟩,ho2,hc2,n2,hd2⟩:=id p2;simp only at hc hd hc2 hd2;subst hc hd hc2 hd2;exact concat_meets ⟨_,ho,rfl⟩ ⟨_,ho2,rfl⟩ noFill_tuple_add seq_tuple_add Qa qR (qK _ _) (tuple_addW0 a b _ its2.toArray n n2 dd dd2 sl sl2 rfl) ⟨ho,ho2,⟨.ref b,H,I,rfl,q⟩⟩
theorem RN{K:wa}{H:Hp}{Q:VK}{v w:V}{ds es:List wu}(h1:Is K H v (.tuple ds))(h2:Is K H w (.tuple es))(z:ds.length+es.length<=1000)(q:∀u H',ae H H'->Is K H' u (.tuple (ds++es))->Q u H'):Ea K v w H Q:=by
 obtain⟨a,xs,rfl,ha,ta⟩:=bX.mp h1;obtain⟨b,ys,rfl,hb,tb⟩:=bX.mp h2;have la:=ta.length;have lb:=tb.length;cases xs with
 | nil =>
  obtain rfl:ds=[]:=V2 (by simpa using la.symm);exact .inr ⟨a,b,ys,rfl,rfl,ha,hb,q _ H (ae.refl _) h2⟩
 | cons x xs =>
  refine .inl ⟨a,b,x::xs,ys,rfl,rfl,ha,hb,by simp,qH (nC (by lia)),λhy=>?_,λhy p hp=>?_⟩
  ·obtain rfl:es=[]:=V2 (by rw[hy]at lb;simpa using lb.symm)
   exact q _ H (ae.refl _) (by rw[vS];exact h1)
  ·exact q _ _ (ae.upd hp) (bX.mpr ⟨p,_,rfl,.of bW,(aq.same (ae.upd hp) _ _ ta).append (aq.same (ae.upd hp) _ _ tb)⟩)
theorem Inv.rT{X:Cx}{pins:List (wc × Obj)}{σ : St}{H:Hp}{s:wl}{h':wK}{t':Nat}{ch:List wc}(I:Inv X pins σ H s)(k:∀b o,b ∉ ch->s.heap.get? b=some o->h'.get? b=some o)(hf:∀b∈ch,cT X pins H b):Inv X pins σ H {s with heap:=h',toks:=t'}:=by
 have nit:∀b u,H b=some u->b ∉ ch:=λb u e z=>by rw[(hf b z).1]at e;cases e
 refine I.step (g':=s.gens) (d':=s.drawn) (ch:=ch) (λb hb=>⟨(hf b hb).2.2.2.1,(hf b hb).2.1,(hf b hb).2.2.2.2.1,(hf b hb).2.2.2.2.2⟩) (λb o _ _ hc e _=>k b o hc e)
  (λb o _ _ hc e _=>⟨o.slots,k b o hc e⟩) (λ_ _ _ _ n=>n) (λb o hc e=>⟨o,k b o hc e⟩) (λ_ _ e=>e) (λ_ _ _ e=>e) (λb ps e=>⟨#[],by rw[e];simp⟩) (λm hm=>?_) (λb u e=>?_) I.bare
 ·obtain⟨o,es,ep,ho,r⟩:=hm
  exact⟨o,es,ep,k _ o (λz=>(hf _ z).2.1 rfl) ho,r⟩
 ·refine(I.az b u e).gX (λc v hc q=>k c v ?_ q) (λ_ q=>q) λ_ _ q=>q
  rcases hc with z | z
  ·rw[z];exact nit b u e
  ·exact nit c _ z
section
variable{prog:wO}{w:wN}{A:va}{E:wd->wl->Prop}{s:wl}
theorem zrQ{it tu:wc}{i:Nat}{its:Array wd}{x:wd}{Q:wd->wl->Prop}(ei:s.heap.IsTupleIter it tu i)(et:s.heap.IsTuple tu its)(ex:its[i]? = some x)
  (fin:∀h',h'.IsTupleIter it tu (i+1)->vW it s.heap h'->Q x {s with heap:=h'}):wq (model prog w) A (vX (.ref it)) Q E s:=by
 obtain⟨ob,eo,ec,ed⟩:=id ei;obtain⟨ot,eot,_,nt,edt⟩:=et;unfold vX;refine wj (wpAny_callSpecial?_slot (name:=WY "__next__") ei.typeIs Vm (Vb Vm ei.typeIs QL ?_ (QC _)))
 show wq _ _ (field (.ref it) 0 >>= _) _ _ s;refine wj (vy eo ed (x:=.ref tu) rfl ?_)
 show wq _ _ (if(Value.ref tu == Value.none)=true then _ else _) _ _ s;rw[if_neg (show ¬ ((Value.ref tu == Value.none)=true)from vB)]
 show wq _ _ (field (.ref it) 1 >>= _) _ _ s;refine wj (vy eo ed (x:=.int i 0) rfl ?_)
 show wq _ _ (seqItems? (.ref tu) >>= _) _ _ s;refine wj (Vc eot edt ?_)
 simp only[WL,ex];refine wj (Vx eo ed (by simp) (wA ⟨x,rfl,wA (fin _ ?_ (xY ..))⟩));exact⟨_,Vh _ eo (Vi (WW ed _)),(Xu ..).trans ec,by rw[WW ed];simp[Vq]⟩
theorem SR{it tu:wc}{i:Nat}{its:Array wd}{Q:wd->wl->Prop}(hh:A.handled=none)(ei:s.heap.IsTupleIter it tu i)(et:s.heap.IsTuple tu its)(ex:its[i]? = none)
  (fin:∀h' e,Heap.ExtBut it s.heap h'->(∃o,h'.get? e=some o/\o.cls=.type "StopIteration")->E (.ref e) {s with heap:=h'}):wq (model prog w) A (vX (.ref it)) Q E s:=by
 obtain⟨ob,eo,ec,ed⟩:=id ei;obtain⟨ot,eot,_,nt,edt⟩:=et;unfold vX;refine wj (wpAny_callSpecial?_slot (name:=WY "__next__") ei.typeIs Vm (Vb Vm ei.typeIs QL ?_ (QC _)))
 show wq _ _ (field (.ref it) 0 >>= _) _ _ s;refine wj (vy eo ed (x:=.ref tu) rfl ?_)
 show wq _ _ (if(Value.ref tu == Value.none)=true then _ else _) _ _ s;rw[if_neg (show ¬ ((Value.ref tu == Value.none)=true)from vB)]
 show wq _ _ (field (.ref it) 1 >>= _) _ _ s;refine wj (vy eo ed (x:=.int i 0) rfl ?_)
 show wq _ _ (seqItems? (.ref tu) >>= _) _ _ s;refine wj (Vc eot edt ?_)
 simp only[WL,ex];refine wj (wpAny_rule (wj (Vx eo ed (by simp) ?_)))
 show wq _ _ (newExc (.type "StopIteration") [] >>= _) _ _ _;refine wj ?_;simp only[newExc,newTuple]
 refine wj (Wk ?_ (by size_fits));refine wj (m:=firstArgMember _ _) (wpAny_of_eq (a:=Value.none) (by first | rfl | (simp only[firstArgMember];rfl)) ?_);refine Wk ?_ (by size_fits);simp only[raiseNew];refine wj (wpAny_handled ?_)
 first | rw[hh] | rw[show A.in1.handled=none from hh]
 exact wj (wA (wpAny_throw (fin _ _ (((xY ..).extBut.push _).push _) ⟨_,wL _ rfl,rfl⟩)))
theorem Lx(hh:A.handled=none)(it tu:wc)(hne:tu≠it)(its:Array wd):Draws prog w A it [it,tu] its.size (λi v=>its[i]? = some v) (λi h=>h.IsTupleIter it tu i/\h.IsTuple tu its) where
 live:=λ_ _ st=>let ⟨o,ho,_⟩:=st.1;⟨o,ho⟩
 frame:=λ_ _ _ st hk=>⟨st.1.at λo e=>hk it (by simp) o e,st.2.at λo e=>hk tu (by simp) o e⟩
 item:=λi s Q E hi st hQ=>zrQ st.1 st.2 (x:=its[i]) (by simp[hi]) λh' hit' hs'=>hQ _ h' s.toks (by simp[hi]) ⟨hit',st.2.extBut hs'.extBut hne⟩ hs'
 done:=λs Q E st hE=>SR hh st.1 st.2 (by simp) hE
open AutoSeq1 (wpAny_loadPart') in
theorem zsx(tu:wc)(its:Array wd)(n:Nat)(dct:Option wc)(sl:Array (Option wd)):Meets (Builtin.«enumerate.__new__» ⟨[.type "enumerate",.ref tu],[]⟩) (λ_ R s=>s.heap.get? tu=some {cls:=.type "tuple",dict:=dct,data:=.seq its n,slots:=sl} /\
  R (.ok (.ret (.ref (s.heap.push {cls:=.type "tuple_iterator",data:=.fields #[.ref tu,.int 0 0]}).objs.size))) {s with heap:=(s.heap.push {cls:=.type "tuple_iterator",data:=.fields #[.ref tu,.int 0 0]}).push {cls:=.type "enumerate",data:=.fields #[.none,.bool false,.ref s.heap.objs.size,Vq 0,.none,.none]}}) :=
 .of_wp λprog w A R s h=>by
  obtain⟨hp,g,d,tk,os⟩:=s;obtain⟨et,h⟩:=h;have hsub:=sub_enumerate;have hT:uv (XB ⟨hp,g,d,tk,os⟩) tu its:=⟨_,et,rfl,n,rfl⟩
  wp_walk using wpAny_loadPart' et
  refine wpAny_stack_any λst=>wA ?_
  split
  ·rename_i c _ _ _ _ _
   cases (c == Value.type "enumerate")<;>(wp_walk using wpAny_loadPart' et,VY hT;exact⟨_,rfl,h⟩)
  ·wp_walk using wpAny_loadPart' et,VY hT
   exact⟨_,rfl,h⟩
theorem ztl{tu:wc}{its:Array wd}{Q:wd->wl->Prop}(hT:s.heap.IsTuple tu its)(fin:∀h',IsEnum h' (s.heap.objs.size+1) s.heap.objs.size 0 .none->h'.IsTupleIter s.heap.objs.size tu 0->(∀b o,s.heap.get? b=some o->h'.get? b=some o)->Q (.ref (s.heap.objs.size+1)) {s with heap:=h'}) :
  wq (model prog w) A (call (.type "enumerate") [.ref tu]) Q E s:=by
 obtain⟨⟨c,dct,dt,sl⟩,et,hc,n,hd⟩:=hT;obtain rfl:c=.type "tuple":=hc;obtain rfl:dt=.seq its n:=hd;refine callType_new F.called_enumerate (by decide) (F.typeCall_enumerate_1 _) (F.newCall_enumerate_1 _) (λobj=>F.args_object_init_2 obj _) F.entry_enumerate_new (zsx tu its n dct sl) ⟨et,?_⟩;have hz:(s.heap.push {cls:=.type "tuple_iterator",data:=.fields #[.ref tu,.int 0 0]}).objs.size=s.heap.objs.size+1:=WV ..
 show _/\_
 rw[hz]
 have he:IsEnum ((s.heap.push {cls:=.type "tuple_iterator",data:=.fields #[.ref tu,.int 0 0]}).push {cls:=.type "enumerate",data:=.fields #[.none,.bool false,.ref s.heap.objs.size,Vq 0,.none,.none]}) (s.heap.objs.size+1) s.heap.objs.size 0 .none:=by
  rw[<- hz];exact wL _ rfl
 exact⟨⟨_,he,rfl⟩,fin _ he ⟨_,wn _ (wL _ rfl),rfl,rfl⟩ λb o x=>wn _ (wn _ x)⟩
end
def C1(K:wa)(a:wc):It :=
 ⟨λi H=>∃xs x,aR K H a xs/\xs[i]? = some x,λi H y H'=>∃t x,y=.ref t/\H t=none/\(∀xs,aR K H a xs->xs[i]? = some x)/\H'=upd H t (.tup [.int (i:Int),x]),λi H=>∃xs,aR K H a xs/\xs.length<=i⟩
theorem zs9{P:wO}{w:wN}{K:wa}{elts:List Expr}{k1}{tpos:Pos}(a e it:wc)(hne:e≠it):gU P w K (.Tuple elts k1 tpos) (C1 K a) [e,it] e (λi h=>(∃old,IsEnum h e it (i:Int) old)/\h.IsTupleIter it a i) where
 mem:=by simp
 obj:=λi h st b hb=>by
  obtain⟨⟨old,he⟩,o,eo,c,d⟩:=st;rcases wz.mp hb with rfl | hb
  ·exact⟨_,he,λv z=>by cases (show Data.fields _=Data.cell v from z)⟩
  ·rw[wY.mp hb]
   exact⟨o,eo,λv z=>by rw[d]at z;cases z⟩
 keep:=λi h h' st k=>⟨let ⟨old,he⟩:=st.1;⟨old,k e (by simp) _ he⟩,st.2.at λo eo=>k it (by simp) o eo⟩
 item:=by
  intro X hP hw hK hc i pins s σ H E I hf st hg;subst hP hw hK;obtain⟨⟨old,he⟩,st⟩:=st;obtain⟨xs,x,hq,hx⟩:=hg;obtain⟨its,rv,p,hz⟩:=I.tuple hq;obtain⟨u,hu,ru⟩:=rv.get hx;have p':s.heap.IsTuple a its.toArray:=p
  have hai:a≠it:=λz=>by
   subst z;obtain⟨o,e1,c1,_⟩:=st;obtain⟨o',e2,c2,_⟩:=p';rw[e1]at e2;cases e2;rw[c1]at c2;exact absurd c2 (by decide)
  have hae:e≠a:=λz=>by
   subst z;obtain⟨o',e2,c2,_⟩:=p';rw[he]at e2;cases e2;exact absurd (show Value.type "enumerate"=Value.type "tuple" from c2) (by decide)
  have hlt:i<its.toArray.size:=by
   rcases vt i its.length with z | z
   ·simpa using z
   ·rw[vj z]at hu;cases hu
  refine wpAny_pyNext_enum_itemD (Lx (A:=X.A.in1) (I.ok.hd hc) it a hai its.toArray) he ⟨st,p'⟩ hlt hne (by simp[hne,hae]) λv h1 tk hv ho hs1 hT hsz hk=>?_
  have hvu:v=u:=by
   have hv':its[i]? = some v:=by simpa using hv
   rw[hu]at hv';exact(vi hv').symm
  subst hvu
  have I1:Inv X pins σ (upd H s.heap.objs.size (.tup [.int (i:Int),x])) {s with heap:=s.heap.push {cls:=.type "tuple",data:=.seq ([.int (i:Int) tk,v]:List wd).toArray},toks:=tk+1} :=
   I.laid (λb o q=>wn _ q) (wo _) (show cM X.prog X.w _ _ _ (.tup [.int (i:Int),x])from⟨nu (by simp),_,.cons ⟨_,rfl⟩ (.cons ru .nil),qd _ _⟩)
  have lt1:∀b∈[e,it],b<s.heap.objs.size:=λb hb=>by
   rcases wz.mp hb with rfl | hb
   ·exact wD he
   ·rw[wY.mp hb]
    obtain⟨o,eo,_⟩:=st;exact wD eo
  have hf1:∀b∈[e,it],cT X pins (upd H s.heap.objs.size (.tup [.int (i:Int),x])) b:=λb hb=>⟨by rw[bV (wS (lt1 b hb))];exact(hf b hb).1,(hf b hb).2⟩
  refine⟨_,rfl,wpAny_letOwnedTupleGo_enum ho λh2 he2 hs2=>?_⟩;refine⟨.ref s.heap.objs.size,_,Inv.rT (s:={s with heap:=s.heap.push {cls:=.type "tuple",data:=.seq ([.int (i:Int) tk,v]:List wd).toArray},toks:=tk+1}) (ch:=[e,it]) I1 (λb o hb q=>?_) hf1,rfl,⟨_,x,rfl,I.az.fresh (wo _),λys hy=>by rw[I.An hy hq];exact hx,rfl⟩,⟨⟨_,by simpa using he2⟩,hs1.1.at λo eo=>(hs2.2 it (WC hne)).trans eo⟩,λb hb=>(hf1 b hb).1⟩;have hbe:b≠e:=λz=>hb (by simp[z])
  have hbi:b≠it:=λz=>hb (by simp[z])
  refine(hs2.2 b hbe).trans ?_
  by_cases hb2:b=s.heap.objs.size
  ·subst hb2
   rw[wL _ rfl]at q;cases q;exact hT
  ·exact hk b o hbe hbi (by rw[Q4 _ _ _ hb2]at q;exact q)
 done:=by
  intro X hP hw hK hc i pins s σ H E I hf st hg;subst hP hw hK;obtain⟨⟨old,he⟩,st⟩:=st;obtain⟨xs,hq,hx⟩:=hg;obtain⟨its,rv,p,hz⟩:=I.tuple hq;have p':s.heap.IsTuple a its.toArray:=p
  have hai:a≠it:=λz=>by
   subst z;obtain⟨o,e1,c1,_⟩:=st;obtain⟨o',e2,c2,_⟩:=p';rw[e1]at e2;cases e2;rw[c1]at c2;exact absurd c2 (by decide)
  have hl:=rv.length;have hT:s.TypeIs (.ref e) "enumerate":=⟨_,he,rfl⟩;unfold pyNext;refine wj (qr (wpAny_callSpecial?_slot (name:=WY "__next__") hT qa (Vb qa hT xB ?_ (xp _))))
  show wq _ _ (field (.ref e) 2 >>= _) _ _ _;refine wj (vy he rfl (x:=.ref it) rfl ?_)
  refine wj (SR (A:=X.A.in1) (I.ok.hd hc) st p' (by simp;lia) λh' y he' hx'=>?_);obtain⟨o,ho,hcl⟩:=hx';refine wj (wpAny_isInstance (T:="StopIteration") (b:=true) ⟨o,ho,hcl⟩ isSubtype_stop (wA ⟨rfl,?_⟩));obtain⟨f0,f1,f2,f3,f4,f5⟩:=hf it (by simp);exact I.turned (t':=s.toks) (λb o hb e=>he' b o hb e) f0 f1 f3 f4 f5
 self:=λ_ _ _ _ _ st h=>let ⟨_,he⟩:=st.1;wpAny_pyIter_enum he h
def PL(K:wa)(ta:TA):TI:=λσ H R=>ta σ H λvs H1=>∃a,vs=[.ref a]/\(∃xs,aR K H1 a xs)/\R (C1 K a) H1
theorem Nk:vG "enumerate"=some (.type "enumerate"):=by decide +kernel
theorem zyM{X:Cx}{elts:List Expr}{k1}{tpos p pos:Pos}{l:Expr}{ta:TA}(hg:Gl X "enumerate")(hm:X.mg "enumerate"=none)(ha:PA X [l] ta)(hs:wC [l] X.env=[(false,eval l X.env)]:=by rfl) :
  PI X (.Tuple elts k1 tpos) (.Call (.Name "enumerate" p) [l] [] pos) (PL X.K ta):=by
 intro pins s σ H R I h;refine Call_ (jY I hg hm Nk (Wb (au (ha pos pins s σ H _ I h) λus s1 ⟨vs,H1,I1,r1,q1⟩=>?_) hs rfl));obtain⟨a,rfl,⟨xs,hq⟩,q⟩:=q1;obtain⟨u,rfl,ru⟩:=gj r1;cases ru;obtain⟨its,rv,p,hz⟩:=I1.tuple hq;refine ztl (show s1.heap.IsTuple a its.toArray from p) λh' he hit kp=>?_
 refine wpAny_pyIter_enum he ?_;refine⟨s1.heap.objs.size+1,[s1.heap.objs.size+1,s1.heap.objs.size],_,_,H1,rfl,I1.kept (t':=s1.toks) kp,zs9 a (s1.heap.objs.size+1) s1.heap.objs.size (XN _),⟨⟨_,he⟩,hit⟩,λb hb=>?_,q⟩
 have hb':s1.heap.objs.size<=b:=by
  rcases wz.mp hb with rfl | hb
  ·lia
  ·rw[wY.mp hb];exact wo _
 exact I1.g6 hb' (I1.az.fresh hb')
section
variable{K:wa}{ta:TA}{g:TG}{tb:TS}{D:ck}{σ : St}{H:Hp}{a:wc}{xs:List V}
end
structure ZA(z TI TO i1 i2:wc)(f1 f2:List wc):Prop where
 a1:TI≠z
 a2:TO≠z
 a3:i1≠z
 a4:i2≠z
 a5:TI≠TO
 a6:TI≠i1
 a7:TI≠i2
 a8:TO≠i1
 a9:TO≠i2
 b0:i1≠i2
 b1:z ∉ f1
 b2:z ∉ f2
 b3:TO ∉ f1
 b4:TO ∉ f2
 b5:i1 ∉ f2
 b6:i2 ∉ f1
section
variable{prog:wO}{w:wN}{A:va}{E:wd->wl->Prop}{s:wl}{z TI TO i1 i2:wc}{f1 f2:List wc}{n1 n2 k:Nat}{P1 P2:Nat->wd->Prop}{S1 S2:Nat->wK->Prop}{a b:wd}
theorem YS{Q:wd->wl->Prop}(D1:Draws prog w A i1 f1 n1 P1 S1)(D2:Draws prog w A i2 f2 n2 P2 S2)(ap:ZA z TI TO i1 i2 f1 f2)(hz:IsZip s.heap z TI TO .none)(hi:Ve s.heap TI (.ref i1) (.ref i2))(ho:Ve s.heap TO a b)
  (h1:S1 k s.heap) (h2:S2 k s.heap) (l1:k<n1) (l2:k<n2)
  (fin:∀x y h' tk,P1 k x->P2 k y->IsZip h' z TI TO (Vq s.heap.objs.size)->Ve h' TO x y->S1 (k+1) h'->S2 (k+1) h'->Ve h' s.heap.objs.size x y ->
   (∀c o,c≠z->c≠TO->c≠i1->c≠i2->s.heap.get? c=some o->h'.get? c=some o)->Q (.ref s.heap.objs.size) {s with heap:=h',toks:=tk}) :
  wq (model prog w) A (Builtin.«zip.__next__» ⟨[.ref z],[]⟩) (λr s'=>∃v,r=.done (.ret v)/\Q v s') E s:=by
 show wq _ _ (field (.ref z) 2 >>= _) _ _ _;refine wj (vy hz rfl (x:=.bool false) rfl ?_)
 show wq _ _ (field (.ref z) 3 >>= _) _ _ _;refine wj (vy hz rfl (x:=.ref TI) rfl ?_)
 refine wj (Vc hi rfl ?_);show wq _ _ (WJ (.ref z) >>= _) _ _ _
 refine wj ?_;unfold WJ;refine wj (vy hz rfl (x:=.none) rfl (wA ?_));simp only[if_true];refine wj (wpAny_rule ?_);refine wj (vy hz rfl (x:=.ref TO) rfl ?_);refine wj (Vf hz (by simp) λg1 zz1 sb1=>?_);have zz1:IsZip g1 z TI TO .ellipsis:=zz1;refine wj ?_;simp only[XO,X5,xy,uf];refine wj (wj (wpAny_onRaise ?_));show wq _ _ (vX (.ref i1) >>= _) _ _ _
 have h1a:S1 k g1:=D1.frame _ _ _ h1 λc hc o e=>sb1.extBut c o (λq=>ap.b1 (q ▸ hc)) e
 have h2a:S2 k g1:=D2.frame _ _ _ h2 λc hc o e=>sb1.extBut c o (λq=>ap.b2 (q ▸ hc)) e
 refine wj (D1.item k _ _ _ l1 h1a λx g2 t2 px h1b sb2=>wA ?_);have ho2:Ve g2 TO a b:=sb2.extBut _ _ ap.a8 (sb1.extBut _ _ ap.a2 ho);have h2b:S2 k g2:=D2.frame _ _ _ h2a λc hc o e=>sb2.extBut c o (λq=>ap.b5 (q ▸ hc)) e
 refine wj (Vc ho2 rfl ?_);refine wj (wpAny_updateSeq_pair ho2 λg3 ho3 sb3=>?_);have ho3:Ve g3 TO x b:=ho3;have sb3:vW TO g2 g3:=sb3;have h1c:S1 (k+1) g3:=D1.frame _ _ _ h1b λc hc o e=>sb3.extBut c o (λq=>ap.b3 (q ▸ hc)) e
 have h2c:S2 k g3:=D2.frame _ _ _ h2b λc hc o e=>sb3.extBut c o (λq=>ap.b4 (q ▸ hc)) e
 refine wj (wpAny_letGo (wA ?_));refine wj (wj (wpAny_onRaise ?_))
 show wq _ _ (vX (.ref i2) >>= _) _ _ _;refine wj (D2.item k _ _ _ l2 h2c λy g4 t4 py h2d sb4=>wA ?_)
 have sb4:vW i2 g3 g4:=sb4;have ho4:Ve g4 TO x b:=sb4.extBut _ _ ap.a9 ho3;have h1d:S1 (k+1) g4:=D1.frame _ _ _ h1c λc hc o e=>sb4.extBut c o (λq=>ap.b6 (q ▸ hc)) e
 refine wj (Vc ho4 rfl ?_);refine wj (wpAny_updateSeq_pair ho4 λg5 ho5 sb5=>?_);have ho5:Ve g5 TO x y:=ho5;have sb5:vW TO g4 g5:=sb5;have h1e:S1 (k+1) g5:=D1.frame _ _ _ h1d λc hc o e=>sb5.extBut c o (λq=>ap.b3 (q ▸ hc)) e
 have h2e:S2 (k+1) g5:=D2.frame _ _ _ h2d λc hc o e=>sb5.extBut c o (λq=>ap.b4 (q ▸ hc)) e
 refine wj (wpAny_letGo (wA (wA ?_)));refine wj (Vc ho5 rfl ?_);refine wj (wpAny_newTuple ?_);have sb2:vW i1 g1 g2:=sb2;have sb1:vW z s.heap g1:=sb1;have hsz:g5.objs.size=s.heap.objs.size:=by rw[sb5.1,sb4.1,sb3.1,sb2.1,sb1.1]
 have zz5:IsZip g5 z TI TO .ellipsis:=sb5.extBut _ _ ap.a2.symm (sb4.extBut _ _ ap.a4.symm (sb3.extBut _ _ ap.a2.symm (sb2.extBut _ _ ap.a3.symm zz1)));have kept:∀c o,c≠z->c≠TO->c≠i1->c≠i2->s.heap.get? c=some o->g5.get? c=some o:=λc o c1 c2 c3 c4 e=>sb5.extBut _ _ c2 (sb4.extBut _ _ c4 (sb3.extBut _ _ c2 (sb2.extBut _ _ c3 (sb1.extBut _ _ c1 e))))
 have zlt:z<g5.objs.size:=wD zz5
 show wq _ _ (qN (.ref z) (.ref g5.objs.size) >>= _) _ _ _;refine wj ?_;unfold qN
 have zz6:IsZip (g5.push {cls:=.type "tuple",data:=.seq #[x,y]}) z TI TO .ellipsis:=wn _ zz5;refine wj (Vf zz6 (by simp) λg7 zz7 sb7=>?_);have zz7:IsZip g7 z TI TO (Vq g5.objs.size):=zz7;refine Vf zz7 (by simp) λg8 zz8 sb8=>?_
 have zz8:IsZip g8 z TI TO (Vq g5.objs.size):=zz8;have sb7:vW z (g5.push {cls:=.type "tuple",data:=.seq #[x,y]}) g7:=sb7;have sb8:vW z g7 g8:=sb8;have up:∀c o,c≠z->g5.get? c=some o->g8.get? c=some o:=λc o c1 e=>sb8.extBut _ _ c1 (sb7.extBut _ _ c1 (wn _ e))
 have new8:Ve g8 g5.objs.size x y:=sb8.extBut _ _ (vQ zlt) (sb7.extBut _ _ (vQ zlt) (wL _ rfl));rw[hsz]at zz8 new8;refine wA ⟨_,rfl,?_⟩
 show Q (.ref g5.objs.size) _
 rw[hsz];exact fin x y g8 _ px py zz8 (up _ _ ap.a2 ho5) (D1.frame _ _ _ h1e λc hc o e=>up c o (λq=>ap.b1 (q ▸ hc)) e) (D2.frame _ _ _ h2e λc hc o e=>up c o (λq=>ap.b2 (q ▸ hc)) e) new8 λc o c1 c2 c3 c4 e=>up c o c1 (kept c o c1 c2 c3 c4 e)
theorem zEU{Q:Fin->wl->Prop}(D1:Draws prog w A i1 f1 n1 P1 S1)(D2:Draws prog w A i2 f2 n2 P2 S2)(ap:ZA z TI TO i1 i2 f1 f2)(hz:IsZip s.heap z TI TO .none)(hi:Ve s.heap TI (.ref i1) (.ref i2))(ho:Ve s.heap TO a b)
  (h1:S1 k s.heap) (h2:S2 k s.heap) (hk:k=n1\/(k<n1/\k=n2))
  (fin:∀h' e tk,(∀c o,c≠z->c≠TO->c≠i1->c≠i2->s.heap.get? c=some o->h'.get? c=some o)->(∃o,h'.get? e=some o/\o.cls=.type "StopIteration")->E (.ref e) {s with heap:=h',toks:=tk}) :
  wq (model prog w) A (Builtin.«zip.__next__» ⟨[.ref z],[]⟩) Q E s:=by
 show wq _ _ (field (.ref z) 2 >>= _) _ _ _;refine wj (vy hz rfl (x:=.bool false) rfl ?_)
 show wq _ _ (field (.ref z) 3 >>= _) _ _ _;refine wj (vy hz rfl (x:=.ref TI) rfl ?_)
 refine wj (Vc hi rfl ?_);show wq _ _ (WJ (.ref z) >>= _) _ _ _
 refine wj ?_;unfold WJ;refine wj (vy hz rfl (x:=.none) rfl (wA ?_));simp only[if_true];refine wj (wpAny_rule ?_);refine wj (vy hz rfl (x:=.ref TO) rfl ?_);refine wj (Vf hz (by simp) λg1 zz1 sb1=>?_);have zz1:IsZip g1 z TI TO .ellipsis:=zz1;have sb1:vW z s.heap g1:=sb1;refine wj ?_;simp only[XO,X5,xy,uf];refine wj (wj (wpAny_onRaise ?_));show wq _ _ (vX (.ref i1) >>= _) _ _ _
 have h1a:S1 k g1:=D1.frame _ _ _ h1 λc hc o e=>sb1.extBut c o (λq=>ap.b1 (q ▸ hc)) e
 have h2a:S2 k g1:=D2.frame _ _ _ h2 λc hc o e=>sb1.extBut c o (λq=>ap.b2 (q ▸ hc)) e
 rcases hk with rfl | ⟨l1,rfl⟩
 ·refine wj (D1.done _ _ _ h1a λg2 e sb2 he=>?_)
  obtain⟨oe,hoe,hce⟩:=he;have zz2:IsZip g2 z TI TO .ellipsis:=sb2 _ _ ap.a3.symm zz1;have hez:e≠z:=λq=>by subst q;rw[zz2]at hoe;cases hoe;simp at hce
  exact Vf zz2 (by simp) λg3 _ sb3=>fin g3 e _ (λc o c1 _ c3 _ q=>sb3.extBut _ _ c1 (sb2 _ _ c3 (sb1.extBut _ _ c1 q))) ⟨oe,sb3.extBut _ _ hez hoe,hce⟩
 ·refine wj (D1.item k _ _ _ l1 h1a λx g2 t2 px h1b sb2=>wA ?_)
  have sb2:vW i1 g1 g2:=sb2;have ho2:Ve g2 TO a b:=sb2.extBut _ _ ap.a8 (sb1.extBut _ _ ap.a2 ho);have h2b:S2 k g2:=D2.frame _ _ _ h2a λc hc o e=>sb2.extBut c o (λq=>ap.b5 (q ▸ hc)) e
  refine wj (Vc ho2 rfl ?_);refine wj (wpAny_updateSeq_pair ho2 λg3 ho3 sb3=>?_);have sb3:vW TO g2 g3:=sb3;have h2c:S2 k g3:=D2.frame _ _ _ h2b λc hc o e=>sb3.extBut c o (λq=>ap.b4 (q ▸ hc)) e
  refine wj (wpAny_letGo (wA ?_));refine wj (wj (wpAny_onRaise ?_))
  show wq _ _ (vX (.ref i2) >>= _) _ _ _;refine wj (D2.done _ _ _ h2c λg4 e sb4 he=>?_)
  obtain⟨oe,hoe,hce⟩:=he;have zz4:IsZip g4 z TI TO .ellipsis:=sb4 _ _ ap.a4.symm (sb3.extBut _ _ ap.a2.symm (sb2.extBut _ _ ap.a3.symm zz1));have hez:e≠z:=λq=>by subst q;rw[zz4]at hoe;cases hoe;simp at hce
  exact Vf zz4 (by simp) λg5 _ sb5=>fin g5 e _ (λc o c1 c2 c3 c4 q=>sb5.extBut _ _ c1 (sb4 _ _ c4 (sb3.extBut _ _ c2 (sb2.extBut _ _ c3 (sb1.extBut _ _ c1 q))))) ⟨oe,sb5.extBut _ _ hez hoe,hce⟩
end
variable{t:Bool}{a:wc}
def dU(t:Bool)(K:wa)(H:Hp)(a:wc)(xs:List V):Prop:=match t with
 | true=>aR K H a xs
 | false=>aI K H a xs
def jb(t:Bool)(h:wK)(it a:wc)(i:Nat):Prop:=match t with
 | true=>h.IsTupleIter it a i
 | false=>h.IsListIter it a i
def N4(t:Bool)(h:wK)(a:wc)(its:Array wd):Prop:=match t with
 | true=>h.IsTuple a its
 | false=>h.IsList a its
theorem yE{prog:wO}{w:wN}{A:va}(t:Bool)(hh:A.handled=none)(it a:wc)(hne:a≠it)(its:Array wd):Draws prog w A it [it,a] its.size (λi v=>its[i]? = some v) (λi h=>jb t h it a i/\N4 t h a its):=by
 cases t
 ·exact Draws.list hh it a hne its
 ·exact Lx hh it a hne its
theorem Inv.mH{X:Cx}{pins:List (wc × Obj)}{σ : L2.St}{H:Hp}{s:wl}{xs:List V}(I:Inv X pins σ H s)(h:dU t X.K H a xs):∃its:List wd,aE xs its/\N4 t s.heap a its.toArray:=by
 cases t
 ·obtain⟨its,r,p,_⟩:=I.list h
  exact⟨its,r,p.isList⟩
 ·obtain⟨its,r,p,_⟩:=I.tuple h
  exact⟨its,r,p⟩
theorem Inv.JA{X:Cx}{pins:List (wc × Obj)}{σ : L2.St}{H:Hp}{s:wl}{xs ys:List V}(I:Inv X pins σ H s)(h:dU t X.K H a xs)(k:dU t X.K H a ys):xs=ys:=by
 cases t
 ·exact I.Au h k
 ·exact I.An h k
theorem jb.obj{h:wK}{it:wc}{i:Nat}(st:jb t h it a i):∃o,h.get? it=some o /\ ∀v,o.data≠.cell v:=by
 cases t
 ·obtain⟨o,e,_,d⟩:=st
  exact⟨o,e,λv z=>by rw[d]at z;cases z⟩
 ·obtain⟨o,e,_,d⟩:=st
  exact⟨o,e,λv z=>by rw[d]at z;cases z⟩
theorem jb.at{h h':wK}{it:wc}{i:Nat}(st:jb t h it a i)(k:∀o,h.get? it=some o->h'.get? it=some o):jb t h' it a i:=by
 cases t
 ·exact Heap.IsListIter.at st k
 ·exact Heap.IsTupleIter.at st k
def m4(t u:Bool)(K:wa)(a b:wc):It :=
 ⟨λi H=>∃xs x ys y,dU t K H a xs/\xs[i]? = some x/\dU u K H b ys/\ys[i]? = some y,
  λi H v H'=>∃(c:wc)(x y:V),v=.ref c/\H c=none/\(∀xs,dU t K H a xs->xs[i]? = some x)/\(∀ys,dU u K H b ys->ys[i]? = some y)/\H'=upd H c (.tup [x,y]),
  λi H=>∃xs ys,dU t K H a xs/\dU u K H b ys/\(xs.length=i\/(i<xs.length/\ys.length=i))⟩
theorem zyt{P:wO}{w:wN}{K:wa}{elts:List Expr}{k1}{tpos:Pos}{u:Bool}(a b z TI TO i1 i2:wc)(ap:ZA z TI TO i1 i2 [i1,a] [i2,b])(na:a≠i1)(nb:b≠i2) :
  gU P w K (.Tuple elts k1 tpos) (m4 t u K a b) [z,TI,TO,i1,i2] z (λi h=>IsZip h z TI TO .none/\Ve h TI (.ref i1) (.ref i2)/\(∃p q,Ve h TO p q)/\jb t h i1 a i/\jb u h i2 b i) where
 mem:=by simp
 obj:=λi h st c hc=>by
  obtain⟨hz,hi,⟨p,q,ho⟩,s1,s2⟩:=st;simp only[wz,vI,or_false]at hc;rcases hc with rfl | rfl | rfl | rfl | rfl
  ·exact⟨_,hz,λv z=>by cases (show Data.fields _=Data.cell v from z)⟩
  ·exact⟨_,hi,λv z=>by cases (show Data.seq _ _=Data.cell v from z)⟩
  ·exact⟨_,ho,λv z=>by cases (show Data.seq _ _=Data.cell v from z)⟩
  ·exact s1.obj
  ·exact s2.obj
 keep:=λi h h' st k=>by
  obtain⟨hz,hi,⟨p,q,ho⟩,s1,s2⟩:=st;exact⟨k z (by simp) _ hz,k TI (by simp) _ hi,⟨p,q,k TO (by simp) _ ho⟩,s1.at λo e=>k i1 (by simp) o e,s2.at λo e=>k i2 (by simp) o e⟩
 item:=by
  intro X hP hw hK hc i pins s σ H E I hf st hg;subst hP hw hK;obtain⟨hz,hi,⟨p,q,ho⟩,s1,s2⟩:=st;obtain⟨xs,x,ys,y,hq1,hx,hq2,hy⟩:=hg;obtain⟨its,r1,p1⟩:=I.mH hq1;obtain⟨jts,r2,p2⟩:=I.mH hq2;obtain⟨ux,hux,rux⟩:=r1.get hx;obtain⟨uy,huy,ruy⟩:=r2.get hy
  have lt1:i<its.toArray.size:=by
   rcases vt i its.length with q | q
   ·simpa using q
   ·rw[vj q]at hux;cases hux
  have lt2:i<jts.toArray.size:=by
   rcases vt i jts.length with q | q
   ·simpa using q
   ·rw[vj q]at huy;cases huy
  have hT:s.TypeIs (.ref z) "zip":=⟨_,hz,rfl⟩;unfold pyNext
  refine wj (qr (wpAny_callSpecial?_slot (name:=WY "__next__") hT Qq (Vb Qq hT XQ
   (YS (yE (A:=X.A.in1) t (I.ok.hd hc) i1 a na its.toArray) (yE (A:=X.A.in1) u (I.ok.hd hc) i2 b nb jts.toArray) ap hz hi ho ⟨s1,p1⟩ ⟨s2,p2⟩ lt1 lt2 λv1 v2 h1 tk e1 e2 hz1 ho1 st1 st2 hT1 hk=>wA ?_) (Xv _))))
  have ev1:v1=ux:=by
   have e1':its[i]? = some v1:=by simpa using e1
   rw[hux]at e1';exact(vi e1').symm
  have ev2:v2=uy:=by
   have e2':jts[i]? = some v2:=by simpa using e2
   rw[huy]at e2';exact(vi e2').symm
  subst ev1 ev2
  have I1:Inv X pins σ (upd H s.heap.objs.size (.tup [x,y])) {s with heap:=s.heap.push {cls:=.type "tuple",data:=.seq ([v1,v2]:List wd).toArray},toks:=tk} :=
   I.laid (λc o q=>wn _ q) (wo _) (show cM X.prog X.w _ _ _ (.tup [x,y])from⟨nu (by simp),_,.cons rux (.cons ruy .nil),qd _ _⟩)
  have ltf:∀c∈[z,TI,TO,i1,i2],c<s.heap.objs.size:=λc hc=>by
   simp only[wz,vI,or_false]at hc;rcases hc with rfl | rfl | rfl | rfl | rfl
   ·exact wD hz
   ·exact wD hi
   ·exact wD ho
   ·obtain⟨o,e,_⟩:=s1.obj;exact wD e
   ·obtain⟨o,e,_⟩:=s2.obj;exact wD e
  have hf1:∀c∈[z,TI,TO,i1,i2],cT X pins (upd H s.heap.objs.size (.tup [x,y])) c:=λc hc=>⟨by rw[bV (wS (ltf c hc))];exact(hf c hc).1,(hf c hc).2⟩
  refine⟨_,rfl,wpAny_letOwnedTupleGo_zip hz1 λh2 hz2 hs2=>?_⟩;have hs2:vW z h1 h2:=hs2
  refine⟨.ref s.heap.objs.size,_,Inv.rT (s:={s with heap:=s.heap.push {cls:=.type "tuple",data:=.seq ([v1,v2]:List wd).toArray},toks:=tk}) (ch:=[z,TI,TO,i1,i2]) I1 (λc o hc q=>?_) hf1,rfl,
   ⟨_,x,y,rfl,I.az.fresh (wo _),λzs hzs=>by rw[I.JA hzs hq1];exact hx,λzs hzs=>by rw[I.JA hzs hq2];exact hy,rfl⟩,
   ⟨hz2,hs2.extBut _ _ ap.a1 (hk _ _ ap.a1 ap.a5 ap.a6 ap.a7 hi),⟨_,_,hs2.extBut _ _ ap.a2 ho1⟩,st1.1.at λo e=>hs2.extBut _ _ ap.a3 e,st2.1.at λo e=>hs2.extBut _ _ ap.a4 e⟩,λc hc=>(hf1 c hc).1⟩
  have c1:c≠z:=λq=>hc (by simp[q])
  have c2:c≠TO:=λq=>hc (by simp[q])
  have c3:c≠i1:=λq=>hc (by simp[q])
  have c4:c≠i2:=λq=>hc (by simp[q])
  refine hs2.extBut _ _ c1 ?_
  by_cases hcs:c=s.heap.objs.size
  ·subst hcs
   rw[wL _ rfl]at q;cases q;exact hT1
  ·exact hk c o c1 c2 c3 c4 (by rw[Q4 _ _ _ hcs]at q;exact q)
 done:=by
  intro X hP hw hK hc i pins s σ H E I hf st hg;subst hP hw hK;obtain⟨hz,hi,⟨p,q,ho⟩,s1,s2⟩:=st;obtain⟨xs,ys,hq1,hq2,hend⟩:=hg;obtain⟨its,r1,p1⟩:=I.mH hq1;obtain⟨jts,r2,p2⟩:=I.mH hq2;have e1:=r1.length;have e2:=r2.length;have hT:s.TypeIs (.ref z) "zip":=⟨_,hz,rfl⟩;unfold pyNext
  refine wj (qr (wpAny_callSpecial?_slot (name:=WY "__next__") hT Qq (Vb Qq hT XQ
   (zEU (k:=i) (yE (A:=X.A.in1) t (I.ok.hd hc) i1 a na its.toArray) (yE (A:=X.A.in1) u (I.ok.hd hc) i2 b nb jts.toArray) ap hz hi ho ⟨s1,p1⟩ ⟨s2,p2⟩ (by simp only[wP];lia) λh' y tk hk hx'=>?_) (Xv _))))
  obtain⟨o,ho',hcl⟩:=hx';refine wj (wpAny_isInstance (T:="StopIteration") (b:=true) ⟨o,ho',hcl⟩ isSubtype_stop (wA ⟨rfl,?_⟩));exact Inv.rT (ch:=[z,TI,TO,i1,i2]) I (λc o hc e=>hk c o (λq=>hc (by simp[q])) (λq=>hc (by simp[q])) (λq=>hc (by simp[q])) (λq=>hc (by simp[q])) e) hf
 self:=λ_ _ _ _ _ st h=>wpAny_pyIter_zip st.1 h
abbrev MR(h:wK)(a:wc):wK:=h.push {cls:=.type "tuple_iterator",data:=.fields #[.ref a,.int 0 0]}
abbrev Rx(h:wK)(a b:wc):wK:=(MR h a).push {cls:=.type "tuple_iterator",data:=.fields #[.ref b,.int 0 0]}
abbrev Ll(h:wK)(a b:wc):wK:=(Rx h a b).push {cls:=.type "tuple",data:=.seq #[.ref h.objs.size,.ref (MR h a).objs.size]}
abbrev zT4(h:wK)(a b:wc):wK:=(Ll h a b).push {cls:=.type "tuple",data:=.seq #[.none,.none]}
abbrev zT5(h:wK)(a b:wc):wK:=(zT4 h a b).push {cls:=.type "zip",data:=.fields #[.none,.bool false,.bool false,.ref (Rx h a b).objs.size,.ref (Ll h a b).objs.size]}
section
variable{prog:wO}{w:wN}{A:va}{E:wd->wl->Prop}{s:wl}
end
def LD(t u:Bool)(K:wa)(ta:TA):TI:=λσ H R=>ta σ H λvs H1=>∃a b,vs=[.ref a,.ref b]/\(∃xs,dU t K H1 a xs)/\(∃ys,dU u K H1 b ys)/\R (m4 t u K a b) H1
theorem Zb:vG "zip"=some (.type "zip"):=by decide +kernel
theorem m9{x a b:wc}(h:x≠a)(k:x≠b):x ∉ [a,b]:=by simp[h,k]
theorem zDN{n a b:Nat}(la:a<n)(lb:b<n):ZA (n+4) (n+2) (n+3) n (n+1) [n,a] [n+1,b] where
 a1:=wS (by lia)
 a2:=wS (by lia)
 a3:=wS (by lia)
 a4:=wS (by lia)
 a5:=wS (by lia)
 a6:=vQ (by lia)
 a7:=vQ (by lia)
 a8:=vQ (by lia)
 a9:=vQ (by lia)
 b0:=wS (by lia)
 b1:=m9 (vQ (by lia)) (vQ (by lia))
 b2:=m9 (vQ (by lia)) (vQ (by lia))
 b3:=m9 (vQ (by lia)) (vQ (by lia))
 b4:=m9 (vQ (by lia)) (vQ (by lia))
 b5:=m9 (wS (by lia)) (vQ (by lia))
 b6:=m9 (vQ (by lia)) (vQ (by lia))
theorem zCK{X:Cx}{elts:List Expr}{k1}{tpos:Pos}{pins:List (wc × Obj)}{σ : L2.St}{H:Hp}{s:wl}{R:It->Hp->Prop}{h':wK}{E:wd->wl->Prop}{t u:Bool}{a b:wc}(I:Inv X pins σ H s)(la:a<s.heap.objs.size)(lb:b<s.heap.objs.size)
  (hz:IsZip h' (s.heap.objs.size+4) (s.heap.objs.size+2) (s.heap.objs.size+3) .none) (hi:Ve h' (s.heap.objs.size+2) (.ref s.heap.objs.size) (.ref (s.heap.objs.size+1))) (ho:Ve h' (s.heap.objs.size+3) .none .none)
  (s1:jb t h' s.heap.objs.size a 0) (s2:jb u h' (s.heap.objs.size+1) b 0) (kp:∀c o,s.heap.get? c=some o->h'.get? c=some o) (q:R (m4 t u X.K a b) H):wq (model X.prog X.w) X.A (pyIter (.ref (s.heap.objs.size+4))) (DO X pins σ (.Tuple elts k1 tpos) R) E {s with heap:=h'}:=by
 refine wpAny_pyIter_zip hz ?_;refine⟨s.heap.objs.size+4,[s.heap.objs.size+4,s.heap.objs.size+2,s.heap.objs.size+3,s.heap.objs.size,s.heap.objs.size+1],_,_,H,rfl,I.kept (t':=s.toks) kp,zyt a b _ (s.heap.objs.size+2) (s.heap.objs.size+3) s.heap.objs.size (s.heap.objs.size+1) (zDN la lb) (wS la) (wS (qW lb)),⟨hz,hi,⟨_,_,ho⟩,s1,s2⟩,λc hc=>?_,q⟩
 ·have hb':s.heap.objs.size<=c:=by
   simp only[wz,vI,or_false]at hc;rcases hc with rfl | rfl | rfl | rfl | rfl
   ·exact Qf _ 4
   ·exact Qf _ 2
   ·exact Qf _ 3
   ·exact wo _
   ·exact Qf _ 1
  exact I.g6 hb' (I.az.fresh hb')
def Lz(t u:Bool)(K:wa)(g:TG)(tb:TS)(D:ck)(σ : L2.St)(vs:List V)(H1:Hp):Prop:=∃a b,vs=[.ref a,.ref b]/\(∃xs,dU t K H1 a xs)/\(∃ys,dU u K H1 b ys) /\
 ∃W:Nat->Nat->L2.St->Hp->Prop,(∃m,W 0 m σ H1) /\ ∀i m σ H,W i m σ H ->
  ((m4 t u K a b).stop i H/\D.nx σ H)\/((m4 t u K a b).go i H /\ ∃M:L2.St->Hp->Prop,(∀σ' H',M σ' H'->∃m',m'<m/\W (i+1) m' σ' H') /\ ∀x H',(m4 t u K a b).fB i H x H'->g x σ H' λσ2 H2=>tb {D with nx:=M,ct:=M,bk:=D.nx} σ2 H2)
section
variable{t u:Bool}{K:wa}{ta:TA}{g:TG}{tb:TS}{tt:TT}{te:TE}{D:ck}{σ : L2.St}{H:Hp}{Q:VK}{a b:wc}{xs ys:List V}{src:List (Option Nat)}{o0 o0':Option V}{tl:L2.St}
theorem zAV(h:ta σ H λvs H1=>Lz t u K g tb D σ vs H1):pH (LD t u K ta) g tb D σ H:=h
theorem zwd(hx:dU t K H a xs)(hy:dU u K H b ys)(hxy:xs.length=ys.length)(Pv:Nat->L2.St->Hp->Prop)(h0:Pv 0 σ H)(hl:∀i σ H,i<=xs.length->Pv i σ H->dU t K H a xs/\dU u K H b ys)
  (hs:∀i x y σ H c H',xs[i]? = some x->ys[i]? = some y->Pv i σ H->H c=none->ae H H'->H' c=some (.tup [x,y])->g (.ref c) σ H' λσ2 H2=>tb {D with nx:=Pv (i+1),ct:=Pv (i+1),bk:=D.nx} σ2 H2) (hd:∀σ H,Pv xs.length σ H->D.nx σ H):Lz t u K g tb D σ [.ref a,.ref b] H:=by
 refine⟨a,b,rfl,⟨xs,hx⟩,⟨ys,hy⟩,λi m σ H=>i+m=xs.length/\Pv i σ H,⟨xs.length,by lia,h0⟩,?_⟩;rintro i m σ H ⟨him,hp⟩;obtain⟨hq1,hq2⟩:=hl i σ H (by lia) hp
 by_cases hm:m=0
 ·have e:i=xs.length:=by lia
  subst e;exact .inl ⟨⟨xs,ys,hq1,hq2,.inl rfl⟩,hd _ _ hp⟩
 ·have hi:i<xs.length:=by lia
  have hj:i<ys.length:=by lia
  refine .inr ⟨⟨xs,xs[i],ys,ys[i],hq1,by simp[hi],hq2,by simp[hj]⟩,λσ' H'=>Pv (i+1) σ' H',λσ' H' h=>⟨m-1,by lia,by lia,h⟩,?_⟩;rintro v H' ⟨c,x,y,rfl,hn,hx',hy',rfl⟩;exact hs i x y σ H c _ (hx' xs hq1) (hy' ys hq2) hp hn (ae.upd hn) bW
def nI(H:Hp)(tl:L2.St)(Rel:Nat->V->Hp->Prop)(D:wc)(i:Nat)(zs:List V)(σ':L2.St)(H':Hp):Prop :=
 (∃o1 o2,σ'=o1::o2::tl)/\H D=none/\ae H H'/\H' D=some (.lst zs)/\zs.length=i /\ ∀j y,zs[j]? = some y->Rel j y H'
theorem KZ{Rel:Nat->V->Hp->Prop}{D:wc}{i:Nat}{zs:List V}{σ' σ3:L2.St}{H1 H5:Hp}{y:V}(inv:nI H tl Rel D i zs σ' H1)(hi:i<=1000)(hk:∀i v H1 H2,aZ H1 H2->Rel i v H1->Rel i v H2)(hσ : ∃o1 o2,σ3=o1::o2::tl)(s:ae H1 H5)(r:Rel i y H5):pR (nI H tl Rel) D i σ3 y H5:=by
 obtain⟨_,hn,s1,hD,hl,hr⟩:=inv;have hD5:=s _ _ hD;refine kr hD5 (by lia) λH6 E6 e6=>⟨hσ,hn,(s1.trans s).grow hn E6,e6,by simp[hl],λj z hz=>?_⟩
 have k6:aZ H5 H6:=E6.keep hD5;rcases vt j zs.length with hj | hj
 ·rw[Ww hj]at hz
  exact hk _ _ _ _ (s.keep.trans k6) (hr j z hz)
 ·have hj':j=zs.length:=by
   rcases vt zs.length j with q | q
   ·rw[vj (by simp;lia)]at hz;cases hz
   ·lia
  subst hj';rw[WR (wo _),xf]at hz;cases hz;rw[hl];exact hk _ _ _ _ k6 r
end
def h_(K:wa):List V->Hp->VK->Prop:=λxs H Q=>∃(p:wc)(bs:List Bool),xs=[.ref p]/\aI K H p (bs.map V.bl)/\Q (.bl (bs.all id)) H
theorem jG:vG "all"=some (.builtin "all"):=by decide +kernel
theorem zxc{bs:List Bool} : ∀{us:List wd},aE (bs.map V.bl) us->us=bs.map Value.bool:=by
 induction bs with
 | nil=>intro us r;rw[WQ]at r;cases r;rfl
 | cons b bs ih =>
  intro us r;rw[wE]at r;cases r with
  | cons r1 r2 =>
   cases r1;rw[wE,ih r2]
theorem ztO(bs:List Bool):((vP bs.length).all λi=>(bs[i]?).getD true)=bs.all id:=by
 rw[Wy,wH,wH]
 constructor
 ·intro h b hb
  obtain⟨i,hi,rfl⟩:=W6 hb;have:=h i (Wq.mpr hi);rw[wg hi]at this;exact this
 ·intro h i hi
  rw[Wq]at hi;rw[wg hi];exact h _ (Wi hi)
open PyProof.V PySem.Calls in
theorem jH{X:Cx}(hc:X.calm=true):aM X (.builtin "all") (h_ X.K):=by
 intro pins s σ H xs us Q I r h;obtain⟨p,bs,rfl,hq,q⟩:=h;obtain⟨u,rfl,rx⟩:=gj r;cases rx;obtain⟨its,r',pl,hz⟩:=I.list hq;have hi:its=bs.map Value.bool:=zxc r';have hl:s.heap.IsList p its.toArray:=pl.isList;have hlt:p<s.heap.objs.size:=by obtain⟨_,e,_⟩:=hl;exact wD e
 refine call_all_walk (wpAny_pyIter_list hl ?_)
 refine⟨s.heap.objs.size,[s.heap.objs.size,p],[s.heap.objs.size],its.toArray.size,_,_,λi=>(bs[i]?).getD true,rfl,Walks.list (A:=X.A.in1) (I.ok.hd hc) _ p (wS hlt) its.toArray,
  ⟨⟨_,wL _ rfl,rfl,rfl⟩,hl.push _⟩,λi v s' Q' E' hP hQ=>?_,λh' tk hk=>?_⟩
 ·have hP:its.toArray[i]? = some v:=hP
  rw[hi]at hP;simp only[List.getElem?_toArray,wG,vF]at hP;obtain⟨b,e,rfl⟩:=hP;simp only[e,XM]at hQ;exact vT hQ
 ·have e:((vP its.toArray.size).all λi=>(bs[i]?).getD true)=bs.all id:=by
   rw[wP,hi,we];exact ztO bs
  rw[e];exact⟨.bl (bs.all id),H,I.kept (t':=tk) (λb x e=>hk b x (λhm=>by rw[wY.mp hm]at e;exact Vk _ (wD e)) (wn _ e)),rfl,q⟩
theorem hV{K:wa}{H:Hp}{Q:VK}{p:wc}{bs:List Bool}(h:aI K H p (bs.map V.bl))(q:Q (.bl (bs.all id)) H):h_ K [.ref p] H Q:=⟨p,bs,rfl,h,q⟩
section
variable{t u:Bool}{K:wa}{g:TG}{tt:TT}{te:TE}{σ : L2.St}{H:Hp}{Q:VK}{a b:wc}{xs ys:List V}{src:List (Option Nat)}{o0 o0':Option V}{tl:L2.St}
end
def Ef(K:wa):List V->Hp->VK->Prop:=λxs H Q=>∃x tp S T d b,xs=[x,.ref tp]/\aR K H tp [.ty S,.ty T]/\Is K H x d/\qb K (.type (kindOf d)) [.type S,.type T]=some b/\Q (.bl b) H
theorem zt8{X:Cx} : aM X (.builtin "isinstance") (Ef X.K):=by
 intro pins s σ H xs us Q I r h;obtain⟨x,tp,S,T,d,b,rfl,ht,hd,e,q⟩:=h;obtain⟨u,w',rfl,rx,rt⟩:=ig r;cases (show w'=Value.ref tp from rt);obtain⟨tts,rv,⟨ot,ht1,ht2,n,ht3⟩,_⟩:=I.tuple ht;obtain⟨t1,t2,rfl,r1,r2⟩:=ig rv;cases (show t1=Value.type S from r1);cases (show t2=Value.type T from r2);obtain⟨c,dd,da,sl⟩:=ot;cases ht2;cases ht3;have fin:∀tk,EP X pins σ Q (.bool b) {s with toks:=tk}:=λtk=>⟨.bl b,H,I.tok _,rfl,q⟩
 cases d with
 | none =>
  cases kg.mp hd;cases (show u=Value.none from rx);exact WN Xq I.bE True.intro ht1 e (λz=>nomatch z) fin
 | bool y =>
  cases k8.mp hd;cases (show u=Value.bool y from rx);exact WN Xr I.bE True.intro ht1 e (λz=>nomatch z) fin
 | int i =>
  cases cC.mp hd;obtain⟨t,q⟩:=(show ∃t,u=Value.int i t from rx);cases q;exact WN XI I.bE True.intro ht1 e (λz=>nomatch z) fin
 | str y =>
  cases cP.mp hd;obtain⟨t,q⟩:=(show ∃t,u=Value.str y t from rx);cases q;exact WN XJ I.bE True.intro ht1 e (λz=>nomatch z) fin
 | tuple ds =>
  obtain⟨a,xs,e1,hq,_⟩:=bX.mp hd;subst e1;cases (show u=Value.ref a from rx);obtain⟨its,_,⟨o,h1,h2,_⟩,_⟩:=I.tuple hq;exact WN Xj I.bE ⟨o,h1,h2⟩ ht1 e (λz=>nomatch z) fin
 | list ds =>
  obtain⟨a,xs,e1,hq,_⟩:=cR.mp hd;subst e1;cases (show u=Value.ref a from rx);obtain⟨its,_,⟨o,n,h1,h2,_⟩,_⟩:=I.list hq;exact WN Xs I.bE ⟨o,h1,h2⟩ ht1 e (λz=>nomatch z) fin
 | dict kv =>
  obtain⟨a,kvs,e1,hq⟩:=tU.mp hd;subst e1;cases (show u=Value.ref a from rx);obtain⟨_,_,vs,_,o,es,ep,h1,h2,_⟩:=(show cM X.prog X.w H s.heap a (.dK kvs)from I.az a _ hq);exact WN qV I.bE ⟨o,h1,h2.1⟩ ht1 e (λz=>nomatch z) fin
theorem zz9{K:wa}(d:wu):qb K (.type (kindOf d)) [.type "list",.type "tuple"]=some (fF d || gT d):=by cases d<;>rfl
theorem AN{K:wa}{H:Hp}{Q:VK}{v:V}{tp:wc}{d:wu}(h:Is K H v d)(t:H tp=some (.tup [.ty "list",.ty "tuple"]))(q:Q (.bl (fF d || gT d)) H):Ef K [v,.ref tp] H Q :=
 ⟨v,tp,"list","tuple",d,_,rfl,.of t,h,zz9 d,q⟩
section
variable{X:Cx}{tg:Expr}
def BO(K:wa)(tl:TE):TI:=λσ H R=>tl σ H λx H1=>(∃a,x=.ref a/\(∃xs,aI K H1 a xs)/\R (jg K a) H1)\/(∃a,x=.ref a/\(∃xs,aR K H1 a xs)/\R (iR K a) H1)
theorem N7{l:Expr}{tl:TE}(hl:PE X l tl):PI X tg l (BO X.K tl):=by
 intro pins s σ H R I h;refine au (hl pins s σ H _ I h) λv s1 ⟨x,H1,I1,r1,q1⟩=>?_
 rcases q1 with⟨a,e,⟨xs,hq⟩,q⟩ | ⟨a,e,⟨xs,hq⟩,q⟩
 ·subst e
  cases r1;obtain⟨its,rv,p,hz⟩:=I1.list hq;refine wpAny_pyIter_list p.isList ?_;refine⟨s1.heap.objs.size,[s1.heap.objs.size],_,_,H1,rfl,I1.kept (t':=s1.toks) λb o e=>wn _ e,SO a _,⟨_,wL _ rfl,rfl,rfl⟩,λb hb=>?_,q⟩;have e:b=s1.heap.objs.size:=by simpa using hb
  subst e;exact I1.g6 (wo _) (I1.az.fresh (wo _))
 ·subst e
  cases r1;obtain⟨its,rv,p,hz⟩:=I1.tuple hq;refine VY (show s1.heap.IsTuple a its.toArray from p) ?_;refine⟨s1.heap.objs.size,[s1.heap.objs.size],_,_,H1,rfl,I1.kept (t':=s1.toks) λb o e=>wn _ e,Ss a _,⟨_,wL _ rfl,rfl,rfl⟩,λb hb=>?_,q⟩;have e:b=s1.heap.objs.size:=by simpa using hb
  subst e;exact I1.g6 (wo _) (I1.az.fresh (wo _))
end
section
variable{K:wa}{g:TG}{tt:TT}{te ta tb' tc:TE}{tb:TS}{D:ck}{src:List (Option Nat)}{σ : St}{H:Hp}{Q:VK}{r r':R2}
theorem zxu(h:ta σ H λx H1=>tJ K g tt te src σ x H1 Q\/uK K g tt te src σ x H1 Q):iV src (BO K ta) g tt te σ H Q:=h
theorem zAZ(h:te σ H λx H1=>B5 K g tb D σ x H1\/NO K g tb D σ x H1):pH (BO K te) g tb D σ H:=h
theorem zyE(h:ta σ H λx H1=>tb' σ H1 λy H2=>r x y H2 λz H3=>∃k,z=.bl k/\(if k=true then tc σ H3 λw' H4=>r' y w' H4 Q else Q (.bl false) H3)):ER r r' ta tb' tc σ H Q:=h
theorem zDg{b:Bool}{P:Bool->Prop}(h:P b):∃k,V.bl b=.bl k/\P k:=⟨b,rfl,h⟩
end
def br(a b:Rat)(xs:List Rat):wu:=.tuple [R a b,TN xs]
theorem d8(a b:Rat)(xs:List Rat):bJ (br a b xs)=true:=by rw[br,bJ,aU,aU,aU,By,R9];rfl
theorem To{x y:Rat}(h:N x=N y):x=y:=by
 have h':PyData.tuple [.int x.num,.int (x.den:Int)]=PyData.tuple [.int y.num,.int (y.den:Int)]:=h
 injection h' with h1
 injection h1 with h2 h3
 injection h2 with h4
 injection h3 with h5 _
 injection h5 with h6
 exact Rat.ext h4 (by lia)
theorem ke{K:wa}{H:Hp}{us:List V}{ds:List wu}{i:Nat}{x:V}(t:aq K H us ds)(h:us[i]? = some x):i<ds.length/\Is K H x (ds.getD i .none):=by
 have hl:=t.length
 have hi:i<ds.length:=by
  rcases vt i ds.length with z | z
  ·exact z
  ·rw[vj (by lia)]at h;cases h
 obtain⟨y,e,k⟩:=t.get (i:=i) (d:=ds.getD i .none) (by rw[wk,wg hi];rfl);rw[e]at h;cases h;exact⟨hi,k⟩
def BN(K:wa)(a:wc):It :=
 ⟨λi H=>∃xs x,aI K H a xs/\xs[i]? = some x,λi H y H'=>∃t x,y=.ref t/\H t=none/\(∀xs,aI K H a xs->xs[i]? = some x)/\H'=upd H t (.tup [.int (i:Int),x]),λi H=>∃xs,aI K H a xs/\xs.length<=i⟩
theorem zuu{P:wO}{w:wN}{K:wa}{elts:List Expr}{k1}{tpos:Pos}(a e it:wc)(hne:e≠it):gU P w K (.Tuple elts k1 tpos) (BN K a) [e,it] e (λi h=>(∃old,IsEnum h e it (i:Int) old)/\h.IsListIter it a i) where
 mem:=by simp
 obj:=λi h st b hb=>by
  obtain⟨⟨old,he⟩,o,eo,c,d⟩:=st;rcases wz.mp hb with rfl | hb
  ·exact⟨_,he,λv z=>by cases (show Data.fields _=Data.cell v from z)⟩
  ·rw[wY.mp hb]
   exact⟨o,eo,λv z=>by rw[d]at z;cases z⟩
 keep:=λi h h' st k=>⟨let ⟨old,he⟩:=st.1;⟨old,k e (by simp) _ he⟩,st.2.at λo eo=>k it (by simp) o eo⟩
 item:=by
  intro X hP hw hK hc i pins s σ H E I hf st hg;subst hP hw hK;obtain⟨⟨old,he⟩,st⟩:=st;obtain⟨xs,x,hq,hx⟩:=hg;obtain⟨its,rv,p,hz⟩:=I.list hq;obtain⟨u,hu,ru⟩:=rv.get hx;have p':s.heap.IsList a its.toArray:=p.isList
  have hai:a≠it:=λz=>by
   subst z;obtain⟨o,e1,c1,_⟩:=st;obtain⟨o',e2,c2,_⟩:=p';rw[e1]at e2;cases e2;rw[c1]at c2;exact absurd c2 (by decide)
  have hae:e≠a:=λz=>by
   subst z;obtain⟨o',e2,c2,_⟩:=p';rw[he]at e2;cases e2;exact absurd (show Value.type "enumerate"=Value.type "list" from c2) (by decide)
  have hlt:i<its.toArray.size:=by
   rcases vt i its.length with z | z
   ·simpa using z
   ·rw[vj z]at hu;cases hu
  refine wpAny_pyNext_enum_itemD (Draws.list (A:=X.A.in1) (I.ok.hd hc) it a hai its.toArray) he ⟨st,p'⟩ hlt hne (by simp[hne,hae]) λv h1 tk hv ho hs1 hT hsz hk=>?_
  have hvu:v=u:=by
   have hv':its[i]? = some v:=by simpa using hv
   rw[hu]at hv';exact(vi hv').symm
  subst hvu
  have I1:Inv X pins σ (upd H s.heap.objs.size (.tup [.int (i:Int),x])) {s with heap:=s.heap.push {cls:=.type "tuple",data:=.seq ([.int (i:Int) tk,v]:List wd).toArray},toks:=tk+1} :=
   I.laid (λb o q=>wn _ q) (wo _) (show cM X.prog X.w _ _ _ (.tup [.int (i:Int),x])from⟨nu (by simp),_,.cons ⟨_,rfl⟩ (.cons ru .nil),qd _ _⟩)
  have lt1:∀b∈[e,it],b<s.heap.objs.size:=λb hb=>by
   rcases wz.mp hb with rfl | hb
   ·exact wD he
   ·rw[wY.mp hb]
    obtain⟨o,eo,_⟩:=st;exact wD eo
  have hf1:∀b∈[e,it],cT X pins (upd H s.heap.objs.size (.tup [.int (i:Int),x])) b:=λb hb=>⟨by rw[bV (wS (lt1 b hb))];exact(hf b hb).1,(hf b hb).2⟩
  refine⟨_,rfl,wpAny_letOwnedTupleGo_enum ho λh2 he2 hs2=>?_⟩;refine⟨.ref s.heap.objs.size,_,Inv.rT (s:={s with heap:=s.heap.push {cls:=.type "tuple",data:=.seq ([.int (i:Int) tk,v]:List wd).toArray},toks:=tk+1}) (ch:=[e,it]) I1 (λb o hb q=>?_) hf1,rfl,⟨_,x,rfl,I.az.fresh (wo _),λys hy=>by rw[I.Au hy hq];exact hx,rfl⟩,⟨⟨_,by simpa using he2⟩,hs1.1.at λo eo=>(hs2.2 it (WC hne)).trans eo⟩,λb hb=>(hf1 b hb).1⟩;have hbe:b≠e:=λz=>hb (by simp[z])
  have hbi:b≠it:=λz=>hb (by simp[z])
  refine(hs2.2 b hbe).trans ?_
  by_cases hb2:b=s.heap.objs.size
  ·subst hb2
   rw[wL _ rfl]at q;cases q;exact hT
  ·exact hk b o hbe hbi (by rw[Q4 _ _ _ hb2]at q;exact q)
 done:=by
  intro X hP hw hK hc i pins s σ H E I hf st hg;subst hP hw hK;obtain⟨⟨old,he⟩,st⟩:=st;obtain⟨xs,hq,hx⟩:=hg;obtain⟨its,rv,p,hz⟩:=I.list hq;have p':s.heap.IsList a its.toArray:=p.isList;have hl:=rv.length;have hT:s.TypeIs (.ref e) "enumerate":=⟨_,he,rfl⟩;unfold pyNext;refine wj (qr (wpAny_callSpecial?_slot (name:=WY "__next__") hT qa (Vb qa hT xB ?_ (xp _))))
  show wq _ _ (field (.ref e) 2 >>= _) _ _ _;refine wj (vy he rfl (x:=.ref it) rfl ?_)
  refine wj (wpAny_nextOf_list_end (A:=X.A.in1) (I.ok.hd hc) st p' (by simp;lia) λh' y he' hx'=>?_);obtain⟨o,ho,hcl⟩:=hx';refine wj (wpAny_isInstance (T:="StopIteration") (b:=true) ⟨o,ho,hcl⟩ isSubtype_stop (wA ⟨rfl,?_⟩));obtain⟨f0,f1,f2,f3,f4,f5⟩:=hf it (by simp);exact I.turned (t':=s.toks) (λb o hb e=>he' b o hb e) f0 f1 f3 f4 f5
 self:=λ_ _ _ _ _ st h=>let ⟨_,he⟩:=st.1;wpAny_pyIter_enum he h
def KO(K:wa)(ta:TA):TI:=λσ H R=>ta σ H λvs H1=>∃a,vs=[.ref a]/\(∃xs,aI K H1 a xs)/\R (BN K a) H1
theorem zx0{X:Cx}{elts:List Expr}{k1}{tpos p pos:Pos}{l:Expr}{ta:TA}(hg:Gl X "enumerate")(hm:X.mg "enumerate"=none)(ha:PA X [l] ta)(hs:wC [l] X.env=[(false,eval l X.env)]:=by rfl) :
  PI X (.Tuple elts k1 tpos) (.Call (.Name "enumerate" p) [l] [] pos) (KO X.K ta):=by
 intro pins s σ H R I h;refine Call_ (jY I hg hm Nk (Wb (au (ha pos pins s σ H _ I h) λus s1 ⟨vs,H1,I1,r1,q1⟩=>?_) hs rfl));obtain⟨a,rfl,⟨xs,hq⟩,q⟩:=q1;obtain⟨u,rfl,ru⟩:=gj r1;cases ru;obtain⟨its,rv,p,hz⟩:=I1.list hq;refine call_enumerate_list p.isList λh' he hit _ kp=>?_
 refine wpAny_pyIter_enum he ?_;refine⟨s1.heap.objs.size+1,[s1.heap.objs.size+1,s1.heap.objs.size],_,_,H1,rfl,I1.kept (t':=s1.toks) kp,zuu a (s1.heap.objs.size+1) s1.heap.objs.size (XN _),⟨⟨_,he⟩,hit⟩,λb hb=>?_,q⟩
 have hb':s1.heap.objs.size<=b:=by
  rcases wz.mp hb with rfl | hb
  ·lia
  ·rw[wY.mp hb];exact wo _
 exact I1.g6 hb' (I1.az.fresh hb')
def SG(K:wa)(g:TG)(tt:TT)(te:TE)(src:List (Option Nat))(σ : St)(vs:List V)(H1:Hp)(Q:VK):Prop:=∃a,vs=[.ref a]/\(∃xs,aI K H1 a xs) /\
 ∀D,H1 D=none->iM g tt te (BN K a) D (c7 src σ) (upd H1 D (.lst [])) (λH'=>Q (.ref D) H')
section
variable{K:wa}{ta:TA}{g:TG}{tb:TS}{tt c:TT}{te:TE}{D:ck}{σ : St}{H:Hp}{Q:VK}{a:wc}{xs:List V}{src:List (Option Nat)}{o0 o0':Option V}{tl:St}
theorem zwa(h:ta σ H λvs H1=>SG K g tt te src σ vs H1 Q):iV src (KO K ta) g tt te σ H Q:=h
theorem zys(hx:aI K H a xs)(hsrc:c7 src σ = o0::o0'::tl)(Rel:Nat->V->Hp->Prop)(hk:∀i v H1 H2,aZ H1 H2->Rel i v H1->Rel i v H2)
  (hs:∀D i x zs o1 o2 H1 c,xs[i]? = some x->nI H tl Rel D i zs (o1::o2::tl) H1->H1 c=some (.tup [.int (i:Int),x])->hR (nI H tl Rel) g tt te D i (.ref c) (o1::o2::tl) H1)
  (hd:∀D zs H',H D=none->ae H H'->H' D=some (.lst zs)->zs.length=xs.length->(∀j y,zs[j]? = some y->Rel j y H')->Q (.ref D) H'):SG K g tt te src σ [.ref a] H Q:=by
 refine⟨a,rfl,⟨xs,hx⟩,λD hD=>⟨λi m σ' H'=>i+m=xs.length /\ ∃zs,nI H tl Rel D i zs σ' H',⟨xs.length,by lia,[],⟨o0,o0',hsrc⟩,hD,ae.upd hD,bW,rfl,λj y z=>by simp at z⟩,?_⟩⟩;rintro i m σ' H' ⟨him,zs,inv⟩;have hq1:=inv.2.2.1.seq hx
 by_cases hm:m=0
 ·have e:i=xs.length:=by lia
  subst e;obtain⟨_,n,s,e,hl,r⟩:=inv;exact .inl ⟨⟨xs,hq1,wo _⟩,hd D zs H' n s e hl r⟩
 ·have hi:i<xs.length:=by lia
  refine .inr ⟨⟨xs,xs[i],hq1,by simp[hi]⟩,λσ2 H2=>∃zs,nI H tl Rel D (i+1) zs σ2 H2,λσ2 H2 h=>⟨m-1,by lia,by lia,h⟩,?_⟩;rintro v H2 ⟨c,x,rfl,hn,hx',rfl⟩;obtain⟨⟨o1,o2,rfl⟩,n,s,e,hl,r⟩:=inv;have su:=ae.upd (o:=.tup [.int (i:Int),x]) hn;exact hs D i x zs o1 o2 _ c (hx' xs hq1) ⟨⟨o1,o2,rfl⟩,n,s.trans su,su _ _ e,hl,λj y hy=>hk _ _ _ _ su.keep (r j y hy)⟩ bW
def KY(Pv:Nat->St->Hp->Prop)(m:Nat)(tb:TS)(D:ck)(σ':St)(H1:Hp):Prop :=
 ∃M:St->Hp->Prop,(∀σ2 H2,M σ2 H2->∃m',m'<m/\Pv m' σ2 H2)/\tb {D with nx:=M,ct:=M,bk:=D.nx} σ' H1
theorem OP(Pv:Nat->St->Hp->Prop)(m0:Nat)(h0:Pv m0 σ H)(hs:∀m σ' H',Pv m σ' H'->c σ' H' λb H1=>if b=true then KY Pv m tb D σ' H1 else D.nx σ' H1):Ay c tb D σ H:=⟨Pv,⟨m0,h0⟩,hs⟩
theorem Oh{Pv:Nat->St->Hp->Prop}{m:Nat}{σ':St}{H1:Hp}(h:tb {D with nx:=λσ2 H2=>∃m',m'<m/\Pv m' σ2 H2,ct:=λσ2 H2=>∃m',m'<m/\Pv m' σ2 H2,bk:=D.nx} σ' H1):KY Pv m tb D σ' H1:=⟨_,λ_ _ q=>q,h⟩
def lY(K:wa)(x:V)(H:Hp)(Q:Bool->Hp->Prop):Prop:=∃k,Ez K x H k/\Q k H
def KH(K:wa)(te:TE):TT:=λσ H Q=>te σ H λx H'=>lY K x H' Q
theorem o8{X:Cx}{e:Expr}{t:TE}(h:PE X e t)(he:∀whole,isTrue e X.env whole=(do let v <- whole;standAt e.pos;holding [v] (truthy v)):=by intro _;rfl):PT X e (KH X.K t):=zzf h he
theorem zCD{QB:Bool->Hp->Prop}(h:te σ H λx H'=>lY K x H' QB):KH K te σ H QB:=h
theorem zAz{QB:Bool->Hp->Prop}{v:V}{ds:List wu}(h:Is K H v (.tuple ds))(q:QB (!ds.isEmpty) H):lY K v H QB:=by
 obtain⟨p,us,rfl,hs,t⟩:=bX.mp h;have hl:=t.length;refine⟨_,.inr (.inl ⟨us,hs,rfl⟩),?_⟩
 have e:us.isEmpty=ds.isEmpty:=by
  cases us<;>cases ds<;>simp_all
 rw[e];exact q
theorem A6{QB:Bool->Hp->Prop}{v:V}{ds:List wu}(h:Is K H v (.list ds))(q:QB (!ds.isEmpty) H):lY K v H QB:=by
 obtain⟨p,us,rfl,hs,t⟩:=cR.mp h;have hl:=t.length;refine⟨_,.inl ⟨us,hs,rfl⟩,?_⟩
 have e:us.isEmpty=ds.isEmpty:=by
  cases us<;>cases ds<;>simp_all
 rw[e];exact q
end
theorem Sn:∀(ys:List V)(us:List wd),ys.length=us.length->(∀(i:Nat) y u,ys[i]? = some y->us[i]? = some u->aV y u)->aE ys us
 | [],[],_,_=>.nil
 | [],_::_,h,_=>by simp at h
 | _::_,[],h,_=>by simp at h
 | y::ys,u::us,h,r=>.cons (r 0 y u rfl rfl) (Sn ys us (by simpa using h) λi y u h1 h2=>r (i+1) y u h1 h2)
def vz(l:List Nat):List V:=l.map λ(w:Nat)=>V.int (w:Int)
theorem jN(l:List Nat):(vz l).length=l.length:=we ..
def CZ(vs:List V)(H1:Hp)(Q:VK):Prop:=∃j:Int,vs=[.int j]/\0<=j/\j<=1000 /\ ∀l,H1 l=none->Q (.ref l) (upd H1 l (.lst (vz (vP j.toNat))))
def L9(ta:TA):TE:=λσ H Q=>ta σ H λvs H1=>CZ vs H1 Q
theorem N2{X:Cx}{a:Expr}{ta:TA}{p p2 pos pos2:Pos}(hc:X.calm=true)(hg:Gl X "list")(hm:X.mg "list"=none)(hg2:Gl X "range")(hm2:X.mg "range"=none)(ha:PA X [a] ta)(hs:wC [a] X.env=[(false,eval a X.env)]:=by rfl)
  (hs2:wC [Expr.Call (.Name "range" p2) [a] [] pos2] X.env=[(false,eval (.Call (.Name "range" p2) [a] [] pos2) X.env)]:=by rfl):PE X (.Call (.Name "list" p) [.Call (.Name "range" p2) [a] [] pos2] [] pos) (L9 ta):=by
 intro pins s σ H Q I h;refine Call_ (jY I hg hm mQ ?_);refine Wb ?_ hs2 rfl;rw[hs2]
 show wq _ _ (spliced ((false,eval _ X.env)::Wh pos [])) _ _ s
 refine VQ ?_;refine Call_ (jY I hg2 hm2 boot_range (Wb (au (ha pos2 pins s σ H _ I h) λus s1 ⟨vs,H1,I1,r1,q1⟩=>?_) hs rfl));obtain⟨j,e,j0,j1,q⟩:=q1;subst e;obtain⟨u,rfl,ru⟩:=gj r1;obtain⟨t,rfl⟩:=ru;refine call_range_1 ?_;refine Q1 ?_;have I2:Inv X pins σ H1 {s1 with heap:=s1.heap.push {cls:=.type "range",data:=.fields #[.int 0 s1.toks,.int j t,.int 1 (s1.toks+1)]},toks:=s1.toks+1+1}:=I1.kept λb o e=>wn _ e
 refine call_list_range (n:=j.toNat) (I1.ok.hd hc) (uD ..) (small_one (by lia) (by lia) (by lia) (by lia)) (by rw[rangeSize_one];split<;>lia) (by lia) λh' tk acc c hk hD hI=>?_
 refine⟨.ref _,_,I2.laid (t':=tk) hk (wo _) ?_,rfl,q _ (I2.az.fresh (wo _))⟩;refine⟨nu (by rw[jN,WK];lia),acc.toList,c,Sn _ _ (by rw[jN,WK,qz,hI.1]) λi y u hy hu=>?_,by simpa using hD⟩;have hu':acc[i]? = some u:=by simpa using hu
 obtain⟨t',e'⟩:=hI.2 i u hu'
 have hi:i<j.toNat:=by
  have:=(vO.mp hu').1;rw[hI.1]at this;exact this
 have hy':y=V.int (i:Int):=by
  unfold vz at hy;rw[wG,xT hi]at hy;exact(vi hy).symm
 subst hy';exact⟨t',by rw[e'];congr 1;lia⟩
theorem ZF{ta:TA}{σ : St}{H:Hp}{Q:VK}(h:ta σ H λvs H1=>CZ vs H1 Q):L9 ta σ H Q:=h
theorem Rh{n:Nat}{H:Hp}{Q:VK}(hn:n<=1000)(q:∀l H',H l=none->ae H H'->H' l=some (.lst (vz (vP n)))->Q (.ref l) H'):CZ [V.int (n:Int)] H Q :=
 ⟨_,rfl,by lia,by lia,λl hl=>q l _ hl (ae.upd hl) (by rw[WL];exact bW)⟩
theorem NZ(w:Nat)(l:List Nat):v_ (.int (w:Int)) (vz l)=decide (w∈l):=by
 unfold v_ vz
 induction l with
 | nil=>rfl
 | cons x l ih =>
  rw[wE,W3,ih]
  show((x:Int) == (w:Int) || _)=_
  by_cases h:w=x
  ·subst h;simp
  ·have h':¬ (x:Int)=(w:Int):=λz=>h (by lia)
   simp[h,h']
theorem O8(l:List Nat):(vz l).all ib=true:=by
 unfold vz;rw[wH];intro y hy;obtain⟨w,_,rfl⟩:=wU.mp hy
 rfl
section
variable{K:wa}{H H':Hp}{Q:VK}{v:V}{p:wc}{l:List Nat}{w:Nat}
theorem ztD(h:aR K H p (vz l))(q:Q (.bl (!decide (w∈l))) H):kJ K true (.int (w:Int)) (.ref p) H Q:=⟨p,vz l,rfl,.inr h,rfl,O8 l,by rw[NZ];exact q⟩
theorem zzJ(h:aI K H p (vz l))(q:Q (.bl (decide (w∈l))) H):kJ K false (.int (w:Int)) (.ref p) H Q:=⟨p,vz l,rfl,.inl h,rfl,O8 l,by rw[NZ];exact q⟩
def TW(l:List Nat):wu:=TZ (l.map λ(w:Nat)=>(w:Int))
theorem DA :Is K H v (TW l) ↔ ∃a,v=.ref a/\aR K H a (vz l):=by
 unfold TW vz;rw[uV,qO];exact Iff.rfl
theorem Bn(l:List Nat):bJ (TW l)=true:=zDe _
def OI(ws:List (List Nat)):wu:=.tuple (ws.map TW)
theorem CO:∀ws:List (List Nat),aU (ws.map TW)=true
 | []=>rfl
 | w::ws=>by rw[wE,aU,Bn,CO ws];rfl
theorem BS{i:Nat}{x:V}(h:(vz l)[i]? = some x):∃hi:i<l.length,x=.int ((l[i]:Nat):Int):=by
 have hi:i<l.length:=by
  rcases vt i l.length with z | z
  ·exact z
  ·rw[vj (by rw[jN];exact z)]at h;cases h
 refine⟨hi,?_⟩;unfold vz at h;rw[wG,wg hi]at h;exact(vi h).symm
def GD(a b:Rat)(xs:List Rat):wu:=.tuple [N (1-bO xs),OI (j7 a b xs),br a b (eC a b xs)]
theorem Mx{α : Type}(f : α -> wu)(hf:∀x,bJ (f x)=true):∀l:List α,aU (l.map f)=true
 | []=>rfl
 | x::l=>by rw[wE,aU,hf,Mx f hf l];rfl
theorem aq.snoc{vs:List V}{ds:List wu}{d:wu}(h:aq K H vs ds)(k:Is K H v d):aq K H (vs++[v]) (ds++[d]):=h.append (.cons k .nil)
theorem rk{i:Nat}(h:i<l.length):l.take (i+1)=l.take i++[l[i]]:=by
 rw[Q2,wg h];rfl
theorem zAA{ds:List wu}{d:wu}{j:Nat}(h:Is K H v (.list ds))(e:ds[j]? = some d)(q:∀x,Is K H x d->Q x H):cV K v (.int (j:Int)) H Q:=by
 obtain⟨a,xs,rfl,h,t⟩:=cR.mp h;obtain⟨x,e1,hx⟩:=t.get e;exact dS h (gm e1) (q x hx)
theorem L4(h:Is K H v (TW l))(q:Q (.int (l.length:Int)) H):gy K [v] H Q:=zyb h (by rw[we];exact q)
end
variable{l:List Nat}{n w:Nat}
theorem zxK{ps:List Rat}(h:¬ ps.getD w 0<1):aF ps (l++[w])=aF ps l++[w]:=by
 unfold aF;rw[WX,W8,decide_eq_false h];rfl
theorem zwO{ps:List Rat}(h:ps.getD w 0<1):aF ps (l++[w])=aF ps l:=by
 unfold aF;rw[WX,W8,decide_eq_true h];exact vS _
theorem Y4{wave:List Nat}(h:¬ w∈wave):cA (l++[w]) wave=cA l wave++[w]:=by
 unfold cA;rw[WX];simp[W8,h]
theorem zur{wave:List Nat}(h:w∈wave):cA (l++[w]) wave=cA l wave:=by
 unfold cA;rw[WX];simp[W8,h]
theorem BX(l:List Nat)(w:Nat):vz (l++[w])=vz l++[V.int (w:Int)]:=by unfold vz;rw[vJ];rfl
theorem zwN{xs:List Rat}{j:Nat}(h:j<xs.length):(fm xs).getD j 0=xs.getD j 0+(1-bO xs):=by
 unfold fm;rw[wk,wG,wg h,wk,wg h];rfl
theorem zEQ{P:wu->Prop}{a b:wu}(ha:P a)(hb:P b):∀d∈[a,b],P d:=λd hd=>by
 simp only[wz,vI,or_false]at hd;rcases hd with rfl | rfl
 ·exact ha
 ·exact hb
def Sh(n:Nat)(d:wu):Prop:=d.canLay0=true/\d.depth<=n
theorem Fl{n:Nat} : ∀ds:List wu,(∀d∈ds,Sh n d)->Wc ds=true/\qD ds<=n
 | [],_=>by simp[Wc,qD]
 | d::ds,h=>by
  have h1:=h d (wV ..);have h2:=Fl ds λe he=>h e (wx _ he)
  rw[Wc,qD,h1.1,h2.1];exact⟨rfl,by have:=h1.2;have:=h2.2;lia⟩
theorem O5{ds:List wu}(h:∀d∈ds,Sh n d):Sh (n+1) (.tuple ds):=by
 have:=Fl ds h;unfold Sh;rw[vK,Vd];exact⟨this.1,by have:=this.2;lia⟩
theorem zCB{ds:List wu}(h:∀d∈ds,Sh n d):Sh (n+1) (.list ds):=by
 have:=Fl ds h;unfold Sh;rw[vK,Vd];exact⟨this.1,by have:=this.2;lia⟩
theorem Sh.mono{m:Nat}{d:wu}(h:Sh m d)(e:m<=n):Sh n d:=⟨h.1,w5 h.2 e⟩
theorem Sh.shaped{d:wu}(h:Sh n d)(e:n<=64):vU d=true:=by
 unfold vU;rw[h.1,w9];exact decide_eq_true (w5 h.2 e)
theorem A1(i:Int):Sh 1 (.int i):=⟨by simp[vK],by simp[Vd]⟩
theorem zES(x:Rat):Sh 2 (N x):=O5 (zEQ (A1 _) (A1 _))
theorem RY{K:wa}{H:Hp} : ∀{ds:List wu}{vs:List V},vs.length=ds.length->(∀i x,vs[i]? = some x->Is K H x (ds.getD i .none))->aq K H vs ds
 | [],[],_,_=>.nil
 | [],_::_,h,_=>by simp at h
 | _::_,[],h,_=>by simp at h
 | d::ds,v::vs,h,e=>.cons (e 0 v rfl) (RY (by simpa using h) λi x hx=>e (i+1) x hx)
theorem zCX :vG "max"=some (.builtin "max"):=by decide +kernel
section
variable{K:wa}{H H':Hp}{Q:VK}{D:ck}{σ : St}{td ty tv:TE}{a:wc}{kvs:List (Key × V)}{k:Int}{v:V}
end
theorem Ko:∀{ts:List Int}{ys:List V},ys.length=ts.length->(∀(j:Nat)(y:V),ys[j]? = some y->y=V.int (ts.getD j 0))->ys=ts.map V.int
 | [],[],_,_=>rfl
 | [],_::_,h,_=>by simp at h
 | _::_,[],h,_=>by simp at h
 | t::ts,y::ys,h,e=>by
  rw[wE,e 0 y rfl,Ko (ts:=ts) (ys:=ys) (by simpa using h) λj z hz=>e (j+1) z hz]
  rfl
theorem RO{α : Type}{ys:List α}{j:Nat}{y : α}(h:ys[j]? = some y):j<ys.length:=by
 rcases vt j ys.length with z | z
 ·exact z
 ·rw[vj z]at h;cases h
theorem ZC{ts:List Int}{i:Nat}{x:V}(h:(ts.map V.int)[i]? = some x):i<ts.length/\x=.int (ts.getD i 0):=by
 have hi:=RO h;rw[we]at hi;rw[wG,wg hi]at h;refine⟨hi,?_⟩;rw[wk,wg hi];exact(vi h).symm
theorem N8{n:Nat}(p:Nat->Bool)(i:Nat):(vP (i+1)).filter p=(vP i).filter p++(if p i then [i]else []):=by
 rw[X6,WX];cases h:p i<;>simp[h]
def Lo(K:wa)(g:TG)(tt:TT)(te:TE)(src:List (Option Nat))(σ : St)(vs:List V)(H1:Hp)(Q:VK):Prop:=∃a,vs=[.ref a]/\(∃xs,aR K H1 a xs) /\
 ∀D,H1 D=none->iM g tt te (C1 K a) D (c7 src σ) (upd H1 D (.lst [])) (λH'=>Q (.ref D) H')
section
variable{K:wa}{ta:TA}{g:TG}{tt:TT}{te:TE}{σ : St}{H:Hp}{Q:VK}{a:wc}{xs:List V}{src:List (Option Nat)}
theorem ZX(h:ta σ H λvs H1=>Lo K g tt te src σ vs H1 Q):iV src (PL K ta) g tt te σ H Q:=h
theorem Z4(hx:aR K H a xs)(Pv:wc->Nat->List V->St->Hp->Prop)(h0:∀D H',H D=none->ae H H'->H' D=some (.lst [])->Pv D 0 [] (c7 src σ) H')(hl:∀D i ys σ' H',Pv D i ys σ' H'->aR K H' a xs)
  (hs:∀D i x ys σ' H1 c H2,xs[i]? = some x->Pv D i ys σ' H1->H1 c=none->ae H1 H2->H2 c=some (.tup [.int (i:Int),x])->hR Pv g tt te D i (.ref c) σ' H2) (hd:∀D ys σ' H',Pv D xs.length ys σ' H'->Q (.ref D) H'):Lo K g tt te src σ [.ref a] H Q:=by
 refine⟨a,rfl,⟨xs,hx⟩,λD hD=>⟨λi m σ' H'=>i+m=xs.length /\ ∃ys,Pv D i ys σ' H',⟨xs.length,by lia,[],h0 D _ hD (ae.upd hD) bW⟩,?_⟩⟩;rintro i m σ' H' ⟨him,ys,inv⟩;have hq:=hl _ _ _ _ _ inv
 by_cases hm:m=0
 ·have e:i=xs.length:=by lia
  subst e;exact .inl ⟨⟨xs,hq,wo _⟩,hd _ _ _ _ inv⟩
 ·have hi:i<xs.length:=by lia
  refine .inr ⟨⟨xs,xs[i],hq,by simp[hi]⟩,λσ2 H2=>∃ys,Pv D (i+1) ys σ2 H2,λσ2 H2 h=>⟨m-1,by lia,by lia,h⟩,?_⟩;rintro v H2 ⟨c,x,rfl,hn,hx',rfl⟩;exact hs D i x ys σ' H' c _ (hx' xs hq) inv hn (ae.upd hn) bW
end
def jL(K:wa):R2:=λx y H Q=>∃d ds,Is K H x d/\Is K H y (.tuple ds)/\Sh 60 d/\vK (.tuple ds)=true/\Q (.bl (ds.any λe=>Wa e d)) H
theorem q_{X:Cx}(hu:X.A.units+64<cLine):aY X (vk .In) (jL X.K):=by
 intro pins s σ H x y v u Q I rx ry h;obtain⟨d,ds,hd,he,sd,se,q⟩:=h;obtain⟨as,h1⟩:=I.reads d x v sd.1 hd rx;obtain⟨bs,h2⟩:=I.reads (.tuple ds) y u se he ry;have sd2:=sd.2;have hm:=XE (qD ds) d.depth;exact SeqAt.in_tuple_reads h2 h1 (by rw[vK]at se;exact se) sd.1 (by lia) ⟨.bl _,H,I,rfl,q⟩
theorem zDD(xs:List Rat)(x:Rat):((xs.map N).any λe=>Wa e (N x))=decide (x∈xs):=by
 induction xs with
 | nil=>rfl
 | cons y xs ih =>
  rw[wE,W3,ih,BL]
  by_cases h:x=y
  ·subst h;simp
  ·have h':¬ y=x:=λz=>h z.symm
   simp[h,h']
theorem RM{K:wa}{H:Hp}{Q:VK}{v w:V}{xs:List Rat}{x:Rat}(h:Is K H v (N x))(k:Is K H w (TN xs))(q:Q (.bl (decide (x∈xs))) H):jL K v w H Q :=
 ⟨N x,xs.map N,h,k,(zES x).mono (by decide),by rw[vK];exact Se xs,by rw[zDD];exact q⟩
def jV(xs:List Rat)(v:Rat):wu:=.tuple [N v,TW (oV xs v)]
theorem MY(xs:List Rat)(v:Rat):bJ (jV xs v)=true:=by rw[jV,bJ,aU,aU,aU,eX,Bn];rfl
theorem zvW(xs:List Rat)(l:List Rat):aU (l.map (jV xs))=true:=Mx _ (MY xs) l
section
variable{K:wa}{H:Hp}{Q:VK}{v w:V}{ds:List wu}{n:Nat}{l b:wc}{xs zs:List V}
theorem zCM{k:Int}(h:H l=some (.lst xs))(h0 : -1000<=k)(h1:k<=1000)(z:xs.length*k.toNat<=1000)(q:∀p H',H p=none->ae H H'->H' p=some (.lst (ve k.toNat xs).flatten)->Q (.ref p) H'):pS (.ref l) (.int k) H Q :=
 ⟨l,k,xs,rfl,rfl,h,by lia,by lia,by have:=nC z;lia,λp hp=>q p _ hp (ae.upd hp) bW⟩
end
section
open PyProof.V PySem.Calls PySem.W
variable{prog:wO}{w:wN}{A:va}{E:wd->wl->Prop}{s:wl}
end
abbrev Nr(h:wK)(a:wc):wK:=h.push {cls:=.type "tuple_iterator",data:=.fields #[.ref a,.int 0 0]}
abbrev Kn(h:wK)(a b:wc):wK:=(Nr h a).push {cls:=.type "list_iterator",data:=.fields #[.ref b,.int 0 0]}
abbrev Ky(h:wK)(a b:wc):wK:=(Kn h a b).push {cls:=.type "tuple",data:=.seq #[.ref h.objs.size,.ref (Nr h a).objs.size]}
abbrev zM4(h:wK)(a b:wc):wK:=(Ky h a b).push {cls:=.type "tuple",data:=.seq #[.none,.none]}
abbrev zM5(h:wK)(a b:wc):wK:=(zM4 h a b).push {cls:=.type "zip",data:=.fields #[.none,.bool false,.bool false,.ref (Kn h a b).objs.size,.ref (Ky h a b).objs.size]}
section
variable{prog:wO}{w:wN}{A:va}{E:wd->wl->Prop}{s:wl}
end
section
variable{X:Cx}{x:Str}{G:wd}{b₀ : wJ}{body suite:List wJ}{np hpos pos:Pos}{tb:(St->XK)->TS}{th:TS}
end
section
variable{K:wa}{H:Hp}{Q:VK}{p:wc}{ns:List Int}
end
theorem NC:∀{ms ks:List Int},ms.Perm ks->ms.Pairwise (· <= ·)->ks.Pairwise (· <= ·)->ms=ks
 | [],ks,p,_,_=>(List.nil_perm.mp p).symm
 | m::ms,[],p,_,_=>absurd p.length_eq (by simp)
 | m::ms,k::ks,p,hm,hk=>by
  rw[List.pairwise_cons]at hm hk
  have e:m=k:=by
   have h1:m∈k::ks:=p.mem_iff.mp (wV ..);have h2:k∈m::ms:=p.mem_iff.mpr (wV ..);rcases wz.mp h1 with e | e
   ·exact e
   ·rcases wz.mp h2 with e' | e'
    ·exact e'.symm
    ·have:=hk.1 m e
     have:=hm.1 k e'
     lia
  subst e;rw[NC (List.Perm.cons_inv p) hm.2 hk.2]
def LZ(ns:List Int):wu:=.list (ns.map .int)
theorem sC{K:wa}{H:Hp}{l:wc}{ns:List Int}(h:H l=some (.lst (ns.map V.int))):Is K H (.ref l) (LZ ns):=cR.mpr ⟨l,_,rfl,.of h,mO.mpr rfl⟩
theorem LY(ns:List Int):Sh 2 (LZ ns):=zCB λd hd=>by
 obtain⟨n,_,rfl⟩:=wU.mp hd;exact A1 n
def BA(K:wa):List V->Hp->VK->Prop:=λxs H Q=>Ef K xs H Q \/ ∃(p tp:wc)(S T:String)(kvs:List (List Key × V))(b:Bool),xs=[.ref p,.ref tp]/\aR K H tp [.ty S,.ty T]/\H p=some (.dT kvs)/\qb K (.type "dict") [.type S,.type T]=some b/\Q (.bl b) H
theorem zr5{X:Cx} : aM X (.builtin "isinstance") (BA X.K):=by
 intro pins s σ H xs us Q I r h;rcases h with h | h
 ·exact zt8 pins s σ H xs us Q I r h
 ·obtain⟨p,tp,S,T,kvs,b,rfl,ht,hp,e,q⟩:=h
  obtain⟨u,w',rfl,rx,rt⟩:=ig r;cases (show w'=Value.ref tp from rt);cases (show u=Value.ref p from rx);obtain⟨tts,rv,⟨ot,ht1,ht2,n,ht3⟩,_⟩:=I.tuple ht;obtain⟨t1,t2,rfl,r1,r2⟩:=ig rv;cases (show t1=Value.type S from r1);cases (show t2=Value.type T from r2);obtain⟨c,dd,da,sl⟩:=ot;cases ht2;cases ht3;obtain⟨_,_,vs,_,o,es,ep,h1,h2,_⟩:=(show cM X.prog X.w H s.heap p (.dT kvs)from I.az p _ hp);exact WN qV I.bE ⟨o,h1,h2.1⟩ ht1 e (λz=>nomatch z) λtk=>⟨.bl b,H,I.tok _,rfl,q⟩
theorem zwG{K:wa}{H:Hp}{Q:VK}{p tp:wc}{kvs:List (List Key × V)}(h:H p=some (.dT kvs))(t:H tp=some (.tup [.ty "list",.ty "tuple"]))(q:Q (.bl false) H):BA K [.ref p,.ref tp] H Q :=
 .inr ⟨p,tp,"list","tuple",kvs,false,rfl,.of t,h,rfl,q⟩
abbrev zd(h:wK)(a:wc):wK:=h.push {cls:=.type "list_iterator",data:=.fields #[.ref a,.int 0 0]}
abbrev s_(h:wK)(a b:wc):wK:=(zd h a).push {cls:=.type "tuple_iterator",data:=.fields #[.ref b,.int 0 0]}
abbrev tI(h:wK)(a b:wc):wK:=(s_ h a b).push {cls:=.type "tuple",data:=.seq #[.ref h.objs.size,.ref (zd h a).objs.size]}
abbrev uT(h:wK)(a b:wc):wK:=(tI h a b).push {cls:=.type "tuple",data:=.seq #[.none,.none]}
abbrev nO(h:wK)(a b:wc):wK:=(uT h a b).push {cls:=.type "zip",data:=.fields #[.none,.bool false,.bool false,.ref (s_ h a b).objs.size,.ref (tI h a b).objs.size]}
theorem zus(a b:wc)(xs ys:Array wd):Meets (Builtin.«zip.__new__» ⟨[.type "zip",.ref a,.ref b],[]⟩) (λ_ R s=>s.heap.IsList a xs/\s.heap.IsTuple b ys/\R (.ok (.ret (.ref (uT s.heap a b).objs.size))) {s with heap:=nO s.heap a b}) :=
 .of_wp λprog w A R s h=>by
  obtain⟨hp,g,d,tk,os⟩:=s;obtain⟨ha,hb,h⟩:=h;have hsub:=sub_zip;have hA:Heap.IsList (XB ⟨hp,g,d,tk,os⟩) a xs:=ha;have hB:uv (XB ⟨hp.push {cls:=.type "list_iterator",data:=.fields #[.ref a,.int 0 0]},g,d,tk,os⟩) b ys:=Heap.IsTuple.push hb _
  wp_walk using wpAny_pyIter_list hA,VY hB
  exact⟨_,rfl,h⟩
section
variable{prog:wO}{w:wN}{A:va}{E:wd->wl->Prop}{s:wl}
theorem zvR{a b:wc}{xs ys:Array wd}{Q:wd->wl->Prop}(ha:s.heap.IsList a xs)(hb:s.heap.IsTuple b ys)
  (fin:∀h',IsZip h' (s.heap.objs.size+4) (s.heap.objs.size+2) (s.heap.objs.size+3) .none->Ve h' (s.heap.objs.size+2) (.ref s.heap.objs.size) (.ref (s.heap.objs.size+1))->Ve h' (s.heap.objs.size+3) .none .none ->
   h'.IsListIter s.heap.objs.size a 0->h'.IsTupleIter (s.heap.objs.size+1) b 0->(∀c o,s.heap.get? c=some o->h'.get? c=some o)->Q (.ref (s.heap.objs.size+4)) {s with heap:=h'}):wq (model prog w) A (call (.type "zip") [.ref a,.ref b]) Q E s:=by
 refine callType_new F.called_zip (by decide) (F.typeCall_zip_2 _ _) (F.newCall_zip_2 _ _) (λobj=>F.args_object_init_3 obj _ _) F.entry_zip_new (zus a b xs ys) ⟨ha,hb,?_⟩;have z1:(zd s.heap a).objs.size=s.heap.objs.size+1:=WV ..;have z2:(s_ s.heap a b).objs.size=s.heap.objs.size+2:=by rw[WV,z1]
 have z3:(tI s.heap a b).objs.size=s.heap.objs.size+3:=by rw[WV,z2]
 have z4:(uT s.heap a b).objs.size=s.heap.objs.size+4:=by rw[WV,z3]
 have g5:(nO s.heap a b).get? (uT s.heap a b).objs.size=some _:=wL _ rfl;have g4:(nO s.heap a b).get? (tI s.heap a b).objs.size=some _:=wn _ (wL _ rfl);have g3:(nO s.heap a b).get? (s_ s.heap a b).objs.size=some _:=wn _ (wn _ (wL _ rfl));have g2:(nO s.heap a b).get? (zd s.heap a).objs.size=some _:=wn _ (wn _ (wn _ (wL _ rfl)));have g1:(nO s.heap a b).get? s.heap.objs.size=some _:=wn _ (wn _ (wn _ (wn _ (wL _ rfl))))
 show _/\_
 rw[z2,z3,z4]at g5;rw[z1,z2]at g3;rw[z3]at g4;rw[z1]at g2;rw[z4];exact⟨⟨_,g5,rfl⟩,fin _ g5 g3 g4 ⟨_,g1,rfl,rfl⟩ ⟨_,g2,rfl,rfl⟩ λc o x=>wn _ (wn _ (wn _ (wn _ (wn _ x))))⟩
end
variable{X:Cx}
theorem zzv{elts:List Expr}{k1}{tpos p pos:Pos}{l m:Expr}{ta:TA}(hg:Gl X "zip")(hm:X.mg "zip"=none)(ha:PA X [l,m] ta)(hs:wC [l,m] X.env=[(false,eval l X.env),(false,eval m X.env)]:=by rfl)(hs2:wC [m] X.env=[(false,eval m X.env)]:=by rfl) :
  PI X (.Tuple elts k1 tpos) (.Call (.Name "zip" p) [l,m] [] pos) (LD false true X.K ta):=by
 intro pins s σ H R I h;refine Call_ (jY I hg hm Zb (Wb (au (ha pos pins s σ H _ I h) λus s1 ⟨vs,H1,I1,r1,q1⟩=>?_) (by rw[hs,hs2]) (by rw[hs2];rfl)));obtain⟨a,b,rfl,⟨xs,hq1⟩,⟨ys,hq2⟩,q⟩:=q1;obtain⟨u,v,rfl,ru,rv⟩:=ig r1;cases ru;cases rv;obtain⟨its,_,p1⟩:=I1.mH hq1;obtain⟨jts,_,p2⟩:=I1.mH hq2;have la:a<s1.heap.objs.size:=by obtain⟨o,e,_⟩:=(show s1.heap.IsList a its.toArray from p1);exact wD e
 have lb:b<s1.heap.objs.size:=by obtain⟨o,e,_⟩:=(show s1.heap.IsTuple b jts.toArray from p2);exact wD e
 exact zvR p1 p2 λh' hz hi ho t1 t2 kp=>zCK (t:=false) (u:=true) I1 la lb hz hi ho t1 t2 kp q
def DF:List V->Hp->VK->Prop:=λxs H Q=>∃i j,xs=[.int i,.int j]/\Q (.int (if i<j then j else i)) H
theorem ZH(hc:X.calm=true):aM X (.builtin "max") DF:=zwP hc
theorem zA8{i j:Int}{H:Hp}{Q:VK}(q:∀m:Int,i<=m->j<=m->(m=i\/m=j)->Q (.int m) H):DF [.int i,.int j] H Q:=⟨i,j,rfl,by
 split
 ·exact q j (by lia) (by lia) (.inr rfl)
 ·exact q i (by lia) (by lia) (.inl rfl)⟩
def ie(ex:wc)(C:wd):HO:=.ext λh=>∃oe,h.get? ex=some oe/\p8 C oe
def Sl(K:wa)(G:wd)(i:Nat)(tb:(St->XK)->TS)(th:wc->wd->TS):TS:=λD σ H=>∃W:St->XK,tb W D σ H /\ ∀σ' C o H',W σ' C o H'->vY K C G=some true /\
 ∀ex,H' ex=none->th ex C {nx:=λσ2 H2=>H2 ex=none->D.nx (σ2.set i none) (upd H2 ex (ie ex C)),rt:=D.rt,bk:=λσ2 H2=>D.bk (σ2.set i none) H2,ct:=λσ2 H2=>D.ct (σ2.set i none) H2} (σ'.set i (some (.ref ex))) H'
theorem Inv.adopt{pins pins':List (wc × Obj)}{σ σ1:St}{H H1:Hp}{s s0:wl}{ex:wc}{oe:Obj}{C:wd}(I:Inv (X.mG (X.pn++pins) ex oe) pins' σ H s)(I1:Inv X pins σ1 H1 s0)(c:p8 C oe)(hs:X.stack=X.env::X.outer)(hf:X.env.frame=some X.env.locals)
  (fresh:∀b o,s0.heap.get? b=some o->H1 b=none->b ∉ bN X.stack->b≠ex):Inv X pins σ (upd H ex (ie ex C)) s:=by
 obtain⟨he,hn,nl,nf,nc⟩:=I.pin (ex,oe) (Wd _ (vd _ (wY.mpr rfl)));have J:=Inv.rZ I1.ok I;have ne:∀b u,H b=some u->b≠ex:=λb u e z=>by subst z;rw[hn]at e;cases e
 have nfr:∀b,b∈bN X.stack->b≠ex:=λb hb z=>by
  subst z;rw[hs]at hb;unfold bN at hb;rw[qy,hf]at hb;rcases wz.mp hb with z | z
  ·exact nl z
  ·exact nf z
 refine⟨I1.ok,J.os,J.bare,⟨J.base.keep,J.base.slot,λb u e z hx=>?_,J.base.there,λb xs q=>?_,λb o xs q=>?_,λb ps q=>?_⟩,J.loc,J.cell,?_,λx c' e=>?_,λp hp=>?_,λb o e=>?_,J.len⟩
 ·obtain⟨o',e1⟩:=I1.base.there b u e hx
  have z1:=I1.base.free b u e z hx
  have:b≠ex:=by
   by_cases hb:b∈bN X.stack
   ·exact nfr b hb
   ·exact fresh b o' e1 z1 hb
  rw[bV this];exact J.base.free b u e z hx
 ·have:=J.base.eU b xs q
  rw[bV (ne b _ this)];exact this
 ·have:=J.base.eF b o xs q
  rw[bV (ne b _ this)];exact this
 ·obtain⟨ms,this⟩:=J.base.eV b ps q
  exact⟨ms,by rw[bV (ne b _ this)];exact this⟩
 ·rw[bV (WC nl)];exact J.free
 ·have:c'≠ex:=λz=>by
   subst z;obtain⟨v,o,e1,e2⟩:=J.cell x _ e;have:(some oe:Option Obj)=some o:=he.symm.trans e1;cases this;exact nc v e2
  rw[bV this];exact J.eS x c' e
 ·obtain⟨a1,a2,a3,a4,a5⟩:=J.pin p hp
  obtain⟨b1,b2,b3,b4,b5⟩:=I1.pin p hp
  have:p.1≠ex:=by
   by_cases hb:p.1∈bN X.stack
   ·exact nfr _ hb
   ·exact fresh _ _ b1 b2 hb
  exact⟨a1,by rw[bV this];exact a2,a3,a4,a5⟩
 ·by_cases hb:b=ex
  ·subst hb
   rw[bW]at e;cases e;exact⟨⟨oe,he,c⟩,⟨oe,he⟩,λh1 h2 ⟨o1,z1,z2⟩ k=>⟨o1,k o1 z1,z2⟩⟩
  ·rw[bV hb]at e
   exact(J.az b o e).gX (λ_ _ _ q=>q) (λc q=>by rw[bV (gv q hn)];exact q) λc xs q=>by rw[bV (gv q hn)];exact q
section
variable{X:Cx}{x n:Str}{G:wd}{i:Nat}{b₀ : wJ}{body suite:List wJ}{np hpos pos:Pos}{tb:(St->XK)->TS}{th:wc->wd->TS}
theorem L8(hs:X.stack=X.env::X.outer)(hf:X.env.frame=some X.env.locals)(hN:X.N.Nodup)(hi:X.N[i]? = some n)(hl:X.env.scope.names.lookup n=some .local)(hg:Gl X x)(hG:X.mg x=some G)
  (hb:∀(W:St->XK)(pn:List (wc × Obj))(E':wd->wl->Prop),zO (bQ X.prog X.w) (X.at pn E') W->dG (X.at pn E') body (tb W))
  (hh:∀(pn:List (wc × Obj))(ex:wc)(C:wd)(oe:Obj),p8 C oe->dG (X.mG pn ex oe) (b₀ :: suite) (th ex C)) (hdb:(x == ("__debug__" : Str))=false:=by decide) :
  PS X (.Try body [.ExceptHandler (some (.Name x np)) (some n) (b₀ :: suite) hpos] [] [] pos) (Sl X.K G i tb th):=by
 intro pins s σ H D I h;obtain⟨W,hB,hH⟩:=h;refine wpAny_Try_except ?_;have I':=I.Km λe s1=>∃σ1 H1 s0,Inv X pins σ1 H1 s0/\bQ X.prog X.w X.stack H1 s0 (W σ1) e s1
 have key:=hb W (X.pn++pins) (λe s1=>∃σ1 H1 s0,Inv X pins σ1 H1 s0/\bQ X.prog X.w X.stack H1 s0 (W σ1) e s1) (λpins1 σ1 H1 s0 e s1 I1 q=>⟨σ1,H1,s0,I1.kZ,q⟩) [] s σ H D I' hB;refine vH key (λf s1 hq=>?_) λe s1 he=>?_
 ·cases f with
  | next=>obtain⟨σ',H',J,q⟩:=hq;exact VW ⟨σ',H',J.kZ,q⟩
  | brk=>obtain⟨σ',H',J,q⟩:=hq;exact⟨σ',H',J.kZ,q⟩
  | cont=>obtain⟨σ',H',J,q⟩:=hq;exact⟨σ',H',J.kZ,q⟩
  | ret u=>obtain⟨v,σ',H',J,r,q⟩:=hq;exact⟨v,σ',H',J.kZ,r,q⟩
 obtain⟨σ1,H1,s0,I1,ex,C,H',B,rfl,os,bare,un,az,F,ov,q⟩:=he;obtain⟨hm,hS⟩:=hH σ1 C none H' q;have hfs:∀b∈bN X.stack,H1 b=none /\ ∃o,s0.heap.get? b=some o /\ ∀vs,o.data≠.fields vs:=λb hb=>⟨I1.oy b hb,(I1.stack.mem hb).2⟩
 have hfr:=I.ok.frames.trans (congrArg some hs)
 have hex:H' ex=none:=by
  obtain⟨_,_,_,_,_,_,_,_,_,_,_,_,_,be,_⟩:=F;cases z:H' ex with
  | none=>rfl
  | some o =>
   obtain⟨u,e1⟩:=ov.fA ex o z;rw[be]at e1;cases e1
 have fresh:∀b o,s0.heap.get? b=some o->H1 b=none->b ∉ bN X.stack->b≠ex:=λb o e z nf q=>by
  obtain⟨_,_,_,_,_,_,_,_,_,_,_,_,_,be,_⟩:=F;subst q;rw[ov.old b o e z nf]at be;cases be
 have st1:=F.st;rw[hs]at F
 have exc:∀{h4:wK},bS B (X.env::X.outer) ex C .none h4->s1.heap.UpToSlots h4->∃oe,h4.get? ex=some oe/\p8 C oe/\Inv (X.mG (X.pn++pins) ex oe) [] σ1 H' {s1 with heap:=h4}:=λ{h4} F4 sm=>by
  have J:Inv X pins σ1 H' {s1 with heap:=h4}:=I1.Ax (s':={s1 with heap:=h4}) (ch:=[]) os (ov.un un hfs F4.st sm) (ov.az az st1 F4.st) bare (λ_ z=>nomatch z);obtain⟨_,_,oe,vs,T,oT,ts,he,hc,hd,h1,h2,hdi,_⟩:=F4;refine⟨oe,he,⟨hc,⟨vs,hd,h2⟩,hdi⟩,J.YJ he hex (λz=>?_) (λz=>?_) λv z=>?_⟩
  ·obtain⟨m,⟨o,es,ep,ho,hdd,_⟩,_⟩:=J.loc
   rw[<- z]at ho;have:(some oe:Option Obj)=some o:=he.symm.trans ho;cases this;rw[hd]at hdd;cases hdd
  ·obtain⟨_,o,ho,nr⟩:=J.dC.mem z
   have:(some oe:Option Obj)=some o:=he.symm.trans ho;cases this;exact nr vs hd
  ·rw[hd]at z;cases z
 refine F.note hfr hf λh2 F2 sm2=>F2.land λh3 F3 sm3=>?_
 obtain⟨oe3,g3,x3,K3⟩:=exc F3 (sm2.trans sm3);refine wpAny_handleBy_cons (codeAny_handlers_test (nH K3 hg hG ?_ hdb)) (by intro z;cases z);have LT:QU (model X.prog X.w) h3 (typeOf (.ref ex)) C:=x3.cls ▸ (uJ g3).andThen .now;refine(PySem.W.exm_one (h:=h3) K3.bE LT hm).here ?_;refine codeAny_handlers_suite_as ?_;refine F3.land λh4 F4 sm4=>?_
 obtain⟨oe,g4,x4,K4⟩:=exc F4 ((sm2.trans sm3).trans sm4);refine ny (X:=X.mG (X.pn++pins) ex oe) K4 hN hi (.inl hl) (v:=.ref ex) rfl (λs5 K5=>?_) (.inr hl);refine vH (hh _ ex C oe x4 [] s5 _ H' _ K5 (hS ex hex)) (λf s6 h6=>?_) λ_ _ z=>z.elim
 show wq (model X.prog X.w) X.A (do bindName X.env n .none;unbindBehindTheSuite X.env n hpos) _ _ _
 cases f with
 | next=>obtain⟨σ',H6,J,q6⟩:=h6;exact(J.adopt I1 x4 hs hf fresh).gone hN hi hl λs7 J7=>⟨_,_,J7,q6 (J.pin (ex,oe) (Wd _ (vd _ (wY.mpr rfl)))).2.1⟩
 | brk=>obtain⟨σ',H6,J,q6⟩:=h6;exact(J.rZ I.ok).gone hN hi hl λs7 J7=>⟨_,H6,J7,q6⟩
 | cont=>obtain⟨σ',H6,J,q6⟩:=h6;exact(J.rZ I.ok).gone hN hi hl λs7 J7=>⟨_,H6,J7,q6⟩
 | ret u=>obtain⟨v,σ',H6,J,r,q6⟩:=h6;exact(J.rZ I.ok).gone hN hi hl λs7 J7=>⟨v,_,H6,J7,r,q6⟩
end
def gL(K:wa):List V->Hp->VK->Prop:=λxs H Q=>∃(ex C':wc)(b:Bool),H ex=some (ie ex (.ref C'))/\cU K C' /\
 ((∃D,xs=[.ref ex,.ref D]/\wf K (.ref C') (.ref D)=some b)\/(∃T,xs=[.ref ex,.ty T]/\wf K (.ref C') (.type T)=some b) \/
  ∃(tp:wc)(cs:List wc),xs=[.ref ex,.ref tp]/\aR K H tp (cs.map V.ref)/\qb K (.ref C') (cs.map Value.ref)=some b)/\Q (.bl b) H
theorem SE:∀{cs:List wc}{us:List wd},aE (cs.map V.ref) us->us=cs.map Value.ref
 | [],_,.nil=>rfl
 | c::cs,_,.cons r1 r2=>by rw[SE r2,wE,show _=Value.ref c from r1]
theorem kM{X:Cx} : aM X (.builtin "isinstance") (gL X.K):=by
 intro pins s σ H xs us Q I r h;obtain⟨ex,C',b,hx,c,h,q⟩:=h;obtain⟨⟨oe,e,oc⟩,_,_⟩:=I.az ex _ hx;obtain⟨vs,d,_⟩:=oc.fld;have J:Qz s.heap ex oe C' none:=⟨e,oc.cls,by unfold PySem.W.notCls;rw[d],by rw[oc.dict];trivial⟩;have fin:∀tk,EP X pins σ Q (.bool b) {s with toks:=tk}:=λtk=>⟨.bl b,H,I.tok _,rfl,q⟩
 rcases h with⟨D,rfl,k⟩ | ⟨T,rfl,k⟩ | ⟨tp,cs,rfl,ht,k⟩
 ·obtain⟨u,w',rfl,rx,rt⟩:=ig r
  cases (show u=Value.ref ex from rx);cases (show w'=Value.ref D from rt);exact WB (A5 c) I.bE J k (λz=>nomatch z) fin
 ·obtain⟨u,w',rfl,rx,rt⟩:=ig r
  cases (show u=Value.ref ex from rx);cases (show w'=Value.type T from rt);exact WB (A5 c) I.bE J k (λz=>nomatch z) fin
 ·obtain⟨u,w',rfl,rx,rt⟩:=ig r
  cases (show u=Value.ref ex from rx);cases (show w'=Value.ref tp from rt);obtain⟨its,rv,⟨ot,ht1,ht2,n,ht3⟩,_⟩:=I.tuple ht;have:=SE rv;subst this;obtain⟨cl,dd,da,sl⟩:=ot;cases ht2;cases ht3;exact WN (A5 c) I.bE J ht1 k (λz=>nomatch z) fin
section
variable{K:wa}{G:wd}{i:Nat}{tb:(St->XK)->TS}{th:wc->wd->TS}{D:ck}{σ : St}{H:Hp}{Q:VK}{ex C' tp:wc}{b:Bool}{cs:List wc}
theorem Nv(W:St->XK)(h:tb W D σ H) (k:∀σ' C o H',W σ' C o H'->vY K C G=some true /\
  ∀ex,H' ex=none->th ex C {nx:=λσ2 H2=>H2 ex=none->D.nx (σ2.set i none) (upd H2 ex (ie ex C)),rt:=D.rt,bk:=λσ2 H2=>D.bk (σ2.set i none) H2,ct:=λσ2 H2=>D.ct (σ2.set i none) H2} (σ'.set i (some (.ref ex))) H'):Sl K G i tb th D σ H:=⟨W,h,k⟩
theorem mT{D':wc}(h:H ex=some (ie ex (.ref C')))(c:cU K C')(k:wf K (.ref C') (.ref D')=some b)(q:Q (.bl b) H):gL K [.ref ex,.ref D'] H Q:=⟨ex,C',b,h,c,.inl ⟨D',rfl,k⟩,q⟩
theorem zv9{T:String}(h:H ex=some (ie ex (.ref C')))(c:cU K C')(k:wf K (.ref C') (.type T)=some b)(q:Q (.bl b) H):gL K [.ref ex,.ty T] H Q:=⟨ex,C',b,h,c,.inr (.inl ⟨T,rfl,k⟩),q⟩
theorem KL:∀{cs:List wc},(∀c∈cs,wf K (.ref C') (.ref c)=some false)->qb K (.ref C') (cs.map Value.ref)=some false
 | [],_=>rfl
 | c::cs,h=>by
  rw[wE,qb,h c (wV ..)];exact KL λc hc=>h c (wx _ hc)
theorem zwA(h:H ex=some (ie ex (.ref C')))(c:cU K C')(t:aR K H tp (cs.map V.ref))(k:∀c∈cs,wf K (.ref C') (.ref c)=some false)(q:Q (.bl false) H):gL K [.ref ex,.ref tp] H Q:=⟨ex,C',false,h,c,.inr (.inr ⟨tp,cs,rfl,t,KL k⟩),q⟩
end
theorem sf{n:Nat}(h:n<1000000):n.log2<=20:=by
 by_cases h0:n=0
 ·rw[h0];decide
 ·have:=(XA h0 (k:=20)).mpr (by have e:(2:Nat)^20=1048576:=(by decide);omega)
  omega
section
variable{K:wa}{H:Hp}{Q:VK}{v:V}{d:wu}{x y:Str}
end
theorem rB:∀{ts:List Str}{us:List wd},aE (ts.map V.str) us->∃l:List (Str × Tok),us=strValues l/\l.map (·.1)=ts
 | [],us,h=>by
  cases h;exact⟨[],rfl,rfl⟩
 | t::ts,us,h=>by
  cases h with
  | cons r rr =>
   obtain⟨tk,rfl⟩:=r;obtain⟨l,e1,e2⟩:=rB rr;exact⟨(t,tk)::l,by rw[e1];rfl,by rw[wE,e2]⟩
section
variable{K:wa}{H H':Hp}{Q:VK}{D:ck}{σ : St}{g:TG}{tb:TS}{ta td ty:TE}{tA:TA}{v:V}{d:wu}{a:wc}{kvs:List (Key × V)}{x:Str}{i:Int}{xs:List V}
theorem fE{R:Prop}(q:R):mq K "str" (.str x) H/\R:=⟨rfl,q⟩
end
variable{n:Nat}{X:Cx}
def c9(ds:List Nat):Nat:=ds.foldl (λacc d=>acc*10+d) 0
def a_(n:Nat):List Nat:=if h:n<10 then [n]else a_ (n / 10)++[n % 10]
termination_by n
decreasing_by omega
theorem gF(h:n<10):a_ n=[n]:=by rw[a_,dif_pos h]
theorem kc(h:10<=n):a_ n=a_ (n / 10)++[n % 10]:=by rw[a_,dif_neg (by omega)]
theorem O0 :∀d,d<10->(Nat.digitChar d).toNat=48+d:=by decide
theorem Y_(n:Nat):(Nat.toDigits 10 n).map Char.toNat=(a_ n).map (48 + ·):=by
 induction n using qE with
 | ind n ih =>
  by_cases h:n<10
  ·rw[Nat.toDigits_of_lt_base h,gF h,wE,WQ,O0 n h]
   rfl
  ·rw[Nat.toDigits_of_base_le (by decide) (by omega),kc (by omega),vJ,vJ,ih (n / 10) (by omega),wE,WQ,O0 _ (by omega)]
   rfl
theorem mU(n:Nat):a_ n≠[]:=by
 by_cases h:n<10
 ·rw[gF h];simp
 ·rw[kc (by omega)];simp
theorem oS(n:Nat):∀d∈a_ n,d<10:=by
 induction n using qE with
 | ind n ih =>
  intro d hd
  by_cases h:n<10
  ·rw[gF h,wY]at hd;omega
  ·rw[kc (by omega),vR,wY]at hd
   rcases hd with z | z
   ·exact ih _ (by omega) d z
   ·omega
theorem DH(n:Nat):c9 (a_ n)=n:=by
 induction n using qE with
 | ind n ih =>
  by_cases h:n<10
  ·rw[gF h];simp[c9]
  ·rw[kc (by omega)]
   unfold c9;rw[qU];have:=ih (n / 10) (by omega);unfold c9 at this;rw[this]
   show n / 10*10+n % 10=n
   omega
theorem zxs{l m:List Nat}(h:l≠[]):(l++m).head? = l.head?:=by
 cases l with
 | nil=>exact absurd rfl h
 | cons a l=>rfl
theorem Mq{α β : Type}{f : α -> β}(hf:∀a b,f a=f b->a=b):∀{l m:List α},l.map f=m.map f->l=m
 | [],[],_=>rfl
 | [],_::_,h=>by simp at h
 | _::_,[],h=>by simp at h
 | a::l,b::m,h=>by
  rw[wE,wE]at h;rw[hf _ _ (qp h).1,Mq hf (qp h).2]
theorem Rn(n:Nat):(a_ n).head? = some 0->n=0:=by
 induction n using qE with
 | ind n ih =>
  intro hz
  by_cases h:n<10
  ·rw[gF h]at hz
   simpa using hz
  ·rw[kc (by omega),zxs (mU _)]at hz
   have:=ih (n / 10) (by omega) hz;omega
theorem Nf(n:Nat)(h:(a_ n).head? = some 0):(a_ n).length=1:=by
 rw[Rn n h,gF (by decide)];rfl
theorem Ec{k:Nat}(hk:1<=k)(h:n<10^k):(a_ n).length<=k:=by
 induction k generalizing n with
 | zero=>omega
 | succ k ih =>
  by_cases z:n<10
  ·rw[gF z];simp
  ·rw[kc (by omega),vc,WD]
   have hk1:1<=k:=by
    rcases Nat.eq_zero_or_pos k with e | e
    ·subst e;simp at h;omega
    ·exact e
   have:=ih hk1 (n:=n / 10) (by rw[xa]at h;omega);omega
def aX(n:Nat):Str:=⟨((a_ n).map (48 + ·)).toArray⟩
theorem AM(n:Nat):WY (toString (n:Int))=aX n:=by
 have e:toString (n:Int)=toString n:=rfl;rw[e,V1,Nat.toString_eq_ofList_toDigits];unfold aX;rw[String.toList_ofList,Y_]
def fY(c:Nat):List (List Nat)->List Nat
 | []=>[]
 | [x]=>x
 | x::y::r=>x++c::fY c (y::r)
theorem A7(c:Nat):∀ts:List Str,(qj ⟨#[c]⟩ ts).cps.toList=fY c (ts.map λt=>t.cps.toList)
 | []=>rfl
 | [x]=>rfl
 | x::y::r=>by
  have ih:=A7 c (y::r)
  show(x++⟨#[c]⟩++qj ⟨#[c]⟩ (y::r)).cps.toList=_
  show(x.cps ++ #[c]++(qj ⟨#[c]⟩ (y::r)).cps).toList=_
  rw[Qx,Qx,ih];simp[fY]
theorem yJ{c:Nat} : ∀{a b x y:List Nat},c ∉ a->c ∉ b->a++c::x=b++c::y->a=b/\x=y
 | [],[],x,y,_,_,h=>⟨rfl,by simpa using h⟩
 | [],b::bs,x,y,_,hb,h=>by
  have:c=b:=by simpa using (qp h).1
  exact absurd (by rw[this];simp) hb
 | a::as,[],x,y,ha,_,h=>by
  have:a=c:=by simpa using (qp h).1
  exact absurd (by rw[this];simp) ha
 | a::as,b::bs,x,y,ha,hb,h=>by
  have h1:=(qp h).1;have h2:as++c::x=bs++c::y:=(qp h).2;have:=yJ (λz=>ha (wx _ z)) (λz=>hb (wx _ z)) h2;exact⟨by rw[h1,this.1],this.2⟩
theorem Rv{c:Nat} : ∀{xs ys:List (List Nat)},xs≠[]->ys≠[]->(∀x∈xs,c ∉ x)->(∀y∈ys,c ∉ y)->fY c xs=fY c ys->xs=ys
 | [],_,h,_,_,_,_=>absurd rfl h
 | _,[],_,h,_,_,_=>absurd rfl h
 | [x],[y],_,_,_,_,h=>by rw[show x=y from h]
 | [x],y::z::r,_,_,hx,_,h=>by
  have h:x=y++c::fY c (z::r):=h;exact absurd (by rw[h];simp) (hx x (by simp))
 | x::z::r,[y],_,_,_,hy,h=>by
  have h:x++c::fY c (z::r)=y:=h;exact absurd (by rw[<- h];simp) (hy y (by simp))
 | x::z::r,y::w::s,_,_,hx,hy,h=>by
  have h:x++c::fY c (z::r)=y++c::fY c (w::s):=h;obtain⟨h1,h2⟩:=yJ (hx x (by simp)) (hy y (by simp)) h;rw[h1,Rv (by simp) (by simp) (λv hv=>hx v (wx _ hv)) (λv hv=>hy v (wx _ hv)) h2]
theorem lW(x y:Str):wF x y≠[]:=by
 unfold wF
 split
 ·simp
 ·split
  ·simp
  ·rw[ua]
   obtain⟨p,r,e⟩:=ur x y.length 0 (Wm x y 0 x.length (x.length+1));rw[e];simp
theorem A9{c:Nat}{ts:List Str}(ne:ts≠[])(h:∀t∈ts,c ∉ t.cps.toList):wF (qj ⟨#[c]⟩ ts) ⟨#[c]⟩=ts:=by
 have e1:=VE (qj ⟨#[c]⟩ ts) ⟨#[c]⟩;have e2:=congrArg (λs:Str=>s.cps.toList) e1;simp only[A7]at e2
 have e3:=Rv (by simpa using lW _ _) (by simpa using ne) (λx hx=>by
  obtain⟨t,ht,rfl⟩:=wU.mp hx;exact uw _ c t ht) (λx hx=>by
  obtain⟨t,ht,rfl⟩:=wU.mp hx;exact h t ht) e2
 exact Mq (λa b z=>qk (Wo.mp z)) e3
set_option maxHeartbeats 2000000
theorem Nc :typeLookup (.type "str") "__int__"=pure none:=by rw[typeLookup_type,builtinLookup_eq_fast];kernel_rfl
theorem MG :typeLookup (.type "str") "__index__"=pure none:=by rw[typeLookup_type,builtinLookup_eq_fast];kernel_rfl
theorem So :typeLookup (.type "str") "__trunc__"=pure none:=by rw[typeLookup_type,builtinLookup_eq_fast];kernel_rfl
theorem CV{α : Type}{p : α -> Bool} : ∀{l:List α},(∀c∈l,p c=true)->l.takeWhile p=l
 | [],_=>rfl
 | c::l,h=>by rw[List.takeWhile_cons,if_pos (h c (wV ..)),CV λd hd=>h d (wx _ hd)]
theorem pE{f:Array Nat × Bool->Nat->Option (Array Nat × Bool)}(hf:∀a b d,d<10->f (a,b) (48+d)=some (a.push d,true)):∀(ds:List Nat)(a:Array Nat)(b:Bool),(∀d∈ds,d<10)->List.foldlM f (a,b) (ds.map (48 + ·))=some (a++ds.toArray,b || !ds.isEmpty)
 | [],a,b,_=>by simp
 | d::ds,a,b,h=>by
  rw[wE,List.foldlM_cons,hf a b d (h d (wV ..))]
  show List.foldlM f (a.push d,true) (ds.map (48 + ·))=_
  rw[pE hf ds _ _ λe he=>h e (wx _ he)];simp
theorem MC{p:Nat->Bool}(hp:∀d,d<10->p (48+d)=false)(ds:List Nat)(h:∀d∈ds,d<10)(pre:List Nat)(ne:ds≠[]):((pre++ds.map (48 + ·)).reverse.dropWhile p).reverse=pre++ds.map (48 + ·):=by
 obtain⟨l,d,rfl⟩:∃l d,ds=l++[d]:=⟨ds.dropLast,ds.getLast ne,(List.dropLast_concat_getLast ne).symm⟩;rw[vJ,wE,WQ,<- Vo,List.reverse_append,List.reverse_singleton,List.singleton_append,xZ,hp d (h d (by simp))];simp
theorem AG :∀d,d<10->(48+d == 32 || decide (9<=48+d)&&decide (48+d<=13))=false:=by decide
theorem zoi(x:Str)(u:Tok)(ds:List Nat)(ne:ds≠[])(hd:∀d∈ds,d<10)(hlead:ds.head? = some 0->ds.length=1)(hx:x.cps.toList=ds.map (48 + ·))(hl:ds.length<=640) :
  Meets (Builtin.«int.__new__» ⟨[.type "int",.str x u],[]⟩) (Made.int (c9 ds)).spec :=
 uE λprog w A R s hs=>by
  have hasc:x.cps.all (· < 128)=true:=by
   rw[<- VF,hx,wH];intro c hc;obtain⟨d,h1,rfl⟩:=wU.mp hc;have:=hd d h1;exact decide_eq_true (by omega)
  have h0:∀c∈ds.map (48 + ·),(c != 0)=true:=λc hc=>by
   obtain⟨d,h1,rfl⟩:=wU.mp hc;simp
  obtain⟨hp,g,d,tk,os⟩:=s;have f1:=F.conv_sub_int;have f2:=F.madeHere_int;have f3:=Nc;have f4:=MG;have f5:=So
  iterate 48 (any_goals(first | assumption | wp_step))
  show wq _ _ (pure (some (if(x.cps.all λx=>decide (x<128))=true then x.cps.toList else Xk x.cps.toList))) _ _ _
  rw[if_pos hasc,hx];refine wA ?_;dsimp only
  k_delta "intFromText"
  have hseen:(ds.map (48 + ·)).takeWhile (λc=>c != 0)=ds.map (48 + ·):=CV h0;dsimp only;rw[hseen,if_pos (by rw[we];exact hl)];refine wj (wA ?_)
  show wq _ _ _ _ _ _
  k_delta "readNumeral"
  k_delta "isBlank"
  k_delta "prefixBase?"
  k_delta "numeralDigits?"
  k_delta "digitValue?"
  have hdw:QD (λc=>c == 32 || decide (9<=c)&&decide (c<=13)) (ds.map (48 + ·))=ds.map (48 + ·):=by
   cases ds with
   | nil=>rfl
   | cons d ds=>rw[wE,xZ,AG d (hd d (wV ..))];rfl
  rw[hdw];have hbr:=MC (p:=λc=>c == 32 || decide (9<=c)&&decide (c<=13)) AG ds hd [] ne;rw[Qp]at hbr;cases ds with
  | nil=>exact absurd rfl ne
  | cons d0 bF =>
   have hd0:=hd d0 (wV ..);have hsz:¬ ((#[]++(d0::bF).toArray).size > 6000):=by simp;simp at hl;omega
   have fin:wq (model prog w) A.in1 (mkInt ((c9 (d0::bF):Nat):Int)) (λa s'=>wq (model prog w) A.in1 (ret a) (λfin s'=>∃v,fin=Fin.done (Flow.ret v)/\R (Except.ok (Flow.ret v)) s') (λe s'=>R (Except.error e) s') s') (λe s'=>R (Except.error e) s') {heap:=hp,gens:=g,drawn:=d,toks:=tk,os:=os}:=by
    repeat(any_goals(first | assumption | wp_step))
    exact⟨_,rfl,hs⟩
   have hval:uF (λacc d=>acc*10+d) 0 (#[]++(d0::bF).toArray)=c9 (d0::bF):=by simp[c9]
   have hbr2:((QD (λc=>c == 32 || decide (9<=c)&&decide (c<=13)) ((48+d0)::bF.map (48 + ·)).reverse).reverse)=(d0::bF).map (48 + ·):=hbr;clear h0 hx hasc hseen hdw hs f1 f2 f3 f4 f5 hbr;rw[wE]
   by_cases hz:d0=0
   ·have hr:bF=[]:=by
     have:=hlead (by rw[hz];rfl);cases bF with
     | nil=>rfl
     | cons _ _=>simp at this
    subst hr hz;dsimp only[QV]at hbr2 ⊢;simp only[beq_iff_eq,Qg,xg,We,if_false,ite_false,WQ]at hbr2 ⊢;rw[hbr2,pE ?hf [0] #[] false hd]
    case hf =>
     intro a b d h;rcases (show d=0\/d=1\/d=2\/d=3\/d=4\/d=5\/d=6\/d=7\/d=8\/d=9 by omega)with rfl | rfl | rfl | rfl | rfl | rfl | rfl | rfl | rfl | rfl<;>rfl
    simp only[qA,VD,qX,V8,xh,if_true,if_pos,bne_self_eq_false,Wr,w8,We,if_false,decide_eq_false hsz,Wr];rw[hval];exact fin
   ·rcases (show d0=1\/d0=2\/d0=3\/d0=4\/d0=5\/d0=6\/d0=7\/d0=8\/d0=9 by omega)with rfl | rfl | rfl | rfl | rfl | rfl | rfl | rfl | rfl
    all_goals
     dsimp only[QV]at hbr2 ⊢;simp only[beq_iff_eq,Qg,xg,We,if_false,ite_false];rw[hbr2,pE ?hf _ #[] false hd]
     case hf =>
      intro a b d h;rcases (show d=0\/d=1\/d=2\/d=3\/d=4\/d=5\/d=6\/d=7\/d=8\/d=9 by omega)with rfl | rfl | rfl | rfl | rfl | rfl | rfl | rfl | rfl | rfl<;>rfl
     simp only[qA,VD,qX,V8,xh,if_true,if_pos,bne_self_eq_false,Wr,w8,We,if_false,decide_eq_false hsz,Wr];rw[hval];exact fin
theorem zzi{prog:wO}{w:wN}{A:va}{E:wd->wl->Prop}{s:wl}{x y:Str}{t u:Tok}{Q:wd->wl->Prop}(hy:(y.length == 0)=false)
  (hq:∀(l:List (Str × Tok))(h':wK)(k c:Nat),l.map (·.1)=wF x y->(∀b o,s.heap.get? b=some o->h'.get? b=some o)->h'.get? s.heap.objs.size=some {cls:=.type "list",dict:=none,data:=.seq (strValues l).toArray c,slots:=#[]}->Q (.ref s.heap.objs.size) {s with heap:=h',toks:=k})
  (hsz:x.length<=wr) (hsz2:(wF x y).length<=wr) :
  wq (model prog w) A (call (.builtin "str.split") [.str x t,.str y u]) Q E s:=by
 cases h1:(decide (x.length<y.length) || decide (x5 x<x5 y))
 ·cases hf:(Wm x y 0 x.length (x.length+1)).isEmpty
  ·refine Vt xi (qm _ _ _) Q5 (QM _ _) (meets_str_split_sep x y t u h1 hy hf hsz (by unfold wF at hsz2;rw[if_neg (ne_true_of_eq_false h1),if_neg (ne_true_of_eq_false hf)]at hsz2;exact hsz2)) ?_
   show wants Q E _ {s with toks:=_,heap:=s.heap.push {cls:=.type "list",data:=.seq (strsFrom s.toks (Builtin.Str.partsBetween x (Wm x y 0 x.length (x.length+1)) y.length)).toArray}}
   rw[strsFrom_eq];exact hq (numbered s.toks _) _ _ _ ((numbered_texts _ _).trans ((if_neg (ne_true_of_eq_false h1)).trans (if_neg (ne_true_of_eq_false hf))).symm) (λb o e=>wn _ e) (wL _ rfl)
  ·exact Vt xi (qm _ _ _) Q5 (QM _ _) (meets_str_split_not_found x y t u h1 hy hf)
    (hq [(x,t)] _ s.toks _ ((if_neg (ne_true_of_eq_false h1)).trans (if_pos hf)).symm (λb o e=>wn _ e) (wL _ rfl))
 ·exact Vt xi (qm _ _ _) Q5 (QM _ _) (meets_str_split_cannot_occur x y t u h1)
   (hq [(x,t)] _ s.toks _ (if_pos h1).symm (λb o e=>wn _ e) (wL _ rfl))
theorem PD:∀l:List (Str × Tok),aE ((l.map (·.1)).map V.str) (strValues l)
 | []=>.nil
 | (x,t)::l=>.cons ⟨t,rfl⟩ (PD l)
def iT:V->List V->Hp->VK->Prop:=λx vs H Q=>∃(s y:Str),x=.str s/\vs=[.str y]/\(y.length == 0)=false/\s.length<=wr/\(wF s y).length<=wr /\ ∀l,H l=none->Q (.ref l) (upd H l (.lst ((wF s y).map V.str)))
theorem lJ : cf X "str.split" iT:=by
 intro pins s σ H x vs v us Q I rx rv h;obtain⟨z,y,rfl,rfl,hy,h1,h2,q⟩:=h;obtain⟨t,rfl⟩:=rx;obtain⟨u,rfl,ru⟩:=rv.one;obtain⟨t2,rfl⟩:=ru;refine zzi hy (λl h' k c hl kp e=>?_) h1 h2;refine⟨.ref s.heap.objs.size,_,I.laid (t':=k) kp (wo _) (show cM X.prog X.w _ h' _ (.lst ((wF z y).map V.str))from⟨by rw[we];exact h2,strValues l,c,?_,e⟩),rfl,q _ (I.az.fresh (wo _))⟩;rw[<- hl];exact PD l
def j6:List V->Hp->VK->Prop:=λxs H Q=>∃n:Nat,xs=[.str (aX n)]/\(a_ n).length<=640/\Q (.int (n:Int)) H
theorem sy : aM X (.type "int") j6:=by
 intro pins s σ H xs us Q I r h;obtain⟨n,rfl,hl,q⟩:=h;obtain⟨u,rfl,rx⟩:=gj r;obtain⟨t,rfl⟩:=rx;have g:=zoi (aX n) t (a_ n) (mU n) (oS n) (Nf n) (by simp[aX]) hl;rw[DH]at g;exact call_int_1 g (show(Made.int (n:Int)).post _ s from⟨rfl,⟨.int (n:Int),H,I.tok _,⟨_,rfl⟩,q⟩⟩)
def CU(x:Str):It where
 go:=λi _=>i<x.length
 fB:=λi H v H'=>H'=H /\ ∃c,x.cps[i]? = some c/\v=.str ⟨#[c]⟩
 stop:=λi _=>x.length<=i
theorem zxY{P:wO}{w:wN}{K:wa}{tg:Expr}(x:Str)(t:Tok)(it:wc):gU P w K tg (CU x) [it] it (λi h=>h.IsStrIter it "str_ascii_iterator" x t i) where
 mem:=by simp
 obj:=λi h st b hb=>by
  have e:b=it:=by simpa using hb
  subst e;obtain⟨o,e,c,d⟩:=st;exact⟨o,e,λv z=>by rw[d]at z;cases z⟩
 keep:=λi h h' st k=>by
  obtain⟨o,e,c,d⟩:=st;exact⟨o,k it (by simp) o e,c,d⟩
 item:=by
  intro X hP hw hK hc i pins s σ H E I hf st hg;subst hP hw hK;have hg:i<x.cps.size:=hg;obtain⟨f0,f1,f2,f3,f4,f5⟩:=hf it (by simp);refine wpAny_pyNext_ascii_item st (c:=x.cps[i]) (by simp[hg]) λh' st' sb=>?_
  have I1:Inv X pins σ H {s with heap:=h',toks:=s.toks+1}:=I.turned (t':=s.toks+1) (λb o hb e=>(sb.2 b hb).trans e) f0 f1 f3 f4 f5;obtain⟨o,e,c,d⟩:=id st';exact⟨_,rfl,zk (s:={s with heap:=h',toks:=s.toks+1}) e c d (by decide) ⟨.str ⟨#[x.cps[i]]⟩,H,I1,⟨_,rfl⟩,⟨rfl,_,by simp[hg],rfl⟩,st',λb hb=>(hf b hb).1⟩⟩
 done:=by
  intro X hP hw hK hc i pins s σ H E I hf st hg;subst hP hw hK;have hg:x.cps.size<=i:=hg;obtain⟨f0,f1,f2,f3,f4,f5⟩:=hf it (by simp);exact wpAny_pyNext_ascii_end (I.ok.hd hc) st (by simp;omega) λh' eb=>⟨rfl,I.turned (t':=s.toks) (λb o hb e=>eb b o hb e) f0 f1 f3 f4 f5⟩
 self:=λ_ _ _ _ _ st h=>wpAny_pyIter_striter_ascii st h
def Su(ta:TE):TI:=λσ H R=>ta σ H λv H1=>∃x:Str,v=.str x/\x.cps.all (· < 128)=true/\R (CU x) H1
theorem YU{tg l:Expr}{ta:TE}(hl:PE X l ta):PI X tg l (Su ta):=by
 intro pins s σ H R I h;refine au (hl pins s σ H _ I h) λv s1 ⟨y,H1,I1,r1,q1⟩=>?_
 obtain⟨x,rfl,ha,q⟩:=q1;obtain⟨t,rfl⟩:=r1;refine wpAny_pyIter_ascii ha ?_;refine⟨s1.heap.objs.size,[s1.heap.objs.size],_,_,H1,rfl,I1.kept (t':=s1.toks) λb o e=>wn _ e,zxY x t _,⟨_,wL _ rfl,rfl,rfl⟩,λb hb=>?_,q⟩;have e:b=s1.heap.objs.size:=by simpa using hb
 subst e;exact I1.g6 (wo _) (I1.az.fresh (wo _))
def SM(g:TG)(tt:TT)(te:TE)(src:List (Option Nat))(σ : St)(v:V)(H1:Hp)(Q:VK):Prop :=
 ∃x:Str,v=.str x/\x.cps.all (· < 128)=true /\ ∀D,H1 D=none->iM g tt te (CU x) D (c7 src σ) (upd H1 D (.lst [])) (λH'=>Q (.ref D) H')
section
variable{K:wa}{g:TG}{tt:TT}{te ta:TE}{src:List (Option Nat)}{σ : St}{H:Hp}{Q:VK}
theorem ztc(h:ta σ H λx H1=>SM g tt te src σ x H1 Q):iV src (Su ta) g tt te σ H Q:=h
theorem zt5{x:Str}(ha:x.cps.all (· < 128)=true)(Pv:wc->Nat->List V->St->Hp->Prop)(h0:∀D H',H D=none->ae H H'->H' D=some (.lst [])->Pv D 0 [] (c7 src σ) H')
  (hs:∀D (i:Nat) c ys σ' H',x.cps[i]? = some c->Pv D i ys σ' H'->hR Pv g tt te D i (.str ⟨#[c]⟩) σ' H') (hd:∀D ys σ' H',Pv D x.length ys σ' H'->Q (.ref D) H'):SM g tt te src σ (.str x) H Q:=by
 refine⟨x,rfl,ha,λD hD=>zP (N:=x.length) Pv (λi v=>∃c,x.cps[i]? = some c/\v=.str ⟨#[c]⟩) (h0 D _ hD (ae.upd hD) bW) (λi ys σ' H' hp hi=>hi) (λi ys σ' H' hp hi=>hi) (λi ys σ' H' v H2 hp hy=>⟨hy.1,hy.2⟩)
  (λi v ys σ' H' hi hit hp=>?_) (hd D)⟩
 obtain⟨c,hc,rfl⟩:=hit;exact hs D i c ys σ' H' hc hp
end
def TJ:=St->Hp->Str->(Str->Hp->Prop)->Prop
def PJ(X:Cx)(es:List Expr)(tj:TJ):Prop:=∀(pins:List (wc × Obj))(s:wl)(σ : St)(H:Hp)(Q:VK)(acc:Str),Inv X pins σ H s->tj σ H acc (λout H1=>Q (.str out) H1) ->
 Joins (model X.prog X.w) X.A X.xe (evalEach es X.env) acc (λout s1=>out.length<=wr/\EP X pins σ Q (.str out s1.toks) {s1 with toks:=s1.toks+1}) s
def Pt:TJ:=λσ H acc Q=>acc.length<=wr/\Q acc H
def Mp(x:Str)(tj:TJ):TJ:=λσ H acc Q=>(acc++x).length<=wr/\tj σ H (acc++x) Q
def Mv(te:TE)(tj:TJ):TJ:=λσ H acc Q=>te σ H λv H1=>∃y:Str,v=.str y/\y.length<=wr/\(acc++y).length<=wr/\tj σ H1 (acc++y) Q
def RJ(tj:TJ):TE:=λσ H Q=>tj σ H Qh (λout H1=>Q (.str out) H1)
section
variable{X:Cx}{es:List Expr}{e v1 v2:Expr}{te:TE}{tj:TJ}{pos pp:Pos}{x:Str}
theorem Bq:PJ X [] Pt:=λpins s σ H Q acc I h=>⟨h.1,.str acc,H,I.tok _,⟨_,rfl⟩,h.2⟩
theorem yr{j}(h:PJ X es tj):PJ X (.Constant (.str x) j pos::es) (Mp x tj):=by
 intro pins s σ H Q acc I q
 show wq _ _ (eval (.Constant (.str x) j pos) X.env) _ _ s
 exact VP ⟨x,_,rfl,q.1,h pins _ σ H Q (acc++x) (I.tok _) q.2⟩
theorem nz(he:PE X e te)(h:PJ X es tj):PJ X (.FormattedValue e (-1) none pos::es) (Mv te tj):=by
 intro pins s σ H Q acc I q
 show wq _ _ (eval (.FormattedValue e (-1) none pos) X.env) _ _ s
 refine wpAny_FormattedValue_plain (au (he pins s σ H _ I q) λv s1 ⟨y,H1,I1,r1,q1⟩=>?_);obtain⟨z,rfl,hz,hl,q⟩:=q1;obtain⟨t,rfl⟩:=r1;exact wpAny_formatField_str ⟨z,_,rfl,hl,h pins _ σ H1 Q (acc++z) I1 q⟩ ⟨z,_,rfl,hl,h pins _ σ H1 Q (acc++z) (I1.tok _) q⟩ hz
theorem EU(h:PJ X (v1::v2::es) tj):PE X (.JoinedStr (v1::v2::es) pos) (RJ tj):=λpins s σ H Q I q=>wpAny_JoinedStr (h pins s σ H Q Qh I q)
end
section
variable{σ : St}{H:Hp}{Q:VK}{QS:Str->Hp->Prop}{te:TE}{tj:TJ}{acc x y:Str}
theorem A3(h:tj σ H Qh (λout H1=>Q (.str out) H1)):RJ tj σ H Q:=h
theorem w_(h1:(acc++x).length<=wr)(h:tj σ H (acc++x) QS):Mp x tj σ H acc QS:=⟨h1,h⟩
theorem mZ(h:te σ H λv H1=>∃y:Str,v=.str y/\y.length<=wr/\(acc++y).length<=wr/\tj σ H1 (acc++y) QS):Mv te tj σ H acc QS:=h
theorem EE(h1:acc.length<=wr)(h:QS acc H):Pt σ H acc QS:=⟨h1,h⟩
end
variable{X:Cx}
def rz:List V->Hp->VK->Prop:=λxs H Q=>∃z:Str,xs=[.str z]/\z.length<=wr/\Q (.int z.length) H
theorem Dr : aM X (.builtin "len") rz:=Y1
def gn:List V->Hp->VK->Prop:=λxs H Q=>∃i:Int,xs=[.int i]/\i.natAbs.log2<1920/\Q (.str (toString i)) H
theorem iZ : aM X (.type "str") gn:=ZE
def Fi:R2:=λx y H Q=>∃i j:Str,x=.str i/\y=.str j/\Q (.bl (!(Wm j i 0 j.length 1).isEmpty)) H
theorem zCA : aY X (vk .In) Fi:=zwm
def dr(K:wa):V->List V->Hp->VK->Prop:=λx vs H Q=>∃(sep:Str)(l:wc)(ts:List Str)(B:Nat),x=.str sep/\vs=[.ref l]/\aI K H l (ts.map V.str)/\(∀y∈ts,y.length<=B)/\ts.length*B+ts.length*sep.length<=16777216/\Q (.str (qj sep ts)) H
theorem fe : cf X "str.join" (dr X.K):=by
 intro pins s σ H x vs v us Q I rx rv h;obtain⟨sep,l,ts,B,rfl,rfl,hl,hB,hz,q⟩:=h;obtain⟨tk,rfl⟩:=rx;obtain⟨u,rfl,ru⟩:=rv.one;cases ru;obtain⟨its,r,p,_⟩:=I.list hl;obtain⟨lt,rfl,e2⟩:=rB r;refine SC.join p.isList e2 ?_ (λt' k=>⟨.str _,H,I.tok _,⟨_,rfl⟩,?_⟩)
 ·unfold JoinOk
  rw[StrLaws.joinFits hB hz]
  rfl
 ·rw[show Txt.join sep ts=qj sep ts from xD sep ts]
  exact q
section
variable{K:wa}{H H':Hp}{Q:VK}{a:wc}{x y:Str}{ts:List Str}{n:Nat}{i:Int}
theorem pI{B:Nat}(h:aI K H a (ts.map V.str))(hB:∀y∈ts,y.length<=B)(hz:ts.length*B+ts.length*x.length<=16777216)(q:Q (.str (qj x ts)) H):dr K (.str x) [.ref a] H Q:=⟨x,a,ts,B,rfl,rfl,h,hB,hz,q⟩
theorem lP(hy:(y.length == 0)=false)(h1:x.length<=wr)(h2:(wF x y).length<=wr)(q:∀l H',H l=none->ae H H'->H' l=some (.lst ((wF x y).map V.str))->Q (.ref l) H'):iT (.str x) [.str y] H Q :=
 ⟨x,y,rfl,rfl,hy,h1,h2,λl hl=>q l _ hl (ae.upd hl) bW⟩
theorem Bo(hl:(a_ n).length<=640)(q:Q (.int (n:Int)) H):j6 [.str (aX n)] H Q:=⟨n,rfl,hl,q⟩
theorem j2(h:i.natAbs.log2<1920)(q:Q (.str (toString i)) H):gn [.int i] H Q:=⟨i,rfl,h,q⟩
theorem En(h:x.length<=wr)(q:Q (.int x.length) H):rz [.str x] H Q:=⟨x,rfl,h,q⟩
theorem zCm(q:Q (.bl (!(Wm y x 0 y.length 1).isEmpty)) H):Fi (.str x) (.str y) H Q:=⟨x,y,rfl,rfl,q⟩
theorem jF(hx:vM x=true)(hy:vM y=true)(q:Q (.bl (x == y)) H):jd K (.str x) (.str y) H Q :=
 Bl (d:=.str x) (e:=.str y) (cP.mpr rfl) (cP.mpr rfl) (by simp[vU,vK,Vd,hx]) (by simp[vU,vK,Vd,hy]) (by rw[Wa];exact q)
theorem kF(hx:vM x=true)(hy:vM y=true)(q:Q (.bl (!(x == y))) H):lV K (.str x) (.str y) H Q :=
 Np (d:=.str x) (e:=.str y) (cP.mpr rfl) (cP.mpr rfl) (by simp[vU,vK,Vd,hx]) (by simp[vU,vK,Vd,hy]) (by rw[Wa];exact q)
end
def jS:Str:=⟨#[48,49,50,51,52,53,54,55,56,57]⟩
end L2
namespace L2
open PySem PySem.Spec PyProof.Rows GM
open PySem.StrLaws PySem.Builtin PySem.Builtin.Str
variable{x:Str}{c:Nat}{X:Cx}
theorem df(x y:Str):(x++y).cps.toList=x.cps.toList++y.cps.toList:=by
 show(x.cps++y.cps).toList=_
 simp
theorem zv8(h:c ∉ x.cps.toList):vA x ⟨#[c]⟩=(x,Qh,Qh):=by
 unfold vA;rcases xj x ⟨#[c]⟩ 1 (wo 1)with⟨h0,hn⟩ | ⟨i,r,h0,hi,hn⟩
 ·rw[h0]
 ·exact absurd (vx ((subAt_one x c i).mp hi)) h
theorem zzC{a b:Str}(h:c ∉ a.cps.toList):vA (a++⟨#[c]⟩++b) ⟨#[c]⟩=(a,⟨#[c]⟩,b):=by
 have hx:(a++⟨#[c]⟩++b).cps.toList=a.cps.toList++(c::b.cps.toList):=by rw[df,df];simp
 have hl:(a++⟨#[c]⟩++b).length=(a++⟨#[c]⟩++b).cps.toList.length:=by simp[Str.length]
 have hat:StrLaws.At (a++⟨#[c]⟩++b) ⟨#[c]⟩ (a++⟨#[c]⟩++b).length a.cps.toList.length:=(subAt_one _ c _).mpr (by rw[hx];simp);unfold vA;rcases xj (a++⟨#[c]⟩++b) ⟨#[c]⟩ 1 (wo 1)with⟨h0,hn⟩ | ⟨i,r,h0,hi,hn⟩
 ·exact absurd hat (hn _)
 ·have e:i=a.cps.toList.length:=by
   rcases Nat.lt_trichotomy i a.cps.toList.length with z | z | z
   ·have:=(subAt_one _ c i).mp hi
    rw[hx,Ww z]at this;exact absurd (vx this) h
   ·exact z
   ·exact absurd hat (hn _ z)
  subst e;rw[h0]
  show(strSub _ 0 _,_,strSub _ _ _)=_
  congr 1
  ·refine qk (Wo.mp ?_)
   rw[strSub_toList,hx];simp
  ·congr 1
   refine qk (Wo.mp ?_);rw[strSub_toList,hl,hx];have e2:((⟨#[c]⟩:Str)).length=1:=rfl;rw[e2,show a.cps.toList++c::b.cps.toList=(a.cps.toList++[c])++b.cps.toList by simp,show a.cps.toList.length+1=(a.cps.toList++[c]).length by simp,List.drop_left,xC];simp only[vc];omega
theorem Pr : vD x ⟨#[c]⟩=decide (x.cps.toList[0]? = some c):=by
 have:=subAt_one x c 0;rw[Wy,decide_eq_true_eq,<- this];unfold vD
 show _ ↔ (_/\_)
 rw[wy,decide_eq_true_eq]
theorem Z6 : sliceText (⟨#[c]⟩++x) (some 1) none=x:=by
 rw[sliceText_from ⟨by decide,by rw[df];simp;omega⟩];refine qk (Wo.mp ?_);rw[df];simp;exact xC (by simp)
def du(z:Int):Str:=if z<0 then⟨#[45]⟩++aX z.natAbs else aX z.natAbs
theorem ky(z:Int):WY (toString z)=du z:=by
 cases z with
 | ofNat n =>
  unfold du;rw[if_neg (by simp)];exact AM n
 | negSucc n =>
  unfold du;rw[if_pos (Int.negSucc_lt_zero n)];have e:toString (Int.negSucc n)="-"++toString (n+1):=rfl;have e2:=AM (n+1);have e3:toString ((n+1:Nat):Int)=toString (n+1):=rfl;rw[e3]at e2;rw[e]
  show _=_++aX (n+1)
  rw[<- e2,V1,V1];refine qk (Wo.mp ?_);rw[df,String.toList_append];simp
def aP(r:Rat):Str:=if r.den=1 then du r.num else du r.num++⟨#[47]⟩++aX r.den
theorem yf{n:Nat}(h:c<48):c ∉ (aX n).cps.toList:=by
 intro hc;unfold aX at hc;simp only[wU]at hc;obtain⟨d,_,e⟩:=hc;omega
theorem Fe{n:Nat}(h:57<c):c ∉ (aX n).cps.toList:=by
 intro hc;unfold aX at hc;simp only[wU]at hc;obtain⟨d,hd,e⟩:=hc;have:=oS n d hd;omega
theorem Ci{e:Nat}(h:c≠e):c ∉ (⟨#[e]⟩:Str).cps.toList:=by simp[h]
theorem uW{y:Str}(h1:c ∉ x.cps.toList)(h2:c ∉ y.cps.toList):c ∉ (x++y).cps.toList:=by
 rw[df,vR];exact λz=>z.elim h1 h2
theorem Ex{z:Int}(h:c<48/\c≠45\/57<c):c ∉ (du z).cps.toList:=by
 have hn:c ∉ (aX z.natAbs).cps.toList:=by
  rcases h with h | h
  ·exact yf h.1
  ·exact Fe h
 unfold du
 split
 ·exact uW (Ci (by omega)) hn
 ·exact hn
theorem Eo{r:Rat}(h:c<45\/57<c):c ∉ (aP r).cps.toList:=by
 have hn:c ∉ (aX r.den).cps.toList:=by
  rcases h with h | h
  ·exact yf (by omega)
  ·exact Fe h
 unfold aP
 split
 ·exact Ex (by omega)
 ·exact uW (uW (Ex (by omega)) (Ci (by omega))) hn
theorem zoj(x:Str)(u:Tok)(ds:List Nat)(ne:ds≠[])(hd:∀d∈ds,d<10)(hlead:ds.head? = some 0->ds.length=1)(hx:x.cps.toList=45::ds.map (48 + ·))(hl:ds.length<=639) :
  Meets (Builtin.«int.__new__» ⟨[.type "int",.str x u],[]⟩) (Made.int (-(c9 ds:Int))).spec :=
 uE λprog w A R s hs=>by
  have hasc:x.cps.all (· < 128)=true:=by
   rw[<- VF,hx,wH];intro c hc;rcases wz.mp hc with rfl | hc
   ·rfl
   obtain⟨d,h1,rfl⟩:=wU.mp hc;have:=hd d h1;exact decide_eq_true (by omega)
  have h0:∀c∈45::ds.map (48 + ·),(c != 0)=true:=λc hc=>by
   rcases wz.mp hc with rfl | hc
   ·rfl
   obtain⟨d,h1,rfl⟩:=wU.mp hc;simp
  obtain⟨hp,g,d,tk,os⟩:=s;have f1:=F.conv_sub_int;have f2:=F.madeHere_int;have f3:=Nc;have f4:=MG;have f5:=So
  iterate 48 (any_goals(first | assumption | wp_step))
  show wq _ _ (pure (some (if(x.cps.all λx=>decide (x<128))=true then x.cps.toList else Xk x.cps.toList))) _ _ _
  rw[if_pos hasc,hx];refine wA ?_;dsimp only
  k_delta "intFromText"
  have hseen:(45::ds.map (48 + ·)).takeWhile (λc=>c != 0)=45::ds.map (48 + ·):=CV h0;dsimp only;rw[hseen,if_pos (by rw[wQ,we];omega)];refine wj (wA ?_)
  show wq _ _ _ _ _ _
  k_delta "readNumeral"
  k_delta "isBlank"
  k_delta "prefixBase?"
  k_delta "numeralDigits?"
  k_delta "digitValue?"
  have hdw:QD (λc=>c == 32 || decide (9<=c)&&decide (c<=13)) (45::ds.map (48 + ·))=45::ds.map (48 + ·):=rfl;rw[hdw];have hbr:=MC (p:=λc=>c == 32 || decide (9<=c)&&decide (c<=13)) AG ds hd [] ne;rw[Qp]at hbr;cases ds with
  | nil=>exact absurd rfl ne
  | cons d0 bF =>
   have hd0:=hd d0 (wV ..);have hsz:¬ ((#[]++(d0::bF).toArray).size > 6000):=by simp;simp at hl;omega
   have fin:wq (model prog w) A.in1 (mkInt (-((c9 (d0::bF):Nat):Int))) (λa s'=>wq (model prog w) A.in1 (ret a) (λfin s'=>∃v,fin=Fin.done (Flow.ret v)/\R (Except.ok (Flow.ret v)) s') (λe s'=>R (Except.error e) s') s') (λe s'=>R (Except.error e) s') {heap:=hp,gens:=g,drawn:=d,toks:=tk,os:=os}:=by
    repeat(any_goals(first | assumption | wp_step))
    exact⟨_,rfl,hs⟩
   have hval:uF (λacc d=>acc*10+d) 0 (#[]++(d0::bF).toArray)=c9 (d0::bF):=by simp[c9]
   have hbr2:((QD (λc=>c == 32 || decide (9<=c)&&decide (c<=13)) ((48+d0)::bF.map (48 + ·)).reverse).reverse)=(d0::bF).map (48 + ·):=hbr;clear h0 hx hasc hseen hdw hs f1 f2 f3 f4 f5 hbr;rw[wE]
   by_cases hz:d0=0
   ·have hr:bF=[]:=by
     have:=hlead (by rw[hz];rfl);cases bF with
     | nil=>rfl
     | cons _ _=>simp at this
    subst hr hz;dsimp only[QV]at hbr2 ⊢;simp only[beq_iff_eq,Qg,xg,We,if_false,ite_false,WQ]at hbr2 ⊢;rw[hbr2,pE ?hf [0] #[] false hd]
    case hf =>
     intro a b d h;rcases (show d=0\/d=1\/d=2\/d=3\/d=4\/d=5\/d=6\/d=7\/d=8\/d=9 by omega)with rfl | rfl | rfl | rfl | rfl | rfl | rfl | rfl | rfl | rfl<;>rfl
    simp only[qA,VD,qX,V8,xh,if_true,if_pos,bne_self_eq_false,Wr,w8,We,if_false,decide_eq_false hsz,Wr];rw[hval];exact fin
   ·rcases (show d0=1\/d0=2\/d0=3\/d0=4\/d0=5\/d0=6\/d0=7\/d0=8\/d0=9 by omega)with rfl | rfl | rfl | rfl | rfl | rfl | rfl | rfl | rfl
    all_goals
     dsimp only[QV]at hbr2 ⊢;simp only[beq_iff_eq,Qg,xg,We,if_false,ite_false];rw[hbr2,pE ?hf _ #[] false hd]
     case hf =>
      intro a b d h;rcases (show d=0\/d=1\/d=2\/d=3\/d=4\/d=5\/d=6\/d=7\/d=8\/d=9 by omega)with rfl | rfl | rfl | rfl | rfl | rfl | rfl | rfl | rfl | rfl<;>rfl
     simp only[qA,VD,qX,V8,xh,if_true,if_pos,bne_self_eq_false,Wr,w8,We,if_false,decide_eq_false hsz,Wr];rw[hval];exact fin
def uQ:V->List V->Hp->VK->Prop:=λx vs H Q=>∃(s y:Str),x=.str s/\vs=[.str y]/\(y.length == 0)=false/\s.length<=wr /\ ∀l,H l=none->Q (.ref l) (upd H l (.tup [.str (vA s y).1,.str (vA s y).2.1,.str (vA s y).2.2]))
theorem Lf : cf X "str.partition" uQ:=by
 intro pins s σ H x vs v us Q I rx rv h;obtain⟨z,y,rfl,rfl,hy,h1,q⟩:=h;obtain⟨t,rfl⟩:=rx;obtain⟨u,rfl,ru⟩:=rv.one;obtain⟨t2,rfl⟩:=ru;refine Vt F.slot_str_partition (qm _ _ _) F.entry_str_partition (F.args_str_partition_2 _ _) (meets_str_partition z y t t2 hy h1) ?_;unfold vA at q
 revert q
 cases occurrences z y 0 z.length 1 with
 | nil =>
  intro q;refine⟨.ref s.heap.objs.size,_,I.laid (t':=s.toks+1) (λb ob q=>wn _ q) (wo _) ?_,rfl,q _ (I.az.fresh (wo _))⟩;exact⟨by show 3<=wr;decide,_,.cons ⟨_,rfl⟩ (.cons ⟨_,rfl⟩ (.cons ⟨_,rfl⟩ .nil)),qd _ _⟩
 | cons i r =>
  intro q;refine⟨.ref s.heap.objs.size,_,I.laid (t':=s.toks+1+1) (λb ob q=>wn _ q) (wo _) ?_,rfl,q _ (I.az.fresh (wo _))⟩;exact⟨by show 3<=wr;decide,_,.cons ⟨_,rfl⟩ (.cons ⟨_,rfl⟩ (.cons ⟨_,rfl⟩ .nil)),qd _ _⟩
def Bs:V->List V->Hp->VK->Prop:=λx vs H Q=>∃(s y:Str),x=.str s/\vs=[.str y]/\Q (.bl (vD s y)) H
theorem zwi : cf X "str.startswith" Bs:=by
 intro pins s σ H x vs v us Q I rx rv h;obtain⟨z,y,rfl,rfl,q⟩:=h;obtain⟨t,rfl⟩:=rx;obtain⟨u,rfl,ru⟩:=rv.one;obtain⟨t2,rfl⟩:=ru;exact SC.startswith ⟨.bl _,H,I,rfl,q⟩
def sh(K:wa):V->Option Int->Option Int->Hp->VK->Prop:=λx lo hi H Q=>pL K x lo hi H Q \/ ∃s:Str,x=.str s/\s.length<=wr/\Q (.str (sliceText s lo hi)) H
theorem LX : ic X (sh X.K):=by
 refine eB.or ?_;intro pins s σ H x v vl vu lo hi sl Q I rx hs pl pu h;obtain⟨z,rfl,hz,q⟩:=h;obtain⟨t,rfl⟩:=rx;refine⟨"str",_,F.slot_str_getitem.lookup,qm _ _ _,?_⟩
 have key:∀l u:Option (Int × Tok),vl=partValue l->vu=partValue u->lo=l.map (·.1)->hi=u.map (·.1)->wq (model X.prog X.w) X.A (getItem (.str z t) (.ref sl)) (EP X pins σ Q) X.xe s:=by
  intro l u e1 e2 e3 e4;subst e1 e2 e3 e4;refine wpAny_getItem_str_slice (l:=l) (u:=u) (st:=none) hs rfl ?_;have hle:(sliceText z (l.map (·.1)) (u.map (·.1))).length<=z.length:=Txt.slice_le z _ _;unfold sliceMade;unfold sliceText at q hle;unfold slicePicked
  split
  ·rename_i hc
   have hc:((1:Int) == 1&&(strSliceIndices (l.map (·.1)) (u.map (·.1)) 1 z.length).length == z.length)=true:=hc;rw[if_pos hc]at q;exact⟨.str z,H,I,⟨_,rfl⟩,q⟩
  ·rename_i hc
   have hc:¬ ((1:Int) == 1&&(strSliceIndices (l.map (·.1)) (u.map (·.1)) 1 z.length).length == z.length)=true:=hc;rw[if_neg hc]at q hle;exact⟨w5 hle hz,.str _,H,I.tok _,⟨_,rfl⟩,q⟩
 cases pl with
 | none=>cases pu with
  | none=>exact key none none rfl rfl rfl rfl
  | int j tj=>exact key none (some (j,tj)) rfl rfl rfl rfl
 | int i ti=>cases pu with
  | none=>exact key (some (i,ti)) none rfl rfl rfl rfl
  | int j tj=>exact key (some (i,ti)) (some (j,tj)) rfl rfl rfl rfl
section
variable{K:wa}{H H':Hp}{Q:VK}{a:wc}{x y:Str}{xs:List V}{z:Int}{lo hi:Option Int}
theorem AE{p1 p2 p3:Str}(hy:(y.length == 0)=false)(h1:x.length<=wr)(e:vA x y=(p1,p2,p3))(q:∀l H',H l=none->ae H H'->H' l=some (.tup [.str p1,.str p2,.str p3])->Q (.ref l) H'):uQ (.str x) [.str y] H Q :=
 ⟨x,y,rfl,rfl,hy,h1,λl hl=>by rw[e];exact q l _ hl (ae.upd hl) bW⟩
theorem zwv(q:Q (.bl (vD x y)) H):Bs (.str x) [.str y] H Q:=⟨x,y,rfl,rfl,q⟩
theorem zC5(h:x.length<=wr)(q:Q (.str (sliceText x lo hi)) H):sh K (.str x) lo hi H Q:=.inr ⟨x,rfl,h,q⟩
end
def oN:List V->Hp->VK->Prop:=λxs H Q=>∃(g:Bool)(n:Nat),xs=[.str (if g then⟨#[45]⟩++aX n else aX n)]/\(a_ n).length<=639/\Q (.int (if g then -(n:Int)else n)) H
theorem OK{X:Cx} : aM X (.type "int") oN:=by
 intro pins s σ H xs us Q I r h;obtain⟨g,n,rfl,hl,q⟩:=h;cases g with
 | true =>
  obtain⟨u,rfl,rx⟩:=gj r;obtain⟨t,rfl⟩:=rx;have g:=zoj (⟨#[45]⟩++aX n) t (a_ n) (mU _) (oS _) (Nf _) (by rw[df];simp[aX]) hl;rw[DH]at g;exact call_int_1 g (show(Made.int (-(n:Int))).post _ s from⟨rfl,⟨.int (-(n:Int)),H,I.tok _,⟨_,rfl⟩,q⟩⟩)
 | false=>exact sy pins s σ H _ us Q I r ⟨n,rfl,by omega,q⟩
theorem zwS{x:wd}{env env':Env}(h:env'.frame=env.frame):Vv x env'=Vv x env:=by
 unfold Vv PySem.frameOf;rw[h]
section
variable{M:Model}{A:va}{E:wd->wl->Prop}{s:wl}{B h h':wK}{l outer:List Env}{env:Env}{L e:wc}{cls fl:wd}{Q:Unit->wl->Prop}
theorem bS.Kf(F:bS B (env::outer) e cls fl s.heap)(hfr:A.frames=some (env::outer))(hf:env.frame=some L)
  (k:∀h',bS B (env::outer) e cls (Vq L) h'->s.heap.UpToSlots h'->Q () {s with heap:=h'}):wq M A (Vv (.ref e) env) Q E s:=by
 have F0:=F;obtain⟨st,fr,oe,vs,T,oT,ts,he,hc,hd,h1,h2,hdi,be,bT,ne,hT,dT,h3⟩:=F;subst hc;unfold Vv;simp only[hf];refine wj (vy he hd h1 ?_);rw[if_pos (by simp)];refine wj (vy hT dT h3 ?_)
 by_cases hfl:fl=Vq L
 ·subst hfl
  rw[if_pos (by simp)];exact wA (k s.heap F0 λb o hb _=>⟨o.slots,hb⟩)
 rw[if_neg (by simpa using hfl)];refine wj (Vx hT dT (vO.mp h3).1 ?_);refine DL hfr hf (λb o q=>?_) (fr.of_keeps λb o hb hn=>⟨o,?_,rfl⟩) ?_ hd (vO.mp h1).1 h2 hdi be λh' F' sm=>k h' F' λb o hb hn=>sm b o ?_ hn
 ·show(V0 _ _ _).get? b=_
  rw[gQ (oU bT q)];exact st b o q
 ·show(V0 _ _ _).get? b=_
  rw[gQ (jq hT dT hb hn)];exact hb
 ·show(V0 _ _ _).get? e=_
  rw[gQ ne.symm];exact he
 ·show(V0 _ _ _).get? b=_
  rw[gQ (jq hT dT hb hn)];exact hb
theorem bS.oX{fr:Option wc}(F:bS B l e cls fl s.heap)(k:∀h' fl',bS B l e cls fl' h'->s.heap.UpToSlots h'->(fr=none->fl'=.none)->Q () {s with heap:=h'}):wq M A (setFlight (.ref e) fr) Q E s:=by
 obtain⟨st,bN,oe,vs,T,oT,ts,he,hc,hd,h1,h2,hdi,be,bT,ne,hT,dT,h3⟩:=F;have sz:3<ts.size:=(vO.mp h3).1;unfold setFlight;refine wj (vy he hd h1 ?_);rw[if_pos (by simp)];generalize hv:(fr.elim Value.none λf=>Vq f)=v;have at3:∀b,b≠T->(s.heap.update T (Vl (·.setIfInBounds 3 v))).get? b=s.heap.get? b:=λb n=>gQ n
 have tr:C9 (s.heap.update T (Vl (·.setIfInBounds 3 v))) B e cls v :=
  ⟨oe,vs,T,Vl (·.setIfInBounds 3 v) oT,ts.setIfInBounds 3 v,(at3 e ne.symm).trans he,hc,hd,h1,h2,hdi,be,bT,ne,
   Vh _ hT (Vi (WW dT _)),WW dT _,by simp[sz]⟩
 refine Vx hT dT sz (k _ v ⟨λb o q=>(at3 b (oU bT q)).trans (st b o q),bN.of_keeps λb o hb hn=>⟨o,(at3 b (jq hT dT hb hn)).trans hb,rfl⟩,tr⟩ (λb o hb hn=>⟨o.slots,(at3 b (jq hT dT hb hn)).trans hb⟩) λz=>?_);rw[<- hv,z];rfl
theorem bS.YC(F:bS B (env::outer) e cls fl s.heap)(hfr:A.frames=some (env::outer))(hf:env.frame=some L)
  (k:∀h',bS B outer e cls .none h'->s.heap.UpToSlots h'->Q () {s with heap:=h'}):wq M A (leaving env (.ref e)) Q E s:=by
 unfold leaving;refine wj (F.Kf hfr hf λh1 F1 s1=>bS.land F1 λh2 F2 s2=>k h2 ⟨F2.st,F2.fr.2.2,F2.tr⟩ (s1.trans s2))
theorem bS.YF{α : Type}{what:String}{cenv:Env}{Q : α -> wl->Prop}(F:bS B l e cls fl s.heap)(k:∀h' fl',bS B l e cls fl' h'->s.heap.UpToSlots h'->E (.ref e) {s with heap:=h'}):wq M A (uz what (.ref e) cenv) Q E s:=by
 have F0:=F;obtain⟨st,fr,oe,vs,T,oT,ts,he,hc,hd,h1,h2,hdi,be,bT,ne,hT,dT,h3⟩:=F;unfold uz;refine wj (vy he hd h1 ?_);rw[if_neg (by simp)];exact wj (F0.oX λh' fl' F' sm _=>wpAny_throw (k h' fl' F' sm))
theorem NV{B':wK} : ∀{l:List Env},h.FunFrames B l->(∀b,B.get? b=none->h'.get? b=h.get? b/\B'.get? b=none)->h'.FunFrames B' l
 | [],_,_=>trivial
 | _::_,⟨k,⟨L,o,e1,e2,e3,e4⟩,r⟩,f=>⟨k,⟨L,o,e1,(f L e2).2,(f L e2).1.trans e3,e4⟩,NV r f⟩
theorem bS.but{C:wc}{oC:Obj}(F:bS B l e cls fl h)(hC:B.get? C=some oC)(sb:vW C h h'):bS (Vg B [C]) l e cls fl h':=by
 obtain⟨st,fr,oe,vs,T,oT,ts,he,hc,hd,h1,h2,hdi,be,bT,ne,hT,dT,h3⟩:=F
 have nn:∀b,B.get? b=none->h'.get? b=h.get? b/\(Vg B [C]).get? b=none:=λb hb=>by
  refine⟨sb.2 b (λz=>by rw[z,hC]at hb;cases hb),?_⟩;cases q:(Vg B [C]).get? b with
  | none=>rfl
  | some o=>rw[VO _ q]at hb;cases hb
 refine⟨λb o q=>?_,NV fr nn,oe,vs,T,oT,ts,(nn e be).1.trans he,hc,hd,h1,h2,hdi,(nn e be).2,(nn T bT).2,ne,(nn T bT).1.trans hT,dT,h3⟩
 have nb:b≠C:=λz=>by
  rw[z,xG _ (by simp)]at q;cases q
 rw[sb.2 b nb];exact st b o (VO _ q)
end
def CX2(P:wO)(w:wN)(C0:wc):dI:=λouter H s E e s'=>∃(ex:wc)(C:wd)(H':Hp)(B:wK)(fl:wd),e=.ref ex/\s'.os=s.os/\VL s'.gens/\Un (bN outer) [C0] H H' s.heap s'.heap/\cB P w H' s'.heap /\
 bS B outer ex C fl s'.heap/\iD B (C0::bN outer) H H' s.heap/\E C none H'
section
variable{X:Cx}{pins:List (wc × Obj)}{σ : St}{H H':Hp}{s s':wl}{B:wK}{ex C0:wc}{C:wd}{E:XK}{E':wd->wl->Prop}
theorem zrj(I:Inv X pins σ H s)(hx:X.ex=[])(h0:X.s₀.heap.objs.size<=C0)(os:s'.os=s.os)(bare:VL s'.gens)(un:Un (bN X.stack) [C0] H H' s.heap s'.heap)(az:cB X.prog X.w H' s'.heap)(stB:B.StaysIn s'.heap)(ov:iD B (C0::bN X.stack) H H' s.heap)
  (q:E C none H') (oX:∀(Q:Unit->wl->Prop),(∀h',bS B X.outer ex C .none h'->s'.heap.UpToSlots h'->Q () {s' with heap:=h'})->wq (model X.prog X.w) X.A (leaving X.env (.ref ex)) Q E' s') :
  wq (model X.prog X.w) X.A (leaving X.env (.ref ex)) (λ_ s''=>bQ X.prog X.w X.outer X.H₀ X.s₀ E (.ref ex) s'') E' s':=by
 have base:Un X.fs [] X.H₀ H X.s₀.heap s.heap:=by have:=I.base;rwa[hx]at this
 have nc:∀b o,X.s₀.heap.get? b=some o->b ∉ [C0]:=λb o e z=>by
  rw[wY.mp z]at e;exact Vk _ (wX (wD e) h0)
 have nL:∀b o,X.s₀.heap.get? b=some o->b ∉ X.fs->b ∉ C0::bN X.stack:=λb o e n z=>by
  rcases wz.mp z with z | z
  ·exact nc b o e (wY.mpr z)
  rcases wz.mp (I.jy b z)with r | r
  ·exact wS (wX (wD e) I.ok.above) r
  ·exact n r
 have old:∀b o,X.s₀.heap.get? b=some o->X.H₀ b=none->b ∉ X.fs->B.get? b=some o:=λb o e n nf =>
  ov.old b o (base.keep b o e n nf (by simp)) (base.free b o e n (by simp)) (nL b o e nf)
 have iC:∀b o,X.s₀.heap.get? b=some o->b ∉ X.fs->∃u,B.get? b=some u:=λb o e nf=>by
  obtain⟨o',e1⟩:=base.there b o e (by simp);exact ov.iC b o' e1 (nL b o e nf)
 refine oX _ λh' F sm=>⟨ex,C,H',B,rfl,os.trans I.os,bare,⟨λb o e n nf _=>F.st b o (old b o e n nf),λb o e n hb _=>?_,λb o e n _=>?_,λb o e _=>?_,λb xs e=>un.eU b xs (base.eU b xs e),
  λb o u e=>un.eF b o u (base.eF b o u e),λb ps e=>?_⟩,λa o e=>?_,F,⟨ov.fA,old,iC⟩,q⟩
 ·obtain⟨sl,e1⟩:=base.slot b o e n hb (by simp)
  obtain⟨sl',e2⟩:=un.any e1 (base.free b o e n (by simp)) (nc b o e);obtain⟨_,o',ho',nr⟩:=I.ok.dC.mem hb;rw[e]at ho';cases ho';obtain⟨sl2,e3⟩:=sm b _ e2 nr;exact⟨sl2,e3⟩
 ·obtain⟨o',e1⟩:=base.there b o e (by simp)
  exact un.free b o' e1 (base.free b o e n (by simp)) (nc b o e)
 ·by_cases hb:b∈X.fs
  ·obtain⟨_,o',ho',nr⟩:=I.ok.dC.mem hb
   rw[e]at ho';cases ho';have n:X.H₀ b=none:=I.ok.gP b hb;obtain⟨sl,e1⟩:=base.slot b o e n hb (by simp);obtain⟨sl',e2⟩:=un.any e1 (base.free b o e n (by simp)) (nc b o e);obtain⟨sl2,e3⟩:=sm b _ e2 nr;exact⟨_,e3⟩
  ·obtain⟨u,e1⟩:=iC b o e hb
   exact⟨u,F.st b u e1⟩
 ·obtain⟨m1,e1⟩:=base.eV b ps e
  obtain⟨m2,e2⟩:=un.eV b _ e1;exact⟨m1++m2,by rw[e2,QI]⟩
 ·refine(az a o e).gX (λb u hb r=>?_) (λ_ z=>z) λ_ _ z=>z
  have:∃v,B.get? b=some v:=by
   rcases hb with rfl | hb
   ·exact ov.fA _ _ e
   ·exact ov.fA _ _ hb
  obtain⟨v,ev⟩:=this;have e2:=stB b v ev;rw[r]at e2;cases e2;exact F.st b u ev
end
def zG(X:Cx)(E:XK):Prop:=∀(C0:wc)(pins:List (wc × Obj))(σ : St)(H:Hp)(s:wl)(e:wd)(s':wl),Inv X pins σ H s->X.s₀.heap.objs.size<=C0->CX2 X.prog X.w C0 X.stack H s E e s'->X.xe e s'
theorem zEh{P:wO}{w:wN}{K:wa}{mg:Str->Option wd}{base:wK}{N:List Str}{qual:Str}{scope:Scope}{f:wc}{cd:wd}{A:va}{outer:List Env}{s:wl}{H:Hp}{E:XK} :
  zG (fb (bQ P w) P w K mg base N qual scope f cd A outer s H E) E:=λC0 pins σ H1 s1 e s' I h0 h=>by
 obtain⟨ex,C,H',B,fl,rfl,os,bare,un,az,F,ov,q⟩:=h;exact zrj I rfl h0 os bare un az F.st ov q λQ k=>F.YC (I.ok.frames.trans (congrArg some rfl)) rfl k
theorem iD.but{B:wK}{fs:List wc}{H H':Hp}{h:wK}{C0:wc}(ov:iD B fs H H' h)(hC:H' C0=none):iD (Vg B [C0]) (C0::fs) H H' h:=by
 have up:∀{b u},B.get? b=some u->b≠C0->(Vg B [C0]).get? b=some u:=λe n=>Qv _ e (by simpa using n)
 refine⟨λa o e=>?_,λb o e n nf=>?_,λb o e nf=>?_⟩
 ·obtain⟨u,hu⟩:=ov.fA a o e
  exact⟨u,up hu λz=>by rw[z,hC]at e;cases e⟩
 ·exact up (ov.old b o e n λz=>nf (wx _ z)) λz=>nf (by rw[z];exact wV)
 ·obtain⟨u,hu⟩:=ov.iC b o e λz=>nf (wx _ z)
  exact⟨u,up hu λz=>nf (by rw[z];exact wV)⟩
theorem zvU{h1 h2 h3 h4:wK}{C0:wc}(a:h1.UpToSlots h2)(b:vW C0 h2 h3)(c:h3.UpToSlots h4):∀x o,x≠C0->h1.get? x=some o->(∀vs,o.data≠.fields vs)->∃sl,h4.get? x=some {o with slots:=sl}:=λx o n e nf=>by
 obtain⟨sl,e2⟩:=a x o e nf;have e3:=(b.2 x n).trans e2;obtain⟨sl2,e4⟩:=c x _ e3 nf;exact⟨sl2,e4⟩
section
variable{X:Cx}{pins pinsY:List (wc × Obj)}{σ σ':St}{H1 H₀ : Hp}{s1 s2 s₀ : wl}{N':List Str}{scope:Scope}{cl:List (Str × wc)}{C0:wc}{fp:List wc}{E:XK}{e:wd}{use:Option (wd->Sem Unit)}{Q:wd->wl->Prop}{acc:wd}
theorem ZO(hx:X.ex=[])(hs:X.stack=X.env::X.outer)(hf:X.env.frame=some X.env.locals)(px:zG X E)(J:Inv (cp X N' scope cl C0 s₀ H₀ fp pins) pinsY σ' H1 s1)(I:Inv X pins σ H1 s1)(hC:cT X pins H1 C0)
  (h:bQ X.prog X.w X.stack H1 s1 E e s2):notedBy (model X.prog X.w) X.A (compEnvC scope cl C0 X.env) (λx s'=>compPost (model X.prog X.w) X.A X.xe use Q acc C0 (.error x) s') e s2:=by
 obtain⟨ex,C,H',B,rfl,os,bare,un,az,F,ov,q⟩:=h;obtain⟨m,⟨o,es,ep,eo,d1,d2,d3⟩,_⟩:=J.loc;have eo:s1.heap.get? C0=some o:=eo;obtain⟨c0,c1,c2,c3,_,_⟩:=hC;have nfr:C0 ∉ bN X.stack:=λz=>(wz.mp (I.jy C0 z)).elim c1 c2
 have hB:B.get? C0=some o:=ov.old C0 o eo c0 nfr;have hH':H' C0=none:=un.free C0 o eo c0 (by simp)
 have h0:X.s₀.heap.objs.size<=C0:=by
  rcases c3 with z | z
  ·rw[hx]at z;cases z
  ·exact z
 have ov':=ov.but (C0:=C0) hH';unfold notedBy;rw[zwS (env:=X.env) (env':=compEnvC scope cl C0 X.env) rfl];rw[hs]at F;refine F.Kf (I.ok.frames.trans (congrArg some hs)) hf λh3 F3 sm3=>?_
 rw[<- hs]at F3;refine⟨m,⟨o,es,ep,F3.st C0 o hB,d1,d2,d3⟩,λh4 sb cenv hc=>?_⟩;have F4:=F3.but hB sb;refine bS.YF (s:={s2 with heap:=h4}) F4 λh5 fl5 F5 sm5=>?_
 have hfs:∀b∈bN X.stack,H1 b=none /\ ∃o,s1.heap.get? b=some o /\ ∀vs,o.data≠.fields vs:=λb hb=>⟨I.oy b hb,(I.stack.mem hb).2⟩
 have slot:∀b o,s1.heap.get? b=some o->b∈bN X.stack->∃sl,h5.get? b=some {o with slots:=sl}:=λb o e hb=>by
  obtain⟨n,o',ho',nr⟩:=hfs b hb;rw[e]at ho';cases ho';obtain⟨sl,e1⟩:=un.any e n (by simp);obtain⟨sl2,e2⟩:=zvU sm3 sb sm5 b _ (λz=>nfr (z ▸ hb)) e1 nr;exact⟨sl2,e2⟩
 refine px C0 pins σ H1 s1 _ _ I h0 ⟨ex,C,H',_,fl5,rfl,os,bare,⟨λb o e n nf nc=>F5.st b o (ov'.old b o e n λz=>(wz.mp z).elim (λr=>nc (wY.mpr r)) nf),λb o e _ hb _=>slot b o e hb,λb o e n _=>un.free b o e n (by simp),λb o e nc=>?_,un.eU,un.eF,un.eV⟩,ov'.az az (λb o r=>F.st b o (VO _ r)) F5.st,F5,ov',q⟩
 by_cases hb:b∈bN X.stack
 ·obtain⟨sl,e1⟩:=slot b o e hb
  exact⟨_,e1⟩
 ·obtain⟨u,e1⟩:=ov'.iC b o e λz=>(wz.mp z).elim (λr=>nc (wY.mpr r)) hb
  exact⟨u,F5.st b u e1⟩
end
section
variable{prog:wO}{w:wN}{A:va}{R:Result->wl->Prop}{s:wl}
theorem zol{elt target iter:Expr}{ifs:List Expr}{scope:Scope}{pos:Pos}{it acc:wd}{env:Env}(I:Nat->wl->Prop)
   (turn:∀n s,I n s->wq (model prog w) A (pyNext it) (λr s₁=>match r with
     | none=>R (.ok .next) s₁
     | some v=>wq (model prog w) A (VX target it v) (λ_ s₁'=>wq (model prog w) A (assign target env v) (λ_ s₂ =>
         wq (model prog w) A (forIn ifs true λc r=>if r=true then do let ok <- isTrue c env (eval c env);pure (ForInStep.yield ok)else pure (ForInStep.yield r)) (λok s₃ =>
           if ok=true then wq (model prog w) A (eval elt env) (λx s₄ =>
             wq (model prog w) A (call (.builtin "list.append") [acc,x]) (λ_ s₅=>∃m,m<n/\I m s₅) (λ_ _=>False) s₄) (notedBy (model prog w) A env λe s'=>R (.error e) s') s₃
           else ∃m,m<n/\I m s₃) (λ_ _=>False) s₂) (λ_ _=>False) s₁') (λ_ _=>False) s₁) (λ_ _=>False) s)
   (n:Nat) (h:I n s):VN (model prog w) A (.compLoop (.ListComp elt [⟨target,iter,ifs,0⟩] scope pos) 0 it acc env) R s:=by
 refine codeAny_loop rfl I (λn s hI=>?_) n h
 show wq _ A ((compTurn (.ListComp elt [⟨target,iter,ifs,0⟩] scope pos) 0 it acc env).onRaise (λx=>do Vv x env;theTreesLotGoes x)) _ _ s
 refine wpAny_noted ?_;rw[compTurn_list];refine wj (qq (wj (vH (turn n s hI) (λr s₁ h₁=>?_) λ_ _ h'=>h'.elim)));cases r with
 | none=>exact wA h₁
 | some v =>
   refine wj (vH h₁ (λ_ s₁' h₁'=>?_) λ_ _ h'=>h'.elim);refine wj (vH h₁' (λ_ s₂ h₂=>wj (vH h₂ (λok s₃ h₃=>?_) λ_ _ h'=>h'.elim)) λ_ _ h'=>h'.elim);cases ok with
   | false=>exact wA ⟨rfl,h₃⟩
   | true=>exact wj (wj (vH h₃ (λx s₄ h₄=>wj (vH h₄ (λ_ s₅ h₅=>wA (wA ⟨rfl,h₅⟩)) λ_ _ h'=>h'.elim)) λ_ _ h'=>h'))
end
section
variable{X:Cx}{pins:List (wc × Obj)}{σ : St}{H:Hp}{s:wl}{N':List Str}{scope:Scope}{cl:List (Str × wc)}{src:List (Option Nat)}{elt tgt iter:Expr}{ifs:List Expr}{pos:Pos}{wi:TI}{g:TG}{tt:TT}{te:TE}{E:XK}
theorem zuC{it:wc}{fp:List wc}{tn:Nat->wK->Prop}{J:It}{RQ:wc->Hp->Prop}{E0':wd->wl->Prop}{use:Option (wd->Sem Unit)}{Q':wd->wl->Prop}
   (hx:X.ex=[]) (hs:X.stack=X.env::X.outer) (hfm:X.env.frame=some X.env.locals) (px:zG X E)
   (TC:∀C s₀ H₀,Dc (cp X N' scope cl C s₀ H₀ fp pins) tgt J fp it tn) (ok:kA X N' scope cl src)
   (hg:∀C s₀ H₀ fp pins,PG (cp X N' scope cl C s₀ H₀ fp pins) tgt g) (ht:∀C s₀ H₀ fp pins,k_ (cp X N' scope cl C s₀ H₀ fp pins) ifs tt) (he:∀C s₀ H₀ fp pins pn E',d_ (bQ X.prog X.w) ((cp X N' scope cl C s₀ H₀ fp pins).at pn E') E->PE ((cp X N' scope cl C s₀ H₀ fp pins).at pn E') elt te)
   (I:Inv X pins σ H s) (T:gU X.prog X.w X.K tgt J fp it tn) (st:tn 0 s.heap) (hf:∀b∈fp,cT X pins H b)
   (rd:∀D,H D=none->iM g tt te J D (c7 src σ) (upd H D (.lst [])) (λH'=>RQ D H'))
   (hRR:∀D C H' s' m,Inv X pins σ H' s'->s'.heap.Ns C m->cT X pins H' C->RQ D H'->compPost (model X.prog X.w) X.A X.xe use Q' (.ref D) C (.ok .next) s') :
   wq (model X.prog X.w) X.A (newList []) (λacc s₃=>wq (model X.prog X.w) X.A (newFunctionEnv scope X.env.globals cl [] X.env.qual none .none (some X.env)) (λcenv s₄ =>
     VN (model X.prog X.w) X.A (.compStart (.ListComp elt [⟨tgt,iter,ifs,0⟩] scope pos) 0 (.ref it) acc {cenv with scope:=relabel scope X.env}) (compPost (model X.prog X.w) X.A X.xe use Q' acc cenv.locals) s₄) E0' s₃) E0' s:=by
 refine Wk ?_ (by show 0<=wr;exact Vu _);have hD:H s.heap.objs.size=none:=I.az.fresh (wo _)
 have I3:Inv X pins σ (upd H s.heap.objs.size (.lst [])) {s with heap:=s.heap.push {cls:=.type "list",data:=.seq ([]:List wd).toArray}} :=
   I.r_ (ys:=[]) (its:=[]) (t':=s.toks) .nil (Vu _)
 have old3:∀b o,s.heap.get? b=some o->(s.heap.push {cls:=.type "list",data:=.seq ([]:List wd).toArray}).get? b=some o:=λb o e=>wn _ e
 have lt0:∀b∈fp,b<s.heap.objs.size:=λb hb=>by
   obtain⟨o,e,_⟩:=T.obj 0 _ st b hb;exact wD e
 have hf3:∀b∈fp,cT X pins (upd H s.heap.objs.size (.lst [])) b:=λb hb=>⟨by rw[bV (wS (lt0 b hb))];exact(hf b hb).1,(hf b hb).2⟩
 have lt3:∀b∈fp,b<(s.heap.push {cls:=.type "list",data:=.seq ([]:List wd).toArray}).objs.size:=λb hb=>by
   rw[WV];exact qW (lt0 b hb)
 have st3:tn 0 (s.heap.push {cls:=.type "list",data:=.seq ([]:List wd).toArray}):=T.keep _ _ _ st λb _ o e=>old3 b o e
 obtain⟨W,⟨m0,w0⟩,turn⟩:=rd _ hD;generalize hs3:({s with heap:=s.heap.push {cls:=.type "list",data:=.seq ([]:List wd).toArray}} : wl)=s3 at I3 ⊢;have hh3:s3.heap=s.heap.push {cls:=.type "list",data:=.seq ([]:List wd).toArray}:=by rw[<- hs3]
 rw[<- hh3]at lt3 st3;clear old3 hs3 hh3;generalize hD':s.heap.objs.size=D at *
 refine wpAny_newFunctionEnv ok.cell (by intro y hy;cases hy) (λh₁ hns₁ hsb₁=>?_) ok.kind;have old:∀b o,s3.heap.get? b=some o->h₁.get? b=some o:=λb o e=>hsb₁.extBut b o (wS (wD e)) (wn _ e)
 have hC:cT X pins (upd H D (.lst [])) s3.heap.objs.size:=I3.g6 (wo _) (I3.az.fresh (wo _))
 have IB:∀tk,Inv (cp X N' scope cl s3.heap.objs.size s3 (upd H D (.lst [])) fp pins) [] (c7 src σ) (upd H D (.lst [])) {s3 with heap:=h₁,toks:=tk}:=λtk =>
   I3.block ok.kind ok.gZ ok.Kl hf3 lt3 hns₁ old ok.OO
 have stB:tn 0 h₁:=T.keep _ _ _ st3 λb _ o e=>old b o e
 have stat:∀{H':Hp} ,(∀b∈fp,H' b=none)->∀b∈fp,cT (cp X N' scope cl s3.heap.objs.size s3 (upd H D (.lst [])) fp pins) [] H' b:=λhn b hb=>by
   obtain⟨_,f1,f2,f3,f4,f5⟩:=hf3 b hb;refine⟨hn b hb,wS (lt3 b hb),λz=>(wz.mp (I3.jy b z)).elim f1 f2,.inl hb,λx c e=>f4 x c (ok.gZ.sub x c e),λp hp=>?_⟩;have hp':p∈(X.pn++pins)++[]:=hp;rw[vS]at hp';exact f5 p hp'
 have back:∀{σ':St}{H':Hp}{s':wl},Inv (cp X N' scope cl s3.heap.objs.size s3 (upd H D (.lst [])) fp pins) [] σ' H' s'->Inv X pins σ H' s'/\(∃m,s'.heap.Ns s3.heap.objs.size m)/\cT X pins H' s3.heap.objs.size:=λ{σ' H' s'} J=>by
   obtain⟨m,hn,_⟩:=J.loc;refine⟨I3.Ax (ch:=fp) J.os J.base J.az J.bare (λb hb=>?_),⟨m,hn⟩,⟨J.free,hC.2⟩⟩;obtain⟨_,f1,_,f3,f4,f5⟩:=hf3 b hb;exact⟨f3,f1,f4,f5⟩
 have loop:∀tk,VN (model X.prog X.w) X.A (.compLoop (.ListComp elt [⟨tgt,iter,ifs,0⟩] scope pos) 0 (.ref it) (.ref D) (compEnvC scope cl s3.heap.objs.size X.env)) (compPost (model X.prog X.w) X.A X.xe use Q' (.ref D) s3.heap.objs.size) {s3 with heap:=h₁,toks:=tk}:=by
   intro tk
   refine zol (λn s'=>∃i σ' H',Inv (cp X N' scope cl s3.heap.objs.size s3 (upd H D (.lst [])) fp pins) [] σ' H' s'/\tn i s'.heap/\(∀b∈fp,H' b=none)/\W i n σ' H') ?_ m0
     ⟨0,_,_,IB tk,stB,λb hb=>(hf3 b hb).1,w0⟩
   rintro n s4 ⟨i,σ4,H4,I4,st4,fr4,w4⟩;rcases turn i n σ4 H4 w4 with⟨stop,q⟩ | ⟨go,M,hM,step⟩
   . refine au ((TC _ _ _).done i [] s4 σ4 H4 (λ_ _=>False) I4 (stat fr4) st4 stop) λr s5 ⟨hr,I5⟩=>?_
     subst hr;obtain⟨J,⟨m,hn⟩,hCf⟩:=back I5;exact hRR D _ H4 s5 m J hn hCf q
   . refine au ((TC _ _ _).item i [] s4 σ4 H4 (λ_ _=>False) I4 (stat fr4) st4 go) λr s5 ⟨u,hr,h5⟩=>?_
     subst hr;refine au h5 λ_ s6 ⟨x,H6,I6,r6,y6,st6,fr6⟩=>?_
     have I6':=I6.pinned (stat fr6) (T.obj _ _ st6)
     have again:∀{σ7:St}{H7:Hp}{s7:wl},Inv (cp X N' scope cl s3.heap.objs.size s3 (upd H D (.lst [])) fp pins) ([]++mP fp s6.heap) σ7 H7 s7->M σ7 H7 ->
         ∃m,m<n /\ ∃i σ' H',Inv (cp X N' scope cl s3.heap.objs.size s3 (upd H D (.lst [])) fp pins) [] σ' H' s7/\tn i s7.heap/\(∀b∈fp,H' b=none)/\W i m σ' H':=λ{σ7 H7 s7} I7 n7=>by
       obtain⟨m',hm,w7⟩:=hM σ7 H7 n7;refine⟨m',hm,i+1,σ7,H7,I7.mE,T.keep _ _ _ st6 λb hb o e=>(I7.pin (b,o) (vd _ (vd _ (m5 hb e)))).1,λb hb=>?_,w7⟩;obtain⟨o,e,d⟩:=T.obj _ _ st6 b hb;exact(I7.pin (b,o) (vd _ (vd _ (m5 hb e)))).2.1
     refine au (hg _ _ _ _ _ _ s6 σ4 H6 x u _ I6' r6 (step x H6 y6)) λ_ s7 ⟨σ7,H7,I7,q7⟩=>?_
     refine au (ht _ _ _ _ _ _ s7 σ7 H7 _ I7 q7) λk s8 ⟨H8,I8,q8⟩=>?_
     cases k with
     | false=>exact again I8 q8
     | true =>
       rw[if_pos rfl]at q8 ⊢;refine vH (he _ _ _ _ _ _ _ (λpins9 σ9 H9 s9 e9 s9' I9 h9=>?_) [] s8 σ7 H8 _ (I8.Km (notedBy (model X.prog X.w) X.A (compEnvC scope cl s3.heap.objs.size X.env) λe s'=>compPost (model X.prog X.w) X.A X.xe use Q' (.ref D) s3.heap.objs.size (.error e) s')) q8) (λy s9 ⟨yv,H9,I9,r9,ys,hys,hz,q9⟩=>?_) λ_ _ z=>z
       . have I9:=I9.kZ
         obtain⟨J9,_,hC9⟩:=back I9.mE;exact ZO hx hs hfm px I9 J9 hC9 h9
       have I9:=I9.kZ;exact au (nY _ s9 σ7 H9 (.ref D) [yv] (.ref D) [y] (λ_ H'=>M σ7 H') I9 rfl (.cons r9 .nil) ⟨D,ys,yv,rfl,rfl,hys,hz,q9⟩) λ_ s10 ⟨_,H10,I10,_,q10⟩=>again I10 q10
 exact codeAny_compStart_list (loop _) (T.self _ _ _ _ _ stB (loop _))
theorem zs0{i:Nat}{y:Str}{py spos:Pos}(hN:X.N.Nodup)(hy:X.N[i]? = some y)(hly:Loc X.env.scope y)(hx:X.ex=[])(hst:X.stack=X.env::X.outer)(hfm:X.env.frame=some X.env.locals)(px:zG X E)(hc:X.calm=true)(ok:kA X N' scope cl src)(hi:PI X tgt iter wi)
  (hg:∀C s₀ H₀ fp pins,PG (cp X N' scope cl C s₀ H₀ fp pins) tgt g) (ht:∀C s₀ H₀ fp pins,k_ (cp X N' scope cl C s₀ H₀ fp pins) ifs tt) (he:∀C s₀ H₀ fp pins pn E',d_ (bQ X.prog X.w) ((cp X N' scope cl C s₀ H₀ fp pins).at pn E') E->PE ((cp X N' scope cl C s₀ H₀ fp pins).at pn E') elt te)
  (hsw:swapsWith (.ListComp elt [⟨tgt,iter,ifs,0⟩] scope pos) (some (.Name y py)) spos.line X.env=pure true:=by rfl)
  (hs:∀x,foldedSetIterable iter X.env x=pure x:=by intro _;rfl) (hf:X.fn y=true\/X.env.scope.names.lookup y=some .local:=by first | exact .inl rfl | exact .inr rfl | assumption) :
  PS X (.Assign [.Name y py] (.ListComp elt [⟨tgt,iter,ifs,0⟩] scope pos) spos) (jn (iV src wi g tt te) (gg i)):=by
 intro pins s σ H D0 I h;rw[exec_Assign_Name_used _ _ _ _ hsw];refine wj (qq (wj ?_))
 show wq _ X.A (do let _ <- comprehension (.ListComp elt [⟨tgt,iter,ifs,0⟩] scope pos) scope X.env _ (newList []) false (eval iter X.env) (some (assign (.Name y py) X.env))) _ _ s
 refine wj (vH (qQ (Q:=λ_ s'=>SP X pins D0 .next s') rfl hs ok.gZ.gZ ok.kind ok.names (au (hi pins s σ H _ I h) λv s1 h1=>au h1 λitv s2 h2=>?_))
  (λ_ s' hq=>wA (wA hq)) λ_ _ e=>e)
 obtain⟨it,fp,tn,J,H2,e,I2,T,st2,f2,rd⟩:=h2;subst e;refine zuC (RQ:=λD H'=>gg i (.ref D) σ H' D0.nx) (use:=some (assign (.Name y py) X.env)) (Q':=λ_ s'=>SP X pins D0 .next s') hx hst hfm px (λ_ _ _=>T.AX rfl rfl rfl hc) ok hg ht he I2 T st2 f2 rd ?_;intro D C H' s' m J hn hC q;obtain⟨c0,c1,_,c3,c4,c5⟩:=hC
 show wq _ _ (assign (.Name y py) X.env (.ref D)) _ _ s'
 refine wpAny_assign_Name (Dh J hN hy hly (v:=.ref D) rfl (λs'' J2 ⟨a,sb,ha⟩=>?_) hf)
 have hCa:C≠a:=by
  rcases ha with z | z
  ·rw[z];exact c1
  ·exact(c4 y a z).symm
 exact⟨m,hn.sameBut sb hCa,λh' sb'=>⟨_,H',J2.turned (t':=s''.toks) (λb o hb e=>(sb'.2 b hb).trans e) c0 c1 c3 c4 c5,q⟩⟩
end
variable{M:Model}{Γ:ui}{s:wl}
theorem Fj{p:Pos}{t:Sem PySem.Fin}{fs:List Frame}{s':wl}{e:End}(h:Runs M Γ p t fs s e s'):s.toks<=s'.toks:=by
 induction h with
 | done | raise | yield=>exact wo _
 | fresh _ ih=>exact Nat.le_of_succ_le ih
 | call _ _ i1 i2=>exact w5 i1 i2
 | resumeFresh _ _ _ _ i1 i2=>exact w5 i1 i2
 | resumeSuspended _ _ _ _ i1 i2=>exact w5 i1 i2
 | segRet _ _ i1 i2=>exact w5 i1 i2
 | segGen _ _ i1 i2=>exact w5 i1 i2
 | segSuspGen _ _ _ _ i1 i2=>exact w5 i1 i2
 | _=>assumption
theorem YY{p:Pos}{g:Nat}{r:Resume}{s':wl}{res:GenResult}(h:Wakes M Γ p g r s res s'):s.toks<=s'.toks:=by
 unfold Wakes at h
 split at h
 ·exact h.elim
 ·split at h
  ·obtain⟨_,s1,h1,_,_,rfl⟩:=h;have z:=Fj h1;exact z
  ·rw[h.2];exact wo _
  ·rw[h.2];exact wo _
 ·obtain⟨_,s1,h1,_,_,rfl⟩:=h;have z:=Fj h1;exact z
 ·rw[h.2];exact wo _
 ·rw[h.2];exact wo _
theorem zz0{α : Type}(k:Nat){Q : α -> Pos->wl->Prop}{E:wd->Pos->wl->Prop}(t:Sem α):∀(p:Pos)(s:wl),k<=s.toks->Sem.wp M Γ t Q E p s->Sem.wp M Γ t (λa p' s'=>Q a p' s'/\k<=s'.toks) (λa p' s'=>E a p' s'/\k<=s'.toks) p s:=by
 induction t with
 | pure x=>exact λp s hk h=>⟨h,hk⟩
 | raise v=>exact λp s hk h=>⟨h,hk⟩
 | unsupported | finish | yield | fork | await | register=>exact λp s hk h=>h
 | fresh k ih=>exact λp s hk h=>ih _ _ _ (Nat.le_succ_of_le hk) h
 | rule _ k ih | «at» _ k ih | alloc _ k ih | loadIfAlive _ k ih | point _ k ih | ask k ih | os _ _ k ih | handled _ k ih | newGen _ k ih | stack k ih | thread k ih=>exact λp s hk h=>ih _ _ _ hk h
 | load a _ k ih | genState a k ih=>exact λp s hk ⟨o,ho,h⟩=>⟨o,ho,ih _ _ _ hk h⟩
 | update a _ f k ih | choose _ _ k ih=>exact λp s hk ⟨ha,h⟩=>⟨ha,ih _ _ _ hk h⟩
 | call c h g l k ih=>exact λp s hk ⟨r,s',hr,h⟩=>⟨r,s',hr,ih _ _ _ (w5 hk (Fj hr)) h⟩
 | resume g r l k ih=>exact λp s hk ⟨res,s',hw,h⟩=>⟨res,s',hw,ih _ _ _ (w5 hk (YY hw)) h⟩
theorem gi{α : Type}{A:va}{Q : α -> wl->Prop}{E:wd->wl->Prop}{t:Sem α}(k:Nat)(hk:k<=s.toks)(h:wq M A t Q E s):wq M A t (λa s'=>Q a s'/\k<=s'.toks) E s :=
 λΓ p hΓ=>Sem.wp_mono M Γ t (λ_ _ _ h=>h) (λ_ _ _ h=>h.1) p s (zz0 k t p s hk (h Γ p hΓ))
section
variable{X:Cx}{e a b:Expr}{es:List Expr}{st:wJ}{bF:List wJ}{te ta tb:TE}{t:TA}{ts tr:TS}{pos:Pos}
def lG(X:Cx)(e:Expr)(t:TE):Prop:=∀(pins:List (wc × Obj))(s:wl)(σ : St)(H:Hp)(Q:VK),Inv X pins σ H s->1<=s.toks->t σ H Q->wq (model X.prog X.w) X.A (eval e X.env) (EP X pins σ Q) X.xe s
def pJ(X:Cx)(e:Expr)(t:TE):Prop:=∀(pins:List (wc × Obj))(s:wl)(σ : St)(H:Hp)(Q:VK),Inv X pins σ H s->t σ H Q->wq (model X.prog X.w) X.A (eval e X.env) (λv s'=>EP X pins σ Q v s'/\1<=s'.toks) X.xe s
def LW(X:Cx)(es:List Expr)(t:TA):Prop:=∀(pos:Pos)(pins:List (wc × Obj))(s:wl)(σ : St)(H:Hp)(Q:List V->Hp->Prop),Inv X pins σ H s->t σ H Q->wq (model X.prog X.w) X.A (spliced (Wh pos (wC es X.env))) (λv s'=>AP X pins σ Q v s'/\1<=s'.toks) X.xe s
def yb(X:Cx)(st:wJ)(t:TS):Prop:=∀(pins:List (wc × Obj))(s:wl)(σ : St)(H:Hp)(D:ck),Inv X pins σ H s->1<=s.toks->t D σ H->wq (model X.prog X.w) X.A (exec st X.env) (SP X pins D) X.xe s
def Bh(X:Cx)(st:wJ)(t:TS):Prop:=∀(pins:List (wc × Obj))(s:wl)(σ : St)(H:Hp)(D:ck),Inv X pins σ H s->t D σ H->wq (model X.prog X.w) X.A (exec st X.env) (λf s'=>SP X pins D f s'/\1<=s'.toks) X.xe s
def jT(X:Cx)(st:List wJ)(t:TS):Prop:=∀(pins:List (wc × Obj))(s:wl)(σ : St)(H:Hp)(D:ck),Inv X pins σ H s->1<=s.toks->t D σ H->wq (model X.prog X.w) X.A (execs st X.env) (SP X pins D) X.xe s
theorem PS.p(h:PS X st ts):yb X st ts:=λpins s σ H D I _ q=>h pins s σ H D I q
theorem RA{x j pos} : pJ X (.Constant (.str x) j pos) (tC (.str x)):=λ_ _ _ H _ I h=>VP ⟨⟨.str x,H,I.tok _,⟨_,rfl⟩,h⟩,Nat.le_add_left _ _⟩
theorem zxA(ha:pJ X e te)(hr:PA X es t)(hs:wC (e::es) X.env=(false,eval e X.env)::wC es X.env:=by rfl):LW X (e::es) (dj te t):=by
 intro pos pins s σ H Q I h;rw[hs]
 show wq _ _ (spliced ((false,eval e X.env)::Wh pos (wC es X.env))) _ _ s
 refine VQ (au (ha pins s σ H _ I h) λu s1 ⟨⟨x,H1,I1,r1,q1⟩,k1⟩=>?_);exact au (gi 1 k1 (hr pos pins s1 σ H1 _ I1 q1)) λus s2 ⟨⟨xs,H2,I2,r2,q2⟩,k2⟩=>⟨⟨x::xs,H2,I2,.cons r1 r2,q2⟩,k2⟩
theorem zAo{i:Nat}{x:Str}{pos':Pos}(hN:X.N.Nodup)(hi:X.N[i]? = some x)(hx:Loc X.env.scope x)(he:pJ X e te)(hs:swapsWith e (some (.Name x pos')) pos.line X.env=pure false:=by rfl)(hf:X.fn x=true\/X.env.scope.names.lookup x=some .local:=by first | exact .inl rfl | exact .inr rfl | assumption) :
  Bh X (.Assign [.Name x pos'] e pos) (jn te (gg i)):=by
 intro pins s σ H D I h;refine wpAny_Assign_Name (au (he pins s σ H _ I h) λv s1 ⟨⟨y,H1,I1,r1,q1⟩,k1⟩=>?_) hs;exact gi 1 k1 (ny I1 hN hi hx r1 (λs2 I2=>⟨_,H1,I2,q1⟩) hf)
theorem nk(h1:yb X st ts)(h2:jT X bF tr):jT X (st::bF) (nj ts tr):=by
 intro pins s σ H D I k h;refine ql (au (gi 1 k (h1 pins s σ H {D with nx:=tr D} I k h)) λf s1 ⟨q,k1⟩=>?_);cases f with
 | next =>
  obtain⟨σ',H',I',q⟩:=q;exact h2 pins s1 σ' H' D I' k1 q
 | ret v=>exact q
 | brk=>exact q
 | cont=>exact q
theorem Kw(h1:Bh X st ts)(h2:jT X bF tr):dG X (st::bF) (nj ts tr):=by
 intro pins s σ H D I h;refine ql (au (h1 pins s σ H {D with nx:=tr D} I h) λf s1 ⟨q,k1⟩=>?_);cases f with
 | next =>
  obtain⟨σ',H',I',q⟩:=q;exact h2 pins s1 σ' H' D I' k1 q
 | ret v=>exact q
 | brk=>exact q
 | cont=>exact q
end
open Builtin Builtin.Str in
def rj(lim:Nat)(x y z:Str):Str:=if(occurrences x y 0 x.length lim).isEmpty || (y.length == 0&&z.length == 0)then x else glued z (partsBetween x (occurrences x y 0 x.length lim) y.length)
section
variable{X:Cx}{o:Expr}{to:TE}{apos cpos p1 p2 p3:Pos}{k1 k2 k3:Nat}{y z:Str}
def EH(one:Bool)(y z:Str)(to:TE):TE:=λσ H Q=>to σ H λv H1=>∃x:Str,v=.str x/\x.length<=1000/\Q (.str (rj (if one then 1 else x.length+1) x y z)) H1
theorem NS(ho:PE X o to)(hyz:(y == z)=false:=by decide)(hz:z.length<=14:=by decide)(hbase:attributeBase o "replace" X.env (eval o X.env)=eval o X.env:=by rfl)(hline:(apos.endLine == cpos.line)=true:=by rfl) :
  lG X (.Call (.Attribute o "replace" apos) [.Constant (.str y) k1 p1,.Constant (.str z) k2 p2] [] cpos) (EH false y z to):=by
 intro pins s σ H Q I k h;refine wpAny_Call_method_late (trees:=[(false,eval (.Constant (.str y) k1 p1) X.env),(false,eval (.Constant (.str z) k2 p2) X.env)]) hbase rfl hline rfl (au (gi 1 k (ho pins s σ H _ I h)) λv s1 ⟨⟨x,H1,I1,r1,w,e,hw,q⟩,k1'⟩=>?_);subst e;obtain⟨t,rfl⟩:=r1;refine⟨"str","str.replace",F.plainAttrs_str,F.slot_str_replace,F.type_str_replace,qm _ _ _,(λ_ e=>nomatch e),?_⟩;refine Qc rfl (Qo (VQ (VP (VQ (VP (Q1 ?_))))));refine SC.replace (show s1.toks≠0 by omega) (show s1.toks+1≠0 by omega) (show s1.toks≠s1.toks+1 by omega) hyz ?_ (λt' k=>⟨.str _,H1,(I1.tok k),⟨_,rfl⟩,?_⟩)
 ·have:(w.length+1)*z.length<=1001*14:=QE (by omega) hz
  omega
 ·exact q
end
def RE(K:wa):V->List V->Hp->VK->Prop:=λx vs H Q=>∃(l:wc)(bs:List Bool),x=.ref l/\vs=[.bl true]/\aI K H l (bs.map V.bl)/\Q (.int (bs.count true:Nat)) H
theorem zv0{X:Cx} : cf X "list.count" (RE X.K):=by
 intro pins s σ H x vs v us Q I rx rv h;obtain⟨l,bs,rfl,rfl,hq,q⟩:=h;cases rx;obtain⟨u,rfl,ru⟩:=rv.one;cases (show u=Value.bool true from ru);obtain⟨its,r,pl,hz⟩:=I.list hq;have hits:=Ct r;subst hits;obtain⟨⟨cls,dd,data,sl⟩,ho,hc,n,hd⟩:=id pl.isList;simp only at hc hd;subst hc hd
 have fs:(bs.map V.bl).all ib=true:=by
  rw[wH];intro y hy;obtain⟨b,_,rfl⟩:=wU.mp hy
  rfl
 refine Vt xq ⟨_,ho,rfl⟩ PySem.F.entry_list_count (PySem.F.args_list_count_2 _ _)
  (SeqAt.list_countAt l (bs.map Value.bool).toArray n dd sl (.bool true) (d9 (.bl true))) ⟨ho,λy hy=>ly (x:=.bl true) rfl rfl r fs y (by simpa using hy),?_⟩
 have e:((bs.map Value.bool).toArray.toList.countP (d9 (.bl true)))=bs.count true:=by
  show(bs.map Value.bool).countP _=_
  rw[List.countP_map,List.count];refine congrFun (congrArg List.countP (funext λb=>?_)) bs;cases b<;>rfl
 rw[e];exact⟨.int _,H,I.tok _,⟨_,rfl⟩,q⟩
section
variable{X:Cx}{e:Expr}{te:TE}{k:Nat}{p1 p2 p3 pos:Pos}
end
def dJ(H:Hp)(v:V)(xs:List Str):Prop:=∃l,v=.ref l/\H l=some (.lst (xs.map V.str))
section
variable{K:wa}{H H' H1:Hp}{σ : St}{v w:V}{x y z:Str}{xs ys:List Str}{rs us:List (List Str)}{i:Nat}{m n:Int}{ta tb te:TE}{t:TA}{tl th:TO}{lo hi:Option Int}
theorem dJ.by(s:ae H H')(h:dJ H v xs):dJ H' v xs:=let ⟨l,e,g⟩:=h;⟨l,e,s _ _ g⟩
def i_(t:TE)(σ : St)(H:Hp)(x:Str):Prop:=∀H1 Q,ae H H1->(∀H',ae H1 H'->Q (.str x) H')->t σ H1 Q
def lh(t:TE)(σ : St)(H:Hp)(n:Int):Prop:=∀H1 Q,ae H H1->(∀H',ae H1 H'->Q (.int n) H')->t σ H1 Q
def cO(t:TE)(σ : St)(H:Hp)(xs:List Str):Prop:=∀H1 Q,ae H H1->(∀v H',ae H1 H'->dJ H' v xs->Q v H')->t σ H1 Q
def zK(t:TO)(σ : St)(H:Hp)(o:Option Int):Prop:=∀H1 Q,ae H H1->(∀H',ae H1 H'->Q o H')->t σ H1 Q
def yg(t:TA)(σ : St)(H:Hp)(xs:List Str):Prop:=∀H1 Q,ae H H1->(∀H',ae H1 H'->Q (xs.map V.str) H')->t σ H1 Q
theorem cO.go{Q:VK}(h:cO te σ H xs)(q:∀v H',ae H H'->dJ H' v xs->Q v H'):te σ H Q:=h H Q (ae.refl _) q
theorem n9:i_ (tC (.str x)) σ H x:=λH1 Q _ q=>q H1 (ae.refl _)
theorem zEf:lh (tC (.int n)) σ H n:=λH1 Q _ q=>q H1 (ae.refl _)
theorem zDH(e : σ[i]? = some (some (.int n))):lh (cQ i) σ H n:=λH1 Q _ q=>⟨_,e,q H1 (ae.refl _)⟩
theorem zEk(e : σ[i]? = some (some v))(h:dJ H v xs):cO (cQ i) σ H xs:=λH1 Q s q=>⟨_,e,q _ H1 (ae.refl _) (h.by s)⟩
theorem Di(ha:i_ ta σ H x)(hb:i_ tb σ H y)(z:x.length+y.length<=wr):i_ (cW g_ ta tb) σ H (x++y):=λH1 Q s q=>ha H1 _ s λH2 s2=>hb H2 _ (s.trans s2) λH3 s3=>.inr (.inr ⟨_,_,rfl,rfl,z,q H3 (s2.trans s3)⟩)
theorem Of(ha:cO ta σ H xs)(hb:cO tb σ H ys)(z:xs.length+ys.length<=wr):cO (cW g_ ta tb) σ H (xs++ys):=λH1 Q s q=>ha H1 _ s λv H2 s2 h2=>hb H2 _ (s.trans s2) λw H3 s3 h3=>by
 obtain⟨l,rfl,e⟩:=h2.by s3;obtain⟨k,rfl,g⟩:=h3;exact pQ e g (by rw[we,we];exact z) λc H' _ s' e'=>q _ H' (s2.trans (s3.trans s')) ⟨c,rfl,by rw[vJ];exact e'⟩
theorem KC:yg eI σ H []:=λH1 Q _ q=>q H1 (ae.refl _)
theorem Bz(ha:i_ ta σ H x)(hb:yg t σ H xs):yg (dj ta t) σ H (x::xs):=λH1 Q s q=>ha H1 _ s λH2 s2=>hb H2 _ (s.trans s2) λH3 s3=>q H3 (s2.trans s3)
theorem Ni(h:yg t σ H xs)(z:xs.length<=1000):cO (rf K t) σ H xs:=λH1 Q s q=>h H1 _ s λH2 s2=>fj (by rw[we];exact z) λp H' _ s' e=>q _ H' (s2.trans s') ⟨p,rfl,e⟩
theorem zEj:zK Fs σ H none:=λH1 Q _ q=>q H1 (ae.refl _)
theorem Y9(h:lh te σ H n):zK (De te) σ H (some n):=λH1 Q s q=>h H1 _ s λH2 s2=>⟨n,rfl,q H2 s2⟩
theorem zx9:fc (xs.map V.str) lo hi=(cutD xs lo hi).map V.str:=by unfold fc cutD;rw[we,<- List.map_drop,<- List.map_take]
theorem zCh(h:cO te σ H xs)(hl:zK tl σ H lo)(hh:zK th σ H hi):cO (CF (pL K) te tl th) σ H (cutD xs lo hi):=λH1 Q s q=>h H1 _ s λv H2 s2 h2=>hl H2 _ (s.trans s2) λH3 s3=>hh H3 _ (s.trans (s2.trans s3)) λH4 s4=>by
 obtain⟨l,rfl,e⟩:=h2.by (s3.trans s4);exact gE (.of e) λp H' _ s' e'=>q _ H' (s2.trans (s3.trans (s4.trans s'))) ⟨p,rfl,by rw[<- zx9];exact e'⟩
theorem PH{sep:Str}(hs:i_ ta σ H sep)(h:cO tb σ H xs)(hl:xs.length<=1000)(hy:∀y∈xs,y.length<=900)(hp:sep.length<=10):i_ (mM K "str" (dr K) ta (dj tb eI)) σ H (qj sep xs):=λH1 Q s q=>hs H1 _ s λH2 s2=>⟨rfl,h H2 _ (s.trans s2) λv H3 s3 h3=>by
 obtain⟨l,rfl,g⟩:=h3;refine pI (.of g) hy ?_ (q H3 (s2.trans s3));have:xs.length*sep.length<=1000*10:=QE hl hp;have:xs.length*900<=1000*900:=Vs _ hl;omega⟩
theorem Pg:∀(k:Nat)(xs:List Str),(ve k (xs.map V.str)).flatten=((ve k xs).flatten).map V.str
 | 0,_=>rfl
 | k+1,xs=>by rw[WP,Vn,Pg k xs,WP,Vn,vJ]
theorem zA6(ha:cO ta σ H xs)(hb:lh tb σ H n)(h0:0<=n)(h1:n<=1000)(z:xs.length*n.toNat<=1000):cO (cW pS ta tb) σ H (ve n.toNat xs).flatten:=λH1 Q s q=>ha H1 _ s λv H2 s2 h2=>hb H2 _ (s.trans s2) λH3 s3=>by
 obtain⟨l,rfl,g⟩:=h2.by s3;exact zCM g (by omega) h1 (by rw[we];exact z) λp H' _ s' e=>q _ H' (s2.trans (s3.trans s')) ⟨p,rfl,by rw[<- Pg];exact e⟩
end
structure iO(X:Cx)(st:List wJ)(t:TS):Prop where
 h:dG X st t
structure WS(X:Cx)(st:wJ)(t:TS):Prop where
 h:PS X st t
structure WE(X:Cx)(e:Expr)(t:TE):Prop where
 h:PE X e t
structure WA(X:Cx)(es:List Expr)(t:TA):Prop where
 h:PA X es t
section
variable{X:Cx}{e a b:Expr}{es:List Expr}{st:wJ}{bF:List wJ}{te ta tb:TE}{t:TA}{ts tr:TS}{pos:Pos}
theorem bY(h1:WS X st ts)(h2:iO X bF tr):iO X (st::bF) (nj ts tr):=⟨aj h1.h h2.h⟩
theorem oK(h1:WS X st ts):iO X [st] ts:=⟨ak h1.h⟩
theorem zDK:iO X [] mV:=⟨bj⟩
theorem cn(i:Nat){x:Str}{pp:Pos}(hN:X.N.Nodup)(he:WE X e te)(hi:X.N[i]? = some x:=by exact rfl)(hx:Loc X.env.scope x:=by first | exact Or.inl rfl | exact Or.inr rfl)(hs:swapsWith e (some (.Name x pp)) pos.line X.env=pure false:=by rfl)(hf:X.fn x=true\/X.env.scope.names.lookup x=some .local:=by first | exact .inl rfl | exact .inr rfl | assumption) :
  WS X (.Assign [.Name x pp] e pos) (jn te (gg i)):=⟨Tq hN hi hx he.h hs hf⟩
theorem sN(he:WE X e te):WS X (.Return (some e) pos) (z5 te):=⟨aB he.h⟩
theorem zET{c:Expr}{s1 s2:List wJ}{tc:TT}(hc:PT X c tc)(h1:iO X s1 ts)(h2:iO X s2 tr):WS X (.If c s1 s2 pos) (pF tc ts tr):=⟨bo hc h1.h h2.h⟩
theorem L6(h:PS X st ts):WS X st ts:=⟨h⟩
theorem ai(h:PE X e te):WE X e te:=⟨h⟩
theorem cg(h:WA X es t):WE X (.List es pos) (rf X.K t):=⟨cS h.h⟩
theorem fW{x1}(h:WA X es t):WE X (.Tuple es x1 pos) (pW X.K t):=⟨cE h.h⟩
theorem bK{op:Operator}{r:R2}(ho:aY X (Wu op) r)(ha:WE X a ta)(hb:WE X b tb):WE X (.BinOp a op b pos) (cW r ta tb):=⟨aG ho ha.h hb.h⟩
theorem yR{r:R2}(hr:gA X r)(ha:WE X a ta)(hb:WE X b tb)(hs:NN b):WE X (.Subscript a b pos) (cW r ta tb):=⟨f_ hr ha.h hb.h hs⟩
theorem bB:WA X [] eI:=⟨af⟩
theorem ar(ha:WE X e te)(hr:WA X es t)(hs:wC (e::es) X.env=(false,eval e X.env)::wC es X.env:=by rfl):WA X (e::es) (dj te t):=⟨aa ha.h hr.h hs⟩
end
def pY:wJ->Nat->wJ
 | .ClassDef _ _ _ body _ _ _ _ _ _ _,j=>body.getD j (.Pass ⟨0,0,0,0⟩)
 | _,_=>.Pass ⟨0,0,0,0⟩
structure m6(K:wa)(n q:Str)(st:wJ)(ps:List Str)(f:wc)(fd:wt):Prop where
 F:ik K n q st f fd
 b:dN K fd ps []
inductive lZ:List DictEntry->List (Str × wc)->Prop
 | nil:lZ [] []
 | cons {e:DictEntry} {es:List DictEntry} {x:Str} {t:Tok} {a:wc} {kvs:List (Str × wc)} (h:e.key=.str x t) (v:e.val=.ref a) (r:lZ es kvs):lZ (e::es) ((x,a)::kvs)
theorem lZ.find{es:List DictEntry}{kvs:List (Str × wc)}(h:lZ es kvs)(x:Str):(es.find? λe=>uj x e.key).map (·.val)=(kvs.lookup x).map Value.ref:=by
 induction h with
 | nil=>rfl
 | @cons e es y t a kvs h v r ih =>
  rw[List.find?_cons,Va,h]
  show uG _ (match (y == x)with | true=>some e | false=>_)=_
  by_cases q:x=y
  ·subst q
   rw[beq_self_eq_true]
   show some e.val=some (Value.ref a)
   rw[v]
  ·rw[beq_false_of_ne (WC q),beq_false_of_ne q]
   exact ih
structure jW(K:wa)(P:Params)(k:wc)(kvs:List (Str × wc)):Prop where
 ex:∃es n,K.lookup k=some ⟨.type "dict",none,.dict es n,#[]⟩/\Qr P es.toList/\lZ es.toList kvs
 ns:(k == VU)=false
theorem jW.of{K:wa}{P:Params}{k:wc}{kvs:List (Str × wc)}{l:List DictEntry}{n:Nat}(h:K.lookup k=some ⟨.type "dict",none,.dict l.toArray n,#[]⟩)(hk:Qr P l)(ns:(k == VU)=false)(d:lZ l kvs):jW K P k kvs:=⟨⟨l.toArray,n,h,hk,d⟩,ns⟩
def R7(k:wc)(kvs:List (Str × wc))(td ty:TE):TE:=λσ H Q=>td σ H λx H1=>ty σ H1 λy H2=>∃z f,x=.ref k/\y=.str z/\kvs.lookup z=some f/\Q (.ref f) H2
def FG(k:wc)(kvs:List (Str × wc))(ty td:TE):TE:=λσ H Q=>ty σ H λy H1=>td σ H1 λx H2=>∃z,x=.ref k/\y=.str z/\Q (.bl (kvs.lookup z).isSome) H2
section
variable{X:Cx}{o i:Expr}{pos:Pos}{td ty:TE}{k:wc}{kvs:List (Str × wc)}
theorem Mj{h:wK}{prog:wO}{w:wN}{K:wa}(g:jW K w.params k kvs)(fK:K.In h):∃m,h.MapOf (strKind prog w) k m /\ ∀x,m x=(kvs.lookup x).map Value.ref:=by
 obtain⟨⟨es,n,hl,hk,d⟩,ns⟩:=g;refine⟨_,PySem.W.mapOf_K (prog:=prog) fK hl hk,λx=>?_⟩;have:=d.find x;obtain⟨l⟩:=es;unfold findBy;rw[List.find?_toArray];exact this
theorem Mf(ho:PE X o td)(hi:PE X i ty)(g:jW X.K X.w.params k kvs)(hs:Q_ i:=by exact λ_ _=>rfl):PE X (.Subscript o i pos) (R7 k kvs td ty):=by
 intro pins s σ H Q I h;refine Y7 PySem.F.slot_dict_getitem.lookup hs (au (ho pins s σ H _ I h) λu s1 ⟨x,H1,I1,rx,q1⟩=>au (hi pins s1 σ H1 _ I1 q1) λiv s2 ⟨y,H2,I2,ry,z,f,ex,ey,hf,q2⟩=>?_);subst ex ey;obtain rfl:u=Value.ref k:=rx;obtain⟨t,rfl⟩:=(show ∃t,iv=Value.str z t from ry);obtain⟨m,hm,hv⟩:=Mj (prog:=X.prog) g I2.bE;exact⟨hm.typeIs,wpAny_getItem_of (strKind_is X.prog X.w z t) hm (by rw[hv,hf];rfl) ⟨.ref f,H2,I2.tok _,rfl,q2⟩⟩
theorem Ln(hi:PE X i ty)(ho:PE X o td)(g:jW X.K X.w.params k kvs):PC X .In i o (FG k kvs ty td):=by
 intro pins s σ H Q I h;refine au (hi pins s σ H _ I h) λiv s1 ⟨y,H1,I1,ry,q1⟩=>au (ho pins s1 σ H1 _ I1 q1) λu s2 ⟨x,H2,I2,rx,z,ex,ey,q2⟩=>?_
 subst ex ey;obtain rfl:u=Value.ref k:=rx;obtain⟨t,rfl⟩:=(show ∃t,iv=Value.str z t from ry);obtain⟨m,hm,hv⟩:=Mj (prog:=X.prog) g I2.bE;refine wpAny_in_of (strKind_is X.prog X.w z t) g.ns hm ?_;rw[hv,Option.isSome_map];exact⟨.bl (kvs.lookup z).isSome,H2,I2.tok _,rfl,q2⟩
end
def yB(X:Cx)(E:XK)(fs:List (wc × Sp)):Prop:=∀f sp,(f,sp)∈fs->∃CX k fd ps,aC X.prog X.w X.K X.mg X.base CX k f fd ps sp/\bP k X.A/\Wl X.K (.ref f)=true/\dN X.K fd ps []/\d_ CX X E
def Df(fs:List (wc × Sp))(E:XK)(tf:TE)(t:TA):TE:=λσ H Q=>tf σ H λx H1=>∃f sp,x=.ref f/\(f,sp)∈fs/\t σ H1 λvs H2=>sp vs H2 Q E
def Fv(C:wc)(m:Str)(sp:Sp)(W:St->XK)(ta:TE)(t:TA):TE:=λσ H Q=>ta σ H λx H1=>∃a dx fs,x=.ref a/\H1 a=some (.ins C dx fs)/\fs.lookup m=none/\t σ H1 λvs H2=>sp (x::vs) H2 Q (W σ)
def Et(C:wc)(sp:Sp)(W:St->XK)(t:TA):TE:=λσ H Q=>t σ H λvs H1=>∀x dx,H1 x=none->H1 dx=none->dx≠x->sp (.ref x::vs) (upd (upd H1 dx (.own x)) x (.ins C dx [])) (λv H2=>v=.bh/\Q (.ref x) H2) (W σ)
section
variable{X:Cx}{CX:dI}{k:Nat}{f C:wc}{fd:wt}{ps:List Str}{sp:Sp}{E:XK}{W:St->XK}{x m:Str}{p pos apos:Pos}{c e o:Expr}{es:List Expr}{ta tf:TE}{t:TA}{fs:List (wc × Sp)}
theorem R6:d_ aO X E:=λ_ _ _ _ _ _ _ h=>h.elim
theorem ZG:yB X E []:=λ_ _ h=>nomatch h
theorem FE(F:aC X.prog X.w X.K X.mg X.base CX k f fd ps sp)(hr:bP k X.A)(hk:Wl X.K (.ref f)=true)(hb:dN X.K fd ps [])(hx:d_ CX X E)(r:yB X E fs):yB X E ((f,sp)::fs):=λf' sp' h=>by
 rcases wz.mp h with h | h
 ·cases h
  exact⟨CX,k,fd,ps,F,hr,hk,hb,hx⟩
 ·exact r f' sp' h
theorem zxF(hc:PE X c tf)(hF:yB X E fs)(ha:PA X (e::es) t)(he:wC (e::es) X.env=(false,eval e X.env)::wC es X.env:=by rfl)(hpl:(Wh pos (wC es X.env)).any (·.1)=false:=by rfl)
  (ht:eval (.Call c (e::es) [] pos) X.env=(do
   let f <- eval c X.env
   callWith pos f [] (Wh pos (wC (e::es) X.env)) (backToKw pos (qw [] X.env))):=by rfl) :
  PE X (.Call c (e::es) [] pos) (Df fs E tf t):=by
 intro pins s σ H Q I h;rw[ht];refine wj (au (hc pins s σ H _ I h) λu s1 ⟨v,H1,I1,r,f,sp,ev,hm,q⟩=>?_);subst ev;obtain rfl:u=Value.ref f:=r;obtain⟨CX,k,fd,ps,F,hr,hk,hb,hx⟩:=hF f sp hm;exact WG (h₀:=X.base) I1.ok.mod.fK hk (au (ha pos pins s1 σ H1 _ I1 q) λus s2 ⟨vs,H2,I2,r,q⟩=>⟨I2.bE,oB F hr hb .nil hx I2 r (by rw[vS];exact q)⟩) he hpl
theorem zBa{pins:List (wc × Obj)}{σ : St}{H:Hp}{s:wl}{Q:VK}{us:List wd}{vs:List V}(F:aC X.prog X.w X.K X.mg X.base CX k f fd ps sp)(hr:bP k X.A)(hb:dN X.K fd ps [])(hx:zO CX X W)(I:Inv X pins σ H s)(r:aE vs us)(h:sp vs H Q (W σ)) :
  wq (model X.prog X.w) X.A (call (.ref f) us) (EP X pins σ Q) X.xe s:=by
 have hl:us.length=ps.length:=by rw[<- r.length];exact F.len _ _ _ _ h
 have hbd:BindsTo s fd ⟨us,[]⟩ (ps.zip us):=by simpa using hb s us I.bE (by simpa using hl)
 refine wpAny_call (qc (F.run X.A X.stack s H ⟨us,[]⟩ us vs Q (W σ) hr I.oA hbd r h) λr s' hq=>?_);cases r with
 | error e=>exact hx pins σ H s e s' I hq
 | ok fl =>
  cases fl with
  | ret u=>exact I.after hq
  | next=>exact vN hq
  | brk=>exact vN hq
  | cont=>exact vN hq
theorem zyd{pl:Sem Bool}(he:PE X o ta)(c:fh X.K C)(hm:jX X.K C m f)(F:aC X.prog X.w X.K X.mg X.base CX k f fd ps sp)(hr:bP k X.A)(hb:dN X.K fd ps [])(hx:zO CX X W)(ha:PA X (e::es) t)
  (hst:wC (e::es) X.env=(false,eval e X.env)::wC es X.env:=by rfl) (hpl:(Wh pos (wC es X.env)).any (·.1)=false:=by rfl)
  (ht:eval (.Call (.Attribute o m apos) (e::es) [] pos) X.env=(do
   let ov <- eval o X.env
   standAt apos.atName
   let (f,fst0) <- holding [ov] (getMethod ov m pl)
   callWith pos f fst0 (Wh pos (wC (e::es) X.env)) (backToKw pos (qw [] X.env))):=by rfl) :
  PE X (.Call (.Attribute o m apos) (e::es) [] pos) (Fv C m sp W ta t):=by
 intro pins s σ H Q I h;refine V5 (pl:=pl) (au (he pins s σ H _ I h) λu s1 ⟨x,H1,I1,rx,a,dx,fs,ex,ea,l,q⟩=>?_) ht;subst ex;obtain rfl:u=Value.ref a:=rx;refine zo I1 ea c hm l ?_;refine WG (first:=[.ref a]) (h₀:=X.base) I.ok.mod.fK hm.kp (au (ha pos pins s1 σ H1 _ I1 q) λus s2 ⟨vs,H2,I2,r,q2⟩=>⟨I2.bE,?_⟩) hst hpl;exact zBa (us:=.ref a::us) (vs:=.ref a::vs) F hr hb hx I2 (.cons rfl r) q2
theorem zze(M:Mk X.K C f)(F:aC X.prog X.w X.K X.mg X.base CX k f fd ps sp)(hr:bP (k+1) X.A)(hg:Gl X x)(hm:X.mg x=some (.ref C))(hb:dN X.K fd ps [])(hx:zO CX X W)
  (ha:PA X (e::es) t) (hdb:(x == ("__debug__" : Str))=false:=by decide) (he:wC (e::es) X.env=(false,eval e X.env)::wC es X.env:=by rfl) (hpl:(Wh pos (wC es X.env)).any (·.1)=false:=by rfl) :
  PE X (.Call (.Name x p) (e::es) [] pos) (Et C sp W t):=by
 intro pins s σ H Q I h;refine VZ (nH I hg hm ?_ hdb);refine WG (h₀:=X.base) I.ok.mod.fK M.kp (au (ha pos pins s σ H _ I h) λus s ⟨vs,H,I,r,h⟩=>⟨I.bE,?_⟩) he hpl;have hq:=h (s.heap.objs.size+1) s.heap.objs.size (I.az.fresh (QF _)) (I.az.fresh (wo _)) (wS (Q8 _));have I2:=Inv.made (C:=C) I;have r2:aE (V.ref (s.heap.objs.size+1)::vs) (Value.ref (s.heap.objs.size+1)::us):=.cons rfl r
 have hl:(Value.ref (s.heap.objs.size+1)::us++[]).length=ps.length:=by
  have e:=r2.length;rw[F.len _ _ _ _ hq]at e;rw[vS];exact e.symm
 have hbd:=hb {s with heap:=(s.heap.push Wj).push (WM C s.heap.objs.size)} (Value.ref (s.heap.objs.size+1)::us) I2.bE hl;rw[vS]at hbd
 refine wpAny_call (Lm (f:=f) I.bE M.makes M.init (beq_iff_eq.mp M.fn) (qc (F.run _ X.stack _ _ ⟨Value.ref (s.heap.objs.size+1)::us,[]⟩ (Value.ref (s.heap.objs.size+1)::us) _ _ (W σ) (hr.make C us [])
  (I2.oA.make C us []) hbd r2 hq) λr s' hq'=>?_))
 cases r with
 | error e=>exact hx pins σ _ _ e s' I2 hq'
 | ok fl =>
  cases fl with
  | ret u =>
   obtain⟨v,H',I3,rv,ev,q3⟩:=I2.after hq';subst ev;exact⟨rv,⟨V.ref (s.heap.objs.size+1),H',I3,rfl,q3⟩⟩
  | next=>exact vN hq'
  | brk=>exact vN hq'
  | cont=>exact vN hq'
end
def oE(K:wa):List V->Hp->VK->Prop:=λxs H Q=>dH K xs H Q \/ ∃(p:wc)(T:String)(kvs:List (Key × V))(b:Bool),xs=[.ref p,.ty T]/\H p=some (.dK kvs)/\wf K (.type "dict") (.type T)=some b/\Q (.bl b) H
theorem ztp{X:Cx} : aM X (.builtin "isinstance") (oE X.K):=by
 intro pins s σ H xs us Q I r h;rcases h with h | h
 ·exact gW pins s σ H xs us Q I r h
 ·obtain⟨p,T,kvs,b,rfl,hp,e,q⟩:=h
  obtain⟨u,w',rfl,rx,rt⟩:=ig r;cases (show w'=Value.type T from rt);cases (show u=Value.ref p from rx);obtain⟨_,_,vs,_,o,es,ep,h1,h2,_⟩:=(show cM X.prog X.w H s.heap p (.dK kvs)from I.az p _ hp);exact WB qV I.bE ⟨o,h1,h2.1⟩ e (λz=>nomatch z) λtk=>⟨.bl b,H,I.tok _,rfl,q⟩
theorem zvE{K:wa}{H:Hp}{Q:VK}{p:wc}{kvs:List (Key × V)}(h:H p=some (.dK kvs))(q:Q (.bl false) H):oE K [.ref p,.ty "str"] H Q:=.inr ⟨p,"str",kvs,false,rfl,h,rfl,q⟩
def jo(H:Hp)(v:V)(os:List V)(xs:List Str):Prop:=∃l,v=.ref l/\H l=some (.lst (os++xs.map V.str))
theorem jo.by{H H':Hp}{v:V}{os:List V}{xs:List Str}(h:jo H v os xs)(s:ae H H'):jo H' v os xs:=let ⟨l,e,g⟩:=h;⟨l,e,s _ _ g⟩
theorem jo.go{σ : St}{H:Hp}{v:V}{os:List V}{xs ys:List Str}{tb:TE}{i:Nat}{Q:VK}(h:jo H v os xs)(hb:cO tb σ H ys)(q:∀w H',ae H H'->jo H' w os (xs++ys)->Q w H')(e : σ[i]? = some (some v):=by rfl)(z:(os++xs.map V.str).length+ys.length<=wr:=by decide):cW g_ (cQ i) tb σ H Q:=by
 refine⟨v,e,hb H _ (ae.refl _) λw H3 s3 h3=>?_⟩;obtain⟨l,rfl,g⟩:=h.by s3;obtain⟨k,rfl,g3⟩:=h3;exact pQ g g3 (by rw[we];exact z) λc H' _ s' e'=>q _ H' (s3.trans s') ⟨c,rfl,by rw[vJ,<- Vo];exact e'⟩
structure nv(P:wO)(w:wN)(K:wa)(mg:Str->Option wd)(base:wK)(CX:dI)(k:Nat)(f:wc)(fd:wt)(ps:List Str)(sp:Sp):Prop where
 len:∀vs H Q E,sp vs H Q E->vs.length=ps.length
 run:∀(A:va)(outer:List Env)(s:wl)(H:Hp)(args:Args)(us:List wd)(vs:List V)(Q:VK)(E:XK),bP k A->kG P w K mg base A outer s H->1<=s.toks->BindsTo s fd args (ps.zip us)->aE vs us->sp vs H Q E ->
   VN (model P w) A (.call (.ref f) args) (CR CX outer P w H s Q E) s
section
variable{P:wO}{w:wN}{K:wa}{mg:Str->Option wd}{base:wK}{CX:dI}{k:Nat}{f:wc}{fd:wt}{ps:List Str}{sp:Sp}
variable{qual:Str}
theorem aC.p(F:aC P w K mg base CX k f fd ps sp):nv P w K mg base CX k f fd ps sp :=
 ⟨F.len,λA outer s H args us vs Q E h1 h2 _ h3 h4 h5=>F.run A outer s H args us vs Q E h1 h2 h3 h4 h5⟩
theorem zzH{M:Model}{A:va}{E:wd->wl->Prop}{s:wl}{scope:Scope}{globals:wc}{binds:List (Str × wd)}{func:Option wc}{code:wd}{builtins:wc}{Q:Env->wl->Prop}(hk:1<=s.toks)(h1:scope.kind=ScopeKind.function)
  (h2:∀x∈binds,scope.names.lookup x.1=some .local\/scope.names.lookup x.1=some .cell/\((cellsFrom (s.heap.objs.size+1) scope.names []).lookup x.1).isSome=true)
  (q:∀env,env=newEnv scope s.heap.objs.size globals (cellsFrom (s.heap.objs.size+1) scope.names []) qual func code none builtins->∀s',InCallC s env.locals (bindL env.kindOf binds λ_=>none) env.cells (bindC env.kindOf binds λ_=>none) s'->1<=s'.toks->Q env s') :
  wq M A (newFunctionEnv scope globals [] binds qual func code none builtins) Q E s :=
 au (gi 1 hk (wpAny_newFunctionEnv_cells (Q:=λenv s'=>env=newEnv scope s.heap.objs.size globals (cellsFrom (s.heap.objs.size+1) scope.names []) qual func code none builtins/\InCallC s env.locals (bindL env.kindOf binds λ_=>none) env.cells (bindC env.kindOf binds λ_=>none) s') h1 h2 λenv he s' x=>⟨he,x⟩)) λenv s' ⟨⟨he,x⟩,k⟩=>q env he s' x k
theorem zDu{name:Str}{params:Arguments}{body:List wJ}{scope:Scope}{dV kV doc pm cdv ct oc:wd}{an od:Option wc}
  {osl:Array (Option wd)} {N:List Str} (lk:K.lookup f=some ⟨oc,od,.func (WI name qual params body scope dV kV doc pm an cdv ct),osl⟩) (hcd:V6 K cdv qual=true) (S:aH N ps scope)
  (len:∀vs H Q E,sp vs H Q E->vs.length=ps.length)
  (hbody:∀(A:va)(outer:List Env)(s:wl)(H:Hp)(vs:List V)(Q:VK)(E:XK),bP k (A.deeper (envOfC qual scope s.heap.objs.size f cdv))->sp vs H Q E ->
   ∃t,jT (fb CX P w K mg base N qual scope f cdv A outer s H E) body t/\t {nx:=λ_ H'=>Q .bh H',rt:=Q} (start N vs) H) :
  nv P w K mg base CX (k+1) f (WI name qual params body scope dV kV doc pm an cdv ct) ps sp:=by
 refine⟨len,λA outer s H args us vs Q E hr e0 hk hb r hsp=>?_⟩;have hl:=len _ _ _ _ hsp;have KX:K.In s.heap:=e0.mod.fK.keeps λb o e=>(e0.bs b o e).1
 have lim:s.heap.NoLimit:=e0.mod.nolimit.keeps λb o e=>(e0.bs b o e).1
 have hkind:∀y∈ps.zip us,scope.names.lookup y.1=some .local\/(scope.names.lookup y.1=some .cell/\((cellsFrom (s.heap.objs.size+1) scope.names []).lookup y.1).isSome=true):=λ⟨n,v⟩ hy=>by
  rcases S.par n (Qm hy).1 with q | q
  ·exact .inl q
  ·exact .inr ⟨q,qZ _ _ _ (.inl q)⟩
 refine codeAny_call_function hr.depth (KX _ _ lk) rfl S.co S.gen rfl (Xe KX hcd) (hb _ _ _ _ ?_);refine zzH hk S.kind hkind λenv he s1 x hk1=>?_
 subst he;refine⟨lim.keeps x.toInCall.keep,codeAny_func ?_⟩;obtain⟨t,ht,hq⟩:=hbody A outer s H vs Q E (hr.deeper _) hsp;have I:Inv (fb CX P w K mg base N qual scope f cdv A outer s H E) [] (start N vs) H s1:=SV S hr.hd e0 hl r x;refine vH (ht [] s1 (start N vs) H _ I hk1 hq) (λfl s' hs=>?_) λe s' hs=>hs
 have fin:∀{σ':St}{H':Hp}{v:V}{u:wd},Inv (fb CX P w K mg base N qual scope f cdv A outer s H E) [] σ' H' s'->aV v u->Q v H'->CE outer P w H s Q u s' :=
  λ{σ' H' v u} J rv q=>⟨v,H',J.os,J.bare,J.base,J.az,rv,q⟩
 cases fl with
 | ret u =>
  obtain⟨v,σ',H',J,rv,q⟩:=hs;exact fin J rv q
 | next =>
  obtain⟨σ',H',J,q⟩:=hs;exact fin (v:=V.bh) (u:=Value.none) J rfl q
 | brk =>
  obtain⟨_,_,_,q⟩:=hs;exact vN q
 | cont =>
  obtain⟨_,_,_,q⟩:=hs;exact vN q
theorem jT.kP{X:Cx}{st:List wJ}{t:TS}(h:jT X.kP st t):jT X st t:=λpins s σ H D I hk hw =>
 vH (h pins s σ H D (I.gY _) hk hw) (λ_ _ q=>q.jz) λ_ _ z=>vN z
theorem ik.okp{x:Str}{st:wJ}{N:List Str}(F:ik K x qual st f fd)(S:aH N ps (aD st))(len:∀vs H Q E,sp vs H Q E->vs.length=ps.length)
  (hbody:∀(cdv:wd)(A:va)(outer:List Env)(s:wl)(H:Hp)(vs:List V)(Q:VK)(E:XK),bP k (A.deeper (envOfC qual (aD st) s.heap.objs.size f cdv))->sp vs H Q E ->
   ∃t,jT (fb aO P w K mg base N qual (aD st) f cdv A outer s H E).kP (iE st) t/\t {nx:=λ_ H'=>Q .bh H',rt:=Q} (start N vs) H):nv P w K mg base aO (k+1) f fd ps sp:=by
 obtain⟨oc,od,kV,doc,pm,an,cdv,ct,osl,rfl,lk,hcd⟩:=F.ex;refine zDu lk hcd S len λA outer s H vs Q E hr hsp=>?_
 obtain⟨t,h,q⟩:=hbody cdv A outer s H vs Q E hr hsp;exact⟨t,h.kP,q⟩
end
def zB(X:Cx)(E:XK)(fs:List (wc × Sp)):Prop:=∀f sp,(f,sp)∈fs->∃CX k fd ps,nv X.prog X.w X.K X.mg X.base CX k f fd ps sp/\bP k X.A/\Wl X.K (.ref f)=true/\dN X.K fd ps []/\d_ CX X E
section
variable{X:Cx}{CX:dI}{k:Nat}{f:wc}{fd:wt}{ps:List Str}{sp:Sp}{E:XK}{p pos:Pos}{c e a b:Expr}{es:List Expr}{ta tb tf te:TE}{t:TA}{fs:List (wc × Sp)}{st:wJ}{ts tu:TS}{s1 s2:List wJ}
theorem zzA:zB X E []:=λ_ _ h=>nomatch h
theorem C3(F:nv X.prog X.w X.K X.mg X.base CX k f fd ps sp)(hr:bP k X.A)(hk:Wl X.K (.ref f)=true)(hb:dN X.K fd ps [])(hx:d_ CX X E)(r:zB X E fs):zB X E ((f,sp)::fs):=λf' sp' h=>by
 rcases wz.mp h with h | h
 ·cases h
  exact⟨CX,k,fd,ps,F,hr,hk,hb,hx⟩
 ·exact r f' sp' h
theorem zwp(hc:PE X c tf)(hF:zB X E fs)(ha:PA X (e::es) t)(he:wC (e::es) X.env=(false,eval e X.env)::wC es X.env:=by rfl)(hpl:(Wh pos (wC es X.env)).any (·.1)=false:=by rfl)
  (ht:eval (.Call c (e::es) [] pos) X.env=(do
   let f <- eval c X.env
   callWith pos f [] (Wh pos (wC (e::es) X.env)) (backToKw pos (qw [] X.env))):=by rfl) :
  lG X (.Call c (e::es) [] pos) (Df fs E tf t):=by
 intro pins s σ H Q I k0 h;rw[ht];refine wj (au (gi 1 k0 (hc pins s σ H _ I h)) λu s1 ⟨⟨v,H1,I1,r,f,sp,ev,hm,q⟩,k1⟩=>?_);subst ev;obtain rfl:u=Value.ref f:=r;obtain⟨CX,k,fd,ps,F,hr,hk,hb,hx⟩:=hF f sp hm;refine WG (h₀:=X.base) I1.ok.mod.fK hk (au (gi 1 k1 (ha pos pins s1 σ H1 _ I1 q)) λus s2 ⟨⟨vs,H2,I2,r,q⟩,k2⟩=>⟨I2.bE,?_⟩) he hpl;have hl:us.length=ps.length:=by rw[<- r.length];exact F.len _ _ _ _ q
 have hbd:BindsTo s2 fd ⟨us,[]⟩ (ps.zip us):=by simpa using hb s2 us I2.bE (by simpa using hl)
 refine wpAny_call (qc (F.run X.A X.stack s2 H2 ⟨us,[]⟩ us vs Q E hr I2.oA k2 hbd r q) λr s' hq=>?_);cases r with
 | error e=>exact hx pins σ H2 s2 e s' I2 hq
 | ok fl =>
  cases fl with
  | ret u=>exact I2.after hq
  | next=>exact vN hq
  | brk=>exact vN hq
  | cont=>exact vN hq
theorem Ff(he:lG X e te):yb X (.Return (some e) pos) (z5 te):=by
 intro pins s σ H D I k h;exact wpAny_Return_some (au (he pins s σ H _ I k h) λv s1 ⟨x,H1,I1,r1,q1⟩=>⟨x,σ,H1,I1,r1,q1⟩)
theorem DE(h1:yb X st ts):jT X [st] ts:=by
 intro pins s σ H D I k h;refine ql (au (h1 pins s σ H D I k h) λf s1 q=>?_);cases f with
 | next=>exact VW q
 | ret v=>exact q
 | brk=>exact q
 | cont=>exact q
theorem zBV{r:R2}(ho:aY X (vk .Eq) r)(ha:PE X a ta)(hb:pJ X b tb)(h1:dG X s1 ts)(h2:dG X s2 tu):Bh X (.If (.Compare a [.Eq] [b] p) s1 s2 pos) (pF (lq (cW r ta tb)) ts tu):=by
 intro pins s σ H D I h
 refine wpAny_If (au (Q:=λd s'=>(∃H1,Inv X pins σ H1 s'/\(if d=true then ts D σ H1 else tu D σ H1))/\1<=s'.toks) (wpAny_isTrue_Compare1 (au (ha pins s σ H _ I h) λv s1 ⟨x,H1,I1,r1,q1⟩=>au (hb pins s1 σ H1 _ I1 q1) λu s2 ⟨⟨y,H2,I2,r2,q2⟩,k2⟩ =>
  au (gi 1 k2 (ho pins s2 σ H2 x y v u _ I2 r1 r2 q2)) λc s3 ⟨⟨z,H3,I3,r3,k,e,q3⟩,k3⟩=>?_) (cN b)) λd s1 ⟨⟨H1,I1,q1⟩,k1⟩=>?_)
 ·subst e
  cases r3;exact vT ⟨⟨H3,I3,q3⟩,k3⟩
 ·cases d with
  | true=>exact gi 1 k1 (h1 pins s1 σ H1 D I1 q1)
  | false=>exact gi 1 k1 (h2 pins s1 σ H1 D I1 q1)
theorem zAv{op:CmpOp}{r:R2}(ho:aY X (vk op) r)(ha:PE X a ta)(hb:lG X b tb)(hm:W4 op b=false):lG X (.Compare a [op] [b] pos) (cW r ta tb):=by
 intro pins s σ H Q I k h;exact wpAny_Compare1 (au (gi 1 k (ha pins s σ H _ I h)) λv s1 ⟨⟨x,H1,I1,r1,q1⟩,k1⟩=>au (hb pins s1 σ H1 _ I1 k1 q1) λu s2 ⟨y,H2,I2,r2,q2⟩=>ho pins s2 σ H2 x y v u Q I2 r1 r2 q2) hm
theorem zw9(ha:PE X a ta)(hb:lG X b tb):lG X (.BoolOp .And [a,b] pos) (AB ta tb):=by
 intro pins s σ H Q I k h;refine BoolOp_and (au (gi 1 k (ha pins s σ H _ I h)) λv s1 ⟨⟨x,H1,I1,r1,q1⟩,k1⟩=>?_);obtain⟨c,rfl,q1⟩:=q1;cases r1;refine vT ?_;cases c with
 | true=>exact BoolOp_one (hb pins s1 σ H1 Q I1 k1 q1)
 | false=>exact⟨.bl false,H1,I1,rfl,q1⟩
variable{C:wc}{m:Str}{o:Expr}{dvs:List V}{ds:List wd}{apos:Pos}
theorem zxP{pl:Sem Bool}(he:PE X o ta)(c:fh X.K C)(hm:jX X.K C m f)(F:aC X.prog X.w X.K X.mg X.base CX k f fd ps sp)(hr:bP k X.A)(hb:dN X.K fd ps ds)(hd:aE dvs ds)(hx:d_ CX X E)(ha:LW X (e::es) t)
  (hst:wC (e::es) X.env=(false,eval e X.env)::wC es X.env:=by rfl) (hpl:(Wh pos (wC es X.env)).any (·.1)=false:=by rfl)
  (ht:eval (.Call (.Attribute o m apos) (e::es) [] pos) X.env=(do
   let ov <- eval o X.env
   standAt apos.atName
   let (f,fst0) <- holding [ov] (getMethod ov m pl)
   callWith pos f fst0 (Wh pos (wC (e::es) X.env)) (backToKw pos (qw [] X.env))):=by rfl) :
  pJ X (.Call (.Attribute o m apos) (e::es) [] pos) (sJ C m sp dvs E ta t):=by
 intro pins s σ H Q I h;refine V5 (pl:=pl) (au (he pins s σ H _ I h) λu s1 ⟨x,H1,I1,rx,a,dx,fs,ex,ea,l,q⟩=>?_) ht;subst ex;obtain rfl:u=Value.ref a:=rx;refine zo I1 ea c hm l ?_;refine WG (first:=[.ref a]) (h₀:=X.base) I.ok.mod.fK hm.kp (au (ha pos pins s1 σ H1 _ I1 q) λus s2 ⟨⟨vs,H2,I2,r,q2⟩,k2⟩=>⟨I2.bE,gi 1 k2 ?_⟩) hst hpl;exact oB (us:=.ref a::us) (vs:=.ref a::vs) F hr hb hd hx I2 (.cons rfl r) q2
end
section
variable{K:wa}{H:Hp}{Q:VK}{o C dx:wc}{fs:List (Str × V)}{m:Str}{σ : St}{i:Nat}{sp:Sp}{W:St->XK}{t:TA}{dvs:List V}{E:XK}
theorem zxB(e:H o=some (.ins C dx fs))(h:t σ H λvs H2=>sp (.ref o::vs) H2 Q (W σ))(hm:fs.lookup m=none:=by rfl)(hs : σ[i]? = some (some (.ref o)):=by rfl):Fv C m sp W (cQ i) t σ H Q:=⟨.ref o,hs,o,dx,fs,rfl,e,hm,h⟩
theorem gr(e:H o=some (.ins C dx fs))(h:t σ H λvs H2=>sp (.ref o::(vs++dvs)) H2 Q E)(hm:fs.lookup m=none:=by rfl)(hs : σ[i]? = some (some (.ref o)):=by rfl):sJ C m sp dvs E (cQ i) t σ H Q:=⟨.ref o,hs,o,dx,fs,rfl,e,hm,h⟩
theorem Zt(h:t σ H λvs H1=>∀x dx H2,H1 x=none->ae H1 H2->H2 x=some (.ins C dx [])->sp (.ref x::vs) H2 (λv H2=>v=.bh/\Q (.ref x) H2) (W σ))(hmono:∀(P P':List V->Hp->Prop),(∀vs H1,P vs H1->P' vs H1)->t σ H P->t σ H P'):Et C sp W t σ H Q :=
 hmono _ _ (λvs H1 g x dx hx hd n=>g x dx _ hx ((ae.upd hd).trans (ae.upd (by rw[bV (WC n)];exact hx))) bW) h
end
def Sq(K:wa)(ta:TE):TE:=λσ H Q=>ta σ H λx H1=>lY K x H1 λc H2=>Q (.bl (!c)) H2
theorem zAx{X:Cx}{a:Expr}{pos:Pos}{ta:TE}(ha:PE X a ta):PE X (.UnaryOp .Not a pos) (Sq X.K ta):=by
 intro pins s σ H Q I h;refine UnaryOp_ (au (ha pins s σ H _ I h) λv s1 ⟨x,H1,I1,r1,k,q1⟩=>?_);exact not_of (au (Nu pins s1 σ H1 x v (λc H2=>Q (.bl (!c)) H2) I1 r1 ⟨k,q1⟩) λc s2 ⟨H2,I2,q2⟩=>⟨.bl (!c),H2,I2,rfl,q2⟩)
theorem zzX{K:wa}{σ : St}{H:Hp}{Q:VK}{ta:TE}(h:ta σ H λx H1=>lY K x H1 λc H2=>Q (.bl (!c)) H2):Sq K ta σ H Q:=h
section
variable{K:wa}{H H' H2:Hp}{Q:VK}{o C dx:wc}{fs:List (Str × V)}{v x:V}{m:Str}{σ : St}{i:Nat}{ta:TE}{D:ck}
theorem fq(h:H o=some (.ins C dx fs))(c:fh K C)(n:fT K C m)(l:fs.lookup m=some v)(q:Q v H)(hs : σ[i]? = some (some (.ref o)):=by rfl):LS K (cQ i) m σ H Q:=⟨.ref o,hs,o,C,dx,fs,v,rfl,h,c,n,l,q⟩
theorem lj{P:Hp->Prop}(h:H o=some (.ins C dx fs))(c:fh K C)(n:fT K C m)(q:∀H',Exc o H H'->H' o=some (.ins C dx (cy m v fs))->P H')(l:fs.length<1000:=by simp) :
  ∃a C dx fs,V.ref o=.ref a/\H a=some (.ins C dx fs)/\fh K C/\fT K C m/\fs.length<1000/\P (upd H a (.ins C dx (cy m v fs))):=⟨o,C,dx,fs,rfl,h,c,n,l,q _ (Exc.upd o H _) bW⟩
theorem ND:∀{vs:List V}{ds:List wu}{d:wu},aq K H vs (ds++[d])->∃us u,vs=us++[u]/\aq K H us ds/\Is K H u d
 | vs,[],d,h=>by
  obtain⟨x,r,rfl,i,t⟩:=dw.mp h;rw[fS.mp t];exact⟨[],x,rfl,.nil,i⟩
 | vs,e::ds,d,h=>by
  obtain⟨x,r,rfl,i,t⟩:=dw.mp h;obtain⟨us,u,rfl,h1,h2⟩:=ND t;exact⟨x::us,u,rfl,.cons i h1,h2⟩
theorem mj{tv:TE}(h:tv σ H λy H1=>ta σ H1 λx H2=>∃a C dx fs,x=.ref a/\H2 a=some (.ins C dx fs)/\fh K C/\fT K C m/\fs.length<1000/\D.nx σ (upd H2 a (.ins C dx (cy m y fs)))):Ly K ta tv m D σ H:=h
theorem Exc.j9(e:Exc o H H')(h:H o=some (.ins C dx fs)):aZ H H' :=
 ⟨λb ys hb=>e b _ (λz=>by subst z;rw[h]at hb;cases hb) hb,λb u w hb=>e b _ (λz=>by subst z;rw[h]at hb;cases hb) hb⟩
theorem zAi{l:wc}{xs:List V}{y:V}(h:H l=some (.lst (xs++[y])))(q:∀H',Exc l H H'->H' l=some (.lst xs)->Q y H'):Mh (.ref l) [] H Q:=by
 have q:=q (upd H l (.lst xs)) (Exc.upd l H _) bW;refine⟨l,xs++[y],y,rfl,rfl,h,by simp,?_⟩;rw[xM];exact q
end
def iG(H:Hp)(v:V)(P:Hp->V->Prop)(n:Nat):Prop:=∃l us,v=.ref l/\H l=some (.lst us)/\us.length=n /\ ∀u∈us,P H u
def lK(P:Hp->V->Prop):Prop:=∀H H' v,ae H H'->P H v->P H' v
def dz(te:TE)(σ : St)(H:Hp)(P:Hp->V->Prop):Prop:=∀H1 Q,ae H H1->(∀v H',ae H1 H'->P H' v->Q v H')->te σ H1 Q
def zX(t:TA)(σ : St)(H:Hp)(P:Hp->V->Prop)(n:Nat):Prop:=∀H1 Q,ae H H1->(∀vs H',ae H1 H'->vs.length=n->(∀v∈vs,P H' v)->Q vs H')->t σ H1 Q
section
variable{K:wa}{H H':Hp}{σ : St}{P R:Hp->V->Prop}{te ta tb:TE}{t:TA}{n m i:Nat}{v:V}{d:Str}
variable{Q:VK}
theorem iG.by(st:lK P)(s:ae H H')(h:iG H v P n):iG H' v P n:=let ⟨l,us,e,g,z,k⟩:=h;⟨l,us,e,s _ _ g,z,λu hu=>st _ _ _ s (k u hu)⟩
theorem dz.go(h:dz te σ H P)(q:∀v H',ae H H'->P H' v->Q v H'):te σ H Q:=h H Q (ae.refl _) q
theorem Dk(h:∀H,R H v):dz (tC v) σ H R:=λH1 Q _ q=>q _ H1 (ae.refl _) (h H1)
theorem Zy{xs:List Str}(h:cO te σ H xs):dz te σ H λH v=>dJ H v xs:=λH1 Q s q=>h H1 Q s q
theorem zAR(h:dz te σ H R)(k:∀H v,R H v->P H v):dz te σ H P:=λH1 Q s q=>h H1 Q s λv H' s' r=>q v H' s' (k _ _ r)
theorem zEc(st:lK R)(h:dz ta σ H R)(k:∀H' t w,R H' w->H' t=some (.tup [w,.str d])->P H' (.ref t)):dz (pW K (dj ta (dj (tC (.str d)) eI))) σ H P:=λH1 Q s q =>
 h H1 _ s λv H2 s2 r=>fG (K:=K) (by simp) λp H3 _ s3 e=>q _ H3 (s2.trans s3) (k _ _ _ (st _ _ _ s3 r) e)
theorem nS :zX eI σ H P 0:=λH1 Q _ q=>q [] H1 (ae.refl _) rfl λ_ h=>nomatch h
theorem gN(st:lK P)(ha:dz ta σ H P)(hb:zX t σ H P n):zX (dj ta t) σ H P (n+1):=λH1 Q s q =>
 ha H1 _ s λv H2 s2 r=>hb H2 _ (s.trans s2) λvs H3 s3 l k=>q _ H3 (s2.trans s3) (by rw[wQ,l]) (xN.mpr ⟨st _ _ _ s3 r,k⟩)
theorem mJ(st:lK P)(h:zX t σ H P n)(z:n<=1000:=by decide):dz (rf K t) σ H (λH v=>iG H v P n):=λH1 Q s q =>
 h H1 _ s λvs H2 s2 l k=>fj (by rw[l];exact z) λp H3 _ s3 e=>q _ H3 (s2.trans s3) ⟨p,vs,rfl,e,l,λu hu=>st _ _ _ s3 (k u hu)⟩
theorem oF(st:lK P)(h:iG H v P m)(hb:dz tb σ H (λH v=>iG H v P n))(e : σ[i]? = some (some v):=by rfl)(z:m+n<=wr:=by decide):dz (cW g_ (cQ i) tb) σ H (λH v=>iG H v P (m+n)):=λH1 Q s q =>
 ⟨v,e,hb H1 _ s λw H2 s2 h2=>by
  obtain⟨l,us,rfl,g,z1,k⟩:=h.by st (s.trans s2);obtain⟨l2,us2,rfl,g2,z2,k2⟩:=h2
  exact pQ g g2 (by rw[z1,z2];exact z) λc H' _ s' e'=>q _ H' (s2.trans s') ⟨c,_,rfl,e',by rw[vc,z1,z2],λu hu=>st _ _ _ s' (by
   rcases vR.mp hu with hu | hu
   ·exact k u hu
   ·exact k2 u hu)⟩⟩
theorem zAU(h:iG H v P n)(q:Q (.int (n:Int)) H):gy K [v] H Q:=by
 obtain⟨l,us,rfl,g,z,_⟩:=h;exact⟨l,us,rfl,.inl (.of g),by rw[z];exact q⟩
theorem zym{j:Int}(h:iG H v P n)(h0:0<=j)(h1:j<(n:Int))(q:∀u,P H u->Q u H):cV K v (.int j) H Q:=by
 obtain⟨l,us,rfl,g,z,k⟩:=h;obtain⟨j,rfl⟩:∃m:Nat,j=(m:Int):=⟨j.toNat,by omega⟩;have hj:j<us.length:=by omega
 exact dS (.of g) (gm (wg hj)) (q _ (k _ (Wi hj)))
end
end L2
namespace G
open PySem PySem.Spec PyProof.Rows L2 GM
local macro_rules | `(tactic| wtm_at "sc")=>`(tactic| exact ⟨rfl,rfl,rfl,by decide +kernel,rfl,by decide +kernel,by decide +kernel⟩)
def top(i:Nat):wJ:=vV.main.body.getD i (.Pass ⟨0,0,0,0⟩)
abbrev Fy:wJ:=top 14
abbrev DI:List Str:=["thing"]
abbrev yZ:=DI
theorem zru:aH DI yZ (aD Fy):=by wtm_at "sc"
abbrev EY:wJ:=top 15
abbrev A4:List Str:=["least","most","thing"]
abbrev uS:=A4
theorem zkC:aH A4 uS (aD EY):=by wtm_at "sc"
abbrev DN:wJ:=top 16
abbrev R1:List Str:=["one","other","rest"]
abbrev yI:List Str:=["one","other"]
theorem yj:aH R1 yI (aD DN):=by wtm_at "sc"
abbrev Bm:wJ:=top 17
abbrev CL:List Str:=["thing"]
abbrev ym:=CL
theorem Z2:aH CL ym (aD Bm):=by wtm_at "sc"
abbrev FC:wJ:=top 18
abbrev MN:List Str:=["one","other","shared","top","divisor"]
abbrev tF:List Str:=["one","other"]
theorem zH:aH MN tF (aD FC):=by wtm_at "sc"
abbrev CD:wJ:=top 19
abbrev DY:List Str:=["one","other"]
abbrev yp:=DY
theorem zyn:aH DY yp (aD CD):=by wtm_at "sc"
abbrev EB:wJ:=top 20
abbrev RT:List Str:=["one","other","first","second"]
abbrev tV:List Str:=["one","other"]
theorem Az:aH RT tV (aD EB):=by wtm_at "sc"
abbrev B8:wJ:=top 22
abbrev FR:List Str:=["one","other"]
abbrev si:=FR
theorem zAJ:aH FR si (aD B8):=by wtm_at "sc"
abbrev B_:wJ:=top 27
abbrev Bg:List Str:=["a"]
abbrev yF:=Bg
theorem zq6:aH Bg yF (aD B_):=by wtm_at "sc"
abbrev Eb:wJ:=top 28
abbrev Cs:List Str:=["b"]
abbrev zg:=Cs
theorem zsL:aH Cs zg (aD Eb):=by wtm_at "sc"
abbrev EF:wJ:=top 29
abbrev Bc:List Str:=["a","b"]
abbrev yc:=Bc
theorem zre:aH Bc yc (aD EF):=by wtm_at "sc"
abbrev DC:wJ:=top 30
abbrev Bt:List Str:=["thing"]
abbrev sx:=Bt
theorem zua:aH Bt sx (aD DC):=by wtm_at "sc"
abbrev EW:wJ:=top 32
abbrev MS:List Str:=["rule","many","factor","shift","done"]
abbrev yP:List Str:=["rule","many"]
theorem mW:aH MS yP (aD EW):=by wtm_at "sc"
abbrev Ba:wJ:=top 33
abbrev B4:List Str:=["push","x"]
abbrev uY:=B4
theorem Zw:aH B4 uY (aD Ba):=by wtm_at "sc"
abbrev CW:wJ:=top 35
abbrev C4:List Str:=["thing","worms"]
abbrev ze:=C4
theorem ZI:aH C4 ze (aD CW):=by wtm_at "sc"
abbrev BD:wJ:=top 36
abbrev Oi:List Str:=["order","things","told","worm","thing"]
abbrev uL:List Str:=["order","things"]
theorem x_:aH Oi uL (aD BD):=by wtm_at "sc"
abbrev BM:wJ:=top 37
abbrev Fd:List Str:=["swarm","order"]
abbrev zw:=Fd
theorem zq9:aH Fd zw (aD BM):=by wtm_at "sc"
abbrev ES:wJ:=top 41
abbrev Bb:List Str:=["thing"]
abbrev tq:=Bb
theorem zrH:aH Bb tq (aD ES):=by wtm_at "sc"
abbrev Cf:wJ:=top 42
abbrev B2:List Str:=["thing"]
abbrev yH:=B2
theorem zow:aH B2 yH (aD Cf):=by wtm_at "sc"
abbrev Cg:wJ:=top 43
abbrev BU:List Str:=["rule","phases"]
abbrev uU:=BU
theorem zr7:aH BU uU (aD Cg):=by wtm_at "sc"
abbrev Bf:wJ:=top 44
abbrev RP:List Str:=["phases","told","phase"]
abbrev uN:List Str:=["phases"]
theorem yy:aH RP uN (aD Bf):=by wtm_at "sc"
abbrev Ei:wJ:=top 45
abbrev Eu:List Str:=["phases","phase"]
abbrev tD:=Eu
theorem zrt:aH Eu tD (aD Ei):=by wtm_at "sc"
abbrev EZ:wJ:=top 46
abbrev Tc:List Str:=["swarm","told","left","phase"]
abbrev yz:List Str:=["swarm"]
theorem oJ:aH Tc yz (aD EZ):=by wtm_at "sc"
abbrev BY:wJ:=top 47
abbrev Bi:List Str:=["worms","phases"]
abbrev zU:=Bi
theorem zos:aH Bi zU (aD BY):=by wtm_at "sc"
abbrev Er:wJ:=top 48
abbrev MH:List Str:=["swarm","wait","phases","left","waves","wave","push","worm","anew"]
abbrev tN:List Str:=["swarm"]
theorem hU:aH MH tN (aD Er):=by wtm_at "sc"
abbrev AW:wJ:=top 49
abbrev AI:List Str:=["swarm","c"]
abbrev tK:=AI
theorem zxW:aH AI tK (aD AW):=by wtm_at "sc"
abbrev C7:wJ:=top 54
abbrev Cb:List Str:=["swarm"]
abbrev u3:=Cb
theorem ztV:aH Cb u3 (aD C7):=by wtm_at "sc"
abbrev DV:wJ:=top 55
abbrev R0:List Str:=["swarm","rows","sizes","places"]
abbrev zu:List Str:=["swarm"]
theorem yU:aH R0 zu (aD DV):=by wtm_at "sc"
abbrev SW:wJ:=top 65
abbrev zEE:List Str:=["rule","sizes","both","gap"]
abbrev El:List Str:=["rule","sizes"]
abbrev Rc:wJ:=top 73
abbrev zzo:List Str:=["rule","sizes","places","both","ahead","count"]
abbrev Es:List Str:=["rule","sizes","places"]
abbrev CS:wJ:=top 77
abbrev AS:List Str:=["row","worms"]
abbrev tT:=AS
theorem zpX:aH AS tT (aD CS):=by wtm_at "sc"
abbrev AK:wJ:=top 78
abbrev CC:List Str:=["thing","worms"]
abbrev zF:=CC
theorem zvH:aH CC zF (aD AK):=by wtm_at "sc"
abbrev Fx:wJ:=top 79
abbrev Ek:List Str:=["thing","worms"]
abbrev yq:=Ek
theorem zmT:aH Ek yq (aD Fx):=by wtm_at "sc"
abbrev Ca:wJ:=top 80
abbrev DG:List Str:=["thing","worms"]
abbrev tw:=DG
theorem zsr:aH DG tw (aD Ca):=by wtm_at "sc"
abbrev NY:wJ:=top 86
abbrev zDy:List Str:=["swarm","paper","row","following"]
abbrev Co:List Str:=["swarm","paper"]
abbrev DS:wJ:=top 95
abbrev LU:List Str:=["number","top","bottom"]
abbrev sS:List Str:=["number"]
theorem CN:aH LU sS (aD DS):=by wtm_at "sc"
abbrev EL:wJ:=top 96
abbrev Dq:List Str:=["numbers"]
abbrev ya:=Dq
theorem zl3:aH Dq ya (aD EL):=by wtm_at "sc"
abbrev BE:wJ:=top 98
abbrev PV:List Str:=["swarm","rule","worms"]
abbrev yL:List Str:=["swarm"]
theorem FQ:aH PV yL (aD BE):=by wtm_at "sc"
abbrev EN:wJ:=top 101
abbrev A0:List Str:=["text","most"]
abbrev zl:=A0
theorem zkE:aH A0 zl (aD EN):=by wtm_at "sc"
abbrev FN:wJ:=top 102
abbrev Oo:List Str:=["text","parts"]
abbrev sW:List Str:=["text"]
theorem Mb:aH Oo sW (aD FN):=by wtm_at "sc"
abbrev FU:wJ:=top 103
abbrev OX:List Str:=["text","most","parts","top","told"]
abbrev y9:List Str:=["text","most"]
theorem zq:aH OX y9 (aD FU):=by wtm_at "sc"
abbrev BV:wJ:=top 104
abbrev B3:List Str:=["words"]
abbrev sV:=B3
theorem zpZ:aH B3 sV (aD BV):=by wtm_at "sc"
abbrev BZ:wJ:=top 105
abbrev EC:List Str:=["words","most"]
abbrev ye:=EC
theorem zog:aH EC ye (aD BZ):=by wtm_at "sc"
abbrev B0:wJ:=top 106
abbrev Fw:List Str:=["text","between"]
abbrev u5:=Fw
theorem zs2:aH Fw u5 (aD B0):=by wtm_at "sc"
abbrev Du:wJ:=top 107
abbrev Ee:List Str:=["text"]
abbrev zY:=Ee
theorem zrw:aH Ee zY (aD Du):=by wtm_at "sc"
abbrev Fb:wJ:=top 108
abbrev Rz:List Str:=["text","lines","rule"]
abbrev t8:List Str:=["text"]
theorem AR:aH Rz t8 (aD Fb):=by wtm_at "sc"
abbrev BQ:wJ:=top 109
abbrev OT:List Str:=["text","parts","hour","phases","end"]
abbrev zZ:List Str:=["text"]
theorem pb:aH OT zZ (aD BQ):=by wtm_at "sc"
abbrev B9:wJ:=top 110
abbrev Kz:List Str:=["text","rows","worms"]
abbrev uO:List Str:=["text"]
theorem Fp:aH Kz uO (aD B9):=by wtm_at "sc"
abbrev Fz:wJ:=top 115
abbrev Fu:List Str:=["worms"]
abbrev tO:=Fu
theorem zmU:aH Fu tO (aD Fz):=by wtm_at "sc"
abbrev A2:wJ:=top 116
abbrev Mu:List Str:=["swarm","words","told","wait","waves"]
abbrev yC:List Str:=["swarm","words"]
theorem zv:aH Mu yC (aD A2):=by wtm_at "sc"
abbrev DX:wJ:=top 118
abbrev Be:List Str:=["swarm","words"]
abbrev sY:=Be
theorem zui:aH Be sY (aD DX):=by wtm_at "sc"
abbrev Fh:wJ:=top 119
abbrev Ck:List Str:=["swarm","words"]
abbrev sZ:=Ck
theorem ZV:aH Ck sZ (aD Fh):=by wtm_at "sc"
abbrev Ft:wJ:=top 120
abbrev DT:List Str:=["swarm"]
abbrev t_:=DT
theorem zn5:aH DT t_ (aD Ft):=by wtm_at "sc"
abbrev BG:wJ:=top 123
abbrev KP:List Str:=["swarm","both","count"]
abbrev zW:List Str:=["swarm"]
theorem FI:aH KP zW (aD BG):=by wtm_at "sc"
abbrev BP:wJ:=top 124
abbrev PX:List Str:=["swarm","places"]
abbrev sO:List Str:=["swarm"]
theorem Md:aH PX sO (aD BP):=by wtm_at "sc"
abbrev EO:wJ:=top 128
abbrev Ej:List Str:=["word"]
abbrev uM:=Ej
theorem zsQ:aH Ej uM (aD EO):=by wtm_at "sc"
abbrev C8:wJ:=top 129
abbrev DJ:List Str:=["word"]
abbrev zr:=DJ
theorem zlZ:aH DJ zr (aD C8):=by wtm_at "sc"
abbrev Bk:wJ:=top 130
abbrev AZ:List Str:=["first","words","worms"]
abbrev sA:=AZ
theorem zti:aH AZ sA (aD Bk):=by wtm_at "sc"
abbrev EI:wJ:=top 133
abbrev NM:List Str:=["_law_script","_law_k","_law_cell"]
abbrev yM:List Str:=["_law_script","_law_k"]
theorem Dx:aH NM yM (aD EI):=by wtm_at "sc"
abbrev CI:wJ:=top 134
abbrev Nq:List Str:=["_law_pen_here","_law_many","_law_digit","_law_mixed"]
abbrev yD:List Str:=["_law_pen_here","_law_many"]
theorem CJ:aH Nq yD (aD CI):=by wtm_at "sc"
abbrev BJ:wJ:=top 135
abbrev Nw:List Str:=["_law_top","_law_bottom","_law_one","_law_other"]
abbrev y7:List Str:=["_law_top","_law_bottom"]
theorem EA:aH Nw y7 (aD BJ):=by wtm_at "sc"
abbrev BR:wJ:=top 136
abbrev Te:List Str:=["_law_pen_here","_law_bottom","_law_top","_law_under","_law_more"]
abbrev tY:List Str:=["_law_pen_here"]
theorem nW:aH Te tY (aD BR):=by wtm_at "sc"
abbrev DP:wJ:=top 137
abbrev Pk:List Str:=["_law_pen_here","_law_many","_law_same","_law_way","_law_found","_law_k","_law_bottom"]
abbrev zL:List Str:=["_law_pen_here","_law_many"]
theorem nA:aH Pk zL (aD DP):=by wtm_at "sc"
abbrev Dy:wJ:=top 138
abbrev Dm:List Str:=["_law_one"]
abbrev yS:=Dm
theorem zp9:aH Dm yS (aD Dy):=by wtm_at "sc"
abbrev Cv:wJ:=top 139
abbrev Fm:List Str:=["_law_some"]
abbrev u7:=Fm
theorem zqW:aH Fm u7 (aD Cv):=by wtm_at "sc"
abbrev CM:wJ:=top 140
abbrev O3:List Str:=["_law_pen_here","_law_rule_here"]
abbrev zf:List Str:=["_law_pen_here"]
theorem M4:aH O3 zf (aD CM):=by wtm_at "sc"
abbrev Fg:wJ:=top 141
abbrev Ds:List Str:=["_law_swarm_here"]
abbrev tG:=Ds
theorem zsU:aH Ds tG (aD Fg):=by wtm_at "sc"
abbrev DB:wJ:=top 142
abbrev Rl:List Str:=["_law_caught","_law_kinds"]
abbrev tH:List Str:=["_law_caught"]
theorem DD:aH Rl tH (aD DB):=by wtm_at "sc"
abbrev BW:wJ:=pY (top 131) 2
abbrev EM:List Str:=["self","told"]
abbrev yY:=EM
theorem zmQ:aH EM yY (aD BW):=by wtm_at "sc"
abbrev Fc:wJ:=pY (top 131) 3
abbrev Pm:List Str:=["self","last"]
abbrev yk:List Str:=["self"]
theorem OG:aH Pm yk (aD Fc):=by wtm_at "sc"
abbrev AL:wJ:=pY (top 131) 4
abbrev Cn:List Str:=["self","text"]
abbrev zt:=Cn
theorem zhB:aH Cn zt (aD AL):=by wtm_at "sc"
abbrev Em:wJ:=pY (top 131) 1
abbrev OR:List Str:=["self","row","words","first"]
abbrev yx:List Str:=["self","row"]
theorem C5:aH OR yx (aD Em):=by wtm_at "sc"
abbrev FO:wJ:=top 143
abbrev Sg:List Str:=["_law_desk","_law_row","_law_caught","e"]
abbrev tP:List Str:=["_law_desk","_law_row"]
theorem yO:aH Sg tP (aD FO):=by wtm_at "sc"
abbrev Fq:wJ:=pY (top 131) 0
abbrev A8:List Str:=["self","text"]
abbrev zm:=A8
theorem zqV:aH A8 zm (aD Fq):=by wtm_at "sc"
abbrev DR:wJ:=top 144
abbrev Sw:List Str:=["_law_text_here","_law_caught","e"]
abbrev yu:List Str:=["_law_text_here"]
theorem sE:aH Sw yu (aD DR):=by wtm_at "sc"
abbrev C6:wJ:=top 145
abbrev Pz:List Str:=["_law_pen_here","_law_many","_law_order","_law_some"]
abbrev sM:List Str:=["_law_pen_here","_law_many"]
theorem dY:aH Pz sM (aD C6):=by wtm_at "sc"
abbrev Cy:wJ:=top 146
abbrev OW:List Str:=["_law_pen_here","_law_some"]
abbrev zJ:List Str:=["_law_pen_here"]
theorem lu:aH OW zJ (aD Cy):=by wtm_at "sc"
abbrev ED:wJ:=top 147
abbrev Me:List Str:=["_law_pen_here","_law_many","_law_order","_law_some"]
abbrev u_:List Str:=["_law_pen_here","_law_many"]
theorem nP:aH Me u_ (aD ED):=by wtm_at "sc"
abbrev DZ:wJ:=top 148
abbrev MZ:List Str:=["_law_pen_here","_law_many","_law_is_new","_law_is_behind","_law_way"]
abbrev zQ:List Str:=["_law_pen_here","_law_many","_law_is_new","_law_is_behind"]
theorem Mc:aH MZ zQ (aD DZ):=by wtm_at "sc"
abbrev AO:wJ:=top 149
abbrev Tu:List Str:=["_law_pen_here","_law_some"]
abbrev yh:List Str:=["_law_pen_here"]
theorem lQ:aH Tu yh (aD AO):=by wtm_at "sc"
abbrev sj:wJ:=top 150
abbrev OA:List Str:=["_law_script","_law_pen_here","_law_swarm_here","_law_desk","_law_many","_law_k","_law_hour","_law_text_here","_law_is_behind","_law_row","_law_due","_law_text_of"]
abbrev zc:List Str:=["_law_script"]
theorem fo:aH OA zc (aD sj):=by wtm_at "sc"
set_option genInjectivity false in
structure Ad where
 Jx:wc
 Hs:wt
 GB:wc
 F7:wt
 F6:wc
 FY:wt
 IX:wc
 G3:wt
 plus:wc
 JO:wt
 minus:wc
 Ji:wt
 times:wc
 Jd:wt
 less:wc
 JT:wt
 IK:wc
 Hk:wt
 Jg:wc
 HC:wt
 IV:wc
 He:wt
 JJ:wc
 Ib:wt
 Kc:wc
 I_:wt
 IM:wc
 Hl:wt
 JB:wc
 HH:wt
 J3:wc
 IF:wt
 IU:wc
 GU:wt
 JD:wc
 HM:wt
 Iv:wc
 Gy:wt
 Jy:wc
 Hu:wt
 Jt:wc
 HE:wt
 Jk:wc
 HI:wt
 J1:wc
 IS:wt
 Iz:wc
 GQ:wt
 r8:wc
 JI:wt
 moved:wc
 Je:wt
 JZ:wc
 HY:wt
 laid:wc
 JM:wt
 Ke:wc
 Jz:wt
 HU:wc
 Gk:wt
 IP:wc
 GZ:wt
 J4:wc
 IQ:wt
 HL:wc
 Gs:wt
 JF:wc
 Hr:wt
 JN:wc
 Iu:wt
 Ho:wc
 Gm:wt
 GV:wc
 Gf:wt
 Iw:wc
 Gw:wt
 GO:wc
 F9:wt
 IH:wc
 G2:wt
 Gr:wc
 FZ:wt
 Jb:wc
 G4:wt
 Ig:wc
 GP:wt
 Jp:wc
 Ht:wt
 Jf:wc
 Hv:wt
 Ia:wc
 GL:wt
 Kb:wc
 IT:wt
 Io:wc
 GR:wt
 Hq:wc
 Gj:wt
 rW:wc
 Il:wt
 rX:wc
 HZ:wt
 rH:wc
 Gh:wt
 rL:wc
 Gv:wt
 rQ:wc
 G_:wt
 rK:wc
 GA:wt
 Jh:wc
 HK:wt
 G5:wc
 Gd:wt
 JU:wc
 HW:wt
 JK:wc
 H_:wt
 Jo:wc
 HN:wt
 JW:wc
 Ir:wt
 Jj:wc
 Hw:wt
 HX:wc
 GJ:wt
 IW:wc
 Hm:wt
 I0:wc
 GW:wt
 ID:wc
 GX:wt
 Jn:wc
 HA:wt
 IG:wc
 G1:wt
 Af:wc
 Gu:wt
 Ab:wc
 Ge:wt
 z6:wc
 FW:wt
 As:wc
 HJ:wt
 Hz:wc
 Gn:wt
 Ar:wc
 Hh:wt
 JH:wc
 HP:wt
 Iy:wc
 GC:wt
 HD:wc
 Gi:wt
 Hg:wc
 Gb:wt
 Jv:wc
 HG:wt
 GF:wc
 F8:wt
 law:wc
 J6:wt
 bM:wc
 cG:wc
 cu:wc
 bC:wc
 cH:wc
 cI:wc
 jv:wc
 jw:wc
 ju:wc
 kS:wc
 bG:wc
 fQ:wc
 jA:wc
 z7:wc
 rS:wc
 rN:wc
 rY:wc
 oq:wc
 oh:wc
 oo:wc
 om:wc
structure Dn(K:wa)(mg:Str->Option wd)(n:Str)(st:wJ)(ps:List Str)(f:wc)(fd:wt):Prop where
 F:ik K n n st f fd
 g:mg n=some (.ref f)
 b:dN K fd ps []
section
variable{X:Cx}{x:Str}{f:wc}{fd:wt}{ps:List Str}{sp:Sp}{j k:Nat}{e:Expr}{es:List Expr}{t:TA}{pos pp:Pos}{st:wJ}{CX:dI}
theorem eY{E:XK}(F:aC X.prog X.w X.K X.mg X.base CX k f fd ps sp)(hr:bP j X.A)(D:Dn X.K X.mg x st ps f fd)(hx:d_ CX X E)(ha:PA X (e::es) t)(hj:k<=j:=by decide)(hg:Gl X x:=by exact rfl)
  (hdb:(x == ("__debug__" : Str))=false:=by decide) (he:wC (e::es) X.env=(false,eval e X.env)::wC es X.env:=by rfl) (hpl:(Wh pos (wC es X.env)).any (·.1)=false:=by rfl) :
  PE X (.Call (.Name x pp) (e::es) [] pos) (oH sp [] E t):=Tj F (hr.mono hj) hg D.g D.F.kp D.b .nil hx ha hdb he hpl
theorem av(F:aC X.prog X.w X.K X.mg X.base aO k f fd ps sp)(hr:bP j X.A)(D:Dn X.K X.mg x st ps f fd)(ha:PA X (e::es) t)(hj:k<=j:=by decide)(hg:Gl X x:=by exact rfl)
  (hdb:(x == ("__debug__" : Str))=false:=by decide) (he:wC (e::es) X.env=(false,eval e X.env)::wC es X.env:=by rfl) (hpl:(Wh pos (wC es X.env)).any (·.1)=false:=by rfl) :
  PE X (.Call (.Name x pp) (e::es) [] pos) (oH sp [] E0 t):=Tj F (hr.mono hj) hg D.g D.F.kp D.b .nil Lu ha hdb he hpl
theorem kD{ta:TE}{i:Int}{kd}(ha:PE X e ta):PE X (.Subscript e (.Constant (.int i) kd pp) pos) (cW (cV X.K) ta (tC (.int i))):=f_ eK ha aA (λ_ _=>rfl)
theorem Pp{K:wa}{ta:TE}{i:Int}{kd}(hr:gA X (cV K))(ha:PE X e ta):PE X (.Subscript e (.Constant (.int i) kd pp) pos) (cW (cV K) ta (tC (.int i))):=f_ hr ha aA (λ_ _=>rfl)
theorem aJ(i:Nat){te:TE}(hN:X.N.Nodup)(he:PE X e te)(hi:X.N[i]? = some x:=by exact rfl)(hx:Loc X.env.scope x:=by first | exact Or.inl rfl | exact Or.inr rfl)(hs:swapsWith e (some (.Name x pp)) pos.line X.env=pure false:=by rfl)(hf:X.fn x=true\/X.env.scope.names.lookup x=some .local:=by first | exact .inl rfl | exact .inr rfl | assumption) :
  PS X (.Assign [.Name x pp] e pos) (jn te (gg i)):=Tq hN hi hx he hs hf
end
section
variable{X:Cx}{x y z:Str}{e b:Expr}{es:List Expr}{t:TA}{ta tb:TE}{pos pp pq pr ps:Pos}
def Rs(K:wa)(H:Hp)(Q:VK)(d:wu):Prop:=∀v H',ae H H'->Is K H' v d->Q v H'
def Rq(H:Hp)(Q:VK)(v:V):Prop:=∀H',ae H H'->Q v H'
def Nm(X:Cx)(i:Nat)(x:Str):Prop:=X.N[i]? = some x/\yQ X.env.scope x/\(x == ("__debug__" : Str))=false/\(x == ("__classdict__" : Str))=false
theorem Nm.v{i:Nat}(h:Nm X i x):PE X (.Name x pos) (cQ i):=Kr h.1 h.2.1 h.2.2.1 h.2.2.2
theorem q1(i:Nat)(h:Nm X i x:=by wtm_at "nm"):PA X [.Name x pp] (dj (cQ i) eI):=aa h.v af kB
theorem q2(i j:Nat)(h:Nm X i x:=by wtm_at "nm")(k:Nm X j y:=by wtm_at "nm"):PA X [.Name x pp,.Name y pq] (dj (cQ i) (dj (cQ j) eI)):=aa h.v (aa k.v af kB) kB
theorem q3(i j k:Nat)(h:Nm X i x:=by wtm_at "nm")(h2:Nm X j y:=by wtm_at "nm")(h3:Nm X k z:=by wtm_at "nm"):PA X [.Name x pp,.Name y pq,.Name z pr] (dj (cQ i) (dj (cQ j) (dj (cQ k) eI))):=aa h.v (aa h2.v (aa h3.v af kB) kB) kB
theorem qi(i:Nat){n:Int}{kd}(h:Nm X i x:=by wtm_at "nm"):PE X (.Subscript (.Name x pp) (.Constant (.int n) kd pq) pos) (cW (cV X.K) (cQ i) (tC (.int n))):=kD h.v
theorem cD(K:wa)(hz:X.mg x=none)(ha:PA X (e::es) t)(hK:X.K=K:=by rfl)(hg:Gl X x:=by exact rfl)(hv:vG x=some (.builtin "len"):=by exact yn)(hn:x≠"__name__":=by decide)(hdb:(x == ("__debug__" : Str))=false:=by decide)
  (he:wC (e::es) X.env=(false,eval e X.env)::wC es X.env:=by rfl) (hpl:(Wh pos (wC es X.env)).any (·.1)=false:=by rfl):PE X (.Call (.Name x pp) (e::es) [] pos) (mK (gy K) t):=by
 subst hK;exact bH YX hg hz hv ha hn hdb he hpl
theorem fZ(K:wa)(hz:X.mg x=none)(ha:PA X (e::es) t)(hK:X.K=K:=by rfl)(hg:Gl X x:=by exact rfl)(hv:vG x=some (.type "tuple"):=by exact zev)(hn:x≠"__name__":=by decide)(hdb:(x == ("__debug__" : Str))=false:=by decide)
  (he:wC (e::es) X.env=(false,eval e X.env)::wC es X.env:=by rfl) (hpl:(Wh pos (wC es X.env)).any (·.1)=false:=by rfl):PE X (.Call (.Name x pp) (e::es) [] pos) (mK (oW K) t):=by
 subst hK;exact d5 zsg hg hz hv ha hn hdb he hpl
theorem iQ(K:wa)(hu:X.A.units+64<cLine)(ha:PE X e ta)(hb:PE X b tb)(hK:X.K=K:=by rfl):PE X (.Compare e [.Eq] [b] pos) (cW (jd K) ta tb):=by
 subst hK;exact fw (sF hu) ha hb (cN _)
theorem gD(K:wa)(hu:X.A.units+64<cLine)(ha:PE X e ta)(hb:PE X b tb)(hK:X.K=K:=by rfl):PT X (.Compare e [.Eq] [b] pos) (lq (cW (jd K) ta tb)):=by
 subst hK;exact en (sF hu) ha hb (cN _)
theorem eM(K:wa)(hu:X.A.units+64<cLine)(ha:PE X e ta)(hb:PE X b tb)(hK:X.K=K:=by rfl):PT X (.Compare e [.NotEq] [b] pos) (lq (cW (lV K) ta tb)):=by
 subst hK;exact en (LA hu) ha hb (cN _)
theorem cv(i:Nat)(hN:X.N.Nodup:=by exact of_decide_eq_true (by kernel_rfl))(hi:X.N[i]? = some x:=by rfl)(hx:Loc X.env.scope x:=by exact Or.inl rfl)(hf:X.fn x=true\/X.env.scope.names.lookup x=some .local:=by first | exact .inl rfl | exact .inr rfl | assumption):PG X (.Name x pos) (gg i):=fL hN hi hx hf
theorem cF(N':List Str){scope:Scope}(src:List (Option Nat))(hk:scope.kind=.function:=by rfl)(hc:Dv scope.names X.env.scope.names X.N N' src=true:=by kernel_rfl)(hf:∀x,X.env.scope.names.lookup x=some .cell->∃c,X.env.cells.lookup x=some c:=by exact λx h=>yw h):kA X N' scope (fR X.env.cells scope.names []) src:=.by hk hc hf
end
structure Txt(w:wN)(K:wa)(mg:Str->Option wd)(a:Ad):Prop where
 ou:Dn K mg "is_whole" Fy yZ a.Jx a.Hs
 z9:Dn K mg "is_whole_from" EY uS a.GB a.F7
 mC:Dn K mg "greatest_divisor" DN yI a.F6 a.FY
 kT:Dn K mg "is_number" Bm ym a.IX a.G3
 jx:Dn K mg "plus" FC tF a.plus a.JO
 JQ:Dn K mg "minus" CD yp a.minus a.Ji
 rV:Dn K mg "times" EB tV a.times a.Jd
 gu:Dn K mg "less" B8 si a.less a.JT
 HR:Dn K mg "is_factor" B_ yF a.IK a.Hk
 Ij:Dn K mg "is_shift" Eb zg a.Jg a.HC
 HF:Dn K mg "make_rule" EF yc a.IV a.He
 IE:Dn K mg "is_rule" DC sx a.JJ a.Ib
 Jl:Dn K mg "pushes" EW yP a.Kc a.I_
 Hx:Dn K mg "pushed_by" Ba uY a.IM a.Hl
 Iq:Dn K mg "is_order" CW ze a.JB a.HH
 Ju:Dn K mg "set_by" BD uL a.J3 a.IF
 HB:Dn K mg "exchanged" BM zw a.IU a.GU
 Ii:Dn K mg "is_phase" ES tq a.JD a.HM
 G7:Dn K mg "are_phases" Cf yH a.Iv a.Gy
 Ih:Dn K mg "swarm_of" Cg uU a.Jy a.Hu
 rM:Dn K mg "greatest" Bf uN a.Jt a.HE
 IA:Dn K mg "worms_at" Ei tD a.Jk a.HI
 JE:Dn K mg "flocks" EZ yz a.J1 a.IS
 Ac:Dn K mg "at_the_end" BY zU a.Iz a.GQ
 J5:Dn K mg "glow" Er tN a.r8 a.JI
 JS:Dn K mg "moved" AW tK a.moved a.Je
 Jc:Dn K mg "is_laid" C7 u3 a.JZ a.HY
 Aw:Dn K mg "laid" DV zu a.laid a.JM
 Yz:Dn K mg "still" SW El a.Ke a.Jz
 U8:Dn K mg "free_rounds" Rc Es a.HU a.Gk
 Aj:Dn K mg "has_stand" CS tT a.IP a.GZ
 Jq:Dn K mg "is_row" AK zF a.J4 a.IQ
 GS:Dn K mg "is_last_row" Fx yq a.HL a.Gs
 IC:Dn K mg "is_paper" Ca tw a.JF a.Hr
 Yi:Dn K mg "lets_by" NY Co a.JN a.Iu
 oi:Dn K mg "show_number" DS sS a.Ho a.Gm
 rF:Dn K mg "show_numbers" EL ya a.GV a.Gf
 GY:Dn K mg "show_swarm" BE yL a.Iw a.Gw
 og:Dn K mg "is_whole_text" EN zl a.GO a.F9
 rJ:Dn K mg "number_in" FN sW a.IH a.G2
 z8:Dn K mg "is_number_text" FU y9 a.Gr a.FZ
 Hy:Dn K mg "wholes_in" BV sV a.Jb a.G4
 oj:Dn K mg "numbers_in" BZ ye a.Ig a.GP
 Al:Dn K mg "parts_of" B0 u5 a.Jp a.Ht
 Ik:Dn K mg "lines_of" Du zY a.Jf a.Hv
 Hi:Dn K mg "read_swarm" Fb t8 a.Ia a.GL
 JC:Dn K mg "row_in" BQ zZ a.Kb a.IT
 G9:Dn K mg "read_paper" B9 uO a.Io a.GR
 GI:Dn K mg "with_commas" Fz tO a.Hq a.Gj
 Ap:Dn K mg "by_glow" A2 yC a.rW a.Il
 Ao:Dn K mg "by_move" DX sY a.rX a.HZ
 z_:Dn K mg "by_exchange" Fh sZ a.rH a.Gh
 Ae:Dn K mg "tell_swarm" Ft t_ a.rL a.Gv
 Ak:Dn K mg "tell_free" BG zW a.rQ a.G_
 Aa:Dn K mg "tell_still" BP sO a.rK a.GA
 Ie:Dn K mg "is_count" EO uM a.Jh a.HK
 Gq:Dn K mg "is_worm_text" C8 zr a.G5 a.Gd
 IL:Dn K mg "is_said" Bk sA a.JU a.HW
 Aq:Dn K mg "_law_pen" EI yM a.JK a.H_
 de:Dn K mg "_law_draw" CI yD a.Jo a.HN
 rO:Dn K mg "_law_low" BJ y7 a.JW a.Ir
 Ic:Dn K mg "_law_rule" BR tY a.Jj a.Hw
 G6:Dn K mg "_law_phases" DP zL a.HX a.GJ
 HV:Dn K mg "_law_shown" Dy yS a.IW a.Hm
 Ah:Dn K mg "_law_words" Cv u7 a.I0 a.GW
 HS:Dn K mg "_law_swarm" CM zf a.ID a.GX
 Am:Dn K mg "_law_text" Fg tG a.Jn a.HA
 Ag:Dn K mg "_law_class" DB tH a.IG a.G1
 Gx:m6 K "change" "Desk.change" BW yY a.Af a.Gu
 Gp:m6 K "go_back" "Desk.go_back" Fc yk a.Ab a.Ge
 FX:m6 K "look_through" "Desk.look_through" AL zt a.z6 a.FW
 iH:m6 K "say" "Desk.say" Em yx a.As a.HJ
 Gz:Dn K mg "_law_refusal" FO tP a.Hz a.Gn
 Ai:m6 K "__init__" "Desk.__init__" Fq zm a.Ar a.Hh
 Ip:Dn K mg "_law_made" DR yu a.JH a.HP
 Hj:Dn K mg "_law_no_row" C6 sM a.Iy a.GC
 GK:Dn K mg "_law_no_text" Cy zJ a.HD a.Gi
 Gg:Dn K mg "_law_no_swarm" ED u_ a.Hg a.Gb
 Im:Dn K mg "_law_case" DZ zQ a.Jv a.HG
 Ga:Dn K mg "_law_bad_desks" AO yh a.GF a.F8
 YI:Dn K mg "law" sj zc a.law a.J6
 h1h:mg "ValueError"=none
 h2i:mg "abs"=none
 h1Y:mg "all"=none
 h1V:mg "bool"=none
 h1p:mg "enumerate"=none
 h2h:mg "int"=none
 h1i:mg "isinstance"=none
 h2f:mg "len"=none
 h1W:mg "list"=none
 h2j:mg "max"=none
 h1U:mg "range"=none
 h1P:mg "sorted"=none
 h1Z:mg "str"=none
 h1S:mg "tuple"=none
 h2g:mg "zip"=none
 bU:fh K a.bG
 rG:fT K a.bG "past"
 mD:fT K a.bG "hour"
 fP:fT K a.bG "swarm"
 UW:jX K a.bG "change" a.Af
 UE:jX K a.bG "go_back" a.Ab
 TH:jX K a.bG "look_through" a.z6
 js:jX K a.bG "say" a.As
 JR:Mk K a.bG a.Ar
 II:mg "CHANGES"=some (.ref a.rN)
 IY:jW K w.params a.rN [("glow",a.rW),("glows",a.oq),("move",a.rX),("exchange",a.rH)]
 Ka:mg "ASKS"=some (.ref a.rY)
 J8:jW K w.params a.rY [("swarm",a.rL),("flocks",a.oh),("fate",a.oo),("free",a.rQ),("still",a.rK),("paper",a.om)]
 ow:mg "NoSwarm"=some (.ref a.bM)
 Jm:mg "NoRule"=some (.ref a.cG)
 IJ:mg "NoStand"=some (.ref a.cu)
 j8:mg "NoText"=some (.ref a.bC)
 Jw:mg "NoBack"=some (.ref a.cH)
 JY:mg "NoRow"=some (.ref a.cI)
 Yg:mg "TooLong"=some (.ref a.jv)
 Yw:mg "NoWeb"=some (.ref a.jw)
 W_:mg "NoNumber"=some (.ref a.ju)
 HQ:mg "GlowError"=some (.ref a.kS)
 J_:mg "Desk"=some (.ref a.bG)
 rP:vZ K a.bM gf "ValueError.__new__"=true
 Ja:vY K (.ref a.bM) (.ref a.kS)=some true
 Yj:cU K a.bM
 Ub:wf K (.ref a.bM) (.ref a.bM)=some true
 Ut:wf K (.ref a.bM) (.ref a.cG)=some false
 Ud:wf K (.ref a.bM) (.ref a.cu)=some false
 Ur:wf K (.ref a.bM) (.ref a.bC)=some false
 Uk:wf K (.ref a.bM) (.ref a.cH)=some false
 UO:wf K (.ref a.bM) (.ref a.cI)=some false
 Uc:wf K (.ref a.bM) (.ref a.jv)=some false
 UN:wf K (.ref a.bM) (.ref a.jw)=some false
 TK:wf K (.ref a.bM) (.ref a.ju)=some false
 Yc:wf K (.ref a.bM) (.type "ValueError")=some true
 Yq:vZ K a.cG gf "ValueError.__new__"=true
 Js:vY K (.ref a.cG) (.ref a.kS)=some true
 Yr:cU K a.cG
 Uv:wf K (.ref a.cG) (.ref a.bM)=some false
 Uy:wf K (.ref a.cG) (.ref a.cG)=some true
 Up:wf K (.ref a.cG) (.ref a.cu)=some false
 UH:wf K (.ref a.cG) (.ref a.bC)=some false
 UA:wf K (.ref a.cG) (.ref a.cH)=some false
 UZ:wf K (.ref a.cG) (.ref a.cI)=some false
 Um:wf K (.ref a.cG) (.ref a.jv)=some false
 U5:wf K (.ref a.cG) (.ref a.jw)=some false
 TM:wf K (.ref a.cG) (.ref a.ju)=some false
 Yo:wf K (.ref a.cG) (.type "ValueError")=some true
 Yh:vZ K a.cu gf "ValueError.__new__"=true
 IZ:vY K (.ref a.cu) (.ref a.kS)=some true
 Ye:cU K a.cu
 Ua:wf K (.ref a.cu) (.ref a.bM)=some false
 Ul:wf K (.ref a.cu) (.ref a.cG)=some false
 TQ:wf K (.ref a.cu) (.ref a.cu)=some true
 Us:wf K (.ref a.cu) (.ref a.bC)=some false
 Uq:wf K (.ref a.cu) (.ref a.cH)=some false
 Uz:wf K (.ref a.cu) (.ref a.cI)=some false
 T_:wf K (.ref a.cu) (.ref a.jv)=some false
 UJ:wf K (.ref a.cu) (.ref a.jw)=some false
 TL:wf K (.ref a.cu) (.ref a.ju)=some false
 Yd:wf K (.ref a.cu) (.type "ValueError")=some true
 kU:vZ K a.bC gf "ValueError.__new__"=true
 JG:vY K (.ref a.bC) (.ref a.kS)=some true
 Yp:cU K a.bC
 Uj:wf K (.ref a.bC) (.ref a.bM)=some false
 UM:wf K (.ref a.bC) (.ref a.cG)=some false
 Uo:wf K (.ref a.bC) (.ref a.cu)=some false
 UG:wf K (.ref a.bC) (.ref a.bC)=some true
 Uw:wf K (.ref a.bC) (.ref a.cH)=some false
 U0:wf K (.ref a.bC) (.ref a.cI)=some false
 Ug:wf K (.ref a.bC) (.ref a.jv)=some false
 UT:wf K (.ref a.bC) (.ref a.jw)=some false
 TV:wf K (.ref a.bC) (.ref a.ju)=some false
 Yn:wf K (.ref a.bC) (.type "ValueError")=some true
 Yu:vZ K a.cI gf "ValueError.__new__"=true
 JL:vY K (.ref a.cI) (.ref a.kS)=some true
 Yt:cU K a.cI
 UK:wf K (.ref a.cI) (.ref a.bM)=some false
 UU:wf K (.ref a.cI) (.ref a.cG)=some false
 UD:wf K (.ref a.cI) (.ref a.cu)=some false
 U2:wf K (.ref a.cI) (.ref a.bC)=some false
 U3:wf K (.ref a.cI) (.ref a.cH)=some false
 U9:wf K (.ref a.cI) (.ref a.cI)=some true
 UL:wf K (.ref a.cI) (.ref a.jv)=some false
 U7:wf K (.ref a.cI) (.ref a.jw)=some false
 Uh:wf K (.ref a.cI) (.ref a.ju)=some false
 Yy:wf K (.ref a.cI) (.type "ValueError")=some true
 Yk:vZ K a.cH gf "ValueError.__new__"=true
 Jr:vY K (.ref a.cH) (.ref a.kS)=some true
 Yl:cU K a.cH
 Ue:wf K (.ref a.cH) (.ref a.bM)=some false
 UQ:wf K (.ref a.cH) (.ref a.cG)=some false
 Uu:wf K (.ref a.cH) (.ref a.cu)=some false
 UI:wf K (.ref a.cH) (.ref a.bC)=some false
 UB:wf K (.ref a.cH) (.ref a.cH)=some true
 U1:wf K (.ref a.cH) (.ref a.cI)=some false
 Ui:wf K (.ref a.cH) (.ref a.jv)=some false
 UR:wf K (.ref a.cH) (.ref a.jw)=some false
 TR:wf K (.ref a.cH) (.ref a.ju)=some false
 Ys:wf K (.ref a.cH) (.type "ValueError")=some true
 iI:mg "NOUGHT"=some (.ref a.fQ)
 rR:∀H:Hp,aR K H a.fQ [.int 0,.int 1]
 kX:mg "ONE"=some (.ref a.jA)
 Kd:∀H:Hp,aR K H a.jA [.int 1,.int 1]
 TY:mg "GREATEST_FACTOR"=some (.ref a.z7)
 TU:∀H:Hp,aR K H a.z7 [.int 4,.int 1]
 UC:∃t,mg "FACTOR_BOTTOM"=some (.int 8 t)
 US:∃t,mg "SHIFT_BOTTOM"=some (.int 12 t)
 Hn:∃t,mg "MOST_WORMS"=some (.int 8 t)
 U4:∃t,mg "PHASE_BOTTOM"=some (.int 60 t)
 V_:∃t,mg "MOST_FREE"=some (.int 30 t)
 G8:∃t,mg "MOST_GLOWS"=some (.int 40 t)
 JV:mg "WORDS"=some (.ref a.rS)
 JX:∀H:Hp,aR K H a.rS [.str "one",.str "rests",.str "drawn"]
 Yb:∃t,mg "FIGURES"=some (.str "0123456789" t)
 F_:∃t,mg "NUMBER_FIGURES"=some (.int 60 t)
 Ux:∃t,mg "WHOLE_FIGURES"=some (.int 2 t)
 UY:∃t,mg "MOVE_FIGURES"=some (.int 6 t)
 UP:∃t,mg "GLOWS_FIGURES"=some (.int 2 t)
 UX:∃t,mg "WORM_FIGURES"=some (.int 1 t)
end G
local macro_rules | `(term| ())=>`(term| by lia)
local macro_rules | `(term| ⋯)=>`(term| by decide)
local macro_rules | `(term| ∅)=>`(term| by simp)
open L2 GM in
local macro_rules | `(tactic| wtm_at "is")=>`(tactic| first
 | assumption
 | exact cC.mpr rfl
 | exact k8.mpr rfl
 | exact kg.mpr rfl
 | exact cP.mpr rfl
 | exact Is.YM (by assumption) (by wtm_at "same")
 | exact Is.thruN (by assumption) (by wtm_at "keep")
 | exact Is.thruR (by assumption) (by wtm_at "keep")
 | ((with_reducible apply is_tupAt);(focus assumption);(focus wtm_at "isall");wtm_at "same")
 | ((with_reducible apply is_lstAt);(focus assumption);(focus wtm_at "isall");wtm_at "same")
 | ((with_reducible apply is_dctAt);(focus assumption);wtm_at "same")
 | exact pG 0 (G.Txt.rR (by assumption) _) rfl rfl | exact pG 1 (G.Txt.Kd (by assumption) _) rfl rfl | exact pG 4 (G.Txt.TU (by assumption) _) rfl rfl
 | fail "is")
open L2 GM in
local macro_rules | `(tactic| wtm_at "isall")=>`(tactic| first
 | exact aq.nil
 | exact aq.cons (by wtm_at "is") (by wtm_at "isall")
 | fail "isall")
open L2 GM in
local macro_rules | `(tactic| wtm_at "ne")=>`(tactic| first
 | assumption
 | (apply WC;assumption))
open L2 GM in
local macro_rules | `(tactic| wtm_at "lst")=>`(tactic| first
 | assumption
 | exact ae.at (by assumption) (by wtm_at "lst")
 | exact Exc.at (by assumption) (by wtm_at "ne") (by wtm_at "lst")
 | fail "lst")
open L2 GM in
local macro_rules | `(tactic| wtm_at "same")=>`(tactic| first
 | assumption
 | exact ae.refl _
 | exact ae.back (by assumption) (by wtm_at "same")
 | fail "same")
open L2 GM in
local macro_rules | `(tactic| wtm_at "keep")=>`(tactic| first
 | assumption
 | exact aZ.refl _
 | exact ae.keep (by assumption)
 | exact aZ.back (by assumption) (by wtm_at "keep")
 | exact aZ.back (ae.keep (by assumption)) (by wtm_at "keep")
 | fail "keep")
open L2 GM in
local macro_rules | `(tactic| wtm_at "exc")=>`(tactic| first
 | assumption
 | exact Exc.refl _ _
 | exact Exc.back (by assumption) (by wtm_at "exc")
 | exact Exc.back (ae.exc (by assumption)) (by wtm_at "exc")
 | fail "exc")
open L2 GM in
local macro_rules | `(tactic| wtm_at "sqf")=>`(tactic| first
 | assumption
 | exact aZ.iS (by wtm_at "keep") (by assumption)
 | fail "sqf")
open L2 GM in
local macro_rules | `(tactic| wtm_at "bd")=>`(tactic| first
 | assumption
 | exact Bd.mk (n:=128) ⋯
 | exact Bd.mono (m:=128) ⟨by decide⟩ ⋯
 | exact ah.t (by assumption)
 | exact ah.b (by assumption)
 | exact Bd.mF () ()
 | (apply Bd.neg;wtm_at "bd")
 | (apply Bd.mul;(focus wtm_at "bd");wtm_at "bd")
 | (apply Bd.add;(focus wtm_at "bd");wtm_at "bd")
 | (apply Bd.sub;(focus wtm_at "bd");wtm_at "bd"))
open L2 GM PySem in
local macro_rules | `(tactic| wtm_at "mulok")=>`(tactic| first
 | exact Xw ⋯
 | exact XR ⋯
 | exact Xw (intBits_le_64 () ())
 | exact XR (intBits_le_64 () ())
 | (apply L2.YH;(focus wtm_at "bd");(focus wtm_at "bd");(focus decide);decide))
open L2 GM PySem in
local macro_rules | `(tactic| wtm_at "side")=>`(tactic| first
 | assumption
 | decide
 | lia
 | wtm_at "mulok"
 | (refine And.intro ?_ ?_<;>wtm_at "side")
 | wtm_at "bd")
open L2 GM in
local macro_rules | `(tactic| wtm_at "gs")=>`(tactic| first
 | with_reducible (first | refine zDP ?_ | refine zEb ?_ | refine zC7 ?_ | refine zC1 ?_ | refine ZZ ?_)
 | ((with_reducible apply AV);(focus wtm_at "side"))
 | with_reducible (first | refine zDC ?_ | refine zEp ?_ | refine zCT ?_ | refine zCP ?_ | refine zDd ?_ | refine nB ?_ | refine m8 ?_)
 | with_reducible refine zAp (λ_=>?_) (λ_=>?_)
 | with_reducible refine zwW (λ_=>?_) (λ_=>?_)
 | with_reducible refine zzk (λ_=>?_) (λ_=>?_)
 | with_reducible refine zAK (λ_=>?_) (λ_=>?_)
 | with_reducible (first | refine zCN ?_ | refine zEg ?_ | refine zB2 ?_ | refine zAI ?_ | refine zCb ?_ | refine zAS ?_ | refine zCy ?_ | refine zAr ?_ | refine D_ ?_ | refine zzu ?_ | refine zzW ?_ | refine zDn ?_ | refine zzL ?_ | refine Zv ?_ | refine zAW ?_ | refine zAq ?_)
 | ((with_reducible apply zAg);(focus wtm_at "is"))
 | ((with_reducible apply zzT);(focus wtm_at "is"))
 | ((with_reducible apply dS);(focus(apply aI.of;wtm_at "lst"));(focus rfl))
 | ((with_reducible apply y_);(focus assumption);(focus rfl);intro hN eN lN;dsimp only[Int.reduceToNat,QN,QP]at lN)
 | ((with_reducible apply Tv);(focus wtm_at "is"))
 | ((with_reducible apply zza);(focus wtm_at "is"))
 | ((with_reducible apply zwT);(focus wtm_at "is"))
 | dsimp only[QN,QP])
set_option hygiene false in
open L2 GM in
local macro_rules | `(tactic| wtm_at "sq")=>`(tactic| with_reducible refine zAy (λ tl_ htl_=>?_))
set_option hygiene false in
open L2 GM in
local macro_rules | `(tactic| wtm_at "tl")=>`(tactic| ((with_reducible refine sv.go (by assumption) ?_); (try clear htl_ tl_)))
open L2 GM in
local macro_rules | `(tactic| wtm_at "bdr0")=>`(tactic| first
 | assumption
 | exact ah.zero
 | exact ah.one
 | exact ah.four
 | (apply ah.add;(focus wtm_at "bdr0");wtm_at "bdr0")
 | (apply ah.sub;(focus wtm_at "bdr0");wtm_at "bdr0")
 | (apply ah.mul;(focus wtm_at "bdr0");wtm_at "bdr0"))
open L2 GM in
local macro_rules | `(tactic| wtm_at "bdr")=>`(tactic| first
 | assumption
 | (apply ah.mono;(focus wtm_at "bdr0");(first | decide | lia)))
open L2 GM in
local macro_rules | `(tactic| wtm_at "ga1")=>`(tactic| first
 | wtm_at "gs"
 | ((with_reducible apply eE);(focus(simp only[wQ,WO];decide));(focus wtm_at "isall");intro _ _ _ _)
 | ((with_reducible apply fj);(focus(simp only[wQ,WO];decide));intro _ _ _ _ _)
 | with_reducible refine Ph (λ_ _ _ _ _=>?_)
 | ((with_reducible apply pQ);(focus wtm_at "lst");(focus wtm_at "lst");(focus(simp only[vc,wQ,WO];decide));intro _ _ _ _ _))
local macro_rules | `(tactic| wtm_at "ga")=>`(tactic| repeat' (first | wtm_at "ga1" | wtm_at "tl"))
local macro_rules | `(tactic| wtm_at "gg")=>`(tactic| repeat' (first | wtm_at "gs" | wtm_at "tl"))
local macro_rules | `(tactic| wtm_at "gt")=>`(tactic| repeat' (wtm_at "gs"))
open L2 GM in
local macro_rules | `(tactic| wtm_at "bd128")=>`(tactic| first
 | exact Bd.mono (m:=128) ⟨by decide⟩ ⋯
 | exact(Bd.mF () ()).mono ⋯)
open L2 GM in
local macro_rules | `(tactic| wtm_at "gs")=>`(tactic| first
 | with_reducible (first | refine zDY ?_ | refine YV ?_ | refine zwC ?_ | refine Y2 ?_ | refine ZN ?_ | refine zyr ?_ | refine zyB ?_ | refine zyq ?_ | refine zyQ ?_ | refine zxI ?_ | refine zD3 ?_ | refine zAV ?_ | refine zxu ?_ | refine zwa ?_ | refine ZX ?_ | refine zCD ?_ | refine ZF ?_ | refine zAZ ?_ | refine zyE ?_ | refine zDg ?_ | refine zCz ?_ | refine ZM ?_ | refine zwl ?_ | refine zAw ?_ | refine zya ?_)
 | ((with_reducible apply Zd);(focus wtm_at "is"))
 | ((with_reducible apply zAH);(focus wtm_at "is"))
 | ((with_reducible apply zBj);(focus wtm_at "is");intro _ _)
 | ((with_reducible apply zAT);(focus wtm_at "is");intro _ _)
 | ((with_reducible apply dS);(focus(apply aI.of;wtm_at "lst"));(focus rfl))
 | ((with_reducible apply zBk);(focus wtm_at "lst");(focus lia);(focus lia);intro _ _)
 | ((with_reducible apply zzz);(focus wtm_at "lst");(focus lia);(focus lia);intro _ _)
 | ((with_reducible apply zzq);(focus wtm_at "lst");(focus lia);(focus lia);intro _ _)
 | ((with_reducible apply zDw);(focus wtm_at "is");(focus wtm_at "is"))
 | ((with_reducible apply zBS);(focus wtm_at "is");(focus wtm_at "is")))
open L2 GM in
local macro_rules | `(tactic| wtm_at "gs")=>`(tactic| first
 | wtm_at "sq"
 | with_reducible (first | refine b_ ?_ | refine ZW ?_ | refine zCL ?_ | refine Z_ ?_)
 | ((with_reducible apply zCt);(focus rfl))
 | with_reducible (first | refine zEI ?_ | refine zzR ?_ | refine zCa ?_ | refine zAM ?_ | refine zzE ?_ | refine zDb ?_ | refine CY ?_))
local macro_rules | `(tactic| wtm_at "nm")=>`(tactic| exact ⟨rfl,by first | exact Or.inl rfl | exact Or.inr (Or.inl rfl) | exact Or.inr (Or.inr rfl),by decide,by decide⟩)
set_option hygiene false in
local macro_rules | `(tactic| wtm_at "b1")=>`(tactic| (focus (intro vs H Q E h; obtain ⟨_,rfl,_⟩:=h; rfl)); (intro cdv A outer s H vs Q E hr h; obtain ⟨x0,rfl,h⟩:=h; have hu:=hr.units))
set_option hygiene false in
local macro_rules | `(tactic| wtm_at "b2")=>`(tactic| (focus (intro vs H Q E h; obtain ⟨_,_,rfl,_⟩:=h; rfl)); (intro cdv A outer s H vs Q E hr h; obtain ⟨x0,x1,rfl,h⟩:=h; have hu:=hr.units))
set_option hygiene false in
local macro_rules | `(tactic| wtm_at "b3")=>`(tactic| (focus (intro vs H Q E h; obtain ⟨_,_,_,rfl,_⟩:=h; rfl)); (intro cdv A outer s H vs Q E hr h; obtain ⟨x0,x1,x2,rfl,h⟩:=h; have hu:=hr.units))
set_option hygiene false in
local macro_rules | `(tactic| wtm_at "b4")=>`(tactic| (focus (intro vs H Q E h; obtain ⟨_,_,_,_,rfl,_⟩:=h; rfl)); (intro cdv A outer s H vs Q E hr h; obtain ⟨x0,x1,x2,x3,rfl,h⟩:=h; have hu:=hr.units))
set_option hygiene false in
local macro_rules | `(tactic| wtm_at "cl")=>`(tactic| ((clear hu); (try clear hgd); (first | dsimp only [fb,cxOfH] | dsimp only [fb] | skip)))
local macro_rules | `(tactic| k_few)=>`(tactic| wtm_at "gg")
local macro_rules | `(tactic| o_head $e)=>`(tactic| (wtm_at "gg"; refine $e))
open L2 GM G in
local macro_rules | `(tactic| wtm_at "ecls")=>`(tactic| first | exact Txt.Yj (by assumption) | exact Txt.Yr (by assumption) | exact Txt.Ye (by assumption) | exact Txt.Yp (by assumption) | exact Txt.Yt (by assumption) | exact Txt.Yl (by assumption))
open L2 GM G in
local macro_rules | `(tactic| wtm_at "kit")=>`(tactic| first | exact Txt.Ub (by assumption) | exact Txt.Ut (by assumption) | exact Txt.Ud (by assumption) | exact Txt.Ur (by assumption) | exact Txt.Uk (by assumption) | exact Txt.UO (by assumption) | exact Txt.Uc (by assumption) | exact Txt.UN (by assumption) | exact Txt.TK (by assumption) | exact Txt.Yc (by assumption) | exact Txt.Uv (by assumption) | exact Txt.Uy (by assumption) | exact Txt.Up (by assumption) | exact Txt.UH (by assumption) | exact Txt.UA (by assumption) | exact Txt.UZ (by assumption) | exact Txt.Um (by assumption) | exact Txt.U5 (by assumption) | exact Txt.TM (by assumption) | exact Txt.Yo (by assumption) | exact Txt.Ua (by assumption) | exact Txt.Ul (by assumption) | exact Txt.TQ (by assumption) | exact Txt.Us (by assumption) | exact Txt.Uq (by assumption) | exact Txt.Uz (by assumption) | exact Txt.T_ (by assumption) | exact Txt.UJ (by assumption) | exact Txt.TL (by assumption) | exact Txt.Yd (by assumption) | exact Txt.Uj (by assumption) | exact Txt.UM (by assumption) | exact Txt.Uo (by assumption) | exact Txt.UG (by assumption) | exact Txt.Uw (by assumption) | exact Txt.U0 (by assumption) | exact Txt.Ug (by assumption) | exact Txt.UT (by assumption) | exact Txt.TV (by assumption) | exact Txt.Yn (by assumption) | exact Txt.UK (by assumption) | exact Txt.UU (by assumption) | exact Txt.UD (by assumption) | exact Txt.U2 (by assumption) | exact Txt.U3 (by assumption) | exact Txt.U9 (by assumption) | exact Txt.UL (by assumption) | exact Txt.U7 (by assumption) | exact Txt.Uh (by assumption) | exact Txt.Yy (by assumption) | exact Txt.Ue (by assumption) | exact Txt.UQ (by assumption) | exact Txt.Uu (by assumption) | exact Txt.UI (by assumption) | exact Txt.UB (by assumption) | exact Txt.U1 (by assumption) | exact Txt.Ui (by assumption) | exact Txt.UR (by assumption) | exact Txt.TR (by assumption) | exact Txt.Ys (by assumption))
namespace G
open PySem PySem.Spec PyProof.Rows L2 GM
section
variable{P:wO}{w:wN}{K:wa}{mg:Str->Option wd}{base:wK}{a:Ad}
variable{H:Hp}{Q:VK}{E:XK}{d e:wu}{ds:List wu}{x y:Rat}{n:Nat}
def isInt:wu->Bool
 | .int _=>true
 | _=>false
def PU(K:wa):Sp:=λvs H Q _=>∃x0,vs=[x0] /\ ∃d,Is K H x0 d/\Q (.bl (isInt d)) H
theorem C_{v:V}(h:Is K H v d)(q:Q (.bl (isInt d)) H):PU K [v] H Q E:=⟨v,rfl,d,h,q⟩
local macro_rules | `(tactic| wtm_at "gs")=>`(tactic| ((with_reducible apply C_); (focus wtm_at "is")))
theorem zD(T:Txt w K mg a):aC P w K mg base aO 1 a.Jx a.Hs yZ (PU K):=by
 refine T.ou.F.ok zru ?_ ?_;wtm_at "b1";refine⟨_,(ak (aB (dA (bH (show aM _ (.builtin "isinstance") (dH K)from gW) rfl T.h1i dy (aa (pv 0) (aa (fz (v:=.ty "int") rfl T.h2h nh rfl) af))) (dD (rh (bH (show aM _ (.builtin "isinstance") (dH K)from gW) rfl T.h1i dy (aa (pv 0) (aa (fz (v:=.ty "bool") rfl T.h1V zBe rfl) af)))))))),?_⟩;wtm_at "cl";rw[show start DI [x0]=[some x0]from rfl];obtain⟨d,hd,q⟩:=h;k_few
 all_goals(cases d<;>simp_all [isInt,Dg,Dp])
def kI(l m:Int):wu->Bool
 | .int i=>decide (l<=i)&&decide (i<=m)
 | _=>false
theorem zuA{l m:Int}(h:isInt d=false):kI l m d=false:=by cases d<;>first | rfl | cases h
def MF(K:wa):Sp:=λvs H Q _=>∃x0 x1 x2,vs=[x0,x1,x2] /\ ∃(l m:Int)(d:wu),x0=.int l/\x1=.int m/\Is K H x2 d/\Q (.bl (kI l m d)) H
theorem Lr{l m:Int}{v:V}(h:Is K H v d)(q:Q (.bl (kI l m d)) H):MF K [.int l,.int m,v] H Q E:=⟨_,_,_,rfl,l,m,d,rfl,rfl,h,q⟩
theorem Rm(T:Txt w K mg a):aC P w K mg base aO 2 a.GB a.F7 uS (MF K):=by
 refine T.z9.F.ok zkC ?_ ?_;wtm_at "b3";refine⟨_,(ak (aB (dA (av (zD T) hr T.ou (q1 2)) (dD (Zq jj jj (pv 0) (pv 2) (pv 1)))))),?_⟩;wtm_at "cl";rw[show start A4 [x0,x1,x2]=[some x0,some x1,some x2]from rfl];obtain⟨l,m,d,rfl,rfl,hd,q⟩:=h;have hc:(∃i,d=.int i)\/isInt d=false:=by cases d<;>simp[isInt]
 rcases hc with⟨i,rfl⟩ | hn
 ·cases cC.mp hd
  have q:Q (.bl (decide (l<=i)&&decide (i<=m))) H:=q;k_few
  ·rename_i z
   rw[decide_eq_true z,w9]at q;exact q
  ·rename_i z
   rw[decide_eq_false z,w8]at q;exact q
  ·rename_i z;cases (show true=false from z)
 ·rw[zuA hn]at q
  k_few
  ·rename_i z1;rw[hn]at z1;cases z1
  ·exact q
def Kp(K:wa):Sp:=λvs H Q _=>∃x0 x1,vs=[x0,x1] /\ ∃a b:Int,x0=.int a/\x1=.int b/\0<=a/\0<=b/\Q (.int (vo a b:Nat)) H
theorem oM{a b:Int}(ha:0<=a)(hb:0<=b)(q:Q (.int (vo a b:Nat)) H):Kp K [.int a,.int b] H Q E:=⟨_,_,rfl,a,b,rfl,rfl,ha,hb,q⟩
theorem pB(T:Txt w K mg a):aC P w K mg base aO 1 a.F6 a.FY yI (Kp K):=by
 refine T.mC.F.ok yj ?_ ?_;wtm_at "b2"
 refine⟨_,(aj (zi Wg (eM K hu (pv 1) aA) (aj (aJ 2 yj.nd (aG iU (pv 0) (pv 1)))
     (aj (aJ 0 yj.nd (pv 1))
     (ak (aJ 1 yj.nd (pv 2))))))
     (ak (aB (pv 0)))),?_⟩
 wtm_at "cl";rw[show start R1 [x0,x1]=[some x0,some x1,none]from rfl];obtain⟨a',b',rfl,rfl,ha,hb,q⟩:=h;refine Zr ?_;refine LV (λσ H'=>∃(x y:Int)(r:Option V),σ = [some (.int x),some (.int y),r]/\0<=x/\0<=y/\vo x y=vo a' b'/\H'=H) (λσ=>(PZ σ 1).toNat) ⟨a',b',none,rfl,ha,hb,rfl,rfl⟩ ?_;rintro σ H' ⟨x,y,r,rfl,hx,hy,hg,rfl⟩;k_few
 . refine Ot ?_
   k_few;have h1:=Qs x (show y≠0 by assumption);have h2:=qP x (show 0<y by lia);refine⟨?_,_,_,_,rfl,hy,h1,?_,rfl⟩
   . show(x % y).toNat<y.toNat
     lia
   . rw[<- hg];exact Sk () hx
 . rename_i h0
   subst h0
   have e:((vo a' b':Nat):Int)=x:=by
     rw[<- hg,Xl];lia
   rw[e]at q;exact q
def bA:wu->Bool
 | .tuple [.int p,.int q]=>eP p q
 | _=>false
theorem p_(r:Rat):bA (N r)=true:=CK r
theorem ztd(h:gT d=false):bA d=false:=by
 cases d<;>first | rfl | (simp[gT]at h)
theorem Z3(h:¬ ds.length=2):bA (.tuple ds)=false:=by
 match ds with
 | []=>rfl
 | [_]=>simp[bA]
 | [_,_]=>exact absurd rfl h
 | _::_::_::_=>simp[bA]
theorem zqT(h:isInt d=false):bA (.tuple [d,e])=false:=by
 cases d<;>first | rfl | (simp[isInt]at h)
theorem zoe(h:isInt e=false):bA (.tuple [d,e])=false:=by
 cases d<;>cases e<;>first | rfl | (simp[isInt]at h)
theorem Pd : isInt d=true ↔ ∃i,d=.int i:=by cases d<;>simp[isInt]
def Nd(K:wa):Sp:=λvs H Q _=>∃x0,vs=[x0] /\ ∃d,Is K H x0 d/\Q (.bl (bA d)) H
theorem zpQ{v:V}(h:Is K H v d)(q:Q (.bl (bA d)) H):Nd K [v] H Q E:=⟨v,rfl,d,h,q⟩
local macro_rules | `(tactic| wtm_at "gs")=>`(tactic| ((with_reducible apply zpQ); (focus wtm_at "is")))
theorem m7(T:Txt w K mg a):aC P w K mg base aO 2 a.IX a.G3 ym (Nd K):=by
 refine T.kT.F.ok Z2 ?_ ?_;wtm_at "b1"
 refine⟨_,(aj (bo (PW.pt (dh (cc (bI (bH (show aM _ (.builtin "isinstance") (dH K)from gW) rfl T.h1i dy (aa (pv 0) (aa (fz (v:=.ty "tuple") rfl T.h1S zev rfl) af))))) (eG (eM K hu (cD K T.h2f (q1 0)) aA)))) (ak (aB dM)) bj)
     (aj (bo (PW.pt (dh (cc (bI (av (zD T) hr T.ou (aa (qi 0) af)))) (eG (cc (bI (av (zD T) hr T.ou (aa (qi 0) af))))))) (ak (aB dM)) bj)
     (ak (aB (dA (fw OF (qi 0) aA (cN _)) (dD (iQ K hu (av (pB T) hr T.mC (aa (bH pN rfl T.h2i oG (aa (qi 0) af)) (aa (qi 0) af))) aA))))))),?_⟩
 wtm_at "cl";rw[show start CL [x0]=[some x0]from rfl];obtain⟨d,hd,q⟩:=h;k_few
 . rename_i e
   rw[ztd e]at q;exact q
 . rename_i e
   obtain⟨ds,rfl⟩:=Ol.mp e;refine me hd ?_;k_few
   . rename_i e
     rw[Z3 ()]at q;exact q
   . rename_i e
     obtain⟨d0,d1,rfl⟩:∃d0 d1,ds=[d0,d1]:=by
       match ds,e with
       | [d0,d1],_=>exact⟨d0,d1,rfl⟩
       | [],e=>simp at e
       | [_],e=>simp at e
       | _::_::_::_,e=>simp at e;lia
     refine bz (j:=0) hd rfl (λy0 h0=>?_);k_few
     . rename_i e
       rw[zqT e]at q;exact q
     . rename_i e0
       obtain⟨i,rfl⟩:=Pd.mp e0;refine bz (j:=1) hd rfl (λy1 h1=>?_);k_few
       . rename_i e
         rw[zoe e]at q;exact q
       . rename_i e1
         obtain⟨j,rfl⟩:=Pd.mp e1;refine bz (j:=1) hd rfl (λy2 h2=>?_);cases cC.mp h2;k_few
         . refine bz (j:=0) hd rfl (λy3 h3=>?_)
           cases cC.mp h3;o_head bz (j:=1) hd rfl (λy4 h4=>?_);cases cC.mp h4;o_head oM (by split<;>lia) () ?_;k_few
           have e3:bA (.tuple [.int i,.int j])=decide ((vo (if i<0 then -i else i) j:Nat)=(1:Int)):=by
             have e4:vo (if i<0 then -i else i) j=vo i j:=by
               split<;>simp
             rw[e4]
             show eP i j=_
             rename_i e5;simp only[eP,e5,decide_true,w9];rw[Wy,decide_eq_true_eq,decide_eq_true_eq];lia
           rw[e3]at q;exact q
         . rename_i e5
           have e3:bA (.tuple [.int i,.int j])=false:=by
             show eP i j=false
             simp only[eP,e5,decide_false,w8]
           rw[e3]at q;exact q
def O9(K:wa):Sp:=λvs H Q _=>∃x0 x1,vs=[x0,x1] /\ ∃(x y:Rat),Is K H x0 (N x)/\Is K H x1 (N y)/\ah 8999 x/\ah 8999 y/\Rs K H Q (N (x+y))
theorem KW{v w:V}(h1:Is K H v (N x))(h2:Is K H w (N y))(b1:ah 8999 x)(b2:ah 8999 y)(q:Rs K H Q (N (x+y))):O9 K [v,w] H Q E:=⟨_,_,rfl,x,y,h1,h2,b1,b2,q⟩
local macro_rules | `(tactic| wtm_at "gs")=>`(tactic| ((with_reducible apply KW); (focus wtm_at "is"); (focus wtm_at "is"); (focus wtm_at "bdr"); (focus wtm_at "bdr"); intro _ _ _ _))
theorem kO(T:Txt w K mg a):aC P w K mg base aO 2 a.plus a.JO tF (O9 K):=by
 refine T.jx.F.ok zH ?_ ?_;wtm_at "b2"
 refine⟨_,(aj (aJ 2 zH.nd (av (pB T) hr T.mC (aa (qi 0) (aa (qi 1) af))))
     (aj (aJ 3 zH.nd (aG aN (aG d4 (qi 0) (aG fD (qi 1) (pv 2))) (aG d4 (qi 1) (aG fD (qi 0) (pv 2)))))
     (aj (aJ 4 zH.nd (av (pB T) hr T.mC (aa (bH pN rfl T.h2i oG (q1 3)) (q1 2))))
     (ak (aB (cE (aa (aG fD (pv 3) (pv 4)) (aa (aG d4 (aG fD (qi 0) (pv 2)) (aG fD (qi 1) (pv 4))) af)))))))),?_⟩
 wtm_at "cl";rw[show start MN [x0,x1]=[some x0,some x1,none,none,none]from rfl];obtain⟨x,y,hx,hy,⟨bx1,bx2⟩,⟨by1,by2⟩,q⟩:=h;have px:=den_pos x;have py:=den_pos y;have ps:=tW x y;have pd:=FK x y;have c1:ng 0 (eR x y):=⟨by lia,pU bx2 (rq x y) px⟩;have c2:ng 0 (jf x y):=⟨by lia,pU (pU bx2 (rq x y) px) (Ep x y) ps⟩;have f1:=lA by2 (sr x y) ps;have f2:=lA bx2 (rq x y) ps;have f3:=lA by2 (xQ (Ep x y) (sr x y)) pd;o_head oM () () ?_;rw[show((vo (x.den:Int) (y.den:Int):Nat):Int)=eR x y from rfl];k_few;rw[show x.num*(y.den:Int).fdiv (eR x y)+y.num*(x.den:Int).fdiv (eR x y)=kf x y from rfl];o_head oM (by split<;>lia) () ?_;rw[yV,show((vo (kf x y) (eR x y):Nat):Int)=jf x y from rfl];k_few;exact yi (zBc x y) (zA9 x y) q
def LH(K:wa):Sp:=λvs H Q _=>∃x0 x1,vs=[x0,x1] /\ ∃(x y:Rat),Is K H x0 (N x)/\Is K H x1 (N y)/\ah 8999 x/\ah 8999 y/\Rs K H Q (N (x-y))
theorem Za{v w:V}(h1:Is K H v (N x))(h2:Is K H w (N y))(b1:ah 8999 x)(b2:ah 8999 y)(q:Rs K H Q (N (x-y))):LH K [v,w] H Q E:=⟨_,_,rfl,x,y,h1,h2,b1,b2,q⟩
local macro_rules | `(tactic| wtm_at "gs")=>`(tactic| ((with_reducible apply Za); (focus wtm_at "is"); (focus wtm_at "is"); (focus wtm_at "bdr"); (focus wtm_at "bdr"); intro _ _ _ _))
theorem Zn(T:Txt w K mg a):aC P w K mg base aO 3 a.minus a.Ji yp (LH K):=by
 refine T.JQ.F.ok zyn ?_ ?_;wtm_at "b2";refine⟨_,(ak (aB (av (kO T) hr T.jx (aa (pv 0) (aa (cE (aa (rA pD (qi 1)) (aa (qi 1) af))) af))))),?_⟩;wtm_at "cl";rw[show start DY [x0,x1]=[some x0,some x1]from rfl];obtain⟨x,y,hx,hy,bx,by',q⟩:=h;o_head yi (r:=-y) ∅ ∅ (λv H' s hv=>?_);o_head KW (by wtm_at "is") hv bx (zBh by') (λw H'' s2 hw=>?_);rw[zup]at hw;k_few;exact q w H'' (s.trans s2) hw
def Lb(K:wa):Sp:=λvs H Q _=>∃x0 x1,vs=[x0,x1] /\ ∃(x y:Rat),Is K H x0 (N x)/\Is K H x1 (N y)/\ah 8999 x/\ah 8999 y/\Rs K H Q (N (x*y))
theorem zw5{v w:V}(h1:Is K H v (N x))(h2:Is K H w (N y))(b1:ah 8999 x)(b2:ah 8999 y)(q:Rs K H Q (N (x*y))):Lb K [v,w] H Q E:=⟨_,_,rfl,x,y,h1,h2,b1,b2,q⟩
local macro_rules | `(tactic| wtm_at "gs")=>`(tactic| ((with_reducible apply zw5); (focus wtm_at "is"); (focus wtm_at "is"); (focus wtm_at "bdr"); (focus wtm_at "bdr"); intro _ _ _ _))
theorem BF(T:Txt w K mg a):aC P w K mg base aO 2 a.times a.Jd tV (Lb K):=by
 refine T.rV.F.ok Az ?_ ?_;wtm_at "b2"
 refine⟨_,(aj (aJ 2 Az.nd (av (pB T) hr T.mC (aa (bH pN rfl T.h2i oG (aa (qi 0) af)) (aa (qi 1) af))))
     (aj (aJ 3 Az.nd (av (pB T) hr T.mC (aa (bH pN rfl T.h2i oG (aa (qi 1) af)) (aa (qi 0) af))))
     (ak (aB (cE (aa (aG d4 (aG fD (qi 0) (pv 2)) (aG fD (qi 1) (pv 3))) (aa (aG d4 (aG fD (qi 0) (pv 3)) (aG fD (qi 1) (pv 2))) af))))))),?_⟩
 wtm_at "cl";rw[show start RT [x0,x1]=[some x0,some x1,none,none]from rfl];obtain⟨x,y,hx,hy,⟨bx1,bx2⟩,⟨by1,by2⟩,q⟩:=h;have px:=den_pos x;have py:=den_pos y;have p1:=nG x y;have p2:=nG y x;have c1:ng 0 (fJ x y):=⟨by lia,pU by2 (nK x y) py⟩;have c2:ng 0 (fJ y x):=⟨by lia,pU bx2 (nK y x) px⟩;have f1:=lA bx1 (tZ x y) p1;have f2:=lA by1 (tZ y x) p2;have f3:=lA bx2 (nK y x) p2;have f4:=lA by2 (nK x y) p1;o_head oM (by split<;>lia) () ?_;rw[yV,show((vo x.num (y.den:Int):Nat):Int)=fJ x y from rfl];o_head oM (by split<;>lia) () ?_;rw[yV,show((vo y.num (x.den:Int):Nat):Int)=fJ y x from rfl];k_few;exact yi (ZK x y) (zAQ x y) q
def PN(K:wa):Sp:=λvs H Q _=>∃x0 x1,vs=[x0,x1] /\ ∃(x y:Rat),Is K H x0 (N x)/\Is K H x1 (N y)/\ah 4000 x/\ah 4000 y/\Q (.bl (decide (x<y))) H
theorem zAl{v w:V}(h1:Is K H v (N x))(h2:Is K H w (N y))(b1:ah 4000 x)(b2:ah 4000 y)(q:Q (.bl (decide (x<y))) H):PN K [v,w] H Q E:=⟨_,_,rfl,x,y,h1,h2,b1,b2,q⟩
local macro_rules | `(tactic| wtm_at "gs")=>`(tactic| ((with_reducible apply zAl); (focus wtm_at "is"); (focus wtm_at "is"); (focus wtm_at "bdr"); (focus wtm_at "bdr")))
theorem iu(T:Txt w K mg a):aC P w K mg base aO 1 a.less a.JT si (PN K):=by
 refine T.gu.F.ok zAJ ?_ ?_;wtm_at "b2";refine⟨_,(ak (aB (fw nJ (aG d4 (qi 0) (qi 1)) (aG d4 (qi 1) (qi 0)) (cN _)))),?_⟩;wtm_at "cl";rw[show start FR [x0,x1]=[some x0,some x1]from rfl];obtain⟨x,y,hx,hy,⟨bx1,bx2⟩,⟨by1,by2⟩,q⟩:=h;k_few;rw[zD7];exact q
def lB(x:Rat):Bool:=decide (0<x)&&(!decide (4<x))&&decide ((x.den:Int)<=8)
def NI(K:wa):Sp:=λvs H Q _=>∃x0,vs=[x0] /\ ∃x:Rat,Is K H x0 (N x)/\ah 4000 x/\Q (.bl (lB x)) H
theorem zqa{v:V}(h:Is K H v (N x))(b:ah 4000 x)(q:Q (.bl (lB x)) H):NI K [v] H Q E:=⟨_,rfl,x,h,b,q⟩
local macro_rules | `(tactic| wtm_at "gs")=>`(tactic| ((with_reducible apply zqa); (focus wtm_at "is"); (focus wtm_at "bdr")))
theorem zpL(T:Txt w K mg a):aC P w K mg base aO 2 a.IK a.Hk yF (NI K):=by
 refine T.HR.F.ok zq6 ?_ ?_;wtm_at "b1";refine⟨_,(ak (aB (dA (av (iu T) hr T.gu (aa (bZ (v:=.ref a.fQ) rfl T.iI rfl) (q1 0))) (dA (rh (av (iu T) hr T.gu (aa (bZ (v:=.ref a.z7) rfl T.TY rfl) (q1 0)))) (dD (fw jj (qi 0) (fI rfl T.UC) (cN _))))))),?_⟩;wtm_at "cl";rw[show start Bg [x0]=[some x0]from rfl];obtain⟨x,hx,bx,q⟩:=h;unfold lB at q;k_few
 ·rename_i h1 h2
  rw[decide_eq_true h1,decide_eq_false h2]at q;exact q
 ·rename_i h1 h2
  rw[decide_eq_true h1,decide_eq_true h2]at q;exact q
 ·rename_i h1
  rw[decide_eq_false h1]at q;exact q
def lI(x:Rat):Bool:=(!decide (x<0))&&(!decide (1<x))&&decide ((x.den:Int)<=12)
def KU(K:wa):Sp:=λvs H Q _=>∃x0,vs=[x0] /\ ∃x:Rat,Is K H x0 (N x)/\ah 4000 x/\Q (.bl (lI x)) H
theorem zrq{v:V}(h:Is K H v (N x))(b:ah 4000 x)(q:Q (.bl (lI x)) H):KU K [v] H Q E:=⟨_,rfl,x,h,b,q⟩
local macro_rules | `(tactic| wtm_at "gs")=>`(tactic| ((with_reducible apply zrq); (focus wtm_at "is"); (focus wtm_at "bdr")))
theorem zsF(T:Txt w K mg a):aC P w K mg base aO 2 a.Jg a.HC zg (KU K):=by
 refine T.Ij.F.ok zsL ?_ ?_;wtm_at "b1";refine⟨_,(ak (aB (dA (rh (av (iu T) hr T.gu (aa (pv 0) (aa (bZ (v:=.ref a.fQ) rfl T.iI rfl) af)))) (dA (rh (av (iu T) hr T.gu (aa (bZ (v:=.ref a.jA) rfl T.kX rfl) (q1 0)))) (dD (fw jj (qi 0) (fI rfl T.US) (cN _))))))),?_⟩;wtm_at "cl";rw[show start Cs [x0]=[some x0]from rfl];obtain⟨x,hx,bx,q⟩:=h;unfold lI at q;k_few
 ·rename_i h1 h2
  rw[decide_eq_false h1,decide_eq_false h2]at q;exact q
 ·rename_i h1 h2
  rw[decide_eq_false h1,decide_eq_true h2]at q;exact q
 ·rename_i h1
  rw[decide_eq_true h1]at q;exact q
def fk(x y:Rat):Bool:=lB x&&lI y && !decide (x+y<1)
def AD(K:wa):Sp:=λvs H Q _=>∃x0 x1,vs=[x0,x1]/\((∃d e,Is K H x0 d/\Is K H x1 e/\(bA d&&bA e)=false/\Rq H Q (.bl false))\/(∃x y:Rat,Is K H x0 (N x)/\Is K H x1 (N y)/\ah 1000 x/\ah 1000 y/\Rq H Q (.bl (fk x y))))
theorem zod{v w:V}(h1:Is K H v d)(h2:Is K H w e)(n:(bA d&&bA e)=false)(q:Rq H Q (.bl false)):AD K [v,w] H Q E:=⟨_,_,rfl,.inl ⟨d,e,h1,h2,n,q⟩⟩
theorem zqz{v w:V}(h1:Is K H v (N x))(h2:Is K H w (N y))(b1:ah 1000 x)(b2:ah 1000 y)(q:Rq H Q (.bl (fk x y))):AD K [v,w] H Q E:=⟨_,_,rfl,.inr ⟨x,y,h1,h2,b1,b2,q⟩⟩
theorem zp4(T:Txt w K mg a):aC P w K mg base aO 3 a.IV a.He yc (AD K):=by
 refine T.HF.F.ok zre ?_ ?_;wtm_at "b2"
 refine⟨_,(aj (bo (PW.pt (dh (cc (bI (av (m7 T) hr T.kT (q1 0)))) (eG (cc (bI (av (m7 T) hr T.kT (q1 1))))))) (ak (aB dM)) bj)
     (ak (aB (dA (av (zpL T) hr T.HR (q1 0)) (dA (av (zsF T) hr T.Ij (q1 1)) (dD (rh (av (iu T) hr T.gu (aa (av (kO T) hr T.jx (q2 0 1)) (aa (bZ (v:=.ref a.jA) rfl T.kX rfl) af)))))))))),?_⟩
 wtm_at "cl";rw[show start Bc [x0,x1]=[some x0,some x1]from rfl];rcases h with⟨d,e,hd,he,hn,q⟩ | ⟨x,y,hx,hy,bx,by',q⟩
 . k_few
   . exact q _ (ae.refl _)
   . exact q _ (ae.refl _)
   . rename_i h1 h2
     exact absurd hn (by rw[h1,h2];decide)
 . unfold fk at q
   k_few
   . rename_i z;rw[p_]at z;cases z
   . rename_i z;rw[p_]at z;cases z
   . rename_i h1 h2 v H' S hv
     rw[h1,h2]at q;exact q _ S
   . rename_i h1 h2
     rw[h1,h2]at q;exact q _ (ae.refl _)
   . rename_i h1
     rw[h1]at q;exact q _ (ae.refl _)
def tm:wu->Bool
 | .tuple [d,e]=>!(bA d&&bA e)
 | _=>true
theorem zrX(h:tm (.tuple [d,e])=true):(bA d&&bA e)=false:=by
 have h:(!(bA d&&bA e))=true:=h;cases z:(bA d&&bA e)with
 | false=>rfl
 | true=>rw[z]at h;exact absurd h ⋯
def tQ(K:wa):Sp:=λvs H Q _=>∃x0,vs=[x0]/\((∃d,Is K H x0 d/\tm d=true/\Rq H Q (.bl false))\/(∃x y:Rat,Is K H x0 (R x y)/\ah 1000 x/\ah 1000 y/\Rq H Q (.bl (fk x y))))
theorem zsp{v:V}(h:Is K H v d)(n:tm d=true)(q:Rq H Q (.bl false)):tQ K [v] H Q E:=⟨_,rfl,.inl ⟨d,h,n,q⟩⟩
theorem Dw{v:V}(h:Is K H v (R x y))(b1:ah 1000 x)(b2:ah 1000 y)(q:Rq H Q (.bl (fk x y))):tQ K [v] H Q E:=⟨_,rfl,.inr ⟨x,y,h,b1,b2,q⟩⟩
theorem ztH(T:Txt w K mg a):aC P w K mg base aO 4 a.JJ a.Ib sx (tQ K):=by
 refine T.IE.F.ok zua ?_ ?_;wtm_at "b1";refine⟨_,(ak (aB (dA (bH (show aM _ (.builtin "isinstance") (dH K)from gW) rfl T.h1i dy (aa (pv 0) (aa (fz (v:=.ty "tuple") rfl T.h1S zev rfl) af))) (dA (iQ K hu (cD K T.h2f (q1 0)) aA) (dD (av (zp4 T) hr T.HF (aa (qi 0) (aa (qi 0) af)))))))),?_⟩;wtm_at "cl";rw[show start Bt [x0]=[some x0]from rfl];rcases h with⟨d,hd,hn,q⟩ | ⟨x,y,hr,bx,by',q⟩
 ·k_few
  ·rename_i e
   obtain⟨ds,rfl⟩:=Ol.mp e;refine me hd ?_;k_few
   ·rename_i e
    obtain⟨d0,d1,rfl⟩:∃d0 d1,ds=[d0,d1]:=by
     match ds,e with
     | [d0,d1],_=>exact⟨d0,d1,rfl⟩
     | [],e=>simp at e
     | [_],e=>simp at e
     | _::_::_::_,e=>simp at e;lia
    refine bz (j:=0) hd rfl (λy0 h0=>?_);o_head bz (j:=1) hd rfl (λy1 h1=>?_);o_head zod h0 h1 (zrX hn) (λH' S=>?_);k_few;exact q _ S
   ·exact q _ (ae.refl _)
  ·exact q _ (ae.refl _)
 ·k_few
  refine zqz (by assumption) (by assumption) bx by' (λH' S=>?_);k_few;exact q _ S
def Kt(K:wa):Sp:=λvs H Q _=>∃x0 x1,vs=[x0,x1] /\ ∃(a b:Rat)(n:Int),x1=.int n/\Is K H x0 (R a b)/\ah 10 a/\ah 10 b/\0<=n/\n<=64/\Rs K H Q (R (a^n.toNat) (cx a b n.toNat))
theorem zvN{a b:Rat}{n:Int}{v:V}(h1:Is K H v (R a b))(b1:ah 10 a)(b2:ah 10 b)(h0:0<=n)(h64:n<=64)(q:Rs K H Q (R (a^n.toNat) (cx a b n.toNat))):Kt K [v,.int n] H Q E:=⟨_,_,rfl,a,b,n,rfl,h1,b1,b2,h0,h64,q⟩
theorem zwr(T:Txt w K mg a):aC P w K mg base aO 3 a.Kc a.I_ yP (Kt K):=by
 refine T.Jl.F.ok mW ?_ ?_;wtm_at "b2"
 refine⟨_,(aj (aJ 2 mW.nd (bZ (v:=.ref a.jA) rfl T.kX rfl))
     (aj (aJ 3 mW.nd (bZ (v:=.ref a.fQ) rfl T.iI rfl))
     (aj (kH Wg rfl (l9 rfl T.h1U (q1 1)) (fL (i:=4) mW.nd rfl (Or.inl rfl)) (aj (aJ 2 mW.nd (av (BF T) hr T.rV (aa (qi 0) (q1 2))))
     (ak (aJ 3 mW.nd (av (kO T) hr T.jx (aa (av (BF T) hr T.rV (aa (qi 0) (q1 3))) (aa (qi 0) af)))))))
     (ak (aB (cE (q2 2 3))))))),?_⟩
 wtm_at "cl";rw[show start MS [x0,x1]=[some x0,some x1,none,none,none]from rfl];obtain⟨r,s',n,rfl,hr',ba,bb,h0,h64,q⟩:=h;o_head oO (n:=n) () () (λi σ H'=>∃(f g:V)(o:Option V),σ = [some x0,some (.int n),some f,some g,o]/\ae H H'/\Is K H' f (N (r^i))/\Is K H' g (N (cx r s' i))) ⟨_,_,_,rfl,ae.refl H,by rw[Xh];exact oZ.mpr ⟨_,rfl,T.Kd H⟩,oZ.mpr ⟨_,rfl,T.rR H⟩⟩ ?_ ?_
 . rintro i σ H' hi ⟨f,g,o,rfl,S1,hf,hg⟩
   have hr1:=hr'.by S1;have bf:ah 650 (r^i):=(ba.pow i).mono ();have bg:ah 1400 (cx r s' i):=(ba.cx bb i).mono ();o_head ⟨_,_,_,rfl,S1.trans (ae.trans (by assumption) (ae.trans (by assumption) (by assumption))),?_,?_⟩
   . rw[Xi,Rat.mul_comm]
     wtm_at "is"
   . wtm_at "is"
 . rintro σ H' ⟨f,g,o,rfl,S1,hf,hg⟩
   wtm_at "ga";exact q _ _ (S1.trans (by assumption)) (by assumption)
def OD(K:wa):Sp:=λvs H Q _=>∃x0 x1,vs=[x0,x1] /\ ∃(f g x:Rat),Is K H x0 (R f g)/\Is K H x1 (N x)/\ah 700 f/\ah 1500 g/\ah 3000 x/\Rs K H Q (N (f*x+g))
theorem zqr{f g:Rat}{v w:V}(h1:Is K H v (R f g))(h2:Is K H w (N x))(b1:ah 700 f)(b2:ah 1500 g)(b3:ah 3000 x)(q:Rs K H Q (N (f*x+g))):OD K [v,w] H Q E:=⟨_,_,rfl,f,g,x,h1,h2,b1,b2,b3,q⟩
theorem zp2(T:Txt w K mg a):aC P w K mg base aO 3 a.IM a.Hl uY (OD K):=by
 refine T.Hx.F.ok Zw ?_ ?_;wtm_at "b2";refine⟨_,(ak (aB (av (kO T) hr T.jx (aa (av (BF T) hr T.rV (aa (qi 0) (q1 1))) (aa (qi 0) af))))),?_⟩;wtm_at "cl";rw[show start B4 [x0,x1]=[some x0,some x1]from rfl];obtain⟨f,g,x,hp,hx,bf,bg,bx,q⟩:=h;k_few;rename_i hz;exact q _ _ (ae.trans (by assumption) (by assumption)) hz
def eh(n:Nat):List Int:=(vP n).map λ(w:Nat)=>(w:Int)
def pM(K:wa):Sp:=λvs H Q _=>∃x0 x1,vs=[x0,x1] /\ ∃(n:Nat),x1=.int (n:Int)/\n<=8/\((∃d,Is K H x0 d/\fF d=false/\Rq H Q (.bl false))\/(∃ds,Is K H x0 (.list ds)/\ds.length<=60/\ds.all isInt=false/\Rq H Q (.bl false))\/(∃ns,Is K H x0 (LZ ns)/\ns.length<=60/\Rq H Q (.bl (decide (ns.Perm (eh n))))))
theorem zq5{v:V}(h8:n<=8)(h:Is K H v d)(e:fF d=false)(q:Rq H Q (.bl false)):pM K [v,.int (n:Int)] H Q E:=⟨_,_,rfl,n,rfl,h8,.inl ⟨d,h,e,q⟩⟩
theorem zqZ{v:V}(h8:n<=8)(h:Is K H v (.list ds))(hl:ds.length<=60)(e:ds.all isInt=false)(q:Rq H Q (.bl false)):pM K [v,.int (n:Int)] H Q E:=⟨_,_,rfl,n,rfl,h8,.inr (.inl ⟨ds,h,hl,e,q⟩)⟩
theorem Pf{v:V}{ns:List Int}(h8:n<=8)(h:Is K H v (LZ ns))(hl:ns.length<=60)(q:Rq H Q (.bl (decide (ns.Perm (eh n))))):pM K [v,.int (n:Int)] H Q E:=⟨_,_,rfl,n,rfl,h8,.inr (.inr ⟨ns,h,hl,q⟩)⟩
theorem zyf(ns:List Int):(ns.map PyData.int).all isInt=true:=by rw[Wf,wH];intro x _;rfl
theorem MT:∀ms ns:List Int,Qd (ms.map .int) (ns.map .int)=decide (ms=ns)
 | [],[]=>rfl
 | [],_::_=>by simp[Qd]
 | _::_,[]=>by simp[Qd]
 | m::ms,n::ns=>by
  rw[wE,wE,Qd,zzw,MT ms ns]
  by_cases h:m=n<;>by_cases k:ms=ns<;>simp[h,k]
theorem zCj(ms ns:List Int):Wa (LZ ms) (LZ ns)=decide (ms=ns):=by
 unfold LZ;rw[Wa];exact MT ms ns
theorem zCd(n:Nat):(eh n).Pairwise (· <= ·):=by
 unfold eh;rw[List.pairwise_map];exact List.pairwise_lt_range.imp λ{x y} k=>by lia
theorem zDA(n:Nat):vz (vP n)=(eh n).map V.int:=by unfold vz eh;rw[qO];rfl
theorem zsq(T:Txt w K mg a):aC P w K mg base aO 2 a.JB a.HH ze (pM K):=by
 refine T.Iq.F.ok ZI ?_ ?_;wtm_at "b2"
 refine⟨_,(aj (bo (PW.pt (dh (cc (bI (bH (show aM _ (.builtin "isinstance") (dH K)from gW) rfl T.h1i dy (aa (pv 0) (aa (fz (v:=.ty "list") rfl T.h1W mQ rfl) af))))) (eG (cc (bI (bH (show aM _ (.builtin "all") (h_ K)from jH rfl) rfl T.h1Y jG (aa (c_ rfl (cF ["one"] [none]) (eL (pv 0)) (λ_ _ _ _ _=>(cv 0)) (λ_ _ _ _ _=>cX) (λ_ _ _ _ _=>(av (zD (K:=K) (mg:=mg) (a:=a) T) hr T.ou (q1 0)))) af))))))) (ak (aB dM)) bj)
     (ak (aB (iQ K hu (bH (show aM _ (.builtin "sorted") (B7 K)from zpK) rfl T.h1P zww (q1 0)) (N2 rfl rfl T.h1W rfl T.h1U (q1 1)))))),?_⟩
 wtm_at "cl";rw[show start C4 [x0,x1]=[some x0,some x1]from rfl];obtain⟨n,rfl,h8,h⟩:=h;rcases h with⟨d,hd,hn,q⟩ | ⟨ds,hd,hl,hn,q⟩ | ⟨ns,hd,hl,q⟩
 . k_few
   refine zI hd ?_;rw[hn];k_few;exact q H (ae.refl _)
 . k_few
   refine zI hd ?_;rw[show fF (.list ds)=true from rfl];obtain⟨ap,us,rfl,hs,tu⟩:=cR.mp hd;have hul:=tu.length;k_few
   . skip
     refine gq (o0:=none) (tl:=[]) hs rfl (λj y H'=>y=.bl (isInt (ds.getD j .none))) ?_ ?_
     . intro D i x ys o H2 hx inv
       obtain⟨hi,ix⟩:=ke tu hx;o_head C_ (ix.by inv.same) ?_;k_few;exact cY inv () (λ_ _ _ _ _ z=>z) ⟨_,rfl⟩ (ae.refl _) rfl
     . intro D ys H2 hn2 S2 hD hl2 hr
       have hys:ys=(ds.map isInt).map V.bl:=by
         refine vv (by rw[hl2,hul,we,we]) λj h1 h2=>?_
         have:=hr j ys[j] (wg h1);rw[this,vb,vb,wk,wg]
         rfl
       subst hys;o_head hV (.of hD) ?_;have e:(ds.map isInt).all id=ds.all isInt:=by rw[Wf];rfl
       rw[e,hn];k_few;exact q H2 S2
 . k_few
   refine zI hd ?_;rw[show fF (LZ ns)=true from rfl];obtain⟨ap,us,rfl,hs,tu⟩:=cR.mp hd;have hul:=tu.length;have hus:=mO.mp tu;rw[we]at hul;k_few
   . skip
     refine gq (o0:=none) (tl:=[]) hs rfl (λj y H'=>y=.bl (isInt ((ns.map PyData.int).getD j .none))) ?_ ?_
     . intro D i x ys o H2 hx inv
       obtain⟨hi,ix⟩:=ke tu hx;o_head C_ (ix.by inv.same) ?_;k_few;exact cY inv (by rw[we]at hi;lia) (λ_ _ _ _ _ z=>z) ⟨_,rfl⟩ (ae.refl _) rfl
     . intro D ys H2 hn2 S2 hD hl2 hr
       have hys:ys=((ns.map PyData.int).map isInt).map V.bl:=by
         refine vv (by rw[hl2,hul,we,we,we]) λj h1 h2=>?_
         have:=hr j ys[j] (wg h1);rw[this,vb,vb,wk,wg]
         rfl
       subst hys;o_head hV (.of hD) ?_;have e:((ns.map PyData.int).map isInt).all id=(ns.map PyData.int).all isInt:=by rw[Wf];rfl
       rw[e,zyf];k_few;subst hus;refine zvF (S2.seq hs) () (λl3 H3 ms n3 S3 e3 pm so=>?_);o_head Rh () (λl4 H4 n4 S4 e4=>?_);rw[zDA]at e4;refine Bl (sC (S4 _ _ e3)) (sC e4) ((LY _).shaped ⋯) ((LY _).shaped ⋯) ?_;rw[zCj];have q':=q H4 (S2.trans (S3.trans S4))
       have ee:decide (ms=eh n)=decide (ns.Perm (eh n)):=by
         rw[decide_eq_decide]
         constructor
         . rintro rfl;exact pm.symm
         . intro z;exact NC (pm.trans z) so (zCd n)
       rw[ee];exact q'
def e_{α : Type}(d : α)(ns:List Int)(xs:List α):Nat->List α
 | 0=>xs
 | k+1=>(e_ d ns xs k).set (ns.getD k 0).toNat (xs.getD k d)
theorem NR{α : Type}{d : α}(ns:List Int)(xs:List α):∀k,(e_ d ns xs k).length=xs.length
 | 0=>rfl
 | k+1=>by rw[e_,Wx,NR]
theorem LQ{α β : Type}(f : α -> β)(d : α)(ns:List Int)(xs:List α):∀k,(e_ d ns xs k).map f=e_ (f d) ns (xs.map f) k
 | 0=>rfl
 | k+1=>by
  rw[e_,e_,List.map_set,LQ f d ns xs k]
  congr 1
  rw[wk,wk,wG];cases xs[k]?<;>rfl
theorem K_{α : Type}(d e : α)(ns:List Int)(xs:List α):∀k,k<=xs.length->e_ d ns xs k=e_ e ns xs k
 | 0,_=>rfl
 | k+1,h=>by
  rw[e_,e_,K_ d e ns xs k ()]
  congr 1
  rw[wk,wk,wg (show k<xs.length by lia)]
  rfl
def mm{α : Type}(d : α)(ns:List Int)(xs:List α):List α:=e_ d ns xs xs.length
theorem zy4{α β : Type}(f : α -> β)(d : α)(e : β)(ns:List Int)(xs:List α):(mm d ns xs).map f=mm e ns (xs.map f):=by
 unfold mm;rw[LQ,we];exact K_ _ _ _ _ _ (by rw[we];exact wo _)
theorem MJ(h:aU ds=true):∀{i:Nat},i<ds.length->bJ (ds.getD i .none)=true:=by
 induction ds with
 | nil=>intro i hi;simp at hi
 | cons d ds ih =>
  have h:(bJ d&&aU ds)=true:=h;rw[wy]at h;intro i hi;cases i with
  | zero=>exact h.1
  | succ i=>exact ih h.2 (by simp at hi;lia)
theorem YR(h:aU ds=true)(k:bJ d=true):∀i,aU (ds.set i d)=true:=by
 induction ds with
 | nil=>intro i;exact h
 | cons e ds ih =>
  have h:(bJ e&&aU ds)=true:=h;rw[wy]at h;intro i;cases i with
  | zero=>show(bJ d&&aU ds)=true;rw[k,h.2];rfl
  | succ i=>show(bJ e&&aU (ds.set i d))=true;rw[h.1,ih h.2 i];rfl
theorem MD{ns:List Int}{ds:List wu}(h:aU ds=true):∀k,k<=ds.length->aU (e_ .none ns ds k)=true
 | 0,_=>h
 | k+1,hk=>by rw[e_];exact YR (MD h k ()) (MJ h ()) _
theorem R4{K:wa}{H:Hp} : ∀{us:List V}{ds:List wu}(i:Nat){v:V}{d:wu},aq K H us ds->Is K H v d->aq K H (us.set i v) (ds.set i d)
 | us,[],i,v,d,t,h=>by
  rw[fS.mp t];exact .nil
 | us,y::xs,0,v,d,t,h=>by
  obtain⟨u,r,rfl,_,t'⟩:=dw.mp t;exact .cons h t'
 | us,y::xs,i+1,v,d,t,h=>by
  obtain⟨u,r,rfl,hu,t'⟩:=dw.mp t;exact .cons hu (R4 i t' h)
def Lp(K:wa):Sp:=λvs H Q _=>∃x0 x1,vs=[x0,x1] /\ ∃(ao:wc)(ns:List Int)(ds:List wu),x0=.ref ao/\H ao=some (.lst (ns.map V.int))/\Is K H x1 (.tuple ds)/\aU ds=true/\ns.length=ds.length/\ds.length<=8/\(∀n∈ns,0<=n/\n<(ds.length:Int))/\Rs K H Q (.tuple (mm .none ns ds))
theorem ZS{ao:wc}{w:V}{ns:List Int}(h1:H ao=some (.lst (ns.map V.int)))(h2:Is K H w (.tuple ds))(im:aU ds=true)(hl:ns.length=ds.length)(h8:ds.length<=8)(hn:∀n∈ns,0<=n/\n<(ds.length:Int))(q:Rs K H Q (.tuple (mm .none ns ds))):Lp K [.ref ao,w] H Q E:=⟨_,_,rfl,ao,ns,ds,rfl,h1,h2,im,hl,h8,hn,q⟩
theorem zCZ{k:Int}(h0:0<=k)(h1:k<(n:Int)):gc n k=some k.toNat:=by
 unfold gc;rw[if_pos h0,if_pos h1]
theorem Zl(T:Txt w K mg a):aC P w K mg base aO 1 a.J3 a.IF uL (Lp K):=by
 refine T.Ju.F.ok x_ ?_ ?_;wtm_at "b2"
 refine⟨_,(aj (aJ 2 x_.nd (d5 (show aM _ (.type "list") (yG K)from Po) rfl T.h1W mQ (q1 1)))
     (aj (kH Wg rfl (zzv rfl T.h2g (q2 0 1)) (oQ (n:=2) rfl (jk (fL (i:=3) x_.nd rfl (Or.inl rfl)) (jk (fL (i:=4) x_.nd rfl (Or.inl rfl)) rn))) (ak (lO (pv 4) (pT (pv 2) (pv 3) oR))))
     (ak (aB (fZ K T.h1S (q1 2)))))),?_⟩
 wtm_at "cl";rw[show start Oi [x0,x1]=[some x0,some x1,none,none,none]from rfl];obtain⟨ao,ns,ds,rfl,eo,hx',im,hl,h8,hin,q⟩:=h;o_head NT hx' (λlt H1 us n1 S1 e1 t1=>?_);obtain⟨ax,xus,rfl,hsx,tx⟩:=bX.mp (hx'.by S1);have hxl:=tx.length;have nao:ao≠lt:=λz=>by subst z;rw[eo]at n1;cases n1
 have eo1:=S1 _ _ eo;o_head zwd (t:=false) (u:=true) (show dU false K H1 ao (ns.map V.int)from .of eo1) (show dU true K H1 ax xus from hsx) (by rw[we,hxl,hl]) (λk σ H'=>∃o3 o4 us',σ = [some (.ref ao),some (.ref ax),some (.ref lt),o3,o4]/\Exc lt H1 H'/\H' lt=some (.lst us')/\aq K H' us' (e_ .none ns ds k)) ⟨_,_,us,rfl,Exc.refl _ _,e1,t1⟩ (λi σ H' _ ⟨_,_,_,_,E,_⟩=>⟨.of (E.at nao eo1),(E.keep e1).mn hsx⟩) ?_ ?_
 . rintro i x y σ H2 c H3 hx hy ⟨o3,o4,us',rfl,E2,e2,t2⟩ hc S3 e3
   have hi:i<ds.length:=by rw[<- hxl];exact RO hy
   have iy:Is K H1 y (ds.getD i .none):=by
     obtain⟨z,ez,iz⟩:=tx.get (show ds[i]? = some (ds.getD i .none) by rw[wk,wg hi];rfl);rw[hy]at ez;cases ez;exact iz
   have hin':i<ns.length:=by lia
   have hxv:x=.int (ns.getD i 0):=by
     rw[wG,wg hin']at hx;rw[wk,wg hin'];exact(vi hx).symm
   subst hxv;have hr:=hin (ns.getD i 0) (GM.getD_mem hin');have hlu:us'.length=ds.length:=by rw[t2.length,NR]
   refine rm (.of e3) rfl ?_;o_head y_ (j:=(ns.getD i 0).toNat) (S3 _ _ e2) (by rw[hlu];exact zCZ hr.1 hr.2) (λH4 E4 e4=>?_);have k4:=E4.keep (S3 _ _ e2);o_head ⟨_,_,_,rfl,E2.trans (S3.exc.trans E4),e4,?_⟩;rw[e_];exact R4 _ (aq.keep (S3.keep.trans k4) _ _ (MD im i ()) t2) (iy.cJ ((E2.keep e1).trans (S3.keep.trans k4)) (MJ im hi))
 . rintro σ H2 ⟨o3,o4,us',rfl,E2,e2,t2⟩
   rw[we,hl]at t2;o_head lS (cR.mpr ⟨lt,us',rfl,.of e2,t2⟩) (λv H3 S3 i3=>?_);exact q v H3 ((S1.grow n1 E2).trans S3) i3
def AF(K:wa)(H:Hp)(v:V)(n:Nat):Prop:=(∃d,Is K H v d/\fF d=false)\/(∃ds,Is K H v (.list ds)/\ds.length<=60/\ds.all isInt=false)\/(∃ns,Is K H v (LZ ns)/\ns.length<=60 /\ ¬ ns.Perm (eh n))
theorem zpT{v:V}(h8:n<=8)(h:AF K H v n)(q:Rq H Q (.bl false)):pM K [v,.int (n:Int)] H Q E:=by
 rcases h with⟨d,i,e⟩ | ⟨ds,i,l,e⟩ | ⟨ns,i,l,e⟩
 ·exact zq5 h8 i e q
 ·exact zqZ h8 i l e q
 ·exact Pf h8 i l (by rw[decide_eq_false e];exact q)
theorem ZR{ns:List Int}(h:ns.Perm (eh n)):ns.length=n /\ ∀m∈ns,0<=m/\m<(n:Int):=by
 refine⟨by rw[h.length_eq];simp[eh],λm hm=>?_⟩;obtain⟨w,hw,rfl⟩:=wU.mp (h.mem_iff.mp hm);have:=Wq.mp hw;lia
section
variable{ns:List Int}{α : Type}{d : α}{xs:List α}{n:Nat}
end
variable{H H':Hp}{Q:VK}{E:XK}{b h r ra rb:Rat}{xs:List Rat}{d:wu}{x y:wm}{ds es:List wu}{m z:Int}{α:Type}{c k n:Nat}{g:Bool}
def LP(K:wa)(a:Ad):Sp:=λvs H Q E=>∃x0 x1,vs=[x0,x1] /\ ∃(ra rb:Rat)(xs:List Rat),Is K H x0 (br ra rb xs)/\xs.length<=8/\((AF K H x1 xs.length /\ ∀H',ae H H'->E (.ref a.bM) none H')\/(∃(ao:wc)(ns:List Int),x1=.ref ao/\H ao=some (.lst (ns.map V.int))/\ns.Perm (eh xs.length)/\Rs K H Q (br ra rb (mm 0 ns xs))))
theorem zom{v w:V}(h:Is K H v (br ra rb xs))(h8:xs.length<=8)(hn:AF K H w xs.length)(q:∀H',ae H H'->E (.ref a.bM) none H'):LP K a [v,w] H Q E:=⟨_,_,rfl,ra,rb,xs,h,h8,.inl ⟨hn,q⟩⟩
theorem ZJ(T:Txt w K mg a):aC P w K mg base (bQ P w) 3 a.IU a.GU zw (LP K a):=by
 refine T.HB.F.dO zq9 ?_ ?_;wtm_at "b2"
 refine⟨_,(aj (bo (cc (bI (av (zsq T) hr T.Iq (aa (pv 1) (aa (cD K T.h2f (aa (qi 0) af)) af))))) (ak (ft T.rP rfl rfl T.ow fC (aa ag af))) bj)
     (ak (aB (cE (aa (qi 0) (aa (av (Zl T) hr T.Ju (aa (pv 1) (aa (qi 0) af))) af)))))),?_⟩
 wtm_at "cl";rw[show start Fd [x0,x1]=[some x0,some x1]from rfl];obtain⟨ra,rb,xs,hw,h8,h⟩:=h;rcases h with⟨hn,qe⟩ | ⟨ao,ns,rfl,eo,pm,q⟩
 . k_few
   refine bz (j:=1) hw rfl (λv1 i1=>?_);o_head mh i1 ?_;o_head zpT h8 hn (λH1 S1=>?_);k_few;exact⟨by simp;decide,qe H1 S1⟩
 . obtain⟨hl,hin⟩:=ZR pm
   o_head bz (j:=1) hw rfl (λv1 i1=>?_);o_head mh i1 ?_;o_head Pf h8 (sC eo) () (λH1 S1=>?_);rw[decide_eq_true pm];o_head bz (j:=0) (hw.by S1) rfl (λv2 i2=>?_);o_head bz (j:=1) (hw.by S1) rfl (λv3 i3=>?_);o_head ZS (ds:=xs.map N) (S1 _ _ eo) i3 (gw xs) (by rw[we];exact hl) (by rw[we];exact h8) (by rw[we];exact hin) (λv4 H4 S4 i4=>?_);rw[<- zy4 N 0]at i4;o_head eE (ds:=[R ra rb,TN (mm 0 ns xs)]) ∅ (.cons (i2.by S4) (.cons i4 .nil)) (λv5 H5 S5 i5=>?_);exact q v5 H5 (S1.trans (S4.trans S5)) i5
def sG(K:wa):Sp:=λvs H Q _=>∃x0,vs=[x0]/\((∃d,Is K H x0 d/\bA d=false/\Q (.bl false) H)\/(∃x:Rat,Is K H x0 (N x)/\ah 4000 x/\Q (.bl (eJ x)) H))
theorem zqC{v:V}(h:Is K H v d)(n:bA d=false)(q:Q (.bl false) H):sG K [v] H Q E:=⟨_,rfl,.inl ⟨d,h,n,q⟩⟩
theorem zsJ{x:Rat}{v:V}(h:Is K H v (N x))(b:ah 4000 x)(q:Q (.bl (eJ x)) H):sG K [v] H Q E:=⟨_,rfl,.inr ⟨x,h,b,q⟩⟩
theorem zrv(T:Txt w K mg a):aC P w K mg base aO 3 a.JD a.HM tq (sG K):=by
 refine T.Ii.F.ok zrH ?_ ?_;wtm_at "b1"
 refine⟨_,(aj (bo (PW.pt (dh (cc (bI (av (m7 T) hr T.kT (q1 0)))) (eG (bI (av (iu T) hr T.gu (aa (pv 0) (aa (bZ (v:=.ref a.fQ) rfl T.iI rfl) af))))))) (ak (aB dM)) bj)
     (ak (aB (dA (av (iu T) hr T.gu (aa (pv 0) (aa (bZ (v:=.ref a.jA) rfl T.kX rfl) af))) (dD (fw jj (qi 0) (fI rfl T.U4) (cN _))))))),?_⟩
 wtm_at "cl";rw[show start Bb [x0]=[some x0]from rfl];rcases h with⟨d,hd,hn,q⟩ | ⟨x,hx,bx,q⟩
 . k_few
   . exact q
   . rename_i e;rw[hn]at e;cases e
 . unfold eJ at q
   k_few
   . rename_i z;rw[p_]at z;cases z
   . rename_i h1
     rw[decide_eq_true h1]at q;exact q
   . rename_i h1 h2
     rw[decide_eq_false h1,decide_eq_true h2]at q;exact q
   . rename_i h1 h2
     rw[decide_eq_false h1,decide_eq_false h2]at q;exact q
def eQ:wu->Bool
 | .tuple [.int p,.int q]=>eP p q&&eJ (wR p q)
 | _=>false
theorem DU(x:Rat):eQ (N x)=eJ x:=by
 show(eP x.num x.den&&eJ (wR x.num x.den))=eJ x
 rw[CK,VS,w9]
theorem ztz(h:bA d=true):∃x:Rat,d=N x:=by
 match d with
 | .tuple [.int p,.int q] =>
  obtain⟨r,e1,e2⟩:=Cd (show eP p q=true from h);exact⟨r,by rw[e1,e2];rfl⟩
 | .none=>simp[bA]at h
 | .bool _=>simp[bA]at h
 | .int _=>simp[bA]at h
 | .str _=>simp[bA]at h
 | .list _=>simp[bA]at h
 | .dict _=>simp[bA]at h
 | .tuple []=>simp[bA]at h
 | .tuple [_]=>simp[bA]at h
 | .tuple (_::_::_::_)=>simp[bA]at h
 | .tuple [.none,_]=>simp[bA]at h
 | .tuple [.bool _,_]=>simp[bA]at h
 | .tuple [.str _,_]=>simp[bA]at h
 | .tuple [.tuple _,_]=>simp[bA]at h
 | .tuple [.list _,_]=>simp[bA]at h
 | .tuple [.dict _,_]=>simp[bA]at h
 | .tuple [.int _,.none]=>simp[bA]at h
 | .tuple [.int _,.bool _]=>simp[bA]at h
 | .tuple [.int _,.str _]=>simp[bA]at h
 | .tuple [.int _,.tuple _]=>simp[bA]at h
 | .tuple [.int _,.list _]=>simp[bA]at h
 | .tuple [.int _,.dict _]=>simp[bA]at h
theorem zAt(h:bA d=false):eQ d=false:=by
 unfold eQ
 split
 ·rename_i p q
  rw[show eP p q=false from h];rfl
 ·rfl
theorem OE{v:V}(h:Is K H v d)(b:∀x,d=N x->ah 4000 x)(q:Q (.bl (eQ d)) H):sG K [v] H Q E:=by
 cases e:bA d with
 | false=>rw[zAt e]at q;exact zqC h e q
 | true =>
  obtain⟨x,rfl⟩:=ztz e;rw[DU]at q;exact zsJ h (b x rfl) q
def Dz(K:wa):Sp:=λvs H Q _=>∃x0,vs=[x0]/\((∃d,Is K H x0 d/\(fF d || gT d)=false/\Rq H Q (.bl false))\/(∃ds,(Is K H x0 (.list ds)\/Is K H x0 (.tuple ds))/\(∀e∈ds,∀x,e=N x->ah 4000 x)/\Rq H Q (.bl (decide (1<=ds.length)&&decide (ds.length<=8)&&ds.all eQ)))\/(∃(p:wc)(kvs:List (List Key × V)),x0=.ref p/\H p=some (.dT kvs)/\Rq H Q (.bl false)))
theorem Zu{v:V}(h:Is K H v (.list ds)\/Is K H v (.tuple ds))(b:∀e∈ds,∀x,e=N x->ah 4000 x)(q:Rq H Q (.bl (decide (1<=ds.length)&&decide (ds.length<=8)&&ds.all eQ))):Dz K [v] H Q E:=⟨_,rfl,.inr (.inl ⟨ds,h,b,q⟩)⟩
def nX(K:wa)(H:Hp)(v:V):Prop:=(∃d,Is K H v d/\(fF d || gT d)=false)\/(∃ds,(Is K H v (.list ds)\/Is K H v (.tuple ds))/\(∀e∈ds,∀x,e=N x->ah 4000 x)/\(decide (1<=ds.length)&&decide (ds.length<=8)&&ds.all eQ)=false)\/(∃(p:wc)(kvs:List (List Key × V)),v=.ref p/\H p=some (.dT kvs))
theorem nX.by{v:V}(s:ae H H')(h:nX K H v):nX K H' v:=by
 rcases h with⟨d,i,e⟩ | ⟨ds,i,b,e⟩ | ⟨p,kvs,e,h⟩
 ·exact .inl ⟨d,i.by s,e⟩
 ·exact .inr (.inl ⟨ds,i.imp (λz=>z.by s) (λz=>z.by s),b,e⟩)
 ·exact .inr (.inr ⟨p,kvs,e,s _ _ h⟩)
theorem znQ{v:V}(h:nX K H v)(q:Rq H Q (.bl false)):Dz K [v] H Q E:=by
 rcases h with⟨d,i,e⟩ | ⟨ds,i,b,e⟩ | ⟨p,kvs,e,h⟩
 ·exact⟨_,rfl,.inl ⟨d,i,e,q⟩⟩
 ·exact⟨_,rfl,.inr (.inl ⟨ds,i,b,by rw[e];exact q⟩)⟩
 ·exact⟨_,rfl,.inr (.inr ⟨p,kvs,e,h,q⟩)⟩
theorem zn6(T:Txt w K mg a):aC P w K mg base aO 4 a.Iv a.Gy yH (Dz K):=by
 refine T.G7.F.ok zow ?_ ?_;wtm_at "b1"
 refine⟨_,(aj (bo (PW.pt (dh (cc (bI (bH (show aM _ (.builtin "isinstance") (BA K)from zr5) rfl T.h1i dy (aa (pv 0) (aa (cE (aa (fz (v:=.ty "list") rfl T.h1W mQ rfl) (aa (fz (v:=.ty "tuple") rfl T.h1S zev rfl) af))) af))))) (eG (cc (SU jj jj aA (cD K T.h2f (q1 0)) (fI rfl T.Hn)))))) (ak (aB dM)) bj)
     (ak (aB (bH (show aM _ (.builtin "all") (h_ K)from jH rfl) rfl T.h1Y jG (aa (c_ rfl (cF ["one"] [none]) (N7 (pv 0)) (λ_ _ _ _ _=>(cv 0)) (λ_ _ _ _ _=>cX) (λ_ _ _ _ _=>(av (zrv (K:=K) (mg:=mg) (a:=a) T) hr T.Ii (q1 0)))) af))))),?_⟩
 wtm_at "cl";rw[show start B2 [x0]=[some x0]from rfl];rcases h with⟨d,hd,hn,q⟩ | ⟨ds,hd,bd,q⟩ | ⟨p,kvs,rfl,hp,q⟩
 . k_few
   refine fG ∅ (λtp H1 _ S1 e1=>?_);o_head .inl (AN (hd.by S1) e1 ?_);rw[hn];k_few;exact q H1 S1
 . rcases hd with hd | hd
   . k_few
     refine fG ∅ (λtp H1 _ S1 e1=>?_);o_head .inl (AN (hd.by S1) e1 ?_);rw[show(fF (.list ds) || gT (.list ds))=true from rfl];obtain⟨ap,us,rfl,hs,tu⟩:=cR.mp (hd.by S1);have hul:=tu.length;o_head md hs ?_;rw[hul];k_few
     . rename_i z0 z
       have:=q H1 S1;rw[decide_eq_false (show ¬ ds.length<=8 by lia),Wr,w8]at this;exact this
     . rename_i z0 z
       have h1:1<=ds.length:=by lia
       have h8:ds.length<=8:=by lia
       refine .inl (gq (o0:=none) (tl:=[]) hs rfl (λj y H'=>y=.bl (eQ (ds.getD j .none))) ?_ ?_)
       . intro D i x ys o H2 hx inv
         obtain⟨hi,ix⟩:=ke tu hx;o_head OE (ix.by inv.same) (λx e=>bd _ (getD_mem hi) x e) ?_;k_few;exact cY inv () (λ_ _ _ _ _ z=>z) ⟨_,rfl⟩ (ae.refl _) rfl
       . intro D ys H2 hn S2 hD hl hr
         have hys:ys=(ds.map eQ).map V.bl:=by
           refine vv (by rw[hl,hul,we,we]) λj h1 h2=>?_
           have:=hr j ys[j] (wg h1);rw[this,vb,vb,wk,wg]
           rfl
         subst hys;o_head hV (.of hD) ?_;k_few;have e:(ds.map eQ).all id=ds.all eQ:=by rw[Wf];rfl
         have:=q H2 (S1.trans S2);rw[decide_eq_true h1,decide_eq_true h8,<- e]at this;exact this
     . rename_i z
       have:=q H1 S1;rw[decide_eq_false (show ¬ 1<=ds.length by lia),w8,w8]at this;exact this
   . k_few
     refine fG ∅ (λtp H1 _ S1 e1=>?_);o_head .inl (AN (hd.by S1) e1 ?_);rw[show(fF (.tuple ds) || gT (.tuple ds))=true from rfl];obtain⟨ap,us,rfl,hs,tu⟩:=bX.mp (hd.by S1);have hul:=tu.length;o_head ON hs ?_;rw[hul];k_few
     . rename_i z0 z
       have:=q H1 S1;rw[decide_eq_false (show ¬ ds.length<=8 by lia),Wr,w8]at this;exact this
     . rename_i z0 z
       have h1:1<=ds.length:=by lia
       have h8:ds.length<=8:=by lia
       refine .inr (kn (o0:=none) (tl:=[]) hs rfl (λj y H'=>y=.bl (eQ (ds.getD j .none))) ?_ ?_)
       . intro D i x ys o H2 hx inv
         obtain⟨hi,ix⟩:=ke tu hx;o_head OE (ix.by inv.same) (λx e=>bd _ (getD_mem hi) x e) ?_;k_few;exact cY inv () (λ_ _ _ _ _ z=>z) ⟨_,rfl⟩ (ae.refl _) rfl
       . intro D ys H2 hn S2 hD hl hr
         have hys:ys=(ds.map eQ).map V.bl:=by
           refine vv (by rw[hl,hul,we,we]) λj h1 h2=>?_
           have:=hr j ys[j] (wg h1);rw[this,vb,vb,wk,wg]
           rfl
         subst hys;o_head hV (.of hD) ?_;k_few;have e:(ds.map eQ).all id=ds.all eQ:=by rw[Wf];rfl
         have:=q H2 (S1.trans S2);rw[decide_eq_true h1,decide_eq_true h8,<- e]at this;exact this
     . rename_i z
       have:=q H1 S1;rw[decide_eq_false (show ¬ 1<=ds.length by lia),w8,w8]at this;exact this
 . k_few
   refine fG ∅ (λtp H1 _ S1 e1=>?_);o_head zwG (S1 _ _ hp) e1 ?_;k_few;exact q H1 S1
theorem Ra{a:Rat}(h:cw a b):fk a b=true:=by
 obtain⟨h1,h2,h3,h4,h5,h6,h7⟩:=h;have k2:¬ (4:Rat)<a:=W0.mpr h2;have k4:¬ b<0:=W0.mpr h4;have k5:¬ (1:Rat)<b:=W0.mpr h5;have k7:¬ a+b<1:=W0.mpr h7;have k3:(a.den:Int)<=8:=by lia
 have k6:(b.den:Int)<=12:=by lia
 simp[fk,lB,lI,h1,k2,k3,k4,k5,k6,k7]
theorem zDj(h:∀x∈xs,di x):(xs.map N).all eQ=true:=by
 rw[wH];intro d hd;obtain⟨x,hx,rfl⟩:=wU.mp hd;rw[DU];exact(h x hx).is
theorem zA2(h:∀x∈xs,di x):∀e∈xs.map N,∀x,e=N x->ah 4000 x:=by
 intro e he x hx;obtain⟨y,hy,rfl⟩:=wU.mp he;rw[<- To hx];exact(h y hy).jP.mono ⋯
def FT(K:wa)(H:Hp)(v:V):Prop:=(∃d,Is K H v d/\tm d=true)\/(∃x y:Rat,Is K H v (R x y)/\ah 1000 x/\ah 1000 y/\fk x y=false)
theorem zsB{v:V}(h:FT K H v)(q:Rq H Q (.bl false)):tQ K [v] H Q E:=by
 rcases h with⟨d,i,e⟩ | ⟨x,y,i,b1,b2,e⟩
 ·exact zsp i e q
 ·exact Dw i b1 b2 (by rw[e];exact q)
def t5(K:wa)(a:Ad):Sp:=λvs H Q E=>∃x0 x1,vs=[x0,x1]/\((FT K H x0 /\ ∀H',ae H H'->E (.ref a.cG) none H')\/(∃(ra rb:Rat),Is K H x0 (R ra rb)/\cw ra rb/\nX K H x1 /\ ∀H',ae H H'->E (.ref a.bM) none H')\/(∃(ra rb:Rat)(xs:List Rat),Is K H x0 (R ra rb)/\cw ra rb/\(Is K H x1 (LN xs)\/Is K H x1 (TN xs))/\1<=xs.length/\xs.length<=8/\(∀x∈xs,di x)/\Rs K H Q (br ra rb xs)))
theorem zq3{v w:V}(h:FT K H v)(q:∀H',ae H H'->E (.ref a.cG) none H'):t5 K a [v,w] H Q E:=⟨_,_,rfl,.inl ⟨h,q⟩⟩
theorem zp1{v w:V}(h1:Is K H v (R ra rb))(ok:cw ra rb)(h:nX K H w)(q:∀H',ae H H'->E (.ref a.bM) none H'):t5 K a [v,w] H Q E:=⟨_,_,rfl,.inr (.inl ⟨ra,rb,h1,ok,h,q⟩)⟩
theorem zsA{v w:V}(h1:Is K H v (R ra rb))(ok:cw ra rb)(h2:Is K H w (LN xs)\/Is K H w (TN xs))(h3:1<=xs.length)(h4:xs.length<=8)(h5:∀x∈xs,di x)(q:Rs K H Q (br ra rb xs)):t5 K a [v,w] H Q E:=⟨_,_,rfl,.inr (.inr ⟨ra,rb,xs,h1,ok,h2,h3,h4,h5,q⟩)⟩
theorem zrB(T:Txt w K mg a):aC P w K mg base (bQ P w) 5 a.Jy a.Hu uU (t5 K a):=by
 refine T.Ih.F.dO zr7 ?_ ?_;wtm_at "b2"
 refine⟨_,(aj (bo (cc (bI (av (ztH T) hr T.IE (q1 0)))) (ak (ft T.Yq rfl rfl T.Jm fC (aa ag af))) bj)
     (aj (bo (cc (bI (av (zn6 T) hr T.G7 (q1 1)))) (ak (ft T.rP rfl rfl T.ow fC (aa ag af))) bj)
     (ak (aB (cE (aa (pv 0) (aa (fZ K T.h1S (q1 1)) af))))))),?_⟩
 wtm_at "cl";rw[show start BU [x0,x1]=[some x0,some x1]from rfl];rcases h with⟨hn,qe⟩ | ⟨ra,rb,hr,ok,hn,qe⟩ | ⟨ra,rb,xs,hr,ok,hp,h1,h8,hph,q⟩
 . k_few
   refine zsB hn (λH1 S1=>?_);k_few;exact⟨by simp;decide,qe H1 S1⟩
 . k_few
   refine Dw hr (ok.ba.mono ⋯) (ok.bb.mono ⋯) (λH1 S1=>?_);rw[Ra ok];o_head znQ (hn.by S1) (λH2 S2=>?_);k_few;exact⟨by simp;decide,qe H2 (S1.trans S2)⟩
 . k_few
   refine Dw hr (ok.ba.mono ⋯) (ok.bb.mono ⋯) (λH1 S1=>?_);rw[Ra ok];k_few;have hp1:Is K H1 x1 (LN xs)\/Is K H1 x1 (TN xs):=hp.imp (λz=>z.by S1) (λz=>z.by S1);refine Zu (ds:=xs.map N) hp1 (zA2 hph) (λH2 S2=>?_);rw[zDj hph,we,decide_eq_true h1,decide_eq_true h8,show(true&&true&&true)=true from rfl];have hp2:Is K H2 x1 (LN xs)\/Is K H2 x1 (TN xs):=hp1.imp (λz=>z.by S2) (λz=>z.by S2);have hr2:Is K H2 x0 (R ra rb):=(hr.by S1).by S2;k_few;rcases hp2 with z | z
   . refine lS z (λw H3 S3 i3=>?_)
     o_head eE (ds:=[R ra rb,TN xs]) ∅ (.cons (hr2.by S3) (.cons i3 .nil)) (λv H4 S4 i4=>?_);exact q v H4 (S1.trans (S2.trans (S3.trans S4))) i4
   . refine ztt z ?_
     o_head eE (ds:=[R ra rb,TN xs]) ∅ (.cons hr2 (.cons z .nil)) (λv H4 S4 i4=>?_);exact q v H4 (S1.trans (S2.trans S4)) i4
def SX(K:wa):Sp:=λvs H Q _=>∃x0,vs=[x0] /\ ∃xs:List Rat,(Is K H x0 (LN xs)\/Is K H x0 (TN xs))/\1<=xs.length/\(∀i,ah 4000 (xs.getD i 0)) /\ ∀v,Is K H v (N (bO xs))->Q v H
theorem CB{v:V}(h:Is K H v (LN xs)\/Is K H v (TN xs))(h1:1<=xs.length)(b:∀i,ah 4000 (xs.getD i 0))(q:∀v,Is K H v (N (bO xs))->Q v H):SX K [v] H Q E:=⟨_,rfl,xs,h,h1,b,q⟩
theorem FJ(T:Txt w K mg a):aC P w K mg base aO 2 a.Jt a.HE uN (SX K):=by
 refine T.rM.F.ok yy ?_ ?_;wtm_at "b1"
 refine⟨_,(aj (aJ 1 yy.nd (qi 0))
     (aj (kH Wg rfl (N7 (pv 0)) (fL (i:=2) yy.nd rfl (Or.inl rfl)) (ak (bo (bI (av (iu T) hr T.gu (q2 1 2))) (ak (aJ 1 yy.nd (pv 2))) bj)))
     (ak (aB (pv 1))))),?_⟩
 wtm_at "cl";rw[show start RP [x0]=[some x0,none,none]from rfl];obtain⟨xs,hx,h1,bx,q⟩:=h;rcases hx with hx | hx
 . obtain⟨ap,us,rfl,hs,tu⟩:=cR.mp hx
   have hul:us.length=xs.length:=by rw[tu.length,we]
   o_head sX hx ⋯ () (λv0 i0=>?_);have i0:Is K H v0 (N (mx (xs.getD 0 0) [])):=i0;o_head .inl (N1 hs (λi σ H'=>∃o v,σ = [some (.ref ap),some v,o]/\H'=H/\Is K H v (N (mx (xs.getD 0 0) (xs.take i)))) ⟨_,v0,rfl,rfl,by rw[ug];exact i0⟩ (λi σ H' _ h=>by obtain⟨_,_,_,rfl,_⟩:=h;exact hs) ?_ ?_)
   . rintro i x σ H' hx' ⟨o,v,rfl,rfl,iv⟩
     obtain⟨hi,ix⟩:=gz tu hx';have b1:=Cw bx h1 i;have b2:=bx i;k_few
     . rename_i z
       exact⟨_,x,rfl,rfl,by rw[mR hi,yN,if_pos z];exact ix⟩
     . rename_i z
       exact⟨_,v,rfl,rfl,by rw[mR hi,yN,if_neg z];exact iv⟩
   . rintro σ H' ⟨o,v,rfl,rfl,iv⟩
     rw[hul,WT]at iv;k_few;exact q v iv
 . obtain⟨ap,us,rfl,hs,tu⟩:=bX.mp hx
   have hul:us.length=xs.length:=by rw[tu.length,we]
   o_head NF hx ⋯ () (λv0 i0=>?_);have i0:Is K H v0 (N (mx (xs.getD 0 0) [])):=i0;o_head .inr (zwg hs (λi σ H'=>∃o v,σ = [some (.ref ap),some v,o]/\H'=H/\Is K H v (N (mx (xs.getD 0 0) (xs.take i)))) ⟨_,v0,rfl,rfl,by rw[ug];exact i0⟩ (λi σ H' _ h=>by obtain⟨_,_,_,rfl,_⟩:=h;exact hs) ?_ ?_)
   . rintro i x σ H' hx' ⟨o,v,rfl,rfl,iv⟩
     obtain⟨hi,ix⟩:=gz tu hx';have b1:=Cw bx h1 i;have b2:=bx i;k_few
     . rename_i z
       exact⟨_,x,rfl,rfl,by rw[mR hi,yN,if_pos z];exact ix⟩
     . rename_i z
       exact⟨_,v,rfl,rfl,by rw[mR hi,yN,if_neg z];exact iv⟩
   . rintro σ H' ⟨o,v,rfl,rfl,iv⟩
     rw[hul,WT]at iv;k_few;exact q v iv
def NB(K:wa):Sp:=λvs H Q _=>∃x0 x1,vs=[x0,x1] /\ ∃(xs:List Rat)(v:Rat),Is K H x0 (TN xs)/\Is K H x1 (N v)/\xs.length<=900 /\ ∀u H',ae H H'->Is K H' u (TW (oV xs v))->Q u H'
theorem zsK{v:Rat}{w u:V}(h1:Is K H w (TN xs))(h2:Is K H u (N v))(hl:xs.length<=900)(q:∀u H',ae H H'->Is K H' u (TW (oV xs v))->Q u H'):NB K [w,u] H Q E:=⟨_,_,rfl,xs,v,h1,h2,hl,q⟩
theorem zsb(T:Txt w K mg a):aC P w K mg base aO 1 a.Jk a.HI tD (NB K):=by
 refine T.IA.F.ok zrt ?_ ?_;wtm_at "b2";refine⟨_,(ak (aB (fZ K T.h1S (aa (c_ rfl (cF ["worm","own","phase"] [none,none,some 1]) (zyM rfl T.h1p (q1 0)) (λ_ _ _ _ _=>by exact(show PG _ _ (yA K 2 _)from oQ (n:=2) rfl (jk (cv 0) (jk (cv 1) rn)))) (λ_ _ _ _ _=>(zy (gD K hu (pv 1) (pv 2)))) (λ_ _ _ _ _=>(pv 0))) af)))),?_⟩;wtm_at "cl";rw[show start Eu [x0,x1]=[some x0,some x1]from rfl];obtain⟨xs,v,hx,hv,hl,q⟩:=h;obtain⟨ap,us,rfl,hu',tu⟩:=bX.mp hx;have hul:us.length=xs.length:=by rw[tu.length,we]
 o_head Z4 hu' (λD i ys σ' H'=>(∃o1 o2,σ'=[o1,o2,some x1])/\H D=none/\ae H H'/\H' D=some (.lst (vz ((vP i).filter λw=>decide (xs.getD w 0=v))))) (λD H' n s e=>⟨⟨_,_,rfl⟩,n,s,e⟩) (λD i ys σ' H' h=>h.2.2.1.mn hu') ?_ ?_
 ·rintro D i x ys σ' H1 c H2 hx' ⟨⟨o1,o2,rfl⟩,n,S1,e1⟩ hc S2 e2
  obtain⟨hi,ix⟩:=gz tu hx';have T2:=S1.trans S2;have ix2:=ix.by T2;have hv2:=hv.by T2;have e12:=S2 _ _ e1
  have hfl:((vP i).filter λw=>decide (xs.getD w 0=v)).length<=i:=by
   have:=WF (λw=>decide (xs.getD w 0=v)) (vP i);rw[WK]at this;exact this
  refine rm (.of e2) rfl ?_;k_few
  ·rename_i z
   refine kr e12 (by rw[jN];lia) (λH6 E6 e6=>⟨⟨_,_,rfl⟩,n,T2.grow n E6,?_⟩);rw[N8 (n:=i),decide_eq_true z,if_pos rfl,BX];exact e6
  ·rename_i z
   refine⟨[],⟨_,_,rfl⟩,n,T2,?_⟩;rw[N8 (n:=i),decide_eq_false z,if_neg ⋯,vS];exact e12
 ·rintro D ys σ' H1 ⟨_,n,S1,e1⟩
  rw[hul]at e1;o_head ml (.of e1) (λl H2 n2 S2 e3=>?_);exact q _ H2 (S1.trans S2) (DA.mpr ⟨l,rfl,.of e3⟩)
def OB(K:wa):Sp:=λvs H Q _=>∃x0,vs=[x0] /\ ∃(a b:Rat)(xs:List Rat),Is K H x0 (br a b xs)/\xs.length<=8/\(∀i,ah 4000 (xs.getD i 0)) /\ ∀l H' us,H l=none->ae H H'->H' l=some (.lst us)->aq K H' us ((kE xs).map (jV xs))->Q (.ref l) H'
theorem ZD{a:Rat}{v:V}(h:Is K H v (br a b xs))(h8:xs.length<=8)(bx:∀i,ah 4000 (xs.getD i 0))(q:∀l H' us,H l=none->ae H H'->H' l=some (.lst us)->aq K H' us ((kE xs).map (jV xs))->Q (.ref l) H'):OB K [v] H Q E:=⟨_,rfl,a,b,xs,h,h8,bx,q⟩
theorem zub{m:Nat}(b:∀i,ah m (xs.getD i 0)){x:Rat}(h:x∈xs):ah m x:=by
 obtain⟨j,hj,rfl⟩:=W6 h;have:=b j;rw[wk,wg hj]at this;exact this
theorem zvQ{β:Type}(f : α -> β)(l:List α):(!(l.map f).isEmpty) = !l.isEmpty:=by cases l<;>rfl
theorem zwK(T:Txt w K mg a):aC P w K mg base aO 3 a.J1 a.IS yz (OB K):=by
 refine T.JE.F.ok oJ ?_ ?_;wtm_at "b1"
 refine⟨_,(aj (aJ 1 oJ.nd (cS af))
     (aj (aJ 2 oJ.nd (d5 (show aM _ (.type "list") (yG K)from Po) rfl T.h1W mQ (aa (qi 0) af)))
     (aj (zi Wg (o8 (pv 2)) (aj (aJ 3 oJ.nd (av (FJ T) hr T.rM (q1 2)))
     (aj (lU (cq Wn VG VH nY (pv 1) (aa (cE (aa (pv 3) (aa (av (zsb T) hr T.IA (aa (qi 0) (q1 3))) af))) af)))
     (ak (o_ (i:=2) oJ.nd rfl (Or.inl rfl) rfl (cF ["other","phase"] [none,some 3]) (eL (pv 2)) (λ_ _ _ _ _=>(cv 0)) (λ_ _ _ _ _=>(zy (eM K hu (pv 0) (pv 1)))) (λ_ _ _ _ _=>(pv 0)))))))
     (ak (aB (pv 1)))))),?_⟩
 wtm_at "cl";rw[show start Tc [x0]=[some x0,none,none,none]from rfl];obtain⟨ra,rb,xs,hw,h8,bx,q⟩:=h;o_head fj ∅ (λlt H1 n1 S1 e1=>?_);o_head bz (j:=1) (hw.by S1) rfl (λvp ip=>?_);o_head NT ip (λll H2 us n2 S2 e2 t2=>?_);have nlt:ll≠lt:=λz=>by subst z;rw[e1]at n2;cases n2
 o_head OP (λm σ' H'=>∃(ll:wc)(left done:List Rat)(us ws:List V)(f:Nat)(o3:Option V),σ'=[some x0,some (.ref lt),some (.ref ll),o3]/\m=left.length/\ae H H'/\ll≠lt/\H' lt=some (.lst ws)/\aq K H' ws (done.map (jV xs))/\H' ll=some (.lst us)/\aq K H' us (left.map N)/\(∀y∈left,y∈xs)/\left.length<=f/\done.length+left.length<=xs.length/\done++lM f left=kE xs) _ ⟨ll,xs,[],us,[],xs.length,_,rfl,rfl,S1.trans S2,nlt,S2 _ _ e1,.nil,e2,t2,λy h=>h,wo _,by simp,rfl⟩ ?_;rintro m σ' H3 ⟨ll,left,done,us,ws,f,o3,rfl,rfl,S3,nl,et,tt',el,tl',sub,hf,hdl,heq⟩;o_head A6 (iJ el tl') ?_;rw[zvQ]
 by_cases he:left=[]
 . rw[show(!left.isEmpty)=false by rw[he];rfl]
   refine m8 ?_;rw[he,Rb,vS]at heq;rw[heq]at tt';k_few;exact q lt H3 ws n1 S3 et tt'
 . rw [show (!left.isEmpty) = true by cases left with
       | nil=>exact absurd rfl he
       | cons y l=>rfl]
   refine nB ?_;refine Oh ?_;have hpos:=VI.mpr he
   have bl:∀i,ah 4000 (left.getD i 0):=λi=>by
     rcases vt i left.length with z | z
     . exact zub bx (sub _ (getD_mem z))
     . rw[wk,vj z];exact ah.zero.mono ⋯
   obtain⟨f',rfl⟩:∃f',f=f'+1:=⟨f-1,by lia⟩;rw[Oe he]at heq;have hless:=zsT he;have hwl:=tt'.length;rw[we]at hwl;o_head CB (.inl (iJ el tl')) hpos bl (λvm im=>?_);o_head ma (aI.of et) ?_;o_head bz (j:=1) (hw.by S3) rfl (λvq iq=>?_);o_head zsK iq im () (λv4 H4 S4 i4=>?_);o_head eE (ds:=[N (bO left),TW (oV xs (bO left))]) ∅ (.cons (im.by S4) (.cons i4 .nil)) (λv5 H5 S5 i5=>?_);k_few;have T5:=S4.trans S5;refine yW (T5 _ _ et) () (λH6 E6 e6=>?_);have K6:=E6.keep (T5 _ _ et);have el6:=E6 _ _ nl (T5 _ _ el);have tl6:aq K H6 us (left.map N):=aq.keep (T5.keep.trans K6) _ _ (gw _) tl'
   have tt6:aq K H6 (ws++[v5]) ((done++[bO left]).map (jV xs)):=by
     rw[vJ];exact(aq.keep (T5.keep.trans K6) _ _ (zvW ..) tt').snoc (i5.cJ K6 (MY ..))
   have im6:=(im.by T5).hX K6;have S6:ae H H6:=(S3.trans T5).grow n1 E6;generalize hmx:bO left=mxx at *;o_head nE (.of el6) (λD i ys σ' H'=>(∃o,σ'=[o,some vm])/\H6 D=none/\ae H6 H'/\H' D=some (.lst ys)/\aq K H' ys (((left.take i).filter λy=>!decide (y=mxx)).map N)) (λD H' n s e=>⟨⟨_,rfl⟩,n,s,e,.nil⟩) (λD i ys σ' H' h=>h.2.2.1.seq (.of el6)) ?_ ?_
   . rintro D i x ys σ' H7 hx ⟨⟨o,rfl⟩,n7,S7,e7,t7⟩
     obtain⟨hi,ix⟩:=gz tl6 hx;have ix7:=ix.by S7;have im7:=im6.by S7;have hyl:=t7.length;rw[we]at hyl;have hfl:=WF (λy=>!decide (y=mxx)) (left.take i);rw[WH]at hfl;k_few
     . rename_i z
       refine kr e7 () (λH8 E8 e8=>⟨⟨_,rfl⟩,n7,S7.grow n7 E8,e8,?_⟩);have K8:=E8.keep e7;rw[mR hi,WX,W8,decide_eq_false z,vJ];exact(aq.keep K8 _ _ (gw _) t7).append (.cons (ix7.hX K8) .nil)
     . rename_i z
       refine⟨ys,⟨_,rfl⟩,n7,S7,e7,?_⟩;rw[mR hi,WX,W8,decide_eq_true (by first | exact z | exact qY.mp z)];have:([]:List Rat).filter (λy=>!decide (y=mxx))=[]:=rfl
       simpa using t7
   . rintro D ys σ' H7 ⟨_,n7,S7,e7,t7⟩
     have hul:=tl6.length;rw[we]at hul;rw[hul,WT]at t7;k_few;exact⟨(left.filter λy=>!decide (y=mxx)).length,by lia,D,_,done++[mxx],ys,ws++[v5],f',_,rfl,rfl,S6.trans S7,(λz=>by subst z;rw[e6]at n7;cases n7),S7 _ _ e6,aq.same S7 _ _ tt6,e7,t7,λy hy=>sub y (Wv.mp hy).1,by lia,by rw[vc];simp only[WD];lia,by rw[Vo];exact heq⟩
def RD(K:wa):Sp:=λvs H Q _=>∃x0 x1,vs=[x0,x1] /\ ∃(lw:wc)(left:List Nat)(ps:List Rat),x0=.ref lw/\H lw=some (.lst (vz left))/\Is K H x1 (LN ps)/\(∀w∈left,w<ps.length)/\left.length<=900/\(∀i,ah 3000 (ps.getD i 0))/\Rs K H Q (TW (aF ps left))
theorem ML{lw:wc}{left:List Nat}{ps:List Rat}{v:V}(e:H lw=some (.lst (vz left)))(h:Is K H v (LN ps))(hw:∀w∈left,w<ps.length)(hl:left.length<=900)(b:∀i,ah 3000 (ps.getD i 0))(q:Rs K H Q (TW (aF ps left))):RD K [.ref lw,v] H Q E:=⟨_,_,rfl,lw,left,ps,rfl,e,h,hw,hl,b,q⟩
theorem zwD(ps:List Rat)(l:List Nat):(aF ps l).length<=l.length:=WF _ _
theorem Py(T:Txt w K mg a):aC P w K mg base aO 2 a.Iz a.GQ zU (RD K):=by
 refine T.Ac.F.ok zos ?_ ?_;wtm_at "b2";refine⟨_,(ak (aB (fZ K T.h1S (aa (c_ rfl (cF ["worm","phases"] [none,some 1]) (eL (pv 0)) (λ_ _ _ _ _=>(cv 0)) (λ_ _ _ _ _=>(zy (cc (bI (av (iu (K:=K) (mg:=mg) (a:=a) T) hr T.gu (aa (f_ (show gA _ (cV K)from eK) (pv 1) (pv 0) (λ_ _=>rfl)) (aa (bZ (v:=.ref a.jA) rfl T.kX rfl) af))))))) (λ_ _ _ _ _=>(pv 0))) af)))),?_⟩;wtm_at "cl";rw[show start Bi [x0,x1]=[some x0,some x1]from rfl];obtain⟨lw,left,ps,rfl,e1,hx,hw,hl,bp,q⟩:=h;o_head nE (.of e1) (λD i ys σ' H'=>(∃o,σ'=[o,some x1])/\H D=none/\ae H H'/\H' D=some (.lst (vz (aF ps (left.take i))))) (λD H' n s e=>⟨⟨_,rfl⟩,n,s,e⟩) (λD i ys σ' H' h=>h.2.2.1.seq (.of e1)) ?_ ?_
 ·rintro D i x ys σ' H1 hx' ⟨⟨o,rfl⟩,n,S1,e2⟩
  obtain⟨hi,rfl⟩:=BS hx';have hx1:=hx.by S1;have hlt:=hw _ (Wi hi);have bw:=bp left[i];have hle:=zwD ps (left.take i);have htl:(left.take i).length<=900:=by rw[WH];lia
  o_head sX hx1 () () (λv iv=>?_);rw[WL]at iv;generalize hww:left[i]=ww at *;k_few
  ·rename_i z
   refine kr e2 (by rw[jN];lia) (λH6 E6 e6=>⟨⟨_,rfl⟩,n,S1.grow n E6,?_⟩);rw[rk hi,hww,zxK z,BX];exact e6
  ·rename_i z
   refine⟨[],⟨_,rfl⟩,n,S1,?_⟩;rw[rk hi,hww,zwO (by first | exact z | exact qY.mp z)];exact e2
 ·rintro D ys σ' H1 ⟨_,n,S1,e2⟩
  rw[jN,WT]at e2;o_head ml (.of e2) (λl H2 n2 S2 e3=>?_);exact q _ H2 (S1.trans S2) (DA.mpr ⟨l,rfl,.of e3⟩)
def PR(K:wa):Sp:=λvs H Q _=>∃x0,vs=[x0] /\ ∃(a b:Rat)(xs:List Rat)(m:Nat),Is K H x0 (br a b xs)/\ah 10 a/\ah 10 b/\1<=xs.length/\xs.length<=8/\Cm m xs/\m+2+21*xs.length<=2900/\Rs K H Q (GD a b xs)
theorem zz3{a:Rat}{m:Nat}{v:V}(h:Is K H v (br a b xs))(ba:ah 10 a)(bb:ah 10 b)(h1:1<=xs.length)(h8:xs.length<=8)(c:Cm m xs)(hm:m+2+21*xs.length<=2900)(q:Rs K H Q (GD a b xs)):PR K [v] H Q E:=⟨_,rfl,a,b,xs,m,h,ba,bb,h1,h8,c,hm,q⟩
structure zC8(K:wa)(a b:Rat)(xs:List Rat)(m:Nat)(H H':Hp)(vw:V)(lp lv ll:wc)(left:List Nat)(ps:List Rat)(done:List (List Nat))(f:Nat)(pv wv:List V)(vwave:V):Prop where
 same:ae H H'
 hp:H lp=none
 hv:H lv=none
 iw:Is K H' vw (N (1-bO xs))
 mS:lp≠lv
 pK:ll≠lp
 u4:ll≠lv
 ep:H' lp=some (.lst pv)
 tp:aq K H' pv (ps.map N)
 el:H' ll=some (.lst (vz left))
 ev:H' lv=some (.lst wv)
 tv:aq K H' wv (done.map TW)
 iv:Is K H' vwave (TW (aF ps left))
 nd:left.Nodup
 lt:∀w∈left,w<xs.length
 len:ps.length=xs.length
 fl:left.length<=f
 dl:done.length+left.length<=xs.length
 cm:Cm (m+2+21*(xs.length-left.length)) ps
 w1:done++(dX a b f ps left).1=j7 a b xs
 w2:(dX a b f ps left).2=(jZ a b xs).2
def N5(K:wa)(a b:Rat)(xs:List Rat)(m:Nat)(H:Hp)(x0 vw:V)(lp lv:wc)(k:Nat)(σ':L2.St)(H':Hp):Prop:=∃(ll:wc)(left:List Nat)(ps:List Rat)(done:List (List Nat))(f:Nat)(pv wv:List V)(vwave:V)(o6 o7:Option V),σ'=[some x0,some vw,some (.ref lp),some (.ref ll),some (.ref lv),some vwave,o6,o7,none]/\k=left.length/\zC8 K a b xs m H H' vw lp lv ll left ps done f pv wv vwave
theorem rp{p q:wc}{o:HO}(h:H p=none)(k:H q=some o):p≠q:=λe=>by rw[e,k]at h;cases h
theorem zv6{β γ:Type}(f : α -> β)(g : β -> γ)(l:List α):(!((l.map f).map g).isEmpty) = !l.isEmpty:=by cases l<;>rfl
theorem zzm{l:List α}(h:l≠[]):(!l.isEmpty)=true:=by cases l with
 | nil=>exact absurd rfl h
 | cons x l=>rfl
theorem zA4(T:Txt w K mg a):aC P w K mg base aO 4 a.r8 a.JI tN (PR K):=by
 refine T.J5.F.ok hU ?_ ?_;wtm_at "b1"
 refine⟨_,(aj (aJ 1 hU.nd (av (Zn T) hr T.JQ (aa (bZ (v:=.ref a.jA) rfl T.kX rfl) (aa (av (FJ T) hr T.rM (aa (qi 0) af)) af))))
     (aj (o_ (i:=2) hU.nd rfl (Or.inl rfl) rfl (cF ["phase","wait"] [none,some 1]) (lE (qi 0)) (λ_ _ _ _ _=>(cv 0)) (λ_ _ _ _ _=>cX) (λ_ _ _ _ _=>(av (kO (K:=K) (mg:=mg) (a:=a) T) hr T.jx (q2 0 1))))
     (aj (aJ 3 hU.nd (N2 rfl rfl T.h1W rfl T.h1U (aa (cD K T.h2f (q1 2)) af)))
     (aj (aJ 4 hU.nd (cS af))
     (aj (aJ 5 hU.nd (av (Py T) hr T.Ac (q2 3 2)))
     (aj (zi Wg (o8 (pv 5)) (aj (lU (cq Wn VG VH nY (pv 4) (q1 5)))
     (aj (aJ 3 hU.nd (c_ rfl (cF ["worm","wave"] [none,some 5]) (eL (pv 3)) (λ_ _ _ _ _=>(cv 0)) (λ_ _ _ _ _=>(zy (en (show aY _ (vk .NotIn) (kJ K true)from zwH) (pv 0) (pv 1) (by with_unfolding_all rfl)))) (λ_ _ _ _ _=>(pv 0))))
     (aj (aJ 6 hU.nd (av (zwr T) hr T.Jl (aa (qi 0) (aa (cD K T.h2f (q1 5)) af))))
     (aj (kH Wg rfl (eL (pv 3)) (fL (i:=7) hU.nd rfl (Or.inl rfl)) (ak (lO (av (zp2 T) hr T.Hx (aa (pv 6) (aa (f_ eK (pv 2) (pv 7) (λ_ _=>rfl)) af))) (pT (pv 2) (pv 7) oR))))
     (ak (aJ 5 hU.nd (av (Py T) hr T.Ac (q2 3 2)))))))))
     (aj (o_ (i:=8) hU.nd rfl (Or.inl rfl) rfl (cF ["worm","phase","left"] [none,none,some 3]) (zx0 rfl T.h1p (q1 2)) (λ_ _ _ _ _=>by exact(show PG _ _ (yA K 2 _)from oQ (n:=2) rfl (jk (cv 0) (jk (cv 1) rn)))) (λ_ _ _ _ _=>cX) (λ_ _ _ _ _=>(kq (en (show aY _ (vk .In) (kJ K false)from zCC) (pv 0) (pv 2) (by with_unfolding_all rfl)) (pv 1) (bZ (v:=.ref a.fQ) rfl T.iI rfl))))
     (ak (aB (cE (aa (pv 1) (aa (fZ K T.h1S (q1 4)) (aa (cE (aa (qi 0) (aa (fZ K T.h1S (q1 8)) af))) af))))))))))))),?_⟩
 wtm_at "cl";rw[show start MH [x0]=[some x0,none,none,none,none,none,none,none,none]from rfl];obtain⟨ra,rb,xs,m,hw,ba,bb,h1,h8,cm,hm,q⟩:=h;have bx:∀i,ah 4000 (xs.getD i 0):=λi=>(cm.get i).mono ()
 have bm:ah 2900 (bO xs):=(cm.jP (km h1)).mono ();o_head bz (j:=1) hw rfl (λvp ip=>?_);o_head CB (.inr ip) h1 bx (λvm im=>?_);k_few;rename_i vw H1 S1 iw;refine bz (j:=1) (hw.by S1) rfl (λvp1 ip1=>?_);obtain⟨ap,us,rfl,hu,tu⟩:=bX.mp ip1;refine kn (o0:=none) (tl:=[some vw]) hu rfl (λj y H'=>Is K H' y (N ((fm xs).getD j 0))) ?_ ?_
 . intro D i x ys o H2 hx inv
   obtain⟨hi,ix⟩:=gz tu hx;have S2:=inv.same;have ix2:=ix.by S2;have iw2:=iw.by S2;have bi:=bx i;have bw:ah 2902 (1-bO xs):=(ah.one.sub bm).mono ⋯;k_few;rename_i v3 H3 S3 i3;exact cY inv () rE ⟨_,rfl⟩ S3 (by rw[zwN hi];exact i3)
 . intro lp ys H2 hnp S2 hD hl hr
   have hl':ys.length=(fm xs).length:=by rw[hl,tu.length,we,kR]
   have tp:aq K H2 ys ((fm xs).map N):=lC hl' hr;have iw2:=iw.by S2;have T2:=S1.trans S2;have hpH:H lp=none:=LC S1 hnp;clear hl hr hu tu ip1 ip im iw S1 S2 hnp;o_head zye (iJ hD tp) ?_;rw[kR];o_head Rh (n:=xs.length) () (λll H3 n3 S3 e3=>?_);o_head fj ∅ (λlv H4 n4 S4 e4=>?_);k_few;have hD4:=S4 _ _ (S3 _ _ hD);have tp4:aq K H4 ys ((fm xs).map N):=aq.same (S3.trans S4) _ _ tp;have cm2:Cm (m+2) (fm xs):=(Cm.rise (h:=0) (cm.kW (ys:=0::xs) λy hy=>by rcases wz.mp hy with rfl | hy;(exact .inr rfl);exact .inl hy) (km h1)).kW λy hy=>.inl (wx _ hy)
   have b3:∀i,ah 3000 ((fm xs).getD i 0):=λi=>(cm2.get i).mono ()
   refine ML (S4 _ _ e3) (iJ hD4 tp4) (λw hw'=>by rw[kR];exact Wq.mp hw') (by rw[WK];lia) b3 (λvwave H5 S5 i5=>?_);have T5:=T2.trans (S3.trans (S4.trans S5));have hvH:H lv=none:=LC (T2.trans S3) n4;have mS:lp≠lv:=(rp n4 (S3 _ _ hD)).symm;have pK:ll≠lp:=rp n3 hD;have u4:ll≠lv:=(rp n4 e3).symm
   have G0:N5 K ra rb xs m H x0 vw lp lv xs.length [some x0,some vw,some (.ref lp),some (.ref ll),some (.ref lv),some vwave,none,none,none] H5:=by
     refine⟨ll,vP xs.length,fm xs,[],xs.length,ys,[],vwave,none,none,rfl,by rw[WK],T5,hpH,hvH,iw2.by (S3.trans (S4.trans S5)),mS,pK,u4,S5 _ _ hD4,aq.same S5 _ _ tp4,S5 _ _ (S4 _ _ e3),S5 _ _ e4,.nil,i5,xc,λw hw'=>Wq.mp hw',kR xs,by rw[WK];exact wo _,by rw[WK];simp,cm2.mono (),?_,rfl⟩;rw[Qp];rfl
   clear T5 S5 S4 S3 T2 hD hD4 tp tp4 b3 cm2 n3 n4 e3 e4 iw2 i5 hl';o_head OP (N5 K ra rb xs m H x0 vw lp lv) _ G0 ?_;clear G0 mS pK u4;rintro k σ' H6 ⟨ll,left,ps,done,f,pv,wv,vwave,o6,o7,rfl,hk,G⟩;have bp:∀i,ah 3000 (ps.getD i 0):=λi=>(G.cm.get i).mono (by have:=G.dl;lia)
   o_head zAz (show Is K H6 vwave (.tuple (((aF ps left).map λ(w:Nat)=>(w:Int)).map PyData.int))from G.iv) ?_;rw[zv6]
   by_cases he:aF ps left=[]
   . rw[show(!(aF ps left).isEmpty)=false by rw[he];rfl]
     refine m8 ?_;have w1:=G.w1;have w2:=G.w2;rw[oP he]at w1 w2;rw[vS]at w1;have eps:ps=(jZ ra rb xs).2.2:=congrArg Prod.snd w2;have elf:left=(jZ ra rb xs).2.1:=congrArg Prod.fst w2;have hph:jr left ps=eC ra rb xs:=by rw[eC,<- eps,<- elf]
     o_head zys (.of G.ep) (o0:=none) (o0':=none) (tl:=[some (.ref ll)]) rfl (λj y H'=>Is K H' y (N ((jr left ps).getD j 0))) rE ?_ ?_
     . intro D i x zs o1 o2 H7 c hx inv hc
       obtain⟨hi,ix⟩:=gz G.tp hx;have S7:=inv.2.2.1;refine rm (.of hc) rfl ?_;o_head zzJ (aI.of (S7 _ _ G.el)) ?_;k_few
       . rename_i z
         exact KZ inv (by have:=G.len;lia) rE ⟨_,_,rfl⟩ (ae.refl _) (by rw[Fn hi,if_pos z];exact ix.by S7)
       . rename_i z
         exact KZ inv (by have:=G.len;lia) rE ⟨_,_,rfl⟩ (ae.refl _) (by rw[Fn hi,if_neg z];exact pG 0 (T.rR _) rfl rfl)
     . intro D zs H7 hn S7 hD hl hr
       have hpl:=G.tp.length;rw[we]at hpl;have tz:aq K H7 zs ((jr left ps).map N):=lC (by rw[hl,Pu,hpl]) hr;rw[hph]at tz;have tv:=aq.same S7 _ _ G.tv;have ev:=S7 _ _ G.ev;have iw7:=G.iw.by S7;have T7:=G.same.trans S7;rw[w1]at tv;o_head lS (cR.mpr ⟨lv,wv,rfl,.of ev,tv⟩) (λv8 H8 S8 i8=>?_);o_head bz (j:=0) (hw.by (T7.trans S8)) rfl (λv9 i9=>?_);o_head lS (iJ (S8 _ _ hD) (aq.same S8 _ _ tz)) (λv10 H10 S10 i10=>?_);o_head eE (ds:=[R ra rb,TN (eC ra rb xs)]) ∅ (.cons (i9.by S10) (.cons i10 .nil)) (λv11 H11 S11 i11=>?_);o_head eE (ds:=[N (1-bO xs),OI (j7 ra rb xs),br ra rb (eC ra rb xs)]) ∅ (.cons (iw7.by (S8.trans (S10.trans S11))) (.cons (i8.by (S10.trans S11)) (.cons i11 .nil))) (λv12 H12 S12 i12=>?_);exact q v12 H12 (T7.trans (S8.trans (S10.trans (S11.trans S12)))) i12
   . rw[zzm he]
     refine nB ?_;refine Oh ?_;have hwl:=G.tv.length;rw[we]at hwl;have hdl:=G.dl;have hlen:=Cc ps left;have hpos:0<(aF ps left).length:=VI.mpr he;o_head ma (aI.of G.ev) ?_;o_head yW G.ev () (λH7 E7 e7=>?_);have K7:aZ H6 H7:=E7.keep G.ev;have S7:ae H H7:=G.same.grow G.hv E7;have el7:=E7 _ _ G.u4 G.el;have ep7:=E7 _ _ G.mS G.ep;have tp7:=aq.keep K7 _ _ (gw _) G.tp;have iv7:=G.iv.cJ K7 (Bn _);have iw7:=G.iw.hX K7
     have tv7:aq K H7 (wv++[vwave]) ((done++[aF ps left]).map TW):=by
       rw[vJ];exact(aq.keep K7 _ _ (CO _) G.tv).snoc iv7
     obtain⟨aw,rfl,hsw⟩:=DA.mp iv7;o_head nE (.of el7) (λD i ys σ' H'=>(∃o,σ'=[o,some (.ref aw)])/\H7 D=none/\ae H7 H'/\H' D=some (.lst (vz (cA (left.take i) (aF ps left))))) (λD H' n s e=>⟨⟨_,rfl⟩,n,s,e⟩) (λD i ys σ' H' h=>h.2.2.1.seq (.of el7)) ?_ ?_
     . rintro D i x ys σ' H8 hx' ⟨⟨o,rfl⟩,n,S8,e8⟩
       obtain⟨hi,rfl⟩:=BS hx';have hle:(cA (left.take i) (aF ps left)).length<=(left.take i).length:=WF _ _;rw[WH]at hle;o_head ztD (S8.mn hsw) ?_;generalize hww:left[i]=ww at *;k_few
       . rename_i z
         refine kr e8 (by rw[jN];lia) (λH9 E9 e9=>⟨⟨_,rfl⟩,n,S8.grow n E9,?_⟩);rw[rk hi,hww,Y4 z,BX];exact e9
       . rename_i z
         refine⟨[],⟨_,rfl⟩,n,S8,?_⟩;rw[rk hi,hww,zur (by first | exact z | exact qY.mp z)];exact e8
     . rintro D ys σ' H8 ⟨_,n8,S8,e8⟩
       rw[jN,WT]at e8;have nD1:D≠lp:=rp n8 ep7;have nD2:D≠lv:=rp n8 e7;have T8:=S7.trans S8;have iv8:=iv7.by S8;o_head bz (j:=0) (hw.by T8) rfl (λvr ir=>?_);o_head L4 iv8 ?_;o_head zvN ir ba bb () () (λvpush H9 S9 ipush=>?_);rw[WL]at ipush;have bf:ah 700 (ra^(aF ps left).length):=(ba.pow _).mono ();have bg:ah 1500 (cx ra rb (aF ps left).length):=(ba.cx bb _).mono ();have T9:=S8.trans S9;have ep9:=T9 _ _ ep7;have tp9:aq K H9 pv (ps.map N):=aq.same T9 _ _ tp7;have e9:=S9 _ _ e8;have ev9:=T9 _ _ e7;have ndl:=zE (wave:=aF ps left) G.nd;have ltl:=oI (wave:=aF ps left) G.lt;generalize hL:cA left (aF ps left)=left' at *;o_head N1 (.of e9) (λi σ'' H''=>∃o pv',σ''=[some x0,some vw,some (.ref lp),some (.ref D),some (.ref lv),some (.ref aw),some vpush,o,none]/\Exc lp H9 H''/\H'' lp=some (.lst pv')/\aq K H'' pv' ((dg (ra^(aF ps left).length) (cx ra rb (aF ps left).length) ps (left'.take i)).map N)) ⟨_,pv,rfl,Exc.refl _ _,ep9,tp9⟩ (λi σ'' H'' _ ⟨_,_,_,e,_⟩=>.of (e _ _ nD1 e9)) ?_ ?_
       . rintro i x σ'' H10 hx' ⟨o,pv',rfl,E10,e10,t10⟩
         obtain⟨hi,rfl⟩:=BS hx';have K10:aZ H9 H10:=E10.keep ep9;have hlt:=ltl _ (Wi hi);have hpl:=lF (ra^(aF ps left).length) (cx ra rb (aF ps left).length) (left'.take i) ps;have hps:=G.len
         have bq:ah 3000 ((dg (ra^(aF ps left).length) (cx ra rb (aF ps left).length) ps (left'.take i)).getD left'[i] 0):=by
           have nt:(left'.take i).Nodup:=ndl.sublist (Xm ..);rw[tX _ _ _ _ nt (λw hw'=>by rw[hps];exact ltl w (XH _ _ hw'))];rw[if_neg]
           . exact bp _
           . intro hm
             obtain⟨j,hj,ej⟩:=W6 hm;rw[WH]at hj;rw[List.getElem_take]at ej;exact absurd ej ((List.pairwise_iff_getElem.mp ndl) j i () hi ())
         have ip10:=ipush.cJ K10 (By _ _);generalize hww:left'[i]=ww at *;generalize hqs:dg (ra^(aF ps left).length) (cx ra rb (aF ps left).length) ps (left'.take i)=qs at *;o_head sX (iJ e10 t10) () () (λv11 i11=>?_);rw[WL]at i11;o_head zqr ip10 i11 bf bg (bq.mono ⋯) (λv12 H12 S12 i12=>?_);have e12:=S12 _ _ e10;have hvl:=t10.length;rw[we]at hvl;o_head y_ (j:=ww) e12 (by unfold gc;rw[if_pos (),if_pos ()];simp) (λH13 E13 e13=>?_);refine⟨_,_,rfl,E10.trans (S12.exc.trans E13),e13,?_⟩;have K13:=E13.keep e12;rw[rk hi,hww,Zs,hqs];refine lC (by rw[Wx,Wx];exact hvl) (λj v hj=>?_);rw[Vp]at hj
         by_cases hjw:ww=j
         . subst hjw
           rw[if_pos rfl,if_pos ()]at hj;cases hj;rw[M_ ()];exact i12.hX K13
         . rw[if_neg hjw]at hj
           rw[M7 hjw];obtain⟨_,ij⟩:=gz t10 hj;exact(ij.by S12).hX K13
       . rintro σ'' H10 ⟨o,pv',rfl,E10,e10,t10⟩
         rw[jN,WT]at t10;have K10:aZ H9 H10:=E10.keep ep9;have hps:=G.len
         have cm10:Cm (m+2+21*(xs.length-left'.length)) (dg (ra^(aF ps left).length) (cx ra rb (aF ps left).length) ps left'):=by
           have c0:Cm (m+2+21*(xs.length-left.length)) (0::ps):=G.cm.kW λy hy=>by rcases wz.mp hy with rfl | hy;(exact .inr rfl);exact .inl hy
           exact((c0.wave ba bb (aF ps left).length ndl (λw hw'=>by rw[hps];exact ltl w hw')).kW λy hy=>.inl (wx _ hy)).mono ()
         have hpl:=lF (ra^(aF ps left).length) (cx ra rb (aF ps left).length) left' ps;have w1:=G.w1;have w2:=G.w2;have hfl:=G.fl;obtain⟨f',rfl⟩:∃f',f=f'+1:=⟨f-1,by lia⟩;rw[pC he,hL]at w1 w2;generalize hqs:dg (ra^(aF ps left).length) (cx ra rb (aF ps left).length) ps left'=qs at *;k_few;have e10':=E10 _ _ nD1 e9;refine ML e10' (iJ e10 t10) (λw hw'=>by rw[hpl,hps];exact ltl w hw') () (λi=>(cm10.get i).mono ()) (λvwave2 H11 S11 i11=>?_);k_few;have KA:=T9.keep.trans K10;refine⟨left'.length,by lia,D,left',qs,done++[aF ps left],f',pv',wv++[V.ref aw],vwave2,_,_,rfl,rfl,?_⟩;exact⟨((S7.trans T9).grow G.hp E10).trans S11,G.hp,G.hv,(iw7.hX KA).by S11,G.mS,nD1,nD2,S11 _ _ e10,aq.same S11 _ _ t10,S11 _ _ e10',S11 _ _ (E10 _ _ G.mS.symm ev9),aq.same S11 _ _ (aq.keep KA _ _ (CO _) tv7),i11,ndl,ltl,by rw[hpl];exact hps,by lia,by rw[vc];simp;lia,cm10,by rw[Vo];exact w1,w2⟩
def Rr(K:wa)(a:Ad):Sp:=λvs H Q E=>∃x0 x1,vs=[x0,x1] /\ ∃(ra rb c:Rat)(xs:List Rat),Is K H x0 (br ra rb xs)/\Is K H x1 (N c)/\1<=xs.length/\xs.length<=8/\(∀i,ah 1000 (xs.getD i 0))/\ah 1000 c/\(c<0 \/ ¬ bO xs+c<1->∀H',ae H H'->E (.ref a.bM) none H')/\(¬ c<0->bO xs+c<1->Rs K H Q (br ra rb (xs.map (· + c))))
theorem zwR{c:Rat}{v w:V}(h1:Is K H v (br ra rb xs))(h2:Is K H w (N c))(h3:1<=xs.length)(h4:xs.length<=8)(b1:∀i,ah 1000 (xs.getD i 0))(b2:ah 1000 c)(qe:c<0 \/ ¬ bO xs+c<1->∀H',ae H H'->E (.ref a.bM) none H')(q:¬ c<0->bO xs+c<1->Rs K H Q (br ra rb (xs.map (· + c)))):Rr K a [v,w] H Q E:=⟨_,_,rfl,ra,rb,c,xs,h1,h2,h3,h4,b1,b2,qe,q⟩
theorem zxl(T:Txt w K mg a):aC P w K mg base (bQ P w) 3 a.moved a.Je tK (Rr K a):=by
 refine T.JS.F.dO zxW ?_ ?_;wtm_at "b2"
 refine⟨_,(aj (bo (bI (av (iu T) hr T.gu (aa (pv 1) (aa (bZ (v:=.ref a.fQ) rfl T.iI rfl) af)))) (ak (ft T.rP rfl rfl T.ow fC (aa ag af))) bj)
     (aj (bo (cc (bI (av (iu T) hr T.gu (aa (av (kO T) hr T.jx (aa (av (FJ T) hr T.rM (aa (qi 0) af)) (q1 1))) (aa (bZ (v:=.ref a.jA) rfl T.kX rfl) af))))) (ak (ft T.rP rfl rfl T.ow fC (aa ag af))) bj)
     (ak (aB (cE (aa (qi 0) (aa (fZ K T.h1S (aa (c_ rfl (cF ["phase","c"] [none,some 1]) (lE (qi 0)) (λ_ _ _ _ _=>(cv 0)) (λ_ _ _ _ _=>cX) (λ_ _ _ _ _=>(av (kO (K:=K) (mg:=mg) (a:=a) T) hr T.jx (q2 0 1)))) af)) af))))))),?_⟩
 wtm_at "cl";rw[show start AI [x0,x1]=[some x0,some x1]from rfl];obtain⟨ra,rb,c,xs,hw,hc,h1,h8,bx,bc,qe,q⟩:=h
 have bm:ah 1000 (bO xs):=by
   have:=Cw bx h1 xs.length;rw[WT]at this;exact this
 k_few
 . rename_i z
   exact⟨by simp;decide,qe (.inl z) H (ae.refl _)⟩
 . rename_i z
   refine bz (j:=1) hw rfl (λvp ip=>?_);o_head CB (.inr ip) h1 (λi=>(bx i).mono ⋯) (λvm im=>?_);k_few
   . rename_i v1 H1 S1 i1 z1
     exact⟨by simp;decide,qe (.inr z1) H1 S1⟩
   . rename_i v1 H1 S1 i1 z1
     refine bz (j:=0) (hw.by S1) rfl (λvr ir=>?_);o_head bz (j:=1) (hw.by S1) rfl (λvp1 ip1=>?_);obtain⟨ap,us,rfl,hu,tu⟩:=bX.mp ip1;have hc1:=hc.by S1;refine kn (o0:=none) (tl:=[some x1]) hu rfl (λj y H'=>Is K H' y (N (xs.getD j 0+c))) ?_ ?_
     . intro D i x ys o H2 hx inv
       obtain⟨hi,ix⟩:=gz tu hx;have S2:=inv.same;have ix2:=ix.by S2;have hc2:=hc1.by S2;have bi:=bx i;k_few;rename_i v3 H3 S3 i3;exact cY inv () (λ_ _ _ _ k z=>z.hX k) ⟨_,rfl⟩ S3 i3
     . intro D ys H2 hn S2 hD hl hr
       have hl':ys.length=xs.length:=by rw[hl,tu.length,we]
       have i2:Is K H2 (.ref D) (LN (xs.map (· + c))):=iJ hD (lC (by rw[we];exact hl') (λj y hj=>by
         have hj':j<xs.length:=by
           rcases vt j xs.length with z | z
           . exact z
           . rw[vj ()]at hj;cases hj
         have:=hr j y hj
         have e:(xs.map (· + c)).getD j 0=xs.getD j 0+c:=by
           rw[wk,wG,wk,wg hj'];rfl
         rw[e];exact this))
       o_head lS i2 (λw H3 S3 i3=>?_);o_head eE (ds:=[R ra rb,TN (xs.map (· + c))]) ∅ (.cons (ir.by (S2.trans S3)) (.cons i3 .nil)) (λv H4 S4 i4=>?_);exact q z z1 v H4 (S1.trans (S2.trans (S3.trans S4))) i4
def Oc(K:wa):Sp:=λvs H Q _=>∃x0,vs=[x0] /\ ∃(a b:Rat)(xs:List Rat),Is K H x0 (br a b xs)/\Q (.bl (decide (0∈xs))) H
theorem zud{a:Rat}{v:V}(h:Is K H v (br a b xs))(q:Q (.bl (decide (0∈xs))) H):Oc K [v] H Q E:=⟨_,rfl,a,b,xs,h,q⟩
theorem zuf(T:Txt w K mg a):aC P w K mg base aO 1 a.JZ a.HY u3 (Oc K):=by
 refine T.Jc.F.ok ztV ?_ ?_;wtm_at "b1";refine⟨_,(ak (aB (fw (show aY _ (vk .In) (jL K)from q_ hu) (bZ (v:=.ref a.fQ) rfl T.iI rfl) (qi 0) (by with_unfolding_all rfl)))),?_⟩;wtm_at "cl";rw[show start Cb [x0]=[some x0]from rfl];obtain⟨ra,rb,xs,hw,q⟩:=h;o_head bz (j:=1) hw rfl (λvp ip=>?_);exact RM (pG 0 (T.rR _) rfl rfl) ip q
def kh(xs:List Rat):List Rat:=(kE xs).dropLast
def S_(xs:List Rat):wu:=.tuple [TZ (mB xs),TN (kh xs)]
def Ml(K:wa)(a:Ad):Sp:=λvs H Q E=>∃x0,vs=[x0] /\ ∃(ra rb:Rat)(xs:List Rat),Is K H x0 (br ra rb xs)/\xs.length<=8/\(∀i,ah 4000 (xs.getD i 0))/\(¬ 0∈xs->∀H',ae H H'->E (.ref a.cu) none H')/\(0∈xs->Rs K H Q (S_ xs))
theorem LK{v:V}(h:Is K H v (br ra rb xs))(h8:xs.length<=8)(bx:∀i,ah 4000 (xs.getD i 0))(qe:¬ 0∈xs->∀H',ae H H'->E (.ref a.cu) none H')(q:0∈xs->Rs K H Q (S_ xs)):Ml K a [v] H Q E:=⟨_,rfl,ra,rb,xs,h,h8,bx,qe,q⟩
theorem MU:∀(n:Nat)(l:List Rat),(lM n l).length<=n
 | 0,l=>wo _
 | n+1,[]=>by rw[Rb];simp
 | n+1,x::l=>by
  rw[Oe ∅,wQ];have:=MU n ((x::l).filter λy=>!decide (y=bO (x::l)));lia
theorem Kv(T:Txt w K mg a):aC P w K mg base (bQ P w) 4 a.laid a.JM zu (Ml K a):=by
 refine T.Aw.F.dO yU ?_ ?_;wtm_at "b1"
 refine⟨_,(aj (bo (cc (bI (av (zuf T) hr T.Jc (q1 0)))) (ak (ft T.Yh rfl rfl T.IJ fC (aa ag af))) bj)
     (aj (aJ 1 yU.nd (av (zwK T) hr T.JE (q1 0)))
     (aj (aJ 2 yU.nd (fZ K T.h1S (aa (c_ rfl (cF ["row"] [none]) (eL (pv 1)) (λ_ _ _ _ _=>(cv 0)) (λ_ _ _ _ _=>cX) (λ_ _ _ _ _=>(cD K T.h2f (aa (Pp (K:=K) eK (pv 0)) af)))) af)))
     (aj (aJ 3 yU.nd (fZ K T.h1S (aa (c_ rfl (cF ["row"] [none]) (eL (dP eB (pv 1) dQ (dZ (rA pD aA)))) (λ_ _ _ _ _=>(cv 0)) (λ_ _ _ _ _=>cX) (λ_ _ _ _ _=>(Pp (K:=K) eK (pv 0)))) af)))
     (ak (aB (cE (q2 2 3)))))))),?_⟩
 wtm_at "cl";rw[show start R0 [x0]=[some x0,none,none,none]from rfl];obtain⟨ra,rb,xs,hw,h8,bx,qe,q⟩:=h;have hvl:(kE xs).length<=8:=w5 (MU _ _) h8;o_head zud hw ?_;k_few
 . rename_i z
   exact⟨by simp;decide,qe z H (ae.refl _)⟩
 . rename_i z
   have z:=(by first | exact z | exact qY.mp z:0∈xs);refine ZD hw h8 bx (λlr H1 us n1 S1 e1 t1=>?_);have hul:=t1.length;rw[we]at hul;o_head gq (.of e1) (o0:=none) (tl:=[]) rfl (λj y _=>y=.int ((mB xs).getD j 0)) ?_ ?_
   . intro D j x ys o H2 hx inv
     obtain⟨hj,ix⟩:=ke t1 hx;rw[we]at hj;rw[wk,wG,wg hj]at ix;have ix2:Is K H2 x (jV xs (kE xs)[j]):=ix.by inv.same;o_head bz (j:=1) ix2 rfl (λv3 i3=>?_);o_head L4 i3 ?_;o_head cY inv () (λ_ _ _ _ _ h=>h) ⟨_,rfl⟩ (ae.refl _) ?_;unfold mB;rw[wk,wG,wg hj]
     rfl
   . intro D ys H2 hn S2 hD hl hr
     have hys:ys=(mB xs).map V.int:=Ko (by rw[hl,hul];unfold mB;rw[we]) hr;subst hys;o_head ml (.of hD) (λl3 H3 n3 S3 e3=>?_);have i3:Is K H3 (.ref l3) (TZ (mB xs)):=uV.mpr ⟨l3,rfl,.of e3⟩;have T3:=S2.trans S3;o_head NP (cR.mpr ⟨lr,us,rfl,.of (T3 _ _ e1),aq.same T3 _ _ t1⟩) (λl4 H4 us4 n4 S4 e4 t4=>?_);rw[BH,<- List.map_dropLast]at t4;o_head gq (.of e4) (o0:=none) (tl:=[]) rfl (λj y H'=>Is K H' y (N ((kh xs).getD j 0))) ?_ ?_
     . intro D' j x ys o H5 hx inv
       obtain⟨hj,ix⟩:=ke t4 hx;have hj2:j<(kh xs).length:=by rw[we]at hj;exact hj
       have hj8:(kh xs).length<=8:=by unfold kh;rw[xH];lia
       rw[wk,wG,wg (show j<(kE xs).dropLast.length from hj2)]at ix;have ix5:Is K H5 x (jV xs (kh xs)[j]):=ix.by inv.same;o_head bz (j:=0) ix5 rfl (λv6 i6=>?_);o_head cY inv () rE ⟨_,rfl⟩ (ae.refl _) ?_;rw[wk,wg hj2];exact i6
     . intro D' zs H5 hn5 S5 hD5 hl5 hr5
       have hu4:=t4.length;rw[we]at hu4;have tz:aq K H5 zs ((kh xs).map N):=lC (by rw[hl5,hu4];rfl) hr5;o_head lS (iJ hD5 tz) (λv6 H6 S6 i6=>?_);o_head eE (ds:=[TZ (mB xs),TN (kh xs)]) ∅ (.cons (i3.by (S4.trans (S5.trans S6))) (.cons i6 .nil)) (λv7 H7 S7 i7=>?_);exact q z v7 H7 (S1.trans (T3.trans (S4.trans (S5.trans (S6.trans S7))))) i7
def zxe(_:wa):Sp:=λ_ _ _ _=>False
theorem zyL(T:Txt w K mg a):aC P w K mg base aO 1 a.Ke a.Jz El (zxe K):=⟨λ_ _ _ _ h=>h.elim,λ_ _ _ _ _ _ _ _ _ _ _ _ _ h=>h.elim⟩
def zns(_:wa):Sp:=λ_ _ _ _=>False
theorem znW(T:Txt w K mg a):aC P w K mg base aO 1 a.HU a.Gk Es (zns K):=⟨λ_ _ _ _ h=>h.elim,λ_ _ _ _ _ _ _ _ _ _ _ _ _ h=>h.elim⟩
def LM(K:wa):Sp:=λvs H Q _=>∃x0 x1,vs=[x0,x1] /\ ∃(h:Rat)(xs:List Rat)(ds:List wu)(n:Nat),Is K H x0 (.tuple (N h::TN xs::ds))/\x1=.int (n:Int)/\xs.length<=950/\Rq H Q (.bl (decide (xs.length=n)))
theorem Le{v:V}(i:Is K H v (.tuple (N h::TN xs::ds)))(h8:xs.length<=950)(q:Rq H Q (.bl (decide (xs.length=n)))):LM K [v,.int (n:Int)] H Q E:=⟨_,_,rfl,h,xs,ds,n,i,rfl,h8,q⟩
theorem LL(T:Txt w K mg a):aC P w K mg base aO 3 a.IP a.GZ tT (LM K):=by
 refine T.Aj.F.ok zpX ?_ ?_;wtm_at "b2"
 refine⟨_,(aj (bo (PW.pt (dh (cc (bI (av (m7 T) hr T.kT (aa (qi 0) af)))) (dh (cc (bI (bH (show aM _ (.builtin "isinstance") (dH K)from gW) rfl T.h1i dy (aa (qi 0) (aa (fz (v:=.ty "tuple") rfl T.h1S zev rfl) af))))) (eG (eM K hu (cD K T.h2f (aa (qi 0) af)) (pv 1)))))) (ak (aB dM)) bj)
     (ak (aB (bH (show aM _ (.builtin "all") (h_ K)from jH rfl) rfl T.h1Y jG (aa (c_ rfl (cF ["phase"] [none]) (lE (qi 0)) (λ_ _ _ _ _=>(cv 0)) (λ_ _ _ _ _=>cX) (λ_ _ _ _ _=>(av (m7 (K:=K) (mg:=mg) (a:=a) T) hr T.kT (q1 0)))) af))))),?_⟩
 wtm_at "cl";rw[show start AS [x0,x1]=[some x0,some x1]from rfl];obtain⟨hh,xs,ds,n,hi,rfl,h8,q⟩:=h;have z:1000<=wr:=by decide
 o_head bz (j:=0) hi rfl (λv0 i0=>?_);k_few
 all_goals first | (rename_i e;rw[p_]at e;cases (show true=false from e)) | skip
 refine bz (j:=1) hi rfl (λv1 i1=>?_);k_few
 all_goals first | (rename_i e;cases (show true=false from e)) | skip
 refine bz (j:=1) hi rfl (λv2 i2=>?_);o_head mh i2 ?_;k_few
 . rename_i e
   have:=q H (ae.refl _);rw[decide_eq_false ()]at this;exact this
 rename_i e;have e:xs.length=n:=by lia
 rw[decide_eq_true e]at q;refine bz (j:=1) hi rfl (λv3 i3=>?_);k_few;obtain⟨a3,vs3,rfl,s3,t3⟩:=bX.mp i3;refine kn s3 (o0:=none) (tl:=[]) rfl (λj y _=>y=.bl true) ?_ ?_
 . intro D j x ys o H1 hx inv
   obtain⟨hj,ix⟩:=gz t3 hx;have ix:=ix.by inv.2.2.1;k_few;rw[p_];exact cY inv () (λ_ _ _ _ _ h=>h) ⟨_,rfl⟩ (ae.refl _) rfl
 . intro D ys H1 n1 S1 e1 l1 r1
   have ey:ys=(ve ys.length true).map V.bl:=by
     refine vv ∅ λi h1 h2=>?_
     rw[r1 i ys[i] (wg h1)];simp
   rw[ey]at e1;o_head hV (.of e1) ?_;rw[show(ve ys.length true).all id=true by simp];exact q _ S1
def iY(n:Nat)(xs:List Rat):List wu->Bool
 | [a,b]=>decide (xs.length=n)&&(kI 0 30 a&&kI 0 40 b)
 | _=>false
theorem zA1(h:es.length≠2):iY n xs es=false:=by
 match es with
 | []=>rfl
 | [_]=>rfl
 | [_,_]=>exact absurd rfl h
 | _::_::_::_=>rfl
def SJ(K:wa):Sp:=λvs H Q _=>∃x0 x1,vs=[x0,x1] /\ ∃(h:Rat)(xs:List Rat)(es:List wu)(n:Nat),Is K H x0 (.tuple (N h::TN xs::es))/\x1=.int (n:Int)/\xs.length<=950/\Rq H Q (.bl (iY n xs es))
theorem zv4{v:V}(i:Is K H v (.tuple (N h::TN xs::es)))(h8:xs.length<=950)(q:Rq H Q (.bl (iY n xs es))):SJ K [v,.int (n:Int)] H Q E:=⟨_,_,rfl,h,xs,es,n,i,rfl,h8,q⟩
theorem zwq(T:Txt w K mg a):aC P w K mg base aO 4 a.J4 a.IQ zF (SJ K):=by
 refine T.Jq.F.ok zvH ?_ ?_;wtm_at "b2"
 refine⟨_,(aj (bo (PW.pt (dh (cc (bI (bH (show aM _ (.builtin "isinstance") (dH K)from gW) rfl T.h1i dy (aa (pv 0) (aa (fz (v:=.ty "tuple") rfl T.h1S zev rfl) af))))) (dh (eM K hu (cD K T.h2f (q1 0)) aA) (eG (cc (bI (av (LL T) hr T.Aj (q2 0 1)))))))) (ak (aB dM)) bj)
     (ak (aB (dA (av (Rm T) hr T.z9 (aa aA (aa (fI rfl T.V_) (aa (qi 0) af)))) (dD (av (Rm T) hr T.z9 (aa aA (aa (fI rfl T.G8) (aa (qi 0) af))))))))),?_⟩
 wtm_at "cl";rw[show start CC [x0,x1]=[some x0,some x1]from rfl];obtain⟨hh,xs,es,n,hi,rfl,h8,q⟩:=h;k_few
 all_goals first | (rename_i e;cases (show true=false from e)) | skip
 refine me hi ?_;simp only[wQ];k_few
 . rename_i e
   have:=q H (ae.refl _);rw[zA1 ()]at this;exact this
 rename_i e
 obtain⟨a,b,rfl⟩:∃a b,es=[a,b]:=by
   match es,e with
   | [a,b],_=>exact⟨a,b,rfl⟩
   | [],e=>simp at e
   | [_],e=>simp at e
   | _::_::_::_,e=>simp at e;lia
 refine Le hi h8 (λH1 S1=>?_);have hi1:=hi.by S1;have q:Rq H Q (.bl (decide (xs.length=n)&&(kI 0 30 a&&kI 0 40 b))):=q;cases hn:decide (xs.length=n)with
 | false =>
   rw[hn]at q;k_few;exact q H1 S1
 | true =>
 rw[hn,w9]at q;o_head bz (j:=2) hi1 rfl (λv2 i2=>?_);o_head Lr i2 ?_;cases h2:kI 0 30 a with
 | false =>
   rw[h2]at q;k_few;exact q H1 S1
 | true =>
 rw[h2,w9]at q;o_head bz (j:=3) hi1 rfl (λv3 i3=>?_);o_head Lr i3 ?_;exact q _ S1
def zS(z:Int):Str:=aX z.toNat
theorem zEC(h:0<=z):wb (toString z)=zS z:=by
 obtain⟨n,rfl⟩:∃n:Nat,z=(n:Int):=⟨z.toNat,by lia⟩;exact AM n
theorem yX :(wb " ")=⟨#[32]⟩:=by decide
theorem Zm :(wb "\n")=⟨#[10]⟩:=by decide
theorem zy5(h:n<100):(a_ n).length<=2:=Ec ⋯ h
theorem fM(n:Nat):(aX n).length=(a_ n).length:=by simp[aX,XS]
theorem zBX(h0:0<=z)(h1:z<100):(zS z).length<=2:=by
 unfold zS;rw[fM];exact zy5 ()
theorem zCe :(wb "0123456789")=jS:=by decide
theorem dF(h:x.cps.all (· < 128)=true):vM x=true:=by
 unfold vM;rw[<- VF,wH]at h ⊢;intro c hc;have:=of_decide_eq_true (h c hc);exact decide_eq_true ()
theorem bD(x y:wm):(x++y).length=x.length+y.length:=by
 show(x.cps++y.cps).size=x.cps.size+y.cps.size
 simp
theorem pj{x:wm}{B:Nat} : ∀{ts:List wm},(∀t∈ts,t.length<=B)->(vE x ts).length<=ts.length*(B+x.length)
 | [],_=>by show(0:Nat)<=_;lia
 | [t],h=>by
  have:=h t ∅
  show t.length<=_
  simp only[WD];lia
 | t::u::r,h=>by
  have:=h t ∅;have ih:=pj (x:=x) (ts:=u::r) (λy hy=>h y (wx _ hy))
  show(t++x++vE x (u::r)).length<=_
  rw[bD,bD,wQ (a:=t),Nat.add_mul,Nat.one_mul];lia
theorem zDx :(wb " ").length=1:=by decide
theorem kl(x:wm):Qt++x=x:=by
 cases x with | mk c=>show(⟨#[]++c⟩:wm)=_;simp
theorem R3{c e:Nat}(he:c≠e):∀{xs:List (List Nat)},(∀x∈xs,c ∉ x)->c ∉ fY e xs
 | [],_=>by simp[fY]
 | [x],h=>by simpa [fY] using h x ∅
 | x::y::r,h=>by
  have ih:=R3 he (xs:=y::r) (λz hz=>h z (wx _ hz));have:=h x ∅
  show c ∉ x++e::fY e (y::r)
  simp only[vR,wz,not_or];exact⟨this,he,ih⟩
theorem Mw(h1:c ∉ x.cps.toList)(h2:c ∉ y.cps.toList):c ∉ (x++y).cps.toList:=by
 show c ∉ (x.cps++y.cps).toList
 simp only[Qx,vR,not_or];exact⟨h1,h2⟩
theorem sP(n:Nat):n<10^(a_ n).length:=by
 induction n using qE with
 | ind n ih =>
  by_cases h:n<10
  ·rw[gF h];simpa using h
  ·rw[kc (),vc,WD,xa]
   have:=ih (n / 10) ();lia
structure bR(k:Nat)(r:Rat):Prop where
 n:(a_ r.num.natAbs).length<=k
 d:(a_ r.den).length<=k
theorem bR.of(hk:1<=k)(h1:r.num.natAbs<10^k)(h2:r.den<10^k):bR k r:=⟨Ec hk h1,Ec hk h2⟩
theorem bR.mono{l:Nat}(h:bR k r)(e:k<=l):bR l r:=⟨w5 h.n e,w5 h.d e⟩
theorem rC(h:(a_ n).length<=400):n.log2<1920:=by
 by_cases z:n=0
 ·subst z;decide
 ·rw[XA z]
  refine wX (sP n) (w5 (WZ ⋯ h) ?_);rw[show 1920=4*480 from rfl,Nat.pow_mul];exact w5 (Nat.pow_le_pow_left (show 10<=2^4 by decide) 400) (WZ ⋯ ⋯)
theorem nU :(wb "/")=⟨#[47]⟩:=by decide
theorem Tz :(wb "-")=⟨#[45]⟩:=by decide
theorem zCW(h:∀c,127<c->c ∉ x.cps.toList):vM x=true:=dF (by
 rw[<- VF,wH];intro c hc;refine decide_eq_true ?_;rcases vt c 128 with z | z
 ·exact z
 ·exact absurd hc (h c ()))
theorem zAE(r:Rat):vM (aP r)=true:=zCW λc h=>Eo ()
theorem sR(x:wm):x.length=x.cps.toList.length:=by simp[XS]
theorem Cr(z:Int):(du z).length<=(a_ z.natAbs).length+1:=by
 unfold du
 split
 ·rw[bD,fM]
  show 1+_<=_
  lia
 ·rw[fM];lia
theorem tM(h:bR k r):(aP r).length<=2*k+2:=by
 have h1:=h.n;have h2:=h.d;have h3:=Cr r.num;unfold aP
 split
 ·lia
 ·rw[bD,bD,fM]
  show _+1+_<=_
  lia
theorem CT(n:Nat):1<=(aX n).length:=by rw[fM];exact VI.mpr (mU n)
theorem pV(n:Nat):du (n:Int)=aX n:=by
 unfold du;rw[if_neg ()]
 rfl
def n_(r:Rat):List Nat:=if r.den=1 then []else [r.den]
theorem zw6(r:Rat):aP r=vE ⟨#[47]⟩ (du r.num::(n_ r).map aX):=by
 unfold aP n_
 split<;>rfl
theorem zvY(r:Rat):wF (aP r) "/"=du r.num::(n_ r).map aX:=by
 rw[show(wb "/")=⟨#[47]⟩from nU,zw6];refine A9 ∅ λt ht=>?_
 rcases wz.mp ht with rfl | ht
 ·exact Ex ()
 ·obtain⟨n,_,rfl⟩:=wU.mp ht
  exact yf ()
theorem zxh(n:Nat):∃d,d<10/\(aX n).cps.toList[0]? = some (48+d):=by
 cases e:a_ n with
 | nil=>exact absurd e (mU n)
 | cons d ds=>exact⟨d,oS n d (by rw[e];simp),by simp[aX,e]⟩
theorem zx5(z:Int):((du z).cps.toList[0]? = some 45) ↔ z<0:=by
 unfold du
 split
 ·rename_i h
  rw[df];simp[h]
 ·rename_i h
  obtain⟨d,hd,e⟩:=zxh z.natAbs;rw[e];simp only[Q3];lia
theorem KG(h:1<=x.length):(x++y).cps.toList[0]? = x.cps.toList[0]?:=by
 rw[df,Ww (by rw[<- sR];lia)]
theorem Z0(z:Int):1<=(du z).length:=by
 unfold du;have:=CT z.natAbs
 split
 ·rw[bD];lia
 ·exact this
theorem zs7(r:Rat):vD (aP r) "-"=decide (r.num<0):=by
 rw[show(wb "-")=⟨#[45]⟩from Tz,Pr];have:=Z0 r.num
 have e:(aP r).cps.toList[0]? = (du r.num).cps.toList[0]?:=by
  unfold aP
  split
  ·rfl
  ·rw[KG (by rw[bD];lia),KG this]
 rw[e,Wy,decide_eq_true_eq,decide_eq_true_eq];exact zx5 r.num
theorem zyw(h:¬ z<0):du z=aX z.natAbs:=by
 unfold du;rw[if_neg h]
theorem l0(x:V)(xs:List V):fc (x::xs) (some 1) none=xs:=by
 unfold fc;have e1:HT.aQ (x::xs).length 0 (some 1)=1:=by simp[HT.aQ]
 have e2:HT.aQ (x::xs).length (x::xs).length none=(x::xs).length:=by simp[HT.aQ]
 rw[e1,e2];simp
def d7(xs:List Rat):wm:=vE " " (xs.map aP)
theorem m_(h:∀x∈xs,bR k x):(d7 xs).length<=xs.length*(2*k+3):=by
 have:=pj (x:=" ") (B:=2*k+2) (ts:=xs.map aP) (λt ht=>by
  obtain⟨x,hx,rfl⟩:=wU.mp ht;exact tM (h x hx))
 rw[we,show(wb " ").length=1 from zDx]at this;exact this
theorem EK(h:c<45\/57<c)(hc:c≠32):c ∉ (d7 xs).cps.toList:=by
 unfold d7;rw[show(wb " ")=⟨#[32]⟩from yX,A7];refine R3 hc λx hx=>?_
 obtain⟨y,hy,rfl⟩:=wU.mp hx;obtain⟨z,_,rfl⟩:=wU.mp hy;exact Eo h
theorem mi(x y z:wm):x++y++z=x++(y++z):=by
 refine qk (Wo.mp ?_);rw[df,df,df,df,Vo]
def p4(w:wm):Prop:=w=wb "one"\/w=wb "rests"\/w=wb "drawn"
def nV(w:wm):Bool:=(w == wb "one") || ((w == wb "rests") || (w == wb "drawn"))
theorem zyP{w:wm} : nV w=true ↔ p4 w:=by
 unfold nV p4;simp only[W1,beq_iff_eq]
def nN(n:Nat)(xs:List Rat):List wu->Bool
 | [.str w]=>decide (xs.length=n)&&nV w
 | _=>false
theorem zx3(h:es.length≠1):nN n xs es=false:=by
 match es with
 | []=>rfl
 | [_]=>exact absurd rfl h
 | a::_::_=>cases a<;>rfl
def ME(K:wa):Sp:=λvs H Q _=>∃x0 x1,vs=[x0,x1] /\ ∃(h:Rat)(xs:List Rat)(es:List wu)(n:Nat),Is K H x0 (.tuple (N h::TN xs::es))/\x1=.int (n:Int)/\xs.length<=950/\(∀e∈es,(∃w,e=.str w/\vM w=true) \/ ∃z,e=.int z)/\Rq H Q (.bl (nN n xs es))
theorem zm5{v:V}(i:Is K H v (.tuple (N h::TN xs::es)))(h8:xs.length<=950)(he:∀e∈es,(∃w,e=.str w/\vM w=true) \/ ∃z,e=.int z)(q:Rq H Q (.bl (nN n xs es))):ME K [v,.int (n:Int)] H Q E:=⟨_,_,rfl,h,xs,es,n,i,rfl,h8,he,q⟩
def zN:List wu:=[.str (wb "one"),.str (wb "rests"),.str (wb "drawn")]
theorem FP{w:wm}(h:vM w=true):Sh 1 (.str w):=⟨by simpa [vK] using h,by simp[Vd]⟩
theorem ztv :vK (.tuple zN)=true:=(O5 (n:=1) λd hd=>by
 simp only[zN,wz,vI,or_false]at hd;rcases hd with rfl | rfl | rfl<;>exact FP (cZ _)).1
theorem Od{p:wc}{w:wm}(t:aR K H p [.str (wb "one"),.str (wb "rests"),.str (wb "drawn")])(h:vM w=true)(q:∀k:Bool,(k=true ↔ p4 w)->Q (.bl k) H):jL K (.str w) (.ref p) H Q:=by
 refine⟨.str w,zN,cP.mpr rfl,bX.mpr ⟨p,_,rfl,t,.cons (cP.mpr rfl) (.cons (cP.mpr rfl) (.cons (cP.mpr rfl) .nil))⟩,(FP h).mono ⋯,ztv,q _ ?_⟩;unfold zN p4;simp only[W3,xk,Wa,qo,W1,beq_iff_eq]
 constructor
 ·rintro (h | h | h)
  ·exact .inl h.symm
  ·exact .inr (.inl h.symm)
  ·exact .inr (.inr h.symm)
 ·rintro (h | h | h)
  ·exact .inl h.symm
  ·exact .inr (.inl h.symm)
  ·exact .inr (.inr h.symm)
theorem znr(T:Txt w K mg a):aC P w K mg base aO 4 a.HL a.Gs yq (ME K):=by
 refine T.GS.F.ok zmT ?_ ?_;wtm_at "b2";have hgd:=hr.gd
 refine⟨_,(aj (bo (PW.pt (dh (cc (bI (bH (show aM _ (.builtin "isinstance") (dH K)from gW) rfl T.h1i dy (aa (pv 0) (aa (fz (v:=.ty "tuple") rfl T.h1S zev rfl) af))))) (dh (eM K hu (cD K T.h2f (q1 0)) aA) (eG (cc (bI (av (LL T) hr T.Aj (q2 0 1)))))))) (ak (aB dM)) bj)
     (ak (aB (dA (bH (show aM _ (.builtin "isinstance") (dH K)from gW) rfl T.h1i dy (aa (qi 0) (aa (fz (v:=.ty "str") rfl T.h1Z gk rfl) af))) (dD (fw (show aY _ (vk .In) (jL K)from q_ hu) (qi 0) (bZ (v:=.ref a.rS) rfl T.JV rfl) (by with_unfolding_all rfl))))))),?_⟩
 wtm_at "cl";rw[show start Ek [x0,x1]=[some x0,some x1]from rfl];obtain⟨hh,xs,es,n,hi,rfl,h8,he,q⟩:=h;k_few
 all_goals first | (rename_i e;cases (show true=false from e)) | skip
 refine me hi ?_;simp only[wQ];k_few
 . rename_i e
   have:=q H (ae.refl _);rw[zx3 ()]at this;exact this
 rename_i e
 obtain⟨d,rfl⟩:∃d,es=[d]:=by
   match es,e with
   | [d],_=>exact⟨d,rfl⟩
   | [],e=>simp at e
   | _::_::_,e=>simp at e;lia
 refine Le hi h8 (λH1 S1=>?_);have hi1:=hi.by S1;cases hn:decide (xs.length=n)with
 | false =>
   have ef:nN n xs [d]=false:=by
     rcases he d ∅with⟨w,rfl,_⟩ | ⟨z,rfl⟩
     . show(decide (xs.length=n)&&nV w)=false
       rw[hn];rfl
     . rfl
   rw[ef]at q;k_few;exact q H1 S1
 | true =>
 o_head bz (j:=2) hi1 rfl (λv2 i2=>?_);o_head yK i2 ?_;rcases he d ∅with⟨w,rfl,hw⟩ | ⟨z,rfl⟩
 . rw[show l_ (.str w)=true from rfl]
   have q:Rq H Q (.bl (decide (xs.length=n)&&nV w)):=q;rw[hn,w9]at q;o_head bz (j:=2) hi1 rfl (λv3 i3=>?_);cases cP.mp i3;o_head Od (T.JX _) hw (λk hk=>?_);have ek:k=nV w:=by rw[Wy,hk,zyP]
   rw[ek];exact q _ S1
 . rw[show l_ (.int z)=false from rfl]
   k_few;exact q _ S1
def gO(c:Nat):Bool:=decide (48<=c)&&decide (c<=57)
theorem zzY(c:Nat):(!(Wm jS ⟨#[c]⟩ 0 jS.length 1).isEmpty)=gO c:=by
 have key:(∃i:Nat,jS.cps.toList[i]? = some c) ↔ gO c=true:=by
  unfold gO;rw[wy,decide_eq_true_eq,decide_eq_true_eq]
  constructor
  ·rintro ⟨i,hi⟩
   have:=vx hi;have e:jS.cps.toList=[48,49,50,51,52,53,54,55,56,57]:=rfl;rw[e]at this;simp only[wz,vI,or_false]at this;rcases this with rfl | rfl | rfl | rfl | rfl | rfl | rfl | rfl | rfl | rfl<;>decide
  ·rintro ⟨h1,h2⟩
   have e:jS.cps.toList=[48,49,50,51,52,53,54,55,56,57]:=rfl;refine⟨c-48,?_⟩;rw[e];obtain⟨d,rfl⟩:∃d,c=48+d:=⟨c-48,by lia⟩
   match d,h2 with
   | 0,_=>rfl
   | 1,_=>rfl
   | 2,_=>rfl
   | 3,_=>rfl
   | 4,_=>rfl
   | 5,_=>rfl
   | 6,_=>rfl
   | 7,_=>rfl
   | 8,_=>rfl
   | 9,_=>rfl
   | n+10,h=>exact absurd h ()
 rcases xj jS ⟨#[c]⟩ 1 (wo 1)with⟨h0,hn⟩ | ⟨i,r,h0,hi,hn⟩
 ·rw[h0]
  cases e:gO c with
  | false=>rfl
  | true =>
   obtain⟨i,hi⟩:=key.mpr e;exact absurd ((Xx jS c i).mpr hi) (hn i)
 ·rw[h0,key.mp ⟨i,(Xx jS c i).mp hi⟩]
  rfl
def wT(x:wm)(m:Int):Bool:=decide (1<=x.length)&&(decide ((x.length:Int)<=m)&&(x.cps.toList.all gO&&((x == wb "0") || !(x.cps.toList.head? == some 48))))
theorem OU(l:List Nat)(d:Nat):c9 (l++[d])=c9 l*10+d:=by unfold c9;rw[qU];rfl
theorem RS{P:List Nat->Prop}(h0:P [])(h1:∀l d,P l->P (l++[d])):∀l,P l:=λl=>by
 have:P l.reverse.reverse:=by
  generalize l.reverse=r
  induction r with
  | nil=>exact h0
  | cons d r ih=>rw[List.reverse_cons];exact h1 _ _ ih
 rwa[List.reverse_reverse]at this
theorem zyV :∀{l:List Nat},l≠[]->l.head? ≠ some 0->1<=c9 l:=by
 intro l;refine RS (P:=λl=>l≠[]->l.head? ≠ some 0->1<=c9 l) ?_ ?_ l
 ·intro h;exact absurd rfl h
 ·intro l d ih _ h
  rw[OU];cases l with
  | nil =>
   have:d≠0:=λe=>h (by rw[e];rfl)
   show 1<=0*10+d
   lia
  | cons e l =>
   have:=ih ∅ h;lia
theorem zzp :∀{l:List Nat},l≠[]->(∀d∈l,d<10)->(l.head? ≠ some 0\/l=[0])->a_ (c9 l)=l:=by
 intro l;refine RS (P:=λl=>l≠[]->(∀d∈l,d<10)->(l.head? ≠ some 0\/l=[0])->a_ (c9 l)=l) ?_ ?_ l
 ·intro h;exact absurd rfl h
 ·intro l d ih _ hd h
  have d10:=hd d ∅;rw[OU];cases l with
  | nil =>
   show a_ (0*10+d)=[d]
   rw[Nat.zero_mul,Nat.zero_add,gF d10]
  | cons e l =>
   have h':(e::l).head? ≠ some 0:=by
    rcases h with h | h
    ·exact h
    ·simp at h
   have p:=zyV ∅ h';rw[kc (),show(c9 (e::l)*10+d) / 10=c9 (e::l) by lia,show(c9 (e::l)*10+d) % 10=d by lia,ih ∅ (λx hx=>hd x (Wd _ hx)) (.inl h')]
def cb(x:wm):Nat:=c9 (x.cps.toList.map (· - 48))
theorem nF(h:wT x m=true):x=aX (cb x)/\((a_ (cb x)).length:Int)<=m:=by
 unfold wT at h;rw[wy,wy,wy,decide_eq_true_eq,decide_eq_true_eq]at h;obtain⟨h1,h2,h3,h4⟩:=h;rw[sR]at h1 h2
 have fig:∀c∈x.cps.toList,48<=c/\c<=57:=λc hc=>by
  have:=wH.mp h3 c hc;unfold gO at this;rw[wy,decide_eq_true_eq,decide_eq_true_eq]at this;exact this
 have back:(x.cps.toList.map (· - 48)).map (48 + ·)=x.cps.toList:=by
  rw[qO]
  conv=>rhs;rw[<- List.map_id x.cps.toList]
  refine x6 λc hc=>?_
  have:=fig c hc
  show 48+(c-48)=c
  lia
 have e:a_ (cb x)=x.cps.toList.map (· - 48):=by
  refine zzp (λz=>by rw[x8]at z;rw[z]at h1;simp at h1) (λd hd=>?_) ?_
  ·obtain⟨c,hc,rfl⟩:=wU.mp hd
   have:=fig c hc
   show c-48<10
   lia
  ·rw[W1]at h4
   rcases h4 with h4 | h4
   ·right
    rw[eq_of_beq h4]
    decide
   ·left
    intro z;rw[List.head?_map]at z;obtain⟨c,hc,e⟩:=vF.mp z;have:=fig c (List.mem_of_mem_head? hc);have e48:c=48:=by lia
    rw[hc,e48]at h4;simp at h4
 refine⟨qk (Wo.mp ?_),?_⟩
 ·unfold aX
  rw[e]
  simpa using back.symm
 ·rw[e,we]
  exact h2
theorem zyY(c:Nat):((⟨#[c]⟩:wm) == wb "0")=decide (c=48):=by
 have e:wb "0"=⟨#[48]⟩:=by decide
 rw[e]
 by_cases h:c=48
 ·subst h;simp
 ·rw[decide_eq_false h]
  simp only[beq_eq_false_iff_ne,ne_eq];intro z;exact h (by simpa using congrArg (λs:wm=>s.cps.toList) z)
def jD(g:Bool)(a:Nat)(od:Option Nat):wm:=(if g then⟨#[45]⟩++aX a else aX a)++(match od with | none=>⟨#[]⟩ | some d=>⟨#[47]⟩++aX d)
def eW(g:Bool)(a:Nat):wm:=if g then⟨#[45]⟩++aX a else aX a
def ja(g:Bool)(a:Nat):Int:=if g then -(a:Int)else a
theorem NG{a:Nat}(h:c<48/\c≠45\/57<c):c ∉ (eW g a).cps.toList:=by
 have hn:c ∉ (aX a).cps.toList:=by
  rcases h with h | h
  ·exact yf h.1
  ·exact Fe h
 unfold eW
 split
 ·exact uW (Ci ()) hn
 ·exact hn
theorem E_(x:wm):x++⟨#[]⟩=x:=by
 refine qk (Wo.mp ?_);rw[df];simp
theorem Tg(g:Bool)(a:Nat)(od:Option Nat):vA (jD g a od) "/"=match od with | none=>(eW g a,Qt,Qt) | some d=>(eW g a,⟨#[47]⟩,aX d):=by
 rw[show(wb "/")=⟨#[47]⟩from nU];cases od with
 | none =>
  show vA (eW g a++⟨#[]⟩) _=_
  rw[E_];exact zv8 (NG ())
 | some d =>
  show vA (eW g a++(⟨#[47]⟩++aX d)) _=_
  rw[<- mi];exact zzC (NG ())
theorem Ma{s t:wm}{c:Nat} : ∀{ts:List wm},t∈ts->c∈t.cps.toList->c∈(vE s ts).cps.toList
 | [],h,_=>by cases h
 | [u],h,hc=>by rw[wY.mp h]at hc;exact hc
 | u::w::r,h,hc=>by
  show c∈(u++s++vE s (w::r)).cps.toList
  rw[df,df,vR,vR];rcases wz.mp h with rfl | h
  ·exact .inl (.inl hc)
  ·exact .inr (Ma h hc)
theorem NA{s t:wm} : ∀{ts:List wm},t∈ts->t.length<=(vE s ts).length
 | [],h=>by cases h
 | [u],h=>by rw[wY.mp h];exact wo _
 | u::w::r,h=>by
  show t.length<=(u++s++vE s (w::r)).length
  rw[bD,bD];rcases wz.mp h with rfl | h
  ·lia
  ·have:=NA (s:=s) h
   lia
def aW(x:wm):Prop:=x.cps.all (· < 128)=true
theorem kz : aW x ↔ ∀c∈x.cps.toList,c<128:=by
 unfold aW;rw[<- VF,wH];exact⟨λh c hc=>of_decide_eq_true (h c hc),λh c hc=>decide_eq_true (h c hc)⟩
theorem gK{s t:wm}(h:t∈wF x s):(aW x->aW t)/\t.length<=x.length:=by
 have e:=VE x s;refine⟨λha=>kz.mpr λc hc=>kz.mp ha c ?_,?_⟩
 ·rw[<- e];exact Ma h hc
 ·have:=NA (s:=s) h
  rw[e]at this;exact this
theorem iP{s:wm}(hs:1<=s.length):(wF x s).length<=x.length+1:=by
 have key:∀ts:List wm,ts.length<=(vE s ts).length+1:=by
  intro ts
  induction ts with
  | nil=>simp
  | cons t ts ih =>
   cases ts with
   | nil=>simp
   | cons u r =>
    show(u::r).length+1<=(t++s++vE s (u::r)).length+1
    rw[bD,bD];lia
 have:=key (wF x s);rw[VE]at this;exact this
def cK(x:wm):wm:=if vD x "-"=true then V4 ((wF x "/").headD ⟨#[]⟩) (some 1) none else(wF x "/").headD ⟨#[]⟩
def dR(x:wm):Option Nat:=((wF x "/").tail.head?).map cb
def kC(x:wm)(m:Int):Bool:=decide ((wF x "/").length<=2)&&(cK x::(wF x "/").tail).all (wT · m)
def nZ(x:wm):Int:=ja (vD x "-") (cb (cK x))
def nD(x:wm):Int:=(((dR x).getD 1:Nat):Int)
def nT(x:wm)(m:Int):Bool:=kC x m&&(eP (nZ x) (nD x)&&(aP (wR (nZ x) (nD x)) == x))
theorem Td(h:kC x m=true):x=jD (vD x "-") (cb (cK x)) (dR x)/\((a_ (cb (cK x))).length:Int)<=m /\ ∀d,dR x=some d->((a_ d).length:Int)<=m:=by
 unfold kC at h;rw[wy,decide_eq_true_eq,W2,wy]at h;obtain⟨h1,h2,h3⟩:=h;have t1:=nF h2;have e:=VE x "/";rw[show(wb "/")=⟨#[47]⟩from nU]at e
 have s1:vD x "-"=decide (x.cps.toList[0]? = some 45):=by
  rw[show(wb "-")=⟨#[45]⟩from Tz,Pr]
 have sp:wF x "/"=wF x ⟨#[47]⟩:=by rw[show(wb "/")=⟨#[47]⟩from nU]
 unfold dR;unfold cK at t1 ⊢;rw[sp]at h1 h3 t1 ⊢;obtain⟨ps,hps⟩:∃ps,ps=wF x ⟨#[47]⟩:=⟨_,rfl⟩;have ne:=lW x ⟨#[47]⟩;rw[<- hps]at e h1 h3 t1 ne ⊢
 obtain⟨p0,tl,rfl⟩:∃p0 tl,ps=p0::tl:=by
  cases ps with
  | nil=>exact absurd rfl ne
  | cons p0 tl=>exact⟨p0,tl,rfl⟩
 simp only[Qu,Vw]at t1 h3 ⊢
 have hp0:p0=eW (vD x "-") (cb (if vD x "-"=true then V4 p0 (some 1) none else p0)):=by
  cases hg:vD x "-" with
  | false =>
   rw[hg]at t1;simp only[We,if_false]at t1 ⊢;exact t1.1
  | true =>
   rw[hg]at t1;simp only[if_true]at t1 ⊢;rw[s1,decide_eq_true_eq]at hg
   have h45:∃r,p0=⟨#[45]⟩++r:=by
    cases hc:p0.cps.toList with
    | nil =>
     exfalso
     have pe:p0=⟨#[]⟩:=qk (Wo.mp (by rw[hc]));cases tl with
     | nil =>
      rw[<- e,pe]at hg;cases hg
     | cons p1 r =>
      rw[<- e,pe]at hg
      have:(vE ⟨#[47]⟩ (⟨#[]⟩::p1::r)).cps.toList=47::(vE ⟨#[47]⟩ (p1::r)).cps.toList:=by
       show(⟨#[]⟩++⟨#[47]⟩++vE ⟨#[47]⟩ (p1::r):wm).cps.toList=_
       rw[df,df]
       rfl
      rw[this]at hg;simp at hg
    | cons c r =>
     have hx0:x.cps.toList[0]? = some c:=by
      rw[<- e];cases tl with
      | nil =>
       show p0.cps.toList[0]? = _
       rw[hc];rfl
      | cons p1 r' =>
       show(p0++⟨#[47]⟩++vE ⟨#[47]⟩ (p1::r'):wm).cps.toList[0]? = _
       rw[df,df,hc]
       rfl
     rw[hx0]at hg;have c45:c=45:=by simpa using hg
     refine⟨⟨r.toArray⟩,qk (Wo.mp ?_)⟩;rw[df,hc,c45]
     rfl
   obtain⟨r,hr⟩:=h45;rw[hr,Z6]at t1 ⊢;rw[show eW true (cb r)=⟨#[45]⟩++aX (cb r)from rfl,<- t1.1]
 refine⟨?_,t1.2,?_⟩
 ·cases tl with
  | nil =>
   show x=eW _ _++⟨#[]⟩
   rw[E_,<- hp0,<- e]
   rfl
  | cons p1 r =>
   have hr:r=[]:=by
    cases r with
    | nil=>rfl
    | cons _ _=>simp at h1
   subst hr;rw[W2,wy]at h3;have t2:=nF h3.1
   show x=eW _ _++(⟨#[47]⟩++aX (cb p1))
   rw[<- mi,<- hp0,<- t2.1,<- e]
   rfl
 ·intro d hd
  cases tl with
  | nil=>cases hd
  | cons p1 r =>
   rw[W2,wy]at h3;have t2:=nF h3.1;have:d=cb p1:=by simpa using hd.symm
   rw[this];exact t2.2
def dW(r:Rat × List Rat × List wu):wu:=.tuple (N r.1::TN r.2.1::r.2.2)
def dE(l:List wm):wm:=l.headD ⟨#[]⟩
abbrev tx(s:String):wm:=wb s
abbrev gI:=Rat × List Rat × List wu
structure gI.Ok(r:gI):Prop where
 l:r.2.1.length<=950
 e:∀e∈r.2.2,(∃w,e=.str w/\vM w=true) \/ ∃z,e=.int z
def mX(n:Nat)(rs:List gI):Bool:=match rs.getLast? with
 | none=>false
 | some l=>rs.dropLast.all (λr=>iY n r.2.1 r.2.2)&&nN n l.2.1 l.2.2
def Rf(K:wa):Sp:=λvs H Q _=>∃x0 x1,vs=[x0,x1] /\ ∃(n:Nat)(rs:List gI),Is K H x0 (.list (rs.map dW))/\x1=.int (n:Int)/\(∀r∈rs,r.Ok)/\rs.length<=950/\Rq H Q (.bl (mX n rs))
theorem zrA{rs:List gI}{v:V}(i:Is K H v (.list (rs.map dW)))(ok:∀r∈rs,r.Ok)(hl:rs.length<=950)(q:Rq H Q (.bl (mX n rs))):Rf K [v,.int (n:Int)] H Q E:=⟨_,_,rfl,n,rs,i,rfl,ok,hl,q⟩
theorem BH(ds:List α)(d : α):L2.cutD (ds++[d]) none (some (-1))=ds:=by
 unfold L2.cutD;have e1:HT.aQ (ds++[d]).length 0 none=0:=by simp[HT.aQ]
 have e2:HT.aQ (ds++[d]).length (ds++[d]).length (some (-1))=ds.length:=by
  rw[vc,WD];simp[HT.aQ];lia
 rw[e1,e2];simp
theorem zyZ{v:V}(h:Is K H v (.list (ds++[d])))(q:∀x,Is K H x d->Q x H):cV K v (.int (-1)) H Q:=by
 obtain⟨a,xs,rfl,hs,t⟩:=cR.mp h;have hl:=t.length;rw[vc,WD]at hl;obtain⟨x,e1,hx⟩:=t.get (i:=ds.length) (d:=d) (by rw[WR (wo _),xf];rfl);exact dS hs (zAX (by rw[hl];exact e1)) (q x hx)
theorem zrs(T:Txt w K mg a):aC P w K mg base aO 5 a.JF a.Hr tw (Rf K):=by
 refine T.IC.F.ok zsr ?_ ?_;wtm_at "b2"
 refine⟨_,(aj (bo (PW.pt (dh (cc (bI (bH (show aM _ (.builtin "isinstance") (dH K)from gW) rfl T.h1i dy (aa (pv 0) (aa (fz (v:=.ty "list") rfl T.h1W mQ rfl) af))))) (eG (cc (o8 (pv 0)))))) (ak (aB dM)) bj)
     (ak (aB (dA (bH (show aM _ (.builtin "all") (h_ K)from jH rfl) rfl T.h1Y jG (aa (c_ rfl (cF ["row","worms"] [none,some 1]) (eL (dP eB (pv 0) dQ (dZ (rA pD aA)))) (λ_ _ _ _ _=>(cv 0)) (λ_ _ _ _ _=>cX) (λ_ _ _ _ _=>(av (zwq (K:=K) (mg:=mg) (a:=a) T) hr T.Jq (q2 0 1)))) af)) (dD (av (znr T) hr T.GS (aa (f_ eK (pv 0) (rA pD aA) (λ_ _=>rfl)) (q1 1)))))))),?_⟩
 wtm_at "cl";rw[show start DG [x0,x1]=[some x0,some x1]from rfl];obtain⟨n,rs,hi,rfl,ok,h5,q⟩:=h;have z:1000<=wr:=by decide
 o_head zI hi ?_;rw[show fF (PyData.list (rs.map dW))=true from rfl];o_head A6 hi ?_;rcases xE rs with rfl | ⟨ps,l,rfl⟩
 . rw[show(!(([]:List gI).map dW).isEmpty)=false from rfl]
   k_few;exact q H (ae.refl _)
 rw[xF]at *
 have qe:mX n (ps++[l])=(ps.all (λr=>iY n r.2.1 r.2.2)&&nN n l.2.1 l.2.2):=by
   unfold mX;rw[List.getLast?_concat,xM]
 rw[qe]at q;rw[show(!((ps++[l]).map dW).isEmpty)=true by simp]
 have hi:Is K H x0 (.list (ps.map dW++[dW l])):=by
   have e:(ps++[l]).map dW=ps.map dW++[dW l]:=by simp
   rw[<- e];exact hi
 o_head NP hi (λl1 H1 us n1 S1 e1 t1=>?_);rw[BH]at t1;have lt:=t1.length;rw[we]at lt;rw[vc]at h5;o_head gq (.of e1) (o0:=none) (tl:=[some (.int (n:Int))]) rfl (λj y _=>y=.bl ((ps.map λr=>iY n r.2.1 r.2.2).getD j false)) ?_ ?_
 . intro D j x ys o H2 hx inv
   obtain⟨hj,ir⟩:=ke t1 hx;rw[we]at hj;rw[wk,wG,wg hj]at ir;have ir:Is K H1 x (.tuple (N ps[j].1::TN ps[j].2.1::ps[j].2.2)):=ir;have okr:=ok ps[j] (Wd _ (Wi hj));o_head zv4 (ir.by inv.2.2.1) okr.l (λH3 S3=>?_);k_few;exact cY inv () (λ_ _ _ _ _ h=>h) ⟨_,rfl⟩ S3 (by rw[wk,wG,wg hj];rfl)
 . intro D ys H2 n2 S2 e2 l2 r2
   have ey:ys=(ps.map λr=>iY n r.2.1 r.2.2).map V.bl:=by
     refine vv (by simp;lia) λi h1 h2=>?_
     rw[r2 i ys[i] (wg h1)];rw[we]at h2;rw[wk,wg h2];simp
   rw[ey]at e2;o_head hV (.of e2) ?_;rw[Wf,show(id ∘ λr:gI=>iY n r.2.1 r.2.2)=λr=>iY n r.2.1 r.2.2 from rfl];have T2:=S1.trans S2;cases ha:ps.all λr=>iY n r.2.1 r.2.2 with
   | false =>
     rw[ha]at q;k_few;exact q _ T2
   | true =>
   rw[ha,w9]at q;o_head zyZ (hi.by T2) (λv3 i3=>?_);have okl:=ok l ∅;o_head zm5 (show Is K H2 v3 (.tuple (N l.1::TN l.2.1::l.2.2))from i3) okl.l okl.e (λH3 S3=>?_);exact q _ (T2.trans S3)
def ztI(_:wa):Sp:=λ_ _ _ _=>False
theorem ztf(T:Txt w K mg a):aC P w K mg base aO 1 a.JN a.Iu Co (ztI K):=⟨λ_ _ _ _ h=>h.elim,λ_ _ _ _ _ _ _ _ _ _ _ _ _ h=>h.elim⟩
def Mz(K:wa):Sp:=λvs H Q _=>∃x0,vs=[x0] /\ ∃r:Rat,Is K H x0 (N r)/\bR 400 r/\Q (.str (aP r)) H
theorem yo{v:V}(h:Is K H v (N r))(hf:bR 400 r)(q:Q (.str (aP r)) H):Mz K [v] H Q E:=⟨_,rfl,r,h,hf,q⟩
theorem Tf : ((r.den:Int)=1) ↔ r.den=1:=by lia
theorem zx(T:Txt w K mg a):aC P w K mg base aO 1 a.Ho a.Gm sS (Mz K):=by
 refine T.oi.F.ok CN ?_ ?_;wtm_at "b1";have hgd:=hr.gd
 refine⟨_,(aj (aJ 1 CN.nd (d5 (show aM _ (.type "str") gn from iZ) rfl T.h1Z gk (aa (qi 0) af)))
     (aj (bo (gD K hu (qi 0) aA) (ak (aB (pv 1))) bj)
     (aj (aJ 2 CN.nd (d5 (show aM _ (.type "str") gn from iZ) rfl T.h1Z gk (aa (qi 0) af)))
     (ak (aB (EU (nz (pv 1) (yr (nz (pv 2) Bq))))))))),?_⟩
 wtm_at "cl";rw[show start LU [x0]=[some x0,none,none]from rfl];obtain⟨r,hr,hf,q⟩:=h;have z:2000<=wr:=by decide
 have l1:=Cr r.num;have f1:=hf.n;have f2:=hf.d;o_head j2 (rC f1) ?_;rw[ky];k_few
 . rename_i e
   have e:r.den=1:=Tf.mp e;unfold aP at q;rw[if_pos e]at q;exact q
 . rename_i e
   have e:¬ r.den=1:=λz=>e (Tf.mpr z)
   unfold aP at q;rw[if_neg e]at q;refine j2 (by rw[VT];exact rC f2) ?_;rw[ky,pV];o_head A3 (mZ ?_);o_head ⟨_,rfl,by lia,by rw[kl];lia,w_ (by rw[kl,bD];show _+1<=_;lia) (mZ ?_)⟩;rw[kl];o_head ⟨_,rfl,by rw[fM];lia,by rw[bD,bD,fM];show _+1+_<=_;lia,EE (by rw[bD,bD,fM];show _+1+_<=_;lia) ?_⟩;rw[show(wb "/")=⟨#[47]⟩from nU];exact q
def MX(K:wa):Sp:=λvs H Q _=>∃x0,vs=[x0] /\ ∃xs:List Rat,Is K H x0 (TN xs)/\xs.length<=20/\(∀x∈xs,bR 400 x)/\Rq H Q (.str (d7 xs))
theorem OC{v:V}(h:Is K H v (TN xs))(hl:xs.length<=20)(hf:∀x∈xs,bR 400 x)(q:Rq H Q (.str (d7 xs))):MX K [v] H Q E:=⟨_,rfl,xs,h,hl,hf,q⟩
theorem Ce(T:Txt w K mg a):aC P w K mg base aO 2 a.GV a.Gf ya (MX K):=by
 refine T.rF.F.ok zl3 ?_ ?_;wtm_at "b1";refine⟨_,(ak (aB (cq wI vf vg (show cf _ "str.join" (dr K)from fe) ag (aa (c_ rfl (cF ["one"] [none]) (lE (pv 0)) (λ_ _ _ _ _=>(cv 0)) (λ_ _ _ _ _=>cX) (λ_ _ _ _ _=>(av (zx (K:=K) (mg:=mg) (a:=a) T) hr T.oi (q1 0)))) af)))),?_⟩;wtm_at "cl";rw[show start Dq [x0]=[some x0]from rfl];obtain⟨xs,hx,hl,hf,q⟩:=h;obtain⟨a1,vs,rfl,hs,tv⟩:=bX.mp hx;o_head fE ?_;o_head kn hs (o0:=none) (tl:=[]) rfl (λj y _=>y=.str (aP (xs.getD j 0))) ?_ ?_
 ·intro D j x ys o H1 hx inv
  obtain⟨hj,iy⟩:=gz tv hx;o_head yo (iy.by inv.2.2.1) (hf _ (getD_mem hj)) ?_;k_few;exact cY inv () (λ_ _ _ _ _ h=>h) ⟨_,rfl⟩ (ae.refl _) rfl
 ·intro D ys H1 n1 S1 e1 l1 r1
  have lv:=tv.length;rw[we]at lv
  have ey:ys=(xs.map aP).map V.str:=by
   refine vv (by rw[l1];simp;lia) λi h1 h2=>?_
   rw[r1 i ys[i] (wg h1)];rw[we,we]at h2;simp[wk,wg h2]
  rw[ey]at e1;o_head pI (B:=802) (.of e1) (λy hy=>?_) ?_ (q _ S1)
  ·obtain⟨x,hx',rfl⟩:=wU.mp hy
   exact tM (hf x hx')
  ·rw[we,yX]
   show xs.length*802+xs.length*1<=_
   lia
def c6(a b:Rat)(xs:List Rat):wm:=wb "rule "++d7 [a,b]++wb "\nworms "++d7 xs
theorem zwt :wb "\nworms "=(⟨#[10]⟩:wm)++wb "worms ":=by decide
theorem R8(a b:Rat)(xs:List Rat):wF (c6 a b xs) "\n"=[wb "rule "++d7 [a,b],wb "worms "++d7 xs]:=by
 rw[show(wb "\n")=⟨#[10]⟩from Zm]
 have e:c6 a b xs=vE ⟨#[10]⟩ [wb "rule "++d7 [a,b],wb "worms "++d7 xs]:=by
  unfold c6;rw[zwt]
  show _=(wb "rule "++d7 [a,b])++⟨#[10]⟩++(wb "worms "++d7 xs)
  rw[mi,mi,mi,mi,mi]
 rw[e];refine A9 ∅ λt ht=>?_
 simp only[wz,vI,or_false]at ht;rcases ht with rfl | rfl
 ·exact Mw ⋯ (EK () ())
 ·exact Mw ⋯ (EK () ())
theorem RB(hne:xs≠[])(e:x=y++wb " ")(hy:32 ∉ y.cps.toList):wF (x++d7 xs) " "=y::xs.map aP:=by
 have e2:x++d7 xs=vE " " (y::xs.map aP):=by
  subst e;cases xs with
  | nil=>exact absurd rfl hne
  | cons z r=>rfl
 rw[e2,show(wb " ")=⟨#[32]⟩from yX];refine A9 ∅ λt ht=>?_
 rcases wz.mp ht with rfl | ht
 ·exact hy
 ·obtain⟨z,_,rfl⟩:=wU.mp ht
  exact Eo ()
theorem FF(hk:2<=k)(h1:r.num.natAbs<100)(h2:r.den<100):bR k r:=(bR.of (k:=2) ⋯ h1 h2).mono hk
theorem BI{a:Rat}(ok:cw a b):∀x∈[a,b],bR 2 x:=by
 have h1:=ok.a0;have h2:=ok.a4;have h3:=ok.ad;have g1:=ok.b0;have g2:=ok.b1;have g3:=ok.bd;have n0:0<=a.num:=W7.mpr (qM h1)
 have n1:a.num<=4*a.den:=by
  have:=(xJ a 4).mp h2
  simpa using this
 have m0:0<=b.num:=W7.mpr g1
 have m1:b.num<=b.den:=by
  have:=(xJ b 1).mp g2
  simpa using this
 intro x hx;simp only[wz,vI,or_false]at hx;rcases hx with rfl | rfl
 ·exact FF ⋯ () ()
 ·exact FF ⋯ () ()
theorem Nj{a:Rat}(ok:cw a b):∀x∈[a,b],bR 60 x:=λx hx=>(BI ok x hx).mono ⋯
theorem pA{x:Rat}(h:di x):bR 60 x:=by
 have h1:=h.nn;have h2:=h.lt;have h3:=h.den;have n0:0<=x.num:=W7.mpr h1
 have n1:x.num<x.den:=by
  have:=(xI x 1).mp h2
  simpa using this
 exact FF ⋯ () ()
def L5(K:wa):Sp:=λvs H Q _=>∃x0,vs=[x0] /\ ∃(ra rb:Rat)(xs:List Rat),Is K H x0 (br ra rb xs)/\cw ra rb/\xs.length<=5/\(∀x∈xs,bR 90 x) /\ ∀H',ae H H'->(c6 ra rb xs).length<=1000->Q (.str (c6 ra rb xs)) H'
theorem zn4{v:V}(h:Is K H v (br ra rb xs))(ok:cw ra rb)(h8:xs.length<=5)(hf:∀x∈xs,bR 90 x)(q:∀H',ae H H'->(c6 ra rb xs).length<=1000->Q (.str (c6 ra rb xs)) H'):L5 K [v] H Q E:=⟨_,rfl,ra,rb,xs,h,ok,h8,hf,q⟩
theorem Zz(T:Txt w K mg a):aC P w K mg base aO 3 a.Iw a.Gw yL (L5 K):=by
 refine T.GY.F.ok FQ ?_ ?_;wtm_at "b1"
 refine⟨_,(aj (aJ 1 FQ.nd (av (Ce T) hr T.rF (aa (qi 0) af)))
     (aj (aJ 2 FQ.nd (av (Ce T) hr T.rF (aa (qi 0) af)))
     (ak (aB (EU (yr (nz (pv 1) (yr (nz (pv 2) Bq))))))))),?_⟩
 wtm_at "cl";rw[show start PV [x0]=[some x0,none,none]from rfl];obtain⟨ra,rb,xs,hw,ok,h8,hf,q⟩:=h;have z:4000<=wr:=by decide
 have fr:∀x∈[ra,rb],bR 2 x:=BI ok;have w1:=m_ fr;have w2:=m_ hf;have w3:xs.length*(2*90+3)<=5*183:=Vs _ h8;have l1:(wb "rule ").length=5:=by decide
 have l3:(wb "\nworms ").length=7:=by decide
 simp only[wQ,WO]at w1;o_head bz (j:=0) hw rfl (λv0 i0=>?_);o_head OC (xs:=[ra,rb]) i0 ∅ (λx hx=>(fr x hx).mono ⋯) (λH1 S1=>?_);o_head bz (j:=1) (hw.by S1) rfl (λv1 i1=>?_);o_head OC i1 () (λx hx=>(hf x hx).mono ⋯) (λH2 S2=>?_);o_head A3 (w_ (by rw[kl];lia) (mZ ?_));rw[kl];o_head ⟨_,rfl,by lia,by rw[bD];lia,w_ (by rw[bD,bD];lia) (mZ ?_)⟩;o_head ⟨_,rfl,by lia,by rw[bD,bD,bD];lia,EE (by rw[bD,bD,bD];lia) ?_⟩;exact q _ (S1.trans S2) (by unfold c6;rw[bD,bD,bD];lia)
def LB(K:wa):Sp:=λvs H Q _=>∃x0 x1,vs=[x0,x1] /\ ∃(x:wm)(m:Int),x0=.str x/\x1=.int m/\x.cps.all (· < 128)=true/\x.length<=1000/\Rq H Q (.bl (wT x m))
theorem uZ(ha:x.cps.all (· < 128)=true)(hl:x.length<=1000)(q:Rq H Q (.bl (wT x m))):LB K [.str x,.int m] H Q E:=⟨_,_,rfl,x,m,rfl,rfl,ha,hl,q⟩
theorem zA(T:Txt w K mg a):aC P w K mg base aO 1 a.GO a.F9 zl (LB K):=by
 refine T.og.F.ok zkE ?_ ?_;wtm_at "b2"
 refine⟨_,(aj (bo (PW.pt (dh (cc (SU jj jj aA (bH (show aM _ (.builtin "len") rz from Dr) rfl T.h2f yn (q1 0)) (pv 1))) (eG (cc (bI (bH (show aM _ (.builtin "all") (h_ K)from jH rfl) rfl T.h1Y jG (aa (c_ rfl (cF ["sign"] [none]) (YU (pv 0)) (λ_ _ _ _ _=>(cv 0)) (λ_ _ _ _ _=>cX) (λ_ _ _ _ _=>(fw (show aY _ (vk .In) Fi from zCA) (pv 0) (Y0 rfl T.Yb) (by with_unfolding_all rfl)))) af))))))) (ak (aB dM)) bj)
     (ak (aB (Bw (iQ K hu (pv 0) ag) (dD (fw (show aY _ (vk .NotEq) (lV K)from LA hu) (qi 0) ag (cN _))))))),?_⟩
 wtm_at "cl";rw[show start A0 [x0,x1]=[some x0,some x1]from rfl];obtain⟨x,m,rfl,rfl,ha,hl,q⟩:=h;have z:2000<=wr:=by decide
 o_head En () ?_;k_few
 . rename_i h1 h2
   have e:wT x m=false:=by unfold wT;rw[decide_eq_false h2,w8,Wr]
   rw[e]at q;exact q H (ae.refl _)
 . rename_i h1 h2
   refine ztc ?_;o_head zt5 ha (fO H [] λj y _=>y=.bl (gO (x.cps.toList.getD j 0))) (λD H' n s e=>⟨⟨none,rfl⟩,n,s,e,rfl,λj y z=>by simp at z⟩) ?_ ?_
   . intro D i c ys σ' H1 hc inv
     obtain⟨⟨o,rfl⟩,_⟩:=id inv;have hi:i<x.length:=(vO.mp hc).1
     have ec:x.cps.toList.getD i 0=c:=by
       rw[wk,Qi,hc];rfl
     o_head zCm ?_;rw[zCe,zzY];k_few;exact cY inv () (λ_ _ _ _ _ h=>h) ⟨_,rfl⟩ (ae.refl _) (by rw[ec])
   . rintro D ys σ' H1 ⟨_,n1,S1,e1,l1,r1⟩
     have ey:ys=(x.cps.toList.map gO).map V.bl:=by
       refine vv (by rw[l1,we,we];exact sR x) λi h1 h2=>?_
       rw[r1 i ys[i] (wg h1)];rw[we,we]at h2;rw[vb,vb,wk,wg h2]
       rfl
     rw[ey]at e1;o_head hV (.of e1) ?_;rw[show(x.cps.toList.map gO).all id=x.cps.toList.all gO by rw[Wf];rfl]
     have key:wT x m=(x.cps.toList.all gO&&((x == wb "0") || !(x.cps.toList.head? == some 48))):=by
       unfold wT;rw[decide_eq_true (show 1<=x.length by lia),decide_eq_true h2,w9,w9]
     rw[key]at q;k_few
     . rename_i e
       rw[e,w8]at q;exact q _ S1
     . rename_i e
       rw[e,w9]at q;refine jF (dF ha) (cZ _) ?_;cases hz:(x == wb "0")with
       | true =>
         rw[hz,uA]at q;k_few;exact q _ S1
       | false =>
         rw[hz,xS]at q;k_few;cases hc:x.cps.toList with
         | nil =>
           have:=sR x;rw[hc]at this;simp at this;lia
         | cons c0 r0 =>
           have ec:x.cps.toList[0]? = some c0:=by rw[hc];rfl
           refine .inr (.inr ⟨_,_,_,rfl,rfl,by lia,gm (j:=0) ec,?_⟩);k_few
           have c128:c0<128:=by
             rw[<- VF,hc,W2,wy,decide_eq_true_eq]at ha;exact ha.1
           refine kF (dF (by simp;lia)) (cZ _) ?_;rw[zyY];rw[hc,X8]at q;have eb:((some c0 == some 48:Bool))=decide (c0=48):=by rw[Wy];simp
           rw[eb]at q;exact q _ S1
 . rename_i h1
   have e:wT x m=false:=by unfold wT;rw[decide_eq_false (),w8]
   rw[e]at q;exact q H (ae.refl _)
def nR(K:wa):Sp:=λvs H Q _=>∃x0,vs=[x0] /\ ∃(g:Bool)(b:Nat)(od:Option Nat),x0=.str (jD g b od)/\(a_ b).length<=400/\(∀d,od=some d->(a_ d).length<=400)/\Rs K H Q (.tuple [.int (ja g b),.int ((od.getD 1:Nat):Int)])
theorem EV{b:Nat}{od:Option Nat}(h1:(a_ b).length<=400)(h2:∀d,od=some d->(a_ d).length<=400)(q:Rs K H Q (.tuple [.int (ja g b),.int ((od.getD 1:Nat):Int)])):nR K [.str (jD g b od)] H Q E:=⟨_,rfl,g,b,od,rfl,h1,h2,q⟩
theorem LJ{QB:Bool->Hp->Prop}(h:x.length<=wr)(q:QB (decide (x.length≠0)) H):lY K (.str x) H QB:=⟨_,⟨h,rfl⟩,by
 have e:(((x.length:Int) != 0):Bool)=decide (x.length≠0):=by rw[Wy,decide_eq_true_eq,bne_iff_ne];lia
 rw[e];exact q⟩
theorem Z8(g:Bool)(a:Nat):(eW g a).length<=(a_ a).length+1:=by
 unfold eW
 split
 ·rw[bD,fM]
  show 1+_<=_
  lia
 ·rw[fM];lia
theorem zyF{a:Nat}{od:Option Nat}(h1:(a_ a).length<=400)(h2:∀d,od=some d->(a_ d).length<=400):(jD g a od).length<=802:=by
 have:=Z8 g a;cases od with
 | none =>
  show(eW g a++⟨#[]⟩).length<=_
  rw[E_];lia
 | some d =>
  have:=h2 d rfl
  show(eW g a++(⟨#[47]⟩++aX d)).length<=_
  rw[bD,bD,fM]
  show _+(1+_)<=_
  lia
theorem Cj{b:Nat}(hl:(a_ b).length<=639)(q:Q (.int (ja g b)) H):oN [.str (eW g b)] H Q:=⟨g,b,rfl,hl,q⟩
theorem DQ(T:Txt w K mg a):aC P w K mg base aO 1 a.IH a.G2 sW (nR K):=by
 refine T.rJ.F.ok Mb ?_ ?_;wtm_at "b1"
 refine⟨_,(aj (aJ 1 Mb.nd (cq wI QW QX (show cf _ "str.partition" uQ from Lf) (pv 0) (aa ag af)))
     (ak (aB (cE (aa (d5 (show aM _ (.type "int") oN from OK) rfl T.h2h nh (aa (qi 1) af)) (aa (kq (o8 (qi 1)) (d5 (show aM _ (.type "int") oN from OK) rfl T.h2h nh (aa (qi 1) af)) aA) af)))))),?_⟩
 wtm_at "cl";rw[show start Oo [x0]=[some x0,none]from rfl];obtain⟨g,b,od,rfl,h1,h2,q⟩:=h;have z:2000<=wr:=by decide
 have l1:=zyF (g:=g) h1 h2;cases od with
 | none =>
   o_head fE ?_;o_head AE ⋯ () (Tg g b none) (λl H1 n1 S1 e1=>?_);o_head jm (.of e1) rfl ?_;o_head Cj () ?_;o_head jm (.of e1) rfl ?_;refine LJ ⋯ ?_;rw[show decide (Qt.length≠0)=false from rfl,if_neg ⋯];o_head eE (ds:=[.int (ja g b),.int 1]) ∅ (.cons (cC.mpr rfl) (.cons (cC.mpr rfl) .nil)) (λv H2 S2 i2=>?_);exact q v H2 (S1.trans S2) i2
 | some d =>
   have hd:=h2 d rfl;o_head fE ?_;o_head AE ⋯ () (Tg g b (some d)) (λl H1 n1 S1 e1=>?_);o_head jm (.of e1) rfl ?_;o_head Cj () ?_;o_head jm (.of e1) rfl ?_;have hn:=CT d;refine LJ (by rw[fM];lia) ?_;rw[show decide ((aX d).length≠0)=true from decide_eq_true (),if_pos rfl];o_head jm (.of e1) rfl ?_;o_head (show oN [.str (eW false d)] H1 _ from Cj () ?_);o_head eE (ds:=[.int (ja g b),.int (d:Int)]) ∅ (.cons (cC.mpr rfl) (.cons (cC.mpr rfl) .nil)) (λv H2 S2 i2=>?_);exact q v H2 (S1.trans S2) i2
def SI(K:wa):Sp:=λvs H Q _=>∃x0 x1,vs=[x0,x1] /\ ∃(x:wm)(m:Int),x0=.str x/\x1=.int m/\aW x/\x.length<=900/\m<=400/\Rq H Q (.bl (nT x m))
theorem Nb(ha:aW x)(hl:x.length<=900)(hm:m<=400)(q:Rq H Q (.bl (nT x m))):SI K [.str x,.int m] H Q E:=⟨_,_,rfl,x,m,rfl,rfl,ha,hl,hm,q⟩
theorem zvK{lo hi:Option Int}(h:aW x):aW (V4 x lo hi):=by
 unfold V4
 split
 ·exact h
 ·refine kz.mpr λc hc=>?_
  have hc:c∈((XC lo hi 1 x.length).filterMap (x.cps[·]?)):=hc;obtain⟨i,_,e⟩:=qI.mp hc;refine kz.mp h c ?_;rw[<- Qi]at e;exact vx e
theorem KQ(T:Txt w K mg a):aC P w K mg base aO 3 a.Gr a.FZ y9 (SI K):=by
 refine T.z8.F.ok zq ?_ ?_;wtm_at "b2"
 refine⟨_,(aj (aJ 2 zq.nd (cq wI Ws Wt (show cf _ "str.split" iT from lJ) (pv 0) (aa ag af)))
     (aj (aJ 3 zq.nd (kq (bI (cq wI PySem.F.slot_str_startswith PySem.F.type_str_startswith (show cf _ "str.startswith" Bs from zwi) (pv 0) (aa ag af))) (dP (show ic _ (sh K)from LX) (qi 2) (dZ aA) dQ) (qi 2)))
     (aj (bo (PW.pt (dh (en ki (cD K T.h2f (q1 2)) aA (cN _)) (eG (cc (bI (bH (show aM _ (.builtin "all") (h_ K)from jH rfl) rfl T.h1Y jG (aa (c_ rfl (cF ["part","most"] [none,some 1]) (eL (aG aN (cS (q1 3)) (dP (show ic _ (sh K)from LX) (pv 2) (dZ aA) dQ))) (λ_ _ _ _ _=>(cv 0)) (λ_ _ _ _ _=>cX) (λ_ _ _ _ _=>(av (zA (K:=K) (mg:=mg) (a:=a) T) hr T.og (q2 0 1)))) af))))))) (ak (aB dM)) bj)
     (aj (aJ 4 zq.nd (av (DQ T) hr T.rJ (q1 0)))
     (ak (aB (dA (av (m7 T) hr T.kT (q1 4)) (dD (iQ K hu (av (zx T) hr T.oi (q1 4)) (pv 0)))))))))),?_⟩
 wtm_at "cl";rw[show start OX [x0,x1]=[some x0,some x1,none,none,none]from rfl];obtain⟨x,m,rfl,rfl,ha,hl,hm,q⟩:=h;have z:2000<=wr:=by decide
 have few:=iP (x:=x) (s:="/") ⋯;have ne:=lW x "/";have pin:=λt h=>gK (x:=x) (s:="/") (t:=t) h
 o_head fE ?_;o_head lP ⋯ () () (λl H1 n1 S1 e1=>?_);have nok:∀b,kC x m=b->kC x m=b:=λ_ h=>h
 obtain⟨ps,hps⟩:∃ps,ps=wF x "/":=⟨_,rfl⟩;have eTop:cK x=if vD x "-"=true then V4 ((wF x "/").headD ⟨#[]⟩) (some 1) none else(wF x "/").headD ⟨#[]⟩:=rfl
 have ePok:kC x m=(decide ((wF x "/").length<=2)&&(cK x::(wF x "/").tail).all (wT · m)):=rfl;rw[<- hps]at e1 few ne pin eTop ePok
 obtain⟨p0,tl,rfl⟩:∃p0 tl,ps=p0::tl:=by
   cases ps with
   | nil=>exact absurd rfl ne
   | cons p0 tl=>exact⟨p0,tl,rfl⟩
 have hp0:=pin p0 ∅;rw[Qu]at eTop;rw[Vw]at ePok
 have aTop:aW (cK x)/\(cK x).length<=900:=by
   rw[eTop]
   split
   . exact⟨zvK (hp0.1 ha),w5 (Txt.slice_le p0 _ _) ()⟩
   . exact⟨hp0.1 ha,by lia⟩
 o_head fE ?_;o_head zwv ?_;k_few
 all_goals
   rename_i hg;refine dS (.of e1) (gm (j:=0) rfl) ?_
   first
     | (rw[if_pos hg]at eTop;o_head zC5 () ?_;rw[<- eTop])
     | (rw[if_neg (by rw[hg];decide)]at eTop;rw[<- eTop])
   o_head ⟨l,_,rfl,.inl (.of e1),?_⟩;rw[we];k_few
   . rename_i hc
     have e:nT x m=false:=by
       unfold nT;rw[ePok,decide_eq_false (),w8,w8]
     rw[e]at q;exact q _ S1
   rename_i hc;rw[decide_eq_true (show(p0::tl).length<=2 by lia),w9]at ePok;refine fj ∅ (λl2 H2 n2 S2 e2=>?_);o_head .inl (gE (.of (S2 _ _ e1)) (λl3 H3 n3 S3 e3=>?_));rw[wE,l0]at e3;k_few;rw[wQ]at hc;refine .inr (.inl ⟨_,_,_,_,rfl,rfl,S3 _ _ e2,e3,(by simp;lia),λl4 n4=>?_⟩);have S4:ae H3 (upd H3 l4 (.lst ([.str (cK x)]++tl.map V.str))):=ae.upd n4;have e4:(upd H3 l4 (.lst ([.str (cK x)]++tl.map V.str))) l4=some (.lst ((cK x::tl).map V.str)):=bW;generalize upd H3 l4 (.lst ([.str (cK x)]++tl.map V.str))=H4 at *;have T4:=S1.trans (S2.trans (S3.trans S4));o_head gq (.of e4) (o0:=none) (tl:=[some (.int m)]) rfl (λj y _=>y=.bl (wT ((cK x::tl).getD j ⟨#[]⟩) m)) ?_ ?_
   . intro D j y ys o H5 hx inv
     rw[wG]at hx;obtain⟨t,ht,rfl⟩:=vF.mp hx;have hj:=(wZ.mp ht).1;rw[wQ]at hj
     have at':aW t/\t.length<=900:=by
       rcases wz.mp (vx ht)with rfl | hm'
       . exact aTop
       . have:=pin t (wx _ hm')
         exact⟨this.1 ha,by lia⟩
     o_head uZ at'.1 () (λH6 S6=>?_);k_few;exact cY inv () (λ_ _ _ _ _ h=>h) ⟨_,rfl⟩ S6 (by rw[wk,ht];rfl)
   . intro D ys H5 n5 S5 e5 l5 r5
     have ey:ys=((cK x::tl).map (wT · m)).map V.bl:=by
       refine vv (by rw[l5];simp) λi h1 h2=>?_
       rw[r5 i ys[i] (wg h1)];rw[we,we]at h2;rw[vb,vb,wk,wg h2]
       rfl
     rw[ey]at e5;o_head hV (.of e5) ?_;rw[show((cK x::tl).map (wT · m)).all id=kC x m by rw[ePok,Wf];rfl];have T5:=T4.trans S5;k_few
     . rename_i hb
       have e:nT x m=false:=by unfold nT;rw[hb,w8]
       rw[e]at q;exact q _ T5
     . rename_i hb
       obtain⟨k1,k2,k3⟩:=Td hb;have hv:nR K [.str x] H5=nR K [.str (jD (vD x "-") (cb (cK x)) (dR x))] H5:=by rw[<- k1]
       rw[hv];refine EV () (λd hd=>by have:=k3 d hd;lia) (λv H6 S6 i6=>?_);have eN:nT x m=(eP (nZ x) (nD x)&&(aP (wR (nZ x) (nD x)) == x)):=by unfold nT;rw[hb,w9]
       rw[eN]at q;have i6:Is K H6 v (.tuple [.int (nZ x),.int (nD x)]):=i6;k_few
       . rename_i hn
         have hn:eP (nZ x) (nD x)=true:=hn;rw[hn,w9]at q;obtain⟨r,er1,er2⟩:=Cd hn;have er:wR (nZ x) (nD x)=r:=by rw[er1,er2,VS]
         have i6:Is K H6 v (N r):=by rw[er1,er2]at i6;exact i6
         rw[er]at q
         have fit:bR 400 r:=by
           refine⟨?_,?_⟩
           . have:r.num.natAbs=cb (cK x):=by rw[<- er1];unfold nZ ja;split<;>simp
             rw[this];lia
           . have hdn:r.den=(dR x).getD 1:=by
               have:(r.den:Int)=nD x:=er2.symm;unfold nD at this;lia
             rw[hdn];cases ho:dR x with
             | none =>
               show(a_ 1).length<=400
               rw[gF ⋯]
               decide
             | some d =>
               have:=k3 d ho
               show(a_ d).length<=400
               lia
         refine yo i6 fit ?_;o_head jF (zAE r) (dF ha) ?_;exact q _ (T5.trans S6)
       . rename_i hn
         have hn:eP (nZ x) (nD x)=false:=hn;rw[hn,w8]at q;exact q _ (T5.trans S6)
def Pe(K:wa)(a:Ad):Sp:=λvs H Q E=>∃x0,vs=[x0] /\ ∃(l:wc)(xs:List wm),x0=.ref l/\aI K H l (xs.map V.str)/\xs.length<=950/\(∀x∈xs,aW x/\x.length<=900)/\((xs.all (wT · 2)=false /\ ∀H',ae H H'->E (.ref a.bC) none H')\/(xs.all (wT · 2)=true/\Rs K H Q (TZ (xs.map λx=>((cb x:Nat):Int)))))
theorem zqO{l:wc}{xs:List wm}(h:aI K H l (xs.map V.str))(hl:xs.length<=950)(hf:∀x∈xs,aW x/\x.length<=900)(q1:xs.all (wT · 2)=false->∀H',ae H H'->E (.ref a.bC) none H')(q2:xs.all (wT · 2)=true->Rs K H Q (TZ (xs.map λx=>((cb x:Nat):Int)))):Pe K a [.ref l] H Q E:=by
 refine⟨_,rfl,l,xs,rfl,h,hl,hf,?_⟩;cases e:xs.all (wT · 2)with
 | false=>exact .inl ⟨rfl,q1 e⟩
 | true=>exact .inr ⟨rfl,q2 e⟩
theorem zqM(T:Txt w K mg a):aC P w K mg base (bQ P w) 2 a.Jb a.G4 sV (Pe K a):=by
 refine T.Hy.F.dO zpZ ?_ ?_;wtm_at "b1"
 refine⟨_,(aj (bo (cc (bI (bH (show aM _ (.builtin "all") (h_ K)from jH rfl) rfl T.h1Y jG (aa (c_ rfl (cF ["word"] [none]) (eL (pv 0)) (λ_ _ _ _ _=>(cv 0)) (λ_ _ _ _ _=>cX) (λ_ _ _ _ _=>(av (zA (K:=K) (mg:=mg) (a:=a) T) hr T.og (aa (pv 0) (aa (fI rfl T.Ux) af))))) af)))) (ak (ft T.kU rfl rfl T.j8 fC (aa ag af))) bj)
     (ak (aB (fZ K T.h1S (aa (c_ rfl (cF ["word"] [none]) (eL (pv 0)) (λ_ _ _ _ _=>(cv 0)) (λ_ _ _ _ _=>cX) (λ_ _ _ _ _=>(d5 (show aM _ (.type "int") j6 from sy) rfl T.h2h nh (q1 0)))) af))))),?_⟩
 wtm_at "cl";rw[show start B3 [x0]=[some x0]from rfl];obtain⟨l,xs,rfl,hs,hl,hz,hc⟩:=h;o_head gq hs (o0:=none) (tl:=[]) rfl (λj y _=>y=.bl (wT (xs.getD j ⟨#[]⟩) 2)) ?_ ?_
 . intro D j x ys o H1 hx inv
   rw[wG]at hx;obtain⟨t,ht,rfl⟩:=vF.mp hx;have hj:=(wZ.mp ht).1;obtain⟨b0,b1⟩:=hz t (vx ht);o_head uZ b0 () (λH2 S2=>?_);k_few;exact cY inv () (λ_ _ _ _ _ h=>h) ⟨_,rfl⟩ S2 (by rw[wk,ht];rfl)
 . intro D ys H1 n1 S1 e1 l1 r1
   have ey:ys=(xs.map (wT · 2)).map V.bl:=by
     refine vv (by rw[l1];simp) λi h1 h2=>?_
     rw[r1 i ys[i] (wg h1)];rw[we,we]at h2;rw[vb,vb,wk,wg h2]
     rfl
   rw[ey]at e1;o_head hV (.of e1) ?_;rw[show(xs.map (wT · 2)).all id=xs.all (wT · 2) by rw[Wf];rfl];rcases hc with⟨hb,q⟩ | ⟨hb,q⟩
   . rw[hb]
     k_few;exact⟨by simp;decide,q _ S1⟩
   . rw[hb]
     have hs1:=S1.seq hs;o_head gq hs1 (o0:=none) (tl:=[]) rfl (λj y _=>y=.int (((xs.map λx=>((cb x:Nat):Int))).getD j 0)) ?_ ?_
     . intro D j x ys o H2 hx inv
       rw[wG]at hx;obtain⟨t,ht,rfl⟩:=vF.mp hx;have hj:=(wZ.mp ht).1;obtain⟨k1,k2⟩:=nF (wH.mp hb t (vx ht));k_few;have hv:j6 [.str t] H2=j6 [.str (aX (cb t))] H2:=by rw[<- k1]
       rw[hv];refine Bo () ?_;k_few;exact cY inv () (λ_ _ _ _ _ h=>h) ⟨_,rfl⟩ (ae.refl _) (by rw[wk,wG,ht];rfl)
     . intro D2 ys2 H2 n2 S2 e2 l2 r2
       have ey2:ys2=(xs.map λx=>((cb x:Nat):Int)).map V.int:=by
         refine vv (by rw[l2];simp) λi h1 h2=>?_
         rw[r2 i ys2[i] (wg h1)];rw[we]at h2;rw[vb,wk,wg h2]
         rfl
       rw[ey2]at e2;o_head ml (.of e2) (λlt H3 n3 S3 e3=>?_);exact q _ _ (S1.trans (S2.trans S3)) (uV.mpr ⟨lt,rfl,.of e3⟩)
def aT(x:wm):Rat:=wR (nZ x) (nD x)
def Lc(K:wa)(a:Ad):Sp:=λvs H Q E=>∃x0 x1,vs=[x0,x1] /\ ∃(l:wc)(xs:List wm)(m:Int),x0=.ref l/\x1=.int m/\aI K H l (xs.map V.str)/\xs.length<=950/\(∀x∈xs,aW x/\x.length<=900)/\m<=400/\((xs.all (nT · m)=false /\ ∀H',ae H H'->E (.ref a.bC) none H')\/(xs.all (nT · m)=true/\Rs K H Q (TN (xs.map aT))))
theorem sI{l:wc}{xs:List wm}(h:aI K H l (xs.map V.str))(hl:xs.length<=950)(hf:∀x∈xs,aW x/\x.length<=900)(hm:m<=400)(q1:xs.all (nT · m)=false->∀H',ae H H'->E (.ref a.bC) none H')(q2:xs.all (nT · m)=true->Rs K H Q (TN (xs.map aT))):Lc K a [.ref l,.int m] H Q E:=by
 refine⟨_,_,rfl,l,xs,m,rfl,rfl,h,hl,hf,hm,?_⟩;cases e:xs.all (nT · m)with
 | false=>exact .inl ⟨rfl,q1 e⟩
 | true=>exact .inr ⟨rfl,q2 e⟩
theorem BB(h:nT x m=true):x=jD (vD x "-") (cb (cK x)) (dR x)/\((a_ (cb (cK x))).length:Int)<=m/\(∀d,dR x=some d->((a_ d).length:Int)<=m)/\(aT x).num=nZ x/\((aT x).den:Int)=nD x:=by
 unfold nT at h;rw[wy,wy]at h;obtain⟨k1,k2,k3⟩:=Td h.1;obtain⟨r,er1,er2⟩:=Cd h.2.1;have er:aT x=r:=by unfold aT;rw[er1,er2,VS]
 exact⟨k1,k2,k3,by rw[er,er1],by rw[er,er2]⟩
theorem uR(T:Txt w K mg a):aC P w K mg base (bQ P w) 4 a.Ig a.GP ye (Lc K a):=by
 refine T.oj.F.dO zog ?_ ?_;wtm_at "b2"
 refine⟨_,(aj (bo (cc (bI (bH (show aM _ (.builtin "all") (h_ K)from jH rfl) rfl T.h1Y jG (aa (c_ rfl (cF ["word","most"] [none,some 1]) (eL (pv 0)) (λ_ _ _ _ _=>(cv 0)) (λ_ _ _ _ _=>cX) (λ_ _ _ _ _=>(av (KQ (K:=K) (mg:=mg) (a:=a) T) hr T.z8 (q2 0 1)))) af)))) (ak (ft T.kU rfl rfl T.j8 fC (aa ag af))) bj)
     (ak (aB (fZ K T.h1S (aa (c_ rfl (cF ["word"] [none]) (eL (pv 0)) (λ_ _ _ _ _=>(cv 0)) (λ_ _ _ _ _=>cX) (λ_ _ _ _ _=>(av (DQ (K:=K) (mg:=mg) (a:=a) T) hr T.rJ (q1 0)))) af))))),?_⟩
 wtm_at "cl";rw[show start EC [x0,x1]=[some x0,some x1]from rfl];obtain⟨l,xs,m,rfl,rfl,hs,hl,hz,hm,hc⟩:=h;o_head gq hs (o0:=none) (tl:=[some (.int m)]) rfl (λj y _=>y=.bl (nT (xs.getD j ⟨#[]⟩) m)) ?_ ?_
 . intro D j x ys o H1 hx inv
   rw[wG]at hx;obtain⟨t,ht,rfl⟩:=vF.mp hx;have hj:=(wZ.mp ht).1;obtain⟨b0,b1⟩:=hz t (vx ht);o_head Nb b0 b1 hm (λH2 S2=>?_);k_few;exact cY inv () (λ_ _ _ _ _ h=>h) ⟨_,rfl⟩ S2 (by rw[wk,ht];rfl)
 . intro D ys H1 n1 S1 e1 l1 r1
   have ey:ys=(xs.map (nT · m)).map V.bl:=by
     refine vv (by rw[l1];simp) λi h1 h2=>?_
     rw[r1 i ys[i] (wg h1)];rw[we,we]at h2;rw[vb,vb,wk,wg h2]
     rfl
   rw[ey]at e1;o_head hV (.of e1) ?_;rw[show(xs.map (nT · m)).all id=xs.all (nT · m) by rw[Wf];rfl];rcases hc with⟨hb,q⟩ | ⟨hb,q⟩
   . rw[hb]
     k_few;exact⟨by simp;decide,q _ S1⟩
   . rw[hb]
     have hs1:=S1.seq hs;o_head gq hs1 (o0:=none) (tl:=[]) rfl (λj y H'=>Is K H' y (N ((xs.map aT).getD j 0))) ?_ ?_
     . intro D j x ys o H2 hx inv
       rw[wG]at hx;obtain⟨t,ht,rfl⟩:=vF.mp hx;have hj:=(wZ.mp ht).1;obtain⟨k1,k2,k3,k4,k5⟩:=BB (wH.mp hb t (vx ht));k_few;have hv:nR K [.str t] H2=nR K [.str (jD (vD t "-") (cb (cK t)) (dR t))] H2:=by rw[<- k1]
       rw[hv];refine EV () (λd hd=>by have:=k3 d hd;lia) (λv H3 S3 i3=>?_)
       have i3:Is K H3 v (N (aT t)):=by
         show Is K H3 v (.tuple [.int (aT t).num,.int ((aT t).den:Int)])
         rw[k4,k5];exact i3
       k_few;exact cY inv () (λ_ _ _ _ s h=>h.hX s) ⟨_,rfl⟩ S3 (by rw[wk,wG,ht];exact i3)
     . intro D2 ys2 H2 n2 S2 e2 l2 r2
       rw[we]at l2;o_head ml (.of e2) (λlt H3 n3 S3 e3=>?_);exact q _ _ (S1.trans (S2.trans S3)) (bX.mpr ⟨lt,ys2,rfl,.of e3,lC (by rw[l2,we]) λi x hx=>(r2 i x hx).by S3⟩)
def iB(K:wa)(H:Hp)(v:V):Prop:=∃d,Is K H v d/\l_ d=false
theorem iB.by{v:V}(s:ae H H')(h:iB K H v):iB K H' v:=let ⟨d,i,e⟩:=h;⟨d,i.by s,e⟩
def AU(K:wa)(a:Ad):Sp:=λvs H Q E=>∃x0 x1,vs=[x0,x1] /\ ∃y:wm,x1=.str y/\(y.length == 0)=false/\((iB K H x0 /\ ∀H',ae H H'->E (.ref a.bC) none H')\/(∃x:wm,x0=.str x/\x.length<=wr/\(wF x y).length<=wr /\ ∀l H',H l=none->ae H H'->H' l=some (.lst ((wF x y).map V.str))->Q (.ref l) H'))
theorem O2(hy:(y.length == 0)=false)(h1:x.length<=wr)(h2:(wF x y).length<=wr)(q:∀l H',H l=none->ae H H'->H' l=some (.lst ((wF x y).map V.str))->Q (.ref l) H'):AU K a [.str x,.str y] H Q E:=⟨_,_,rfl,y,rfl,hy,.inr ⟨x,rfl,h1,h2,q⟩⟩
theorem Tt{v:V}(hy:(y.length == 0)=false)(h:iB K H v)(q:∀H',ae H H'->E (.ref a.bC) none H'):AU K a [v,.str y] H Q E:=⟨_,_,rfl,y,rfl,hy,.inl ⟨h,q⟩⟩
theorem Pq(T:Txt w K mg a):aC P w K mg base (bQ P w) 1 a.Jp a.Ht u5 (AU K a):=by
 refine T.Al.F.dO zs2 ?_ ?_;wtm_at "b2";have hgd:=hr.gd
 refine⟨_,(aj (bo (cc (bI (bH (show aM _ (.builtin "isinstance") (dH K)from gW) rfl T.h1i dy (aa (pv 0) (aa (fz (v:=.ty "str") rfl T.h1Z gk rfl) af))))) (ak (ft T.kU rfl rfl T.j8 fC (aa ag af))) bj)
     (ak (aB (cq wI Ws Wt (show cf _ "str.split" iT from lJ) (pv 0) (q1 1))))),?_⟩
 wtm_at "cl";rw[show start Fw [x0,x1]=[some x0,some x1]from rfl];obtain⟨y,rfl,hy,h⟩:=h;rcases h with⟨⟨d,hi,hd⟩,q⟩ | ⟨x,rfl,h1,h2,q⟩
 . k_few
   refine yK hi ?_;rw[hd];k_few;exact⟨by simp;decide,q _ (ae.refl _)⟩
 . k_few
   refine yK (d:=.str x) (cP.mpr rfl) ?_;rw[show l_ (.str x)=true from rfl];o_head fE ?_;k_few;exact lP hy h1 h2 q
def Pn(H:Hp)(l:wc)(rows:List (List wm)):Prop:=∃as:List wc,H l=some (.lst (as.map V.ref))/\as.length=rows.length /\ ∀j a,as[j]? = some a->H a=some (.lst ((rows.getD j []).map V.str))
theorem RX:∀{ys:List V},(∀y∈ys,∃b,y=V.ref b)->∃as:List wc,ys=as.map V.ref
 | [],_=>⟨[],rfl⟩
 | y::r,h=>by
  obtain⟨b,rfl⟩:=h y ∅;obtain⟨as,rfl⟩:=RX (ys:=r) (λz hz=>h z (wx _ hz));exact⟨b::as,rfl⟩
def gH(x:wm):List (List wm):=(wF x "\n").map λy=>wF y " "
def Bx(K:wa)(a:Ad):Sp:=λvs H Q E=>∃x0,vs=[x0]/\((iB K H x0 /\ ∀H',ae H H'->E (.ref a.bC) none H') \/ ∃x:wm,x0=.str x/\x.length<=900 /\ ∀l H',ae H H'->Pn H' l (gH x)->Q (.ref l) H')
theorem zrY(h1:x.length<=900)(q:∀l H',ae H H'->Pn H' l (gH x)->Q (.ref l) H'):Bx K a [.str x] H Q E:=⟨_,rfl,.inr ⟨x,rfl,h1,q⟩⟩
theorem zqu{v:V}(h:iB K H v)(q:∀H',ae H H'->E (.ref a.bC) none H'):Bx K a [v] H Q E:=⟨_,rfl,.inl ⟨h,q⟩⟩
theorem zsX(T:Txt w K mg a):aC P w K mg base (bQ P w) 2 a.Jf a.Hv zY (Bx K a):=by
 refine T.Ik.F.dO zrw ?_ ?_;wtm_at "b1";refine⟨_,(ak (aB (c_ rfl (cF ["line"] [none]) (eL (eY (Pq T) hr T.Al dq (aa (pv 0) (aa ag af)))) (λ_ _ _ _ _=>(cv 0)) (λ_ _ _ _ _=>cX) (λ_ _ _ _ _=>(show PE _ _ (mM K _ iT _ _)from(cq wI Ws Wt (show cf _ "str.split" iT from lJ) (pv 0) (aa ag af))))))),?_⟩;wtm_at "cl";rw[show start Ee [x0]=[some x0]from rfl];rcases h with⟨hn,q⟩ | ⟨x,rfl,h1,q⟩
 ·k_few
  exact Tt ⋯ hn (λH' S=>q H' S)
 ·obtain⟨ls,e⟩:∃ls,wF x "\n"=ls:=⟨_,rfl⟩
  have few:=iP (x:=x) (s:="\n") ⋯
  have h3:∀y∈ls,y.length<=900/\(wF y " ").length<=901:=λy hy=>by
   have k:=(gK (x:=x) (s:="\n") (t:=y) (by rw[e];exact hy)).2;have:=iP (x:=y) (s:=" ") ⋯;exact⟨by lia,by lia⟩
  rw[e]at few;have eg:gH x=ls.map λy=>wF y " ":=by unfold gH;rw[e]
  rw[eg]at q;have z:1000<=wr:=by decide
  o_head O2 ⋯ () (by rw[e];lia) (λl H1 n1 S1 e1=>?_);rw[e]at e1;o_head nE (.of e1) (λD i ys σ' H'=>(∃o,σ'=[o])/\H1 D=none/\ae H1 H'/\H' D=some (.lst ys)/\ys.length=i /\ ∀j y,ys[j]? = some y->∃b,y=.ref b/\b≠D/\H' b=some (.lst ((wF (ls.getD j "") " ").map V.str))) ?_ ?_ ?_ ?_
  ·exact λD H' n s e=>⟨⟨none,rfl⟩,n,s,e,rfl,λj y z=>by simp at z⟩
  ·exact λD i ys σ' H' h=>.of (h.2.2.1 _ _ e1)
  ·rintro D i y ys σ' H' hy ⟨⟨o,rfl⟩,n,s,eD,el,r⟩
   rw[wG]at hy;obtain⟨y,hy2,rfl⟩:=vF.mp hy;have hj:i<ls.length:=(wZ.mp hy2).1;have ey:ls.getD i ""=y:=by rw[wk,hy2];rfl
   obtain⟨b1,b2⟩:=h3 y (vx hy2);o_head ⟨rfl,?_⟩;o_head lP ⋯ () () (λc H3 n3 S3 e3=>?_);have eD3:=S3 _ _ eD;refine kr eD3 () (λH6 E6 e6=>⟨⟨_,rfl⟩,n,(s.trans S3).grow n E6,e6,by simp[el],λj z hz=>?_⟩);rcases vt j ys.length with hl | hl
   ·rw[Ww hl]at hz
    obtain⟨b,rfl,nb,eb⟩:=r j z hz;exact⟨b,rfl,nb,E6 _ _ nb (S3 _ _ eb)⟩
   ·rw[WR hl]at hz
    obtain⟨hk,hz⟩:=wZ.mp hz;have hk0:j-ys.length=0:=by simp at hk;lia
    have hji:j=i:=by lia
    subst hji;have hz:z=.ref c:=by rw[<- hz];simp[hk0]
    have nc:c≠D:=λz=>by rw[z,eD]at n3;cases n3
    exact⟨c,hz,nc,by rw[ey];exact E6 _ _ nc e3⟩
  ·rintro D ys σ' H' ⟨_,n,s,eD,el,r⟩
   refine q D H' (S1.trans s) ?_;rw[we]at el
   have f:∀y∈ys,∃b,y=V.ref b:=λy hy=>by
    obtain⟨j,hj,rfl⟩:=xO.mp hy;obtain⟨b,hb,_⟩:=r j ys[j] (wg hj);exact⟨b,hb⟩
   obtain⟨as,rfl⟩:=RX f;refine⟨as,eD,by rw[we]at el ⊢;exact el,λj b hb=>?_⟩;obtain⟨b',h1,_,h2⟩:=r j (.ref b) (by rw[wG,hb];rfl);cases h1;rw[h2];have hj:j<ls.length:=by rw[<- el,we];exact(wZ.mp hb).1
   rw[wk,wk,wG,wg hj]
   rfl
def y8:List (List wm)->Nat
 | [r0,r1] =>
  if(decide (r0.length=3)&&(decide (2<=r1.length)&&((dE r0 == wb "rule")&&(dE r1 == wb "worms"))))=false then 1
  else if(r0.tail.all (nT · 60)&&r1.tail.all (nT · 60))=false then 1
  else match r0.tail.map aT with
   | [a,b]=>if fk a b=false then 2 else if(decide (r1.tail.length<=8)&&(r1.tail.map aT).all eJ)=false then 3 else 0
   | _=>1
 | _=>1
def fg(x:wm):Nat:=y8 (gH x)
theorem zC6{L:List (List wm)}(h:L.length≠2):y8 L=1:=by
 match L with
 | []=>rfl
 | [_]=>rfl
 | [_,_]=>exact absurd rfl h
 | _::_::_::_=>rfl
theorem zzt{a:Rat}(h:fk a b=true):cw a b:=by
 unfold fk lB lI at h;simp only[wy,V3,decide_eq_true_eq,decide_eq_false_iff_not]at h;have k:∀{p q:Rat},¬ p<q->q<=p:=λh=>W0.mp h
 refine⟨?_,?_,?_,?_,?_,?_,k h.2⟩<;>first | lia | grind
theorem zDz{x:Rat}(h:eJ x=true):di x:=by
 unfold eJ at h;simp only[wy,V3,decide_eq_true_eq,decide_eq_false_iff_not]at h;exact⟨W0.mp h.1,h.2.1,by lia⟩
theorem FD(h:nT x (k:Int)=true)(hk:1<=k):bR k (aT x):=by
 obtain⟨k1,k2,k3,k4,k5⟩:=BB h;refine⟨?_,?_⟩
 ·have:(aT x).num.natAbs=cb (cK x):=by rw[k4];unfold nZ ja;split<;>simp
  rw[this];lia
 ·have hdn:(aT x).den=(dR x).getD 1:=by unfold nD at k5;lia
  rw[hdn];cases ho:dR x with
  | none =>
   show(a_ 1).length<=k
   rw[gF ⋯];exact hk
  | some d =>
   have:=k3 d ho
   show(a_ d).length<=k
   lia
theorem Br(h:bR 60 r):ah 300 r:=by
 have f:∀{n:Nat},(a_ n).length<=60->n<2^300:=λ{n} h=>by
  have h1:=sP n;have h2:(10:Nat)^(a_ n).length<=10^60:=WZ ⋯ h;have h3:(10:Nat)^60<2^300:=by decide +kernel
  lia
 exact⟨⟨f h.n⟩,⟨by rw[VT];exact f h.d⟩⟩
def zob(K:wa)(a:Ad):Sp:=λvs H Q E=>∃x0,vs=[x0]/\((iB K H x0 /\ ∀H',ae H H'->E (.ref a.bC) none H') \/ ∃x:wm,x0=.str x/\aW x/\x.length<=900/\(fg x=1->∀H',ae H H'->E (.ref a.bC) none H')/\(fg x=2->∀H',ae H H'->E (.ref a.cG) none H')/\(fg x=3->∀H',ae H H'->E (.ref a.bM) none H')/\(fg x=0->∃r0 r1 ra rb,gH x=[r0,r1]/\r0.tail.map aT=[ra,rb]/\Rs K H Q (br ra rb (r1.tail.map aT))))
theorem YZ(T:Txt w K mg a):aC P w K mg base (bQ P w) 6 a.Ia a.GL t8 (zob K a):=by
 refine T.Hi.F.dO AR ?_ ?_;wtm_at "b1"
 refine⟨_,(aj (aJ 1 AR.nd (eY (zsX T) hr T.Ik dq (q1 0)))
     (aj (bo (PW.pt (dh (eM K hu (cD K T.h2f (q1 1)) aA) (dh (eM K hu (cD K T.h2f (aa (qi 1) af)) aA) (eG (en nJ (cD K T.h2f (aa (qi 1) af)) aA (cN _)))))) (ak (ft T.kU rfl rfl T.j8 fC (aa ag af))) bj)
     (aj (bo (PW.pt (dh (eM K hu (kD (qi 1)) ag) (eG (eM K hu (kD (qi 1)) ag)))) (ak (ft T.kU rfl rfl T.j8 fC (aa ag af))) bj)
     (aj (aJ 2 AR.nd (eY (uR T) hr T.oj dq (aa (dP eB (qi 1) (dZ aA) dQ) (aa (fI rfl T.F_) af))))
     (ak (aB (eY (zrB T) hr T.Ih dq (aa (pv 2) (aa (eY (uR T) hr T.oj dq (aa (dP eB (qi 1) (dZ aA) dQ) (aa (fI rfl T.F_) af))) af))))))))),?_⟩
 wtm_at "cl";rw[show start Rz [x0]=[some x0,none,none]from rfl];rcases h with⟨hn,q⟩ | ⟨x,rfl,ha,hl,q1,q2,q3,q0⟩
 . k_few
   exact zqu hn (λH' S=>q H' S)
 have z:4000<=wr:=by decide
 o_head zrY hl (λl H1 S1 L1=>?_)
 have rin:∀r∈gH x,∀y∈r,aW y/\y.length<=900:=λr hr y hy=>by
   obtain⟨t,ht,rfl⟩:=wU.mp hr;have k1:=gK ht;have k2:=gK hy;exact⟨k2.1 (k1.1 ha),by lia⟩
 have rlen:∀r∈gH x,r.length<=901/\r≠[]:=λr hr=>by
   obtain⟨t,ht,rfl⟩:=wU.mp hr;have k1:=gK ht;have:=iP (x:=t) (s:=" ") ⋯;exact⟨by lia,lW _ _⟩
 obtain⟨as,e1,n1,r1⟩:=L1;obtain⟨L,hL⟩:∃L,L=gH x:=⟨_,rfl⟩;have sw:fg x=y8 L:=by rw[hL];rfl
 rw[<- hL]at n1 r1 rin rlen q0;o_head ⟨l,_,rfl,.inl (.of e1),?_⟩;rw[we,n1];k_few
 . rename_i h2
   exact⟨by simp;decide,q1 (by rw[sw];exact zC6 ()) _ S1⟩
 rename_i h2
 obtain⟨r0,rr,rfl⟩:∃r0 rr,L=[r0,rr]:=by
   match L,h2 with
   | [r0,rr],_=>exact⟨r0,rr,rfl⟩
   | [],e=>simp at e
   | [_],e=>simp at e
   | _::_::_::_,e=>simp at e;lia
 obtain⟨a0,a1,rfl⟩:∃a0 a1,as=[a0,a1]:=by
   match as,n1 with
   | [a0,a1],_=>exact⟨a0,a1,rfl⟩
   | [],e=>simp at e
   | [_],e=>simp at e
   | _::_::_::_,e=>simp at e
 have g0:H1 a0=some (.lst (r0.map V.str)):=r1 0 a0 rfl;have g1:H1 a1=some (.lst (rr.map V.str)):=r1 1 a1 rfl
 obtain⟨w0,t0,rfl⟩:∃w0 t0,r0=w0::t0:=by
   have:=(rlen r0 ∅).2;cases r0 with
   | nil=>exact absurd rfl this
   | cons w0 t0=>exact⟨w0,t0,rfl⟩
 obtain⟨w1,t1,rfl⟩:∃w1 t1,rr=w1::t1:=by
   have:=(rlen rr ∅).2;cases rr with
   | nil=>exact absurd rfl this
   | cons w1 t1=>exact⟨w1,t1,rfl⟩
 have sw:fg x=if(decide ((w0::t0).length=3)&&(decide (2<=(w1::t1).length)&&((w0 == wb "rule")&&(w1 == wb "worms"))))=false then 1
   else if(t0.all (nT · 60)&&t1.all (nT · 60))=false then 1
   else match t0.map aT with
     | [a,b]=>if fk a b=false then 2 else if(decide (t1.length<=8)&&(t1.map aT).all eJ)=false then 3 else 0
     | _=>1:=by rw[sw];rfl
 have in0:=rin (w0::t0) ∅;have in1:=rin (w1::t1) ∅;have rl1:=(rlen (w1::t1) ∅).1;clear r1 n1 rin rlen h2;refine dS (.of e1) (gm (j:=0) rfl) ?_;o_head ⟨a0,_,rfl,.inl (.of g0),?_⟩;rw[we];k_few
 . rename_i h3
   exact⟨by simp;decide,q1 (by rw[sw,decide_eq_false ()];rfl) _ S1⟩
 rename_i h3;refine⟨a1,_,rfl,.inl (.of g1),?_⟩;rw[we];k_few
 . rename_i h4
   exact⟨by simp;decide,q1 (by rw[sw,decide_eq_true (show(w0::t0).length=3 by lia),decide_eq_false ()];rfl) _ S1⟩
 rename_i h4;rw[decide_eq_true (show(w0::t0).length=3 by lia),decide_eq_true (show 2<=(w1::t1).length by lia),w9,w9]at sw;refine dS (.of g0) (gm (j:=0) rfl) ?_;o_head kF (dF (in0 w0 ∅).1) (cZ _) ?_;cases hw0:(w0 == wb "rule")with
 | false =>
   rw[hw0,w8]at sw;k_few;exact⟨by simp;decide,q1 (by rw[sw];rfl) _ S1⟩
 | true =>
 rw[hw0,w9]at sw;o_head dS (.of g1) (gm (j:=0) rfl) ?_;o_head kF (dF (in1 w1 ∅).1) (cZ _) ?_;cases hw1:(w1 == wb "worms")with
 | false =>
   rw[hw1]at sw;k_few;exact⟨by simp;decide,q1 (by rw[sw];rfl) _ S1⟩
 | true =>
 rw[hw1,if_neg ⋯]at sw;o_head gE (.of g0) (λl3 H3 n3 S3 e3=>?_);rw[wE,l0]at e3;rw[wQ]at h3 h4 rl1;o_head sI (.of e3) () (λy hy=>in0 y (wx _ hy)) ⋯ (λhb H4 S4=>?_) (λhb vr H4 S4 i4=>?_)
 . exact q1 (by rw[sw,hb];rfl) _ (S1.trans (S3.trans S4))
 rw[hb,w9]at sw;have T4:=S3.trans S4;have g4:=T4 _ _ g1;have e4:=T4 _ _ e1;o_head gE (.of g4) (λl5 H5 n5 S5 e5=>?_);rw[wE,l0]at e5;o_head sI (.of e5) () (λy hy=>in1 y (wx _ hy)) ⋯ (λhb1 H6 S6=>?_) (λhb1 vp H6 S6 i6=>?_)
 . exact q1 (by rw[sw,hb1];rfl) _ (S1.trans (T4.trans (S5.trans S6)))
 rw[hb1,if_neg ⋯]at sw;have T6:=S5.trans S6;have U6:=S1.trans (T4.trans T6)
 obtain⟨u0,u1,rfl⟩:∃u0 u1,t0=[u0,u1]:=by
   match t0,h3 with
   | [u0,u1],_=>exact⟨u0,u1,rfl⟩
   | [],e=>simp at e
   | [_],e=>simp at e
   | _::_::_::_,e=>simp at e;lia
 have i46:Is K H6 vr (R (aT u0) (aT u1)):=i4.by T6;have sw:fg x=if fk (aT u0) (aT u1)=false then 2 else if(decide (t1.length<=8)&&(t1.map aT).all eJ)=false then 3 else 0:=sw
 have b0:=Br (FD (k:=60) (wH.mp hb u0 ∅) ⋯);have b1:=Br (FD (k:=60) (wH.mp hb u1 ∅) ⋯)
 have bp:∀e∈(t1.map aT).map N,∀y,e=N y->ah 4000 y:=λe he y hy=>by
   obtain⟨r,hr,rfl⟩:=wU.mp he;obtain⟨t,ht,rfl⟩:=wU.mp hr;rw[<- To hy];exact(Br (FD (k:=60) (wH.mp hb1 t ht) ⋯)).mono ⋯
 k_few;cases ho:fk (aT u0) (aT u1)with
 | false =>
   rw[ho,if_pos rfl]at sw;exact zq3 (.inr ⟨_,_,i46,b0.mono ⋯,b1.mono ⋯,ho⟩) (λH7 S7=>q2 sw _ (U6.trans S7))
 | true =>
   rw[ho,if_neg ⋯]at sw;have okr:cw (aT u0) (aT u1):=zzt ho;cases hp:(decide (t1.length<=8)&&(t1.map aT).all eJ)with
   | false =>
     rw[hp,if_pos rfl]at sw;refine zp1 i46 okr (.inr (.inl ⟨(t1.map aT).map N,.inr i6,bp,?_⟩)) (λH7 S7=>q3 sw _ (U6.trans S7));rw[we,we,decide_eq_true (show 1<=t1.length by lia),w9];rw[Wf,Wf]at *;rw[show(eQ ∘ N) ∘ aT=eJ ∘ aT by funext y;exact DU _];exact hp
   | true =>
     rw[hp,if_neg ⋯]at sw;rw[wy,decide_eq_true_eq]at hp;obtain⟨r0',r1',ra,rb,hL',hm',q⟩:=q0 sw;cases hL';cases hm';refine zsA i46 okr (.inr i6) (by rw[we];lia) (by rw[we];exact hp.1) (λy hy=>?_) (λv H7 S7 i7=>q v H7 (U6.trans S7) i7);exact zDz (wH.mp hp.2 y hy)
def eA(x:wm):Option (Rat × List Rat × List wu) :=
 match wF x " : " with
 | [p0,p1,p2] =>
  if(nT p0 x.length&&(wF p1 " ").all (nT · x.length))=false then none
  else if(p2 == wb "one") || ((p2 == wb "rests") || (p2 == wb "drawn"))then some (aT p0,(wF p1 " ").map aT,[.str p2])
  else if(wF p2 " ").all (wT · 2)=false then none
  else some (aT p0,(wF p1 " ").map aT,(wF p2 " ").map λy=>.int ((cb y:Nat):Int))
 | _=>none
def Th(K:wa)(a:Ad):Sp:=λvs H Q E=>∃x0,vs=[x0] /\ ∃x:wm,x0=.str x/\aW x/\x.length<=300/\(eA x=none->∀H',ae H H'->E (.ref a.bC) none H')/\(∀r,eA x=some r->Rs K H Q (dW r))
theorem zwf(ha:aW x)(hl:x.length<=300)(q1:eA x=none->∀H',ae H H'->E (.ref a.bC) none H')(q2:∀r,eA x=some r->Rs K H Q (dW r)):Th K a [.str x] H Q E:=⟨_,rfl,x,rfl,ha,hl,q1,q2⟩
theorem zAs(h:(wF x " : ").length≠3):eA x=none:=by
 unfold eA
 split
 ·rename_i e
  rw[e]at h;exact absurd rfl h
 ·rfl
theorem zzI(x:V)(xs:List V):fc (x::xs) none (some 1)=[x]:=by
 unfold fc;have e1:HT.aQ (x::xs).length 0 none=0:=by simp[HT.aQ]
 have e2:HT.aQ (x::xs).length (x::xs).length (some 1)=1:=by simp[HT.aQ]
 rw[e1,e2];simp
theorem Z7(x y z:V):fc [x,y,z] (some 2) none=[z]:=rfl
theorem zvI(T:Txt w K mg a):aC P w K mg base (bQ P w) 5 a.Kb a.IT zZ (Th K a):=by
 refine T.JC.F.dO pb ?_ ?_;wtm_at "b1"
 refine⟨_,(aj (aJ 1 pb.nd (cq wI Ws Wt (show cf _ "str.split" iT from lJ) (pv 0) (aa ag af)))
     (aj (bo (eM K hu (cD K T.h2f (q1 1)) aA) (ak (ft T.kU rfl rfl T.j8 fC (aa ag af))) bj)
     (aj (aJ 2 pb.nd (kD (eY (uR T) hr T.oj dq (aa (dP eB (pv 1) dQ (dZ aA)) (aa (bH (show aM _ (.builtin "len") rz from Dr) rfl T.h2f yn (q1 0)) af)))))
     (aj (aJ 3 pb.nd (eY (uR T) hr T.oj dq (aa (cq wI Ws Wt (show cf _ "str.split" iT from lJ) (qi 1) (aa ag af)) (aa (bH (show aM _ (.builtin "len") rz from Dr) rfl T.h2f yn (q1 0)) af))))
     (aj (aJ 4 pb.nd (kq (en (show aY _ (vk .In) (jL K)from q_ hu) (qi 1) (bZ (v:=.ref a.rS) rfl T.JV rfl) (by with_unfolding_all rfl)) (fZ K T.h1S (aa (dP eB (pv 1) (dZ aA) dQ) af)) (eY (zqM T) hr T.Hy dq (aa (cq wI Ws Wt (show cf _ "str.split" iT from lJ) (qi 1) (aa ag af)) af))))
     (ak (aB (aG (show aY _ (Wu .Add) (Ea K)from ZY) (cE (q2 2 3)) (pv 4))))))))),?_⟩
 wtm_at "cl";rw[show start OT [x0]=[some x0,none,none,none,none]from rfl];obtain⟨x,rfl,ha,hl,q1,q2⟩:=h;have z:10000<=wr:=by decide
 have few:=iP (x:=x) (s:=" : ") ⋯;have pin:=λt h=>gK (x:=x) (s:=" : ") (t:=t) h
 o_head fE ?_;o_head lP ⋯ () () (λl H1 n1 S1 e1=>?_);o_head ⟨l,_,rfl,.inl (.of e1),?_⟩;rw[we];k_few
 . rename_i h3
   exact⟨by simp;decide,q1 (zAs ()) _ S1⟩
 rename_i h3;have eg:eA x=eA x:=rfl
 conv at eg=>rhs;unfold eA
 obtain⟨ps,hps⟩:∃ps,ps=wF x " : ":=⟨_,rfl⟩;rw[<- hps]at e1 h3 pin
 obtain⟨p0,p1,p2,rfl⟩:∃p0 p1 p2,ps=[p0,p1,p2]:=by
   match ps,h3 with
   | [p0,p1,p2],_=>exact⟨p0,p1,p2,rfl⟩
   | [],e=>simp at e
   | [_],e=>simp at e
   | [_,_],e=>simp at e
   | _::_::_::_::_,e=>simp at e;lia
 have eg:eA x=if(nT p0 x.length&&(wF p1 " ").all (nT · x.length))=false then none
   else if(p2 == wb "one") || ((p2 == wb "rests") || (p2 == wb "drawn"))then some (aT p0,(wF p1 " ").map aT,[.str p2])
   else if(wF p2 " ").all (wT · 2)=false then none
   else some (aT p0,(wF p1 " ").map aT,(wF p2 " ").map λy=>.int ((cb y:Nat):Int)):=by
   unfold eA;rw[<- hps]
 have k0:=pin p0 ∅;have k1:=pin p1 ∅;have k2:=pin p2 ∅;simp only[wE,WQ]at e1;refine gE (.of e1) (λl2 H2 n2 S2 e2=>?_);rw[zzI]at e2;o_head En () ?_;o_head sI (xs:=[p0]) (.of e2) ∅ (λy hy=>by simp at hy;subst hy;exact⟨k0.1 ha,by lia⟩) () (λhb H3 S3=>?_) (λhb vh H3 S3 i3=>?_)
 . rw[W2,uB,QQ]at hb
   exact q1 (by rw[eg,hb];rfl) _ (S1.trans (S2.trans S3))
 rw[W2,uB,QQ]at hb;rw[hb,w9]at eg;o_head NF i3 ⋯ ∅ (λv4 i4=>?_);have i4:Is K H3 v4 (N (aT p0)):=i4;have T3:=S2.trans S3;have e3:=T3 _ _ e1;have f1:=iP (x:=p1) (s:=" ") ⋯;have f2:=iP (x:=p2) (s:=" ") ⋯;o_head fE ?_;o_head lP ⋯ () () (λl5 H5 n5 S5 e5=>?_);o_head En () ?_;o_head sI (.of e5) () (λy hy=>by have:=gK hy;exact⟨this.1 (k1.1 ha),by lia⟩) () (λhb1 H6 S6=>?_) (λhb1 vp H6 S6 i6=>?_)
 . exact q1 (by rw[eg,hb1];rfl) _ (S1.trans (T3.trans (S5.trans S6)))
 rw[hb1,if_neg ⋯]at eg;have T6:=S5.trans S6;have e6:=T6 _ _ e3;have i46:=i4.by T6;have U6:=S1.trans (T3.trans T6);o_head Od (T.JX _) (dF (k2.1 ha)) (λk hk=>?_)
 have hk:k=((p2 == wb "one") || ((p2 == wb "rests") || (p2 == wb "drawn"))):=by
   rw[Wy,hk];unfold p4;simp only[W1,beq_iff_eq]
 rw[<- hk]at eg;cases k with
 | false =>
   rw[if_neg ⋯]at eg;o_head fE ?_;o_head lP ⋯ () () (λl7 H7 n7 S7 e7=>?_);o_head zqO (.of e7) () (λy hy=>by have:=gK hy;exact⟨this.1 (k2.1 ha),by lia⟩) (λhb2 H8 S8=>?_) (λhb2 v8 H8 S8 i8=>?_)
   . exact q1 (by rw[eg,hb2];rfl) _ (U6.trans (S7.trans S8))
   rw[hb2,if_neg ⋯]at eg;k_few;have S8:=S7.trans S8;refine eE (ds:=[N (aT p0),TN ((wF p1 " ").map aT)]) ∅ (.cons (i46.by S8) (.cons (i6.by S8) .nil)) (λv9 H9 S9 i9=>?_);o_head RN i9 (i8.by S9) (by simp only[wQ,WO,we];lia) (λv10 H10 S10 i10=>?_);refine q2 _ eg v10 H10 (U6.trans (S8.trans (S9.trans S10))) ?_;rw[qO]at i10;exact i10
 | true =>
   rw[if_pos rfl]at eg;o_head gE (.of e6) (λl7 H7 n7 S7 e7=>?_);rw[Z7]at e7;o_head ml (.of e7) (λl8 H8 n8 S8 e8=>?_);k_few;have S8:=S7.trans S8;have i7:Is K H8 (.ref l8) (.tuple [.str p2]):=bX.mpr ⟨l8,_,rfl,.of e8,.cons (cP.mpr rfl) .nil⟩;refine eE (ds:=[N (aT p0),TN ((wF p1 " ").map aT)]) ∅ (.cons (i46.by S8) (.cons (i6.by S8) .nil)) (λv9 H9 S9 i9=>?_);o_head RN i9 (i7.by S9) (by simp only[wQ,WO];lia) (λv10 H10 S10 i10=>?_);exact q2 _ eg v10 H10 (U6.trans (S8.trans (S9.trans S10))) i10
def je(x:wm):List (Option gI):=(wF x "; ").map eA
def jK(x:wm):Bool:=(je x).all QY&&(decide ((((je x).filterMap id).headD (0,[],[])).2.1.length<=8)&&mX (((je x).filterMap id).headD (0,[],[])).2.1.length ((je x).filterMap id))
def zn8(K:wa)(a:Ad):Sp:=λvs H Q E=>∃x0,vs=[x0]/\((iB K H x0 /\ ∀H',ae H H'->E (.ref a.bC) none H') \/ ∃x:wm,x0=.str x/\aW x/\x.length<=300/\(jK x=false->∀H',ae H H'->E (.ref a.bC) none H')/\(jK x=true->Rs K H Q (.list (((je x).filterMap id).map dW))))
theorem zzS{r:gI}(ha:aW x)(hl:x.length<=300)(h:eA x=some r):r.Ok:=by
 unfold eA at h
 split at h
 ·rename_i p0 p1 p2 hs
  have k1:=gK (x:=x) (s:=" : ") (t:=p1) (by rw[hs];simp);have k2:=gK (x:=x) (s:=" : ") (t:=p2) (by rw[hs];simp);have f1:=iP (x:=p1) (s:=" ") ⋯
  split at h
  ·cases h
  ·split at h
   ·cases h
    refine⟨by show((wF p1 " ").map aT).length<=950;rw[we];lia,λe he=>.inl ⟨p2,?_,dF (k2.1 ha)⟩⟩;exact wY.mp he
   ·split at h
    ·cases h
    ·cases h
     refine⟨by show((wF p1 " ").map aT).length<=950;rw[we];lia,λe he=>.inr ?_⟩;obtain⟨y,_,rfl⟩:=wU.mp he;exact⟨_,rfl⟩
 ·cases h
theorem Tn:∀{es:List wu},(∀e∈es,(∃w,e=.str w/\vM w=true) \/ ∃z,e=.int z)->aU es=true
 | [],_=>by simp[aU]
 | x::xs,h=>by
  have hx:bJ x=true:=by
   rcases h x ∅with⟨w,rfl,_⟩ | ⟨z,rfl⟩<;>simp[bJ]
  rw[aU,hx,Tn λe he=>h e (wx _ he)];rfl
theorem RH{r:gI}(h:r.Ok):bJ (dW r)=true:=by
 unfold dW;rw[bJ,aU,aU,eX,R9,Tn h.e];rfl
theorem Sy:∀{rs:List gI},(∀r∈rs,r.Ok)->aU (rs.map dW)=true
 | [],_=>by simp[aU]
 | x::xs,h=>by rw[wE,aU,RH (h x ∅),Sy λr hr=>h r (wx _ hr)];rfl
theorem Pj{α : Type} : ∀rs:List α,(rs.map some).filterMap id=rs
 | []=>rfl
 | x::r=>by rw[wE,List.filterMap_cons_some (by rfl),Pj r]
theorem zoy(T:Txt w K mg a):aC P w K mg base (bQ P w) 6 a.Io a.GR uO (zn8 K a):=by
 refine T.G9.F.dO Fp ?_ ?_;wtm_at "b1"
 refine⟨_,(aj (zs0 (i:=1) Fp.nd rfl (Or.inl rfl) rfl rfl rfl zEh rfl (cF ["part"] [none]) (eL (eY (Pq T) hr T.Al dq (aa (pv 0) (aa ag af)))) (λ_ _ _ _ _=>(cv 0)) (λ_ _ _ _ _=>cX) (λ_ _ _ _ _ _ _ hp=>by exact(eY (zvI (K:=K) (mg:=mg) (a:=a) T) hr T.JC hp (q1 0))))
     (aj (aJ 2 Fp.nd (cD K T.h2f (aa (kD (qi 1)) af)))
     (aj (bo (PW.pt (dh (en ki (pv 2) (fI rfl T.Hn) (cN _)) (eG (cc (bI (av (zrs T) hr T.IC (q2 1 2))))))) (ak (ft T.kU rfl rfl T.j8 fC (aa ag af))) bj)
     (ak (aB (pv 1)))))),?_⟩
 wtm_at "cl";rw[show start Kz [x0]=[some x0,none,none]from rfl];rcases h with⟨hn,q⟩ | ⟨x,rfl,ha,hl,q1,q2⟩
 . k_few
   exact Tt ⋯ hn (λH' S=>q H' S)
 have z:4000<=wr:=by decide
 have few:=iP (x:=x) (s:="; ") ⋯;o_head O2 ⋯ () () (λl1 H1 n1 S1 e1=>?_);k_few;obtain⟨ps,hps⟩:∃ps,ps=wF x "; ":=⟨_,rfl⟩
 have pin:∀y∈ps,aW y/\y.length<=300:=λy hy=>by
   have:=gK (x:=x) (s:="; ") (t:=y) (by rw[<- hps];exact hy);exact⟨this.1 ha,by lia⟩
 have pne:ps≠[]:=by rw[hps];exact lW _ _
 have hrp:je x=ps.map eA:=by rw[hps];rfl
 rw[<- hps]at e1 few;refine nE (.of e1) (λD i ys σ' H'=>(∃o,σ'=[o])/\H1 D=none/\ae H1 H'/\H' D=some (.lst ys)/\ys.length=i /\ ∃rs:List gI,(ps.take i).map eA=rs.map some/\(∀r∈rs,r.Ok)/\aq K H' ys (rs.map dW)) ?_ ?_ ?_ ?_
 . exact λD H' n s e=>⟨⟨none,rfl⟩,n,s,e,rfl,[],rfl,(λr hr=>by cases hr),.nil⟩
 . exact λD i ys σ' H' h=>.of (h.2.2.1 _ _ e1)
 . rintro D i y ys σ' H' hy ⟨⟨o,rfl⟩,n,s,eD,ey,rs,er,ok,r⟩
   rw[wG]at hy;obtain⟨y,hy2,rfl⟩:=vF.mp hy;have hj:i<ps.length:=(wZ.mp hy2).1;have my:=vx hy2;o_head zwf (pin y my).1 (pin y my).2 (λhn H4 S4=>?_) (λrr hr v H4 S4 i4=>?_)
   . refine q1 ?_ _ (S1.trans (s.trans S4))
     have:(je x).all QY=false:=by
       cases hh:(je x).all QY with
       | false=>rfl
       | true =>
         have:=wH.mp hh (eA y) (by rw[hrp];exact wU.mpr ⟨y,my,rfl⟩);rw[hn]at this;cases this
     unfold jK;rw[this];rfl
   have okr:=zzS (pin y my).1 (pin y my).2 hr;have eD4:=S4 _ _ eD;refine kr eD4 () (λH6 E6 e6=>⟨⟨_,rfl⟩,n,(s.trans S4).grow n E6,e6,by simp;lia,rs++[rr],?_,λr hr=>?_,?_⟩)
   . rw[Q2,hy2,vJ,er,vJ]
     show _++[eA y]=_
     rw[hr];rfl
   . rcases vR.mp hr with h | h
     . exact ok r h
     . rw[wY.mp h];exact okr
   . rw[vJ]
     exact aq.snoc (aq.keep (E6.keep eD4) _ _ (Sy ok) (aq.same S4 _ _ r)) (i4.cJ (E6.keep eD4) (RH okr))
 . rintro D ys σ' H' ⟨_,n,s,eD,ey,rs,er,ok,r⟩
   rw[show ps.take (ps.map V.str).length=ps by rw[we,WT]]at er;have efm:(je x).filterMap id=rs:=by rw[hrp,er,Pj]
   have eal:(je x).all QY=true:=by rw[hrp,er,Wf];exact wH.mpr λ_ _=>rfl
   unfold jK at q1 q2;rw[eal,w9,efm]at q1 q2;have rlen:rs.length<=301:=by have:=congrArg List.length er;rw[we,we]at this;lia
   obtain⟨r0,bF,rfl⟩:∃r0 bF,rs=r0::bF:=by
     cases rs with
     | nil=>exact absurd (x8.mp er) pne
     | cons r0 bF=>exact⟨r0,bF,rfl⟩
   rw[Qu]at q1 q2;have ok0:=ok r0 ∅;have T1:=S1.trans s;have ir:Is K H' (.ref D) (.list ((r0::bF).map dW)):=cR.mpr ⟨D,ys,rfl,.of eD,r⟩;o_head zAA (j:=0) (d:=dW r0) ir rfl (λv3 i3=>?_);o_head bz (j:=1) (ds:=N r0.1::TN r0.2.1::r0.2.2) i3 rfl (λv4 i4=>?_);o_head mh i4 ?_;k_few
   . rename_i e
     exact⟨by simp;decide,q1 (by rw[decide_eq_false ()];rfl) _ T1⟩
   rename_i e;rw[decide_eq_true (show r0.2.1.length<=8 by lia),w9]at q1 q2;refine zrA ir ok () (λH3 S3=>?_);cases hp:mX r0.2.1.length (r0::bF)with
   | false =>
     k_few;exact⟨by simp;decide,q1 hp _ (T1.trans S3)⟩
   | true =>
     k_few;exact q2 hp _ _ (T1.trans S3) (ir.by S3)
def M6(K:wa):Sp:=λvs H Q _=>∃x0,vs=[x0] /\ ∃ws:List Nat,Is K H x0 (TW ws)/\ws.length<=8/\(∀w∈ws,w<100) /\ ∀y H',y.length<=40->ae H H'->Q (.str y) H'
theorem zmE{ws:List Nat}{v:V}(h:Is K H v (TW ws))(hl:ws.length<=8)(hw:∀w∈ws,w<100)(q:∀y H',y.length<=40->ae H H'->Q (.str y) H'):M6 K [v] H Q E:=⟨_,rfl,ws,h,hl,hw,q⟩
theorem zni(T:Txt w K mg a):aC P w K mg base aO 1 a.Hq a.Gj tO (M6 K):=by
 refine T.GI.F.ok zmU ?_ ?_;wtm_at "b1";have hgd:=hr.gd;refine⟨_,(ak (aB (cq wI vf vg (show cf _ "str.join" (dr K)from fe) ag (aa (c_ rfl (cF ["worm"] [none]) (lE (pv 0)) (λ_ _ _ _ _=>(cv 0)) (λ_ _ _ _ _=>cX) (λ_ _ _ _ _=>(d5 (show aM _ (.type "str") gn from iZ) rfl T.h1Z gk (q1 0)))) af)))),?_⟩;wtm_at "cl";rw[show start Fu [x0]=[some x0]from rfl];obtain⟨ws,hx,hl,hw,q⟩:=h;have hz:Is K H x0 (TZ (ws.map λw:Nat=>(w:Int))):=hx;obtain⟨a1,rfl,hs⟩:=uV.mp hz;o_head fE ?_;o_head kn hs (o0:=none) (tl:=[]) rfl (λj y _=>y=.str (zS ((ws.getD j 0:Nat):Int))) ?_ ?_
 ·intro D j x ys o H1 hx inv
  obtain⟨hj,rfl⟩:=ZC hx;rw[we]at hj;have b1:=hw _ (getD_mem (d:=0) hj);rw[show(ws.map λw:Nat=>(w:Int)).getD j 0=((ws.getD j 0:Nat):Int) by simp[wk,wg hj]];o_head j2 (by have:=sf (show(((ws.getD j 0:Nat):Int)).natAbs<1000000 by lia);lia) ?_;rw[zEC ()];k_few;exact cY inv () (λ_ _ _ _ _ h=>h) ⟨_,rfl⟩ (ae.refl _) rfl
 ·intro D ys H1 n1 S1 e1 l1 r1
  have ey:ys=(ws.map λw:Nat=>zS (w:Int)).map V.str:=by
   refine vv (by rw[l1];simp) λi h1 h2=>?_
   rw[r1 i ys[i] (wg h1)];rw[we,we]at h2;simp[wk,wg h2]
  rw[ey]at e1
  have hB:∀y∈ws.map λw:Nat=>zS (w:Int),y.length<=2:=λy hy=>by
   obtain⟨z,hz',rfl⟩:=wU.mp hy;have:=hw z hz';exact zBX () ()
  have c1:(wb ",").length=1:=by decide
  o_head pI (B:=2) (.of e1) hB ?_ (q _ _ ?_ S1)
  ·rw[we,c1];lia
  ·have:=pj (x:=",") hB
   rw[we,c1]at this;lia
theorem KR{n:Nat}{a b:Rat} : ∀(m:Nat){ps:List Rat}{left:List Nat},left.length<=n->(∀x∈left,x<n)->(dX a b m ps left).1.length<=m /\ ∀w∈(dX a b m ps left).1,w.length<=n /\ ∀x∈w,x<n
 | 0,ps,left,_,_=>⟨wo _,λw hw=>by cases hw⟩
 | m+1,ps,left,h,k=>by
  by_cases z:aF ps left=[]
  ·rw[oP z]
   exact⟨by simp,λw hw=>by cases hw⟩
  ·rw[pC z]
   obtain⟨i1,i2⟩:=KR m (a:=a) (b:=b) (ps:=dg (a^(aF ps left).length) (cx a b (aF ps left).length) ps (cA left (aF ps left))) (left:=cA left (aF ps left)) (w5 (WF _ _) h) (λx hx=>k x ((Wv.mp hx).1));refine⟨by rw[wQ];lia,λw hw'=>?_⟩;rcases wz.mp hw' with rfl | hw'
   ·exact⟨w5 (WF _ _) h,λx hx=>k x ((Wv.mp hx).1)⟩
   ·exact i2 w hw'
theorem zAL(a b:Rat)(xs:List Rat):(j7 a b xs).length<=xs.length /\ ∀w∈j7 a b xs,w.length<=xs.length /\ ∀x∈w,x<xs.length:=KR _ ∅ (λx hx=>Wq.mp hx)
theorem rB{B:Nat} : ∀{ys:List V},(∀y∈ys,∃t:wm,y=.str t/\t.length<=B)->∃ts:List wm,ys=ts.map V.str /\ ∀t∈ts,t.length<=B
 | [],_=>⟨[],rfl,λ_ h=>nomatch h⟩
 | y::ys,h=>by
  obtain⟨t,rfl,ht⟩:=h y (wV ..);obtain⟨ts,rfl,hts⟩:=rB λy hy=>h y (wx _ hy)
  exact⟨t::ts,rfl,xN.mpr ⟨ht,hts⟩⟩
theorem CP(h:ah 1010 r):bR 400 r:=by
 have e:(2:Nat)^1010<10^400:=by decide +kernel
 exact bR.of ⋯ (Qn h.t.lt e) (Qn (by have:=h.b.lt;rwa[VT]at this) e)
def KD(K:wa):Sp:=λvs H Q _=>∃x0 x1,vs=[x0,x1] /\ ∃(ra rb:Rat)(xs:List Rat)(m:Nat),Is K H x0 (br ra rb xs)/\ah 10 ra/\ah 10 rb/\1<=xs.length/\xs.length<=8/\Cm m xs/\m+2+21*xs.length<=1000 /\ ∀v y H',ae H H'->Is K H' v (.tuple [.str y,N (1-bO xs),br ra rb (eC ra rb xs)])->Q v H'
theorem zt3{m:Nat}{v w:V}(h:Is K H v (br ra rb xs))(ba:ah 10 ra)(bb:ah 10 rb)(h1:1<=xs.length)(h8:xs.length<=8)(c:Cm m xs)(hm:m+2+21*xs.length<=1000)(q:∀v y H',ae H H'->Is K H' v (.tuple [.str y,N (1-bO xs),br ra rb (eC ra rb xs)])->Q v H'):KD K [v,w] H Q E:=⟨_,_,rfl,ra,rb,xs,m,h,ba,bb,h1,h8,c,hm,q⟩
theorem ztg(T:Txt w K mg a):aC P w K mg base aO 5 a.rW a.Il yC (KD K):=by
 refine T.Ap.F.ok zv ?_ ?_;wtm_at "b2"
 refine⟨_,(aj (aJ 2 zv.nd (av (zA4 T) hr T.J5 (q1 0)))
     (aj (aJ 3 zv.nd (av (zx T) hr T.oi (aa (qi 2) af)))
     (aj (aJ 4 zv.nd (cq wI vf vg (show cf _ "str.join" (dr K)from fe) ag (aa (c_ rfl (cF ["wave"] [none]) (lE (qi 2)) (λ_ _ _ _ _=>(cv 0)) (λ_ _ _ _ _=>cX) (λ_ _ _ _ _=>(av (zni (K:=K) (mg:=mg) (a:=a) T) hr T.GI (q1 0)))) af)))
     (ak (aB (cE (aa (EU (nz (pv 3) (yr (nz (pv 4) Bq)))) (aa (qi 2) (aa (qi 2) af))))))))),?_⟩
 wtm_at "cl";rw[show start Mu [x0,x1]=[some x0,some x1,none,none,none]from rfl];obtain⟨ra,rb,xs,m,hx,ba,bb,h1,h8,c,hm,q⟩:=h;obtain⟨g1,g2⟩:=zAL ra rb xs;have bm:ah 1010 (1-bO xs):=(ah.one.sub (c.jP (km h1))).mono ();o_head zz3 hx ba bb h1 h8 c () (λv1 H1 S1 i1=>?_);o_head bz (j:=0) i1 rfl (λv2 i2=>?_);o_head yo i2 (CP bm) ?_;have l1:=tM (CP bm);o_head fE ?_;o_head bz (j:=1) i1 rfl (λv3 i3=>?_);obtain⟨ap,us,rfl,hu,tu⟩:=bX.mp i3;have hul:=tu.length;rw[we]at hul;o_head kn hu (o0:=none) (tl:=[]) rfl (λj y _=>∃t:wm,y=.str t/\t.length<=40) ?_ ?_
 . intro D j x ys o H2 hx' inv
   obtain⟨hj,ix⟩:=ke tu hx';rw[we]at hj;rw[show((j7 ra rb xs).map TW).getD j .none=TW ((j7 ra rb xs).getD j []) by simp[wk,wg hj]]at ix;obtain⟨w1,w2⟩:=g2 _ (show(j7 ra rb xs).getD j []∈j7 ra rb xs by rw[wk,wg hj];exact Wi hj);have ix2:=ix.by inv.same;o_head zmE ix2 () (λx hx=>by have:=w2 x hx;lia) (λy H3 yl S3=>?_);k_few;exact cY inv () (λ_ _ _ _ _ h=>h) ⟨_,rfl⟩ S3 ⟨y,rfl,yl⟩
 . intro D ys H2 n2 S2 e2 l2 r2
   obtain⟨ts,rfl,ht⟩:=rB (B:=40) (λy hy=>by
     obtain⟨j,hj,e⟩:=xO.mp hy;exact r2 j y (by rw[wg hj,e]))
   rw[we]at l2;have c3:(wb " / ").length=3:=by decide
   have c1:(wb " ").length=1:=by decide
   have jl:=pj (x:=" / ") ht;rw[c3]at jl;have z:4000<=wr:=by decide
   have jl2:ts.length*(40+3)<=8*43:=Vs _ ();o_head pI (B:=40) (.of e2) ht (by rw[c3];lia) ?_;generalize qj (wb " / ") ts=jt at *;have i1':=i1.by S2;o_head A3 (mZ ?_);o_head ⟨_,rfl,by lia,by rw[kl];lia,w_ (by rw[kl,bD,c1];lia) (mZ ?_)⟩;rw[kl];o_head ⟨_,rfl,by lia,by rw[bD,bD,c1];lia,EE (by rw[bD,bD,c1];lia) ?_⟩;o_head bz (j:=0) i1' rfl (λv4 i4=>?_);o_head bz (j:=2) i1' rfl (λv5 i5=>?_);refine eE (ds:=[.str _,N (1-bO xs),br ra rb (eC ra rb xs)]) ∅ (.cons (cP.mpr rfl) (.cons i4 (.cons i5 .nil))) (λv H3 S3 i=>?_);exact q v _ H3 (S1.trans (S2.trans S3)) i
def u6(x:wm):Bool:=wT x 2&&decide (((cb x:Nat):Int)<=40)
def BK(f:wm):Bool:=(f == wb "swarm") || ((f == wb "flocks") || ((f == wb "fate") || ((f == wb "free") || ((f == wb "still") || (f == wb "paper")))))
def uX(f:wm):Bool:=(f == wb "glow") || ((f == wb "back") || (f == wb "hour"))
def jh(f:wm)(ws:List wm)(n:Nat):Bool :=
 if(f == wb "glows")=true then decide (ws.length=1)&&u6 (dE ws)
 else if(f == wb "move")=true then decide (ws.length=1)&&nT (dE ws) 6
 else if(f == wb "exchange")=true then decide (ws.length=n)&&ws.all (wT · 1)
 else if(f == wb "look")=true then decide (0<ws.length)
 else ws.isEmpty&&(uX f || BK f)
def Ms(f:wm):Bool:=(f == wb "glow") || ((f == wb "glows") || ((f == wb "move") || (f == wb "exchange")))
def gS(ws:List wm):List Int:=ws.map λx=>((cb x:Nat):Int)
def hW(n:Nat)(x:wm):Nat:=match wF x " " with
 | []=>0
 | f::ws =>
  if jh f ws n=false then 1
  else if(f == wb "move")=true then if(decide (nZ (dE ws)<0) || decide (nD (dE ws)<=nZ (dE ws)))=true then 3 else 0
  else if(f == wb "exchange")=true then if decide ((gS ws).Perm (eh n))=true then 0 else 3
  else if(f == wb "look")=true then if(!jK (vA x " ").2.2&&((vA x " ").2.2.cps.all (· < 128)&&decide ((vA x " ").2.2.length<=300)))=true then 2 else 0
  else 0
def fU(K:wa)(H:Hp)(v:V):Prop:=iB K H v \/ ∃p kvs,v=.ref p/\H p=some (.dK kvs)
theorem fU.by{v:V}(s:ae H H')(h:fU K H v):fU K H' v:=by
 rcases h with h | ⟨p,kvs,e,h⟩
 ·exact .inl (h.by s)
 ·exact .inr ⟨p,kvs,e,s _ _ h⟩
def sD(K:wa)(a:Ad)(H:Hp)(xs:List Rat)(past:List (Rat × List Rat))(v:V)(C:wc):Prop :=
 (fU K H v/\C=a.cI) \/ ∃x:wm,v=.str x/\aW x/\x.length<=300/\(hW xs.length x=1/\C=a.cI\/hW xs.length x=2/\C=a.bC\/hW xs.length x=3/\C=a.bM \/
  x=wb "back"/\past=[]/\C=a.cH\/(x=wb "free"\/x=wb "still") /\ ¬ 0∈xs/\C=a.cu)
def gx(ra rb:Rat)(past:List (Rat × List Rat)):List wu:=past.map λp=>.tuple [N p.1,br ra rb p.2]
structure M0(K:wa)(H:Hp)(C o l:wc)(ra rb:Rat)(xs:List Rat)(t:Rat)(past:List (Rat × List Rat))(dx:wc)(vs vh:V)(ps:List V):Prop where
 e:H o=some (.ins C dx [("swarm",vs),("hour",vh),("past",.ref l)])
 s:Is K H vs (br ra rb xs)
 h:Is K H vh (N t)
 l:H l=some (.lst ps)
 p:aq K H ps (gx ra rb past)
def cz(K:wa)(H:Hp)(C o l:wc)(ra rb:Rat)(xs:List Rat)(t:Rat)(past:List (Rat × List Rat)):Prop:=∃dx vs vh ps,M0 K H C o l ra rb xs t past dx vs vh ps
abbrev lT(vs vh p:V):List (wm × V):=[("swarm",vs),("hour",vh),("past",p)]
theorem OY(v vs vh p:V):cy "swarm" v (lT vs vh p)=lT v vh p:=by
 unfold lT;rw[cy,if_pos rfl]
theorem N6(v vs vh p:V):cy "hour" v (lT vs vh p)=lT vs v p:=by
 unfold lT;rw[cy,if_neg ⋯,cy,if_pos rfl]
theorem zzV(v vs:V):cy "hour" v [("swarm",vs)]=[((wb "swarm"),vs),((wb "hour"),v)]:=by
 rw[cy,if_neg ⋯]
 rfl
theorem zvJ(v vs vh:V):cy "past" v [("swarm",vs),("hour",vh)]=lT vs vh v:=by
 rw[cy,if_neg ⋯,cy,if_neg ⋯]
 rfl
def fN(o l:wc)(H H':Hp):Prop:=∀b x,b≠o->b≠l->H b=some x->H' b=some x
theorem rl(ra rb:Rat):∀past:List (Rat × List Rat),aU (gx ra rb past)=true
 | []=>by simp[gx,aU]
 | p::r=>by
  have ih:=rl ra rb r;unfold gx at ih ⊢;rw[wE,aU,bJ,aU,aU,eX,d8,ih];rfl
section
variable{K:wa}{H H' H2:Hp}{C o l p:wc}{ra rb t:Rat}{xs:List Rat}{past:List (Rat × List Rat)}
theorem cz.by(h:cz K H C o l ra rb xs t past)(s:ae H H'):cz K H' C o l ra rb xs t past:=by
 obtain⟨dx,vs,vh,ps,h1,h2,h3,h4,h5⟩:=h;exact⟨dx,vs,vh,ps,s _ _ h1,h2.by s,h3.by s,s _ _ h4,aq.same s _ _ h5⟩
theorem cz.keep(h:cz K H C o l ra rb xs t past)(s:fN o l H H'):aZ H H':=by
 obtain⟨dx,vs,vh,ps,h1,_,_,h4,_⟩:=h;exact⟨λb ys hb=>s b _ (λz=>by rw[z,h1]at hb;cases hb) (λz=>by rw[z,h4]at hb;cases hb) hb,λb o' u hb=>s b _ (λz=>by rw[z,h1]at hb;cases hb) (λz=>by rw[z,h4]at hb;cases hb) hb⟩
theorem fN.trans(a:fN o l H H')(b:fN o l H' H2):fN o l H H2:=λc x n m h=>b c x n m (a c x n m h)
theorem ae.Si(s:ae H H'):fN o l H H':=λb x _ _ h=>s b x h
end
variable{H H':Hp}{Q:VK}{E:XK}{b r ra rb t:Rat}{xs:List Rat}{C l ld lg o:wc}{ts ws:List wm}{d f x y:wm}{i j n:Nat}{k m:Int}{past:List (Rat × List Rat)}{σ:L2.St}{tb:TE}{sep:String}
theorem CQ(z:wm):∀kvs:List (wm × wc),(kvs.lookup z).isSome=kvs.any λp=>z == p.1
 | []=>rfl
 | (y,b)::kvs=>by
  rw[Va,W3];cases h:(z == y)
  ·rw[xS];exact CQ z kvs
  ·rfl
def P_(K:wa)(a:Ad):Sp:=λvs H Q E=>∃x0 x1,vs=[x0,x1] /\ ∃(ra rb:Rat)(xs:List Rat)(l:wc)(t:wm),Is K H x0 (br ra rb xs)/\x1=.ref l/\aI K H l [.str t]/\nT t 6=true/\(nZ t<0\/nD t<=nZ t)/\1<=xs.length/\xs.length<=8/\(∀i,ah 1000 (xs.getD i 0))/\(∀x∈xs,0<=x) /\ ∀H',ae H H'->E (.ref a.bM) none H'
theorem zs4{t:wm}{v:V}(h:Is K H v (br ra rb xs))(hl:aI K H l [.str t])(ht:nT t 6=true)(hz:nZ t<0\/nD t<=nZ t)(h1:1<=xs.length)(h8:xs.length<=8)(hb:∀i,ah 1000 (xs.getD i 0))(hp:∀x∈xs,0<=x)(q:∀H',ae H H'->E (.ref a.bM) none H'):P_ K a [v,.ref l] H Q E:=⟨_,_,rfl,ra,rb,xs,l,t,h,rfl,hl,ht,hz,h1,h8,hb,hp,q⟩
theorem zum(T:Txt w K mg a):aC P w K mg base (bQ P w) 4 a.rX a.HZ sY (P_ K a):=by
 refine T.Ao.F.dO zui ?_ ?_;wtm_at "b2";refine⟨_,(ak (aB (cE (aa ag (aa (bZ (v:=.ref a.fQ) rfl T.iI rfl) (aa (eY (zxl T) hr T.JS dq (aa (pv 0) (aa (av (DQ T) hr T.rJ (aa (qi 1) af)) af))) af)))))),?_⟩;wtm_at "cl";rw[show start Be [x0,x1]=[some x0,some x1]from rfl];obtain⟨ra,rb,xs,l,t,hx,rfl,hs,ht,hz,h1,h8,hb,hp,q⟩:=h;o_head dS hs rfl ?_;k_few;obtain⟨k1,k2,k3,k4,k5⟩:=BB ht;have hd:∀d,dR t=some d->(a_ d).length<=400:=λd e=>by have:=k3 d e;lia
 have goal:∀v H',ae H H'->Is K H' v (.tuple [.int (ja (vD t "-") (cb (cK t))),.int (((dR t).getD 1:Nat):Int)])->Is K H' v (N (aT t)):=λv H' _ i=>by
  have e:N (aT t)=.tuple [.int (nZ t),.int (nD t)]:=by unfold N;rw[k4,k5]
  rw[e];exact i
 have v6:cb (cK t)<10^6:=wX (sP _) (WZ ⋯ ())
 have d6:(dR t).getD 1<10^6:=by
  cases e:dR t with
  | none=>decide
  | some d=>exact wX (sP d) (WZ ⋯ (by have:=k3 d e;lia))
 have e20:(10:Nat)^6<2^20:=by decide
 have bc:ah 1000 (aT t):=by
  refine ah.mono (m:=20) ⟨⟨?_⟩,⟨?_⟩⟩ ⋯
  ·rw[k4]
   unfold nZ ja
   split<;>lia
  ·rw[k5]
   unfold nD;lia
 have hc:aT t<0 \/ ¬ bO xs+aT t<1:=by
  have m0:=hp _ (km h1);rcases hz with z | z
  ·left
   rw[<- k4]at z;exact(xI _ _).mpr (by simpa using z)
  ·right
   rw[<- k4,<- k5]at z;have o1:(1:Rat)<=aT t:=(xJ _ _).mpr (by simpa using z);intro z2
   grind
 rw[show(V.str t)=.str (jD (vD t "-") (cb (cK t)) (dR t)) by rw[<- k1]];refine EV () hd (λv H1 S1 i1=>?_);o_head zwR (hx.by S1) (goal v H1 S1 i1) h1 h8 hb bc (λ_ H2 S2=>q H2 (S1.trans S2)) (λz1 z2=>?_);rcases hc with z | z
 ·exact absurd z z1
 ·exact absurd z2 z
def Oq(K:wa)(a:Ad):Sp:=λvs H Q E=>∃x0 x1,vs=[x0,x1] /\ ∃(ra rb:Rat)(xs:List Rat)(l:wc)(ws:List wm),Is K H x0 (br ra rb xs)/\x1=.ref l/\aI K H l (ws.map V.str)/\ws.all (wT · 1)=true/\ws.length<=60/\xs.length<=8 /\ ¬ (gS ws).Perm (eh xs.length) /\ ∀H',ae H H'->E (.ref a.bM) none H'
theorem znv{v:V}(h:Is K H v (br ra rb xs))(hl:aI K H l (ws.map V.str))(hw:ws.all (wT · 1)=true)(hn:ws.length<=60)(h8:xs.length<=8)(np:¬ (gS ws).Perm (eh xs.length))(q:∀H',ae H H'->E (.ref a.bM) none H'):Oq K a [v,.ref l] H Q E:=⟨_,_,rfl,ra,rb,xs,l,ws,h,rfl,hl,hw,hn,h8,np,q⟩
theorem Z5(T:Txt w K mg a):aC P w K mg base (bQ P w) 4 a.rH a.Gh sZ (Oq K a):=by
 refine T.z_.F.dO ZV ?_ ?_;wtm_at "b2";refine⟨_,(ak (aB (cE (aa ag (aa (bZ (v:=.ref a.fQ) rfl T.iI rfl) (aa (eY (ZJ T) hr T.HB dq (aa (pv 0) (aa (c_ rfl (cF ["word"] [none]) (eL (pv 1)) (λ_ _ _ _ _=>(cv 0)) (λ_ _ _ _ _=>cX) (λ_ _ _ _ _=>(d5 (show aM _ (.type "int") j6 from sy) rfl T.h2h nh (q1 0)))) af))) af)))))),?_⟩;wtm_at "cl";rw[show start Ck [x0,x1]=[some x0,some x1]from rfl];obtain⟨ra,rb,xs,l,ws,hx,rfl,hs,hw,hn,h8,np,q⟩:=h;o_head gq hs (o0:=none) (tl:=[]) rfl (λj y _=>y=.int ((gS ws).getD j 0)) ?_ ?_
 ·intro D j x ys o H2 hx inv
  rw[wG]at hx;obtain⟨t,ht,rfl⟩:=vF.mp hx;have hj:=(wZ.mp ht).1;obtain⟨k1,k2⟩:=nF (wH.mp hw t (vx ht));k_few;have hv:j6 [.str t] H2=j6 [.str (aX (cb t))] H2:=by rw[<- k1]
  rw[hv];refine Bo () ?_;k_few;exact cY inv () (λ_ _ _ _ _ h=>h) ⟨_,rfl⟩ (ae.refl _) (by unfold gS;rw[wk,wG,ht];rfl)
 ·intro D2 ys2 H2 n2 S2 e2 l2 r2
  have ey2:ys2=(gS ws).map V.int:=by
   refine vv (by rw[l2];simp[gS]) λi h1 h2=>?_
   rw[r2 i ys2[i] (wg h1)];rw[we]at h2;rw[vb,wk,wg h2]
   rfl
  rw[ey2]at e2;k_few;exact zom (hx.by S2) h8 (.inr (.inr ⟨gS ws,sC e2,by unfold gS;rw[we];exact hn,np⟩)) (λH3 S3=>q H3 (S2.trans S3))
def j4(a b:Rat)(xs:List Rat):wm:=rj ((c6 a b xs).length+1) (c6 a b xs) "\n" "; "
def RV(K:wa):Sp:=λvs H Q _=>∃x0,vs=[x0] /\ ∃(ra rb:Rat)(xs:List Rat),Is K H x0 (br ra rb xs)/\cw ra rb/\xs.length<=5/\(∀x∈xs,bR 90 x)/\Rq H Q (.str (j4 ra rb xs))
theorem Zp{v:V}(h:Is K H v (br ra rb xs))(ok:cw ra rb)(h5:xs.length<=5)(hf:∀x∈xs,bR 90 x)(q:Rq H Q (.str (j4 ra rb xs))):RV K [v] H Q E:=⟨_,rfl,ra,rb,xs,h,ok,h5,hf,q⟩
theorem zoo(T:Txt w K mg a):nv P w K mg base aO 4 a.rL a.Gv t_ (RV K):=by
 refine T.Ae.F.okp zn5 ?_ ?_;wtm_at "b1";refine⟨_,(DE (Ff (NS (av (Zz T) hr T.GY (q1 0))))),?_⟩;wtm_at "cl";rw[show start DT [x0]=[some x0]from rfl];obtain⟨ra,rb,xs,hw,ok,h5,hf,q⟩:=h;unfold EH;o_head zn4 hw ok h5 hf (λH1 S1 hl=>?_);exact⟨_,rfl,hl,q _ S1⟩
def SN(K:wa)(a:Ad):Sp:=λvs H Q E=>∃x0,vs=[x0] /\ ∃(ra rb:Rat)(xs:List Rat),Is K H x0 (br ra rb xs)/\xs.length<=8/\(∀i,ah 4000 (xs.getD i 0)) /\ ¬ 0∈xs /\ ∀H',ae H H'->E (.ref a.cu) none H'
theorem Z9{v:V}(h:Is K H v (br ra rb xs))(h8:xs.length<=8)(bx:∀i,ah 4000 (xs.getD i 0))(h0:¬ 0∈xs)(q:∀H',ae H H'->E (.ref a.cu) none H'):SN K a [v] H Q E:=⟨_,rfl,ra,rb,xs,h,h8,bx,h0,q⟩
theorem zqd(T:Txt w K mg a):aC P w K mg base (bQ P w) 5 a.rQ a.G_ zW (SN K a):=by
 refine T.Ak.F.dO FI ?_ ?_;wtm_at "b1";have hgd:=hr.gd
 refine⟨_,(aj (aJ 1 FI.nd (eY (Kv T) hr T.Aw dq (q1 0)))
     (aj (aJ 2 FI.nd (av (znW T) hr T.U8 (aa (qi 0) (aa (qi 1) (aa (qi 1) af)))))
     (ak (aB (kq (en zDG (pv 2) pP (cN _)) ag (d5 (show aM _ (.type "str") gn from iZ) rfl T.h1Z gk (q1 2))))))),?_⟩
 wtm_at "cl";rw[show start KP [x0]=[some x0,none,none]from rfl];obtain⟨ra,rb,xs,h,h8,bx,h0,q⟩:=h;k_few;exact LK h h8 bx (λ_=>q) (λz=>absurd z h0)
def Mr(K:wa)(a:Ad):Sp:=λvs H Q E=>∃x0,vs=[x0] /\ ∃(ra rb:Rat)(xs:List Rat),Is K H x0 (br ra rb xs)/\xs.length<=8/\(∀i,ah 4000 (xs.getD i 0)) /\ ¬ 0∈xs /\ ∀H',ae H H'->E (.ref a.cu) none H'
theorem zoh{v:V}(h:Is K H v (br ra rb xs))(h8:xs.length<=8)(bx:∀i,ah 4000 (xs.getD i 0))(h0:¬ 0∈xs)(q:∀H',ae H H'->E (.ref a.cu) none H'):Mr K a [v] H Q E:=⟨_,rfl,ra,rb,xs,h,h8,bx,h0,q⟩
theorem Zi(T:Txt w K mg a):aC P w K mg base (bQ P w) 5 a.rK a.GA sO (Mr K a):=by
 refine T.Aa.F.dO Md ?_ ?_;wtm_at "b1"
 refine⟨_,(aj (aJ 1 Md.nd (av (zyL T) hr T.Yz (aa (qi 0) (aa (kD (eY (Kv T) hr T.Aw dq (q1 0))) af))))
     (ak (aB (kq (bI (pv 1)) (av (Ce T) hr T.rF (q1 1)) ag)))),?_⟩
 wtm_at "cl";rw[show start PX [x0]=[some x0,none]from rfl];obtain⟨ra,rb,xs,h,h8,bx,h0,q⟩:=h;o_head bz (j:=0) h rfl (λv1 i1=>?_);k_few;exact LK h h8 bx (λ_=>q) (λz=>absurd z h0)
def MK(K:wa):Sp:=λvs H Q _=>∃x0,vs=[x0] /\ ∃x:wm,x0=.str x/\aW x/\x.length<=900/\Rq H Q (.bl (u6 x))
theorem zsO(ha:aW x)(hl:x.length<=900)(q:Rq H Q (.bl (u6 x))):MK K [.str x] H Q E:=⟨_,rfl,x,rfl,ha,hl,q⟩
theorem zsH(T:Txt w K mg a):aC P w K mg base aO 2 a.Jh a.HK uM (MK K):=by
 refine T.Ie.F.ok zsQ ?_ ?_;wtm_at "b1";refine⟨_,(ak (aB (dA (av (zA T) hr T.og (aa (pv 0) (aa (fI rfl T.UP) af))) (dD (fw jj (d5 (show aM _ (.type "int") j6 from sy) rfl T.h2h nh (q1 0)) (fI rfl T.G8) (cN _)))))),?_⟩;wtm_at "cl";rw[show start Ej [x0]=[some x0]from rfl];obtain⟨x,rfl,ha,hl,q⟩:=h;o_head uZ ha () (λH1 S1=>?_);unfold u6 at q;cases hw:wT x 2 with
 | false =>
  rw[hw]at q;k_few;exact q _ S1
 | true =>
  rw[hw,w9]at q;obtain⟨k1,k2⟩:=nF hw;k_few;have e:(V.str x)=.str (aX (cb x)):=by rw[<- k1]
  rw[e];refine Bo () ?_;k_few;exact q _ S1
def Ld(K:wa):Sp:=λvs H Q _=>∃x0,vs=[x0] /\ ∃x:wm,x0=.str x/\aW x/\x.length<=900/\Rq H Q (.bl (wT x 1))
theorem zl2(ha:aW x)(hl:x.length<=900)(q:Rq H Q (.bl (wT x 1))):Ld K [.str x] H Q E:=⟨_,rfl,x,rfl,ha,hl,q⟩
theorem zlY(T:Txt w K mg a):aC P w K mg base aO 2 a.G5 a.Gd zr (Ld K):=by
 refine T.Gq.F.ok zlZ ?_ ?_;wtm_at "b1";refine⟨_,(ak (aB (av (zA T) hr T.og (aa (pv 0) (aa (fI rfl T.UX) af))))),?_⟩;wtm_at "cl";rw[show start DJ [x0]=[some x0]from rfl];obtain⟨x,rfl,ha,hl,q⟩:=h;k_few;exact uZ ha () q
theorem zxL{v:V}{w:wm}(t:Is K H v (.tuple [.str "glow",.str "back",.str "hour"]))(h:vM w=true)(q:∀k:Bool,(k=true ↔ uX w=true)->Q (.bl k) H):jL K (.str w) v H Q:=by
 refine⟨.str w,_,cP.mpr rfl,t,(FP h).mono ⋯,by simp[vK,Wc,cZ],q _ ?_⟩;simp only[W3,xk,Wa,qo,W1,beq_iff_eq,uX]
 constructor<;>(rintro (h | h | h)<;>simp[h])
def Pa(K:wa):Sp:=λvs H Q _=>∃x0 x1 x2,vs=[x0,x1,x2] /\ ∃(f:wm)(l:wc)(ws:List wm)(n:Nat),x0=.str f/\x1=.ref l/\x2=.int (n:Int)/\aI K H l (ws.map V.str)/\aW f/\ws.length<=900/\(∀w∈ws,aW w/\w.length<=900)/\Rq H Q (.bl (jh f ws n))
theorem Oy(h:aI K H l (ws.map V.str))(hf:aW f)(hl:ws.length<=900)(hw:∀w∈ws,aW w/\w.length<=900)(q:Rq H Q (.bl (jh f ws n))):Pa K [.str f,.ref l,.int (n:Int)] H Q E:=⟨_,_,_,rfl,f,l,ws,n,rfl,rfl,rfl,h,hf,hl,hw,q⟩
theorem ztr(T:Txt w K mg a):aC P w K mg base aO 4 a.JU a.HW sA (Pa K):=by
 refine T.IL.F.ok zti ?_ ?_;wtm_at "b3"
 refine⟨_,(aj (bo (gD K hu (pv 0) ag) (ak (aB (dA (iQ K hu (cD K T.h2f (q1 1)) aA) (dD (av (zsH T) hr T.Ie (aa (qi 1) af)))))) bj)
     (aj (bo (gD K hu (pv 0) ag) (ak (aB (dA (iQ K hu (cD K T.h2f (q1 1)) aA) (dD (av (KQ T) hr T.z8 (aa (qi 1) (aa (fI rfl T.UY) af))))))) bj)
     (aj (bo (gD K hu (pv 0) ag) (ak (aB (dA (iQ K hu (cD K T.h2f (q1 1)) (pv 2)) (dD (bH (show aM _ (.builtin "all") (h_ K)from jH rfl) rfl T.h1Y jG (aa (c_ rfl (cF ["word"] [none]) (eL (pv 1)) (λ_ _ _ _ _=>(cv 0)) (λ_ _ _ _ _=>cX) (λ_ _ _ _ _=>(av (zlY (K:=K) (mg:=mg) (a:=a) T) hr T.Gq (q1 0)))) af)))))) bj)
     (aj (bo (gD K hu (pv 0) ag) (ak (aB (fw ki (cD K T.h2f (q1 1)) aA (cN _)))) bj)
     (ak (aB (dA (zAx (pv 1)) (dD (Bw (fw (show aY _ (vk .In) (jL K)from q_ hu) (pv 0) (cE (aa ag (aa ag (aa ag af)))) (by with_unfolding_all rfl)) (dD (Zc (Ln (pv 0) (bZ (v:=.ref a.rY) rfl T.Ka rfl) T.J8) (by with_unfolding_all rfl)))))))))))),?_⟩
 wtm_at "cl";rw[show start AZ [x0,x1,x2]=[some x0,some x1,some x2]from rfl];obtain⟨f,l,ws,n,rfl,rfl,rfl,hs,hf,hl,hw,q⟩:=h;unfold jh at q;have z:2000<=wr:=by decide
 have hd:ws.length=1->∃w,ws=[w]/\dE ws=w/\aW w/\w.length<=900:=λe=>by
   match ws,e,hw with
   | [w],_,hw=>exact⟨w,rfl,rfl,hw w ∅⟩
 o_head jF (dF hf) (cZ _) ?_;cases hg:(f == wb "glows")
 case true =>
   rw[hg,if_pos rfl]at q;o_head ⟨l,_,rfl,.inl hs,?_⟩;rw[we];k_few
   . rename_i e
     have e:ws.length=1:=by lia
     obtain⟨w,rfl,ew,a1,a2⟩:=hd e;rw[ew,decide_eq_true e,w9]at q;refine dS hs rfl ?_;k_few;exact zsO a1 a2 q
   . rename_i e
     rw[decide_eq_false (),w8]at q;exact q _ (ae.refl _)
 rw[hg,if_neg ⋯]at q;o_head jF (dF hf) (cZ _) ?_;cases hm:(f == wb "move")
 case true =>
   rw[hm,if_pos rfl]at q;o_head ⟨l,_,rfl,.inl hs,?_⟩;rw[we];k_few
   . rename_i e
     have e:ws.length=1:=by lia
     obtain⟨w,rfl,ew,a1,a2⟩:=hd e;rw[ew,decide_eq_true e,w9]at q;refine dS hs rfl ?_;k_few;exact Nb a1 a2 ⋯ q
   . rename_i e
     rw[decide_eq_false (),w8]at q;exact q _ (ae.refl _)
 rw[hm,if_neg ⋯]at q;o_head jF (dF hf) (cZ _) ?_;cases hx:(f == wb "exchange")
 case true =>
   rw[hx,if_pos rfl]at q;o_head ⟨l,_,rfl,.inl hs,?_⟩;rw[we];k_few
   . rename_i e
     rw[decide_eq_true (),w9]at q;refine gq hs (o0:=none) (tl:=[]) rfl (λj y _=>y=.bl (wT (ws.getD j ⟨#[]⟩) 1)) ?_ ?_
     . intro D j x ys o H1 hx inv
       rw[wG]at hx;obtain⟨t,ht,rfl⟩:=vF.mp hx;have hj:=(wZ.mp ht).1;obtain⟨b0,b1⟩:=hw t (vx ht);o_head zl2 b0 b1 (λH2 S2=>?_);k_few;exact cY inv () (λ_ _ _ _ _ h=>h) ⟨_,rfl⟩ S2 (by rw[wk,ht];rfl)
     . intro D ys H1 n1 S1 e1 l1 r1
       have ey:ys=(ws.map (wT · 1)).map V.bl:=by
         refine vv (by rw[l1];simp) λi h1 h2=>?_
         rw[r1 i ys[i] (wg h1)];rw[we,we]at h2;rw[vb,vb,wk,wg h2]
         rfl
       rw[ey]at e1;o_head hV (.of e1) ?_;rw[show(ws.map (wT · 1)).all id=ws.all (wT · 1) by rw[Wf];rfl];exact q _ S1
   . rename_i e
     rw[decide_eq_false (),w8]at q;exact q _ (ae.refl _)
 rw[hx,if_neg ⋯]at q;o_head jF (dF hf) (cZ _) ?_;cases hk:(f == wb "look")
 case true =>
   rw[hk,if_pos rfl]at q;o_head ⟨l,_,rfl,.inl hs,?_⟩;rw[we];k_few;rw[show decide ((0:Int)<(ws.length:Int))=decide (0<ws.length) by simp];exact q _ (ae.refl _)
 rw[hk,if_neg ⋯]at q;o_head zzX ?_;o_head ⟨_,.inl ⟨_,hs,rfl⟩,?_⟩;rw[show(ws.map V.str).isEmpty=ws.isEmpty by cases ws<;>rfl];cases he:ws.isEmpty
 case false =>
   rw[he,w8]at q
   show ∃c,V.bl false=V.bl c/\_
   k_few;exact q _ (ae.refl _)
 rw[he,w9]at q
 show ∃c,V.bl true=V.bl c/\_
 o_head eE (ds:=[.str "glow",.str "back",.str "hour"]) ∅ (.cons (cP.mpr rfl) (.cons (cP.mpr rfl) (.cons (cP.mpr rfl) .nil))) (λv1 H1 S1 i1=>?_);refine zxL i1 (dF hf) (λk hk=>?_);cases ho:uX f
 case true =>
   rw[hk.mpr ho];rw[ho,uA]at q;k_few;exact q _ S1
 rw[show k=false by cases k with | false=>rfl | true=>rw[hk.mp rfl]at ho;cases ho];rw[ho,xS]at q;k_few;unfold FG;o_head ⟨f,rfl,rfl,?_⟩;rw[CQ]
 have e:∀b c d e f' g:wc,([(wb "swarm",b),(wb "flocks",c),(wb "fate",d),(wb "free",e),(wb "still",f'),(wb "paper",g)].any λp=>f == p.1)=BK f:=λb c d e f' g=>by
   unfold BK;simp only[W3,xk,qo]
 rw[e];exact q _ S1
def aS(H:Hp)(p:wc)(k:Int):Prop:=0<=k /\ ∃(a:Int)(b:Bool),H p=some (.lst [.int a,.bl b])
theorem aS.same{p:wc}(s:ae H H')(h:aS H p k):aS H' p k:=by
 obtain⟨k0,x,y,e⟩:=h;exact⟨k0,x,y,s _ _ e⟩
theorem aS.exc{p:wc}(h:aS H p k)(s:Exc l H H')(n:p≠l):aS H' p k:=by
 obtain⟨k0,x,y,e⟩:=h;exact⟨k0,x,y,s _ _ n e⟩
theorem aS.keep{p:wc}(s:Exc p H H')(h:aS H p k):aZ H H':=by
 obtain⟨_,x,y,e⟩:=h;exact s.keep e
theorem aS.ne{p q:wc}(e:H q=none)(h:aS H p k):q≠p:=by
 obtain⟨_,x,y,z⟩:=h;exact(gv z e).symm
def Ov(K:wa):Sp:=λvs H Q _=>∃x0 x1,vs=[x0,x1] /\ ∃(a:wc)(ns:List Int)(k:Int),x0=.ref a/\x1=.int k/\iA K H a (ns.map V.int)/\ns.length<=63/\0<=k/\k<=1000 /\
 ∀p H',H p=none->ae H H'->aS H' p 0->Q (.ref p) H'
theorem Lk{a:wc}{ns:List Int}(h:iA K H a (ns.map V.int))(hl:ns.length<=63)(h0:0<=k)(h1:k<=1000)
  (q:∀p H',H p=none->ae H H'->aS H' p 0->Q (.ref p) H'):Ov K [.ref a,.int k] H Q E:=⟨_,_,rfl,a,ns,k,rfl,rfl,h,hl,h0,h1,q⟩
local macro_rules | `(tactic| wtm_at "pen")=>`(tactic| first
 | assumption
 | (apply aS.same;(focus assumption);wtm_at "pen"))
local macro_rules | `(tactic| wtm_at "ne")=>`(tactic| ((with_reducible apply aS.ne); (focus assumption); wtm_at "pen"))
local macro_rules | `(tactic| wtm_at "penle")=>`(tactic| exact aS.le (by wtm_at "pen") ())
theorem Og(T:Txt w K mg a):aC P w K mg base aO 1 a.JK a.H_ yM (Ov K):=by
 refine T.Aq.F.ok Dx ?_ ?_;wtm_at "b2"
 refine⟨_,(aj (aJ 2 Dx.nd (aG aN (aG d4 aA (pv 1)) aA))
     (aj (bo (en ki (cD K T.h2f (q1 0)) aA (cN _)) (ak (aJ 2 Dx.nd (aG aN (f_ eK (pv 0) (aG iU (pv 1) (cD K T.h2f (q1 0))) (λ_ _=>rfl)) (aG d4 (aG fD (pv 1) (cD K T.h2f (q1 0))) aA)))) bj)
     (aj (bo (PW.pt (zR (en nJ (pv 1) (cD K T.h2f (q1 0)) (cN _)) (uP (en OF (pv 2) (YO (v:=1000000000000000000) ⟨by decide,by decide,by decide⟩ (by decide +kernel)) (cN _))))) (ak (aB (cS (aa (pv 2) (aa dM af))))) bj)
     (ak (aB (cS (aa (aG iU (aG d4 (aG aN (aG aN (aG iU (pv 2) aA) (aG d4 aA (pv 1))) aA) aA) aA) (aa dM af)))))))),?_⟩
 wtm_at "cl";rw[show start NM [x0,x1]=[some x0,some x1,none]from rfl];obtain⟨a',ns,k,rfl,rfl,hs,hl,h0,h1,q⟩:=h;have fin:∀(x:Int)(y:Bool),zT K [.int x,.bl y] H Q:=λx y=>fj (by show 2<=1000;decide) λp H' hp s e=>q p H' hp s ⟨by decide,x,y,e⟩
 o_head md hs.sq ?_;k_few
 . rename_i hz
   rw[we]at hz;refine md hs.sq ?_;rw[we];o_head zCF hs (Qs _ ()) (by rw[we];exact qP _ ()) (λz=>?_);o_head md hs.sq ?_;rw[we];o_head AV ⟨by lia,(Bd.mF () ()).mono ⋯⟩ ?_;o_head md hs.sq ?_;k_few
   all_goals exact fin _ _
 . refine md hs.sq ?_
   k_few
   all_goals exact fin _ _
def OH(K:wa):Sp:=λvs H Q _=>∃x0 x1,vs=[x0,x1] /\ ∃(p:wc)(k m:Int),x0=.ref p/\x1=.int m/\aS H p k/\0<m/\Bd 8999 m /\
 ∀(r:Int)(H':Hp),0<=r->r<m->Exc p H H'->aZ H H'->aS H' p k->Q (.int r) H'
theorem zsh{p:wc}(h:aS H p k)(hm:0<m)(hb:Bd 8999 m)
  (q:∀(r:Int)(H':Hp),0<=r->r<m->Exc p H H'->aZ H H'->aS H' p k->Q (.int r) H'):OH K [.ref p,.int m] H Q E:=⟨_,_,rfl,p,k,m,rfl,rfl,h,hm,hb,q⟩
local macro_rules | `(tactic| wtm_at "gs")=>`(tactic| ((with_reducible apply zsh); (focus wtm_at "pen"); (focus (first | decide | lia)); (focus wtm_at "bd128"); intro _ _ _ _ _ _ _))
theorem dB(T:Txt w K mg a):aC P w K mg base aO 1 a.Jo a.HN yD (OH K):=by
 refine T.de.F.ok CJ ?_ ?_;wtm_at "b2"
 refine⟨_,(aj (bo (bI (qi 0)) (aj (aJ 2 CJ.nd (aG iU (qi 0) (pv 1)))
     (aj (lO (aG fD (qi 0) (pv 1)) (pT (pv 0) aA oR))
     (ak (aB (pv 2))))) bj)
     (aj (lO (aG iU (aG aN (aG d4 (qi 0) aA) aA) aA) (pT (pv 0) aA oR))
     (aj (aJ 3 CJ.nd (aG iU (aG d4 (aG aN (aG aN (aG d4 (aG iU (qi 0) aA) aA) (aG fD (qi 0) aA)) aA) aA) aA))
     (ak (aB (aG iU (aG fD (pv 3) aA) (pv 1))))))),?_⟩
 wtm_at "cl";rw[show start Nq [x0,x1]=[some x0,some x1,none,none]from rfl];obtain⟨p,k,m,rfl,rfl,⟨hk0,x,y,hp⟩,hm,hbm,q⟩:=h;k_few
 all_goals
   exact q _ _ (Qs _ ()) (qP _ hm) (by wtm_at "exc") (Exc.keep (p:=p) (by wtm_at "exc") hp) ⟨hk0,_,_,by assumption⟩
def Cq(K:wa):Sp:=λvs H Q _=>∃x0 x1,vs=[x0,x1] /\ ∃(t b:Int),x0=.int t/\x1=.int b/\0<b/\Bd 8999 b/\Rs K H Q (N (wR t b))
theorem ztK{t b:Int}(hb:0<b)(hB:Bd 8999 b)(q:Rs K H Q (N (wR t b))):Cq K [.int t,.int b] H Q E:=⟨_,_,rfl,t,b,rfl,rfl,hb,hB,q⟩
theorem zvV{t b:Int}(hb:0<b)(h1 : -100000000000000000000000000000000000000<=t)(h2:t<=100000000000000000000000000000000000000)(h3 : -100000000000000000000000000000000000000<=b)(h4:b<=100000000000000000000000000000000000000)
  (q:∀v H' (x:Rat),ae H H'->Is K H' v (N x)->x=wR t b->ah 128 x->Q v H'):Cq K [.int t,.int b] H Q E :=
 ztK hb ((Bd.mF h3 h4).mono ⋯) λv H' s h=>q v H' _ s h rfl (ah.divInt (show b≠0 by lia) (Bd.mF h1 h2) (Bd.mF h3 h4))
local macro_rules | `(tactic| wtm_at "gs")=>`(tactic| ((with_reducible apply zvV); (focus lia); (focus lia); (focus lia); (focus lia); (focus lia); intro _ _ _ _ _ _ _))
theorem DK(T:Txt w K mg a):aC P w K mg base aO 1 a.JW a.Ir y7 (Cq K):=by
 refine T.rO.F.ok EA ?_ ?_;wtm_at "b2"
 refine⟨_,(aj (Tw (i:=2) (j:=3) rfl EA.nd rfl rfl ⋯ rfl rfl (aa (bH pN rfl T.h2i oG (q1 0)) (q1 1)) rfl)
     (aj (zi Wg (en ki (pv 3) aA (cN _)) (ak (Tw (i:=2) (j:=3) rfl EA.nd rfl rfl ⋯ rfl rfl (aa (pv 3) (aa (aG iU (pv 2) (pv 3)) af)) rfl)))
     (ak (aB (cE (aa (aG fD (pv 0) (pv 2)) (aa (aG fD (pv 1) (pv 2)) af))))))),?_⟩
 wtm_at "cl";rw[show start Nw [x0,x1]=[some x0,some x1,none,none]from rfl];obtain⟨t,b,rfl,rfl,hp,hB,q⟩:=h;have hb:b≠0:=by lia
 o_head LV (λσ H'=>∃(x y:Int),σ = [some (.int t),some (.int b),some (.int x),some (.int y)]/\0<=x/\0<=y/\vo x y=vo t b/\H'=H) (λσ=>(PZ σ 3).toNat) ⟨_,_,rfl,by split<;>lia,by lia,yV t b,rfl⟩ ?_;rintro σ H' ⟨x,y,rfl,hx,hy,hg,rfl⟩
 have hgb:Bd 8999 ((vo t b:Nat):Int):=hB.le (by
   have:vo t b ∣ b.natAbs:=Int.gcd_dvd_natAbs_right t b;have:=uo () this
   simpa using this)
 k_few
 . refine Ot ?_
   k_few;have h1:=Qs x (show y≠0 by lia);have h2:=qP x (show 0<y by lia)
   first | refine⟨?_,_,_,rfl,hy,h1,?_,rfl⟩ | refine⟨_,_,rfl,?_,_,_,rfl,hy,h1,?_,rfl⟩
   . show(x % y).toNat<y.toNat
     lia
   . rw[<- hg];exact Sk () hx
 . rename_i h0
   have e0:y=0:=by lia
   subst e0
   have e:x=((vo t b:Nat):Int):=by
     rw[<- hg,Xl];lia
   have e1:x=dv t b:=by unfold dv;rw[if_neg (),<- e]
   rw[e1];have hd:ng t (dv t b):=⟨OJ hb,by unfold dv;rw[if_neg ()];exact hgb⟩;refine AV hd ?_;k_few;exact yi (Sj hb) (zCH hb) q
theorem LR{t w u:Int}(h1:1<=w)(h2:w<=8)(h3:1<=t)(h4:t<=4*w)(g1:1<=u)(g2:u<=12)(g3:0<=m)(g4:m<=u)(h:w*u<=t*u+m*w):cw (wR t w) (wR m u):=by
 obtain⟨a1,a2,a3⟩:=zDR (x:=wR t w) rfl h1 h2 h3 h4;obtain⟨b1,b2,b3⟩:=zD5 (y:=wR m u) rfl g1 g2 g3 g4;refine⟨a1,a2,a3,b1,b2,b3,?_⟩;have k1:=hJ t (show w≠0 by lia);have k2:=hJ m (show u≠0 by lia);have hw:(0:Rat)<(w:Rat):=xx.mpr ();have hu:(0:Rat)<(u:Rat):=xx.mpr ();have hc:((w*u:Int):Rat)<=((t*u+m*w:Int):Rat):=xA.mpr h;rw[Wz,XZ,Wz,Wz]at hc;refine W0.mp λz=>?_
 have z2:=Rat.mul_lt_mul_of_pos_right z (Rat.mul_pos hw hu)
 have e:(wR t w+wR m u)*((w:Rat)*(u:Rat))=(t:Rat)*(u:Rat)+(m:Rat)*(w:Rat):=by
  rw[<- k1,<- k2]
  grind
 rw[e,Rat.one_mul]at z2;exact absurd hc (Rat.not_le.mpr z2)
def Rg(K:wa):Sp:=λvs H Q _=>∃x0,vs=[x0] /\ ∃(p:wc)(k:Int),x0=.ref p/\aS H p k /\ ∀v H' (a b:Rat),Exc p H H'->aZ H H'->aS H' p k->Is K H' v (R a b)->cw a b->Q v H'
theorem zrO{p:wc}(h:aS H p k)(q:∀v H' (a b:Rat),Exc p H H'->aZ H H'->aS H' p k->Is K H' v (R a b)->cw a b->Q v H') :
  Rg K [.ref p] H Q E:=⟨_,rfl,p,k,rfl,h,q⟩
theorem Zo(T:Txt w K mg a):aC P w K mg base aO 2 a.Jj a.Hw tY (Rg K):=by
 refine T.Ic.F.ok nW ?_ ?_;wtm_at "b1"
 refine⟨_,(aj (aJ 1 nW.nd (aG aN aA (av (dB T) hr T.de (aa (pv 0) (aa aA af)))))
     (aj (aJ 2 nW.nd (f_ eK (cS (aa (aG aN aA (av (dB T) hr T.de (aa (pv 0) (aa (aG d4 aA (pv 1)) af)))) (aa (bH (show aM _ (.builtin "max") DF from ZH rfl) rfl T.h2j zCX (aa aA (aa (aG zB6 (aG aN (pv 1) (av (dB T) hr T.de (aa (pv 0) (aa aA af)))) aA) af))) af))) (av (dB T) hr T.de (aa (pv 0) (aa aA af))) (λ_ _=>rfl)))
     (aj (aJ 3 nW.nd (aG aN aA (av (dB T) hr T.de (aa (pv 0) (aa aA af)))))
     (aj (aJ 4 nW.nd (av (dB T) hr T.de (aa (pv 0) (aa (aG aN (pv 3) aA) af))))
     (aj (bo (en nJ (aG aN (aG d4 (pv 2) (pv 3)) (aG d4 (pv 4) (pv 1))) (aG d4 (pv 1) (pv 3)) (cN _)) (ak (aJ 4 nW.nd (pv 3))) bj)
     (ak (aB (cE (aa (av (DK T) hr T.rO (q2 2 1)) (aa (av (DK T) hr T.rO (q2 4 3)) af)))))))))),?_⟩
 wtm_at "cl";rw[show start Te [x0]=[some x0,none,none,none,none]from rfl];obtain⟨p,k,rfl,hp,q⟩:=h;wtm_at "ga";refine zA8 (λm m1 m2 m3=>?_);wtm_at "ga"
 all_goals
   rename_i r5 H9 c0 c1 E9 K9 P9 r4 H8 d0 d1 E8 K8 P8 r3 H7 f0 f1 E7 K7 P7 l6 H6 n6 S6 e6 r2 H5 g0 g1 E5 K5 P5 z hz r1 H4 j0 j1 E4 K4 P4 r H3 k0 k1 E3 K3 P3 hlt v2 H2 x1 S2 i2 ex b2 v1 H1 x S1 i1 ey b1 v Hf Sf iF;have hz4:1<=z/\z<=4*(1+r5):=by lia
   refine q v Hf x1 x (by wtm_at "exc") (by wtm_at "keep") (by wtm_at "pen") iF ?_;rw[ex,ey]
 . refine LR () () hz4.1 hz4.2 () () () () ?_
   have:=Int.mul_nonneg (show 0<=z by lia) (show 0<=1+r1 by lia);rw[Int.mul_comm (1+r5) (1+r1)];lia
 . exact LR () () hz4.1 hz4.2 () () () () (Int.not_lt.mp hlt)
def MW(K:wa):Sp:=λvs H Q _=>∃x0 x1,vs=[x0,x1] /\ ∃(p:wc)(k:Int)(n:Nat),x0=.ref p/\x1=.int (n:Int)/\aS H p k/\n<=8 /\ ∀(l:wc)(H':Hp)(us:List V)(xs:List Rat),H l=none->Exc p H H'->aZ H H'->aS H' p k->H' l=some (.lst us)->aq K H' us (xs.map N)->xs.length=n->(∀x∈xs,di x)->Q (.ref l) H'
theorem zon{p:wc}(h:aS H p k)(h8:n<=8)(q:∀(l:wc)(H':Hp)(us:List V)(xs:List Rat),H l=none->Exc p H H'->aZ H H'->aS H' p k->H' l=some (.lst us)->aq K H' us (xs.map N)->xs.length=n->(∀x∈xs,di x)->Q (.ref l) H'):MW K [.ref p,.int (n:Int)] H Q E:=⟨_,_,rfl,p,k,n,rfl,rfl,h,h8,q⟩
theorem zzM{us:List V}{v:V}{x:Rat}(t:aq K H us (xs.map N))(iv:Is K H v (N x))(j:Nat):aq K H (us.set j v) ((xs.set j x).map N):=by
 have hl:=t.length;rw[we]at hl;refine RY (by rw[Wx,we,Wx,hl]) λi w hw=>?_
 rw[Vp]at hw;rw[wk,wG,Vp]
 split at hw
 ·rename_i e
  rw[if_pos e]
  split at hw
  ·rename_i z
   rw[if_pos ()];cases hw;exact iv
  ·cases hw
 ·rename_i e
  rw[if_neg e];obtain⟨hi,ix⟩:=gz t hw;rw[wk,wg hi]at ix;rw[wg hi];exact ix
theorem zA7{x:Rat}{P:Rat->Prop}(h:∀y∈xs,P y)(hx:P x):∀y∈xs.set j x,P y:=λy hy=>by
 rcases List.mem_or_eq_of_mem_set hy with h' | h'
 ·exact h y h'
 ·rw[h'];exact hx
theorem zoC(T:Txt w K mg a):aC P w K mg base aO 2 a.HX a.GJ zL (MW K):=by
 refine T.G6.F.ok nA ?_ ?_;wtm_at "b2"
 refine⟨_,(aj (aJ 2 nA.nd (aG aN aA (av (dB T) hr T.de (aa (pv 0) (aa aA af)))))
     (aj (aJ 3 nA.nd (av (dB T) hr T.de (aa (pv 0) (aa aA af))))
     (aj (aJ 4 nA.nd (cS af))
     (aj (kH Wg rfl (l9 rfl T.h1U (q1 1)) (fL (i:=5) nA.nd rfl (Or.inl rfl)) (aj (aJ 6 nA.nd (f_ eK (cS (aa (pv 2) (aa (pv 2) (aa (aG aN aA (av (dB T) hr T.de (aa (pv 0) (aa aA af)))) af)))) (pv 3) (λ_ _=>rfl)))
     (aj (lU (cq Wn VG VH nY (pv 4) (aa (av (DK T) hr T.rO (aa (av (dB T) hr T.de (q2 0 6)) (q1 6))) af)))
     (ak (bo (PW.pt (zR (en ki (pv 5) aA (cN _)) (uP (gD K hu (av (dB T) hr T.de (aa (pv 0) (aa aA af))) aA)))) (ak (lO (f_ eK (pv 4) (av (dB T) hr T.de (q2 0 5)) (λ_ _=>rfl)) (pT (pv 4) (pv 5) oR))) bj)))))
     (ak (aB (pv 4))))))),?_⟩
 wtm_at "cl";rw[show start Pk [x0,x1]=[some x0,some x1,none,none,none,none,none]from rfl];obtain⟨p,k,n,rfl,rfl,hp,h8,q⟩:=h;wtm_at "ga";rename_i r H1 r0 r1 E1 K1 P1 w H2 w0 w1 E2 K2 P2 lf H3 hf S3 e3;have nef:lf≠p:=aS.ne hf P2
 have hfr:H lf=none:=by
   cases e:H lf with
   | none=>rfl
   | some o=>rw[E2 lf o nef (E1 lf o nef e)]at hf;cases hf
 have X0:Exc p H H3:=E1.trans (E2.trans S3.exc);have K0:aZ H H3:=K1.trans (K2.trans S3.keep);have P0:=P2.same S3;clear E1 K1 P1 hp E2 K2 P2 S3 hf
 refine oO (n:=(n:Int)) () () (λi σ H'=>∃(o5 o6:Option V)(us:List V)(xs:List Rat),σ = [some (.ref p),some (.int (n:Int)),some (.int (1+r)),some (.int w),some (.ref lf),o5,o6]/\Exc p H H'/\aZ H H'/\aS H' p k/\H' lf=some (.lst us)/\aq K H' us (xs.map N)/\xs.length=i /\ ∀x∈xs,di x)
   ⟨_,_,[],[],rfl,X0,K0,P0,e3,.nil,rfl,by simp⟩ ?_ ?_
 . rintro i σ H4 hi ⟨o5,o6,us,xs,rfl,X4,K4,P4,e4,t4,hlen,ph⟩
   have hi8:i<8:=by lia
   have hul:us.length=xs.length:=by rw[t4.length,we]
   wtm_at "ga";rename_i u H5 u0 u1 E5 K5 P5 l6 H6 n6 S6 e6 b hb;have b0:1<=b:=by lia
   have b1:b<=60:=by lia
   have e7:H6 lf=some (.lst us):=S6 _ _ (E5.at nef e4);have t7:aq K H6 us (xs.map N):=aq.keep (K5.trans S6.keep) _ _ (gw _) t4;have X7:Exc p H H6:=X4.trans (E5.trans S6.exc);have L7:aZ H H6:=K4.trans (K5.trans S6.keep);have P7:=P5.same S6;clear E5 K5 P5 S6 e6 n6 X4 K4 P4 e4 t4 hb;o_head ma (aI.of e7) ?_;k_few;rename_i t H8 t0 t1 E8 K8 P8 v9 H9 x9 S9 i9 ex9 b9;have e9:=S9 _ _ (E8.at nef e7);have t9:aq K H9 us (xs.map N):=aq.keep (K8.trans S9.keep) _ _ (gw _) t7;have px:di x9:=by rw[ex9];exact ZL () () ()
   refine yW e9 () (λH10 E10 e10=>?_);have k10:=E10.keep e9
   have t10:aq K H10 (us++[v9]) ((xs++[x9]).map N):=by
     rw[vJ];exact(aq.keep k10 _ _ (gw _) t9).append (.cons (i9.hX k10) .nil)
   have ph10:∀x∈xs++[x9],di x:=λy hy=>by
     rcases vR.mp hy with h | h
     . exact ph y h
     . rw[wY.mp h];exact px
   have X9:Exc p H H9:=X7.trans (E8.trans S9.exc);have X10:Exc p H H10:=λb o hb h=>E10 b o (gv h hfr) (X9 b o hb h)
   have L10:aZ H H10:=L7.trans (K8.trans (S9.keep.trans k10));have P10:aS H10 p k:=(P8.same S9).exc E10 (WC nef);have hl10:(xs++[x9]).length=i+1:=by rw[vc,hlen];rfl
   have hu10:(us++[v9]).length=i+1:=by rw[vc,hul,hlen];rfl
   clear E8 K8 P8 S9 e9 t9 X9 X7 L7 P7 e7 t7 E10 k10 i9;generalize us++[v9]=us at *;generalize xs++[x9]=xs at *;k_few
   . rename_i y0 d H11 d0 d1 E11 K11 P11 yd c H12 c0 c1 E12 K12 P12
     have e12:=E12.at nef (E11.at nef e10);have K112:=K11.trans K12;have t12:aq K H12 us (xs.map N):=aq.keep K112 _ _ (gw _) t10;refine sX (iJ e12 t12) c0 () (λv13 i13=>?_);o_head y_ (j:=i) e12 (by unfold gc;rw[if_pos (),if_pos ()];simp) (λH14 E14 e14=>?_);have K14:=E14.keep e12;k_few;exact⟨_,_,_,xs.set i (xs.getD c.toNat 0),rfl,λb o hb h=>E14 b o (gv h hfr) (E12 b o hb (E11 b o hb (X10 b o hb h))),L10.trans (K112.trans K14),P12.exc E14 (WC nef),e14,zzM (aq.keep K14 _ _ (gw _) t12) (i13.hX K14) i,by rw[Wx];exact hl10,zA7 ph10 (ph10 _ (getD_mem ()))⟩
   . rename_i y0 d H11 d0 d1 E11 K11 P11 yd
     exact⟨_,_,us,xs,rfl,X10.trans E11,L10.trans K11,P11,E11.at nef e10,aq.keep K11 _ _ (gw _) t10,hl10,ph10⟩
   . exact⟨_,_,us,xs,rfl,X10,L10,P10,e10,t10,hl10,ph10⟩
 . rintro σ H4 ⟨o5,o6,us,xs,rfl,X4,K4,P4,e4,t4,hlen,ph⟩
   k_few;exact q lf H4 us xs hfr X4 K4 P4 e4 t4 () ph
def Nh(K:wa):Sp:=λvs H Q _=>∃x0,vs=[x0] /\ ∃r:Rat,Is K H x0 (N r)/\bR 400 r/\Q (.str (aP r)) H
theorem zpS{v:V}(h:Is K H v (N r))(hf:bR 400 r)(q:Q (.str (aP r)) H):Nh K [v] H Q E:=⟨_,rfl,r,h,hf,q⟩
theorem zpY(T:Txt w K mg a):aC P w K mg base aO 1 a.IW a.Hm yS (Nh K):=by
 refine T.HV.F.ok zp9 ?_ ?_;wtm_at "b1";have hgd:=hr.gd
 refine⟨_,(aj (bo (gD K hu (qi 0) aA) (ak (aB (d5 (show aM _ (.type "str") gn from iZ) rfl T.h1Z gk (aa (qi 0) af)))) bj)
     (ak (aB (aG aN (aG aN (d5 (show aM _ (.type "str") gn from iZ) rfl T.h1Z gk (aa (qi 0) af)) ag) (d5 (show aM _ (.type "str") gn from iZ) rfl T.h1Z gk (aa (qi 0) af)))))),?_⟩
 wtm_at "cl";rw[show start Dm [x0]=[some x0]from rfl];obtain⟨r,hr,hf,q⟩:=h;have z:2000<=wr:=by decide
 have l1:=Cr r.num;have f1:=hf.n;have f2:=hf.d;k_few
 . rename_i e
   have e:r.den=1:=by lia
   unfold aP at q;rw[if_pos e]at q;refine j2 (rC f1) ?_;rw[ky];exact q
 . rename_i e
   have e:¬ r.den=1:=by lia
   unfold aP at q;rw[if_neg e]at q;refine j2 (rC f1) ?_;rw[ky];o_head .inr (.inr ⟨_,_,rfl,rfl,by show _+1<=_;lia,?_⟩);o_head j2 (by rw[VT];exact rC f2) ?_;rw[ky,pV];o_head .inr (.inr ⟨_,_,rfl,rfl,by rw[bD,fM];show _+1+_<=_;lia,?_⟩);rw[show(wb "/")=⟨#[47]⟩from nU];exact q
def SY(K:wa):Sp:=λvs H Q _=>∃x0,vs=[x0] /\ ∃xs:List Rat,Is K H x0 (TN xs)/\xs.length<=20/\(∀x∈xs,bR 400 x)/\Rq H Q (.str (d7 xs))
theorem SF{v:V}(h:Is K H v (TN xs))(hl:xs.length<=20)(hf:∀x∈xs,bR 400 x)(q:Rq H Q (.str (d7 xs))):SY K [v] H Q E:=⟨_,rfl,xs,h,hl,hf,q⟩
theorem Ry(T:Txt w K mg a):aC P w K mg base aO 2 a.I0 a.GW u7 (SY K):=by
 refine T.Ah.F.ok zqW ?_ ?_;wtm_at "b1";refine⟨_,(ak (aB (cq wI vf vg (show cf _ "str.join" (dr K)from fe) ag (aa (c_ rfl (cF ["_law_one"] [none]) (lE (pv 0)) (λ_ _ _ _ _=>(cv 0)) (λ_ _ _ _ _=>cX) (λ_ _ _ _ _=>(av (zpY (K:=K) (mg:=mg) (a:=a) T) hr T.HV (q1 0)))) af)))),?_⟩;wtm_at "cl";rw[show start Fm [x0]=[some x0]from rfl];obtain⟨xs,hx,hl,hf,q⟩:=h;obtain⟨a1,vs,rfl,hs,tv⟩:=bX.mp hx;o_head fE ?_;o_head kn hs (o0:=none) (tl:=[]) rfl (λj y _=>y=.str (aP (xs.getD j 0))) ?_ ?_
 ·intro D j x ys o H1 hx inv
  obtain⟨hj,iy⟩:=gz tv hx;o_head zpS (iy.by inv.2.2.1) (hf _ (getD_mem hj)) ?_;k_few;exact cY inv () (λ_ _ _ _ _ h=>h) ⟨_,rfl⟩ (ae.refl _) rfl
 ·intro D ys H1 n1 S1 e1 l1 r1
  have lv:=tv.length;rw[we]at lv
  have ey:ys=(xs.map aP).map V.str:=by
   refine vv (by rw[l1];simp;lia) λi h1 h2=>?_
   rw[r1 i ys[i] (wg h1)];rw[we,we]at h2;simp[wk,wg h2]
  rw[ey]at e1;o_head pI (B:=802) (.of e1) (λy hy=>?_) ?_ (q _ S1)
  ·obtain⟨x,hx',rfl⟩:=wU.mp hy
   exact tM (hf x hx')
  ·rw[we,yX]
   show xs.length*802+xs.length*1<=_
   lia
def Ng(K:wa):Sp:=λvs H Q _=>∃x0,vs=[x0] /\ ∃p:wc,x0=.ref p/\aS H p 0 /\ ∀v H' (ra rb:Rat) (xs:List Rat),Exc p H H'->aZ H H'->aS H' p 0->Is K H' v (br ra rb xs)->cw ra rb->1<=xs.length->xs.length<=5->(∀x∈xs,di x)->Q v H'
theorem zpM{p:wc}(hp:aS H p 0)(q:∀v H' (ra rb:Rat) (xs:List Rat),Exc p H H'->aZ H H'->aS H' p 0->Is K H' v (br ra rb xs)->cw ra rb->1<=xs.length->xs.length<=5->(∀x∈xs,di x)->Q v H'):Ng K [.ref p] H Q E:=⟨_,rfl,p,rfl,hp,q⟩
theorem Zj(T:Txt w K mg a):aC P w K mg base aO 3 a.ID a.GX zf (Ng K):=by
 refine T.HS.F.ok M4 ?_ ?_;wtm_at "b1"
 refine⟨_,(aj (aJ 1 M4.nd (av (Zo T) hr T.Ic (q1 0)))
     (ak (aB (cE (aa (pv 1) (aa (fZ K T.h1S (aa (av (zoC T) hr T.G6 (aa (pv 0) (aa (aG aN aA (av (dB T) hr T.de (aa (pv 0) (aa (f_ eK (cS (by exact(@aa _ _ _ _ _ aA (@aa _ _ _ _ _ aA (@aa _ _ _ _ _ aA (@aa _ _ _ _ _ aA (@aa _ _ _ _ _ aA (@aa _ _ _ _ _ aA af ay) ay) ay) ay) ay) ay))) (av (dB T) hr T.de (aa (pv 0) (aa aA af))) (λ_ _=>rfl)) af)))) af))) af)) af)))))),?_⟩
 wtm_at "cl";rw[show start O3 [x0]=[some x0,none]from rfl];obtain⟨p,rfl,hp,q⟩:=h;o_head zrO hp (λvr H1 ra rb E1 K1 P1 ir ok=>?_);o_head fj ∅ (λl2 H2 n2 S2 e2=>?_);have P2:=P1.same S2;have n2p:l2≠p:=aS.ne n2 P1;k_few;rename_i r H3 r0 r1 E3 K3 P3 z hz s H4 s0 s1 E4 K4 P4;obtain⟨n,rfl⟩:∃n:Nat,s=(n:Int):=⟨s.toNat,by lia⟩;rw[show(1:Int)+(n:Int)=((n+1:Nat):Int) by lia];refine zon P4 () (λlx H6 us xs n6 E6 K6 P6 e6 t6 l6 px=>?_);have ir6:=ir.cJ (S2.keep.trans (K3.trans (K4.trans K6))) (By ra rb);o_head lS (cR.mpr ⟨lx,us,rfl,.of e6,t6⟩) (λv7 H7 S7 i7=>?_);o_head eE (ds:=[R ra rb,TN xs]) ∅ (.cons (ir6.by S7) (.cons i7 .nil)) (λv8 H8 S8 i8=>?_);have T:=S7.trans S8;exact q v8 H8 ra rb xs (E1.trans (S2.exc.trans (E3.trans (E4.trans (E6.trans T.exc))))) (K1.trans (S2.keep.trans (K3.trans (K4.trans (K6.trans T.keep))))) (P6.same T) i8 ok () () px
def O1(K:wa):Sp:=λvs H Q _=>∃x0,vs=[x0] /\ ∃(ra rb:Rat)(xs:List Rat),Is K H x0 (br ra rb xs)/\cw ra rb/\xs.length<=8/\(∀x∈xs,bR 60 x)/\Rq H Q (.str (c6 ra rb xs))
theorem Ox{v:V}(h:Is K H v (br ra rb xs))(ok:cw ra rb)(h8:xs.length<=8)(hf:∀x∈xs,bR 60 x)(q:Rq H Q (.str (c6 ra rb xs))):O1 K [v] H Q E:=⟨_,rfl,ra,rb,xs,h,ok,h8,hf,q⟩
theorem Lg(T:Txt w K mg a):aC P w K mg base aO 3 a.Jn a.HA tG (O1 K):=by
 refine T.Am.F.ok zsU ?_ ?_;wtm_at "b1";refine⟨_,(ak (aB (aG aN (aG aN (aG aN ag (av (Ry T) hr T.Ah (aa (qi 0) af))) ag) (av (Ry T) hr T.Ah (aa (qi 0) af))))),?_⟩;wtm_at "cl";rw[show start Ds [x0]=[some x0]from rfl];obtain⟨ra,rb,xs,hw,ok,h8,hf,q⟩:=h;have z:4000<=wr:=by decide
 have fr:∀x∈[ra,rb],bR 60 x:=Nj ok;have w1:=m_ fr;have w2:=m_ hf;have w3:xs.length*(2*60+3)<=8*123:=Vs _ h8;have l1:(wb "rule ").length=5:=by decide
 have l3:(wb "\nworms ").length=7:=by decide
 simp only[wQ,WO]at w1;o_head bz (j:=0) hw rfl (λv0 i0=>?_);o_head SF (xs:=[ra,rb]) i0 ∅ (λx hx=>(fr x hx).mono ⋯) (λH1 S1=>?_);o_head .inr (.inr ⟨_,_,rfl,rfl,by lia,?_⟩);o_head .inr (.inr ⟨_,_,rfl,rfl,by rw[bD];lia,?_⟩);o_head bz (j:=1) (hw.by S1) rfl (λv1 i1=>?_);o_head SF i1 () (λx hx=>(hf x hx).mono ⋯) (λH2 S2=>?_);o_head .inr (.inr ⟨_,_,rfl,rfl,by rw[bD,bD];lia,?_⟩);exact q _ (S1.trans S2)
def iW(a:Ad)(C:wc)(d:wm):Prop:=C=a.cI/\d="row"\/C=a.bC/\d="text"\/C=a.bM/\d="swarm"\/C=a.cH/\d="back"\/C=a.cu/\d="stand"\/C=a.cG/\d="rule"
def Ti(K:wa)(a:Ad):Sp:=λvs H Q _=>∃x0,vs=[x0] /\ ∃(ex C:wc)(d:wm),x0=.ref ex/\H ex=some (ie ex (.ref C))/\iW a C d/\Rq H Q (.str d)
theorem OV{ex:wc}(h:H ex=some (ie ex (.ref C)))(hd:iW a C d)(q:Rq H Q (.str d)):Ti K a [.ref ex] H Q E:=⟨_,rfl,ex,C,d,rfl,h,hd,q⟩
theorem KI{ex:wc}{C:wd}{P:Hp->Prop}(h:H' ex=none)(q:∀H1,ae H' H1->H1 ex=some (ie ex C)->P H1):P (upd H' ex (ie ex C)):=q _ (ae.upd h) bW
theorem O7(T:Txt w K mg a):aC P w K mg base aO 1 a.IG a.G1 tH (Ti K a):=by
 refine T.Ag.F.ok DD ?_ ?_;wtm_at "b1"
 refine⟨_,(aj (bo (PW.pt (dh (bI (bH (show aM _ (.builtin "isinstance") (gL K)from kM) rfl T.h1i dy (aa (pv 0) (aa (cE (aa (bZ (v:=.ref a.ju) rfl T.W_ rfl) (aa (bZ (v:=.ref a.jw) rfl T.Yw rfl) (aa (bZ (v:=.ref a.jv) rfl T.Yg rfl) af)))) af)))) (eG (cc (bI (bH (show aM _ (.builtin "isinstance") (gL K)from kM) rfl T.h1i dy (aa (pv 0) (aa (fz (v:=.ty "ValueError") rfl T.h1h zop rfl) af)))))))) (ak (aB ag)) bj)
     (aj (aJ 1 DD.nd (cS (aa (bH (show aM _ (.builtin "isinstance") (gL K)from kM) rfl T.h1i dy (aa (pv 0) (aa (bZ (v:=.ref a.cI) rfl T.JY rfl) af))) (aa (bH (show aM _ (.builtin "isinstance") (gL K)from kM) rfl T.h1i dy (aa (pv 0) (aa (bZ (v:=.ref a.bC) rfl T.j8 rfl) af))) (aa (bH (show aM _ (.builtin "isinstance") (gL K)from kM) rfl T.h1i dy (aa (pv 0) (aa (bZ (v:=.ref a.bM) rfl T.ow rfl) af))) af)))))
     (aj (aJ 1 DD.nd (aG aN (pv 1) (cS (aa (bH (show aM _ (.builtin "isinstance") (gL K)from kM) rfl T.h1i dy (aa (pv 0) (aa (bZ (v:=.ref a.cH) rfl T.Jw rfl) af))) (aa (bH (show aM _ (.builtin "isinstance") (gL K)from kM) rfl T.h1i dy (aa (pv 0) (aa (bZ (v:=.ref a.cu) rfl T.IJ rfl) af))) (aa (bH (show aM _ (.builtin "isinstance") (gL K)from kM) rfl T.h1i dy (aa (pv 0) (aa (bZ (v:=.ref a.cG) rfl T.Jm rfl) af))) af))))))
     (aj (bo (eM K hu (cq Wn xq PySem.F.type_list_count (show cf _ "list.count" (RE K)from zv0) (pv 1) (aa dM af)) aA) (ak (aB ag)) bj)
     (ak (aB (f_ eK (cS (by exact(@aa _ _ _ _ _ ag (@aa _ _ _ _ _ ag (@aa _ _ _ _ _ ag (@aa _ _ _ _ _ ag (@aa _ _ _ _ _ ag (@aa _ _ _ _ _ ag af ay) ay) ay) ay) ay) ay))) (cq Wn xo PySem.F.type_list_index zxN (pv 1) (aa dM af)) (λ_ _=>rfl)))))))),?_⟩
 wtm_at "cl";rw[show start Rl [x0]=[some x0,none]from rfl];obtain⟨ex,C,d,rfl,ee,hd,q⟩:=h;rcases hd with⟨rfl,rfl⟩ | ⟨rfl,rfl⟩ | ⟨rfl,rfl⟩ | ⟨rfl,rfl⟩ | ⟨rfl,rfl⟩ | ⟨rfl,rfl⟩
 all_goals
   o_head fG ∅ (λtp H2 n2 S2 e2=>?_);k_few
   refine zwA (cs:=[a.ju,a.jw,a.jv]) (S2 _ _ ee) (by wtm_at "ecls") (.of e2) (λc hc=>by
     simp only[wz,vI,or_false]at hc;rcases hc with rfl | rfl | rfl<;>wtm_at "kit") ?_
   have ee2:=S2 _ _ ee;o_head zv9 ee2 (by wtm_at "ecls") (by wtm_at "kit") ?_;o_head mT ee2 (by wtm_at "ecls") (by wtm_at "kit") ?_;o_head mT ee2 (by wtm_at "ecls") (by wtm_at "kit") ?_;o_head mT ee2 (by wtm_at "ecls") (by wtm_at "kit") ?_;o_head fj ∅ (λl3 H3 n3 S3 e3=>?_);o_head mT (S3 _ _ ee2) (by wtm_at "ecls") (by wtm_at "kit") ?_;o_head mT (S3 _ _ ee2) (by wtm_at "ecls") (by wtm_at "kit") ?_;o_head mT (S3 _ _ ee2) (by wtm_at "ecls") (by wtm_at "kit") ?_;o_head fj ∅ (λl4 H4 n4 S4 e4=>?_);refine pQ (S4 _ _ e3) e4 ⋯ (λl5 H5 n5 S5 e5=>?_);have T5:ae H H5:=S2.trans (S3.trans (S4.trans S5));clear S2 S3 S4 S5 ee ee2 e2 n2 n3 e3 e4 n4;o_head ma (.of e5) ?_;o_head ⟨l5,[_,_,_,_,_,_],rfl,rfl,.of e5,?_⟩;rw[show((List.count true _:Nat):Int)=1 from by decide];o_head fj (by show 6<=1000;decide) (λl6 H6 n6 S6 e6=>?_);o_head ma (.of (S6 _ _ e5)) ?_;k_few
   first
     | refine oa (bs:=[_,_,_,_,_,_]) 0 (.of (S6 _ _ e5)) ∅ rfl (λm hm=>by rcases m with _ | _ | _ | _ | _ | m<;>first | rfl | lia) ?_
     | refine oa (bs:=[_,_,_,_,_,_]) 1 (.of (S6 _ _ e5)) ∅ rfl (λm hm=>by rcases m with _ | _ | _ | _ | _ | m<;>first | rfl | lia) ?_
     | refine oa (bs:=[_,_,_,_,_,_]) 2 (.of (S6 _ _ e5)) ∅ rfl (λm hm=>by rcases m with _ | _ | _ | _ | _ | m<;>first | rfl | lia) ?_
     | refine oa (bs:=[_,_,_,_,_,_]) 3 (.of (S6 _ _ e5)) ∅ rfl (λm hm=>by rcases m with _ | _ | _ | _ | _ | m<;>first | rfl | lia) ?_
     | refine oa (bs:=[_,_,_,_,_,_]) 4 (.of (S6 _ _ e5)) ∅ rfl (λm hm=>by rcases m with _ | _ | _ | _ | _ | m<;>first | rfl | lia) ?_
     | refine oa (bs:=[_,_,_,_,_,_]) 5 (.of (S6 _ _ e5)) ∅ rfl (λm hm=>by rcases m with _ | _ | _ | _ | _ | m<;>first | rfl | lia) ?_
   refine dS (.of e6) rfl ?_;exact q _ (T5.trans S6)
def N_(K:wa)(a:Ad):Sp:=λvs H Q _=>∃x0 x1,vs=[x0,x1] /\ ∃(o l:wc)(ra rb t w:Rat)(xs ys:List Rat)(past:List (Rat × List Rat))(y:wm),x0=.ref o/\cz K H a.bG o l ra rb xs t past/\Is K H x1 (.tuple [.str y,N w,br ra rb ys])/\ah 1000 t/\ah 1000 w/\past.length<=100 /\ ∀H',fN o l H H'->cz K H' a.bG o l ra rb ys (t+w) (past++[(t,xs)])->Q (.str y) H'
theorem znx{w:Rat}{ys:List Rat}{v:V}(h:cz K H a.bG o l ra rb xs t past)(i:Is K H v (.tuple [.str y,N w,br ra rb ys]))(b1:ah 1000 t)(b2:ah 1000 w)(hl:past.length<=100)(q:∀H',fN o l H H'->cz K H' a.bG o l ra rb ys (t+w) (past++[(t,xs)])->Q (.str y) H'):N_ K a [.ref o,v] H Q E:=⟨_,_,rfl,o,l,ra,rb,t,w,xs,ys,past,y,rfl,h,i,b1,b2,hl,q⟩
theorem znO(T:Txt w K mg a):aC P w K mg base aO 3 a.Af a.Gu yY (N_ K a):=by
 refine T.Gx.F.ok zmQ ?_ ?_;wtm_at "b2"
 refine⟨_,(aj (lU (cq Wn VG VH nY (hZ (pv 0) rfl) (aa (cE (aa (hZ (pv 0) rfl) (aa (hZ (pv 0) rfl) af))) af)))
     (aj (lX (pv 0) (av (kO T) hr T.jx (aa (hZ (pv 0) rfl) (aa (qi 1) af))) rfl)
     (aj (lX (pv 0) (qi 1) rfl)
     (ak (aB (qi 1)))))),?_⟩
 wtm_at "cl";rw[show start EM [x0,x1]=[some x0,some x1]from rfl];obtain⟨o,l,ra,rb,t,w,xs,ys,past,y,rfl,⟨dx,vs,vh,ps,D⟩,i,b1,b2,hl,q⟩:=h;have hpl:=D.p.length;unfold gx at hpl;rw[we]at hpl;have nol:l≠o:=λz=>by have:=D.l;rw[z,D.e]at this;cases this
 o_head fq D.e T.bU T.rG rfl (ma (.of D.l) ?_);o_head fq D.e T.bU T.mD rfl ?_;o_head fq D.e T.bU T.fP rfl ?_;o_head eE (ds:=[N t,br ra rb xs]) ∅ (.cons D.h (.cons D.s .nil)) (λv1 H1 S1 i1=>?_);o_head yW (S1 _ _ D.l) () (λH2 E2 e2=>?_);have K2:=E2.keep (S1 _ _ D.l);have K02:=S1.keep.trans K2;have o2:=E2.at nol.symm (S1 _ _ D.e);have h2:=D.h.cJ K02 (eX _);have it2:=i.cJ K02 (by rw[bJ,aU,aU,aU,bJ,eX,d8];rfl);o_head mj ?_;o_head fq o2 T.bU T.mD rfl ?_;o_head bz (j:=1) it2 rfl (λv3 i3=>?_);k_few;rename_i v4 H3 S3 i4;have o3:=S3 _ _ o2;refine lj o3 T.bU T.mD (λH4 E4 e4=>?_);rw[N6]at e4;have K4:=E4.j9 o3;have K24:=S3.keep.trans K4;have it4:=it2.cJ K24 (by rw[bJ,aU,aU,aU,bJ,eX,d8];rfl);o_head mj ?_;o_head bz (j:=2) it4 rfl (λv5 i5=>?_);o_head lj e4 T.bU T.fP (λH5 E5 e5=>?_);rw[OY]at e5;have K5:=E5.j9 e4;have K35:=K4.trans K5;o_head bz (j:=0) (it4.cJ K5 (by rw[bJ,aU,aU,aU,bJ,eX,d8];rfl)) rfl (λv6 i6=>?_);rw[cP.mp i6];refine q H5 (λb x nb nl h=>E5 b x nb (E4 b x nb (S3 b x (E2 b x nl (S1 b x h))))) ⟨dx,v5,v4,ps++[v1],e5,i5.cJ K5 (d8 _ _ _),i4.cJ K35 (eX _),E5.at nol (E4.at nol (S3 _ _ e2)),?_⟩;unfold gx;rw[vJ];have K15:=K2.trans (S3.keep.trans K35)
 exact(aq.keep (S1.keep.trans K15) _ _ (rl ra rb past) D.p).append (.cons (i1.cJ K15 (by rw[bJ,aU,aU,eX,d8];rfl)) .nil)
def Mo(K:wa)(a:Ad):Sp:=λvs H Q E=>∃x0,vs=[x0] /\ ∃(o l:wc)(ra rb t:Rat)(xs:List Rat)(past:List (Rat × List Rat)),x0=.ref o/\cz K H a.bG o l ra rb xs t past/\past.length<=100/\(past=[]->∀H',ae H H'->E (.ref a.cH) none H')/\(∀p t' ys,past=p++[(t',ys)]->∀H',fN o l H H'->cz K H' a.bG o l ra rb ys t' p->Q (.str "ok") H')
theorem Zg(h:cz K H a.bG o l ra rb xs t past)(hl:past.length<=100)(q0:past=[]->∀H',ae H H'->E (.ref a.cH) none H')(q:∀p t' ys,past=p++[(t',ys)]->∀H',fN o l H H'->cz K H' a.bG o l ra rb ys t' p->Q (.str "ok") H'):Mo K a [.ref o] H Q E:=⟨_,rfl,o,l,ra,rb,t,xs,past,rfl,h,hl,q0,q⟩
theorem zl0(T:Txt w K mg a):aC P w K mg base (bQ P w) 1 a.Ab a.Ge yk (Mo K a):=by
 refine T.Gp.F.dO OG ?_ ?_;wtm_at "b1"
 refine⟨_,(aj (bo (cc (o8 (hZ (pv 0) rfl))) (ak (ft T.Yk rfl rfl T.Jw fC (aa ag af))) bj)
     (aj (aJ 1 OG.nd (zCc Wn PySem.F.slot_list_pop PySem.F.type_list_pop zCR (hZ (pv 0) rfl)))
     (aj (lX (pv 0) (qi 1) rfl)
     (aj (lX (pv 0) (qi 1) rfl)
     (ak (aB ag)))))),?_⟩
 wtm_at "cl";rw[show start Pm [x0]=[some x0,none]from rfl];obtain⟨o,l,ra,rb,t,xs,past,rfl,⟨dx,vs,vh,ps,D⟩,hl,q0,q⟩:=h;have hpl:=D.p.length;have il:Is K H (.ref l) (.list (gx ra rb past)):=cR.mpr ⟨l,ps,rfl,.of D.l,D.p⟩;o_head fq D.e T.bU T.rG rfl (A6 il ?_);rcases xE past with e | ⟨pp,⟨t',ys⟩,e⟩
 . subst e
   rw[show(!(gx ra rb []).isEmpty)=false from rfl];k_few;exact⟨by simp;decide,q0 rfl _ (ae.refl _)⟩
 . rw[xF]at e
   subst e;have hne:(!(gx ra rb (pp++[(t',ys)])).isEmpty)=true:=by simp[gx]
   rw[hne];k_few
   obtain⟨us,u1,eu,tp,t1⟩:∃us u1,ps=us++[u1]/\aq K H us (gx ra rb pp)/\Is K H u1 (.tuple [N t',br ra rb ys]):=by
     have h:=D.p;unfold gx at h ⊢;rw[vJ]at h;exact ND h
   subst eu;have nol:l≠o:=λz=>by have:=D.l;rw[z,D.e]at this;cases this
   refine fq D.e T.bU T.rG rfl (ma (.of D.l) ?_);o_head zAi D.l (λH1 E1 e1=>?_);have K1:=E1.keep D.l;have o1:=E1.at nol.symm D.e;have i1:=t1.cJ K1 (by rw[bJ,aU,aU,eX,d8];rfl);have p1:=aq.keep K1 _ _ (rl ra rb pp) tp;o_head mj ?_;o_head bz (j:=0) i1 rfl (λv2 i2=>?_);o_head lj o1 T.bU T.mD (λH2 E2 e2=>?_);rw[N6]at e2;have K2:=E2.j9 o1;o_head mj ?_;o_head bz (j:=1) (i1.cJ K2 (by rw[bJ,aU,aU,eX,d8];rfl)) rfl (λv3 i3=>?_);o_head lj e2 T.bU T.fP (λH3 E3 e3=>?_);rw[OY]at e3;have K3:=E3.j9 e2;k_few;exact q pp t' ys rfl H3 (λb x nb nl h=>E3 b x nb (E2 b x nb (E1 b x nl h))) ⟨dx,v3,v2,us,e3,i3.cJ K3 (d8 _ _ _),i2.cJ (K2.trans K3) (eX _),E3.at nol (E2.at nol e1),aq.keep (K2.trans K3) _ _ (rl ra rb pp) p1⟩
def LG(K:wa)(a:Ad):Sp:=λvs H Q E=>∃x0 x1,vs=[x0,x1] /\ ∃(o l:wc)(ra rb t:Rat)(xs:List Rat)(past:List (Rat × List Rat))(x:wm),x0=.ref o/\x1=.str x/\cz K H a.bG o l ra rb xs t past/\aW x/\x.length<=300/\jK x=false /\ ∀H',ae H H'->E (.ref a.bC) none H'
theorem zg3(h:cz K H a.bG o l ra rb xs t past)(ha:aW x)(hl:x.length<=300)(hp:jK x=false)(q:∀H',ae H H'->E (.ref a.bC) none H'):LG K a [.ref o,.str x] H Q E:=⟨_,_,rfl,o,l,ra,rb,t,xs,past,x,rfl,rfl,h,ha,hl,hp,q⟩
theorem zht(T:Txt w K mg a):aC P w K mg base (bQ P w) 7 a.z6 a.FW zt (LG K a):=by
 refine T.FX.F.dO zhB ?_ ?_;wtm_at "b2";refine⟨_,(ak (aB (kq (bI (av (ztf T) hr T.Yi (aa (hZ (pv 0) rfl) (aa (eY (zoy T) hr T.G9 dq (q1 1)) af)))) ag ag))),?_⟩;wtm_at "cl";rw[show start Cn [x0,x1]=[some x0,some x1]from rfl];obtain⟨o,l,ra,rb,t,xs,past,x,rfl,rfl,⟨dx,vs,vh,ps,D⟩,ha,hl,hp,q⟩:=h;o_head fq D.e T.bU T.fP rfl ?_;k_few;exact⟨_,rfl,.inr ⟨x,rfl,ha,hl,λ_=>q,λz=>by rw[hp]at z;cases z⟩⟩
structure yt(K:wa)(a:Ad)(H:Hp)(o l:wc)(ra rb t:Rat)(xs:List Rat)(past:List (Rat × List Rat)):Prop where
 d:cz K H a.bG o l ra rb xs t past
 ok:cw ra rb
 h1:1<=xs.length
 h5:xs.length<=5
 n:∀x∈xs,0<=x
 c:Cm 290 xs
 t:ah 600 t
 p:past.length<=10
theorem OZ{v:V}{d:wu}{b:Bool}(h:Is K H v d)(e:l_ d=b)(q:Q (.bl b) H):oE K [v,.ty "str"] H Q:=.inl (yK h (by rw[e];exact q))
theorem Zk{v:V}(h:fU K H v)(q:Q (.bl false) H):oE K [v,.ty "str"] H Q:=by
 rcases h with⟨d,i,e⟩ | ⟨p,kvs,rfl,e⟩
 ·exact OZ i e q
 ·exact zvE e q
def N0(K:wa)(a:Ad)(H:Hp)(o l:wc)(ra rb t:Rat)(xs:List Rat)(past:List (Rat × List Rat))(x f:wm)(ws:List wm)(Q:VK)(E:XK):Prop :=
 (jh f ws xs.length=false /\ ∀H',ae H H'->E (.ref a.cI) none H')\/jh f ws xs.length=true /\
 ((f=wb "look"/\jK (vA x " ").2.2=false/\aW (vA x " ").2.2/\(vA x " ").2.2.length<=300 /\ ∀H',ae H H'->E (.ref a.bC) none H') \/
  (f=wb "move"/\(nZ (dE ws)<0\/nD (dE ws)<=nZ (dE ws)) /\ ∀H',ae H H'->E (.ref a.bM) none H') \/
  (f=wb "exchange" /\ ¬ (gS ws).Perm (eh xs.length) /\ ∀H',ae H H'->E (.ref a.bM) none H') \/
  ((f=wb "free"\/f=wb "still") /\ ¬ 0∈xs /\ ∀H',ae H H'->E (.ref a.cu) none H') \/
  (f=wb "back"/\(past=[]->∀H',ae H H'->E (.ref a.cH) none H') /\ ∀p t' ys,past=p++[(t',ys)]->∀H',fN o l H H'->cz K H' a.bG o l ra rb ys t' p->Q (.str "ok") H') \/
  (f=wb "glow" /\ ∀y H',fN o l H H'->cz K H' a.bG o l ra rb (eC ra rb xs) (t+(1-bO xs)) (past++[(t,xs)])->Q (.str y) H') \/
  (f=wb "hour"/\Rq H Q (.str (aP t))) \/
  (f=wb "swarm"/\Rq H Q (.str (j4 ra rb xs))))
def PQ(K:wa)(a:Ad)(H:Hp)(o l:wc)(ra rb t:Rat)(xs:List Rat)(past:List (Rat × List Rat))(x:wm)(Q:VK)(E:XK):Prop:=∃f ws,wF x " "=f::ws/\N0 K a H o l ra rb t xs past x f ws Q E
theorem ztR(n:Nat)(e:wF x " "=f::ws):(jh f ws n=false/\hW n x=1)\/jh f ws n=true /\
  (f=wb "move"/\(nZ (dE ws)<0\/nD (dE ws)<=nZ (dE ws))/\hW n x=3\/f=wb "exchange" /\ ¬ (gS ws).Perm (eh n)/\hW n x=3 \/
  f=wb "look"/\jK (vA x " ").2.2=false/\aW (vA x " ").2.2/\(vA x " ").2.2.length<=300/\hW n x=2\/hW n x=0):=by
 unfold hW;rw[e];dsimp only;cases hs:jh f ws n
 ·exact .inl ⟨rfl,if_pos rfl⟩
 refine .inr ⟨rfl,?_⟩;rw[if_neg ⋯]
 by_cases h1:(f == wb "move")=true
 ·rw[if_pos h1]
  by_cases h:(decide (nZ (dE ws)<0) || decide (nD (dE ws)<=nZ (dE ws)))=true
  ·rw[if_pos h]
   rw[W1,decide_eq_true_eq,decide_eq_true_eq]at h;exact .inl ⟨beq_iff_eq.mp h1,h,rfl⟩
  ·rw[if_neg h];exact .inr (.inr (.inr rfl))
 rw[if_neg h1]
 by_cases h2:(f == wb "exchange")=true
 ·rw[if_pos h2]
  by_cases h:decide ((gS ws).Perm (eh n))=true
  ·rw[if_pos h];exact .inr (.inr (.inr rfl))
  ·rw[if_neg h]
   rw[decide_eq_true_eq]at h;exact .inr (.inl ⟨beq_iff_eq.mp h2,h,rfl⟩)
 rw[if_neg h2]
 by_cases h3:(f == wb "look")=true
 ·rw[if_pos h3]
  split
  ·rename_i h
   rw[wy,wy,V3,decide_eq_true_eq]at h;exact .inr (.inr (.inl ⟨beq_iff_eq.mp h3,h.1,h.2.1,h.2.2,rfl⟩))
  ·exact .inr (.inr (.inr rfl))
 rw[if_neg h3];exact .inr (.inr (.inr rfl))
theorem jB{k b1 b2 b3 b4:wc}{b:Bool}(e:Ms f=b)(q:Q (.bl b) H)(hs : σ[3]? = some (some (.str f)):=by rfl):FG k [("glow",b1),("glows",b2),("move",b3),("exchange",b4)] (cQ 3) (tC (.ref k)) σ H Q :=
 ⟨.str f,hs,f,rfl,rfl,by
  rw[CQ]
  have e2:([((wb "glow"),b1),((wb "glows"),b2),((wb "move"),b3),((wb "exchange"),b4)].any λp=>f == p.1)=b:=by
   rw[<- e];unfold Ms;simp only[W3,xk,qo]
  rw[e2];exact q⟩
theorem fu{x y:String}(b:Bool)(e:(wb x == wb y)=b)(q:Q (.bl b) H):jd K (.str (wb x)) (.str (wb y)) H Q:=jF (cZ _) (cZ _) (by rw[e];exact q)
theorem nM{k:wc}{kvs:List (wm × wc)}{fs:List (wc × Sp)}{t:TA}{z:wm}{f:wc}{sp:Sp}(l:kvs.lookup z=some f)(m:(f,sp)∈fs)(h:t σ H λvs H2=>sp vs H2 Q E)(hs : σ[3]? = some (some (.str z)):=by rfl):Df fs E (R7 k kvs (tC (.ref k)) (cQ 3)) t σ H Q:=⟨.str z,hs,z,f,rfl,rfl,l,f,sp,rfl,m,h⟩
theorem zvX(h:ah 290 r):bR 90 r:=by
 have e:(2:Nat)^290<10^90:=by decide +kernel
 exact bR.of ⋯ (Qn h.t.lt e) (Qn (by have:=h.b.lt;rwa[VT]at this) e)
def LO(K:wa)(a:Ad):Sp:=λvs H Q E=>∃x0 x1,vs=[x0,x1] /\ ∃(o l:wc)(ra rb t:Rat)(xs:List Rat)(past:List (Rat × List Rat)),x0=.ref o/\yt K a H o l ra rb t xs past /\
 ((∃C,sD K a H xs past x1 C /\ ∀H',ae H H'->E (.ref C) none H') \/
  (x1=.str "glow" /\ ∀y H',fN o l H H'->cz K H' a.bG o l ra rb (eC ra rb xs) (t+(1-bO xs)) (past++[(t,xs)])->Q (.str y) H') \/
  (x1=.str "back"/\past≠[] /\ ∀p t' ys,past=p++[(t',ys)]->∀H',fN o l H H'->cz K H' a.bG o l ra rb ys t' p->Q (.str "ok") H') \/
  (x1=.str "hour"/\Rq H Q (.str (aP t))) \/
  (x1=.str "swarm"/\Rq H Q (.str (j4 ra rb xs))))
theorem jC(T:Txt w K mg a):aC P w K mg base (bQ P w) 8 a.As a.HJ yx (LO K a):=by
 refine T.iH.F.dO C5 ?_ ?_;wtm_at "b2";have hgd:=hr.gd
 refine⟨_,(aj (aJ 2 C5.nd (kq (bI (bH (show aM _ (.builtin "isinstance") (oE K)from ztp) rfl T.h1i dy (aa (pv 1) (aa (fz (v:=.ty "str") rfl T.h1Z gk rfl) af)))) (cq wI Ws Wt (show cf _ "str.split" iT from lJ) (pv 1) (aa ag af)) (cS (aa ag af))))
     (aj (aJ 3 C5.nd (qi 2))
     (aj (bo (cc (bI (av (ztr T) hr T.IL (aa (pv 3) (aa (dP eB (pv 2) (dZ aA) dQ) (aa (cD K T.h2f (aa (kD (hZ (pv 0) rfl)) af)) af)))))) (ak (ft T.Yu rfl rfl T.JY fC (aa ag af))) bj)
     (aj (bo (zCq (Ln (pv 3) (bZ (v:=.ref a.rN) rfl T.II rfl) T.IY) (by with_unfolding_all rfl)) (ak (aB (jM (pv 0) T.bU T.UW (znO T) (hr.mono ⋯) T.Gx.b .nil Lu (aa (zxF (Mf (bZ (v:=.ref a.rN) rfl T.II rfl) (pv 3) T.IY) (FE (ztg T) (hr.mono ⋯) T.Ap.F.kp T.Ap.b R6 (FE (zum T) (hr.mono ⋯) T.Ao.F.kp T.Ao.b dq (FE (Z5 T) (hr.mono ⋯) T.z_.F.kp T.z_.b dq ZG))) (aa (hZ (pv 0) rfl) (aa (dP eB (pv 2) (dZ aA) dQ) af))) af)))) bj)
     (Kw (zBV (show aY _ (vk .Eq) (jd K)from sF hu) (pv 3) RA (ak (aB (zxR (pv 0) T.bU T.UE (zl0 T) (hr.mono ⋯) T.Gp.b .nil dq))) bj)
     (nk (PS.p (bo (gD K hu (pv 3) ag) (ak (aB (av (zx T) hr T.oi (aa (hZ (pv 0) rfl) af)))) bj))
     (nk (PS.p (bo (gD K hu (pv 3) ag) (ak (aB (jM (pv 0) T.bU T.TH (zht T) (hr.mono ⋯) T.FX.b .nil dq (aa (kD (cq wI QW QX (show cf _ "str.partition" uQ from Lf) (pv 1) (aa ag af))) af)))) bj))
     (DE (Ff (zwp (Mf (bZ (v:=.ref a.rY) rfl T.Ka rfl) (pv 3) T.J8) (C3 (zoo T) (hr.mono ⋯) T.Ae.F.kp T.Ae.b R6 (C3 (zqd T).p (hr.mono ⋯) T.Ak.F.kp T.Ak.b dq (C3 (Zi T).p (hr.mono ⋯) T.Aa.F.kp T.Aa.b dq zzA))) (aa (hZ (pv 0) rfl) af))))))))))),?_⟩
 wtm_at "cl";rw[show start OR [x0,x1]=[some x0,some x1,none,none]from rfl];obtain⟨o,l,ra,rb,t,xs,past,rfl,sok,h⟩:=h;obtain⟨dx,vs,vh,ps,D⟩:=sok.d;have h1:=sok.h1;have h5:=sok.h5;have bx:∀i,ah 290 (xs.getD i 0):=λi=>sok.c.get i
 have z:2000<=wr:=by decide
 have hrow:(fU K H x1 /\ ∀H',ae H H'->E (.ref a.cI) none H') \/ ∃x:wm,x1=.str x/\aW x/\x.length<=300/\PQ K a H o l ra rb t xs past x Q E:=by
   have lit:∀w:wm,wF w " "=[w]->N0 K a H o l ra rb t xs past w w [] Q E->PQ K a H o l ra rb t xs past w Q E:=λw e g=>⟨w,[],e,g⟩
   rcases h with⟨C,hb,q⟩ | ⟨rfl,q⟩ | ⟨rfl,hne,q⟩ | ⟨rfl,q⟩ | ⟨rfl,q⟩
   . rcases hb with⟨hn,rfl⟩ | ⟨x,rfl,ha,hl,hb⟩
     . exact .inl ⟨hn,q⟩
     refine .inr ⟨x,rfl,ha,hl,?_⟩
     obtain⟨f,ws,hfw⟩:∃f ws,wF x " "=f::ws:=by
       cases e:wF x " " with
       | nil=>exact absurd e (lW x " ")
       | cons f ws=>exact⟨f,ws,rfl⟩
     have hk:=ztR xs.length hfw;rcases hb with⟨e,rfl⟩ | ⟨e,rfl⟩ | ⟨e,rfl⟩ | ⟨rfl,e,rfl⟩ | ⟨rfl | rfl,e,rfl⟩
     . rcases hk with⟨k,_⟩ | ⟨k,⟨_,_,z⟩ | ⟨_,_,z⟩ | ⟨_,_,_,_,z⟩ | z⟩
       . exact⟨f,ws,hfw,.inl ⟨k,q⟩⟩
       all_goals(rw[e]at z;cases z)
     . rcases hk with⟨_,z⟩ | ⟨k,⟨_,_,z⟩ | ⟨_,_,z⟩ | ⟨k1,k2,k3,k4,_⟩ | z⟩
       . rw[e]at z;cases z
       . rw[e]at z;cases z
       . rw[e]at z;cases z
       . exact⟨f,ws,hfw,.inr ⟨k,.inl ⟨k1,k2,k3,k4,q⟩⟩⟩
       . rw[e]at z;cases z
     . rcases hk with⟨_,z⟩ | ⟨k,⟨k1,k2,_⟩ | ⟨k1,k2,_⟩ | ⟨_,_,_,_,z⟩ | z⟩
       . rw[e]at z;cases z
       . exact⟨f,ws,hfw,.inr ⟨k,.inr (.inl ⟨k1,k2,q⟩)⟩⟩
       . exact⟨f,ws,hfw,.inr ⟨k,.inr (.inr (.inl ⟨k1,k2,q⟩))⟩⟩
       . rw[e]at z;cases z
       . rw[e]at z;cases z
     . exact lit _ (by decide +kernel) (.inr ⟨rfl,.inr (.inr (.inr (.inr (.inl ⟨rfl,λ_=>q,λp t' ys z=>by rw[e]at z;simp at z⟩))))⟩)
     . exact lit _ (by decide +kernel) (.inr ⟨rfl,.inr (.inr (.inr (.inl ⟨.inl rfl,e,q⟩)))⟩)
     . exact lit _ (by decide +kernel) (.inr ⟨rfl,.inr (.inr (.inr (.inl ⟨.inr rfl,e,q⟩)))⟩)
   . exact .inr ⟨_,rfl,by unfold aW;decide +kernel,by decide,lit _ (by decide +kernel) (.inr ⟨rfl,.inr (.inr (.inr (.inr (.inr (.inl ⟨rfl,q⟩)))))⟩)⟩
   . exact .inr ⟨_,rfl,by unfold aW;decide +kernel,by decide,lit _ (by decide +kernel) (.inr ⟨rfl,.inr (.inr (.inr (.inr (.inl ⟨rfl,λz=>absurd z hne,q⟩))))⟩)⟩
   . exact .inr ⟨_,rfl,by unfold aW;decide +kernel,by decide,lit _ (by decide +kernel) (.inr ⟨rfl,.inr (.inr (.inr (.inr (.inr (.inr (.inl ⟨rfl,q⟩))))))⟩)⟩
   . exact .inr ⟨_,rfl,by unfold aW;decide +kernel,by decide,lit _ (by decide +kernel) (.inr ⟨rfl,.inr (.inr (.inr (.inr (.inr (.inr (.inr ⟨rfl,q⟩))))))⟩)⟩
 clear h;k_few;rcases hrow with⟨hn,q⟩ | ⟨x,rfl,ha,hl,h⟩
 . refine Zk hn ?_
   o_head fj ∅ (λl1 H1 n1 S1 e1=>?_);o_head gE (.of e1) (λl2 H2 n2 S2 e2=>?_);rw[l0]at e2;have S:=S1.trans S2;o_head fq (S _ _ D.e) T.bU T.fP rfl ?_;o_head bz (j:=1) (D.s.by S) rfl (λv3 i3=>?_);o_head mh i3 ?_;o_head Oy (ws:=[]) (.of e2) (by unfold aW;decide +kernel) ∅ (λw hw=>nomatch hw) (λH3 S3=>?_);rw[show jh (wb "") [] xs.length=false from rfl];k_few;exact⟨by simp;decide,q _ (S.trans S3)⟩
 . refine OZ (b:=true) (d:=.str x) (cP.mpr rfl) rfl ?_
   o_head fE ?_;k_few;have few:=iP (x:=x) (s:=" ") ⋯;have ne:=lW x " ";have pin:=λt h=>gK (x:=x) (s:=" ") (t:=t) h
   refine lP ⋯ () () (λl1 H1 n1 S1 e1=>?_);obtain⟨f,ws,hfw,h⟩:=h;rw[hfw]at e1 few ne pin;clear hfw;obtain⟨pf,fl⟩:=pin f ∅;have pf:=pf ha
   have pw:∀w∈ws,aW w/\w.length<=900:=λw hw=>by
     obtain⟨k1,k2⟩:=pin w (wx _ hw);exact⟨k1 ha,by lia⟩
   rw[wQ]at few;o_head dS (.of e1) (gm (j:=0) rfl) ?_;o_head gE (.of e1) (λl2 H2 n2 S2 e2=>?_);rw[wE,l0]at e2;have S:=S1.trans S2;o_head fq (S _ _ D.e) T.bU T.fP rfl ?_;o_head bz (j:=1) (D.s.by S) rfl (λv3 i3=>?_);o_head mh i3 ?_;o_head Oy (.of e2) pf () pw (λH3 S3=>?_);rcases h with⟨hs,q⟩ | ⟨hs,h⟩
   . rw[hs]
     k_few;exact⟨by simp;decide,q _ (S.trans S3)⟩
   rw[hs];have T3:=S.trans S3;have e3:=S3 _ _ (S2 _ _ e1);have D3:M0 K H3 a.bG o l ra rb xs t past dx vs vh ps:=⟨T3 _ _ D.e,D.s.by T3,D.h.by T3,T3 _ _ D.l,aq.same T3 _ _ D.p⟩;clear e2 e1 n1 n2 S1 S2 S3 S D few ne pin v3 i3;k_few;have D3':cz K H3 a.bG o l ra rb xs t past:=⟨dx,vs,vh,ps,D3⟩;rcases h with⟨rfl,k1,k2,k3,q⟩ | ⟨rfl,k1,q⟩ | ⟨rfl,k1,q⟩ | ⟨rfl | rfl,k1,q⟩ | ⟨rfl,q0,q⟩ | ⟨rfl,q⟩ | ⟨rfl,q⟩ | ⟨rfl,q⟩
   . refine jB (b:=false) (f:=wb "look") ⋯ ?_
     o_head fu false ⋯ ?_;o_head fu false ⋯ ?_;o_head fu true ⋯ ?_;o_head gr D3.e ?_;o_head fE ?_;o_head AE ⋯ () rfl (λl4 H4 n4 S4 e4=>?_);refine jm (.of e4) rfl ?_;k_few;exact zg3 (D3'.by S4) k2 k3 k1 (λH' S'=>q H' (T3.trans (S4.trans S')))
   . refine jB (b:=true) (f:=wb "move") ⋯ ?_
     k_few
     obtain⟨w,rfl,hw⟩:∃w,ws=[w]/\nT w 6=true:=by
       have hs:(decide (ws.length=1)&&nT (dE ws) 6)=true:=hs;rw[wy,decide_eq_true_eq]at hs
       match ws,hs with
       | [w],hs=>exact⟨w,rfl,hs.2⟩
     refine gr D3.e ?_;o_head nM (f:=a.rX) rfl (.tail _ (.head _)) ?_;o_head fq D3.e T.bU T.fP rfl ?_;o_head gE (.of e3) (λl4 H4 n4 S4 e4=>?_);rw[wE,l0]at e4;k_few;exact zs4 (D3.s.by S4) (.of e4) hw k1 h1 () (λi=>(bx i).mono ⋯) sok.n (λH' S'=>q H' (T3.trans (S4.trans S')))
   . refine jB (b:=true) (f:=wb "exchange") ⋯ ?_
     k_few
     obtain⟨s1,s2⟩:ws.length=xs.length/\ws.all (wT · 1)=true:=by
       have hs:(decide (ws.length=xs.length)&&ws.all (wT · 1))=true:=hs;rw[wy,decide_eq_true_eq]at hs;exact hs
     refine gr D3.e ?_;o_head nM (f:=a.rH) rfl (.tail _ (.tail _ (.head _))) ?_;o_head fq D3.e T.bU T.fP rfl ?_;o_head gE (.of e3) (λl4 H4 n4 S4 e4=>?_);rw[wE,l0]at e4;k_few;exact znv (D3.s.by S4) (.of e4) s2 () () k1 (λH' S'=>q H' (T3.trans (S4.trans S')))
   . refine jB (b:=false) (f:=wb "free") ⋯ ?_
     o_head fu false ⋯ ?_;o_head fu false ⋯ ?_;o_head fu false ⋯ ?_;o_head nM (f:=a.rQ) rfl (.tail _ (.head _)) ?_;o_head fq D3.e T.bU T.fP rfl ?_;k_few;exact Z9 D3.s () (λi=>(bx i).mono ⋯) k1 (λH' S'=>q H' (T3.trans S'))
   . refine jB (b:=false) (f:=wb "still") ⋯ ?_
     o_head fu false ⋯ ?_;o_head fu false ⋯ ?_;o_head fu false ⋯ ?_;o_head nM (f:=a.rK) rfl (.tail _ (.tail _ (.head _))) ?_;o_head fq D3.e T.bU T.fP rfl ?_;k_few;exact zoh D3.s () (λi=>(bx i).mono ⋯) k1 (λH' S'=>q H' (T3.trans S'))
   . refine jB (b:=false) (f:=wb "back") ⋯ ?_
     o_head fu true ⋯ ?_;o_head gr D3.e ?_;k_few;exact Zg D3' (by have:=sok.p;lia) (λe H' S'=>q0 e H' (T3.trans S')) (λp t' ys e H' X'=>q p t' ys e H' ((ae.Si T3).trans X'))
   . refine jB (b:=true) (f:=wb "glow") ⋯ ?_
     o_head gr D3.e ?_;o_head nM (f:=a.rW) rfl (.head _) ?_;o_head fq D3.e T.bU T.fP rfl ?_;o_head gE (.of e3) (λl4 H4 n4 S4 e4=>?_);o_head zt3 (D3.s.by S4) sok.ok.ba sok.ok.bb h1 () sok.c () (λv5 y H5 S5 i5=>?_);k_few;have bm:ah 1000 (1-bO xs):=(ah.one.sub (sok.c.jP (km h1))).mono ⋯;exact znx (D3'.by (S4.trans S5)) i5 (sok.t.mono ⋯) bm (by have:=sok.p;lia) (λH' X' D'=>q y H' ((ae.Si (T3.trans (S4.trans S5))).trans X') D')
   . refine jB (b:=false) (f:=wb "hour") ⋯ ?_
     o_head fu false ⋯ ?_;o_head fu true ⋯ ?_;o_head fq D3.e T.bU T.mD rfl ?_;k_few;exact yo D3.h (CP (sok.t.mono ⋯)) (q _ T3)
   . refine jB (b:=false) (f:=wb "swarm") ⋯ ?_
     o_head fu false ⋯ ?_;o_head fu false ⋯ ?_;o_head fu false ⋯ ?_;o_head nM (f:=a.rL) rfl (.head _) ?_;o_head fq D3.e T.bU T.fP rfl ?_;k_few;exact Zp D3.s sok.ok h5 (λx hx=>zvX (sok.c.jP hx)) (λH' S'=>q H' (T3.trans S'))
def Oa(K:wa)(a:Ad):Sp:=λvs H Q _=>∃x0 x1,vs=[x0,x1] /\ ∃(o l:wc)(ra rb t:Rat)(xs:List Rat)(past:List (Rat × List Rat))(C:wc)(d:wm),x0=.ref o/\yt K a H o l ra rb t xs past/\sD K a H xs past x1 C/\iW a C d/\Rq H Q (.str d)
theorem zmD{v:V}(h:yt K a H o l ra rb t xs past)(hr:sD K a H xs past v C)(hd:iW a C d)(q:Rq H Q (.str d)):Oa K a [.ref o,v] H Q E:=⟨_,_,rfl,o,l,ra,rb,t,xs,past,C,d,rfl,h,hr,hd,q⟩
theorem znS(T:Txt w K mg a):aC P w K mg base aO 9 a.Hz a.Gn tP (Oa K a):=by
 refine T.Gz.F.ok yO ?_ ?_;wtm_at "b2"
 refine⟨_,(aj (aJ 2 yO.nd pP)
     (aj (L8 (i:=3) (tb:=λW=>sQ (Fv a.bG "say" (LO K a) W (cQ 0) (dj (cQ 1) eI))) (th:=λex C=>jn (cQ 3) (gg 2)) rfl rfl yO.nd rfl rfl rfl T.HQ (λW pn E' hx=>by exact(ak (lU (zyd (pv 0) T.bU T.js (jC T) (hr.mono ⋯) T.iH.b hx (q1 1))))) (λpn ex C oe hob=>by exact(ak (aJ 2 yO.nd (pv 3)))))
     (ak (aB (av (O7 T) hr T.Ag (q1 2)))))),?_⟩
 wtm_at "cl";rw[show start Sg [x0,x1]=[some x0,some x1,none,none]from rfl];obtain⟨o,l,ra,rb,t,xs,past,C,d,rfl,sok,hb,hd,q⟩:=h;obtain⟨dx,vs,vh,ps,D⟩:=sok.d;o_head Nv (λσ' C' o' H'=>σ'=[some (.ref o),some x1,some .bh,none]/\C'=.ref C/\ae H H') ?_ ?_
 . refine D_ (zxB D.e ?_)
   k_few;exact⟨_,_,rfl,o,l,ra,rb,t,xs,past,rfl,sok,.inl ⟨C,hb,λH' S=>⟨rfl,rfl,S⟩⟩⟩
 . rintro σ' C' o' H' ⟨rfl,rfl,S0⟩
   refine⟨by rcases hd with⟨rfl,_⟩ | ⟨rfl,_⟩ | ⟨rfl,_⟩ | ⟨rfl,_⟩ | ⟨rfl,_⟩ | ⟨rfl,_⟩<;>first | exact T.JL | exact T.JG | exact T.Ja | exact T.Jr | exact T.IZ | exact T.Js,λex hex=>?_⟩;k_few;intro hex2;refine KI hex2 (λH1 Sx ee=>?_);k_few;exact OV ee hd (λH' S=>q H' (S0.trans (Sx.trans S)))
theorem RL(n:Nat):cb (aX n)=n:=by
 have e:(aX n).cps.toList.map (· - 48)=a_ n:=by
  unfold aX;simp[qO,Function.comp_def]
 unfold cb;rw[e];exact DH n
theorem Lv(h:((a_ n).length:Int)<=m):wT (aX n) m=true:=by
 have h1:=CT n;have hl:=fM n;unfold wT;rw[wy,wy,wy,decide_eq_true_eq,decide_eq_true_eq];refine⟨h1,by lia,?_,?_⟩
 ·rw[wH]
  intro c hc;unfold aX at hc;simp only[wU]at hc;obtain⟨d,hd,rfl⟩:=hc;have:=oS n d hd;unfold gO;rw[wy,decide_eq_true_eq,decide_eq_true_eq];lia
 ·rw[W1]
  by_cases z:n=0
  ·left
   subst z
   decide +kernel
  ·right
   rw[V3,beq_eq_false_iff_ne];intro e
   apply z
   apply Rn
   unfold aX at e;cases hd:a_ n with
   | nil=>exact absurd hd (mU n)
   | cons d ds =>
    rw[hd]at e;simp at e;rw[X8]
    congr 1
theorem AA{k:Nat}(h0:0<=r.num)(f:bR k r):nT (aP r) (k:Int)=true/\aT (aP r)=r:=by
 have hs:vD (aP r) "-"=false:=by rw[zs7];exact decide_eq_false ()
 have sp:=zvY r;have ip:du r.num=aX r.num.natAbs:=zyw ()
 have eT:cK (aP r)=aX r.num.natAbs:=by
  unfold cK;rw[hs,if_neg ⋯,sp,Qu,ip]
 have eO:(dR (aP r)).getD 1=r.den:=by
  unfold dR;rw[sp,Vw];unfold n_
  split
  ·rename_i e;rw[e];rfl
  ·show cb (aX r.den)=r.den
   exact RL _
 have eZ:nZ (aP r)=r.num:=by
  unfold nZ;rw[hs,eT,RL]
  show((r.num.natAbs:Nat):Int)=r.num
  lia
 have eD:nD (aP r)=(r.den:Int):=by unfold nD;rw[eO]
 have hv:wR r.num (r.den:Int)=r:=VS r;have fn:=f.n;have fd:=f.d;refine⟨?_,by unfold aT;rw[eZ,eD,hv]⟩;unfold nT;rw[eZ,eD,hv,wy,wy];refine⟨?_,CK r,beq_self_eq_true _⟩;unfold kC;rw[eT,sp,Vw,wy,decide_eq_true_eq,W2,wy];refine⟨?_,Lv (),?_⟩
 ·unfold n_
  split<;>simp
 ·unfold n_
  split
  ·rfl
  ·show(wT (aX r.den) k&&true)=true
   rw[Lv ()]
   rfl
theorem pO(xs:List Rat):aW (d7 xs):=kz.mpr λc hc=>by
 rcases vt c 128 with z | z
 ·exact z
 ·exact absurd hc (EK (.inr ()) ())
theorem k9(h:aW x)(k:aW y):aW (x++y):=kz.mpr λc hc=>by
 rw[df]at hc;rcases vR.mp hc with z | z
 ·exact kz.mp h c z
 ·exact kz.mp k c z
theorem zue(a b:Rat)(xs:List Rat):aW (c6 a b xs):=by
 unfold c6;exact k9 (k9 (k9 (by unfold aW;decide +kernel) (pO _)) (by unfold aW;decide +kernel)) (pO _)
theorem zwQ{a:Rat}(ok:cw a b):0<=a.num/\0<=b.num:=⟨W7.mpr (qM ok.a0),W7.mpr ok.b0⟩
theorem Na{a:Rat}{k:Nat}(ok:cw a b)(h5:xs.length<=5)(hf:∀x∈xs,bR k x):(c6 a b xs).length<=5*(2*k+3)+26:=by
 have w1:=m_ (BI ok);have w2:=m_ hf;have w3:xs.length*(2*k+3)<=5*(2*k+3):=Vs _ h5;have l1:(wb "rule ").length=5:=by decide
 have l3:(wb "\nworms ").length=7:=by decide
 simp only[wQ,WO]at w1;unfold c6;rw[bD,bD,bD];lia
theorem ZP{z u v:wm}(h:wF x y=[u,v])(hy:(y.length == 0)=false):rj (x.length+1) x y z=vE z [u,v]:=by
 unfold wF at h
 split at h
 ·cases h
 split at h
 ·cases h
 rename_i h1 h2;unfold rj;rw[if_neg (by rw[hy,w8,qo];exact h2),xD,h]
theorem B1(r:Rat):aW (aP r):=pO [r]
theorem zC(a b:Rat)(xs:List Rat):aW (rj ((c6 a b xs).length+1) (c6 a b xs) "\n" "; "):=by
 rw[ZP (R8 a b xs) ⋯]
 show aW (_++_++_)
 exact k9 (k9 (k9 (by unfold aW;decide +kernel) (pO _)) (by unfold aW;decide +kernel)) (k9 (by unfold aW;decide +kernel) (pO _))
def jO(K:wa)(a:Ad)(H:Hp)(v:V)(C:wc):Prop:=(iB K H v/\C=a.bC) \/ ∃x:wm,v=.str x/\aW x/\x.length<=300/\(fg x=1/\C=a.bC\/fg x=2/\C=a.cG\/fg x=3/\C=a.bM)
theorem jO.by{v:V}(s:ae H H')(h:jO K a H v C):jO K a H' v C:=by
 rcases h with⟨h,e⟩ | h
 ·exact .inl ⟨h.by s,e⟩
 ·exact .inr h
theorem Y5{a:Rat}(ok:cw a b)(h1:1<=xs.length)(h8:xs.length<=8)(hp:∀x∈xs,di x):gH (c6 a b xs)=[[wb "rule",aP a,aP b],wb "worms"::xs.map aP]/\fg (c6 a b xs)=0/\([a,b].map aP).map aT=[a,b]/\(xs.map aP).map aT=xs:=by
 have el:gH (c6 a b xs)=[[wb "rule",aP a,aP b],wb "worms"::xs.map aP]:=by
  unfold gH
  rw[R8,wE,wE,WQ,RB ∅ (show wb "rule "=wb "rule"++wb " " by decide +kernel) (by decide +kernel),
   RB (λz=>by rw[z]at h1;simp at h1) (show wb "worms "=wb "worms"++wb " " by decide +kernel) (by decide +kernel)]
  rfl
 have fr:=Nj ok;obtain⟨ra,rb⟩:=zwQ ok;have ka:=AA ra (fr a ∅);have kb:=AA rb (fr b ∅);have kx:∀x∈xs,nT (aP x) (60:Nat)=true/\aT (aP x)=x:=λx hx=>AA (W7.mpr (hp x hx).nn) (pA (hp x hx))
 have mx:(xs.map aP).map aT=xs:=by
  rw[qO]
  conv=>rhs;rw[<- List.map_id xs]
  exact x6 λx hx=>(kx x hx).2
 have mr:([a,b].map aP).map aT=[a,b]:=by
  show [aT (aP a),aT (aP b)]=_
  rw[ka.2,kb.2]
 refine⟨el,?_,mr,mx⟩;have mr':[aP a,aP b].map aT=[a,b]:=mr;unfold fg;rw[el];unfold y8;dsimp only
 have e1:(decide (([wb "rule",aP a,aP b]).length=3)&&(decide (2<=(wb "worms"::xs.map aP).length)&&((dE [wb "rule",aP a,aP b] == wb "rule")&&(dE (wb "worms"::xs.map aP) == wb "worms"))))=true:=by
  rw[decide_eq_true (show 2<=(wb "worms"::xs.map aP).length by rw[wQ,we];lia)]
  rfl
 rw[e1,if_neg ⋯,Vw,Vw,mr',mx]
 have e2:([aP a,aP b].all (nT · 60)&&(xs.map aP).all (nT · 60))=true:=by
  rw[wy,wH,wH]
  constructor
  ·intro y hy
   simp only[wz,vI,or_false]at hy;rcases hy with rfl | rfl
   ·exact ka.1
   ·exact kb.1
  ·intro y hy
   obtain⟨x,hx,rfl⟩:=wU.mp hy;exact(kx x hx).1
 rw[e2,if_neg ⋯];dsimp only
 have e3:fk a b=true:=by
  have n1:¬ (4:Rat)<a:=W0.mpr ok.a4;have n2:¬ b<0:=W0.mpr ok.b0;have n3:¬ (1:Rat)<b:=W0.mpr ok.b1;have n4:¬ a+b<1:=W0.mpr ok.ab;have d1:=ok.ad;have d2:=ok.bd;unfold fk lB lI;rw[decide_eq_true ok.a0,decide_eq_false n1,decide_eq_false n2,decide_eq_false n3,decide_eq_false n4,decide_eq_true (),decide_eq_true ()]
  rfl
 have e4:(decide ((xs.map aP).length<=8)&&xs.all eJ)=true:=by
  rw[we,decide_eq_true h8,w9,wH];exact λx hx=>(hp x hx).is
 rw[e3,if_neg ⋯,e4,if_neg ⋯]
def Cp(K:wa)(a:Ad):Sp:=λvs H Q E=>∃x0 x1,vs=[x0,x1] /\ ∃(o dx:wc),x0=.ref o/\H o=some (.ins a.bG dx [])/\((∃C,jO K a H x1 C /\ ∀H',ae H H'->E (.ref C) none H') \/ ∃(ra rb:Rat)(xs:List Rat),x1=.str (c6 ra rb xs)/\cw ra rb/\1<=xs.length/\xs.length<=5/\(∀x∈xs,di x) /\ ∀l H',H l=none->Exc o H H'->cz K H' a.bG o l ra rb xs 0 []->Q .bh H')
theorem zqF{dx:wc}(e:H o=some (.ins a.bG dx []))(ok:cw ra rb)(h1:1<=xs.length)(h5:xs.length<=5)(hp:∀x∈xs,di x)(q:∀l H',H l=none->Exc o H H'->cz K H' a.bG o l ra rb xs 0 []->Q .bh H'):Cp K a [.ref o,.str (c6 ra rb xs)] H Q E:=⟨_,_,rfl,o,dx,rfl,e,.inr ⟨ra,rb,xs,rfl,ok,h1,h5,hp,q⟩⟩
theorem MA(T:Txt w K mg a):aC P w K mg base (bQ P w) 7 a.Ar a.Hh zm (Cp K a):=by
 refine T.Ai.F.dO zqV ?_ ?_;wtm_at "b2"
 refine⟨_,(aj (lX (pv 0) (eY (YZ T) hr T.Hi dq (q1 1)) rfl)
     (aj (lX (pv 0) (bZ (v:=.ref a.fQ) rfl T.iI rfl) rfl)
     (ak (lX (pv 0) (cS af) rfl)))),?_⟩
 wtm_at "cl";rw[show start A8 [x0,x1]=[some x0,some x1]from rfl];obtain⟨o,dx,rfl,e,h⟩:=h;o_head mj ?_;k_few;rcases h with⟨C,hb,q⟩ | ⟨ra,rb,xs,rfl,ok,h1,h5,hp,q⟩
 . rcases hb with⟨hn,rfl⟩ | ⟨x,rfl,ha,hl,hb⟩
   . exact⟨_,rfl,.inl ⟨hn,q⟩⟩
   have no:∀{i j:Nat},fg x=i->i≠j->∀{P:Prop},fg x=j->P:=λe1 n _ e2=>absurd (e1.symm.trans e2) n
   rcases hb with⟨h,rfl⟩ | ⟨h,rfl⟩ | ⟨h,rfl⟩
   . exact⟨_,rfl,.inr ⟨x,rfl,ha,by lia,λ_=>q,no h ⋯,no h ⋯,no h ⋯⟩⟩
   . exact⟨_,rfl,.inr ⟨x,rfl,ha,by lia,no h ⋯,λ_=>q,no h ⋯,no h ⋯⟩⟩
   . exact⟨_,rfl,.inr ⟨x,rfl,ha,by lia,no h ⋯,no h ⋯,λ_=>q,no h ⋯⟩⟩
 . obtain⟨g1,g2,g3,g4⟩:=Y5 ok h1 () hp
   have no:∀{j:Nat},0≠j->∀{P:Prop},fg (c6 ra rb xs)=j->P:=λn _ e2=>absurd (g2.symm.trans e2) n
   have hlen:=Na ok h5 (λx hx=>pA (hp x hx));refine⟨_,rfl,.inr ⟨_,rfl,zue _ _ _,by lia,no ⋯,no ⋯,no ⋯,λ_=>⟨_,_,ra,rb,g1,g3,λv H1 S1 i1=>?_⟩⟩⟩;rw[Vw,g4]at i1;o_head lj (S1 _ _ e) T.bU T.fP (λH2 E2 e2=>?_);rw[show cy "swarm" v []=[((wb "swarm"),v)]from rfl]at e2;have K2:=E2.j9 (S1 _ _ e);have i2:=i1.cJ K2 (d8 _ _ _);o_head mj ?_;o_head lj e2 T.bU T.mD (λH3 E3 e3=>?_);rw[zzV]at e3;have K3:=E3.j9 e2;o_head mj ?_;o_head fj ∅ (λl4 H4 n4 S4 e4=>?_);o_head lj (S4 _ _ e3) T.bU T.rG (λH5 E5 e5=>?_);rw[zvJ]at e5;have K5:=E5.j9 (S4 _ _ e3);have i5:=i2.cJ (K3.trans (S4.keep.trans K5)) (d8 _ _ _);have nol:l4≠o:=λz=>by rw[z,e3]at n4;cases n4
   o_head q l4 H5 ?_ (λb x nb h=>E5 b x nb (S4 b x (E3 b x nb (E2 b x nb (S1 b x h))))) ⟨dx,v,.ref a.fQ,[],e5,i5,by wtm_at "is",E5.at nol e4,.nil⟩;cases hh:H l4 with
   | none=>rfl
   | some y=>rw[E3 l4 y nol (E2 l4 y nol (S1 _ _ hh))]at n4;cases n4
def Nx(K:wa)(a:Ad):Sp:=λvs H Q _=>∃x0,vs=[x0] /\ ∃(C:wc)(d:wm),jO K a H x0 C/\iW a C d/\Rq H Q (.str d)
theorem zsM{v:V}(h:jO K a H v C)(hd:iW a C d)(q:Rq H Q (.str d)):Nx K a [v] H Q E:=⟨_,rfl,C,d,h,hd,q⟩
theorem zsI(T:Txt w K mg a):aC P w K mg base aO 9 a.JH a.HP yu (Nx K a):=by
 refine T.Ip.F.ok sE ?_ ?_;wtm_at "b1"
 refine⟨_,(aj (aJ 1 sE.nd pP)
     (aj (L8 (i:=2) (tb:=λW=>sQ (Et a.bG (Cp K a) W (dj (cQ 0) eI))) (th:=λex C=>jn (cQ 2) (gg 1)) rfl rfl sE.nd rfl rfl rfl T.HQ (λW pn E' hx=>by exact(ak (lU (zze T.JR (MA T) (hr.mono ⋯) rfl T.J_ T.Ai.b hx (q1 0))))) (λpn ex C oe hob=>by exact(ak (aJ 1 sE.nd (pv 2)))))
     (ak (aB (av (O7 T) hr T.Ag (q1 1)))))),?_⟩
 wtm_at "cl";rw[show start Sw [x0]=[some x0,none,none]from rfl];obtain⟨C,d,hb,hd,q⟩:=h;o_head Nv (λσ' C' o' H'=>σ'=[some x0,some .bh,none]/\C'=.ref C/\ae H H') ?_ ?_
 . refine D_ (Zt ?_ ?_)
   . k_few
     intro x dx H2 hx S2 e2;exact⟨_,_,rfl,x,dx,rfl,e2,.inl ⟨C,hb.by S2,λH' S=>⟨rfl,rfl,S2.trans S⟩⟩⟩
   . intro P P' hP h
     obtain⟨v,hv,h⟩:=h;exact⟨v,hv,hP _ _ h⟩
 . rintro σ' C' o' H' ⟨rfl,rfl,S0⟩
   refine⟨by rcases hd with⟨rfl,_⟩ | ⟨rfl,_⟩ | ⟨rfl,_⟩ | ⟨rfl,_⟩ | ⟨rfl,_⟩ | ⟨rfl,_⟩<;>first | exact T.JL | exact T.JG | exact T.Ja | exact T.Jr | exact T.IZ | exact T.Js,λex hex=>?_⟩;k_few;intro hex2;refine KI hex2 (λH1 Sx ee=>?_);k_few;exact OV ee hd (λH' S=>q H' (S0.trans (Sx.trans S)))
def kK(l:List Nat):wm:=⟨l.toArray⟩
def dm(k n:Nat)(x:wm):Bool:=decide (hW n x=k)&&(x.cps.all (· < 128)&&decide (x.length<=300))
def c8(n:Nat):List wm:=(vP n).map λj=>kK [48+j]
def fv(sep:String)(ts:List wm):wm:=tx "exchange "++vE (tx sep) ts
def zCr:List wm:=[""," ","Glow","glow "," glow","glow 1","glows"].map tx++["glows ","glow s"].map tx++["glows 1 1","glows 01","glows -1","glows 41","glows 100","glows x","glows 1/1"].map tx++["glows  1","move"].map tx ++
 ["move ","move 1 1","move 01","move 2/4","move 1/0","move -0","move +1"].map tx++["move 1/1234567","move x"].map tx++["move 1234567","move 0/1","move 1/1","back 1","back ","hour 0","hours","swarm 1"].map tx++["flocks 0","look"].map tx ++
 ["fate 1","free 0","still 1","paper 1","papers","undo","looks 0 : 0 : one","exchange"].map tx++["exchange "].map tx
def ni(o:List wm):List wm:=zCr++[fv " " (o++[tx "0"]),fv " " (cutD o (some 1) none)]++[fv "," (o++[tx "9"])]++[fv " " (cutD o (some 1) none++[tx "10"]),fv " " (cutD o (some 1) none++[tx "x"])] ++
 [fv " " (cutD o (some 1) none++[tx "-1"]),fv " " ([tx "00"]++cutD o (some 1) none)]++["exchange  0"].map tx++[fv " " o++tx " ",tx "swarm ",tx "fate ",tx "Fate",tx "free  ",tx "move  0"]++["paper ","hour "].map tx
def pZ:List wm:=["look ","look  ","look x","look one","look 0 : 0 : one ","look 0 : 0 : two","look 0 : : one"].map tx++["look yes"].map tx++["look 0 : 01 : one","look 0 : 0 : 31 0; 1 : 0 : one","look 0 : 0 : 1 41; 1 : 0 : one"].map tx++["look 0 : 0 : 1 1"].map tx ++
 ["look 0 : 0 : one; 0 : 0 : one","look 0 : 2/4 : one","look 0/1 : 0 : one"].map tx++["look  0 : 0 : one","look ;"].map tx
def iN(n:Nat)(o:List wm):List wm:=["move 1","move -1","move -1/999999","move 999999","move 999999/999998","move -999999"].map tx++["move 3/2"].map tx++[fv " " ([kK [48+n]]++cutD o (some 1) none),fv " " (cutD o (some 1) none++[tx "9"])]
def mL(n:Nat)(o:List wm):List wm:=iN n o++(ve 2 [fv " " (ve n [tx "0"]).flatten,fv " " (cutD o (some 1) none++cutD o (some (-1)) none)]).flatten
theorem zAh{p:wc}{xs:List wm}(hp:aS H p k)(e:H l=some (.lst (xs.map V.str))):l≠p:=λz=>by
 obtain⟨_,a,b,g⟩:=hp;rw[z,g]at e;cases xs with
 | nil=>cases e
 | cons x r=>rw[wE]at e;cases e
theorem DW{p:wc}{v:V}{xs:List wm}(h:dJ H v xs)(hp:aS H p k)(s:Exc p H H'):dJ H' v xs:=let ⟨l,e,g⟩:=h;⟨l,e,s _ _ (zAh hp g) g⟩
theorem zyI{v:V}{xs:List wm}(h:dJ H v xs)(s:ae H H'):dJ H' v xs:=h.by s
local macro_rules | `(tactic| wtm_at "gn")=>`(tactic| ((with_reducible refine CY ?_); (try dsimp only [QN,QP]); (try wtm_at "tl")))
theorem zDT{D:ck}{A:TS}(hs : σ[1]? = some (some (.int (n:Int))))(h1:1<n->A D σ H)(h2:n<=1->D.nx σ H):pF (lq (cW (gB λi j=>V.bl (decide (j<i))) (cQ 1) (tC (.int 1)))) A mV D σ H:=by
 refine⟨_,hs,_,_,rfl,rfl,_,rfl,?_⟩
 by_cases z:1<n
 ·rw[decide_eq_true ()]
  show(if(true:Bool)=true then A D σ H else mV D σ H)
  rw[if_pos rfl];exact h1 z
 ·rw[decide_eq_false ()]
  show(if(false:Bool)=true then A D σ H else mV D σ H)
  rw[if_neg ⋯];exact h2 ()
theorem fi{v:V}{os:List V}{xs ys:List wm}(h:jo H v os xs)(e : σ[3]? = some (some v))(hb:cO tb σ H ys)(z:(os++xs.map V.str).length+ys.length<=wr)(q:∀w H',ae H H'->jo H' w os (xs++ys)->Q w H'):cW g_ (cQ 3) tb σ H Q:=h.go hb q e z
def Sm(k:Nat)(ts:List wm):Prop:=ts.length<=k /\ ∀y∈ts,y.length<=5
theorem zCp{a b:List wm}(h:Sm i a)(k:Sm j b):Sm (i+j) (a++b):=by
 refine⟨by rw[vc];exact Nat.add_le_add h.1 k.1,λy hy=>?_⟩;rcases vR.mp hy with hy | hy
 ·exact h.2 y hy
 ·exact k.2 y hy
theorem zCk{a:List wm}{lo hi:Option Int}(h:Sm i a):Sm i (cutD a lo hi):=by
 refine⟨?_,λy hy=>h.2 y (List.mem_of_mem_drop (List.mem_of_mem_take hy))⟩;unfold L2.cutD;rw[WH,Qe];have:=h.1;lia
theorem zCg(h:y.length<=5):Sm 1 [y]:=⟨wo _,λz hz=>by rw[wY.mp hz];exact h⟩
theorem zCl(h:y.length<=5)(n5:n<=5):Sm 5 (ve n [y]).flatten:=by
 refine⟨by simp;exact n5,λz hz=>?_⟩;simp only[List.mem_flatten,List.mem_replicate]at hz;obtain⟨l,⟨_,rfl⟩,hz⟩:=hz;rw[wY.mp hz];exact h
theorem zAj(c:Nat):(kK [c]).length=1:=rfl
theorem NJ(n5:n<=5):Sm 5 (c8 n):=by
 refine⟨by unfold c8;simp;exact n5,λy hy=>?_⟩;obtain⟨j,_,rfl⟩:=wU.mp hy;rw[zAj];decide
theorem Pl(k:Sm i ts)(hi:i<=12)(hs:(tx sep).length<=3):(tx "exchange ").length+(vE (tx sep) ts).length<=200:=by
 have:=pj (x:=tx sep) k.2;have e:(tx "exchange ").length=9:=by decide
 have h1:ts.length*(5+(tx sep).length)<=12*8:=QE (w5 k.1 hi) ();lia
theorem PM(h:cO tb σ H ts)(k:Sm i ts)(hi:i<=12)(hs:(tx sep).length<=3):i_ (cW g_ (tC (.str (tx "exchange "))) (mM K "str" (dr K) (tC (.str (tx sep))) (dj tb eI))) σ H (fv sep ts) :=
 Di n9 (PH n9 h (w5 k.1 ()) (λy hy=>w5 (k.2 y hy) ⋯) ()) (by have:=Pl k hi hs;rw[qu];lia)
theorem zA3(h:cO tb σ H ts)(k:Sm i ts)(hi:i<=12)(hs:(tx sep).length<=3)(hy:y.length<=5):i_ (cW g_ (cW g_ (tC (.str (tx "exchange "))) (mM K "str" (dr K) (tC (.str (tx sep))) (dj tb eI))) (tC (.str y))) σ H (fv sep ts++y) :=
 Di (PM h k hi hs) n9 (by have:=Pl k hi hs;unfold fv;rw[bD,qu];lia)
theorem Ey(h:j<10):aX j=kK [48+j]:=by
 unfold aX;rw[gF h]
 rfl
theorem zAf{te:TE}(h:lh te σ H (n:Int))(hn:n<10):i_ (mK gn (dj te eI)) σ H (kK [48+n]):=λH1 Q s q=>h H1 _ s λH2 s2=>j2 (by have:=sf (show((n:Int)).natAbs<1000000 by lia);lia) (by rw[ky,pV,Ey hn];exact q H2 s2)
theorem zA0{te:TE}(h:lh te σ H m):lh (BC (rU λi=>V.int (-i)) te) σ H (-m):=λH1 Q s q=>h H1 _ s λH2 s2=>⟨m,rfl,q H2 s2⟩
local macro_rules | `(tactic| wtm_at "sm")=>`(tactic| first
 | assumption
 | ((with_reducible apply zCp);(focus wtm_at "sm");wtm_at "sm")
 | ((with_reducible apply zCk);wtm_at "sm")
 | ((with_reducible apply zCl);(focus decide +kernel);lia)
 | ((with_reducible apply zCg);(first | decide +kernel | exact w6 rfl)))
theorem AJ(n1:1<=n)(n5:n<=5):n∈[1,2,3,4,5]:=by
 simp only[wz,vI,or_false];lia
local macro_rules | `(tactic| wtm_at "atl")=>`(tactic| first
 | assumption
 | exact zyI (by assumption) (by wtm_at "same"))
local macro_rules | `(tactic| wtm_at "pl")=>`(tactic| first
 | decide +kernel
 | assumption
 | apply_assumption
 | (simp only[vc,wQ,WO,List.length_reverse,L2.cutD,WH,Qe,qu,bD];lia))
local macro_rules | `(tactic| wtm_at "pu")=>`(tactic| first
 | ((with_reducible apply zA3);(focus wtm_at "pu");(focus wtm_at "sm");(focus decide);(focus decide);decide)
 | ((with_reducible apply PM);(focus wtm_at "pu");(focus wtm_at "sm");(focus decide);decide)
 | ((with_reducible apply zAf);(focus wtm_at "pu");lia)
 | exact n9
 | exact zEf
 | ((with_reducible apply zA0);wtm_at "pu")
 | exact zEj
 | exact KC
 | exact pual_nil
 | exact pus_v rfl
 | exact zDH rfl
 | exact zEk rfl (by wtm_at "atl")
 | exact pum_v rfl (by wtm_at "atl")
 | ((with_reducible apply Y9);wtm_at "pu")
 | ((with_reducible apply Bz);(focus wtm_at "pu");wtm_at "pu")
 | ((with_reducible apply pual_cons);(focus wtm_at "pu");wtm_at "pu")
 | ((with_reducible apply Ni);(focus wtm_at "pu");wtm_at "pl")
 | ((with_reducible apply pum_d);(focus wtm_at "pu");wtm_at "pl")
 | ((with_reducible apply pui_add);(focus wtm_at "pu");wtm_at "pu")
 | ((with_reducible apply Di);(focus wtm_at "pu");(focus wtm_at "pu");wtm_at "pl")
 | ((with_reducible apply Of);(focus wtm_at "pu");(focus wtm_at "pu");wtm_at "pl")
 | ((with_reducible apply pum_add);(focus wtm_at "pu");(focus wtm_at "pu");wtm_at "pl")
 | ((with_reducible apply zCh);(focus wtm_at "pu");(focus wtm_at "pu");wtm_at "pu")
 | ((with_reducible apply PH);(focus wtm_at "pu");(focus wtm_at "pu");(focus wtm_at "pl");(focus wtm_at "pl");wtm_at "pl")
 | ((with_reducible apply pus_mul);(focus wtm_at "pu");(focus wtm_at "pu");(focus decide);(focus decide);decide)
 | ((with_reducible apply zA6);(focus wtm_at "pu");(focus wtm_at "pu");(focus lia);(focus lia);(show _*_<=_);(simp;try lia))
 | ((with_reducible apply pus_repl);(focus wtm_at "pu");wtm_at "pl")
 | ((with_reducible apply pus_upper);(focus wtm_at "pu");wtm_at "pl")
 | ((with_reducible apply pul_rev);wtm_at "pu")
 | ((with_reducible apply pus_ix);(focus wtm_at "pu");(focus wtm_at "pu");(first | assumption | rfl)))
theorem Lh{v:V}{xs:List wm}{j:Int}(h:dJ H v xs)(h0:0<=j)(h1:j<xs.length)(q:∀x∈xs,Q (.str x) H):cV K v (.int j) H Q:=by
 obtain⟨l,rfl,g⟩:=h;obtain⟨j,rfl⟩:∃m:Nat,j=(m:Int):=⟨j.toNat,by lia⟩;have hj:j<xs.length:=by lia
 exact dS (.of g) (v:=.str xs[j]) (gm (by rw[wG,wg hj];rfl)) (q _ (Wi hj))
theorem RZ{v:V}{xs:List wm}(h:dJ H v xs)(q:Q (.int xs.length) H):gy K [v] H Q:=by
 obtain⟨l,rfl,g⟩:=h;exact⟨l,_,rfl,.inl (.of g),by rw[we];exact q⟩
theorem zBd :[1,2,3,4,5].all (λn=>(ni (c8 n)).all (dm 1 n))=true:=by decide +kernel
theorem zDi(n1:1<=n)(n5:n<=5)(h:x∈ni (c8 n)):dm 1 n x=true:=wH.mp (wH.mp zBd n (AJ n1 n5)) x h
structure j3(H:Hp)(lg lt ld:wc):Prop where
 g:H lg=some (.lst [.str "glow"])
 t:H lt=some (.tup [.str "glow"])
 d:H ld=some (.dK [])
theorem j3.by{lt:wc}(h:j3 H lg lt ld)(s:ae H H'):j3 H' lg lt ld:=⟨s _ _ h.g,s _ _ h.t,s _ _ h.d⟩
theorem j3.exc{p:wc}{lt:wc}(h:j3 H lg lt ld)(hp:aS H p k)(s:Exc p H H'):j3 H' lg lt ld:=by
 obtain⟨_,a,b,g⟩:=hp;exact⟨s _ _ (λz=>by have:=h.g;rw[z,g]at this;cases this) h.g,s _ _ (λz=>by have:=h.t;rw[z,g]at this;cases this) h.t,s _ _ (λz=>by have:=h.d;rw[z,g]at this;cases this) h.d⟩
theorem zB8{p:wc}{vs:List V}(hp:aS H p k)(h:H l=some (.lst (.bh::vs))):l≠p:=λz=>by
 obtain⟨_,a,b,g⟩:=hp;rw[z,g]at h;cases h
theorem j3.no{lt:wc}{v:V}(h:j3 H lg lt ld)(m:v=.bh\/v=.int 5\/v=.bl true\/v=.ref lg\/v=.ref lt\/v=.ref ld):fU K H v:=by
 rcases m with rfl | rfl | rfl | rfl | rfl | rfl
 ·exact .inl ⟨.none,kg.mpr rfl,rfl⟩
 ·exact .inl ⟨.int 5,cC.mpr rfl,rfl⟩
 ·exact .inl ⟨.bool true,k8.mpr rfl,rfl⟩
 ·exact .inl ⟨.list [.str "glow"],cR.mpr ⟨lg,_,rfl,.of h.g,.cons (cP.mpr rfl) .nil⟩,rfl⟩
 ·exact .inl ⟨.tuple [.str "glow"],bX.mpr ⟨lt,_,rfl,.of h.t,.cons (cP.mpr rfl) .nil⟩,rfl⟩
 ·exact .inr ⟨ld,_,rfl,h.d⟩
def Sz(K:wa):Sp:=λvs H Q _=>∃x0 x1,vs=[x0,x1] /\ ∃(p:wc)(k:Int)(n:Nat),x0=.ref p/\x1=.int (n:Int)/\aS H p k/\1<=n/\n<=5 /\ ∀v H',(fU K H' v \/ ∃x,v=.str x/\dm 1 n x=true)->Exc p H H'->aZ H H'->aS H' p k->Q v H'
theorem zoB{p:wc}(hp:aS H p k)(n1:1<=n)(n5:n<=5)(q:∀v H',(fU K H' v \/ ∃x,v=.str x/\dm 1 n x=true)->Exc p H H'->aZ H H'->aS H' p k->Q v H'):Sz K [.ref p,.int (n:Int)] H Q E:=⟨_,_,rfl,p,k,n,rfl,rfl,hp,n1,n5,q⟩
theorem zof(T:Txt w K mg a):aC P w K mg base aO 2 a.Iy a.GC sM (Sz K):=by
 refine T.Hj.F.ok dY ?_ ?_;wtm_at "b2";have hgd:=hr.gd
 refine⟨_,(@iO.h _ _ _ (bY (L6 (o_ (i:=2) dY.nd rfl (Or.inl rfl) rfl (cF ["_law_worm"] [none]) (l9 rfl T.h1U (q1 1)) (λ_ _ _ _ _=>(cv 0)) (λ_ _ _ _ _=>cX) (λ_ _ _ _ _=>(d5 (show aM _ (.type "str") gn from iZ) rfl T.h1Z gk (q1 0)))))
     (bY (cn 3 dY.nd (cg (ar (ai pP) (ar (ai aA) (ar (ai dM) (ar (cg (ar (ai ag) bB ay)) (ar (fW (ar (ai ag) bB ay)) (ar (ai zxZ) (ar (ai ag) (ar (ai ag) (ar (ai ag) (ar (ai ag) (ar (ai ag) (ar (ai ag) (ar (ai ag) bB ay) ay) ay) ay) ay) ay) ay)) gb) MQ) ay) ay) ay)))
     (bY (cn 3 dY.nd (bK aN (ai (pv 3)) (cg (ar (ai ag) (ar (ai ag) bB ay) ay))))
     (bY (cn 3 dY.nd (bK aN (ai (pv 3)) (cg (ar (ai ag) (ar (ai ag) (ar (ai ag) (ar (ai ag) (ar (ai ag) (ar (ai ag) (ar (ai ag) bB ay) ay) ay) ay) ay) ay) ay))))
     (bY (cn 3 dY.nd (bK aN (ai (pv 3)) (cg (ar (ai ag) (ar (ai ag) bB ay) ay))))
     (bY (cn 3 dY.nd (bK aN (ai (pv 3)) (cg (ar (ai ag) (ar (ai ag) (ar (ai ag) (ar (ai ag) (ar (ai ag) (ar (ai ag) (ar (ai ag) bB ay) ay) ay) ay) ay) ay) ay))))
     (bY (cn 3 dY.nd (bK aN (ai (pv 3)) (cg (ar (ai ag) (ar (ai ag) bB ay) ay))))
     (bY (cn 3 dY.nd (bK aN (ai (pv 3)) (cg (ar (ai ag) (ar (ai ag) (ar (ai ag) (ar (ai ag) (ar (ai ag) (ar (ai ag) (ar (ai ag) (ar (ai ag) bB ay) ay) ay) ay) ay) ay) ay) ay))))
     (bY (cn 3 dY.nd (bK aN (ai (pv 3)) (cg (ar (ai ag) (ar (ai ag) bB ay) ay))))
     (bY (cn 3 dY.nd (bK aN (ai (pv 3)) (cg (ar (ai ag) (ar (ai ag) (ar (ai ag) (ar (ai ag) (ar (ai ag) (ar (ai ag) (ar (ai ag) (ar (ai ag) bB ay) ay) ay) ay) ay) ay) ay) ay))))
     (bY (cn 3 dY.nd (bK aN (ai (pv 3)) (cg (ar (ai ag) bB ay))))
     (bY (cn 3 dY.nd (bK aN (ai (pv 3)) (cg (ar (bK aN (ai ag) (ai (cq wI vf vg (show cf _ "str.join" (dr K)from fe) ag (aa (aG aN (pv 2) (cS (aa ag af))) af)))) (ar (bK aN (ai ag) (ai (cq wI vf vg (show cf _ "str.join" (dr K)from fe) ag (aa (dP eB (pv 2) (dZ aA) dQ) af)))) bB jc) jc))))
     (bY (cn 3 dY.nd (bK aN (ai (pv 3)) (cg (ar (bK aN (ai ag) (ai (cq wI vf vg (show cf _ "str.join" (dr K)from fe) ag (aa (aG aN (pv 2) (cS (aa ag af))) af)))) bB jc))))
     (bY (cn 3 dY.nd (bK aN (ai (pv 3)) (cg (ar (bK aN (ai ag) (ai (cq wI vf vg (show cf _ "str.join" (dr K)from fe) ag (aa (aG aN (dP eB (pv 2) (dZ aA) dQ) (cS (aa ag af))) af)))) (ar (bK aN (ai ag) (ai (cq wI vf vg (show cf _ "str.join" (dr K)from fe) ag (aa (aG aN (dP eB (pv 2) (dZ aA) dQ) (cS (aa ag af))) af)))) bB jc) jc))))
     (bY (cn 3 dY.nd (bK aN (ai (pv 3)) (cg (ar (bK aN (ai ag) (ai (cq wI vf vg (show cf _ "str.join" (dr K)from fe) ag (aa (aG aN (dP eB (pv 2) (dZ aA) dQ) (cS (aa ag af))) af)))) (ar (bK aN (ai ag) (ai (cq wI vf vg (show cf _ "str.join" (dr K)from fe) ag (aa (aG aN (cS (aa ag af)) (dP eB (pv 2) (dZ aA) dQ)) af)))) bB jc) jc))))
     (bY (cn 3 dY.nd (bK aN (ai (pv 3)) (cg (ar (ai ag) bB ay))))
     (bY (cn 3 dY.nd (bK aN (ai (pv 3)) (cg (ar (bK aN (bK aN (ai ag) (ai (cq wI vf vg (show cf _ "str.join" (dr K)from fe) ag (q1 2)))) (ai ag)) (ar (ai ag) (ar (ai ag) (ar (ai ag) (ar (ai ag) (ar (ai ag) bB ay) ay) ay) ay) ay) jc))))
     (bY (cn 3 dY.nd (bK aN (ai (pv 3)) (cg (ar (ai ag) (ar (ai ag) bB ay) ay))))
     (oK (sN (yR eK (ai (pv 3)) (ai (av (dB T) hr T.de (aa (pv 0) (aa (cD K T.h2f (q1 3)) af)))) (λ_ _=>rfl))))))))))))))))))))))),?_⟩
 wtm_at "cl";rw[show start Pz [x0,x1]=[some x0,some x1,none,none]from rfl];obtain⟨p,k,n,rfl,rfl,hp,n1,n5,q⟩:=h;have so:=NJ n5;have lo:(c8 n).length=n:=by unfold c8;simp
 wtm_at "sq";refine b_ ?_;o_head M9 () () (o0:=none) (tl:=[]) rfl (λj y _=>y=.str (kK [48+j])) ?_ ?_
 . intro D j ys o H1 hj inv
   have hj:j<n:=by simpa using hj
   o_head j2 (by have:=sf (show((j:Int)).natAbs<1000000 by lia);lia) ?_;rw[ky,pV,Ey ()];k_few;exact cY inv () (λ_ _ _ _ _ h=>h) ⟨_,rfl⟩ (ae.refl _) rfl
 intro D ys H0 nD S0 eD lD rD
 have io:dJ H0 (.ref D) (c8 n):=⟨D,rfl,by
   have ey:ys=(c8 n).map V.str:=by
     refine vv (by rw[lD,we,lo];simp) λi h1 h2=>?_
     rw[rD i ys[i] (wg h1)];simp[c8]
   rw[<- ey];exact eD⟩
 clear eD lD rD;wtm_at "gn";have hB:∀x∈ni (c8 n),dm 1 n x=true:=λx hx=>zDi n1 n5 hx
 generalize c8 n=o at *;o_head fj ∅ (λlg Ha na Sa ea=>?_);o_head fG ∅ (λlt Hb nb Sb eb=>?_);o_head Ph (λld Hc nc Sc ec=>?_);o_head fj ∅ (λlo1 Hd nd Sd ed=>?_);have i0:jo Hd (.ref lo1) [.bh,.int 5,.bl true,.ref lg,.ref lt,.ref ld] ([""," ","Glow","glow "," glow","glow 1","glows"].map tx):=⟨lo1,rfl,ed⟩;clear ed nd;have ob:j3 Hd lg lt ld:=⟨(Sb.trans (Sc.trans Sd)) _ _ ea,(Sc.trans Sd) _ _ eb,Sd _ _ ec⟩;have io:=io.by (Sa.trans (Sb.trans (Sc.trans Sd)));have T0:=S0.trans (Sa.trans (Sb.trans (Sc.trans Sd)));clear ea eb ec na nb nc Sa Sb Sc Sd S0;wtm_at "gn";wtm_at "sq";refine b_ ?_
 apply fi i0 rfl
 . wtm_at "pu"
 . exact w6 rfl
 intro v1 H1 S1 i1;clear i0;wtm_at "gn";wtm_at "sq";refine b_ ?_
 apply fi i1 rfl
 . wtm_at "pu"
 . exact w6 rfl
 intro v2 H2 S2 i2;clear i1;wtm_at "gn";wtm_at "sq";refine b_ ?_
 apply fi i2 rfl
 . wtm_at "pu"
 . exact w6 rfl
 intro v3 H3 S3 i3;clear i2;wtm_at "gn";wtm_at "sq";refine b_ ?_
 apply fi i3 rfl
 . wtm_at "pu"
 . exact w6 rfl
 intro v4 H4 S4 i4;clear i3;wtm_at "gn";wtm_at "sq";refine b_ ?_
 apply fi i4 rfl
 . wtm_at "pu"
 . exact w6 rfl
 intro v5 H5 S5 i5;clear i4;wtm_at "gn";wtm_at "sq";refine b_ ?_
 apply fi i5 rfl
 . wtm_at "pu"
 . exact w6 rfl
 intro v6 H6 S6 i6;clear i5;wtm_at "gn";wtm_at "sq";refine b_ ?_
 apply fi i6 rfl
 . wtm_at "pu"
 . exact w6 rfl
 intro v7 H7 S7 i7;clear i6;wtm_at "gn";wtm_at "sq";refine b_ ?_
 apply fi i7 rfl
 . wtm_at "pu"
 . exact w6 rfl
 intro v8 H8 S8 i8;clear i7;wtm_at "gn";wtm_at "sq";refine b_ ?_
 apply fi i8 rfl
 . wtm_at "pu"
 . exact w6 rfl
 intro v9 H9 S9 i9;clear i8;wtm_at "gn";wtm_at "sq";refine b_ ?_
 apply fi i9 rfl
 . wtm_at "pu"
 . exact w6 rfl
 intro v10 H10 S10 i10;clear i9;wtm_at "gn";wtm_at "sq";refine b_ ?_
 apply fi i10 rfl
 . wtm_at "pu"
 . exact w6 rfl
 intro v11 H11 S11 i11;clear i10;wtm_at "gn";wtm_at "sq";refine b_ ?_
 apply fi i11 rfl
 . wtm_at "pu"
 . exact w6 rfl
 intro v12 H12 S12 i12;clear i11;wtm_at "gn";wtm_at "sq";refine b_ ?_
 apply fi i12 rfl
 . wtm_at "pu"
 . exact w6 rfl
 intro v13 H13 S13 i13;clear i12;wtm_at "gn";wtm_at "sq";refine b_ ?_
 apply fi i13 rfl
 . wtm_at "pu"
 . exact w6 rfl
 intro v14 H14 S14 i14;clear i13;wtm_at "gn";wtm_at "sq";refine b_ ?_
 apply fi i14 rfl
 . wtm_at "pu"
 . exact w6 rfl
 intro v15 H15 S15 i15;clear i14;wtm_at "gn";wtm_at "sq";refine b_ ?_
 apply fi i15 rfl
 . wtm_at "pu"
 . exact w6 rfl
 intro v16 H16 S16 i16;clear i15;wtm_at "gn";have S:=S1.trans (S2.trans (S3.trans (S4.trans (S5.trans (S6.trans (S7.trans (S8.trans (S9.trans (S10.trans (S11.trans (S12.trans (S13.trans (S14.trans (S15.trans (S16)))))))))))))));have i16:jo H16 v16 _ (ni o):=i16;have ob:=ob.by S;have T:=T0.trans S;have P16:=hp.same T;clear io so lo S T0 hp;obtain⟨l,rfl,e16⟩:=i16;o_head ⟨l,_,rfl,.inl (.of e16),?_⟩;rw[show([V.bh,V.int 5,V.bl true,V.ref lg,V.ref lt,V.ref ld]++(ni o).map V.str).length=68 from rfl];k_few;rename_i d H17 d0 d1 E7 K7 P7;have e17:=E7.at (zB8 P16 e16) e16;have ob:=ob.exc P16 E7;obtain⟨v,ev,mv⟩:=B6 (xs:=[V.bh,V.int 5,V.bl true,V.ref lg,V.ref lt,V.ref ld]++(ni o).map V.str) (m:=d) d0 d1;refine dS (.of e17) ev (q v H17 ?_ (T.exc.trans E7) (T.keep.trans K7) P7);rcases vR.mp mv with m | m
 . left
   simp only[wz,vI,or_false]at m;exact ob.no m
 . right
   obtain⟨x,hx,rfl⟩:=wU.mp m;exact⟨x,rfl,hB x hx⟩
theorem zyu :[1,2,3,4,5].all (λn=>pZ.all (dm 2 n))=true:=by decide +kernel
theorem zzx(h:x∈pZ)(n1:1<=n)(n5:n<=5):dm 2 n x=true:=wH.mp (wH.mp zyu n (AJ n1 n5)) x h
def Ny(K:wa):Sp:=λvs H Q _=>∃x0,vs=[x0] /\ ∃(p:wc)(k:Int),x0=.ref p/\aS H p k /\ ∀x H',(∀n,1<=n->n<=5->dm 2 n x=true)->Exc p H H'->aZ H H'->aS H' p k->Q (.str x) H'
theorem zmw{p:wc}(hp:aS H p k)(q:∀x H',(∀n,1<=n->n<=5->dm 2 n x=true)->Exc p H H'->aZ H H'->aS H' p k->Q (.str x) H'):Ny K [.ref p] H Q E:=⟨_,rfl,p,k,rfl,hp,q⟩
theorem zmS(T:Txt w K mg a):aC P w K mg base aO 2 a.HD a.Gi zJ (Ny K):=by
 refine T.GK.F.ok lu ?_ ?_;wtm_at "b1"
 refine⟨_,(@iO.h _ _ _ (bY (cn 1 lu.nd (cg (ar (ai ag) (ar (ai ag) (ar (ai ag) (ar (ai ag) (ar (ai ag) (ar (ai ag) (ar (ai ag) bB ay) ay) ay) ay) ay) ay) ay)))
     (bY (cn 1 lu.nd (bK aN (ai (pv 1)) (cg (ar (ai ag) bB ay))))
     (bY (cn 1 lu.nd (bK aN (ai (pv 1)) (cg (ar (ai ag) (ar (ai ag) (ar (ai ag) bB ay) ay) ay))))
     (bY (cn 1 lu.nd (bK aN (ai (pv 1)) (cg (ar (ai ag) bB ay))))
     (bY (cn 1 lu.nd (bK aN (ai (pv 1)) (cg (ar (ai ag) (ar (ai ag) (ar (ai ag) bB ay) ay) ay))))
     (bY (cn 1 lu.nd (bK aN (ai (pv 1)) (cg (ar (ai ag) (ar (ai ag) bB ay) ay))))
     (oK (sN (yR eK (ai (pv 1)) (ai (av (dB T) hr T.de (aa (pv 0) (aa (cD K T.h2f (q1 1)) af)))) (λ_ _=>rfl))))))))))),?_⟩
 wtm_at "cl";rw[show start OW [x0]=[some x0,none]from rfl];obtain⟨p,k,rfl,hp,q⟩:=h;wtm_at "sq";refine b_ ?_
 apply cO.go
 . wtm_at "pu"
 intro v1 H1 S1 i1;wtm_at "gn";wtm_at "sq";refine b_ ?_
 apply cO.go
 . wtm_at "pu"
 intro v2 H2 S2 i2;wtm_at "gn";wtm_at "sq";refine b_ ?_
 apply cO.go
 . wtm_at "pu"
 intro v3 H3 S3 i3;wtm_at "gn";wtm_at "sq";refine b_ ?_
 apply cO.go
 . wtm_at "pu"
 intro v4 H4 S4 i4;wtm_at "gn";wtm_at "sq";refine b_ ?_
 apply cO.go
 . wtm_at "pu"
 intro v5 H5 S5 i5;wtm_at "gn";wtm_at "sq";refine b_ ?_
 apply cO.go
 . wtm_at "pu"
 intro v6 H6 S6 i6;wtm_at "gn";have S:=S1.trans (S2.trans (S3.trans (S4.trans (S5.trans S6))));have P5:=hp.same S;have i5:dJ H6 v6 pZ:=i6;clear hp;o_head RZ i5 ?_;rw[show pZ.length=17 from by decide];k_few;rename_i d H7 d0 d1 E7 K7 P7;refine Lh (DW i5 P5 E7) d0 (by rw[show pZ.length=17 from by decide];lia) (λx hx=>?_);exact q x H7 (λn n1 n5=>zzx hx n1 n5) (S.exc.trans E7) (S.keep.trans K7) P7
theorem zB4 :[1,2,3,4,5].all (λn=>(iN n (c8 n)).all (dm 3 n))=true:=by decide +kernel
theorem zC2 :[2,3,4,5].all (λn=>(mL n (c8 n)).all (dm 3 n))=true:=by decide +kernel
theorem Zx(n1:1<=n)(n5:n<=5)(h:x∈iN n (c8 n)):dm 3 n x=true:=wH.mp (wH.mp zB4 n (AJ n1 n5)) x h
theorem zCS(n1:1<n)(n5:n<=5)(h:x∈mL n (c8 n)):dm 3 n x=true:=wH.mp (wH.mp zC2 n (by simp only[wz,vI,or_false];lia)) x h
def NK(K:wa):Sp:=λvs H Q _=>∃x0 x1,vs=[x0,x1] /\ ∃(p:wc)(k:Int)(n:Nat),x0=.ref p/\x1=.int (n:Int)/\aS H p k/\1<=n/\n<=5 /\ ∀x H',dm 3 n x=true->Exc p H H'->aZ H H'->aS H' p k->Q (.str x) H'
theorem zl4{p:wc}(hp:aS H p k)(n1:1<=n)(n5:n<=5)(q:∀x H',dm 3 n x=true->Exc p H H'->aZ H H'->aS H' p k->Q (.str x) H'):NK K [.ref p,.int (n:Int)] H Q E:=⟨_,_,rfl,p,k,n,rfl,rfl,hp,n1,n5,q⟩
theorem zlW(T:Txt w K mg a):aC P w K mg base aO 2 a.Hg a.Gb u_ (NK K):=by
 refine T.Gg.F.ok nP ?_ ?_;wtm_at "b2";have hgd:=hr.gd
 refine⟨_,(@iO.h _ _ _ (bY (L6 (o_ (i:=2) nP.nd rfl (Or.inl rfl) rfl (cF ["_law_worm"] [none]) (l9 rfl T.h1U (q1 1)) (λ_ _ _ _ _=>(cv 0)) (λ_ _ _ _ _=>cX) (λ_ _ _ _ _=>(d5 (show aM _ (.type "str") gn from iZ) rfl T.h1Z gk (q1 0)))))
     (bY (cn 3 nP.nd (cg (ar (ai ag) (ar (ai ag) (ar (ai ag) (ar (ai ag) (ar (ai ag) (ar (ai ag) bB ay) ay) ay) ay) ay) ay)))
     (bY (cn 3 nP.nd (bK aN (ai (pv 3)) (cg (ar (ai ag) bB ay))))
     (bY (cn 3 nP.nd (bK aN (ai (pv 3)) (cg (ar (bK aN (ai ag) (ai (cq wI vf vg (show cf _ "str.join" (dr K)from fe) ag (aa (aG aN (cS (aa (d5 (show aM _ (.type "str") gn from iZ) rfl T.h1Z gk (q1 1)) af)) (dP eB (pv 2) (dZ aA) dQ)) af)))) (ar (bK aN (ai ag) (ai (cq wI vf vg (show cf _ "str.join" (dr K)from fe) ag (aa (aG aN (dP eB (pv 2) (dZ aA) dQ) (cS (aa ag af))) af)))) bB jc) jc))))
     (bY (zET (en ki (pv 1) aA (cN _)) (oK (cn 3 nP.nd (bK aN (ai (pv 3)) (ai (aG (show aY _ (Wu .Mult) pS from TF) (cS (aa (aG aN ag (cq wI vf vg (show cf _ "str.join" (dr K)from fe) ag (aa (aG (show aY _ (Wu .Mult) pS from TF) (cS (aa ag af)) (pv 1)) af))) (aa (aG aN ag (cq wI vf vg (show cf _ "str.join" (dr K)from fe) ag (aa (aG aN (dP eB (pv 2) (dZ aA) dQ) (dP eB (pv 2) (dZ (rA pD aA)) dQ)) af))) af))) aA))))) zDK)
     (oK (sN (yR eK (ai (pv 3)) (ai (av (dB T) hr T.de (aa (pv 0) (aa (cD K T.h2f (q1 3)) af)))) (λ_ _=>rfl)))))))))),?_⟩
 wtm_at "cl";rw[show start Me [x0,x1]=[some x0,some x1,none,none]from rfl];obtain⟨p,k,n,rfl,rfl,hp,n1,n5,q⟩:=h;have z1:[kK [48+n]].length=1:=rfl;have so:=NJ n5;have lo:(c8 n).length=n:=by unfold c8;simp
 wtm_at "sq";refine b_ ?_;o_head M9 () () (o0:=none) (tl:=[]) rfl (λj y _=>y=.str (kK [48+j])) ?_ ?_
 . intro D j ys o H1 hj inv
   have hj:j<n:=by simpa using hj
   o_head j2 (by have:=sf (show((j:Int)).natAbs<1000000 by lia);lia) ?_;rw[ky,pV,Ey ()];k_few;exact cY inv () (λ_ _ _ _ _ h=>h) ⟨_,rfl⟩ (ae.refl _) rfl
 intro D ys H0 nD S0 eD lD rD
 have io:dJ H0 (.ref D) (c8 n):=⟨D,rfl,by
   have ey:ys=(c8 n).map V.str:=by
     refine vv (by rw[lD,we,lo];simp) λi h1 h2=>?_
     rw[rD i ys[i] (wg h1)];simp[c8]
   rw[<- ey];exact eD⟩
 clear eD lD rD;wtm_at "gn";have hA:∀x∈iN n (c8 n),dm 3 n x=true:=λx hx=>Zx n1 n5 hx
 have hB:1<n->∀x∈mL n (c8 n),dm 3 n x=true:=λz x hx=>zCS z n5 hx
 generalize c8 n=o at *;wtm_at "sq";refine b_ ?_
 apply cO.go
 . wtm_at "pu"
 intro v1 H1 S1 i1;wtm_at "gn";wtm_at "sq";refine b_ ?_
 apply cO.go
 . wtm_at "pu"
 intro v2 H2 S2 i2;wtm_at "gn";wtm_at "sq";refine b_ ?_
 apply cO.go
 . wtm_at "pu"
 intro v3 H3 S3 i3;wtm_at "gn";have i3:dJ H3 v3 (iN n o):=i3;have io:=io.by (S1.trans (S2.trans S3));have S:=S0.trans (S1.trans (S2.trans S3));have P3:=hp.same S;clear i1 i2 hp;wtm_at "sq"
 have fin:∀v H4 L,dJ H4 v L->ae H3 H4->(∀x∈L,dm 3 n x=true)->1<=L.length->L.length<=20->tl_ {nx:=λx H'=>Q V.bh H',rt:=Q} [some (.ref p),some (.int (n:Int)),some (.ref D),some v] H4:=by
   intro v H4 L iv S4 hb l1 l20;wtm_at "tl";o_head RZ iv ?_;have P4:=P3.same S4;k_few;rename_i d H7 d0 d1 E7 K7 P7;exact Lh (DW iv P4 E7) d0 d1 (λx hx=>q x H7 (hb x hx) ((S.trans S4).exc.trans E7) ((S.trans S4).keep.trans K7) P7)
 refine zDT rfl (λz=>?_) (λz=>?_)
 . refine b_ ?_
   apply cO.go
   . apply Of
     . wtm_at "pu"
     . wtm_at "pu"
     . unfold iN;simp[qu]
   intro v4 H4 S4 i4;have i4:dJ H4 v4 (mL n o):=i4;refine CY ?_;exact fin v4 H4 _ i4 S4 (hB z) (by unfold mL iN;simp) (by unfold mL iN;simp)
 . exact fin v3 H3 _ i3 (ae.refl _) hA (by unfold iN;simp) (by unfold iN;simp)
def Fo(K:wa)(a:Ad)(H:Hp)(xs:List Rat)(past:List (Rat × List Rat))(t:wc):Prop:=∃v d C,H t=some (.tup [v,.str d])/\sD K a H xs past v C/\iW a C d/\vM d=true
def R5(K:wa)(a:Ad):Sp:=λvs H Q _=>∃x0 x1 x2 x3,vs=[x0,x1,x2,x3] /\ ∃(p:wc)(k:Int)(xs:List Rat)(past:List (Rat × List Rat))(b1 b2:Bool),x0=.ref p/\x1=.int (xs.length:Int)/\x2=.bl b1/\x3=.bl b2/\aS H p k/\1<=xs.length/\xs.length<=5/\(b1=true->past=[])/\(b2=false->¬ 0∈xs) /\
 ∀t H',Fo K a H' xs past t->Exc p H H'->aZ H H'->aS H' p k->Q (.ref t) H'
theorem zsl{p:wc}{b1 b2:Bool}(hp:aS H p k)(n1:1<=xs.length)(n5:xs.length<=5)(c1:b1=true->past=[])(c2:b2=false->¬ 0∈xs)(q:∀t H',Fo K a H' xs past t->Exc p H H'->aZ H H'->aS H' p k->Q (.ref t) H'):R5 K a [.ref p,.int (xs.length:Int),.bl b1,.bl b2] H Q E:=⟨_,_,_,_,rfl,p,k,xs,past,b1,b2,rfl,rfl,rfl,rfl,hp,n1,n5,c1,c2,q⟩
theorem Eh{k:Nat}(h:dm k n x=true):hW n x=k/\aW x/\x.length<=300:=by
 unfold dm at h;rw[wy,wy,decide_eq_true_eq,decide_eq_true_eq]at h;exact⟨h.1,h.2.1,h.2.2⟩
theorem fU.case{v:V}{t:wc}(h:fU K H v \/ ∃x,v=.str x/\dm 1 xs.length x=true)(e:H t=some (.tup [v,.str "row"])):Fo K a H xs past t:=by
 refine⟨v,_,a.cI,e,?_,.inl ⟨rfl,rfl⟩,cZ _⟩;rcases h with h | ⟨x,rfl,h⟩
 ·exact .inl ⟨h,rfl⟩
 ·obtain⟨k1,k2,k3⟩:=Eh h
  exact .inr ⟨x,rfl,k2,k3,.inl ⟨k1,rfl⟩⟩
theorem zrJ(T:Txt w K mg a):aC P w K mg base aO 3 a.Jv a.HG zQ (R5 K a):=by
 refine T.Im.F.ok Mc ?_ ?_;wtm_at "b4"
 refine⟨_,(aj (aJ 4 Mc.nd (av (dB T) hr T.de (aa (pv 0) (aa aA af))))
     (aj (bo (PW.pt (zR (gD K hu (pv 4) aA) (uP (bI (pv 2))))) (ak (aB (cE (aa ag (aa ag af))))) bj)
     (aj (bo (PW.pt (zR (gD K hu (pv 4) aA) (uP (cc (bI (pv 3)))))) (ak (aB (cE (aa (f_ eK (cS (aa ag (aa ag af))) (av (dB T) hr T.de (aa (pv 0) (aa aA af))) (λ_ _=>rfl)) (aa ag af))))) bj)
     (aj (bo (en nJ (pv 4) aA (cN _)) (ak (aB (cE (aa (av (zmS T) hr T.GK (q1 0)) (aa ag af))))) bj)
     (aj (bo (en nJ (pv 4) aA (cN _)) (ak (aB (cE (aa (av (zlW T) hr T.Gg (q2 0 1)) (aa ag af))))) bj)
     (ak (aB (cE (aa (av (zof T) hr T.Hj (q2 0 1)) (aa ag af)))))))))),?_⟩
 wtm_at "cl";rw[show start MZ [x0,x1,x2,x3]=[some x0,some x1,some x2,some x3,none]from rfl];obtain⟨p,k,xs,past,b1,b2,rfl,rfl,rfl,rfl,hp,n1,n5,c1,c2,q⟩:=h;wtm_at "gt";rename_i r H1 r0 r1 E1 K1 P1;wtm_at "tl";wtm_at "sq"
 have m1:tl_ {nx:=λ_ H'=>Q V.bh H',rt:=Q} [some (.ref p),some (.int (xs.length:Int)),some (.bl b1),some (.bl b2),some (.int r)] H1:=by
   wtm_at "tl";wtm_at "sq"
   have m2:tl_ {nx:=λ_ H'=>Q V.bh H',rt:=Q} [some (.ref p),some (.int (xs.length:Int)),some (.bl b1),some (.bl b2),some (.int r)] H1:=by
     wtm_at "tl";k_few
     . refine zmw P1 (λx H2 hx E2 K2 P2=>?_)
       o_head fG ∅ (λt H3 n3 S3 e3=>?_);obtain⟨k1,k2,k3⟩:=Eh (hx _ n1 n5);exact q t H3 ⟨_,_,a.bC,e3,.inr ⟨x,rfl,k2,k3,.inr (.inl ⟨k1,rfl⟩)⟩,.inr (.inl ⟨rfl,rfl⟩),cZ _⟩ (E1.trans (E2.trans S3.exc)) (K1.trans (K2.trans S3.keep)) (P2.same S3)
     . refine zl4 P1 n1 n5 (λx H2 hx E2 K2 P2=>?_)
       o_head fG ∅ (λt H3 n3 S3 e3=>?_);obtain⟨k1,k2,k3⟩:=Eh hx;exact q t H3 ⟨_,_,a.bM,e3,.inr ⟨x,rfl,k2,k3,.inr (.inr (.inl ⟨k1,rfl⟩))⟩,.inr (.inr (.inl ⟨rfl,rfl⟩)),cZ _⟩ (E1.trans (E2.trans S3.exc)) (K1.trans (K2.trans S3.keep)) (P2.same S3)
     . refine zoB P1 n1 n5 (λv H2 hx E2 K2 P2=>?_)
       o_head fG ∅ (λt H3 n3 S3 e3=>?_)
       have hx:fU K H3 v \/ ∃x,v=.str x/\dm 1 xs.length x=true:=by
         rcases hx with hx | hx
         . exact .inl (hx.by S3)
         . exact .inr hx
       exact q t H3 (fU.case hx e3) (E1.trans (E2.trans S3.exc)) (K1.trans (K2.trans S3.keep)) (P2.same S3)
   wtm_at "gt"
   all_goals first | exact m2 | skip
   rename_i z1 z2;refine fj ∅ (λl2 H2 n2 S2 e2=>?_);have P2:=P1.same S2;have n2p:l2≠p:=aS.ne n2 P1;wtm_at "gt";rename_i d H3 d0 d1 E3 K3 P3;have e3:=E3.at n2p e2;obtain⟨w,ew,mw⟩:=B6 (xs:=[V.str "free",V.str "still"]) (m:=d) d0 (by simpa using d1);refine dS (.of e3) ew ?_;wtm_at "gt";refine fG ∅ (λt H4 n4 S4 e4=>?_);refine q t H4 ⟨_,_,a.cu,e4,?_,.inr (.inr (.inr (.inr (.inl ⟨rfl,rfl⟩)))),cZ _⟩ (E1.trans (S2.exc.trans (E3.trans S4.exc))) (K1.trans (S2.keep.trans (K3.trans S4.keep))) (P3.same S4);simp only[wz,vI,or_false]at mw;rcases mw with rfl | rfl
   . exact .inr ⟨_,rfl,by unfold aW;decide +kernel,by decide,.inr (.inr (.inr (.inr ⟨.inl rfl,c2 z2,rfl⟩)))⟩
   . exact .inr ⟨_,rfl,by unfold aW;decide +kernel,by decide,.inr (.inr (.inr (.inr ⟨.inr rfl,c2 z2,rfl⟩)))⟩
 wtm_at "gt"
 all_goals first | exact m1 | skip
 rename_i z1 z2;refine fG ∅ (λt H3 n3 S3 e3=>?_);exact q t H3 ⟨_,_,a.cH,e3,.inr ⟨_,rfl,by unfold aW;decide +kernel,by decide,.inr (.inr (.inr (.inl ⟨rfl,c1 z2,rfl⟩)))⟩,.inr (.inr (.inr (.inl ⟨rfl,rfl⟩))),cZ _⟩ (E1.trans S3.exc) (K1.trans S3.keep) (P1.same S3)
def gM(k:Nat)(x:wm):Bool:=decide (fg x=k)&&(x.cps.all (· < 128)&&decide (x.length<=300))
def j5(H:Hp)(w:V)(k:Nat):Prop:=(k=1/\(w=.bh\/w=.int 7 \/ ∃xs,dJ H w xs)) \/ ∃x:wm,w=.str x/\gM k x=true
def Px(k:Nat):wm:=if k=1 then wb "text" else if k=2 then wb "rule" else wb "swarm"
def cj(H:Hp)(u:V):Prop:=∃t w k,u=.ref t/\H t=some (.tup [w,.str (Px k)])/\(k=1\/k=2\/k=3)/\j5 H w k
theorem j5.by{w:V}{k:Nat}(h:j5 H w k)(s:ae H H'):j5 H' w k:=by
 rcases h with⟨e,h | h | ⟨xs,h⟩⟩ | h
 ·exact .inl ⟨e,.inl h⟩
 ·exact .inl ⟨e,.inr (.inl h)⟩
 ·exact .inl ⟨e,.inr (.inr ⟨xs,h.by s⟩)⟩
 ·exact .inr h
theorem cj.st :lK cj:=λH H' v s ⟨t,w,k,e,g,z,h⟩=>⟨t,w,k,e,s _ _ g,z,h.by s⟩
theorem cj.exc{p:wc}{u:V}(hp:aS H p k)(s:Exc p H H')(h:cj H u):cj H' u:=by
 obtain⟨t,w,j,e,g,z,h⟩:=h;have kp:=hp.keep s;refine⟨t,w,j,e,kp.t _ _ g,z,?_⟩;rcases h with⟨e,h | h | ⟨xs,h⟩⟩ | h
 ·exact .inl ⟨e,.inl h⟩
 ·exact .inl ⟨e,.inr (.inl h)⟩
 ·exact .inl ⟨e,.inr (.inr ⟨xs,DW h hp s⟩)⟩
 ·exact .inr h
theorem j5.st(k:Nat):lK (λH w=>j5 H w k):=λH H' v s h=>h.by s
theorem gR{ta:TE}(k:Nat)(z:k=1\/k=2\/k=3)(e:Px k=d)(h:dz ta σ H (λH w=>j5 H w k)):dz (pW K (dj ta (dj (tC (.str d)) eI))) σ H cj:=by
 subst e;exact zEc (j5.st k) h λH' t w r g=>⟨t,w,k,rfl,g,z,r⟩
theorem jU{k:Nat}(h:gM k x=true):dz (tC (.str x)) σ H (λH w=>j5 H w k):=Dk λ_=>.inr ⟨x,rfl,h⟩
theorem zwz :gM 1 (tx "")=true/\gM 1 (tx "rule 1 1/2")=true/\gM 1 (tx "rule 1 1/2\nworms")=true/\gM 2 (tx "rule 5 1\nworms 2")=true/\gM 3 (tx "rule 1 1/2\nworms 1")=true/\gM 1 (tx "rule 1 1/2; worms 0")=true /\
  gM 2 (tx "rule 1 2\nworms 0")=true/\gM 1 (tx "rule 1 1/2\nworms 0\n")=true/\gM 3 (tx "rule 1 1/2\nworms 1/61")=true:=by decide +kernel
def M3(K:wa)(a:Ad):Sp:=λvs H Q _=>∃x0,vs=[x0] /\ ∃(p:wc)(k:Int),x0=.ref p/\aS H p k /\ ∀t w d C H',H' t=some (.tup [w,.str d])->jO K a H' w C->iW a C d->vM d=true->Exc p H H'->aZ H H'->aS H' p k->Q (.ref t) H'
theorem zkG{p:wc}(hp:aS H p k)(q:∀t w d C H',H' t=some (.tup [w,.str d])->jO K a H' w C->iW a C d->vM d=true->Exc p H H'->aZ H H'->aS H' p k->Q (.ref t) H'):M3 K a [.ref p] H Q E:=⟨_,rfl,p,k,rfl,hp,q⟩
theorem PF{K:wa}{H:Hp} : ∀xs:List wm,aq K H (xs.map V.str) (xs.map PyData.str)
 | []=>.nil
 | _::xs=>.cons (cP.mpr rfl) (PF xs)
theorem cj.go{u:V}(h:cj H u):∃t w d C,u=.ref t/\H t=some (.tup [w,.str d])/\jO K a H w C/\iW a C d/\vM d=true:=by
 obtain⟨t,w,j,e,g,z,h⟩:=h;rcases h with⟨rfl,h⟩ | ⟨x,rfl,h⟩
 ·refine⟨t,w,_,a.bC,e,g,.inl ⟨?_,rfl⟩,.inr (.inl ⟨rfl,rfl⟩),cZ _⟩
  rcases h with rfl | rfl | ⟨xs,l,rfl,h⟩
  ·exact⟨.none,kg.mpr rfl,rfl⟩
  ·exact⟨.int 7,cC.mpr rfl,rfl⟩
  ·exact⟨.list (xs.map PyData.str),cR.mpr ⟨l,_,rfl,.of h,PF xs⟩,rfl⟩
 ·unfold gM at h
  rw[wy,wy,decide_eq_true_eq,decide_eq_true_eq]at h;obtain⟨h1,h2,h3⟩:=h;rcases z with rfl | rfl | rfl
  ·exact⟨t,_,_,a.bC,e,g,.inr ⟨x,rfl,h2,h3,.inl ⟨h1,rfl⟩⟩,.inr (.inl ⟨rfl,rfl⟩),cZ _⟩
  ·exact⟨t,_,_,a.cG,e,g,.inr ⟨x,rfl,h2,h3,.inr (.inl ⟨h1,rfl⟩)⟩,.inr (.inr (.inr (.inr (.inr ⟨rfl,rfl⟩)))),cZ _⟩
  ·exact⟨t,_,_,a.bM,e,g,.inr ⟨x,rfl,h2,h3,.inr (.inr ⟨h1,rfl⟩)⟩,.inr (.inr (.inl ⟨rfl,rfl⟩)),cZ _⟩
theorem zkN(T:Txt w K mg a):aC P w K mg base aO 2 a.GF a.F8 yh (M3 K a):=by
 refine T.Ga.F.ok lQ ?_ ?_;wtm_at "b1"
 refine⟨_,(@iO.h _ _ _ (bY (cn 1 lQ.nd (cg (ar (fW (ar (ai pP) (ar (ai ag) bB ay) ay)) (ar (fW (ar (ai ag) (ar (ai ag) bB ay) ay)) (ar (fW (ar (ai ag) (ar (ai ag) bB ay) ay)) (ar (fW (ar (ai ag) (ar (ai ag) bB ay) ay)) bB gb) gb) gb) gb)))
     (bY (cn 1 lQ.nd (bK aN (ai (pv 1)) (cg (ar (fW (ar (ai ag) (ar (ai ag) bB ay) ay)) bB gb))))
     (bY (cn 1 lQ.nd (bK aN (ai (pv 1)) (cg (ar (fW (ar (ai ag) (ar (ai ag) bB ay) ay)) (ar (fW (ar (ai ag) (ar (ai ag) bB ay) ay)) bB gb) gb))))
     (bY (cn 1 lQ.nd (bK aN (ai (pv 1)) (cg (ar (fW (ar (ai ag) (ar (ai ag) bB ay) ay)) (ar (fW (ar (ai aA) (ar (ai ag) bB ay) ay)) bB gb) gb))))
     (bY (cn 1 lQ.nd (bK aN (ai (pv 1)) (cg (ar (fW (ar (ai ag) (ar (ai ag) bB ay) ay)) (ar (fW (ar (ai ag) (ar (ai ag) bB ay) ay)) bB gb) gb))))
     (bY (cn 1 lQ.nd (bK aN (ai (pv 1)) (cg (ar (fW (ar (cg (ar (ai ag) (ar (ai ag) bB ay) ay)) (ar (ai ag) bB ay) MQ)) bB gb))))
     (oK (sN (yR eK (ai (pv 1)) (ai (av (dB T) hr T.de (aa (pv 0) (aa (cD K T.h2f (q1 1)) af)))) (λ_ _=>rfl))))))))))),?_⟩
 wtm_at "cl";rw[show start Tu [x0]=[some x0,none]from rfl];obtain⟨p,k,rfl,hp,q⟩:=h;obtain⟨b1,b2,b3,b4,b5,b6,b7,b8,b9⟩:=zwz;wtm_at "sq";refine b_ ?_
 apply dz.go (mJ cj.st (gN cj.st (gR 1 ⋯ rfl (Dk λ_=>.inl ⟨rfl,.inl rfl⟩)) (gN cj.st (gR 1 ⋯ rfl (jU b1)) (gN cj.st (gR 1 ⋯ rfl (jU b2)) (gN cj.st (gR 1 ⋯ rfl (jU b3)) nS)))))
 intro v1 H1 S1 i1;wtm_at "gn";wtm_at "sq";refine b_ ?_
 apply dz.go (oF cj.st i1 (mJ cj.st (gN cj.st (gR 2 ⋯ rfl (jU b4)) nS)))
 intro v2 H2 S2 i2;wtm_at "gn";wtm_at "sq";refine b_ ?_
 apply dz.go (oF cj.st i2 (mJ cj.st (gN cj.st (gR 3 ⋯ rfl (jU b5)) (gN cj.st (gR 1 ⋯ rfl (jU b6)) nS))))
 intro v3 H3 S3 i3;wtm_at "gn";wtm_at "sq";refine b_ ?_
 apply dz.go (oF cj.st i3 (mJ cj.st (gN cj.st (gR 2 ⋯ rfl (jU b7)) (gN cj.st (gR 1 ⋯ rfl (Dk λ_=>.inl ⟨rfl,.inr (.inl rfl)⟩)) nS))))
 intro v4 H4 S4 i4;wtm_at "gn";wtm_at "sq";refine b_ ?_
 apply dz.go (oF cj.st i4 (mJ cj.st (gN cj.st (gR 1 ⋯ rfl (jU b8)) (gN cj.st (gR 3 ⋯ rfl (jU b9)) nS))))
 intro v5 H5 S5 i5;wtm_at "gn";wtm_at "sq";refine b_ ?_
 apply dz.go (oF cj.st i5 (mJ cj.st (gN cj.st (gR 1 ⋯ rfl (zAR (Zy (Ni (Bz n9 (Bz n9 KC)) ⋯)) λ_ _ h=>.inl ⟨rfl,.inr (.inr ⟨_,h⟩)⟩)) nS)))
 intro v6 H6 S6 i6;wtm_at "gn";have S:=S1.trans (S2.trans (S3.trans (S4.trans (S5.trans S6))));have P6:=hp.same S;have i6:iG H6 v6 cj 12:=i6;clear i1 i2 i3 i4 i5 hp;o_head zAU i6 ?_;k_few;rename_i d H7 d0 d1 E7 K7 P7
 have i7:iG H7 v6 cj 12:=by
   obtain⟨l,us,e,g,z,kk⟩:=i6;refine⟨l,us,e,E7 _ _ (λz2=>?_) g,z,λu hu=>(kk u hu).exc P6 E7⟩;obtain⟨_,x,y,gp⟩:=P6;rw[z2,gp]at g;cases g;simp at z
 refine zym i7 d0 d1 (λu hu=>?_);obtain⟨t,w,dd,C,rfl,k1,k2,k3,k4⟩:=hu.go (K:=K) (a:=a);exact q t w dd C H7 k1 k2 k3 k4 (S.exc.trans E7) (S.keep.trans K7) P7
section
variable{K:wa}{H H' H2:Hp}{C o l p:wc}{ra rb t:Rat}{xs:List Rat}{past:List (Rat × List Rat)}
theorem cz.exc{k:Int}(h:cz K H C o l ra rb xs t past)(hp:aS H p k)(n:l≠p)(s:Exc p H H'):cz K H' C o l ra rb xs t past:=by
 have kp:=hp.keep s;obtain⟨_,x,y,ep⟩:=hp;obtain⟨dx,vs,vh,ps,h1,h2,h3,h4,h5⟩:=h;exact⟨dx,vs,vh,ps,s _ _ (λz=>by rw[z,ep]at h1;cases h1) h1,h2.cJ kp (d8 _ _ _),h3.cJ kp (eX _),s _ _ n h4,aq.keep kp _ _ (rl _ _ _) h5⟩
end
def ia(a b:Rat)(xs:List Rat)(k:Nat):List (Rat × List Rat):=(vP k).map λi=>(fX a b xs i,eH a b xs i)
theorem Cu(a b:Rat)(xs:List Rat)(k:Nat):ia a b xs (k+1)=ia a b xs k++[(fX a b xs k,eH a b xs k)]:=by
 unfold ia;rw[X6,vJ]
 rfl
theorem YN(a b:Rat)(xs:List Rat)(k:Nat):(ia a b xs k).length=k:=by unfold ia;simp
theorem zpR :(aP 0 == wb "0")=true:=by decide +kernel
theorem jI{H:Hp}{o l:wc}{ra rb:Rat}{xs:List Rat}{k:Nat}(ok:cw ra rb)(h1:1<=xs.length)(h5:xs.length<=5)(hp:∀x∈xs,di x)(hk:k<=2)(D:cz K H a.bG o l ra rb (eH ra rb xs k) (fX ra rb xs k) (ia ra rb xs k)):yt K a H o l ra rb (fX ra rb xs k) (eH ra rb xs k) (ia ra rb xs k):=by
 have ph:ku xs:=⟨λx hx=>(hp x hx).nn,λx hx=>(hp x hx).lt⟩
 have b6:∀j,ah 6 (xs.getD j 0):=λj=>by
  rcases vt j xs.length with z | z
  ·exact(hp _ (getD_mem z)).jP
  ·rw[wk,vj z];exact ah.zero.mono ⋯
 have c0:Cm 37 xs:=(Cm.YE b6).mono ();have c:=c0.Kj ok.ba ok.bb h1 k;have e:(2+21*xs.length)*k<=107*2:=QE () hk;have pk:=ph.at ok.a0 ok.b0 k;have el:=pX ra rb xs k;exact⟨D,ok,by lia,by lia,pk.nn,zCG (m:=290) (c.mono ()) λy hy=>wx _ hy,(c.jP (wV ..)).mono (),by rw[YN];lia⟩
def za(K:wa):Sp:=λvs H Q _=>∃x0,vs=[x0] /\ ∃(a:wc)(ns:List Int),x0=.ref a/\iA K H a (ns.map V.int)/\ns.length<=63 /\ ∀H',Q (.bl true) H'
theorem zDf(T:Txt w K mg a):aC P w K mg base aO 10 a.law a.J6 zc (za K):=by
 refine T.YI.F.ok fo ?_ ?_;wtm_at "b1"
 refine⟨_,(aj (aJ 1 fo.nd (av (Og T) hr T.Aq (aa (pv 0) (aa aA af))))
     (aj (aJ 2 fo.nd (av (Zj T) hr T.HS (q1 1)))
     (aj (aJ 3 fo.nd (zzD T.JR (MA T) (hr.mono ⋯) rfl T.J_ T.Ai.b .nil jQ (aa (av (Lg T) hr T.Am (q1 2)) af)))
     (aj (aJ 4 fo.nd (av (dB T) hr T.de (aa (pv 1) (aa aA af))))
     (aj (kH Wg rfl (l9 rfl T.h1U (q1 4)) (fL (i:=5) fo.nd rfl (Or.inl rfl)) (ak (lU (jM (pv 3) T.bU T.js (jC T) (hr.mono ⋯) T.iH.b .nil jQ (aa ag af)))))
     (Kw (zAo (i:=6) fo.nd rfl (Or.inl rfl) (zxP (pv 3) T.bU T.js (jC T) (hr.mono ⋯) T.iH.b .nil jQ (zxA RA af)))
     (nk (PS.p (aJ 7 fo.nd (jM (pv 3) T.bU T.js (jC T) (hr.mono ⋯) T.iH.b .nil jQ (aa ag af))))
     (nk (PS.p (aJ 8 fo.nd (Bw (fw ki (pv 4) aA (cN _)) (dD (fw (show aY _ (vk .In) (jL K)from q_ hu) (cE (aa aA (aa aA af))) (qi 2) (by with_unfolding_all rfl))))))
     (nk (PS.p (kH Wg rfl (l9 rfl T.h1U (aa aA af)) (fL (i:=5) fo.nd rfl (Or.inl rfl)) (aj (aJ 1 fo.nd (av (Og T) hr T.Aq (aa (pv 0) (aa (aG aN aA (pv 5)) af))))
     (aj (lO (av (zrJ T) hr T.Im (by exact(@aa _ _ _ _ _ (pv 1) (@aa _ _ _ _ _ (cD K T.h2f (aa (qi 2) af)) (@aa _ _ _ _ _ (iQ K hu (pv 4) aA) (@aa _ _ _ _ _ (pv 8) af kB) (by rfl)) (by rfl)) kB))) (oQ (n:=2) rfl (jk (fL (i:=9) fo.nd rfl (Or.inl rfl)) (jk (fL (i:=10) fo.nd rfl (Or.inl rfl)) rn))))
     (aj (bo (PW.pt (dh (eM K hu (av (znS T) hr T.Gz (q2 3 9)) (pv 10)) (dh (eM K hu (jM (pv 3) T.bU T.js (jC T) (hr.mono ⋯) T.iH.b .nil jQ (aa ag af)) (pv 6)) (eG (eM K hu (jM (pv 3) T.bU T.js (jC T) (hr.mono ⋯) T.iH.b .nil jQ (aa ag af)) (pv 7)))))) (ak (aB dM)) bj)
     (aj (lO (av (zkN T) hr T.Ga (q1 1)) (oQ (n:=2) rfl (jk (fL (i:=11) fo.nd rfl (Or.inl rfl)) (jk (fL (i:=10) fo.nd rfl (Or.inl rfl)) rn))))
     (ak (bo (eM K hu (av (zsI T) hr T.Ip (q1 11)) (pv 10)) (ak (aB dM)) bj))))))))
     (nk (PS.p (kH Wg rfl (l9 rfl T.h1U (q1 4)) (fL (i:=5) fo.nd rfl (Or.inl rfl)) (ak (bo (eM K hu (jM (pv 3) T.bU T.js (jC T) (hr.mono ⋯) T.iH.b .nil jQ (aa ag af)) ag) (ak (aB dM)) bj))))
     (DE (Ff (zw9 (iQ K hu (jM (pv 3) T.bU T.js (jC T) (hr.mono ⋯) T.iH.b .nil jQ (aa ag af)) ag) (zAv (show aY _ (vk .Eq) (jd K)from sF hu) (jM (pv 3) T.bU T.js (jC T) (hr.mono ⋯) T.iH.b .nil jQ (aa ag af)) (NS (av (Lg T) hr T.Am (q1 2))) (cN _))))))))))))))),?_⟩
 wtm_at "cl";rw[show start OA [x0]=[some x0,none,none,none,none,none,none,none,none,none,none,none]from rfl];obtain⟨a',ns,rfl,hs,hl,q⟩:=h;o_head Lk hs hl ⋯ ⋯ (λp H1 n1 S1 P1=>?_);have hs1:=S1.keep.iS hs;o_head zpM P1 (λv2 H2 ra rb xs E2 K2 P2 i2 ok h1 h5 hp=>?_);have hs2:=K2.iS hs1;clear hs hs1 n1 S1 P1 E2 K2;k_few;unfold TB;o_head Ox i2 ok () (λx hx=>pA (hp x hx)) (λH3 S3=>?_);k_few;intro o dx ho hdx hne;have S4:ae H3 (upd (upd H3 dx (.own o)) o (.ins a.bG dx [])):=(ae.upd hdx).trans (ae.upd (by rw[bV (WC hne)];exact ho));have e4:(upd (upd H3 dx (.own o)) o (.ins a.bG dx [])) o=some (.ins a.bG dx []):=bW;generalize upd (upd H3 dx (.own o)) o (.ins a.bG dx [])=H4 at *;have P3:=P2.same S3;have nop:o≠p:=aS.ne ho P3;have P4:=P3.same S4;refine zqF e4 ok h1 h5 hp (λl H5 hl5 E5 D5=>⟨rfl,?_⟩);have pK:l≠p:=aS.ne hl5 P4;have P5:=P4.exc E5 nop.symm;have K5:=E5.j9 e4;have hs5:=(S3.trans S4).keep.trans K5 |>.iS hs2
 have i5:=(i2.by (S3.trans S4)).cJ K5 (d8 _ _ _);clear hs2 i2 S3 S4 e4 P3 P4 P2 E5 K5 ho hdx hne hl5;k_few;rename_i r H6 r0 r1 E6 K6 P6;obtain⟨m,rfl⟩:∃m:Nat,r=(m:Int):=⟨r.toNat,by lia⟩;have m2:m<=2:=by lia
 refine oO (n:=(m:Int)) () () (λi σ H'=>∃o5,σ = [some (.ref a'),some (.ref p),some v2,some (.ref o),some (.int (m:Int)),o5,none,none,none,none,none,none]/\iA K H' a' (ns.map V.int)/\Is K H' v2 (br ra rb xs)/\cz K H' a.bG o l ra rb (eH ra rb xs i) (fX ra rb xs i) (ia ra rb xs i)) ⟨_,rfl,K6.iS hs5,i5.cJ K6 (d8 _ _ _),D5.exc P5 pK E6⟩ ?_ ?_
 . rintro i σ H7 hi ⟨o5,rfl,hs7,i7,D7⟩
   have hi':i<m:=by simpa using hi
   have sk:=jI ok h1 h5 hp (show i<=2 by lia) D7;obtain⟨dx,vs,vh,ps,D⟩:=id D7;o_head gr D.e ?_;o_head ⟨_,_,rfl,o,l,ra,rb,_,_,_,rfl,sk,.inr (.inl ⟨rfl,λy H8 X D8=>⟨_,rfl,(D7.keep X).iS hs7,i7.cJ (D7.keep X) (d8 _ _ _),?_⟩⟩)⟩;rw[Cu];exact D8
 rintro σ H7 ⟨o5,rfl,hs7,i7,D7⟩;rw[WL]at D7;clear hs5 i5 D5 P5 E6 K6 P6;have sk:=jI ok h1 h5 hp m2 D7;obtain⟨dx,vs,vh,ps,D⟩:=id D7;o_head gr D.e ?_;o_head ⟨_,_,rfl,o,l,ra,rb,_,_,_,rfl,sk,.inr (.inr (.inr (.inl ⟨rfl,λH8 S8=>?_⟩)))⟩;have D8:=D7.by S8;have sk8:=jI ok h1 h5 hp m2 D8;o_head gr (S8 _ _ D.e) ?_;o_head ⟨_,_,rfl,o,l,ra,rb,_,_,_,rfl,sk8,.inr (.inr (.inr (.inr ⟨rfl,λH9 S9=>?_⟩)))⟩;have D9:=D8.by S9;have hs9:=(S8.trans S9).keep.iS hs7;have i9:=i7.by (S8.trans S9);clear sk sk8 D8 S8 S9 hs7 i7 D7 D;wtm_at "gt";wtm_at "tl";wtm_at "sq"
 have main:∀(b2:Bool)(H10:Hp),ae H9 H10->(b2=false->m=0 /\ ¬ 0∈xs)->tl_ {nx:=λ_ H'=>Q V.bh H',rt:=Q} [some (.ref a'),some (.ref p),some v2,some (.ref o),some (.int (m:Int)),o5,some (.str (aP (fX ra rb xs m))),some (.str (j4 ra rb (eH ra rb xs m))),some (.bl b2),none,none,none] H10:=by
   intro b2 H10 S10 hb2;wtm_at "tl";o_head oO (n:=10) ⋯ ⋯ (λi σ H'=>∃p' o5 o9 o10 o11,σ = [some (.ref a'),some (.ref p'),some v2,some (.ref o),some (.int (m:Int)),o5,some (.str (aP (fX ra rb xs m))),some (.str (j4 ra rb (eH ra rb xs m))),some (.bl b2),o9,o10,o11]/\iA K H' a' (ns.map V.int)/\Is K H' v2 (br ra rb xs)/\cz K H' a.bG o l ra rb (eH ra rb xs m) (fX ra rb xs m) (ia ra rb xs m)) ⟨p,_,_,_,_,rfl,S10.keep.iS hs9,i9.by S10,D9.by S10⟩ ?_ ?_
   . rintro i σ H11 hi ⟨p',o5',o9,o10,o11,rfl,hs11,i11,D11⟩
     have hi:i<10:=by simpa using hi
     o_head Lk hs11 hl () () (λq' H12 nq S12 P12=>?_);have D12:=D11.by S12
     have nlq:l≠q':=λz=>by
       obtain⟨_,_,_,_,_,_,_,h4,_⟩:=D11;rw[z,nq]at h4;cases h4
     o_head bz (j:=1) (i11.by S12) rfl (λv13 i13=>?_);o_head mh i13 ?_;have el:=pX ra rb xs m;rw[show(xs.length:Int)=((eH ra rb xs m).length:Int) by rw[el]];o_head zsl (past:=ia ra rb xs m) P12 () () (λe=>?_) (λe=>?_) (λt H13 ct E13 K13 P13=>?_)
     . have e:m=0:=by simpa using e
       subst e
       rfl
     . obtain⟨e1,e2⟩:=hb2 e
       subst e1;exact e2
     obtain⟨v,d,C,et,hrb,hd,sd⟩:=ct;have D13:=D12.exc P12 nlq E13;have sk:=jI ok h1 h5 hp m2 D13;have hs13:=(S12.keep.trans K13).iS hs11;have i13:=(i11.by S12).cJ K13 (d8 _ _ _);refine rm (.of et) rfl ?_;clear D11 D12 E13 K13 S12 P12 hs11 i11;o_head zmD sk hrb hd (λH14 S14=>?_);o_head kF sd sd ?_;rw[beq_self_eq_true];have D14:=D13.by S14;obtain⟨dx,vs,vh,ps,D⟩:=id D14;have sk:=jI ok h1 h5 hp m2 D14;o_head gr D.e ?_;o_head ⟨_,_,rfl,o,l,ra,rb,_,_,_,rfl,sk,.inr (.inr (.inr (.inl ⟨rfl,λH15 S15=>?_⟩)))⟩;o_head kF (dF (B1 _)) (dF (B1 _)) ?_;rw[beq_self_eq_true];have sk:=jI ok h1 h5 hp m2 (D14.by S15);o_head gr (S15 _ _ D.e) ?_;o_head ⟨_,_,rfl,o,l,ra,rb,_,_,_,rfl,sk,.inr (.inr (.inr (.inr ⟨rfl,λH16 S16=>?_⟩)))⟩;o_head kF (dF (zC _ _ _)) (dF (zC _ _ _)) ?_;rw[beq_self_eq_true];have S:=S14.trans (S15.trans S16);have P16:=P13.same S;o_head zkG P16 (λt2 w2 d2 C2 H17 e2 hsw hdu sd2 E17 K17 P17=>?_);have D17:=(D13.by S).exc P16 nlq E17;have K:=S.keep.trans K17;refine rm (.of e2) rfl ?_;o_head zsM hsw hdu (λH18 S18=>?_);o_head kF sd2 sd2 ?_;rw[beq_self_eq_true];k_few;exact⟨q',_,_,_,_,rfl,(K.trans S18.keep).iS hs13,i13.cJ (K.trans S18.keep) (d8 _ _ _),D17.by S18⟩
   . rintro σ H11 ⟨p',o5',o9,o10,o11,rfl,hs11,i11,D11⟩
     clear hs11 hs9 i9 D9 S10;o_head oO (n:=(m:Int)) () () (λi σ H'=>∃o5,σ = [some (.ref a'),some (.ref p'),some v2,some (.ref o),some (.int (m:Int)),o5,some (.str (aP (fX ra rb xs m))),some (.str (j4 ra rb (eH ra rb xs m))),some (.bl b2),o9,o10,o11]/\Is K H' v2 (br ra rb xs)/\cz K H' a.bG o l ra rb (eH ra rb xs (m-i)) (fX ra rb xs (m-i)) (ia ra rb xs (m-i))) ⟨_,rfl,i11,D11⟩ ?_ ?_
     . rintro i σ H12 hi ⟨o5,rfl,i12,D12⟩
       have hi:i<m:=by simpa using hi
       obtain⟨j,ej⟩:∃j,m-i=j+1:=⟨m-i-1,by lia⟩;rw[ej]at D12;have sk:=jI ok h1 h5 hp (show j+1<=2 by lia) D12;obtain⟨dx,vs,vh,ps,D⟩:=id D12;o_head gr D.e ?_;o_head ⟨_,_,rfl,o,l,ra,rb,_,_,_,rfl,sk,.inr (.inr (.inl ⟨rfl,by rw[Cu];simp,λpp t' ys e H13 X D13=>?_⟩))⟩;rw[Cu]at e;obtain⟨e1,e2⟩:=List.append_inj' e rfl;cases e2;subst e1;o_head kF (cZ _) (cZ _) ?_;rw[beq_self_eq_true];o_head ⟨_,rfl,i12.cJ (D12.keep X) (d8 _ _ _),?_⟩;rw[show m-(i+1)=j by lia];exact D13
     . rintro σ H12 ⟨o5,rfl,i12,D12⟩
       rw[WL,xf]at D12;have sk:=jI ok h1 h5 hp (show 0<=2 by lia) D12;obtain⟨dx,vs,vh,ps,D⟩:=id D12;o_head gr D.e ?_;o_head ⟨_,_,rfl,o,l,ra,rb,_,_,_,rfl,sk,.inr (.inr (.inr (.inl ⟨rfl,λH13 S13=>?_⟩)))⟩;have sk:=jI ok h1 h5 hp (show 0<=2 by lia) (D12.by S13);o_head jF (dF (B1 _)) (cZ _) ?_;rw[show(aP (fX ra rb xs 0) == wb "0")=true from zpR];o_head gr (S13 _ _ D.e) ?_;o_head ⟨_,_,rfl,o,l,ra,rb,_,_,_,rfl,sk,.inr (.inr (.inr (.inr ⟨rfl,λH14 S14=>?_⟩)))⟩;unfold EH;o_head Ox ((i12.by S13).by S14) ok () (λx hx=>pA (hp x hx)) (λH15 S15=>?_);have hlen:=Na ok h5 (λx hx=>pA (hp x hx));refine⟨_,rfl,by lia,?_⟩;refine jF (dF (zC _ _ _)) (dF (zC _ _ _)) ?_
       show Q (.bl (j4 ra rb xs == j4 ra rb xs)) H15
       rw[beq_self_eq_true];exact q _
 wtm_at "gt"
 . exact main true H9 (ae.refl _) (λz=>by cases z)
 . rename_i z
   refine eE (ds:=[.int 0,.int 1]) ∅ (.cons (cC.mpr rfl) (.cons (cC.mpr rfl) .nil)) (λv10 H10 S10 i10=>?_);wtm_at "gt";refine bz (j:=1) (i9.by S10) rfl (λv11 i11=>?_);refine RM (x:=0) i10 i11 ?_;wtm_at "gt";exact main _ H10 S10 (λe=>⟨by lia,of_decide_eq_false e⟩)
end
variable{us:List wd}{K:wa}
theorem Kx(h:us.length=1):∃a,us=[a]:=by
 cases us with
 | nil=>cases h
 | cons a t=>exact⟨a,by rw[xn.mp (xl h)]⟩
theorem Tr(h:us.length=2):∃a0 a1,us=[a0,a1]:=by
 cases us with
 | nil=>cases h
 | cons a0 t =>
  obtain⟨a1,e⟩:=Kx (xl h);exact⟨a0,a1,by rw[e]⟩
theorem Lq(h:us.length=3):∃a0 a1 a2,us=[a0,a1,a2]:=by
 cases us with
 | nil=>cases h
 | cons a0 t =>
  obtain⟨a1,a2,e⟩:=Tr (xl h);exact⟨a0,a1,a2,by rw[e]⟩
theorem zDJ(h:us.length=4):∃a0 a1 a2 a3,us=[a0,a1,a2,a3]:=by
 cases us with
 | nil=>cases h
 | cons a0 t =>
  obtain⟨a1,a2,a3,e⟩:=Lq (xl h);exact⟨a0,a1,a2,a3,by rw[e]⟩
inductive aK(K:wa)(n:Str)(st:wJ)(f:wc):Prop
 | mk {od an:Option wc} {sl:Array (Option wd)} {oc kV dc pm cd ct:wd} (a:wM K wB n=some (some (.ref f))) (l:K.lookup f=some ⟨oc,od,.func (WI n n (kQ st) (iE st) (aD st) .none kV dc pm an cd ct),sl⟩) (c:V6 K cd n=true) (k:Wl K (.ref f)=true):aK K n st f
theorem aK.dn{h:wK}{mg:Str->Option wd}{n:Str}{st:wJ}{f:wc}{ps:List Str}(A:aK K n st f)(X:K.In h)(GN:h.Ns wB mg)
  (b:∀(kV doc pm:wd)(an:Option wc)(cdv ct:wd)(us:List wd),us.length=ps.length->bindArgs (WI n n (kQ st) (iE st) (aD st) .none kV doc pm an cdv ct) ⟨us,[]⟩=pure (ps.zip us):=by wtm_at "bd"):∃fd,Dn K mg n st ps f fd:=by
 obtain⟨a,l,c,k⟩:=A;have F:=Dj (st:=st) l c k;exact⟨_,F,wW X GN a,F.binds b⟩
inductive fV(K:wa)(n q:Str)(st:wJ)(f:wc):Prop
 | mk {od an:Option wc} {sl:Array (Option wd)} {oc kV dc pm cd ct:wd} (l:K.lookup f=some ⟨oc,od,.func (WI n q (kQ st) (iE st) (aD st) .none kV dc pm an cd ct),sl⟩) (c:V6 K cd q=true) (k:Wl K (.ref f)=true):fV K n q st f
theorem fV.dn{n q:Str}{st:wJ}{f:wc}{ps:List Str}(A:fV K n q st f)
  (b:∀(kV doc pm:wd)(an:Option wc)(cdv ct:wd)(us:List wd),us.length=ps.length->bindArgs (WI n q (kQ st) (iE st) (aD st) .none kV doc pm an cdv ct) ⟨us,[]⟩=pure (ps.zip us):=by wtm_at "bd"):∃fd,m6 K n q st ps f fd:=by
 obtain⟨l,c,k⟩:=A;have F:=Dj (st:=st) l c k;exact⟨_,F,F.binds b⟩
set_option hygiene false in
local macro_rules | `(tactic| wtm_at "bd")=>`(tactic| (intro _ _ _ _ _ _ us hl; first | (obtain ⟨_,rfl⟩:=Kx hl; rfl) | (obtain ⟨_,_,rfl⟩:=Tr hl; rfl) | (obtain ⟨_,_,_,rfl⟩:=Lq hl; rfl) | (obtain ⟨_,_,_,_,rfl⟩:=zDJ hl; rfl)))
set_option maxHeartbeats 8000000 in
theorem all_mk{l:xv}{w:wN}{h:wK}{mg:Str->Option wd}{fa:wc}(X:K.In h)(G:h.Ns wB mg)(hfa:mg "law"=some (.ref fa))
  {f0 f1 f2 f3 f4 f5 f6 f7 f8 f9 f10 f11 f12 f13 f14 f15 f16 f17 f18 f19 f20 f21 f22 f23 f24 f25 f26 f27 f28 f29 f30 f31 f32 f33 f34 f35 f36 f37 f38 f39 f40 f41 f42 f43 f44 f45 f46 f47 f48 f49 f50 f51 f52 f53 f54 f55 f56 f57 f58 f59 f60 f61 f62 f63 f64 f65 f66 f67 f68 f69 f70 f71 f72 f73 f74 f75 f76 f77 f78 f79 f80:wc}
  {e0:wc}
  {e1:wc}
  {e2:wc}
  {e3:wc}
  {e4:wc}
  {e5:wc}
  {e6:wc}
  {e7:wc}
  {e8:wc}
  {e9:wc}
  {e10:wc}
  {oq:wc}
  {oh:wc}
  {oo:wc}
  {om:wc}
  {gd_CHANGES:wc} {gn_CHANGES:Nat} {h0_CHANGES h1_CHANGES h2_CHANGES h3_CHANGES:Int} {t0_CHANGES t1_CHANGES t2_CHANGES t3_CHANGES:Tok}
  {gd_ASKS:wc} {gn_ASKS:Nat} {h0_ASKS h1_ASKS h2_ASKS h3_ASKS h4_ASKS h5_ASKS:Int} {t0_ASKS t1_ASKS t2_ASKS t3_ASKS t4_ASKS t5_ASKS:Tok}
  {g0:wc} {gn0:Nat} {gd0:Option wc} {gs0:Array (Option wd)} {tk0_0 tk0_1:Tok}
  {g1:wc} {gn1:Nat} {gd1:Option wc} {gs1:Array (Option wd)} {tk1_0 tk1_1:Tok}
  {g2:wc} {gn2:Nat} {gd2:Option wc} {gs2:Array (Option wd)} {tk2_0 tk2_1:Tok}
  {tk3:Tok}
  {tk4:Tok}
  {tk5:Tok}
  {tk6:Tok}
  {tk7:Tok}
  {tk8:Tok}
  {g9:wc} {gn9:Nat} {gd9:Option wc} {gs9:Array (Option wd)} {tk9_0 tk9_1 tk9_2:Tok}
  {tk10:Tok}
  {tk11:Tok}
  {tk12:Tok}
  {tk13:Tok}
  {tk14:Tok}
  {tk15:Tok}
  (a0:aK K "is_whole" Fy f0)
  (a1:aK K "is_whole_from" EY f1)
  (a2:aK K "greatest_divisor" DN f2)
  (a3:aK K "is_number" Bm f3)
  (a4:aK K "plus" FC f4)
  (a5:aK K "minus" CD f5)
  (a6:aK K "times" EB f6)
  (a7:aK K "less" B8 f7)
  (a8:aK K "is_factor" B_ f8)
  (a9:aK K "is_shift" Eb f9)
  (a10:aK K "make_rule" EF f10)
  (a11:aK K "is_rule" DC f11)
  (a12:aK K "pushes" EW f12)
  (a13:aK K "pushed_by" Ba f13)
  (a14:aK K "is_order" CW f14)
  (a15:aK K "set_by" BD f15)
  (a16:aK K "exchanged" BM f16)
  (a17:aK K "is_phase" ES f17)
  (a18:aK K "are_phases" Cf f18)
  (a19:aK K "swarm_of" Cg f19)
  (a20:aK K "greatest" Bf f20)
  (a21:aK K "worms_at" Ei f21)
  (a22:aK K "flocks" EZ f22)
  (a23:aK K "at_the_end" BY f23)
  (a24:aK K "glow" Er f24)
  (a25:aK K "moved" AW f25)
  (a26:aK K "is_laid" C7 f26)
  (a27:aK K "laid" DV f27)
  (a28:aK K "still" SW f28)
  (a29:aK K "free_rounds" Rc f29)
  (a30:aK K "has_stand" CS f30)
  (a31:aK K "is_row" AK f31)
  (a32:aK K "is_last_row" Fx f32)
  (a33:aK K "is_paper" Ca f33)
  (a34:aK K "lets_by" NY f34)
  (a35:aK K "show_number" DS f35)
  (a36:aK K "show_numbers" EL f36)
  (a37:aK K "show_swarm" BE f37)
  (a38:aK K "is_whole_text" EN f38)
  (a39:aK K "number_in" FN f39)
  (a40:aK K "is_number_text" FU f40)
  (a41:aK K "wholes_in" BV f41)
  (a42:aK K "numbers_in" BZ f42)
  (a43:aK K "parts_of" B0 f43)
  (a44:aK K "lines_of" Du f44)
  (a45:aK K "read_swarm" Fb f45)
  (a46:aK K "row_in" BQ f46)
  (a47:aK K "read_paper" B9 f47)
  (a48:aK K "with_commas" Fz f48)
  (a49:aK K "by_glow" A2 f49)
  (a50:aK K "by_move" DX f50)
  (a51:aK K "by_exchange" Fh f51)
  (a52:aK K "tell_swarm" Ft f52)
  (a53:aK K "tell_free" BG f53)
  (a54:aK K "tell_still" BP f54)
  (a55:aK K "is_count" EO f55)
  (a56:aK K "is_worm_text" C8 f56)
  (a57:aK K "is_said" Bk f57)
  (a58:aK K "_law_pen" EI f58)
  (a59:aK K "_law_draw" CI f59)
  (a60:aK K "_law_low" BJ f60)
  (a61:aK K "_law_rule" BR f61)
  (a62:aK K "_law_phases" DP f62)
  (a63:aK K "_law_shown" Dy f63)
  (a64:aK K "_law_words" Cv f64)
  (a65:aK K "_law_swarm" CM f65)
  (a66:aK K "_law_text" Fg f66)
  (a67:aK K "_law_class" DB f67)
  (a72:aK K "_law_refusal" FO f72)
  (a74:aK K "_law_made" DR f74)
  (a75:aK K "_law_no_row" C6 f75)
  (a76:aK K "_law_no_text" Cy f76)
  (a77:aK K "_law_no_swarm" ED f77)
  (a78:aK K "_law_case" DZ f78)
  (a79:aK K "_law_bad_desks" AO f79)
  (a80:aK K "law" sj f80)
  (h1L:wM K wB "NoSwarm"=some (some (.ref e0)))
  (h1Q:wM K wB "NoRule"=some (some (.ref e1)))
  (h1H:wM K wB "NoStand"=some (some (.ref e2)))
  (h1O:wM K wB "NoText"=some (some (.ref e3)))
  (h1N:wM K wB "NoBack"=some (some (.ref e4)))
  (h1R:wM K wB "NoRow"=some (some (.ref e5)))
  (h1G:wM K wB "TooLong"=some (some (.ref e6)))
  (h1T:wM K wB "NoWeb"=some (some (.ref e7)))
  (h1y:wM K wB "NoNumber"=some (some (.ref e8)))
  (h1k:wM K wB "GlowError"=some (some (.ref e9)))
  (h1X:wM K wB "Desk"=some (some (.ref e10)))
  (o1_Desk:qg K e10 Qh=true)
  (o2_Desk:qS K e10=true)
  (o3_Desk:Q0 K e10=true)
  (o4_Desk:vn K (.ref e10) "__setattr__"=some (some (.builtin "object.__setattr__")))
  (o5_Desk:xu K e10=true)
  (o6_Desk:Wl K (.ref e10)=true)
  (oa_Desk_past:vn K (.ref e10) "past"=some none)
  (oa_Desk_hour:vn K (.ref e10) "hour"=some none)
  (oa_Desk_swarm:vn K (.ref e10) "swarm"=some none)
  (om_Desk_change:vn K (.ref e10) "change"=some (some (.ref f68)))
  (oi_Desk_change:Vy K (.ref f68)=true)
  (a68:fV K "change" "Desk.change" BW f68)
  (om_Desk_go_back:vn K (.ref e10) "go_back"=some (some (.ref f69)))
  (oi_Desk_go_back:Vy K (.ref f69)=true)
  (a69:fV K "go_back" "Desk.go_back" Fc f69)
  (om_Desk_look_through:vn K (.ref e10) "look_through"=some (some (.ref f70)))
  (oi_Desk_look_through:Vy K (.ref f70)=true)
  (a70:fV K "look_through" "Desk.look_through" AL f70)
  (om_Desk_say:vn K (.ref e10) "say"=some (some (.ref f71)))
  (oi_Desk_say:Vy K (.ref f71)=true)
  (a71:fV K "say" "Desk.say" Em f71)
  (om_Desk_init:vn K (.ref e10) "__init__"=some (some (.ref f73)))
  (oi_Desk_init:Vy K (.ref f73)=true)
  (a73:fV K "__init__" "Desk.__init__" Fq f73)
  (qd_CHANGES:wM K wB "CHANGES"=some (some (.ref gd_CHANGES)))
  (kd_CHANGES:K.lookup gd_CHANGES=some ⟨.type "dict",none,.dict #[⟨h0_CHANGES,.str "glow" t0_CHANGES,.ref f49⟩,⟨h1_CHANGES,.str "glows" t1_CHANGES,.ref oq⟩,⟨h2_CHANGES,.str "move" t2_CHANGES,.ref f50⟩,⟨h3_CHANGES,.str "exchange" t3_CHANGES,.ref f51⟩] gn_CHANGES,#[]⟩)
  (kk_CHANGES:Qr w.params [⟨h0_CHANGES,.str "glow" t0_CHANGES,.ref f49⟩,⟨h1_CHANGES,.str "glows" t1_CHANGES,.ref oq⟩,⟨h2_CHANGES,.str "move" t2_CHANGES,.ref f50⟩,⟨h3_CHANGES,.str "exchange" t3_CHANGES,.ref f51⟩])
  (ks_CHANGES:(gd_CHANGES == VU)=false)
  (qd_ASKS:wM K wB "ASKS"=some (some (.ref gd_ASKS)))
  (kd_ASKS:K.lookup gd_ASKS=some ⟨.type "dict",none,.dict #[⟨h0_ASKS,.str "swarm" t0_ASKS,.ref f52⟩,⟨h1_ASKS,.str "flocks" t1_ASKS,.ref oh⟩,⟨h2_ASKS,.str "fate" t2_ASKS,.ref oo⟩,⟨h3_ASKS,.str "free" t3_ASKS,.ref f53⟩,⟨h4_ASKS,.str "still" t4_ASKS,.ref f54⟩,⟨h5_ASKS,.str "paper" t5_ASKS,.ref om⟩] gn_ASKS,#[]⟩)
  (kk_ASKS:Qr w.params [⟨h0_ASKS,.str "swarm" t0_ASKS,.ref f52⟩,⟨h1_ASKS,.str "flocks" t1_ASKS,.ref oh⟩,⟨h2_ASKS,.str "fate" t2_ASKS,.ref oo⟩,⟨h3_ASKS,.str "free" t3_ASKS,.ref f53⟩,⟨h4_ASKS,.str "still" t4_ASKS,.ref f54⟩,⟨h5_ASKS,.str "paper" t5_ASKS,.ref om⟩])
  (ks_ASKS:(gd_ASKS == VU)=false)
  (h1h:wM K wB "ValueError"=some none)
  (h2i:wM K wB "abs"=some none)
  (h1Y:wM K wB "all"=some none)
  (h1V:wM K wB "bool"=some none)
  (h1p:wM K wB "enumerate"=some none)
  (h2h:wM K wB "int"=some none)
  (h1i:wM K wB "isinstance"=some none)
  (h2f:wM K wB "len"=some none)
  (h1W:wM K wB "list"=some none)
  (h2j:wM K wB "max"=some none)
  (h1U:wM K wB "range"=some none)
  (h1P:wM K wB "sorted"=some none)
  (h1Z:wM K wB "str"=some none)
  (h1S:wM K wB "tuple"=some none)
  (h2g:wM K wB "zip"=some none)
  (h1j:vZ K e0 gf "ValueError.__new__"=true)
  (h1s:vY K (.ref e0) (.ref e9)=some true)
  (h1q:cU K e0)
  (h0f:wf K (.ref e0) (.ref e0)=some true)
  (h0u:wf K (.ref e0) (.ref e1)=some false)
  (h0e:wf K (.ref e0) (.ref e2)=some false)
  (h0y:wf K (.ref e0) (.ref e3)=some false)
  (h0m:wf K (.ref e0) (.ref e4)=some false)
  (h0K:wf K (.ref e0) (.ref e5)=some false)
  (h0k:wf K (.ref e0) (.ref e6)=some false)
  (h0H:wf K (.ref e0) (.ref e7)=some false)
  (h0b:wf K (.ref e0) (.ref e8)=some false)
  (h1o:wf K (.ref e0) (.type "ValueError")=some true)
  (h1w:vZ K e1 gf "ValueError.__new__"=true)
  (h1v:vY K (.ref e1) (.ref e9)=some true)
  (h1D:cU K e1)
  (h0w:wf K (.ref e1) (.ref e0)=some false)
  (h0B:wf K (.ref e1) (.ref e1)=some true)
  (h0r:wf K (.ref e1) (.ref e2)=some false)
  (h0Q:wf K (.ref e1) (.ref e3)=some false)
  (h0P:wf K (.ref e1) (.ref e4)=some false)
  (h0S:wf K (.ref e1) (.ref e5)=some false)
  (h0v:wf K (.ref e1) (.ref e6)=some false)
  (h0W:wf K (.ref e1) (.ref e7)=some false)
  (h0h:wf K (.ref e1) (.ref e8)=some false)
  (h1t:wf K (.ref e1) (.type "ValueError")=some true)
  (h1n:vZ K e2 gf "ValueError.__new__"=true)
  (h1m:vY K (.ref e2) (.ref e9)=some true)
  (h1l:cU K e2)
  (h0j:wf K (.ref e2) (.ref e0)=some false)
  (h0A:wf K (.ref e2) (.ref e1)=some false)
  (h0c:wf K (.ref e2) (.ref e2)=some true)
  (h0z:wf K (.ref e2) (.ref e3)=some false)
  (h0p:wf K (.ref e2) (.ref e4)=some false)
  (h0L:wf K (.ref e2) (.ref e5)=some false)
  (h0i:wf K (.ref e2) (.ref e6)=some false)
  (h0G:wf K (.ref e2) (.ref e7)=some false)
  (h0a:wf K (.ref e2) (.ref e8)=some false)
  (h1r:wf K (.ref e2) (.type "ValueError")=some true)
  (h1C:vZ K e3 gf "ValueError.__new__"=true)
  (h1F:vY K (.ref e3) (.ref e9)=some true)
  (h1B:cU K e3)
  (h0o:wf K (.ref e3) (.ref e0)=some false)
  (h0F:wf K (.ref e3) (.ref e1)=some false)
  (h0n:wf K (.ref e3) (.ref e2)=some false)
  (h0I:wf K (.ref e3) (.ref e3)=some true)
  (h0C:wf K (.ref e3) (.ref e4)=some false)
  (h0Y:wf K (.ref e3) (.ref e5)=some false)
  (h0t:wf K (.ref e3) (.ref e6)=some false)
  (h0V:wf K (.ref e3) (.ref e7)=some false)
  (h0d:wf K (.ref e3) (.ref e8)=some false)
  (h1z:wf K (.ref e3) (.type "ValueError")=some true)
  (h1J:vZ K e5 gf "ValueError.__new__"=true)
  (h1M:vY K (.ref e5) (.ref e9)=some true)
  (h1K:cU K e5)
  (h0E:wf K (.ref e5) (.ref e0)=some false)
  (h0T:wf K (.ref e5) (.ref e1)=some false)
  (h0N:wf K (.ref e5) (.ref e2)=some false)
  (h0Z:wf K (.ref e5) (.ref e3)=some false)
  (h0X:wf K (.ref e5) (.ref e4)=some false)
  (h1f:wf K (.ref e5) (.ref e5)=some true)
  (h0J:wf K (.ref e5) (.ref e6)=some false)
  (h1g:wf K (.ref e5) (.ref e7)=some false)
  (h0l:wf K (.ref e5) (.ref e8)=some false)
  (h1I:wf K (.ref e5) (.type "ValueError")=some true)
  (h1A:vZ K e4 gf "ValueError.__new__"=true)
  (h1u:vY K (.ref e4) (.ref e9)=some true)
  (h1x:cU K e4)
  (h0s:wf K (.ref e4) (.ref e0)=some false)
  (h0D:wf K (.ref e4) (.ref e1)=some false)
  (h0q:wf K (.ref e4) (.ref e2)=some false)
  (h0O:wf K (.ref e4) (.ref e3)=some false)
  (h0M:wf K (.ref e4) (.ref e4)=some true)
  (h0U:wf K (.ref e4) (.ref e5)=some false)
  (h0x:wf K (.ref e4) (.ref e6)=some false)
  (h0R:wf K (.ref e4) (.ref e7)=some false)
  (h0g:wf K (.ref e4) (.ref e8)=some false)
  (h1E:wf K (.ref e4) (.type "ValueError")=some true)
  (q0:wM K wB "NOUGHT"=some (some (.ref g0)))
  (r0:K.lookup g0=some ⟨.type "tuple",gd0,.seq #[.int 0 tk0_0,.int 1 tk0_1] gn0,gs0⟩)
  (q1:wM K wB "ONE"=some (some (.ref g1)))
  (r1:K.lookup g1=some ⟨.type "tuple",gd1,.seq #[.int 1 tk1_0,.int 1 tk1_1] gn1,gs1⟩)
  (q2:wM K wB "GREATEST_FACTOR"=some (some (.ref g2)))
  (r2:K.lookup g2=some ⟨.type "tuple",gd2,.seq #[.int 4 tk2_0,.int 1 tk2_1] gn2,gs2⟩)
  (q3:wM K wB "FACTOR_BOTTOM"=some (some (.int 8 tk3)))
  (q4:wM K wB "SHIFT_BOTTOM"=some (some (.int 12 tk4)))
  (q5:wM K wB "MOST_WORMS"=some (some (.int 8 tk5)))
  (q6:wM K wB "PHASE_BOTTOM"=some (some (.int 60 tk6)))
  (q7:wM K wB "MOST_FREE"=some (some (.int 30 tk7)))
  (q8:wM K wB "MOST_GLOWS"=some (some (.int 40 tk8)))
  (q9:wM K wB "WORDS"=some (some (.ref g9)))
  (r9:K.lookup g9=some ⟨.type "tuple",gd9,.seq #[.str "one" tk9_0,.str "rests" tk9_1,.str "drawn" tk9_2] gn9,gs9⟩)
  (q10:wM K wB "FIGURES"=some (some (.str "0123456789" tk10)))
  (q11:wM K wB "NUMBER_FIGURES"=some (some (.int 60 tk11)))
  (q12:wM K wB "WHOLE_FIGURES"=some (some (.int 2 tk12)))
  (q13:wM K wB "MOVE_FIGURES"=some (some (.int 6 tk13)))
  (q14:wM K wB "GLOWS_FIGURES"=some (some (.int 2 tk14)))
  (q15:wM K wB "WORM_FIGURES"=some (some (.int 1 tk15)))
  : ∃fd:wt,(∀(s:wl)(v:wd),BindsTo s fd ⟨[v],[]⟩ [("_law_script",v)]) /\ ∀base:wK,K.In base->base.Ns wB mg->aC l.prog w K mg base aO 10 fa fd ["_law_script"] (za K):=by
 obtain⟨aL,lL,cL,kL⟩:=a80;cases hfa.symm.trans (wW X G aL);have FL:=Dj (st:=sj) lL cL kL;have D80:Dn K mg _ _ zc _ _:=⟨FL,wW X G aL,FL.binds (by wtm_at "bd")⟩;have⟨_,D0⟩:=a0.dn (ps:=yZ) X G;have⟨_,D1⟩:=a1.dn (ps:=uS) X G;have⟨_,D2⟩:=a2.dn (ps:=yI) X G;have⟨_,D3⟩:=a3.dn (ps:=ym) X G;have⟨_,D4⟩:=a4.dn (ps:=tF) X G;have⟨_,D5⟩:=a5.dn (ps:=yp) X G;have⟨_,D6⟩:=a6.dn (ps:=tV) X G;have⟨_,D7⟩:=a7.dn (ps:=si) X G;have⟨_,D8⟩:=a8.dn (ps:=yF) X G;have⟨_,D9⟩:=a9.dn (ps:=zg) X G;have⟨_,D10⟩:=a10.dn (ps:=yc) X G;have⟨_,D11⟩:=a11.dn (ps:=sx) X G;have⟨_,D12⟩:=a12.dn (ps:=yP) X G;have⟨_,D13⟩:=a13.dn (ps:=uY) X G;have⟨_,D14⟩:=a14.dn (ps:=ze) X G;have⟨_,D15⟩:=a15.dn (ps:=uL) X G;have⟨_,D16⟩:=a16.dn (ps:=zw) X G;have⟨_,D17⟩:=a17.dn (ps:=tq) X G;have⟨_,D18⟩:=a18.dn (ps:=yH) X G;have⟨_,D19⟩:=a19.dn (ps:=uU) X G;have⟨_,D20⟩:=a20.dn (ps:=uN) X G;have⟨_,D21⟩:=a21.dn (ps:=tD) X G;have⟨_,D22⟩:=a22.dn (ps:=yz) X G;have⟨_,D23⟩:=a23.dn (ps:=zU) X G;have⟨_,D24⟩:=a24.dn (ps:=tN) X G;have⟨_,D25⟩:=a25.dn (ps:=tK) X G;have⟨_,D26⟩:=a26.dn (ps:=u3) X G;have⟨_,D27⟩:=a27.dn (ps:=zu) X G;have⟨_,D28⟩:=a28.dn (ps:=El) X G;have⟨_,D29⟩:=a29.dn (ps:=Es) X G;have⟨_,D30⟩:=a30.dn (ps:=tT) X G;have⟨_,D31⟩:=a31.dn (ps:=zF) X G;have⟨_,D32⟩:=a32.dn (ps:=yq) X G;have⟨_,D33⟩:=a33.dn (ps:=tw) X G;have⟨_,D34⟩:=a34.dn (ps:=Co) X G;have⟨_,D35⟩:=a35.dn (ps:=sS) X G;have⟨_,D36⟩:=a36.dn (ps:=ya) X G;have⟨_,D37⟩:=a37.dn (ps:=yL) X G;have⟨_,D38⟩:=a38.dn (ps:=zl) X G
 have⟨_,D39⟩:=a39.dn (ps:=sW) X G;have⟨_,D40⟩:=a40.dn (ps:=y9) X G;have⟨_,D41⟩:=a41.dn (ps:=sV) X G;have⟨_,D42⟩:=a42.dn (ps:=ye) X G;have⟨_,D43⟩:=a43.dn (ps:=u5) X G;have⟨_,D44⟩:=a44.dn (ps:=zY) X G;have⟨_,D45⟩:=a45.dn (ps:=t8) X G;have⟨_,D46⟩:=a46.dn (ps:=zZ) X G;have⟨_,D47⟩:=a47.dn (ps:=uO) X G;have⟨_,D48⟩:=a48.dn (ps:=tO) X G;have⟨_,D49⟩:=a49.dn (ps:=yC) X G;have⟨_,D50⟩:=a50.dn (ps:=sY) X G;have⟨_,D51⟩:=a51.dn (ps:=sZ) X G;have⟨_,D52⟩:=a52.dn (ps:=t_) X G;have⟨_,D53⟩:=a53.dn (ps:=zW) X G;have⟨_,D54⟩:=a54.dn (ps:=sO) X G;have⟨_,D55⟩:=a55.dn (ps:=uM) X G;have⟨_,D56⟩:=a56.dn (ps:=zr) X G;have⟨_,D57⟩:=a57.dn (ps:=sA) X G;have⟨_,D58⟩:=a58.dn (ps:=yM) X G;have⟨_,D59⟩:=a59.dn (ps:=yD) X G;have⟨_,D60⟩:=a60.dn (ps:=y7) X G;have⟨_,D61⟩:=a61.dn (ps:=tY) X G;have⟨_,D62⟩:=a62.dn (ps:=zL) X G;have⟨_,D63⟩:=a63.dn (ps:=yS) X G;have⟨_,D64⟩:=a64.dn (ps:=u7) X G;have⟨_,D65⟩:=a65.dn (ps:=zf) X G;have⟨_,D66⟩:=a66.dn (ps:=tG) X G;have⟨_,D67⟩:=a67.dn (ps:=tH) X G;have⟨_,D68⟩:=a68.dn (ps:=yY);have⟨_,D69⟩:=a69.dn (ps:=yk);have⟨_,D70⟩:=a70.dn (ps:=zt);have⟨_,D71⟩:=a71.dn (ps:=yx);have⟨_,D72⟩:=a72.dn (ps:=tP) X G;have⟨_,D73⟩:=a73.dn (ps:=zm);have⟨_,D74⟩:=a74.dn (ps:=yu) X G;have⟨_,D75⟩:=a75.dn (ps:=sM) X G;have⟨_,D76⟩:=a76.dn (ps:=zJ) X G;have⟨_,D77⟩:=a77.dn (ps:=u_) X G;have⟨_,D78⟩:=a78.dn (ps:=zQ) X G;have⟨_,D79⟩:=a79.dn (ps:=yh) X G
 have T:Txt w K mg ⟨f0,_,f1,_,f2,_,f3,_,f4,_,f5,_,f6,_,f7,_,f8,_,f9,_,f10,_,f11,_,f12,_,f13,_,f14,_,f15,_,f16,_,f17,_,f18,_,f19,_,f20,_,f21,_,f22,_,f23,_,f24,_,f25,_,f26,_,f27,_,f28,_,f29,_,f30,_,f31,_,f32,_,f33,_,f34,_,f35,_,f36,_,f37,_,f38,_,f39,_,f40,_,f41,_,f42,_,f43,_,f44,_,f45,_,f46,_,f47,_,f48,_,f49,_,f50,_,f51,_,f52,_,f53,_,f54,_,f55,_,f56,_,f57,_,f58,_,f59,_,f60,_,f61,_,f62,_,f63,_,f64,_,f65,_,f66,_,f67,_,f68,_,f69,_,f70,_,f71,_,f72,_,f73,_,f74,_,f75,_,f76,_,f77,_,f78,_,f79,_,_,_,e0,e1,e2,e3,e4,e5,e6,e7,e8,e9,e10,g0,g1,g2,g9,gd_CHANGES,gd_ASKS,oq,oh,oo,om⟩:=⟨D0,
  D1,
  D2,
  D3,
  D4,
  D5,
  D6,
  D7,
  D8,
  D9,
  D10,
  D11,
  D12,
  D13,
  D14,
  D15,
  D16,
  D17,
  D18,
  D19,
  D20,
  D21,
  D22,
  D23,
  D24,
  D25,
  D26,
  D27,
  D28,
  D29,
  D30,
  D31,
  D32,
  D33,
  D34,
  D35,
  D36,
  D37,
  D38,
  D39,
  D40,
  D41,
  D42,
  D43,
  D44,
  D45,
  D46,
  D47,
  D48,
  D49,
  D50,
  D51,
  D52,
  D53,
  D54,
  D55,
  D56,
  D57,
  D58,
  D59,
  D60,
  D61,
  D62,
  D63,
  D64,
  D65,
  D66,
  D67,
  D68,
  D69,
  D70,
  D71,
  D72,
  D73,
  D74,
  D75,
  D76,
  D77,
  D78,
  D79,
  D80,
  vC X G h1h,
  vC X G h2i,
  vC X G h1Y,
  vC X G h1V,
  vC X G h1p,
  vC X G h2h,
  vC X G h1i,
  vC X G h2f,
  vC X G h1W,
  vC X G h2j,
  vC X G h1U,
  vC X G h1P,
  vC X G h1Z,
  vC X G h1S,
  vC X G h2g,
  ⟨o1_Desk,o2_Desk,o3_Desk,o4_Desk⟩,
  oa_Desk_past,
  oa_Desk_hour,
  oa_Desk_swarm,
  ⟨om_Desk_change,oi_Desk_change,D68.F.kp⟩,
  ⟨om_Desk_go_back,oi_Desk_go_back,D69.F.kp⟩,
  ⟨om_Desk_look_through,oi_Desk_look_through,D70.F.kp⟩,
  ⟨om_Desk_say,oi_Desk_say,D71.F.kp⟩,
  ⟨o5_Desk,om_Desk_init,oi_Desk_init,o6_Desk⟩,
  wW X G qd_CHANGES,
  jW.of kd_CHANGES kk_CHANGES ks_CHANGES (.cons rfl rfl (.cons rfl rfl (.cons rfl rfl (.cons rfl rfl .nil)))),
  wW X G qd_ASKS,
  jW.of kd_ASKS kk_ASKS ks_ASKS (.cons rfl rfl (.cons rfl rfl (.cons rfl rfl (.cons rfl rfl (.cons rfl rfl (.cons rfl rfl .nil)))))),
  wW X G h1L,
  wW X G h1Q,
  wW X G h1H,
  wW X G h1O,
  wW X G h1N,
  wW X G h1R,
  wW X G h1G,
  wW X G h1T,
  wW X G h1y,
  wW X G h1k,
  wW X G h1X,
  h1j,
  h1s,
  h1q,
  h0f,
  h0u,
  h0e,
  h0y,
  h0m,
  h0K,
  h0k,
  h0H,
  h0b,
  h1o,
  h1w,
  h1v,
  h1D,
  h0w,
  h0B,
  h0r,
  h0Q,
  h0P,
  h0S,
  h0v,
  h0W,
  h0h,
  h1t,
  h1n,
  h1m,
  h1l,
  h0j,
  h0A,
  h0c,
  h0z,
  h0p,
  h0L,
  h0i,
  h0G,
  h0a,
  h1r,
  h1C,
  h1F,
  h1B,
  h0o,
  h0F,
  h0n,
  h0I,
  h0C,
  h0Y,
  h0t,
  h0V,
  h0d,
  h1z,
  h1J,
  h1M,
  h1K,
  h0E,
  h0T,
  h0N,
  h0Z,
  h0X,
  h1f,
  h0J,
  h1g,
  h0l,
  h1I,
  h1A,
  h1u,
  h1x,
  h0s,
  h0D,
  h0q,
  h0O,
  h0M,
  h0U,
  h0x,
  h0R,
  h0g,
  h1E,
  wW X G q0,
  λH=>.inr ⟨_,_,_,r0,rfl,rfl,by simp;decide,(.cons ⟨_,rfl⟩ (.cons ⟨_,rfl⟩ .nil))⟩,
  wW X G q1,
  λH=>.inr ⟨_,_,_,r1,rfl,rfl,by simp;decide,(.cons ⟨_,rfl⟩ (.cons ⟨_,rfl⟩ .nil))⟩,
  wW X G q2,
  λH=>.inr ⟨_,_,_,r2,rfl,rfl,by simp;decide,(.cons ⟨_,rfl⟩ (.cons ⟨_,rfl⟩ .nil))⟩,
  ⟨_,wW X G q3⟩,
  ⟨_,wW X G q4⟩,
  ⟨_,wW X G q5⟩,
  ⟨_,wW X G q6⟩,
  ⟨_,wW X G q7⟩,
  ⟨_,wW X G q8⟩,
  wW X G q9,
  λH=>.inr ⟨_,_,_,r9,rfl,rfl,by simp;decide,(.cons ⟨_,rfl⟩ (.cons ⟨_,rfl⟩ (.cons ⟨_,rfl⟩ .nil)))⟩,
  ⟨_,wW X G q10⟩,
  ⟨_,wW X G q11⟩,
  ⟨_,wW X G q12⟩,
  ⟨_,wW X G q13⟩,
  ⟨_,wW X G q14⟩,
  ⟨_,wW X G q15⟩⟩
 exact⟨_,λs v=>.of_eq rfl,λbase _ _=>zDf T⟩
theorem walk{l:xv}{q:wO}{loose:List Str}{XP:(Str->Option wd)->wK->Prop}{YP:wN->wK->Prop}{d:DefRec}{K:Params->wa}(hn:l.most=some 63)(hdf:d.params.defaults=[])
  (hY:∀(w:wN)(h:wK),YP w h->(K w.params).In h)
  (F:∀(w:wN)(mg:Str->Option wd)(fa:wc)(h:wK),(K w.params).In h->h.Ns wB mg->mg d.name=some (.ref fa) ->
   ∃fd:wt,(∀(s:wl)(u:wd),BindsTo s fd ⟨[u],[]⟩ [("_law_script",u)]) /\ ∀base:wK,(K w.params).In base->base.Ns wB mg->aC l.prog w (K w.params) mg base aO 10 fa fd ["_law_script"] (za (K w.params))) :
  um q loose XP YP l.row.toRowW d [] (λf vs=>XX f vs) :=
 L2.Yx (n:=63) (k:=10) (x:="_law_script") (CX:=λ_=>aO) (sp:=λw=>za (K w.params)) hn ⋯ hdf ⟨rfl,by decide,by decide,rfl⟩ hY F (λ_ H a ns hl hO hS=>⟨.ref a,rfl,a,ns,rfl,zCx hO hS,hl,λ_=>rfl⟩) λ_ _ _ _ _ z=>z
end G
local macro_rules | `(tactic| wtm_at "fk")=>`(tactic| (refine' G.aK.mk ?a ?l ?c ?k; (case a=>k_is); (case l=>k_is); (case c=>k_is); (case k=>k_is)))
open PySem PySem.W PyProof.Rows
set_option maxRecDepth 100000 in
set_option maxHeartbeats 0 in
theorem PySem.Challenge.cw_glowflock_k60_what_a_desk_refuses_holds : PySem.Challenge.rw_glowflock_k60_what_a_desk_refuses.Holds := by
 w_on; refine GH.head ?_
 k_fill
 refine G.walk (l:=PySem.Challenge.rw_glowflock_k60_what_a_desk_refuses) rfl rfl (fun w h Y=>PySem.W.kIn_of Y) ?F
 case F =>
   intro w mg fa h KX GG hmg;refine' G.all_mk KX GG hmg ?a0 ?a1 ?a2 ?a3 ?a4 ?a5 ?a6 ?a7 ?a8 ?a9 ?a10 ?a11 ?a12 ?a13 ?a14 ?a15 ?a16 ?a17 ?a18 ?a19 ?a20 ?a21 ?a22 ?a23 ?a24 ?a25 ?a26 ?a27 ?a28 ?a29 ?a30 ?a31 ?a32 ?a33 ?a34 ?a35 ?a36 ?a37 ?a38 ?a39 ?a40 ?a41 ?a42 ?a43 ?a44 ?a45 ?a46 ?a47 ?a48 ?a49 ?a50 ?a51 ?a52 ?a53 ?a54 ?a55 ?a56 ?a57 ?a58 ?a59 ?a60 ?a61 ?a62 ?a63 ?a64 ?a65 ?a66 ?a67 ?a72 ?a74 ?a75 ?a76 ?a77 ?a78 ?a79 ?a80 ?h1L ?h1Q ?h1H ?h1O ?h1N ?h1R ?h1G ?h1T ?h1y ?h1k ?h1X ?o1_Desk ?o2_Desk ?o3_Desk ?o4_Desk ?o5_Desk ?o6_Desk ?oa_Desk_past ?oa_Desk_hour ?oa_Desk_swarm ?om_Desk_change ?oi_Desk_change ?a68 ?om_Desk_go_back ?oi_Desk_go_back ?a69 ?om_Desk_look_through ?oi_Desk_look_through ?a70 ?om_Desk_say ?oi_Desk_say ?a71 ?om_Desk_init ?oi_Desk_init ?a73 ?qd_CHANGES ?kd_CHANGES ?kk_CHANGES ?ks_CHANGES ?qd_ASKS ?kd_ASKS ?kk_ASKS ?ks_ASKS ?h1h ?h2i ?h1Y ?h1V ?h1p ?h2h ?h1i ?h2f ?h1W ?h2j ?h1U ?h1P ?h1Z ?h1S ?h2g ?h1j ?h1s ?h1q ?h0f ?h0u ?h0e ?h0y ?h0m ?h0K ?h0k ?h0H ?h0b ?h1o ?h1w ?h1v ?h1D ?h0w ?h0B ?h0r ?h0Q ?h0P ?h0S ?h0v ?h0W ?h0h ?h1t ?h1n ?h1m ?h1l ?h0j ?h0A ?h0c ?h0z ?h0p ?h0L ?h0i ?h0G ?h0a ?h1r ?h1C ?h1F ?h1B ?h0o ?h0F ?h0n ?h0I ?h0C ?h0Y ?h0t ?h0V ?h0d ?h1z ?h1J ?h1M ?h1K ?h0E ?h0T ?h0N ?h0Z ?h0X ?h1f ?h0J ?h1g ?h0l ?h1I ?h1A ?h1u ?h1x ?h0s ?h0D ?h0q ?h0O ?h0M ?h0U ?h0x ?h0R ?h0g ?h1E ?q0 ?r0 ?q1 ?r1 ?q2 ?r2 ?q3 ?q4 ?q5 ?q6 ?q7 ?q8 ?q9 ?r9 ?q10 ?q11 ?q12 ?q13 ?q14 ?q15
   (case a0|a1|a2|a3|a4|a5|a6|a7|a8|a9|a10|a11|a12|a13|a14|a15|a16|a17|a18|a19|a20|a21|a22|a23|a24|a25|a26|a27|a28|a29|a30|a31|a32|a33|a34|a35|a36|a37|a38|a39|a40|a41|a42|a43|a44|a45|a46|a47|a48|a49|a50|a51|a52|a53|a54|a55|a56|a57|a58|a59|a60|a61|a62|a63|a64|a65|a66|a67|a72|a74|a75|a76|a77|a78|a79|a80=>wtm_at "fk")
   (case h1L|h1Q|h1H|h1O|h1N|h1R|h1G|h1T|h1y|h1k|h1X|o1_Desk|o2_Desk|o3_Desk|o4_Desk|o5_Desk|o6_Desk|oa_Desk_past|oa_Desk_hour|oa_Desk_swarm|om_Desk_change|oi_Desk_change=>k_is)
   (case a68=>(refine' G.fV.mk ?l ?c ?k; (case l=>k_is); (case c=>k_is); (case k=>k_is)))
   (case om_Desk_go_back|oi_Desk_go_back=>k_is)
   (case a69=>(refine' G.fV.mk ?l ?c ?k; (case l=>k_is); (case c=>k_is); (case k=>k_is)))
   (case om_Desk_look_through|oi_Desk_look_through=>k_is)
   (case a70=>(refine' G.fV.mk ?l ?c ?k; (case l=>k_is); (case c=>k_is); (case k=>k_is)))
   (case om_Desk_say|oi_Desk_say=>k_is)
   (case a71=>(refine' G.fV.mk ?l ?c ?k; (case l=>k_is); (case c=>k_is); (case k=>k_is)))
   (case om_Desk_init|oi_Desk_init=>k_is)
   (case a73=>(refine' G.fV.mk ?l ?c ?k; (case l=>k_is); (case c=>k_is); (case k=>k_is)))
   (case qd_CHANGES|kd_CHANGES=>k_is)
   (case kk_CHANGES=>k_keys)
   (case ks_CHANGES=>rfl)
   (case qd_ASKS|kd_ASKS=>k_is)
   (case kk_ASKS=>k_keys)
   (case ks_ASKS=>rfl)
   (case h1h|h2i|h1Y|h1V|h1p|h2h|h1i|h2f|h1W|h2j|h1U|h1P|h1Z|h1S|h2g=>k_is)
   (case h1j=>k_exc)
   (case h1s=>kts_exm)
   (case h1q=>(refine L2.cU.mk ?_ ?_ ?_ ?_ ?_ ?_ ?_ ?_ <;> first | k_is | (show PySem.W.isClsIn _ _ = true; k_is)))
   (case h0f|h0u|h0e|h0y|h0m|h0K|h0k|h0H|h0b|h1o=>kit_is)
   (case h1w=>k_exc)
   (case h1v=>kts_exm)
   (case h1D=>(refine L2.cU.mk ?_ ?_ ?_ ?_ ?_ ?_ ?_ ?_ <;> first | k_is | (show PySem.W.isClsIn _ _ = true; k_is)))
   (case h0w|h0B|h0r|h0Q|h0P|h0S|h0v|h0W|h0h|h1t=>kit_is)
   (case h1n=>k_exc)
   (case h1m=>kts_exm)
   (case h1l=>(refine L2.cU.mk ?_ ?_ ?_ ?_ ?_ ?_ ?_ ?_ <;> first | k_is | (show PySem.W.isClsIn _ _ = true; k_is)))
   (case h0j|h0A|h0c|h0z|h0p|h0L|h0i|h0G|h0a|h1r=>kit_is)
   (case h1C=>k_exc)
   (case h1F=>kts_exm)
   (case h1B=>(refine L2.cU.mk ?_ ?_ ?_ ?_ ?_ ?_ ?_ ?_ <;> first | k_is | (show PySem.W.isClsIn _ _ = true; k_is)))
   (case h0o|h0F|h0n|h0I|h0C|h0Y|h0t|h0V|h0d|h1z=>kit_is)
   (case h1J=>k_exc)
   (case h1M=>kts_exm)
   (case h1K=>(refine L2.cU.mk ?_ ?_ ?_ ?_ ?_ ?_ ?_ ?_ <;> first | k_is | (show PySem.W.isClsIn _ _ = true; k_is)))
   (case h0E|h0T|h0N|h0Z|h0X|h1f|h0J|h1g|h0l|h1I=>kit_is)
   (case h1A=>k_exc)
   (case h1u=>kts_exm)
   (case h1x=>(refine L2.cU.mk ?_ ?_ ?_ ?_ ?_ ?_ ?_ ?_ <;> first | k_is | (show PySem.W.isClsIn _ _ = true; k_is)))
   (case h0s|h0D|h0q|h0O|h0M|h0U|h0x|h0R|h0g|h1E=>kit_is)
   (case q0|r0|q1|r1|q2|r2|q3|q4|q5|q6|q7|q8|q9|r9|q10|q11|q12|q13|q14|q15=>k_is)
#print axioms PySem.Challenge.cw_glowflock_k60_what_a_desk_refuses_holds
