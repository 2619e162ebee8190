import PyProof.Rows.All
import Wide.All
import OpenK.AllK
import Wide.FinOn
import Lean
import PyProof.EqAt
import PyProof.EqKinds
import PyProof.TupleCall
import PyProof.P3In
import PyProof.ReprRoads
import PyProof.MaxThree
import PyProof.AttrMissHeap
import KE.KDictOf
import PyProof.Walks
import KE.KItemsList
import PyProof.DictValues
import PyProof.DictWalks
import PySem.Challenge.RW_glowflock_k66_whole_rests_and_beside
set_option compiler.extract_closed false
set_option Elab.async false
set_option linter.all false
set_option maxRecDepth 100000
open Array renaming append_assoc->xO,forIn_toList->qG,getElem?_eq_none->Q9,getElem?_eq_some_iff->WM,length_toList->W0,toList->uo
open Bool renaming and_eq_true->wV,and_eq_true_iff->xl,and_false->ua,and_true->uh,beq_eq_decide_eq->V5,eq_iff_iff->vy,false_and->WP,false_eq_true->vT,false_ne_true->vj,noConfusion->XD,not_eq_true->XE,not_eq_true'->WW,not_false->xc,not_true->qf,true_and->Qu
open Classical renaming not_not->V2
open False renaming elim->Wp
open Int renaming dvd_mul_left->Xx,dvd_mul_right->Vv,dvd_trans->qd,ediv_eq_of_eq_mul_right->Ql,emod_lt_of_pos->qH,emod_nonneg->qZ,gcd->vk,gcd_comm->xR,gcd_dvd_left->qa,gcd_dvd_right->qM,gcd_pos_of_ne_zero_right->V4,gcd_zero_right->Qo,mul_assoc->VO,mul_ediv_cancel_left->VG,mul_ne_zero->qU,mul_neg->Xo,mul_one->Q0,mul_pos->vJ,natAbs_ediv_le_natAbs->QE,natAbs_mul->xa,natCast_ediv->VH,natCast_mul->Vn,neg_dvd->Xn,neg_one_mul->XT,pow_add->Xs,pow_ne_zero->VT,pow_pos->Xq,pow_succ->qX,pow_zero->xZ,sign_eq_neg_one_of_neg->Qs,sign_eq_one_of_pos->Q1,toNat->QW,toNat_natCast->wW
open List renaming Pairwise->xA,all_cons->xz,all_eq_true->Wl,all_map->xV,any_cons->WX,any_eq_true->XI,append_assoc->Vt,append_inj_left->xw,append_nil->vY,cons_append->QK,count_append->Xm,count_replicate->xx,count_replicate_self->QI,dropLast_concat_getLast->Qf,dropLast_eq_take->xf,drop_eq_getElem_cons->qq,drop_eq_nil_of_le->Q3,drop_succ_cons->Qc,drop_zero->xi,eq_nil_of_length_eq_zero->WD,ext_getElem->WN,filterMap_cons->Qb,filter_append->WS,filter_congr->vF,filter_cons->WG,filter_eq_nil_iff->Q4,filter_filter->qE,find?_cons->XZ,find?_some->X0,flatten_cons->Vs,flatten_replicate_singleton->qQ,foldl->XQ,foldl_append->Xb,forIn_cons->qr,forIn_nil->Qh,getD_eq_getElem?_getD->wa,getElem?_append_left->Wu,getElem?_append_right->vM,getElem?_drop->xT,getElem?_eq_getElem->wc,getElem?_eq_none->wF,getElem?_eq_some_iff->WU,getElem?_map->wu,getElem?_range->vI,getElem?_replicate->QQ,getElem?_set->Vu,getElem?_set_ne->qS,getElem?_set_self->QZ,getElem?_toArray->xk,getElem_drop->Xd,getElem_map->W7,getElem_mem->Wc,getElem_of_mem->vc,getElem_take->Xc,length->qj,length_append->wS,length_cons->vR,length_drop->Wb,length_dropLast->xv,length_eq_zero_iff->qL,length_filter_le->Wx,length_map->wm,length_nil->QY,length_pos_iff->W2,length_pos_of_mem->Q5,length_range->vx,length_replicate->Ww,length_set->Vm,length_singleton->vZ,length_tail->Xy,length_take->Wz,length_zipWith->xD,lookup_cons->qc,map_append->vt,map_congr_left->qm,map_cons->wZ,map_drop->uf,map_dropLast->Xk,map_map->WF,map_nil->qy,map_replicate->x5,mem_append->vX,mem_append_left->Wf,mem_append_right->vO,mem_cons->wQ,mem_cons_of_mem->wD,mem_cons_self->wJ,mem_filter->vd,mem_filterMap->Qi,mem_iff_getElem->xq,mem_map->wY,mem_of_find?_eq_some->QG,mem_or_eq_of_mem_set->QF,mem_range->wH,mem_replicate->x6,mem_singleton->wX,nil_append->qp,nodup_cons->VQ,nodup_range->W6,not_mem_nil->Va,of_mem_zip->qT,pairwise_append->qb,pairwise_cons->WR,pairwise_iff_getElem->Wv,pairwise_map->Qy,pairwise_singleton->QR,range->wt,range_succ->qY,replicate->w9,replicate_succ->VL,set_cons_succ->xX,set_cons_zero->xY,size_toArray->wI,sum_cons->WY,tail_cons->X6,take_add_one->V1,take_length->Wt,take_of_length_le->Vf,take_sublist->x8,take_subset->Xz,take_succ_cons->xG,take_zero->ub,zipIdx_cons->XH,zipIdx_nil->XY
open List.Pairwise renaming drop->uB
open List.Perm renaming append_left->xh,refl->xg
open Nat renaming add_assoc->VN,add_comm->xQ,add_le_add_left->xJ,add_sub_cancel->qD,gcd_dvd_right->Xa,le_add_right->Vb,le_max_left->XU,le_max_right->Xw,le_of_dvd->ug,le_of_lt->Vh,le_refl->wo,le_trans->Wd,lt_irrefl->Vq,lt_of_le_of_lt->WQ,lt_of_lt_of_le->wU,lt_or_ge->wB,lt_succ_of_lt->Vx,lt_trichotomy->Vw,lt_two_pow_self->xK,min_le_right->Xu,mod_eq_of_lt->XA,mul_le_mul->VB,mul_le_mul_left->xI,mul_le_mul_right->Wg,mul_succ->qC,ne_of_gt->vi,ne_of_lt->wL,pow_add->Xp,pow_succ->xS,sub_self->VI,succ_mul->qA,succ_ne_self->XG,two_pow_pos->Wj,zero_le->qi,zero_mul->QN
open Nat.succ renaming inj->QP
open Ne renaming symm->We
open Option renaming bind_some->XF,getD_none->Xv,getD_some->QM,isSome_iff_exists->VD,map_eq_some_iff->Vd,map_some->XW
open Option.some renaming inj->wP,injEq->Qz
open Prod renaming ext->V9,fst->uk,snd->um
open PyProof.Rows renaming callWith_type1->vv,slot_tuple_getitem->VM
open PyProof.Rows.IsTup renaming new->qR
open PySem renaming Addr->wg,Around->w6,FuncData->wE,Heap->wM,IsPair->Wy,NameKind->WO,Program->wO,PyData->wz,Shared->wl,Stmt->ve,Value->wf,World->wR,assignEach->Vg,backTo->WV,binaryOp->WB,bootBuiltins->vK,cLine->WI,call->XS,compareOp->wT,isSubtype_stop->VC,letOwnedTupleGo->qu,mainGlobals->wK,mem_of_lookup->W1,pyNext->W3,rawInt->Vz,sizeLine->w8,sliceBounds->ql,starEach->w5,wpAny->wq,wpAny_Call_Name_kw->VX,wpAny_attempt->WA,wpAny_bind->we,wpAny_call_entry->vL,wpAny_comprehension_free->qI,wpAny_execs_nil->qt,wpAny_field->vg,wpAny_holding->vN,wpAny_isInstance->WH,wpAny_mono->Wr,wpAny_newObj_type->Wo,wpAny_passesOwn->Vp,wpAny_pure->wp,wpAny_pyIter_list->V3,wpAny_pyIter_tuple->Vk,wpAny_rule->VW,wpAny_seqItems->Wh,wpAny_setField->Vc,wpAny_setField_rec->WT,wpAny_specialOf->qw,wpAny_standAt->qh,wpAny_truthy_bool->Wn
open PySem.Around renaming frames_deeper->xm,under->ut,under_plainId->xu
open PySem.Builtin.Dict renaming pairItems->Q8,updateFrom->QU
open PySem.Builtin.Int renaming intBits->xE
open PySem.Builtin.List renaming listTooLong->qz
open PySem.Builtin.Range renaming rangeSize->uw
open PySem.Builtin.Slice renaming sliceAdjust->qo,sliceApplied->Qq,sliceFields->ui,slicePartIndex->X4,slicePlaces->VA
open PySem.Builtin.SmallTypes renaming nextOf->vC,ownedTupleHandOut->qF,ownedTupleIsFree->vA
open PySem.Builtin.Tuple renaming tupleExact->VF,tupleHashOf->vQ,tupleItemsOf->Qr
open PySem.Calls renaming Name_function_global->Qp,evalArgs_plain->xn,spliced_cons->Qj,spliced_nil->Qx
open PySem.Challenge renaming pw_glowflock_k66_whole_rests_and_beside->Ve,rw_glowflock_k66_whole_rests_and_beside->wr
open PySem.Code renaming isGuard->uu
open PySem.EntryCells renaming newEntry->xF
open PySem.F renaming args_enumerate_next_1->QT,args_tuple_add_2->qx,args_tuple_iterator_next_1->Qg,args_zip_next_1->Vy,attrBase_ValueError->Qm,entry_enumerate_next->Q7,entry_tuple_add->qK,entry_tuple_iterator_next->Qn,entry_zip_next->VJ,excBase_ValueError->xr,plainAttrs_list->vP,slot_enumerate_next->V8,slot_int_rmul->XR,slot_list_append->vV,slot_tuple_add->qP,slot_tuple_eq->QX,slot_tuple_hash->qN,slot_tuple_iterator_next->Vr,slot_zip_getattribute->V0,slot_zip_next->Wq,type_list_append->vW
open PySem.Heap renaming ExtBut->Q6,IsTuple->xW,MadeExcOf->X8,SameBut->vB,get?_push_ne->QC,get?_push_of_some->wn,get?_push_size->wN,get?_update_other->Ws,get?_update_self->Vl,lt_size->wy,size_push->W9,update->VZ
open PySem.Heap.IsSliceOf renaming new->uA
open PySem.Heap.SameBut renaming update->xH
open PySem.IntMulOk renaming of_left->XJ,of_right->Xj
open PySem.IsRange renaming new->uz
open PySem.Obj renaming cls_mapFields->Xi,data_mapFields->VU,isFreed_of_fields->V6,mapFields->qg,mapSeq->QD
open PySem.Paired renaming length->uc
open PySem.PassesOwn renaming leaving->Xl,never->vG
open PySem.PyData renaming canLay0->Wa,canLayAll0->Wm,depth->Vj,depthAll->WC,eqv->wA,eqvAll->Wk,strOk->uv
open PySem.SeqAt renaming canLay_of_shaped->W8,shaped->vU
open PySem.SeqAt.EqAt renaming int_str->xL,str_int->xM
open PySem.Shared renaming heap->Xr
open PySem.Str renaming ofString->vH,ofString->wG
open PySem.StrLaws renaming seqIndex_nonneg->X3
open PySem.W renaming Frag->wb,InstAt->xj,Looks->Qt,OpenLaw->QV,WalkO->ud,callWith_K->Qk,cellsFrom_some->qO,clsIn->xB,codeIn->Qd,codeRec_of->xP,excIn->VP,exmOne->V7,findIn->W4,findObj->XX,fnOf->VE,hideAll->XN,hideAll_get->xC,instObj->XM,isFn->ur,keepIn->W5,kia_one->WJ,kia_tup->Vo,kitAny->X9,kitOne->wC,kitx_bool->Xf,kitx_dict->Xh,kitx_int->XB,kitx_list->Xg,kitx_none->Xe,kitx_str->XC,kitx_tuple->xU,looks_findIn->xt,methodObj->Qv,mg_none_of->vE,mg_of->vD,mroIn->xy,nsIn->va,of_hideAll->xN,specialIn->Qw,takesIn->XO
open PySem.W.Looks renaming ld->uC
open Rat renaming den_divInt->X5,den_intCast->X2,divInt->wx,divInt_mul_divInt->xb,divInt_nonneg->x9,divInt_ofNat->QJ,div_def->Q2,div_mul_cancel->WE,intCast_add->qW,intCast_eq_zero_iff->WZ,intCast_le_intCast->VY,intCast_mul->Wi,intCast_pos->XV,le_iff->xp,le_of_lt->vS,le_refl->WL,le_trans->QL,lt_iff->xo,lt_of_le_of_ne->VS,mul_assoc->ue,mul_comm->Qa,mul_eq_zero->qV,mul_nonneg->Qe,mul_pos->qk,not_lt->VR,num_divInt_den->Vi,num_intCast->X1,num_nonneg->qJ,pow_succ->WK,pow_zero->qB
namespace GH
open PySem PySem.W PyProof.Rows
noncomputable def yy (p:wO) (w:wR) (m:Nat) (an:Option wf) (N:Nat) (s0:wl):Option wl :=
 Option.bind (Fast.tw14082659384304107361 Fast.tw14364793385576792824 p w m an N s0 (topStub p)) λs1=>match staticsOk (Fast.tw5923862056798008813 p.main.body) s0.heap s1.heap&&namesBound p s1.heap&&gensDone s1&&laidKept s0.heap s1.heap with | true=>some s1 | false=>none
noncomputable def gr (w:wR) (os:OsState):wl:=⟨boot_heap w.params,#[],boot_drawn,boot_toks,os⟩
theorem SX{p q:wO}{loose:List Str}{Xt:wl->Bool}{A:Type}{Yf:wl->A}{Ya:wR->A}{N:Nat}(e:opening p=plainProg p.main.scope.names)(hN:Nat.ble 600 N=true)(f:∀s,fenceModules? p s=some s){m:Nat}{an:Option wf}
  (size:∀w:wR,((boot_heap w.params).isNs wK,(boot_heap w.params).objs.size,(boot_heap w.params).nsMap wK "__annotations__")=(true,m,an))
  (h:∀w:wR,(λos=>(yy p w m an N (gr w os)).map (λs=>(Fast.tw4187177175401517315 q loose (Fast.tw5923862056798008813 p.main.body) Xt true s,Yf s)))=λ_=>some (openGood q loose,Ya w)):LeftO p q loose Xt Yf Ya N:=λw=>by
 obtain⟨⟨h',gs,d,k,os⟩,e',e2⟩:=Vd.mp (boot_open e hN f (w:=w));obtain⟨rfl,rfl,rfl,rfl⟩:h'=boot_heap w.params/\gs = #[]/\d=boot_drawn/\k=boot_toks:=by simpa using e2
 obtain⟨z1,z2,z3⟩:_/\_/\_:=by simpa only[Prod.mk.injEq] using size w
 have r:=congrFun (h w) os;unfold openEnds;rw[e']
 show Option.map _ (topFrom treeTable p w N _)=_
 rw[<- r];unfold topFrom yy gr;rw[<- Fast.te14082659384304107361,<- Fast.te14364793385576792824,<- Fast.te5923862056798008813,<- Fast.te4187177175401517315];dsimp only;rw[z1,z2,z3]
 rfl
noncomputable def jY (p:wO) (w:wR) (m:Nat) (an:Option wf) (N:Nat) (s0:wl):Option wl:=Fast.tw14082659384304107361 Fast.tw14364793385576792824 p w m an N s0 (topStub p)
noncomputable def Eg (p:wO) (w:wR) (m:Nat) (an:Option wf) (N:Nat) (os:OsState):Option Bool:=(jY p w m an N (gr w os)).map λs1=>staticsOk (Fast.tw5923862056798008813 p.main.body) (gr w os).heap s1.heap&&namesBound p s1.heap&&gensDone s1&&laidKept (gr w os).heap s1.heap
theorem Ro{p q:wO}{loose:List Str}{Xt:wl->Bool}{A:Type}{Yf:wl->A}{Ya:wR->A}{N:Nat}(e:opening p=plainProg p.main.scope.names)(hN:Nat.ble 600 N=true)(f:∀s,fenceModules? p s=some s){m:Nat}{an:Option wf}
  (size:∀w:wR,((boot_heap w.params).isNs wK,(boot_heap w.params).objs.size,(boot_heap w.params).nsMap wK "__annotations__")=(true,m,an))
  (hA:∀w:wR,(λos=>Eg p w m an N os)=λ_=>some true)
  (hB0:∀w:wR,(λos=>(jY p w m an N (gr w os)).map (λs=>((Fast.tw4187177175401517315 q loose (Fast.tw5923862056798008813 p.main.body) Xt true s).1,(Fast.tw4187177175401517315 q loose (Fast.tw5923862056798008813 p.main.body) Xt true s).2.1)))=λ_=>some (expectedOf q,bltViewBooted))
  (hB1:∀w:wR,(λos=>(jY p w m an N (gr w os)).map (λs=>((Fast.tw4187177175401517315 q loose (Fast.tw5923862056798008813 p.main.body) Xt true s).2.2.1,(Fast.tw4187177175401517315 q loose (Fast.tw5923862056798008813 p.main.body) Xt true s).2.2.2.1)))=λ_=>some (true,true))
  (hB2:∀w:wR,(λos=>(jY p w m an N (gr w os)).map (λs=>(Fast.tw4187177175401517315 q loose (Fast.tw5923862056798008813 p.main.body) Xt true s).2.2.2.2))=λ_=>some (pinGoodD (drecsOf q),plainGoodE q (looseW q loose),plainGoodD q loose,wideGood q,clsGoodW q loose))
  (hC:∀w:wR,(λos=>(jY p w m an N (gr w os)).map (λs=>Yf s))=λ_=>some (Ya w)):LeftO p q loose Xt Yf Ya N:=by
 refine SX e hN f size λw=>?_
 funext os
 have h1:=congrFun (hA w) os;unfold Eg at h1;obtain⟨s1,e1,e2⟩:=Vd.mp h1;have g0:=congrFun (hB0 w) os;have g1:=congrFun (hB1 w) os;have g2:=congrFun (hB2 w) os;have k:=congrFun (hC w) os;rw[e1]at g0 g1 g2 k;have g0:=wP g0;have g1:=wP g1;have g2:=wP g2;have a0:=congrArg uk g0;have b0:=congrArg um g0;have a1:=congrArg uk g1;have b1:=congrArg um g1;have g:Fast.tw4187177175401517315 q loose (Fast.tw5923862056798008813 p.main.body) Xt true s1=openGood q loose:=V9 a0 (V9 b0 (V9 a1 (V9 b1 g2)));have k:=wP k
 have ez:yy p w m an N (gr w os)=some s1:=by
  unfold yy;unfold jY at e1;rw[e1]
  show(match _ with | true=>some s1 | false=>none)=some s1
  rw[e2]
 rw[ez];exact congrArg some (V9 g k)
def qv:wO:=view Ve [1,2,3,4,5,6,7,8,9,10,12,13,14,15,16,17,18,19,20,21,23,24,25,26,27,28,29,30,31,32,34,35,36,37,38,39,40,41,42,43,45,46,48,49,50,51,52,53,54,55,56,58,59,60,61,62,63,64,65,66,67,69,70,71,72,73,74,75,77,78,79,80,81,82,83,84,85,86,87,88]
theorem Hn:wr.wellSaid=true:=by kernel_rfl
theorem size(w:wR):((boot_heap w.params).isNs wK,(boot_heap w.params).objs.size,(boot_heap w.params).nsMap wK "__annotations__")=(true,11,some (.ref 6)):=by kernel_rfl
theorem R1(w:wR):(λos=>Eg wr.row.prog w 11 (some (.ref 6)) 8338 os)=λ_=>some true:=by kernel_rfl
theorem RS(w:wR):(λos=>(jY wr.row.prog w 11 (some (.ref 6)) 8338 (gr w os)).map (λs=>((Fast.tw4187177175401517315 qv [] (Fast.tw5923862056798008813 wr.row.prog.main.body) (λs=>xlAt GH.qv [] s&&recOk (RowW.records (OpenRow.toRowW (OpenLaw.row wr))) s) true s).1,(Fast.tw4187177175401517315 qv [] (Fast.tw5923862056798008813 wr.row.prog.main.body) (λs=>xlAt GH.qv [] s&&recOk (RowW.records (OpenRow.toRowW (OpenLaw.row wr))) s) true s).2.1)))=λ_=>some (expectedOf qv,bltViewBooted):=by kernel_rfl
theorem RV(w:wR):(λos=>(jY wr.row.prog w 11 (some (.ref 6)) 8338 (gr w os)).map (λs=>((Fast.tw4187177175401517315 qv [] (Fast.tw5923862056798008813 wr.row.prog.main.body) (λs=>xlAt GH.qv [] s&&recOk (RowW.records (OpenRow.toRowW (OpenLaw.row wr))) s) true s).2.2.1,(Fast.tw4187177175401517315 qv [] (Fast.tw5923862056798008813 wr.row.prog.main.body) (λs=>xlAt GH.qv [] s&&recOk (RowW.records (OpenRow.toRowW (OpenLaw.row wr))) s) true s).2.2.2.1)))=λ_=>some (true,true):=by kernel_rfl
theorem RP(w:wR):(λos=>(jY wr.row.prog w 11 (some (.ref 6)) 8338 (gr w os)).map (λs=>(Fast.tw4187177175401517315 qv [] (Fast.tw5923862056798008813 wr.row.prog.main.body) (λs=>xlAt GH.qv [] s&&recOk (RowW.records (OpenRow.toRowW (OpenLaw.row wr))) s) true s).2.2.2.2))=λ_=>some (pinGoodD (drecsOf qv),plainGoodE qv (looseW qv []),plainGoodD qv [],wideGood qv,clsGoodW qv []):=by kernel_rfl
local macro_rules | `(tactic| o_head $H)=>`(tactic| (refine holds_open (q:=GH.qv) (loose:=[]) (Xt:=λ s=>xlAt GH.qv [] s && recOk (RowW.records (OpenRow.toRowW (OpenLaw.row wr))) s) (XP:=XL GH.qv []) (Yf:=Hook.obs $H) (Ya:=Hook.val $H) (YP:=Hook.says $H) (N:=8338) ?hl (Hook.of $H) (Hook.keeps $H) (λ s e=>xl_of s (xl.mp e).1) XL.keeps (by rfl) (by rfl) (by rfl) (λ s e=>recFacts_of (xl.mp e).2) (by rfl) (by first | assumption | decide +kernel) (by decide +kernel) ⟨rfl,rfl,rfl,rfl,rfl,by decide +kernel⟩ ?hw ?hc; (case hl=>refine GH.Ro (by kernel_rfl) rfl (λ s=>by kernel_rfl) GH.size GH.R1 GH.RS GH.RV GH.RP ?_; intro w; kernel_rfl)))
local macro_rules | `(tactic| o_law)=>`(tactic| refine holds_law GH.Hn λ Hn=>?_)
set_option maxHeartbeats 0
open_top head for wr
end GH
set_option maxHeartbeats 4000000
namespace L2
open PySem PySem.Spec PyProof.Rows
abbrev Key:=Sum Int Str
def Jp:Key->wf->Bool
 | .inl k,v=>Value.isInt k v
 | .inr x,v=>Value.isStrOf x v
def zCl(w:wR):Key->Int
 | .inl k=>hashInt k
 | .inr x=>hashStr w x
theorem jF:∀{k:Key}{v:wf},Jp k v=true->(∃i t,k=Sum.inl i/\v=Value.int i t)\/(∃x t,k=Sum.inr x/\v=Value.str x t)
 | .inl i,v,h=>by
  obtain⟨t,e⟩:=Value.isInt_shape (k:=i) (v:=v) h;exact .inl ⟨i,t,rfl,e⟩
 | .inr x,v,h=>by
  obtain⟨t,e⟩:=Value.isStrOf_shape (x:=x) (v:=v) h;exact .inr ⟨x,t,rfl,e⟩
theorem zz3(a b:Int):decide ((Sum.inl a:Key)=Sum.inl b)=(a == b):=by
 by_cases e:a=b
 ·subst e;simp
 ·have h:¬ (Sum.inl a:Key)=Sum.inl b:=λq=>e (Sum.inl.inj q)
  rw[decide_eq_false h];exact(beq_eq_false_iff_ne.mpr e).symm
theorem TK(a b:Str):decide ((Sum.inr a:Key)=Sum.inr b)=decide (a=b):=by
 by_cases e:a=b
 ·subst e;simp
 ·have h:¬ (Sum.inr a:Key)=Sum.inr b:=λq=>e (Sum.inr.inj q)
  rw[decide_eq_false h,decide_eq_false e]
theorem zAe(a:Int)(b:Str):decide ((Sum.inl a:Key)=Sum.inr b)=false:=decide_eq_false (λq=>nomatch q)
theorem U7(a:Str)(b:Int):decide ((Sum.inr a:Key)=Sum.inl b)=false:=decide_eq_false (λq=>nomatch q)
def AK(prog:wO)(w:wR):PySem.KeyKind prog w Key where
 is:=Jp
 hash:=zCl w
 inj:=λv a b ha hb=>by
  rcases jF ha with⟨i,t,rfl,rfl⟩ | ⟨x,t,rfl,rfl⟩
  ·rcases jF hb with⟨j,u,rfl,e⟩ | ⟨y,u,rfl,e⟩
   ·injection e with e1 _;rw[e1]
   ·exact nomatch e
  ·rcases jF hb with⟨j,u,rfl,e⟩ | ⟨y,u,rfl,e⟩
   ·exact nomatch e
   ·injection e with e1 _;rw[e1]
 byValue:=λk v h=>by
  rcases jF h with⟨i,t,rfl,rfl⟩ | ⟨x,t,rfl,rfl⟩<;>rfl
 pyHash:=λhv h=>by
  rcases jF hv with⟨i,t,rfl,rfl⟩ | ⟨x,t,rfl,rfl⟩
  ·exact wpAny_pyHash_int h
  ·exact wpAny_pyHash_str h
 eqBool:=λhu hv h=>by
  rcases jF hu with⟨i,t,rfl,rfl⟩ | ⟨x,t,rfl,rfl⟩
  ·rcases jF hv with⟨j,u,rfl,rfl⟩ | ⟨y,u,rfl,rfl⟩
   ·rw[zz3]at h;exact wpAny_eqBool_int h
   ·rw[zAe]at h;exact xL i t y u _ _ _ _ h
  ·rcases jF hv with⟨j,u,rfl,rfl⟩ | ⟨y,u,rfl,rfl⟩
   ·rw[U7]at h;exact xM x t j u _ _ _ _ h
   ·rw[TK]at h;exact wpAny_eqBool_str h
 «strs»:=λk x t v h=>by
  rcases jF h with⟨i,u,rfl,e⟩ | ⟨y,u,rfl,e⟩
  ·exact nomatch e
  ·injection e with e1 _
   subst e1;cases v<;>rfl
inductive V where
 | bM | bl (b:Bool) | int (i:Int) | str (x:Str) | byt (b:Array UInt8) | kO (b:UInt64) | ref (a:wg) | ty (n:String)
 deriving DecidableEq
def aX:V->wf->Prop
 | .bM,u=>u=Value.none
 | .bl b,u=>u=Value.bool b
 | .int i,u=>∃t,u=Value.int i t
 | .str x,u=>∃t,u=Value.str x t
 | .byt b,u=>∃t,u=Value.bytes b t
 | .kO b,u=>∃t,u=Value.float b t
 | .ref a,u=>u=Value.ref a
 | .ty n,u=>u=Value.type n
abbrev aK:List V->List wf->Prop:=Paired aX
theorem aK.length{xs:List V}{us:List wf}(r:aK xs us):xs.length=us.length:=uc r
theorem aK.get:∀{xs:List V}{us:List wf}{i:Nat}{x:V},aK xs us->xs[i]? = some x->∃u,us[i]? = some u/\aX x u
 | _,_,_,_,.nil,e=>by simp at e
 | _,_,0,_,.cons r _,e=>by simp at e;subst e;exact⟨_,rfl,r⟩
 | _,_,i+1,x,.cons _ t,e=>by
  obtain⟨u,h1,h2⟩:=aK.get (i:=i) (x:=x) t (by simpa using e);exact⟨u,by simpa using h1,h2⟩
theorem aK.set{x:V}{u:wf}(r:aX x u):∀{xs:List V}{us:List wf}(i:Nat),aK xs us->aK (xs.set i x) (us.set i u)
 | _,_,_,.nil=>.nil
 | _,_,0,.cons _ t=>.cons r t
 | _,_,i+1,.cons q t=>.cons q (aK.set r i t)
theorem aK.append:∀{xs ys:List V}{us ws:List wf},aK xs us->aK ys ws->aK (xs++ys) (us++ws)
 | _,_,_,_,.nil,s=>s
 | _,_,_,_,.cons r t,s=>.cons r (aK.append t s)
theorem aK.take:∀{xs:List V}{us:List wf}(n:Nat),aK xs us->aK (xs.take n) (us.take n)
 | _,_,0,_=>.nil
 | _,_,_+1,.nil=>.nil
 | _,_,n+1,.cons r t=>.cons r (aK.take n t)
theorem aK.drop:∀{xs:List V}{us:List wf}(n:Nat),aK xs us->aK (xs.drop n) (us.drop n)
 | _,_,0,r=>r
 | _,_,_+1,.nil=>.nil
 | _,_,n+1,.cons _ t=>aK.drop n t
def OX:Option V->Option wf->Prop
 | some v,some u=>aX v u
 | none,none=>True
 | _,_=>False
def KV{κ : Type} : List (κ × V)->List (κ × wf)->Prop:=Paired λ(p : κ × V)(q : κ × wf)=>p.1=q.1/\aX p.2 q.2
def kV:Key->V
 | .inl i=>.int i
 | .inr x=>.str x
inductive HO where
 /-- a list -/
 | lst (xs:List V)
 /-- a tuple (never changes) -/
 | tup (xs:List V)
 /-- a dict whose keys are ints and texts;one whose keys are tuples of ints and texts (the empty one is both) -/
 | dK (kvs:List (Key × V)) | dT (kvs:List (List Key × V))
 /-- a set of ints: its members,its size -/
 | set (S:Int->Bool) (n:Nat)
 /-- an instance of the class at C,its dict at dx,its attributes -/
 | ins (C dx:wg) (fs:List (Str × V))
 /-- the dict of the instance at x -/
 | own (x:wg)
 /-- the dict of an exception -/
 | xd (fs:List (Str × V))
 /-- a bound method,f of x -/
 | met (f x:wg)
 /-- a range object lo,lo+1,.. below hi -/
 | zy (lo hi:Int)
 /-- a thing that is known to the object (the script;a dict while a loop walks it): read,never written while it is so -/
 | eX (o:Obj) (u:HO)
 /-- a code object's table -/
 | kq (ps:Array wf)
 /-- any other thing,by what is true of its one object (a def of one's own: SetO a S n:=HO.ext λh=>..) -/
 | ext (φ : wM->Prop)
abbrev Hp:=wg->Option HO
def upd(H:Hp)(a:wg)(o:HO):Hp:=λb=>if b=a then some o else H b
theorem cO{H:Hp}{a:wg}{o:HO} : upd H a o a=some o:=by unfold upd;rw[if_pos rfl]
theorem dY{H:Hp}{a b:wg}{o:HO}(h:b≠a):upd H a o b=H b:=by unfold upd;rw[if_neg h]
theorem Hw{H:Hp}{a b:wg}{o u:HO}(h:H a=some o)(h':H b=some u)(d:o≠u):a≠b:=by
 intro e;subst e;rw[h]at h';exact d (wP h')
theorem hZ{H:Hp}{a b:wg}{o:HO}(h:H a=some o)(h':H b=none):a≠b:=by
 intro e;subst e;rw[h]at h';cases h'
section
variable(P:wO)(w:wR)
def dq(H:Hp)(h:wM)(a:wg):HO->Prop
 | .lst xs=>xs.length<=w8 /\ ∃(its:List wf)(n:Nat),aK xs its/\h.get? a=some {cls:=.type "list",data:=.seq its.toArray n}
 | .tup xs=>xs.length<=w8 /\ ∃its:List wf,aK xs its/\IsTup h a its.toArray
 | .dK kvs=>kvs.length<=w8/\(a == sysModules)=false /\ ∃vs,KV kvs vs/\h.DictOf (AK P w) a vs
 | .dT kvs=>kvs.length<=w8/\(a == sysModules)=false /\ ∃xs:List (List Key × wg × wf),
     Paired (λ(p:List Key × V)(q:List Key × wg × wf)=>p.1=q.1/\H q.2.1=some (.tup (p.1.map kV))/\aX p.2 q.2.2) kvs xs /\
     ∃o es ep,h.get? a=some o/\o.ExactDict/\o.data=.dict es ep/\es.toList=xs.map (entryOfKey (tupleKind (AK P w)))/\(xs.map (·.1)).Nodup
 | .set S n=>h.SetOf (intKind P w) a S n
 | .ins C dx fs=>H dx=some (.own a)/\fs.length<=1000/\dx≠a/\h.get? a=some (XM C dx) /\
     ∃mA,h.Ns1 dx mA/\(∀f,OX (fs.lookup f) (mA f))/\PySem.Within mA (fs.map (·.1))
 | .own _=>∃o,h.get? a=some o
 | .xd fs=>∃mA,h.Ns1 a mA /\ ∀f,OX (fs.lookup f) (mA f)
 | .zy lo hi=>∃t u v,h.get? a=some {cls:=.type "range",data:=.fields #[.int lo t,.int hi u,.int 1 v]}
 | .eX o u=>h.get? a=some o/\dq H h a u
 | .kq ps=>h.get? a=some {cls:=.none,data:=.fields ps}
 | .met f x=>h.get? a=some (Qv (.ref f) (.ref x))
 | .ext φ=>φ h/\(∃o,h.get? a=some o) /\ ∀h1 h2:wM,φ h1->(∀o,h1.get? a=some o->h2.get? a=some o) -> φ h2
def cT(H:Hp)(h:wM):Prop:=∀a o,H a=some o->dq P w H h a o
end
section
variable{P:wO}{w:wR}{H H':Hp}{h h':wM}{a:wg}{o:HO}
theorem dq.lt(x:dq P w H h a o):a<h.objs.size:=by
 cases o with
 | lst xs=>obtain⟨_,_,_,_,e⟩:=x;exact wy e
 | tup xs=>obtain⟨_,_,_,p⟩:=x;exact p.lt
 | dK kvs=>obtain⟨_,_,_,_,o,_,_,e,_⟩:=x;exact wy e
 | dT kvs=>obtain⟨_,_,_,_,o,_,_,e,_⟩:=x;exact wy e
 | set S n=>obtain⟨o,_,_,_,e,_⟩:=x;exact wy e
 | ins C dx fs=>obtain⟨_,_,_,e,_⟩:=x;exact wy e
 | own y=>obtain⟨_,e⟩:=x;exact wy e
 | xd fs=>obtain⟨_,⟨_,_,_,e,_⟩,_⟩:=x;exact wy e
 | zy lo hi=>obtain⟨_,_,_,e⟩:=x;exact wy e
 | eX ob u=>obtain⟨e,_⟩:=x;exact wy e
 | kq ps=>exact wy (show h.get? a=some _ from x)
 | met f y=>exact wy (show h.get? a=some _ from x)
 | ext φ=>obtain⟨_,⟨_,e⟩,_⟩:=x;exact wy e
theorem Paired.Hh{α β : Type}{F G : α -> β -> Prop} : ∀{l₁ : List α}{l₂ : List β},Paired F l₁ l₂ -> (∀a b,F a b->G a b)->Paired G l₁ l₂
 | _,_,.nil,_=>.nil
 | _,_,.cons r t,f=>.cons (f _ _ r) (Paired.Hh t f)
theorem dq.jw(x:dq P w H h a o)(k:∀b u,(b=a\/H b=some (.own a))->h.get? b=some u->h'.get? b=some u)
  (ho:∀b,H b=some (.own a)->H' b=some (.own a)) (ht:∀b xs,H b=some (.tup xs)->H' b=some (.tup xs)):dq P w H' h' a o:=by
 induction o with
 | lst xs=>obtain⟨z,its,n,r,e⟩:=x;exact⟨z,its,n,r,k _ _ (.inl rfl) e⟩
 | tup xs=>obtain⟨z,its,r,ob,e,c⟩:=x;exact⟨z,its,r,ob,k _ _ (.inl rfl) e,c⟩
 | dK kvs=>obtain⟨z,y,vs,r,ob,es,ep,e,c⟩:=x;exact⟨z,y,vs,r,ob,es,ep,k _ _ (.inl rfl) e,c⟩
 | dT kvs =>
  obtain⟨z,y,xs,r,ob,es,ep,e,c⟩:=x;exact⟨z,y,xs,Paired.Hh r λp q z=>⟨z.1,ht _ _ z.2.1,z.2.2⟩,ob,es,ep,k _ _ (.inl rfl) e,c⟩
 | set S n=>obtain⟨ob,es,ep,t,e,c⟩:=x;exact⟨ob,es,ep,t,k _ _ (.inl rfl) e,c⟩
 | ins C dx fs =>
  obtain⟨d,z,ne,e,mA,⟨od,es,ep,e2,c⟩,r⟩:=x;exact⟨ho _ d,z,ne,k _ _ (.inl rfl) e,mA,⟨od,es,ep,k _ _ (.inr d) e2,c⟩,r⟩
 | own y=>obtain⟨ob,e⟩:=x;exact⟨ob,k _ _ (.inl rfl) e⟩
 | xd fs=>obtain⟨mA,⟨od,es,ep,e,c⟩,r⟩:=x;exact⟨mA,⟨od,es,ep,k _ _ (.inl rfl) e,c⟩,r⟩
 | zy lo hi=>obtain⟨t,u,v,e⟩:=x;exact⟨t,u,v,k _ _ (.inl rfl) e⟩
 | eX ob u ih=>obtain⟨e,q⟩:=x;exact⟨k _ _ (.inl rfl) e,ih q⟩
 | kq ps =>
  have e:h.get? a=some {cls:=.none,data:=.fields ps}:=x
  show h'.get? a=some {cls:=.none,data:=.fields ps}
  exact k a _ (.inl rfl) e
 | met f y =>
  have e:h.get? a=some (Qv (.ref f) (.ref y)):=x
  show h'.get? a=some (Qv (.ref f) (.ref y))
  exact k a _ (.inl rfl) e
 | ext φ=>obtain⟨p,⟨o,e⟩,st⟩:=x;exact⟨st _ _ p λo q=>k _ _ (.inl rfl) q,⟨o,k _ _ (.inl rfl) e⟩,st⟩
theorem cT.lt(x:cT P w H h)(e:H a=some o):a<h.objs.size:=(x a o e).lt
theorem cT.fresh(x:cT P w H h)(e:h.objs.size<=a):H a=none:=by
 cases q:H a with
 | none=>rfl
 | some u=>exact absurd (wU (x.lt q) e) (Vq _)
theorem cT.kept(x:cT P w H h)(k:∀b u,h.get? b=some u->h'.get? b=some u):cT P w H h':=λa o e =>
 (x a o e).jw (λb u _ q=>k b u q) (λ_ q=>q) λ_ _ q=>q
theorem cT.laid(x:cT P w H h)(k:∀b u,h.get? b=some u->h'.get? b=some u)(hp:h.objs.size<=a)(new:dq P w (upd H a o) h' a o):cT P w (upd H a o) h':=λb u e=>by
 have hn:=x.fresh hp
 by_cases hb:b=a
 ·subst hb;rw[cO]at e;cases e;exact new
 ·rw[dY hb]at e
  exact(x b u e).jw (λc v _ q=>k c v q) (λc q=>by rw[dY (hZ q hn)];exact q) λc xs q=>by rw[dY (hZ q hn)];exact q
end
def Rd(H:Hp)(a:wg)(u:HO):Prop:=H a=some u \/ ∃o,H a=some (.eX o u)
theorem Rd.ok{P:wO}{w:wR}{H:Hp}{h:wM}{a:wg}{u:HO}(r:Rd H a u)(x:cT P w H h):dq P w H h a u:=by
 rcases r with r | ⟨o,r⟩
 ·exact x a u r
 ·obtain⟨_,q⟩:=x a _ r
  exact q
def rQ:Option HO->Prop
 | some (.lst _)=>True
 | some (.dK _)=>True
 | some (.dT _)=>True
 | some (.set _ _)=>True
 | some (.ins _ _ _)=>True
 | some (.ext _)=>True
 | _=>False
section
variable{P:wO}{w:wR}{H:Hp}{h h':wM}{x e:wg}{o':HO}
theorem cT.write(ok:cT P w H h)(mu:rQ (H x))(he:e=x\/H e=some (.own x))(k:∀b u,b≠e->h.get? b=some u->h'.get? b=some u)(heo:∃u,h'.get? e=some u)
  (new:dq P w (upd H x o') h' x o'):cT P w (upd H x o') h':=λb u q=>by
 have nown:∀c y,H c=some (.own y)->c≠x:=λc y r z=>by subst z;rw[r]at mu;exact mu
 have ntup:∀c xs,H c=some (.tup xs)->c≠x:=λc xs r z=>by subst z;rw[r]at mu;exact mu
 by_cases hb:b=x
 ·subst hb;rw[cO]at q;cases q;exact new
 ·rw[dY hb]at q
  by_cases hbe:b=e
  ·have q':H b=some (.own x):=by
    rcases he with z | z
    ·exact absurd (hbe.trans z) hb
    ·rw[hbe];exact z
   rw[q]at q';cases q';obtain⟨v,hv⟩:=heo;exact⟨v,by rw[hbe];exact hv⟩
  ·refine(ok b u q).jw (λc v hc r=>k c v ?_ r) (λc r=>by rw[dY (nown c b r)];exact r) λc xs r=>by rw[dY (ntup c xs r)];exact r
   rcases hc with rfl | hc
   ·exact hbe
   ·rintro rfl
    rcases he with z | z
    ·exact nown c b hc z
    ·rw[hc]at z;cases z;exact hb rfl
end
structure Un(fs ex:List wg)(H H':Hp)(h h':wM):Prop where
 keep:∀b o,h.get? b=some o->H b=none->b ∉ fs->b ∉ ex->h'.get? b=some o
 slot:∀b o,h.get? b=some o->H b=none->b∈fs->b ∉ ex->∃sl,h'.get? b=some {o with slots:=sl}
 free:∀b o,h.get? b=some o->H b=none->b ∉ ex->H' b=none
 there:∀b o,h.get? b=some o->b ∉ ex->∃o',h'.get? b=some o'
 gx:∀b xs,H b=some (.tup xs)->H' b=some (.tup xs)
 fT:∀b o u,H b=some (.eX o u)->H' b=some (.eX o u)
 gy:∀b ps,H b=some (.kq ps)->∃more,H' b=some (.kq (ps++more))
section
variable{fs fs' ex ex':List wg}{H H1 H2:Hp}{h h1 h2 h':wM}{a x e:wg}{o:HO}
theorem Un.any(u:Un fs ex H H1 h h1){b:wg}{ob:Obj}(q:h.get? b=some ob)(n:H b=none)(hx:b ∉ ex):∃sl,h1.get? b=some {ob with slots:=sl}:=by
 by_cases hb:b∈fs
 ·exact u.slot b ob q n hb hx
 ·exact⟨ob.slots,u.keep b ob q n hb hx⟩
theorem Un.kept(k:∀b u,h.get? b=some u->h'.get? b=some u):Un fs ex H H h h' :=
 ⟨λb ob q _ _ _=>k b ob q,λb ob q _ _ _=>⟨ob.slots,k b ob q⟩,λ_ _ _ n _=>n,λb ob q _=>⟨ob,k b ob q⟩,λ_ _ q=>q,λ_ _ _ q=>q,λ_ ps q=>⟨#[],by rw[q];simp⟩⟩
theorem Un.refl:Un fs ex H H h h:=Un.kept λ_ _ q=>q
theorem Un.laid(k:∀b u,h.get? b=some u->h'.get? b=some u)(hp:h.objs.size<=a)(hn:H a=none):Un fs ex H (upd H a o) h h' where
 keep:=λb u q _ _ _=>k b u q
 slot:=λb u q _ _ _=>⟨u.slots,k b u q⟩
 free:=λb u q n _=>by rw[dY (wL (wU (wy q) hp))];exact n
 there:=λb u q _=>⟨u,k b u q⟩
 gx:=λb xs q=>by rw[dY (hZ q hn)];exact q
 fT:=λb u xs q=>by rw[dY (hZ q hn)];exact q
 gy:=λb ps q=>⟨#[],by rw[dY (hZ q hn),q];simp⟩
theorem Un.write(mu:rQ (H x))(he:e=x\/H e=some (.own x))(k:∀b u,b≠e->h.get? b=some u->h'.get? b=some u)(heo:∃u,h'.get? e=some u):Un fs ex H (upd H x o) h h':=by
 have hx:∀b,H b=none->b≠x:=λb n z=>by subst z;rw[n]at mu;exact mu
 have hb:∀b,H b=none->b≠e:=λb n z=>by
  subst z;rcases he with r | r
  ·exact hx b n r
  ·rw[n]at r;cases r
 have hm:∀b u,H b=some u->¬ rQ (some u)->b≠x:=λb u q nm z=>by subst z;rw[q]at mu;exact nm mu
 refine⟨λb u q n _ _=>k b u (hb b n) q,λb u q n _ _=>⟨u.slots,k b u (hb b n) q⟩,λb u q n _=>by rw[dY (hx b n)];exact n,λb u q _=>?_,
  λb xs q=>by rw[dY (hm b _ q λz=>z)];exact q,λb u xs q=>by rw[dY (hm b _ q λz=>z)];exact q,λb ps q=>⟨#[],by rw[dY (hm b _ q λz=>z),q];simp⟩⟩
 by_cases hbe:b=e
 ·subst hbe;exact heo
 ·exact⟨u,k b u hbe q⟩
end
def gT(h:wM)(H:Hp):List wg:=(wt h.objs.size).filter λa=>(H a).isSome
def jP(h:wM)(H:Hp):wM:=XN h (gT h H)
theorem zvd(h:wM)(H:Hp):(jP h H).objs.size=h.objs.size:=PySem.W.hideAll_size _ _
theorem Y_{h:wM}{H:Hp}{b:wg}{o:Obj}(e:h.get? b=some o)(n:H b=none):(jP h H).get? b=some o :=
 xC _ e λhm=>by
  have q:(H b).isSome=true:=(vd.mp hm).2;rw[n]at q;simp at q
theorem Sl{h:wM}{H:Hp}{b:wg}{o:Obj}(e:(jP h H).get? b=some o):h.get? b=some o/\H b=none:=by
 have e':h.get? b=some o:=xN (gT h H) e;refine⟨e',?_⟩;cases q:H b with
 | none=>rfl
 | some x =>
  have hm:b∈gT h H:=vd.mpr ⟨wH.mpr (wy e'),by simp[q]⟩;have z:(jP h H).get? b=none:=PySem.W.hideAll_none (gT h H) hm;rw[z]at e;cases e
def zyG(g h:wM)(L:wg):List (wg × Obj):=(wt h.objs.size).filterMap λa=>if a=L\/(g.get? a).isSome=true then none else(h.get? a).map λo=>(a,o)
def dN(g h:wM)(L d:wg):List (wg × Obj):=(zyG g h L).filter λp=>decide (p.1≠d)
structure Mod(K:wb)(mg:Str->Option wf)(base:wM):Prop where
 lq:K.In base
 glob:base.Ns wK mg
 blt:∃mb,base.Ns builtinsNs mb /\ ∀x:Str,x≠"__name__" -> mb x=vK x
 nolimit:base.NoLimit
structure Cx where
 prog:wO
 w:wR
 K:wb
 mg:Str->Option wf
 base:wM
 A:w6
 N:List Str
 s₀ : wl
 H₀ : Hp
 env:Env
 outer:List Env
 stack:List Env
 ex:List wg
 fn:Str->Bool
 calm:Bool
 pn:List (wg × Obj)
 xe:wf->wl->Prop
def c_(l:List Env):List wg:=l.filterMap (·.frame)
abbrev Cx.fs(X:Cx):List wg:=c_ X.outer
def zw(sc:Scope)(x:Str):Prop:=sc.names.lookup x=some .local\/sc.names.lookup x=some .cell\/sc.names.lookup x=some .free
def Loc(sc:Scope)(x:Str):Prop:=sc.names.lookup x=some .local\/sc.names.lookup x=some .cell
def zCo(env:Env)(h:wM)(m:Str->Option wf)(x:Str)(u:wf):Prop :=
 (env.kindOf x=some .local/\m x=some u)\/((env.kindOf x=some .cell\/env.kindOf x=some .free) /\ ∃c,env.cells.lookup x=some c/\h.IsCell c (some u))
structure Cx.Ok(X:Cx):Prop where
 mod:Mod X.K X.mg X.base
 kind:X.env.scope.kind=.function
 glob:X.env.globals=wK
 blt:X.env.builtins=builtinsNs
 above:X.s₀.heap.objs.size<=X.env.locals
 inj:∀x y c,X.env.cells.lookup x=some c->X.env.cells.lookup y=some c->x=y
 has:∀x,(X.env.kindOf x=some .cell\/X.env.kindOf x=some .free)->∃c,X.env.cells.lookup x=some c
 jT:∀x c,X.fn x=true->X.env.cells.lookup x=some c->X.s₀.heap.objs.size<=c
 hd:X.calm=true->X.A.handled=none
 frames:X.A.frames=some X.stack
 kj:X.stack=X.outer\/(X.stack=X.env::X.outer/\X.env.frame=some X.env.locals)
 nA:∀b∈X.ex,b≠X.env.locals /\ ∀x c,X.env.cells.lookup x=some c->c≠b
 bs:∀b o,X.base.get? b=some o->X.s₀.heap.get? b=some o/\X.H₀ b=none
 gq:X.base.objs.size<=X.s₀.heap.objs.size
 ju:∀b o,X.base.get? b=some o->b ∉ X.ex
 j8:∀b∈X.ex,b ∉ X.fs
 d7:X.s₀.heap.FunFrames X.base X.outer
 gI:∀b∈X.fs,X.H₀ b=none
structure Inv(X:Cx)(pins:List (wg × Obj))(σ : List (Option V))(H:Hp)(s:wl):Prop where
 ok:X.Ok
 os:s.os=X.s₀.os
 bare:AllBare s.gens
 base:Un X.fs X.ex X.H₀ H X.s₀.heap s.heap
 loc:∃m,s.heap.Ns X.env.locals m /\ ∀(i:Nat)(x:Str)(v:V),X.N[i]? = some x -> σ[i]? = some (some v)->zw X.env.scope x->∃u,aX v u/\zCo X.env s.heap m x u
 cell:∀x c,X.env.cells.lookup x=some c->∃v,s.heap.IsCell c v
 free:H X.env.locals=none
 eW:∀x c,X.env.cells.lookup x=some c->H c=none
 pin:∀p∈X.pn++pins,s.heap.get? p.1=some p.2/\H p.1=none/\p.1≠X.env.locals/\p.1 ∉ X.fs /\ ∀v,p.2.data≠.cell v
 aE:cT X.prog X.w H s.heap
 len : σ.length=X.N.length
section
variable{X:Cx}{pins:List (wg × Obj)}{σ : List (Option V)}{H H':Hp}{s:wl}{h':wM}
theorem Cx.Ok.R3(ok:X.Ok){b:wg}{o:Obj}(e:X.base.get? b=some o):b ∉ X.fs:=λhb=>by
 have:=(ok.d7.mem hb).1;rw[e]at this;cases this
theorem Inv.bs(I:Inv X pins σ H s):∀b o,X.base.get? b=some o->s.heap.get? b=some o/\H b=none:=λb o e =>
 ⟨I.base.keep b o (I.ok.bs b o e).1 (I.ok.bs b o e).2 (I.ok.R3 e) (I.ok.ju b o e),I.base.free b o (I.ok.bs b o e).1 (I.ok.bs b o e).2 (I.ok.ju b o e)⟩
theorem Inv.bk(I:Inv X pins σ H s):∀b o,X.base.get? b=some o->s.heap.get? b=some o:=λb o e=>(I.bs b o e).1
theorem Inv.mod(I:Inv X pins σ H s):Mod X.K X.mg X.base:=I.ok.mod
theorem Inv.cW(I:Inv X pins σ H s):X.K.In s.heap:=I.ok.mod.lq.keeps I.bk
theorem Inv.lt(I:Inv X pins σ H s):X.env.locals<s.heap.objs.size:=let ⟨_,hn,_⟩:=I.loc;hn.lt
theorem Inv.sz(I:Inv X pins σ H s):X.s₀.heap.objs.size<=s.heap.objs.size:=Wd I.ok.above (Vh I.lt)
theorem Inv.RX(I:Inv X pins σ H s){a:wg}(h:s.heap.objs.size<=a):a ∉ X.fs:=λhb=>by
 obtain⟨_,o,ho,_⟩:=I.ok.d7.mem hb;exact absurd (wU (wy ho) (Wd I.sz h)) (Vq _)
theorem Inv.iT(I:Inv X pins σ H s):∀x c,X.env.cells.lookup x=some c->c≠X.env.locals:=λx c e z=>by
 obtain⟨v,o,ho,hd⟩:=I.cell x c e;obtain⟨m,⟨o',es,ep,ho',hd',_⟩,_⟩:=I.loc;rw[z,ho']at ho;cases ho;rw[hd']at hd;cases hd
theorem Inv.d7(I:Inv X pins σ H s):s.heap.FunFrames X.base X.outer:=by
 have all:∀(l:List Env),(∀b∈c_ l,b∈X.fs)->X.s₀.heap.FunFrames X.base l->s.heap.FunFrames X.base l:=by
  intro l
  induction l with
  | nil=>intro _ _;trivial
  | cons env r ih =>
   intro hs hl;obtain⟨hk,⟨L,o,hf,hn,ho,hd⟩,hr⟩:=hl;have hL:L∈X.fs:=hs L (by unfold c_;rw[Qb,hf];exact wJ);obtain⟨sl,e⟩:=I.base.slot L o ho (I.ok.gI L hL) hL λz=>I.ok.j8 L z hL
   exact⟨hk,⟨L,_,hf,hn,e,hd⟩,ih (λb hb=>hs b (by unfold c_;rw[Qb,hf];exact wD _ hb)) hr⟩
 exact all X.outer (λ_ hb=>hb) I.ok.d7
theorem Inv.stack(I:Inv X pins σ H s):s.heap.FunFrames X.base X.stack:=by
 rcases I.ok.kj with e | ⟨e,hf⟩
 ·rw[e];exact I.d7
 ·rw[e]
  obtain⟨m,hn,_⟩:=I.loc;refine .cons (by rw[I.ok.kind];decide) hf hn ?_ I.d7;exact Heap.get?_none_of_le (Wd I.ok.gq I.ok.above)
theorem Inv.kK(I:Inv X pins σ H s):∀b∈c_ X.stack,b∈X.env.locals::X.fs:=λb hb=>by
 rcases I.ok.kj with e | ⟨e,hf⟩
 ·rw[e]at hb;exact wD _ hb
 ·rw[e]at hb
  unfold c_ at hb;rw[Qb,hf]at hb;exact hb
theorem Inv.rB(I:Inv X pins σ H s):∀b∈c_ X.stack,H b=none:=λb hb=>by
 rcases wQ.mp (I.kK b hb)with e | hb
 ·rw[e];exact I.free
 ·obtain⟨_,o,ho,_⟩:=I.ok.d7.mem hb
  exact I.base.free b o ho (I.ok.gI b hb) λz=>I.ok.j8 b z hb
theorem Inv.step{g':Array GenState}{t':Nat}{d':Drawn}{ch:List wg}(I:Inv X pins σ H s)
  (hch:∀b∈ch,(b∈X.ex\/X.s₀.heap.objs.size<=b)/\b≠X.env.locals/\(∀x c,X.env.cells.lookup x=some c->c≠b) /\ ∀p∈X.pn++pins,p.1≠b)
  (keep:∀b o,b≠X.env.locals->b ∉ X.fs->b ∉ ch->s.heap.get? b=some o->H b=none->h'.get? b=some o)
  (slot:∀b o,b≠X.env.locals->b∈X.fs->b ∉ ch->s.heap.get? b=some o->H b=none->∃sl,h'.get? b=some {o with slots:=sl}) (free:∀b o,b ∉ ch->s.heap.get? b=some o->H b=none->H' b=none)
  (there:∀b o,b ∉ ch->s.heap.get? b=some o->∃o',h'.get? b=some o')
  (gx:∀b xs,H b=some (.tup xs)->H' b=some (.tup xs)) (fT:∀b o u,H b=some (.eX o u)->H' b=some (.eX o u)) (gy:∀b ps,H b=some (.kq ps)->∃more,H' b=some (.kq (ps++more)))
  (ns:∀m,s.heap.Ns X.env.locals m->h'.Ns X.env.locals m) (aE:cT X.prog X.w H' h') (hg:AllBare g') :
  Inv X pins σ H' {s with heap:=h',gens:=g',drawn:=d',toks:=t'}:=by
 have neL:∀b o,X.s₀.heap.get? b=some o->b≠X.env.locals:=λb o e=>wL (wU (wy e) I.ok.above)
 have neC:∀b o,X.s₀.heap.get? b=some o->b ∉ X.ex->b ∉ ch:=λb o e hx hb=>by
  rcases (hch b hb).1 with z | z
  ·exact hx z
  ·exact absurd (wU (wy e) z) (Vq _)
 have cellK:∀x c,X.env.cells.lookup x=some c->∀v,s.heap.IsCell c v->h'.IsCell c v:=λx c e v ⟨o,ho,hd⟩=>by
  have nch:c ∉ ch:=λz=>(hch c z).2.2.1 x c e rfl
  by_cases hc:c∈X.fs
  ·obtain⟨sl,q⟩:=slot c o (I.iT x c e) hc nch ho (I.eW x c e)
   exact⟨_,q,hd⟩
  ·exact⟨o,keep c o (I.iT x c e) hc nch ho (I.eW x c e),hd⟩
 refine⟨I.ok,I.os,hg,⟨λb o e n hb hx=>?_,λb o e n hb hx=>?_,λb o e n hx=>?_,λb o e hx=>?_,λb xs e=>gx b xs (I.base.gx b xs e),λb o xs e=>fT b o xs (I.base.fT b o xs e),λb ps e=>?_⟩,?_,λx c e=>?_,?_,λx c e=>?_,λp hp=>?_,aE,I.len⟩
 ·exact keep b o (neL b o e) hb (neC b o e hx) (I.base.keep b o e n hb hx) (I.base.free b o e n hx)
 ·obtain⟨sl,e1⟩:=I.base.slot b o e n hb hx
  obtain⟨sl',e2⟩:=slot b _ (neL b o e) hb (neC b o e hx) e1 (I.base.free b o e n hx);exact⟨sl',e2⟩
 ·obtain⟨o',e1⟩:=I.base.there b o e hx
  exact free b o' (neC b o e hx) e1 (I.base.free b o e n hx)
 ·obtain⟨o',e1⟩:=I.base.there b o e hx
  exact there b o' (neC b o e hx) e1
 ·obtain⟨m1,e1⟩:=I.base.gy b ps e
  obtain⟨m2,e2⟩:=gy b _ e1;exact⟨m1++m2,by rw[e2,xO]⟩
 ·obtain⟨m,hn,hl⟩:=I.loc
  refine⟨m,ns m hn,λi x v e1 e2 e3=>?_⟩;obtain⟨u,r,l⟩:=hl i x v e1 e2 e3;refine⟨u,r,?_⟩;rcases l with l | ⟨k,c,e,z⟩
  ·exact .inl l
  ·exact .inr ⟨k,c,e,cellK x c e _ z⟩
 ·obtain⟨v,z⟩:=I.cell x c e
  exact⟨v,cellK x c e v z⟩
 ·obtain⟨m,⟨o,_,_,ho,_⟩,_⟩:=I.loc
  exact free _ o (λz=>(hch _ z).2.1 rfl) ho I.free
 ·obtain⟨v,o,ho,hd⟩:=I.cell x c e
  exact free c o (λz=>(hch c z).2.2.1 x c e rfl) ho (I.eW x c e)
 ·obtain⟨e,n,ne,nf,d⟩:=I.pin p hp
  have nch:p.1 ∉ ch:=λz=>(hch p.1 z).2.2.2 p hp rfl
  exact⟨keep p.1 p.2 ne nf nch e n,free p.1 p.2 nch e n,ne,nf,d⟩
theorem Inv.un{t':Nat}(I:Inv X pins σ H s)(u:Un X.fs [] H H' s.heap h')(aE:cT X.prog X.w H' h'):Inv X pins σ H' {s with heap:=h',toks:=t'}:=by
 obtain⟨m,⟨o,es,ep,ho,r⟩,_⟩:=id I.loc;obtain⟨sl,hL⟩:=u.any ho I.free (by simp)
 exact I.step (g':=s.gens) (d':=s.drawn) (ch:=[]) (λ_ z=>nomatch z) (λb o _ hb _ e n=>u.keep b o e n hb (by simp)) (λb o _ hb _ e n=>u.slot b o e n hb (by simp)) (λb o _ e n=>u.free b o e n (by simp)) (λb o _ e=>u.there b o e (by simp)) u.gx u.fT u.gy (λm' hm=>by
  obtain⟨o',es',ep',ho',r'⟩:=hm;rw[ho]at ho';cases ho';exact⟨_,es',ep',hL,r'⟩) aE I.bare
theorem Inv.call{g':Array GenState}{t':Nat}{d':Drawn}{ch:List wg}(I:Inv X pins σ H s)(u:Un (c_ X.stack) ch H H' s.heap h')(aE:cT X.prog X.w H' h')(hg:AllBare g')
  (hch:∀b∈ch,(b∈X.ex\/X.s₀.heap.objs.size<=b)/\b≠X.env.locals/\(∀x c,X.env.cells.lookup x=some c->c≠b) /\ ∀p∈X.pn++pins,p.1≠b) :
  Inv X pins σ H' {s with heap:=h',gens:=g',drawn:=d',toks:=t'}:=by
 obtain⟨m,⟨o,es,ep,ho,r⟩,_⟩:=id I.loc;obtain⟨sl,hL⟩:=u.any ho I.free λz=>(hch _ z).2.1 rfl
 exact I.step (ch:=ch) hch (λb o hL hb hc e n=>u.keep b o e n (λz=>(wQ.mp (I.kK b z)).elim hL hb) hc) (λb o _ _ hc e n=>u.any e n hc) (λb o hc e n=>u.free b o e n hc) (λb o hc e=>u.there b o e hc) u.gx u.fT u.gy (λm' hm=>by
  obtain⟨o',es',ep',ho',r'⟩:=hm;rw[ho]at ho';cases ho';exact⟨_,es',ep',hL,r'⟩) aE hg
theorem Inv.turned{t':Nat}{it:wg}(I:Inv X pins σ H s)(k:∀b o,b≠it->s.heap.get? b=some o->h'.get? b=some o)(hn:H it=none)(hL:it≠X.env.locals)
  (h1:it∈X.ex\/X.s₀.heap.objs.size<=it) (h2:∀x c,X.env.cells.lookup x=some c->c≠it) (h3:∀p∈X.pn++pins,p.1≠it):Inv X pins σ H {s with heap:=h',toks:=t'}:=by
 have nit:∀b u,H b=some u->b≠it:=λb u e z=>by rw[z,hn]at e;cases e
 refine I.step (g':=s.gens) (d':=s.drawn) (ch:=[it]) (λb hb=>?_) (λb o _ _ hc e _=>k b o (λz=>hc (by simp[z])) e) (λb o _ _ hc e _=>⟨o.slots,k b o (λz=>hc (by simp[z])) e⟩) (λ_ _ _ _ n=>n)
  (λb o hc e=>⟨o,k b o (λz=>hc (by simp[z])) e⟩) (λ_ _ e=>e) (λ_ _ _ e=>e) (λb ps e=>⟨#[],by rw[e];simp⟩) (λm hm=>?_) (λb u e=>?_) I.bare
 ·have e:b=it:=by simpa using hb
  subst e;exact⟨h1,hL,h2,h3⟩
 ·obtain⟨o,es,ep,ho,r⟩:=hm
  exact⟨o,es,ep,k _ o (We hL) ho,r⟩
 ·refine(I.aE b u e).jw (λc v hc q=>k c v ?_ q) (λ_ q=>q) λ_ _ q=>q
  rcases hc with z | z
  ·rw[z];exact nit b u e
  ·exact nit c _ z
theorem Inv.tok(I:Inv X pins σ H s)(t:Nat):Inv X pins σ H {s with toks:=t}:=I.un (h':=s.heap) (t':=t) Un.refl I.aE
theorem Inv.kept{t':Nat}(I:Inv X pins σ H s)(k:∀b u,s.heap.get? b=some u->h'.get? b=some u):Inv X pins σ H {s with heap:=h',toks:=t'}:=I.un (Un.kept k) (I.aE.kept k)
theorem Inv.laid{a:wg}{o:HO}{t':Nat}(I:Inv X pins σ H s)(k:∀b u,s.heap.get? b=some u->h'.get? b=some u)(hp:s.heap.objs.size<=a)(new:dq X.prog X.w (upd H a o) h' a o) :
  Inv X pins σ (upd H a o) {s with heap:=h',toks:=t'}:=I.un (Un.laid k hp (I.aE.fresh hp)) (I.aE.laid k hp new)
theorem Inv.write{x e:wg}{o:HO}{t':Nat}(I:Inv X pins σ H s)(mu:rQ (H x))(he:e=x\/H e=some (.own x))(k:∀b u,b≠e->s.heap.get? b=some u->h'.get? b=some u)(heo:∃u,h'.get? e=some u)
  (new:dq X.prog X.w (upd H x o) h' x o):Inv X pins σ (upd H x o) {s with heap:=h',toks:=t'}:=I.un (Un.write mu he k heo) (I.aE.write mu he k heo new)
theorem Inv.G3{pins':List (wg × Obj)}(I:Inv X pins σ H s)(h:∀p∈pins',s.heap.get? p.1=some p.2/\H p.1=none/\p.1≠X.env.locals/\p.1 ∉ X.fs /\ ∀v,p.2.data≠.cell v):Inv X pins' σ H s :=
 ⟨I.ok,I.os,I.bare,I.base,I.loc,I.cell,I.free,I.eW,λp hp=>(vX.mp hp).elim (λz=>I.pin p (Wf _ z)) (h p),I.aE,I.len⟩
theorem Ah{N:List Str}(hN:N.Nodup){i j:Nat}{x:Str}(a:N[i]? = some x)(b:N[j]? = some x):i=j:=by
 obtain⟨h1,e1⟩:=WU.mp a;obtain⟨h2,e2⟩:=WU.mp b;exact(List.getElem_inj hN).mp (e1.trans e2.symm)
theorem Cy{M:Model}{A:w6}{E:wf->wl->Prop}{i:Nat}{x:Str}{v:V}{u:wf}{Q:Unit->wl->Prop}(I:Inv X pins σ H s)(hN:X.N.Nodup)(hi:X.N[i]? = some x)(hx:Loc X.env.scope x)(r:aX v u)
  (h:∀s',Inv X pins (σ.set i (some v)) H s'->(∃a,vB a s.heap s'.heap/\(a=X.env.locals\/X.env.cells.lookup x=some a))->Q () s') (hf:X.fn x=true\/X.env.scope.names.lookup x=some .local:=by first | exact .inl rfl | exact .inr rfl | assumption):wq M A (storeName X.env x u) Q E s:=by
 obtain⟨m,hn,hl⟩:=id I.loc;have hcls:(X.env.scope.kind == .class || (X.env.scope.kind == .module&&X.env.locals != X.env.globals))=false:=by rw[I.ok.kind];rfl
 have hiσ : i < σ.length:=by rw[I.len];exact(WU.mp hi).1
 have iT:=I.iT
 have tracked:∀{a:wg}{h':wM},(∃o,s.heap.get? a=some o/\H a=none)->vB a s.heap h'->cT X.prog X.w H h':=λ{a h'} ha hs b ob e=>by
  obtain⟨_,_,hfree⟩:=ha;refine(I.aE b ob e).jw (λc w' hc q=>(hs.2 c ?_).trans q) (λ_ q=>q) λ_ _ q=>q
  rintro rfl;rcases hc with rfl | hc
  ·rw[hfree]at e;cases e
  ·rw[hfree]at hc;cases hc
 rcases hx with hk | hk
 ·refine wpAny_storeName_local hk hn (λh' hn' hs=>?_) hcls
  obtain⟨oL,_,_,hoL,_⟩:=id hn;refine h _ ⟨I.ok,I.os,I.bare,⟨λb o e n hb hx=>?_,λb o e n hb hx=>?_,I.base.free,λb o e hx=>?_,I.base.gx,I.base.fT,I.base.gy⟩,⟨_,hn',λj y v' e1 e2 e3=>?_⟩,λy c e=>?_,I.free,I.eW,λp hp=>?_,tracked ⟨oL,hoL,I.free⟩ hs,by simpa using I.len⟩ ⟨_,hs,.inl rfl⟩
  ·exact(hs.2 b (wL (wU (wy e) I.ok.above))).trans (I.base.keep b o e n hb hx)
  ·obtain⟨sl,e1⟩:=I.base.slot b o e n hb hx
   exact⟨sl,(hs.2 b (wL (wU (wy e) I.ok.above))).trans e1⟩
  ·obtain⟨o',e1⟩:=I.base.there b o e hx
   exact⟨o',(hs.2 b (wL (wU (wy e) I.ok.above))).trans e1⟩
  ·by_cases hj:j=i
   ·subst hj
    rw[hi]at e1;cases e1;rw[QZ hiσ]at e2;cases e2;exact⟨u,r,.inl ⟨hk,by simp⟩⟩
   ·rw[qS (We hj)]at e2
    obtain⟨u',r',q⟩:=hl j y v' e1 e2 e3;refine⟨u',r',?_⟩;rcases q with⟨k,e⟩ | ⟨k,c,e,z⟩
    ·refine .inl ⟨k,?_⟩
     have:y≠x:=λe=>hj (Ah hN e1 (e ▸ hi))
     simp[this,e]
    ·exact .inr ⟨k,c,e,z.sameBut hs (iT y c e)⟩
  ·obtain⟨w',z⟩:=I.cell y c e
   exact⟨w',z.sameBut hs (iT y c e)⟩
  ·obtain⟨e,n,ne,nf,d⟩:=I.pin p hp
   exact⟨(hs.2 p.1 ne).trans e,n,ne,nf,d⟩
 ·have hfn:X.fn x=true:=by
   rcases hf with z | z
   ·exact z
   ·rw[z]at hk;cases hk
  obtain⟨c,hc⟩:=I.ok.has x (.inl hk);obtain⟨w',z⟩:=I.cell x c hc;refine wpAny_storeName_cell I.ok.kind hk hc z (λh' hc' hs=>?_);obtain⟨oc,hoc,hocd⟩:=id z;refine h {s with heap:=h'} ⟨I.ok,I.os,I.bare,⟨λb o e n hb hx=>?_,λb o e n hb hx=>?_,I.base.free,λb o e hx=>?_,I.base.gx,I.base.fT,I.base.gy⟩,⟨m,hn.sameBut hs (We (iT x c hc)),λj y v' e1 e2 e3=>?_⟩,λy c' e=>?_,I.free,I.eW,λp hp=>?_,tracked ⟨oc,hoc,I.eW x c hc⟩ hs,by simpa using I.len⟩ ⟨c,hs,.inr hc⟩
  ·exact(hs.2 b (wL (wU (wy e) (I.ok.jT x c hfn hc)))).trans (I.base.keep b o e n hb hx)
  ·obtain⟨sl,e1⟩:=I.base.slot b o e n hb hx
   exact⟨sl,(hs.2 b (wL (wU (wy e) (I.ok.jT x c hfn hc)))).trans e1⟩
  ·obtain⟨o',e1⟩:=I.base.there b o e hx
   exact⟨o',(hs.2 b (wL (wU (wy e) (I.ok.jT x c hfn hc)))).trans e1⟩
  ·by_cases hj:j=i
   ·subst hj
    rw[hi]at e1;cases e1;rw[QZ hiσ]at e2;cases e2;exact⟨u,r,.inr ⟨.inl hk,c,hc,hc'⟩⟩
   ·rw[qS (We hj)]at e2
    obtain⟨u',r',q⟩:=hl j y v' e1 e2 e3;refine⟨u',r',?_⟩;rcases q with q | ⟨k,c',e,z'⟩
    ·exact .inl q
    ·refine .inr ⟨k,c',e,z'.sameBut hs ?_⟩
     rintro rfl;exact hj (Ah hN e1 (I.ok.inj _ _ _ e hc ▸ hi))
  ·by_cases hcc:c'=c
   ·subst hcc;exact⟨_,hc'⟩
   ·obtain⟨w2,z2⟩:=I.cell y c' e
    exact⟨w2,z2.sameBut hs hcc⟩
  ·obtain⟨e,n,ne,nf,d⟩:=I.pin p hp
   refine⟨(hs.2 p.1 ?_).trans e,n,ne,nf,d⟩;intro q;rw[q,hoc]at e;have q':oc=p.2:=wP e;exact d w' (by rw[<- q'];exact hocd)
theorem mq{M:Model}{A:w6}{E:wf->wl->Prop}{i:Nat}{x:Str}{v:V}{u:wf}{Q:Unit->wl->Prop}(I:Inv X pins σ H s)(hN:X.N.Nodup)(hi:X.N[i]? = some x)(hx:Loc X.env.scope x)(r:aX v u)
  (h:∀s',Inv X pins (σ.set i (some v)) H s'->Q () s') (hf:X.fn x=true\/X.env.scope.names.lookup x=some .local:=by first | exact .inl rfl | exact .inr rfl | assumption):wq M A (storeName X.env x u) Q E s :=
 Cy I hN hi hx r (λs' I' _=>h s' I') hf
theorem Inv.Hc{s':wl}{ch:List wg}(I:Inv X pins σ H s)(ho:s'.os=s.os)(u:Un (c_ X.stack) ch H H' s.heap s'.heap)(aE:cT X.prog X.w H' s'.heap)(hg:AllBare s'.gens)
  (hch:∀b∈ch,(b∈X.ex\/X.s₀.heap.objs.size<=b)/\b≠X.env.locals/\(∀x c,X.env.cells.lookup x=some c->c≠b) /\ ∀p∈X.pn++pins,p.1≠b):Inv X pins σ H' s':=by
 obtain⟨h',g',d',t',o'⟩:=s';have e:o'=s.os:=ho;subst e;exact I.call (g':=g') (t':=t') (d':=d') u aE hg hch
end
abbrev XK:=wf->Option wg->Hp->Prop
abbrev St:=List (Option V)
abbrev VK:=V->Hp->Prop
abbrev TE:=St->Hp->VK->Prop
abbrev TT:=St->Hp->(Bool->Hp->Prop)->Prop
abbrev TA:=St->Hp->(List V->Hp->Prop)->Prop
structure cj where
 nx:St->Hp->Prop
 rt:VK
 bk:St->Hp->Prop:=λ_ _=>False
 ct:St->Hp->Prop:=λ_ _=>False
abbrev TS:=cj->St->Hp->Prop
def EP(X:Cx)(pins:List (wg × Obj))(σ : St)(Q:VK)(u:wf)(s':wl):Prop:=∃v H',Inv X pins σ H' s'/\aX v u/\Q v H'
def TP(X:Cx)(pins:List (wg × Obj))(σ : St)(Q:Bool->Hp->Prop)(b:Bool)(s':wl):Prop:=∃H',Inv X pins σ H' s'/\Q b H'
def AP(X:Cx)(pins:List (wg × Obj))(σ : St)(Q:List V->Hp->Prop)(us:List wf)(s':wl):Prop:=∃vs H',Inv X pins σ H' s'/\aK vs us/\Q vs H'
def SP(X:Cx)(pins:List (wg × Obj))(D:cj)(f:Flow)(s':wl):Prop :=
 match f with
 | .next=>∃σ' H',Inv X pins σ' H' s'/\D.nx σ' H'
 | .brk=>∃σ' H',Inv X pins σ' H' s'/\D.bk σ' H'
 | .cont=>∃σ' H',Inv X pins σ' H' s'/\D.ct σ' H'
 | .ret u=>∃v σ' H',Inv X pins σ' H' s'/\aX v u/\D.rt v H'
def PE(X:Cx)(e:Expr)(t:TE):Prop :=
 ∀(pins:List (wg × Obj))(s:wl)(σ : St)(H:Hp)(Q:VK),Inv X pins σ H s->t σ H Q->wq (model X.prog X.w) X.A (eval e X.env) (EP X pins σ Q) X.xe s
def PT(X:Cx)(e:Expr)(t:TT):Prop :=
 ∀(pins:List (wg × Obj))(s:wl)(σ : St)(H:Hp)(Q:Bool->Hp->Prop),Inv X pins σ H s->t σ H Q->wq (model X.prog X.w) X.A (isTrue e X.env (eval e X.env)) (TP X pins σ Q) X.xe s
def PW(X:Cx)(e:Expr)(t:TT):Prop :=
 ∀(whole:Sem wf)(pins:List (wg × Obj))(s:wl)(σ : St)(H:Hp)(Q:Bool->Hp->Prop),Inv X pins σ H s->t σ H Q->wq (model X.prog X.w) X.A (isTrue e X.env whole) (TP X pins σ Q) X.xe s
theorem PW.pt{X:Cx}{e:Expr}{t:TT}(h:PW X e t):PT X e t:=h _
def PA(X:Cx)(es:List Expr)(t:TA):Prop :=
 ∀(pos:Pos)(pins:List (wg × Obj))(s:wl)(σ : St)(H:Hp)(Q:List V->Hp->Prop),Inv X pins σ H s->t σ H Q->wq (model X.prog X.w) X.A (spliced (WV pos (w5 es X.env))) (AP X pins σ Q) X.xe s
def PS(X:Cx)(st:ve)(t:TS):Prop :=
 ∀(pins:List (wg × Obj))(s:wl)(σ : St)(H:Hp)(D:cj),Inv X pins σ H s->t D σ H->wq (model X.prog X.w) X.A (exec st X.env) (SP X pins D) X.xe s
def eQ(X:Cx)(st:List ve)(t:TS):Prop :=
 ∀(pins:List (wg × Obj))(s:wl)(σ : St)(H:Hp)(D:cj),Inv X pins σ H s->t D σ H->wq (model X.prog X.w) X.A (execs st X.env) (SP X pins D) X.xe s
theorem aH{α : Type}{t:Sem α}{Q Q' : α -> wl->Prop}{M:Model}{A:w6}{E:wf->wl->Prop}{s:wl}(h:wq M A t Q E s)(hQ:∀a s,Q a s->Q' a s):wq M A t Q' E s:=Wr h hQ λ_ _ x=>x
section
variable{X:Cx}
def lG(i:Nat):TE:=λσ H Q=>∃v,σ[i]? = some (some v)/\Q v H
def tC(v:V):TE:=λ_ H Q=>Q v H
theorem Zk{i:Nat}{x:Str}{pos:Pos}(hN:X.N[i]? = some x)(hv:zw X.env.scope x)(hd:(x == ("__debug__" : Str))=false:=by decide)(hcd:(x == ("__classdict__" : Str))=false:=by decide):PE X (.Name x pos) (lG i):=by
 intro pins s σ H Q I h;obtain⟨v,e,h⟩:=h;obtain⟨m,hn,hl⟩:=I.loc;obtain⟨u,r,l⟩:=hl i x v hN e hv;have fin:EP X pins σ Q u s:=⟨v,H,I,r,h⟩;rcases l with⟨hk,hm⟩ | ⟨hk,c,hc,hcell⟩
 ·exact wpAny_Name (wpAny_loadName_local I.ok.kind hk hn hm fin) hd
 ·rcases hk with hk | hk
  ·exact wpAny_Name (wpAny_loadName_cell I.ok.kind hk hc hcell fin) hd
  ·exact wpAny_Name (wpAny_loadName_free I.ok.kind hk hc hcell fin hcd) hd
theorem az{i j pos} : PE X (.Constant (.int i) j pos) (tC (.int i)):=λ_ _ _ H _ I h=>wpAny_Constant_int ⟨.int i,H,I.tok _,⟨_,rfl⟩,h⟩
theorem iU{b j pos} : PE X (.Constant (.bool b) j pos) (tC (.bl b)):=λ_ _ _ H _ I h=>Constant_bool ⟨.bl b,H,I,rfl,h⟩
theorem jV{j pos} : PE X (.Constant .none j pos) (tC .bM):=λ_ _ _ H _ I h=>Constant_none ⟨.bM,H,I,rfl,h⟩
theorem cz{x j pos} : PE X (.Constant (.str x) j pos) (tC (.str x)):=λ_ _ _ H _ I h=>Calls.Constant_str ⟨.str x,H,I.tok _,⟨_,rfl⟩,h⟩
def Gl(X:Cx)(x:Str):Prop:=X.env.kindOf x=some .globalImplicit
theorem mz{E:wf->wl->Prop}{pins:List (wg × Obj)}{s:wl}{σ : St}{H:Hp}{x:Str}{u:wf}{pos:Pos}{Q:wf->wl->Prop}(I:Inv X pins σ H s)(hg:Gl X x)(hm:X.mg x=some u)(h:Q u s)
  (hd:(x == ("__debug__" : Str))=false:=by decide):wq (model X.prog X.w) X.A (eval (.Name x pos) X.env) Q E s :=
 Qp I.ok.kind hg (Calls.loadGlobal_global (by rw[I.ok.glob];exact I.mod.glob.keeps I.bk) hm h) hd
theorem gb{E:wf->wl->Prop}{pins:List (wg × Obj)}{s:wl}{σ : St}{H:Hp}{x:Str}{u:wf}{pos:Pos}{Q:wf->wl->Prop}(I:Inv X pins σ H s)(hg:Gl X x)(hm:X.mg x=none)(hv:vK x=some u)(h:Q u s)
  (hn:x≠"__name__":=by decide) (hd:(x == ("__debug__" : Str))=false:=by decide):wq (model X.prog X.w) X.A (eval (.Name x pos) X.env) Q E s:=by
 obtain⟨mb,h1,h2⟩:=I.mod.blt;exact Qp I.ok.kind hg (Calls.loadGlobal_builtin (by rw[I.ok.glob];exact I.mod.glob.keeps I.bk) hm (by rw[I.ok.blt];exact h1.keeps I.bk) ((h2 x hn).trans hv) h) hd
theorem bL{x:Str}{v:V}{u:wf}{pos:Pos}(hg:Gl X x)(hm:X.mg x=some u)(r:aX v u)(hd:(x == ("__debug__" : Str))=false:=by decide):PE X (.Name x pos) (tC v) :=
 λ_ _ _ H _ I h=>mz I hg hm ⟨v,H,I,r,h⟩ hd
theorem k9{x:Str}{v:V}{u:wf}{pos:Pos}(hg:Gl X x)(hm:X.mg x=none)(hv:vK x=some u)(r:aX v u)(hn:x≠"__name__":=by decide)(hd:(x == ("__debug__" : Str))=false:=by decide):PE X (.Name x pos) (tC v) :=
 λ_ _ _ H _ I h=>gb I hg hm hv ⟨v,H,I,r,h⟩ hn hd
def t2I(ta tb:TE)(k:Int->Int->Hp->Prop):St->Hp->Prop:=λσ H=>ta σ H λx H1=>tb σ H1 λy H2=>∃i j,x=.int i/\y=.int j/\k i j H2
variable{a b:Expr}{ta tb:TE}{pos:Pos}
def mW(p:Int->Int->Bool)(ta tb:TE):TE:=λσ H Q=>t2I ta tb (λi j H2=>Q (.bl (p i j)) H2) σ H
abbrev tLt:TE->TE->TE:=mW λi j=>decide (i<j)
abbrev tLe:TE->TE->TE:=mW λi j=>decide (i<=j)
abbrev tGt:TE->TE->TE:=mW λi j=>decide (j<i)
abbrev tGe:TE->TE->TE:=mW λi j=>decide (j<=i)
abbrev zCx:TE->TE->TE:=mW λi j=>decide (i=j)
abbrev zCC:TE->TE->TE:=mW λi j=>!decide (i=j)
def tB(t:TE):TT:=λσ H Q=>t σ H λx H1=>∃c,x=.bl c/\Q c H1
theorem cR{e:Expr}{t:TE}(h:PE X e t)(he:∀whole,isTrue e X.env whole=(do let v <- whole;standAt e.pos;holding [v] (truthy v)):=by intro _;rfl):PT X e (tB t):=by
 intro pins s σ H Q I hw;refine isTrue_plain (aH (h pins s σ H _ I hw) λv s1 ⟨x,H1,I1,r1,q1⟩=>?_) (he _);obtain⟨d,rfl,q⟩:=q1;cases r1;exact Wn ⟨H1,I1,q⟩
variable{tA tB':TT}{dN:List Expr}
def NJ(t u:TT):TT:=λσ H Q=>t σ H λc H1=>if c=true then u σ H1 Q else Q false H1
def Pu(t u:TT):TT:=λσ H Q=>t σ H λc H1=>if c=true then Q true H1 else u σ H1 Q
def Nb(t:TT):TT:=λσ H Q=>t σ H λc H1=>Q (!c) H1
theorem BC(ha:PT X a tA):PW X (.BoolOp .And [a] pos) tA:=by
 intro wh pins s σ H Q I h;refine isTrue_and (aH (ha pins s σ H Q I h) λc s1 e=>?_);cases c with
 | true=>exact isTrue_and_nil e
 | false=>exact e
theorem lE(ha:PT X a tA):PW X (.BoolOp .Or [a] pos) tA:=by
 intro wh pins s σ H Q I h;refine isTrue_or (aH (ha pins s σ H Q I h) λc s1 e=>?_);cases c with
 | false=>exact isTrue_or_nil e
 | true=>exact e
theorem zl(ha:PT X a tA)(hb:PW X (.BoolOp .And (b::dN) pos) tB'):PW X (.BoolOp .And (a::b::dN) pos) (NJ tA tB'):=by
 intro wh pins s σ H Q I h;refine isTrue_and (aH (ha pins s σ H _ I h) λc s1 ⟨H1,I1,q1⟩=>?_);cases c with
 | true=>exact hb wh pins s1 σ H1 Q I1 q1
 | false=>exact⟨H1,I1,q1⟩
theorem kR(ha:PT X a tA)(hb:PW X (.BoolOp .Or (b::dN) pos) tB'):PW X (.BoolOp .Or (a::b::dN) pos) (Pu tA tB'):=by
 intro wh pins s σ H Q I h;refine isTrue_or (aH (ha pins s σ H _ I h) λc s1 ⟨H1,I1,q1⟩=>?_);cases c with
 | true=>exact⟨H1,I1,q1⟩
 | false=>exact hb wh pins s1 σ H1 Q I1 q1
theorem dS(ha:PT X a tA):PT X (.UnaryOp .Not a pos) (Nb tA):=by
 intro pins s σ H Q I h;exact isTrue_not (ha pins s σ H (λc H1=>Q (!c) H1) I h)
def NN(ta tb:TE):TE:=λσ H Q=>ta σ H λx H1=>∃c,x=.bl c/\if c=true then tb σ H1 Q else Q (.bl false) H1
def IX(ta tb:TE):TE:=λσ H Q=>ta σ H λx H1=>∃c,x=.bl c/\if c=true then Q (.bl true) H1 else tb σ H1 Q
def Ie(ta:TE):TE:=λσ H Q=>ta σ H λx H1=>∃c,x=.bl c/\Q (.bl (!c)) H1
theorem gn{op}{t:TE}(h:PE X a t):PE X (.BoolOp op [a] pos) t:=λpins s σ H Q I hw=>BoolOp_one (h pins s σ H Q I hw)
theorem fL(ha:PE X a ta)(hb:PE X (.BoolOp .And (b::dN) pos) tb):PE X (.BoolOp .And (a::b::dN) pos) (NN ta tb):=by
 intro pins s σ H Q I h;refine BoolOp_and (aH (ha pins s σ H _ I h) λv s1 ⟨x,H1,I1,r1,q1⟩=>?_);obtain⟨c,rfl,q1⟩:=q1;cases r1;refine Wn ?_;cases c with
 | true=>exact hb pins s1 σ H1 Q I1 q1
 | false=>exact⟨.bl false,H1,I1,rfl,q1⟩
theorem oM(ha:PE X a ta)(hb:PE X (.BoolOp .Or (b::dN) pos) tb):PE X (.BoolOp .Or (a::b::dN) pos) (IX ta tb):=by
 intro pins s σ H Q I h;refine BoolOp_or (aH (ha pins s σ H _ I h) λv s1 ⟨x,H1,I1,r1,q1⟩=>?_);obtain⟨c,rfl,q1⟩:=q1;cases r1;refine Wn ?_;cases c with
 | false=>exact hb pins s1 σ H1 Q I1 q1
 | true=>exact⟨.bl true,H1,I1,rfl,q1⟩
theorem m_(ha:PE X a ta):PE X (.UnaryOp .Not a pos) (Ie ta):=by
 intro pins s σ H Q I h;refine UnaryOp_ (aH (ha pins s σ H _ I h) λv s1 ⟨x,H1,I1,r1,q1⟩=>?_);obtain⟨c,rfl,q1⟩:=q1;cases r1;exact not_of (Wn ⟨.bl (!c),H1,I1,rfl,q1⟩)
def Jf(t:TT)(ta tb:TE):TE:=λσ H Q=>t σ H λc H1=>if c=true then ta σ H1 Q else tb σ H1 Q
theorem rR{c:Expr}(hc:PT X c tA)(ha:PE X a ta)(hb:PE X b tb):PE X (.IfExp c a b pos) (Jf tA ta tb):=by
 intro pins s σ H Q I h;refine wpAny_IfExp (aH (hc pins s σ H _ I h) λd s1 ⟨H1,I1,q1⟩=>?_);cases d with
 | true=>exact ha pins s1 σ H1 Q I1 q1
 | false=>exact hb pins s1 σ H1 Q I1 q1
end
def aI(K:wb)(H:Hp)(a:wg)(xs:List V):Prop :=
 Rd H a (.lst xs) \/
  ∃(o:Obj)(its:Array wf)(n:Nat),K.lookup a=some o/\o.cls=.type "list"/\o.dict=none/\o.data=.seq its n/\its.size<=w8/\aK xs its.toList
def aU(K:wb)(H:Hp)(a:wg)(xs:List V):Prop :=
 Rd H a (.tup xs) \/
  ∃(o:Obj)(its:Array wf)(n:Nat),K.lookup a=some o/\o.cls=.type "tuple"/\o.data=.seq its n/\its.size<=w8/\aK xs its.toList
def US:wf->Option V
 | .none=>some .bM
 | .bool b=>some (.bl b)
 | .int i _=>some (.int i)
 | .str x _=>some (.str x)
 | .bytes b _=>some (.byt b)
 | .float b _=>some (.kO b)
 | .ref a=>some (.ref a)
 | .type n=>some (.ty n)
 | _=>none
theorem aX.abs{x:V}{u:wf}(r:aX x u):US u=some x:=by
 cases x with
 | bM=>cases r;rfl
 | bl _=>cases r;rfl
 | int _=>obtain⟨t,rfl⟩:=r;rfl
 | str _=>obtain⟨t,rfl⟩:=r;rfl
 | byt _=>obtain⟨t,rfl⟩:=r;rfl
 | kO _=>obtain⟨t,rfl⟩:=r;rfl
 | ref _=>cases r;rfl
 | ty _=>cases r;rfl
theorem aX.inj{x y:V}{u:wf}(r:aX x u)(q:aX y u):x=y:=wP (r.abs.symm.trans q.abs)
theorem aK.inj:∀{xs ys:List V}{us:List wf},aK xs us->aK ys us->xs=ys
 | _,_,_,.nil,.nil=>rfl
 | _,_,_,.cons r t,.cons r' t'=>by rw[r.inj r',aK.inj t t']
section
variable{X:Cx}{pins:List (wg × Obj)}{σ : St}{H:Hp}{s:wl}{a:wg}{xs ys:List V}
theorem aI.of{K:wb}(h:H a=some (.lst xs)):aI K H a xs:=.inl (.inl h)
theorem aU.of{K:wb}(h:H a=some (.tup xs)):aU K H a xs:=.inl (.inl h)
theorem Inv.list(I:Inv X pins σ H s)(h:aI X.K H a xs):∃its:List wf,aK xs its/\PlainL s.heap a its.toArray/\xs.length<=w8:=by
 rcases h with h | ⟨o,its,n,hk,hc,hd,hs,hz,r⟩
 ·obtain⟨z,its,n,r,e⟩:=h.ok I.aE
  exact⟨its,r,⟨_,n,e,rfl,rfl,rfl⟩,z⟩
 ·refine⟨its.toList,r,⟨o,n,I.cW a o hk,hc,hd,by simpa using hs⟩,?_⟩
  have e:=r.length;simp only[W0]at e
  lia
theorem Inv.tuple(I:Inv X pins σ H s)(h:aU X.K H a xs):∃its:List wf,aK xs its/\IsTup s.heap a its.toArray/\xs.length<=w8:=by
 rcases h with h | ⟨o,its,n,hk,hc,hs,hz,r⟩
 ·obtain⟨z,its,r,p⟩:=h.ok I.aE
  exact⟨its,r,p,z⟩
 ·refine⟨its.toList,r,⟨o,I.cW a o hk,hc,n,by simpa using hs⟩,?_⟩
  have e:=r.length;simp only[W0]at e
  lia
theorem Inv.rn(I:Inv X pins σ H s)(h:aI X.K H a xs)(h':aI X.K H a ys):xs=ys:=by
 obtain⟨its,r,⟨o,n,e,_,_,d⟩,_⟩:=I.list h;obtain⟨its',r',⟨o',n',e',_,_,d'⟩,_⟩:=I.list h';rw[e]at e';cases e';rw[d]at d'
 injection d' with d1 _
 have:its=its':=by simpa using congrArg uo d1
 subst this;exact r.inj r'
theorem Inv.zS(I:Inv X pins σ H s)(h:aU X.K H a xs)(h':aU X.K H a ys):xs=ys:=by
 obtain⟨its,r,⟨o,e,_,n,d⟩,_⟩:=I.tuple h;obtain⟨its',r',⟨o',e',_,n',d'⟩,_⟩:=I.tuple h';rw[e]at e';cases e';rw[d]at d'
 injection d' with d1 _
 have:its=its':=by simpa using congrArg uo d1
 subst this;exact r.inj r'
end
abbrev Cx.iK(X:Cx)(E:wf->wl->Prop):Cx:={X with xe:=E}
abbrev Cx.zu(X:Cx):Cx:=X.iK λ_ _=>False
theorem Cx.Ok.iK{X:Cx}(ok:X.Ok)(E:wf->wl->Prop):(X.iK E).Ok :=
 ⟨ok.mod,ok.kind,ok.glob,ok.blt,ok.above,ok.inj,ok.has,ok.jT,ok.hd,ok.frames,ok.kj,ok.nA,ok.bs,ok.gq,ok.ju,ok.j8,ok.d7,ok.gI⟩
theorem Cx.Ok.j7{X:Cx}{E:wf->wl->Prop}(ok:(X.iK E).Ok):X.Ok :=
 ⟨ok.mod,ok.kind,ok.glob,ok.blt,ok.above,ok.inj,ok.has,ok.jT,ok.hd,ok.frames,ok.kj,ok.nA,ok.bs,ok.gq,ok.ju,ok.j8,ok.d7,ok.gI⟩
section
variable{X:Cx}{pins:List (wg × Obj)}{σ : St}{H:Hp}{s:wl}{E:wf->wl->Prop}
theorem Inv.iK(I:Inv X pins σ H s)(E:wf->wl->Prop):Inv (X.iK E) pins σ H s:=⟨I.ok.iK E,I.os,I.bare,I.base,I.loc,I.cell,I.free,I.eW,I.pin,I.aE,I.len⟩
theorem Inv.j7(I:Inv (X.iK E) pins σ H s):Inv X pins σ H s:=⟨I.ok.j7,I.os,I.bare,I.base,I.loc,I.cell,I.free,I.eW,I.pin,I.aE,I.len⟩
theorem SP.j7{D:cj}{f:Flow}{s':wl}(h:SP (X.iK E) pins D f s'):SP X pins D f s':=by
 cases f with
 | next=>obtain⟨σ',H',I,q⟩:=h;exact⟨σ',H',I.j7,q⟩
 | brk=>obtain⟨σ',H',I,q⟩:=h;exact⟨σ',H',I.j7,q⟩
 | cont=>obtain⟨σ',H',I,q⟩:=h;exact⟨σ',H',I.j7,q⟩
 | ret u=>obtain⟨v,σ',H',I,r,q⟩:=h;exact⟨v,σ',H',I.j7,r,q⟩
theorem eQ.zu{st:List ve}{t:TS}(h:eQ X.zu st t):eQ X st t:=λpins s σ H D I hw =>
 Wr (h pins s σ H D (I.iK _) hw) (λ_ _ q=>q.j7) λ_ _ z=>Wp z
end
section
variable{X:Cx}{st:ve}{dN:List ve}{t u:TS}{e:Expr}{te:TE}{pos:Pos}
def Pb:TS:=λD σ H=>D.nx σ H
def AH(t u:TS):TS:=λD σ H=>t {D with nx:=u D} σ H
theorem b9:eQ X [] Pb:=λ_ _ σ H _ I h=>qt ⟨σ,H,I,h⟩
theorem ak(h1:PS X st t)(h2:eQ X dN u):eQ X (st::dN) (AH t u):=by
 intro pins s σ H D I h;refine wpAny_execs_cons (aH (h1 pins s σ H {D with nx:=u D} I h) λf s1 q=>?_);cases f with
 | next =>
  obtain⟨σ',H',I',q⟩:=q;exact h2 pins s1 σ' H' D I' q
 | ret v=>exact q
 | brk=>exact q
 | cont=>exact q
theorem av(h1:PS X st t):eQ X [st] t:=by
 intro pins s σ H D I h;refine wpAny_execs_cons (aH (h1 pins s σ H D I h) λf s1 q=>?_);cases f with
 | next=>exact qt q
 | ret v=>exact q
 | brk=>exact q
 | cont=>exact q
theorem Inv.quiet{pins:List (wg × Obj)}{σ : St}{H:Hp}{s:wl}(I:Inv X pins σ H s):interactive X.env=false:=by simp[interactive,I.ok.kind]
def JT(te:TE):TS:=λD σ H=>te σ H λ_ H1=>D.nx σ H1
theorem jL(he:PE X e te)(hs:swapsWith e none pos.line X.env=pure false:=by rfl):PS X (.Expr e pos) (JT te):=by
 intro pins s σ H D I h;exact wpAny_Expr_any (aH (he pins s σ H _ I h) λv s1 ⟨x,H1,I1,r1,q1⟩=>⟨σ,H1,I1,q1⟩) I.quiet hs
def Nq(te:TE):TS:=λD σ H=>te σ H D.rt
theorem aF(he:PE X e te):PS X (.Return (some e) pos) (Nq te):=by
 intro pins s σ H D I h;exact wpAny_Return_some (aH (he pins s σ H _ I h) λv s1 ⟨x,H1,I1,r1,q1⟩=>⟨x,σ,H1,I1,r1,q1⟩)
def Ig(c:TT)(t u:TS):TS:=λD σ H=>c σ H λb H1=>if b=true then t D σ H1 else u D σ H1
theorem bZ{c:Expr}{a b:List ve}{tc:TT}(hc:PT X c tc)(ha:eQ X a t)(hb:eQ X b u):PS X (.If c a b pos) (Ig tc t u):=by
 intro pins s σ H D I h;refine wpAny_If (aH (hc pins s σ H _ I h) λd s1 ⟨H1,I1,q1⟩=>?_);cases d with
 | true=>exact ha pins s1 σ H1 D I1 q1
 | false=>exact hb pins s1 σ H1 D I1 q1
def ZE:TS:=λ_ _ _=>False
theorem Bw:PS X st ZE:=λ_ _ _ _ _ _ h=>h.elim
end
abbrev TG:=V->St->Hp->(St->Hp->Prop)->Prop
abbrev hV:=List V->St->Hp->(St->Hp->Prop)->Prop
def PG(X:Cx)(target:Expr)(t:TG):Prop :=
 ∀(pins:List (wg × Obj))(s:wl)(σ : St)(H:Hp)(v:V)(u:wf)(Q:St->Hp->Prop),Inv X pins σ H s->aX v u->t v σ H Q ->
  wq (model X.prog X.w) X.A (assign target X.env u) (λ_ s'=>∃σ' H',Inv X pins σ' H' s'/\Q σ' H') X.xe s
def ma(X:Cx)(ts:List Expr)(t:hV):Prop :=
 ∀(pins:List (wg × Obj))(s:wl)(σ : St)(H:Hp)(vs:List V)(us:List wf)(Q:St->Hp->Prop),Inv X pins σ H s->aK vs us->t vs σ H Q ->
  wq (model X.prog X.w) X.A (assignInOrder ((Vg ts X.env).map (·.2)) us) (λ_ s'=>∃σ' H',Inv X pins σ' H' s'/\Q σ' H') X.xe s
abbrev yw:=V->V->V->Hp->(Hp->Prop)->Prop
def Lz(X:Cx)(t:yw):Prop :=
 ∀(pins:List (wg × Obj))(s:wl)(σ : St)(H:Hp)(o i v:V)(ov iv u:wf)(Q:Hp->Prop),Inv X pins σ H s->aX o ov->aX i iv->aX v u->t o i v H Q ->
  wq (model X.prog X.w) X.A (setItem ov iv u) (λ_ s'=>∃H',Inv X pins σ H' s'/\Q H') X.xe s
abbrev oH:=V->V->Hp->VK->Prop
def NI(X:Cx)(op:Operator)(t:oH):Prop :=
 ∀(pins:List (wg × Obj))(s:wl)(σ : St)(H:Hp)(x y:V)(v u:wf)(Q:VK),Inv X pins σ H s->aX x v->aX y u->t x y H Q ->
  wq (model X.prog X.w) X.A (inplaceOp op v u) (EP X pins σ Q) X.xe s
section
variable{X:Cx}{pos:Pos}
def fI(i:Nat):TG:=λv σ H Q=>Q (σ.set i (some v)) H
theorem bK{i:Nat}{x:Str}(hN:X.N.Nodup)(hi:X.N[i]? = some x)(hx:Loc X.env.scope x)(hf:X.fn x=true\/X.env.scope.names.lookup x=some .local:=by first | exact .inl rfl | exact .inr rfl | assumption):PG X (.Name x pos) (fI i):=by
 intro pins s σ H v u Q I r h;exact wpAny_assign_Name (mq I hN hi hx r (λs' I'=>⟨_,H,I',h⟩) hf)
def BP:hV:=λvs σ H Q=>vs=[]/\Q σ H
def uH(t:TG)(u:hV):hV:=λvs σ H Q=>∃v r,vs=v::r/\t v σ H λσ' H'=>u r σ' H' Q
theorem jK:ma X [] BP:=by
 intro pins s σ H vs us Q I r h;obtain⟨e,h⟩:=h;subst e;cases r;exact assignInOrder_nil ⟨σ,H,I,h⟩
theorem eH{e:Expr}{es:List Expr}{t:TG}{u:hV}(h1:PG X e t)(h2:ma X es u)
  (hs:(Vg (e::es) X.env).map (·.2)=assign e X.env::(Vg es X.env).map (·.2):=by rfl):ma X (e::es) (uH t u):=by
 intro pins s σ H vs us Q I r h;obtain⟨v,vr,e1,h⟩:=h;subst e1;cases r with
 | cons r rr =>
  rw[hs];refine assignInOrder_cons (aH (h1 pins s σ H _ _ _ I r h) λ_ s1 ⟨σ1,H1,I1,q1⟩=>?_);exact h2 pins s1 σ1 H1 _ _ Q I1 rr q1
def gD(K:wb)(n:Nat)(t:hV):TG:=λv σ H Q=>∃a xs,v=.ref a/\aU K H a xs/\xs.length=n/\t xs σ H Q
theorem ku{es:List Expr}{k:Nat}{t:hV}{n:Nat}(hc:X.calm=true)(h:ma X es t)
  (hn:(Vg es X.env).length=n:=by rfl) (hst:(Vg es X.env).findIdx? (·.1)=none:=by rfl):PG X (.Tuple es k pos) (gD X.K n t):=by
 intro pins s σ H v u Q I r hw;obtain⟨a,xs,e1,hq,hl,hw⟩:=hw;subst e1;cases r;obtain⟨its,rv,ht,hz⟩:=I.tuple hq;refine assign_Tuple_tuple (I.ok.hd hc) ht (by simp[hn,<- hl,rv.length]) hst λh' hx=>?_
 have I1:Inv X pins σ H {s with heap:=h'}:=I.kept (t':=s.toks) λb o e=>hx b o (wL (wy e)) e
 exact h pins _ σ H xs _ Q I1 (by simpa using rv) hw
def O2(to ti:TE)(t:yw):TG:=λv σ H Q=>to σ H λo H1=>ti σ H1 λi H2=>t o i v H2 λH3=>Q σ H3
theorem uE{o i:Expr}{to ti:TE}{t:yw}(ho:PE X o to)(hi:PE X i ti)(hs:Lz X t)
  (ha:∀v,assign (.Subscript o i pos) X.env v=(do
   let ov <- holding [v] (eval o X.env)
   let iv <- holding [v,ov] (eval i X.env)
   standAt pos
   holding [v,ov,iv] (setItem ov iv v)
   release [v,ov,iv] []):=by intro _;rfl):PG X (.Subscript o i pos) (O2 to ti t):=by
 intro pins s σ H v u Q I r h;rw[ha];refine we (vN (aH (ho pins s σ H _ I h) λov s1 ⟨x,H1,I1,r1,q1⟩=>?_));refine we (vN (aH (hi pins s1 σ H1 _ I1 q1) λiv s2 ⟨y,H2,I2,r2,q2⟩=>?_));refine we (qh (we (vN (aH (hs pins s2 σ H2 x y v ov iv u _ I2 r1 r2 r q2) λ_ s3 ⟨H3,I3,q3⟩=>?_))));exact wpAny_release ⟨σ,H3,I3,q3⟩
def j9(te:TE)(g:TG):TS:=λD σ H=>te σ H λx H1=>g x σ H1 D.nx
theorem pF{tg e:Expr}{te:TE}{g:TG}(he:PE X e te)(hg:PG X tg g)(hs:swapsWithSole [tg] e pos.line X.env=pure false:=by rfl)(hw:swappedStores [tg] e X.env=pure none:=by rfl)
  (h1:(Vg [tg] X.env).map (·.2)=[assign tg X.env]:=by rfl):PS X (.Assign [tg] e pos) (j9 te g):=by
 intro pins s σ H D I h;refine wpAny_Assign_stores (aH (he pins s σ H _ I h) λv s1 ⟨x,H1,I1,r1,q1⟩=>?_) hs hw;rw[h1];exact aH (hg pins s1 σ H1 x v _ I1 r1 q1) λ_ s2 q=>q
theorem YV{i:Nat}{x:Str}{e:Expr}{te:TE}{pos':Pos}(hN:X.N.Nodup)(hi:X.N[i]? = some x)(hx:Loc X.env.scope x)(he:PE X e te)(hs:swapsWith e (some (.Name x pos')) pos.line X.env=pure false:=by rfl)(hf:X.fn x=true\/X.env.scope.names.lookup x=some .local:=by first | exact .inl rfl | exact .inr rfl | assumption) :
  PS X (.Assign [.Name x pos'] e pos) (j9 te (fI i)):=by
 intro pins s σ H D I h;refine wpAny_Assign_Name (aH (he pins s σ H _ I h) λv s1 ⟨y,H1,I1,r1,q1⟩=>?_) hs;exact mq I1 hN hi hx r1 (λs2 I2=>⟨_,H1,I2,q1⟩) hf
def JL(i j:Nat)(ta:TA):TS:=λD σ H=>ta σ H λvs H1=>∃v w,vs=[v,w]/\D.nx ((σ.set i (some v)).set j (some w)) H1
theorem Yb{i j:Nat}{x y:Str}{a b:Expr}{ta:TA}{px py pt:Pos}{kt k2 pt2}(hc:X.calm=true)(hN:X.N.Nodup)(hi:X.N[i]? = some x)(hj:X.N[j]? = some y)(hij:i≠j)
  (hx:X.env.scope.names.lookup x=some .local) (hy:X.env.scope.names.lookup y=some .local) (ha:PA X [a,b] ta)
  (hw:swappedStores [.Tuple [.Name x px,.Name y py] kt pt] (.Tuple [a,b] k2 pt2) X.env=pure (some [x,y]))
  (hs:swapsWithSole [.Tuple [.Name x px,.Name y py] kt pt] (.Tuple [a,b] k2 pt2) pos.line X.env=pure false:=by rfl) :
  PS X (.Assign [.Tuple [.Name x px,.Name y py] kt pt] (.Tuple [a,b] k2 pt2) pos) (JL i j ta):=by
 intro pins s σ H D I h;rw[exec_Assign_arm];refine we (qh ?_);rw[hs];refine we (wp ?_);rw[if_neg (by decide)];refine we (Tuple_ (aH (ha _ pins s σ H _ I h) λus s1 ⟨vs,H1,I1,r1,q1⟩=>?_));obtain⟨v,w,e1,q1⟩:=q1;subst e1
 obtain⟨u1,u2,rfl,rv,rw'⟩:∃u1 u2,us=[u1,u2]/\aX v u1/\aX w u2:=by
  cases r1 with
  | cons p q =>
   cases q with
   | cons p' q' =>
    cases q';exact⟨_,_,rfl,p,p'⟩
 refine Wo ?_ (by show 2<=w8;decide);have I2:Inv X pins σ H1 {s1 with heap:=s1.heap.push {cls:=.type "tuple",data:=.seq [u1,u2].toArray}}:=I1.kept (t':=s1.toks) λb o e=>wn _ e
 rw[hw];refine we (wp ?_)
 show wq (model X.prog X.w) X.A (do rule "assign.swapped-stores";let items <- unpackItems (.ref s1.heap.objs.size) 2 none;assignInOrder [λv=>bindName X.env y v,λv=>bindName X.env x v] items.reverse;pure Flow.next) _ _ _
 refine we (VW (we (unpackItems_tuple (items:=#[u1,u2]) (I.ok.hd hc) (qR s1.heap _) λh' hx'=>?_)));have I3:=I2.kept (h':=h') (t':=s1.toks) λb o e=>hx' b o (wL (wy e)) e
 show wq _ _ (assignInOrder [λv=>bindName X.env y v,λv=>bindName X.env x v] [u2,u1] >>= λ_=>pure Flow.next) _ _ _
 refine we (assignInOrder_cons (wpAny_bindName (mq I3 hN hj (.inl hy) rw' (λs2 I4=>?_) (.inr hy))));refine assignInOrder_cons (wpAny_bindName (mq I4 hN hi (.inl hx) rv (λs3 I5=>assignInOrder_nil (wp ?_)) (.inr hx)));rw[List.set_comm _ _ (We hij)]at I5;exact⟨_,H1,I5,q1⟩
def LA(i:Nat)(te:TE)(ti:oH):TS:=λD σ H=>∃x,σ[i]? = some (some x)/\te σ H λy H1=>ti x y H1 λz H2=>D.nx (σ.set i (some z)) H2
theorem zBf{i:Nat}{x:Str}{e:Expr}{te:TE}{op:Operator}{ti:oH}{pos':Pos}(hN:X.N.Nodup)(hi:X.N[i]? = some x)(hx:Loc X.env.scope x)(he:PE X e te)(ho:NI X op ti)(hf:X.fn x=true\/X.env.scope.names.lookup x=some .local:=by first | exact .inl rfl | exact .inr rfl | assumption) :
  PS X (.AugAssign (.Name x pos') op e pos) (LA i te ti):=by
 intro pins s σ H D I h;obtain⟨v,e1,h⟩:=h;obtain⟨m,hn,hl⟩:=I.loc;have Ac:zw X.env.scope x:=by rcases hx with k | k;exact .inl k;exact .inr (.inl k)
 obtain⟨u,r,l⟩:=hl i x v hi e1 Ac;refine wpAny_AugAssign_Name ?_
 have go:wq (model X.prog X.w) X.A (eval e X.env) (λw s₂=>wq (model X.prog X.w) X.A (inplaceOp op u w) (λr s₃=>wq (model X.prog X.w) X.A (storeName X.env x r) (λ_=>SP X pins D .next) X.xe s₃) X.xe s₂) X.xe s:=by
  refine aH (he pins s σ H _ I h) λw s1 ⟨y,H1,I1,r1,q1⟩=>?_
  refine aH (ho pins s1 σ H1 v y u w _ I1 r r1 q1) λz s2 ⟨zv,H2,I2,r2,q2⟩=>?_
  exact mq I2 hN hi hx r2 (λs3 I3=>⟨_,H2,I3,q2⟩) hf
 rcases l with⟨hk,hm⟩ | ⟨hk,c,hc,hcell⟩
 ·exact wpAny_loadName_local I.ok.kind hk hn hm go
 ·rcases hk with hk | hk
  ·exact wpAny_loadName_cell I.ok.kind hk hc hcell go
  ·rcases hx with k | k
   ·have:X.env.scope.names.lookup x=some .free:=hk
    rw[k]at this;cases this
   ·have:X.env.scope.names.lookup x=some .free:=hk
    rw[k]at this;cases this
def IJ(f:Int->Int->Int):oH:=λx y H Q=>∃i j,x=.int i/\y=.int j/\Q (.int (f i j)) H
theorem Yc:NI X .Add (IJ λi j=>i+j):=by
 intro pins s σ H x y v u Q I r1 r2 h;obtain⟨i,j,e1,e2,q⟩:=h;subst e1;subst e2;obtain⟨t,rfl⟩:=r1;obtain⟨t',rfl⟩:=r2;exact iadd_int ⟨.int _,H,I.tok _,⟨_,rfl⟩,q⟩
end
section
variable{X:Cx}{pos:Pos}
def Bx(c:TT)(tb:TS):TS:=λD σ H=>∃W:Nat->St->Hp->Prop,(∃m,W m σ H) /\ ∀m σ H,W m σ H ->
 c σ H λb H1=>if b=true then ∃N:St->Hp->Prop,(∀σ' H',N σ' H'->∃m',m'<m/\W m' σ' H')/\tb {D with nx:=N,ct:=N,bk:=D.nx} σ H1 else D.nx σ H1
theorem lD{c:Expr}{body:List ve}{tc:TT}{tb:TS}(hp:PassesOwn (model X.prog X.w) X.A X.env X.xe)(hc:PT X c tc)(hb:eQ X body tb):PS X (.While c body [] pos) (Bx tc tb):=by
 intro pins s σ H D I h;obtain⟨W,⟨m0,w0⟩,turn⟩:=h;refine wpAny_While (codeAny_whileLoop (λn s'=>∃σ' H',Inv X pins σ' H' s'/\W n σ' H') ?_ m0 ⟨σ,H,I,w0⟩);rintro n s1 ⟨σ1,H1,I1,w1⟩;refine Vp hp (aH (hc pins s1 σ1 H1 _ I1 (turn n σ1 H1 w1)) λb s2 ⟨H2,I2,q2⟩=>?_);cases b with
 | true =>
  obtain⟨N,hN,q2⟩:=q2;rw[if_pos rfl];refine Vp hp (aH (hb pins s2 σ1 H2 _ I2 q2) λf s3 q3=>?_);cases f with
  | next =>
   obtain⟨σ3,H3,I3,n3⟩:=q3;obtain⟨m',hm,w3⟩:=hN σ3 H3 n3;exact⟨m',hm,σ3,H3,I3,w3⟩
  | cont =>
   obtain⟨σ3,H3,I3,n3⟩:=q3;obtain⟨m',hm,w3⟩:=hN σ3 H3 n3;exact⟨m',hm,σ3,H3,I3,w3⟩
  | brk=>exact q3
  | ret v=>exact q3
 | false =>
  rw[if_neg vj];exact qt ⟨σ1,H2,I2,q2⟩
end
structure It where
 go:Nat->Hp->Prop
 ft:Nat->Hp->V->Hp->Prop
 stop:Nat->Hp->Prop
def dX(X:Cx)(pins:List (wg × Obj))(H:Hp)(b:wg):Prop :=
 H b=none/\b≠X.env.locals/\b ∉ X.fs/\(b∈X.ex\/X.s₀.heap.objs.size<=b)/\(∀x c,X.env.cells.lookup x=some c->c≠b) /\ ∀p∈X.pn++pins,p.1≠b
theorem Inv.iI{X:Cx}{pins:List (wg × Obj)}{σ : St}{H H':Hp}{s:wl}{b:wg}(I:Inv X pins σ H s)(hb:s.heap.objs.size<=b)(hn:H' b=none):dX X pins H' b:=by
 refine⟨hn,vi (wU I.lt hb),I.RX hb,.inr (Wd I.sz hb),λx c e z=>?_,λp hp z=>?_⟩
 ·obtain⟨v,q⟩:=I.cell x c e
  exact absurd (wU q.lt (by rw[z];exact hb)) (Vq _)
 ·exact absurd (wU (wy (I.pin p hp).1) (by rw[z];exact hb)) (Vq _)
structure ia(P:wO)(w:wR)(K:wb)(tg:Expr)(J:It)(fp:List wg)(it:wg)(tn:Nat->wM->Prop):Prop where
 mem:it∈fp
 obj:∀i h,tn i h->∀b∈fp,∃o,h.get? b=some o /\ ∀v,o.data≠.cell v
 keep:∀i h h',tn i h->(∀b∈fp,∀o,h.get? b=some o->h'.get? b=some o)->tn i h'
 item:∀(X:Cx),X.prog=P->X.w=w->X.K=K->X.calm=true->∀(i:Nat)(pins:List (wg × Obj))(s:wl)(σ : St)(H:Hp)(E:wf->wl->Prop),Inv X pins σ H s->(∀b∈fp,dX X pins H b)->tn i s.heap->J.go i H ->
   wq (model P w) X.A (W3 (.ref it)) (λr s1=>∃u,r=some u /\
     wq (model P w) X.A (qu tg (.ref it) u) (λ_ s2=>∃x H',Inv X pins σ H' s2/\aX x u/\J.ft i H x H'/\tn (i+1) s2.heap /\ ∀b∈fp,H' b=none) E s1) E s
 done:∀(X:Cx),X.prog=P->X.w=w->X.K=K->X.calm=true->∀(i:Nat)(pins:List (wg × Obj))(s:wl)(σ : St)(H:Hp)(E:wf->wl->Prop),Inv X pins σ H s->(∀b∈fp,dX X pins H b)->tn i s.heap->J.stop i H ->
   wq (model P w) X.A (W3 (.ref it)) (λr s1=>r=none/\Inv X pins σ H s1) E s
 self:∀(A:w6)(i:Nat)(s:wl)(Q:wf->wl->Prop)(E:wf->wl->Prop),tn i s.heap->Q (.ref it) s->wq (model P w) A (pyIter (.ref it)) Q E s
abbrev TI:=St->Hp->(It->Hp->Prop)->Prop
def Bg(X:Cx)(pins:List (wg × Obj))(σ : St)(tg:Expr)(R:It->Hp->Prop)(itv:wf)(s2:wl):Prop :=
 ∃(it:wg)(fp:List wg)(tn:Nat->wM->Prop)(J:It)(H':Hp),itv=.ref it/\Inv X pins σ H' s2/\ia X.prog X.w X.K tg J fp it tn/\tn 0 s2.heap/\(∀b∈fp,dX X pins H' b)/\R J H'
def PI(X:Cx)(tg iter:Expr)(wi:TI):Prop :=
 ∀(pins:List (wg × Obj))(s:wl)(σ : St)(H:Hp)(R:It->Hp->Prop),Inv X pins σ H s->wi σ H R ->
  wq (model X.prog X.w) X.A (eval iter X.env) (λv s1=>wq (model X.prog X.w) X.A (pyIter v) (Bg X pins σ tg R) X.xe s1) X.xe s
theorem rP{M:Model}{A:w6}{E:wf->wl->Prop}{s:wl}{tg:Expr}{it:wg}{u:wf}{o:Obj}{n:String}{vs:Array wf}{Q:Unit->wl->Prop}(ho:s.heap.get? it=some o)(hc:o.cls=.type n)(hd:o.data=.fields vs)
   (hn:["enumerate","zip","dict_itemiterator","dict_reverseitemiterator","odict_iterator","itertools.zip_longest","itertools.pairwise"].contains n=false) (hQ:Q () s):wq M A (qu tg (.ref it) u) Q E s:=by
 unfold qu
 cases tg<;>first
   | exact wp hQ
   | (cases u<;>first
       | exact wp hQ
       | (refine we (wpAny_load ho ?_)
          rw[hc,hd]
          show wq M A (if(["enumerate","zip","dict_itemiterator","dict_reverseitemiterator","odict_iterator","itertools.zip_longest","itertools.pairwise"].contains n&&vs[0]? == some (Vz _))=true then _ else _) Q E s
          rw[if_neg (by intro h;rw[hn,WP]at h;cases h)];exact wp hQ))
def hW(K:wb)(a:wg):It :=
 ⟨λi H=>∃xs x,aI K H a xs/\xs[i]? = some x,λi H x H'=>H'=H /\ ∀xs,aI K H a xs->xs[i]? = some x,λi H=>∃xs,aI K H a xs/\xs.length<=i⟩
def iV(K:wb)(a:wg):It :=
 ⟨λi H=>∃xs x,aU K H a xs/\xs[i]? = some x,λi H x H'=>H'=H /\ ∀xs,aU K H a xs->xs[i]? = some x,λi H=>∃xs,aU K H a xs/\xs.length<=i⟩
def fK(lo:Int)(n:Nat):It:=⟨λi _=>i<n,λi H x H'=>H'=H/\x=.int (lo+i),λi _=>n<=i⟩
theorem C7{P:wO}{w:wR}{K:wb}{tg:Expr}(a it:wg):ia P w K tg (hW K a) [it] it (λi h=>h.IsListIter it a i) where
 mem:=by simp
 obj:=λi h st b hb=>by
  have e:b=it:=by simpa using hb
  subst e;obtain⟨o,e,c,d⟩:=st;exact⟨o,e,λv z=>by rw[d]at z;cases z⟩
 keep:=λi h h' st k=>st.at λo e=>k it (by simp) o e
 item:=by
  intro X hP hw hK hc i pins s σ H E I hf st hg;subst hP hw hK;obtain⟨xs,x,hq,hx⟩:=hg;obtain⟨its,rv,p,hz⟩:=I.list hq;obtain⟨u,hu,ru⟩:=rv.get hx;obtain⟨f0,f1,f2,f3,f4,f5⟩:=hf it (by simp);refine wpAny_pyNext_list_item st p.isList (x:=u) (by simpa using hu) λh' st' sb=>?_
  have I1:Inv X pins σ H {s with heap:=h'}:=I.turned (t':=s.toks) (λb o hb e=>(sb.2 b hb).trans e) f0 f1 f3 f4 f5;obtain⟨o,e,c,d⟩:=id st';exact⟨u,rfl,rP (s:={s with heap:=h'}) e c d (by decide) ⟨x,H,I1,ru,⟨rfl,λys hy=>by rw[I.rn hy hq];exact hx⟩,st',λb hb=>(hf b hb).1⟩⟩
 done:=by
  intro X hP hw hK hc i pins s σ H E I hf st hg;subst hP hw hK;obtain⟨xs,hq,hx⟩:=hg;obtain⟨its,rv,p,hz⟩:=I.list hq;obtain⟨f0,f1,f2,f3,f4,f5⟩:=hf it (by simp);have hl:=rv.length;exact wpAny_pyNext_list_end (I.ok.hd hc) st p.isList (by simp;lia) λh' eb=>⟨rfl,I.turned (t':=s.toks) (λb o hb e=>eb b o hb e) f0 f1 f3 f4 f5⟩
 self:=λ_ _ _ _ _ st h=>wpAny_pyIter_listiter st h
theorem M7{P:wO}{w:wR}{K:wb}{tg:Expr}(a it:wg):ia P w K tg (iV K a) [it] it (λi h=>h.IsTupleIter it a i) where
 mem:=by simp
 obj:=λi h st b hb=>by
  have e:b=it:=by simpa using hb
  subst e;obtain⟨o,e,c,d⟩:=st;exact⟨o,e,λv z=>by rw[d]at z;cases z⟩
 keep:=λi h h' st k=>st.at λo e=>k it (by simp) o e
 item:=by
  intro X hP hw hK hc i pins s σ H E I hf st hg;subst hP hw hK;obtain⟨xs,x,hq,hx⟩:=hg;obtain⟨its,rv,p,hz⟩:=I.tuple hq;obtain⟨u,hu,ru⟩:=rv.get hx;obtain⟨f0,f1,f2,f3,f4,f5⟩:=hf it (by simp);refine wpAny_pyNext_tuple_item st (show s.heap.IsTuple a its.toArray from p) (x:=u) (by simpa using hu) λh' st' sb=>?_
  have I1:Inv X pins σ H {s with heap:=h'}:=I.turned (t':=s.toks) (λb o hb e=>(sb.2 b hb).trans e) f0 f1 f3 f4 f5;obtain⟨o,e,c,d⟩:=id st';exact⟨u,rfl,rP (s:={s with heap:=h'}) e c d (by decide) ⟨x,H,I1,ru,⟨rfl,λys hy=>by rw[I.zS hy hq];exact hx⟩,st',λb hb=>(hf b hb).1⟩⟩
 done:=by
  intro X hP hw hK hc i pins s σ H E I hf st hg;subst hP hw hK;obtain⟨xs,hq,hx⟩:=hg;obtain⟨its,rv,p,hz⟩:=I.tuple hq;obtain⟨f0,f1,f2,f3,f4,f5⟩:=hf it (by simp);have hl:=rv.length;exact wpAny_pyNext_tuple_end (I.ok.hd hc) st (show s.heap.IsTuple a its.toArray from p) (by simp;lia) λh' eb=>⟨rfl,I.turned (t':=s.toks) (λb o hb e=>eb b o hb e) f0 f1 f3 f4 f5⟩
 self:=λ_ _ _ _ _ st h=>wpAny_pyIter_tupleiter st h
theorem zsE{P:wO}{w:wR}{K:wb}{tg:Expr}(it:wg)(lo:Int)(n:Nat):ia P w K tg (fK lo n) [it] it (λi h=>IsRangeIter h it (lo+(i:Nat)*1) ((n:Int)-(i:Nat)) 1) where
 mem:=by simp
 obj:=λi h st b hb=>by
  have e:b=it:=by simpa using hb
  subst e
  exact⟨_,st,λv z=>by
   have z':Data.fields _=Data.cell v:=z;cases z'⟩
 keep:=λi h h' st k=>k it (by simp) _ st
 item:=by
  intro X hP hw hK hc i pins s σ H E I hf st hg;subst hP hw hK;obtain⟨f0,f1,f2,f3,f4,f5⟩:=hf it (by simp);have W:=Walks.range (prog:=X.prog) (w:=X.w) (I.ok.hd hc) it lo 1 n;refine W.item i s _ _ hg st λv h' tk hv st' kk=>?_
  obtain⟨t,rfl⟩:=hv;have I1:Inv X pins σ H {s with heap:=h',toks:=tk}:=I.turned (λb o hb e=>kk b o (by simpa using hb) e) f0 f1 f3 f4 f5;refine⟨_,rfl,rP (s:={s with heap:=h',toks:=tk}) (n:="range_iterator") st' rfl rfl (by decide) ⟨.int (lo+i),H,I1,⟨t,?_⟩,⟨rfl,rfl⟩,st',λb hb=>(hf b hb).1⟩⟩;rw[Q0]
 done:=by
  intro X hP hw hK hc i pins s σ H E I hf st hg;subst hP hw hK;obtain⟨f0,f1,f2,f3,f4,f5⟩:=hf it (by simp);exact wpAny_pyNext_range_end (I.ok.hd hc) st (by have:n<=i:=hg;lia) λh' eb=>⟨rfl,I.turned (t':=s.toks) (λb o hb e=>eb b o hb e) f0 f1 f3 f4 f5⟩
 self:=λ_ _ _ _ _ st h=>wpAny_pyIter_rangeiter st h
section
variable{X:Cx}{tg:Expr}
def sR(K:wb)(tl:TE):TI:=λσ H R=>tl σ H λx H1=>∃a,x=.ref a/\(∃xs,aI K H1 a xs)/\R (hW K a) H1
def DN(K:wb)(tl:TE):TI:=λσ H R=>tl σ H λx H1=>∃a,x=.ref a/\(∃xs,aU K H1 a xs)/\R (iV K a) H1
theorem gK{l:Expr}{tl:TE}(hl:PE X l tl):PI X tg l (sR X.K tl):=by
 intro pins s σ H R I h;refine aH (hl pins s σ H _ I h) λv s1 ⟨x,H1,I1,r1,q1⟩=>?_
 obtain⟨a,e,⟨xs,hq⟩,q⟩:=q1;subst e;cases r1;obtain⟨its,rv,p,hz⟩:=I1.list hq;refine V3 p.isList ?_;refine⟨s1.heap.objs.size,[s1.heap.objs.size],_,_,H1,rfl,I1.kept (t':=s1.toks) λb o e=>wn _ e,C7 a _,⟨_,wN _ rfl,rfl,rfl⟩,λb hb=>?_,q⟩;have e:b=s1.heap.objs.size:=by simpa using hb
 subst e;exact I1.iI (wo _) (I1.aE.fresh (wo _))
theorem gX{l:Expr}{tl:TE}(hl:PE X l tl):PI X tg l (DN X.K tl):=by
 intro pins s σ H R I h;refine aH (hl pins s σ H _ I h) λv s1 ⟨x,H1,I1,r1,q1⟩=>?_
 obtain⟨a,e,⟨xs,hq⟩,q⟩:=q1;subst e;cases r1;obtain⟨its,rv,p,hz⟩:=I1.tuple hq;refine Vk (show s1.heap.IsTuple a its.toArray from p) ?_;refine⟨s1.heap.objs.size,[s1.heap.objs.size],_,_,H1,rfl,I1.kept (t':=s1.toks) λb o e=>wn _ e,M7 a _,⟨_,wN _ rfl,rfl,rfl⟩,λb hb=>?_,q⟩;have e:b=s1.heap.objs.size:=by simpa using hb
 subst e;exact I1.iI (wo _) (I1.aE.fresh (wo _))
theorem Ml{pins:List (wg × Obj)}{σ : St}{H:Hp}{s:wl}{R:It->Hp->Prop}{E:wf->wl->Prop}{lo hi:Int}{t u v:Tok}{tk:Nat}(I:Inv X pins σ H s)(h1 : -(2^62)<=lo)(h2:lo<2^62)(h3 : -(2^62)<=hi)(h4:hi<2^62)
  (q:R (fK lo (hi-lo).toNat) H):wq (model X.prog X.w) X.A (pyIter (.ref s.heap.objs.size)) (Bg X pins σ tg R) E {s with heap:=s.heap.push {cls:=.type "range",data:=.fields #[.int lo t,.int hi u,.int 1 v]},toks:=tk}:=by
 refine wpAny_pyIter_range (uz ..) (small_one h1 h2 h3 h4) ?_;have I1:Inv X pins σ H {s with heap:=s.heap.push {cls:=.type "range",data:=.fields #[.int lo t,.int hi u,.int 1 v]},toks:=tk}:=I.kept λb o e=>wn _ e
 refine⟨(s.heap.push {cls:=.type "range",data:=.fields #[.int lo t,.int hi u,.int 1 v]}).objs.size,[(s.heap.push {cls:=.type "range",data:=.fields #[.int lo t,.int hi u,.int 1 v]}).objs.size],_,_,H,rfl,
  I1.kept (t':=tk) λb o e=>wn _ e,zsE _ lo (hi-lo).toNat,?_,λb hb=>?_,q⟩
 ·have e1:lo+((0:Nat):Int)*1=lo:=by simp
  have e2:(((hi-lo).toNat:Nat):Int)-((0:Nat):Int)=uw lo hi 1:=by rw[rangeSize_one];split<;>lia
  show IsRangeIter _ _ (lo+((0:Nat):Int)*1) ((((hi-lo).toNat:Nat):Int)-((0:Nat):Int)) 1
  rw[e1,e2];exact wN _ rfl
 ·have e:b=(s.heap.push {cls:=.type "range",data:=.fields #[.int lo t,.int hi u,.int 1 v]}).objs.size:=by simpa using hb
  subst e;exact I1.iI (wo _) (I1.aE.fresh (wo _))
def Bc(ta:TA):TI:=λσ H R=>ta σ H λvs H1=>∃j:Int,vs=[.int j] /\ -(2^62)<=j/\j<2^62/\R (fK 0 j.toNat) H1
def O8(ta:TA):TI:=λσ H R=>ta σ H λvs H1=>∃i j:Int,vs=[.int i,.int j]/\(-(2^62)<=i/\i<2^62 /\ -(2^62)<=j/\j<2^62)/\R (fK i (j-i).toNat) H1
theorem kW{a:Expr}{ta:TA}{p pos:Pos}(hg:Gl X "range")(hm:X.mg "range"=none)(ha:PA X [a] ta)(hs:w5 [a] X.env=[(false,eval a X.env)]:=by rfl):PI X tg (.Call (.Name "range" p) [a] [] pos) (Bc ta):=by
 intro pins s σ H R I h;refine Call_ (gb I hg hm boot_range (vv (aH (ha pos pins s σ H _ I h) λus s1 ⟨vs,H1,I1,r1,q1⟩=>?_) hs rfl));obtain⟨j,e,q1,q2,q⟩:=q1;subst e;cases r1 with
 | cons r rr =>
  cases rr;obtain⟨t,rfl⟩:=r;exact call_range_1 (Ml I1 (by lia) (by lia) q1 q2 (by simpa using q))
theorem YT{a b:Expr}{ta:TA}{p pos:Pos}(hg:Gl X "range")(hm:X.mg "range"=none)(ha:PA X [a,b] ta)(hs:w5 [a,b] X.env=[(false,eval a X.env),(false,eval b X.env)]:=by rfl)(hs2:w5 [b] X.env=[(false,eval b X.env)]:=by rfl) :
  PI X tg (.Call (.Name "range" p) [a,b] [] pos) (O8 ta):=by
 intro pins s σ H R I h;refine Call_ (gb I hg hm boot_range (vv (aH (ha pos pins s σ H _ I h) λus s1 ⟨vs,H1,I1,r1,q1⟩=>?_) (by rw[hs,hs2]) (by rw[hs2];rfl)));obtain⟨i,j,e,⟨q1,q2,q3,q4⟩,q⟩:=q1;subst e;cases r1 with
 | cons r rr =>
  cases rr with
  | cons r' rr =>
   cases rr;obtain⟨t,rfl⟩:=r;obtain⟨t',rfl⟩:=r';exact call_range_2 (Ml I1 q1 q2 q3 q4 q)
def kZ(wi:TI)(g:TG)(tb:TS):TS:=λD σ H=>wi σ H λJ H1=>∃W:Nat->Nat->St->Hp->Prop,(∃m,W 0 m σ H1) /\ ∀i m σ H,W i m σ H ->
 (J.stop i H/\D.nx σ H)\/(J.go i H /\ ∃N:St->Hp->Prop,(∀σ' H',N σ' H'->∃m',m'<m/\W (i+1) m' σ' H') /\ ∀x H',J.ft i H x H'->g x σ H' λσ2 H2=>tb {D with nx:=N,ct:=N,bk:=D.nx} σ2 H2)
def oY(fp:List wg)(h:wM):List (wg × Obj):=fp.filterMap λb=>(h.get? b).map λo=>(b,o)
theorem tK{fp:List wg}{h:wM}{b:wg}{o:Obj}(hb:b∈fp)(e:h.get? b=some o):(b,o)∈oY fp h:=Qi.mpr ⟨b,hb,by rw[e];rfl⟩
theorem zuH{fp:List wg}{h:wM}{p:wg × Obj}(hp:p∈oY fp h):p.1∈fp/\h.get? p.1=some p.2:=by
 obtain⟨b,hb,e⟩:=Qi.mp hp;cases q:h.get? b with
 | none=>rw[q]at e;cases e
 | some o =>
  rw[q]at e;have e':(b,o)=p:=wP e;subst e';exact⟨hb,q⟩
theorem Inv.pinned{pins:List (wg × Obj)}{σ : St}{H:Hp}{s:wl}{fp:List wg}(I:Inv X pins σ H s)(hf:∀b∈fp,dX X pins H b)(ho:∀b∈fp,∃o,s.heap.get? b=some o /\ ∀v,o.data≠.cell v):Inv X (pins++oY fp s.heap) σ H s :=
 I.G3 λp hp=>(vX.mp hp).elim (λz=>I.pin p (vO _ z)) λz=>by
  obtain⟨hb,e⟩:=zuH z;obtain⟨f0,f1,f2,_⟩:=hf p.1 hb;obtain⟨o,e',d⟩:=ho p.1 hb;rw[e]at e';cases e';exact⟨e,f0,f1,f2,d⟩
theorem Inv.rz{pins pl:List (wg × Obj)}{σ : St}{H:Hp}{s:wl}(I:Inv X (pins++pl) σ H s):Inv X pins σ H s:=I.G3 λp hp=>I.pin p (vO _ (Wf _ hp))
theorem gF{iter:Expr}{body:List ve}{wi:TI}{g:TG}{tb:TS}{pos:Pos}(hp:PassesOwn (model X.prog X.w) X.A X.env X.xe)(hc:X.calm=true)(hi:PI X tg iter wi)(hg:PG X tg g)(hb:eQ X body tb)
  (hs:∀x,foldedSetIterable iter X.env x=pure x:=by intro _;rfl):PS X (.For tg iter body [] pos) (kZ wi g tb):=by
 intro pins s σ H D I h;refine wpAny_For (aH (hi pins s σ H _ I h) λv s1 h1=>aH h1 λitv s2 h2=>?_) hs;obtain⟨it,fp,tn,J,H2,e,I2,T,st2,f2,W,⟨m0,w0⟩,turn⟩:=h2;subst e
 -- what stays true of the iterator's objects through the loop
 have stat:∀{H':Hp},(∀b∈fp,H' b=none)->∀b∈fp,dX X pins H' b:=λhn b hb=>⟨hn b hb,(f2 b hb).2⟩
 refine codeAny_forLoop_any (λn s'=>∃i σ' H',Inv X pins σ' H' s'/\tn i s'.heap/\(∀b∈fp,H' b=none)/\W i n σ' H') ?_ m0 ⟨0,σ,H2,I2,st2,λb hb=>(f2 b hb).1,w0⟩;rintro n s3 ⟨i,σ3,H3,I3,st3,fr3,w3⟩;rcases turn i n σ3 H3 w3 with⟨stop,qn⟩ | ⟨go,N,hN,step⟩
 ·refine Vp hp (aH (T.done X rfl rfl rfl hc i pins s3 σ3 H3 X.xe I3 (stat fr3) st3 stop) λr s4 ⟨hr,I4⟩=>?_)
  subst hr;exact qt ⟨σ3,H3,I4,qn⟩
 ·refine Vp hp (aH (T.item X rfl rfl rfl hc i pins s3 σ3 H3 X.xe I3 (stat fr3) st3 go) λr s4 ⟨u,hr,h4⟩=>?_)
  subst hr;refine Vp hp (aH h4 λ_ s5 ⟨x,H5,I5,r5,y5,st5,fr5⟩=>?_);have I5':=I5.pinned (stat fr5) (T.obj _ _ st5);refine Vp hp (aH (hg _ s5 σ3 H5 x u _ I5' r5 (step x H5 y5)) λ_ s6 ⟨σ6,H6,I6,q6⟩=>?_);refine Vp hp (aH (hb _ s6 σ6 H6 _ I6 q6) λf s7 q7=>?_)
  have again:∀{σ7:St}{H7:Hp},Inv X (pins++oY fp s5.heap) σ7 H7 s7->N σ7 H7->∃m,m<n /\ ∃i σ' H',Inv X pins σ' H' s7/\tn i s7.heap/\(∀b∈fp,H' b=none)/\W i m σ' H':=λ{σ7 H7} I7 n7=>by
   obtain⟨m',hm,w7⟩:=hN σ7 H7 n7;refine⟨m',hm,i+1,σ7,H7,I7.rz,T.keep _ _ _ st5 λb hb o e=>(I7.pin (b,o) (vO _ (vO _ (tK hb e)))).1,λb hb=>?_,w7⟩;obtain⟨o,e,d⟩:=T.obj _ _ st5 b hb;exact(I7.pin (b,o) (vO _ (vO _ (tK hb e)))).2.1
  cases f with
  | next=>obtain⟨σ7,H7,I7,n7⟩:=q7;exact again I7 n7
  | cont=>obtain⟨σ7,H7,I7,n7⟩:=q7;exact again I7 n7
  | brk=>obtain⟨σ7,H7,I7,q7⟩:=q7;exact⟨σ7,H7,I7.rz,q7⟩
  | ret v=>obtain⟨x7,σ7,H7,I7,r7,q7⟩:=q7;exact⟨x7,σ7,H7,I7.rz,r7,q7⟩
end
theorem zvH{K:wb}{a:wg}{xs:List V}{g:TG}{tb:TS}{D:cj}{σ : St}{H:Hp}(Pv:Nat->St->Hp->Prop)(h0:Pv 0 σ H)(hl:∀i σ H,i<=xs.length->Pv i σ H->aI K H a xs)
  (hs:∀i x σ H,xs[i]? = some x->Pv i σ H->g x σ H λσ2 H2=>tb {D with nx:=Pv (i+1),ct:=Pv (i+1),bk:=D.nx} σ2 H2) (hd:∀σ H,Pv xs.length σ H->D.nx σ H) :
  ∃W:Nat->Nat->St->Hp->Prop,(∃m,W 0 m σ H) /\ ∀i m σ H,W i m σ H ->
   ((hW K a).stop i H/\D.nx σ H)\/((hW K a).go i H /\ ∃N:St->Hp->Prop,(∀σ' H',N σ' H'->∃m',m'<m/\W (i+1) m' σ' H') /\ ∀x H',(hW K a).ft i H x H'->g x σ H' λσ2 H2=>tb {D with nx:=N,ct:=N,bk:=D.nx} σ2 H2):=by
 refine⟨λi m σ H=>m=xs.length-i/\i<=xs.length/\Pv i σ H,⟨xs.length,by simp,qi _,h0⟩,?_⟩;rintro i m σ H ⟨rfl,hi,p⟩;have q:=hl i σ H hi p
 by_cases hlt:i<xs.length
 ·refine .inr ⟨⟨xs,xs[i],q,by simp[hlt]⟩,Pv (i+1),λσ' H' p'=>⟨xs.length-(i+1),by lia,rfl,hlt,p'⟩,λx H' y=>?_⟩
  obtain⟨e,y⟩:=y;subst e;exact hs i x σ _ (y xs q) p
 ·have e:i=xs.length:=by lia
  subst e;exact .inl ⟨⟨xs,q,wo _⟩,hd σ H p⟩
theorem zy9{K:wb}{a:wg}{xs:List V}{g:TG}{tb:TS}{D:cj}{σ : St}{H:Hp}(Pv:Nat->St->Hp->Prop)(h0:Pv 0 σ H)(hl:∀i σ H,i<=xs.length->Pv i σ H->aU K H a xs)
  (hs:∀i x σ H,xs[i]? = some x->Pv i σ H->g x σ H λσ2 H2=>tb {D with nx:=Pv (i+1),ct:=Pv (i+1),bk:=D.nx} σ2 H2) (hd:∀σ H,Pv xs.length σ H->D.nx σ H) :
  ∃W:Nat->Nat->St->Hp->Prop,(∃m,W 0 m σ H) /\ ∀i m σ H,W i m σ H ->
   ((iV K a).stop i H/\D.nx σ H)\/((iV K a).go i H /\ ∃N:St->Hp->Prop,(∀σ' H',N σ' H'->∃m',m'<m/\W (i+1) m' σ' H') /\ ∀x H',(iV K a).ft i H x H'->g x σ H' λσ2 H2=>tb {D with nx:=N,ct:=N,bk:=D.nx} σ2 H2):=by
 refine⟨λi m σ H=>m=xs.length-i/\i<=xs.length/\Pv i σ H,⟨xs.length,by simp,qi _,h0⟩,?_⟩;rintro i m σ H ⟨rfl,hi,p⟩;have q:=hl i σ H hi p
 by_cases hlt:i<xs.length
 ·refine .inr ⟨⟨xs,xs[i],q,by simp[hlt]⟩,Pv (i+1),λσ' H' p'=>⟨xs.length-(i+1),by lia,rfl,hlt,p'⟩,λx H' y=>?_⟩
  obtain⟨e,y⟩:=y;subst e;exact hs i x σ _ (y xs q) p
 ·have e:i=xs.length:=by lia
  subst e;exact .inl ⟨⟨xs,q,wo _⟩,hd σ H p⟩
theorem Ij{lo:Int}{n:Nat}{g:TG}{tb:TS}{D:cj}{σ : St}{H:Hp}(Pv:Nat->St->Hp->Prop)(h0:Pv 0 σ H)
  (hs:∀i σ H,i<n->Pv i σ H->g (.int (lo+i)) σ H λσ2 H2=>tb {D with nx:=Pv (i+1),ct:=Pv (i+1),bk:=D.nx} σ2 H2) (hd:∀σ H,Pv n σ H->D.nx σ H) :
  ∃W:Nat->Nat->St->Hp->Prop,(∃m,W 0 m σ H) /\ ∀i m σ H,W i m σ H ->
   ((fK lo n).stop i H/\D.nx σ H)\/((fK lo n).go i H /\ ∃N:St->Hp->Prop,(∀σ' H',N σ' H'->∃m',m'<m/\W (i+1) m' σ' H') /\ ∀x H',(fK lo n).ft i H x H'->g x σ H' λσ2 H2=>tb {D with nx:=N,ct:=N,bk:=D.nx} σ2 H2):=by
 refine⟨λi m σ H=>m=n-i/\i<=n/\Pv i σ H,⟨n,by simp,qi _,h0⟩,?_⟩;rintro i m σ H ⟨rfl,hi,p⟩
 by_cases hlt:i<n
 ·refine .inr ⟨hlt,Pv (i+1),λσ' H' p'=>⟨n-(i+1),by lia,rfl,hlt,p'⟩,λx H' y=>?_⟩
  obtain⟨e,y⟩:=y;subst e y;exact hs i σ _ hlt p
 ·have e:i=n:=by lia
  subst e;exact .inl ⟨wo _,hd σ H p⟩
abbrev R2:=V->V->Hp->VK->Prop
def aJ(X:Cx)(f:wf->wf->Sem wf)(r:R2):Prop :=
 ∀(pins:List (wg × Obj))(s:wl)(σ : St)(H:Hp)(x y:V)(v u:wf)(Q:VK),Inv X pins σ H s->aX x v->aX y u->r x y H Q ->
  wq (model X.prog X.w) X.A (f v u) (EP X pins σ Q) X.xe s
def BV(X:Cx)(f:wf->Sem wf)(r:V->Hp->VK->Prop):Prop :=
 ∀(pins:List (wg × Obj))(s:wl)(σ : St)(H:Hp)(x:V)(v:wf)(Q:VK),Inv X pins σ H s->aX x v->r x H Q ->
  wq (model X.prog X.w) X.A (f v) (EP X pins σ Q) X.xe s
def aY(X:Cx)(f:wf)(r:List V->Hp->VK->Prop):Prop :=
 ∀(pins:List (wg × Obj))(s:wl)(σ : St)(H:Hp)(xs:List V)(us:List wf)(Q:VK),Inv X pins σ H s->aK xs us->r xs H Q ->
  wq (model X.prog X.w) X.A (call f us) (EP X pins σ Q) X.xe s
def zCs(X:Cx)(r:V->Hp->(Bool->Hp->Prop)->Prop):Prop :=
 ∀(pins:List (wg × Obj))(s:wl)(σ : St)(H:Hp)(x:V)(v:wf)(Q:Bool->Hp->Prop),Inv X pins σ H s->aX x v->r x H Q ->
  wq (model X.prog X.w) X.A (truthy v) (TP X pins σ Q) X.xe s
def kS(r:R2)(ta tb:TE):TE:=λσ H Q=>ta σ H λx H1=>tb σ H1 λy H2=>r x y H2 Q
def Lm(r:V->Hp->VK->Prop)(ta:TE):TE:=λσ H Q=>ta σ H λx H1=>r x H1 Q
def rI(C:Int->Int->Prop)(g:Int->Int->V):R2:=λx y H Q=>∃i j,x=.int i/\y=.int j/\C i j/\Q (g i j) H
def iu(g:Int->Int->V):R2:=λx y H Q=>∃i j,x=.int i/\y=.int j/\Q (g i j) H
def rU(g:Int->V):V->Hp->VK->Prop:=λx H Q=>∃i,x=.int i/\Q (g i) H
section
variable{X:Cx}{a b c:Expr}{ta tb tc:TE}{pos:Pos}
theorem AG(ha:PE X a ta)(hb:PE X b tb){pins:List (wg × Obj)}{s:wl}{σ : St}{H:Hp}{R:V->V->Hp->Prop}(I:Inv X pins σ H s)
  (h:ta σ H λx H1=>tb σ H1 λy H2=>R x y H2) {Q:wf->wl->Prop} {f:wf->wf->Sem wf}
  (hf:∀v u s2 x y H2,Inv X pins σ H2 s2->aX x v->aX y u->R x y H2->wq (model X.prog X.w) X.A (f v u) Q X.xe s2) :
  wq (model X.prog X.w) X.A (eval a X.env) (λv s₁=>wq (model X.prog X.w) X.A (eval b X.env) (λu s₂=>wq (model X.prog X.w) X.A (f v u) Q X.xe s₂) X.xe s₁) X.xe s:=by
 refine aH (ha pins s σ H _ I h) λv s1 ⟨x,H1,I1,r1,q1⟩=>?_
 refine aH (hb pins s1 σ H1 _ I1 q1) λu s2 ⟨y,H2,I2,r2,q2⟩=>?_
 exact hf v u s2 x y H2 I2 r1 r2 q2
theorem aC{op:Operator}{r:R2}(ho:aJ X (WB op) r)(ha:PE X a ta)(hb:PE X b tb):PE X (.BinOp a op b pos) (kS r ta tb):=by
 intro pins s σ H Q I h;exact wpAny_BinOp (AG ha hb I h λv u s2 x y H2 I2 rx ry q=>ho pins s2 σ H2 x y v u Q I2 rx ry q)
theorem iD{op:UnaryOp}{r:V->Hp->VK->Prop}(ho:BV X (unaryOp op) r)(ha:PE X a ta):PE X (.UnaryOp op a pos) (Lm r ta):=by
 intro pins s σ H Q I h;exact UnaryOp_ (aH (ha pins s σ H _ I h) λv s1 ⟨x,H1,I1,r1,q1⟩=>ho pins s1 σ H1 x v Q I1 r1 q1)
theorem rZ{f:wf->wf->Sem wf}{C:Int->Int->Prop}{g:Int->Int->Int}
  (rule:∀(i j:Int)(t u:Tok)(s:wl)(Q:wf->wl->Prop)(E:wf->wl->Prop),C i j->Q (.int (g i j) s.toks) {s with toks:=s.toks+1}->wq (model X.prog X.w) X.A (f (.int i t) (.int j u)) Q E s) :
  aJ X f (rI C λi j=>.int (g i j)):=by
 intro pins s σ H x y v u Q I rx ry h;obtain⟨i,j,rfl,rfl,hc,q⟩:=h;obtain⟨t,rfl⟩:=rx;obtain⟨t',rfl⟩:=ry;exact rule i j t t' s _ _ hc ⟨.int (g i j),H,I.tok _,⟨_,rfl⟩,q⟩
theorem N2{f:wf->wf->Sem wf}{g:Int->Int->Int}
  (rule:∀(i j:Int)(t u:Tok)(s:wl)(Q:wf->wl->Prop)(E:wf->wl->Prop),Q (.int (g i j) s.toks) {s with toks:=s.toks+1}->wq (model X.prog X.w) X.A (f (.int i t) (.int j u)) Q E s) :
  aJ X f (iu λi j=>.int (g i j)):=by
 intro pins s σ H x y v u Q I rx ry h;obtain⟨i,j,rfl,rfl,q⟩:=h;obtain⟨t,rfl⟩:=rx;obtain⟨t',rfl⟩:=ry;exact rule i j t t' s _ _ ⟨.int (g i j),H,I.tok _,⟨_,rfl⟩,q⟩
theorem uQ{f:wf->wf->Sem wf}{g:Int->Int->Bool}
  (rule:∀(i j:Int)(t u:Tok)(s:wl)(Q:wf->wl->Prop)(E:wf->wl->Prop),Q (.bool (g i j)) s->wq (model X.prog X.w) X.A (f (.int i t) (.int j u)) Q E s) :
  aJ X f (iu λi j=>.bl (g i j)):=by
 intro pins s σ H x y v u Q I rx ry h;obtain⟨i,j,rfl,rfl,q⟩:=h;obtain⟨t,rfl⟩:=rx;obtain⟨t',rfl⟩:=ry;exact rule i j t t' s _ _ ⟨.bl (g i j),H,I,rfl,q⟩
def LO(i j:Int):Prop:=0<=j/\j<=1000000/\i.natAbs<2^64
theorem zAy:aJ X (WB .Add) (iu λi j=>.int (i+j)):=N2 λ_ _ _ _ _ _ _ q=>add_int q
theorem m9:aJ X (WB .Sub) (iu λi j=>.int (i-j)):=N2 λ_ _ _ _ _ _ _ q=>sub_int q
theorem fW:aJ X (WB .Mod) (rI (λ_ j=>0<j) λi j=>.int (i % j)):=rZ λi j _ _ _ _ _ hc q=>by
 have h1:(0:Int)<j:=hc;exact mod_int' (by lia) (by rw[Int.fmod_eq_emod_of_nonneg i (by lia)];exact q)
theorem zAD:aJ X (WB .Pow) (rI LO λi j=>.int (i^j.toNat)):=rZ λ_ _ _ _ _ _ _ hc q=>pow_int_small hc.1 hc.2.1 hc.2.2 q
theorem U4{f:wf->Sem wf}{g:Int->Int}
  (rule:∀(i:Int)(t:Tok)(s:wl)(Q:wf->wl->Prop)(E:wf->wl->Prop),Q (.int (g i) s.toks) {s with toks:=s.toks+1}->wq (model X.prog X.w) X.A (f (.int i t)) Q E s) :
  BV X f (rU λi=>.int (g i)):=by
 intro pins s σ H x v Q I rx h;obtain⟨i,rfl,q⟩:=h;obtain⟨t,rfl⟩:=rx;exact rule i t s _ _ ⟨.int (g i),H,I.tok _,⟨_,rfl⟩,q⟩
theorem gW:BV X (unaryOp .USub) (rU λi=>.int (-i)):=U4 λ_ _ _ _ _ q=>neg_int q
end
section
variable{X:Cx}{a b c:Expr}{ta tb tc:TE}{pos:Pos}
theorem Lx{pins:List (wg × Obj)}{σ : St}{H:Hp}{s:wl}{Q:VK}{k k':Bool}(I:Inv X pins σ H s)(q:Q (.bl k) H)(e:k=k'):EP X pins σ Q (.bool k') s:=by
 subst e;exact⟨.bl k,H,I,rfl,q⟩
theorem l_:aJ X (wT .Lt) (iu λi j=>.bl (decide (i<j))):=uQ λ_ _ _ _ _ _ _ q=>lt_int q
theorem mK:aJ X (wT .LtE) (iu λi j=>.bl (decide (i<=j))):=uQ λ_ _ _ _ _ _ _ q=>le_int q
theorem nF:aJ X (wT .Gt) (iu λi j=>.bl (decide (j<i))):=uQ λ_ _ _ _ _ _ _ q=>gt_int q
theorem NH:aJ X (wT .GtE) (iu λi j=>.bl (decide (j<=i))):=uQ λ_ _ _ _ _ _ _ q=>ge_int q
theorem zAt:aJ X (wT .Is) (λx y H Q=>y=.bM/\Q (.bl (decide (x=.bM))) H):=by
 intro pins s σ H x y v u Q I rx ry h;obtain⟨rfl,q⟩:=h;cases ry;refine is_none_gen (Lx I q ?_)
 cases x<;>first
  | (cases rx;rfl)
  | (obtain⟨t,rfl⟩:=rx;rfl)
theorem aJ.or{f:wf->wf->Sem wf}{r r':R2}(h:aJ X f r)(h':aJ X f r'):aJ X f (λx y H Q=>r x y H Q\/r' x y H Q):=by
 intro pins s σ H x y v u Q I rx ry q;rcases q with q | q
 ·exact h pins s σ H x y v u Q I rx ry q
 ·exact h' pins s σ H x y v u Q I rx ry q
theorem bA(b:Expr){op:CmpOp}(h:op≠.In:=by decide)(h2:op≠.NotIn:=by decide):behindInMarks op b=false:=by
 have e1:(op == CmpOp.In)=false:=by cases op<;>first | rfl | exact absurd rfl h
 have e2:(op == CmpOp.NotIn)=false:=by cases op<;>first | rfl | exact absurd rfl h2
 cases b<;>simp[behindInMarks,e1,e2]
theorem dA{op:CmpOp}{r:R2}(ho:aJ X (wT op) r)(ha:PE X a ta)(hb:PE X b tb)(hm:behindInMarks op b=false):PE X (.Compare a [op] [b] pos) (kS r ta tb):=by
 intro pins s σ H Q I h;exact wpAny_Compare1 (AG ha hb I h λv u s2 x y H2 I2 rx ry q=>ho pins s2 σ H2 x y v u Q I2 rx ry q) hm
def AV(t:TE):TT:=λσ H Q=>t σ H λx H'=>∃k,x=.bl k/\Q k H'
theorem cc{op:CmpOp}{r:R2}(ho:aJ X (wT op) r)(ha:PE X a ta)(hb:PE X b tb)(hm:behindInMarks op b=false):PT X (.Compare a [op] [b] pos) (AV (kS r ta tb)):=by
 intro pins s σ H Q I h
 refine wpAny_isTrue_Compare1 (aH (ha pins s σ H _ I h) λv s1 ⟨x,H1,I1,r1,q1⟩=>aH (hb pins s1 σ H1 _ I1 q1) λu s2 ⟨y,H2,I2,r2,q2⟩ =>
  aH (ho pins s2 σ H2 x y v u _ I2 r1 r2 q2) λc s3 ⟨z,H3,I3,r3,k,e,q3⟩=>?_) hm
 subst e;cases r3;exact Wn ⟨H3,I3,q3⟩
def Jh(r r':R2)(ta tb tc:TE):TE:=λσ H Q=>ta σ H λx H1=>tb σ H1 λy H2=>r x y H2 λz H3=>∃k,z=.bl k /\
 (if k=true then tc σ H3 λw' H4=>r' y w' H4 Q else Q (.bl false) H3)
theorem SN{op op':CmpOp}{r r':R2}(ho:aJ X (wT op) r)(ho':aJ X (wT op') r')(ha:PE X a ta)(hb:PE X b tb)(hc:PE X c tc)
  (hm:lastMarks [op,op'] [b,c]=false:=by with_unfolding_all rfl):PT X (.Compare a [op,op'] [b,c] pos) (AV (Jh r r' ta tb tc)):=by
 intro pins s σ H Q I h
 refine isTrue_chain (aH (ha pins s σ H _ I h) λv s1 ⟨x,H1,I1,r1,q1⟩=>test_link (aH (hb pins s1 σ H1 _ I1 q1) λu s2 ⟨y,H2,I2,r2,q2⟩ =>
  aH (ho pins s2 σ H2 x y v u _ I2 r1 r2 q2) λd s3 ⟨z,H3,I3,r3,k,e,q3⟩=>?_)) hm
 subst e;cases r3;refine Wn ?_;cases k with
 | false =>
  obtain⟨k',e',q'⟩:=q3;cases e';exact ite_ff ⟨H3,I3,q'⟩
 | true =>
  refine ite_tt (test_last (aH (hc pins s3 σ H3 _ I3 q3) λw' s4 ⟨z',H4,I4,r4,q4⟩=>aH (ho' pins s4 σ H4 y z' u w' _ I4 r2 r4 q4) λd' s5 ⟨z2,H5,I5,r5,k2,e2,q5⟩=>?_));subst e2;cases r5;exact Wn ⟨H5,I5,q5⟩
def Ae(K:wb)(x:V)(H:Hp)(k:Bool):Prop :=
 match x with
 | .bM=>k=false
 | .bl b=>k=b
 | .int i=>k=(i != 0)
 | .str y=>y.length<=w8/\k=((y.length:Int) != 0)
 | .byt y=>y.size<=w8/\k=((y.size:Int) != 0)
 | .ref p=>(∃xs,aI K H p xs/\k = !xs.isEmpty)\/(∃xs,aU K H p xs/\k = !xs.isEmpty) \/ ∃kvs,H p=some (.dK kvs)/\k = !kvs.isEmpty
 | _=>False
theorem zsk{κ : Type}{kvs:List (κ × V)}{vs:List (κ × wf)}(r:KV kvs vs):(!vs.isEmpty) = !kvs.isEmpty:=by
 cases r<;>rfl
theorem JC{xs:List V}{its:List wf}(r:aK xs its):(!its.toArray.isEmpty) = !xs.isEmpty:=by
 cases r<;>simp
theorem mP:(w8:Nat)<2^63:=by rw[sizeLine_eq];decide
theorem So:zCs X (λx H Q=>∃k,Ae X.K x H k/\Q k H):=by
 intro pins s σ H x v Q I rx h;obtain⟨k,e,q⟩:=h;have hl:=mP;have hs:w8=16777216:=sizeLine_eq;cases x with
 | bM =>
  cases rx;have e':k=false:=e;subst e';exact truthy_none ⟨H,I,q⟩
 | bl b =>
  cases rx;have e':k=b:=e;subst e';exact Wn ⟨H,I,q⟩
 | int i =>
  obtain⟨t,rfl⟩:=rx;have e':k=(i != 0):=e;subst e';exact PySem.P.truthy_int ⟨H,I,q⟩
 | str y =>
  obtain⟨t,rfl⟩:=rx;obtain⟨hy,e'⟩:y.length<=w8/\k=((y.length:Int) != 0):=e;subst e';exact PySem.P.truthy_str (by lia) ⟨H,I.tok _,q⟩
 | byt y =>
  obtain⟨t,rfl⟩:=rx;obtain⟨hy,e'⟩:y.size<=w8/\k=((y.size:Int) != 0):=e;subst e';exact PySem.W.truthy_bytes (by lia) ⟨H,I.tok _,q⟩
 | ref p =>
  cases rx;have e':(∃xs,aI X.K H p xs/\k = !xs.isEmpty)\/(∃xs,aU X.K H p xs/\k = !xs.isEmpty) \/ ∃kvs,H p=some (.dK kvs)/\k = !kvs.isEmpty:=e;rcases e' with⟨xs,hx,e'⟩ | ⟨xs,hx,e'⟩ | ⟨kvs,hx,e'⟩
  ·subst e'
   obtain⟨its,r,pl,hz⟩:=I.list hx;have hlen:=r.length;exact wpAny_truthy_list pl.isList (by simp only[wI];lia) ⟨H,I.tok _,by rw[JC r];exact q⟩
  ·subst e'
   obtain⟨its,r,pl,hz⟩:=I.tuple hx;have hlen:=r.length;exact truthy_tuple pl (by simp only[wI];lia) ⟨H,I.tok _,by rw[JC r];exact q⟩
  ·subst e'
   obtain⟨hz,hS,vs,r,m⟩:kvs.length<=w8/\(p == sysModules)=false /\ ∃vs,KV kvs vs/\s.heap.DictOf (AK X.prog X.w) p vs:=I.aE p _ hx;have hlen:kvs.length=vs.length:=uc r;exact wpAny_truthy_dict hS m (by lia) ⟨H,I.tok _,by rw[zsk r];exact q⟩
 | _=>exact(show False from e).elim
theorem zwa(ha:PE X a ta)(he:∀whole,isTrue a X.env whole=(do let v <- whole;standAt a.pos;holding [v] (truthy v))) :
  PT X a (λσ H Q=>ta σ H λx H'=>∃k,Ae X.K x H' k/\Q k H'):=by
 intro pins s σ H Q I h;exact isTrue_plain (aH (ha pins s σ H _ I h) λv s1 ⟨x,H1,I1,r1,q1⟩=>So pins s1 σ H1 x v Q I1 r1 q1) (he _)
theorem ZR:aJ X (WB .Add) (λx y H Q=>∃i j,x=.str i/\y=.str j/\i.length+j.length<=w8/\Q (.str (i++j)) H):=by
 intro pins s σ H x y v u Q I rx ry h;obtain⟨i,j,rfl,rfl,hz,q⟩:=h;obtain⟨t,rfl⟩:=rx;obtain⟨t',rfl⟩:=ry;exact add_str (λt' tk=>⟨.str (i++j),H,I.tok _,⟨_,rfl⟩,q⟩) hz
theorem jj{x:V}{us:List wf}(r:aK [x] us):∃u,us=[u]/\aX x u:=by
 cases r with
 | cons r1 r2=>cases r2;exact⟨_,rfl,r1⟩
theorem ki{x y:V}{us:List wf}(r:aK [x,y] us):∃u w',us=[u,w']/\aX x u/\aX y w':=by
 cases r with
 | cons r1 r2 =>
  cases r2 with
  | cons r3 r4=>cases r4;exact⟨_,_,rfl,r1,r3⟩
theorem TU:aY X (.builtin "abs") (λxs H Q=>∃i,xs=[.int i]/\Q (.int (if i<0 then -i else i)) H):=by
 intro pins s σ H xs us Q I r h;obtain⟨i,rfl,q⟩:=h;obtain⟨u,rfl,t,rfl⟩:=jj r;exact call_abs_int λu tk=>⟨.int (if i<0 then -i else i),H,I.tok _,⟨_,rfl⟩,q⟩
end
structure zCy(h:wM)(x dx C:wg)(mA:Str->Option wf):Prop where
 obj:h.get? x=some (XM C dx)
 ns:h.Ns1 dx mA
 ne:dx≠x
section
variable{prog:wO}{w:wR}{A:w6}{E:wf->wl->Prop}{s:wl}{K:wb}{x dx C f:wg}{mA:Str->Option wf}{name:Str}{v:wf}
end
section
variable{P:wO}{w:wR}{H H':Hp}{h h':wM}{a C dx:wg}{fs fs':List (Str × V)}
end
structure Cls(K:wb)(C:wg):Prop where
 pg:PySem.W.plainGet K C Str.empty=true
 hd:PySem.W.hasDictIn K C=true
 po:PySem.W.plainOver K C=true
 sa:W4 K (.ref C) "__setattr__"=some (some (.builtin "object.__setattr__"))
structure Con(K:wb)(C:wg)(f:Str)(v:V)(u:wf):Prop where
 at_:W4 K (.ref C) f=some (some u)
 rel:aX v u
 get:Qw K u "__get__"=some none
 cp:PySem.W.copiedNames.contains f=false
structure zCB(K:wb)(C:wg)(m:Str)(f:wg):Prop where
 at_:W4 K (.ref C) m=some (some (.ref f))
 fn:ur K (.ref f)=true
 kp:W5 K (.ref f)=true
section
variable{X:Cx}{pins:List (wg × Obj)}{σ : St}{H:Hp}{s:wl}{a C dx:wg}{fs:List (Str × V)}{f:Str}{v:V}{A:w6}{E:wf->wl->Prop}
end
section
variable{X:Cx}{o e value:Expr}{f:Str}{pos pos' tpos:Pos}{ta tv:TE}
end
section
variable{X:Cx}{pins:List (wg × Obj)}{σ : St}{H:Hp}{s:wl}{A:w6}{E:wf->wl->Prop}{Q:wf->wl->Prop}{c:wf}{b:Bool}
inductive ig(K:wb)(H:Hp):V->wf->Prop where
 | bM:ig K H .bM (.type "NoneType")
 | bl (x:Bool):ig K H (.bl x) (.type "bool")
 | int (i:Int):ig K H (.int i) (.type "int")
 | str (x:Str):ig K H (.str x) (.type "str")
 | kO (x:UInt64):ig K H (.kO x) (.type "float")
 | lst {a:wg} {xs:List V} (e:H a=some (.lst xs)):ig K H (.ref a) (.type "list")
 | eX {a:wg} {o:Obj} {xs:List V} (e:H a=some (.eX o (.lst xs))):ig K H (.ref a) (.type "list")
 | tup {a:wg} {xs:List V} (e:H a=some (.tup xs)):ig K H (.ref a) (.type "tuple")
 | dK {a:wg} {kvs:List (Key × V)} (e:H a=some (.dK kvs)):ig K H (.ref a) (.type "dict")
 | dT {a:wg} {kvs:List (List Key × V)} (e:H a=some (.dT kvs)):ig K H (.ref a) (.type "dict")
 | ins {a C dx:wg} {fs:List (Str × V)} (e:H a=some (.ins C dx fs)) (cl:Cls K C) (ha:W4 K (.ref C) "__class__"=some (some (.builtin "object.__class__")))
     (hn:Qw K (.builtin "object.__class__") "__get__"=some (some (.builtin "getset_descriptor.__get__"))) (htk:XO K (.builtin "object.__class__")=some true)
     (hm:xy K C (.type "object")=some true):ig K H (.ref a) (.ref C)
end
structure dm(k:Nat)(A:w6):Prop where
 hd:A.handled=none
 dp:A.depth+3*k+5<recursionLimit
 un:A.units+16*k+200<WI
 gd:A.guards=some []
theorem dm.mono{j k:Nat}{A:w6}(r:dm k A)(h:j<=k):dm j A:=⟨r.hd,by have:=r.dp;lia,by have:=r.un;lia,by first | exact r.gd | (simp[ut,Code.guards,uu,guardIds];exact r.gd)⟩
theorem dm.deeper{k:Nat}{A:w6}(r:dm (k+1) A)(env:Env):dm k (A.deeper env) :=
 ⟨r.hd,by have:=r.dp;show A.depth+1+3*k+5<_;lia,by have:=r.un;show A.units+3+16*k+200<_;lia,by first | exact r.gd | (simp[ut,Code.guards,uu,guardIds];exact r.gd)⟩
theorem dm.depth{k:Nat}{A:w6}(r:dm k A):A.depth<recursionLimit:=by have:=r.dp;lia
theorem dm.units{k:Nat}{A:w6}(r:dm k A):A.units+64<WI:=by have:=r.un;lia
def n9:TA:=λ_ H Q=>Q [] H
def pW(ta:TE)(tr:TA):TA:=λσ H Q=>ta σ H λx H1=>tr σ H1 λxs H2=>Q (x::xs) H2
section
variable{X:Cx}{e:Expr}{es:List Expr}{te:TE}{t:TA}{pos:Pos}
theorem af:PA X [] n9:=λ_ _ _ _ H Q I h=>Qx ⟨[],H,I,.nil,h⟩
theorem ae(ha:PE X e te)(hr:PA X es t)(hs:w5 (e::es) X.env=(false,eval e X.env)::w5 es X.env:=by rfl):PA X (e::es) (pW te t):=by
 intro pos pins s σ H Q I h;rw[hs]
 show wq _ _ (spliced ((false,eval e X.env)::WV pos (w5 es X.env))) _ _ s
 refine Qj (aH (ha pins s σ H _ I h) λu s1 ⟨x,H1,I1,r1,q1⟩=>?_);exact aH (hr pos pins s1 σ H1 _ I1 q1) λus s2 ⟨xs,H2,I2,r2,q2⟩=>⟨x::xs,H2,I2,.cons r1 r2,q2⟩
def Sw(t:TA):TE:=λσ H Q=>t σ H λxs H1=>xs.length<=w8 /\ ∀p,H1 p=none->Q (.ref p) (upd H1 p (.tup xs))
def zCn(t:TA):TE:=λσ H Q=>t σ H λxs H1=>xs.length<=w8 /\ ∀p,H1 p=none->Q (.ref p) (upd H1 p (.lst xs))
theorem zBi{x1}(h:PA X es t):PE X (.Tuple es x1 pos) (Sw t):=by
 intro pins s σ H Q I hq;refine wpAny_Tuple_spliced (aH (h pos pins s σ H _ I hq) λus s1 ⟨xs,H1,I1,r,z,q⟩=>⟨by rw[<- r.length];exact z,?_⟩);have hf:H1 s1.heap.objs.size=none:=I1.aE.fresh (wo _);refine⟨.ref s1.heap.objs.size,upd H1 s1.heap.objs.size (.tup xs),I1.laid (t':=s1.toks) (λb u e=>wn _ e) (wo _) ?_,rfl,q _ hf⟩;exact⟨z,us,r,⟨_,wN _ rfl,rfl,_,rfl⟩⟩
theorem Ts(h:PA X es t):PE X (.List es pos) (zCn t):=by
 intro pins s σ H Q I hq;refine wpAny_List_spliced (aH (h pos pins s σ H _ I hq) λus s1 ⟨xs,H1,I1,r,z,q⟩=>⟨by rw[<- r.length];exact z,?_⟩);have hf:H1 s1.heap.objs.size=none:=I1.aE.fresh (wo _);refine⟨.ref s1.heap.objs.size,upd H1 s1.heap.objs.size (.lst xs),I1.laid (t':=s1.toks) (λb u e=>wn _ e) (wo _) ?_,rfl,q _ hf⟩;exact⟨z,us,0,r,wN _ rfl⟩
end
abbrev Sp:=List V->Hp->VK->XK->Prop
abbrev fv:=List Env->Hp->wl->XK->wf->wl->Prop
structure pK(P:wO)(w:wR)(K:wb)(mg:Str->Option wf)(base:wM)(A:w6)(outer:List Env)(s:wl)(H:Hp):Prop where
 frames:A.frames=some outer
 mod:Mod K mg base
 bs:∀b o,base.get? b=some o->s.heap.get? b=some o/\H b=none
 gq:base.objs.size<=s.heap.objs.size
 d7:s.heap.FunFrames base outer
 gI:∀b∈c_ outer,H b=none
 aE:cT P w H s.heap
 bare:AllBare s.gens
def CE(outer:List Env)(P:wO)(w:wR)(H:Hp)(s:wl)(Q:VK)(u:wf)(s':wl):Prop :=
 ∃v H',s'.os=s.os/\AllBare s'.gens/\Un (c_ outer) [] H H' s.heap s'.heap/\cT P w H' s'.heap/\aX v u/\Q v H'
def CR(CX:fv)(outer:List Env)(P:wO)(w:wR)(H:Hp)(s:wl)(Q:VK)(E:XK)(r:Result)(s':wl):Prop :=
 match r with
 | .ok (.ret u)=>CE outer P w H s Q u s'
 | .ok _=>False
 | .error e=>CX outer H s E e s'
structure aO(P:wO)(w:wR)(K:wb)(mg:Str->Option wf)(base:wM)(CX:fv)(k:Nat)(f:wg)(fd:wE)(ps:List Str)(sp:Sp):Prop where
 len:∀vs H Q E,sp vs H Q E->vs.length=ps.length
 run:∀(A:w6)(outer:List Env)(s:wl)(H:Hp)(args:Args)(us:List wf)(vs:List V)(Q:VK)(E:XK),dm k A->pK P w K mg base A outer s H->BindsTo s fd args (ps.zip us)->aK vs us->sp vs H Q E ->
   codeAny (model P w) A (.call (.ref f) args) (CR CX outer P w H s Q E) s
section
variable{X:Cx}{pins:List (wg × Obj)}{σ : St}{H:Hp}{s s':wl}
theorem Inv.z6(I:Inv X pins σ H s):pK X.prog X.w X.K X.mg X.base X.A X.stack s H :=
 ⟨I.ok.frames,I.ok.mod,I.bs,Wd I.ok.gq I.sz,I.stack,I.rB,I.aE,I.bare⟩
theorem Inv.after{Q:VK}{u:wf}(I:Inv X pins σ H s)(h:CE X.stack X.prog X.w H s Q u s'):EP X pins σ Q u s':=by
 obtain⟨v,H',os,bare,un,aE,r,q⟩:=h;obtain⟨hh,g,d,t,os'⟩:=s';obtain rfl:os'=s.os:=os;exact⟨v,H',I.call (h':=hh) (g':=g) (d':=d) (t':=t) (ch:=[]) un aE bare (λb z=>absurd z (by simp)),r,q⟩
end
def kN(sp:Sp)(dvs:List V)(E:XK)(t:TA):TE:=λσ H Q=>t σ H λvs H1=>sp (vs++dvs) H1 Q E
def ko(K:wb)(fd:wE)(ps:List Str)(ds:List wf):Prop :=
 ∀(s:wl)(us:List wf),K.In s.heap->(us++ds).length=ps.length->BindsTo s fd ⟨us,[]⟩ (ps.zip (us++ds))
theorem ko.all{K:wb}{fd:wE}{ps:List Str}(h:∀us:List wf,us.length=ps.length->bindArgs fd ⟨us,[]⟩=pure (ps.zip us)):ko K fd ps []:=λs us _ hl=>by
 rw[vY]at hl ⊢;exact .of_eq (h us hl)
def nE(CX:fv)(X:Cx)(E:XK):Prop:=∀(pins:List (wg × Obj))(σ : St)(H:Hp)(s:wl)(e:wf)(s':wl),Inv X pins σ H s->CX X.stack H s E e s'->X.xe e s'
section
variable{X:Cx}{CX:fv}{k:Nat}{f C:wg}{fd:wE}{ps:List Str}{sp:Sp}{dvs:List V}{ds:List wf}{E:XK}{x m:Str}{p pos apos:Pos}{e o:Expr}{es:List Expr}{ta:TE}{t:TA}
theorem Yi{pins:List (wg × Obj)}{σ : St}{H:Hp}{s:wl}{Q:VK}{us:List wf}{vs:List V}(F:aO X.prog X.w X.K X.mg X.base CX k f fd ps sp)(hr:dm k X.A)(hb:ko X.K fd ps ds)(hd:aK dvs ds)(hx:nE CX X E)
  (I:Inv X pins σ H s) (r:aK vs us) (h:sp (vs++dvs) H Q E):wq (model X.prog X.w) X.A (call (.ref f) us) (EP X pins σ Q) X.xe s:=by
 have r2:aK (vs++dvs) (us++ds):=r.append hd;have hl:(us++ds).length=ps.length:=by rw[<- r2.length];exact F.len _ _ _ _ h
 refine wpAny_call (codeAny_mono (F.run X.A X.stack s H ⟨us,[]⟩ (us++ds) (vs++dvs) Q E hr I.z6 (hb s us I.cW hl) r2 h) λr s' hq=>?_);cases r with
 | error e=>exact hx pins σ H s e s' I hq
 | ok fl =>
  cases fl with
  | ret u=>exact I.after hq
  | next=>exact Wp hq
  | brk=>exact Wp hq
  | cont=>exact Wp hq
theorem Pn(F:aO X.prog X.w X.K X.mg X.base CX k f fd ps sp)(hr:dm k X.A)(hg:Gl X x)(hm:X.mg x=some (.ref f))(hk:W5 X.K (.ref f)=true)(hb:ko X.K fd ps ds)(hd:aK dvs ds)(hx:nE CX X E)
  (ha:PA X (e::es) t) (hdb:(x == ("__debug__" : Str))=false:=by decide) (he:w5 (e::es) X.env=(false,eval e X.env)::w5 es X.env:=by rfl) (hpl:(WV pos (w5 es X.env)).any (·.1)=false:=by rfl) :
  PE X (.Call (.Name x p) (e::es) [] pos) (kN sp dvs E t):=by
 intro pins s σ H Q I h;refine VX (mz I hg hm ?_ hdb);refine Qk (h₀:=X.base) I.ok.mod.lq hk (aH (ha pos pins s σ H _ I h) λus s1 ⟨vs,H1,I1,r,q⟩=>⟨I1.cW,?_⟩) he hpl;exact Yi F hr hb hd hx I1 r q
structure Mk(K:wb)(C f:wg):Prop where
 makes:PySem.W.makesIn K C=true
 init:W4 K (.ref C) "__init__"=some (some (.ref f))
 fn:ur K (.ref f)=true
 kp:W5 K (.ref C)=true
end
section
variable{X:Cx}{CX:fv}{k:Nat}{f C:wg}{fd:wE}{ps ks:List Str}{sp:Sp}{E:XK}{x m:Str}{p pos apos kpos:Pos}{e o:Expr}{es:List Expr}{kws:List Keyword}{te ta:TE}{t tk:TA}{nm:Option Str}
structure zCk(K:wb)(fd:wE)(ps ks:List Str)(g:List wf->List wf->List wf)(gV:List V->List V->List V):Prop where
 to:∀(s:wl)(us ws:List wf),K.In s.heap->(g us ws).length=ps.length->BindsTo s fd ⟨us,ks.zip ws⟩ (ps.zip (g us ws))
 rel:∀{vs:List V}{us:List wf}{zs:List V}{ws:List wf},aK vs us->aK zs ws->aK (gV vs zs) (g us ws)
variable{g:List wf->List wf->List wf}{gV:List V->List V->List V}
end
structure aS(N P:List Str)(sc:Scope):Prop where
 kind:sc.kind=.function
 co:sc.isCoroutine=false
 gen:sc.isGenerator=false
 nd:N.Nodup
 pre:N.take P.length=P
 par:∀x∈P,sc.names.lookup x=some .local\/sc.names.lookup x=some .cell
 RK:∀y∈sc.names,y.2≠.free
theorem Jt{kindOf:Str->Option WO}{x:Str} : ∀{binds:List (Str × wf)}{m:Str->Option wf},(∀v,(x,v) ∉ binds)->bindL kindOf binds m x=m x
 | [],_,_=>rfl
 | (n,v)::r,m,h=>by
  unfold bindL;rw[Jt λw hw=>h w (wD _ hw)]
  split
  ·have:x≠n:=by rintro rfl;exact h v wJ
   simp[this]
  ·rfl
theorem Ir{kindOf:Str->Option WO}{x:Str} : ∀{binds:List (Str × wf)}{m:Str->Option wf},(∀v,(x,v) ∉ binds)->bindC kindOf binds m x=m x
 | [],_,_=>rfl
 | (n,v)::r,m,h=>by
  unfold bindC;rw[Ir λw hw=>h w (wD _ hw)]
  split
  ·rfl
  ·have:x≠n:=by rintro rfl;exact h v wJ
   simp[this]
theorem MO{kindOf:Str->Option WO}{x:Str}{v:wf} : ∀{P:List Str}{vs:List wf}{i:Nat}{m:Str->Option wf},P.Nodup->P[i]? = some x->vs[i]? = some v->kindOf x=some .local ->
  bindL kindOf (P.zip vs) m x=some v
 | [],_,_,_,_,h,_,_=>by simp at h
 | _::_,[],_,_,_,_,h,_=>by simp at h
 | p::P,w::vs,0,m,nd,h1,h2,hk=>by
  simp at h1 h2;subst h1;subst h2
  show bindL kindOf ((p,w)::P.zip vs) m p=_
  unfold bindL;rw[Jt λv hv=>(VQ.mp nd).1 (qT hv).1,if_pos hk];simp
 | p::P,w::vs,i+1,m,nd,h1,h2,hk=>by
  show bindL kindOf ((p,w)::P.zip vs) m x=_
  unfold bindL;exact MO (i:=i) (VQ.mp nd).2 (by simpa using h1) (by simpa using h2) hk
theorem HZ{kindOf:Str->Option WO}{x:Str}{v:wf} : ∀{P:List Str}{vs:List wf}{i:Nat}{m:Str->Option wf},P.Nodup->P[i]? = some x->vs[i]? = some v->kindOf x≠some .local ->
  bindC kindOf (P.zip vs) m x=some v
 | [],_,_,_,_,h,_,_=>by simp at h
 | _::_,[],_,_,_,_,h,_=>by simp at h
 | p::P,w::vs,0,m,nd,h1,h2,hk=>by
  simp at h1 h2;subst h1;subst h2
  show bindC kindOf ((p,w)::P.zip vs) m p=_
  unfold bindC;rw[Ir λv hv=>(VQ.mp nd).1 (qT hv).1,if_neg hk];simp
 | p::P,w::vs,i+1,m,nd,h1,h2,hk=>by
  show bindC kindOf ((p,w)::P.zip vs) m x=_
  unfold bindC;exact HZ (i:=i) (VQ.mp nd).2 (by simpa using h1) (by simpa using h2) hk
def start(N:List Str)(vs:List V):St:=vs.map some++w9 (N.length-vs.length) none
def gu(CX:fv)(P:wO)(w:wR)(K:wb)(mg:Str->Option wf)(base:wM)(N:List Str)(qual:Str)(scope:Scope)(f:wg)(cd:wf)(A:w6)(outer:List Env)(s:wl)(H:Hp)(E:XK):Cx where
 prog:=P
 w:=w
 K:=K
 mg:=mg
 base:=base
 A:=A.deeper (envOfC qual scope s.heap.objs.size f cd)
 N:=N
 s₀:=s
 H₀:=H
 env:=envOfC qual scope s.heap.objs.size f cd
 outer:=outer
 stack:=envOfC qual scope s.heap.objs.size f cd::outer
 ex:=[]
 calm:=true
 fn:=λ_=>true
 pn:=[]
 xe:=λe s'=>wq (model P w) (A.deeper (envOfC qual scope s.heap.objs.size f cd)) (leaving (envOfC qual scope s.heap.objs.size f cd) e) (λ_ s''=>CX outer H s E e s'') (λe' s''=>CX outer H s E e' s'') s'
theorem C2{sc:Scope}{n:Nat}{x:Str}(h:sc.names.lookup x=some .cell):∃c,(cellsFrom n sc.names []).lookup x=some c:=by
 have q:=qO sc.names n [] (.inl h);exact VD.mp q
theorem J9{CX:fv}{P:wO}{w:wR}{K:wb}{mg:Str->Option wf}{base:wM}{N ps:List Str}{qual:Str}{scope:Scope}{f:wg}{cd:wf}{A:w6}{outer:List Env}{s s1:wl}{H:Hp}{E:XK}{us:List wf}{vs:List V}
  (S:aS N ps scope) (hd:A.handled=none) (e0:pK P w K mg base A outer s H) (hl:vs.length=ps.length) (r:aK vs us)
  (x:InCallC s s.heap.objs.size (bindL (envOfC qual scope s.heap.objs.size f cd).kindOf (ps.zip us) λ_=>none) (cellsFrom (s.heap.objs.size+1) scope.names []) (bindC (envOfC qual scope s.heap.objs.size f cd).kindOf (ps.zip us) λ_=>none) s1) :
  Inv (gu CX P w K mg base N qual scope f cd A outer s H E) [] (start N vs) H s1:=by
 have hpl:ps.length<=N.length:=by have:=congrArg qj S.pre;rw[Wz]at this;lia
 obtain⟨h1,tk,rfl,hk⟩:=x.done;have noA:∀b:wg,b ∉ (gu CX P w K mg base N qual scope f cd A outer s H E).ex:=λb z=>absurd (show b∈([]:List wg)from z) (by simp)
 refine⟨⟨e0.mod,S.kind,rfl,rfl,wo _,λy z c h1 h2=>?_,λy hy=>?_,λy c _ h=>?_,λ_=>hd,xm e0.frames,.inr ⟨rfl,rfl⟩,λb z=>absurd z (noA b),e0.bs,e0.gq,λb _ _=>noA b,λb z=>absurd z (noA b),e0.d7,e0.gI⟩,
  rfl,e0.bare,Un.kept hk,⟨_,x.toInCall.ns,λi y v h1 h2 h3=>?_⟩,λy c h=>⟨_,x.cell y c h⟩,e0.aE.fresh (wo _),λy c h=>?_,λp hp=>absurd (show p∈([]:List (wg × Obj))from hp) (by simp),e0.aE.kept hk,?_⟩
 ·exact name_of_addr x.apart (W1 h1) (W1 h2)
 ·have hy:scope.names.lookup y=some .cell\/scope.names.lookup y=some .free:=hy
  rcases hy with hy | hy
  ·exact C2 hy
  ·exact absurd rfl (S.RK _ (W1 hy))
 ·exact Vh (x.above y c (W1 h))
 ·have hi:i<vs.length:=by
   unfold start at h2
   by_cases hi:i<vs.length
   ·exact hi
   ·rw[vM (by simpa using hi)]at h2
    rw[QQ]at h2
    split at h2<;>cases h2
  have ha:vs[i]? = some v:=by
   unfold start at h2;rw[Wu (by simpa using hi),wu]at h2;cases e:vs[i]? with
   | none=>rw[e]at h2;cases h2
   | some a=>rw[e]at h2;cases h2;rfl
  obtain⟨u,hu,rv⟩:=r.get ha
  have hp:ps[i]? = some y:=by
   rw[<- S.pre,List.getElem?_take_of_lt (by lia)];exact h1
  have ndP:ps.Nodup:=by rw[<- S.pre];exact S.nd.sublist (x8 _ _)
  refine⟨u,rv,?_⟩;rcases S.par y (List.mem_of_getElem? hp)with k | k
  ·exact .inl ⟨k,MO ndP hp hu k⟩
  ·obtain⟨c,e⟩:=C2 (n:=s.heap.objs.size+1) k
   refine .inr ⟨.inl k,c,e,?_⟩;have q:=x.cell y c e;rw[HZ ndP hp hu (by show scope.names.lookup y≠_;rw[k];decide)]at q;exact q
 ·exact e0.aE.fresh (Vh (x.above y c (W1 h)))
 ·unfold start
  show _=N.length
  rw[wS,wm,Ww]
  lia
theorem Hu{CX:fv}{P:wO}{w:wR}{K:wb}{mg:Str->Option wf}{base:wM}{k:Nat}{f:wg}{name qual:Str}{params:Arguments}{body:List ve}{scope:Scope}{dV kV doc pm cdv ct oc:wf}{an od:Option wg}
  {osl:Array (Option wf)} {N ps:List Str} {sp:Sp} (lk:K.lookup f=some ⟨oc,od,.func (VE name qual params body scope dV kV doc pm an cdv ct),osl⟩) (hcd:Qd K cdv qual=true) (S:aS N ps scope)
  (len:∀vs H Q E,sp vs H Q E->vs.length=ps.length)
  (hbody:∀(A:w6)(outer:List Env)(s:wl)(H:Hp)(vs:List V)(Q:VK)(E:XK),dm k (A.deeper (envOfC qual scope s.heap.objs.size f cdv))->sp vs H Q E ->
   ∃t,eQ (gu CX P w K mg base N qual scope f cdv A outer s H E) body t/\t {nx:=λ_ H'=>Q .bM H',rt:=Q} (start N vs) H) :
  aO P w K mg base CX (k+1) f (VE name qual params body scope dV kV doc pm an cdv ct) ps sp:=by
 refine⟨len,λA outer s H args us vs Q E hr e0 hb r hsp=>?_⟩;have hl:=len _ _ _ _ hsp;have KX:K.In s.heap:=e0.mod.lq.keeps λb o e=>(e0.bs b o e).1
 have lim:s.heap.NoLimit:=e0.mod.nolimit.keeps λb o e=>(e0.bs b o e).1
 have hkind:∀y∈ps.zip us,scope.names.lookup y.1=some .local\/(scope.names.lookup y.1=some .cell/\((cellsFrom (s.heap.objs.size+1) scope.names []).lookup y.1).isSome=true):=λ⟨n,v⟩ hy=>by
  rcases S.par n (qT hy).1 with q | q
  ·exact .inl q
  ·exact .inr ⟨q,qO _ _ _ (.inl q)⟩
 refine codeAny_call_function hr.depth (KX _ _ lk) rfl S.co S.gen rfl (xP KX hcd) (hb _ _ _ _ ?_);refine wpAny_newFunctionEnv_cells S.kind hkind λenv he s1 x=>?_
 subst he;refine⟨lim.keeps x.toInCall.keep,codeAny_func ?_⟩;obtain⟨t,ht,hq⟩:=hbody A outer s H vs Q E (hr.deeper _) hsp;have I:Inv (gu CX P w K mg base N qual scope f cdv A outer s H E) [] (start N vs) H s1:=J9 S hr.hd e0 hl r x;refine Wr (ht [] s1 (start N vs) H _ I hq) (λfl s' hs=>?_) λe s' hs=>hs
 have fin:∀{σ':St}{H':Hp}{v:V}{u:wf},Inv (gu CX P w K mg base N qual scope f cdv A outer s H E) [] σ' H' s'->aX v u->Q v H'->CE outer P w H s Q u s' :=
  λ{σ' H' v u} J rv q=>⟨v,H',J.os,J.bare,J.base,J.aE,rv,q⟩
 cases fl with
 | ret u =>
  obtain⟨v,σ',H',J,rv,q⟩:=hs;exact fin J rv q
 | next =>
  obtain⟨σ',H',J,q⟩:=hs;exact fin (v:=V.bM) (u:=Value.none) J rfl q
 | brk =>
  obtain⟨_,_,_,q⟩:=hs;exact Wp q
 | cont =>
  obtain⟨_,_,_,q⟩:=hs;exact Wp q
section
variable{X:Cx}{x:Str}{p pos:Pos}{e:Expr}{es:List Expr}{t:TA}{id T:String}{r:List V->Hp->VK->Prop}
def Ai(r:List V->Hp->VK->Prop)(t:TA):TE:=λσ H Q=>t σ H λvs H1=>r vs H1 Q
theorem bQ(hc:aY X (.builtin id) r)(hg:Gl X x)(hm:X.mg x=none)(hv:vK x=some (.builtin id))(ha:PA X (e::es) t)(hn:x≠"__name__":=by decide)(hdb:(x == ("__debug__" : Str))=false:=by decide)
  (he:w5 (e::es) X.env=(false,eval e X.env)::w5 es X.env:=by rfl) (hpl:(WV pos (w5 es X.env)).any (·.1)=false:=by rfl):PE X (.Call (.Name x p) (e::es) [] pos) (Ai r t):=by
 intro pins s σ H Q I h;refine VX (gb I hg hm hv ?_ hn hdb);exact PyProof.Rows.callWith_builtin1 (aH (ha pos pins s σ H _ I h) λus s1 ⟨vs,H1,I1,r1,q1⟩=>hc pins s1 σ H1 vs us Q I1 r1 q1) he hpl
theorem eD(hc:aY X (.type T) r)(hg:Gl X x)(hm:X.mg x=none)(hv:vK x=some (.type T))(ha:PA X (e::es) t)(hn:x≠"__name__":=by decide)(hdb:(x == ("__debug__" : Str))=false:=by decide)
  (he:w5 (e::es) X.env=(false,eval e X.env)::w5 es X.env:=by rfl) (hpl:(WV pos (w5 es X.env)).any (·.1)=false:=by rfl):PE X (.Call (.Name x p) (e::es) [] pos) (Ai r t):=by
 intro pins s σ H Q I h;refine VX (gb I hg hm hv ?_ hn hdb);exact vv (aH (ha pos pins s σ H _ I h) λus s1 ⟨vs,H1,I1,r1,q1⟩=>hc pins s1 σ H1 vs us Q I1 r1 q1) he hpl
end
section
variable{κ : Type}[DecidableEq κ]
end
abbrev KT(H:Hp):List (List Key × V)->List (List Key × wg × wf)->Prop:=Paired λp q=>p.1=q.1/\H q.2.1=some (.tup (p.1.map kV))/\aX p.2 q.2.2
section
variable{P:wO}{w:wR}{H:Hp}{h:wM}{a:wg}
end
section
variable{X:Cx}{pins:List (wg × Obj)}{σ : St}{H:Hp}{s:wl}{a:wg}{y v:V}{u r:wf}{o:Option V}{A:w6}{E:wf->wl->Prop}
theorem Inv.big(I:Inv X pins σ H s):sysModules<s.heap.objs.size:=by
 have h:wK<s.heap.objs.size:=(I.mod.glob.keeps I.bk).lt;exact Nat.lt_trans (by decide) h
end
section
variable{X:Cx}{pins:List (wg × Obj)}{σ : St}{H:Hp}{s:wl}{a:wg}{kvs:List (Key × V)}{k:Key}{u:wf}{A:w6}{E:wf->wl->Prop}
end
def OV(i:Expr):Prop:=∀ov iv,subscripted i false ov iv=operate [ov,iv] (getItem ov iv)
theorem zx6{prog:wO}{w:wR}{A:w6}{E:wf->wl->Prop}{s:wl}{env:Env}{value slice:Expr}{pos:Pos}{T id:String}{Q:wf->wl->Prop}
  (hl:typeLookup (.type T) "__getitem__"=pure (some (.builtin id))) (hs:OV slice)
  (h:wq (model prog w) A (eval value env) (λo s₁=>wq (model prog w) A (eval slice env) (λi s₂=>s₂.TypeIs o T/\wq (model prog w) A (getItem o i) Q E s₂) E s₁) E s) :
  wq (model prog w) A (eval (.Subscript value slice pos) env) Q E s:=by
 refine Subscript_ (Wr h (λo s₁ h₁=>Wr h₁ (λi s₂ h₂=>?_) λ_ _ x=>x) λ_ _ x=>x);obtain⟨hT,h₂⟩:=h₂;unfold subscriptTail;refine we ?_;rw[getitemInPython_of_ne hT.not_modules];refine we (qw hT hl ?_)
 have fin:wq (model prog w) A (subscripted slice false o i) (λr s₃=>wq (model prog w) A (letTemporaryGo value o r >>= λ_=>pure r) Q E s₃) E s₂:=by
  rw[hs o i];exact wpAny_operating (Wr h₂ (λr s₃ h₃=>we (wpAny_letTemporaryGo (wp h₃))) λ_ _ x=>x)
 first
  | exact wp (we fin)
  | exact we (wp (we fin))
  | exact we fin
section
variable{X:Cx}{o i e value:Expr}{pos pos' tpos:Pos}{td ty tv:TE}
end
section
variable{X:Cx}{pos:Pos}
end
abbrev VV:List (V × V)->List (wf × wf)->Prop:=Paired λp q=>aX p.1 q.1/\aX p.2 q.2
structure M1(X:Cx)(o:Expr)(m:Str)(apos:Pos)(e:Expr)(cpos:Pos):Prop where
 base:attributeBase o m X.env (eval o X.env)=eval o X.env
 cf:((WV cpos (w5 [e] X.env)).all (λx=>!x.1)&&(backToKw cpos (keywordEach [] X.env)).all (λx=>x.1.isSome)
   && decide (([e]:List Expr).length+([]:List Keyword).length+(if([]:List Keyword).isEmpty then 0 else 1)<30))=true
 line:(apos.endLine == cpos.line)=true
 trees:WV cpos (w5 [e] X.env)=[(false,eval e X.env)]
structure M2(X:Cx)(o:Expr)(m:Str)(apos:Pos)(e f:Expr)(cpos:Pos):Prop where
 base:attributeBase o m X.env (eval o X.env)=eval o X.env
 cf:((WV cpos (w5 [e,f] X.env)).all (λx=>!x.1)&&(backToKw cpos (keywordEach [] X.env)).all (λx=>x.1.isSome)
   && decide (([e,f]:List Expr).length+([]:List Keyword).length+(if([]:List Keyword).isEmpty then 0 else 1)<30))=true
 line:(apos.endLine == cpos.line)=true
 trees:WV cpos (w5 [e,f] X.env)=[(false,eval e X.env),(false,eval f X.env)]
section
variable{X:Cx}{pins:List (wg × Obj)}{σ : St}{H:Hp}{s:wl}{a:wg}{y d:V}{u r:wf}{o:Option V}{A:w6}{E:wf->wl->Prop}
end
section
variable{X:Cx}{o e f:Expr}{apos cpos:Pos}{td ty tx:TE}
end
section
variable{X:Cx}{pins:List (wg × Obj)}{σ : St}{H:Hp}{s:wl}{a:wg}{kvs:List (Key × V)}{A:w6}{E:wf->wl->Prop}
end
section
variable{X:Cx}{pins:List (wg × Obj)}{σ : St}{H:Hp}{s:wl}{a:wg}{y:V}{u:wf}{A:w6}{E:wf->wl->Prop}
end
end L2
namespace HT
open PySem PyProof.Rows
section
open PySem.SeqAt
open PySem.AutoSeq1 (wpAny_loadPart')
open PySem.MeetsSeq PySem.MeetsSeq2 PySem.MeetsSeq3
end
section
variable{prog:wO}{w:wR}{A:w6}{E:wf->wl->Prop}{s:wl}
theorem RJ{t b:wg}{vs ws:List wf}{Q:wf->wl->Prop}(ht:IsTup s.heap t vs.toArray)(hb:IsTup s.heap b ws.toArray)(hv:vs≠[])
  (h1:ws=[]->Q (.ref t) s) (h2:ws≠[]->Q (.ref s.heap.objs.size) {s with heap:=s.heap.push {cls:=.type "tuple",data:=.seq (vs++ws).toArray}})
  (hsz:vs.length+ws.length<=w8):wq (model prog w) A (WB .Add (.ref t) (.ref b)) Q E s:=by
 obtain⟨⟨cls,dd,data,sl⟩,ho,hc,n,hd⟩:=id ht;obtain⟨⟨cls2,dd2,data2,sl2⟩,ho2,hc2,n2,hd2⟩:=id hb;simp only at hc hd hc2 hd2;subst hc hd hc2 hd2;have e:vs.toArray++ws.toArray=(vs++ws).toArray:=by simp
 by_cases hw:ws=[]
 ·exact concat_meets ⟨_,ho,rfl⟩ ⟨_,ho2,rfl⟩ noFill_tuple_add seq_tuple_add qP qK (qx _ _)
   (tuple_addW1 t b vs.toArray ws.toArray n n2 dd dd2 sl sl2 (by simpa using hv) (by simp[hw])) ⟨ho,ho2,h1 hw⟩
 ·refine concat_meets ⟨_,ho,rfl⟩ ⟨_,ho2,rfl⟩ noFill_tuple_add seq_tuple_add qP qK (qx _ _)
   (tuple_addW2 t b vs.toArray ws.toArray n n2 dd dd2 sl sl2 (by simpa using hv) (by simpa using hw) (by rw[wI,wI];exact hsz)) ⟨ho,ho2,?_⟩
  rw[e];exact h2 hw
def aZ(n d:Nat):Option Int->Nat
 | none=>d
 | some v=>if v<0 then(v+(n:Int)).toNat else min v.toNat n
theorem Rz(n d:Nat):aZ n d none=d:=rfl
theorem RH(n d k:Nat):aZ n d (some (k:Int))=min k n:=by
 show(if(k:Int)<0 then((k:Int)+(n:Int)).toNat else min (k:Int).toNat n)=min k n
 rw[if_neg (by lia),wW]
theorem SM(n d:Nat)(hd:d<=n)(o:Option Int):aZ n d o<=n:=by
 cases o with
 | none=>exact hd
 | some v =>
  show(if v<0 then(v+(n:Int)).toNat else min v.toNat n)<=n
  by_cases hv:v<0
  ·rw[if_pos hv];lia
  ·rw[if_neg hv];exact Xu _ _
theorem M0(v:Int)(n d:Nat):(if v<0 then max (v+(n:Int)) 0 else min v (n:Int))=((aZ n d (some v):Nat):Int):=by
 show(if v<0 then max (v+(n:Int)) 0 else min v (n:Int))=(((if v<0 then(v+(n:Int)).toNat else min v.toNat n):Nat):Int)
 by_cases hv:v<0
 ·simp only[if_pos hv];lia
 ·simp only[if_neg hv];lia
theorem zr4(lo hi:Option Int)(n:Nat):qo lo hi 1 (n:Int)=(((aZ n 0 lo:Nat):Int),((aZ n n hi:Nat):Int)):=by
 have h1:¬ ((1:Int)<0):=by lia
 unfold qo;simp only[h1,if_false];refine V9 ?_ ?_
 ·cases lo with
  | none=>rfl
  | some v=>exact M0 v n 0
 ·cases hi with
  | none=>rfl
  | some v=>exact M0 v n n
theorem zsp(i j:Nat):VA (i:Int) (j:Int) 1=j-i:=by
 unfold VA;have h1:(1:Int) > 0:=by lia
 simp only[h1,if_true,Int.ediv_one]
 split<;>lia
theorem KO{v:wf}{o:Option Int}{Q:Option Int->wl->Prop}(p:IsPart v o)(h:Q o s):wq (model prog w) A (X4 v) Q E s:=by
 cases p with
 | none=>exact slicePart_none h
 | int i t=>exact slicePart_int h
theorem zki{sl:wg}{vl vu:wf}{lo hi:Option Int}{n:Nat}{Q:Int × Int × Nat->wl->Prop}(hs:s.heap.IsSliceOf sl vl vu .none)(pl:IsPart vl lo)(pu:IsPart vu hi)
  (h:Q (((aZ n 0 lo:Nat):Int),1,aZ n n hi-aZ n 0 lo) s):wq (model prog w) A (Qq (.ref sl) (pure (n:Int))) Q E s:=by
 obtain⟨os,hos,hcs,hds⟩:=id hs;unfold Qq ui;refine we (we (vg hos hds (x:=vl) rfl (we (vg hos hds (x:=vu) rfl (we (vg hos hds (x:=.none) rfl (wp ?_)))))));refine we (slicePart_none ?_)
 show wq _ _ (if((1:Int) == 0)=true then _ else _) _ _ s
 rw[if_neg (by decide)];refine we (KO pl (we (KO pu (we (wp ?_)))))
 show wq _ _ (match qo lo hi 1 (n:Int)with | (lo,hi)=>pure (lo,(1:Int),VA lo hi 1)) _ _ s
 rw[zr4 lo hi n]
 show wq _ _ (pure (((aZ n 0 lo:Nat):Int),(1:Int),VA ((aZ n 0 lo:Nat):Int) ((aZ n n hi:Nat):Int) 1)) _ _ s
 rw[zsp];exact wp h
theorem Zx(xs:Array wf)(i k:Nat):((wt k).filterMap λ(m:Nat)=>xs[((i:Int)+(m:Int)*1).toNat]?).toArray=((xs.toList.drop i).take k).toArray:=by
 have e:(λ(m:Nat)=>xs[((i:Int)+(m:Int)*1).toNat]?)=λm=>xs[i+m]?:=by
  funext m
  have:((i:Int)+(m:Int)*1).toNat=i+m:=by lia
  rw[this]
 rw[e];have:=pick_run xs i k;rw[List.filterMap_map]at this;have e2:((λx=>xs[x]?) ∘ λx=>i+x)=λm=>xs[i+m]?:=rfl
 rw[e2]at this;rw[this]
theorem PJ{t sl:wg}{items:Array wf}{vl vu:wf}{lo hi:Option Int}{Q:wf->wl->Prop}(ht:IsTup s.heap t items)(hs:s.heap.IsSliceOf sl vl vu .none)(pl:IsPart vl lo)(pu:IsPart vu hi)
  (hw:¬ (aZ items.size 0 lo=0/\aZ items.size items.size hi=items.size))
  (h:Q (.ref s.heap.objs.size) {s with heap:=s.heap.push {cls:=.type "tuple",data:=.seq ((items.toList.drop (aZ items.size 0 lo)).take (aZ items.size items.size hi-aZ items.size 0 lo)).toArray}})
  (hsz:items.size<=w8):wq (model prog w) A (getItem (.ref t) (.ref sl)) Q E s:=by
 have htake:sizeOk (.seq ((items.toList.drop (aZ items.size 0 lo)).take (aZ items.size items.size hi-aZ items.size 0 lo)).toArray):=by
  show((items.toList.drop (aZ items.size 0 lo)).take (aZ items.size items.size hi-aZ items.size 0 lo)).toArray.size<=w8
  rw[wI,Wz,Wb,W0]
  lia
 have hj:aZ items.size items.size hi<=items.size:=SM _ _ (wo _) hi;obtain⟨os,hos,hcs,hds⟩:=id hs;have hTs:s.TypeIs (.ref sl) "slice":=⟨os,hos,hcs⟩;unfold getItem
 try with_reducible refine vN ?_
 first | refine we (wp ?_) | skip
 refine we (wpAny_sequenceKey ht.typeIs (by decide) ?_)
 refine we (wpAny_callSpecial?_slot (name:=vH "__getitem__") ht.typeIs VM
  (vL VM ht.typeIs entry_tuple_getitem ?_ (args_tuple_getitem _ _)))
 show wq _ _ (Qr (.ref t) >>= _) _ _ s
 refine we (tupleItemsOf_ ht ?_);refine we (wpAny_typeOf hTs ?_);rw[if_pos (by decide)];refine we (zki hs pl pu ?_)
 have hno:¬ ((((aZ items.size 0 lo:Nat):Int) == 0&&(1:Int) == 1&&(aZ items.size items.size hi-aZ items.size 0 lo) == items.size)=true):=by
  intro q;rw[wV,wV]at q;have q1:((aZ items.size 0 lo:Nat):Int)=0:=eq_of_beq q.1.1;have q2:aZ items.size items.size hi-aZ items.size 0 lo=items.size:=eq_of_beq q.2;exact hw ⟨by lia,by lia⟩
 show wq _ _ (if(((aZ items.size 0 lo:Nat):Int) == 0&&(1:Int) == 1&&(aZ items.size items.size hi-aZ items.size 0 lo) == items.size)=true then _ else _) _ _ s
 rw[if_neg hno,Zx]
 first
  | exact we (m:=VF _) (Wo (wp ⟨_,rfl,wp h⟩) htake)
  | exact we (m:=VF _) (Wo (we (wp (wp ⟨_,rfl,wp h⟩))) htake)
  | exact we (we (m:=VF _) (Wo (wp (wp ⟨_,rfl,wp h⟩)) htake))
  | exact we (we (m:=VF _) (Wo (wp ⟨_,rfl,wp h⟩) htake))
end
end HT
namespace L2
open PySem PySem.Spec PyProof.Rows
abbrev TO:=St->Hp->(Option Int->Hp->Prop)->Prop
def PO(X:Cx)(e:Option Expr)(t:TO):Prop :=
 ∀(pins:List (wg × Obj))(s:wl)(σ : St)(H:Hp)(Q:Option Int->Hp->Prop),Inv X pins σ H s->t σ H Q ->
  wq (model X.prog X.w) X.A (evalPart e X.env) (λu s'=>∃o H',Inv X pins σ H' s'/\IsPart u o/\Q o H') X.xe s
def JM:TO:=λ_ H Q=>Q none H
def MB(t:TE):TO:=λσ H Q=>t σ H λx H1=>∃i,x=.int i/\Q (some i) H1
theorem ML{ns:List Int} : ∀{us:List wf},aK (ns.map V.int) us->IntsAre us ns:=by
 induction ns with
 | nil=>intro us r;rw[qy]at r;cases r;exact .nil
 | cons n ns ih =>
  intro us r;rw[wZ]at r;cases r with
  | cons r1 r2 =>
   obtain⟨t,e⟩:=r1;subst e;exact .cons n t (ih r2)
section
variable{X:Cx}{e:Expr}{te:TE}{lo hi:Option Expr}{tl th:TO}{pos p2:Pos}
theorem jx:PO X none JM:=by
 intro pins s σ H Q I h;rw[evalPart_none];exact wp ⟨none,H,I,.none,h⟩
theorem jX(h:PE X e te):PO X (some e) (MB te):=by
 intro pins s σ H Q I hw;rw[evalPart_some];refine aH (h pins s σ H _ I hw) λu s1 ⟨x,H1,I1,r1,q1⟩=>?_
 obtain⟨i,rfl,q⟩:=q1;obtain⟨t,rfl⟩:=r1;exact⟨some i,H1,I1,.int i t,q⟩
def jb(X:Cx)(r:V->Option Int->Option Int->Hp->VK->Prop):Prop :=
 ∀(pins:List (wg × Obj))(s:wl)(σ : St)(H:Hp)(x:V)(v vl vu:wf)(lo hi:Option Int)(sl:wg)(Q:VK),Inv X pins σ H s->aX x v->s.heap.IsSliceOf sl vl vu .none->IsPart vl lo->IsPart vu hi->r x lo hi H Q ->
  ∃T id,typeLookup (.type T) "__getitem__"=pure (some (.builtin id))/\s.TypeIs v T/\wq (model X.prog X.w) X.A (getItem v (.ref sl)) (EP X pins σ Q) X.xe s
theorem jb.or{r r':V->Option Int->Option Int->Hp->VK->Prop}(h:jb X r)(h':jb X r'):jb X (λx lo hi H Q=>r x lo hi H Q\/r' x lo hi H Q):=by
 intro pins s σ H x v vl vu lo hi sl Q I rx hs pl pu q;rcases q with q | q
 ·exact h pins s σ H x v vl vu lo hi sl Q I rx hs pl pu q
 ·exact h' pins s σ H x v vl vu lo hi sl Q I rx hs pl pu q
def OS(r:V->Option Int->Option Int->Hp->VK->Prop)(te:TE)(tl th:TO):TE:=λσ H Q=>te σ H λx H1=>tl σ H1 λl H2=>th σ H2 λu H3=>r x l u H3 Q
theorem jC{r:V->Option Int->Option Int->Hp->VK->Prop}(hr:jb X r)(he:PE X e te)(hl:PO X lo tl)(hu:PO X hi th):PE X (.Subscript e (.Slice lo hi none p2) pos) (OS r te tl th):=by
 intro pins s σ H Q I h;refine Subscript_ (aH (he pins s σ H _ I h) λv s1 ⟨x,H1,I1,r1,q1⟩=>?_);refine wpAny_Slice (aH (hl pins s1 σ H1 _ I1 q1) λvl s2 ⟨l,H2,I2,pl,q2⟩=>aH (hu pins s2 σ H2 _ I2 q2) λvu s3 ⟨u,H3,I3,pu,q3⟩=>?_);rw[evalPart_none];refine wp ?_;have I4:Inv X pins σ H3 {s3 with heap:=s3.heap.push {cls:=.type "slice",data:=.fields #[vl,vu,.none]}}:=I3.kept (t':=s3.toks) λb ob q=>wn _ q
 obtain⟨T,id,hT,ht,hg⟩:=hr pins {s3 with heap:=s3.heap.push {cls:=.type "slice",data:=.fields #[vl,vu,.none]}} σ H3 x v vl vu l u s3.heap.objs.size Q I4 r1 (uA ..) pl pu q3
 show wq (model X.prog X.w) X.A (subscriptTail e (.Slice lo hi none p2) v (.ref s3.heap.objs.size)) (EP X pins σ Q) X.xe {s3 with heap:=s3.heap.push {cls:=.type "slice",data:=.fields #[vl,vu,.none]}}
 exact tail_any (ops:=[.ref s3.heap.objs.size,v]) ht hT hg (by with_unfolding_all rfl)
def jk(xs:List V)(lo hi:Option Int):List V:=(xs.drop (HT.aZ xs.length 0 lo)).take (HT.aZ xs.length xs.length hi-HT.aZ xs.length 0 lo)
theorem Mt(xs:List V)(lo hi:Option Int):(jk xs lo hi).length<=xs.length:=by
 unfold jk;rw[Wz,Wb]
 lia
def Jx(K:wb):V->Option Int->Option Int->Hp->VK->Prop:=λx lo hi H Q=>∃a xs,x=.ref a/\aU K H a xs /\
 ¬ (HT.aZ xs.length 0 lo=0/\HT.aZ xs.length xs.length hi=xs.length) /\ ∀p,H p=none->Q (.ref p) (upd H p (.tup (jk xs lo hi)))
theorem YY:jb X (Jx X.K):=by
 intro pins s σ H x v vl vu lo hi sl Q I rx hs pl pu h;obtain⟨a,xs,rfl,hx,hw,q⟩:=h;cases rx;obtain⟨its,r,ht,hz⟩:=I.tuple hx;have hlen:its.toArray.size=xs.length:=by rw[wI];exact r.length.symm
 refine⟨"tuple",_,VM.lookup,ht.typeIs,?_⟩;refine HT.PJ ht hs pl pu (by rw[hlen];exact hw) ?_ (by rw[hlen];exact hz);rw[hlen];refine⟨.ref s.heap.objs.size,_,I.laid (t':=s.toks) (o:=.tup (jk xs lo hi)) (λb ob q=>wn _ q) (wo _) ?_,rfl,q _ (I.aE.fresh (wo _))⟩;exact⟨Wd (Mt xs lo hi) hz,_,(r.drop (HT.aZ xs.length 0 lo)).take (HT.aZ xs.length xs.length hi-HT.aZ xs.length 0 lo),qR _ _⟩
def OG(K:wb):R2:=λx y H Q=>∃a b xs ys,x=.ref a/\y=.ref b/\aU K H a xs/\aU K H b ys/\xs≠[]/\xs.length+ys.length<=w8 /\
 (ys=[]->Q (.ref a) H)/\(ys≠[]->∀p,H p=none->Q (.ref p) (upd H p (.tup (xs++ys))))
theorem aK.zX{xs:List V}{us:List wf}(r:aK xs us):us=[] ↔ xs=[]:=by
 cases r with
 | nil=>simp
 | cons _ _=>simp
theorem SW:aJ X (WB .Add) (OG X.K):=by
 intro pins s σ H x y v u Q I rx ry h;obtain⟨a,b,xs,ys,rfl,rfl,ha,hb,hx,hz,q1,q2⟩:=h;cases rx;cases ry;obtain⟨its,r1,p1,_⟩:=I.tuple ha;obtain⟨its2,r2,p2,_⟩:=I.tuple hb;refine HT.RJ p1 p2 (λz=>hx (r1.zX.mp z)) (λz=>⟨.ref a,H,I,rfl,q1 (r2.zX.mp z)⟩) (λz=>?_) (by rw[<- r1.length,<- r2.length];exact hz);refine⟨.ref s.heap.objs.size,_,I.laid (t':=s.toks) (o:=.tup (xs++ys)) (λb ob q=>wn _ q) (wo _) ?_,rfl,q2 (λw=>z (r2.zX.mpr w)) _ (I.aE.fresh (wo _))⟩;exact⟨by rw[wS];exact hz,_,r1.append r2,qR _ _⟩
end
def h9(n:Nat)(i:Int):Option Nat:=if 0<=i then(if i<n then some i.toNat else none)else if -(n:Int)<=i then some (i+n).toNat else none
def gp{α : Type}(xs:List α)(i:Int):Option α:=(h9 xs.length i).bind λj=>xs[j]?
theorem HK{n:Nat}{i:Int}{j:Nat}(h:h9 n i=some j):seqIndex? i n=some j/\j<n /\ -(n:Int)<=i/\i<n:=by
 unfold h9 at h
 by_cases h0:0<=i
 ·rw[if_pos h0]at h
  by_cases h1:i<n
  ·rw[if_pos h1]at h
   have e:i.toNat=j:=wP h;exact⟨by rw[seqIndex_of h0 h1,e],by lia,by lia,h1⟩
  ·rw[if_neg h1]at h;cases h
 ·rw[if_neg h0]at h
  by_cases h1 : -(n:Int)<=i
  ·rw[if_pos h1]at h
   have e:(i+n).toNat=j:=wP h;exact⟨by rw[seqIndex_neg (by lia) h1,e],by lia,h1,by lia⟩
  ·rw[if_neg h1]at h;cases h
theorem AS{α : Type}{xs:List α}{i:Int}{v : α}(h:gp xs i=some v):∃j,seqIndex? i xs.length=some j/\xs[j]? = some v/\j<xs.length /\ -(xs.length:Int)<=i/\i<xs.length:=by
 unfold gp at h;cases e:h9 xs.length i with
 | none=>rw[e]at h;cases h
 | some j =>
  rw[e]at h;obtain⟨h1,h2,h3,h4⟩:=HK e;exact⟨j,h1,h,h2,h3,h4⟩
theorem jR{α : Type}{xs:List α}{j:Nat}{v : α}(h:xs[j]? = some v):gp xs (j:Int)=some v:=by
 have hj:j<xs.length:=(WU.mp h).1
 have e:h9 xs.length (j:Int)=some j:=by
  unfold h9;rw[if_pos (by lia),if_pos (by lia)];simp
 unfold gp;rw[e];exact h
def zyB(b:Expr):Prop:=∀o i,subscripted b false o i=operate [o,i] (getItem o i)
def fV(X:Cx)(r:R2):Prop :=
 ∀(value slice:Expr)(pins:List (wg × Obj))(s:wl)(σ : St)(H:Hp)(x y:V)(v u:wf)(Q:VK),Inv X pins σ H s->aX x v->aX y u->r x y H Q ->
  subscripted slice false v u=operate [v,u] (getItem v u)->wq (model X.prog X.w) X.A (subscriptTail value slice v u) (EP X pins σ Q) X.xe s
def IC(X:Cx)(id:String)(r:V->List V->Hp->VK->Prop):Prop :=
 ∀(pins:List (wg × Obj))(s:wl)(σ : St)(H:Hp)(x:V)(xs:List V)(v:wf)(us:List wf)(Q:VK),Inv X pins σ H s->aX x v->aK xs us->r x xs H Q ->
  wq (model X.prog X.w) X.A (call (.builtin id) (v::us)) (EP X pins σ Q) X.xe s
section
variable{X:Cx}{a b:Expr}{ta tb:TE}{pos:Pos}
theorem fV.or{r r':R2}(h:fV X r)(h':fV X r'):fV X (λx y H Q=>r x y H Q\/r' x y H Q):=by
 intro value slice pins s σ H x y v u Q I rx ry q hs;rcases q with q | q
 ·exact h value slice pins s σ H x y v u Q I rx ry q hs
 ·exact h' value slice pins s σ H x y v u Q I rx ry q hs
theorem d5{r:R2}(hr:fV X r)(ha:PE X a ta)(hb:PE X b tb)(hs:zyB b):PE X (.Subscript a b pos) (kS r ta tb):=by
 intro pins s σ H Q I h;exact Subscript_ (AG ha hb I h λv u s2 x y H2 I2 rx ry q=>hr a b pins s2 σ H2 x y v u Q I2 rx ry q (hs _ _))
def L5(K:wb):R2:=λx y H Q=>∃p xs i v,x=.ref p/\y=.int i/\aI K H p xs/\gp xs i=some v/\Q v H
def Iu(K:wb):R2:=λx y H Q=>∃p xs i v,x=.ref p/\y=.int i/\aU K H p xs/\gp xs i=some v/\Q v H
def Py:R2:=λx y H Q=>∃z i c,x=.str z/\y=.int i/\z.length<=w8/\gp z.cps.toList i=some c/\Q (.str ⟨#[c]⟩) H
theorem zyl:fV X (L5 X.K):=by
 intro value slice pins s σ H x y v u Q I rx ry h hs;obtain⟨p,xs,i,z,rfl,rfl,hq,he,q⟩:=h;cases rx;obtain⟨t,rfl⟩:=ry;obtain⟨its,r,pl,hz⟩:=I.list hq;obtain⟨j,h1,h2,h3,h4,h5⟩:=AS he;obtain⟨w,ew,rw'⟩:=r.get h2;have hl:=r.length;have hn:=mP;have fin:EP X pins σ Q w s:=⟨z,H,I,rw',q⟩
 by_cases h0:0<=i
 ·have hj:i.toNat=j:=by
   rw[seqIndex_of h0 h5]at h1;exact wP h1
  exact item_listR pl.isList h0 (by lia) (by rw[hj];simpa using ew) fin hs
 ·have hj:(i+(its.toArray.size:Int)).toNat=j:=by
   rw[seqIndex_neg (by lia) h4]at h1;rw[wI,<- hl];exact wP h1
  exact subscriptTail_builtinR (x:=w) pl.isList.typeIs slot_list_getitem.lookup
   (wpAny_getItem_list_neg (Q:=λr s'=>r=w/\EP X pins σ Q r s') pl.isList (by lia) (by rw[wI]<;>lia) (by lia) (by rw[hj];simpa using ew) ⟨rfl,fin⟩) hs
theorem zBb:fV X (Iu X.K):=by
 intro value slice pins s σ H x y v u Q I rx ry h hs;obtain⟨p,xs,i,z,rfl,rfl,hq,he,q⟩:=h;cases rx;obtain⟨t,rfl⟩:=ry;obtain⟨its,r,pl,hz⟩:=I.tuple hq;obtain⟨j,h1,h2,h3,h4,h5⟩:=AS he;obtain⟨w,ew,rw'⟩:=r.get h2;have hl:=r.length;have hn:=mP;have fin:EP X pins σ Q w s:=⟨z,H,I,rw',q⟩
 exact subscriptTail_builtinR (x:=w) pl.typeIs slot_tuple_getitem.lookup
  (getItem_tuple (j:=j) (Q:=λr s'=>r=w/\EP X pins σ Q r s') pl (by lia) (by lia) (by rw[wI,<- hl];exact h1) (by simpa using ew) ⟨rfl,fin⟩) hs
theorem zAY:fV X Py:=by
 intro value slice pins s σ H x y v u Q I rx ry h hs;obtain⟨z,i,c,rfl,rfl,hz,he,q⟩:=h;obtain⟨t,rfl⟩:=rx;obtain⟨t',rfl⟩:=ry;obtain⟨j,h1,h2,h3,h4,h5⟩:=AS he;have hl:z.cps.toList.length=z.length:=by simp[Str.length]
 rw[hl]at h1 h4 h5;have hn:=mP
 exact tail_any (typeIs_str s z t) slot_str_getitem.lookup (getItem_str (c:=c) (by
  have e1:decide (i < -(2^63:Int))=false:=decide_eq_false (by lia);have e2:decide (i ≥ 2^63)=false:=decide_eq_false (by lia);rw[e1,e2,Bool.or_false]) (by rw[h1];simpa using h2) ⟨.str ⟨#[c]⟩,H,I.tok _,⟨_,rfl⟩,q⟩) hs
def cK(K:wb):R2:=λx y H Q=>L5 K x y H Q\/Iu K x y H Q\/Py x y H Q
theorem dy:fV X (cK X.K):=zyl.or (zBb.or zAY)
theorem zsz(its:List wf)(n j:Nat)(u:wf):QD (·.setIfInBounds j u) {cls:=.type "list",data:=.seq its.toArray n} = {cls:=.type "list",data:=.seq (its.set j u).toArray n}:=by
 simp[QD]
theorem Inv.lst{pins:List (wg × Obj)}{σ : St}{H:Hp}{s:wl}{p:wg}{xs:List V}(I:Inv X pins σ H s)(h:H p=some (.lst xs)) :
  ∃(its:List wf)(n:Nat),aK xs its/\s.heap.get? p=some {cls:=.type "list",data:=.seq its.toArray n}/\xs.length<=w8:=by
 obtain⟨z,its,n,r,e⟩:=I.aE p _ h;exact⟨its,n,r,e,z⟩
theorem Inv.RM{pins:List (wg × Obj)}{σ : St}{H:Hp}{s:wl}{p:wg}{xs ys:List V}{its its':List wf}{n n':Nat}{f:Obj->Obj}(I:Inv X pins σ H s)(h:H p=some (.lst xs))
  (ho:s.heap.get? p=some {cls:=.type "list",data:=.seq its.toArray n}) (hf:f {cls:=.type "list",data:=.seq its.toArray n} = {cls:=.type "list",data:=.seq its'.toArray n'}) (r:aK ys its') (hz:ys.length<=w8) (t:Nat) :
  Inv X pins σ (upd H p (.lst ys)) {s with heap:=s.heap.update p f,toks:=t}:=by
 have e:(s.heap.update p f).get? p=some {cls:=.type "list",data:=.seq its'.toArray n'}:=by
  rw[Vl f ho (by rw[hf]<;>rfl),hf]
 refine I.write (x:=p) (e:=p) (by rw[h];trivial) (.inl rfl) (λb u hb q=>(Ws _ _ (We hb)).trans q) ⟨_,e⟩ ?_;exact⟨hz,its',n',r,e⟩
def OF:V->V->V->Hp->(Hp->Prop)->Prop:=λo i v H Q=>∃p xs k j,o=.ref p/\i=.int k/\H p=some (.lst xs)/\h9 xs.length k=some j/\Q (upd H p (.lst (xs.set j v)))
theorem ym:Lz X OF:=by
 intro pins s σ H o i v ov iv u Q I ro ri rv h;obtain⟨p,xs,k,j,rfl,rfl,hp,hj,q⟩:=h;cases ro;obtain⟨t,rfl⟩:=ri;obtain⟨its,n,r,ho,hz⟩:=I.lst hp;obtain⟨h1,h2,h3,h4⟩:=HK hj;have hl:=r.length;have hn:=mP
 have I':Inv X pins σ (upd H p (.lst (xs.set j v))) {s with heap:=s.heap.update p (QD (·.setIfInBounds j u))} :=
  I.RM hp ho (zsz its n j u) (r.set rv j) (by rw[Vm];exact hz) s.toks
 by_cases h0:0<=k
 ·have hk:k.toNat=j:=by
   rw[seqIndex_of h0 h4]at h1;exact wP h1
  exact PySem.W.ki_setAt ho h0 (by lia) (by rw[wI,<- hl];exact h4) (by rw[hk];exact⟨_,I',q⟩)
 ·have hk:(k+(its.toArray.size:Int)).toNat=j:=by
   rw[seqIndex_neg (by lia) h3]at h1;rw[wI,<- hl];exact wP h1
  exact PySem.W.ki_setBack ho (by lia) (by rw[wI,<- hl];exact h3) (by lia) (by rw[hk];exact⟨_,I',q⟩)
theorem zpJ(lo hi:Option Int)(n:Nat):(ql lo hi none n).1=((HT.aZ n 0 lo:Nat):Int)/\(ql lo hi none n).2.1=((HT.aZ n n hi:Nat):Int)/\(ql lo hi none n).2.2=1:=by
 refine⟨?_,?_,rfl⟩
 ·cases lo with
  | none=>simp[ql,HT.aZ]
  | some i =>
   simp only[ql,HT.aZ,Xv,show(1:Int) > 0 by decide,if_true]
   by_cases h:i<0
   ·simp only[h,if_true]<;>lia
   ·simp only[h,if_false]<;>lia
 ·cases hi with
  | none=>simp[ql,HT.aZ]
  | some i =>
   simp only[ql,HT.aZ,Xv,show(1:Int) > 0 by decide,if_true]
   by_cases h:i<0
   ·simp only[h,if_true]<;>lia
   ·simp only[h,if_false]<;>lia
theorem znv(its:List wf)(lo hi:Option Int):slicePick its.toArray lo hi none=((its.drop (HT.aZ its.length 0 lo)).take (HT.aZ its.length its.length hi-HT.aZ its.length 0 lo)).toArray:=by
 obtain⟨h1,h2,h3⟩:=zpJ lo hi its.toArray.size;unfold slicePick;rw[h1,h2,h3];simp only[sliceRange_one,pick_run,wI]<;>rfl
def HC(K:wb):V->Option Int->Option Int->Hp->VK->Prop:=λx lo hi H Q=>∃a xs,x=.ref a/\aI K H a xs /\ ∀p,H p=none->Q (.ref p) (upd H p (.lst (jk xs lo hi)))
theorem Y2:jb X (HC X.K):=by
 intro pins s σ H x v vl vu lo hi sl Q I rx hs pl pu h;obtain⟨a,xs,rfl,hx,q⟩:=h;cases rx;obtain⟨its,r,ht,hz⟩:=I.list hx;have hlen:=r.length;refine⟨"list",_,slot_list_getitem.lookup,ht.isList.typeIs,?_⟩;refine wpAny_getItem_list_slice ht.isList hs pl pu .none (by simp) ?_ (by rw[wI]<;>lia);rw[znv,<- hlen];refine⟨.ref s.heap.objs.size,_,I.laid (t':=s.toks) (o:=.lst (jk xs lo hi)) (λb ob q=>wn _ q) (wo _) ?_,rfl,q _ (I.aE.fresh (wo _))⟩;exact⟨Wd (Mt xs lo hi) hz,_,0,(r.drop (HT.aZ xs.length 0 lo)).take (HT.aZ xs.length xs.length hi-HT.aZ xs.length 0 lo),wN _ rfl⟩
def jW:V->Bool
 | .bM=>true
 | .bl _=>true
 | .int _=>true
 | .str _=>true
 | _=>false
def kC:V->V->Bool
 | .bM,.bM=>true
 | .bl a,.bl b=>a == b
 | .bl a,.int b=>(if a then 1 else 0) == b
 | .int a,.bl b=>a == (if b then 1 else 0)
 | .int a,.int b=>a == b
 | .str a,.str b=>a == b
 | _,_=>false
theorem UN{A:w6}{s:wl}{y x:V}{u v:wf}(ry:aX y u)(rx:aX x v)(fy:jW y=true)(fx:jW x=true):SeqAt.EqAt A s u v (kC y x):=by
 cases y with
 | bM =>
  cases ry;cases x with
  | bM=>cases rx;exact SeqAt.EqAt.same _
  | bl b=>cases rx;exact SeqAt.EqAt.none_bool b
  | int b=>obtain⟨t,rfl⟩:=rx;exact SeqAt.EqAt.none_int b t
  | str b=>obtain⟨t,rfl⟩:=rx;exact SeqAt.EqAt.none_str b t
  | _=>exact absurd (show false=true from fx) vj
 | bl a =>
  cases ry;cases x with
  | bM=>cases rx;exact SeqAt.EqAt.bool_none a
  | bl b=>cases rx;exact SeqAt.EqAt.bool_bool a b
  | int b=>obtain⟨t,rfl⟩:=rx;exact SeqAt.EqAt.bool_int a b t
  | str b=>obtain⟨t,rfl⟩:=rx;exact SeqAt.EqAt.bool_str a b t
  | _=>exact absurd (show false=true from fx) vj
 | int a =>
  obtain⟨t',rfl⟩:=ry;cases x with
  | bM=>cases rx;exact SeqAt.EqAt.int_none a t'
  | bl b=>cases rx;exact SeqAt.EqAt.int_bool a t' b
  | int b=>obtain⟨t,rfl⟩:=rx;exact SeqAt.EqAt.int_int a t' b t
  | str b=>obtain⟨t,rfl⟩:=rx;exact xL a t' b t
  | _=>exact absurd (show false=true from fx) vj
 | str a =>
  obtain⟨t',rfl⟩:=ry;cases x with
  | bM=>cases rx;exact SeqAt.EqAt.str_none a t'
  | bl b=>cases rx;exact SeqAt.EqAt.str_bool a t' b
  | int b=>obtain⟨t,rfl⟩:=rx;exact xM a t' b t
  | str b=>obtain⟨t,rfl⟩:=rx;exact SeqAt.EqAt.str_str a t' b t
  | _=>exact absurd (show false=true from fx) vj
 | _=>exact absurd (show false=true from fy) vj
def fA(x:V)(u:wf):Bool:=match u with
 | .none=>kC .bM x
 | .bool b=>kC (.bl b) x
 | .int i _=>kC (.int i) x
 | .str z _=>kC (.str z) x
 | _=>false
theorem Nn{x y:V}{u:wf}(r:aX y u)(f:jW y=true):fA x u=kC y x:=by
 cases y with
 | bM=>cases r;rfl
 | bl b=>cases r;rfl
 | int i=>obtain⟨t,rfl⟩:=r;rfl
 | str z=>obtain⟨t,rfl⟩:=r;rfl
 | _=>exact absurd (show false=true from f) vj
theorem pP{x:V} : ∀{xs:List V}{us:List wf},aK xs us->xs.all jW=true->us.any (fA x)=xs.any λy=>kC y x
 | _,_,.nil,_=>rfl
 | y::xs,u::us,.cons r t,f=>by
  rw[xz,wV]at f;rw[WX,WX,Nn r f.1,pP t f.2]
theorem om{A:w6}{s:wl}{x:V}{v:wf}(rx:aX x v)(fx:jW x=true):∀{xs:List V}{us:List wf},aK xs us->xs.all jW=true->∀u∈us,SeqAt.EqAt A s u v (fA x u)
 | _,_,.nil,_=>λu hu=>by cases hu
 | y::xs,u::us,.cons r t,f=>λu' hu=>by
  rw[xz,wV]at f;rcases wQ.mp hu with rfl | hu
  ·rw[Nn r f.1];exact UN r rx f.1 fx
  ·exact om rx fx t f.2 u' hu
def yE(x:V)(xs:List V):Bool:=xs.any λy=>kC y x
def kB(K:wb)(neg:Bool):R2:=λx y H Q=>∃p xs,y=.ref p/\(aI K H p xs\/aU K H p xs)/\jW x=true/\xs.all jW=true/\Q (.bl (if neg then !yE x xs else yE x xs)) H
theorem zva:aJ X (wT .In) (kB X.K false):=by
 intro pins s σ H x y v u Q I rx ry h;obtain⟨p,xs,rfl,hq,fx,fs,q⟩:=h;cases ry;rcases hq with hq | hq
 ·obtain⟨its,r,pl,hz⟩:=I.list hq
  refine SeqAt.in_listAt (fA x) pl.isList (λw hw=>om rx fx r fs w (by simpa using hw)) ⟨.bl _,H,I,rfl,?_⟩;rw[show its.toArray.any (fA x)=its.any (fA x) by simp,pP r fs];exact q
 ·obtain⟨its,r,pl,hz⟩:=I.tuple hq
  refine SeqAt.in_tupleAt (fA x) pl (λw hw=>om rx fx r fs w (by simpa using hw)) ⟨.bl _,H,I,rfl,?_⟩;rw[show its.toArray.any (fA x)=its.any (fA x) by simp,pP r fs];exact q
theorem zoQ:aJ X (wT .NotIn) (kB X.K true):=by
 intro pins s σ H x y v u Q I rx ry h;obtain⟨p,xs,rfl,hq,fx,fs,q⟩:=h;cases ry;rcases hq with hq | hq
 ·obtain⟨its,r,pl,hz⟩:=I.list hq
  refine SeqAt.notIn_listAt (fA x) pl.isList (λw hw=>om rx fx r fs w (by simpa using hw)) ⟨.bl _,H,I,rfl,?_⟩;rw[show its.toArray.any (fA x)=its.any (fA x) by simp,pP r fs];exact q
 ·obtain⟨its,r,pl,hz⟩:=I.tuple hq
  refine SeqAt.notIn_tupleAt (fA x) pl (λw hw=>om rx fx r fs w (by simpa using hw)) ⟨.bl _,H,I,rfl,?_⟩;rw[show its.toArray.any (fA x)=its.any (fA x) by simp,pP r fs];exact q
theorem zpc:aY X (.builtin "len") (λxs H Q=>∃p ys,xs=[.ref p]/\(aI X.K H p ys\/aU X.K H p ys)/\Q (.int ys.length) H):=by
 intro pins s σ H xs us Q I r h;obtain⟨p,ys,rfl,hq,q⟩:=h;obtain⟨u,rfl,rx⟩:=jj r;cases rx;have hn:=mP;rcases hq with hq | hq
 ·obtain⟨its,r',pl,hz⟩:=I.list hq
  have hlen:=r'.length;exact Calls.call_len_list pl.isList (by simp only[wI]<;>lia) ⟨.int ys.length,H,I.tok _,⟨s.toks+1,by rw[wI,hlen]⟩,q⟩
 ·obtain⟨its,r',pl,hz⟩:=I.tuple hq
  have hlen:=r'.length;exact len_tuple pl (by simp only[wI]<;>lia) ⟨.int ys.length,H,I.tok _,⟨s.toks+1,by rw[wI,hlen]⟩,q⟩
theorem zpa:aY X (.type "list") (λxs H Q=>∃p ys,xs=[.ref p]/\(aI X.K H p ys\/aU X.K H p ys) /\ ∀l,H l=none->Q (.ref l) (upd H l (.lst ys))):=by
 intro pins s σ H xs us Q I r h;obtain⟨p,ys,rfl,hq,q⟩:=h;obtain⟨u,rfl,rx⟩:=jj r;cases rx
 have fin:∀(its:List wf),aK ys its->ys.length<=w8->∀(h':wM)(c':Nat),(∀b o',s.heap.get? b=some o'->h'.get? b=some o') ->
     h'.get? s.heap.objs.size=some {cls:=.type "list",dict:=none,data:=.seq its.toArray c',slots:=#[]}->EP X pins σ Q (.ref s.heap.objs.size) {s with heap:=h'}:=λits r' hz h' c' kp e =>
   ⟨.ref s.heap.objs.size,_,I.laid (t':=s.toks) kp (wo _) (show dq X.prog X.w _ h' _ (.lst ys)from⟨hz,its,c',r',e⟩),rfl,q _ (I.aE.fresh (wo _))⟩
 rcases hq with hq | hq
 . obtain⟨its,r',pl,hz⟩:=I.list hq
   have hlen:=r'.length;obtain⟨o,ho,hc,n,hd⟩:=pl.isList;exact call_list_seq p (.inl rfl) ho hc hd (λh' c' kp e=>fin its r' hz h' c' kp e) (by simp only[wI]<;>lia)
 . obtain⟨its,r',pl,hz⟩:=I.tuple hq
   have hlen:=r'.length;obtain⟨o,ho,hc,n,hd⟩:=pl;exact call_list_seq p (.inr rfl) ho hc hd (λh' c' kp e=>fin its r' hz h' c' kp e) (by simp only[wI]<;>lia)
theorem znp:aY X (.type "tuple") (λxs H Q=>∃p ys,xs=[.ref p]/\((aI X.K H p ys /\ ∀l,H l=none->Q (.ref l) (upd H l (.tup ys)))\/(aU X.K H p ys/\Q (.ref p) H))):=by
 intro pins s σ H xs us Q I r h;obtain⟨p,ys,rfl,h⟩:=h;obtain⟨u,rfl,rx⟩:=jj r;cases rx;rcases h with⟨hq,q⟩ | ⟨hq,q⟩
 ·obtain⟨its,r',pl,hz⟩:=I.list hq
  have hlen:=r'.length;refine call_tuple_list pl.isList (λh' kp=>?_) (by simp only[wI]<;>lia);have I1:Inv X pins σ H {s with heap:=h'}:=I.kept (t':=s.toks) kp
  have I2:Inv X pins σ (upd H h'.objs.size (.tup ys)) {s with heap:=h'.push {cls:=.type "tuple",data:=.seq its.toArray}} :=
   I1.laid (t':=s.toks) (λb o e=>wn _ e) (wo _) (show dq X.prog X.w _ _ _ (.tup ys)from⟨hz,its,r',qR _ _⟩)
  exact⟨.ref h'.objs.size,_,I2,rfl,q _ (I1.aE.fresh (wo _))⟩
 ·obtain⟨its,r',pl,hz⟩:=I.tuple hq
  exact call_tuple_same pl ⟨.ref p,H,I,rfl,q⟩
def tF(K:wb)(T:String)(x:V)(H:Hp):Prop:=match x with
 | .str _=>T="str"
 | .int _=>T="int"
 | .ref p=>(T="list" /\ ∃xs,aI K H p xs)\/(T="tuple" /\ ∃o,K.lookup p=some o/\o.cls=.type "tuple"/\o.dict=none) \/
     (T="dict"/\((∃kvs,H p=some (.dK kvs)) \/ ∃kvs,H p=some (.dT kvs)))\/(T="set" /\ ∃S n,H p=some (.set S n))
 | _=>False
theorem Yk{pins:List (wg × Obj)}{σ : St}{H:Hp}{s:wl}{T:String}{x:V}{v:wf}(I:Inv X pins σ H s)(r:aX x v)(ty:tF X.K T x H) :
  s.TypeIs v T /\ ∀a,v=.ref a->∃ob,s.heap.get? a=some ob/\ob.dict=none:=by
 cases x with
 | str z =>
  obtain⟨t,rfl⟩:=r;cases (show T="str" from ty);exact⟨typeIs_str s z t,λ_ e=>nomatch e⟩
 | int i =>
  obtain⟨t,rfl⟩:=r;cases (show T="int" from ty);exact⟨typeIs_int s i t,λ_ e=>nomatch e⟩
 | ref p =>
  cases r;rcases ty with⟨rfl,xs,hq⟩ | ⟨rfl,o,hk,hc,hd⟩ | ⟨rfl,hk⟩ | ⟨rfl,S,n,hk⟩
  ·obtain⟨its,_,pl,_⟩:=I.list hq
   refine⟨pl.isList.typeIs,λa e=>?_⟩;cases e;obtain⟨o,n,e,c,hd,_⟩:=pl;exact⟨o,e,hd⟩
  ·refine⟨⟨o,I.cW p o hk,hc⟩,λa e=>?_⟩
   cases e;exact⟨o,I.cW _ o hk,hd⟩
  ·have z:∃o,s.heap.get? p=some o/\o.ExactDict:=by
    rcases hk with⟨kvs,hk⟩ | ⟨kvs,hk⟩
    ·obtain⟨_,_,_,_,o,_,_,e,ex,_⟩:=I.aE p _ hk
     exact⟨o,e,ex⟩
    ·obtain⟨_,_,_,_,o,_,_,e,ex,_⟩:=I.aE p _ hk
     exact⟨o,e,ex⟩
   obtain⟨o,e,ex⟩:=z;refine⟨⟨o,e,ex.1⟩,λa e2=>?_⟩;cases e2;exact⟨o,e,ex.2.1⟩
  ·obtain⟨o,_,_,_,e,ex,_⟩:=I.aE p _ hk
   refine⟨⟨o,e,ex.1⟩,λa e2=>?_⟩;cases e2;exact⟨o,e,ex.2.1⟩
 | _=>exact Wp ty
def Od(K:wb)(T:String)(r:V->List V->Hp->VK->Prop)(to:TE)(t:TA):TE:=λσ H Q=>to σ H λx H1=>tF K T x H1/\t σ H1 λxs H2=>r x xs H2 Q
variable{o e:Expr}{es:List Expr}{to:TE}{t:TA}{name:Str}{apos cpos:Pos}{T id:String}{r:V->List V->Hp->VK->Prop}
theorem iO(pa:PlainAttrs T)(slot:Slot T name id)(hty:typeOf (.builtin id)=pure (.type "method_descriptor"))(hm:IC X id r)(ho:PE X o to)(ha:PA X (e::es) t)
  (hbase:attributeBase o name X.env (eval o X.env)=eval o X.env:=by rfl)
  (hfew:((WV cpos (w5 (e::es) X.env)).all (λx=>!x.1)&&(backToKw cpos (keywordEach [] X.env)).all (λx=>x.1.isSome)
   && decide ((e::es).length+([]:List Keyword).length+(if([]:List Keyword).isEmpty then 0 else 1)<30))=true:=by rfl)
  (hline:(apos.endLine == cpos.line)=true:=by rfl) (hs:w5 (e::es) X.env=(false,eval e X.env)::w5 es X.env:=by rfl) (hplain:(WV cpos (w5 es X.env)).any (·.1)=false:=by rfl) :
  PE X (.Call (.Attribute o name apos) (e::es) [] cpos) (Od X.K T r to t):=by
 intro pins s σ H Q I h;refine wpAny_Call_method_late hbase hfew hline rfl (aH (ho pins s σ H _ I h) λv s1 ⟨x,H1,I1,r1,ty,q1⟩=>?_);obtain⟨h1,h2⟩:=Yk I1 r1 ty;refine⟨T,id,pa,slot,hty,h1,h2,?_⟩;have hA:=ha cpos pins s1 σ H1 _ I1 q1;rw[hs]at hA ⊢;refine Calls.callWith_builtin (by show(false || (WV cpos (w5 es X.env)).any (·.1))=false;rw[hplain]<;>rfl) (xn ?_);exact aH hA λus s2 ⟨vs,H2,I2,r2,q2⟩=>hm pins s2 σ H2 x vs v us Q I2 r1 r2 q2
/- xs.append(e),list.index on a module's tuple .. are IC facts of 06m -/
end
def Po(X:Cx)(id:String)(r:V->List V->Hp->VK->Prop):Prop :=
 ∀(pins:List (wg × Obj))(s:wl)(σ : St)(H:Hp)(x:V)(xs:List V)(v:wf)(us:List wf)(Q:VK),Inv X pins σ H s->aX x v->aK xs us->r x xs H Q ->
  wq (model X.prog X.w) X.A (call (.builtin id) (v::us)) (EP X pins σ Q) X.xe s
theorem aK.one:∀{x:V}{us:List wf},aK [x] us->∃u,us=[u]/\aX x u
 | _,_,.cons r .nil=>⟨_,rfl,r⟩
theorem aK.eraseIdx:∀{xs:List V}{us:List wf}(i:Nat),aK xs us->aK (xs.eraseIdx i) (us.eraseIdx i)
 | _,_,_,.nil=>.nil
 | _,_,0,.cons _ t=>t
 | _,_,i+1,.cons r t=>.cons r (aK.eraseIdx i t)
theorem aK.rep{xs:List V}{us:List wf}(h:aK xs us):∀k:Nat,aK (w9 k xs).flatten (w9 k us).flatten
 | 0=>.nil
 | k+1=>by
  rw[VL,VL,Vs,Vs];exact aK.append h (aK.rep h k)
theorem OR{α : Type} : ∀(l:List α)(i:Nat),(l.eraseIdx i).length<=l.length
 | [],_=>wo _
 | _::_,0=>Nat.le_succ _
 | _::r,i+1=>Nat.succ_le_succ (OR r i)
theorem HB(its:List wf):∀(k:Nat)(acc:List wf),
  XQ (λx1 x2=>x1++x2) acc.toArray (w9 k its.toArray)=(acc++(w9 k its).flatten).toArray
 | 0,acc=>by simp
 | k+1,acc=>by
  have e:acc.toArray++its.toArray=(acc++its).toArray:=by simp
  have e2:(acc++its)++(w9 k its).flatten=acc++(w9 (k+1) its).flatten:=by
   rw[VL,Vs,Vt]
  rw[<- e2,<- HB its k (acc++its),<- e,VL,List.foldl_cons]
section
variable{X:Cx}{pins:List (wg × Obj)}{σ : St}{H:Hp}{s:wl}{l b:wg}{xs ys zs:List V}
theorem Inv.Hj{its its':List wf}{n:Nat}{f:Array wf->Array wf}{t':Nat}(I:Inv X pins σ H s)(hH:H l=some (.lst xs))
  (e:s.heap.get? l=some {cls:=.type "list",data:=.seq its.toArray n}) (hf:f its.toArray=its'.toArray) (hv:aK ys its') (hz:ys.length<=w8) :
  Inv X pins σ (upd H l (.lst ys)) {s with heap:=s.heap.update l (QD f),toks:=t'}:=by
 have q:=PySem.IsL.update e f;rw[hf]at q;refine I.write (x:=l) (e:=l) (by rw[hH];exact trivial) (.inl rfl) (λb' u hb hu=>(Ws s.heap (QD f) (We hb)).trans hu) ⟨_,q⟩ ?_;exact⟨hz,its',_,hv,q⟩
theorem Inv.z5{its:List wf}{t':Nat}(I:Inv X pins σ H s)(hv:aK ys its)(hz:ys.length<=w8) :
  Inv X pins σ (upd H s.heap.objs.size (.lst ys)) {s with heap:=s.heap.push {cls:=.type "list",data:=.seq its.toArray},toks:=t'} :=
 I.laid (λ_ _ q=>wn _ q) (wo _) ⟨hz,its,0,hv,wN _ rfl⟩
theorem Inv.fresh(I:Inv X pins σ H s):H s.heap.objs.size=none:=I.aE.fresh (wo _)
theorem Inv.nP(I:Inv X pins σ H s)(hH:H l=some (.lst xs)):xs.length<=w8 /\ ∃(its:List wf)(n:Nat),aK xs its/\xs.length=its.length/\s.heap.get? l=some {cls:=.type "list",data:=.seq its.toArray n}:=by
 obtain⟨z,its,n,r,e⟩:=I.aE l _ hH;exact⟨z,its,n,r,r.length,e⟩
theorem SD{n:Nat}(h:n<=w8):qz n=false:=by
 unfold qz;exact decide_eq_false (by lia)
end
section
variable{X:Cx}
def Hv:V->List V->Hp->VK->Prop:=λx vs H Q=>∃l xs y,x=.ref l/\vs=[y]/\H l=some (.lst xs)/\xs.length<w8/\Q .bM (upd H l (.lst (xs++[y])))
theorem jn:Po X "list.append" Hv:=by
 intro pins s σ H x vs v us Q I rx rv h;obtain⟨l,xs,y,rfl,rfl,hH,hz,q⟩:=h;cases rx;obtain⟨u,rfl,ru⟩:=rv.one;obtain⟨z,its,n,r,hl,e⟩:=I.nP hH;refine call_meets F.slot_list_append ⟨_,e,rfl⟩ F.entry_list_append (F.args_list_append_2 _ _) (PySem.list_append l its.toArray n u (by rw[wI];lia)) ⟨e,?_⟩;refine⟨.bM,_,I.Hj (its':=its++[u]) hH e (by simp) (r.append (.cons ru .nil)) ?_,rfl,q⟩;rw[wS,vZ]
 lia
def Li:V->List V->Hp->VK->Prop:=λx vs H Q=>∃l xs i k y,x=.ref l/\vs=[.int i]/\H l=some (.lst xs) /\ -(2^63)<=i/\i<2^63/\seqIndex? i xs.length=some k/\xs[k]? = some y/\Q y (upd H l (.lst (xs.eraseIdx k)))
theorem UC:Po X "list.pop" Li:=by
 intro pins s σ H x vs v us Q I rx rv h;obtain⟨l,xs,i,k,y,rfl,rfl,hH,h1,h2,hk,hy,q⟩:=h;cases rx;obtain⟨u,rfl,ru⟩:=rv.one;obtain⟨t,rfl⟩:=ru;obtain⟨z,its,n,r,hl,e⟩:=I.nP hH;obtain⟨w,hw,rw'⟩:=r.get hy
 refine call_meets F.slot_list_pop ⟨_,e,rfl⟩ F.entry_list_pop (F.args_list_pop_2 _ _)
  (MeetsSeq.list_pop_at l its.toArray n i t k w (fitsIndex_both h1 h2) (by rw[wI,<- hl];exact hk) (by rw[<- Array.getElem?_toList];exact hw) (by rw[wI];lia)) ⟨e,?_⟩
 refine⟨y,_,I.Hj (its':=its.eraseIdx k) hH e ?_ (r.eraseIdx k) ?_,rw',q⟩
 ·show its.toArray.eraseIdxIfInBounds k=(its.eraseIdx k).toArray
  rw[List.eraseIdxIfInBounds_toArray]
 ·have:=OR xs k
  lia
def BN:R2:=λx y H Q=>∃l b xs zs,x=.ref l/\y=.ref b/\H l=some (.lst xs)/\H b=some (.lst zs)/\xs.length+zs.length<=w8 /\ ∀p,H p=none->Q (.ref p) (upd H p (.lst (xs++zs)))
theorem R4:aJ X (WB .Add) BN:=by
 intro pins s σ H x y v u Q I rx ry h;obtain⟨l,b,xs,zs,rfl,rfl,hH,hB,hz,q⟩:=h;cases rx;cases ry;obtain⟨z,its,n,r,hl,e⟩:=I.nP hH;obtain⟨z2,its2,n2,r2,hl2,e2⟩:=I.nP hB;refine PySem.P.add_list e e2 ?_ (by rw[wI,wI];lia);have ea:its.toArray++its2.toArray=(its++its2).toArray:=by simp
 rw[ea];exact⟨.ref _,_,I.z5 (t':=s.toks) (r.append r2) (by rw[wS];lia),rfl,q _ I.fresh⟩
def r_:R2:=λx y H Q=>∃l k xs,x=.ref l/\y=.int k/\H l=some (.lst xs) /\ -(2^63)<=k/\k<2^63/\xs.length*k.toNat<=w8 /\
 ∀p,H p=none->Q (.ref p) (upd H p (.lst (w9 k.toNat xs).flatten))
theorem Up{α : Type}(xs:List α)(k:Nat):(w9 k xs).flatten.length=k*xs.length:=by
 induction k with
 | zero=>simp
 | succ k ih=>rw[VL,Vs,wS,ih,qA,xQ]
theorem Pz:aJ X (WB .Mult) r_:=by
 intro pins s σ H x y v u Q I rx ry h;obtain⟨l,k,xs,rfl,rfl,hH,h1,h2,hz,q⟩:=h;cases rx;obtain⟨t,rfl⟩:=ry;obtain⟨z,its,n,r,hl,e⟩:=I.nP hH;have hlen:its.toArray.size*k.toNat<=w8:=by rw[wI,<- hl];exact hz
 have hcap:¬ its.toArray.size*k.toNat > (2^63-1) / 8:=by
  have:(w8:Nat)<=(2^63-1) / 8:=by decide
  lia
 have hfit:¬ (!Builtin.List.listFitsIndex k)=true:=by
  rw[fitsIndex_both h1 h2];exact vj
 have hlong:¬ qz (its.toArray.size*k.toNat)=true:=by
  rw[SD hlen];exact vj
 have hnew:XQ (λx1 x2=>x1++x2) #[] (w9 (if its.toArray.isEmpty=true then 0 else k.toNat) its.toArray)=(w9 k.toNat its).flatten.toArray:=by
  have f0:∀m:Nat,XQ (λx1 x2=>x1++x2) #[] (w9 m its.toArray)=(w9 m its).flatten.toArray:=λm=>by
   have:=HB its m [];rw[qp]at this;exact this
  rw[f0];cases its with
  | nil=>simp
  | cons a r'=>rw[if_neg (by simp)]
 refine wpAny_binaryOp_repeat_ref (T:="list") (U:="int") (by decide) ⟨_,e,rfl⟩ (λs'=>typeIs_int s' k t) noFill_list_mul F.fills_int_mul XR repeat_list F.slot_int_index.lookup
  (call_meets XR (typeIs_int s k t) F.entry_int_rmul (F.args_int_rmul_2 _ _) (int___rmul___int_list k t l its.toArray n)
   ⟨e,rfl,⟨_,e,rfl⟩,call_meets F.slot_list_mul ⟨_,e,rfl⟩ F.entry_list_mul (F.args_list_mul_2 _ _) (AutoListH.list___mul___list_int_3 l its.toArray n k t hfit hcap hlong) ⟨e,?_⟩⟩)
 rw[hnew];exact⟨.ref _,_,I.z5 (t':=s.toks) (r.rep k.toNat) (by rw[Up,Nat.mul_comm];exact hz),rfl,q _ I.fresh⟩
end
section
variable{prog:wO}{w:wR}{A:w6}{E:wf->wl->Prop}{s:wl}
end
section
variable{X:Cx}
end
end L2
namespace Att
open PySem PySem.W PySem.Calls PyProof.Rows
theorem Uu{P:Params}{h:wM} : ∀(ns:List Int)(vs:List wf),WellAll P h vs (ns.map WData.int)->IntsAre vs ns:=by
 intro ns
 induction ns with
 | nil =>
  intro vs w;rw[qy]at w;cases w;exact .nil
 | cons n ns ih =>
  intro vs w;rw[wZ]at w;cases w with
  | cons a b =>
   cases a;exact .cons _ _ (ih _ b)
theorem zuX{l:OpenLaw}{n:Nat}(hn:l.most=some n){P:Params}{h:wM}{args:List WData}{vals:List wf}
  (hpre:l.row.toRowW.claim.pre args=true) (hwl:WellAll P h vals args) :
  ∃a vs ns,vals=[Value.ref a]/\args=[WData.list (ns.map WData.int)]/\h.get? a=some {cls:=.type "list",data:=.seq vs.toArray}/\IntsAre vs ns/\ns.length<=n:=by
 have hsh:WShape.hasAll [] args [.list .int]=true:=(pre_splitW hpre).1;have hc:l.pre.holds [] {args:=args}=true:=(pre_splitW hpre).2;obtain⟨d,r,rfl,h1,h2⟩:=hasAllW_cons hsh;obtain rfl:=hasAllW_nil h2;obtain⟨xs,rfl,h3⟩:=hasW_list h1;obtain⟨ns,rfl⟩:=items_int h3
 have hlen:ns.length<=n:=by
  unfold OpenLaw.pre at hc
  have h4:(WTm.not (.lt (.lit (.int (n:Int))) (.len (.arg 0)))).holds [] {args:=[.list (ns.map .int)]}=true:=by
   have h4:=(holds_andW hc).1;rw[hn]at h4;exact h4
  have h5:=condW_of h4 (w_not (w_lt w_lit (w_len_list (w_arg rfl))));rw[wm]at h5;refine Nat.le_of_not_lt λq=>?_
  have q':(n:Int)<((ns.length:Nat):Int):=by lia
  first
   | (rw[decide_eq_true q']at h5;exact absurd h5 (by decide))
   | (simp at h5;lia)
 cases hwl with
 | cons w1 w2 =>
  cases w2;cases w1 with
  | list ho hall=>exact⟨_,_,ns,rfl,rfl,ho,Uu ns _ hall,hlen⟩
theorem Yl(l:OpenLaw)(args:List WData):l.row.toRowW.claim.post args (.bool true) args=true :=
 postW_of (r:=l.row.toRowW) (X:=(true == true))
  (show WShape.has [] (.bool true) .bool=true by first | rfl | decide | simp[WShape.has,WShape.arms,WShape.armsAll])
  (show(WTm.eq .res (.lit (.bool true))).value [] {args:=args,res:=some (.bool true),after:=args}=some (.bool (true == true))from w_eq_bool (w_res rfl) w_lit) rfl
theorem Rk{l:OpenLaw}{n:Nat}{q:wO}{loose:List Str}{XP:(Str->Option wf)->wM->Prop}{YP:wR->wM->Prop}{d:DefRec}
  (hn:l.most=some n) (hdf:d.params.defaults=[])
  (call:∀(w:wR)(s₀ s₁ : wl)(mg mb:Str->Option wf)(fa:wg)(o:Obj)(pm cd doc:wf)(a:wg)(vs:List wf)(ns:List Int),
   Ground q loose [] XP w s₀ mg mb s₁.heap->YP w s₁.heap ->
   s₁.heap.get? fa=some o->o.data=.func (docDef d.name d.params d.body d.scope pm cd doc)->s₁.heap.CodeRec cd d.name->mg d.name=some (.ref fa) ->
   s₁.heap.get? a=some {cls:=.type "list",data:=.seq vs.toArray}->IntsAre vs ns->ns.length<=n->s₁.gens = #[] ->
   codeAny (model l.prog w) callerA (.call (.ref fa) ⟨[.ref a],[]⟩) (λr s'=>r=.ok (.ret (.bool true))/\OldK s₁.heap s'.heap/\s'.os=s₁.os/\AllBare s'.gens) s₁) :
  WalkO q loose XP YP l.row.toRowW d [] (λf vs=>XS f vs):=by
 intro w s₀ s₁ mg mb G Y fa o pm cd doc dV kV ho hd hcd hD hmg hg args vals as hpre hlay hrd hwl hlo;obtain rfl:dV=.none:=Dflts.none hD hdf;obtain rfl:kV=.none:=Dflts.noKw hD;obtain⟨a,vs,ns,rfl,rfl,hobj,hints,hlen⟩:=zuX hn hpre hwl;refine enter_call (codeAny_mono (call w s₀ s₁ mg mb fa o pm cd doc a vs ns G Y ho (fd_plain hd) hcd hmg hobj hints hlen hg) λr s' hq=>?_);obtain⟨rfl,h2,h3,h4⟩:=hq;exact⟨.inl ⟨.bool true,.bool true,[],rfl,λ_=>rfl,.bool true,Yl l _,λ_=>⟨xA.nil,λ_ hm=>(nomatch hm)⟩⟩,h2,h3,h4⟩
section
variable{prog:wO}{w:wR}{A:w6}{E:wf->wl->Prop}{s:wl}{K:Frag}
def zCh(h:wM)(L d:wg):List (wg × Obj):=(wt h.objs.size).filterMap λa=>if a=L\/a=d then none else(h.get? a).map λo=>(a,o)
end
end Att
namespace L2
open PySem PySem.Spec PyProof.Rows
theorem Ll:∀{vs:List wf}{ns:List Int},IntsAre vs ns->aK (ns.map V.int) vs
 | _,_,.nil=>.nil
 | _,_,.cons n t h=>.cons ⟨t,rfl⟩ (Ll h)
def yF(H:Hp):Prop:=∀b,H b=none \/ ∃o xs,H b=some (.eX o (.lst xs))
theorem zwd{P:wO}{w:wR}{K:wb}{mg mb:Str->Option wf}{CX:fv}{k:Nat}{fa a:wg}{fd:wE}{x:Str}{sp:Sp}{s₁ : wl}{vs:List wf}{ns:List Int}
   (KX:K.In s₁.heap) (hns:s₁.heap.Ns wK mg) (hb:s₁.heap.Ns builtinsNs mb) (hbb:∀x:Str,x≠"__name__" -> mb x=vK x) (hlim:s₁.heap.NoLimit) (hg:s₁.gens = #[])
   (ha:s₁.heap.get? a=some {cls:=.type "list",data:=.seq vs.toArray}) (hi:IntsAre vs ns) (hl:ns.length<=w8) (hr:dm k callerA)
   (F:∀base:wM,K.In base->base.Ns wK mg->aO P w K mg base CX k fa fd [x] sp) (hbind:∀(s:wl)(u:wf),BindsTo s fd ⟨[u],[]⟩ [(x,u)])
   (hsp:∀H:Hp,yF H->aI K H a (ns.map V.int)->sp [.ref a] H (λv _=>v=.bl true) λ_ _ _=>False)
   (hCX:∀H e s',CX [] H s₁ (λ_ _ _=>False) e s'->False) :
   codeAny (model P w) callerA (.call (.ref fa) ⟨[.ref a],[]⟩) (λr s'=>r=.ok (.ret (.bool true))/\OldK s₁.heap s'.heap/\s'.os=s₁.os/\AllBare s'.gens) s₁:=by
 have rv:=Ll hi;have lenV:=hi.length
 -- from an abstract heap in which nothing but the script may be tracked
 have core:∀H:Hp,yF H->aI K H a (ns.map V.int)->cT P w H s₁.heap->(∀b,H b≠none->b=a)->(H a≠none->K.lookup a=none) ->
     codeAny (model P w) callerA (.call (.ref fa) ⟨[.ref a],[]⟩) (λr s'=>r=.ok (.ret (.bool true))/\OldK s₁.heap s'.heap/\s'.os=s₁.os/\AllBare s'.gens) s₁:=by
   intro H hO hS aE hA hK;have base_of:∀{b:wg}{o:Obj},s₁.heap.get? b=some o->H b=none->(jP s₁.heap H).get? b=some o:=λe n=>Y_ e n
   have noA:∀{b:wg}{o:Obj}{es:Array DictEntry}{ep:Nat},s₁.heap.get? b=some o->o.data=.dict es ep->H b=none:=λ{b o es ep} e d=>by
     cases q:H b with
     | none=>rfl
     | some u =>
       have e':b=a:=hA b (by rw[q];simp);subst e';rw[ha]at e;cases e;have d':Data.seq vs.toArray _=Data.dict es ep:=d;cases d'
   have nsK:∀{b:wg}{m:Str->Option wf},s₁.heap.Ns b m->(jP s₁.heap H).Ns b m:=λ{b m} ⟨o,es,ep,e,d,r⟩=>⟨o,es,ep,base_of e (noA e d),d,r⟩
   have hKb:K.In (jP s₁.heap H):=λb o e=>base_of (KX b o e) (by
     cases q:H b with
     | none=>rfl
     | some u =>
       have e':b=a:=hA b (by rw[q];simp);subst e';rw[hK (by rw[q];simp)]at e;cases e)
   have hM:Mod K mg (jP s₁.heap H):=⟨hKb,nsK hns,⟨mb,nsK hb,hbb⟩,let ⟨mc,h1,h2⟩:=hlim;⟨mc,nsK h1,h2⟩⟩;have e0:pK P w K mg (jP s₁.heap H) callerA [] s₁ H:=⟨rfl,hM,λb o e=>Sl e,Nat.le_of_eq (zvd _ _),trivial,λb hb=>absurd (show b∈([]:List wg)from hb) (by simp),aE,.of_eq hg⟩;refine codeAny_mono ((F _ hKb (nsK hns)).run callerA [] s₁ H ⟨[.ref a],[]⟩ [.ref a] [.ref a] _ _ hr e0 (hbind s₁ (.ref a)) (.cons rfl .nil) (hsp H hO hS)) λr s' h=>?_
   cases r with
   | error e=>exact(hCX H e s' h).elim
   | ok fl =>
     cases fl with
     | next=>exact Wp h
     | brk=>exact Wp h
     | cont=>exact Wp h
     | ret u =>
       obtain⟨v,H',os,bare,un,hok',r',q⟩:=h;have q':v=.bl true:=q;subst q';obtain rfl:u=Value.bool true:=r';refine⟨rfl,OldK.of_keep λb o e=>?_,os,bare⟩;cases q:H b with
       | none=>exact un.keep b o e q (by intro z;exact absurd (show b∈([]:List wg)from z) (by simp)) (by simp)
       | some u =>
         rcases hO b with z | ⟨ob,xs,z⟩
         . rw[q]at z;cases z
         . have z2:=un.fT b ob _ z
           obtain⟨e1,_⟩:=aE b _ z;obtain⟨e2,_⟩:=hok' b _ z2;rw[e]at e1;cases e1;exact e2
 cases hk:K.lookup a with
 | some o =>
   -- the script is one of the module's own objects
   have e:=KX a o hk;rw[ha]at e;cases e;refine core (λ_=>none) (λ_=>.inl rfl) (.inr ⟨_,vs.toArray,_,hk,rfl,rfl,rfl,by rw[wI,lenV];exact hl,by simpa using rv⟩) (λb u z=>by have z':(none:Option HO)=some u:=z;cases z') (λb z=>absurd rfl z) λz=>absurd rfl z
 | none =>
   refine core (λb=>if b=a then some (.eX {cls:=.type "list",data:=.seq vs.toArray} (.lst (ns.map V.int)))else none) (λb=>?_) (.inl (.inr ⟨{cls:=.type "list",data:=.seq vs.toArray},if_pos rfl⟩)) (λb u z=>?_) (λb z=>?_) λ_=>hk
   . by_cases hb:b=a
     . exact .inr ⟨_,_,if_pos hb⟩
     . exact .inl (if_neg hb)
   . by_cases hb:b=a
     . have z':=(if_pos hb).symm.trans z
       cases z';subst hb;exact⟨ha,by rw[wm];exact hl,vs,_,rv,ha⟩
     . have z':=(if_neg hb).symm.trans z
       cases z'
   . by_cases hb:b=a
     . exact hb
     . exact absurd (if_neg hb) z
abbrev KOf{K:wb}{h:wM}(_:K.In h):wb:=K
theorem RF{l:QV}{n k:Nat}{q:wO}{loose:List Str}{XP:(Str->Option wf)->wM->Prop}{YP:wR->wM->Prop}{d:DefRec}{K:Params->wb}{CX:wR->fv}{sp:wR->Sp}{x:Str}
  (hn:l.most=some n) (hn2:n<=w8) (hdf:d.params.defaults=[]) (hr:dm k callerA)
  (hY:∀(w:wR)(h:wM),YP w h->(K w.params).In h)
  (F:∀(w:wR)(mg:Str->Option wf)(fa:wg)(h:wM),(K w.params).In h->h.Ns wK mg->mg d.name=some (.ref fa) ->
   ∃fd:wE,(∀(s:wl)(u:wf),BindsTo s fd ⟨[u],[]⟩ [(x,u)]) /\
    ∀base:wM,(K w.params).In base->base.Ns wK mg->aO l.prog w (K w.params) mg base (CX w) k fa fd [x] (sp w))
  (hsp:∀(w:wR)(H:Hp)(a:wg)(ns:List Int),ns.length<=n->yF H->aI (K w.params) H a (ns.map V.int)->sp w [.ref a] H (λv _=>v=.bl true) λ_ _ _=>False)
  (hCX:∀(w:wR)(H:Hp)(s:wl)(e:wf)(s':wl),CX w [] H s (λ_ _ _=>False) e s'->False) :
  ud q loose XP YP l.row.toRowW d [] (λf vs=>XS f vs):=by
 refine Att.Rk hn hdf λw s₀ s₁ mg mb fa o pm cd doc a vs ns G Y ho hd hcd hmg hobj hints hlen hg=>?_
 have KX:=hY w _ Y;obtain⟨fd,hb,hF⟩:=F w mg fa _ KX G.T.g hmg;exact zwd KX G.T.g G.T.b G.T.builtins G.T.nolimit hg hobj hints (Wd hlen hn2) hr hF hb (λH hO hS=>hsp w H a ns hlen hO hS) λH e s'=>hCX w H s₁ e s'
def mf(s:ve):Arguments:=match s with
 | .FunctionDef _ a _ _ _ _ _ _ _ _=>a
 | _=>{posonlyargs:=[],args:=[],vararg:=none,kwonlyargs:=[],kw_defaults:=[],kwarg:=none,defaults:=[]}
def jM(s:ve):List ve:=match s with
 | .FunctionDef _ _ b _ _ _ _ _ _ _=>b
 | _=>[]
def aA(s:ve):Scope:=match s with
 | .FunctionDef _ _ _ _ _ _ sc _ _ _=>sc
 | _=>{kind:=.function,names:=[],isGenerator:=false,isCoroutine:=false}
abbrev aT:fv:=λ_ _ _ _ _ _=>False
abbrev E0:XK:=λ_ _ _=>False
theorem Sq{X:Cx} : nE aT X E0:=λ_ _ _ _ _ _ _ h=>h.elim
structure iS(K:wb)(x qual:Str)(st:ve)(f:wg)(fd:wE):Prop where
 ex:∃(oc:wf)(od:Option wg)(kV doc pm:wf)(an:Option wg)(cdv ct:wf)(osl:Array (Option wf)),
   fd=VE x qual (mf st) (jM st) (aA st) .none kV doc pm an cdv ct/\K.lookup f=some ⟨oc,od,.func fd,osl⟩/\Qd K cdv qual=true
 kp:W5 K (.ref f)=true
section
variable{P:wO}{w:wR}{K:wb}{mg:Str->Option wf}{base:wM}
theorem iS.ok{x qual:Str}{st:ve}{f:wg}{fd:wE}{N ps:List Str}{k:Nat}{sp:Sp}(F:iS K x qual st f fd)(S:aS N ps (aA st))(len:∀vs H Q E,sp vs H Q E->vs.length=ps.length)
  (hbody:∀(cdv:wf)(A:w6)(outer:List Env)(s:wl)(H:Hp)(vs:List V)(Q:VK)(E:XK),dm k (A.deeper (envOfC qual (aA st) s.heap.objs.size f cdv))->sp vs H Q E ->
   ∃t,eQ (gu aT P w K mg base N qual (aA st) f cdv A outer s H E).zu (jM st) t/\t {nx:=λ_ H'=>Q .bM H',rt:=Q} (start N vs) H):aO P w K mg base aT (k+1) f fd ps sp:=by
 obtain⟨oc,od,kV,doc,pm,an,cdv,ct,osl,rfl,lk,hcd⟩:=F.ex;refine Hu lk hcd S len λA outer s H vs Q E hr hsp=>?_
 obtain⟨t,h,q⟩:=hbody cdv A outer s H vs Q E hr hsp;exact⟨t,h.zu,q⟩
theorem iS.binds{x qual:Str}{st:ve}{f:wg}{fd:wE}{ps:List Str}(F:iS K x qual st f fd)
  (h:∀(kV doc pm:wf)(an:Option wg)(cdv ct:wf)(us:List wf),us.length=ps.length->bindArgs (VE x qual (mf st) (jM st) (aA st) .none kV doc pm an cdv ct) ⟨us,[]⟩=pure (ps.zip us)):ko K fd ps []:=by
 obtain⟨oc,od,kV,doc,pm,an,cdv,ct,osl,rfl,lk,hcd⟩:=F.ex;exact .all (h kV doc pm an cdv ct)
theorem IT{x qual:Str}{st:ve}{f:wg}{oc:wf}{od an:Option wg}{osl:Array (Option wf)}{kV doc pm cdv ct:wf}(l:K.lookup f=some ⟨oc,od,.func (VE x qual (mf st) (jM st) (aA st) .none kV doc pm an cdv ct),osl⟩)
  (c:Qd K cdv qual=true) (k:W5 K (.ref f)=true):iS K x qual st f (VE x qual (mf st) (jM st) (aA st) .none kV doc pm an cdv ct):=⟨⟨oc,od,kV,doc,pm,an,cdv,ct,osl,rfl,l,c⟩,k⟩
end
theorem jB{n:Nat}(h:n<=1000):n<w8:=WQ h (by decide)
section
variable{X:Cx}
theorem pv(i:Nat){x:Str}{pos:Pos}(hN:X.N[i]? = some x:=by rfl)(hv:zw X.env.scope x:=by first | exact Or.inl rfl | exact Or.inr (Or.inl rfl) | exact Or.inr (Or.inr rfl))(hd:(x == ("__debug__" : Str))=false:=by decide)
  (hcd:(x == ("__classdict__" : Str))=false:=by decide):PE X (.Name x pos) (lG i):=Zk hN hv hd hcd
end
theorem lP{A B:Prop}(h:B):if false=true then A else B:=by
 rw[if_neg vj];exact h
theorem kP{A B:Prop}(h:A):if true=true then A else B:=by
 rw[if_pos rfl];exact h
def ah(H H':Hp):Prop:=∀b o,H b=some o->H' b=some o
theorem ah.refl(H:Hp):ah H H:=λ_ _ h=>h
theorem ah.trans{H H1 H2:Hp}(a:ah H H1)(b:ah H1 H2):ah H H2:=λc o h=>b c o (a c o h)
theorem ah.seq{K:wb}{H H':Hp}{a:wg}{xs:List V}(e:ah H H')(h:aI K H a xs):aI K H' a xs:=by
 rcases h with(h | ⟨o,h⟩) | h
 ·exact .inl (.inl (e _ _ h))
 ·exact .inl (.inr ⟨o,e _ _ h⟩)
 ·exact .inr h
end L2
namespace GM
def dv(t b:Int):Int:=if b<0 then -((vk t b:Nat):Int)else((vk t b:Nat):Int)
theorem DH{t b:Int}(hb:b≠0):0<vk t b:=V4 t hb
theorem Cs{t b:Int}(hb:b≠0):dv t b≠0:=by
 have:=DH (t:=t) hb;unfold dv
 split<;>lia
theorem ff{a d:Int}(h:d ∣ a)(hd:d≠0):a.fdiv d=a / d:=by
 obtain⟨k,rfl⟩:=h;rw[Int.mul_fdiv_cancel_left _ hd,VG _ hd]
theorem CP{t b:Int}(hb:b≠0):t.fdiv (dv t b)=(wx t b).num:=by
 have hg:=DH (t:=t) hb;have h1:((vk t b:Nat):Int) ∣ t:=qa ..;rw[Rat.num_divInt,xR b t];unfold dv
 by_cases h:b<0
 ·rw[if_pos h,Qs h,ff (Xn.mpr h1) (by lia),Int.ediv_neg]
  obtain⟨k,hk⟩:=h1;have:(-1:Int)*t=((vk t b:Nat):Int)*(-k):=by rw[XT,Xo,<- hk]
  rw[this,VG _ (by lia)];have e:t / ((vk t b:Nat):Int)=k:=Ql (by lia) hk;rw[e]
 ·rw[if_neg h,Q1 (by lia),Int.one_mul,ff h1 (by lia)]
theorem Jc{t b:Int}(hb:b≠0):b.fdiv (dv t b)=((wx t b).den:Int):=by
 have hg:=DH (t:=t) hb;have h1:((vk t b:Nat):Int) ∣ b:=qM ..;rw[X5,if_neg hb,xR b t];unfold dv
 by_cases h:b<0
 ·rw[if_pos h,ff (Xn.mpr h1) (by lia),Int.ediv_neg,VH]
  obtain⟨k,hk⟩:=h1;have:(b.natAbs:Int)=((vk t b:Nat):Int)*(-k):=by rw[Xo,<- hk];lia
  rw[this,VG _ (by lia)];have e:b / ((vk t b:Nat):Int)=k:=Ql (by lia) hk;rw[e]
 ·rw[if_neg h,ff h1 (by lia),VH]
  have:(b.natAbs:Int)=b:=by lia
  rw[this]
def gf(p q:Int):Bool:=decide (1<=q)&&decide (vk p q=1)
theorem KP(r:Rat):gf r.num r.den=true:=by
 have h:=r.reduced;have hd:=r.den_pos;simp only[gf,wV,decide_eq_true_eq];refine⟨by lia,?_⟩;have:Nat.gcd r.num.natAbs r.den=1:=h
 simpa [vk] using this
theorem U5{p q:Int}(h:gf p q=true):∃r:Rat,p=r.num/\q=(r.den:Int):=by
 simp only[gf,wV,decide_eq_true_eq]at h;obtain⟨h1,h2⟩:=h;refine⟨⟨p,q.toNat,by lia,?_⟩,rfl,by show q=((q.toNat:Nat):Int);lia⟩;have e:q.toNat=q.natAbs:=by lia
 rw[e];exact h2
theorem Ng{a b:Int}(hb:0<b)(ha:0<=a):vk b (a % b)=vk a b:=by
 rw[xR a b];have e:a=a % b+b*(a / b):=(Int.emod_add_mul_ediv a b).symm
 conv=>rhs;rw[e]
 rw[Int.gcd_add_mul_left_right]
structure Bd(n:Nat)(x:Int):Prop where
 lt:x.natAbs<2^n
theorem Bd.mono{m n:Nat}{x:Int}(h:Bd m x)(e:m<=n):Bd n x:=⟨wU h.lt (Nat.pow_le_pow_right (by decide) e)⟩
theorem Bd.mul{m n:Nat}{x y:Int}(h:Bd m x)(k:Bd n y):Bd (m+n) (x*y):=by
 refine⟨?_⟩;rw[xa,Xp];exact Nat.mul_lt_mul'' h.lt k.lt
theorem Bd.add{m n:Nat}{x y:Int}(h:Bd m x)(k:Bd n y):Bd (max m n+1) (x+y):=by
 have h1:=(h.mono (XU m n)).lt;have h2:=(k.mono (Xw m n)).lt;refine⟨?_⟩;rw[xS]
 lia
theorem Bd.sub{m n:Nat}{x y:Int}(h:Bd m x)(k:Bd n y):Bd (max m n+1) (x-y):=by
 have h1:=(h.mono (XU m n)).lt;have h2:=(k.mono (Xw m n)).lt;refine⟨?_⟩;rw[xS]
 lia
theorem Bd.neg{n:Nat}{x:Int}(h:Bd n x):Bd n (-x):=⟨by rw[Int.natAbs_neg];exact h.lt⟩
theorem Bd.le{n:Nat}{x y:Int}(h:Bd n x)(e:y.natAbs<=x.natAbs):Bd n y:=⟨WQ e h.lt⟩
theorem Bd.log{n:Nat}{x:Int}(h:Bd n x)(hn:0<n):x.natAbs.log2<n:=by
 by_cases e:x.natAbs=0
 ·rw[e];exact hn
 ·exact(Nat.log2_lt e).mpr h.lt
theorem Yu(t b:Int)(hb:b≠0):(wx t b).num.natAbs<=t.natAbs:=by
 rw[<- CP hb]
 have h1:dv t b ∣ t:=by
  have:((vk t b:Nat):Int) ∣ t:=qa ..;unfold dv;split
  ·exact Xn.mpr this
  ·exact this
 rw[ff h1 (Cs hb)];exact QE t _
theorem Eh(t b:Int)(hb:b≠0):(wx t b).den<=b.natAbs:=by
 rw[X5,if_neg hb];exact Nat.div_le_self _ _
structure ag(n:Nat)(x:Rat):Prop where
 t:Bd n x.num
 b:Bd n (x.den:Int)
theorem ag.mono{m n:Nat}{x:Rat}(h:ag m x)(e:m<=n):ag n x:=⟨h.t.mono e,h.b.mono e⟩
theorem ag.divInt{n:Nat}{t b:Int}(hb:b≠0)(h1:Bd n t)(h2:Bd n b):ag n (wx t b) :=
 ⟨h1.le (Yu t b hb),h2.le (by have:=Eh t b hb;simpa using this)⟩
theorem Bd.lY{m:Int}(h1 : -100000000000000000000000000000000000000<=m)(h2:m<=100000000000000000000000000000000000000):Bd 128 m:=⟨by
 have e:(2:Nat)^128=340282366920938463463374607431768211456:=by decide
 rw[e]
 lia⟩
theorem fu(x:Rat):(x.den:Int)≠0:=by have:=x.den_pos;lia
theorem den_pos(x:Rat):(0:Int)<(x.den:Int):=by have:=x.den_pos;lia
theorem BY(x y:Rat):(x.den:Int)*(y.den:Int)≠0:=qU (fu x) (fu y)
theorem Tt(x y:Rat):wx (x.num*(y.den:Int)+y.num*(x.den:Int)) ((x.den:Int)*(y.den:Int))=x+y:=by
 rw[<- Vn,QJ,Rat.add_def']
theorem zzZ(x y:Rat):wx (x.num*(y.den:Int)-y.num*(x.den:Int)) ((x.den:Int)*(y.den:Int))=x-y:=by
 rw[<- Vn,QJ,Rat.sub_def']
theorem ZT(x y:Rat):wx (x.num*y.num) ((x.den:Int)*(y.den:Int))=x*y:=by
 rw[<- Vn,QJ,Rat.mul_def']
theorem YH(x y:Rat):wx (x.num*(y.den:Int)) ((x.den:Int)*y.num)=x / y:=by
 rw[Q2,Rat.inv_def,<- xb,Vi]
theorem UU(x y:Rat):decide (x.num*(y.den:Int)<y.num*(x.den:Int))=decide (x<y):=by
 rw[vy,decide_eq_true_eq,decide_eq_true_eq,xo]
theorem zi{y:Rat}(h:y≠0):y.num≠0:=λe=>h (Rat.num_eq_zero.mp e)
theorem ag.add{m n:Nat}{x y:Rat}(h:ag m x)(k:ag n y):ag (m+n+1) (x+y):=by
 rw[<- Tt];refine ag.divInt (BY x y) ?_ ((h.b.mul k.b).mono (by lia));exact((h.t.mul k.b).add (k.t.mul h.b)).mono (by lia)
theorem ag.sub{m n:Nat}{x y:Rat}(h:ag m x)(k:ag n y):ag (m+n+1) (x-y):=by
 rw[<- zzZ];refine ag.divInt (BY x y) ?_ ((h.b.mul k.b).mono (by lia));exact((h.t.mul k.b).sub (k.t.mul h.b)).mono (by lia)
theorem ag.mul{m n:Nat}{x y:Rat}(h:ag m x)(k:ag n y):ag (m+n) (x*y):=by
 rw[<- ZT];exact ag.divInt (BY x y) (h.t.mul k.t) (h.b.mul k.b)
theorem ag.zero:ag 1 0:=⟨⟨by decide⟩,⟨by decide⟩⟩
theorem ag.one:ag 1 1:=⟨⟨by decide⟩,⟨by decide⟩⟩
def aB(a b:Rat):Nat->Rat
 | 0=>0
 | n+1=>a*aB a b n+b
def push(a b:Rat):Nat->Rat->Rat
 | 0,x=>x
 | n+1,x=>a*push a b n x+b
theorem ik(a b:Rat)(n:Nat)(x:Rat):push a b n x=a^n*x+aB a b n:=by
 induction n with
 | zero=>simp[push,aB,Rat.add_zero,qB]
 | succ n ih=>rw[push,ih,aB,WK];grind
theorem zxl(a b:Rat)(m n:Nat)(x:Rat):push a b (m+n) x=push a b n (push a b m x):=by
 induction n with
 | zero=>rfl
 | succ n ih=>rw[<- VN,push,push,ih]
theorem ag.pow{k:Nat}{a:Rat}(h:ag k a)(n:Nat):ag (k*n+1) (a^n):=by
 induction n with
 | zero=>rw[qB];exact ag.one.mono (by lia)
 | succ n ih=>rw[WK];exact(ih.mul h).mono (by rw[qC];lia)
theorem ag.aB{k:Nat}{a b:Rat}(h:ag k a)(hb:ag k b)(n:Nat):ag ((2*k+1)*n+1) (aB a b n):=by
 induction n with
 | zero=>exact ag.zero.mono (by lia)
 | succ n ih=>exact((h.mul ih).add hb).mono (by rw[qC];lia)
theorem cE(t:Int){u:Int}(hu:u≠0):(wx t u)*(u:Rat)=(t:Rat):=by
 rw[Rat.divInt_eq_div];exact WE λz=>hu (WZ.mp z)
theorem j5(x:Rat):x*((x.den:Int):Rat)=(x.num:Rat):=by
 have:=cE x.num (fu x)
 rwa[Vi]at this
theorem fb{t u:Int}{x:Rat}(hu:u≠0)(h:x*(u:Rat)=(t:Rat)):wx t u=x:=by
 have h1:=cE t hu;have h2:(wx t u-x)*(u:Rat)=0:=by grind
 have h3:(u:Rat)≠0:=by
  intro z;exact hu (WZ.mp z)
 have:=qV.mp h2
 grind
theorem Pp(a b:Rat)(t u:Int)(hu:u≠0):wx (a.num*b.den*t+b.num*a.den*u) (u*a.den*b.den)=a*wx t u+b:=by
 refine fb (qU (qU hu (fu a)) (fu b)) ?_;have h1:=cE t hu;have h2:=j5 a;have h3:=j5 b;simp only[Wi,qW]
 grind
theorem KU(a b:Rat)(n:Nat)(x y:Rat):push a b n y-push a b n x=a^n*(y-x):=by
 rw[ik,ik];grind
theorem lu{a:Rat}(h:0<a)(n:Nat):0<a^n:=Rat.pow_pos h
theorem zrR{a:Rat}(h:1<a)(n:Nat):1<a^(n+1):=by
 induction n with
 | zero=>simpa using h
 | succ n ih =>
  rw[WK];have:=qk (show 0<a^(n+1)-1 by grind) (show 0<a-1 by grind)
  grind
theorem zs0{a:Rat}(h0:0<a)(h:a<1)(n:Nat):a^(n+1)<1:=by
 induction n with
 | zero=>simpa using h
 | succ n ih =>
  rw[WK];have:=qk (show 0<1-a^(n+1) by grind) h0
  grind
theorem one_pow'(n:Nat):(1:Rat)^n=1:=by
 induction n with
 | zero=>rfl
 | succ n ih=>rw[WK,ih,Rat.one_mul]
theorem NO{u:Int}(h:0<u):(0:Rat)<(u:Rat):=XV.mpr h
theorem UR{t u c:Int}(hu:0<u)(h:t<=c*u):wx t u<=(c:Rat):=by
 have e:=cE t (show u≠0 by lia);refine Rat.le_of_mul_le_mul_right (c:=(u:Rat)) ?_ (NO hu);rw[e,<- Wi];exact VY.mpr h
theorem TL{t u c:Int}(hu:0<u)(h:t<c*u):wx t u<(c:Rat):=by
 have e:=cE t (show u≠0 by lia);refine Rat.lt_of_mul_lt_mul_right (c:=(u:Rat)) ?_ (vS (NO hu));rw[e,<- Wi];exact Rat.intCast_lt_intCast.mpr h
theorem zyS{t u:Int}(hu:0<u):((wx t u).den:Int)<=u:=by
 have:=Eh t u (by lia)
 lia
theorem zuT{x:Rat}{c:Int}(h:x<=(c:Rat)):x.num<=c*x.den:=by
 have:=(xp x c).mp h
 simpa using this
theorem Uv{x:Rat}(h:0<=x):0<=x.num:=qJ.mpr h
theorem ag.small{x:Rat}{c d:Nat}(h0:0<=x)(hc:x<=((c:Int):Rat))(hd:x.den<=d)(z:c*d<1024)(hd2:d<1024):ag 10 x:=by
 have h1:=zuT hc;have h2:=Uv h0;have h3:(c:Int)*(x.den:Int)<=(c:Int)*(d:Int):=Int.mul_le_mul_of_nonneg_left (by lia) (by lia);have h4:(c:Int)*(d:Int)<1024:=by rw[<- Vn];lia
 refine⟨⟨?_⟩,⟨?_⟩⟩
 ·show _<1024
  lia
 ·show _<1024
  lia
theorem p7{y:Rat}{r u:Int}(e:y=wx r u)(h1:1<=u)(h2:u<=12)(h3:0<=r)(h4:r<=u):0<=y/\y<=1/\y.den<=12:=by
 subst e;refine⟨x9 h3 (by lia),UR (c:=1) (by lia) (by lia),?_⟩;have:=zyS (t:=r) (show 0<u by lia)
 lia
theorem ag.four:ag 3 4:=⟨⟨by decide +kernel⟩,⟨by decide +kernel⟩⟩
theorem Lc{f:Rat->Rat}{xs:List Rat}{i:Nat}(h:i<xs.length):(xs.map f).getD i 0=f (xs.getD i 0):=by
 rw[wa,wa,wu,wc h]
 rfl
theorem ZK{a b:Rat}(ha:0<a)(n:Nat)(x y:Rat):push a b n x<push a b n y ↔ x<y:=by
 have e:=KU a b n x y;have p:=lu ha n
 constructor
 ·intro h
  have:0<a^n*(y-x):=by rw[<- e];grind
  have h2:=(Rat.mul_pos_iff_of_pos_left p).mp this
  grind
 ·intro h
  have:0<a^n*(y-x):=qk p (by grind)
  grind
def dF(a b:Rat)(n:Nat)(xs:List Rat)(i:Nat):List Rat:=(xs.map λx=>push a b n (x+(1-xs.getD i 0))).set i 0
def aM(a b:Rat)(ns:List Int)(xs:List Rat):Nat->List Rat
 | 0=>xs
 | k+1=>dF a b (ns.getD k 0).toNat (aM a b ns xs k) k
theorem iC(a b:Rat)(n:Nat)(xs:List Rat)(i:Nat):(dF a b n xs i).length=xs.length:=by simp[dF]
theorem cw(a b:Rat)(ns:List Int)(xs:List Rat):∀k,(aM a b ns xs k).length=xs.length
 | 0=>rfl
 | k+1=>by rw[aM,iC,cw a b ns xs k]
theorem fi(a b:Rat)(n:Nat)(xs:List Rat)(i j:Nat)(hj:j<xs.length):(dF a b n xs i).getD j 0=if j=i then 0 else push a b n (xs.getD j 0+(1-xs.getD i 0)):=by
 unfold dF;rw[wa,Vu]
 by_cases h:i=j
 ·subst h
  simp[hj]
 ·rw[if_neg h,if_neg (We h),wu,wc hj]
  simp[wa,hj]
def Cm(m:Nat)(xs:List Rat):Prop:=∃B:Int,0<B/\Bd m B /\ ∀x∈xs,∃t:Int,x=wx t B/\Bd m t
theorem Cm.mono{m n:Nat}{xs:List Rat}(h:Cm m xs)(e:m<=n):Cm n xs:=by
 obtain⟨B,h0,h1,h2⟩:=h;exact⟨B,h0,h1.mono e,λx hx=>let ⟨t,e1,e2⟩:=h2 x hx;⟨t,e1,e2.mono e⟩⟩
theorem Cm.fo{m:Nat}{xs:List Rat}{x:Rat}(h:Cm m xs)(hx:x∈xs):ag m x:=by
 obtain⟨B,h0,h1,h2⟩:=h;obtain⟨t,rfl,ht⟩:=h2 x hx;exact ag.divInt (by lia) ht h1
theorem Cm.pos{m:Nat}{xs:List Rat}(h:Cm m xs):1<=m:=by
 obtain⟨B,h0,h1,_⟩:=h;cases m with
 | zero=>have:=h1.lt;simp at this;lia
 | succ m=>lia
theorem Cm.get{m:Nat}{xs:List Rat}(h:Cm m xs)(i:Nat):ag m (xs.getD i 0):=by
 rcases wB i xs.length with z | z
 ·rw[wa,wc z]
  exact h.fo (Wc z)
 ·rw[wa,wF z]
  exact ag.zero.mono h.pos
theorem p0{a b:Rat}(ba:ag 10 a)(bb:ag 10 b){m:Nat}{t u:Int}(hu:0<u)(bt:Bd m t)(bu:Bd m u):∀n:Nat,0<u*((a.den:Int)*(b.den:Int))^n/\Bd (m+21*n) (u*((a.den:Int)*(b.den:Int))^n) /\
  ∃T:Int,push a b n (wx t u)=wx T (u*((a.den:Int)*(b.den:Int))^n)/\Bd (m+21*n) T
 | 0=>⟨by simpa using hu,by simpa using bu,t,by simp[push],by simpa using bt⟩
 | n+1=>by
  obtain⟨h1,h2,T,e,hT⟩:=p0 ba bb hu bt bu n;have eb:u*((a.den:Int)*(b.den:Int))^(n+1)=u*((a.den:Int)*(b.den:Int))^n*(a.den:Int)*(b.den:Int):=by rw[qX,<- VO,VO (u*_)]
  rw[eb];refine⟨vJ (vJ h1 (den_pos a)) (den_pos b),((h2.mul ba.b).mul bb.b).mono (by lia),a.num*(b.den:Int)*T+b.num*(a.den:Int)*(u*((a.den:Int)*(b.den:Int))^n),?_,(((ba.t.mul bb.b).mul hT).add ((bb.t.mul ba.b).mul h2)).mono (by lia)⟩;rw[push,e];exact(Pp a b T _ (by lia)).symm
theorem Cm.l9{m:Nat}{xs:List Rat}{a b:Rat}(h:Cm m xs)(ba:ag 10 a)(bb:ag 10 b)(n i:Nat):Cm (m+2+21*n) (dF a b n xs i):=by
 obtain⟨B,h0,h1,h2⟩:=h
 have hz:∃z:Int,xs.getD i 0=wx z B/\Bd m z:=by
  rcases wB i xs.length with q | q
  ·rw[wa,wc q]
   exact h2 _ (Wc q)
  ·rw[wa,wF q]
   exact⟨0,by simp,⟨by simp;exact Wj m⟩⟩
 obtain⟨z,ez,hz⟩:=hz;have key:=λ(t:Int)(ht:Bd m t)=>p0 ba bb h0 (show Bd (m+2) (t+B-z)from((ht.add h1).sub hz).mono (by lia)) (h1.mono (by lia)) n
 obtain⟨p1,p2,_⟩:=key 0 ⟨by simp;exact Wj m⟩;refine⟨_,p1,p2,λx hx=>?_⟩
 have hx':x=0 \/ ∃y∈xs,x=push a b n (y+(1-xs.getD i 0)):=by
  unfold dF at hx;rcases QF hx with q | q
  ·obtain⟨y,hy,rfl⟩:=wY.mp q
   exact .inr ⟨y,hy,rfl⟩
  ·exact .inl q
 rcases hx' with rfl | ⟨y,hy,rfl⟩
 ·exact⟨0,by simp,⟨by simp;exact Wj _⟩⟩
 ·obtain⟨t,rfl,ht⟩:=h2 y hy
  obtain⟨_,_,T,e,hT⟩:=key t ht
  have e2:wx t B+(1-xs.getD i 0)=wx (t+B-z) B:=by
   rw[ez]
   symm
   refine fb (by lia) ?_;have q1:=cE t (show B≠0 by lia);have q2:=cE z (show B≠0 by lia);have q3:((t+B-z:Int):Rat)=(t:Rat)+(B:Rat)-(z:Rat):=by push_cast;rfl
   rw[q3,<- q1,<- q2]
   grind
  rw[e2];exact⟨T,e,hT⟩
theorem Cm.snoc{m:Nat}{xs:List Rat}(h:Cm m xs):Cm m (xs++[0]):=by
 obtain⟨B,h0,h1,h2⟩:=h;refine⟨B,h0,h1,λx hx=>?_⟩;rcases vX.mp hx with q | q
 ·exact h2 x q
 ·rw[wX.mp q]
  exact⟨0,by simp,⟨by simp;exact Wj m⟩⟩
def upTo(ns:List Int)(k:Nat):Nat:=((ns.take k).map QW).sum
theorem mV{ns:List Int}{k:Nat}(h:k<ns.length):upTo ns (k+1)=upTo ns k+(ns.getD k 0).toNat:=by
 unfold upTo;rw[V1,wc h,wa,wc h,vt,List.sum_append]
 show _+([ns[k].toNat]:List Nat).sum=_
 rw[List.sum_singleton]
 rfl
theorem Cm.rows{m:Nat}{xs:List Rat}{a b:Rat}{ns:List Int}(h:Cm m xs)(ba:ag 10 a)(bb:ag 10 b):∀k,k<=ns.length->Cm (m+2*k+21*upTo ns k) (aM a b ns xs k)
 | 0,_=>h.mono (by lia)
 | k+1,hk=>by
  have:=(Cm.rows h ba bb (ns:=ns) k (by lia)).l9 ba bb (ns.getD k 0).toNat k;rw[aM];refine this.mono ?_;rw[mV (by lia)]
  lia
theorem Kq(a:Rat)(m:Nat):∀n:Nat,a^(m+n)=a^m*a^n
 | 0=>by rw[Nat.add_zero,qB,Rat.mul_one]
 | n+1=>by rw[<- VN,WK,Kq a m n,WK,ue]
theorem zuP(a b:Rat)(n:Nat)(xs ys:List Rat)(i j:Nat)(hx:xs.length=ys.length)(hj:j<xs.length) :
  (dF a b n xs i).getD j 0-(dF a b n ys i).getD j 0=a^n*((xs.getD j 0-ys.getD j 0)-(xs.getD i 0-ys.getD i 0)):=by
 rw[fi a b n xs i j hj,fi a b n ys i j (by lia)]
 by_cases h:j=i
 ·subst h
  rw[if_pos rfl,if_pos rfl]
  grind
 ·rw[if_neg h,if_neg h,KU]
  grind
theorem Aq(a b:Rat)(ns:List Int)(xs ys:List Rat)(hx:xs.length=ys.length)(hn:ns.length=xs.length)(l:Nat)(hl:l+1=xs.length)(h0:xs.getD l 0=ys.getD l 0) :
  ∀k,k<=ns.length->∀j,j<xs.length->(aM a b ns xs k).getD j 0-(aM a b ns ys k).getD j 0=a^upTo ns k*((xs.getD j 0-ys.getD j 0)-(if k=0 then 0 else xs.getD (k-1) 0-ys.getD (k-1) 0))
 | 0,_,j,hj=>by simp[aM,upTo];grind
 | k+1,hk,j,hj=>by
  rw[aM,aM,zuP _ _ _ _ _ _ _ (by rw[cw,cw,hx]) (by rw[cw];exact hj),Aq a b ns xs ys hx hn l hl h0 k (by lia) j hj,Aq a b ns xs ys hx hn l hl h0 k (by lia) k (by lia),mV (by lia),Kq];simp only[qD];rw[if_neg (show ¬ k+1=0 by lia)]
  grind
def lR(a b:Rat)(n:Nat)(xs:List Rat):List Rat:=(xs.tail.map λy=>push a b n (y+(1-xs.headD 0)))++[0]
def turned(a b:Rat)(ns:List Int)(xs:List Rat):Nat->List Rat
 | 0=>xs
 | k+1=>lR a b (ns.getD k 0).toNat (turned a b ns xs k)
theorem zev(a b:Rat)(ns:List Int)(xs:List Rat):∀k,k<=xs.length->turned a b ns xs k=(aM a b ns xs k).drop k++(aM a b ns xs k).take k
 | 0,_=>by simp[turned,aM]
 | k+1,hk=>by
  have hl:(aM a b ns xs k).length=xs.length:=cw a b ns xs k;have hk':k<(aM a b ns xs k).length:=by lia
  rw[turned,zev a b ns xs k (by lia),aM];generalize aM a b ns xs k=r at *;generalize (ns.getD k 0).toNat=n;have e1:r.drop k=r[k]::r.drop (k+1):=qq hk';have e2:r.getD k 0=r[k]:=by rw[wa,wc hk'];rfl
  unfold lR dF;rw[e1,e2,QK,X6,List.headD_cons,List.drop_set_of_lt (by lia),vt,uf,Vt]
  congr 1
  have hm:k<(r.map λx=>push a b n (x+(1-r[k]))).length:=by rw[wm];exact hk'
  rw[List.map_take];generalize (r.map λx=>push a b n (x+(1-r[k])))=s at hm ⊢;rw[List.take_set,V1,wc hm]
  show _=(s.take k++[s[k]]).set k 0
  have hlk:(s.take k).length=k:=by rw[Wz];lia
  rw[List.set_append_right _ _ (by lia),hlk,VI]
  rfl
theorem CJ(a b:Rat)(ns:List Int)(xs:List Rat)(h:ns.length=xs.length):turned a b ns xs ns.length=aM a b ns xs ns.length:=by
 rw[zev a b ns xs _ (by lia)];have hl:(aM a b ns xs ns.length).length=xs.length:=cw a b ns xs _;rw[Q3 (by lia),Vf (by lia),qp]
def j3(xs:List Rat):Nat->Int
 | 0=>1
 | k+1=>j3 xs k*((xs.getD k 0).den:Int)
theorem Bm(xs:List Rat):∀k,0<j3 xs k
 | 0=>by show(0:Int)<1;decide
 | k+1=>vJ (Bm xs k) (den_pos _)
theorem Ds(xs:List Rat):∀k j,j<k->((xs.getD j 0).den:Int) ∣ j3 xs k
 | 0,j,h=>by lia
 | k+1,j,h=>by
  rcases wB j k with z | z
  ·exact qd (Ds xs k j z) (Vv ..)
  ·have:j=k:=by lia
   subst this;exact Xx ..
theorem B7{xs:List Rat}{m:Nat}(h:∀i,ag m (xs.getD i 0)):∀k,Bd (m*k+1) (j3 xs k)
 | 0=>⟨by show(1:Int).natAbs<_;simp⟩
 | k+1=>by
  rw[j3];refine((B7 h k).mul (h k).b).mono ?_;rw[Nat.mul_add];lia
theorem JY{x:Rat}{B:Int}(hB:0<B)(h:(x.den:Int) ∣ B):wx (x.num*B.fdiv x.den) B=x:=by
 obtain⟨c,rfl⟩:=h;rw[ff (Vv ..) (fu x),VG _ (fu x)];refine fb (by lia) ?_;have:=j5 x;rw[Wi,Wi,<- this]
 grind
theorem AZ{B d:Int}{m:Nat}(hd:0<d)(hB:0<B)(h:Bd m B):Bd m (B.fdiv d):=by
 refine h.le ?_;rw[Int.fdiv_eq_ediv_of_nonneg _ (by lia)];have h1:0<=B / d:=Int.ediv_nonneg (by lia) (by lia);have h2:B / d<=B:=Int.ediv_le_self _ (by lia)
 lia
def dw(B:Int)(ts:List Int):List Rat:=ts.map λt=>wx t B
theorem zsy{B x:Int}{ts:List Int}(hB:0<B):dw B (ts.map λt=>t+(B-x))=(dw B ts).map λy=>y+(1-wx x B):=by
 unfold dw;rw[WF,WF];refine qm λt _=>?_
 show wx (t+(B-x)) B=wx t B+(1-wx x B)
 refine fb (by lia) ?_;have q1:=cE t (show B≠0 by lia);have q2:=cE x (show B≠0 by lia);have q3:((t+(B-x):Int):Rat)=(t:Rat)+((B:Rat)-(x:Rat)):=by push_cast;rfl
 rw[q3,<- q1,<- q2]
 grind
theorem zsa{a b:Rat}{B:Int}{ts:List Int}(hB:0<B):dw (B*a.den*b.den) (ts.map λt=>a.num*b.den*t+b.num*a.den*B)=(dw B ts).map λy=>a*y+b:=by
 unfold dw;rw[WF,WF];refine qm λt _=>?_
 exact Pp a b t B (by lia)
theorem HM{B:Int}(ts:List Int):dw B (ts++[0])=dw B ts++[0]:=by
 unfold dw;rw[vt];simp
theorem u6(a b:Rat)(ns:List Int)(xs:List Rat){k:Nat}(hk:k<xs.length):(turned a b ns xs k).headD 0=(aM a b ns xs k).getD k 0:=by
 have hl:=cw a b ns xs k;rw[zev a b ns xs k (by lia),qq (by lia),wa,wc (by lia)]
 rfl
theorem sS(a b:Rat)(ns:List Int)(xs:List Rat)(hx:0<xs.length):∀k,(turned a b ns xs k).length=xs.length
 | 0=>rfl
 | k+1=>by
  have:=sS a b ns xs hx k;rw[turned,lR,wS,wm,Xy,this];simp;lia
theorem LY(x y:Rat):((x*y).num=x.num / (x.num.natAbs.gcd y.den:Nat)*(y.num / (y.num.natAbs.gcd x.den:Nat)))/\((x*y).den=x.den / (y.num.natAbs.gcd x.den)*(y.den / (x.num.natAbs.gcd y.den))):=by
 show(Rat.mul x y).num=_/\(Rat.mul x y).den=_
 unfold Rat.mul;simp only[Int.divExact_eq_ediv,Nat.divExact_eq_div]
 constructor<;>trivial
theorem KS(x y:Rat):((x+y).num=(x.num*((y.den / x.den.gcd y.den:Nat):Int)+y.num*((x.den / x.den.gcd y.den:Nat):Int)) / (((x.num*((y.den / x.den.gcd y.den:Nat):Int)+y.num*((x.den / x.den.gcd y.den:Nat):Int)).natAbs.gcd (x.den.gcd y.den):Nat):Int))/\((x+y).den=x.den / (x.den.gcd y.den)*(y.den / ((x.num*((y.den / x.den.gcd y.den:Nat):Int)+y.num*((x.den / x.den.gcd y.den:Nat):Int)).natAbs.gcd (x.den.gcd y.den)))):=by
 show(Rat.add x y).num=_/\(Rat.add x y).den=_
 unfold Rat.add
 by_cases hg:x.den.gcd y.den=1
 ·simp[hg]
 ·simp only[hg,dite_false,Rat.maybeNormalize_eq]
  refine⟨by simp,?_⟩;simp;have:(x.num*((y.den / x.den.gcd y.den:Nat):Int)+y.num*((x.den / x.den.gcd y.den:Nat):Int)).natAbs.gcd (x.den.gcd y.den) ∣ y.den:=Nat.dvd_trans (Xa _ _) (Xa _ _);simp at this;rw[Nat.mul_div_assoc _ this]
def eK(x y:Rat):Int:=((vk (x.den:Int) (y.den:Int):Nat):Int)
def j_(x y:Rat):Int:=x.num*(y.den:Int).fdiv (eK x y)+y.num*(x.den:Int).fdiv (eK x y)
def ja(x y:Rat):Int:=((vk (j_ x y) (eK x y):Nat):Int)
theorem rN(x y:Rat):0<eK x y:=by
 have:0<vk (x.den:Int) (y.den:Int):=Int.gcd_pos_of_ne_zero_left _ (by have:=x.den_pos;lia);unfold eK;lia
theorem A0(x y:Rat):0<ja x y:=by
 have:0<vk (j_ x y) (eK x y):=V4 _ (by have:=rN x y;lia);unfold ja;lia
theorem Aw(x y:Rat):eK x y=((x.den.gcd y.den:Nat):Int):=by simp[eK,vk]
theorem pN(x y:Rat):eK x y ∣ (x.den:Int):=qa ..
theorem ze(x y:Rat):eK x y ∣ (y.den:Int):=qM ..
theorem zA3(x y:Rat):ja x y ∣ j_ x y:=qa ..
theorem B_(x y:Rat):ja x y ∣ eK x y:=qM ..
theorem Lf(x y:Rat):j_ x y=x.num*((y.den / x.den.gcd y.den:Nat):Int)+y.num*((x.den / x.den.gcd y.den:Nat):Int):=by
 have h:=rN x y;rw[j_,ff (ze x y) (by lia),ff (pN x y) (by lia),Aw,VH,VH]
theorem NC(x y:Rat):ja x y=(((x.num*((y.den / x.den.gcd y.den:Nat):Int)+y.num*((x.den / x.den.gcd y.den:Nat):Int)).natAbs.gcd (x.den.gcd y.den):Nat):Int):=by
 rw[ja,Lf,Aw];simp[vk]
theorem UB(x y:Rat):(j_ x y).fdiv (ja x y)=(x+y).num:=by
 have h:=A0 x y;rw[ff (zA3 x y) (by lia),(KS x y).1,NC,Lf]
theorem YK(x y:Rat):(x.den:Int).fdiv (eK x y)*(y.den:Int).fdiv (ja x y)=((x+y).den:Int):=by
 have h:=A0 x y;have h2:=rN x y;rw[ff (qd (B_ x y) (ze x y)) (by lia),ff (pN x y) (by lia),(KS x y).2,NC,Aw];simp only[Vn,VH]
def fM(x y:Rat):Int:=((vk x.num (y.den:Int):Nat):Int)
theorem nG(x y:Rat):0<fM x y:=by
 have:0<vk x.num (y.den:Int):=V4 _ (by have:=y.den_pos;lia);unfold fM;lia
theorem zf(x y:Rat):fM x y ∣ x.num:=qa ..
theorem mZ(x y:Rat):fM x y ∣ (y.den:Int):=qM ..
theorem zA(x y:Rat):fM x y=((x.num.natAbs.gcd y.den:Nat):Int):=by simp[fM,vk]
theorem zyP(x y:Rat):x.num.fdiv (fM x y)*y.num.fdiv (fM y x)=(x*y).num:=by
 have h:=nG x y;have h2:=nG y x;rw[ff (zf x y) (by lia),ff (zf y x) (by lia),(LY x y).1,zA,zA]
theorem zyd(x y:Rat):(x.den:Int).fdiv (fM y x)*(y.den:Int).fdiv (fM x y)=((x*y).den:Int):=by
 have h:=nG x y;have h2:=nG y x;rw[ff (mZ x y) (by lia),ff (mZ y x) (by lia),(LY x y).2,zA,zA];simp only[Vn,VH]
theorem lA{n:Nat}{a d:Int}(h:Bd n a)(hd:d ∣ a)(hp:0<d):Bd n (a.fdiv d):=by
 rw[ff hd (by lia)];exact h.le (QE a d)
theorem oX{n:Nat}{a d:Int}(h:Bd n a)(hd:d ∣ a)(ha:0<a):Bd n d :=
 h.le (ug (by lia) (Int.natAbs_dvd_natAbs.mpr hd))
theorem DV(t b:Int):vk (if t<0 then -t else t) b=vk t b:=by split<;>simp
theorem zyw{n:Nat}{y:Rat}(h:ag n y):ag n (-y):=⟨by simpa using h.t.neg,by simpa using h.b⟩
theorem Yn(x y:Rat):x + -y=x-y:=(Rat.sub_eq_add_neg x y).symm
theorem zb{y:Rat}(h:0<y.num):(y⁻¹).num=(y.den:Int)/\((y⁻¹).den:Int)=y.num:=by
 have:¬ y.num<0:=by lia
 constructor
 ·rw[Rat.num_inv,Q1 h,Int.one_mul]
 ·rw[Rat.den_inv];split<;>lia
theorem sf{y:Rat}(h:y.num<0):(y⁻¹).num = -(y.den:Int)/\((y⁻¹).den:Int) = -y.num:=by
 constructor
 ·rw[Rat.num_inv,Qs h,XT]
 ·rw[Rat.den_inv];split<;>lia
theorem Il{n:Nat}{y:Rat}(h:ag n y)(hy:y≠0):ag n y⁻¹:=by
 have:=zi hy
 by_cases p:0<y.num
 ·exact⟨by rw[(zb p).1];exact h.b,by rw[(zb p).2];exact h.t⟩
 ·have p:y.num<0:=by lia
  exact⟨by rw[(sf p).1];exact h.b.neg,by rw[(sf p).2];exact h.t.neg⟩
theorem du{α : Type}{xs:List α}{d : α}{i:Nat}(h:i<xs.length):xs.getD i d∈xs:=by
 rw[wa,wc h];exact Wc h
def jD(x:Rat):Bool:=(!decide (x<0))&&(decide (x<1)&&decide ((x.den:Int)<=60))
structure fS(x:Rat):Prop where
 nn:0<=x
 lt:x<1
 den:x.den<=60
theorem fS.is{x:Rat}(h:fS x):jD x=true:=by
 have h1:=h.nn;have h2:=h.lt;have h3:=h.den;have h4:¬ x<0:=VR.mpr h1;have h5:(x.den:Int)<=60:=by lia
 simp[jD,h4,h2,h5]
theorem fS.fo{x:Rat}(h:fS x):ag 6 x:=by
 have h1:=h.nn;have h2:=h.lt;have h3:=h.den;have n0:0<=x.num:=qJ.mpr h1
 have n1:x.num<x.den:=by
   have:=xo x 1 |>.mp h2
   simpa using this
 exact ⟨⟨by have : (2 : Nat) ^ 6 = 64 := by decide
            omega⟩, ⟨by have : (2 : Nat) ^ 6 = 64 := by decide
                        omega⟩⟩
def mx(m:Rat)(l:List Rat):Rat:=l.foldl (λm x=>if m<x then x else m) m
theorem PC:∀(l:List Rat)(m:Rat),m<=mx m l /\ ∀y∈l,y<=mx m l
 | [],m=>⟨WL,λy h=>by cases h⟩
 | x::l,m=>by
  have h:=PC l (if m<x then x else m);have e:mx m (x::l)=mx (if m<x then x else m) l:=rfl;rw[e]
  have h1:m<=(if m<x then x else m)/\x<=(if m<x then x else m):=by
   split
   ·rename_i z;exact⟨vS z,WL⟩
   ·rename_i z;exact⟨WL,VR.mp z⟩
  refine⟨QL h1.1 h.1,λy hy=>?_⟩;rcases wQ.mp hy with rfl | hy
  ·exact QL h1.2 h.1
  ·exact h.2 y hy
theorem Ao:∀(l:List Rat)(m:Rat),mx m l=m\/mx m l∈l
 | [],m=>.inl rfl
 | x::l,m=>by
  have e:mx m (x::l)=mx (if m<x then x else m) l:=rfl;rw[e];rcases Ao l (if m<x then x else m)with h | h
  ·rw[h]
   split
   ·exact .inr (wJ ..)
   ·exact .inl rfl
  ·exact .inr (wD _ h)
theorem sH(m x:Rat)(l:List Rat):mx m (l++[x])=if mx m l<x then x else mx m l:=by
 unfold mx;rw[Xb];rfl
def bY(xs:List Rat):Rat:=mx (xs.getD 0 0) xs
theorem LU{xs:List Rat} : ∀y∈xs,y<=bY xs:=(PC xs _).2
theorem gO{xs:List Rat}(h:1<=xs.length):bY xs∈xs:=by
 rcases Ao xs (xs.getD 0 0)with e | e
 ·unfold bY
  rw[e,wa,wc (by lia)];exact Wc _
 ·exact e
theorem my{xs:List Rat}{i:Nat}(h:i<xs.length):xs.take (i+1)=xs.take i++[xs.getD i 0]:=by
 rw[V1,wa,wc h];rfl
theorem Lo{n:Nat}{xs:List Rat}(b:∀i,ag n (xs.getD i 0))(h1:1<=xs.length)(i:Nat):ag n (mx (xs.getD 0 0) (xs.take i)):=by
 rcases Ao (xs.take i) (xs.getD 0 0)with e | e
 ·rw[e];exact b 0
 ·have e:=Xz _ _ e
  obtain⟨j,hj,ej⟩:=vc e;rw[<- ej];have:=b j;rw[wa,wc hj]at this;exact this
theorem Pc{r u:Int}(h0:0<=r)(h1:r<u)(h2:u<=60):fS (wx r u):=by
 refine⟨x9 h0 (by lia),TL (c:=1) (by lia) (by lia),?_⟩;have:=Eh r u (by lia)
 lia
def aD(ps:List Rat)(left:List Nat):List Nat:=left.filter λw=>!decide (ps.getD w 0<1)
def bP(left wave:List Nat):List Nat:=left.filter λw=>!decide (w∈wave)
def cy(f g:Rat)(ps:List Rat)(l:List Nat):List Rat:=l.foldl (λps w=>ps.set w (f*ps.getD w 0+g)) ps
def cv(a b:Rat):Nat->List Rat->List Nat->List (List Nat) × (List Nat × List Rat)
 | 0,ps,left=>([],left,ps)
 | n+1,ps,left=>match aD ps left with
  | []=>([],left,ps)
  | w::ws=>((w::ws)::(cv a b n (cy (a^(w::ws).length) (aB a b (w::ws).length) ps (bP left (w::ws))) (bP left (w::ws))).1,(cv a b n (cy (a^(w::ws).length) (aB a b (w::ws).length) ps (bP left (w::ws))) (bP left (w::ws))).2)
def jo(left:List Nat)(ps:List Rat):List Rat:=(wt ps.length).map λi=>if i∈left then ps.getD i 0 else 0
def bE(xs:List Rat):List Rat:=xs.map (· + (1-bY xs))
def d6(a b:Rat)(xs:List Rat):List (List Nat) × (List Nat × List Rat):=cv a b xs.length (bE xs) (wt xs.length)
def bW(a b:Rat)(xs:List Rat):List (List Nat):=(d6 a b xs).1
def cQ(a b:Rat)(xs:List Rat):List Rat:=jo (d6 a b xs).2.1 (d6 a b xs).2.2
theorem mi{a b:Rat}{n:Nat}{ps:List Rat}{left:List Nat}(h:aD ps left=[]):cv a b n ps left=([],left,ps):=by
 cases n with
 | zero=>rfl
 | succ n=>rw[cv,h]
theorem iX{a b:Rat}{n:Nat}{ps:List Rat}{left:List Nat}(h:aD ps left≠[]):cv a b (n+1) ps left=(aD ps left::(cv a b n (cy (a^(aD ps left).length) (aB a b (aD ps left).length) ps (bP left (aD ps left))) (bP left (aD ps left))).1,(cv a b n (cy (a^(aD ps left).length) (aB a b (aD ps left).length) ps (bP left (aD ps left))) (bP left (aD ps left))).2):=by
 rw[cv];cases e:aD ps left with
 | nil=>exact absurd e h
 | cons w ws=>rfl
theorem U3(f g:Rat)(ps:List Rat)(l:List Nat)(w:Nat):cy f g ps (l++[w])=(cy f g ps l).set w (f*(cy f g ps l).getD w 0+g):=by
 unfold cy;rw[Xb];rfl
theorem iE(f g:Rat):∀(l:List Nat)(ps:List Rat),(cy f g ps l).length=ps.length
 | [],ps=>rfl
 | w::l,ps=>by
  show(cy f g (ps.set w _) l).length=_
  rw[iE f g l,Vm]
theorem LJ{ps:List Rat}{w j:Nat}{y:Rat}(h:w≠j):(ps.set w y).getD j 0=ps.getD j 0:=by
 rw[wa,Vu,if_neg h,wa]
theorem Js{ps:List Rat}{w:Nat}{y:Rat}(h:w<ps.length):(ps.set w y).getD w 0=y:=by
 rw[wa,Vu,if_pos rfl,if_pos h];rfl
theorem jg(f g:Rat):∀(l:List Nat)(ps:List Rat),l.Nodup->(∀w∈l,w<ps.length)->∀j,(cy f g ps l).getD j 0=if j∈l then f*ps.getD j 0+g else ps.getD j 0
 | [],ps,_,_,j=>by simp[cy]
 | w::l,ps,nd,hl,j=>by
  have nd':=VQ.mp nd
  show(cy f g (ps.set w _) l).getD j 0=_
  rw[jg f g l _ nd'.2 (λv hv=>by rw[Vm];exact hl v (wD _ hv)) j]
  by_cases hj:j=w
  ·subst hj
   rw[if_neg nd'.1,if_pos (wJ ..),Js (hl j (wJ ..))]
  ·rw[LJ (We hj)]
   by_cases hm:j∈l
   ·rw[if_pos hm,if_pos (wD _ hm)]
   ·rw[if_neg hm,if_neg (λz=>by rcases wQ.mp z with z | z;(exact hj z);exact hm z)]
theorem zsw(ps:List Rat)(left:List Nat):bP left (aD ps left)=left.filter λw=>decide (ps.getD w 0<1):=by
 unfold bP;refine vF λw hw=>?_
 have e:(w∈aD ps left)=(¬ ps.getD w 0<1):=by
  unfold aD;rw[vd];simp[hw]
 simp only[e];simp
theorem AM(ps:List Rat)(left:List Nat):(aD ps left).length+(bP left (aD ps left)).length=left.length:=by
 rw[zsw];unfold aD
 induction left with
 | nil=>rfl
 | cons w l ih=>by_cases h:ps.getD w 0<1<;>simp only[WG,h,decide_true,decide_false,qf,xc,if_true,if_false,vT,vR]<;>lia
theorem mh{left wave:List Nat}(h:left.Nodup):(bP left wave).Nodup:=h.filter _
theorem nD{left wave:List Nat}{n:Nat}(h:∀w∈left,w<n):∀w∈bP left wave,w<n:=λw hw=>h w (vd.mp hw).1
theorem JI(left:List Nat)(ps:List Rat):(jo left ps).length=ps.length:=by simp[jo]
theorem mE{left:List Nat}{ps:List Rat}{j:Nat}(h:j<ps.length):(jo left ps).getD j 0=if j∈left then ps.getD j 0 else 0:=by
 unfold jo;rw[wa,wu,vI h]
 rfl
theorem fc(xs:List Rat):(bE xs).length=xs.length:=by simp[bE]
theorem pq{a b:Rat} : ∀(n:Nat)(ps:List Rat)(left:List Nat),(cv a b n ps left).2.2.length=ps.length
 | 0,ps,left=>rfl
 | n+1,ps,left=>by
  by_cases h:aD ps left=[]
  ·rw[mi h]
  ·rw[iX h]
   show(cv a b n _ _).2.2.length=_
   rw[pq n,iE]
theorem iY(a b:Rat)(xs:List Rat):(cQ a b xs).length=xs.length:=by
 unfold cQ d6;rw[JI,pq,fc]
theorem Cm.G9{m:Nat}{ps:List Rat}{B:Int}(h0:0<B)(h1:Bd m B)(h:∀j,j<ps.length->∃t:Int,ps.getD j 0=wx t B/\Bd m t):∀x∈ps,∃t:Int,x=wx t B/\Bd m t:=λx hx=>by
 obtain⟨j,hj,e⟩:=vc hx;have:=h j hj;rw[wa,wc hj]at this;rw[<- e];exact this
theorem yA{a b:Rat}(ba:ag 10 a)(bb:ag 10 b){m:Nat}{t:Int}(h:Bd m t):∀n:Nat,Bd (m+21*n) (t*((a.den:Int)*(b.den:Int))^n)
 | 0=>by simpa using h
 | n+1=>by
  rw[qX,<- VO];exact((yA ba bb h n).mul (ba.b.mul bb.b)).mono (by lia)
theorem pU{t B d:Int}(h0:0<B)(hd:0<d):wx t B=wx (t*d) (B*d):=by
 symm
 refine fb (by have:=vJ h0 hd;lia) ?_;have q1:=cE t (show B≠0 by lia);rw[Wi,Wi,<- ue,q1]
theorem Cm.wave{m:Nat}{h:Rat}{ps:List Rat}{a b:Rat}(c:Cm m (h::ps))(ba:ag 10 a)(bb:ag 10 b)(n:Nat){l:List Nat}(nd:l.Nodup)(hl:∀w∈l,w<ps.length):Cm (m+21*n) (h::cy (a^n) (aB a b n) ps l):=by
 obtain⟨B,h0,h1,h2⟩:=c;have hz:Bd m (0:Int):=⟨by simp;exact Wj m⟩;obtain⟨p1,p2,_⟩:=p0 ba bb h0 hz h1 n;have hd:0<((a.den:Int)*(b.den:Int))^n:=Xq (vJ (den_pos a) (den_pos b));refine⟨_,p1,p2,λx hx=>?_⟩;rcases wQ.mp hx with rfl | hx
 ·obtain⟨t,rfl,ht⟩:=h2 x (wJ ..)
  exact⟨_,pU h0 hd,yA ba bb ht n⟩
 ·refine Cm.G9 p1 p2 (λj hj=>?_) x hx
  rw[iE]at hj;obtain⟨t,e,ht⟩:=h2 (ps.getD j 0) (wD _ (du hj));rw[jg _ _ _ _ nd hl]
  split
  ·obtain⟨_,_,T,e2,hT⟩:=p0 ba bb h0 ht h1 n
   exact⟨T,by rw[<- ik,e,e2],hT⟩
  ·exact⟨_,by rw[e];exact pU h0 hd,yA ba bb ht n⟩
theorem Cm.rise{m:Nat}{h M:Rat}{xs:List Rat}(c:Cm m (h::xs))(hM:M∈xs):Cm (m+2) ((h+(1-M))::xs.map (· + (1-M))):=by
 obtain⟨B,h0,h1,h2⟩:=c;obtain⟨z,ez,hz⟩:=h2 M (wD _ hM)
 have key:∀t:Int,Bd m t->wx t B+(1-M)=wx (t+B-z) B/\Bd (m+2) (t+B-z):=λt ht=>by
  refine⟨?_,((ht.add h1).sub hz).mono (by lia)⟩;rw[ez]
  symm
  refine fb (by lia) ?_;have q1:=cE t (show B≠0 by lia);have q2:=cE z (show B≠0 by lia);have q3:((t+B-z:Int):Rat)=(t:Rat)+(B:Rat)-(z:Rat):=by push_cast;rfl
  rw[q3,<- q1,<- q2]
  grind
 refine⟨B,h0,h1.mono (by lia),λx hx=>?_⟩;rcases wQ.mp hx with rfl | hx
 ·obtain⟨t,e,ht⟩:=h2 h (wJ ..)
  rw[e];exact⟨_,(key t ht).1,(key t ht).2⟩
 ·obtain⟨y,hy,rfl⟩:=wY.mp hx
  obtain⟨t,e,ht⟩:=h2 y (wD _ hy)
  show ∃t:Int,y+(1-M)=_/\_
  rw[e];exact⟨_,(key t ht).1,(key t ht).2⟩
theorem Cm.kJ{m:Nat}{xs:List Rat}{ys:List Rat}(c:Cm m xs)(h:∀y∈ys,y∈xs\/y=0):Cm m ys:=by
 obtain⟨B,h0,h1,h2⟩:=c;refine⟨B,h0,h1,λy hy=>?_⟩;rcases h y hy with z | rfl
 ·exact h2 y z
 ·exact⟨0,by simp,⟨by simp;exact Wj m⟩⟩
theorem Tr{left:List Nat}{ps:List Rat} : ∀y∈jo left ps,y∈ps\/y=0:=λy hy=>by
 unfold jo at hy;obtain⟨i,hi,e⟩:=wY.mp hy;rw[<- e]
 split
 ·exact .inl (du (wH.mp hi))
 ·exact .inr rfl
theorem Cm.RL{k:Nat}{xs:List Rat}(h:∀i,ag k (xs.getD i 0)):Cm (k*xs.length+1+k) xs:=by
 have h0:=Bm xs xs.length;have h1:=B7 h xs.length;refine⟨j3 xs xs.length,h0,h1.mono (by lia),Cm.G9 h0 (h1.mono (by lia)) λj hj=>?_⟩;exact⟨_,(JY h0 (Ds xs _ j hj)).symm,((h j).t.mul (AZ (den_pos _) h0 h1)).mono (by lia)⟩
def ai(a b:Rat)(xs:List Rat):Nat->List Rat
 | 0=>xs
 | k+1=>cQ a b (ai a b xs k)
def aN(a b:Rat)(xs:List Rat):Nat->Rat
 | 0=>0
 | k+1=>aN a b xs k+(1-bY (ai a b xs k))
theorem bR(a b:Rat)(xs:List Rat):∀k,(ai a b xs k).length=xs.length
 | 0=>rfl
 | k+1=>by rw[ai,iY,bR a b xs k]
theorem sW{f:Rat->Rat}{xs:List Rat}{w:Nat}(h:w<xs.length):(xs.map f).getD w 0=f (xs.getD w 0):=by
 rw[wa,wu,wc h,wa,wc h];rfl
def pB(d:Int)(m:Nat)(xs:List Rat):Prop:=∃B:Int,0<B/\d ∣ B/\Bd m B /\ ∀x∈xs,∃t:Int,x=wx t B/\Bd m t
theorem pB.of{d:Int}{m:Nat}{xs:List Rat}(h:Cm m xs)(hd:0<d)(b:Bd 4 d):pB d (m+4) xs:=by
 obtain⟨B,h0,h1,h2⟩:=h;refine⟨B*d,vJ h0 hd,Xx ..,(h1.mul b),λx hx=>?_⟩;obtain⟨t,e,ht⟩:=h2 x hx;exact⟨t*d,by rw[e];exact pU h0 hd,ht.mul b⟩
theorem NU{a b:Rat}(ta:Bd 6 a.num)(da:Bd 4 (a.den:Int))(tb:Bd 4 b.num){m:Nat}{t u:Int}(hu:0<u)(hd:(b.den:Int) ∣ u)(bt:Bd m t)(bu:Bd m u):∀n:Nat,0<u*(a.den:Int)^n/\(b.den:Int) ∣ u*(a.den:Int)^n/\Bd (m+9*n) (u*(a.den:Int)^n) /\
  ∃T:Int,push a b n (wx t u)=wx T (u*(a.den:Int)^n)/\Bd (m+9*n) T
 | 0=>⟨by simpa using hu,by simpa using hd,by simpa using bu,t,by simp[push],by simpa using bt⟩
 | n+1=>by
  obtain⟨h1,hdv,h2,T,e,hT⟩:=NU ta da tb hu hd bt bu n;have eb:u*(a.den:Int)^(n+1)=u*(a.den:Int)^n*(a.den:Int):=by rw[qX,<- VO]
  rw[eb];generalize u*(a.den:Int)^n=U at *;obtain⟨c,rfl⟩:=hdv
  have hc:0<c:=by
   have hb:=den_pos b;rcases Int.lt_or_le 0 c with z | z
   ·exact z
   ·have:=Int.mul_nonpos_of_nonneg_of_nonpos (Int.le_of_lt hb) z
    lia
  have bc:Bd (m+9*n) c:=h2.le (by
   rw[xa];exact Nat.le_mul_of_pos_left _ (by have:=den_pos b;lia))
  refine⟨vJ h1 (den_pos a),qd (Vv ..) (Vv ..),(h2.mul da).mono (by lia),a.num*T+b.num*(a.den:Int)*c,?_,((ta.mul hT).add ((tb.mul da).mul bc)).mono (by lia)⟩;rw[push,e]
  symm
  have hU:((b.den:Int)*c)*(a.den:Int)≠0:=by have:=vJ h1 (den_pos a);lia
  refine fb hU ?_;have q1:=cE T (show(b.den:Int)*c≠0 by lia);have q2:=j5 a;have q3:=j5 b;have q4:((a.num*T+b.num*(a.den:Int)*c:Int):Rat)=(a.num:Rat)*(T:Rat)+(b.num:Rat)*((a.den:Int):Rat)*(c:Rat):=by push_cast;rfl
  have q5:(((b.den:Int)*c*(a.den:Int):Int):Rat)=((b.den:Int):Rat)*(c:Rat)*((a.den:Int):Rat):=by push_cast;rfl
  have q6:(((b.den:Int)*c:Int):Rat)=((b.den:Int):Rat)*(c:Rat):=by push_cast;rfl
  rw[q6]at q1;rw[q4,q5,<- q1,<- q2,<- q3]
  grind
theorem c9(a b:Rat)(xs:List Rat)(m:Nat):∀k,ai a b (ai a b xs m) k=ai a b xs (m+k)
 | 0=>rfl
 | k+1=>by rw[ai,c9 a b xs m k];rfl
theorem m8(a b:Rat)(xs:List Rat)(m:Nat):∀k,aN a b xs m+aN a b (ai a b xs m) k=aN a b xs (m+k)
 | 0=>by show aN a b xs m+0=aN a b xs m;grind
 | k+1=>by
  have:=m8 a b xs m k
  show aN a b xs m+(aN a b (ai a b xs m) k+(1-bY (ai a b (ai a b xs m) k)))=aN a b xs (m+k)+(1-bY (ai a b xs (m+k)))
  rw[c9,<- this]
  grind
theorem MZ{a b:Rat}(a0:0<a)(b0:0<=b){x:Rat}(h:0<x):∀n:Nat,0<push a b n x
 | 0=>h
 | n+1=>by
  have h1:=MZ a0 b0 h n;have h2:=qk a0 h1
  show 0<a*push a b n x+b
  grind
structure gC(l:List Rat):Prop where
 pw:l.Pairwise (· > ·)
 nn:∀y∈l,0<=y
theorem gC.step{a b:Rat}(a0:0<a)(b0:0<=b){n:Nat}{x:Rat}{l:List Rat}(h:gC (x::l))(x1:x<1):gC (lR a b n (x::l)):=by
 have hp:=WR.mp h.pw;have pos:∀y∈l,0<push a b n (y+(1-x)):=λy hy=>MZ a0 b0 (by have:=h.nn y (wD _ hy);grind) n
 unfold lR;refine⟨qb.mpr ⟨?_,QR _ _,?_⟩,λy hy=>?_⟩
 ·show(l.map λy=>push a b n (y+(1-x))).Pairwise (· > ·)
  rw[Qy];refine hp.2.imp λ{y z} hyz=>?_
  show push a b n (z+(1-x))<push a b n (y+(1-x))
  have hyz:z<y:=hyz;exact(ZK a0 n _ _).mpr (by grind)
 ·intro y hy z hz
  obtain⟨w,hw,rfl⟩:=wY.mp hy;rw[wX.mp hz];exact pos w hw
 ·rcases vX.mp hy with hy | hy
  ·obtain⟨w,hw,rfl⟩:=wY.mp hy
   exact vS (pos w hw)
  ·rw[wX.mp hy];exact WL
structure fX(xs row:List Rat)(fl:Nat->Nat):Prop where
 at':∀w,w<xs.length->xs.getD w 0=row.getD (fl w) 0
 lt:∀w,w<xs.length->fl w<row.length
def bC(n:Nat)(fl:Nat->Nat)(c:Nat):List Nat:=(wt n).filter λw=>decide (fl w=c)
theorem oq{xs row:List Rat}{fl:Nat->Nat}{c:Nat}(h:fX xs row fl)(some:∃w,w<xs.length/\fl w=c)(top:∀j,j<row.length->j≠c->row.getD j 0<row.getD c 0):bY xs=row.getD c 0:=by
 obtain⟨w,hw,rfl⟩:=some;have h1:1<=xs.length:=by lia
 refine Rat.le_antisymm ?_ ?_
 ·obtain⟨j,hj,e⟩:=vc (gO h1)
  have ea:=h.at' j hj;rw[wa,wc hj]at ea;have ea:xs[j]=row.getD (fl j) 0:=ea;rw[<- e,ea]
  by_cases z:fl j=fl w
  ·rw[z];exact WL
  ·exact vS (top _ (h.lt j hj) z)
 ·rw[<- h.at' w hw]
  exact LU _ (du hw)
theorem AB{xs row:List Rat}{fl:Nat->Nat}{c:Nat}(h:fX xs row fl)(some:∃w,w<xs.length/\fl w=c)(top:∀j,j<row.length->j≠c->row.getD j 0<row.getD c 0):aD (bE xs) (wt xs.length)=bC xs.length fl c:=by
 unfold aD bC;refine vF λw hw=>?_
 have hw:=wH.mp hw;have hm:=oq h some top
 have e:(bE xs).getD w 0=row.getD (fl w) 0+(1-row.getD c 0):=by
  unfold bE;rw[wa,wu,wc hw,hm];have ea:=h.at' w hw;rw[wa,wc hw]at ea;have ea:xs[w]=row.getD (fl w) 0:=ea
  show xs[w]+(1-row.getD c 0)=_
  rw[ea]
 rw[e]
 by_cases z:fl w=c
 ·rw[z,decide_eq_true rfl,decide_eq_false (by grind)];rfl
 ·have:=top _ (h.lt w hw) z
  rw[decide_eq_false z,decide_eq_true (by grind)];rfl
theorem HF{xs row:List Rat}{fl:Nat->Nat}{c:Nat}(h:fX xs row fl)(hm:bY xs=row.getD c 0){w:Nat}(hw:w<xs.length):(bE xs).getD w 0=row.getD (fl w) 0+(1-row.getD c 0):=by
 unfold bE;rw[wa,wu,wc hw,hm];have ea:=h.at' w hw;rw[wa,wc hw]at ea;have ea:xs[w]=row.getD (fl w) 0:=ea
 show xs[w]+(1-row.getD c 0)=_
 rw[ea]
theorem zrk{a b:Rat}{xs row:List Rat}{fl:Nat->Nat}{c:Nat}(h:fX xs row fl)(some:∃w,w<xs.length/\fl w=c)(top:∀j,j<row.length->j≠c->row.getD j 0<row.getD c 0)
  (low:∀j,j<row.length->j≠c->(∃w,w<xs.length/\fl w=j)->push a b (bC xs.length fl c).length (row.getD j 0+(1-row.getD c 0))<1) :
  bW a b xs=[bC xs.length fl c]/\fX (cQ a b xs) (dF a b (bC xs.length fl c).length row c) fl:=by
 have hm:=oq h some top;have he:=AB h some top;obtain⟨w0,hw0,hf0⟩:=some
 have hne:bC xs.length fl c≠[]:=λe=>by
  have:w0∈bC xs.length fl c:=vd.mpr ⟨wH.mpr hw0,decide_eq_true hf0⟩;rw[e]at this;cases this
 have hlen:xs.length=(xs.length-1)+1:=by lia
 have hcl:c<row.length:=by rw[<- hf0];exact h.lt w0 hw0
 have nd:=W6 (n:=xs.length)
 have hmemL:∀w,w∈bP (wt xs.length) (bC xs.length fl c) ↔ w<xs.length/\fl w≠c:=λw=>by
  unfold bP bC;rw[vd,wH]
  constructor
  ·rintro ⟨h1,h2⟩
   refine⟨h1,λz=>?_⟩;have:w∈(wt xs.length).filter λw=>decide (fl w=c):=vd.mpr ⟨wH.mpr h1,decide_eq_true z⟩
   simp[this]at h2
  ·rintro ⟨h1,h2⟩
   exact⟨h1,by simp[h2]⟩
 have hps:∀w,w<xs.length->fl w≠c->(cy (a^(bC xs.length fl c).length) (aB a b (bC xs.length fl c).length) (bE xs) (bP (wt xs.length) (bC xs.length fl c))).getD w 0=push a b (bC xs.length fl c).length (row.getD (fl w) 0+(1-row.getD c 0)):=λw hw hf=>by
  rw[jg _ _ _ _ (mh nd) (λv hv=>by rw[fc];exact((hmemL v).mp hv).1),if_pos ((hmemL w).mpr ⟨hw,hf⟩),HF h hm hw,ik]
 have hend:aD (cy (a^(bC xs.length fl c).length) (aB a b (bC xs.length fl c).length) (bE xs) (bP (wt xs.length) (bC xs.length fl c))) (bP (wt xs.length) (bC xs.length fl c))=[]:=by
  unfold aD;rw[Q4];intro w hw;have hw':=(hmemL w).mp hw;rw[hps w hw'.1 hw'.2];have:=low (fl w) (h.lt w hw'.1) hw'.2 ⟨w,hw'.1,rfl⟩;rw[decide_eq_true this]
  decide
 have hR:d6 a b xs=([bC xs.length fl c],bP (wt xs.length) (bC xs.length fl c),cy (a^(bC xs.length fl c).length) (aB a b (bC xs.length fl c).length) (bE xs) (bP (wt xs.length) (bC xs.length fl c))):=by
  unfold d6;generalize hN:cv a b xs.length (bE xs) (wt xs.length)=r;rw[show cv a b xs.length (bE xs) (wt xs.length)=cv a b ((xs.length-1)+1) (bE xs) (wt xs.length) by rw[<- hlen],iX (by rw[he];exact hne),he,mi hend]at hN;exact hN.symm
 refine⟨by unfold bW;rw[hR],λw hw=>?_,λw hw=>by rw[iC];exact h.lt w (by rw[iY]at hw;exact hw)⟩;rw[iY]at hw;have hfw:=h.lt w hw;unfold cQ;rw[hR,mE (by rw[iE,fc];exact hw),fi _ _ _ _ _ _ hfw]
 by_cases z:fl w=c
 ·rw[if_neg (λy=>((hmemL w).mp y).2 z),if_pos z]
 ·rw[if_pos ((hmemL w).mpr ⟨hw,z⟩),if_neg z,hps w hw z]
theorem zq5{a b:Rat}{xs row:List Rat}{fl:Nat->Nat}{c:Nat}(h:fX xs row fl)(some:∃w,w<xs.length/\fl w=c)(top:∀j,j<row.length->j≠c->row.getD j 0<row.getD c 0)
  {w1:Nat} (hw1:w1<xs.length) (hf1:fl w1≠c) (up:¬ push a b (bC xs.length fl c).length (row.getD (fl w1) 0+(1-row.getD c 0))<1):1<(bW a b xs).length:=by
 have hm:=oq h some top;have he:=AB h some top;obtain⟨w0,hw0,hf0⟩:=some
 have hne:bC xs.length fl c≠[]:=λe=>by
  have:w0∈bC xs.length fl c:=vd.mpr ⟨wH.mpr hw0,decide_eq_true hf0⟩;rw[e]at this;cases this
 have hw01:w0≠w1:=λe=>hf1 (by rw[<- e];exact hf0)
 have hlen:xs.length=(xs.length-2)+1+1:=by lia
 have nd:=W6 (n:=xs.length)
 have hmem:w1∈bP (wt xs.length) (bC xs.length fl c):=by
  unfold bP bC;rw[vd,wH];exact⟨hw1,by simp[hf1]⟩
 have hend:aD (cy (a^(bC xs.length fl c).length) (aB a b (bC xs.length fl c).length) (bE xs) (bP (wt xs.length) (bC xs.length fl c))) (bP (wt xs.length) (bC xs.length fl c))≠[]:=λe=>by
  have:w1∈aD (cy (a^(bC xs.length fl c).length) (aB a b (bC xs.length fl c).length) (bE xs) (bP (wt xs.length) (bC xs.length fl c))) (bP (wt xs.length) (bC xs.length fl c)):=by
   unfold aD;refine vd.mpr ⟨hmem,?_⟩;rw[jg _ _ _ _ (mh nd) (λv hv=>by rw[fc];exact wH.mp (vd.mp hv).1),if_pos hmem,HF h hm hw1,<- ik,decide_eq_false up]
   rfl
  rw[e]at this;cases this
 unfold bW d6;rw[show cv a b xs.length (bE xs) (wt xs.length)=cv a b ((xs.length-2)+1+1) (bE xs) (wt xs.length) by rw[<- hlen],iX (by rw[he];exact hne),he,iX hend]
 show 1<(_::_::_:List (List Nat)).length
 simp
theorem Oh{a b:Rat}{ns:List Int}{row:List Rat}{i j:Nat}(hi:i<=row.length)(hj:j<row.length):(aM a b ns row i).getD j 0∈turned a b ns row i:=by
 have hl:=cw a b ns row i;rw[zev a b ns row i hi];have hm:(aM a b ns row i).getD j 0∈aM a b ns row i:=du (by lia);generalize (aM a b ns row i).getD j 0=y at hm;have hm2:y∈(aM a b ns row i).take i++(aM a b ns row i).drop i:=by rw[List.take_append_drop];exact hm
 rcases vX.mp hm2 with z | z
 ·exact vX.mpr (.inr z)
 ·exact vX.mpr (.inl z)
theorem Aj{a b:Rat}{ns:List Int}{row:List Rat}{i j:Nat}(h:gC (turned a b ns row i))(hi:i<row.length)(hj:j<row.length)(hne:j≠i):(aM a b ns row i).getD j 0<(aM a b ns row i).getD i 0:=by
 have hl:=cw a b ns row i;have hpw:=h.pw;rw[zev a b ns row i (by lia),qq (by lia),QK]at hpw;have hp:=(WR.mp hpw).1;have e:(aM a b ns row i).getD i 0=(aM a b ns row i)[i]'(by lia):=by rw[wa,wc (by lia)];rfl
 rw[e];refine hp _ ?_;rw[vX];have ej:(aM a b ns row i).getD j 0=(aM a b ns row i)[j]'(by lia):=by rw[wa,wc (by lia)];rfl
 rw[ej];rcases wB j i with z | z
 ·refine .inr (xq.mpr ⟨j,by rw[Wz];lia,?_⟩)
  rw[Xc]
 ·refine .inl (xq.mpr ⟨j-(i+1),by rw[Wb];lia,?_⟩)
  rw[Xd]
  congr 1
  lia
def dU(a b:Rat)(ns:List Int)(row:List Rat)(i:Nat):Rat:=(aM a b ns row (i+1)).getD ((i+1) % row.length) 0
structure e_(xs row:List Rat)(fl:Nat->Nat)(ns:List Int):Prop where
 pl:fX xs row fl
 kM:gC row
 one:row.getD 0 0<1
 len:ns.length=row.length
 some:∀c,c<row.length->∃w,w<xs.length/\fl w=c
 size:∀c,c<row.length->(ns.getD c 0).toNat=(bC xs.length fl c).length
theorem zr{a b:Rat}(a0:0<a)(b0:0<=b){xs row:List Rat}{fl:Nat->Nat}{ns:List Int}(h:e_ xs row fl ns):∀i,i<=row.length->(∀t,t<i->dU a b ns row t<1)->fX (ai a b xs i) (aM a b ns row i) fl/\gC (turned a b ns row i)/\(i<row.length->(aM a b ns row i).getD i 0<1) /\ ∀t,t<i->bW a b (ai a b xs t)=[bC xs.length fl t]
 | 0,_,_=>⟨h.pl,h.kM,λ_=>h.one,λt ht=>by lia⟩
 | i+1,hi,ht=>by
  obtain⟨P,F,o,W⟩:=zr a0 b0 h i (by lia) (λt ht'=>ht t (by lia));have hl:=cw a b ns row i;have hpl:=bR a b xs i;have hi':i<row.length:=by lia
  have oi:=o hi';have ti:=ht i (by lia)
  have hne:turned a b ns row i≠[]:=λe=>by
   have:=sS a b ns row (by lia) i;rw[e]at this;simp at this;lia
  obtain⟨x,l,ex⟩:∃x l,turned a b ns row i=x::l:=by
   cases e:turned a b ns row i with
   | nil=>exact absurd e hne
   | cons x l=>exact⟨x,l,rfl⟩
  have hx:x=(aM a b ns row i).getD i 0:=by
   have:=u6 a b ns row hi';rw[ex]at this;exact this
  have F1:gC (turned a b ns row (i+1)):=by
   show gC (lR a b (ns.getD i 0).toNat (turned a b ns row i))
   rw[ex]at F ⊢;exact F.step a0 b0 (by rw[hx];exact oi)
  have hsz:(ns.getD i 0).toNat=(bC (ai a b xs i).length fl i).length:=by rw[hpl];exact h.size i hi'
  have hrow:aM a b ns row (i+1)=dF a b (bC (ai a b xs i).length fl i).length (aM a b ns row i) i:=by rw[<- hsz];rfl
  -- the head of what is turned is the top: all others are below 1
  have headTop:(turned a b ns row (i+1)).headD 0=dU a b ns row i:=by
   unfold dU;rcases wB (i+1) row.length with z | z
   ·rw[u6 a b ns row z,XA z]
   ·have e:i+1=row.length:=by lia
    rw[e,Nat.mod_self,zev a b ns row _ (wo _)];have hl1:=cw a b ns row row.length;rw[Q3 (by lia),Vf (by lia),qp];cases e2:aM a b ns row row.length with
    | nil=>rw[e2]at hl1;simp at hl1;lia
    | cons y m=>rfl
  have below:∀y∈turned a b ns row (i+1),y<1:=λy hy=>by
   have hpw:=F1.pw;cases e2:turned a b ns row (i+1)with
   | nil=>rw[e2]at hy;cases hy
   | cons z m =>
    rw[e2]at hy hpw headTop
    have hz:z<1:=by
     have:z=dU a b ns row i:=headTop;rw[this];exact ti
    rcases wQ.mp hy with rfl | hy
    ·exact hz
    ·have:=(WR.mp hpw).1 y hy
     have:y<z:=this
     grind
  have G:=zrk (a:=a) (b:=b) (c:=i) P (by obtain⟨w,h1,h2⟩:=h.some i hi';exact⟨w,by lia,h2⟩) (λj hj hji=>Aj F hi' (by lia) hji) (λj hj hji _=>by
   have hm:=Oh (a:=a) (b:=b) (ns:=ns) (row:=row) (i:=i+1) (j:=j) hi (by lia);have:=below _ hm;rw[hrow,fi _ _ _ _ _ _ hj,if_neg hji]at this;exact this)
  refine⟨by rw[hrow];exact G.2,F1,λhlt=>?_,λt ht'=>?_⟩
  ·have:=below _ (Oh (a:=a) (b:=b) (ns:=ns) (row:=row) (i:=i+1) (j:=i+1) hi hlt)
   exact this
  ·rcases wB t i with z | z
   ·exact W t z
   ·have:t=i:=by lia
    subst this;have:=G.1;rw[hpl]at this;exact this
def eC(xs:List Rat)(v:Rat):List Nat:=(wt xs.length).filter λw=>decide (xs.getD w 0=v)
def ic:Nat->List Rat->List Rat
 | 0,_=>[]
 | _+1,[]=>[]
 | n+1,x::l=>bY (x::l)::ic n ((x::l).filter λy=>!decide (y=bY (x::l)))
def aj(xs:List Rat):List Rat:=ic xs.length xs
theorem DC(n:Nat):ic n []=[]:=by cases n<;>rfl
theorem mU{n:Nat}{l:List Rat}(h:l≠[]):ic (n+1) l=bY l::ic n (l.filter λy=>!decide (y=bY l)):=by
 cases l with
 | nil=>exact absurd rfl h
 | cons x l=>rfl
theorem Pt{l:List Rat}(h:l≠[]):(l.filter λy=>!decide (y=bY l)).length<l.length:=by
 have hm:bY l∈l:=gO (W2.mpr h);rcases wB (l.filter λy=>!decide (y=bY l)).length l.length with z | z
 ·exact z
 ·have:=List.length_filter_eq_length_iff.mp (Nat.le_antisymm (Wx _ _) z) (bY l) hm
  simp at this
theorem BQ:∀(n:Nat)(l:List Rat),∀y∈ic n l,y∈l
 | 0,l,y,h=>by cases h
 | n+1,[],y,h=>by cases h
 | n+1,x::l,y,h=>by
  rw[mU (by simp)]at h;rcases wQ.mp h with rfl | h
  ·exact gO (by simp)
  ·exact(vd.mp (BQ n _ y h)).1
theorem h_:∀(n:Nat)(l:List Rat),(ic n l).Pairwise (· > ·)
 | 0,l=>xA.nil
 | n+1,[]=>xA.nil
 | n+1,x::l=>by
  rw[mU (by simp)];refine WR.mpr ⟨λy hy=>?_,h_ n _⟩;have hf:=vd.mp (BQ n _ y hy);have h1:=LU y hf.1;have h2:¬ y=bY (x::l):=by simpa using hf.2
  show y<bY (x::l)
  exact VS h1 h2
theorem OC:∀(n:Nat)(l:List Rat),l.length<=n->∀y∈l,y∈ic n l
 | 0,l,h,y,hy=>by
  have:l=[]:=qL.mp (by lia);rw[this]at hy;cases hy
 | n+1,[],h,y,hy=>by cases hy
 | n+1,x::l,h,y,hy=>by
  rw[mU (by simp)]
  by_cases z:y=bY (x::l)
  ·rw[z];exact wJ ..
  ·have hl:=Pt (l:=x::l) (by simp)
   refine wD _ (OC n _ (by lia) y (vd.mpr ⟨hy,by simp[z]⟩))
def aP(xs:List Rat)(w:Nat):Nat:=(aj xs).idxOf (xs.getD w 0)
theorem q_{xs:List Rat}{y:Rat}(h:y∈xs):y∈aj xs:=OC _ _ (wo _) y h
theorem jE{xs:List Rat}{y:Rat}(h:y∈aj xs):y∈xs:=BQ _ _ y h
theorem kl(xs:List Rat):fX xs (aj xs) (aP xs):=by
 have key:∀w,w<xs.length->aP xs w<(aj xs).length:=λw hw=>List.idxOf_lt_length_of_mem (q_ (du hw))
 refine⟨λw hw=>?_,key⟩;rw[wa (l:=aj xs),wc (key w hw)];exact(List.getElem_idxOf (key w hw)).symm
theorem A2{xs:List Rat}{w c:Nat}(hw:w<xs.length)(hc:c<(aj xs).length):aP xs w=c ↔ xs.getD w 0=(aj xs).getD c 0:=by
 have P:=kl xs;have e:=P.at' w hw;have hl:=P.lt w hw
 constructor
 ·rintro rfl;exact e
 ·intro h
  rw[e]at h;rcases Vw (aP xs w) c with z | z | z
  ·have:=(Wv.mp (h_ xs.length xs)) (aP xs w) c hl hc z
   rw[wa,wc hl,wa,wc hc]at h;have h:(aj xs)[aP xs w]=(aj xs)[c]:=h;have this:(aj xs)[c]<(aj xs)[aP xs w]:=this;rw[h]at this;exact absurd this (by grind)
  ·exact z
  ·have:=(Wv.mp (h_ xs.length xs)) c (aP xs w) hc hl z
   rw[wa,wc hl,wa,wc hc]at h;have h:(aj xs)[aP xs w]=(aj xs)[c]:=h;have this:(aj xs)[aP xs w]<(aj xs)[c]:=this;rw[h]at this;exact absurd this (by grind)
theorem SQ{xs:List Rat}{c:Nat}(hc:c<(aj xs).length):bC xs.length (aP xs) c=eC xs ((aj xs).getD c 0):=by
 unfold bC eC;refine vF λw hw=>?_
 exact decide_eq_decide.mpr (A2 (wH.mp hw) hc)
def aQ(xs:List Rat):List Int:=(aj xs).map λv=>((eC xs v).length:Int)
theorem Km{xs:List Rat}(nn:∀x∈xs,0<=x)(lt:∀x∈xs,x<1):e_ xs (aj xs) (aP xs) (aQ xs) where
 pl:=kl xs
 kM:=⟨h_ _ _,λy hy=>nn y (jE hy)⟩
 one:=by
  rcases wB 0 (aj xs).length with z | z
  ·exact lt _ (jE (du z))
  ·rw[wa,wF z];decide
 len:=by unfold aQ;rw[wm]
 some:=λc hc=>by
  obtain⟨w,hw,e⟩:=vc (jE (du (d:=0) hc));refine⟨w,hw,(A2 hw hc).mpr ?_⟩;rw[wa,wc hw];exact e
 size:=λc hc=>by
  rw[SQ hc];unfold aQ;rw[wa,wu,wc hc,wa,wc hc]
  rfl
theorem D_:∀{l m:List Rat},l.Pairwise (· > ·)->m.Pairwise (· > ·)->(∀y,y∈l ↔ y∈m)->l=m
 | [],[],_,_,_=>rfl
 | [],y::m,_,_,h=>by have:=(h y).mpr (wJ ..);cases this
 | x::l,[],_,_,h=>by have:=(h x).mp (wJ ..);cases this
 | x::l,y::m,hl,hm,h=>by
  have pl:=WR.mp hl;have pm:=WR.mp hm
  have e:x=y:=by
   rcases wQ.mp ((h x).mp (wJ ..))with z | z
   ·exact z
   ·rcases wQ.mp ((h y).mpr (wJ ..))with z2 | z2
    ·exact z2.symm
    ·have a1:x<y:=pm.1 x z
     have a2:y<x:=pl.1 y z2
     grind
  subst e;rw[D_ pl.2 pm.2 λz=>⟨λhz=>?_,λhz=>?_⟩]
  ·rcases wQ.mp ((h z).mp (wD _ hz))with e | e
   ·have:z<x:=pl.1 z hz
    rw[e]at this;exact absurd this (by grind)
   ·exact e
  ·rcases wQ.mp ((h z).mpr (wD _ hz))with e | e
   ·have:z<x:=pm.1 z hz
    rw[e]at this;exact absurd this (by grind)
   ·exact e
theorem t_{ys row:List Rat}{fl:Nat->Nat}(P:fX ys row fl)(F:row.Pairwise (· > ·))(some:∀c,c<row.length->∃w,w<ys.length/\fl w=c):aj ys=row:=by
 refine D_ (h_ _ _) F λy=>⟨λh=>?_,λh=>?_⟩
 ·obtain⟨w,hw,e⟩:=vc (jE h)
  have ea:=P.at' w hw;rw[wa,wc hw]at ea;have ea:ys[w]=row.getD (fl w) 0:=ea;rw[<- e,ea];exact du (P.lt w hw)
 ·obtain⟨c,hc,e⟩:=vc h
  obtain⟨w,hw,hf⟩:=some c hc;have ea:=P.at' w hw;rw[hf,wa (l:=row),wc hc]at ea;have ea:ys.getD w 0=row[c]:=ea;rw[<- e,<- ea];exact q_ (du hw)
def eP(a b:Rat)(ns:List Int)(row:List Rat):Nat->Rat
 | 0=>0
 | k+1=>eP a b ns row k+(1-(aM a b ns row k).getD k 0)
theorem Jk{a b:Rat}(a0:0<a)(b0:0<=b){xs row:List Rat}{fl:Nat->Nat}{ns:List Int}(h:e_ xs row fl ns):∀i,i<=row.length->(∀t,t<i->dU a b ns row t<1)->aN a b xs i=eP a b ns row i
 | 0,_,_=>rfl
 | i+1,hi,ht=>by
  have ht':∀t,t<i->dU a b ns row t<1:=λt z=>ht t (by lia)
  obtain⟨P,F,_,_⟩:=zr a0 b0 h i (by lia) ht';have hpl:=bR a b xs i;have hl:=cw a b ns row i;have hm:=oq (c:=i) P (by obtain⟨w,h1,h2⟩:=h.some i (by lia);exact⟨w,by lia,h2⟩) (λj hj hji=>Aj F (by lia) (by lia) hji);rw[aN,eP,Jk a0 b0 h i (by lia) ht',hm]
theorem Ym{a b:Rat}(a0:0<a)(b0:0<=b){xs row:List Rat}{fl:Nat->Nat}{ns:List Int}(h:e_ xs row fl ns){t:Nat}(ht:t<row.length)(free:∀s,s<t->dU a b ns row s<1)(up:¬ dU a b ns row t<1):1<(bW a b (ai a b xs t)).length:=by
 obtain⟨P,F,o,_⟩:=zr a0 b0 h t (by lia) free;have hpl:=bR a b xs t;have hl:=cw a b ns row t;have hsz:(ns.getD t 0).toNat=(bC (ai a b xs t).length fl t).length:=by rw[hpl];exact h.size t ht
 have hrow:aM a b ns row (t+1)=dF a b (bC (ai a b xs t).length fl t).length (aM a b ns row t) t:=by rw[<- hsz];rfl
 have hj:(t+1) % row.length<row.length:=Nat.mod_lt _ (by lia)
 have hne:(t+1) % row.length≠t:=λe=>by
  apply up
  unfold dU;rw[hrow,e,fi _ _ _ _ _ _ (by lia),if_pos rfl]
  decide
 obtain⟨w1,hw1,hf1⟩:=h.some _ hj;refine zq5 (c:=t) P (by obtain⟨w,h1,h2⟩:=h.some t ht;exact⟨w,by lia,h2⟩) (λj hj hji=>Aj F ht (by lia) hji) (w1:=w1) (by lia) (by rw[hf1];exact hne) ?_;intro z
 apply up
 unfold dU;rw[hrow,fi _ _ _ _ _ _ (by lia),if_neg hne,<- hf1];exact z
theorem oW{a b:Rat}(a0:0<a)(b0:0<=b):∀n:Nat,0<=aB a b n
 | 0=>WL
 | n+1=>by
  have h1:=oW a0 b0 n;have h2:=Qe (vS a0) h1
  show 0<=a*aB a b n+b
  grind
theorem By{a b:Rat}(a0:0<a)(b0:0<=b):∀(n:Nat)(ps:List Rat)(left:List Nat),left.length<=n->left.Nodup->(∀w∈left,w<ps.length)->(∀w∈left,0<=ps.getD w 0) ->
  ∀w∈(cv a b n ps left).2.1,w∈left/\0<=(cv a b n ps left).2.2.getD w 0/\(cv a b n ps left).2.2.getD w 0<1
 | 0,ps,left,hn,_,_,_=>by
  have:left=[]:=qL.mp (by lia);subst this;intro w hw;cases (show w∈([]:List Nat)from hw)
 | n+1,ps,left,hn,nd,hlt,nn=>by
  by_cases e:aD ps left=[]
  ·rw[mi e]
   intro w hw;have hw:w∈left:=hw;refine⟨hw,nn w hw,?_⟩;have:¬ w∈aD ps left:=by rw[e];simp
   unfold aD at this;rw[vd]at this
   show ps.getD w 0<1
   by_cases z:ps.getD w 0<1
   ·exact z
   ·exact absurd ⟨hw,by simp only[z,decide_false,xc]⟩ this
  ·rw[iX e]
   have hl:=AM ps left;have hp:=W2.mpr e;have nd':(bP left (aD ps left)).Nodup:=mh nd;have lt':∀w∈bP left (aD ps left),w<(cy (a^(aD ps left).length) (aB a b (aD ps left).length) ps (bP left (aD ps left))).length:=λw hw=>by rw[iE];exact nD hlt w hw
   have ih:=By a0 b0 n (cy (a^(aD ps left).length) (aB a b (aD ps left).length) ps (bP left (aD ps left))) (bP left (aD ps left)) (by lia) nd' lt' (λw hw=>by
    rw[jg _ _ _ _ nd' (nD hlt),if_pos hw];have h1:=nn w (vd.mp hw).1;have h2:=Qe (vS (lu a0 (aD ps left).length)) h1;have h3:=oW a0 b0 (aD ps left).length
    grind)
   intro w hw;have:=ih w hw;exact⟨(vd.mp this.1).1,this.2⟩
theorem Iz{xs:List Rat}(nn:∀x∈xs,0<=x)(lt:∀x∈xs,x<1){w:Nat}(hw:w<xs.length):0<=(bE xs).getD w 0:=by
 have h1:=gO (xs:=xs) (by lia);have h2:=lt _ h1;have h3:=nn _ (du (d:=0) hw);unfold bE;rw[sW hw]
 grind
theorem KW{a b:Rat}(a0:0<a)(b0:0<=b){xs:List Rat}(nn:∀x∈xs,0<=x)(lt:∀x∈xs,x<1):∀y∈cQ a b xs,0<=y/\y<1:=λy hy=>by
 obtain⟨j,hj,e⟩:=vc hy;have hlen:=iY a b xs;have hjx:j<xs.length:=by lia
 have hpl:(d6 a b xs).2.2.length=xs.length:=by
  unfold d6;rw[pq,fc]
 have e2:(cQ a b xs).getD j 0=y:=by rw[wa,wc hj];exact e
 unfold cQ at e2;rw[mE (by lia)]at e2
 split at e2
 ·rename_i hm
  have:=By a0 b0 xs.length (bE xs) (wt xs.length) (by simp) W6 (λw hw=>by rw[fc];exact wH.mp hw) (λw hw=>Iz nn lt (wH.mp hw)) j hm;rw[<- e2];exact this.2
 ·rw[<- e2];exact⟨WL,by decide⟩
theorem ZD{a b:Rat}(a0:0<a)(b0:0<=b){xs:List Rat}(h1:1<=xs.length)(nn:∀x∈xs,0<=x)(lt:∀x∈xs,x<1):0∈cQ a b xs:=by
 obtain⟨j,hj,e⟩:=vc (gO h1)
 have hr:(bE xs).getD j 0=1:=by
  unfold bE;rw[sW hj,wa,wc hj]
  show xs[j]+(1-bY xs)=1
  rw[e];grind
 have hend:j∈aD (bE xs) (wt xs.length):=by
  unfold aD;rw[vd];refine⟨wH.mpr hj,?_⟩;rw[hr];decide
 have hne:aD (bE xs) (wt xs.length)≠[]:=λz=>by rw[z]at hend;cases hend
 have hpl:(d6 a b xs).2.2.length=xs.length:=by
  unfold d6;rw[pq,fc]
 have hnot:¬ j∈(d6 a b xs).2.1:=λz=>by
  unfold d6 at z;obtain⟨n,hn⟩:∃n,xs.length=n+1:=⟨xs.length-1,by lia⟩;have hl:=AM (bE xs) (wt xs.length);rw[vx]at hl;have hp:=W2.mpr hne;have z':j∈(cv a b (n+1) (bE xs) (wt xs.length)).2.1:=by rw[<- hn];exact z
  rw[iX hne]at z';have nd':(bP (wt xs.length) (aD (bE xs) (wt xs.length))).Nodup:=mh W6;have ltr:∀w∈wt xs.length,w<(bE xs).length:=λw hw=>by rw[fc];exact wH.mp hw
  have:=By a0 b0 n _ _ (by lia) nd' (λw hw=>by rw[iE];exact nD ltr w hw) (λw hw=>by
   rw[jg _ _ _ _ nd' (nD ltr),if_pos hw];have h1:=Iz nn lt (wH.mp (vd.mp hw).1);have h2:=Qe (vS (lu a0 (aD (bE xs) (wt xs.length)).length)) h1;have h3:=oW a0 b0 (aD (bE xs) (wt xs.length)).length
   grind) j z'
  have:=(vd.mp this.1).2;simp only[hend,decide_true,qf]at this;cases this
 have hlen:=iY a b xs
 have hg:(cQ a b xs).getD j 0=0:=by
  unfold cQ;rw[mE (by lia),if_neg hnot]
 rw[<- hg];exact du (by lia)
structure cY(xs:List Rat):Prop where
 nn:∀x∈xs,0<=x
 lt:∀x∈xs,x<1
theorem cY.l9{a b:Rat}(a0:0<a)(b0:0<=b){xs:List Rat}(h:cY xs):cY (cQ a b xs):=⟨λy hy=>(KW a0 b0 h.nn h.lt y hy).1,λy hy=>(KW a0 b0 h.nn h.lt y hy).2⟩
theorem cY.at{a b:Rat}(a0:0<a)(b0:0<=b){xs:List Rat}(h:cY xs):∀k,cY (ai a b xs k)
 | 0=>h
 | k+1=>(cY.at a0 b0 h k).l9 a0 b0
theorem cY.zero{a b:Rat}(a0:0<a)(b0:0<=b){xs:List Rat}(h:cY xs)(h1:1<=xs.length){k:Nat}(hk:1<=k):0∈ai a b xs k:=by
 obtain⟨j,rfl⟩:∃j,k=j+1:=⟨k-1,by lia⟩;have:=h.at a0 b0 j;exact ZD a0 b0 (by rw[bR];exact h1) this.nn this.lt
theorem CM{xs:List Rat}(h:cY xs)(h0:0∈xs):(aj xs).dropLast++[0]=aj xs:=by
 have hm:=q_ h0;have hne:aj xs≠[]:=λe=>by rw[e]at hm;cases hm
 have hpw:(aj xs).Pairwise (· > ·):=h_ _ _
 have hl:(aj xs).getLast hne=0:=by
  have h1:=h.nn _ (jE (List.getLast_mem hne))
  have h2:(aj xs).getLast hne<=0:=by
   have e:=Qf hne;rw[<- e]at hm hpw;rcases vX.mp hm with z | z
   ·have:=(qb.mp hpw).2.2 0 z _ (wX.mpr rfl)
    exact vS this
   ·rw[<- wX.mp z];exact WL
  grind
 have:=Qf hne;rw[hl]at this;exact this
theorem rM{xs:List Rat}(h1:1<=xs.length):1<=(aj xs).length:=by
 have:=q_ (du (d:=0) (show 0<xs.length by lia));exact Q5 this
theorem yc(xs:List Rat):(aQ xs).length=(aj xs).length:=by unfold aQ;rw[wm]
theorem zm(xs:List Rat):∀n∈aQ xs,0<=n:=λn hn=>by
 obtain⟨v,_,rfl⟩:=wY.mp hn
 lia
structure zCA(a b:Rat)(xs:List Rat):Prop where
 iH:∀t,t<(aj xs).length->bW a b (ai a b xs t)=[eC xs ((aj xs).getD t 0)]
 vals:aj (ai a b xs (aj xs).length)=aM a b (aQ xs) (aj xs) (aj xs).length
 lX:aQ (ai a b xs (aj xs).length)=aQ xs
 hour:aN a b xs (aj xs).length=eP a b (aQ xs) (aj xs) (aj xs).length
theorem Lq{α : Type}(g h : α -> Nat):∀l:List α,(l.map λv=>g v+h v).sum=(l.map g).sum+(l.map h).sum
 | []=>rfl
 | x::l=>by
  simp only[wZ,WY,Lq g h l]
  lia
theorem Oy(x:Rat):∀vs:List Rat,vs.Nodup->(vs.map λv=>if x=v then 1 else 0).sum<=1
 | [],_=>by simp
 | v::vs,nd=>by
  have⟨h1,h2⟩:=VQ.mp nd;rw[wZ,WY]
  by_cases e:x=v
  ·have z:(vs.map λv=>if x=v then 1 else 0).sum=0:=by
    have:∀ws:List Rat,(∀y∈ws,x≠y)->(ws.map λv=>if x=v then 1 else 0).sum=0:=by
     intro ws
     induction ws with
     | nil=>intro _;rfl
     | cons y ws ih =>
      intro hy;rw[wZ,WY,if_neg (hy y (wJ ..)),ih λz hz=>hy z (wD _ hz)]
    exact this vs λy hy z=>h1 (by rw[<- e,z];exact hy)
   rw[z,if_pos e]
   lia
  ·have:=Oy x vs h2
   rw[if_neg e];lia
theorem IV(f:Nat->Rat)(vs:List Rat)(nd:vs.Nodup):∀l:List Nat,(vs.map λv=>(l.filter λw=>decide (f w=v)).length).sum<=l.length
 | []=>by
  have:∀ws:List Rat,(ws.map λv=>(([]:List Nat).filter λw=>decide (f w=v)).length).sum=0:=by
   intro ws
   induction ws with
   | nil=>rfl
   | cons y ws ih=>rw[wZ,WY,ih];rfl
  rw[this];exact wo _
 | w::l=>by
  have ih:=IV f vs nd l
  have e:(vs.map λv=>((w::l).filter λw=>decide (f w=v)).length)=vs.map λv=>(if f w=v then 1 else 0)+(l.filter λw=>decide (f w=v)).length:=by
   refine qm λv _=>?_
   rw[WG]
   by_cases z:f w=v
   ·rw[if_pos (by simp[z]),if_pos z,vR];lia
   ·rw[if_neg (by simp[z]),if_neg z];lia
  rw[e,Lq,vR];have:=Oy (f w) vs nd
  lia
theorem N6(xs:List Rat):(aj xs).Nodup:=(h_ xs.length xs).imp λ{x y} h=>by
 have h:y<x:=h;intro e;rw[e]at h;exact absurd h (by grind)
theorem KR(xs:List Rat):((aQ xs).map QW).sum<=xs.length:=by
 have:=IV (λw=>xs.getD w 0) (aj xs) (N6 xs) (wt xs.length);rw[vx]at this
 have e:(aQ xs).map QW=(aj xs).map λv=>((wt xs.length).filter λw=>decide (xs.getD w 0=v)).length:=by
  unfold aQ;rw[WF];refine qm λv _=>?_
  show((eC xs v).length:Int).toNat=_
  rw[wW];rfl
 rw[e];exact this
theorem OT(xs:List Rat):upTo (aQ xs) (aQ xs).length<=xs.length:=by
 unfold upTo;rw[Wt];exact KR xs
theorem zr2(xs:List Rat):∀n∈aQ xs,0<=n/\n<=xs.length:=λn hn=>by
 obtain⟨v,_,rfl⟩:=wY.mp hn
 have:(eC xs v).length<=xs.length:=by
  have:=Wx (λw=>decide (xs.getD w 0=v)) (wt xs.length);rw[vx]at this;exact this
 lia
theorem kT(xs:List Rat):(aj xs).length<=xs.length:=by
 have h:∀(n:Nat)(l:List Rat),(ic n l).length<=n:=by
  intro n
  induction n with
  | zero=>intro l;exact wo _
  | succ n ih =>
   intro l
   by_cases e:l=[]
   ·rw[e,DC];simp
   ·rw[mU e,vR]
    have:=ih (l.filter λy=>!decide (y=bY l))
    lia
 exact h _ _
theorem nY{m:Nat}{xs ys:List Rat}(c:Cm m xs)(h:∀y∈ys,y∈xs):Cm m ys:=c.kJ λy hy=>.inl (h y hy)
theorem sO{m:Nat}{xs:List Rat}(c:Cm m xs):Cm m (aj xs).dropLast:=nY c λy hy=>jE (by rw[xf]at hy;exact List.mem_of_mem_take hy)
def II:List Int->List Rat->List Rat
 | n::ns,x::xs=>w9 n.toNat x++II ns xs
 | _,_=>[]
structure zCw(zs:List Rat)(ns:List Int)(row:List Rat):Prop where
 perm:zs.Perm (II ns row)
 len:ns.length=row.length
 pos:∀n∈ns,1<=n
 kM:row.Pairwise (· > ·)
def seg(n:Nat)(fl:Nat->Nat)(s t:Nat):List Nat:=(wt n).filter λw=>decide (s<=fl w)&&decide (fl w<t)
theorem gA{n:Nat}{fl:Nat->Nat}{s t w:Nat} : w∈seg n fl s t ↔ w<n/\s<=fl w/\fl w<t:=by
 unfold seg;rw[vd,wH,wV,decide_eq_true_eq,decide_eq_true_eq]
theorem Ki(n:Nat)(fl:Nat->Nat)(s t:Nat):(seg n fl s t).Nodup:=W6.filter _
theorem Sg{n:Nat}{fl:Nat->Nat}{s t u:Nat}(h1:s<=t)(h2:t<=u):(seg n fl s t++seg n fl t u).Perm (seg n fl s u):=by
 have e1:(seg n fl s u).filter (λw=>decide (fl w<t))=seg n fl s t:=by
  unfold seg;rw[qE];refine vF λw _=>?_
  rw[vy];simp only[wV,decide_eq_true_eq]
  lia
 have e2:(seg n fl s u).filter (λw=>!decide (fl w<t))=seg n fl t u:=by
  unfold seg;rw[qE];refine vF λw _=>?_
  rw[vy];simp only[wV,WW,decide_eq_true_eq,decide_eq_false_iff_not]
  lia
 have:=List.filter_append_perm (λw=>decide (fl w<t)) (seg n fl s u);rw[e1,e2]at this;exact this
theorem LX(n:Nat)(fl:Nat->Nat)(s:Nat):seg n fl s s=[]:=by
 unfold seg;rw[Q4];intro w _;simp only[wV,decide_eq_true_eq]
 lia
inductive iL(n:Nat)(fl:Nat->Nat):Nat->List (List Nat)->Nat->Prop
 | nil (t:Nat):iL n fl t [] t
 | cons {t u v:Nat} {ws:List (List Nat)} : t<u->iL n fl u ws v->iL n fl t (seg n fl t u::ws) v
theorem iL.le{n:Nat}{fl:Nat->Nat}{t v:Nat}{ws:List (List Nat)}(h:iL n fl t ws v):t<=v:=by
 induction h with
 | nil t=>exact wo t
 | cons h _ ih=>lia
theorem iL.perm{n:Nat}{fl:Nat->Nat}{t v:Nat}{ws:List (List Nat)}(h:iL n fl t ws v):ws.flatten.Perm (seg n fl t v):=by
 induction h with
 | nil t=>rw[LX];exact xg _
 | cons h k ih =>
  rw[Vs];exact(xh _ ih).trans (Sg (by lia) k.le)
theorem NZ(p:Nat->Prop)[DecidablePred p](t:Nat):∀m:Nat,t<=m->(∀c d,t<=c->c<=d->d<m->p d->p c)->∃u,t<=u/\u<=m /\ ∀c,t<=c->c<m->(p c ↔ c<u)
 | 0,h,_=>⟨0,h,wo 0,λc _ hc=>absurd hc (by lia)⟩
 | m+1,h,mono=>by
  rcases wB m t with z | z
  ·exact⟨m+1,h,wo _,λc h1 h2=>absurd h2 (by lia)⟩
  ·by_cases q:p m
   ·exact⟨m+1,h,wo _,λc h1 h2=>⟨λ_=>h2,λ_=>mono c m h1 (by lia) (by lia) q⟩⟩
   ·obtain⟨u,u1,u2,hu⟩:=NZ p t m z (λc d h1 h2 h3=>mono c d h1 h2 (by lia))
    refine⟨u,u1,by lia,λc h1 h2=>?_⟩;rcases wB c m with y | y
    ·exact hu c h1 y
    ·have:c=m:=by lia
     subst this;exact⟨λk=>absurd k q,λk=>absurd k (by lia)⟩
theorem zB{row:List Rat}(F:row.Pairwise (· > ·)){c d:Nat}(h:c<d)(hd:d<row.length):row.getD d 0<row.getD c 0:=by
 have:=Wv.mp F c d (by lia) hd h;rw[wa,wc hd,wa,wc (by lia)];exact this
theorem zys{row:List Rat}(F:row.Pairwise (· > ·)){c d:Nat}(h:c<=d)(hd:d<row.length):row.getD d 0<=row.getD c 0:=by
 rcases wB c d with z | z
 ·exact vS (zB F z hd)
 ·rw[show c=d by lia];exact WL
theorem Im{a b:Rat}(a0:0<a)(b0:0<=b){row:List Rat}{fl:Nat->Nat}{N:Nat}(F:row.Pairwise (· > ·)):∀(n:Nat)(ps:List Rat)(t:Nat)(A B:Rat),t<=row.length->ps.length=N->0<A->(∀w∈seg N fl t row.length,ps.getD w 0=A*row.getD (fl w) 0+B/\0<ps.getD w 0) ->
  ∃(v:Nat)(A' B':Rat),v<=row.length/\0<A'/\iL N fl t (cv a b n ps (seg N fl t row.length)).1 v/\(cv a b n ps (seg N fl t row.length)).2.1=seg N fl v row.length /\
   ∀w∈seg N fl v row.length,(cv a b n ps (seg N fl t row.length)).2.2.getD w 0=A'*row.getD (fl w) 0+B'/\0<A'*row.getD (fl w) 0+B'
 | 0,ps,t,A,B,ht,hl,hA,hw=>⟨t,A,B,ht,hA,.nil t,rfl,λw h=>⟨(hw w h).1,by rw[<- (hw w h).1];exact(hw w h).2⟩⟩
 | n+1,ps,t,A,B,ht,hl,hA,hw=>by
  by_cases e:aD ps (seg N fl t row.length)=[]
  ·rw[mi e]
   exact⟨t,A,B,ht,hA,.nil t,rfl,λw h=>⟨(hw w h).1,by rw[<- (hw w h).1];exact(hw w h).2⟩⟩
  ·obtain⟨u,u1,u2,hu⟩:=NZ (λc=>¬ A*row.getD c 0+B<1) t row.length ht (λc d h1 h2 h3 hp=>by
    have:=Rat.mul_le_mul_of_nonneg_left (zys F h2 h3) (vS hA);have hp:¬ A*row.getD d 0+B<1:=hp
    show ¬ A*row.getD c 0+B<1
    grind)
   have eE:aD ps (seg N fl t row.length)=seg N fl t u:=by
    unfold aD
    have:(seg N fl t row.length).filter (λw=>!decide (ps.getD w 0<1))=(seg N fl t row.length).filter (λw=>decide (fl w<u)):=by
     refine vF λw h=>?_
     have h1:=hw w h;have h2:=gA.mp h;rw[vy,WW,decide_eq_false_iff_not,decide_eq_true_eq,h1.1];exact hu (fl w) h2.2.1 h2.2.2
    rw[this];unfold seg;rw[qE];refine vF λw _=>?_
    rw[vy];simp only[wV,decide_eq_true_eq]
    lia
   have eL:bP (seg N fl t row.length) (seg N fl t u)=seg N fl u row.length:=by
    unfold bP
    have:(seg N fl t row.length).filter (λw=>!decide (w∈seg N fl t u))=(seg N fl t row.length).filter (λw=>!decide (fl w<u)):=by
     refine vF λw h=>?_
     have h2:=gA.mp h;rw[vy,WW,WW,decide_eq_false_iff_not,decide_eq_false_iff_not,gA]
     constructor
     ·intro k y;exact k ⟨h2.1,h2.2.1,y⟩
     ·intro k y;exact k y.2.2
    rw[this];unfold seg;rw[qE];refine vF λw _=>?_
    rw[vy];simp only[wV,WW,decide_eq_true_eq,decide_eq_false_iff_not]
    lia
   have htu:t<u:=by
    rcases wB t u with z | z
    ·exact z
    ·have:u=t:=by lia
     rw[eE,this,LX]at e;exact absurd rfl e
   rw[iX e,eE,eL];have hf:=lu a0 (seg N fl t u).length;have hg:=oW a0 b0 (seg N fl t u).length;generalize a^(seg N fl t u).length=f at *;generalize aB a b (seg N fl t u).length=g at *;have hA':0<f*A:=qk hf hA
   obtain⟨v,A',B',hv,hA2,hs,hl2,hw2⟩:=Im (fl:=fl) (N:=N) a0 b0 F n (cy f g ps (seg N fl u row.length)) u (f*A) (f*B+g) u2 (by rw[iE];exact hl) hA' (λw h=>by
    have hm:=gA.mp h;have h1:=hw w (gA.mpr ⟨hm.1,by lia,hm.2.2⟩);have h3:=qk hf h1.2;rw[jg _ _ _ _ (Ki ..) (λw h=>by rw[hl];exact(gA.mp h).1),if_pos h];refine⟨by rw[h1.1];grind,by grind⟩)
   exact⟨v,A',B',hv,hA2,.cons htu hs,hl2,hw2⟩
structure lz(xs ys:List Rat)(iH:List (List Nat))(v:Nat):Prop where
 v1:1<=v
 vm:v<=(aj xs).length
 first:∃ws,iH=seg xs.length (aP xs) 0 1::ws/\iL xs.length (aP xs) 1 ws v
 vals:∃(A B:Rat),0<A/\aj ys=((aj xs).drop v).map (λx=>A*x+B)++[0]/\(∀x∈(aj xs).drop v,0<A*x+B)
 at':fX ys (aj ys) (λw=>if aP xs w<v then(aj xs).length-v else aP xs w-v)
 len:ys.length=xs.length
theorem O7{l:List Rat}{v c:Nat} : (l.drop v).getD c 0=l.getD (v+c) 0:=by
 rw[wa,xT,wa]
theorem mJ{xs:List Rat}{c:Nat}(hc:c<(aj xs).length):∃w,w<xs.length/\aP xs w=c:=by
 have hm:(aj xs).getD c 0∈xs:=jE (du hc);obtain⟨w,hw,e⟩:=vc hm;refine⟨w,hw,(A2 hw hc).mpr ?_⟩;rw[wa,wc hw];exact e
theorem DG{a b:Rat}(a0:0<a)(b0:0<=b){xs:List Rat}(h1:1<=xs.length)(nn:∀x∈xs,0<=x)(lt:∀x∈xs,x<1):∃v,lz xs (cQ a b xs) (bW a b xs) v:=by
 have P:=kl xs;have F:(aj xs).Pairwise (· > ·):=h_ xs.length xs;have m1:=rM h1;have top:∀j,j<(aj xs).length->j≠0->(aj xs).getD j 0<(aj xs).getD 0 0:=λj hj h0=>zB F (by lia) hj
 have he:=AB P (mJ m1) top;have hmax:=oq P (mJ m1) top;have hmx1:bY xs<1:=lt _ (gO h1)
 have e01:bC xs.length (aP xs) 0=seg xs.length (aP xs) 0 1:=by
  unfold bC seg;refine vF λw _=>?_
  rw[vy];simp only[wV,decide_eq_true_eq]
  lia
 rw[e01]at he
 have hr:wt xs.length=seg xs.length (aP xs) 0 (aj xs).length:=by
  unfold seg
  symm
  rw[List.filter_eq_self];intro w hw;have:=P.lt w (wH.mp hw);simp only[wV,decide_eq_true_eq]
  lia
 have hne:aD (bE xs) (wt xs.length)≠[]:=λe=>by
  obtain⟨w,hw,hf⟩:=mJ m1;rw[he]at e;have:w∈seg xs.length (aP xs) 0 1:=gA.mpr ⟨hw,by lia,by lia⟩;rw[e]at this;cases this
 obtain⟨n,hn⟩:∃n,xs.length=n+1:=⟨xs.length-1,by lia⟩
 have eL:bP (wt xs.length) (seg xs.length (aP xs) 0 1)=seg xs.length (aP xs) 1 (aj xs).length:=by
  unfold bP seg;refine vF λw hw=>?_
  have h2:=P.lt w (wH.mp hw);rw[vy,WW,decide_eq_false_iff_not]
  have:w∈(wt xs.length).filter (λw=>decide (0<=aP xs w)&&decide (aP xs w<1)) ↔ aP xs w<1:=by
   rw[vd,wV,decide_eq_true_eq,decide_eq_true_eq];exact⟨λh=>h.2.2,λh=>⟨hw,by lia,h⟩⟩
  rw[this];simp only[wV,decide_eq_true_eq]
  lia
 have hf:=lu a0 (seg xs.length (aP xs) 0 1).length;have hg:=oW a0 b0 (seg xs.length (aP xs) 0 1).length
 have eR:d6 a b xs=(seg xs.length (aP xs) 0 1::(cv a b n (cy (a^(seg xs.length (aP xs) 0 1).length) (aB a b (seg xs.length (aP xs) 0 1).length) (bE xs) (seg xs.length (aP xs) 1 (aj xs).length)) (seg xs.length (aP xs) 1 (aj xs).length)).1,(cv a b n (cy (a^(seg xs.length (aP xs) 0 1).length) (aB a b (seg xs.length (aP xs) 0 1).length) (bE xs) (seg xs.length (aP xs) 1 (aj xs).length)) (seg xs.length (aP xs) 1 (aj xs).length)).2):=by
  unfold d6;have e:cv a b xs.length (bE xs) (wt xs.length)=cv a b (n+1) (bE xs) (wt xs.length):=by rw[<- hn]
  rw[e,iX hne,he,eL]
 generalize a^(seg xs.length (aP xs) 0 1).length=f at *;generalize aB a b (seg xs.length (aP xs) 0 1).length=g at *
 obtain⟨v,A,B,hv,hA,hs,hl2,hw2⟩:=Im (fl:=aP xs) (N:=xs.length) a0 b0 F n (cy f g (bE xs) (seg xs.length (aP xs) 1 (aj xs).length)) 1 f (f*(1-bY xs)+g) m1 (by rw[iE,fc]) hf (λw h=>by
  have hm:=gA.mp h;rw[jg _ _ _ _ (Ki ..) (λw h=>by rw[fc];exact(gA.mp h).1),if_pos h]
  have e:(bE xs).getD w 0=(aj xs).getD (aP xs w) 0+(1-bY xs):=by
   unfold bE;rw[sW hm.1,P.at' w hm.1]
  have hx:=nn _ (du (d:=0) hm.1);rw[P.at' w hm.1]at hx;have h3:=qk hf (show 0<(aj xs).getD (aP xs w) 0+(1-bY xs) by grind);rw[e];exact⟨by grind,by grind⟩)
 have v1:=hs.le
 have ePh:∀w,w<xs.length->(cQ a b xs).getD w 0=if aP xs w<v then 0 else A*(aj xs).getD (aP xs w) 0+B:=λw hw=>by
  have hpl:(d6 a b xs).2.2.length=xs.length:=by unfold d6;rw[pq,fc]
  unfold cQ;rw[mE (by lia),eR]
  show(if w∈(cv a b n _ _).2.1 then _ else _)=_
  rw[hl2]
  by_cases z:aP xs w<v
  ·rw[if_neg (λh=>by have:=(gA.mp h).2.1;lia),if_pos z]
  ·have hmem:w∈seg xs.length (aP xs) v (aj xs).length:=gA.mpr ⟨hw,by lia,P.lt w hw⟩
   rw[if_pos hmem,if_neg z];exact(hw2 w hmem).1
 have posd:∀x∈(aj xs).drop v,0<A*x+B:=λx hx=>by
  obtain⟨c,hc,e⟩:=vc hx;rw[Wb]at hc;obtain⟨w,hw,hfw⟩:=mJ (xs:=xs) (c:=v+c) (by lia);have:=(hw2 w (gA.mpr ⟨hw,by lia,P.lt w hw⟩)).2;rw[hfw,<- O7,wa,wc (by rw[Wb];lia)]at this;rw[<- e];exact this
 have rlen:(((aj xs).drop v).map (λx=>A*x+B)++[0]).length=(aj xs).length-v+1:=by simp
 have rget:∀c,c<(aj xs).length-v->(((aj xs).drop v).map (λx=>A*x+B)++[0]).getD c 0=A*(aj xs).getD (v+c) 0+B:=λc hc=>by
  rw[wa,Wu (by simp;lia),<- wa,sW (by rw[Wb];lia),O7]
 have rlast:(((aj xs).drop v).map (λx=>A*x+B)++[0]).getD ((aj xs).length-v) 0=0:=by
  rw[wa,vM (by simp)];simp
 have P2:fX (cQ a b xs) (((aj xs).drop v).map (λx=>A*x+B)++[0]) (λw=>if aP xs w<v then(aj xs).length-v else aP xs w-v):=by
  refine⟨λw hw=>?_,λw hw=>?_⟩
  ·rw[iY]at hw
   rw[ePh w hw];have:=P.lt w hw
   by_cases z:aP xs w<v
   ·simp only[z,if_true]
    exact rlast.symm
   ·simp only[z,if_false]
    rw[rget _ (by lia),show v+(aP xs w-v)=aP xs w by lia]
  ·rw[iY]at hw
   have:=P.lt w hw;rw[rlen]
   show(if aP xs w<v then _ else _)<_
   split<;>lia
 have F2:(((aj xs).drop v).map (λx=>A*x+B)++[0]).Pairwise (· > ·):=by
  rw[qb];refine⟨?_,QR _ _,λx hx y hy=>?_⟩
  ·rw[Qy]
   refine(uB F).imp λ{x y} h=>?_
   have:=Rat.mul_lt_mul_of_pos_left (show y<x from h) hA
   show A*y+B<A*x+B
   grind
  ·obtain⟨z,hz,rfl⟩:=wY.mp hx
   rw[wX.mp hy];exact posd z hz
 have eV:aj (cQ a b xs)=((aj xs).drop v).map (λx=>A*x+B)++[0]:=t_ P2 F2 λc hc=>by
  rw[rlen]at hc;rcases wB c ((aj xs).length-v)with z | z
  ·obtain⟨w,hw,hfw⟩:=mJ (xs:=xs) (c:=v+c) (by lia)
   refine⟨w,by rw[iY];exact hw,?_⟩
   show(if aP xs w<v then _ else _)=_
   rw[hfw,if_neg (by lia)]
   lia
  ·obtain⟨w,hw,hfw⟩:=mJ m1
   refine⟨w,by rw[iY];exact hw,?_⟩
   show(if aP xs w<v then _ else _)=_
   rw[hfw,if_pos (by lia)]
   lia
 refine⟨v,v1,hv,⟨_,by unfold bW;rw[eR],hs⟩,⟨A,B,hA,eV,posd⟩,by rw[eV];exact P2,iY ..⟩
def kE(xs:List Rat):List (List Nat):=(aj xs).map (eC xs)
theorem jh(xs:List Rat):(kE xs).length=(aj xs).length:=wm ..
theorem KY{ys row:List Rat}{fl:Nat->Nat}(P:fX ys row fl)(F:row.Pairwise (· > ·)){c:Nat}(hc:c<row.length):eC ys (row.getD c 0)=bC ys.length fl c:=by
 unfold eC bC;refine vF λw hw=>?_
 have hw:=wH.mp hw;rw[vy,decide_eq_true_eq,decide_eq_true_eq,P.at' w hw]
 constructor
 ·intro h
  rcases Vw (fl w) c with z | z | z
  ·have:=zB F z hc;rw[h]at this;exact absurd this (by grind)
  ·exact z
  ·have:=zB F z (P.lt w hw);rw[h]at this;exact absurd this (by grind)
 ·rintro rfl;rfl
theorem zqU{xs:List Rat}{c:Nat}(hc:c<(aj xs).length):(kE xs).getD c []=seg xs.length (aP xs) c (c+1):=by
 have h:=KY (kl xs) (h_ xs.length xs) hc;unfold kE;rw[wa,wu,wc hc]
 show eC xs (aj xs)[c]=_
 rw[wa,wc hc]at h;have h:eC xs (aj xs)[c]=_:=h;rw[h];unfold bC seg;refine vF λw _=>?_
 rw[vy];simp only[wV,decide_eq_true_eq]
 lia
theorem lz.new{xs ys:List Rat}{iH:List (List Nat)}{v:Nat}(J:lz xs ys iH v):kE ys=(kE xs).drop v++[seg xs.length (aP xs) 0 v]:=by
 obtain⟨A,B,hA,eV,pos⟩:=J.vals;have F2:(aj ys).Pairwise (· > ·):=h_ ys.length ys;have hlen:(aj ys).length=(aj xs).length-v+1:=by rw[eV];simp
 have v1:=J.v1;have vm:=J.vm;refine WN (by rw[jh,hlen,wS,Wb,jh];rfl) λc h1 h2=>?_
 rw[jh,hlen]at h1
 have e1:(kE ys)[c]'(by rw[jh];lia)=bC xs.length (λw=>if aP xs w<v then(aj xs).length-v else aP xs w-v) c:=by
  have:=KY J.at' F2 (c:=c) (by lia);rw[J.len]at this;rw[<- this];unfold kE;rw[W7,wa,wc (by lia)]
  rfl
 rw[e1];rcases wB c ((aj xs).length-v)with z | z
 ·rw[List.getElem_append_left (by rw[Wb,jh];lia),Xd]
  have hg:=zqU (xs:=xs) (c:=v+c) (by lia);rw[wa,wc (by rw[jh];lia)]at hg;have hg:(kE xs)[v+c]'(by rw[jh];lia)=_:=hg;rw[hg];unfold bC seg;refine vF λw hw=>?_
  have:=(kl xs).lt w (wH.mp hw);rw[vy];simp only[wV,decide_eq_true_eq]
  split<;>lia
 ·rw[List.getElem_append_right (by rw[Wb,jh];lia)]
  have hc:c=(aj xs).length-v:=by lia
  simp only[List.getElem_singleton];unfold bC seg;refine vF λw hw=>?_
  have:=(kl xs).lt w (wH.mp hw);rw[vy];simp only[wV,decide_eq_true_eq]
  split<;>lia
theorem lz.perm{xs ys:List Rat}{iH:List (List Nat)}{v:Nat}(J:lz xs ys iH v):iH.flatten.Perm (seg xs.length (aP xs) 0 v):=by
 obtain⟨ws,e,s⟩:=J.first;rw[e];exact(iL.cons (by decide) s).perm
theorem lz.more{xs ys:List Rat}{iH:List (List Nat)}{v:Nat}(J:lz xs ys iH v):1<iH.length ↔ 1<v:=by
 obtain⟨ws,e,s⟩:=J.first;rw[e];cases s with
 | nil=>simp
 | cons h k=>have:=k.le;simp;lia
theorem BU(F s:Rat):∀n:Nat,aB F s n=aB F 1 n*s
 | 0=>by show(0:Rat)=0*s;rw[Rat.zero_mul]
 | n+1=>by
  show F*aB F s n+s=(F*aB F 1 n+1)*s
  rw[BU F s n]
  grind
theorem sX{k:Nat}{F:Rat}(h:ag k F):∀i:Nat,∃T:Int,aB F 1 i=wx T ((F.den:Int)^i)/\Bd ((k+1)*i+1) T/\Bd (k*i+1) ((F.den:Int)^i)
 | 0=>⟨0,by simp[aB],⟨by simp⟩,⟨by simp⟩⟩
 | i+1=>by
  obtain⟨T,e,bT,bd⟩:=sX h i;have hd:(F.den:Int)^i≠0:=VT (fu F);have hd1:(F.den:Int)^(i+1)≠0:=VT (fu F);have ed:(F.den:Int)^(i+1)=(F.den:Int)^i*(F.den:Int):=qX ..
  have bd1:Bd (k*(i+1)+1) ((F.den:Int)^(i+1)):=by
   rw[ed];exact(bd.mul h.b).mono (by rw[qC];lia)
  refine⟨F.num*T+(F.den:Int)^(i+1),?_,?_,bd1⟩
  ·symm
   refine fb hd1 ?_
   show(F*aB F 1 i+1)*_=_
   rw[e];have k1:=cE T hd;have k2:=j5 F
   have e1:((F.num*T+(F.den:Int)^(i+1):Int):Rat)=(F.num:Rat)*(T:Rat)+(((F.den:Int)^(i+1):Int):Rat):=by
    rw[qW,Wi]
   rw[e1,<- k1,<- k2,ed,Wi];generalize (((F.den:Int)^i:Int):Rat)=D;generalize ((F.den:Int):Rat)=d;generalize wx T ((F.den:Int)^i)=y
   grind
  ·have h1:(k+1)*(i+1)=(k+1)*i+(k+1):=qC ..
   have h2:k*(i+1)<=(k+1)*i+k:=by rw[qC];have:=Wg i (show k<=k+1 by lia);lia
   exact((h.t.mul bT).add bd1).mono (by lia)
theorem Mw{k:Nat}{F:Rat}(h:ag k F)(i:Nat):ag ((k+1)*i+1) (aB F 1 i):=by
 obtain⟨T,e,bT,bd⟩:=sX h i;rw[e];exact ag.divInt (VT (fu F)) bT (bd.mono (by have:=Wg i (show k<=k+1 by lia);lia))
def eZ(F s:Rat)(n:Nat)(x:Rat):Rat:=F^n*x+aB F 1 n*s
theorem pk(F s:Rat)(n:Nat)(x:Rat):eZ F s n x=push F s n x:=by
 unfold eZ;rw[ik,<- BU]
theorem UK(F s:Rat)(m n:Nat)(x:Rat):eZ F s (m+n) x=eZ F s n (eZ F s m x):=by
 rw[pk,pk,pk,zxl]
theorem Z_(F s x:Rat):eZ F s 0 x=x:=by rw[pk];rfl
theorem Sn(F s x:Rat):eZ F s 1 x=F*x+s:=by rw[pk];rfl
theorem Kt{F s r:Rat}(h:r*(1-F)=s):∀k:Nat,aB F s k=r-F^k*r
 | 0=>by rw[qB,Rat.one_mul];show(0:Rat)=r-r;grind
 | k+1=>by
  show F*aB F s k+s=_
  rw[Kt h k,WK]
  grind
theorem zwg{F s r:Rat}(h:r*(1-F)=s)(n:Nat)(x:Rat):eZ F s n x=r+F^n*(x-r):=by
 unfold eZ;rw[<- BU,Kt h]
 grind
theorem Cm.RO{m:Nat}{h:Rat}{xs:List Rat}{a b:Rat}(c:Cm m (h::xs))(ba:ag 10 a)(bb:ag 10 b)(n i:Nat):Cm (m+2+21*n) ((h+(1-xs.getD i 0))::dF a b n xs i):=by
 obtain⟨B,h0,h1,h2⟩:=c
 have hz:∃z:Int,xs.getD i 0=wx z B/\Bd m z:=by
  rcases wB i xs.length with q | q
  ·rw[wa,wc q]
   exact h2 _ (wD _ (Wc q))
  ·rw[wa,wF q]
   exact⟨0,by simp,⟨by simp;exact Wj m⟩⟩
 obtain⟨z,ez,hz⟩:=hz;have key:=λ(t:Int)(ht:Bd m t)=>p0 ba bb h0 (show Bd (m+2) (t+B-z)from((ht.add h1).sub hz).mono (by lia)) (h1.mono (by lia)) n
 have e2:∀t:Int,wx t B+(1-xs.getD i 0)=wx (t+B-z) B:=λt=>by
  rw[ez]
  symm
  refine fb (by lia) ?_;have q1:=cE t (show B≠0 by lia);have q2:=cE z (show B≠0 by lia);have q3:((t+B-z:Int):Rat)=(t:Rat)+(B:Rat)-(z:Rat):=by push_cast;rfl
  rw[q3,<- q1,<- q2]
  grind
 obtain⟨p1,p2,_⟩:=key 0 ⟨by simp;exact Wj m⟩;refine⟨_,p1,p2,λx hx=>?_⟩;rcases wQ.mp hx with rfl | hx
 ·obtain⟨t,et,ht⟩:=h2 h (wJ ..)
  have hd:(0:Int)<((a.den:Int)*(b.den:Int))^n:=Xq (vJ (den_pos a) (den_pos b));refine⟨(t+B-z)*((a.den:Int)*(b.den:Int))^n,?_,yA ba bb (((ht.add h1).sub hz).mono (by lia)) n⟩;rw[et,e2 t];exact pU h0 hd
 ·have hx':x=0 \/ ∃y∈xs,x=push a b n (y+(1-xs.getD i 0)):=by
   unfold dF at hx;rcases QF hx with q | q
   ·obtain⟨y,hy,rfl⟩:=wY.mp q
    exact .inr ⟨y,hy,rfl⟩
   ·exact .inl q
  rcases hx' with rfl | ⟨y,hy,rfl⟩
  ·exact⟨0,by simp,⟨by simp;exact Wj _⟩⟩
  ·obtain⟨t,rfl,ht⟩:=h2 y (wD _ hy)
   obtain⟨_,_,T,e,hT⟩:=key t ht;rw[e2 t];exact⟨T,e,hT⟩
theorem Cm.Hg{m:Nat}{xs:List Rat}{a b:Rat}{ns:List Int}(c:Cm m xs)(ba:ag 10 a)(bb:ag 10 b):∀k,k<=ns.length->Cm (m+2*k+21*upTo ns k) (eP a b ns xs k::aM a b ns xs k)
 | 0,_=>(c.mono (by lia)).kJ λy hy=>by
  rcases wQ.mp hy with rfl | hy
  ·exact .inr rfl
  ·exact .inl hy
 | k+1,hk=>by
  have:=(Cm.Hg c ba bb (ns:=ns) k (by lia)).RO ba bb (ns.getD k 0).toNat k;rw[aM,eP];refine this.mono ?_;rw[mV (by lia)]
  lia
def eY(c:Rat)(xs ys:List Rat):List Rat:=List.zipWith (λx y=>x+c*(y-x)) xs ys
theorem mC{c:Rat}{xs ys:List Rat}(h:xs.length=ys.length):(eY c xs ys).length=xs.length:=by unfold eY;rw[xD];lia
theorem jQ{c:Rat}{xs ys:List Rat}(h:xs.length=ys.length){i:Nat}(hi:i<xs.length):(eY c xs ys).getD i 0=xs.getD i 0+c*(ys.getD i 0-xs.getD i 0):=by
 unfold eY;rw[wa,wc (by rw[xD];lia),List.getElem_zipWith,wa,wc hi,wa,wc (by lia)]
 rfl
theorem gH{xs ys:List Rat}(hl:xs.length=ys.length)(h:∀i,i<xs.length->xs.getD i 0=ys.getD i 0):xs=ys:=WN hl λi h1 h2=>by
 have:=h i h1;rw[wa,wa,wc h1,wc h2]at this;exact this
theorem ZN(a b:Rat)(n:Nat)(c:Rat){xs ys:List Rat}(h:xs.length=ys.length){i:Nat}(hi:i<xs.length):dF a b n (eY c xs ys) i=eY c (dF a b n xs i) (dF a b n ys i):=by
 have hl:=mC (c:=c) h;refine gH (by rw[iC,hl,mC (by rw[iC,iC];exact h),iC]) λj hj=>?_
 rw[iC,hl]at hj;have hg:=jQ (c:=c) (xs:=dF a b n xs i) (ys:=dF a b n ys i) (by rw[iC,iC];exact h) (i:=j) (by rw[iC];exact hj);rw[hg,fi _ _ _ _ _ _ (by lia),fi _ _ _ _ _ _ hj,fi _ _ _ _ _ _ (show j<ys.length by lia)]
 by_cases z:j=i
 ·rw[if_pos z,if_pos z,if_pos z];grind
 ·rw[if_neg z,if_neg z,if_neg z,jQ h hj,jQ h hi,ik,ik,ik]
  grind
theorem Jw(a b:Rat)(ns:List Int)(c:Rat){xs ys:List Rat}(h:xs.length=ys.length):∀k,k<=xs.length->aM a b ns (eY c xs ys) k=eY c (aM a b ns xs k) (aM a b ns ys k)
 | 0,_=>rfl
 | k+1,hk=>by
  have ih:=Jw a b ns c h k (by lia);rw[aM,ih,aM,aM];exact ZN a b _ c (by rw[cw,cw];exact h) (by rw[cw];lia)
theorem O0(a b:Rat)(ns:List Int)(c:Rat){xs ys:List Rat}(h:xs.length=ys.length):∀k,k<=xs.length->eP a b ns (eY c xs ys) k=eP a b ns xs k+c*(eP a b ns ys k-eP a b ns xs k)
 | 0,_=>by show(0:Rat)=0+c*(0-0);grind
 | k+1,hk=>by
  rw[eP,eP,eP,O0 a b ns c h k (by lia),Jw a b ns c h k (by lia),jQ (by rw[cw,cw];exact h) (by rw[cw];lia)]
  grind
theorem zvR(c:Rat){xs ys:List Rat}(h:xs.length=ys.length):eY c (xs++[0]) (ys++[0])=eY c xs ys++[0]:=by
 unfold eY;rw[List.zipWith_append h]
 show _++[0+c*(0-0)]=_
 congr 2
 grind
def eO(a b:Rat)(ns:List Int)(xs:List Rat):Rat:=eP a b ns (xs++[0]) ns.length
theorem zwX{a b:Rat}{ns:List Int}(c:Rat){xs ys:List Rat}(hn:ns.length=xs.length+1)(h:xs.length=ys.length):eO a b ns (eY c xs ys)=eO a b ns xs+c*(eO a b ns ys-eO a b ns xs):=by
 unfold eO;rw[<- zvR c h];exact O0 a b ns c (by simp[h]) _ (by simp;lia)
def sumTo(f:Nat->Rat):Nat->Rat
 | 0=>0
 | n+1=>sumTo f n+f n
theorem yB{f g:Nat->Rat} : ∀n,(∀k,k<n->f k=g k)->sumTo f n=sumTo g n
 | 0,_=>rfl
 | n+1,h=>by rw[sumTo,sumTo,yB n λk hk=>h k (by lia),h n (by lia)]
theorem AI(c:Rat)(f:Nat->Rat):∀n,sumTo (λk=>c*f k) n=c*sumTo f n
 | 0=>by show(0:Rat)=c*0;grind
 | n+1=>by rw[sumTo,sumTo,AI c f n];grind
theorem OM(f g:Nat->Rat):∀n,sumTo (λk=>f k+g k) n=sumTo f n+sumTo g n
 | 0=>by show(0:Rat)=0+0;grind
 | n+1=>by rw[sumTo,sumTo,sumTo,OM f g n];grind
theorem J4(F:Rat):∀n,sumTo (λk=>F^k) n=aB F 1 n
 | 0=>rfl
 | n+1=>by
  rw[sumTo,J4 F n]
  have:∀m,aB F 1 m*F+1=aB F 1 m+F^m:=λm=>by
   induction m with
   | zero=>rw[qB];show(0:Rat)*F+1=0+1;grind
   | succ m ih =>
    show(F*aB F 1 m+1)*F+1=(F*aB F 1 m+1)+F^(m+1)
    rw[WK]
    grind
  have:=this n
  show aB F 1 n+F^n=F*aB F 1 n+1
  grind
theorem Oz{a b:Rat}{ns:List Int}{L:Nat}(hn:ns.length=L+1)(X:Nat->List Rat)(hX:∀k,(X k).length=L):∀(n:Nat)(M:List Rat),1<=n->M.length=L->(∀i,i<L->M.getD i 0*((n:Int):Rat)=sumTo (λk=>(X k).getD i 0) n)->((n:Int):Rat)*eO a b ns M=sumTo (λk=>eO a b ns (X k)) n
 | 0,M,h,_,_=>by lia
 | n+1,M,_,hM,hs=>by
  have en:(((n+1:Nat):Int):Rat)=((n:Int):Rat)+1:=by push_cast;rfl
  by_cases z:n=0
  ·subst z
   have e1:(((0+1:Nat):Int):Rat)=1:=by decide
   have:M=X 0:=gH (by rw[hM,hX]) λi hi=>by
    have:=hs i (by lia);rw[e1]at this;have e2:sumTo (λk=>(X k).getD i 0) (0+1)=(X 0).getD i 0:=by rw[sumTo,sumTo];grind
    rw[e2]at this
    grind
   rw[this,e1]
   show 1*eO a b ns (X 0)=0+eO a b ns (X 0)
   grind
  ·have hn0:((n:Int):Rat)≠0:=λe=>z (by have:=WZ.mp e;lia)
   have hn1:((n:Int):Rat)+1≠0:=λe=>by
    rw[<- en]at e;have:=WZ.mp e
    lia
   -- the means of the first ones
   let M':List Rat:=(wt L).map λi=>sumTo (λk=>(X k).getD i 0) n / ((n:Int):Rat)
   have hl':M'.length=L:=by simp[M']
   have g':∀i,i<L->M'.getD i 0=sumTo (λk=>(X k).getD i 0) n / ((n:Int):Rat):=λi hi=>by
    show((wt L).map λi=>sumTo (λk=>(X k).getD i 0) n / ((n:Int):Rat)).getD i 0=_
    rw[wa,wu,vI hi];rfl
   have ih:=Oz (a:=a) (b:=b) hn X hX n M' (by lia) hl' λi hi=>by rw[g' i hi];exact WE hn0
   have eM:M=eY (1 / (((n:Int):Rat)+1)) M' (X n):=gH (by rw[hM,mC (by rw[hl',hX]),hl']) λi hi=>by
    rw[jQ (by rw[hl',hX]) (by lia),g' i (by lia)];have h1:=hs i (by lia);rw[en,sumTo]at h1;generalize sumTo (λk=>(X k).getD i 0) n=S at *;generalize (X n).getD i 0=y at *;generalize M.getD i 0=m at *;generalize ((n:Int):Rat)=N at *;have k1:S / N*N=S:=WE hn0;have k2:1 / (N+1)*(N+1)=1:=WE hn1;generalize S / N=q at *;generalize 1 / (N+1)=r at *;have:(m-(q+r*(y-q)))*(N+1)=0:=by grind
    rcases qV.mp this with h | h
    ·grind
    ·exact absurd h hn1
   rw[eM,zwX _ (by lia) (by rw[hl',hX]),sumTo,<- ih,en];generalize eO a b ns M'=A;generalize eO a b ns (X n)=B;generalize ((n:Int):Rat)=N at *;have k2:1 / (N+1)*(N+1)=1:=WE hn1;generalize 1 / (N+1)=r at *
   grind
end GM
namespace L2
open PySem PySem.Spec PyProof.Rows GM
section
variable{K:wb}{H H' H2:Hp}{a p:wg}{xs ys:List V}{o:HO}
theorem ah.upd(h:H p=none):ah H (upd H p o):=λb u e=>by
 rw[dY (hZ e h)];exact e
theorem ah.g_(s:ah H H')(h:aU K H a xs):aU K H' a xs:=by
 rcases h with(h | ⟨o,h⟩) | h
 ·exact .inl (.inl (s _ _ h))
 ·exact .inl (.inr ⟨o,s _ _ h⟩)
 ·exact .inr h
structure br(H H':Hp):Prop where
 t:∀b xs,H b=some (.tup xs)->H' b=some (.tup xs)
 f:∀b o u,H b=some (.eX o u)->H' b=some (.eX o u)
theorem ah.keep(s:ah H H'):br H H':=⟨λb xs h=>s _ _ h,λb o u h=>s _ _ h⟩
theorem br.refl(H:Hp):br H H:=(ah.refl H).keep
theorem br.trans(a:br H H')(b:br H' H2):br H H2:=⟨λc xs h=>b.t _ _ (a.t _ _ h),λc o u h=>b.f _ _ _ (a.f _ _ _ h)⟩
theorem br.g_(k:br H H')(h:aU K H a xs):aU K H' a xs:=by
 rcases h with(h | ⟨o,h⟩) | h
 ·exact .inl (.inl (k.t _ _ h))
 ·exact .inl (.inr ⟨o,k.f _ _ _ h⟩)
 ·exact .inr h
def jy(K:wb)(H:Hp)(a:wg)(xs:List V):Prop :=
 (∃o,H a=some (.eX o (.lst xs))) \/
  ∃(o:Obj)(its:Array wf)(n:Nat),K.lookup a=some o/\o.cls=.type "list"/\o.dict=none/\o.data=.seq its n/\its.size<=w8/\aK xs its.toList
theorem jy.sq(h:jy K H a xs):aI K H a xs:=by
 rcases h with⟨o,h⟩ | h
 ·exact .inl (.inr ⟨o,h⟩)
 ·exact .inr h
theorem br.NL(k:br H H')(h:jy K H a xs):jy K H' a xs:=by
 rcases h with⟨o,h⟩ | h
 ·exact .inl ⟨o,k.f _ _ _ h⟩
 ·exact .inr h
def Exc(p:wg)(H H':Hp):Prop:=∀b o,b≠p->H b=some o->H' b=some o
theorem Exc.keep(e:Exc p H H')(h:H p=some (.lst xs)):br H H' :=
 ⟨λb ys hb=>e b _ (Hw hb h (by intro z;cases z)) hb,λb o u hb=>e b _ (Hw hb h (by intro z;cases z)) hb⟩
theorem ah.exc(s:ah H H'):Exc p H H':=λb o _ h=>s b o h
theorem Exc.refl(p:wg)(H:Hp):Exc p H H:=λ_ _ _ h=>h
theorem Exc.trans(a:Exc p H H')(b:Exc p H' H2):Exc p H H2:=λc o n h=>b c o n (a c o n h)
theorem Exc.upd(p:wg)(H:Hp)(o:HO):Exc p H (upd H p o):=λb u n h=>by
 rw[dY n];exact h
theorem Exc.at(e:Exc p H H'){q:wg}{u:HO}(n:q≠p)(h:H q=some u):H' q=some u:=e q u n h
end
mutual
def Is(K:wb)(H:Hp):V->wz->Prop
 | v,.none=>v=.bM
 | v,.bool b=>v=.bl b
 | v,.int i=>v=.int i
 | v,.str x=>v=.str x
 | v,.tuple ds=>∃a xs,v=.ref a/\aU K H a xs/\ao K H xs ds
 | v,.list ds=>∃a xs,v=.ref a/\aI K H a xs/\ao K H xs ds
 | v,.dict _=>∃a kvs,v=.ref a/\H a=some (.dK kvs)
def ao(K:wb)(H:Hp):List V->List wz->Prop
 | xs,[]=>xs=[]
 | xs,d::ds=>∃x r,xs=x::r/\Is K H x d/\ao K H r ds
end
section
variable{K:wb}{H H':Hp}{v:V}{xs:List V}{ds:List wz}{d:wz}
theorem bS{i:Int} : Is K H v (.int i) ↔ v=.int i:=by rw[Is]
theorem kY{b:Bool} : Is K H v (.bool b) ↔ v=.bl b:=by rw[Is]
theorem cU{x:Str} : Is K H v (.str x) ↔ v=.str x:=by rw[Is]
theorem nh:Is K H v .none ↔ v=.bM:=by rw[Is]
theorem bV:Is K H v (.tuple ds) ↔ ∃a xs,v=.ref a/\aU K H a xs/\ao K H xs ds:=by rw[Is]
theorem cu:Is K H v (.list ds) ↔ ∃a xs,v=.ref a/\aI K H a xs/\ao K H xs ds:=by rw[Is]
theorem uN{kv:List (wz × wz)} : Is K H v (.dict kv) ↔ ∃a kvs,v=.ref a/\H a=some (.dK kvs):=by rw[Is]
theorem fm:ao K H xs [] ↔ xs=[]:=by rw[ao]
theorem dh:ao K H xs (d::ds) ↔ ∃x r,xs=x::r/\Is K H x d/\ao K H r ds:=by rw[ao]
theorem ao.cons(h:Is K H v d)(t:ao K H xs ds):ao K H (v::xs) (d::ds):=dh.mpr ⟨v,xs,rfl,h,t⟩
theorem ao.nil:ao K H [] []:=fm.mpr rfl
theorem ao.length:∀{ds:List wz}{xs:List V},ao K H xs ds->xs.length=ds.length
 | [],_,h=>by rw[fm.mp h];rfl
 | d::ds,_,h=>by
  obtain⟨x,r,rfl,_,t⟩:=dh.mp h;rw[vR,vR,ao.length t]
theorem ao.get:∀{ds:List wz}{xs:List V}{i:Nat}{d:wz},ao K H xs ds->ds[i]? = some d->∃x,xs[i]? = some x/\Is K H x d
 | [],_,_,_,_,e=>by simp at e
 | d::ds,_,0,_,h,e=>by
  obtain⟨x,r,rfl,q,_⟩:=dh.mp h;simp at e;subst e;exact⟨x,rfl,q⟩
 | d::ds,_,i+1,d',h,e=>by
  obtain⟨x,r,rfl,_,t⟩:=dh.mp h;obtain⟨y,h1,h2⟩:=ao.get (i:=i) t (by simpa using e);exact⟨y,by simpa using h1,h2⟩
theorem ao.append:∀{ds es:List wz}{xs ys:List V},ao K H xs ds->ao K H ys es->ao K H (xs++ys) (ds++es)
 | [],_,_,_,h,t=>by rw[fm.mp h];exact t
 | d::ds,_,_,_,h,t=>by
  obtain⟨x,r,rfl,q,u⟩:=dh.mp h;exact .cons q (ao.append u t)
mutual
theorem Is.same(s:ah H H'):∀(d:wz)(v:V),Is K H v d->Is K H' v d
 | .none,v,h=>by rw[nh]at h ⊢;exact h
 | .bool _,v,h=>by rw[kY]at h ⊢;exact h
 | .int _,v,h=>by rw[bS]at h ⊢;exact h
 | .str _,v,h=>by rw[cU]at h ⊢;exact h
 | .tuple ds,v,h=>by
  obtain⟨a,xs,e,q,t⟩:=bV.mp h;exact bV.mpr ⟨a,xs,e,s.g_ q,ao.same s ds xs t⟩
 | .list ds,v,h=>by
  obtain⟨a,xs,e,q,t⟩:=cu.mp h;exact cu.mpr ⟨a,xs,e,s.seq q,ao.same s ds xs t⟩
 | .dict _,v,h=>by
  obtain⟨a,kvs,e,q⟩:=uN.mp h;exact uN.mpr ⟨a,kvs,e,s _ _ q⟩
theorem ao.same(s:ah H H'):∀(ds:List wz)(xs:List V),ao K H xs ds->ao K H' xs ds
 | [],xs,h=>by rw[fm]at h ⊢;exact h
 | d::ds,xs,h=>by
  obtain⟨x,r,e,q,t⟩:=dh.mp h;exact dh.mpr ⟨x,r,e,Is.same s d x q,ao.same s ds r t⟩
end
end
/- no list and no dict within -/
mutual
def cB:wz->Bool
 | .none=>true
 | .bool _=>true
 | .int _=>true
 | .str _=>true
 | .tuple ds=>b7 ds
 | .list _=>false
 | .dict _=>false
def b7:List wz->Bool
 | []=>true
 | d::ds=>cB d&&b7 ds
end
section
variable{K:wb}{H H':Hp}
mutual
theorem Is.keep(k:br H H'):∀(d:wz)(v:V),cB d=true->Is K H v d->Is K H' v d
 | .none,v,_,h=>by rw[nh]at h ⊢;exact h
 | .bool _,v,_,h=>by rw[kY]at h ⊢;exact h
 | .int _,v,_,h=>by rw[bS]at h ⊢;exact h
 | .str _,v,_,h=>by rw[cU]at h ⊢;exact h
 | .tuple ds,v,i,h=>by
  obtain⟨a,xs,e,q,t⟩:=bV.mp h;exact bV.mpr ⟨a,xs,e,k.g_ q,ao.keep k ds xs (by rw[cB]at i;exact i) t⟩
 | .list ds,v,i,h=>by rw[cB]at i;cases i
 | .dict _,v,i,h=>by rw[cB]at i;cases i
theorem ao.keep(k:br H H'):∀(ds:List wz)(xs:List V),b7 ds=true->ao K H xs ds->ao K H' xs ds
 | [],xs,_,h=>by rw[fm]at h ⊢;exact h
 | d::ds,xs,i,h=>by
  obtain⟨x,r,e,q,t⟩:=dh.mp h;rw[b7,wV]at i;exact dh.mpr ⟨x,r,e,Is.keep k d x i.1 q,ao.keep k ds r i.2 t⟩
end
end
def N(r:Rat):wz:=.tuple [.int r.num,.int (r.den:Int)]
theorem lF(r:Rat):cB (N r)=true:=by simp[N,cB,b7]
section
variable{K:wb}{H H':Hp}{v:V}{r:Rat}
theorem ny:Is K H v (N r) ↔ ∃a,v=.ref a/\aU K H a [.int r.num,.int (r.den:Int)]:=by
 unfold N;rw[bV]
 constructor
 ·rintro ⟨a,xs,e,q,t⟩
  obtain⟨x,r1,rfl,q1,t⟩:=dh.mp t;obtain⟨y,r2,rfl,q2,t⟩:=dh.mp t;rw[fm.mp t,bS.mp q1,bS.mp q2]at q;exact⟨a,e,q⟩
 ·rintro ⟨a,e,q⟩
  exact⟨a,_,e,q,.cons (bS.mpr rfl) (.cons (bS.mpr rfl) .nil)⟩
end
section
variable{X:Cx}{pins:List (wg × Obj)}{σ : St}{H:Hp}{s:wl}
mutual
theorem Inv.reads(I:Inv X pins σ H s):∀(d:wz)(v:V)(u:wf),d.canLay0=true->Is X.K H v d->aX v u->∃as,Reads s.heap u d as
 | .none,v,u,_,h,r=>by
  cases nh.mp h;cases (show u=Value.none from r);exact⟨_,.none⟩
 | .bool b,v,u,_,h,r=>by
  cases kY.mp h;cases (show u=Value.bool b from r);exact⟨_,.bool b⟩
 | .int i,v,u,_,h,r=>by
  cases bS.mp h;obtain⟨t,e⟩:=(show ∃t,u=Value.int i t from r);cases e;exact⟨_,.int i t⟩
 | .str x,v,u,_,h,r=>by
  cases cU.mp h;obtain⟨t,e⟩:=(show ∃t,u=Value.str x t from r);cases e;exact⟨_,.str x t⟩
 | .tuple ds,v,u,c,h,r=>by
  obtain⟨a,xs,e,q,t⟩:=bV.mp h;subst e;cases (show u=Value.ref a from r);obtain⟨its,rv,⟨o,e1,e2,n,e3⟩,_⟩:=I.tuple q;obtain⟨as,ra⟩:=Inv.readsAll I ds xs its (by rw[Wa]at c;exact c) t rv;exact⟨_,.tuple e1 e2 e3 (by simpa using ra)⟩
 | .list ds,v,u,c,h,r=>by
  obtain⟨a,xs,e,q,t⟩:=cu.mp h;subst e;cases (show u=Value.ref a from r);obtain⟨its,rv,⟨o,n,e1,e2,_,e3⟩,_⟩:=I.list q;obtain⟨as,ra⟩:=Inv.readsAll I ds xs its (by rw[Wa]at c;exact c) t rv;exact⟨_,.list e1 e2 e3 (by simpa using ra)⟩
 | .dict _,v,u,c,h,r=>by rw[Wa]at c;cases c
theorem Inv.readsAll(I:Inv X pins σ H s):∀(ds:List wz)(xs:List V)(us:List wf),Wm ds=true->ao X.K H xs ds->aK xs us->∃as,ReadsAll s.heap us ds as
 | [],xs,us,_,h,r=>by
  rw[fm.mp h]at r;cases r;exact⟨_,.nil⟩
 | d::ds,xs,us,c,h,r=>by
  obtain⟨x,l,e,q,t⟩:=dh.mp h;subst e;rw[Wm,wV]at c;cases r with
  | cons r1 r2 =>
   obtain⟨as,h1⟩:=Inv.reads I d x _ c.1 q r1;obtain⟨bs,h2⟩:=Inv.readsAll I ds l _ c.2 t r2;exact⟨_,.cons h1 h2⟩
end
end
section
variable{X:Cx}
open PySem.SeqAt (shaped)
def cN(K:wb):R2:=λx y H Q=>∃d e,Is K H x d/\Is K H y e/\shaped d=true/\shaped e=true/\Q (.bl (wA d e)) H
def ee(K:wb):R2:=λx y H Q=>∃d e,Is K H x d/\Is K H y e/\shaped d=true/\shaped e=true/\Q (.bl (!PyData.eqv d e)) H
theorem dk(hu:X.A.units+64<WI):aJ X (wT .Eq) (cN X.K):=by
 intro pins s σ H x y v u Q I rx ry h;obtain⟨d,e,hd,he,sd,se,q⟩:=h;obtain⟨as,h1⟩:=I.reads d x v (W8 sd) hd rx;obtain⟨bs,h2⟩:=I.reads e y u (W8 se) he ry;exact eq_dataH h1 h2 sd se hu ⟨.bl _,H,I,rfl,q⟩
theorem gJ(hu:X.A.units+64<WI):aJ X (wT .NotEq) (ee X.K):=by
 intro pins s σ H x y v u Q I rx ry h;obtain⟨d,e,hd,he,sd,se,q⟩:=h;obtain⟨as,h1⟩:=I.reads d x v (W8 sd) hd rx;obtain⟨bs,h2⟩:=I.reads e y u (W8 se) he ry;exact ne_dataH h1 h2 sd se hu ⟨.bl _,H,I,rfl,q⟩
theorem aX.RD{x:V}{v:wf}(r:aX x v)(c:Bool):(v == Value.bool c)=decide (x=.bl c):=by
 cases x with
 | bM=>cases (show v=Value.none from r);rfl
 | bl b=>cases (show v=Value.bool b from r);cases b<;>cases c<;>rfl
 | int _=>obtain⟨t,rfl⟩:=r;rfl
 | str _=>obtain⟨t,rfl⟩:=r;rfl
 | byt _=>obtain⟨t,rfl⟩:=r;rfl
 | kO _=>obtain⟨t,rfl⟩:=r;rfl
 | ref _=>cases r;rfl
 | ty _=>cases r;rfl
theorem aX.Rm{x:V}{v:wf}(r:aX x v)(c:Bool):plainIs v (Value.bool c)=true:=by
 cases x with
 | bM=>cases (show v=Value.none from r);rfl
 | bl b=>cases (show v=Value.bool b from r);rfl
 | int _=>obtain⟨t,rfl⟩:=r;rfl
 | str _=>obtain⟨t,rfl⟩:=r;rfl
 | byt _=>obtain⟨t,rfl⟩:=r;rfl
 | kO _=>obtain⟨t,rfl⟩:=r;rfl
 | ref _=>cases r;rfl
 | ty _=>cases r;rfl
def M_:R2:=λx y H Q=>(∃c,y=.bl c/\Q (.bl (decide (x=.bl c))) H)\/(y=.bM/\Q (.bl (decide (x=.bM))) H)
theorem Lp:aJ X (wT .Is) M_:=by
 intro pins s σ H x y v u Q I rx ry h;rcases h with⟨c,e,q⟩ | h
 ·subst e
  cases (show u=Value.bool c from ry);exact wpAny_is_plain (rx.Rm c) (Lx I q (rx.RD c).symm)
 ·exact zAt pins s σ H x y v u Q I rx ry h
def kindOf:wz->String
 | .none=>"NoneType"
 | .bool _=>"bool"
 | .int _=>"int"
 | .str _=>"str"
 | .tuple _=>"tuple"
 | .list _=>"list"
 | .dict _=>"dict"
def jf(K:wb):List V->Hp->VK->Prop:=λxs H Q=>∃x T d b,xs=[x,.ty T]/\Is K H x d/\wC K (.type (kindOf d)) (.type T)=some b/\Q (.bl b) H
theorem yH:aY X (.builtin "isinstance") (jf X.K):=by
 intro pins s σ H xs us Q I r h;obtain⟨x,T,d,b,rfl,hd,e,q⟩:=h;obtain⟨u,w',rfl,rx,rt⟩:=ki r;cases (show w'=Value.type T from rt);have fin:∀tk,EP X pins σ Q (.bool b) {s with toks:=tk}:=λtk=>⟨.bl b,H,I.tok _,rfl,q⟩
 cases d with
 | none =>
  cases nh.mp hd;cases (show u=Value.none from rx);exact WJ Xe I.cW True.intro e (λz=>nomatch z) fin
 | bool y =>
  cases kY.mp hd;cases (show u=Value.bool y from rx);exact WJ Xf I.cW True.intro e (λz=>nomatch z) fin
 | int i =>
  cases bS.mp hd;obtain⟨t,q⟩:=(show ∃t,u=Value.int i t from rx);cases q;exact WJ XB I.cW True.intro e (λz=>nomatch z) fin
 | str y =>
  cases cU.mp hd;obtain⟨t,q⟩:=(show ∃t,u=Value.str y t from rx);cases q;exact WJ XC I.cW True.intro e (λz=>nomatch z) fin
 | tuple ds =>
  obtain⟨a,xs,e1,hq,_⟩:=bV.mp hd;subst e1;cases (show u=Value.ref a from rx);obtain⟨its,_,⟨o,h1,h2,_⟩,_⟩:=I.tuple hq;exact WJ xU I.cW ⟨o,h1,h2⟩ e (λz=>nomatch z) fin
 | list ds =>
  obtain⟨a,xs,e1,hq,_⟩:=cu.mp hd;subst e1;cases (show u=Value.ref a from rx);obtain⟨its,_,⟨o,n,h1,h2,_⟩,_⟩:=I.list hq;exact WJ Xg I.cW ⟨o,h1,h2⟩ e (λz=>nomatch z) fin
 | dict kv =>
  obtain⟨a,kvs,e1,hq⟩:=uN.mp hd;subst e1;cases (show u=Value.ref a from rx);obtain⟨_,_,vs,_,o,es,ep,h1,h2,_⟩:=(show dq X.prog X.w H s.heap a (.dK kvs)from I.aE a _ hq);exact WJ Xh I.cW ⟨o,h1,h2.1⟩ e (λz=>nomatch z) fin
def isA(T:String)(d:wz):Bool:=(kindOf d == T) || (kindOf d == "bool"&&T == "int")
theorem R5{K:wb}(d:wz):wC K (.type (kindOf d)) (.type "int")=some (isA "int" d):=by cases d<;>rfl
theorem Ye{K:wb}(d:wz):wC K (.type (kindOf d)) (.type "bool")=some (isA "bool" d):=by cases d<;>rfl
theorem YF{K:wb}(d:wz):wC K (.type (kindOf d)) (.type "tuple")=some (isA "tuple" d):=by cases d<;>rfl
theorem RT{m n:Nat}{i j:Int}(h:Bd m i)(k:Bd n j)(hm:m<=1000000)(hn:n<=1000000):IntMulOk i j:=by
 have f:∀{m:Nat}{i:Int},Bd m i->m<=1000000->xE i<=2^20:=by
  intro m i h hm;have e:(2:Nat)^20=1048576:=by decide
  have l:=(h.mono (Nat.le_succ m)).log (Nat.succ_pos m);unfold xE
  split<;>lia
 exact .of_bits (f h hm) (f k hn)
theorem cn:aJ X (WB .Mult) (rI IntMulOk λi j=>.int (i*j)):=rZ λ_ _ _ _ _ _ _ hc q=>mul_int q hc
def kc(_ j:Int):Prop:=j≠0/\Bd 8999 j
theorem fN:aJ X (WB .FloorDiv) (rI kc λi j=>.int (i.fdiv j)):=rZ λ_ _ _ _ _ _ _ hc q =>
 floordiv_int hc.1 q (.inl (PyProof.noPylong_of_log2 (Vx (hc.2.log (by decide)))))
theorem zyf:aJ X (WB .Add) (λx y H Q=>(iu λi j=>.int (i+j)) x y H Q\/(BN x y H Q \/ ∃i j,x=.str i/\y=.str j/\i.length+j.length<=w8/\Q (.str (i++j)) H)):=zAy.or (R4.or ZR)
end
theorem fe:vK "len"=some (.builtin "len"):=by decide +kernel
theorem mS:vK "abs"=some (.builtin "abs"):=by decide +kernel
theorem fB:vK "isinstance"=some (.builtin "isinstance"):=by decide +kernel
theorem Zs:vK "int"=some (.type "int"):=by decide +kernel
theorem zyI:vK "bool"=some (.type "bool"):=by decide +kernel
theorem eF:vK "tuple"=some (.type "tuple"):=by decide +kernel
theorem o_:vK "list"=some (.type "list"):=by decide +kernel
def lh(K:wb)(xs:List V)(H:Hp)(Q:VK):Prop:=xs.length<=w8 /\ ∀p,H p=none->Q (.ref p) (upd H p (.tup xs))
def u3(K:wb)(xs:List V)(H:Hp)(Q:VK):Prop:=xs.length<=w8 /\ ∀p,H p=none->Q (.ref p) (upd H p (.lst xs))
def N5(K:wb)(t:TA):TE:=λσ H Q=>t σ H λxs H1=>lh K xs H1 Q
def Ba(K:wb)(t:TA):TE:=λσ H Q=>t σ H λxs H1=>u3 K xs H1 Q
def BZ:R2:=λx y H Q=>(iu λi j=>.int (i+j)) x y H Q\/(BN x y H Q \/ ∃i j,x=.str i/\y=.str j/\i.length+j.length<=w8/\Q (.str (i++j)) H)
def HH:List V->Hp->VK->Prop:=λxs H Q=>∃i:Int,xs=[.int i]/\Q (.int (if i<0 then -i else i)) H
def dg(K:wb):List V->Hp->VK->Prop:=λxs H Q=>∃p ys,xs=[.ref p]/\(aI K H p ys\/aU K H p ys)/\Q (.int ys.length) H
section
variable{X:Cx}{e:Expr}{es:List Expr}{te:TE}{t:TA}{pos:Pos}
theorem aW{x1}(h:PA X es t):PE X (.Tuple es x1 pos) (N5 X.K t):=zBi h
theorem cV(h:PA X es t):PE X (.List es pos) (Ba X.K t):=Ts h
theorem cC:aJ X (WB .Add) BZ:=zyf
theorem mG:aY X (.builtin "abs") HH:=TU
theorem fg:aY X (.builtin "len") (dg X.K):=zpc
theorem oo{x:Str}{i:Int}{pos:Pos}(hg:Gl X x)(hm:∃t,X.mg x=some (.int i t))(hd:(x == ("__debug__" : Str))=false:=by decide):PE X (.Name x pos) (tC (.int i)):=by
 obtain⟨t,hm⟩:=hm;exact bL hg hm ⟨t,rfl⟩ hd
end
section
variable{K:wb}{σ : St}{H H':Hp}{Q:VK}{QA:List V->Hp->Prop}{QB:Bool->Hp->Prop}{QS:St->Hp->Prop}{QH:Hp->Prop}{D:cj}{ta tb te:TE}{tt tu:TT}{t tr:TA}{s1 s2:TS}{g:TG}{gs:hV}{r:R2}{v w:V}{xs ys:List V}{i:Nat}{m n:Int}
theorem Ek(h : σ[i]? = some (some v))(q:Q v H):lG i σ H Q:=⟨v,h,q⟩
theorem zCp(q:Q v H):tC v σ H Q:=q
theorem zBt(h:ta σ H λx H1=>tb σ H1 λy H2=>r x y H2 Q):kS r ta tb σ H Q:=h
theorem zBS{u:V->Hp->VK->Prop}(h:ta σ H λx H1=>u x H1 Q):Lm u ta σ H Q:=h
theorem zAJ(h:t σ H λxs H1=>lh K xs H1 Q):N5 K t σ H Q:=h
theorem Zd(h:t σ H λxs H1=>u3 K xs H1 Q):Ba K t σ H Q:=h
theorem zzR(q:QA [] H):n9 σ H QA:=q
theorem TV(h:te σ H λx H1=>tr σ H1 λxs H2=>QA (x::xs) H2):pW te tr σ H QA:=h
theorem YE{sp:Sp}{E:XK}(h:t σ H λvs H1=>sp vs H1 Q E):kN sp [] E t σ H Q:=by
 simpa only[kN,vY] using h
theorem TF{u:List V->Hp->VK->Prop}(h:t σ H λvs H1=>u vs H1 Q):Ai u t σ H Q:=h
theorem zyc(h:te σ H λx H'=>∃k,x=.bl k/\QB k H'):AV te σ H QB:=h
theorem LW(h:te σ H λx H'=>∃k,x=.bl k/\QB k H'):tB te σ H QB:=h
theorem Mi{R:Bool->Prop}{k:Bool}(q:R k):∃k',V.bl k=V.bl k'/\R k':=⟨k,rfl,q⟩
theorem SH(h:tt σ H λc H1=>if c=true then tu σ H1 QB else QB false H1):NJ tt tu σ H QB:=h
theorem zB3(h:tt σ H λc H1=>if c=true then QB true H1 else tu σ H1 QB):Pu tt tu σ H QB:=h
theorem Yj(h:tt σ H λc H1=>QB (!c) H1):Nb tt σ H QB:=h
theorem zxX(h:ta σ H λx H1=>∃c,x=.bl c/\if c=true then tb σ H1 Q else Q (.bl false) H1):NN ta tb σ H Q:=h
theorem ZH(h:ta σ H λx H1=>∃c,x=.bl c/\if c=true then Q (.bl true) H1 else tb σ H1 Q):IX ta tb σ H Q:=h
theorem zzb(h:ta σ H λx H1=>∃c,x=.bl c/\Q (.bl (!c)) H1):Ie ta σ H Q:=h
theorem SS(h:tt σ H λc H1=>if c=true then ta σ H1 Q else tb σ H1 Q):Jf tt ta tb σ H Q:=h
-- statements
theorem zBc(h:s1 {D with nx:=s2 D} σ H):AH s1 s2 D σ H:=h
theorem R_(h:D.nx σ H):Pb D σ H:=h
theorem zzL(h:te σ H D.rt):Nq te D σ H:=h
theorem zAN(h:tt σ H λb H1=>if b=true then s1 D σ H1 else s2 D σ H1):Ig tt s1 s2 D σ H:=h
theorem zzP(h:te σ H λx H1=>g x σ H1 D.nx):j9 te g D σ H:=h
theorem zyY(h:te σ H λ_ H1=>D.nx σ H1):JT te D σ H:=h
theorem zAF{i j:Nat}(h:t σ H λvs H1=>∃v w,vs=[v,w]/\D.nx ((σ.set i (some v)).set j (some w)) H1):JL i j t D σ H:=h
theorem SI{i j:Nat}(q:QS ((σ.set i (some v)).set j (some w)) H):∃v' w',[v,w]=[v',w']/\QS ((σ.set i (some v')).set j (some w')) H:=⟨v,w,rfl,q⟩
-- targets
theorem DF(q:QS (σ.set i (some v)) H):fI i v σ H QS:=q
theorem Jr(q:QS σ H):BP [] σ H QS:=⟨rfl,q⟩
theorem Cb(q:g v σ H λσ' H'=>gs xs σ' H' QS):uH g gs (v::xs) σ H QS:=⟨v,xs,rfl,q⟩
theorem kU{a:wg}{n:Nat}(h:aU K H a xs)(e:xs.length=n)(q:gs xs σ H QS):gD K n gs (.ref a) σ H QS:=⟨a,xs,rfl,h,e,q⟩
theorem Uy{tset:yw}(h:ta σ H λo H1=>tb σ H1 λi H2=>tset o i v H2 λH3=>QS σ H3):O2 ta tb tset v σ H QS:=h
theorem Ei{p:wg}{k:Int}{j:Nat}(h:H p=some (.lst xs))(e:h9 xs.length k=some j)(q:∀H',Exc p H H'->H' p=some (.lst (xs.set j v))->QH H'):OF (.ref p) (.int k) v H QH :=
 ⟨p,xs,k,j,rfl,rfl,h,e,q _ (Exc.upd p H _) cO⟩
-- ints
theorem SR{f:Int->Int->V}(q:Q (f m n) H):iu f (.int m) (.int n) H Q:=⟨m,n,rfl,rfl,q⟩
theorem BX{C:Int->Int->Prop}{f:Int->Int->V}(c:C m n)(q:Q (f m n) H):rI C f (.int m) (.int n) H Q:=⟨m,n,rfl,rfl,c,q⟩
theorem Uw{f:Int->V}(q:Q (f m) H):rU f (.int m) H Q:=⟨m,rfl,q⟩
theorem zx8(q:Q (.int (m+n)) H):BZ (.int m) (.int n) H Q:=.inl ⟨m,n,rfl,rfl,q⟩
theorem mj{p b:wg}(h:H p=some (.lst xs))(k:H b=some (.lst ys))(z:xs.length+ys.length<=w8)
  (q:∀c H',H c=none->ah H H'->H' c=some (.lst (xs++ys))->Q (.ref c) H'):BZ (.ref p) (.ref b) H Q :=
 .inr (.inl ⟨p,b,xs,ys,rfl,rfl,h,k,z,λc hc=>q c _ hc (ah.upd hc) cO⟩)
theorem TQ(q:Q (.int (if m<0 then -m else m)) H):HH [.int m] H Q:=⟨m,rfl,q⟩
theorem Kb{p:wg}(h:aU K H p xs)(q:Q (.int xs.length) H):dg K [.ref p] H Q:=⟨p,xs,rfl,.inr h,q⟩
theorem jG{p:wg}(h:aI K H p xs)(q:Q (.int xs.length) H):dg K [.ref p] H Q:=⟨p,xs,rfl,.inl h,q⟩
theorem Z1(q:Q (.bl (decide (v=.bM))) H):M_ v .bM H Q:=.inr ⟨rfl,q⟩
theorem zAj(q:Q (.bl (decide (m=n))) H):cN K (.int m) (.int n) H Q :=
 ⟨.int m,.int n,bS.mpr rfl,bS.mpr rfl,rfl,rfl,by
  have e:wA (.int m) (.int n)=decide (m=n):=by
   rw[wA,V5]
  rw[e];exact q⟩
theorem zAT(q:Q (.bl (!decide (m=n))) H):ee K (.int m) (.int n) H Q :=
 ⟨.int m,.int n,bS.mpr rfl,bS.mpr rfl,rfl,rfl,by
  have e:wA (.int m) (.int n)=decide (m=n):=by
   rw[wA,V5]
  rw[e];exact q⟩
theorem jZ{d e:wz}(h:Is K H v d)(k:Is K H w e)(sd:vU d=true)(se:vU e=true)(q:Q (.bl (wA d e)) H):cN K v w H Q:=⟨d,e,h,k,sd,se,q⟩
theorem kI{d e:wz}(h:Is K H v d)(k:Is K H w e)(sd:vU d=true)(se:vU e=true)(q:Q (.bl (!PyData.eqv d e)) H):ee K v w H Q:=⟨d,e,h,k,sd,se,q⟩
theorem B3{T:String}{d:wz}(h:Is K H v d)(e:wC K (.type (kindOf d)) (.type T)=some (isA T d))(q:Q (.bl (isA T d)) H):jf K [v,.ty T] H Q:=⟨v,T,d,_,rfl,h,e,q⟩
def gS:wz->Bool
 | .tuple _=>true
 | _=>false
def BM:wz->Bool
 | .int _=>true
 | .bool _=>true
 | _=>false
def Cd:wz->Bool
 | .bool _=>true
 | _=>false
def oS:wz->Bool
 | .list _=>true
 | _=>false
theorem NQ{d:wz} : gS d=true ↔ ∃ds,d=.tuple ds:=by cases d<;>simp[gS]
theorem Jo{d:wz}(h:Is K H v d)(q:Q (.bl (gS d)) H):jf K [v,.ty "tuple"] H Q:=B3 h (YF d) (by have e:isA "tuple" d=gS d:=(by cases d<;>rfl);rw[e];exact q)
theorem Td{d:wz}(h:Is K H v d)(q:Q (.bl (BM d)) H):jf K [v,.ty "int"] H Q:=B3 h (R5 d) (by have e:isA "int" d=BM d:=(by cases d<;>rfl);rw[e];exact q)
theorem ZV{d:wz}(h:Is K H v d)(q:Q (.bl (Cd d)) H):jf K [v,.ty "bool"] H Q:=B3 h (Ye d) (by have e:isA "bool" d=Cd d:=(by cases d<;>rfl);rw[e];exact q)
theorem ow{p:wg}{m:Int}(h:aU K H p xs)(e:gp xs m=some v)(q:Q v H):cK K (.ref p) (.int m) H Q:=.inr (.inl ⟨p,xs,m,v,rfl,rfl,h,e,q⟩)
theorem g6{p:wg}{m:Int}(h:aI K H p xs)(e:gp xs m=some v)(q:Q v H):cK K (.ref p) (.int m) H Q:=.inl ⟨p,xs,m,v,rfl,rfl,h,e,q⟩
theorem ZU{α : Type}{xs:List α}{m:Int}(h0:0<=m)(h1:m<xs.length):∃v,gp xs m=some v/\v∈xs:=by
 obtain⟨k,rfl⟩:∃k:Nat,m=(k:Int):=⟨m.toNat,by lia⟩;have l:k<xs.length:=by lia
 exact⟨xs[k],jR (by simp[l]),Wc l⟩
theorem B8{p:wg}{m:Int}(P:V->Prop)(h:aI K H p xs)(h0:0<=m)(h1:m<xs.length)(hP:∀x∈xs,P x)(q:∀x,P x->Q x H):cK K (.ref p) (.int m) H Q:=by
 obtain⟨x,e,hx⟩:=ZU h0 h1;exact g6 h e (q x (hP x hx))
theorem Um{r:Rat}(h:Is K H v (N r))(q:Q (.int r.num) H):cK K v (.int 0) H Q:=by
 obtain⟨a,rfl,h'⟩:=ny.mp h;exact ow h' rfl q
theorem zx9{r:Rat}(h:Is K H v (N r))(q:Q (.int (r.den:Int)) H):cK K v (.int 1) H Q:=by
 obtain⟨a,rfl,h'⟩:=ny.mp h;exact ow h' rfl q
theorem aG{ds:List wz}{d:wz}{j:Nat}(h:Is K H v (.tuple ds))(e:ds[j]? = some d)(q:∀x,Is K H x d->Q x H):cK K v (.int (j:Int)) H Q:=by
 obtain⟨a,xs,rfl,h,t⟩:=bV.mp h;obtain⟨x,e1,hx⟩:=t.get e;exact ow h (jR e1) (q x hx)
theorem nX{ds:List wz}(h:Is K H v (.tuple ds))(q:Q (.int ds.length) H):dg K [v] H Q:=by
 obtain⟨a,xs,rfl,h,t⟩:=bV.mp h;exact Kb h (by rw[t.length];exact q)
theorem LR{ds:List wz}{n:Nat}(h:Is K H v (.tuple ds))(e:ds.length=n)(q:∀xs,ao K H xs ds->gs xs σ H QS):gD K n gs v σ H QS:=by
 obtain⟨a,xs,rfl,h,t⟩:=bV.mp h;exact kU h (by rw[t.length];exact e) (q xs t)
theorem zvm{r:Rat}(h:Is K H v (N r))(q:gs [.int r.num,.int (r.den:Int)] σ H QS):gD K 2 gs v σ H QS:=by
 obtain⟨a,rfl,h'⟩:=ny.mp h;exact kU h' rfl q
-- new tuples and lists
theorem mR{α : Type}{l:List α}(h:l.length<=1000):l.length<=w8:=Vh (jB h)
theorem oJ(z:xs.length<=1000)(q:∀p H',H p=none->ah H H'->H' p=some (.tup xs)->Q (.ref p) H'):lh K xs H Q:=⟨mR z,λp hp=>q p _ hp (ah.upd hp) cO⟩
theorem d9(z:xs.length<=1000)(q:∀p H',H p=none->ah H H'->H' p=some (.lst xs)->Q (.ref p) H'):u3 K xs H Q:=⟨mR z,λp hp=>q p _ hp (ah.upd hp) cO⟩
theorem bX{ds:List wz}(z:xs.length<=1000)(h:ao K H xs ds)(q:∀v H',ah H H'->Is K H' v (.tuple ds)->Q v H'):lh K xs H Q :=
 oJ z λp H' _ s e=>q _ H' s (bV.mpr ⟨p,xs,rfl,.of e,ao.same s ds xs h⟩)
theorem fh{r:Rat}(e1:m=r.num)(e2:n=(r.den:Int))(q:∀v H',ah H H'->Is K H' v (N r)->Q v H'):lh K [.int m,.int n] H Q:=by
 subst e1 e2;exact oJ (by show 2<=1000;decide) λp H' _ s e=>q _ H' s (ny.mpr ⟨p,rfl,.of e⟩)
-- tests
theorem zyj{p:Prop}[Decidable p]{A B:Prop}(h1:p->A)(h2:¬ p->B):if decide p=true then A else B:=by
 by_cases h:p
 ·rw[decide_eq_true h,if_pos rfl];exact h1 h
 ·rw[decide_eq_false h,if_neg vj];exact h2 h
theorem zwR{p:Prop}[Decidable p]{A B:Prop}(h1:¬ p->A)(h2:p->B):if(!decide p)=true then A else B:=by
 by_cases h:p
 ·rw[decide_eq_true h];exact lP (h2 h)
 ·rw[decide_eq_false h];exact kP (h1 h)
theorem Ua{b:Bool}{A B:Prop}(h1:b=true->A)(h2:b=false->B):if b=true then A else B:=by
 cases b
 ·exact lP (h2 rfl)
 ·exact kP (h1 rfl)
theorem Zr{b:Bool}{A B:Prop}(h1:b=false->A)(h2:b=true->B):if(!b)=true then A else B:=by
 cases b
 ·exact kP (h1 rfl)
 ·exact lP (h2 rfl)
end
section
variable{c:TT}{tb:TS}{D:cj}{σ : St}{H:Hp}
def Mu(σ : St)(i:Nat):Int:=match σ[i]? with
 | some (some (.int y))=>y
 | _=>0
def OJ(Pv:St->Hp->Prop)(μ : St->Nat)(tb:TS)(D:cj)(σ':St)(H1:Hp):Prop :=
 ∃M:St->Hp->Prop,(∀σ2 H2,M σ2 H2->∃m',m' < μ σ'/\(m' = μ σ2/\Pv σ2 H2))/\tb {D with nx:=M,ct:=M,bk:=D.nx} σ' H1
theorem Mj(Pv:St->Hp->Prop)(μ : St->Nat)(h0:Pv σ H)
  (hs:∀σ' H',Pv σ' H'->c σ' H' λb H1=>if b=true then OJ Pv μ tb D σ' H1 else D.nx σ' H1):Bx c tb D σ H:=by
 refine⟨λm σ H=>m = μ σ /\ Pv σ H,⟨_,rfl,h0⟩,?_⟩;rintro m σ H ⟨rfl,p⟩;exact hs σ H p
theorem Mp{Pv:St->Hp->Prop}{μ : St->Nat}{σ':St}{H1:Hp}(h:tb {D with nx:=λσ2 H2=>μ σ2 < μ σ'/\Pv σ2 H2,ct:=λσ2 H2=>μ σ2 < μ σ'/\Pv σ2 H2,bk:=D.nx} σ' H1):OJ Pv μ tb D σ' H1 :=
 ⟨_,λσ2 H2 q=>⟨_,q.1,rfl,q.2⟩,h⟩
def DS(g:TG)(tb:TS)(D:cj)(σ : St)(vs:List V)(H1:Hp):Prop:=∃j:Int,vs=[.int j] /\ -(2^62)<=j/\j<2^62 /\
 ∃W:Nat->Nat->St->Hp->Prop,(∃m,W 0 m σ H1) /\ ∀i m σ H,W i m σ H ->
  ((fK 0 j.toNat).stop i H/\D.nx σ H)\/((fK 0 j.toNat).go i H /\ ∃M:St->Hp->Prop,(∀σ' H',M σ' H'->∃m',m'<m/\W (i+1) m' σ' H') /\ ∀x H',(fK 0 j.toNat).ft i H x H'->g x σ H' λσ2 H2=>tb {D with nx:=M,ct:=M,bk:=D.nx} σ2 H2)
theorem Ul{ta:TA}{g:TG}(h:ta σ H λvs H1=>DS g tb D σ vs H1):kZ (Bc ta) g tb D σ H:=h
theorem ng{g:TG}{n:Int}(h0 : -1000000000<=n)(h1:n<1000000000)(Pv:Nat->St->Hp->Prop)(p:Pv 0 σ H)
  (hs:∀(i:Nat) σ H,i<n.toNat->Pv i σ H->g (.int (i:Int)) σ H λσ2 H2=>tb {D with nx:=Pv (i+1),ct:=Pv (i+1),bk:=D.nx} σ2 H2)
  (hd:∀σ H,Pv n.toNat σ H->D.nx σ H):DS g tb D σ [.int n] H:=by
 refine⟨n,rfl,by lia,by lia,Ij (lo:=0) Pv p (λi σ H hi q=>?_) hd⟩;have e:(0:Int)+(i:Int)=(i:Int):=by lia
 rw[e];exact hs i σ H hi q
end
def B0(K:wb)(g:TG)(tb:TS)(D:cj)(σ : St)(x:V)(H1:Hp):Prop:=∃a,x=.ref a/\(∃xs,aI K H1 a xs) /\
 ∃W:Nat->Nat->St->Hp->Prop,(∃m,W 0 m σ H1) /\ ∀i m σ H,W i m σ H ->
  ((hW K a).stop i H/\D.nx σ H)\/((hW K a).go i H /\ ∃M:St->Hp->Prop,(∀σ' H',M σ' H'->∃m',m'<m/\W (i+1) m' σ' H') /\ ∀x H',(hW K a).ft i H x H'->g x σ H' λσ2 H2=>tb {D with nx:=M,ct:=M,bk:=D.nx} σ2 H2)
def CW(K:wb)(g:TG)(tb:TS)(D:cj)(σ : St)(x:V)(H1:Hp):Prop:=∃a,x=.ref a/\(∃xs,aU K H1 a xs) /\
 ∃W:Nat->Nat->St->Hp->Prop,(∃m,W 0 m σ H1) /\ ∀i m σ H,W i m σ H ->
  ((iV K a).stop i H/\D.nx σ H)\/((iV K a).go i H /\ ∃M:St->Hp->Prop,(∀σ' H',M σ' H'->∃m',m'<m/\W (i+1) m' σ' H') /\ ∀x H',(iV K a).ft i H x H'->g x σ H' λσ2 H2=>tb {D with nx:=M,ct:=M,bk:=D.nx} σ2 H2)
section
variable{K:wb}{te:TE}{g:TG}{tb:TS}{D:cj}{σ : St}{H:Hp}{a:wg}{xs:List V}
theorem Uq(h:te σ H λx H1=>B0 K g tb D σ x H1):kZ (sR K te) g tb D σ H:=h
theorem Ub(h:te σ H λx H1=>CW K g tb D σ x H1):kZ (DN K te) g tb D σ H:=h
theorem O3(hx:aI K H a xs)(Pv:Nat->St->Hp->Prop)(h0:Pv 0 σ H)(hl:∀i σ H,i<=xs.length->Pv i σ H->aI K H a xs)
  (hs:∀i x σ H,xs[i]? = some x->Pv i σ H->g x σ H λσ2 H2=>tb {D with nx:=Pv (i+1),ct:=Pv (i+1),bk:=D.nx} σ2 H2) (hd:∀σ H,Pv xs.length σ H->D.nx σ H):B0 K g tb D σ (.ref a) H :=
 ⟨a,rfl,⟨xs,hx⟩,zvH Pv h0 hl hs hd⟩
theorem CA(hx:aU K H a xs)(Pv:Nat->St->Hp->Prop)(h0:Pv 0 σ H)(hl:∀i σ H,i<=xs.length->Pv i σ H->aU K H a xs)
  (hs:∀i x σ H,xs[i]? = some x->Pv i σ H->g x σ H λσ2 H2=>tb {D with nx:=Pv (i+1),ct:=Pv (i+1),bk:=D.nx} σ2 H2) (hd:∀σ H,Pv xs.length σ H->D.nx σ H):CW K g tb D σ (.ref a) H :=
 ⟨a,rfl,⟨xs,hx⟩,zy9 Pv h0 hl hs hd⟩
end
theorem zBn{K:wb}{H:Hp}{a:wg}{xs:List V}(hO:yF H)(h:aI K H a xs):jy K H a xs:=by
 rcases h with(h | ⟨o,h⟩) | h
 ·rcases hO a with z | ⟨ob,ys,z⟩
  ·rw[h]at z;cases z
  ·rw[h]at z;cases z
 ·exact .inl ⟨o,h⟩
 ·exact .inr h
theorem LZ{K:wb}{H:Hp}{Q:VK}{a:wg}{ns:List Int}{m:Int}(h:jy K H a (ns.map V.int))(h0:0<=m)(h1:m<((ns.map V.int).length:Int))(q:∀z,Q (.int z) H):cK K (.ref a) (.int m) H Q:=by
 refine B8 (λv=>∃z,v=.int z) h.sq h0 h1 (λx hx=>?_) (λx hx=>?_)
 ·obtain⟨z,_,rfl⟩:=wY.mp hx
  exact⟨z,rfl⟩
 ·obtain⟨z,rfl⟩:=hx
  exact q z
section
variable{K:wb}{H H':Hp}{v:V}{d:wz}{a:wg}{xs:List V}{o:HO}
theorem ah.at(s:ah H H')(h:H a=some o):H' a=some o:=s _ _ h
theorem ah.back{H2:Hp}(b:ah H' H2)(s:ah H H'):ah H H2:=s.trans b
theorem br.back{H2:Hp}(b:br H' H2)(s:br H H'):br H H2:=s.trans b
theorem Is.by(s:ah H H')(h:Is K H v d):Is K H' v d:=Is.same s d v h
theorem Is.RW(h:Is K H v d)(s:ah H H'):Is K H' v d:=Is.same s d v h
theorem Is.fZ{r:Rat}(s:br H H')(h:Is K H v (N r)):Is K H' v (N r):=Is.keep s _ v (lF r) h
theorem Is.kn(s:br H H')(i:cB d=true)(h:Is K H v d):Is K H' v d:=Is.keep s _ v i h
end
def c8(X:Cx)(N':List Str)(scope:Scope)(cl:List (Str × wg))(C:wg)(s₀ : wl)(H₀ : Hp)(fp:List wg)(pins:List (wg × Obj)):Cx where
 prog:=X.prog
 w:=X.w
 K:=X.K
 mg:=X.mg
 base:=X.base
 A:=X.A
 N:=N'
 s₀:=s₀
 H₀:=H₀
 env:=compEnvC scope cl C X.env
 outer:=X.stack
 stack:=X.stack
 ex:=fp
 fn:=λ_=>false
 calm:=X.calm
 pn:=X.pn++pins
 xe:=λ_ _=>False
structure HX(X:Cx)(scope:Scope)(cl:List (Str × wg)):Prop where
 jv:closureFor scope X.env=pure cl
 sub:∀x c,cl.lookup x=some c->X.env.cells.lookup x=some c
 has:∀x,((relabel scope X.env).names.lookup x=some .cell\/(relabel scope X.env).names.lookup x=some .free)->∃c,cl.lookup x=some c
def dC(src:List (Option Nat))(σ : St):St:=src.map λo=>match o with
 | none=>none
 | some j=>(σ[j]?).join
def JQ(X:Cx)(N':List Str)(src:List (Option Nat)):Prop :=
 N'.length=src.length /\ ∀(i j:Nat)(x:Str),N'[i]? = some x->src[i]? = some (some j)->X.N[j]? = some x/\X.env.scope.names.lookup x=some .cell
section
variable{X:Cx}{pins:List (wg × Obj)}{σ : St}{H:Hp}{s:wl}{N':List Str}{scope:Scope}{cl:List (Str × wg)}{src:List (Option Nat)}{fp:List wg}
theorem Inv.block{h₁ : wM}{tk:Nat}(I:Inv X pins σ H s)(hk:scope.kind=.function)(cok:HX X scope cl)(sok:JQ X N' src)(hf:∀b∈fp,dX X pins H b)(hlt:∀b∈fp,b<s.heap.objs.size)
  (hns:h₁.Ns s.heap.objs.size λ_=>none) (old:∀b o,s.heap.get? b=some o->h₁.get? b=some o)
  (hvis:∀(i:Nat) x,N'[i]? = some x->src[i]? ≠ some none->(relabel scope X.env).names.lookup x=some .cell\/(relabel scope X.env).names.lookup x=some .free) :
  Inv (c8 X N' scope cl s.heap.objs.size s H fp pins) [] (dC src σ) H {s with heap:=h₁,toks:=tk}:=by
 have hfr:H s.heap.objs.size=none:=I.aE.fresh (wo _)
 have iT:∀x c,cl.lookup x=some c->c<s.heap.objs.size:=λx c e=>by
  obtain⟨v,q⟩:=I.cell x c (cok.sub x c e);exact q.lt
 have fplt:∀b∈fp,b ∉ c_ X.stack:=λb hb z=>by
  obtain⟨_,f1,f2,_⟩:=hf b hb;exact(wQ.mp (I.kK b z)).elim f1 f2
 refine⟨⟨I.ok.mod,?_,I.ok.glob,I.ok.blt,wo _,λx y c h1 h2=>?_,λx hx=>?_,λx c hx=>?_,I.ok.hd,I.ok.frames,.inl rfl,λb hb=>⟨?_,λx c e=>?_⟩,I.bs,Wd I.ok.gq I.sz,λb o e=>?_,fplt,I.stack,I.rB⟩,
  rfl,I.bare,Un.kept old,⟨_,hns,λi x v h1 h2 h3=>?_⟩,λx c e=>?_,hfr,λx c e=>?_,λp hp=>?_,I.aE.kept old,?_⟩
 ·show(relabel scope X.env).kind=.function
  exact hk
 ·exact I.ok.inj x y c (cok.sub x c h1) (cok.sub y c h2)
 ·exact cok.has x hx
 ·exact absurd (show false=true from hx) vj
 ·exact wL (hlt b hb)
 ·exact(hf b hb).2.2.2.2.1 x c (cok.sub x c e)
 ·intro hb
  obtain⟨_,_,_,f3,_⟩:=hf b hb;rcases f3 with z | z
  ·exact I.ok.ju b o e z
  ·exact absurd (wU (wy e) (Wd I.ok.gq z)) (Vq _)
 ·-- a name of the frame around
  have hsrc:∃j,src[i]? = some (some j) /\ σ[j]? = some (some v):=by
   unfold dC at h2;rw[wu]at h2;cases q:src[i]? with
   | none=>rw[q]at h2;cases h2
   | some o =>
    rw[q]at h2;cases o with
    | none=>cases h2
    | some j =>
     refine⟨j,rfl,?_⟩;have h2':(σ[j]?).join=some v:=wP h2;cases q2 : σ[j]? with
     | none=>rw[q2]at h2';cases h2'
     | some z=>rw[q2]at h2';exact congrArg some h2'
  obtain⟨j,hj,hv⟩:=hsrc;obtain⟨hN,hc⟩:=sok.2 i j x h1 hj;obtain⟨m,_,hl⟩:=I.loc;obtain⟨u,ru,lk⟩:=hl j x v hN hv (.inr (.inl hc));refine⟨u,ru,.inr ⟨hvis i x h1 (by rw[hj];intro z;cases z),?_⟩⟩;rcases lk with⟨k,_⟩ | ⟨_,c,ec,hcell⟩
  ·have k':X.env.scope.names.lookup x=some .local:=k
   rw[hc]at k';cases k'
  ·obtain⟨c',ec'⟩:=cok.has x (hvis i x h1 (by rw[hj];intro z;cases z))
   have:=cok.sub x c' ec';rw[ec]at this;cases this;obtain⟨o,ho,hd⟩:=hcell;exact⟨c,ec',o,old c o ho,hd⟩
 ·obtain⟨v,o,ho,hd⟩:=I.cell x c (cok.sub x c e)
  exact⟨v,o,old c o ho,hd⟩
 ·exact I.eW x c (cok.sub x c e)
 ·have hp':p∈(X.pn++pins)++[]:=hp
  rw[vY]at hp';obtain⟨e,n,ne,nf,d⟩:=I.pin p hp';refine⟨old _ _ e,n,wL (wy e),λz=>?_,d⟩;exact(wQ.mp (I.kK p.1 z)).elim ne nf
 ·show(dC src σ).length=N'.length
  unfold dC;rw[wm,sok.1]
end
def MH:TT:=λ_ H Q=>Q true H
def nu(X:Cx)(ifs:List Expr)(t:TT):Prop :=
 ∀(pins:List (wg × Obj))(s:wl)(σ : St)(H:Hp)(Q:Bool->Hp->Prop),Inv X pins σ H s->t σ H Q ->
  wq (model X.prog X.w) X.A (forIn ifs true λc r=>if r=true then do let ok <- isTrue c X.env (eval c X.env);pure (ForInStep.yield ok)else pure (ForInStep.yield r)) (TP X pins σ Q) X.xe s
theorem dE{X:Cx} : nu X [] MH:=λ_ _ _ H _ I h=>wpAny_tests_nil ⟨H,I,h⟩
theorem pH{X:Cx}{c:Expr}{t:TT}(hc:PT X c t):nu X [c] t:=λpins s σ H Q I h=>wpAny_tests_one (hc pins s σ H Q I h)
section
variable{prog:wO}{w:wR}{A:w6}{R:Result->wl->Prop}{s:wl}
theorem Y1{elt target iter:Expr}{ifs:List Expr}{scope:Scope}{pos:Pos}{it acc:wf}{env:Env}(I:Nat->wl->Prop)
   (turn:∀n s,I n s->wq (model prog w) A (W3 it) (λr s₁=>match r with
     | none=>R (.ok .next) s₁
     | some v=>wq (model prog w) A (qu target it v) (λ_ s₁'=>wq (model prog w) A (assign target env v) (λ_ s₂ =>
         wq (model prog w) A (forIn ifs true λc r=>if r=true then do let ok <- isTrue c env (eval c env);pure (ForInStep.yield ok)else pure (ForInStep.yield r)) (λok s₃ =>
           if ok=true then wq (model prog w) A (eval elt env) (λx s₄ =>
             wq (model prog w) A (call (.builtin "list.append") [acc,x]) (λ_ s₅=>∃m,m<n/\I m s₅) (λ_ _=>False) s₄) (λ_ _=>False) s₃
           else ∃m,m<n/\I m s₃) (λ_ _=>False) s₂) (λ_ _=>False) s₁') (λ_ _=>False) s₁) (λ_ _=>False) s)
   (n:Nat) (h:I n s):codeAny (model prog w) A (.compLoop (.ListComp elt [⟨target,iter,ifs,0⟩] scope pos) 0 it acc env) R s:=by
 refine codeAny_loop rfl I (λn s hI=>?_) n h
 show wq _ A ((compTurn (.ListComp elt [⟨target,iter,ifs,0⟩] scope pos) 0 it acc env).onRaise (λx=>do noteFrame x env;theTreesLotGoes x)) _ _ s
 refine wpAny_noted ?_;rw[compTurn_list];refine we (qh (we (Wr (turn n s hI) (λr s₁ h₁=>?_) λ_ _ h'=>h'.elim)));cases r with
 | none=>exact wp h₁
 | some v =>
   refine we (Wr h₁ (λ_ s₁' h₁'=>?_) λ_ _ h'=>h'.elim);refine we (Wr h₁' (λ_ s₂ h₂=>we (Wr h₂ (λok s₃ h₃=>?_) λ_ _ h'=>h'.elim)) λ_ _ h'=>h'.elim);cases ok with
   | false=>exact wp ⟨rfl,h₃⟩
   | true=>exact we (we (Wr h₃ (λx s₄ h₄=>we (Wr h₄ (λ_ s₅ h₅=>wp (wp ⟨rfl,h₅⟩)) λ_ _ h'=>h'.elim)) λ_ _ h'=>h'.elim))
end
def jJ(g:TG)(tt:TT)(te:TE)(J:It)(D:wg)(σ0:St)(H0:Hp)(Q:Hp->Prop):Prop :=
 ∃W:Nat->Nat->St->Hp->Prop,(∃m,W 0 m σ0 H0) /\ ∀i m σ' H',W i m σ' H' ->
  (J.stop i H'/\Q H')\/(J.go i H' /\ ∃M:St->Hp->Prop,(∀σ2 H2,M σ2 H2->∃m',m'<m/\W (i+1) m' σ2 H2) /\
   ∀x H2,J.ft i H' x H2->g x σ' H2 λσ3 H3=>tt σ3 H3 λok H4=>if ok=true then te σ3 H4 λy H5=>∃ys,H5 D=some (.lst ys)/\ys.length<w8/\M σ3 (upd H5 D (.lst (ys++[y])))else M σ3 H4)
def jd(src:List (Option Nat))(wi:TI)(g:TG)(tt:TT)(te:TE):TE:=λσ H Q=>wi σ H λJ H1=>∀D,H1 D=none->jJ g tt te J D (dC src σ) (upd H1 D (.lst [])) (λH'=>Q (.ref D) H')
structure sN(Y:Cx)(tg:Expr)(J:It)(fp:List wg)(it:wg)(tn:Nat->wM->Prop):Prop where
 item:∀(i:Nat)(pins:List (wg × Obj))(s:wl)(σ : St)(H:Hp)(E:wf->wl->Prop),Inv Y pins σ H s->(∀b∈fp,dX Y pins H b)->tn i s.heap->J.go i H ->
   wq (model Y.prog Y.w) Y.A (W3 (.ref it)) (λr s1=>∃u,r=some u/\wq (model Y.prog Y.w) Y.A (qu tg (.ref it) u) (λ_ s2=>∃x H',Inv Y pins σ H' s2/\aX x u/\J.ft i H x H'/\tn (i+1) s2.heap /\ ∀b∈fp,H' b=none) E s1) E s
 done:∀(i:Nat)(pins:List (wg × Obj))(s:wl)(σ : St)(H:Hp)(E:wf->wl->Prop),Inv Y pins σ H s->(∀b∈fp,dX Y pins H b)->tn i s.heap->J.stop i H ->
   wq (model Y.prog Y.w) Y.A (W3 (.ref it)) (λr s1=>r=none/\Inv Y pins σ H s1) E s
theorem ia.Nc{P:wO}{w:wR}{K:wb}{tg:Expr}{J:It}{fp:List wg}{it:wg}{tn:Nat->wM->Prop}(T:ia P w K tg J fp it tn){Y:Cx}(h1:Y.prog=P)(h2:Y.w=w)(h3:Y.K=K)(hc:Y.calm=true):sN Y tg J fp it tn:=by
 subst h1 h2 h3;exact⟨T.item Y rfl rfl rfl hc,T.done Y rfl rfl rfl hc⟩
section
variable{X:Cx}{pins:List (wg × Obj)}{σ : St}{H:Hp}{s:wl}{N':List Str}{scope:Scope}{cl:List (Str × wg)}{src:List (Option Nat)}{elt tgt iter:Expr}{ifs:List Expr}{pos:Pos}{wi:TI}{g:TG}{tt:TT}{te:TE}
structure cq(X:Cx)(N':List Str)(scope:Scope)(cl:List (Str × wg))(src:List (Option Nat)):Prop where
 kind:scope.kind=.function
 cell:∀y∈scope.names,y.2≠.cell
 names:∀y∈scope.names,y.2=.local->scope.names.lookup y.1=some .local
 jv:HX X scope cl
 R0:JQ X N' src
 Ac:∀(i:Nat) x,N'[i]? = some x->src[i]? ≠ some none->(relabel scope X.env).names.lookup x=some .cell\/(relabel scope X.env).names.lookup x=some .free
theorem An{it:wg}{fp:List wg}{tn:Nat->wM->Prop}{J:It}{RQ:wg->Hp->Prop}{E:wf->wl->Prop}{RR:wf->wg->Result->wl->Prop}
   (TC:∀C s₀ H₀,sN (c8 X N' scope cl C s₀ H₀ fp pins) tgt J fp it tn) (ok:cq X N' scope cl src)
   (hg:∀C s₀ H₀ fp pins,PG (c8 X N' scope cl C s₀ H₀ fp pins) tgt g) (ht:∀C s₀ H₀ fp pins,nu (c8 X N' scope cl C s₀ H₀ fp pins) ifs tt) (he:∀C s₀ H₀ fp pins,PE (c8 X N' scope cl C s₀ H₀ fp pins) elt te)
   (I:Inv X pins σ H s) (T:ia X.prog X.w X.K tgt J fp it tn) (st:tn 0 s.heap) (hf:∀b∈fp,dX X pins H b)
   (rd:∀D,H D=none->jJ g tt te J D (dC src σ) (upd H D (.lst [])) (λH'=>RQ D H'))
   (hRR:∀D C H' s' m,Inv X pins σ H' s'->s'.heap.Ns C m->dX X pins H' C->RQ D H'->RR (.ref D) C (.ok .next) s') :
   wq (model X.prog X.w) X.A (newList []) (λacc s₃=>wq (model X.prog X.w) X.A (newFunctionEnv scope X.env.globals cl [] X.env.qual none .none (some X.env)) (λcenv s₄ =>
     codeAny (model X.prog X.w) X.A (.compStart (.ListComp elt [⟨tgt,iter,ifs,0⟩] scope pos) 0 (.ref it) acc {cenv with scope:=relabel scope X.env}) (RR acc cenv.locals) s₄) E s₃) E s:=by
 -- the list
 refine Wo ?_ (by show 0<=w8;exact qi _);have hD:H s.heap.objs.size=none:=I.aE.fresh (wo _)
 have I3:Inv X pins σ (upd H s.heap.objs.size (.lst [])) {s with heap:=s.heap.push {cls:=.type "list",data:=.seq ([]:List wf).toArray}} :=
   I.z5 (ys:=[]) (its:=[]) (t':=s.toks) .nil (qi _)
 have old3:∀b o,s.heap.get? b=some o->(s.heap.push {cls:=.type "list",data:=.seq ([]:List wf).toArray}).get? b=some o:=λb o e=>wn _ e
 have lt0:∀b∈fp,b<s.heap.objs.size:=λb hb=>by
   obtain⟨o,e,_⟩:=T.obj 0 _ st b hb;exact wy e
 have hf3:∀b∈fp,dX X pins (upd H s.heap.objs.size (.lst [])) b:=λb hb=>⟨by rw[dY (wL (lt0 b hb))];exact(hf b hb).1,(hf b hb).2⟩
 have lt3:∀b∈fp,b<(s.heap.push {cls:=.type "list",data:=.seq ([]:List wf).toArray}).objs.size:=λb hb=>by
   rw[W9];exact Vx (lt0 b hb)
 have st3:tn 0 (s.heap.push {cls:=.type "list",data:=.seq ([]:List wf).toArray}):=T.keep _ _ _ st λb _ o e=>old3 b o e
 obtain⟨W,⟨m0,w0⟩,turn⟩:=rd _ hD;generalize hs3:({s with heap:=s.heap.push {cls:=.type "list",data:=.seq ([]:List wf).toArray}} : wl)=s3 at I3 ⊢;have hh3:s3.heap=s.heap.push {cls:=.type "list",data:=.seq ([]:List wf).toArray}:=by rw[<- hs3]
 rw[<- hh3]at lt3 st3;clear old3 hs3 hh3;generalize hD':s.heap.objs.size=D at *
 -- the block's dict
 refine wpAny_newFunctionEnv ok.cell (by intro y hy;cases hy) (λh₁ hns₁ hsb₁=>?_) ok.kind;have old:∀b o,s3.heap.get? b=some o->h₁.get? b=some o:=λb o e=>hsb₁.extBut b o (wL (wy e)) (wn _ e)
 have hC:dX X pins (upd H D (.lst [])) s3.heap.objs.size:=I3.iI (wo _) (I3.aE.fresh (wo _))
 have IB:∀tk,Inv (c8 X N' scope cl s3.heap.objs.size s3 (upd H D (.lst [])) fp pins) [] (dC src σ) (upd H D (.lst [])) {s3 with heap:=h₁,toks:=tk}:=λtk =>
   I3.block ok.kind ok.jv ok.R0 hf3 lt3 hns₁ old ok.Ac
 have stB:tn 0 h₁:=T.keep _ _ _ st3 λb _ o e=>old b o e
 -- what is true of the iterator's records within
 have stat:∀{H':Hp} ,(∀b∈fp,H' b=none)->∀b∈fp,dX (c8 X N' scope cl s3.heap.objs.size s3 (upd H D (.lst [])) fp pins) [] H' b:=λhn b hb=>by
   obtain⟨_,f1,f2,f3,f4,f5⟩:=hf3 b hb;refine⟨hn b hb,wL (lt3 b hb),λz=>(wQ.mp (I3.kK b z)).elim f1 f2,.inl hb,λx c e=>f4 x c (ok.jv.sub x c e),λp hp=>?_⟩;have hp':p∈(X.pn++pins)++[]:=hp;rw[vY]at hp';exact f5 p hp'
 -- from within back to the frame around
 have back:∀{σ':St}{H':Hp}{s':wl},Inv (c8 X N' scope cl s3.heap.objs.size s3 (upd H D (.lst [])) fp pins) [] σ' H' s'->Inv X pins σ H' s'/\(∃m,s'.heap.Ns s3.heap.objs.size m)/\dX X pins H' s3.heap.objs.size:=λ{σ' H' s'} J=>by
   obtain⟨m,hn,_⟩:=J.loc;refine⟨I3.Hc (ch:=fp) J.os J.base J.aE J.bare (λb hb=>?_),⟨m,hn⟩,⟨J.free,hC.2⟩⟩;obtain⟨_,f1,_,f3,f4,f5⟩:=hf3 b hb;exact⟨f3,f1,f4,f5⟩
 have loop:∀tk,codeAny (model X.prog X.w) X.A (.compLoop (.ListComp elt [⟨tgt,iter,ifs,0⟩] scope pos) 0 (.ref it) (.ref D) (compEnvC scope cl s3.heap.objs.size X.env)) (RR (.ref D) s3.heap.objs.size) {s3 with heap:=h₁,toks:=tk}:=by
   intro tk
   refine Y1 (λn s'=>∃i σ' H',Inv (c8 X N' scope cl s3.heap.objs.size s3 (upd H D (.lst [])) fp pins) [] σ' H' s'/\tn i s'.heap/\(∀b∈fp,H' b=none)/\W i n σ' H') ?_ m0
     ⟨0,_,_,IB tk,stB,λb hb=>(hf3 b hb).1,w0⟩
   rintro n s4 ⟨i,σ4,H4,I4,st4,fr4,w4⟩;rcases turn i n σ4 H4 w4 with⟨stop,q⟩ | ⟨go,M,hM,step⟩
   . refine aH ((TC _ _ _).done i [] s4 σ4 H4 (λ_ _=>False) I4 (stat fr4) st4 stop) λr s5 ⟨hr,I5⟩=>?_
     subst hr;obtain⟨J,⟨m,hn⟩,hCf⟩:=back I5;exact hRR D _ H4 s5 m J hn hCf q
   . refine aH ((TC _ _ _).item i [] s4 σ4 H4 (λ_ _=>False) I4 (stat fr4) st4 go) λr s5 ⟨u,hr,h5⟩=>?_
     subst hr;refine aH h5 λ_ s6 ⟨x,H6,I6,r6,y6,st6,fr6⟩=>?_
     have I6':=I6.pinned (stat fr6) (T.obj _ _ st6)
     have again:∀{σ7:St}{H7:Hp}{s7:wl},Inv (c8 X N' scope cl s3.heap.objs.size s3 (upd H D (.lst [])) fp pins) ([]++oY fp s6.heap) σ7 H7 s7->M σ7 H7 ->
         ∃m,m<n /\ ∃i σ' H',Inv (c8 X N' scope cl s3.heap.objs.size s3 (upd H D (.lst [])) fp pins) [] σ' H' s7/\tn i s7.heap/\(∀b∈fp,H' b=none)/\W i m σ' H':=λ{σ7 H7 s7} I7 n7=>by
       obtain⟨m',hm,w7⟩:=hM σ7 H7 n7;refine⟨m',hm,i+1,σ7,H7,I7.rz,T.keep _ _ _ st6 λb hb o e=>(I7.pin (b,o) (vO _ (vO _ (tK hb e)))).1,λb hb=>?_,w7⟩;obtain⟨o,e,d⟩:=T.obj _ _ st6 b hb;exact(I7.pin (b,o) (vO _ (vO _ (tK hb e)))).2.1
     refine aH (hg _ _ _ _ _ _ s6 σ4 H6 x u _ I6' r6 (step x H6 y6)) λ_ s7 ⟨σ7,H7,I7,q7⟩=>?_
     refine aH (ht _ _ _ _ _ _ s7 σ7 H7 _ I7 q7) λk s8 ⟨H8,I8,q8⟩=>?_
     cases k with
     | false=>exact again I8 q8
     | true =>
       rw[if_pos rfl]at q8 ⊢;refine aH (he _ _ _ _ _ _ s8 σ7 H8 _ I8 q8) λy s9 ⟨yv,H9,I9,r9,ys,hys,hz,q9⟩=>?_
       exact aH (jn _ s9 σ7 H9 (.ref D) [yv] (.ref D) [y] (λ_ H'=>M σ7 H') I9 rfl (.cons r9 .nil) ⟨D,ys,yv,rfl,rfl,hys,hz,q9⟩) λ_ s10 ⟨_,H10,I10,_,q10⟩=>again I10 q10
 exact codeAny_compStart_list (loop _) (T.self _ _ _ _ _ stB (loop _))
theorem dZ(hc:X.calm=true)(ok:cq X N' scope cl src)(hi:PI X tgt iter wi)
  (hg:∀C s₀ H₀ fp pins,PG (c8 X N' scope cl C s₀ H₀ fp pins) tgt g) (ht:∀C s₀ H₀ fp pins,nu (c8 X N' scope cl C s₀ H₀ fp pins) ifs tt) (he:∀C s₀ H₀ fp pins,PE (c8 X N' scope cl C s₀ H₀ fp pins) elt te)
  (hs:∀x,foldedSetIterable iter X.env x=pure x:=by intro _;rfl):PE X (.ListComp elt [⟨tgt,iter,ifs,0⟩] scope pos) (jd src wi g tt te):=by
 intro pins s σ H Q I h;rw[eval_ListComp];refine qI (use:=none) rfl hs ok.jv.jv ok.kind ok.names (aH (hi pins s σ H _ I h) λv s1 h1=>aH h1 λitv s2 h2=>?_);obtain⟨it,fp,tn,J,H2,e,I2,T,st2,f2,rd⟩:=h2;subst e;refine An (RQ:=λD H'=>Q (.ref D) H') (RR:=λacc C=>compPost (model X.prog X.w) X.A X.xe none (EP X pins σ Q) acc C) (λ_ _ _=>T.Nc rfl rfl rfl hc) ok hg ht he I2 T st2 f2 rd ?_;intro D C H' s' m J hn hC q;obtain⟨c0,c1,_,c3,c4,c5⟩:=hC;exact⟨m,hn,λh' sb=>⟨.ref D,H',J.turned (t':=s'.toks) (λb o hb e=>(sb.2 b hb).trans e) c0 c1 c3 c4 c5,rfl,q⟩⟩
theorem mO{i:Nat}{y:Str}{py spos:Pos}(hN:X.N.Nodup)(hy:X.N[i]? = some y)(hly:Loc X.env.scope y)(hc:X.calm=true)(ok:cq X N' scope cl src)(hi:PI X tgt iter wi)
  (hg:∀C s₀ H₀ fp pins,PG (c8 X N' scope cl C s₀ H₀ fp pins) tgt g) (ht:∀C s₀ H₀ fp pins,nu (c8 X N' scope cl C s₀ H₀ fp pins) ifs tt) (he:∀C s₀ H₀ fp pins,PE (c8 X N' scope cl C s₀ H₀ fp pins) elt te)
  (hsw:swapsWith (.ListComp elt [⟨tgt,iter,ifs,0⟩] scope pos) (some (.Name y py)) spos.line X.env=pure true:=by rfl)
  (hs:∀x,foldedSetIterable iter X.env x=pure x:=by intro _;rfl) (hf:X.fn y=true\/X.env.scope.names.lookup y=some .local:=by first | exact .inl rfl | exact .inr rfl | assumption) :
  PS X (.Assign [.Name y py] (.ListComp elt [⟨tgt,iter,ifs,0⟩] scope pos) spos) (j9 (jd src wi g tt te) (fI i)):=by
 intro pins s σ H D0 I h;rw[exec_Assign_Name_used _ _ _ _ hsw];refine we (qh (we ?_))
 show wq _ X.A (do let _ <- comprehension (.ListComp elt [⟨tgt,iter,ifs,0⟩] scope pos) scope X.env _ (newList []) false (eval iter X.env) (some (assign (.Name y py) X.env))) _ _ s
 refine we (Wr (qI (Q:=λ_ s'=>SP X pins D0 .next s') rfl hs ok.jv.jv ok.kind ok.names (aH (hi pins s σ H _ I h) λv s1 h1=>aH h1 λitv s2 h2=>?_))
  (λ_ s' hq=>wp (wp hq)) λ_ _ e=>e)
 obtain⟨it,fp,tn,J,H2,e,I2,T,st2,f2,rd⟩:=h2;subst e;refine An (RQ:=λD H'=>fI i (.ref D) σ H' D0.nx) (RR:=λacc C=>compPost (model X.prog X.w) X.A X.xe (some (assign (.Name y py) X.env)) (λ_ s'=>SP X pins D0 .next s') acc C) (λ_ _ _=>T.Nc rfl rfl rfl hc) ok hg ht he I2 T st2 f2 rd ?_;intro D C H' s' m J hn hC q;obtain⟨c0,c1,_,c3,c4,c5⟩:=hC
 show wq _ _ (assign (.Name y py) X.env (.ref D)) _ _ s'
 refine wpAny_assign_Name (Cy J hN hy hly (v:=.ref D) rfl (λs'' J2 ⟨a,sb,ha⟩=>?_) hf)
 have hCa:C≠a:=by
  rcases ha with z | z
  ·rw[z];exact c1
  ·exact(c4 y a z).symm
 exact⟨m,hn.sameBut sb hCa,λh' sb'=>⟨_,H',J2.turned (t':=s''.toks) (λb o hb e=>(sb'.2 b hb).trans e) c0 c1 c3 c4 c5,q⟩⟩
end
abbrev OZ(h B:wM)(e:wg)(cls:wf):Prop :=
 ∃oe vs,h.get? e=some oe/\oe.cls=cls/\oe.data=.fields vs/\vs[1]? = some .none/\vs[2]? = some .none/\oe.dict=none/\B.get? e=none
abbrev Nd(h B:wM)(e:wg)(cls fl:wf):Prop :=
 ∃oe vs T oT ts,h.get? e=some oe/\oe.cls=cls/\oe.data=.fields vs/\vs[1]? = some (.ref T)/\vs[2]? = some .none/\oe.dict=none/\B.get? e=none/\B.get? T=none/\T≠e/\h.get? T=some oT/\oT.data=.fields ts/\ts[3]? = some fl
structure eU(B:wM)(l:List Env)(e:wg)(cls fl:wf)(h:wM):Prop where
 st:B.StaysIn h
 fr:h.FunFrames B l
 tr:Nd h B e cls fl
theorem zp7{f:Array wf->Array wf}(o:Obj):(qg f o).dict=o.dict:=by
 obtain⟨c,d,dt,sl⟩:=o;cases dt<;>rfl
theorem lI{h:wM}{T:wg}{f:Obj->Obj}{b:wg}(n:b≠T):(h.update T f).get? b=h.get? b:=Ws _ _ (We n)
theorem mQ{h:wM}{T b:wg}{oT o:Obj}{ts:Array wf}(hT:h.get? T=some oT)(dT:oT.data=.fields ts)(hb:h.get? b=some o)(hn:∀vs,o.data≠.fields vs):b≠T:=by
 rintro rfl;rw[hT]at hb;cases hb;exact hn _ dT
theorem Ci{B:wM}{T b:wg}{o:Obj}(n:B.get? T=none)(q:B.get? b=some o):b≠T:=by
 rintro rfl;rw[n]at q;cases q
section
variable{M:Model}{A:w6}{E:wf->wl->Prop}{s:wl}{B:wM}{l outer:List Env}{env:Env}{L e:wg}{cls fl:wf}{Q:Unit->wl->Prop}
theorem eU.land(F:eU B l e cls fl s.heap)(k:∀h',eU B l e cls .none h'->s.heap.UpToSlots h'->Q () {s with heap:=h'}):wq M A (setFlight (.ref e) none) Q E s:=by
 obtain⟨st,fr,oe,vs,T,oT,ts,he,hc,hd,h1,h2,hdi,be,bT,ne,hT,dT,h3⟩:=F;have sz:3<ts.size:=(WM.mp h3).1;unfold setFlight;refine we (vg he hd h1 ?_);rw[if_pos (by simp)];have at3:∀b,b≠T->(s.heap.update T (qg (·.setIfInBounds 3 Value.none))).get? b=s.heap.get? b:=λb n=>lI n
 have tr:Nd (s.heap.update T (qg (·.setIfInBounds 3 Value.none))) B e cls .none :=
  ⟨oe,vs,T,qg (·.setIfInBounds 3 Value.none) oT,ts.setIfInBounds 3 Value.none,(at3 e ne.symm).trans he,hc,hd,h1,h2,hdi,be,bT,ne,
   Vl _ hT (V6 (VU dT _)),VU dT _,by simp[sz]⟩
 refine Vc hT dT sz (k _ ⟨λb o q=>(at3 b (Ci bT q)).trans (st b o q),fr.of_keeps λb o hb hn=>⟨o,(at3 b (mQ hT dT hb hn)).trans hb,rfl⟩,tr⟩ λb o hb hn=>⟨o.slots,(at3 b (mQ hT dT hb hn)).trans hb⟩)
theorem OI{oe:Obj}{vs:Array wf}{head:wf}{had:Bool}(hfr:A.frames=some (env::outer))(hf:env.frame=some L)(st:B.StaysIn s.heap)(fr:s.heap.FunFrames B (env::outer))(he:s.heap.get? e=some oe)
  (hd:oe.data=.fields vs) (sz:1<vs.size) (h2:vs[2]? = some .none) (hdi:oe.dict=none) (be:B.get? e=none) (k:∀h',eU B (env::outer) e oe.cls (Vz L) h'->s.heap.UpToSlots h'->Q () {s with heap:=h'}) :
  wq M A (do let a <- frameOf env;let pl <- entryPlaceOf L had;let b <- xF head a .none (Vz L) .none pl;setField (.ref e) 1 b) Q E s:=by
 have nfr:e ∉ (env::outer).filterMap (·.frame):=λz=>by
  obtain⟨_,o,ho,hnf⟩:=fr.mem z;rw[he]at ho;cases ho;exact hnf vs hd
 refine we (wpAny_frameOf_fun hfr fr hf λg sg=>we (wpAny_entryPlaceOf λpl hpl=>?_));unfold xF newFields;refine we (Wo ?_ (hpl.sizeOk5 _ _ _ _ _));have eg:g.get? e=some oe:=(sg.2.1 e nfr).trans he
 have stg:B.StaysIn g:=λb o q=>by
  rw[sg.2.1 b λz=>?_]
  ·exact st b o q
  ·rw[(fr.mem z).1]at q;cases q
 generalize hob:({cls:=.type "traceback",data:=.fields ([head,.ref L,.none,Vz L,.none]++(if pl.isEmpty then w9 6 Value.none else pl)).toArray} : Obj)=tb;have dtb:tb.data=.fields ([head,.ref L,.none,Vz L,.none]++(if pl.isEmpty then w9 6 Value.none else pl)).toArray:=by rw[<- hob]
 have ftb:tb.isFreed=false:=V6 dtb;have e2:=wn (h:=g) tb eg;have neT:g.objs.size≠e:=vi (wy eg)
 have at3:∀b o,b≠e->g.get? b=some o->((g.push tb).update e (qg (·.setIfInBounds 1 (.ref g.objs.size)))).get? b=some o:=λb o n q=>by
  rw[lI n];exact wn _ q
 refine Vc e2 hd sz (k _ ?_ ?_)
 ·have d3:=VU hd (·.setIfInBounds 1 (Value.ref g.objs.size))
  refine⟨λb o q=>at3 b o (Ci be q) (stg b o q),fr.of_keeps λb o hb hn=>?_,_,_,g.objs.size,tb,_,Vl _ e2 (V6 d3),Xi _ _,d3,by simp[sz],?_,?_,be,stg.fresh,neT,?_,dtb,?_⟩
  ·obtain⟨sl,q⟩:=sg.2.2 b o hb
   exact⟨_,at3 b _ (mQ he hd hb hn) q,rfl⟩
  ·rw[Array.getElem?_setIfInBounds_ne (by decide)];exact h2
  ·exact(zp7 oe).trans hdi
  ·rw[lI neT];exact wN _ ftb
  ·first | (simp;done) | (rcases hpl with rfl | ⟨_,_,_,_,_,_,_,rfl⟩<;>simp)
 ·exact λb o hb hn=>by
   obtain⟨sl,q⟩:=sg.2.2 b o hb;exact⟨sl,at3 b _ (mQ he hd hb hn) q⟩
theorem Z6(hfr:A.frames=some (env::outer))(hf:env.frame=some L)(st:B.StaysIn s.heap)(fr:s.heap.FunFrames B (env::outer))(t:OZ s.heap B e cls)
  (k:∀h',eU B (env::outer) e cls (Vz L) h'->s.heap.UpToSlots h'->Q () {s with heap:=h'}):wq M A (noteFrame (.ref e) env) Q E s:=by
 obtain⟨oe,vs,he,hc,hd,h1,h2,hdi,be⟩:=t;subst hc;unfold noteFrame;simp only[hf];refine we (vg he hd h1 ?_);rw[if_neg (by decide)];exact OI hfr hf st fr he hd (WM.mp h1).1 h2 hdi be k
theorem eU.note(F:eU B (env::outer) e cls .none s.heap)(hfr:A.frames=some (env::outer))(hf:env.frame=some L)
  (k:∀h',eU B (env::outer) e cls (Vz L) h'->s.heap.UpToSlots h'->Q () {s with heap:=h'}):wq M A (noteFrame (.ref e) env) Q E s:=by
 obtain⟨st,fr,oe,vs,T,oT,ts,he,hc,hd,h1,h2,hdi,be,bT,ne,hT,dT,h3⟩:=F;subst hc;unfold noteFrame;simp only[hf];refine we (vg he hd h1 ?_);rw[if_pos (by simp)];refine we (vg hT dT h3 ?_);rw[if_neg (by simp[Vz])];refine we (Vc hT dT (WM.mp h3).1 ?_);refine OI hfr hf (λb o q=>?_) (fr.of_keeps λb o hb hn=>⟨o,?_,rfl⟩) ?_ hd (WM.mp h1).1 h2 hdi be λh' F' sm=>k h' F' λb o hb hn=>sm b o ?_ hn
 ·show(VZ _ _ _).get? b=_
  rw[lI (Ci bT q)];exact st b o q
 ·show(VZ _ _ _).get? b=_
  rw[lI (mQ hT dT hb hn)];exact hb
 ·show(VZ _ _ _).get? e=_
  rw[lI ne.symm];exact he
 ·show(VZ _ _ _).get? b=_
  rw[lI (mQ hT dT hb hn)];exact hb
theorem UL(hfr:A.frames=some (env::outer))(hf:env.frame=some L)(st:B.StaysIn s.heap)(fr:s.heap.FunFrames B (env::outer))(t:OZ s.heap B e cls)
  (k:∀h',eU B outer e cls .none h'->s.heap.UpToSlots h'->Q () {s with heap:=h'}):wq M A (leaving env (.ref e)) Q E s:=by
 unfold leaving;refine we (Z6 hfr hf st fr t λh1 F1 s1=>eU.land F1 λh2 F2 s2=>k h2 ⟨F2.st,F2.fr.2.2,F2.tr⟩ (s1.trans s2))
theorem eU.leave(F:eU B (env::outer) e cls .none s.heap)(hfr:A.frames=some (env::outer))(hf:env.frame=some L)
  (k:∀h',eU B outer e cls .none h'->s.heap.UpToSlots h'->Q () {s with heap:=h'}):wq M A (leaving env (.ref e)) Q E s:=by
 unfold leaving;refine we (F.note hfr hf λh1 F1 s1=>eU.land F1 λh2 F2 s2=>k h2 ⟨F2.st,F2.fr.2.2,F2.tr⟩ (s1.trans s2))
end
theorem dq.there{P:wO}{w:wR}{H:Hp}{h:wM}{a:wg}{o:HO}(x:dq P w H h a o):∃u,h.get? a=some u:=by
 cases o with
 | lst xs=>obtain⟨_,_,_,_,e⟩:=x;exact⟨_,e⟩
 | tup xs=>obtain⟨_,_,_,_,e,_⟩:=x;exact⟨_,e⟩
 | dK kvs=>obtain⟨_,_,_,_,o,_,_,e,_⟩:=x;exact⟨_,e⟩
 | dT kvs=>obtain⟨_,_,_,_,o,_,_,e,_⟩:=x;exact⟨_,e⟩
 | set S n=>obtain⟨o,_,_,_,e,_⟩:=x;exact⟨_,e⟩
 | ins C dx fs=>obtain⟨_,_,_,e,_⟩:=x;exact⟨_,e⟩
 | own y=>exact x
 | xd fs=>obtain⟨_,⟨_,_,_,e,_⟩,_⟩:=x;exact⟨_,e⟩
 | zy lo hi=>obtain⟨_,_,_,e⟩:=x;exact⟨_,e⟩
 | eX ob u=>obtain⟨e,_⟩:=x;exact⟨_,e⟩
 | kq ps=>exact⟨_,x⟩
 | met f y=>exact⟨_,x⟩
 | ext φ=>obtain⟨_,e,_⟩:=x;exact e
structure mn(B:wM)(fs:List wg)(H H':Hp)(h:wM):Prop where
 gT:∀a o,H' a=some o->∃u,B.get? a=some u
 old:∀b o,h.get? b=some o->H b=none->b ∉ fs->B.get? b=some o
 oP:∀b o,h.get? b=some o->b ∉ fs->∃u,B.get? b=some u
def eI(P:wO)(w:wR):fv:=λouter H s E e s'=>∃(ex:wg)(C:wf)(H':Hp)(B:wM),e=.ref ex/\s'.os=s.os/\AllBare s'.gens/\Un (c_ outer) [] H H' s.heap s'.heap/\cT P w H' s'.heap /\
 eU B outer ex C .none s'.heap/\mn B (c_ outer) H H' s.heap/\E C none H'
section
variable{B h h1 h':wM}{fs:List wg}{H H':Hp}{P:wO}{w:wR}
theorem mn.un(ov:mn B fs H H' h)(un:Un fs [] H H' h h1)(hfs:∀b∈fs,H b=none /\ ∃o,h.get? b=some o /\ ∀vs,o.data≠.fields vs)(st:B.StaysIn h')(sm:h1.UpToSlots h'):Un fs [] H H' h h':=by
 have slot:∀b o,h.get? b=some o->b∈fs->∃sl,h'.get? b=some {o with slots:=sl}:=λb o e hb=>by
  obtain⟨n,o',ho',nr⟩:=hfs b hb;rw[e]at ho';cases ho';obtain⟨sl,e1⟩:=un.any e n (by simp);obtain⟨sl2,e2⟩:=sm b _ e1 nr;exact⟨sl2,e2⟩
 refine⟨λb o e n nf _=>st b o (ov.old b o e n nf),λb o e _ hb _=>slot b o e hb,un.free,λb o e _=>?_,un.gx,un.fT,un.gy⟩
 by_cases hb:b∈fs
 ·obtain⟨sl,e1⟩:=slot b o e hb
  exact⟨_,e1⟩
 ·obtain⟨u,e1⟩:=ov.oP b o e hb
  exact⟨u,st b u e1⟩
theorem mn.aE(ov:mn B fs H H' h)(aE:cT P w H' h1)(st1:B.StaysIn h1)(st:B.StaysIn h'):cT P w H' h':=λa o e=>by
 refine(aE a o e).jw (λb u hb r=>?_) (λ_ z=>z) λ_ _ z=>z
 have:∃v,B.get? b=some v:=by
  rcases hb with rfl | hb
  ·exact ov.gT _ _ e
  ·exact ov.gT _ _ hb
 obtain⟨v,ev⟩:=this;have e2:=st1 b v ev;rw[r]at e2;cases e2;exact st b u ev
end
section
variable{X:Cx}{pins:List (wg × Obj)}{σ : St}{H H':Hp}{s s':wl}{B:wM}{ex:wg}{C:wf}{E:XK}{E':wf->wl->Prop}
theorem IZ(I:Inv X pins σ H s)(hx:X.ex=[])(os:s'.os=s.os)(bare:AllBare s'.gens)(un:Un (c_ X.stack) [] H H' s.heap s'.heap)(aE:cT X.prog X.w H' s'.heap)(stB:B.StaysIn s'.heap)(ov:mn B (c_ X.stack) H H' s.heap)
  (q:E C none H') (fly:∀(Q:Unit->wl->Prop),(∀h',eU B X.outer ex C .none h'->s'.heap.UpToSlots h'->Q () {s' with heap:=h'})->wq (model X.prog X.w) X.A (leaving X.env (.ref ex)) Q E' s') :
  wq (model X.prog X.w) X.A (leaving X.env (.ref ex)) (λ_ s''=>eI X.prog X.w X.outer X.H₀ X.s₀ E (.ref ex) s'') E' s':=by
 have base:Un X.fs [] X.H₀ H X.s₀.heap s.heap:=by have:=I.base;rwa[hx]at this
 have nL:∀b o,X.s₀.heap.get? b=some o->b ∉ X.fs->b ∉ c_ X.stack:=λb o e n z=>by
  rcases wQ.mp (I.kK b z)with r | r
  ·exact wL (wU (wy e) I.ok.above) r
  ·exact n r
 have old:∀b o,X.s₀.heap.get? b=some o->X.H₀ b=none->b ∉ X.fs->B.get? b=some o:=λb o e n nf =>
  ov.old b o (base.keep b o e n nf (by simp)) (base.free b o e n (by simp)) (nL b o e nf)
 have oP:∀b o,X.s₀.heap.get? b=some o->b ∉ X.fs->∃u,B.get? b=some u:=λb o e nf=>by
  obtain⟨o',e1⟩:=base.there b o e (by simp);exact ov.oP b o' e1 (nL b o e nf)
 refine fly _ λh' F sm=>⟨ex,C,H',B,rfl,os.trans I.os,bare,⟨λb o e n nf _=>F.st b o (old b o e n nf),λb o e n hb _=>?_,λb o e n _=>?_,λb o e _=>?_,λb xs e=>un.gx b xs (base.gx b xs e),
  λb o u e=>un.fT b o u (base.fT b o u e),λb ps e=>?_⟩,λa o e=>?_,F,⟨ov.gT,old,oP⟩,q⟩
 ·obtain⟨sl,e1⟩:=base.slot b o e n hb (by simp)
  obtain⟨sl',e2⟩:=un.any e1 (base.free b o e n (by simp)) (by simp);obtain⟨_,o',ho',nr⟩:=I.ok.d7.mem hb;rw[e]at ho';cases ho';obtain⟨sl2,e3⟩:=sm b _ e2 nr;exact⟨sl2,e3⟩
 ·obtain⟨o',e1⟩:=base.there b o e (by simp)
  exact un.free b o' e1 (base.free b o e n (by simp)) (by simp)
 ·by_cases hb:b∈X.fs
  ·obtain⟨_,o',ho',nr⟩:=I.ok.d7.mem hb
   rw[e]at ho';cases ho';have n:X.H₀ b=none:=I.ok.gI b hb;obtain⟨sl,e1⟩:=base.slot b o e n hb (by simp);obtain⟨sl',e2⟩:=un.any e1 (base.free b o e n (by simp)) (by simp);obtain⟨sl2,e3⟩:=sm b _ e2 nr;exact⟨_,e3⟩
  ·obtain⟨u,e1⟩:=oP b o e hb
   exact⟨u,F.st b u e1⟩
 ·obtain⟨m1,e1⟩:=base.gy b ps e
  obtain⟨m2,e2⟩:=un.gy b _ e1;exact⟨m1++m2,by rw[e2,xO]⟩
 ·refine(aE a o e).jw (λb u hb r=>?_) (λ_ z=>z) λ_ _ z=>z
  have:∃v,B.get? b=some v:=by
   rcases hb with rfl | hb
   ·exact ov.gT _ _ e
   ·exact ov.gT _ _ hb
  obtain⟨v,ev⟩:=this;have e2:=stB b v ev;rw[r]at e2;cases e2;exact F.st b u ev
theorem SY{e:wf}(I:Inv X pins σ H s)(hx:X.ex=[])(hs:X.stack=X.env::X.outer)(hf:X.env.frame=some X.env.locals)(h:eI X.prog X.w X.stack H s E e s') :
  wq (model X.prog X.w) X.A (leaving X.env e) (λ_ s''=>eI X.prog X.w X.outer X.H₀ X.s₀ E e s'') E' s':=by
 obtain⟨ex,C,H',B,rfl,os,bare,un,aE,F,ov,q⟩:=h;rw[hs]at F;exact IZ I hx os bare un aE F.st ov q λQ k=>F.leave (I.ok.frames.trans (congrArg some hs)) hf k
theorem zsF{h':wM}{vs:List wf}(I:Inv X pins σ H s)(hx:X.ex=[])(hs:X.stack=X.env::X.outer)(hf:X.env.frame=some X.env.locals)(m:X8 s.heap h' ex C vs)(q:E C none H) :
  wq (model X.prog X.w) X.A (leaving X.env (.ref ex)) (λ_ s''=>eI X.prog X.w X.outer X.H₀ X.s₀ E (.ref ex) s'') E' {s with heap:=h'}:=by
 obtain⟨B,hB⟩:∃B,B=XN s.heap (c_ X.stack):=⟨_,rfl⟩;have hin:∀env∈X.stack,∀b,env.frame=some b->b∈c_ X.stack:=λenv he b hb=>Qi.mpr ⟨env,he,hb⟩
 have frB:s.heap.FunFrames B X.stack:=by rw[hB];exact PySem.W.funFrames_hide I.stack hin
 have getB:∀{b o},s.heap.get? b=some o->b ∉ c_ X.stack->B.get? b=some o:=λe n=>by rw[hB];exact xC _ e n
 have ofB:∀{b o},B.get? b=some o->s.heap.get? b=some o:=λr=>by rw[hB]at r;exact xN _ r
 have nfr:∀a o,H a=some o->a ∉ c_ X.stack:=λa o e z=>by
  have:=I.rB a z;rw[e]at this;cases this
 obtain⟨t,he,_,_⟩:=m.there
 refine IZ (B:=B) (s':={s with heap:=h'}) I hx rfl I.bare (Un.kept m.keeps) (I.aE.kept m.keeps) (λb o r=>m.keeps b o (ofB r))
  ⟨λa o e=>?_,λb o e _ nf=>getB e nf,λb o e nf=>⟨o,getB e nf⟩⟩ q λQ k=>?_
 ·obtain⟨u,e1⟩:=(I.aE a o e).there
  exact⟨u,getB e1 (nfr a o e)⟩
 ·rw[hs]at frB
  refine UL (s:={s with heap:=h'}) (I.ok.frames.trans (congrArg some hs)) hf (λb o r=>m.keeps b o (ofB r)) (frB.of_keeps λb o hb _=>⟨o,m.keeps b o hb,rfl⟩) ⟨_,_,he,rfl,rfl,rfl,rfl,rfl,?_⟩ k;cases z:B.get? ex with
  | none=>rfl
  | some o =>
   have:=ofB z;rw[m.new]at this;cases this
end
theorem uG{P:wO}{w:wR}{K:wb}{mg:Str->Option wf}{base:wM}{N:List Str}{qual:Str}{scope:Scope}{f:wg}{cd:wf}{A:w6}{outer:List Env}{s:wl}{H:Hp}{E:XK} :
  nE (eI P w) (gu (eI P w) P w K mg base N qual scope f cd A outer s H E) E:=λpins σ H1 s1 e s' I h=>SY I rfl rfl rfl h
def JW(X:Cx)(C:wf)(E:XK):Prop:=∀(pins:List (wg × Obj))(σ : St)(H:Hp)(s:wl)(h':wM)(ex:wg)(vs:List wf),Inv X pins σ H s->X8 s.heap h' ex C vs->E C none H->X.xe (.ref ex) {s with heap:=h'}
theorem N_{P:wO}{w:wR}{K:wb}{mg:Str->Option wf}{base:wM}{N:List Str}{qual:Str}{scope:Scope}{f:wg}{cd C:wf}{A:w6}{outer:List Env}{s:wl}{H:Hp}{E:XK} :
  JW (gu (eI P w) P w K mg base N qual scope f cd A outer s H E) C E:=λpins σ H1 s1 h' ex vs I m q=>zsF I rfl rfl rfl m q
def pI:List wf:=[.type "ValueError",.type "Exception",.type "BaseException",.type "object"]
theorem YJ{K:wb}{h:wM}{C:wg}{bmB:List wf}{newId:String}(X:K.In h)(q:VP K C bmB newId=true) :
  ∃bm N nm qn bs hd sn sub ab col dd k0 k1 k2 k3 k5 mN,h.get? C=some (excClassObj nm qn C N bs bm hd sn sub ab col dd k0 k1 k2 k3 k5 newId)/\h.Ns N mN/\mN "__init__"=none/\OwnTail h bmB bm:=by
 unfold VP at q
 split at q
 case h_2=>cases q
 rename_i dd cd sl ho
 split at q
 case h_2=>cases q
 rename_i C' bm k0 k1 k2 k3 n k5 hm hs;simp only[wV,beq_iff_eq,WW]at q;obtain⟨⟨⟨⟨⟨rfl,rfl⟩,hdel⟩,ht⟩,aE⟩,hni⟩:=q;obtain⟨nm,bs,mro,ns,qn,hd,sn,sub,ab,col,del⟩:=cd;dsimp only at hm hdel aE hni;subst hm hdel
 have e:sl = #[k0,k1,k2,k3,some (.builtin n),k5]:=by
  cases sl;simp only at hs;rw[hs]
 subst e;exact⟨bm,ns,nm,qn,bs,hd,sn,sub,ab,col,dd,k0,k1,k2,k3,k5,_,X _ _ ho,.of_isNs (PySem.W.isNs_of_in X aE),PySem.W.nsMap_none_of_in X aE hni,PySem.W.tail_of_in X ht⟩
section
variable{X:Cx}{x:Str}{C:wg}{E:XK}{e:Expr}{es:List Expr}{t:TA}{np cpos pos:Pos}
def L9(C:wf)(E:XK)(t:TA):TS:=λ_ σ H=>t σ H λvs H1=>vs.length<=w8/\E C none H1
theorem LV(q:VP X.K C pI "ValueError.__new__"=true)(hc:X.calm=true)(hg:Gl X x)(hm:X.mg x=some (.ref C))(Z:JW X (.ref C) E)(ha:PA X (e::es) t)(hdb:(x == ("__debug__" : Str))=false:=by decide)
  (he:w5 (e::es) X.env=(false,eval e X.env)::w5 es X.env:=by rfl) (hpl:(WV cpos (w5 es X.env)).any (·.1)=false:=by rfl) :
  PS X (.Raise (some (.Call (.Name x np) (e::es) [] cpos)) none pos) (L9 (.ref C) E t):=by
 intro pins s σ H D I h;obtain⟨bm,N,nm,qn,bs,hd,sn,sub,ab,col,dd,k0,k1,k2,k3,k5,mN,hC,hN,hni,T⟩:=YJ I.ok.mod.lq q
 refine wpAny_Raise_call_subU (C:=C) (nm:=nm) (q:=qn) (N:=N) (bs:=bs) (bm:=bm) (hdct:=hd) (sn:=sn) (sub:=sub) (ab:=ab) (col:=col) (dd:=dd) (k0:=k0) (k1:=k1) (k2:=k2) (k3:=k3) (k5:=k5)
  xr (by decide) xr (mN:=mN) (T.hasType (by decide)) (I.ok.hd hc) (by rw[he];show(false || (WV cpos (w5 es X.env)).any (·.1))=false;rw[hpl];rfl) hni (mz I hg hm ⟨rfl,?_⟩ hdb)
 have ha':=ha cpos pins s σ H _ I h;rw[he]at ha' ⊢;refine xn (Wr ha' (λus s2 ⟨vs,H2,I2,r,z,q2⟩=>⟨rfl,by rw[<- r.length];exact z,I2.bk _ _ hC,hN.keeps I2.bk,T.keeps I2.bk,λh' ex m=>Z pins σ H2 s2 h' ex us I2 m q2⟩) λ_ _ y=>y)
end
abbrev Cx.at(X:Cx)(pn:List (wg × Obj))(E:wf->wl->Prop):Cx:={X with pn:=pn,xe:=E}
abbrev Cx.nM(X:Cx)(pn:List (wg × Obj))(ex:wg)(oe:Obj):Cx:={X with pn:=pn++[(ex,oe)],xe:=λ_ _=>False,A:=X.A.mark (some (.ref ex)),calm:=false}
section
variable{X:Cx}{pins pins':List (wg × Obj)}{σ : St}{H:Hp}{s:wl}{ex:wg}{oe:Obj}
theorem Inv.RZ(I:Inv X pins σ H s)(E:wf->wl->Prop):Inv (X.at (X.pn++pins) E) [] σ H s :=
 ⟨⟨I.ok.mod,I.ok.kind,I.ok.glob,I.ok.blt,I.ok.above,I.ok.inj,I.ok.has,I.ok.jT,I.ok.hd,I.ok.frames,I.ok.kj,I.ok.nA,I.ok.bs,I.ok.gq,I.ok.ju,I.ok.j8,I.ok.d7,I.ok.gI⟩,I.os,I.bare,I.base,I.loc,I.cell,I.free,I.eW,
  λp hp=>I.pin p (by rw[vY]at hp;exact hp),I.aE,I.len⟩
theorem Inv.nO{E:wf->wl->Prop}(I:Inv (X.at (X.pn++pins) E) pins' σ H s):Inv X pins σ H s :=
 ⟨⟨I.ok.mod,I.ok.kind,I.ok.glob,I.ok.blt,I.ok.above,I.ok.inj,I.ok.has,I.ok.jT,I.ok.hd,I.ok.frames,I.ok.kj,I.ok.nA,I.ok.bs,I.ok.gq,I.ok.ju,I.ok.j8,I.ok.d7,I.ok.gI⟩,I.os,I.bare,I.base,I.loc,I.cell,I.free,I.eW,
  λp hp=>I.pin p (Wf _ hp),I.aE,I.len⟩
theorem Inv.RU(I:Inv X pins σ H s)(he:s.heap.get? ex=some oe)(hn:H ex=none)(nl:ex≠X.env.locals)(nf:ex ∉ X.fs)(nc:∀v,oe.data≠.cell v):Inv (X.nM (X.pn++pins) ex oe) [] σ H s :=
 ⟨⟨I.ok.mod,I.ok.kind,I.ok.glob,I.ok.blt,I.ok.above,I.ok.inj,I.ok.has,I.ok.jT,λz=>XD z,I.ok.frames,I.ok.kj,I.ok.nA,I.ok.bs,I.ok.gq,I.ok.ju,I.ok.j8,I.ok.d7,I.ok.gI⟩,I.os,I.bare,I.base,I.loc,I.cell,I.free,I.eW,
  λp hp=>by
   rw[vY]at hp;rcases vX.mp hp with z | z
   ·exact I.pin p z
   ·cases wX.mp z
    exact⟨he,hn,nl,nf,nc⟩,I.aE,I.len⟩
theorem Inv.rK(ok:X.Ok)(I:Inv (X.nM (X.pn++pins) ex oe) pins' σ H s):Inv X pins σ H s :=
 ⟨ok,I.os,I.bare,I.base,I.loc,I.cell,I.free,I.eW,λp hp=>I.pin p (Wf _ (Wf _ hp)),I.aE,I.len⟩
theorem Inv.gone{M:Model}{A:w6}{E:wf->wl->Prop}{Q:Unit->wl->Prop}{i:Nat}{n:Str}{hp:Pos}(I:Inv X pins σ H s)(hN:X.N.Nodup)(hi:X.N[i]? = some n)(hl:X.env.scope.names.lookup n=some .local)
  (k:∀s',Inv X pins (σ.set i none) H s'->Q () s'):wq M A (do bindName X.env n .none;unbindBehindTheSuite X.env n hp) Q E s:=by
 obtain⟨m,hn,hl'⟩:=id I.loc;have hcls:(X.env.scope.kind == .class || (X.env.scope.kind == .module&&X.env.locals != X.env.globals))=false:=by rw[I.ok.kind];rfl
 have lt:∀b o,X.s₀.heap.get? b=some o->b≠X.env.locals:=λb o e=>wL (wU (wy e) I.ok.above)
 refine wpAny_nameGoes_keeps hl hn hcls λh' v hn' hs=>k _ ⟨I.ok,I.os,I.bare,⟨λb o e z hb hx=>?_,λb o e z hb hx=>?_,I.base.free,λb o e hx=>?_,I.base.gx,I.base.fT,I.base.gy⟩,⟨_,hn',λj y v' e1 e2 e3=>?_⟩,λy c e=>?_,I.free,I.eW,λp hp=>?_,λb ob e=>?_,?_⟩
 ·exact(hs.2 b (lt b o e)).trans (I.base.keep b o e z hb hx)
 ·obtain⟨sl,e1⟩:=I.base.slot b o e z hb hx
  exact⟨sl,(hs.2 b (lt b o e)).trans e1⟩
 ·obtain⟨o',e1⟩:=I.base.there b o e hx
  exact⟨o',(hs.2 b (lt b o e)).trans e1⟩
 ·have hj:j≠i:=λz=>by
   subst z;rw[Vu]at e2
   split at e2
   ·split at e2<;>cases e2
   ·exact absurd rfl ‹_›
  rw[qS (We hj)]at e2;obtain⟨u',r',q⟩:=hl' j y v' e1 e2 e3;refine⟨u',r',?_⟩;rcases q with⟨k,e⟩ | ⟨k,c,e,z⟩
  ·refine .inl ⟨k,?_⟩
   have ne:y≠n:=λe=>hj (Ah hN e1 (e ▸ hi))
   simp[ne,e]
  ·exact .inr ⟨k,c,e,z.sameBut hs (I.iT y c e)⟩
 ·obtain⟨w',z⟩:=I.cell y c e
  exact⟨w',z.sameBut hs (I.iT y c e)⟩
 ·obtain⟨e,z,ne,nf,d⟩:=I.pin p hp
  exact⟨(hs.2 p.1 ne).trans e,z,ne,nf,d⟩
 ·refine(I.aE b ob e).jw (λc w' hc q=>(hs.2 c ?_).trans q) (λ_ q=>q) λ_ _ q=>q
  rintro rfl;have f:=I.free;rcases hc with hc | hc
  ·rw[hc,e]at f;cases f
  ·rw[hc]at f;cases f
 ·rw[Vm];exact I.len
end
def LH(CX:fv)(X:Cx)(W:St->XK):Prop:=∀(pins:List (wg × Obj))(σ : St)(H:Hp)(s:wl)(e:wf)(s':wl),Inv X pins σ H s->CX X.stack H s (W σ) e s'->X.xe e s'
def Bh(sp:Sp)(W:St->XK)(t:TA):TE:=λσ H Q=>t σ H λvs H1=>sp vs H1 Q (W σ)
section
variable{X:Cx}{CX:fv}{k:Nat}{f:wg}{fd:wE}{ps:List Str}{sp:Sp}{W:St->XK}{x:Str}{p pos:Pos}{e:Expr}{es:List Expr}{t:TA}
theorem Zp(F:aO X.prog X.w X.K X.mg X.base CX k f fd ps sp)(hr:dm k X.A)(hg:Gl X x)(hm:X.mg x=some (.ref f))(hk:W5 X.K (.ref f)=true)(hb:ko X.K fd ps [])(hx:LH CX X W)
  (ha:PA X (e::es) t) (hdb:(x == ("__debug__" : Str))=false:=by decide) (he:w5 (e::es) X.env=(false,eval e X.env)::w5 es X.env:=by rfl) (hpl:(WV pos (w5 es X.env)).any (·.1)=false:=by rfl) :
  PE X (.Call (.Name x p) (e::es) [] pos) (Bh sp W t):=by
 intro pins s σ H Q I h;refine VX (mz I hg hm ?_ hdb);refine Qk (h₀:=X.base) I.ok.mod.lq hk (aH (ha pos pins s σ H _ I h) λus s1 ⟨vs,H1,I1,r,q⟩=>⟨I1.cW,?_⟩) he hpl;have hl:us.length=ps.length:=by rw[<- r.length];exact F.len _ _ _ _ q
 have hbd:BindsTo s1 fd ⟨us,[]⟩ (ps.zip us):=by simpa using hb s1 us I1.cW (by simpa using hl)
 refine wpAny_call (codeAny_mono (F.run X.A X.stack s1 H1 ⟨us,[]⟩ us vs Q (W σ) hr I1.z6 hbd r q) λr s' hq=>?_);cases r with
 | error e=>exact hx pins σ H1 s1 e s' I1 hq
 | ok fl =>
  cases fl with
  | ret u=>exact I1.after hq
  | next=>exact Wp hq
  | brk=>exact Wp hq
  | cont=>exact Wp hq
end
def NS(K:wb)(G:wf)(i:Nat)(tb:(St->XK)->TS)(th:wg->wf->TS):TS:=λD σ H=>∃W:St->XK,tb W D σ H /\ ∀σ' C o H',W σ' C o H'->V7 K C G=some true /\
 ∀ex,H' ex=none->th ex C {nx:=λσ2 H2=>D.nx (σ2.set i none) H2,rt:=D.rt,bk:=λσ2 H2=>D.bk (σ2.set i none) H2,ct:=λσ2 H2=>D.ct (σ2.set i none) H2} (σ'.set i (some (.ref ex))) H'
structure tW(C:wf)(oe:Obj):Prop where
 cls:oe.cls=C
 fld:∃vs,oe.data=.fields vs/\vs[2]? = some .none
 dict:oe.dict=none
section
variable{X:Cx}{x n:Str}{G:wf}{i:Nat}{b₀ : ve}{body suite:List ve}{np hpos pos:Pos}{tb:(St->XK)->TS}{th:wg->wf->TS}
theorem Zf(hs:X.stack=X.env::X.outer)(hf:X.env.frame=some X.env.locals)(hN:X.N.Nodup)(hi:X.N[i]? = some n)(hl:X.env.scope.names.lookup n=some .local)(hg:Gl X x)(hG:X.mg x=some G)
  (hb:∀(W:St->XK)(pn:List (wg × Obj))(E':wf->wl->Prop),LH (eI X.prog X.w) (X.at pn E') W->eQ (X.at pn E') body (tb W))
  (hh:∀(pn:List (wg × Obj))(ex:wg)(C:wf)(oe:Obj),tW C oe->eQ (X.nM pn ex oe) (b₀ :: suite) (th ex C)) (hdb:(x == ("__debug__" : Str))=false:=by decide) :
  PS X (.Try body [.ExceptHandler (some (.Name x np)) (some n) (b₀ :: suite) hpos] [] [] pos) (NS X.K G i tb th):=by
 intro pins s σ H D I h;obtain⟨W,hB,hH⟩:=h;refine wpAny_Try_except ?_;have I':=I.RZ λe s1=>∃σ1 H1 s0,Inv X pins σ1 H1 s0/\eI X.prog X.w X.stack H1 s0 (W σ1) e s1
 have key:=hb W (X.pn++pins) (λe s1=>∃σ1 H1 s0,Inv X pins σ1 H1 s0/\eI X.prog X.w X.stack H1 s0 (W σ1) e s1) (λpins1 σ1 H1 s0 e s1 I1 q=>⟨σ1,H1,s0,I1.nO,q⟩) [] s σ H D I' hB;refine Wr key (λf s1 hq=>?_) λe s1 he=>?_
 ·cases f with
  | next=>obtain⟨σ',H',J,q⟩:=hq;exact qt ⟨σ',H',J.nO,q⟩
  | brk=>obtain⟨σ',H',J,q⟩:=hq;exact⟨σ',H',J.nO,q⟩
  | cont=>obtain⟨σ',H',J,q⟩:=hq;exact⟨σ',H',J.nO,q⟩
  | ret u=>obtain⟨v,σ',H',J,r,q⟩:=hq;exact⟨v,σ',H',J.nO,r,q⟩
 obtain⟨σ1,H1,s0,I1,ex,C,H',B,rfl,os,bare,un,aE,F,ov,q⟩:=he;obtain⟨hm,hS⟩:=hH σ1 C none H' q;have hfs:∀b∈c_ X.stack,H1 b=none /\ ∃o,s0.heap.get? b=some o /\ ∀vs,o.data≠.fields vs:=λb hb=>⟨I1.rB b hb,(I1.stack.mem hb).2⟩
 have hfr:=I.ok.frames.trans (congrArg some hs)
 have hex:H' ex=none:=by
  obtain⟨_,_,_,_,_,_,_,_,_,_,_,_,_,be,_⟩:=F;cases z:H' ex with
  | none=>rfl
  | some o =>
   obtain⟨u,e1⟩:=ov.gT ex o z;rw[be]at e1;cases e1
 have st1:=F.st;rw[hs]at F
 have exc:∀{h4:wM},eU B (X.env::X.outer) ex C .none h4->s1.heap.UpToSlots h4->∃oe,h4.get? ex=some oe/\tW C oe/\Inv (X.nM (X.pn++pins) ex oe) [] σ1 H' {s1 with heap:=h4}:=λ{h4} F4 sm=>by
  have J:Inv X pins σ1 H' {s1 with heap:=h4}:=I1.Hc (s':={s1 with heap:=h4}) (ch:=[]) os (ov.un un hfs F4.st sm) (ov.aE aE st1 F4.st) bare (λ_ z=>nomatch z);obtain⟨_,_,oe,vs,T,oT,ts,he,hc,hd,h1,h2,hdi,_⟩:=F4;refine⟨oe,he,⟨hc,⟨vs,hd,h2⟩,hdi⟩,J.RU he hex (λz=>?_) (λz=>?_) λv z=>?_⟩
  ·obtain⟨m,⟨o,es,ep,ho,hdd,_⟩,_⟩:=J.loc
   rw[<- z]at ho;have:(some oe:Option Obj)=some o:=he.symm.trans ho;cases this;rw[hd]at hdd;cases hdd
  ·obtain⟨_,o,ho,nr⟩:=J.d7.mem z
   have:(some oe:Option Obj)=some o:=he.symm.trans ho;cases this;exact nr vs hd
  ·rw[hd]at z;cases z
 refine F.note hfr hf λh2 F2 sm2=>F2.land λh3 F3 sm3=>?_
 obtain⟨oe3,g3,x3,K3⟩:=exc F3 (sm2.trans sm3);refine wpAny_handleBy_cons (codeAny_handlers_test (mz K3 hg hG ?_ hdb)) (by intro z;cases z);have LT:Qt (model X.prog X.w) h3 (typeOf (.ref ex)) C:=x3.cls ▸ (uC g3).andThen .now;refine(PySem.W.exm_one (h:=h3) K3.cW LT hm).here ?_;refine codeAny_handlers_suite_as ?_;refine F3.land λh4 F4 sm4=>?_
 obtain⟨oe,g4,x4,K4⟩:=exc F4 ((sm2.trans sm3).trans sm4);refine mq (X:=X.nM (X.pn++pins) ex oe) K4 hN hi (.inl hl) (v:=.ref ex) rfl (λs5 K5=>?_) (.inr hl);refine Wr (hh _ ex C oe x4 [] s5 _ H' _ K5 (hS ex hex)) (λf s6 h6=>?_) λ_ _ z=>z.elim
 show wq (model X.prog X.w) X.A (do bindName X.env n .none;unbindBehindTheSuite X.env n hpos) _ _ _
 cases f with
 | next=>obtain⟨σ',H6,J,q6⟩:=h6;exact(J.rK I.ok).gone hN hi hl λs7 J7=>⟨_,H6,J7,q6⟩
 | brk=>obtain⟨σ',H6,J,q6⟩:=h6;exact(J.rK I.ok).gone hN hi hl λs7 J7=>⟨_,H6,J7,q6⟩
 | cont=>obtain⟨σ',H6,J,q6⟩:=h6;exact(J.rK I.ok).gone hN hi hl λs7 J7=>⟨_,H6,J7,q6⟩
 | ret u=>obtain⟨v,σ',H6,J,r,q6⟩:=h6;exact(J.rK I.ok).gone hN hi hl λs7 J7=>⟨v,_,H6,J7,r,q6⟩
end
structure fO(k:Nat)(A:w6):Prop where
 dp:A.depth+3*k+5<recursionLimit
 un:A.units+16*k+200<WI
theorem fO.mono{j k:Nat}{A:w6}(r:fO k A)(h:j<=k):fO j A:=⟨by have:=r.dp;lia,by have:=r.un;lia⟩
theorem fO.deeper{k:Nat}{A:w6}(r:fO (k+1) A)(env:Env):fO k (A.deeper env) :=
 ⟨by have:=r.dp;show A.depth+1+3*k+5<_;lia,by have:=r.un;show A.units+3+16*k+200<_;lia⟩
theorem dm.marked{k:Nat}{A:w6}(r:dm k A)(v:Option wf):fO k (A.mark v):=⟨r.dp,r.un⟩
theorem fO.depth{k:Nat}{A:w6}(r:fO k A):A.depth<recursionLimit:=by have:=r.dp;lia
theorem fO.units{k:Nat}{A:w6}(r:fO k A):A.units+64<WI:=by have:=r.un;lia
structure Az(P:wO)(w:wR)(K:wb)(mg:Str->Option wf)(base:wM)(k:Nat)(f:wg)(fd:wE)(ps:List Str)(sp:wg->wf->Sp):Prop where
 len:∀ex C vs H Q E,sp ex C vs H Q E->vs.length=ps.length
 run:∀(A:w6)(outer:List Env)(s:wl)(H:Hp)(args:Args)(us:List wf)(vs:List V)(Q:VK)(E:XK)(ex:wg)(C:wf)(oe:Obj),fO k A->A.handled=some (.ref ex)->s.heap.get? ex=some oe->tW C oe->H ex=none->ex ∉ c_ outer ->
   pK P w K mg base A outer s H->BindsTo s fd args (ps.zip us)->aK vs us->sp ex C vs H Q E->codeAny (model P w) A (.call (.ref f) args) (CR aT outer P w H s Q E) s
def n_(P:wO)(w:wR)(K:wb)(mg:Str->Option wf)(base:wM)(N:List Str)(qual:Str)(scope:Scope)(f:wg)(cd:wf)(A:w6)(outer:List Env)(s:wl)(H:Hp)(ex:wg)(oe:Obj):Cx :=
 {gu aT P w K mg base N qual scope f cd A outer s H E0 with calm:=false,pn:=[(ex,oe)],xe:=λ_ _=>False}
structure Hd(X:Cx)(ex:wg)(C:wf)(oe:Obj):Prop where
 hd:X.A.handled=some (.ref ex)
 pn:(ex,oe)∈X.pn
 ob:tW C oe
section
variable{P:wO}{w:wR}{K:wb}{mg:Str->Option wf}{base:wM}
theorem iS.Za{x qual:Str}{st:ve}{f:wg}{fd:wE}{N ps:List Str}{k:Nat}{sp:wg->wf->Sp}(F:iS K x qual st f fd)(S:aS N ps (aA st))(len:∀ex C vs H Q E,sp ex C vs H Q E->vs.length=ps.length)
  (hbody:∀(cdv:wf)(A:w6)(outer:List Env)(s:wl)(H:Hp)(vs:List V)(Q:VK)(E:XK)(ex:wg)(C:wf)(oe:Obj),fO k (A.deeper (envOfC qual (aA st) s.heap.objs.size f cdv))->Hd (n_ P w K mg base N qual (aA st) f cdv A outer s H ex oe) ex C oe->sp ex C vs H Q E ->
   ∃t,eQ (n_ P w K mg base N qual (aA st) f cdv A outer s H ex oe) (jM st) t/\t {nx:=λ_ H'=>Q .bM H',rt:=Q} (start N vs) H):Az P w K mg base (k+1) f fd ps sp:=by
 obtain⟨oc,od,kV,doc,pm,an,cdv,ct,osl,rfl,lk,hcd⟩:=F.ex;refine⟨len,λA outer s H args us vs Q E ex C oe hr hhd hat hob hfree hnf e0 hb r hsp=>?_⟩;have hl:=len _ _ _ _ _ _ hsp;have KX:K.In s.heap:=e0.mod.lq.keeps λb o e=>(e0.bs b o e).1
 have lim:s.heap.NoLimit:=e0.mod.nolimit.keeps λb o e=>(e0.bs b o e).1
 have hkind:∀y∈ps.zip us,(aA st).names.lookup y.1=some .local\/((aA st).names.lookup y.1=some .cell/\((cellsFrom (s.heap.objs.size+1) (aA st).names []).lookup y.1).isSome=true):=λ⟨n,v⟩ hy =>
  (S.par n (qT hy).1).elim .inl λq=>.inr ⟨q,qO _ _ _ (.inl q)⟩
 refine codeAny_call_function hr.depth (KX _ _ lk) rfl S.co S.gen rfl (xP KX hcd) (hb _ _ _ _ ?_);refine wpAny_newFunctionEnv_cells S.kind hkind λenv he s1 x=>?_
 subst he;refine⟨lim.keeps x.toInCall.keep,codeAny_func ?_⟩;have hA:(A.deeper (envOfC qual (aA st) s.heap.objs.size f cdv)).handled=some (.ref ex):=hhd;obtain⟨t,ht,hq⟩:=hbody cdv A outer s H vs Q E ex C oe (hr.deeper _) ⟨hA,wX.mpr rfl,hob⟩ hsp
 -- the start,as if nothing was handled;then the pin
 have I0:Inv (gu aT P w K mg base N qual (aA st) f cdv {A with handled:=none} outer s H E0) [] (start N vs) H s1:=J9 S rfl ⟨e0.frames,e0.mod,e0.bs,e0.gq,e0.d7,e0.gI,e0.aE,e0.bare⟩ hl r x;obtain⟨h1,tk,rfl,hk⟩:=x.done
 have I:Inv (n_ P w K mg base N qual (aA st) f cdv A outer s H ex oe) [] (start N vs) H {s with heap:=h1,toks:=tk} :=
  ⟨⟨I0.ok.mod,I0.ok.kind,I0.ok.glob,I0.ok.blt,I0.ok.above,I0.ok.inj,I0.ok.has,I0.ok.jT,λz=>XD z,xm e0.frames,I0.ok.kj,I0.ok.nA,I0.ok.bs,I0.ok.gq,I0.ok.ju,I0.ok.j8,I0.ok.d7,I0.ok.gI⟩,I0.os,I0.bare,I0.base,I0.loc,I0.cell,I0.free,I0.eW,
   λp hp=>by
    cases wX.mp (show p∈[(ex,oe)] by rw[vY]at hp;exact hp);obtain⟨vs',hd,_⟩:=hob.fld;exact⟨hk _ _ hat,hfree,wL (wy hat),hnf,λv z=>by rw[hd]at z;cases z⟩,I0.aE,I0.len⟩
 refine Wr (ht [] _ (start N vs) H _ I hq) (λfl s' hs=>?_) λe s' hs=>hs.elim
 have fin:∀{σ':St}{H':Hp}{v:V}{u:wf},Inv (n_ P w K mg base N qual (aA st) f cdv A outer s H ex oe) [] σ' H' s'->aX v u->Q v H'->CE outer P w H s Q u s' :=
  λ{σ' H' v u} J rv q=>⟨v,H',J.os,J.bare,J.base,J.aE,rv,q⟩
 cases fl with
 | ret u=>obtain⟨v,σ',H',J,rv,q⟩:=hs;exact fin J rv q
 | next=>obtain⟨σ',H',J,q⟩:=hs;exact fin (v:=V.bM) (u:=Value.none) J rfl q
 | brk=>obtain⟨_,_,_,q⟩:=hs;exact Wp q
 | cont=>obtain⟨_,_,_,q⟩:=hs;exact Wp q
end
section
variable{X:Cx}{k:Nat}{f:wg}{fd:wE}{ps:List Str}{sp:wg->wf->Sp}{x:Str}{p pos:Pos}{e:Expr}{es:List Expr}{t:TA}{ex:wg}{C:wf}{oe:Obj}
theorem Us(F:Az X.prog X.w X.K X.mg X.base k f fd ps sp)(hr:fO k X.A)(hd:Hd X ex C oe)(hg:Gl X x)(hm:X.mg x=some (.ref f))(hk:W5 X.K (.ref f)=true)(hb:ko X.K fd ps [])
  (ha:PA X (e::es) t) (hdb:(x == ("__debug__" : Str))=false:=by decide) (he:w5 (e::es) X.env=(false,eval e X.env)::w5 es X.env:=by rfl) (hpl:(WV pos (w5 es X.env)).any (·.1)=false:=by rfl) :
  PE X (.Call (.Name x p) (e::es) [] pos) (kN (sp ex C) [] E0 t):=by
 intro pins s σ H Q I h;refine VX (mz I hg hm ?_ hdb);refine Qk (h₀:=X.base) I.ok.mod.lq hk (aH (ha pos pins s σ H _ I h) λus s1 ⟨vs,H1,I1,r,q⟩=>⟨I1.cW,?_⟩) he hpl;have q:sp ex C vs H1 Q E0:=by simpa using q
 have hl:us.length=ps.length:=by rw[<- r.length];exact F.len _ _ _ _ _ _ q
 have hbd:BindsTo s1 fd ⟨us,[]⟩ (ps.zip us):=by simpa using hb s1 us I1.cW (by simpa using hl)
 obtain⟨p1,p2,p3,p4,_⟩:=I1.pin (ex,oe) (Wf _ hd.pn);have hns:ex ∉ c_ X.stack:=λz=>(wQ.mp (I1.kK ex z)).elim p3 p4
 refine wpAny_call (codeAny_mono (F.run X.A X.stack s1 H1 ⟨us,[]⟩ us vs Q E0 ex C oe hr hd.hd p1 hd.ob p2 hns I1.z6 hbd r q) λr s' hq=>?_);cases r with
 | error e=>exact hq.elim
 | ok fl =>
  cases fl with
  | ret u=>exact I1.after hq
  | next=>exact Wp hq
  | brk=>exact Wp hq
  | cont=>exact Wp hq
end
def gG(cells:List (Str × wg)):List (Str × WO)->List (Str × wg)->List (Str × wg)
 | [],acc=>acc
 | (n,k)::r,acc=>gG cells r (if(k == NameKind.free)=true then(n,(cells.lookup n).getD 0)::acc else acc)
theorem zkb{scope:Scope}{env:Env}(h:∀y∈scope.names,y.2=.free->∃c,env.cells.lookup y.1=some c):closureFor scope env=pure (gG env.cells scope.names []):=by
 unfold closureFor;generalize scope.names=names at h
 suffices g:∀(names:List (Str × WO))(acc:List (Str × wg)),(∀y∈names,y.2=.free->∃c,env.cells.lookup y.1=some c) ->
     (forIn names acc λ(x:Str × WO)(r:List (Str × wg))=>if(x.2 == NameKind.free)=true then do let c <- cellOf env x.1;pure (ForInStep.yield ((x.1,c)::r))else pure (ForInStep.yield r):Sem (List (Str × wg)))=pure (gG env.cells names acc) by
   have:=g names [] h
   show(_ >>= pure)=_
   rw[bind_pure];exact this
 intro names
 induction names with
 | nil=>intro acc _;rfl
 | cons y r ih =>
   intro acc hy;obtain⟨n,k⟩:=y;rw[qr]
   by_cases e:(k == NameKind.free)=true
   . obtain⟨c,hc⟩:=hy (n,k) wJ (beq_iff_eq.mp e)
     have hcell:cellOf env n=pure c:=by
       unfold cellOf;rw[hc]
     simp only[e,if_true,hcell,pure_bind];rw[ih _ λz hz=>hy z (wD _ hz)]
     show _=pure (gG env.cells r _)
     simp only[e,if_true,hc,QM]
   . simp only[e,pure_bind]
     rw[if_neg (by simp),pure_bind];dsimp only;rw[ih _ λz hz=>hy z (wD _ hz)]
     show _=pure (gG env.cells r _)
     rw[if_neg e]
theorem M4{cells:List (Str × wg)} : ∀(names:List (Str × WO))(acc:List (Str × wg))(x:Str)(c:wg),(∀y∈names,y.2=.free->∃c,cells.lookup y.1=some c)->(∀x c,acc.lookup x=some c->cells.lookup x=some c) ->
  (gG cells names acc).lookup x=some c->cells.lookup x=some c
 | [],acc,x,c,_,ha,h=>ha x c h
 | (n,k)::r,acc,x,c,hy,ha,h=>by
  unfold gG at h;refine M4 r _ x c (λz hz=>hy z (wD _ hz)) (λx' c' h'=>?_) h
  split at h'
  ·rename_i e
   obtain⟨c0,hc0⟩:=hy (n,k) wJ (beq_iff_eq.mp e);rw[qc]at h'
   split at h'
   ·rename_i e2
    rw[beq_iff_eq.mp e2,hc0];rw[hc0]at h';exact h'
   ·exact ha x' c' h'
  ·exact ha x' c' h'
theorem Ky{cells:List (Str × wg)} : ∀(names:List (Str × WO))(acc:List (Str × wg))(x:Str),(∃c,acc.lookup x=some c)->∃c,(gG cells names acc).lookup x=some c
 | [],acc,x,h=>h
 | (n,k)::r,acc,x,h=>by
  unfold gG;refine Ky r _ x ?_
  split
  ·rw[qc]
   split
   ·exact⟨_,rfl⟩
   ·exact h
  ·exact h
theorem JP{cells:List (Str × wg)} : ∀(names:List (Str × WO))(acc:List (Str × wg))(x:Str),(x,NameKind.free)∈names->∃c,(gG cells names acc).lookup x=some c
 | [],acc,x,h=>nomatch h
 | (n,k)::r,acc,x,h=>by
  unfold gG;rcases wQ.mp h with e | e
  ·cases e
   rw[if_pos (by decide)];refine Ky r _ _ ?_;rw[qc];simp
  ·exact JP r _ x e
theorem JX(g:Str->WO->WO):∀(names:List (Str × WO))(x:Str),(names.map λy=>(y.1,g y.1 y.2)).lookup x=(names.lookup x).map (g x)
 | [],x=>rfl
 | (n,k)::r,x=>by
  rw[wZ,qc,qc];dsimp only
  by_cases e:(x == n)=true
  ·have e':=beq_iff_eq.mp e
   subst e';simp
  ·rw[XE]at e
   simp only[e];exact JX g r x
def uK(env:Env)(x:Str)(k:WO):WO:=if(k == .free&&env.scope.kind == .function&&env.kindOf x == some .cell)=true then .cell else k
theorem MI{scope:Scope}{env:Env}(x:Str):(relabel scope env).names.lookup x=(scope.names.lookup x).map (uK env x):=by
 rw[<- JX]
 show(scope.names.map _).lookup x=_
 congr 2
 funext ⟨n,k⟩
 dsimp only[uK]
 split<;>rfl
def cH(inner outer:List (Str × WO))(N N':List Str)(src:List (Option Nat)):Bool :=
 (inner.all λy=>(y.2 != .cell)&&(y.2 != .local || inner.lookup y.1 == some .local)&&(y.2 != .free || outer.lookup y.1 == some .cell)) &&
 (N'.length == src.length)&&((N'.zip src).all λp=>match p.2 with
  | none=>true
  | some j=>N[j]? == some p.1&&outer.lookup p.1 == some .cell&&inner.lookup p.1 == some .free)
theorem cq.by{X:Cx}{N':List Str}{scope:Scope}{src:List (Option Nat)}(hk:scope.kind=.function)(hc:cH scope.names X.env.scope.names X.N N' src=true)(hf:∀x,X.env.scope.names.lookup x=some .cell->∃c,X.env.cells.lookup x=some c:=by exact λx h=>C2 h) :
  cq X N' scope (gG X.env.cells scope.names []) src:=by
 unfold cH at hc;simp only[wV,Wl,beq_iff_eq,Bool.or_eq_true,bne_iff_ne,ne_eq]at hc;obtain⟨⟨h1,h2⟩,h3⟩:=hc;have fr:∀y∈scope.names,y.2=.free->∃c,X.env.cells.lookup y.1=some c:=λy hy e=>hf _ (((h1 y hy).2).elim (λz=>absurd e z) id)
 have at3:∀(i:Nat)(x:Str)(j:Nat),N'[i]? = some x->src[i]? = some (some j)->X.N[j]? = some x/\X.env.scope.names.lookup x=some .cell/\scope.names.lookup x=some .free:=λi x j e1 e2=>by
  have m:(x,some j)∈N'.zip src:=by
   rw[List.mem_iff_getElem?];exact⟨i,by rw[List.getElem?_zip_eq_some];exact⟨e1,e2⟩⟩
  have:=h3 _ m;simp only[wV,beq_iff_eq]at this;exact⟨this.1.1,this.1.2,this.2⟩
 refine⟨hk,λy hy=>((h1 y hy).1).1,λy hy e=>(((h1 y hy).1).2).elim (λz=>absurd e z) id,⟨zkb fr,λx c e=>M4 _ _ x c fr (λ_ _ z=>by simp at z) e,λx e=>?_⟩,⟨h2,λi j x e1 e2=>⟨(at3 i x j e1 e2).1,(at3 i x j e1 e2).2.1⟩⟩,λi x e1 e2=>?_⟩
 ·rw[MI]at e
  cases q:scope.names.lookup x with
  | none=>rw[q]at e;simp at e
  | some k =>
   have hm:=W1 q
   have hk:k=.free:=by
    rw[q]at e;simp only[XW,Qz,uK]at e;have nc:k≠.cell:=((h1 _ hm).1).1;rcases e with e | e
    ·split at e
     ·rename_i z;simp only[wV,beq_iff_eq]at z;exact z.1.1
     ·exact absurd e nc
    ·split at e
     ·cases e
     ·exact e
   subst hk;exact JP _ _ x hm
 ·obtain⟨o,ho⟩:∃o,src[i]? = some o:=by
   have:i<src.length:=by rw[<- h2];exact(WU.mp e1).1
   exact⟨src[i],by simp[this]⟩
  cases o with
  | none=>exact absurd ho e2
  | some j =>
   have:=(at3 i x j e1 ho).2.2;rw[MI,this];simp only[XW,Qz,uK]
   split
   ·exact .inl rfl
   ·exact .inr rfl
theorem TM:entryFor table "proto.unchain"=some Builtin.«proto.unchain»:=by first | exact entryFor_of_fast (by kernel_rfl) | exact entryFor_of_tree (by kernel_rfl)
section
variable{prog:wO}{w:wR}{A:w6}{E:wf->wl->Prop}{s:wl}
theorem znu{α : Type}{Q : α -> wl->Prop}{b ex:wg}{ob oe:Obj}{bs vs:Array wf}(hh:A.handled=some (.ref ex))(hb:s.heap.get? b=some ob)(db:ob.data=.fields bs)(sz:2<bs.size)(he:s.heap.get? ex=some oe)
  (de:oe.data=.fields vs) (h2:vs[2]? = some .none) (ne:ex≠b) (k:E (.ref b) {s with heap:=s.heap.update b (qg (·.setIfInBounds 2 (.ref ex)))}):wq (model prog w) A (raiseNew (.ref b):Sem α) Q E s:=by
 have nb:(Value.ref ex != Value.ref b)=true:=by simp[ne]
 simp only[raiseNew];refine we (wpAny_handled ?_);rw[hh];dsimp only;rw[if_pos nb];refine we (vN (wpAny_runValue (codeAny_builtin TM ?_)));unfold Builtin.«proto.unchain»;dsimp only;refine we (vg he de h2 ?_);rw[if_pos (by decide)];refine we (wp (wp ?_));exact we (Vc (x:=.ref ex) hb db sz (wpAny_throw k))
structure oG(A:w6)(h:wM)(ex:wg):Prop where
 hd:A.handled=some (.ref ex)
 ob:∃oe vs,h.get? ex=some oe/\oe.data=.fields vs/\vs[2]? = some .none
theorem Ms{α : Type}{ex:wg}{R:wf->wl->Prop}{Q : α -> wl->Prop}(n:oG A s.heap ex)
  (k:∀b h',(∀c o,s.heap.get? c=some o->h'.get? c=some o)->({s with heap:=h'} : wl).TypeIs (.ref b) "StopIteration" -> R (.ref b) {s with heap:=h'}) :
  wq (model prog w) A (newExc (.type "StopIteration") [] >>= λe=>(raiseNew e:Sem α)) Q R s:=by
 obtain⟨hd,oe,vs,he,de,h2⟩:=n;refine we ?_;simp only[newExc,newTuple];refine we (Wo ?_ (by size_fits));refine we (m:=firstArgMember _ _) (wpAny_of_eq (a:=Value.none) (by first | rfl | (simp only[firstArgMember];rfl)) ?_);refine Wo ?_ (by size_fits);have he2:=wn (h:=s.heap.push {cls:=.type "tuple",data:=.seq ([]:List wf).toArray}) {cls:=.type "StopIteration",data:=.fields (#[.ref s.heap.objs.size,.none,.none,.none,.bool false,.none]++ownMembersOf (.type "StopIteration") [])} (wn _ he);have lt:ex<s.heap.objs.size:=wy he;refine znu hd (wN _ rfl) rfl (by simp[ownMembersOf]) he2 de h2 (by rw[W9];exact wL (Vx lt)) (k _ _ (λc o q=>?_) ⟨_,Vl _ (wN _ rfl) rfl,rfl⟩);have:=wy q;rw[Ws _ _ (by rw[W9];exact vi (Vx this))];exact wn _ (wn _ q)
theorem zuM{it l ex:wg}{i:Nat}{items}{Q:Option wf->wl->Prop}(n:oG A s.heap ex)(hne:ex≠it)
  (hit:s.heap.IsListIter it l i) (hl:s.heap.IsList l items) (hx:items[i]? = none) (hQ:∀h',Q6 it s.heap h'->Q none {s with heap:=h'}):wq (model prog w) A (W3 (.ref it)) Q E s:=by
 obtain⟨o,ho,hc,hd⟩:=id hit;obtain⟨ol,hol,_,nl,hdl⟩:=hl;unfold W3;refine we (WA (wpAny_callSpecial?_slot (name:=vH "__next__") hit.typeIs slot_listiter_next (vL slot_listiter_next hit.typeIs entry_listiter_next ?_ (args_listiter_next _))))
 show wq _ _ (field (.ref it) 0 >>= _) _ _ s
 refine we (vg ho hd (x:=.ref l) rfl ?_);rw[if_neg (show ¬ ((Value.ref l == Value.none)=true)from vj)];refine we (vg ho hd (x:=.int i 0) rfl (we (Wh hol hdl ?_)));simp only[wW,hx];refine we (VW (we (Vc ho hd (by simp) ?_)));obtain⟨hhd,oe,vs,he,de,h2⟩:=n;refine Ms (A:=A.in1) ⟨hhd,oe,vs,?_,de,h2⟩ λb h' kp ty=>?_
 ·show(VZ _ _ _).get? ex=_
  rw[Ws _ _ (We hne)];exact he
 refine we (WH (T:="StopIteration") (b:=true) ty VC (wp (hQ h' λc o ne q=>kp c o ?_)))
 show(VZ _ _ _).get? c=_
 rw[Ws _ _ (We ne)];exact q
theorem zsg{it t ex:wg}{i:Nat}{items}{Q:Option wf->wl->Prop}(n:oG A s.heap ex)(hne:ex≠it)
  (hit:IsTupIter s.heap it t i) (ht:IsTup s.heap t items) (hx:items[i]? = none) (hQ:∀h',Q6 it s.heap h'->Q none {s with heap:=h'}):wq (model prog w) A (W3 (.ref it)) Q E s:=by
 obtain⟨o,ho,hc,hd⟩:=id hit;obtain⟨ol,hol,_,nl,hdl⟩:=ht;unfold W3;refine we (WA (wpAny_callSpecial?_slot (name:=vH "__next__") hit.typeIs slot_tupleiter_next (vL slot_tupleiter_next hit.typeIs entry_tupleiter_next ?_ (args_tupleiter_next _))))
 show wq _ _ (field (.ref it) 0 >>= _) _ _ s
 refine we (vg ho hd (x:=.ref t) rfl ?_);rw[if_neg (show ¬ ((Value.ref t == Value.none)=true)from vj)];refine we (vg ho hd (x:=.int i 0) rfl (we (Wh hol hdl ?_)));simp only[wW,hx];refine we (VW (we (Vc ho hd (by simp) ?_)));obtain⟨hhd,oe,vs,he,de,h2⟩:=n;refine Ms (A:=A.in1) ⟨hhd,oe,vs,?_,de,h2⟩ λb h' kp ty=>?_
 ·show(VZ _ _ _).get? ex=_
  rw[Ws _ _ (We hne)];exact he
 refine we (WH (T:="StopIteration") (b:=true) ty VC (wp (hQ h' λc o ne q=>kp c o ?_)))
 show(VZ _ _ _).get? c=_
 rw[Ws _ _ (We ne)];exact q
theorem zyU{t ex:wg}{items:Array wf}{Q:List wf->wl->Prop}(n:oG A s.heap ex)(ht:IsTup s.heap t items)
  (hQ:∀h',Q6 s.heap.objs.size s.heap h'->Q items.toList {s with heap:=h'}):wq (model prog w) A (unpackItems (.ref t) items.size none) Q E s:=by
 have hlt:t≠s.heap.objs.size:=by obtain⟨o,ho,_⟩:=ht;exact wL (wy ho)
 obtain⟨hhd,oe,vs,he,de,h2⟩:=n;have hxl:ex≠s.heap.objs.size:=wL (wy he);unfold unpackItems;refine we ?_;unfold notIterableAtAll;refine we (qw ht.typeIs slot_tuple_iter.lookup (wp ?_));simp only[vT,if_false];refine we (vN (iter_tuple ht (we (vN (draw_tuple hlt items.size 0 _ _ ⟨_,wN _ rfl,rfl,rfl⟩ (ht.push _) (by lia) λh₁ hit₁ hs₁=>?_)))))
 have hall:List.take items.size (List.drop 0 items.toList)=items.toList:=by
  rw[xi];exact Vf (by simp)
 rw[hall,if_neg (by simp)];have ht₁ : IsTup h₁ t items:=(ht.push _).extBut hs₁.extBut hlt;refine we (vN (zsg (ex:=ex) ⟨hhd,oe,vs,(hs₁.2 ex hxl).trans (wn _ he),de,h2⟩ hxl hit₁ ht₁ (by simp) λh₂ he₂=>?_));simp only[Option.isSome_none,vT,if_false];exact wp (hQ h₂ λb o hb e=>he₂ b o hb (hs₁.extBut b o hb (wn _ e)))
end
section
variable{X:Cx}{ex:wg}{C:wf}{oe:Obj}{pins:List (wg × Obj)}{σ : St}{H:Hp}{s:wl}{pos:Pos}
theorem Hd.Ha(hd:Hd X ex C oe)(I:Inv X pins σ H s):oG X.A s.heap ex:=by
 obtain⟨e,_⟩:=I.pin (ex,oe) (Wf _ hd.pn);obtain⟨vs,d,h2⟩:=hd.ob.fld;exact⟨hd.hd,oe,vs,e,d,h2⟩
theorem Hd.block(hd:Hd X ex C oe){N':List Str}{scope:Scope}{cl:List (Str × wg)}{D:wg}{s₀ : wl}{H₀ : Hp}{fp:List wg} : Hd (c8 X N' scope cl D s₀ H₀ fp pins) ex C oe:=⟨hd.hd,Wf _ hd.pn,hd.ob⟩
theorem zxP{es:List Expr}{k:Nat}{t:hV}{n:Nat}(hd:Hd X ex C oe)(h:ma X es t)
  (hn:(Vg es X.env).length=n:=by rfl) (hst:(Vg es X.env).findIdx? (·.1)=none:=by rfl):PG X (.Tuple es k pos) (gD X.K n t):=by
 intro pins s σ H v u Q I r hw;obtain⟨a,xs,e1,hq,hl,hw⟩:=hw;subst e1;cases r;obtain⟨its,rv,ht,hz⟩:=I.tuple hq;have hlen:(Vg es X.env).length=its.toArray.size:=by simp[hn,<- hl,rv.length]
 rw[assign_Tuple];refine we (qh ?_);unfold unpack;rw[hlen,hst];refine we (vN (zyU (hd.Ha I) ht λh' hx=>?_));have I1:Inv X pins σ H {s with heap:=h'}:=I.kept (t':=s.toks) λb o e=>hx b o (wL (wy e)) e
 exact h pins _ σ H xs _ Q I1 (by simpa using rv) hw
theorem Zy{tg:Expr}(hd:Hd X ex C oe)(a it:wg):sN X tg (hW X.K a) [it] it (λi h=>h.IsListIter it a i) where
 item:=by
  intro i pins s σ H E I hf st hg;obtain⟨xs,x,hq,hx⟩:=hg;obtain⟨its,rv,p,hz⟩:=I.list hq;obtain⟨u,hu,ru⟩:=rv.get hx;obtain⟨f0,f1,f2,f3,f4,f5⟩:=hf it (by simp);refine wpAny_pyNext_list_item st p.isList (x:=u) (by simpa using hu) λh' st' sb=>?_
  have I1:Inv X pins σ H {s with heap:=h'}:=I.turned (t':=s.toks) (λb o hb e=>(sb.2 b hb).trans e) f0 f1 f3 f4 f5;obtain⟨o,e,c,d⟩:=id st';exact⟨u,rfl,rP (s:={s with heap:=h'}) e c d (by decide) ⟨x,H,I1,ru,⟨rfl,λys hy=>by rw[I.rn hy hq];exact hx⟩,st',λb hb=>(hf b hb).1⟩⟩
 done:=by
  intro i pins s σ H E I hf st hg;obtain⟨xs,hq,hx⟩:=hg;obtain⟨its,rv,p,hz⟩:=I.list hq;obtain⟨f0,f1,f2,f3,f4,f5⟩:=hf it (by simp);have hl:=rv.length;exact zuM (hd.Ha I) (f5 (ex,oe) (Wf _ hd.pn)) st p.isList (by simp;lia) λh' eb=>⟨rfl,I.turned (t':=s.toks) (λb o hb e=>eb b o hb e) f0 f1 f3 f4 f5⟩
def Ln(X:Cx)(tg iter:Expr)(wi:TI):Prop :=
 ∀(pins:List (wg × Obj))(s:wl)(σ : St)(H:Hp)(R:It->Hp->Prop),Inv X pins σ H s->wi σ H R ->
  wq (model X.prog X.w) X.A (eval iter X.env) (λv s1=>wq (model X.prog X.w) X.A (pyIter v) (λitv s2=>∃(it:wg)(fp:List wg)(tn:Nat->wM->Prop)(J:It)(H':Hp),itv=.ref it/\Inv X pins σ H' s2/\ia X.prog X.w X.K tg J fp it tn /\
   (∀(Y:Cx)(ex:wg)(C:wf)(oe:Obj),Y.prog=X.prog->Y.w=X.w->Y.K=X.K->Hd Y ex C oe->sN Y tg J fp it tn)/\tn 0 s2.heap/\(∀b∈fp,dX X pins H' b)/\R J H') X.xe s1) X.xe s
variable{tg l:Expr}{tl:TE}
theorem zwV(hl:PE X l tl):Ln X tg l (sR X.K tl):=by
 intro pins s σ H R I h;refine aH (hl pins s σ H _ I h) λv s1 ⟨x,H1,I1,r1,q1⟩=>?_
 obtain⟨a,e1,⟨xs,hq⟩,q1⟩:=q1;subst e1;cases r1;obtain⟨its,rv,p,hz⟩:=I1.list hq;refine V3 p.isList ?_;have I2:Inv X pins σ H1 {s1 with heap:=s1.heap.push {cls:=.type "list_iterator",data:=.fields #[.ref a,.int 0 0]}}:=I1.kept (t':=s1.toks) λb o e=>wn _ e
 refine⟨s1.heap.objs.size,[s1.heap.objs.size],_,_,H1,rfl,I2,C7 a _,λY ex C oe h1 h2 h3 hd=>?_,⟨_,wN _ rfl,rfl,rfl⟩,λb hb=>?_,q1⟩
 ·rw[<- h3]
  exact Zy hd a _
 ·have e:b=s1.heap.objs.size:=by simpa using hb
  subst e;exact I1.iI (wo _) (I1.aE.fresh (wo _))
variable{N':List Str}{scope:Scope}{cl:List (Str × wg)}{src:List (Option Nat)}{elt tgt iter:Expr}{ifs:List Expr}{wi:TI}{g:TG}{tt:TT}{te:TE}
theorem zrp(hd:Hd X ex C oe){i:Nat}{y:Str}{py spos:Pos}(hN:X.N.Nodup)(hy:X.N[i]? = some y)(hly:Loc X.env.scope y)(ok:cq X N' scope cl src)(hi:Ln X tgt iter wi)
  (hg:∀C s₀ H₀ fp pins,PG (c8 X N' scope cl C s₀ H₀ fp pins) tgt g) (ht:∀C s₀ H₀ fp pins,nu (c8 X N' scope cl C s₀ H₀ fp pins) ifs tt) (he:∀C s₀ H₀ fp pins,PE (c8 X N' scope cl C s₀ H₀ fp pins) elt te)
  (hsw:swapsWith (.ListComp elt [⟨tgt,iter,ifs,0⟩] scope pos) (some (.Name y py)) spos.line X.env=pure true:=by rfl)
  (hs:∀x,foldedSetIterable iter X.env x=pure x:=by intro _;rfl) (hf:X.fn y=true\/X.env.scope.names.lookup y=some .local:=by first | exact .inl rfl | exact .inr rfl | assumption) :
  PS X (.Assign [.Name y py] (.ListComp elt [⟨tgt,iter,ifs,0⟩] scope pos) spos) (j9 (jd src wi g tt te) (fI i)):=by
 intro pins s σ H D0 I h;rw[exec_Assign_Name_used _ _ _ _ hsw];refine we (qh (we ?_))
 show wq _ X.A (do let _ <- comprehension (.ListComp elt [⟨tgt,iter,ifs,0⟩] scope pos) scope X.env _ (newList []) false (eval iter X.env) (some (assign (.Name y py) X.env))) _ _ s
 refine we (Wr (qI (Q:=λ_ s'=>SP X pins D0 .next s') rfl hs ok.jv.jv ok.kind ok.names (aH (hi pins s σ H _ I h) λv s1 h1=>aH h1 λitv s2 h2=>?_))
  (λ_ s' hq=>wp (wp hq)) λ_ _ e=>e)
 obtain⟨it,fp,tn,J,H2,e,I2,T,TC,st2,f2,rd⟩:=h2;subst e;refine An (RQ:=λD H'=>fI i (.ref D) σ H' D0.nx) (RR:=λacc C=>compPost (model X.prog X.w) X.A X.xe (some (assign (.Name y py) X.env)) (λ_ s'=>SP X pins D0 .next s') acc C) (λ_ _ _=>TC _ ex C oe rfl rfl rfl hd.block) ok hg ht he I2 T st2 f2 rd ?_;intro D C H' s' m J hn hC q;obtain⟨c0,c1,_,c3,c4,c5⟩:=hC
 show wq _ _ (assign (.Name y py) X.env (.ref D)) _ _ s'
 refine wpAny_assign_Name (Cy J hN hy hly (v:=.ref D) rfl (λs'' J2 ⟨a,sb,ha⟩=>?_) hf)
 have hCa:C≠a:=by
  rcases ha with z | z
  ·rw[z];exact c1
  ·exact(c4 y a z).symm
 exact⟨m,hn.sameBut sb hCa,λh' sb'=>⟨_,H',J2.turned (t':=s''.toks) (λb o hb e=>(sb'.2 b hb).trans e) c0 c1 c3 c4 c5,q⟩⟩
end
structure gv(K:wb)(C:wg):Prop where
 ga:W4 K (.ref C) "__getattribute__"=some (some (.builtin "BaseException.__getattribute__"))
 gh:W4 K (.ref C) "__getattr__"=some none
 cl:(xB K C).isSome=true
 at_:W4 K (.ref C) "__class__"=some (some (.builtin "object.__class__"))
 gt:Qw K (.builtin "object.__class__") "__get__"=some (some (.builtin "getset_descriptor.__get__"))
 tk:XO K (.builtin "object.__class__")=some true
 mr:xy K C (.type "object")=some true
 be:xy K C (.type "BaseException")=some true
theorem ZP{K:wb}{C:wg}(c:gv K C):XX K C none "__class__"=some (.bind (.builtin "getset_descriptor.__get__") (.builtin "object.__class__")):=by
 obtain⟨cd,hc⟩:=VD.mp c.cl;unfold XX;rw[hc,XF,c.at_,XF];simp[c.gt,c.tk]
theorem zu1{M:Model}{A:w6}{E:wf->wl->Prop}{s:wl}{x C:wg}{nm:wf}{Q:Unit->wl->Prop}(L0:Qt M s.heap (typeOf (.ref x)) (.ref C))(L1:Qt M s.heap (isSubtype (.ref C) (.type "BaseException")) true)
  (hq:Q () s):wq M A (checkBuiltinCall "BaseException.__getattribute__" ⟨[.ref x,nm],[]⟩) Q E s:=by
 have hk:builtinKind "BaseException.__getattribute__"=some .slot:=by decide +kernel
 have hp:splitId "BaseException.__getattribute__"=some ("BaseException","__getattribute__"):=by decide +kernel
 have ha:=F.args_bexc_ga (.ref x) nm;have LI:Qt M s.heap (isInstance (.ref x) (.type "BaseException")) true:=L0.andThen L1;simp only[checkBuiltinCall,hk,hp];refine we (LI.at ?_)
 repeat(first | exact hq | assumption | wp_step)
theorem YS{prog:wO}{w:wR}{A:w6}{E:wf->wl->Prop}{s:wl}{K:wb}{x C:wg}{ox:Obj}{Q:Option wf->wl->Prop}(c:gv K C)(X:K.In s.heap)(I:xj s.heap x ox C none)
  (k:Q (some (.ref C)) {s with toks:=s.toks+1}):wq (model prog w) A (getAttr? (.ref x) "__class__") Q E s:=by
 obtain⟨hh,g,d,t,os⟩:=s;have L0:=I.type (M:=model prog w);have L1:=xt (M:=model prog w) X c.ga;have L2:=xt (M:=model prog w) X c.gh;have L3:=PySem.W.looks_mroIn (M:=model prog w) X c.be;have LF:=PySem.W.looks_find (M:=model prog w) X I (ZP c);unfold getAttr? getAttrBy? getAttrBy;refine we (wpAny_mkText (we (WA (vN (we (L0.at (we (L1.at ?_))))))))
 show wq _ _ (getAttrByItsOwn _ _ _ _ _ _) _ _ _
 unfold getAttrByItsOwn
 show wq _ _ (typeLookup (.ref C) "__getattr__" >>= _) _ _ _
 refine we (L2.at ?_);refine we (WA (vN ?_))
 show wq _ _ (boundAndCalled _ _ _) _ _ _
 unfold boundAndCalled;rw[Qm.ga.bind];refine we (wp ?_)
 show wq _ _ (call (.builtin "BaseException.__getattribute__") [.ref x,.str "__class__" t]) _ _ _
 refine wpAny_call (codeAny_call_builtin Qm.ga.plain F.entry_bexc_ga (zu1 L0 L3 ?_));unfold Builtin.«object.__getattribute__»;refine we (wp ?_);refine we (wp ?_);refine we (L0.at (we (LF.at ?_)))
 show wq _ _ (holding [_] (call (.builtin "getset_descriptor.__get__") [.builtin "object.__class__",.ref x,.ref C]) >>= ret) _ _ _
 refine we (vN (wpAny_call (PySem.W.class_get (ox:=ox) (od:=none) X I c.mr ?_)));exact wp (wp (wp k))
theorem Lv{K:wb}{x C:wg}{ox:Obj}(c:gv K C):PySem.W.KitX K (.ref x) (.ref C) (λh=>xj h x ox C none) where
 ty:=λ_ _ _ I=>I.type
 it:=λ_ _ X _=>by
  obtain⟨cd,hc⟩:=VD.mp c.cl;unfold xB at hc
  split at hc
  ·rename_i ho
   intro A' Q' E' s' k q;unfold isType loadHead;exact we (wpAny_loadPart (k _ _ (X _ _ ho)) (wp q))
  ·cases hc
 ne:=λh tp dd its n sl X htp=>by
  obtain⟨cd,hc⟩:=VD.mp c.cl;refine Bool.eq_false_iff.mpr λq=>?_
  have e:C=tp:=Value.ref.inj (beq_iff_eq.mp q);subst e;unfold xB at hc
  split at hc
  ·rename_i ho
   have z:=(X _ _ ho).symm.trans htp;cases z
  ·cases hc
 ca:=λ{_ _ _ _ _ s} X I k=>YS c X I k
def BW(K:wb)(ex:wg)(C:wf):List V->Hp->VK->Prop:=λxs H Q=>∃(C':wg)(b:Bool),C=.ref C'/\gv K C' /\
 ((∃D,xs=[.ref ex,.ref D]/\wC K (.ref C') (.ref D)=some b) \/ ∃T,xs=[.ref ex,.ty T]/\wC K (.ref C') (.type T)=some b)/\Q (.bl b) H
theorem iW{X:Cx}{ex:wg}{C:wf}{oe:Obj}(hd:Hd X ex C oe):aY X (.builtin "isinstance") (BW X.K ex C):=by
 intro pins s σ H xs us Q I r h;obtain⟨C',b,rfl,c,h,q⟩:=h;obtain⟨e,_⟩:=I.pin (ex,oe) (Wf _ hd.pn);obtain⟨vs,d,_⟩:=hd.ob.fld;have J:xj s.heap ex oe C' none:=⟨e,hd.ob.cls,by unfold PySem.W.notCls;rw[d],by rw[hd.ob.dict];trivial⟩;have fin:∀tk,EP X pins σ Q (.bool b) {s with toks:=tk}:=λtk=>⟨.bl b,H,I.tok _,rfl,q⟩
 rcases h with⟨D,rfl,k⟩ | ⟨T,rfl,k⟩
 ·obtain⟨u,w',rfl,rx,rt⟩:=ki r
  cases (show u=Value.ref ex from rx);cases (show w'=Value.ref D from rt);exact WJ (Lv c) I.cW J k (λz=>nomatch z) fin
 ·obtain⟨u,w',rfl,rx,rt⟩:=ki r
  cases (show u=Value.ref ex from rx);cases (show w'=Value.type T from rt);exact WJ (Lv c) I.cW J k (λz=>nomatch z) fin
def nU(K:wb)(g:TG)(tt:TT)(te:TE)(src:List (Option Nat))(σ : St)(x:V)(H1:Hp)(Q:VK):Prop :=
 ∃a,x=.ref a/\(∃xs,aI K H1 a xs) /\ ∀D,H1 D=none->jJ g tt te (hW K a) D (dC src σ) (upd H1 D (.lst [])) (λH'=>Q (.ref D) H')
def rO(K:wb)(g:TG)(tt:TT)(te:TE)(src:List (Option Nat))(σ : St)(x:V)(H1:Hp)(Q:VK):Prop :=
 ∃a,x=.ref a/\(∃xs,aU K H1 a xs) /\ ∀D,H1 D=none->jJ g tt te (iV K a) D (dC src σ) (upd H1 D (.lst [])) (λH'=>Q (.ref D) H')
def Cp(g:TG)(tt:TT)(te:TE)(src:List (Option Nat))(σ : St)(vs:List V)(H1:Hp)(Q:VK):Prop :=
 ∃j:Int,vs=[.int j] /\ -(2^62)<=j/\j<2^62 /\ ∀D,H1 D=none->jJ g tt te (fK 0 j.toNat) D (dC src σ) (upd H1 D (.lst [])) (λH'=>Q (.ref D) H')
section
variable{K:wb}{g:TG}{tt:TT}{te ta:TE}{tA:TA}{src:List (Option Nat)}{σ : St}{H:Hp}{Q:VK}{a:wg}{xs:List V}{n:Int}
theorem zvI(h:ta σ H λx H1=>nU K g tt te src σ x H1 Q):jd src (sR K ta) g tt te σ H Q:=h
theorem zv7(h:ta σ H λx H1=>rO K g tt te src σ x H1 Q):jd src (DN K ta) g tt te σ H Q:=h
theorem Y6(h:tA σ H λvs H1=>Cp g tt te src σ vs H1 Q):jd src (Bc tA) g tt te σ H Q:=h
def nQ(Pv:wg->Nat->List V->St->Hp->Prop)(D:wg)(i:Nat)(σ3:St)(y:V)(H5:Hp):Prop :=
 ∃ys,H5 D=some (.lst ys)/\ys.length<w8 /\ ∃ys',Pv D (i+1) ys' σ3 (upd H5 D (.lst (ys++[y])))
def gz(Pv:wg->Nat->List V->St->Hp->Prop)(g:TG)(tt:TT)(te:TE)(D:wg)(i:Nat)(x:V)(σ':St)(H':Hp):Prop :=
 g x σ' H' λσ3 H3=>tt σ3 H3 λok H4=>if ok=true then te σ3 H4 λy H5=>nQ Pv D i σ3 y H5 else ∃ys',Pv D (i+1) ys' σ3 H4
theorem kQ{Pv:wg->Nat->List V->St->Hp->Prop}{D:wg}{i:Nat}{σ3:St}{y:V}{H5:Hp}{ys:List V}(h:H5 D=some (.lst ys))(z:ys.length<=1000)(q:∀H6,Exc D H5 H6->H6 D=some (.lst (ys++[y]))->Pv D (i+1) (ys++[y]) σ3 H6):nQ Pv D i σ3 y H5 :=
 ⟨ys,h,jB z,_,q _ (Exc.upd D H5 _) cO⟩
theorem Bo{J:It}{N:Nat}{D:wg}{σ0:St}{H0:Hp}{R:Hp->Prop}(Pv:wg->Nat->List V->St->Hp->Prop)(item:Nat->V->Prop)(h0:Pv D 0 [] σ0 H0)
  (stop:∀i ys σ' H',Pv D i ys σ' H'->N<=i->J.stop i H') (go:∀i ys σ' H',Pv D i ys σ' H'->i<N->J.go i H') (ft:∀i ys σ' H' x H2,Pv D i ys σ' H'->J.ft i H' x H2->H2=H'/\item i x)
  (hs:∀i x ys σ' H',i<N->item i x->Pv D i ys σ' H'->gz Pv g tt te D i x σ' H') (hd:∀ys σ' H',Pv D N ys σ' H'->R H'):jJ g tt te J D σ0 H0 R:=by
 refine⟨λi m σ' H'=>i+m=N /\ ∃ys,Pv D i ys σ' H',⟨N,by lia,[],h0⟩,?_⟩;rintro i m σ' H' ⟨him,ys,hp⟩
 by_cases hm:m=0
 ·subst hm
  have e:i=N:=by lia
  subst e;exact .inl ⟨stop _ _ _ _ hp (wo _),hd _ _ _ hp⟩
 ·refine .inr ⟨go _ _ _ _ hp (by lia),λσ2 H2=>∃ys,Pv D (i+1) ys σ2 H2,λσ2 H2 h=>⟨m-1,by lia,by lia,h⟩,λx H2 hy2=>?_⟩
  obtain⟨e,hit⟩:=ft _ _ _ _ _ _ hp hy2;subst e;exact hs i x ys σ' H2 (by lia) hit hp
theorem pC(hx:aI K H a xs)(Pv:wg->Nat->List V->St->Hp->Prop)(h0:∀D H',H D=none->ah H H'->H' D=some (.lst [])->Pv D 0 [] (dC src σ) H')(hl:∀D i ys σ' H',Pv D i ys σ' H'->aI K H' a xs)
  (hs:∀D i x ys σ' H',xs[i]? = some x->Pv D i ys σ' H'->gz Pv g tt te D i x σ' H') (hd:∀D ys σ' H',Pv D xs.length ys σ' H'->Q (.ref D) H'):nU K g tt te src σ (.ref a) H Q:=by
 refine⟨a,rfl,⟨xs,hx⟩,λD hD=>Bo (N:=xs.length) Pv (λi x=>xs[i]? = some x) (h0 D _ hD (ah.upd hD) cO) (λi ys σ' H' hp hi=>⟨xs,hl _ _ _ _ _ hp,hi⟩) (λi ys σ' H' hp hi=>?_) (λi ys σ' H' x H2 hp hy=>?_)
  (λi x ys σ' H' _ hit hp=>hs D i x ys σ' H' hit hp) (hd D)⟩
 ·exact⟨xs,xs[i],hl _ _ _ _ _ hp,by simp[hi]⟩
 ·obtain⟨e,hy⟩:=hy
  exact⟨e,hy xs (hl _ _ _ _ _ hp)⟩
theorem zsR(hx:aU K H a xs)(Pv:wg->Nat->List V->St->Hp->Prop)(h0:∀D H',H D=none->ah H H'->H' D=some (.lst [])->Pv D 0 [] (dC src σ) H')(hl:∀D i ys σ' H',Pv D i ys σ' H'->aU K H' a xs)
  (hs:∀D i x ys σ' H',xs[i]? = some x->Pv D i ys σ' H'->gz Pv g tt te D i x σ' H') (hd:∀D ys σ' H',Pv D xs.length ys σ' H'->Q (.ref D) H'):rO K g tt te src σ (.ref a) H Q:=by
 refine⟨a,rfl,⟨xs,hx⟩,λD hD=>Bo (N:=xs.length) Pv (λi x=>xs[i]? = some x) (h0 D _ hD (ah.upd hD) cO) (λi ys σ' H' hp hi=>⟨xs,hl _ _ _ _ _ hp,hi⟩) (λi ys σ' H' hp hi=>?_) (λi ys σ' H' x H2 hp hy=>?_)
  (λi x ys σ' H' _ hit hp=>hs D i x ys σ' H' hit hp) (hd D)⟩
 ·exact⟨xs,xs[i],hl _ _ _ _ _ hp,by simp[hi]⟩
 ·obtain⟨e,hy⟩:=hy
  exact⟨e,hy xs (hl _ _ _ _ _ hp)⟩
theorem SE(h0' : -1000000000<=n)(h1:n<1000000000)(Pv:wg->Nat->List V->St->Hp->Prop)(h0:∀D H',H D=none->ah H H'->H' D=some (.lst [])->Pv D 0 [] (dC src σ) H')
  (hs:∀D (i:Nat) ys σ' H',i<n.toNat->Pv D i ys σ' H'->gz Pv g tt te D i (.int (i:Int)) σ' H') (hd:∀D ys σ' H',Pv D n.toNat ys σ' H'->Q (.ref D) H'):Cp g tt te src σ [.int n] H Q:=by
 refine⟨n,rfl,by lia,by lia,λD hD=>Bo (N:=n.toNat) Pv (λi x=>x=.int (i:Int)) (h0 D _ hD (ah.upd hD) cO) (λi ys σ' H' hp hi=>hi) (λi ys σ' H' hp hi=>hi) (λi ys σ' H' x H2 hp hy=>?_)
  (λi x ys σ' H' hi hit hp=>?_) (hd D)⟩
 ·obtain⟨e,hy⟩:=hy
  exact⟨e,by rw[hy,Int.zero_add]⟩
 ·subst hit
  exact hs D i ys σ' H' hi hp
end
structure yJ(u' u:TS):Prop where
 e:u'=u
theorem Ux{t u:TS}{D:cj}{σ : St}{H:Hp}(h:∀u',yJ u' u->t {D with nx:=u' D} σ H):AH t u D σ H:=h u ⟨rfl⟩
theorem yJ.go{u' u:TS}{D:cj}{σ : St}{H:Hp}(e:yJ u' u)(h:u D σ H):u' D σ H:=by rw[e.e];exact h
theorem znE:vK "ValueError"=some (.type "ValueError"):=by decide +kernel
theorem zwx{X:Cx}{ex:wg}{C:wf}{oe:Obj}{N':List Str}{scope:Scope}{cl:List (Str × wg)}{D:wg}{s₀ : wl}{H₀ : Hp}{fp:List wg}{pins:List (wg × Obj)}{es:List Expr}{k:Nat}{pos:Pos}{t:hV}{n:Nat}(hd:Hd X ex C oe)
  (h:ma (c8 X N' scope cl D s₀ H₀ fp pins) es t) (hn:(Vg es (c8 X N' scope cl D s₀ H₀ fp pins).env).length=n:=by rfl) (hst:(Vg es (c8 X N' scope cl D s₀ H₀ fp pins).env).findIdx? (·.1)=none:=by rfl) :
  PG (c8 X N' scope cl D s₀ H₀ fp pins) (.Tuple es k pos) (gD X.K n t):=zxP hd.block h hn hst
theorem Ku{P:wO}{w:wR}{X:Cx} : nE (eI P w) X E0:=λ_ _ _ _ _ _ _ h=>by
 obtain⟨_,_,_,_,_,_,_,_,_,_,_,q⟩:=h;exact q.elim
theorem iS.oN{P:wO}{w:wR}{K:wb}{mg:Str->Option wf}{base:wM}{x qual:Str}{st:ve}{f:wg}{fd:wE}{N ps:List Str}{k:Nat}{sp:Sp}(F:iS K x qual st f fd)(S:aS N ps (aA st))(len:∀vs H Q E,sp vs H Q E->vs.length=ps.length)
  (hbody:∀(cdv:wf)(A:w6)(outer:List Env)(s:wl)(H:Hp)(vs:List V)(Q:VK)(E:XK),dm k (A.deeper (envOfC qual (aA st) s.heap.objs.size f cdv))->sp vs H Q E ->
   ∃t,eQ (gu (eI P w) P w K mg base N qual (aA st) f cdv A outer s H E) (jM st) t/\t {nx:=λ_ H'=>Q .bM H',rt:=Q} (start N vs) H):aO P w K mg base (eI P w) (k+1) f fd ps sp:=by
 obtain⟨oc,od,kV,doc,pm,an,cdv,ct,osl,rfl,lk,hcd⟩:=F.ex;exact Hu lk hcd S len λA outer s H vs Q E hr hsp=>hbody cdv A outer s H vs Q E hr hsp
theorem Exc.back{p:wg}{H H' H2:Hp}(b:Exc p H' H2)(s:Exc p H H'):Exc p H H2:=s.trans b
theorem MW{X:Cx}{i j v:Int}{k1 k2:Nat}{p1 p2 pos:Pos}(hc:LO i j)(hv:i^j.toNat=v):PE X (.BinOp (.Constant (.int i) k1 p1) .Pow (.Constant (.int j) k2 p2) pos) (tC (.int v)):=by
 subst hv;exact λpins s σ H Q I h=>(aC zAD az az:PE X _ _) pins s σ H Q I ⟨i,j,rfl,rfl,hc,h⟩
theorem Uh{α : Type}[DecidableEq α]{x : α}{A B:Prop}(h:B):if(!decide (x=x))=true then A else B:=by simpa using h
theorem zu3{α : Type}[DecidableEq α]{x : α}{A B:Prop}(h:A):if decide (x=x)=true then A else B:=by simpa using h
section
variable{K:wb}{σ : St}{H H':Hp}{Q:VK}{QB:Bool->Hp->Prop}{D:cj}{t:TA}{v w:V}{xs ys:List V}{m n:Int}{r:Rat}{p:wg}
theorem S_{A B:Prop}(h:B):if(!true)=true then A else B:=by simpa using h
theorem Sr{A B:Prop}(h:A):if(!false)=true then A else B:=by simpa using h
theorem Yh{a b:V}(h:H p=some (.lst [a,b]))(h0:0<=m)(h1:m<2)(q:∀z,z=a\/z=b->Q z H):cK K (.ref p) (.int m) H Q :=
 B8 (λz=>z=a\/z=b) (aI.of h) h0 (by simpa using h1) (by simp) q
theorem YU{a b:Int}(h:H p=some (.lst [.int a,.int b]))(h0:0<=m)(h1:m<2)(q:∀z,z=a\/z=b->Q (.int z) H):cK K (.ref p) (.int m) H Q :=
 Yh h h0 h1 λz hz=>by rcases hz with rfl | rfl;exact q _ (.inl rfl);exact q _ (.inr rfl)
theorem zxZ{a b c d:Int}(h:H p=some (.lst [.int a,.int b,.int c,.int d]))(h0:0<=m)(h1:m<4)(q:∀z,z=a\/z=b\/z=c\/z=d->Q (.int z) H):cK K (.ref p) (.int m) H Q:=by
 refine B8 (λv=>∃z,v=.int z/\(z=a\/z=b\/z=c\/z=d)) (aI.of h) h0 (by simpa using h1) (λx hx=>?_) λx hx=>?_
 ·simp only[wQ,Va,or_false]at hx
  rcases hx with rfl | rfl | rfl | rfl
  ·exact⟨_,rfl,by simp⟩
  ·exact⟨_,rfl,by simp⟩
  ·exact⟨_,rfl,by simp⟩
  ·exact⟨_,rfl,by simp⟩
 ·obtain⟨z,rfl,hz⟩:=hx
  exact q z hz
theorem zxO(a b:Int):wA (.int a) (.int b)=decide (a=b):=by rw[wA,V5]
theorem zoY{x y:Rat}(h1:x.num=y.num)(h2:(x.den:Int)=y.den):x=y:=by
 have h2':x.den=y.den:=by lia
 exact Rat.ext h1 h2'
theorem sE(x y:Rat):wA (N x) (N y)=decide (x=y):=by
 have e:wA (N x) (N y)=(decide (x.num=y.num)&&decide ((x.den:Int)=y.den)):=by
  simp only[N,wA,Wk,uh,V5]
 rw[e,vy,wV,decide_eq_true_eq,decide_eq_true_eq,decide_eq_true_eq]
 constructor
 ·rintro ⟨h1,h2⟩;exact zoY h1 h2
 ·rintro rfl;exact⟨rfl,rfl⟩
theorem yZ(x:Rat):vU (N x)=true:=by simp[N,vU,Wa,Wm,Vj,WC]
theorem C9{x y:Rat}(h:Is K H v (N x))(k:Is K H w (N y))(q:Q (.bl (decide (x=y))) H):cN K v w H Q:=jZ h k (yZ x) (yZ y) (by rw[sE];exact q)
theorem Hx{x y:Rat}(h:Is K H v (N x))(k:Is K H w (N y))(q:Q (.bl (!decide (x=y))) H):ee K v w H Q:=kI h k (yZ x) (yZ y) (by rw[sE];exact q)
end
theorem YW{X:Cx} : aJ X (wT .In) (kB X.K false):=zva
theorem zuO{X:Cx} : aJ X (wT .NotIn) (kB X.K true):=zoQ
def R(a b:Rat):wz:=.tuple [N a,N b]
theorem DI(a b:Rat):cB (R a b)=true:=by simp[R,cB,b7,lF]
structure aR(a b:Rat):Prop where
 a0:0<a
 a4:a<=4
 ad:a.den<=8
 b0:0<=b
 b1:b<=1
 bd:b.den<=12
 ab:1<=a+b
theorem aR.ba{a b:Rat}(h:aR a b):ag 10 a:=ag.small (c:=4) (d:=8) (vS h.a0) h.a4 h.ad (by decide) (by decide)
theorem aR.bb{a b:Rat}(h:aR a b):ag 10 b:=ag.small (c:=1) (d:=12) h.b0 h.b1 h.bd (by decide) (by decide)
section
variable{K:wb}{H:Hp}{Q:VK}{v:V}{a b:Rat}{σ : St}{gs:hV}{QS:St->Hp->Prop}
theorem zyt(h:Is K H v (R a b))(q:∀x,Is K H x (N a)->Q x H):cK K v (.int 0) H Q:=aG (j:=0) h rfl q
theorem zyy(h:Is K H v (R a b))(q:∀x,Is K H x (N b)->Q x H):cK K v (.int 1) H Q:=aG (j:=1) h rfl q
theorem Is.lZ{H':Hp}(h:Is K H v (R a b))(s:br H H'):Is K H' v (R a b):=Is.keep s _ v (DI a b) h
theorem zwY(h:Is K H v (R a b))(q:∀x y,Is K H x (N a)->Is K H y (N b)->gs [x,y] σ H QS):gD K 2 gs v σ H QS :=
 LR h rfl λxs t=>by
  obtain⟨x,r1,rfl,h1,t⟩:=dh.mp t;obtain⟨y,r2,rfl,h2,t⟩:=dh.mp t;rw[fm.mp t];exact q x y h1 h2
theorem YM{x y:V}(h1:Is K H x (N a))(h2:Is K H y (N b))(q:∀v H',ah H H'->Is K H' v (R a b)->Q v H'):lh K [x,y] H Q :=
 bX (by show 2<=1000;decide) (.cons h1 (.cons h2 .nil)) q
end
section
variable{K:wb}{H H' H2:Hp}{Q:VK}{v w:V}{a b c d:Rat}{D:wg}
theorem zu5(h:Is K H v (R a b))(q:Q (.bl true) H):jf K [v,.ty "tuple"] H Q:=Jo h q
theorem TR(h:Is K H v (R a b))(q:Q (.int 2) H):dg K [v] H Q:=nX h q
theorem ah.grow(s:ah H H')(n:H D=none)(e:Exc D H' H2):ah H H2:=λb o h=>e b o (hZ h n) (s b o h)
end
theorem Tj{σ : St}{H:Hp}{Q:Bool->Hp->Prop}(q:Q true H):MH σ H Q:=q
theorem B9{Pv:wg->Nat->List V->St->Hp->Prop}{g:TG}{tt:TT}{te:TE}{D:wg}{i:Nat}{x:V}{σ':St}{H':Hp}(h:g x σ' H' λσ3 H3=>tt σ3 H3 λok H4=>if ok=true then te σ3 H4 λy H5=>nQ Pv D i σ3 y H5 else ∃ys',Pv D (i+1) ys' σ3 H4) :
  gz Pv g tt te D i x σ' H':=h
section
variable{K:wb}{σ : St}{H:Hp}{Q:VK}{E:XK}{D:cj}{t:TA}{C G:wf}{i:Nat}{tb:(St->XK)->TS}{th:wg->wf->TS}{sp:Sp}{W:St->XK}{ex C':wg}{b:Bool}
theorem Ze(h:t σ H λvs H1=>vs.length<=w8/\E C none H1):L9 C E t D σ H:=h
theorem Yd(W:St->XK)(h:tb W D σ H) (k:∀σ' C o H',W σ' C o H'->V7 K C G=some true /\
  ∀ex,H' ex=none->th ex C {nx:=λσ2 H2=>D.nx (σ2.set i none) H2,rt:=D.rt,bk:=λσ2 H2=>D.bk (σ2.set i none) H2,ct:=λσ2 H2=>D.ct (σ2.set i none) H2} (σ'.set i (some (.ref ex))) H'):NS K G i tb th D σ H:=⟨W,h,k⟩
theorem ZY(h:t σ H λvs H1=>sp vs H1 Q (W σ)):Bh sp W t σ H Q:=h
theorem TX{D':wg}(c:gv K C')(k:wC K (.ref C') (.ref D')=some b)(q:Q (.bl b) H):BW K ex (.ref C') [.ref ex,.ref D'] H Q:=⟨C',b,rfl,c,.inl ⟨D',rfl,k⟩,q⟩
theorem zvc{T:String}(c:gv K C')(k:wC K (.ref C') (.type T)=some b)(q:Q (.bl b) H):BW K ex (.ref C') [.ref ex,.ty T] H Q:=⟨C',b,rfl,c,.inr ⟨T,rfl,k⟩,q⟩
end
theorem Bq(s:String):uv (vH s)=true:=by
 rw[Str.ofString_eq_toList,uv];simp only[List.all_toArray,xV,Wl,Function.comp,decide_eq_true_eq];intro c _;have:=c.valid;simp only[Char.toNat];rcases this with h | h
 ·have:c.val.toNat<0xd800:=h
  lia
 ·exact h.2
inductive fD(K:wb)(H:Hp):List V->List (Str × Bool)->Prop
 | nil:fD K H [] []
 | cons {x:V} {xs:List V} {w:Str} {b:Bool} {ws:List (Str × Bool)} : Is K H x (.tuple [.str w,.bool b])->fD K H xs ws->fD K H (x::xs) ((w,b)::ws)
theorem fD.get{K:wb}{H:Hp}{xs:List V}{ws:List (Str × Bool)}(h:fD K H xs ws):∀(i:Nat)(x:V),xs[i]? = some x->∃w b,ws[i]? = some (w,b)/\Is K H x (.tuple [.str w,.bool b]):=by
 induction h with
 | nil=>intro i x e;simp at e
 | cons h _ ih =>
  intro i x e;cases i with
  | zero=>simp at e;subst e;exact⟨_,_,rfl,h⟩
  | succ i=>exact ih i x (by simpa using e)
theorem ZZ{K:wb}{H H':Hp}{v:V}{d:wz}(h:Is K H v d)(s:ah H H'):Is K H' v d:=h.by s
theorem fD.app{K:wb}{H:Hp}{xs ys:List V}{ws us:List (Str × Bool)}(h:fD K H xs ws)(h':fD K H ys us):fD K H (xs++ys) (ws++us):=by
 induction h with
 | nil=>exact h'
 | cons h _ ih=>exact .cons h ih
theorem fD.len{K:wb}{H:Hp}{xs:List V}{ws:List (Str × Bool)}(h:fD K H xs ws):xs.length=ws.length:=by
 induction h with
 | nil=>rfl
 | cons _ _ ih=>simp[ih]
def je(ws:List (Str × Bool)):List V:=(ws.filter (·.2)).map λp=>V.str p.1
theorem M5{ws:List (Str × Bool)}{i:Nat}{w:Str}{b:Bool}(e:ws[i]? = some (w,b)):je (ws.take (i+1))=je (ws.take i)++if b=true then [V.str w]else []:=by
 unfold je;rw[V1,e];cases b<;>simp
theorem zAq(ws:List (Str × Bool)):(je ws).length<=ws.length:=by
 unfold je;rw[wm];exact Wx _ _
theorem UJ{K:wb}{H:Hp}{Q:VK}{σ : St}{c:wg}{xs:List V}{ws:List (Str × Bool)}(h:H c=some (.lst xs))(hw:fD K H xs ws)(hl:ws.length<=100)(q:∀D H',ah H H'->H' D=some (.lst (je ws))->Q (.ref D) H') :
  nU K (gD K 2 (uH (fI 0) (uH (fI 1) BP))) (tB (lG 1)) (lG 0) [none,none] σ (.ref c) H Q:=by
 refine pC (aI.of h) (λD i ys σ' H'=>(∃o1 o2,σ'=[o1,o2])/\H D=none/\ah H H'/\H' D=some (.lst ys)/\ys=je (ws.take i)) (λD H' n s e=>⟨⟨_,_,rfl⟩,n,s,e,by simp[je]⟩) (λD i ys σ' H' h'=>aI.of (h'.2.2.1 _ _ h)) ?_ ?_
 ·rintro D i x ys σ' H' hx ⟨⟨o1,o2,rfl⟩,hn,S,hD,rfl⟩
  obtain⟨w,b,ew,iw⟩:=hw.get i x hx
  have hz:(je (ws.take i)).length<=1000:=by
   have h1:=zAq (ws.take i);have h2:(ws.take i).length<=ws.length:=by rw[Wz];lia
   lia
  refine B9 (LR (iw.by S) rfl λzs t=>?_);obtain⟨z1,r1,rfl,e1,t⟩:=dh.mp t;obtain⟨z2,r2,rfl,e2,t⟩:=dh.mp t;cases fm.mp t;cases cU.mp e1;cases kY.mp e2;refine Cb (DF (Cb (DF (Jr ?_))));refine LW (Ek rfl (Mi ?_));cases b with
  | false =>
   refine lP ⟨_,⟨_,_,rfl⟩,hn,S,hD,?_⟩;rw[M5 ew];simp
  | true =>
   refine kP (Ek rfl (kQ hD hz λH6 E6 e6=>⟨⟨_,_,rfl⟩,hn,S.grow hn E6,e6,?_⟩));rw[M5 ew];simp
 ·rintro D ys σ' H' ⟨_,hn,S,hD,rfl⟩
  rw[hw.len,Wt]at hD;exact q D H' S hD
theorem dP{K:wb}{H:Hp}{c:wg}{p q:Int}(r:Rat)(h:aU K H c [.int p,.int q])(e1:r.num=p)(e2:(r.den:Int)=q):Is K H (.ref c) (N r):=by
 subst e1 e2;exact bV.mpr ⟨c,_,rfl,h,dh.mpr ⟨_,_,rfl,bS.mpr rfl,dh.mpr ⟨_,_,rfl,bS.mpr rfl,fm.mpr rfl⟩⟩⟩
theorem kA(s:String):vU (.str (vH s))=true:=by
 simp[vU,Wa,Vj,Bq]
inductive BO(X:Cx):List Expr->List TE->Prop
 | nil:BO X [] []
 | cons {e:Expr} {es:List Expr} {te:TE} {ts:List TE} : (∀env,w5 (e::es) env=(false,eval e env)::w5 es env)->PE X e te->BO X es ts->BO X (e::es) (te::ts)
section
variable{K:wb}{H H' H2:Hp}{Q:VK}{R:Prop}{v w y:V}{p l:wg}{xs ys zs:List V}{ns:List Int}{m:Int}{σ : St}
end
section
variable{K:wb}{H H' H2:Hp}{Q:VK}{R:Prop}{v w y:V}{p l:wg}{xs ys zs:List V}{ns:List Int}{m:Int}{σ : St}{to:TE}{t:TA}{T:String}{r:V->List V->Hp->VK->Prop}
theorem ZC(h:to σ H λx H1=>tF K T x H1/\t σ H1 λxs H2=>r x xs H2 Q):Od K T r to t σ H Q:=h
theorem gU(h:aI K H p xs)(q:R):tF K "list" (.ref p) H/\R:=⟨.inl ⟨rfl,xs,h⟩,q⟩
theorem jc(h:H l=some (.lst xs))(z:xs.length<=1000)(q:∀H',Exc l H H'->H' l=some (.lst (xs++[y]))->Q .bM H'):Hv (.ref l) [y] H Q:=⟨l,xs,y,rfl,rfl,h,jB z,q _ (Exc.upd l H _) cO⟩
end
def eh(K:wb):List V->Hp->VK->Prop:=λxs H Q=>∃p ys,xs=[.ref p]/\((aI K H p ys /\ ∀l,H l=none->Q (.ref l) (upd H l (.tup ys)))\/(aU K H p ys/\Q (.ref p) H))
def oD(K:wb):List V->Hp->VK->Prop:=λxs H Q=>∃p ys,xs=[.ref p]/\(aI K H p ys\/aU K H p ys) /\ ∀l,H l=none->Q (.ref l) (upd H l (.lst ys))
theorem fq{X:Cx} : aY X (.type "tuple") (eh X.K):=znp
theorem Cr{X:Cx} : aY X (.type "list") (oD X.K):=zpa
def nv(K:wb):V->Option Int->Option Int->Hp->VK->Prop:=λx lo hi H Q=>HC K x lo hi H Q\/Jx K x lo hi H Q
theorem jH{X:Cx} : jb X (nv X.K):=Y2.or YY
section
variable{K:wb}{H H' H2:Hp}{Q:VK}{QO:Option Int->Hp->Prop}{R:Prop}{v w y:V}{p l:wg}{xs ys zs:List V}{ds es:List wz}{m:Int}{σ : St}{te:TE}{tl th:TO}{r:V->Option Int->Option Int->Hp->VK->Prop}{lo hi:Option Int}
theorem sr(h:aI K H p ys)(q:∀l H',H l=none->ah H H'->H' l=some (.tup ys)->Q (.ref l) H'):eh K [.ref p] H Q:=⟨p,ys,rfl,.inl ⟨h,λl hl=>q l _ hl (ah.upd hl) cO⟩⟩
theorem ie(h:Is K H v (.list ds))(q:∀w H',ah H H'->Is K H' w (.tuple ds)->Q w H'):eh K [v] H Q:=by
 obtain⟨a,xs,rfl,hs,t⟩:=cu.mp h;exact sr hs λl H' _ s e=>q _ H' s (bV.mpr ⟨l,xs,rfl,.of e,ao.same s ds xs t⟩)
theorem M9(h:Is K H v (.tuple ds))(q:Q v H):eh K [v] H Q:=by
 obtain⟨a,xs,rfl,hs,t⟩:=bV.mp h;exact⟨a,xs,rfl,.inr ⟨hs,q⟩⟩
theorem Dg(h:Is K H v (.tuple ds))(q:∀l H' ys,H l=none->ah H H'->H' l=some (.lst ys)->ao K H' ys ds->Q (.ref l) H'):oD K [v] H Q:=by
 obtain⟨a,xs,rfl,hs,t⟩:=bV.mp h;exact⟨a,xs,rfl,.inr hs,λl hl=>q l _ xs hl (ah.upd hl) cO (ao.same (ah.upd hl) ds xs t)⟩
theorem Y8(h:te σ H λx H1=>tl σ H1 λl H2=>th σ H2 λu H3=>r x l u H3 Q):OS r te tl th σ H Q:=h
theorem YB(q:QO none H):JM σ H QO:=q
theorem zyN(h:te σ H λx H1=>∃i,x=.int i/\QO (some i) H1):MB te σ H QO:=h
theorem zvv{RI:Int->Prop}(q:RI m):∃i,V.int m=V.int i/\RI i:=⟨m,rfl,q⟩
def hJ{α : Type}(xs:List α)(lo hi:Option Int):List α:=(xs.drop (HT.aZ xs.length 0 lo)).take (HT.aZ xs.length xs.length hi-HT.aZ xs.length 0 lo)
theorem ao.take:∀{ds:List wz}{xs:List V}(n:Nat),ao K H xs ds->ao K H (xs.take n) (ds.take n)
 | _,_,0,h=>by simp[ao.nil]
 | [],_,n+1,h=>by rw[fm.mp h];simp[ao.nil]
 | d::ds,_,n+1,h=>by
  obtain⟨x,r,rfl,q,t⟩:=dh.mp h;rw[xG,xG];exact .cons q (ao.take n t)
theorem ao.drop:∀{ds:List wz}{xs:List V}(n:Nat),ao K H xs ds->ao K H (xs.drop n) (ds.drop n)
 | _,_,0,h=>by simpa using h
 | [],_,n+1,h=>by rw[fm.mp h];simp[ao.nil]
 | d::ds,_,n+1,h=>by
  obtain⟨x,r,rfl,q,t⟩:=dh.mp h;rw[Qc,Qc];exact ao.drop n t
theorem ao.cut(h:ao K H xs ds):ao K H (jk xs lo hi) (hJ ds lo hi):=by
 unfold jk hJ;rw[h.length];exact(h.drop _).take _
theorem HI(h:aI K H p xs)(q:∀l H',H l=none->ah H H'->H' l=some (.lst (jk xs lo hi))->Q (.ref l) H'):nv K (.ref p) lo hi H Q:=.inl ⟨p,xs,rfl,h,λl hl=>q l _ hl (ah.upd hl) cO⟩
theorem pX(h:Is K H v (.list ds))(q:∀l H' ys,H l=none->ah H H'->H' l=some (.lst ys)->ao K H' ys (hJ ds lo hi)->Q (.ref l) H'):nv K v lo hi H Q:=by
 obtain⟨a,xs,rfl,hs,t⟩:=cu.mp h;exact HI hs λl H' hl s e=>q l H' _ hl s e (ao.same s _ _ t.cut)
theorem Cz(h:Is K H v (.tuple ds))(hw:¬ (HT.aZ ds.length 0 lo=0/\HT.aZ ds.length ds.length hi=ds.length))(q:∀w H',ah H H'->Is K H' w (.tuple (hJ ds lo hi))->Q w H'):nv K v lo hi H Q:=by
 obtain⟨a,xs,rfl,hs,t⟩:=bV.mp h;refine .inr ⟨a,xs,rfl,hs,by rw[t.length];exact hw,λl hl=>q _ _ (ah.upd hl) (bV.mpr ⟨l,_,rfl,.of cO,ao.same (ah.upd hl) _ _ t.cut⟩)⟩
theorem O9{α : Type}(xs:List α):hJ xs none (some (-1))=xs.dropLast:=by
 unfold hJ
 show(xs.drop 0).take (((-1:Int)+(xs.length:Int)).toNat-0)=_
 rw[xi,xf]
 congr 1
 lia
theorem Jn{α : Type}(xs:List α):hJ xs (some 1) none=xs.tail:=by
 unfold hJ
 show(xs.drop (min 1 xs.length)).take (xs.length-min 1 xs.length)=_
 cases xs with
 | nil=>rfl
 | cons x xs =>
  have e:min 1 (x::xs).length=1:=by rw[vR];lia
  rw[e,Qc,xi,vR,qD,Wt,X6]
end
def TN(xs:List Rat):wz:=.tuple (xs.map N)
def LN(xs:List Rat):wz:=.list (xs.map N)
theorem gL:∀xs:List Rat,b7 (xs.map N)=true
 | []=>by simp[b7]
 | x::xs=>by rw[wZ,b7,lF,gL xs];rfl
theorem oU(xs:List Rat):cB (TN xs)=true:=by rw[TN,cB];exact gL xs
theorem zwF(x:Rat):(N x).canLay0=true:=by simp[N,Wa,Wm]
theorem Zg(x:Rat):(N x).depth=1:=by simp[N,Vj,WC]
theorem Du:∀xs:List Rat,Wm (xs.map N)=true
 | []=>by simp[Wm]
 | x::xs=>by rw[wZ,Wm,zwF,Du xs];rfl
theorem Kc:∀xs:List Rat,WC (xs.map N)<=1
 | []=>by simp[WC]
 | x::xs=>by
  have:=Kc xs;rw[wZ,WC,Zg];lia
theorem tU(xs:List Rat):vU (TN xs)=true:=by
 unfold vU TN;rw[Wa,Du,Vj,Qu];have:=Kc xs;exact decide_eq_true (by lia)
theorem Kg:∀xs ys:List Rat,Wk (xs.map N) (ys.map N)=decide (xs=ys)
 | [],[]=>by simp[Wk]
 | [],y::ys=>by simp[Wk]
 | x::xs,[]=>by simp[Wk]
 | x::xs,y::ys=>by
  rw[wZ,wZ,Wk,sE,Kg xs ys,vy,wV,decide_eq_true_eq,decide_eq_true_eq,decide_eq_true_eq,List.cons.injEq]
theorem DR(xs ys:List Rat):wA (TN xs) (TN ys)=decide (xs=ys):=by
 unfold TN;rw[wA,Kg]
section
variable{K:wb}{H H' H2:Hp}{Q:VK}{v w y:V}{p l:wg}{vs:List V}{xs ys:List Rat}{m:Int}{σ : St}
theorem Kr(h:Is K H v (TN xs))(k:Is K H w (TN ys))(q:Q (.bl (decide (xs=ys))) H):cN K v w H Q:=jZ h k (tU xs) (tU ys) (by rw[DR];exact q)
theorem Z7(h:Is K H v (TN xs))(k:Is K H w (TN ys))(q:Q (.bl (!decide (xs=ys))) H):ee K v w H Q:=kI h k (tU xs) (tU ys) (by rw[DR];exact q)
theorem Bf{i:Nat}(t:ao K H vs (xs.map N))(h:i<xs.length):∃x,vs[i]? = some x/\Is K H x (N (xs.getD i 0)):=by
 refine t.get ?_;rw[wu,wa,wc h]
 rfl
theorem dr{i:Nat}{x:V}(t:ao K H vs (xs.map N))(h:vs[i]? = some x):i<xs.length/\Is K H x (N (xs.getD i 0)):=by
 have hl:=t.length;rw[wm]at hl
 have hi:i<xs.length:=by
  rcases wB i vs.length with z | z
  ·lia
  ·rw[wF z]at h;cases h
 obtain⟨x',e,hx⟩:=Bf t hi;rw[h]at e;cases e;exact⟨hi,hx⟩
theorem ZS(h:Is K H v (TN xs))(h0:0<=m)(h1:m<xs.length)(q:∀x,Is K H x (N (xs.getD m.toNat 0))->Q x H):cK K v (.int m) H Q:=by
 obtain⟨a,vs,rfl,hs,t⟩:=bV.mp h;obtain⟨n,rfl⟩:∃n:Nat,m=(n:Int):=⟨m.toNat,by lia⟩;obtain⟨x,e,hx⟩:=Bf (i:=n) t (by lia);exact ow hs (jR e) (q x hx)
theorem kb(h:Is K H v (LN xs))(h0:0<=m)(h1:m<xs.length)(q:∀x,Is K H x (N (xs.getD m.toNat 0))->Q x H):cK K v (.int m) H Q:=by
 obtain⟨a,vs,rfl,hs,t⟩:=cu.mp h;obtain⟨n,rfl⟩:∃n:Nat,m=(n:Int):=⟨m.toNat,by lia⟩;obtain⟨x,e,hx⟩:=Bf (i:=n) t (by lia);exact g6 hs (jR e) (q x hx)
theorem Y4(h:Is K H v (LN xs))(q:Q (.int xs.length) H):dg K [v] H Q:=by
 obtain⟨a,vs,rfl,hs,t⟩:=cu.mp h;have:=t.length;rw[wm]at this;exact jG hs (by rw[this];exact q)
theorem dB(h:H l=some (.lst vs))(t:ao K H vs (xs.map N)):Is K H (.ref l) (LN xs):=cu.mpr ⟨l,vs,rfl,.of h,t⟩
theorem fU:∀{xs:List Rat}{vs:List V},vs.length=xs.length->(∀i x,vs[i]? = some x->Is K H x (N (xs.getD i 0)))->ao K H vs (xs.map N)
 | [],vs,hl,_=>by
  have:vs=[]:=WD hl;subst this;exact .nil
 | x::xs,[],hl,_=>by cases hl
 | x::xs,u::vs,hl,h=>by
  rw[wZ];exact .cons (h 0 u rfl) (fU (by simpa using hl) λi y e=>h (i+1) y e)
end
section
variable{K:wb}{g:TG}{tt:TT}{te:TE}{src:List (Option Nat)}{σ : St}{H:Hp}{Q:VK}{a:wg}{vs:List V}{n:Int}{tl:St}{o0:Option V}
def f_(H:Hp)(tl:St)(Rel:Nat->V->Hp->Prop)(D:wg)(i:Nat)(ys:List V)(σ':St)(H':Hp):Prop :=
 (∃o,σ'=o::tl)/\H D=none/\ah H H'/\H' D=some (.lst ys)/\ys.length=i /\ ∀j y,ys[j]? = some y->Rel j y H'
theorem f_.same{Rel:Nat->V->Hp->Prop}{D:wg}{i:Nat}{ys:List V}{σ':St}{H':Hp}(h:f_ H tl Rel D i ys σ' H'):ah H H':=h.2.2.1
theorem dW{Rel:Nat->V->Hp->Prop}{D:wg}{i:Nat}{ys:List V}{σ' σ3:St}{H1 H5:Hp}{y:V}(inv:f_ H tl Rel D i ys σ' H1)(hi:i<=1000)(hk:∀i v H1 H2,br H1 H2->Rel i v H1->Rel i v H2)(hσ : ∃o,σ3=o::tl)(s:ah H1 H5)(r:Rel i y H5):nQ (f_ H tl Rel) D i σ3 y H5:=by
 obtain⟨_,hn,s1,hD,hl,hr⟩:=inv;have hD5:=s _ _ hD;refine kQ hD5 (by lia) λH6 E6 e6=>⟨hσ,hn,(s1.trans s).grow hn E6,e6,by simp[hl],λj z hz=>?_⟩
 have k6:br H5 H6:=E6.keep hD5;rcases wB j ys.length with hj | hj
 ·rw[Wu hj]at hz
  exact hk _ _ _ _ (s.keep.trans k6) (hr j z hz)
 ·have hj':j=ys.length:=by
   rcases wB ys.length j with q | q
   ·rw[wF (by simp;lia)]at hz;cases hz
   ·lia
  subst hj';rw[vM (wo _),VI]at hz;cases hz;rw[hl];exact hk _ _ _ _ k6 r
theorem jA(hx:aI K H a vs)(hsrc:dC src σ = o0::tl)(Rel:Nat->V->Hp->Prop)(hs:∀D i x ys o H1,vs[i]? = some x->f_ H tl Rel D i ys (o::tl) H1->gz (f_ H tl Rel) g tt te D i x (o::tl) H1)
  (hd:∀D ys H',H D=none->ah H H'->H' D=some (.lst ys)->ys.length=vs.length->(∀j y,ys[j]? = some y->Rel j y H')->Q (.ref D) H'):nU K g tt te src σ (.ref a) H Q:=by
 refine pC hx (f_ H tl Rel) (λD H' n s e=>⟨⟨o0,hsrc⟩,n,s,e,rfl,λj y z=>by simp at z⟩) (λD i ys σ' H' h=>h.same.seq hx) ?_ λD ys σ' H' ⟨_,n,s,e,hl,r⟩=>hd D ys H' n s e hl r
 rintro D i x ys σ' H' hx' h;obtain⟨⟨o,rfl⟩,_⟩:=id h;exact hs D i x ys o H' hx' h
theorem iN(hx:aU K H a vs)(hsrc:dC src σ = o0::tl)(Rel:Nat->V->Hp->Prop)(hs:∀D i x ys o H1,vs[i]? = some x->f_ H tl Rel D i ys (o::tl) H1->gz (f_ H tl Rel) g tt te D i x (o::tl) H1)
  (hd:∀D ys H',H D=none->ah H H'->H' D=some (.lst ys)->ys.length=vs.length->(∀j y,ys[j]? = some y->Rel j y H')->Q (.ref D) H'):rO K g tt te src σ (.ref a) H Q:=by
 refine zsR hx (f_ H tl Rel) (λD H' n s e=>⟨⟨o0,hsrc⟩,n,s,e,rfl,λj y z=>by simp at z⟩) (λD i ys σ' H' h=>h.same.g_ hx) ?_ λD ys σ' H' ⟨_,n,s,e,hl,r⟩=>hd D ys H' n s e hl r
 rintro D i x ys σ' H' hx' h;obtain⟨⟨o,rfl⟩,_⟩:=id h;exact hs D i x ys o H' hx' h
theorem Z8(h0:0<=n)(h1:n<1000000000)(hsrc:dC src σ = o0::tl)(Rel:Nat->V->Hp->Prop)(hs:∀D (i:Nat) ys o H1,i<n.toNat->f_ H tl Rel D i ys (o::tl) H1->gz (f_ H tl Rel) g tt te D i (.int (i:Int)) (o::tl) H1)
  (hd:∀D ys H',H D=none->ah H H'->H' D=some (.lst ys)->ys.length=n.toNat->(∀j y,ys[j]? = some y->Rel j y H')->Q (.ref D) H'):Cp g tt te src σ [.int n] H Q:=by
 refine SE (by lia) h1 (f_ H tl Rel) (λD H' n s e=>⟨⟨o0,hsrc⟩,n,s,e,rfl,λj y z=>by simp at z⟩) ?_ λD ys σ' H' ⟨_,n,s,e,hl,r⟩=>hd D ys H' n s e hl r
 rintro D i ys σ' H' hi h;obtain⟨⟨o,rfl⟩,_⟩:=id h;exact hs D i ys o H' hi h
theorem fR{xs:List Rat} : ∀(i:Nat)(v:V)(H1 H2:Hp),br H1 H2->Is K H1 v (N (xs.getD i 0))->Is K H2 v (N (xs.getD i 0)):=λi v H1 H2 k h=>h.fZ k
end
theorem gP{H H':Hp}{l:wg}(s:ah H H')(h:H' l=none):H l=none:=by
 cases e:H l with
 | none=>rfl
 | some o=>rw[s _ _ e]at h;cases h
def TZ(ns:List Int):wz:=.tuple (ns.map PyData.int)
def LL(rss:List (List Rat)):wz:=.list (rss.map LN)
theorem LK:∀ns:List Int,b7 (ns.map PyData.int)=true
 | []=>by simp[b7]
 | n::ns=>by rw[wZ,b7,LK ns];rfl
theorem sv(ns:List Int):cB (TZ ns)=true:=by rw[TZ,cB];exact LK ns
section
variable{K:wb}{H H' H2:Hp}{Q:VK}{v w y:V}{p l:wg}{vs:List V}{ns:List Int}{rss:List (List Rat)}{m:Int}{σ : St}
theorem rV:∀{ns:List Int}{vs:List V},ao K H vs (ns.map PyData.int) ↔ vs=ns.map V.int
 | [],vs=>by rw[qy,fm];rfl
 | n::ns,vs=>by
  rw[wZ,dh,wZ]
  constructor
  ·rintro ⟨x,r,rfl,h,t⟩
   rw[bS.mp h,rV.mp t]
  ·rintro rfl
   exact⟨_,_,rfl,bS.mpr rfl,rV.mpr rfl⟩
theorem k_:Is K H v (TZ ns) ↔ ∃a,v=.ref a/\aU K H a (ns.map V.int):=by
 unfold TZ;rw[bV]
 constructor
 ·rintro ⟨a,xs,e,h,t⟩
  rw[rV.mp t]at h;exact⟨a,e,h⟩
 ·rintro ⟨a,e,h⟩
  exact⟨a,_,e,h,rV.mpr rfl⟩
theorem AF(h:Is K H v (TZ ns))(q:Q (.int ns.length) H):dg K [v] H Q:=nX h (by rw[wm];exact q)
theorem mH(h:Is K H v (TZ ns))(h0:0<=m)(h1:m<ns.length)(q:Q (.int (ns.getD m.toNat 0)) H):cK K v (.int m) H Q:=by
 obtain⟨a,rfl,hs⟩:=k_.mp h;obtain⟨n,rfl⟩:∃n:Nat,m=(n:Int):=⟨m.toNat,by lia⟩;refine ow hs (jR (j:=n) (v:=.int (ns.getD n 0)) ?_) q;rw[wu,wa,wc (by lia)]
 rfl
theorem J1{i:Nat}(t:ao K H vs (rss.map LN))(h:i<rss.length):∃x,vs[i]? = some x/\Is K H x (LN (rss.getD i [])):=by
 refine t.get ?_;rw[wu,wa,wc h]
 rfl
theorem Ow(h:Is K H v (LL rss))(h0:0<=m)(h1:m<rss.length)(q:∀x,Is K H x (LN (rss.getD m.toNat []))->Q x H):cK K v (.int m) H Q:=by
 obtain⟨a,vs,rfl,hs,t⟩:=cu.mp h;obtain⟨n,rfl⟩:∃n:Nat,m=(n:Int):=⟨m.toNat,by lia⟩;obtain⟨x,e,hx⟩:=J1 (i:=n) t (by lia);exact g6 hs (jR e) (q x hx)
theorem Cw{α : Type}{xs:List α}{x : α}(h:xs[xs.length-1]? = some x):gp xs (-1)=some x:=by
 have hl:0<xs.length:=by
  cases xs with
  | nil=>cases h
  | cons _ _=>simp
 unfold gp h9;rw[if_neg (by lia),if_pos (by lia)]
 show xs[((-1:Int)+(xs.length:Int)).toNat]? = some x
 rw[show((-1:Int)+(xs.length:Int)).toNat=xs.length-1 by lia];exact h
theorem C0(h:Is K H v (LL rss))(h0:0<rss.length)(q:∀x,Is K H x (LN (rss.getD (rss.length-1) []))->Q x H):cK K v (.int (-1)) H Q:=by
 obtain⟨a,vs,rfl,hs,t⟩:=cu.mp h;have hl:=t.length;rw[wm]at hl;obtain⟨x,e,hx⟩:=J1 (i:=rss.length-1) t (by lia);rw[<- hl]at e;exact g6 hs (Cw e) (q x hx)
theorem Dh:∀{rss:List (List Rat)}{vs:List V},vs.length=rss.length->(∀i x,vs[i]? = some x->Is K H x (LN (rss.getD i [])))->ao K H vs (rss.map LN)
 | [],vs,hl,_=>by
  have:vs=[]:=WD hl;subst this;exact .nil
 | x::xs,[],hl,_=>by cases hl
 | x::xs,u::vs,hl,h=>by
  rw[wZ];exact .cons (h 0 u rfl) (Dh (by simpa using hl) λi y e=>h (i+1) y e)
end
def yP(K:wb):R2:=λx y H Q=>OG K x y H Q \/ ∃a b ys,x=.ref a/\y=.ref b/\aU K H a []/\aU K H b ys/\Q (.ref b) H
theorem IM{X:Cx} : aJ X (WB .Add) (yP X.K):=by
 intro pins s σ H x y v u Q I rx ry h;rcases h with h | ⟨a,b,ys,rfl,rfl,ha,hb,q⟩
 ·exact SW pins s σ H x y v u Q I rx ry h
 ·cases rx
  cases ry;obtain⟨its,r1,p1,_⟩:=I.tuple ha;cases r1;obtain⟨its2,r2,p2,_⟩:=I.tuple hb;obtain⟨⟨cls,dd,data,sl⟩,ho,hc,n,hd⟩:=id p1;obtain⟨⟨cls2,dd2,data2,sl2⟩,ho2,hc2,n2,hd2⟩:=id p2;simp only at hc hd hc2 hd2;subst hc hd hc2 hd2;exact concat_meets ⟨_,ho,rfl⟩ ⟨_,ho2,rfl⟩ noFill_tuple_add seq_tuple_add qP qK (qx _ _) (tuple_addW0 a b _ its2.toArray n n2 dd dd2 sl sl2 rfl) ⟨ho,ho2,⟨.ref b,H,I,rfl,q⟩⟩
theorem NM{K:wb}{H:Hp}{Q:VK}{v w:V}{ds es:List wz}(h1:Is K H v (.tuple ds))(h2:Is K H w (.tuple es))(z:ds.length+es.length<=1000)(q:∀u H',ah H H'->Is K H' u (.tuple (ds++es))->Q u H'):yP K v w H Q:=by
 obtain⟨a,xs,rfl,ha,ta⟩:=bV.mp h1;obtain⟨b,ys,rfl,hb,tb⟩:=bV.mp h2;have la:=ta.length;have lb:=tb.length;cases xs with
 | nil =>
  obtain rfl:ds=[]:=WD (by simpa using la.symm);exact .inr ⟨a,b,ys,rfl,rfl,ha,hb,q _ H (ah.refl _) h2⟩
 | cons x xs =>
  refine .inl ⟨a,b,x::xs,ys,rfl,rfl,ha,hb,by simp,Vh (jB (by lia)),λhy=>?_,λhy p hp=>?_⟩
  ·obtain rfl:es=[]:=WD (by rw[hy]at lb;simpa using lb.symm)
   exact q _ H (ah.refl _) (by rw[vY];exact h1)
  ·exact q _ _ (ah.upd hp) (bV.mpr ⟨p,_,rfl,.of cO,(ao.same (ah.upd hp) _ _ ta).append (ao.same (ah.upd hp) _ _ tb)⟩)
theorem Inv.rC{X:Cx}{pins:List (wg × Obj)}{σ : St}{H:Hp}{s:wl}{h':wM}{t':Nat}{ch:List wg}(I:Inv X pins σ H s)(k:∀b o,b ∉ ch->s.heap.get? b=some o->h'.get? b=some o)(hf:∀b∈ch,dX X pins H b):Inv X pins σ H {s with heap:=h',toks:=t'}:=by
 have nit:∀b u,H b=some u->b ∉ ch:=λb u e z=>by rw[(hf b z).1]at e;cases e
 refine I.step (g':=s.gens) (d':=s.drawn) (ch:=ch) (λb hb=>⟨(hf b hb).2.2.2.1,(hf b hb).2.1,(hf b hb).2.2.2.2.1,(hf b hb).2.2.2.2.2⟩) (λb o _ _ hc e _=>k b o hc e)
  (λb o _ _ hc e _=>⟨o.slots,k b o hc e⟩) (λ_ _ _ _ n=>n) (λb o hc e=>⟨o,k b o hc e⟩) (λ_ _ e=>e) (λ_ _ _ e=>e) (λb ps e=>⟨#[],by rw[e];simp⟩) (λm hm=>?_) (λb u e=>?_) I.bare
 ·obtain⟨o,es,ep,ho,r⟩:=hm
  exact⟨o,es,ep,k _ o (λz=>(hf _ z).2.1 rfl) ho,r⟩
 ·refine(I.aE b u e).jw (λc v hc q=>k c v ?_ q) (λ_ q=>q) λ_ _ q=>q
  rcases hc with z | z
  ·rw[z];exact nit b u e
  ·exact nit c _ z
section
variable{prog:wO}{w:wR}{A:w6}{E:wf->wl->Prop}{s:wl}
theorem UG{it tu:wg}{i:Nat}{its:Array wf}{x:wf}{Q:wf->wl->Prop}(ei:s.heap.IsTupleIter it tu i)(et:s.heap.IsTuple tu its)(ex:its[i]? = some x)
  (fin:∀h',h'.IsTupleIter it tu (i+1)->vB it s.heap h'->Q x {s with heap:=h'}):wq (model prog w) A (vC (.ref it)) Q E s:=by
 obtain⟨ob,eo,ec,ed⟩:=id ei;obtain⟨ot,eot,_,nt,edt⟩:=et;unfold vC;refine we (wpAny_callSpecial?_slot (name:=vH "__next__") ei.typeIs Vr (vL Vr ei.typeIs Qn ?_ (Qg _)))
 show wq _ _ (field (.ref it) 0 >>= _) _ _ s;refine we (vg eo ed (x:=.ref tu) rfl ?_)
 show wq _ _ (if(Value.ref tu == Value.none)=true then _ else _) _ _ s;rw[if_neg (show ¬ ((Value.ref tu == Value.none)=true)from vj)]
 show wq _ _ (field (.ref it) 1 >>= _) _ _ s;refine we (vg eo ed (x:=.int i 0) rfl ?_)
 show wq _ _ (seqItems? (.ref tu) >>= _) _ _ s;refine we (Wh eot edt ?_)
 simp only[wW,ex];refine we (Vc eo ed (by simp) (wp ⟨x,rfl,wp (fin _ ?_ (xH ..))⟩));exact⟨_,Vl _ eo (V6 (VU ed _)),(Xi ..).trans ec,by rw[VU ed];simp[Vz]⟩
theorem N8{it tu:wg}{i:Nat}{its:Array wf}{Q:wf->wl->Prop}(hh:A.handled=none)(ei:s.heap.IsTupleIter it tu i)(et:s.heap.IsTuple tu its)(ex:its[i]? = none)
  (fin:∀h' e,Q6 it s.heap h'->(∃o,h'.get? e=some o/\o.cls=.type "StopIteration")->E (.ref e) {s with heap:=h'}):wq (model prog w) A (vC (.ref it)) Q E s:=by
 obtain⟨ob,eo,ec,ed⟩:=id ei;obtain⟨ot,eot,_,nt,edt⟩:=et;unfold vC;refine we (wpAny_callSpecial?_slot (name:=vH "__next__") ei.typeIs Vr (vL Vr ei.typeIs Qn ?_ (Qg _)))
 show wq _ _ (field (.ref it) 0 >>= _) _ _ s;refine we (vg eo ed (x:=.ref tu) rfl ?_)
 show wq _ _ (if(Value.ref tu == Value.none)=true then _ else _) _ _ s;rw[if_neg (show ¬ ((Value.ref tu == Value.none)=true)from vj)]
 show wq _ _ (field (.ref it) 1 >>= _) _ _ s;refine we (vg eo ed (x:=.int i 0) rfl ?_)
 show wq _ _ (seqItems? (.ref tu) >>= _) _ _ s;refine we (Wh eot edt ?_)
 simp only[wW,ex];refine we (VW (we (Vc eo ed (by simp) ?_)))
 show wq _ _ (newExc (.type "StopIteration") [] >>= _) _ _ _;refine we ?_;simp only[newExc,newTuple]
 refine we (Wo ?_ (by size_fits));refine we (m:=firstArgMember _ _) (wpAny_of_eq (a:=Value.none) (by first | rfl | (simp only[firstArgMember];rfl)) ?_);refine Wo ?_ (by size_fits);simp only[raiseNew];refine we (wpAny_handled ?_)
 first | rw[hh] | rw[show A.in1.handled=none from hh]
 exact we (wp (wpAny_throw (fin _ _ (((xH ..).extBut.push _).push _) ⟨_,wN _ rfl,rfl⟩)))
theorem i_(hh:A.handled=none)(it tu:wg)(hne:tu≠it)(its:Array wf):Draws prog w A it [it,tu] its.size (λi v=>its[i]? = some v) (λi h=>h.IsTupleIter it tu i/\h.IsTuple tu its) where
 live:=λ_ _ st=>let ⟨o,ho,_⟩:=st.1;⟨o,ho⟩
 frame:=λ_ _ _ st hk=>⟨st.1.at λo e=>hk it (by simp) o e,st.2.at λo e=>hk tu (by simp) o e⟩
 item:=λi s Q E hi st hQ=>UG st.1 st.2 (x:=its[i]) (by simp[hi]) λh' hit' hs'=>hQ _ h' s.toks (by simp[hi]) ⟨hit',st.2.extBut hs'.extBut hne⟩ hs'
 done:=λs Q E st hE=>N8 hh st.1 st.2 (by simp) hE
open AutoSeq1 (wpAny_loadPart') in
theorem zra(tu:wg)(its:Array wf)(n:Nat)(dct:Option wg)(sl:Array (Option wf)):Meets (Builtin.«enumerate.__new__» ⟨[.type "enumerate",.ref tu],[]⟩) (λ_ R s=>s.heap.get? tu=some {cls:=.type "tuple",dict:=dct,data:=.seq its n,slots:=sl} /\
  R (.ok (.ret (.ref (s.heap.push {cls:=.type "tuple_iterator",data:=.fields #[.ref tu,.int 0 0]}).objs.size))) {s with heap:=(s.heap.push {cls:=.type "tuple_iterator",data:=.fields #[.ref tu,.int 0 0]}).push {cls:=.type "enumerate",data:=.fields #[.none,.bool false,.ref s.heap.objs.size,Vz 0,.none,.none]}}) :=
 .of_wp λprog w A R s h=>by
  obtain⟨hp,g,d,tk,os⟩:=s;obtain⟨et,h⟩:=h;have hsub:=sub_enumerate;have hT:xW (Xr ⟨hp,g,d,tk,os⟩) tu its:=⟨_,et,rfl,n,rfl⟩
  wp_walk using wpAny_loadPart' et
  refine wpAny_stack_any λst=>wp ?_
  split
  ·rename_i c _ _ _ _ _
   cases (c == Value.type "enumerate")<;>(wp_walk using wpAny_loadPart' et,Vk hT;exact⟨_,rfl,h⟩)
  ·wp_walk using wpAny_loadPart' et,Vk hT
   exact⟨_,rfl,h⟩
theorem zrY{tu:wg}{its:Array wf}{Q:wf->wl->Prop}(hT:s.heap.IsTuple tu its)(fin:∀h',IsEnum h' (s.heap.objs.size+1) s.heap.objs.size 0 .none->h'.IsTupleIter s.heap.objs.size tu 0->(∀b o,s.heap.get? b=some o->h'.get? b=some o)->Q (.ref (s.heap.objs.size+1)) {s with heap:=h'}) :
  wq (model prog w) A (call (.type "enumerate") [.ref tu]) Q E s:=by
 obtain⟨⟨c,dct,dt,sl⟩,et,hc,n,hd⟩:=hT;obtain rfl:c=.type "tuple":=hc;obtain rfl:dt=.seq its n:=hd;refine callType_new F.called_enumerate (by decide) (F.typeCall_enumerate_1 _) (F.newCall_enumerate_1 _) (λobj=>F.args_object_init_2 obj _) F.entry_enumerate_new (zra tu its n dct sl) ⟨et,?_⟩;have hz:(s.heap.push {cls:=.type "tuple_iterator",data:=.fields #[.ref tu,.int 0 0]}).objs.size=s.heap.objs.size+1:=W9 ..
 show _/\_
 rw[hz]
 have he:IsEnum ((s.heap.push {cls:=.type "tuple_iterator",data:=.fields #[.ref tu,.int 0 0]}).push {cls:=.type "enumerate",data:=.fields #[.none,.bool false,.ref s.heap.objs.size,Vz 0,.none,.none]}) (s.heap.objs.size+1) s.heap.objs.size 0 .none:=by
  rw[<- hz];exact wN _ rfl
 exact⟨⟨_,he,rfl⟩,fin _ he ⟨_,wn _ (wN _ rfl),rfl,rfl⟩ λb o x=>wn _ (wn _ x)⟩
end
def mX(K:wb)(a:wg):It :=
 ⟨λi H=>∃xs x,aU K H a xs/\xs[i]? = some x,λi H y H'=>∃t x,y=.ref t/\H t=none/\(∀xs,aU K H a xs->xs[i]? = some x)/\H'=upd H t (.tup [.int (i:Int),x]),λi H=>∃xs,aU K H a xs/\xs.length<=i⟩
theorem zsv{P:wO}{w:wR}{K:wb}{elts:List Expr}{k1}{tpos:Pos}(a e it:wg)(hne:e≠it):ia P w K (.Tuple elts k1 tpos) (mX K a) [e,it] e (λi h=>(∃old,IsEnum h e it (i:Int) old)/\h.IsTupleIter it a i) where
 mem:=by simp
 obj:=λi h st b hb=>by
  obtain⟨⟨old,he⟩,o,eo,c,d⟩:=st;rcases wQ.mp hb with rfl | hb
  ·exact⟨_,he,λv z=>by cases (show Data.fields _=Data.cell v from z)⟩
  ·rw[wX.mp hb]
   exact⟨o,eo,λv z=>by rw[d]at z;cases z⟩
 keep:=λi h h' st k=>⟨let ⟨old,he⟩:=st.1;⟨old,k e (by simp) _ he⟩,st.2.at λo eo=>k it (by simp) o eo⟩
 item:=by
  intro X hP hw hK hc i pins s σ H E I hf st hg;subst hP hw hK;obtain⟨⟨old,he⟩,st⟩:=st;obtain⟨xs,x,hq,hx⟩:=hg;obtain⟨its,rv,p,hz⟩:=I.tuple hq;obtain⟨u,hu,ru⟩:=rv.get hx;have p':s.heap.IsTuple a its.toArray:=p
  have hai:a≠it:=λz=>by
   subst z;obtain⟨o,e1,c1,_⟩:=st;obtain⟨o',e2,c2,_⟩:=p';rw[e1]at e2;cases e2;rw[c1]at c2;exact absurd c2 (by decide)
  have hae:e≠a:=λz=>by
   subst z;obtain⟨o',e2,c2,_⟩:=p';rw[he]at e2;cases e2;exact absurd (show Value.type "enumerate"=Value.type "tuple" from c2) (by decide)
  have hlt:i<its.toArray.size:=by
   rcases wB i its.length with z | z
   ·simpa using z
   ·rw[wF z]at hu;cases hu
  refine wpAny_pyNext_enum_itemD (i_ (A:=X.A.in1) (I.ok.hd hc) it a hai its.toArray) he ⟨st,p'⟩ hlt hne (by simp[hne,hae]) λv h1 tk hv ho hs1 hT hsz hk=>?_
  have hvu:v=u:=by
   have hv':its[i]? = some v:=by simpa using hv
   rw[hu]at hv';exact(wP hv').symm
  subst hvu
  have I1:Inv X pins σ (upd H s.heap.objs.size (.tup [.int (i:Int),x])) {s with heap:=s.heap.push {cls:=.type "tuple",data:=.seq ([.int (i:Int) tk,v]:List wf).toArray},toks:=tk+1} :=
   I.laid (λb o q=>wn _ q) (wo _) (show dq X.prog X.w _ _ _ (.tup [.int (i:Int),x])from⟨mR (by simp),_,.cons ⟨_,rfl⟩ (.cons ru .nil),qR _ _⟩)
  have lt1:∀b∈[e,it],b<s.heap.objs.size:=λb hb=>by
   rcases wQ.mp hb with rfl | hb
   ·exact wy he
   ·rw[wX.mp hb]
    obtain⟨o,eo,_⟩:=st;exact wy eo
  have hf1:∀b∈[e,it],dX X pins (upd H s.heap.objs.size (.tup [.int (i:Int),x])) b:=λb hb=>⟨by rw[dY (wL (lt1 b hb))];exact(hf b hb).1,(hf b hb).2⟩
  refine⟨_,rfl,wpAny_letOwnedTupleGo_enum ho λh2 he2 hs2=>?_⟩;refine⟨.ref s.heap.objs.size,_,Inv.rC (s:={s with heap:=s.heap.push {cls:=.type "tuple",data:=.seq ([.int (i:Int) tk,v]:List wf).toArray},toks:=tk+1}) (ch:=[e,it]) I1 (λb o hb q=>?_) hf1,rfl,⟨_,x,rfl,I.aE.fresh (wo _),λys hy=>by rw[I.zS hy hq];exact hx,rfl⟩,⟨⟨_,by simpa using he2⟩,hs1.1.at λo eo=>(hs2.2 it (We hne)).trans eo⟩,λb hb=>(hf1 b hb).1⟩;have hbe:b≠e:=λz=>hb (by simp[z])
  have hbi:b≠it:=λz=>hb (by simp[z])
  refine(hs2.2 b hbe).trans ?_
  by_cases hb2:b=s.heap.objs.size
  ·subst hb2
   rw[wN _ rfl]at q;cases q;exact hT
  ·exact hk b o hbe hbi (by rw[QC _ _ _ hb2]at q;exact q)
 done:=by
  intro X hP hw hK hc i pins s σ H E I hf st hg;subst hP hw hK;obtain⟨⟨old,he⟩,st⟩:=st;obtain⟨xs,hq,hx⟩:=hg;obtain⟨its,rv,p,hz⟩:=I.tuple hq;have p':s.heap.IsTuple a its.toArray:=p
  have hai:a≠it:=λz=>by
   subst z;obtain⟨o,e1,c1,_⟩:=st;obtain⟨o',e2,c2,_⟩:=p';rw[e1]at e2;cases e2;rw[c1]at c2;exact absurd c2 (by decide)
  have hl:=rv.length;have hT:s.TypeIs (.ref e) "enumerate":=⟨_,he,rfl⟩;unfold W3;refine we (WA (wpAny_callSpecial?_slot (name:=vH "__next__") hT V8 (vL V8 hT Q7 ?_ (QT _))))
  show wq _ _ (field (.ref e) 2 >>= _) _ _ _;refine we (vg he rfl (x:=.ref it) rfl ?_)
  refine we (N8 (A:=X.A.in1) (I.ok.hd hc) st p' (by simp;lia) λh' y he' hx'=>?_);obtain⟨o,ho,hcl⟩:=hx';refine we (WH (T:="StopIteration") (b:=true) ⟨o,ho,hcl⟩ VC (wp ⟨rfl,?_⟩));obtain⟨f0,f1,f2,f3,f4,f5⟩:=hf it (by simp);exact I.turned (t':=s.toks) (λb o hb e=>he' b o hb e) f0 f1 f3 f4 f5
 self:=λ_ _ _ _ _ st h=>let ⟨_,he⟩:=st.1;wpAny_pyIter_enum he h
def CV(K:wb)(ta:TA):TI:=λσ H R=>ta σ H λvs H1=>∃a,vs=[.ref a]/\(∃xs,aU K H1 a xs)/\R (mX K a) H1
theorem Kj:vK "enumerate"=some (.type "enumerate"):=by decide +kernel
theorem ND{X:Cx}{elts:List Expr}{k1}{tpos p pos:Pos}{l:Expr}{ta:TA}(hg:Gl X "enumerate")(hm:X.mg "enumerate"=none)(ha:PA X [l] ta)(hs:w5 [l] X.env=[(false,eval l X.env)]:=by rfl) :
  PI X (.Tuple elts k1 tpos) (.Call (.Name "enumerate" p) [l] [] pos) (CV X.K ta):=by
 intro pins s σ H R I h;refine Call_ (gb I hg hm Kj (vv (aH (ha pos pins s σ H _ I h) λus s1 ⟨vs,H1,I1,r1,q1⟩=>?_) hs rfl));obtain⟨a,rfl,⟨xs,hq⟩,q⟩:=q1;obtain⟨u,rfl,ru⟩:=jj r1;cases ru;obtain⟨its,rv,p,hz⟩:=I1.tuple hq;refine zrY (show s1.heap.IsTuple a its.toArray from p) λh' he hit kp=>?_
 refine wpAny_pyIter_enum he ?_;refine⟨s1.heap.objs.size+1,[s1.heap.objs.size+1,s1.heap.objs.size],_,_,H1,rfl,I1.kept (t':=s1.toks) kp,zsv a (s1.heap.objs.size+1) s1.heap.objs.size (XG _),⟨⟨_,he⟩,hit⟩,λb hb=>?_,q⟩
 have hb':s1.heap.objs.size<=b:=by
  rcases wQ.mp hb with rfl | hb
  ·lia
  ·rw[wX.mp hb];exact wo _
 exact I1.iI hb' (I1.aE.fresh hb')
def HL(K:wb)(g:TG)(tb:TS)(D:cj)(σ : St)(vs:List V)(H1:Hp):Prop:=∃a,vs=[.ref a]/\(∃xs,aU K H1 a xs) /\
 ∃W:Nat->Nat->St->Hp->Prop,(∃m,W 0 m σ H1) /\ ∀i m σ H,W i m σ H ->
  ((mX K a).stop i H/\D.nx σ H)\/((mX K a).go i H /\ ∃M:St->Hp->Prop,(∀σ' H',M σ' H'->∃m',m'<m/\W (i+1) m' σ' H') /\ ∀x H',(mX K a).ft i H x H'->g x σ H' λσ2 H2=>tb {D with nx:=M,ct:=M,bk:=D.nx} σ2 H2)
section
variable{K:wb}{ta:TA}{g:TG}{tb:TS}{D:cj}{σ : St}{H:Hp}{a:wg}{xs:List V}
theorem Se(h:ta σ H λvs H1=>HL K g tb D σ vs H1):kZ (CV K ta) g tb D σ H:=h
theorem Sk(hx:aU K H a xs)(Pv:Nat->St->Hp->Prop)(h0:Pv 0 σ H)(hl:∀i σ H,i<=xs.length->Pv i σ H->aU K H a xs)
  (hs:∀i x σ H t H',xs[i]? = some x->Pv i σ H->H t=none->ah H H'->H' t=some (.tup [.int (i:Int),x])->g (.ref t) σ H' λσ2 H2=>tb {D with nx:=Pv (i+1),ct:=Pv (i+1),bk:=D.nx} σ2 H2) (hd:∀σ H,Pv xs.length σ H->D.nx σ H):HL K g tb D σ [.ref a] H:=by
 refine⟨a,rfl,⟨xs,hx⟩,λi m σ H=>i+m=xs.length/\Pv i σ H,⟨xs.length,by lia,h0⟩,?_⟩;rintro i m σ H ⟨him,hp⟩;have hq:=hl i σ H (by lia) hp
 by_cases hm:m=0
 ·have e:i=xs.length:=by lia
  subst e;exact .inl ⟨⟨xs,hq,wo _⟩,hd _ _ hp⟩
 ·have hi:i<xs.length:=by lia
  refine .inr ⟨⟨xs,xs[i],hq,by simp[hi]⟩,λσ' H'=>Pv (i+1) σ' H',λσ' H' h=>⟨m-1,by lia,by lia,h⟩,?_⟩;rintro y H' ⟨t,x,rfl,hn,hx',rfl⟩;exact hs i x σ H t _ (hx' xs hq) hp hn (ah.upd hn) cO
end
structure ZA(z TI TO i1 i2:wg)(f1 f2:List wg):Prop where
 a1:TI≠z
 a2:TO≠z
 a3:i1≠z
 a4:i2≠z
 a5:TI≠TO
 a6:TI≠i1
 a7:TI≠i2
 a8:TO≠i1
 a9:TO≠i2
 b0:i1≠i2
 b1:z ∉ f1
 b2:z ∉ f2
 b3:TO ∉ f1
 b4:TO ∉ f2
 b5:i1 ∉ f2
 b6:i2 ∉ f1
section
variable{prog:wO}{w:wR}{A:w6}{E:wf->wl->Prop}{s:wl}{z TI TO i1 i2:wg}{f1 f2:List wg}{n1 n2 k:Nat}{P1 P2:Nat->wf->Prop}{S1 S2:Nat->wM->Prop}{a b:wf}
theorem Hm{Q:wf->wl->Prop}(D1:Draws prog w A i1 f1 n1 P1 S1)(D2:Draws prog w A i2 f2 n2 P2 S2)(ap:ZA z TI TO i1 i2 f1 f2)(hz:IsZip s.heap z TI TO .none)(hi:Wy s.heap TI (.ref i1) (.ref i2))(ho:Wy s.heap TO a b)
  (h1:S1 k s.heap) (h2:S2 k s.heap) (l1:k<n1) (l2:k<n2)
  (fin:∀x y h' tk,P1 k x->P2 k y->IsZip h' z TI TO (Vz s.heap.objs.size)->Wy h' TO x y->S1 (k+1) h'->S2 (k+1) h'->Wy h' s.heap.objs.size x y ->
   (∀c o,c≠z->c≠TO->c≠i1->c≠i2->s.heap.get? c=some o->h'.get? c=some o)->Q (.ref s.heap.objs.size) {s with heap:=h',toks:=tk}) :
  wq (model prog w) A (Builtin.«zip.__next__» ⟨[.ref z],[]⟩) (λr s'=>∃v,r=.done (.ret v)/\Q v s') E s:=by
 show wq _ _ (field (.ref z) 2 >>= _) _ _ _;refine we (vg hz rfl (x:=.bool false) rfl ?_)
 show wq _ _ (field (.ref z) 3 >>= _) _ _ _;refine we (vg hz rfl (x:=.ref TI) rfl ?_)
 refine we (Wh hi rfl ?_);show wq _ _ (vA (.ref z) >>= _) _ _ _
 refine we ?_;unfold vA;refine we (vg hz rfl (x:=.none) rfl (wp ?_));simp only[if_true];refine we (VW ?_);refine we (vg hz rfl (x:=.ref TO) rfl ?_);refine we (WT hz (by simp) λg1 zz1 sb1=>?_);have zz1:IsZip g1 z TI TO .ellipsis:=zz1;refine we ?_;simp only[XH,XY,qr,Qh];refine we (we (wpAny_onRaise ?_));show wq _ _ (vC (.ref i1) >>= _) _ _ _
 have h1a:S1 k g1:=D1.frame _ _ _ h1 λc hc o e=>sb1.extBut c o (λq=>ap.b1 (q ▸ hc)) e
 have h2a:S2 k g1:=D2.frame _ _ _ h2 λc hc o e=>sb1.extBut c o (λq=>ap.b2 (q ▸ hc)) e
 refine we (D1.item k _ _ _ l1 h1a λx g2 t2 px h1b sb2=>wp ?_);have ho2:Wy g2 TO a b:=sb2.extBut _ _ ap.a8 (sb1.extBut _ _ ap.a2 ho);have h2b:S2 k g2:=D2.frame _ _ _ h2a λc hc o e=>sb2.extBut c o (λq=>ap.b5 (q ▸ hc)) e
 refine we (Wh ho2 rfl ?_);refine we (wpAny_updateSeq_pair ho2 λg3 ho3 sb3=>?_);have ho3:Wy g3 TO x b:=ho3;have sb3:vB TO g2 g3:=sb3;have h1c:S1 (k+1) g3:=D1.frame _ _ _ h1b λc hc o e=>sb3.extBut c o (λq=>ap.b3 (q ▸ hc)) e
 have h2c:S2 k g3:=D2.frame _ _ _ h2b λc hc o e=>sb3.extBut c o (λq=>ap.b4 (q ▸ hc)) e
 refine we (wpAny_letGo (wp ?_));refine we (we (wpAny_onRaise ?_))
 show wq _ _ (vC (.ref i2) >>= _) _ _ _;refine we (D2.item k _ _ _ l2 h2c λy g4 t4 py h2d sb4=>wp ?_)
 have sb4:vB i2 g3 g4:=sb4;have ho4:Wy g4 TO x b:=sb4.extBut _ _ ap.a9 ho3;have h1d:S1 (k+1) g4:=D1.frame _ _ _ h1c λc hc o e=>sb4.extBut c o (λq=>ap.b6 (q ▸ hc)) e
 refine we (Wh ho4 rfl ?_);refine we (wpAny_updateSeq_pair ho4 λg5 ho5 sb5=>?_);have ho5:Wy g5 TO x y:=ho5;have sb5:vB TO g4 g5:=sb5;have h1e:S1 (k+1) g5:=D1.frame _ _ _ h1d λc hc o e=>sb5.extBut c o (λq=>ap.b3 (q ▸ hc)) e
 have h2e:S2 (k+1) g5:=D2.frame _ _ _ h2d λc hc o e=>sb5.extBut c o (λq=>ap.b4 (q ▸ hc)) e
 refine we (wpAny_letGo (wp (wp ?_)));refine we (Wh ho5 rfl ?_);refine we (wpAny_newTuple ?_);have sb2:vB i1 g1 g2:=sb2;have sb1:vB z s.heap g1:=sb1;have hsz:g5.objs.size=s.heap.objs.size:=by rw[sb5.1,sb4.1,sb3.1,sb2.1,sb1.1]
 have zz5:IsZip g5 z TI TO .ellipsis:=sb5.extBut _ _ ap.a2.symm (sb4.extBut _ _ ap.a4.symm (sb3.extBut _ _ ap.a2.symm (sb2.extBut _ _ ap.a3.symm zz1)));have kept:∀c o,c≠z->c≠TO->c≠i1->c≠i2->s.heap.get? c=some o->g5.get? c=some o:=λc o c1 c2 c3 c4 e=>sb5.extBut _ _ c2 (sb4.extBut _ _ c4 (sb3.extBut _ _ c2 (sb2.extBut _ _ c3 (sb1.extBut _ _ c1 e))))
 have zlt:z<g5.objs.size:=wy zz5
 show wq _ _ (qF (.ref z) (.ref g5.objs.size) >>= _) _ _ _;refine we ?_;unfold qF
 have zz6:IsZip (g5.push {cls:=.type "tuple",data:=.seq #[x,y]}) z TI TO .ellipsis:=wn _ zz5;refine we (WT zz6 (by simp) λg7 zz7 sb7=>?_);have zz7:IsZip g7 z TI TO (Vz g5.objs.size):=zz7;refine WT zz7 (by simp) λg8 zz8 sb8=>?_
 have zz8:IsZip g8 z TI TO (Vz g5.objs.size):=zz8;have sb7:vB z (g5.push {cls:=.type "tuple",data:=.seq #[x,y]}) g7:=sb7;have sb8:vB z g7 g8:=sb8;have up:∀c o,c≠z->g5.get? c=some o->g8.get? c=some o:=λc o c1 e=>sb8.extBut _ _ c1 (sb7.extBut _ _ c1 (wn _ e))
 have new8:Wy g8 g5.objs.size x y:=sb8.extBut _ _ (vi zlt) (sb7.extBut _ _ (vi zlt) (wN _ rfl));rw[hsz]at zz8 new8;refine wp ⟨_,rfl,?_⟩
 show Q (.ref g5.objs.size) _
 rw[hsz];exact fin x y g8 _ px py zz8 (up _ _ ap.a2 ho5) (D1.frame _ _ _ h1e λc hc o e=>up c o (λq=>ap.b1 (q ▸ hc)) e) (D2.frame _ _ _ h2e λc hc o e=>up c o (λq=>ap.b2 (q ▸ hc)) e) new8 λc o c1 c2 c3 c4 e=>up c o c1 (kept c o c1 c2 c3 c4 e)
theorem Hq{Q:Fin->wl->Prop}(D1:Draws prog w A i1 f1 n1 P1 S1)(D2:Draws prog w A i2 f2 n2 P2 S2)(ap:ZA z TI TO i1 i2 f1 f2)(hz:IsZip s.heap z TI TO .none)(hi:Wy s.heap TI (.ref i1) (.ref i2))(ho:Wy s.heap TO a b)
  (h1:S1 k s.heap) (h2:S2 k s.heap) (hk:k=n1\/(k<n1/\k=n2))
  (fin:∀h' e tk,(∀c o,c≠z->c≠TO->c≠i1->c≠i2->s.heap.get? c=some o->h'.get? c=some o)->(∃o,h'.get? e=some o/\o.cls=.type "StopIteration")->E (.ref e) {s with heap:=h',toks:=tk}) :
  wq (model prog w) A (Builtin.«zip.__next__» ⟨[.ref z],[]⟩) Q E s:=by
 show wq _ _ (field (.ref z) 2 >>= _) _ _ _;refine we (vg hz rfl (x:=.bool false) rfl ?_)
 show wq _ _ (field (.ref z) 3 >>= _) _ _ _;refine we (vg hz rfl (x:=.ref TI) rfl ?_)
 refine we (Wh hi rfl ?_);show wq _ _ (vA (.ref z) >>= _) _ _ _
 refine we ?_;unfold vA;refine we (vg hz rfl (x:=.none) rfl (wp ?_));simp only[if_true];refine we (VW ?_);refine we (vg hz rfl (x:=.ref TO) rfl ?_);refine we (WT hz (by simp) λg1 zz1 sb1=>?_);have zz1:IsZip g1 z TI TO .ellipsis:=zz1;have sb1:vB z s.heap g1:=sb1;refine we ?_;simp only[XH,XY,qr,Qh];refine we (we (wpAny_onRaise ?_));show wq _ _ (vC (.ref i1) >>= _) _ _ _
 have h1a:S1 k g1:=D1.frame _ _ _ h1 λc hc o e=>sb1.extBut c o (λq=>ap.b1 (q ▸ hc)) e
 have h2a:S2 k g1:=D2.frame _ _ _ h2 λc hc o e=>sb1.extBut c o (λq=>ap.b2 (q ▸ hc)) e
 rcases hk with rfl | ⟨l1,rfl⟩
 ·refine we (D1.done _ _ _ h1a λg2 e sb2 he=>?_)
  obtain⟨oe,hoe,hce⟩:=he;have zz2:IsZip g2 z TI TO .ellipsis:=sb2 _ _ ap.a3.symm zz1;have hez:e≠z:=λq=>by subst q;rw[zz2]at hoe;cases hoe;simp at hce
  exact WT zz2 (by simp) λg3 _ sb3=>fin g3 e _ (λc o c1 _ c3 _ q=>sb3.extBut _ _ c1 (sb2 _ _ c3 (sb1.extBut _ _ c1 q))) ⟨oe,sb3.extBut _ _ hez hoe,hce⟩
 ·refine we (D1.item k _ _ _ l1 h1a λx g2 t2 px h1b sb2=>wp ?_)
  have sb2:vB i1 g1 g2:=sb2;have ho2:Wy g2 TO a b:=sb2.extBut _ _ ap.a8 (sb1.extBut _ _ ap.a2 ho);have h2b:S2 k g2:=D2.frame _ _ _ h2a λc hc o e=>sb2.extBut c o (λq=>ap.b5 (q ▸ hc)) e
  refine we (Wh ho2 rfl ?_);refine we (wpAny_updateSeq_pair ho2 λg3 ho3 sb3=>?_);have sb3:vB TO g2 g3:=sb3;have h2c:S2 k g3:=D2.frame _ _ _ h2b λc hc o e=>sb3.extBut c o (λq=>ap.b4 (q ▸ hc)) e
  refine we (wpAny_letGo (wp ?_));refine we (we (wpAny_onRaise ?_))
  show wq _ _ (vC (.ref i2) >>= _) _ _ _;refine we (D2.done _ _ _ h2c λg4 e sb4 he=>?_)
  obtain⟨oe,hoe,hce⟩:=he;have zz4:IsZip g4 z TI TO .ellipsis:=sb4 _ _ ap.a4.symm (sb3.extBut _ _ ap.a2.symm (sb2.extBut _ _ ap.a3.symm zz1));have hez:e≠z:=λq=>by subst q;rw[zz4]at hoe;cases hoe;simp at hce
  exact WT zz4 (by simp) λg5 _ sb5=>fin g5 e _ (λc o c1 c2 c3 c4 q=>sb5.extBut _ _ c1 (sb4 _ _ c4 (sb3.extBut _ _ c2 (sb2.extBut _ _ c3 (sb1.extBut _ _ c1 q))))) ⟨oe,sb5.extBut _ _ hez hoe,hce⟩
end
def dj(t:Bool)(K:wb)(H:Hp)(a:wg)(xs:List V):Prop:=match t with
 | true=>aU K H a xs
 | false=>aI K H a xs
def iM(t:Bool)(h:wM)(it a:wg)(i:Nat):Prop:=match t with
 | true=>h.IsTupleIter it a i
 | false=>h.IsListIter it a i
def MJ(t:Bool)(h:wM)(a:wg)(its:Array wf):Prop:=match t with
 | true=>h.IsTuple a its
 | false=>h.IsList a its
theorem nJ{prog:wO}{w:wR}{A:w6}(t:Bool)(hh:A.handled=none)(it a:wg)(hne:a≠it)(its:Array wf):Draws prog w A it [it,a] its.size (λi v=>its[i]? = some v) (λi h=>iM t h it a i/\MJ t h a its):=by
 cases t
 ·exact Draws.list hh it a hne its
 ·exact i_ hh it a hne its
theorem Inv.iJ{X:Cx}{pins:List (wg × Obj)}{σ : L2.St}{H:Hp}{s:wl}{t:Bool}{a:wg}{xs:List V}(I:Inv X pins σ H s)(h:dj t X.K H a xs):∃its:List wf,aK xs its/\MJ t s.heap a its.toArray:=by
 cases t
 ·obtain⟨its,r,p,_⟩:=I.list h
  exact⟨its,r,p.isList⟩
 ·obtain⟨its,r,p,_⟩:=I.tuple h
  exact⟨its,r,p⟩
theorem Inv.Gz{X:Cx}{pins:List (wg × Obj)}{σ : L2.St}{H:Hp}{s:wl}{t:Bool}{a:wg}{xs ys:List V}(I:Inv X pins σ H s)(h:dj t X.K H a xs)(k:dj t X.K H a ys):xs=ys:=by
 cases t
 ·exact I.rn h k
 ·exact I.zS h k
theorem iM.obj{t:Bool}{h:wM}{it a:wg}{i:Nat}(st:iM t h it a i):∃o,h.get? it=some o /\ ∀v,o.data≠.cell v:=by
 cases t
 ·obtain⟨o,e,_,d⟩:=st
  exact⟨o,e,λv z=>by rw[d]at z;cases z⟩
 ·obtain⟨o,e,_,d⟩:=st
  exact⟨o,e,λv z=>by rw[d]at z;cases z⟩
theorem iM.at{t:Bool}{h h':wM}{it a:wg}{i:Nat}(st:iM t h it a i)(k:∀o,h.get? it=some o->h'.get? it=some o):iM t h' it a i:=by
 cases t
 ·exact Heap.IsListIter.at st k
 ·exact Heap.IsTupleIter.at st k
def yf(t u:Bool)(K:wb)(a b:wg):It :=
 ⟨λi H=>∃xs x ys y,dj t K H a xs/\xs[i]? = some x/\dj u K H b ys/\ys[i]? = some y,
  λi H v H'=>∃(c:wg)(x y:V),v=.ref c/\H c=none/\(∀xs,dj t K H a xs->xs[i]? = some x)/\(∀ys,dj u K H b ys->ys[i]? = some y)/\H'=upd H c (.tup [x,y]),
  λi H=>∃xs ys,dj t K H a xs/\dj u K H b ys/\(xs.length=i\/(i<xs.length/\ys.length=i))⟩
theorem Sy{P:wO}{w:wR}{K:wb}{elts:List Expr}{k1}{tpos:Pos}{t u:Bool}(a b z TI TO i1 i2:wg)(ap:ZA z TI TO i1 i2 [i1,a] [i2,b])(na:a≠i1)(nb:b≠i2) :
  ia P w K (.Tuple elts k1 tpos) (yf t u K a b) [z,TI,TO,i1,i2] z (λi h=>IsZip h z TI TO .none/\Wy h TI (.ref i1) (.ref i2)/\(∃p q,Wy h TO p q)/\iM t h i1 a i/\iM u h i2 b i) where
 mem:=by simp
 obj:=λi h st c hc=>by
  obtain⟨hz,hi,⟨p,q,ho⟩,s1,s2⟩:=st;simp only[wQ,Va,or_false]at hc;rcases hc with rfl | rfl | rfl | rfl | rfl
  ·exact⟨_,hz,λv z=>by cases (show Data.fields _=Data.cell v from z)⟩
  ·exact⟨_,hi,λv z=>by cases (show Data.seq _ _=Data.cell v from z)⟩
  ·exact⟨_,ho,λv z=>by cases (show Data.seq _ _=Data.cell v from z)⟩
  ·exact s1.obj
  ·exact s2.obj
 keep:=λi h h' st k=>by
  obtain⟨hz,hi,⟨p,q,ho⟩,s1,s2⟩:=st;exact⟨k z (by simp) _ hz,k TI (by simp) _ hi,⟨p,q,k TO (by simp) _ ho⟩,s1.at λo e=>k i1 (by simp) o e,s2.at λo e=>k i2 (by simp) o e⟩
 item:=by
  intro X hP hw hK hc i pins s σ H E I hf st hg;subst hP hw hK;obtain⟨hz,hi,⟨p,q,ho⟩,s1,s2⟩:=st;obtain⟨xs,x,ys,y,hq1,hx,hq2,hy⟩:=hg;obtain⟨its,r1,p1⟩:=I.iJ hq1;obtain⟨jts,r2,p2⟩:=I.iJ hq2;obtain⟨ux,hux,rux⟩:=r1.get hx;obtain⟨uy,huy,ruy⟩:=r2.get hy
  have lt1:i<its.toArray.size:=by
   rcases wB i its.length with q | q
   ·simpa using q
   ·rw[wF q]at hux;cases hux
  have lt2:i<jts.toArray.size:=by
   rcases wB i jts.length with q | q
   ·simpa using q
   ·rw[wF q]at huy;cases huy
  have hT:s.TypeIs (.ref z) "zip":=⟨_,hz,rfl⟩;unfold W3
  refine we (WA (wpAny_callSpecial?_slot (name:=vH "__next__") hT Wq (vL Wq hT VJ
   (Hm (nJ (A:=X.A.in1) t (I.ok.hd hc) i1 a na its.toArray) (nJ (A:=X.A.in1) u (I.ok.hd hc) i2 b nb jts.toArray) ap hz hi ho ⟨s1,p1⟩ ⟨s2,p2⟩ lt1 lt2 λv1 v2 h1 tk e1 e2 hz1 ho1 st1 st2 hT1 hk=>wp ?_) (Vy _))))
  have ev1:v1=ux:=by
   have e1':its[i]? = some v1:=by simpa using e1
   rw[hux]at e1';exact(wP e1').symm
  have ev2:v2=uy:=by
   have e2':jts[i]? = some v2:=by simpa using e2
   rw[huy]at e2';exact(wP e2').symm
  subst ev1 ev2
  have I1:Inv X pins σ (upd H s.heap.objs.size (.tup [x,y])) {s with heap:=s.heap.push {cls:=.type "tuple",data:=.seq ([v1,v2]:List wf).toArray},toks:=tk} :=
   I.laid (λc o q=>wn _ q) (wo _) (show dq X.prog X.w _ _ _ (.tup [x,y])from⟨mR (by simp),_,.cons rux (.cons ruy .nil),qR _ _⟩)
  have ltf:∀c∈[z,TI,TO,i1,i2],c<s.heap.objs.size:=λc hc=>by
   simp only[wQ,Va,or_false]at hc;rcases hc with rfl | rfl | rfl | rfl | rfl
   ·exact wy hz
   ·exact wy hi
   ·exact wy ho
   ·obtain⟨o,e,_⟩:=s1.obj;exact wy e
   ·obtain⟨o,e,_⟩:=s2.obj;exact wy e
  have hf1:∀c∈[z,TI,TO,i1,i2],dX X pins (upd H s.heap.objs.size (.tup [x,y])) c:=λc hc=>⟨by rw[dY (wL (ltf c hc))];exact(hf c hc).1,(hf c hc).2⟩
  refine⟨_,rfl,wpAny_letOwnedTupleGo_zip hz1 λh2 hz2 hs2=>?_⟩;have hs2:vB z h1 h2:=hs2
  refine⟨.ref s.heap.objs.size,_,Inv.rC (s:={s with heap:=s.heap.push {cls:=.type "tuple",data:=.seq ([v1,v2]:List wf).toArray},toks:=tk}) (ch:=[z,TI,TO,i1,i2]) I1 (λc o hc q=>?_) hf1,rfl,
   ⟨_,x,y,rfl,I.aE.fresh (wo _),λzs hzs=>by rw[I.Gz hzs hq1];exact hx,λzs hzs=>by rw[I.Gz hzs hq2];exact hy,rfl⟩,
   ⟨hz2,hs2.extBut _ _ ap.a1 (hk _ _ ap.a1 ap.a5 ap.a6 ap.a7 hi),⟨_,_,hs2.extBut _ _ ap.a2 ho1⟩,st1.1.at λo e=>hs2.extBut _ _ ap.a3 e,st2.1.at λo e=>hs2.extBut _ _ ap.a4 e⟩,λc hc=>(hf1 c hc).1⟩
  have c1:c≠z:=λq=>hc (by simp[q])
  have c2:c≠TO:=λq=>hc (by simp[q])
  have c3:c≠i1:=λq=>hc (by simp[q])
  have c4:c≠i2:=λq=>hc (by simp[q])
  refine hs2.extBut _ _ c1 ?_
  by_cases hcs:c=s.heap.objs.size
  ·subst hcs
   rw[wN _ rfl]at q;cases q;exact hT1
  ·exact hk c o c1 c2 c3 c4 (by rw[QC _ _ _ hcs]at q;exact q)
 done:=by
  intro X hP hw hK hc i pins s σ H E I hf st hg;subst hP hw hK;obtain⟨hz,hi,⟨p,q,ho⟩,s1,s2⟩:=st;obtain⟨xs,ys,hq1,hq2,hend⟩:=hg;obtain⟨its,r1,p1⟩:=I.iJ hq1;obtain⟨jts,r2,p2⟩:=I.iJ hq2;have e1:=r1.length;have e2:=r2.length;have hT:s.TypeIs (.ref z) "zip":=⟨_,hz,rfl⟩;unfold W3
  refine we (WA (wpAny_callSpecial?_slot (name:=vH "__next__") hT Wq (vL Wq hT VJ
   (Hq (k:=i) (nJ (A:=X.A.in1) t (I.ok.hd hc) i1 a na its.toArray) (nJ (A:=X.A.in1) u (I.ok.hd hc) i2 b nb jts.toArray) ap hz hi ho ⟨s1,p1⟩ ⟨s2,p2⟩ (by simp only[wI];lia) λh' y tk hk hx'=>?_) (Vy _))))
  obtain⟨o,ho',hcl⟩:=hx';refine we (WH (T:="StopIteration") (b:=true) ⟨o,ho',hcl⟩ VC (wp ⟨rfl,?_⟩));exact Inv.rC (ch:=[z,TI,TO,i1,i2]) I (λc o hc e=>hk c o (λq=>hc (by simp[q])) (λq=>hc (by simp[q])) (λq=>hc (by simp[q])) (λq=>hc (by simp[q])) e) hf
 self:=λ_ _ _ _ _ st h=>wpAny_pyIter_zip st.1 h
abbrev yV(h:wM)(a:wg):wM:=h.push {cls:=.type "tuple_iterator",data:=.fields #[.ref a,.int 0 0]}
abbrev sy(h:wM)(a b:wg):wM:=(yV h a).push {cls:=.type "tuple_iterator",data:=.fields #[.ref b,.int 0 0]}
abbrev uY(h:wM)(a b:wg):wM:=(sy h a b).push {cls:=.type "tuple",data:=.seq #[.ref h.objs.size,.ref (yV h a).objs.size]}
abbrev s_(h:wM)(a b:wg):wM:=(uY h a b).push {cls:=.type "tuple",data:=.seq #[.none,.none]}
abbrev m7(h:wM)(a b:wg):wM:=(s_ h a b).push {cls:=.type "zip",data:=.fields #[.none,.bool false,.bool false,.ref (sy h a b).objs.size,.ref (uY h a b).objs.size]}
theorem Zl(a b:wg)(xs ys:Array wf):Meets (Builtin.«zip.__new__» ⟨[.type "zip",.ref a,.ref b],[]⟩) (λ_ R s=>s.heap.IsTuple a xs/\s.heap.IsTuple b ys/\R (.ok (.ret (.ref (s_ s.heap a b).objs.size))) {s with heap:=m7 s.heap a b}) :=
 .of_wp λprog w A R s h=>by
  obtain⟨hp,g,d,tk,os⟩:=s;obtain⟨ha,hb,h⟩:=h;have hsub:=sub_zip;have hA:xW (Xr ⟨hp,g,d,tk,os⟩) a xs:=ha;have hB:xW (Xr ⟨hp.push {cls:=.type "tuple_iterator",data:=.fields #[.ref a,.int 0 0]},g,d,tk,os⟩) b ys:=hb.at λo e=>wn _ e
  wp_walk using Vk hA,Vk hB
  exact⟨_,rfl,h⟩
section
variable{prog:wO}{w:wR}{A:w6}{E:wf->wl->Prop}{s:wl}
theorem Kn{a b:wg}{xs ys:Array wf}{Q:wf->wl->Prop}(ha:s.heap.IsTuple a xs)(hb:s.heap.IsTuple b ys)
  (fin:∀h',IsZip h' (s.heap.objs.size+4) (s.heap.objs.size+2) (s.heap.objs.size+3) .none->Wy h' (s.heap.objs.size+2) (.ref s.heap.objs.size) (.ref (s.heap.objs.size+1))->Wy h' (s.heap.objs.size+3) .none .none ->
   h'.IsTupleIter s.heap.objs.size a 0->h'.IsTupleIter (s.heap.objs.size+1) b 0->(∀c o,s.heap.get? c=some o->h'.get? c=some o)->Q (.ref (s.heap.objs.size+4)) {s with heap:=h'}):wq (model prog w) A (call (.type "zip") [.ref a,.ref b]) Q E s:=by
 refine callType_new F.called_zip (by decide) (F.typeCall_zip_2 _ _) (F.newCall_zip_2 _ _) (λobj=>F.args_object_init_3 obj _ _) F.entry_zip_new (Zl a b xs ys) ⟨ha,hb,?_⟩;have z1:(yV s.heap a).objs.size=s.heap.objs.size+1:=W9 ..;have z2:(sy s.heap a b).objs.size=s.heap.objs.size+2:=by rw[W9,z1]
 have z3:(uY s.heap a b).objs.size=s.heap.objs.size+3:=by rw[W9,z2]
 have z4:(s_ s.heap a b).objs.size=s.heap.objs.size+4:=by rw[W9,z3]
 have g5:(m7 s.heap a b).get? (s_ s.heap a b).objs.size=some _:=wN _ rfl;have g4:(m7 s.heap a b).get? (uY s.heap a b).objs.size=some _:=wn _ (wN _ rfl);have g3:(m7 s.heap a b).get? (sy s.heap a b).objs.size=some _:=wn _ (wn _ (wN _ rfl));have g2:(m7 s.heap a b).get? (yV s.heap a).objs.size=some _:=wn _ (wn _ (wn _ (wN _ rfl)));have g1:(m7 s.heap a b).get? s.heap.objs.size=some _:=wn _ (wn _ (wn _ (wn _ (wN _ rfl))))
 show _/\_
 rw[z2,z3,z4]at g5;rw[z1,z2]at g3;rw[z3]at g4;rw[z1]at g2;rw[z4];exact⟨⟨_,g5,rfl⟩,fin _ g5 g3 g4 ⟨_,g1,rfl,rfl⟩ ⟨_,g2,rfl,rfl⟩ λc o x=>wn _ (wn _ (wn _ (wn _ (wn _ x))))⟩
end
def Af(t u:Bool)(K:wb)(ta:TA):TI:=λσ H R=>ta σ H λvs H1=>∃a b,vs=[.ref a,.ref b]/\(∃xs,dj t K H1 a xs)/\(∃ys,dj u K H1 b ys)/\R (yf t u K a b) H1
theorem DJ:vK "zip"=some (.type "zip"):=by decide +kernel
theorem ml{x a b:wg}(h:x≠a)(k:x≠b):x ∉ [a,b]:=by simp[h,k]
theorem L7{n a b:Nat}(la:a<n)(lb:b<n):ZA (n+4) (n+2) (n+3) n (n+1) [n,a] [n+1,b] where
 a1:=wL (by lia)
 a2:=wL (by lia)
 a3:=wL (by lia)
 a4:=wL (by lia)
 a5:=wL (by lia)
 a6:=vi (by lia)
 a7:=vi (by lia)
 a8:=vi (by lia)
 a9:=vi (by lia)
 b0:=wL (by lia)
 b1:=ml (vi (by lia)) (vi (by lia))
 b2:=ml (vi (by lia)) (vi (by lia))
 b3:=ml (vi (by lia)) (vi (by lia))
 b4:=ml (vi (by lia)) (vi (by lia))
 b5:=ml (wL (by lia)) (vi (by lia))
 b6:=ml (vi (by lia)) (vi (by lia))
theorem Jm{X:Cx}{elts:List Expr}{k1}{tpos:Pos}{pins:List (wg × Obj)}{σ : L2.St}{H:Hp}{s:wl}{R:It->Hp->Prop}{h':wM}{E:wf->wl->Prop}{t u:Bool}{a b:wg}(I:Inv X pins σ H s)(la:a<s.heap.objs.size)(lb:b<s.heap.objs.size)
  (hz:IsZip h' (s.heap.objs.size+4) (s.heap.objs.size+2) (s.heap.objs.size+3) .none) (hi:Wy h' (s.heap.objs.size+2) (.ref s.heap.objs.size) (.ref (s.heap.objs.size+1))) (ho:Wy h' (s.heap.objs.size+3) .none .none)
  (s1:iM t h' s.heap.objs.size a 0) (s2:iM u h' (s.heap.objs.size+1) b 0) (kp:∀c o,s.heap.get? c=some o->h'.get? c=some o) (q:R (yf t u X.K a b) H):wq (model X.prog X.w) X.A (pyIter (.ref (s.heap.objs.size+4))) (Bg X pins σ (.Tuple elts k1 tpos) R) E {s with heap:=h'}:=by
 refine wpAny_pyIter_zip hz ?_;refine⟨s.heap.objs.size+4,[s.heap.objs.size+4,s.heap.objs.size+2,s.heap.objs.size+3,s.heap.objs.size,s.heap.objs.size+1],_,_,H,rfl,I.kept (t':=s.toks) kp,Sy a b _ (s.heap.objs.size+2) (s.heap.objs.size+3) s.heap.objs.size (s.heap.objs.size+1) (L7 la lb) (wL la) (wL (Vx lb)),⟨hz,hi,⟨_,_,ho⟩,s1,s2⟩,λc hc=>?_,q⟩
 ·have hb':s.heap.objs.size<=c:=by
   simp only[wQ,Va,or_false]at hc;rcases hc with rfl | rfl | rfl | rfl | rfl
   ·exact Vb _ 4
   ·exact Vb _ 2
   ·exact Vb _ 3
   ·exact wo _
   ·exact Vb _ 1
  exact I.iI hb' (I.aE.fresh hb')
theorem T1{X:Cx}{elts:List Expr}{k1}{tpos p pos:Pos}{l m:Expr}{ta:TA}(hg:Gl X "zip")(hm:X.mg "zip"=none)(ha:PA X [l,m] ta)(hs:w5 [l,m] X.env=[(false,eval l X.env),(false,eval m X.env)]:=by rfl)(hs2:w5 [m] X.env=[(false,eval m X.env)]:=by rfl) :
  PI X (.Tuple elts k1 tpos) (.Call (.Name "zip" p) [l,m] [] pos) (Af true true X.K ta):=by
 intro pins s σ H R I h;refine Call_ (gb I hg hm DJ (vv (aH (ha pos pins s σ H _ I h) λus s1 ⟨vs,H1,I1,r1,q1⟩=>?_) (by rw[hs,hs2]) (by rw[hs2];rfl)));obtain⟨a,b,rfl,⟨xs,hq1⟩,⟨ys,hq2⟩,q⟩:=q1;obtain⟨u,v,rfl,ru,rv⟩:=ki r1;cases ru;cases rv;obtain⟨its,_,p1⟩:=I1.iJ hq1;obtain⟨jts,_,p2⟩:=I1.iJ hq2;have la:a<s1.heap.objs.size:=by obtain⟨o,e,_⟩:=(show s1.heap.IsTuple a its.toArray from p1);exact wy e
 have lb:b<s1.heap.objs.size:=by obtain⟨o,e,_⟩:=(show s1.heap.IsTuple b jts.toArray from p2);exact wy e
 exact Kn p1 p2 λh' hz hi ho t1 t2 kp=>Jm (t:=true) (u:=true) I1 la lb hz hi ho t1 t2 kp q
theorem Yy{X:Cx}{elts:List Expr}{k1}{tpos p pos:Pos}{l m:Expr}{ta:TA}(hg:Gl X "zip")(hm:X.mg "zip"=none)(ha:PA X [l,m] ta)(hs:w5 [l,m] X.env=[(false,eval l X.env),(false,eval m X.env)]:=by rfl)(hs2:w5 [m] X.env=[(false,eval m X.env)]:=by rfl) :
  PI X (.Tuple elts k1 tpos) (.Call (.Name "zip" p) [l,m] [] pos) (Af false false X.K ta):=by
 intro pins s σ H R I h;refine Call_ (gb I hg hm DJ (vv (aH (ha pos pins s σ H _ I h) λus s1 ⟨vs,H1,I1,r1,q1⟩=>?_) (by rw[hs,hs2]) (by rw[hs2];rfl)));obtain⟨a,b,rfl,⟨xs,hq1⟩,⟨ys,hq2⟩,q⟩:=q1;obtain⟨u,v,rfl,ru,rv⟩:=ki r1;cases ru;cases rv;obtain⟨its,_,p1⟩:=I1.iJ hq1;obtain⟨jts,_,p2⟩:=I1.iJ hq2;have la:a<s1.heap.objs.size:=by obtain⟨o,e,_⟩:=(show s1.heap.IsList a its.toArray from p1);exact wy e
 have lb:b<s1.heap.objs.size:=by obtain⟨o,e,_⟩:=(show s1.heap.IsList b jts.toArray from p2);exact wy e
 exact call_zip_2 p1 p2 λh' hz hi ho t1 t2 _ kp=>Jm (t:=false) (u:=false) I1 la lb hz hi ho t1 t2 kp q
theorem dj.same{t:Bool}{K:wb}{H H':Hp}{a:wg}{xs:List V}(s:ah H H')(h:dj t K H a xs):dj t K H' a xs:=by
 cases t
 ·exact s.seq h
 ·exact s.g_ h
def AY(t u:Bool)(K:wb)(g:TG)(tt:TT)(te:TE)(src:List (Option Nat))(σ : L2.St)(vs:List V)(H1:Hp)(Q:VK):Prop:=∃a b,vs=[.ref a,.ref b]/\(∃xs,dj t K H1 a xs)/\(∃ys,dj u K H1 b ys) /\
 ∀D,H1 D=none->jJ g tt te (yf t u K a b) D (dC src σ) (upd H1 D (.lst [])) (λH'=>Q (.ref D) H')
section
variable{t u:Bool}{K:wb}{ta:TA}{g:TG}{tb:TS}{tt:TT}{te:TE}{D:cj}{σ : L2.St}{H:Hp}{Q:VK}{a b:wg}{xs ys:List V}{src:List (Option Nat)}{o0 o0':Option V}{tl:L2.St}
theorem YG(h:ta σ H λvs H1=>AY t u K g tt te src σ vs H1 Q):jd src (Af t u K ta) g tt te σ H Q:=h
def fQ(H:Hp)(tl:L2.St)(Rel:Nat->V->Hp->Prop)(D:wg)(i:Nat)(zs:List V)(σ':L2.St)(H':Hp):Prop :=
 (∃o1 o2,σ'=o1::o2::tl)/\H D=none/\ah H H'/\H' D=some (.lst zs)/\zs.length=i /\ ∀j y,zs[j]? = some y->Rel j y H'
theorem yd{Rel:Nat->V->Hp->Prop}{D:wg}{i:Nat}{zs:List V}{σ' σ3:L2.St}{H1 H5:Hp}{y:V}(inv:fQ H tl Rel D i zs σ' H1)(hi:i<=1000)(hk:∀i v H1 H2,br H1 H2->Rel i v H1->Rel i v H2)(hσ : ∃o1 o2,σ3=o1::o2::tl)(s:ah H1 H5)(r:Rel i y H5):nQ (fQ H tl Rel) D i σ3 y H5:=by
 obtain⟨_,hn,s1,hD,hl,hr⟩:=inv;have hD5:=s _ _ hD;refine kQ hD5 (by lia) λH6 E6 e6=>⟨hσ,hn,(s1.trans s).grow hn E6,e6,by simp[hl],λj z hz=>?_⟩
 have k6:br H5 H6:=E6.keep hD5;rcases wB j zs.length with hj | hj
 ·rw[Wu hj]at hz
  exact hk _ _ _ _ (s.keep.trans k6) (hr j z hz)
 ·have hj':j=zs.length:=by
   rcases wB zs.length j with q | q
   ·rw[wF (by simp;lia)]at hz;cases hz
   ·lia
  subst hj';rw[vM (wo _),VI]at hz;cases hz;rw[hl];exact hk _ _ _ _ k6 r
theorem zy5(hx:dj t K H a xs)(hy:dj u K H b ys)(hxy:xs.length=ys.length)(hsrc:dC src σ = o0::o0'::tl)(Rel:Nat->V->Hp->Prop)(hk:∀i v H1 H2,br H1 H2->Rel i v H1->Rel i v H2)
  (hs:∀D i x y zs o1 o2 H1 c,xs[i]? = some x->ys[i]? = some y->fQ H tl Rel D i zs (o1::o2::tl) H1->H1 c=some (.tup [x,y])->gz (fQ H tl Rel) g tt te D i (.ref c) (o1::o2::tl) H1)
  (hd:∀D zs H',H D=none->ah H H'->H' D=some (.lst zs)->zs.length=xs.length->(∀j y,zs[j]? = some y->Rel j y H')->Q (.ref D) H'):AY t u K g tt te src σ [.ref a,.ref b] H Q:=by
 refine⟨a,b,rfl,⟨xs,hx⟩,⟨ys,hy⟩,λD hD=>⟨λi m σ' H'=>i+m=xs.length /\ ∃zs,fQ H tl Rel D i zs σ' H',⟨xs.length,by lia,[],⟨o0,o0',hsrc⟩,hD,ah.upd hD,cO,rfl,λj y z=>by simp at z⟩,?_⟩⟩;rintro i m σ' H' ⟨him,zs,inv⟩;have hq1:=dj.same inv.2.2.1 hx;have hq2:=dj.same inv.2.2.1 hy
 by_cases hm:m=0
 ·have e:i=xs.length:=by lia
  subst e;obtain⟨_,n,s,e,hl,r⟩:=inv;exact .inl ⟨⟨xs,ys,hq1,hq2,.inl rfl⟩,hd D zs H' n s e hl r⟩
 ·have hi:i<xs.length:=by lia
  have hj:i<ys.length:=by lia
  refine .inr ⟨⟨xs,xs[i],ys,ys[i],hq1,by simp[hi],hq2,by simp[hj]⟩,λσ2 H2=>∃zs,fQ H tl Rel D (i+1) zs σ2 H2,λσ2 H2 h=>⟨m-1,by lia,by lia,h⟩,?_⟩;rintro v H2 ⟨c,x,y,rfl,hn,hx',hy',rfl⟩;obtain⟨⟨o1,o2,rfl⟩,n,s,e,hl,r⟩:=inv;have su:=ah.upd (o:=.tup [x,y]) hn;exact hs D i x y zs o1 o2 _ c (hx' xs hq1) (hy' ys hq2) ⟨⟨o1,o2,rfl⟩,n,s.trans su,su _ _ e,hl,λj y hy=>hk _ _ _ _ su.keep (r j y hy)⟩ cO
end
def Eb(K:wb):List V->Hp->VK->Prop:=λxs H Q=>∃(p:wg)(ns:List Int),xs=[.ref p]/\aU K H p (ns.map V.int)/\Q (.int ns.sum) H
theorem Yt:vK "sum"=some (.builtin "sum"):=by decide +kernel
open PyProof.V PySem.Calls in
theorem U2{X:Cx}(hc:X.calm=true):aY X (.builtin "sum") (Eb X.K):=by
 intro pins s σ H xs us Q I r h;obtain⟨p,ns,rfl,hq,q⟩:=h;obtain⟨u,rfl,rx⟩:=jj r;cases rx;obtain⟨its,r',pl,hz⟩:=I.tuple hq;have hI:=ML r';have hT:s.heap.IsTuple p its.toArray:=pl;obtain⟨zs,hx⟩:=hI.allInts.items;have hn:numsOf its.toArray.toList=ns:=by rw[show its.toArray.toList=its from rfl,hI.numsOf]
 rw[hx]at hT hn;rw[nums_intItems]at hn;refine PySem.W.ktm_sumG (I.ok.hd hc) hT λh' tk t' hk=>?_
 rw[preSum_eq,Vf (by simp),hn];exact⟨.int ns.sum,H,I.kept (t':=tk) hk,⟨_,rfl⟩,q⟩
theorem zxb{K:wb}{H:Hp}{Q:VK}{v:V}{ns:List Int}(h:Is K H v (TZ ns))(q:Q (.int ns.sum) H):Eb K [v] H Q:=by
 obtain⟨a,rfl,hs⟩:=k_.mp h;exact⟨a,ns,rfl,hs,q⟩
theorem zvL{α : Type}(xs:List α)(k:Nat)(h:k<=xs.length):hJ xs (some (k:Int)) none=xs.drop k:=by
 unfold hJ;rw[HT.Rz,HT.RH,Nat.min_eq_left h];exact Vf (by rw[Wb];lia)
def md(K:wb):List V->Hp->VK->Prop:=λxs H Q=>∃(p:wg)(bs:List Bool),xs=[.ref p]/\aI K H p (bs.map V.bl)/\Q (.bl (bs.all id)) H
theorem zj:vK "all"=some (.builtin "all"):=by decide +kernel
theorem OU{bs:List Bool} : ∀{us:List wf},aK (bs.map V.bl) us->us=bs.map Value.bool:=by
 induction bs with
 | nil=>intro us r;rw[qy]at r;cases r;rfl
 | cons b bs ih =>
  intro us r;rw[wZ]at r;cases r with
  | cons r1 r2 =>
   cases r1;rw[wZ,ih r2]
theorem ZO(bs:List Bool):((wt bs.length).all λi=>(bs[i]?).getD true)=bs.all id:=by
 rw[vy,Wl,Wl]
 constructor
 ·intro h b hb
  obtain⟨i,hi,rfl⟩:=vc hb;have:=h i (wH.mpr hi);rw[wc hi]at this;exact this
 ·intro h i hi
  rw[wH]at hi;rw[wc hi];exact h _ (Wc hi)
open PyProof.V PySem.Calls in
theorem sI{X:Cx}(hc:X.calm=true):aY X (.builtin "all") (md X.K):=by
 intro pins s σ H xs us Q I r h;obtain⟨p,bs,rfl,hq,q⟩:=h;obtain⟨u,rfl,rx⟩:=jj r;cases rx;obtain⟨its,r',pl,hz⟩:=I.list hq;have hi:its=bs.map Value.bool:=OU r';have hl:s.heap.IsList p its.toArray:=pl.isList;have hlt:p<s.heap.objs.size:=by obtain⟨_,e,_⟩:=hl;exact wy e
 refine call_all_walk (V3 hl ?_)
 refine⟨s.heap.objs.size,[s.heap.objs.size,p],[s.heap.objs.size],its.toArray.size,_,_,λi=>(bs[i]?).getD true,rfl,Walks.list (A:=X.A.in1) (I.ok.hd hc) _ p (wL hlt) its.toArray,
  ⟨⟨_,wN _ rfl,rfl,rfl⟩,hl.push _⟩,λi v s' Q' E' hP hQ=>?_,λh' tk hk=>?_⟩
 ·have hP:its.toArray[i]? = some v:=hP
  rw[hi]at hP;simp only[xk,wu,Vd]at hP;obtain⟨b,e,rfl⟩:=hP;simp only[e,QM]at hQ;exact Wn hQ
 ·have e:((wt its.toArray.size).all λi=>(bs[i]?).getD true)=bs.all id:=by
   rw[wI,hi,wm];exact ZO bs
  rw[e];exact⟨.bl (bs.all id),H,I.kept (t':=tk) (λb x e=>hk b x (λhm=>by rw[wX.mp hm]at e;exact Vq _ (wy e)) (wn _ e)),rfl,q⟩
theorem pf{K:wb}{H:Hp}{Q:VK}{p:wg}{bs:List Bool}(h:aI K H p (bs.map V.bl))(q:Q (.bl (bs.all id)) H):md K [.ref p] H Q:=⟨p,bs,rfl,h,q⟩
section
variable{t u:Bool}{K:wb}{g:TG}{tt:TT}{te:TE}{σ : L2.St}{H:Hp}{Q:VK}{a b:wg}{xs ys:List V}{src:List (Option Nat)}{o0 o0':Option V}{tl:L2.St}
theorem UH(hx:dj t K H a xs)(hy:dj u K H b ys)(hxy:ys.length<xs.length)(hsrc:dC src σ = o0::o0'::tl)(Rel:Nat->V->Hp->Prop)(hk:∀i v H1 H2,br H1 H2->Rel i v H1->Rel i v H2)
  (hs:∀D i x y zs o1 o2 H1 c,xs[i]? = some x->ys[i]? = some y->fQ H tl Rel D i zs (o1::o2::tl) H1->H1 c=some (.tup [x,y])->gz (fQ H tl Rel) g tt te D i (.ref c) (o1::o2::tl) H1)
  (hd:∀D zs H',H D=none->ah H H'->H' D=some (.lst zs)->zs.length=ys.length->(∀j y,zs[j]? = some y->Rel j y H')->Q (.ref D) H'):AY t u K g tt te src σ [.ref a,.ref b] H Q:=by
 refine⟨a,b,rfl,⟨xs,hx⟩,⟨ys,hy⟩,λD hD=>⟨λi m σ' H'=>i+m=ys.length /\ ∃zs,fQ H tl Rel D i zs σ' H',⟨ys.length,by lia,[],⟨o0,o0',hsrc⟩,hD,ah.upd hD,cO,rfl,λj y z=>by simp at z⟩,?_⟩⟩;rintro i m σ' H' ⟨him,zs,inv⟩;have hq1:=dj.same inv.2.2.1 hx;have hq2:=dj.same inv.2.2.1 hy
 by_cases hm:m=0
 ·have e:i=ys.length:=by lia
  subst e;obtain⟨_,n,s,e,hl,r⟩:=inv;exact .inl ⟨⟨xs,ys,hq1,hq2,.inr ⟨hxy,rfl⟩⟩,hd D zs H' n s e hl r⟩
 ·have hi:i<xs.length:=by lia
  have hj:i<ys.length:=by lia
  refine .inr ⟨⟨xs,xs[i],ys,ys[i],hq1,by simp[hi],hq2,by simp[hj]⟩,λσ2 H2=>∃zs,fQ H tl Rel D (i+1) zs σ2 H2,λσ2 H2 h=>⟨m-1,by lia,by lia,h⟩,?_⟩;rintro v H2 ⟨c,x,y,rfl,hn,hx',hy',rfl⟩;obtain⟨⟨o1,o2,rfl⟩,n,s,e,hl,r⟩:=inv;have su:=ah.upd (o:=.tup [x,y]) hn;exact hs D i x y zs o1 o2 _ c (hx' xs hq1) (hy' ys hq2) ⟨⟨o1,o2,rfl⟩,n,s.trans su,su _ _ e,hl,λj y hy=>hk _ _ _ _ su.keep (r j y hy)⟩ cO
end
def LB(g:TG)(tb:TS)(D:cj)(σ : L2.St)(vs:List V)(H1:Hp):Prop:=∃i j:Int,vs=[.int i,.int j]/\(-(2^62)<=i/\i<2^62 /\ -(2^62)<=j/\j<2^62) /\
 ∃W:Nat->Nat->L2.St->Hp->Prop,(∃m,W 0 m σ H1) /\ ∀k m σ H,W k m σ H ->
  ((fK i (j-i).toNat).stop k H/\D.nx σ H)\/((fK i (j-i).toNat).go k H /\ ∃M:L2.St->Hp->Prop,(∀σ' H',M σ' H'->∃m',m'<m/\W (k+1) m' σ' H') /\ ∀x H',(fK i (j-i).toNat).ft k H x H'->g x σ H' λσ2 H2=>tb {D with nx:=M,ct:=M,bk:=D.nx} σ2 H2)
theorem zxx{ta:TA}{g:TG}{tb:TS}{D:cj}{σ : L2.St}{H:Hp}(h:ta σ H λvs H1=>LB g tb D σ vs H1):kZ (O8 ta) g tb D σ H:=h
theorem zsb{g:TG}{tb:TS}{D:cj}{σ : L2.St}{H:Hp}{lo hi:Int}(h0 : -1000000000<=lo)(h1:lo<1000000000)(h2 : -1000000000<=hi)(h3:hi<1000000000)(Pv:Nat->L2.St->Hp->Prop)(p:Pv 0 σ H)
  (hs:∀(i:Nat) σ H,i<(hi-lo).toNat->Pv i σ H->g (.int (lo+(i:Int))) σ H λσ2 H2=>tb {D with nx:=Pv (i+1),ct:=Pv (i+1),bk:=D.nx} σ2 H2)
  (hd:∀σ H,Pv (hi-lo).toNat σ H->D.nx σ H):LB g tb D σ [.int lo,.int hi] H :=
 ⟨lo,hi,rfl,⟨by lia,by lia,by lia,by lia⟩,Ij (lo:=lo) Pv p hs hd⟩
def BB(K:wb):List V->Hp->VK->Prop:=λxs H Q=>∃x tp S T d b,xs=[x,.ref tp]/\aU K H tp [.ty S,.ty T]/\Is K H x d/\X9 K (.type (kindOf d)) [.type S,.type T]=some b/\Q (.bl b) H
theorem YC{X:Cx} : aY X (.builtin "isinstance") (BB X.K):=by
 intro pins s σ H xs us Q I r h;obtain⟨x,tp,S,T,d,b,rfl,ht,hd,e,q⟩:=h;obtain⟨u,w',rfl,rx,rt⟩:=ki r;cases (show w'=Value.ref tp from rt);obtain⟨tts,rv,⟨ot,ht1,ht2,n,ht3⟩,_⟩:=I.tuple ht;obtain⟨t1,t2,rfl,r1,r2⟩:=ki rv;cases (show t1=Value.type S from r1);cases (show t2=Value.type T from r2);obtain⟨c,dd,da,sl⟩:=ot;cases ht2;cases ht3;have fin:∀tk,EP X pins σ Q (.bool b) {s with toks:=tk}:=λtk=>⟨.bl b,H,I.tok _,rfl,q⟩
 cases d with
 | none =>
  cases nh.mp hd;cases (show u=Value.none from rx);exact Vo Xe I.cW True.intro ht1 e (λz=>nomatch z) fin
 | bool y =>
  cases kY.mp hd;cases (show u=Value.bool y from rx);exact Vo Xf I.cW True.intro ht1 e (λz=>nomatch z) fin
 | int i =>
  cases bS.mp hd;obtain⟨t,q⟩:=(show ∃t,u=Value.int i t from rx);cases q;exact Vo XB I.cW True.intro ht1 e (λz=>nomatch z) fin
 | str y =>
  cases cU.mp hd;obtain⟨t,q⟩:=(show ∃t,u=Value.str y t from rx);cases q;exact Vo XC I.cW True.intro ht1 e (λz=>nomatch z) fin
 | tuple ds =>
  obtain⟨a,xs,e1,hq,_⟩:=bV.mp hd;subst e1;cases (show u=Value.ref a from rx);obtain⟨its,_,⟨o,h1,h2,_⟩,_⟩:=I.tuple hq;exact Vo xU I.cW ⟨o,h1,h2⟩ ht1 e (λz=>nomatch z) fin
 | list ds =>
  obtain⟨a,xs,e1,hq,_⟩:=cu.mp hd;subst e1;cases (show u=Value.ref a from rx);obtain⟨its,_,⟨o,n,h1,h2,_⟩,_⟩:=I.list hq;exact Vo Xg I.cW ⟨o,h1,h2⟩ ht1 e (λz=>nomatch z) fin
 | dict kv =>
  obtain⟨a,kvs,e1,hq⟩:=uN.mp hd;subst e1;cases (show u=Value.ref a from rx);obtain⟨_,_,vs,_,o,es,ep,h1,h2,_⟩:=(show dq X.prog X.w H s.heap a (.dK kvs)from I.aE a _ hq);exact Vo Xh I.cW ⟨o,h1,h2.1⟩ ht1 e (λz=>nomatch z) fin
theorem zy7{K:wb}(d:wz):X9 K (.type (kindOf d)) [.type "list",.type "tuple"]=some (oS d || gS d):=by cases d<;>rfl
theorem Bk{K:wb}{H:Hp}{Q:VK}{v:V}{tp:wg}{d:wz}(h:Is K H v d)(t:H tp=some (.tup [.ty "list",.ty "tuple"]))(q:Q (.bl (oS d || gS d)) H):BB K [v,.ref tp] H Q :=
 ⟨v,tp,"list","tuple",d,_,rfl,.of t,h,zy7 d,q⟩
section
variable{X:Cx}{tg:Expr}
def AL(K:wb)(tl:TE):TI:=λσ H R=>tl σ H λx H1=>(∃a,x=.ref a/\(∃xs,aI K H1 a xs)/\R (hW K a) H1)\/(∃a,x=.ref a/\(∃xs,aU K H1 a xs)/\R (iV K a) H1)
theorem L8{l:Expr}{tl:TE}(hl:PE X l tl):PI X tg l (AL X.K tl):=by
 intro pins s σ H R I h;refine aH (hl pins s σ H _ I h) λv s1 ⟨x,H1,I1,r1,q1⟩=>?_
 rcases q1 with⟨a,e,⟨xs,hq⟩,q⟩ | ⟨a,e,⟨xs,hq⟩,q⟩
 ·subst e
  cases r1;obtain⟨its,rv,p,hz⟩:=I1.list hq;refine V3 p.isList ?_;refine⟨s1.heap.objs.size,[s1.heap.objs.size],_,_,H1,rfl,I1.kept (t':=s1.toks) λb o e=>wn _ e,C7 a _,⟨_,wN _ rfl,rfl,rfl⟩,λb hb=>?_,q⟩;have e:b=s1.heap.objs.size:=by simpa using hb
  subst e;exact I1.iI (wo _) (I1.aE.fresh (wo _))
 ·subst e
  cases r1;obtain⟨its,rv,p,hz⟩:=I1.tuple hq;refine Vk (show s1.heap.IsTuple a its.toArray from p) ?_;refine⟨s1.heap.objs.size,[s1.heap.objs.size],_,_,H1,rfl,I1.kept (t':=s1.toks) λb o e=>wn _ e,M7 a _,⟨_,wN _ rfl,rfl,rfl⟩,λb hb=>?_,q⟩;have e:b=s1.heap.objs.size:=by simpa using hb
  subst e;exact I1.iI (wo _) (I1.aE.fresh (wo _))
end
section
variable{K:wb}{g:TG}{tt:TT}{te ta tb' tc:TE}{tb:TS}{D:cj}{src:List (Option Nat)}{σ : St}{H:Hp}{Q:VK}{r r':R2}
theorem Y3(h:ta σ H λx H1=>nU K g tt te src σ x H1 Q\/rO K g tt te src σ x H1 Q):jd src (AL K ta) g tt te σ H Q:=h
theorem U8(h:te σ H λx H1=>B0 K g tb D σ x H1\/CW K g tb D σ x H1):kZ (AL K te) g tb D σ H:=h
theorem UY(h:ta σ H λx H1=>tb' σ H1 λy H2=>r x y H2 λz H3=>∃k,z=.bl k/\(if k=true then tc σ H3 λw' H4=>r' y w' H4 Q else Q (.bl false) H3)):Jh r r' ta tb' tc σ H Q:=h
theorem SJ{b:Bool}{P:Bool->Prop}(h:P b):∃k,V.bl b=.bl k/\P k:=⟨b,rfl,h⟩
end
def bG(a b:Rat)(xs:List Rat):wz:=.tuple [R a b,TN xs]
theorem zy0(a b:Rat)(xs:List Rat):cB (bG a b xs)=true:=by rw[bG,cB,b7,b7,b7,DI,oU];rfl
theorem zBA{x y:Rat}(h:N x=N y):x=y:=by
 have h':PyData.tuple [.int x.num,.int (x.den:Int)]=PyData.tuple [.int y.num,.int (y.den:Int)]:=h
 injection h' with h1
 injection h1 with h2 h3
 injection h2 with h4
 injection h3 with h5 _
 injection h5 with h6
 exact Rat.ext h4 (by lia)
theorem lH{K:wb}{H:Hp}{us:List V}{ds:List wz}{i:Nat}{x:V}(t:ao K H us ds)(h:us[i]? = some x):i<ds.length/\Is K H x (ds.getD i .none):=by
 have hl:=t.length
 have hi:i<ds.length:=by
  rcases wB i ds.length with z | z
  ·exact z
  ·rw[wF (by lia)]at h;cases h
 obtain⟨y,e,k⟩:=t.get (i:=i) (d:=ds.getD i .none) (by rw[wa,wc hi];rfl);rw[e]at h;cases h;exact⟨hi,k⟩
def DA(K:wb)(a:wg):It :=
 ⟨λi H=>∃xs x,aI K H a xs/\xs[i]? = some x,λi H y H'=>∃t x,y=.ref t/\H t=none/\(∀xs,aI K H a xs->xs[i]? = some x)/\H'=upd H t (.tup [.int (i:Int),x]),λi H=>∃xs,aI K H a xs/\xs.length<=i⟩
theorem Uj{P:wO}{w:wR}{K:wb}{elts:List Expr}{k1}{tpos:Pos}(a e it:wg)(hne:e≠it):ia P w K (.Tuple elts k1 tpos) (DA K a) [e,it] e (λi h=>(∃old,IsEnum h e it (i:Int) old)/\h.IsListIter it a i) where
 mem:=by simp
 obj:=λi h st b hb=>by
  obtain⟨⟨old,he⟩,o,eo,c,d⟩:=st;rcases wQ.mp hb with rfl | hb
  ·exact⟨_,he,λv z=>by cases (show Data.fields _=Data.cell v from z)⟩
  ·rw[wX.mp hb]
   exact⟨o,eo,λv z=>by rw[d]at z;cases z⟩
 keep:=λi h h' st k=>⟨let ⟨old,he⟩:=st.1;⟨old,k e (by simp) _ he⟩,st.2.at λo eo=>k it (by simp) o eo⟩
 item:=by
  intro X hP hw hK hc i pins s σ H E I hf st hg;subst hP hw hK;obtain⟨⟨old,he⟩,st⟩:=st;obtain⟨xs,x,hq,hx⟩:=hg;obtain⟨its,rv,p,hz⟩:=I.list hq;obtain⟨u,hu,ru⟩:=rv.get hx;have p':s.heap.IsList a its.toArray:=p.isList
  have hai:a≠it:=λz=>by
   subst z;obtain⟨o,e1,c1,_⟩:=st;obtain⟨o',e2,c2,_⟩:=p';rw[e1]at e2;cases e2;rw[c1]at c2;exact absurd c2 (by decide)
  have hae:e≠a:=λz=>by
   subst z;obtain⟨o',e2,c2,_⟩:=p';rw[he]at e2;cases e2;exact absurd (show Value.type "enumerate"=Value.type "list" from c2) (by decide)
  have hlt:i<its.toArray.size:=by
   rcases wB i its.length with z | z
   ·simpa using z
   ·rw[wF z]at hu;cases hu
  refine wpAny_pyNext_enum_itemD (Draws.list (A:=X.A.in1) (I.ok.hd hc) it a hai its.toArray) he ⟨st,p'⟩ hlt hne (by simp[hne,hae]) λv h1 tk hv ho hs1 hT hsz hk=>?_
  have hvu:v=u:=by
   have hv':its[i]? = some v:=by simpa using hv
   rw[hu]at hv';exact(wP hv').symm
  subst hvu
  have I1:Inv X pins σ (upd H s.heap.objs.size (.tup [.int (i:Int),x])) {s with heap:=s.heap.push {cls:=.type "tuple",data:=.seq ([.int (i:Int) tk,v]:List wf).toArray},toks:=tk+1} :=
   I.laid (λb o q=>wn _ q) (wo _) (show dq X.prog X.w _ _ _ (.tup [.int (i:Int),x])from⟨mR (by simp),_,.cons ⟨_,rfl⟩ (.cons ru .nil),qR _ _⟩)
  have lt1:∀b∈[e,it],b<s.heap.objs.size:=λb hb=>by
   rcases wQ.mp hb with rfl | hb
   ·exact wy he
   ·rw[wX.mp hb]
    obtain⟨o,eo,_⟩:=st;exact wy eo
  have hf1:∀b∈[e,it],dX X pins (upd H s.heap.objs.size (.tup [.int (i:Int),x])) b:=λb hb=>⟨by rw[dY (wL (lt1 b hb))];exact(hf b hb).1,(hf b hb).2⟩
  refine⟨_,rfl,wpAny_letOwnedTupleGo_enum ho λh2 he2 hs2=>?_⟩;refine⟨.ref s.heap.objs.size,_,Inv.rC (s:={s with heap:=s.heap.push {cls:=.type "tuple",data:=.seq ([.int (i:Int) tk,v]:List wf).toArray},toks:=tk+1}) (ch:=[e,it]) I1 (λb o hb q=>?_) hf1,rfl,⟨_,x,rfl,I.aE.fresh (wo _),λys hy=>by rw[I.rn hy hq];exact hx,rfl⟩,⟨⟨_,by simpa using he2⟩,hs1.1.at λo eo=>(hs2.2 it (We hne)).trans eo⟩,λb hb=>(hf1 b hb).1⟩;have hbe:b≠e:=λz=>hb (by simp[z])
  have hbi:b≠it:=λz=>hb (by simp[z])
  refine(hs2.2 b hbe).trans ?_
  by_cases hb2:b=s.heap.objs.size
  ·subst hb2
   rw[wN _ rfl]at q;cases q;exact hT
  ·exact hk b o hbe hbi (by rw[QC _ _ _ hb2]at q;exact q)
 done:=by
  intro X hP hw hK hc i pins s σ H E I hf st hg;subst hP hw hK;obtain⟨⟨old,he⟩,st⟩:=st;obtain⟨xs,hq,hx⟩:=hg;obtain⟨its,rv,p,hz⟩:=I.list hq;have p':s.heap.IsList a its.toArray:=p.isList;have hl:=rv.length;have hT:s.TypeIs (.ref e) "enumerate":=⟨_,he,rfl⟩;unfold W3;refine we (WA (wpAny_callSpecial?_slot (name:=vH "__next__") hT V8 (vL V8 hT Q7 ?_ (QT _))))
  show wq _ _ (field (.ref e) 2 >>= _) _ _ _;refine we (vg he rfl (x:=.ref it) rfl ?_)
  refine we (wpAny_nextOf_list_end (A:=X.A.in1) (I.ok.hd hc) st p' (by simp;lia) λh' y he' hx'=>?_);obtain⟨o,ho,hcl⟩:=hx';refine we (WH (T:="StopIteration") (b:=true) ⟨o,ho,hcl⟩ VC (wp ⟨rfl,?_⟩));obtain⟨f0,f1,f2,f3,f4,f5⟩:=hf it (by simp);exact I.turned (t':=s.toks) (λb o hb e=>he' b o hb e) f0 f1 f3 f4 f5
 self:=λ_ _ _ _ _ st h=>let ⟨_,he⟩:=st.1;wpAny_pyIter_enum he h
def Na(K:wb)(ta:TA):TI:=λσ H R=>ta σ H λvs H1=>∃a,vs=[.ref a]/\(∃xs,aI K H1 a xs)/\R (DA K a) H1
theorem zxj{X:Cx}{elts:List Expr}{k1}{tpos p pos:Pos}{l:Expr}{ta:TA}(hg:Gl X "enumerate")(hm:X.mg "enumerate"=none)(ha:PA X [l] ta)(hs:w5 [l] X.env=[(false,eval l X.env)]:=by rfl) :
  PI X (.Tuple elts k1 tpos) (.Call (.Name "enumerate" p) [l] [] pos) (Na X.K ta):=by
 intro pins s σ H R I h;refine Call_ (gb I hg hm Kj (vv (aH (ha pos pins s σ H _ I h) λus s1 ⟨vs,H1,I1,r1,q1⟩=>?_) hs rfl));obtain⟨a,rfl,⟨xs,hq⟩,q⟩:=q1;obtain⟨u,rfl,ru⟩:=jj r1;cases ru;obtain⟨its,rv,p,hz⟩:=I1.list hq;refine call_enumerate_list p.isList λh' he hit _ kp=>?_
 refine wpAny_pyIter_enum he ?_;refine⟨s1.heap.objs.size+1,[s1.heap.objs.size+1,s1.heap.objs.size],_,_,H1,rfl,I1.kept (t':=s1.toks) kp,Uj a (s1.heap.objs.size+1) s1.heap.objs.size (XG _),⟨⟨_,he⟩,hit⟩,λb hb=>?_,q⟩
 have hb':s1.heap.objs.size<=b:=by
  rcases wQ.mp hb with rfl | hb
  ·lia
  ·rw[wX.mp hb];exact wo _
 exact I1.iI hb' (I1.aE.fresh hb')
def HN(K:wb)(g:TG)(tt:TT)(te:TE)(src:List (Option Nat))(σ : St)(vs:List V)(H1:Hp)(Q:VK):Prop:=∃a,vs=[.ref a]/\(∃xs,aI K H1 a xs) /\
 ∀D,H1 D=none->jJ g tt te (DA K a) D (dC src σ) (upd H1 D (.lst [])) (λH'=>Q (.ref D) H')
section
variable{K:wb}{ta:TA}{g:TG}{tb:TS}{tt c:TT}{te:TE}{D:cj}{σ : St}{H:Hp}{Q:VK}{a:wg}{xs:List V}{src:List (Option Nat)}{o0 o0':Option V}{tl:St}
theorem zuN(h:ta σ H λvs H1=>HN K g tt te src σ vs H1 Q):jd src (Na K ta) g tt te σ H Q:=h
theorem Si(hx:aI K H a xs)(hsrc:dC src σ = o0::o0'::tl)(Rel:Nat->V->Hp->Prop)(hk:∀i v H1 H2,br H1 H2->Rel i v H1->Rel i v H2)
  (hs:∀D i x zs o1 o2 H1 c,xs[i]? = some x->fQ H tl Rel D i zs (o1::o2::tl) H1->H1 c=some (.tup [.int (i:Int),x])->gz (fQ H tl Rel) g tt te D i (.ref c) (o1::o2::tl) H1)
  (hd:∀D zs H',H D=none->ah H H'->H' D=some (.lst zs)->zs.length=xs.length->(∀j y,zs[j]? = some y->Rel j y H')->Q (.ref D) H'):HN K g tt te src σ [.ref a] H Q:=by
 refine⟨a,rfl,⟨xs,hx⟩,λD hD=>⟨λi m σ' H'=>i+m=xs.length /\ ∃zs,fQ H tl Rel D i zs σ' H',⟨xs.length,by lia,[],⟨o0,o0',hsrc⟩,hD,ah.upd hD,cO,rfl,λj y z=>by simp at z⟩,?_⟩⟩;rintro i m σ' H' ⟨him,zs,inv⟩;have hq1:=inv.2.2.1.seq hx
 by_cases hm:m=0
 ·have e:i=xs.length:=by lia
  subst e;obtain⟨_,n,s,e,hl,r⟩:=inv;exact .inl ⟨⟨xs,hq1,wo _⟩,hd D zs H' n s e hl r⟩
 ·have hi:i<xs.length:=by lia
  refine .inr ⟨⟨xs,xs[i],hq1,by simp[hi]⟩,λσ2 H2=>∃zs,fQ H tl Rel D (i+1) zs σ2 H2,λσ2 H2 h=>⟨m-1,by lia,by lia,h⟩,?_⟩;rintro v H2 ⟨c,x,rfl,hn,hx',rfl⟩;obtain⟨⟨o1,o2,rfl⟩,n,s,e,hl,r⟩:=inv;have su:=ah.upd (o:=.tup [.int (i:Int),x]) hn;exact hs D i x zs o1 o2 _ c (hx' xs hq1) ⟨⟨o1,o2,rfl⟩,n,s.trans su,su _ _ e,hl,λj y hy=>hk _ _ _ _ su.keep (r j y hy)⟩ cO
def JG(Pv:Nat->St->Hp->Prop)(m:Nat)(tb:TS)(D:cj)(σ':St)(H1:Hp):Prop :=
 ∃M:St->Hp->Prop,(∀σ2 H2,M σ2 H2->∃m',m'<m/\Pv m' σ2 H2)/\tb {D with nx:=M,ct:=M,bk:=D.nx} σ' H1
theorem oE(Pv:Nat->St->Hp->Prop)(m0:Nat)(h0:Pv m0 σ H)(hs:∀m σ' H',Pv m σ' H'->c σ' H' λb H1=>if b=true then JG Pv m tb D σ' H1 else D.nx σ' H1):Bx c tb D σ H:=⟨Pv,⟨m0,h0⟩,hs⟩
theorem pT{Pv:Nat->St->Hp->Prop}{m:Nat}{σ':St}{H1:Hp}(h:tb {D with nx:=λσ2 H2=>∃m',m'<m/\Pv m' σ2 H2,ct:=λσ2 H2=>∃m',m'<m/\Pv m' σ2 H2,bk:=D.nx} σ' H1):JG Pv m tb D σ' H1:=⟨_,λ_ _ q=>q,h⟩
def yT(K:wb)(x:V)(H:Hp)(Q:Bool->Hp->Prop):Prop:=∃k,Ae K x H k/\Q k H
def LM(K:wb)(te:TE):TT:=λσ H Q=>te σ H λx H'=>yT K x H' Q
theorem As{X:Cx}{e:Expr}{t:TE}(h:PE X e t)(he:∀whole,isTrue e X.env whole=(do let v <- whole;standAt e.pos;holding [v] (truthy v)):=by intro _;rfl):PT X e (LM X.K t):=zwa h he
theorem YX{QB:Bool->Hp->Prop}(h:te σ H λx H'=>yT K x H' QB):LM K te σ H QB:=h
theorem zyO{QB:Bool->Hp->Prop}{v:V}{ds:List wz}(h:Is K H v (.tuple ds))(q:QB (!ds.isEmpty) H):yT K v H QB:=by
 obtain⟨p,us,rfl,hs,t⟩:=bV.mp h;have hl:=t.length;refine⟨_,.inr (.inl ⟨us,hs,rfl⟩),?_⟩
 have e:us.isEmpty=ds.isEmpty:=by
  cases us<;>cases ds<;>simp_all
 rw[e];exact q
theorem NF{QB:Bool->Hp->Prop}{v:V}{ds:List wz}(h:Is K H v (.list ds))(q:QB (!ds.isEmpty) H):yT K v H QB:=by
 obtain⟨p,us,rfl,hs,t⟩:=cu.mp h;have hl:=t.length;refine⟨_,.inl ⟨us,hs,rfl⟩,?_⟩
 have e:us.isEmpty=ds.isEmpty:=by
  cases us<;>cases ds<;>simp_all
 rw[e];exact q
end
theorem L_:∀(ys:List V)(us:List wf),ys.length=us.length->(∀(i:Nat) y u,ys[i]? = some y->us[i]? = some u->aX y u)->aK ys us
 | [],[],_,_=>.nil
 | [],_::_,h,_=>by simp at h
 | _::_,[],h,_=>by simp at h
 | y::ys,u::us,h,r=>.cons (r 0 y u rfl rfl) (L_ ys us (by simpa using h) λi y u h1 h2=>r (i+1) y u h1 h2)
def vz(l:List Nat):List V:=l.map λ(w:Nat)=>V.int (w:Int)
theorem jN(l:List Nat):(vz l).length=l.length:=wm ..
def Dm(vs:List V)(H1:Hp)(Q:VK):Prop:=∃j:Int,vs=[.int j]/\0<=j/\j<=1000 /\ ∀l,H1 l=none->Q (.ref l) (upd H1 l (.lst (vz (wt j.toNat))))
def Kp(ta:TA):TE:=λσ H Q=>ta σ H λvs H1=>Dm vs H1 Q
theorem Yv{X:Cx}{a:Expr}{ta:TA}{p p2 pos pos2:Pos}(hc:X.calm=true)(hg:Gl X "list")(hm:X.mg "list"=none)(hg2:Gl X "range")(hm2:X.mg "range"=none)(ha:PA X [a] ta)(hs:w5 [a] X.env=[(false,eval a X.env)]:=by rfl)
  (hs2:w5 [Expr.Call (.Name "range" p2) [a] [] pos2] X.env=[(false,eval (.Call (.Name "range" p2) [a] [] pos2) X.env)]:=by rfl):PE X (.Call (.Name "list" p) [.Call (.Name "range" p2) [a] [] pos2] [] pos) (Kp ta):=by
 intro pins s σ H Q I h;refine Call_ (gb I hg hm o_ ?_);refine vv ?_ hs2 rfl;rw[hs2]
 show wq _ _ (spliced ((false,eval _ X.env)::WV pos [])) _ _ s
 refine Qj ?_;refine Call_ (gb I hg2 hm2 boot_range (vv (aH (ha pos2 pins s σ H _ I h) λus s1 ⟨vs,H1,I1,r1,q1⟩=>?_) hs rfl));obtain⟨j,e,j0,j1,q⟩:=q1;subst e;obtain⟨u,rfl,ru⟩:=jj r1;obtain⟨t,rfl⟩:=ru;refine call_range_1 ?_;refine Qx ?_;have I2:Inv X pins σ H1 {s1 with heap:=s1.heap.push {cls:=.type "range",data:=.fields #[.int 0 s1.toks,.int j t,.int 1 (s1.toks+1)]},toks:=s1.toks+1+1}:=I1.kept λb o e=>wn _ e
 refine call_list_range (n:=j.toNat) (I1.ok.hd hc) (uz ..) (small_one (by lia) (by lia) (by lia) (by lia)) (by rw[rangeSize_one];split<;>lia) (by lia) λh' tk acc c hk hD hI=>?_
 refine⟨.ref _,_,I2.laid (t':=tk) hk (wo _) ?_,rfl,q _ (I2.aE.fresh (wo _))⟩;refine⟨mR (by rw[jN,vx];lia),acc.toList,c,L_ _ _ (by rw[jN,vx,W0,hI.1]) λi y u hy hu=>?_,by simpa using hD⟩;have hu':acc[i]? = some u:=by simpa using hu
 obtain⟨t',e'⟩:=hI.2 i u hu'
 have hi:i<j.toNat:=by
  have:=(WM.mp hu').1;rw[hI.1]at this;exact this
 have hy':y=V.int (i:Int):=by
  unfold vz at hy;rw[wu,vI hi]at hy;exact(wP hy).symm
 subst hy';exact⟨t',by rw[e'];congr 1;lia⟩
theorem Tg{ta:TA}{σ : St}{H:Hp}{Q:VK}(h:ta σ H λvs H1=>Dm vs H1 Q):Kp ta σ H Q:=h
theorem Ut{n:Nat}{H:Hp}{Q:VK}(hn:n<=1000)(q:∀l H',H l=none->ah H H'->H' l=some (.lst (vz (wt n)))->Q (.ref l) H'):Dm [V.int (n:Int)] H Q :=
 ⟨_,rfl,by lia,by lia,λl hl=>q l _ hl (ah.upd hl) (by rw[wW];exact cO)⟩
theorem IL(w:Nat)(l:List Nat):yE (.int (w:Int)) (vz l)=decide (w∈l):=by
 unfold yE vz
 induction l with
 | nil=>rfl
 | cons x l ih =>
  rw[wZ,WX,ih]
  show((x:Int) == (w:Int) || _)=_
  by_cases h:w=x
  ·subst h;simp
  ·have h':¬ (x:Int)=(w:Int):=λz=>h (by lia)
   simp[h,h']
theorem IA(l:List Nat):(vz l).all jW=true:=by
 unfold vz;rw[Wl];intro y hy;obtain⟨w,_,rfl⟩:=wY.mp hy
 rfl
section
variable{K:wb}{H H':Hp}{Q:VK}{v:V}{p:wg}{l:List Nat}{w:Nat}
theorem zta(h:aU K H p (vz l))(q:Q (.bl (!decide (w∈l))) H):kB K true (.int (w:Int)) (.ref p) H Q:=⟨p,vz l,rfl,.inr h,rfl,IA l,by rw[IL];exact q⟩
theorem zyz(h:aI K H p (vz l))(q:Q (.bl (decide (w∈l))) H):kB K false (.int (w:Int)) (.ref p) H Q:=⟨p,vz l,rfl,.inl h,rfl,IA l,by rw[IL];exact q⟩
def TW(l:List Nat):wz:=TZ (l.map λ(w:Nat)=>(w:Int))
theorem Bp:Is K H v (TW l) ↔ ∃a,v=.ref a/\aU K H a (vz l):=by
 unfold TW vz;rw[k_,WF];exact Iff.rfl
theorem Ay(l:List Nat):cB (TW l)=true:=sv _
def gB(ws:List (List Nat)):wz:=.tuple (ws.map TW)
theorem tP:∀ws:List (List Nat),b7 (ws.map TW)=true
 | []=>rfl
 | w::ws=>by rw[wZ,b7,Ay,tP ws];rfl
theorem Jz(ws:List (List Nat)):cB (gB ws)=true:=by rw[gB,cB];exact tP ws
theorem C3{i:Nat}{x:V}(h:(vz l)[i]? = some x):∃hi:i<l.length,x=.int ((l[i]:Nat):Int):=by
 have hi:i<l.length:=by
  rcases wB i l.length with z | z
  ·exact z
  ·rw[wF (by rw[jN];exact z)]at h;cases h
 refine⟨hi,?_⟩;unfold vz at h;rw[wu,wc hi]at h;exact(wP h).symm
def GD(a b:Rat)(xs:List Rat):wz:=.tuple [N (1-bY xs),gB (bW a b xs),bG a b (cQ a b xs)]
def gQ(h:Rat)(ws:List (List Nat))(xs:List Rat):wz:=.tuple [N h,gB ws,TN xs]
theorem MQ(h:Rat)(ws:List (List Nat))(xs:List Rat):cB (gQ h ws xs)=true:=by rw[gQ,cB,b7,b7,b7,b7,lF,Jz,oU];rfl
def NY(a b:Rat)(xs:List Rat)(k:Nat):wz:=gQ (aN a b xs (k+1)) (bW a b (ai a b xs k)) (ai a b xs (k+1))
def fj(a b:Rat)(xs:List Rat)(n:Nat):List wz:=(wt n).map (NY a b xs)
theorem pE{α : Type}(f : α -> wz)(hf:∀x,cB (f x)=true):∀l:List α,b7 (l.map f)=true
 | []=>rfl
 | x::l=>by rw[wZ,b7,hf,pE f hf l];rfl
theorem ao.snoc{vs:List V}{ds:List wz}{d:wz}(h:ao K H vs ds)(k:Is K H v d):ao K H (vs++[v]) (ds++[d]):=h.append (.cons k .nil)
theorem p8{l:List Nat}{i:Nat}(h:i<l.length):l.take (i+1)=l.take i++[l[i]]:=by
 rw[V1,wc h];rfl
theorem zy8{ds:List wz}{d:wz}{j:Nat}(h:Is K H v (.list ds))(e:ds[j]? = some d)(q:∀x,Is K H x d->Q x H):cK K v (.int (j:Int)) H Q:=by
 obtain⟨a,xs,rfl,h,t⟩:=cu.mp h;obtain⟨x,e1,hx⟩:=t.get e;exact g6 h (jR e1) (q x hx)
theorem N0(h:Is K H v (TW l))(q:Q (.int (l.length:Int)) H):dg K [v] H Q:=AF h (by rw[wm];exact q)
end
theorem ID:∀ns:List Int,Wk (ns.map PyData.int) (ns.map PyData.int)=true
 | []=>by simp[Wk]
 | n::ns=>by rw[wZ,Wk,zxO,ID ns];simp
theorem zBq(l:List Nat):wA (TW l) (TW l)=true:=by unfold TW TZ;rw[wA,ID]
theorem Zv(a b:Rat)(xs:List Rat)(n:Nat):(fj a b xs n).length=n:=by simp[fj]
theorem AQ(a b:Rat)(xs:List Rat)(n:Nat):fj a b xs (n+1)=fj a b xs n++[NY a b xs n]:=by
 unfold fj;rw[qY,vt];rfl
theorem zpp(a b:Rat)(xs:List Rat)(n:Nat):b7 (fj a b xs n)=true:=pE _ (λk=>MQ _ _ _) _
theorem zxA{ps:List Rat}{l:List Nat}{w:Nat}(h:¬ ps.getD w 0<1):aD ps (l++[w])=aD ps l++[w]:=by
 unfold aD;rw[WS,WG,decide_eq_false h];rfl
theorem ZJ{ps:List Rat}{l:List Nat}{w:Nat}(h:ps.getD w 0<1):aD ps (l++[w])=aD ps l:=by
 unfold aD;rw[WS,WG,decide_eq_true h];exact vY _
theorem zui{wave l:List Nat}{w:Nat}(h:¬ w∈wave):bP (l++[w]) wave=bP l wave++[w]:=by
 unfold bP;rw[WS];simp[WG,h]
theorem zr5{wave l:List Nat}{w:Nat}(h:w∈wave):bP (l++[w]) wave=bP l wave:=by
 unfold bP;rw[WS];simp[WG,h]
theorem B4(l:List Nat)(w:Nat):vz (l++[w])=vz l++[V.int (w:Int)]:=by unfold vz;rw[vt];rfl
theorem zuF{xs:List Rat}{j:Nat}(h:j<xs.length):(bE xs).getD j 0=xs.getD j 0+(1-bY xs):=by
 unfold bE;rw[wa,wu,wc h,wa,wc h];rfl
theorem Av:∀ds:List wz,(∀d∈ds,wA d d=true)->Wk ds ds=true
 | [],_=>by simp[Wk]
 | d::ds,h=>by rw[Wk,h d (wJ ..),Av ds λe he=>h e (wD _ he)];rfl
theorem HD{ds:List wz}(h:∀d∈ds,wA d d=true):wA (.tuple ds) (.tuple ds)=true:=by rw[wA];exact Av ds h
theorem Z4{ds:List wz}(h:∀d∈ds,wA d d=true):wA (.list ds) (.list ds)=true:=by rw[wA];exact Av ds h
theorem SV(xs:List Rat):wA (TN xs) (TN xs)=true:=by rw[DR];exact decide_eq_true rfl
theorem ZX(ws:List (List Nat)):wA (gB ws) (gB ws)=true:=HD λd hd=>by
 obtain⟨w,_,rfl⟩:=wY.mp hd;exact zBq w
theorem pb{P:wz->Prop}{a b:wz}(ha:P a)(hb:P b):∀d∈[a,b],P d:=λd hd=>by
 simp only[wQ,Va,or_false]at hd;rcases hd with rfl | rfl
 ·exact ha
 ·exact hb
def Sh(n:Nat)(d:wz):Prop:=d.canLay0=true/\d.depth<=n
theorem Dv{n:Nat} : ∀ds:List wz,(∀d∈ds,Sh n d)->Wm ds=true/\WC ds<=n
 | [],_=>by simp[Wm,WC]
 | d::ds,h=>by
  have h1:=h d (wJ ..);have h2:=Dv ds λe he=>h e (wD _ he)
  rw[Wm,WC,h1.1,h2.1];exact⟨rfl,by have:=h1.2;have:=h2.2;lia⟩
theorem lM{n:Nat}{ds:List wz}(h:∀d∈ds,Sh n d):Sh (n+1) (.tuple ds):=by
 have:=Dv ds h;unfold Sh;rw[Wa,Vj];exact⟨this.1,by have:=this.2;lia⟩
theorem DK{n:Nat}{ds:List wz}(h:∀d∈ds,Sh n d):Sh (n+1) (.list ds):=by
 have:=Dv ds h;unfold Sh;rw[Wa,Vj];exact⟨this.1,by have:=this.2;lia⟩
theorem Sh.mono{m n:Nat}{d:wz}(h:Sh m d)(e:m<=n):Sh n d:=⟨h.1,Wd h.2 e⟩
theorem Sh.shaped{n:Nat}{d:wz}(h:Sh n d)(e:n<=64):vU d=true:=by
 unfold vU;rw[h.1,Qu];exact decide_eq_true (Wd h.2 e)
theorem yx(i:Int):Sh 1 (.int i):=⟨by simp[Wa],by simp[Vj]⟩
theorem A3(x:Rat):Sh 2 (N x):=lM (pb (yx _) (yx _))
theorem Zh(xs:List Rat):Sh 3 (TN xs):=lM λd hd=>by
 obtain⟨x,_,rfl⟩:=wY.mp hd;exact A3 x
theorem SG(ws:List (List Nat)):Sh 4 (gB ws):=lM λd hd=>by
 obtain⟨w,_,rfl⟩:=wY.mp hd;refine(lM λe he=>?_:Sh 2 _).mono (by decide);obtain⟨i,_,rfl⟩:=wY.mp he;exact yx i
theorem zxF{K:wb}{H:Hp}{Q:VK}{v w:V}{d:wz}{n:Nat}(h:Is K H v d)(k:Is K H w d)(s:Sh n d)(e:n<=64)(r:wA d d=true)(q:Q (.bl false) H):ee K v w H Q:=kI h k (s.shaped e) (s.shaped e) (by rw[r];exact q)
section
variable{K:wb}{H H':Hp}{Q:VK}{D:cj}{σ : St}{td ty tv:TE}{a:wg}{kvs:List (Key × V)}{k:Int}{v:V}
end
theorem M6:∀{ts:List Int}{ys:List V},ys.length=ts.length->(∀(j:Nat)(y:V),ys[j]? = some y->y=V.int (ts.getD j 0))->ys=ts.map V.int
 | [],[],_,_=>rfl
 | [],_::_,h,_=>by simp at h
 | _::_,[],h,_=>by simp at h
 | t::ts,y::ys,h,e=>by
  rw[wZ,e 0 y rfl,M6 (ts:=ts) (ys:=ys) (by simpa using h) λj z hz=>e (j+1) z hz]
  rfl
theorem Bl{α : Type}{f : α -> Int}{xs:List α}{i:Nat}{d : α}(h:i<xs.length):(xs.map f).getD i 0=f (xs.getD i d):=by
 rw[wa,wu,wc h,wa,wc h];rfl
theorem IE{n:Nat}(p:Nat->Bool)(i:Nat):(wt (i+1)).filter p=(wt i).filter p++(if p i then [i]else []):=by
 rw[qY,WS];cases h:p i<;>simp[h]
def Mv(K:wb)(g:TG)(tt:TT)(te:TE)(src:List (Option Nat))(σ : St)(vs:List V)(H1:Hp)(Q:VK):Prop:=∃a,vs=[.ref a]/\(∃xs,aU K H1 a xs) /\
 ∀D,H1 D=none->jJ g tt te (mX K a) D (dC src σ) (upd H1 D (.lst [])) (λH'=>Q (.ref D) H')
section
variable{K:wb}{ta:TA}{g:TG}{tt:TT}{te:TE}{σ : St}{H:Hp}{Q:VK}{a:wg}{xs:List V}{src:List (Option Nat)}
theorem zup(h:ta σ H λvs H1=>Mv K g tt te src σ vs H1 Q):jd src (CV K ta) g tt te σ H Q:=h
theorem R9(hx:aU K H a xs)(Pv:wg->Nat->List V->St->Hp->Prop)(h0:∀D H',H D=none->ah H H'->H' D=some (.lst [])->Pv D 0 [] (dC src σ) H')(hl:∀D i ys σ' H',Pv D i ys σ' H'->aU K H' a xs)
  (hs:∀D i x ys σ' H1 c H2,xs[i]? = some x->Pv D i ys σ' H1->H1 c=none->ah H1 H2->H2 c=some (.tup [.int (i:Int),x])->gz Pv g tt te D i (.ref c) σ' H2) (hd:∀D ys σ' H',Pv D xs.length ys σ' H'->Q (.ref D) H'):Mv K g tt te src σ [.ref a] H Q:=by
 refine⟨a,rfl,⟨xs,hx⟩,λD hD=>⟨λi m σ' H'=>i+m=xs.length /\ ∃ys,Pv D i ys σ' H',⟨xs.length,by lia,[],h0 D _ hD (ah.upd hD) cO⟩,?_⟩⟩;rintro i m σ' H' ⟨him,ys,inv⟩;have hq:=hl _ _ _ _ _ inv
 by_cases hm:m=0
 ·have e:i=xs.length:=by lia
  subst e;exact .inl ⟨⟨xs,hq,wo _⟩,hd _ _ _ _ inv⟩
 ·have hi:i<xs.length:=by lia
  refine .inr ⟨⟨xs,xs[i],hq,by simp[hi]⟩,λσ2 H2=>∃ys,Pv D (i+1) ys σ2 H2,λσ2 H2 h=>⟨m-1,by lia,by lia,h⟩,?_⟩;rintro v H2 ⟨c,x,rfl,hn,hx',rfl⟩;exact hs D i x ys σ' H' c _ (hx' xs hq) inv hn (ah.upd hn) cO
end
def yt(K:wb):R2:=λx y H Q=>∃d ds,Is K H x d/\Is K H y (.tuple ds)/\Sh 60 d/\Wa (.tuple ds)=true/\Q (.bl (ds.any λe=>wA e d)) H
theorem Pa{X:Cx}(hu:X.A.units+64<WI):aJ X (wT .In) (yt X.K):=by
 intro pins s σ H x y v u Q I rx ry h;obtain⟨d,ds,hd,he,sd,se,q⟩:=h;obtain⟨as,h1⟩:=I.reads d x v sd.1 hd rx;obtain⟨bs,h2⟩:=I.reads (.tuple ds) y u se he ry;have sd2:=sd.2;have hm:=Xu (WC ds) d.depth;exact SeqAt.in_tuple_reads h2 h1 (by rw[Wa]at se;exact se) sd.1 (by lia) ⟨.bl _,H,I,rfl,q⟩
theorem ZG(xs:List Rat)(x:Rat):((xs.map N).any λe=>wA e (N x))=decide (x∈xs):=by
 induction xs with
 | nil=>rfl
 | cons y xs ih =>
  rw[wZ,WX,ih,sE]
  by_cases h:x=y
  ·subst h;simp
  ·have h':¬ y=x:=λz=>h z.symm
   simp[h,h']
theorem zxN{K:wb}{H:Hp}{Q:VK}{v w:V}{xs:List Rat}{x:Rat}(h:Is K H v (N x))(k:Is K H w (TN xs))(q:Q (.bl (decide (x∈xs))) H):yt K v w H Q :=
 ⟨N x,xs.map N,h,k,(A3 x).mono (by decide),by rw[Wa];exact Du xs,by rw[ZG];exact q⟩
def jU(xs:List Rat)(v:Rat):wz:=.tuple [N v,TW (eC xs v)]
theorem I_(xs:List Rat)(v:Rat):cB (jU xs v)=true:=by rw[jU,cB,b7,b7,b7,lF,Ay];rfl
theorem Te(xs:List Rat)(l:List Rat):b7 (l.map (jU xs))=true:=pE _ (I_ xs) l
theorem Ud(ds:List wz):wA (.list ds) (.list [])=ds.isEmpty:=by cases ds<;>simp[wA,Wk]
section
variable{K:wb}{H:Hp}{Q:VK}{v w:V}{ds:List wz}{n:Nat}{l b:wg}{xs zs:List V}
theorem Tz(h:Is K H v (.list ds))(k:Is K H w (.list []))(s:Sh n (.list ds))(e:n<=64)(q:Q (.bl (!ds.isEmpty)) H):ee K v w H Q :=
 kI h k (s.shaped e) ((DK (n:=1) (ds:=[]) (by simp)).shaped (by decide)) (by rw[Ud];exact q)
theorem zw6{i:Int}(h:H l=some (.lst xs))(h0:0<=i)(h1:i<xs.length)(hz:xs.length<=1000)(q:∀y H',xs[i.toNat]? = some y->Exc l H H'->H' l=some (.lst (xs.eraseIdx i.toNat))->Q y H'):Li (.ref l) [.int i] H Q:=by
 have hi:i.toNat<xs.length:=by lia
 exact⟨l,xs,i,i.toNat,xs[i.toNat],rfl,rfl,h,by lia,by lia,X3 h0 h1,wc hi,q _ _ (wc hi) (Exc.upd l H _) cO⟩
theorem Ji{k:Int}(h:H l=some (.lst xs))(h0 : -1000<=k)(h1:k<=1000)(z:xs.length*k.toNat<=1000)(q:∀p H',H p=none->ah H H'->H' p=some (.lst (w9 k.toNat xs).flatten)->Q (.ref p) H'):r_ (.ref l) (.int k) H Q :=
 ⟨l,k,xs,rfl,rfl,h,by lia,by lia,by have:=jB z;lia,λp hp=>q p _ hp (ah.upd hp) cO⟩
theorem ao.erase:∀{ds:List wz}{vs:List V}(k:Nat),ao K H vs ds->ao K H (vs.eraseIdx k) (ds.eraseIdx k)
 | [],_,k,h=>by rw[fm.mp h];exact .nil
 | d::ds,_,0,h=>by
  obtain⟨x,r,rfl,_,t⟩:=dh.mp h;exact t
 | d::ds,_,k+1,h=>by
  obtain⟨x,r,rfl,q,t⟩:=dh.mp h;exact .cons q (ao.erase k t)
theorem ao.z7{d:wz}(h:Is K H v d):∀n:Nat,ao K H (w9 n v) (w9 n d)
 | 0=>.nil
 | n+1=>.cons h (ao.z7 h n)
end
theorem yR{K:wb}{H:Hp}{Q:VK}{v:V}{ds:List wz}{d:wz}(h:Is K H v (.list (ds++[d])))(q:∀x,Is K H x d->Q x H):cK K v (.int (-1)) H Q:=by
 obtain⟨a,xs,rfl,hs,t⟩:=cu.mp h;have hl:=t.length;rw[wS,vZ]at hl;obtain⟨x,e1,hx⟩:=t.get (i:=ds.length) (d:=d) (by rw[vM (wo _),VI];rfl);exact g6 hs (Cw (by rw[hl];exact e1)) (q x hx)
theorem A7{α β : Type}(f : α -> β):∀(l:List α)(k:Nat),(l.map f).eraseIdx k=(l.eraseIdx k).map f
 | [],_=>rfl
 | _::_,0=>rfl
 | x::l,k+1=>by
  show f x::(l.map f).eraseIdx k=f x::(l.eraseIdx k).map f
  rw[A7 f l k]
theorem Mo{α : Type} : ∀(l:List α)(k:Nat)(h:k<l.length),(l[k]::l.eraseIdx k).Perm l
 | x::l,0,_=>xg _
 | x::l,k+1,h=>(List.Perm.swap _ _ _).trans (List.Perm.cons x (Mo l k (by simpa using h)))
def DU(K:wb):List V->Hp->VK->Prop:=λxs H Q=>∃(p:wg)(bs:List Bool),xs=[.ref p]/\aI K H p (bs.map V.bl)/\Q (.bl (bs.any id)) H
theorem Ur:vK "any"=some (.builtin "any"):=by decide +kernel
theorem Ti(bs:List Bool):((wt bs.length).any λi=>(bs[i]?).getD true)=bs.any id:=by
 rw[vy,XI,XI]
 constructor
 ·rintro ⟨i,hi,h⟩
  rw[wH]at hi;rw[wc hi]at h;exact⟨bs[i],Wc hi,h⟩
 ·rintro ⟨b,hb,h⟩
  obtain⟨i,hi,rfl⟩:=vc hb;exact⟨i,wH.mpr hi,by rw[wc hi];exact h⟩
open PyProof.V PySem.Calls in
theorem Zn{X:Cx}(hc:X.calm=true):aY X (.builtin "any") (DU X.K):=by
 intro pins s σ H xs us Q I r h;obtain⟨p,bs,rfl,hq,q⟩:=h;obtain⟨u,rfl,rx⟩:=jj r;cases rx;obtain⟨its,r',pl,hz⟩:=I.list hq;have hi:its=bs.map Value.bool:=OU r';have hl:s.heap.IsList p its.toArray:=pl.isList;have hlt:p<s.heap.objs.size:=by obtain⟨_,e,_⟩:=hl;exact wy e
 refine call_any_walk (V3 hl ?_)
 refine⟨s.heap.objs.size,[s.heap.objs.size,p],[s.heap.objs.size],its.toArray.size,_,_,λi=>(bs[i]?).getD true,rfl,Walks.list (A:=X.A.in1) (I.ok.hd hc) _ p (wL hlt) its.toArray,
  ⟨⟨_,wN _ rfl,rfl,rfl⟩,hl.push _⟩,λi v s' Q' E' hP hQ=>?_,λh' tk hk=>?_⟩
 ·have hP:its.toArray[i]? = some v:=hP
  rw[hi]at hP;simp only[xk,wu,Vd]at hP;obtain⟨b,e,rfl⟩:=hP;simp only[e,QM]at hQ;exact Wn hQ
 ·have e:((wt its.toArray.size).any λi=>(bs[i]?).getD true)=bs.any id:=by
   rw[wI,hi,wm];exact Ti bs
  rw[e];exact⟨.bl (bs.any id),H,I.kept (t':=tk) (λb x e=>hk b x (λhm=>by rw[wX.mp hm]at e;exact Vq _ (wy e)) (wn _ e)),rfl,q⟩
theorem zx2{K:wb}{H:Hp}{Q:VK}{p:wg}{bs:List Bool}(h:aI K H p (bs.map V.bl))(q:Q (.bl (bs.any id)) H):DU K [.ref p] H Q:=⟨p,bs,rfl,h,q⟩
section
open PyProof.V PySem.Calls PySem.W
variable{prog:wO}{w:wR}{A:w6}{E:wf->wl->Prop}{s:wl}
end
abbrev Ii(h:wM)(a:wg):wM:=h.push {cls:=.type "tuple_iterator",data:=.fields #[.ref a,.int 0 0]}
abbrev KQ(h:wM)(a b:wg):wM:=(Ii h a).push {cls:=.type "list_iterator",data:=.fields #[.ref b,.int 0 0]}
abbrev MY(h:wM)(a b:wg):wM:=(KQ h a b).push {cls:=.type "tuple",data:=.seq #[.ref h.objs.size,.ref (Ii h a).objs.size]}
abbrev zM4(h:wM)(a b:wg):wM:=(MY h a b).push {cls:=.type "tuple",data:=.seq #[.none,.none]}
abbrev zM5(h:wM)(a b:wg):wM:=(zM4 h a b).push {cls:=.type "zip",data:=.fields #[.none,.bool false,.bool false,.ref (KQ h a b).objs.size,.ref (MY h a b).objs.size]}
section
variable{prog:wO}{w:wR}{A:w6}{E:wf->wl->Prop}{s:wl}
end
section
variable{X:Cx}{x:Str}{G:wf}{b₀ : ve}{body suite:List ve}{np hpos pos:Pos}{tb:(St->XK)->TS}{th:TS}
end
theorem gg{K:wb}{H:Hp}{Q:VK}(s t:String)(r:Bool)(e:wA (.str (vH s)) (.str (vH t))=r)(q:Q (.bl r) H):cN K (.str (vH s)) (.str (vH t)) H Q :=
 jZ (d:=.str (vH s)) (e:=.str (vH t)) (cU.mpr rfl) (cU.mpr rfl) (kA s) (kA t) (by rw[e];exact q)
end L2
namespace GM
def Ly(c:Int)(u:List Int):Nat->Int->Int
 | 0,p=>p
 | k+1,p=>if c<=p then p else Ly c u k (p+u.getD p.toNat 0)
def R6(n:Nat)(t:List Int):Prop:=∃a b d:Nat,t=[(a:Int),(b:Int),(d:Int)]/\a<n/\b<n/\a≠b/\d<=4
structure zCv(rs:List Int)(us ts:List (List Int)):Prop where
 n1:1<=rs.length
 n8:rs.length<=8
 r:∀r∈rs,1<=r/\r<=60
 ul:us.length=rs.length
 u:∀i,i<rs.length->((us.getD i []).length:Int)=rs.getD i 0 /\ ∀x∈us.getD i [],0<=x/\x<=60
 tl:ts.length<=60
 t:∀t∈ts,R6 rs.length t
 nd:ts.Nodup
def U_(g:List Nat)(w d:Nat)(t:List Int):Bool:=decide ((t.getD 0 0).toNat∈g)&&(decide (t.getD 1 0=(w:Int))&&decide (t.getD 2 0=(d:Int)))
def ZI(ts:List (List Int))(g:List Nat)(w d:Nat):Nat:=(ts.filter (U_ g w d)).length
section
variable(rs:List Int)(us ts:List (List Int))(ps cs:List Int)
def U1(g:List Nat)(w:Nat):Int:=Ly (rs.getD w 0) (us.getD w []) ((cs.getD w 0).toNat+ZI ts g w 0) (ps.getD w 0+1)
def fresh(g:List Nat):List Nat:=(wt rs.length).filter λw=>!decide (w∈g)&&decide (rs.getD w 0<=U1 rs us ts ps cs g w)
def Dl:Nat->List Nat->List (List Nat)
 | 0,_=>[]
 | f+1,g=>if fresh rs us ts ps cs g=[]then []else fresh rs us ts ps cs g::Dl f (g++fresh rs us ts ps cs g)
def BH:Nat->List Nat->List Nat
 | 0,g=>g
 | f+1,g=>if fresh rs us ts ps cs g=[]then g else BH f (g++fresh rs us ts ps cs g)
end
section
variable{rs:List Int}{us ts:List (List Int)}{ps cs:List Int}
structure Tc(n:Nat)(g:List Nat):Prop where
 nd:g.Nodup
 lt:∀w∈g,w<n
end
section
variable(rs:List Int)(us ts:List (List Int))(ps cs:List Int)
structure Run(f:Nat)(g:List Nat)(acc:List (List Nat)):Prop where
 go:Tc rs.length g
 fl:rs.length<f+g.length
 ws:acc++Dl rs us ts ps cs f g=Dl rs us ts ps cs 9 []
 ge:BH rs us ts ps cs f g=BH rs us ts ps cs 9 []
end
section
variable{rs:List Int}{us ts:List (List Int)}{ps cs:List Int}{f:Nat}{g:List Nat}{acc:List (List Nat)}
end
section
variable(rs:List Int)(us ts:List (List Int))(ps:List Int)(cm:List (List Int))
end
structure zCz(rs:List Int)(ps:List Int)(cm:List (List Int)):Prop where
 pl:ps.length=rs.length
 p:∀i,i<rs.length->0<=ps.getD i 0/\ps.getD i 0<rs.getD i 0
 cl:cm.length=4
 c:∀d,d<4->(cm.getD d []).length=rs.length /\ ∀i,i<rs.length->0<=(cm.getD d []).getD i 0/\(cm.getD d []).getD i 0<=240-60*(d:Int)
section
variable{rs:List Int}{us ts:List (List Int)}{ps:List Int}{cm:List (List Int)}
end
end GM
namespace L2
open PySem PySem.Spec PyProof.Rows GM
section
variable{K:wb}{H H':Hp}{Q:VK}{v:V}{rs ps:List Int}{us ts cm rows:List (List Int)}{m:Int}{ws:List (List Nat)}
end
theorem Bn{α : Type}{l:List α}{x : α}(d : α)(h:x∈l):∃i,i<l.length/\l.getD i d=x:=by
 obtain⟨i,hi,e⟩:=vc h;exact⟨i,hi,by rw[wa,wc hi];exact e⟩
theorem YA{i:Nat}{te:TE}{ti:oH}{D:cj}{σ : L2.St}{H:Hp}(h:∃x,σ[i]? = some (some x)/\te σ H λy H1=>ti x y H1 λz H2=>D.nx (σ.set i (some z)) H2):LA i te ti D σ H:=h
theorem UZ{v:V}{P:V->Prop}{o:Option (Option V)}(h:o=some (some v))(q:P v):∃x,o=some (some x)/\P x:=⟨v,h,q⟩
theorem zzU{f:Int->Int->Int}{m n:Int}{H:Hp}{Q:VK}(q:Q (.int (f m n)) H):IJ f (.int m) (.int n) H Q:=⟨m,n,rfl,rfl,q⟩
end L2
namespace TB
open PySem PySem.W PyProof.Rows
inductive dM{α β : Type}(R : α -> β -> Prop):List α -> List β -> Prop
 | nil:dM R [] []
 | cons {a : α} {b : β} {l:List α} {m:List β} : R a b->dM R l m->dM R (a::l) (b::m)
structure HV(prog:wO)(w:wR)(K:Type)[DecidableEq K] where
 is:wM->K->wf->Prop
 hash:K->Int
 draws:K->Nat
 deep:Nat
 inj:∀{h:wM}{v:wf}{x y:K},is h x v->is h y v->x=y
 keeps:∀{h h':wM}{k:K}{v:wf}{d:wg}{o:Obj}{es ep},is h k v->h.get? d=some o->o.data=.dict es ep->vB d h h'->is h' k v
 pyHash:∀{A:w6}{E:wf->wl->Prop}{s:wl}{k:K}{v:wf}{Q:Int->wl->Prop},A.units+deep<WI->is s.heap k v->Q (hash k) {s with toks:=s.toks+draws k}->wq (model prog w) A (PySem.pyHash v) Q E s
 eqBool:∀{A:w6}{E:wf->wl->Prop}{s:wl}{x y:K}{u v:wf}{Q:Bool->wl->Prop},A.units+deep<WI->is s.heap x u->is s.heap y v->Q (decide (x=y)) s->wq (model prog w) A (PySem.eqBool u v) Q E s
 quiet:∀{A:w6}{E:wf->wl->Prop}{s:wl}{k:K}{v:wf}{Q:Bool->wl->Prop}(n:Nat),deep<=n->is s.heap k v->Q true s->wq (model prog w) A (eqIsQuiet n v) Q E s
section
variable{prog:wO}{w:wR}{A:w6}{E:wf->wl->Prop}{s:wl}
theorem IF{a:wg}{o:Obj}{items:Array wf}{n:Nat}{hs:List (Int × Nat)}{Q:Int->wl->Prop}(hu:A.units<WI)(ho:s.heap.get? a=some o)(hc:o.cls=.type "tuple")(hd:o.data=.seq items n)
  (hi:dM (λv (x:Int × Nat)=>∀(E:wf->wl->Prop)(Q:Int->wl->Prop)(s':wl),s'.heap=s.heap->Q x.1 {s' with toks:=s'.toks+x.2}->wq (model prog w) A.in1 (pyHash v) Q E s') items.toList hs)
  (h:Q (reduceHash (vQ (hs.map (·.1)))) {s with toks:=s.toks+((hs.map (·.2)).sum+1)}) :
  wq (model prog w) A (pyHash (.ref a)) Q E s:=by
 have hT:s.TypeIs (.ref a) "tuple":=⟨o,ho,hc⟩;unfold pyHash
 first | unfold pyHashByItsType | skip
 first | refine we (wpAny_cRoomFor_or (.inr hu) ?_) | skip
 refine we (qw hT qN.lookup ?_)
 show wq _ _ (if(some (Value.builtin "tuple.__hash__") == some Value.none)=true then _ else _) Q E s
 rw[if_neg (by rw[beq_builtin_none];exact vj)];refine we (qw hT qN.lookup ?_)
 show wq _ _ (callSpecialIfBoundUnlessNone? (.ref a) "__hash__" _ >>= _) Q E s
 refine we (wpAny_callSpecialIfBoundUnlessNone?_slot hT qN (vL qN hT F.entry_tuple_hash ?_ (F.args_tuple_hash_1 _)))
 show wq _ _ (Qr (.ref a) >>= _) _ _ s
 refine we (wpAny_tupleItemsOf ho hd ?_);refine we ?_;rw[<- qG]
 refine wpAny_forIn_list _
  (λdN (b:Array Int) s'=>∃done left,hs=done++left/\dM (λv (x:Int × Nat)=>∀(E:wf->wl->Prop)(Q:Int->wl->Prop)(s':wl),s'.heap=s.heap->Q x.1 {s' with toks:=s'.toks+x.2}->wq (model prog w) A.in1 (pyHash v) Q E s') dN left/\b.toList=done.map (·.1)/\s' = {s with toks:=s.toks+(done.map (·.2)).sum})
  _ ?_ ?_ _ _ ⟨[],hs,rfl,hi,rfl,rfl⟩
 ·rintro x dN b s' ⟨done,left,rfl,hl,hb,rfl⟩
  cases hl with
  | @cons _ k _ ks' h1 hl' =>
   refine we (h1 _ _ _ rfl ?_)
   first
    | exact wp ⟨done++[k],ks',by simp,hl',by simp[hb],by simp[VN]⟩
    | exact we (wp (wp ⟨done++[k],ks',by simp,hl',by simp[hb],by simp[VN]⟩))
 ·rintro b s' ⟨done,left,rfl,hl,hb,rfl⟩
  cases hl;rw[vY]at h
  show wq _ _ (retInt (vQ b.toList)) _ _ _
  rw[hb];refine wpAny_ret_mkInt ?_
  show wq _ _ (if(decide (-(2:Int)^63<=vQ (done.map (·.1)))&&decide (vQ (done.map (·.1))<2^63))=true then _ else _) Q E _
  unfold reduceHash at h
  by_cases hr:(decide (-(2:Int)^63<=vQ (done.map (·.1)))&&decide (vQ (done.map (·.1))<2^63))=true
  ·rw[if_pos hr]
   rw[if_pos hr]at h;exact wp (by simpa [VN] using h)
  ·rw[if_neg hr]
   rw[if_neg hr]at h;exact we (VW (wp (by simpa [VN] using h)))
theorem Zu{a b:wg}{oa ob:Obj}{xs ys:Array wf}{na nb:Nat}{bs:List Bool}{P:PySem.Fin->wl->Prop}(hoa:s.heap.get? a=some oa)(hda:oa.data=.seq xs na)(hob:s.heap.get? b=some ob)(hcb:ob.cls=.type "tuple")(hdb:ob.data=.seq ys nb)
  (hi:dM (λ(p:wf × wf)(c:Bool)=>∀(E:wf->wl->Prop)(Q:Bool->wl->Prop),Q c s->wq (model prog w) A (eqBool p.1 p.2) Q E s) (xs.toList.zip ys.toList) bs)
  (h:P (.done (.ret (.bool (bs.all id&&xs.size == ys.size)))) s) :
  wq (model prog w) A (Builtin.«tuple.__eq__» ⟨[.ref a,.ref b],[]⟩) P E s:=by
 have hTb:s.TypeIs (.ref b) "tuple":=⟨ob,hob,hcb⟩
 show wq _ _ (isInstance (.ref b) (.type "tuple") >>= _) _ _ s
 refine we (WH hTb isSubtype_tuple_tuple ?_);simp only[qf,vT,if_false];refine we (wpAny_tupleItemsOf hoa hda ?_);refine we (wpAny_tupleItemsOf hob hdb ?_);refine we ?_
 refine wpAny_forIn_list _
  (λdN r s'=>r.1=none/\s'=s /\ ∃cs,dM (λ(p:wf × wf)(c:Bool)=>∀(E:wf->wl->Prop)(Q:Bool->wl->Prop),Q c s->wq (model prog w) A (eqBool p.1 p.2) Q E s) dN cs/\bs.all id=cs.all id)
  _ ?_ ?_ _ _ ⟨rfl,rfl,bs,hi,rfl⟩
 ·rintro ⟨u,v⟩ dN r s' ⟨hr,rfl,cs,hcs,hall⟩
  cases hcs with
  | @cons _ c _ cs' h1 h2 =>
   refine we (h1 _ _ ?_);cases c with
   | true =>
    simp only[qf,vT,if_false];exact wp ⟨rfl,rfl,cs',h2,by rw[hall];simp⟩
   | false =>
    simp only[xc,if_true];have hf:bs.all id=false:=by rw[hall];simp
    rw[hf,WP]at h;exact we (wp (wp (wp h)))
 ·rintro ⟨r1,r2⟩ s' ⟨hr,rfl,cs,hcs,hall⟩
  simp only at hr;subst hr;refine wp ?_;cases hcs;rw[hall]at h;have h':P (.done (.ret (.bool (xs.size == ys.size)))) s':=by simpa using h
  exact h'
theorem N4{a:wg}{o:Obj}{items:Array wf}{n m:Nat}{Q:Bool->wl->Prop}(ho:s.heap.get? a=some o)(hc:o.cls=.type "tuple")(hd:o.data=.seq items n)
  (hi:∀v∈items.toList,∀(E:wf->wl->Prop)(Q:Bool->wl->Prop),Q true s->wq (model prog w) A (eqIsQuiet m v) Q E s) (h:Q true s):wq (model prog w) A (eqIsQuiet (m+1) (.ref a)) Q E s:=by
 have hT:s.TypeIs (.ref a) "tuple":=⟨o,ho,hc⟩;unfold eqIsQuiet;refine we (qw hT QX.lookup ?_)
 show wq _ _ (isInstance (.ref a) (.type "tuple") >>= _) _ _ s
 refine we (WH hT isSubtype_tuple_tuple ?_);simp only[qf,vT,if_false];refine we (Wh ho hd ?_);refine we ?_
 show wq _ _ (forIn items _ _) _ _ s
 rw[<- qG];refine wpAny_forIn_list _ (λdN r s'=>r.1=none/\s'=s /\ ∀v∈dN,v∈items.toList) _ ?_ ?_ _ _ ⟨rfl,rfl,λ_ h=>h⟩
 ·rintro v dN r s' ⟨hr,rfl,hall⟩
  refine we (hi v (hall v wJ) _ _ ?_);simp only[qf,vT,if_false];exact wp ⟨rfl,rfl,λu hu'=>hall u (wD _ hu')⟩
 ·rintro ⟨r1,r2⟩ s' ⟨hr,rfl,_⟩
  simp only at hr;subst hr;exact wp h
theorem J8{a b:wg}{oa ob:Obj}{xs ys:Array wf}{na nb:Nat}{bs:List Bool}{Q:Bool->wl->Prop}(hu:A.units<WI)(hoa:s.heap.get? a=some oa)(hca:oa.cls=.type "tuple")(hda:oa.data=.seq xs na)(hob:s.heap.get? b=some ob)(hcb:ob.cls=.type "tuple")(hdb:ob.data=.seq ys nb)
  (he:a=b->(bs.all id&&xs.size == ys.size)=true)
  (hi:dM (λ(p:wf × wf)(c:Bool)=>∀(E:wf->wl->Prop)(Q:Bool->wl->Prop),Q c s->wq (model prog w) A.in1 (eqBool p.1 p.2) Q E s) (xs.toList.zip ys.toList) bs)
  (h:Q (bs.all id&&xs.size == ys.size) s):wq (model prog w) A (eqBool (.ref a) (.ref b)) Q E s:=by
 unfold eqBool
 try with_reducible refine vN ?_
 show wq _ _ (if(Value.ref a == Value.ref b)=true then _ else _) Q E s
 by_cases hab:(Value.ref a == Value.ref b)=true
 ·rw[if_pos hab]
  have e:a=b:=by have:=eq_of_beq hab;injection this
  rw[he e]at h;exact we (VW (wp h))
 ·rw[if_neg hab]
  have ta:s.TypeIs (.ref a) "tuple":=⟨oa,hoa,hca⟩;have tb:s.TypeIs (.ref b) "tuple":=⟨ob,hob,hcb⟩
  exact we (wpAny_richCompare_same_room (op:=.Eq) ta tb QX
   (vL QX ta F.entry_tuple_eq (Zu hoa hda hob hcb hdb hi ⟨_,rfl,(λe=>nomatch e),Wn h⟩) (F.args_tuple_eq_2 _ _)) hu)
end
def kF(R:List wf->Prop)(h:wM)(v:wf):Prop:=∃a o items n,v=.ref a/\h.get? a=some o/\o.cls=.type "tuple"/\o.data=.seq items n/\R items.toList
theorem kF.inj{R S:List wf->Prop}{h:wM}{v:wf}(x:kF R h v)(y:kF S h v):∃l,R l/\S l:=by
 obtain⟨a,o,items,n,rfl,ho,_,hd,hi⟩:=x;obtain⟨a',o',items',n',e,ho',_,hd',hi'⟩:=y;cases e;obtain rfl:o=o':=wP (ho.symm.trans ho');rw[hd]at hd'
 injection hd' with h1 _
 subst h1;exact⟨_,hi,hi'⟩
theorem kF.keeps{R S:List wf->Prop}{h h':wM}{v:wf}{d:wg}{o:Obj}{es ep}(x:kF R h v)(ho:h.get? d=some o)(hd:o.data=.dict es ep)(hs:vB d h h')(r:∀l,R l->S l):kF S h' v:=by
 obtain⟨a,o',items,n,rfl,ho',hc,hd',hi⟩:=x
 have hne:a≠d:=by
  rintro rfl;obtain rfl:o'=o:=wP (ho'.symm.trans ho);rw[hd]at hd';exact nomatch hd'
 exact⟨a,o',items,n,rfl,(hs.2 a hne).trans ho',hc,hd',r _ hi⟩
def fE(prog:wO)(w:wR):HV prog w Int where
 is:=λ_ k v=>∃t,v=.int k t
 hash:=hashInt
 draws:=λ_=>1
 deep:=0
 inj:=λ⟨t,e⟩ ⟨u,f⟩=>by subst e;injection f
 keeps:=λh _ _ _=>h
 pyHash:=λ_ ⟨t,e⟩ h=>by subst e;exact wpAny_pyHash_int h
 eqBool:=λ_ ⟨t,e⟩ ⟨u,f⟩ h=>by subst e f;exact wpAny_eqBool_int h
 quiet:=λn _ ⟨t,e⟩ h=>by subst e;rw[eqIsQuiet_byValue n rfl];exact wp h
section
variable{prog:wO}{w:wR}{K:Type}[DecidableEq K](e:HV prog w K)
theorem LG{A:w6}{s:wl}(hu:A.in1.units+e.deep<WI):∀{ks:List K}{vs:List wf},dM (e.is s.heap) ks vs ->
  dM (λv (x:Int × Nat)=>∀(E:wf->wl->Prop)(Q:Int->wl->Prop)(s':wl),s'.heap=s.heap->Q x.1 {s' with toks:=s'.toks+x.2}->wq (model prog w) A.in1 (pyHash v) Q E s') vs (ks.map λk=>(e.hash k,e.draws k))
 | _,_,.nil=>.nil
 | _,_,.cons h t=>.cons (λE Q s' he q=>e.pyHash hu (he ▸ h) q) (LG hu t)
theorem Iv{A:w6}{s:wl}(hu:A.in1.units+e.deep<WI):∀{ks js:List K}{us vs:List wf},dM (e.is s.heap) ks us->dM (e.is s.heap) js vs ->
  ∃bs,dM (λ(p:wf × wf)(c:Bool)=>∀(E:wf->wl->Prop)(Q:Bool->wl->Prop),Q c s->wq (model prog w) A.in1 (eqBool p.1 p.2) Q E s) (us.zip vs) bs/\(bs.all id&&us.length == vs.length)=decide (ks=js)
 | _,_,_,_,.nil,.nil=>⟨[],.nil,by simp⟩
 | _,_,_,_,.nil,.cons _ _=>⟨[],.nil,by simp⟩
 | _,_,_,_,.cons _ _,.nil=>⟨[],.nil,by simp⟩
 | k::ks,j::js,_,_,.cons h t,.cons h' t'=>by
  obtain⟨bs,b1,b2⟩:=Iv hu t t';refine⟨decide (k=j)::bs,.cons (λE Q q=>e.eqBool hu h h' q) b1,?_⟩;rw[xz,Bool.and_assoc,vR,vR,show ∀a b:Nat,(a+1 == b+1)=(a == b)from λa b=>by simp,b2]
  by_cases h1:k=j<;>by_cases h2:ks=js<;>simp[h1,h2]
theorem C8{h:wM} : ∀{ks js:List K}{vs:List wf},dM (e.is h) ks vs->dM (e.is h) js vs->ks=js
 | _,_,_,.nil,.nil=>rfl
 | _,_,_,.cons h t,.cons h' t'=>by rw[e.inj h h',C8 t t']
theorem Ik{α β : Type}{R S : α -> β -> Prop}(f:∀a b,R a b->S a b):∀{l:List α}{m:List β},dM R l m->dM S l m
 | _,_,.nil=>.nil
 | _,_,.cons h t=>.cons (f _ _ h) (Ik f t)
theorem My{α β : Type}{R : α -> β -> Prop} : ∀{l:List α}{m:List β},dM R l m->∀y∈m,∃x,R x y
 | _,_,.nil,y,hy=>by cases hy
 | _,_,.cons h t,y,hy=>by
  rcases wQ.mp hy with rfl | hy
  ·exact⟨_,h⟩
  ·exact My t y hy
def fk:HV prog w (List K) where
 is:=λh ks v=>kF (dM (e.is h) ks) h v
 hash:=λks=>reduceHash (vQ ((ks.map λk=>(e.hash k,e.draws k)).map (·.1)))
 draws:=λks=>((ks.map λk=>(e.hash k,e.draws k)).map (·.2)).sum+1
 deep:=e.deep+1
 inj:=λx y=>by
  obtain⟨l,h1,h2⟩:=x.inj y;exact C8 e h1 h2
 keeps:=λx ho hd hs=>x.keeps ho hd hs λl h=>Ik (λa b r=>e.keeps r ho hd hs) h
 pyHash:=λ{A E s k v Q} hu x h=>by
  obtain⟨a,o,items,n,rfl,ho,hc,hd,hi⟩:=x;exact IF (by lia) ho hc hd (LG e (show A.units+1+e.deep<WI by lia) hi) h
 eqBool:=λ{A E s x y u v Q} hu hx hy h=>by
  have hj:u=v->x=y:=λev=>by
   subst ev;obtain⟨l,h1,h2⟩:=hx.inj hy;exact C8 e h1 h2
  obtain⟨a,o,items,n,rfl,ho,hc,hd,hi⟩:=hx;obtain⟨a',o',items',n',rfl,ho',hc',hd',hi'⟩:=hy;obtain⟨bs,b1,b2⟩:=Iv e (A:=A) (show A.units+1+e.deep<WI by lia) hi hi';have b3:(bs.all id&&items.size == items'.size)=decide (x=y):=by rw[<- b2];rfl
  refine J8 (by lia) ho hc hd ho' hc' hd' (λea=>?_) b1 (by rw[b3];exact h);rw[b3];exact decide_eq_true (hj (by rw[ea]))
 quiet:=λ{A E s k v Q} n hn x h=>by
  obtain⟨a,o,items,m,rfl,ho,hc,hd,hi⟩:=x;obtain⟨j,rfl⟩:∃j,n=j+1:=⟨n-1,by lia⟩
  exact N4 ho hc hd (λu hu E Q q=>by
   obtain⟨x,hx⟩:=My hi u hu;exact e.quiet j (by lia) hx q) h
end
section
variable{prog:wO}{w:wR}{J K:Type}[DecidableEq J][DecidableEq K](d:HV prog w J)(e:HV prog w K)
def Two(h:wM)(k:J × K)(l:List wf):Prop:=∃u v,l=[u,v]/\d.is h k.1 u/\e.is h k.2 v
def Pl:HV prog w (J × K) where
 is:=λh k v=>kF (Two d e h k) h v
 hash:=λk=>reduceHash (vQ ([(d.hash k.1,d.draws k.1),(e.hash k.2,e.draws k.2)].map (·.1)))
 draws:=λk=>([(d.hash k.1,d.draws k.1),(e.hash k.2,e.draws k.2)].map (·.2)).sum+1
 deep:=max d.deep e.deep+1
 inj:=λ{h v x y} hx hy=>by
  obtain⟨l,⟨u,v,rfl,h1,h2⟩,u',v',e',h3,h4⟩:=hx.inj hy;cases e';exact V9 (d.inj h1 h3) (e.inj h2 h4)
 keeps:=λx ho hd hs=>x.keeps ho hd hs λl ⟨u,v,r,h1,h2⟩=>⟨u,v,r,d.keeps h1 ho hd hs,e.keeps h2 ho hd hs⟩
 pyHash:=λ{A E s k v Q} hu x h=>by
  obtain⟨a,o,items,n,rfl,ho,hc,hd,u,v,hl,h1,h2⟩:=x
  exact IF (by lia) ho hc hd (by
   rw[hl];exact .cons (λE Q s' he q=>d.pyHash (show A.units+1+d.deep<WI by lia) (he ▸ h1) q) (.cons (λE Q s' he q=>e.pyHash (show A.units+1+e.deep<WI by lia) (he ▸ h2) q) .nil)) h
 eqBool:=λ{A E s x y u v Q} hu hx hy h=>by
  have hj:u=v->x=y:=λev=>by
   subst ev;obtain⟨l,⟨u,v,rfl,h1,h2⟩,u',v',e',h3,h4⟩:=hx.inj hy;cases e';exact V9 (d.inj h1 h3) (e.inj h2 h4)
  obtain⟨a,o,items,n,rfl,ho,hc,hd,u,v,hl,h1,h2⟩:=hx;obtain⟨a',o',items',n',rfl,ho',hc',hd',u',v',hl',h1',h2'⟩:=hy
  have b3:([decide (x.1=y.1),decide (x.2=y.2)].all id&&items.size == items'.size)=decide (x=y):=by
   rw[<- W0,<- W0,hl,hl'];obtain⟨x1,x2⟩:=x;obtain⟨y1,y2⟩:=y
   by_cases h1:x1=y1<;>by_cases h2:x2=y2<;>simp[h1,h2]
  refine J8 (bs:=[decide (x.1=y.1),decide (x.2=y.2)]) (by lia) ho hc hd ho' hc' hd' (λea=>?_) ?_ (by rw[b3];exact h)
  ·rw[b3]
   exact decide_eq_true (hj (by rw[ea]))
  ·rw[hl,hl']
   exact .cons (λE Q q=>d.eqBool (show A.units+1+d.deep<WI by lia) h1 h1' q) (.cons (λE Q q=>e.eqBool (show A.units+1+e.deep<WI by lia) h2 h2' q) .nil)
 quiet:=λ{A E s k v Q} n hn x h=>by
  obtain⟨a,o,items,m,rfl,ho,hc,hd,u,v,hl,h1,h2⟩:=x;obtain⟨j,rfl⟩:∃j,n=j+1:=⟨n-1,by lia⟩
  exact N4 ho hc hd (λu hu E Q q=>by
   rw[hl]at hu;rcases wQ.mp hu with rfl | hu
   ·exact d.quiet j (by lia) h1 q
   ·rw[wX]at hu
    subst hu;exact e.quiet j (by lia) h2 q) h
end
abbrev SK:=List Int × List (List Int)
def jS(prog:wO)(w:wR):HV prog w SK:=Pl (fk (fE prog w)) (fk (fk (fE prog w)))
def zAS(prog:wO)(w:wR):HeapKind prog w SK where
 is:=λh k a=>(jS prog w).is h k (.ref a)
 hash:=(jS prog w).hash
 draws:=(jS prog w).draws
 room:=λA=>A.units+3<WI
 inj:=λx y=>(jS prog w).inj x y
 keeps:=λx ho hd hs=>(jS prog w).keeps x ho hd hs
 pyHash:=λhu hk h=>(jS prog w).pyHash hu hk h
 eqBool:=λhu hx hy h=>(jS prog w).eqBool hu hx hy h
 quiet:=λhk h=>(jS prog w).quiet 8 (by show 3<=8;decide) hk h
end TB
namespace L2
open PySem PySem.Spec PyProof.Rows GM
open TB (SK zAS jS fk fE Pl dM)
theorem LP{P:wO}{w:wR}{h:wM} : ∀{us:List wf}{ns:List Int},IntsAre us ns->dM ((fE P w).is h) ns us
 | _,_,.nil=>.nil
 | _,_,.cons n t r=>.cons ⟨t,rfl⟩ (LP r)
section
variable{X:Cx}{pins:List (wg × Obj)}{σ : St}{H:Hp}{s:wl}
theorem Inv.RY(I:Inv X pins σ H s){v:V}{u:wf}{k:List Int}(h:Is X.K H v (TZ k))(r:aX v u):(fk (fE X.prog X.w)).is s.heap k u:=by
 obtain⟨q,rfl,hs⟩:=k_.mp h;obtain⟨its,r',⟨o,e,hc,n,hd⟩,_⟩:=I.tuple hs;cases (show u=Value.ref q from r);exact⟨q,o,its.toArray,n,rfl,e,hc,hd,LP (ML r')⟩
end
def zCd(l:List (Int × Nat)):Int:=reduceHash (vQ (l.map (·.1)))
def zCf(ks:List Int):Int:=zCd (ks.map λk=>(hashInt k,1))
section
variable{X:Cx}{pins:List (wg × Obj)}{σ : St}{H:Hp}{s:wl}{a b:wg}{xs:List (SK × wg × Int)}{ps:List Int}{cm:List (List Int)}{A:w6}{E:wf->wl->Prop}
end
section
variable{X:Cx}{pos pos':Pos}{i o value:Expr}{ty td tv:TE}
end
section
variable{K:wb}{H H':Hp}{Q:VK}{D:cj}{σ : St}{td ty tv:TE}{a b:wg}{xs:List (SK × wg × Int)}{ps:List Int}{cm:List (List Int)}{n:Int}
end
section
variable{X:Cx}{N':List Str}{scope:Scope}{cl:List (Str × wg)}{src:List (Option Nat)}{elt tgt iter:Expr}{ifs:List Expr}{pos:Pos}{wi:TI}{g:TG}{tt:TT}{te:TE}
end
end L2
namespace TB
open PySem PySem.Spec PyProof.Rows
def di(prog:wO)(w:wR):HeapKind prog w (List Int) where
 is:=λh k a=>(fk (fE prog w)).is h k (.ref a)
 hash:=(fk (fE prog w)).hash
 draws:=(fk (fE prog w)).draws
 room:=λA=>A.units+1<WI
 inj:=λx y=>(fk (fE prog w)).inj x y
 keeps:=λx ho hd hs=>(fk (fE prog w)).keeps x ho hd hs
 pyHash:=λhu hk h=>(fk (fE prog w)).pyHash hu hk h
 eqBool:=λhu hx hy h=>(fk (fE prog w)).eqBool hu hx hy h
 quiet:=λhk h=>(fk (fE prog w)).quiet 8 (by show 1<=8;decide) hk h
section
variable{prog:wO}{w:wR}{K:Type}[DecidableEq K]{knd:HeapKind prog w K}{A:w6}{E:wf->wl->Prop}{s:wl}
end
end TB
namespace L2
open PySem PySem.Spec PyProof.Rows GM
open TB (di fk fE)
abbrev NE:=List Int × wg × wg
def pQ(x:NE)(e:DictEntry):Prop:=e=⟨zCf x.1,.ref x.2.1,.ref x.2.2⟩
def gE(a:wg)(ep:Nat)(xs:List NE):HO:=.ext λh=>xs.length<=1000/\(a == sysModules)=false/\(xs.map (·.1)).Nodup /\ ∃o es,h.get? a=some o/\o.ExactDict/\o.data=.dict es ep/\Paired pQ xs es.toList
def v_(K:wb)(H:Hp)(xs:List NE):Prop:=∀x∈xs,Is K H (.ref x.2.1) (TZ x.1)
def lJ(xs:List NE)(k:List Int):Option wg:=(xs.find? λx=>decide (x.1=k)).map (·.2.2)
theorem TJ{P:wO}{w:wR}{H:Hp}{h:wM}{a:wg}{ep:Nat}{xs:List NE}(z:xs.length<=1000)(hd:(a == sysModules)=false)(nd:(xs.map (·.1)).Nodup){o:Obj}{es:Array DictEntry}(ho:h.get? a=some o)(hx:o.ExactDict)(hda:o.data=.dict es ep)(r:Paired pQ xs es.toList) :
  dq P w H h a (gE a ep xs):=⟨⟨z,hd,nd,o,es,ho,hx,hda,r⟩,⟨o,ho⟩,λh1 h2 ⟨z,hd,nd,o,es,ho,q⟩ k=>⟨z,hd,nd,o,es,k _ ho,q⟩⟩
def gZ(xs:List NE):List (List Int × wg × wf):=xs.map λx=>(x.1,x.2.1,.ref x.2.2)
theorem Ta{P:wO}{w:wR}{xs:List NE}{es:List DictEntry}(r:Paired pQ xs es):es=(gZ xs).map (entryOfKey (di P w)):=by
 induction r with
 | nil=>rfl
 | @cons x e xs es hx r ih =>
  show e::es=_::(gZ xs).map (entryOfKey (di P w))
  rw[<- ih,show e=_ from hx]
  rfl
theorem MS{P:wO}{w:wR} : ∀xs:List NE,Paired pQ xs ((gZ xs).map (entryOfKey (di P w)))
 | []=>.nil
 | x::xs=>.cons rfl (MS xs)
theorem zAI(xs:List NE)(k:List Int):(atKey (gZ xs) k).map (·.2)=(lJ xs k).map Value.ref:=by
 induction xs with
 | nil=>rfl
 | cons x xs ih =>
  unfold atKey lJ gZ at *;rw[wZ,XZ,XZ]
  by_cases e:x.1=k
  ·simp[e]
  ·simp only[e,decide_false]
   exact ih
section
variable{X:Cx}{pins:List (wg × Obj)}{σ : St}{H:Hp}{s:wl}{a b q:wg}{ep:Nat}{xs:List NE}{k:List Int}{A:w6}{E:wf->wl->Prop}
theorem Inv.nK(I:Inv X pins σ H s)(h:Is X.K H (.ref b) (TZ k)):(di X.prog X.w).is s.heap k b:=I.RY h rfl
theorem Inv.Ho(I:Inv X pins σ H s)(e:H a=some (gE a ep xs)):xs.length<=1000/\(a == sysModules)=false/\(xs.map (·.1)).Nodup /\ ∃o es,s.heap.get? a=some o/\o.ExactDict/\o.data=.dict es ep/\Paired pQ xs es.toList :=
 (show dq X.prog X.w H s.heap a (gE a ep xs)from I.aE a _ e).1
end
section
variable{X:Cx}{o e f:Expr}{apos cpos pos:Pos}{td ty tx:TE}{tg:Expr}
end
section
variable{K:wb}{H H':Hp}{Q:VK}{D:cj}{σ : St}{td ty tx te:TE}{g:TG}{tt:TT}{a b q:wg}{ep:Nat}{xs:List NE}{k:List Int}{src:List (Option Nat)}
end
section
variable{X:Cx}{N':List Str}{scope:Scope}{cl:List (Str × wg)}{src:List (Option Nat)}{elt tgt iter:Expr}{ifs:List Expr}{pos:Pos}{wi:TI}{g:TG}{tt:TT}{te:TE}
end
end L2
namespace TB
open PySem PySem.W PyProof.Rows
theorem Io:entryFor table "dict.update.loop"=some Builtin.«dict.update.loop»:=entryFor_of_tree (by kernel_rfl)
theorem tL:plainId "dict.update.loop"=true:=by decide +kernel
theorem Z5:typeLookup (.type "zip") "keys"=pure none:=am_miss_of_fast (by decide +kernel)
theorem zkk:typeLookup (.type "zip") "__getattr__"=pure none:=by rw[typeLookup_type,builtinLookup_eq_fast];kernel_rfl
theorem zgc:entryFor table "zip.__getattribute__"=some Builtin.«object.__getattribute__» :=
 entryFor_alias (id':="object.__getattribute__") (by kernel_rfl) (by decide +kernel) (by decide +kernel) (by kernel_rfl)
theorem zqs(a:wg)(fs:Array wf)(sl:Array (Option wf))(name:Str)(u:Tok)(hmiss:typeLookup (.type "zip") name=pure none)(hname:(["__module__","__name__","__qualname__","__doc__","__annotations__"]:List Str).contains name=false)(hsz:name.length+100<=w8:=by size_fits) :
  Meets (Builtin.«object.__getattribute__» ⟨[.ref a,.str name u],[]⟩) (λA R s=>s.heap.get? a=some {cls:=.type "zip",dict:=none,data:=.fields fs,slots:=sl}/\raisesAttr (.ref a) name A R s) :=
 Meets.of_wp λprog w A R s hs=>by
  obtain⟨hp,g,d,tk,os⟩:=s;obtain⟨hx,hs⟩:=hs;have hT:(⟨hp,g,d,tk,os⟩:wl).TypeIs (.ref a) "zip":=⟨_,hx,rfl⟩;unfold Builtin.«object.__getattribute__»
  repeat(any_goals(first | assumption | wp_step))
  simp only[hname,vT,if_false]
  repeat(any_goals(first | assumption | wp_step))
  exact wpAny_raiseAttrError hs.1 hs.2 (attrMsg_fits (by decide +kernel) hsz)
section
variable{prog:wO}{w:wR}{A:w6}{E:wf->wl->Prop}{s:wl}
theorem To{a:wg}{fs:Array wf}{sl:Array (Option wf)}{Q:Option wf->wl->Prop}
  (hx:s.heap.get? a=some {cls:=.type "zip",dict:=none,data:=.fields fs,slots:=sl}) (hA:A.handled=none)
  (q:∀h' tk,(∀b ob,s.heap.get? b=some ob->h'.get? b=some ob)->Q none {s with heap:=h',toks:=tk}) :
  wq (model prog w) A (getAttr? (.ref a) "keys") Q E s:=by
 obtain⟨hp,g,d,tk,os⟩:=s;have hT:∀tk',(⟨hp,g,d,tk',os⟩:wl).TypeIs (.ref a) "zip":=λ_=>⟨_,hx,rfl⟩
 have f1:=sub_AttributeError;have f3:=V0.lookup;have f4:=V0.bind (.ref a);have f5:=zkk;unfold getAttr? getAttrBy? getAttrBy
 repeat(any_goals(first | assumption | exact hT _ | ((with_reducible show wq _ _ (call (Value.builtin "zip.__getattribute__") _ _) _ _ _);refine call_meets V0 (hT _) zgc (PySem.F.args_zip_getattribute_2 _ _) (zqs a fs sl "keys" _ Z5 (by decide +kernel)) ⟨hx,hA,λh' tk' e hx'=>?_⟩) | wp_step))
 obtain⟨t',u',he⟩:=hx'.there
 show wq _ _ (getattributeRaised _ _ _ _ _ _ _) _ _ _
 unfold getattributeRaised
 repeat(any_goals(first | assumption | wp_step))
 exact q _ _ hx'.keeps
theorem zwI{p:wg}{x y:wf}(h:Wy s.heap p x y){Q:List wf->wl->Prop}(q:Q [x,y] s):wq (model prog w) A (Q8 (.ref p)) Q E s:=by
 have hT:s.TypeIs (.ref p) "tuple":=⟨_,h,rfl⟩;unfold Q8;refine we (wpAny_typeOf hT ?_);rw[if_pos (by decide)];refine we (Wh h rfl ?_);exact wp q
abbrev lS(h:wM)(z TI TO p:wg)(f:Bool):Prop :=
 h.get? z=some {cls:=.type "zip",dict:=none,data:=.fields #[Vz p,.bool f,.bool false,.ref TI,.ref TO],slots:=#[]}
end
section
variable{prog:wO}{w:wR}{A:w6}{E:wf->wl->Prop}{s:wl}{z TI TO i1 i2 p:wg}{f:Bool}{f1 f2:List wg}{n1 n2 k:Nat}{P1 P2:Nat->wf->Prop}{S1 S2:Nat->wM->Prop}{a b:wf}
theorem IP{op:Obj}{Q:Bool->wl->Prop}(hz:lS s.heap z TI TO p f)(hp:s.heap.get? p=some op)
  (q:∀g,lS g z TI TO p true->vB z s.heap g->Q false {s with heap:=g}):wq (model prog w) A (vA (.ref z)) Q E s:=by
 unfold vA;refine we (vg hz rfl (x:=Vz p) rfl ?_)
 show wq _ _ (loadIfAlive ((p:Int).toNat) >>= _) _ _ _
 rw[wW];refine we (kdx_alive hp ?_);simp only[Option.isNone_some,vT,if_false];refine we (vg hz rfl (x:=.bool f) rfl ?_);cases f with
 | true =>
  rw[if_neg (show ¬ ((Value.bool true != Value.bool true)=true)from vj)];exact wp (q _ hz (Heap.SameBut.refl _ _))
 | false =>
  rw[if_pos (show(Value.bool false != Value.bool true)=true from rfl)];refine we (WT hz (by simp) λg hg sb=>?_);exact wp (q g hg sb)
theorem Uo{op:Obj}{Q:wf->wl->Prop}(D1:Draws prog w A i1 f1 n1 P1 S1)(D2:Draws prog w A i2 f2 n2 P2 S2)(ap:L2.ZA z TI TO i1 i2 f1 f2)(hz:lS s.heap z TI TO p f)(hi:Wy s.heap TI (.ref i1) (.ref i2))(hp:s.heap.get? p=some op)
  (h1:S1 k s.heap) (h2:S2 k s.heap) (l1:k<n1) (l2:k<n2)
  (fin:∀x y h' tk,P1 k x->P2 k y->lS h' z TI TO p true->S1 (k+1) h'->S2 (k+1) h'->Wy h' s.heap.objs.size x y ->
   (∀c o,c≠z->c≠i1->c≠i2->s.heap.get? c=some o->h'.get? c=some o)->Q (.ref s.heap.objs.size) {s with heap:=h',toks:=tk}) :
  wq (model prog w) A (Builtin.«zip.__next__» ⟨[.ref z],[]⟩) (λr s'=>∃v,r=.done (.ret v)/\Q v s') E s:=by
 show wq _ _ (field (.ref z) 2 >>= _) _ _ _;refine we (vg hz rfl (x:=.bool false) rfl ?_)
 show wq _ _ (field (.ref z) 3 >>= _) _ _ _;refine we (vg hz rfl (x:=.ref TI) rfl ?_)
 refine we (Wh hi rfl ?_);show wq _ _ (vA (.ref z) >>= _) _ _ _
 refine we (IP hz hp λg0 hz0 sb0=>?_);have sb0:vB z s.heap g0:=sb0;simp only[vT,if_false];refine we ?_;rw[<- qG];simp only[qr,Qh];have h1a:S1 k g0:=D1.frame _ _ _ h1 λc hc o e=>sb0.extBut c o (λq=>ap.b1 (q ▸ hc)) e
 have h2a:S2 k g0:=D2.frame _ _ _ h2 λc hc o e=>sb0.extBut c o (λq=>ap.b2 (q ▸ hc)) e
 refine we (we (vN ?_))
 show wq _ _ (vC (.ref i1) >>= _) _ _ _
 refine we (D1.item k _ _ _ l1 h1a λx g1 t1 px h1b sb1=>wp ?_);have sb1:vB i1 g0 g1:=sb1;have h2b:S2 k g1:=D2.frame _ _ _ h2a λc hc o e=>sb1.extBut c o (λq=>ap.b5 (q ▸ hc)) e
 refine wp ?_;refine we (we (vN ?_))
 show wq _ _ (vC (.ref i2) >>= _) _ _ _
 refine we (D2.item k _ _ _ l2 h2b λy g2 t2 py h2c sb2=>wp ?_);have sb2:vB i2 g1 g2:=sb2;have h1c:S1 (k+1) g2:=D1.frame _ _ _ h1b λc hc o e=>sb2.extBut c o (λq=>ap.b6 (q ▸ hc)) e
 refine wp (wp ?_);refine we (wpAny_newTuple (hsz:=by show 2<=w8;rw[sizeLine_eq];decide) ?_);have hsz:g2.objs.size=s.heap.objs.size:=by rw[sb2.1,sb1.1,sb0.1]
 have kept:∀c o,c≠z->c≠i1->c≠i2->s.heap.get? c=some o->g2.get? c=some o:=λc o c1 c3 c4 e=>sb2.extBut _ _ c4 (sb1.extBut _ _ c3 (sb0.extBut _ _ c1 e))
 have zz:lS g2 z TI TO p true:=sb2.extBut _ _ ap.a4.symm (sb1.extBut _ _ ap.a3.symm hz0);refine wp ⟨_,rfl,?_⟩
 show Q (.ref g2.objs.size) _
 have new:Wy (g2.push {cls:=.type "tuple",data:=.seq #[x,y]}) g2.objs.size x y:=wN _ rfl;rw[hsz]at new ⊢;exact fin x y _ _ px py (wn _ zz) (D1.frame _ _ _ h1c λc hc o e=>wn _ e) (D2.frame _ _ _ h2c λc hc o e=>wn _ e) new λc o c1 c3 c4 e=>wn _ (kept c o c1 c3 c4 e)
theorem U0{op:Obj}{Q:Fin->wl->Prop}(D1:Draws prog w A i1 f1 n1 P1 S1)(ap:L2.ZA z TI TO i1 i2 f1 f2)(hz:lS s.heap z TI TO p f)(hi:Wy s.heap TI (.ref i1) (.ref i2))(hp:s.heap.get? p=some op)(h1:S1 n1 s.heap)
  (fin:∀h' e tk,(∀c o,c≠z->c≠i1->s.heap.get? c=some o->h'.get? c=some o)->(∃o,h'.get? e=some o/\o.cls=.type "StopIteration")->E (.ref e) {s with heap:=h',toks:=tk}) :
  wq (model prog w) A (Builtin.«zip.__next__» ⟨[.ref z],[]⟩) Q E s:=by
 show wq _ _ (field (.ref z) 2 >>= _) _ _ _;refine we (vg hz rfl (x:=.bool false) rfl ?_)
 show wq _ _ (field (.ref z) 3 >>= _) _ _ _;refine we (vg hz rfl (x:=.ref TI) rfl ?_)
 refine we (Wh hi rfl ?_);show wq _ _ (vA (.ref z) >>= _) _ _ _
 refine we (IP hz hp λg0 hz0 sb0=>?_);have sb0:vB z s.heap g0:=sb0;simp only[vT,if_false];refine we ?_;rw[<- qG];simp only[qr,Qh];have h1a:S1 n1 g0:=D1.frame _ _ _ h1 λc hc o e=>sb0.extBut c o (λq=>ap.b1 (q ▸ hc)) e
 refine we (we (vN ?_))
 show wq _ _ (vC (.ref i1) >>= _) _ _ _
 exact we (D1.done _ _ _ h1a λg1 e sb1 he=>fin g1 e _ (λc o c1 c3 q=>sb1 _ _ c3 (sb0.extBut _ _ c1 q)) he)
end
theorem nN{prog:wO}{w:wR}{h h':wM}{k:List Int}{a:wg}(x:(di prog w).is h k a)(e:∀o,h.get? a=some o->h'.get? a=some o):(di prog w).is h' k a:=by
 obtain⟨a',o,items,n,ea,ho,hc,hd,r⟩:=x;cases ea;exact⟨a,o,items,n,rfl,e o ho,hc,hd,r⟩
def jI(base:wg)(h h':wM):Prop:=∀b o,b<base->h.get? b=some o->h'.get? b=some o
theorem jI.trans{base:wg}{h h' h'':wM}(x:jI base h h')(y:jI base h' h''):jI base h h'':=λb o hb e=>y b o hb (x b o hb e)
structure ZB(base z TI TO i1 i2 d a b:wg):Prop where
 ap:L2.ZA z TI TO i1 i2 [i1,a] [i2,b]
 na:a≠i1
 nb:b≠i2
 bz:base<=z
 bO:base<=TO
 b1:base<=i1
 b2:base<=i2
 bd:base<=d
 dz:d≠z
 dI:d≠TI
 dO:d≠TO
 d1:d≠i1
 d2:d≠i2
 la:a<base
 lb:b<base
def k8(z TI TO i1 i2 d a b:wg)(its jts:Array wf)(i:Nat)(h:wM):Prop:=Wy h TI (.ref i1) (.ref i2)/\(h.IsTupleIter i1 a i/\h.IsTuple a its)/\(h.IsTupleIter i2 b i/\h.IsTuple b jts) /\
 ((∃x y,IsZip h z TI TO .none/\Wy h TO x y) \/ ∃p f op,lS h z TI TO p f/\h.get? p=some op/\p≠z/\p≠i1/\p≠i2/\p≠d)
section
variable{prog:wO}{w:wR}{A:w6}{E:wf->wl->Prop}{s:wl}{base z TI TO i1 i2 d a b:wg}{its jts:Array wf}{i:Nat}
theorem i_(hh:A.handled=none)(it l:wg)(hne:l≠it)(items:Array wf):Draws prog w A it [it,l] items.size (λi v=>items[i]? = some v) (λi h=>h.IsTupleIter it l i/\h.IsTuple l items):=L2.nJ true hh it l hne items
theorem zBT(B:ZB base z TI TO i1 i2 d a b)(hh:A.in1.handled=none)(st:k8 z TI TO i1 i2 d a b its jts i s.heap)(hd:d<s.heap.objs.size){x y:wf}(hx:its[i]? = some x)(hy:jts[i]? = some y){Q:Option wf->wl->Prop}
  (q:∀(h':wM) tk,Wy h' s.heap.objs.size x y->k8 z TI TO i1 i2 d a b its jts (i+1) h'->(∀c o,c≠z->c≠TO->c≠i1->c≠i2->s.heap.get? c=some o->h'.get? c=some o)->Q (some (.ref s.heap.objs.size)) {s with heap:=h',toks:=tk}) :
  wq (model prog w) A (W3 (.ref z)) Q E s:=by
 obtain⟨hi,s1,s2,hz⟩:=st
 have lt1:i<its.size:=by
  rcases wB i its.size with z | z
  ·exact z
  ·rw[Q9 z]at hx;cases hx
 have lt2:i<jts.size:=by
  rcases wB i jts.size with z | z
  ·exact z
  ·rw[Q9 z]at hy;cases hy
 have ap:=B.ap;unfold W3;rcases hz with⟨x0,y0,hz,ho⟩ | ⟨p,f,op,hz,hp,p1,p2,p3,p4⟩
 ·have hT:s.TypeIs (.ref z) "zip":=⟨_,hz,rfl⟩
  have ltz:=wy hz
  refine we (WA (wpAny_callSpecial?_slot (name:=vH "__next__") hT Wq (vL Wq hT VJ
   (L2.Hm (i_ (A:=A.in1) hh i1 a B.na its) (i_ (A:=A.in1) hh i2 b B.nb jts) ap hz hi ho s1 s2 lt1 lt2 λv1 v2 h1 tk e1 e2 hz1 ho1 st1 st2 hT1 hk=>wp ?_) (Vy _))))
  rw[hx]at e1;cases e1;rw[hy]at e2;cases e2;have l1:i1<s.heap.objs.size:=by obtain⟨o,e,_⟩:=s1.1;exact wy e
  have l2:i2<s.heap.objs.size:=by obtain⟨o,e,_⟩:=s2.1;exact wy e
  exact q h1 tk hT1 ⟨hk _ _ ap.a1 ap.a5 ap.a6 ap.a7 hi,st1,st2,.inr ⟨s.heap.objs.size,false,_,hz1,hT1,vi ltz,vi l1,vi l2,vi hd⟩⟩ hk
 ·have hT:s.TypeIs (.ref z) "zip":=⟨_,hz,rfl⟩
  refine we (WA (wpAny_callSpecial?_slot (name:=vH "__next__") hT Wq (vL Wq hT VJ
   (Uo (i_ (A:=A.in1) hh i1 a B.na its) (i_ (A:=A.in1) hh i2 b B.nb jts) ap hz hi hp s1 s2 lt1 lt2 λv1 v2 h1 tk e1 e2 hz1 st1 st2 hT1 hk=>wp ?_) (Vy _))))
  rw[hx]at e1;cases e1;rw[hy]at e2;cases e2;exact q h1 tk hT1 ⟨hk _ _ ap.a1 ap.a6 ap.a7 hi,st1,st2,.inr ⟨p,true,op,hz1,hk _ _ p1 p2 p3 hp,p1,p2,p3,p4⟩⟩ λc o c1 _ c3 c4 e=>hk c o c1 c3 c4 e
theorem Yz(B:ZB base z TI TO i1 i2 d a b)(hh:A.in1.handled=none)(st:k8 z TI TO i1 i2 d a b its jts its.size s.heap){Q:Option wf->wl->Prop}
  (q:∀(h':wM) tk,(∀c o,c≠z->c≠TO->c≠i1->c≠i2->s.heap.get? c=some o->h'.get? c=some o)->Q none {s with heap:=h',toks:=tk}) :
  wq (model prog w) A (W3 (.ref z)) Q E s:=by
 obtain⟨hi,s1,s2,hz⟩:=st;have ap:=B.ap;unfold W3;rcases hz with⟨x0,y0,hz,ho⟩ | ⟨p,f,op,hz,hp,p1,p2,p3,p4⟩
 ·have hT:s.TypeIs (.ref z) "zip":=⟨_,hz,rfl⟩
  refine we (WA (wpAny_callSpecial?_slot (name:=vH "__next__") hT Wq (vL Wq hT VJ
   (L2.Hq (k:=its.size) (i_ (A:=A.in1) hh i1 a B.na its) (i_ (A:=A.in1) hh i2 b B.nb jts) ap hz hi ho s1 s2 (.inl rfl) λh' y tk hk hx'=>?_) (Vy _))))
  obtain⟨o,ho',hcl⟩:=hx';exact we (WH (T:="StopIteration") (b:=true) ⟨o,ho',hcl⟩ VC (wp (q h' tk hk)))
 ·have hT:s.TypeIs (.ref z) "zip":=⟨_,hz,rfl⟩
  refine we (WA (wpAny_callSpecial?_slot (name:=vH "__next__") hT Wq (vL Wq hT VJ
   (U0 (i_ (A:=A.in1) hh i1 a B.na its) ap hz hi hp s1 λh' y tk hk hx'=>?_) (Vy _))))
  obtain⟨o,ho',hcl⟩:=hx';exact we (WH (T:="StopIteration") (b:=true) ⟨o,ho',hcl⟩ VC (wp (q h' tk λc o c1 _ c3 _ e=>hk c o c1 c3 e)))
end
theorem k8.but{base z TI TO i1 i2 d a b:wg}{its jts:Array wf}{i:Nat}{h g:wM}(st:k8 z TI TO i1 i2 d a b its jts i h)(B:ZB base z TI TO i1 i2 d a b)(sb:vB d h g):k8 z TI TO i1 i2 d a b its jts i g:=by
 obtain⟨hi,s1,s2,hz⟩:=st;have da:a≠d:=wL (wU B.la B.bd);have db:b≠d:=wL (wU B.lb B.bd);refine⟨sb.extBut _ _ B.dI.symm hi,⟨s1.1.at λo e=>sb.extBut _ _ B.d1.symm e,s1.2.at λo e=>sb.extBut _ _ da e⟩,⟨s2.1.at λo e=>sb.extBut _ _ B.d2.symm e,s2.2.at λo e=>sb.extBut _ _ db e⟩,?_⟩;rcases hz with⟨x0,y0,hz,ho⟩ | ⟨p,f,op,hz,hp,p1,p2,p3,p4⟩
 ·exact .inl ⟨x0,y0,sb.extBut _ _ B.dz.symm hz,sb.extBut _ _ B.dO.symm ho⟩
 ·exact .inr ⟨p,f,op,sb.extBut _ _ B.dz.symm hz,sb.extBut _ _ p4 hp,p1,p2,p3,p4⟩
section
variable{prog:wO}{w:wR}{A:w6}{R:Result->wl->Prop}{base z TI TO i1 i2 d a b:wg}{its jts:Array wf}{key:Nat->List Int}{ka:Nat->wg}{val:Nat->wf}
theorem W_(B:ZB base z TI TO i1 i2 d a b)(hh:A.in1.in1.handled=none)(hu:A.in1.units+1<WI)(hl:jts.size=its.size)(hn:its.size<=999)(hx:∀i,i<its.size->its[i]? = some (.ref (ka i)))(hy:∀i,i<its.size->jts[i]? = some (val i))
  (lk:∀i,i<its.size->ka i<base) (hk:∀i j,i<its.size->j<its.size->key i=key j->i=j) :
  ∀(c i:Nat)(s:wl),its.size-i=c->i<=its.size->k8 z TI TO i1 i2 d a b its jts i s.heap->(∀j,j<its.size->(di prog w).is s.heap (key j) (ka j))->s.heap.DictOfH (di prog w) d ((wt i).map λj=>(key j,ka j,val j)) ->
   (∀(g:wM)(tk:Nat),jI base s.heap g->g.DictOfH (di prog w) d ((wt its.size).map λj=>(key j,ka j,val j))->R (.ok (.ret .none)) {s with heap:=g,toks:=tk}) ->
   codeAny (model prog w) A (.builtin "dict.update.loop" ⟨[.ref d,.ref z,Vz i,.none],[]⟩) R s:=by
 have lift:∀{h h':wM}{xs:List (List Int × wg × wf)},h.DictOfH (di prog w) d xs->(∀x∈xs,x.2.1<base)->jI base h h'->(∀o,h.get? d=some o->h'.get? d=some o)->h'.DictOfH (di prog w) d xs:=λx hb bl hd=>by
  obtain⟨o,es,ep,ho,hc,hda,he,his,hn⟩:=x;exact⟨o,es,ep,hd o ho,hc,hda,he,λx hx=>nN (his x hx) λo e=>bl _ o (hb x hx) e,hn⟩
 have lo:∀{h h':wM},(∀c o,c≠z->c≠TO->c≠i1->c≠i2->h.get? c=some o->h'.get? c=some o)->jI base h h':=λhk c o hc e=>hk c o (wL (wU hc B.bz)) (wL (wU hc B.bO)) (wL (wU hc B.b1)) (wL (wU hc B.b2)) e
 intro c
 induction c with
 | zero =>
  intro i s ec ei st ht hs r;obtain rfl:i=its.size:=by omega
  refine codeAny_builtin Io ?_;rw[xu tL _];refine we (m:=W3 (.ref z)) (Yz B hh st λh' tk hk'=>?_);refine we (wp ?_);refine wp (r h' tk (lo hk') (lift hs (λx hx=>?_) (lo hk') λo e=>hk' d o B.dz B.dO B.d1 B.d2 e));obtain⟨j,hj,rfl⟩:=wY.mp hx;exact lk j (wH.mp hj)
 | succ c ih =>
  intro i s ec ei st ht hs r;have lt:i<its.size:=by omega
  have hdl:d<s.heap.objs.size:=by obtain⟨o,_,_,ho,_⟩:=hs;exact wy ho
  refine codeAny_builtin Io ?_;rw[xu tL _];refine we (m:=W3 (.ref z)) (zBT B hh st hdl (hx i lt) (hy i lt) λh' tk hp st' hk'=>?_);have bl:=lo hk'
  have hs':h'.DictOfH (di prog w) d ((wt i).map λj=>(key j,ka j,val j)):=lift hs (λx hx=>by
   obtain⟨j,hj,rfl⟩:=wY.mp hx;have:=wH.mp hj;exact lk j (by omega)) bl λo e=>hk' d o B.dz B.dO B.d1 B.d2 e
  have ht':∀j,j<its.size->(di prog w).is h' (key j) (ka j):=λj hj=>nN (ht j hj) λo e=>bl _ o (lk j hj) e
  refine we (vN (we (wpAny_tryCatch (zwI hp ?_))));refine vN (wpAny_dictSet_heap (knd:=di prog w) (k:=key i) hu (ht' i lt) hs' (λh2 hd2 sb=>?_) (by rw[wm,vx,sizeLine_eq];omega))
  have e2:storedH ((wt i).map λj=>(key j,ka j,val j)) (key i) (ka i) (val i)=(wt (i+1)).map λj=>(key j,ka j,val j):=by
   rw[storedH_new,qY,vt]
   ·rfl
   ·cases e:atKey ((wt i).map λj=>(key j,ka j,val j)) (key i)with
    | none=>rfl
    | some p =>
     unfold atKey at e;rw[Vd]at e;obtain⟨y,hy',_⟩:=e;have hm:=QG hy';have hp':=X0 hy';obtain⟨j,hj,rfl⟩:=wY.mp hm;have hj:=wH.mp hj;have:=hk j i (by omega) lt (of_decide_eq_true hp');omega
  rw[e2]at hd2;have sb:vB d h' h2:=sb;refine wp ⟨plainId_quiet tL _,?_⟩;have bl2:jI base h' h2:=λc o hc e=>sb.extBut c o (wL (wU hc B.bd)) e
  have:=ih (i+1) {s with heap:=h2,toks:=tk+(di prog w).draws (key i)} (by omega) lt (st'.but B sb) (λj hj=>nN (ht' j hj) λo e=>bl2 _ o (lk j hj) e) hd2 λg tk' bl3 dd=>r g tk' (bl.trans (bl2.trans bl3)) dd
  exact this
end
section
variable{prog:wO}{w:wR}{A:w6}{E:wf->wl->Prop}{s:wl}{base z TI TO i1 i2 a b:wg}{its jts:Array wf}{key:Nat->List Int}{ka:Nat->wg}{val:Nat->wf}{x0 y0:wf}
theorem Rp(B:ZB base z TI TO i1 i2 s.heap.objs.size a b)(hh:A.handled=none)(hu:A.units+3<WI)(hl:jts.size=its.size)(hn:its.size<=999)(hx:∀i,i<its.size->its[i]? = some (.ref (ka i)))(hy:∀i,i<its.size->jts[i]? = some (val i))
  (lk:∀i,i<its.size->ka i<base) (hk:∀i j,i<its.size->j<its.size->key i=key j->i=j) (hz:IsZip s.heap z TI TO .none) (hi:Wy s.heap TI (.ref i1) (.ref i2)) (ho:Wy s.heap TO x0 y0) (s1:s.heap.IsTupleIter i1 a 0) (t1:s.heap.IsTuple a its) (s2:s.heap.IsTupleIter i2 b 0) (t2:s.heap.IsTuple b jts)
  (hK:∀j,j<its.size->(di prog w).is s.heap (key j) (ka j)) {Q:wf->wl->Prop}
  (q:∀(g:wM)(tk:Nat),jI base s.heap g->g.DictOfH (di prog w) s.heap.objs.size ((wt its.size).map λj=>(key j,ka j,val j))->Q (.ref s.heap.objs.size) {s with heap:=g,toks:=tk}) :
  wq (model prog w) A (call (.type "dict") [.ref z]) Q E s:=by
 refine callType_codes (Q₁:=λobj s₁=>obj=.ref s.heap.objs.size/\s₁ = {s with heap:=s.heap.push {cls:=.type "dict",data:=.dict #[]}}) PySem.F.kt_called_dict (PySem.F.kt_typeCall_dict_1 _) PySem.F.entry_dict_init (kt_code_dict_new _ ⟨rfl,rfl⟩) ?_;rintro obj s₁ ⟨rfl,rfl⟩;have hnew:(s.heap.push {cls:=.type "dict",data:=.dict #[]}).DictOfH (di prog w) s.heap.objs.size []:=Heap.DictOfH.new s.heap;have hz':IsZip (s.heap.push {cls:=.type "dict",data:=.dict #[]}) z TI TO .none:=wn _ hz;refine⟨hnew.typeIs,PySem.F.args_dict_init_2 _ _,?_⟩;unfold Builtin.«dict.__init__»;refine we ?_;unfold Builtin.Dict.selfAndRest;refine we (wpAny_notOrdered_dict hnew.typeIs ?_)
 show wq _ _ (pure (s.heap.objs.size,[Value.ref z])) _ _ _
 refine wp ?_
 show wq _ _ (QU "dict.__init__" s.heap.objs.size (.ref z) [] .none) _ _ _
 unfold QU;refine we (wpAny_typeOf (T:="zip") ⟨_,hz',rfl⟩ ?_);rw[if_pos (by decide)];refine we (To hz' (by exact hh) λh1 tk1 kp1=>?_);simp only[Option.isNone_none,if_true];refine we (VW ?_);have kp0:∀b o,s.heap.get? b=some o->h1.get? b=some o:=λb o e=>kp1 b o (wn _ e)
 have dn:h1.DictOfH (di prog w) s.heap.objs.size []:=by
  obtain⟨o,es,ep,ho,hc,hda,he,his,hn⟩:=hnew;exact⟨o,es,ep,kp1 _ _ ho,hc,hda,he,(λx hx=>by cases hx),hn⟩
 refine we (wpAny_pyIter_zip (kp0 _ _ hz) ?_);refine wp ⟨plainId_quiet tL _,?_⟩;refine W_ B (by exact hh) (show A.units+1+1+1<WI by omega) hl hn hx hy lk hk (its.size-0) 0 _ rfl (qi _) ⟨kp0 _ _ hi,⟨s1.at λo e=>kp0 _ o e,t1.at λo e=>kp0 _ o e⟩,⟨s2.at λo e=>kp0 _ o e,t2.at λo e=>kp0 _ o e⟩,.inl ⟨x0,y0,kp0 _ _ hz,kp0 _ _ ho⟩⟩ (λj hj=>nN (hK j hj) λo e=>kp0 _ o e) dn λg tk bl dd=>?_
 exact⟨rfl,q g tk (λc o hc e=>bl c o hc (kp0 c o e)) dd⟩
end
end TB
namespace L2
open PySem PySem.Spec PyProof.Rows GM
open TB (di fk fE)
theorem Zw:vK "dict"=some (.type "dict"):=by decide +kernel
def fJ(ks:List (List Int))(us ws:List wg):List NE:=(wt us.length).map λj=>(ks.getD j [],us.getD j 0,ws.getD j 0)
def Nf(K:wb)(vs:List V)(H1:Hp)(Q:VK):Prop:=∃(a b:wg)(ks:List (List Int))(us ws:List wg),vs=[.ref a,.ref b]/\aU K H1 a (us.map V.ref)/\aU K H1 b (ws.map V.ref)/\us.length=ws.length/\us.length<=999/\ao K H1 (us.map V.ref) (ks.map TZ)/\ks.Nodup /\
 ∀D ep,H1 D=none->Q (.ref D) (upd H1 D (gE D ep (fJ ks us ws)))
def Md(K:wb)(ta:TA):TE:=λσ H Q=>ta σ H λvs H1=>Nf K vs H1 Q
theorem YN{n d a b:Nat}(la:a<n)(lb:b<n)(hd:n+5<=d):TB.ZB n (n+4) (n+2) (n+3) n (n+1) d a b where
 ap:=L7 la lb
 na:=wL la
 nb:=wL (Vx lb)
 bz:=Vb _ 4
 bO:=Vb _ 3
 b1:=wo _
 b2:=Vb _ 1
 bd:=by show n<=d;omega
 dz:=vi (by omega)
 dI:=vi (by omega)
 dO:=vi (by omega)
 d1:=vi (by omega)
 d2:=vi (by omega)
 la:=la
 lb:=lb
theorem zvb{ks:List (List Int)}{us ws:List wg}(h:ks.length=us.length):(fJ ks us ws).map (·.1)=ks:=by
 unfold fJ;rw[WF];refine List.ext_getElem? λj=>?_
 rw[wu];rcases wB j us.length with z | z
 ·rw[vI z,wc (by omega:j<ks.length)]
  show some (ks.getD j [])=_
  rw[wa,wc (by omega:j<ks.length)]
  rfl
 ·rw[wF (by simpa using z),wF (by omega)]
  rfl
section
variable{X:Cx}{o i:Expr}{pos:Pos}{td ty:TE}
theorem C1:∀{ws:List V}{us:List wf},aK ws us->∀{i:Nat}{q:wg},ws[i]? = some (.ref q)->us[i]? = some (.ref q)
 | _,_,.nil,i,q,h=>by simp at h
 | _,_,.cons r1 r2,0,q,h=>by
  simp only[List.getElem?_cons_zero,Qz]at h ⊢;subst h;exact r1
 | _,_,.cons r1 r2,i+1,q,h=>by
  simp only[List.getElem?_cons_succ]at h ⊢;exact C1 r2 h
theorem zwZ{l m:Expr}{ta:TA}{p p2 pos2:Pos}(hc:X.calm=true)(hu:X.A.units+4<WI)(hg:Gl X "dict")(hm:X.mg "dict"=none)(hg2:Gl X "zip")(hm2:X.mg "zip"=none)(ha:PA X [l,m] ta)(hs:w5 [l,m] X.env=[(false,eval l X.env),(false,eval m X.env)]:=by rfl)(hs2:w5 [m] X.env=[(false,eval m X.env)]:=by rfl)
   (hs3:w5 [Expr.Call (.Name "zip" p2) [l,m] [] pos2] X.env=[(false,eval (.Call (.Name "zip" p2) [l,m] [] pos2) X.env)]:=by rfl):PE X (.Call (.Name "dict" p) [.Call (.Name "zip" p2) [l,m] [] pos2] [] pos) (Md X.K ta):=by
 intro pins s σ H Q I h;refine Call_ (gb I hg hm Zw ?_);refine vv ?_ hs3 rfl;rw[hs3]
 show wq _ _ (spliced ((false,eval _ X.env)::WV pos [])) _ _ s
 refine Qj ?_;refine Call_ (gb I hg2 hm2 DJ (vv (aH (ha pos2 pins s σ H _ I h) λus s1 ⟨vs,H1,I1,r1,q1⟩=>?_) (by rw[hs,hs2]) (by rw[hs2];rfl)));obtain⟨a,b,ks,us',ws,rfl,hq1,hq2,hl,hn,hk,nd,q⟩:=q1;obtain⟨u,v,rfl,ru,rv⟩:=ki r1;cases ru;cases rv;obtain⟨its,ri,p1⟩:=I1.iJ (t:=true) hq1;obtain⟨jts,rj,p2⟩:=I1.iJ (t:=true) hq2;have p1:s1.heap.IsTuple a its.toArray:=p1;have p2:s1.heap.IsTuple b jts.toArray:=p2;have la:a<s1.heap.objs.size:=by obtain⟨o,e,_⟩:=p1;exact wy e
 have lb:b<s1.heap.objs.size:=by obtain⟨o,e,_⟩:=p2;exact wy e
 have li:=ri.length;have lj:=rj.length;have lk:=hk.length;simp only[wm]at li lj lk;refine Kn p1 p2 λh' hz hi ho t1 t2 kp=>?_
 refine Qx ?_;have hd:s1.heap.objs.size+5<=h'.objs.size:=wy hz
 have hx:∀j,j<its.toArray.size->its.toArray[j]? = some (Value.ref (us'.getD j 0)):=λj hj=>by
   have hj:j<us'.length:=by simpa [li] using hj
   have:=C1 ri (show(us'.map V.ref)[j]? = some (V.ref (us'.getD j 0)) by rw[wu,wa,wc hj];rfl)
   simpa using this
 have hy:∀j,j<its.toArray.size->jts.toArray[j]? = some (Value.ref (ws.getD j 0)):=λj hj=>by
   have hj : j < ws.length := by have : j < us'.length := by simpa [li] using hj
                                 omega
   have:=C1 rj (show(ws.map V.ref)[j]? = some (V.ref (ws.getD j 0)) by rw[wu,wa,wc hj];rfl)
   simpa using this
 have hK:∀j,j<its.toArray.size->(di X.prog X.w).is s1.heap (ks.getD j []) (us'.getD j 0):=λj hj=>by
   have hj:j<us'.length:=by simpa [li] using hj
   have:=(lH hk (i:=j) (x:=.ref (us'.getD j 0)) (by rw[wu,wa,wc hj];rfl)).2
   have ek:(ks.map TZ).getD j .none=TZ (ks.getD j []):=by
     rw[wa,wu,wa,wc (by omega:j<ks.length)]
     rfl
   rw[ek]at this;exact I1.nK this
 refine TB.Rp (YN la lb hd) (I1.ok.hd hc) (by omega) (by simp only[wI];omega) (by simp only[wI];omega) hx hy (λj hj=>?_) (λi j hi' hj e=>?_) hz hi ho t1 (p1.at λo e=>kp _ o e) t2 (p2.at λo e=>kp _ o e) (λj hj=>TB.nN (hK j hj) λo e=>kp _ o e) λg tk bl dd=>?_
 . obtain⟨a',o,items,n,ea,ho',_⟩:=hK j hj
   cases ea;exact wy ho'
 . have hi' : i < ks.length := by have : i < its.length := by simpa using hi'
                                  omega
   have hj : j < ks.length := by have : j < its.length := by simpa using hj
                                 omega
   rw[wa,wa,wc hi',wc hj]at e;have pw:=Wv.mp nd;rcases Vw i j with z | z | z
   . exact absurd e (pw i j hi' hj z)
   . exact z
   . exact absurd e.symm (pw j i hj hi' z)
 . obtain⟨o,es,ep,ho',hxd,hda,he,his,hnd⟩:=dd
   refine⟨.ref h'.objs.size,_,I1.laid (t':=tk) (a:=h'.objs.size) (o:=gE h'.objs.size ep (fJ ks us' ws)) (λc o e=>bl c o (wy e) (kp c o e)) (by omega) (TJ ?_ (beq_eq_false_iff_ne.mpr (We (wL ?_))) ?_ ho' hxd hda ?_),rfl,q _ ep (I1.aE.fresh (by omega))⟩
   . unfold fJ;rw[wm,vx];omega
   . exact wU I1.big (by omega)
   . rw[zvb (by omega)];exact nd
   . rw[he]
     have:((wt its.toArray.size).map λj=>(ks.getD j [],us'.getD j 0,Value.ref (ws.getD j 0)))=gZ (fJ ks us' ws):=by
       unfold gZ fJ;rw[WF,wI,<- li]
       rfl
     rw[this];exact MS _
def Dw(K:wb)(td ty:TE):TE:=λσ H Q=>td σ H λx H1=>ty σ H1 λy H2=>∃a b ep xs k l,x=.ref a/\y=.ref b/\H2 a=some (gE a ep xs)/\v_ K H2 xs/\Is K H2 (.ref b) (TZ k)/\lJ xs k=some l/\Q (.ref l) H2
theorem Tu{pins:List (wg × Obj)}{σ : St}{H:Hp}{s:wl}{a b l:wg}{ep:Nat}{xs:List NE}{k:List Int}{A:w6}{E:wf->wl->Prop}{Q:wf->wl->Prop}(hu:A.units+4<WI)(I:Inv X pins σ H s)(e:H a=some (gE a ep xs))(hk:v_ X.K H xs)(hb:Is X.K H (.ref b) (TZ k))(hl:lJ xs k=some l)(h:∀s',Inv X pins σ H s'->Q (.ref l) s') :
  wq (model X.prog X.w) A (getItem (.ref a) (.ref b)) Q E s:=by
 obtain⟨z,hd,nd,o,es,ho,hx,hda,r⟩:=I.Ho e;have zk:(gZ xs).map (·.1)=xs.map (·.1):=by unfold gZ;rw[WF];rfl
 have dd:s.heap.DictOfH (di X.prog X.w) a (gZ xs):=⟨o,es,ep,ho,hx,hda,Ta r,λx hx=>by
  obtain⟨y,hy,rfl⟩:=wY.mp hx;exact I.nK (hk y hy),by rw[zk];exact nd⟩
 have lk:=zAI xs k;rw[hl]at lk;cases e2:atKey (gZ xs) k with
 | none=>rw[e2]at lk;cases lk
 | some p =>
  rw[e2]at lk;have:p.2=Value.ref l:=wP lk;obtain⟨p1,p2⟩:=p;have:p2=Value.ref l:=this;subst this;exact wpAny_getItem_heap (knd:=di X.prog X.w) (show A.units+1+1<WI by omega) (I.nK hb) dd e2 (h _ (I.tok _))
theorem zvk(hu:X.A.units+4<WI)(ho:PE X o td)(hi:PE X i ty)(hs:OV i):PE X (.Subscript o i pos) (Dw X.K td ty):=by
 intro pins s σ H Q I h;refine zx6 PySem.F.slot_dict_getitem.lookup hs (aH (ho pins s σ H _ I h) λu s1 ⟨x,H1,I1,rx,q1⟩=>aH (hi pins s1 σ H1 _ I1 q1) λiv s2 ⟨y,H2,I2,ry,a,b,ep,xs,k,l,ex,ey,e,hk,hb,hl,q2⟩=>?_);subst ex ey;obtain rfl:u=Value.ref a:=rx;obtain rfl:iv=Value.ref b:=ry;obtain⟨_,_,_,od,es,g1,g2,_,_⟩:=I2.Ho e;exact⟨⟨od,g1,g2.1⟩,Tu hu I2 e hk hb hl λs3 I3=>⟨.ref l,H2,I3,rfl,q2⟩⟩
end
section
variable{K:wb}{σ : St}{H:Hp}{Q:VK}{td ty:TE}{ta:TA}
theorem X_(h:ta σ H λvs H1=>Nf K vs H1 Q):Md K ta σ H Q:=h
theorem UW(h:td σ H λx H1=>ty σ H1 λy H2=>∃a b ep xs k l,x=.ref a/\y=.ref b/\H2 a=some (gE a ep xs)/\v_ K H2 xs/\Is K H2 (.ref b) (TZ k)/\lJ xs k=some l/\Q (.ref l) H2):Dw K td ty σ H Q:=h
end
end L2
namespace G
open PySem PySem.Spec PyProof.Rows L2 GM
local macro_rules | `(tactic| wtm_at "sc")=>`(tactic| exact ⟨rfl,rfl,rfl,by decide +kernel,rfl,by decide +kernel,by decide +kernel⟩)
def top(i:Nat):ve:=Ve.main.body.getD i (.Pass ⟨0,0,0,0⟩)
abbrev CO:ve:=top 14
abbrev A_:List Str:=["thing"]
abbrev uP:=A_
theorem zqN:aS A_ uP (aA CO):=by wtm_at "sc"
abbrev DM:ve:=top 15
abbrev La:List Str:=["one","other","rest"]
abbrev zd:List Str:=["one","other"]
theorem uV:aS La zd (aA DM):=by wtm_at "sc"
abbrev Ak:ve:=top 16
abbrev Ce:List Str:=["thing"]
abbrev uZ:=Ce
theorem zo3:aS Ce uZ (aA Ak):=by wtm_at "sc"
abbrev B5:ve:=top 17
abbrev Oc:List Str:=["one","other","shared","top","divisor"]
abbrev yq:List Str:=["one","other"]
theorem tG:aS Oc yq (aA B5):=by wtm_at "sc"
abbrev z_:ve:=top 18
abbrev A4:List Str:=["one","other"]
abbrev ya:=A4
theorem Tn:aS A4 ya (aA z_):=by wtm_at "sc"
abbrev Bs:ve:=top 19
abbrev Ip:List Str:=["one","other","first","second"]
abbrev yb:List Str:=["one","other"]
theorem DT:aS Ip yb (aA Bs):=by wtm_at "sc"
abbrev DQ:ve:=top 20
abbrev Kd:List Str:=["one","other","turned"]
abbrev tX:List Str:=["one","other"]
theorem OW:aS Kd tX (aA DQ):=by wtm_at "sc"
abbrev A9:ve:=top 21
abbrev CD:List Str:=["one","other"]
abbrev tV:=CD
theorem Z9:aS CD tV (aA A9):=by wtm_at "sc"
abbrev Dq:ve:=top 26
abbrev A5:List Str:=["a"]
abbrev yO:=A5
theorem Z0:aS A5 yO (aA Dq):=by wtm_at "sc"
abbrev DP:ve:=top 27
abbrev BL:List Str:=["b"]
abbrev uS:=BL
theorem Y7:aS BL uS (aA DP):=by wtm_at "sc"
abbrev CH:ve:=top 28
abbrev C6:List Str:=["a","b"]
abbrev zg:=C6
theorem Uz:aS C6 zg (aA CH):=by wtm_at "sc"
abbrev Ab:ve:=top 29
abbrev Ar:List Str:=["thing"]
abbrev yL:=Ar
theorem UA:aS Ar yL (aA Ab):=by wtm_at "sc"
abbrev Bj:ve:=top 30
abbrev CT:List Str:=["rule"]
abbrev r8:=CT
theorem YD:aS CT r8 (aA Bj):=by wtm_at "sc"
abbrev BS:ve:=top 31
abbrev JA:List Str:=["rule","many","factor","shift","done"]
abbrev uO:List Str:=["rule","many"]
theorem mT:aS JA uO (aA BS):=by wtm_at "sc"
abbrev BG:ve:=top 32
abbrev BK:List Str:=["push","x"]
abbrev yp:=BK
theorem zpw:aS BK yp (aA BG):=by wtm_at "sc"
abbrev BE:ve:=top 36
abbrev Ec:List Str:=["thing"]
abbrev x_:=Ec
theorem zq3:aS Ec x_ (aA BE):=by wtm_at "sc"
abbrev yM:ve:=top 37
abbrev zx:List Str:=["thing"]
abbrev uL:=zx
theorem U6:aS zx uL (aA yM):=by wtm_at "sc"
abbrev DB:ve:=top 38
abbrev CB:List Str:=["rule","phases"]
abbrev zc:=CB
theorem zrs:aS CB zc (aA DB):=by wtm_at "sc"
abbrev B6:ve:=top 39
abbrev NT:List Str:=["phases","told","phase"]
abbrev uR:List Str:=["phases"]
theorem u7:aS NT uR (aA B6):=by wtm_at "sc"
abbrev yD:ve:=top 40
abbrev y9:List Str:=["phases","phase"]
abbrev yC:=y9
theorem UD:aS y9 yC (aA yD):=by wtm_at "sc"
abbrev yS:ve:=top 41
abbrev Ed:List Str:=["swarm","told","left","phase"]
abbrev yn:List Str:=["swarm"]
theorem oC:aS Ed yn (aA yS):=by wtm_at "sc"
abbrev sP:ve:=top 42
abbrev tI:List Str:=["worms","phases"]
abbrev y8:=tI
theorem Yw:aS tI y8 (aA sP):=by wtm_at "sc"
abbrev mw:ve:=top 43
abbrev oh:List Str:=["swarm","wait","phases","left","waves","wave","push","worm","anew"]
abbrev sZ:List Str:=["swarm"]
theorem iG:aS oh sZ (aA mw):=by wtm_at "sc"
abbrev Ef:ve:=top 45
abbrev Mr:List Str:=["swarm","many","rows","hour","stand","done","told"]
abbrev sU:List Str:=["swarm","many"]
theorem kg:aS Mr sU (aA Ef):=by wtm_at "sc"
abbrev Ej:ve:=top 46
abbrev Ot:List Str:=["swarm","many","rows","last"]
abbrev u0:List Str:=["swarm","many"]
theorem Di:aS Ot u0 (aA Ej):=by wtm_at "sc"
abbrev Bz:ve:=top 48
abbrev C4:List Str:=["swarm"]
abbrev rX:=C4
theorem Ui:aS C4 rX (aA Bz):=by wtm_at "sc"
abbrev oI:ve:=top 49
abbrev w_:List Str:=["swarm","rows","sizes","places"]
abbrev yg:List Str:=["swarm"]
theorem uF:aS w_ yg (aA oI):=by wtm_at "sc"
abbrev rY:ve:=top 50
abbrev Cu:List Str:=["rule","size","phases","turn","wait","push","told"]
abbrev y7:List Str:=["rule","size","phases","turn"]
theorem zh:aS Cu y7 (aA rY):=by wtm_at "sc"
abbrev Co:ve:=top 51
abbrev Pj:List Str:=["rule","sizes","places","told","turn","size"]
abbrev uW:List Str:=["rule","sizes","places"]
theorem sQ:aS Pj uW (aA Co):=by wtm_at "sc"
abbrev CF:ve:=top 52
abbrev CK:List Str:=["rule","sizes","places"]
abbrev uJ:=CK
theorem zlj:aS CK uJ (aA CF):=by wtm_at "sc"
abbrev CQ:ve:=top 53
abbrev Le:List Str:=["rule","sizes","places","told","rows","turn"]
abbrev sL:List Str:=["rule","sizes","places"]
theorem nT:aS Le sL (aA CQ):=by wtm_at "sc"
abbrev sM:ve:=top 54
abbrev Cf:List Str:=["rule","sizes","places","rows","count"]
abbrev zo:List Str:=["rule","sizes","places"]
theorem AJ:aS Cf zo (aA sM):=by wtm_at "sc"
abbrev p9:ve:=top 55
abbrev uI:List Str:=["rule","sizes","places","steps"]
abbrev u9:List Str:=["rule","sizes","places"]
theorem O1:aS uI u9 (aA p9):=by wtm_at "sc"
abbrev tE:ve:=top 56
abbrev AU:List Str:=["rule","sizes","factor","noughts"]
abbrev tN:List Str:=["rule","sizes"]
theorem Dc:aS AU tN (aA tE):=by wtm_at "sc"
abbrev t9:ve:=top 59
abbrev DL:List Str:=["rule","sizes","both","gap"]
abbrev tQ:List Str:=["rule","sizes"]
theorem Ap:aS DL tQ (aA t9):=by wtm_at "sc"
abbrev yN:ve:=top 60
abbrev tf:List Str:=["both","places","of_place","of_shift"]
abbrev y_:=tf
theorem Zz:aS tf y_ (aA yN):=by wtm_at "sc"
abbrev Ax:ve:=top 61
abbrev NV:List Str:=["both","places","many","push"]
abbrev yh:List Str:=["both","places","many"]
theorem OQ:aS NV yh (aA Ax):=by wtm_at "sc"
abbrev DW:ve:=top 62
abbrev AN:List Str:=["rule","sizes","places","many"]
abbrev tH:=AN
theorem Uc:aS AN tH (aA DW):=by wtm_at "sc"
abbrev Ea:ve:=top 63
abbrev PB:List Str:=["both","places","many","of_place","of_shift","done"]
abbrev sx:List Str:=["both","places","many"]
theorem nz:aS PB sx (aA Ea):=by wtm_at "sc"
abbrev zt:ve:=top 64
abbrev DD:List Str:=["rule","sizes","places","many","count","mean"]
abbrev tS:List Str:=["rule","sizes","places","many"]
theorem Bb:aS DD tS (aA zt):=by wtm_at "sc"
abbrev rW:ve:=top 65
abbrev uX:List Str:=["rule","sizes"]
abbrev yX:=uX
theorem Z3:aS uX yX (aA rW):=by wtm_at "sc"
abbrev sT:ve:=top 66
abbrev Df:List Str:=["rule","sizes","places","way"]
abbrev uM:List Str:=["rule","sizes","places"]
theorem Np:aS Df uM (aA sT):=by wtm_at "sc"
abbrev DE:ve:=top 67
abbrev Kf:List Str:=["rule","sizes","places","both","ahead","count"]
abbrev uD:List Str:=["rule","sizes","places"]
theorem nW:aS Kf uD (aA DE):=by wtm_at "sc"
abbrev yu:ve:=top 69
abbrev Ee:List Str:=["swarm","rounds","both","later","now","phases"]
abbrev sC:List Str:=["swarm","rounds"]
theorem pJ:aS Ee sC (aA yu):=by wtm_at "sc"
abbrev CL:ve:=top 70
abbrev Jv:List Str:=["swarm","rounds","glows","first","then"]
abbrev u_:List Str:=["swarm","rounds","glows"]
theorem Bi:aS Jv u_ (aA CL):=by wtm_at "sc"
abbrev AR:ve:=top 71
abbrev ME:List Str:=["swarm","both"]
abbrev za:List Str:=["swarm"]
theorem Kl:aS ME za (aA AR):=by wtm_at "sc"
abbrev A8:ve:=top 72
abbrev ON:List Str:=["swarm","count","told"]
abbrev yl:List Str:=["swarm"]
theorem oF:aS ON yl (aA A8):=by wtm_at "sc"
abbrev AD:ve:=top 73
abbrev Nt:List Str:=["hour","swarm","both","rounds","glows"]
abbrev tO:List Str:=["hour","swarm"]
theorem sk:aS Nt tO (aA AD):=by wtm_at "sc"
abbrev BI:ve:=top 74
abbrev JO:List Str:=["swarm","rows","word","row","told","hour"]
abbrev yY:List Str:=["swarm"]
theorem lC:aS JO yY (aA BI):=by wtm_at "sc"
abbrev Ca:ve:=top 75
abbrev Pr:List Str:=["swarm","last"]
abbrev zq:List Str:=["swarm"]
theorem HR:aS Pr zq (aA Ca):=by wtm_at "sc"
abbrev AX:ve:=top 77
abbrev MK:List Str:=["_law_script","_law_k","_law_cell"]
abbrev rT:List Str:=["_law_script","_law_k"]
theorem sJ:aS MK rT (aA AX):=by wtm_at "sc"
abbrev Br:ve:=top 78
abbrev J_:List Str:=["_law_pen_here","_law_many","_law_drawn","_law_mixed"]
abbrev uU:List Str:=["_law_pen_here","_law_many"]
theorem tm:aS J_ uU (aA Br):=by wtm_at "sc"
abbrev Dk:ve:=top 79
abbrev IQ:List Str:=["_law_top","_law_bottom","_law_one","_law_other"]
abbrev tM:List Str:=["_law_top","_law_bottom"]
theorem nZ:aS IQ tM (aA Dk):=by wtm_at "sc"
abbrev DX:ve:=top 80
abbrev CN:List Str:=["_law_one","_law_other"]
abbrev yk:=CN
theorem zqF:aS CN yk (aA DX):=by wtm_at "sc"
abbrev sD:ve:=top 81
abbrev CY:List Str:=["_law_caught","_law_some","_law_found"]
abbrev yU:List Str:=["_law_caught"]
theorem kX:aS CY yU (aA sD):=by wtm_at "sc"
abbrev ly:ve:=top 82
abbrev mM:List Str:=["_law_rule","_law_sizes","_law_places","_law_a","_law_under_a","_law_b","_law_under_b","_law_bottom","_law_one","_law_now","_law_waits","_law_rows","_law_size","_law_rise","_law_turn"]
abbrev u5:List Str:=["_law_rule","_law_sizes","_law_places"]
theorem eT:aS mM u5 (aA ly):=by wtm_at "sc"
abbrev DZ:ve:=top 83
abbrev O_:List Str:=["_law_swarm","_law_found","e"]
abbrev rS:List Str:=["_law_swarm"]
theorem oO:aS O_ rS (aA DZ):=by wtm_at "sc"
abbrev B1:ve:=top 84
abbrev IS:List Str:=["_law_pen_here","_law_a","_law_b"]
abbrev tD:List Str:=["_law_pen_here"]
theorem yG:aS IS tD (aA B1):=by wtm_at "sc"
abbrev Cn:ve:=top 85
abbrev HP:List Str:=["_law_rule","_law_sizes","_law_low_here","_law_high","_law_factor","_law_rest"]
abbrev u4:List Str:=["_law_rule","_law_sizes"]
theorem nS:aS HP u4 (aA Cn):=by wtm_at "sc"
abbrev Dz:ve:=top 86
abbrev Om:List Str:=["_law_pen_here","_law_sizes","_law_place","_law_left","_law_found"]
abbrev tY:List Str:=["_law_pen_here","_law_sizes","_law_place"]
theorem Ck:aS Om tY (aA Dz):=by wtm_at "sc"
abbrev CI:ve:=top 87
abbrev z9:List Str:=["_law_rule","_law_sizes","_law_found"]
abbrev sj:=z9
theorem UQ:aS z9 sj (aA CI):=by wtm_at "sc"
abbrev nC:ve:=top 88
abbrev zp:List Str:=["_law_script","_law_k","_law_pen_here","_law_rule","_law_first","_law_sizes","_law_place","_law_fits","_law_rests","_law_swarm","_law_rows","_law_top","_law_other"]
abbrev yr:List Str:=["_law_script"]
theorem gj:aS zp yr (aA nC):=by wtm_at "sc"
set_option genInjectivity false in
structure Ad where
 Gy:wg
 Fs:wE
 Ew:wg
 Em:wE
 Gj:wg
 Fe:wE
 plus:wg
 GZ:wE
 minus:wg
 GI:wE
 times:wg
 GK:wE
 over:wg
 GN:wE
 less:wg
 G4:wE
 Gk:wg
 Fd:wE
 Gs:wg
 Fv:wE
 Gf:wg
 Fm:wE
 GX:wg
 FQ:wE
 Hl:wg
 GO:wE
 G_:wg
 Gp:wE
 Gh:wg
 EX:wE
 GF:wg
 Fy:wE
 F0:wg
 ES:wE
 GJ:wg
 Fo:wE
 GB:wg
 Ft:wE
 GC:wg
 Fx:wE
 G7:wg
 Gg:wE
 F5:wg
 EU:wE
 l9:wg
 G1:wE
 GV:wg
 FO:wE
 behind:wg
 Gd:wE
 G5:wg
 FJ:wE
 laid:wg
 GU:wE
 EV:wg
 Ey:wE
 rH:wg
 Ge:wE
 Fg:wg
 EF:wE
 FU:wg
 ET:wE
 gR:wg
 GQ:wE
 GP:wg
 FY:wE
 F_:wg
 EZ:wE
 He:wg
 GA:wE
 GR:wg
 FH:wE
 G8:wg
 Gn:wE
 EM:wg
 Er:wE
 EI:wg
 Ep:wE
 Fu:wg
 EH:wE
 Fj:wg
 EB:wE
 FI:wg
 EO:wE
 FC:wg
 EG:wE
 EL:wg
 Eu:wE
 FR:wg
 EW:wE
 GW:wg
 FX:wE
 ER:wg
 Ez:wE
 Gu:wg
 Fp:wE
 Gq:wg
 Fq:wE
 Hi:wg
 GY:wE
 G2:wg
 FK:wE
 Gr:wg
 Fz:wE
 GS:wg
 FP:wE
 Gx:wg
 Fw:wE
 GL:wg
 Fn:wE
 F8:wg
 EY:wE
 Gw:wg
 FG:wE
 EJ:wg
 Eo:wE
 Ga:wg
 Fi:wE
 Gb:wg
 Ff:wE
 Es:wg
 El:wE
 law:wg
 G6:wE
 dQ:wg
 cP:wg
 rA:wg
 rD:wg
 rp:wg
 rE:wg
 rk:wg
 rq:wg
 rh:wg
 zL:wg
 cX:wg
 dJ:wg
 zD:wg
structure Dn(K:wb)(mg:Str->Option wf)(n:Str)(st:ve)(ps:List Str)(f:wg)(fd:wE):Prop where
 F:iS K n n st f fd
 g:mg n=some (.ref f)
 b:ko K fd ps []
section
variable{X:Cx}{x:Str}{f:wg}{fd:wE}{ps:List Str}{sp:Sp}{j k:Nat}{e:Expr}{es:List Expr}{t:TA}{pos pp:Pos}{st:ve}{CX:fv}
theorem nB{E:XK}(F:aO X.prog X.w X.K X.mg X.base CX k f fd ps sp)(hr:dm j X.A)(D:Dn X.K X.mg x st ps f fd)(hx:nE CX X E)(ha:PA X (e::es) t)(hj:k<=j:=by decide)(hg:Gl X x:=by exact rfl)
  (hdb:(x == ("__debug__" : Str))=false:=by decide) (he:w5 (e::es) X.env=(false,eval e X.env)::w5 es X.env:=by rfl) (hpl:(WV pos (w5 es X.env)).any (·.1)=false:=by rfl) :
  PE X (.Call (.Name x pp) (e::es) [] pos) (kN sp [] E t):=Pn F (hr.mono hj) hg D.g D.F.kp D.b .nil hx ha hdb he hpl
theorem au(F:aO X.prog X.w X.K X.mg X.base aT k f fd ps sp)(hr:dm j X.A)(D:Dn X.K X.mg x st ps f fd)(ha:PA X (e::es) t)(hj:k<=j:=by decide)(hg:Gl X x:=by exact rfl)
  (hdb:(x == ("__debug__" : Str))=false:=by decide) (he:w5 (e::es) X.env=(false,eval e X.env)::w5 es X.env:=by rfl) (hpl:(WV pos (w5 es X.env)).any (·.1)=false:=by rfl) :
  PE X (.Call (.Name x pp) (e::es) [] pos) (kN sp [] E0 t):=Pn F (hr.mono hj) hg D.g D.F.kp D.b .nil Sq ha hdb he hpl
theorem ar{ta:TE}{i:Int}{kd}(ha:PE X e ta):PE X (.Subscript e (.Constant (.int i) kd pp) pos) (kS (cK X.K) ta (tC (.int i))):=d5 dy ha az (λ_ _=>rfl)
theorem yK{K:wb}{ta:TE}{i:Int}{kd}(hr:fV X (cK K))(ha:PE X e ta):PE X (.Subscript e (.Constant (.int i) kd pp) pos) (kS (cK K) ta (tC (.int i))):=d5 hr ha az (λ_ _=>rfl)
theorem ay(i:Nat){te:TE}(hN:X.N.Nodup)(he:PE X e te)(hi:X.N[i]? = some x:=by exact rfl)(hx:Loc X.env.scope x:=by first | exact Or.inl rfl | exact Or.inr rfl)(hs:swapsWith e (some (.Name x pp)) pos.line X.env=pure false:=by rfl)(hf:X.fn x=true\/X.env.scope.names.lookup x=some .local:=by first | exact .inl rfl | exact .inr rfl | assumption) :
  PS X (.Assign [.Name x pp] e pos) (j9 te (fI i)):=YV hN hi hx he hs hf
end
structure Txt(K:wb)(mg:Str->Option wf)(a:Ad):Prop where
 zO:Dn K mg "is_whole" CO uP a.Gy a.Fs
 lT:Dn K mg "greatest_divisor" DM zd a.Ew a.Em
 rf:Dn K mg "is_number" Ak uZ a.Gj a.Fe
 fH:Dn K mg "plus" B5 yq a.plus a.GZ
 nI:Dn K mg "minus" z_ ya a.minus a.GI
 jt:Dn K mg "times" Bs yb a.times a.GK
 zZ:Dn K mg "over" DQ tX a.over a.GN
 fG:Dn K mg "less" A9 tV a.less a.G4
 FD:Dn K mg "is_factor" Dq yO a.Gk a.Fd
 FW:Dn K mg "is_shift" DP uS a.Gs a.Fv
 FA:Dn K mg "make_rule" CH zg a.Gf a.Fm
 Gm:Dn K mg "is_rule" Ab yL a.GX a.FQ
 lW:Dn K mg "bend" Bj r8 a.Hl a.GO
 nH:Dn K mg "pushes" BS uO a.G_ a.Gp
 zK:Dn K mg "pushed_by" BG yp a.Gh a.EX
 FT:Dn K mg "is_phase" BE x_ a.GF a.Fy
 Fh:Dn K mg "are_phases" yM uL a.F0 a.ES
 zM:Dn K mg "swarm_of" DB zc a.GJ a.Fo
 zQ:Dn K mg "greatest" B6 uR a.GB a.Ft
 FZ:Dn K mg "worms_at" yD yC a.GC a.Fx
 rm:Dn K mg "flocks" yS yn a.G7 a.Gg
 zH:Dn K mg "at_the_end" sP y8 a.F5 a.EU
 rG:Dn K mg "glow" mw sZ a.l9 a.G1
 zR:Dn K mg "history" Ef sU a.GV a.FO
 Gv:Dn K mg "behind" Ej u0 a.behind a.Gd
 zT:Dn K mg "is_laid" Bz rX a.G5 a.FJ
 rF:Dn K mg "laid" oI yg a.laid a.GU
 EC:Dn K mg "phases_behind" rY y7 a.EV a.Ey
 rl:Dn K mg "stands" Co uW a.rH a.Ge
 zG:Dn K mg "round_behind" CF uJ a.Fg a.EF
 Fb:Dn K mg "round_time" CQ sL a.FU a.ET
 zY:Dn K mg "tops" sM zo a.gR a.GQ
 lV:Dn K mg "is_free" p9 u9 a.GP a.FY
 lU:Dn K mg "round_map" tE tN a.F_ a.EZ
 zW:Dn K mg "still" t9 tQ a.He a.GA
 zU:Dn K mg "weighed" yN y_ a.GR a.FH
 zV:Dn K mg "led_on" Ax yh a.G8 a.Gn
 ED:Dn K mg "rounds_behind" DW tH a.EM a.Er
 Ex:Dn K mg "sums_of_places" Ea sx a.EI a.Ep
 EN:Dn K mg "rounds_time" zt tS a.Fu a.EH
 zF:Dn K mg "draws_freely" rW yX a.Fj a.EB
 E_:Dn K mg "stays_free" sT uM a.FI a.EO
 EK:Dn K mg "free_rounds" DE uD a.FC a.EG
 zE:Dn K mg "behind_rounds" yu sC a.EL a.Eu
 Fc:Dn K mg "behind_row" CL u_ a.FR a.EW
 Gi:Dn K mg "word_of" AR za a.GW a.FX
 EA:Dn K mg "glows_to_join" A8 yl a.ER a.Ez
 FN:Dn K mg "next_row" AD tO a.Gu a.Fp
 FV:Dn K mg "paper_of" BI yY a.Gq a.Fq
 rJ:Dn K mg "fate" Ca zq a.Hi a.GY
 F9:Dn K mg "_law_pen" AX rT a.G2 a.FK
 jq:Dn K mg "_law_draw" Br uU a.Gr a.Fz
 jr:Dn K mg "_law_low" Dk tM a.GS a.FP
 zP:Dn K mg "_law_plus" DX yk a.Gx a.Fw
 rg:Dn K mg "_law_kind" sD yU a.GL a.Fn
 zJ:Dn K mg "_law_round" ly u5 a.F8 a.EY
 zN:Dn K mg "_law_fate" DZ rS a.Gw a.FG
 Et:Dn K mg "_law_small_rule" B1 tD a.EJ a.Eo
 FE:Dn K mg "_law_still" Cn u4 a.Ga a.Fi
 zI:Dn K mg "_law_stood" Dz tY a.Gb a.Ff
 En:Dn K mg "_law_beside_right" CI sj a.Es a.El
 RN:Dn K mg "law" nC yr a.law a.G6
 z_ValueError:mg "ValueError"=none
 z_abs:mg "abs"=none
 z_all:mg "all"=none
 z_any:mg "any"=none
 z_bool:mg "bool"=none
 z_dict:mg "dict"=none
 z_enumerate:mg "enumerate"=none
 z_int:mg "int"=none
 z_isinstance:mg "isinstance"=none
 z_len:mg "len"=none
 z_list:mg "list"=none
 z_range:mg "range"=none
 z_sum:mg "sum"=none
 z_tuple:mg "tuple"=none
 z_zip:mg "zip"=none
 F6:mg "NoStand"=some (.ref a.dQ)
 F7:mg "TooLong"=some (.ref a.cP)
 RC:mg "NoBack"=some (.ref a.rA)
 RG:mg "NoRow"=some (.ref a.rD)
 RB:mg "NoText"=some (.ref a.rp)
 RE:mg "NoWeb"=some (.ref a.rE)
 Ru:mg "NoSwarm"=some (.ref a.rk)
 RA:mg "NoRule"=some (.ref a.rq)
 Rn:mg "NoNumber"=some (.ref a.rh)
 Rl:mg "GlowError"=some (.ref a.zL)
 Rw:VP K a.dQ pI "ValueError.__new__"=true
 aaa:V7 K (.ref a.dQ) (.ref a.zL)=some true
 Rq:gv K a.dQ
 PM:wC K (.ref a.dQ) (.ref a.dQ)=some true
 PR:wC K (.ref a.dQ) (.ref a.cP)=some false
 P0:wC K (.ref a.dQ) (.ref a.rA)=some false
 Q_:wC K (.ref a.dQ) (.ref a.rD)=some false
 PY:wC K (.ref a.dQ) (.ref a.rp)=some false
 Rb:wC K (.ref a.dQ) (.ref a.rE)=some false
 PK:wC K (.ref a.dQ) (.ref a.rk)=some false
 PZ:wC K (.ref a.dQ) (.ref a.rq)=some false
 PF:wC K (.ref a.dQ) (.ref a.rh)=some false
 Rt:wC K (.ref a.dQ) (.type "ValueError")=some true
 Rx:VP K a.cP pI "ValueError.__new__"=true
 Ry:V7 K (.ref a.cP) (.ref a.zL)=some true
 Rr:gv K a.cP
 PL:wC K (.ref a.cP) (.ref a.dQ)=some false
 PH:wC K (.ref a.cP) (.ref a.cP)=some true
 PX:wC K (.ref a.cP) (.ref a.rA)=some false
 Rc:wC K (.ref a.cP) (.ref a.rD)=some false
 P_:wC K (.ref a.cP) (.ref a.rp)=some false
 Rf:wC K (.ref a.cP) (.ref a.rE)=some false
 PN:wC K (.ref a.cP) (.ref a.rk)=some false
 PV:wC K (.ref a.cP) (.ref a.rq)=some false
 PD:wC K (.ref a.cP) (.ref a.rh)=some false
 Rv:wC K (.ref a.cP) (.type "ValueError")=some true
 dH:mg "NOUGHT"=some (.ref a.cX)
 eB:∀H:Hp,aU K H a.cX [.int 0,.int 1]
 eJ:mg "ONE"=some (.ref a.dJ)
 rL:∀H:Hp,aU K H a.dJ [.int 1,.int 1]
 PQ:mg "GREATEST_FACTOR"=some (.ref a.zD)
 PU:∀H:Hp,aU K H a.zD [.int 4,.int 1]
 Ra:∃t,mg "FACTOR_BOTTOM"=some (.int 8 t)
 Rg:∃t,mg "SHIFT_BOTTOM"=some (.int 12 t)
 Ri:∃t,mg "MOST_WORMS"=some (.int 8 t)
 Rh:∃t,mg "PHASE_BOTTOM"=some (.int 60 t)
 Rj:∃t,mg "MOST_FREE"=some (.int 30 t)
def Iq(a:Ad)(C:wf)(w:Str):Prop:=(C=.ref a.dQ/\w="stand")\/(C=.ref a.cP/\w="long")
end G
open L2 GM in
local macro_rules | `(tactic| wtm_at "is")=>`(tactic| first
 | assumption
 | exact bS.mpr rfl
 | exact kY.mpr rfl
 | exact nh.mpr rfl
 | exact cU.mpr rfl
 | exact Is.RW (by assumption) (by wtm_at "same")
 | exact Is.thruN (by assumption) (by wtm_at "keep")
 | exact Is.lZ (by assumption) (by wtm_at "keep")
 | ((with_reducible apply is_tupAt);(focus assumption);(focus wtm_at "isall");wtm_at "same")
 | ((with_reducible apply is_lstAt);(focus assumption);(focus wtm_at "isall");wtm_at "same")
 | ((with_reducible apply is_dctAt);(focus assumption);wtm_at "same")
 | exact dP 0 (G.Txt.eB (by assumption) _) rfl rfl | exact dP 1 (G.Txt.rL (by assumption) _) rfl rfl | exact dP 4 (G.Txt.PU (by assumption) _) rfl rfl
 | fail "is")
open L2 GM in
local macro_rules | `(tactic| wtm_at "isall")=>`(tactic| first
 | exact ao.nil
 | exact ao.cons (by wtm_at "is") (by wtm_at "isall")
 | fail "isall")
open L2 GM in
local macro_rules | `(tactic| wtm_at "ne")=>`(tactic| first
 | assumption
 | (apply We;assumption))
/- a list that rH at an address -/
open L2 GM in
local macro_rules | `(tactic| wtm_at "lst")=>`(tactic| first
 | assumption
 | exact ah.at (by assumption) (by wtm_at "lst")
 | exact Exc.at (by assumption) (by wtm_at "ne") (by wtm_at "lst")
 | fail "lst")
open L2 GM in
local macro_rules | `(tactic| wtm_at "same")=>`(tactic| first
 | assumption
 | exact ah.refl _
 | exact ah.back (by assumption) (by wtm_at "same")
 | fail "same")
open L2 GM in
local macro_rules | `(tactic| wtm_at "keep")=>`(tactic| first
 | assumption
 | exact br.refl _
 | exact ah.keep (by assumption)
 | exact br.back (by assumption) (by wtm_at "keep")
 | exact br.back (ah.keep (by assumption)) (by wtm_at "keep")
 | fail "keep")
open L2 GM in
local macro_rules | `(tactic| wtm_at "exc")=>`(tactic| first
 | assumption
 | exact Exc.refl _ _
 | exact Exc.back (by assumption) (by wtm_at "exc")
 | exact Exc.back (ah.exc (by assumption)) (by wtm_at "exc")
 | fail "exc")
open L2 GM in
local macro_rules | `(tactic| wtm_at "sqf")=>`(tactic| first
 | assumption
 | exact br.NL (by wtm_at "keep") (by assumption)
 | fail "sqf")
/- how great -/
open L2 GM in
local macro_rules | `(tactic| wtm_at "bd")=>`(tactic| first
 | assumption
 | exact Bd.mk (n:=128) (by decide)
 | exact Bd.mono (m:=128) ⟨by decide⟩ (by decide)
 | exact ag.t (by assumption)
 | exact ag.b (by assumption)
 | exact Bd.lY (by omega) (by omega)
 | (apply Bd.neg;wtm_at "bd")
 | (apply Bd.mul;(focus wtm_at "bd");wtm_at "bd")
 | (apply Bd.add;(focus wtm_at "bd");wtm_at "bd")
 | (apply Bd.sub;(focus wtm_at "bd");wtm_at "bd"))
open L2 GM PySem in
local macro_rules | `(tactic| wtm_at "mulok")=>`(tactic| first
 | exact Xj (by decide)
 | exact XJ (by decide)
 | exact Xj (intBits_le_64 (by omega) (by omega))
 | exact XJ (intBits_le_64 (by omega) (by omega))
 | (apply L2.RT;(focus wtm_at "bd");(focus wtm_at "bd");(focus decide);decide))
open L2 GM PySem in
local macro_rules | `(tactic| wtm_at "side")=>`(tactic| first
 | assumption
 | decide
 | omega
 | wtm_at "mulok"
 | (refine And.intro ?_ ?_<;>wtm_at "side")
 | wtm_at "bd")
open L2 GM in
local macro_rules | `(tactic| wtm_at "gs")=>`(tactic| first
 | wtm_at "sq"
 | with_reducible (first | refine zzP ?_ | refine zzL ?_ | refine zAN ?_ | refine zBt ?_)
 | ((with_reducible apply Ek);(focus rfl))
 | with_reducible (first | refine zCp ?_ | refine TV ?_ | refine zzR ?_ | refine zyc ?_ | refine LW ?_ | refine Mi ?_ | refine YE ?_ | refine TF ?_ | refine zAJ ?_ | refine Zd ?_ | refine SR ?_ | refine zx8 ?_)
 | ((with_reducible apply BX);(focus wtm_at "side"))
 | with_reducible (first | refine Uw ?_ | refine zBS ?_ | refine TQ ?_ | refine zAj ?_ | refine zAT ?_ | refine Z1 ?_ | refine kP ?_ | refine lP ?_)
 | with_reducible refine zyj (λ_=>?_) (λ_=>?_)
 | with_reducible refine zwR (λ_=>?_) (λ_=>?_)
 | with_reducible refine Zr (λ_=>?_) (λ_=>?_)
 | with_reducible refine Ua (λ_=>?_) (λ_=>?_)
 | with_reducible (first | refine SH ?_ | refine zB3 ?_ | refine Yj ?_ | refine zxX ?_ | refine ZH ?_ | refine zzb ?_ | refine SS ?_ | refine R_ ?_ | refine zyY ?_ | refine Ul ?_ | refine Uq ?_ | refine Ub ?_ | refine zAF ?_ | refine SI ?_ | refine DF ?_ | refine Cb ?_ | refine Jr ?_ | refine Uy ?_)
 | ((with_reducible apply Um);(focus wtm_at "is"))
 | ((with_reducible apply zx9);(focus wtm_at "is"))
 | ((with_reducible apply g6);(focus(apply aI.of;wtm_at "lst"));(focus rfl))
 | ((with_reducible apply Ei);(focus assumption);(focus rfl);intro hN eN lN;dsimp only[Int.reduceToNat,xX,xY]at lN)
 | ((with_reducible apply zvm);(focus wtm_at "is"))
 | ((with_reducible apply Jo);(focus wtm_at "is"))
 | ((with_reducible apply Td);(focus wtm_at "is"))
 | ((with_reducible apply ZV);(focus wtm_at "is"))
 | dsimp only[xX,xY])
/- one statement behind another: what follows rH behind a name -/
set_option hygiene false in
open L2 GM in
local macro_rules | `(tactic| wtm_at "sq")=>`(tactic| with_reducible refine Ux (λ tl_ htl_=>?_))
set_option hygiene false in
open L2 GM in
local macro_rules | `(tactic| wtm_at "tl")=>`(tactic| ((with_reducible refine yJ.go (by assumption) ?_); (try clear htl_ tl_)))
/- how great a number is -/
open L2 GM in
local macro_rules | `(tactic| wtm_at "bdr0")=>`(tactic| first
 | assumption
 | exact ag.zero
 | exact ag.one
 | exact ag.four
 | (apply ag.add;(focus wtm_at "bdr0");wtm_at "bdr0")
 | (apply ag.sub;(focus wtm_at "bdr0");wtm_at "bdr0")
 | (apply ag.mul;(focus wtm_at "bdr0");wtm_at "bdr0"))
open L2 GM in
local macro_rules | `(tactic| wtm_at "bdr")=>`(tactic| first
 | assumption
 | (apply ag.mono;(focus wtm_at "bdr0");(first | decide | omega)))
/- .. with new tuples,lists,dicts -/
open L2 GM in
local macro_rules | `(tactic| wtm_at "ga1")=>`(tactic| first
 | wtm_at "gs"
 | ((with_reducible apply bX);(focus(simp only[vR,QY];decide));(focus wtm_at "isall");intro _ _ _ _)
 | ((with_reducible apply d9);(focus(simp only[vR,QY];decide));intro _ _ _ _ _)
 | ((with_reducible apply mj);(focus wtm_at "lst");(focus wtm_at "lst");(focus(simp only[wS,vR,QY];decide));intro _ _ _ _ _))
local macro_rules | `(tactic| wtm_at "ga")=>`(tactic| repeat' (first | wtm_at "ga1" | wtm_at "tl"))
local macro_rules | `(tactic| wtm_at "gg")=>`(tactic| repeat' (first | wtm_at "gs" | wtm_at "tl"))
local macro_rules | `(tactic| wtm_at "gt")=>`(tactic| repeat' (wtm_at "gs"))
open L2 GM in
local macro_rules | `(tactic| wtm_at "bd128")=>`(tactic| first
 | exact Bd.mono (m:=128) ⟨by decide⟩ (by decide)
 | exact(Bd.lY (by omega) (by omega)).mono (by decide))
open L2 GM in
local macro_rules | `(tactic| wtm_at "gs")=>`(tactic| first
 | with_reducible (first | refine S_ ?_ | refine Uh ?_ | refine zu3 ?_ | refine Sr ?_ | refine zvI ?_ | refine Ze ?_ | refine ZY ?_)
 | ((with_reducible apply TX);(focus wtm_at "ecls");(focus wtm_at "kit"))
 | ((with_reducible apply zvc);(focus wtm_at "ecls");(focus wtm_at "kit"))
 | with_reducible (first | refine Tj ?_ | refine B9 ?_ | refine zv7 ?_ | refine Y6 ?_ | refine ZC ?_ | refine Se ?_ | refine Y3 ?_ | refine zuN ?_ | refine zup ?_ | refine YX ?_ | refine Tg ?_ | refine X_ ?_ | refine UW ?_ | refine U8 ?_ | refine UY ?_ | refine SJ ?_ | refine YG ?_ | refine YA ?_ | refine Y8 ?_ | refine YB ?_ | refine zyN ?_ | refine zvv ?_)
 | ((with_reducible apply zu5);(focus wtm_at "is"))
 | ((with_reducible apply TR);(focus wtm_at "is"))
 | ((with_reducible apply zyt);(focus wtm_at "is");intro _ _)
 | ((with_reducible apply zyy);(focus wtm_at "is");intro _ _)
 | ((with_reducible apply zwY);(focus wtm_at "is");intro _ _ _ _)
 | ((with_reducible apply g6);(focus(apply aI.of;wtm_at "lst"));(focus rfl))
 | ((with_reducible apply YU);(focus wtm_at "lst");(focus omega);(focus omega);intro _ _)
 | ((with_reducible apply zxZ);(focus wtm_at "lst");(focus omega);(focus omega);intro _ _)
 | ((with_reducible apply C9);(focus wtm_at "is");(focus wtm_at "is"))
 | ((with_reducible apply Hx);(focus wtm_at "is");(focus wtm_at "is")))
set_option hygiene false in
local macro_rules | `(tactic| wtm_at "b1")=>`(tactic| (focus (intro vs H Q E h; obtain ⟨_,rfl,_⟩:=h; rfl)); (intro cdv A outer s H vs Q E hr h; obtain ⟨x0,rfl,h⟩:=h; have hu:=hr.units))
set_option hygiene false in
local macro_rules | `(tactic| wtm_at "b2")=>`(tactic| (focus (intro vs H Q E h; obtain ⟨_,_,rfl,_⟩:=h; rfl)); (intro cdv A outer s H vs Q E hr h; obtain ⟨x0,x1,rfl,h⟩:=h; have hu:=hr.units))
set_option hygiene false in
local macro_rules | `(tactic| wtm_at "b3")=>`(tactic| (focus (intro vs H Q E h; obtain ⟨_,_,_,rfl,_⟩:=h; rfl)); (intro cdv A outer s H vs Q E hr h; obtain ⟨x0,x1,x2,rfl,h⟩:=h; have hu:=hr.units))
set_option hygiene false in
local macro_rules | `(tactic| wtm_at "b4")=>`(tactic| (focus (intro vs H Q E h; obtain ⟨_,_,_,_,rfl,_⟩:=h; rfl)); (intro cdv A outer s H vs Q E hr h; obtain ⟨x0,x1,x2,x3,rfl,h⟩:=h; have hu:=hr.units))
set_option hygiene false in
local macro_rules | `(tactic| wtm_at "cl")=>`(tactic| ((clear hu); (try clear hgd); (first | dsimp only [gu,n_] | dsimp only [gu] | skip)))
local macro_rules | `(tactic| k_few)=>`(tactic| wtm_at "gg")
local macro_rules | `(tactic| o_head $e)=>`(tactic| (wtm_at "gg"; refine $e))
open L2 GM G in
local macro_rules | `(tactic| wtm_at "ecls")=>`(tactic| first | exact Txt.Rq (by assumption) | exact Txt.Rr (by assumption))
open L2 GM G in
local macro_rules | `(tactic| wtm_at "kit")=>`(tactic| first | exact Txt.PM (by assumption) | exact Txt.PR (by assumption) | exact Txt.P0 (by assumption) | exact Txt.Q_ (by assumption) | exact Txt.PY (by assumption) | exact Txt.Rb (by assumption) | exact Txt.PK (by assumption) | exact Txt.PZ (by assumption) | exact Txt.PF (by assumption) | exact Txt.Rt (by assumption) | exact Txt.PL (by assumption) | exact Txt.PH (by assumption) | exact Txt.PX (by assumption) | exact Txt.Rc (by assumption) | exact Txt.P_ (by assumption) | exact Txt.Rf (by assumption) | exact Txt.PN (by assumption) | exact Txt.PV (by assumption) | exact Txt.PD (by assumption) | exact Txt.Rv (by assumption))
namespace G
open PySem PySem.Spec PyProof.Rows L2 GM
section
variable{P:wO}{w:wR}{K:wb}{mg:Str->Option wf}{base:wM}{a:Ad}
def isInt:wz->Bool
 | .int _=>true
 | _=>false
def Kv(K:wb):Sp:=λvs H Q _=>∃x0,vs=[x0] /\ ∃d,Is K H x0 d/\Q (.bl (isInt d)) H
theorem Zm{K:wb}{H:Hp}{Q:VK}{E:XK}{v:V}{d:wz}(h:Is K H v d)(q:Q (.bl (isInt d)) H):Kv K [v] H Q E:=⟨v,rfl,d,h,q⟩
local macro_rules | `(tactic| wtm_at "gs")=>`(tactic| ((with_reducible apply Zm); (focus wtm_at "is")))
theorem NW(T:Txt K mg a):aO P w K mg base aT 1 a.Gy a.Fs uP (Kv K):=by
 refine T.zO.F.ok zqN ?_ ?_;wtm_at "b1";refine⟨_,(av (aF (fL (bQ (show aY _ (.builtin "isinstance") (jf K)from yH) rfl T.z_isinstance fB (ae (pv 0) (ae (k9 (v:=.ty "int") rfl T.z_int Zs rfl) af))) (gn (m_ (bQ (show aY _ (.builtin "isinstance") (jf K)from yH) rfl T.z_isinstance fB (ae (pv 0) (ae (k9 (v:=.ty "bool") rfl T.z_bool zyI rfl) af)))))))),?_⟩;wtm_at "cl";rw[show start A_ [x0]=[some x0]from rfl];obtain⟨d,hd,q⟩:=h;k_few
 all_goals(cases d<;>simp_all [isInt,BM,Cd])
def MM(K:wb):Sp:=λvs H Q _=>∃x0 x1,vs=[x0,x1] /\ ∃a b:Int,x0=.int a/\x1=.int b/\0<=a/\0<=b/\Q (.int (vk a b:Nat)) H
theorem pR{K:wb}{H:Hp}{Q:VK}{E:XK}{a b:Int}(ha:0<=a)(hb:0<=b)(q:Q (.int (vk a b:Nat)) H):MM K [.int a,.int b] H Q E:=⟨_,_,rfl,a,b,rfl,rfl,ha,hb,q⟩
theorem pD(T:Txt K mg a):aO P w K mg base aT 1 a.Ew a.Em zd (MM K):=by
 refine T.lT.F.ok uV ?_ ?_;wtm_at "b2"
 refine⟨_,(ak (lD vG (cc (show aJ _ (wT .NotEq) (ee K)from gJ hu) (pv 1) az (bA _)) (ak (ay 2 uV.nd (aC fW (pv 0) (pv 1)))
     (ak (ay 0 uV.nd (pv 1))
     (av (ay 1 uV.nd (pv 2))))))
     (av (aF (pv 0)))),?_⟩
 wtm_at "cl";rw[show start La [x0,x1]=[some x0,some x1,none]from rfl];obtain⟨a',b',rfl,rfl,ha,hb,q⟩:=h;refine zBc ?_;refine Mj (λσ H'=>∃(x y:Int)(r:Option V),σ = [some (.int x),some (.int y),r]/\0<=x/\0<=y/\vk x y=vk a' b'/\H'=H) (λσ=>(Mu σ 1).toNat) ⟨a',b',none,rfl,ha,hb,rfl,rfl⟩ ?_;rintro σ H' ⟨x,y,r,rfl,hx,hy,hg,rfl⟩;k_few
 . refine Mp ?_
   k_few;have h1:=qZ x (show y≠0 by assumption);have h2:=qH x (show 0<y by omega);refine⟨?_,_,_,_,rfl,hy,h1,?_,rfl⟩
   . show(x % y).toNat<y.toNat
     omega
   . rw[<- hg];exact Ng (by omega) hx
 . rename_i h0
   subst h0
   have e:((vk a' b':Nat):Int)=x:=by
     rw[<- hg,Qo];omega
   rw[e]at q;exact q
def bN:wz->Bool
 | .tuple [.int p,.int q]=>gf p q
 | _=>false
theorem BA(r:Rat):bN (N r)=true:=KP r
theorem Yg{d:wz}(h:gS d=false):bN d=false:=by
 cases d<;>first | rfl | (simp[gS]at h)
theorem zsQ{ds:List wz}(h:¬ ds.length=2):bN (.tuple ds)=false:=by
 match ds with
 | []=>rfl
 | [_]=>simp[bN]
 | [_,_]=>exact absurd rfl h
 | _::_::_::_=>simp[bN]
theorem UE{d e:wz}(h:isInt d=false):bN (.tuple [d,e])=false:=by
 cases d<;>first | rfl | (simp[isInt]at h)
theorem znx{d e:wz}(h:isInt e=false):bN (.tuple [d,e])=false:=by
 cases d<;>cases e<;>first | rfl | (simp[isInt]at h)
theorem Kz{d:wz} : isInt d=true ↔ ∃i,d=.int i:=by cases d<;>simp[isInt]
def Lw(K:wb):Sp:=λvs H Q _=>∃x0,vs=[x0] /\ ∃d,Is K H x0 d/\Q (.bl (bN d)) H
theorem Sm{K:wb}{H:Hp}{Q:VK}{E:XK}{v:V}{d:wz}(h:Is K H v d)(q:Q (.bl (bN d)) H):Lw K [v] H Q E:=⟨v,rfl,d,h,q⟩
local macro_rules | `(tactic| wtm_at "gs")=>`(tactic| ((with_reducible apply Sm); (focus wtm_at "is")))
theorem CC(T:Txt K mg a):aO P w K mg base aT 2 a.Gj a.Fe uZ (Lw K):=by
 refine T.rf.F.ok zo3 ?_ ?_;wtm_at "b1"
 refine⟨_,(ak (bZ (PW.pt (kR (dS (cR (bQ (show aY _ (.builtin "isinstance") (jf K)from yH) rfl T.z_isinstance fB (ae (pv 0) (ae (k9 (v:=.ty "tuple") rfl T.z_tuple eF rfl) af))))) (lE (cc (show aJ _ (wT .NotEq) (ee K)from gJ hu) (bQ (show aY _ (.builtin "len") (dg K)from fg) rfl T.z_len fe (ae (pv 0) af)) az (bA _))))) (av (aF iU)) b9)
     (ak (bZ (PW.pt (kR (dS (cR (au (NW T) hr T.zO (ae (ar (pv 0)) af)))) (lE (dS (cR (au (NW T) hr T.zO (ae (ar (pv 0)) af))))))) (av (aF iU)) b9)
     (av (aF (fL (dA NH (ar (pv 0)) az (bA _)) (gn (dA (show aJ _ (wT .Eq) (cN K)from dk hu) (au (pD T) hr T.lT (ae (bQ mG rfl T.z_abs mS (ae (ar (pv 0)) af)) (ae (ar (pv 0)) af))) az (bA _)))))))),?_⟩
 wtm_at "cl";rw[show start Ce [x0]=[some x0]from rfl];obtain⟨d,hd,q⟩:=h;k_few
 . rename_i e
   rw[Yg e]at q;exact q
 . rename_i e
   obtain⟨ds,rfl⟩:=NQ.mp e;refine nX hd ?_;k_few
   . rename_i e
     rw[zsQ (by omega)]at q;exact q
   . rename_i e
     obtain⟨d0,d1,rfl⟩:∃d0 d1,ds=[d0,d1]:=by
       match ds,e with
       | [d0,d1],_=>exact⟨d0,d1,rfl⟩
       | [],e=>simp at e
       | [_],e=>simp at e
       | _::_::_::_,e=>simp at e;omega
     refine aG (j:=0) hd rfl (λy0 h0=>?_);k_few
     . rename_i e
       rw[UE e]at q;exact q
     . rename_i e0
       obtain⟨i,rfl⟩:=Kz.mp e0;refine aG (j:=1) hd rfl (λy1 h1=>?_);k_few
       . rename_i e
         rw[znx e]at q;exact q
       . rename_i e1
         obtain⟨j,rfl⟩:=Kz.mp e1;refine aG (j:=1) hd rfl (λy2 h2=>?_);cases bS.mp h2;k_few
         . refine aG (j:=0) hd rfl (λy3 h3=>?_)
           cases bS.mp h3;o_head aG (j:=1) hd rfl (λy4 h4=>?_);cases bS.mp h4;o_head pR (by split<;>omega) (by omega) ?_;k_few
           have e3:bN (.tuple [.int i,.int j])=decide ((vk (if i<0 then -i else i) j:Nat)=(1:Int)):=by
             have e4:vk (if i<0 then -i else i) j=vk i j:=by
               split<;>simp
             rw[e4]
             show gf i j=_
             rename_i e5;simp only[gf,e5,decide_true,Qu];rw[vy,decide_eq_true_eq,decide_eq_true_eq];omega
           rw[e3]at q;exact q
         . rename_i e5
           have e3:bN (.tuple [.int i,.int j])=false:=by
             show gf i j=false
             simp only[gf,e5,decide_false,WP]
           rw[e3]at q;exact q
def MV(K:wb):Sp:=λvs H Q _=>∃x0 x1,vs=[x0,x1] /\ ∃(x y:Rat),Is K H x0 (N x)/\Is K H x1 (N y)/\ag 8999 x/\ag 8999 y /\ ∀v H',ah H H'->Is K H' v (N (x+y))->Q v H'
theorem LQ{K:wb}{H:Hp}{Q:VK}{E:XK}{x y:Rat}{v w:V}(h1:Is K H v (N x))(h2:Is K H w (N y))(b1:ag 8999 x)(b2:ag 8999 y)(q:∀v H',ah H H'->Is K H' v (N (x+y))->Q v H'):MV K [v,w] H Q E:=⟨_,_,rfl,x,y,h1,h2,b1,b2,q⟩
local macro_rules | `(tactic| wtm_at "gs")=>`(tactic| ((with_reducible apply LQ); (focus wtm_at "is"); (focus wtm_at "is"); (focus wtm_at "bdr"); (focus wtm_at "bdr"); intro _ _ _ _))
theorem fY(T:Txt K mg a):aO P w K mg base aT 2 a.plus a.GZ yq (MV K):=by
 refine T.fH.F.ok tG ?_ ?_;wtm_at "b2"
 refine⟨_,(ak (ay 2 tG.nd (au (pD T) hr T.lT (ae (ar (pv 0)) (ae (ar (pv 1)) af))))
     (ak (ay 3 tG.nd (aC cC (aC cn (ar (pv 0)) (aC fN (ar (pv 1)) (pv 2))) (aC cn (ar (pv 1)) (aC fN (ar (pv 0)) (pv 2)))))
     (ak (ay 4 tG.nd (au (pD T) hr T.lT (ae (bQ mG rfl T.z_abs mS (ae (pv 3) af)) (ae (pv 2) af))))
     (av (aF (aW (ae (aC fN (pv 3) (pv 4)) (ae (aC cn (aC fN (ar (pv 0)) (pv 2)) (aC fN (ar (pv 1)) (pv 4))) af)))))))),?_⟩
 wtm_at "cl";rw[show start Oc [x0,x1]=[some x0,some x1,none,none,none]from rfl];obtain⟨x,y,hx,hy,⟨bx1,bx2⟩,⟨by1,by2⟩,q⟩:=h;have px:=den_pos x;have py:=den_pos y;have ps:=rN x y;have pd:=A0 x y;have c1:kc 0 (eK x y):=⟨by omega,oX bx2 (pN x y) px⟩;have c2:kc 0 (ja x y):=⟨by omega,oX (oX bx2 (pN x y) px) (B_ x y) ps⟩;have f1:=lA by2 (ze x y) ps;have f2:=lA bx2 (pN x y) ps;have f3:=lA by2 (qd (B_ x y) (ze x y)) pd;o_head pR (by omega) (by omega) ?_;rw[show((vk (x.den:Int) (y.den:Int):Nat):Int)=eK x y from rfl];k_few;rw[show x.num*(y.den:Int).fdiv (eK x y)+y.num*(x.den:Int).fdiv (eK x y)=j_ x y from rfl];o_head pR (by split<;>omega) (by omega) ?_;rw[DV,show((vk (j_ x y) (eK x y):Nat):Int)=ja x y from rfl];k_few;exact fh (UB x y) (YK x y) q
def Ls(K:wb):Sp:=λvs H Q _=>∃x0 x1,vs=[x0,x1] /\ ∃(x y:Rat),Is K H x0 (N x)/\Is K H x1 (N y)/\ag 8999 x/\ag 8999 y /\ ∀v H',ah H H'->Is K H' v (N (x-y))->Q v H'
theorem zwb{K:wb}{H:Hp}{Q:VK}{E:XK}{x y:Rat}{v w:V}(h1:Is K H v (N x))(h2:Is K H w (N y))(b1:ag 8999 x)(b2:ag 8999 y)(q:∀v H',ah H H'->Is K H' v (N (x-y))->Q v H'):Ls K [v,w] H Q E:=⟨_,_,rfl,x,y,h1,h2,b1,b2,q⟩
local macro_rules | `(tactic| wtm_at "gs")=>`(tactic| ((with_reducible apply zwb); (focus wtm_at "is"); (focus wtm_at "is"); (focus wtm_at "bdr"); (focus wtm_at "bdr"); intro _ _ _ _))
theorem tT(T:Txt K mg a):aO P w K mg base aT 3 a.minus a.GI ya (Ls K):=by
 refine T.nI.F.ok Tn ?_ ?_;wtm_at "b2";refine⟨_,(av (aF (au (fY T) hr T.fH (ae (pv 0) (ae (aW (ae (iD gW (ar (pv 1))) (ae (ar (pv 1)) af))) af))))),?_⟩;wtm_at "cl";rw[show start A4 [x0,x1]=[some x0,some x1]from rfl];obtain⟨x,y,hx,hy,bx,by',q⟩:=h;o_head fh (r:=-y) (by simp) (by simp) (λv H' s hv=>?_);o_head LQ (by wtm_at "is") hv bx (zyw by') (λw H'' s2 hw=>?_);rw[Yn]at hw;k_few;exact q w H'' (s.trans s2) hw
def Jl(K:wb):Sp:=λvs H Q _=>∃x0 x1,vs=[x0,x1] /\ ∃(x y:Rat),Is K H x0 (N x)/\Is K H x1 (N y)/\ag 8999 x/\ag 8999 y /\ ∀v H',ah H H'->Is K H' v (N (x*y))->Q v H'
theorem C5{K:wb}{H:Hp}{Q:VK}{E:XK}{x y:Rat}{v w:V}(h1:Is K H v (N x))(h2:Is K H w (N y))(b1:ag 8999 x)(b2:ag 8999 y)(q:∀v H',ah H H'->Is K H' v (N (x*y))->Q v H'):Jl K [v,w] H Q E:=⟨_,_,rfl,x,y,h1,h2,b1,b2,q⟩
local macro_rules | `(tactic| wtm_at "gs")=>`(tactic| ((with_reducible apply C5); (focus wtm_at "is"); (focus wtm_at "is"); (focus wtm_at "bdr"); (focus wtm_at "bdr"); intro _ _ _ _))
theorem ke(T:Txt K mg a):aO P w K mg base aT 2 a.times a.GK yb (Jl K):=by
 refine T.jt.F.ok DT ?_ ?_;wtm_at "b2"
 refine⟨_,(ak (ay 2 DT.nd (au (pD T) hr T.lT (ae (bQ mG rfl T.z_abs mS (ae (ar (pv 0)) af)) (ae (ar (pv 1)) af))))
     (ak (ay 3 DT.nd (au (pD T) hr T.lT (ae (bQ mG rfl T.z_abs mS (ae (ar (pv 1)) af)) (ae (ar (pv 0)) af))))
     (av (aF (aW (ae (aC cn (aC fN (ar (pv 0)) (pv 2)) (aC fN (ar (pv 1)) (pv 3))) (ae (aC cn (aC fN (ar (pv 0)) (pv 3)) (aC fN (ar (pv 1)) (pv 2))) af))))))),?_⟩
 wtm_at "cl";rw[show start Ip [x0,x1]=[some x0,some x1,none,none]from rfl];obtain⟨x,y,hx,hy,⟨bx1,bx2⟩,⟨by1,by2⟩,q⟩:=h;have px:=den_pos x;have py:=den_pos y;have p1:=nG x y;have p2:=nG y x;have c1:kc 0 (fM x y):=⟨by omega,oX by2 (mZ x y) py⟩;have c2:kc 0 (fM y x):=⟨by omega,oX bx2 (mZ y x) px⟩;have f1:=lA bx1 (zf x y) p1;have f2:=lA by1 (zf y x) p2;have f3:=lA bx2 (mZ y x) p2;have f4:=lA by2 (mZ x y) p1;o_head pR (by split<;>omega) (by omega) ?_;rw[DV,show((vk x.num (y.den:Int):Nat):Int)=fM x y from rfl];o_head pR (by split<;>omega) (by omega) ?_;rw[DV,show((vk y.num (x.den:Int):Nat):Int)=fM y x from rfl];k_few;exact fh (zyP x y) (zyd x y) q
def Mq(K:wb):Sp:=λvs H Q _=>∃x0 x1,vs=[x0,x1] /\ ∃(x y:Rat),Is K H x0 (N x)/\Is K H x1 (N y)/\ag 8999 x/\ag 8999 y/\y≠0 /\ ∀v H',ah H H'->Is K H' v (N (x / y))->Q v H'
theorem Jy{K:wb}{H:Hp}{Q:VK}{E:XK}{x y:Rat}{v w:V}(h1:Is K H v (N x))(h2:Is K H w (N y))(b1:ag 8999 x)(b2:ag 8999 y)(hy:y≠0)(q:∀v H',ah H H'->Is K H' v (N (x / y))->Q v H'):Mq K [v,w] H Q E:=⟨_,_,rfl,x,y,h1,h2,b1,b2,hy,q⟩
theorem HA(T:Txt K mg a):aO P w K mg base aT 3 a.over a.GN tX (Mq K):=by
 refine T.zZ.F.ok OW ?_ ?_;wtm_at "b2"
 refine⟨_,(ak (bZ (cc (show aJ _ (wT .Eq) (cN K)from dk hu) (ar (pv 1)) az (bA _)) (av Bw) b9)
     (ak (ay 2 OW.nd (rR (cc nF (ar (pv 1)) az (bA _)) (aW (ae (ar (pv 1)) (ae (ar (pv 1)) af))) (aW (ae (iD gW (ar (pv 1))) (ae (iD gW (ar (pv 1))) af)))))
     (av (aF (au (ke T) hr T.jt (ae (pv 0) (ae (pv 2) af))))))),?_⟩
 wtm_at "cl";rw[show start Kd [x0,x1]=[some x0,some x1,none]from rfl];obtain⟨x,y,hx,hy,bx,by',hn,q⟩:=h;k_few
 . rename_i z
   exact absurd z (zi hn)
 . rename_i z0 z
   refine fh (r:=y⁻¹) (zb z).1.symm (zb z).2.symm (λv1 H1 S1 i1=>?_);o_head C5 (hx.by S1) i1 bx (Il by' hn) (λv2 H2 S2 i2=>?_);rw[<- Q2]at i2;k_few;exact q v2 H2 (S1.trans S2) i2
 . rename_i z0 z
   have z:y.num<0:=by omega
   refine fh (r:=y⁻¹) (sf z).1.symm (sf z).2.symm (λv1 H1 S1 i1=>?_);o_head C5 (hx.by S1) i1 bx (Il by' hn) (λv2 H2 S2 i2=>?_);rw[<- Q2]at i2;k_few;exact q v2 H2 (S1.trans S2) i2
def Mx(K:wb):Sp:=λvs H Q _=>∃x0 x1,vs=[x0,x1] /\ ∃(x y:Rat),Is K H x0 (N x)/\Is K H x1 (N y)/\ag 8999 x/\ag 8999 y/\Q (.bl (decide (x<y))) H
theorem zyJ{K:wb}{H:Hp}{Q:VK}{E:XK}{x y:Rat}{v w:V}(h1:Is K H v (N x))(h2:Is K H w (N y))(b1:ag 8999 x)(b2:ag 8999 y)(q:Q (.bl (decide (x<y))) H):Mx K [v,w] H Q E:=⟨_,_,rfl,x,y,h1,h2,b1,b2,q⟩
local macro_rules | `(tactic| wtm_at "gs")=>`(tactic| ((with_reducible apply zyJ); (focus wtm_at "is"); (focus wtm_at "is"); (focus wtm_at "bdr"); (focus wtm_at "bdr")))
theorem gm(T:Txt K mg a):aO P w K mg base aT 1 a.less a.G4 tV (Mx K):=by
 refine T.fG.F.ok Z9 ?_ ?_;wtm_at "b2";refine⟨_,(av (aF (dA l_ (aC cn (ar (pv 0)) (ar (pv 1))) (aC cn (ar (pv 1)) (ar (pv 0))) (bA _)))),?_⟩;wtm_at "cl";rw[show start CD [x0,x1]=[some x0,some x1]from rfl];obtain⟨x,y,hx,hy,⟨bx1,bx2⟩,⟨by1,by2⟩,q⟩:=h;k_few;rw[UU];exact q
def pM(x:Rat):Bool:=decide (0<x)&&(!decide (4<x))&&decide ((x.den:Int)<=8)
def OP(K:wb):Sp:=λvs H Q _=>∃x0,vs=[x0] /\ ∃x:Rat,Is K H x0 (N x)/\ag 4000 x/\Q (.bl (pM x)) H
theorem zo6{K:wb}{H:Hp}{Q:VK}{E:XK}{x:Rat}{v:V}(h:Is K H v (N x))(b:ag 4000 x)(q:Q (.bl (pM x)) H):OP K [v] H Q E:=⟨_,rfl,x,h,b,q⟩
local macro_rules | `(tactic| wtm_at "gs")=>`(tactic| ((with_reducible apply zo6); (focus wtm_at "is"); (focus wtm_at "bdr")))
theorem zpz(T:Txt K mg a):aO P w K mg base aT 2 a.Gk a.Fd yO (OP K):=by
 refine T.FD.F.ok Z0 ?_ ?_;wtm_at "b1";refine⟨_,(av (aF (fL (au (gm T) hr T.fG (ae (bL (v:=.ref a.cX) rfl T.dH rfl) (ae (pv 0) af))) (fL (m_ (au (gm T) hr T.fG (ae (bL (v:=.ref a.zD) rfl T.PQ rfl) (ae (pv 0) af)))) (gn (dA mK (ar (pv 0)) (oo rfl T.Ra) (bA _))))))),?_⟩;wtm_at "cl";rw[show start A5 [x0]=[some x0]from rfl];obtain⟨x,hx,bx,q⟩:=h;unfold pM at q;k_few
 ·rename_i h1 h2
  rw[decide_eq_true h1,decide_eq_false h2]at q;exact q
 ·rename_i h1 h2
  rw[decide_eq_true h1,decide_eq_true h2]at q;exact q
 ·rename_i h1
  rw[decide_eq_false h1]at q;exact q
def oz(x:Rat):Bool:=(!decide (x<0))&&(!decide (1<x))&&decide ((x.den:Int)<=12)
def K_(K:wb):Sp:=λvs H Q _=>∃x0,vs=[x0] /\ ∃x:Rat,Is K H x0 (N x)/\ag 4000 x/\Q (.bl (oz x)) H
theorem zqD{K:wb}{H:Hp}{Q:VK}{E:XK}{x:Rat}{v:V}(h:Is K H v (N x))(b:ag 4000 x)(q:Q (.bl (oz x)) H):K_ K [v] H Q E:=⟨_,rfl,x,h,b,q⟩
local macro_rules | `(tactic| wtm_at "gs")=>`(tactic| ((with_reducible apply zqD); (focus wtm_at "is"); (focus wtm_at "bdr")))
theorem zqI(T:Txt K mg a):aO P w K mg base aT 2 a.Gs a.Fv uS (K_ K):=by
 refine T.FW.F.ok Y7 ?_ ?_;wtm_at "b1";refine⟨_,(av (aF (fL (m_ (au (gm T) hr T.fG (ae (pv 0) (ae (bL (v:=.ref a.cX) rfl T.dH rfl) af)))) (fL (m_ (au (gm T) hr T.fG (ae (bL (v:=.ref a.dJ) rfl T.eJ rfl) (ae (pv 0) af)))) (gn (dA mK (ar (pv 0)) (oo rfl T.Rg) (bA _))))))),?_⟩;wtm_at "cl";rw[show start BL [x0]=[some x0]from rfl];obtain⟨x,hx,bx,q⟩:=h;unfold oz at q;k_few
 ·rename_i h1 h2
  rw[decide_eq_false h1,decide_eq_false h2]at q;exact q
 ·rename_i h1 h2
  rw[decide_eq_false h1,decide_eq_true h2]at q;exact q
 ·rename_i h1
  rw[decide_eq_true h1]at q;exact q
def lK(x y:Rat):Bool:=pM x&&oz y && !decide (x+y<1)
def Al(K:wb):Sp:=λvs H Q _=>∃x0 x1,vs=[x0,x1]/\((∃d e,Is K H x0 d/\Is K H x1 e/\(bN d&&bN e)=false /\ ∀H',ah H H'->Q (.bl false) H')\/(∃x y:Rat,Is K H x0 (N x)/\Is K H x1 (N y)/\ag 1000 x/\ag 1000 y /\ ∀H',ah H H'->Q (.bl (lK x y)) H'))
theorem znD{K:wb}{H:Hp}{Q:VK}{E:XK}{d e:wz}{v w:V}(h1:Is K H v d)(h2:Is K H w e)(n:(bN d&&bN e)=false)(q:∀H',ah H H'->Q (.bl false) H'):Al K [v,w] H Q E:=⟨_,_,rfl,.inl ⟨d,e,h1,h2,n,q⟩⟩
theorem UP{K:wb}{H:Hp}{Q:VK}{E:XK}{x y:Rat}{v w:V}(h1:Is K H v (N x))(h2:Is K H w (N y))(b1:ag 1000 x)(b2:ag 1000 y)(q:∀H',ah H H'->Q (.bl (lK x y)) H'):Al K [v,w] H Q E:=⟨_,_,rfl,.inr ⟨x,y,h1,h2,b1,b2,q⟩⟩
theorem Zo(T:Txt K mg a):aO P w K mg base aT 3 a.Gf a.Fm zg (Al K):=by
 refine T.FA.F.ok Uz ?_ ?_;wtm_at "b2"
 refine⟨_,(ak (bZ (PW.pt (kR (dS (cR (au (CC T) hr T.rf (ae (pv 0) af)))) (lE (dS (cR (au (CC T) hr T.rf (ae (pv 1) af))))))) (av (aF iU)) b9)
     (av (aF (fL (au (zpz T) hr T.FD (ae (pv 0) af)) (fL (au (zqI T) hr T.FW (ae (pv 1) af)) (gn (m_ (au (gm T) hr T.fG (ae (au (fY T) hr T.fH (ae (pv 0) (ae (pv 1) af))) (ae (bL (v:=.ref a.dJ) rfl T.eJ rfl) af)))))))))),?_⟩
 wtm_at "cl";rw[show start C6 [x0,x1]=[some x0,some x1]from rfl];rcases h with⟨d,e,hd,he,hn,q⟩ | ⟨x,y,hx,hy,bx,by',q⟩
 . k_few
   . exact q _ (ah.refl _)
   . exact q _ (ah.refl _)
   . rename_i h1 h2
     exact absurd hn (by rw[h1,h2];decide)
 . unfold lK at q
   k_few
   . rename_i z;rw[BA]at z;cases z
   . rename_i z;rw[BA]at z;cases z
   . rename_i h1 h2 v H' S hv
     rw[h1,h2]at q;exact q _ S
   . rename_i h1 h2
     rw[h1,h2]at q;exact q _ (ah.refl _)
   . rename_i h1
     rw[h1]at q;exact q _ (ah.refl _)
def Mn:wz->Bool
 | .tuple [d,e]=>!(bN d&&bN e)
 | _=>true
theorem zrh{d e:wz}(h:Mn (.tuple [d,e])=true):(bN d&&bN e)=false:=by
 have h:(!(bN d&&bN e))=true:=h;cases z:(bN d&&bN e)with
 | false=>rfl
 | true=>rw[z]at h;exact absurd h (by decide)
def O6(K:wb):Sp:=λvs H Q _=>∃x0,vs=[x0]/\((∃d,Is K H x0 d/\Mn d=true /\ ∀H',ah H H'->Q (.bl false) H')\/(∃x y:Rat,Is K H x0 (R x y)/\ag 1000 x/\ag 1000 y /\ ∀H',ah H H'->Q (.bl (lK x y)) H'))
theorem Tq{K:wb}{H:Hp}{Q:VK}{E:XK}{x y:Rat}{v:V}(h:Is K H v (R x y))(b1:ag 1000 x)(b2:ag 1000 y)(q:∀H',ah H H'->Q (.bl (lK x y)) H'):O6 K [v] H Q E:=⟨_,rfl,.inr ⟨x,y,h,b1,b2,q⟩⟩
theorem Sz(T:Txt K mg a):aO P w K mg base aT 4 a.GX a.FQ yL (O6 K):=by
 refine T.Gm.F.ok UA ?_ ?_;wtm_at "b1";refine⟨_,(av (aF (fL (bQ (show aY _ (.builtin "isinstance") (jf K)from yH) rfl T.z_isinstance fB (ae (pv 0) (ae (k9 (v:=.ty "tuple") rfl T.z_tuple eF rfl) af))) (fL (dA (show aJ _ (wT .Eq) (cN K)from dk hu) (bQ (show aY _ (.builtin "len") (dg K)from fg) rfl T.z_len fe (ae (pv 0) af)) az (bA _)) (gn (au (Zo T) hr T.FA (ae (ar (pv 0)) (ae (ar (pv 0)) af)))))))),?_⟩;wtm_at "cl";rw[show start Ar [x0]=[some x0]from rfl];rcases h with⟨d,hd,hn,q⟩ | ⟨x,y,hr,bx,by',q⟩
 ·k_few
  ·rename_i e
   obtain⟨ds,rfl⟩:=NQ.mp e;refine nX hd ?_;k_few
   ·rename_i e
    obtain⟨d0,d1,rfl⟩:∃d0 d1,ds=[d0,d1]:=by
     match ds,e with
     | [d0,d1],_=>exact⟨d0,d1,rfl⟩
     | [],e=>simp at e
     | [_],e=>simp at e
     | _::_::_::_,e=>simp at e;omega
    refine aG (j:=0) hd rfl (λy0 h0=>?_);o_head aG (j:=1) hd rfl (λy1 h1=>?_);o_head znD h0 h1 (zrh hn) (λH' S=>?_);k_few;exact q _ S
   ·exact q _ (ah.refl _)
  ·exact q _ (ah.refl _)
 ·k_few
  refine UP (by assumption) (by assumption) bx by' (λH' S=>?_);k_few;exact q _ S
def jz(x:Rat):Str:=if 1<x then "rising" else if x=1 then "even" else "falling"
def NX(K:wb):Sp:=λvs H Q _=>∃x0,vs=[x0] /\ ∃x y:Rat,Is K H x0 (R x y)/\ag 4000 x/\Q (.str (jz x)) H
theorem mm{K:wb}{H:Hp}{Q:VK}{E:XK}{x y:Rat}{v:V}(h:Is K H v (R x y))(b:ag 4000 x)(q:Q (.str (jz x)) H):NX K [v] H Q E:=⟨_,rfl,x,y,h,b,q⟩
theorem pA(T:Txt K mg a):aO P w K mg base aT 2 a.Hl a.GO r8 (NX K):=by
 refine T.lW.F.ok YD ?_ ?_;wtm_at "b1"
 refine⟨_,(ak (bZ (cR (au (gm T) hr T.fG (ae (bL (v:=.ref a.dJ) rfl T.eJ rfl) (ae (ar (pv 0)) af)))) (av (aF cz)) b9)
     (ak (bZ (cc (show aJ _ (wT .Eq) (cN K)from dk hu) (ar (pv 0)) (bL (v:=.ref a.dJ) rfl T.eJ rfl) (bA _)) (av (aF cz)) b9)
     (av (aF cz)))),?_⟩
 wtm_at "cl";rw[show start CT [x0]=[some x0]from rfl];obtain⟨x,y,hx,bx,q⟩:=h;unfold jz at q;k_few
 . rename_i h1
   rw[if_pos h1]at q;exact q
 . rename_i h1 _ _ h2
   rw[if_neg h1,if_pos h2]at q;exact q
 . rename_i h1 _ _ h2
   rw[if_neg h1,if_neg h2]at q;exact q
def Bu(K:wb):Sp:=λvs H Q _=>∃x0 x1,vs=[x0,x1] /\ ∃(a b:Rat)(n:Int),x1=.int n/\Is K H x0 (R a b)/\ag 4000 a/\ag 4000 b/\0<=n/\n<=64/\(∀i,i<=n.toNat->ag 4000 (a^i))/\(∀i,i<=n.toNat->ag 4000 (aB a b i)) /\ ∀v H',ah H H'->Is K H' v (R (a^n.toNat) (aB a b n.toNat))->Q v H'
theorem JU{K:wb}{H:Hp}{Q:VK}{E:XK}{a b:Rat}{n:Int}{v:V}(h1:Is K H v (R a b))(b1:ag 4000 a)(b2:ag 4000 b)(h0:0<=n)(h64:n<=64)(f1:∀i,i<=n.toNat->ag 4000 (a^i))(f2:∀i,i<=n.toNat->ag 4000 (aB a b i))(q:∀v H',ah H H'->Is K H' v (R (a^n.toNat) (aB a b n.toNat))->Q v H'):Bu K [v,.int n] H Q E:=⟨_,_,rfl,a,b,n,rfl,h1,b1,b2,h0,h64,f1,f2,q⟩
theorem CS{K:wb}{H:Hp}{Q:VK}{E:XK}{a b:Rat}{n:Int}{v:V}(h1:Is K H v (R a b))(b1:ag 10 a)(b2:ag 10 b)(h0:0<=n)(h64:n<=64)(q:∀v H',ah H H'->Is K H' v (R (a^n.toNat) (aB a b n.toNat))->Q v H'):Bu K [v,.int n] H Q E :=
 JU h1 (b1.mono (by decide)) (b2.mono (by decide)) h0 h64 (λi hi=>(b1.pow i).mono (by omega)) (λi hi=>(b1.aB b2 i).mono (by omega)) q
theorem tJ(T:Txt K mg a):aO P w K mg base aT 3 a.G_ a.Gp uO (Bu K):=by
 refine T.nH.F.ok mT ?_ ?_;wtm_at "b2"
 refine⟨_,(ak (ay 2 mT.nd (bL (v:=.ref a.dJ) rfl T.eJ rfl))
     (ak (ay 3 mT.nd (bL (v:=.ref a.cX) rfl T.dH rfl))
     (ak (gF vG rfl (kW rfl T.z_range (ae (pv 1) af)) (bK (i:=4) mT.nd rfl (Or.inl rfl)) (ak (ay 2 mT.nd (au (ke T) hr T.jt (ae (ar (pv 0)) (ae (pv 2) af))))
     (av (ay 3 mT.nd (au (fY T) hr T.fH (ae (au (ke T) hr T.jt (ae (ar (pv 0)) (ae (pv 3) af))) (ae (ar (pv 0)) af)))))))
     (av (aF (aW (ae (pv 2) (ae (pv 3) af)))))))),?_⟩
 wtm_at "cl";rw[show start JA [x0,x1]=[some x0,some x1,none,none,none]from rfl];obtain⟨r,s',n,rfl,hr',ba,bb,h0,h64,f1,f2,q⟩:=h;o_head ng (n:=n) (by omega) (by omega) (λi σ H'=>∃(f g:V)(o:Option V),σ = [some x0,some (.int n),some f,some g,o]/\ah H H'/\Is K H' f (N (r^i))/\Is K H' g (N (aB r s' i))) ⟨_,_,_,rfl,ah.refl H,by rw[qB];exact ny.mpr ⟨_,rfl,T.rL H⟩,ny.mpr ⟨_,rfl,T.eB H⟩⟩ ?_ ?_
 . rintro i σ H' hi ⟨f,g,o,rfl,S1,hf,hg⟩
   have hr1:=hr'.by S1;have bf:ag 4000 (r^i):=f1 i (by omega);have bg:ag 4000 (aB r s' i):=f2 i (by omega);have bg2:ag 8999 (r*aB r s' i):=(ba.mul bg).mono (by decide);o_head ⟨_,_,_,rfl,S1.trans (ah.trans (by assumption) (ah.trans (by assumption) (by assumption))),?_,?_⟩
   . rw[WK,Qa]
     wtm_at "is"
   . wtm_at "is"
 . rintro σ H' ⟨f,g,o,rfl,S1,hf,hg⟩
   wtm_at "ga";exact q _ _ (S1.trans (by assumption)) (by assumption)
def Pk(K:wb):Sp:=λvs H Q _=>∃x0 x1,vs=[x0,x1] /\ ∃(f g x:Rat),Is K H x0 (R f g)/\Is K H x1 (N x)/\ag 700 f/\ag 1500 g/\ag 8100 x /\ ∀v H',ah H H'->Is K H' v (N (f*x+g))->Q v H'
theorem JF{K:wb}{H:Hp}{Q:VK}{E:XK}{f g x:Rat}{v w:V}(h1:Is K H v (R f g))(h2:Is K H w (N x))(b1:ag 700 f)(b2:ag 1500 g)(b3:ag 8100 x)(q:∀v H',ah H H'->Is K H' v (N (f*x+g))->Q v H'):Pk K [v,w] H Q E:=⟨_,_,rfl,f,g,x,h1,h2,b1,b2,b3,q⟩
theorem Oi(T:Txt K mg a):aO P w K mg base aT 3 a.Gh a.EX yp (Pk K):=by
 refine T.zK.F.ok zpw ?_ ?_;wtm_at "b2";refine⟨_,(av (aF (au (fY T) hr T.fH (ae (au (ke T) hr T.jt (ae (ar (pv 0)) (ae (pv 1) af))) (ae (ar (pv 0)) af))))),?_⟩;wtm_at "cl";rw[show start BK [x0,x1]=[some x0,some x1]from rfl];obtain⟨f,g,x,hp,hx,bf,bg,bx,q⟩:=h;k_few;rename_i hz;exact q _ _ (ah.trans (by assumption) (by assumption)) hz
def sV(K:wb):Sp:=λvs H Q _=>∃x0,vs=[x0]/\((∃d,Is K H x0 d/\bN d=false/\Q (.bl false) H)\/(∃x:Rat,Is K H x0 (N x)/\ag 4000 x/\Q (.bl (jD x)) H))
theorem zpv{K:wb}{H:Hp}{Q:VK}{E:XK}{d:wz}{v:V}(h:Is K H v d)(n:bN d=false)(q:Q (.bl false) H):sV K [v] H Q E:=⟨_,rfl,.inl ⟨d,h,n,q⟩⟩
theorem Yp{K:wb}{H:Hp}{Q:VK}{E:XK}{x:Rat}{v:V}(h:Is K H v (N x))(b:ag 4000 x)(q:Q (.bl (jD x)) H):sV K [v] H Q E:=⟨_,rfl,.inr ⟨x,h,b,q⟩⟩
theorem zp3(T:Txt K mg a):aO P w K mg base aT 3 a.GF a.Fy x_ (sV K):=by
 refine T.FT.F.ok zq3 ?_ ?_;wtm_at "b1"
 refine⟨_,(ak (bZ (PW.pt (kR (dS (cR (au (CC T) hr T.rf (ae (pv 0) af)))) (lE (cR (au (gm T) hr T.fG (ae (pv 0) (ae (bL (v:=.ref a.cX) rfl T.dH rfl) af))))))) (av (aF iU)) b9)
     (av (aF (fL (au (gm T) hr T.fG (ae (pv 0) (ae (bL (v:=.ref a.dJ) rfl T.eJ rfl) af))) (gn (dA mK (ar (pv 0)) (oo rfl T.Rh) (bA _))))))),?_⟩
 wtm_at "cl";rw[show start Ec [x0]=[some x0]from rfl];rcases h with⟨d,hd,hn,q⟩ | ⟨x,hx,bx,q⟩
 . k_few
   . exact q
   . rename_i e;rw[hn]at e;cases e
 . unfold jD at q
   k_few
   . rename_i z;rw[BA]at z;cases z
   . rename_i h1
     rw[decide_eq_true h1]at q;exact q
   . rename_i h1 h2
     rw[decide_eq_false h1,decide_eq_true h2]at q;exact q
   . rename_i h1 h2
     rw[decide_eq_false h1,decide_eq_false h2]at q;exact q
def fz:wz->Bool
 | .tuple [.int p,.int q]=>gf p q&&jD (wx p q)
 | _=>false
theorem L6(x:Rat):fz (N x)=jD x:=by
 show(gf x.num x.den&&jD (wx x.num x.den))=jD x
 rw[KP,Vi,Qu]
theorem Sv{d:wz}(h:bN d=true):∃x:Rat,d=N x:=by
 match d with
 | .tuple [.int p,.int q] =>
  obtain⟨r,e1,e2⟩:=U5 (show gf p q=true from h);exact⟨r,by rw[e1,e2];rfl⟩
 | .none=>simp[bN]at h
 | .bool _=>simp[bN]at h
 | .int _=>simp[bN]at h
 | .str _=>simp[bN]at h
 | .list _=>simp[bN]at h
 | .dict _=>simp[bN]at h
 | .tuple []=>simp[bN]at h
 | .tuple [_]=>simp[bN]at h
 | .tuple (_::_::_::_)=>simp[bN]at h
 | .tuple [.none,_]=>simp[bN]at h
 | .tuple [.bool _,_]=>simp[bN]at h
 | .tuple [.str _,_]=>simp[bN]at h
 | .tuple [.tuple _,_]=>simp[bN]at h
 | .tuple [.list _,_]=>simp[bN]at h
 | .tuple [.dict _,_]=>simp[bN]at h
 | .tuple [.int _,.none]=>simp[bN]at h
 | .tuple [.int _,.bool _]=>simp[bN]at h
 | .tuple [.int _,.str _]=>simp[bN]at h
 | .tuple [.int _,.tuple _]=>simp[bN]at h
 | .tuple [.int _,.list _]=>simp[bN]at h
 | .tuple [.int _,.dict _]=>simp[bN]at h
theorem Su{d:wz}(h:bN d=false):fz d=false:=by
 unfold fz
 split
 ·rename_i p q
  rw[show gf p q=false from h];rfl
 ·rfl
theorem JR{K:wb}{H:Hp}{Q:VK}{E:XK}{d:wz}{v:V}(h:Is K H v d)(b:∀x,d=N x->ag 4000 x)(q:Q (.bl (fz d)) H):sV K [v] H Q E:=by
 cases e:bN d with
 | false=>rw[Su e]at q;exact zpv h e q
 | true =>
  obtain⟨x,rfl⟩:=Sv e;rw[L6]at q;exact Yp h (b x rfl) q
def Jd(K:wb):Sp:=λvs H Q _=>∃x0,vs=[x0]/\((∃d,Is K H x0 d/\(oS d || gS d)=false /\ ∀H',ah H H'->Q (.bl false) H')\/(∃ds,(Is K H x0 (.list ds)\/Is K H x0 (.tuple ds))/\(∀e∈ds,∀x,e=N x->ag 4000 x) /\ ∀H',ah H H'->Q (.bl (decide (1<=ds.length)&&decide (ds.length<=8)&&ds.all fz)) H'))
theorem znA{K:wb}{H:Hp}{Q:VK}{E:XK}{ds:List wz}{v:V}(h:Is K H v (.list ds)\/Is K H v (.tuple ds))(b:∀e∈ds,∀x,e=N x->ag 4000 x)(q:∀H',ah H H'->Q (.bl (decide (1<=ds.length)&&decide (ds.length<=8)&&ds.all fz)) H'):Jd K [v] H Q E:=⟨_,rfl,.inr ⟨ds,h,b,q⟩⟩
theorem ZF(T:Txt K mg a):aO P w K mg base aT 4 a.F0 a.ES uL (Jd K):=by
 refine T.Fh.F.ok U6 ?_ ?_;wtm_at "b1"
 refine⟨_,(ak (bZ (PW.pt (kR (dS (cR (bQ (show aY _ (.builtin "isinstance") (BB K)from YC) rfl T.z_isinstance fB (ae (pv 0) (ae (aW (ae (k9 (v:=.ty "list") rfl T.z_list o_ rfl) (ae (k9 (v:=.ty "tuple") rfl T.z_tuple eF rfl) af))) af))))) (lE (dS (SN mK mK az (bQ (show aY _ (.builtin "len") (dg K)from fg) rfl T.z_len fe (ae (pv 0) af)) (oo rfl T.Ri)))))) (av (aF iU)) b9)
     (av (aF (bQ (show aY _ (.builtin "all") (md K)from sI rfl) rfl T.z_all zj (ae (dZ rfl (cq.by (N':=["one"]) (src:=[none]) rfl (show cH _ (aA yM).names zx ["one"] [none]=true from by decide +kernel)) (L8 (pv 0)) (λ_ _ _ _ _=>(bK (i:=0) (show(["one"]:List Str).Nodup from by decide) rfl (Or.inl rfl))) (λ_ _ _ _ _=>dE) (λ_ _ _ _ _=>(au (zp3 (K:=K) (mg:=mg) (a:=a) T) hr T.FT (ae (pv 0) af)))) af))))),?_⟩
 wtm_at "cl";rw[show start zx [x0]=[some x0]from rfl];rcases h with⟨d,hd,hn,q⟩ | ⟨ds,hd,bd,q⟩
 . k_few
   refine oJ (by simp) (λtp H1 _ S1 e1=>?_);o_head Bk (hd.by S1) e1 ?_;rw[hn];k_few;exact q H1 S1
 . rcases hd with hd | hd
   . k_few
     refine oJ (by simp) (λtp H1 _ S1 e1=>?_);o_head Bk (hd.by S1) e1 ?_;rw[show(oS (.list ds) || gS (.list ds))=true from rfl];obtain⟨ap,us,rfl,hs,tu⟩:=cu.mp (hd.by S1);have hul:=tu.length;o_head jG hs ?_;rw[hul];k_few
     . rename_i z0 z
       have:=q H1 S1;rw[decide_eq_false (show ¬ ds.length<=8 by omega),ua,WP]at this;exact this
     . rename_i z0 z
       have h1:1<=ds.length:=by omega
       have h8:ds.length<=8:=by omega
       refine .inl (jA (o0:=none) (tl:=[]) hs rfl (λj y H'=>y=.bl (fz (ds.getD j .none))) ?_ ?_)
       . intro D i x ys o H2 hx inv
         obtain⟨hi,ix⟩:=lH tu hx;o_head JR (ix.by inv.same) (λx e=>bd _ (du hi) x e) ?_;k_few;exact dW inv (by omega) (λ_ _ _ _ _ z=>z) ⟨_,rfl⟩ (ah.refl _) rfl
       . intro D ys H2 hn S2 hD hl hr
         have hys:ys=(ds.map fz).map V.bl:=by
           refine WN (by rw[hl,hul,wm,wm]) λj h1 h2=>?_
           have:=hr j ys[j] (wc h1);rw[this,W7,W7,wa,wc]
           rfl
         subst hys;o_head pf (.of hD) ?_;k_few;have e:(ds.map fz).all id=ds.all fz:=by rw[xV];rfl
         have:=q H2 (S1.trans S2);rw[decide_eq_true h1,decide_eq_true h8,<- e]at this;exact this
     . rename_i z
       have:=q H1 S1;rw[decide_eq_false (show ¬ 1<=ds.length by omega),WP,WP]at this;exact this
   . k_few
     refine oJ (by simp) (λtp H1 _ S1 e1=>?_);o_head Bk (hd.by S1) e1 ?_;rw[show(oS (.tuple ds) || gS (.tuple ds))=true from rfl];obtain⟨ap,us,rfl,hs,tu⟩:=bV.mp (hd.by S1);have hul:=tu.length;o_head Kb hs ?_;rw[hul];k_few
     . rename_i z0 z
       have:=q H1 S1;rw[decide_eq_false (show ¬ ds.length<=8 by omega),ua,WP]at this;exact this
     . rename_i z0 z
       have h1:1<=ds.length:=by omega
       have h8:ds.length<=8:=by omega
       refine .inr (iN (o0:=none) (tl:=[]) hs rfl (λj y H'=>y=.bl (fz (ds.getD j .none))) ?_ ?_)
       . intro D i x ys o H2 hx inv
         obtain⟨hi,ix⟩:=lH tu hx;o_head JR (ix.by inv.same) (λx e=>bd _ (du hi) x e) ?_;k_few;exact dW inv (by omega) (λ_ _ _ _ _ z=>z) ⟨_,rfl⟩ (ah.refl _) rfl
       . intro D ys H2 hn S2 hD hl hr
         have hys:ys=(ds.map fz).map V.bl:=by
           refine WN (by rw[hl,hul,wm,wm]) λj h1 h2=>?_
           have:=hr j ys[j] (wc h1);rw[this,W7,W7,wa,wc]
           rfl
         subst hys;o_head pf (.of hD) ?_;k_few;have e:(ds.map fz).all id=ds.all fz:=by rw[xV];rfl
         have:=q H2 (S1.trans S2);rw[decide_eq_true h1,decide_eq_true h8,<- e]at this;exact this
     . rename_i z
       have:=q H1 S1;rw[decide_eq_false (show ¬ 1<=ds.length by omega),WP,WP]at this;exact this
theorem zuj{a b:Rat}(h:aR a b):lK a b=true:=by
 obtain⟨h1,h2,h3,h4,h5,h6,h7⟩:=h;have k2:¬ (4:Rat)<a:=VR.mpr h2;have k4:¬ b<0:=VR.mpr h4;have k5:¬ (1:Rat)<b:=VR.mpr h5;have k7:¬ a+b<1:=VR.mpr h7;have k3:(a.den:Int)<=8:=by omega
 have k6:(b.den:Int)<=12:=by omega
 simp[lK,pM,oz,h1,k2,k3,k4,k5,k6,k7]
theorem zAQ{xs:List Rat}(h:∀x∈xs,fS x):(xs.map N).all fz=true:=by
 rw[Wl];intro d hd;obtain⟨x,hx,rfl⟩:=wY.mp hd;rw[L6];exact(h x hx).is
theorem zxW{xs:List Rat}(h:∀x∈xs,fS x):∀e∈xs.map N,∀x,e=N x->ag 4000 x:=by
 intro e he x hx;obtain⟨y,hy,rfl⟩:=wY.mp he;rw[<- zBA hx];exact(h y hy).fo.mono (by decide)
def Ph(K:wb):Sp:=λvs H Q _=>∃x0 x1,vs=[x0,x1] /\ ∃(a b:Rat)(xs:List Rat),Is K H x0 (R a b)/\aR a b/\(Is K H x1 (LN xs)\/Is K H x1 (TN xs))/\1<=xs.length/\xs.length<=8/\(∀x∈xs,fS x) /\ ∀v H',ah H H'->Is K H' v (bG a b xs)->Q v H'
theorem MP{K:wb}{H:Hp}{Q:VK}{E:XK}{a b:Rat}{xs:List Rat}{v w:V}(h1:Is K H v (R a b))(ok:aR a b)(h2:Is K H w (LN xs)\/Is K H w (TN xs))(h3:1<=xs.length)(h4:xs.length<=8)(h5:∀x∈xs,fS x)(q:∀v H',ah H H'->Is K H' v (bG a b xs)->Q v H'):Ph K [v,w] H Q E:=⟨_,_,rfl,a,b,xs,h1,ok,h2,h3,h4,h5,q⟩
theorem Nm(T:Txt K mg a):aO P w K mg base aT 5 a.GJ a.Fo zc (Ph K):=by
 refine T.zM.F.ok zrs ?_ ?_;wtm_at "b2"
 refine⟨_,(ak (bZ (dS (cR (au (Sz T) hr T.Gm (ae (pv 0) af)))) (av Bw) b9)
     (ak (bZ (dS (cR (au (ZF T) hr T.Fh (ae (pv 1) af)))) (av Bw) b9)
     (av (aF (aW (ae (pv 0) (ae (eD (show aY _ (.type "tuple") (eh K)from fq) rfl T.z_tuple eF (ae (pv 1) af)) af))))))),?_⟩
 wtm_at "cl";rw[show start CB [x0,x1]=[some x0,some x1]from rfl];obtain⟨ra,rb,xs,hr,ok,hp,h1,h8,hph,q⟩:=h;o_head Tq hr (ok.ba.mono (by decide)) (ok.bb.mono (by decide)) (λH1 S1=>?_);rw[zuj ok];k_few;have hp1:Is K H1 x1 (LN xs)\/Is K H1 x1 (TN xs):=hp.imp (λz=>z.by S1) (λz=>z.by S1);refine znA (ds:=xs.map N) hp1 (zxW hph) (λH2 S2=>?_);rw[zAQ hph,wm,decide_eq_true h1,decide_eq_true h8,show(true&&true&&true)=true from rfl];have hp2:Is K H2 x1 (LN xs)\/Is K H2 x1 (TN xs):=hp1.imp (λz=>z.by S2) (λz=>z.by S2);have hr2:Is K H2 x0 (R ra rb):=(hr.by S1).by S2;k_few;rcases hp2 with z | z
 . refine ie z (λw H3 S3 i3=>?_)
   o_head bX (ds:=[R ra rb,TN xs]) (by simp) (.cons (hr2.by S3) (.cons i3 .nil)) (λv H4 S4 i4=>?_);exact q v H4 (S1.trans (S2.trans (S3.trans S4))) i4
 . refine M9 z ?_
   o_head bX (ds:=[R ra rb,TN xs]) (by simp) (.cons hr2 (.cons z .nil)) (λv H4 S4 i4=>?_);exact q v H4 (S1.trans (S2.trans S4)) i4
def Nj(K:wb):Sp:=λvs H Q _=>∃x0,vs=[x0] /\ ∃xs:List Rat,(Is K H x0 (LN xs)\/Is K H x0 (TN xs))/\1<=xs.length/\(∀i,ag 4000 (xs.getD i 0)) /\ ∀v,Is K H v (N (bY xs))->Q v H
theorem Ht{K:wb}{H:Hp}{Q:VK}{E:XK}{xs:List Rat}{v:V}(h:Is K H v (LN xs)\/Is K H v (TN xs))(h1:1<=xs.length)(b:∀i,ag 4000 (xs.getD i 0))(q:∀v,Is K H v (N (bY xs))->Q v H):Nj K [v] H Q E:=⟨_,rfl,xs,h,h1,b,q⟩
theorem JH(T:Txt K mg a):aO P w K mg base aT 2 a.GB a.Ft uR (Nj K):=by
 refine T.zQ.F.ok u7 ?_ ?_;wtm_at "b1"
 refine⟨_,(ak (ay 1 u7.nd (ar (pv 0)))
     (ak (gF vG rfl (L8 (pv 0)) (bK (i:=2) u7.nd rfl (Or.inl rfl)) (av (bZ (cR (au (gm T) hr T.fG (ae (pv 1) (ae (pv 2) af)))) (av (ay 1 u7.nd (pv 2))) b9)))
     (av (aF (pv 1))))),?_⟩
 wtm_at "cl";rw[show start NT [x0]=[some x0,none,none]from rfl];obtain⟨xs,hx,h1,bx,q⟩:=h;rcases hx with hx | hx
 . obtain⟨ap,us,rfl,hs,tu⟩:=cu.mp hx
   have hul:us.length=xs.length:=by rw[tu.length,wm]
   o_head kb hx (by decide) (by omega) (λv0 i0=>?_);have i0:Is K H v0 (N (mx (xs.getD 0 0) [])):=i0;o_head .inl (O3 hs (λi σ H'=>∃o v,σ = [some (.ref ap),some v,o]/\H'=H/\Is K H v (N (mx (xs.getD 0 0) (xs.take i)))) ⟨_,v0,rfl,rfl,by rw[ub];exact i0⟩ (λi σ H' _ h=>by obtain⟨_,_,_,rfl,_⟩:=h;exact hs) ?_ ?_)
   . rintro i x σ H' hx' ⟨o,v,rfl,rfl,iv⟩
     obtain⟨hi,ix⟩:=dr tu hx';have b1:=Lo bx h1 i;have b2:=bx i;k_few
     . rename_i z
       exact⟨_,x,rfl,rfl,by rw[my hi,sH,if_pos z];exact ix⟩
     . rename_i z
       exact⟨_,v,rfl,rfl,by rw[my hi,sH,if_neg z];exact iv⟩
   . rintro σ H' ⟨o,v,rfl,rfl,iv⟩
     rw[hul,Wt]at iv;k_few;exact q v iv
 . obtain⟨ap,us,rfl,hs,tu⟩:=bV.mp hx
   have hul:us.length=xs.length:=by rw[tu.length,wm]
   o_head ZS hx (by decide) (by omega) (λv0 i0=>?_);have i0:Is K H v0 (N (mx (xs.getD 0 0) [])):=i0;o_head .inr (CA hs (λi σ H'=>∃o v,σ = [some (.ref ap),some v,o]/\H'=H/\Is K H v (N (mx (xs.getD 0 0) (xs.take i)))) ⟨_,v0,rfl,rfl,by rw[ub];exact i0⟩ (λi σ H' _ h=>by obtain⟨_,_,_,rfl,_⟩:=h;exact hs) ?_ ?_)
   . rintro i x σ H' hx' ⟨o,v,rfl,rfl,iv⟩
     obtain⟨hi,ix⟩:=dr tu hx';have b1:=Lo bx h1 i;have b2:=bx i;k_few
     . rename_i z
       exact⟨_,x,rfl,rfl,by rw[my hi,sH,if_pos z];exact ix⟩
     . rename_i z
       exact⟨_,v,rfl,rfl,by rw[my hi,sH,if_neg z];exact iv⟩
   . rintro σ H' ⟨o,v,rfl,rfl,iv⟩
     rw[hul,Wt]at iv;k_few;exact q v iv
def KL(K:wb):Sp:=λvs H Q _=>∃x0 x1,vs=[x0,x1] /\ ∃(xs:List Rat)(v:Rat),Is K H x0 (TN xs)/\Is K H x1 (N v)/\xs.length<=900 /\ ∀u H',ah H H'->Is K H' u (TW (eC xs v))->Q u H'
theorem zqv{K:wb}{H:Hp}{Q:VK}{E:XK}{xs:List Rat}{v:Rat}{w u:V}(h1:Is K H w (TN xs))(h2:Is K H u (N v))(hl:xs.length<=900)(q:∀u H',ah H H'->Is K H' u (TW (eC xs v))->Q u H'):KL K [w,u] H Q E:=⟨_,_,rfl,xs,v,h1,h2,hl,q⟩
theorem Z2(T:Txt K mg a):aO P w K mg base aT 1 a.GC a.Fx yC (KL K):=by
 refine T.FZ.F.ok UD ?_ ?_;wtm_at "b2";refine⟨_,(av (aF (eD (show aY _ (.type "tuple") (eh K)from fq) rfl T.z_tuple eF (ae (dZ rfl (cq.by (N':=["worm","own","phase"]) (src:=[none,none,some 1]) rfl (show cH _ (aA yD).names y9 ["worm","own","phase"] [none,none,some 1]=true from by decide +kernel)) (ND rfl T.z_enumerate (ae (pv 0) af)) (λ_ _ _ _ _=>by exact(show PG _ _ (gD K 2 _)from ku (n:=2) rfl (eH (bK (i:=0) (show(["worm","own","phase"]:List Str).Nodup from by decide) rfl (Or.inl rfl)) (eH (bK (i:=1) (show(["worm","own","phase"]:List Str).Nodup from by decide) rfl (Or.inl rfl)) jK)))) (λ_ _ _ _ _=>(pH (cc (show aJ _ (wT .Eq) (cN K)from dk hu) (pv 1) (pv 2) (bA _)))) (λ_ _ _ _ _=>(pv 0))) af)))),?_⟩;wtm_at "cl";rw[show start y9 [x0,x1]=[some x0,some x1]from rfl];obtain⟨xs,v,hx,hv,hl,q⟩:=h;obtain⟨ap,us,rfl,hu',tu⟩:=bV.mp hx;have hul:us.length=xs.length:=by rw[tu.length,wm]
 o_head R9 hu' (λD i ys σ' H'=>(∃o1 o2,σ'=[o1,o2,some x1])/\H D=none/\ah H H'/\H' D=some (.lst (vz ((wt i).filter λw=>decide (xs.getD w 0=v))))) (λD H' n s e=>⟨⟨_,_,rfl⟩,n,s,e⟩) (λD i ys σ' H' h=>h.2.2.1.g_ hu') ?_ ?_
 ·rintro D i x ys σ' H1 c H2 hx' ⟨⟨o1,o2,rfl⟩,n,S1,e1⟩ hc S2 e2
  obtain⟨hi,ix⟩:=dr tu hx';have T2:=S1.trans S2;have ix2:=ix.by T2;have hv2:=hv.by T2;have e12:=S2 _ _ e1
  have hfl:((wt i).filter λw=>decide (xs.getD w 0=v)).length<=i:=by
   have:=Wx (λw=>decide (xs.getD w 0=v)) (wt i);rw[vx]at this;exact this
  refine kU (.of e2) rfl ?_;k_few
  ·rename_i z
   refine kQ e12 (by rw[jN];omega) (λH6 E6 e6=>⟨⟨_,_,rfl⟩,n,T2.grow n E6,?_⟩);rw[IE (n:=i),decide_eq_true z,if_pos rfl,B4];exact e6
  ·rename_i z
   refine⟨[],⟨_,_,rfl⟩,n,T2,?_⟩;rw[IE (n:=i),decide_eq_false z,if_neg (by decide),vY];exact e12
 ·rintro D ys σ' H1 ⟨_,n,S1,e1⟩
  rw[hul]at e1;o_head sr (.of e1) (λl H2 n2 S2 e3=>?_);exact q _ H2 (S1.trans S2) (Bp.mpr ⟨l,rfl,.of e3⟩)
def Lj(K:wb):Sp:=λvs H Q _=>∃x0,vs=[x0] /\ ∃(a b:Rat)(xs:List Rat),Is K H x0 (bG a b xs)/\xs.length<=8/\(∀i,ag 4000 (xs.getD i 0)) /\ ∀l H' us,H l=none->ah H H'->H' l=some (.lst us)->ao K H' us ((aj xs).map (jU xs))->Q (.ref l) H'
theorem Aa{K:wb}{H:Hp}{Q:VK}{E:XK}{a b:Rat}{xs:List Rat}{v:V}(h:Is K H v (bG a b xs))(h8:xs.length<=8)(bx:∀i,ag 4000 (xs.getD i 0))(q:∀l H' us,H l=none->ah H H'->H' l=some (.lst us)->ao K H' us ((aj xs).map (jU xs))->Q (.ref l) H'):Lj K [v] H Q E:=⟨_,rfl,a,b,xs,h,h8,bx,q⟩
theorem Tx{m:Nat}{xs:List Rat}(b:∀i,ag m (xs.getD i 0)){x:Rat}(h:x∈xs):ag m x:=by
 obtain⟨j,hj,rfl⟩:=vc h;have:=b j;rw[wa,wc hj]at this;exact this
theorem V_{α β : Type}(f : α -> β)(l:List α):(!(l.map f).isEmpty) = !l.isEmpty:=by cases l<;>rfl
theorem Ag(T:Txt K mg a):aO P w K mg base aT 3 a.G7 a.Gg yn (Lj K):=by
 refine T.rm.F.ok oC ?_ ?_;wtm_at "b1"
 refine⟨_,(ak (ay 1 oC.nd (cV af))
     (ak (ay 2 oC.nd (eD (show aY _ (.type "list") (oD K)from Cr) rfl T.z_list o_ (ae (ar (pv 0)) af)))
     (ak (lD vG (As (pv 2)) (ak (ay 3 oC.nd (au (JH T) hr T.zQ (ae (pv 2) af)))
     (ak (jL (iO vP vV vW jn (pv 1) (ae (aW (ae (pv 3) (ae (au (Z2 T) hr T.FZ (ae (ar (pv 0)) (ae (pv 3) af))) af))) af)))
     (av (mO (i:=2) oC.nd rfl (Or.inl rfl) rfl (cq.by (N':=["other","phase"]) (src:=[none,some 3]) rfl (show cH _ (aA yS).names Ed ["other","phase"] [none,some 3]=true from by decide +kernel)) (gK (pv 2)) (λ_ _ _ _ _=>(bK (i:=0) (show(["other","phase"]:List Str).Nodup from by decide) rfl (Or.inl rfl))) (λ_ _ _ _ _=>(pH (cc (show aJ _ (wT .NotEq) (ee K)from gJ hu) (pv 0) (pv 1) (bA _)))) (λ_ _ _ _ _=>(pv 0)))))))
     (av (aF (pv 1)))))),?_⟩
 wtm_at "cl";rw[show start Ed [x0]=[some x0,none,none,none]from rfl];obtain⟨ra,rb,xs,hw,h8,bx,q⟩:=h;o_head d9 (by simp) (λlt H1 n1 S1 e1=>?_);o_head aG (j:=1) (hw.by S1) rfl (λvp ip=>?_);o_head Dg ip (λll H2 us n2 S2 e2 t2=>?_);have nlt:ll≠lt:=λz=>by subst z;rw[e1]at n2;cases n2
 o_head oE (λm σ' H'=>∃(ll:wg)(left done:List Rat)(us ws:List V)(f:Nat)(o3:Option V),σ'=[some x0,some (.ref lt),some (.ref ll),o3]/\m=left.length/\ah H H'/\ll≠lt/\H' lt=some (.lst ws)/\ao K H' ws (done.map (jU xs))/\H' ll=some (.lst us)/\ao K H' us (left.map N)/\(∀y∈left,y∈xs)/\left.length<=f/\done.length+left.length<=xs.length/\done++ic f left=aj xs) _ ⟨ll,xs,[],us,[],xs.length,_,rfl,rfl,S1.trans S2,nlt,S2 _ _ e1,.nil,e2,t2,λy h=>h,wo _,by simp,rfl⟩ ?_;rintro m σ' H3 ⟨ll,left,done,us,ws,f,o3,rfl,rfl,S3,nl,et,tt',el,tl',sub,hf,hdl,heq⟩;o_head NF (dB el tl') ?_;rw[V_]
 by_cases he:left=[]
 . rw[show(!left.isEmpty)=false by rw[he];rfl]
   refine lP ?_;rw[he,DC,vY]at heq;rw[heq]at tt';k_few;exact q lt H3 ws n1 S3 et tt'
 . rw [show (!left.isEmpty) = true by cases left with
       | nil=>exact absurd rfl he
       | cons y l=>rfl]
   refine kP ?_;refine pT ?_;have hpos:=W2.mpr he
   have bl:∀i,ag 4000 (left.getD i 0):=λi=>by
     rcases wB i left.length with z | z
     . exact Tx bx (sub _ (du z))
     . rw[wa,wF z];exact ag.zero.mono (by decide)
   obtain⟨f',rfl⟩:∃f',f=f'+1:=⟨f-1,by omega⟩;rw[mU he]at heq;have hless:=Pt he;have hwl:=tt'.length;rw[wm]at hwl;o_head Ht (.inl (dB el tl')) hpos bl (λvm im=>?_);o_head gU (aI.of et) ?_;o_head aG (j:=1) (hw.by S3) rfl (λvq iq=>?_);o_head zqv iq im (by omega) (λv4 H4 S4 i4=>?_);o_head bX (ds:=[N (bY left),TW (eC xs (bY left))]) (by simp) (.cons (im.by S4) (.cons i4 .nil)) (λv5 H5 S5 i5=>?_);k_few;have T5:=S4.trans S5;refine jc (T5 _ _ et) (by omega) (λH6 E6 e6=>?_);have K6:=E6.keep (T5 _ _ et);have el6:=E6 _ _ nl (T5 _ _ el);have tl6:ao K H6 us (left.map N):=ao.keep (T5.keep.trans K6) _ _ (gL _) tl'
   have tt6:ao K H6 (ws++[v5]) ((done++[bY left]).map (jU xs)):=by
     rw[vt];exact(ao.keep (T5.keep.trans K6) _ _ (Te ..) tt').snoc (i5.kn K6 (I_ ..))
   have im6:=(im.by T5).fZ K6;have S6:ah H H6:=(S3.trans T5).grow n1 E6;generalize hmx:bY left=mxx at *;o_head pC (.of el6) (λD i ys σ' H'=>(∃o,σ'=[o,some vm])/\H6 D=none/\ah H6 H'/\H' D=some (.lst ys)/\ao K H' ys (((left.take i).filter λy=>!decide (y=mxx)).map N)) (λD H' n s e=>⟨⟨_,rfl⟩,n,s,e,.nil⟩) (λD i ys σ' H' h=>h.2.2.1.seq (.of el6)) ?_ ?_
   . rintro D i x ys σ' H7 hx ⟨⟨o,rfl⟩,n7,S7,e7,t7⟩
     obtain⟨hi,ix⟩:=dr tl6 hx;have ix7:=ix.by S7;have im7:=im6.by S7;have hyl:=t7.length;rw[wm]at hyl;have hfl:=Wx (λy=>!decide (y=mxx)) (left.take i);rw[Wz]at hfl;k_few
     . rename_i z
       refine kQ e7 (by omega) (λH8 E8 e8=>⟨⟨_,rfl⟩,n7,S7.grow n7 E8,e8,?_⟩);have K8:=E8.keep e7;rw[my hi,WS,WG,decide_eq_false z,vt];exact(ao.keep K8 _ _ (gL _) t7).append (.cons (ix7.fZ K8) .nil)
     . rename_i z
       refine⟨ys,⟨_,rfl⟩,n7,S7,e7,?_⟩;rw[my hi,WS,WG,decide_eq_true (by first | exact z | exact V2.mp z)];have:([]:List Rat).filter (λy=>!decide (y=mxx))=[]:=rfl
       simpa using t7
   . rintro D ys σ' H7 ⟨_,n7,S7,e7,t7⟩
     have hul:=tl6.length;rw[wm]at hul;rw[hul,Wt]at t7;k_few;exact⟨(left.filter λy=>!decide (y=mxx)).length,by omega,D,_,done++[mxx],ys,ws++[v5],f',_,rfl,rfl,S6.trans S7,(λz=>by subst z;rw[e6]at n7;cases n7),S7 _ _ e6,ao.same S7 _ _ tt6,e7,t7,λy hy=>sub y (vd.mp hy).1,by omega,by rw[wS];simp only[vZ];omega,by rw[Vt];exact heq⟩
def Lb(K:wb):Sp:=λvs H Q _=>∃x0 x1,vs=[x0,x1] /\ ∃(lw:wg)(left:List Nat)(ps:List Rat),x0=.ref lw/\H lw=some (.lst (vz left))/\Is K H x1 (LN ps)/\(∀w∈left,w<ps.length)/\left.length<=900/\(∀i,ag 4000 (ps.getD i 0)) /\ ∀v H',ah H H'->Is K H' v (TW (aD ps left))->Q v H'
theorem MR{K:wb}{H:Hp}{Q:VK}{E:XK}{lw:wg}{left:List Nat}{ps:List Rat}{v:V}(e:H lw=some (.lst (vz left)))(h:Is K H v (LN ps))(hw:∀w∈left,w<ps.length)(hl:left.length<=900)(b:∀i,ag 4000 (ps.getD i 0))(q:∀v H',ah H H'->Is K H' v (TW (aD ps left))->Q v H'):Lb K [.ref lw,v] H Q E:=⟨_,_,rfl,lw,left,ps,rfl,e,h,hw,hl,b,q⟩
theorem Zt(ps:List Rat)(l:List Nat):(aD ps l).length<=l.length:=Wx _ _
theorem HQ(T:Txt K mg a):aO P w K mg base aT 2 a.F5 a.EU y8 (Lb K):=by
 refine T.zH.F.ok Yw ?_ ?_;wtm_at "b2";refine⟨_,(av (aF (eD (show aY _ (.type "tuple") (eh K)from fq) rfl T.z_tuple eF (ae (dZ rfl (cq.by (N':=["worm","phases"]) (src:=[none,some 1]) rfl (show cH _ (aA sP).names tI ["worm","phases"] [none,some 1]=true from by decide +kernel)) (gK (pv 0)) (λ_ _ _ _ _=>(bK (i:=0) (show(["worm","phases"]:List Str).Nodup from by decide) rfl (Or.inl rfl))) (λ_ _ _ _ _=>(pH (dS (cR (au (gm (K:=K) (mg:=mg) (a:=a) T) hr T.fG (ae (d5 (show fV _ (cK K)from dy) (pv 1) (pv 0) (λ_ _=>rfl)) (ae (bL (v:=.ref a.dJ) rfl T.eJ rfl) af))))))) (λ_ _ _ _ _=>(pv 0))) af)))),?_⟩;wtm_at "cl";rw[show start tI [x0,x1]=[some x0,some x1]from rfl];obtain⟨lw,left,ps,rfl,e1,hx,hw,hl,bp,q⟩:=h;o_head pC (.of e1) (λD i ys σ' H'=>(∃o,σ'=[o,some x1])/\H D=none/\ah H H'/\H' D=some (.lst (vz (aD ps (left.take i))))) (λD H' n s e=>⟨⟨_,rfl⟩,n,s,e⟩) (λD i ys σ' H' h=>h.2.2.1.seq (.of e1)) ?_ ?_
 ·rintro D i x ys σ' H1 hx' ⟨⟨o,rfl⟩,n,S1,e2⟩
  obtain⟨hi,rfl⟩:=C3 hx';have hx1:=hx.by S1;have hlt:=hw _ (Wc hi);have bw:=bp left[i];have hle:=Zt ps (left.take i);have htl:(left.take i).length<=900:=by rw[Wz];omega
  o_head kb hx1 (by omega) (by omega) (λv iv=>?_);rw[wW]at iv;generalize hww:left[i]=ww at *;k_few
  ·rename_i z
   refine kQ e2 (by rw[jN];omega) (λH6 E6 e6=>⟨⟨_,rfl⟩,n,S1.grow n E6,?_⟩);rw[p8 hi,hww,zxA z,B4];exact e6
  ·rename_i z
   refine⟨[],⟨_,rfl⟩,n,S1,?_⟩;rw[p8 hi,hww,ZJ (by first | exact z | exact V2.mp z)];exact e2
 ·rintro D ys σ' H1 ⟨_,n,S1,e2⟩
  rw[jN,Wt]at e2;o_head sr (.of e2) (λl H2 n2 S2 e3=>?_);exact q _ H2 (S1.trans S2) (Bp.mpr ⟨l,rfl,.of e3⟩)
def Jb(K:wb):Sp:=λvs H Q _=>∃x0,vs=[x0] /\ ∃(a b:Rat)(xs:List Rat)(m:Nat),Is K H x0 (bG a b xs)/\ag 10 a/\ag 10 b/\1<=xs.length/\xs.length<=8/\Cm m xs/\m+2+21*xs.length<=3950 /\ ∀v H',ah H H'->Is K H' v (GD a b xs)->Q v H'
theorem De{K:wb}{H:Hp}{Q:VK}{E:XK}{a b:Rat}{xs:List Rat}{m:Nat}{v:V}(h:Is K H v (bG a b xs))(ba:ag 10 a)(bb:ag 10 b)(h1:1<=xs.length)(h8:xs.length<=8)(c:Cm m xs)(hm:m+2+21*xs.length<=3950)(q:∀v H',ah H H'->Is K H' v (GD a b xs)->Q v H'):Jb K [v] H Q E:=⟨_,rfl,a,b,xs,m,h,ba,bb,h1,h8,c,hm,q⟩
structure Zq(K:wb)(a b:Rat)(xs:List Rat)(m:Nat)(H H':Hp)(vw:V)(lp lv ll:wg)(left:List Nat)(ps:List Rat)(done:List (List Nat))(f:Nat)(pv wv:List V)(vwave:V):Prop where
 same:ah H H'
 hp:H lp=none
 hv:H lv=none
 iw:Is K H' vw (N (1-bY xs))
 mL:lp≠lv
 Cg:ll≠lp
 ye:ll≠lv
 ep:H' lp=some (.lst pv)
 tp:ao K H' pv (ps.map N)
 el:H' ll=some (.lst (vz left))
 ev:H' lv=some (.lst wv)
 tv:ao K H' wv (done.map TW)
 iv:Is K H' vwave (TW (aD ps left))
 nd:left.Nodup
 lt:∀w∈left,w<xs.length
 len:ps.length=xs.length
 fl:left.length<=f
 dl:done.length+left.length<=xs.length
 cm:Cm (m+2+21*(xs.length-left.length)) ps
 w1:done++(cv a b f ps left).1=bW a b xs
 w2:(cv a b f ps left).2=(d6 a b xs).2
def MC(K:wb)(a b:Rat)(xs:List Rat)(m:Nat)(H:Hp)(x0 vw:V)(lp lv:wg)(k:Nat)(σ':L2.St)(H':Hp):Prop:=∃(ll:wg)(left:List Nat)(ps:List Rat)(done:List (List Nat))(f:Nat)(pv wv:List V)(vwave:V)(o6 o7:Option V),σ'=[some x0,some vw,some (.ref lp),some (.ref ll),some (.ref lv),some vwave,o6,o7,none]/\k=left.length/\Zq K a b xs m H H' vw lp lv ll left ps done f pv wv vwave
theorem pZ{H:Hp}{p q:wg}{o:HO}(h:H p=none)(k:H q=some o):p≠q:=λe=>by rw[e,k]at h;cases h
theorem zuL{α β γ : Type}(f : α -> β)(g : β -> γ)(l:List α):(!((l.map f).map g).isEmpty) = !l.isEmpty:=by cases l<;>rfl
theorem zxw{α : Type}{l:List α}(h:l≠[]):(!l.isEmpty)=true:=by cases l with
 | nil=>exact absurd rfl h
 | cons x l=>rfl
theorem Dr(T:Txt K mg a):aO P w K mg base aT 4 a.l9 a.G1 sZ (Jb K):=by
 refine T.rG.F.ok iG ?_ ?_;wtm_at "b1"
 refine⟨_,(ak (ay 1 iG.nd (au (tT T) hr T.nI (ae (bL (v:=.ref a.dJ) rfl T.eJ rfl) (ae (au (JH T) hr T.zQ (ae (ar (pv 0)) af)) af))))
     (ak (mO (i:=2) iG.nd rfl (Or.inl rfl) rfl (cq.by (N':=["phase","wait"]) (src:=[none,some 1]) rfl (show cH _ (aA mw).names oh ["phase","wait"] [none,some 1]=true from by decide +kernel)) (gX (ar (pv 0))) (λ_ _ _ _ _=>(bK (i:=0) (show(["phase","wait"]:List Str).Nodup from by decide) rfl (Or.inl rfl))) (λ_ _ _ _ _=>dE) (λ_ _ _ _ _=>(au (fY (K:=K) (mg:=mg) (a:=a) T) hr T.fH (ae (pv 0) (ae (pv 1) af)))))
     (ak (ay 3 iG.nd (Yv rfl rfl T.z_list rfl T.z_range (ae (bQ (show aY _ (.builtin "len") (dg K)from fg) rfl T.z_len fe (ae (pv 2) af)) af)))
     (ak (ay 4 iG.nd (cV af))
     (ak (ay 5 iG.nd (au (HQ T) hr T.zH (ae (pv 3) (ae (pv 2) af))))
     (ak (lD vG (As (pv 5)) (ak (jL (iO vP vV vW jn (pv 4) (ae (pv 5) af)))
     (ak (ay 3 iG.nd (dZ rfl (cq.by (N':=["worm","wave"]) (src:=[none,some 5]) rfl (show cH _ (aA mw).names oh ["worm","wave"] [none,some 5]=true from by decide +kernel)) (gK (pv 3)) (λ_ _ _ _ _=>(bK (i:=0) (show(["worm","wave"]:List Str).Nodup from by decide) rfl (Or.inl rfl))) (λ_ _ _ _ _=>(pH (cc (show aJ _ (wT .NotIn) (kB K true)from zuO) (pv 0) (pv 1) (by with_unfolding_all rfl)))) (λ_ _ _ _ _=>(pv 0))))
     (ak (ay 6 iG.nd (au (tJ T) hr T.nH (ae (ar (pv 0)) (ae (bQ (show aY _ (.builtin "len") (dg K)from fg) rfl T.z_len fe (ae (pv 5) af)) af))))
     (ak (gF vG rfl (gK (pv 3)) (bK (i:=7) iG.nd rfl (Or.inl rfl)) (av (pF (au (Oi T) hr T.zK (ae (pv 6) (ae (d5 dy (pv 2) (pv 7) (λ_ _=>rfl)) af))) (uE (pv 2) (pv 7) ym))))
     (av (ay 5 iG.nd (au (HQ T) hr T.zH (ae (pv 3) (ae (pv 2) af))))))))))
     (ak (mO (i:=8) iG.nd rfl (Or.inl rfl) rfl (cq.by (N':=["worm","phase","left"]) (src:=[none,none,some 3]) rfl (show cH _ (aA mw).names oh ["worm","phase","left"] [none,none,some 3]=true from by decide +kernel)) (zxj rfl T.z_enumerate (ae (pv 2) af)) (λ_ _ _ _ _=>by exact(show PG _ _ (gD K 2 _)from ku (n:=2) rfl (eH (bK (i:=0) (show(["worm","phase","left"]:List Str).Nodup from by decide) rfl (Or.inl rfl)) (eH (bK (i:=1) (show(["worm","phase","left"]:List Str).Nodup from by decide) rfl (Or.inl rfl)) jK)))) (λ_ _ _ _ _=>dE) (λ_ _ _ _ _=>(rR (cc (show aJ _ (wT .In) (kB K false)from YW) (pv 0) (pv 2) (by with_unfolding_all rfl)) (pv 1) (bL (v:=.ref a.cX) rfl T.dH rfl))))
     (av (aF (aW (ae (pv 1) (ae (eD (show aY _ (.type "tuple") (eh K)from fq) rfl T.z_tuple eF (ae (pv 4) af)) (ae (aW (ae (ar (pv 0)) (ae (eD (show aY _ (.type "tuple") (eh K)from fq) rfl T.z_tuple eF (ae (pv 8) af)) af))) af))))))))))))),?_⟩
 wtm_at "cl";rw[show start oh [x0]=[some x0,none,none,none,none,none,none,none,none]from rfl];obtain⟨ra,rb,xs,m,hw,ba,bb,h1,h8,cm,hm,q⟩:=h;have bx:∀i,ag 4000 (xs.getD i 0):=λi=>(cm.get i).mono (by omega)
 have bm:ag 3950 (bY xs):=(cm.fo (gO h1)).mono (by omega);o_head aG (j:=1) hw rfl (λvp ip=>?_);o_head Ht (.inr ip) h1 bx (λvm im=>?_);k_few;rename_i vw H1 S1 iw;refine aG (j:=1) (hw.by S1) rfl (λvp1 ip1=>?_);obtain⟨ap,us,rfl,hu,tu⟩:=bV.mp ip1;refine iN (o0:=none) (tl:=[some vw]) hu rfl (λj y H'=>Is K H' y (N ((bE xs).getD j 0))) ?_ ?_
 . intro D i x ys o H2 hx inv
   obtain⟨hi,ix⟩:=dr tu hx;have S2:=inv.same;have ix2:=ix.by S2;have iw2:=iw.by S2;have bi:=bx i;have bw:ag 3952 (1-bY xs):=(ag.one.sub bm).mono (by decide);k_few;rename_i v3 H3 S3 i3;exact dW inv (by omega) fR ⟨_,rfl⟩ S3 (by rw[zuF hi];exact i3)
 . intro lp ys H2 hnp S2 hD hl hr
   have hl':ys.length=(bE xs).length:=by rw[hl,tu.length,wm,fc]
   have tp:ao K H2 ys ((bE xs).map N):=fU hl' hr;have iw2:=iw.by S2;have T2:=S1.trans S2;have hpH:H lp=none:=gP S1 hnp;clear hl hr hu tu ip1 ip im iw S1 S2 hnp;o_head Y4 (dB hD tp) ?_;rw[fc];o_head Ut (n:=xs.length) (by omega) (λll H3 n3 S3 e3=>?_);o_head d9 (by simp) (λlv H4 n4 S4 e4=>?_);k_few;have hD4:=S4 _ _ (S3 _ _ hD);have tp4:ao K H4 ys ((bE xs).map N):=ao.same (S3.trans S4) _ _ tp;have kz:Cm (m+2) (bE xs):=(Cm.rise (h:=0) (cm.kJ (ys:=0::xs) λy hy=>by rcases wQ.mp hy with rfl | hy;(exact .inr rfl);exact .inl hy) (gO h1)).kJ λy hy=>.inl (wD _ hy)
   have b3:∀i,ag 4000 ((bE xs).getD i 0):=λi=>(kz.get i).mono (by omega)
   refine MR (S4 _ _ e3) (dB hD4 tp4) (λw hw'=>by rw[fc];exact wH.mp hw') (by rw[vx];omega) b3 (λvwave H5 S5 i5=>?_);have T5:=T2.trans (S3.trans (S4.trans S5));have hvH:H lv=none:=gP (T2.trans S3) n4;have mL:lp≠lv:=(pZ n4 (S3 _ _ hD)).symm;have Cg:ll≠lp:=pZ n3 hD;have ye:ll≠lv:=(pZ n4 e3).symm
   have G0:MC K ra rb xs m H x0 vw lp lv xs.length [some x0,some vw,some (.ref lp),some (.ref ll),some (.ref lv),some vwave,none,none,none] H5:=by
     refine⟨ll,wt xs.length,bE xs,[],xs.length,ys,[],vwave,none,none,rfl,by rw[vx],T5,hpH,hvH,iw2.by (S3.trans (S4.trans S5)),mL,Cg,ye,S5 _ _ hD4,ao.same S5 _ _ tp4,S5 _ _ (S4 _ _ e3),S5 _ _ e4,.nil,i5,W6,λw hw'=>wH.mp hw',fc xs,by rw[vx];exact wo _,by rw[vx];simp,kz.mono (by omega),?_,rfl⟩;rw[qp];rfl
   clear T5 S5 S4 S3 T2 hD hD4 tp tp4 b3 kz n3 n4 e3 e4 iw2 i5 hl';o_head oE (MC K ra rb xs m H x0 vw lp lv) _ G0 ?_;clear G0 mL Cg ye;rintro k σ' H6 ⟨ll,left,ps,done,f,pv,wv,vwave,o6,o7,rfl,hk,G⟩;have bp:∀i,ag 4000 (ps.getD i 0):=λi=>(G.cm.get i).mono (by have:=G.dl;omega)
   o_head zyO (show Is K H6 vwave (.tuple (((aD ps left).map λ(w:Nat)=>(w:Int)).map PyData.int))from G.iv) ?_;rw[zuL]
   by_cases he:aD ps left=[]
   . rw[show(!(aD ps left).isEmpty)=false by rw[he];rfl]
     refine lP ?_;have w1:=G.w1;have w2:=G.w2;rw[mi he]at w1 w2;rw[vY]at w1;have eps:ps=(d6 ra rb xs).2.2:=congrArg um w2;have elf:left=(d6 ra rb xs).2.1:=congrArg uk w2;have hph:jo left ps=cQ ra rb xs:=by rw[cQ,<- eps,<- elf]
     o_head Si (.of G.ep) (o0:=none) (o0':=none) (tl:=[some (.ref ll)]) rfl (λj y H'=>Is K H' y (N ((jo left ps).getD j 0))) fR ?_ ?_
     . intro D i x zs o1 o2 H7 c hx inv hc
       obtain⟨hi,ix⟩:=dr G.tp hx;have S7:=inv.2.2.1;refine kU (.of hc) rfl ?_;o_head zyz (aI.of (S7 _ _ G.el)) ?_;k_few
       . rename_i z
         exact yd inv (by have:=G.len;omega) fR ⟨_,_,rfl⟩ (ah.refl _) (by rw[mE hi,if_pos z];exact ix.by S7)
       . rename_i z
         exact yd inv (by have:=G.len;omega) fR ⟨_,_,rfl⟩ (ah.refl _) (by rw[mE hi,if_neg z];exact dP 0 (T.eB _) rfl rfl)
     . intro D zs H7 hn S7 hD hl hr
       have hpl:=G.tp.length;rw[wm]at hpl;have tz:ao K H7 zs ((jo left ps).map N):=fU (by rw[hl,JI,hpl]) hr;rw[hph]at tz;have tv:=ao.same S7 _ _ G.tv;have ev:=S7 _ _ G.ev;have iw7:=G.iw.by S7;have T7:=G.same.trans S7;rw[w1]at tv;o_head ie (cu.mpr ⟨lv,wv,rfl,.of ev,tv⟩) (λv8 H8 S8 i8=>?_);o_head aG (j:=0) (hw.by (T7.trans S8)) rfl (λv9 i9=>?_);o_head ie (dB (S8 _ _ hD) (ao.same S8 _ _ tz)) (λv10 H10 S10 i10=>?_);o_head bX (ds:=[R ra rb,TN (cQ ra rb xs)]) (by simp) (.cons (i9.by S10) (.cons i10 .nil)) (λv11 H11 S11 i11=>?_);o_head bX (ds:=[N (1-bY xs),gB (bW ra rb xs),bG ra rb (cQ ra rb xs)]) (by simp) (.cons (iw7.by (S8.trans (S10.trans S11))) (.cons (i8.by (S10.trans S11)) (.cons i11 .nil))) (λv12 H12 S12 i12=>?_);exact q v12 H12 (T7.trans (S8.trans (S10.trans (S11.trans S12)))) i12
   . rw[zxw he]
     refine kP ?_;refine pT ?_;have hwl:=G.tv.length;rw[wm]at hwl;have hdl:=G.dl;have hlen:=AM ps left;have hpos:0<(aD ps left).length:=W2.mpr he;o_head gU (aI.of G.ev) ?_;o_head jc G.ev (by omega) (λH7 E7 e7=>?_);have K7:br H6 H7:=E7.keep G.ev;have S7:ah H H7:=G.same.grow G.hv E7;have el7:=E7 _ _ G.ye G.el;have ep7:=E7 _ _ G.mL G.ep;have tp7:=ao.keep K7 _ _ (gL _) G.tp;have iv7:=G.iv.kn K7 (Ay _);have iw7:=G.iw.fZ K7
     have tv7:ao K H7 (wv++[vwave]) ((done++[aD ps left]).map TW):=by
       rw[vt];exact(ao.keep K7 _ _ (tP _) G.tv).snoc iv7
     obtain⟨aw,rfl,hsw⟩:=Bp.mp iv7;o_head pC (.of el7) (λD i ys σ' H'=>(∃o,σ'=[o,some (.ref aw)])/\H7 D=none/\ah H7 H'/\H' D=some (.lst (vz (bP (left.take i) (aD ps left))))) (λD H' n s e=>⟨⟨_,rfl⟩,n,s,e⟩) (λD i ys σ' H' h=>h.2.2.1.seq (.of el7)) ?_ ?_
     . rintro D i x ys σ' H8 hx' ⟨⟨o,rfl⟩,n,S8,e8⟩
       obtain⟨hi,rfl⟩:=C3 hx';have hle:(bP (left.take i) (aD ps left)).length<=(left.take i).length:=Wx _ _;rw[Wz]at hle;o_head zta (S8.g_ hsw) ?_;generalize hww:left[i]=ww at *;k_few
       . rename_i z
         refine kQ e8 (by rw[jN];omega) (λH9 E9 e9=>⟨⟨_,rfl⟩,n,S8.grow n E9,?_⟩);rw[p8 hi,hww,zui z,B4];exact e9
       . rename_i z
         refine⟨[],⟨_,rfl⟩,n,S8,?_⟩;rw[p8 hi,hww,zr5 (by first | exact z | exact V2.mp z)];exact e8
     . rintro D ys σ' H8 ⟨_,n8,S8,e8⟩
       rw[jN,Wt]at e8;have nD1:D≠lp:=pZ n8 ep7;have nD2:D≠lv:=pZ n8 e7;have T8:=S7.trans S8;have iv8:=iv7.by S8;o_head aG (j:=0) (hw.by T8) rfl (λvr ir=>?_);o_head N0 iv8 ?_;o_head CS ir ba bb (by omega) (by omega) (λvpush H9 S9 ipush=>?_);rw[wW]at ipush;have bf:ag 700 (ra^(aD ps left).length):=(ba.pow _).mono (by omega);have bg:ag 1500 (aB ra rb (aD ps left).length):=(ba.aB bb _).mono (by omega);have T9:=S8.trans S9;have ep9:=T9 _ _ ep7;have tp9:ao K H9 pv (ps.map N):=ao.same T9 _ _ tp7;have e9:=S9 _ _ e8;have ev9:=T9 _ _ e7;have ndl:=mh (wave:=aD ps left) G.nd;have ltl:=nD (wave:=aD ps left) G.lt;generalize hL:bP left (aD ps left)=left' at *;o_head O3 (.of e9) (λi σ'' H''=>∃o pv',σ''=[some x0,some vw,some (.ref lp),some (.ref D),some (.ref lv),some (.ref aw),some vpush,o,none]/\Exc lp H9 H''/\H'' lp=some (.lst pv')/\ao K H'' pv' ((cy (ra^(aD ps left).length) (aB ra rb (aD ps left).length) ps (left'.take i)).map N)) ⟨_,pv,rfl,Exc.refl _ _,ep9,tp9⟩ (λi σ'' H'' _ ⟨_,_,_,e,_⟩=>.of (e _ _ nD1 e9)) ?_ ?_
       . rintro i x σ'' H10 hx' ⟨o,pv',rfl,E10,e10,t10⟩
         obtain⟨hi,rfl⟩:=C3 hx';have K10:br H9 H10:=E10.keep ep9;have hlt:=ltl _ (Wc hi);have hpl:=iE (ra^(aD ps left).length) (aB ra rb (aD ps left).length) (left'.take i) ps;have hps:=G.len
         have bq:ag 4000 ((cy (ra^(aD ps left).length) (aB ra rb (aD ps left).length) ps (left'.take i)).getD left'[i] 0):=by
           have nt:(left'.take i).Nodup:=ndl.sublist (x8 ..);rw[jg _ _ _ _ nt (λw hw'=>by rw[hps];exact ltl w (Xz _ _ hw'))];rw[if_neg]
           . exact bp _
           . intro hm
             obtain⟨j,hj,ej⟩:=vc hm;rw[Wz]at hj;rw[Xc]at ej;exact absurd ej ((Wv.mp ndl) j i (by omega) hi (by omega))
         have ip10:=ipush.kn K10 (DI _ _);generalize hww:left'[i]=ww at *;generalize hqs:cy (ra^(aD ps left).length) (aB ra rb (aD ps left).length) ps (left'.take i)=qs at *;o_head kb (dB e10 t10) (by omega) (by omega) (λv11 i11=>?_);rw[wW]at i11;o_head JF ip10 i11 bf bg (bq.mono (by decide)) (λv12 H12 S12 i12=>?_);have e12:=S12 _ _ e10;have hvl:=t10.length;rw[wm]at hvl;o_head Ei (j:=ww) e12 (by unfold h9;rw[if_pos (by omega),if_pos (by omega)];simp) (λH13 E13 e13=>?_);refine⟨_,_,rfl,E10.trans (S12.exc.trans E13),e13,?_⟩;have K13:=E13.keep e12;rw[p8 hi,hww,U3,hqs];refine fU (by rw[Vm,Vm];exact hvl) (λj v hj=>?_);rw[Vu]at hj
         by_cases hjw:ww=j
         . subst hjw
           rw[if_pos rfl,if_pos (by omega)]at hj;cases hj;rw[Js (by omega)];exact i12.fZ K13
         . rw[if_neg hjw]at hj
           rw[LJ hjw];obtain⟨_,ij⟩:=dr t10 hj;exact(ij.by S12).fZ K13
       . rintro σ'' H10 ⟨o,pv',rfl,E10,e10,t10⟩
         rw[jN,Wt]at t10;have K10:br H9 H10:=E10.keep ep9;have hps:=G.len
         have cm10:Cm (m+2+21*(xs.length-left'.length)) (cy (ra^(aD ps left).length) (aB ra rb (aD ps left).length) ps left'):=by
           have c0:Cm (m+2+21*(xs.length-left.length)) (0::ps):=G.cm.kJ λy hy=>by rcases wQ.mp hy with rfl | hy;(exact .inr rfl);exact .inl hy
           exact((c0.wave ba bb (aD ps left).length ndl (λw hw'=>by rw[hps];exact ltl w hw')).kJ λy hy=>.inl (wD _ hy)).mono (by omega)
         have hpl:=iE (ra^(aD ps left).length) (aB ra rb (aD ps left).length) left' ps;have w1:=G.w1;have w2:=G.w2;have hfl:=G.fl;obtain⟨f',rfl⟩:∃f',f=f'+1:=⟨f-1,by omega⟩;rw[iX he,hL]at w1 w2;generalize hqs:cy (ra^(aD ps left).length) (aB ra rb (aD ps left).length) ps left'=qs at *;k_few;have e10':=E10 _ _ nD1 e9;refine MR e10' (dB e10 t10) (λw hw'=>by rw[hpl,hps];exact ltl w hw') (by omega) (λi=>(cm10.get i).mono (by omega)) (λvwave2 H11 S11 i11=>?_);k_few;have KA:=T9.keep.trans K10;refine⟨left'.length,by omega,D,left',qs,done++[aD ps left],f',pv',wv++[V.ref aw],vwave2,_,_,rfl,rfl,?_⟩;exact⟨((S7.trans T9).grow G.hp E10).trans S11,G.hp,G.hv,(iw7.fZ KA).by S11,G.mL,nD1,nD2,S11 _ _ e10,ao.same S11 _ _ t10,S11 _ _ e10',S11 _ _ (E10 _ _ G.mL.symm ev9),ao.same S11 _ _ (ao.keep KA _ _ (tP _) tv7),i11,ndl,ltl,by rw[hpl];exact hps,by omega,by rw[wS];simp;omega,cm10,by rw[Vt];exact w1,w2⟩
def Iw(K:wb):Sp:=λvs H Q _=>∃x0 x1,vs=[x0,x1] /\ ∃(a b:Rat)(xs:List Rat)(n:Int),x1=.int n/\Is K H x0 (bG a b xs)/\ag 10 a/\ag 10 b/\1<=xs.length/\xs.length<=8/\0<=n/\n<=40/\(∀i,i<=n.toNat->Cm 3700 (aN a b xs i::ai a b xs i)) /\ ∀l H',H l=none->ah H H'->Is K H' (.ref l) (.list (fj a b xs n.toNat))->Q (.ref l) H'
theorem Kw{K:wb}{H:Hp}{Q:VK}{E:XK}{a b:Rat}{xs:List Rat}{n:Int}{v:V}(h:Is K H v (bG a b xs))(ba:ag 10 a)(bb:ag 10 b)(h1:1<=xs.length)(h8:xs.length<=8)(n0:0<=n)(n1:n<=40)(c:∀i,i<=n.toNat->Cm 3700 (aN a b xs i::ai a b xs i))(q:∀l H',H l=none->ah H H'->Is K H' (.ref l) (.list (fj a b xs n.toNat))->Q (.ref l) H'):Iw K [v,.int n] H Q E:=⟨_,_,rfl,a,b,xs,n,rfl,h,ba,bb,h1,h8,n0,n1,c,q⟩
theorem Mc(T:Txt K mg a):aO P w K mg base aT 5 a.GV a.FO sU (Iw K):=by
 refine T.zR.F.ok kg ?_ ?_;wtm_at "b2"
 refine⟨_,(ak (ay 2 kg.nd (cV af))
     (ak (ay 3 kg.nd (bL (v:=.ref a.cX) rfl T.dH rfl))
     (ak (ay 4 kg.nd (pv 0))
     (ak (gF vG rfl (kW rfl T.z_range (ae (pv 1) af)) (bK (i:=5) kg.nd rfl (Or.inl rfl)) (ak (ay 6 kg.nd (au (Dr T) hr T.rG (ae (pv 4) af)))
     (ak (ay 3 kg.nd (au (fY T) hr T.fH (ae (pv 3) (ae (ar (pv 6)) af))))
     (ak (ay 4 kg.nd (ar (pv 6)))
     (av (jL (iO vP vV vW jn (pv 2) (ae (aW (ae (pv 3) (ae (ar (pv 6)) (ae (ar (pv 4)) af)))) af))))))))
     (av (aF (pv 2))))))),?_⟩
 wtm_at "cl";rw[show start Mr [x0,x1]=[some x0,some x1,none,none,none,none,none]from rfl];obtain⟨ra,rb,xs,n,rfl,hw,ba,bb,h1,h8,n0,n1,cm,q⟩:=h;o_head d9 (by simp) (λlr H1 nr S1 e1=>?_);o_head ng (n:=n) (by omega) (by omega) (λi σ H'=>∃vh vs o5 o6 us,σ = [some x0,some (.int n),some (.ref lr),some vh,some vs,o5,o6]/\ah H H'/\H' lr=some (.lst us)/\ao K H' us (fj ra rb xs i)/\Is K H' vh (N (aN ra rb xs i))/\Is K H' vs (bG ra rb (ai ra rb xs i))) ⟨_,_,_,_,[],rfl,S1,e1,.nil,dP 0 (T.eB _) rfl rfl,hw.by S1⟩ ?_ ?_
 . rintro i σ H2 hi ⟨vh,vs,o5,o6,us,rfl,S2,e2,t2,ih,iw⟩
   have hc:=cm i (by omega);have hpl:=bR ra rb xs i;have bh:ag 3700 (aN ra rb xs i):=hc.fo (wJ ..);have hc':Cm 3700 (ai ra rb xs i):=hc.kJ λy hy=>.inl (wD _ hy)
   have bw:ag 3702 (1-bY (ai ra rb xs i)):=(ag.one.sub (hc'.fo (gO (by omega)))).mono (by decide);o_head De iw ba bb (by omega) (by omega) hc' (by rw[hpl];omega) (λv3 H3 S3 i3=>?_);o_head aG (j:=0) i3 rfl (λv4 i4=>?_);have ih3:=ih.by S3;k_few;rename_i v5 H5 S5 i5;refine aG (j:=2) (i3.by S5) rfl (λv6 i6=>?_);have T5:=S3.trans S5;o_head gU (aI.of (T5 _ _ e2)) ?_;o_head aG (j:=1) (i3.by S5) rfl (λv7 i7=>?_);o_head aG (j:=1) i6 rfl (λv8 i8=>?_);o_head bX (ds:=[N (aN ra rb xs (i+1)),gB (bW ra rb (ai ra rb xs i)),TN (ai ra rb xs (i+1))]) (by simp) (.cons i5 (.cons i7 (.cons i8 .nil))) (λv9 H9 S9 i9=>?_);k_few;have T9:=T5.trans S9;have e9:=T9 _ _ e2;have hul:=t2.length;rw[Zv]at hul;refine jc e9 (by omega) (λH10 E10 e10=>?_);have K10:=E10.keep e9;have i10:=i9.kn K10 (MQ _ _ _)
   have t10:ao K H10 (us++[v9]) (fj ra rb xs (i+1)):=by
     rw[AQ];exact(ao.keep K10 _ _ (zpp ..) (ao.same T9 _ _ t2)).snoc i10
   exact⟨_,_,_,_,_,rfl,(S2.trans T9).grow nr E10,e10,t10,(i5.by S9).fZ K10,(i6.by S9).kn K10 (zy0 _ _ _)⟩
 . rintro σ H2 ⟨vh,vs,o5,o6,us,rfl,S2,e2,t2,ih,iw⟩
   k_few;exact q lr H2 nr S2 (cu.mpr ⟨lr,us,rfl,.of e2,t2⟩)
def BD(a b:Rat)(xs:List Rat)(n:Nat):wz:=.tuple [N (aN a b xs n),bG a b (ai a b xs n)]
def Nw(K:wb):Sp:=λvs H Q _=>∃x0 x1,vs=[x0,x1] /\ ∃(a b:Rat)(xs:List Rat)(n:Int),x1=.int n/\Is K H x0 (bG a b xs)/\ag 10 a/\ag 10 b/\1<=xs.length/\xs.length<=8/\0<=n/\n<=40/\(∀i,i<=n.toNat->Cm 3700 (aN a b xs i::ai a b xs i)) /\ ∀v H',ah H H'->Is K H' v (BD a b xs n.toNat)->Q v H'
theorem JK{K:wb}{H:Hp}{Q:VK}{E:XK}{a b:Rat}{xs:List Rat}{n:Int}{v:V}(h:Is K H v (bG a b xs))(ba:ag 10 a)(bb:ag 10 b)(h1:1<=xs.length)(h8:xs.length<=8)(n0:0<=n)(n1:n<=40)(c:∀i,i<=n.toNat->Cm 3700 (aN a b xs i::ai a b xs i))(q:∀v H',ah H H'->Is K H' v (BD a b xs n.toNat)->Q v H'):Nw K [v,.int n] H Q E:=⟨_,_,rfl,a,b,xs,n,rfl,h,ba,bb,h1,h8,n0,n1,c,q⟩
theorem yR{K:wb}{H:Hp}{Q:VK}{v:V}{ds:List wz}{d:wz}(h:Is K H v (.list (ds++[d])))(q:∀x,Is K H x d->Q x H):cK K v (.int (-1)) H Q:=by
 obtain⟨a,xs,rfl,hs,t⟩:=cu.mp h;have hl:=t.length;rw[wS,vZ]at hl;obtain⟨x,e1,hx⟩:=t.get (i:=ds.length) (d:=d) (by rw[vM (wo _),VI];rfl);exact g6 hs (Cw (by rw[hl];exact e1)) (q x hx)
theorem SU(T:Txt K mg a):aO P w K mg base aT 6 a.behind a.Gd u0 (Nw K):=by
 refine T.Gv.F.ok Di ?_ ?_;wtm_at "b2"
 refine⟨_,(ak (ay 2 Di.nd (au (Mc T) hr T.zR (ae (pv 0) (ae (pv 1) af))))
     (ak (bZ (dS (As (pv 2))) (av (aF (aW (ae (bL (v:=.ref a.cX) rfl T.dH rfl) (ae (pv 0) af))))) b9)
     (ak (ay 3 Di.nd (d5 dy (pv 2) (iD gW az) (λ_ _=>rfl)))
     (av (aF (aW (ae (ar (pv 3)) (ae (aW (ae (ar (pv 0)) (ae (ar (pv 3)) af))) af)))))))),?_⟩
 wtm_at "cl";rw[show start Ot [x0,x1]=[some x0,some x1,none,none]from rfl];obtain⟨ra,rb,xs,n,rfl,hw,ba,bb,h1,h8,n0,n1,cm,q⟩:=h;o_head Kw hw ba bb h1 h8 n0 n1 cm (λlr H1 nr S1 i1=>?_);o_head NF i1 ?_;generalize n.toNat=k at *;cases k with
 | zero =>
   rw[show(!(fj ra rb xs 0).isEmpty)=false from rfl];o_head bX (ds:=[N 0,bG ra rb xs]) (by simp) (.cons (dP 0 (T.eB _) rfl rfl) (.cons (hw.by S1) .nil)) (λv H2 S2 i2=>?_);exact q v H2 (S1.trans S2) i2
 | succ k =>
   rw[AQ]at i1;rw[show(!(fj ra rb xs (k+1)).isEmpty)=true by rw[AQ];simp];o_head yR i1 (λv2 i2=>?_);have i2:Is K H1 v2 (gQ (aN ra rb xs (k+1)) (bW ra rb (ai ra rb xs k)) (ai ra rb xs (k+1))):=i2;o_head aG (j:=0) i2 rfl (λv3 i3=>?_);o_head aG (j:=0) (hw.by S1) rfl (λv4 i4=>?_);o_head aG (j:=2) i2 rfl (λv5 i5=>?_);o_head bX (ds:=[R ra rb,TN (ai ra rb xs (k+1))]) (by simp) (.cons i4 (.cons i5 .nil)) (λv6 H6 S6 i6=>?_);o_head bX (ds:=[N (aN ra rb xs (k+1)),bG ra rb (ai ra rb xs (k+1))]) (by simp) (.cons (i3.by S6) (.cons i6 .nil)) (λv7 H7 S7 i7=>?_);exact q v7 H7 (S1.trans (S6.trans S7)) i7
def IK(K:wb):Sp:=λvs H Q _=>∃x0,vs=[x0] /\ ∃(a b:Rat)(xs:List Rat),Is K H x0 (bG a b xs)/\Q (.bl (decide (0∈xs))) H
theorem J3{K:wb}{H:Hp}{Q:VK}{E:XK}{a b:Rat}{xs:List Rat}{v:V}(h:Is K H v (bG a b xs))(q:Q (.bl (decide (0∈xs))) H):IK K [v] H Q E:=⟨_,rfl,a,b,xs,h,q⟩
theorem Nl(T:Txt K mg a):aO P w K mg base aT 1 a.G5 a.FJ rX (IK K):=by
 refine T.zT.F.ok Ui ?_ ?_;wtm_at "b1";refine⟨_,(av (aF (dA (show aJ _ (wT .In) (yt K)from Pa hu) (bL (v:=.ref a.cX) rfl T.dH rfl) (ar (pv 0)) (by with_unfolding_all rfl)))),?_⟩;wtm_at "cl";rw[show start C4 [x0]=[some x0]from rfl];obtain⟨ra,rb,xs,hw,q⟩:=h;o_head aG (j:=1) hw rfl (λvp ip=>?_);exact zxN (dP 0 (T.eB _) rfl rfl) ip q
def a_(xs:List Rat):List Rat:=(aj xs).dropLast
def Ma(xs:List Rat):wz:=.tuple [TZ (aQ xs),TN (a_ xs)]
def MX(K:wb)(a:Ad):Sp:=λvs H Q E=>∃x0,vs=[x0] /\ ∃(ra rb:Rat)(xs:List Rat),Is K H x0 (bG ra rb xs)/\xs.length<=8/\(∀i,ag 4000 (xs.getD i 0))/\(¬ 0∈xs->∀H',ah H H'->E (.ref a.dQ) none H')/\(0∈xs->∀v H',ah H H'->Is K H' v (Ma xs)->Q v H')
theorem Dt{K:wb}{a:Ad}{H:Hp}{Q:VK}{E:XK}{ra rb:Rat}{xs:List Rat}{v:V}(h:Is K H v (bG ra rb xs))(h8:xs.length<=8)(bx:∀i,ag 4000 (xs.getD i 0))(qe:¬ 0∈xs->∀H',ah H H'->E (.ref a.dQ) none H')(q:0∈xs->∀v H',ah H H'->Is K H' v (Ma xs)->Q v H'):MX K a [v] H Q E:=⟨_,rfl,ra,rb,xs,h,h8,bx,qe,q⟩
theorem Ic:∀(n:Nat)(l:List Rat),(ic n l).length<=n
 | 0,l=>wo _
 | n+1,[]=>by rw[DC];simp
 | n+1,x::l=>by
  rw[mU (by simp),vR];have:=Ic n ((x::l).filter λy=>!decide (y=bY (x::l)));omega
theorem DO(T:Txt K mg a):aO P w K mg base (eI P w) 4 a.laid a.GU yg (MX K a):=by
 refine T.rF.F.oN uF ?_ ?_;wtm_at "b1"
 refine⟨_,(ak (bZ (dS (cR (au (Nl T) hr T.zT (ae (pv 0) af)))) (av (LV T.Rw rfl rfl T.F6 N_ (ae cz af))) b9)
     (ak (ay 1 uF.nd (au (Ag T) hr T.rm (ae (pv 0) af)))
     (ak (ay 2 uF.nd (eD (show aY _ (.type "tuple") (eh K)from fq) rfl T.z_tuple eF (ae (dZ rfl (cq.by (N':=["row"]) (src:=[none]) rfl (show cH _ (aA oI).names w_ ["row"] [none]=true from by decide +kernel)) (gK (pv 1)) (λ_ _ _ _ _=>(bK (i:=0) (show(["row"]:List Str).Nodup from by decide) rfl (Or.inl rfl))) (λ_ _ _ _ _=>dE) (λ_ _ _ _ _=>(bQ (show aY _ (.builtin "len") (dg K)from fg) rfl T.z_len fe (ae (yK (K:=K) dy (pv 0)) af)))) af)))
     (ak (ay 3 uF.nd (eD (show aY _ (.type "tuple") (eh K)from fq) rfl T.z_tuple eF (ae (dZ rfl (cq.by (N':=["row"]) (src:=[none]) rfl (show cH _ (aA oI).names w_ ["row"] [none]=true from by decide +kernel)) (gK (jC jH (pv 1) jx (jX (iD gW az)))) (λ_ _ _ _ _=>(bK (i:=0) (show(["row"]:List Str).Nodup from by decide) rfl (Or.inl rfl))) (λ_ _ _ _ _=>dE) (λ_ _ _ _ _=>(yK (K:=K) dy (pv 0)))) af)))
     (av (aF (aW (ae (pv 2) (ae (pv 3) af))))))))),?_⟩
 wtm_at "cl";rw[show start w_ [x0]=[some x0,none,none,none]from rfl];obtain⟨ra,rb,xs,hw,h8,bx,qe,q⟩:=h;have hvl:(aj xs).length<=8:=Wd (Ic _ _) h8;o_head J3 hw ?_;k_few
 . rename_i z
   exact⟨by simp;decide,qe z H (ah.refl _)⟩
 . rename_i z
   have z:=(by first | exact z | exact V2.mp z:0∈xs);refine Aa hw h8 bx (λlr H1 us n1 S1 e1 t1=>?_);have hul:=t1.length;rw[wm]at hul;o_head jA (.of e1) (o0:=none) (tl:=[]) rfl (λj y _=>y=.int ((aQ xs).getD j 0)) ?_ ?_
   . intro D j x ys o H2 hx inv
     obtain⟨hj,ix⟩:=lH t1 hx;rw[wm]at hj;rw[wa,wu,wc hj]at ix;have ix2:Is K H2 x (jU xs (aj xs)[j]):=ix.by inv.same;o_head aG (j:=1) ix2 rfl (λv3 i3=>?_);o_head N0 i3 ?_;o_head dW inv (by omega) (λ_ _ _ _ _ h=>h) ⟨_,rfl⟩ (ah.refl _) ?_;unfold aQ;rw[wa,wu,wc hj]
     rfl
   . intro D ys H2 hn S2 hD hl hr
     have hys:ys=(aQ xs).map V.int:=M6 (by rw[hl,hul];unfold aQ;rw[wm]) hr;subst hys;o_head sr (.of hD) (λl3 H3 n3 S3 e3=>?_);have i3:Is K H3 (.ref l3) (TZ (aQ xs)):=k_.mpr ⟨l3,rfl,.of e3⟩;have T3:=S2.trans S3;o_head pX (cu.mpr ⟨lr,us,rfl,.of (T3 _ _ e1),ao.same T3 _ _ t1⟩) (λl4 H4 us4 n4 S4 e4 t4=>?_);rw[O9,<- Xk]at t4;o_head jA (.of e4) (o0:=none) (tl:=[]) rfl (λj y H'=>Is K H' y (N ((a_ xs).getD j 0))) ?_ ?_
     . intro D' j x ys o H5 hx inv
       obtain⟨hj,ix⟩:=lH t4 hx;have hj2:j<(a_ xs).length:=by rw[wm]at hj;exact hj
       have hj8:(a_ xs).length<=8:=by unfold a_;rw[xv];omega
       rw[wa,wu,wc (show j<(aj xs).dropLast.length from hj2)]at ix;have ix5:Is K H5 x (jU xs (a_ xs)[j]):=ix.by inv.same;o_head aG (j:=0) ix5 rfl (λv6 i6=>?_);o_head dW inv (by omega) fR ⟨_,rfl⟩ (ah.refl _) ?_;rw[wa,wc hj2];exact i6
     . intro D' zs H5 hn5 S5 hD5 hl5 hr5
       have hu4:=t4.length;rw[wm]at hu4;have tz:ao K H5 zs ((a_ xs).map N):=fU (by rw[hl5,hu4];rfl) hr5;o_head ie (dB hD5 tz) (λv6 H6 S6 i6=>?_);o_head bX (ds:=[TZ (aQ xs),TN (a_ xs)]) (by simp) (.cons (i3.by (S4.trans (S5.trans S6))) (.cons i6 .nil)) (λv7 H7 S7 i7=>?_);exact q z v7 H7 (S1.trans (T3.trans (S4.trans (S5.trans (S6.trans S7))))) i7
theorem UO{m:Nat}{xs:List Rat}(h:Cm m xs)(i j:Nat):ag (m+2) (xs.getD i 0+(1-xs.getD j 0)):=by
 obtain⟨B,h0,h1,h2⟩:=h
 have key:∀i,∃t:Int,xs.getD i 0=wx t B/\Bd m t:=λi=>by
  rcases wB i xs.length with q | q
  ·rw[wa,wc q]
   exact h2 _ (Wc q)
  ·rw[wa,wF q]
   exact⟨0,by simp,⟨by simp;exact Wj m⟩⟩
 obtain⟨t,et,bt⟩:=key i;obtain⟨z,ez,bz⟩:=key j
 have e2:wx t B+(1-wx z B)=wx (t+B-z) B:=by
  symm
  refine fb (by omega) ?_;have q1:=cE t (show B≠0 by omega);have q2:=cE z (show B≠0 by omega);have q3:((t+B-z:Int):Rat)=(t:Rat)+(B:Rat)-(z:Rat):=by push_cast;rfl
  rw[q3,<- q1,<- q2]
  grind
 rw[et,ez,e2];exact ag.divInt (by omega) (((bt.add h1).sub bz).mono (by omega)) (h1.mono (by omega))
def Ni(K:wb):Sp:=λvs H Q _=>∃x0 x1 x2 x3,vs=[x0,x1,x2,x3] /\ ∃(a b:Rat)(n i:Int)(xs:List Rat)(m:Nat),x1=.int n/\x3=.int i/\Is K H x0 (R a b)/\Is K H x2 (LN xs)/\ag 10 a/\ag 10 b/\0<=n/\n<=64/\0<=i/\i<xs.length/\xs.length<=100/\Cm m xs/\m<=8000 /\
 ∀l H' us,H l=none->ah H H'->H' l=some (.lst us)->ao K H' us ((dF a b n.toNat xs i.toNat).map N)->Q (.ref l) H'
theorem zkt{K:wb}{H:Hp}{Q:VK}{E:XK}{a b:Rat}{n i:Int}{xs:List Rat}{m:Nat}{v w:V}(h1:Is K H v (R a b))(h2:Is K H w (LN xs))(b1:ag 10 a)(b2:ag 10 b)(h0:0<=n)(h64:n<=64)(i0:0<=i)(i1:i<xs.length)(hl:xs.length<=100)(hm:Cm m xs)(hm2:m<=8000)
  (q:∀l H' us,H l=none->ah H H'->H' l=some (.lst us)->ao K H' us ((dF a b n.toNat xs i.toNat).map N)->Q (.ref l) H'):Ni K [v,.int n,w,.int i] H Q E:=⟨_,_,_,_,rfl,a,b,n,i,xs,m,rfl,rfl,h1,h2,b1,b2,h0,h64,i0,i1,hl,hm,hm2,q⟩
theorem TH(T:Txt K mg a):aO P w K mg base aT 4 a.EV a.Ey y7 (Ni K):=by
 refine T.EC.F.ok zh ?_ ?_;wtm_at "b4"
 refine⟨_,(ak (ay 4 zh.nd (au (tT T) hr T.nI (ae (bL (v:=.ref a.dJ) rfl T.eJ rfl) (ae (d5 dy (pv 2) (pv 3) (λ_ _=>rfl)) af))))
     (ak (ay 5 zh.nd (au (tJ T) hr T.nH (ae (pv 0) (ae (pv 1) af))))
     (ak (mO (i:=6) zh.nd rfl (Or.inl rfl) rfl (cq.by (N':=["phase","push","wait"]) (src:=[none,some 5,some 4]) rfl (show cH _ (aA rY).names Cu ["phase","push","wait"] [none,some 5,some 4]=true from by decide +kernel)) (gK (pv 2)) (λ_ _ _ _ _=>(bK (i:=0) (show(["phase","push","wait"]:List Str).Nodup from by decide) rfl (Or.inl rfl))) (λ_ _ _ _ _=>dE) (λ_ _ _ _ _=>(au (Oi (K:=K) (mg:=mg) (a:=a) T) hr T.zK (ae (pv 1) (ae (au (fY (K:=K) (mg:=mg) (a:=a) T) hr T.fH (ae (pv 0) (ae (pv 2) af))) af)))))
     (ak (pF (bL (v:=.ref a.cX) rfl T.dH rfl) (uE (pv 6) (pv 3) ym))
     (av (aF (pv 6))))))),?_⟩
 wtm_at "cl";rw[show start Cu [x0,x1,x2,x3]=[some x0,some x1,some x2,some x3,none,none,none]from rfl];obtain⟨a',b',n,i,xs,m,rfl,rfl,hr',hx,ba,bb,h0,h64,i0,i1,hl,hm,hm2,q⟩:=h;have bi:ag 8000 (xs.getD i.toNat 0):=(hm.get _).mono hm2;have bw:ag 8002 (1-xs.getD i.toNat 0):=(ag.one.sub bi).mono (by decide);have bf:ag 700 (a'^n.toNat):=(ba.pow n.toNat).mono (by omega);have bg:ag 1500 (aB a' b' n.toNat):=(ba.aB bb n.toNat).mono (by omega);o_head kb hx i0 i1 (λv1 iv1=>?_);k_few;rename_i v2 H2 S2 iv2;refine CS (hr'.by S2) ba bb h0 h64 (λv3 H3 S3 iv3=>?_);have T3:=S2.trans S3;have iv2':=iv2.by S3;have hx3:=hx.by T3;clear iv1 iv2 S2 S3 hx hr';k_few;obtain⟨lx,vs,rfl,hs,t⟩:=cu.mp hx3;refine jA hs (o0:=none) (tl:=[some v3,some v2]) rfl (λj v H=>Is K H v (N ((xs.map λx=>push a' b' n.toNat (x+(1-xs.getD i.toNat 0))).getD j 0))) ?_ ?_
 . rintro D j x ys o H1 hx' inv
   obtain⟨hj,ix⟩:=dr t hx';have ix1:=ix.by inv.same;have jv2:=iv2'.by inv.same;have jv3:=iv3.by inv.same;have bx:ag 8000 (xs.getD j 0):=(hm.get j).mono hm2;k_few;rename_i v4 H4 S4 iv4;refine JF (jv3.by S4) iv4 bf bg ((UO hm j i.toNat).mono (by omega)) (λv5 H5 S5 iv5=>?_);exact dW inv (by omega) fR ⟨_,rfl⟩ (S4.trans S5) (by rw[Lc hj,ik];exact iv5)
 . rintro D ys H4 hn S4 e4 hl4 hr4
   have hvl:=t.length;rw[wm]at hvl;have hyl:ys.length=xs.length:=by omega
   clear hs t hx3 iv2' iv3;o_head Ei (j:=i.toNat) e4 (by unfold h9;rw[if_pos i0,if_pos (by omega)]) (λH5 E5 e5=>?_);k_few;have hD:=gP T3 hn;refine q D H5 _ hD ((T3.trans S4).grow hD E5) e5 (fU (by rw[Vm,iC];exact hyl) λj v hv=>?_);rw[Vu]at hv
   by_cases hij:i.toNat=j
   . subst hij
     rw[if_pos rfl,if_pos (by omega)]at hv;cases hv;rw[fi _ _ _ _ _ _ (by omega),if_pos rfl];exact dP 0 (T.eB _) rfl rfl
   . rw[if_neg hij]at hv
     have hj:j<xs.length:=by
       rcases wB j ys.length with z | z
       . omega
       . rw[wF z]at hv;cases hv
     have hz:=hr4 j v hv;rw[Lc hj]at hz;rw[fi _ _ _ _ _ _ hj,if_neg (We hij)];exact hz.fZ (E5.keep e4)
structure cJ(a b:Rat)(ns:List Int)(xs:List Rat):Prop where
 ba:ag 10 a
 bb:ag 10 b
 n0:∀n∈ns,0<=n/\n<=64
 len:ns.length=xs.length+1
 cf:ns.length<=50
 cm:∃m,Cm m xs/\m+2*ns.length+21*upTo ns ns.length<=8000
theorem BF{ns:List Int} : ∀{k j:Nat},k<=j->j<=ns.length->upTo ns k<=upTo ns j:=by
 intro k j hk
 induction j with
 | zero => intro _; have : k = 0 := by omega
           subst this;exact wo _
 | succ j ih =>
   intro hj;rcases wB k (j+1)with z | z
   . rw[mV (by omega)]
     have:=ih (by omega) (by omega);omega
   . have:k=j+1:=by omega
     subst this;exact wo _
theorem cJ.row{a b:Rat}{ns:List Int}{xs:List Rat}(h:cJ a b ns xs){k:Nat}(hk:k<=ns.length):∃m,Cm m (aM a b ns (xs++[0]) k)/\m<=8000:=by
 obtain⟨m,hm,hm2⟩:=h.cm;refine⟨_,(hm.snoc).rows h.ba h.bb k hk,?_⟩;have:=BF (ns:=ns) hk (wo _);omega
def nj(a b:Rat)(ns:List Int)(xs:List Rat):List (List Rat):=(wt (ns.length+1)).map (aM a b ns (xs++[0]))
theorem pG(a b:Rat)(ns:List Int)(xs:List Rat):(nj a b ns xs).length=ns.length+1:=by simp[nj]
theorem uT{a b:Rat}{ns:List Int}{xs:List Rat}{k:Nat}(h:k<=ns.length):(nj a b ns xs).getD k []=aM a b ns (xs++[0]) k:=by
 unfold nj;rw[wa,wu,vI (by omega)]
 rfl
def JJ(K:wb):Sp:=λvs H Q _=>∃x0 x1 x2,vs=[x0,x1,x2] /\ ∃(a b:Rat)(ns:List Int)(xs:List Rat),Is K H x0 (R a b)/\Is K H x1 (TZ ns)/\Is K H x2 (TN xs)/\cJ a b ns xs /\ ∀l H',ah H H'->Is K H' (.ref l) (LL (nj a b ns xs))->Q (.ref l) H'
theorem Au{K:wb}{H:Hp}{Q:VK}{E:XK}{a b:Rat}{ns:List Int}{xs:List Rat}{v w u:V}(h1:Is K H v (R a b))(h2:Is K H w (TZ ns))(h3:Is K H u (TN xs))(ok:cJ a b ns xs)(q:∀l H',ah H H'->Is K H' (.ref l) (LL (nj a b ns xs))->Q (.ref l) H'):JJ K [v,w,u] H Q E:=⟨_,_,_,rfl,a,b,ns,xs,h1,h2,h3,ok,q⟩
theorem AW(T:Txt K mg a):aO P w K mg base aT 5 a.rH a.Ge uW (JJ K):=by
 refine T.rl.F.ok sQ ?_ ?_;wtm_at "b3"
 refine⟨_,(ak (ay 3 sQ.nd (cV (ae (aC cC (eD (show aY _ (.type "list") (oD K)from Cr) rfl T.z_list o_ (ae (pv 2) af)) (cV (ae (bL (v:=.ref a.cX) rfl T.dH rfl) af))) af)))
     (ak (gF vG rfl (ND rfl T.z_enumerate (ae (pv 1) af)) (ku (n:=2) rfl (eH (bK (i:=4) sQ.nd rfl (Or.inl rfl)) (eH (bK (i:=5) sQ.nd rfl (Or.inl rfl)) jK))) (av (jL (iO vP vV vW jn (pv 3) (ae (au (TH T) hr T.EC (ae (pv 0) (ae (pv 5) (ae (d5 dy (pv 3) (pv 4) (λ_ _=>rfl)) (ae (pv 4) af))))) af)))))
     (av (aF (pv 3))))),?_⟩
 wtm_at "cl";rw[show start Pj [x0,x1,x2]=[some x0,some x1,some x2,none,none,none]from rfl];obtain⟨a',b',ns,xs,hr',hn',hp',ok,q⟩:=h;have hlen:=ok.len;have hfew:=ok.cf;o_head Dg hp' (λl1 H1 us hl1 S1 e1 t1=>?_);have hul:=t1.length;rw[wm]at hul;o_head d9 (by simp) (λl2 H2 hl2 S2 e2=>?_);refine mj (S2 _ _ e1) e2 (Vh (jB (by simp;omega))) (λl3 H3 hl3 S3 e3=>?_);o_head d9 (by simp) (λlt H4 hlt S4 e4=>?_);have T4:ah H H4:=S1.trans (S2.trans (S3.trans S4));have e3':=S4 _ _ e3;have ne43:l3≠lt:=λz=>by subst z;rw[e3]at hlt;cases hlt
 have t3:ao K H4 (us++[V.ref a.cX]) ((xs++[0]).map N):=by
   rw[vt];exact(ao.same (S2.trans (S3.trans S4)) _ _ t1).append (.cons (dP 0 (T.eB _) rfl rfl) .nil)
 have hD:=gP (S1.trans (S2.trans S3)) hlt;clear hl1 hl2 hl3 S1 S2 S3 S4 e1 e2 e3 t1 hlt;k_few;obtain⟨an,rfl,hsn⟩:=k_.mp hn'
 refine Sk (T4.g_ hsn) (λk σ H'=>∃o1 o2 vs,σ = [some x0,some (.ref an),some x2,some (.ref lt),o1,o2]/\ah H H'/\H' lt=some (.lst vs)/\vs.length=k+1 /\ ∀j v,vs[j]? = some v->∃lj ws,v=.ref lj/\lj≠lt/\H' lj=some (.lst ws)/\ao K H' ws ((aM a' b' ns (xs++[0]) j).map N))
   ⟨_,_,_,rfl,T4,e4,rfl,λj v hv=>?_⟩ (λk σ H' _ ⟨_,_,_,_,s,_⟩=>s.g_ hsn) ?_ ?_
 . match j,hv with
   | 0,e=>cases wP e;exact⟨l3,_,rfl,ne43,e3',t3⟩
   | j+1,e=>simp at e
 . rintro k x σ H5 t H6 hx ⟨o1,o2,vs,rfl,S5,e5,hl5,hr5⟩ ht S6 e6
   have hk:k<ns.length:=by
     rcases wB k ns.length with z | z
     . exact z
     . rw[wF (by simpa using z)]at hx;cases hx
   have hxv:x=.int (ns.getD k 0):=by
     rw[wu,wc hk]at hx;rw[wa,wc hk];exact(wP hx).symm
   subst hxv;have hnk:=ok.n0 (ns.getD k 0) (by rw[wa,wc hk];exact Wc hk);refine kU (.of e6) rfl ?_;k_few;have e5':=S6 _ _ e5;refine gU (aI.of e5') ?_;k_few;have hkv:∃v,vs[k]? = some v:=⟨vs[k]'(by omega),wc (by omega)⟩;obtain⟨v,hv⟩:=hkv;obtain⟨lk,ws,rfl,nek,ek,tk⟩:=hr5 k v hv;refine g6 (aI.of e5') (jR hv) ?_;k_few;obtain⟨m,hm,hm2⟩:=ok.row (k:=k) (by omega);have hrl:=cw a' b' ns (xs++[0]) k;rw[wS]at hrl;have T6:=S5.trans S6;refine zkt (hr'.by T6) (dB (S6 _ _ ek) (ao.same S6 _ _ tk)) ok.ba ok.bb hnk.1 hnk.2 (by omega) (by rw[hrl];simp;omega) (by rw[hrl];simp;omega) hm hm2 (λl7 H7 us7 hl7 S7 e7 t7=>?_);have e5'':=S7 _ _ e5';have ne7:l7≠lt:=λz=>by subst z;rw[e5']at hl7;cases hl7
   o_head jc e5'' (by omega) (λH8 E8 e8=>?_);have K8:br H7 H8:=E8.keep e5'';refine⟨_,_,_,rfl,(T6.trans S7).grow hD E8,e8,by simp[hl5],λj v hv=>?_⟩;rcases wB j vs.length with z | z
   . rw[Wu z]at hv
     obtain⟨lj,wj,rfl,nej,ej,tj⟩:=hr5 j v hv;exact⟨lj,wj,rfl,nej,E8 _ _ nej (S7 _ _ (S6 _ _ ej)),ao.keep (S6.keep.trans (S7.keep.trans K8)) _ _ (gL _) tj⟩
   . have hj:j=vs.length:=by
       rcases wB vs.length j with q | q
       . rw[wF (by simp;omega)]at hv;cases hv
       . omega
     subst hj;rw[vM (wo _),VI]at hv;cases wP hv;rw[hl5];refine⟨l7,us7,rfl,ne7,E8 _ _ ne7 e7,ao.keep K8 _ _ (gL _) ?_⟩;rw[aM]
     simpa using t7
 . rintro σ H5 ⟨o1,o2,vs,rfl,S5,e5,hl5,hr5⟩
   o_head q lt H5 S5 (cu.mpr ⟨lt,vs,rfl,.of e5,Dh (by rw[hl5,pG];simp) λj v hv=>?_⟩)
   have hj:j<vs.length:=by
     rcases wB j vs.length with z | z
     . exact z
     . rw[wF z]at hv;cases hv
   obtain⟨lj,wj,rfl,nej,ej,tj⟩:=hr5 j v hv;rw[uT (by simp at hl5;omega)];exact dB ej tj
def b8(a b:Rat)(ns:List Int)(xs:List Rat):List Rat:=(aM a b ns (xs++[0]) ns.length).dropLast
def Lg(K:wb):Sp:=λvs H Q _=>∃x0 x1 x2,vs=[x0,x1,x2] /\ ∃(a b:Rat)(ns:List Int)(xs:List Rat),Is K H x0 (R a b)/\Is K H x1 (TZ ns)/\Is K H x2 (TN xs)/\cJ a b ns xs /\ ∀v H',ah H H'->Is K H' v (TN (b8 a b ns xs))->Q v H'
theorem IH{K:wb}{H:Hp}{Q:VK}{E:XK}{a b:Rat}{ns:List Int}{xs:List Rat}{v w u:V}(h1:Is K H v (R a b))(h2:Is K H w (TZ ns))(h3:Is K H u (TN xs))(ok:cJ a b ns xs)(q:∀v H',ah H H'->Is K H' v (TN (b8 a b ns xs))->Q v H'):Lg K [v,w,u] H Q E:=⟨_,_,_,rfl,a,b,ns,xs,h1,h2,h3,ok,q⟩
theorem IU(T:Txt K mg a):aO P w K mg base aT 6 a.Fg a.EF uJ (Lg K):=by
 refine T.zG.F.ok zlj ?_ ?_;wtm_at "b3";refine⟨_,(av (aF (eD (show aY _ (.type "tuple") (eh K)from fq) rfl T.z_tuple eF (ae (jC jH (d5 dy (au (AW T) hr T.rl (ae (pv 0) (ae (pv 1) (ae (pv 2) af)))) (iD gW az) (λ_ _=>rfl)) jx (jX (iD gW az))) af)))),?_⟩;wtm_at "cl";rw[show start CK [x0,x1,x2]=[some x0,some x1,some x2]from rfl];obtain⟨a',b',ns,xs,hr',hn',hp',ok,q⟩:=h;o_head Au hr' hn' hp' ok (λl H1 S1 i1=>?_);o_head C0 i1 (by rw[pG];omega) (λv2 i2=>?_);rw[pG,qD,uT (wo _)]at i2;o_head pX i2 (λl3 H3 ys hn3 S3 e3 t3=>?_);rw[O9,<- Xk]at t3;o_head ie (dB e3 t3) (λw H4 S4 i4=>?_);exact q w H4 (S1.trans (S3.trans S4)) i4
theorem OD{a b:Rat}{ns:List Int}{xs:List Rat}{m:Nat}(ok:cJ a b ns xs)(c:Cm m xs)(hm:m+2*ns.length+21*upTo ns ns.length<=8000){k:Nat}(hk:k<=ns.length):Cm 8000 (eP a b ns (xs++[0]) k::aM a b ns (xs++[0]) k):=by
 have h1:=BF (ns:=ns) hk (wo _);exact(c.snoc.Hg ok.ba ok.bb (ns:=ns) k hk).mono (by omega)
def Pf(K:wb):Sp:=λvs H Q _=>∃x0 x1 x2,vs=[x0,x1,x2] /\ ∃(a b:Rat)(ns:List Int)(xs:List Rat)(m:Nat),Is K H x0 (R a b)/\Is K H x1 (TZ ns)/\Is K H x2 (TN xs)/\cJ a b ns xs/\Cm m xs/\m+2*ns.length+21*upTo ns ns.length<=8000 /\ ∀v H',ah H H'->Is K H' v (N (eO a b ns xs))->Q v H'
theorem znB{K:wb}{H:Hp}{Q:VK}{E:XK}{a b:Rat}{ns:List Int}{xs:List Rat}{m:Nat}{v w u:V}(h1:Is K H v (R a b))(h2:Is K H w (TZ ns))(h3:Is K H u (TN xs))(ok:cJ a b ns xs)(hm:Cm m xs)(hm2:m+2*ns.length+21*upTo ns ns.length<=8000)(q:∀v H',ah H H'->Is K H' v (N (eO a b ns xs))->Q v H'):Pf K [v,w,u] H Q E:=⟨_,_,_,rfl,a,b,ns,xs,m,h1,h2,h3,ok,hm,hm2,q⟩
theorem zns(T:Txt K mg a):aO P w K mg base aT 6 a.FU a.ET sL (Pf K):=by
 refine T.Fb.F.ok nT ?_ ?_;wtm_at "b3"
 refine⟨_,(ak (ay 3 nT.nd (bL (v:=.ref a.cX) rfl T.dH rfl))
     (ak (ay 4 nT.nd (au (AW T) hr T.rl (ae (pv 0) (ae (pv 1) (ae (pv 2) af)))))
     (ak (gF vG rfl (kW rfl T.z_range (ae (bQ (show aY _ (.builtin "len") (dg K)from fg) rfl T.z_len fe (ae (pv 1) af)) af)) (bK (i:=5) nT.nd rfl (Or.inl rfl)) (av (ay 3 nT.nd (au (fY T) hr T.fH (ae (pv 3) (ae (au (tT T) hr T.nI (ae (bL (v:=.ref a.dJ) rfl T.eJ rfl) (ae (d5 dy (d5 dy (pv 4) (pv 5) (λ_ _=>rfl)) (pv 5) (λ_ _=>rfl)) af))) af))))))
     (av (aF (pv 3)))))),?_⟩
 wtm_at "cl";rw[show start Le [x0,x1,x2]=[some x0,some x1,some x2,none,none,none]from rfl];obtain⟨a',b',ns,xs,m,hr',hn',hp',ok,hm,hm2,q⟩:=h;o_head Au hr' hn' hp' ok (λl H1 S1 i1=>?_);o_head AF (hn'.by S1) ?_;have hlen:=ok.len;have hfew:=ok.cf;refine ng (n:=(ns.length:Int)) (by omega) (by omega) (λk σ H'=>∃v o,σ = [some x0,some x1,some x2,some v,some (.ref l),o]/\ah H1 H'/\Is K H' v (N (eP a' b' ns (xs++[0]) k))) ⟨_,_,rfl,ah.refl _,dP 0 (T.eB _) rfl rfl⟩ ?_ ?_
 . rintro k σ H2 hk ⟨v,o,rfl,S2,iv⟩
   have hk':k<ns.length:=by simpa using hk
   have c:=OD ok hm hm2 (k:=k) (by omega);have b1:ag 8000 (eP a' b' ns (xs++[0]) k):=c.fo (wJ ..);have b2:ag 8000 ((aM a' b' ns (xs++[0]) k).getD k 0):=(nY c λy hy=>wD _ hy).get k;have b4:ag 8002 (1-(aM a' b' ns (xs++[0]) k).getD k 0):=(ag.one.sub b2).mono (by decide);have i2:=i1.by S2;o_head Ow i2 (by omega) (by rw[pG];omega) (λv3 i3=>?_);rw[wW,uT (by omega)]at i3;o_head kb i3 (by omega) (by rw[cw,wS];simp;omega) (λv4 i4=>?_);rw[wW]at i4;k_few;exact⟨_,_,rfl,S2.trans (ah.trans (by assumption) (by assumption)),by assumption⟩
 . rintro σ H2 ⟨v,o,rfl,S2,iv⟩
   k_few;exact q _ _ (S1.trans S2) iv
def eG(a b:Rat)(ns:List Int)(xs:List Rat):List Rat:=(wt ns.length).map λk=>(aM a b ns (xs++[0]) (k+1)).getD ((k+1) % ns.length) 0
theorem jl(a b:Rat)(ns:List Int)(xs:List Rat):(eG a b ns xs).length=ns.length:=by simp[eG]
theorem mv{a b:Rat}{ns:List Int}{xs:List Rat}{k:Nat}(h:k<ns.length):(eG a b ns xs).getD k 0=(aM a b ns (xs++[0]) (k+1)).getD ((k+1) % ns.length) 0:=by
 unfold eG;rw[wa,wu,vI h]
 rfl
def Pe(K:wb):Sp:=λvs H Q _=>∃x0 x1 x2,vs=[x0,x1,x2] /\ ∃(a b:Rat)(ns:List Int)(xs:List Rat),Is K H x0 (R a b)/\Is K H x1 (TZ ns)/\Is K H x2 (TN xs)/\cJ a b ns xs /\ ∀v H',ah H H'->Is K H' v (TN (eG a b ns xs))->Q v H'
theorem Ih{K:wb}{H:Hp}{Q:VK}{E:XK}{a b:Rat}{ns:List Int}{xs:List Rat}{v w u:V}(h1:Is K H v (R a b))(h2:Is K H w (TZ ns))(h3:Is K H u (TN xs))(ok:cJ a b ns xs)(q:∀v H',ah H H'->Is K H' v (TN (eG a b ns xs))->Q v H'):Pe K [v,w,u] H Q E:=⟨_,_,_,rfl,a,b,ns,xs,h1,h2,h3,ok,q⟩
theorem Nr(T:Txt K mg a):aO P w K mg base aT 6 a.gR a.GQ zo (Pe K):=by
 refine T.zY.F.ok AJ ?_ ?_;wtm_at "b3"
 refine⟨_,(ak (ay 3 AJ.nd (au (AW T) hr T.rl (ae (pv 0) (ae (pv 1) (ae (pv 2) af)))))
     (ak (ay 4 AJ.nd (bQ (show aY _ (.builtin "len") (dg K)from fg) rfl T.z_len fe (ae (pv 1) af)))
     (av (aF (eD (show aY _ (.type "tuple") (eh K)from fq) rfl T.z_tuple eF (ae (dZ rfl (cq.by (N':=["turn","rows","count"]) (src:=[none,some 3,some 4]) rfl (show cH _ (aA sM).names Cf ["turn","rows","count"] [none,some 3,some 4]=true from by decide +kernel)) (kW rfl T.z_range (ae (pv 4) af)) (λ_ _ _ _ _=>(bK (i:=0) (show(["turn","rows","count"]:List Str).Nodup from by decide) rfl (Or.inl rfl))) (λ_ _ _ _ _=>dE) (λ_ _ _ _ _=>(d5 (show fV _ (cK K)from dy) (d5 (show fV _ (cK K)from dy) (pv 1) (aC cC (pv 0) az) (λ_ _=>rfl)) (aC fW (aC cC (pv 0) az) (pv 2)) (λ_ _=>rfl)))) af)))))),?_⟩
 wtm_at "cl";rw[show start Cf [x0,x1,x2]=[some x0,some x1,some x2,none,none]from rfl];obtain⟨a',b',ns,xs,hr',hn',hp',ok,q⟩:=h;have hlen:=ok.len;have hfew:=ok.cf;o_head Au hr' hn' hp' ok (λl H1 S1 i1=>?_);o_head AF (hn'.by S1) ?_;o_head Z8 (n:=(ns.length:Int)) (by omega) (by omega) (o0:=none) (tl:=[some (.ref l),some (.int (ns.length:Int))]) rfl (λi v H=>Is K H v (N ((eG a' b' ns xs).getD i 0))) ?_ ?_
 . rintro D i ys o H2 hi inv
   have hi':i<ns.length:=by simpa using hi
   have i2:=i1.by inv.same;have hn0:(0:Int)<(ns.length:Int):=by omega
   o_head Ow i2 (by omega) (by rw[pG];omega) (λv3 i3=>?_);rw[show((i:Int)+1).toNat=i+1 by omega,uT (by omega)]at i3;k_few;have e:((i:Int)+1) % (ns.length:Int)=(((i+1) % ns.length:Nat):Int):=by push_cast;rfl
   have hm:(i+1) % ns.length<ns.length:=Nat.mod_lt _ (by omega);rw[e];refine kb i3 (by omega) (by rw[cw,wS];simp;omega) (λv4 i4=>?_);rw[wW,<- mv hi']at i4;exact dW inv (by omega) fR ⟨_,rfl⟩ (ah.refl _) i4
 . rintro D ys H2 hn S2 e2 hl2 hr2
   o_head ie (dB e2 (fU (by rw[hl2,jl];simp) hr2)) (λw H3 S3 i3=>?_);exact q w H3 (S1.trans (S2.trans S3)) i3
theorem sY{bs:List Bool}{zs:List V}(hl:zs.length=bs.length)(h:∀j z,zs[j]? = some z->z=V.bl (bs.getD j true)):zs=bs.map V.bl:=by
 refine WN (by rw[wm];exact hl) λi h1 h2=>?_
 rw[h i _ (wc h1),W7,wa,wc (by omega)]
 rfl
def df(xs:List Rat):List Rat:=[1]++xs++[0]
theorem sA(xs:List Rat):(df xs).length=xs.length+2:=by simp[df]
def m5(xs:List Rat):List Bool:=(wt (xs.length+1)).map λi=>decide ((df xs).getD (i+1) 0<(df xs).getD i 0)
def lB(ts:List Rat):List Bool:=ts.map λx=>decide (x<1)
def cZ(a b:Rat)(ns:List Int)(xs:List Rat):Bool:=(m5 xs).all id&&(lB (eG a b ns xs)).all id
theorem zr7{xs:List Rat}{i:Nat}(h:i<xs.length+1):(m5 xs).getD i true=decide ((df xs).getD (i+1) 0<(df xs).getD i 0):=by
 unfold m5;rw[wa,wu,vI h]
 rfl
theorem U9{ts:List Rat}{i:Nat}(h:i<ts.length):(lB ts).getD i true=decide (ts.getD i 0<1):=by
 unfold lB;rw[wa,wu,wa,wc h]
 rfl
theorem JN{m:Nat}{xs:List Rat}(h:Cm m xs)(i:Nat):ag m ((df xs).getD i 0):=by
 unfold df;rcases Nat.eq_zero_or_pos i with rfl | hi
 ·exact ag.one.mono h.pos
 ·obtain⟨j,rfl⟩:∃j,i=j+1:=⟨i-1,by omega⟩
  exact h.snoc.get j
theorem HJ{a b:Rat}{ns:List Int}{xs:List Rat}(ok:cJ a b ns xs){i:Nat}(hi:i<ns.length):ag 8000 ((eG a b ns xs).getD i 0):=by
 rw[mv hi];obtain⟨m,hm,hm2⟩:=ok.row (k:=i+1) (by omega);exact(hm.get _).mono hm2
def OK(K:wb):Sp:=λvs H Q _=>∃x0 x1 x2,vs=[x0,x1,x2] /\ ∃(a b:Rat)(ns:List Int)(xs:List Rat),Is K H x0 (R a b)/\Is K H x1 (TZ ns)/\Is K H x2 (TN xs)/\cJ a b ns xs /\ ∀H',ah H H'->Q (.bl (cZ a b ns xs)) H'
theorem pV{K:wb}{H:Hp}{Q:VK}{E:XK}{a b:Rat}{ns:List Int}{xs:List Rat}{v w u:V}(h1:Is K H v (R a b))(h2:Is K H w (TZ ns))(h3:Is K H u (TN xs))(ok:cJ a b ns xs)(q:∀H',ah H H'->Q (.bl (cZ a b ns xs)) H'):OK K [v,w,u] H Q E:=⟨_,_,_,rfl,a,b,ns,xs,h1,h2,h3,ok,q⟩
theorem pj(T:Txt K mg a):aO P w K mg base aT 7 a.GP a.FY u9 (OK K):=by
 refine T.lV.F.ok O1 ?_ ?_;wtm_at "b3"
 refine⟨_,(ak (ay 3 O1.nd (aC cC (aC cC (cV (ae (bL (v:=.ref a.dJ) rfl T.eJ rfl) af)) (eD (show aY _ (.type "list") (oD K)from Cr) rfl T.z_list o_ (ae (pv 2) af))) (cV (ae (bL (v:=.ref a.cX) rfl T.dH rfl) af))))
     (ak (bZ (dS (cR (bQ (show aY _ (.builtin "all") (md K)from sI rfl) rfl T.z_all zj (ae (dZ rfl (cq.by (N':=["upper","lower"]) (src:=[none,none]) rfl (show cH _ (aA p9).names uI ["upper","lower"] [none,none]=true from by decide +kernel)) (Yy rfl T.z_zip (ae (pv 3) (ae (jC jH (pv 3) (jX az) jx) af))) (λ_ _ _ _ _=>by exact(show PG _ _ (gD K 2 _)from ku (n:=2) rfl (eH (bK (i:=0) (show(["upper","lower"]:List Str).Nodup from by decide) rfl (Or.inl rfl)) (eH (bK (i:=1) (show(["upper","lower"]:List Str).Nodup from by decide) rfl (Or.inl rfl)) jK)))) (λ_ _ _ _ _=>dE) (λ_ _ _ _ _=>(au (gm (K:=K) (mg:=mg) (a:=a) T) hr T.fG (ae (pv 1) (ae (pv 0) af))))) af)))) (av (aF iU)) b9)
     (av (aF (bQ (show aY _ (.builtin "all") (md K)from sI rfl) rfl T.z_all zj (ae (dZ rfl (cq.by (N':=["top"]) (src:=[none]) rfl (show cH _ (aA p9).names uI ["top"] [none]=true from by decide +kernel)) (gX (au (Nr T) hr T.zY (ae (pv 0) (ae (pv 1) (ae (pv 2) af))))) (λ_ _ _ _ _=>(bK (i:=0) (show(["top"]:List Str).Nodup from by decide) rfl (Or.inl rfl))) (λ_ _ _ _ _=>dE) (λ_ _ _ _ _=>(au (gm (K:=K) (mg:=mg) (a:=a) T) hr T.fG (ae (pv 0) (ae (bL (v:=.ref a.dJ) rfl T.eJ rfl) af))))) af)))))),?_⟩
 wtm_at "cl";rw[show start uI [x0,x1,x2]=[some x0,some x1,some x2,none]from rfl];obtain⟨a',b',ns,xs,hr',hn',hp',ok,q⟩:=h;have hlen:=ok.len;have hfew:=ok.cf;obtain⟨m,hcm,hcm2⟩:=ok.cm;o_head d9 (by simp) (λl0 H1 n1 S1 e1=>?_);o_head Dg (hp'.by S1) (λl1 H2 us n2 S2 e2 t2=>?_);have hul:=t2.length;rw[wm]at hul;refine mj (S2 _ _ e1) e2 (Vh (jB (by simp;omega))) (λl2 H3 n3 S3 e3=>?_);o_head d9 (by simp) (λl3 H4 n4 S4 e4=>?_);refine mj (S4 _ _ e3) e4 (Vh (jB (by simp;omega))) (λl5 H5 n5 S5 e5=>?_);have T5:ah H H5:=S1.trans (S2.trans (S3.trans (S4.trans S5)))
 have t5:ao K H5 ([V.ref a.dJ]++us++[V.ref a.cX]) ((df xs).map N):=by
   unfold df;rw[vt,vt];exact(ao.append (.cons (dP 1 (T.rL _) rfl rfl) .nil) (ao.same (S3.trans (S4.trans S5)) _ _ t2)).append (.cons (dP 0 (T.eB _) rfl rfl) .nil)
 have ir5:=hr'.by T5;have in5:=hn'.by T5;have ip5:=hp'.by T5;clear n1 n2 n3 n4 n5 S1 S2 S3 S4 S5 e1 e2 e3 e4 t2 hr' hn' hp';generalize [V.ref a.dJ]++us++[V.ref a.cX]=ws at e5 t5;have hws:=t5.length;rw[wm,sA]at hws;o_head pX (dB e5 t5) (λl6 H6 ys n6 S6 e6 t6=>?_);rw[show(1:Int)=((1:Nat):Int)from rfl,zvL _ _ (by rw[wm,sA];omega),<- uf]at t6;have hys:=t6.length;rw[wm,Wb,sA]at hys;have e56:=S6 _ _ e5;have t56:=ao.same S6 _ _ t5;have T6:=T5.trans S6;have ir6:=ir5.by S6;have in6:=in5.by S6;have ip6:=ip5.by S6;clear ir5 in5 ip5 T5 S6 e5 t5 n6;o_head UH (t:=false) (u:=false) (aI.of e56) (aI.of e6) (by omega) (o0:=none) (o0':=none) (tl:=[]) rfl (λi v H=>v=V.bl ((m5 xs).getD i true)) (λ_ _ _ _ _ h=>h) ?_ ?_
 . rintro D i x y zs o1 o2 H7 c hx hy inv e7
   obtain⟨hi,ix⟩:=dr t56 hx;obtain⟨hj,iy⟩:=dr t6 hy;rw[Wb,sA]at hj
   have ed:((df xs).drop 1).getD i 0=(df xs).getD (i+1) 0:=by
     rw[wa,xT,wa,xQ]
   rw[ed]at iy;have S7:=inv.2.2.1;have b1:ag 8000 ((df xs).getD i 0):=(JN hcm i).mono (by omega);have b2:ag 8000 ((df xs).getD (i+1) 0):=(JN hcm (i+1)).mono (by omega);refine B9 (kU (.of e7) rfl ?_);have ix7:=ix.by S7;have iy7:=iy.by S7;k_few;exact yd inv (by omega) (λ_ _ _ _ _ h=>h) ⟨_,_,rfl⟩ (ah.refl _) (by rw[zr7 (by omega)])
 . rintro D zs H7 hn S7 e7 hl7 hr7
   have hz:=sY (bs:=m5 xs) (by unfold m5;rw[wm,vx];omega) hr7;rw[hz]at e7;o_head pf (.of e7) ?_;k_few
   . rename_i z
     have ef:cZ a' b' ns xs=false:=by unfold cZ;rw[z];rfl
     rw[<- ef];exact q _ (T6.trans S7)
   . rename_i z
     have ef:cZ a' b' ns xs=(lB (eG a' b' ns xs)).all id:=by unfold cZ;rw[z];rfl
     rw[ef]at q;refine Ih (ir6.by S7) (in6.by S7) (ip6.by S7) ok (λv8 H8 S8 i8=>?_);have T8:=T6.trans (S7.trans S8);obtain⟨a8,us8,rfl,hs8,t8⟩:=bV.mp i8;have hl8:=t8.length;rw[wm,jl]at hl8;refine iN hs8 (o0:=none) (tl:=[]) rfl (λi v H=>v=V.bl ((lB (eG a' b' ns xs)).getD i true)) ?_ ?_
     . rintro D i x ys' o H9 hx inv
       obtain⟨hi,ix⟩:=dr t8 hx;rw[jl]at hi;have ix9:=ix.by inv.same;have b1:ag 8000 ((eG a' b' ns xs).getD i 0):=HJ ok hi;have b2:ag 8000 1:=ag.one.mono (by decide);k_few;exact dW inv (by omega) (λ_ _ _ _ _ h=>h) ⟨_,rfl⟩ (ah.refl _) (by rw[U9 (by rw[jl];exact hi)])
     . rintro D ys' H9 hn9 S9 e9 hl9 hr9
       have hz':=sY (bs:=lB (eG a' b' ns xs)) (by unfold lB;rw[wm,jl];omega) hr9;rw[hz']at e9;o_head pf (.of e9) ?_;exact q _ (T8.trans S9)
def cD(n:Nat):List Rat:=w9 n 0
theorem J6(n i:Nat):(cD n).getD i 0=0:=by
 unfold cD;rw[wa,QQ]
 split<;>rfl
theorem tZ(n:Nat):Cm 1 (cD n):=by
 refine⟨1,by decide,⟨by decide⟩,λx hx=>⟨0,?_,⟨by decide⟩⟩⟩;rw[List.eq_of_mem_replicate hx]
 rfl
def LS(K:wb):Sp:=λvs H Q _=>∃x0 x1,vs=[x0,x1] /\ ∃(a b:Rat)(ns:List Int),Is K H x0 (R a b)/\Is K H x1 (TZ ns)/\cJ a b ns (cD (ns.length-1))/\0<=ns.sum/\ns.sum<=64 /\ ∀v H',ah H H'->Is K H' v (.tuple [N (a^ns.sum.toNat),TN (b8 a b ns (cD (ns.length-1)))])->Q v H'
theorem oj{K:wb}{H:Hp}{Q:VK}{E:XK}{a b:Rat}{ns:List Int}{v w:V}(h1:Is K H v (R a b))(h2:Is K H w (TZ ns))(ok:cJ a b ns (cD (ns.length-1)))(h0:0<=ns.sum)(h64:ns.sum<=64)(q:∀v H',ah H H'->Is K H' v (.tuple [N (a^ns.sum.toNat),TN (b8 a b ns (cD (ns.length-1)))])->Q v H'):LS K [v,w] H Q E:=⟨_,_,rfl,a,b,ns,h1,h2,ok,h0,h64,q⟩
theorem og(T:Txt K mg a):aO P w K mg base aT 7 a.F_ a.EZ tN (LS K):=by
 refine T.lU.F.ok Dc ?_ ?_;wtm_at "b2"
 refine⟨_,(ak (ay 2 Dc.nd (ar (au (tJ T) hr T.nH (ae (pv 0) (ae (bQ (show aY _ (.builtin "sum") (Eb K)from U2 rfl) rfl T.z_sum Yt (ae (pv 1) af)) af)))))
     (ak (ay 3 Dc.nd (eD (show aY _ (.type "tuple") (eh K)from fq) rfl T.z_tuple eF (ae (dZ rfl (cq.by (N':=["size"]) (src:=[none]) rfl (show cH _ (aA tE).names AU ["size"] [none]=true from by decide +kernel)) (gX (jC jH (pv 1) (jX az) jx)) (λ_ _ _ _ _=>(bK (i:=0) (show(["size"]:List Str).Nodup from by decide) rfl (Or.inl rfl))) (λ_ _ _ _ _=>dE) (λ_ _ _ _ _=>(bL (v:=.ref a.cX) rfl T.dH rfl))) af)))
     (av (aF (aW (ae (pv 2) (ae (au (IU T) hr T.zG (ae (pv 0) (ae (pv 1) (ae (pv 3) af)))) af))))))),?_⟩
 wtm_at "cl";rw[show start AU [x0,x1]=[some x0,some x1,none,none]from rfl];obtain⟨a',b',ns,hr',hn',ok,h0,h64,q⟩:=h;have hlen:=ok.len;have hfew:=ok.cf;o_head zxb hn' ?_;o_head CS hr' ok.ba ok.bb h0 h64 (λv1 H1 S1 i1=>?_);k_few;rename_i v2 i2;have hn1:Is K H1 x1 (.tuple (ns.map PyData.int)):=hn'.by S1;refine Cz hn1 ?_ (λv3 H3 S3 i3=>?_)
 . rintro ⟨e,_⟩
   have e':min 1 (ns.map PyData.int).length=0:=e;rw[wm]at e';omega
 rw[Jn]at i3;obtain⟨a3,vs3,rfl,hs3,t3⟩:=bV.mp i3;have hl3:=t3.length;rw[Xy,wm]at hl3;have hzl:(cD (ns.length-1)).length=ns.length-1:=Ww ..;o_head iN hs3 (o0:=none) (tl:=[]) rfl (λi v H=>Is K H v (N ((cD (ns.length-1)).getD i 0))) ?_ ?_
 . rintro D i x ys o H4 hx inv
   have hi:i<vs3.length:=by
     rcases wB i vs3.length with z | z
     . exact z
     . rw[wF z]at hx;cases hx
   k_few;exact dW inv (by omega) fR ⟨_,rfl⟩ (ah.refl _) (by rw[J6];exact dP 0 (T.eB _) rfl rfl)
 . rintro D ys H4 hn4 S4 e4 hl4 hr4
   o_head ie (dB (xs:=cD (ns.length-1)) e4 (fU (by omega) hr4)) (λv5 H5 S5 i5=>?_);have T5:ah H1 H5:=S3.trans (S4.trans S5);o_head IH ((hr'.by S1).by T5) ((hn'.by S1).by T5) i5 ok (λv6 H6 S6 i6=>?_);k_few;exact bX (by simp) (.cons (i2.by (T5.trans S6)) (.cons i6 .nil)) (λv H' S h=>q v H' (S1.trans (T5.trans (S6.trans S))) h)
def ck(a b:Rat)(ns:List Int):List Rat:=(b8 a b ns (cD (ns.length-1))).map (λs=>s / (1-a^ns.sum.toNat))
theorem kx{a b:Rat}{ns:List Int}{xs:List Rat}(h:ns.length=xs.length+1):(b8 a b ns xs).length=xs.length:=by
 unfold b8;rw[xv,cw];simp
theorem nV{a b:Rat}{ns:List Int}{xs:List Rat}(h:ns.length=xs.length+1){i:Nat}(hi:i<xs.length):(b8 a b ns xs).getD i 0=(aM a b ns (xs++[0]) ns.length).getD i 0:=by
 unfold b8;have hl:(aM a b ns (xs++[0]) ns.length).length=xs.length+1:=by rw[cw];simp
 rw[wa,wa,List.getElem?_dropLast,if_pos (by omega)]
theorem Be{xs:List Rat}{i:Nat}(h:i<xs.length):(xs++[0]).getD i 0=xs.getD i 0:=by
 rw[wa,wa,Wu h]
theorem p_{xs:List Rat} : (xs++[0]).getD xs.length 0=0:=by
 rw[wa,vM (wo _),VI]
 rfl
theorem MF:∀{ns:List Int},(∀n∈ns,0<=n)->((ns.map QW).sum:Int)=ns.sum
 | [],_=>rfl
 | n::ns,h=>by
  have h1:=MF (ns:=ns) λm hm=>h m (wD _ hm)
  have h2:=h n (wJ ..);rw[wZ,WY,WY];omega
theorem NP{ns:List Int}(h:∀n∈ns,0<=n):upTo ns ns.length=ns.sum.toNat:=by
 have:=MF h;unfold GM.upTo;rw[Wt];omega
theorem BJ{a b:Rat}{ns:List Int}{xs:List Rat}(h:ns.length=xs.length+1)(hn:∀n∈ns,0<=n){i:Nat}(hi:i<xs.length):(b8 a b ns xs).getD i 0=a^ns.sum.toNat*xs.getD i 0+(b8 a b ns (cD (ns.length-1))).getD i 0:=by
 have hz:(cD (ns.length-1)).length=xs.length:=by unfold cD;rw[Ww];omega
 have hu:=NP hn;rw[nV h hi,nV (by omega) (by omega)];have hr:=Aq a b ns (xs++[0]) (cD (ns.length-1)++[0]) (by simp[hz]) (by simp[h]) xs.length (by simp) (by rw[p_];rw[<- hz,p_]) ns.length (wo _) i (by simp;omega);rw[if_neg (by omega),show ns.length-1=xs.length by omega]at hr;rw[show ns.length-1=xs.length by omega]at hz ⊢;rw[p_,Be hi,Be (by omega),J6,hu]at hr
 have hl0:(cD xs.length++[0]).getD xs.length 0=0:=by
  have:=p_ (xs:=cD xs.length);rw[hz]at this;exact this
 rw[hl0]at hr
 grind
theorem pz{a b:Rat}{ns:List Int}(h:1<=ns.length):(ck a b ns).length=ns.length-1:=by
 unfold ck;rw[wm,kx (by unfold cD;rw[Ww];omega)];unfold cD;rw[Ww]
theorem Cv{a b:Rat}{ns:List Int}{i:Nat}(h:i<(ck a b ns).length):(ck a b ns).getD i 0=(b8 a b ns (cD (ns.length-1))).getD i 0 / (1-a^ns.sum.toNat):=by
 unfold ck at *;rw[wm]at h;rw[wa,wu,wa,wc h];rfl
theorem UT{a b:Rat}{ns:List Int}(h1:1<=ns.length)(hn:∀n∈ns,0<=n)(hF:a^ns.sum.toNat≠1):b8 a b ns (ck a b ns)=ck a b ns:=by
 have hl:=pz (a:=a) (b:=b) h1;have hlen:ns.length=(ck a b ns).length+1:=by omega
 have hb:=kx (a:=a) (b:=b) hlen;refine WN hb λi k1 k2=>?_
 have e1:(b8 a b ns (ck a b ns))[i]=(b8 a b ns (ck a b ns)).getD i 0:=by rw[wa,wc k1];rfl
 have e2:(ck a b ns)[i]=(ck a b ns).getD i 0:=by rw[wa,wc k2];rfl
 rw[e1,e2,BJ hlen hn k2,Cv k2];have hg:1-a^ns.sum.toNat≠0:=λe=>hF (by grind)
 generalize (b8 a b ns (cD (ns.length-1))).getD i 0=s;generalize a^ns.sum.toNat=F at *;have e3:s / (1-F)*(1-F)=s:=WE hg;generalize s / (1-F)=y at *
 grind
theorem Pw{m n:Nat}{xs:List Rat}{g:Rat}(h:Cm m xs)(bg:ag n g)(hg:g≠0):Cm (m+n) (xs.map (λs=>s / g)):=by
 obtain⟨B,h0,bB,hx⟩:=h;have hgn:=zi hg
 have key:∀(t:Int),wx t B / g=wx (t*(g.den:Int)) (B*g.num):=by
  intro t
  conv=>lhs;rw[<- Vi g]
  rw[Q2,Rat.inv_divInt,xb]
 rcases Int.lt_or_gt_of_ne hgn with z | z
 ·refine⟨B * -g.num,vJ h0 (by omega),bB.mul bg.t.neg,λx hxm=>?_⟩
  obtain⟨s,hs,rfl⟩:=wY.mp hxm;obtain⟨t,rfl,bt⟩:=hx s hs;refine⟨-(t*(g.den:Int)),?_,(bt.mul bg.b).neg⟩
  show wx t B / g=_
  rw[key t,Xo,Rat.divInt_neg',Int.neg_neg]
 ·refine⟨B*g.num,vJ h0 (by omega),bB.mul bg.t,λx hxm=>?_⟩
  obtain⟨s,hs,rfl⟩:=wY.mp hxm;obtain⟨t,rfl,bt⟩:=hx s hs;exact⟨t*(g.den:Int),key t,bt.mul bg.b⟩
theorem DY{a b:Rat}{ns:List Int}{xs:List Rat}{m:Nat}(ba:ag 10 a)(bb:ag 10 b)(hm:Cm m xs):Cm (m+2*ns.length+21*upTo ns ns.length) (b8 a b ns xs):=by
 obtain⟨B,h0,h1,h2⟩:=(hm.snoc).rows ba bb (ns:=ns) ns.length (wo _);exact⟨B,h0,h1,λx hx=>h2 x (List.dropLast_subset _ hx)⟩
theorem Th{a b:Rat}{ns:List Int}(ba:ag 10 a)(bb:ag 10 b)(h8:ns.length<=8)(hu:upTo ns ns.length<=8)(hs:ns.sum.toNat<=8)(hF:a^ns.sum.toNat≠1):Cm 268 (ck a b ns):=by
 have bF:ag 81 (a^ns.sum.toNat):=(ba.pow ns.sum.toNat).mono (by omega);have bg:ag 83 (1-a^ns.sum.toNat):=(ag.one.sub bF).mono (by decide);have hg:1-a^ns.sum.toNat≠0:=λe=>hF (by grind)
 exact(Pw (DY (ns:=ns) ba bb (tZ (ns.length-1))) bg hg).mono (by omega)
theorem YR{a b:Rat}{ns:List Int}(ok:cJ a b ns (cD (ns.length-1)))(h8:ns.sum<=8)(i:Nat):ag 400 ((b8 a b ns (cD (ns.length-1))).getD i 0):=((DY ok.ba ok.bb (tZ _)).get i).mono (by
 have h1:=NP (λn hn=>(ok.n0 n hn).1);have h2:=ok.cf;omega)
def HY(K:wb):Sp:=λvs H Q _=>∃x0 x1,vs=[x0,x1] /\ ∃(a b:Rat)(ns:List Int),Is K H x0 (R a b)/\Is K H x1 (TZ ns)/\cJ a b ns (cD (ns.length-1))/\0<=ns.sum/\ns.sum<=8/\(a^ns.sum.toNat=1->∀H',ah H H'->Q .bM H')/\(a^ns.sum.toNat≠1->∀v H',ah H H'->Is K H' v (TN (ck a b ns))->Q v H')
theorem N7{K:wb}{H:Hp}{Q:VK}{E:XK}{a b:Rat}{ns:List Int}{v w:V}(h1:Is K H v (R a b))(h2:Is K H w (TZ ns))(ok:cJ a b ns (cD (ns.length-1)))(h0:0<=ns.sum)(h8:ns.sum<=8)(q1:a^ns.sum.toNat=1->∀H',ah H H'->Q .bM H')(q2:a^ns.sum.toNat≠1->∀v H',ah H H'->Is K H' v (TN (ck a b ns))->Q v H'):HY K [v,w] H Q E:=⟨_,_,rfl,a,b,ns,h1,h2,ok,h0,h8,q1,q2⟩
theorem N3(T:Txt K mg a):aO P w K mg base aT 8 a.He a.GA tQ (HY K):=by
 refine T.zW.F.ok Ap ?_ ?_;wtm_at "b2"
 refine⟨_,(ak (ay 2 Ap.nd (au (og T) hr T.lU (ae (pv 0) (ae (pv 1) af))))
     (ak (bZ (cc (show aJ _ (wT .Eq) (cN K)from dk hu) (ar (pv 2)) (bL (v:=.ref a.dJ) rfl T.eJ rfl) (bA _)) (av (aF jV)) b9)
     (ak (ay 3 Ap.nd (au (tT T) hr T.nI (ae (bL (v:=.ref a.dJ) rfl T.eJ rfl) (ae (ar (pv 2)) af))))
     (av (aF (eD (show aY _ (.type "tuple") (eh K)from fq) rfl T.z_tuple eF (ae (dZ rfl (cq.by (N':=["shift","gap"]) (src:=[none,some 3]) rfl (show cH _ (aA t9).names DL ["shift","gap"] [none,some 3]=true from by decide +kernel)) (gX (ar (pv 2))) (λ_ _ _ _ _=>(bK (i:=0) (show(["shift","gap"]:List Str).Nodup from by decide) rfl (Or.inl rfl))) (λ_ _ _ _ _=>dE) (λ_ _ _ _ _=>(au (HA (K:=K) (mg:=mg) (a:=a) T) hr T.zZ (ae (pv 0) (ae (pv 1) af))))) af))))))),?_⟩
 wtm_at "cl";rw[show start DL [x0,x1]=[some x0,some x1,none,none]from rfl];obtain⟨ra,rb,ns,hr',hn',ok,h0,h8,q1,q2⟩:=h;have bF:ag 100 (ra^ns.sum.toNat):=(ok.ba.pow ns.sum.toNat).mono (by omega);o_head oj hr' hn' ok h0 (by omega) (λv1 H1 S1 i1=>?_);o_head aG (j:=0) i1 rfl (λv2 i2=>?_);k_few
 . rename_i z
   exact q1 z H1 S1
 . rename_i z
   refine aG (j:=0) i1 rfl (λv3 i3=>?_);k_few;rename_i v4 H4 S4 i4;have hg:(1-ra^ns.sum.toNat)≠0:=λe=>z (by grind)
   have bg:ag 102 (1-ra^ns.sum.toNat):=(ag.one.sub bF).mono (by decide);refine aG (j:=1) (i1.by S4) rfl (λv5 i5=>?_);obtain⟨ap,us,rfl,hu,tu⟩:=bV.mp i5;refine iN (o0:=none) (tl:=[some v4]) hu rfl (λj y H'=>Is K H' y (N ((ck ra rb ns).getD j 0))) ?_ ?_
   . intro D i x ys o H5 hx inv
     obtain⟨hi,ix⟩:=dr tu hx;have ix5:=ix.by inv.same;have i45:=i4.by inv.same
     have hi1000:i<=1000:=by
       have h1:=ok.len;have h2:=ok.cf;have h3:=kx (a:=ra) (b:=rb) (show ns.length=(cD (ns.length-1)).length+1 from ok.len);omega
     o_head Jy ix5 i45 ((YR ok h8 i).mono (by decide)) (bg.mono (by decide)) hg (λv6 H6 S6 i6=>?_);k_few
     have e:(ck ra rb ns).getD i 0=(b8 ra rb ns (cD (ns.length-1))).getD i 0 / (1-ra^ns.sum.toNat):=by
       unfold ck;rw[wa,wu,wa,wc hi];rfl
     exact dW inv hi1000 fR ⟨_,rfl⟩ S6 (by rw[e];exact i6)
   . intro D ys H5 hn S5 hD hl hr5
     have hl':ys.length=(ck ra rb ns).length:=by
       unfold ck;rw[hl,tu.length,wm,wm]
     refine ie (dB hD (fU hl' hr5)) (λw H6 S6 i6=>?_);k_few;exact q2 z w H6 (S1.trans (S4.trans (S5.trans S6))) i6
def fC(p q:Rat)(xs ss:List Rat):List Rat:=(wt xs.length).map λi=>p*xs.getD i 0+q*ss.getD i 0
theorem mB(p q:Rat)(xs ss:List Rat):(fC p q xs ss).length=xs.length:=by unfold fC;rw[wm,vx]
theorem NG{p q:Rat}{xs ss:List Rat}{i:Nat}(h:i<xs.length):(fC p q xs ss).getD i 0=p*xs.getD i 0+q*ss.getD i 0:=by
 unfold fC;rw[wa,wu,vI h];rfl
def JZ(K:wb):Sp:=λvs H Q _=>∃x0 x1 x2 x3,vs=[x0,x1,x2,x3] /\ ∃(d:wz)(p q:Rat)(xs ss:List Rat),Is K H x0 (.tuple [d,TN ss])/\Is K H x1 (TN xs)/\Is K H x2 (N p)/\Is K H x3 (N q)/\ss.length=xs.length/\xs.length<=50/\ag 2000 p/\ag 2000 q/\(∀i,ag 6900 (xs.getD i 0))/\(∀i,ag 6900 (ss.getD i 0)) /\ ∀v H',ah H H'->Is K H' v (TN (fC p q xs ss))->Q v H'
theorem JV{K:wb}{H:Hp}{Q:VK}{E:XK}{d:wz}{p q':Rat}{xs ss:List Rat}{v w u z:V}(h0:Is K H v (.tuple [d,TN ss]))(h1:Is K H w (TN xs))(h2:Is K H u (N p))(h3:Is K H z (N q'))(hl:ss.length=xs.length)(hf:xs.length<=50)(b1:ag 2000 p)(b2:ag 2000 q')(b3:∀i,ag 6900 (xs.getD i 0))(b4:∀i,ag 6900 (ss.getD i 0))(q:∀v H',ah H H'->Is K H' v (TN (fC p q' xs ss))->Q v H'):JZ K [v,w,u,z] H Q E:=⟨_,_,_,_,rfl,d,p,q',xs,ss,h0,h1,h2,h3,hl,hf,b1,b2,b3,b4,q⟩
theorem Oj(T:Txt K mg a):aO P w K mg base aT 3 a.GR a.FH y_ (JZ K):=by
 refine T.zU.F.ok Zz ?_ ?_;wtm_at "b4";refine⟨_,(av (aF (eD (show aY _ (.type "tuple") (eh K)from fq) rfl T.z_tuple eF (ae (dZ rfl (cq.by (N':=["place","shift","of_place","of_shift"]) (src:=[none,none,some 2,some 3]) rfl (show cH _ (aA yN).names tf ["place","shift","of_place","of_shift"] [none,none,some 2,some 3]=true from by decide +kernel)) (T1 rfl T.z_zip (ae (pv 1) (ae (ar (pv 0)) af))) (λ_ _ _ _ _=>by exact(show PG _ _ (gD K 2 _)from ku (n:=2) rfl (eH (bK (i:=0) (show(["place","shift","of_place","of_shift"]:List Str).Nodup from by decide) rfl (Or.inl rfl)) (eH (bK (i:=1) (show(["place","shift","of_place","of_shift"]:List Str).Nodup from by decide) rfl (Or.inl rfl)) jK)))) (λ_ _ _ _ _=>dE) (λ_ _ _ _ _=>(au (fY (K:=K) (mg:=mg) (a:=a) T) hr T.fH (ae (au (ke (K:=K) (mg:=mg) (a:=a) T) hr T.jt (ae (pv 2) (ae (pv 0) af))) (ae (au (ke (K:=K) (mg:=mg) (a:=a) T) hr T.jt (ae (pv 3) (ae (pv 1) af))) af))))) af)))),?_⟩;wtm_at "cl";rw[show start tf [x0,x1,x2,x3]=[some x0,some x1,some x2,some x3]from rfl];obtain⟨d,p,q',xs,ss,h0,h1,h2,h3,hl,hf,b1,b2,b3,b4,q⟩:=h;obtain⟨a1,us,rfl,hs1,t1⟩:=bV.mp h1;o_head aG (j:=1) h0 rfl (λv5 i5=>?_);obtain⟨a2,ws,rfl,hs2,t2⟩:=bV.mp i5;have l1:=t1.length;have l2:=t2.length;rw[wm]at l1 l2;o_head zy5 (t:=true) (u:=true) hs1 hs2 (by omega) (o0:=none) (o0':=none) (tl:=[some x2,some x3]) rfl (λj y H'=>Is K H' y (N ((fC p q' xs ss).getD j 0))) fR ?_ ?_
 ·intro D j y z zs o1 o2 H7 c hy hz inv hc
  obtain⟨hj,iy⟩:=dr t1 hy;obtain⟨_,iz⟩:=dr t2 hz;have S7:=inv.2.2.1;have iy7:=iy.by S7;have iz7:=iz.by S7;have ip7:=h2.by S7;have iq7:=h3.by S7;have c1:=b3 j;have c2:=b4 j;have m1:ag 8999 (p*xs.getD j 0):=(b1.mul c1).mono (by decide);have m2:ag 8999 (q'*ss.getD j 0):=(b2.mul c2).mono (by decide);refine kU (.of hc) rfl ?_;k_few;rename_i v8 H8 S8 i8 v9 H9 S9 i9 v10 H10 S10 i10;rw[<- NG hj]at i10;exact yd inv (by omega) fR ⟨_,_,rfl⟩ (S8.trans (S9.trans S10)) i10
 ·intro D zs H7 hn S7 hD hl7 hr7
  have tz:ao K H7 zs ((fC p q' xs ss).map N):=fU (by rw[hl7,mB];omega) hr7;o_head ie (dB hD tz) (λv8 H8 S8 i8=>?_);exact q v8 H8 (S7.trans S8) i8
structure cA(ns:List Int):Prop where
 some:1<=ns.length
 cf:ns.length<=8
 each:∀n∈ns,1<=n/\n<=8
 sum:ns.sum<=8
theorem yo:∀{ns:List Int},(∀n∈ns,0<=n)->((ns.map QW).sum:Int)=ns.sum
 | [],_=>rfl
 | n::ns,h=>by
  have h1:=yo (ns:=ns) λm hm=>h m (wD _ hm)
  have h2:=h n (wJ ..);rw[wZ,WY,WY];omega
theorem cA.upTo{ns:List Int}(h:cA ns):upTo ns ns.length<=8:=by
 have h1:=yo (ns:=ns) λn hn=>by have:=h.each n hn;omega
 have h2:=h.sum;unfold GM.upTo;rw[Wt];omega
def c7(a b:Rat)(ns:List Int):List Rat:=b8 a b ns (cD (ns.length-1))
def cx(a b:Rat)(ns:List Int)(n:Nat)(xs:List Rat):List Rat:=(wt xs.length).map λi=>eZ (a^ns.sum.toNat) ((c7 a b ns).getD i 0) n (xs.getD i 0)
theorem CG(n:Nat):(cD n).length=n:=Ww ..
theorem oQ{a b:Rat}{ns:List Int}(h:1<=ns.length):(c7 a b ns).length=ns.length-1:=by
 unfold c7;rw[kx (by rw[CG];omega),CG]
theorem c6(a b:Rat)(ns:List Int)(n:Nat)(xs:List Rat):(cx a b ns n xs).length=xs.length:=by unfold cx;rw[wm,vx]
theorem kH{a b:Rat}{ns:List Int}{n:Nat}{xs:List Rat}{i:Nat}(h:i<xs.length):(cx a b ns n xs).getD i 0=eZ (a^ns.sum.toNat) ((c7 a b ns).getD i 0) n (xs.getD i 0):=by
 unfold cx;rw[wa,wu,vI h];rfl
theorem Bv{xs ys:List Rat}(hl:xs.length=ys.length)(h:∀i,i<xs.length->xs.getD i 0=ys.getD i 0):xs=ys:=WN hl λi h1 h2=>by
 have:=h i h1;rw[wa,wa,wc h1,wc h2]at this;exact this
theorem nR(a b:Rat)(ns:List Int)(xs:List Rat):cx a b ns 0 xs=xs:=Bv (c6 ..) λi hi=>by
 rw[c6]at hi;rw[kH hi,Z_]
theorem MG(a b:Rat)(ns:List Int)(m n:Nat)(xs:List Rat):cx a b ns n (cx a b ns m xs)=cx a b ns (m+n) xs:=Bv (by rw[c6,c6,c6]) λi hi=>by
 rw[c6,c6]at hi;rw[kH (by rw[c6];exact hi),kH hi,kH hi,UK]
theorem C_{a b:Rat}{ns:List Int}{xs:List Rat}(h:ns.length=xs.length+1)(hn:∀n∈ns,0<=n):cx a b ns 1 xs=b8 a b ns xs:=Bv (by rw[c6,kx h]) λi hi=>by
 rw[c6]at hi;rw[kH hi,Sn,BJ h hn hi]
 rfl
structure dR(a b:Rat)(ns:List Int)(n:Nat):Prop where
 ok:aR a b
 sz:cA ns
 cf:n<=60
 k:(6*ns.sum.toNat+1+1)*n<=1600
theorem Ug{a b:Rat}(h:aR a b):ag 6 a:=by
 have h1:=h.a0;have h2:=h.a4;have h3:=h.ad;have n0:0<=a.num:=qJ.mpr (vS h1)
 have n1:a.num<=4*a.den:=by
  have:=(xp a 4).mp h2
  simpa using this
 have e:(2:Nat)^6=64:=by decide
 exact⟨⟨by rw[e];omega⟩,⟨by rw[e];omega⟩⟩
theorem j6{a b:Rat}(h:aR a b)(S:Nat):ag (6*S+1) (a^S):=(Ug h).pow S
theorem dR.le{a b:Rat}{ns:List Int}{m n:Nat}(h:dR a b ns n)(e:m<=n):dR a b ns m:=⟨h.ok,h.sz,Wd e h.cf,Wd (xI _ e) h.k⟩
theorem dR.pow{a b:Rat}{ns:List Int}{n:Nat}(h:dR a b ns n){i:Nat}(hi:i<=n):ag 1601 ((a^ns.sum.toNat)^i):=((j6 h.ok _).pow i).mono (by
 have h1:=(h.le hi).k;have h2:=Wg i (show 6*ns.sum.toNat+1<=6*ns.sum.toNat+1+1 by omega);omega)
theorem dR.aB{a b:Rat}{ns:List Int}{n:Nat}(h:dR a b ns n){i:Nat}(hi:i<=n):ag 1601 (aB (a^ns.sum.toNat) 1 i):=(Mw (j6 h.ok _) i).mono (by have:=(h.le hi).k;omega)
theorem me{a b:Rat}{ns:List Int}(h:aR a b)(k:cA ns):cJ a b ns (cD (ns.length-1)):=⟨h.ba,h.bb,λn hn=>by have:=k.each n hn;omega,by rw[CG];have:=k.some;omega,by have:=k.cf;omega,⟨1,tZ _,by have:=k.cf;have:=k.upTo;omega⟩⟩
theorem z8{a b:Rat}{ns:List Int}(h:aR a b)(k:cA ns):Cm 185 (c7 a b ns):=(DY (ns:=ns) h.ba h.bb (tZ (ns.length-1))).mono (by have:=k.cf;have:=k.upTo;omega)
theorem zC{a b:Rat}{ns:List Int}(h:aR a b)(k:cA ns)(i:Nat):ag 185 ((c7 a b ns).getD i 0):=(z8 h k).get i
theorem cA.nn{ns:List Int}(k:cA ns):∀n∈ns,0<=n:=λn hn=>by have:=k.each n hn;omega
theorem cA.pos{ns:List Int}(k:cA ns):1<=ns.sum/\ns.sum<=8:=by
 refine⟨?_,k.sum⟩;have h1:=yo k.nn;have h2:=k.some
 match ns,h2,k.each with
 | n::ns,_,he =>
  have:=he n (wJ ..);rw[wZ,WY]at h1;omega
theorem oZ{a b:Rat}(h:aR a b){S:Nat}(hS:1<=S):a^S=1 ↔ a=1:=by
 obtain⟨m,rfl⟩:∃m,S=m+1:=⟨S-1,by omega⟩
 constructor
 ·intro e
  by_cases z:a<1
  ·have:=zs0 h.a0 z m
   rw[e]at this;exact absurd this (by grind)
  ·by_cases y:a=1
   ·exact y
   ·have z3:1<a:=VS (VR.mp z) (We y)
    have:=zrR z3 m;rw[e]at this;exact absurd this (by grind)
 ·intro e
  rw[e,GM.one_pow']
theorem Yx{a b:Rat}{ns:List Int}(hF:a^ns.sum.toNat≠1){i:Nat}(hi:i<(ck a b ns).length):(ck a b ns).getD i 0*(1-a^ns.sum.toNat)=(c7 a b ns).getD i 0:=by
 rw[Cv hi];exact WE (λe=>hF (by grind))
theorem ZW{a b:Rat}(h:aR a b)(S n:Nat):ag ((6*S+3)*n+1) ((a^S)^n):=((j6 h S).pow n).mono (by have:=Wg n (show 6*S+1<=6*S+3 by omega);omega)
theorem KJ{a b:Rat}(h:aR a b)(S n:Nat):ag ((6*S+3)*n+1) (aB (a^S) 1 n):=(Mw (j6 h S) n).mono (by have:=Wg n (show 6*S+1+1<=6*S+3 by omega);omega)
def Oo(K:wb):Sp:=λvs H Q _=>∃x0 x1 x2,vs=[x0,x1,x2] /\ ∃(F:Rat)(n:Int)(xs ss:List Rat),x2=.int n/\Is K H x0 (.tuple [N F,TN ss])/\Is K H x1 (TN xs)/\0<=n/\n<=64/\ss.length=xs.length/\xs.length<=50/\ag 2000 F/\(∀i,i<=n.toNat->ag 2000 (F^i))/\(∀i,i<=n.toNat->ag 2000 (aB F 1 i))/\(∀i,ag 6900 (xs.getD i 0))/\(∀i,ag 6900 (ss.getD i 0)) /\ ∀v H',ah H H'->Is K H' v (TN ((wt xs.length).map λi=>eZ F (ss.getD i 0) n.toNat (xs.getD i 0)))->Q v H'
theorem HG{K:wb}{H:Hp}{Q:VK}{E:XK}{F:Rat}{n:Int}{xs ss:List Rat}{v w:V}(h0:Is K H v (.tuple [N F,TN ss]))(h1:Is K H w (TN xs))(n0:0<=n)(n1:n<=64)(hl:ss.length=xs.length)(hf:xs.length<=50)(b0:ag 2000 F)(b1:∀i,i<=n.toNat->ag 2000 (F^i))(b2:∀i,i<=n.toNat->ag 2000 (aB F 1 i))(b3:∀i,ag 6900 (xs.getD i 0))(b4:∀i,ag 6900 (ss.getD i 0))(q:∀v H',ah H H'->Is K H' v (TN ((wt xs.length).map λi=>eZ F (ss.getD i 0) n.toNat (xs.getD i 0)))->Q v H'):Oo K [v,w,.int n] H Q E:=⟨_,_,_,rfl,F,n,xs,ss,rfl,h0,h1,n0,n1,hl,hf,b0,b1,b2,b3,b4,q⟩
theorem OA(T:Txt K mg a):aO P w K mg base aT 4 a.G8 a.Gn yh (Oo K):=by
 refine T.zV.F.ok OQ ?_ ?_;wtm_at "b3"
 refine⟨_,(ak (ay 3 OQ.nd (au (tJ T) hr T.nH (ae (aW (ae (ar (pv 0)) (ae (bL (v:=.ref a.dJ) rfl T.eJ rfl) af))) (ae (pv 2) af))))
     (av (aF (au (Oj T) hr T.zU (ae (pv 0) (ae (pv 1) (ae (ar (pv 3)) (ae (ar (pv 3)) af)))))))),?_⟩
 wtm_at "cl";rw[show start NV [x0,x1,x2]=[some x0,some x1,some x2,none]from rfl];obtain⟨F,n,xs,ss,rfl,h0,h1,n0,n1,hl,hf,b0,b1,b2,b3,b4,q⟩:=h;o_head aG (j:=0) h0 rfl (λv1 i1=>?_);o_head YM i1 (dP 1 (T.rL _) rfl rfl) (λv2 H2 S2 i2=>?_);o_head JU i2 (b0.mono (by decide)) (ag.one.mono (by decide)) n0 n1 (λi hi=>(b1 i hi).mono (by decide)) (λi hi=>(b2 i hi).mono (by decide)) (λv3 H3 S3 i3=>?_);k_few;rename_i v4 i4 v5 i5;have T3:=S2.trans S3;refine JV (h0.by T3) (h1.by T3) i4 i5 hl hf (b1 _ (wo _)) (b2 _ (wo _)) b3 b4 (λv6 H6 S6 i6=>?_);exact q v6 H6 (T3.trans S6) i6
def N1(K:wb):Sp:=λvs H Q _=>∃x0 x1 x2 x3,vs=[x0,x1,x2,x3] /\ ∃(ra rb:Rat)(ns:List Int)(xs:List Rat)(n:Int),x3=.int n/\Is K H x0 (R ra rb)/\Is K H x1 (TZ ns)/\Is K H x2 (TN xs)/\ns.length=xs.length+1/\0<=n/\dR ra rb ns n.toNat/\(∀i,ag 6900 (xs.getD i 0)) /\ ∀v H',ah H H'->Is K H' v (TN (cx ra rb ns n.toNat xs))->Q v H'
theorem zjY{K:wb}{H:Hp}{Q:VK}{E:XK}{ra rb:Rat}{ns:List Int}{xs:List Rat}{n:Int}{v w u:V}(h0:Is K H v (R ra rb))(h1:Is K H w (TZ ns))(h2:Is K H u (TN xs))(hl:ns.length=xs.length+1)(n0:0<=n)(ok:dR ra rb ns n.toNat)(b:∀i,ag 6900 (xs.getD i 0))(q:∀v H',ah H H'->Is K H' v (TN (cx ra rb ns n.toNat xs))->Q v H'):N1 K [v,w,u,.int n] H Q E:=⟨_,_,_,_,rfl,ra,rb,ns,xs,n,rfl,h0,h1,h2,hl,n0,ok,b,q⟩
theorem Sd(T:Txt K mg a):aO P w K mg base aT 8 a.EM a.Er tH (N1 K):=by
 refine T.ED.F.ok Uc ?_ ?_;wtm_at "b4";refine⟨_,(av (aF (au (OA T) hr T.zV (ae (au (og T) hr T.lU (ae (pv 0) (ae (pv 1) af))) (ae (pv 2) (ae (pv 3) af)))))),?_⟩;wtm_at "cl";rw[show start AN [x0,x1,x2,x3]=[some x0,some x1,some x2,some x3]from rfl];obtain⟨ra,rb,ns,xs,n,rfl,hr',hn',hx',hl,n0,ok,bx,q⟩:=h;have h8:=ok.sz.cf;have hp:=ok.sz.pos;have hn60:=ok.cf;o_head oj hr' hn' (me ok.ok ok.sz) (by omega) (by omega) (λv1 H1 S1 i1=>?_);o_head HG (ss:=c7 ra rb ns) i1 (hx'.by S1) n0 (by omega) (by rw[oQ (by omega)];omega) (by omega) (by have:=ok.sz.sum;exact(j6 ok.ok _).mono (by omega)) (λi hi=>(ok.pow hi).mono (by decide)) (λi hi=>(ok.aB hi).mono (by decide)) bx (λi=>(zC ok.ok ok.sz i).mono (by decide)) (λv2 H2 S2 i2=>?_);exact q v2 H2 (S1.trans S2) i2
theorem M3{k:Nat}{F:Rat}(h:ag k F):∀i:Nat,∃U:Int,GM.sumTo (aB F 1) i=wx U ((F.den:Int)^i)/\Bd ((k+2)*i+2) U
 | 0=>⟨0,by simp[GM.sumTo],⟨by simp⟩⟩
 | i+1=>by
  obtain⟨U,e,bU⟩:=M3 h i;obtain⟨T,e2,bT,bd⟩:=sX h i;have hd:(F.den:Int)^i≠0:=VT (fu F);have hd1:(F.den:Int)^(i+1)≠0:=VT (fu F);have ed:(F.den:Int)^(i+1)=(F.den:Int)^i*(F.den:Int):=qX ..;have h1:(k+2)*(i+1)=(k+2)*i+(k+2):=qC ..;have h2:(k+1)*i<=(k+2)*i:=Wg i (by omega);refine⟨(U+T)*(F.den:Int),?_,((bU.add bT).mul h.b).mono (by omega)⟩
  symm
  refine fb hd1 ?_;have k1:=cE U hd;have k2:=cE T hd;have e3:(((U+T)*(F.den:Int):Int):Rat)=((U:Rat)+(T:Rat))*((F.den:Int):Rat):=by rw[Wi,qW]
  rw[GM.sumTo,e,e2,ed,Wi,e3,<- k1,<- k2]
  grind
theorem Ny{k:Nat}{F:Rat}(h:ag k F)(i:Nat):ag ((k+2)*i+2) (GM.sumTo (aB F 1) i):=by
 obtain⟨U,e,bU⟩:=M3 h i;obtain⟨T,e2,bT,bd⟩:=sX h i;rw[e];exact ag.divInt (VT (fu F)) bU (bd.mono (by have:=Wg i (show k<=k+2 by omega);omega))
theorem dR.sums{a b:Rat}{ns:List Int}{n:Nat}(h:dR a b ns n){i:Nat}(hi:i<=n):ag 1662 (GM.sumTo (GM.aB (a^ns.sum.toNat) 1) i):=(Ny (j6 h.ok _) i).mono (by
 have h1:=(h.le hi).k;have h2:=(h.le hi).cf;have e:(6*ns.sum.toNat+1+2)*i=(6*ns.sum.toNat+1+1)*i+i:=by rw[<- qA]
 omega)
theorem zx0(F s x:Rat)(n:Nat):GM.sumTo (λk=>eZ F s k x) n=aB F 1 n*x+GM.sumTo (aB F 1) n*s:=by
 unfold eZ;rw[OM]
 have e1:GM.sumTo (λk=>F^k*x) n=aB F 1 n*x:=by
  rw[<- J4 F n,Qa,<- AI];exact yB n λk _=>Qa ..
 have e2:GM.sumTo (λk=>aB F 1 k*s) n=GM.sumTo (aB F 1) n*s:=by
  rw[Qa (GM.sumTo (aB F 1) n) s,<- AI];exact yB n λk _=>Qa ..
 rw[e1,e2]
def OL(K:wb):Sp:=λvs H Q _=>∃x0 x1 x2,vs=[x0,x1,x2] /\ ∃(a b:Rat)(ns:List Int)(n:Int)(xs:List Rat),x2=.int n/\Is K H x0 (.tuple [N (a^ns.sum.toNat),TN (c7 a b ns)])/\Is K H x1 (TN xs)/\0<=n/\dR a b ns n.toNat/\ns.length=xs.length+1/\(∀i,ag 6900 (xs.getD i 0)) /\ ∀v H',ah H H'->Is K H' v (TN (fC (aB (a^ns.sum.toNat) 1 n.toNat) (GM.sumTo (aB (a^ns.sum.toNat) 1) n.toNat) xs (c7 a b ns)))->Q v H'
theorem Zc{K:wb}{H:Hp}{Q:VK}{E:XK}{a b:Rat}{ns:List Int}{n:Int}{xs:List Rat}{v w:V}(h0:Is K H v (.tuple [N (a^ns.sum.toNat),TN (c7 a b ns)]))(h1:Is K H w (TN xs))(n0:0<=n)(ok:dR a b ns n.toNat)(hl:ns.length=xs.length+1)(bx:∀i,ag 6900 (xs.getD i 0))(q:∀v H',ah H H'->Is K H' v (TN (fC (aB (a^ns.sum.toNat) 1 n.toNat) (GM.sumTo (aB (a^ns.sum.toNat) 1) n.toNat) xs (c7 a b ns)))->Q v H'):OL K [v,w,.int n] H Q E:=⟨_,_,_,rfl,a,b,ns,n,xs,rfl,h0,h1,n0,ok,hl,bx,q⟩
theorem ziW(T:Txt K mg a):aO P w K mg base aT 4 a.EI a.Ep sx (OL K):=by
 refine T.Ex.F.ok nz ?_ ?_;wtm_at "b3"
 refine⟨_,(ak (ay 3 nz.nd (bL (v:=.ref a.cX) rfl T.dH rfl))
     (ak (ay 4 nz.nd (bL (v:=.ref a.cX) rfl T.dH rfl))
     (ak (gF vG rfl (kW rfl T.z_range (ae (pv 2) af)) (bK (i:=5) nz.nd rfl (Or.inl rfl)) (ak (ay 4 nz.nd (au (fY T) hr T.fH (ae (pv 4) (ae (pv 3) af))))
     (av (ay 3 nz.nd (au (fY T) hr T.fH (ae (au (ke T) hr T.jt (ae (ar (pv 0)) (ae (pv 3) af))) (ae (bL (v:=.ref a.dJ) rfl T.eJ rfl) af)))))))
     (av (aF (au (Oj T) hr T.zU (ae (pv 0) (ae (pv 1) (ae (pv 3) (ae (pv 4) af)))))))))),?_⟩
 wtm_at "cl";rw[show start PB [x0,x1,x2]=[some x0,some x1,some x2,none,none,none]from rfl];obtain⟨ra,rb,ns,n,xs,rfl,h0,h1,n0,ok,hl,bx,q⟩:=h;have h8:=ok.sz.cf;have h60:=ok.cf;have bF:ag 49 (ra^ns.sum.toNat):=(j6 ok.ok _).mono (by have:=ok.sz.sum;omega);generalize hF:ra^ns.sum.toNat=F at *;o_head ng (n:=n) (by omega) (by omega) (λi σ H'=>∃(f g:V)(o:Option V),σ = [some x0,some x1,some (.int n),some f,some g,o]/\ah H H'/\Is K H' f (N (aB F 1 i))/\Is K H' g (N (GM.sumTo (aB F 1) i))) ⟨_,_,_,rfl,ah.refl H,dP 0 (T.eB _) rfl rfl,dP 0 (T.eB _) rfl rfl⟩ ?_ ?_
 . rintro i σ H' hi ⟨f,g,o,rfl,S1,hf,hg⟩
   have h01:=h0.by S1;have bf:ag 1601 (aB F 1 i):=by rw[<- hF];exact ok.aB (by omega)
   have bg:ag 1662 (GM.sumTo (aB F 1) i):=by rw[<- hF];exact ok.sums (by omega)
   have bm:ag 1700 (F*aB F 1 i):=(bF.mul bf).mono (by decide);k_few;rename_i v2 H2 S2 i2;refine aG (j:=0) (h01.by S2) rfl (λv3 i3=>?_);have hf2:=hf.by S2;k_few;rename_i v4 H4 S4 i4 v5 H5 S5 i5;exact⟨_,_,_,rfl,S1.trans (S2.trans (S4.trans S5)),i5,i2.by (S4.trans S5)⟩
 . rintro σ H' ⟨f,g,o,rfl,S1,hf,hg⟩
   have bf:ag 2000 (aB F 1 n.toNat):=by rw[<- hF];exact(ok.aB (wo _)).mono (by decide)
   have bg:ag 2000 (GM.sumTo (aB F 1) n.toNat):=by rw[<- hF];exact(ok.sums (wo _)).mono (by decide)
   o_head JV (h0.by S1) (h1.by S1) hf hg (by rw[oQ (by omega)];omega) (by omega) bf bg bx (λi=>(zC ok.ok ok.sz i).mono (by decide)) (λv2 H2 S2 i2=>?_);exact q v2 H2 (S1.trans S2) i2
theorem N9{m j c d:Nat}{p q:Rat}{xs ss:List Rat}(hx:Cm m xs)(hs:Cm j ss)(bp:ag c p)(bq:ag d q):Cm (m+j+c+d+1) (fC p q xs ss):=by
 obtain⟨B,h0,h1,h2⟩:=hx;obtain⟨D,g0,g1,g2⟩:=hs;have hb:0<B*(p.den:Int)*(D*(q.den:Int)):=vJ (vJ h0 (den_pos p)) (vJ g0 (den_pos q));refine⟨_,hb,((h1.mul bp.b).mul (g1.mul bq.b)).mono (by omega),λx hx=>?_⟩;obtain⟨i,hi,rfl⟩:=wY.mp hx;have hi:=wH.mp hi;obtain⟨u,eu,bu⟩:=h2 _ (du (d:=0) hi)
 have hv:∃v:Int,ss.getD i 0=wx v D/\Bd j v:=by
  rcases wB i ss.length with z | z
  ·exact g2 _ (du z)
  ·rw[wa,wF z]
   exact⟨0,by simp,⟨by simp;exact Wj j⟩⟩
 obtain⟨v,ev,bv⟩:=hv;refine⟨p.num*u*(D*(q.den:Int))+q.num*v*(B*(p.den:Int)),?_,(((bp.t.mul bu).mul (g1.mul bq.b)).add ((bq.t.mul bv).mul (h1.mul bp.b))).mono (by omega)⟩
 symm
 show wx _ _=p*xs.getD i 0+q*ss.getD i 0
 refine fb (by omega) ?_;have k1:=cE u (show B≠0 by omega);have k2:=cE v (show D≠0 by omega);have k3:=j5 p;have k4:=j5 q;rw[eu,ev];simp only[qW,Wi];rw[<- k1,<- k2,<- k3,<- k4];generalize wx u B=y;generalize wx v D=z;generalize (B:Rat)=B';generalize (D:Rat)=D';generalize ((p.den:Int):Rat)=P';generalize ((q.den:Int):Rat)=Q'
 grind
theorem Ue{a b:Rat}{ns:List Int}{xs:List Rat}{n m:Nat}(ok:dR a b ns n)(c:Cm m xs):Cm (m+188+2*((6*ns.sum.toNat+3)*n)) (cx a b ns n xs):=(N9 c (z8 ok.ok ok.sz) (ZW ok.ok _ n) (KJ ok.ok _ n)).mono (by omega)
def oB(a b:Rat)(ns:List Int)(xs:List Rat)(n:Nat):Rat:=GM.sumTo (λk=>eO a b ns (cx a b ns k xs)) n
def gY(a b:Rat)(ns:List Int)(xs:List Rat)(n:Nat):List Rat:=(fC (aB (a^ns.sum.toNat) 1 n) (GM.sumTo (aB (a^ns.sum.toNat) 1) n) xs (c7 a b ns)).map λt=>t / ((n:Int):Rat)
theorem JS(a b:Rat)(ns:List Int)(xs:List Rat)(n:Nat):(gY a b ns xs n).length=xs.length:=by unfold gY;rw[wm,mB]
theorem Cj{n:Nat}(h:1<=n):((n:Int):Rat)≠0:=λe=>by
 have:=WZ.mp e;omega
theorem Ks{a b:Rat}{ns:List Int}{xs:List Rat}{n i:Nat}(hi:i<xs.length):(gY a b ns xs n).getD i 0=(fC (aB (a^ns.sum.toNat) 1 n) (GM.sumTo (aB (a^ns.sum.toNat) 1) n) xs (c7 a b ns)).getD i 0 / ((n:Int):Rat):=by
 unfold gY;rw[wa,wu,wc (by rw[mB];exact hi),wa,wc (by rw[mB];exact hi)]
 rfl
theorem zq7{a b:Rat}{ns:List Int}{xs:List Rat}(hl:ns.length=xs.length+1){n:Nat}(h1:1<=n):((n:Int):Rat)*eO a b ns (gY a b ns xs n)=oB a b ns xs n:=by
 unfold oB;refine Oz hl (λk=>cx a b ns k xs) (λk=>c6 ..) n _ h1 (JS ..) λi hi=>?_
 rw[Ks hi,WE (Cj h1),NG hi,<- zx0];exact yB n λk _=>(kH hi).symm
theorem HU{n:Nat}(h:n<=60):ag 6 ((n:Int):Rat):=by
 have e:(2:Nat)^6=64:=by decide
 exact⟨⟨by rw[X1,e];omega⟩,⟨by rw[X2];decide⟩⟩
theorem YI{a b:Rat}(h:aR a b)(S n:Nat):ag ((6*S+3)*n+2) (GM.sumTo (aB (a^S) 1) n):=Ny (j6 h S) n
theorem MN{a b:Rat}{ns:List Int}{xs:List Rat}{n m:Nat}(ok:dR a b ns n)(c:Cm m xs):Cm (m+189+2*((6*ns.sum.toNat+3)*n)) (fC (aB (a^ns.sum.toNat) 1 n) (GM.sumTo (aB (a^ns.sum.toNat) 1) n) xs (c7 a b ns)):=(N9 c (z8 ok.ok ok.sz) (KJ ok.ok _ n) (YI ok.ok _ n)).mono (by omega)
theorem zwz{a b:Rat}{ns:List Int}{xs:List Rat}{n m:Nat}(ok:dR a b ns n)(h1:1<=n)(c:Cm m xs):Cm (m+195+2*((6*ns.sum.toNat+3)*n)) (gY a b ns xs n):=by
 unfold gY;exact(Pw (MN ok c) (HU ok.cf) (Cj h1)).mono (by omega)
def M8(K:wb):Sp:=λvs H Q _=>∃x0 x1 x2 x3,vs=[x0,x1,x2,x3] /\ ∃(ra rb:Rat)(ns:List Int)(xs:List Rat)(n:Int)(m:Nat),x3=.int n/\Is K H x0 (R ra rb)/\Is K H x1 (TZ ns)/\Is K H x2 (TN xs)/\ns.length=xs.length+1/\0<=n/\dR ra rb ns n.toNat/\Cm m xs/\m+2*((6*ns.sum.toNat+3)*n.toNat)<=6700 /\ ∀v H',ah H H'->Is K H' v (N (oB ra rb ns xs n.toNat))->Q v H'
theorem Yo{K:wb}{H:Hp}{Q:VK}{E:XK}{ra rb:Rat}{ns:List Int}{xs:List Rat}{n:Int}{m:Nat}{v w u:V}(h0:Is K H v (R ra rb))(h1:Is K H w (TZ ns))(h2:Is K H u (TN xs))(hl:ns.length=xs.length+1)(n0:0<=n)(ok:dR ra rb ns n.toNat)(c:Cm m xs)(hm:m+2*((6*ns.sum.toNat+3)*n.toNat)<=6700)(q:∀v H',ah H H'->Is K H' v (N (oB ra rb ns xs n.toNat))->Q v H'):M8 K [v,w,u,.int n] H Q E:=⟨_,_,_,_,rfl,ra,rb,ns,xs,n,m,rfl,h0,h1,h2,hl,n0,ok,c,hm,q⟩
theorem zyR{K:wb}{H:Hp}{Q:VK}{n:Int}(q:∀v H',ah H H'->Is K H' v (N (n:Rat))->Q v H'):lh K [.int n,.int 1] H Q:=fh (r:=(n:Rat)) (X1 n).symm (by rw[X2];rfl) q
theorem zmS(T:Txt K mg a):aO P w K mg base aT 8 a.Fu a.EH tS (M8 K):=by
 refine T.EN.F.ok Bb ?_ ?_;wtm_at "b4"
 refine⟨_,(ak (bZ (cc l_ (pv 3) az (bA _)) (av (aF (bL (v:=.ref a.cX) rfl T.dH rfl))) b9)
     (ak (ay 4 Bb.nd (aW (ae (pv 3) (ae az af))))
     (ak (ay 5 Bb.nd (eD (show aY _ (.type "tuple") (eh K)from fq) rfl T.z_tuple eF (ae (dZ rfl (cq.by (N':=["total","count"]) (src:=[none,some 4]) rfl (show cH _ (aA zt).names DD ["total","count"] [none,some 4]=true from by decide +kernel)) (gX (au (ziW T) hr T.Ex (ae (au (og T) hr T.lU (ae (pv 0) (ae (pv 1) af))) (ae (pv 2) (ae (pv 3) af))))) (λ_ _ _ _ _=>(bK (i:=0) (show(["total","count"]:List Str).Nodup from by decide) rfl (Or.inl rfl))) (λ_ _ _ _ _=>dE) (λ_ _ _ _ _=>(au (HA (K:=K) (mg:=mg) (a:=a) T) hr T.zZ (ae (pv 0) (ae (pv 1) af))))) af)))
     (av (aF (au (ke T) hr T.jt (ae (pv 4) (ae (au (zns T) hr T.Fb (ae (pv 0) (ae (pv 1) (ae (pv 5) af)))) af)))))))),?_⟩
 wtm_at "cl";rw[show start DD [x0,x1,x2,x3]=[some x0,some x1,some x2,some x3,none,none]from rfl];obtain⟨ra,rb,ns,xs,n,m,rfl,hr',hn',hx',hl,n0,ok,c,hm,q⟩:=h;have h8:=ok.sz.cf;have hp:=ok.sz.pos;have h60:=ok.cf;have hu:=ok.sz.upTo;obtain⟨n,rfl⟩:∃j:Nat,n=(j:Int):=⟨n.toNat,by omega⟩;rw[wW]at q ok h60 hm;k_few
 . rename_i z
   have hz:n=0:=by omega
   subst hz;exact q _ H (ah.refl _) (dP 0 (T.eB _) rfl rfl)
 . rename_i z
   have h1n:1<=n:=by omega
   have cM:=zwz ok h1n c;have hml:=JS ra rb ns xs n;have hne:=Cj h1n;have bn:ag 6 ((n:Int):Rat):=HU h60;refine zyR (λv1 H1 S1 i1=>?_);o_head oj (hr'.by S1) (hn'.by S1) (me ok.ok ok.sz) (by omega) (by omega) (λv2 H2 S2 i2=>?_);have T2:=S1.trans S2;o_head Zc (a:=ra) (b:=rb) (ns:=ns) i2 (hx'.by T2) (by omega) (by rw[wW];exact ok) hl (λi=>(c.get i).mono (by omega)) (λv3 H3 S3 i3=>?_);rw[wW]at i3;have i13:=i1.by (S2.trans S3);obtain⟨a3,us,rfl,hs3,t3⟩:=bV.mp i3;have hul:=t3.length;rw[wm,mB]at hul;have bw:∀i,ag 8100 ((fC (aB (ra^ns.sum.toNat) 1 n) (GM.sumTo (aB (ra^ns.sum.toNat) 1) n) xs (c7 ra rb ns)).getD i 0):=λi=>((MN ok c).get i).mono (by omega)
   o_head iN hs3 (o0:=none) (tl:=[some v1]) rfl (λj y H'=>Is K H' y (N ((gY ra rb ns xs n).getD j 0))) ?_ ?_
   . intro D j x ys o H4 hx inv
     obtain⟨hj,ix⟩:=dr t3 hx;rw[mB]at hj;o_head Jy (ix.by inv.same) (i13.by inv.same) ((bw j).mono (by decide)) (bn.mono (by decide)) hne (λv5 H5 S5 i5=>?_);rw[<- Ks hj]at i5;exact dW inv (by omega) fR ⟨_,rfl⟩ S5 i5
   . intro D ys H4 hn4 S4 e4 hl4 hr4
     have tz:ao K H4 ys ((gY ra rb ns xs n).map N):=fU (by rw[hl4,hul,hml]) hr4;o_head ie (dB e4 tz) (λv5 H5 S5 i5=>?_);have T5:=T2.trans (S3.trans (S4.trans S5));have rok:cJ ra rb ns (gY ra rb ns xs n):=⟨ok.ok.ba,ok.ok.bb,λk hk=>by have:=ok.sz.each k hk;omega,by rw[hml];exact hl,by omega,⟨_,cM,by omega⟩⟩;o_head znB (hr'.by T5) (hn'.by T5) i5 rok cM (by omega) (λv6 H6 S6 i6=>?_);have bt:ag 8000 (eO ra rb ns (gY ra rb ns xs n)):=(OD rok cM (by omega) (wo _)).fo (wJ ..);have i16:=i13.by (S4.trans (S5.trans S6));k_few;rename_i v7 H7 S7 i7;rw[zq7 hl h1n]at i7;exact q v7 H7 (T5.trans (S6.trans S7)) i7
def m6(ts:List Rat):List Bool:=ts.map λx=>decide (1<x)
theorem zuk{ts:List Rat}{i:Nat}(h:i<ts.length):(m6 ts).getD i true=decide (1<ts.getD i 0):=by
 unfold m6;rw[wa,wu,wa,wc h]
 rfl
def pS(a b:Rat)(ns:List Int):Bool:=!((m6 (eG a b ns (ck a b ns))).any id)
theorem zqi{a b:Rat}{ns:List Int}(h:aR a b)(k:cA ns)(hF:a^ns.sum.toNat≠1):cJ a b ns (ck a b ns):=⟨h.ba,h.bb,λn hn=>by have:=k.each n hn;omega,by rw[pz k.some];have:=k.some;omega,by have:=k.cf;omega,⟨268,Th h.ba h.bb k.cf k.upTo (by have:=k.sum;omega) hF,by have:=k.cf;have:=k.upTo;omega⟩⟩
def JB(K:wb):Sp:=λvs H Q _=>∃x0 x1,vs=[x0,x1] /\ ∃(a b:Rat)(ns:List Int),Is K H x0 (R a b)/\Is K H x1 (TZ ns)/\aR a b/\cA ns/\a≠1 /\ ∀H',ah H H'->Q (.bl (pS a b ns)) H'
theorem Ka{K:wb}{H:Hp}{Q:VK}{E:XK}{a b:Rat}{ns:List Int}{v w:V}(h1:Is K H v (R a b))(h2:Is K H w (TZ ns))(ok:aR a b)(sz:cA ns)(ha:a≠1)(q:∀H',ah H H'->Q (.bl (pS a b ns)) H'):JB K [v,w] H Q E:=⟨_,_,rfl,a,b,ns,h1,h2,ok,sz,ha,q⟩
theorem Kh(T:Txt K mg a):aO P w K mg base aT 9 a.Fj a.EB yX (JB K):=by
 refine T.zF.F.ok Z3 ?_ ?_;wtm_at "b2";refine⟨_,(av (aF (m_ (bQ (show aY _ (.builtin "any") (DU K)from Zn rfl) rfl T.z_any Ur (ae (dZ rfl (cq.by (N':=["top"]) (src:=[none]) rfl (show cH _ (aA rW).names uX ["top"] [none]=true from by decide +kernel)) (gX (au (Nr T) hr T.zY (ae (pv 0) (ae (pv 1) (ae (au (N3 T) hr T.zW (ae (pv 0) (ae (pv 1) af))) af))))) (λ_ _ _ _ _=>(bK (i:=0) (show(["top"]:List Str).Nodup from by decide) rfl (Or.inl rfl))) (λ_ _ _ _ _=>dE) (λ_ _ _ _ _=>(au (gm (K:=K) (mg:=mg) (a:=a) T) hr T.fG (ae (bL (v:=.ref a.dJ) rfl T.eJ rfl) (ae (pv 0) af))))) af))))),?_⟩;wtm_at "cl";rw[show start uX [x0,x1]=[some x0,some x1]from rfl];obtain⟨ra,rb,ns,hr',hn',ok,sz,ha,q⟩:=h;have h8:=sz.cf;have hps:=sz.pos;have hF:ra^ns.sum.toNat≠1:=λe=>ha ((oZ ok (by omega)).mp e)
 have rok:=zqi ok sz hF;o_head N7 hr' hn' (me ok sz) (by omega) (by omega) (λe=>absurd e hF) (λ_ v1 H1 S1 i1=>?_);o_head Ih (hr'.by S1) (hn'.by S1) i1 rok (λv2 H2 S2 i2=>?_);obtain⟨a2,us,rfl,hs2,t2⟩:=bV.mp i2;have hl2:=t2.length;rw[wm,jl]at hl2;refine iN hs2 (o0:=none) (tl:=[]) rfl (λi v H=>v=V.bl ((m6 (eG ra rb ns (ck ra rb ns))).getD i true)) ?_ ?_
 ·rintro D i x ys o H3 hx inv
  obtain⟨hi,ix⟩:=dr t2 hx;rw[jl]at hi;have ix3:=ix.by inv.same;have b1:=HJ rok hi;have b2:ag 1 1:=ag.one;k_few;exact dW inv (by omega) (λ_ _ _ _ _ h=>h) ⟨_,rfl⟩ (ah.refl _) (by rw[zuk (by rw[jl];exact hi)])
 ·rintro D ys H3 hn3 S3 e3 hl3 hr3
  have hz:=sY (bs:=m6 (eG ra rb ns (ck ra rb ns))) (by unfold m6;rw[wm,jl];omega) hr3;rw[hz]at e3;o_head zx2 (.of e3) ?_;k_few;exact q _ (S1.trans (S2.trans S3))
def mF(ss:List Rat):List Bool:=ss.map λs=>decide (s=0)
theorem zvg{ts:List Rat}{i:Nat}(h:i<ts.length):(mF ts).getD i true=decide (ts.getD i 0=0):=by
 unfold mF;rw[wa,wu,wa,wc h]
 rfl
def d8(a b:Rat)(ns:List Int)(xs:List Rat):Bool:=if 1<a then decide (xs=ck a b ns)else if a=1 then(mF (c7 a b ns)).all id else pS a b ns
def HS(K:wb):Sp:=λvs H Q _=>∃x0 x1 x2,vs=[x0,x1,x2] /\ ∃(a b:Rat)(ns:List Int)(xs:List Rat),Is K H x0 (R a b)/\Is K H x1 (TZ ns)/\Is K H x2 (TN xs)/\aR a b/\cA ns /\ ∀H',ah H H'->Q (.bl (d8 a b ns xs)) H'
theorem zny{K:wb}{H:Hp}{Q:VK}{E:XK}{a b:Rat}{ns:List Int}{xs:List Rat}{v w u:V}(h1:Is K H v (R a b))(h2:Is K H w (TZ ns))(h3:Is K H u (TN xs))(ok:aR a b)(sz:cA ns)(q:∀H',ah H H'->Q (.bl (d8 a b ns xs)) H'):HS K [v,w,u] H Q E:=⟨_,_,_,rfl,a,b,ns,xs,h1,h2,h3,ok,sz,q⟩
theorem znm(T:Txt K mg a):aO P w K mg base aT 10 a.FI a.EO uM (HS K):=by
 refine T.E_.F.ok Np ?_ ?_;wtm_at "b3"
 refine⟨_,(ak (ay 3 Np.nd (au (pA T) hr T.lW (ae (pv 0) af)))
     (ak (bZ (cc (show aJ _ (wT .Eq) (cN K)from dk hu) (pv 3) cz (bA _)) (av (aF (dA (show aJ _ (wT .Eq) (cN K)from dk hu) (eD (show aY _ (.type "tuple") (eh K)from fq) rfl T.z_tuple eF (ae (pv 2) af)) (au (N3 T) hr T.zW (ae (pv 0) (ae (pv 1) af))) (bA _)))) b9)
     (ak (bZ (cc (show aJ _ (wT .Eq) (cN K)from dk hu) (pv 3) cz (bA _)) (av (aF (bQ (show aY _ (.builtin "all") (md K)from sI rfl) rfl T.z_all zj (ae (dZ rfl (cq.by (N':=["shift"]) (src:=[none]) rfl (show cH _ (aA sT).names Df ["shift"] [none]=true from by decide +kernel)) (gX (ar (au (og T) hr T.lU (ae (pv 0) (ae (pv 1) af))))) (λ_ _ _ _ _=>(bK (i:=0) (show(["shift"]:List Str).Nodup from by decide) rfl (Or.inl rfl))) (λ_ _ _ _ _=>dE) (λ_ _ _ _ _=>(dA (show aJ _ (wT .Eq) (cN K)from dk hu) (pv 0) (bL (v:=.ref a.cX) rfl T.dH rfl) (bA _)))) af)))) b9)
     (av (aF (au (Kh T) hr T.zF (ae (pv 0) (ae (pv 1) af)))))))),?_⟩
 wtm_at "cl";rw[show start Df [x0,x1,x2]=[some x0,some x1,some x2,none]from rfl];obtain⟨ra,rb,ns,xs,hr',hn',hx',ok,sz,q⟩:=h;have h8:=sz.cf;have h1:=sz.some;have hps:=sz.pos;o_head mm hr' (ok.ba.mono (by decide)) ?_;unfold jz;unfold d8 at q
 by_cases z1:1<ra
 . rw[if_pos z1]at q ⊢
   have hF:ra^ns.sum.toNat≠1:=λe=>absurd ((oZ ok (by omega)).mp e) (by grind)
   o_head gg _ _ true (by rw[wA];decide) ?_;o_head M9 hx' ?_;o_head N7 hr' hn' (me ok sz) (by omega) (by omega) (λe=>absurd e hF) (λ_ v1 H1 S1 i1=>?_);o_head Kr (hx'.by S1) i1 ?_;exact q _ S1
 . rw[if_neg z1]at q ⊢
   by_cases z2:ra=1
   . rw[if_pos z2]at q ⊢
     o_head gg _ _ false (by rw[wA];decide) ?_;o_head gg _ _ true (by rw[wA];decide) ?_;o_head oj hr' hn' (me ok sz) (by omega) (by omega) (λv1 H1 S1 i1=>?_);o_head aG (j:=1) i1 rfl (λv2 i2=>?_);obtain⟨a2,us,rfl,hs2,t2⟩:=bV.mp i2;have hl2:=t2.length;rw[wm]at hl2;have hsl:(c7 ra rb ns).length=ns.length-1:=oQ h1;have t2:ao K H1 us ((c7 ra rb ns).map N):=t2;have hl2:us.length=(c7 ra rb ns).length:=hl2;refine iN hs2 (o0:=none) (tl:=[]) rfl (λi v H=>v=V.bl ((mF (c7 ra rb ns)).getD i true)) ?_ ?_
     . rintro D i x ys o H3 hx inv
       obtain⟨hi,ix⟩:=dr t2 hx;have ix3:=ix.by inv.same;k_few;exact dW inv (by omega) (λ_ _ _ _ _ h=>h) ⟨_,rfl⟩ (ah.refl _) (by rw[zvg hi])
     . rintro D ys H3 hn3 S3 e3 hl3 hr3
       have hz:=sY (bs:=mF (c7 ra rb ns)) (by unfold mF;rw[wm];omega) hr3;rw[hz]at e3;o_head pf (.of e3) ?_;exact q _ (S1.trans S3)
   . rw[if_neg z2]at q ⊢
     o_head gg _ _ false (by rw[wA];decide) ?_;o_head gg _ _ false (by rw[wA];decide) ?_;k_few;exact Ka hr' hn' ok sz z2 q
theorem Nz{a b:Rat}{ns:List Int}{xs:List Rat}(hF:a^ns.sum.toNat≠1)(hl:ns.length=xs.length+1)(k:Nat):cx a b ns k xs=eY ((a^ns.sum.toNat)^k) (ck a b ns) xs:=by
 have hs:(ck a b ns).length=xs.length:=by rw[pz (by omega)];omega
 refine gH (by rw[c6,mC hs,hs]) λi hi=>?_
 rw[c6]at hi;rw[jQ hs (by omega),kH hi,zwg (Yx hF (by omega))]
theorem BR{a b:Rat}{ns:List Int}{xs:List Rat} : cZ a b ns xs=true ↔ (∀i,i<xs.length+1->(df xs).getD (i+1) 0<(df xs).getD i 0) /\ ∀i,i<ns.length->(eG a b ns xs).getD i 0<1:=by
 unfold cZ;rw[wV,Wl,Wl]
 constructor
 ·rintro ⟨h1,h2⟩
  refine⟨λi hi=>?_,λi hi=>?_⟩
  ·have:=h1 _ (wY.mpr ⟨i,wH.mpr hi,rfl⟩)
   exact of_decide_eq_true this
  ·have:=h2 _ (wY.mpr ⟨_,du (d:=0) (show i<(eG a b ns xs).length by rw[jl];exact hi),rfl⟩)
   exact of_decide_eq_true this
 ·rintro ⟨h1,h2⟩
  refine⟨λx hx=>?_,λx hx=>?_⟩
  ·obtain⟨i,hi,rfl⟩:=wY.mp hx
   exact decide_eq_true (h1 i (wH.mp hi))
  ·obtain⟨t,ht,rfl⟩:=wY.mp hx
   obtain⟨i,hi,rfl⟩:=wY.mp ht;have:=h2 i (wH.mp hi);rw[mv (wH.mp hi)]at this;exact decide_eq_true this
theorem Nu:∀l:List Rat,(∀i,i+1<l.length->l.getD (i+1) 0<l.getD i 0)->l.Pairwise (· > ·)
 | [],_=>.nil
 | x::l,h=>by
  have h':∀i,i+1<l.length->l.getD (i+1) 0<l.getD i 0:=λi hi=>by
   have:=h (i+1) (by simp;omega)
   simpa using this
  have hd:∀j,j<l.length->l.getD j 0<x:=λj=>by
   induction j with
   | zero=>intro hj;have:=h 0 (by simp;omega);simpa using this
   | succ j ih=>intro hj;have h3:=h' j hj;have h4:=ih (by omega);grind
  refine WR.mpr ⟨λy hy=>?_,Nu l h'⟩;obtain⟨j,hj,e⟩:=vc hy;have:=hd j hj;rw[wa,wc hj]at this
  show y<x
  rw[<- e];exact this
theorem zwe{l:List Rat}(h:l.Pairwise (· > ·)){i:Nat}(hi:i+1<l.length):l.getD (i+1) 0<l.getD i 0:=by
 rw[wa,wa,wc hi,wc (show i<l.length by omega)];exact(Wv.mp h) i (i+1) (by omega) hi (by omega)
theorem mY(xs:List Rat)(i:Nat):(df xs).getD (i+1) 0=(xs++[0]).getD i 0:=by
 unfold df;rw[Vt]
 rfl
theorem OO{xs:List Rat}(h:∀i,i<xs.length+1->(df xs).getD (i+1) 0<(df xs).getD i 0):gC (xs++[0])/\(xs++[0]).getD 0 0<1:=by
 have pw:(xs++[0]).Pairwise (· > ·):=Nu _ λi hi=>by
  have:=h (i+1) (by simp at hi;omega);rw[mY,mY]at this;exact this
 refine⟨⟨pw,λy hy=>?_⟩,?_⟩
 ·rcases vX.mp hy with z | z
  ·exact vS ((qb.mp pw).2.2 y z 0 (wX.mpr rfl))
  ·rw[wX.mp z];exact WL
 ·have:=h 0 (by omega)
  rw[mY]at this;exact this
theorem LD{xs:List Rat}(pw:(xs++[0]).Pairwise (· > ·))(one:(xs++[0]).getD 0 0<1):∀i,i<xs.length+1->(df xs).getD (i+1) 0<(df xs).getD i 0
 | 0,_=>by rw[mY];exact one
 | i+1,hi=>by rw[mY,mY];exact zwe pw (by simp;omega)
theorem A1{a b:Rat}{ns:List Int}{xs:List Rat}(h:ns.length=xs.length+1):b8 a b ns xs++[0]=aM a b ns (xs++[0]) ns.length:=by
 have hl:=kx (a:=a) (b:=b) h;have hr:(aM a b ns (xs++[0]) ns.length).length=xs.length+1:=by rw[cw];simp
 refine gH (by rw[hr,wS,hl];rfl) λi hi=>?_
 rw[wS,hl]at hi;have hi:i<xs.length+1:=hi;rcases wB i xs.length with z | z
 ·rw[Be (by omega),nV h z]
 ·have e:i=xs.length:=by omega
  have e2:(b8 a b ns xs++[0]).getD i 0=0:=by rw[e,<- hl];exact p_
  rw[e2,e,h,aM,fi _ _ _ _ _ _ (by rw[cw];simp),if_pos rfl]
theorem Ju{a b:Rat}(a0:0<a)(b0:0<=b){ns:List Int}{row:List Rat}(F:gC row)(one:row.getD 0 0<1)(gR:∀t,t<row.length->dU a b ns row t<1):∀i,i<=row.length->gC (turned a b ns row i)
 | 0,_=>F
 | i+1,hi=>by
  have ih:=Ju a0 b0 F one gR i (by omega)
  have oi:(aM a b ns row i).getD i 0<1:=by
   cases i with
   | zero=>exact one
   | succ j =>
    have:=gR j (by omega);unfold dU at this;rw[XA (by omega)]at this;exact this
  obtain⟨x,l,ex⟩:∃x l,turned a b ns row i=x::l:=by
   cases e:turned a b ns row i with
   | nil =>
    have:=sS a b ns row (by omega) i;rw[e]at this;simp at this;omega
   | cons x l=>exact⟨x,l,rfl⟩
  have hx:x=(aM a b ns row i).getD i 0:=by
   have:=u6 a b ns row (show i<row.length by omega);rw[ex]at this;exact this
  show gC (lR a b (ns.getD i 0).toNat (turned a b ns row i))
  rw[ex]at ih ⊢;exact ih.step a0 b0 (by rw[hx];exact oi)
theorem zs8{a b:Rat}{ns:List Int}{xs:List Rat}(ok:aR a b)(hn:ns.length=xs.length+1)(f:cZ a b ns xs=true):∀i,i<(b8 a b ns xs).length+1->(df (b8 a b ns xs)).getD (i+1) 0<(df (b8 a b ns xs)).getD i 0:=by
 obtain⟨h1,h2⟩:=BR.mp f;obtain⟨F,one⟩:=OO h1;have hl:(xs++[0]).length=ns.length:=by simp[hn]
 have gR:∀t,t<(xs++[0]).length->dU a b ns (xs++[0]) t<1:=λt ht=>by
  have:=h2 t (by omega);rw[mv (by omega)]at this;unfold dU;rw[hl];exact this
 have Fl:=Ju ok.a0 ok.b0 F one gR (xs++[0]).length (wo _);rw[hl,CJ a b ns _ hl.symm,<- A1 hn]at Fl;have t:=gR (ns.length-1) (by omega);unfold dU at t;rw[hl,show ns.length-1+1=ns.length by omega,Nat.mod_self,<- A1 hn]at t;exact LD Fl.pw t
theorem zwK(c:Rat)(xs:List Rat):eY c xs xs=xs:=gH (mC rfl) λi hi=>by
 rw[mC rfl]at hi;rw[jQ rfl hi]
 grind
def cg(a b:Rat)(ns:List Int)(xs:List Rat)(k:Nat):Bool:=cZ a b ns (cx a b ns k xs)
theorem yj{a b:Rat}{ns:List Int}(ok:aR a b)(sz:cA ns){k:Nat}(hk:k<=31):dR a b ns k:=⟨ok,sz,by omega,by
 have h1:=sz.sum;have h2:(6*ns.sum.toNat+1+1)*k<=50*k:=Wg k (by omega);omega⟩
theorem OB{a b:Rat}{ns:List Int}{xs:List Rat}{m:Nat}(ok:aR a b)(sz:cA ns)(c:Cm m xs){k:Nat}(hk:k<=31):Cm (m+188+102*k) (cx a b ns k xs):=(Ue (yj ok sz hk) c).mono (by
 have h1:=sz.sum;have h2:(6*ns.sum.toNat+3)*k<=51*k:=Wg k (by omega);omega)
theorem NA{a b:Rat}{ns:List Int}{xs:List Rat}{m:Nat}(ok:aR a b)(sz:cA ns)(hn:ns.length=xs.length+1)(c:Cm m xs)(hm:m<=3700){k:Nat}(hk:k<=30):cJ a b ns (cx a b ns k xs):=⟨ok.ba,ok.bb,λn hn=>by have:=sz.each n hn;omega,by rw[c6];exact hn,by have:=sz.cf;omega,⟨_,OB ok sz c (by omega),by have:=sz.cf;have:=sz.upTo;omega⟩⟩
def Ct(K:wb)(a:Ad):Sp:=λvs H Q E=>∃x0 x1 x2,vs=[x0,x1,x2] /\ ∃(ra rb:Rat)(ns:List Int)(xs:List Rat),Is K H x0 (R ra rb)/\Is K H x1 (TZ ns)/\Is K H x2 (TN xs)/\aR ra rb/\cA ns/\ns.length=xs.length+1/\cJ ra rb ns xs/\(d8 ra rb ns xs=false->∃n:Nat,n<=30/\(n=30\/cg ra rb ns xs n=false)/\(∀k,k<=n->cJ ra rb ns (cx ra rb ns k xs))/\(∀k,k<n->∀j,ag 6900 ((cx ra rb ns k xs).getD j 0))) /\
 (cg ra rb ns xs 0=false->∀H',ah H H'->Q (.int 0) H') /\
 (cg ra rb ns xs 0=true->d8 ra rb ns xs=true->∀H',ah H H'->Q .bM H') /\
 (∀c:Nat,1<=c->c<=30->d8 ra rb ns xs=false->(∀k,k<c->cg ra rb ns xs k=true)->cg ra rb ns xs c=false->∀H',ah H H'->Q (.int (c:Int)) H') /\
 (d8 ra rb ns xs=false->(∀k,k<=30->cg ra rb ns xs k=true)->∀H',ah H H'->E (.ref a.cP) none H')
theorem zli{K:wb}{a:Ad}{H:Hp}{Q:VK}{E:XK}{ra rb:Rat}{ns:List Int}{xs:List Rat}{v w u:V}(h1:Is K H v (R ra rb))(h2:Is K H w (TZ ns))(h3:Is K H u (TN xs))(ok:aR ra rb)(sz:cA ns)(hn:ns.length=xs.length+1)(r0:cJ ra rb ns xs)(hb:d8 ra rb ns xs=false->∃n:Nat,n<=30/\(n=30\/cg ra rb ns xs n=false)/\(∀k,k<=n->cJ ra rb ns (cx ra rb ns k xs))/\(∀k,k<n->∀j,ag 6900 ((cx ra rb ns k xs).getD j 0)))
  (q0:cg ra rb ns xs 0=false->∀H',ah H H'->Q (.int 0) H')
  (q1:cg ra rb ns xs 0=true->d8 ra rb ns xs=true->∀H',ah H H'->Q .bM H')
  (q2:∀c:Nat,1<=c->c<=30->d8 ra rb ns xs=false->(∀k,k<c->cg ra rb ns xs k=true)->cg ra rb ns xs c=false->∀H',ah H H'->Q (.int (c:Int)) H')
  (q3:d8 ra rb ns xs=false->(∀k,k<=30->cg ra rb ns xs k=true)->∀H',ah H H'->E (.ref a.cP) none H'):Ct K a [v,w,u] H Q E:=⟨_,_,_,rfl,ra,rb,ns,xs,h1,h2,h3,ok,sz,hn,r0,hb,q0,q1,q2,q3⟩
theorem UM{K:wb}{a:Ad}{H:Hp}{Q:VK}{E:XK}{ra rb:Rat}{ns:List Int}{xs:List Rat}{m:Nat}{v w u:V}(h1:Is K H v (R ra rb))(h2:Is K H w (TZ ns))(h3:Is K H u (TN xs))(ok:aR ra rb)(sz:cA ns)(hn:ns.length=xs.length+1)(c:Cm m xs)(hm:m<=3700)
  (q0:cg ra rb ns xs 0=false->∀H',ah H H'->Q (.int 0) H')
  (q1:cg ra rb ns xs 0=true->d8 ra rb ns xs=true->∀H',ah H H'->Q .bM H')
  (q2:∀c:Nat,1<=c->c<=30->d8 ra rb ns xs=false->(∀k,k<c->cg ra rb ns xs k=true)->cg ra rb ns xs c=false->∀H',ah H H'->Q (.int (c:Int)) H')
  (q3:d8 ra rb ns xs=false->(∀k,k<=30->cg ra rb ns xs k=true)->∀H',ah H H'->E (.ref a.cP) none H'):Ct K a [v,w,u] H Q E :=
 zli h1 h2 h3 ok sz hn (by have:=NA ok sz hn c hm (k:=0) (by decide);rw[nR]at this;exact this) (λ_=>⟨30,wo 30,.inl rfl,λk hk=>NA ok sz hn c hm hk,λk hk j=>((OB ok sz c (k:=k) (by omega)).get j).mono (by omega)⟩) q0 q1 q2 q3
theorem YL(T:Txt K mg a):aO P w K mg base (eI P w) 11 a.FC a.EG uD (Ct K a):=by
 refine T.EK.F.oN nW ?_ ?_;wtm_at "b3"
 refine⟨_,(ak (bZ (dS (cR (au (pj T) hr T.lV (ae (pv 0) (ae (pv 1) (ae (pv 2) af)))))) (av (aF az)) b9)
     (ak (bZ (cR (au (znm T) hr T.E_ (ae (pv 0) (ae (pv 1) (ae (pv 2) af))))) (av (aF jV)) b9)
     (ak (ay 3 nW.nd (au (og T) hr T.lU (ae (pv 0) (ae (pv 1) af))))
     (ak (ay 4 nW.nd (pv 2))
     (ak (gF Xl rfl (YT rfl T.z_range (ae az (ae (aC cC (oo rfl T.Rj) az) af))) (bK (i:=5) nW.nd rfl (Or.inl rfl)) (ak (ay 4 nW.nd (au (OA T) hr T.zV (ae (pv 3) (ae (pv 4) (ae az af)))))
     (av (bZ (dS (cR (au (pj T) hr T.lV (ae (pv 0) (ae (pv 1) (ae (pv 4) af)))))) (av (aF (pv 5))) b9))))
     (av (LV T.Rx rfl rfl T.F7 N_ (ae cz af)))))))),?_⟩
 wtm_at "cl";rw[show start Kf [x0,x1,x2]=[some x0,some x1,some x2,none,none,none]from rfl];obtain⟨ra,rb,ns,xs,hr',hn',hx',ok,sz,hn,r0,hb,q0,q1,q2,q3⟩:=h;have h8:=sz.cf;have h1:=sz.some;have hps:=sz.pos;have e0:cg ra rb ns xs 0=cZ ra rb ns xs:=by unfold cg;rw[nR]
 o_head pV hr' hn' hx' r0 (λH1 S1=>?_);k_few
 . rename_i z
   exact q0 (by rw[e0];exact z) H1 S1
 . rename_i z
   have hr1:=hr'.by S1;have hn1:=hn'.by S1;have hx1:=hx'.by S1;refine zny hr1 hn1 hx1 ok sz (λH2 S2=>?_);k_few
   . rename_i y
     exact q1 (by rw[e0];exact z) y H2 (S1.trans S2)
   . rename_i y
     have y:d8 ra rb ns xs=false:=by first | exact y | exact XE _ ▸ y
     obtain⟨n,n30,stop,rd,bd⟩:=hb y;refine oj (hr1.by S2) (hn1.by S2) (me ok sz) (by omega) (by omega) (λv3 H3 S3 i3=>?_);have T3:ah H H3:=S1.trans (S2.trans S3);have hr3:=hr'.by T3;have hn3:=hn'.by T3;have hx3:=hx'.by T3;clear hr1 hn1 hx1 S1 S2 S3;o_head zxx ?_;o_head zsb (lo:=1) (hi:=31) (by decide) (by decide) (by decide) (by decide) (λi σ H'=>∃(v:V)(o:Option V),σ = [some x0,some x1,some x2,some v3,some v,o]/\ah H3 H'/\Is K H' v (TN (cx ra rb ns i xs)) /\ ∀k,k<=i->cg ra rb ns xs k=true) ⟨_,_,rfl,ah.refl _,by rw[nR];exact hx3,λk hk=>by rw[show k=0 by omega,e0];exact z⟩ ?_ ?_
     . rintro i σ H4 hi ⟨v,o,rfl,S4,iv,fr⟩
       have hi:i<30:=hi;have i34:=i3.by S4
       have hin:i<n:=by
         rcases stop with e | e
         . omega
         . rcases wB i n with u | u
           . exact u
           . rw[fr n u]at e;cases e
       o_head HG (ss:=c7 ra rb ns) i34 iv (by decide) (by decide) (by rw[oQ h1,c6];omega) (by rw[c6];omega) ((j6 ok _).mono (by have:=sz.sum;omega)) (λj hj=>((yj ok sz (k:=1) (by decide)).pow hj).mono (by decide)) (λj hj=>((yj ok sz (k:=1) (by decide)).aB hj).mono (by decide)) (λj=>bd i hin j) (λj=>(zC ok sz j).mono (by decide)) (λv5 H5 S5 i5=>?_);have i5:Is K H5 v5 (TN (cx ra rb ns 1 (cx ra rb ns i xs))):=i5;rw[MG]at i5;have T5:=S4.trans S5;o_head pV (hr3.by T5) (hn3.by T5) i5 (rd (i+1) (by omega)) (λH6 S6=>?_);have T6:=T5.trans S6;k_few
       . rename_i w
         have q:=q2 (i+1) (by omega) (by omega) y (λk hk=>fr k (by omega)) (by unfold cg;exact w) H6 (T3.trans T6);rw[show((i+1:Nat):Int)=1+(i:Int) by omega]at q;exact q
       . rename_i w
         refine⟨_,_,rfl,T6,i5.by S6,λk hk=>?_⟩;rcases wB k (i+1)with u | u
         . exact fr k (by omega)
         . have:k=i+1:=by omega
           subst this;unfold cg
           first | exact w | exact Bool.not_eq_false _ ▸ w
     . rintro σ H4 ⟨v,o,rfl,S4,iv,fr⟩
       k_few;exact⟨by simp;decide,q3 y (λk hk=>fr k hk) H4 (T3.trans S4)⟩
theorem sF{a b:Rat}(ok:aR a b){xs ps:List Rat}{fl:Nat->Nat}{ns:List Int}(L:e_ xs (ps++[0]) fl ns)(hn:ns.length=ps.length+1)(f:cZ a b ns ps=true) :
  e_ (ai a b xs ns.length) (b8 a b ns ps++[0]) fl ns/\(∀t,t<ns.length->bW a b (ai a b xs t)=[bC xs.length fl t])/\aN a b xs ns.length=eO a b ns ps:=by
 have hl:(ps++[0]).length=ns.length:=by simp[hn]
 have gR:∀t,t<(ps++[0]).length->dU a b ns (ps++[0]) t<1:=λt ht=>by
  have:=(BR.mp f).2 t (by omega);rw[mv (by omega)]at this;unfold dU;rw[hl];exact this
 obtain⟨P,F,_,W⟩:=zr ok.a0 ok.b0 L _ (wo _) gR;have ht:=Jk ok.a0 ok.b0 L _ (wo _) gR;rw[hl]at P W ht;rw[<- A1 hn]at P;have st:=OO (zs8 ok hn f);have hbl:=kx (a:=a) (b:=b) hn;have hbl2:(b8 a b ns ps++[0]).length=(ps++[0]).length:=by simp[hbl]
 have hpl:=bR a b xs ns.length;refine⟨⟨P,st.1,st.2,by rw[hbl2];exact L.len,λc hc=>?_,λc hc=>?_⟩,W,?_⟩
 ·rw[hpl];exact L.some c (by omega)
 ·rw[hpl];exact L.size c (by omega)
 ·rw[ht];rfl
theorem lQ{a b:Rat}(ok:aR a b){xs ps:List Rat}{fl:Nat->Nat}{ns:List Int}(L:e_ xs (ps++[0]) fl ns)(hn:ns.length=ps.length+1)(n0:∀n∈ns,0<=n):∀k,(∀j,j<k->cg a b ns ps j=true) ->
  e_ (ai a b xs (k*ns.length)) (cx a b ns k ps++[0]) fl ns/\aN a b xs (k*ns.length)=oB a b ns ps k
 | 0,_=>by
  rw[QN,nR];exact⟨L,rfl⟩
 | k+1,h=>by
  obtain⟨Lk,Hk⟩:=lQ ok L hn n0 k λj hj=>h j (by omega)
  have hl:ns.length=(cx a b ns k ps).length+1:=by rw[c6];exact hn
  obtain⟨L1,_,H1⟩:=sF ok Lk hl (h k (by omega));rw[c9,<- C_ hl n0,MG]at L1;have e:(k+1)*ns.length=k*ns.length+ns.length:=qA ..;rw[e];refine⟨L1,?_⟩;rw[<- m8,Hk,H1]
  rfl
theorem Mm{a b:Rat}(a0:0<a)(b0:0<=b){xs row:List Rat}{fl:Nat->Nat}{ns:List Int}(L:e_ xs row fl ns):∀n,n<=row.length->(¬ ∀t,t<n->dU a b ns row t<1)->∃t,t<n/\1<(bW a b (ai a b xs t)).length
 | 0,_,z=>absurd (λt ht=>by omega) z
 | n+1,hn,z=>by
  by_cases y:∀t,t<n->dU a b ns row t<1
  ·refine⟨n,by omega,Ym a0 b0 L (by omega) y (λu=>z λt ht=>?_)⟩
   rcases wB t n with k | k
   ·exact y t k
   ·have:t=n:=by omega
    rw[this];exact u
  ·obtain⟨t,h1,h2⟩:=Mm a0 b0 L n (by omega) y
   exact⟨t,by omega,h2⟩
theorem Am{a b:Rat}(ok:aR a b){xs ps:List Rat}{fl:Nat->Nat}{ns:List Int}(L:e_ xs (ps++[0]) fl ns)(hn:ns.length=ps.length+1)(f:cZ a b ns ps=false):∃t,t<ns.length/\1<(bW a b (ai a b xs t)).length:=by
 have hl:(ps++[0]).length=ns.length:=by simp[hn]
 refine Mm ok.a0 ok.b0 L ns.length (by omega) λz=>?_
 have:cZ a b ns ps=true:=BR.mpr ⟨LD L.kM.pw L.one,λi hi=>by
  have:=z i hi;unfold dU at this;rw[hl]at this;rw[mv hi];exact this⟩
 rw[f]at this;cases this
theorem CU{xs row:List Rat}{fl:Nat->Nat}{ns:List Int}{n:Nat}(L:e_ xs row fl ns)(hn:xs.length=n):((wt n).map λw=>row.getD (fl w) 0)=xs:=by
 refine gH (by simp[hn]) λw hw=>?_
 have hw:w<n:=by simpa using hw
 rw[L.pl.at' w (by omega),wa,wu,vI hw]
 rfl
theorem AE{xs:List Rat}(h1:1<=xs.length)(h8:xs.length<=8):cA (aQ xs):=by
 have hs:=yc xs;have hv:=kT xs;have hp:=rM h1;refine⟨by omega,by omega,λn hn=>?_,?_⟩
 ·have h2:=zr2 xs n hn
  refine⟨?_,by omega⟩;obtain⟨v,hv,rfl⟩:=wY.mp hn;have hm:=jE hv;obtain⟨j,hj,e⟩:=vc hm;have:j∈eC xs v:=vd.mpr ⟨wH.mpr hj,decide_eq_true (by rw[wa,wc hj];exact e)⟩;have:=Q5 this;omega
 ·have h3:=KR xs
  have:=yo (zm xs);omega
def jO(a b:Rat)(xs:List Rat)(r:Nat):Prop:=∀k,k<r->cg a b (aQ xs) (a_ xs) k=true
structure gc(a b:Rat)(xs:List Rat):Prop where
 ok:aR a b
 h1:1<=xs.length
 h8:xs.length<=8
 hp:cY xs
 h0:0∈xs
 cm:Cm 3600 xs
def O4(K:wb):Sp:=λvs H Q _=>∃x0 x1,vs=[x0,x1] /\ ∃(a b:Rat)(xs:List Rat)(r:Nat),x1=.int (r:Int)/\Is K H x0 (bG a b xs)/\gc a b xs/\r<=30/\jO a b xs r /\ ∀v H',ah H H'->Is K H' v (BD a b xs (r*(aj xs).length))->Q v H'
theorem AA{K:wb}{H:Hp}{Q:VK}{E:XK}{a b:Rat}{xs:List Rat}{r:Nat}{v:V}(h:Is K H v (bG a b xs))(ok:gc a b xs)(h30:r<=30)(f:jO a b xs r)(q:∀v H',ah H H'->Is K H' v (BD a b xs (r*(aj xs).length))->Q v H'):O4 K [v,.int (r:Int)] H Q E:=⟨_,_,rfl,a,b,xs,r,rfl,h,ok,h30,f,q⟩
theorem Dd{K:wb}{H:Hp} : ∀{xs:List Rat}{us:List V},ao K H us (xs.map N)->∃cs:List wg,us=cs.map V.ref
 | [],us,h=>⟨[],fm.mp h⟩
 | x::xs,us,h=>by
  obtain⟨v,r,rfl,iv,t⟩:=dh.mp h;obtain⟨a,_,rfl,_,_⟩:=bV.mp (show Is K H v (.tuple _)from iv);obtain⟨cs,rfl⟩:=Dd t;exact⟨a::cs,rfl⟩
def fF(x:Rat):List Int:=[x.num,(x.den:Int)]
theorem zwE{x y:Rat}(h:fF x=fF y):x=y:=by
 unfold fF at h
 injection h with h1 h2
 injection h2 with h2 _
 exact Rat.ext h1 (by omega)
theorem zsA{xs:List Rat}(h:xs.Nodup):(xs.map fF).Nodup:=by
 unfold List.Nodup at *;rw[Qy];exact h.imp λ{a b} n e=>n (zwE e)
theorem Oa{xs:List Rat}{j:Nat}(h:j<xs.length):(xs.map fF).getD j []=fF (xs.getD j 0):=by
 rw[wa,wu,wa,wc h]
 rfl
theorem zu8{ks:List (List Int)}{us ws:List wg}(nd:ks.Nodup)(hl:ks.length=us.length){j:Nat}(hj:j<us.length):lJ (fJ ks us ws) (ks.getD j [])=some (ws.getD j 0):=by
 unfold lJ fJ;rw[List.find?_map];have pw:=Wv.mp nd;cases e:(wt us.length).find? ((λx:NE=>decide (x.1=ks.getD j [])) ∘ λj=>(ks.getD j [],us.getD j 0,ws.getD j 0))with
 | none =>
  have:=List.find?_eq_none.mp e j (wH.mpr hj);simp at this
 | some i =>
  have hm:=wH.mp (QG e);have hp:=X0 e;have hp:ks.getD i []=ks.getD j []:=of_decide_eq_true hp;have hi:i<ks.length:=by omega
  have hj':j<ks.length:=by omega
  rw[wa,wa,wc hi,wc hj']at hp
  have hij:i=j:=by
   rcases Vw i j with z | z | z
   ·exact absurd hp (pw i j hi hj' z)
   ·exact z
   ·exact absurd hp.symm (pw j i hj' hi z)
  rw[hij];rfl
theorem zuq{K:wb}{H:Hp}{xs:List Rat}{cs ws:List wg}(t:ao K H (cs.map V.ref) (xs.map N)):v_ K H (fJ (xs.map fF) cs ws):=by
 intro x hx;obtain⟨j,hj,rfl⟩:=wY.mp hx;have hj:=wH.mp hj;have hl:=t.length;simp only[wm]at hl;have:=(dr t (i:=j) (x:=.ref (cs.getD j 0)) (by rw[wu,wa,wc hj];rfl)).2
 show Is K H (.ref (cs.getD j 0)) (TZ ((xs.map fF).getD j []))
 rw[Oa (by omega)];exact this
theorem Pd(T:Txt K mg a):aO P w K mg base aT 9 a.EL a.Eu sC (O4 K):=by
 refine T.zE.F.ok pJ ?_ ?_;wtm_at "b2"
 refine⟨_,(ak (ay 2 pJ.nd (nB (DO T) hr T.rF Ku (ae (pv 0) af)))
     (ak (ay 3 pJ.nd (au (Sd T) hr T.ED (ae (ar (pv 0)) (ae (ar (pv 2)) (ae (ar (pv 2)) (ae (pv 1) af))))))
     (ak (ay 4 pJ.nd (zwZ rfl (WQ (xJ (by decide) _) hu) rfl T.z_dict rfl T.z_zip (ae (aC (show aJ _ (WB .Add) (yP K)from IM) (ar (pv 2)) (aW (ae (bL (v:=.ref a.cX) rfl T.dH rfl) af))) (ae (aC (show aJ _ (WB .Add) (yP K)from IM) (pv 3) (aW (ae (bL (v:=.ref a.cX) rfl T.dH rfl) af))) af))))
     (ak (ay 5 pJ.nd (eD (show aY _ (.type "tuple") (eh K)from fq) rfl T.z_tuple eF (ae (dZ rfl (cq.by (N':=["phase","now"]) (src:=[none,some 4]) rfl (show cH _ (aA yu).names Ee ["phase","now"] [none,some 4]=true from by decide +kernel)) (gX (ar (pv 0))) (λ_ _ _ _ _=>(bK (i:=0) (show(["phase","now"]:List Str).Nodup from by decide) rfl (Or.inl rfl))) (λ_ _ _ _ _=>dE) (λ_ _ _ _ _=>(show PE _ _ (Dw K _ _)from(zvk (by exact(WQ (xJ (by decide) _) hu)) (pv 1) (pv 0) (λ_ _=>rfl))))) af)))
     (av (aF (aW (ae (au (zmS T) hr T.EN (ae (ar (pv 0)) (ae (ar (pv 2)) (ae (ar (pv 2)) (ae (pv 1) af))))) (ae (aW (ae (ar (pv 0)) (ae (pv 5) af))) af))))))))),?_⟩
 wtm_at "cl";rw[show start Ee [x0,x1]=[some x0,some x1,none,none,none,none]from rfl];obtain⟨ra,rb,xs,r,rfl,hw,ok,h30,fr,q⟩:=h;have hz:a_ xs++[0]=aj xs:=CM ok.hp ok.h0;have h1:=ok.h1;have h8:=ok.h8;have sz:=AE h1 h8;have hsl:=yc xs;have hvl:=kT xs;have hvp:=rM h1;have hpl:(a_ xs).length+1=(aj xs).length:=by rw[<- hz];simp
 have hn:(aQ xs).length=(a_ xs).length+1:=by omega
 have L:e_ xs (a_ xs++[0]) (aP xs) (aQ xs):=by rw[hz];exact Km ok.hp.nn ok.hp.lt
 obtain⟨Lr,Hr⟩:=lQ ok.ok L hn (zm xs) r fr;rw[hsl]at Lr Hr;have hel:=CU Lr (bR ra rb xs _);have bx:∀i,ag 4000 (xs.getD i 0):=λi=>(ok.cm.get i).mono (by decide)
 have cp:Cm 3600 (a_ xs):=sO ok.cm;have hlk:dR ra rb (aQ xs) ((r:Int)).toNat:=by rw[wW];exact yj ok.ok sz (by omega)
 have hbp:∀i,ag 6900 ((a_ xs).getD i 0):=λi=>(cp.get i).mono (by decide)
 o_head Dt hw h8 bx (λz=>absurd ok.h0 z) (λ_ vl H1 S1 il=>?_);have hw1:=hw.by S1;o_head aG (j:=0) hw1 rfl (λvr ir=>?_);o_head aG (j:=0) il rfl (λvz iz=>?_);o_head aG (j:=1) il rfl (λvp ip=>?_);o_head zjY ir iz ip hn (by omega) hlk hbp (λv2 H2 S2 i2=>?_);rw[wW]at i2;o_head aG (j:=1) (il.by S2) rfl (λvp2 ip2=>?_);o_head bX (ds:=[N 0]) (by simp) (.cons (dP 0 (T.eB _) rfl rfl) .nil) (λv3 H3 S3 i3=>?_);refine NM (ip2.by S3) i3 (by rw[wm];simp;omega) (λv4 H4 S4 i4=>?_);o_head bX (ds:=[N 0]) (by simp) (.cons (dP 0 (T.eB _) rfl rfl) .nil) (λv5 H5 S5 i5=>?_);have S25:=S3.trans (S4.trans S5);refine NM (i2.by S25) i5 (by rw[wm,c6];simp;omega) (λv6 H6 S6 i6=>?_)
 have i46:Is K H6 v4 (TN (aj xs)):=by
   have:=i4.by (S5.trans S6);rw[<- hz];unfold TN;rw[vt];exact this
 have i66:Is K H6 v6 (TN (cx ra rb (aQ xs) r (a_ xs)++[0])):=by
   unfold TN;rw[vt];exact i6
 have S16:=S2.trans (S25.trans S6);have hw6:=hw1.by S16;have il6:=il.by S16;have T6:=S1.trans S16;clear hw hw1 il ir iz ip i2 ip2 i3 i4 i5 i6 S1 S2 S3 S4 S5 S6 S25 S16;have hrl:(cx ra rb (aQ xs) r (a_ xs)++[0]).length=(aj xs).length:=by rw[wS,c6];simp;omega
 generalize cx ra rb (aQ xs) r (a_ xs)++[0]=row at *;obtain⟨aa,us,rfl,hs1,tu⟩:=bV.mp i46;obtain⟨ab,ws,rfl,hs2,tw⟩:=bV.mp i66;obtain⟨cs,rfl⟩:=Dd tu;obtain⟨ds,rfl⟩:=Dd tw;have hcl:=tu.length;have hdl:=tw.length;simp only[wm]at hcl hdl;have nd:=zsA (N6 xs);have hkl:((aj xs).map fF).length=cs.length:=by rw[wm];omega
 o_head ⟨aa,ab,(aj xs).map fF,cs,ds,rfl,hs1,hs2,by omega,by omega,?_,nd,λD ep hD=>?_⟩
 . rw[WF]
   exact tu
 . have S7:ah H6 (upd H6 D (gE D ep (fJ ((aj xs).map fF) cs ds))):=ah.upd hD
   have e7:upd H6 D (gE D ep (fJ ((aj xs).map fF) cs ds)) D=some (gE D ep (fJ ((aj xs).map fF) cs ds)):=cO;generalize upd H6 D (gE D ep (fJ ((aj xs).map fF) cs ds))=H7 at *;have tu7:ao K H7 (cs.map V.ref) ((aj xs).map N):=ao.same S7 _ _ tu;have tw7:ao K H7 (ds.map V.ref) (row.map N):=ao.same S7 _ _ tw;have hw7:=hw6.by S7;o_head aG (j:=1) hw7 rfl (λvq iq=>?_);obtain⟨aq,uq,rfl,hsq,tq⟩:=bV.mp iq;have hql:=tq.length;rw[wm]at hql;refine iN hsq (o0:=none) (tl:=[some (.ref D)]) rfl (λj y H'=>Is K H' y (N (((wt xs.length).map λw=>row.getD (aP xs w) 0).getD j 0))) ?_ ?_
   . intro D' j x ys o H8 hx inv
     obtain⟨hj,ix⟩:=dr tq hx;have S8:=inv.same;obtain⟨ax,_,rfl,_,_⟩:=bV.mp (show Is K H7 x (.tuple _)from ix);have hfl:=(kl xs).lt j hj;have hxe:xs.getD j 0=(aj xs).getD (aP xs j) 0:=(kl xs).at' j hj;o_head ⟨D,ax,ep,_,fF (xs.getD j 0),ds.getD (aP xs j) 0,rfl,rfl,S8 _ _ e7,zuq (ao.same S8 _ _ tu7),ix.by S8,?_,?_⟩
     . rw[hxe,<- Oa hfl]
       exact zu8 nd hkl (by omega)
     . refine dW inv (by omega) fR ⟨_,rfl⟩ (ah.refl _) ?_
       have hr:((wt xs.length).map λw=>row.getD (aP xs w) 0).getD j 0=row.getD (aP xs j) 0:=by
         rw[wa,wu,vI hj];rfl
       rw[hr];exact(dr tw7 (i:=aP xs j) (x:=.ref (ds.getD (aP xs j) 0)) (by rw[wu,wa,wc (by omega)];rfl)).2.by S8
   . intro D' ys H8 n8 S8 e8 hl8 hr8
     have t8:ao K H8 ys (((wt xs.length).map λw=>row.getD (aP xs w) 0).map N):=fU (by rw[hl8,hql];simp) hr8;rw[hel]at t8;o_head ie (dB e8 t8) (λv9 H9 S9 i9=>?_);have S69:=S7.trans (S8.trans S9);o_head aG (j:=0) (hw6.by S69) rfl (λvr9 ir9=>?_);o_head aG (j:=0) (il6.by S69) rfl (λvz9 iz9=>?_);o_head aG (j:=1) (il6.by S69) rfl (λvp9 ip9=>?_);k_few
     refine Yo ir9 iz9 ip9 hn (by omega) hlk cp (by
       have h5:=sz.sum;rw[wW];have:(6*(aQ xs).sum.toNat+3)*r<=51*30:=VB (by omega) h30;omega) (λv10 H10 S10 i10=>?_)
     rw[wW,<- Hr]at i10;o_head aG (j:=0) (hw6.by (S69.trans S10)) rfl (λvr10 ir10=>?_);o_head bX (ds:=[R ra rb,TN (ai ra rb xs (r*(aj xs).length))]) (by simp) (.cons ir10 (.cons (i9.by S10) .nil)) (λv11 H11 S11 i11=>?_);o_head bX (ds:=[N (aN ra rb xs (r*(aj xs).length)),bG ra rb (ai ra rb xs (r*(aj xs).length))]) (by simp) (.cons (i10.by S11) (.cons i11 .nil)) (λv12 H12 S12 i12=>?_);exact q v12 H12 (T6.trans (S69.trans (S10.trans (S11.trans S12)))) i12
def Ja(K:wb):Sp:=λvs H Q _=>∃x0 x1 x2,vs=[x0,x1,x2] /\ ∃(a b:Rat)(xs:List Rat)(r g:Nat),x1=.int (r:Int)/\x2=.int (g:Int)/\Is K H x0 (bG a b xs)/\aR a b/\1<=xs.length/\xs.length<=8/\(1<=r->gc a b xs/\r<=30/\jO a b xs r)/\g<=40/\ag 8000 (aN a b xs (r*(aj xs).length))/\(∀i,i<=g->Cm 3700 (aN a b (ai a b xs (r*(aj xs).length)) i::ai a b (ai a b xs (r*(aj xs).length)) i)) /\ ∀v H',ah H H'->Is K H' v (BD a b xs (r*(aj xs).length+g))->Q v H'
theorem znt{K:wb}{H:Hp}{Q:VK}{E:XK}{a b:Rat}{xs:List Rat}{r g:Nat}{v:V}(h:Is K H v (bG a b xs))(ok:aR a b)(h1:1<=xs.length)(h8:xs.length<=8)(f:1<=r->gc a b xs/\r<=30/\jO a b xs r)(hg:g<=40)(c:ag 8000 (aN a b xs (r*(aj xs).length)))(c2:∀i,i<=g->Cm 3700 (aN a b (ai a b xs (r*(aj xs).length)) i::ai a b (ai a b xs (r*(aj xs).length)) i))(q:∀v H',ah H H'->Is K H' v (BD a b xs (r*(aj xs).length+g))->Q v H'):Ja K [v,.int (r:Int),.int (g:Int)] H Q E:=⟨_,_,_,rfl,a,b,xs,r,g,rfl,rfl,h,ok,h1,h8,f,hg,c,c2,q⟩
theorem Uk(T:Txt K mg a):aO P w K mg base aT 10 a.FR a.EW u_ (Ja K):=by
 refine T.Fc.F.ok Bi ?_ ?_;wtm_at "b3"
 refine⟨_,(ak (ay 3 Bi.nd (rR (cc nF (pv 1) az (bA _)) (au (Pd T) hr T.zE (ae (pv 0) (ae (pv 1) af))) (aW (ae (bL (v:=.ref a.cX) rfl T.dH rfl) (ae (pv 0) af)))))
     (ak (ay 4 Bi.nd (au (SU T) hr T.Gv (ae (ar (pv 3)) (ae (pv 2) af))))
     (av (aF (aW (ae (au (fY T) hr T.fH (ae (ar (pv 3)) (ae (ar (pv 4)) af))) (ae (ar (pv 4)) af))))))),?_⟩
 wtm_at "cl";rw[show start Jv [x0,x1,x2]=[some x0,some x1,some x2,none,none]from rfl];obtain⟨ra,rb,xs,r,g,rfl,rfl,hw,ok,h1,h8,f,hg,c,c2,q⟩:=h;k_few
 . rename_i z
   obtain⟨sw,h30,fr⟩:=f (by omega);refine AA hw sw h30 fr (λv1 H1 S1 i1=>?_);o_head aG (j:=1) i1 rfl (λv2 i2=>?_);o_head JK i2 ok.ba ok.bb (by rw[bR];exact h1) (by rw[bR];exact h8) (by omega) (by omega) (by rw[wW];exact c2) (λv3 H3 S3 i3=>?_);rw[wW]at i3;have i13:=i1.by S3;o_head aG (j:=0) i13 rfl (λv4 i4=>?_);o_head aG (j:=0) i3 rfl (λv5 i5=>?_);have b5:ag 3700 (aN ra rb (ai ra rb xs (r*(aj xs).length)) g):=(c2 g (wo _)).fo (wJ ..);k_few;rename_i v6 H6 S6 i6;refine aG (j:=1) (i3.by S6) rfl (λv7 i7=>?_);k_few;rw[m8]at i6;rw[c9]at i7;refine bX (ds:=[N (aN ra rb xs (r*(aj xs).length+g)),bG ra rb (ai ra rb xs (r*(aj xs).length+g))]) (by simp) (.cons i6 (.cons i7 .nil)) (λv8 H8 S8 i8=>?_);exact q v8 H8 (S1.trans (S3.trans (S6.trans S8))) i8
 . rename_i z
   have hr0:r=0:=by omega
   refine bX (ds:=[N 0,bG ra rb xs]) (by simp) (.cons (dP 0 (T.eB _) rfl rfl) (.cons hw .nil)) (λv1 H1 S1 i1=>?_);have i1:Is K H1 v1 (BD ra rb xs (r*(aj xs).length)):=by rw[hr0,QN];exact i1
   o_head aG (j:=1) i1 rfl (λv2 i2=>?_);o_head JK i2 ok.ba ok.bb (by rw[bR];exact h1) (by rw[bR];exact h8) (by omega) (by omega) (by rw[wW];exact c2) (λv3 H3 S3 i3=>?_);rw[wW]at i3;have i13:=i1.by S3;o_head aG (j:=0) i13 rfl (λv4 i4=>?_);o_head aG (j:=0) i3 rfl (λv5 i5=>?_);have b5:ag 3700 (aN ra rb (ai ra rb xs (r*(aj xs).length)) g):=(c2 g (wo _)).fo (wJ ..);k_few;rename_i v6 H6 S6 i6;refine aG (j:=1) (i3.by S6) rfl (λv7 i7=>?_);k_few;rw[m8]at i6;rw[c9]at i7;refine bX (ds:=[N (aN ra rb xs (r*(aj xs).length+g)),bG ra rb (ai ra rb xs (r*(aj xs).length+g))]) (by simp) (.cons i6 (.cons i7 .nil)) (λv8 H8 S8 i8=>?_);exact q v8 H8 (S1.trans (S3.trans (S6.trans S8))) i8
def dG(a b:Rat)(xs:List Rat):Option String :=
 if(aj xs).length=1 then some "one"
 else if cZ a b (aQ xs) (a_ xs)=true then
  if b8 a b (aQ xs) (a_ xs)=a_ xs then some "rests"
  else if a<1/\pS a b (aQ xs)=true then some "drawn" else none
 else none
def J0:Option String->V
 | none=>.bM
 | some s=>.str (wG s)
def Ox(K:wb):Sp:=λvs H Q _=>∃x0,vs=[x0] /\ ∃(a b:Rat)(xs:List Rat),Is K H x0 (bG a b xs)/\gc a b xs /\ ∀H',ah H H'->Q (J0 (dG a b xs)) H'
theorem TY{K:wb}{H:Hp}{Q:VK}{E:XK}{a b:Rat}{xs:List Rat}{v:V}(h:Is K H v (bG a b xs))(ok:gc a b xs)(q:∀H',ah H H'->Q (J0 (dG a b xs)) H'):Ox K [v] H Q E:=⟨_,rfl,a,b,xs,h,ok,q⟩
theorem gc.round{a b:Rat}{xs:List Rat}(h:gc a b xs):cJ a b (aQ xs) (a_ xs)/\cA (aQ xs)/\(aQ xs).length=(a_ xs).length+1:=by
 have hz:a_ xs++[0]=aj xs:=CM h.hp h.h0;have h8:=h.h8;have sz:=AE h.h1 h8;have hsl:=yc xs;have hvl:=kT xs;have hsu:=OT xs;have hpl:(a_ xs).length+1=(aj xs).length:=by rw[<- hz];simp
 refine⟨⟨h.ok.ba,h.ok.bb,λn hn=>by have:=sz.each n hn;omega,by omega,by omega,⟨3600,sO h.cm,by omega⟩⟩,sz,by omega⟩
theorem zrZ(T:Txt K mg a):aO P w K mg base aT 10 a.GW a.FX za (Ox K):=by
 refine T.Gi.F.ok Kl ?_ ?_;wtm_at "b1"
 refine⟨_,(ak (bZ (cc (show aJ _ (wT .Eq) (cN K)from dk hu) (bQ (show aY _ (.builtin "len") (dg K)from fg) rfl T.z_len fe (ae (au (Ag T) hr T.rm (ae (pv 0) af)) af)) az (bA _)) (av (aF cz)) b9)
     (ak (bZ (dS (cR (au (Nl T) hr T.zT (ae (pv 0) af)))) (av (aF jV)) b9)
     (ak (ay 1 Kl.nd (nB (DO T) hr T.rF Ku (ae (pv 0) af)))
     (ak (bZ (dS (cR (au (pj T) hr T.lV (ae (ar (pv 0)) (ae (ar (pv 1)) (ae (ar (pv 1)) af)))))) (av (aF jV)) b9)
     (ak (bZ (cc (show aJ _ (wT .Eq) (cN K)from dk hu) (au (IU T) hr T.zG (ae (ar (pv 0)) (ae (ar (pv 1)) (ae (ar (pv 1)) af)))) (ar (pv 1)) (bA _)) (av (aF cz)) b9)
     (ak (bZ (PW.pt (zl (cc (show aJ _ (wT .Eq) (cN K)from dk hu) (au (pA T) hr T.lW (ae (ar (pv 0)) af)) cz (bA _)) (BC (cR (au (Kh T) hr T.zF (ae (ar (pv 0)) (ae (ar (pv 1)) af))))))) (av (aF cz)) b9)
     (av (aF jV)))))))),?_⟩
 wtm_at "cl";rw[show start ME [x0]=[some x0,none]from rfl];obtain⟨ra,rb,xs,hw,ok,q⟩:=h;obtain⟨rok,sz,hn⟩:=ok.round;have h8:=ok.h8;have bx:∀i,ag 4000 (xs.getD i 0):=λi=>(ok.cm.get i).mono (by decide)
 have bp:∀i,ag 4000 ((a_ xs).getD i 0):=λi=>((sO ok.cm).get i).mono (by decide)
 unfold dG at q;o_head Aa hw h8 bx (λlf H1 us1 n1 S1 e1 t1=>?_);have hul:=t1.length;rw[wm]at hul;have hw1:=hw.by S1;o_head jG (.of e1) ?_;rw[hul];k_few
 . rename_i z
   have z:(aj xs).length=1:=by omega
   rw[if_pos z]at q;exact q _ S1
 . rename_i z
   have z:¬ (aj xs).length=1:=by omega
   rw[if_neg z]at q;refine J3 hw1 ?_;rw[decide_eq_true ok.h0];o_head Dt hw1 h8 bx (λz=>absurd ok.h0 z) (λ_ vl H2 S2 il=>?_);have hw2:=hw1.by S2;o_head aG (j:=0) hw2 rfl (λvr ir=>?_);o_head aG (j:=0) il rfl (λvz iz=>?_);o_head aG (j:=1) il rfl (λvp ip=>?_);o_head pV ir iz ip rok (λH3 S3=>?_);have T3:=S1.trans (S2.trans S3);have hw3:=hw2.by S3;have il3:=il.by S3;clear hw hw1 hw2 il ir iz ip S1 S2 S3 e1 t1 n1;k_few
   . rename_i y
     rw[if_neg (by rw[y];decide)]at q;exact q _ T3
   . rename_i y
     rw[if_pos y]at q;refine aG (j:=0) hw3 rfl (λvr ir=>?_);o_head aG (j:=0) il3 rfl (λvz iz=>?_);o_head aG (j:=1) il3 rfl (λvp ip=>?_);o_head IH ir iz ip rok (λv4 H4 S4 i4=>?_);o_head aG (j:=1) (il3.by S4) rfl (λvp4 ip4=>?_);refine Kr i4 ip4 ?_;k_few
     . rename_i u
       rw[if_pos u]at q;exact q _ (T3.trans S4)
     . rename_i u
       rw[if_neg u]at q;refine aG (j:=0) (hw3.by S4) rfl (λvr4 ir4=>?_);o_head mm ir4 (ok.ok.ba.mono (by decide)) ?_;unfold jz
       by_cases z1:1<ra
       . rw[if_pos z1]
         o_head gg _ _ false (by rw[wA];decide) ?_;k_few;rw[if_neg (λh=>absurd h.1 (by grind))]at q;exact q _ (T3.trans S4)
       . rw[if_neg z1]
         by_cases z2:ra=1
         . rw[if_pos z2]
           o_head gg _ _ false (by rw[wA];decide) ?_;k_few;rw[if_neg (λh=>absurd h.1 (by grind))]at q;exact q _ (T3.trans S4)
         . rw[if_neg z2]
           have ha:ra<1:=by
             by_cases h:ra<1
             . exact h
             . exact absurd (VS (VR.mp h) (We z2)) z1
           o_head gg _ _ true (by rw[wA];decide) ?_;o_head aG (j:=0) (hw3.by S4) rfl (λvr5 ir5=>?_);o_head aG (j:=0) (il3.by S4) rfl (λvz5 iz5=>?_);o_head Ka ir5 iz5 ok.ok sz z2 (λH5 S5=>?_);k_few
           . rename_i d
             rw[if_pos ⟨ha,d⟩]at q;exact q _ (T3.trans (S4.trans S5))
           . rename_i d
             rw[if_neg (λh=>by rw[h.2]at d;cases d)]at q;exact q _ (T3.trans (S4.trans S5))
def Mh(K:wb):Sp:=λvs H Q _=>∃x0,vs=[x0] /\ ∃(a b:Rat)(xs:List Rat)(g:Nat),Is K H x0 (bG a b xs)/\aR a b/\1<=xs.length/\xs.length<=8/\g<=8/\(∀t,t<=g->Cm 3700 (ai a b xs t))/\(∀t,t<g->(bW a b (ai a b xs t)).length=1)/\(bW a b (ai a b xs g)).length≠1 /\ ∀H',ah H H'->Q (.int ((g+1:Nat):Int)) H'
theorem OY{K:wb}{H:Hp}{Q:VK}{E:XK}{a b:Rat}{xs:List Rat}{g:Nat}{v:V}(h:Is K H v (bG a b xs))(ok:aR a b)(h1:1<=xs.length)(h8:xs.length<=8)(hg:g<=8)(c:∀t,t<=g->Cm 3700 (ai a b xs t))(w1:∀t,t<g->(bW a b (ai a b xs t)).length=1)(w2:(bW a b (ai a b xs g)).length≠1)(q:∀H',ah H H'->Q (.int ((g+1:Nat):Int)) H'):Mh K [v] H Q E:=⟨_,rfl,a,b,xs,g,h,ok,h1,h8,hg,c,w1,w2,q⟩
theorem Y9(T:Txt K mg a):aO P w K mg base aT 5 a.ER a.Ez yl (Mh K):=by
 refine T.EA.F.ok oF ?_ ?_;wtm_at "b1"
 refine⟨_,(ak (ay 1 oF.nd az)
     (ak (ay 2 oF.nd (au (Dr T) hr T.rG (ae (pv 0) af)))
     (ak (lD vG (cc (show aJ _ (wT .Eq) (cN K)from dk hu) (bQ (show aY _ (.builtin "len") (dg K)from fg) rfl T.z_len fe (ae (ar (pv 2)) af)) az (bA _)) (ak (zBf (i:=1) oF.nd rfl (Or.inl rfl) az Yc)
     (av (ay 2 oF.nd (au (Dr T) hr T.rG (ae (ar (pv 2)) af))))))
     (av (aF (pv 1)))))),?_⟩
 wtm_at "cl";rw[show start ON [x0]=[some x0,none,none]from rfl];obtain⟨ra,rb,xs,g,hw,ok,h1,h8,hg,c,w1,w2,q⟩:=h;o_head De hw ok.ba ok.bb h1 h8 (c 0 (by omega)) (by omega) (λv2 H2 S2 i2=>?_);o_head oE (λm σ' H'=>∃(t:Nat)(v:V),σ'=[some x0,some (.int ((t+1:Nat):Int)),some v]/\m=g-t/\t<=g/\ah H H'/\Is K H' v (GD ra rb (ai ra rb xs t))) _ ⟨0,v2,rfl,rfl,by omega,S2,i2⟩ ?_;rintro m σ' H3 ⟨t,v,rfl,rfl,ht,S3,iv⟩;o_head aG (j:=1) iv rfl (λv4 i4=>?_);o_head nX i4 ?_;rw[wm];k_few
 . rename_i z
   have z:(bW ra rb (ai ra rb xs t)).length=1:=by omega
   have htg:t<g:=by
     rcases wB t g with y | y
     . exact y
     . have:t=g:=by omega
       subst this;exact absurd z w2
   have hpl:=bR ra rb xs t;have hpl2:=bR ra rb xs (t+1);refine pT ?_;o_head UZ rfl ?_;o_head zzU ?_;o_head aG (j:=2) iv rfl (λv5 i5=>?_);o_head De (show Is K H3 v5 (bG ra rb (ai ra rb xs (t+1)))from i5) ok.ba ok.bb (by omega) (by omega) (c (t+1) (by omega)) (by omega) (λv6 H6 S6 i6=>?_);k_few;exact⟨g-(t+1),by omega,t+1,v6,by push_cast;rfl,rfl,by omega,S3.trans S6,i6⟩
 . rename_i z
   have htg:t=g:=by
     rcases wB t g with y | y
     . exact absurd (by rw[w1 t y];rfl) z
     . omega
   subst htg;exact q H3 S3
def Ov(B:Int)(x:Rat):Prop:=∃t:Int,x=wx t B
theorem Ov.zero(B:Int):Ov B 0:=⟨0,by simp⟩
theorem Ov.more{B d:Int}{x:Rat}(h:Ov B x)(hB:0<B)(hd:0<d):Ov (B*d) x:=by
 obtain⟨t,rfl⟩:=h;exact⟨t*d,pU hB hd⟩
theorem Zj(t u:Int):∃m,Bd m t/\Bd m u:=⟨t.natAbs+u.natAbs,⟨WQ (by omega:t.natAbs<=t.natAbs+u.natAbs) xK⟩,⟨WQ (by omega:u.natAbs<=t.natAbs+u.natAbs) xK⟩⟩
theorem ZQ{a b:Rat}(h:aR a b):Bd 6 a.num:=by
 have h1:=h.a0;have h2:=h.a4;have h3:=h.ad;have n0:0<=a.num:=qJ.mpr (vS h1)
 have n1:a.num<=4*a.den:=by
   have:=(xp a 4).mp h2
   simpa using this
 exact ⟨by have : (2 : Nat) ^ 6 = 64 := by decide
           omega⟩
theorem zBJ{a b:Rat}(h:aR a b):Bd 4 (a.den:Int):=by
 have h3:=h.ad
 exact ⟨by have : (2 : Nat) ^ 4 = 16 := by decide
           omega⟩
theorem zBw{a b:Rat}(h:aR a b):Bd 4 b.num:=by
 have h1:=h.b0;have h2:=h.b1;have h3:=h.bd;have n0:0<=b.num:=qJ.mpr h1
 have n1:b.num<=b.den:=by
   have:=(xp b 1).mp h2
   simpa using this
 exact ⟨by have : (2 : Nat) ^ 4 = 16 := by decide
           omega⟩
theorem Ov.push{a b:Rat}(ok:aR a b){B:Int}{x:Rat}(hB:0<B)(hd:(b.den:Int) ∣ B)(h:Ov B x)(n:Nat):Ov (B*(a.den:Int)^n) (push a b n x):=by
 obtain⟨t,rfl⟩:=h;obtain⟨m,h1,h2⟩:=Zj t B;obtain⟨_,_,_,T,e,_⟩:=NU (ZQ ok) (zBJ ok) (zBw ok) hB hd h1 h2 n;exact⟨T,e⟩
theorem oy(a:Rat)(n:Nat):0<(a.den:Int)^n:=Xq (den_pos a)
theorem Ov.up{a:Rat}{B:Int}{x:Rat}(h:Ov B x)(hB:0<B)(n:Nat):Ov (B*(a.den:Int)^n) x:=h.more hB (oy a n)
theorem NR{B:Int}{xs:List Rat}(h:∀x∈xs,Ov B x)(i:Nat):Ov B (xs.getD i 0):=by
 rcases wB i xs.length with z | z
 ·exact h _ (du z)
 ·rw[wa,wF z];exact Ov.zero B
theorem zut{B:Int}{xs:List Rat}(h:∀i,i<xs.length->Ov B (xs.getD i 0)):∀x∈xs,Ov B x:=λx hx=>by
 obtain⟨j,hj,rfl⟩:=vc hx;have:=h j hj;rw[wa,wc hj]at this;exact this
theorem Mf{a b:Rat}(ok:aR a b):∀(n:Nat)(B:Int)(ps:List Rat)(left:List Nat),0<B->(b.den:Int) ∣ B->left.Nodup->(∀w∈left,w<ps.length)->(∀x∈ps,Ov B x)->∀x∈(cv a b n ps left).2.2,Ov (B*(a.den:Int)^(cv a b n ps left).1.flatten.length) x
 | 0,B,ps,left,hB,_,_,_,h=>λx hx=>by
  have:Ov (B*(a.den:Int)^0) x:=by rw[xZ,Q0];exact h x hx
  exact this
 | n+1,B,ps,left,hB,hd,nd,lt,h=>by
  by_cases e:aD ps left=[]
  ·rw[mi e]
   intro x hx;have:Ov (B*(a.den:Int)^0) x:=by rw[xZ,Q0];exact h x hx
   exact this
  ·rw[iX e]
   have nd':(bP left (aD ps left)).Nodup:=mh nd;have lt':=nD (wave:=aD ps left) lt
   have ih:=Mf ok n (B*(a.den:Int)^(aD ps left).length) (cy (a^(aD ps left).length) (aB a b (aD ps left).length) ps (bP left (aD ps left))) (bP left (aD ps left)) (vJ hB (oy a _)) (qd hd (Vv ..)) nd' (λw hw=>by rw[iE];exact lt' w hw) (zut λi hi=>by
    rw[jg _ _ _ _ nd' lt']
    split
    ·rw[<- ik];exact(NR h i).push ok hB hd _
    ·exact(NR h i).up hB _)
   intro x hx;have:=ih x hx
   show Ov (B*(a.den:Int)^(aD ps left::_).flatten.length) x
   rw[Vs,wS,Xs,<- VO];exact this
theorem Ov.rise{B:Int}{x y:Rat}(hx:Ov B x)(hy:Ov B y)(hB:0<B):Ov B (x+(1-y)):=by
 obtain⟨t,rfl⟩:=hx;obtain⟨z,rfl⟩:=hy;refine⟨t+B-z,?_⟩
 symm
 refine fb (by omega) ?_;have q1:=cE t (show B≠0 by omega);have q2:=cE z (show B≠0 by omega);have q3:((t+B-z:Int):Rat)=(t:Rat)+(B:Rat)-(z:Rat):=by push_cast;rfl
 rw[q3,<- q1,<- q2]
 grind
def iQ(a b:Rat)(xs:List Rat):Nat:=(bW a b xs).flatten.length
theorem Zb{a b:Rat}(ok:aR a b){B:Int}(hB:0<B)(hd:(b.den:Int) ∣ B){xs:List Rat}(h1:1<=xs.length)(h:∀x∈xs,Ov B x):∀y∈cQ a b xs,Ov (B*(a.den:Int)^iQ a b xs) y:=by
 have hr:∀x∈bE xs,Ov B x:=λx hx=>by
  obtain⟨y,hy,rfl⟩:=wY.mp hx;exact(h y hy).rise (h _ (gO h1)) hB
 have:=Mf ok xs.length B (bE xs) (wt xs.length) hB hd W6 (λw hw=>by rw[fc];exact wH.mp hw) hr;intro y hy;rcases Tr y hy with z | z
 ·exact this y z
 ·rw[z];exact Ov.zero _
def cb(a b:Rat)(xs:List Rat):Nat->Nat
 | 0=>0
 | k+1=>cb a b xs k+iQ a b (ai a b xs k)
theorem pY(a b:Rat)(xs:List Rat)(m:Nat):∀k,cb a b xs (m+k)=cb a b xs m+cb a b (ai a b xs m) k
 | 0=>rfl
 | k+1=>by
  show cb a b xs (m+k)+iQ a b (ai a b xs (m+k))=cb a b xs m+(cb a b (ai a b xs m) k+iQ a b (ai a b (ai a b xs m) k))
  rw[pY a b xs m k,c9];omega
theorem Pg{a b:Rat}(ok:aR a b){B:Int}(hB:0<B)(hd:(b.den:Int) ∣ B){xs:List Rat}(h1:1<=xs.length)(h:∀x∈xs,Ov B x):∀k,(∀y∈ai a b xs k,Ov (B*(a.den:Int)^cb a b xs k) y)/\Ov (B*(a.den:Int)^cb a b xs k) (aN a b xs k)
 | 0=>by
  show(∀y∈xs,Ov (B*(a.den:Int)^0) y)/\Ov (B*(a.den:Int)^0) 0
  rw[xZ,Q0];exact⟨h,Ov.zero B⟩
 | k+1=>by
  obtain⟨hp,hh⟩:=Pg ok hB hd h1 h k;have hBk:=vJ hB (oy a (cb a b xs k));have hpl:=bR a b xs k
  have e:B*(a.den:Int)^cb a b xs (k+1)=B*(a.den:Int)^cb a b xs k*(a.den:Int)^iQ a b (ai a b xs k):=by
   rw[VO,<- Xs];rfl
  rw[e];refine⟨Zb ok hBk (qd hd (Vv ..)) (by omega) hp,?_⟩;exact(Ov.rise hh (hp _ (gO (by omega))) hBk).up hBk _
theorem OH{a b:Rat}(a0:0<a)(b0:0<=b){xs:List Rat}(h1:1<=xs.length)(hp:cY xs):∀k:Nat,0<=aN a b xs k/\aN a b xs k<=((k:Int):Rat)
 | 0=>⟨WL,WL⟩
 | k+1=>by
  obtain⟨l,u⟩:=OH a0 b0 h1 hp k;have hk:=hp.at a0 b0 k;have hm:=gO (xs:=ai a b xs k) (by rw[bR];exact h1);have m0:=hk.nn _ hm;have m1:=hk.lt _ hm;have e:aN a b xs (k+1)=aN a b xs k+(1-bY (ai a b xs k)):=rfl;have ek:(((k+1:Nat):Int):Rat)=((k:Int):Rat)+1:=by push_cast;rfl
  rw[e,ek];exact⟨by grind,by grind⟩
theorem Je{B:Int}{m l:Nat}{x:Rat}(hB:0<B)(bB:Bd m B)(h:Ov B x)(x0:0<=x)(x1:x<=(((2^l:Nat):Int):Rat)):∃t:Int,x=wx t B/\Bd (m+l+1) t:=by
 obtain⟨t,rfl⟩:=h;refine⟨t,rfl,?_⟩;have q1:=cE t (show B≠0 by omega);have hBr:(0:Rat)<(B:Rat):=XV.mpr hB;have t0:(0:Rat)<=(t:Rat):=by rw[<- q1];exact Qe x0 (vS hBr)
 have t1:(t:Rat)<=(((2^l:Nat):Int):Rat)*(B:Rat):=by
  rw[<- q1];exact Rat.mul_le_mul_of_nonneg_right x1 (vS hBr)
 have t0':0<=t:=Rat.intCast_nonneg.mp t0
 have t1':t<=((2^l:Nat):Int)*B:=by
  rw[<- Wi]at t1;exact VY.mp t1
 have b:=bB.lt;refine⟨?_⟩
 have hb:t.natAbs<=2^l*B.natAbs:=by
  have e:((2^l*B.natAbs:Nat):Int)=((2^l:Nat):Int)*B:=by
   rw[Vn]
   congr 1
   omega
  omega
 have:2^l*B.natAbs<2^l*2^m:=Nat.mul_lt_mul_of_pos_left b (Wj l);have e2:2^(m+l+1)=2^l*2^m*2:=by rw[xS,Xp,Nat.mul_comm (2^m)]
 omega
theorem Ys{a b:Rat}(ok:aR a b){B:Int}{m:Nat}(h:Bd m B)(n:Nat):Bd (m+3*n) (B*(a.den:Int)^n):=by
 refine⟨?_⟩;have h1:=h.lt;have h8:=ok.ad;rw[xa,Int.natAbs_pow,Int.natAbs_natCast,Xp,Nat.pow_mul];have e:(2:Nat)^3=8:=by decide
 rw[e];have h2:a.den^n<=8^n:=Nat.pow_le_pow_left h8 n;have hp:0<8^n:=Nat.pow_pos (by decide);exact WQ (xI _ h2) (Nat.mul_lt_mul_of_pos_right h1 hp)
theorem Ov.sub{B:Int}{x y:Rat}(hx:Ov B x)(hy:Ov B y)(hB:0<B):Ov B (x-y):=by
 obtain⟨t,rfl⟩:=hx;obtain⟨z,rfl⟩:=hy;refine⟨t-z,?_⟩
 symm
 refine fb (by omega) ?_;have q1:=cE t (show B≠0 by omega);have q2:=cE z (show B≠0 by omega);have q3:((t-z:Int):Rat)=(t:Rat)-(z:Rat):=by push_cast;rfl
 rw[q3,<- q1,<- q2]
 grind
theorem zyW{a b:Rat}(ok:aR a b){m:Nat}{xs:List Rat}(c:pB b.den m xs)(h1:1<=xs.length)(hp:cY xs){i k l:Nat}(hk:k<=2^l):Cm (m+3*cb a b xs (i+k)+l+1) (aN a b (ai a b xs i) k::ai a b (ai a b xs i) k):=by
 obtain⟨B,hB,hd,bB,hx⟩:=c;have hov:=Pg ok hB hd h1 (λx hx'=>let ⟨t,e,_⟩:=hx x hx';⟨t,e⟩);obtain⟨hph,hh⟩:=hov (i+k);have hBk:=vJ hB (oy a (cb a b xs (i+k)))
 have hi:Ov (B*(a.den:Int)^cb a b xs (i+k)) (aN a b xs i):=by
  have:=((hov i).2).up (a:=a) (vJ hB (oy a (cb a b xs i))) (cb a b (ai a b xs i) k);rw[VO,<- Xs,<- pY]at this;exact this
 have hhk:Ov (B*(a.den:Int)^cb a b xs (i+k)) (aN a b (ai a b xs i) k):=by
  have e:aN a b (ai a b xs i) k=aN a b xs (i+k)-aN a b xs i:=by
   have:=m8 a b xs i k
   grind
  rw[e];exact hh.sub hi hBk
 have bb:=Ys ok bB (cb a b xs (i+k));have hpi:=hp.at ok.a0 ok.b0 i;have hpk:=hpi.at ok.a0 ok.b0 k;have hl:(((k:Nat):Int):Rat)<=(((2^l:Nat):Int):Rat):=VY.mpr (by omega)
 have h1l:(1:Rat)<=(((2^l:Nat):Int):Rat):=by
  have:((1:Int):Rat)<=(((2^l:Nat):Int):Rat):=VY.mpr (by have:=Wj l;omega);exact this
 refine⟨_,hBk,bb.mono (by omega),λx hx'=>?_⟩;rcases wQ.mp hx' with rfl | hx'
 ·have hb:=OH ok.a0 ok.b0 (xs:=ai a b xs i) (by rw[bR];exact h1) hpi k
  exact Je hBk bb hhk hb.1 (QL hb.2 hl)
 ·have:=hph x (by rw[<- c9];exact hx')
  exact Je hBk bb this (hpk.nn x hx') (QL (vS (hpk.lt x hx')) h1l)
theorem zwL{a b:Rat}(a0:0<a)(b0:0<=b){xs:List Rat}(h1:1<=xs.length)(hp:cY xs):iQ a b xs<=xs.length:=by
 obtain⟨v,J⟩:=DG a0 b0 h1 hp.nn hp.lt;unfold iQ;rw[J.perm.length_eq];unfold seg;have:=Wx (λw=>decide (0<=aP xs w)&&decide (aP xs w<v)) (wt xs.length);rw[vx]at this;exact this
theorem oK{a b:Rat}(a0:0<a)(b0:0<=b){xs:List Rat}(h1:1<=xs.length)(hp:cY xs):∀k,cb a b xs k<=k*xs.length
 | 0=>qi _
 | k+1=>by
  have ih:=oK a0 b0 h1 hp k;have hl:=bR a b xs k;have:=zwL a0 b0 (xs:=ai a b xs k) (by omega) (hp.at a0 b0 k);rw[qA]
  show cb a b xs k+iQ a b (ai a b xs k)<=_
  omega
theorem Jg{a b:Rat}(a0:0<a)(b0:0<=b){xs:List Rat}(h1:1<=xs.length)(hp:cY xs):1<=(bW a b xs).length:=by
 obtain⟨v,J⟩:=DG a0 b0 h1 hp.nn hp.lt;obtain⟨ws,e,_⟩:=J.first;rw[e];simp
theorem sG{a b:Rat}(a0:0<a)(b0:0<=b){xs:List Rat}(h1:1<=xs.length)(hp:cY xs):(aj (cQ a b xs)).length<=(aj xs).length/\(1<(bW a b xs).length->(aj (cQ a b xs)).length<(aj xs).length):=by
 obtain⟨v,J⟩:=DG a0 b0 h1 hp.nn hp.lt;have e:=congrArg qj J.new;rw[jh,wS,Wb,jh,vZ]at e;have v1:=J.v1;have vm:=J.vm;exact⟨by omega,λh=>by have:=J.more.mp h;omega⟩
theorem lO{a b:Rat}(a0:0<a)(b0:0<=b){xs:List Rat}(h1:1<=xs.length)(hp:cY xs):∀k,(aj (ai a b xs k)).length<=(aj xs).length
 | 0=>wo _
 | k+1=>Wd (sG a0 b0 (xs:=ai a b xs k) (by rw[bR];exact h1) (hp.at a0 b0 k)).1 (lO a0 b0 h1 hp k)
theorem IW{a b:Rat}(ok:aR a b){xs ps:List Rat}{fl:Nat->Nat}{ns:List Int}(L:e_ xs (ps++[0]) fl ns)(hn:ns.length=ps.length+1)(f:cZ a b ns ps=true):∀t,t<=ns.length->cb a b xs t=upTo ns t
 | 0,_=>rfl
 | t+1,ht=>by
  have ih:=IW ok L hn f t (by omega);have hw:=(sF ok L hn f).2.1 t (by omega);have hl:(ps++[0]).length=ns.length:=by simp[hn]
  have hs:=L.size t (by omega)
  show cb a b xs t+iQ a b (ai a b xs t)=_
  unfold iQ;rw[hw,ih,mV (by omega),hs];simp
theorem Of{a b:Rat}(ok:aR a b){xs ps:List Rat}{fl:Nat->Nat}{ns:List Int}(L:e_ xs (ps++[0]) fl ns)(hn:ns.length=ps.length+1)(n0:∀n∈ns,0<=n):∀k,(∀j,j<k->cg a b ns ps j=true)->cb a b xs (k*ns.length)=k*upTo ns ns.length
 | 0,_=>by rw[QN,QN];rfl
 | k+1,h=>by
  have ih:=Of ok L hn n0 k λj hj=>h j (by omega)
  obtain⟨Lk,_⟩:=lQ ok L hn n0 k λj hj=>h j (by omega)
  have hl:ns.length=(cx a b ns k ps).length+1:=by rw[c6];exact hn
  rw[qA,pY,ih,IW ok Lk hl (h k (by omega)) _ (wo _),qA]
structure fP(a b:Rat)(xs:List Rat)(r g:Nat):Prop where
 j4:r<=30
 free:jO a b xs r
 ends:cg a b (aQ xs) (a_ xs) r=false
 g1:1<=g
 gN:g<=(aj xs).length
 one:∀t,t+1<g->(bW a b (ai a b (ai a b xs (r*(aj xs).length)) t)).length=1
 join:1<(bW a b (ai a b (ai a b xs (r*(aj xs).length)) (g-1))).length
theorem Lh{p:Nat->Prop} : ∀n,(∃t,t<n /\ ¬ p t)->∃g,g<n/\(∀t,t<g->p t) /\ ¬ p g
 | 0,h=>by obtain⟨t,ht,_⟩:=h;omega
 | n+1,h=>by
  by_cases z:∃t,t<n /\ ¬ p t
  ·obtain⟨g,h1,h2,h3⟩:=Lh n z
   exact⟨g,by omega,h2,h3⟩
  ·obtain⟨t,ht,hp⟩:=h
   have htn:t=n:=by
    rcases wB t n with y | y
    ·exact absurd ⟨t,y,hp⟩ z
    ·omega
   subst htn;exact⟨t,by omega,λs hs=>V2.mp λy=>z ⟨s,hs,y⟩,hp⟩
structure zAl(a b:Rat)(xs:List Rat):Prop where
 hz:a_ xs++[0]=aj xs
 hn:(aQ xs).length=(a_ xs).length+1
 hs:(aQ xs).length=(aj xs).length
 L:e_ xs (a_ xs++[0]) (aP xs) (aQ xs)
theorem m4{a b:Rat}{xs:List Rat}(hp:cY xs)(h0:0∈xs):zAl a b xs:=by
 have hz:a_ xs++[0]=aj xs:=CM hp h0;have hsl:=yc xs;have hpl:(a_ xs).length+1=(aj xs).length:=by rw[<- hz];simp
 exact⟨hz,by omega,hsl,by rw[hz];exact Km hp.nn hp.lt⟩
theorem NB{a b:Rat}{xs:List Rat}(ok:aR a b)(h1:1<=xs.length)(hp:cY xs)(h0:0∈xs){r:Nat}(h30:r<=30)(f:jO a b xs r)(e:cg a b (aQ xs) (a_ xs) r=false):∃g,fP a b xs r g:=by
 obtain⟨hz,hn,hs,L⟩:=m4 (a:=a) (b:=b) hp h0;obtain⟨Lr,_⟩:=lQ ok L hn (zm xs) r f;obtain⟨t,ht,hj⟩:=Am ok Lr (by rw[c6];exact hn) e;rw[hs]at ht hj;obtain⟨g,g1,g2,g3⟩:=Lh (p:=λt=>(bW a b (ai a b (ai a b xs (r*(aj xs).length)) t)).length=1) (aj xs).length ⟨t,ht,λz=>by rw[z]at hj;omega⟩;refine⟨g+1,h30,f,e,by omega,by omega,λt ht=>g2 t (by omega),?_⟩;have:=Jg (a:=a) (b:=b) ok.a0 ok.b0 (xs:=ai a b (ai a b xs (r*(aj xs).length)) g) (by rw[bR,bR];exact h1) ((hp.at ok.a0 ok.b0 _).at ok.a0 ok.b0 _);rw[qD];have g3:¬ (bW a b (ai a b (ai a b xs (r*(aj xs).length)) g)).length=1:=g3;omega
theorem fP.cb{a b:Rat}{xs:List Rat}{r g:Nat}(R:fP a b xs r g)(ok:aR a b)(h1:1<=xs.length)(hp:cY xs)(h0:0∈xs){t:Nat}(ht:t<=g):cb a b xs (r*(aj xs).length+t)<=30*xs.length+xs.length*xs.length:=by
 obtain⟨hz,hn,hs,L⟩:=m4 (a:=a) (b:=b) hp h0;have h2:=Of ok L hn (zm xs) r R.free;rw[hs]at h2;have h3:=OT xs;rw[hs]at h3;have h4:=oK ok.a0 ok.b0 (xs:=ai a b xs (r*(aj xs).length)) (by rw[bR];exact h1) (hp.at ok.a0 ok.b0 _) t;rw[bR]at h4;rw[pY,h2];have h5:r*upTo (aQ xs) (aj xs).length<=30*xs.length:=VB R.j4 h3;have h6:t*xs.length<=xs.length*xs.length:=Wg _ (by have:=R.gN;have:=kT xs;omega);omega
theorem fP.Hf{a b:Rat}{xs:List Rat}{r g:Nat}(R:fP a b xs r g)(ok:aR a b)(h1:1<=xs.length)(hp:cY xs):(aj (ai a b xs (r*(aj xs).length+g))).length<(aj xs).length:=by
 have g1:=R.g1
 have e:ai a b xs (r*(aj xs).length+g)=cQ a b (ai a b (ai a b xs (r*(aj xs).length)) (g-1)):=by
  rw[<- c9];obtain⟨k,rfl⟩:∃k,g=k+1:=⟨g-1,by omega⟩
  rfl
 have h2:cY (ai a b (ai a b xs (r*(aj xs).length)) (g-1)):=(hp.at ok.a0 ok.b0 _).at ok.a0 ok.b0 _;have hl:(ai a b (ai a b xs (r*(aj xs).length)) (g-1)).length=xs.length:=by rw[bR,bR]
 have h3:=(sG ok.a0 ok.b0 (xs:=ai a b (ai a b xs (r*(aj xs).length)) (g-1)) (by omega) h2).2 R.join;have h4:=lO ok.a0 ok.b0 (xs:=xs) h1 hp (r*(aj xs).length+(g-1));rw[c9]at h3;rw[c9]at e;rw[e];omega
theorem Tw{a b:Rat}{ns:List Int}{xs:List Rat}(ok:aR a b)(sz:cA ns)(hn:ns.length=xs.length+1)(st:d8 a b ns xs=true):b8 a b ns xs=xs\/(a<1/\pS a b ns=true):=by
 have hps:=sz.pos;unfold d8 at st
 by_cases z1:1<a
 ·rw[if_pos z1]at st
  have e:=of_decide_eq_true st;have hF:a^ns.sum.toNat≠1:=λe=>absurd ((oZ ok (by omega)).mp e) (by grind)
  refine .inl ?_;rw[<- C_ hn sz.nn,Nz hF hn 1];rw[<- e,zwK]
 ·rw[if_neg z1]at st
  by_cases z2:a=1
  ·rw[if_pos z2]at st
   refine .inl ?_;rw[<- C_ hn sz.nn]
   exact gH (c6 ..) λi hi=>by
    rw[c6]at hi;have hi':i<(c7 a b ns).length:=by rw[oQ (by omega)];omega
    have hz:(c7 a b ns).getD i 0=0:=by
     rw[Wl]at st;have:=st _ (wY.mpr ⟨_,du (d:=0) hi',rfl⟩);exact of_decide_eq_true this
    rw[kH hi,hz];unfold eZ;rw[z2,GM.one_pow',GM.one_pow']
    grind
  ·rw[if_neg z2]at st
   refine .inr ⟨?_,st⟩
   by_cases h:a<1
   ·exact h
   ·exact absurd (VS (VR.mp h) (We z2)) z1
theorem zyh{a b:Rat}{xs:List Rat}(ok:gc a b xs)(h:dG a b xs=none)(f:cg a b (aQ xs) (a_ xs) 0=true):d8 a b (aQ xs) (a_ xs)=false:=by
 obtain⟨_,sz,hn⟩:=ok.round;unfold cg at f;rw[nR]at f;cases e:d8 a b (aQ xs) (a_ xs)with
 | false=>rfl
 | true =>
  unfold dG at h;rw[if_pos f]at h
  split at h
  ·cases h
  ·split at h
   ·cases h
   ·rename_i y
    rcases Tw ok.ok sz hn e with z | z
    ·exact absurd z y
    ·rw[if_pos z]at h;cases h
def mI(h:Rat)(xs:List Rat)(r g:Nat):wz:=.tuple [N h,TN xs,.int (r:Int),.int (g:Int)]
def MU(K:wb)(a:Ad):Sp:=λvs H Q E=>∃x0 x1,vs=[x0,x1] /\ ∃(ra rb h:Rat)(xs:List Rat),Is K H x0 (N h)/\Is K H x1 (bG ra rb xs)/\gc ra rb xs/\dG ra rb xs=none/\(∀r g t,fP ra rb xs r g->t<=g->Cm 3600 (ai ra rb xs (r*(aj xs).length+t))) /\
 ((∀k,k<=30->cg ra rb (aQ xs) (a_ xs) k=true)->∀H',ah H H'->E (.ref a.cP) none H') /\ ∀r g v H',fP ra rb xs r g->ah H H'->Is K H' v (mI h xs r g)->Q v H'
theorem zqw{K:wb}{a:Ad}{H:Hp}{Q:VK}{E:XK}{ra rb h:Rat}{xs:List Rat}{v w:V}(h1:Is K H v (N h))(h2:Is K H w (bG ra rb xs))(ok:gc ra rb xs)(hw:dG ra rb xs=none)(c:∀r g t,fP ra rb xs r g->t<=g->Cm 3600 (ai ra rb xs (r*(aj xs).length+t)))(qe:(∀k,k<=30->cg ra rb (aQ xs) (a_ xs) k=true)->∀H',ah H H'->E (.ref a.cP) none H')(q:∀r g v H',fP ra rb xs r g->ah H H'->Is K H' v (mI h xs r g)->Q v H'):MU K a [v,w] H Q E:=⟨_,_,rfl,ra,rb,h,xs,h1,h2,ok,hw,c,qe,q⟩
theorem zrw(T:Txt K mg a):aO P w K mg base (eI P w) 12 a.Gu a.Fp tO (MU K a):=by
 refine T.FN.F.oN sk ?_ ?_;wtm_at "b2"
 refine⟨_,(ak (ay 2 sk.nd (nB (DO T) hr T.rF uG (ae (pv 1) af)))
     (ak (ay 3 sk.nd (nB (YL T) hr T.EK uG (ae (ar (pv 1)) (ae (ar (pv 2)) (ae (ar (pv 2)) af)))))
     (ak (ay 4 sk.nd (au (Y9 T) hr T.EA (ae (ar (au (Pd T) hr T.zE (ae (pv 1) (ae (pv 3) af)))) af)))
     (av (aF (aW (ae (pv 0) (ae (ar (pv 1)) (ae (pv 3) (ae (pv 4) af)))))))))),?_⟩
 wtm_at "cl";rw[show start Nt [x0,x1]=[some x0,some x1,none,none,none]from rfl];obtain⟨ra,rb,hr',xs,ih,hw,ok,hno,hc,qe,q⟩:=h;obtain⟨rok,sz,hn⟩:=ok.round;have h8:=ok.h8;have bx:∀i,ag 4000 (xs.getD i 0):=λi=>(ok.cm.get i).mono (by decide)
 o_head Dt hw h8 bx (λz=>absurd ok.h0 z) (λ_ vl H1 S1 il=>?_);have hw1:=hw.by S1;o_head aG (j:=0) hw1 rfl (λvr ir=>?_);o_head aG (j:=0) il rfl (λvz iz=>?_);o_head aG (j:=1) il rfl (λvp ip=>?_);o_head UM ir iz ip ok.ok sz hn (sO ok.cm) (by decide) (λz H2 S2=>?_) (λz y H2 S2=>?_) (λc c1 c2 y z w H2 S2=>?_) (λy z H2 S2=>?_)
 . have RR:(0:Nat)<=30:=by decide
   have FF:jO ra rb xs 0:=λk hk=>by omega
   have EE:=z;k_few;obtain⟨g,R⟩:=NB ok.ok ok.h1 ok.hp ok.h0 RR FF EE;have g1:=R.g1;have gN:=R.gN;have hvl:=kT xs;refine AA (r:=0) (hw1.by S2) ok RR FF (λv3 H3 S3 i3=>?_);o_head aG (j:=1) i3 rfl (λv4 i4=>?_);k_few;have hj:=R.join;refine OY (g:=g-1) i4 ok.ok (by rw[bR];exact ok.h1) (by rw[bR];exact h8) (by omega) (λt ht=>by rw[c9];exact(hc _ g t R (by omega)).mono (by decide)) (λt ht=>R.one t (by omega)) (by omega) (λH5 S5=>?_);rw[show g-1+1=g by omega];have S15:=S2.trans (S3.trans S5);o_head aG (j:=1) (hw1.by S15) rfl (λv6 i6=>?_);o_head bX (ds:=[N hr',TN xs,.int ((0:Nat):Int),.int (g:Int)]) (by simp) (.cons (ih.by (S1.trans S15)) (.cons i6 (.cons (bS.mpr rfl) (.cons (bS.mpr rfl) .nil)))) (λv7 H7 S7 i7=>?_);exact q 0 g v7 H7 R (S1.trans (S15.trans S7)) i7
 . rw[zyh ok hno z]at y
   cases y
 . have RR:=c2
   have FF:jO ra rb xs c:=z;have EE:=w;k_few;obtain⟨g,R⟩:=NB ok.ok ok.h1 ok.hp ok.h0 RR FF EE;have g1:=R.g1;have gN:=R.gN;have hvl:=kT xs;refine AA (r:=c) (hw1.by S2) ok RR FF (λv3 H3 S3 i3=>?_);o_head aG (j:=1) i3 rfl (λv4 i4=>?_);k_few;have hj:=R.join;refine OY (g:=g-1) i4 ok.ok (by rw[bR];exact ok.h1) (by rw[bR];exact h8) (by omega) (λt ht=>by rw[c9];exact(hc _ g t R (by omega)).mono (by decide)) (λt ht=>R.one t (by omega)) (by omega) (λH5 S5=>?_);rw[show g-1+1=g by omega];have S15:=S2.trans (S3.trans S5);o_head aG (j:=1) (hw1.by S15) rfl (λv6 i6=>?_);o_head bX (ds:=[N hr',TN xs,.int (c:Int),.int (g:Int)]) (by simp) (.cons (ih.by (S1.trans S15)) (.cons i6 (.cons (bS.mpr rfl) (.cons (bS.mpr rfl) .nil)))) (λv7 H7 S7 i7=>?_);exact q c g v7 H7 R (S1.trans (S15.trans S7)) i7
 . exact qe z H2 (S1.trans S2)
def ou(a b:Rat)(xs:List Rat)(i r g:Nat):Prop:=(i=0/\r=0/\g=1)\/(1<=i/\dG a b (ai a b xs i)=none/\fP a b (ai a b xs i) r g)
def dD(a b:Rat)(xs:List Rat)(i r g:Nat):Nat:=i+(r*(aj (ai a b xs i)).length+g)
def gM(a b:Rat)(xs:List Rat):Nat->List (Nat × Nat × Nat)->Nat->Prop
 | i,[],n=>i=n
 | i,e::es,n=>e.1=i/\ou a b xs i e.2.1 e.2.2/\gM a b xs (dD a b xs i e.2.1 e.2.2) es n
theorem gM.snoc{a b:Rat}{xs:List Rat} : ∀{es:List (Nat × Nat × Nat)}{i n r g:Nat},gM a b xs i es n->ou a b xs n r g->gM a b xs i (es++[(n,r,g)]) (dD a b xs n r g)
 | [],i,n,r,g,h,k=>by
  have e:i=n:=h;subst e;exact⟨rfl,k,rfl⟩
 | e::es,i,n,r,g,h,k=>⟨h.1,h.2.1,gM.snoc h.2.2 k⟩
def pL(a b:Rat)(xs:List Rat)(e:Nat × Nat × Nat):wz:=mI (aN a b xs e.1) (ai a b xs e.1) e.2.1 e.2.2
def Cc(a b:Rat)(xs:List Rat)(n:Nat)(w:String):wz:=.tuple [N (aN a b xs n),TN (ai a b xs n),.str (wG w)]
def Dy(a b:Rat)(xs:List Rat)(es:List (Nat × Nat × Nat))(n:Nat)(w:String):List wz:=es.map (pL a b xs)++[Cc a b xs n w]
theorem B2(h:Rat)(xs:List Rat)(r g:Nat):cB (mI h xs r g)=true:=by rw[mI,cB,b7,b7,b7,b7,b7,lF,oU];rfl
theorem ZM(a b:Rat)(xs:List Rat)(n:Nat)(w:String):cB (Cc a b xs n w)=true:=by rw[Cc,cB,b7,b7,b7,b7,lF,oU];rfl
structure cS(a b:Rat)(xs:List Rat):Prop where
 ok:aR a b
 h1:1<=xs.length
 h6:xs.length<=6
 ph:∀x∈xs,fS x
theorem cS.hp{a b:Rat}{xs:List Rat}(h:cS a b xs):cY xs:=⟨λx hx=>(h.ph x hx).nn,λx hx=>(h.ph x hx).lt⟩
theorem cS.Yq{a b:Rat}{xs:List Rat}(h:cS a b xs):pB b.den 47 xs:=by
 have h6:=h.h6
 have b6:∀j,ag 6 (xs.getD j 0):=λj=>by
  rcases wB j xs.length with z | z
  ·exact(h.ph _ (du z)).fo
  ·rw[wa,wF z];exact ag.zero.mono (by decide)
 have c0:Cm 43 xs:=(Cm.RL b6).mono (by omega);exact pB.of c0 (den_pos b) ⟨by have:=h.ok.bd;have:(2:Nat)^4=16:=(by decide);omega⟩
def ky(a b:Rat)(xs:List Rat)(i:Nat):Prop:=cb a b xs i+216*(aj (ai a b xs i)).length<=6+216*6/\i+186*(aj (ai a b xs i)).length<=1+186*6
structure eS(a b:Rat)(xs:List Rat)(es:List (Nat × Nat × Nat))(n:Nat)(w:String):Prop where
 walk:gM a b xs 0 es n
 e1:1<=es.length
 cf:es.length<=9
 n1:1<=n
 word:dG a b (ai a b xs n)=some w
 sp:ky a b xs n
theorem cS.kz{a b:Rat}{xs:List Rat}(h:cS a b xs){i k:Nat}(hg:cb a b xs (i+k)<=1100)(hk:k<=1024):Cm 3500 (aN a b (ai a b xs i) k::ai a b (ai a b xs i) k) :=
 (zyW h.ok h.Yq h.h1 h.hp (i:=i) (k:=k) (l:=10) (by rw[show(2:Nat)^10=1024 by decide];exact hk)).mono (by omega)
theorem cS.cm{a b:Rat}{xs:List Rat}(h:cS a b xs){i:Nat}(hg:cb a b xs i<=1100)(hi:i<=1024):Cm 3500 (aN a b xs i::ai a b xs i):=h.kz (i:=0) (k:=i) (by rw[Nat.zero_add];exact hg) hi
theorem cS.Hs{a b:Rat}{xs:List Rat}(h:cS a b xs){i:Nat}(h1:1<=i)(c:Cm 3500 (aN a b xs i::ai a b xs i)):gc a b (ai a b xs i) :=
 ⟨h.ok,by rw[bR];exact h.h1,by rw[bR];have:=h.h6;omega,h.hp.at h.ok.a0 h.ok.b0 i,h.hp.zero h.ok.a0 h.ok.b0 h.h1 h1,(nY c λy hy=>wD _ hy).mono (by decide)⟩
theorem cS.nf{a b:Rat}{xs:List Rat}(h:cS a b xs)(i:Nat):1<=(aj (ai a b xs i)).length/\(aj (ai a b xs i)).length<=6:=by
 have:=kT (ai a b xs i);rw[bR]at this;have h6:=h.h6;exact⟨rM (by rw[bR];exact h.h1),by omega⟩
theorem cS.one{a b:Rat}{xs:List Rat}(h:cS a b xs):ky a b xs 1:=by
 have h6:=h.h6;have:=oK h.ok.a0 h.ok.b0 h.h1 h.hp 1;have:=(h.nf 1).2;exact⟨by omega,by omega⟩
theorem cS.within{a b:Rat}{xs:List Rat}(h:cS a b xs){i r g t:Nat}(i1:1<=i)(sp:ky a b xs i)(n2:2<=(aj (ai a b xs i)).length)(R:fP a b (ai a b xs i) r g)(ht:t<=g):cb a b xs (i+(r*(aj (ai a b xs i)).length+t))<=1100/\i+(r*(aj (ai a b xs i)).length+t)<=1024/\cb a b xs (i+(r*(aj (ai a b xs i)).length+t))<=cb a b xs i+216/\r*(aj (ai a b xs i)).length+t<=186:=by
 have h6:=h.h6;have nf:=(h.nf i).2;have hl:=bR a b xs i;have g1:=R.cb h.ok (by rw[hl];exact h.h1) (h.hp.at h.ok.a0 h.ok.b0 i) (h.hp.zero h.ok.a0 h.ok.b0 h.h1 i1) ht;rw[hl]at g1
 have g2:30*xs.length+xs.length*xs.length<=216:=by
  have:xs.length*xs.length<=6*6:=VB h6 h6;omega
 have g3:r*(aj (ai a b xs i)).length<=30*6:=VB R.j4 nf;have g4:=R.gN;obtain⟨s1,s2⟩:=sp;rw[pY];exact⟨by omega,by omega,by omega,by omega⟩
theorem cS.next{a b:Rat}{xs:List Rat}(h:cS a b xs){i r g:Nat}(i1:1<=i)(sp:ky a b xs i)(n2:2<=(aj (ai a b xs i)).length)(R:fP a b (ai a b xs i) r g):ky a b xs (dD a b xs i r g):=by
 obtain⟨_,_,w1,w2⟩:=h.within i1 sp n2 R (wo g);have f:=R.Hf h.ok (by rw[bR];exact h.h1) (h.hp.at h.ok.a0 h.ok.b0 i);rw[c9]at f;obtain⟨s1,s2⟩:=sp;unfold ky dD;exact⟨by omega,by omega⟩
theorem Nv{a b:Rat}{xs:List Rat}(h:dG a b xs=none)(h1:1<=(aj xs).length):2<=(aj xs).length:=by
 unfold dG at h
 split at h
 ·cases h
 ·omega
def km(a b:Rat)(xs:List Rat):Prop:=∃es i,gM a b xs 0 es i/\1<=i/\dG a b (ai a b xs i)=none /\ ∀k,k<=30->cg a b (aQ (ai a b xs i)) (a_ (ai a b xs i)) k=true
def Me(K:wb)(a:Ad):Sp:=λvs H Q E=>∃x0,vs=[x0] /\ ∃(ra rb:Rat)(xs:List Rat),Is K H x0 (bG ra rb xs)/\cS ra rb xs /\
 (km ra rb xs->∀H',ah H H'->E (.ref a.cP) none H') /\ ∀l H' es n w,eS ra rb xs es n w->H l=none->ah H H'->Is K H' (.ref l) (.list (Dy ra rb xs es n w))->Q (.ref l) H'
theorem Y0{K:wb}{a:Ad}{H:Hp}{Q:VK}{E:XK}{ra rb:Rat}{xs:List Rat}{v:V}(h:Is K H v (bG ra rb xs))(ok:cS ra rb xs)(qe:km ra rb xs->∀H',ah H H'->E (.ref a.cP) none H')(q:∀l H' es n w,eS ra rb xs es n w->H l=none->ah H H'->Is K H' (.ref l) (.list (Dy ra rb xs es n w))->Q (.ref l) H'):Me K a [v] H Q E:=⟨_,rfl,ra,rb,xs,h,ok,qe,q⟩
theorem R7(T:Txt K mg a):aO P w K mg base (eI P w) 13 a.Gq a.Fq yY (Me K a):=by
 refine T.FV.F.oN lC ?_ ?_;wtm_at "b1"
 refine⟨_,(ak (ay 1 lC.nd (cV (ae (aW (ae (bL (v:=.ref a.cX) rfl T.dH rfl) (ae (ar (pv 0)) (ae az (ae az af))))) af)))
     (ak (ay 2 lC.nd jV)
     (ak (lD Xl (cc Lp (pv 2) jV (bA _)) (ak (ay 3 lC.nd (d5 dy (pv 1) (iD gW az) (λ_ _=>rfl)))
     (ak (ay 4 lC.nd (au (Uk T) hr T.Fc (ae (aW (ae (ar (pv 0)) (ae (ar (pv 3)) af))) (ae (ar (pv 3)) (ae (ar (pv 3)) af)))))
     (ak (ay 5 lC.nd (au (fY T) hr T.fH (ae (ar (pv 3)) (ae (ar (pv 4)) af))))
     (ak (ay 2 lC.nd (au (zrZ T) hr T.Gi (ae (ar (pv 4)) af)))
     (av (jL (iO vP vV vW jn (pv 1) (ae (rR (cc Lp (pv 2) jV (bA _)) (nB (zrw T) hr T.FN uG (ae (pv 5) (ae (ar (pv 4)) af))) (aW (ae (pv 5) (ae (ar (ar (pv 4))) (ae (pv 2) af))))) af)))))))))
     (av (aF (pv 1)))))),?_⟩
 wtm_at "cl";rw[show start JO [x0]=[some x0,none,none,none,none,none]from rfl];obtain⟨ra,rb,xs,hw,ok,qe,q⟩:=h;o_head aG (j:=1) hw rfl (λv1 i1=>?_);o_head bX (ds:=[N 0,TN xs,.int 0,.int 1]) (by simp) (.cons (dP 0 (T.eB _) rfl rfl) (.cons i1 (.cons (bS.mpr rfl) (.cons (bS.mpr rfl) .nil)))) (λv2 H2 S2 i2=>?_);o_head d9 (by simp) (λlr H3 n3 S3 e3=>?_);have hlr:H lr=none:=gP S2 n3;k_few
 refine oE (λm σ' H'=>∃(us:List V)(es:List (Nat × Nat × Nat))(vw:V)(o3 o4 o5:Option V),σ'=[some x0,some (.ref lr),some vw,o3,o4,o5]/\ah H H'/\H' lr=some (.lst us) /\
   ((vw=.bM /\ ∃i r g,gM ra rb xs 0 es i/\ou ra rb xs i r g/\ao K H' us ((es++[(i,r,g)]).map (pL ra rb xs))/\(1<=i->ky ra rb xs i)/\es.length+(aj (ai ra rb xs (dD ra rb xs i r g))).length<=6/\m=(aj (ai ra rb xs (dD ra rb xs i r g))).length) \/
     ∃n w,vw=.str (wG w)/\eS ra rb xs es n w/\ao K H' us (Dy ra rb xs es n w)/\m=0)) _ ⟨[v2],[],.bM,_,_,_,rfl,S2.trans S3,e3,.inl ⟨rfl,0,0,1,rfl,.inl ⟨rfl,rfl,rfl⟩,.cons (i2.by S3) .nil,λh=>by omega,by have:=(ok.nf (dD ra rb xs 0 0 1)).2;simpa using this,rfl⟩⟩ ?_
 rintro m σ' H4 ⟨us,es,vw,o3,o4,o5,rfl,S4,e4,C⟩;rcases C with⟨rfl,i,r,g,wk,ro,t4,sp,cf,rfl⟩ | ⟨n,w',rfl,P,t4,rfl⟩
 . have hN:=(ok.nf i).2
   have h6:=ok.h6
   have facts:g<=40/\(1<=r->gc ra rb (ai ra rb xs i)/\r<=30/\jO ra rb (ai ra rb xs i) r)/\cb ra rb xs (dD ra rb xs i r g)<=1100/\dD ra rb xs i r g<=1024/\cb ra rb xs i<=1100/\i<=1024/\(∀t,t<=g->cb ra rb xs (i+(r*(aj (ai ra rb xs i)).length+t))<=1100)/\ky ra rb xs (dD ra rb xs i r g)/\r<=30:=by
     rcases ro with⟨rfl,rfl,rfl⟩ | ⟨i1,hno,R⟩
     . have e:dD ra rb xs 0 0 1=1:=by unfold dD;omega
       have h2:=oK ok.ok.a0 ok.ok.b0 ok.h1 ok.hp;refine⟨by omega,λz=>by omega,by rw[e];have:=h2 1;omega,by omega,by have:=h2 0;omega,by omega,λt ht=>?_,by rw[e];exact ok.one,by omega⟩;have h3:=h2 (0+(0*(aj (ai ra rb xs 0)).length+t));have h4:(0+(0*(aj (ai ra rb xs 0)).length+t))*xs.length<=1*6:=VB (by omega) h6;omega
     . have n2:=Nv hno (ok.nf i).1
       have sp:=sp i1;have w:=λ{t:Nat}(ht:t<=g)=>ok.within i1 sp n2 R ht
       have w0:=w (wo g);have g4:=R.gN;have si:=sp.1;have si2:=sp.2;have c:Cm 3500 (aN ra rb xs i::ai ra rb xs i):=ok.cm (by omega) (by omega);exact⟨by omega,λ_=>⟨ok.Hs i1 c,R.j4,R.free⟩,w0.1,w0.2.1,by omega,by omega,λt ht=>(w ht).1,ok.next i1 sp n2 R,R.j4⟩
   obtain⟨g40,fr,gl,nl,gi,ni,gw,sl,j4⟩:=facts;have cI:=ok.cm gi ni;have cL:=ok.cm gl nl
   have n1:1<=dD ra rb xs i r g:=by
     unfold dD;rcases ro with⟨rfl,rfl,rfl⟩ | ⟨i1,hno,R⟩
     . omega
     . omega
   have swL:=ok.Hs n1 cL;have hrN:r*(aj (ai ra rb xs i)).length<=30*6:=VB j4 hN;have hul:=t4.length;rw[wm,wS,vZ]at hul;have hnf:=(ok.nf (dD ra rb xs i r g)).1;o_head pT ?_;k_few
   have il:Is K H4 (.ref lr) (.list (es.map (pL ra rb xs)++[pL ra rb xs (i,r,g)])):=by
     rw[vt]at t4;exact cu.mpr ⟨lr,us,rfl,.of e4,t4⟩
   refine yR il (λv5 i5=>?_);have i5:Is K H4 v5 (mI (aN ra rb xs i) (ai ra rb xs i) r g):=i5;have hw4:=hw.by S4;o_head aG (j:=0) hw4 rfl (λv6 i6=>?_);o_head aG (j:=1) i5 rfl (λv7 i7=>?_);o_head bX (ds:=[R ra rb,TN (ai ra rb xs i)]) (by simp) (.cons i6 (.cons i7 .nil)) (λv8 H8 S8 i8=>?_);have i58:=i5.by S8;o_head aG (j:=2) i58 rfl (λv9 i9=>?_);rw[bS.mp i9];o_head aG (j:=3) i58 rfl (λv10 i10=>?_);rw[bS.mp i10];k_few;have bH:ag 8000 (aN ra rb (ai ra rb xs i) (r*(aj (ai ra rb xs i)).length)):=((ok.kz (i:=i) (k:=r*(aj (ai ra rb xs i)).length) (by have:=gw 0 (by omega);rw[Nat.add_zero]at this;exact this) (by omega)).fo (wJ ..)).mono (by decide)
   have cG:∀t,t<=g->Cm 3700 (aN ra rb (ai ra rb (ai ra rb xs i) (r*(aj (ai ra rb xs i)).length)) t::ai ra rb (ai ra rb (ai ra rb xs i) (r*(aj (ai ra rb xs i)).length)) t):=λt ht=>by
     rw[c9 ra rb xs];exact(ok.kz (i:=i+r*(aj (ai ra rb xs i)).length) (k:=t) (by have:=gw t ht;rw[<- VN]at this;exact this) (by omega)).mono (by decide)
   refine znt (show Is K H8 v8 (bG ra rb (ai ra rb xs i))from i8) ok.ok (by rw[bR];exact ok.h1) (by rw[bR];omega) fr g40 bH cG (λv11 H11 S11 i11=>?_);have i11:Is K H11 v11 (.tuple [N (aN ra rb (ai ra rb xs i) (r*(aj (ai ra rb xs i)).length+g)),bG ra rb (ai ra rb (ai ra rb xs i) (r*(aj (ai ra rb xs i)).length+g))]):=i11;rw[c9]at i11;have i11:Is K H11 v11 (.tuple [N (aN ra rb (ai ra rb xs i) (r*(aj (ai ra rb xs i)).length+g)),bG ra rb (ai ra rb xs (dD ra rb xs i r g))]):=i11;have i511:=i58.by S11;have bI:ag 3500 (aN ra rb xs i):=cI.fo (wJ ..);have bJ:ag 3500 (aN ra rb (ai ra rb xs i) (r*(aj (ai ra rb xs i)).length+g)):=(ok.kz (i:=i) (k:=r*(aj (ai ra rb xs i)).length+g) gl (by omega)).fo (wJ ..);o_head aG (j:=0) i511 rfl (λv12 i12=>?_);o_head aG (j:=0) i11 rfl (λv13 i13=>?_);k_few;rename_i v14 H14 S14 i14;rw[m8]at i14;have i14:Is K H14 v14 (N (aN ra rb xs (dD ra rb xs i r g))):=i14;have i1114:=i11.by S14;refine aG (j:=1) i1114 rfl (λv15 i15=>?_);have i15:Is K H14 v15 (bG ra rb (ai ra rb xs (dD ra rb xs i r g))):=i15;o_head TY i15 swL (λH16 S16=>?_);have S816:=S8.trans (S11.trans (S14.trans S16));have e16:=S816 _ _ e4;have t16:ao K H16 us ((es++[(i,r,g)]).map (pL ra rb xs)):=ao.same S816 _ _ t4;have S416:=S4.trans S816;have i1116:=i1114.by S16;have i1416:=i14.by S16;have i1516:=i15.by S16;have wk':=wk.snoc ro;generalize hlead:dD ra rb xs i r g=n at *;cases hwd:dG ra rb (ai ra rb xs n)with
   | none =>
     show fI 2 V.bM _ _ _
     o_head gU (aI.of e16) ?_;o_head aG (j:=1) i1116 rfl (λv17 i17=>?_);k_few;have n2:=Nv hwd hnf;refine zqw i1416 (show Is K H16 v17 (bG ra rb (ai ra rb xs n))from i17) swL hwd (λr' g' t R ht=>?_) (λz H' S=>qe ⟨_,n,wk',n1,hwd,z⟩ H' (S416.trans S)) (λr' g' v18 H18 R S18 i18=>?_)
     . have w:=ok.within n1 sl n2 R ht
       rw[c9];exact(nY (ok.cm w.1 w.2.1) λy hy=>wD _ hy).mono (by decide)
     . k_few
       have e18:=S18 _ _ e16;refine jc e18 (by omega) (λH19 E19 e19=>?_);have K19:=E19.keep e18;have fw:=R.Hf ok.ok (by rw[bR];exact ok.h1) (ok.hp.at ok.ok.a0 ok.ok.b0 n);rw[c9]at fw;have fw:(aj (ai ra rb xs (dD ra rb xs n r' g'))).length<(aj (ai ra rb xs n)).length:=fw;o_head ⟨_,fw,us++[v18],es++[(i,r,g)],.bM,_,_,_,rfl,(S416.trans S18).grow hlr E19,e19,.inl ⟨rfl,n,r',g',wk',.inr ⟨n1,hwd,R⟩,?_,λ_=>sl,?_,rfl⟩⟩
       . rw[vt]
         exact(ao.keep K19 _ _ (pE _ (λe=>B2 _ _ _ _) _) (ao.same S18 _ _ t16)).append (.cons (i18.kn K19 (B2 _ _ _ _)) .nil)
       . rw[wS,vZ]
         omega
   | some wd =>
     show fI 2 (V.str (wG wd)) _ _ _
     o_head gU (aI.of e16) ?_;k_few
     . rename_i z;cases z
     . refine aG (j:=1) i1116 rfl (λv17 i17=>?_)
       o_head aG (j:=1) i17 rfl (λv18 i18=>?_);o_head bX (ds:=[N (aN ra rb xs n),TN (ai ra rb xs n),.str (wG wd)]) (by simp) (.cons i1416 (.cons i18 (.cons (cU.mpr rfl) .nil))) (λv19 H19 S19 i19=>?_);k_few;have e19:=S19 _ _ e16;refine jc e19 (by omega) (λH20 E20 e20=>?_);have K20:=E20.keep e19;o_head ⟨0,by omega,us++[v19],es++[(i,r,g)],_,_,_,_,rfl,(S416.trans S19).grow hlr E20,e20,.inr ⟨n,wd,rfl,⟨wk',by simp,by rw[wS,vZ];omega,n1,hwd,sl⟩,?_,rfl⟩⟩;exact(ao.keep K20 _ _ (pE _ (λe=>B2 _ _ _ _) _) (ao.same S19 _ _ t16)).append (.cons (i19.kn K20 (ZM _ _ _ _ _)) .nil)
 . k_few
   . rename_i z;cases z
   . exact q lr H4 es n w' P hlr S4 (cu.mpr ⟨lr,us,rfl,.of e4,t4⟩)
theorem UX{a b:Rat}{xs:List Rat}{r g r' g':Nat}(R:fP a b xs r g)(S:fP a b xs r' g'):r=r'/\g=g':=by
 have er:r=r':=by
  rcases Vw r r' with z | z | z
  ·have:=S.free r z;rw[R.ends]at this;cases this
  ·exact z
  ·have:=R.free r' z;rw[S.ends]at this;cases this
 subst er;refine⟨rfl,?_⟩;have g1:=R.g1;have g2:=S.g1;have j1:=R.join;have j2:=S.join;rcases Vw g g' with z | z | z
 ·have:=S.one (g-1) (by omega);omega
 ·exact z
 ·have:=R.one (g'-1) (by omega);omega
theorem MA{a b:Rat}{xs:List Rat}{i r g r' g':Nat}(R:ou a b xs i r g)(S:ou a b xs i r' g'):r=r'/\g=g':=by
 rcases R with⟨e,rfl,rfl⟩ | ⟨i1,_,R⟩<;>rcases S with⟨e',rfl,rfl⟩ | ⟨i1',_,S⟩
 ·exact⟨rfl,rfl⟩
 ·omega
 ·omega
 ·exact UX R S
theorem Mg{a b:Rat}{xs:List Rat} : ∀{es es':List (Nat × Nat × Nat)}{i n n':Nat},gM a b xs i es n->gM a b xs i es' n'->1<=n->dG a b (ai a b xs n)≠none->1<=n'->dG a b (ai a b xs n')=none->(∀k,k<=30->cg a b (aQ (ai a b xs n')) (a_ (ai a b xs n')) k=true)->False
 | [],[],i,n,n',h,k,n1,w,_,w',_=>by
  have e:i=n:=h;have e':i=n':=k;subst e;subst e';exact w w'
 | [],f::fs,i,n,n',h,k,n1,w,_,_,_=>by
  have e:i=n:=h;subst e;rcases k.2.1 with⟨z,_,_⟩ | ⟨_,z,_⟩
  ·omega
  ·exact w z
 | e::es,[],i,n,n',h,k,_,_,n1',_,all=>by
  have e':i=n':=k;subst e';rcases h.2.1 with⟨z,_,_⟩ | ⟨_,_,R⟩
  ·omega
  ·have:=R.ends
   rw[all _ R.j4]at this;cases this
 | e::es,f::fs,i,n,n',h,k,n1,w,n1',w',all=>by
  obtain⟨e1,e2⟩:=MA h.2.1 k.2.1;have k2:=k.2.2;rw[<- e1,<- e2]at k2;exact Mg h.2.2 k2 n1 w n1' w' all
theorem Oe{a b:Rat}{xs:List Rat} : ∀{es es':List (Nat × Nat × Nat)}{i n n':Nat},gM a b xs i es n->gM a b xs i es' n'->1<=n->dG a b (ai a b xs n)≠none->1<=n'->dG a b (ai a b xs n')≠none->es=es'/\n=n'
 | [],[],i,n,n',h,k,_,_,_,_=>⟨rfl,(show i=n from h).symm.trans k⟩
 | [],f::fs,i,n,n',h,k,n1,w,_,_=>by
  have e:i=n:=h;subst e;rcases k.2.1 with⟨z,_,_⟩ | ⟨_,z,_⟩
  ·omega
  ·exact absurd z w
 | e::es,[],i,n,n',h,k,_,_,n1',w'=>by
  have e':i=n':=k;subst e';rcases h.2.1 with⟨z,_,_⟩ | ⟨_,z,_⟩
  ·omega
  ·exact absurd z w'
 | e::es,f::fs,i,n,n',h,k,n1,w,n1',w'=>by
  obtain⟨e1,e2⟩:=MA h.2.1 k.2.1;have k2:=k.2.2;rw[<- e1,<- e2]at k2;obtain⟨q1,q2⟩:=Oe h.2.2 k2 n1 w n1' w';refine⟨?_,q2⟩;rw[q1]
  congr 1
  exact V9 (h.1.trans k.1.symm) (V9 e1 e2)
theorem KN{a b:Rat}{xs:List Rat}{es es':List (Nat × Nat × Nat)}{n n':Nat}{w w':String}(P:eS a b xs es n w)(S:eS a b xs es' n' w'):es=es'/\n=n'/\w=w':=by
 have hw:=P.word;have hw':=S.word;obtain⟨e1,e2⟩:=Oe P.walk S.walk P.n1 (by rw[hw];simp) S.n1 (by rw[hw'];simp);subst e2;rw[hw]at hw';exact⟨e1,rfl,wP hw'⟩
theorem J5{a b:Rat}{xs:List Rat}{es:List (Nat × Nat × Nat)}{n:Nat}{w:String}(P:eS a b xs es n w)(F:km a b xs):False:=by
 obtain⟨es',i,h,i1,hw,all⟩:=F;exact Mg P.walk h P.n1 (by rw[P.word];simp) i1 hw all
def b_(w:String)(n:Nat):wz:=.tuple [.str (wG w),.int (n:Int)]
def CZ(K:wb)(a:Ad):Sp:=λvs H Q E=>∃x0,vs=[x0] /\ ∃(ra rb:Rat)(xs:List Rat),Is K H x0 (bG ra rb xs)/\cS ra rb xs /\
 (km ra rb xs->∀H',ah H H'->E (.ref a.cP) none H') /\ ∀es n w v H',eS ra rb xs es n w->ah H H'->Is K H' v (b_ w (aj (ai ra rb xs n)).length)->Q v H'
theorem zyH{K:wb}{a:Ad}{H:Hp}{Q:VK}{E:XK}{ra rb:Rat}{xs:List Rat}{v:V}(h:Is K H v (bG ra rb xs))(ok:cS ra rb xs)(qe:km ra rb xs->∀H',ah H H'->E (.ref a.cP) none H')(q:∀es n w v H',eS ra rb xs es n w->ah H H'->Is K H' v (b_ w (aj (ai ra rb xs n)).length)->Q v H'):CZ K a [v] H Q E:=⟨_,rfl,ra,rb,xs,h,ok,qe,q⟩
theorem eS.cm{a b:Rat}{xs:List Rat}{es:List (Nat × Nat × Nat)}{n:Nat}{w:String}(P:eS a b xs es n w)(ok:cS a b xs):Cm 3500 (aN a b xs n::ai a b xs n):=by
 have hnf:=ok.nf n;have s1:=P.sp.1;have s2:=P.sp.2;exact ok.cm (by omega) (by omega)
theorem Sj(T:Txt K mg a):aO P w K mg base (eI P w) 14 a.Hi a.GY zq (CZ K a):=by
 refine T.rJ.F.oN HR ?_ ?_;wtm_at "b1"
 refine⟨_,(ak (ay 1 HR.nd (d5 dy (nB (R7 T) hr T.FV uG (ae (pv 0) af)) (iD gW az) (λ_ _=>rfl)))
     (av (aF (aW (ae (ar (pv 1)) (ae (bQ (show aY _ (.builtin "len") (dg K)from fg) rfl T.z_len fe (ae (au (Ag T) hr T.rm (ae (aW (ae (ar (pv 0)) (ae (ar (pv 1)) af))) af)) af)) af)))))),?_⟩
 wtm_at "cl";rw[show start Pr [x0]=[some x0,none]from rfl];obtain⟨ra,rb,xs,hw,ok,qe,q⟩:=h;have h6:=ok.h6;o_head Y0 hw ok qe (λl H1 es n wd P hl S1 i1=>?_);have c:=P.cm ok;have bx:∀i,ag 4000 ((ai ra rb xs n).getD i 0):=λi=>((nY c λy hy=>wD _ hy).get i).mono (by decide)
 have hw1:=hw.by S1;o_head yR i1 (λv2 i2=>?_);have i2:Is K H1 v2 (.tuple [N (aN ra rb xs n),TN (ai ra rb xs n),.str (wG wd)]):=i2;o_head aG (j:=2) i2 rfl (λv3 i3=>?_);rw[cU.mp i3];o_head aG (j:=0) hw1 rfl (λv4 i4=>?_);o_head aG (j:=1) i2 rfl (λv5 i5=>?_);o_head bX (ds:=[R ra rb,TN (ai ra rb xs n)]) (by simp) (.cons i4 (.cons i5 .nil)) (λv6 H6 S6 i6=>?_);o_head Aa (show Is K H6 v6 (bG ra rb (ai ra rb xs n))from i6) (by rw[bR];omega) bx (λlf H7 us7 n7 S7 e7 t7=>?_);have hul:=t7.length;rw[wm]at hul;o_head jG (.of e7) ?_;rw[hul];o_head bX (ds:=[.str (wG wd),.int ((aj (ai ra rb xs n)).length:Int)]) (by simp) (.cons (cU.mpr rfl) (.cons (bS.mpr rfl) .nil)) (λv8 H8 S8 i8=>?_);exact q es n wd v8 H8 P (S1.trans (S6.trans (S7.trans S8))) i8
def cF(H:Hp)(p:wg)(k:Int):Prop:=∃a b n:Int,H p=some (.lst [.int a,.int b,.int n])/\0<=n/\n<=k
theorem cF.same{H H':Hp}{p:wg}{k:Int}(s:ah H H')(h:cF H p k):cF H' p k:=by
 obtain⟨x,y,n,e,h1,h2⟩:=h;exact⟨x,y,n,s _ _ e,h1,h2⟩
theorem cF.le{H:Hp}{p:wg}{j k:Int}(h:cF H p j)(e:j<=k):cF H p k:=by
 obtain⟨x,y,n,z,h1,h2⟩:=h;exact⟨x,y,n,z,h1,Int.le_trans h2 e⟩
theorem cF.ne{H:Hp}{p q:wg}{k:Int}(e:H q=none)(h:cF H p k):q≠p:=by
 obtain⟨x,y,n,z,_⟩:=h;exact(hZ z e).symm
def Ia(K:wb):Sp:=λvs H Q _=>∃x0 x1,vs=[x0,x1] /\ ∃(a:wg)(ns:List Int)(k:Int),x0=.ref a/\x1=.int k/\jy K H a (ns.map V.int)/\ns.length<=63/\0<=k/\k<=1000 /\
 ∀p H',H p=none->ah H H'->cF H' p 0->Q (.ref p) H'
theorem zsj{K:wb}{H:Hp}{Q:VK}{E:XK}{a:wg}{ns:List Int}{k:Int}(h:jy K H a (ns.map V.int))(hl:ns.length<=63)(h0:0<=k)(h1:k<=1000)
  (q:∀p H',H p=none->ah H H'->cF H' p 0->Q (.ref p) H'):Ia K [.ref a,.int k] H Q E:=⟨_,_,rfl,a,ns,k,rfl,rfl,h,hl,h0,h1,q⟩
local macro_rules | `(tactic| wtm_at "pen")=>`(tactic| first
 | assumption
 | (apply cF.same;(focus assumption);wtm_at "pen"))
local macro_rules | `(tactic| wtm_at "ne")=>`(tactic| ((with_reducible apply cF.ne); (focus assumption); wtm_at "pen"))
local macro_rules | `(tactic| wtm_at "penle")=>`(tactic| exact cF.le (by wtm_at "pen") (by omega))
theorem zr9(T:Txt K mg a):aO P w K mg base aT 1 a.G2 a.FK rT (Ia K):=by
 refine T.F9.F.ok sJ ?_ ?_;wtm_at "b2"
 refine⟨_,(ak (ay 2 sJ.nd (aC cC (aC cC (aC cn (aC cn az (pv 1)) (pv 1)) (aC cn az (pv 1))) az))
     (ak (bZ (cc l_ (pv 1) (bQ (show aY _ (.builtin "len") (dg K)from fg) rfl T.z_len fe (ae (pv 0) af)) (bA _)) (av (ay 2 sJ.nd (d5 dy (pv 0) (pv 1) (λ_ _=>rfl)))) (av (bZ (cc nF (bQ (show aY _ (.builtin "len") (dg K)from fg) rfl T.z_len fe (ae (pv 0) af)) az (bA _)) (av (ay 2 sJ.nd (aC cC (d5 dy (pv 0) (aC fW (pv 1) (bQ (show aY _ (.builtin "len") (dg K)from fg) rfl T.z_len fe (ae (pv 0) af))) (λ_ _=>rfl)) (aC cn az (pv 1))))) b9)))
     (ak (bZ (cc NH (pv 2) (MW (v:=1000000000000000000) ⟨by decide,by decide,by decide⟩ (by decide +kernel)) (bA _)) (av (aF (cV (ae (aC m9 (pv 2) (MW (v:=1000000000000000000) ⟨by decide,by decide,by decide⟩ (by decide +kernel))) (ae (aC fW (pv 2) az) (ae az af)))))) b9)
     (av (aF (cV (ae az (ae (aC cC (aC fW (pv 2) az) (aC cn az (pv 1))) (ae az af))))))))),?_⟩
 wtm_at "cl";rw[show start MK [x0,x1]=[some x0,some x1,none]from rfl];obtain⟨a',ns,k,rfl,rfl,hs,hl,h0,h1,q⟩:=h;have fin:∀(x y:Int),u3 K [.int x,.int y,.int 0] H Q:=λx y=>d9 (by show 3<=1000;decide) λp H' hp s e=>q p H' hp s ⟨x,y,0,e,by decide,by decide⟩
 o_head jG hs.sq ?_;k_few
 . refine LZ hs h0 (by assumption) (λz=>?_)
   k_few
   all_goals exact fin _ _
 . refine jG hs.sq ?_
   k_few
   . refine jG hs.sq ?_
     o_head LZ hs (qZ _ (by omega)) (qH _ (by omega)) (λz=>?_);k_few
     all_goals exact fin _ _
   all_goals exact fin _ _
def Ke(K:wb):Sp:=λvs H Q _=>∃x0 x1,vs=[x0,x1] /\ ∃(p:wg)(k m:Int),x0=.ref p/\x1=.int m/\cF H p k/\k<=1000000/\0<m/\Bd 8999 m /\
 ∀(r:Int)(H':Hp),0<=r->r<m->Exc p H H'->br H H'->cF H' p (k+1)->Q (.int r) H'
theorem zqg{K:wb}{H:Hp}{Q:VK}{E:XK}{p:wg}{k m:Int}(h:cF H p k)(hk:k<=1000000)(hm:0<m)(hb:Bd 8999 m)
  (q:∀(r:Int)(H':Hp),0<=r->r<m->Exc p H H'->br H H'->cF H' p (k+1)->Q (.int r) H'):Ke K [.ref p,.int m] H Q E:=⟨_,_,rfl,p,k,m,rfl,rfl,h,hk,hm,hb,q⟩
local macro_rules | `(tactic| wtm_at "gs")=>`(tactic| ((with_reducible apply zqg); (focus wtm_at "pen"); (focus omega); (focus omega); (focus wtm_at "bd128"); intro _ _ _ _ _ _ _))
theorem kG(T:Txt K mg a):aO P w K mg base aT 1 a.Gr a.Fz uU (Ke K):=by
 refine T.jq.F.ok tm ?_ ?_;wtm_at "b2"
 refine⟨_,(ak (pF (aC cC (ar (pv 0)) az) (uE (pv 0) az ym))
     (ak (bZ (cc nF (ar (pv 0)) az (bA _)) (ak (ay 2 tm.nd (aC fW (ar (pv 0)) (pv 1)))
     (ak (pF (aC fN (ar (pv 0)) (pv 1)) (uE (pv 0) az ym))
     (av (aF (pv 2))))) b9)
     (ak (ay 3 tm.nd (aC fW (aC cC (aC cC (aC cn (ar (pv 0)) az) (aC cn (aC cn az (ar (pv 0))) (ar (pv 0)))) az) az))
     (ak (ay 3 tm.nd (aC fW (aC cn (pv 3) (aC cC (aC fW (pv 3) az) (ar (pv 0)))) az))
     (av (aF (aC fW (aC fN (aC fW (aC cn (pv 3) (aC cC (aC fW (pv 3) az) az)) az) az) (pv 1)))))))),?_⟩
 wtm_at "cl";rw[show start J_ [x0,x1]=[some x0,some x1,none,none]from rfl];obtain⟨p,k,m,rfl,rfl,⟨x,y,n,hp,hn0,hn1⟩,hk,hm,hbm,q⟩:=h;k_few
 all_goals
   exact q _ _ (qZ _ (by omega)) (qH _ hm) (by wtm_at "exc") (Exc.keep (p:=p) (by wtm_at "exc") hp) ⟨_,_,_,by assumption,by omega,by omega⟩
def Dx(K:wb):Sp:=λvs H Q _=>∃x0 x1,vs=[x0,x1] /\ ∃(t b:Int),x0=.int t/\x1=.int b/\b≠0/\Bd 8999 b /\ ∀v H',ah H H'->Is K H' v (N (wx t b))->Q v H'
theorem pO{K:wb}{H:Hp}{Q:VK}{E:XK}{t b:Int}(hb:b≠0)(hB:Bd 8999 b)(q:∀v H',ah H H'->Is K H' v (N (wx t b))->Q v H'):Dx K [.int t,.int b] H Q E:=⟨_,_,rfl,t,b,rfl,rfl,hb,hB,q⟩
theorem YZ{K:wb}{H:Hp}{Q:VK}{E:XK}{t b:Int}(hb:b≠0)(h1 : -100000000000000000000000000000000000000<=t)(h2:t<=100000000000000000000000000000000000000)(h3 : -100000000000000000000000000000000000000<=b)(h4:b<=100000000000000000000000000000000000000)
  (q:∀v H' (x:Rat),ah H H'->Is K H' v (N x)->x=wx t b->ag 128 x->Q v H'):Dx K [.int t,.int b] H Q E :=
 pO hb ((Bd.lY h3 h4).mono (by decide)) λv H' s h=>q v H' _ s h rfl (ag.divInt hb (Bd.lY h1 h2) (Bd.lY h3 h4))
local macro_rules | `(tactic| wtm_at "gs")=>`(tactic| ((with_reducible apply YZ); (focus omega); (focus omega); (focus omega); (focus omega); (focus omega); intro _ _ _ _ _ _ _))
theorem kh(T:Txt K mg a):aO P w K mg base aT 1 a.GS a.FP tM (Dx K):=by
 refine T.jr.F.ok nZ ?_ ?_;wtm_at "b2"
 refine⟨_,(ak (ay 2 nZ.nd (bQ mG rfl T.z_abs mS (ae (pv 0) af)))
     (ak (ay 3 nZ.nd (bQ mG rfl T.z_abs mS (ae (pv 1) af)))
     (ak (lD vG (cc nF (pv 3) az (bA _)) (av (Yb (i:=2) (j:=3) rfl nZ.nd rfl rfl (by decide) rfl rfl (ae (pv 3) (ae (aC fW (pv 2) (pv 3)) af)) rfl)))
     (ak (bZ (cc l_ (pv 1) az (bA _)) (av (ay 2 nZ.nd (aC m9 az (pv 2)))) b9)
     (av (aF (aW (ae (aC fN (pv 0) (pv 2)) (ae (aC fN (pv 1) (pv 2)) af))))))))),?_⟩
 wtm_at "cl";rw[show start IQ [x0,x1]=[some x0,some x1,none,none]from rfl];obtain⟨t,b,rfl,rfl,hb,hB,q⟩:=h;o_head Mj (λσ H'=>∃(x y:Int),σ = [some (.int t),some (.int b),some (.int x),some (.int y)]/\0<=x/\0<=y/\vk x y=vk t b/\H'=H) (λσ=>(Mu σ 3).toNat) ⟨_,_,rfl,by split<;>omega,by split<;>omega,?_,rfl⟩ ?_
 . have e1:vk (if t<0 then -t else t) (if b<0 then -b else b)=vk t b:=by
     split<;>split<;>simp
   exact e1
 rintro σ H' ⟨x,y,rfl,hx,hy,hg,rfl⟩
 have hgb:Bd 8999 ((vk t b:Nat):Int):=hB.le (by
   have:vk t b ∣ b.natAbs:=Int.gcd_dvd_natAbs_right t b;have:=ug (by omega) this
   simpa using this)
 k_few
 . refine Mp ?_
   k_few;have h1:=qZ x (show y≠0 by omega);have h2:=qH x (show 0<y by omega);refine⟨?_,_,_,rfl,hy,h1,?_,rfl⟩
   . show(x % y).toNat<y.toNat
     omega
   . rw[<- hg];exact Ng (by omega) hx
 . rename_i h0 hneg
   have e0:y=0:=by omega
   subst e0
   have e:x=((vk t b:Nat):Int):=by
     rw[<- hg,Qo];omega
   have e1:0-x=dv t b:=by unfold dv;rw[if_pos hneg,<- e];omega
   rw[e1];have hd:kc t (dv t b):=⟨Cs hb,by unfold dv;rw[if_pos hneg];exact hgb.neg⟩;refine BX hd ?_;k_few;exact fh (CP hb) (Jc hb) q
 . rename_i h0 hneg
   have e0:y=0:=by omega
   subst e0
   have e:x=((vk t b:Nat):Int):=by
     rw[<- hg,Qo];omega
   have e1:x=dv t b:=by unfold dv;rw[if_neg hneg,<- e]
   rw[e1];have hd:kc t (dv t b):=⟨Cs hb,by unfold dv;rw[if_neg hneg];exact hgb⟩;refine BX hd ?_;k_few;exact fh (CP hb) (Jc hb) q
def KZ(K:wb):Sp:=λvs H Q _=>∃x0 x1,vs=[x0,x1] /\ ∃(x:Rat)(t u:Int)(m n:Nat),Is K H x0 (N x)/\Is K H x1 (.tuple [.int t,.int u])/\0<u/\ag m x/\Bd n t/\Bd n u/\m+n<=8990 /\ ∀v H',ah H H'->Is K H' v (N (x+wx t u))->Q v H'
theorem MT{K:wb}{H:Hp}{Q:VK}{E:XK}{x:Rat}{t u:Int}{m n:Nat}{v w:V}(h1:Is K H v (N x))(h2:Is K H w (.tuple [.int t,.int u]))(hu:0<u)(b1:ag m x)(b2:Bd n t)(b3:Bd n u)(hm:m+n<=8990)(q:∀v H',ah H H'->Is K H' v (N (x+wx t u))->Q v H'):KZ K [v,w] H Q E:=⟨_,_,rfl,x,t,u,m,n,h1,h2,hu,b1,b2,b3,hm,q⟩
theorem Sx{K:wb}{H:Hp}{Q:VK}{v:V}{t u:Int}(h:Is K H v (.tuple [.int t,.int u]))(q:Q (.int t) H):cK K v (.int 0) H Q:=aG (j:=0) h rfl (λx i=>by rw[bS.mp i];exact q)
theorem Nh{K:wb}{H:Hp}{Q:VK}{v:V}{t u:Int}(h:Is K H v (.tuple [.int t,.int u]))(q:Q (.int u) H):cK K v (.int 1) H Q:=aG (j:=1) h rfl (λx i=>by rw[bS.mp i];exact q)
theorem YO(x:Rat){t u:Int}(hu:0<u):wx (x.num*u+t*(x.den:Int)) ((x.den:Int)*u)=x+wx t u:=by
 have hp:=vJ (den_pos x) hu;refine fb (by omega) ?_;have k1:=j5 x;have k2:=cE t (show u≠0 by omega);have e1:((x.num*u+t*(x.den:Int):Int):Rat)=(x.num:Rat)*(u:Rat)+(t:Rat)*((x.den:Int):Rat):=by push_cast;rfl
 have e2:(((x.den:Int)*u:Int):Rat)=((x.den:Int):Rat)*(u:Rat):=by push_cast;rfl
 rw[e1,e2,<- k1,<- k2]
 grind
theorem Oq(T:Txt K mg a):aO P w K mg base aT 2 a.Gx a.Fw yk (KZ K):=by
 refine T.zP.F.ok zqF ?_ ?_;wtm_at "b2";refine⟨_,(av (aF (au (kh T) hr T.jr (ae (aC cC (aC cn (ar (pv 0)) (ar (pv 1))) (aC cn (ar (pv 1)) (ar (pv 0)))) (ae (aC cn (ar (pv 0)) (ar (pv 1))) af))))),?_⟩;wtm_at "cl";rw[show start CN [x0,x1]=[some x0,some x1]from rfl];obtain⟨x,t,u,m,n,hx,hy,hu,⟨bx1,bx2⟩,by1,by2,hm,q⟩:=h;have c1:Bd 8990 (x.num*u):=(bx1.mul by2).mono hm;have c2:Bd 8990 (t*(x.den:Int)):=(by1.mul bx2).mono (by omega);have c3:Bd 8990 ((x.den:Int)*u):=(bx2.mul by2).mono hm;have d1:=bx1.mono (show m<=8990 by omega);have d2:=bx2.mono (show m<=8990 by omega);have d3:=by1.mono (show n<=8990 by omega);have d4:=by2.mono (show n<=8990 by omega);have hp:=vJ (den_pos x) hu;o_head Nh hy ?_;o_head Sx hy ?_;o_head Nh hy ?_;o_head pO (by omega) (c3.mono (by decide)) (λv H' s hv=>?_);rw[YO x hu]at hv;exact q v H' s hv
def Dj(K:wb)(a:Ad):wg->wf->Sp:=λex C vs H Q _=>∃x0,vs=[x0]/\x0=.ref ex /\ ∃w,Iq a C w /\ ∀H',ah H H'->Q (.str w) H'
theorem YQ{K:wb}{a:Ad}{H:Hp}{Q:VK}{E:XK}{ex:wg}{C:wf}{w:Str}(h:Iq a C w)(q:∀H',ah H H'->Q (.str w) H'):Dj K a ex C [.ref ex] H Q E:=⟨_,rfl,rfl,w,h,q⟩
theorem Tv(T:Txt K mg a):Az P w K mg base 1 a.GL a.Fn yU (Dj K a):=by
 refine T.rg.F.Za kX (λex C vs H Q E h=>by obtain⟨_,rfl,_⟩:=h;rfl) (λcdv A outer s H vs Q E ex C oe hr hd h=>?_);obtain⟨x0,rfl,h⟩:=h;have hu:=hr.units
 refine⟨_,(ak (ay 1 kX.nd (cV (ae (aW (ae cz (ae (bQ (iW hd) rfl T.z_isinstance fB (ae (pv 0) (ae (bL (v:=.ref a.rh) rfl T.Rn rfl) af))) af))) (ae (aW (ae cz (ae (bQ (iW hd) rfl T.z_isinstance fB (ae (pv 0) (ae (bL (v:=.ref a.rq) rfl T.RA rfl) af))) af))) af))))
     (ak (ay 1 kX.nd (aC cC (pv 1) (cV (ae (aW (ae cz (ae (bQ (iW hd) rfl T.z_isinstance fB (ae (pv 0) (ae (bL (v:=.ref a.rk) rfl T.Ru rfl) af))) af))) (ae (aW (ae cz (ae (bQ (iW hd) rfl T.z_isinstance fB (ae (pv 0) (ae (bL (v:=.ref a.dQ) rfl T.F6 rfl) af))) af))) af)))))
     (ak (ay 1 kX.nd (aC cC (pv 1) (cV (ae (aW (ae cz (ae (bQ (iW hd) rfl T.z_isinstance fB (ae (pv 0) (ae (bL (v:=.ref a.cP) rfl T.F7 rfl) af))) af))) (ae (aW (ae cz (ae (bQ (iW hd) rfl T.z_isinstance fB (ae (pv 0) (ae (bL (v:=.ref a.rE) rfl T.RE rfl) af))) af))) af)))))
     (ak (ay 1 kX.nd (aC cC (pv 1) (cV (ae (aW (ae cz (ae (bQ (iW hd) rfl T.z_isinstance fB (ae (pv 0) (ae (bL (v:=.ref a.rp) rfl T.RB rfl) af))) af))) (ae (aW (ae cz (ae (bQ (iW hd) rfl T.z_isinstance fB (ae (pv 0) (ae (bL (v:=.ref a.rD) rfl T.RG rfl) af))) af))) af)))))
     (ak (ay 1 kX.nd (aC cC (pv 1) (cV (ae (aW (ae cz (ae (bQ (iW hd) rfl T.z_isinstance fB (ae (pv 0) (ae (bL (v:=.ref a.rA) rfl T.RC rfl) af))) af))) af))))
     (ak (zrp hd (i:=2) kX.nd rfl (Or.inl rfl) (cq.by (N':=["_law_word","_law_one"]) (src:=[none,none]) rfl (show cH _ (aA sD).names CY ["_law_word","_law_one"] [none,none]=true from by decide +kernel)) (zwV (pv 1)) (λ_ _ _ _ _=>by exact(zwx (n:=2) hd (eH (bK (i:=0) (show(["_law_word","_law_one"]:List Str).Nodup from by decide) rfl (Or.inl rfl)) (eH (bK (i:=1) (show(["_law_word","_law_one"]:List Str).Nodup from by decide) rfl (Or.inl rfl)) jK)))) (λ_ _ _ _ _=>by exact(pH (cR (pv 1)))) (λ_ _ _ _ _=>by exact(pv 0)))
     (ak (bZ (PW.pt (kR (cc (show aJ _ (wT .NotEq) (ee K)from gJ hu) (bQ (show aY _ (.builtin "len") (dg K)from fg) rfl T.z_len fe (ae (pv 2) af)) az (bA _)) (lE (dS (cR (bQ (iW hd) rfl T.z_isinstance fB (ae (pv 0) (ae (k9 (v:=.ty "ValueError") rfl T.z_ValueError znE rfl) af)))))))) (av (aF cz)) b9)
     (av (aF (ar (pv 2))))))))))),?_⟩
 wtm_at "cl";rw[show start CY [x0]=[some x0,none,none]from rfl];obtain⟨rfl,w,hw,q⟩:=h;rcases hw with⟨rfl,rfl⟩ | ⟨rfl,rfl⟩
 all_goals
   wtm_at "ga";refine UJ (by assumption) (by repeat' (first | exact fD.nil | with_reducible apply fD.app | with_reducible apply fD.cons | (apply ZZ;(focus assumption);(focus wtm_at "same")))) (by decide) (λD H1 S1 e1=>?_);simp only[je,QK,qp,WG,List.filter_nil,wZ,qy,vT,if_false,if_true]at e1;o_head jG (aI.of e1) ?_;rw[show((qj [V.str _]:Nat):Int)=1 from rfl];k_few;exact q _ (by wtm_at "same")
theorem Y5{K:wb}{H:Hp}{us:List V}{u:V}{xs:List Rat}{x:Rat}(h:ao K H us (xs.map N))(k:Is K H u (N x)):ao K H (us++[u]) ((xs++[x]).map N):=by
 rw[vt];exact h.append (.cons k .nil)
theorem yQ:∀{ts:List Int}{ys:List V},ys.length=ts.length->(∀(j:Nat)(y:V),ys[j]? = some y->y=V.int (ts.getD j 0))->ys=ts.map V.int
 | [],ys,hl,_=>WD hl
 | t::ts,[],hl,_=>by cases hl
 | t::ts,y::ys,hl,h=>by
  rw[wZ,<- yQ (by simpa using hl) λj y e=>h (j+1) y e,h 0 y rfl]
  rfl
theorem yi{ts:List Int}{i:Nat}{x:V}(h:(ts.map V.int)[i]? = some x):i<ts.length/\x=.int (ts.getD i 0):=by
 have hi:i<ts.length:=by
  rcases wB i ts.length with z | z
  ·exact z
  ·rw[wF (by simpa using z)]at h;cases h
 refine⟨hi,?_⟩;rw[wu,wc hi]at h;rw[wa,wc hi];exact(wP h).symm
theorem Bl{f:Int->Int}{ts:List Int}{i:Nat}(h:i<ts.length):(ts.map f).getD i 0=f (ts.getD i 0):=by
 rw[wa,wa,wu,wc h]
 rfl
theorem Bn{ts:List Int}{i:Nat}(h:i<ts.length):ts.getD i 0∈ts:=by
 rw[wa,wc h];exact Wc h
theorem Yr{B:Int}{ts:List Int}{i:Nat}(h:i<ts.length):(dw B ts).getD i 0=wx (ts.getD i 0) B:=by
 unfold dw;rw[wa,wa,wu,wc h]
 rfl
theorem zuR{α β : Type}{f : α -> β}{xs:List α}{i:Nat}{d : α}{e : β}(h:i<xs.length):(xs.map f).getD i e=f (xs.getD i d):=by
 rw[wa,wa,wu,wc h]
 rfl
theorem O5(ts:List Int):ts.map V.int++[V.int 0]=(ts++[0]).map V.int:=by simp
theorem Sf{B t:Int}(hB:0<B):wx (B-t) B=1-wx t B:=by
 refine fb (by omega) ?_;have q2:=cE t (show B≠0 by omega);have q3:((B-t:Int):Rat)=(B:Rat)-(t:Rat):=by push_cast;rfl
 rw[q3,<- q2]
 grind
def nq(a b:Rat)(ns:List Int)(xs:List Rat)(k:Nat):List Rat:=(wt k).map λj=>1-(aM a b ns xs j).getD j 0
theorem zpR(a b:Rat)(ns:List Int)(xs:List Rat)(k:Nat):nq a b ns xs (k+1)=nq a b ns xs k++[1-(aM a b ns xs k).getD k 0]:=by
 unfold nq;rw[qY,vt]
 rfl
structure OE(K:wb)(H:Hp)(a b:Rat)(ns:List Int)(ys:List Rat)(lw lr:wg)(k:Nat)(B:Int)(ts:List Int)(ln:wg)(H':Hp):Prop where
 pos:0<B
 bB:Bd (2700+2*k+21*upTo ns k) B
 bt:∀t∈ts,Bd (2700+2*k+21*upTo ns k) t
 eq:dw B ts=turned a b ns ys k
 same:ah H H'
 now:H' ln=some (.lst (ts.map V.int))
 nw:ln≠lw
 nr:ln≠lr
 w:∃ws,H' lw=some (.lst ws)/\ws.length=k/\ao K H' ws ((nq a b ns ys k).map N)
 r:∃rs,H' lr=some (.lst rs)/\rs.length=k /\ ∀j v,rs[j]? = some v->∃lj us,v=.ref lj/\lj≠lw/\lj≠lr/\H' lj=some (.lst us)/\ao K H' us ((turned a b ns ys (j+1)).map N)
def mD(a b:Rat)(ns:List Int)(xs:List Rat):List (List Rat):=(wt ns.length).map λj=>turned a b ns xs (j+1)
theorem oR(a b:Rat)(ns:List Int)(xs:List Rat):(mD a b ns xs).length=ns.length:=by simp[mD]
theorem A6{a b:Rat}{ns:List Int}{xs:List Rat}{k:Nat}(h:k<ns.length):(mD a b ns xs).getD k []=turned a b ns xs (k+1):=by
 unfold mD;rw[wa,wu,vI h]
 rfl
def Mb(K:wb):Sp:=λvs H Q _=>∃x0 x1 x2,vs=[x0,x1,x2] /\ ∃(a b:Rat)(ns:List Int)(xs:List Rat),Is K H x0 (R a b)/\Is K H x1 (TZ ns)/\Is K H x2 (TN xs)/\ag 10 a/\ag 10 b/\cA ns/\ns.length=xs.length+1/\(∀i,ag 330 (xs.getD i 0)) /\
 ∀v H',ah H H'->Is K H' v (.tuple [LN (nq a b ns (xs++[0]) ns.length),LL (mD a b ns (xs++[0]))])->Q v H'
theorem Mz{K:wb}{H:Hp}{Q:VK}{E:XK}{a b:Rat}{ns:List Int}{xs:List Rat}{v w u:V}(h1:Is K H v (R a b))(h2:Is K H w (TZ ns))(h3:Is K H u (TN xs))(b1:ag 10 a)(b2:ag 10 b)(ok:cA ns)(hl:ns.length=xs.length+1)(hb:∀i,ag 330 (xs.getD i 0))
  (q:∀v H',ah H H'->Is K H' v (.tuple [LN (nq a b ns (xs++[0]) ns.length),LL (mD a b ns (xs++[0]))])->Q v H'):Mb K [v,w,u] H Q E:=⟨_,_,_,rfl,a,b,ns,xs,h1,h2,h3,b1,b2,ok,hl,hb,q⟩
theorem Iy(T:Txt K mg a):aO P w K mg base aT 2 a.F8 a.EY u5 (Mb K):=by
 refine T.zJ.F.ok eT ?_ ?_;wtm_at "b3"
 refine⟨_,(ak (pF (pv 0) (ku (n:=2) rfl (eH (ku (n:=2) rfl (eH (bK (i:=3) eT.nd rfl (Or.inr rfl)) (eH (bK (i:=4) eT.nd rfl (Or.inr rfl)) jK))) (eH (ku (n:=2) rfl (eH (bK (i:=5) eT.nd rfl (Or.inr rfl)) (eH (bK (i:=6) eT.nd rfl (Or.inr rfl)) jK))) jK))))
     (ak (ay 7 eT.nd az)
     (ak (gF vG rfl (gX (pv 2)) (bK (i:=8) eT.nd rfl (Or.inl rfl)) (av (ay 7 eT.nd (aC cn (pv 7) (ar (pv 8))))))
     (ak (ay 9 eT.nd (aC cC (dZ rfl (cq.by (N':=["_law_one","_law_bottom"]) (src:=[none,some 7]) rfl (show cH _ (aA ly).names mM ["_law_one","_law_bottom"] [none,some 7]=true from by decide +kernel)) (gX (pv 2)) (λ_ _ _ _ _=>(bK (i:=0) (show(["_law_one","_law_bottom"]:List Str).Nodup from by decide) rfl (Or.inl rfl))) (λ_ _ _ _ _=>dE) (λ_ _ _ _ _=>(aC cn (yK (K:=K) dy (pv 0)) (aC fN (pv 1) (yK (K:=K) dy (pv 0)))))) (cV (ae az af))))
     (ak (ay 10 eT.nd (cV af))
     (ak (ay 11 eT.nd (cV af))
     (ak (gF vG rfl (gX (pv 1)) (bK (i:=12) eT.nd rfl (Or.inl rfl)) (ak (ay 13 eT.nd (aC m9 (pv 7) (ar (pv 9))))
     (ak (jL (iO vP vV vW jn (pv 10) (ae (au (kh T) hr T.jr (ae (pv 13) (ae (pv 7) af))) af)))
     (ak (mO (i:=9) eT.nd rfl (Or.inl rfl) rfl (cq.by (N':=["_law_one","_law_rise"]) (src:=[none,some 13]) rfl (show cH _ (aA ly).names mM ["_law_one","_law_rise"] [none,some 13]=true from by decide +kernel)) (gK (jC jH (pv 9) (jX az) jx)) (λ_ _ _ _ _=>(bK (i:=0) (show(["_law_one","_law_rise"]:List Str).Nodup from by decide) rfl (Or.inl rfl))) (λ_ _ _ _ _=>dE) (λ_ _ _ _ _=>(aC cC (pv 0) (pv 1))))
     (ak (gF vG rfl (kW rfl T.z_range (ae (pv 12) af)) (bK (i:=14) eT.nd rfl (Or.inl rfl)) (ak (mO (i:=9) eT.nd rfl (Or.inl rfl) rfl (cq.by (N':=["_law_one","_law_bottom","_law_a","_law_under_b","_law_b","_law_under_a"]) (src:=[none,some 7,some 3,some 6,some 5,some 4]) rfl (show cH _ (aA ly).names mM ["_law_one","_law_bottom","_law_a","_law_under_b","_law_b","_law_under_a"] [none,some 7,some 3,some 6,some 5,some 4]=true from by decide +kernel)) (gK (pv 9)) (λ_ _ _ _ _=>(bK (i:=0) (show(["_law_one","_law_bottom","_law_a","_law_under_b","_law_b","_law_under_a"]:List Str).Nodup from by decide) rfl (Or.inl rfl))) (λ_ _ _ _ _=>dE) (λ_ _ _ _ _=>(aC cC (aC cn (aC cn (pv 2) (pv 3)) (pv 0)) (aC cn (aC cn (pv 4) (pv 5)) (pv 1)))))
     (av (ay 7 eT.nd (aC cn (aC cn (pv 7) (pv 4)) (pv 6))))))
     (ak (jL (iO vP vV vW jn (pv 9) (ae az af)))
     (av (jL (iO vP vV vW jn (pv 11) (ae (dZ rfl (cq.by (N':=["_law_one","_law_bottom"]) (src:=[none,some 7]) rfl (show cH _ (aA ly).names mM ["_law_one","_law_bottom"] [none,some 7]=true from by decide +kernel)) (gK (pv 9)) (λ_ _ _ _ _=>(bK (i:=0) (show(["_law_one","_law_bottom"]:List Str).Nodup from by decide) rfl (Or.inl rfl))) (λ_ _ _ _ _=>dE) (λ_ _ _ _ _=>(au (kh (K:=K) (mg:=mg) (a:=a) T) hr T.jr (ae (pv 0) (ae (pv 1) af))))) af))))))))))
     (av (aF (aW (ae (pv 10) (ae (pv 11) af)))))))))))),?_⟩
 wtm_at "cl";rw[show start mM [x0,x1,x2]=[some x0,some x1,some x2,none,none,none,none,none,none,none,none,none,none,none,none]from rfl];obtain⟨a',b',ns,xs,hr',hn',hp',ba,bb,ok,hlen,hbx,q⟩:=h;have hfew:=ok.cf;have hsome:=ok.some;have bD:∀k,k<=xs.length->Bd 2320 (j3 xs k):=λk hk=>(B7 hbx k).mono (by omega)
 have ba1:=ba.t;have ba2:=ba.b;have bb1:=bb.t;have bb2:=bb.b;k_few;obtain⟨ap,vs,rfl,hsp,tp⟩:=bV.mp hp';have hvl:=tp.length;rw[wm]at hvl;refine CA hsp (λk σ H'=>∃o,σ = [some x0,some x1,some (.ref ap),some (.int a'.num),some (.int (a'.den:Int)),some (.int b'.num),some (.int (b'.den:Int)),some (.int (j3 xs k)),o,none,none,none,none,none,none]/\H'=H) ⟨_,rfl,rfl⟩ (by rintro i σ H' _ ⟨o,rfl,rfl⟩;exact hsp) ?_ ?_
 . rintro k x σ H' hx ⟨o,rfl,rfl⟩
   obtain⟨hk,ix⟩:=dr tp hx;have bk:=bD k (by omega);have bxk:=hbx k;k_few;exact⟨_,rfl,rfl⟩
 . rintro σ H' ⟨o,rfl,hH⟩
   have hH:=hH.symm;subst hH;rw[hvl];have hB0:=Bm xs xs.length;have bB:=bD xs.length (wo _);have hdv:=λj (hj:j<xs.length)=>Ds xs xs.length j hj
   generalize j3 xs xs.length=B at hB0 bB hdv ⊢;o_head iN hsp (o0:=none) (tl:=[some (.int B)]) rfl (λi v _=>v=.int ((xs.getD i 0).num*B.fdiv ((xs.getD i 0).den:Int))) ?_ ?_
   . rintro D i x ys o H1 hx inv
     obtain⟨hi,ix⟩:=dr tp hx;have ix1:=ix.by inv.same;have bxk:=hbx i;have bx2:=bxk.b;have hf:kc B ((xs.getD i 0).den:Int):=⟨fu _,bx2.mono (by decide)⟩;have bq:=AZ (den_pos (xs.getD i 0)) hB0 bB;k_few;exact dW inv (by omega) (λ_ _ _ _ _ h=>h) ⟨_,rfl⟩ (ah.refl _) rfl
   . rintro D ys H2 hn2 S2 e2 hl2 hr2
     have hys:ys=(xs.map λx=>x.num*B.fdiv (x.den:Int)).map V.int:=yQ (by rw[wm];omega) (λj y hy=>by
       have hj:j<xs.length:=by
         rcases wB j ys.length with z | z
         . omega
         . rw[wF z]at hy;cases hy
       rw[hr2 j y hy,zuR (d:=0) hj])
     subst hys
     have ht0:dw B (xs.map λx=>x.num*B.fdiv (x.den:Int))=xs:=by
       unfold dw;rw[WF];refine WN (by simp) λj h1 h2=>?_
       have hd:=hdv j h2;rw[wa,wc h2]at hd;rw[W7];exact JY hB0 hd
     have bt0:∀t∈(xs.map λx=>x.num*B.fdiv (x.den:Int)),Bd 2700 t:=λt ht=>by
       obtain⟨x,hx,rfl⟩:=wY.mp ht;obtain⟨j,hj,rfl⟩:=vc hx;have hb:=hbx j;rw[wa,wc hj]at hb;exact(hb.t.mul (AZ (den_pos _) hB0 bB)).mono (by decide)
     have hts:(xs.map λx=>x.num*B.fdiv (x.den:Int)).length=xs.length:=wm ..;generalize (xs.map λx=>x.num*B.fdiv (x.den:Int))=ts at e2 ht0 bt0 hts;o_head d9 (by simp) (λl3 H3 hl3 S3 e3=>?_);refine mj (S3 _ _ e2) e3 (Vh (jB (by simp;omega))) (λln H4 hln S4 e4=>?_);rw[O5]at e4;o_head d9 (by simp) (λlw H5 hlw S5 e5=>?_);o_head d9 (by simp) (λlr H6 hlr S6 e6=>?_);have T6:ah H H6:=S2.trans (S3.trans (S4.trans (S5.trans S6)));have hDw:=gP (S2.trans (S3.trans S4)) hlw;have hDr:=gP (S2.trans (S3.trans (S4.trans S5))) hlr;have newr:lw≠lr:=λz=>by subst z;rw[e5]at hlr;cases hlr
     have nw0:ln≠lw:=λz=>by subst z;rw[e4]at hlw;cases hlw
     have nr0:ln≠lr:=λz=>by subst z;rw[S5 _ _ e4]at hlr;cases hlr
     have bz:Bd 2700 (0:Int):=(Bd.lY (by decide) (by decide)).mono (by decide)
     have i0:OE K H a' b' ns (xs++[0]) lw lr 0 B (ts++[0]) ln H6:={
       pos:=hB0
       bB:=bB.mono (by omega)
       bt:=λt ht=>by
         rcases vX.mp ht with h | h
         . exact(bt0 t h).mono (by omega)
         . rw[wX.mp h];exact bz.mono (by omega)
       eq:=by rw[HM,ht0];rfl
       same:=T6
       now:=S6 _ _ (S5 _ _ e4)
       nw:=nw0
       nr:=nr0
       w:=⟨[],S6 _ _ e5,rfl,.nil⟩
       r:=⟨[],e6,rfl,λj v h=>by simp at h⟩}
     obtain⟨an,rfl,hsn⟩:=k_.mp hn';clear e2 e3 e4 e5 e6 S2 S3 S4 S5 S6 hl3 hln hlw hlr hn2 hr2 hl2 bt0 ht0 T6;k_few
     refine CA (i0.same.g_ hsn) (λk σ H'=>∃B ts ln o8 o12 o13 o14,σ = [some x0,some (.ref an),some (.ref ap),some (.int a'.num),some (.int (a'.den:Int)),some (.int b'.num),some (.int (b'.den:Int)),some (.int B),o8,some (.ref ln),some (.ref lw),some (.ref lr),o12,o13,o14]/\OE K H a' b' ns (xs++[0]) lw lr k B ts ln H')
       ⟨_,_,_,_,_,_,_,rfl,i0⟩ (by rintro k σ H' _ ⟨B,ts,ln,o8,o12,o13,o14,rfl,i⟩;exact i.same.g_ hsn) ?_ ?_
     . clear i0
       rintro k x σ H7 hx ⟨B,ts,ln,o8,o12,o13,o14,rfl,iv⟩;obtain⟨hk,rfl⟩:=yi hx;have hnk:=ok.each (ns.getD k 0) (Bn hk);have hU:=ok.upTo;have hU1:=BF (ns:=ns) (show k+1<=ns.length by omega) (wo _);have hUs:=mV hk
       have hlt:ts.length=xs.length+1:=by
         have h1:=congrArg qj iv.eq;rw[sS _ _ _ _ (by simp)]at h1
         simpa [dw] using h1
       obtain⟨t0,tr,rfl⟩:∃t0 tr,ts=t0::tr:=by
         cases ts with
         | nil=>simp at hlt
         | cons t0 tr=>exact⟨t0,tr,rfl⟩
       have hB0:=iv.pos;have bB:=iv.bB;have enow:=iv.now;rw[wZ]at enow;have hhead:(turned a' b' ns (xs++[0]) k).headD 0=wx t0 B:=by rw[<- iv.eq];rfl
       have htail:(turned a' b' ns (xs++[0]) k).tail=dw B tr:=by rw[<- iv.eq];rfl
       have hrow:(aM a' b' ns (xs++[0]) k).getD k 0=wx t0 B:=by rw[<- u6 _ _ _ _ (by simp;omega),hhead]
       have htr:tr.length=xs.length:=by simpa using hlt
       obtain⟨ws,ew,hwl,tw⟩:=iv.w;obtain⟨rs,er,hrl,tR⟩:=iv.r;o_head g6 (aI.of enow) (show gp _ (0:Int)=some (V.int t0)from jR (j:=0) rfl) ?_;o_head gU (aI.of ew) ?_;o_head pO (by omega) (bB.mono (by omega)) (λv8 H8 S8 i8=>?_);rw[Sf hB0]at i8;o_head jc (S8 _ _ ew) (by omega) (λH9 E9 e9=>?_);have K9:br H8 H9:=E9.keep (S8 _ _ ew);have en9:H9 ln=some (.lst (V.int t0::tr.map V.int)):=E9 _ _ iv.nw (S8 _ _ enow);have er9:=E9 _ _ (We newr) (S8 _ _ er);have T9:ah H H9:=(iv.same.trans S8).grow hDw E9;o_head HI (aI.of en9) (λl10 H10 n10 S10 e10=>?_)
       have e10':H10 l10=some (.lst (tr.map V.int)):=by
         rw[e10,show jk (V.int t0::tr.map V.int) (some 1) none=hJ (V.int t0::tr.map V.int) (some 1) none from rfl,Jn]
         rfl
       o_head jA (aI.of e10') (o0:=none) (tl:=[some (.int (B-t0))]) rfl (λi v _=>v=.int (tr.getD i 0+(B-t0))) ?_ ?_
       . rintro D' i x ys' o' H1 hx' inv
         obtain⟨hi,rfl⟩:=yi hx';k_few;exact dW inv (by omega) (λ_ _ _ _ _ h=>h) ⟨_,rfl⟩ (ah.refl _) rfl
       . rintro l11 ys' H11 n11 S11 e11 hl11 hr11
         have hys:ys'=(tr.map λt=>t+(B-t0)).map V.int:=yQ (by simpa using hl11) (λj y hy=>by
           have hj:j<tr.length:=by
             rcases wB j ys'.length with z | z
             . simp at hl11;omega
             . rw[wF z]at hy;cases hy
           rw[hr11 j y hy,Bl hj])
         subst hys;have b0:Bd (2700+2*k+21*upTo ns k+2) B:=bB.mono (by omega)
         have bt0':∀t∈(tr.map λt=>t+(B-t0)),Bd (2700+2*k+21*upTo ns k+2) t:=λt ht=>by
           obtain⟨u,hu,rfl⟩:=wY.mp ht;exact((iv.bt u (wD _ hu)).add (bB.sub (iv.bt t0 (wJ ..)))).mono (by omega)
         have eq0:dw B (tr.map λt=>t+(B-t0))=(turned a' b' ns (xs++[0]) k).tail.map λy=>push a' b' 0 (y+(1-(turned a' b' ns (xs++[0]) k).headD 0)):=by
           rw[zsy hB0,htail,hhead]
           rfl
         have n11':=gP S10 n11;have S9_11:=S10.trans S11;clear hr11 hl11 n11 S11 e10 e10' n10 enow en9;k_few
         refine ng (n:=ns.getD k 0) (by omega) (by omega) (λi σ H'=>∃(B':Int)(ts':List Int)(li:wg)(o14:Option V),σ = [some x0,some (.ref an),some (.ref ap),some (.int a'.num),some (.int (a'.den:Int)),some (.int b'.num),some (.int (b'.den:Int)),some (.int B'),o8,some (.ref li),some (.ref lw),some (.ref lr),some (.int (ns.getD k 0)),some (.int (B-t0)),o14]/\0<B'/\Bd (2700+2*k+21*upTo ns k+2+21*i) B'/\(∀t∈ts',Bd (2700+2*k+21*upTo ns k+2+21*i) t) /\
           dw B' ts'=((turned a' b' ns (xs++[0]) k).tail.map λy=>push a' b' i (y+(1-(turned a' b' ns (xs++[0]) k).headD 0)))/\ah H9 H'/\H' li=some (.lst (ts'.map V.int))/\H9 li=none) ⟨B,_,l11,_,rfl,hB0,b0.mono (by omega),λt ht=>(bt0' t ht).mono (by omega),eq0,S9_11,e11,n11'⟩ ?_ ?_
         . rintro i σ H12 hi ⟨B',ts',li,o14,rfl,hB',bB',bt',eq',S12,e12,n12⟩
           have hi8:i<8:=by omega
           have hlt':ts'.length=xs.length:=by
             have h1:=congrArg qj eq';rw[wm,htail]at h1
             simpa [dw,htr] using h1
           have bB7:Bd 3000 B':=bB'.mono (by omega);o_head jA (aI.of e12) (o0:=none) (tl:=[some (.int B'),some (.int a'.num),some (.int (b'.den:Int)),some (.int b'.num),some (.int (a'.den:Int))]) rfl (λj v _=>v=.int (a'.num*(b'.den:Int)*ts'.getD j 0+b'.num*(a'.den:Int)*B')) ?_ ?_
           . rintro D' j x ys' o' H1 hx' inv
             obtain⟨hj,rfl⟩:=yi hx';have bj:Bd 3000 (ts'.getD j 0):=(bt' _ (Bn hj)).mono (by omega);k_few;exact dW inv (by omega) (λ_ _ _ _ _ h=>h) ⟨_,rfl⟩ (ah.refl _) rfl
           . rintro l13 ys' H13 n13 S13 e13 hl13 hr13
             have hys:ys'=(ts'.map λt=>a'.num*(b'.den:Int)*t+b'.num*(a'.den:Int)*B').map V.int:=yQ (by simpa using hl13) (λj y hy=>by
               have hj:j<ts'.length:=by
                 rcases wB j ys'.length with z | z
                 . simp at hl13;omega
                 . rw[wF z]at hy;cases hy
               rw[hr13 j y hy,Bl hj])
             subst hys;o_head ⟨_,_,l13,_,rfl,vJ (vJ hB' (den_pos a')) (den_pos b'),((bB'.mul ba2).mul bb2).mono (by omega),λt ht=>?_,?_,S12.trans S13,e13,gP S12 n13⟩
             . obtain⟨u,hu,rfl⟩:=wY.mp ht
               exact(((ba1.mul bb2).mul (bt' u hu)).add ((bb1.mul ba2).mul bB')).mono (by omega)
             . rw[zsa hB',eq',WF]
               rfl
         . rintro σ H12 ⟨B',ts',li,o14,rfl,hB',bB',bt',eq',S12,e12,n12⟩
           have hlt':ts'.length=xs.length:=by
             have h1:=congrArg qj eq';rw[wm,htail]at h1
             simpa [dw,htr] using h1
           have hli:H li=none:=gP T9 n12;have newl:li≠lw:=λz=>by subst z;rw[e9]at n12;cases n12
           have nerl:li≠lr:=λz=>by subst z;rw[er9]at n12;cases n12
           o_head gU (aI.of e12) ?_;o_head jc e12 (by simp;omega) (λH14 E14 e14=>?_);rw[O5]at e14;have K14:br H12 H14:=E14.keep e12;have T14:ah H H14:=(T9.trans S12).grow hli E14;have er14:=E14 _ _ (We nerl) (S12 _ _ er9);have ew14:=E14 _ _ (We newl) (S12 _ _ e9);o_head gU (aI.of er14) ?_;o_head jA (aI.of e14) (o0:=none) (tl:=[some (.int B')]) rfl (λj v H=>Is K H v (N ((dw B' (ts'++[0])).getD j 0))) ?_ ?_
           . rintro D' j x ys' o' H1 hx' inv
             obtain⟨hj,rfl⟩:=yi hx';rw[wS,vZ]at hj;o_head pO (by omega) (bB'.mono (by omega)) (λv5 H5 S5 i5=>?_);exact dW inv (by omega) fR ⟨_,rfl⟩ S5 (by rw[Yr (by simp;omega)];exact i5)
           . rintro l15 us H15 n15 S15 e15 hl15 hr15
             have n15w:l15≠lw:=λz=>by subst z;rw[ew14]at n15;cases n15
             have n15r:l15≠lr:=λz=>by subst z;rw[er14]at n15;cases n15
             o_head jc (S15 _ _ er14) (by omega) (λH16 E16 e16=>?_);have K16:br H15 H16:=E16.keep (S15 _ _ er14);have K8_16:br H8 H16:=K9.trans (S12.keep.trans (K14.trans (S15.keep.trans K16)));have hbits:2700+2*k+21*upTo ns k+2+21*(ns.getD k 0).toNat<=2700+2*(k+1)+21*upTo ns (k+1):=by omega
             have hnext:dw B' (ts'++[0])=turned a' b' ns (xs++[0]) (k+1):=by
               rw[HM,eq']
               rfl
             refine⟨B',ts'++[0],li,_,_,_,_,rfl,?_⟩
             exact {
               pos:=hB'
               bB:=bB'.mono hbits
               bt:=λt ht=>by
                 rcases vX.mp ht with h | h
                 . exact(bt' t h).mono hbits
                 . rw[wX.mp h];exact bz.mono (by omega)
               eq:=hnext
               same:=(T14.trans S15).grow hDr E16
               now:=E16 _ _ nerl (S15 _ _ e14)
               nw:=newl
               nr:=nerl
               w:=⟨ws++[v8],E16 _ _ newr (S15 _ _ ew14),by simp[hwl],by
                 rw[zpR,hrow];exact Y5 (ao.keep (S8.keep.trans K8_16) _ _ (gL _) tw) (i8.fZ K8_16)⟩
               r:=⟨rs++[.ref l15],e16,by simp[hrl],λj v hv=>by
                 rcases wB j rs.length with z | z
                 . rw[Wu z]at hv
                   obtain⟨lj,uj,rfl,nj1,nj2,ej,tj⟩:=tR j v hv;have ej9:=E9 _ _ nj1 (S8 _ _ ej);have njl:lj≠li:=λz=>by subst z;rw[ej9]at n12;cases n12
                   exact⟨lj,uj,rfl,nj1,nj2,E16 _ _ nj2 (S15 _ _ (E14 _ _ njl (S12 _ _ ej9))),ao.keep (S8.keep.trans K8_16) _ _ (gL _) tj⟩
                 . have hj:j=rs.length:=by
                     rcases wB rs.length j with q | q
                     . rw[wF (by simp;omega)]at hv;cases hv
                     . omega
                   subst hj;rw[vM (wo _),VI]at hv;cases wP hv;rw[hrl];refine⟨l15,us,rfl,n15w,n15r,E16 _ _ n15r e15,ao.keep K16 _ _ (gL _) ?_⟩;rw[<- hnext];exact fU (by rw[hl15];simp[dw]) hr15⟩}
     . rintro σ H7 ⟨B,ts,ln,o8,o12,o13,o14,rfl,iv⟩
       obtain⟨ws,ew,hwl,tw⟩:=iv.w;obtain⟨rs,er,hrl,tr⟩:=iv.r;rw[wm]at hwl hrl tw;o_head bX (by simp) (.cons (dB ew tw) (.cons (cu.mpr ⟨lr,rs,rfl,.of er,Dh (by rw[hrl,oR]) λj v hv=>?_⟩) .nil)) (λv H8 S8 i8=>q v H8 (iv.same.trans S8) i8)
       have hj:j<ns.length:=by
         rcases wB j rs.length with z | z
         . omega
         . rw[wF z]at hv;cases hv
       obtain⟨lj,us,rfl,_,_,ej,tj⟩:=tr j v hv;rw[A6 hj];exact dB ej tj
def H_(K:wb):Sp:=λvs H Q _=>∃x0,vs=[x0] /\ ∃(ra rb:Rat)(xs:List Rat),Is K H x0 (bG ra rb xs)/\cS ra rb xs /\
 (km ra rb xs->∀l H',ah H H'->H' l=some (.lst [.str "long"])->Q (.ref l) H') /\ ∀es n w v H',eS ra rb xs es n w->ah H H'->Is K H' v (b_ w (aj (ai ra rb xs n)).length)->Q v H'
theorem Hz{K:wb}{H:Hp}{Q:VK}{E:XK}{ra rb:Rat}{xs:List Rat}{v:V}(h:Is K H v (bG ra rb xs))(ok:cS ra rb xs)(qe:km ra rb xs->∀l H',ah H H'->H' l=some (.lst [.str "long"])->Q (.ref l) H')(q:∀es n w v H',eS ra rb xs es n w->ah H H'->Is K H' v (b_ w (aj (ai ra rb xs n)).length)->Q v H'):H_ K [v] H Q E:=⟨_,rfl,ra,rb,xs,h,ok,qe,q⟩
theorem IY(T:Txt K mg a):aO P w K mg base aT 15 a.Gw a.FG rS (H_ K):=by
 refine T.zN.F.ok oO ?_ ?_;wtm_at "b1"
 refine⟨_,(ak (ay 1 oO.nd jV)
     (ak (Zf (i:=2) (tb:=λW=>j9 (Bh (CZ K a) W (pW (lG 0) n9)) (fI 1)) (th:=λex C=>j9 (Ba K (pW (kN (Dj K a ex C) [] E0 (pW (lG 2) n9)) n9)) (fI 1)) rfl rfl oO.nd rfl rfl rfl T.Rl (λW pn E' hx=>by exact(av (ay 1 oO.nd (Zp (Sj T) (hr.mono (by decide)) rfl T.rJ.g T.rJ.F.kp T.rJ.b hx (ae (pv 0) af))))) (λpn ex C oe hob=>by exact(av (ay 1 oO.nd (cV (ae (Us (Tv T) ((hr.marked _).mono (by decide)) ⟨rfl,vO _ (wX.mpr rfl),hob⟩ rfl T.rg.g T.rg.F.kp T.rg.b (ae (pv 2) af)) af))))))
     (av (aF (pv 1))))),?_⟩
 wtm_at "cl";rw[show start O_ [x0]=[some x0,none,none]from rfl];obtain⟨ra,rb,xs,h1,ok,qe,q⟩:=h;o_head Yd (λσ' C o H'=>σ'=[some x0,some .bM,none]/\C=.ref a.cP/\ah H H' /\ ∀l H',ah H H'->H' l=some (.lst [.str "long"])->Q (.ref l) H') ?_ ?_
 . k_few
   refine zyH h1 ok (λz H' S=>⟨rfl,rfl,S,qe z⟩) (λes n w v H' P S hv=>?_);k_few;exact q es n w v H' P S hv
 . rintro σ' C o H' ⟨rfl,rfl,S0,qe⟩
   refine⟨T.Ry,λex hex=>?_⟩;o_head YQ (w:="long") (.inr ⟨rfl,rfl⟩) (λH1 S1=>?_);wtm_at "ga";rename_i l H2 n2 S2 e2;exact qe l H2 (S0.trans (S1.trans S2)) e2
def p7(a b:Rat):Bool:=decide (0<a)&&decide (a<=4)&&decide (a.den<=8)&&decide (0<=b)&&decide (b<=1)&&decide (b.den<=12)&&decide (1<=a+b)
theorem Kx{a b:Rat}(h:p7 a b=true):aR a b:=by
 unfold p7 at h;simp only[wV,decide_eq_true_eq]at h;obtain⟨⟨⟨⟨⟨⟨h1,h2⟩,h3⟩,h4⟩,h5⟩,h6⟩,h7⟩:=h;exact⟨h1,h2,h3,h4,h5,h6,h7⟩
theorem T_:((wt 9).all λi=>(wt 4).all λt=>[12,6,4,8].all λ(u:Int)=>if((5+i:Nat):Int)*((wx (t:Int) u).den:Int)+(wx (t:Int) u).num*8<8*((wx (t:Int) u).den:Int)then p7 (wx ((5+i:Nat):Int) 8) (wx (8-((5+i:Nat):Int)) 8)else p7 (wx ((5+i:Nat):Int) 8) (wx (t:Int) u))=true:=by decide +kernel
theorem MD{r t u:Int}(r0:0<=r)(r9:r<9)(t0:0<=t)(t4:t<4)(hu:u∈([12,6,4,8]:List Int)):if(5+r)*((wx t u).den:Int)+(wx t u).num*8<8*((wx t u).den:Int)then aR (wx (5+r) 8) (wx (8-(5+r)) 8)else aR (wx (5+r) 8) (wx t u):=by
 have h:=T_;rw[Wl]at h;have h:=h r.toNat (wH.mpr (by omega));rw[Wl]at h;have h:=h t.toNat (wH.mpr (by omega));rw[Wl]at h;have h:=h u hu;rw[show((5+r.toNat:Nat):Int)=5+r by omega,show((t.toNat:Nat):Int)=t by omega]at h
 split at h
 ·rename_i z;rw[if_pos z];exact Kx h
 ·rename_i z;rw[if_neg z];exact Kx h
def IG(K:wb):Sp:=λvs H Q _=>∃x0,vs=[x0] /\ ∃(p:wg)(k:Int),x0=.ref p/\cF H p k/\k<=100000 /\ ∀v H' (a b:Rat),Exc p H H'->br H H'->cF H' p (k+3)->Is K H' v (R a b)->aR a b->Q v H'
theorem zjA{K:wb}{H:Hp}{Q:VK}{E:XK}{p:wg}{k:Int}(h:cF H p k)(hk:k<=100000)(q:∀v H' (a b:Rat),Exc p H H'->br H H'->cF H' p (k+3)->Is K H' v (R a b)->aR a b->Q v H') :
  IG K [.ref p] H Q E:=⟨_,rfl,p,k,rfl,h,hk,q⟩
theorem zi5(T:Txt K mg a):aO P w K mg base aT 2 a.EJ a.Eo tD (IG K):=by
 refine T.Et.F.ok yG ?_ ?_;wtm_at "b1"
 refine⟨_,(ak (ay 1 yG.nd (aC cC az (au (kG T) hr T.jq (ae (pv 0) (ae az af)))))
     (ak (ay 2 yG.nd (au (kh T) hr T.jr (ae (au (kG T) hr T.jq (ae (pv 0) (ae az af))) (ae (d5 dy (cV (ae az (ae az (ae az (ae az af))))) (au (kG T) hr T.jq (ae (pv 0) (ae az af))) (λ_ _=>rfl)) af))))
     (ak (bZ (cc l_ (aC cC (aC cn (pv 1) (ar (pv 2))) (aC cn (ar (pv 2)) az)) (aC cn az (ar (pv 2))) (bA _)) (av (ay 2 yG.nd (au (kh T) hr T.jr (ae (aC m9 az (pv 1)) (ae az af))))) b9)
     (av (aF (aW (ae (au (kh T) hr T.jr (ae (pv 1) (ae az af))) (ae (pv 2) af)))))))),?_⟩
 wtm_at "cl";rw[show start IS [x0]=[some x0,none,none]from rfl];obtain⟨p,k,rfl,hp,hk,q⟩:=h;wtm_at "ga"
 . rename_i r1 H1 a0 a1 E1 K1 P1 r2 H2 b0 b1 E2 K2 P2 lp H3 n3 S3 e3 r3 H4 c0 c1 E4 K4 P4 z hz v1 H5 x S5 i5 ex bx hlt v2 H6 y S6 i6 ey by' v3 H7 u S7 i7 eu bu v4 H8 S8 i8
   have h:=MD a0 a1 b0 b1 (u:=z) (by rcases hz with rfl | rfl | rfl | rfl<;>simp);rw[<- ex,if_pos hlt,<- eu,<- ey]at h;exact q _ _ u y (by wtm_at "exc") (by wtm_at "keep") (by wtm_at "penle") i8 h
 . rename_i r1 H1 a0 a1 E1 K1 P1 r2 H2 b0 b1 E2 K2 P2 lp H3 n3 S3 e3 r3 H4 c0 c1 E4 K4 P4 z hz v1 H5 x S5 i5 ex bx hlt v3 H7 u S7 i7 eu bu v4 H8 S8 i8
   have h:=MD a0 a1 b0 b1 (u:=z) (by rcases hz with rfl | rfl | rfl | rfl<;>simp);rw[<- ex,if_neg hlt,<- eu]at h;exact q _ _ u x (by wtm_at "exc") (by wtm_at "keep") (by wtm_at "penle") i8 h
def kD(a b:Rat)(ns:List Int):Rat:=(b8 a b ns [0]).getD 0 0
def ji(a b:Rat)(ns:List Int):Rat:=if a^ns.sum.toNat=1 then 1 / 2 else kD a b ns / (1-a^ns.sum.toNat)
theorem Pq{a b:Rat}{m n:Int}(h:a^([m,n]:List Int).sum.toNat≠1):ck a b [m,n]=[ji a b [m,n]]:=by
 unfold ji;rw[if_neg h];have hl:(ck a b [m,n]).length=1:=pz (by simp);refine gH hl λi hi=>?_
 have:i=0:=by omega
 subst this;rw[Cv (by omega)]
 rfl
theorem HE(x s:Rat):x+wx (0-s.num) (s.den:Int)=x-s:=by
 have h:wx (0-s.num) (s.den:Int) = -s:=by
  have:=Vi (-s)
  simpa using this
 rw[h]
 grind
theorem zz9{a b:Rat}{ns:List Int}(sz:cA ns)(hl:ns.length=2):(aM a b ns ([1]++[0]) ns.length).getD 0 0=a^ns.sum.toNat+kD a b ns:=by
 have h:=BJ (a:=a) (b:=b) (ns:=ns) (xs:=[1]) hl sz.nn (i:=0) (by decide);rw[nV hl (by decide)]at h;rw[h];unfold kD;rw[show ns.length-1=1 by omega]
 show a^ns.sum.toNat*1+(b8 a b ns [0]).getD 0 0=_
 grind
theorem Zi{a b:Rat}{ns:List Int}(hl:ns.length=2):(aM a b ns ([0]++[0]) ns.length).getD 0 0=kD a b ns:=by
 unfold kD;rw[nV hl (by decide)]
theorem zsK{a b:Rat}{ns:List Int}(ok:aR a b)(sz:cA ns)(hl:ns.length=2):ag 185 (kD a b ns):=by
 have:=zC ok sz 0;unfold c7 at this;rw[show ns.length-1=1 by omega]at this;exact this
def Ol(K:wb):Sp:=λvs H Q _=>∃x0 x1,vs=[x0,x1] /\ ∃(a b:Rat)(ns:List Int),Is K H x0 (R a b)/\Is K H x1 (TZ ns)/\aR a b/\cA ns/\ns.length=2 /\ ∀v H',ah H H'->Is K H' v (N (ji a b ns))->Q v H'
theorem zps{K:wb}{H:Hp}{Q:VK}{E:XK}{a b:Rat}{ns:List Int}{v w:V}(h1:Is K H v (R a b))(h2:Is K H w (TZ ns))(ok:aR a b)(sz:cA ns)(hl:ns.length=2)(q:∀v H',ah H H'->Is K H' v (N (ji a b ns))->Q v H'):Ol K [v,w] H Q E:=⟨_,_,rfl,a,b,ns,h1,h2,ok,sz,hl,q⟩
theorem Ss(T:Txt K mg a):aO P w K mg base aT 3 a.Ga a.Fi u4 (Ol K):=by
 refine T.FE.F.ok nS ?_ ?_;wtm_at "b2"
 refine⟨_,(ak (ay 2 nS.nd (ar (d5 dy (ar (au (Iy T) hr T.zJ (ae (pv 0) (ae (pv 1) (ae (aW (ae (aW (ae az (ae az af))) af)) af))))) (iD gW az) (λ_ _=>rfl))))
     (ak (ay 3 nS.nd (ar (d5 dy (ar (au (Iy T) hr T.zJ (ae (pv 0) (ae (pv 1) (ae (aW (ae (aW (ae az (ae az af))) af)) af))))) (iD gW az) (λ_ _=>rfl))))
     (ak (ay 4 nS.nd (au (Oq T) hr T.zP (ae (pv 3) (ae (aW (ae (aC m9 az (ar (pv 2))) (ae (ar (pv 2)) af))) af))))
     (ak (bZ (cc (show aJ _ (wT .Eq) (cN K)from dk hu) (pv 4) (aW (ae az (ae az af))) (bA _)) (av (aF (aW (ae az (ae az af))))) b9)
     (ak (ay 5 nS.nd (au (Oq T) hr T.zP (ae (aW (ae az (ae az af))) (ae (aW (ae (aC m9 az (ar (pv 4))) (ae (ar (pv 4)) af))) af))))
     (av (aF (au (kh T) hr T.jr (ae (aC cn (ar (pv 2)) (ar (pv 5))) (ae (aC cn (ar (pv 2)) (ar (pv 5))) af)))))))))),?_⟩
 wtm_at "cl";rw[show start HP [x0,x1]=[some x0,some x1,none,none,none,none]from rfl];obtain⟨ra,rb,ns,hr',hn',ok,sz,hl,q⟩:=h;have h8:=sz.cf;have hps:=sz.pos;have hsum:=sz.sum;o_head fh (r:=0) rfl rfl (λv1 H1 S1 i1=>?_);o_head bX (ds:=[N 0]) (by simp) (.cons i1 .nil) (λv2 H2 S2 i2=>?_);have T2:=S1.trans S2;o_head Mz (hr'.by T2) (hn'.by T2) (show Is K H2 v2 (TN [0])from i2) ok.ba ok.bb sz (by simp;omega) (λi=>?_) (λv3 H3 S3 i3=>?_)
 . rcases i with _ | i
   . exact ag.zero.mono (by decide)
   . exact ag.zero.mono (by decide)
 o_head aG (j:=1) i3 rfl (λv4 i4=>?_);o_head C0 i4 (by rw[oR];omega) (λv5 i5=>?_);rw[oR,A6 (by omega),show ns.length-1+1=ns.length by omega,CJ _ _ _ _ (by simp;omega)]at i5;o_head kb i5 (by decide) (by rw[cw];decide) (λvl il=>?_);rw[show(0:Int).toNat=0 from rfl,Zi hl]at il;have bs:=zsK ok sz hl;have bF:ag 81 (ra^ns.sum.toNat):=(ok.ba.pow _).mono (by omega);have T3:=T2.trans S3;have hr3:=hr'.by T3;have hn3:=hn'.by T3;clear i1 i2 i3 i4 i5 S1 S2 T2 S3 hr' hn';o_head fh (r:=1) rfl rfl (λv1 H4 S4 i1=>?_);o_head bX (ds:=[N 1]) (by simp) (.cons i1 .nil) (λv2 H5 S5 i2=>?_);have T5:=S4.trans S5;o_head Mz (hr3.by T5) (hn3.by T5) (show Is K H5 v2 (TN [1])from i2) ok.ba ok.bb sz (by simp;omega) (λi=>?_) (λv3 H6 S6 i3=>?_)
 . rcases i with _ | i
   . exact ag.one.mono (by decide)
   . exact ag.zero.mono (by decide)
 o_head aG (j:=1) i3 rfl (λv4 i4=>?_);o_head C0 i4 (by rw[oR];omega) (λv5 i5=>?_);rw[oR,A6 (by omega),show ns.length-1+1=ns.length by omega,CJ _ _ _ _ (by simp;omega)]at i5;o_head kb i5 (by decide) (by rw[cw];decide) (λvh ih=>?_);rw[show(0:Int).toNat=0 from rfl,zz9 sz hl]at ih;have T6:=T3.trans (T5.trans S6);have il6:=il.by (T5.trans S6);have bh:ag 270 (ra^ns.sum.toNat+kD ra rb ns):=(bF.add bs).mono (by decide);clear i1 i2 i3 i4 i5 S4 S5 T5 S6 T3 il hr3 hn3;generalize hsh:kD ra rb ns=sh at *;generalize hFF:ra^ns.sum.toNat=F at *;o_head bX (ds:=[.int (0-sh.num),.int (sh.den:Int)]) (by simp) (.cons (bS.mpr rfl) (.cons (bS.mpr rfl) .nil)) (λv6 H7 S7 i6=>?_);o_head MT (n:=186) (ih.by S7) i6 (den_pos sh) bh ?_ (bs.b.mono (by decide)) (by decide) (λv7 H8 S8 i7=>?_)
 . rw[Int.zero_sub];exact bs.t.neg.mono (by decide)
 rw[HE,show F+sh-sh=F by grind]at i7;have il8:=il6.by (S7.trans S8);have T8:=T6.trans (S7.trans S8);clear il6 i6 ih S7 S8 T6;o_head fh (r:=1) rfl rfl (λv8 H9 S9 i8=>?_);refine C9 (i7.by S9) i8 ?_
 by_cases hF:F=1
 . rw[decide_eq_true hF]
   o_head fh (r:=1 / 2) (by decide +kernel) (by decide +kernel) (λv9 H10 S10 i9=>?_);refine q _ _ (T8.trans (S9.trans S10)) ?_;unfold ji;rw[hFF,if_pos hF];exact i9
 . rw[decide_eq_false hF]
   have i79:=i7.by S9;have il9:=il8.by S9;have T9:=T8.trans S9;clear i7 i8 il8 T8 S9;o_head fh (r:=1) rfl rfl (λv8 H10 S10 i8=>?_);o_head bX (ds:=[.int (0-F.num),.int (F.den:Int)]) (by simp) (.cons (bS.mpr rfl) (.cons (bS.mpr rfl) .nil)) (λv9 H11 S11 i9=>?_);o_head MT (m:=2) (n:=82) (i8.by S11) i9 (den_pos F) (ag.one.mono (by decide)) ?_ (bF.b.mono (by decide)) (by decide) (λv10 H12 S12 i10=>?_)
   . rw[Int.zero_sub];exact bF.t.neg.mono (by decide)
   rw[HE]at i10;have bg:ag 84 (1-F):=(ag.one.sub bF).mono (by decide);have il12:=il9.by (S10.trans (S11.trans S12));have T12:=T9.trans (S10.trans (S11.trans S12));have hg:(1-F).num≠0:=zi (λe=>hF (by grind));have b1:=bs.t;have b2:=bs.b;have b3:=bg.t;have b4:=bg.b;clear i8 i9 il9 i79 S10 S11 S12 T9;o_head pO (qU (fu sh) hg) ((b2.mul b3).mono (by decide)) (λv13 H13 S13 i13=>?_);rw[YH]at i13;refine q _ _ (T12.trans S13) ?_;unfold ji;rw[hFF,hsh,if_neg hF];exact i13
def jm(x:Rat)(m n:Nat):List Rat:=w9 m x++w9 n 0
def Kk(K:wb):Sp:=λvs H Q _=>∃x0 x1 x2,vs=[x0,x1,x2] /\ ∃(p:wg)(k:Int)(m n:Nat)(x:Rat),x0=.ref p/\cF H p k/\k<=1000/\Is K H x1 (TZ [(m:Int),(n:Int)])/\Is K H x2 (N x)/\m<=3/\n<=3 /\ ∀(l:wg)(H':Hp)(us:List V)(zs:List Rat),Exc p H H'->br H H'->cF H' p (k+8)->H' l=some (.lst us)->ao K H' us (zs.map N)->zs.Perm (jm x m n)->Q (.ref l) H'
theorem Jj{K:wb}{H:Hp}{Q:VK}{E:XK}{p:wg}{k:Int}{m n:Nat}{x:Rat}{v w:V}(h:cF H p k)(hk:k<=1000)(h1:Is K H v (TZ [(m:Int),(n:Int)]))(h2:Is K H w (N x))(m3:m<=3)(n3:n<=3)(q:∀(l:wg)(H':Hp)(us:List V)(zs:List Rat),Exc p H H'->br H H'->cF H' p (k+8)->H' l=some (.lst us)->ao K H' us (zs.map N)->zs.Perm (jm x m n)->Q (.ref l) H'):Kk K [.ref p,v,w] H Q E:=⟨_,_,_,rfl,p,k,m,n,x,rfl,h,hk,h1,h2,m3,n3,q⟩
theorem HW(T:Txt K mg a):aO P w K mg base aT 2 a.Gb a.Ff tY (Kk K):=by
 refine T.zI.F.ok Ck ?_ ?_;wtm_at "b3"
 refine⟨_,(ak (ay 3 Ck.nd (aC cC (aC (show aJ _ (WB .Mult) r_ from Pz) (cV (ae (pv 2) af)) (ar (pv 1))) (aC (show aJ _ (WB .Mult) r_ from Pz) (cV (ae (aW (ae az (ae az af))) af)) (ar (pv 1)))))
     (ak (ay 4 Ck.nd (cV af))
     (ak (lD vG (cc (show aJ _ (wT .NotEq) (ee K)from gJ hu) (pv 3) (cV af) (bA _)) (av (jL (iO vP vV vW jn (pv 4) (ae (iO vP PySem.F.slot_list_pop PySem.F.type_list_pop UC (pv 3) (ae (au (kG T) hr T.jq (ae (pv 0) (ae (bQ (show aY _ (.builtin "len") (dg K)from fg) rfl T.z_len fe (ae (pv 3) af)) af))) af)) af)))))
     (av (aF (pv 4)))))),?_⟩
 wtm_at "cl";rw[show start Om [x0,x1,x2]=[some x0,some x1,some x2,none,none]from rfl];obtain⟨p,k,m,n,x,rfl,hp,hk,hn',hx',m3,n3,q⟩:=h;o_head d9 (by simp) (λla H1 n1 S1 e1=>?_);o_head mH (hn'.by S1) (by decide) (by simp) ?_;rw[show([(m:Int),(n:Int)]:List Int).getD (0:Int).toNat 0=(m:Int)from rfl];o_head Ji e1 (by omega) (by omega) (by simp;omega) (λlb H2 n2 S2 e2=>?_);rw[qQ,wW]at e2;o_head fh (r:=0) rfl rfl (λv3 H3 S3 i3=>?_);o_head d9 (by simp) (λlc H4 n4 S4 e4=>?_);o_head mH (hn'.by (S1.trans (S2.trans (S3.trans S4)))) (by decide) (by simp) ?_;rw[show([(m:Int),(n:Int)]:List Int).getD (1:Int).toNat 0=(n:Int)from rfl];o_head Ji e4 (by omega) (by omega) (by simp;omega) (λld H5a n5 S5a e5a=>?_);rw[qQ,wW]at e5a;have e25:=S5a _ _ (S4 _ _ (S3 _ _ e2));o_head mj e25 e5a (Wd (show _<=1000 by simp;omega) (by decide)) (λlf H5 nf S5b e5=>?_);have S5:ah H H5:=S1.trans (S2.trans (S3.trans (S4.trans (S5a.trans S5b))));have n1:H lf=none:=gP (S1.trans (S2.trans (S3.trans (S4.trans S5a)))) nf;have nef:lf≠p:=cF.ne n1 hp
 have t5:ao K H5 (w9 m x2++w9 n v3) ((jm x m n).map N):=by
   unfold jm;rw[vt,x5,x5];exact(ao.z7 (hx'.by S5) _).append (ao.z7 (i3.by (S4.trans (S5a.trans S5b))) _)
 have hsp:(jm x m n).length<=8:=by unfold jm;simp;omega
 generalize w9 m x2++w9 n v3=ws at *;have P5:=hp.same S5;clear e25 e5a e4 e2 S1 S2 S3 S4 S5a S5b e1 i3 n2 n4 n5 nf;o_head d9 (by simp) (λlg H6 n6 S6 e6=>?_);have neg:lg≠p:=cF.ne n6 P5;have ngf:lg≠lf:=(hZ e5 n6).symm;have hgr:H lg=none:=gP S5 n6;o_head oE (λm' σ' H'=>∃(left found:List Rat)(us ws:List V),σ'=[some (.ref p),some x1,some x2,some (.ref lf),some (.ref lg)]/\m'=left.length/\left.length<=8/\found.length<=8/\Exc p H H'/\br H H'/\cF H' p (k+(8-(left.length:Int)))/\H' lf=some (.lst us)/\ao K H' us (left.map N)/\H' lg=some (.lst ws)/\ao K H' ws (found.map N)/\(found++left).Perm (jm x m n)) _ ⟨jm x m n,[],ws,[],rfl,rfl,hsp,by simp,(S5.trans S6).exc,(S5.trans S6).keep,(P5.same S6).le (by omega),S6 _ _ e5,ao.same S6 _ _ t5,e6,.nil,xg _⟩ ?_;rintro m' σ' H7 ⟨left,found,us,ws',rfl,rfl,hl8,hf8,X7,K7,P7,e7,t7,g7,tg7,pm⟩;have hpl:=pm.length_eq;rw[wS]at hpl;have hul:=t7.length;rw[wm]at hul;have hwl:=tg7.length;rw[wm]at hwl;o_head d9 (by simp) (λl8 H8 n8 S8 e8=>?_)
 refine Tz (n:=3) (dB (S8 _ _ e7) (ao.same S8 _ _ t7)) (cu.mpr ⟨l8,[],rfl,.of e8,.nil⟩) (DK λd hd=>by
   obtain⟨x,_,rfl⟩:=wY.mp hd;exact A3 x) (by decide) ?_
 by_cases he:left=[]
 . rw[he,show(!(List.map N ([]:List Rat)).isEmpty)=false from rfl]
   k_few;rw[he,vY]at pm;exact q lg H8 ws' found (X7.trans S8.exc) (K7.trans S8.keep) ((P7.same S8).le (by omega)) (S8 _ _ g7) (ao.same S8 _ _ tg7) pm
 . rw [show (!(left.map N).isEmpty) = true by cases left with
       | nil=>exact absurd rfl he
       | cons y l=>rfl]
   have hpos:=W2.mpr he;have P8:=P7.same S8;o_head pT ?_;o_head gU (aI.of (S8 _ _ g7)) ?_;o_head gU (aI.of (S8 _ _ e7)) ?_;o_head jG (aI.of (S8 _ _ e7)) ?_;k_few;rename_i r H9 r0 r1 E9 K9 P9;have e9:=E9.at nef (S8 _ _ e7);have g9:=E9.at neg (S8 _ _ g7);refine zw6 e9 r0 r1 (by omega) (λy H10 hy E10 e10=>?_);have hr:r.toNat<left.length:=by omega
   obtain⟨_,iy⟩:=dr t7 hy;have K10:=E10.keep e9;have g10:=E10 _ _ ngf g9;o_head jc g10 (by omega) (λH11 E11 e11=>?_);have K11:=E11.keep g10;have K811:=S8.keep.trans (K9.trans (K10.trans K11));obtain⟨px,py,pn,pe,pn0,pn1⟩:=P9;have hel:(left.eraseIdx r.toNat).length=left.length-1:=by rw[List.length_eraseIdx,if_pos hr]
   o_head ⟨left.length-1,by omega,left.eraseIdx r.toNat,found++[left[r.toNat]],us.eraseIdx r.toNat,ws'++[y],rfl,hel.symm,by omega,by rw[wS,vZ];omega,λb o hb h=>E11 b o (hZ h hgr) (E10 b o (hZ h n1) ((X7.trans (S8.exc.trans E9)) b o hb h)),K7.trans K811,⟨px,py,pn,E11 p _ (We neg) (E10 p _ (We nef) pe),pn0,by omega⟩,E11 _ _ (We ngf) e10,?_,e11,?_,?_⟩
   . rw[<- A7]
     exact ao.keep K811 _ _ (by rw[A7];exact gL _) (t7.erase r.toNat)
   . rw[vt]
     refine(ao.keep K811 _ _ (gL _) tg7).append (.cons ?_ .nil);have e2:left.getD r.toNat 0=left[r.toNat]:=by rw[wa,wc hr];rfl
     rw[<- e2];exact iy.fZ K811
   . rw[Vt]
     exact(xh found (Mo left r.toNat hr)).trans pm
theorem LC{a b:Rat}{xs:List Rat}{w:String}(h:dG a b xs=some w):(w="one"/\(aj xs).length=1)\/(w="rests"/\(aj xs).length≠1)\/(w="drawn"/\(aj xs).length≠1/\a<1):=by
 unfold dG at h
 split at h
 ·rename_i z
  exact .inl ⟨(wP h).symm,z⟩
 ·rename_i z
  split at h
  ·split at h
   ·exact .inr (.inl ⟨(wP h).symm,z⟩)
   ·split at h
    ·rename_i y
     exact .inr (.inr ⟨(wP h).symm,z,y.1⟩)
    ·cases h
  ·cases h
def d_:wz:=.list [.str "long"]
theorem gk(w:String)(n:Nat):Sh 2 (b_ w n):=lM (pb ⟨by simp[Wa,Bq],by simp[Vj]⟩ (yx _))
theorem nk:Sh 2 d_:=⟨by simp[d_,Wa,Wm,Bq],by simp[d_,Vj,WC]⟩
theorem Cq(w w':String)(n m:Nat):wA (b_ w n) (b_ w' m)=(wA (.str (wG w)) (.str (wG w'))&&decide (n=m)):=by
 have e:wA (.int (n:Int)) (.int (m:Int))=decide (n=m):=by
  rw[wA,vy,beq_iff_eq,decide_eq_true_eq];omega
 rw[<- e];simp only[b_,wA,Wk,uh]
theorem zAz(w:String)(n:Nat):wA d_ (b_ w n)=false:=by simp[d_,b_,wA]
theorem Ko(w:String)(n:Nat):wA (b_ w n) d_=false:=by simp[d_,b_,wA]
theorem Ob:wA d_ d_=true:=by simp[d_,wA,Wk]
theorem Tp:wA (.str (wG "one")) (.str (wG "one"))=true:=by rw[wA];decide
theorem SA:wA (.str (wG "drawn")) (.str (wG "drawn"))=true:=by rw[wA];decide
theorem SO:wA (.str (wG "rests")) (.str (wG "rests"))=true:=by rw[wA];decide
theorem Lu:wA (b_ "one" 1) (b_ "one" 1)=true:=by rw[Cq,Tp];rfl
theorem zAX:wA (b_ "drawn" 2) (b_ "drawn" 2)=true:=by rw[Cq,SA];rfl
theorem Bt:wA (b_ "rests" 2) (b_ "rests" 2)=true:=by rw[Cq,SO];rfl
def yW(a b:Rat)(m n:Nat)(d:wz):Prop:=(1<a->d=b_ "one" 1\/d=d_)/\(a<1->d=b_ "drawn" 2\/d=b_ "one" 1\/d=d_)/\(a=1->(m≠n/\b≠0)\/d=b_ "rests" 2)
def Nk(K:wb):Sp:=λvs H Q _=>∃x0 x1 x2,vs=[x0,x1,x2] /\ ∃(a b:Rat)(m n:Nat)(d:wz),Is K H x0 (R a b)/\Is K H x1 (TZ [(m:Int),(n:Int)])/\Is K H x2 d/\aR a b/\yW a b m n d /\ ∀H',ah H H'->Q (.bl true) H'
theorem Og{K:wb}{H:Hp}{Q:VK}{E:XK}{a b:Rat}{m n:Nat}{d:wz}{v w u:V}(h1:Is K H v (R a b))(h2:Is K H w (TZ [(m:Int),(n:Int)]))(h3:Is K H u d)(ok:aR a b)(hb:yW a b m n d)(q:∀H',ah H H'->Q (.bl true) H'):Nk K [v,w,u] H Q E:=⟨_,_,_,rfl,a,b,m,n,d,h1,h2,h3,ok,hb,q⟩
theorem zh3(T:Txt K mg a):aO P w K mg base aT 3 a.Es a.El sj (Nk K):=by
 refine T.En.F.ok UQ ?_ ?_;wtm_at "b3"
 refine⟨_,(ak (bZ (cc (show aJ _ (wT .Eq) (cN K)from dk hu) (au (pA T) hr T.lW (ae (pv 0) af)) cz (bA _)) (av (aF (oM (dA (show aJ _ (wT .Eq) (cN K)from dk hu) (pv 2) (aW (ae cz (ae az af))) (bA _)) (gn (dA (show aJ _ (wT .Eq) (cN K)from dk hu) (pv 2) (cV (ae cz af)) (bA _)))))) b9)
     (ak (bZ (cc (show aJ _ (wT .Eq) (cN K)from dk hu) (au (pA T) hr T.lW (ae (pv 0) af)) cz (bA _)) (av (aF (oM (dA (show aJ _ (wT .In) (yt K)from Pa hu) (pv 2) (aW (ae (aW (ae cz (ae az af))) (ae (aW (ae cz (ae az af))) af))) (by with_unfolding_all rfl)) (gn (dA (show aJ _ (wT .Eq) (cN K)from dk hu) (pv 2) (cV (ae cz af)) (bA _)))))) b9)
     (av (aF (oM (fL (dA (show aJ _ (wT .NotEq) (ee K)from gJ hu) (ar (pv 1)) (ar (pv 1)) (bA _)) (gn (dA (show aJ _ (wT .NotEq) (ee K)from gJ hu) (ar (pv 0)) (aW (ae az (ae az af))) (bA _)))) (gn (dA (show aJ _ (wT .Eq) (cN K)from dk hu) (pv 2) (aW (ae cz (ae az af))) (bA _)))))))),?_⟩
 wtm_at "cl";rw[show start z9 [x0,x1,x2]=[some x0,some x1,some x2]from rfl];obtain⟨ra,rb,m,n,d,hr',hn',hd,ok,⟨q1,q2,q3⟩,q⟩:=h;have ba:=ok.ba.mono (show 10<=4000 by decide);o_head mm hr' ba ?_;unfold jz
 by_cases z1:1<ra
 . rw[if_pos z1]
   o_head gg _ _ true (by rw[wA];decide) ?_;o_head bX (ds:=[.str (wG "one"),.int ((1:Nat):Int)]) (by simp) (.cons (cU.mpr rfl) (.cons (bS.mpr rfl) .nil)) (λv1 H1 S1 i1=>?_);k_few;rcases q1 z1 with rfl | rfl
   . refine jZ (hd.by S1) (show Is K H1 v1 (b_ "one" 1)from i1) ((gk _ _).shaped (by decide)) ((gk _ _).shaped (by decide)) ?_
     rw[Lu];k_few;exact q _ S1
   . refine jZ (hd.by S1) (show Is K H1 v1 (b_ "one" 1)from i1) (nk.shaped (by decide)) ((gk _ _).shaped (by decide)) ?_
     rw[zAz];o_head d9 (by simp) (λl2 H2 n2 S2 e2=>?_);o_head jZ (d:=d_) (e:=d_) (hd.by (S1.trans S2)) (cu.mpr ⟨l2,_,rfl,.of e2,.cons (cU.mpr rfl) .nil⟩) (nk.shaped (by decide)) (nk.shaped (by decide)) ?_;rw[Ob];k_few;exact q _ (S1.trans S2)
 . rw[if_neg z1]
   by_cases z2:ra=1
   . rw[if_pos z2]
     o_head gg _ _ false (by rw[wA];decide) ?_;o_head mm hr' ba ?_;unfold jz;rw[if_neg z1,if_pos z2];o_head gg _ _ false (by rw[wA];decide) ?_;o_head mH hn' (by decide) (by simp) ?_;rw[show([(m:Int),(n:Int)]:List Int).getD (0:Int).toNat 0=(m:Int)from rfl];o_head mH hn' (by decide) (by simp) ?_;rw[show([(m:Int),(n:Int)]:List Int).getD (1:Int).toNat 0=(n:Int)from rfl];k_few
     . rename_i zmn vb ib
       refine fh (r:=0) rfl rfl (λv4 H4 S4 i4=>?_);refine Hx (ib.by S4) i4 ?_
       by_cases z4:rb=0
       . rw[decide_eq_true z4]
         k_few;rcases q3 z2 with⟨_,y⟩ | rfl
         . exact absurd z4 y
         refine bX (ds:=[.str (wG "rests"),.int ((2:Nat):Int)]) (by simp) (.cons (cU.mpr rfl) (.cons (bS.mpr rfl) .nil)) (λv1 H1 S1 i1=>?_);o_head jZ (hd.by (S4.trans S1)) (show Is K H1 v1 (b_ "rests" 2)from i1) ((gk _ _).shaped (by decide)) ((gk _ _).shaped (by decide)) ?_;rw[Bt];exact q _ (S4.trans S1)
       . rw[decide_eq_false z4]
         k_few;exact q _ S4
     . rename_i zmn
       rcases q3 z2 with⟨y,_⟩ | rfl
       . exact absurd (by omega) y
       refine bX (ds:=[.str (wG "rests"),.int ((2:Nat):Int)]) (by simp) (.cons (cU.mpr rfl) (.cons (bS.mpr rfl) .nil)) (λv1 H1 S1 i1=>?_);o_head jZ (hd.by S1) (show Is K H1 v1 (b_ "rests" 2)from i1) ((gk _ _).shaped (by decide)) ((gk _ _).shaped (by decide)) ?_;rw[Bt];exact q _ S1
   . rw[if_neg z2]
     have z3:ra<1:=by grind
     o_head gg _ _ false (by rw[wA];decide) ?_;o_head mm hr' ba ?_;unfold jz;rw[if_neg z1,if_neg z2];o_head gg _ _ true (by rw[wA];decide) ?_;o_head bX (ds:=[.str (wG "drawn"),.int ((2:Nat):Int)]) (by simp) (.cons (cU.mpr rfl) (.cons (bS.mpr rfl) .nil)) (λv1 H1 S1 i1=>?_);o_head bX (ds:=[.str (wG "one"),.int ((1:Nat):Int)]) (by simp) (.cons (cU.mpr rfl) (.cons (bS.mpr rfl) .nil)) (λv2 H2 S2 i2=>?_);o_head bX (ds:=[b_ "drawn" 2,b_ "one" 1]) (by simp) (.cons (i1.by S2) (.cons i2 .nil)) (λv3 H3 S3 i3=>?_);have S13:=S1.trans (S2.trans S3);have sh2:=(lM (pb (gk "drawn" 2) (gk "one" 1))).1;rcases q2 z3 with rfl | rfl | rfl
     . refine⟨_,_,hd.by S13,i3,(gk _ _).mono (by decide),sh2,?_⟩
       rw[show([b_ "drawn" 2,b_ "one" 1].any λe=>wA e (b_ "drawn" 2))=true by rw[WX,zAX];rfl];k_few;exact q _ S13
     . refine⟨_,_,hd.by S13,i3,(gk _ _).mono (by decide),sh2,?_⟩
       rw[show([b_ "drawn" 2,b_ "one" 1].any λe=>wA e (b_ "one" 1))=true by rw[WX,WX,Lu,Bool.true_or,Bool.or_true]];k_few;exact q _ S13
     . refine⟨_,_,hd.by S13,i3,nk.mono (by decide),sh2,?_⟩
       rw[show([b_ "drawn" 2,b_ "one" 1].any λe=>wA e d_)=false by rw[WX,WX,List.any_nil,Ko,Ko];rfl];o_head d9 (by simp) (λl2 H4 n4 S4 e4=>?_);o_head jZ (d:=d_) (e:=d_) (hd.by (S13.trans S4)) (cu.mpr ⟨l2,_,rfl,.of e4,.cons (cU.mpr rfl) .nil⟩) (nk.shaped (by decide)) (nk.shaped (by decide)) ?_;rw[Ob];k_few;exact q _ (S13.trans S4)
theorem Jq{a b:Rat}{xs:List Rat}(ok:aR a b)(hp:cY xs)(h0:0∈xs)(f:cZ a b (aQ xs) (a_ xs)=true):ai a b xs (aj xs).length=xs ↔ b8 a b (aQ xs) (a_ xs)=a_ xs:=by
 obtain⟨hz,hn,hs,L⟩:=m4 (a:=a) (b:=b) hp h0;have L1:=(sF ok L hn f).1;rw[hs]at L1;have v1:=t_ L1.pl L1.kM.pw L1.some
 constructor
 ·intro e
  rw[e,<- hz]at v1;exact(xw v1 (by rw[kx hn])).symm
 ·intro e
  have a1:=CU L1 (bR a b xs _);have a2:=CU L (n:=xs.length) rfl;rw[e]at a1;rw[<- a1,a2]
theorem NK(xs:List Rat)(v:Rat):(eC xs v).length=xs.count v:=by
 have e:(wt xs.length).map (λw=>xs.getD w 0)=xs:=by
  refine gH (by simp) λi hi=>?_
  rw[wm,vx]at hi;rw[wa,wu,vI hi]
  rfl
 have:xs.count v=((wt xs.length).map (λw=>xs.getD w 0)).count v:=by rw[e]
 rw[this];unfold eC List.count;rw[List.countP_map,<- List.countP_eq_length_filter];refine List.countP_congr λw _=>?_
 simp
theorem Hy{x:Rat}{m n:Nat}{xs:List Rat}(m1:1<=m)(n1:1<=n)(h:xs.Perm (w9 m x++w9 n 0))(y:Rat):y∈xs ↔ y=x\/y=0:=by
 rw[h.mem_iff,vX,x6,x6]
 constructor
 ·rintro (⟨_,e⟩ | ⟨_,e⟩)
  ·exact .inl e
  ·exact .inr e
 ·rintro (e | e)
  ·exact .inl ⟨by omega,e⟩
  ·exact .inr ⟨by omega,e⟩
theorem zww{x:Rat}(x0:0<x){m n:Nat}{xs:List Rat}(m1:1<=m)(n1:1<=n)(h:xs.Perm (w9 m x++w9 n 0)):aj xs=[x,0]/\aQ xs=[(m:Int),(n:Int)]:=by
 have hm:=Hy m1 n1 h;have ne:x≠0:=λe=>by rw[e]at x0;exact absurd x0 (by decide)
 have hv:aj xs=[x,0]:=D_ (h_ _ _) (by simp;exact x0) λy=>by
  constructor
  ·intro z
   have:=(hm y).mp (jE z)
   simpa using this
  ·intro z
   exact q_ ((hm y).mpr (by simpa using z))
 refine⟨hv,?_⟩;unfold aQ;rw[hv,wZ,wZ,qy,NK,NK,h.count_eq,h.count_eq,Xm,Xm,QI,QI,xx,xx,if_neg (by simpa using ne.symm),if_neg (by simpa using ne)];simp
theorem Ib{a b:Rat}(ok:aR a b){xs:List Rat}(hp:cY xs)(h0:0∈xs)(f:cZ a b (aQ xs) (a_ xs)=true)(r:b8 a b (aQ xs) (a_ xs)=a_ xs) :
  (∀k,ai a b xs (k+(aj xs).length)=ai a b xs k) /\ ∀k,(bW a b (ai a b xs k)).length=1:=by
 obtain⟨hz,hn,hs,L⟩:=m4 (a:=a) (b:=b) hp h0;have hb:=(Jq ok hp h0 f).mpr r;have W:=(sF ok L hn f).2.1;rw[hs]at W
 have per:∀k,ai a b xs (k+(aj xs).length)=ai a b xs k:=λk=>by
  rw[xQ,<- c9,hb]
 refine⟨per,λk=>?_⟩
 have hv:1<=(aj xs).length:=by
  have:=congrArg qj hz;rw[wS]at this;simp at this;omega
 induction k using Nat.strongRecOn with
 | ind k ih =>
  rcases wB k (aj xs).length with z | z
  ·rw[W k z];rfl
  ·have:=ih (k-(aj xs).length) (by omega)
   rw[<- per,Nat.sub_add_cancel z]at this;exact this
theorem Sa{a b:Rat}{xs:List Rat}(ok:cS a b xs)(h0:0∈xs)(h2:(aj xs).length=2)(f:cZ a b (aQ xs) (a_ xs)=true)(r:b8 a b (aQ xs) (a_ xs)=a_ xs) :
  eS a b xs [(0,0,1)] 1 "rests"/\(aj (ai a b xs 1)).length=2 /\ ∀k,ai a b xs (k+2)=ai a b xs k:=by
 obtain⟨per,wv⟩:=Ib ok.ok ok.hp h0 f r;rw[h2]at per;have a0:=ok.ok.a0;have b0:=ok.ok.b0;have hp1:=ok.hp.at a0 b0 1;have h01:=ok.hp.zero a0 b0 ok.h1 (wo 1)
 have v1:(aj (ai a b xs 1)).length=2:=by
  have e1:=lO a0 b0 ok.h1 ok.hp 1;have e2:=(sG a0 b0 (xs:=ai a b xs 1) (by rw[bR];exact ok.h1) hp1).1;have e3:cQ a b (ai a b xs 1)=xs:=per 0;rw[e3]at e2;omega
 obtain⟨hz,hn,hs,L⟩:=m4 (a:=a) (b:=b) hp1 h01
 have f1:cZ a b (aQ (ai a b xs 1)) (a_ (ai a b xs 1))=true:=by
  cases e:cZ a b (aQ (ai a b xs 1)) (a_ (ai a b xs 1))with
  | true=>rfl
  | false =>
   obtain⟨t,_,hj⟩:=Am ok.ok L hn e;rw[c9,wv]at hj;omega
 have r1:=(Jq ok.ok hp1 h01 f1).mp (by rw[v1,c9];exact per 1);refine⟨⟨⟨rfl,.inl ⟨rfl,rfl,rfl⟩,?_⟩,by simp,by simp,wo 1,?_,ok.one⟩,v1,per⟩
 ·show dD a b xs 0 0 1=1
  unfold dD;omega
 ·unfold dG
  rw[if_neg (by omega),if_pos f1,if_pos r1]
theorem UI{a b:Rat}{xs:List Rat}(h:dG a b xs=some "rests"):(aj xs).length≠1/\cZ a b (aQ xs) (a_ xs)=true/\b8 a b (aQ xs) (a_ xs)=a_ xs:=by
 unfold dG at h
 split at h
 ·exact absurd (wP h) (by decide)
 ·rename_i z
  split at h
  ·rename_i y
   split at h
   ·rename_i u
    exact⟨z,y,u⟩
   ·split at h
    ·exact absurd (wP h) (by decide)
    ·cases h
  ·cases h
theorem Px{a b:Rat}(ok:aR a b){xs ps:List Rat}{fl:Nat->Nat}{ns:List Int}(L:e_ xs (ps++[0]) fl ns)(hn:ns.length=ps.length+1)(n0:∀n∈ns,0<=n)(wv:∀k,(bW a b (ai a b xs k)).length=1):∀k,∀j,j<k->cg a b ns ps j=true
 | 0,j,hj=>by omega
 | k+1,j,hj=>by
  have ih:=Px ok L hn n0 wv k;rcases wB j k with z | z
  ·exact ih j z
  ·have:j=k:=by omega
   subst this;obtain⟨Lk,_⟩:=lQ ok L hn n0 j ih;cases e:cg a b ns ps j with
   | true=>rfl
   | false =>
    obtain⟨t,_,hw⟩:=Am ok Lk (by rw[c6];exact hn) e;rw[c9,wv]at hw;omega
theorem ZL{a b:Rat}{xs:List Rat}(ok:cS a b xs)(h0:0∈xs)(h2:(aj xs).length=2)(hF:a^(aQ xs).sum.toNat≠1){es:List (Nat × Nat × Nat)}{n:Nat}(P:eS a b xs es n "rests"):a_ xs=ck a b (aQ xs):=by
 obtain⟨w1,f,r⟩:=UI P.word;have a0:=ok.ok.a0;have b0:=ok.ok.b0;have hpn:=ok.hp.at a0 b0 n;have h0n:=ok.hp.zero a0 b0 ok.h1 P.n1;obtain⟨per,wv⟩:=Ib ok.ok hpn h0n f r
 have vn:(aj (ai a b xs n)).length=2:=by
  have:=lO a0 b0 ok.h1 ok.hp n;have:=(ok.nf n).1;omega
 rw[vn]at per
 have wave:∀k,(bW a b (ai a b xs k)).length=1:=λk=>by
  rcases wB k n with z | z
  ·have hk:1<=(ai a b xs k).length:=by rw[bR];exact ok.h1
   have hpk:=ok.hp.at a0 b0 k;have w1:=Jg a0 b0 hk hpk;have e1:=lO a0 b0 ok.h1 ok.hp k;have e2:=(sG a0 b0 hk hpk).2;have e3:=lO a0 b0 (xs:=ai a b xs (k+1)) (by rw[bR];exact ok.h1) (ok.hp.at a0 b0 _) (n-(k+1));rw[c9,show k+1+(n-(k+1))=n by omega,vn]at e3
   have e4:¬ 1<(bW a b (ai a b xs k)).length:=λy=>by
    have:=e2 y;have e5:(aj (ai a b xs (k+1))).length=(aj (cQ a b (ai a b xs k))).length:=rfl;omega
   omega
  ·have:=wv (k-n)
   rw[c9,show n+(k-n)=k by omega]at this;exact this
 obtain⟨hz,hn,hs,L⟩:=m4 (a:=a) (b:=b) ok.hp h0;have sz:=AE ok.h1 (show xs.length<=8 by have:=ok.h6;omega);have fr:=Px ok.ok L hn sz.nn wave;obtain⟨L1,_⟩:=lQ ok.ok L hn sz.nn n (fr n);obtain⟨L2,_⟩:=lQ ok.ok L hn sz.nn (n+1) (fr (n+1));have v1:=t_ L1.pl L1.kM.pw L1.some;have v2:=t_ L2.pl L2.kM.pw L2.some;rw[hs,h2]at v1 v2
 have e:ai a b xs ((n+1)*2)=ai a b xs (n*2):=by
  have:=per n;rw[c9,c9]at this;rw[show(n+1)*2=n+(n+2) by omega,show n*2=n+n by omega];exact this
 rw[e,v1]at v2;have e2:=xw v2 (by rw[c6,c6]);have hsl:(ck a b (aQ xs)).length=(a_ xs).length:=by rw[pz sz.some];omega
 have hpt:=lu (lu a0 (aQ xs).sum.toNat) n;refine gH hsl.symm λi hi=>?_
 have k1:=congrArg (λl=>l.getD i 0) e2;simp only[Nz hF hn]at k1;rw[jQ hsl (by omega),jQ hsl (by omega),WK]at k1;generalize (a_ xs).getD i 0=x at *;generalize (ck a b (aQ xs)).getD i 0=y at *;generalize a^(aQ xs).sum.toNat=F at *;generalize F^n=G at *;have k2:G*(x-y)*(1-F)=0:=by grind
 rcases qV.mp k2 with k | k
 ·rcases qV.mp k with k | k
  ·rw[k]at hpt;exact absurd hpt (by decide)
  ·grind
 ·exact absurd (by grind) hF
theorem AO(b x:Rat):∀n:Nat,push 1 b n x=x+((n:Int):Rat)*b
 | 0=>by
  show x=x+((0:Int):Rat)*b
  have e:((0:Int):Rat)=0:=rfl;rw[e];grind
 | n+1=>by
  have ek:(((n+1:Nat):Int):Rat)=((n:Int):Rat)+1:=by push_cast;rfl
  rw[push,AO b x n,ek]
  grind
theorem Nx{b x:Rat}{m n:Nat}(h:m=n\/b=0):b8 1 b [(m:Int),(n:Int)] [x]=[x]:=by
 have e:aM 1 b [(m:Int),(n:Int)] [x,0] 2=[x,0]:=by
  refine gH (by rw[cw]) λi hi=>?_
  rw[cw]at hi;rw[aM,fi _ _ _ _ _ _ (by rw[cw];exact hi)];have hi:i<2:=hi;rcases (show i=0\/i=1 by omega)with rfl | rfl
  ·rw[if_neg (by decide),aM,fi _ _ _ _ _ _ (show 0<2 by decide),fi _ _ _ _ _ _ (show 1<2 by decide),if_pos rfl,if_neg (by decide),AO,AO]
   show 0+(1-(0+(1-x)+((m:Int):Rat)*b))+((n:Int):Rat)*b=x
   rcases h with rfl | rfl
   ·grind
   ·grind
  ·rw[if_pos rfl];rfl
 unfold b8
 show(aM 1 b [(m:Int),(n:Int)] [x,0] 2).dropLast=[x]
 rw[e]
 rfl
theorem zrQ:fS 0:=by
 have h:=Pc (r:=0) (u:=1) (by decide) (by decide) (by decide);rw[show wx 0 1=0 by decide +kernel]at h;exact h
theorem yI{m n:Nat}(m1:1<=m)(m3:m<=3)(n1:1<=n)(n3:n<=3):cA [(m:Int),(n:Int)] :=
 ⟨by simp,by simp,λk hk=>by
  rcases wQ.mp hk with rfl | hk
  ·omega
  ·rw[wX.mp hk];omega,by simp;omega⟩
theorem SF{m:Nat}{x:Rat}(b:ag m x):Cm m [x]:=⟨(x.den:Int),den_pos x,b.b,λy hy=>by
 rw[wX.mp hy];exact⟨x.num,(Vi x).symm,b.t⟩⟩
theorem Ld{a b x:Rat}{m n:Nat}{k:Nat}(ok:aR a b)(m1:1<=m)(m3:m<=3)(n1:1<=n)(n3:n<=3)(bx:ag k x)(hk:k<=1000):cJ a b [(m:Int),(n:Int)] [x]:=by
 have sz:=yI m1 m3 n1 n3;have hu:=sz.upTo;refine⟨ok.ba,ok.bb,λj hj=>by have:=sz.each j hj;omega,rfl,by simp,⟨k,SF bx,?_⟩⟩;have:([(m:Int),(n:Int)]:List Int).length=2:=rfl;omega
structure Dp(a b x:Rat)(m n:Nat)(xs:List Rat):Prop where
 bg:cS a b xs
 vals:aj xs=[x,0]
 lX:aQ xs=[(m:Int),(n:Int)]
 places:a_ xs=[x]
 h0:0∈xs
theorem JE{a b x:Rat}{m n:Nat}{xs:List Rat}(ok:aR a b)(px:fS x)(x0:0<x)(m1:1<=m)(m3:m<=3)(n1:1<=n)(n3:n<=3)(h:xs.Perm (jm x m n)):Dp a b x m n xs:=by
 unfold jm at h;obtain⟨hv,hs⟩:=zww x0 m1 n1 h;have hm:=Hy m1 n1 h;have hl:=h.length_eq;rw[wS,Ww,Ww]at hl;refine⟨⟨ok,by omega,by omega,λy hy=>?_⟩,hv,hs,by unfold a_;rw[hv];rfl,(hm 0).mpr (.inr rfl)⟩;rcases (hm y).mp hy with rfl | rfl
 ·exact px
 ·exact zrQ
theorem Tb{a b x:Rat}{m n:Nat}(hx:ji a b [(m:Int),(n:Int)]=x)(ok:aR a b)(m1:1<=m)(m3:m<=3)(n1:1<=n)(n3:n<=3)(h:a≠1\/m=n\/b=0):b8 a b [(m:Int),(n:Int)] [x]=[x]:=by
 have sz:=yI m1 m3 n1 n3;have hps:=sz.pos
 by_cases ha:a=1
 ·subst ha
  exact Nx (h.resolve_left λz=>z rfl)
 ·have hF:a^([(m:Int),(n:Int)]:List Int).sum.toNat≠1:=λe=>ha ((oZ ok (by omega)).mp e)
  have:=UT (a:=a) (b:=b) sz.some sz.nn hF;rw[Pq hF,hx]at this;exact this
theorem Pm{a b x:Rat}{m n:Nat}{xs:List Rat}(T:Dp a b x m n xs)(f:cZ a b [(m:Int),(n:Int)] [x]=true)(r:b8 a b [(m:Int),(n:Int)] [x]=[x]):eS a b xs [(0,0,1)] 1 "rests"/\(aj (ai a b xs 1)).length=2 /\ ∀k,ai a b xs (k+2)=ai a b xs k :=
 Sa T.bg T.h0 (by rw[T.vals];rfl) (by rw[T.lX,T.places];exact f) (by rw[T.lX,T.places];exact r)
theorem zsf{a b x y:Rat}{m n:Nat}{xs:List Rat}(hx:ji a b [(m:Int),(n:Int)]=x)(m1:1<=m)(m3:m<=3)(n1:1<=n)(n3:n<=3)(T:Dp a b y m n xs)(f:cZ a b [(m:Int),(n:Int)] [y]=true)(ne:y≠x) :
  (km a b xs->yW a b m n d_) /\ ∀es k w,eS a b xs es k w->yW a b m n (b_ w (aj (ai a b xs k)).length):=by
 have sz:=yI m1 m3 n1 n3;have hps:=sz.pos
 have even:a=1->(m≠n/\b≠0)\/(eS a b xs [(0,0,1)] 1 "rests"/\(aj (ai a b xs 1)).length=2):=λha=>by
  by_cases z:m=n\/b=0
  ·subst ha
   have:=Pm T f (Nx z);exact .inr ⟨this.1,this.2.1⟩
  ·exact .inl ⟨λe=>z (.inl e),λe=>z (.inr e)⟩
 refine⟨λF=>⟨λ_=>.inr rfl,λ_=>.inr (.inr rfl),λha=>?_⟩,λes k w P=>?_⟩
 ·rcases even ha with h | h
  ·exact .inl h
  ·exact absurd F (J5 h.1)
 ·have v2:(aj xs).length=2:=by rw[T.vals];rfl
  have two:(aj (ai a b xs k)).length≠1->(aj (ai a b xs k)).length=2:=λh=>by
   have:=lO T.bg.ok.a0 T.bg.ok.b0 T.bg.h1 T.bg.hp k;have:=(T.bg.nf k).1;omega
  have nor:a≠1->w≠"rests":=λha e=>by
   subst e
   have hF:a^(aQ xs).sum.toNat≠1:=λe=>by
    rw[T.lX]at e;exact ha ((oZ T.bg.ok (by omega)).mp e)
   have h:=ZL T.bg T.h0 v2 hF P;rw[T.lX]at hF;rw[T.places,T.lX,Pq hF,hx]at h;exact ne (List.cons.inj h).1
  refine⟨λha=>?_,λha=>?_,λha=>?_⟩
  ·rcases LC P.word with⟨rfl,e⟩ | ⟨rfl,_⟩ | ⟨rfl,_,z⟩
   ·rw[e];exact .inl rfl
   ·exact absurd rfl (nor (λe=>by rw[e]at ha;exact absurd ha (by decide)))
   ·exact absurd z (by grind)
  ·rcases LC P.word with⟨rfl,e⟩ | ⟨rfl,_⟩ | ⟨rfl,z,_⟩
   ·rw[e];exact .inr (.inl rfl)
   ·exact absurd rfl (nor (λe=>by rw[e]at ha;exact absurd ha (by decide)))
   ·rw[two z];exact .inl rfl
  ·rcases even ha with h | ⟨h,e⟩
   ·exact .inl h
   ·obtain⟨_,rfl,rfl⟩:=KN h P
    rw[e];exact .inr rfl
abbrev oA:=Rat × List (List Nat) × List Rat
def oV(r:oA):wz:=gQ r.1 r.2.1 r.2.2
def eA(r:oA):wz:=.tuple [gB r.2.1,TN r.2.2]
theorem zun(r:oA):cB (eA r)=true:=by rw[eA,cB,b7,b7,b7,Jz,oU];rfl
theorem zvC{a b:Rat}{xs:List Rat}(per:∀k,ai a b xs (k+2)=ai a b xs k):∃(h0 h1 h2 h3 h4 h5:Rat)(w0 w1:List (List Nat))(p:List Rat),fj a b xs 6=[(h0,w0,p),(h1,w1,xs),(h2,w0,p),(h3,w1,xs),(h4,w0,p),(h5,w1,xs)].map oV:=by
 refine⟨aN a b xs 1,aN a b xs 2,aN a b xs 3,aN a b xs 4,aN a b xs 5,aN a b xs 6,bW a b xs,bW a b (ai a b xs 1),ai a b xs 1,?_⟩;have p2:ai a b xs 2=xs:=per 0;have p3:ai a b xs 3=ai a b xs 1:=per 1;have p4:ai a b xs 4=xs:=(per 2).trans p2;have p5:ai a b xs 5=ai a b xs 1:=(per 3).trans p3;have p6:ai a b xs 6=xs:=(per 4).trans p4;have e:fj a b xs 6=[gQ (aN a b xs 1) (bW a b xs) (ai a b xs 1),gQ (aN a b xs 2) (bW a b (ai a b xs 1)) (ai a b xs 2),gQ (aN a b xs 3) (bW a b (ai a b xs 2)) (ai a b xs 3),gQ (aN a b xs 4) (bW a b (ai a b xs 3)) (ai a b xs 4),gQ (aN a b xs 5) (bW a b (ai a b xs 4)) (ai a b xs 5),gQ (aN a b xs 6) (bW a b (ai a b xs 5)) (ai a b xs 6)]:=rfl;rw[e,p2,p3,p4,p5,p6]
 rfl
theorem Tf{g:TG}{n:Int}{tb:TS}{D:cj}{σ : L2.St}{H:Hp}(h0 : -1000000000<=n)(h1:n<1000000000)(Pv:Nat->L2.St->Hp->Prop)(p:Pv 0 σ H)
  (hs:∀(i:Nat) σ H (D':cj),i<n.toNat->Pv i σ H->(∀σ2 H2,Pv (i+1) σ2 H2->D'.nx σ2 H2)->D'.rt=D.rt->g (.int (i:Int)) σ H λσ2 H2=>tb D' σ2 H2)
  (hd:∀σ H,Pv n.toNat σ H->D.nx σ H):DS g tb D σ [.int n] H:=ng h0 h1 Pv p (λi σ H hi hp=>hs i σ H _ hi hp (λ_ _ h=>h) rfl) hd
def yz(K:wb):Sp:=λvs H Q _=>∃x0,vs=[x0] /\ ∃(a:wg)(ns:List Int),x0=.ref a/\jy K H a (ns.map V.int)/\ns.length<=63 /\ ∀H',Q (.bl true) H'
theorem zA1(T:Txt K mg a):aO P w K mg base aT 16 a.law a.G6 yr (yz K):=by
 refine T.RN.F.ok gj ?_ ?_;wtm_at "b1"
 refine⟨_,(ak (gF vG rfl (kW rfl T.z_range (ae az af)) (bK (i:=1) gj.nd rfl (Or.inl rfl)) (ak (ay 2 gj.nd (au (zr9 T) hr T.F9 (ae (pv 0) (ae (pv 1) af))))
     (ak (ay 3 gj.nd (au (zi5 T) hr T.Et (ae (pv 2) af)))
     (ak (ay 4 gj.nd (aC cC az (au (kG T) hr T.jq (ae (pv 2) (ae az af)))))
     (ak (ay 5 gj.nd (aW (ae (pv 4) (ae (d5 dy (cV (ae (pv 4) (ae (aC cC az (au (kG T) hr T.jq (ae (pv 2) (ae az af)))) af))) (au (kG T) hr T.jq (ae (pv 2) (ae az af))) (λ_ _=>rfl)) af))))
     (ak (ay 6 gj.nd (au (Ss T) hr T.FE (ae (pv 3) (ae (pv 5) af))))
     (ak (ay 7 gj.nd (fL (dA nF (ar (pv 6)) az (bA _)) (fL (dA l_ (ar (pv 6)) (ar (pv 6)) (bA _)) (gn (dA mK (ar (pv 6)) az (bA _))))))
     (ak (ay 8 gj.nd (oM (dA (show aJ _ (wT .NotEq) (ee K)from gJ hu) (au (pA T) hr T.lW (ae (pv 3) af)) cz (bA _)) (oM (dA (show aJ _ (wT .Eq) (cN K)from dk hu) (ar (pv 5)) (ar (pv 5)) (bA _)) (gn (dA (show aJ _ (wT .Eq) (cN K)from dk hu) (ar (pv 3)) (aW (ae az (ae az af))) (bA _))))))
     (ak (bZ (PW.pt (zl (cR (pv 7)) (zl (cR (pv 8)) (BC (cR (au (pj T) hr T.lV (ae (pv 3) (ae (pv 5) (ae (aW (ae (pv 6) af)) af))))))))) (ak (ay 9 gj.nd (au (Nm T) hr T.zM (ae (pv 3) (ae (au (HW T) hr T.zI (ae (pv 2) (ae (pv 5) (ae (pv 6) af)))) af))))
     (ak (ay 10 gj.nd (au (Mc T) hr T.zR (ae (pv 9) (ae az af))))
     (ak (bZ (PW.pt (kR (cc (show aJ _ (wT .NotEq) (ee K)from gJ hu) (au (IY T) hr T.zN (ae (pv 9) af)) (aW (ae cz (ae az af))) (bA _)) (lE (cc (show aJ _ (wT .NotEq) (ee K)from gJ hu) (ar (ar (pv 10))) (ar (pv 9)) (bA _))))) (av (aF iU)) b9)
     (av (bZ (cc (show aJ _ (wT .NotEq) (ee K)from gJ hu) (dZ rfl (cq.by (N':=["_law_row"]) (src:=[none]) rfl (show cH _ (aA nC).names zp ["_law_row"] [none]=true from by decide +kernel)) (gK (jC jH (pv 10) jx (jX az))) (λ_ _ _ _ _=>(bK (i:=0) (show(["_law_row"]:List Str).Nodup from by decide) rfl (Or.inl rfl))) (λ_ _ _ _ _=>dE) (λ_ _ _ _ _=>(jC (show jb _ (nv K)from jH) (pv 0) (jX az) jx))) (dZ rfl (cq.by (N':=["_law_row"]) (src:=[none]) rfl (show cH _ (aA nC).names zp ["_law_row"] [none]=true from by decide +kernel)) (gK (jC jH (pv 10) (jX az) jx)) (λ_ _ _ _ _=>(bK (i:=0) (show(["_law_row"]:List Str).Nodup from by decide) rfl (Or.inl rfl))) (λ_ _ _ _ _=>dE) (λ_ _ _ _ _=>(jC (show jb _ (nv K)from jH) (pv 0) (jX az) jx))) (bA _)) (av (aF iU)) b9))))) b9)
     (ak (ay 11 gj.nd (aC cC az (au (kG T) hr T.jq (ae (pv 2) (ae az af)))))
     (ak (ay 12 gj.nd (au (kh T) hr T.jr (ae (pv 11) (ae az af))))
     (av (bZ (PW.pt (zl (cR (au (pj T) hr T.lV (ae (pv 3) (ae (pv 5) (ae (aW (ae (pv 12) af)) af))))) (BC (cc (show aJ _ (wT .NotEq) (ee K)from gJ hu) (pv 12) (pv 6) (bA _))))) (av (bZ (dS (cR (au (zh3 T) hr T.En (ae (pv 3) (ae (pv 5) (ae (au (IY T) hr T.zN (ae (au (Nm T) hr T.zM (ae (pv 3) (ae (au (HW T) hr T.zI (ae (pv 2) (ae (pv 5) (ae (pv 12) af)))) af))) af)) af)))))) (av (aF iU)) b9)) b9)))))))))))))
     (av (aF iU))),?_⟩
 wtm_at "cl";rw[show start zp [x0]=[some x0,none,none,none,none,none,none,none,none,none,none,none,none]from rfl];obtain⟨a',ns0,rfl,hs,hl,q⟩:=h;o_head Tf (n:=3) (by decide) (by decide) (λi σ H'=>br H H' /\ ∃(o1 o2 o3 o4 o5 o6 o7 o8 o9 o10 o11 o12:Option V),σ = [some (.ref a'),o1,o2,o3,o4,o5,o6,o7,o8,o9,o10,o11,o12]) ⟨br.refl _,_,_,_,_,_,_,_,_,_,_,_,_,rfl⟩ ?_ ?_
 . rintro i σ H0 D' hi ⟨K0,o1,o2,o3,o4,o5,o6,o7,o8,o9,o10,o11,o12,rfl⟩ hnx hrt
   have hi:i<3:=by simpa using hi
   have hrt:D'.rt=Q:=hrt;o_head zsj (K0.NL hs) hl (by omega) (by omega) (λp1 H1 hp1 S1 P1=>?_);o_head zjA P1 (by decide) (λv2 H2 ra rb E2 K2 P2 i2 ok=>?_);have KA:br H H2:=K0.trans (S1.keep.trans K2);clear E2 K2 S1 P1 K0;wtm_at "ga";rename_i r1 H3 r10 r13 E3 K3 P3 r2 H4 r20 r23 E4 K4 P4 la H5 n5 S5 e5 r3 H6 j4 r32 E6 K6 P6 z hz vz H7 S7 iz;obtain⟨m,hm⟩:∃m:Nat,(m:Int)=1+r1:=⟨(1+r1).toNat,by omega⟩;obtain⟨n,hn⟩:∃n:Nat,(n:Int)=z:=⟨z.toNat,by omega⟩;rw[<- hm,<- hn]at iz;have iz:Is K H7 vz (TZ [(m:Int),(n:Int)]):=iz;have m1:1<=m:=by omega
   have m3:m<=3:=by omega
   have n1:1<=n:=by omega
   have n3:n<=3:=by omega
   have KB:br H H7:=KA.trans (K3.trans (K4.trans (S5.keep.trans (K6.trans S7.keep))));have i7:=i2.lZ (K3.trans (K4.trans (S5.keep.trans (K6.trans S7.keep))));have P7:=P6.same S7;clear E3 K3 P3 E4 K4 P4 n5 S5 e5 E6 K6 P6 S7 i2 KA P2 hz r20 r23 j4 r32;have sz:=yI m1 m3 n1 n3;refine zps i7 iz ok sz rfl (λvp H8 S8 ip=>?_);have hip:Is K H8 vp (N (ji ra rb [(m:Int),(n:Int)]))/\True:=⟨ip,trivial⟩;have i8:=i7.by S8;have iz8:=iz.by S8;have P8:=P7.same S8;have KC:=KB.trans S8.keep;generalize hx:ji ra rb [(m:Int),(n:Int)]=x at *;clear ip i7 iz P7 KB S8;k_few
   have main:∀kf:Bool,(kf=true->0<x/\x<1/\x.den<=60)->tl_ D' [some (.ref a'),some (.int (i:Int)),some (.ref p1),some v2,some (.int (1+r1)),some vz,some vp,some (.bl kf),o8,o9,o10,o11,o12] H8:=by
     intro kf hkf;have ip:=hip.1;k_few
     have main:∀(kr:Bool)(Hb:Hp),ah H8 Hb->(kr=true->ra≠1\/m=n\/rb=0)->tl_ D' [some (.ref a'),some (.int (i:Int)),some (.ref p1),some v2,some (.int (1+r1)),some vz,some vp,some (.bl kf),some (.bl kr),o9,o10,o11,o12] Hb:=by
       intro kr Hb Sb hkr;have i8:=i8.by Sb;have iz8:=iz8.by Sb;have ip:=ip.by Sb;have P8:=P8.same Sb;have KC:=KC.trans Sb.keep;clear hip Sb;wtm_at "tl";wtm_at "sq"
       have main:∀(H9:Hp)(o9 o10:Option V),br Hb H9->cF H9 p1 14->tl_ D' [some (.ref a'),some (.int (i:Int)),some (.ref p1),some v2,some (.int (1+r1)),some vz,some vp,some (.bl kf),some (.bl kr),o9,o10,o11,o12] H9:=by
         intro H9 o9 o10 K9 P9;have KD:=KC.trans K9;have i9:=i8.lZ K9;have iz9:Is K H9 vz (TZ [(m:Int),(n:Int)]):=Is.keep K9 _ vz (sv _) iz8;have ip9:=ip.fZ K9;clear ip i8 iz8 P8 KC K9 hkr hkf;k_few;rename_i r4 H10 r40 r41 E10 K10 P10 vo H11 y S11 io ey by';have K911:=K10.trans S11.keep;have iR:=i9.lZ K911;have iZ:Is K H11 vz (TZ [(m:Int),(n:Int)]):=Is.keep K911 _ vz (sv _) iz9;have iP:=ip9.fZ K911;have KE:=KD.trans K911;have P11:=P10.same S11;have ry:0<=1+r4/\1+r4<60:=by omega
         have py:fS y:=by rw[ey];exact Pc ry.1 ry.2 (by decide)
         have y0:0<y:=VS py.nn λh=>by
           have:=cE (1+r4) (show(60:Int)≠0 by decide);rw[<- ey,<- h]at this;have e2:((1+r4:Int):Rat)=((0:Int):Rat):=by rw[<- this];grind
           have:=Rat.intCast_inj.mp e2;omega
         clear E10 K10 P10 S11 i9 iz9 ip9 KD K911 P9;refine bX (ds:=[N y]) (by simp) (.cons io .nil) (λv12 H12 S12 i12=>?_);o_head pV (iR.by S12) (iZ.by S12) (show Is K H12 v12 (TN [y])from i12) (Ld ok m1 m3 n1 n3 by' (by decide)) (λH13 S13=>?_);have S1:=S12.trans S13;have iR13:=iR.by S1;have iZ13:=iZ.by S1;have iP13:=iP.by S1;have io13:=io.by S1;have KF:=KE.trans S1.keep;have P13:=P11.same S1;clear iR iZ iP io KE P11 S12 S13 S1 i12;cases hfr:cZ ra rb [(m:Int),(n:Int)] [y]
         . k_few
           exact hnx _ _ ⟨KF,_,_,_,_,_,_,_,_,_,_,_,_,rfl⟩
         . k_few
           . rename_i hyx
             have hyx:y≠x:=by simpa using hyx
             refine Jj P13 (by decide) iZ13 io13 m3 n3 (λl14 H14 us14 zs14 E14 K14 P14 e14 t14 pm14=>?_);have T14:=JE (a:=ra) (b:=rb) ok py y0 m1 m3 n1 n3 pm14;have iR14:=iR13.lZ K14;have iZ14:Is K H14 vz (TZ [(m:Int),(n:Int)]):=Is.keep K14 _ vz (sv _) iZ13;have KG:=KF.trans K14;have h6:=T14.bg.h6;clear iR13 iZ13 iP13 io13 P13 KF E14 K14 P14;o_head MP iR14 ok (.inl (dB e14 t14)) T14.bg.h1 (by omega) T14.bg.ph (λvw H15 S15 iw=>?_);have bo:=zsf hx m1 m3 n1 n3 T14 hfr hyx;o_head Hz iw T14.bg (λF l H16 S16 e16=>?_) (λes k wd vf H16 P S16 iF=>?_)
             . have S14:=S15.trans S16
               o_head Og (iR14.by S14) (iZ14.by S14) (d:=d_) (cu.mpr ⟨l,_,rfl,.of e16,.cons (cU.mpr rfl) .nil⟩) ok (bo.1 F) (λH17 S17=>?_);k_few;exact hnx _ _ ⟨KG.trans (S14.keep.trans S17.keep),_,_,_,_,_,_,_,_,_,_,_,_,rfl⟩
             . have S14:=S15.trans S16
               o_head Og (iR14.by S14) (iZ14.by S14) iF ok (bo.2 es k wd P) (λH17 S17=>?_);k_few;exact hnx _ _ ⟨KG.trans (S14.keep.trans S17.keep),_,_,_,_,_,_,_,_,_,_,_,_,rfl⟩
           . exact hnx _ _ ⟨KF,_,_,_,_,_,_,_,_,_,_,_,_,rfl⟩
       wtm_at "gt"
       . rename_i y1 y2
         obtain⟨x0,x1,xd⟩:=hkf y1;have px:fS x:=⟨vS x0,x1,xd⟩;have bk:=Tb hx ok m1 m3 n1 n3 (hkr y2);refine bX (ds:=[N x]) (by simp) (.cons ip .nil) (λv12 H12 S12 i12=>?_);wtm_at "gt";refine pV (i8.by S12) (iz8.by S12) (show Is K H12 v12 (TN [x])from i12) (Ld ok m1 m3 n1 n3 px.fo (by decide)) (λH13 S13=>?_);have S1:=S12.trans S13;cases hfr:cZ ra rb [(m:Int),(n:Int)] [x]
         . wtm_at "gt"
           exact main _ _ _ S1.keep ((P8.same S1).le (by decide))
         . have iR13:=i8.by S1
           have iZ13:=iz8.by S1;have iP13:=ip.by S1;have P13:=P8.same S1;have KF:=S1.keep;clear S12 S13 S1 i12;wtm_at "gt";refine Jj P13 (by decide) iZ13 iP13 m3 n3 (λl14 H14 us14 xs E14 K14 P14 e14 t14 pm14=>?_);have T14:=JE (a:=ra) (b:=rb) ok px x0 m1 m3 n1 n3 pm14;obtain⟨PP,v2',per⟩:=Pm T14 hfr bk;have bg:=T14.bg;have iR14:=iR13.lZ K14;have KG:=KF.trans K14;have h6:=bg.h6;clear iR13 iZ13 iP13 P13 KF E14 K14;wtm_at "gt";refine MP iR14 ok (.inl (dB e14 t14)) bg.h1 (by omega) bg.ph (λvw H15 S15 iw=>?_);have KH:=KG.trans S15.keep;have P15:=P14.same S15;clear iR14 e14 t14 KG P14 S15 pm14;wtm_at "gt";wtm_at "tl";wtm_at "gt"
           refine Kw (n:=6) iw ok.ba ok.bb bg.h1 (by omega) (by decide) (by decide) (λt ht=>(bg.cm (i:=t) (by
             have h1:=oK ok.a0 ok.b0 bg.h1 bg.hp t;have ht:t<=6:=ht;have h2:t*xs.length<=6*6:=VB ht h6;omega) (by have ht:t<=6:=ht;omega)).mono (by decide)) (λlr H16 n16 S16 i16=>?_)
           have i16:Is K H16 (.ref lr) (.list (fj ra rb xs 6)):=i16;obtain⟨h0,h1,h2,h3,h4,h5,w0,w1,ph,e6⟩:=zvC per;rw[e6]at i16;clear e6;wtm_at "gt";wtm_at "tl";wtm_at "gt";refine Hz (iw.by S16) bg (λF=>absurd F (J5 PP)) (λes k wd vf H17 P S17 iF=>?_);obtain⟨rfl,rfl,rfl⟩:=KN PP P;rw[v2']at iF;clear per PP P v2';wtm_at "gt";refine bX (ds:=[.str (wG "rests"),.int ((2:Nat):Int)]) (by simp) (.cons (cU.mpr rfl) (.cons (bS.mpr rfl) .nil)) (λv18 H18 S18 i18=>?_);refine kI (iF.by S18) (show Is K H18 v18 (b_ "rests" 2)from i18) ((gk _ _).shaped (by decide)) ((gk _ _).shaped (by decide)) ?_;rw[Bt];have S68:=S17.trans S18;have i18':=i16.by S68;have iw18:=iw.by (S16.trans S68);have KI:=KH.trans (S16.keep.trans S68.keep);have P18:=P15.same (S16.trans S68);clear iw i16 iF i18 KH P15 S16 S17 S18 S68;wtm_at "gt";refine zy8 (j:=5) i18' (d:=gQ h5 w1 xs) rfl (λv19 i19=>?_);wtm_at "gt";refine aG (j:=2) i19 rfl (λv20 i20=>?_);wtm_at "gt";refine aG (j:=1) iw18 rfl (λv21 i21=>?_);refine Z7 (show Is K H18 v20 (TN xs)from i20) i21 ?_;rw[show(!decide (xs=xs))=false by rw[decide_eq_true rfl];rfl];clear i19 i20 i21 iw18;wtm_at "gt";wtm_at "tl";wtm_at "gt";refine pX i18' (λl22 H22 ys22 n22 S22 e22 t22=>?_);have t22:ao K H22 ys22 ([(h0,w0,ph),(h1,w1,xs),(h2,w0,ph),(h3,w1,xs)].map oV):=t22;wtm_at "gt";have rel:∀(r:oA)(v:V)(H1 H2:Hp),br H1 H2->Is K H1 v (eA r)->Is K H2 v (eA r):=λr v H1 H2 k h=>h.kn k (zun r)
           refine jA (.of e22) (o0:=none) (tl:=[]) rfl (λj y H'=>Is K H' y (eA ([(h0,w0,ph),(h1,w1,xs),(h2,w0,ph),(h3,w1,xs)].getD j (0,[],[])))) ?_ ?_
           . intro D23 j x23 ys23 o23 H23 hx23 inv
             obtain⟨hj,ix⟩:=lH t22 hx23
             have ix:Is K H23 x23 (oV ([(h0,w0,ph),(h1,w1,xs),(h2,w0,ph),(h3,w1,xs)].getD j (0,[],[]))):=by
               have ix:=ix.by inv.same;rw[wa,wu]at ix;rw[wa];rw[wm]at hj;rw[wc hj]at ix ⊢;exact ix
             generalize hr':[(h0,w0,ph),(h1,w1,xs),(h2,w0,ph),(h3,w1,xs)].getD j (0,[],[])=r at ix;have hj4:j<4:=hj;o_head Cz (lo:=some 1) (hi:=none) (ds:=[N r.1,gB r.2.1,TN r.2.2]) ix (λh=>absurd (show HT.aZ 3 0 (some 1)=0 from h.1) (by decide)) (λw24 H24 S24 i24=>?_);o_head dW inv (by omega) (λ_ _ _ _ k z=>rel _ _ _ _ k z) ⟨_,rfl⟩ S24 ?_
             show Is K H24 w24 (eA ([(h0,w0,ph),(h1,w1,xs),(h2,w0,ph),(h3,w1,xs)].getD j (0,[],[])))
             rw[hr'];exact i24
           . intro D23 ys23 H23 n23 S23 e23 l23 r23
             have iA:Is K H23 (.ref D23) (.list [eA (h0,w0,ph),eA (h1,w1,xs),eA (h2,w0,ph),eA (h3,w1,xs)]):=cu.mpr ⟨D23,ys23,rfl,.of e23,by
               have hl4:ys23.length=4:=by rw[l23,t22.length];rfl
               match ys23,hl4,r23 with
               | [y0,y1,y2,y3],_,r23=>exact .cons (r23 0 y0 rfl) (.cons (r23 1 y1 rfl) (.cons (r23 2 y2 rfl) (.cons (r23 3 y3 rfl) .nil)))⟩
             have i23:=i18'.by (S22.trans S23);clear e22 t22 r23 l23 e23 i18';wtm_at "gt";refine pX i23 (λl25 H25 ys25 n25 S25 e25 t25=>?_);have t25:ao K H25 ys25 ([(h2,w0,ph),(h3,w1,xs),(h4,w0,ph),(h5,w1,xs)].map oV):=t25;wtm_at "gt";refine jA (.of e25) (o0:=none) (tl:=[]) rfl (λj y H'=>Is K H' y (eA ([(h2,w0,ph),(h3,w1,xs),(h4,w0,ph),(h5,w1,xs)].getD j (0,[],[])))) ?_ ?_
             . intro D26 j x26 ys26 o26 H26 hx26 inv
               obtain⟨hj,ix⟩:=lH t25 hx26
               have ix:Is K H26 x26 (oV ([(h2,w0,ph),(h3,w1,xs),(h4,w0,ph),(h5,w1,xs)].getD j (0,[],[]))):=by
                 have ix:=ix.by inv.same;rw[wa,wu]at ix;rw[wa];rw[wm]at hj;rw[wc hj]at ix ⊢;exact ix
               generalize hr':[(h2,w0,ph),(h3,w1,xs),(h4,w0,ph),(h5,w1,xs)].getD j (0,[],[])=r at ix;have hj4:j<4:=hj;o_head Cz (lo:=some 1) (hi:=none) (ds:=[N r.1,gB r.2.1,TN r.2.2]) ix (λh=>absurd (show HT.aZ 3 0 (some 1)=0 from h.1) (by decide)) (λw24 H24 S24 i24=>?_);o_head dW inv (by omega) (λ_ _ _ _ k z=>rel _ _ _ _ k z) ⟨_,rfl⟩ S24 ?_
               show Is K H24 w24 (eA ([(h2,w0,ph),(h3,w1,xs),(h4,w0,ph),(h5,w1,xs)].getD j (0,[],[])))
               rw[hr'];exact i24
             . intro D26 ys26 H26 n26 S26 e26 l26 r26
               have iB:Is K H26 (.ref D26) (.list [eA (h0,w0,ph),eA (h1,w1,xs),eA (h2,w0,ph),eA (h3,w1,xs)]):=cu.mpr ⟨D26,ys26,rfl,.of e26,by
                 have hl4:ys26.length=4:=by rw[l26,t25.length];rfl
                 match ys26,hl4,r26 with
                 | [y0,y1,y2,y3],_,r26=>exact .cons (r26 0 y0 rfl) (.cons (r26 1 y1 rfl) (.cons (r26 2 y2 rfl) (.cons (r26 3 y3 rfl) .nil)))⟩
               have sp:∀r:oA,Sh 5 (eA r)/\wA (eA r) (eA r)=true:=λr=>⟨lM (pb ((SG _).mono (by decide)) ((Zh _).mono (by decide))),HD (pb (ZX _) (SV _))⟩
               refine zxF (n:=6) (iA.by (S25.trans S26)) iB (DK λd hd=>?_) (by decide) (Z4 λd hd=>?_) ?_
               . simp only[wQ,Va,or_false]at hd
                 rcases hd with rfl | rfl | rfl | rfl<;>exact(sp _).1
               . simp only[wQ,Va,or_false]at hd
                 rcases hd with rfl | rfl | rfl | rfl<;>exact(sp _).2
               have S29:=S22.trans (S23.trans (S25.trans S26));wtm_at "gt";exact main _ _ _ (KI.trans S29.keep) ((P18.same S29).le (by decide))
       . exact main _ _ _ (br.refl _) (P8.le (by decide))
       . exact main _ _ _ (br.refl _) (P8.le (by decide))
     refine mm i8 (ok.ba.mono (by decide)) ?_;unfold jz
     by_cases z2:ra=1
     . rw[if_neg (by rw[z2];decide),if_pos z2]
       wtm_at "gt";refine kI (d:=.str (wG "even")) (e:=.str (wG "even")) (cU.mpr rfl) (cU.mpr rfl) (kA _) (kA _) ?_;rw[show wA (.str (wG "even")) (.str (wG "even"))=true by rw[wA];decide];wtm_at "gt";refine mH iz8 (by decide) (by simp) ?_;rw[show([(m:Int),(n:Int)]:List Int).getD (0:Int).toNat 0=(m:Int)from rfl];wtm_at "gt";refine mH iz8 (by decide) (by simp) ?_;rw[show([(m:Int),(n:Int)]:List Int).getD (1:Int).toNat 0=(n:Int)from rfl];wtm_at "gt"
       . rename_i y1
         exact main _ _ (ah.refl _) (λ_=>.inr (.inl (by omega)))
       . rename_i y1 vb ib
         refine fh (r:=0) rfl rfl (λv4 H4 S4 i4=>?_);refine C9 (ib.by S4) i4 ?_;wtm_at "gt";exact main _ _ S4 (λe=>.inr (.inr (of_decide_eq_true e)))
     . by_cases z1:1<ra
       . rw[if_pos z1]
         wtm_at "gt";refine kI (d:=.str (wG "rising")) (e:=.str (wG "even")) (cU.mpr rfl) (cU.mpr rfl) (kA _) (kA _) ?_;rw[show wA (.str (wG "rising")) (.str (wG "even"))=false by rw[wA];decide];wtm_at "gt";exact main _ _ (ah.refl _) (λ_=>.inl z2)
       . rw[if_neg z1,if_neg z2]
         wtm_at "gt";refine kI (d:=.str (wG "falling")) (e:=.str (wG "even")) (cU.mpr rfl) (cU.mpr rfl) (kA _) (kA _) ?_;rw[show wA (.str (wG "falling")) (.str (wG "even"))=false by rw[wA];decide];wtm_at "gt";exact main _ _ (ah.refl _) (λ_=>.inl z2)
   have ip:=hip.1;have hxn:0<x.num->x.num<(x.den:Int)->0<x/\x<1:=λh1 h2=>⟨by rw[xo];simpa using h1,by rw[xo];simpa using h2⟩
   wtm_at "gt"
   . rename_i y1 y2
     exact main _ (λe=>⟨(hxn y1 y2).1,(hxn y1 y2).2,by have:=of_decide_eq_true e;omega⟩)
   . exact main _ (λe=>by cases e)
   . exact main _ (λe=>by cases e)
 . rintro σ H0 ⟨K0,o1,o2,o3,o4,o5,o6,o7,o8,o9,o10,o11,o12,rfl⟩
   k_few;exact q _
end
theorem Ou{us:List wf}(h:us.length=1):∃a,us=[a]:=by
 cases us with
 | nil=>cases h
 | cons a t=>exact⟨a,by rw[qL.mp (QP h)]⟩
theorem L4{us:List wf}(h:us.length=2):∃a0 a1,us=[a0,a1]:=by
 cases us with
 | nil=>cases h
 | cons a0 t =>
  obtain⟨a1,e⟩:=Ou (QP h);exact⟨a0,a1,by rw[e]⟩
theorem JD{us:List wf}(h:us.length=3):∃a0 a1 a2,us=[a0,a1,a2]:=by
 cases us with
 | nil=>cases h
 | cons a0 t =>
  obtain⟨a1,a2,e⟩:=L4 (QP h);exact⟨a0,a1,a2,by rw[e]⟩
theorem R8{us:List wf}(h:us.length=4):∃a0 a1 a2 a3,us=[a0,a1,a2,a3]:=by
 cases us with
 | nil=>cases h
 | cons a0 t =>
  obtain⟨a1,a2,a3,e⟩:=JD (QP h);exact⟨a0,a1,a2,a3,by rw[e]⟩
inductive aV(K:wb)(n:Str)(st:ve)(f:wg):Prop
 | mk {od an:Option wg} {sl:Array (Option wf)} {oc kV dc pm cd ct:wf} (a:va K wK n=some (some (.ref f))) (l:K.lookup f=some ⟨oc,od,.func (VE n n (mf st) (jM st) (aA st) .none kV dc pm an cd ct),sl⟩) (c:Qd K cd n=true) (k:W5 K (.ref f)=true):aV K n st f
theorem aV.dn{K:wb}{h:wM}{mg:Str->Option wf}{n:Str}{st:ve}{f:wg}{ps:List Str}(A:aV K n st f)(X:K.In h)(G:h.Ns wK mg)
  (b:∀(kV doc pm:wf)(an:Option wg)(cdv ct:wf)(us:List wf),us.length=ps.length->bindArgs (VE n n (mf st) (jM st) (aA st) .none kV doc pm an cdv ct) ⟨us,[]⟩=pure (ps.zip us)):∃fd,Dn K mg n st ps f fd:=by
 obtain⟨a,l,c,k⟩:=A;have F:=IT (st:=st) l c k;exact⟨_,F,vD X G a,F.binds b⟩
set_option hygiene false in
local macro_rules | `(tactic| wtm_at "bd")=>`(tactic| (intro _ _ _ _ _ _ us hl; first | (obtain ⟨_,rfl⟩:=Ou hl; rfl) | (obtain ⟨_,_,rfl⟩:=L4 hl; rfl) | (obtain ⟨_,_,_,rfl⟩:=JD hl; rfl) | (obtain ⟨_,_,_,_,rfl⟩:=R8 hl; rfl)))
set_option maxHeartbeats 8000000 in
theorem all_mk{l:QV}{w:wR}{K:wb}{h:wM}{mg:Str->Option wf}{fa:wg}(X:K.In h)(G:h.Ns wK mg)(hfa:mg "law"=some (.ref fa))
  {f0 f1 f2 f3 f4 f5 f6 f7 f8 f9 f10 f11 f12 f13 f14 f15 f16 f17 f18 f19 f20 f21 f22 f23 f24 f25 f26 f27 f28 f29 f30 f31 f32 f33 f34 f35 f36 f37 f38 f39 f40 f41 f42 f43 f44 f45 f46 f47 f48 f49 f50 f51 f52 f53 f54 f55 f56 f57 f58 f59 f60 f61:wg}
  {e0:wg}
  {e1:wg}
  {e2:wg}
  {e3:wg}
  {e4:wg}
  {e5:wg}
  {e6:wg}
  {e7:wg}
  {e8:wg}
  {e9:wg}
  {g0:wg} {gn0:Nat} {gd0:Option wg} {gs0:Array (Option wf)} {tk0_0 tk0_1:Tok}
  {g1:wg} {gn1:Nat} {gd1:Option wg} {gs1:Array (Option wf)} {tk1_0 tk1_1:Tok}
  {g2:wg} {gn2:Nat} {gd2:Option wg} {gs2:Array (Option wf)} {tk2_0 tk2_1:Tok}
  {tk3:Tok}
  {tk4:Tok}
  {tk5:Tok}
  {tk6:Tok}
  {tk7:Tok}
  (a0:aV K "is_whole" CO f0)
  (a1:aV K "greatest_divisor" DM f1)
  (a2:aV K "is_number" Ak f2)
  (a3:aV K "plus" B5 f3)
  (a4:aV K "minus" z_ f4)
  (a5:aV K "times" Bs f5)
  (a6:aV K "over" DQ f6)
  (a7:aV K "less" A9 f7)
  (a8:aV K "is_factor" Dq f8)
  (a9:aV K "is_shift" DP f9)
  (a10:aV K "make_rule" CH f10)
  (a11:aV K "is_rule" Ab f11)
  (a12:aV K "bend" Bj f12)
  (a13:aV K "pushes" BS f13)
  (a14:aV K "pushed_by" BG f14)
  (a15:aV K "is_phase" BE f15)
  (a16:aV K "are_phases" yM f16)
  (a17:aV K "swarm_of" DB f17)
  (a18:aV K "greatest" B6 f18)
  (a19:aV K "worms_at" yD f19)
  (a20:aV K "flocks" yS f20)
  (a21:aV K "at_the_end" sP f21)
  (a22:aV K "glow" mw f22)
  (a23:aV K "history" Ef f23)
  (a24:aV K "behind" Ej f24)
  (a25:aV K "is_laid" Bz f25)
  (a26:aV K "laid" oI f26)
  (a27:aV K "phases_behind" rY f27)
  (a28:aV K "stands" Co f28)
  (a29:aV K "round_behind" CF f29)
  (a30:aV K "round_time" CQ f30)
  (a31:aV K "tops" sM f31)
  (a32:aV K "is_free" p9 f32)
  (a33:aV K "round_map" tE f33)
  (a34:aV K "still" t9 f34)
  (a35:aV K "weighed" yN f35)
  (a36:aV K "led_on" Ax f36)
  (a37:aV K "rounds_behind" DW f37)
  (a38:aV K "sums_of_places" Ea f38)
  (a39:aV K "rounds_time" zt f39)
  (a40:aV K "draws_freely" rW f40)
  (a41:aV K "stays_free" sT f41)
  (a42:aV K "free_rounds" DE f42)
  (a43:aV K "behind_rounds" yu f43)
  (a44:aV K "behind_row" CL f44)
  (a45:aV K "word_of" AR f45)
  (a46:aV K "glows_to_join" A8 f46)
  (a47:aV K "next_row" AD f47)
  (a48:aV K "paper_of" BI f48)
  (a49:aV K "fate" Ca f49)
  (a50:aV K "_law_pen" AX f50)
  (a51:aV K "_law_draw" Br f51)
  (a52:aV K "_law_low" Dk f52)
  (a53:aV K "_law_plus" DX f53)
  (a54:aV K "_law_kind" sD f54)
  (a55:aV K "_law_round" ly f55)
  (a56:aV K "_law_fate" DZ f56)
  (a57:aV K "_law_small_rule" B1 f57)
  (a58:aV K "_law_still" Cn f58)
  (a59:aV K "_law_stood" Dz f59)
  (a60:aV K "_law_beside_right" CI f60)
  (a61:aV K "law" nC f61)
  (n_NoStand:va K wK "NoStand"=some (some (.ref e0)))
  (n_TooLong:va K wK "TooLong"=some (some (.ref e1)))
  (n_NoBack:va K wK "NoBack"=some (some (.ref e2)))
  (n_NoRow:va K wK "NoRow"=some (some (.ref e3)))
  (n_NoText:va K wK "NoText"=some (some (.ref e4)))
  (n_NoWeb:va K wK "NoWeb"=some (some (.ref e5)))
  (n_NoSwarm:va K wK "NoSwarm"=some (some (.ref e6)))
  (n_NoRule:va K wK "NoRule"=some (some (.ref e7)))
  (n_NoNumber:va K wK "NoNumber"=some (some (.ref e8)))
  (n_GlowError:va K wK "GlowError"=some (some (.ref e9)))
  (z_ValueError:va K wK "ValueError"=some none)
  (z_abs:va K wK "abs"=some none)
  (z_all:va K wK "all"=some none)
  (z_any:va K wK "any"=some none)
  (z_bool:va K wK "bool"=some none)
  (z_dict:va K wK "dict"=some none)
  (z_enumerate:va K wK "enumerate"=some none)
  (z_int:va K wK "int"=some none)
  (z_isinstance:va K wK "isinstance"=some none)
  (z_len:va K wK "len"=some none)
  (z_list:va K wK "list"=some none)
  (z_range:va K wK "range"=some none)
  (z_sum:va K wK "sum"=some none)
  (z_tuple:va K wK "tuple"=some none)
  (z_zip:va K wK "zip"=some none)
  (h_x_NoStand:VP K e0 pI "ValueError.__new__"=true)
  (h_m_NoStand:V7 K (.ref e0) (.ref e9)=some true)
  (h_e_NoStand:gv K e0)
  (h_k_NoStand_NoStand:wC K (.ref e0) (.ref e0)=some true)
  (h_k_NoStand_TooLong:wC K (.ref e0) (.ref e1)=some false)
  (h_k_NoStand_NoBack:wC K (.ref e0) (.ref e2)=some false)
  (h_k_NoStand_NoRow:wC K (.ref e0) (.ref e3)=some false)
  (h_k_NoStand_NoText:wC K (.ref e0) (.ref e4)=some false)
  (h_k_NoStand_NoWeb:wC K (.ref e0) (.ref e5)=some false)
  (h_k_NoStand_NoSwarm:wC K (.ref e0) (.ref e6)=some false)
  (h_k_NoStand_NoRule:wC K (.ref e0) (.ref e7)=some false)
  (h_k_NoStand_NoNumber:wC K (.ref e0) (.ref e8)=some false)
  (h_v_NoStand:wC K (.ref e0) (.type "ValueError")=some true)
  (h_x_TooLong:VP K e1 pI "ValueError.__new__"=true)
  (h_m_TooLong:V7 K (.ref e1) (.ref e9)=some true)
  (h_e_TooLong:gv K e1)
  (h_k_TooLong_NoStand:wC K (.ref e1) (.ref e0)=some false)
  (h_k_TooLong_TooLong:wC K (.ref e1) (.ref e1)=some true)
  (h_k_TooLong_NoBack:wC K (.ref e1) (.ref e2)=some false)
  (h_k_TooLong_NoRow:wC K (.ref e1) (.ref e3)=some false)
  (h_k_TooLong_NoText:wC K (.ref e1) (.ref e4)=some false)
  (h_k_TooLong_NoWeb:wC K (.ref e1) (.ref e5)=some false)
  (h_k_TooLong_NoSwarm:wC K (.ref e1) (.ref e6)=some false)
  (h_k_TooLong_NoRule:wC K (.ref e1) (.ref e7)=some false)
  (h_k_TooLong_NoNumber:wC K (.ref e1) (.ref e8)=some false)
  (h_v_TooLong:wC K (.ref e1) (.type "ValueError")=some true)
  (q0:va K wK "NOUGHT"=some (some (.ref g0)))
  (r0:K.lookup g0=some ⟨.type "tuple",gd0,.seq #[.int 0 tk0_0,.int 1 tk0_1] gn0,gs0⟩)
  (q1:va K wK "ONE"=some (some (.ref g1)))
  (r1:K.lookup g1=some ⟨.type "tuple",gd1,.seq #[.int 1 tk1_0,.int 1 tk1_1] gn1,gs1⟩)
  (q2:va K wK "GREATEST_FACTOR"=some (some (.ref g2)))
  (r2:K.lookup g2=some ⟨.type "tuple",gd2,.seq #[.int 4 tk2_0,.int 1 tk2_1] gn2,gs2⟩)
  (q3:va K wK "FACTOR_BOTTOM"=some (some (.int 8 tk3)))
  (q4:va K wK "SHIFT_BOTTOM"=some (some (.int 12 tk4)))
  (q5:va K wK "MOST_WORMS"=some (some (.int 8 tk5)))
  (q6:va K wK "PHASE_BOTTOM"=some (some (.int 60 tk6)))
  (q7:va K wK "MOST_FREE"=some (some (.int 30 tk7)))
  : ∃fd:wE,(∀(s:wl)(v:wf),BindsTo s fd ⟨[v],[]⟩ [("_law_script",v)]) /\ ∀base:wM,K.In base->base.Ns wK mg->aO l.prog w K mg base aT 16 fa fd ["_law_script"] (yz K):=by
 obtain⟨aL,lL,cL,kL⟩:=a61;cases hfa.symm.trans (vD X G aL);have FL:=IT (st:=nC) lL cL kL;have D61:Dn K mg _ _ yr _ _:=⟨FL,vD X G aL,FL.binds (by wtm_at "bd")⟩;have⟨_,D0⟩:=a0.dn (ps:=uP) X G (by wtm_at "bd");have⟨_,D1⟩:=a1.dn (ps:=zd) X G (by wtm_at "bd");have⟨_,D2⟩:=a2.dn (ps:=uZ) X G (by wtm_at "bd");have⟨_,D3⟩:=a3.dn (ps:=yq) X G (by wtm_at "bd");have⟨_,D4⟩:=a4.dn (ps:=ya) X G (by wtm_at "bd");have⟨_,D5⟩:=a5.dn (ps:=yb) X G (by wtm_at "bd");have⟨_,D6⟩:=a6.dn (ps:=tX) X G (by wtm_at "bd");have⟨_,D7⟩:=a7.dn (ps:=tV) X G (by wtm_at "bd");have⟨_,D8⟩:=a8.dn (ps:=yO) X G (by wtm_at "bd");have⟨_,D9⟩:=a9.dn (ps:=uS) X G (by wtm_at "bd");have⟨_,D10⟩:=a10.dn (ps:=zg) X G (by wtm_at "bd");have⟨_,D11⟩:=a11.dn (ps:=yL) X G (by wtm_at "bd");have⟨_,D12⟩:=a12.dn (ps:=r8) X G (by wtm_at "bd");have⟨_,D13⟩:=a13.dn (ps:=uO) X G (by wtm_at "bd");have⟨_,D14⟩:=a14.dn (ps:=yp) X G (by wtm_at "bd");have⟨_,D15⟩:=a15.dn (ps:=x_) X G (by wtm_at "bd");have⟨_,D16⟩:=a16.dn (ps:=uL) X G (by wtm_at "bd");have⟨_,D17⟩:=a17.dn (ps:=zc) X G (by wtm_at "bd");have⟨_,D18⟩:=a18.dn (ps:=uR) X G (by wtm_at "bd");have⟨_,D19⟩:=a19.dn (ps:=yC) X G (by wtm_at "bd");have⟨_,D20⟩:=a20.dn (ps:=yn) X G (by wtm_at "bd");have⟨_,D21⟩:=a21.dn (ps:=y8) X G (by wtm_at "bd");have⟨_,D22⟩:=a22.dn (ps:=sZ) X G (by wtm_at "bd");have⟨_,D23⟩:=a23.dn (ps:=sU) X G (by wtm_at "bd");have⟨_,D24⟩:=a24.dn (ps:=u0) X G (by wtm_at "bd");have⟨_,D25⟩:=a25.dn (ps:=rX) X G (by wtm_at "bd")
 have⟨_,D26⟩:=a26.dn (ps:=yg) X G (by wtm_at "bd");have⟨_,D27⟩:=a27.dn (ps:=y7) X G (by wtm_at "bd");have⟨_,D28⟩:=a28.dn (ps:=uW) X G (by wtm_at "bd");have⟨_,D29⟩:=a29.dn (ps:=uJ) X G (by wtm_at "bd");have⟨_,D30⟩:=a30.dn (ps:=sL) X G (by wtm_at "bd");have⟨_,D31⟩:=a31.dn (ps:=zo) X G (by wtm_at "bd");have⟨_,D32⟩:=a32.dn (ps:=u9) X G (by wtm_at "bd");have⟨_,D33⟩:=a33.dn (ps:=tN) X G (by wtm_at "bd");have⟨_,D34⟩:=a34.dn (ps:=tQ) X G (by wtm_at "bd");have⟨_,D35⟩:=a35.dn (ps:=y_) X G (by wtm_at "bd");have⟨_,D36⟩:=a36.dn (ps:=yh) X G (by wtm_at "bd");have⟨_,D37⟩:=a37.dn (ps:=tH) X G (by wtm_at "bd");have⟨_,D38⟩:=a38.dn (ps:=sx) X G (by wtm_at "bd");have⟨_,D39⟩:=a39.dn (ps:=tS) X G (by wtm_at "bd");have⟨_,D40⟩:=a40.dn (ps:=yX) X G (by wtm_at "bd");have⟨_,D41⟩:=a41.dn (ps:=uM) X G (by wtm_at "bd");have⟨_,D42⟩:=a42.dn (ps:=uD) X G (by wtm_at "bd");have⟨_,D43⟩:=a43.dn (ps:=sC) X G (by wtm_at "bd");have⟨_,D44⟩:=a44.dn (ps:=u_) X G (by wtm_at "bd");have⟨_,D45⟩:=a45.dn (ps:=za) X G (by wtm_at "bd");have⟨_,D46⟩:=a46.dn (ps:=yl) X G (by wtm_at "bd");have⟨_,D47⟩:=a47.dn (ps:=tO) X G (by wtm_at "bd");have⟨_,D48⟩:=a48.dn (ps:=yY) X G (by wtm_at "bd");have⟨_,D49⟩:=a49.dn (ps:=zq) X G (by wtm_at "bd");have⟨_,D50⟩:=a50.dn (ps:=rT) X G (by wtm_at "bd");have⟨_,D51⟩:=a51.dn (ps:=uU) X G (by wtm_at "bd");have⟨_,D52⟩:=a52.dn (ps:=tM) X G (by wtm_at "bd");have⟨_,D53⟩:=a53.dn (ps:=yk) X G (by wtm_at "bd");have⟨_,D54⟩:=a54.dn (ps:=yU) X G (by wtm_at "bd")
 have⟨_,D55⟩:=a55.dn (ps:=u5) X G (by wtm_at "bd");have⟨_,D56⟩:=a56.dn (ps:=rS) X G (by wtm_at "bd");have⟨_,D57⟩:=a57.dn (ps:=tD) X G (by wtm_at "bd");have⟨_,D58⟩:=a58.dn (ps:=u4) X G (by wtm_at "bd");have⟨_,D59⟩:=a59.dn (ps:=tY) X G (by wtm_at "bd");have⟨_,D60⟩:=a60.dn (ps:=sj) X G (by wtm_at "bd")
 have T:Txt K mg ⟨f0,_,f1,_,f2,_,f3,_,f4,_,f5,_,f6,_,f7,_,f8,_,f9,_,f10,_,f11,_,f12,_,f13,_,f14,_,f15,_,f16,_,f17,_,f18,_,f19,_,f20,_,f21,_,f22,_,f23,_,f24,_,f25,_,f26,_,f27,_,f28,_,f29,_,f30,_,f31,_,f32,_,f33,_,f34,_,f35,_,f36,_,f37,_,f38,_,f39,_,f40,_,f41,_,f42,_,f43,_,f44,_,f45,_,f46,_,f47,_,f48,_,f49,_,f50,_,f51,_,f52,_,f53,_,f54,_,f55,_,f56,_,f57,_,f58,_,f59,_,f60,_,_,_,e0,e1,e2,e3,e4,e5,e6,e7,e8,e9,g0,g1,g2⟩:=⟨D0,
  D1,
  D2,
  D3,
  D4,
  D5,
  D6,
  D7,
  D8,
  D9,
  D10,
  D11,
  D12,
  D13,
  D14,
  D15,
  D16,
  D17,
  D18,
  D19,
  D20,
  D21,
  D22,
  D23,
  D24,
  D25,
  D26,
  D27,
  D28,
  D29,
  D30,
  D31,
  D32,
  D33,
  D34,
  D35,
  D36,
  D37,
  D38,
  D39,
  D40,
  D41,
  D42,
  D43,
  D44,
  D45,
  D46,
  D47,
  D48,
  D49,
  D50,
  D51,
  D52,
  D53,
  D54,
  D55,
  D56,
  D57,
  D58,
  D59,
  D60,
  D61,
  vE X G z_ValueError,
  vE X G z_abs,
  vE X G z_all,
  vE X G z_any,
  vE X G z_bool,
  vE X G z_dict,
  vE X G z_enumerate,
  vE X G z_int,
  vE X G z_isinstance,
  vE X G z_len,
  vE X G z_list,
  vE X G z_range,
  vE X G z_sum,
  vE X G z_tuple,
  vE X G z_zip,
  vD X G n_NoStand,
  vD X G n_TooLong,
  vD X G n_NoBack,
  vD X G n_NoRow,
  vD X G n_NoText,
  vD X G n_NoWeb,
  vD X G n_NoSwarm,
  vD X G n_NoRule,
  vD X G n_NoNumber,
  vD X G n_GlowError,
  h_x_NoStand,
  h_m_NoStand,
  h_e_NoStand,
  h_k_NoStand_NoStand,
  h_k_NoStand_TooLong,
  h_k_NoStand_NoBack,
  h_k_NoStand_NoRow,
  h_k_NoStand_NoText,
  h_k_NoStand_NoWeb,
  h_k_NoStand_NoSwarm,
  h_k_NoStand_NoRule,
  h_k_NoStand_NoNumber,
  h_v_NoStand,
  h_x_TooLong,
  h_m_TooLong,
  h_e_TooLong,
  h_k_TooLong_NoStand,
  h_k_TooLong_TooLong,
  h_k_TooLong_NoBack,
  h_k_TooLong_NoRow,
  h_k_TooLong_NoText,
  h_k_TooLong_NoWeb,
  h_k_TooLong_NoSwarm,
  h_k_TooLong_NoRule,
  h_k_TooLong_NoNumber,
  h_v_TooLong,
  vD X G q0,
  λH=>.inr ⟨_,_,_,r0,rfl,rfl,by simp;decide,(.cons ⟨_,rfl⟩ (.cons ⟨_,rfl⟩ .nil))⟩,
  vD X G q1,
  λH=>.inr ⟨_,_,_,r1,rfl,rfl,by simp;decide,(.cons ⟨_,rfl⟩ (.cons ⟨_,rfl⟩ .nil))⟩,
  vD X G q2,
  λH=>.inr ⟨_,_,_,r2,rfl,rfl,by simp;decide,(.cons ⟨_,rfl⟩ (.cons ⟨_,rfl⟩ .nil))⟩,
  ⟨_,vD X G q3⟩,
  ⟨_,vD X G q4⟩,
  ⟨_,vD X G q5⟩,
  ⟨_,vD X G q6⟩,
  ⟨_,vD X G q7⟩⟩
 exact⟨_,λs v=>.of_eq rfl,λbase _ _=>zA1 T⟩
theorem walk{l:QV}{q:wO}{loose:List Str}{XP:(Str->Option wf)->wM->Prop}{YP:wR->wM->Prop}{d:DefRec}{K:Params->wb}(hn:l.most=some 63)(hdf:d.params.defaults=[])
  (hY:∀(w:wR)(h:wM),YP w h->(K w.params).In h)
  (F:∀(w:wR)(mg:Str->Option wf)(fa:wg)(h:wM),(K w.params).In h->h.Ns wK mg->mg d.name=some (.ref fa) ->
   ∃fd:wE,(∀(s:wl)(u:wf),BindsTo s fd ⟨[u],[]⟩ [("_law_script",u)]) /\ ∀base:wM,(K w.params).In base->base.Ns wK mg->aO l.prog w (K w.params) mg base aT 16 fa fd ["_law_script"] (yz (K w.params))) :
  ud q loose XP YP l.row.toRowW d [] (λf vs=>XS f vs) :=
 L2.RF (n:=63) (k:=16) (x:="_law_script") (CX:=λ_=>aT) (sp:=λw=>yz (K w.params)) hn (by decide) hdf ⟨rfl,by decide,by decide,rfl⟩ hY F (λ_ H a ns hl hO hS=>⟨.ref a,rfl,a,ns,rfl,zBn hO hS,hl,λ_=>rfl⟩) λ_ _ _ _ _ z=>z
end G
local macro_rules | `(tactic| wtm_at "fk")=>`(tactic| (refine' G.aV.mk ?a ?l ?c ?k; (case a=>k_is); (case l=>k_is); (case c=>k_is); (case k=>k_is)))
open PySem PySem.W PyProof.Rows
set_option maxRecDepth 100000 in
set_option maxHeartbeats 0 in
theorem PySem.Challenge.cw_glowflock_k66_whole_rests_and_beside_holds : PySem.Challenge.rw_glowflock_k66_whole_rests_and_beside.Holds := by
 w_on; refine GH.head ?_
 k_fill
 refine G.walk (l:=PySem.Challenge.rw_glowflock_k66_whole_rests_and_beside) rfl rfl (fun w h Y=>PySem.W.kIn_of Y) ?F
 case F =>
   intro w mg fa h KX GG hmg;refine' G.all_mk KX GG hmg ?a0 ?a1 ?a2 ?a3 ?a4 ?a5 ?a6 ?a7 ?a8 ?a9 ?a10 ?a11 ?a12 ?a13 ?a14 ?a15 ?a16 ?a17 ?a18 ?a19 ?a20 ?a21 ?a22 ?a23 ?a24 ?a25 ?a26 ?a27 ?a28 ?a29 ?a30 ?a31 ?a32 ?a33 ?a34 ?a35 ?a36 ?a37 ?a38 ?a39 ?a40 ?a41 ?a42 ?a43 ?a44 ?a45 ?a46 ?a47 ?a48 ?a49 ?a50 ?a51 ?a52 ?a53 ?a54 ?a55 ?a56 ?a57 ?a58 ?a59 ?a60 ?a61 ?n_NoStand ?n_TooLong ?n_NoBack ?n_NoRow ?n_NoText ?n_NoWeb ?n_NoSwarm ?n_NoRule ?n_NoNumber ?n_GlowError ?z_ValueError ?z_abs ?z_all ?z_any ?z_bool ?z_dict ?z_enumerate ?z_int ?z_isinstance ?z_len ?z_list ?z_range ?z_sum ?z_tuple ?z_zip ?h_x_NoStand ?h_m_NoStand ?h_e_NoStand ?h_k_NoStand_NoStand ?h_k_NoStand_TooLong ?h_k_NoStand_NoBack ?h_k_NoStand_NoRow ?h_k_NoStand_NoText ?h_k_NoStand_NoWeb ?h_k_NoStand_NoSwarm ?h_k_NoStand_NoRule ?h_k_NoStand_NoNumber ?h_v_NoStand ?h_x_TooLong ?h_m_TooLong ?h_e_TooLong ?h_k_TooLong_NoStand ?h_k_TooLong_TooLong ?h_k_TooLong_NoBack ?h_k_TooLong_NoRow ?h_k_TooLong_NoText ?h_k_TooLong_NoWeb ?h_k_TooLong_NoSwarm ?h_k_TooLong_NoRule ?h_k_TooLong_NoNumber ?h_v_TooLong ?q0 ?r0 ?q1 ?r1 ?q2 ?r2 ?q3 ?q4 ?q5 ?q6 ?q7
   (case a0=>wtm_at "fk")
   (case a1=>wtm_at "fk")
   (case a2=>wtm_at "fk")
   (case a3=>wtm_at "fk")
   (case a4=>wtm_at "fk")
   (case a5=>wtm_at "fk")
   (case a6=>wtm_at "fk")
   (case a7=>wtm_at "fk")
   (case a8=>wtm_at "fk")
   (case a9=>wtm_at "fk")
   (case a10=>wtm_at "fk")
   (case a11=>wtm_at "fk")
   (case a12=>wtm_at "fk")
   (case a13=>wtm_at "fk")
   (case a14=>wtm_at "fk")
   (case a15=>wtm_at "fk")
   (case a16=>wtm_at "fk")
   (case a17=>wtm_at "fk")
   (case a18=>wtm_at "fk")
   (case a19=>wtm_at "fk")
   (case a20=>wtm_at "fk")
   (case a21=>wtm_at "fk")
   (case a22=>wtm_at "fk")
   (case a23=>wtm_at "fk")
   (case a24=>wtm_at "fk")
   (case a25=>wtm_at "fk")
   (case a26=>wtm_at "fk")
   (case a27=>wtm_at "fk")
   (case a28=>wtm_at "fk")
   (case a29=>wtm_at "fk")
   (case a30=>wtm_at "fk")
   (case a31=>wtm_at "fk")
   (case a32=>wtm_at "fk")
   (case a33=>wtm_at "fk")
   (case a34=>wtm_at "fk")
   (case a35=>wtm_at "fk")
   (case a36=>wtm_at "fk")
   (case a37=>wtm_at "fk")
   (case a38=>wtm_at "fk")
   (case a39=>wtm_at "fk")
   (case a40=>wtm_at "fk")
   (case a41=>wtm_at "fk")
   (case a42=>wtm_at "fk")
   (case a43=>wtm_at "fk")
   (case a44=>wtm_at "fk")
   (case a45=>wtm_at "fk")
   (case a46=>wtm_at "fk")
   (case a47=>wtm_at "fk")
   (case a48=>wtm_at "fk")
   (case a49=>wtm_at "fk")
   (case a50=>wtm_at "fk")
   (case a51=>wtm_at "fk")
   (case a52=>wtm_at "fk")
   (case a53=>wtm_at "fk")
   (case a54=>wtm_at "fk")
   (case a55=>wtm_at "fk")
   (case a56=>wtm_at "fk")
   (case a57=>wtm_at "fk")
   (case a58=>wtm_at "fk")
   (case a59=>wtm_at "fk")
   (case a60=>wtm_at "fk")
   (case a61=>wtm_at "fk")
   (case n_NoStand=>k_is)
   (case n_TooLong=>k_is)
   (case n_NoBack=>k_is)
   (case n_NoRow=>k_is)
   (case n_NoText=>k_is)
   (case n_NoWeb=>k_is)
   (case n_NoSwarm=>k_is)
   (case n_NoRule=>k_is)
   (case n_NoNumber=>k_is)
   (case n_GlowError=>k_is)
   (case z_ValueError=>k_is)
   (case z_abs=>k_is)
   (case z_all=>k_is)
   (case z_any=>k_is)
   (case z_bool=>k_is)
   (case z_dict=>k_is)
   (case z_enumerate=>k_is)
   (case z_int=>k_is)
   (case z_isinstance=>k_is)
   (case z_len=>k_is)
   (case z_list=>k_is)
   (case z_range=>k_is)
   (case z_sum=>k_is)
   (case z_tuple=>k_is)
   (case z_zip=>k_is)
   (case h_x_NoStand=>k_exc)
   (case h_m_NoStand=>kts_exm)
   (case h_e_NoStand=>(refine L2.gv.mk ?_ ?_ ?_ ?_ ?_ ?_ ?_ ?_ <;> first | k_is | (show PySem.W.isClsIn _ _ = true; k_is)))
   (case h_k_NoStand_NoStand=>kit_is)
   (case h_k_NoStand_TooLong=>kit_is)
   (case h_k_NoStand_NoBack=>kit_is)
   (case h_k_NoStand_NoRow=>kit_is)
   (case h_k_NoStand_NoText=>kit_is)
   (case h_k_NoStand_NoWeb=>kit_is)
   (case h_k_NoStand_NoSwarm=>kit_is)
   (case h_k_NoStand_NoRule=>kit_is)
   (case h_k_NoStand_NoNumber=>kit_is)
   (case h_v_NoStand=>kit_is)
   (case h_x_TooLong=>k_exc)
   (case h_m_TooLong=>kts_exm)
   (case h_e_TooLong=>(refine L2.gv.mk ?_ ?_ ?_ ?_ ?_ ?_ ?_ ?_ <;> first | k_is | (show PySem.W.isClsIn _ _ = true; k_is)))
   (case h_k_TooLong_NoStand=>kit_is)
   (case h_k_TooLong_TooLong=>kit_is)
   (case h_k_TooLong_NoBack=>kit_is)
   (case h_k_TooLong_NoRow=>kit_is)
   (case h_k_TooLong_NoText=>kit_is)
   (case h_k_TooLong_NoWeb=>kit_is)
   (case h_k_TooLong_NoSwarm=>kit_is)
   (case h_k_TooLong_NoRule=>kit_is)
   (case h_k_TooLong_NoNumber=>kit_is)
   (case h_v_TooLong=>kit_is)
   (case q0=>k_is)
   (case r0=>k_is)
   (case q1=>k_is)
   (case r1=>k_is)
   (case q2=>k_is)
   (case r2=>k_is)
   (case q3=>k_is)
   (case q4=>k_is)
   (case q5=>k_is)
   (case q6=>k_is)
   (case q7=>k_is)
#print axioms PySem.Challenge.cw_glowflock_k66_whole_rests_and_beside_holds
