import PyProof.Rows.All
import Wide.All
import OpenK.AllK
import Wide.FinOn
import Lean
import PyProof.EqAt
import PyProof.EqKinds
import PyProof.TupleCall
import PyProof.P3In
import PyProof.ReprRoads
import PyProof.MaxThree
import PyProof.Rows.SetFrom
import PyProof.SetRoads
import PyProof.Rows.TupDisplay
import PyProof.AttrMissHeap
import KE.KDictOf
import PyProof.Walks
import KE.KItemsList
import PySem.SetTable
import PyProof.TupleKey
import PyProof.SetKind
import PyProof.IsRules
import KE.KSortTup
import PyProof.FactsAll.set_1
import KE.KDictList
import PyProof.WalksMore
import PyProof.DictValues
import PyProof.DictWalks
import PySem.Challenge.RW_glowflock_k35_whole_rows_are_stands
set_option compiler.extract_closed false
set_option Elab.async false
set_option linter.all false
set_option maxRecDepth 100000
open Array renaming append_assoc->xx,forIn_toList->WT,getD->XR,getD_eq_getD_getElem?->wY,getElem?_eq_getElem->vv,getElem?_eq_none->WP,getElem?_eq_some_iff->Wq,getElem?_toList->vU,length_toList->wy,replicate->XS,size_map->X6,toList->uo
open Bool renaming and_eq_true->wI,and_eq_true_iff->Q5,and_false->qI,beq_eq_decide_eq->qq,eq_iff_iff->vc,false_and->Wv,false_eq_true->wL,false_ne_true->w5,not_eq_true->Xs,not_eq_true'->WD,not_false->qD,not_true->vR,true_and->qW
open Classical renaming byContradiction->Ve,not_not->VE
open False renaming elim->Wp
open Int renaming dvd_mul_left->Xm,dvd_mul_right->W6,dvd_trans->VQ,ediv_eq_of_eq_mul_right->qN,ediv_le_self->Xn,ediv_mul_le->XY,emod_lt_of_pos->V8,emod_nonneg->qw,fdiv_eq_ediv_of_nonneg->W1,gcd->wZ,gcd_comm->xA,gcd_dvd_left->VM,gcd_dvd_right->qg,gcd_pos_of_ne_zero_right->VG,gcd_zero_right->xJ,mul_assoc->Vu,mul_ediv_cancel_left->Vk,mul_le_mul_of_nonneg_right->Wb,mul_ne_zero->Qy,mul_neg->Xb,mul_nonneg->X9,mul_one->QG,mul_pos->vg,natAbs_ediv_le_natAbs->Qf,natAbs_mul->QX,natCast_ediv->Vl,natCast_mul->WX,neg_dvd->Xa,neg_one_mul->XF,one_mul->QK,pow_add->Xh,pow_ne_zero->Vw,pow_pos->Xc,pow_succ->Vm,pow_zero->qx,sign_eq_neg_one_of_neg->qV,sign_eq_one_of_pos->QJ,toNat->Qz,toNat_natCast->wE,zero_sub->xK
open List renaming Pairwise->qU,all_cons->xj,all_eq_true->Wd,all_map->xE,any_cons->qT,any_eq_true->Xw,append_assoc->W4,append_nil->vH,cons_append->Xl,dropLast_concat_getLast->qF,dropLast_eq_take->Q0,drop_eq_getElem_cons->VW,drop_eq_nil_of_le->QP,drop_succ_cons->qA,drop_zero->X4,eq_nil_of_length_eq_zero->WG,ext_getElem->WK,filterMap_cons->VR,filter_append->Wz,filter_congr->ve,filter_cons->Wt,filter_eq_nil_iff->QQ,filter_eq_self->xm,filter_filter->V5,find?_cons->XU,find?_some->XV,flatten_cons->W3,foldl->XB,foldl_append->xP,foldl_cons->XC,forIn_cons->VX,forIn_nil->qH,getD_eq_getElem?_getD->wa,getElem?_append_left->vo,getElem?_append_right->wW,getElem?_cons_succ->Qu,getElem?_drop->qO,getElem?_eq_getElem->wc,getElem?_eq_none->wA,getElem?_eq_some_iff->vZ,getElem?_map->wn,getElem?_range->vk,getElem?_replicate->Qr,getElem?_set->W5,getElem?_set_ne->Q6,getElem?_set_self->QF,getElem?_take_of_lt->Qj,getElem?_toArray->Q2,getElem_drop->xR,getElem_map->WL,getElem_mem->vd,getElem_of_mem->wK,getElem_take->xQ,length_append->wH,length_cons->wV,length_drop->vy,length_dropLast->xh,length_eq_zero_iff->qf,length_erase_of_mem->Qo,length_filter_le->Wc,length_map->we,length_nil->QE,length_pos_iff->Vs,length_pos_of_mem->VA,length_range->wU,length_replicate->vT,length_set->WW,length_singleton->vJ,length_tail->Xo,length_take->vP,length_zipWith->xn,lookup_cons->VO,map_append->w8,map_congr_left->qz,map_cons->wM,map_drop->xk,map_dropLast->Qd,map_map->Vn,map_nil->Qk,map_replicate->xL,map_take->ud,mem_append->vM,mem_append_left->Vb,mem_append_right->vD,mem_cons->wz,mem_cons_of_mem->wo,mem_cons_self->wu,mem_erase_of_ne->xg,mem_filter->wP,mem_filterMap->VY,mem_iff_getElem->xc,mem_iff_getElem?->Q1,mem_map->wJ,mem_of_find?_eq_some->Qi,mem_of_getElem?->Q7,mem_or_eq_of_mem_set->Qg,mem_range->wx,mem_singleton->wO,nil_append->qr,nodup_cons->Wi,nodup_range->Wu,not_mem_nil->VP,of_mem_zip->Qw,pairwise_append->VN,pairwise_cons->Wy,pairwise_iff_getElem->vE,pairwise_map->VC,pairwise_singleton->Qs,range->wl,range_succ->qu,replicate->wQ,replicate_succ->Vr,set_cons_succ->xH,set_cons_zero->xI,size_toArray->wC,sum_cons->WF,tail_cons->X1,take_add_one->qh,take_append_drop->QZ,take_length->vW,take_of_length_le->Wm,take_sublist->xM,take_subset->Xp,take_succ_cons->xq,take_zero->X8,zipIdx_cons->Xv,zipIdx_nil->XO
open List.Pairwise renaming drop->uD,imp_of_mem->uw
open List.cons renaming injEq->XN
open Nat renaming add_assoc->W0,add_le_add_left->xr,add_mul->Xe,add_sub_cancel->V3,add_zero->xB,div_div_eq_div_mul->QV,eq_or_lt_of_le->WA,gcd_dvd_right->xO,le_add_right->We,le_antisymm->XJ,le_max_left->XG,le_max_right->Xk,le_of_dvd->ue,le_of_lt->WC,le_of_lt_succ->Va,le_refl->wg,le_trans->vA,lt_irrefl->WE,lt_of_le_of_lt->Ww,lt_of_lt_of_le->wG,lt_or_ge->wt,lt_succ_of_lt->W8,lt_trans->xz,lt_trichotomy->W7,lt_two_pow_self->xt,min_eq_left->QC,min_le_right->Xi,mod_eq_of_lt->Qn,mod_lt->qb,mod_mul->QU,mod_self->xC,mul_add->qL,mul_assoc->Ws,mul_comm->VF,mul_le_mul->WB,mul_le_mul_left->qB,mul_le_mul_right->vF,mul_left_comm->xX,mul_mod->Xg,mul_succ->V2,ne_of_gt->wR,ne_of_lt->wD,not_lt_zero->Wa,one_mul->Xf,pow_add->qK,pow_le_pow_right->Q9,pow_succ->Wk,sub_self->WS,succ_mul->V1,succ_ne_self->Xu,succ_pos->qt,two_pow_pos->vI,zero_le->vV,zero_mul->Qp
open Nat.succ renaming inj->Qq
open Ne renaming symm->vX
open Option renaming getD_none->Xj,getD_some->qo,isSome->uf,map->uB,map_eq_some_iff->WN,map_some->XM
open Option.some renaming inj->wF,injEq->Qa
open Prod renaming ext->qm,fst->uk,snd->um
open PyProof.Rows renaming callWith_type1->wX,slot_tuple_getitem->Vt
open PyProof.Rows.F renaming entry_set_update_loop->V7,plain_set_update_loop->WU
open PyProof.Rows.IsTup renaming new->qp
open PySem renaming call->XE,mem_of_lookup->WI
open PySem.Around renaming under->ut,under_plainId->Vf
open PySem.Builtin.Dict renaming pairItems->QW,updateFrom->Qv
open PySem.Builtin.Frozenset renaming newClass->ui,updateFrom->X7
open PySem.Builtin.Int renaming intBits->xo
open PySem.Builtin.List renaming listTooLong->V0
open PySem.Builtin.Range renaming rangeSize->uz
open PySem.Builtin.Slice renaming sliceAdjust->VT,sliceApplied->qR,sliceFields->uj,slicePartIndex->XZ,slicePlaces->Vc
open PySem.Builtin.SmallTypes renaming nextOf->vb,ownedTupleHandOut->V6,ownedTupleIsFree->w9
open PySem.Builtin.Tuple renaming tupleExact->Vj,tupleHashOf->vx,tupleItemsOf->qS
open PySem.Calls renaming Name_function_global->qQ,evalArgs_plain->Q8,spliced_cons->qM,spliced_nil->qZ
open PySem.Challenge renaming pw_glowflock_k35_whole_rows_are_stands->WQ,rw_glowflock_k35_whole_rows_are_stands->wm
open PySem.Code renaming isGuard->uu
open PySem.EntryCells renaming newEntry->xp
open PySem.F renaming args_enumerate_next_1->Qt,args_tuple_add_2->VZ,args_tuple_iterator_next_1->qG,args_zip_next_1->W9,called_set->Vq,entry_enumerate_next->QT,entry_tuple_add->qd,entry_tuple_iterator_next->qP,entry_zip_next->Vp,excBase_ValueError->xf,plainAttrs_list->Wh,plain_set_new->XT,slot_enumerate_next->VJ,slot_int_rmul->XD,slot_list_append->Wf,slot_tuple_add->qj,slot_tuple_eq->QD,slot_tuple_hash->VD,slot_tuple_iterator_next->W2,slot_zip_getattribute->VB,slot_zip_next->vN,type_list_append->Wg
open PySem.Heap renaming IsTuple->xF,MadeExcOf->X2,SameBut->wS,get?_push_ne->Qb,get?_push_of_some->wf,get?_push_size->wB,get?_update_other->qk,get?_update_self->WV,lt_size->wq,size_push->Vh,update->QR
open PySem.Heap.IsSliceOf renaming new->uC
open PySem.Heap.SameBut renaming refl->xZ,update->VS
open PySem.IntMulOk renaming of_left->Xx,of_right->x5
open PySem.IsRange renaming new->uA
open PySem.Obj renaming cls_mapFields->xW,data_mapFields->Vx,isFreed_of_fields->VI,mapFields->ql,mapSeq->Qe,putSet->Qh
open PySem.Paired renaming length->ua
open PySem.PassesOwn renaming leaving->x6,never->vf
open PySem.PyData renaming canLay0->vG,canLayAll0->vQ,depth->Vo,depthAll->Wj,eqv->wN,eqvAll->Wr,strOk->uv
open PySem.SeqAt renaming canLay_of_shaped->WM,shaped->vC
open PySem.SeqAt.EqAt renaming int_str->xu,str_int->xv
open PySem.SetTable renaming below->vY,fill->uh,grown->Q4,has->xG,insertAt->vL,laid->ug,layClean->xY,sizeAbove->Vy,turns->Q3
open PySem.SetTable.below renaming go->qi
open PySem.SetTable.layClean renaming free->Wo
open PySem.SetTable.probe renaming go->Qc
open PySem.SetTable.sizeAbove renaming go->vK
open PySem.Shared renaming heap->Xd
open PySem.Str renaming ofString->vO,ofString->vj
open PySem.Value renaming isInt->qJ
open PySem.W renaming Frag->wb,OpenLaw->Qx,WalkO->ub,callWith_K->xy,cellsFrom_some->QI,codeIn->qC,excIn->Vv,exmOne->VL,findIn->WJ,fnOf->Vi,hideAll->Xz,hideAll_get->xl,instObj->Xy,isFn->ur,keepIn->Vg,kia_one->WY,kia_tup->WZ,kitAny->X5,kitOne->qc,kitx_bool->xT,kitx_dict->xV,kitx_int->Xq,kitx_list->xU,kitx_none->xS,kitx_str->Xr,kitx_tuple->xD,methodObj->qX,mg_none_of->w6,mg_of->vS,mroIn->xi,nsIn->wT,of_hideAll->xw,specialIn->qY,takesIn->XA
open PySem.W.Looks renaming ld->uE
open PySem.Walks renaming list->XQ
open Rat renaming den_divInt->X0,den_intCast->XX,divInt->wp,divInt_mul_divInt->QY,divInt_nonneg->xN,divInt_ofNat->Ql,div_def->QL,div_mul_cancel->Wx,ext->X3,intCast_add->VU,intCast_eq_zero_iff->WH,intCast_le_intCast->WO,intCast_lt_intCast->QN,intCast_mul->vi,intCast_pos->XI,le_iff->xb,le_of_lt->vB,le_refl->Wn,le_trans->Qm,lt_of_le_of_ne->V4,mul_assoc->uc,mul_comm->V9,mul_eq_zero->XH,mul_le_mul_of_nonneg_right->qy,mul_nonneg->qE,mul_pos->Vz,not_lt->Vd,num_divInt_den->WR,num_intCast->XW,num_nonneg->qa,one_mul->QM,pow_succ->Wl,pow_zero->VH
namespace GH
open PySem PySem.W PyProof.Rows
noncomputable def sG (p:Program) (w:World) (m:Nat) (an:Option Value) (N:Nat) (s0:Shared):Option Shared :=
 Option.bind (Fast.tw14082659384304107361 Fast.tw14364793385576792824 p w m an N s0 (topStub p)) λs1=>match staticsOk (Fast.tw5923862056798008813 p.main.body) s0.heap s1.heap&&namesBound p s1.heap&&gensDone s1&&laidKept s0.heap s1.heap with | true=>some s1 | false=>none
noncomputable def gm (w:World) (os:OsState):Shared:=⟨boot_heap w.params,#[],boot_drawn,boot_toks,os⟩
theorem ZQ{p q:Program}{loose:List Str}{Xt:Shared->Bool}{A:Type}{Yf:Shared->A}{Ya:World->A}{N:Nat}(e:opening p=plainProg p.main.scope.names)(hN:Nat.ble 600 N=true)(f:∀s,fenceModules? p s=some s){m:Nat}{an:Option Value}
   (size:∀w:World,((boot_heap w.params).isNs mainGlobals,(boot_heap w.params).objs.size,(boot_heap w.params).nsMap mainGlobals "__annotations__")=(true,m,an))
   (h:∀w:World,(λos=>(sG p w m an N (gm w os)).map (λs=>(Fast.tw4187177175401517315 q loose (Fast.tw5923862056798008813 p.main.body) Xt true s,Yf s)))=λ_=>some (openGood q loose,Ya w)):LeftO p q loose Xt Yf Ya N:=λw=>by
 obtain⟨⟨h',gs,d,k,os⟩,e',e2⟩:=WN.mp (boot_open e hN f (w:=w));obtain⟨rfl,rfl,rfl,rfl⟩:h'=boot_heap w.params/\gs = #[]/\d=boot_drawn/\k=boot_toks:=by simpa using e2
 obtain⟨z1,z2,z3⟩:_/\_/\_:=by simpa only[Prod.mk.injEq] using size w
 have r:=congrFun (h w) os;unfold openEnds;rw[e']
 show uB _ (topFrom treeTable p w N _)=_
 rw[<- r];unfold topFrom sG gm;rw[<- Fast.te14082659384304107361,<- Fast.te14364793385576792824,<- Fast.te5923862056798008813,<- Fast.te4187177175401517315];dsimp only;rw[z1,z2,z3]
 rfl
noncomputable def jr (p:Program) (w:World) (m:Nat) (an:Option Value) (N:Nat) (s0:Shared):Option Shared:=Fast.tw14082659384304107361 Fast.tw14364793385576792824 p w m an N s0 (topStub p)
noncomputable def Bt (p:Program) (w:World) (m:Nat) (an:Option Value) (N:Nat) (os:OsState):Option Bool:=(jr p w m an N (gm w os)).map λs1=>staticsOk (Fast.tw5923862056798008813 p.main.body) (gm w os).heap s1.heap&&namesBound p s1.heap&&gensDone s1&&laidKept (gm w os).heap s1.heap
theorem RD{p q:Program}{loose:List Str}{Xt:Shared->Bool}{A:Type}{Yf:Shared->A}{Ya:World->A}{N:Nat}(e:opening p=plainProg p.main.scope.names)(hN:Nat.ble 600 N=true)(f:∀s,fenceModules? p s=some s){m:Nat}{an:Option Value}
   (size:∀w:World,((boot_heap w.params).isNs mainGlobals,(boot_heap w.params).objs.size,(boot_heap w.params).nsMap mainGlobals "__annotations__")=(true,m,an))
   (hA:∀w:World,(λos=>Bt p w m an N os)=λ_=>some true)
   (hB0:∀w:World,(λos=>(jr p w m an N (gm w os)).map (λs=>((Fast.tw4187177175401517315 q loose (Fast.tw5923862056798008813 p.main.body) Xt true s).1,(Fast.tw4187177175401517315 q loose (Fast.tw5923862056798008813 p.main.body) Xt true s).2.1)))=λ_=>some (expectedOf q,bltViewBooted))
   (hB1:∀w:World,(λos=>(jr p w m an N (gm w os)).map (λs=>((Fast.tw4187177175401517315 q loose (Fast.tw5923862056798008813 p.main.body) Xt true s).2.2.1,(Fast.tw4187177175401517315 q loose (Fast.tw5923862056798008813 p.main.body) Xt true s).2.2.2.1)))=λ_=>some (true,true))
   (hB2:∀w:World,(λos=>(jr p w m an N (gm w os)).map (λs=>(Fast.tw4187177175401517315 q loose (Fast.tw5923862056798008813 p.main.body) Xt true s).2.2.2.2))=λ_=>some (pinGoodD (drecsOf q),plainGoodE q (looseW q loose),plainGoodD q loose,wideGood q,clsGoodW q loose))
   (hC:∀w:World,(λos=>(jr p w m an N (gm w os)).map (λs=>Yf s))=λ_=>some (Ya w)):LeftO p q loose Xt Yf Ya N:=by
 refine ZQ e hN f size λw=>?_
 funext os
 have h1:=congrFun (hA w) os;unfold Bt at h1;obtain⟨s1,e1,e2⟩:=WN.mp h1;have g0:=congrFun (hB0 w) os;have g1:=congrFun (hB1 w) os;have g2:=congrFun (hB2 w) os;have k:=congrFun (hC w) os;rw[e1]at g0 g1 g2 k;have g0:=wF g0;have g1:=wF g1;have g2:=wF g2;have a0:=congrArg uk g0;have b0:=congrArg um g0;have a1:=congrArg uk g1;have b1:=congrArg um g1;have g:Fast.tw4187177175401517315 q loose (Fast.tw5923862056798008813 p.main.body) Xt true s1=openGood q loose:=qm a0 (qm b0 (qm a1 (qm b1 g2)));have k:=wF k
 have ez:sG p w m an N (gm w os)=some s1:=by
   unfold sG;unfold jr at e1;rw[e1]
   show(match _ with | true=>some s1 | false=>none)=some s1
   rw[e2]
 rw[ez];exact congrArg some (qm g k)
def qv:Program:=view WQ [1,2,3,4,5,6,8,9,10,11,12,13,14,15,16,17,19,20,21,22,23,24,25,26,27,28,30,31,32,33,34,35,36,37,38,39,41,42,44,45,46,47,48,49,50,51,52,54,55,56,57,58,59,60,61,62,63,65,66,67,68,69,70,72,73,74,75,76,77,78,79,80,81,82,83,84,85,86,87,88,89]
theorem HH:wm.wellSaid=true:=by kernel_rfl
theorem size(w:World):((boot_heap w.params).isNs mainGlobals,(boot_heap w.params).objs.size,(boot_heap w.params).nsMap mainGlobals "__annotations__")=(true,11,some (.ref 6)):=by kernel_rfl
theorem R8(w:World):(λos=>Bt wm.row.prog w 11 (some (.ref 6)) 6946 os)=λ_=>some true:=by kernel_rfl
theorem RZ(w:World):(λos=>(jr wm.row.prog w 11 (some (.ref 6)) 6946 (gm w os)).map (λs=>((Fast.tw4187177175401517315 qv [] (Fast.tw5923862056798008813 wm.row.prog.main.body) (λs=>xlAt GH.qv [] s&&recOk (RowW.records (OpenRow.toRowW (OpenLaw.row wm))) s) true s).1,(Fast.tw4187177175401517315 qv [] (Fast.tw5923862056798008813 wm.row.prog.main.body) (λs=>xlAt GH.qv [] s&&recOk (RowW.records (OpenRow.toRowW (OpenLaw.row wm))) s) true s).2.1)))=λ_=>some (expectedOf qv,bltViewBooted):=by kernel_rfl
theorem RW(w:World):(λos=>(jr wm.row.prog w 11 (some (.ref 6)) 6946 (gm w os)).map (λs=>((Fast.tw4187177175401517315 qv [] (Fast.tw5923862056798008813 wm.row.prog.main.body) (λs=>xlAt GH.qv [] s&&recOk (RowW.records (OpenRow.toRowW (OpenLaw.row wm))) s) true s).2.2.1,(Fast.tw4187177175401517315 qv [] (Fast.tw5923862056798008813 wm.row.prog.main.body) (λs=>xlAt GH.qv [] s&&recOk (RowW.records (OpenRow.toRowW (OpenLaw.row wm))) s) true s).2.2.2.1)))=λ_=>some (true,true):=by kernel_rfl
theorem R1(w:World):(λos=>(jr wm.row.prog w 11 (some (.ref 6)) 6946 (gm w os)).map (λs=>(Fast.tw4187177175401517315 qv [] (Fast.tw5923862056798008813 wm.row.prog.main.body) (λs=>xlAt GH.qv [] s&&recOk (RowW.records (OpenRow.toRowW (OpenLaw.row wm))) s) true s).2.2.2.2))=λ_=>some (pinGoodD (drecsOf qv),plainGoodE qv (looseW qv []),plainGoodD qv [],wideGood qv,clsGoodW qv []):=by kernel_rfl
local macro_rules | `(tactic| o_head $H)=>`(tactic| (refine holds_open (q:=GH.qv) (loose:=[]) (Xt:=λ s=>xlAt GH.qv [] s && recOk (RowW.records (OpenRow.toRowW (OpenLaw.row wm))) s) (XP:=XL GH.qv []) (Yf:=Hook.obs $H) (Ya:=Hook.val $H) (YP:=Hook.says $H) (N:=6946) ?hl (Hook.of $H) (Hook.keeps $H) (λ s e=>xl_of s (Q5.mp e).1) XL.keeps (by rfl) (by rfl) (by rfl) (λ s e=>recFacts_of (Q5.mp e).2) (by rfl) (by first | assumption | decide +kernel) (by decide +kernel) ⟨rfl,rfl,rfl,rfl,rfl,by decide +kernel⟩ ?hw ?hc; (case hl=>refine GH.RD (by kernel_rfl) rfl (λ s=>by kernel_rfl) GH.size GH.R8 GH.RZ GH.RW GH.R1 ?_; intro w; kernel_rfl)))
local macro_rules | `(tactic| o_law)=>`(tactic| refine holds_law GH.HH λ HH=>?_)
set_option maxHeartbeats 0
open_top head for wm
end GH
set_option maxHeartbeats 4000000
namespace L2
open PySem PySem.Spec PyProof.Rows
abbrev Key:=Sum Int Str
def Me:Key->Value->Bool
 | .inl k,v=>qJ k v
 | .inr x,v=>Value.isStrOf x v
def zCV(w:World):Key->Int
 | .inl k=>hashInt k
 | .inr x=>hashStr w x
theorem jE:∀{k:Key}{v:Value},Me k v=true->(∃i t,k=Sum.inl i/\v=Value.int i t)\/(∃x t,k=Sum.inr x/\v=Value.str x t)
 | .inl i,v,h=>by
  obtain⟨t,e⟩:=Value.isInt_shape (k:=i) (v:=v) h;exact .inl ⟨i,t,rfl,e⟩
 | .inr x,v,h=>by
  obtain⟨t,e⟩:=Value.isStrOf_shape (x:=x) (v:=v) h;exact .inr ⟨x,t,rfl,e⟩
theorem Su(a b:Int):decide ((Sum.inl a:Key)=Sum.inl b)=(a == b):=by
 by_cases e:a=b
 ·subst e;simp
 ·have h:¬ (Sum.inl a:Key)=Sum.inl b:=λq=>e (Sum.inl.inj q)
  rw[decide_eq_false h];exact(beq_eq_false_iff_ne.mpr e).symm
theorem zBs(a b:Str):decide ((Sum.inr a:Key)=Sum.inr b)=decide (a=b):=by
 by_cases e:a=b
 ·subst e;simp
 ·have h:¬ (Sum.inr a:Key)=Sum.inr b:=λq=>e (Sum.inr.inj q)
  rw[decide_eq_false h,decide_eq_false e]
theorem U4(a:Int)(b:Str):decide ((Sum.inl a:Key)=Sum.inr b)=false:=decide_eq_false (λq=>nomatch q)
theorem Sl(a:Str)(b:Int):decide ((Sum.inr a:Key)=Sum.inl b)=false:=decide_eq_false (λq=>nomatch q)
def Bp(prog:Program)(w:World):PySem.KeyKind prog w Key where
 is:=Me
 hash:=zCV w
 inj:=λv a b ha hb=>by
  rcases jE ha with⟨i,t,rfl,rfl⟩ | ⟨x,t,rfl,rfl⟩
  ·rcases jE hb with⟨j,u,rfl,e⟩ | ⟨y,u,rfl,e⟩
   ·injection e with e1 _;rw[e1]
   ·exact nomatch e
  ·rcases jE hb with⟨j,u,rfl,e⟩ | ⟨y,u,rfl,e⟩
   ·exact nomatch e
   ·injection e with e1 _;rw[e1]
 byValue:=λk v h=>by
  rcases jE h with⟨i,t,rfl,rfl⟩ | ⟨x,t,rfl,rfl⟩<;>rfl
 pyHash:=λhv h=>by
  rcases jE hv with⟨i,t,rfl,rfl⟩ | ⟨x,t,rfl,rfl⟩
  ·exact wpAny_pyHash_int h
  ·exact wpAny_pyHash_str h
 eqBool:=λhu hv h=>by
  rcases jE hu with⟨i,t,rfl,rfl⟩ | ⟨x,t,rfl,rfl⟩
  ·rcases jE hv with⟨j,u,rfl,rfl⟩ | ⟨y,u,rfl,rfl⟩
   ·rw[Su]at h;exact wpAny_eqBool_int h
   ·rw[U4]at h;exact xu i t y u _ _ _ _ h
  ·rcases jE hv with⟨j,u,rfl,rfl⟩ | ⟨y,u,rfl,rfl⟩
   ·rw[Sl]at h;exact xv x t j u _ _ _ _ h
   ·rw[zBs]at h;exact wpAny_eqBool_str h
 «strs»:=λk x t v h=>by
  rcases jE h with⟨i,u,rfl,e⟩ | ⟨y,u,rfl,e⟩
  ·exact nomatch e
  ·injection e with e1 _
   subst e1;cases v<;>rfl
inductive V where
 | bj | bl (b:Bool) | int (i:Int) | str (x:Str) | byt (b:Array UInt8) | kZ (b:UInt64) | ref (a:Addr) | ty (n:String)
 deriving DecidableEq
def aW:V->Value->Prop
 | .bj,u=>u=Value.none
 | .bl b,u=>u=Value.bool b
 | .int i,u=>∃t,u=Value.int i t
 | .str x,u=>∃t,u=Value.str x t
 | .byt b,u=>∃t,u=Value.bytes b t
 | .kZ b,u=>∃t,u=Value.float b t
 | .ref a,u=>u=Value.ref a
 | .ty n,u=>u=Value.type n
abbrev aM:List V->List Value->Prop:=Paired aW
theorem aM.length{xs:List V}{us:List Value}(r:aM xs us):xs.length=us.length:=ua r
theorem aM.get:∀{xs:List V}{us:List Value}{i:Nat}{x:V},aM xs us->xs[i]? = some x->∃u,us[i]? = some u/\aW x u
 | _,_,_,_,.nil,e=>by simp at e
 | _,_,0,_,.cons r _,e=>by simp at e;subst e;exact⟨_,rfl,r⟩
 | _,_,i+1,x,.cons _ t,e=>by
  obtain⟨u,h1,h2⟩:=aM.get (i:=i) (x:=x) t (by simpa using e);exact⟨u,by simpa using h1,h2⟩
theorem aM.set{x:V}{u:Value}(r:aW x u):∀{xs:List V}{us:List Value}(i:Nat),aM xs us->aM (xs.set i x) (us.set i u)
 | _,_,_,.nil=>.nil
 | _,_,0,.cons _ t=>.cons r t
 | _,_,i+1,.cons q t=>.cons q (aM.set r i t)
theorem aM.append:∀{xs ys:List V}{us ws:List Value},aM xs us->aM ys ws->aM (xs++ys) (us++ws)
 | _,_,_,_,.nil,s=>s
 | _,_,_,_,.cons r t,s=>.cons r (aM.append t s)
theorem aM.take:∀{xs:List V}{us:List Value}(n:Nat),aM xs us->aM (xs.take n) (us.take n)
 | _,_,0,_=>.nil
 | _,_,_+1,.nil=>.nil
 | _,_,n+1,.cons r t=>.cons r (aM.take n t)
theorem aM.drop:∀{xs:List V}{us:List Value}(n:Nat),aM xs us->aM (xs.drop n) (us.drop n)
 | _,_,0,r=>r
 | _,_,_+1,.nil=>.nil
 | _,_,n+1,.cons _ t=>aM.drop n t
def Oh:Option V->Option Value->Prop
 | some v,some u=>aW v u
 | none,none=>True
 | _,_=>False
def KV{κ : Type} : List (κ × V)->List (κ × Value)->Prop:=Paired λ(p : κ × V)(q : κ × Value)=>p.1=q.1/\aW p.2 q.2
def kV:Key->V
 | .inl i=>.int i
 | .inr x=>.str x
inductive HO where
 /-- a list -/
 | lst (xs:List V)
 /-- a tuple (never changes) -/
 | tup (xs:List V)
 /-- a dict whose keys are ints and texts;one whose keys are tuples of ints and texts (the empty one is both) -/
 | dK (kvs:List (Key × V)) | dT (kvs:List (List Key × V))
 /-- a set of ints: its members,its size -/
 | set (S:Int->Bool) (n:Nat)
 /-- an instance of the class at C,its dict at dx,its attributes -/
 | ins (C dx:Addr) (fs:List (Str × V))
 /-- the dict of the instance at x -/
 | own (x:Addr)
 /-- the dict of an exception -/
 | xd (fs:List (Str × V))
 /-- a bound method,f of x -/
 | met (f x:Addr)
 /-- a range object lo,lo+1,.. below hi -/
 | zJ (lo hi:Int)
 /-- a thing that is known to the object (the script;a dict while a loop walks it): read,never written while it is so -/
 | fi (o:Obj) (u:HO)
 /-- a code object's table -/
 | jY (ps:Array Value)
 /-- any other thing,by what is true of its one object (a def of one's own: lH a S n:=HO.ext λh=>..) -/
 | ext (φ : Heap->Prop)
abbrev Hp:=Addr->Option HO
def upd(H:Hp)(a:Addr)(o:HO):Hp:=λb=>if b=a then some o else H b
theorem cF{H:Hp}{a:Addr}{o:HO} : upd H a o a=some o:=by unfold upd;rw[if_pos rfl]
theorem dR{H:Hp}{a b:Addr}{o:HO}(h:b≠a):upd H a o b=H b:=by unfold upd;rw[if_neg h]
theorem JO{H:Hp}{a b:Addr}{o u:HO}(h:H a=some o)(h':H b=some u)(d:o≠u):a≠b:=by
 intro e;subst e;rw[h]at h';exact d (wF h')
theorem jL{H:Hp}{a b:Addr}{o:HO}(h:H a=some o)(h':H b=none):a≠b:=by
 intro e;subst e;rw[h]at h';cases h'
section
variable(P:Program)(w:World)
def dh(H:Hp)(h:Heap)(a:Addr):HO->Prop
 | .lst xs=>xs.length<=sizeLine /\ ∃(its:List Value)(n:Nat),aM xs its/\h.get? a=some {cls:=.type "list",data:=.seq its.toArray n}
 | .tup xs=>xs.length<=sizeLine /\ ∃its:List Value,aM xs its/\IsTup h a its.toArray
 | .dK kvs=>kvs.length<=sizeLine/\(a == sysModules)=false /\ ∃vs,KV kvs vs/\h.DictOf (Bp P w) a vs
 | .dT kvs=>kvs.length<=sizeLine/\(a == sysModules)=false /\ ∃xs:List (List Key × Addr × Value),
     Paired (λ(p:List Key × V)(q:List Key × Addr × Value)=>p.1=q.1/\H q.2.1=some (.tup (p.1.map kV))/\aW p.2 q.2.2) kvs xs /\
     ∃o es ep,h.get? a=some o/\o.ExactDict/\o.data=.dict es ep/\es.toList=xs.map (entryOfKey (tupleKind (Bp P w)))/\(xs.map (·.1)).Nodup
 | .set S n=>h.SetOf (intKind P w) a S n
 | .ins C dx fs=>H dx=some (.own a)/\fs.length<=1000/\dx≠a/\h.get? a=some (Xy C dx) /\
     ∃mA,h.Ns1 dx mA/\(∀f,Oh (fs.lookup f) (mA f))/\PySem.Within mA (fs.map (·.1))
 | .own _=>∃o,h.get? a=some o
 | .xd fs=>∃mA,h.Ns1 a mA /\ ∀f,Oh (fs.lookup f) (mA f)
 | .zJ lo hi=>∃t u v,h.get? a=some {cls:=.type "range",data:=.fields #[.int lo t,.int hi u,.int 1 v]}
 | .fi o u=>h.get? a=some o/\dh H h a u
 | .jY ps=>h.get? a=some {cls:=.none,data:=.fields ps}
 | .met f x=>h.get? a=some (qX (.ref f) (.ref x))
 | .ext φ=>φ h/\(∃o,h.get? a=some o) /\ ∀h1 h2:Heap,φ h1->(∀o,h1.get? a=some o->h2.get? a=some o) -> φ h2
def cT(H:Hp)(h:Heap):Prop:=∀a o,H a=some o->dh P w H h a o
end
section
variable{P:Program}{w:World}{H H':Hp}{h h':Heap}{a:Addr}{o:HO}
theorem dh.lt(x:dh P w H h a o):a<h.objs.size:=by
 cases o with
 | lst xs=>obtain⟨_,_,_,_,e⟩:=x;exact wq e
 | tup xs=>obtain⟨_,_,_,p⟩:=x;exact p.lt
 | dK kvs=>obtain⟨_,_,_,_,o,_,_,e,_⟩:=x;exact wq e
 | dT kvs=>obtain⟨_,_,_,_,o,_,_,e,_⟩:=x;exact wq e
 | set S n=>obtain⟨o,_,_,_,e,_⟩:=x;exact wq e
 | ins C dx fs=>obtain⟨_,_,_,e,_⟩:=x;exact wq e
 | own y=>obtain⟨_,e⟩:=x;exact wq e
 | xd fs=>obtain⟨_,⟨_,_,_,e,_⟩,_⟩:=x;exact wq e
 | zJ lo hi=>obtain⟨_,_,_,e⟩:=x;exact wq e
 | fi ob u=>obtain⟨e,_⟩:=x;exact wq e
 | jY ps=>exact wq (show h.get? a=some _ from x)
 | met f y=>exact wq (show h.get? a=some _ from x)
 | ext φ=>obtain⟨_,⟨_,e⟩,_⟩:=x;exact wq e
theorem Paired.HK{α β : Type}{F G : α -> β -> Prop} : ∀{l₁ : List α}{l₂ : List β},Paired F l₁ l₂ -> (∀a b,F a b->G a b)->Paired G l₁ l₂
 | _,_,.nil,_=>.nil
 | _,_,.cons r t,f=>.cons (f _ _ r) (Paired.HK t f)
theorem dh.jR(x:dh P w H h a o)(k:∀b u,(b=a\/H b=some (.own a))->h.get? b=some u->h'.get? b=some u)
   (ho:∀b,H b=some (.own a)->H' b=some (.own a)) (ht:∀b xs,H b=some (.tup xs)->H' b=some (.tup xs)):dh P w H' h' a o:=by
 induction o with
 | lst xs=>obtain⟨z,its,n,r,e⟩:=x;exact⟨z,its,n,r,k _ _ (.inl rfl) e⟩
 | tup xs=>obtain⟨z,its,r,ob,e,c⟩:=x;exact⟨z,its,r,ob,k _ _ (.inl rfl) e,c⟩
 | dK kvs=>obtain⟨z,y,vs,r,ob,es,ep,e,c⟩:=x;exact⟨z,y,vs,r,ob,es,ep,k _ _ (.inl rfl) e,c⟩
 | dT kvs =>
   obtain⟨z,y,xs,r,ob,es,ep,e,c⟩:=x;exact⟨z,y,xs,Paired.HK r λp q z=>⟨z.1,ht _ _ z.2.1,z.2.2⟩,ob,es,ep,k _ _ (.inl rfl) e,c⟩
 | set S n=>obtain⟨ob,es,ep,t,e,c⟩:=x;exact⟨ob,es,ep,t,k _ _ (.inl rfl) e,c⟩
 | ins C dx fs =>
   obtain⟨d,z,ne,e,mA,⟨od,es,ep,e2,c⟩,r⟩:=x;exact⟨ho _ d,z,ne,k _ _ (.inl rfl) e,mA,⟨od,es,ep,k _ _ (.inr d) e2,c⟩,r⟩
 | own y=>obtain⟨ob,e⟩:=x;exact⟨ob,k _ _ (.inl rfl) e⟩
 | xd fs=>obtain⟨mA,⟨od,es,ep,e,c⟩,r⟩:=x;exact⟨mA,⟨od,es,ep,k _ _ (.inl rfl) e,c⟩,r⟩
 | zJ lo hi=>obtain⟨t,u,v,e⟩:=x;exact⟨t,u,v,k _ _ (.inl rfl) e⟩
 | fi ob u ih=>obtain⟨e,q⟩:=x;exact⟨k _ _ (.inl rfl) e,ih q⟩
 | jY ps =>
   have e:h.get? a=some {cls:=.none,data:=.fields ps}:=x
   show h'.get? a=some {cls:=.none,data:=.fields ps}
   exact k a _ (.inl rfl) e
 | met f y =>
   have e:h.get? a=some (qX (.ref f) (.ref y)):=x
   show h'.get? a=some (qX (.ref f) (.ref y))
   exact k a _ (.inl rfl) e
 | ext φ=>obtain⟨p,⟨o,e⟩,st⟩:=x;exact⟨st _ _ p λo q=>k _ _ (.inl rfl) q,⟨o,k _ _ (.inl rfl) e⟩,st⟩
theorem cT.lt(x:cT P w H h)(e:H a=some o):a<h.objs.size:=(x a o e).lt
theorem cT.fresh(x:cT P w H h)(e:h.objs.size<=a):H a=none:=by
 cases q:H a with
 | none=>rfl
 | some u=>exact absurd (wG (x.lt q) e) (WE _)
theorem cT.kept(x:cT P w H h)(k:∀b u,h.get? b=some u->h'.get? b=some u):cT P w H h':=λa o e =>
 (x a o e).jR (λb u _ q=>k b u q) (λ_ q=>q) λ_ _ q=>q
theorem cT.laid(x:cT P w H h)(k:∀b u,h.get? b=some u->h'.get? b=some u)(hp:h.objs.size<=a)(new:dh P w (upd H a o) h' a o):cT P w (upd H a o) h':=λb u e=>by
 have hn:=x.fresh hp
 by_cases hb:b=a
 ·subst hb;rw[cF]at e;cases e;exact new
 ·rw[dR hb]at e
  exact(x b u e).jR (λc v _ q=>k c v q) (λc q=>by rw[dR (jL q hn)];exact q) λc xs q=>by rw[dR (jL q hn)];exact q
end
def Rd(H:Hp)(a:Addr)(u:HO):Prop:=H a=some u \/ ∃o,H a=some (.fi o u)
theorem Rd.ok{P:Program}{w:World}{H:Hp}{h:Heap}{a:Addr}{u:HO}(r:Rd H a u)(x:cT P w H h):dh P w H h a u:=by
 rcases r with r | ⟨o,r⟩
 ·exact x a u r
 ·obtain⟨_,q⟩:=x a _ r
  exact q
def sk:Option HO->Prop
 | some (.lst _)=>True
 | some (.dK _)=>True
 | some (.dT _)=>True
 | some (.set _ _)=>True
 | some (.ins _ _ _)=>True
 | some (.ext _)=>True
 | _=>False
section
variable{P:Program}{w:World}{H:Hp}{h h':Heap}{x e:Addr}{o':HO}
theorem cT.write(ok:cT P w H h)(mu:sk (H x))(he:e=x\/H e=some (.own x))(k:∀b u,b≠e->h.get? b=some u->h'.get? b=some u)(heo:∃u,h'.get? e=some u)
   (new:dh P w (upd H x o') h' x o'):cT P w (upd H x o') h':=λb u q=>by
 have nown:∀c y,H c=some (.own y)->c≠x:=λc y r z=>by subst z;rw[r]at mu;exact mu
 have ntup:∀c xs,H c=some (.tup xs)->c≠x:=λc xs r z=>by subst z;rw[r]at mu;exact mu
 by_cases hb:b=x
 . subst hb;rw[cF]at q;cases q;exact new
 . rw[dR hb]at q
   by_cases hbe:b=e
   . have q':H b=some (.own x):=by
       rcases he with z | z
       . exact absurd (hbe.trans z) hb
       . rw[hbe];exact z
     rw[q]at q';cases q';obtain⟨v,hv⟩:=heo;exact⟨v,by rw[hbe];exact hv⟩
   . refine(ok b u q).jR (λc v hc r=>k c v ?_ r) (λc r=>by rw[dR (nown c b r)];exact r) λc xs r=>by rw[dR (ntup c xs r)];exact r
     rcases hc with rfl | hc
     . exact hbe
     . rintro rfl
       rcases he with z | z
       . exact nown c b hc z
       . rw[hc]at z;cases z;exact hb rfl
end
structure Un(fs ex:List Addr)(H H':Hp)(h h':Heap):Prop where
 keep:∀b o,h.get? b=some o->H b=none->b ∉ fs->b ∉ ex->h'.get? b=some o
 slot:∀b o,h.get? b=some o->H b=none->b∈fs->b ∉ ex->∃sl,h'.get? b=some {o with slots:=sl}
 free:∀b o,h.get? b=some o->H b=none->b ∉ ex->H' b=none
 there:∀b o,h.get? b=some o->b ∉ ex->∃o',h'.get? b=some o'
 gR:∀b xs,H b=some (.tup xs)->H' b=some (.tup xs)
 gA:∀b o u,H b=some (.fi o u)->H' b=some (.fi o u)
 gQ:∀b ps,H b=some (.jY ps)->∃more,H' b=some (.jY (ps++more))
section
variable{fs fs' ex ex':List Addr}{H H1 H2:Hp}{h h1 h2 h':Heap}{a x e:Addr}{o:HO}
theorem Un.any(u:Un fs ex H H1 h h1){b:Addr}{ob:Obj}(q:h.get? b=some ob)(n:H b=none)(hx:b ∉ ex):∃sl,h1.get? b=some {ob with slots:=sl}:=by
 by_cases hb:b∈fs
 ·exact u.slot b ob q n hb hx
 ·exact⟨ob.slots,u.keep b ob q n hb hx⟩
theorem Un.kept(k:∀b u,h.get? b=some u->h'.get? b=some u):Un fs ex H H h h' :=
 ⟨λb ob q _ _ _=>k b ob q,λb ob q _ _ _=>⟨ob.slots,k b ob q⟩,λ_ _ _ n _=>n,λb ob q _=>⟨ob,k b ob q⟩,λ_ _ q=>q,λ_ _ _ q=>q,λ_ ps q=>⟨#[],by rw[q];simp⟩⟩
theorem Un.refl:Un fs ex H H h h:=Un.kept λ_ _ q=>q
theorem Un.laid(k:∀b u,h.get? b=some u->h'.get? b=some u)(hp:h.objs.size<=a)(hn:H a=none):Un fs ex H (upd H a o) h h' where
 keep:=λb u q _ _ _=>k b u q
 slot:=λb u q _ _ _=>⟨u.slots,k b u q⟩
 free:=λb u q n _=>by rw[dR (wD (wG (wq q) hp))];exact n
 there:=λb u q _=>⟨u,k b u q⟩
 gR:=λb xs q=>by rw[dR (jL q hn)];exact q
 gA:=λb u xs q=>by rw[dR (jL q hn)];exact q
 gQ:=λb ps q=>⟨#[],by rw[dR (jL q hn),q];simp⟩
theorem Un.write(mu:sk (H x))(he:e=x\/H e=some (.own x))(k:∀b u,b≠e->h.get? b=some u->h'.get? b=some u)(heo:∃u,h'.get? e=some u):Un fs ex H (upd H x o) h h':=by
 have hx:∀b,H b=none->b≠x:=λb n z=>by subst z;rw[n]at mu;exact mu
 have hb:∀b,H b=none->b≠e:=λb n z=>by
  subst z;rcases he with r | r
  ·exact hx b n r
  ·rw[n]at r;cases r
 have hm:∀b u,H b=some u->¬ sk (some u)->b≠x:=λb u q nm z=>by subst z;rw[q]at mu;exact nm mu
 refine⟨λb u q n _ _=>k b u (hb b n) q,λb u q n _ _=>⟨u.slots,k b u (hb b n) q⟩,λb u q n _=>by rw[dR (hx b n)];exact n,λb u q _=>?_,
  λb xs q=>by rw[dR (hm b _ q λz=>z)];exact q,λb u xs q=>by rw[dR (hm b _ q λz=>z)];exact q,λb ps q=>⟨#[],by rw[dR (hm b _ q λz=>z),q];simp⟩⟩
 by_cases hbe:b=e
 ·subst hbe;exact heo
 ·exact⟨u,k b u hbe q⟩
end
def ig(h:Heap)(H:Hp):List Addr:=(wl h.objs.size).filter λa=>(H a).isSome
def jH(h:Heap)(H:Hp):Heap:=Xz h (ig h H)
theorem UJ(h:Heap)(H:Hp):(jH h H).objs.size=h.objs.size:=PySem.W.hideAll_size _ _
theorem zxr{h:Heap}{H:Hp}{b:Addr}{o:Obj}(e:h.get? b=some o)(n:H b=none):(jH h H).get? b=some o :=
 xl _ e λhm=>by
  have q:(H b).isSome=true:=(wP.mp hm).2;rw[n]at q;simp at q
theorem ZN{h:Heap}{H:Hp}{b:Addr}{o:Obj}(e:(jH h H).get? b=some o):h.get? b=some o/\H b=none:=by
 have e':h.get? b=some o:=xw (ig h H) e;refine⟨e',?_⟩;cases q:H b with
 | none=>rfl
 | some x =>
  have hm:b∈ig h H:=wP.mpr ⟨wx.mpr (wq e'),by simp[q]⟩;have z:(jH h H).get? b=none:=PySem.W.hideAll_none (ig h H) hm;rw[z]at e;cases e
def Ud(g h:Heap)(L:Addr):List (Addr × Obj):=(wl h.objs.size).filterMap λa=>if a=L\/(g.get? a).isSome=true then none else(h.get? a).map λo=>(a,o)
def cO(g h:Heap)(L d:Addr):List (Addr × Obj):=(Ud g h L).filter λp=>decide (p.1≠d)
structure Mod(K:wb)(mg:Str->Option Value)(base:Heap):Prop where
 pP:K.In base
 glob:base.Ns mainGlobals mg
 blt:∃mb,base.Ns builtinsNs mb /\ ∀x:Str,x≠"__name__" -> mb x=bootBuiltins x
 nolimit:base.NoLimit
structure Cx where
 prog:Program
 w:World
 K:wb
 mg:Str->Option Value
 base:Heap
 A:Around
 N:List Str
 s₀ : Shared
 H₀ : Hp
 env:Env
 outer:List Env
 stack:List Env
 ex:List Addr
 fn:Str->Bool
 calm:Bool
 pn:List (Addr × Obj)
 xe:Value->Shared->Prop
def dy(l:List Env):List Addr:=l.filterMap (·.frame)
abbrev Cx.fs(X:Cx):List Addr:=dy X.outer
def zI(sc:Scope)(x:Str):Prop:=sc.names.lookup x=some .local\/sc.names.lookup x=some .cell\/sc.names.lookup x=some .free
def Loc(sc:Scope)(x:Str):Prop:=sc.names.lookup x=some .local\/sc.names.lookup x=some .cell
def zC3(env:Env)(h:Heap)(m:Str->Option Value)(x:Str)(u:Value):Prop :=
 (env.kindOf x=some .local/\m x=some u)\/((env.kindOf x=some .cell\/env.kindOf x=some .free) /\ ∃c,env.cells.lookup x=some c/\h.IsCell c (some u))
structure Cx.Ok(X:Cx):Prop where
 mod:Mod X.K X.mg X.base
 kind:X.env.scope.kind=.function
 glob:X.env.globals=mainGlobals
 blt:X.env.builtins=builtinsNs
 above:X.s₀.heap.objs.size<=X.env.locals
 inj:∀x y c,X.env.cells.lookup x=some c->X.env.cells.lookup y=some c->x=y
 has:∀x,(X.env.kindOf x=some .cell\/X.env.kindOf x=some .free)->∃c,X.env.cells.lookup x=some c
 j9:∀x c,X.fn x=true->X.env.cells.lookup x=some c->X.s₀.heap.objs.size<=c
 hd:X.calm=true->X.A.handled=none
 frames:X.A.frames=some X.stack
 kB:X.stack=X.outer\/(X.stack=X.env::X.outer/\X.env.frame=some X.env.locals)
 nO:∀b∈X.ex,b≠X.env.locals /\ ∀x c,X.env.cells.lookup x=some c->c≠b
 bs:∀b o,X.base.get? b=some o->X.s₀.heap.get? b=some o/\X.H₀ b=none
 hZ:X.base.objs.size<=X.s₀.heap.objs.size
 jS:∀b o,X.base.get? b=some o->b ∉ X.ex
 kq:∀b∈X.ex,b ∉ X.fs
 eG:X.s₀.heap.FunFrames X.base X.outer
 je:∀b∈X.fs,X.H₀ b=none
structure Inv(X:Cx)(pins:List (Addr × Obj))(σ : List (Option V))(H:Hp)(s:Shared):Prop where
 ok:X.Ok
 os:s.os=X.s₀.os
 bare:AllBare s.gens
 base:Un X.fs X.ex X.H₀ H X.s₀.heap s.heap
 loc:∃m,s.heap.Ns X.env.locals m /\ ∀(i:Nat)(x:Str)(v:V),X.N[i]? = some x -> σ[i]? = some (some v)->zI X.env.scope x->∃u,aW v u/\zC3 X.env s.heap m x u
 cell:∀x c,X.env.cells.lookup x=some c->∃v,s.heap.IsCell c v
 free:H X.env.locals=none
 fN:∀x c,X.env.cells.lookup x=some c->H c=none
 pin:∀p∈X.pn++pins,s.heap.get? p.1=some p.2/\H p.1=none/\p.1≠X.env.locals/\p.1 ∉ X.fs /\ ∀v,p.2.data≠.cell v
 aG:cT X.prog X.w H s.heap
 len : σ.length=X.N.length
section
variable{X:Cx}{pins:List (Addr × Obj)}{σ : List (Option V)}{H H':Hp}{s:Shared}{h':Heap}
theorem Cx.Ok.Sb(ok:X.Ok){b:Addr}{o:Obj}(e:X.base.get? b=some o):b ∉ X.fs:=λhb=>by
 have:=(ok.eG.mem hb).1;rw[e]at this;cases this
theorem Inv.bs(I:Inv X pins σ H s):∀b o,X.base.get? b=some o->s.heap.get? b=some o/\H b=none:=λb o e =>
 ⟨I.base.keep b o (I.ok.bs b o e).1 (I.ok.bs b o e).2 (I.ok.Sb e) (I.ok.jS b o e),I.base.free b o (I.ok.bs b o e).1 (I.ok.bs b o e).2 (I.ok.jS b o e)⟩
theorem Inv.bk(I:Inv X pins σ H s):∀b o,X.base.get? b=some o->s.heap.get? b=some o:=λb o e=>(I.bs b o e).1
theorem Inv.mod(I:Inv X pins σ H s):Mod X.K X.mg X.base:=I.ok.mod
theorem Inv.dk(I:Inv X pins σ H s):X.K.In s.heap:=I.ok.mod.pP.keeps I.bk
theorem Inv.lt(I:Inv X pins σ H s):X.env.locals<s.heap.objs.size:=let ⟨_,hn,_⟩:=I.loc;hn.lt
theorem Inv.sz(I:Inv X pins σ H s):X.s₀.heap.objs.size<=s.heap.objs.size:=vA I.ok.above (WC I.lt)
theorem Inv.R6(I:Inv X pins σ H s){a:Addr}(h:s.heap.objs.size<=a):a ∉ X.fs:=λhb=>by
 obtain⟨_,o,ho,_⟩:=I.ok.eG.mem hb;exact absurd (wG (wq ho) (vA I.sz h)) (WE _)
theorem Inv.kg(I:Inv X pins σ H s):∀x c,X.env.cells.lookup x=some c->c≠X.env.locals:=λx c e z=>by
 obtain⟨v,o,ho,hd⟩:=I.cell x c e;obtain⟨m,⟨o',es,ep,ho',hd',_⟩,_⟩:=I.loc;rw[z,ho']at ho;cases ho;rw[hd']at hd;cases hd
theorem Inv.eG(I:Inv X pins σ H s):s.heap.FunFrames X.base X.outer:=by
 have all:∀(l:List Env),(∀b∈dy l,b∈X.fs)->X.s₀.heap.FunFrames X.base l->s.heap.FunFrames X.base l:=by
  intro l
  induction l with
  | nil=>intro _ _;trivial
  | cons env r ih =>
   intro hs hl;obtain⟨hk,⟨L,o,hf,hn,ho,hd⟩,hr⟩:=hl;have hL:L∈X.fs:=hs L (by unfold dy;rw[VR,hf];exact wu);obtain⟨sl,e⟩:=I.base.slot L o ho (I.ok.je L hL) hL λz=>I.ok.kq L z hL
   exact⟨hk,⟨L,_,hf,hn,e,hd⟩,ih (λb hb=>hs b (by unfold dy;rw[VR,hf];exact wo _ hb)) hr⟩
 exact all X.outer (λ_ hb=>hb) I.ok.eG
theorem Inv.stack(I:Inv X pins σ H s):s.heap.FunFrames X.base X.stack:=by
 rcases I.ok.kB with e | ⟨e,hf⟩
 ·rw[e];exact I.eG
 ·rw[e]
  obtain⟨m,hn,_⟩:=I.loc;refine .cons (by rw[I.ok.kind];decide) hf hn ?_ I.eG;exact Heap.get?_none_of_le (vA I.ok.hZ I.ok.above)
theorem Inv.lE(I:Inv X pins σ H s):∀b∈dy X.stack,b∈X.env.locals::X.fs:=λb hb=>by
 rcases I.ok.kB with e | ⟨e,hf⟩
 ·rw[e]at hb;exact wo _ hb
 ·rw[e]at hb
  unfold dy at hb;rw[VR,hf]at hb;exact hb
theorem Inv.rf(I:Inv X pins σ H s):∀b∈dy X.stack,H b=none:=λb hb=>by
 rcases wz.mp (I.lE b hb)with e | hb
 ·rw[e];exact I.free
 ·obtain⟨_,o,ho,_⟩:=I.ok.eG.mem hb
  exact I.base.free b o ho (I.ok.je b hb) λz=>I.ok.kq b z hb
theorem Inv.step{g':Array GenState}{t':Nat}{d':Drawn}{ch:List Addr}(I:Inv X pins σ H s)
   (hch:∀b∈ch,(b∈X.ex\/X.s₀.heap.objs.size<=b)/\b≠X.env.locals/\(∀x c,X.env.cells.lookup x=some c->c≠b) /\ ∀p∈X.pn++pins,p.1≠b)
   (keep:∀b o,b≠X.env.locals->b ∉ X.fs->b ∉ ch->s.heap.get? b=some o->H b=none->h'.get? b=some o)
   (slot:∀b o,b≠X.env.locals->b∈X.fs->b ∉ ch->s.heap.get? b=some o->H b=none->∃sl,h'.get? b=some {o with slots:=sl}) (free:∀b o,b ∉ ch->s.heap.get? b=some o->H b=none->H' b=none)
   (there:∀b o,b ∉ ch->s.heap.get? b=some o->∃o',h'.get? b=some o')
   (gR:∀b xs,H b=some (.tup xs)->H' b=some (.tup xs)) (gA:∀b o u,H b=some (.fi o u)->H' b=some (.fi o u)) (gQ:∀b ps,H b=some (.jY ps)->∃more,H' b=some (.jY (ps++more)))
   (ns:∀m,s.heap.Ns X.env.locals m->h'.Ns X.env.locals m) (aG:cT X.prog X.w H' h') (hg:AllBare g') :
   Inv X pins σ H' {s with heap:=h',gens:=g',drawn:=d',toks:=t'}:=by
 have neL:∀b o,X.s₀.heap.get? b=some o->b≠X.env.locals:=λb o e=>wD (wG (wq e) I.ok.above)
 have neC:∀b o,X.s₀.heap.get? b=some o->b ∉ X.ex->b ∉ ch:=λb o e hx hb=>by
   rcases (hch b hb).1 with z | z
   . exact hx z
   . exact absurd (wG (wq e) z) (WE _)
 have cellK:∀x c,X.env.cells.lookup x=some c->∀v,s.heap.IsCell c v->h'.IsCell c v:=λx c e v ⟨o,ho,hd⟩=>by
   have nch:c ∉ ch:=λz=>(hch c z).2.2.1 x c e rfl
   by_cases hc:c∈X.fs
   . obtain⟨sl,q⟩:=slot c o (I.kg x c e) hc nch ho (I.fN x c e)
     exact⟨_,q,hd⟩
   . exact⟨o,keep c o (I.kg x c e) hc nch ho (I.fN x c e),hd⟩
 refine⟨I.ok,I.os,hg,⟨λb o e n hb hx=>?_,λb o e n hb hx=>?_,λb o e n hx=>?_,λb o e hx=>?_,λb xs e=>gR b xs (I.base.gR b xs e),λb o xs e=>gA b o xs (I.base.gA b o xs e),λb ps e=>?_⟩,?_,λx c e=>?_,?_,λx c e=>?_,λp hp=>?_,aG,I.len⟩
 . exact keep b o (neL b o e) hb (neC b o e hx) (I.base.keep b o e n hb hx) (I.base.free b o e n hx)
 . obtain⟨sl,e1⟩:=I.base.slot b o e n hb hx
   obtain⟨sl',e2⟩:=slot b _ (neL b o e) hb (neC b o e hx) e1 (I.base.free b o e n hx);exact⟨sl',e2⟩
 . obtain⟨o',e1⟩:=I.base.there b o e hx
   exact free b o' (neC b o e hx) e1 (I.base.free b o e n hx)
 . obtain⟨o',e1⟩:=I.base.there b o e hx
   exact there b o' (neC b o e hx) e1
 . obtain⟨m1,e1⟩:=I.base.gQ b ps e
   obtain⟨m2,e2⟩:=gQ b _ e1;exact⟨m1++m2,by rw[e2,xx]⟩
 . obtain⟨m,hn,hl⟩:=I.loc
   refine⟨m,ns m hn,λi x v e1 e2 e3=>?_⟩;obtain⟨u,r,l⟩:=hl i x v e1 e2 e3;refine⟨u,r,?_⟩;rcases l with l | ⟨k,c,e,z⟩
   . exact .inl l
   . exact .inr ⟨k,c,e,cellK x c e _ z⟩
 . obtain⟨v,z⟩:=I.cell x c e
   exact⟨v,cellK x c e v z⟩
 . obtain⟨m,⟨o,_,_,ho,_⟩,_⟩:=I.loc
   exact free _ o (λz=>(hch _ z).2.1 rfl) ho I.free
 . obtain⟨v,o,ho,hd⟩:=I.cell x c e
   exact free c o (λz=>(hch c z).2.2.1 x c e rfl) ho (I.fN x c e)
 . obtain⟨e,n,ne,nf,d⟩:=I.pin p hp
   have nch:p.1 ∉ ch:=λz=>(hch p.1 z).2.2.2 p hp rfl
   exact⟨keep p.1 p.2 ne nf nch e n,free p.1 p.2 nch e n,ne,nf,d⟩
theorem Inv.un{t':Nat}(I:Inv X pins σ H s)(u:Un X.fs [] H H' s.heap h')(aG:cT X.prog X.w H' h'):Inv X pins σ H' {s with heap:=h',toks:=t'}:=by
 obtain⟨m,⟨o,es,ep,ho,r⟩,_⟩:=id I.loc;obtain⟨sl,hL⟩:=u.any ho I.free (by simp)
 exact I.step (g':=s.gens) (d':=s.drawn) (ch:=[]) (λ_ z=>nomatch z) (λb o _ hb _ e n=>u.keep b o e n hb (by simp)) (λb o _ hb _ e n=>u.slot b o e n hb (by simp)) (λb o _ e n=>u.free b o e n (by simp)) (λb o _ e=>u.there b o e (by simp)) u.gR u.gA u.gQ (λm' hm=>by
  obtain⟨o',es',ep',ho',r'⟩:=hm;rw[ho]at ho';cases ho';exact⟨_,es',ep',hL,r'⟩) aG I.bare
theorem Inv.call{g':Array GenState}{t':Nat}{d':Drawn}{ch:List Addr}(I:Inv X pins σ H s)(u:Un (dy X.stack) ch H H' s.heap h')(aG:cT X.prog X.w H' h')(hg:AllBare g')
   (hch:∀b∈ch,(b∈X.ex\/X.s₀.heap.objs.size<=b)/\b≠X.env.locals/\(∀x c,X.env.cells.lookup x=some c->c≠b) /\ ∀p∈X.pn++pins,p.1≠b) :
   Inv X pins σ H' {s with heap:=h',gens:=g',drawn:=d',toks:=t'}:=by
 obtain⟨m,⟨o,es,ep,ho,r⟩,_⟩:=id I.loc;obtain⟨sl,hL⟩:=u.any ho I.free λz=>(hch _ z).2.1 rfl
 exact I.step (ch:=ch) hch (λb o hL hb hc e n=>u.keep b o e n (λz=>(wz.mp (I.lE b z)).elim hL hb) hc) (λb o _ _ hc e n=>u.any e n hc) (λb o hc e n=>u.free b o e n hc) (λb o hc e=>u.there b o e hc) u.gR u.gA u.gQ (λm' hm=>by
   obtain⟨o',es',ep',ho',r'⟩:=hm;rw[ho]at ho';cases ho';exact⟨_,es',ep',hL,r'⟩) aG hg
theorem Inv.turned{t':Nat}{it:Addr}(I:Inv X pins σ H s)(k:∀b o,b≠it->s.heap.get? b=some o->h'.get? b=some o)(hn:H it=none)(hL:it≠X.env.locals)
   (h1:it∈X.ex\/X.s₀.heap.objs.size<=it) (h2:∀x c,X.env.cells.lookup x=some c->c≠it) (h3:∀p∈X.pn++pins,p.1≠it):Inv X pins σ H {s with heap:=h',toks:=t'}:=by
 have nit:∀b u,H b=some u->b≠it:=λb u e z=>by rw[z,hn]at e;cases e
 refine I.step (g':=s.gens) (d':=s.drawn) (ch:=[it]) (λb hb=>?_) (λb o _ _ hc e _=>k b o (λz=>hc (by simp[z])) e) (λb o _ _ hc e _=>⟨o.slots,k b o (λz=>hc (by simp[z])) e⟩) (λ_ _ _ _ n=>n)
   (λb o hc e=>⟨o,k b o (λz=>hc (by simp[z])) e⟩) (λ_ _ e=>e) (λ_ _ _ e=>e) (λb ps e=>⟨#[],by rw[e];simp⟩) (λm hm=>?_) (λb u e=>?_) I.bare
 . have e:b=it:=by simpa using hb
   subst e;exact⟨h1,hL,h2,h3⟩
 . obtain⟨o,es,ep,ho,r⟩:=hm
   exact⟨o,es,ep,k _ o (vX hL) ho,r⟩
 . refine(I.aG b u e).jR (λc v hc q=>k c v ?_ q) (λ_ q=>q) λ_ _ q=>q
   rcases hc with z | z
   . rw[z];exact nit b u e
   . exact nit c _ z
theorem Inv.tok(I:Inv X pins σ H s)(t:Nat):Inv X pins σ H {s with toks:=t}:=I.un (h':=s.heap) (t':=t) Un.refl I.aG
theorem Inv.kept{t':Nat}(I:Inv X pins σ H s)(k:∀b u,s.heap.get? b=some u->h'.get? b=some u):Inv X pins σ H {s with heap:=h',toks:=t'}:=I.un (Un.kept k) (I.aG.kept k)
theorem Inv.laid{a:Addr}{o:HO}{t':Nat}(I:Inv X pins σ H s)(k:∀b u,s.heap.get? b=some u->h'.get? b=some u)(hp:s.heap.objs.size<=a)(new:dh X.prog X.w (upd H a o) h' a o) :
  Inv X pins σ (upd H a o) {s with heap:=h',toks:=t'}:=I.un (Un.laid k hp (I.aG.fresh hp)) (I.aG.laid k hp new)
theorem Inv.write{x e:Addr}{o:HO}{t':Nat}(I:Inv X pins σ H s)(mu:sk (H x))(he:e=x\/H e=some (.own x))(k:∀b u,b≠e->s.heap.get? b=some u->h'.get? b=some u)(heo:∃u,h'.get? e=some u)
  (new:dh X.prog X.w (upd H x o) h' x o):Inv X pins σ (upd H x o) {s with heap:=h',toks:=t'}:=I.un (Un.write mu he k heo) (I.aG.write mu he k heo new)
theorem Inv.G8{pins':List (Addr × Obj)}(I:Inv X pins σ H s)(h:∀p∈pins',s.heap.get? p.1=some p.2/\H p.1=none/\p.1≠X.env.locals/\p.1 ∉ X.fs /\ ∀v,p.2.data≠.cell v):Inv X pins' σ H s :=
 ⟨I.ok,I.os,I.bare,I.base,I.loc,I.cell,I.free,I.fN,λp hp=>(vM.mp hp).elim (λz=>I.pin p (Vb _ z)) (h p),I.aG,I.len⟩
theorem MF{N:List Str}(hN:N.Nodup){i j:Nat}{x:Str}(a:N[i]? = some x)(b:N[j]? = some x):i=j:=by
 obtain⟨h1,e1⟩:=vZ.mp a;obtain⟨h2,e2⟩:=vZ.mp b;exact(List.getElem_inj hN).mp (e1.trans e2.symm)
theorem NS{M:Model}{A:Around}{E:Value->Shared->Prop}{i:Nat}{x:Str}{v:V}{u:Value}{Q:Unit->Shared->Prop}(I:Inv X pins σ H s)(hN:X.N.Nodup)(hi:X.N[i]? = some x)(hx:Loc X.env.scope x)(r:aW v u)
   (h:∀s',Inv X pins (σ.set i (some v)) H s'->(∃a,wS a s.heap s'.heap/\(a=X.env.locals\/X.env.cells.lookup x=some a))->Q () s') (hf:X.fn x=true\/X.env.scope.names.lookup x=some .local:=by first | exact .inl rfl | exact .inr rfl | assumption):wpAny M A (storeName X.env x u) Q E s:=by
 obtain⟨m,hn,hl⟩:=id I.loc;have hcls:(X.env.scope.kind == .class || (X.env.scope.kind == .module&&X.env.locals != X.env.globals))=false:=by rw[I.ok.kind];rfl
 have hiσ : i < σ.length:=by rw[I.len];exact(vZ.mp hi).1
 have kg:=I.kg
 have tracked:∀{a:Addr}{h':Heap},(∃o,s.heap.get? a=some o/\H a=none)->wS a s.heap h'->cT X.prog X.w H h':=λ{a h'} ha hs b ob e=>by
   obtain⟨_,_,hfree⟩:=ha;refine(I.aG b ob e).jR (λc w' hc q=>(hs.2 c ?_).trans q) (λ_ q=>q) λ_ _ q=>q
   rintro rfl;rcases hc with rfl | hc
   . rw[hfree]at e;cases e
   . rw[hfree]at hc;cases hc
 rcases hx with hk | hk
 . refine wpAny_storeName_local hk hn (λh' hn' hs=>?_) hcls
   obtain⟨oL,_,_,hoL,_⟩:=id hn;refine h _ ⟨I.ok,I.os,I.bare,⟨λb o e n hb hx=>?_,λb o e n hb hx=>?_,I.base.free,λb o e hx=>?_,I.base.gR,I.base.gA,I.base.gQ⟩,⟨_,hn',λj y v' e1 e2 e3=>?_⟩,λy c e=>?_,I.free,I.fN,λp hp=>?_,tracked ⟨oL,hoL,I.free⟩ hs,by simpa using I.len⟩ ⟨_,hs,.inl rfl⟩
   . exact(hs.2 b (wD (wG (wq e) I.ok.above))).trans (I.base.keep b o e n hb hx)
   . obtain⟨sl,e1⟩:=I.base.slot b o e n hb hx
     exact⟨sl,(hs.2 b (wD (wG (wq e) I.ok.above))).trans e1⟩
   . obtain⟨o',e1⟩:=I.base.there b o e hx
     exact⟨o',(hs.2 b (wD (wG (wq e) I.ok.above))).trans e1⟩
   . by_cases hj:j=i
     . subst hj
       rw[hi]at e1;cases e1;rw[QF hiσ]at e2;cases e2;exact⟨u,r,.inl ⟨hk,by simp⟩⟩
     . rw[Q6 (vX hj)]at e2
       obtain⟨u',r',q⟩:=hl j y v' e1 e2 e3;refine⟨u',r',?_⟩;rcases q with⟨k,e⟩ | ⟨k,c,e,z⟩
       . refine .inl ⟨k,?_⟩
         have:y≠x:=λe=>hj (MF hN e1 (e ▸ hi))
         simp[this,e]
       . exact .inr ⟨k,c,e,z.sameBut hs (kg y c e)⟩
   . obtain⟨w',z⟩:=I.cell y c e
     exact⟨w',z.sameBut hs (kg y c e)⟩
   . obtain⟨e,n,ne,nf,d⟩:=I.pin p hp
     exact⟨(hs.2 p.1 ne).trans e,n,ne,nf,d⟩
 . have hfn:X.fn x=true:=by
     rcases hf with z | z
     . exact z
     . rw[z]at hk;cases hk
   obtain⟨c,hc⟩:=I.ok.has x (.inl hk);obtain⟨w',z⟩:=I.cell x c hc;refine wpAny_storeName_cell I.ok.kind hk hc z (λh' hc' hs=>?_);obtain⟨oc,hoc,hocd⟩:=id z;refine h {s with heap:=h'} ⟨I.ok,I.os,I.bare,⟨λb o e n hb hx=>?_,λb o e n hb hx=>?_,I.base.free,λb o e hx=>?_,I.base.gR,I.base.gA,I.base.gQ⟩,⟨m,hn.sameBut hs (vX (kg x c hc)),λj y v' e1 e2 e3=>?_⟩,λy c' e=>?_,I.free,I.fN,λp hp=>?_,tracked ⟨oc,hoc,I.fN x c hc⟩ hs,by simpa using I.len⟩ ⟨c,hs,.inr hc⟩
   . exact(hs.2 b (wD (wG (wq e) (I.ok.j9 x c hfn hc)))).trans (I.base.keep b o e n hb hx)
   . obtain⟨sl,e1⟩:=I.base.slot b o e n hb hx
     exact⟨sl,(hs.2 b (wD (wG (wq e) (I.ok.j9 x c hfn hc)))).trans e1⟩
   . obtain⟨o',e1⟩:=I.base.there b o e hx
     exact⟨o',(hs.2 b (wD (wG (wq e) (I.ok.j9 x c hfn hc)))).trans e1⟩
   . by_cases hj:j=i
     . subst hj
       rw[hi]at e1;cases e1;rw[QF hiσ]at e2;cases e2;exact⟨u,r,.inr ⟨.inl hk,c,hc,hc'⟩⟩
     . rw[Q6 (vX hj)]at e2
       obtain⟨u',r',q⟩:=hl j y v' e1 e2 e3;refine⟨u',r',?_⟩;rcases q with q | ⟨k,c',e,z'⟩
       . exact .inl q
       . refine .inr ⟨k,c',e,z'.sameBut hs ?_⟩
         rintro rfl;exact hj (MF hN e1 (I.ok.inj _ _ _ e hc ▸ hi))
   . by_cases hcc:c'=c
     . subst hcc;exact⟨_,hc'⟩
     . obtain⟨w2,z2⟩:=I.cell y c' e
       exact⟨w2,z2.sameBut hs hcc⟩
   . obtain⟨e,n,ne,nf,d⟩:=I.pin p hp
     refine⟨(hs.2 p.1 ?_).trans e,n,ne,nf,d⟩;intro q;rw[q,hoc]at e;have q':oc=p.2:=wF e;exact d w' (by rw[<- q'];exact hocd)
theorem pF{M:Model}{A:Around}{E:Value->Shared->Prop}{i:Nat}{x:Str}{v:V}{u:Value}{Q:Unit->Shared->Prop}(I:Inv X pins σ H s)(hN:X.N.Nodup)(hi:X.N[i]? = some x)(hx:Loc X.env.scope x)(r:aW v u)
  (h:∀s',Inv X pins (σ.set i (some v)) H s'->Q () s') (hf:X.fn x=true\/X.env.scope.names.lookup x=some .local:=by first | exact .inl rfl | exact .inr rfl | assumption):wpAny M A (storeName X.env x u) Q E s :=
 NS I hN hi hx r (λs' I' _=>h s' I') hf
theorem Inv.HB{s':Shared}{ch:List Addr}(I:Inv X pins σ H s)(ho:s'.os=s.os)(u:Un (dy X.stack) ch H H' s.heap s'.heap)(aG:cT X.prog X.w H' s'.heap)(hg:AllBare s'.gens)
  (hch:∀b∈ch,(b∈X.ex\/X.s₀.heap.objs.size<=b)/\b≠X.env.locals/\(∀x c,X.env.cells.lookup x=some c->c≠b) /\ ∀p∈X.pn++pins,p.1≠b):Inv X pins σ H' s':=by
 obtain⟨h',g',d',t',o'⟩:=s';have e:o'=s.os:=ho;subst e;exact I.call (g':=g') (t':=t') (d':=d') u aG hg hch
end
abbrev XK:=Value->Option Addr->Hp->Prop
abbrev St:=List (Option V)
abbrev VK:=V->Hp->Prop
abbrev TE:=St->Hp->VK->Prop
abbrev TT:=St->Hp->(Bool->Hp->Prop)->Prop
abbrev TA:=St->Hp->(List V->Hp->Prop)->Prop
structure cc where
 nx:St->Hp->Prop
 rt:VK
 bk:St->Hp->Prop:=λ_ _=>False
 ct:St->Hp->Prop:=λ_ _=>False
abbrev TS:=cc->St->Hp->Prop
def EP(X:Cx)(pins:List (Addr × Obj))(σ : St)(Q:VK)(u:Value)(s':Shared):Prop:=∃v H',Inv X pins σ H' s'/\aW v u/\Q v H'
def TP(X:Cx)(pins:List (Addr × Obj))(σ : St)(Q:Bool->Hp->Prop)(b:Bool)(s':Shared):Prop:=∃H',Inv X pins σ H' s'/\Q b H'
def AP(X:Cx)(pins:List (Addr × Obj))(σ : St)(Q:List V->Hp->Prop)(us:List Value)(s':Shared):Prop:=∃vs H',Inv X pins σ H' s'/\aM vs us/\Q vs H'
def SP(X:Cx)(pins:List (Addr × Obj))(D:cc)(f:Flow)(s':Shared):Prop :=
 match f with
 | .next=>∃σ' H',Inv X pins σ' H' s'/\D.nx σ' H'
 | .brk=>∃σ' H',Inv X pins σ' H' s'/\D.bk σ' H'
 | .cont=>∃σ' H',Inv X pins σ' H' s'/\D.ct σ' H'
 | .ret u=>∃v σ' H',Inv X pins σ' H' s'/\aW v u/\D.rt v H'
def PE(X:Cx)(e:Expr)(t:TE):Prop :=
 ∀(pins:List (Addr × Obj))(s:Shared)(σ : St)(H:Hp)(Q:VK),Inv X pins σ H s->t σ H Q->wpAny (model X.prog X.w) X.A (eval e X.env) (EP X pins σ Q) X.xe s
def PT(X:Cx)(e:Expr)(t:TT):Prop :=
 ∀(pins:List (Addr × Obj))(s:Shared)(σ : St)(H:Hp)(Q:Bool->Hp->Prop),Inv X pins σ H s->t σ H Q->wpAny (model X.prog X.w) X.A (isTrue e X.env (eval e X.env)) (TP X pins σ Q) X.xe s
def PW(X:Cx)(e:Expr)(t:TT):Prop :=
 ∀(whole:Sem Value)(pins:List (Addr × Obj))(s:Shared)(σ : St)(H:Hp)(Q:Bool->Hp->Prop),Inv X pins σ H s->t σ H Q->wpAny (model X.prog X.w) X.A (isTrue e X.env whole) (TP X pins σ Q) X.xe s
theorem PW.pt{X:Cx}{e:Expr}{t:TT}(h:PW X e t):PT X e t:=h _
def PA(X:Cx)(es:List Expr)(t:TA):Prop :=
 ∀(pos:Pos)(pins:List (Addr × Obj))(s:Shared)(σ : St)(H:Hp)(Q:List V->Hp->Prop),Inv X pins σ H s->t σ H Q->wpAny (model X.prog X.w) X.A (spliced (backTo pos (starEach es X.env))) (AP X pins σ Q) X.xe s
def PS(X:Cx)(st:Stmt)(t:TS):Prop :=
 ∀(pins:List (Addr × Obj))(s:Shared)(σ : St)(H:Hp)(D:cc),Inv X pins σ H s->t D σ H->wpAny (model X.prog X.w) X.A (exec st X.env) (SP X pins D) X.xe s
def eW(X:Cx)(st:List Stmt)(t:TS):Prop :=
 ∀(pins:List (Addr × Obj))(s:Shared)(σ : St)(H:Hp)(D:cc),Inv X pins σ H s->t D σ H->wpAny (model X.prog X.w) X.A (execs st X.env) (SP X pins D) X.xe s
theorem aI{α : Type}{t:Sem α}{Q Q' : α -> Shared->Prop}{M:Model}{A:Around}{E:Value->Shared->Prop}{s:Shared}(h:wpAny M A t Q E s)(hQ:∀a s,Q a s->Q' a s):wpAny M A t Q' E s:=wpAny_mono h hQ λ_ _ x=>x
section
variable{X:Cx}
def yC(i:Nat):TE:=λσ H Q=>∃v,σ[i]? = some (some v)/\Q v H
def tC(v:V):TE:=λ_ H Q=>Q v H
theorem zBr{i:Nat}{x:Str}{pos:Pos}(hN:X.N[i]? = some x)(hv:zI X.env.scope x)(hd:(x == ("__debug__" : Str))=false:=by decide)(hcd:(x == ("__classdict__" : Str))=false:=by decide):PE X (.Name x pos) (yC i):=by
 intro pins s σ H Q I h;obtain⟨v,e,h⟩:=h;obtain⟨m,hn,hl⟩:=I.loc;obtain⟨u,r,l⟩:=hl i x v hN e hv;have fin:EP X pins σ Q u s:=⟨v,H,I,r,h⟩;rcases l with⟨hk,hm⟩ | ⟨hk,c,hc,hcell⟩
 ·exact wpAny_Name (wpAny_loadName_local I.ok.kind hk hn hm fin) hd
 ·rcases hk with hk | hk
  ·exact wpAny_Name (wpAny_loadName_cell I.ok.kind hk hc hcell fin) hd
  ·exact wpAny_Name (wpAny_loadName_free I.ok.kind hk hc hcell fin hcd) hd
theorem ay{i j pos} : PE X (.Constant (.int i) j pos) (tC (.int i)):=λ_ _ _ H _ I h=>wpAny_Constant_int ⟨.int i,H,I.tok _,⟨_,rfl⟩,h⟩
theorem jb{b j pos} : PE X (.Constant (.bool b) j pos) (tC (.bl b)):=λ_ _ _ H _ I h=>Constant_bool ⟨.bl b,H,I,rfl,h⟩
theorem ik{j pos} : PE X (.Constant .none j pos) (tC .bj):=λ_ _ _ H _ I h=>Constant_none ⟨.bj,H,I,rfl,h⟩
theorem gg{x j pos} : PE X (.Constant (.str x) j pos) (tC (.str x)):=λ_ _ _ H _ I h=>Calls.Constant_str ⟨.str x,H,I.tok _,⟨_,rfl⟩,h⟩
def Gl(X:Cx)(x:Str):Prop:=X.env.kindOf x=some .globalImplicit
theorem og{E:Value->Shared->Prop}{pins:List (Addr × Obj)}{s:Shared}{σ : St}{H:Hp}{x:Str}{u:Value}{pos:Pos}{Q:Value->Shared->Prop}(I:Inv X pins σ H s)(hg:Gl X x)(hm:X.mg x=some u)(h:Q u s)
  (hd:(x == ("__debug__" : Str))=false:=by decide):wpAny (model X.prog X.w) X.A (eval (.Name x pos) X.env) Q E s :=
 qQ I.ok.kind hg (Calls.loadGlobal_global (by rw[I.ok.glob];exact I.mod.glob.keeps I.bk) hm h) hd
theorem fZ{E:Value->Shared->Prop}{pins:List (Addr × Obj)}{s:Shared}{σ : St}{H:Hp}{x:Str}{u:Value}{pos:Pos}{Q:Value->Shared->Prop}(I:Inv X pins σ H s)(hg:Gl X x)(hm:X.mg x=none)(hv:bootBuiltins x=some u)(h:Q u s)
  (hn:x≠"__name__":=by decide) (hd:(x == ("__debug__" : Str))=false:=by decide):wpAny (model X.prog X.w) X.A (eval (.Name x pos) X.env) Q E s:=by
 obtain⟨mb,h1,h2⟩:=I.mod.blt;exact qQ I.ok.kind hg (Calls.loadGlobal_builtin (by rw[I.ok.glob];exact I.mod.glob.keeps I.bk) hm (by rw[I.ok.blt];exact h1.keeps I.bk) ((h2 x hn).trans hv) h) hd
theorem bW{x:Str}{v:V}{u:Value}{pos:Pos}(hg:Gl X x)(hm:X.mg x=some u)(r:aW v u)(hd:(x == ("__debug__" : Str))=false:=by decide):PE X (.Name x pos) (tC v) :=
 λ_ _ _ H _ I h=>og I hg hm ⟨v,H,I,r,h⟩ hd
theorem mH{x:Str}{v:V}{u:Value}{pos:Pos}(hg:Gl X x)(hm:X.mg x=none)(hv:bootBuiltins x=some u)(r:aW v u)(hn:x≠"__name__":=by decide)(hd:(x == ("__debug__" : Str))=false:=by decide):PE X (.Name x pos) (tC v) :=
 λ_ _ _ H _ I h=>fZ I hg hm hv ⟨v,H,I,r,h⟩ hn hd
def UC(ta tb:TE)(k:Int->Int->Hp->Prop):St->Hp->Prop:=λσ H=>ta σ H λx H1=>tb σ H1 λy H2=>∃i j,x=.int i/\y=.int j/\k i j H2
variable{a b:Expr}{ta tb:TE}{pos:Pos}
def lQ(p:Int->Int->Bool)(ta tb:TE):TE:=λσ H Q=>UC ta tb (λi j H2=>Q (.bl (p i j)) H2) σ H
abbrev tLt:TE->TE->TE:=lQ λi j=>decide (i<j)
abbrev tLe:TE->TE->TE:=lQ λi j=>decide (i<=j)
abbrev tGt:TE->TE->TE:=lQ λi j=>decide (j<i)
abbrev tGe:TE->TE->TE:=lQ λi j=>decide (j<=i)
abbrev zDb:TE->TE->TE:=lQ λi j=>decide (i=j)
abbrev zDc:TE->TE->TE:=lQ λi j=>!decide (i=j)
def tB(t:TE):TT:=λσ H Q=>t σ H λx H1=>∃c,x=.bl c/\Q c H1
theorem dD{e:Expr}{t:TE}(h:PE X e t)(he:∀whole,isTrue e X.env whole=(do let v <- whole;standAt e.pos;holding [v] (truthy v)):=by intro _;rfl):PT X e (tB t):=by
 intro pins s σ H Q I hw;refine isTrue_plain (aI (h pins s σ H _ I hw) λv s1 ⟨x,H1,I1,r1,q1⟩=>?_) (he _);obtain⟨d,rfl,q⟩:=q1;cases r1;exact wpAny_truthy_bool ⟨H1,I1,q⟩
variable{tA tB':TT}{cO:List Expr}
def LX(t u:TT):TT:=λσ H Q=>t σ H λc H1=>if c=true then u σ H1 Q else Q false H1
def NP(t u:TT):TT:=λσ H Q=>t σ H λc H1=>if c=true then Q true H1 else u σ H1 Q
def Nt(t:TT):TT:=λσ H Q=>t σ H λc H1=>Q (!c) H1
theorem zyf(ha:PT X a tA):PW X (.BoolOp .And [a] pos) tA:=by
 intro wh pins s σ H Q I h;refine isTrue_and (aI (ha pins s σ H Q I h) λc s1 e=>?_);cases c with
 | true=>exact isTrue_and_nil e
 | false=>exact e
theorem kh(ha:PT X a tA):PW X (.BoolOp .Or [a] pos) tA:=by
 intro wh pins s σ H Q I h;refine isTrue_or (aI (ha pins s σ H Q I h) λc s1 e=>?_);cases c with
 | false=>exact isTrue_or_nil e
 | true=>exact e
theorem zBI(ha:PT X a tA)(hb:PW X (.BoolOp .And (b::cO) pos) tB'):PW X (.BoolOp .And (a::b::cO) pos) (LX tA tB'):=by
 intro wh pins s σ H Q I h;refine isTrue_and (aI (ha pins s σ H _ I h) λc s1 ⟨H1,I1,q1⟩=>?_);cases c with
 | true=>exact hb wh pins s1 σ H1 Q I1 q1
 | false=>exact⟨H1,I1,q1⟩
theorem jD(ha:PT X a tA)(hb:PW X (.BoolOp .Or (b::cO) pos) tB'):PW X (.BoolOp .Or (a::b::cO) pos) (NP tA tB'):=by
 intro wh pins s σ H Q I h;refine isTrue_or (aI (ha pins s σ H _ I h) λc s1 ⟨H1,I1,q1⟩=>?_);cases c with
 | true=>exact⟨H1,I1,q1⟩
 | false=>exact hb wh pins s1 σ H1 Q I1 q1
theorem eD(ha:PT X a tA):PT X (.UnaryOp .Not a pos) (Nt tA):=by
 intro pins s σ H Q I h;exact isTrue_not (ha pins s σ H (λc H1=>Q (!c) H1) I h)
def NO(ta tb:TE):TE:=λσ H Q=>ta σ H λx H1=>∃c,x=.bl c/\if c=true then tb σ H1 Q else Q (.bl false) H1
def ID(ta:TE):TE:=λσ H Q=>ta σ H λx H1=>∃c,x=.bl c/\Q (.bl (!c)) H1
theorem lz{op}{t:TE}(h:PE X a t):PE X (.BoolOp op [a] pos) t:=λpins s σ H Q I hw=>BoolOp_one (h pins s σ H Q I hw)
theorem gW(ha:PE X a ta)(hb:PE X (.BoolOp .And (b::cO) pos) tb):PE X (.BoolOp .And (a::b::cO) pos) (NO ta tb):=by
 intro pins s σ H Q I h;refine BoolOp_and (aI (ha pins s σ H _ I h) λv s1 ⟨x,H1,I1,r1,q1⟩=>?_);obtain⟨c,rfl,q1⟩:=q1;cases r1;refine wpAny_truthy_bool ?_;cases c with
 | true=>exact hb pins s1 σ H1 Q I1 q1
 | false=>exact⟨.bl false,H1,I1,rfl,q1⟩
theorem nk(ha:PE X a ta):PE X (.UnaryOp .Not a pos) (ID ta):=by
 intro pins s σ H Q I h;refine UnaryOp_ (aI (ha pins s σ H _ I h) λv s1 ⟨x,H1,I1,r1,q1⟩=>?_);obtain⟨c,rfl,q1⟩:=q1;cases r1;exact not_of (wpAny_truthy_bool ⟨.bl (!c),H1,I1,rfl,q1⟩)
def Ki(t:TT)(ta tb:TE):TE:=λσ H Q=>t σ H λc H1=>if c=true then ta σ H1 Q else tb σ H1 Q
theorem rZ{c:Expr}(hc:PT X c tA)(ha:PE X a ta)(hb:PE X b tb):PE X (.IfExp c a b pos) (Ki tA ta tb):=by
 intro pins s σ H Q I h;refine wpAny_IfExp (aI (hc pins s σ H _ I h) λd s1 ⟨H1,I1,q1⟩=>?_);cases d with
 | true=>exact ha pins s1 σ H1 Q I1 q1
 | false=>exact hb pins s1 σ H1 Q I1 q1
end
def aK(K:wb)(H:Hp)(a:Addr)(xs:List V):Prop :=
 Rd H a (.lst xs) \/
  ∃(o:Obj)(its:Array Value)(n:Nat),K.lookup a=some o/\o.cls=.type "list"/\o.dict=none/\o.data=.seq its n/\its.size<=sizeLine/\aM xs its.toList
def aR(K:wb)(H:Hp)(a:Addr)(xs:List V):Prop :=
 Rd H a (.tup xs) \/
  ∃(o:Obj)(its:Array Value)(n:Nat),K.lookup a=some o/\o.cls=.type "tuple"/\o.data=.seq its n/\its.size<=sizeLine/\aM xs its.toList
def Zb:Value->Option V
 | .none=>some .bj
 | .bool b=>some (.bl b)
 | .int i _=>some (.int i)
 | .str x _=>some (.str x)
 | .bytes b _=>some (.byt b)
 | .float b _=>some (.kZ b)
 | .ref a=>some (.ref a)
 | .type n=>some (.ty n)
 | _=>none
theorem aW.abs{x:V}{u:Value}(r:aW x u):Zb u=some x:=by
 cases x with
 | bj=>cases r;rfl
 | bl _=>cases r;rfl
 | int _=>obtain⟨t,rfl⟩:=r;rfl
 | str _=>obtain⟨t,rfl⟩:=r;rfl
 | byt _=>obtain⟨t,rfl⟩:=r;rfl
 | kZ _=>obtain⟨t,rfl⟩:=r;rfl
 | ref _=>cases r;rfl
 | ty _=>cases r;rfl
theorem aW.inj{x y:V}{u:Value}(r:aW x u)(q:aW y u):x=y:=wF (r.abs.symm.trans q.abs)
theorem aM.inj:∀{xs ys:List V}{us:List Value},aM xs us->aM ys us->xs=ys
 | _,_,_,.nil,.nil=>rfl
 | _,_,_,.cons r t,.cons r' t'=>by rw[r.inj r',aM.inj t t']
section
variable{X:Cx}{pins:List (Addr × Obj)}{σ : St}{H:Hp}{s:Shared}{a:Addr}{xs ys:List V}
theorem aK.of{K:wb}(h:H a=some (.lst xs)):aK K H a xs:=.inl (.inl h)
theorem aR.of{K:wb}(h:H a=some (.tup xs)):aR K H a xs:=.inl (.inl h)
theorem Inv.list(I:Inv X pins σ H s)(h:aK X.K H a xs):∃its:List Value,aM xs its/\PlainL s.heap a its.toArray/\xs.length<=sizeLine:=by
 rcases h with h | ⟨o,its,n,hk,hc,hd,hs,hz,r⟩
 ·obtain⟨z,its,n,r,e⟩:=h.ok I.aG
  exact⟨its,r,⟨_,n,e,rfl,rfl,rfl⟩,z⟩
 ·refine⟨its.toList,r,⟨o,n,I.dk a o hk,hc,hd,by simpa using hs⟩,?_⟩
  have e:=r.length;simp only[wy]at e;omega
theorem Inv.tuple(I:Inv X pins σ H s)(h:aR X.K H a xs):∃its:List Value,aM xs its/\IsTup s.heap a its.toArray/\xs.length<=sizeLine:=by
 rcases h with h | ⟨o,its,n,hk,hc,hs,hz,r⟩
 ·obtain⟨z,its,r,p⟩:=h.ok I.aG
  exact⟨its,r,p,z⟩
 ·refine⟨its.toList,r,⟨o,I.dk a o hk,hc,n,by simpa using hs⟩,?_⟩
  have e:=r.length;simp only[wy]at e;omega
theorem Inv.z8(I:Inv X pins σ H s)(h:aK X.K H a xs)(h':aK X.K H a ys):xs=ys:=by
 obtain⟨its,r,⟨o,n,e,_,_,d⟩,_⟩:=I.list h;obtain⟨its',r',⟨o',n',e',_,_,d'⟩,_⟩:=I.list h';rw[e]at e';cases e';rw[d]at d'
 injection d' with d1 _
 have:its=its':=by simpa using congrArg uo d1
 subst this;exact r.inj r'
theorem Inv.zU(I:Inv X pins σ H s)(h:aR X.K H a xs)(h':aR X.K H a ys):xs=ys:=by
 obtain⟨its,r,⟨o,e,_,n,d⟩,_⟩:=I.tuple h;obtain⟨its',r',⟨o',e',_,n',d'⟩,_⟩:=I.tuple h';rw[e]at e';cases e';rw[d]at d'
 injection d' with d1 _
 have:its=its':=by simpa using congrArg uo d1
 subst this;exact r.inj r'
end
abbrev Cx.iB(X:Cx)(E:Value->Shared->Prop):Cx:={X with xe:=E}
abbrev Cx.rY(X:Cx):Cx:=X.iB λ_ _=>False
theorem Cx.Ok.iB{X:Cx}(ok:X.Ok)(E:Value->Shared->Prop):(X.iB E).Ok :=
 ⟨ok.mod,ok.kind,ok.glob,ok.blt,ok.above,ok.inj,ok.has,ok.j9,ok.hd,ok.frames,ok.kB,ok.nO,ok.bs,ok.hZ,ok.jS,ok.kq,ok.eG,ok.je⟩
theorem Cx.Ok.jP{X:Cx}{E:Value->Shared->Prop}(ok:(X.iB E).Ok):X.Ok :=
 ⟨ok.mod,ok.kind,ok.glob,ok.blt,ok.above,ok.inj,ok.has,ok.j9,ok.hd,ok.frames,ok.kB,ok.nO,ok.bs,ok.hZ,ok.jS,ok.kq,ok.eG,ok.je⟩
section
variable{X:Cx}{pins:List (Addr × Obj)}{σ : St}{H:Hp}{s:Shared}{E:Value->Shared->Prop}
theorem Inv.iB(I:Inv X pins σ H s)(E:Value->Shared->Prop):Inv (X.iB E) pins σ H s:=⟨I.ok.iB E,I.os,I.bare,I.base,I.loc,I.cell,I.free,I.fN,I.pin,I.aG,I.len⟩
theorem Inv.jP(I:Inv (X.iB E) pins σ H s):Inv X pins σ H s:=⟨I.ok.jP,I.os,I.bare,I.base,I.loc,I.cell,I.free,I.fN,I.pin,I.aG,I.len⟩
theorem SP.jP{D:cc}{f:Flow}{s':Shared}(h:SP (X.iB E) pins D f s'):SP X pins D f s':=by
 cases f with
 | next=>obtain⟨σ',H',I,q⟩:=h;exact⟨σ',H',I.jP,q⟩
 | brk=>obtain⟨σ',H',I,q⟩:=h;exact⟨σ',H',I.jP,q⟩
 | cont=>obtain⟨σ',H',I,q⟩:=h;exact⟨σ',H',I.jP,q⟩
 | ret u=>obtain⟨v,σ',H',I,r,q⟩:=h;exact⟨v,σ',H',I.jP,r,q⟩
theorem eW.rY{st:List Stmt}{t:TS}(h:eW X.rY st t):eW X st t:=λpins s σ H D I hw =>
 wpAny_mono (h pins s σ H D (I.iB _) hw) (λ_ _ q=>q.jP) λ_ _ z=>Wp z
end
section
variable{X:Cx}{st:Stmt}{cO:List Stmt}{t u:TS}{e:Expr}{te:TE}{pos:Pos}
def HM:TS:=λD σ H=>D.nx σ H
def C8(t u:TS):TS:=λD σ H=>t {D with nx:=u D} σ H
theorem bP:eW X [] HM:=λ_ _ σ H _ I h=>wpAny_execs_nil ⟨σ,H,I,h⟩
theorem ao(h1:PS X st t)(h2:eW X cO u):eW X (st::cO) (C8 t u):=by
 intro pins s σ H D I h;refine wpAny_execs_cons (aI (h1 pins s σ H {D with nx:=u D} I h) λf s1 q=>?_);cases f with
 | next =>
  obtain⟨σ',H',I',q⟩:=q;exact h2 pins s1 σ' H' D I' q
 | ret v=>exact q
 | brk=>exact q
 | cont=>exact q
theorem av(h1:PS X st t):eW X [st] t:=by
 intro pins s σ H D I h;refine wpAny_execs_cons (aI (h1 pins s σ H D I h) λf s1 q=>?_);cases f with
 | next=>exact wpAny_execs_nil q
 | ret v=>exact q
 | brk=>exact q
 | cont=>exact q
theorem Inv.quiet{pins:List (Addr × Obj)}{σ : St}{H:Hp}{s:Shared}(I:Inv X pins σ H s):interactive X.env=false:=by simp[interactive,I.ok.kind]
def Pe(te:TE):TS:=λD σ H=>te σ H λ_ H1=>D.nx σ H1
theorem mR(he:PE X e te)(hs:swapsWith e none pos.line X.env=pure false:=by rfl):PS X (.Expr e pos) (Pe te):=by
 intro pins s σ H D I h;exact wpAny_Expr_any (aI (he pins s σ H _ I h) λv s1 ⟨x,H1,I1,r1,q1⟩=>⟨σ,H1,I1,q1⟩) I.quiet hs
def Kn(te:TE):TS:=λD σ H=>te σ H D.rt
theorem aE(he:PE X e te):PS X (.Return (some e) pos) (Kn te):=by
 intro pins s σ H D I h;exact wpAny_Return_some (aI (he pins s σ H _ I h) λv s1 ⟨x,H1,I1,r1,q1⟩=>⟨x,σ,H1,I1,r1,q1⟩)
def Ja(c:TT)(t u:TS):TS:=λD σ H=>c σ H λb H1=>if b=true then t D σ H1 else u D σ H1
theorem bN{c:Expr}{a b:List Stmt}{tc:TT}(hc:PT X c tc)(ha:eW X a t)(hb:eW X b u):PS X (.If c a b pos) (Ja tc t u):=by
 intro pins s σ H D I h;refine wpAny_If (aI (hc pins s σ H _ I h) λd s1 ⟨H1,I1,q1⟩=>?_);cases d with
 | true=>exact ha pins s1 σ H1 D I1 q1
 | false=>exact hb pins s1 σ H1 D I1 q1
def zBz:TS:=λ_ _ _=>False
theorem BE:PS X st zBz:=λ_ _ _ _ _ _ h=>h.elim
end
abbrev TG:=V->St->Hp->(St->Hp->Prop)->Prop
abbrev jN:=List V->St->Hp->(St->Hp->Prop)->Prop
def PG(X:Cx)(target:Expr)(t:TG):Prop :=
 ∀(pins:List (Addr × Obj))(s:Shared)(σ : St)(H:Hp)(v:V)(u:Value)(Q:St->Hp->Prop),Inv X pins σ H s->aW v u->t v σ H Q ->
  wpAny (model X.prog X.w) X.A (assign target X.env u) (λ_ s'=>∃σ' H',Inv X pins σ' H' s'/\Q σ' H') X.xe s
def sv(X:Cx)(ts:List Expr)(t:jN):Prop :=
 ∀(pins:List (Addr × Obj))(s:Shared)(σ : St)(H:Hp)(vs:List V)(us:List Value)(Q:St->Hp->Prop),Inv X pins σ H s->aM vs us->t vs σ H Q ->
  wpAny (model X.prog X.w) X.A (assignInOrder ((assignEach ts X.env).map (·.2)) us) (λ_ s'=>∃σ' H',Inv X pins σ' H' s'/\Q σ' H') X.xe s
abbrev sL:=V->V->V->Hp->(Hp->Prop)->Prop
def MD(X:Cx)(t:sL):Prop :=
 ∀(pins:List (Addr × Obj))(s:Shared)(σ : St)(H:Hp)(o i v:V)(ov iv u:Value)(Q:Hp->Prop),Inv X pins σ H s->aW o ov->aW i iv->aW v u->t o i v H Q ->
  wpAny (model X.prog X.w) X.A (setItem ov iv u) (λ_ s'=>∃H',Inv X pins σ H' s'/\Q H') X.xe s
abbrev oJ:=V->V->Hp->VK->Prop
def HS(X:Cx)(op:Operator)(t:oJ):Prop :=
 ∀(pins:List (Addr × Obj))(s:Shared)(σ : St)(H:Hp)(x y:V)(v u:Value)(Q:VK),Inv X pins σ H s->aW x v->aW y u->t x y H Q ->
  wpAny (model X.prog X.w) X.A (inplaceOp op v u) (EP X pins σ Q) X.xe s
section
variable{X:Cx}{pos:Pos}
def iM(i:Nat):TG:=λv σ H Q=>Q (σ.set i (some v)) H
theorem bL{i:Nat}{x:Str}(hN:X.N.Nodup)(hi:X.N[i]? = some x)(hx:Loc X.env.scope x)(hf:X.fn x=true\/X.env.scope.names.lookup x=some .local:=by first | exact .inl rfl | exact .inr rfl | assumption):PG X (.Name x pos) (iM i):=by
 intro pins s σ H v u Q I r h;exact wpAny_assign_Name (pF I hN hi hx r (λs' I'=>⟨_,H,I',h⟩) hf)
def IK:jN:=λvs σ H Q=>vs=[]/\Q σ H
def MR(t:TG)(u:jN):jN:=λvs σ H Q=>∃v r,vs=v::r/\t v σ H λσ' H'=>u r σ' H' Q
theorem ma:sv X [] IK:=by
 intro pins s σ H vs us Q I r h;obtain⟨e,h⟩:=h;subst e;cases r;exact assignInOrder_nil ⟨σ,H,I,h⟩
theorem gD{e:Expr}{es:List Expr}{t:TG}{u:jN}(h1:PG X e t)(h2:sv X es u)
   (hs:(assignEach (e::es) X.env).map (·.2)=assign e X.env::(assignEach es X.env).map (·.2):=by rfl):sv X (e::es) (MR t u):=by
 intro pins s σ H vs us Q I r h;obtain⟨v,vr,e1,h⟩:=h;subst e1;cases r with
 | cons r rr =>
   rw[hs];refine assignInOrder_cons (aI (h1 pins s σ H _ _ _ I r h) λ_ s1 ⟨σ1,H1,I1,q1⟩=>?_);exact h2 pins s1 σ1 H1 _ _ Q I1 rr q1
def ly(K:wb)(n:Nat)(t:jN):TG:=λv σ H Q=>∃a xs,v=.ref a/\aR K H a xs/\xs.length=n/\t xs σ H Q
theorem lK{es:List Expr}{k:Nat}{t:jN}{n:Nat}(hc:X.calm=true)(h:sv X es t)
   (hn:(assignEach es X.env).length=n:=by rfl) (hst:(assignEach es X.env).findIdx? (·.1)=none:=by rfl):PG X (.Tuple es k pos) (ly X.K n t):=by
 intro pins s σ H v u Q I r hw;obtain⟨a,xs,e1,hq,hl,hw⟩:=hw;subst e1;cases r;obtain⟨its,rv,ht,hz⟩:=I.tuple hq;refine assign_Tuple_tuple (I.ok.hd hc) ht (by simp[hn,<- hl,rv.length]) hst λh' hx=>?_
 have I1:Inv X pins σ H {s with heap:=h'}:=I.kept (t':=s.toks) λb o e=>hx b o (wD (wq e)) e
 exact h pins _ σ H xs _ Q I1 (by simpa using rv) hw
def Jd(to ti:TE)(t:sL):TG:=λv σ H Q=>to σ H λo H1=>ti σ H1 λi H2=>t o i v H2 λH3=>Q σ H3
theorem om{o i:Expr}{to ti:TE}{t:sL}(ho:PE X o to)(hi:PE X i ti)(hs:MD X t)
  (ha:∀v,assign (.Subscript o i pos) X.env v=(do
   let ov <- holding [v] (eval o X.env)
   let iv <- holding [v,ov] (eval i X.env)
   standAt pos
   holding [v,ov,iv] (setItem ov iv v)
   release [v,ov,iv] []):=by intro _;rfl):PG X (.Subscript o i pos) (Jd to ti t):=by
 intro pins s σ H v u Q I r h;rw[ha];refine wpAny_bind (wpAny_holding (aI (ho pins s σ H _ I h) λov s1 ⟨x,H1,I1,r1,q1⟩=>?_));refine wpAny_bind (wpAny_holding (aI (hi pins s1 σ H1 _ I1 q1) λiv s2 ⟨y,H2,I2,r2,q2⟩=>?_));refine wpAny_bind (wpAny_standAt (wpAny_bind (wpAny_holding (aI (hs pins s2 σ H2 x y v ov iv u _ I2 r1 r2 r q2) λ_ s3 ⟨H3,I3,q3⟩=>?_))));exact wpAny_release ⟨σ,H3,I3,q3⟩
def kP(te:TE)(g:TG):TS:=λD σ H=>te σ H λx H1=>g x σ H1 D.nx
theorem mD{tg e:Expr}{te:TE}{g:TG}(he:PE X e te)(hg:PG X tg g)(hs:swapsWithSole [tg] e pos.line X.env=pure false:=by rfl)(hw:swappedStores [tg] e X.env=pure none:=by rfl)
  (h1:(assignEach [tg] X.env).map (·.2)=[assign tg X.env]:=by rfl):PS X (.Assign [tg] e pos) (kP te g):=by
 intro pins s σ H D I h;refine wpAny_Assign_stores (aI (he pins s σ H _ I h) λv s1 ⟨x,H1,I1,r1,q1⟩=>?_) hs hw;rw[h1];exact aI (hg pins s1 σ H1 x v _ I1 r1 q1) λ_ s2 q=>q
theorem zBh{i:Nat}{x:Str}{e:Expr}{te:TE}{pos':Pos}(hN:X.N.Nodup)(hi:X.N[i]? = some x)(hx:Loc X.env.scope x)(he:PE X e te)(hs:swapsWith e (some (.Name x pos')) pos.line X.env=pure false:=by rfl)(hf:X.fn x=true\/X.env.scope.names.lookup x=some .local:=by first | exact .inl rfl | exact .inr rfl | assumption) :
  PS X (.Assign [.Name x pos'] e pos) (kP te (iM i)):=by
 intro pins s σ H D I h;refine wpAny_Assign_Name (aI (he pins s σ H _ I h) λv s1 ⟨y,H1,I1,r1,q1⟩=>?_) hs;exact pF I1 hN hi hx r1 (λs2 I2=>⟨_,H1,I2,q1⟩) hf
def OP(i j:Nat)(ta:TA):TS:=λD σ H=>ta σ H λvs H1=>∃v w,vs=[v,w]/\D.nx ((σ.set i (some v)).set j (some w)) H1
theorem zAy{i j:Nat}{x y:Str}{a b:Expr}{ta:TA}{px py pt:Pos}{kt k2 pt2}(hc:X.calm=true)(hN:X.N.Nodup)(hi:X.N[i]? = some x)(hj:X.N[j]? = some y)(hij:i≠j)
   (hx:X.env.scope.names.lookup x=some .local) (hy:X.env.scope.names.lookup y=some .local) (ha:PA X [a,b] ta)
   (hw:swappedStores [.Tuple [.Name x px,.Name y py] kt pt] (.Tuple [a,b] k2 pt2) X.env=pure (some [x,y]))
   (hs:swapsWithSole [.Tuple [.Name x px,.Name y py] kt pt] (.Tuple [a,b] k2 pt2) pos.line X.env=pure false:=by rfl) :
   PS X (.Assign [.Tuple [.Name x px,.Name y py] kt pt] (.Tuple [a,b] k2 pt2) pos) (OP i j ta):=by
 intro pins s σ H D I h;rw[exec_Assign_arm];refine wpAny_bind (wpAny_standAt ?_);rw[hs];refine wpAny_bind (wpAny_pure ?_);rw[if_neg (by decide)];refine wpAny_bind (Tuple_ (aI (ha _ pins s σ H _ I h) λus s1 ⟨vs,H1,I1,r1,q1⟩=>?_));obtain⟨v,w,e1,q1⟩:=q1;subst e1
 obtain⟨u1,u2,rfl,rv,rw'⟩:∃u1 u2,us=[u1,u2]/\aW v u1/\aW w u2:=by
   cases r1 with
   | cons p q =>
     cases q with
     | cons p' q' =>
       cases q';exact⟨_,_,rfl,p,p'⟩
 refine wpAny_newObj_type ?_ (by show 2<=sizeLine;decide);have I2:Inv X pins σ H1 {s1 with heap:=s1.heap.push {cls:=.type "tuple",data:=.seq [u1,u2].toArray}}:=I1.kept (t':=s1.toks) λb o e=>wf _ e
 rw[hw];refine wpAny_bind (wpAny_pure ?_)
 show wpAny (model X.prog X.w) X.A (do rule "assign.swapped-stores";let items <- unpackItems (.ref s1.heap.objs.size) 2 none;assignInOrder [λv=>bindName X.env y v,λv=>bindName X.env x v] items.reverse;pure Flow.next) _ _ _
 refine wpAny_bind (wpAny_rule (wpAny_bind (unpackItems_tuple (items:=#[u1,u2]) (I.ok.hd hc) (qp s1.heap _) λh' hx'=>?_)));have I3:=I2.kept (h':=h') (t':=s1.toks) λb o e=>hx' b o (wD (wq e)) e
 show wpAny _ _ (assignInOrder [λv=>bindName X.env y v,λv=>bindName X.env x v] [u2,u1] >>= λ_=>pure Flow.next) _ _ _
 refine wpAny_bind (assignInOrder_cons (wpAny_bindName (pF I3 hN hj (.inl hy) rw' (λs2 I4=>?_) (.inr hy))));refine assignInOrder_cons (wpAny_bindName (pF I4 hN hi (.inl hx) rv (λs3 I5=>assignInOrder_nil (wpAny_pure ?_)) (.inr hx)));rw[List.set_comm _ _ (vX hij)]at I5;exact⟨_,H1,I5,q1⟩
def N8(i:Nat)(te:TE)(ti:oJ):TS:=λD σ H=>∃x,σ[i]? = some (some x)/\te σ H λy H1=>ti x y H1 λz H2=>D.nx (σ.set i (some z)) H2
theorem Tp{i:Nat}{x:Str}{e:Expr}{te:TE}{op:Operator}{ti:oJ}{pos':Pos}(hN:X.N.Nodup)(hi:X.N[i]? = some x)(hx:Loc X.env.scope x)(he:PE X e te)(ho:HS X op ti)(hf:X.fn x=true\/X.env.scope.names.lookup x=some .local:=by first | exact .inl rfl | exact .inr rfl | assumption) :
   PS X (.AugAssign (.Name x pos') op e pos) (N8 i te ti):=by
 intro pins s σ H D I h;obtain⟨v,e1,h⟩:=h;obtain⟨m,hn,hl⟩:=I.loc;have BW:zI X.env.scope x:=by rcases hx with k | k;exact .inl k;exact .inr (.inl k)
 obtain⟨u,r,l⟩:=hl i x v hi e1 BW;refine wpAny_AugAssign_Name ?_
 have go:wpAny (model X.prog X.w) X.A (eval e X.env) (λw s₂=>wpAny (model X.prog X.w) X.A (inplaceOp op u w) (λr s₃=>wpAny (model X.prog X.w) X.A (storeName X.env x r) (λ_=>SP X pins D .next) X.xe s₃) X.xe s₂) X.xe s:=by
   refine aI (he pins s σ H _ I h) λw s1 ⟨y,H1,I1,r1,q1⟩=>?_
   refine aI (ho pins s1 σ H1 v y u w _ I1 r r1 q1) λz s2 ⟨zv,H2,I2,r2,q2⟩=>?_
   exact pF I2 hN hi hx r2 (λs3 I3=>⟨_,H2,I3,q2⟩) hf
 rcases l with⟨hk,hm⟩ | ⟨hk,c,hc,hcell⟩
 . exact wpAny_loadName_local I.ok.kind hk hn hm go
 . rcases hk with hk | hk
   . exact wpAny_loadName_cell I.ok.kind hk hc hcell go
   . rcases hx with k | k
     . have:X.env.scope.names.lookup x=some .free:=hk
       rw[k]at this;cases this
     . have:X.env.scope.names.lookup x=some .free:=hk
       rw[k]at this;cases this
def Ny(f:Int->Int->Int):oJ:=λx y H Q=>∃i j,x=.int i/\y=.int j/\Q (.int (f i j)) H
theorem UR:HS X .Add (Ny λi j=>i+j):=by
 intro pins s σ H x y v u Q I r1 r2 h;obtain⟨i,j,e1,e2,q⟩:=h;subst e1;subst e2;obtain⟨t,rfl⟩:=r1;obtain⟨t',rfl⟩:=r2;exact iadd_int ⟨.int _,H,I.tok _,⟨_,rfl⟩,q⟩
end
section
variable{X:Cx}{pos:Pos}
def DF(c:TT)(tb:TS):TS:=λD σ H=>∃W:Nat->St->Hp->Prop,(∃m,W m σ H) /\ ∀m σ H,W m σ H ->
 c σ H λb H1=>if b=true then ∃N:St->Hp->Prop,(∀σ' H',N σ' H'->∃m',m'<m/\W m' σ' H')/\tb {D with nx:=N,ct:=N,bk:=D.nx} σ H1 else D.nx σ H1
theorem mG{c:Expr}{body:List Stmt}{tc:TT}{tb:TS}(hp:PassesOwn (model X.prog X.w) X.A X.env X.xe)(hc:PT X c tc)(hb:eW X body tb):PS X (.While c body [] pos) (DF tc tb):=by
 intro pins s σ H D I h;obtain⟨W,⟨m0,w0⟩,turn⟩:=h;refine wpAny_While (codeAny_whileLoop (λn s'=>∃σ' H',Inv X pins σ' H' s'/\W n σ' H') ?_ m0 ⟨σ,H,I,w0⟩);rintro n s1 ⟨σ1,H1,I1,w1⟩;refine wpAny_passesOwn hp (aI (hc pins s1 σ1 H1 _ I1 (turn n σ1 H1 w1)) λb s2 ⟨H2,I2,q2⟩=>?_);cases b with
 | true =>
  obtain⟨N,hN,q2⟩:=q2;rw[if_pos rfl];refine wpAny_passesOwn hp (aI (hb pins s2 σ1 H2 _ I2 q2) λf s3 q3=>?_);cases f with
  | next =>
   obtain⟨σ3,H3,I3,n3⟩:=q3;obtain⟨m',hm,w3⟩:=hN σ3 H3 n3;exact⟨m',hm,σ3,H3,I3,w3⟩
  | cont =>
   obtain⟨σ3,H3,I3,n3⟩:=q3;obtain⟨m',hm,w3⟩:=hN σ3 H3 n3;exact⟨m',hm,σ3,H3,I3,w3⟩
  | brk=>exact q3
  | ret v=>exact q3
 | false =>
  rw[if_neg w5];exact wpAny_execs_nil ⟨σ1,H2,I2,q2⟩
end
structure It where
 go:Nat->Hp->Prop
 fD:Nat->Hp->V->Hp->Prop
 stop:Nat->Hp->Prop
def d8(X:Cx)(pins:List (Addr × Obj))(H:Hp)(b:Addr):Prop :=
 H b=none/\b≠X.env.locals/\b ∉ X.fs/\(b∈X.ex\/X.s₀.heap.objs.size<=b)/\(∀x c,X.env.cells.lookup x=some c->c≠b) /\ ∀p∈X.pn++pins,p.1≠b
theorem Inv.ji{X:Cx}{pins:List (Addr × Obj)}{σ : St}{H H':Hp}{s:Shared}{b:Addr}(I:Inv X pins σ H s)(hb:s.heap.objs.size<=b)(hn:H' b=none):d8 X pins H' b:=by
 refine⟨hn,wR (wG I.lt hb),I.R6 hb,.inr (vA I.sz hb),λx c e z=>?_,λp hp z=>?_⟩
 ·obtain⟨v,q⟩:=I.cell x c e
  exact absurd (wG q.lt (by rw[z];exact hb)) (WE _)
 ·exact absurd (wG (wq (I.pin p hp).1) (by rw[z];exact hb)) (WE _)
structure iT(P:Program)(w:World)(K:wb)(tg:Expr)(J:It)(fp:List Addr)(it:Addr)(tn:Nat->Heap->Prop):Prop where
 mem:it∈fp
 obj:∀i h,tn i h->∀b∈fp,∃o,h.get? b=some o /\ ∀v,o.data≠.cell v
 keep:∀i h h',tn i h->(∀b∈fp,∀o,h.get? b=some o->h'.get? b=some o)->tn i h'
 item:∀(X:Cx),X.prog=P->X.w=w->X.K=K->X.calm=true->∀(i:Nat)(pins:List (Addr × Obj))(s:Shared)(σ : St)(H:Hp)(E:Value->Shared->Prop),Inv X pins σ H s->(∀b∈fp,d8 X pins H b)->tn i s.heap->J.go i H ->
   wpAny (model P w) X.A (pyNext (.ref it)) (λr s1=>∃u,r=some u /\
     wpAny (model P w) X.A (letOwnedTupleGo tg (.ref it) u) (λ_ s2=>∃x H',Inv X pins σ H' s2/\aW x u/\J.fD i H x H'/\tn (i+1) s2.heap /\ ∀b∈fp,H' b=none) E s1) E s
 done:∀(X:Cx),X.prog=P->X.w=w->X.K=K->X.calm=true->∀(i:Nat)(pins:List (Addr × Obj))(s:Shared)(σ : St)(H:Hp)(E:Value->Shared->Prop),Inv X pins σ H s->(∀b∈fp,d8 X pins H b)->tn i s.heap->J.stop i H ->
   wpAny (model P w) X.A (pyNext (.ref it)) (λr s1=>r=none/\Inv X pins σ H s1) E s
 self:∀(A:Around)(i:Nat)(s:Shared)(Q:Value->Shared->Prop)(E:Value->Shared->Prop),tn i s.heap->Q (.ref it) s->wpAny (model P w) A (pyIter (.ref it)) Q E s
abbrev TI:=St->Hp->(It->Hp->Prop)->Prop
def DY(X:Cx)(pins:List (Addr × Obj))(σ : St)(tg:Expr)(R:It->Hp->Prop)(itv:Value)(s2:Shared):Prop :=
 ∃(it:Addr)(fp:List Addr)(tn:Nat->Heap->Prop)(J:It)(H':Hp),itv=.ref it/\Inv X pins σ H' s2/\iT X.prog X.w X.K tg J fp it tn/\tn 0 s2.heap/\(∀b∈fp,d8 X pins H' b)/\R J H'
def PI(X:Cx)(tg iter:Expr)(wi:TI):Prop :=
 ∀(pins:List (Addr × Obj))(s:Shared)(σ : St)(H:Hp)(R:It->Hp->Prop),Inv X pins σ H s->wi σ H R ->
  wpAny (model X.prog X.w) X.A (eval iter X.env) (λv s1=>wpAny (model X.prog X.w) X.A (pyIter v) (DY X pins σ tg R) X.xe s1) X.xe s
theorem Aq{M:Model}{A:Around}{E:Value->Shared->Prop}{s:Shared}{tg:Expr}{it:Addr}{u:Value}{o:Obj}{n:String}{vs:Array Value}{Q:Unit->Shared->Prop}(ho:s.heap.get? it=some o)(hc:o.cls=.type n)(hd:o.data=.fields vs)
   (hn:["enumerate","zip","dict_itemiterator","dict_reverseitemiterator","odict_iterator","itertools.zip_longest","itertools.pairwise"].contains n=false) (hQ:Q () s):wpAny M A (letOwnedTupleGo tg (.ref it) u) Q E s:=by
 unfold letOwnedTupleGo
 cases tg<;>first
   | exact wpAny_pure hQ
   | (cases u<;>first
       | exact wpAny_pure hQ
       | (refine wpAny_bind (wpAny_load ho ?_)
          rw[hc,hd]
          show wpAny M A (if(["enumerate","zip","dict_itemiterator","dict_reverseitemiterator","odict_iterator","itertools.zip_longest","itertools.pairwise"].contains n&&vs[0]? == some (rawInt _))=true then _ else _) Q E s
          rw[if_neg (by intro h;rw[hn,Wv]at h;cases h)];exact wpAny_pure hQ))
def iI(K:wb)(a:Addr):It :=
 ⟨λi H=>∃xs x,aK K H a xs/\xs[i]? = some x,λi H x H'=>H'=H /\ ∀xs,aK K H a xs->xs[i]? = some x,λi H=>∃xs,aK K H a xs/\xs.length<=i⟩
def iY(K:wb)(a:Addr):It :=
 ⟨λi H=>∃xs x,aR K H a xs/\xs[i]? = some x,λi H x H'=>H'=H /\ ∀xs,aR K H a xs->xs[i]? = some x,λi H=>∃xs,aR K H a xs/\xs.length<=i⟩
def fQ(lo:Int)(n:Nat):It:=⟨λi _=>i<n,λi H x H'=>H'=H/\x=.int (lo+i),λi _=>n<=i⟩
theorem KC{P:Program}{w:World}{K:wb}{tg:Expr}(a it:Addr):iT P w K tg (iI K a) [it] it (λi h=>h.IsListIter it a i) where
 mem:=by simp
 obj:=λi h st b hb=>by
  have e:b=it:=by simpa using hb
  subst e;obtain⟨o,e,c,d⟩:=st;exact⟨o,e,λv z=>by rw[d]at z;cases z⟩
 keep:=λi h h' st k=>st.at λo e=>k it (by simp) o e
 item:=by
  intro X hP hw hK hc i pins s σ H E I hf st hg;subst hP hw hK;obtain⟨xs,x,hq,hx⟩:=hg;obtain⟨its,rv,p,hz⟩:=I.list hq;obtain⟨u,hu,ru⟩:=rv.get hx;obtain⟨f0,f1,f2,f3,f4,f5⟩:=hf it (by simp);refine wpAny_pyNext_list_item st p.isList (x:=u) (by simpa using hu) λh' st' sb=>?_
  have I1:Inv X pins σ H {s with heap:=h'}:=I.turned (t':=s.toks) (λb o hb e=>(sb.2 b hb).trans e) f0 f1 f3 f4 f5;obtain⟨o,e,c,d⟩:=id st';exact⟨u,rfl,Aq (s:={s with heap:=h'}) e c d (by decide) ⟨x,H,I1,ru,⟨rfl,λys hy=>by rw[I.z8 hy hq];exact hx⟩,st',λb hb=>(hf b hb).1⟩⟩
 done:=by
  intro X hP hw hK hc i pins s σ H E I hf st hg;subst hP hw hK;obtain⟨xs,hq,hx⟩:=hg;obtain⟨its,rv,p,hz⟩:=I.list hq;obtain⟨f0,f1,f2,f3,f4,f5⟩:=hf it (by simp);have hl:=rv.length;exact wpAny_pyNext_list_end (I.ok.hd hc) st p.isList (by simp;omega) λh' eb=>⟨rfl,I.turned (t':=s.toks) (λb o hb e=>eb b o hb e) f0 f1 f3 f4 f5⟩
 self:=λ_ _ _ _ _ st h=>wpAny_pyIter_listiter st h
theorem MH{P:Program}{w:World}{K:wb}{tg:Expr}(a it:Addr):iT P w K tg (iY K a) [it] it (λi h=>h.IsTupleIter it a i) where
 mem:=by simp
 obj:=λi h st b hb=>by
  have e:b=it:=by simpa using hb
  subst e;obtain⟨o,e,c,d⟩:=st;exact⟨o,e,λv z=>by rw[d]at z;cases z⟩
 keep:=λi h h' st k=>st.at λo e=>k it (by simp) o e
 item:=by
  intro X hP hw hK hc i pins s σ H E I hf st hg;subst hP hw hK;obtain⟨xs,x,hq,hx⟩:=hg;obtain⟨its,rv,p,hz⟩:=I.tuple hq;obtain⟨u,hu,ru⟩:=rv.get hx;obtain⟨f0,f1,f2,f3,f4,f5⟩:=hf it (by simp);refine wpAny_pyNext_tuple_item st (show s.heap.IsTuple a its.toArray from p) (x:=u) (by simpa using hu) λh' st' sb=>?_
  have I1:Inv X pins σ H {s with heap:=h'}:=I.turned (t':=s.toks) (λb o hb e=>(sb.2 b hb).trans e) f0 f1 f3 f4 f5;obtain⟨o,e,c,d⟩:=id st';exact⟨u,rfl,Aq (s:={s with heap:=h'}) e c d (by decide) ⟨x,H,I1,ru,⟨rfl,λys hy=>by rw[I.zU hy hq];exact hx⟩,st',λb hb=>(hf b hb).1⟩⟩
 done:=by
  intro X hP hw hK hc i pins s σ H E I hf st hg;subst hP hw hK;obtain⟨xs,hq,hx⟩:=hg;obtain⟨its,rv,p,hz⟩:=I.tuple hq;obtain⟨f0,f1,f2,f3,f4,f5⟩:=hf it (by simp);have hl:=rv.length;exact wpAny_pyNext_tuple_end (I.ok.hd hc) st (show s.heap.IsTuple a its.toArray from p) (by simp;omega) λh' eb=>⟨rfl,I.turned (t':=s.toks) (λb o hb e=>eb b o hb e) f0 f1 f3 f4 f5⟩
 self:=λ_ _ _ _ _ st h=>wpAny_pyIter_tupleiter st h
theorem zsH{P:Program}{w:World}{K:wb}{tg:Expr}(it:Addr)(lo:Int)(n:Nat):iT P w K tg (fQ lo n) [it] it (λi h=>IsRangeIter h it (lo+(i:Nat)*1) ((n:Int)-(i:Nat)) 1) where
 mem:=by simp
 obj:=λi h st b hb=>by
  have e:b=it:=by simpa using hb
  subst e
  exact⟨_,st,λv z=>by
   have z':Data.fields _=Data.cell v:=z;cases z'⟩
 keep:=λi h h' st k=>k it (by simp) _ st
 item:=by
  intro X hP hw hK hc i pins s σ H E I hf st hg;subst hP hw hK;obtain⟨f0,f1,f2,f3,f4,f5⟩:=hf it (by simp);have W:=Walks.range (prog:=X.prog) (w:=X.w) (I.ok.hd hc) it lo 1 n;refine W.item i s _ _ hg st λv h' tk hv st' kk=>?_
  obtain⟨t,rfl⟩:=hv;have I1:Inv X pins σ H {s with heap:=h',toks:=tk}:=I.turned (λb o hb e=>kk b o (by simpa using hb) e) f0 f1 f3 f4 f5;refine⟨_,rfl,Aq (s:={s with heap:=h',toks:=tk}) (n:="range_iterator") st' rfl rfl (by decide) ⟨.int (lo+i),H,I1,⟨t,?_⟩,⟨rfl,rfl⟩,st',λb hb=>(hf b hb).1⟩⟩;rw[QG]
 done:=by
  intro X hP hw hK hc i pins s σ H E I hf st hg;subst hP hw hK;obtain⟨f0,f1,f2,f3,f4,f5⟩:=hf it (by simp);exact wpAny_pyNext_range_end (I.ok.hd hc) st (by have:n<=i:=hg;omega) λh' eb=>⟨rfl,I.turned (t':=s.toks) (λb o hb e=>eb b o hb e) f0 f1 f3 f4 f5⟩
 self:=λ_ _ _ _ _ st h=>wpAny_pyIter_rangeiter st h
section
variable{X:Cx}{tg:Expr}
def Dp(K:wb)(tl:TE):TI:=λσ H R=>tl σ H λx H1=>∃a,x=.ref a/\(∃xs,aK K H1 a xs)/\R (iI K a) H1
def LO(K:wb)(tl:TE):TI:=λσ H R=>tl σ H λx H1=>∃a,x=.ref a/\(∃xs,aR K H1 a xs)/\R (iY K a) H1
theorem fY{l:Expr}{tl:TE}(hl:PE X l tl):PI X tg l (Dp X.K tl):=by
 intro pins s σ H R I h;refine aI (hl pins s σ H _ I h) λv s1 ⟨x,H1,I1,r1,q1⟩=>?_
 obtain⟨a,e,⟨xs,hq⟩,q⟩:=q1;subst e;cases r1;obtain⟨its,rv,p,hz⟩:=I1.list hq;refine wpAny_pyIter_list p.isList ?_;refine⟨s1.heap.objs.size,[s1.heap.objs.size],_,_,H1,rfl,I1.kept (t':=s1.toks) λb o e=>wf _ e,KC a _,⟨_,wB _ rfl,rfl,rfl⟩,λb hb=>?_,q⟩;have e:b=s1.heap.objs.size:=by simpa using hb
 subst e;exact I1.ji (wg _) (I1.aG.fresh (wg _))
theorem j4{l:Expr}{tl:TE}(hl:PE X l tl):PI X tg l (LO X.K tl):=by
 intro pins s σ H R I h;refine aI (hl pins s σ H _ I h) λv s1 ⟨x,H1,I1,r1,q1⟩=>?_
 obtain⟨a,e,⟨xs,hq⟩,q⟩:=q1;subst e;cases r1;obtain⟨its,rv,p,hz⟩:=I1.tuple hq;refine wpAny_pyIter_tuple (show s1.heap.IsTuple a its.toArray from p) ?_;refine⟨s1.heap.objs.size,[s1.heap.objs.size],_,_,H1,rfl,I1.kept (t':=s1.toks) λb o e=>wf _ e,MH a _,⟨_,wB _ rfl,rfl,rfl⟩,λb hb=>?_,q⟩;have e:b=s1.heap.objs.size:=by simpa using hb
 subst e;exact I1.ji (wg _) (I1.aG.fresh (wg _))
theorem L0{pins:List (Addr × Obj)}{σ : St}{H:Hp}{s:Shared}{R:It->Hp->Prop}{E:Value->Shared->Prop}{lo hi:Int}{t u v:Tok}{tk:Nat}(I:Inv X pins σ H s)(h1 : -(2^62)<=lo)(h2:lo<2^62)(h3 : -(2^62)<=hi)(h4:hi<2^62)
   (q:R (fQ lo (hi-lo).toNat) H):wpAny (model X.prog X.w) X.A (pyIter (.ref s.heap.objs.size)) (DY X pins σ tg R) E {s with heap:=s.heap.push {cls:=.type "range",data:=.fields #[.int lo t,.int hi u,.int 1 v]},toks:=tk}:=by
 refine wpAny_pyIter_range (uA ..) (small_one h1 h2 h3 h4) ?_;have I1:Inv X pins σ H {s with heap:=s.heap.push {cls:=.type "range",data:=.fields #[.int lo t,.int hi u,.int 1 v]},toks:=tk}:=I.kept λb o e=>wf _ e
 refine⟨(s.heap.push {cls:=.type "range",data:=.fields #[.int lo t,.int hi u,.int 1 v]}).objs.size,[(s.heap.push {cls:=.type "range",data:=.fields #[.int lo t,.int hi u,.int 1 v]}).objs.size],_,_,H,rfl,
   I1.kept (t':=tk) λb o e=>wf _ e,zsH _ lo (hi-lo).toNat,?_,λb hb=>?_,q⟩
 . have e1:lo+((0:Nat):Int)*1=lo:=by simp
   have e2:(((hi-lo).toNat:Nat):Int)-((0:Nat):Int)=uz lo hi 1:=by rw[rangeSize_one];split<;>omega
   show IsRangeIter _ _ (lo+((0:Nat):Int)*1) ((((hi-lo).toNat:Nat):Int)-((0:Nat):Int)) 1
   rw[e1,e2];exact wB _ rfl
 . have e:b=(s.heap.push {cls:=.type "range",data:=.fields #[.int lo t,.int hi u,.int 1 v]}).objs.size:=by simpa using hb
   subst e;exact I1.ji (wg _) (I1.aG.fresh (wg _))
def CW(ta:TA):TI:=λσ H R=>ta σ H λvs H1=>∃j:Int,vs=[.int j] /\ -(2^62)<=j/\j<2^62/\R (fQ 0 j.toNat) H1
def NZ(ta:TA):TI:=λσ H R=>ta σ H λvs H1=>∃i j:Int,vs=[.int i,.int j]/\(-(2^62)<=i/\i<2^62 /\ -(2^62)<=j/\j<2^62)/\R (fQ i (j-i).toNat) H1
theorem jI{a:Expr}{ta:TA}{p pos:Pos}(hg:Gl X "range")(hm:X.mg "range"=none)(ha:PA X [a] ta)(hs:starEach [a] X.env=[(false,eval a X.env)]:=by rfl):PI X tg (.Call (.Name "range" p) [a] [] pos) (CW ta):=by
 intro pins s σ H R I h;refine Call_ (fZ I hg hm boot_range (wX (aI (ha pos pins s σ H _ I h) λus s1 ⟨vs,H1,I1,r1,q1⟩=>?_) hs rfl));obtain⟨j,e,q1,q2,q⟩:=q1;subst e;cases r1 with
 | cons r rr =>
  cases rr;obtain⟨t,rfl⟩:=r;exact call_range_1 (L0 I1 (by omega) (by omega) q1 q2 (by simpa using q))
theorem zvt{a b:Expr}{ta:TA}{p pos:Pos}(hg:Gl X "range")(hm:X.mg "range"=none)(ha:PA X [a,b] ta)(hs:starEach [a,b] X.env=[(false,eval a X.env),(false,eval b X.env)]:=by rfl)(hs2:starEach [b] X.env=[(false,eval b X.env)]:=by rfl) :
   PI X tg (.Call (.Name "range" p) [a,b] [] pos) (NZ ta):=by
 intro pins s σ H R I h;refine Call_ (fZ I hg hm boot_range (wX (aI (ha pos pins s σ H _ I h) λus s1 ⟨vs,H1,I1,r1,q1⟩=>?_) (by rw[hs,hs2]) (by rw[hs2];rfl)));obtain⟨i,j,e,⟨q1,q2,q3,q4⟩,q⟩:=q1;subst e;cases r1 with
 | cons r rr =>
   cases rr with
   | cons r' rr =>
     cases rr;obtain⟨t,rfl⟩:=r;obtain⟨t',rfl⟩:=r';exact call_range_2 (L0 I1 q1 q2 q3 q4 q)
def m5(wi:TI)(g:TG)(tb:TS):TS:=λD σ H=>wi σ H λJ H1=>∃W:Nat->Nat->St->Hp->Prop,(∃m,W 0 m σ H1) /\ ∀i m σ H,W i m σ H ->
 (J.stop i H/\D.nx σ H)\/(J.go i H /\ ∃N:St->Hp->Prop,(∀σ' H',N σ' H'->∃m',m'<m/\W (i+1) m' σ' H') /\ ∀x H',J.fD i H x H'->g x σ H' λσ2 H2=>tb {D with nx:=N,ct:=N,bk:=D.nx} σ2 H2)
def oo(fp:List Addr)(h:Heap):List (Addr × Obj):=fp.filterMap λb=>(h.get? b).map λo=>(b,o)
theorem rM{fp:List Addr}{h:Heap}{b:Addr}{o:Obj}(hb:b∈fp)(e:h.get? b=some o):(b,o)∈oo fp h:=VY.mpr ⟨b,hb,by rw[e];rfl⟩
theorem ZW{fp:List Addr}{h:Heap}{p:Addr × Obj}(hp:p∈oo fp h):p.1∈fp/\h.get? p.1=some p.2:=by
 obtain⟨b,hb,e⟩:=VY.mp hp;cases q:h.get? b with
 | none=>rw[q]at e;cases e
 | some o =>
  rw[q]at e;have e':(b,o)=p:=wF e;subst e';exact⟨hb,q⟩
theorem Inv.pinned{pins:List (Addr × Obj)}{σ : St}{H:Hp}{s:Shared}{fp:List Addr}(I:Inv X pins σ H s)(hf:∀b∈fp,d8 X pins H b)(ho:∀b∈fp,∃o,s.heap.get? b=some o /\ ∀v,o.data≠.cell v):Inv X (pins++oo fp s.heap) σ H s :=
 I.G8 λp hp=>(vM.mp hp).elim (λz=>I.pin p (vD _ z)) λz=>by
  obtain⟨hb,e⟩:=ZW z;obtain⟨f0,f1,f2,_⟩:=hf p.1 hb;obtain⟨o,e',d⟩:=ho p.1 hb;rw[e]at e';cases e';exact⟨e,f0,f1,f2,d⟩
theorem Inv.p9{pins pl:List (Addr × Obj)}{σ : St}{H:Hp}{s:Shared}(I:Inv X (pins++pl) σ H s):Inv X pins σ H s:=I.G8 λp hp=>I.pin p (vD _ (Vb _ hp))
theorem f_{iter:Expr}{body:List Stmt}{wi:TI}{g:TG}{tb:TS}{pos:Pos}(hp:PassesOwn (model X.prog X.w) X.A X.env X.xe)(hc:X.calm=true)(hi:PI X tg iter wi)(hg:PG X tg g)(hb:eW X body tb)
   (hs:∀x,foldedSetIterable iter X.env x=pure x:=by intro _;rfl):PS X (.For tg iter body [] pos) (m5 wi g tb):=by
 intro pins s σ H D I h;refine wpAny_For (aI (hi pins s σ H _ I h) λv s1 h1=>aI h1 λitv s2 h2=>?_) hs;obtain⟨it,fp,tn,J,H2,e,I2,T,st2,f2,W,⟨m0,w0⟩,turn⟩:=h2;subst e
 -- what stays true of the iterator's objects through the loop
 have stat:∀{H':Hp},(∀b∈fp,H' b=none)->∀b∈fp,d8 X pins H' b:=λhn b hb=>⟨hn b hb,(f2 b hb).2⟩
 refine codeAny_forLoop_any (λn s'=>∃i σ' H',Inv X pins σ' H' s'/\tn i s'.heap/\(∀b∈fp,H' b=none)/\W i n σ' H') ?_ m0 ⟨0,σ,H2,I2,st2,λb hb=>(f2 b hb).1,w0⟩;rintro n s3 ⟨i,σ3,H3,I3,st3,fr3,w3⟩;rcases turn i n σ3 H3 w3 with⟨stop,qn⟩ | ⟨go,N,hN,step⟩
 . refine wpAny_passesOwn hp (aI (T.done X rfl rfl rfl hc i pins s3 σ3 H3 X.xe I3 (stat fr3) st3 stop) λr s4 ⟨hr,I4⟩=>?_)
   subst hr;exact wpAny_execs_nil ⟨σ3,H3,I4,qn⟩
 . refine wpAny_passesOwn hp (aI (T.item X rfl rfl rfl hc i pins s3 σ3 H3 X.xe I3 (stat fr3) st3 go) λr s4 ⟨u,hr,h4⟩=>?_)
   subst hr;refine wpAny_passesOwn hp (aI h4 λ_ s5 ⟨x,H5,I5,r5,y5,st5,fr5⟩=>?_);have I5':=I5.pinned (stat fr5) (T.obj _ _ st5);refine wpAny_passesOwn hp (aI (hg _ s5 σ3 H5 x u _ I5' r5 (step x H5 y5)) λ_ s6 ⟨σ6,H6,I6,q6⟩=>?_);refine wpAny_passesOwn hp (aI (hb _ s6 σ6 H6 _ I6 q6) λf s7 q7=>?_)
   have again:∀{σ7:St}{H7:Hp},Inv X (pins++oo fp s5.heap) σ7 H7 s7->N σ7 H7->∃m,m<n /\ ∃i σ' H',Inv X pins σ' H' s7/\tn i s7.heap/\(∀b∈fp,H' b=none)/\W i m σ' H':=λ{σ7 H7} I7 n7=>by
     obtain⟨m',hm,w7⟩:=hN σ7 H7 n7;refine⟨m',hm,i+1,σ7,H7,I7.p9,T.keep _ _ _ st5 λb hb o e=>(I7.pin (b,o) (vD _ (vD _ (rM hb e)))).1,λb hb=>?_,w7⟩;obtain⟨o,e,d⟩:=T.obj _ _ st5 b hb;exact(I7.pin (b,o) (vD _ (vD _ (rM hb e)))).2.1
   cases f with
   | next=>obtain⟨σ7,H7,I7,n7⟩:=q7;exact again I7 n7
   | cont=>obtain⟨σ7,H7,I7,n7⟩:=q7;exact again I7 n7
   | brk=>obtain⟨σ7,H7,I7,q7⟩:=q7;exact⟨σ7,H7,I7.p9,q7⟩
   | ret v=>obtain⟨x7,σ7,H7,I7,r7,q7⟩:=q7;exact⟨x7,σ7,H7,I7.p9,r7,q7⟩
end
theorem Tx{K:wb}{a:Addr}{xs:List V}{g:TG}{tb:TS}{D:cc}{σ : St}{H:Hp}(Pv:Nat->St->Hp->Prop)(h0:Pv 0 σ H)(hl:∀i σ H,i<=xs.length->Pv i σ H->aK K H a xs)
   (hs:∀i x σ H,xs[i]? = some x->Pv i σ H->g x σ H λσ2 H2=>tb {D with nx:=Pv (i+1),ct:=Pv (i+1),bk:=D.nx} σ2 H2) (hd:∀σ H,Pv xs.length σ H->D.nx σ H) :
   ∃W:Nat->Nat->St->Hp->Prop,(∃m,W 0 m σ H) /\ ∀i m σ H,W i m σ H ->
     ((iI K a).stop i H/\D.nx σ H)\/((iI K a).go i H /\ ∃N:St->Hp->Prop,(∀σ' H',N σ' H'->∃m',m'<m/\W (i+1) m' σ' H') /\ ∀x H',(iI K a).fD i H x H'->g x σ H' λσ2 H2=>tb {D with nx:=N,ct:=N,bk:=D.nx} σ2 H2):=by
 refine⟨λi m σ H=>m=xs.length-i/\i<=xs.length/\Pv i σ H,⟨xs.length,by simp,vV _,h0⟩,?_⟩;rintro i m σ H ⟨rfl,hi,p⟩;have q:=hl i σ H hi p
 by_cases hlt:i<xs.length
 . refine .inr ⟨⟨xs,xs[i],q,by simp[hlt]⟩,Pv (i+1),λσ' H' p'=>⟨xs.length-(i+1),by omega,rfl,hlt,p'⟩,λx H' y=>?_⟩
   obtain⟨e,y⟩:=y;subst e;exact hs i x σ _ (y xs q) p
 . have e:i=xs.length:=by omega
   subst e;exact .inl ⟨⟨xs,q,wg _⟩,hd σ H p⟩
theorem Te{K:wb}{a:Addr}{xs:List V}{g:TG}{tb:TS}{D:cc}{σ : St}{H:Hp}(Pv:Nat->St->Hp->Prop)(h0:Pv 0 σ H)(hl:∀i σ H,i<=xs.length->Pv i σ H->aR K H a xs)
   (hs:∀i x σ H,xs[i]? = some x->Pv i σ H->g x σ H λσ2 H2=>tb {D with nx:=Pv (i+1),ct:=Pv (i+1),bk:=D.nx} σ2 H2) (hd:∀σ H,Pv xs.length σ H->D.nx σ H) :
   ∃W:Nat->Nat->St->Hp->Prop,(∃m,W 0 m σ H) /\ ∀i m σ H,W i m σ H ->
     ((iY K a).stop i H/\D.nx σ H)\/((iY K a).go i H /\ ∃N:St->Hp->Prop,(∀σ' H',N σ' H'->∃m',m'<m/\W (i+1) m' σ' H') /\ ∀x H',(iY K a).fD i H x H'->g x σ H' λσ2 H2=>tb {D with nx:=N,ct:=N,bk:=D.nx} σ2 H2):=by
 refine⟨λi m σ H=>m=xs.length-i/\i<=xs.length/\Pv i σ H,⟨xs.length,by simp,vV _,h0⟩,?_⟩;rintro i m σ H ⟨rfl,hi,p⟩;have q:=hl i σ H hi p
 by_cases hlt:i<xs.length
 . refine .inr ⟨⟨xs,xs[i],q,by simp[hlt]⟩,Pv (i+1),λσ' H' p'=>⟨xs.length-(i+1),by omega,rfl,hlt,p'⟩,λx H' y=>?_⟩
   obtain⟨e,y⟩:=y;subst e;exact hs i x σ _ (y xs q) p
 . have e:i=xs.length:=by omega
   subst e;exact .inl ⟨⟨xs,q,wg _⟩,hd σ H p⟩
theorem Oe{lo:Int}{n:Nat}{g:TG}{tb:TS}{D:cc}{σ : St}{H:Hp}(Pv:Nat->St->Hp->Prop)(h0:Pv 0 σ H)
   (hs:∀i σ H,i<n->Pv i σ H->g (.int (lo+i)) σ H λσ2 H2=>tb {D with nx:=Pv (i+1),ct:=Pv (i+1),bk:=D.nx} σ2 H2) (hd:∀σ H,Pv n σ H->D.nx σ H) :
   ∃W:Nat->Nat->St->Hp->Prop,(∃m,W 0 m σ H) /\ ∀i m σ H,W i m σ H ->
     ((fQ lo n).stop i H/\D.nx σ H)\/((fQ lo n).go i H /\ ∃N:St->Hp->Prop,(∀σ' H',N σ' H'->∃m',m'<m/\W (i+1) m' σ' H') /\ ∀x H',(fQ lo n).fD i H x H'->g x σ H' λσ2 H2=>tb {D with nx:=N,ct:=N,bk:=D.nx} σ2 H2):=by
 refine⟨λi m σ H=>m=n-i/\i<=n/\Pv i σ H,⟨n,by simp,vV _,h0⟩,?_⟩;rintro i m σ H ⟨rfl,hi,p⟩
 by_cases hlt:i<n
 . refine .inr ⟨hlt,Pv (i+1),λσ' H' p'=>⟨n-(i+1),by omega,rfl,hlt,p'⟩,λx H' y=>?_⟩
   obtain⟨e,y⟩:=y;subst e y;exact hs i σ _ hlt p
 . have e:i=n:=by omega
   subst e;exact .inl ⟨wg _,hd σ H p⟩
abbrev R2:=V->V->Hp->VK->Prop
def aN(X:Cx)(f:Value->Value->Sem Value)(r:R2):Prop :=
 ∀(pins:List (Addr × Obj))(s:Shared)(σ : St)(H:Hp)(x y:V)(v u:Value)(Q:VK),Inv X pins σ H s->aW x v->aW y u->r x y H Q ->
  wpAny (model X.prog X.w) X.A (f v u) (EP X pins σ Q) X.xe s
def B4(X:Cx)(f:Value->Sem Value)(r:V->Hp->VK->Prop):Prop :=
 ∀(pins:List (Addr × Obj))(s:Shared)(σ : St)(H:Hp)(x:V)(v:Value)(Q:VK),Inv X pins σ H s->aW x v->r x H Q ->
  wpAny (model X.prog X.w) X.A (f v) (EP X pins σ Q) X.xe s
def aO(X:Cx)(f:Value)(r:List V->Hp->VK->Prop):Prop :=
 ∀(pins:List (Addr × Obj))(s:Shared)(σ : St)(H:Hp)(xs:List V)(us:List Value)(Q:VK),Inv X pins σ H s->aM xs us->r xs H Q ->
  wpAny (model X.prog X.w) X.A (call f us) (EP X pins σ Q) X.xe s
def zCX(X:Cx)(r:V->Hp->(Bool->Hp->Prop)->Prop):Prop :=
 ∀(pins:List (Addr × Obj))(s:Shared)(σ : St)(H:Hp)(x:V)(v:Value)(Q:Bool->Hp->Prop),Inv X pins σ H s->aW x v->r x H Q ->
  wpAny (model X.prog X.w) X.A (truthy v) (TP X pins σ Q) X.xe s
def kK(r:R2)(ta tb:TE):TE:=λσ H Q=>ta σ H λx H1=>tb σ H1 λy H2=>r x y H2 Q
def ML(r:V->Hp->VK->Prop)(ta:TE):TE:=λσ H Q=>ta σ H λx H1=>r x H1 Q
def rI(C:Int->Int->Prop)(g:Int->Int->V):R2:=λx y H Q=>∃i j,x=.int i/\y=.int j/\C i j/\Q (g i j) H
def ib(g:Int->Int->V):R2:=λx y H Q=>∃i j,x=.int i/\y=.int j/\Q (g i j) H
def rU(g:Int->V):V->Hp->VK->Prop:=λx H Q=>∃i,x=.int i/\Q (g i) H
section
variable{X:Cx}{a b c:Expr}{ta tb tc:TE}{pos:Pos}
theorem CU(ha:PE X a ta)(hb:PE X b tb){pins:List (Addr × Obj)}{s:Shared}{σ : St}{H:Hp}{R:V->V->Hp->Prop}(I:Inv X pins σ H s)
   (h:ta σ H λx H1=>tb σ H1 λy H2=>R x y H2) {Q:Value->Shared->Prop} {f:Value->Value->Sem Value}
   (hf:∀v u s2 x y H2,Inv X pins σ H2 s2->aW x v->aW y u->R x y H2->wpAny (model X.prog X.w) X.A (f v u) Q X.xe s2) :
   wpAny (model X.prog X.w) X.A (eval a X.env) (λv s₁=>wpAny (model X.prog X.w) X.A (eval b X.env) (λu s₂=>wpAny (model X.prog X.w) X.A (f v u) Q X.xe s₂) X.xe s₁) X.xe s:=by
 refine aI (ha pins s σ H _ I h) λv s1 ⟨x,H1,I1,r1,q1⟩=>?_
 refine aI (hb pins s1 σ H1 _ I1 q1) λu s2 ⟨y,H2,I2,r2,q2⟩=>?_
 exact hf v u s2 x y H2 I2 r1 r2 q2
theorem aA{op:Operator}{r:R2}(ho:aN X (binaryOp op) r)(ha:PE X a ta)(hb:PE X b tb):PE X (.BinOp a op b pos) (kK r ta tb):=by
 intro pins s σ H Q I h;exact wpAny_BinOp (CU ha hb I h λv u s2 x y H2 I2 rx ry q=>ho pins s2 σ H2 x y v u Q I2 rx ry q)
theorem gU{op:UnaryOp}{r:V->Hp->VK->Prop}(ho:B4 X (unaryOp op) r)(ha:PE X a ta):PE X (.UnaryOp op a pos) (ML r ta):=by
 intro pins s σ H Q I h;exact UnaryOp_ (aI (ha pins s σ H _ I h) λv s1 ⟨x,H1,I1,r1,q1⟩=>ho pins s1 σ H1 x v Q I1 r1 q1)
theorem rJ{f:Value->Value->Sem Value}{C:Int->Int->Prop}{g:Int->Int->Int}
  (rule:∀(i j:Int)(t u:Tok)(s:Shared)(Q:Value->Shared->Prop)(E:Value->Shared->Prop),C i j->Q (.int (g i j) s.toks) {s with toks:=s.toks+1}->wpAny (model X.prog X.w) X.A (f (.int i t) (.int j u)) Q E s) :
  aN X f (rI C λi j=>.int (g i j)):=by
 intro pins s σ H x y v u Q I rx ry h;obtain⟨i,j,rfl,rfl,hc,q⟩:=h;obtain⟨t,rfl⟩:=rx;obtain⟨t',rfl⟩:=ry;exact rule i j t t' s _ _ hc ⟨.int (g i j),H,I.tok _,⟨_,rfl⟩,q⟩
theorem Pm{f:Value->Value->Sem Value}{g:Int->Int->Int}
  (rule:∀(i j:Int)(t u:Tok)(s:Shared)(Q:Value->Shared->Prop)(E:Value->Shared->Prop),Q (.int (g i j) s.toks) {s with toks:=s.toks+1}->wpAny (model X.prog X.w) X.A (f (.int i t) (.int j u)) Q E s) :
  aN X f (ib λi j=>.int (g i j)):=by
 intro pins s σ H x y v u Q I rx ry h;obtain⟨i,j,rfl,rfl,q⟩:=h;obtain⟨t,rfl⟩:=rx;obtain⟨t',rfl⟩:=ry;exact rule i j t t' s _ _ ⟨.int (g i j),H,I.tok _,⟨_,rfl⟩,q⟩
theorem zH{f:Value->Value->Sem Value}{g:Int->Int->Bool}
  (rule:∀(i j:Int)(t u:Tok)(s:Shared)(Q:Value->Shared->Prop)(E:Value->Shared->Prop),Q (.bool (g i j)) s->wpAny (model X.prog X.w) X.A (f (.int i t) (.int j u)) Q E s) :
  aN X f (ib λi j=>.bl (g i j)):=by
 intro pins s σ H x y v u Q I rx ry h;obtain⟨i,j,rfl,rfl,q⟩:=h;obtain⟨t,rfl⟩:=rx;obtain⟨t',rfl⟩:=ry;exact rule i j t t' s _ _ ⟨.bl (g i j),H,I,rfl,q⟩
def KN(i j:Int):Prop:=0<=j/\j<=1000000/\i.natAbs<2^64
theorem zA9:aN X (binaryOp .Add) (ib λi j=>.int (i+j)):=Pm λ_ _ _ _ _ _ _ q=>add_int q
theorem jn:aN X (binaryOp .Sub) (ib λi j=>.int (i-j)):=Pm λ_ _ _ _ _ _ _ q=>sub_int q
theorem gr:aN X (binaryOp .Mod) (rI (λ_ j=>0<j) λi j=>.int (i % j)):=rJ λi j _ _ _ _ _ hc q=>by
 have h1:(0:Int)<j:=hc;exact mod_int' (by omega) (by rw[Int.fmod_eq_emod_of_nonneg i (by omega)];exact q)
theorem zAI:aN X (binaryOp .Pow) (rI KN λi j=>.int (i^j.toNat)):=rJ λ_ _ _ _ _ _ _ hc q=>pow_int_small hc.1 hc.2.1 hc.2.2 q
theorem unI{f:Value->Sem Value}{g:Int->Int}
  (rule:∀(i:Int)(t:Tok)(s:Shared)(Q:Value->Shared->Prop)(E:Value->Shared->Prop),Q (.int (g i) s.toks) {s with toks:=s.toks+1}->wpAny (model X.prog X.w) X.A (f (.int i t)) Q E s) :
  B4 X f (rU λi=>.int (g i)):=by
 intro pins s σ H x v Q I rx h;obtain⟨i,rfl,q⟩:=h;obtain⟨t,rfl⟩:=rx;exact rule i t s _ _ ⟨.int (g i),H,I.tok _,⟨_,rfl⟩,q⟩
theorem h9:B4 X (unaryOp .USub) (rU λi=>.int (-i)):=unI λ_ _ _ _ _ q=>neg_int q
end
section
variable{X:Cx}{a b c:Expr}{ta tb tc:TE}{pos:Pos}
theorem L4{pins:List (Addr × Obj)}{σ : St}{H:Hp}{s:Shared}{Q:VK}{k k':Bool}(I:Inv X pins σ H s)(q:Q (.bl k) H)(e:k=k'):EP X pins σ Q (.bool k') s:=by
 subst e;exact⟨.bl k,H,I,rfl,q⟩
theorem mO:aN X (compareOp .Lt) (ib λi j=>.bl (decide (i<j))):=zH λ_ _ _ _ _ _ _ q=>lt_int q
theorem pK:aN X (compareOp .LtE) (ib λi j=>.bl (decide (i<=j))):=zH λ_ _ _ _ _ _ _ q=>le_int q
theorem nv:aN X (compareOp .Gt) (ib λi j=>.bl (decide (j<i))):=zH λ_ _ _ _ _ _ _ q=>gt_int q
theorem Bg:aN X (compareOp .GtE) (ib λi j=>.bl (decide (j<=i))):=zH λ_ _ _ _ _ _ _ q=>ge_int q
theorem Z1:aN X (compareOp .Is) (λx y H Q=>y=.bj/\Q (.bl (decide (x=.bj))) H):=by
 intro pins s σ H x y v u Q I rx ry h;obtain⟨rfl,q⟩:=h;cases ry;refine is_none_gen (L4 I q ?_)
 cases x<;>first
  | (cases rx;rfl)
  | (obtain⟨t,rfl⟩:=rx;rfl)
theorem aN.or{f:Value->Value->Sem Value}{r r':R2}(h:aN X f r)(h':aN X f r'):aN X f (λx y H Q=>r x y H Q\/r' x y H Q):=by
 intro pins s σ H x y v u Q I rx ry q;rcases q with q | q
 ·exact h pins s σ H x y v u Q I rx ry q
 ·exact h' pins s σ H x y v u Q I rx ry q
theorem a_(b:Expr){op:CmpOp}(h:op≠.In:=by decide)(h2:op≠.NotIn:=by decide):behindInMarks op b=false:=by
 have e1:(op == CmpOp.In)=false:=by cases op<;>first | rfl | exact absurd rfl h
 have e2:(op == CmpOp.NotIn)=false:=by cases op<;>first | rfl | exact absurd rfl h2
 cases b<;>simp[behindInMarks,e1,e2]
theorem fB{op:CmpOp}{r:R2}(ho:aN X (compareOp op) r)(ha:PE X a ta)(hb:PE X b tb)(hm:behindInMarks op b=false):PE X (.Compare a [op] [b] pos) (kK r ta tb):=by
 intro pins s σ H Q I h;exact wpAny_Compare1 (CU ha hb I h λv u s2 x y H2 I2 rx ry q=>ho pins s2 σ H2 x y v u Q I2 rx ry q) hm
def Ek(t:TE):TT:=λσ H Q=>t σ H λx H'=>∃k,x=.bl k/\Q k H'
theorem bS{op:CmpOp}{r:R2}(ho:aN X (compareOp op) r)(ha:PE X a ta)(hb:PE X b tb)(hm:behindInMarks op b=false):PT X (.Compare a [op] [b] pos) (Ek (kK r ta tb)):=by
 intro pins s σ H Q I h
 refine wpAny_isTrue_Compare1 (aI (ha pins s σ H _ I h) λv s1 ⟨x,H1,I1,r1,q1⟩=>aI (hb pins s1 σ H1 _ I1 q1) λu s2 ⟨y,H2,I2,r2,q2⟩ =>
  aI (ho pins s2 σ H2 x y v u _ I2 r1 r2 q2) λc s3 ⟨z,H3,I3,r3,k,e,q3⟩=>?_) hm
 subst e;cases r3;exact wpAny_truthy_bool ⟨H3,I3,q3⟩
def Rl(r r':R2)(ta tb tc:TE):TE:=λσ H Q=>ta σ H λx H1=>tb σ H1 λy H2=>r x y H2 λz H3=>∃k,z=.bl k /\
 (if k=true then tc σ H3 λw' H4=>r' y w' H4 Q else Q (.bl false) H3)
theorem zwS{op op':CmpOp}{r r':R2}(ho:aN X (compareOp op) r)(ho':aN X (compareOp op') r')(ha:PE X a ta)(hb:PE X b tb)(hc:PE X c tc)
   (hm:lastMarks [op,op'] [b,c]=false:=by with_unfolding_all rfl):PT X (.Compare a [op,op'] [b,c] pos) (Ek (Rl r r' ta tb tc)):=by
 intro pins s σ H Q I h
 refine isTrue_chain (aI (ha pins s σ H _ I h) λv s1 ⟨x,H1,I1,r1,q1⟩=>test_link (aI (hb pins s1 σ H1 _ I1 q1) λu s2 ⟨y,H2,I2,r2,q2⟩ =>
   aI (ho pins s2 σ H2 x y v u _ I2 r1 r2 q2) λd s3 ⟨z,H3,I3,r3,k,e,q3⟩=>?_)) hm
 subst e;cases r3;refine wpAny_truthy_bool ?_;cases k with
 | false =>
   obtain⟨k',e',q'⟩:=q3;cases e';exact ite_ff ⟨H3,I3,q'⟩
 | true =>
   refine ite_tt (test_last (aI (hc pins s3 σ H3 _ I3 q3) λw' s4 ⟨z',H4,I4,r4,q4⟩=>aI (ho' pins s4 σ H4 y z' u w' _ I4 r2 r4 q4) λd' s5 ⟨z2,H5,I5,r5,k2,e2,q5⟩=>?_));subst e2;cases r5;exact wpAny_truthy_bool ⟨H5,I5,q5⟩
def AN(K:wb)(x:V)(H:Hp)(k:Bool):Prop :=
 match x with
 | .bj=>k=false
 | .bl b=>k=b
 | .int i=>k=(i != 0)
 | .str y=>y.length<=sizeLine/\k=((y.length:Int) != 0)
 | .byt y=>y.size<=sizeLine/\k=((y.size:Int) != 0)
 | .ref p=>(∃xs,aK K H p xs/\k = !xs.isEmpty)\/(∃xs,aR K H p xs/\k = !xs.isEmpty) \/ ∃kvs,H p=some (.dK kvs)/\k = !kvs.isEmpty
 | _=>False
theorem Sy{κ : Type}{kvs:List (κ × V)}{vs:List (κ × Value)}(r:KV kvs vs):(!vs.isEmpty) = !kvs.isEmpty:=by
 cases r<;>rfl
theorem IU{xs:List V}{its:List Value}(r:aM xs its):(!its.toArray.isEmpty) = !xs.isEmpty:=by
 cases r<;>simp
theorem nu:(sizeLine:Nat)<2^63:=by rw[sizeLine_eq];decide
theorem zAD:zCX X (λx H Q=>∃k,AN X.K x H k/\Q k H):=by
 intro pins s σ H x v Q I rx h;obtain⟨k,e,q⟩:=h;have hl:=nu;have hs:sizeLine=16777216:=sizeLine_eq;cases x with
 | bj =>
  cases rx;have e':k=false:=e;subst e';exact truthy_none ⟨H,I,q⟩
 | bl b =>
  cases rx;have e':k=b:=e;subst e';exact wpAny_truthy_bool ⟨H,I,q⟩
 | int i =>
  obtain⟨t,rfl⟩:=rx;have e':k=(i != 0):=e;subst e';exact PySem.P.truthy_int ⟨H,I,q⟩
 | str y =>
  obtain⟨t,rfl⟩:=rx;obtain⟨hy,e'⟩:y.length<=sizeLine/\k=((y.length:Int) != 0):=e;subst e';exact PySem.P.truthy_str (by omega) ⟨H,I.tok _,q⟩
 | byt y =>
  obtain⟨t,rfl⟩:=rx;obtain⟨hy,e'⟩:y.size<=sizeLine/\k=((y.size:Int) != 0):=e;subst e';exact PySem.W.truthy_bytes (by omega) ⟨H,I.tok _,q⟩
 | ref p =>
  cases rx;have e':(∃xs,aK X.K H p xs/\k = !xs.isEmpty)\/(∃xs,aR X.K H p xs/\k = !xs.isEmpty) \/ ∃kvs,H p=some (.dK kvs)/\k = !kvs.isEmpty:=e;rcases e' with⟨xs,hx,e'⟩ | ⟨xs,hx,e'⟩ | ⟨kvs,hx,e'⟩
  ·subst e'
   obtain⟨its,r,pl,hz⟩:=I.list hx;have hlen:=r.length;exact wpAny_truthy_list pl.isList (by simp only[wC];omega) ⟨H,I.tok _,by rw[IU r];exact q⟩
  ·subst e'
   obtain⟨its,r,pl,hz⟩:=I.tuple hx;have hlen:=r.length;exact truthy_tuple pl (by simp only[wC];omega) ⟨H,I.tok _,by rw[IU r];exact q⟩
  ·subst e'
   obtain⟨hz,hS,vs,r,m⟩:kvs.length<=sizeLine/\(p == sysModules)=false /\ ∃vs,KV kvs vs/\s.heap.DictOf (Bp X.prog X.w) p vs:=I.aG p _ hx;have hlen:kvs.length=vs.length:=ua r;exact wpAny_truthy_dict hS m (by omega) ⟨H,I.tok _,by rw[Sy r];exact q⟩
 | _=>exact(show False from e).elim
theorem zwb(ha:PE X a ta)(he:∀whole,isTrue a X.env whole=(do let v <- whole;standAt a.pos;holding [v] (truthy v))) :
  PT X a (λσ H Q=>ta σ H λx H'=>∃k,AN X.K x H' k/\Q k H'):=by
 intro pins s σ H Q I h;exact isTrue_plain (aI (ha pins s σ H _ I h) λv s1 ⟨x,H1,I1,r1,q1⟩=>zAD pins s1 σ H1 x v Q I1 r1 q1) (he _)
theorem zsx:aN X (binaryOp .Add) (λx y H Q=>∃i j,x=.str i/\y=.str j/\i.length+j.length<=sizeLine/\Q (.str (i++j)) H):=by
 intro pins s σ H x y v u Q I rx ry h;obtain⟨i,j,rfl,rfl,hz,q⟩:=h;obtain⟨t,rfl⟩:=rx;obtain⟨t',rfl⟩:=ry;exact add_str (λt' tk=>⟨.str (i++j),H,I.tok _,⟨_,rfl⟩,q⟩) hz
theorem gk{x:V}{us:List Value}(r:aM [x] us):∃u,us=[u]/\aW x u:=by
 cases r with
 | cons r1 r2=>cases r2;exact⟨_,rfl,r1⟩
theorem k_{x y:V}{us:List Value}(r:aM [x,y] us):∃u w',us=[u,w']/\aW x u/\aW y w':=by
 cases r with
 | cons r1 r2 =>
  cases r2 with
  | cons r3 r4=>cases r4;exact⟨_,_,rfl,r1,r3⟩
theorem UH:aO X (.builtin "abs") (λxs H Q=>∃i,xs=[.int i]/\Q (.int (if i<0 then -i else i)) H):=by
 intro pins s σ H xs us Q I r h;obtain⟨i,rfl,q⟩:=h;obtain⟨u,rfl,t,rfl⟩:=gk r;exact call_abs_int λu tk=>⟨.int (if i<0 then -i else i),H,I.tok _,⟨_,rfl⟩,q⟩
theorem ZK(hc:X.calm=true):aO X (.builtin "min") (λxs H Q=>∃i j,xs=[.int i,.int j]/\Q (.int (if j<i then j else i)) H):=by
 intro pins s σ H xs us Q I r h;obtain⟨i,j,rfl,q⟩:=h;obtain⟨u,w',rfl,⟨t,rfl⟩,⟨t',rfl⟩⟩:=k_ r;refine min_two_ints (I.ok.hd hc) λh' tk k=>⟨_,H,I.kept k,?_,q⟩
 by_cases hj:j<i
 ·rw[if_pos hj,if_pos hj];exact⟨_,rfl⟩
 ·rw[if_neg hj,if_neg hj];exact⟨_,rfl⟩
end
structure zDa(h:Heap)(x dx C:Addr)(mA:Str->Option Value):Prop where
 obj:h.get? x=some (Xy C dx)
 ns:h.Ns1 dx mA
 ne:dx≠x
section
variable{prog:Program}{w:World}{A:Around}{E:Value->Shared->Prop}{s:Shared}{K:wb}{x dx C f:Addr}{mA:Str->Option Value}{name:Str}{v:Value}
end
section
variable{P:Program}{w:World}{H H':Hp}{h h':Heap}{a C dx:Addr}{fs fs':List (Str × V)}
end
structure Ub(K:wb)(C:Addr):Prop where
 pg:PySem.W.plainGet K C Str.empty=true
 hd:PySem.W.hasDictIn K C=true
 po:PySem.W.plainOver K C=true
 sa:WJ K (.ref C) "__setattr__"=some (some (.builtin "object.__setattr__"))
structure Con(K:wb)(C:Addr)(f:Str)(v:V)(u:Value):Prop where
 at_:WJ K (.ref C) f=some (some u)
 rel:aW v u
 get:qY K u "__get__"=some none
 cp:PySem.W.copiedNames.contains f=false
structure zDd(K:wb)(C:Addr)(m:Str)(f:Addr):Prop where
 at_:WJ K (.ref C) m=some (some (.ref f))
 fn:ur K (.ref f)=true
 kp:Vg K (.ref f)=true
section
variable{X:Cx}{pins:List (Addr × Obj)}{σ : St}{H:Hp}{s:Shared}{a C dx:Addr}{fs:List (Str × V)}{f:Str}{v:V}{A:Around}{E:Value->Shared->Prop}
end
section
variable{X:Cx}{o e value:Expr}{f:Str}{pos pos' tpos:Pos}{ta tv:TE}
end
section
variable{X:Cx}{pins:List (Addr × Obj)}{σ : St}{H:Hp}{s:Shared}{A:Around}{E:Value->Shared->Prop}{Q:Value->Shared->Prop}{c:Value}{b:Bool}
inductive gX(K:wb)(H:Hp):V->Value->Prop where
 | bj:gX K H .bj (.type "NoneType")
 | bl (x:Bool):gX K H (.bl x) (.type "bool")
 | int (i:Int):gX K H (.int i) (.type "int")
 | str (x:Str):gX K H (.str x) (.type "str")
 | kZ (x:UInt64):gX K H (.kZ x) (.type "float")
 | lst {a:Addr} {xs:List V} (e:H a=some (.lst xs)):gX K H (.ref a) (.type "list")
 | fi {a:Addr} {o:Obj} {xs:List V} (e:H a=some (.fi o (.lst xs))):gX K H (.ref a) (.type "list")
 | tup {a:Addr} {xs:List V} (e:H a=some (.tup xs)):gX K H (.ref a) (.type "tuple")
 | dK {a:Addr} {kvs:List (Key × V)} (e:H a=some (.dK kvs)):gX K H (.ref a) (.type "dict")
 | dT {a:Addr} {kvs:List (List Key × V)} (e:H a=some (.dT kvs)):gX K H (.ref a) (.type "dict")
 | ins {a C dx:Addr} {fs:List (Str × V)} (e:H a=some (.ins C dx fs)) (cl:Ub K C) (ha:WJ K (.ref C) "__class__"=some (some (.builtin "object.__class__")))
     (hn:qY K (.builtin "object.__class__") "__get__"=some (some (.builtin "getset_descriptor.__get__"))) (htk:XA K (.builtin "object.__class__")=some true)
     (hm:xi K C (.type "object")=some true):gX K H (.ref a) (.ref C)
end
structure dJ(k:Nat)(A:Around):Prop where
 hd:A.handled=none
 dp:A.depth+3*k+5<recursionLimit
 un:A.units+16*k+200<cLine
 gd:A.guards=some []
theorem dJ.mono{j k:Nat}{A:Around}(r:dJ k A)(h:j<=k):dJ j A:=⟨r.hd,by have:=r.dp;omega,by have:=r.un;omega,by first | exact r.gd | (simp[ut,Code.guards,uu,guardIds];exact r.gd)⟩
theorem dJ.deeper{k:Nat}{A:Around}(r:dJ (k+1) A)(env:Env):dJ k (A.deeper env) :=
 ⟨r.hd,by have:=r.dp;show A.depth+1+3*k+5<_;omega,by have:=r.un;show A.units+3+16*k+200<_;omega,by first | exact r.gd | (simp[ut,Code.guards,uu,guardIds];exact r.gd)⟩
theorem dJ.depth{k:Nat}{A:Around}(r:dJ k A):A.depth<recursionLimit:=by have:=r.dp;omega
theorem dJ.units{k:Nat}{A:Around}(r:dJ k A):A.units+64<cLine:=by have:=r.un;omega
def Ej:TA:=λ_ H Q=>Q [] H
def Dc(ta:TE)(tr:TA):TA:=λσ H Q=>ta σ H λx H1=>tr σ H1 λxs H2=>Q (x::xs) H2
section
variable{X:Cx}{e:Expr}{es:List Expr}{te:TE}{t:TA}{pos:Pos}
theorem af:PA X [] Ej:=λ_ _ _ _ H Q I h=>qZ ⟨[],H,I,.nil,h⟩
theorem ae(ha:PE X e te)(hr:PA X es t)(hs:starEach (e::es) X.env=(false,eval e X.env)::starEach es X.env:=by rfl):PA X (e::es) (Dc te t):=by
 intro pos pins s σ H Q I h;rw[hs]
 show wpAny _ _ (spliced ((false,eval e X.env)::backTo pos (starEach es X.env))) _ _ s
 refine qM (aI (ha pins s σ H _ I h) λu s1 ⟨x,H1,I1,r1,q1⟩=>?_);exact aI (hr pos pins s1 σ H1 _ I1 q1) λus s2 ⟨xs,H2,I2,r2,q2⟩=>⟨x::xs,H2,I2,.cons r1 r2,q2⟩
def zC5(t:TA):TE:=λσ H Q=>t σ H λxs H1=>xs.length<=sizeLine /\ ∀p,H1 p=none->Q (.ref p) (upd H1 p (.tup xs))
def zC1(t:TA):TE:=λσ H Q=>t σ H λxs H1=>xs.length<=sizeLine /\ ∀p,H1 p=none->Q (.ref p) (upd H1 p (.lst xs))
theorem zBn{x1}(h:PA X es t):PE X (.Tuple es x1 pos) (zC5 t):=by
 intro pins s σ H Q I hq;refine wpAny_Tuple_spliced (aI (h pos pins s σ H _ I hq) λus s1 ⟨xs,H1,I1,r,z,q⟩=>⟨by rw[<- r.length];exact z,?_⟩);have hf:H1 s1.heap.objs.size=none:=I1.aG.fresh (wg _);refine⟨.ref s1.heap.objs.size,upd H1 s1.heap.objs.size (.tup xs),I1.laid (t':=s1.toks) (λb u e=>wf _ e) (wg _) ?_,rfl,q _ hf⟩;exact⟨z,us,r,⟨_,wB _ rfl,rfl,_,rfl⟩⟩
theorem zA1(h:PA X es t):PE X (.List es pos) (zC1 t):=by
 intro pins s σ H Q I hq;refine wpAny_List_spliced (aI (h pos pins s σ H _ I hq) λus s1 ⟨xs,H1,I1,r,z,q⟩=>⟨by rw[<- r.length];exact z,?_⟩);have hf:H1 s1.heap.objs.size=none:=I1.aG.fresh (wg _);refine⟨.ref s1.heap.objs.size,upd H1 s1.heap.objs.size (.lst xs),I1.laid (t':=s1.toks) (λb u e=>wf _ e) (wg _) ?_,rfl,q _ hf⟩;exact⟨z,us,0,r,wB _ rfl⟩
end
abbrev Sp:=List V->Hp->VK->XK->Prop
abbrev fv:=List Env->Hp->Shared->XK->Value->Shared->Prop
structure oN(P:Program)(w:World)(K:wb)(mg:Str->Option Value)(base:Heap)(A:Around)(outer:List Env)(s:Shared)(H:Hp):Prop where
 frames:A.frames=some outer
 mod:Mod K mg base
 bs:∀b o,base.get? b=some o->s.heap.get? b=some o/\H b=none
 hZ:base.objs.size<=s.heap.objs.size
 eG:s.heap.FunFrames base outer
 je:∀b∈dy outer,H b=none
 aG:cT P w H s.heap
 bare:AllBare s.gens
def CE(outer:List Env)(P:Program)(w:World)(H:Hp)(s:Shared)(Q:VK)(u:Value)(s':Shared):Prop :=
 ∃v H',s'.os=s.os/\AllBare s'.gens/\Un (dy outer) [] H H' s.heap s'.heap/\cT P w H' s'.heap/\aW v u/\Q v H'
def CR(CX:fv)(outer:List Env)(P:Program)(w:World)(H:Hp)(s:Shared)(Q:VK)(E:XK)(r:Result)(s':Shared):Prop :=
 match r with
 | .ok (.ret u)=>CE outer P w H s Q u s'
 | .ok _=>False
 | .error e=>CX outer H s E e s'
structure aJ(P:Program)(w:World)(K:wb)(mg:Str->Option Value)(base:Heap)(CX:fv)(k:Nat)(f:Addr)(fd:FuncData)(ps:List Str)(sp:Sp):Prop where
 len:∀vs H Q E,sp vs H Q E->vs.length=ps.length
 run:∀(A:Around)(outer:List Env)(s:Shared)(H:Hp)(args:Args)(us:List Value)(vs:List V)(Q:VK)(E:XK),dJ k A->oN P w K mg base A outer s H->BindsTo s fd args (ps.zip us)->aM vs us->sp vs H Q E ->
   codeAny (model P w) A (.call (.ref f) args) (CR CX outer P w H s Q E) s
section
variable{X:Cx}{pins:List (Addr × Obj)}{σ : St}{H:Hp}{s s':Shared}
theorem Inv.HE(I:Inv X pins σ H s):oN X.prog X.w X.K X.mg X.base X.A X.stack s H :=
 ⟨I.ok.frames,I.ok.mod,I.bs,vA I.ok.hZ I.sz,I.stack,I.rf,I.aG,I.bare⟩
theorem Inv.after{Q:VK}{u:Value}(I:Inv X pins σ H s)(h:CE X.stack X.prog X.w H s Q u s'):EP X pins σ Q u s':=by
 obtain⟨v,H',os,bare,un,aG,r,q⟩:=h;obtain⟨hh,g,d,t,os'⟩:=s';obtain rfl:os'=s.os:=os;exact⟨v,H',I.call (h':=hh) (g':=g) (d':=d) (t':=t) (ch:=[]) un aG bare (λb z=>absurd z (by simp)),r,q⟩
end
def nU(sp:Sp)(dvs:List V)(E:XK)(t:TA):TE:=λσ H Q=>t σ H λvs H1=>sp (vs++dvs) H1 Q E
def lu(K:wb)(fd:FuncData)(ps:List Str)(ds:List Value):Prop :=
 ∀(s:Shared)(us:List Value),K.In s.heap->(us++ds).length=ps.length->BindsTo s fd ⟨us,[]⟩ (ps.zip (us++ds))
theorem lu.all{K:wb}{fd:FuncData}{ps:List Str}(h:∀us:List Value,us.length=ps.length->bindArgs fd ⟨us,[]⟩=pure (ps.zip us)):lu K fd ps []:=λs us _ hl=>by
 rw[vH]at hl ⊢;exact .of_eq (h us hl)
def mQ(CX:fv)(X:Cx)(E:XK):Prop:=∀(pins:List (Addr × Obj))(σ : St)(H:Hp)(s:Shared)(e:Value)(s':Shared),Inv X pins σ H s->CX X.stack H s E e s'->X.xe e s'
section
variable{X:Cx}{CX:fv}{k:Nat}{f C:Addr}{fd:FuncData}{ps:List Str}{sp:Sp}{dvs:List V}{ds:List Value}{E:XK}{x m:Str}{p pos apos:Pos}{e o:Expr}{es:List Expr}{ta:TE}{t:TA}
theorem ZT{pins:List (Addr × Obj)}{σ : St}{H:Hp}{s:Shared}{Q:VK}{us:List Value}{vs:List V}(F:aJ X.prog X.w X.K X.mg X.base CX k f fd ps sp)(hr:dJ k X.A)(hb:lu X.K fd ps ds)(hd:aM dvs ds)(hx:mQ CX X E)
   (I:Inv X pins σ H s) (r:aM vs us) (h:sp (vs++dvs) H Q E):wpAny (model X.prog X.w) X.A (call (.ref f) us) (EP X pins σ Q) X.xe s:=by
 have r2:aM (vs++dvs) (us++ds):=r.append hd;have hl:(us++ds).length=ps.length:=by rw[<- r2.length];exact F.len _ _ _ _ h
 refine wpAny_call (codeAny_mono (F.run X.A X.stack s H ⟨us,[]⟩ (us++ds) (vs++dvs) Q E hr I.HE (hb s us I.dk hl) r2 h) λr s' hq=>?_);cases r with
 | error e=>exact hx pins σ H s e s' I hq
 | ok fl =>
   cases fl with
   | ret u=>exact I.after hq
   | next=>exact Wp hq
   | brk=>exact Wp hq
   | cont=>exact Wp hq
theorem Ro(F:aJ X.prog X.w X.K X.mg X.base CX k f fd ps sp)(hr:dJ k X.A)(hg:Gl X x)(hm:X.mg x=some (.ref f))(hk:Vg X.K (.ref f)=true)(hb:lu X.K fd ps ds)(hd:aM dvs ds)(hx:mQ CX X E)
  (ha:PA X (e::es) t) (hdb:(x == ("__debug__" : Str))=false:=by decide) (he:starEach (e::es) X.env=(false,eval e X.env)::starEach es X.env:=by rfl) (hpl:(backTo pos (starEach es X.env)).any (·.1)=false:=by rfl) :
  PE X (.Call (.Name x p) (e::es) [] pos) (nU sp dvs E t):=by
 intro pins s σ H Q I h;refine wpAny_Call_Name_kw (og I hg hm ?_ hdb);refine xy (h₀:=X.base) I.ok.mod.pP hk (aI (ha pos pins s σ H _ I h) λus s1 ⟨vs,H1,I1,r,q⟩=>⟨I1.dk,?_⟩) he hpl;exact ZT F hr hb hd hx I1 r q
structure Mk(K:wb)(C f:Addr):Prop where
 makes:PySem.W.makesIn K C=true
 init:WJ K (.ref C) "__init__"=some (some (.ref f))
 fn:ur K (.ref f)=true
 kp:Vg K (.ref C)=true
end
section
variable{X:Cx}{CX:fv}{k:Nat}{f C:Addr}{fd:FuncData}{ps ks:List Str}{sp:Sp}{E:XK}{x m:Str}{p pos apos kpos:Pos}{e o:Expr}{es:List Expr}{kws:List Keyword}{te ta:TE}{t tk:TA}{nm:Option Str}
structure zC2(K:wb)(fd:FuncData)(ps ks:List Str)(g:List Value->List Value->List Value)(gV:List V->List V->List V):Prop where
 to:∀(s:Shared)(us ws:List Value),K.In s.heap->(g us ws).length=ps.length->BindsTo s fd ⟨us,ks.zip ws⟩ (ps.zip (g us ws))
 rel:∀{vs:List V}{us:List Value}{zs:List V}{ws:List Value},aM vs us->aM zs ws->aM (gV vs zs) (g us ws)
variable{g:List Value->List Value->List Value}{gV:List V->List V->List V}
end
structure aU(N P:List Str)(sc:Scope):Prop where
 kind:sc.kind=.function
 co:sc.isCoroutine=false
 gen:sc.isGenerator=false
 nd:N.Nodup
 pre:N.take P.length=P
 par:∀x∈P,sc.names.lookup x=some .local\/sc.names.lookup x=some .cell
 RV:∀y∈sc.names,y.2≠.free
theorem Ku{kindOf:Str->Option NameKind}{x:Str} : ∀{binds:List (Str × Value)}{m:Str->Option Value},(∀v,(x,v) ∉ binds)->bindL kindOf binds m x=m x
 | [],_,_=>rfl
 | (n,v)::r,m,h=>by
  unfold bindL;rw[Ku λw hw=>h w (wo _ hw)]
  split
  ·have:x≠n:=by rintro rfl;exact h v wu
   simp[this]
  ·rfl
theorem PN{kindOf:Str->Option NameKind}{x:Str} : ∀{binds:List (Str × Value)}{m:Str->Option Value},(∀v,(x,v) ∉ binds)->bindC kindOf binds m x=m x
 | [],_,_=>rfl
 | (n,v)::r,m,h=>by
  unfold bindC;rw[PN λw hw=>h w (wo _ hw)]
  split
  ·rfl
  ·have:x≠n:=by rintro rfl;exact h v wu
   simp[this]
theorem Pn{kindOf:Str->Option NameKind}{x:Str}{v:Value} : ∀{P:List Str}{vs:List Value}{i:Nat}{m:Str->Option Value},P.Nodup->P[i]? = some x->vs[i]? = some v->kindOf x=some .local ->
   bindL kindOf (P.zip vs) m x=some v
 | [],_,_,_,_,h,_,_=>by simp at h
 | _::_,[],_,_,_,_,h,_=>by simp at h
 | p::P,w::vs,0,m,nd,h1,h2,hk=>by
   simp at h1 h2;subst h1;subst h2
   show bindL kindOf ((p,w)::P.zip vs) m p=_
   unfold bindL;rw[Ku λv hv=>(Wi.mp nd).1 (Qw hv).1,if_pos hk];simp
 | p::P,w::vs,i+1,m,nd,h1,h2,hk=>by
   show bindL kindOf ((p,w)::P.zip vs) m x=_
   unfold bindL;exact Pn (i:=i) (Wi.mp nd).2 (by simpa using h1) (by simpa using h2) hk
theorem Px{kindOf:Str->Option NameKind}{x:Str}{v:Value} : ∀{P:List Str}{vs:List Value}{i:Nat}{m:Str->Option Value},P.Nodup->P[i]? = some x->vs[i]? = some v->kindOf x≠some .local ->
   bindC kindOf (P.zip vs) m x=some v
 | [],_,_,_,_,h,_,_=>by simp at h
 | _::_,[],_,_,_,_,h,_=>by simp at h
 | p::P,w::vs,0,m,nd,h1,h2,hk=>by
   simp at h1 h2;subst h1;subst h2
   show bindC kindOf ((p,w)::P.zip vs) m p=_
   unfold bindC;rw[PN λv hv=>(Wi.mp nd).1 (Qw hv).1,if_neg hk];simp
 | p::P,w::vs,i+1,m,nd,h1,h2,hk=>by
   show bindC kindOf ((p,w)::P.zip vs) m x=_
   unfold bindC;exact Px (i:=i) (Wi.mp nd).2 (by simpa using h1) (by simpa using h2) hk
def start(N:List Str)(vs:List V):St:=vs.map some++wQ (N.length-vs.length) none
def iQ(CX:fv)(P:Program)(w:World)(K:wb)(mg:Str->Option Value)(base:Heap)(N:List Str)(qual:Str)(scope:Scope)(f:Addr)(cd:Value)(A:Around)(outer:List Env)(s:Shared)(H:Hp)(E:XK):Cx where
 prog:=P
 w:=w
 K:=K
 mg:=mg
 base:=base
 A:=A.deeper (envOfC qual scope s.heap.objs.size f cd)
 N:=N
 s₀:=s
 H₀:=H
 env:=envOfC qual scope s.heap.objs.size f cd
 outer:=outer
 stack:=envOfC qual scope s.heap.objs.size f cd::outer
 ex:=[]
 calm:=true
 fn:=λ_=>true
 pn:=[]
 xe:=λe s'=>wpAny (model P w) (A.deeper (envOfC qual scope s.heap.objs.size f cd)) (leaving (envOfC qual scope s.heap.objs.size f cd) e) (λ_ s''=>CX outer H s E e s'') (λe' s''=>CX outer H s E e' s'') s'
theorem BG{sc:Scope}{n:Nat}{x:Str}(h:sc.names.lookup x=some .cell):∃c,(cellsFrom n sc.names []).lookup x=some c:=by
 have q:=QI sc.names n [] (.inl h);exact Option.isSome_iff_exists.mp q
theorem zuY{CX:fv}{P:Program}{w:World}{K:wb}{mg:Str->Option Value}{base:Heap}{N ps:List Str}{qual:Str}{scope:Scope}{f:Addr}{cd:Value}{A:Around}{outer:List Env}{s s1:Shared}{H:Hp}{E:XK}{us:List Value}{vs:List V}
   (S:aU N ps scope) (hd:A.handled=none) (e0:oN P w K mg base A outer s H) (hl:vs.length=ps.length) (r:aM vs us)
   (x:InCallC s s.heap.objs.size (bindL (envOfC qual scope s.heap.objs.size f cd).kindOf (ps.zip us) λ_=>none) (cellsFrom (s.heap.objs.size+1) scope.names []) (bindC (envOfC qual scope s.heap.objs.size f cd).kindOf (ps.zip us) λ_=>none) s1) :
   Inv (iQ CX P w K mg base N qual scope f cd A outer s H E) [] (start N vs) H s1:=by
 have hpl:ps.length<=N.length:=by have:=congrArg List.length S.pre;rw[vP]at this;omega
 obtain⟨h1,tk,rfl,hk⟩:=x.done;have noA:∀b:Addr,b ∉ (iQ CX P w K mg base N qual scope f cd A outer s H E).ex:=λb z=>absurd (show b∈([]:List Addr)from z) (by simp)
 refine⟨⟨e0.mod,S.kind,rfl,rfl,wg _,λy z c h1 h2=>?_,λy hy=>?_,λy c _ h=>?_,λ_=>hd,Around.frames_deeper e0.frames,.inr ⟨rfl,rfl⟩,λb z=>absurd z (noA b),e0.bs,e0.hZ,λb _ _=>noA b,λb z=>absurd z (noA b),e0.eG,e0.je⟩,
   rfl,e0.bare,Un.kept hk,⟨_,x.toInCall.ns,λi y v h1 h2 h3=>?_⟩,λy c h=>⟨_,x.cell y c h⟩,e0.aG.fresh (wg _),λy c h=>?_,λp hp=>absurd (show p∈([]:List (Addr × Obj))from hp) (by simp),e0.aG.kept hk,?_⟩
 . exact name_of_addr x.apart (WI h1) (WI h2)
 . have hy:scope.names.lookup y=some .cell\/scope.names.lookup y=some .free:=hy
   rcases hy with hy | hy
   . exact BG hy
   . exact absurd rfl (S.RV _ (WI hy))
 . exact WC (x.above y c (WI h))
 . have hi:i<vs.length:=by
     unfold start at h2
     by_cases hi:i<vs.length
     . exact hi
     . rw[wW (by simpa using hi)]at h2
       rw[Qr]at h2
       split at h2<;>cases h2
   have ha:vs[i]? = some v:=by
     unfold start at h2;rw[vo (by simpa using hi),wn]at h2;cases e:vs[i]? with
     | none=>rw[e]at h2;cases h2
     | some a=>rw[e]at h2;cases h2;rfl
   obtain⟨u,hu,rv⟩:=r.get ha
   have hp:ps[i]? = some y:=by
     rw[<- S.pre,Qj (by omega)];exact h1
   have ndP:ps.Nodup:=by rw[<- S.pre];exact S.nd.sublist (xM _ _)
   refine⟨u,rv,?_⟩;rcases S.par y (Q7 hp)with k | k
   . exact .inl ⟨k,Pn ndP hp hu k⟩
   . obtain⟨c,e⟩:=BG (n:=s.heap.objs.size+1) k
     refine .inr ⟨.inl k,c,e,?_⟩;have q:=x.cell y c e;rw[Px ndP hp hu (by show scope.names.lookup y≠_;rw[k];decide)]at q;exact q
 . exact e0.aG.fresh (WC (x.above y c (WI h)))
 . unfold start
   show _=N.length
   rw[wH,we,vT];omega
theorem Ie{CX:fv}{P:Program}{w:World}{K:wb}{mg:Str->Option Value}{base:Heap}{k:Nat}{f:Addr}{name qual:Str}{params:Arguments}{body:List Stmt}{scope:Scope}{dV kV doc pm cdv ct oc:Value}{an od:Option Addr}
   {osl:Array (Option Value)} {N ps:List Str} {sp:Sp} (lk:K.lookup f=some ⟨oc,od,.func (Vi name qual params body scope dV kV doc pm an cdv ct),osl⟩) (hcd:qC K cdv qual=true) (S:aU N ps scope)
   (len:∀vs H Q E,sp vs H Q E->vs.length=ps.length)
   (hbody:∀(A:Around)(outer:List Env)(s:Shared)(H:Hp)(vs:List V)(Q:VK)(E:XK),dJ k (A.deeper (envOfC qual scope s.heap.objs.size f cdv))->sp vs H Q E ->
     ∃t,eW (iQ CX P w K mg base N qual scope f cdv A outer s H E) body t/\t {nx:=λ_ H'=>Q .bj H',rt:=Q} (start N vs) H) :
   aJ P w K mg base CX (k+1) f (Vi name qual params body scope dV kV doc pm an cdv ct) ps sp:=by
 refine⟨len,λA outer s H args us vs Q E hr e0 hb r hsp=>?_⟩;have hl:=len _ _ _ _ hsp;have KX:K.In s.heap:=e0.mod.pP.keeps λb o e=>(e0.bs b o e).1
 have lim:s.heap.NoLimit:=e0.mod.nolimit.keeps λb o e=>(e0.bs b o e).1
 have hkind:∀y∈ps.zip us,scope.names.lookup y.1=some .local\/(scope.names.lookup y.1=some .cell/\((cellsFrom (s.heap.objs.size+1) scope.names []).lookup y.1).isSome=true):=λ⟨n,v⟩ hy=>by
   rcases S.par n (Qw hy).1 with q | q
   . exact .inl q
   . exact .inr ⟨q,QI _ _ _ (.inl q)⟩
 refine codeAny_call_function hr.depth (KX _ _ lk) rfl S.co S.gen rfl (PySem.W.codeRec_of KX hcd) (hb _ _ _ _ ?_);refine wpAny_newFunctionEnv_cells S.kind hkind λenv he s1 x=>?_
 subst he;refine⟨lim.keeps x.toInCall.keep,codeAny_func ?_⟩;obtain⟨t,ht,hq⟩:=hbody A outer s H vs Q E (hr.deeper _) hsp;have I:Inv (iQ CX P w K mg base N qual scope f cdv A outer s H E) [] (start N vs) H s1:=zuY S hr.hd e0 hl r x;refine wpAny_mono (ht [] s1 (start N vs) H _ I hq) (λfl s' hs=>?_) λe s' hs=>hs
 have fin:∀{σ':St}{H':Hp}{v:V}{u:Value},Inv (iQ CX P w K mg base N qual scope f cdv A outer s H E) [] σ' H' s'->aW v u->Q v H'->CE outer P w H s Q u s' :=
   λ{σ' H' v u} J rv q=>⟨v,H',J.os,J.bare,J.base,J.aG,rv,q⟩
 cases fl with
 | ret u =>
   obtain⟨v,σ',H',J,rv,q⟩:=hs;exact fin J rv q
 | next =>
   obtain⟨σ',H',J,q⟩:=hs;exact fin (v:=V.bj) (u:=Value.none) J rfl q
 | brk =>
   obtain⟨_,_,_,q⟩:=hs;exact Wp q
 | cont =>
   obtain⟨_,_,_,q⟩:=hs;exact Wp q
section
variable{X:Cx}{x:Str}{p pos:Pos}{e:Expr}{es:List Expr}{t:TA}{id T:String}{r:List V->Hp->VK->Prop}
def CZ(r:List V->Hp->VK->Prop)(t:TA):TE:=λσ H Q=>t σ H λvs H1=>r vs H1 Q
theorem bQ(hc:aO X (.builtin id) r)(hg:Gl X x)(hm:X.mg x=none)(hv:bootBuiltins x=some (.builtin id))(ha:PA X (e::es) t)(hn:x≠"__name__":=by decide)(hdb:(x == ("__debug__" : Str))=false:=by decide)
  (he:starEach (e::es) X.env=(false,eval e X.env)::starEach es X.env:=by rfl) (hpl:(backTo pos (starEach es X.env)).any (·.1)=false:=by rfl):PE X (.Call (.Name x p) (e::es) [] pos) (CZ r t):=by
 intro pins s σ H Q I h;refine wpAny_Call_Name_kw (fZ I hg hm hv ?_ hn hdb);exact PyProof.Rows.callWith_builtin1 (aI (ha pos pins s σ H _ I h) λus s1 ⟨vs,H1,I1,r1,q1⟩=>hc pins s1 σ H1 vs us Q I1 r1 q1) he hpl
theorem dM(hc:aO X (.type T) r)(hg:Gl X x)(hm:X.mg x=none)(hv:bootBuiltins x=some (.type T))(ha:PA X (e::es) t)(hn:x≠"__name__":=by decide)(hdb:(x == ("__debug__" : Str))=false:=by decide)
  (he:starEach (e::es) X.env=(false,eval e X.env)::starEach es X.env:=by rfl) (hpl:(backTo pos (starEach es X.env)).any (·.1)=false:=by rfl):PE X (.Call (.Name x p) (e::es) [] pos) (CZ r t):=by
 intro pins s σ H Q I h;refine wpAny_Call_Name_kw (fZ I hg hm hv ?_ hn hdb);exact wX (aI (ha pos pins s σ H _ I h) λus s1 ⟨vs,H1,I1,r1,q1⟩=>hc pins s1 σ H1 vs us Q I1 r1 q1) he hpl
end
section
variable{κ : Type}[DecidableEq κ]
end
abbrev KT(H:Hp):List (List Key × V)->List (List Key × Addr × Value)->Prop:=Paired λp q=>p.1=q.1/\H q.2.1=some (.tup (p.1.map kV))/\aW p.2 q.2.2
section
variable{P:Program}{w:World}{H:Hp}{h:Heap}{a:Addr}
end
section
variable{X:Cx}{pins:List (Addr × Obj)}{σ : St}{H:Hp}{s:Shared}{a:Addr}{y v:V}{u r:Value}{o:Option V}{A:Around}{E:Value->Shared->Prop}
theorem Inv.big(I:Inv X pins σ H s):sysModules<s.heap.objs.size:=by
 have h:mainGlobals<s.heap.objs.size:=(I.mod.glob.keeps I.bk).lt;exact xz (by decide) h
end
section
variable{X:Cx}{pins:List (Addr × Obj)}{σ : St}{H:Hp}{s:Shared}{a:Addr}{kvs:List (Key × V)}{k:Key}{u:Value}{A:Around}{E:Value->Shared->Prop}
end
def Mw(i:Expr):Prop:=∀ov iv,subscripted i false ov iv=operate [ov,iv] (getItem ov iv)
theorem zym{prog:Program}{w:World}{A:Around}{E:Value->Shared->Prop}{s:Shared}{env:Env}{value slice:Expr}{pos:Pos}{T id:String}{Q:Value->Shared->Prop}
   (hl:typeLookup (.type T) "__getitem__"=pure (some (.builtin id))) (hs:Mw slice)
   (h:wpAny (model prog w) A (eval value env) (λo s₁=>wpAny (model prog w) A (eval slice env) (λi s₂=>s₂.TypeIs o T/\wpAny (model prog w) A (getItem o i) Q E s₂) E s₁) E s) :
   wpAny (model prog w) A (eval (.Subscript value slice pos) env) Q E s:=by
 refine Subscript_ (wpAny_mono h (λo s₁ h₁=>wpAny_mono h₁ (λi s₂ h₂=>?_) λ_ _ x=>x) λ_ _ x=>x);obtain⟨hT,h₂⟩:=h₂;unfold subscriptTail;refine wpAny_bind ?_;rw[getitemInPython_of_ne hT.not_modules];refine wpAny_bind (wpAny_specialOf hT hl ?_)
 have fin:wpAny (model prog w) A (subscripted slice false o i) (λr s₃=>wpAny (model prog w) A (letTemporaryGo value o r >>= λ_=>pure r) Q E s₃) E s₂:=by
   rw[hs o i];exact wpAny_operating (wpAny_mono h₂ (λr s₃ h₃=>wpAny_bind (wpAny_letTemporaryGo (wpAny_pure h₃))) λ_ _ x=>x)
 first
   | exact wpAny_pure (wpAny_bind fin)
   | exact wpAny_bind (wpAny_pure (wpAny_bind fin))
   | exact wpAny_bind fin
section
variable{X:Cx}{o i e value:Expr}{pos pos' tpos:Pos}{td ty tv:TE}
end
section
variable{X:Cx}{pos:Pos}
end
abbrev VV:List (V × V)->List (Value × Value)->Prop:=Paired λp q=>aW p.1 q.1/\aW p.2 q.2
structure M1(X:Cx)(o:Expr)(m:Str)(apos:Pos)(e:Expr)(cpos:Pos):Prop where
 base:attributeBase o m X.env (eval o X.env)=eval o X.env
 bX:((backTo cpos (starEach [e] X.env)).all (λx=>!x.1)&&(backToKw cpos (keywordEach [] X.env)).all (λx=>x.1.isSome)
   && decide (([e]:List Expr).length+([]:List Keyword).length+(if([]:List Keyword).isEmpty then 0 else 1)<30))=true
 line:(apos.endLine == cpos.line)=true
 trees:backTo cpos (starEach [e] X.env)=[(false,eval e X.env)]
structure M2(X:Cx)(o:Expr)(m:Str)(apos:Pos)(e f:Expr)(cpos:Pos):Prop where
 base:attributeBase o m X.env (eval o X.env)=eval o X.env
 bX:((backTo cpos (starEach [e,f] X.env)).all (λx=>!x.1)&&(backToKw cpos (keywordEach [] X.env)).all (λx=>x.1.isSome)
   && decide (([e,f]:List Expr).length+([]:List Keyword).length+(if([]:List Keyword).isEmpty then 0 else 1)<30))=true
 line:(apos.endLine == cpos.line)=true
 trees:backTo cpos (starEach [e,f] X.env)=[(false,eval e X.env),(false,eval f X.env)]
section
variable{X:Cx}{pins:List (Addr × Obj)}{σ : St}{H:Hp}{s:Shared}{a:Addr}{y d:V}{u r:Value}{o:Option V}{A:Around}{E:Value->Shared->Prop}
end
section
variable{X:Cx}{o e f:Expr}{apos cpos:Pos}{td ty tx:TE}
end
section
variable{X:Cx}{pins:List (Addr × Obj)}{σ : St}{H:Hp}{s:Shared}{a:Addr}{kvs:List (Key × V)}{A:Around}{E:Value->Shared->Prop}
end
section
variable{X:Cx}{pins:List (Addr × Obj)}{σ : St}{H:Hp}{s:Shared}{a:Addr}{y:V}{u:Value}{A:Around}{E:Value->Shared->Prop}
end
end L2
namespace HT
open PySem PyProof.Rows
section
open PySem.SeqAt
open PySem.AutoSeq1 (wpAny_loadPart')
open PySem.MeetsSeq PySem.MeetsSeq2 PySem.MeetsSeq3
end
section
variable{prog:Program}{w:World}{A:Around}{E:Value->Shared->Prop}{s:Shared}
theorem RS{t b:Addr}{vs ws:List Value}{Q:Value->Shared->Prop}(ht:IsTup s.heap t vs.toArray)(hb:IsTup s.heap b ws.toArray)(hv:vs≠[])
   (h1:ws=[]->Q (.ref t) s) (h2:ws≠[]->Q (.ref s.heap.objs.size) {s with heap:=s.heap.push {cls:=.type "tuple",data:=.seq (vs++ws).toArray}})
   (hsz:vs.length+ws.length<=sizeLine):wpAny (model prog w) A (binaryOp .Add (.ref t) (.ref b)) Q E s:=by
 obtain⟨⟨cls,dd,data,sl⟩,ho,hc,n,hd⟩:=id ht;obtain⟨⟨cls2,dd2,data2,sl2⟩,ho2,hc2,n2,hd2⟩:=id hb;simp only at hc hd hc2 hd2;subst hc hd hc2 hd2;have e:vs.toArray++ws.toArray=(vs++ws).toArray:=by simp
 by_cases hw:ws=[]
 . exact concat_meets ⟨_,ho,rfl⟩ ⟨_,ho2,rfl⟩ noFill_tuple_add seq_tuple_add qj qd (VZ _ _)
     (tuple_addW1 t b vs.toArray ws.toArray n n2 dd dd2 sl sl2 (by simpa using hv) (by simp[hw])) ⟨ho,ho2,h1 hw⟩
 . refine concat_meets ⟨_,ho,rfl⟩ ⟨_,ho2,rfl⟩ noFill_tuple_add seq_tuple_add qj qd (VZ _ _)
     (tuple_addW2 t b vs.toArray ws.toArray n n2 dd dd2 sl sl2 (by simpa using hv) (by simpa using hw) (by rw[wC,wC];exact hsz)) ⟨ho,ho2,?_⟩
   rw[e];exact h2 hw
def aX(n d:Nat):Option Int->Nat
 | none=>d
 | some v=>if v<0 then(v+(n:Int)).toNat else min v.toNat n
theorem RM(n d:Nat):aX n d none=d:=rfl
theorem RP(n d k:Nat):aX n d (some (k:Int))=min k n:=by
 show(if(k:Int)<0 then((k:Int)+(n:Int)).toNat else min (k:Int).toNat n)=min k n
 rw[if_neg (by omega),wE]
theorem zAH(n d:Nat)(hd:d<=n)(o:Option Int):aX n d o<=n:=by
 cases o with
 | none=>exact hd
 | some v =>
  show(if v<0 then(v+(n:Int)).toNat else min v.toNat n)<=n
  by_cases hv:v<0
  ·rw[if_pos hv];omega
  ·rw[if_neg hv];exact Xi _ _
theorem NW(v:Int)(n d:Nat):(if v<0 then max (v+(n:Int)) 0 else min v (n:Int))=((aX n d (some v):Nat):Int):=by
 show(if v<0 then max (v+(n:Int)) 0 else min v (n:Int))=(((if v<0 then(v+(n:Int)).toNat else min v.toNat n):Nat):Int)
 by_cases hv:v<0
 ·simp only[if_pos hv];omega
 ·simp only[if_neg hv];omega
theorem zsX(lo hi:Option Int)(n:Nat):VT lo hi 1 (n:Int)=(((aX n 0 lo:Nat):Int),((aX n n hi:Nat):Int)):=by
 have h1:¬ ((1:Int)<0):=by omega
 unfold VT;simp only[h1,if_false];refine qm ?_ ?_
 ·cases lo with
  | none=>rfl
  | some v=>exact NW v n 0
 ·cases hi with
  | none=>rfl
  | some v=>exact NW v n n
theorem zsF(i j:Nat):Vc (i:Int) (j:Int) 1=j-i:=by
 unfold Vc;have h1:(1:Int) > 0:=by omega
 simp only[h1,if_true,Int.ediv_one]
 split<;>omega
theorem Rc{v:Value}{o:Option Int}{Q:Option Int->Shared->Prop}(p:IsPart v o)(h:Q o s):wpAny (model prog w) A (XZ v) Q E s:=by
 cases p with
 | none=>exact slicePart_none h
 | int i t=>exact slicePart_int h
theorem TR{sl:Addr}{vl vu:Value}{lo hi:Option Int}{n:Nat}{Q:Int × Int × Nat->Shared->Prop}(hs:s.heap.IsSliceOf sl vl vu .none)(pl:IsPart vl lo)(pu:IsPart vu hi)
   (h:Q (((aX n 0 lo:Nat):Int),1,aX n n hi-aX n 0 lo) s):wpAny (model prog w) A (qR (.ref sl) (pure (n:Int))) Q E s:=by
 obtain⟨os,hos,hcs,hds⟩:=id hs;unfold qR uj;refine wpAny_bind (wpAny_bind (wpAny_field hos hds (x:=vl) rfl (wpAny_bind (wpAny_field hos hds (x:=vu) rfl (wpAny_bind (wpAny_field hos hds (x:=.none) rfl (wpAny_pure ?_)))))));refine wpAny_bind (slicePart_none ?_)
 show wpAny _ _ (if((1:Int) == 0)=true then _ else _) _ _ s
 rw[if_neg (by decide)];refine wpAny_bind (Rc pl (wpAny_bind (Rc pu (wpAny_bind (wpAny_pure ?_)))))
 show wpAny _ _ (match VT lo hi 1 (n:Int)with | (lo,hi)=>pure (lo,(1:Int),Vc lo hi 1)) _ _ s
 rw[zsX lo hi n]
 show wpAny _ _ (pure (((aX n 0 lo:Nat):Int),(1:Int),Vc ((aX n 0 lo:Nat):Int) ((aX n n hi:Nat):Int) 1)) _ _ s
 rw[zsF];exact wpAny_pure h
theorem zwu(xs:Array Value)(i k:Nat):((wl k).filterMap λ(m:Nat)=>xs[((i:Int)+(m:Int)*1).toNat]?).toArray=((xs.toList.drop i).take k).toArray:=by
 have e:(λ(m:Nat)=>xs[((i:Int)+(m:Int)*1).toNat]?)=λm=>xs[i+m]?:=by
  funext m
  have:((i:Int)+(m:Int)*1).toNat=i+m:=by omega
  rw[this]
 rw[e];have:=pick_run xs i k;rw[List.filterMap_map]at this;have e2:((λx=>xs[x]?) ∘ λx=>i+x)=λm=>xs[i+m]?:=rfl
 rw[e2]at this;rw[this]
theorem Rw{t sl:Addr}{items:Array Value}{vl vu:Value}{lo hi:Option Int}{Q:Value->Shared->Prop}(ht:IsTup s.heap t items)(hs:s.heap.IsSliceOf sl vl vu .none)(pl:IsPart vl lo)(pu:IsPart vu hi)
   (hw:¬ (aX items.size 0 lo=0/\aX items.size items.size hi=items.size))
   (h:Q (.ref s.heap.objs.size) {s with heap:=s.heap.push {cls:=.type "tuple",data:=.seq ((items.toList.drop (aX items.size 0 lo)).take (aX items.size items.size hi-aX items.size 0 lo)).toArray}})
   (hsz:items.size<=sizeLine):wpAny (model prog w) A (getItem (.ref t) (.ref sl)) Q E s:=by
 have htake:sizeOk (.seq ((items.toList.drop (aX items.size 0 lo)).take (aX items.size items.size hi-aX items.size 0 lo)).toArray):=by
   show((items.toList.drop (aX items.size 0 lo)).take (aX items.size items.size hi-aX items.size 0 lo)).toArray.size<=sizeLine
   rw[wC,vP,vy,wy];omega
 have hj:aX items.size items.size hi<=items.size:=zAH _ _ (wg _) hi;obtain⟨os,hos,hcs,hds⟩:=id hs;have hTs:s.TypeIs (.ref sl) "slice":=⟨os,hos,hcs⟩;unfold getItem
 try with_reducible refine wpAny_holding ?_
 first | refine wpAny_bind (wpAny_pure ?_) | skip
 refine wpAny_bind (wpAny_sequenceKey ht.typeIs (by decide) ?_)
 refine wpAny_bind (wpAny_callSpecial?_slot (name:=vj "__getitem__") ht.typeIs Vt
   (wpAny_call_entry Vt ht.typeIs entry_tuple_getitem ?_ (args_tuple_getitem _ _)))
 show wpAny _ _ (qS (.ref t) >>= _) _ _ s
 refine wpAny_bind (tupleItemsOf_ ht ?_);refine wpAny_bind (wpAny_typeOf hTs ?_);rw[if_pos (by decide)];refine wpAny_bind (TR hs pl pu ?_)
 have hno:¬ ((((aX items.size 0 lo:Nat):Int) == 0&&(1:Int) == 1&&(aX items.size items.size hi-aX items.size 0 lo) == items.size)=true):=by
   intro q;rw[wI,wI]at q;have q1:((aX items.size 0 lo:Nat):Int)=0:=eq_of_beq q.1.1;have q2:aX items.size items.size hi-aX items.size 0 lo=items.size:=eq_of_beq q.2;exact hw ⟨by omega,by omega⟩
 show wpAny _ _ (if(((aX items.size 0 lo:Nat):Int) == 0&&(1:Int) == 1&&(aX items.size items.size hi-aX items.size 0 lo) == items.size)=true then _ else _) _ _ s
 rw[if_neg hno,zwu]
 first
   | exact wpAny_bind (m:=Vj _) (wpAny_newObj_type (wpAny_pure ⟨_,rfl,wpAny_pure h⟩) htake)
   | exact wpAny_bind (m:=Vj _) (wpAny_newObj_type (wpAny_bind (wpAny_pure (wpAny_pure ⟨_,rfl,wpAny_pure h⟩))) htake)
   | exact wpAny_bind (wpAny_bind (m:=Vj _) (wpAny_newObj_type (wpAny_pure (wpAny_pure ⟨_,rfl,wpAny_pure h⟩)) htake))
   | exact wpAny_bind (wpAny_bind (m:=Vj _) (wpAny_newObj_type (wpAny_pure ⟨_,rfl,wpAny_pure h⟩) htake))
end
end HT
namespace L2
open PySem PySem.Spec PyProof.Rows
abbrev TO:=St->Hp->(Option Int->Hp->Prop)->Prop
def PO(X:Cx)(e:Option Expr)(t:TO):Prop :=
 ∀(pins:List (Addr × Obj))(s:Shared)(σ : St)(H:Hp)(Q:Option Int->Hp->Prop),Inv X pins σ H s->t σ H Q ->
  wpAny (model X.prog X.w) X.A (evalPart e X.env) (λu s'=>∃o H',Inv X pins σ H' s'/\IsPart u o/\Q o H') X.xe s
def Mj:TO:=λ_ H Q=>Q none H
def Nu(t:TE):TO:=λσ H Q=>t σ H λx H1=>∃i,x=.int i/\Q (some i) H1
theorem yJ{ns:List Int} : ∀{us:List Value},aM (ns.map V.int) us->IntsAre us ns:=by
 induction ns with
 | nil=>intro us r;rw[Qk]at r;cases r;exact .nil
 | cons n ns ih =>
  intro us r;rw[wM]at r;cases r with
  | cons r1 r2 =>
   obtain⟨t,e⟩:=r1;subst e;exact .cons n t (ih r2)
section
variable{X:Cx}{e:Expr}{te:TE}{lo hi:Option Expr}{tl th:TO}{pos p2:Pos}
theorem nN:PO X none Mj:=by
 intro pins s σ H Q I h;rw[evalPart_none];exact wpAny_pure ⟨none,H,I,.none,h⟩
theorem pb(h:PE X e te):PO X (some e) (Nu te):=by
 intro pins s σ H Q I hw;rw[evalPart_some];refine aI (h pins s σ H _ I hw) λu s1 ⟨x,H1,I1,r1,q1⟩=>?_
 obtain⟨i,rfl,q⟩:=q1;obtain⟨t,rfl⟩:=r1;exact⟨some i,H1,I1,.int i t,q⟩
def jZ(X:Cx)(r:V->Option Int->Option Int->Hp->VK->Prop):Prop :=
 ∀(pins:List (Addr × Obj))(s:Shared)(σ : St)(H:Hp)(x:V)(v vl vu:Value)(lo hi:Option Int)(sl:Addr)(Q:VK),Inv X pins σ H s->aW x v->s.heap.IsSliceOf sl vl vu .none->IsPart vl lo->IsPart vu hi->r x lo hi H Q ->
  ∃T id,typeLookup (.type T) "__getitem__"=pure (some (.builtin id))/\s.TypeIs v T/\wpAny (model X.prog X.w) X.A (getItem v (.ref sl)) (EP X pins σ Q) X.xe s
theorem jZ.or{r r':V->Option Int->Option Int->Hp->VK->Prop}(h:jZ X r)(h':jZ X r'):jZ X (λx lo hi H Q=>r x lo hi H Q\/r' x lo hi H Q):=by
 intro pins s σ H x v vl vu lo hi sl Q I rx hs pl pu q;rcases q with q | q
 ·exact h pins s σ H x v vl vu lo hi sl Q I rx hs pl pu q
 ·exact h' pins s σ H x v vl vu lo hi sl Q I rx hs pl pu q
def Ks(r:V->Option Int->Option Int->Hp->VK->Prop)(te:TE)(tl th:TO):TE:=λσ H Q=>te σ H λx H1=>tl σ H1 λl H2=>th σ H2 λu H3=>r x l u H3 Q
theorem oB{r:V->Option Int->Option Int->Hp->VK->Prop}(hr:jZ X r)(he:PE X e te)(hl:PO X lo tl)(hu:PO X hi th):PE X (.Subscript e (.Slice lo hi none p2) pos) (Ks r te tl th):=by
 intro pins s σ H Q I h;refine Subscript_ (aI (he pins s σ H _ I h) λv s1 ⟨x,H1,I1,r1,q1⟩=>?_);refine wpAny_Slice (aI (hl pins s1 σ H1 _ I1 q1) λvl s2 ⟨l,H2,I2,pl,q2⟩=>aI (hu pins s2 σ H2 _ I2 q2) λvu s3 ⟨u,H3,I3,pu,q3⟩=>?_);rw[evalPart_none];refine wpAny_pure ?_;have I4:Inv X pins σ H3 {s3 with heap:=s3.heap.push {cls:=.type "slice",data:=.fields #[vl,vu,.none]}}:=I3.kept (t':=s3.toks) λb ob q=>wf _ q
 obtain⟨T,id,hT,ht,hg⟩:=hr pins {s3 with heap:=s3.heap.push {cls:=.type "slice",data:=.fields #[vl,vu,.none]}} σ H3 x v vl vu l u s3.heap.objs.size Q I4 r1 (uC ..) pl pu q3
 show wpAny (model X.prog X.w) X.A (subscriptTail e (.Slice lo hi none p2) v (.ref s3.heap.objs.size)) (EP X pins σ Q) X.xe {s3 with heap:=s3.heap.push {cls:=.type "slice",data:=.fields #[vl,vu,.none]}}
 exact tail_any (ops:=[.ref s3.heap.objs.size,v]) ht hT hg (by with_unfolding_all rfl)
def jC(xs:List V)(lo hi:Option Int):List V:=(xs.drop (HT.aX xs.length 0 lo)).take (HT.aX xs.length xs.length hi-HT.aX xs.length 0 lo)
theorem Nv(xs:List V)(lo hi:Option Int):(jC xs lo hi).length<=xs.length:=by
 unfold jC;rw[vP,vy];omega
def O9(K:wb):V->Option Int->Option Int->Hp->VK->Prop:=λx lo hi H Q=>∃a xs,x=.ref a/\aR K H a xs /\
 ¬ (HT.aX xs.length 0 lo=0/\HT.aX xs.length xs.length hi=xs.length) /\ ∀p,H p=none->Q (.ref p) (upd H p (.tup (jC xs lo hi)))
theorem SF:jZ X (O9 X.K):=by
 intro pins s σ H x v vl vu lo hi sl Q I rx hs pl pu h;obtain⟨a,xs,rfl,hx,hw,q⟩:=h;cases rx;obtain⟨its,r,ht,hz⟩:=I.tuple hx;have hlen:its.toArray.size=xs.length:=by rw[wC];exact r.length.symm
 refine⟨"tuple",_,Vt.lookup,ht.typeIs,?_⟩;refine HT.Rw ht hs pl pu (by rw[hlen];exact hw) ?_ (by rw[hlen];exact hz);rw[hlen];refine⟨.ref s.heap.objs.size,_,I.laid (t':=s.toks) (o:=.tup (jC xs lo hi)) (λb ob q=>wf _ q) (wg _) ?_,rfl,q _ (I.aG.fresh (wg _))⟩;exact⟨vA (Nv xs lo hi) hz,_,(r.drop (HT.aX xs.length 0 lo)).take (HT.aX xs.length xs.length hi-HT.aX xs.length 0 lo),qp _ _⟩
def Mg(K:wb):R2:=λx y H Q=>∃a b xs ys,x=.ref a/\y=.ref b/\aR K H a xs/\aR K H b ys/\xs≠[]/\xs.length+ys.length<=sizeLine /\
 (ys=[]->Q (.ref a) H)/\(ys≠[]->∀p,H p=none->Q (.ref p) (upd H p (.tup (xs++ys))))
theorem aM.z9{xs:List V}{us:List Value}(r:aM xs us):us=[] ↔ xs=[]:=by
 cases r with
 | nil=>simp
 | cons _ _=>simp
theorem zyZ:aN X (binaryOp .Add) (Mg X.K):=by
 intro pins s σ H x y v u Q I rx ry h;obtain⟨a,b,xs,ys,rfl,rfl,ha,hb,hx,hz,q1,q2⟩:=h;cases rx;cases ry;obtain⟨its,r1,p1,_⟩:=I.tuple ha;obtain⟨its2,r2,p2,_⟩:=I.tuple hb;refine HT.RS p1 p2 (λz=>hx (r1.z9.mp z)) (λz=>⟨.ref a,H,I,rfl,q1 (r2.z9.mp z)⟩) (λz=>?_) (by rw[<- r1.length,<- r2.length];exact hz);refine⟨.ref s.heap.objs.size,_,I.laid (t':=s.toks) (o:=.tup (xs++ys)) (λb ob q=>wf _ q) (wg _) ?_,rfl,q2 (λw=>z (r2.z9.mpr w)) _ (I.aG.fresh (wg _))⟩;exact⟨by rw[wH];exact hz,_,r1.append r2,qp _ _⟩
end
def gP(n:Nat)(i:Int):Option Nat:=if 0<=i then(if i<n then some i.toNat else none)else if -(n:Int)<=i then some (i+n).toNat else none
def gK{α : Type}(xs:List α)(i:Int):Option α:=(gP xs.length i).bind λj=>xs[j]?
theorem N7{n:Nat}{i:Int}{j:Nat}(h:gP n i=some j):seqIndex? i n=some j/\j<n /\ -(n:Int)<=i/\i<n:=by
 unfold gP at h
 by_cases h0:0<=i
 ·rw[if_pos h0]at h
  by_cases h1:i<n
  ·rw[if_pos h1]at h
   have e:i.toNat=j:=wF h;exact⟨by rw[seqIndex_of h0 h1,e],by omega,by omega,h1⟩
  ·rw[if_neg h1]at h;cases h
 ·rw[if_neg h0]at h
  by_cases h1 : -(n:Int)<=i
  ·rw[if_pos h1]at h
   have e:(i+n).toNat=j:=wF h;exact⟨by rw[seqIndex_neg (by omega) h1,e],by omega,h1,by omega⟩
  ·rw[if_neg h1]at h;cases h
theorem AD{α : Type}{xs:List α}{i:Int}{v : α}(h:gK xs i=some v):∃j,seqIndex? i xs.length=some j/\xs[j]? = some v/\j<xs.length /\ -(xs.length:Int)<=i/\i<xs.length:=by
 unfold gK at h;cases e:gP xs.length i with
 | none=>rw[e]at h;cases h
 | some j =>
  rw[e]at h;obtain⟨h1,h2,h3,h4⟩:=N7 e;exact⟨j,h1,h,h2,h3,h4⟩
theorem jT{α : Type}{xs:List α}{j:Nat}{v : α}(h:xs[j]? = some v):gK xs (j:Int)=some v:=by
 have hj:j<xs.length:=(vZ.mp h).1
 have e:gP xs.length (j:Int)=some j:=by
  unfold gP;rw[if_pos (by omega),if_pos (by omega)];simp
 unfold gK;rw[e];exact h
def zyF(b:Expr):Prop:=∀o i,subscripted b false o i=operate [o,i] (getItem o i)
def gz(X:Cx)(r:R2):Prop :=
 ∀(value slice:Expr)(pins:List (Addr × Obj))(s:Shared)(σ : St)(H:Hp)(x y:V)(v u:Value)(Q:VK),Inv X pins σ H s->aW x v->aW y u->r x y H Q ->
  subscripted slice false v u=operate [v,u] (getItem v u)->wpAny (model X.prog X.w) X.A (subscriptTail value slice v u) (EP X pins σ Q) X.xe s
def Kc(X:Cx)(id:String)(r:V->List V->Hp->VK->Prop):Prop :=
 ∀(pins:List (Addr × Obj))(s:Shared)(σ : St)(H:Hp)(x:V)(xs:List V)(v:Value)(us:List Value)(Q:VK),Inv X pins σ H s->aW x v->aM xs us->r x xs H Q ->
  wpAny (model X.prog X.w) X.A (call (.builtin id) (v::us)) (EP X pins σ Q) X.xe s
section
variable{X:Cx}{a b:Expr}{ta tb:TE}{pos:Pos}
theorem gz.or{r r':R2}(h:gz X r)(h':gz X r'):gz X (λx y H Q=>r x y H Q\/r' x y H Q):=by
 intro value slice pins s σ H x y v u Q I rx ry q hs;rcases q with q | q
 ·exact h value slice pins s σ H x y v u Q I rx ry q hs
 ·exact h' value slice pins s σ H x y v u Q I rx ry q hs
theorem dQ{r:R2}(hr:gz X r)(ha:PE X a ta)(hb:PE X b tb)(hs:zyF b):PE X (.Subscript a b pos) (kK r ta tb):=by
 intro pins s σ H Q I h;exact Subscript_ (CU ha hb I h λv u s2 x y H2 I2 rx ry q=>hr a b pins s2 σ H2 x y v u Q I2 rx ry q (hs _ _))
def NC(K:wb):R2:=λx y H Q=>∃p xs i v,x=.ref p/\y=.int i/\aK K H p xs/\gK xs i=some v/\Q v H
def J6(K:wb):R2:=λx y H Q=>∃p xs i v,x=.ref p/\y=.int i/\aR K H p xs/\gK xs i=some v/\Q v H
def IV:R2:=λx y H Q=>∃z i c,x=.str z/\y=.int i/\z.length<=sizeLine/\gK z.cps.toList i=some c/\Q (.str ⟨#[c]⟩) H
theorem zzx:gz X (NC X.K):=by
 intro value slice pins s σ H x y v u Q I rx ry h hs;obtain⟨p,xs,i,z,rfl,rfl,hq,he,q⟩:=h;cases rx;obtain⟨t,rfl⟩:=ry;obtain⟨its,r,pl,hz⟩:=I.list hq;obtain⟨j,h1,h2,h3,h4,h5⟩:=AD he;obtain⟨w,ew,rw'⟩:=r.get h2;have hl:=r.length;have hn:=nu;have fin:EP X pins σ Q w s:=⟨z,H,I,rw',q⟩
 by_cases h0:0<=i
 ·have hj:i.toNat=j:=by
   rw[seqIndex_of h0 h5]at h1;exact wF h1
  exact item_listR pl.isList h0 (by omega) (by rw[hj];simpa using ew) fin hs
 ·have hj:(i+(its.toArray.size:Int)).toNat=j:=by
   rw[seqIndex_neg (by omega) h4]at h1;rw[wC,<- hl];exact wF h1
  exact subscriptTail_builtinR (x:=w) pl.isList.typeIs slot_list_getitem.lookup
   (wpAny_getItem_list_neg (Q:=λr s'=>r=w/\EP X pins σ Q r s') pl.isList (by omega) (by rw[wC]<;>omega) (by omega) (by rw[hj];simpa using ew) ⟨rfl,fin⟩) hs
theorem YO:gz X (J6 X.K):=by
 intro value slice pins s σ H x y v u Q I rx ry h hs;obtain⟨p,xs,i,z,rfl,rfl,hq,he,q⟩:=h;cases rx;obtain⟨t,rfl⟩:=ry;obtain⟨its,r,pl,hz⟩:=I.tuple hq;obtain⟨j,h1,h2,h3,h4,h5⟩:=AD he;obtain⟨w,ew,rw'⟩:=r.get h2;have hl:=r.length;have hn:=nu;have fin:EP X pins σ Q w s:=⟨z,H,I,rw',q⟩
 exact subscriptTail_builtinR (x:=w) pl.typeIs slot_tuple_getitem.lookup
  (getItem_tuple (j:=j) (Q:=λr s'=>r=w/\EP X pins σ Q r s') pl (by omega) (by omega) (by rw[wC,<- hl];exact h1) (by simpa using ew) ⟨rfl,fin⟩) hs
theorem SG:gz X IV:=by
 intro value slice pins s σ H x y v u Q I rx ry h hs;obtain⟨z,i,c,rfl,rfl,hz,he,q⟩:=h;obtain⟨t,rfl⟩:=rx;obtain⟨t',rfl⟩:=ry;obtain⟨j,h1,h2,h3,h4,h5⟩:=AD he;have hl:z.cps.toList.length=z.length:=by simp[Str.length]
 rw[hl]at h1 h4 h5;have hn:=nu
 exact tail_any (typeIs_str s z t) slot_str_getitem.lookup (getItem_str (c:=c) (by
  have e1:decide (i < -(2^63:Int))=false:=decide_eq_false (by omega);have e2:decide (i ≥ 2^63)=false:=decide_eq_false (by omega);rw[e1,e2,Bool.or_false]) (by rw[h1];simpa using h2) ⟨.str ⟨#[c]⟩,H,I.tok _,⟨_,rfl⟩,q⟩) hs
def cQ(K:wb):R2:=λx y H Q=>NC K x y H Q\/J6 K x y H Q\/IV x y H Q
theorem c_:gz X (cQ X.K):=zzx.or (YO.or SG)
theorem YV(its:List Value)(n j:Nat)(u:Value):Qe (·.setIfInBounds j u) {cls:=.type "list",data:=.seq its.toArray n} = {cls:=.type "list",data:=.seq (its.set j u).toArray n}:=by
 simp[Qe]
theorem Inv.lst{pins:List (Addr × Obj)}{σ : St}{H:Hp}{s:Shared}{p:Addr}{xs:List V}(I:Inv X pins σ H s)(h:H p=some (.lst xs)) :
  ∃(its:List Value)(n:Nat),aM xs its/\s.heap.get? p=some {cls:=.type "list",data:=.seq its.toArray n}/\xs.length<=sizeLine:=by
 obtain⟨z,its,n,r,e⟩:=I.aG p _ h;exact⟨its,n,r,e,z⟩
theorem Inv.RU{pins:List (Addr × Obj)}{σ : St}{H:Hp}{s:Shared}{p:Addr}{xs ys:List V}{its its':List Value}{n n':Nat}{f:Obj->Obj}(I:Inv X pins σ H s)(h:H p=some (.lst xs))
   (ho:s.heap.get? p=some {cls:=.type "list",data:=.seq its.toArray n}) (hf:f {cls:=.type "list",data:=.seq its.toArray n} = {cls:=.type "list",data:=.seq its'.toArray n'}) (r:aM ys its') (hz:ys.length<=sizeLine) (t:Nat) :
   Inv X pins σ (upd H p (.lst ys)) {s with heap:=s.heap.update p f,toks:=t}:=by
 have e:(s.heap.update p f).get? p=some {cls:=.type "list",data:=.seq its'.toArray n'}:=by
   rw[WV f ho (by rw[hf]<;>rfl),hf]
 refine I.write (x:=p) (e:=p) (by rw[h];trivial) (.inl rfl) (λb u hb q=>(qk _ _ (vX hb)).trans q) ⟨_,e⟩ ?_;exact⟨hz,its',n',r,e⟩
def Ng:V->V->V->Hp->(Hp->Prop)->Prop:=λo i v H Q=>∃p xs k j,o=.ref p/\i=.int k/\H p=some (.lst xs)/\gP xs.length k=some j/\Q (upd H p (.lst (xs.set j v)))
theorem pY:MD X Ng:=by
 intro pins s σ H o i v ov iv u Q I ro ri rv h;obtain⟨p,xs,k,j,rfl,rfl,hp,hj,q⟩:=h;cases ro;obtain⟨t,rfl⟩:=ri;obtain⟨its,n,r,ho,hz⟩:=I.lst hp;obtain⟨h1,h2,h3,h4⟩:=N7 hj;have hl:=r.length;have hn:=nu
 have I':Inv X pins σ (upd H p (.lst (xs.set j v))) {s with heap:=s.heap.update p (Qe (·.setIfInBounds j u))} :=
  I.RU hp ho (YV its n j u) (r.set rv j) (by rw[WW];exact hz) s.toks
 by_cases h0:0<=k
 ·have hk:k.toNat=j:=by
   rw[seqIndex_of h0 h4]at h1;exact wF h1
  exact PySem.W.ki_setAt ho h0 (by omega) (by rw[wC,<- hl];exact h4) (by rw[hk];exact⟨_,I',q⟩)
 ·have hk:(k+(its.toArray.size:Int)).toNat=j:=by
   rw[seqIndex_neg (by omega) h3]at h1;rw[wC,<- hl];exact wF h1
  exact PySem.W.ki_setBack ho (by omega) (by rw[wC,<- hl];exact h3) (by omega) (by rw[hk];exact⟨_,I',q⟩)
theorem Uv(lo hi:Option Int)(n:Nat):(sliceBounds lo hi none n).1=((HT.aX n 0 lo:Nat):Int)/\(sliceBounds lo hi none n).2.1=((HT.aX n n hi:Nat):Int)/\(sliceBounds lo hi none n).2.2=1:=by
 refine⟨?_,?_,rfl⟩
 ·cases lo with
  | none=>simp[sliceBounds,HT.aX]
  | some i =>
   simp only[sliceBounds,HT.aX,Xj,show(1:Int) > 0 by decide,if_true]
   by_cases h:i<0
   ·simp only[h,if_true]<;>omega
   ·simp only[h,if_false]<;>omega
 ·cases hi with
  | none=>simp[sliceBounds,HT.aX]
  | some i =>
   simp only[sliceBounds,HT.aX,Xj,show(1:Int) > 0 by decide,if_true]
   by_cases h:i<0
   ·simp only[h,if_true]<;>omega
   ·simp only[h,if_false]<;>omega
theorem znk(its:List Value)(lo hi:Option Int):slicePick its.toArray lo hi none=((its.drop (HT.aX its.length 0 lo)).take (HT.aX its.length its.length hi-HT.aX its.length 0 lo)).toArray:=by
 obtain⟨h1,h2,h3⟩:=Uv lo hi its.toArray.size;unfold slicePick;rw[h1,h2,h3];simp only[sliceRange_one,pick_run,wC]<;>rfl
def ND(K:wb):V->Option Int->Option Int->Hp->VK->Prop:=λx lo hi H Q=>∃a xs,x=.ref a/\aK K H a xs /\ ∀p,H p=none->Q (.ref p) (upd H p (.lst (jC xs lo hi)))
theorem YW:jZ X (ND X.K):=by
 intro pins s σ H x v vl vu lo hi sl Q I rx hs pl pu h;obtain⟨a,xs,rfl,hx,q⟩:=h;cases rx;obtain⟨its,r,ht,hz⟩:=I.list hx;have hlen:=r.length;refine⟨"list",_,slot_list_getitem.lookup,ht.isList.typeIs,?_⟩;refine wpAny_getItem_list_slice ht.isList hs pl pu .none (by simp) ?_ (by rw[wC]<;>omega);rw[znk,<- hlen];refine⟨.ref s.heap.objs.size,_,I.laid (t':=s.toks) (o:=.lst (jC xs lo hi)) (λb ob q=>wf _ q) (wg _) ?_,rfl,q _ (I.aG.fresh (wg _))⟩;exact⟨vA (Nv xs lo hi) hz,_,0,(r.drop (HT.aX xs.length 0 lo)).take (HT.aX xs.length xs.length hi-HT.aX xs.length 0 lo),wB _ rfl⟩
def jm:V->Bool
 | .bj=>true
 | .bl _=>true
 | .int _=>true
 | .str _=>true
 | _=>false
def kn:V->V->Bool
 | .bj,.bj=>true
 | .bl a,.bl b=>a == b
 | .bl a,.int b=>(if a then 1 else 0) == b
 | .int a,.bl b=>a == (if b then 1 else 0)
 | .int a,.int b=>a == b
 | .str a,.str b=>a == b
 | _,_=>false
theorem X_{A:Around}{s:Shared}{y x:V}{u v:Value}(ry:aW y u)(rx:aW x v)(fy:jm y=true)(fx:jm x=true):SeqAt.EqAt A s u v (kn y x):=by
 cases y with
 | bj =>
  cases ry;cases x with
  | bj=>cases rx;exact SeqAt.EqAt.same _
  | bl b=>cases rx;exact SeqAt.EqAt.none_bool b
  | int b=>obtain⟨t,rfl⟩:=rx;exact SeqAt.EqAt.none_int b t
  | str b=>obtain⟨t,rfl⟩:=rx;exact SeqAt.EqAt.none_str b t
  | _=>exact absurd (show false=true from fx) w5
 | bl a =>
  cases ry;cases x with
  | bj=>cases rx;exact SeqAt.EqAt.bool_none a
  | bl b=>cases rx;exact SeqAt.EqAt.bool_bool a b
  | int b=>obtain⟨t,rfl⟩:=rx;exact SeqAt.EqAt.bool_int a b t
  | str b=>obtain⟨t,rfl⟩:=rx;exact SeqAt.EqAt.bool_str a b t
  | _=>exact absurd (show false=true from fx) w5
 | int a =>
  obtain⟨t',rfl⟩:=ry;cases x with
  | bj=>cases rx;exact SeqAt.EqAt.int_none a t'
  | bl b=>cases rx;exact SeqAt.EqAt.int_bool a t' b
  | int b=>obtain⟨t,rfl⟩:=rx;exact SeqAt.EqAt.int_int a t' b t
  | str b=>obtain⟨t,rfl⟩:=rx;exact xu a t' b t
  | _=>exact absurd (show false=true from fx) w5
 | str a =>
  obtain⟨t',rfl⟩:=ry;cases x with
  | bj=>cases rx;exact SeqAt.EqAt.str_none a t'
  | bl b=>cases rx;exact SeqAt.EqAt.str_bool a t' b
  | int b=>obtain⟨t,rfl⟩:=rx;exact xv a t' b t
  | str b=>obtain⟨t,rfl⟩:=rx;exact SeqAt.EqAt.str_str a t' b t
  | _=>exact absurd (show false=true from fx) w5
 | _=>exact absurd (show false=true from fy) w5
def fo(x:V)(u:Value):Bool:=match u with
 | .none=>kn .bj x
 | .bool b=>kn (.bl b) x
 | .int i _=>kn (.int i) x
 | .str z _=>kn (.str z) x
 | _=>false
theorem MG{x y:V}{u:Value}(r:aW y u)(f:jm y=true):fo x u=kn y x:=by
 cases y with
 | bj=>cases r;rfl
 | bl b=>cases r;rfl
 | int i=>obtain⟨t,rfl⟩:=r;rfl
 | str z=>obtain⟨t,rfl⟩:=r;rfl
 | _=>exact absurd (show false=true from f) w5
theorem oC{x:V} : ∀{xs:List V}{us:List Value},aM xs us->xs.all jm=true->us.any (fo x)=xs.any λy=>kn y x
 | _,_,.nil,_=>rfl
 | y::xs,u::us,.cons r t,f=>by
  rw[xj,wI]at f;rw[qT,qT,MG r f.1,oC t f.2]
theorem pq{A:Around}{s:Shared}{x:V}{v:Value}(rx:aW x v)(fx:jm x=true):∀{xs:List V}{us:List Value},aM xs us->xs.all jm=true->∀u∈us,SeqAt.EqAt A s u v (fo x u)
 | _,_,.nil,_=>λu hu=>by cases hu
 | y::xs,u::us,.cons r t,f=>λu' hu=>by
  rw[xj,wI]at f;rcases wz.mp hu with rfl | hu
  ·rw[MG r f.1];exact X_ r rx f.1 fx
  ·exact pq rx fx t f.2 u' hu
def sS(x:V)(xs:List V):Bool:=xs.any λy=>kn y x
def j_(K:wb)(neg:Bool):R2:=λx y H Q=>∃p xs,y=.ref p/\(aK K H p xs\/aR K H p xs)/\jm x=true/\xs.all jm=true/\Q (.bl (if neg then !sS x xs else sS x xs)) H
theorem zve:aN X (compareOp .In) (j_ X.K false):=by
 intro pins s σ H x y v u Q I rx ry h;obtain⟨p,xs,rfl,hq,fx,fs,q⟩:=h;cases ry;rcases hq with hq | hq
 ·obtain⟨its,r,pl,hz⟩:=I.list hq
  refine SeqAt.in_listAt (fo x) pl.isList (λw hw=>pq rx fx r fs w (by simpa using hw)) ⟨.bl _,H,I,rfl,?_⟩;rw[show its.toArray.any (fo x)=its.any (fo x) by simp,oC r fs];exact q
 ·obtain⟨its,r,pl,hz⟩:=I.tuple hq
  refine SeqAt.in_tupleAt (fo x) pl (λw hw=>pq rx fx r fs w (by simpa using hw)) ⟨.bl _,H,I,rfl,?_⟩;rw[show its.toArray.any (fo x)=its.any (fo x) by simp,oC r fs];exact q
theorem Yx:aN X (compareOp .NotIn) (j_ X.K true):=by
 intro pins s σ H x y v u Q I rx ry h;obtain⟨p,xs,rfl,hq,fx,fs,q⟩:=h;cases ry;rcases hq with hq | hq
 ·obtain⟨its,r,pl,hz⟩:=I.list hq
  refine SeqAt.notIn_listAt (fo x) pl.isList (λw hw=>pq rx fx r fs w (by simpa using hw)) ⟨.bl _,H,I,rfl,?_⟩;rw[show its.toArray.any (fo x)=its.any (fo x) by simp,oC r fs];exact q
 ·obtain⟨its,r,pl,hz⟩:=I.tuple hq
  refine SeqAt.notIn_tupleAt (fo x) pl (λw hw=>pq rx fx r fs w (by simpa using hw)) ⟨.bl _,H,I,rfl,?_⟩;rw[show its.toArray.any (fo x)=its.any (fo x) by simp,oC r fs];exact q
theorem UQ:aO X (.builtin "len") (λxs H Q=>∃p ys,xs=[.ref p]/\(aK X.K H p ys\/aR X.K H p ys)/\Q (.int ys.length) H):=by
 intro pins s σ H xs us Q I r h;obtain⟨p,ys,rfl,hq,q⟩:=h;obtain⟨u,rfl,rx⟩:=gk r;cases rx;have hn:=nu;rcases hq with hq | hq
 ·obtain⟨its,r',pl,hz⟩:=I.list hq
  have hlen:=r'.length;exact Calls.call_len_list pl.isList (by simp only[wC]<;>omega) ⟨.int ys.length,H,I.tok _,⟨s.toks+1,by rw[wC,hlen]⟩,q⟩
 ·obtain⟨its,r',pl,hz⟩:=I.tuple hq
  have hlen:=r'.length;exact len_tuple pl (by simp only[wC]<;>omega) ⟨.int ys.length,H,I.tok _,⟨s.toks+1,by rw[wC,hlen]⟩,q⟩
theorem SE:aO X (.type "list") (λxs H Q=>∃p ys,xs=[.ref p]/\(aK X.K H p ys\/aR X.K H p ys) /\ ∀l,H l=none->Q (.ref l) (upd H l (.lst ys))):=by
 intro pins s σ H xs us Q I r h;obtain⟨p,ys,rfl,hq,q⟩:=h;obtain⟨u,rfl,rx⟩:=gk r;cases rx
 have fin:∀(its:List Value),aM ys its->ys.length<=sizeLine->∀(h':Heap)(c':Nat),(∀b o',s.heap.get? b=some o'->h'.get? b=some o') ->
     h'.get? s.heap.objs.size=some {cls:=.type "list",dict:=none,data:=.seq its.toArray c',slots:=#[]}->EP X pins σ Q (.ref s.heap.objs.size) {s with heap:=h'}:=λits r' hz h' c' kp e =>
   ⟨.ref s.heap.objs.size,_,I.laid (t':=s.toks) kp (wg _) (show dh X.prog X.w _ h' _ (.lst ys)from⟨hz,its,c',r',e⟩),rfl,q _ (I.aG.fresh (wg _))⟩
 rcases hq with hq | hq
 . obtain⟨its,r',pl,hz⟩:=I.list hq
   have hlen:=r'.length;obtain⟨o,ho,hc,n,hd⟩:=pl.isList;exact call_list_seq p (.inl rfl) ho hc hd (λh' c' kp e=>fin its r' hz h' c' kp e) (by simp only[wC]<;>omega)
 . obtain⟨its,r',pl,hz⟩:=I.tuple hq
   have hlen:=r'.length;obtain⟨o,ho,hc,n,hd⟩:=pl;exact call_list_seq p (.inr rfl) ho hc hd (λh' c' kp e=>fin its r' hz h' c' kp e) (by simp only[wC]<;>omega)
theorem znr:aO X (.type "tuple") (λxs H Q=>∃p ys,xs=[.ref p]/\((aK X.K H p ys /\ ∀l,H l=none->Q (.ref l) (upd H l (.tup ys)))\/(aR X.K H p ys/\Q (.ref p) H))):=by
 intro pins s σ H xs us Q I r h;obtain⟨p,ys,rfl,h⟩:=h;obtain⟨u,rfl,rx⟩:=gk r;cases rx;rcases h with⟨hq,q⟩ | ⟨hq,q⟩
 ·obtain⟨its,r',pl,hz⟩:=I.list hq
  have hlen:=r'.length;refine call_tuple_list pl.isList (λh' kp=>?_) (by simp only[wC]<;>omega);have I1:Inv X pins σ H {s with heap:=h'}:=I.kept (t':=s.toks) kp
  have I2:Inv X pins σ (upd H h'.objs.size (.tup ys)) {s with heap:=h'.push {cls:=.type "tuple",data:=.seq its.toArray}} :=
   I1.laid (t':=s.toks) (λb o e=>wf _ e) (wg _) (show dh X.prog X.w _ _ _ (.tup ys)from⟨hz,its,r',qp _ _⟩)
  exact⟨.ref h'.objs.size,_,I2,rfl,q _ (I1.aG.fresh (wg _))⟩
 ·obtain⟨its,r',pl,hz⟩:=I.tuple hq
  exact call_tuple_same pl ⟨.ref p,H,I,rfl,q⟩
def yO(K:wb)(T:String)(x:V)(H:Hp):Prop:=match x with
 | .str _=>T="str"
 | .int _=>T="int"
 | .ref p=>(T="list" /\ ∃xs,aK K H p xs)\/(T="tuple" /\ ∃o,K.lookup p=some o/\o.cls=.type "tuple"/\o.dict=none) \/
     (T="dict"/\((∃kvs,H p=some (.dK kvs)) \/ ∃kvs,H p=some (.dT kvs)))\/(T="set" /\ ∃S n,H p=some (.set S n))
 | _=>False
theorem zAv{pins:List (Addr × Obj)}{σ : St}{H:Hp}{s:Shared}{T:String}{x:V}{v:Value}(I:Inv X pins σ H s)(r:aW x v)(ty:yO X.K T x H) :
   s.TypeIs v T /\ ∀a,v=.ref a->∃ob,s.heap.get? a=some ob/\ob.dict=none:=by
 cases x with
 | str z =>
   obtain⟨t,rfl⟩:=r;cases (show T="str" from ty);exact⟨typeIs_str s z t,λ_ e=>nomatch e⟩
 | int i =>
   obtain⟨t,rfl⟩:=r;cases (show T="int" from ty);exact⟨typeIs_int s i t,λ_ e=>nomatch e⟩
 | ref p =>
   cases r;rcases ty with⟨rfl,xs,hq⟩ | ⟨rfl,o,hk,hc,hd⟩ | ⟨rfl,hk⟩ | ⟨rfl,S,n,hk⟩
   . obtain⟨its,_,pl,_⟩:=I.list hq
     refine⟨pl.isList.typeIs,λa e=>?_⟩;cases e;obtain⟨o,n,e,c,hd,_⟩:=pl;exact⟨o,e,hd⟩
   . refine⟨⟨o,I.dk p o hk,hc⟩,λa e=>?_⟩
     cases e;exact⟨o,I.dk _ o hk,hd⟩
   . have z:∃o,s.heap.get? p=some o/\o.ExactDict:=by
       rcases hk with⟨kvs,hk⟩ | ⟨kvs,hk⟩
       . obtain⟨_,_,_,_,o,_,_,e,ex,_⟩:=I.aG p _ hk
         exact⟨o,e,ex⟩
       . obtain⟨_,_,_,_,o,_,_,e,ex,_⟩:=I.aG p _ hk
         exact⟨o,e,ex⟩
     obtain⟨o,e,ex⟩:=z;refine⟨⟨o,e,ex.1⟩,λa e2=>?_⟩;cases e2;exact⟨o,e,ex.2.1⟩
   . obtain⟨o,_,_,_,e,ex,_⟩:=I.aG p _ hk
     refine⟨⟨o,e,ex.1⟩,λa e2=>?_⟩;cases e2;exact⟨o,e,ex.2.1⟩
 | _=>exact Wp ty
def LV(K:wb)(T:String)(r:V->List V->Hp->VK->Prop)(to:TE)(t:TA):TE:=λσ H Q=>to σ H λx H1=>yO K T x H1/\t σ H1 λxs H2=>r x xs H2 Q
variable{o e:Expr}{es:List Expr}{to:TE}{t:TA}{name:Str}{apos cpos:Pos}{T id:String}{r:V->List V->Hp->VK->Prop}
theorem m6(pa:PlainAttrs T)(slot:Slot T name id)(hty:typeOf (.builtin id)=pure (.type "method_descriptor"))(hm:Kc X id r)(ho:PE X o to)(ha:PA X (e::es) t)
  (hbase:attributeBase o name X.env (eval o X.env)=eval o X.env:=by rfl)
  (hfew:((backTo cpos (starEach (e::es) X.env)).all (λx=>!x.1)&&(backToKw cpos (keywordEach [] X.env)).all (λx=>x.1.isSome)
   && decide ((e::es).length+([]:List Keyword).length+(if([]:List Keyword).isEmpty then 0 else 1)<30))=true:=by rfl)
  (hline:(apos.endLine == cpos.line)=true:=by rfl) (hs:starEach (e::es) X.env=(false,eval e X.env)::starEach es X.env:=by rfl) (hplain:(backTo cpos (starEach es X.env)).any (·.1)=false:=by rfl) :
  PE X (.Call (.Attribute o name apos) (e::es) [] cpos) (LV X.K T r to t):=by
 intro pins s σ H Q I h;refine wpAny_Call_method_late hbase hfew hline rfl (aI (ho pins s σ H _ I h) λv s1 ⟨x,H1,I1,r1,ty,q1⟩=>?_);obtain⟨h1,h2⟩:=zAv I1 r1 ty;refine⟨T,id,pa,slot,hty,h1,h2,?_⟩;have hA:=ha cpos pins s1 σ H1 _ I1 q1;rw[hs]at hA ⊢;refine Calls.callWith_builtin (by show(false || (backTo cpos (starEach es X.env)).any (·.1))=false;rw[hplain]<;>rfl) (Q8 ?_);exact aI hA λus s2 ⟨vs,H2,I2,r2,q2⟩=>hm pins s2 σ H2 x vs v us Q I2 r1 r2 q2
/- xs.append(e),list.index on a module's tuple .. are Kc facts of 06m -/
end
def UE(X:Cx)(id:String)(r:V->List V->Hp->VK->Prop):Prop :=
 ∀(pins:List (Addr × Obj))(s:Shared)(σ : St)(H:Hp)(x:V)(xs:List V)(v:Value)(us:List Value)(Q:VK),Inv X pins σ H s->aW x v->aM xs us->r x xs H Q ->
  wpAny (model X.prog X.w) X.A (call (.builtin id) (v::us)) (EP X pins σ Q) X.xe s
theorem aM.one:∀{x:V}{us:List Value},aM [x] us->∃u,us=[u]/\aW x u
 | _,_,.cons r .nil=>⟨_,rfl,r⟩
theorem aM.rep{xs:List V}{us:List Value}(h:aM xs us):∀k:Nat,aM (wQ k xs).flatten (wQ k us).flatten
 | 0=>.nil
 | k+1=>by
  rw[Vr,Vr,W3,W3];exact aM.append h (aM.rep h k)
theorem K_(its:List Value):∀(k:Nat)(acc:List Value),
   XB (λx1 x2=>x1++x2) acc.toArray (wQ k its.toArray)=(acc++(wQ k its).flatten).toArray
 | 0,acc=>by simp
 | k+1,acc=>by
   have e:acc.toArray++its.toArray=(acc++its).toArray:=by simp
   have e2:(acc++its)++(wQ k its).flatten=acc++(wQ (k+1) its).flatten:=by
     rw[Vr,W3,W4]
   rw[<- e2,<- K_ its k (acc++its),<- e,Vr,XC]
section
variable{X:Cx}{pins:List (Addr × Obj)}{σ : St}{H:Hp}{s:Shared}{l b:Addr}{xs ys zs:List V}
theorem Inv.R_{its its':List Value}{n:Nat}{f:Array Value->Array Value}{t':Nat}(I:Inv X pins σ H s)(hH:H l=some (.lst xs))
  (e:s.heap.get? l=some {cls:=.type "list",data:=.seq its.toArray n}) (hf:f its.toArray=its'.toArray) (hv:aM ys its') (hz:ys.length<=sizeLine) :
  Inv X pins σ (upd H l (.lst ys)) {s with heap:=s.heap.update l (Qe f),toks:=t'}:=by
 have q:=PySem.IsL.update e f;rw[hf]at q;refine I.write (x:=l) (e:=l) (by rw[hH];exact trivial) (.inl rfl) (λb' u hb hu=>(qk s.heap (Qe f) (vX hb)).trans hu) ⟨_,q⟩ ?_;exact⟨hz,its',_,hv,q⟩
theorem Inv.Ag{its:List Value}{t':Nat}(I:Inv X pins σ H s)(hv:aM ys its)(hz:ys.length<=sizeLine) :
  Inv X pins σ (upd H s.heap.objs.size (.lst ys)) {s with heap:=s.heap.push {cls:=.type "list",data:=.seq its.toArray},toks:=t'} :=
 I.laid (λ_ _ q=>wf _ q) (wg _) ⟨hz,its,0,hv,wB _ rfl⟩
theorem Inv.fresh(I:Inv X pins σ H s):H s.heap.objs.size=none:=I.aG.fresh (wg _)
theorem Inv.rq(I:Inv X pins σ H s)(hH:H l=some (.lst xs)):xs.length<=sizeLine /\ ∃(its:List Value)(n:Nat),aM xs its/\xs.length=its.length/\s.heap.get? l=some {cls:=.type "list",data:=.seq its.toArray n}:=by
 obtain⟨z,its,n,r,e⟩:=I.aG l _ hH;exact⟨z,its,n,r,r.length,e⟩
theorem UM{n:Nat}(h:n<=sizeLine):V0 n=false:=by
 unfold V0;exact decide_eq_false (by omega)
end
section
variable{X:Cx}
def Lo:V->List V->Hp->VK->Prop:=λx vs H Q=>∃l xs y,x=.ref l/\vs=[y]/\H l=some (.lst xs)/\xs.length<sizeLine/\Q .bj (upd H l (.lst (xs++[y])))
theorem kY:UE X "list.append" Lo:=by
 intro pins s σ H x vs v us Q I rx rv h;obtain⟨l,xs,y,rfl,rfl,hH,hz,q⟩:=h;cases rx;obtain⟨u,rfl,ru⟩:=rv.one;obtain⟨z,its,n,r,hl,e⟩:=I.rq hH;refine call_meets F.slot_list_append ⟨_,e,rfl⟩ F.entry_list_append (F.args_list_append_2 _ _) (PySem.list_append l its.toArray n u (by rw[wC];omega)) ⟨e,?_⟩;refine⟨.bj,_,I.R_ (its':=its++[u]) hH e (by simp) (r.append (.cons ru .nil)) ?_,rfl,q⟩;rw[wH,vJ];omega
def A1:R2:=λx y H Q=>∃l b xs zs,x=.ref l/\y=.ref b/\H l=some (.lst xs)/\H b=some (.lst zs)/\xs.length+zs.length<=sizeLine /\ ∀p,H p=none->Q (.ref p) (upd H p (.lst (xs++zs)))
theorem Zn:aN X (binaryOp .Add) A1:=by
 intro pins s σ H x y v u Q I rx ry h;obtain⟨l,b,xs,zs,rfl,rfl,hH,hB,hz,q⟩:=h;cases rx;cases ry;obtain⟨z,its,n,r,hl,e⟩:=I.rq hH;obtain⟨z2,its2,n2,r2,hl2,e2⟩:=I.rq hB;refine PySem.P.add_list e e2 ?_ (by rw[wC,wC];omega);have ea:its.toArray++its2.toArray=(its++its2).toArray:=by simp
 rw[ea];exact⟨.ref _,_,I.Ag (t':=s.toks) (r.append r2) (by rw[wH];omega),rfl,q _ I.fresh⟩
def pE:R2:=λx y H Q=>∃l k xs,x=.ref l/\y=.int k/\H l=some (.lst xs) /\ -(2^63)<=k/\k<2^63/\xs.length*k.toNat<=sizeLine /\
 ∀p,H p=none->Q (.ref p) (upd H p (.lst (wQ k.toNat xs).flatten))
theorem Yw{α : Type}(xs:List α)(k:Nat):(wQ k xs).flatten.length=k*xs.length:=by
 induction k with
 | zero=>simp
 | succ k ih=>rw[Vr,W3,wH,ih,V1,Nat.add_comm]
theorem P7:aN X (binaryOp .Mult) pE:=by
 intro pins s σ H x y v u Q I rx ry h;obtain⟨l,k,xs,rfl,rfl,hH,h1,h2,hz,q⟩:=h;cases rx;obtain⟨t,rfl⟩:=ry;obtain⟨z,its,n,r,hl,e⟩:=I.rq hH;have hlen:its.toArray.size*k.toNat<=sizeLine:=by rw[wC,<- hl];exact hz
 have hcap:¬ its.toArray.size*k.toNat > (2^63-1) / 8:=by
  have:(sizeLine:Nat)<=(2^63-1) / 8:=by decide
  omega
 have hfit:¬ (!Builtin.List.listFitsIndex k)=true:=by
  rw[fitsIndex_both h1 h2];exact w5
 have hlong:¬ V0 (its.toArray.size*k.toNat)=true:=by
  rw[UM hlen];exact w5
 have hnew:XB (λx1 x2=>x1++x2) #[] (wQ (if its.toArray.isEmpty=true then 0 else k.toNat) its.toArray)=(wQ k.toNat its).flatten.toArray:=by
  have f0:∀m:Nat,XB (λx1 x2=>x1++x2) #[] (wQ m its.toArray)=(wQ m its).flatten.toArray:=λm=>by
   have:=K_ its m [];rw[qr]at this;exact this
  rw[f0];cases its with
  | nil=>simp
  | cons a r'=>rw[if_neg (by simp)]
 refine wpAny_binaryOp_repeat_ref (T:="list") (U:="int") (by decide) ⟨_,e,rfl⟩ (λs'=>typeIs_int s' k t) noFill_list_mul F.fills_int_mul XD repeat_list F.slot_int_index.lookup
  (call_meets XD (typeIs_int s k t) F.entry_int_rmul (F.args_int_rmul_2 _ _) (int___rmul___int_list k t l its.toArray n)
   ⟨e,rfl,⟨_,e,rfl⟩,call_meets F.slot_list_mul ⟨_,e,rfl⟩ F.entry_list_mul (F.args_list_mul_2 _ _) (AutoListH.list___mul___list_int_3 l its.toArray n k t hfit hcap hlong) ⟨e,?_⟩⟩)
 rw[hnew];exact⟨.ref _,_,I.Ag (t':=s.toks) (r.rep k.toNat) (by rw[Yw,VF];exact hz),rfl,q _ I.fresh⟩
end
section
variable{prog:Program}{w:World}{A:Around}{E:Value->Shared->Prop}{s:Shared}
end
section
variable{X:Cx}
end
end L2
namespace Att
open PySem PySem.W PySem.Calls PyProof.Rows
theorem UZ{P:Params}{h:Heap} : ∀(ns:List Int)(vs:List Value),WellAll P h vs (ns.map WData.int)->IntsAre vs ns:=by
 intro ns
 induction ns with
 | nil =>
  intro vs w;rw[Qk]at w;cases w;exact .nil
 | cons n ns ih =>
  intro vs w;rw[wM]at w;cases w with
  | cons a b =>
   cases a;exact .cons _ _ (ih _ b)
theorem zva{l:OpenLaw}{n:Nat}(hn:l.most=some n){P:Params}{h:Heap}{args:List WData}{vals:List Value}
   (hpre:l.row.toRowW.claim.pre args=true) (hwl:WellAll P h vals args) :
   ∃a vs ns,vals=[Value.ref a]/\args=[WData.list (ns.map WData.int)]/\h.get? a=some {cls:=.type "list",data:=.seq vs.toArray}/\IntsAre vs ns/\ns.length<=n:=by
 have hsh:WShape.hasAll [] args [.list .int]=true:=(pre_splitW hpre).1;have hc:l.pre.holds [] {args:=args}=true:=(pre_splitW hpre).2;obtain⟨d,r,rfl,h1,h2⟩:=hasAllW_cons hsh;obtain rfl:=hasAllW_nil h2;obtain⟨xs,rfl,h3⟩:=hasW_list h1;obtain⟨ns,rfl⟩:=items_int h3
 have hlen:ns.length<=n:=by
   unfold OpenLaw.pre at hc
   have h4:(WTm.not (.lt (.lit (.int (n:Int))) (.len (.arg 0)))).holds [] {args:=[.list (ns.map .int)]}=true:=by
     have h4:=(holds_andW hc).1;rw[hn]at h4;exact h4
   have h5:=condW_of h4 (w_not (w_lt w_lit (w_len_list (w_arg rfl))));rw[we]at h5;refine Nat.le_of_not_lt λq=>?_
   have q':(n:Int)<((ns.length:Nat):Int):=by omega
   first
     | (rw[decide_eq_true q']at h5;exact absurd h5 (by decide))
     | (simp at h5;omega)
 cases hwl with
 | cons w1 w2 =>
   cases w2;cases w1 with
   | list ho hall=>exact⟨_,_,ns,rfl,rfl,ho,UZ ns _ hall,hlen⟩
theorem zvm(l:OpenLaw)(args:List WData):l.row.toRowW.claim.post args (.bool true) args=true :=
 postW_of (r:=l.row.toRowW) (X:=(true == true))
  (show WShape.has [] (.bool true) .bool=true by first | rfl | decide | simp[WShape.has,WShape.arms,WShape.armsAll])
  (show(WTm.eq .res (.lit (.bool true))).value [] {args:=args,res:=some (.bool true),after:=args}=some (.bool (true == true))from w_eq_bool (w_res rfl) w_lit) rfl
theorem RB{l:OpenLaw}{n:Nat}{q:Program}{loose:List Str}{XP:(Str->Option Value)->Heap->Prop}{YP:World->Heap->Prop}{d:DefRec}
  (hn:l.most=some n) (hdf:d.params.defaults=[])
  (call:∀(w:World)(s₀ s₁ : Shared)(mg mb:Str->Option Value)(fa:Addr)(o:Obj)(pm cd doc:Value)(a:Addr)(vs:List Value)(ns:List Int),
   Ground q loose [] XP w s₀ mg mb s₁.heap->YP w s₁.heap ->
   s₁.heap.get? fa=some o->o.data=.func (docDef d.name d.params d.body d.scope pm cd doc)->s₁.heap.CodeRec cd d.name->mg d.name=some (.ref fa) ->
   s₁.heap.get? a=some {cls:=.type "list",data:=.seq vs.toArray}->IntsAre vs ns->ns.length<=n->s₁.gens = #[] ->
   codeAny (model l.prog w) callerA (.call (.ref fa) ⟨[.ref a],[]⟩) (λr s'=>r=.ok (.ret (.bool true))/\OldK s₁.heap s'.heap/\s'.os=s₁.os/\AllBare s'.gens) s₁) :
  WalkO q loose XP YP l.row.toRowW d [] (λf vs=>XE f vs):=by
 intro w s₀ s₁ mg mb G Y fa o pm cd doc dV kV ho hd hcd hD hmg hg args vals as hpre hlay hrd hwl hlo;obtain rfl:dV=.none:=Dflts.none hD hdf;obtain rfl:kV=.none:=Dflts.noKw hD;obtain⟨a,vs,ns,rfl,rfl,hobj,hints,hlen⟩:=zva hn hpre hwl;refine enter_call (codeAny_mono (call w s₀ s₁ mg mb fa o pm cd doc a vs ns G Y ho (fd_plain hd) hcd hmg hobj hints hlen hg) λr s' hq=>?_);obtain⟨rfl,h2,h3,h4⟩:=hq;exact⟨.inl ⟨.bool true,.bool true,[],rfl,λ_=>rfl,.bool true,zvm l _,λ_=>⟨qU.nil,λ_ hm=>(nomatch hm)⟩⟩,h2,h3,h4⟩
section
variable{prog:Program}{w:World}{A:Around}{E:Value->Shared->Prop}{s:Shared}{K:Frag}
def zCQ(h:Heap)(L d:Addr):List (Addr × Obj):=(wl h.objs.size).filterMap λa=>if a=L\/a=d then none else(h.get? a).map λo=>(a,o)
end
end Att
namespace L2
open PySem PySem.Spec PyProof.Rows
theorem Oj:∀{vs:List Value}{ns:List Int},IntsAre vs ns->aM (ns.map V.int) vs
 | _,_,.nil=>.nil
 | _,_,.cons n t h=>.cons ⟨t,rfl⟩ (Oj h)
def rB(H:Hp):Prop:=∀b,H b=none \/ ∃o xs,H b=some (.fi o (.lst xs))
theorem zxG{P:Program}{w:World}{K:wb}{mg mb:Str->Option Value}{CX:fv}{k:Nat}{fa a:Addr}{fd:FuncData}{x:Str}{sp:Sp}{s₁ : Shared}{vs:List Value}{ns:List Int}
   (KX:K.In s₁.heap) (hns:s₁.heap.Ns mainGlobals mg) (hb:s₁.heap.Ns builtinsNs mb) (hbb:∀x:Str,x≠"__name__" -> mb x=bootBuiltins x) (hlim:s₁.heap.NoLimit) (hg:s₁.gens = #[])
   (ha:s₁.heap.get? a=some {cls:=.type "list",data:=.seq vs.toArray}) (hi:IntsAre vs ns) (hl:ns.length<=sizeLine) (hr:dJ k callerA)
   (F:∀base:Heap,K.In base->base.Ns mainGlobals mg->aJ P w K mg base CX k fa fd [x] sp) (hbind:∀(s:Shared)(u:Value),BindsTo s fd ⟨[u],[]⟩ [(x,u)])
   (hsp:∀H:Hp,rB H->aK K H a (ns.map V.int)->sp [.ref a] H (λv _=>v=.bl true) λ_ _ _=>False)
   (hCX:∀H e s',CX [] H s₁ (λ_ _ _=>False) e s'->False) :
   codeAny (model P w) callerA (.call (.ref fa) ⟨[.ref a],[]⟩) (λr s'=>r=.ok (.ret (.bool true))/\OldK s₁.heap s'.heap/\s'.os=s₁.os/\AllBare s'.gens) s₁:=by
 have rv:=Oj hi;have lenV:=hi.length
 -- from an abstract heap in which nothing but the script may be tracked
 have core:∀H:Hp,rB H->aK K H a (ns.map V.int)->cT P w H s₁.heap->(∀b,H b≠none->b=a)->(H a≠none->K.lookup a=none) ->
     codeAny (model P w) callerA (.call (.ref fa) ⟨[.ref a],[]⟩) (λr s'=>r=.ok (.ret (.bool true))/\OldK s₁.heap s'.heap/\s'.os=s₁.os/\AllBare s'.gens) s₁:=by
   intro H hO hS aG hA hK;have base_of:∀{b:Addr}{o:Obj},s₁.heap.get? b=some o->H b=none->(jH s₁.heap H).get? b=some o:=λe n=>zxr e n
   have noA:∀{b:Addr}{o:Obj}{es:Array DictEntry}{ep:Nat},s₁.heap.get? b=some o->o.data=.dict es ep->H b=none:=λ{b o es ep} e d=>by
     cases q:H b with
     | none=>rfl
     | some u =>
       have e':b=a:=hA b (by rw[q];simp);subst e';rw[ha]at e;cases e;have d':Data.seq vs.toArray _=Data.dict es ep:=d;cases d'
   have nsK:∀{b:Addr}{m:Str->Option Value},s₁.heap.Ns b m->(jH s₁.heap H).Ns b m:=λ{b m} ⟨o,es,ep,e,d,r⟩=>⟨o,es,ep,base_of e (noA e d),d,r⟩
   have hKb:K.In (jH s₁.heap H):=λb o e=>base_of (KX b o e) (by
     cases q:H b with
     | none=>rfl
     | some u =>
       have e':b=a:=hA b (by rw[q];simp);subst e';rw[hK (by rw[q];simp)]at e;cases e)
   have hM:Mod K mg (jH s₁.heap H):=⟨hKb,nsK hns,⟨mb,nsK hb,hbb⟩,let ⟨mc,h1,h2⟩:=hlim;⟨mc,nsK h1,h2⟩⟩;have e0:oN P w K mg (jH s₁.heap H) callerA [] s₁ H:=⟨rfl,hM,λb o e=>ZN e,Nat.le_of_eq (UJ _ _),trivial,λb hb=>absurd (show b∈([]:List Addr)from hb) (by simp),aG,.of_eq hg⟩;refine codeAny_mono ((F _ hKb (nsK hns)).run callerA [] s₁ H ⟨[.ref a],[]⟩ [.ref a] [.ref a] _ _ hr e0 (hbind s₁ (.ref a)) (.cons rfl .nil) (hsp H hO hS)) λr s' h=>?_
   cases r with
   | error e=>exact(hCX H e s' h).elim
   | ok fl =>
     cases fl with
     | next=>exact Wp h
     | brk=>exact Wp h
     | cont=>exact Wp h
     | ret u =>
       obtain⟨v,H',os,bare,un,hok',r',q⟩:=h;have q':v=.bl true:=q;subst q';obtain rfl:u=Value.bool true:=r';refine⟨rfl,OldK.of_keep λb o e=>?_,os,bare⟩;cases q:H b with
       | none=>exact un.keep b o e q (by intro z;exact absurd (show b∈([]:List Addr)from z) (by simp)) (by simp)
       | some u =>
         rcases hO b with z | ⟨ob,xs,z⟩
         . rw[q]at z;cases z
         . have z2:=un.gA b ob _ z
           obtain⟨e1,_⟩:=aG b _ z;obtain⟨e2,_⟩:=hok' b _ z2;rw[e]at e1;cases e1;exact e2
 cases hk:K.lookup a with
 | some o =>
   -- the script is one of the module's own objects
   have e:=KX a o hk;rw[ha]at e;cases e;refine core (λ_=>none) (λ_=>.inl rfl) (.inr ⟨_,vs.toArray,_,hk,rfl,rfl,rfl,by rw[wC,lenV];exact hl,by simpa using rv⟩) (λb u z=>by have z':(none:Option HO)=some u:=z;cases z') (λb z=>absurd rfl z) λz=>absurd rfl z
 | none =>
   refine core (λb=>if b=a then some (.fi {cls:=.type "list",data:=.seq vs.toArray} (.lst (ns.map V.int)))else none) (λb=>?_) (.inl (.inr ⟨{cls:=.type "list",data:=.seq vs.toArray},if_pos rfl⟩)) (λb u z=>?_) (λb z=>?_) λ_=>hk
   . by_cases hb:b=a
     . exact .inr ⟨_,_,if_pos hb⟩
     . exact .inl (if_neg hb)
   . by_cases hb:b=a
     . have z':=(if_pos hb).symm.trans z
       cases z';subst hb;exact⟨ha,by rw[we];exact hl,vs,_,rv,ha⟩
     . have z':=(if_neg hb).symm.trans z
       cases z'
   . by_cases hb:b=a
     . exact hb
     . exact absurd (if_neg hb) z
abbrev KOf{K:wb}{h:Heap}(_:K.In h):wb:=K
theorem RN{l:Qx}{n k:Nat}{q:Program}{loose:List Str}{XP:(Str->Option Value)->Heap->Prop}{YP:World->Heap->Prop}{d:DefRec}{K:Params->wb}{CX:World->fv}{sp:World->Sp}{x:Str}
   (hn:l.most=some n) (hn2:n<=sizeLine) (hdf:d.params.defaults=[]) (hr:dJ k callerA)
   (hY:∀(w:World)(h:Heap),YP w h->(K w.params).In h)
   (F:∀(w:World)(mg:Str->Option Value)(fa:Addr)(h:Heap),(K w.params).In h->h.Ns mainGlobals mg->mg d.name=some (.ref fa) ->
     ∃fd:FuncData,(∀(s:Shared)(u:Value),BindsTo s fd ⟨[u],[]⟩ [(x,u)]) /\
       ∀base:Heap,(K w.params).In base->base.Ns mainGlobals mg->aJ l.prog w (K w.params) mg base (CX w) k fa fd [x] (sp w))
   (hsp:∀(w:World)(H:Hp)(a:Addr)(ns:List Int),ns.length<=n->rB H->aK (K w.params) H a (ns.map V.int)->sp w [.ref a] H (λv _=>v=.bl true) λ_ _ _=>False)
   (hCX:∀(w:World)(H:Hp)(s:Shared)(e:Value)(s':Shared),CX w [] H s (λ_ _ _=>False) e s'->False) :
   ub q loose XP YP l.row.toRowW d [] (λf vs=>XE f vs):=by
 refine Att.RB hn hdf λw s₀ s₁ mg mb fa o pm cd doc a vs ns G Y ho hd hcd hmg hobj hints hlen hg=>?_
 have KX:=hY w _ Y;obtain⟨fd,hb,hF⟩:=F w mg fa _ KX G.T.g hmg;exact zxG KX G.T.g G.T.b G.T.builtins G.T.nolimit hg hobj hints (vA hlen hn2) hr hF hb (λH hO hS=>hsp w H a ns hlen hO hS) λH e s'=>hCX w H s₁ e s'
def mw(s:Stmt):Arguments:=match s with
 | .FunctionDef _ a _ _ _ _ _ _ _ _=>a
 | _=>{posonlyargs:=[],args:=[],vararg:=none,kwonlyargs:=[],kw_defaults:=[],kwarg:=none,defaults:=[]}
def jX(s:Stmt):List Stmt:=match s with
 | .FunctionDef _ _ b _ _ _ _ _ _ _=>b
 | _=>[]
def aC(s:Stmt):Scope:=match s with
 | .FunctionDef _ _ _ _ _ _ sc _ _ _=>sc
 | _=>{kind:=.function,names:=[],isGenerator:=false,isCoroutine:=false}
abbrev aT:fv:=λ_ _ _ _ _ _=>False
abbrev E0:XK:=λ_ _ _=>False
theorem Y0{X:Cx} : mQ aT X E0:=λ_ _ _ _ _ _ _ h=>h.elim
structure km(K:wb)(x qual:Str)(st:Stmt)(f:Addr)(fd:FuncData):Prop where
 ex:∃(oc:Value)(od:Option Addr)(kV doc pm:Value)(an:Option Addr)(cdv ct:Value)(osl:Array (Option Value)),
   fd=Vi x qual (mw st) (jX st) (aC st) .none kV doc pm an cdv ct/\K.lookup f=some ⟨oc,od,.func fd,osl⟩/\qC K cdv qual=true
 kp:Vg K (.ref f)=true
section
variable{P:Program}{w:World}{K:wb}{mg:Str->Option Value}{base:Heap}
theorem km.ok{x qual:Str}{st:Stmt}{f:Addr}{fd:FuncData}{N ps:List Str}{k:Nat}{sp:Sp}(F:km K x qual st f fd)(S:aU N ps (aC st))(len:∀vs H Q E,sp vs H Q E->vs.length=ps.length)
   (hbody:∀(cdv:Value)(A:Around)(outer:List Env)(s:Shared)(H:Hp)(vs:List V)(Q:VK)(E:XK),dJ k (A.deeper (envOfC qual (aC st) s.heap.objs.size f cdv))->sp vs H Q E ->
     ∃t,eW (iQ aT P w K mg base N qual (aC st) f cdv A outer s H E).rY (jX st) t/\t {nx:=λ_ H'=>Q .bj H',rt:=Q} (start N vs) H):aJ P w K mg base aT (k+1) f fd ps sp:=by
 obtain⟨oc,od,kV,doc,pm,an,cdv,ct,osl,rfl,lk,hcd⟩:=F.ex;refine Ie lk hcd S len λA outer s H vs Q E hr hsp=>?_
 obtain⟨t,h,q⟩:=hbody cdv A outer s H vs Q E hr hsp;exact⟨t,h.rY,q⟩
theorem km.binds{x qual:Str}{st:Stmt}{f:Addr}{fd:FuncData}{ps:List Str}(F:km K x qual st f fd)
  (h:∀(kV doc pm:Value)(an:Option Addr)(cdv ct:Value)(us:List Value),us.length=ps.length->bindArgs (Vi x qual (mw st) (jX st) (aC st) .none kV doc pm an cdv ct) ⟨us,[]⟩=pure (ps.zip us)):lu K fd ps []:=by
 obtain⟨oc,od,kV,doc,pm,an,cdv,ct,osl,rfl,lk,hcd⟩:=F.ex;exact .all (h kV doc pm an cdv ct)
theorem O1{x qual:Str}{st:Stmt}{f:Addr}{oc:Value}{od an:Option Addr}{osl:Array (Option Value)}{kV doc pm cdv ct:Value}(l:K.lookup f=some ⟨oc,od,.func (Vi x qual (mw st) (jX st) (aC st) .none kV doc pm an cdv ct),osl⟩)
  (c:qC K cdv qual=true) (k:Vg K (.ref f)=true):km K x qual st f (Vi x qual (mw st) (jX st) (aC st) .none kV doc pm an cdv ct):=⟨⟨oc,od,kV,doc,pm,an,cdv,ct,osl,rfl,l,c⟩,k⟩
end
theorem iJ{n:Nat}(h:n<=1000):n<sizeLine:=Ww h (by decide)
section
variable{X:Cx}
theorem pv(i:Nat){x:Str}{pos:Pos}(hN:X.N[i]? = some x:=by rfl)(hv:zI X.env.scope x:=by first | exact Or.inl rfl | exact Or.inr (Or.inl rfl) | exact Or.inr (Or.inr rfl))(hd:(x == ("__debug__" : Str))=false:=by decide)
  (hcd:(x == ("__classdict__" : Str))=false:=by decide):PE X (.Name x pos) (yC i):=zBr hN hv hd hcd
end
theorem l8{A B:Prop}(h:B):if false=true then A else B:=by
 rw[if_neg w5];exact h
theorem mq{A B:Prop}(h:A):if true=true then A else B:=by
 rw[if_pos rfl];exact h
def ah(H H':Hp):Prop:=∀b o,H b=some o->H' b=some o
theorem ah.refl(H:Hp):ah H H:=λ_ _ h=>h
theorem ah.trans{H H1 H2:Hp}(a:ah H H1)(b:ah H1 H2):ah H H2:=λc o h=>b c o (a c o h)
theorem ah.seq{K:wb}{H H':Hp}{a:Addr}{xs:List V}(e:ah H H')(h:aK K H a xs):aK K H' a xs:=by
 rcases h with(h | ⟨o,h⟩) | h
 ·exact .inl (.inl (e _ _ h))
 ·exact .inl (.inr ⟨o,e _ _ h⟩)
 ·exact .inr h
end L2
namespace GM
def dv(t b:Int):Int:=if b<0 then -((wZ t b:Nat):Int)else((wZ t b:Nat):Int)
theorem B1{t b:Int}(hb:b≠0):0<wZ t b:=VG t hb
theorem M7{t b:Int}(hb:b≠0):dv t b≠0:=by
 have:=B1 (t:=t) hb;unfold dv
 split<;>omega
theorem eY{a d:Int}(h:d ∣ a)(hd:d≠0):a.fdiv d=a / d:=by
 obtain⟨k,rfl⟩:=h;rw[Int.mul_fdiv_cancel_left _ hd,Vk _ hd]
theorem Nj{t b:Int}(hb:b≠0):t.fdiv (dv t b)=(wp t b).num:=by
 have hg:=B1 (t:=t) hb;have h1:((wZ t b:Nat):Int) ∣ t:=VM ..;rw[Rat.num_divInt,xA b t];unfold dv
 by_cases h:b<0
 ·rw[if_pos h,qV h,eY (Xa.mpr h1) (by omega),Int.ediv_neg]
  obtain⟨k,hk⟩:=h1;have:(-1:Int)*t=((wZ t b:Nat):Int)*(-k):=by rw[XF,Xb,<- hk]
  rw[this,Vk _ (by omega)];have e:t / ((wZ t b:Nat):Int)=k:=qN (by omega) hk;rw[e]
 ·rw[if_neg h,QJ (by omega),QK,eY h1 (by omega)]
theorem zAM{t b:Int}(hb:b≠0):b.fdiv (dv t b)=((wp t b).den:Int):=by
 have hg:=B1 (t:=t) hb;have h1:((wZ t b:Nat):Int) ∣ b:=qg ..;rw[X0,if_neg hb,xA b t];unfold dv
 by_cases h:b<0
 ·rw[if_pos h,eY (Xa.mpr h1) (by omega),Int.ediv_neg,Vl]
  obtain⟨k,hk⟩:=h1;have:(b.natAbs:Int)=((wZ t b:Nat):Int)*(-k):=by rw[Xb,<- hk];omega
  rw[this,Vk _ (by omega)];have e:b / ((wZ t b:Nat):Int)=k:=qN (by omega) hk;rw[e]
 ·rw[if_neg h,eY h1 (by omega),Vl]
  have:(b.natAbs:Int)=b:=by omega
  rw[this]
def gu(p q:Int):Bool:=decide (1<=q)&&decide (wZ p q=1)
theorem PU(r:Rat):gu r.num r.den=true:=by
 have h:=r.reduced;have hd:=r.den_pos;simp only[gu,wI,decide_eq_true_eq];refine⟨by omega,?_⟩;have:Nat.gcd r.num.natAbs r.den=1:=h
 simpa [wZ] using this
theorem UN{p q:Int}(h:gu p q=true):∃r:Rat,p=r.num/\q=(r.den:Int):=by
 simp only[gu,wI,decide_eq_true_eq]at h;obtain⟨h1,h2⟩:=h;refine⟨⟨p,q.toNat,by omega,?_⟩,rfl,by show q=((q.toNat:Nat):Int);omega⟩;have e:q.toNat=q.natAbs:=by omega
 rw[e];exact h2
theorem KY{a b:Int}(hb:0<b)(ha:0<=a):wZ b (a % b)=wZ a b:=by
 rw[xA a b];have e:a=a % b+b*(a / b):=(Int.emod_add_mul_ediv a b).symm
 conv=>rhs;rw[e]
 rw[Int.gcd_add_mul_left_right]
structure Bd(n:Nat)(x:Int):Prop where
 lt:x.natAbs<2^n
theorem Bd.mono{m n:Nat}{x:Int}(h:Bd m x)(e:m<=n):Bd n x:=⟨wG h.lt (Q9 (by decide) e)⟩
theorem Bd.mul{m n:Nat}{x y:Int}(h:Bd m x)(k:Bd n y):Bd (m+n) (x*y):=by
 refine⟨?_⟩;rw[QX,qK];exact Nat.mul_lt_mul'' h.lt k.lt
theorem Bd.add{m n:Nat}{x y:Int}(h:Bd m x)(k:Bd n y):Bd (max m n+1) (x+y):=by
 have h1:=(h.mono (XG m n)).lt;have h2:=(k.mono (Xk m n)).lt;refine⟨?_⟩;rw[Wk];omega
theorem Bd.sub{m n:Nat}{x y:Int}(h:Bd m x)(k:Bd n y):Bd (max m n+1) (x-y):=by
 have h1:=(h.mono (XG m n)).lt;have h2:=(k.mono (Xk m n)).lt;refine⟨?_⟩;rw[Wk];omega
theorem Bd.neg{n:Nat}{x:Int}(h:Bd n x):Bd n (-x):=⟨by rw[Int.natAbs_neg];exact h.lt⟩
theorem Bd.le{n:Nat}{x y:Int}(h:Bd n x)(e:y.natAbs<=x.natAbs):Bd n y:=⟨Ww e h.lt⟩
theorem Bd.log{n:Nat}{x:Int}(h:Bd n x)(hn:0<n):x.natAbs.log2<n:=by
 by_cases e:x.natAbs=0
 ·rw[e];exact hn
 ·exact(Nat.log2_lt e).mpr h.lt
theorem zBK(t b:Int)(hb:b≠0):(wp t b).num.natAbs<=t.natAbs:=by
 rw[<- Nj hb]
 have h1:dv t b ∣ t:=by
  have:((wZ t b:Nat):Int) ∣ t:=VM ..;unfold dv;split
  ·exact Xa.mpr this
  ·exact this
 rw[eY h1 (M7 hb)];exact Qf t _
theorem Du(t b:Int)(hb:b≠0):(wp t b).den<=b.natAbs:=by
 rw[X0,if_neg hb];exact Nat.div_le_self _ _
structure ag(n:Nat)(x:Rat):Prop where
 t:Bd n x.num
 b:Bd n (x.den:Int)
theorem ag.mono{m n:Nat}{x:Rat}(h:ag m x)(e:m<=n):ag n x:=⟨h.t.mono e,h.b.mono e⟩
theorem ag.divInt{n:Nat}{t b:Int}(hb:b≠0)(h1:Bd n t)(h2:Bd n b):ag n (wp t b) :=
 ⟨h1.le (zBK t b hb),h2.le (by have:=Du t b hb;simpa using this)⟩
theorem Bd.jQ{m:Int}(h1 : -100000000000000000000000000000000000000<=m)(h2:m<=100000000000000000000000000000000000000):Bd 128 m:=⟨by
 have e:(2:Nat)^128=340282366920938463463374607431768211456:=by decide
 rw[e];omega⟩
theorem gj(x:Rat):(x.den:Int)≠0:=by have:=x.den_pos;omega
theorem den_pos(x:Rat):(0:Int)<(x.den:Int):=by have:=x.den_pos;omega
theorem Dg(x y:Rat):(x.den:Int)*(y.den:Int)≠0:=Qy (gj x) (gj y)
theorem TX(x y:Rat):wp (x.num*(y.den:Int)+y.num*(x.den:Int)) ((x.den:Int)*(y.den:Int))=x+y:=by
 rw[<- WX,Ql,Rat.add_def']
theorem Jt(x y:Rat):wp (x.num*(y.den:Int)-y.num*(x.den:Int)) ((x.den:Int)*(y.den:Int))=x-y:=by
 rw[<- WX,Ql,Rat.sub_def']
theorem Lg(x y:Rat):wp (x.num*y.num) ((x.den:Int)*(y.den:Int))=x*y:=by
 rw[<- WX,Ql,Rat.mul_def']
theorem MV(x y:Rat):wp (x.num*(y.den:Int)) ((x.den:Int)*y.num)=x / y:=by
 rw[QL,Rat.inv_def,<- QY,WR]
theorem UO(x y:Rat):decide (x.num*(y.den:Int)<y.num*(x.den:Int))=decide (x<y):=by
 rw[vc,decide_eq_true_eq,decide_eq_true_eq,Rat.lt_iff]
theorem sJ{y:Rat}(h:y≠0):y.num≠0:=λe=>h (Rat.num_eq_zero.mp e)
theorem ag.add{m n:Nat}{x y:Rat}(h:ag m x)(k:ag n y):ag (m+n+1) (x+y):=by
 rw[<- TX];refine ag.divInt (Dg x y) ?_ ((h.b.mul k.b).mono (by omega));exact((h.t.mul k.b).add (k.t.mul h.b)).mono (by omega)
theorem ag.sub{m n:Nat}{x y:Rat}(h:ag m x)(k:ag n y):ag (m+n+1) (x-y):=by
 rw[<- Jt];refine ag.divInt (Dg x y) ?_ ((h.b.mul k.b).mono (by omega));exact((h.t.mul k.b).sub (k.t.mul h.b)).mono (by omega)
theorem ag.mul{m n:Nat}{x y:Rat}(h:ag m x)(k:ag n y):ag (m+n) (x*y):=by
 rw[<- Lg];exact ag.divInt (Dg x y) (h.t.mul k.t) (h.b.mul k.b)
theorem ag.zero:ag 1 0:=⟨⟨by decide⟩,⟨by decide⟩⟩
theorem ag.one:ag 1 1:=⟨⟨by decide⟩,⟨by decide⟩⟩
def aB(a b:Rat):Nat->Rat
 | 0=>0
 | n+1=>a*aB a b n+b
def push(a b:Rat):Nat->Rat->Rat
 | 0,x=>x
 | n+1,x=>a*push a b n x+b
theorem gG(a b:Rat)(n:Nat)(x:Rat):push a b n x=a^n*x+aB a b n:=by
 induction n with
 | zero=>simp[push,aB,Rat.add_zero,VH]
 | succ n ih=>rw[push,ih,aB,Wl];grind
theorem zv0(a b:Rat)(m n:Nat)(x:Rat):push a b (m+n) x=push a b n (push a b m x):=by
 induction n with
 | zero=>rfl
 | succ n ih=>rw[<- W0,push,push,ih]
theorem ag.pow{k:Nat}{a:Rat}(h:ag k a)(n:Nat):ag (k*n+1) (a^n):=by
 induction n with
 | zero=>rw[VH];exact ag.one.mono (by omega)
 | succ n ih=>rw[Wl];exact(ih.mul h).mono (by rw[V2];omega)
theorem ag.aB{k:Nat}{a b:Rat}(h:ag k a)(hb:ag k b)(n:Nat):ag ((2*k+1)*n+1) (aB a b n):=by
 induction n with
 | zero=>exact ag.zero.mono (by omega)
 | succ n ih=>exact((h.mul ih).add hb).mono (by rw[V2];omega)
theorem cA(t:Int){u:Int}(hu:u≠0):(wp t u)*(u:Rat)=(t:Rat):=by
 rw[Rat.divInt_eq_div];exact Wx λz=>hu (WH.mp z)
theorem jl(x:Rat):x*((x.den:Int):Rat)=(x.num:Rat):=by
 have:=cA x.num (gj x)
 rwa[WR]at this
theorem fI{t u:Int}{x:Rat}(hu:u≠0)(h:x*(u:Rat)=(t:Rat)):wp t u=x:=by
 have h1:=cA t hu;have h2:(wp t u-x)*(u:Rat)=0:=by grind
 have h3:(u:Rat)≠0:=by
  intro z;exact hu (WH.mp z)
 have:=XH.mp h2
 grind
theorem zuI(a b:Rat)(t u:Int)(hu:u≠0):wp (a.num*b.den*t+b.num*a.den*u) (u*a.den*b.den)=a*wp t u+b:=by
 refine fI (Qy (Qy hu (gj a)) (gj b)) ?_;have h1:=cA t hu;have h2:=jl a;have h3:=jl b;simp only[vi,VU]
 grind
theorem Ln(a b:Rat)(n:Nat)(x y:Rat):push a b n y-push a b n x=a^n*(y-x):=by
 rw[gG,gG];grind
theorem pM{a:Rat}(h:0<a)(n:Nat):0<a^n:=Rat.pow_pos h
theorem zsi{a:Rat}(h:1<a)(n:Nat):1<a^(n+1):=by
 induction n with
 | zero=>simpa using h
 | succ n ih =>
  rw[Wl];have:=Vz (show 0<a^(n+1)-1 by grind) (show 0<a-1 by grind)
  grind
theorem zsf{a:Rat}(h0:0<a)(h:a<1)(n:Nat):a^(n+1)<1:=by
 induction n with
 | zero=>simpa using h
 | succ n ih =>
  rw[Wl];have:=Vz (show 0<1-a^(n+1) by grind) h0
  grind
theorem one_pow'(n:Nat):(1:Rat)^n=1:=by
 induction n with
 | zero=>rfl
 | succ n ih=>rw[Wl,ih,QM]
theorem kU{u:Int}(h:0<u):(0:Rat)<(u:Rat):=XI.mpr h
theorem Zd{t u:Int}(hu:0<u)(ht:0<t):0<wp t u:=by
 have e:=cA t (show u≠0 by omega);have:=kU ht;rw[<- e]at this;exact(Rat.mul_pos_iff_of_pos_right (kU hu)).mp this
theorem MI{t u c:Int}(hu:0<u)(h:t<=c*u):wp t u<=(c:Rat):=by
 have e:=cA t (show u≠0 by omega);refine Rat.le_of_mul_le_mul_right (c:=(u:Rat)) ?_ (kU hu);rw[e,<- vi];exact WO.mpr h
theorem Yd{t u c:Int}(hu:0<u)(h:t<c*u):wp t u<(c:Rat):=by
 have e:=cA t (show u≠0 by omega);refine Rat.lt_of_mul_lt_mul_right (c:=(u:Rat)) ?_ (vB (kU hu));rw[e,<- vi];exact QN.mpr h
theorem Ip{t u:Int}(hu:0<u):((wp t u).den:Int)<=u:=by
 have:=Du t u (by omega);omega
theorem zul{x:Rat}{c:Int}(h:x<=(c:Rat)):x.num<=c*x.den:=by
 have:=(xb x c).mp h
 simpa using this
theorem zAC{x:Rat}(h:0<=x):0<=x.num:=qa.mpr h
theorem ag.small{x:Rat}{c d:Nat}(h0:0<=x)(hc:x<=((c:Int):Rat))(hd:x.den<=d)(z:c*d<1024)(hd2:d<1024):ag 10 x:=by
 have h1:=zul hc;have h2:=zAC h0;have h3:(c:Int)*(x.den:Int)<=(c:Int)*(d:Int):=Int.mul_le_mul_of_nonneg_left (by omega) (by omega);have h4:(c:Int)*(d:Int)<1024:=by rw[<- WX];omega
 refine⟨⟨?_⟩,⟨?_⟩⟩
 ·show _<1024
  omega
 ·show _<1024
  omega
theorem JL{x:Rat}{z u:Int}(e:x=wp z u)(h1:1<=u)(h2:u<=8)(h3:1<=z)(h4:z<=4*u):0<x/\x<=4/\x.den<=8:=by
 subst e;refine⟨Zd (by omega) (by omega),MI (c:=4) (by omega) h4,?_⟩;have:=Ip (t:=z) (show 0<u by omega);omega
theorem Br{y:Rat}{r u:Int}(e:y=wp r u)(h1:1<=u)(h2:u<=12)(h3:0<=r)(h4:r<=u):0<=y/\y<=1/\y.den<=12:=by
 subst e;refine⟨xN h3 (by omega),MI (c:=1) (by omega) (by omega),?_⟩;have:=Ip (t:=r) (show 0<u by omega);omega
theorem ag.four:ag 3 4:=⟨⟨by decide +kernel⟩,⟨by decide +kernel⟩⟩
theorem mX{f:Rat->Rat}{xs:List Rat}{i:Nat}(h:i<xs.length):(xs.map f).getD i 0=f (xs.getD i 0):=by
 rw[wa,wa,wn,wc h]
 rfl
theorem UD{a b:Rat}(ha:0<a)(n:Nat)(x y:Rat):push a b n x<push a b n y ↔ x<y:=by
 have e:=Ln a b n x y;have p:=pM ha n
 constructor
 ·intro h
  have:0<a^n*(y-x):=by rw[<- e];grind
  have h2:=(Rat.mul_pos_iff_of_pos_left p).mp this
  grind
 ·intro h
  have:0<a^n*(y-x):=Vz p (by grind)
  grind
def df(a b:Rat)(n:Nat)(xs:List Rat)(i:Nat):List Rat:=(xs.map λx=>push a b n (x+(1-xs.getD i 0))).set i 0
def aH(a b:Rat)(ns:List Int)(xs:List Rat):Nat->List Rat
 | 0=>xs
 | k+1=>df a b (ns.getD k 0).toNat (aH a b ns xs k) k
theorem gB(a b:Rat)(n:Nat)(xs:List Rat)(i:Nat):(df a b n xs i).length=xs.length:=by simp[df]
theorem cJ(a b:Rat)(ns:List Int)(xs:List Rat):∀k,(aH a b ns xs k).length=xs.length
 | 0=>rfl
 | k+1=>by rw[aH,gB,cJ a b ns xs k]
theorem fA(a b:Rat)(n:Nat)(xs:List Rat)(i j:Nat)(hj:j<xs.length):(df a b n xs i).getD j 0=if j=i then 0 else push a b n (xs.getD j 0+(1-xs.getD i 0)):=by
 unfold df;rw[wa,W5]
 by_cases h:i=j
 ·subst h
  simp[hj]
 ·rw[if_neg h,if_neg (vX h),wn,wc hj]
  simp[wa,hj]
def Cm(m:Nat)(xs:List Rat):Prop:=∃B:Int,0<B/\Bd m B /\ ∀x∈xs,∃t:Int,x=wp t B/\Bd m t
theorem Cm.mono{m n:Nat}{xs:List Rat}(h:Cm m xs)(e:m<=n):Cm n xs:=by
 obtain⟨B,h0,h1,h2⟩:=h;exact⟨B,h0,h1.mono e,λx hx=>let ⟨t,e1,e2⟩:=h2 x hx;⟨t,e1,e2.mono e⟩⟩
theorem Cm.eX{m:Nat}{xs:List Rat}{x:Rat}(h:Cm m xs)(hx:x∈xs):ag m x:=by
 obtain⟨B,h0,h1,h2⟩:=h;obtain⟨t,rfl,ht⟩:=h2 x hx;exact ag.divInt (by omega) ht h1
theorem Cm.pos{m:Nat}{xs:List Rat}(h:Cm m xs):1<=m:=by
 obtain⟨B,h0,h1,_⟩:=h;cases m with
 | zero=>have:=h1.lt;simp at this;omega
 | succ m=>omega
theorem Cm.get{m:Nat}{xs:List Rat}(h:Cm m xs)(i:Nat):ag m (xs.getD i 0):=by
 rcases wt i xs.length with z | z
 ·rw[wa,wc z]
  exact h.eX (vd z)
 ·rw[wa,wA z]
  exact ag.zero.mono h.pos
theorem pW{a b:Rat}(ba:ag 10 a)(bb:ag 10 b){m:Nat}{t u:Int}(hu:0<u)(bt:Bd m t)(bu:Bd m u):∀n:Nat,0<u*((a.den:Int)*(b.den:Int))^n/\Bd (m+21*n) (u*((a.den:Int)*(b.den:Int))^n) /\
   ∃T:Int,push a b n (wp t u)=wp T (u*((a.den:Int)*(b.den:Int))^n)/\Bd (m+21*n) T
 | 0=>⟨by simpa using hu,by simpa using bu,t,by simp[push],by simpa using bt⟩
 | n+1=>by
   obtain⟨h1,h2,T,e,hT⟩:=pW ba bb hu bt bu n;have eb:u*((a.den:Int)*(b.den:Int))^(n+1)=u*((a.den:Int)*(b.den:Int))^n*(a.den:Int)*(b.den:Int):=by rw[Vm,<- Vu,Vu (u*_)]
   rw[eb];refine⟨vg (vg h1 (den_pos a)) (den_pos b),((h2.mul ba.b).mul bb.b).mono (by omega),a.num*(b.den:Int)*T+b.num*(a.den:Int)*(u*((a.den:Int)*(b.den:Int))^n),?_,(((ba.t.mul bb.b).mul hT).add ((bb.t.mul ba.b).mul h2)).mono (by omega)⟩;rw[push,e];exact(zuI a b T _ (by omega)).symm
theorem Cm.lG{m:Nat}{xs:List Rat}{a b:Rat}(h:Cm m xs)(ba:ag 10 a)(bb:ag 10 b)(n i:Nat):Cm (m+2+21*n) (df a b n xs i):=by
 obtain⟨B,h0,h1,h2⟩:=h
 have hz:∃z:Int,xs.getD i 0=wp z B/\Bd m z:=by
  rcases wt i xs.length with q | q
  ·rw[wa,wc q]
   exact h2 _ (vd q)
  ·rw[wa,wA q]
   exact⟨0,by simp,⟨by simp;exact vI m⟩⟩
 obtain⟨z,ez,hz⟩:=hz;have key:=λ(t:Int)(ht:Bd m t)=>pW ba bb h0 (show Bd (m+2) (t+B-z)from((ht.add h1).sub hz).mono (by omega)) (h1.mono (by omega)) n
 obtain⟨p1,p2,_⟩:=key 0 ⟨by simp;exact vI m⟩;refine⟨_,p1,p2,λx hx=>?_⟩
 have hx':x=0 \/ ∃y∈xs,x=push a b n (y+(1-xs.getD i 0)):=by
  unfold df at hx;rcases Qg hx with q | q
  ·obtain⟨y,hy,rfl⟩:=wJ.mp q
   exact .inr ⟨y,hy,rfl⟩
  ·exact .inl q
 rcases hx' with rfl | ⟨y,hy,rfl⟩
 ·exact⟨0,by simp,⟨by simp;exact vI _⟩⟩
 ·obtain⟨t,rfl,ht⟩:=h2 y hy
  obtain⟨_,_,T,e,hT⟩:=key t ht
  have e2:wp t B+(1-xs.getD i 0)=wp (t+B-z) B:=by
   rw[ez]
   symm
   refine fI (by omega) ?_;have q1:=cA t (show B≠0 by omega);have q2:=cA z (show B≠0 by omega);have q3:((t+B-z:Int):Rat)=(t:Rat)+(B:Rat)-(z:Rat):=by push_cast;rfl
   rw[q3,<- q1,<- q2]
   grind
  rw[e2];exact⟨T,e,hT⟩
theorem Cm.snoc{m:Nat}{xs:List Rat}(h:Cm m xs):Cm m (xs++[0]):=by
 obtain⟨B,h0,h1,h2⟩:=h;refine⟨B,h0,h1,λx hx=>?_⟩;rcases vM.mp hx with q | q
 ·exact h2 x q
 ·rw[wO.mp q]
  exact⟨0,by simp,⟨by simp;exact vI m⟩⟩
def upTo(ns:List Int)(k:Nat):Nat:=((ns.take k).map Qz).sum
theorem o_{ns:List Int}{k:Nat}(h:k<ns.length):upTo ns (k+1)=upTo ns k+(ns.getD k 0).toNat:=by
 unfold upTo;rw[qh,wc h,wa,wc h,w8,List.sum_append]
 show _+([ns[k].toNat]:List Nat).sum=_
 rw[List.sum_singleton]
 rfl
theorem Cm.rows{m:Nat}{xs:List Rat}{a b:Rat}{ns:List Int}(h:Cm m xs)(ba:ag 10 a)(bb:ag 10 b):∀k,k<=ns.length->Cm (m+2*k+21*upTo ns k) (aH a b ns xs k)
 | 0,_=>h.mono (by omega)
 | k+1,hk=>by
  have:=(Cm.rows h ba bb (ns:=ns) k (by omega)).lG ba bb (ns.getD k 0).toNat k;rw[aH];refine this.mono ?_;rw[o_ (by omega)];omega
theorem OD(a:Rat)(m:Nat):∀n:Nat,a^(m+n)=a^m*a^n
 | 0=>by rw[xB,VH,Rat.mul_one]
 | n+1=>by rw[<- W0,Wl,OD a m n,Wl,uc]
theorem Yn(a b:Rat)(n:Nat)(xs ys:List Rat)(i j:Nat)(hx:xs.length=ys.length)(hj:j<xs.length) :
   (df a b n xs i).getD j 0-(df a b n ys i).getD j 0=a^n*((xs.getD j 0-ys.getD j 0)-(xs.getD i 0-ys.getD i 0)):=by
 rw[fA a b n xs i j hj,fA a b n ys i j (by omega)]
 by_cases h:j=i
 . subst h
   rw[if_pos rfl,if_pos rfl]
   grind
 . rw[if_neg h,if_neg h,Ln]
   grind
theorem AB(a b:Rat)(ns:List Int)(xs ys:List Rat)(hx:xs.length=ys.length)(hn:ns.length=xs.length)(l:Nat)(hl:l+1=xs.length)(h0:xs.getD l 0=ys.getD l 0) :
   ∀k,k<=ns.length->∀j,j<xs.length->(aH a b ns xs k).getD j 0-(aH a b ns ys k).getD j 0=a^upTo ns k*((xs.getD j 0-ys.getD j 0)-(if k=0 then 0 else xs.getD (k-1) 0-ys.getD (k-1) 0))
 | 0,_,j,hj=>by simp[aH,upTo];grind
 | k+1,hk,j,hj=>by
   rw[aH,aH,Yn _ _ _ _ _ _ _ (by rw[cJ,cJ,hx]) (by rw[cJ];exact hj),AB a b ns xs ys hx hn l hl h0 k (by omega) j hj,AB a b ns xs ys hx hn l hl h0 k (by omega) k (by omega),o_ (by omega),OD];simp only[V3];rw[if_neg (show ¬ k+1=0 by omega)]
   grind
def kD(a b:Rat)(n:Nat)(xs:List Rat):List Rat:=(xs.tail.map λy=>push a b n (y+(1-xs.headD 0)))++[0]
def turned(a b:Rat)(ns:List Int)(xs:List Rat):Nat->List Rat
 | 0=>xs
 | k+1=>kD a b (ns.getD k 0).toNat (turned a b ns xs k)
theorem mm(a b:Rat)(ns:List Int)(xs:List Rat):∀k,k<=xs.length->turned a b ns xs k=(aH a b ns xs k).drop k++(aH a b ns xs k).take k
 | 0,_=>by simp[turned,aH]
 | k+1,hk=>by
  have hl:(aH a b ns xs k).length=xs.length:=cJ a b ns xs k;have hk':k<(aH a b ns xs k).length:=by omega
  rw[turned,mm a b ns xs k (by omega),aH];generalize aH a b ns xs k=r at *;generalize (ns.getD k 0).toNat=n;have e1:r.drop k=r[k]::r.drop (k+1):=VW hk';have e2:r.getD k 0=r[k]:=by rw[wa,wc hk'];rfl
  unfold kD df;rw[e1,e2,Xl,X1,List.headD_cons,List.drop_set_of_lt (by omega),w8,xk,W4]
  congr 1
  have hm:k<(r.map λx=>push a b n (x+(1-r[k]))).length:=by rw[we];exact hk'
  rw[ud];generalize (r.map λx=>push a b n (x+(1-r[k])))=s at hm ⊢;rw[List.take_set,qh,wc hm]
  show _=(s.take k++[s[k]]).set k 0
  have hlk:(s.take k).length=k:=by rw[vP];omega
  rw[List.set_append_right _ _ (by omega),hlk,WS]
  rfl
theorem Sw(a b:Rat)(ns:List Int)(xs:List Rat)(h:ns.length=xs.length):turned a b ns xs ns.length=aH a b ns xs ns.length:=by
 rw[mm a b ns xs _ (by omega)];have hl:(aH a b ns xs ns.length).length=xs.length:=cJ a b ns xs _;rw[QP (by omega),Wm (by omega),qr]
def nh(xs:List Rat):Nat->Int
 | 0=>1
 | k+1=>nh xs k*((xs.getD k 0).den:Int)
theorem OW(xs:List Rat):∀k,0<nh xs k
 | 0=>by show(0:Int)<1;decide
 | k+1=>vg (OW xs k) (den_pos _)
theorem LB(xs:List Rat):∀k j,j<k->((xs.getD j 0).den:Int) ∣ nh xs k
 | 0,j,h=>by omega
 | k+1,j,h=>by
  rcases wt j k with z | z
  ·exact VQ (LB xs k j z) (W6 ..)
  ·have:j=k:=by omega
   subst this;exact Xm ..
theorem Rj{xs:List Rat}{m:Nat}(h:∀i,ag m (xs.getD i 0)):∀k,Bd (m*k+1) (nh xs k)
 | 0=>⟨by show(1:Int).natAbs<_;simp⟩
 | k+1=>by
  rw[nh];refine((Rj h k).mul (h k).b).mono ?_;rw[qL];omega
theorem zsJ{x:Rat}{B:Int}(hB:0<B)(h:(x.den:Int) ∣ B):wp (x.num*B.fdiv x.den) B=x:=by
 obtain⟨c,rfl⟩:=h;rw[eY (W6 ..) (gj x),Vk _ (gj x)];refine fI (by omega) ?_;have:=jl x;rw[vi,vi,<- this]
 grind
theorem zyw{B d:Int}{m:Nat}(hd:0<d)(hB:0<B)(h:Bd m B):Bd m (B.fdiv d):=by
 refine h.le ?_;rw[W1 _ (by omega)];have h1:0<=B / d:=Int.ediv_nonneg (by omega) (by omega);have h2:B / d<=B:=Xn _ (by omega);omega
theorem B5(a b:Rat)(ns:List Int)(xs:List Rat){k:Nat}(hk:k<xs.length):(turned a b ns xs k).headD 0=(aH a b ns xs k).getD k 0:=by
 have hl:=cJ a b ns xs k;rw[mm a b ns xs k (by omega),VW (by omega),wa,wc (by omega)]
 rfl
theorem AS(a b:Rat)(ns:List Int)(xs:List Rat)(hx:0<xs.length):∀k,(turned a b ns xs k).length=xs.length
 | 0=>rfl
 | k+1=>by
  have:=AS a b ns xs hx k;rw[turned,kD,wH,we,Xo,this];simp;omega
theorem JV(x y:Rat):((x*y).num=x.num / (x.num.natAbs.gcd y.den:Nat)*(y.num / (y.num.natAbs.gcd x.den:Nat)))/\((x*y).den=x.den / (y.num.natAbs.gcd x.den)*(y.den / (x.num.natAbs.gcd y.den))):=by
 show(Rat.mul x y).num=_/\(Rat.mul x y).den=_
 unfold Rat.mul;simp only[Int.divExact_eq_ediv,Nat.divExact_eq_div]
 constructor<;>trivial
theorem Oz(x y:Rat):((x+y).num=(x.num*((y.den / x.den.gcd y.den:Nat):Int)+y.num*((x.den / x.den.gcd y.den:Nat):Int)) / (((x.num*((y.den / x.den.gcd y.den:Nat):Int)+y.num*((x.den / x.den.gcd y.den:Nat):Int)).natAbs.gcd (x.den.gcd y.den):Nat):Int))/\((x+y).den=x.den / (x.den.gcd y.den)*(y.den / ((x.num*((y.den / x.den.gcd y.den:Nat):Int)+y.num*((x.den / x.den.gcd y.den:Nat):Int)).natAbs.gcd (x.den.gcd y.den)))):=by
 show(Rat.add x y).num=_/\(Rat.add x y).den=_
 unfold Rat.add
 by_cases hg:x.den.gcd y.den=1
 ·simp[hg]
 ·simp only[hg,dite_false,Rat.maybeNormalize_eq]
  refine⟨by simp,?_⟩;simp;have:(x.num*((y.den / x.den.gcd y.den:Nat):Int)+y.num*((x.den / x.den.gcd y.den:Nat):Int)).natAbs.gcd (x.den.gcd y.den) ∣ y.den:=Nat.dvd_trans (xO _ _) (xO _ _);simp at this;rw[Nat.mul_div_assoc _ this]
def eK(x y:Rat):Int:=((wZ (x.den:Int) (y.den:Int):Nat):Int)
def kj(x y:Rat):Int:=x.num*(y.den:Int).fdiv (eK x y)+y.num*(x.den:Int).fdiv (eK x y)
def iF(x y:Rat):Int:=((wZ (kj x y) (eK x y):Nat):Int)
theorem rV(x y:Rat):0<eK x y:=by
 have:0<wZ (x.den:Int) (y.den:Int):=Int.gcd_pos_of_ne_zero_left _ (by have:=x.den_pos;omega);unfold eK;omega
theorem Cs(x y:Rat):0<iF x y:=by
 have:0<wZ (kj x y) (eK x y):=VG _ (by have:=rV x y;omega);unfold iF;omega
theorem Bw(x y:Rat):eK x y=((x.den.gcd y.den:Nat):Int):=by simp[eK,wZ]
theorem oq(x y:Rat):eK x y ∣ (x.den:Int):=VM ..
theorem sD(x y:Rat):eK x y ∣ (y.den:Int):=qg ..
theorem Uh(x y:Rat):iF x y ∣ kj x y:=VM ..
theorem CI(x y:Rat):iF x y ∣ eK x y:=qg ..
theorem NF(x y:Rat):kj x y=x.num*((y.den / x.den.gcd y.den:Nat):Int)+y.num*((x.den / x.den.gcd y.den:Nat):Int):=by
 have h:=rV x y;rw[kj,eY (sD x y) (by omega),eY (oq x y) (by omega),Bw,Vl,Vl]
theorem N0(x y:Rat):iF x y=(((x.num*((y.den / x.den.gcd y.den:Nat):Int)+y.num*((x.den / x.den.gcd y.den:Nat):Int)).natAbs.gcd (x.den.gcd y.den):Nat):Int):=by
 rw[iF,NF,Bw];simp[wZ]
theorem zyQ(x y:Rat):(kj x y).fdiv (iF x y)=(x+y).num:=by
 have h:=Cs x y;rw[eY (Uh x y) (by omega),(Oz x y).1,N0,NF]
theorem zzh(x y:Rat):(x.den:Int).fdiv (eK x y)*(y.den:Int).fdiv (iF x y)=((x+y).den:Int):=by
 have h:=Cs x y;have h2:=rV x y;rw[eY (VQ (CI x y) (sD x y)) (by omega),eY (oq x y) (by omega),(Oz x y).2,N0,Bw];simp only[WX,Vl]
def fV(x y:Rat):Int:=((wZ x.num (y.den:Int):Nat):Int)
theorem nz(x y:Rat):0<fV x y:=by
 have:0<wZ x.num (y.den:Int):=VG _ (by have:=y.den_pos;omega);unfold fV;omega
theorem yg(x y:Rat):fV x y ∣ x.num:=VM ..
theorem mh(x y:Rat):fV x y ∣ (y.den:Int):=qg ..
theorem tG(x y:Rat):fV x y=((x.num.natAbs.gcd y.den:Nat):Int):=by simp[fV,wZ]
theorem zy7(x y:Rat):x.num.fdiv (fV x y)*y.num.fdiv (fV y x)=(x*y).num:=by
 have h:=nz x y;have h2:=nz y x;rw[eY (yg x y) (by omega),eY (yg y x) (by omega),(JV x y).1,tG,tG]
theorem UA(x y:Rat):(x.den:Int).fdiv (fV y x)*(y.den:Int).fdiv (fV x y)=((x*y).den:Int):=by
 have h:=nz x y;have h2:=nz y x;rw[eY (mh x y) (by omega),eY (mh y x) (by omega),(JV x y).2,tG,tG];simp only[WX,Vl]
theorem kQ{n:Nat}{a d:Int}(h:Bd n a)(hd:d ∣ a)(hp:0<d):Bd n (a.fdiv d):=by
 rw[eY hd (by omega)];exact h.le (Qf a d)
theorem oX{n:Nat}{a d:Int}(h:Bd n a)(hd:d ∣ a)(ha:0<a):Bd n d :=
 h.le (ue (by omega) (Int.natAbs_dvd_natAbs.mpr hd))
theorem sO(t b:Int):wZ (if t<0 then -t else t) b=wZ t b:=by split<;>simp
theorem zyv{n:Nat}{y:Rat}(h:ag n y):ag n (-y):=⟨by simpa using h.t.neg,by simpa using h.b⟩
theorem zss(x y:Rat):x + -y=x-y:=(Rat.sub_eq_add_neg x y).symm
theorem yz{y:Rat}(h:0<y.num):(y⁻¹).num=(y.den:Int)/\((y⁻¹).den:Int)=y.num:=by
 have:¬ y.num<0:=by omega
 constructor
 ·rw[Rat.num_inv,QJ h,QK]
 ·rw[Rat.den_inv];split<;>omega
theorem tW{y:Rat}(h:y.num<0):(y⁻¹).num = -(y.den:Int)/\((y⁻¹).den:Int) = -y.num:=by
 constructor
 ·rw[Rat.num_inv,qV h,XF]
 ·rw[Rat.den_inv];split<;>omega
theorem Nc{n:Nat}{y:Rat}(h:ag n y)(hy:y≠0):ag n y⁻¹:=by
 have:=sJ hy
 by_cases p:0<y.num
 ·exact⟨by rw[(yz p).1];exact h.b,by rw[(yz p).2];exact h.t⟩
 ·have p:y.num<0:=by omega
  exact⟨by rw[(tW p).1];exact h.b.neg,by rw[(tW p).2];exact h.t.neg⟩
theorem Nd(x y:Rat):0<(x.den:Int)*(y.den:Int):=vg (den_pos x) (den_pos y)
theorem getD_mem{α : Type}{xs:List α}{d : α}{i:Nat}(h:i<xs.length):xs.getD i d∈xs:=by
 rw[wa,wc h];exact vd h
def jG(x:Rat):Bool:=(!decide (x<0))&&(decide (x<1)&&decide ((x.den:Int)<=60))
structure eA(x:Rat):Prop where
 nn:0<=x
 lt:x<1
 den:x.den<=60
theorem eA.is{x:Rat}(h:eA x):jG x=true:=by
 have h1:=h.nn;have h2:=h.lt;have h3:=h.den;have h4:¬ x<0:=Vd.mpr h1;have h5:(x.den:Int)<=60:=by omega
 simp[jG,h4,h2,h5]
theorem eA.eX{x:Rat}(h:eA x):ag 6 x:=by
 have h1:=h.nn;have h2:=h.lt;have h3:=h.den;have n0:0<=x.num:=qa.mpr h1
 have n1:x.num<x.den:=by
   have:=Rat.lt_iff x 1 |>.mp h2
   simpa using this
 exact ⟨⟨by have : (2 : Nat) ^ 6 = 64 := by decide
            omega⟩, ⟨by have : (2 : Nat) ^ 6 = 64 := by decide
                        omega⟩⟩
def mx(m:Rat)(l:List Rat):Rat:=l.foldl (λm x=>if m<x then x else m) m
theorem Ke:∀(l:List Rat)(m:Rat),m<=mx m l /\ ∀y∈l,y<=mx m l
 | [],m=>⟨Wn,λy h=>by cases h⟩
 | x::l,m=>by
  have h:=Ke l (if m<x then x else m);have e:mx m (x::l)=mx (if m<x then x else m) l:=rfl;rw[e]
  have h1:m<=(if m<x then x else m)/\x<=(if m<x then x else m):=by
   split
   ·rename_i z;exact⟨vB z,Wn⟩
   ·rename_i z;exact⟨Wn,Vd.mp z⟩
  refine⟨Qm h1.1 h.1,λy hy=>?_⟩;rcases wz.mp hy with rfl | hy
  ·exact Qm h1.2 h.1
  ·exact h.2 y hy
theorem BA:∀(l:List Rat)(m:Rat),mx m l=m\/mx m l∈l
 | [],m=>.inl rfl
 | x::l,m=>by
  have e:mx m (x::l)=mx (if m<x then x else m) l:=rfl;rw[e];rcases BA l (if m<x then x else m)with h | h
  ·rw[h]
   split
   ·exact .inr (wu ..)
   ·exact .inl rfl
  ·exact .inr (wo _ h)
theorem ya(m x:Rat)(l:List Rat):mx m (l++[x])=if mx m l<x then x else mx m l:=by
 unfold mx;rw[xP];rfl
def bV(xs:List Rat):Rat:=mx (xs.getD 0 0) xs
theorem Kg{xs:List Rat} : ∀y∈xs,y<=bV xs:=(Ke xs _).2
theorem gM{xs:List Rat}(h:1<=xs.length):bV xs∈xs:=by
 rcases BA xs (xs.getD 0 0)with e | e
 ·unfold bV
  rw[e,wa,wc (by omega)];exact vd _
 ·exact e
theorem mf{xs:List Rat}{i:Nat}(h:i<xs.length):xs.take (i+1)=xs.take i++[xs.getD i 0]:=by
 rw[qh,wa,wc h];rfl
theorem OQ{n:Nat}{xs:List Rat}(b:∀i,ag n (xs.getD i 0))(h1:1<=xs.length)(i:Nat):ag n (mx (xs.getD 0 0) (xs.take i)):=by
 rcases BA (xs.take i) (xs.getD 0 0)with e | e
 ·rw[e];exact b 0
 ·have e:=Xp _ _ e
  obtain⟨j,hj,ej⟩:=wK e;rw[<- ej];have:=b j;rw[wa,wc hj]at this;exact this
theorem LJ{r u:Int}(h0:0<=r)(h1:r<u)(h2:u<=60):eA (wp r u):=by
 refine⟨xN h0 (by omega),Yd (c:=1) (by omega) (by omega),?_⟩;have:=Du r u (by omega);omega
def aF(ps:List Rat)(left:List Nat):List Nat:=left.filter λw=>!decide (ps.getD w 0<1)
def bK(left wave:List Nat):List Nat:=left.filter λw=>!decide (w∈wave)
def cD(f g:Rat)(ps:List Rat)(l:List Nat):List Rat:=l.foldl (λps w=>ps.set w (f*ps.getD w 0+g)) ps
def cu(a b:Rat):Nat->List Rat->List Nat->List (List Nat) × (List Nat × List Rat)
 | 0,ps,left=>([],left,ps)
 | n+1,ps,left=>match aF ps left with
  | []=>([],left,ps)
  | w::ws=>((w::ws)::(cu a b n (cD (a^(w::ws).length) (aB a b (w::ws).length) ps (bK left (w::ws))) (bK left (w::ws))).1,(cu a b n (cD (a^(w::ws).length) (aB a b (w::ws).length) ps (bK left (w::ws))) (bK left (w::ws))).2)
def iK(left:List Nat)(ps:List Rat):List Rat:=(wl ps.length).map λi=>if i∈left then ps.getD i 0 else 0
def bA(xs:List Rat):List Rat:=xs.map (· + (1-bV xs))
def dZ(a b:Rat)(xs:List Rat):List (List Nat) × (List Nat × List Rat):=cu a b xs.length (bA xs) (wl xs.length)
def ck(a b:Rat)(xs:List Rat):List (List Nat):=(dZ a b xs).1
def cX(a b:Rat)(xs:List Rat):List Rat:=iK (dZ a b xs).2.1 (dZ a b xs).2.2
theorem nj{a b:Rat}{n:Nat}{ps:List Rat}{left:List Nat}(h:aF ps left=[]):cu a b n ps left=([],left,ps):=by
 cases n with
 | zero=>rfl
 | succ n=>rw[cu,h]
theorem iG{a b:Rat}{n:Nat}{ps:List Rat}{left:List Nat}(h:aF ps left≠[]):cu a b (n+1) ps left=(aF ps left::(cu a b n (cD (a^(aF ps left).length) (aB a b (aF ps left).length) ps (bK left (aF ps left))) (bK left (aF ps left))).1,(cu a b n (cD (a^(aF ps left).length) (aB a b (aF ps left).length) ps (bK left (aF ps left))) (bK left (aF ps left))).2):=by
 rw[cu];cases e:aF ps left with
 | nil=>exact absurd e h
 | cons w ws=>rfl
theorem zrN(f g:Rat)(ps:List Rat)(l:List Nat)(w:Nat):cD f g ps (l++[w])=(cD f g ps l).set w (f*(cD f g ps l).getD w 0+g):=by
 unfold cD;rw[xP];rfl
theorem g9(f g:Rat):∀(l:List Nat)(ps:List Rat),(cD f g ps l).length=ps.length
 | [],ps=>rfl
 | w::l,ps=>by
  show(cD f g (ps.set w _) l).length=_
  rw[g9 f g l,WW]
theorem NU{ps:List Rat}{w j:Nat}{y:Rat}(h:w≠j):(ps.set w y).getD j 0=ps.getD j 0:=by
 rw[wa,W5,if_neg h,wa]
theorem PH{ps:List Rat}{w:Nat}{y:Rat}(h:w<ps.length):(ps.set w y).getD w 0=y:=by
 rw[wa,W5,if_pos rfl,if_pos h];rfl
theorem iL(f g:Rat):∀(l:List Nat)(ps:List Rat),l.Nodup->(∀w∈l,w<ps.length)->∀j,(cD f g ps l).getD j 0=if j∈l then f*ps.getD j 0+g else ps.getD j 0
 | [],ps,_,_,j=>by simp[cD]
 | w::l,ps,nd,hl,j=>by
  have nd':=Wi.mp nd
  show(cD f g (ps.set w _) l).getD j 0=_
  rw[iL f g l _ nd'.2 (λv hv=>by rw[WW];exact hl v (wo _ hv)) j]
  by_cases hj:j=w
  ·subst hj
   rw[if_neg nd'.1,if_pos (wu ..),PH (hl j (wu ..))]
  ·rw[NU (vX hj)]
   by_cases hm:j∈l
   ·rw[if_pos hm,if_pos (wo _ hm)]
   ·rw[if_neg hm,if_neg (λz=>by rcases wz.mp z with z | z;(exact hj z);exact hm z)]
theorem YY(ps:List Rat)(left:List Nat):bK left (aF ps left)=left.filter λw=>decide (ps.getD w 0<1):=by
 unfold bK;refine ve λw hw=>?_
 have e:(w∈aF ps left)=(¬ ps.getD w 0<1):=by
  unfold aF;rw[wP];simp[hw]
 simp only[e];simp
theorem Dm(ps:List Rat)(left:List Nat):(aF ps left).length+(bK left (aF ps left)).length=left.length:=by
 rw[YY];unfold aF
 induction left with
 | nil=>rfl
 | cons w l ih=>by_cases h:ps.getD w 0<1<;>simp only[Wt,h,decide_true,decide_false,vR,qD,if_true,if_false,wL,wV]<;>omega
theorem mZ{left wave:List Nat}(h:left.Nodup):(bK left wave).Nodup:=h.filter _
theorem mJ{left wave:List Nat}{n:Nat}(h:∀w∈left,w<n):∀w∈bK left wave,w<n:=λw hw=>h w (wP.mp hw).1
theorem Oi(left:List Nat)(ps:List Rat):(iK left ps).length=ps.length:=by simp[iK]
theorem mT{left:List Nat}{ps:List Rat}{j:Nat}(h:j<ps.length):(iK left ps).getD j 0=if j∈left then ps.getD j 0 else 0:=by
 unfold iK;rw[wa,wn,vk h]
 rfl
theorem fg(xs:List Rat):(bA xs).length=xs.length:=by simp[bA]
theorem pI{a b:Rat} : ∀(n:Nat)(ps:List Rat)(left:List Nat),(cu a b n ps left).2.2.length=ps.length
 | 0,ps,left=>rfl
 | n+1,ps,left=>by
  by_cases h:aF ps left=[]
  ·rw[nj h]
  ·rw[iG h]
   show(cu a b n _ _).2.2.length=_
   rw[pI n,g9]
theorem iD(a b:Rat)(xs:List Rat):(cX a b xs).length=xs.length:=by
 unfold cX dZ;rw[Oi,pI,fg]
theorem Cm.Hz{m:Nat}{ps:List Rat}{B:Int}(h0:0<B)(h1:Bd m B)(h:∀j,j<ps.length->∃t:Int,ps.getD j 0=wp t B/\Bd m t):∀x∈ps,∃t:Int,x=wp t B/\Bd m t:=λx hx=>by
 obtain⟨j,hj,e⟩:=wK hx;have:=h j hj;rw[wa,wc hj]at this;rw[<- e];exact this
theorem u7{a b:Rat}(ba:ag 10 a)(bb:ag 10 b){m:Nat}{t:Int}(h:Bd m t):∀n:Nat,Bd (m+21*n) (t*((a.den:Int)*(b.den:Int))^n)
 | 0=>by simpa using h
 | n+1=>by
  rw[Vm,<- Vu];exact((u7 ba bb h n).mul (ba.b.mul bb.b)).mono (by omega)
theorem pO{t B d:Int}(h0:0<B)(hd:0<d):wp t B=wp (t*d) (B*d):=by
 symm
 refine fI (by have:=vg h0 hd;omega) ?_;have q1:=cA t (show B≠0 by omega);rw[vi,vi,<- uc,q1]
theorem Cm.wave{m:Nat}{h:Rat}{ps:List Rat}{a b:Rat}(c:Cm m (h::ps))(ba:ag 10 a)(bb:ag 10 b)(n:Nat){l:List Nat}(nd:l.Nodup)(hl:∀w∈l,w<ps.length):Cm (m+21*n) (h::cD (a^n) (aB a b n) ps l):=by
 obtain⟨B,h0,h1,h2⟩:=c;have hz:Bd m (0:Int):=⟨by simp;exact vI m⟩;obtain⟨p1,p2,_⟩:=pW ba bb h0 hz h1 n;have hd:0<((a.den:Int)*(b.den:Int))^n:=Xc (vg (den_pos a) (den_pos b));refine⟨_,p1,p2,λx hx=>?_⟩;rcases wz.mp hx with rfl | hx
 ·obtain⟨t,rfl,ht⟩:=h2 x (wu ..)
  exact⟨_,pO h0 hd,u7 ba bb ht n⟩
 ·refine Cm.Hz p1 p2 (λj hj=>?_) x hx
  rw[g9]at hj;obtain⟨t,e,ht⟩:=h2 (ps.getD j 0) (wo _ (getD_mem hj));rw[iL _ _ _ _ nd hl]
  split
  ·obtain⟨_,_,T,e2,hT⟩:=pW ba bb h0 ht h1 n
   exact⟨T,by rw[<- gG,e,e2],hT⟩
  ·exact⟨_,by rw[e];exact pO h0 hd,u7 ba bb ht n⟩
theorem Cm.rise{m:Nat}{h M:Rat}{xs:List Rat}(c:Cm m (h::xs))(hM:M∈xs):Cm (m+2) ((h+(1-M))::xs.map (· + (1-M))):=by
 obtain⟨B,h0,h1,h2⟩:=c;obtain⟨z,ez,hz⟩:=h2 M (wo _ hM)
 have key:∀t:Int,Bd m t->wp t B+(1-M)=wp (t+B-z) B/\Bd (m+2) (t+B-z):=λt ht=>by
  refine⟨?_,((ht.add h1).sub hz).mono (by omega)⟩;rw[ez]
  symm
  refine fI (by omega) ?_;have q1:=cA t (show B≠0 by omega);have q2:=cA z (show B≠0 by omega);have q3:((t+B-z:Int):Rat)=(t:Rat)+(B:Rat)-(z:Rat):=by push_cast;rfl
  rw[q3,<- q1,<- q2]
  grind
 refine⟨B,h0,h1.mono (by omega),λx hx=>?_⟩;rcases wz.mp hx with rfl | hx
 ·obtain⟨t,e,ht⟩:=h2 h (wu ..)
  rw[e];exact⟨_,(key t ht).1,(key t ht).2⟩
 ·obtain⟨y,hy,rfl⟩:=wJ.mp hx
  obtain⟨t,e,ht⟩:=h2 y (wo _ hy)
  show ∃t:Int,y+(1-M)=_/\_
  rw[e];exact⟨_,(key t ht).1,(key t ht).2⟩
theorem Cm.jO{m:Nat}{xs:List Rat}{ys:List Rat}(c:Cm m xs)(h:∀y∈ys,y∈xs\/y=0):Cm m ys:=by
 obtain⟨B,h0,h1,h2⟩:=c;refine⟨B,h0,h1,λy hy=>?_⟩;rcases h y hy with z | rfl
 ·exact h2 y z
 ·exact⟨0,by simp,⟨by simp;exact vI m⟩⟩
theorem zwL{left:List Nat}{ps:List Rat} : ∀y∈iK left ps,y∈ps\/y=0:=λy hy=>by
 unfold iK at hy;obtain⟨i,hi,e⟩:=wJ.mp hy;rw[<- e]
 split
 ·exact .inl (getD_mem (wx.mp hi))
 ·exact .inr rfl
theorem Cm.RT{k:Nat}{xs:List Rat}(h:∀i,ag k (xs.getD i 0)):Cm (k*xs.length+1+k) xs:=by
 have h0:=OW xs xs.length;have h1:=Rj h xs.length;refine⟨nh xs xs.length,h0,h1.mono (by omega),Cm.Hz h0 (h1.mono (by omega)) λj hj=>?_⟩;exact⟨_,(zsJ h0 (LB xs _ j hj)).symm,((h j).t.mul (zyw (den_pos _) h0 h1)).mono (by omega)⟩
def aj(a b:Rat)(xs:List Rat):Nat->List Rat
 | 0=>xs
 | k+1=>cX a b (aj a b xs k)
def aQ(a b:Rat)(xs:List Rat):Nat->Rat
 | 0=>0
 | k+1=>aQ a b xs k+(1-bV (aj a b xs k))
theorem bR(a b:Rat)(xs:List Rat):∀k,(aj a b xs k).length=xs.length
 | 0=>rfl
 | k+1=>by rw[aj,iD,bR a b xs k]
theorem rC{f:Rat->Rat}{xs:List Rat}{w:Nat}(h:w<xs.length):(xs.map f).getD w 0=f (xs.getD w 0):=by
 rw[wa,wn,wc h,wa,wc h];rfl
def pS(d:Int)(m:Nat)(xs:List Rat):Prop:=∃B:Int,0<B/\d ∣ B/\Bd m B /\ ∀x∈xs,∃t:Int,x=wp t B/\Bd m t
theorem pS.of{d:Int}{m:Nat}{xs:List Rat}(h:Cm m xs)(hd:0<d)(b:Bd 4 d):pS d (m+4) xs:=by
 obtain⟨B,h0,h1,h2⟩:=h;refine⟨B*d,vg h0 hd,Xm ..,(h1.mul b),λx hx=>?_⟩;obtain⟨t,e,ht⟩:=h2 x hx;exact⟨t*d,by rw[e];exact pO h0 hd,ht.mul b⟩
theorem Il{a b:Rat}(ta:Bd 6 a.num)(da:Bd 4 (a.den:Int))(tb:Bd 4 b.num){m:Nat}{t u:Int}(hu:0<u)(hd:(b.den:Int) ∣ u)(bt:Bd m t)(bu:Bd m u):∀n:Nat,0<u*(a.den:Int)^n/\(b.den:Int) ∣ u*(a.den:Int)^n/\Bd (m+9*n) (u*(a.den:Int)^n) /\
   ∃T:Int,push a b n (wp t u)=wp T (u*(a.den:Int)^n)/\Bd (m+9*n) T
 | 0=>⟨by simpa using hu,by simpa using hd,by simpa using bu,t,by simp[push],by simpa using bt⟩
 | n+1=>by
   obtain⟨h1,hdv,h2,T,e,hT⟩:=Il ta da tb hu hd bt bu n;have eb:u*(a.den:Int)^(n+1)=u*(a.den:Int)^n*(a.den:Int):=by rw[Vm,<- Vu]
   rw[eb];generalize u*(a.den:Int)^n=U at *;obtain⟨c,rfl⟩:=hdv
   have hc:0<c:=by
     have hb:=den_pos b;rcases Int.lt_or_le 0 c with z | z
     . exact z
     . have:=Int.mul_nonpos_of_nonneg_of_nonpos (Int.le_of_lt hb) z
       omega
   have bc:Bd (m+9*n) c:=h2.le (by
     rw[QX];exact Nat.le_mul_of_pos_left _ (by have:=den_pos b;omega))
   refine⟨vg h1 (den_pos a),VQ (W6 ..) (W6 ..),(h2.mul da).mono (by omega),a.num*T+b.num*(a.den:Int)*c,?_,((ta.mul hT).add ((tb.mul da).mul bc)).mono (by omega)⟩;rw[push,e]
   symm
   have hU:((b.den:Int)*c)*(a.den:Int)≠0:=by have:=vg h1 (den_pos a);omega
   refine fI hU ?_;have q1:=cA T (show(b.den:Int)*c≠0 by omega);have q2:=jl a;have q3:=jl b;have q4:((a.num*T+b.num*(a.den:Int)*c:Int):Rat)=(a.num:Rat)*(T:Rat)+(b.num:Rat)*((a.den:Int):Rat)*(c:Rat):=by push_cast;rfl
   have q5:(((b.den:Int)*c*(a.den:Int):Int):Rat)=((b.den:Int):Rat)*(c:Rat)*((a.den:Int):Rat):=by push_cast;rfl
   have q6:(((b.den:Int)*c:Int):Rat)=((b.den:Int):Rat)*(c:Rat):=by push_cast;rfl
   rw[q6]at q1;rw[q4,q5,<- q1,<- q2,<- q3]
   grind
theorem eT(a b:Rat)(xs:List Rat)(m:Nat):∀k,aj a b (aj a b xs m) k=aj a b xs (m+k)
 | 0=>rfl
 | k+1=>by rw[aj,eT a b xs m k];rfl
theorem mB(a b:Rat)(xs:List Rat)(m:Nat):∀k,aQ a b xs m+aQ a b (aj a b xs m) k=aQ a b xs (m+k)
 | 0=>by show aQ a b xs m+0=aQ a b xs m;grind
 | k+1=>by
  have:=mB a b xs m k
  show aQ a b xs m+(aQ a b (aj a b xs m) k+(1-bV (aj a b (aj a b xs m) k)))=aQ a b xs (m+k)+(1-bV (aj a b xs (m+k)))
  rw[eT,<- this]
  grind
theorem Kh{a b:Rat}(a0:0<a)(b0:0<=b){x:Rat}(h:0<x):∀n:Nat,0<push a b n x
 | 0=>h
 | n+1=>by
  have h1:=Kh a0 b0 h n;have h2:=Vz a0 h1
  show 0<a*push a b n x+b
  grind
structure gH(l:List Rat):Prop where
 pw:l.Pairwise (· > ·)
 nn:∀y∈l,0<=y
theorem gH.step{a b:Rat}(a0:0<a)(b0:0<=b){n:Nat}{x:Rat}{l:List Rat}(h:gH (x::l))(x1:x<1):gH (kD a b n (x::l)):=by
 have hp:=Wy.mp h.pw;have pos:∀y∈l,0<push a b n (y+(1-x)):=λy hy=>Kh a0 b0 (by have:=h.nn y (wo _ hy);grind) n
 unfold kD;refine⟨VN.mpr ⟨?_,Qs _ _,?_⟩,λy hy=>?_⟩
 ·show(l.map λy=>push a b n (y+(1-x))).Pairwise (· > ·)
  rw[VC];refine hp.2.imp λ{y z} hyz=>?_
  show push a b n (z+(1-x))<push a b n (y+(1-x))
  have hyz:z<y:=hyz;exact(UD a0 n _ _).mpr (by grind)
 ·intro y hy z hz
  obtain⟨w,hw,rfl⟩:=wJ.mp hy;rw[wO.mp hz];exact pos w hw
 ·rcases vM.mp hy with hy | hy
  ·obtain⟨w,hw,rfl⟩:=wJ.mp hy
   exact vB (pos w hw)
  ·rw[wO.mp hy];exact Wn
structure gb(xs row:List Rat)(fl:Nat->Nat):Prop where
 at':∀w,w<xs.length->xs.getD w 0=row.getD (fl w) 0
 lt:∀w,w<xs.length->fl w<row.length
def aZ(n:Nat)(fl:Nat->Nat)(c:Nat):List Nat:=(wl n).filter λw=>decide (fl w=c)
theorem pX{xs row:List Rat}{fl:Nat->Nat}{c:Nat}(h:gb xs row fl)(some:∃w,w<xs.length/\fl w=c)(top:∀j,j<row.length->j≠c->row.getD j 0<row.getD c 0):bV xs=row.getD c 0:=by
 obtain⟨w,hw,rfl⟩:=some;have h1:1<=xs.length:=by omega
 refine Rat.le_antisymm ?_ ?_
 ·obtain⟨j,hj,e⟩:=wK (gM h1)
  have ea:=h.at' j hj;rw[wa,wc hj]at ea;have ea:xs[j]=row.getD (fl j) 0:=ea;rw[<- e,ea]
  by_cases z:fl j=fl w
  ·rw[z];exact Wn
  ·exact vB (top _ (h.lt j hj) z)
 ·rw[<- h.at' w hw]
  exact Kg _ (getD_mem hw)
theorem B9{xs row:List Rat}{fl:Nat->Nat}{c:Nat}(h:gb xs row fl)(some:∃w,w<xs.length/\fl w=c)(top:∀j,j<row.length->j≠c->row.getD j 0<row.getD c 0):aF (bA xs) (wl xs.length)=aZ xs.length fl c:=by
 unfold aF aZ;refine ve λw hw=>?_
 have hw:=wx.mp hw;have hm:=pX h some top
 have e:(bA xs).getD w 0=row.getD (fl w) 0+(1-row.getD c 0):=by
  unfold bA;rw[wa,wn,wc hw,hm];have ea:=h.at' w hw;rw[wa,wc hw]at ea;have ea:xs[w]=row.getD (fl w) 0:=ea
  show xs[w]+(1-row.getD c 0)=_
  rw[ea]
 rw[e]
 by_cases z:fl w=c
 ·rw[z,decide_eq_true rfl,decide_eq_false (by grind)];rfl
 ·have:=top _ (h.lt w hw) z
  rw[decide_eq_false z,decide_eq_true (by grind)];rfl
theorem Lj{xs row:List Rat}{fl:Nat->Nat}{c:Nat}(h:gb xs row fl)(hm:bV xs=row.getD c 0){w:Nat}(hw:w<xs.length):(bA xs).getD w 0=row.getD (fl w) 0+(1-row.getD c 0):=by
 unfold bA;rw[wa,wn,wc hw,hm];have ea:=h.at' w hw;rw[wa,wc hw]at ea;have ea:xs[w]=row.getD (fl w) 0:=ea
 show xs[w]+(1-row.getD c 0)=_
 rw[ea]
theorem ZV{a b:Rat}{xs row:List Rat}{fl:Nat->Nat}{c:Nat}(h:gb xs row fl)(some:∃w,w<xs.length/\fl w=c)(top:∀j,j<row.length->j≠c->row.getD j 0<row.getD c 0)
   (low:∀j,j<row.length->j≠c->(∃w,w<xs.length/\fl w=j)->push a b (aZ xs.length fl c).length (row.getD j 0+(1-row.getD c 0))<1) :
   ck a b xs=[aZ xs.length fl c]/\gb (cX a b xs) (df a b (aZ xs.length fl c).length row c) fl:=by
 have hm:=pX h some top;have he:=B9 h some top;obtain⟨w0,hw0,hf0⟩:=some
 have hne:aZ xs.length fl c≠[]:=λe=>by
   have:w0∈aZ xs.length fl c:=wP.mpr ⟨wx.mpr hw0,decide_eq_true hf0⟩;rw[e]at this;cases this
 have hlen:xs.length=(xs.length-1)+1:=by omega
 have hcl:c<row.length:=by rw[<- hf0];exact h.lt w0 hw0
 have nd:=Wu (n:=xs.length)
 have hmemL:∀w,w∈bK (wl xs.length) (aZ xs.length fl c) ↔ w<xs.length/\fl w≠c:=λw=>by
   unfold bK aZ;rw[wP,wx]
   constructor
   . rintro ⟨h1,h2⟩
     refine⟨h1,λz=>?_⟩;have:w∈(wl xs.length).filter λw=>decide (fl w=c):=wP.mpr ⟨wx.mpr h1,decide_eq_true z⟩
     simp[this]at h2
   . rintro ⟨h1,h2⟩
     exact⟨h1,by simp[h2]⟩
 have hps:∀w,w<xs.length->fl w≠c->(cD (a^(aZ xs.length fl c).length) (aB a b (aZ xs.length fl c).length) (bA xs) (bK (wl xs.length) (aZ xs.length fl c))).getD w 0=push a b (aZ xs.length fl c).length (row.getD (fl w) 0+(1-row.getD c 0)):=λw hw hf=>by
   rw[iL _ _ _ _ (mZ nd) (λv hv=>by rw[fg];exact((hmemL v).mp hv).1),if_pos ((hmemL w).mpr ⟨hw,hf⟩),Lj h hm hw,gG]
 have hend:aF (cD (a^(aZ xs.length fl c).length) (aB a b (aZ xs.length fl c).length) (bA xs) (bK (wl xs.length) (aZ xs.length fl c))) (bK (wl xs.length) (aZ xs.length fl c))=[]:=by
   unfold aF;rw[QQ];intro w hw;have hw':=(hmemL w).mp hw;rw[hps w hw'.1 hw'.2];have:=low (fl w) (h.lt w hw'.1) hw'.2 ⟨w,hw'.1,rfl⟩;rw[decide_eq_true this]
   decide
 have hR:dZ a b xs=([aZ xs.length fl c],bK (wl xs.length) (aZ xs.length fl c),cD (a^(aZ xs.length fl c).length) (aB a b (aZ xs.length fl c).length) (bA xs) (bK (wl xs.length) (aZ xs.length fl c))):=by
   unfold dZ;generalize hN:cu a b xs.length (bA xs) (wl xs.length)=r;rw[show cu a b xs.length (bA xs) (wl xs.length)=cu a b ((xs.length-1)+1) (bA xs) (wl xs.length) by rw[<- hlen],iG (by rw[he];exact hne),he,nj hend]at hN;exact hN.symm
 refine⟨by unfold ck;rw[hR],λw hw=>?_,λw hw=>by rw[gB];exact h.lt w (by rw[iD]at hw;exact hw)⟩;rw[iD]at hw;have hfw:=h.lt w hw;unfold cX;rw[hR,mT (by rw[g9,fg];exact hw),fA _ _ _ _ _ _ hfw]
 by_cases z:fl w=c
 . rw[if_neg (λy=>((hmemL w).mp y).2 z),if_pos z]
 . rw[if_pos ((hmemL w).mpr ⟨hw,z⟩),if_neg z,hps w hw z]
theorem zqW{a b:Rat}{xs row:List Rat}{fl:Nat->Nat}{c:Nat}(h:gb xs row fl)(some:∃w,w<xs.length/\fl w=c)(top:∀j,j<row.length->j≠c->row.getD j 0<row.getD c 0)
   {w1:Nat} (hw1:w1<xs.length) (hf1:fl w1≠c) (up:¬ push a b (aZ xs.length fl c).length (row.getD (fl w1) 0+(1-row.getD c 0))<1):1<(ck a b xs).length:=by
 have hm:=pX h some top;have he:=B9 h some top;obtain⟨w0,hw0,hf0⟩:=some
 have hne:aZ xs.length fl c≠[]:=λe=>by
   have:w0∈aZ xs.length fl c:=wP.mpr ⟨wx.mpr hw0,decide_eq_true hf0⟩;rw[e]at this;cases this
 have hw01:w0≠w1:=λe=>hf1 (by rw[<- e];exact hf0)
 have hlen:xs.length=(xs.length-2)+1+1:=by omega
 have nd:=Wu (n:=xs.length)
 have hmem:w1∈bK (wl xs.length) (aZ xs.length fl c):=by
   unfold bK aZ;rw[wP,wx];exact⟨hw1,by simp[hf1]⟩
 have hend:aF (cD (a^(aZ xs.length fl c).length) (aB a b (aZ xs.length fl c).length) (bA xs) (bK (wl xs.length) (aZ xs.length fl c))) (bK (wl xs.length) (aZ xs.length fl c))≠[]:=λe=>by
   have:w1∈aF (cD (a^(aZ xs.length fl c).length) (aB a b (aZ xs.length fl c).length) (bA xs) (bK (wl xs.length) (aZ xs.length fl c))) (bK (wl xs.length) (aZ xs.length fl c)):=by
     unfold aF;refine wP.mpr ⟨hmem,?_⟩;rw[iL _ _ _ _ (mZ nd) (λv hv=>by rw[fg];exact wx.mp (wP.mp hv).1),if_pos hmem,Lj h hm hw1,<- gG,decide_eq_false up]
     rfl
   rw[e]at this;cases this
 unfold ck dZ;rw[show cu a b xs.length (bA xs) (wl xs.length)=cu a b ((xs.length-2)+1+1) (bA xs) (wl xs.length) by rw[<- hlen],iG (by rw[he];exact hne),he,iG hend]
 show 1<(_::_::_:List (List Nat)).length
 simp
theorem N9{a b:Rat}{ns:List Int}{row:List Rat}{i j:Nat}(hi:i<=row.length)(hj:j<row.length):(aH a b ns row i).getD j 0∈turned a b ns row i:=by
 have hl:=cJ a b ns row i;rw[mm a b ns row i hi];have hm:(aH a b ns row i).getD j 0∈aH a b ns row i:=getD_mem (by omega);generalize (aH a b ns row i).getD j 0=y at hm;have hm2:y∈(aH a b ns row i).take i++(aH a b ns row i).drop i:=by rw[QZ];exact hm
 rcases vM.mp hm2 with z | z
 ·exact vM.mpr (.inr z)
 ·exact vM.mpr (.inl z)
theorem A7{a b:Rat}{ns:List Int}{row:List Rat}{i j:Nat}(h:gH (turned a b ns row i))(hi:i<row.length)(hj:j<row.length)(hne:j≠i):(aH a b ns row i).getD j 0<(aH a b ns row i).getD i 0:=by
 have hl:=cJ a b ns row i;have hpw:=h.pw;rw[mm a b ns row i (by omega),VW (by omega),Xl]at hpw;have hp:=(Wy.mp hpw).1;have e:(aH a b ns row i).getD i 0=(aH a b ns row i)[i]'(by omega):=by rw[wa,wc (by omega)];rfl
 rw[e];refine hp _ ?_;rw[vM];have ej:(aH a b ns row i).getD j 0=(aH a b ns row i)[j]'(by omega):=by rw[wa,wc (by omega)];rfl
 rw[ej];rcases wt j i with z | z
 ·refine .inr (xc.mpr ⟨j,by rw[vP];omega,?_⟩)
  rw[xQ]
 ·refine .inl (xc.mpr ⟨j-(i+1),by rw[vy];omega,?_⟩)
  rw[xR]
  congr 1
  omega
def du(a b:Rat)(ns:List Int)(row:List Rat)(i:Nat):Rat:=(aH a b ns row (i+1)).getD ((i+1) % row.length) 0
structure fq(xs row:List Rat)(fl:Nat->Nat)(ns:List Int):Prop where
 pl:gb xs row fl
 lF:gH row
 one:row.getD 0 0<1
 len:ns.length=row.length
 some:∀c,c<row.length->∃w,w<xs.length/\fl w=c
 size:∀c,c<row.length->(ns.getD c 0).toNat=(aZ xs.length fl c).length
theorem uO{a b:Rat}(a0:0<a)(b0:0<=b){xs row:List Rat}{fl:Nat->Nat}{ns:List Int}(h:fq xs row fl ns):∀i,i<=row.length->(∀t,t<i->du a b ns row t<1)->gb (aj a b xs i) (aH a b ns row i) fl/\gH (turned a b ns row i)/\(i<row.length->(aH a b ns row i).getD i 0<1) /\ ∀t,t<i->ck a b (aj a b xs t)=[aZ xs.length fl t]
 | 0,_,_=>⟨h.pl,h.lF,λ_=>h.one,λt ht=>by omega⟩
 | i+1,hi,ht=>by
  obtain⟨P,F,o,W⟩:=uO a0 b0 h i (by omega) (λt ht'=>ht t (by omega));have hl:=cJ a b ns row i;have hpl:=bR a b xs i;have hi':i<row.length:=by omega
  have oi:=o hi';have ti:=ht i (by omega)
  have hne:turned a b ns row i≠[]:=λe=>by
   have:=AS a b ns row (by omega) i;rw[e]at this;simp at this;omega
  obtain⟨x,l,ex⟩:∃x l,turned a b ns row i=x::l:=by
   cases e:turned a b ns row i with
   | nil=>exact absurd e hne
   | cons x l=>exact⟨x,l,rfl⟩
  have hx:x=(aH a b ns row i).getD i 0:=by
   have:=B5 a b ns row hi';rw[ex]at this;exact this
  have F1:gH (turned a b ns row (i+1)):=by
   show gH (kD a b (ns.getD i 0).toNat (turned a b ns row i))
   rw[ex]at F ⊢;exact F.step a0 b0 (by rw[hx];exact oi)
  have hsz:(ns.getD i 0).toNat=(aZ (aj a b xs i).length fl i).length:=by rw[hpl];exact h.size i hi'
  have hrow:aH a b ns row (i+1)=df a b (aZ (aj a b xs i).length fl i).length (aH a b ns row i) i:=by rw[<- hsz];rfl
  -- the head of what is turned is the top: all others are below 1
  have headTop:(turned a b ns row (i+1)).headD 0=du a b ns row i:=by
   unfold du;rcases wt (i+1) row.length with z | z
   ·rw[B5 a b ns row z,Qn z]
   ·have e:i+1=row.length:=by omega
    rw[e,xC,mm a b ns row _ (wg _)];have hl1:=cJ a b ns row row.length;rw[QP (by omega),Wm (by omega),qr];cases e2:aH a b ns row row.length with
    | nil=>rw[e2]at hl1;simp at hl1;omega
    | cons y m=>rfl
  have below:∀y∈turned a b ns row (i+1),y<1:=λy hy=>by
   have hpw:=F1.pw;cases e2:turned a b ns row (i+1)with
   | nil=>rw[e2]at hy;cases hy
   | cons z m =>
    rw[e2]at hy hpw headTop
    have hz:z<1:=by
     have:z=du a b ns row i:=headTop;rw[this];exact ti
    rcases wz.mp hy with rfl | hy
    ·exact hz
    ·have:=(Wy.mp hpw).1 y hy
     have:y<z:=this
     grind
  have G:=ZV (a:=a) (b:=b) (c:=i) P (by obtain⟨w,h1,h2⟩:=h.some i hi';exact⟨w,by omega,h2⟩) (λj hj hji=>A7 F hi' (by omega) hji) (λj hj hji _=>by
   have hm:=N9 (a:=a) (b:=b) (ns:=ns) (row:=row) (i:=i+1) (j:=j) hi (by omega);have:=below _ hm;rw[hrow,fA _ _ _ _ _ _ hj,if_neg hji]at this;exact this)
  refine⟨by rw[hrow];exact G.2,F1,λhlt=>?_,λt ht'=>?_⟩
  ·have:=below _ (N9 (a:=a) (b:=b) (ns:=ns) (row:=row) (i:=i+1) (j:=i+1) hi hlt)
   exact this
  ·rcases wt t i with z | z
   ·exact W t z
   ·have:t=i:=by omega
    subst this;have:=G.1;rw[hpl]at this;exact this
def fb(xs:List Rat)(v:Rat):List Nat:=(wl xs.length).filter λw=>decide (xs.getD w 0=v)
def g_:Nat->List Rat->List Rat
 | 0,_=>[]
 | _+1,[]=>[]
 | n+1,x::l=>bV (x::l)::g_ n ((x::l).filter λy=>!decide (y=bV (x::l)))
def ai(xs:List Rat):List Rat:=g_ xs.length xs
theorem Dz(n:Nat):g_ n []=[]:=by cases n<;>rfl
theorem mW{n:Nat}{l:List Rat}(h:l≠[]):g_ (n+1) l=bV l::g_ n (l.filter λy=>!decide (y=bV l)):=by
 cases l with
 | nil=>exact absurd rfl h
 | cons x l=>rfl
theorem Rr{l:List Rat}(h:l≠[]):(l.filter λy=>!decide (y=bV l)).length<l.length:=by
 have hm:bV l∈l:=gM (Vs.mpr h);rcases wt (l.filter λy=>!decide (y=bV l)).length l.length with z | z
 ·exact z
 ·have:=List.length_filter_eq_length_iff.mp (XJ (Wc _ _) z) (bV l) hm
  simp at this
theorem DU:∀(n:Nat)(l:List Rat),∀y∈g_ n l,y∈l
 | 0,l,y,h=>by cases h
 | n+1,[],y,h=>by cases h
 | n+1,x::l,y,h=>by
  rw[mW (by simp)]at h;rcases wz.mp h with rfl | h
  ·exact gM (by simp)
  ·exact(wP.mp (DU n _ y h)).1
theorem jg:∀(n:Nat)(l:List Rat),(g_ n l).Pairwise (· > ·)
 | 0,l=>qU.nil
 | n+1,[]=>qU.nil
 | n+1,x::l=>by
  rw[mW (by simp)];refine Wy.mpr ⟨λy hy=>?_,jg n _⟩;have hf:=wP.mp (DU n _ y hy);have h1:=Kg y hf.1;have h2:¬ y=bV (x::l):=by simpa using hf.2
  show y<bV (x::l)
  exact V4 h1 h2
theorem Iq:∀(n:Nat)(l:List Rat),l.length<=n->∀y∈l,y∈g_ n l
 | 0,l,h,y,hy=>by
  have:l=[]:=qf.mp (by omega);rw[this]at hy;cases hy
 | n+1,[],h,y,hy=>by cases hy
 | n+1,x::l,h,y,hy=>by
  rw[mW (by simp)]
  by_cases z:y=bV (x::l)
  ·rw[z];exact wu ..
  ·have hl:=Rr (l:=x::l) (by simp)
   refine wo _ (Iq n _ (by omega) y (wP.mpr ⟨hy,by simp[z]⟩))
def aP(xs:List Rat)(w:Nat):Nat:=(ai xs).idxOf (xs.getD w 0)
theorem pR{xs:List Rat}{y:Rat}(h:y∈xs):y∈ai xs:=Iq _ _ (wg _) y h
theorem jq{xs:List Rat}{y:Rat}(h:y∈ai xs):y∈xs:=DU _ _ y h
theorem jF(xs:List Rat):gb xs (ai xs) (aP xs):=by
 have key:∀w,w<xs.length->aP xs w<(ai xs).length:=λw hw=>List.idxOf_lt_length_of_mem (pR (getD_mem hw))
 refine⟨λw hw=>?_,key⟩;rw[wa (l:=ai xs),wc (key w hw)];exact(List.getElem_idxOf (key w hw)).symm
theorem D_{xs:List Rat}{w c:Nat}(hw:w<xs.length)(hc:c<(ai xs).length):aP xs w=c ↔ xs.getD w 0=(ai xs).getD c 0:=by
 have P:=jF xs;have e:=P.at' w hw;have hl:=P.lt w hw
 constructor
 ·rintro rfl;exact e
 ·intro h
  rw[e]at h;rcases W7 (aP xs w) c with z | z | z
  ·have:=(vE.mp (jg xs.length xs)) (aP xs w) c hl hc z
   rw[wa,wc hl,wa,wc hc]at h;have h:(ai xs)[aP xs w]=(ai xs)[c]:=h;have this:(ai xs)[c]<(ai xs)[aP xs w]:=this;rw[h]at this;exact absurd this (by grind)
  ·exact z
  ·have:=(vE.mp (jg xs.length xs)) c (aP xs w) hc hl z
   rw[wa,wc hl,wa,wc hc]at h;have h:(ai xs)[aP xs w]=(ai xs)[c]:=h;have this:(ai xs)[aP xs w]<(ai xs)[c]:=this;rw[h]at this;exact absurd this (by grind)
theorem Tr{xs:List Rat}{c:Nat}(hc:c<(ai xs).length):aZ xs.length (aP xs) c=fb xs ((ai xs).getD c 0):=by
 unfold aZ fb;refine ve λw hw=>?_
 exact decide_eq_decide.mpr (D_ (wx.mp hw) hc)
def aY(xs:List Rat):List Int:=(ai xs).map λv=>((fb xs v).length:Int)
theorem OT{xs:List Rat}(nn:∀x∈xs,0<=x)(lt:∀x∈xs,x<1):fq xs (ai xs) (aP xs) (aY xs) where
 pl:=jF xs
 lF:=⟨jg _ _,λy hy=>nn y (jq hy)⟩
 one:=by
  rcases wt 0 (ai xs).length with z | z
  ·exact lt _ (jq (getD_mem z))
  ·rw[wa,wA z];decide
 len:=by unfold aY;rw[we]
 some:=λc hc=>by
  obtain⟨w,hw,e⟩:=wK (jq (getD_mem (d:=0) hc));refine⟨w,hw,(D_ hw hc).mpr ?_⟩;rw[wa,wc hw];exact e
 size:=λc hc=>by
  rw[Tr hc];unfold aY;rw[wa,wn,wc hc,wa,wc hc]
  rfl
theorem NM:∀{l m:List Rat},l.Pairwise (· > ·)->m.Pairwise (· > ·)->(∀y,y∈l ↔ y∈m)->l=m
 | [],[],_,_,_=>rfl
 | [],y::m,_,_,h=>by have:=(h y).mpr (wu ..);cases this
 | x::l,[],_,_,h=>by have:=(h x).mp (wu ..);cases this
 | x::l,y::m,hl,hm,h=>by
  have pl:=Wy.mp hl;have pm:=Wy.mp hm
  have e:x=y:=by
   rcases wz.mp ((h x).mp (wu ..))with z | z
   ·exact z
   ·rcases wz.mp ((h y).mpr (wu ..))with z2 | z2
    ·exact z2.symm
    ·have a1:x<y:=pm.1 x z
     have a2:y<x:=pl.1 y z2
     grind
  subst e;rw[NM pl.2 pm.2 λz=>⟨λhz=>?_,λhz=>?_⟩]
  ·rcases wz.mp ((h z).mp (wo _ hz))with e | e
   ·have:z<x:=pl.1 z hz
    rw[e]at this;exact absurd this (by grind)
   ·exact e
  ·rcases wz.mp ((h z).mpr (wo _ hz))with e | e
   ·have:z<x:=pm.1 z hz
    rw[e]at this;exact absurd this (by grind)
   ·exact e
theorem O0{ys row:List Rat}{fl:Nat->Nat}(P:gb ys row fl)(F:row.Pairwise (· > ·))(some:∀c,c<row.length->∃w,w<ys.length/\fl w=c):ai ys=row:=by
 refine NM (jg _ _) F λy=>⟨λh=>?_,λh=>?_⟩
 ·obtain⟨w,hw,e⟩:=wK (jq h)
  have ea:=P.at' w hw;rw[wa,wc hw]at ea;have ea:ys[w]=row.getD (fl w) 0:=ea;rw[<- e,ea];exact getD_mem (P.lt w hw)
 ·obtain⟨c,hc,e⟩:=wK h
  obtain⟨w,hw,hf⟩:=some c hc;have ea:=P.at' w hw;rw[hf,wa (l:=row),wc hc]at ea;have ea:ys.getD w 0=row[c]:=ea;rw[<- e,<- ea];exact pR (getD_mem hw)
def dS(a b:Rat)(ns:List Int)(row:List Rat):Nat->Rat
 | 0=>0
 | k+1=>dS a b ns row k+(1-(aH a b ns row k).getD k 0)
theorem Pl{a b:Rat}(a0:0<a)(b0:0<=b){xs row:List Rat}{fl:Nat->Nat}{ns:List Int}(h:fq xs row fl ns):∀i,i<=row.length->(∀t,t<i->du a b ns row t<1)->aQ a b xs i=dS a b ns row i
 | 0,_,_=>rfl
 | i+1,hi,ht=>by
  have ht':∀t,t<i->du a b ns row t<1:=λt z=>ht t (by omega)
  obtain⟨P,F,_,_⟩:=uO a0 b0 h i (by omega) ht';have hpl:=bR a b xs i;have hl:=cJ a b ns row i;have hm:=pX (c:=i) P (by obtain⟨w,h1,h2⟩:=h.some i (by omega);exact⟨w,by omega,h2⟩) (λj hj hji=>A7 F (by omega) (by omega) hji);rw[aQ,dS,Pl a0 b0 h i (by omega) ht',hm]
theorem U5{a b:Rat}(a0:0<a)(b0:0<=b){xs row:List Rat}{fl:Nat->Nat}{ns:List Int}(h:fq xs row fl ns){t:Nat}(ht:t<row.length)(free:∀s,s<t->du a b ns row s<1)(up:¬ du a b ns row t<1):1<(ck a b (aj a b xs t)).length:=by
 obtain⟨P,F,o,_⟩:=uO a0 b0 h t (by omega) free;have hpl:=bR a b xs t;have hl:=cJ a b ns row t;have hsz:(ns.getD t 0).toNat=(aZ (aj a b xs t).length fl t).length:=by rw[hpl];exact h.size t ht
 have hrow:aH a b ns row (t+1)=df a b (aZ (aj a b xs t).length fl t).length (aH a b ns row t) t:=by rw[<- hsz];rfl
 have hj:(t+1) % row.length<row.length:=qb _ (by omega)
 have hne:(t+1) % row.length≠t:=λe=>by
  apply up
  unfold du;rw[hrow,e,fA _ _ _ _ _ _ (by omega),if_pos rfl]
  decide
 obtain⟨w1,hw1,hf1⟩:=h.some _ hj;refine zqW (c:=t) P (by obtain⟨w,h1,h2⟩:=h.some t ht;exact⟨w,by omega,h2⟩) (λj hj hji=>A7 F ht (by omega) hji) (w1:=w1) (by omega) (by rw[hf1];exact hne) ?_;intro z
 apply up
 unfold du;rw[hrow,fA _ _ _ _ _ _ (by omega),if_neg hne,<- hf1];exact z
theorem pJ{a b:Rat}(a0:0<a)(b0:0<=b):∀n:Nat,0<=aB a b n
 | 0=>Wn
 | n+1=>by
  have h1:=pJ a0 b0 n;have h2:=qE (vB a0) h1
  show 0<=a*aB a b n+b
  grind
theorem A0{a b:Rat}(a0:0<a)(b0:0<=b):∀(n:Nat)(ps:List Rat)(left:List Nat),left.length<=n->left.Nodup->(∀w∈left,w<ps.length)->(∀w∈left,0<=ps.getD w 0) ->
   ∀w∈(cu a b n ps left).2.1,w∈left/\0<=(cu a b n ps left).2.2.getD w 0/\(cu a b n ps left).2.2.getD w 0<1
 | 0,ps,left,hn,_,_,_=>by
   have:left=[]:=qf.mp (by omega);subst this;intro w hw;cases (show w∈([]:List Nat)from hw)
 | n+1,ps,left,hn,nd,hlt,nn=>by
   by_cases e:aF ps left=[]
   . rw[nj e]
     intro w hw;have hw:w∈left:=hw;refine⟨hw,nn w hw,?_⟩;have:¬ w∈aF ps left:=by rw[e];simp
     unfold aF at this;rw[wP]at this
     show ps.getD w 0<1
     by_cases z:ps.getD w 0<1
     . exact z
     . exact absurd ⟨hw,by simp only[z,decide_false,qD]⟩ this
   . rw[iG e]
     have hl:=Dm ps left;have hp:=Vs.mpr e;have nd':(bK left (aF ps left)).Nodup:=mZ nd;have lt':∀w∈bK left (aF ps left),w<(cD (a^(aF ps left).length) (aB a b (aF ps left).length) ps (bK left (aF ps left))).length:=λw hw=>by rw[g9];exact mJ hlt w hw
     have ih:=A0 a0 b0 n (cD (a^(aF ps left).length) (aB a b (aF ps left).length) ps (bK left (aF ps left))) (bK left (aF ps left)) (by omega) nd' lt' (λw hw=>by
       rw[iL _ _ _ _ nd' (mJ hlt),if_pos hw];have h1:=nn w (wP.mp hw).1;have h2:=qE (vB (pM a0 (aF ps left).length)) h1;have h3:=pJ a0 b0 (aF ps left).length
       grind)
     intro w hw;have:=ih w hw;exact⟨(wP.mp this.1).1,this.2⟩
theorem M6{xs:List Rat}(nn:∀x∈xs,0<=x)(lt:∀x∈xs,x<1){w:Nat}(hw:w<xs.length):0<=(bA xs).getD w 0:=by
 have h1:=gM (xs:=xs) (by omega);have h2:=lt _ h1;have h3:=nn _ (getD_mem (d:=0) hw);unfold bA;rw[rC hw]
 grind
theorem IX{a b:Rat}(a0:0<a)(b0:0<=b){xs:List Rat}(nn:∀x∈xs,0<=x)(lt:∀x∈xs,x<1):∀y∈cX a b xs,0<=y/\y<1:=λy hy=>by
 obtain⟨j,hj,e⟩:=wK hy;have hlen:=iD a b xs;have hjx:j<xs.length:=by omega
 have hpl:(dZ a b xs).2.2.length=xs.length:=by
  unfold dZ;rw[pI,fg]
 have e2:(cX a b xs).getD j 0=y:=by rw[wa,wc hj];exact e
 unfold cX at e2;rw[mT (by omega)]at e2
 split at e2
 ·rename_i hm
  have:=A0 a0 b0 xs.length (bA xs) (wl xs.length) (by simp) Wu (λw hw=>by rw[fg];exact wx.mp hw) (λw hw=>M6 nn lt (wx.mp hw)) j hm;rw[<- e2];exact this.2
 ·rw[<- e2];exact⟨Wn,by decide⟩
theorem Y2{a b:Rat}(a0:0<a)(b0:0<=b){xs:List Rat}(h1:1<=xs.length)(nn:∀x∈xs,0<=x)(lt:∀x∈xs,x<1):0∈cX a b xs:=by
 obtain⟨j,hj,e⟩:=wK (gM h1)
 have hr:(bA xs).getD j 0=1:=by
  unfold bA;rw[rC hj,wa,wc hj]
  show xs[j]+(1-bV xs)=1
  rw[e];grind
 have hend:j∈aF (bA xs) (wl xs.length):=by
  unfold aF;rw[wP];refine⟨wx.mpr hj,?_⟩;rw[hr];decide
 have hne:aF (bA xs) (wl xs.length)≠[]:=λz=>by rw[z]at hend;cases hend
 have hpl:(dZ a b xs).2.2.length=xs.length:=by
  unfold dZ;rw[pI,fg]
 have hnot:¬ j∈(dZ a b xs).2.1:=λz=>by
  unfold dZ at z;obtain⟨n,hn⟩:∃n,xs.length=n+1:=⟨xs.length-1,by omega⟩;have hl:=Dm (bA xs) (wl xs.length);rw[wU]at hl;have hp:=Vs.mpr hne;have z':j∈(cu a b (n+1) (bA xs) (wl xs.length)).2.1:=by rw[<- hn];exact z
  rw[iG hne]at z';have nd':(bK (wl xs.length) (aF (bA xs) (wl xs.length))).Nodup:=mZ Wu;have ltr:∀w∈wl xs.length,w<(bA xs).length:=λw hw=>by rw[fg];exact wx.mp hw
  have:=A0 a0 b0 n _ _ (by omega) nd' (λw hw=>by rw[g9];exact mJ ltr w hw) (λw hw=>by
   rw[iL _ _ _ _ nd' (mJ ltr),if_pos hw];have h1:=M6 nn lt (wx.mp (wP.mp hw).1);have h2:=qE (vB (pM a0 (aF (bA xs) (wl xs.length)).length)) h1;have h3:=pJ a0 b0 (aF (bA xs) (wl xs.length)).length
   grind) j z'
  have:=(wP.mp this.1).2;simp only[hend,decide_true,vR]at this;cases this
 have hlen:=iD a b xs
 have hg:(cX a b xs).getD j 0=0:=by
  unfold cX;rw[mT (by omega),if_neg hnot]
 rw[<- hg];exact getD_mem (by omega)
structure cV(xs:List Rat):Prop where
 nn:∀x∈xs,0<=x
 lt:∀x∈xs,x<1
theorem cV.lG{a b:Rat}(a0:0<a)(b0:0<=b){xs:List Rat}(h:cV xs):cV (cX a b xs):=⟨λy hy=>(IX a0 b0 h.nn h.lt y hy).1,λy hy=>(IX a0 b0 h.nn h.lt y hy).2⟩
theorem cV.at{a b:Rat}(a0:0<a)(b0:0<=b){xs:List Rat}(h:cV xs):∀k,cV (aj a b xs k)
 | 0=>h
 | k+1=>(cV.at a0 b0 h k).lG a0 b0
theorem cV.zero{a b:Rat}(a0:0<a)(b0:0<=b){xs:List Rat}(h:cV xs)(h1:1<=xs.length){k:Nat}(hk:1<=k):0∈aj a b xs k:=by
 obtain⟨j,rfl⟩:∃j,k=j+1:=⟨k-1,by omega⟩;have:=h.at a0 b0 j;exact Y2 a0 b0 (by rw[bR];exact h1) this.nn this.lt
theorem Bq{xs:List Rat}(h:cV xs)(h0:0∈xs):(ai xs).dropLast++[0]=ai xs:=by
 have hm:=pR h0;have hne:ai xs≠[]:=λe=>by rw[e]at hm;cases hm
 have hpw:(ai xs).Pairwise (· > ·):=jg _ _
 have hl:(ai xs).getLast hne=0:=by
  have h1:=h.nn _ (jq (List.getLast_mem hne))
  have h2:(ai xs).getLast hne<=0:=by
   have e:=qF hne;rw[<- e]at hm hpw;rcases vM.mp hm with z | z
   ·have:=(VN.mp hpw).2.2 0 z _ (wO.mpr rfl)
    exact vB this
   ·rw[<- wO.mp z];exact Wn
  grind
 have:=qF hne;rw[hl]at this;exact this
theorem pN{xs:List Rat}(h1:1<=xs.length):1<=(ai xs).length:=by
 have:=pR (getD_mem (d:=0) (show 0<xs.length by omega));exact VA this
theorem sN(xs:List Rat):(aY xs).length=(ai xs).length:=by unfold aY;rw[we]
theorem rQ(xs:List Rat):∀n∈aY xs,0<=n:=λn hn=>by
 obtain⟨v,_,rfl⟩:=wJ.mp hn;omega
structure zDe(a b:Rat)(xs:List Rat):Prop where
 iA:∀t,t<(ai xs).length->ck a b (aj a b xs t)=[fb xs ((ai xs).getD t 0)]
 vals:ai (aj a b xs (ai xs).length)=aH a b (aY xs) (ai xs) (ai xs).length
 aab:aY (aj a b xs (ai xs).length)=aY xs
 hour:aQ a b xs (ai xs).length=dS a b (aY xs) (ai xs) (ai xs).length
theorem Jn{α : Type}(g h : α -> Nat):∀l:List α,(l.map λv=>g v+h v).sum=(l.map g).sum+(l.map h).sum
 | []=>rfl
 | x::l=>by
  simp only[wM,WF,Jn g h l];omega
theorem Nh(x:Rat):∀vs:List Rat,vs.Nodup->(vs.map λv=>if x=v then 1 else 0).sum<=1
 | [],_=>by simp
 | v::vs,nd=>by
  have⟨h1,h2⟩:=Wi.mp nd;rw[wM,WF]
  by_cases e:x=v
  ·have z:(vs.map λv=>if x=v then 1 else 0).sum=0:=by
    have:∀ws:List Rat,(∀y∈ws,x≠y)->(ws.map λv=>if x=v then 1 else 0).sum=0:=by
     intro ws
     induction ws with
     | nil=>intro _;rfl
     | cons y ws ih =>
      intro hy;rw[wM,WF,if_neg (hy y (wu ..)),ih λz hz=>hy z (wo _ hz)]
    exact this vs λy hy z=>h1 (by rw[<- e,z];exact hy)
   rw[z,if_pos e];omega
  ·have:=Nh x vs h2
   rw[if_neg e];omega
theorem Rh(f:Nat->Rat)(vs:List Rat)(nd:vs.Nodup):∀l:List Nat,(vs.map λv=>(l.filter λw=>decide (f w=v)).length).sum<=l.length
 | []=>by
  have:∀ws:List Rat,(ws.map λv=>(([]:List Nat).filter λw=>decide (f w=v)).length).sum=0:=by
   intro ws
   induction ws with
   | nil=>rfl
   | cons y ws ih=>rw[wM,WF,ih];rfl
  rw[this];exact wg _
 | w::l=>by
  have ih:=Rh f vs nd l
  have e:(vs.map λv=>((w::l).filter λw=>decide (f w=v)).length)=vs.map λv=>(if f w=v then 1 else 0)+(l.filter λw=>decide (f w=v)).length:=by
   refine qz λv _=>?_
   rw[Wt]
   by_cases z:f w=v
   ·rw[if_pos (by simp[z]),if_pos z,wV];omega
   ·rw[if_neg (by simp[z]),if_neg z];omega
  rw[e,Jn,wV];have:=Nh (f w) vs nd;omega
theorem B6(xs:List Rat):(ai xs).Nodup:=(jg xs.length xs).imp λ{x y} h=>by
 have h:y<x:=h;intro e;rw[e]at h;exact absurd h (by grind)
theorem Om(xs:List Rat):((aY xs).map Qz).sum<=xs.length:=by
 have:=Rh (λw=>xs.getD w 0) (ai xs) (B6 xs) (wl xs.length);rw[wU]at this
 have e:(aY xs).map Qz=(ai xs).map λv=>((wl xs.length).filter λw=>decide (xs.getD w 0=v)).length:=by
  unfold aY;rw[Vn];refine qz λv _=>?_
  show((fb xs v).length:Int).toNat=_
  rw[wE];rfl
 rw[e];exact this
theorem Jp(xs:List Rat):upTo (aY xs) (aY xs).length<=xs.length:=by
 unfold upTo;rw[vW];exact Om xs
theorem Yl(xs:List Rat):∀n∈aY xs,0<=n/\n<=xs.length:=λn hn=>by
 obtain⟨v,_,rfl⟩:=wJ.mp hn
 have:(fb xs v).length<=xs.length:=by
  have:=Wc (λw=>decide (xs.getD w 0=v)) (wl xs.length);rw[wU]at this;exact this
 omega
theorem kf(xs:List Rat):(ai xs).length<=xs.length:=by
 have h:∀(n:Nat)(l:List Rat),(g_ n l).length<=n:=by
  intro n
  induction n with
  | zero=>intro l;exact wg _
  | succ n ih =>
   intro l
   by_cases e:l=[]
   ·rw[e,Dz];simp
   ·rw[mW e,wV]
    have:=ih (l.filter λy=>!decide (y=bV l));omega
 exact h _ _
theorem oW{m:Nat}{xs ys:List Rat}(c:Cm m xs)(h:∀y∈ys,y∈xs):Cm m ys:=c.jO λy hy=>.inl (h y hy)
theorem tF{m:Nat}{xs:List Rat}(c:Cm m xs):Cm m (ai xs).dropLast:=oW c λy hy=>jq (by rw[Q0]at hy;exact List.mem_of_mem_take hy)
def Md:List Int->List Rat->List Rat
 | n::ns,x::xs=>wQ n.toNat x++Md ns xs
 | _,_=>[]
structure zC6(zs:List Rat)(ns:List Int)(row:List Rat):Prop where
 perm:zs.Perm (Md ns row)
 len:ns.length=row.length
 pos:∀n∈ns,1<=n
 lF:row.Pairwise (· > ·)
theorem ZJ{a b:Rat}{ns:List Int}{row:List Rat}(h:row.length=1):du a b ns row 0=0:=by
 unfold du
 show(df a b _ (aH a b ns row 0) 0).getD ((0+1) % row.length) 0=0
 have hl:=cJ a b ns row 0;rw[h,xC,fA _ _ _ _ _ _ (by omega),if_pos rfl]
def seg(n:Nat)(fl:Nat->Nat)(s t:Nat):List Nat:=(wl n).filter λw=>decide (s<=fl w)&&decide (fl w<t)
theorem gC{n:Nat}{fl:Nat->Nat}{s t w:Nat} : w∈seg n fl s t ↔ w<n/\s<=fl w/\fl w<t:=by
 unfold seg;rw[wP,wx,wI,decide_eq_true_eq,decide_eq_true_eq]
theorem LH(n:Nat)(fl:Nat->Nat)(s t:Nat):(seg n fl s t).Nodup:=Wu.filter _
theorem ZL{n:Nat}{fl:Nat->Nat}{s t u:Nat}(h1:s<=t)(h2:t<=u):(seg n fl s t++seg n fl t u).Perm (seg n fl s u):=by
 have e1:(seg n fl s u).filter (λw=>decide (fl w<t))=seg n fl s t:=by
  unfold seg;rw[V5];refine ve λw _=>?_
  rw[vc];simp only[wI,decide_eq_true_eq];omega
 have e2:(seg n fl s u).filter (λw=>!decide (fl w<t))=seg n fl t u:=by
  unfold seg;rw[V5];refine ve λw _=>?_
  rw[vc];simp only[wI,WD,decide_eq_true_eq,decide_eq_false_iff_not];omega
 have:=List.filter_append_perm (λw=>decide (fl w<t)) (seg n fl s u);rw[e1,e2]at this;exact this
theorem IA(n:Nat)(fl:Nat->Nat)(s:Nat):seg n fl s s=[]:=by
 unfold seg;rw[QQ];intro w _;simp only[wI,decide_eq_true_eq];omega
inductive iU(n:Nat)(fl:Nat->Nat):Nat->List (List Nat)->Nat->Prop
 | nil (t:Nat):iU n fl t [] t
 | cons {t u v:Nat} {ws:List (List Nat)} : t<u->iU n fl u ws v->iU n fl t (seg n fl t u::ws) v
theorem iU.le{n:Nat}{fl:Nat->Nat}{t v:Nat}{ws:List (List Nat)}(h:iU n fl t ws v):t<=v:=by
 induction h with
 | nil t=>exact wg t
 | cons h _ ih=>omega
theorem iU.perm{n:Nat}{fl:Nat->Nat}{t v:Nat}{ws:List (List Nat)}(h:iU n fl t ws v):ws.flatten.Perm (seg n fl t v):=by
 induction h with
 | nil t=>rw[IA];exact List.Perm.refl _
 | cons h k ih =>
  rw[W3];exact(List.Perm.append_left _ ih).trans (ZL (by omega) k.le)
theorem Io(p:Nat->Prop)[DecidablePred p](t:Nat):∀m:Nat,t<=m->(∀c d,t<=c->c<=d->d<m->p d->p c)->∃u,t<=u/\u<=m /\ ∀c,t<=c->c<m->(p c ↔ c<u)
 | 0,h,_=>⟨0,h,wg 0,λc _ hc=>absurd hc (by omega)⟩
 | m+1,h,mono=>by
  rcases wt m t with z | z
  ·exact⟨m+1,h,wg _,λc h1 h2=>absurd h2 (by omega)⟩
  ·by_cases q:p m
   ·exact⟨m+1,h,wg _,λc h1 h2=>⟨λ_=>h2,λ_=>mono c m h1 (by omega) (by omega) q⟩⟩
   ·obtain⟨u,u1,u2,hu⟩:=Io p t m z (λc d h1 h2 h3=>mono c d h1 h2 (by omega))
    refine⟨u,u1,by omega,λc h1 h2=>?_⟩;rcases wt c m with y | y
    ·exact hu c h1 y
    ·have:c=m:=by omega
     subst this;exact⟨λk=>absurd k q,λk=>absurd k (by omega)⟩
theorem yj{row:List Rat}(F:row.Pairwise (· > ·)){c d:Nat}(h:c<d)(hd:d<row.length):row.getD d 0<row.getD c 0:=by
 have:=vE.mp F c d (by omega) hd h;rw[wa,wc hd,wa,wc (by omega)];exact this
theorem zzz{row:List Rat}(F:row.Pairwise (· > ·)){c d:Nat}(h:c<=d)(hd:d<row.length):row.getD d 0<=row.getD c 0:=by
 rcases wt c d with z | z
 ·exact vB (yj F z hd)
 ·rw[show c=d by omega];exact Wn
theorem NG{a b:Rat}(a0:0<a)(b0:0<=b){row:List Rat}{fl:Nat->Nat}{N:Nat}(F:row.Pairwise (· > ·)):∀(n:Nat)(ps:List Rat)(t:Nat)(A B:Rat),t<=row.length->ps.length=N->0<A->(∀w∈seg N fl t row.length,ps.getD w 0=A*row.getD (fl w) 0+B/\0<ps.getD w 0) ->
   ∃(v:Nat)(A' B':Rat),v<=row.length/\0<A'/\iU N fl t (cu a b n ps (seg N fl t row.length)).1 v/\(cu a b n ps (seg N fl t row.length)).2.1=seg N fl v row.length /\
     ∀w∈seg N fl v row.length,(cu a b n ps (seg N fl t row.length)).2.2.getD w 0=A'*row.getD (fl w) 0+B'/\0<A'*row.getD (fl w) 0+B'
 | 0,ps,t,A,B,ht,hl,hA,hw=>⟨t,A,B,ht,hA,.nil t,rfl,λw h=>⟨(hw w h).1,by rw[<- (hw w h).1];exact(hw w h).2⟩⟩
 | n+1,ps,t,A,B,ht,hl,hA,hw=>by
   by_cases e:aF ps (seg N fl t row.length)=[]
   . rw[nj e]
     exact⟨t,A,B,ht,hA,.nil t,rfl,λw h=>⟨(hw w h).1,by rw[<- (hw w h).1];exact(hw w h).2⟩⟩
   . obtain⟨u,u1,u2,hu⟩:=Io (λc=>¬ A*row.getD c 0+B<1) t row.length ht (λc d h1 h2 h3 hp=>by
       have:=Rat.mul_le_mul_of_nonneg_left (zzz F h2 h3) (vB hA);have hp:¬ A*row.getD d 0+B<1:=hp
       show ¬ A*row.getD c 0+B<1
       grind)
     have eE:aF ps (seg N fl t row.length)=seg N fl t u:=by
       unfold aF
       have:(seg N fl t row.length).filter (λw=>!decide (ps.getD w 0<1))=(seg N fl t row.length).filter (λw=>decide (fl w<u)):=by
         refine ve λw h=>?_
         have h1:=hw w h;have h2:=gC.mp h;rw[vc,WD,decide_eq_false_iff_not,decide_eq_true_eq,h1.1];exact hu (fl w) h2.2.1 h2.2.2
       rw[this];unfold seg;rw[V5];refine ve λw _=>?_
       rw[vc];simp only[wI,decide_eq_true_eq];omega
     have eL:bK (seg N fl t row.length) (seg N fl t u)=seg N fl u row.length:=by
       unfold bK
       have:(seg N fl t row.length).filter (λw=>!decide (w∈seg N fl t u))=(seg N fl t row.length).filter (λw=>!decide (fl w<u)):=by
         refine ve λw h=>?_
         have h2:=gC.mp h;rw[vc,WD,WD,decide_eq_false_iff_not,decide_eq_false_iff_not,gC]
         constructor
         . intro k y;exact k ⟨h2.1,h2.2.1,y⟩
         . intro k y;exact k y.2.2
       rw[this];unfold seg;rw[V5];refine ve λw _=>?_
       rw[vc];simp only[wI,WD,decide_eq_true_eq,decide_eq_false_iff_not];omega
     have htu:t<u:=by
       rcases wt t u with z | z
       . exact z
       . have:u=t:=by omega
         rw[eE,this,IA]at e;exact absurd rfl e
     rw[iG e,eE,eL];have hf:=pM a0 (seg N fl t u).length;have hg:=pJ a0 b0 (seg N fl t u).length;generalize a^(seg N fl t u).length=f at *;generalize aB a b (seg N fl t u).length=g at *;have hA':0<f*A:=Vz hf hA
     obtain⟨v,A',B',hv,hA2,hs,hl2,hw2⟩:=NG (fl:=fl) (N:=N) a0 b0 F n (cD f g ps (seg N fl u row.length)) u (f*A) (f*B+g) u2 (by rw[g9];exact hl) hA' (λw h=>by
       have hm:=gC.mp h;have h1:=hw w (gC.mpr ⟨hm.1,by omega,hm.2.2⟩);have h3:=Vz hf h1.2;rw[iL _ _ _ _ (LH ..) (λw h=>by rw[hl];exact(gC.mp h).1),if_pos h];refine⟨by rw[h1.1];grind,by grind⟩)
     exact⟨v,A',B',hv,hA2,.cons htu hs,hl2,hw2⟩
structure ku(xs ys:List Rat)(iA:List (List Nat))(v:Nat):Prop where
 v1:1<=v
 vm:v<=(ai xs).length
 first:∃ws,iA=seg xs.length (aP xs) 0 1::ws/\iU xs.length (aP xs) 1 ws v
 vals:∃(A B:Rat),0<A/\ai ys=((ai xs).drop v).map (λx=>A*x+B)++[0]/\(∀x∈(ai xs).drop v,0<A*x+B)
 at':gb ys (ai ys) (λw=>if aP xs w<v then(ai xs).length-v else aP xs w-v)
 len:ys.length=xs.length
theorem LU{l:List Rat}{v c:Nat} : (l.drop v).getD c 0=l.getD (v+c) 0:=by
 rw[wa,qO,wa]
theorem mK{xs:List Rat}{c:Nat}(hc:c<(ai xs).length):∃w,w<xs.length/\aP xs w=c:=by
 have hm:(ai xs).getD c 0∈xs:=jq (getD_mem hc);obtain⟨w,hw,e⟩:=wK hm;refine⟨w,hw,(D_ hw hc).mpr ?_⟩;rw[wa,wc hw];exact e
theorem B8{a b:Rat}(a0:0<a)(b0:0<=b){xs:List Rat}(h1:1<=xs.length)(nn:∀x∈xs,0<=x)(lt:∀x∈xs,x<1):∃v,ku xs (cX a b xs) (ck a b xs) v:=by
 have P:=jF xs;have F:(ai xs).Pairwise (· > ·):=jg xs.length xs;have m1:=pN h1;have top:∀j,j<(ai xs).length->j≠0->(ai xs).getD j 0<(ai xs).getD 0 0:=λj hj h0=>yj F (by omega) hj
 have he:=B9 P (mK m1) top;have hmax:=pX P (mK m1) top;have hmx1:bV xs<1:=lt _ (gM h1)
 have e01:aZ xs.length (aP xs) 0=seg xs.length (aP xs) 0 1:=by
  unfold aZ seg;refine ve λw _=>?_
  rw[vc];simp only[wI,decide_eq_true_eq];omega
 rw[e01]at he
 have hr:wl xs.length=seg xs.length (aP xs) 0 (ai xs).length:=by
  unfold seg
  symm
  rw[xm];intro w hw;have:=P.lt w (wx.mp hw);simp only[wI,decide_eq_true_eq];omega
 have hne:aF (bA xs) (wl xs.length)≠[]:=λe=>by
  obtain⟨w,hw,hf⟩:=mK m1;rw[he]at e;have:w∈seg xs.length (aP xs) 0 1:=gC.mpr ⟨hw,by omega,by omega⟩;rw[e]at this;cases this
 obtain⟨n,hn⟩:∃n,xs.length=n+1:=⟨xs.length-1,by omega⟩
 have eL:bK (wl xs.length) (seg xs.length (aP xs) 0 1)=seg xs.length (aP xs) 1 (ai xs).length:=by
  unfold bK seg;refine ve λw hw=>?_
  have h2:=P.lt w (wx.mp hw);rw[vc,WD,decide_eq_false_iff_not]
  have:w∈(wl xs.length).filter (λw=>decide (0<=aP xs w)&&decide (aP xs w<1)) ↔ aP xs w<1:=by
   rw[wP,wI,decide_eq_true_eq,decide_eq_true_eq];exact⟨λh=>h.2.2,λh=>⟨hw,by omega,h⟩⟩
  rw[this];simp only[wI,decide_eq_true_eq];omega
 have hf:=pM a0 (seg xs.length (aP xs) 0 1).length;have hg:=pJ a0 b0 (seg xs.length (aP xs) 0 1).length
 have eR:dZ a b xs=(seg xs.length (aP xs) 0 1::(cu a b n (cD (a^(seg xs.length (aP xs) 0 1).length) (aB a b (seg xs.length (aP xs) 0 1).length) (bA xs) (seg xs.length (aP xs) 1 (ai xs).length)) (seg xs.length (aP xs) 1 (ai xs).length)).1,(cu a b n (cD (a^(seg xs.length (aP xs) 0 1).length) (aB a b (seg xs.length (aP xs) 0 1).length) (bA xs) (seg xs.length (aP xs) 1 (ai xs).length)) (seg xs.length (aP xs) 1 (ai xs).length)).2):=by
  unfold dZ;have e:cu a b xs.length (bA xs) (wl xs.length)=cu a b (n+1) (bA xs) (wl xs.length):=by rw[<- hn]
  rw[e,iG hne,he,eL]
 generalize a^(seg xs.length (aP xs) 0 1).length=f at *;generalize aB a b (seg xs.length (aP xs) 0 1).length=g at *
 obtain⟨v,A,B,hv,hA,hs,hl2,hw2⟩:=NG (fl:=aP xs) (N:=xs.length) a0 b0 F n (cD f g (bA xs) (seg xs.length (aP xs) 1 (ai xs).length)) 1 f (f*(1-bV xs)+g) m1 (by rw[g9,fg]) hf (λw h=>by
  have hm:=gC.mp h;rw[iL _ _ _ _ (LH ..) (λw h=>by rw[fg];exact(gC.mp h).1),if_pos h]
  have e:(bA xs).getD w 0=(ai xs).getD (aP xs w) 0+(1-bV xs):=by
   unfold bA;rw[rC hm.1,P.at' w hm.1]
  have hx:=nn _ (getD_mem (d:=0) hm.1);rw[P.at' w hm.1]at hx;have h3:=Vz hf (show 0<(ai xs).getD (aP xs w) 0+(1-bV xs) by grind);rw[e];exact⟨by grind,by grind⟩)
 have v1:=hs.le
 have ePh:∀w,w<xs.length->(cX a b xs).getD w 0=if aP xs w<v then 0 else A*(ai xs).getD (aP xs w) 0+B:=λw hw=>by
  have hpl:(dZ a b xs).2.2.length=xs.length:=by unfold dZ;rw[pI,fg]
  unfold cX;rw[mT (by omega),eR]
  show(if w∈(cu a b n _ _).2.1 then _ else _)=_
  rw[hl2]
  by_cases z:aP xs w<v
  ·rw[if_neg (λh=>by have:=(gC.mp h).2.1;omega),if_pos z]
  ·have hmem:w∈seg xs.length (aP xs) v (ai xs).length:=gC.mpr ⟨hw,by omega,P.lt w hw⟩
   rw[if_pos hmem,if_neg z];exact(hw2 w hmem).1
 have posd:∀x∈(ai xs).drop v,0<A*x+B:=λx hx=>by
  obtain⟨c,hc,e⟩:=wK hx;rw[vy]at hc;obtain⟨w,hw,hfw⟩:=mK (xs:=xs) (c:=v+c) (by omega);have:=(hw2 w (gC.mpr ⟨hw,by omega,P.lt w hw⟩)).2;rw[hfw,<- LU,wa,wc (by rw[vy];omega)]at this;rw[<- e];exact this
 have rlen:(((ai xs).drop v).map (λx=>A*x+B)++[0]).length=(ai xs).length-v+1:=by simp
 have rget:∀c,c<(ai xs).length-v->(((ai xs).drop v).map (λx=>A*x+B)++[0]).getD c 0=A*(ai xs).getD (v+c) 0+B:=λc hc=>by
  rw[wa,vo (by simp;omega),<- wa,rC (by rw[vy];omega),LU]
 have rlast:(((ai xs).drop v).map (λx=>A*x+B)++[0]).getD ((ai xs).length-v) 0=0:=by
  rw[wa,wW (by simp)];simp
 have P2:gb (cX a b xs) (((ai xs).drop v).map (λx=>A*x+B)++[0]) (λw=>if aP xs w<v then(ai xs).length-v else aP xs w-v):=by
  refine⟨λw hw=>?_,λw hw=>?_⟩
  ·rw[iD]at hw
   rw[ePh w hw];have:=P.lt w hw
   by_cases z:aP xs w<v
   ·simp only[z,if_true]
    exact rlast.symm
   ·simp only[z,if_false]
    rw[rget _ (by omega),show v+(aP xs w-v)=aP xs w by omega]
  ·rw[iD]at hw
   have:=P.lt w hw;rw[rlen]
   show(if aP xs w<v then _ else _)<_
   split<;>omega
 have F2:(((ai xs).drop v).map (λx=>A*x+B)++[0]).Pairwise (· > ·):=by
  rw[VN];refine⟨?_,Qs _ _,λx hx y hy=>?_⟩
  ·rw[VC]
   refine(uD F).imp λ{x y} h=>?_
   have:=Rat.mul_lt_mul_of_pos_left (show y<x from h) hA
   show A*y+B<A*x+B
   grind
  ·obtain⟨z,hz,rfl⟩:=wJ.mp hx
   rw[wO.mp hy];exact posd z hz
 have eV:ai (cX a b xs)=((ai xs).drop v).map (λx=>A*x+B)++[0]:=O0 P2 F2 λc hc=>by
  rw[rlen]at hc;rcases wt c ((ai xs).length-v)with z | z
  ·obtain⟨w,hw,hfw⟩:=mK (xs:=xs) (c:=v+c) (by omega)
   refine⟨w,by rw[iD];exact hw,?_⟩
   show(if aP xs w<v then _ else _)=_
   rw[hfw,if_neg (by omega)];omega
  ·obtain⟨w,hw,hfw⟩:=mK m1
   refine⟨w,by rw[iD];exact hw,?_⟩
   show(if aP xs w<v then _ else _)=_
   rw[hfw,if_pos (by omega)];omega
 refine⟨v,v1,hv,⟨_,by unfold ck;rw[eR],hs⟩,⟨A,B,hA,eV,posd⟩,by rw[eV];exact P2,iD ..⟩
def j3(xs:List Rat):List (List Nat):=(ai xs).map (fb xs)
theorem ja(xs:List Rat):(j3 xs).length=(ai xs).length:=we ..
theorem LC{ys row:List Rat}{fl:Nat->Nat}(P:gb ys row fl)(F:row.Pairwise (· > ·)){c:Nat}(hc:c<row.length):fb ys (row.getD c 0)=aZ ys.length fl c:=by
 unfold fb aZ;refine ve λw hw=>?_
 have hw:=wx.mp hw;rw[vc,decide_eq_true_eq,decide_eq_true_eq,P.at' w hw]
 constructor
 ·intro h
  rcases W7 (fl w) c with z | z | z
  ·have:=yj F z hc;rw[h]at this;exact absurd this (by grind)
  ·exact z
  ·have:=yj F z (P.lt w hw);rw[h]at this;exact absurd this (by grind)
 ·rintro rfl;rfl
theorem Sg{xs:List Rat}{c:Nat}(hc:c<(ai xs).length):(j3 xs).getD c []=seg xs.length (aP xs) c (c+1):=by
 have h:=LC (jF xs) (jg xs.length xs) hc;unfold j3;rw[wa,wn,wc hc]
 show fb xs (ai xs)[c]=_
 rw[wa,wc hc]at h;have h:fb xs (ai xs)[c]=_:=h;rw[h];unfold aZ seg;refine ve λw _=>?_
 rw[vc];simp only[wI,decide_eq_true_eq];omega
theorem ku.new{xs ys:List Rat}{iA:List (List Nat)}{v:Nat}(J:ku xs ys iA v):j3 ys=(j3 xs).drop v++[seg xs.length (aP xs) 0 v]:=by
 obtain⟨A,B,hA,eV,pos⟩:=J.vals;have F2:(ai ys).Pairwise (· > ·):=jg ys.length ys;have hlen:(ai ys).length=(ai xs).length-v+1:=by rw[eV];simp
 have v1:=J.v1;have vm:=J.vm;refine WK (by rw[ja,hlen,wH,vy,ja];rfl) λc h1 h2=>?_
 rw[ja,hlen]at h1
 have e1:(j3 ys)[c]'(by rw[ja];omega)=aZ xs.length (λw=>if aP xs w<v then(ai xs).length-v else aP xs w-v) c:=by
  have:=LC J.at' F2 (c:=c) (by omega);rw[J.len]at this;rw[<- this];unfold j3;rw[WL,wa,wc (by omega)]
  rfl
 rw[e1];rcases wt c ((ai xs).length-v)with z | z
 ·rw[List.getElem_append_left (by rw[vy,ja];omega),xR]
  have hg:=Sg (xs:=xs) (c:=v+c) (by omega);rw[wa,wc (by rw[ja];omega)]at hg;have hg:(j3 xs)[v+c]'(by rw[ja];omega)=_:=hg;rw[hg];unfold aZ seg;refine ve λw hw=>?_
  have:=(jF xs).lt w (wx.mp hw);rw[vc];simp only[wI,decide_eq_true_eq]
  split<;>omega
 ·rw[List.getElem_append_right (by rw[vy,ja];omega)]
  have hc:c=(ai xs).length-v:=by omega
  simp only[List.getElem_singleton];unfold aZ seg;refine ve λw hw=>?_
  have:=(jF xs).lt w (wx.mp hw);rw[vc];simp only[wI,decide_eq_true_eq]
  split<;>omega
theorem ku.perm{xs ys:List Rat}{iA:List (List Nat)}{v:Nat}(J:ku xs ys iA v):iA.flatten.Perm (seg xs.length (aP xs) 0 v):=by
 obtain⟨ws,e,s⟩:=J.first;rw[e];exact(iU.cons (by decide) s).perm
theorem ku.more{xs ys:List Rat}{iA:List (List Nat)}{v:Nat}(J:ku xs ys iA v):1<iA.length ↔ 1<v:=by
 obtain⟨ws,e,s⟩:=J.first;rw[e];cases s with
 | nil=>simp
 | cons h k=>have:=k.le;simp;omega
theorem Dh(F s:Rat):∀n:Nat,aB F s n=aB F 1 n*s
 | 0=>by show(0:Rat)=0*s;rw[Rat.zero_mul]
 | n+1=>by
  show F*aB F s n+s=(F*aB F 1 n+1)*s
  rw[Dh F s n]
  grind
theorem yF{k:Nat}{F:Rat}(h:ag k F):∀i:Nat,∃T:Int,aB F 1 i=wp T ((F.den:Int)^i)/\Bd ((k+1)*i+1) T/\Bd (k*i+1) ((F.den:Int)^i)
 | 0=>⟨0,by simp[aB],⟨by simp⟩,⟨by simp⟩⟩
 | i+1=>by
  obtain⟨T,e,bT,bd⟩:=yF h i;have hd:(F.den:Int)^i≠0:=Vw (gj F);have hd1:(F.den:Int)^(i+1)≠0:=Vw (gj F);have ed:(F.den:Int)^(i+1)=(F.den:Int)^i*(F.den:Int):=Vm ..
  have bd1:Bd (k*(i+1)+1) ((F.den:Int)^(i+1)):=by
   rw[ed];exact(bd.mul h.b).mono (by rw[V2];omega)
  refine⟨F.num*T+(F.den:Int)^(i+1),?_,?_,bd1⟩
  ·symm
   refine fI hd1 ?_
   show(F*aB F 1 i+1)*_=_
   rw[e];have k1:=cA T hd;have k2:=jl F
   have e1:((F.num*T+(F.den:Int)^(i+1):Int):Rat)=(F.num:Rat)*(T:Rat)+(((F.den:Int)^(i+1):Int):Rat):=by
    rw[VU,vi]
   rw[e1,<- k1,<- k2,ed,vi];generalize (((F.den:Int)^i:Int):Rat)=D;generalize ((F.den:Int):Rat)=d;generalize wp T ((F.den:Int)^i)=y
   grind
  ·have h1:(k+1)*(i+1)=(k+1)*i+(k+1):=V2 ..
   have h2:k*(i+1)<=(k+1)*i+k:=by rw[V2];have:=vF i (show k<=k+1 by omega);omega
   exact((h.t.mul bT).add bd1).mono (by omega)
theorem Pt{k:Nat}{F:Rat}(h:ag k F)(i:Nat):ag ((k+1)*i+1) (aB F 1 i):=by
 obtain⟨T,e,bT,bd⟩:=yF h i;rw[e];exact ag.divInt (Vw (gj F)) bT (bd.mono (by have:=vF i (show k<=k+1 by omega);omega))
def fc(F s:Rat)(n:Nat)(x:Rat):Rat:=F^n*x+aB F 1 n*s
theorem oj(F s:Rat)(n:Nat)(x:Rat):fc F s n x=push F s n x:=by
 unfold fc;rw[gG,<- Dh]
theorem zxj(F s:Rat)(m n:Nat)(x:Rat):fc F s (m+n) x=fc F s n (fc F s m x):=by
 rw[oj,oj,oj,zv0]
theorem SU(F s x:Rat):fc F s 0 x=x:=by rw[oj];rfl
theorem zxV(F s x:Rat):fc F s 1 x=F*x+s:=by rw[oj];rfl
theorem Kf{F s r:Rat}(h:r*(1-F)=s):∀k:Nat,aB F s k=r-F^k*r
 | 0=>by rw[VH,QM];show(0:Rat)=r-r;grind
 | k+1=>by
  show F*aB F s k+s=_
  rw[Kf h k,Wl]
  grind
theorem SY{F s r:Rat}(h:r*(1-F)=s)(n:Nat)(x:Rat):fc F s n x=r+F^n*(x-r):=by
 unfold fc;rw[<- Dh,Kf h]
 grind
theorem Cm.RY{m:Nat}{h:Rat}{xs:List Rat}{a b:Rat}(c:Cm m (h::xs))(ba:ag 10 a)(bb:ag 10 b)(n i:Nat):Cm (m+2+21*n) ((h+(1-xs.getD i 0))::df a b n xs i):=by
 obtain⟨B,h0,h1,h2⟩:=c
 have hz:∃z:Int,xs.getD i 0=wp z B/\Bd m z:=by
  rcases wt i xs.length with q | q
  ·rw[wa,wc q]
   exact h2 _ (wo _ (vd q))
  ·rw[wa,wA q]
   exact⟨0,by simp,⟨by simp;exact vI m⟩⟩
 obtain⟨z,ez,hz⟩:=hz;have key:=λ(t:Int)(ht:Bd m t)=>pW ba bb h0 (show Bd (m+2) (t+B-z)from((ht.add h1).sub hz).mono (by omega)) (h1.mono (by omega)) n
 have e2:∀t:Int,wp t B+(1-xs.getD i 0)=wp (t+B-z) B:=λt=>by
  rw[ez]
  symm
  refine fI (by omega) ?_;have q1:=cA t (show B≠0 by omega);have q2:=cA z (show B≠0 by omega);have q3:((t+B-z:Int):Rat)=(t:Rat)+(B:Rat)-(z:Rat):=by push_cast;rfl
  rw[q3,<- q1,<- q2]
  grind
 obtain⟨p1,p2,_⟩:=key 0 ⟨by simp;exact vI m⟩;refine⟨_,p1,p2,λx hx=>?_⟩;rcases wz.mp hx with rfl | hx
 ·obtain⟨t,et,ht⟩:=h2 h (wu ..)
  have hd:(0:Int)<((a.den:Int)*(b.den:Int))^n:=Xc (vg (den_pos a) (den_pos b));refine⟨(t+B-z)*((a.den:Int)*(b.den:Int))^n,?_,u7 ba bb (((ht.add h1).sub hz).mono (by omega)) n⟩;rw[et,e2 t];exact pO h0 hd
 ·have hx':x=0 \/ ∃y∈xs,x=push a b n (y+(1-xs.getD i 0)):=by
   unfold df at hx;rcases Qg hx with q | q
   ·obtain⟨y,hy,rfl⟩:=wJ.mp q
    exact .inr ⟨y,hy,rfl⟩
   ·exact .inl q
  rcases hx' with rfl | ⟨y,hy,rfl⟩
  ·exact⟨0,by simp,⟨by simp;exact vI _⟩⟩
  ·obtain⟨t,rfl,ht⟩:=h2 y (wo _ hy)
   obtain⟨_,_,T,e,hT⟩:=key t ht;rw[e2 t];exact⟨T,e,hT⟩
theorem Cm.Ae{m:Nat}{xs:List Rat}{a b:Rat}{ns:List Int}(c:Cm m xs)(ba:ag 10 a)(bb:ag 10 b):∀k,k<=ns.length->Cm (m+2*k+21*upTo ns k) (dS a b ns xs k::aH a b ns xs k)
 | 0,_=>(c.mono (by omega)).jO λy hy=>by
  rcases wz.mp hy with rfl | hy
  ·exact .inr rfl
  ·exact .inl hy
 | k+1,hk=>by
  have:=(Cm.Ae c ba bb (ns:=ns) k (by omega)).RY ba bb (ns.getD k 0).toNat k;rw[aH,dS];refine this.mono ?_;rw[o_ (by omega)];omega
def fh(c:Rat)(xs ys:List Rat):List Rat:=List.zipWith (λx y=>x+c*(y-x)) xs ys
theorem nA{c:Rat}{xs ys:List Rat}(h:xs.length=ys.length):(fh c xs ys).length=xs.length:=by unfold fh;rw[xn];omega
theorem kr{c:Rat}{xs ys:List Rat}(h:xs.length=ys.length){i:Nat}(hi:i<xs.length):(fh c xs ys).getD i 0=xs.getD i 0+c*(ys.getD i 0-xs.getD i 0):=by
 unfold fh;rw[wa,wc (by rw[xn];omega),List.getElem_zipWith,wa,wc hi,wa,wc (by omega)]
 rfl
theorem ke{xs ys:List Rat}(hl:xs.length=ys.length)(h:∀i,i<xs.length->xs.getD i 0=ys.getD i 0):xs=ys:=WK hl λi h1 h2=>by
 have:=h i h1;rw[wa,wa,wc h1,wc h2]at this;exact this
theorem Tf(a b:Rat)(n:Nat)(c:Rat){xs ys:List Rat}(h:xs.length=ys.length){i:Nat}(hi:i<xs.length):df a b n (fh c xs ys) i=fh c (df a b n xs i) (df a b n ys i):=by
 have hl:=nA (c:=c) h;refine ke (by rw[gB,hl,nA (by rw[gB,gB];exact h),gB]) λj hj=>?_
 rw[gB,hl]at hj;have hg:=kr (c:=c) (xs:=df a b n xs i) (ys:=df a b n ys i) (by rw[gB,gB];exact h) (i:=j) (by rw[gB];exact hj);rw[hg,fA _ _ _ _ _ _ (by omega),fA _ _ _ _ _ _ hj,fA _ _ _ _ _ _ (show j<ys.length by omega)]
 by_cases z:j=i
 ·rw[if_pos z,if_pos z,if_pos z];grind
 ·rw[if_neg z,if_neg z,if_neg z,kr h hj,kr h hi,gG,gG,gG]
  grind
theorem Jz(a b:Rat)(ns:List Int)(c:Rat){xs ys:List Rat}(h:xs.length=ys.length):∀k,k<=xs.length->aH a b ns (fh c xs ys) k=fh c (aH a b ns xs k) (aH a b ns ys k)
 | 0,_=>rfl
 | k+1,hk=>by
  have ih:=Jz a b ns c h k (by omega);rw[aH,ih,aH,aH];exact Tf a b _ c (by rw[cJ,cJ];exact h) (by rw[cJ];omega)
theorem Jr(a b:Rat)(ns:List Int)(c:Rat){xs ys:List Rat}(h:xs.length=ys.length):∀k,k<=xs.length->dS a b ns (fh c xs ys) k=dS a b ns xs k+c*(dS a b ns ys k-dS a b ns xs k)
 | 0,_=>by show(0:Rat)=0+c*(0-0);grind
 | k+1,hk=>by
  rw[dS,dS,dS,Jr a b ns c h k (by omega),Jz a b ns c h k (by omega),kr (by rw[cJ,cJ];exact h) (by rw[cJ];omega)]
  grind
theorem SR(c:Rat){xs ys:List Rat}(h:xs.length=ys.length):fh c (xs++[0]) (ys++[0])=fh c xs ys++[0]:=by
 unfold fh;rw[List.zipWith_append h]
 show _++[0+c*(0-0)]=_
 congr 2
 grind
def eO(a b:Rat)(ns:List Int)(xs:List Rat):Rat:=dS a b ns (xs++[0]) ns.length
theorem SM{a b:Rat}{ns:List Int}(c:Rat){xs ys:List Rat}(hn:ns.length=xs.length+1)(h:xs.length=ys.length):eO a b ns (fh c xs ys)=eO a b ns xs+c*(eO a b ns ys-eO a b ns xs):=by
 unfold eO;rw[<- SR c h];exact Jr a b ns c (by simp[h]) _ (by simp;omega)
def sumTo(f:Nat->Rat):Nat->Rat
 | 0=>0
 | n+1=>sumTo f n+f n
theorem zr{f g:Nat->Rat} : ∀n,(∀k,k<n->f k=g k)->sumTo f n=sumTo g n
 | 0,_=>rfl
 | n+1,h=>by rw[sumTo,sumTo,zr n λk hk=>h k (by omega),h n (by omega)]
theorem Bf(c:Rat)(f:Nat->Rat):∀n,sumTo (λk=>c*f k) n=c*sumTo f n
 | 0=>by show(0:Rat)=c*0;grind
 | n+1=>by rw[sumTo,sumTo,Bf c f n];grind
theorem NB(f g:Nat->Rat):∀n,sumTo (λk=>f k+g k) n=sumTo f n+sumTo g n
 | 0=>by show(0:Rat)=0+0;grind
 | n+1=>by rw[sumTo,sumTo,sumTo,NB f g n];grind
theorem IY(F:Rat):∀n,sumTo (λk=>F^k) n=aB F 1 n
 | 0=>rfl
 | n+1=>by
  rw[sumTo,IY F n]
  have:∀m,aB F 1 m*F+1=aB F 1 m+F^m:=λm=>by
   induction m with
   | zero=>rw[VH];show(0:Rat)*F+1=0+1;grind
   | succ m ih =>
    show(F*aB F 1 m+1)*F+1=(F*aB F 1 m+1)+F^(m+1)
    rw[Wl]
    grind
  have:=this n
  show aB F 1 n+F^n=F*aB F 1 n+1
  grind
theorem Ob{a b:Rat}{ns:List Int}{L:Nat}(hn:ns.length=L+1)(X:Nat->List Rat)(hX:∀k,(X k).length=L):∀(n:Nat)(M:List Rat),1<=n->M.length=L->(∀i,i<L->M.getD i 0*((n:Int):Rat)=sumTo (λk=>(X k).getD i 0) n)->((n:Int):Rat)*eO a b ns M=sumTo (λk=>eO a b ns (X k)) n
 | 0,M,h,_,_=>by omega
 | n+1,M,_,hM,hs=>by
  have en:(((n+1:Nat):Int):Rat)=((n:Int):Rat)+1:=by push_cast;rfl
  by_cases z:n=0
  ·subst z
   have e1:(((0+1:Nat):Int):Rat)=1:=by decide
   have:M=X 0:=ke (by rw[hM,hX]) λi hi=>by
    have:=hs i (by omega);rw[e1]at this;have e2:sumTo (λk=>(X k).getD i 0) (0+1)=(X 0).getD i 0:=by rw[sumTo,sumTo];grind
    rw[e2]at this
    grind
   rw[this,e1]
   show 1*eO a b ns (X 0)=0+eO a b ns (X 0)
   grind
  ·have hn0:((n:Int):Rat)≠0:=λe=>z (by have:=WH.mp e;omega)
   have hn1:((n:Int):Rat)+1≠0:=λe=>by
    rw[<- en]at e;have:=WH.mp e;omega
   -- the means of the first ones
   let M':List Rat:=(wl L).map λi=>sumTo (λk=>(X k).getD i 0) n / ((n:Int):Rat)
   have hl':M'.length=L:=by simp[M']
   have g':∀i,i<L->M'.getD i 0=sumTo (λk=>(X k).getD i 0) n / ((n:Int):Rat):=λi hi=>by
    show((wl L).map λi=>sumTo (λk=>(X k).getD i 0) n / ((n:Int):Rat)).getD i 0=_
    rw[wa,wn,vk hi];rfl
   have ih:=Ob (a:=a) (b:=b) hn X hX n M' (by omega) hl' λi hi=>by rw[g' i hi];exact Wx hn0
   have eM:M=fh (1 / (((n:Int):Rat)+1)) M' (X n):=ke (by rw[hM,nA (by rw[hl',hX]),hl']) λi hi=>by
    rw[kr (by rw[hl',hX]) (by omega),g' i (by omega)];have h1:=hs i (by omega);rw[en,sumTo]at h1;generalize sumTo (λk=>(X k).getD i 0) n=S at *;generalize (X n).getD i 0=y at *;generalize M.getD i 0=m at *;generalize ((n:Int):Rat)=N at *;have k1:S / N*N=S:=Wx hn0;have k2:1 / (N+1)*(N+1)=1:=Wx hn1;generalize S / N=q at *;generalize 1 / (N+1)=r at *;have:(m-(q+r*(y-q)))*(N+1)=0:=by grind
    rcases XH.mp this with h | h
    ·grind
    ·exact absurd h hn1
   rw[eM,SM _ (by omega) (by rw[hl',hX]),sumTo,<- ih,en];generalize eO a b ns M'=A;generalize eO a b ns (X n)=B;generalize ((n:Int):Rat)=N at *;have k2:1 / (N+1)*(N+1)=1:=Wx hn1;generalize 1 / (N+1)=r at *
   grind
end GM
namespace L2
open PySem PySem.Spec PyProof.Rows GM
section
variable{K:wb}{H H' H2:Hp}{a p:Addr}{xs ys:List V}{o:HO}
theorem ah.upd(h:H p=none):ah H (upd H p o):=λb u e=>by
 rw[dR (jL e h)];exact e
theorem ah.jw(s:ah H H')(h:aR K H a xs):aR K H' a xs:=by
 rcases h with(h | ⟨o,h⟩) | h
 ·exact .inl (.inl (s _ _ h))
 ·exact .inl (.inr ⟨o,s _ _ h⟩)
 ·exact .inr h
structure bG(H H':Hp):Prop where
 t:∀b xs,H b=some (.tup xs)->H' b=some (.tup xs)
 f:∀b o u,H b=some (.fi o u)->H' b=some (.fi o u)
theorem ah.keep(s:ah H H'):bG H H':=⟨λb xs h=>s _ _ h,λb o u h=>s _ _ h⟩
theorem bG.trans(a:bG H H')(b:bG H' H2):bG H H2:=⟨λc xs h=>b.t _ _ (a.t _ _ h),λc o u h=>b.f _ _ _ (a.f _ _ _ h)⟩
theorem bG.jw(k:bG H H')(h:aR K H a xs):aR K H' a xs:=by
 rcases h with(h | ⟨o,h⟩) | h
 ·exact .inl (.inl (k.t _ _ h))
 ·exact .inl (.inr ⟨o,k.f _ _ _ h⟩)
 ·exact .inr h
def gZ(K:wb)(H:Hp)(a:Addr)(xs:List V):Prop :=
 (∃o,H a=some (.fi o (.lst xs))) \/
  ∃(o:Obj)(its:Array Value)(n:Nat),K.lookup a=some o/\o.cls=.type "list"/\o.dict=none/\o.data=.seq its n/\its.size<=sizeLine/\aM xs its.toList
theorem gZ.sq(h:gZ K H a xs):aK K H a xs:=by
 rcases h with⟨o,h⟩ | h
 ·exact .inl (.inr ⟨o,h⟩)
 ·exact .inr h
theorem bG.Lu(k:bG H H')(h:gZ K H a xs):gZ K H' a xs:=by
 rcases h with⟨o,h⟩ | h
 ·exact .inl ⟨o,k.f _ _ _ h⟩
 ·exact .inr h
def Exc(p:Addr)(H H':Hp):Prop:=∀b o,b≠p->H b=some o->H' b=some o
theorem Exc.keep(e:Exc p H H')(h:H p=some (.lst xs)):bG H H' :=
 ⟨λb ys hb=>e b _ (JO hb h (by intro z;cases z)) hb,λb o u hb=>e b _ (JO hb h (by intro z;cases z)) hb⟩
theorem ah.exc(s:ah H H'):Exc p H H':=λb o _ h=>s b o h
theorem Exc.refl(p:Addr)(H:Hp):Exc p H H:=λ_ _ _ h=>h
theorem Exc.trans(a:Exc p H H')(b:Exc p H' H2):Exc p H H2:=λc o n h=>b c o n (a c o n h)
theorem Exc.upd(p:Addr)(H:Hp)(o:HO):Exc p H (upd H p o):=λb u n h=>by
 rw[dR n];exact h
theorem Exc.at(e:Exc p H H'){q:Addr}{u:HO}(n:q≠p)(h:H q=some u):H' q=some u:=e q u n h
end
mutual
def Is(K:wb)(H:Hp):V->PyData->Prop
 | v,.none=>v=.bj
 | v,.bool b=>v=.bl b
 | v,.int i=>v=.int i
 | v,.str x=>v=.str x
 | v,.tuple ds=>∃a xs,v=.ref a/\aR K H a xs/\ak K H xs ds
 | v,.list ds=>∃a xs,v=.ref a/\aK K H a xs/\ak K H xs ds
 | v,.dict _=>∃a kvs,v=.ref a/\H a=some (.dK kvs)
def ak(K:wb)(H:Hp):List V->List PyData->Prop
 | xs,[]=>xs=[]
 | xs,d::ds=>∃x r,xs=x::r/\Is K H x d/\ak K H r ds
end
section
variable{K:wb}{H H':Hp}{v:V}{xs:List V}{ds:List PyData}{d:PyData}
theorem cg{i:Int} : Is K H v (.int i) ↔ v=.int i:=by rw[Is]
theorem kc{b:Bool} : Is K H v (.bool b) ↔ v=.bl b:=by rw[Is]
theorem iR{x:Str} : Is K H v (.str x) ↔ v=.str x:=by rw[Is]
theorem lS:Is K H v .none ↔ v=.bj:=by rw[Is]
theorem bM:Is K H v (.tuple ds) ↔ ∃a xs,v=.ref a/\aR K H a xs/\ak K H xs ds:=by rw[Is]
theorem cB:Is K H v (.list ds) ↔ ∃a xs,v=.ref a/\aK K H a xs/\ak K H xs ds:=by rw[Is]
theorem yA{kv:List (PyData × PyData)} : Is K H v (.dict kv) ↔ ∃a kvs,v=.ref a/\H a=some (.dK kvs):=by rw[Is]
theorem fR:ak K H xs [] ↔ xs=[]:=by rw[ak]
theorem dE:ak K H xs (d::ds) ↔ ∃x r,xs=x::r/\Is K H x d/\ak K H r ds:=by rw[ak]
theorem ak.cons(h:Is K H v d)(t:ak K H xs ds):ak K H (v::xs) (d::ds):=dE.mpr ⟨v,xs,rfl,h,t⟩
theorem ak.nil:ak K H [] []:=fR.mpr rfl
theorem ak.length:∀{ds:List PyData}{xs:List V},ak K H xs ds->xs.length=ds.length
 | [],_,h=>by rw[fR.mp h];rfl
 | d::ds,_,h=>by
  obtain⟨x,r,rfl,_,t⟩:=dE.mp h;rw[wV,wV,ak.length t]
theorem ak.get:∀{ds:List PyData}{xs:List V}{i:Nat}{d:PyData},ak K H xs ds->ds[i]? = some d->∃x,xs[i]? = some x/\Is K H x d
 | [],_,_,_,_,e=>by simp at e
 | d::ds,_,0,_,h,e=>by
  obtain⟨x,r,rfl,q,_⟩:=dE.mp h;simp at e;subst e;exact⟨x,rfl,q⟩
 | d::ds,_,i+1,d',h,e=>by
  obtain⟨x,r,rfl,_,t⟩:=dE.mp h;obtain⟨y,h1,h2⟩:=ak.get (i:=i) t (by simpa using e);exact⟨y,by simpa using h1,h2⟩
theorem ak.append:∀{ds es:List PyData}{xs ys:List V},ak K H xs ds->ak K H ys es->ak K H (xs++ys) (ds++es)
 | [],_,_,_,h,t=>by rw[fR.mp h];exact t
 | d::ds,_,_,_,h,t=>by
  obtain⟨x,r,rfl,q,u⟩:=dE.mp h;exact .cons q (ak.append u t)
mutual
theorem Is.same(s:ah H H'):∀(d:PyData)(v:V),Is K H v d->Is K H' v d
 | .none,v,h=>by rw[lS]at h ⊢;exact h
 | .bool _,v,h=>by rw[kc]at h ⊢;exact h
 | .int _,v,h=>by rw[cg]at h ⊢;exact h
 | .str _,v,h=>by rw[iR]at h ⊢;exact h
 | .tuple ds,v,h=>by
  obtain⟨a,xs,e,q,t⟩:=bM.mp h;exact bM.mpr ⟨a,xs,e,s.jw q,ak.same s ds xs t⟩
 | .list ds,v,h=>by
  obtain⟨a,xs,e,q,t⟩:=cB.mp h;exact cB.mpr ⟨a,xs,e,s.seq q,ak.same s ds xs t⟩
 | .dict _,v,h=>by
  obtain⟨a,kvs,e,q⟩:=yA.mp h;exact yA.mpr ⟨a,kvs,e,s _ _ q⟩
theorem ak.same(s:ah H H'):∀(ds:List PyData)(xs:List V),ak K H xs ds->ak K H' xs ds
 | [],xs,h=>by rw[fR]at h ⊢;exact h
 | d::ds,xs,h=>by
  obtain⟨x,r,e,q,t⟩:=dE.mp h;exact dE.mpr ⟨x,r,e,Is.same s d x q,ak.same s ds r t⟩
end
end
/- no list and no dict within -/
mutual
def cS:PyData->Bool
 | .none=>true
 | .bool _=>true
 | .int _=>true
 | .str _=>true
 | .tuple ds=>bY ds
 | .list _=>false
 | .dict _=>false
def bY:List PyData->Bool
 | []=>true
 | d::ds=>cS d&&bY ds
end
section
variable{K:wb}{H H':Hp}
mutual
theorem Is.keep(k:bG H H'):∀(d:PyData)(v:V),cS d=true->Is K H v d->Is K H' v d
 | .none,v,_,h=>by rw[lS]at h ⊢;exact h
 | .bool _,v,_,h=>by rw[kc]at h ⊢;exact h
 | .int _,v,_,h=>by rw[cg]at h ⊢;exact h
 | .str _,v,_,h=>by rw[iR]at h ⊢;exact h
 | .tuple ds,v,i,h=>by
  obtain⟨a,xs,e,q,t⟩:=bM.mp h;exact bM.mpr ⟨a,xs,e,k.jw q,ak.keep k ds xs (by rw[cS]at i;exact i) t⟩
 | .list ds,v,i,h=>by rw[cS]at i;cases i
 | .dict _,v,i,h=>by rw[cS]at i;cases i
theorem ak.keep(k:bG H H'):∀(ds:List PyData)(xs:List V),bY ds=true->ak K H xs ds->ak K H' xs ds
 | [],xs,_,h=>by rw[fR]at h ⊢;exact h
 | d::ds,xs,i,h=>by
  obtain⟨x,r,e,q,t⟩:=dE.mp h;rw[bY,wI]at i;exact dE.mpr ⟨x,r,e,Is.keep k d x i.1 q,ak.keep k ds r i.2 t⟩
end
end
def N(r:Rat):PyData:=.tuple [.int r.num,.int (r.den:Int)]
theorem jU(r:Rat):cS (N r)=true:=by simp[N,cS,bY]
section
variable{K:wb}{H H':Hp}{v:V}{r:Rat}
theorem lU:Is K H v (N r) ↔ ∃a,v=.ref a/\aR K H a [.int r.num,.int (r.den:Int)]:=by
 unfold N;rw[bM]
 constructor
 ·rintro ⟨a,xs,e,q,t⟩
  obtain⟨x,r1,rfl,q1,t⟩:=dE.mp t;obtain⟨y,r2,rfl,q2,t⟩:=dE.mp t;rw[fR.mp t,cg.mp q1,cg.mp q2]at q;exact⟨a,e,q⟩
 ·rintro ⟨a,e,q⟩
  exact⟨a,_,e,q,.cons (cg.mpr rfl) (.cons (cg.mpr rfl) .nil)⟩
end
section
variable{X:Cx}{pins:List (Addr × Obj)}{σ : St}{H:Hp}{s:Shared}
mutual
theorem Inv.reads(I:Inv X pins σ H s):∀(d:PyData)(v:V)(u:Value),d.canLay0=true->Is X.K H v d->aW v u->∃as,Reads s.heap u d as
 | .none,v,u,_,h,r=>by
  cases lS.mp h;cases (show u=Value.none from r);exact⟨_,.none⟩
 | .bool b,v,u,_,h,r=>by
  cases kc.mp h;cases (show u=Value.bool b from r);exact⟨_,.bool b⟩
 | .int i,v,u,_,h,r=>by
  cases cg.mp h;obtain⟨t,e⟩:=(show ∃t,u=Value.int i t from r);cases e;exact⟨_,.int i t⟩
 | .str x,v,u,_,h,r=>by
  cases iR.mp h;obtain⟨t,e⟩:=(show ∃t,u=Value.str x t from r);cases e;exact⟨_,.str x t⟩
 | .tuple ds,v,u,c,h,r=>by
  obtain⟨a,xs,e,q,t⟩:=bM.mp h;subst e;cases (show u=Value.ref a from r);obtain⟨its,rv,⟨o,e1,e2,n,e3⟩,_⟩:=I.tuple q;obtain⟨as,ra⟩:=Inv.readsAll I ds xs its (by rw[vG]at c;exact c) t rv;exact⟨_,.tuple e1 e2 e3 (by simpa using ra)⟩
 | .list ds,v,u,c,h,r=>by
  obtain⟨a,xs,e,q,t⟩:=cB.mp h;subst e;cases (show u=Value.ref a from r);obtain⟨its,rv,⟨o,n,e1,e2,_,e3⟩,_⟩:=I.list q;obtain⟨as,ra⟩:=Inv.readsAll I ds xs its (by rw[vG]at c;exact c) t rv;exact⟨_,.list e1 e2 e3 (by simpa using ra)⟩
 | .dict _,v,u,c,h,r=>by rw[vG]at c;cases c
theorem Inv.readsAll(I:Inv X pins σ H s):∀(ds:List PyData)(xs:List V)(us:List Value),vQ ds=true->ak X.K H xs ds->aM xs us->∃as,ReadsAll s.heap us ds as
 | [],xs,us,_,h,r=>by
  rw[fR.mp h]at r;cases r;exact⟨_,.nil⟩
 | d::ds,xs,us,c,h,r=>by
  obtain⟨x,l,e,q,t⟩:=dE.mp h;subst e;rw[vQ,wI]at c;cases r with
  | cons r1 r2 =>
   obtain⟨as,h1⟩:=Inv.reads I d x _ c.1 q r1;obtain⟨bs,h2⟩:=Inv.readsAll I ds l _ c.2 t r2;exact⟨_,.cons h1 h2⟩
end
end
section
variable{X:Cx}
open PySem.SeqAt (shaped)
def cz(K:wb):R2:=λx y H Q=>∃d e,Is K H x d/\Is K H y e/\shaped d=true/\shaped e=true/\Q (.bl (wN d e)) H
def gc(K:wb):R2:=λx y H Q=>∃d e,Is K H x d/\Is K H y e/\shaped d=true/\shaped e=true/\Q (.bl (!PyData.eqv d e)) H
theorem cZ(hu:X.A.units+64<cLine):aN X (compareOp .Eq) (cz X.K):=by
 intro pins s σ H x y v u Q I rx ry h;obtain⟨d,e,hd,he,sd,se,q⟩:=h;obtain⟨as,h1⟩:=I.reads d x v (WM sd) hd rx;obtain⟨bs,h2⟩:=I.reads e y u (WM se) he ry;exact eq_dataH h1 h2 sd se hu ⟨.bl _,H,I,rfl,q⟩
theorem kX(hu:X.A.units+64<cLine):aN X (compareOp .NotEq) (gc X.K):=by
 intro pins s σ H x y v u Q I rx ry h;obtain⟨d,e,hd,he,sd,se,q⟩:=h;obtain⟨as,h1⟩:=I.reads d x v (WM sd) hd rx;obtain⟨bs,h2⟩:=I.reads e y u (WM se) he ry;exact ne_dataH h1 h2 sd se hu ⟨.bl _,H,I,rfl,q⟩
theorem aW.RL{x:V}{v:Value}(r:aW x v)(c:Bool):(v == Value.bool c)=decide (x=.bl c):=by
 cases x with
 | bj=>cases (show v=Value.none from r);rfl
 | bl b=>cases (show v=Value.bool b from r);cases b<;>cases c<;>rfl
 | int _=>obtain⟨t,rfl⟩:=r;rfl
 | str _=>obtain⟨t,rfl⟩:=r;rfl
 | byt _=>obtain⟨t,rfl⟩:=r;rfl
 | kZ _=>obtain⟨t,rfl⟩:=r;rfl
 | ref _=>cases r;rfl
 | ty _=>cases r;rfl
theorem aW.RE{x:V}{v:Value}(r:aW x v)(c:Bool):plainIs v (Value.bool c)=true:=by
 cases x with
 | bj=>cases (show v=Value.none from r);rfl
 | bl b=>cases (show v=Value.bool b from r);rfl
 | int _=>obtain⟨t,rfl⟩:=r;rfl
 | str _=>obtain⟨t,rfl⟩:=r;rfl
 | byt _=>obtain⟨t,rfl⟩:=r;rfl
 | kZ _=>obtain⟨t,rfl⟩:=r;rfl
 | ref _=>cases r;rfl
 | ty _=>cases r;rfl
def MY:R2:=λx y H Q=>(∃c,y=.bl c/\Q (.bl (decide (x=.bl c))) H)\/(y=.bj/\Q (.bl (decide (x=.bj))) H)
theorem CD:aN X (compareOp .Is) MY:=by
 intro pins s σ H x y v u Q I rx ry h;rcases h with⟨c,e,q⟩ | h
 ·subst e
  cases (show u=Value.bool c from ry);exact wpAny_is_plain (rx.RE c) (L4 I q (rx.RL c).symm)
 ·exact Z1 pins s σ H x y v u Q I rx ry h
def kindOf:PyData->String
 | .none=>"NoneType"
 | .bool _=>"bool"
 | .int _=>"int"
 | .str _=>"str"
 | .tuple _=>"tuple"
 | .list _=>"list"
 | .dict _=>"dict"
def i_(K:wb):List V->Hp->VK->Prop:=λxs H Q=>∃x T d b,xs=[x,.ty T]/\Is K H x d/\qc K (.type (kindOf d)) (.type T)=some b/\Q (.bl b) H
theorem ym:aO X (.builtin "isinstance") (i_ X.K):=by
 intro pins s σ H xs us Q I r h;obtain⟨x,T,d,b,rfl,hd,e,q⟩:=h;obtain⟨u,w',rfl,rx,rt⟩:=k_ r;cases (show w'=Value.type T from rt);have fin:∀tk,EP X pins σ Q (.bool b) {s with toks:=tk}:=λtk=>⟨.bl b,H,I.tok _,rfl,q⟩
 cases d with
 | none =>
  cases lS.mp hd;cases (show u=Value.none from rx);exact WY xS I.dk True.intro e (λz=>nomatch z) fin
 | bool y =>
  cases kc.mp hd;cases (show u=Value.bool y from rx);exact WY xT I.dk True.intro e (λz=>nomatch z) fin
 | int i =>
  cases cg.mp hd;obtain⟨t,q⟩:=(show ∃t,u=Value.int i t from rx);cases q;exact WY Xq I.dk True.intro e (λz=>nomatch z) fin
 | str y =>
  cases iR.mp hd;obtain⟨t,q⟩:=(show ∃t,u=Value.str y t from rx);cases q;exact WY Xr I.dk True.intro e (λz=>nomatch z) fin
 | tuple ds =>
  obtain⟨a,xs,e1,hq,_⟩:=bM.mp hd;subst e1;cases (show u=Value.ref a from rx);obtain⟨its,_,⟨o,h1,h2,_⟩,_⟩:=I.tuple hq;exact WY xD I.dk ⟨o,h1,h2⟩ e (λz=>nomatch z) fin
 | list ds =>
  obtain⟨a,xs,e1,hq,_⟩:=cB.mp hd;subst e1;cases (show u=Value.ref a from rx);obtain⟨its,_,⟨o,n,h1,h2,_⟩,_⟩:=I.list hq;exact WY xU I.dk ⟨o,h1,h2⟩ e (λz=>nomatch z) fin
 | dict kv =>
  obtain⟨a,kvs,e1,hq⟩:=yA.mp hd;subst e1;cases (show u=Value.ref a from rx);obtain⟨_,_,vs,_,o,es,ep,h1,h2,_⟩:=(show dh X.prog X.w H s.heap a (.dK kvs)from I.aG a _ hq);exact WY xV I.dk ⟨o,h1,h2.1⟩ e (λz=>nomatch z) fin
def isA(T:String)(d:PyData):Bool:=(kindOf d == T) || (kindOf d == "bool"&&T == "int")
theorem zy4{K:wb}(d:PyData):qc K (.type (kindOf d)) (.type "int")=some (isA "int" d):=by cases d<;>rfl
theorem zvT{K:wb}(d:PyData):qc K (.type (kindOf d)) (.type "bool")=some (isA "bool" d):=by cases d<;>rfl
theorem zuM{K:wb}(d:PyData):qc K (.type (kindOf d)) (.type "tuple")=some (isA "tuple" d):=by cases d<;>rfl
theorem R3{m n:Nat}{i j:Int}(h:Bd m i)(k:Bd n j)(hm:m<=1000000)(hn:n<=1000000):IntMulOk i j:=by
 have f:∀{m:Nat}{i:Int},Bd m i->m<=1000000->xo i<=2^20:=by
  intro m i h hm;have e:(2:Nat)^20=1048576:=by decide
  have l:=(h.mono (Nat.le_succ m)).log (qt m);unfold xo
  split<;>omega
 exact .of_bits (f h hm) (f k hn)
theorem cj:aN X (binaryOp .Mult) (rI IntMulOk λi j=>.int (i*j)):=rJ λ_ _ _ _ _ _ _ hc q=>mul_int q hc
def mC(_ j:Int):Prop:=j≠0/\Bd 8999 j
theorem eS:aN X (binaryOp .FloorDiv) (rI mC λi j=>.int (i.fdiv j)):=rJ λ_ _ _ _ _ _ _ hc q =>
 floordiv_int hc.1 q (.inl (PyProof.noPylong_of_log2 (W8 (hc.2.log (by decide)))))
theorem Zh:aN X (binaryOp .Add) (λx y H Q=>(ib λi j=>.int (i+j)) x y H Q\/(A1 x y H Q \/ ∃i j,x=.str i/\y=.str j/\i.length+j.length<=sizeLine/\Q (.str (i++j)) H)):=zA9.or (Zn.or zsx)
end
theorem dC:bootBuiltins "len"=some (.builtin "len"):=by decide +kernel
theorem kC:bootBuiltins "abs"=some (.builtin "abs"):=by decide +kernel
theorem nM:bootBuiltins "isinstance"=some (.builtin "isinstance"):=by decide +kernel
theorem zBG:bootBuiltins "int"=some (.type "int"):=by decide +kernel
theorem zyP:bootBuiltins "bool"=some (.type "bool"):=by decide +kernel
theorem d_:bootBuiltins "tuple"=some (.type "tuple"):=by decide +kernel
theorem lV:bootBuiltins "list"=some (.type "list"):=by decide +kernel
def kz(K:wb)(xs:List V)(H:Hp)(Q:VK):Prop:=xs.length<=sizeLine /\ ∀p,H p=none->Q (.ref p) (upd H p (.tup xs))
def Ce(K:wb)(xs:List V)(H:Hp)(Q:VK):Prop:=xs.length<=sizeLine /\ ∀p,H p=none->Q (.ref p) (upd H p (.lst xs))
def CM(K:wb)(t:TA):TE:=λσ H Q=>t σ H λxs H1=>kz K xs H1 Q
def Nk(K:wb)(t:TA):TE:=λσ H Q=>t σ H λxs H1=>Ce K xs H1 Q
def Cb:R2:=λx y H Q=>(ib λi j=>.int (i+j)) x y H Q\/(A1 x y H Q \/ ∃i j,x=.str i/\y=.str j/\i.length+j.length<=sizeLine/\Q (.str (i++j)) H)
def MM:List V->Hp->VK->Prop:=λxs H Q=>∃i:Int,xs=[.int i]/\Q (.int (if i<0 then -i else i)) H
def cN(K:wb):List V->Hp->VK->Prop:=λxs H Q=>∃p ys,xs=[.ref p]/\(aK K H p ys\/aR K H p ys)/\Q (.int ys.length) H
section
variable{X:Cx}{e:Expr}{es:List Expr}{te:TE}{t:TA}{pos:Pos}
theorem br{x1}(h:PA X es t):PE X (.Tuple es x1 pos) (CM X.K t):=zBn h
theorem e_(h:PA X es t):PE X (.List es pos) (Nk X.K t):=zA1 h
theorem cb:aN X (binaryOp .Add) Cb:=Zh
theorem kE:aO X (.builtin "abs") MM:=UH
theorem dU:aO X (.builtin "len") (cN X.K):=UQ
theorem oH{x:Str}{i:Int}{pos:Pos}(hg:Gl X x)(hm:∃t,X.mg x=some (.int i t))(hd:(x == ("__debug__" : Str))=false:=by decide):PE X (.Name x pos) (tC (.int i)):=by
 obtain⟨t,hm⟩:=hm;exact bW hg hm ⟨t,rfl⟩ hd
end
section
variable{K:wb}{σ : St}{H H':Hp}{Q:VK}{QA:List V->Hp->Prop}{QB:Bool->Hp->Prop}{QS:St->Hp->Prop}{QH:Hp->Prop}{D:cc}{ta tb te:TE}{tt tu:TT}{t tr:TA}{s1 s2:TS}{g:TG}{gs:jN}{r:R2}{v w:V}{xs ys:List V}{i:Nat}{m n:Int}
theorem zA5(h : σ[i]? = some (some v))(q:Q v H):yC i σ H Q:=⟨v,h,q⟩
theorem T1(q:Q v H):tC v σ H Q:=q
theorem Yo(h:ta σ H λx H1=>tb σ H1 λy H2=>r x y H2 Q):kK r ta tb σ H Q:=h
theorem Zx{u:V->Hp->VK->Prop}(h:ta σ H λx H1=>u x H1 Q):ML u ta σ H Q:=h
theorem ZD(h:t σ H λxs H1=>kz K xs H1 Q):CM K t σ H Q:=h
theorem zBb(h:t σ H λxs H1=>Ce K xs H1 Q):Nk K t σ H Q:=h
theorem zAO(q:QA [] H):Ej σ H QA:=q
theorem zyt(h:te σ H λx H1=>tr σ H1 λxs H2=>QA (x::xs) H2):Dc te tr σ H QA:=h
theorem TL{sp:Sp}{E:XK}(h:t σ H λvs H1=>sp vs H1 Q E):nU sp [] E t σ H Q:=by
 simpa only[nU,vH] using h
theorem zCu{u:List V->Hp->VK->Prop}(h:t σ H λvs H1=>u vs H1 Q):CZ u t σ H Q:=h
theorem zyL(h:te σ H λx H'=>∃k,x=.bl k/\QB k H'):Ek te σ H QB:=h
theorem Tw(h:te σ H λx H'=>∃k,x=.bl k/\QB k H'):tB te σ H QB:=h
theorem zBP(h:tt σ H λc H1=>if c=true then tu σ H1 QB else QB false H1):LX tt tu σ H QB:=h
theorem zCc(h:tt σ H λc H1=>if c=true then QB true H1 else tu σ H1 QB):NP tt tu σ H QB:=h
theorem zBJ(h:tt σ H λc H1=>QB (!c) H1):Nt tt σ H QB:=h
theorem zzk(h:ta σ H λx H1=>∃c,x=.bl c/\if c=true then tb σ H1 Q else Q (.bl false) H1):NO ta tb σ H Q:=h
theorem SV(h:ta σ H λx H1=>∃c,x=.bl c/\Q (.bl (!c)) H1):ID ta σ H Q:=h
theorem zBv(h:tt σ H λc H1=>if c=true then ta σ H1 Q else tb σ H1 Q):Ki tt ta tb σ H Q:=h
-- statements
theorem zAV(h:s1 {D with nx:=s2 D} σ H):C8 s1 s2 D σ H:=h
theorem YI(h:D.nx σ H):HM D σ H:=h
theorem zAx(h:te σ H D.rt):Kn te D σ H:=h
theorem zAU(h:tt σ H λb H1=>if b=true then s1 D σ H1 else s2 D σ H1):Ja tt s1 s2 D σ H:=h
theorem zAF(h:te σ H λx H1=>g x σ H1 D.nx):kP te g D σ H:=h
theorem TV(h:te σ H λ_ H1=>D.nx σ H1):Pe te D σ H:=h
theorem zAJ{i j:Nat}(h:t σ H λvs H1=>∃v w,vs=[v,w]/\D.nx ((σ.set i (some v)).set j (some w)) H1):OP i j t D σ H:=h
theorem zyk{i j:Nat}(q:QS ((σ.set i (some v)).set j (some w)) H):∃v' w',[v,w]=[v',w']/\QS ((σ.set i (some v')).set j (some w')) H:=⟨v,w,rfl,q⟩
-- targets
theorem YU(q:QS (σ.set i (some v)) H):iM i v σ H QS:=q
theorem zzi(q:QS σ H):IK [] σ H QS:=⟨rfl,q⟩
theorem zxS(q:g v σ H λσ' H'=>gs xs σ' H' QS):MR g gs (v::xs) σ H QS:=⟨v,xs,rfl,q⟩
theorem mE{a:Addr}{n:Nat}(h:aR K H a xs)(e:xs.length=n)(q:gs xs σ H QS):ly K n gs (.ref a) σ H QS:=⟨a,xs,rfl,h,e,q⟩
theorem zzq{tset:sL}(h:ta σ H λo H1=>tb σ H1 λi H2=>tset o i v H2 λH3=>QS σ H3):Jd ta tb tset v σ H QS:=h
theorem zf{p:Addr}{k:Int}{j:Nat}(h:H p=some (.lst xs))(e:gP xs.length k=some j)(q:∀H',Exc p H H'->H' p=some (.lst (xs.set j v))->QH H'):Ng (.ref p) (.int k) v H QH :=
 ⟨p,xs,k,j,rfl,rfl,h,e,q _ (Exc.upd p H _) cF⟩
-- ints
theorem zAp{f:Int->Int->V}(q:Q (f m n) H):ib f (.int m) (.int n) H Q:=⟨m,n,rfl,rfl,q⟩
theorem pj{C:Int->Int->Prop}{f:Int->Int->V}(c:C m n)(q:Q (f m n) H):rI C f (.int m) (.int n) H Q:=⟨m,n,rfl,rfl,c,q⟩
theorem Uq{f:Int->V}(q:Q (f m) H):rU f (.int m) H Q:=⟨m,rfl,q⟩
theorem zx2(q:Q (.int (m+n)) H):Cb (.int m) (.int n) H Q:=.inl ⟨m,n,rfl,rfl,q⟩
theorem mP{p b:Addr}(h:H p=some (.lst xs))(k:H b=some (.lst ys))(z:xs.length+ys.length<=sizeLine)
  (q:∀c H',H c=none->ah H H'->H' c=some (.lst (xs++ys))->Q (.ref c) H'):Cb (.ref p) (.ref b) H Q :=
 .inr (.inl ⟨p,b,xs,ys,rfl,rfl,h,k,z,λc hc=>q c _ hc (ah.upd hc) cF⟩)
theorem Zk(q:Q (.int (if m<0 then -m else m)) H):MM [.int m] H Q:=⟨m,rfl,q⟩
theorem OL{p:Addr}(h:aR K H p xs)(q:Q (.int xs.length) H):cN K [.ref p] H Q:=⟨p,xs,rfl,.inr h,q⟩
theorem jJ{p:Addr}(h:aK K H p xs)(q:Q (.int xs.length) H):cN K [.ref p] H Q:=⟨p,xs,rfl,.inl h,q⟩
theorem Ut(q:Q (.bl (decide (v=.bj))) H):MY v .bj H Q:=.inr ⟨rfl,q⟩
theorem SA(q:Q (.bl (decide (m=n))) H):cz K (.int m) (.int n) H Q :=
 ⟨.int m,.int n,cg.mpr rfl,cg.mpr rfl,rfl,rfl,by
  have e:wN (.int m) (.int n)=decide (m=n):=by
   rw[wN,qq]
  rw[e];exact q⟩
theorem zAE(q:Q (.bl (!decide (m=n))) H):gc K (.int m) (.int n) H Q :=
 ⟨.int m,.int n,cg.mpr rfl,cg.mpr rfl,rfl,rfl,by
  have e:wN (.int m) (.int n)=decide (m=n):=by
   rw[wN,qq]
  rw[e];exact q⟩
theorem u9{d e:PyData}(h:Is K H v d)(k:Is K H w e)(sd:vC d=true)(se:vC e=true)(q:Q (.bl (wN d e)) H):cz K v w H Q:=⟨d,e,h,k,sd,se,q⟩
theorem Ec{d e:PyData}(h:Is K H v d)(k:Is K H w e)(sd:vC d=true)(se:vC e=true)(q:Q (.bl (!PyData.eqv d e)) H):gc K v w H Q:=⟨d,e,h,k,sd,se,q⟩
theorem Di{T:String}{d:PyData}(h:Is K H v d)(e:qc K (.type (kindOf d)) (.type T)=some (isA T d))(q:Q (.bl (isA T d)) H):i_ K [v,.ty T] H Q:=⟨v,T,d,_,rfl,h,e,q⟩
def hJ:PyData->Bool
 | .tuple _=>true
 | _=>false
def Au:PyData->Bool
 | .int _=>true
 | .bool _=>true
 | _=>false
def Ds:PyData->Bool
 | .bool _=>true
 | _=>false
def oV:PyData->Bool
 | .list _=>true
 | _=>false
theorem NX{d:PyData} : hJ d=true ↔ ∃ds,d=.tuple ds:=by cases d<;>simp[hJ]
theorem PJ{d:PyData}(h:Is K H v d)(q:Q (.bl (hJ d)) H):i_ K [v,.ty "tuple"] H Q:=Di h (zuM d) (by have e:isA "tuple" d=hJ d:=(by cases d<;>rfl);rw[e];exact q)
theorem zxh{d:PyData}(h:Is K H v d)(q:Q (.bl (Au d)) H):i_ K [v,.ty "int"] H Q:=Di h (zy4 d) (by have e:isA "int" d=Au d:=(by cases d<;>rfl);rw[e];exact q)
theorem Se{d:PyData}(h:Is K H v d)(q:Q (.bl (Ds d)) H):i_ K [v,.ty "bool"] H Q:=Di h (zvT d) (by have e:isA "bool" d=Ds d:=(by cases d<;>rfl);rw[e];exact q)
theorem sH{p:Addr}{m:Int}(h:aR K H p xs)(e:gK xs m=some v)(q:Q v H):cQ K (.ref p) (.int m) H Q:=.inr (.inl ⟨p,xs,m,v,rfl,rfl,h,e,q⟩)
theorem ie{p:Addr}{m:Int}(h:aK K H p xs)(e:gK xs m=some v)(q:Q v H):cQ K (.ref p) (.int m) H Q:=.inl ⟨p,xs,m,v,rfl,rfl,h,e,q⟩
theorem zA7{α : Type}{xs:List α}{m:Int}(h0:0<=m)(h1:m<xs.length):∃v,gK xs m=some v/\v∈xs:=by
 obtain⟨k,rfl⟩:∃k:Nat,m=(k:Int):=⟨m.toNat,by omega⟩;have l:k<xs.length:=by omega
 exact⟨xs[k],jT (by simp[l]),vd l⟩
theorem PM{p:Addr}{m:Int}(P:V->Prop)(h:aK K H p xs)(h0:0<=m)(h1:m<xs.length)(hP:∀x∈xs,P x)(q:∀x,P x->Q x H):cQ K (.ref p) (.int m) H Q:=by
 obtain⟨x,e,hx⟩:=zA7 h0 h1;exact ie h e (q x (hP x hx))
theorem zyx{r:Rat}(h:Is K H v (N r))(q:Q (.int r.num) H):cQ K v (.int 0) H Q:=by
 obtain⟨a,rfl,h'⟩:=lU.mp h;exact sH h' rfl q
theorem YL{r:Rat}(h:Is K H v (N r))(q:Q (.int (r.den:Int)) H):cQ K v (.int 1) H Q:=by
 obtain⟨a,rfl,h'⟩:=lU.mp h;exact sH h' rfl q
theorem aD{ds:List PyData}{d:PyData}{j:Nat}(h:Is K H v (.tuple ds))(e:ds[j]? = some d)(q:∀x,Is K H x d->Q x H):cQ K v (.int (j:Int)) H Q:=by
 obtain⟨a,xs,rfl,h,t⟩:=bM.mp h;obtain⟨x,e1,hx⟩:=t.get e;exact sH h (jT e1) (q x hx)
theorem ju{ds:List PyData}(h:Is K H v (.tuple ds))(q:Q (.int ds.length) H):cN K [v] H Q:=by
 obtain⟨a,xs,rfl,h,t⟩:=bM.mp h;exact OL h (by rw[t.length];exact q)
theorem Rm{ds:List PyData}{n:Nat}(h:Is K H v (.tuple ds))(e:ds.length=n)(q:∀xs,ak K H xs ds->gs xs σ H QS):ly K n gs v σ H QS:=by
 obtain⟨a,xs,rfl,h,t⟩:=bM.mp h;exact mE h (by rw[t.length];exact e) (q xs t)
theorem mV{α : Type}{l:List α}(h:l.length<=1000):l.length<=sizeLine:=WC (iJ h)
theorem lR(z:xs.length<=1000)(q:∀p H',H p=none->ah H H'->H' p=some (.tup xs)->Q (.ref p) H'):kz K xs H Q:=⟨mV z,λp hp=>q p _ hp (ah.upd hp) cF⟩
theorem ff(z:xs.length<=1000)(q:∀p H',H p=none->ah H H'->H' p=some (.lst xs)->Q (.ref p) H'):Ce K xs H Q:=⟨mV z,λp hp=>q p _ hp (ah.upd hp) cF⟩
theorem cH{ds:List PyData}(z:xs.length<=1000)(h:ak K H xs ds)(q:∀v H',ah H H'->Is K H' v (.tuple ds)->Q v H'):kz K xs H Q :=
 lR z λp H' _ s e=>q _ H' s (bM.mpr ⟨p,xs,rfl,.of e,ak.same s ds xs h⟩)
theorem eC{r:Rat}(e1:m=r.num)(e2:n=(r.den:Int))(q:∀v H',ah H H'->Is K H' v (N r)->Q v H'):kz K [.int m,.int n] H Q:=by
 subst e1 e2;exact lR (by show 2<=1000;decide) λp H' _ s e=>q _ H' s (lU.mpr ⟨p,rfl,.of e⟩)
-- tests
theorem zy0{p:Prop}[Decidable p]{A B:Prop}(h1:p->A)(h2:¬ p->B):if decide p=true then A else B:=by
 by_cases h:p
 ·rw[decide_eq_true h,if_pos rfl];exact h1 h
 ·rw[decide_eq_false h,if_neg w5];exact h2 h
theorem SO{p:Prop}[Decidable p]{A B:Prop}(h1:¬ p->A)(h2:p->B):if(!decide p)=true then A else B:=by
 by_cases h:p
 ·rw[decide_eq_true h];exact l8 (h2 h)
 ·rw[decide_eq_false h];exact mq (h1 h)
theorem zyY{b:Bool}{A B:Prop}(h1:b=true->A)(h2:b=false->B):if b=true then A else B:=by
 cases b
 ·exact l8 (h2 rfl)
 ·exact mq (h1 rfl)
theorem Tv{b:Bool}{A B:Prop}(h1:b=false->A)(h2:b=true->B):if(!b)=true then A else B:=by
 cases b
 ·exact mq (h1 rfl)
 ·exact l8 (h2 rfl)
end
section
variable{c:TT}{tb:TS}{D:cc}{σ : St}{H:Hp}
def KH(σ : St)(i:Nat):Int:=match σ[i]? with
 | some (some (.int y))=>y
 | _=>0
def Oy(Pv:St->Hp->Prop)(μ : St->Nat)(tb:TS)(D:cc)(σ':St)(H1:Hp):Prop :=
 ∃M:St->Hp->Prop,(∀σ2 H2,M σ2 H2->∃m',m' < μ σ'/\(m' = μ σ2/\Pv σ2 H2))/\tb {D with nx:=M,ct:=M,bk:=D.nx} σ' H1
theorem KW(Pv:St->Hp->Prop)(μ : St->Nat)(h0:Pv σ H)
  (hs:∀σ' H',Pv σ' H'->c σ' H' λb H1=>if b=true then Oy Pv μ tb D σ' H1 else D.nx σ' H1):DF c tb D σ H:=by
 refine⟨λm σ H=>m = μ σ /\ Pv σ H,⟨_,rfl,h0⟩,?_⟩;rintro m σ H ⟨rfl,p⟩;exact hs σ H p
theorem Iy{Pv:St->Hp->Prop}{μ : St->Nat}{σ':St}{H1:Hp}(h:tb {D with nx:=λσ2 H2=>μ σ2 < μ σ'/\Pv σ2 H2,ct:=λσ2 H2=>μ σ2 < μ σ'/\Pv σ2 H2,bk:=D.nx} σ' H1):Oy Pv μ tb D σ' H1 :=
 ⟨_,λσ2 H2 q=>⟨_,q.1,rfl,q.2⟩,h⟩
def JU(g:TG)(tb:TS)(D:cc)(σ : St)(vs:List V)(H1:Hp):Prop:=∃j:Int,vs=[.int j] /\ -(2^62)<=j/\j<2^62 /\
 ∃W:Nat->Nat->St->Hp->Prop,(∃m,W 0 m σ H1) /\ ∀i m σ H,W i m σ H ->
  ((fQ 0 j.toNat).stop i H/\D.nx σ H)\/((fQ 0 j.toNat).go i H /\ ∃M:St->Hp->Prop,(∀σ' H',M σ' H'->∃m',m'<m/\W (i+1) m' σ' H') /\ ∀x H',(fQ 0 j.toNat).fD i H x H'->g x σ H' λσ2 H2=>tb {D with nx:=M,ct:=M,bk:=D.nx} σ2 H2)
theorem ZX{ta:TA}{g:TG}(h:ta σ H λvs H1=>JU g tb D σ vs H1):m5 (CW ta) g tb D σ H:=h
theorem kH{g:TG}{n:Int}(h0 : -1000000000<=n)(h1:n<1000000000)(Pv:Nat->St->Hp->Prop)(p:Pv 0 σ H)
   (hs:∀(i:Nat) σ H,i<n.toNat->Pv i σ H->g (.int (i:Int)) σ H λσ2 H2=>tb {D with nx:=Pv (i+1),ct:=Pv (i+1),bk:=D.nx} σ2 H2)
   (hd:∀σ H,Pv n.toNat σ H->D.nx σ H):JU g tb D σ [.int n] H:=by
 refine⟨n,rfl,by omega,by omega,Oe (lo:=0) Pv p (λi σ H hi q=>?_) hd⟩;have e:(0:Int)+(i:Int)=(i:Int):=by omega
 rw[e];exact hs i σ H hi q
end
def A4(K:wb)(g:TG)(tb:TS)(D:cc)(σ : St)(x:V)(H1:Hp):Prop:=∃a,x=.ref a/\(∃xs,aK K H1 a xs) /\
 ∃W:Nat->Nat->St->Hp->Prop,(∃m,W 0 m σ H1) /\ ∀i m σ H,W i m σ H ->
  ((iI K a).stop i H/\D.nx σ H)\/((iI K a).go i H /\ ∃M:St->Hp->Prop,(∀σ' H',M σ' H'->∃m',m'<m/\W (i+1) m' σ' H') /\ ∀x H',(iI K a).fD i H x H'->g x σ H' λσ2 H2=>tb {D with nx:=M,ct:=M,bk:=D.nx} σ2 H2)
def N1(K:wb)(g:TG)(tb:TS)(D:cc)(σ : St)(x:V)(H1:Hp):Prop:=∃a,x=.ref a/\(∃xs,aR K H1 a xs) /\
 ∃W:Nat->Nat->St->Hp->Prop,(∃m,W 0 m σ H1) /\ ∀i m σ H,W i m σ H ->
  ((iY K a).stop i H/\D.nx σ H)\/((iY K a).go i H /\ ∃M:St->Hp->Prop,(∀σ' H',M σ' H'->∃m',m'<m/\W (i+1) m' σ' H') /\ ∀x H',(iY K a).fD i H x H'->g x σ H' λσ2 H2=>tb {D with nx:=M,ct:=M,bk:=D.nx} σ2 H2)
section
variable{K:wb}{te:TE}{g:TG}{tb:TS}{D:cc}{σ : St}{H:Hp}{a:Addr}{xs:List V}
theorem U8(h:te σ H λx H1=>A4 K g tb D σ x H1):m5 (Dp K te) g tb D σ H:=h
theorem rF(hx:aK K H a xs)(Pv:Nat->St->Hp->Prop)(h0:Pv 0 σ H)(hl:∀i σ H,i<=xs.length->Pv i σ H->aK K H a xs)
  (hs:∀i x σ H,xs[i]? = some x->Pv i σ H->g x σ H λσ2 H2=>tb {D with nx:=Pv (i+1),ct:=Pv (i+1),bk:=D.nx} σ2 H2) (hd:∀σ H,Pv xs.length σ H->D.nx σ H):A4 K g tb D σ (.ref a) H :=
 ⟨a,rfl,⟨xs,hx⟩,Tx Pv h0 hl hs hd⟩
theorem zu0(hx:aR K H a xs)(Pv:Nat->St->Hp->Prop)(h0:Pv 0 σ H)(hl:∀i σ H,i<=xs.length->Pv i σ H->aR K H a xs)
  (hs:∀i x σ H,xs[i]? = some x->Pv i σ H->g x σ H λσ2 H2=>tb {D with nx:=Pv (i+1),ct:=Pv (i+1),bk:=D.nx} σ2 H2) (hd:∀σ H,Pv xs.length σ H->D.nx σ H):N1 K g tb D σ (.ref a) H :=
 ⟨a,rfl,⟨xs,hx⟩,Te Pv h0 hl hs hd⟩
end
theorem Yq{K:wb}{H:Hp}{a:Addr}{xs:List V}(hO:rB H)(h:aK K H a xs):gZ K H a xs:=by
 rcases h with(h | ⟨o,h⟩) | h
 ·rcases hO a with z | ⟨ob,ys,z⟩
  ·rw[h]at z;cases z
  ·rw[h]at z;cases z
 ·exact .inl ⟨o,h⟩
 ·exact .inr h
theorem Lm{K:wb}{H:Hp}{Q:VK}{a:Addr}{ns:List Int}{m:Int}(h:gZ K H a (ns.map V.int))(h0:0<=m)(h1:m<((ns.map V.int).length:Int))(q:∀z,Q (.int z) H):cQ K (.ref a) (.int m) H Q:=by
 refine PM (λv=>∃z,v=.int z) h.sq h0 h1 (λx hx=>?_) (λx hx=>?_)
 ·obtain⟨z,_,rfl⟩:=wJ.mp hx
  exact⟨z,rfl⟩
 ·obtain⟨z,rfl⟩:=hx
  exact q z
section
variable{K:wb}{H H':Hp}{v:V}{d:PyData}{a:Addr}{xs:List V}{o:HO}
theorem ah.back{H2:Hp}(b:ah H' H2)(s:ah H H'):ah H H2:=s.trans b
theorem bG.back{H2:Hp}(b:bG H' H2)(s:bG H H'):bG H H2:=s.trans b
theorem Is.by(s:ah H H')(h:Is K H v d):Is K H' v d:=Is.same s d v h
theorem Is.R9(h:Is K H v d)(s:ah H H'):Is K H' v d:=Is.same s d v h
theorem Is.R0{r:Rat}(h:Is K H v (N r))(s:bG H H'):Is K H' v (N r):=Is.keep s _ v (jU r) h
theorem Is.fE{r:Rat}(s:bG H H')(h:Is K H v (N r)):Is K H' v (N r):=Is.keep s _ v (jU r) h
theorem Is.kA(s:bG H H')(i:cS d=true)(h:Is K H v d):Is K H' v d:=Is.keep s _ v i h
end
def eH(X:Cx)(N':List Str)(scope:Scope)(cl:List (Str × Addr))(C:Addr)(s₀ : Shared)(H₀ : Hp)(fp:List Addr)(pins:List (Addr × Obj)):Cx where
 prog:=X.prog
 w:=X.w
 K:=X.K
 mg:=X.mg
 base:=X.base
 A:=X.A
 N:=N'
 s₀:=s₀
 H₀:=H₀
 env:=compEnvC scope cl C X.env
 outer:=X.stack
 stack:=X.stack
 ex:=fp
 fn:=λ_=>false
 calm:=X.calm
 pn:=X.pn++pins
 xe:=λ_ _=>False
structure L_(X:Cx)(scope:Scope)(cl:List (Str × Addr)):Prop where
 ko:closureFor scope X.env=pure cl
 sub:∀x c,cl.lookup x=some c->X.env.cells.lookup x=some c
 has:∀x,((relabel scope X.env).names.lookup x=some .cell\/(relabel scope X.env).names.lookup x=some .free)->∃c,cl.lookup x=some c
def dB(src:List (Option Nat))(σ : St):St:=src.map λo=>match o with
 | none=>none
 | some j=>(σ[j]?).join
def Kt(X:Cx)(N':List Str)(src:List (Option Nat)):Prop :=
 N'.length=src.length /\ ∀(i j:Nat)(x:Str),N'[i]? = some x->src[i]? = some (some j)->X.N[j]? = some x/\X.env.scope.names.lookup x=some .cell
section
variable{X:Cx}{pins:List (Addr × Obj)}{σ : St}{H:Hp}{s:Shared}{N':List Str}{scope:Scope}{cl:List (Str × Addr)}{src:List (Option Nat)}{fp:List Addr}
theorem Inv.block{h₁ : Heap}{tk:Nat}(I:Inv X pins σ H s)(hk:scope.kind=.function)(cok:L_ X scope cl)(sok:Kt X N' src)(hf:∀b∈fp,d8 X pins H b)(hlt:∀b∈fp,b<s.heap.objs.size)
   (hns:h₁.Ns s.heap.objs.size λ_=>none) (old:∀b o,s.heap.get? b=some o->h₁.get? b=some o)
   (hvis:∀(i:Nat) x,N'[i]? = some x->src[i]? ≠ some none->(relabel scope X.env).names.lookup x=some .cell\/(relabel scope X.env).names.lookup x=some .free) :
   Inv (eH X N' scope cl s.heap.objs.size s H fp pins) [] (dB src σ) H {s with heap:=h₁,toks:=tk}:=by
 have hfr:H s.heap.objs.size=none:=I.aG.fresh (wg _)
 have kg:∀x c,cl.lookup x=some c->c<s.heap.objs.size:=λx c e=>by
   obtain⟨v,q⟩:=I.cell x c (cok.sub x c e);exact q.lt
 have fplt:∀b∈fp,b ∉ dy X.stack:=λb hb z=>by
   obtain⟨_,f1,f2,_⟩:=hf b hb;exact(wz.mp (I.lE b z)).elim f1 f2
 refine⟨⟨I.ok.mod,?_,I.ok.glob,I.ok.blt,wg _,λx y c h1 h2=>?_,λx hx=>?_,λx c hx=>?_,I.ok.hd,I.ok.frames,.inl rfl,λb hb=>⟨?_,λx c e=>?_⟩,I.bs,vA I.ok.hZ I.sz,λb o e=>?_,fplt,I.stack,I.rf⟩,
   rfl,I.bare,Un.kept old,⟨_,hns,λi x v h1 h2 h3=>?_⟩,λx c e=>?_,hfr,λx c e=>?_,λp hp=>?_,I.aG.kept old,?_⟩
 . show(relabel scope X.env).kind=.function
   exact hk
 . exact I.ok.inj x y c (cok.sub x c h1) (cok.sub y c h2)
 . exact cok.has x hx
 . exact absurd (show false=true from hx) w5
 . exact wD (hlt b hb)
 . exact(hf b hb).2.2.2.2.1 x c (cok.sub x c e)
 . intro hb
   obtain⟨_,_,_,f3,_⟩:=hf b hb;rcases f3 with z | z
   . exact I.ok.jS b o e z
   . exact absurd (wG (wq e) (vA I.ok.hZ z)) (WE _)
 . -- a name of the frame around
   have hsrc:∃j,src[i]? = some (some j) /\ σ[j]? = some (some v):=by
     unfold dB at h2;rw[wn]at h2;cases q:src[i]? with
     | none=>rw[q]at h2;cases h2
     | some o =>
       rw[q]at h2;cases o with
       | none=>cases h2
       | some j =>
         refine⟨j,rfl,?_⟩;have h2':(σ[j]?).join=some v:=wF h2;cases q2 : σ[j]? with
         | none=>rw[q2]at h2';cases h2'
         | some z=>rw[q2]at h2';exact congrArg some h2'
   obtain⟨j,hj,hv⟩:=hsrc;obtain⟨hN,hc⟩:=sok.2 i j x h1 hj;obtain⟨m,_,hl⟩:=I.loc;obtain⟨u,ru,lk⟩:=hl j x v hN hv (.inr (.inl hc));refine⟨u,ru,.inr ⟨hvis i x h1 (by rw[hj];intro z;cases z),?_⟩⟩;rcases lk with⟨k,_⟩ | ⟨_,c,ec,hcell⟩
   . have k':X.env.scope.names.lookup x=some .local:=k
     rw[hc]at k';cases k'
   . obtain⟨c',ec'⟩:=cok.has x (hvis i x h1 (by rw[hj];intro z;cases z))
     have:=cok.sub x c' ec';rw[ec]at this;cases this;obtain⟨o,ho,hd⟩:=hcell;exact⟨c,ec',o,old c o ho,hd⟩
 . obtain⟨v,o,ho,hd⟩:=I.cell x c (cok.sub x c e)
   exact⟨v,o,old c o ho,hd⟩
 . exact I.fN x c (cok.sub x c e)
 . have hp':p∈(X.pn++pins)++[]:=hp
   rw[vH]at hp';obtain⟨e,n,ne,nf,d⟩:=I.pin p hp';refine⟨old _ _ e,n,wD (wq e),λz=>?_,d⟩;exact(wz.mp (I.lE p.1 z)).elim ne nf
 . show(dB src σ).length=N'.length
   unfold dB;rw[we,sok.1]
end
def Lw:TT:=λ_ H Q=>Q true H
def nS(X:Cx)(ifs:List Expr)(t:TT):Prop :=
 ∀(pins:List (Addr × Obj))(s:Shared)(σ : St)(H:Hp)(Q:Bool->Hp->Prop),Inv X pins σ H s->t σ H Q ->
  wpAny (model X.prog X.w) X.A (forIn ifs true λc r=>if r=true then do let ok <- isTrue c X.env (eval c X.env);pure (ForInStep.yield ok)else pure (ForInStep.yield r)) (TP X pins σ Q) X.xe s
theorem dX{X:Cx} : nS X [] Lw:=λ_ _ _ H _ I h=>wpAny_tests_nil ⟨H,I,h⟩
theorem oh{X:Cx}{c:Expr}{t:TT}(hc:PT X c t):nS X [c] t:=λpins s σ H Q I h=>wpAny_tests_one (hc pins s σ H Q I h)
section
variable{prog:Program}{w:World}{A:Around}{R:Result->Shared->Prop}{s:Shared}
theorem ZU{elt target iter:Expr}{ifs:List Expr}{scope:Scope}{pos:Pos}{it acc:Value}{env:Env}(I:Nat->Shared->Prop)
   (turn:∀n s,I n s->wpAny (model prog w) A (pyNext it) (λr s₁=>match r with
     | none=>R (.ok .next) s₁
     | some v=>wpAny (model prog w) A (letOwnedTupleGo target it v) (λ_ s₁'=>wpAny (model prog w) A (assign target env v) (λ_ s₂ =>
         wpAny (model prog w) A (forIn ifs true λc r=>if r=true then do let ok <- isTrue c env (eval c env);pure (ForInStep.yield ok)else pure (ForInStep.yield r)) (λok s₃ =>
           if ok=true then wpAny (model prog w) A (eval elt env) (λx s₄ =>
             wpAny (model prog w) A (call (.builtin "list.append") [acc,x]) (λ_ s₅=>∃m,m<n/\I m s₅) (λ_ _=>False) s₄) (λ_ _=>False) s₃
           else ∃m,m<n/\I m s₃) (λ_ _=>False) s₂) (λ_ _=>False) s₁') (λ_ _=>False) s₁) (λ_ _=>False) s)
   (n:Nat) (h:I n s):codeAny (model prog w) A (.compLoop (.ListComp elt [⟨target,iter,ifs,0⟩] scope pos) 0 it acc env) R s:=by
 refine codeAny_loop rfl I (λn s hI=>?_) n h
 show wpAny _ A ((compTurn (.ListComp elt [⟨target,iter,ifs,0⟩] scope pos) 0 it acc env).onRaise (λx=>do noteFrame x env;theTreesLotGoes x)) _ _ s
 refine wpAny_noted ?_;rw[compTurn_list];refine wpAny_bind (wpAny_standAt (wpAny_bind (wpAny_mono (turn n s hI) (λr s₁ h₁=>?_) λ_ _ h'=>h'.elim)));cases r with
 | none=>exact wpAny_pure h₁
 | some v =>
   refine wpAny_bind (wpAny_mono h₁ (λ_ s₁' h₁'=>?_) λ_ _ h'=>h'.elim);refine wpAny_bind (wpAny_mono h₁' (λ_ s₂ h₂=>wpAny_bind (wpAny_mono h₂ (λok s₃ h₃=>?_) λ_ _ h'=>h'.elim)) λ_ _ h'=>h'.elim);cases ok with
   | false=>exact wpAny_pure ⟨rfl,h₃⟩
   | true=>exact wpAny_bind (wpAny_bind (wpAny_mono h₃ (λx s₄ h₄=>wpAny_bind (wpAny_mono h₄ (λ_ s₅ h₅=>wpAny_pure (wpAny_pure ⟨rfl,h₅⟩)) λ_ _ h'=>h'.elim)) λ_ _ h'=>h'.elim))
end
def jk(g:TG)(tt:TT)(te:TE)(J:It)(D:Addr)(σ0:St)(H0:Hp)(Q:Hp->Prop):Prop :=
 ∃W:Nat->Nat->St->Hp->Prop,(∃m,W 0 m σ0 H0) /\ ∀i m σ' H',W i m σ' H' ->
  (J.stop i H'/\Q H')\/(J.go i H' /\ ∃M:St->Hp->Prop,(∀σ2 H2,M σ2 H2->∃m',m'<m/\W (i+1) m' σ2 H2) /\
   ∀x H2,J.fD i H' x H2->g x σ' H2 λσ3 H3=>tt σ3 H3 λok H4=>if ok=true then te σ3 H4 λy H5=>∃ys,H5 D=some (.lst ys)/\ys.length<sizeLine/\M σ3 (upd H5 D (.lst (ys++[y])))else M σ3 H4)
def jo(src:List (Option Nat))(wi:TI)(g:TG)(tt:TT)(te:TE):TE:=λσ H Q=>wi σ H λJ H1=>∀D,H1 D=none->jk g tt te J D (dB src σ) (upd H1 D (.lst [])) (λH'=>Q (.ref D) H')
structure NL(Y:Cx)(tg:Expr)(J:It)(fp:List Addr)(it:Addr)(tn:Nat->Heap->Prop):Prop where
 item:∀(i:Nat)(pins:List (Addr × Obj))(s:Shared)(σ : St)(H:Hp)(E:Value->Shared->Prop),Inv Y pins σ H s->(∀b∈fp,d8 Y pins H b)->tn i s.heap->J.go i H ->
   wpAny (model Y.prog Y.w) Y.A (pyNext (.ref it)) (λr s1=>∃u,r=some u/\wpAny (model Y.prog Y.w) Y.A (letOwnedTupleGo tg (.ref it) u) (λ_ s2=>∃x H',Inv Y pins σ H' s2/\aW x u/\J.fD i H x H'/\tn (i+1) s2.heap /\ ∀b∈fp,H' b=none) E s1) E s
 done:∀(i:Nat)(pins:List (Addr × Obj))(s:Shared)(σ : St)(H:Hp)(E:Value->Shared->Prop),Inv Y pins σ H s->(∀b∈fp,d8 Y pins H b)->tn i s.heap->J.stop i H ->
   wpAny (model Y.prog Y.w) Y.A (pyNext (.ref it)) (λr s1=>r=none/\Inv Y pins σ H s1) E s
theorem iT.N5{P:Program}{w:World}{K:wb}{tg:Expr}{J:It}{fp:List Addr}{it:Addr}{tn:Nat->Heap->Prop}(T:iT P w K tg J fp it tn){Y:Cx}(h1:Y.prog=P)(h2:Y.w=w)(h3:Y.K=K)(hc:Y.calm=true):NL Y tg J fp it tn:=by
 subst h1 h2 h3;exact⟨T.item Y rfl rfl rfl hc,T.done Y rfl rfl rfl hc⟩
section
variable{X:Cx}{pins:List (Addr × Obj)}{σ : St}{H:Hp}{s:Shared}{N':List Str}{scope:Scope}{cl:List (Str × Addr)}{src:List (Option Nat)}{elt tgt iter:Expr}{ifs:List Expr}{pos:Pos}{wi:TI}{g:TG}{tt:TT}{te:TE}
structure cE(X:Cx)(N':List Str)(scope:Scope)(cl:List (Str × Addr))(src:List (Option Nat)):Prop where
 kind:scope.kind=.function
 cell:∀y∈scope.names,y.2≠.cell
 names:∀y∈scope.names,y.2=.local->scope.names.lookup y.1=some .local
 ko:L_ X scope cl
 R7:Kt X N' src
 BW:∀(i:Nat) x,N'[i]? = some x->src[i]? ≠ some none->(relabel scope X.env).names.lookup x=some .cell\/(relabel scope X.env).names.lookup x=some .free
theorem JM{it:Addr}{fp:List Addr}{tn:Nat->Heap->Prop}{J:It}{RQ:Addr->Hp->Prop}{E:Value->Shared->Prop}{RR:Value->Addr->Result->Shared->Prop}
   (TC:∀C s₀ H₀,NL (eH X N' scope cl C s₀ H₀ fp pins) tgt J fp it tn) (ok:cE X N' scope cl src)
   (hg:∀C s₀ H₀ fp pins,PG (eH X N' scope cl C s₀ H₀ fp pins) tgt g) (ht:∀C s₀ H₀ fp pins,nS (eH X N' scope cl C s₀ H₀ fp pins) ifs tt) (he:∀C s₀ H₀ fp pins,PE (eH X N' scope cl C s₀ H₀ fp pins) elt te)
   (I:Inv X pins σ H s) (T:iT X.prog X.w X.K tgt J fp it tn) (st:tn 0 s.heap) (hf:∀b∈fp,d8 X pins H b)
   (rd:∀D,H D=none->jk g tt te J D (dB src σ) (upd H D (.lst [])) (λH'=>RQ D H'))
   (hRR:∀D C H' s' m,Inv X pins σ H' s'->s'.heap.Ns C m->d8 X pins H' C->RQ D H'->RR (.ref D) C (.ok .next) s') :
   wpAny (model X.prog X.w) X.A (newList []) (λacc s₃=>wpAny (model X.prog X.w) X.A (newFunctionEnv scope X.env.globals cl [] X.env.qual none .none (some X.env)) (λcenv s₄ =>
     codeAny (model X.prog X.w) X.A (.compStart (.ListComp elt [⟨tgt,iter,ifs,0⟩] scope pos) 0 (.ref it) acc {cenv with scope:=relabel scope X.env}) (RR acc cenv.locals) s₄) E s₃) E s:=by
 -- the list
 refine wpAny_newObj_type ?_ (by show 0<=sizeLine;exact vV _);have hD:H s.heap.objs.size=none:=I.aG.fresh (wg _)
 have I3:Inv X pins σ (upd H s.heap.objs.size (.lst [])) {s with heap:=s.heap.push {cls:=.type "list",data:=.seq ([]:List Value).toArray}} :=
   I.Ag (ys:=[]) (its:=[]) (t':=s.toks) .nil (vV _)
 have old3:∀b o,s.heap.get? b=some o->(s.heap.push {cls:=.type "list",data:=.seq ([]:List Value).toArray}).get? b=some o:=λb o e=>wf _ e
 have lt0:∀b∈fp,b<s.heap.objs.size:=λb hb=>by
   obtain⟨o,e,_⟩:=T.obj 0 _ st b hb;exact wq e
 have hf3:∀b∈fp,d8 X pins (upd H s.heap.objs.size (.lst [])) b:=λb hb=>⟨by rw[dR (wD (lt0 b hb))];exact(hf b hb).1,(hf b hb).2⟩
 have lt3:∀b∈fp,b<(s.heap.push {cls:=.type "list",data:=.seq ([]:List Value).toArray}).objs.size:=λb hb=>by
   rw[Vh];exact W8 (lt0 b hb)
 have st3:tn 0 (s.heap.push {cls:=.type "list",data:=.seq ([]:List Value).toArray}):=T.keep _ _ _ st λb _ o e=>old3 b o e
 obtain⟨W,⟨m0,w0⟩,turn⟩:=rd _ hD;generalize hs3:({s with heap:=s.heap.push {cls:=.type "list",data:=.seq ([]:List Value).toArray}} : Shared)=s3 at I3 ⊢;have hh3:s3.heap=s.heap.push {cls:=.type "list",data:=.seq ([]:List Value).toArray}:=by rw[<- hs3]
 rw[<- hh3]at lt3 st3;clear old3 hs3 hh3;generalize hD':s.heap.objs.size=D at *
 -- the block's dict
 refine wpAny_newFunctionEnv ok.cell (by intro y hy;cases hy) (λh₁ hns₁ hsb₁=>?_) ok.kind;have old:∀b o,s3.heap.get? b=some o->h₁.get? b=some o:=λb o e=>hsb₁.extBut b o (wD (wq e)) (wf _ e)
 have hC:d8 X pins (upd H D (.lst [])) s3.heap.objs.size:=I3.ji (wg _) (I3.aG.fresh (wg _))
 have IB:∀tk,Inv (eH X N' scope cl s3.heap.objs.size s3 (upd H D (.lst [])) fp pins) [] (dB src σ) (upd H D (.lst [])) {s3 with heap:=h₁,toks:=tk}:=λtk =>
   I3.block ok.kind ok.ko ok.R7 hf3 lt3 hns₁ old ok.BW
 have stB:tn 0 h₁:=T.keep _ _ _ st3 λb _ o e=>old b o e
 -- what is true of the iterator's records within
 have stat:∀{H':Hp} ,(∀b∈fp,H' b=none)->∀b∈fp,d8 (eH X N' scope cl s3.heap.objs.size s3 (upd H D (.lst [])) fp pins) [] H' b:=λhn b hb=>by
   obtain⟨_,f1,f2,f3,f4,f5⟩:=hf3 b hb;refine⟨hn b hb,wD (lt3 b hb),λz=>(wz.mp (I3.lE b z)).elim f1 f2,.inl hb,λx c e=>f4 x c (ok.ko.sub x c e),λp hp=>?_⟩;have hp':p∈(X.pn++pins)++[]:=hp;rw[vH]at hp';exact f5 p hp'
 -- from within back to the frame around
 have back:∀{σ':St}{H':Hp}{s':Shared},Inv (eH X N' scope cl s3.heap.objs.size s3 (upd H D (.lst [])) fp pins) [] σ' H' s'->Inv X pins σ H' s'/\(∃m,s'.heap.Ns s3.heap.objs.size m)/\d8 X pins H' s3.heap.objs.size:=λ{σ' H' s'} J=>by
   obtain⟨m,hn,_⟩:=J.loc;refine⟨I3.HB (ch:=fp) J.os J.base J.aG J.bare (λb hb=>?_),⟨m,hn⟩,⟨J.free,hC.2⟩⟩;obtain⟨_,f1,_,f3,f4,f5⟩:=hf3 b hb;exact⟨f3,f1,f4,f5⟩
 have loop:∀tk,codeAny (model X.prog X.w) X.A (.compLoop (.ListComp elt [⟨tgt,iter,ifs,0⟩] scope pos) 0 (.ref it) (.ref D) (compEnvC scope cl s3.heap.objs.size X.env)) (RR (.ref D) s3.heap.objs.size) {s3 with heap:=h₁,toks:=tk}:=by
   intro tk
   refine ZU (λn s'=>∃i σ' H',Inv (eH X N' scope cl s3.heap.objs.size s3 (upd H D (.lst [])) fp pins) [] σ' H' s'/\tn i s'.heap/\(∀b∈fp,H' b=none)/\W i n σ' H') ?_ m0
     ⟨0,_,_,IB tk,stB,λb hb=>(hf3 b hb).1,w0⟩
   rintro n s4 ⟨i,σ4,H4,I4,st4,fr4,w4⟩;rcases turn i n σ4 H4 w4 with⟨stop,q⟩ | ⟨go,M,hM,step⟩
   . refine aI ((TC _ _ _).done i [] s4 σ4 H4 (λ_ _=>False) I4 (stat fr4) st4 stop) λr s5 ⟨hr,I5⟩=>?_
     subst hr;obtain⟨J,⟨m,hn⟩,hCf⟩:=back I5;exact hRR D _ H4 s5 m J hn hCf q
   . refine aI ((TC _ _ _).item i [] s4 σ4 H4 (λ_ _=>False) I4 (stat fr4) st4 go) λr s5 ⟨u,hr,h5⟩=>?_
     subst hr;refine aI h5 λ_ s6 ⟨x,H6,I6,r6,y6,st6,fr6⟩=>?_
     have I6':=I6.pinned (stat fr6) (T.obj _ _ st6)
     have again:∀{σ7:St}{H7:Hp}{s7:Shared},Inv (eH X N' scope cl s3.heap.objs.size s3 (upd H D (.lst [])) fp pins) ([]++oo fp s6.heap) σ7 H7 s7->M σ7 H7 ->
         ∃m,m<n /\ ∃i σ' H',Inv (eH X N' scope cl s3.heap.objs.size s3 (upd H D (.lst [])) fp pins) [] σ' H' s7/\tn i s7.heap/\(∀b∈fp,H' b=none)/\W i m σ' H':=λ{σ7 H7 s7} I7 n7=>by
       obtain⟨m',hm,w7⟩:=hM σ7 H7 n7;refine⟨m',hm,i+1,σ7,H7,I7.p9,T.keep _ _ _ st6 λb hb o e=>(I7.pin (b,o) (vD _ (vD _ (rM hb e)))).1,λb hb=>?_,w7⟩;obtain⟨o,e,d⟩:=T.obj _ _ st6 b hb;exact(I7.pin (b,o) (vD _ (vD _ (rM hb e)))).2.1
     refine aI (hg _ _ _ _ _ _ s6 σ4 H6 x u _ I6' r6 (step x H6 y6)) λ_ s7 ⟨σ7,H7,I7,q7⟩=>?_
     refine aI (ht _ _ _ _ _ _ s7 σ7 H7 _ I7 q7) λk s8 ⟨H8,I8,q8⟩=>?_
     cases k with
     | false=>exact again I8 q8
     | true =>
       rw[if_pos rfl]at q8 ⊢;refine aI (he _ _ _ _ _ _ s8 σ7 H8 _ I8 q8) λy s9 ⟨yv,H9,I9,r9,ys,hys,hz,q9⟩=>?_
       exact aI (kY _ s9 σ7 H9 (.ref D) [yv] (.ref D) [y] (λ_ H'=>M σ7 H') I9 rfl (.cons r9 .nil) ⟨D,ys,yv,rfl,rfl,hys,hz,q9⟩) λ_ s10 ⟨_,H10,I10,_,q10⟩=>again I10 q10
 exact codeAny_compStart_list (loop _) (T.self _ _ _ _ _ stB (loop _))
theorem d4(hc:X.calm=true)(ok:cE X N' scope cl src)(hi:PI X tgt iter wi)
  (hg:∀C s₀ H₀ fp pins,PG (eH X N' scope cl C s₀ H₀ fp pins) tgt g) (ht:∀C s₀ H₀ fp pins,nS (eH X N' scope cl C s₀ H₀ fp pins) ifs tt) (he:∀C s₀ H₀ fp pins,PE (eH X N' scope cl C s₀ H₀ fp pins) elt te)
  (hs:∀x,foldedSetIterable iter X.env x=pure x:=by intro _;rfl):PE X (.ListComp elt [⟨tgt,iter,ifs,0⟩] scope pos) (jo src wi g tt te):=by
 intro pins s σ H Q I h;rw[eval_ListComp];refine wpAny_comprehension_free (use:=none) rfl hs ok.ko.ko ok.kind ok.names (aI (hi pins s σ H _ I h) λv s1 h1=>aI h1 λitv s2 h2=>?_);obtain⟨it,fp,tn,J,H2,e,I2,T,st2,f2,rd⟩:=h2;subst e;refine JM (RQ:=λD H'=>Q (.ref D) H') (RR:=λacc C=>compPost (model X.prog X.w) X.A X.xe none (EP X pins σ Q) acc C) (λ_ _ _=>T.N5 rfl rfl rfl hc) ok hg ht he I2 T st2 f2 rd ?_;intro D C H' s' m J hn hC q;obtain⟨c0,c1,_,c3,c4,c5⟩:=hC;exact⟨m,hn,λh' sb=>⟨.ref D,H',J.turned (t':=s'.toks) (λb o hb e=>(sb.2 b hb).trans e) c0 c1 c3 c4 c5,rfl,q⟩⟩
theorem lJ{i:Nat}{y:Str}{py spos:Pos}(hN:X.N.Nodup)(hy:X.N[i]? = some y)(hly:Loc X.env.scope y)(hc:X.calm=true)(ok:cE X N' scope cl src)(hi:PI X tgt iter wi)
   (hg:∀C s₀ H₀ fp pins,PG (eH X N' scope cl C s₀ H₀ fp pins) tgt g) (ht:∀C s₀ H₀ fp pins,nS (eH X N' scope cl C s₀ H₀ fp pins) ifs tt) (he:∀C s₀ H₀ fp pins,PE (eH X N' scope cl C s₀ H₀ fp pins) elt te)
   (hsw:swapsWith (.ListComp elt [⟨tgt,iter,ifs,0⟩] scope pos) (some (.Name y py)) spos.line X.env=pure true:=by rfl)
   (hs:∀x,foldedSetIterable iter X.env x=pure x:=by intro _;rfl) (hf:X.fn y=true\/X.env.scope.names.lookup y=some .local:=by first | exact .inl rfl | exact .inr rfl | assumption) :
   PS X (.Assign [.Name y py] (.ListComp elt [⟨tgt,iter,ifs,0⟩] scope pos) spos) (kP (jo src wi g tt te) (iM i)):=by
 intro pins s σ H D0 I h;rw[exec_Assign_Name_used _ _ _ _ hsw];refine wpAny_bind (wpAny_standAt (wpAny_bind ?_))
 show wpAny _ X.A (do let _ <- comprehension (.ListComp elt [⟨tgt,iter,ifs,0⟩] scope pos) scope X.env _ (newList []) false (eval iter X.env) (some (assign (.Name y py) X.env))) _ _ s
 refine wpAny_bind (wpAny_mono (wpAny_comprehension_free (Q:=λ_ s'=>SP X pins D0 .next s') rfl hs ok.ko.ko ok.kind ok.names (aI (hi pins s σ H _ I h) λv s1 h1=>aI h1 λitv s2 h2=>?_))
   (λ_ s' hq=>wpAny_pure (wpAny_pure hq)) λ_ _ e=>e)
 obtain⟨it,fp,tn,J,H2,e,I2,T,st2,f2,rd⟩:=h2;subst e;refine JM (RQ:=λD H'=>iM i (.ref D) σ H' D0.nx) (RR:=λacc C=>compPost (model X.prog X.w) X.A X.xe (some (assign (.Name y py) X.env)) (λ_ s'=>SP X pins D0 .next s') acc C) (λ_ _ _=>T.N5 rfl rfl rfl hc) ok hg ht he I2 T st2 f2 rd ?_;intro D C H' s' m J hn hC q;obtain⟨c0,c1,_,c3,c4,c5⟩:=hC
 show wpAny _ _ (assign (.Name y py) X.env (.ref D)) _ _ s'
 refine wpAny_assign_Name (NS J hN hy hly (v:=.ref D) rfl (λs'' J2 ⟨a,sb,ha⟩=>?_) hf)
 have hCa:C≠a:=by
   rcases ha with z | z
   . rw[z];exact c1
   . exact(c4 y a z).symm
 exact⟨m,hn.sameBut sb hCa,λh' sb'=>⟨_,H',J2.turned (t':=s''.toks) (λb o hb e=>(sb'.2 b hb).trans e) c0 c1 c3 c4 c5,q⟩⟩
end
abbrev MA(h B:Heap)(e:Addr)(cls:Value):Prop :=
 ∃oe vs,h.get? e=some oe/\oe.cls=cls/\oe.data=.fields vs/\vs[1]? = some .none/\vs[2]? = some .none/\oe.dict=none/\B.get? e=none
abbrev Pr(h B:Heap)(e:Addr)(cls fl:Value):Prop :=
 ∃oe vs T oT ts,h.get? e=some oe/\oe.cls=cls/\oe.data=.fields vs/\vs[1]? = some (.ref T)/\vs[2]? = some .none/\oe.dict=none/\B.get? e=none/\B.get? T=none/\T≠e/\h.get? T=some oT/\oT.data=.fields ts/\ts[3]? = some fl
structure eQ(B:Heap)(l:List Env)(e:Addr)(cls fl:Value)(h:Heap):Prop where
 st:B.StaysIn h
 fr:h.FunFrames B l
 tr:Pr h B e cls fl
theorem YC{f:Array Value->Array Value}(o:Obj):(ql f o).dict=o.dict:=by
 obtain⟨c,d,dt,sl⟩:=o;cases dt<;>rfl
theorem kI{h:Heap}{T:Addr}{f:Obj->Obj}{b:Addr}(n:b≠T):(h.update T f).get? b=h.get? b:=qk _ _ (vX n)
theorem mF{h:Heap}{T b:Addr}{oT o:Obj}{ts:Array Value}(hT:h.get? T=some oT)(dT:oT.data=.fields ts)(hb:h.get? b=some o)(hn:∀vs,o.data≠.fields vs):b≠T:=by
 rintro rfl;rw[hT]at hb;cases hb;exact hn _ dT
theorem DZ{B:Heap}{T b:Addr}{o:Obj}(n:B.get? T=none)(q:B.get? b=some o):b≠T:=by
 rintro rfl;rw[n]at q;cases q
section
variable{M:Model}{A:Around}{E:Value->Shared->Prop}{s:Shared}{B:Heap}{l outer:List Env}{env:Env}{L e:Addr}{cls fl:Value}{Q:Unit->Shared->Prop}
theorem eQ.land(F:eQ B l e cls fl s.heap)(k:∀h',eQ B l e cls .none h'->s.heap.UpToSlots h'->Q () {s with heap:=h'}):wpAny M A (setFlight (.ref e) none) Q E s:=by
 obtain⟨st,fr,oe,vs,T,oT,ts,he,hc,hd,h1,h2,hdi,be,bT,ne,hT,dT,h3⟩:=F;have sz:3<ts.size:=(Wq.mp h3).1;unfold setFlight;refine wpAny_bind (wpAny_field he hd h1 ?_);rw[if_pos (by simp)];have at3:∀b,b≠T->(s.heap.update T (ql (·.setIfInBounds 3 Value.none))).get? b=s.heap.get? b:=λb n=>kI n
 have tr:Pr (s.heap.update T (ql (·.setIfInBounds 3 Value.none))) B e cls .none :=
  ⟨oe,vs,T,ql (·.setIfInBounds 3 Value.none) oT,ts.setIfInBounds 3 Value.none,(at3 e ne.symm).trans he,hc,hd,h1,h2,hdi,be,bT,ne,
   WV _ hT (VI (Vx dT _)),Vx dT _,by simp[sz]⟩
 refine wpAny_setField hT dT sz (k _ ⟨λb o q=>(at3 b (DZ bT q)).trans (st b o q),fr.of_keeps λb o hb hn=>⟨o,(at3 b (mF hT dT hb hn)).trans hb,rfl⟩,tr⟩ λb o hb hn=>⟨o.slots,(at3 b (mF hT dT hb hn)).trans hb⟩)
theorem LQ{oe:Obj}{vs:Array Value}{head:Value}{had:Bool}(hfr:A.frames=some (env::outer))(hf:env.frame=some L)(st:B.StaysIn s.heap)(fr:s.heap.FunFrames B (env::outer))(he:s.heap.get? e=some oe)
   (hd:oe.data=.fields vs) (sz:1<vs.size) (h2:vs[2]? = some .none) (hdi:oe.dict=none) (be:B.get? e=none) (k:∀h',eQ B (env::outer) e oe.cls (rawInt L) h'->s.heap.UpToSlots h'->Q () {s with heap:=h'}) :
   wpAny M A (do let a <- frameOf env;let pl <- entryPlaceOf L had;let b <- xp head a .none (rawInt L) .none pl;setField (.ref e) 1 b) Q E s:=by
 have nfr:e ∉ (env::outer).filterMap (·.frame):=λz=>by
   obtain⟨_,o,ho,hnf⟩:=fr.mem z;rw[he]at ho;cases ho;exact hnf vs hd
 refine wpAny_bind (wpAny_frameOf_fun hfr fr hf λg sg=>wpAny_bind (wpAny_entryPlaceOf λpl hpl=>?_));unfold xp newFields;refine wpAny_bind (wpAny_newObj_type ?_ (hpl.sizeOk5 _ _ _ _ _));have eg:g.get? e=some oe:=(sg.2.1 e nfr).trans he
 have stg:B.StaysIn g:=λb o q=>by
   rw[sg.2.1 b λz=>?_]
   . exact st b o q
   . rw[(fr.mem z).1]at q;cases q
 generalize hob:({cls:=.type "traceback",data:=.fields ([head,.ref L,.none,rawInt L,.none]++(if pl.isEmpty then wQ 6 Value.none else pl)).toArray} : Obj)=tb;have dtb:tb.data=.fields ([head,.ref L,.none,rawInt L,.none]++(if pl.isEmpty then wQ 6 Value.none else pl)).toArray:=by rw[<- hob]
 have ftb:tb.isFreed=false:=VI dtb;have e2:=wf (h:=g) tb eg;have neT:g.objs.size≠e:=wR (wq eg)
 have at3:∀b o,b≠e->g.get? b=some o->((g.push tb).update e (ql (·.setIfInBounds 1 (.ref g.objs.size)))).get? b=some o:=λb o n q=>by
   rw[kI n];exact wf _ q
 refine wpAny_setField e2 hd sz (k _ ?_ ?_)
 . have d3:=Vx hd (·.setIfInBounds 1 (Value.ref g.objs.size))
   refine⟨λb o q=>at3 b o (DZ be q) (stg b o q),fr.of_keeps λb o hb hn=>?_,_,_,g.objs.size,tb,_,WV _ e2 (VI d3),xW _ _,d3,by simp[sz],?_,?_,be,stg.fresh,neT,?_,dtb,?_⟩
   . obtain⟨sl,q⟩:=sg.2.2 b o hb
     exact⟨_,at3 b _ (mF he hd hb hn) q,rfl⟩
   . rw[Array.getElem?_setIfInBounds_ne (by decide)];exact h2
   . exact(YC oe).trans hdi
   . rw[kI neT];exact wB _ ftb
   . first | (simp;done) | (rcases hpl with rfl | ⟨_,_,_,_,_,_,_,rfl⟩<;>simp)
 . exact λb o hb hn=>by
     obtain⟨sl,q⟩:=sg.2.2 b o hb;exact⟨sl,at3 b _ (mF he hd hb hn) q⟩
theorem zvo(hfr:A.frames=some (env::outer))(hf:env.frame=some L)(st:B.StaysIn s.heap)(fr:s.heap.FunFrames B (env::outer))(t:MA s.heap B e cls)
  (k:∀h',eQ B (env::outer) e cls (rawInt L) h'->s.heap.UpToSlots h'->Q () {s with heap:=h'}):wpAny M A (noteFrame (.ref e) env) Q E s:=by
 obtain⟨oe,vs,he,hc,hd,h1,h2,hdi,be⟩:=t;subst hc;unfold noteFrame;simp only[hf];refine wpAny_bind (wpAny_field he hd h1 ?_);rw[if_neg (by decide)];exact LQ hfr hf st fr he hd (Wq.mp h1).1 h2 hdi be k
theorem eQ.note(F:eQ B (env::outer) e cls .none s.heap)(hfr:A.frames=some (env::outer))(hf:env.frame=some L)
   (k:∀h',eQ B (env::outer) e cls (rawInt L) h'->s.heap.UpToSlots h'->Q () {s with heap:=h'}):wpAny M A (noteFrame (.ref e) env) Q E s:=by
 obtain⟨st,fr,oe,vs,T,oT,ts,he,hc,hd,h1,h2,hdi,be,bT,ne,hT,dT,h3⟩:=F;subst hc;unfold noteFrame;simp only[hf];refine wpAny_bind (wpAny_field he hd h1 ?_);rw[if_pos (by simp)];refine wpAny_bind (wpAny_field hT dT h3 ?_);rw[if_neg (by simp[rawInt])];refine wpAny_bind (wpAny_setField hT dT (Wq.mp h3).1 ?_);refine LQ hfr hf (λb o q=>?_) (fr.of_keeps λb o hb hn=>⟨o,?_,rfl⟩) ?_ hd (Wq.mp h1).1 h2 hdi be λh' F' sm=>k h' F' λb o hb hn=>sm b o ?_ hn
 . show(QR _ _ _).get? b=_
   rw[kI (DZ bT q)];exact st b o q
 . show(QR _ _ _).get? b=_
   rw[kI (mF hT dT hb hn)];exact hb
 . show(QR _ _ _).get? e=_
   rw[kI ne.symm];exact he
 . show(QR _ _ _).get? b=_
   rw[kI (mF hT dT hb hn)];exact hb
theorem U_(hfr:A.frames=some (env::outer))(hf:env.frame=some L)(st:B.StaysIn s.heap)(fr:s.heap.FunFrames B (env::outer))(t:MA s.heap B e cls)
  (k:∀h',eQ B outer e cls .none h'->s.heap.UpToSlots h'->Q () {s with heap:=h'}):wpAny M A (leaving env (.ref e)) Q E s:=by
 unfold leaving;refine wpAny_bind (zvo hfr hf st fr t λh1 F1 s1=>eQ.land F1 λh2 F2 s2=>k h2 ⟨F2.st,F2.fr.2.2,F2.tr⟩ (s1.trans s2))
theorem eQ.leave(F:eQ B (env::outer) e cls .none s.heap)(hfr:A.frames=some (env::outer))(hf:env.frame=some L)
  (k:∀h',eQ B outer e cls .none h'->s.heap.UpToSlots h'->Q () {s with heap:=h'}):wpAny M A (leaving env (.ref e)) Q E s:=by
 unfold leaving;refine wpAny_bind (F.note hfr hf λh1 F1 s1=>eQ.land F1 λh2 F2 s2=>k h2 ⟨F2.st,F2.fr.2.2,F2.tr⟩ (s1.trans s2))
end
theorem dh.there{P:Program}{w:World}{H:Hp}{h:Heap}{a:Addr}{o:HO}(x:dh P w H h a o):∃u,h.get? a=some u:=by
 cases o with
 | lst xs=>obtain⟨_,_,_,_,e⟩:=x;exact⟨_,e⟩
 | tup xs=>obtain⟨_,_,_,_,e,_⟩:=x;exact⟨_,e⟩
 | dK kvs=>obtain⟨_,_,_,_,o,_,_,e,_⟩:=x;exact⟨_,e⟩
 | dT kvs=>obtain⟨_,_,_,_,o,_,_,e,_⟩:=x;exact⟨_,e⟩
 | set S n=>obtain⟨o,_,_,_,e,_⟩:=x;exact⟨_,e⟩
 | ins C dx fs=>obtain⟨_,_,_,e,_⟩:=x;exact⟨_,e⟩
 | own y=>exact x
 | xd fs=>obtain⟨_,⟨_,_,_,e,_⟩,_⟩:=x;exact⟨_,e⟩
 | zJ lo hi=>obtain⟨_,_,_,e⟩:=x;exact⟨_,e⟩
 | fi ob u=>obtain⟨e,_⟩:=x;exact⟨_,e⟩
 | jY ps=>exact⟨_,x⟩
 | met f y=>exact⟨_,x⟩
 | ext φ=>obtain⟨_,e,_⟩:=x;exact e
structure lO(B:Heap)(fs:List Addr)(H H':Hp)(h:Heap):Prop where
 ig:∀a o,H' a=some o->∃u,B.get? a=some u
 old:∀b o,h.get? b=some o->H b=none->b ∉ fs->B.get? b=some o
 oK:∀b o,h.get? b=some o->b ∉ fs->∃u,B.get? b=some u
def eJ(P:Program)(w:World):fv:=λouter H s E e s'=>∃(ex:Addr)(C:Value)(H':Hp)(B:Heap),e=.ref ex/\s'.os=s.os/\AllBare s'.gens/\Un (dy outer) [] H H' s.heap s'.heap/\cT P w H' s'.heap /\
 eQ B outer ex C .none s'.heap/\lO B (dy outer) H H' s.heap/\E C none H'
section
variable{B h h1 h':Heap}{fs:List Addr}{H H':Hp}{P:Program}{w:World}
theorem lO.un(ov:lO B fs H H' h)(un:Un fs [] H H' h h1)(hfs:∀b∈fs,H b=none /\ ∃o,h.get? b=some o /\ ∀vs,o.data≠.fields vs)(st:B.StaysIn h')(sm:h1.UpToSlots h'):Un fs [] H H' h h':=by
 have slot:∀b o,h.get? b=some o->b∈fs->∃sl,h'.get? b=some {o with slots:=sl}:=λb o e hb=>by
  obtain⟨n,o',ho',nr⟩:=hfs b hb;rw[e]at ho';cases ho';obtain⟨sl,e1⟩:=un.any e n (by simp);obtain⟨sl2,e2⟩:=sm b _ e1 nr;exact⟨sl2,e2⟩
 refine⟨λb o e n nf _=>st b o (ov.old b o e n nf),λb o e _ hb _=>slot b o e hb,un.free,λb o e _=>?_,un.gR,un.gA,un.gQ⟩
 by_cases hb:b∈fs
 ·obtain⟨sl,e1⟩:=slot b o e hb
  exact⟨_,e1⟩
 ·obtain⟨u,e1⟩:=ov.oK b o e hb
  exact⟨u,st b u e1⟩
theorem lO.aG(ov:lO B fs H H' h)(aG:cT P w H' h1)(st1:B.StaysIn h1)(st:B.StaysIn h'):cT P w H' h':=λa o e=>by
 refine(aG a o e).jR (λb u hb r=>?_) (λ_ z=>z) λ_ _ z=>z
 have:∃v,B.get? b=some v:=by
  rcases hb with rfl | hb
  ·exact ov.ig _ _ e
  ·exact ov.ig _ _ hb
 obtain⟨v,ev⟩:=this;have e2:=st1 b v ev;rw[r]at e2;cases e2;exact st b u ev
end
section
variable{X:Cx}{pins:List (Addr × Obj)}{σ : St}{H H':Hp}{s s':Shared}{B:Heap}{ex:Addr}{C:Value}{E:XK}{E':Value->Shared->Prop}
theorem Mu(I:Inv X pins σ H s)(hx:X.ex=[])(os:s'.os=s.os)(bare:AllBare s'.gens)(un:Un (dy X.stack) [] H H' s.heap s'.heap)(aG:cT X.prog X.w H' s'.heap)(stB:B.StaysIn s'.heap)(ov:lO B (dy X.stack) H H' s.heap)
   (q:E C none H') (fly:∀(Q:Unit->Shared->Prop),(∀h',eQ B X.outer ex C .none h'->s'.heap.UpToSlots h'->Q () {s' with heap:=h'})->wpAny (model X.prog X.w) X.A (leaving X.env (.ref ex)) Q E' s') :
   wpAny (model X.prog X.w) X.A (leaving X.env (.ref ex)) (λ_ s''=>eJ X.prog X.w X.outer X.H₀ X.s₀ E (.ref ex) s'') E' s':=by
 have base:Un X.fs [] X.H₀ H X.s₀.heap s.heap:=by have:=I.base;rwa[hx]at this
 have nL:∀b o,X.s₀.heap.get? b=some o->b ∉ X.fs->b ∉ dy X.stack:=λb o e n z=>by
   rcases wz.mp (I.lE b z)with r | r
   . exact wD (wG (wq e) I.ok.above) r
   . exact n r
 have old:∀b o,X.s₀.heap.get? b=some o->X.H₀ b=none->b ∉ X.fs->B.get? b=some o:=λb o e n nf =>
   ov.old b o (base.keep b o e n nf (by simp)) (base.free b o e n (by simp)) (nL b o e nf)
 have oK:∀b o,X.s₀.heap.get? b=some o->b ∉ X.fs->∃u,B.get? b=some u:=λb o e nf=>by
   obtain⟨o',e1⟩:=base.there b o e (by simp);exact ov.oK b o' e1 (nL b o e nf)
 refine fly _ λh' F sm=>⟨ex,C,H',B,rfl,os.trans I.os,bare,⟨λb o e n nf _=>F.st b o (old b o e n nf),λb o e n hb _=>?_,λb o e n _=>?_,λb o e _=>?_,λb xs e=>un.gR b xs (base.gR b xs e),
   λb o u e=>un.gA b o u (base.gA b o u e),λb ps e=>?_⟩,λa o e=>?_,F,⟨ov.ig,old,oK⟩,q⟩
 . obtain⟨sl,e1⟩:=base.slot b o e n hb (by simp)
   obtain⟨sl',e2⟩:=un.any e1 (base.free b o e n (by simp)) (by simp);obtain⟨_,o',ho',nr⟩:=I.ok.eG.mem hb;rw[e]at ho';cases ho';obtain⟨sl2,e3⟩:=sm b _ e2 nr;exact⟨sl2,e3⟩
 . obtain⟨o',e1⟩:=base.there b o e (by simp)
   exact un.free b o' e1 (base.free b o e n (by simp)) (by simp)
 . by_cases hb:b∈X.fs
   . obtain⟨_,o',ho',nr⟩:=I.ok.eG.mem hb
     rw[e]at ho';cases ho';have n:X.H₀ b=none:=I.ok.je b hb;obtain⟨sl,e1⟩:=base.slot b o e n hb (by simp);obtain⟨sl',e2⟩:=un.any e1 (base.free b o e n (by simp)) (by simp);obtain⟨sl2,e3⟩:=sm b _ e2 nr;exact⟨_,e3⟩
   . obtain⟨u,e1⟩:=oK b o e hb
     exact⟨u,F.st b u e1⟩
 . obtain⟨m1,e1⟩:=base.gQ b ps e
   obtain⟨m2,e2⟩:=un.gQ b _ e1;exact⟨m1++m2,by rw[e2,xx]⟩
 . refine(aG a o e).jR (λb u hb r=>?_) (λ_ z=>z) λ_ _ z=>z
   have:∃v,B.get? b=some v:=by
     rcases hb with rfl | hb
     . exact ov.ig _ _ e
     . exact ov.ig _ _ hb
   obtain⟨v,ev⟩:=this;have e2:=stB b v ev;rw[r]at e2;cases e2;exact F.st b u ev
theorem T_{e:Value}(I:Inv X pins σ H s)(hx:X.ex=[])(hs:X.stack=X.env::X.outer)(hf:X.env.frame=some X.env.locals)(h:eJ X.prog X.w X.stack H s E e s') :
  wpAny (model X.prog X.w) X.A (leaving X.env e) (λ_ s''=>eJ X.prog X.w X.outer X.H₀ X.s₀ E e s'') E' s':=by
 obtain⟨ex,C,H',B,rfl,os,bare,un,aG,F,ov,q⟩:=h;rw[hs]at F;exact Mu I hx os bare un aG F.st ov q λQ k=>F.leave (I.ok.frames.trans (congrArg some hs)) hf k
theorem U0{h':Heap}{vs:List Value}(I:Inv X pins σ H s)(hx:X.ex=[])(hs:X.stack=X.env::X.outer)(hf:X.env.frame=some X.env.locals)(m:X2 s.heap h' ex C vs)(q:E C none H) :
   wpAny (model X.prog X.w) X.A (leaving X.env (.ref ex)) (λ_ s''=>eJ X.prog X.w X.outer X.H₀ X.s₀ E (.ref ex) s'') E' {s with heap:=h'}:=by
 obtain⟨B,hB⟩:∃B,B=Xz s.heap (dy X.stack):=⟨_,rfl⟩;have hin:∀env∈X.stack,∀b,env.frame=some b->b∈dy X.stack:=λenv he b hb=>VY.mpr ⟨env,he,hb⟩
 have frB:s.heap.FunFrames B X.stack:=by rw[hB];exact PySem.W.funFrames_hide I.stack hin
 have getB:∀{b o},s.heap.get? b=some o->b ∉ dy X.stack->B.get? b=some o:=λe n=>by rw[hB];exact xl _ e n
 have ofB:∀{b o},B.get? b=some o->s.heap.get? b=some o:=λr=>by rw[hB]at r;exact xw _ r
 have nfr:∀a o,H a=some o->a ∉ dy X.stack:=λa o e z=>by
   have:=I.rf a z;rw[e]at this;cases this
 obtain⟨t,he,_,_⟩:=m.there
 refine Mu (B:=B) (s':={s with heap:=h'}) I hx rfl I.bare (Un.kept m.keeps) (I.aG.kept m.keeps) (λb o r=>m.keeps b o (ofB r))
   ⟨λa o e=>?_,λb o e _ nf=>getB e nf,λb o e nf=>⟨o,getB e nf⟩⟩ q λQ k=>?_
 . obtain⟨u,e1⟩:=(I.aG a o e).there
   exact⟨u,getB e1 (nfr a o e)⟩
 . rw[hs]at frB
   refine U_ (s:={s with heap:=h'}) (I.ok.frames.trans (congrArg some hs)) hf (λb o r=>m.keeps b o (ofB r)) (frB.of_keeps λb o hb _=>⟨o,m.keeps b o hb,rfl⟩) ⟨_,_,he,rfl,rfl,rfl,rfl,rfl,?_⟩ k;cases z:B.get? ex with
   | none=>rfl
   | some o =>
     have:=ofB z;rw[m.new]at this;cases this
end
theorem DB{P:Program}{w:World}{K:wb}{mg:Str->Option Value}{base:Heap}{N:List Str}{qual:Str}{scope:Scope}{f:Addr}{cd:Value}{A:Around}{outer:List Env}{s:Shared}{H:Hp}{E:XK} :
  mQ (eJ P w) (iQ (eJ P w) P w K mg base N qual scope f cd A outer s H E) E:=λpins σ H1 s1 e s' I h=>T_ I rfl rfl rfl h
def OK(X:Cx)(C:Value)(E:XK):Prop:=∀(pins:List (Addr × Obj))(σ : St)(H:Hp)(s:Shared)(h':Heap)(ex:Addr)(vs:List Value),Inv X pins σ H s->X2 s.heap h' ex C vs->E C none H->X.xe (.ref ex) {s with heap:=h'}
theorem Jf{P:Program}{w:World}{K:wb}{mg:Str->Option Value}{base:Heap}{N:List Str}{qual:Str}{scope:Scope}{f:Addr}{cd C:Value}{A:Around}{outer:List Env}{s:Shared}{H:Hp}{E:XK} :
  OK (iQ (eJ P w) P w K mg base N qual scope f cd A outer s H E) C E:=λpins σ H1 s1 h' ex vs I m q=>U0 I rfl rfl rfl m q
def oM:List Value:=[.type "ValueError",.type "Exception",.type "BaseException",.type "object"]
theorem zyA{K:wb}{h:Heap}{C:Addr}{bmB:List Value}{newId:String}(X:K.In h)(q:Vv K C bmB newId=true) :
   ∃bm N nm qn bs hd sn sub ab col dd k0 k1 k2 k3 k5 mN,h.get? C=some (excClassObj nm qn C N bs bm hd sn sub ab col dd k0 k1 k2 k3 k5 newId)/\h.Ns N mN/\mN "__init__"=none/\OwnTail h bmB bm:=by
 unfold Vv at q
 split at q
 case h_2=>cases q
 rename_i dd cd sl ho
 split at q
 case h_2=>cases q
 rename_i C' bm k0 k1 k2 k3 n k5 hm hs;simp only[wI,beq_iff_eq,WD]at q;obtain⟨⟨⟨⟨⟨rfl,rfl⟩,hdel⟩,ht⟩,aG⟩,hni⟩:=q;obtain⟨nm,bs,mro,ns,qn,hd,sn,sub,ab,col,del⟩:=cd;dsimp only at hm hdel aG hni;subst hm hdel
 have e:sl = #[k0,k1,k2,k3,some (.builtin n),k5]:=by
   cases sl;simp only at hs;rw[hs]
 subst e;exact⟨bm,ns,nm,qn,bs,hd,sn,sub,ab,col,dd,k0,k1,k2,k3,k5,_,X _ _ ho,.of_isNs (PySem.W.isNs_of_in X aG),PySem.W.nsMap_none_of_in X aG hni,PySem.W.tail_of_in X ht⟩
section
variable{X:Cx}{x:Str}{C:Addr}{E:XK}{e:Expr}{es:List Expr}{t:TA}{np cpos pos:Pos}
def Pj(C:Value)(E:XK)(t:TA):TS:=λ_ σ H=>t σ H λvs H1=>vs.length<=sizeLine/\E C none H1
theorem PK(q:Vv X.K C oM "ValueError.__new__"=true)(hc:X.calm=true)(hg:Gl X x)(hm:X.mg x=some (.ref C))(Z:OK X (.ref C) E)(ha:PA X (e::es) t)(hdb:(x == ("__debug__" : Str))=false:=by decide)
   (he:starEach (e::es) X.env=(false,eval e X.env)::starEach es X.env:=by rfl) (hpl:(backTo cpos (starEach es X.env)).any (·.1)=false:=by rfl) :
   PS X (.Raise (some (.Call (.Name x np) (e::es) [] cpos)) none pos) (Pj (.ref C) E t):=by
 intro pins s σ H D I h;obtain⟨bm,N,nm,qn,bs,hd,sn,sub,ab,col,dd,k0,k1,k2,k3,k5,mN,hC,hN,hni,T⟩:=zyA I.ok.mod.pP q
 refine wpAny_Raise_call_subU (C:=C) (nm:=nm) (q:=qn) (N:=N) (bs:=bs) (bm:=bm) (hdct:=hd) (sn:=sn) (sub:=sub) (ab:=ab) (col:=col) (dd:=dd) (k0:=k0) (k1:=k1) (k2:=k2) (k3:=k3) (k5:=k5)
   xf (by decide) xf (mN:=mN) (T.hasType (by decide)) (I.ok.hd hc) (by rw[he];show(false || (backTo cpos (starEach es X.env)).any (·.1))=false;rw[hpl];rfl) hni (og I hg hm ⟨rfl,?_⟩ hdb)
 have ha':=ha cpos pins s σ H _ I h;rw[he]at ha' ⊢;refine Q8 (wpAny_mono ha' (λus s2 ⟨vs,H2,I2,r,z,q2⟩=>⟨rfl,by rw[<- r.length];exact z,I2.bk _ _ hC,hN.keeps I2.bk,T.keeps I2.bk,λh' ex m=>Z pins σ H2 s2 h' ex us I2 m q2⟩) λ_ _ y=>y)
end
abbrev Cx.at(X:Cx)(pn:List (Addr × Obj))(E:Value->Shared->Prop):Cx:={X with pn:=pn,xe:=E}
abbrev Cx.rn(X:Cx)(pn:List (Addr × Obj))(ex:Addr)(oe:Obj):Cx:={X with pn:=pn++[(ex,oe)],xe:=λ_ _=>False,A:=X.A.mark (some (.ref ex)),calm:=false}
section
variable{X:Cx}{pins pins':List (Addr × Obj)}{σ : St}{H:Hp}{s:Shared}{ex:Addr}{oe:Obj}
theorem Inv.R5(I:Inv X pins σ H s)(E:Value->Shared->Prop):Inv (X.at (X.pn++pins) E) [] σ H s :=
 ⟨⟨I.ok.mod,I.ok.kind,I.ok.glob,I.ok.blt,I.ok.above,I.ok.inj,I.ok.has,I.ok.j9,I.ok.hd,I.ok.frames,I.ok.kB,I.ok.nO,I.ok.bs,I.ok.hZ,I.ok.jS,I.ok.kq,I.ok.eG,I.ok.je⟩,I.os,I.bare,I.base,I.loc,I.cell,I.free,I.fN,
  λp hp=>I.pin p (by rw[vH]at hp;exact hp),I.aG,I.len⟩
theorem Inv.nI{E:Value->Shared->Prop}(I:Inv (X.at (X.pn++pins) E) pins' σ H s):Inv X pins σ H s :=
 ⟨⟨I.ok.mod,I.ok.kind,I.ok.glob,I.ok.blt,I.ok.above,I.ok.inj,I.ok.has,I.ok.j9,I.ok.hd,I.ok.frames,I.ok.kB,I.ok.nO,I.ok.bs,I.ok.hZ,I.ok.jS,I.ok.kq,I.ok.eG,I.ok.je⟩,I.os,I.bare,I.base,I.loc,I.cell,I.free,I.fN,
  λp hp=>I.pin p (Vb _ hp),I.aG,I.len⟩
theorem Inv.R4(I:Inv X pins σ H s)(he:s.heap.get? ex=some oe)(hn:H ex=none)(nl:ex≠X.env.locals)(nf:ex ∉ X.fs)(nc:∀v,oe.data≠.cell v):Inv (X.rn (X.pn++pins) ex oe) [] σ H s :=
 ⟨⟨I.ok.mod,I.ok.kind,I.ok.glob,I.ok.blt,I.ok.above,I.ok.inj,I.ok.has,I.ok.j9,λz=>Bool.noConfusion z,I.ok.frames,I.ok.kB,I.ok.nO,I.ok.bs,I.ok.hZ,I.ok.jS,I.ok.kq,I.ok.eG,I.ok.je⟩,I.os,I.bare,I.base,I.loc,I.cell,I.free,I.fN,
  λp hp=>by
   rw[vH]at hp;rcases vM.mp hp with z | z
   ·exact I.pin p z
   ·cases wO.mp z
    exact⟨he,hn,nl,nf,nc⟩,I.aG,I.len⟩
theorem Inv.rm(ok:X.Ok)(I:Inv (X.rn (X.pn++pins) ex oe) pins' σ H s):Inv X pins σ H s :=
 ⟨ok,I.os,I.bare,I.base,I.loc,I.cell,I.free,I.fN,λp hp=>I.pin p (Vb _ (Vb _ hp)),I.aG,I.len⟩
end
def MC(CX:fv)(X:Cx)(W:St->XK):Prop:=∀(pins:List (Addr × Obj))(σ : St)(H:Hp)(s:Shared)(e:Value)(s':Shared),Inv X pins σ H s->CX X.stack H s (W σ) e s'->X.xe e s'
def Dj(sp:Sp)(W:St->XK)(t:TA):TE:=λσ H Q=>t σ H λvs H1=>sp vs H1 Q (W σ)
section
variable{X:Cx}{CX:fv}{k:Nat}{f:Addr}{fd:FuncData}{ps:List Str}{sp:Sp}{W:St->XK}{x:Str}{p pos:Pos}{e:Expr}{es:List Expr}{t:TA}
theorem zvI(F:aJ X.prog X.w X.K X.mg X.base CX k f fd ps sp)(hr:dJ k X.A)(hg:Gl X x)(hm:X.mg x=some (.ref f))(hk:Vg X.K (.ref f)=true)(hb:lu X.K fd ps [])(hx:MC CX X W)
   (ha:PA X (e::es) t) (hdb:(x == ("__debug__" : Str))=false:=by decide) (he:starEach (e::es) X.env=(false,eval e X.env)::starEach es X.env:=by rfl) (hpl:(backTo pos (starEach es X.env)).any (·.1)=false:=by rfl) :
   PE X (.Call (.Name x p) (e::es) [] pos) (Dj sp W t):=by
 intro pins s σ H Q I h;refine wpAny_Call_Name_kw (og I hg hm ?_ hdb);refine xy (h₀:=X.base) I.ok.mod.pP hk (aI (ha pos pins s σ H _ I h) λus s1 ⟨vs,H1,I1,r,q⟩=>⟨I1.dk,?_⟩) he hpl;have hl:us.length=ps.length:=by rw[<- r.length];exact F.len _ _ _ _ q
 have hbd:BindsTo s1 fd ⟨us,[]⟩ (ps.zip us):=by simpa using hb s1 us I1.dk (by simpa using hl)
 refine wpAny_call (codeAny_mono (F.run X.A X.stack s1 H1 ⟨us,[]⟩ us vs Q (W σ) hr I1.HE hbd r q) λr s' hq=>?_);cases r with
 | error e=>exact hx pins σ H1 s1 e s' I1 hq
 | ok fl =>
   cases fl with
   | ret u=>exact I1.after hq
   | next=>exact Wp hq
   | brk=>exact Wp hq
   | cont=>exact Wp hq
end
structure BR(C:Value)(oe:Obj):Prop where
 cls:oe.cls=C
 fld:∃vs,oe.data=.fields vs/\vs[2]? = some .none
 dict:oe.dict=none
section
variable{X:Cx}{x n:Str}{G:Value}{i:Nat}{b₀ : Stmt}{body suite:List Stmt}{np hpos pos:Pos}{tb:(St->XK)->TS}{th:Addr->Value->TS}
end
structure zBS(k:Nat)(A:Around):Prop where
 dp:A.depth+3*k+5<recursionLimit
 un:A.units+16*k+200<cLine
structure zC7(P:Program)(w:World)(K:wb)(mg:Str->Option Value)(base:Heap)(k:Nat)(f:Addr)(fd:FuncData)(ps:List Str)(sp:Addr->Value->Sp):Prop where
 len:∀ex C vs H Q E,sp ex C vs H Q E->vs.length=ps.length
 run:∀(A:Around)(outer:List Env)(s:Shared)(H:Hp)(args:Args)(us:List Value)(vs:List V)(Q:VK)(E:XK)(ex:Addr)(C:Value)(oe:Obj),zBS k A->A.handled=some (.ref ex)->s.heap.get? ex=some oe->BR C oe->H ex=none->ex ∉ dy outer ->
   oN P w K mg base A outer s H->BindsTo s fd args (ps.zip us)->aM vs us->sp ex C vs H Q E->codeAny (model P w) A (.call (.ref f) args) (CR aT outer P w H s Q E) s
structure Hd(X:Cx)(ex:Addr)(C:Value)(oe:Obj):Prop where
 hd:X.A.handled=some (.ref ex)
 pn:(ex,oe)∈X.pn
 ob:BR C oe
section
variable{P:Program}{w:World}{K:wb}{mg:Str->Option Value}{base:Heap}
end
section
variable{X:Cx}{k:Nat}{f:Addr}{fd:FuncData}{ps:List Str}{sp:Addr->Value->Sp}{x:Str}{p pos:Pos}{e:Expr}{es:List Expr}{t:TA}{ex:Addr}{C:Value}{oe:Obj}
end
def gI(cells:List (Str × Addr)):List (Str × NameKind)->List (Str × Addr)->List (Str × Addr)
 | [],acc=>acc
 | (n,k)::r,acc=>gI cells r (if(k == NameKind.free)=true then(n,(cells.lookup n).getD 0)::acc else acc)
theorem zjY{scope:Scope}{env:Env}(h:∀y∈scope.names,y.2=.free->∃c,env.cells.lookup y.1=some c):closureFor scope env=pure (gI env.cells scope.names []):=by
 unfold closureFor;generalize scope.names=names at h
 suffices g:∀(names:List (Str × NameKind))(acc:List (Str × Addr)),(∀y∈names,y.2=.free->∃c,env.cells.lookup y.1=some c) ->
     (forIn names acc λ(x:Str × NameKind)(r:List (Str × Addr))=>if(x.2 == NameKind.free)=true then do let c <- cellOf env x.1;pure (ForInStep.yield ((x.1,c)::r))else pure (ForInStep.yield r):Sem (List (Str × Addr)))=pure (gI env.cells names acc) by
   have:=g names [] h
   show(_ >>= pure)=_
   rw[bind_pure];exact this
 intro names
 induction names with
 | nil=>intro acc _;rfl
 | cons y r ih =>
   intro acc hy;obtain⟨n,k⟩:=y;rw[VX]
   by_cases e:(k == NameKind.free)=true
   . obtain⟨c,hc⟩:=hy (n,k) wu (beq_iff_eq.mp e)
     have hcell:cellOf env n=pure c:=by
       unfold cellOf;rw[hc]
     simp only[e,if_true,hcell,pure_bind];rw[ih _ λz hz=>hy z (wo _ hz)]
     show _=pure (gI env.cells r _)
     simp only[e,if_true,hc,qo]
   . simp only[e,pure_bind]
     rw[if_neg (by simp),pure_bind];dsimp only;rw[ih _ λz hz=>hy z (wo _ hz)]
     show _=pure (gI env.cells r _)
     rw[if_neg e]
theorem JX{cells:List (Str × Addr)} : ∀(names:List (Str × NameKind))(acc:List (Str × Addr))(x:Str)(c:Addr),(∀y∈names,y.2=.free->∃c,cells.lookup y.1=some c)->(∀x c,acc.lookup x=some c->cells.lookup x=some c) ->
   (gI cells names acc).lookup x=some c->cells.lookup x=some c
 | [],acc,x,c,_,ha,h=>ha x c h
 | (n,k)::r,acc,x,c,hy,ha,h=>by
   unfold gI at h;refine JX r _ x c (λz hz=>hy z (wo _ hz)) (λx' c' h'=>?_) h
   split at h'
   . rename_i e
     obtain⟨c0,hc0⟩:=hy (n,k) wu (beq_iff_eq.mp e);rw[VO]at h'
     split at h'
     . rename_i e2
       rw[beq_iff_eq.mp e2,hc0];rw[hc0]at h';exact h'
     . exact ha x' c' h'
   . exact ha x' c' h'
theorem IQ{cells:List (Str × Addr)} : ∀(names:List (Str × NameKind))(acc:List (Str × Addr))(x:Str),(∃c,acc.lookup x=some c)->∃c,(gI cells names acc).lookup x=some c
 | [],acc,x,h=>h
 | (n,k)::r,acc,x,h=>by
  unfold gI;refine IQ r _ x ?_
  split
  ·rw[VO]
   split
   ·exact⟨_,rfl⟩
   ·exact h
  ·exact h
theorem JS{cells:List (Str × Addr)} : ∀(names:List (Str × NameKind))(acc:List (Str × Addr))(x:Str),(x,NameKind.free)∈names->∃c,(gI cells names acc).lookup x=some c
 | [],acc,x,h=>nomatch h
 | (n,k)::r,acc,x,h=>by
  unfold gI;rcases wz.mp h with e | e
  ·cases e
   rw[if_pos (by decide)];refine IQ r _ _ ?_;rw[VO];simp
  ·exact JS r _ x e
theorem OX(g:Str->NameKind->NameKind):∀(names:List (Str × NameKind))(x:Str),(names.map λy=>(y.1,g y.1 y.2)).lookup x=(names.lookup x).map (g x)
 | [],x=>rfl
 | (n,k)::r,x=>by
  rw[wM,VO,VO];dsimp only
  by_cases e:(x == n)=true
  ·have e':=beq_iff_eq.mp e
   subst e';simp
  ·rw[Xs]at e
   simp only[e];exact OX g r x
def tP(env:Env)(x:Str)(k:NameKind):NameKind:=if(k == .free&&env.scope.kind == .function&&env.kindOf x == some .cell)=true then .cell else k
theorem Ig{scope:Scope}{env:Env}(x:Str):(relabel scope env).names.lookup x=(scope.names.lookup x).map (tP env x):=by
 rw[<- OX]
 show(scope.names.map _).lookup x=_
 congr 2
 funext ⟨n,k⟩
 dsimp only[tP]
 split<;>rfl
def cU(inner outer:List (Str × NameKind))(N N':List Str)(src:List (Option Nat)):Bool :=
 (inner.all λy=>(y.2 != .cell)&&(y.2 != .local || inner.lookup y.1 == some .local)&&(y.2 != .free || outer.lookup y.1 == some .cell)) &&
 (N'.length == src.length)&&((N'.zip src).all λp=>match p.2 with
  | none=>true
  | some j=>N[j]? == some p.1&&outer.lookup p.1 == some .cell&&inner.lookup p.1 == some .free)
theorem cE.by{X:Cx}{N':List Str}{scope:Scope}{src:List (Option Nat)}(hk:scope.kind=.function)(hc:cU scope.names X.env.scope.names X.N N' src=true)(hf:∀x,X.env.scope.names.lookup x=some .cell->∃c,X.env.cells.lookup x=some c:=by exact λx h=>BG h) :
   cE X N' scope (gI X.env.cells scope.names []) src:=by
 unfold cU at hc;simp only[wI,Wd,beq_iff_eq,Bool.or_eq_true,bne_iff_ne,ne_eq]at hc;obtain⟨⟨h1,h2⟩,h3⟩:=hc;have fr:∀y∈scope.names,y.2=.free->∃c,X.env.cells.lookup y.1=some c:=λy hy e=>hf _ (((h1 y hy).2).elim (λz=>absurd e z) id)
 have at3:∀(i:Nat)(x:Str)(j:Nat),N'[i]? = some x->src[i]? = some (some j)->X.N[j]? = some x/\X.env.scope.names.lookup x=some .cell/\scope.names.lookup x=some .free:=λi x j e1 e2=>by
   have m:(x,some j)∈N'.zip src:=by
     rw[Q1];exact⟨i,by rw[List.getElem?_zip_eq_some];exact⟨e1,e2⟩⟩
   have:=h3 _ m;simp only[wI,beq_iff_eq]at this;exact⟨this.1.1,this.1.2,this.2⟩
 refine⟨hk,λy hy=>((h1 y hy).1).1,λy hy e=>(((h1 y hy).1).2).elim (λz=>absurd e z) id,⟨zjY fr,λx c e=>JX _ _ x c fr (λ_ _ z=>by simp at z) e,λx e=>?_⟩,⟨h2,λi j x e1 e2=>⟨(at3 i x j e1 e2).1,(at3 i x j e1 e2).2.1⟩⟩,λi x e1 e2=>?_⟩
 . rw[Ig]at e
   cases q:scope.names.lookup x with
   | none=>rw[q]at e;simp at e
   | some k =>
     have hm:=WI q
     have hk:k=.free:=by
       rw[q]at e;simp only[XM,Qa,tP]at e;have nc:k≠.cell:=((h1 _ hm).1).1;rcases e with e | e
       . split at e
         . rename_i z;simp only[wI,beq_iff_eq]at z;exact z.1.1
         . exact absurd e nc
       . split at e
         . cases e
         . exact e
     subst hk;exact JS _ _ x hm
 . obtain⟨o,ho⟩:∃o,src[i]? = some o:=by
     have:i<src.length:=by rw[<- h2];exact(vZ.mp e1).1
     exact⟨src[i],by simp[this]⟩
   cases o with
   | none=>exact absurd ho e2
   | some j =>
     have:=(at3 i x j e1 ho).2.2;rw[Ig,this];simp only[XM,Qa,tP]
     split
     . exact .inl rfl
     . exact .inr rfl
section
variable{prog:Program}{w:World}{A:Around}{E:Value->Shared->Prop}{s:Shared}
structure zC8(A:Around)(h:Heap)(ex:Addr):Prop where
 hd:A.handled=some (.ref ex)
 ob:∃oe vs,h.get? ex=some oe/\oe.data=.fields vs/\vs[2]? = some .none
end
section
variable{X:Cx}{ex:Addr}{C:Value}{oe:Obj}{pins:List (Addr × Obj)}{σ : St}{H:Hp}{s:Shared}{pos:Pos}
variable{tg l:Expr}{tl:TE}
variable{N':List Str}{scope:Scope}{cl:List (Str × Addr)}{src:List (Option Nat)}{elt tgt iter:Expr}{ifs:List Expr}{wi:TI}{g:TG}{tt:TT}{te:TE}
end
structure zCS(K:wb)(C:Addr):Prop where
 ga:WJ K (.ref C) "__getattribute__"=some (some (.builtin "BaseException.__getattribute__"))
 gh:WJ K (.ref C) "__getattr__"=some none
 cl:(PySem.W.clsIn K C).isSome=true
 at_:WJ K (.ref C) "__class__"=some (some (.builtin "object.__class__"))
 gt:qY K (.builtin "object.__class__") "__get__"=some (some (.builtin "getset_descriptor.__get__"))
 tk:XA K (.builtin "object.__class__")=some true
 mr:xi K C (.type "object")=some true
 be:xi K C (.type "BaseException")=some true
def tD(K:wb)(g:TG)(tt:TT)(te:TE)(src:List (Option Nat))(σ : St)(x:V)(H1:Hp)(Q:VK):Prop :=
 ∃a,x=.ref a/\(∃xs,aK K H1 a xs) /\ ∀D,H1 D=none->jk g tt te (iI K a) D (dB src σ) (upd H1 D (.lst [])) (λH'=>Q (.ref D) H')
def yD(K:wb)(g:TG)(tt:TT)(te:TE)(src:List (Option Nat))(σ : St)(x:V)(H1:Hp)(Q:VK):Prop :=
 ∃a,x=.ref a/\(∃xs,aR K H1 a xs) /\ ∀D,H1 D=none->jk g tt te (iY K a) D (dB src σ) (upd H1 D (.lst [])) (λH'=>Q (.ref D) H')
def Dt(g:TG)(tt:TT)(te:TE)(src:List (Option Nat))(σ : St)(vs:List V)(H1:Hp)(Q:VK):Prop :=
 ∃j:Int,vs=[.int j] /\ -(2^62)<=j/\j<2^62 /\ ∀D,H1 D=none->jk g tt te (fQ 0 j.toNat) D (dB src σ) (upd H1 D (.lst [])) (λH'=>Q (.ref D) H')
section
variable{K:wb}{g:TG}{tt:TT}{te ta:TE}{tA:TA}{src:List (Option Nat)}{σ : St}{H:Hp}{Q:VK}{a:Addr}{xs:List V}{n:Int}
theorem zxP(h:ta σ H λx H1=>tD K g tt te src σ x H1 Q):jo src (Dp K ta) g tt te σ H Q:=h
theorem zw2(h:ta σ H λx H1=>yD K g tt te src σ x H1 Q):jo src (LO K ta) g tt te σ H Q:=h
theorem zv8(h:tA σ H λvs H1=>Dt g tt te src σ vs H1 Q):jo src (CW tA) g tt te σ H Q:=h
def pU(Pv:Addr->Nat->List V->St->Hp->Prop)(D:Addr)(i:Nat)(σ3:St)(y:V)(H5:Hp):Prop :=
 ∃ys,H5 D=some (.lst ys)/\ys.length<sizeLine /\ ∃ys',Pv D (i+1) ys' σ3 (upd H5 D (.lst (ys++[y])))
def gO(Pv:Addr->Nat->List V->St->Hp->Prop)(g:TG)(tt:TT)(te:TE)(D:Addr)(i:Nat)(x:V)(σ':St)(H':Hp):Prop :=
 g x σ' H' λσ3 H3=>tt σ3 H3 λok H4=>if ok=true then te σ3 H4 λy H5=>pU Pv D i σ3 y H5 else ∃ys',Pv D (i+1) ys' σ3 H4
theorem kG{Pv:Addr->Nat->List V->St->Hp->Prop}{D:Addr}{i:Nat}{σ3:St}{y:V}{H5:Hp}{ys:List V}(h:H5 D=some (.lst ys))(z:ys.length<=1000)(q:∀H6,Exc D H5 H6->H6 D=some (.lst (ys++[y]))->Pv D (i+1) (ys++[y]) σ3 H6):pU Pv D i σ3 y H5 :=
 ⟨ys,h,iJ z,_,q _ (Exc.upd D H5 _) cF⟩
theorem BH{J:It}{N:Nat}{D:Addr}{σ0:St}{H0:Hp}{R:Hp->Prop}(Pv:Addr->Nat->List V->St->Hp->Prop)(item:Nat->V->Prop)(h0:Pv D 0 [] σ0 H0)
   (stop:∀i ys σ' H',Pv D i ys σ' H'->N<=i->J.stop i H') (go:∀i ys σ' H',Pv D i ys σ' H'->i<N->J.go i H') (fD:∀i ys σ' H' x H2,Pv D i ys σ' H'->J.fD i H' x H2->H2=H'/\item i x)
   (hs:∀i x ys σ' H',i<N->item i x->Pv D i ys σ' H'->gO Pv g tt te D i x σ' H') (hd:∀ys σ' H',Pv D N ys σ' H'->R H'):jk g tt te J D σ0 H0 R:=by
 refine⟨λi m σ' H'=>i+m=N /\ ∃ys,Pv D i ys σ' H',⟨N,by omega,[],h0⟩,?_⟩;rintro i m σ' H' ⟨him,ys,hp⟩
 by_cases hm:m=0
 . subst hm
   have e:i=N:=by omega
   subst e;exact .inl ⟨stop _ _ _ _ hp (wg _),hd _ _ _ hp⟩
 . refine .inr ⟨go _ _ _ _ hp (by omega),λσ2 H2=>∃ys,Pv D (i+1) ys σ2 H2,λσ2 H2 h=>⟨m-1,by omega,by omega,h⟩,λx H2 hy2=>?_⟩
   obtain⟨e,hit⟩:=fD _ _ _ _ _ _ hp hy2;subst e;exact hs i x ys σ' H2 (by omega) hit hp
theorem oQ(hx:aK K H a xs)(Pv:Addr->Nat->List V->St->Hp->Prop)(h0:∀D H',H D=none->ah H H'->H' D=some (.lst [])->Pv D 0 [] (dB src σ) H')(hl:∀D i ys σ' H',Pv D i ys σ' H'->aK K H' a xs)
   (hs:∀D i x ys σ' H',xs[i]? = some x->Pv D i ys σ' H'->gO Pv g tt te D i x σ' H') (hd:∀D ys σ' H',Pv D xs.length ys σ' H'->Q (.ref D) H'):tD K g tt te src σ (.ref a) H Q:=by
 refine⟨a,rfl,⟨xs,hx⟩,λD hD=>BH (N:=xs.length) Pv (λi x=>xs[i]? = some x) (h0 D _ hD (ah.upd hD) cF) (λi ys σ' H' hp hi=>⟨xs,hl _ _ _ _ _ hp,hi⟩) (λi ys σ' H' hp hi=>?_) (λi ys σ' H' x H2 hp hy=>?_)
   (λi x ys σ' H' _ hit hp=>hs D i x ys σ' H' hit hp) (hd D)⟩
 . exact⟨xs,xs[i],hl _ _ _ _ _ hp,by simp[hi]⟩
 . obtain⟨e,hy⟩:=hy
   exact⟨e,hy xs (hl _ _ _ _ _ hp)⟩
theorem zsv(hx:aR K H a xs)(Pv:Addr->Nat->List V->St->Hp->Prop)(h0:∀D H',H D=none->ah H H'->H' D=some (.lst [])->Pv D 0 [] (dB src σ) H')(hl:∀D i ys σ' H',Pv D i ys σ' H'->aR K H' a xs)
   (hs:∀D i x ys σ' H',xs[i]? = some x->Pv D i ys σ' H'->gO Pv g tt te D i x σ' H') (hd:∀D ys σ' H',Pv D xs.length ys σ' H'->Q (.ref D) H'):yD K g tt te src σ (.ref a) H Q:=by
 refine⟨a,rfl,⟨xs,hx⟩,λD hD=>BH (N:=xs.length) Pv (λi x=>xs[i]? = some x) (h0 D _ hD (ah.upd hD) cF) (λi ys σ' H' hp hi=>⟨xs,hl _ _ _ _ _ hp,hi⟩) (λi ys σ' H' hp hi=>?_) (λi ys σ' H' x H2 hp hy=>?_)
   (λi x ys σ' H' _ hit hp=>hs D i x ys σ' H' hit hp) (hd D)⟩
 . exact⟨xs,xs[i],hl _ _ _ _ _ hp,by simp[hi]⟩
 . obtain⟨e,hy⟩:=hy
   exact⟨e,hy xs (hl _ _ _ _ _ hp)⟩
theorem M4(h0' : -1000000000<=n)(h1:n<1000000000)(Pv:Addr->Nat->List V->St->Hp->Prop)(h0:∀D H',H D=none->ah H H'->H' D=some (.lst [])->Pv D 0 [] (dB src σ) H')
   (hs:∀D (i:Nat) ys σ' H',i<n.toNat->Pv D i ys σ' H'->gO Pv g tt te D i (.int (i:Int)) σ' H') (hd:∀D ys σ' H',Pv D n.toNat ys σ' H'->Q (.ref D) H'):Dt g tt te src σ [.int n] H Q:=by
 refine⟨n,rfl,by omega,by omega,λD hD=>BH (N:=n.toNat) Pv (λi x=>x=.int (i:Int)) (h0 D _ hD (ah.upd hD) cF) (λi ys σ' H' hp hi=>hi) (λi ys σ' H' hp hi=>hi) (λi ys σ' H' x H2 hp hy=>?_)
   (λi x ys σ' H' hi hit hp=>?_) (hd D)⟩
 . obtain⟨e,hy⟩:=hy
   exact⟨e,by rw[hy,Int.zero_add]⟩
 . subst hit
   exact hs D i ys σ' H' hi hp
end
structure rS(u' u:TS):Prop where
 e:u'=u
theorem Zg{t u:TS}{D:cc}{σ : St}{H:Hp}(h:∀u',rS u' u->t {D with nx:=u' D} σ H):C8 t u D σ H:=h u ⟨rfl⟩
theorem rS.go{u' u:TS}{D:cc}{σ : St}{H:Hp}(e:rS u' u)(h:u D σ H):u' D σ H:=by rw[e.e];exact h
theorem OR{P:Program}{w:World}{X:Cx} : mQ (eJ P w) X E0:=λ_ _ _ _ _ _ _ h=>by
 obtain⟨_,_,_,_,_,_,_,_,_,_,_,q⟩:=h;exact q.elim
theorem km.rP{P:Program}{w:World}{K:wb}{mg:Str->Option Value}{base:Heap}{x qual:Str}{st:Stmt}{f:Addr}{fd:FuncData}{N ps:List Str}{k:Nat}{sp:Sp}(F:km K x qual st f fd)(S:aU N ps (aC st))(len:∀vs H Q E,sp vs H Q E->vs.length=ps.length)
  (hbody:∀(cdv:Value)(A:Around)(outer:List Env)(s:Shared)(H:Hp)(vs:List V)(Q:VK)(E:XK),dJ k (A.deeper (envOfC qual (aC st) s.heap.objs.size f cdv))->sp vs H Q E ->
   ∃t,eW (iQ (eJ P w) P w K mg base N qual (aC st) f cdv A outer s H E) (jX st) t/\t {nx:=λ_ H'=>Q .bj H',rt:=Q} (start N vs) H):aJ P w K mg base (eJ P w) (k+1) f fd ps sp:=by
 obtain⟨oc,od,kV,doc,pm,an,cdv,ct,osl,rfl,lk,hcd⟩:=F.ex;exact Ie lk hcd S len λA outer s H vs Q E hr hsp=>hbody cdv A outer s H vs Q E hr hsp
theorem Exc.back{p:Addr}{H H' H2:Hp}(b:Exc p H' H2)(s:Exc p H H'):Exc p H H2:=s.trans b
theorem LR{X:Cx}{i j v:Int}{k1 k2:Nat}{p1 p2 pos:Pos}(hc:KN i j)(hv:i^j.toNat=v):PE X (.BinOp (.Constant (.int i) k1 p1) .Pow (.Constant (.int j) k2 p2) pos) (tC (.int v)):=by
 subst hv;exact λpins s σ H Q I h=>(aA zAI ay ay:PE X _ _) pins s σ H Q I ⟨i,j,rfl,rfl,hc,h⟩
theorem ZR{α : Type}[DecidableEq α]{x : α}{A B:Prop}(h:A):if decide (x=x)=true then A else B:=by simpa using h
section
variable{K:wb}{σ : St}{H H':Hp}{Q:VK}{QB:Bool->Hp->Prop}{D:cc}{t:TA}{v w:V}{xs ys:List V}{m n:Int}{r:Rat}{p:Addr}
theorem zCC{A B:Prop}(h:B):if(!true)=true then A else B:=by simpa using h
theorem Yz{A B:Prop}(h:A):if(!false)=true then A else B:=by simpa using h
theorem Tt{a b:V}(h:H p=some (.lst [a,b]))(h0:0<=m)(h1:m<2)(q:∀z,z=a\/z=b->Q z H):cQ K (.ref p) (.int m) H Q :=
 PM (λz=>z=a\/z=b) (aK.of h) h0 (by simpa using h1) (by simp) q
theorem Sd{a b:Int}(h:H p=some (.lst [.int a,.int b]))(h0:0<=m)(h1:m<2)(q:∀z,z=a\/z=b->Q (.int z) H):cQ K (.ref p) (.int m) H Q :=
 Tt h h0 h1 λz hz=>by rcases hz with rfl | rfl;exact q _ (.inl rfl);exact q _ (.inr rfl)
theorem Zz{x y:Rat}(h1:x.num=y.num)(h2:(x.den:Int)=y.den):x=y:=by
 have h2':x.den=y.den:=by omega
 exact X3 h1 h2'
theorem pB(x y:Rat):wN (N x) (N y)=decide (x=y):=by
 have e:wN (N x) (N y)=(decide (x.num=y.num)&&decide ((x.den:Int)=y.den)):=by
  simp only[N,wN,Wr,Bool.and_true,qq]
 rw[e,vc,wI,decide_eq_true_eq,decide_eq_true_eq,decide_eq_true_eq]
 constructor
 ·rintro ⟨h1,h2⟩;exact Zz h1 h2
 ·rintro rfl;exact⟨rfl,rfl⟩
theorem tL(x:Rat):vC (N x)=true:=by simp[N,vC,vG,vQ,Vo,Wj]
theorem Ph{x y:Rat}(h:Is K H v (N x))(k:Is K H w (N y))(q:Q (.bl (decide (x=y))) H):cz K v w H Q:=u9 h k (tL x) (tL y) (by rw[pB];exact q)
theorem Tn{x y:Rat}(h:Is K H v (N x))(k:Is K H w (N y))(q:Q (.bl (!decide (x=y))) H):gc K v w H Q:=Ec h k (tL x) (tL y) (by rw[pB];exact q)
end
theorem Z7{X:Cx} : aN X (compareOp .In) (j_ X.K false):=zve
theorem zuO{X:Cx} : aN X (compareOp .NotIn) (j_ X.K true):=Yx
def R(a b:Rat):PyData:=.tuple [N a,N b]
theorem BI(a b:Rat):cS (R a b)=true:=by simp[R,cS,bY,jU]
structure aV(a b:Rat):Prop where
 a0:0<a
 a4:a<=4
 ad:a.den<=8
 b0:0<=b
 b1:b<=1
 bd:b.den<=12
 ab:1<=a+b
theorem aV.ba{a b:Rat}(h:aV a b):ag 10 a:=ag.small (c:=4) (d:=8) (vB h.a0) h.a4 h.ad (by decide) (by decide)
theorem aV.bb{a b:Rat}(h:aV a b):ag 10 b:=ag.small (c:=1) (d:=12) h.b0 h.b1 h.bd (by decide) (by decide)
section
variable{K:wb}{H:Hp}{Q:VK}{v:V}{a b:Rat}{σ : St}{gs:jN}{QS:St->Hp->Prop}
theorem Td(h:Is K H v (R a b))(q:∀x,Is K H x (N a)->Q x H):cQ K v (.int 0) H Q:=aD (j:=0) h rfl q
theorem zy2(h:Is K H v (R a b))(q:∀x,Is K H x (N b)->Q x H):cQ K v (.int 1) H Q:=aD (j:=1) h rfl q
theorem Is.nH{H':Hp}(h:Is K H v (R a b))(s:bG H H'):Is K H' v (R a b):=Is.keep s _ v (BI a b) h
theorem Dl{x y:V}(h1:Is K H x (N a))(h2:Is K H y (N b))(q:∀v H',ah H H'->Is K H' v (R a b)->Q v H'):kz K [x,y] H Q :=
 cH (by show 2<=1000;decide) (.cons h1 (.cons h2 .nil)) q
end
section
variable{K:wb}{H H' H2:Hp}{Q:VK}{v w:V}{a b c d:Rat}{D:Addr}
theorem YQ(h:Is K H v (R a b))(q:Q (.bl true) H):i_ K [v,.ty "tuple"] H Q:=PJ h q
theorem zyM(h:Is K H v (R a b))(q:Q (.int 2) H):cN K [v] H Q:=ju h q
theorem ah.grow(s:ah H H')(n:H D=none)(e:Exc D H' H2):ah H H2:=λb o h=>e b o (jL h n) (s b o h)
end
theorem U3{σ : St}{H:Hp}{Q:Bool->Hp->Prop}(q:Q true H):Lw σ H Q:=q
theorem Ls{Pv:Addr->Nat->List V->St->Hp->Prop}{g:TG}{tt:TT}{te:TE}{D:Addr}{i:Nat}{x:V}{σ':St}{H':Hp}(h:g x σ' H' λσ3 H3=>tt σ3 H3 λok H4=>if ok=true then te σ3 H4 λy H5=>pU Pv D i σ3 y H5 else ∃ys',Pv D (i+1) ys' σ3 H4) :
  gO Pv g tt te D i x σ' H':=h
section
variable{K:wb}{σ : St}{H:Hp}{Q:VK}{E:XK}{D:cc}{t:TA}{C G:Value}{i:Nat}{tb:(St->XK)->TS}{th:Addr->Value->TS}{sp:Sp}{W:St->XK}{ex C':Addr}{b:Bool}
theorem zwM(h:t σ H λvs H1=>vs.length<=sizeLine/\E C none H1):Pj C E t D σ H:=h
theorem zxw(h:t σ H λvs H1=>sp vs H1 Q (W σ)):Dj sp W t σ H Q:=h
end
theorem zuR(s:String):uv (vj s)=true:=by
 rw[Str.ofString_eq_toList,uv];simp only[List.all_toArray,xE,Wd,Function.comp,decide_eq_true_eq];intro c _;have:=c.valid;simp only[Char.toNat];rcases this with h | h
 ·have:c.val.toNat<0xd800:=h
  omega
 ·exact h.2
inductive Ar(K:wb)(H:Hp):List V->List (Str × Bool)->Prop
 | nil:Ar K H [] []
 | cons {x:V} {xs:List V} {w:Str} {b:Bool} {ws:List (Str × Bool)} : Is K H x (.tuple [.str w,.bool b])->Ar K H xs ws->Ar K H (x::xs) ((w,b)::ws)
theorem dP{K:wb}{H:Hp}{c:Addr}{p q:Int}(r:Rat)(h:aR K H c [.int p,.int q])(e1:r.num=p)(e2:(r.den:Int)=q):Is K H (.ref c) (N r):=by
 subst e1 e2;exact bM.mpr ⟨c,_,rfl,h,dE.mpr ⟨_,_,rfl,cg.mpr rfl,dE.mpr ⟨_,_,rfl,cg.mpr rfl,fR.mpr rfl⟩⟩⟩
theorem K9(s:String):vC (.str (vj s))=true:=by
 simp[vC,vG,Vo,zuR]
inductive AU(X:Cx):List Expr->List TE->Prop
 | nil:AU X [] []
 | cons {e:Expr} {es:List Expr} {te:TE} {ts:List TE} : (∀env,starEach (e::es) env=(false,eval e env)::starEach es env)->PE X e te->AU X es ts->AU X (e::es) (te::ts)
section
variable{K:wb}{H H' H2:Hp}{Q:VK}{R:Prop}{v w y:V}{p l:Addr}{xs ys zs:List V}{ns:List Int}{m:Int}{σ : St}
end
section
variable{K:wb}{H H' H2:Hp}{Q:VK}{R:Prop}{v w y:V}{p l:Addr}{xs ys zs:List V}{ns:List Int}{m:Int}{σ : St}{to:TE}{t:TA}{T:String}{r:V->List V->Hp->VK->Prop}
theorem zCf(h:to σ H λx H1=>yO K T x H1/\t σ H1 λxs H2=>r x xs H2 Q):LV K T r to t σ H Q:=h
theorem lq(h:aK K H p xs)(q:R):yO K "list" (.ref p) H/\R:=⟨.inl ⟨rfl,xs,h⟩,q⟩
theorem kS(h:H l=some (.lst xs))(z:xs.length<=1000)(q:∀H',Exc l H H'->H' l=some (.lst (xs++[y]))->Q .bj H'):Lo (.ref l) [y] H Q:=⟨l,xs,y,rfl,rfl,h,iJ z,q _ (Exc.upd l H _) cF⟩
end
def d5(K:wb):List V->Hp->VK->Prop:=λxs H Q=>∃p ys,xs=[.ref p]/\((aK K H p ys /\ ∀l,H l=none->Q (.ref l) (upd H l (.tup ys)))\/(aR K H p ys/\Q (.ref p) H))
def j6(K:wb):List V->Hp->VK->Prop:=λxs H Q=>∃p ys,xs=[.ref p]/\(aK K H p ys\/aR K H p ys) /\ ∀l,H l=none->Q (.ref l) (upd H l (.lst ys))
theorem ft{X:Cx} : aO X (.type "tuple") (d5 X.K):=znr
theorem rW{X:Cx} : aO X (.type "list") (j6 X.K):=SE
def zF(K:wb):V->Option Int->Option Int->Hp->VK->Prop:=λx lo hi H Q=>ND K x lo hi H Q\/O9 K x lo hi H Q
theorem oz{X:Cx} : jZ X (zF X.K):=YW.or SF
section
variable{K:wb}{H H' H2:Hp}{Q:VK}{QO:Option Int->Hp->Prop}{R:Prop}{v w y:V}{p l:Addr}{xs ys zs:List V}{ds es:List PyData}{m:Int}{σ : St}{te:TE}{tl th:TO}{r:V->Option Int->Option Int->Hp->VK->Prop}{lo hi:Option Int}
theorem yR(h:aK K H p ys)(q:∀l H',H l=none->ah H H'->H' l=some (.tup ys)->Q (.ref l) H'):d5 K [.ref p] H Q:=⟨p,ys,rfl,.inl ⟨h,λl hl=>q l _ hl (ah.upd hl) cF⟩⟩
theorem g6(h:Is K H v (.list ds))(q:∀w H',ah H H'->Is K H' w (.tuple ds)->Q w H'):d5 K [v] H Q:=by
 obtain⟨a,xs,rfl,hs,t⟩:=cB.mp h;exact yR hs λl H' _ s e=>q _ H' s (bM.mpr ⟨l,xs,rfl,.of e,ak.same s ds xs t⟩)
theorem Rg(h:Is K H v (.tuple ds))(q:Q v H):d5 K [v] H Q:=by
 obtain⟨a,xs,rfl,hs,t⟩:=bM.mp h;exact⟨a,xs,rfl,.inr ⟨hs,q⟩⟩
theorem yo(h:Is K H v (.tuple ds))(q:∀l H' ys,H l=none->ah H H'->H' l=some (.lst ys)->ak K H' ys ds->Q (.ref l) H'):j6 K [v] H Q:=by
 obtain⟨a,xs,rfl,hs,t⟩:=bM.mp h;exact⟨a,xs,rfl,.inr hs,λl hl=>q l _ xs hl (ah.upd hl) cF (ak.same (ah.upd hl) ds xs t)⟩
theorem Z8(h:Is K H v (.list ds))(q:∀l H' ys,H l=none->ah H H'->H' l=some (.lst ys)->ak K H' ys ds->Q (.ref l) H'):j6 K [v] H Q:=by
 obtain⟨a,xs,rfl,hs,t⟩:=cB.mp h;exact⟨a,xs,rfl,.inl hs,λl hl=>q l _ xs hl (ah.upd hl) cF (ak.same (ah.upd hl) ds xs t)⟩
theorem zxD(h:te σ H λx H1=>tl σ H1 λl H2=>th σ H2 λu H3=>r x l u H3 Q):Ks r te tl th σ H Q:=h
theorem zu5(q:QO none H):Mj σ H QO:=q
theorem Ze(h:te σ H λx H1=>∃i,x=.int i/\QO (some i) H1):Nu te σ H QO:=h
theorem zvN{RI:Int->Prop}(q:RI m):∃i,V.int m=V.int i/\RI i:=⟨m,rfl,q⟩
def jc{α : Type}(xs:List α)(lo hi:Option Int):List α:=(xs.drop (HT.aX xs.length 0 lo)).take (HT.aX xs.length xs.length hi-HT.aX xs.length 0 lo)
theorem ak.take:∀{ds:List PyData}{xs:List V}(n:Nat),ak K H xs ds->ak K H (xs.take n) (ds.take n)
 | _,_,0,h=>by simp[ak.nil]
 | [],_,n+1,h=>by rw[fR.mp h];simp[ak.nil]
 | d::ds,_,n+1,h=>by
  obtain⟨x,r,rfl,q,t⟩:=dE.mp h;rw[xq,xq];exact .cons q (ak.take n t)
theorem ak.drop:∀{ds:List PyData}{xs:List V}(n:Nat),ak K H xs ds->ak K H (xs.drop n) (ds.drop n)
 | _,_,0,h=>by simpa using h
 | [],_,n+1,h=>by rw[fR.mp h];simp[ak.nil]
 | d::ds,_,n+1,h=>by
  obtain⟨x,r,rfl,q,t⟩:=dE.mp h;rw[qA,qA];exact ak.drop n t
theorem ak.cut(h:ak K H xs ds):ak K H (jC xs lo hi) (jc ds lo hi):=by
 unfold jC jc;rw[h.length];exact(h.drop _).take _
theorem UG(h:aK K H p xs)(q:∀l H',H l=none->ah H H'->H' l=some (.lst (jC xs lo hi))->Q (.ref l) H'):zF K (.ref p) lo hi H Q:=.inl ⟨p,xs,rfl,h,λl hl=>q l _ hl (ah.upd hl) cF⟩
theorem uY(h:Is K H v (.list ds))(q:∀l H' ys,H l=none->ah H H'->H' l=some (.lst ys)->ak K H' ys (jc ds lo hi)->Q (.ref l) H'):zF K v lo hi H Q:=by
 obtain⟨a,xs,rfl,hs,t⟩:=cB.mp h;exact UG hs λl H' hl s e=>q l H' _ hl s e (ak.same s _ _ t.cut)
theorem zx8(h:Is K H v (.tuple ds))(hw:¬ (HT.aX ds.length 0 lo=0/\HT.aX ds.length ds.length hi=ds.length))(q:∀w H',ah H H'->Is K H' w (.tuple (jc ds lo hi))->Q w H'):zF K v lo hi H Q:=by
 obtain⟨a,xs,rfl,hs,t⟩:=bM.mp h;refine .inr ⟨a,xs,rfl,hs,by rw[t.length];exact hw,λl hl=>q _ _ (ah.upd hl) (bM.mpr ⟨l,_,rfl,.of cF,ak.same (ah.upd hl) _ _ t.cut⟩)⟩
theorem AV{α : Type}(xs:List α):jc xs none (some (-1))=xs.dropLast:=by
 unfold jc
 show(xs.drop 0).take (((-1:Int)+(xs.length:Int)).toNat-0)=_
 rw[X4,Q0]
 congr 1
 omega
theorem zu4{α : Type}(xs:List α):jc xs (some 1) none=xs.tail:=by
 unfold jc
 show(xs.drop (min 1 xs.length)).take (xs.length-min 1 xs.length)=_
 cases xs with
 | nil=>rfl
 | cons x xs =>
  have e:min 1 (x::xs).length=1:=by rw[wV];omega
  rw[e,qA,X4,wV,V3,vW,X1]
end
def TN(xs:List Rat):PyData:=.tuple (xs.map N)
def LN(xs:List Rat):PyData:=.list (xs.map N)
theorem fO:∀xs:List Rat,bY (xs.map N)=true
 | []=>by simp[bY]
 | x::xs=>by rw[wM,bY,jU,fO xs];rfl
theorem tI(xs:List Rat):cS (TN xs)=true:=by rw[TN,cS];exact fO xs
theorem Tq(x:Rat):(N x).canLay0=true:=by simp[N,vG,vQ]
theorem zyU(x:Rat):(N x).depth=1:=by simp[N,Vo,Wj]
theorem Dw:∀xs:List Rat,vQ (xs.map N)=true
 | []=>by simp[vQ]
 | x::xs=>by rw[wM,vQ,Tq,Dw xs];rfl
theorem Le:∀xs:List Rat,Wj (xs.map N)<=1
 | []=>by simp[Wj]
 | x::xs=>by
  have:=Le xs;rw[wM,Wj,zyU];omega
theorem PQ(xs:List Rat):vC (TN xs)=true:=by
 unfold vC TN;rw[vG,Dw,Vo,qW];have:=Le xs;exact decide_eq_true (by omega)
theorem OM:∀xs ys:List Rat,Wr (xs.map N) (ys.map N)=decide (xs=ys)
 | [],[]=>by simp[Wr]
 | [],y::ys=>by simp[Wr]
 | x::xs,[]=>by simp[Wr]
 | x::xs,y::ys=>by
  rw[wM,wM,Wr,pB,OM xs ys,vc,wI,decide_eq_true_eq,decide_eq_true_eq,decide_eq_true_eq,XN]
theorem PR(xs ys:List Rat):wN (TN xs) (TN ys)=decide (xs=ys):=by
 unfold TN;rw[wN,OM]
section
variable{K:wb}{H H' H2:Hp}{Q:VK}{v w y:V}{p l:Addr}{vs:List V}{xs ys:List Rat}{m:Int}{σ : St}
theorem sV(h:Is K H v (TN xs))(k:Is K H w (TN ys))(q:Q (.bl (decide (xs=ys))) H):cz K v w H Q:=u9 h k (PQ xs) (PQ ys) (by rw[PR];exact q)
theorem B_{i:Nat}(t:ak K H vs (xs.map N))(h:i<xs.length):∃x,vs[i]? = some x/\Is K H x (N (xs.getD i 0)):=by
 refine t.get ?_;rw[wn,wa,wc h]
 rfl
theorem de{i:Nat}{x:V}(t:ak K H vs (xs.map N))(h:vs[i]? = some x):i<xs.length/\Is K H x (N (xs.getD i 0)):=by
 have hl:=t.length;rw[we]at hl
 have hi:i<xs.length:=by
  rcases wt i vs.length with z | z
  ·omega
  ·rw[wA z]at h;cases h
 obtain⟨x',e,hx⟩:=B_ t hi;rw[h]at e;cases e;exact⟨hi,hx⟩
theorem W_(h:Is K H v (TN xs))(h0:0<=m)(h1:m<xs.length)(q:∀x,Is K H x (N (xs.getD m.toNat 0))->Q x H):cQ K v (.int m) H Q:=by
 obtain⟨a,vs,rfl,hs,t⟩:=bM.mp h;obtain⟨n,rfl⟩:∃n:Nat,m=(n:Int):=⟨m.toNat,by omega⟩;obtain⟨x,e,hx⟩:=B_ (i:=n) t (by omega);exact sH hs (jT e) (q x hx)
theorem ki(h:Is K H v (LN xs))(h0:0<=m)(h1:m<xs.length)(q:∀x,Is K H x (N (xs.getD m.toNat 0))->Q x H):cQ K v (.int m) H Q:=by
 obtain⟨a,vs,rfl,hs,t⟩:=cB.mp h;obtain⟨n,rfl⟩:∃n:Nat,m=(n:Int):=⟨m.toNat,by omega⟩;obtain⟨x,e,hx⟩:=B_ (i:=n) t (by omega);exact ie hs (jT e) (q x hx)
theorem Zv(h:Is K H v (TN xs))(q:Q (.int xs.length) H):cN K [v] H Q:=ju h (by rw[we];exact q)
theorem YR(h:Is K H v (LN xs))(q:Q (.int xs.length) H):cN K [v] H Q:=by
 obtain⟨a,vs,rfl,hs,t⟩:=cB.mp h;have:=t.length;rw[we]at this;exact jJ hs (by rw[this];exact q)
theorem cY(h:H l=some (.lst vs))(t:ak K H vs (xs.map N)):Is K H (.ref l) (LN xs):=cB.mpr ⟨l,vs,rfl,.of h,t⟩
theorem fk:∀{xs:List Rat}{vs:List V},vs.length=xs.length->(∀i x,vs[i]? = some x->Is K H x (N (xs.getD i 0)))->ak K H vs (xs.map N)
 | [],vs,hl,_=>by
  have:vs=[]:=WG hl;subst this;exact .nil
 | x::xs,[],hl,_=>by cases hl
 | x::xs,u::vs,hl,h=>by
  rw[wM];exact .cons (h 0 u rfl) (fk (by simpa using hl) λi y e=>h (i+1) y e)
end
section
variable{K:wb}{g:TG}{tt:TT}{te:TE}{src:List (Option Nat)}{σ : St}{H:Hp}{Q:VK}{a:Addr}{vs:List V}{n:Int}{tl:St}{o0:Option V}
def gv(H:Hp)(tl:St)(Rel:Nat->V->Hp->Prop)(D:Addr)(i:Nat)(ys:List V)(σ':St)(H':Hp):Prop :=
 (∃o,σ'=o::tl)/\H D=none/\ah H H'/\H' D=some (.lst ys)/\ys.length=i /\ ∀j y,ys[j]? = some y->Rel j y H'
theorem gv.same{Rel:Nat->V->Hp->Prop}{D:Addr}{i:Nat}{ys:List V}{σ':St}{H':Hp}(h:gv H tl Rel D i ys σ' H'):ah H H':=h.2.2.1
theorem eU{Rel:Nat->V->Hp->Prop}{D:Addr}{i:Nat}{ys:List V}{σ' σ3:St}{H1 H5:Hp}{y:V}(inv:gv H tl Rel D i ys σ' H1)(hi:i<=1000)(hk:∀i v H1 H2,bG H1 H2->Rel i v H1->Rel i v H2)(hσ : ∃o,σ3=o::tl)(s:ah H1 H5)(r:Rel i y H5):pU (gv H tl Rel) D i σ3 y H5:=by
 obtain⟨_,hn,s1,hD,hl,hr⟩:=inv;have hD5:=s _ _ hD;refine kG hD5 (by omega) λH6 E6 e6=>⟨hσ,hn,(s1.trans s).grow hn E6,e6,by simp[hl],λj z hz=>?_⟩
 have k6:bG H5 H6:=E6.keep hD5;rcases wt j ys.length with hj | hj
 ·rw[vo hj]at hz
  exact hk _ _ _ _ (s.keep.trans k6) (hr j z hz)
 ·have hj':j=ys.length:=by
   rcases wt ys.length j with q | q
   ·rw[wA (by simp;omega)]at hz;cases hz
   ·omega
  subst hj';rw[wW (wg _),WS]at hz;cases hz;rw[hl];exact hk _ _ _ _ k6 r
theorem kF(hx:aK K H a vs)(hsrc:dB src σ = o0::tl)(Rel:Nat->V->Hp->Prop)(hs:∀D i x ys o H1,vs[i]? = some x->gv H tl Rel D i ys (o::tl) H1->gO (gv H tl Rel) g tt te D i x (o::tl) H1)
   (hd:∀D ys H',H D=none->ah H H'->H' D=some (.lst ys)->ys.length=vs.length->(∀j y,ys[j]? = some y->Rel j y H')->Q (.ref D) H'):tD K g tt te src σ (.ref a) H Q:=by
 refine oQ hx (gv H tl Rel) (λD H' n s e=>⟨⟨o0,hsrc⟩,n,s,e,rfl,λj y z=>by simp at z⟩) (λD i ys σ' H' h=>h.same.seq hx) ?_ λD ys σ' H' ⟨_,n,s,e,hl,r⟩=>hd D ys H' n s e hl r
 rintro D i x ys σ' H' hx' h;obtain⟨⟨o,rfl⟩,_⟩:=id h;exact hs D i x ys o H' hx' h
theorem jz(hx:aR K H a vs)(hsrc:dB src σ = o0::tl)(Rel:Nat->V->Hp->Prop)(hs:∀D i x ys o H1,vs[i]? = some x->gv H tl Rel D i ys (o::tl) H1->gO (gv H tl Rel) g tt te D i x (o::tl) H1)
   (hd:∀D ys H',H D=none->ah H H'->H' D=some (.lst ys)->ys.length=vs.length->(∀j y,ys[j]? = some y->Rel j y H')->Q (.ref D) H'):yD K g tt te src σ (.ref a) H Q:=by
 refine zsv hx (gv H tl Rel) (λD H' n s e=>⟨⟨o0,hsrc⟩,n,s,e,rfl,λj y z=>by simp at z⟩) (λD i ys σ' H' h=>h.same.jw hx) ?_ λD ys σ' H' ⟨_,n,s,e,hl,r⟩=>hd D ys H' n s e hl r
 rintro D i x ys σ' H' hx' h;obtain⟨⟨o,rfl⟩,_⟩:=id h;exact hs D i x ys o H' hx' h
theorem zyS(h0:0<=n)(h1:n<1000000000)(hsrc:dB src σ = o0::tl)(Rel:Nat->V->Hp->Prop)(hs:∀D (i:Nat) ys o H1,i<n.toNat->gv H tl Rel D i ys (o::tl) H1->gO (gv H tl Rel) g tt te D i (.int (i:Int)) (o::tl) H1)
   (hd:∀D ys H',H D=none->ah H H'->H' D=some (.lst ys)->ys.length=n.toNat->(∀j y,ys[j]? = some y->Rel j y H')->Q (.ref D) H'):Dt g tt te src σ [.int n] H Q:=by
 refine M4 (by omega) h1 (gv H tl Rel) (λD H' n s e=>⟨⟨o0,hsrc⟩,n,s,e,rfl,λj y z=>by simp at z⟩) ?_ λD ys σ' H' ⟨_,n,s,e,hl,r⟩=>hd D ys H' n s e hl r
 rintro D i ys σ' H' hi h;obtain⟨⟨o,rfl⟩,_⟩:=id h;exact hs D i ys o H' hi h
theorem eZ{xs:List Rat} : ∀(i:Nat)(v:V)(H1 H2:Hp),bG H1 H2->Is K H1 v (N (xs.getD i 0))->Is K H2 v (N (xs.getD i 0)):=λi v H1 H2 k h=>h.fE k
end
theorem jf{H H':Hp}{l:Addr}(s:ah H H')(h:H' l=none):H l=none:=by
 cases e:H l with
 | none=>rfl
 | some o=>rw[s _ _ e]at h;cases h
def TZ(ns:List Int):PyData:=.tuple (ns.map PyData.int)
def LL(rss:List (List Rat)):PyData:=.list (rss.map LN)
theorem HL:∀ns:List Int,bY (ns.map PyData.int)=true
 | []=>by simp[bY]
 | n::ns=>by rw[wM,bY,HL ns];rfl
theorem zAR(ns:List Int):cS (TZ ns)=true:=by rw[TZ,cS];exact HL ns
section
variable{K:wb}{H H' H2:Hp}{Q:VK}{v w y:V}{p l:Addr}{vs:List V}{ns:List Int}{rss:List (List Rat)}{m:Int}{σ : St}
theorem rA:∀{ns:List Int}{vs:List V},ak K H vs (ns.map PyData.int) ↔ vs=ns.map V.int
 | [],vs=>by rw[Qk,fR];rfl
 | n::ns,vs=>by
  rw[wM,dE,wM]
  constructor
  ·rintro ⟨x,r,rfl,h,t⟩
   rw[cg.mp h,rA.mp t]
  ·rintro rfl
   exact⟨_,_,rfl,cg.mpr rfl,rA.mpr rfl⟩
theorem nJ:Is K H v (TZ ns) ↔ ∃a,v=.ref a/\aR K H a (ns.map V.int):=by
 unfold TZ;rw[bM]
 constructor
 ·rintro ⟨a,xs,e,h,t⟩
  rw[rA.mp t]at h;exact⟨a,e,h⟩
 ·rintro ⟨a,e,h⟩
  exact⟨a,_,e,h,rA.mpr rfl⟩
theorem DS(h:Is K H v (TZ ns))(q:Q (.int ns.length) H):cN K [v] H Q:=ju h (by rw[we];exact q)
theorem Nn{i:Nat}(t:ak K H vs (rss.map LN))(h:i<rss.length):∃x,vs[i]? = some x/\Is K H x (LN (rss.getD i [])):=by
 refine t.get ?_;rw[wn,wa,wc h]
 rfl
theorem Ms(h:Is K H v (LL rss))(h0:0<=m)(h1:m<rss.length)(q:∀x,Is K H x (LN (rss.getD m.toNat []))->Q x H):cQ K v (.int m) H Q:=by
 obtain⟨a,vs,rfl,hs,t⟩:=cB.mp h;obtain⟨n,rfl⟩:∃n:Nat,m=(n:Int):=⟨m.toNat,by omega⟩;obtain⟨x,e,hx⟩:=Nn (i:=n) t (by omega);exact ie hs (jT e) (q x hx)
theorem BJ{α : Type}{xs:List α}{x : α}(h:xs[xs.length-1]? = some x):gK xs (-1)=some x:=by
 have hl:0<xs.length:=by
  cases xs with
  | nil=>cases h
  | cons _ _=>simp
 unfold gK gP;rw[if_neg (by omega),if_pos (by omega)]
 show xs[((-1:Int)+(xs.length:Int)).toNat]? = some x
 rw[show((-1:Int)+(xs.length:Int)).toNat=xs.length-1 by omega];exact h
theorem zuq(h:Is K H v (LL rss))(h0:0<rss.length)(q:∀x,Is K H x (LN (rss.getD (rss.length-1) []))->Q x H):cQ K v (.int (-1)) H Q:=by
 obtain⟨a,vs,rfl,hs,t⟩:=cB.mp h;have hl:=t.length;rw[we]at hl;obtain⟨x,e,hx⟩:=Nn (i:=rss.length-1) t (by omega);rw[<- hl]at e;exact ie hs (BJ e) (q x hx)
theorem Jy:∀{rss:List (List Rat)}{vs:List V},vs.length=rss.length->(∀i x,vs[i]? = some x->Is K H x (LN (rss.getD i [])))->ak K H vs (rss.map LN)
 | [],vs,hl,_=>by
  have:vs=[]:=WG hl;subst this;exact .nil
 | x::xs,[],hl,_=>by cases hl
 | x::xs,u::vs,hl,h=>by
  rw[wM];exact .cons (h 0 u rfl) (Jy (by simpa using hl) λi y e=>h (i+1) y e)
end
def yh(K:wb):R2:=λx y H Q=>Mg K x y H Q \/ ∃a b ys,x=.ref a/\y=.ref b/\aR K H a []/\aR K H b ys/\Q (.ref b) H
theorem OJ{X:Cx} : aN X (binaryOp .Add) (yh X.K):=by
 intro pins s σ H x y v u Q I rx ry h;rcases h with h | ⟨a,b,ys,rfl,rfl,ha,hb,q⟩
 ·exact zyZ pins s σ H x y v u Q I rx ry h
 ·cases rx
  cases ry;obtain⟨its,r1,p1,_⟩:=I.tuple ha;cases r1;obtain⟨its2,r2,p2,_⟩:=I.tuple hb;obtain⟨⟨cls,dd,data,sl⟩,ho,hc,n,hd⟩:=id p1;obtain⟨⟨cls2,dd2,data2,sl2⟩,ho2,hc2,n2,hd2⟩:=id p2;simp only at hc hd hc2 hd2;subst hc hd hc2 hd2;exact concat_meets ⟨_,ho,rfl⟩ ⟨_,ho2,rfl⟩ noFill_tuple_add seq_tuple_add qj qd (VZ _ _) (tuple_addW0 a b _ its2.toArray n n2 dd dd2 sl sl2 rfl) ⟨ho,ho2,⟨.ref b,H,I,rfl,q⟩⟩
theorem Nw{K:wb}{H:Hp}{Q:VK}{v w:V}{ds es:List PyData}(h1:Is K H v (.tuple ds))(h2:Is K H w (.tuple es))(z:ds.length+es.length<=1000)(q:∀u H',ah H H'->Is K H' u (.tuple (ds++es))->Q u H'):yh K v w H Q:=by
 obtain⟨a,xs,rfl,ha,ta⟩:=bM.mp h1;obtain⟨b,ys,rfl,hb,tb⟩:=bM.mp h2;have la:=ta.length;have lb:=tb.length;cases xs with
 | nil =>
  obtain rfl:ds=[]:=WG (by simpa using la.symm);exact .inr ⟨a,b,ys,rfl,rfl,ha,hb,q _ H (ah.refl _) h2⟩
 | cons x xs =>
  refine .inl ⟨a,b,x::xs,ys,rfl,rfl,ha,hb,by simp,WC (iJ (by omega)),λhy=>?_,λhy p hp=>?_⟩
  ·obtain rfl:es=[]:=WG (by rw[hy]at lb;simpa using lb.symm)
   exact q _ H (ah.refl _) (by rw[vH];exact h1)
  ·exact q _ _ (ah.upd hp) (bM.mpr ⟨p,_,rfl,.of cF,(ak.same (ah.upd hp) _ _ ta).append (ak.same (ah.upd hp) _ _ tb)⟩)
theorem Inv.q_{X:Cx}{pins:List (Addr × Obj)}{σ : St}{H:Hp}{s:Shared}{h':Heap}{t':Nat}{ch:List Addr}(I:Inv X pins σ H s)(k:∀b o,b ∉ ch->s.heap.get? b=some o->h'.get? b=some o)(hf:∀b∈ch,d8 X pins H b):Inv X pins σ H {s with heap:=h',toks:=t'}:=by
 have nit:∀b u,H b=some u->b ∉ ch:=λb u e z=>by rw[(hf b z).1]at e;cases e
 refine I.step (g':=s.gens) (d':=s.drawn) (ch:=ch) (λb hb=>⟨(hf b hb).2.2.2.1,(hf b hb).2.1,(hf b hb).2.2.2.2.1,(hf b hb).2.2.2.2.2⟩) (λb o _ _ hc e _=>k b o hc e)
  (λb o _ _ hc e _=>⟨o.slots,k b o hc e⟩) (λ_ _ _ _ n=>n) (λb o hc e=>⟨o,k b o hc e⟩) (λ_ _ e=>e) (λ_ _ _ e=>e) (λb ps e=>⟨#[],by rw[e];simp⟩) (λm hm=>?_) (λb u e=>?_) I.bare
 ·obtain⟨o,es,ep,ho,r⟩:=hm
  exact⟨o,es,ep,k _ o (λz=>(hf _ z).2.1 rfl) ho,r⟩
 ·refine(I.aG b u e).jR (λc v hc q=>k c v ?_ q) (λ_ q=>q) λ_ _ q=>q
  rcases hc with z | z
  ·rw[z];exact nit b u e
  ·exact nit c _ z
section
variable{prog:Program}{w:World}{A:Around}{E:Value->Shared->Prop}{s:Shared}
theorem Sm{it tu:Addr}{i:Nat}{its:Array Value}{x:Value}{Q:Value->Shared->Prop}(ei:s.heap.IsTupleIter it tu i)(et:s.heap.IsTuple tu its)(ex:its[i]? = some x)
   (fin:∀h',h'.IsTupleIter it tu (i+1)->wS it s.heap h'->Q x {s with heap:=h'}):wpAny (model prog w) A (vb (.ref it)) Q E s:=by
 obtain⟨ob,eo,ec,ed⟩:=id ei;obtain⟨ot,eot,_,nt,edt⟩:=et;unfold vb;refine wpAny_bind (wpAny_callSpecial?_slot (name:=vj "__next__") ei.typeIs W2 (wpAny_call_entry W2 ei.typeIs qP ?_ (qG _)))
 show wpAny _ _ (field (.ref it) 0 >>= _) _ _ s;refine wpAny_bind (wpAny_field eo ed (x:=.ref tu) rfl ?_)
 show wpAny _ _ (if(Value.ref tu == Value.none)=true then _ else _) _ _ s;rw[if_neg (show ¬ ((Value.ref tu == Value.none)=true)from w5)]
 show wpAny _ _ (field (.ref it) 1 >>= _) _ _ s;refine wpAny_bind (wpAny_field eo ed (x:=.int i 0) rfl ?_)
 show wpAny _ _ (seqItems? (.ref tu) >>= _) _ _ s;refine wpAny_bind (wpAny_seqItems eot edt ?_)
 simp only[wE,ex];refine wpAny_bind (wpAny_setField eo ed (by simp) (wpAny_pure ⟨x,rfl,wpAny_pure (fin _ ?_ (VS ..))⟩));exact⟨_,WV _ eo (VI (Vx ed _)),(xW ..).trans ec,by rw[Vx ed];simp[rawInt]⟩
theorem Lv{it tu:Addr}{i:Nat}{its:Array Value}{Q:Value->Shared->Prop}(hh:A.handled=none)(ei:s.heap.IsTupleIter it tu i)(et:s.heap.IsTuple tu its)(ex:its[i]? = none)
   (fin:∀h' e,Heap.ExtBut it s.heap h'->(∃o,h'.get? e=some o/\o.cls=.type "StopIteration")->E (.ref e) {s with heap:=h'}):wpAny (model prog w) A (vb (.ref it)) Q E s:=by
 obtain⟨ob,eo,ec,ed⟩:=id ei;obtain⟨ot,eot,_,nt,edt⟩:=et;unfold vb;refine wpAny_bind (wpAny_callSpecial?_slot (name:=vj "__next__") ei.typeIs W2 (wpAny_call_entry W2 ei.typeIs qP ?_ (qG _)))
 show wpAny _ _ (field (.ref it) 0 >>= _) _ _ s;refine wpAny_bind (wpAny_field eo ed (x:=.ref tu) rfl ?_)
 show wpAny _ _ (if(Value.ref tu == Value.none)=true then _ else _) _ _ s;rw[if_neg (show ¬ ((Value.ref tu == Value.none)=true)from w5)]
 show wpAny _ _ (field (.ref it) 1 >>= _) _ _ s;refine wpAny_bind (wpAny_field eo ed (x:=.int i 0) rfl ?_)
 show wpAny _ _ (seqItems? (.ref tu) >>= _) _ _ s;refine wpAny_bind (wpAny_seqItems eot edt ?_)
 simp only[wE,ex];refine wpAny_bind (wpAny_rule (wpAny_bind (wpAny_setField eo ed (by simp) ?_)))
 show wpAny _ _ (newExc (.type "StopIteration") [] >>= _) _ _ _;refine wpAny_bind ?_;simp only[newExc,newTuple]
 refine wpAny_bind (wpAny_newObj_type ?_ (by size_fits));refine wpAny_bind (m:=firstArgMember _ _) (wpAny_of_eq (a:=Value.none) (by first | rfl | (simp only[firstArgMember];rfl)) ?_);refine wpAny_newObj_type ?_ (by size_fits);simp only[raiseNew];refine wpAny_bind (wpAny_handled ?_)
 first | rw[hh] | rw[show A.in1.handled=none from hh]
 exact wpAny_bind (wpAny_pure (wpAny_throw (fin _ _ (((VS ..).extBut.push _).push _) ⟨_,wB _ rfl,rfl⟩)))
theorem iO(hh:A.handled=none)(it tu:Addr)(hne:tu≠it)(its:Array Value):Draws prog w A it [it,tu] its.size (λi v=>its[i]? = some v) (λi h=>h.IsTupleIter it tu i/\h.IsTuple tu its) where
 live:=λ_ _ st=>let ⟨o,ho,_⟩:=st.1;⟨o,ho⟩
 frame:=λ_ _ _ st hk=>⟨st.1.at λo e=>hk it (by simp) o e,st.2.at λo e=>hk tu (by simp) o e⟩
 item:=λi s Q E hi st hQ=>Sm st.1 st.2 (x:=its[i]) (by simp[hi]) λh' hit' hs'=>hQ _ h' s.toks (by simp[hi]) ⟨hit',st.2.extBut hs'.extBut hne⟩ hs'
 done:=λs Q E st hE=>Lv hh st.1 st.2 (by simp) hE
open AutoSeq1 (wpAny_loadPart') in
theorem Ui(tu:Addr)(its:Array Value)(n:Nat)(dct:Option Addr)(sl:Array (Option Value)):Meets (Builtin.«enumerate.__new__» ⟨[.type "enumerate",.ref tu],[]⟩) (λ_ R s=>s.heap.get? tu=some {cls:=.type "tuple",dict:=dct,data:=.seq its n,slots:=sl} /\
   R (.ok (.ret (.ref (s.heap.push {cls:=.type "tuple_iterator",data:=.fields #[.ref tu,.int 0 0]}).objs.size))) {s with heap:=(s.heap.push {cls:=.type "tuple_iterator",data:=.fields #[.ref tu,.int 0 0]}).push {cls:=.type "enumerate",data:=.fields #[.none,.bool false,.ref s.heap.objs.size,rawInt 0,.none,.none]}}) :=
 .of_wp λprog w A R s h=>by
   obtain⟨hp,g,d,tk,os⟩:=s;obtain⟨et,h⟩:=h;have hsub:=sub_enumerate;have hT:xF (Xd ⟨hp,g,d,tk,os⟩) tu its:=⟨_,et,rfl,n,rfl⟩
   wp_walk using wpAny_loadPart' et
   refine wpAny_stack_any λst=>wpAny_pure ?_
   split
   . rename_i c _ _ _ _ _
     cases (c == Value.type "enumerate")<;>(wp_walk using wpAny_loadPart' et,wpAny_pyIter_tuple hT;exact⟨_,rfl,h⟩)
   . wp_walk using wpAny_loadPart' et,wpAny_pyIter_tuple hT
     exact⟨_,rfl,h⟩
theorem Y6{tu:Addr}{its:Array Value}{Q:Value->Shared->Prop}(hT:s.heap.IsTuple tu its)(fin:∀h',IsEnum h' (s.heap.objs.size+1) s.heap.objs.size 0 .none->h'.IsTupleIter s.heap.objs.size tu 0->(∀b o,s.heap.get? b=some o->h'.get? b=some o)->Q (.ref (s.heap.objs.size+1)) {s with heap:=h'}) :
   wpAny (model prog w) A (call (.type "enumerate") [.ref tu]) Q E s:=by
 obtain⟨⟨c,dct,dt,sl⟩,et,hc,n,hd⟩:=hT;obtain rfl:c=.type "tuple":=hc;obtain rfl:dt=.seq its n:=hd;refine callType_new F.called_enumerate (by decide) (F.typeCall_enumerate_1 _) (F.newCall_enumerate_1 _) (λobj=>F.args_object_init_2 obj _) F.entry_enumerate_new (Ui tu its n dct sl) ⟨et,?_⟩;have hz:(s.heap.push {cls:=.type "tuple_iterator",data:=.fields #[.ref tu,.int 0 0]}).objs.size=s.heap.objs.size+1:=Vh ..
 show _/\_
 rw[hz]
 have he:IsEnum ((s.heap.push {cls:=.type "tuple_iterator",data:=.fields #[.ref tu,.int 0 0]}).push {cls:=.type "enumerate",data:=.fields #[.none,.bool false,.ref s.heap.objs.size,rawInt 0,.none,.none]}) (s.heap.objs.size+1) s.heap.objs.size 0 .none:=by
   rw[<- hz];exact wB _ rfl
 exact⟨⟨_,he,rfl⟩,fin _ he ⟨_,wf _ (wB _ rfl),rfl,rfl⟩ λb o x=>wf _ (wf _ x)⟩
end
def mL(K:wb)(a:Addr):It :=
 ⟨λi H=>∃xs x,aR K H a xs/\xs[i]? = some x,λi H y H'=>∃t x,y=.ref t/\H t=none/\(∀xs,aR K H a xs->xs[i]? = some x)/\H'=upd H t (.tup [.int (i:Int),x]),λi H=>∃xs,aR K H a xs/\xs.length<=i⟩
theorem Zl{P:Program}{w:World}{K:wb}{elts:List Expr}{k1}{tpos:Pos}(a e it:Addr)(hne:e≠it):iT P w K (.Tuple elts k1 tpos) (mL K a) [e,it] e (λi h=>(∃old,IsEnum h e it (i:Int) old)/\h.IsTupleIter it a i) where
 mem:=by simp
 obj:=λi h st b hb=>by
  obtain⟨⟨old,he⟩,o,eo,c,d⟩:=st;rcases wz.mp hb with rfl | hb
  ·exact⟨_,he,λv z=>by cases (show Data.fields _=Data.cell v from z)⟩
  ·rw[wO.mp hb]
   exact⟨o,eo,λv z=>by rw[d]at z;cases z⟩
 keep:=λi h h' st k=>⟨let ⟨old,he⟩:=st.1;⟨old,k e (by simp) _ he⟩,st.2.at λo eo=>k it (by simp) o eo⟩
 item:=by
  intro X hP hw hK hc i pins s σ H E I hf st hg;subst hP hw hK;obtain⟨⟨old,he⟩,st⟩:=st;obtain⟨xs,x,hq,hx⟩:=hg;obtain⟨its,rv,p,hz⟩:=I.tuple hq;obtain⟨u,hu,ru⟩:=rv.get hx;have p':s.heap.IsTuple a its.toArray:=p
  have hai:a≠it:=λz=>by
   subst z;obtain⟨o,e1,c1,_⟩:=st;obtain⟨o',e2,c2,_⟩:=p';rw[e1]at e2;cases e2;rw[c1]at c2;exact absurd c2 (by decide)
  have hae:e≠a:=λz=>by
   subst z;obtain⟨o',e2,c2,_⟩:=p';rw[he]at e2;cases e2;exact absurd (show Value.type "enumerate"=Value.type "tuple" from c2) (by decide)
  have hlt:i<its.toArray.size:=by
   rcases wt i its.length with z | z
   ·simpa using z
   ·rw[wA z]at hu;cases hu
  refine wpAny_pyNext_enum_itemD (iO (A:=X.A.in1) (I.ok.hd hc) it a hai its.toArray) he ⟨st,p'⟩ hlt hne (by simp[hne,hae]) λv h1 tk hv ho hs1 hT hsz hk=>?_
  have hvu:v=u:=by
   have hv':its[i]? = some v:=by simpa using hv
   rw[hu]at hv';exact(wF hv').symm
  subst hvu
  have I1:Inv X pins σ (upd H s.heap.objs.size (.tup [.int (i:Int),x])) {s with heap:=s.heap.push {cls:=.type "tuple",data:=.seq ([.int (i:Int) tk,v]:List Value).toArray},toks:=tk+1} :=
   I.laid (λb o q=>wf _ q) (wg _) (show dh X.prog X.w _ _ _ (.tup [.int (i:Int),x])from⟨mV (by simp),_,.cons ⟨_,rfl⟩ (.cons ru .nil),qp _ _⟩)
  have lt1:∀b∈[e,it],b<s.heap.objs.size:=λb hb=>by
   rcases wz.mp hb with rfl | hb
   ·exact wq he
   ·rw[wO.mp hb]
    obtain⟨o,eo,_⟩:=st;exact wq eo
  have hf1:∀b∈[e,it],d8 X pins (upd H s.heap.objs.size (.tup [.int (i:Int),x])) b:=λb hb=>⟨by rw[dR (wD (lt1 b hb))];exact(hf b hb).1,(hf b hb).2⟩
  refine⟨_,rfl,wpAny_letOwnedTupleGo_enum ho λh2 he2 hs2=>?_⟩;refine⟨.ref s.heap.objs.size,_,Inv.q_ (s:={s with heap:=s.heap.push {cls:=.type "tuple",data:=.seq ([.int (i:Int) tk,v]:List Value).toArray},toks:=tk+1}) (ch:=[e,it]) I1 (λb o hb q=>?_) hf1,rfl,⟨_,x,rfl,I.aG.fresh (wg _),λys hy=>by rw[I.zU hy hq];exact hx,rfl⟩,⟨⟨_,by simpa using he2⟩,hs1.1.at λo eo=>(hs2.2 it (vX hne)).trans eo⟩,λb hb=>(hf1 b hb).1⟩;have hbe:b≠e:=λz=>hb (by simp[z])
  have hbi:b≠it:=λz=>hb (by simp[z])
  refine(hs2.2 b hbe).trans ?_
  by_cases hb2:b=s.heap.objs.size
  ·subst hb2
   rw[wB _ rfl]at q;cases q;exact hT
  ·exact hk b o hbe hbi (by rw[Qb _ _ _ hb2]at q;exact q)
 done:=by
  intro X hP hw hK hc i pins s σ H E I hf st hg;subst hP hw hK;obtain⟨⟨old,he⟩,st⟩:=st;obtain⟨xs,hq,hx⟩:=hg;obtain⟨its,rv,p,hz⟩:=I.tuple hq;have p':s.heap.IsTuple a its.toArray:=p
  have hai:a≠it:=λz=>by
   subst z;obtain⟨o,e1,c1,_⟩:=st;obtain⟨o',e2,c2,_⟩:=p';rw[e1]at e2;cases e2;rw[c1]at c2;exact absurd c2 (by decide)
  have hl:=rv.length;have hT:s.TypeIs (.ref e) "enumerate":=⟨_,he,rfl⟩;unfold pyNext;refine wpAny_bind (wpAny_attempt (wpAny_callSpecial?_slot (name:=vj "__next__") hT VJ (wpAny_call_entry VJ hT QT ?_ (Qt _))))
  show wpAny _ _ (field (.ref e) 2 >>= _) _ _ _;refine wpAny_bind (wpAny_field he rfl (x:=.ref it) rfl ?_)
  refine wpAny_bind (Lv (A:=X.A.in1) (I.ok.hd hc) st p' (by simp;omega) λh' y he' hx'=>?_);obtain⟨o,ho,hcl⟩:=hx';refine wpAny_bind (wpAny_isInstance (T:="StopIteration") (b:=true) ⟨o,ho,hcl⟩ isSubtype_stop (wpAny_pure ⟨rfl,?_⟩));obtain⟨f0,f1,f2,f3,f4,f5⟩:=hf it (by simp);exact I.turned (t':=s.toks) (λb o hb e=>he' b o hb e) f0 f1 f3 f4 f5
 self:=λ_ _ _ _ _ st h=>let ⟨_,he⟩:=st.1;wpAny_pyIter_enum he h
def Bu(K:wb)(ta:TA):TI:=λσ H R=>ta σ H λvs H1=>∃a,vs=[.ref a]/\(∃xs,aR K H1 a xs)/\R (mL K a) H1
theorem HU:bootBuiltins "enumerate"=some (.type "enumerate"):=by decide +kernel
theorem Mi{X:Cx}{elts:List Expr}{k1}{tpos p pos:Pos}{l:Expr}{ta:TA}(hg:Gl X "enumerate")(hm:X.mg "enumerate"=none)(ha:PA X [l] ta)(hs:starEach [l] X.env=[(false,eval l X.env)]:=by rfl) :
   PI X (.Tuple elts k1 tpos) (.Call (.Name "enumerate" p) [l] [] pos) (Bu X.K ta):=by
 intro pins s σ H R I h;refine Call_ (fZ I hg hm HU (wX (aI (ha pos pins s σ H _ I h) λus s1 ⟨vs,H1,I1,r1,q1⟩=>?_) hs rfl));obtain⟨a,rfl,⟨xs,hq⟩,q⟩:=q1;obtain⟨u,rfl,ru⟩:=gk r1;cases ru;obtain⟨its,rv,p,hz⟩:=I1.tuple hq;refine Y6 (show s1.heap.IsTuple a its.toArray from p) λh' he hit kp=>?_
 refine wpAny_pyIter_enum he ?_;refine⟨s1.heap.objs.size+1,[s1.heap.objs.size+1,s1.heap.objs.size],_,_,H1,rfl,I1.kept (t':=s1.toks) kp,Zl a (s1.heap.objs.size+1) s1.heap.objs.size (Xu _),⟨⟨_,he⟩,hit⟩,λb hb=>?_,q⟩
 have hb':s1.heap.objs.size<=b:=by
   rcases wz.mp hb with rfl | hb
   . omega
   . rw[wO.mp hb];exact wg _
 exact I1.ji hb' (I1.aG.fresh hb')
def HR(K:wb)(g:TG)(tb:TS)(D:cc)(σ : St)(vs:List V)(H1:Hp):Prop:=∃a,vs=[.ref a]/\(∃xs,aR K H1 a xs) /\
 ∃W:Nat->Nat->St->Hp->Prop,(∃m,W 0 m σ H1) /\ ∀i m σ H,W i m σ H ->
  ((mL K a).stop i H/\D.nx σ H)\/((mL K a).go i H /\ ∃M:St->Hp->Prop,(∀σ' H',M σ' H'->∃m',m'<m/\W (i+1) m' σ' H') /\ ∀x H',(mL K a).fD i H x H'->g x σ H' λσ2 H2=>tb {D with nx:=M,ct:=M,bk:=D.nx} σ2 H2)
section
variable{K:wb}{ta:TA}{g:TG}{tb:TS}{D:cc}{σ : St}{H:Hp}{a:Addr}{xs:List V}
theorem SI(h:ta σ H λvs H1=>HR K g tb D σ vs H1):m5 (Bu K ta) g tb D σ H:=h
theorem zuD(hx:aR K H a xs)(Pv:Nat->St->Hp->Prop)(h0:Pv 0 σ H)(hl:∀i σ H,i<=xs.length->Pv i σ H->aR K H a xs)
   (hs:∀i x σ H t H',xs[i]? = some x->Pv i σ H->H t=none->ah H H'->H' t=some (.tup [.int (i:Int),x])->g (.ref t) σ H' λσ2 H2=>tb {D with nx:=Pv (i+1),ct:=Pv (i+1),bk:=D.nx} σ2 H2) (hd:∀σ H,Pv xs.length σ H->D.nx σ H):HR K g tb D σ [.ref a] H:=by
 refine⟨a,rfl,⟨xs,hx⟩,λi m σ H=>i+m=xs.length/\Pv i σ H,⟨xs.length,by omega,h0⟩,?_⟩;rintro i m σ H ⟨him,hp⟩;have hq:=hl i σ H (by omega) hp
 by_cases hm:m=0
 . have e:i=xs.length:=by omega
   subst e;exact .inl ⟨⟨xs,hq,wg _⟩,hd _ _ hp⟩
 . have hi:i<xs.length:=by omega
   refine .inr ⟨⟨xs,xs[i],hq,by simp[hi]⟩,λσ' H'=>Pv (i+1) σ' H',λσ' H' h=>⟨m-1,by omega,by omega,h⟩,?_⟩;rintro y H' ⟨t,x,rfl,hn,hx',rfl⟩;exact hs i x σ H t _ (hx' xs hq) hp hn (ah.upd hn) cF
end
structure ZA(z TI TO i1 i2:Addr)(f1 f2:List Addr):Prop where
 a1:TI≠z
 a2:TO≠z
 a3:i1≠z
 a4:i2≠z
 a5:TI≠TO
 a6:TI≠i1
 a7:TI≠i2
 a8:TO≠i1
 a9:TO≠i2
 b0:i1≠i2
 b1:z ∉ f1
 b2:z ∉ f2
 b3:TO ∉ f1
 b4:TO ∉ f2
 b5:i1 ∉ f2
 b6:i2 ∉ f1
section
variable{prog:Program}{w:World}{A:Around}{E:Value->Shared->Prop}{s:Shared}{z TI TO i1 i2:Addr}{f1 f2:List Addr}{n1 n2 k:Nat}{P1 P2:Nat->Value->Prop}{S1 S2:Nat->Heap->Prop}{a b:Value}
theorem HI{Q:Value->Shared->Prop}(D1:Draws prog w A i1 f1 n1 P1 S1)(D2:Draws prog w A i2 f2 n2 P2 S2)(ap:ZA z TI TO i1 i2 f1 f2)(hz:IsZip s.heap z TI TO .none)(hi:IsPair s.heap TI (.ref i1) (.ref i2))(ho:IsPair s.heap TO a b)
   (h1:S1 k s.heap) (h2:S2 k s.heap) (l1:k<n1) (l2:k<n2)
   (fin:∀x y h' tk,P1 k x->P2 k y->IsZip h' z TI TO (rawInt s.heap.objs.size)->IsPair h' TO x y->S1 (k+1) h'->S2 (k+1) h'->IsPair h' s.heap.objs.size x y ->
     (∀c o,c≠z->c≠TO->c≠i1->c≠i2->s.heap.get? c=some o->h'.get? c=some o)->Q (.ref s.heap.objs.size) {s with heap:=h',toks:=tk}) :
   wpAny (model prog w) A (Builtin.«zip.__next__» ⟨[.ref z],[]⟩) (λr s'=>∃v,r=.done (.ret v)/\Q v s') E s:=by
 show wpAny _ _ (field (.ref z) 2 >>= _) _ _ _;refine wpAny_bind (wpAny_field hz rfl (x:=.bool false) rfl ?_)
 show wpAny _ _ (field (.ref z) 3 >>= _) _ _ _;refine wpAny_bind (wpAny_field hz rfl (x:=.ref TI) rfl ?_)
 refine wpAny_bind (wpAny_seqItems hi rfl ?_);show wpAny _ _ (w9 (.ref z) >>= _) _ _ _
 refine wpAny_bind ?_;unfold w9;refine wpAny_bind (wpAny_field hz rfl (x:=.none) rfl (wpAny_pure ?_));simp only[if_true];refine wpAny_bind (wpAny_rule ?_);refine wpAny_bind (wpAny_field hz rfl (x:=.ref TO) rfl ?_);refine wpAny_bind (wpAny_setField_rec hz (by simp) λg1 zz1 sb1=>?_);have zz1:IsZip g1 z TI TO .ellipsis:=zz1;refine wpAny_bind ?_;simp only[Xv,XO,VX,qH];refine wpAny_bind (wpAny_bind (wpAny_onRaise ?_));show wpAny _ _ (vb (.ref i1) >>= _) _ _ _
 have h1a:S1 k g1:=D1.frame _ _ _ h1 λc hc o e=>sb1.extBut c o (λq=>ap.b1 (q ▸ hc)) e
 have h2a:S2 k g1:=D2.frame _ _ _ h2 λc hc o e=>sb1.extBut c o (λq=>ap.b2 (q ▸ hc)) e
 refine wpAny_bind (D1.item k _ _ _ l1 h1a λx g2 t2 px h1b sb2=>wpAny_pure ?_);have ho2:IsPair g2 TO a b:=sb2.extBut _ _ ap.a8 (sb1.extBut _ _ ap.a2 ho);have h2b:S2 k g2:=D2.frame _ _ _ h2a λc hc o e=>sb2.extBut c o (λq=>ap.b5 (q ▸ hc)) e
 refine wpAny_bind (wpAny_seqItems ho2 rfl ?_);refine wpAny_bind (wpAny_updateSeq_pair ho2 λg3 ho3 sb3=>?_);have ho3:IsPair g3 TO x b:=ho3;have sb3:wS TO g2 g3:=sb3;have h1c:S1 (k+1) g3:=D1.frame _ _ _ h1b λc hc o e=>sb3.extBut c o (λq=>ap.b3 (q ▸ hc)) e
 have h2c:S2 k g3:=D2.frame _ _ _ h2b λc hc o e=>sb3.extBut c o (λq=>ap.b4 (q ▸ hc)) e
 refine wpAny_bind (wpAny_letGo (wpAny_pure ?_));refine wpAny_bind (wpAny_bind (wpAny_onRaise ?_))
 show wpAny _ _ (vb (.ref i2) >>= _) _ _ _;refine wpAny_bind (D2.item k _ _ _ l2 h2c λy g4 t4 py h2d sb4=>wpAny_pure ?_)
 have sb4:wS i2 g3 g4:=sb4;have ho4:IsPair g4 TO x b:=sb4.extBut _ _ ap.a9 ho3;have h1d:S1 (k+1) g4:=D1.frame _ _ _ h1c λc hc o e=>sb4.extBut c o (λq=>ap.b6 (q ▸ hc)) e
 refine wpAny_bind (wpAny_seqItems ho4 rfl ?_);refine wpAny_bind (wpAny_updateSeq_pair ho4 λg5 ho5 sb5=>?_);have ho5:IsPair g5 TO x y:=ho5;have sb5:wS TO g4 g5:=sb5;have h1e:S1 (k+1) g5:=D1.frame _ _ _ h1d λc hc o e=>sb5.extBut c o (λq=>ap.b3 (q ▸ hc)) e
 have h2e:S2 (k+1) g5:=D2.frame _ _ _ h2d λc hc o e=>sb5.extBut c o (λq=>ap.b4 (q ▸ hc)) e
 refine wpAny_bind (wpAny_letGo (wpAny_pure (wpAny_pure ?_)));refine wpAny_bind (wpAny_seqItems ho5 rfl ?_);refine wpAny_bind (wpAny_newTuple ?_);have sb2:wS i1 g1 g2:=sb2;have sb1:wS z s.heap g1:=sb1;have hsz:g5.objs.size=s.heap.objs.size:=by rw[sb5.1,sb4.1,sb3.1,sb2.1,sb1.1]
 have zz5:IsZip g5 z TI TO .ellipsis:=sb5.extBut _ _ ap.a2.symm (sb4.extBut _ _ ap.a4.symm (sb3.extBut _ _ ap.a2.symm (sb2.extBut _ _ ap.a3.symm zz1)));have kept:∀c o,c≠z->c≠TO->c≠i1->c≠i2->s.heap.get? c=some o->g5.get? c=some o:=λc o c1 c2 c3 c4 e=>sb5.extBut _ _ c2 (sb4.extBut _ _ c4 (sb3.extBut _ _ c2 (sb2.extBut _ _ c3 (sb1.extBut _ _ c1 e))))
 have zlt:z<g5.objs.size:=wq zz5
 show wpAny _ _ (V6 (.ref z) (.ref g5.objs.size) >>= _) _ _ _;refine wpAny_bind ?_;unfold V6
 have zz6:IsZip (g5.push {cls:=.type "tuple",data:=.seq #[x,y]}) z TI TO .ellipsis:=wf _ zz5;refine wpAny_bind (wpAny_setField_rec zz6 (by simp) λg7 zz7 sb7=>?_);have zz7:IsZip g7 z TI TO (rawInt g5.objs.size):=zz7;refine wpAny_setField_rec zz7 (by simp) λg8 zz8 sb8=>?_
 have zz8:IsZip g8 z TI TO (rawInt g5.objs.size):=zz8;have sb7:wS z (g5.push {cls:=.type "tuple",data:=.seq #[x,y]}) g7:=sb7;have sb8:wS z g7 g8:=sb8;have up:∀c o,c≠z->g5.get? c=some o->g8.get? c=some o:=λc o c1 e=>sb8.extBut _ _ c1 (sb7.extBut _ _ c1 (wf _ e))
 have new8:IsPair g8 g5.objs.size x y:=sb8.extBut _ _ (wR zlt) (sb7.extBut _ _ (wR zlt) (wB _ rfl));rw[hsz]at zz8 new8;refine wpAny_pure ⟨_,rfl,?_⟩
 show Q (.ref g5.objs.size) _
 rw[hsz];exact fin x y g8 _ px py zz8 (up _ _ ap.a2 ho5) (D1.frame _ _ _ h1e λc hc o e=>up c o (λq=>ap.b1 (q ▸ hc)) e) (D2.frame _ _ _ h2e λc hc o e=>up c o (λq=>ap.b2 (q ▸ hc)) e) new8 λc o c1 c2 c3 c4 e=>up c o c1 (kept c o c1 c2 c3 c4 e)
theorem HF{Q:Fin->Shared->Prop}(D1:Draws prog w A i1 f1 n1 P1 S1)(D2:Draws prog w A i2 f2 n2 P2 S2)(ap:ZA z TI TO i1 i2 f1 f2)(hz:IsZip s.heap z TI TO .none)(hi:IsPair s.heap TI (.ref i1) (.ref i2))(ho:IsPair s.heap TO a b)
   (h1:S1 k s.heap) (h2:S2 k s.heap) (hk:k=n1\/(k<n1/\k=n2))
   (fin:∀h' e tk,(∀c o,c≠z->c≠TO->c≠i1->c≠i2->s.heap.get? c=some o->h'.get? c=some o)->(∃o,h'.get? e=some o/\o.cls=.type "StopIteration")->E (.ref e) {s with heap:=h',toks:=tk}) :
   wpAny (model prog w) A (Builtin.«zip.__next__» ⟨[.ref z],[]⟩) Q E s:=by
 show wpAny _ _ (field (.ref z) 2 >>= _) _ _ _;refine wpAny_bind (wpAny_field hz rfl (x:=.bool false) rfl ?_)
 show wpAny _ _ (field (.ref z) 3 >>= _) _ _ _;refine wpAny_bind (wpAny_field hz rfl (x:=.ref TI) rfl ?_)
 refine wpAny_bind (wpAny_seqItems hi rfl ?_);show wpAny _ _ (w9 (.ref z) >>= _) _ _ _
 refine wpAny_bind ?_;unfold w9;refine wpAny_bind (wpAny_field hz rfl (x:=.none) rfl (wpAny_pure ?_));simp only[if_true];refine wpAny_bind (wpAny_rule ?_);refine wpAny_bind (wpAny_field hz rfl (x:=.ref TO) rfl ?_);refine wpAny_bind (wpAny_setField_rec hz (by simp) λg1 zz1 sb1=>?_);have zz1:IsZip g1 z TI TO .ellipsis:=zz1;have sb1:wS z s.heap g1:=sb1;refine wpAny_bind ?_;simp only[Xv,XO,VX,qH];refine wpAny_bind (wpAny_bind (wpAny_onRaise ?_));show wpAny _ _ (vb (.ref i1) >>= _) _ _ _
 have h1a:S1 k g1:=D1.frame _ _ _ h1 λc hc o e=>sb1.extBut c o (λq=>ap.b1 (q ▸ hc)) e
 have h2a:S2 k g1:=D2.frame _ _ _ h2 λc hc o e=>sb1.extBut c o (λq=>ap.b2 (q ▸ hc)) e
 rcases hk with rfl | ⟨l1,rfl⟩
 . refine wpAny_bind (D1.done _ _ _ h1a λg2 e sb2 he=>?_)
   obtain⟨oe,hoe,hce⟩:=he;have zz2:IsZip g2 z TI TO .ellipsis:=sb2 _ _ ap.a3.symm zz1;have hez:e≠z:=λq=>by subst q;rw[zz2]at hoe;cases hoe;simp at hce
   exact wpAny_setField_rec zz2 (by simp) λg3 _ sb3=>fin g3 e _ (λc o c1 _ c3 _ q=>sb3.extBut _ _ c1 (sb2 _ _ c3 (sb1.extBut _ _ c1 q))) ⟨oe,sb3.extBut _ _ hez hoe,hce⟩
 . refine wpAny_bind (D1.item k _ _ _ l1 h1a λx g2 t2 px h1b sb2=>wpAny_pure ?_)
   have sb2:wS i1 g1 g2:=sb2;have ho2:IsPair g2 TO a b:=sb2.extBut _ _ ap.a8 (sb1.extBut _ _ ap.a2 ho);have h2b:S2 k g2:=D2.frame _ _ _ h2a λc hc o e=>sb2.extBut c o (λq=>ap.b5 (q ▸ hc)) e
   refine wpAny_bind (wpAny_seqItems ho2 rfl ?_);refine wpAny_bind (wpAny_updateSeq_pair ho2 λg3 ho3 sb3=>?_);have sb3:wS TO g2 g3:=sb3;have h2c:S2 k g3:=D2.frame _ _ _ h2b λc hc o e=>sb3.extBut c o (λq=>ap.b4 (q ▸ hc)) e
   refine wpAny_bind (wpAny_letGo (wpAny_pure ?_));refine wpAny_bind (wpAny_bind (wpAny_onRaise ?_))
   show wpAny _ _ (vb (.ref i2) >>= _) _ _ _;refine wpAny_bind (D2.done _ _ _ h2c λg4 e sb4 he=>?_)
   obtain⟨oe,hoe,hce⟩:=he;have zz4:IsZip g4 z TI TO .ellipsis:=sb4 _ _ ap.a4.symm (sb3.extBut _ _ ap.a2.symm (sb2.extBut _ _ ap.a3.symm zz1));have hez:e≠z:=λq=>by subst q;rw[zz4]at hoe;cases hoe;simp at hce
   exact wpAny_setField_rec zz4 (by simp) λg5 _ sb5=>fin g5 e _ (λc o c1 c2 c3 c4 q=>sb5.extBut _ _ c1 (sb4 _ _ c4 (sb3.extBut _ _ c2 (sb2.extBut _ _ c3 (sb1.extBut _ _ c1 q))))) ⟨oe,sb5.extBut _ _ hez hoe,hce⟩
end
def di(t:Bool)(K:wb)(H:Hp)(a:Addr)(xs:List V):Prop:=match t with
 | true=>aR K H a xs
 | false=>aK K H a xs
def iP(t:Bool)(h:Heap)(it a:Addr)(i:Nat):Prop:=match t with
 | true=>h.IsTupleIter it a i
 | false=>h.IsListIter it a i
def NN(t:Bool)(h:Heap)(a:Addr)(its:Array Value):Prop:=match t with
 | true=>h.IsTuple a its
 | false=>h.IsList a its
theorem nF{prog:Program}{w:World}{A:Around}(t:Bool)(hh:A.handled=none)(it a:Addr)(hne:a≠it)(its:Array Value):Draws prog w A it [it,a] its.size (λi v=>its[i]? = some v) (λi h=>iP t h it a i/\NN t h a its):=by
 cases t
 ·exact Draws.list hh it a hne its
 ·exact iO hh it a hne its
theorem Inv.iC{X:Cx}{pins:List (Addr × Obj)}{σ : L2.St}{H:Hp}{s:Shared}{t:Bool}{a:Addr}{xs:List V}(I:Inv X pins σ H s)(h:di t X.K H a xs):∃its:List Value,aM xs its/\NN t s.heap a its.toArray:=by
 cases t
 ·obtain⟨its,r,p,_⟩:=I.list h
  exact⟨its,r,p.isList⟩
 ·obtain⟨its,r,p,_⟩:=I.tuple h
  exact⟨its,r,p⟩
theorem Inv.GV{X:Cx}{pins:List (Addr × Obj)}{σ : L2.St}{H:Hp}{s:Shared}{t:Bool}{a:Addr}{xs ys:List V}(I:Inv X pins σ H s)(h:di t X.K H a xs)(k:di t X.K H a ys):xs=ys:=by
 cases t
 ·exact I.z8 h k
 ·exact I.zU h k
theorem iP.obj{t:Bool}{h:Heap}{it a:Addr}{i:Nat}(st:iP t h it a i):∃o,h.get? it=some o /\ ∀v,o.data≠.cell v:=by
 cases t
 ·obtain⟨o,e,_,d⟩:=st
  exact⟨o,e,λv z=>by rw[d]at z;cases z⟩
 ·obtain⟨o,e,_,d⟩:=st
  exact⟨o,e,λv z=>by rw[d]at z;cases z⟩
theorem iP.at{t:Bool}{h h':Heap}{it a:Addr}{i:Nat}(st:iP t h it a i)(k:∀o,h.get? it=some o->h'.get? it=some o):iP t h' it a i:=by
 cases t
 ·exact Heap.IsListIter.at st k
 ·exact Heap.IsTupleIter.at st k
def zD(t u:Bool)(K:wb)(a b:Addr):It :=
 ⟨λi H=>∃xs x ys y,di t K H a xs/\xs[i]? = some x/\di u K H b ys/\ys[i]? = some y,
  λi H v H'=>∃(c:Addr)(x y:V),v=.ref c/\H c=none/\(∀xs,di t K H a xs->xs[i]? = some x)/\(∀ys,di u K H b ys->ys[i]? = some y)/\H'=upd H c (.tup [x,y]),
  λi H=>∃xs ys,di t K H a xs/\di u K H b ys/\(xs.length=i\/(i<xs.length/\ys.length=i))⟩
theorem zxn{P:Program}{w:World}{K:wb}{elts:List Expr}{k1}{tpos:Pos}{t u:Bool}(a b z TI TO i1 i2:Addr)(ap:ZA z TI TO i1 i2 [i1,a] [i2,b])(na:a≠i1)(nb:b≠i2) :
   iT P w K (.Tuple elts k1 tpos) (zD t u K a b) [z,TI,TO,i1,i2] z (λi h=>IsZip h z TI TO .none/\IsPair h TI (.ref i1) (.ref i2)/\(∃p q,IsPair h TO p q)/\iP t h i1 a i/\iP u h i2 b i) where
 mem:=by simp
 obj:=λi h st c hc=>by
   obtain⟨hz,hi,⟨p,q,ho⟩,s1,s2⟩:=st;simp only[wz,VP,or_false]at hc;rcases hc with rfl | rfl | rfl | rfl | rfl
   . exact⟨_,hz,λv z=>by cases (show Data.fields _=Data.cell v from z)⟩
   . exact⟨_,hi,λv z=>by cases (show Data.seq _ _=Data.cell v from z)⟩
   . exact⟨_,ho,λv z=>by cases (show Data.seq _ _=Data.cell v from z)⟩
   . exact s1.obj
   . exact s2.obj
 keep:=λi h h' st k=>by
   obtain⟨hz,hi,⟨p,q,ho⟩,s1,s2⟩:=st;exact⟨k z (by simp) _ hz,k TI (by simp) _ hi,⟨p,q,k TO (by simp) _ ho⟩,s1.at λo e=>k i1 (by simp) o e,s2.at λo e=>k i2 (by simp) o e⟩
 item:=by
   intro X hP hw hK hc i pins s σ H E I hf st hg;subst hP hw hK;obtain⟨hz,hi,⟨p,q,ho⟩,s1,s2⟩:=st;obtain⟨xs,x,ys,y,hq1,hx,hq2,hy⟩:=hg;obtain⟨its,r1,p1⟩:=I.iC hq1;obtain⟨jts,r2,p2⟩:=I.iC hq2;obtain⟨ux,hux,rux⟩:=r1.get hx;obtain⟨uy,huy,ruy⟩:=r2.get hy
   have lt1:i<its.toArray.size:=by
     rcases wt i its.length with q | q
     . simpa using q
     . rw[wA q]at hux;cases hux
   have lt2:i<jts.toArray.size:=by
     rcases wt i jts.length with q | q
     . simpa using q
     . rw[wA q]at huy;cases huy
   have hT:s.TypeIs (.ref z) "zip":=⟨_,hz,rfl⟩;unfold pyNext
   refine wpAny_bind (wpAny_attempt (wpAny_callSpecial?_slot (name:=vj "__next__") hT vN (wpAny_call_entry vN hT Vp
     (HI (nF (A:=X.A.in1) t (I.ok.hd hc) i1 a na its.toArray) (nF (A:=X.A.in1) u (I.ok.hd hc) i2 b nb jts.toArray) ap hz hi ho ⟨s1,p1⟩ ⟨s2,p2⟩ lt1 lt2 λv1 v2 h1 tk e1 e2 hz1 ho1 st1 st2 hT1 hk=>wpAny_pure ?_) (W9 _))))
   have ev1:v1=ux:=by
     have e1':its[i]? = some v1:=by simpa using e1
     rw[hux]at e1';exact(wF e1').symm
   have ev2:v2=uy:=by
     have e2':jts[i]? = some v2:=by simpa using e2
     rw[huy]at e2';exact(wF e2').symm
   subst ev1 ev2
   have I1:Inv X pins σ (upd H s.heap.objs.size (.tup [x,y])) {s with heap:=s.heap.push {cls:=.type "tuple",data:=.seq ([v1,v2]:List Value).toArray},toks:=tk} :=
     I.laid (λc o q=>wf _ q) (wg _) (show dh X.prog X.w _ _ _ (.tup [x,y])from⟨mV (by simp),_,.cons rux (.cons ruy .nil),qp _ _⟩)
   have ltf:∀c∈[z,TI,TO,i1,i2],c<s.heap.objs.size:=λc hc=>by
     simp only[wz,VP,or_false]at hc;rcases hc with rfl | rfl | rfl | rfl | rfl
     . exact wq hz
     . exact wq hi
     . exact wq ho
     . obtain⟨o,e,_⟩:=s1.obj;exact wq e
     . obtain⟨o,e,_⟩:=s2.obj;exact wq e
   have hf1:∀c∈[z,TI,TO,i1,i2],d8 X pins (upd H s.heap.objs.size (.tup [x,y])) c:=λc hc=>⟨by rw[dR (wD (ltf c hc))];exact(hf c hc).1,(hf c hc).2⟩
   refine⟨_,rfl,wpAny_letOwnedTupleGo_zip hz1 λh2 hz2 hs2=>?_⟩;have hs2:wS z h1 h2:=hs2
   refine⟨.ref s.heap.objs.size,_,Inv.q_ (s:={s with heap:=s.heap.push {cls:=.type "tuple",data:=.seq ([v1,v2]:List Value).toArray},toks:=tk}) (ch:=[z,TI,TO,i1,i2]) I1 (λc o hc q=>?_) hf1,rfl,
     ⟨_,x,y,rfl,I.aG.fresh (wg _),λzs hzs=>by rw[I.GV hzs hq1];exact hx,λzs hzs=>by rw[I.GV hzs hq2];exact hy,rfl⟩,
     ⟨hz2,hs2.extBut _ _ ap.a1 (hk _ _ ap.a1 ap.a5 ap.a6 ap.a7 hi),⟨_,_,hs2.extBut _ _ ap.a2 ho1⟩,st1.1.at λo e=>hs2.extBut _ _ ap.a3 e,st2.1.at λo e=>hs2.extBut _ _ ap.a4 e⟩,λc hc=>(hf1 c hc).1⟩
   have c1:c≠z:=λq=>hc (by simp[q])
   have c2:c≠TO:=λq=>hc (by simp[q])
   have c3:c≠i1:=λq=>hc (by simp[q])
   have c4:c≠i2:=λq=>hc (by simp[q])
   refine hs2.extBut _ _ c1 ?_
   by_cases hcs:c=s.heap.objs.size
   . subst hcs
     rw[wB _ rfl]at q;cases q;exact hT1
   . exact hk c o c1 c2 c3 c4 (by rw[Qb _ _ _ hcs]at q;exact q)
 done:=by
   intro X hP hw hK hc i pins s σ H E I hf st hg;subst hP hw hK;obtain⟨hz,hi,⟨p,q,ho⟩,s1,s2⟩:=st;obtain⟨xs,ys,hq1,hq2,hend⟩:=hg;obtain⟨its,r1,p1⟩:=I.iC hq1;obtain⟨jts,r2,p2⟩:=I.iC hq2;have e1:=r1.length;have e2:=r2.length;have hT:s.TypeIs (.ref z) "zip":=⟨_,hz,rfl⟩;unfold pyNext
   refine wpAny_bind (wpAny_attempt (wpAny_callSpecial?_slot (name:=vj "__next__") hT vN (wpAny_call_entry vN hT Vp
     (HF (k:=i) (nF (A:=X.A.in1) t (I.ok.hd hc) i1 a na its.toArray) (nF (A:=X.A.in1) u (I.ok.hd hc) i2 b nb jts.toArray) ap hz hi ho ⟨s1,p1⟩ ⟨s2,p2⟩ (by simp only[wC];omega) λh' y tk hk hx'=>?_) (W9 _))))
   obtain⟨o,ho',hcl⟩:=hx';refine wpAny_bind (wpAny_isInstance (T:="StopIteration") (b:=true) ⟨o,ho',hcl⟩ isSubtype_stop (wpAny_pure ⟨rfl,?_⟩));exact Inv.q_ (ch:=[z,TI,TO,i1,i2]) I (λc o hc e=>hk c o (λq=>hc (by simp[q])) (λq=>hc (by simp[q])) (λq=>hc (by simp[q])) (λq=>hc (by simp[q])) e) hf
 self:=λ_ _ _ _ _ st h=>wpAny_pyIter_zip st.1 h
abbrev tU(h:Heap)(a:Addr):Heap:=h.push {cls:=.type "tuple_iterator",data:=.fields #[.ref a,.int 0 0]}
abbrev yK(h:Heap)(a b:Addr):Heap:=(tU h a).push {cls:=.type "tuple_iterator",data:=.fields #[.ref b,.int 0 0]}
abbrev u0(h:Heap)(a b:Addr):Heap:=(yK h a b).push {cls:=.type "tuple",data:=.seq #[.ref h.objs.size,.ref (tU h a).objs.size]}
abbrev yT(h:Heap)(a b:Addr):Heap:=(u0 h a b).push {cls:=.type "tuple",data:=.seq #[.none,.none]}
abbrev lZ(h:Heap)(a b:Addr):Heap:=(yT h a b).push {cls:=.type "zip",data:=.fields #[.none,.bool false,.bool false,.ref (yK h a b).objs.size,.ref (u0 h a b).objs.size]}
theorem Zm(a b:Addr)(xs ys:Array Value):Meets (Builtin.«zip.__new__» ⟨[.type "zip",.ref a,.ref b],[]⟩) (λ_ R s=>s.heap.IsTuple a xs/\s.heap.IsTuple b ys/\R (.ok (.ret (.ref (yT s.heap a b).objs.size))) {s with heap:=lZ s.heap a b}) :=
 .of_wp λprog w A R s h=>by
  obtain⟨hp,g,d,tk,os⟩:=s;obtain⟨ha,hb,h⟩:=h;have hsub:=sub_zip;have hA:xF (Xd ⟨hp,g,d,tk,os⟩) a xs:=ha;have hB:xF (Xd ⟨hp.push {cls:=.type "tuple_iterator",data:=.fields #[.ref a,.int 0 0]},g,d,tk,os⟩) b ys:=hb.at λo e=>wf _ e
  wp_walk using wpAny_pyIter_tuple hA,wpAny_pyIter_tuple hB
  exact⟨_,rfl,h⟩
section
variable{prog:Program}{w:World}{A:Around}{E:Value->Shared->Prop}{s:Shared}
theorem N2{a b:Addr}{xs ys:Array Value}{Q:Value->Shared->Prop}(ha:s.heap.IsTuple a xs)(hb:s.heap.IsTuple b ys)
   (fin:∀h',IsZip h' (s.heap.objs.size+4) (s.heap.objs.size+2) (s.heap.objs.size+3) .none->IsPair h' (s.heap.objs.size+2) (.ref s.heap.objs.size) (.ref (s.heap.objs.size+1))->IsPair h' (s.heap.objs.size+3) .none .none ->
     h'.IsTupleIter s.heap.objs.size a 0->h'.IsTupleIter (s.heap.objs.size+1) b 0->(∀c o,s.heap.get? c=some o->h'.get? c=some o)->Q (.ref (s.heap.objs.size+4)) {s with heap:=h'}):wpAny (model prog w) A (call (.type "zip") [.ref a,.ref b]) Q E s:=by
 refine callType_new F.called_zip (by decide) (F.typeCall_zip_2 _ _) (F.newCall_zip_2 _ _) (λobj=>F.args_object_init_3 obj _ _) F.entry_zip_new (Zm a b xs ys) ⟨ha,hb,?_⟩;have z1:(tU s.heap a).objs.size=s.heap.objs.size+1:=Vh ..;have z2:(yK s.heap a b).objs.size=s.heap.objs.size+2:=by rw[Vh,z1]
 have z3:(u0 s.heap a b).objs.size=s.heap.objs.size+3:=by rw[Vh,z2]
 have z4:(yT s.heap a b).objs.size=s.heap.objs.size+4:=by rw[Vh,z3]
 have g5:(lZ s.heap a b).get? (yT s.heap a b).objs.size=some _:=wB _ rfl;have g4:(lZ s.heap a b).get? (u0 s.heap a b).objs.size=some _:=wf _ (wB _ rfl);have g3:(lZ s.heap a b).get? (yK s.heap a b).objs.size=some _:=wf _ (wf _ (wB _ rfl));have g2:(lZ s.heap a b).get? (tU s.heap a).objs.size=some _:=wf _ (wf _ (wf _ (wB _ rfl)));have g1:(lZ s.heap a b).get? s.heap.objs.size=some _:=wf _ (wf _ (wf _ (wf _ (wB _ rfl))))
 show _/\_
 rw[z2,z3,z4]at g5;rw[z1,z2]at g3;rw[z3]at g4;rw[z1]at g2;rw[z4];exact⟨⟨_,g5,rfl⟩,fin _ g5 g3 g4 ⟨_,g1,rfl,rfl⟩ ⟨_,g2,rfl,rfl⟩ λc o x=>wf _ (wf _ (wf _ (wf _ (wf _ x))))⟩
end
def AH(t u:Bool)(K:wb)(ta:TA):TI:=λσ H R=>ta σ H λvs H1=>∃a b,vs=[.ref a,.ref b]/\(∃xs,di t K H1 a xs)/\(∃ys,di u K H1 b ys)/\R (zD t u K a b) H1
theorem Am:bootBuiltins "zip"=some (.type "zip"):=by decide +kernel
theorem lW{x a b:Addr}(h:x≠a)(k:x≠b):x ∉ [a,b]:=by simp[h,k]
theorem JH{n a b:Nat}(la:a<n)(lb:b<n):ZA (n+4) (n+2) (n+3) n (n+1) [n,a] [n+1,b] where
 a1:=wD (by omega)
 a2:=wD (by omega)
 a3:=wD (by omega)
 a4:=wD (by omega)
 a5:=wD (by omega)
 a6:=wR (by omega)
 a7:=wR (by omega)
 a8:=wR (by omega)
 a9:=wR (by omega)
 b0:=wD (by omega)
 b1:=lW (wR (by omega)) (wR (by omega))
 b2:=lW (wR (by omega)) (wR (by omega))
 b3:=lW (wR (by omega)) (wR (by omega))
 b4:=lW (wR (by omega)) (wR (by omega))
 b5:=lW (wD (by omega)) (wR (by omega))
 b6:=lW (wR (by omega)) (wR (by omega))
theorem Mm{X:Cx}{elts:List Expr}{k1}{tpos:Pos}{pins:List (Addr × Obj)}{σ : L2.St}{H:Hp}{s:Shared}{R:It->Hp->Prop}{h':Heap}{E:Value->Shared->Prop}{t u:Bool}{a b:Addr}(I:Inv X pins σ H s)(la:a<s.heap.objs.size)(lb:b<s.heap.objs.size)
   (hz:IsZip h' (s.heap.objs.size+4) (s.heap.objs.size+2) (s.heap.objs.size+3) .none) (hi:IsPair h' (s.heap.objs.size+2) (.ref s.heap.objs.size) (.ref (s.heap.objs.size+1))) (ho:IsPair h' (s.heap.objs.size+3) .none .none)
   (s1:iP t h' s.heap.objs.size a 0) (s2:iP u h' (s.heap.objs.size+1) b 0) (kp:∀c o,s.heap.get? c=some o->h'.get? c=some o) (q:R (zD t u X.K a b) H):wpAny (model X.prog X.w) X.A (pyIter (.ref (s.heap.objs.size+4))) (DY X pins σ (.Tuple elts k1 tpos) R) E {s with heap:=h'}:=by
 refine wpAny_pyIter_zip hz ?_;refine⟨s.heap.objs.size+4,[s.heap.objs.size+4,s.heap.objs.size+2,s.heap.objs.size+3,s.heap.objs.size,s.heap.objs.size+1],_,_,H,rfl,I.kept (t':=s.toks) kp,zxn a b _ (s.heap.objs.size+2) (s.heap.objs.size+3) s.heap.objs.size (s.heap.objs.size+1) (JH la lb) (wD la) (wD (W8 lb)),⟨hz,hi,⟨_,_,ho⟩,s1,s2⟩,λc hc=>?_,q⟩
 . have hb':s.heap.objs.size<=c:=by
     simp only[wz,VP,or_false]at hc;rcases hc with rfl | rfl | rfl | rfl | rfl
     . exact We _ 4
     . exact We _ 2
     . exact We _ 3
     . exact wg _
     . exact We _ 1
   exact I.ji hb' (I.aG.fresh hb')
theorem UY{X:Cx}{elts:List Expr}{k1}{tpos p pos:Pos}{l m:Expr}{ta:TA}(hg:Gl X "zip")(hm:X.mg "zip"=none)(ha:PA X [l,m] ta)(hs:starEach [l,m] X.env=[(false,eval l X.env),(false,eval m X.env)]:=by rfl)(hs2:starEach [m] X.env=[(false,eval m X.env)]:=by rfl) :
   PI X (.Tuple elts k1 tpos) (.Call (.Name "zip" p) [l,m] [] pos) (AH true true X.K ta):=by
 intro pins s σ H R I h;refine Call_ (fZ I hg hm Am (wX (aI (ha pos pins s σ H _ I h) λus s1 ⟨vs,H1,I1,r1,q1⟩=>?_) (by rw[hs,hs2]) (by rw[hs2];rfl)));obtain⟨a,b,rfl,⟨xs,hq1⟩,⟨ys,hq2⟩,q⟩:=q1;obtain⟨u,v,rfl,ru,rv⟩:=k_ r1;cases ru;cases rv;obtain⟨its,_,p1⟩:=I1.iC hq1;obtain⟨jts,_,p2⟩:=I1.iC hq2;have la:a<s1.heap.objs.size:=by obtain⟨o,e,_⟩:=(show s1.heap.IsTuple a its.toArray from p1);exact wq e
 have lb:b<s1.heap.objs.size:=by obtain⟨o,e,_⟩:=(show s1.heap.IsTuple b jts.toArray from p2);exact wq e
 exact N2 p1 p2 λh' hz hi ho t1 t2 kp=>Mm (t:=true) (u:=true) I1 la lb hz hi ho t1 t2 kp q
theorem UL{X:Cx}{elts:List Expr}{k1}{tpos p pos:Pos}{l m:Expr}{ta:TA}(hg:Gl X "zip")(hm:X.mg "zip"=none)(ha:PA X [l,m] ta)(hs:starEach [l,m] X.env=[(false,eval l X.env),(false,eval m X.env)]:=by rfl)(hs2:starEach [m] X.env=[(false,eval m X.env)]:=by rfl) :
   PI X (.Tuple elts k1 tpos) (.Call (.Name "zip" p) [l,m] [] pos) (AH false false X.K ta):=by
 intro pins s σ H R I h;refine Call_ (fZ I hg hm Am (wX (aI (ha pos pins s σ H _ I h) λus s1 ⟨vs,H1,I1,r1,q1⟩=>?_) (by rw[hs,hs2]) (by rw[hs2];rfl)));obtain⟨a,b,rfl,⟨xs,hq1⟩,⟨ys,hq2⟩,q⟩:=q1;obtain⟨u,v,rfl,ru,rv⟩:=k_ r1;cases ru;cases rv;obtain⟨its,_,p1⟩:=I1.iC hq1;obtain⟨jts,_,p2⟩:=I1.iC hq2;have la:a<s1.heap.objs.size:=by obtain⟨o,e,_⟩:=(show s1.heap.IsList a its.toArray from p1);exact wq e
 have lb:b<s1.heap.objs.size:=by obtain⟨o,e,_⟩:=(show s1.heap.IsList b jts.toArray from p2);exact wq e
 exact call_zip_2 p1 p2 λh' hz hi ho t1 t2 _ kp=>Mm (t:=false) (u:=false) I1 la lb hz hi ho t1 t2 kp q
theorem di.same{t:Bool}{K:wb}{H H':Hp}{a:Addr}{xs:List V}(s:ah H H')(h:di t K H a xs):di t K H' a xs:=by
 cases t
 ·exact s.seq h
 ·exact s.jw h
def AA(t u:Bool)(K:wb)(g:TG)(tt:TT)(te:TE)(src:List (Option Nat))(σ : L2.St)(vs:List V)(H1:Hp)(Q:VK):Prop:=∃a b,vs=[.ref a,.ref b]/\(∃xs,di t K H1 a xs)/\(∃ys,di u K H1 b ys) /\
 ∀D,H1 D=none->jk g tt te (zD t u K a b) D (dB src σ) (upd H1 D (.lst [])) (λH'=>Q (.ref D) H')
section
variable{t u:Bool}{K:wb}{ta:TA}{g:TG}{tb:TS}{tt:TT}{te:TE}{D:cc}{σ : L2.St}{H:Hp}{Q:VK}{a b:Addr}{xs ys:List V}{src:List (Option Nat)}{o0 o0':Option V}{tl:L2.St}
theorem Yi(h:ta σ H λvs H1=>AA t u K g tt te src σ vs H1 Q):jo src (AH t u K ta) g tt te σ H Q:=h
def fS(H:Hp)(tl:L2.St)(Rel:Nat->V->Hp->Prop)(D:Addr)(i:Nat)(zs:List V)(σ':L2.St)(H':Hp):Prop :=
 (∃o1 o2,σ'=o1::o2::tl)/\H D=none/\ah H H'/\H' D=some (.lst zs)/\zs.length=i /\ ∀j y,zs[j]? = some y->Rel j y H'
theorem yB{Rel:Nat->V->Hp->Prop}{D:Addr}{i:Nat}{zs:List V}{σ' σ3:L2.St}{H1 H5:Hp}{y:V}(inv:fS H tl Rel D i zs σ' H1)(hi:i<=1000)(hk:∀i v H1 H2,bG H1 H2->Rel i v H1->Rel i v H2)(hσ : ∃o1 o2,σ3=o1::o2::tl)(s:ah H1 H5)(r:Rel i y H5):pU (fS H tl Rel) D i σ3 y H5:=by
 obtain⟨_,hn,s1,hD,hl,hr⟩:=inv;have hD5:=s _ _ hD;refine kG hD5 (by omega) λH6 E6 e6=>⟨hσ,hn,(s1.trans s).grow hn E6,e6,by simp[hl],λj z hz=>?_⟩
 have k6:bG H5 H6:=E6.keep hD5;rcases wt j zs.length with hj | hj
 ·rw[vo hj]at hz
  exact hk _ _ _ _ (s.keep.trans k6) (hr j z hz)
 ·have hj':j=zs.length:=by
   rcases wt zs.length j with q | q
   ·rw[wA (by simp;omega)]at hz;cases hz
   ·omega
  subst hj';rw[wW (wg _),WS]at hz;cases hz;rw[hl];exact hk _ _ _ _ k6 r
theorem zzs(hx:di t K H a xs)(hy:di u K H b ys)(hxy:xs.length=ys.length)(hsrc:dB src σ = o0::o0'::tl)(Rel:Nat->V->Hp->Prop)(hk:∀i v H1 H2,bG H1 H2->Rel i v H1->Rel i v H2)
   (hs:∀D i x y zs o1 o2 H1 c,xs[i]? = some x->ys[i]? = some y->fS H tl Rel D i zs (o1::o2::tl) H1->H1 c=some (.tup [x,y])->gO (fS H tl Rel) g tt te D i (.ref c) (o1::o2::tl) H1)
   (hd:∀D zs H',H D=none->ah H H'->H' D=some (.lst zs)->zs.length=xs.length->(∀j y,zs[j]? = some y->Rel j y H')->Q (.ref D) H'):AA t u K g tt te src σ [.ref a,.ref b] H Q:=by
 refine⟨a,b,rfl,⟨xs,hx⟩,⟨ys,hy⟩,λD hD=>⟨λi m σ' H'=>i+m=xs.length /\ ∃zs,fS H tl Rel D i zs σ' H',⟨xs.length,by omega,[],⟨o0,o0',hsrc⟩,hD,ah.upd hD,cF,rfl,λj y z=>by simp at z⟩,?_⟩⟩;rintro i m σ' H' ⟨him,zs,inv⟩;have hq1:=di.same inv.2.2.1 hx;have hq2:=di.same inv.2.2.1 hy
 by_cases hm:m=0
 . have e:i=xs.length:=by omega
   subst e;obtain⟨_,n,s,e,hl,r⟩:=inv;exact .inl ⟨⟨xs,ys,hq1,hq2,.inl rfl⟩,hd D zs H' n s e hl r⟩
 . have hi:i<xs.length:=by omega
   have hj:i<ys.length:=by omega
   refine .inr ⟨⟨xs,xs[i],ys,ys[i],hq1,by simp[hi],hq2,by simp[hj]⟩,λσ2 H2=>∃zs,fS H tl Rel D (i+1) zs σ2 H2,λσ2 H2 h=>⟨m-1,by omega,by omega,h⟩,?_⟩;rintro v H2 ⟨c,x,y,rfl,hn,hx',hy',rfl⟩;obtain⟨⟨o1,o2,rfl⟩,n,s,e,hl,r⟩:=inv;have su:=ah.upd (o:=.tup [x,y]) hn;exact hs D i x y zs o1 o2 _ c (hx' xs hq1) (hy' ys hq2) ⟨⟨o1,o2,rfl⟩,n,s.trans su,su _ _ e,hl,λj y hy=>hk _ _ _ _ su.keep (r j y hy)⟩ cF
end
def AG(K:wb):List V->Hp->VK->Prop:=λxs H Q=>∃(p:Addr)(ns:List Int),xs=[.ref p]/\aR K H p (ns.map V.int)/\Q (.int ns.sum) H
theorem OG:bootBuiltins "sum"=some (.builtin "sum"):=by decide +kernel
open PyProof.V PySem.Calls in
theorem Ur{X:Cx}(hc:X.calm=true):aO X (.builtin "sum") (AG X.K):=by
 intro pins s σ H xs us Q I r h;obtain⟨p,ns,rfl,hq,q⟩:=h;obtain⟨u,rfl,rx⟩:=gk r;cases rx;obtain⟨its,r',pl,hz⟩:=I.tuple hq;have hI:=yJ r';have hT:s.heap.IsTuple p its.toArray:=pl;obtain⟨zs,hx⟩:=hI.allInts.items;have hn:numsOf its.toArray.toList=ns:=by rw[show its.toArray.toList=its from rfl,hI.numsOf]
 rw[hx]at hT hn;rw[nums_intItems]at hn;refine PySem.W.ktm_sumG (I.ok.hd hc) hT λh' tk t' hk=>?_
 rw[preSum_eq,Wm (by simp),hn];exact⟨.int ns.sum,H,I.kept (t':=tk) hk,⟨_,rfl⟩,q⟩
theorem Tg{K:wb}{H:Hp}{Q:VK}{v:V}{ns:List Int}(h:Is K H v (TZ ns))(q:Q (.int ns.sum) H):AG K [v] H Q:=by
 obtain⟨a,rfl,hs⟩:=nJ.mp h;exact⟨a,ns,rfl,hs,q⟩
theorem Um{α : Type}(xs:List α)(k:Nat)(h:k<=xs.length):jc xs (some (k:Int)) none=xs.drop k:=by
 unfold jc;rw[HT.RM,HT.RP,QC h];exact Wm (by rw[vy];omega)
def ng(K:wb):List V->Hp->VK->Prop:=λxs H Q=>∃(p:Addr)(bs:List Bool),xs=[.ref p]/\aK K H p (bs.map V.bl)/\Q (.bl (bs.all id)) H
theorem zA:bootBuiltins "all"=some (.builtin "all"):=by decide +kernel
theorem KP{bs:List Bool} : ∀{us:List Value},aM (bs.map V.bl) us->us=bs.map Value.bool:=by
 induction bs with
 | nil=>intro us r;rw[Qk]at r;cases r;rfl
 | cons b bs ih =>
  intro us r;rw[wM]at r;cases r with
  | cons r1 r2 =>
   cases r1;rw[wM,ih r2]
theorem Yr(bs:List Bool):((wl bs.length).all λi=>(bs[i]?).getD true)=bs.all id:=by
 rw[vc,Wd,Wd]
 constructor
 ·intro h b hb
  obtain⟨i,hi,rfl⟩:=wK hb;have:=h i (wx.mpr hi);rw[wc hi]at this;exact this
 ·intro h i hi
  rw[wx]at hi;rw[wc hi];exact h _ (vd hi)
open PyProof.V PySem.Calls in
theorem yG{X:Cx}(hc:X.calm=true):aO X (.builtin "all") (ng X.K):=by
 intro pins s σ H xs us Q I r h;obtain⟨p,bs,rfl,hq,q⟩:=h;obtain⟨u,rfl,rx⟩:=gk r;cases rx;obtain⟨its,r',pl,hz⟩:=I.list hq;have hi:its=bs.map Value.bool:=KP r';have hl:s.heap.IsList p its.toArray:=pl.isList;have hlt:p<s.heap.objs.size:=by obtain⟨_,e,_⟩:=hl;exact wq e
 refine call_all_walk (wpAny_pyIter_list hl ?_)
 refine⟨s.heap.objs.size,[s.heap.objs.size,p],[s.heap.objs.size],its.toArray.size,_,_,λi=>(bs[i]?).getD true,rfl,XQ (A:=X.A.in1) (I.ok.hd hc) _ p (wD hlt) its.toArray,
  ⟨⟨_,wB _ rfl,rfl,rfl⟩,hl.push _⟩,λi v s' Q' E' hP hQ=>?_,λh' tk hk=>?_⟩
 ·have hP:its.toArray[i]? = some v:=hP
  rw[hi]at hP;simp only[Q2,wn,WN]at hP;obtain⟨b,e,rfl⟩:=hP;simp only[e,qo]at hQ;exact wpAny_truthy_bool hQ
 ·have e:((wl its.toArray.size).all λi=>(bs[i]?).getD true)=bs.all id:=by
   rw[wC,hi,we];exact Yr bs
  rw[e];exact⟨.bl (bs.all id),H,I.kept (t':=tk) (λb x e=>hk b x (λhm=>by rw[wO.mp hm]at e;exact WE _ (wq e)) (wf _ e)),rfl,q⟩
theorem pL{K:wb}{H:Hp}{Q:VK}{p:Addr}{bs:List Bool}(h:aK K H p (bs.map V.bl))(q:Q (.bl (bs.all id)) H):ng K [.ref p] H Q:=⟨p,bs,rfl,h,q⟩
section
variable{t u:Bool}{K:wb}{g:TG}{tt:TT}{te:TE}{σ : L2.St}{H:Hp}{Q:VK}{a b:Addr}{xs ys:List V}{src:List (Option Nat)}{o0 o0':Option V}{tl:L2.St}
theorem zwJ(hx:di t K H a xs)(hy:di u K H b ys)(hxy:ys.length<xs.length)(hsrc:dB src σ = o0::o0'::tl)(Rel:Nat->V->Hp->Prop)(hk:∀i v H1 H2,bG H1 H2->Rel i v H1->Rel i v H2)
   (hs:∀D i x y zs o1 o2 H1 c,xs[i]? = some x->ys[i]? = some y->fS H tl Rel D i zs (o1::o2::tl) H1->H1 c=some (.tup [x,y])->gO (fS H tl Rel) g tt te D i (.ref c) (o1::o2::tl) H1)
   (hd:∀D zs H',H D=none->ah H H'->H' D=some (.lst zs)->zs.length=ys.length->(∀j y,zs[j]? = some y->Rel j y H')->Q (.ref D) H'):AA t u K g tt te src σ [.ref a,.ref b] H Q:=by
 refine⟨a,b,rfl,⟨xs,hx⟩,⟨ys,hy⟩,λD hD=>⟨λi m σ' H'=>i+m=ys.length /\ ∃zs,fS H tl Rel D i zs σ' H',⟨ys.length,by omega,[],⟨o0,o0',hsrc⟩,hD,ah.upd hD,cF,rfl,λj y z=>by simp at z⟩,?_⟩⟩;rintro i m σ' H' ⟨him,zs,inv⟩;have hq1:=di.same inv.2.2.1 hx;have hq2:=di.same inv.2.2.1 hy
 by_cases hm:m=0
 . have e:i=ys.length:=by omega
   subst e;obtain⟨_,n,s,e,hl,r⟩:=inv;exact .inl ⟨⟨xs,ys,hq1,hq2,.inr ⟨hxy,rfl⟩⟩,hd D zs H' n s e hl r⟩
 . have hi:i<xs.length:=by omega
   have hj:i<ys.length:=by omega
   refine .inr ⟨⟨xs,xs[i],ys,ys[i],hq1,by simp[hi],hq2,by simp[hj]⟩,λσ2 H2=>∃zs,fS H tl Rel D (i+1) zs σ2 H2,λσ2 H2 h=>⟨m-1,by omega,by omega,h⟩,?_⟩;rintro v H2 ⟨c,x,y,rfl,hn,hx',hy',rfl⟩;obtain⟨⟨o1,o2,rfl⟩,n,s,e,hl,r⟩:=inv;have su:=ah.upd (o:=.tup [x,y]) hn;exact hs D i x y zs o1 o2 _ c (hx' xs hq1) (hy' ys hq2) ⟨⟨o1,o2,rfl⟩,n,s.trans su,su _ _ e,hl,λj y hy=>hk _ _ _ _ su.keep (r j y hy)⟩ cF
end
def LI(g:TG)(tb:TS)(D:cc)(σ : L2.St)(vs:List V)(H1:Hp):Prop:=∃i j:Int,vs=[.int i,.int j]/\(-(2^62)<=i/\i<2^62 /\ -(2^62)<=j/\j<2^62) /\
 ∃W:Nat->Nat->L2.St->Hp->Prop,(∃m,W 0 m σ H1) /\ ∀k m σ H,W k m σ H ->
  ((fQ i (j-i).toNat).stop k H/\D.nx σ H)\/((fQ i (j-i).toNat).go k H /\ ∃M:L2.St->Hp->Prop,(∀σ' H',M σ' H'->∃m',m'<m/\W (k+1) m' σ' H') /\ ∀x H',(fQ i (j-i).toNat).fD k H x H'->g x σ H' λσ2 H2=>tb {D with nx:=M,ct:=M,bk:=D.nx} σ2 H2)
theorem Zf{ta:TA}{g:TG}{tb:TS}{D:cc}{σ : L2.St}{H:Hp}(h:ta σ H λvs H1=>LI g tb D σ vs H1):m5 (NZ ta) g tb D σ H:=h
theorem Zs{g:TG}{tb:TS}{D:cc}{σ : L2.St}{H:Hp}{lo hi:Int}(h0 : -1000000000<=lo)(h1:lo<1000000000)(h2 : -1000000000<=hi)(h3:hi<1000000000)(Pv:Nat->L2.St->Hp->Prop)(p:Pv 0 σ H)
  (hs:∀(i:Nat) σ H,i<(hi-lo).toNat->Pv i σ H->g (.int (lo+(i:Int))) σ H λσ2 H2=>tb {D with nx:=Pv (i+1),ct:=Pv (i+1),bk:=D.nx} σ2 H2)
  (hd:∀σ H,Pv (hi-lo).toNat σ H->D.nx σ H):LI g tb D σ [.int lo,.int hi] H :=
 ⟨lo,hi,rfl,⟨by omega,by omega,by omega,by omega⟩,Oe (lo:=lo) Pv p hs hd⟩
def Ee(K:wb):List V->Hp->VK->Prop:=λxs H Q=>∃x tp S T d b,xs=[x,.ref tp]/\aR K H tp [.ty S,.ty T]/\Is K H x d/\X5 K (.type (kindOf d)) [.type S,.type T]=some b/\Q (.bl b) H
theorem zsg{X:Cx} : aO X (.builtin "isinstance") (Ee X.K):=by
 intro pins s σ H xs us Q I r h;obtain⟨x,tp,S,T,d,b,rfl,ht,hd,e,q⟩:=h;obtain⟨u,w',rfl,rx,rt⟩:=k_ r;cases (show w'=Value.ref tp from rt);obtain⟨tts,rv,⟨ot,ht1,ht2,n,ht3⟩,_⟩:=I.tuple ht;obtain⟨t1,t2,rfl,r1,r2⟩:=k_ rv;cases (show t1=Value.type S from r1);cases (show t2=Value.type T from r2);obtain⟨c,dd,da,sl⟩:=ot;cases ht2;cases ht3;have fin:∀tk,EP X pins σ Q (.bool b) {s with toks:=tk}:=λtk=>⟨.bl b,H,I.tok _,rfl,q⟩
 cases d with
 | none =>
  cases lS.mp hd;cases (show u=Value.none from rx);exact WZ xS I.dk True.intro ht1 e (λz=>nomatch z) fin
 | bool y =>
  cases kc.mp hd;cases (show u=Value.bool y from rx);exact WZ xT I.dk True.intro ht1 e (λz=>nomatch z) fin
 | int i =>
  cases cg.mp hd;obtain⟨t,q⟩:=(show ∃t,u=Value.int i t from rx);cases q;exact WZ Xq I.dk True.intro ht1 e (λz=>nomatch z) fin
 | str y =>
  cases iR.mp hd;obtain⟨t,q⟩:=(show ∃t,u=Value.str y t from rx);cases q;exact WZ Xr I.dk True.intro ht1 e (λz=>nomatch z) fin
 | tuple ds =>
  obtain⟨a,xs,e1,hq,_⟩:=bM.mp hd;subst e1;cases (show u=Value.ref a from rx);obtain⟨its,_,⟨o,h1,h2,_⟩,_⟩:=I.tuple hq;exact WZ xD I.dk ⟨o,h1,h2⟩ ht1 e (λz=>nomatch z) fin
 | list ds =>
  obtain⟨a,xs,e1,hq,_⟩:=cB.mp hd;subst e1;cases (show u=Value.ref a from rx);obtain⟨its,_,⟨o,n,h1,h2,_⟩,_⟩:=I.list hq;exact WZ xU I.dk ⟨o,h1,h2⟩ ht1 e (λz=>nomatch z) fin
 | dict kv =>
  obtain⟨a,kvs,e1,hq⟩:=yA.mp hd;subst e1;cases (show u=Value.ref a from rx);obtain⟨_,_,vs,_,o,es,ep,h1,h2,_⟩:=(show dh X.prog X.w H s.heap a (.dK kvs)from I.aG a _ hq);exact WZ xV I.dk ⟨o,h1,h2.1⟩ ht1 e (λz=>nomatch z) fin
theorem zyK{K:wb}(d:PyData):X5 K (.type (kindOf d)) [.type "list",.type "tuple"]=some (oV d || hJ d):=by cases d<;>rfl
theorem Aw{K:wb}{H:Hp}{Q:VK}{v:V}{tp:Addr}{d:PyData}(h:Is K H v d)(t:H tp=some (.tup [.ty "list",.ty "tuple"]))(q:Q (.bl (oV d || hJ d)) H):Ee K [v,.ref tp] H Q :=
 ⟨v,tp,"list","tuple",d,_,rfl,.of t,h,zyK d,q⟩
section
variable{X:Cx}{tg:Expr}
def Bl(K:wb)(tl:TE):TI:=λσ H R=>tl σ H λx H1=>(∃a,x=.ref a/\(∃xs,aK K H1 a xs)/\R (iI K a) H1)\/(∃a,x=.ref a/\(∃xs,aR K H1 a xs)/\R (iY K a) H1)
theorem JQ{l:Expr}{tl:TE}(hl:PE X l tl):PI X tg l (Bl X.K tl):=by
 intro pins s σ H R I h;refine aI (hl pins s σ H _ I h) λv s1 ⟨x,H1,I1,r1,q1⟩=>?_
 rcases q1 with⟨a,e,⟨xs,hq⟩,q⟩ | ⟨a,e,⟨xs,hq⟩,q⟩
 ·subst e
  cases r1;obtain⟨its,rv,p,hz⟩:=I1.list hq;refine wpAny_pyIter_list p.isList ?_;refine⟨s1.heap.objs.size,[s1.heap.objs.size],_,_,H1,rfl,I1.kept (t':=s1.toks) λb o e=>wf _ e,KC a _,⟨_,wB _ rfl,rfl,rfl⟩,λb hb=>?_,q⟩;have e:b=s1.heap.objs.size:=by simpa using hb
  subst e;exact I1.ji (wg _) (I1.aG.fresh (wg _))
 ·subst e
  cases r1;obtain⟨its,rv,p,hz⟩:=I1.tuple hq;refine wpAny_pyIter_tuple (show s1.heap.IsTuple a its.toArray from p) ?_;refine⟨s1.heap.objs.size,[s1.heap.objs.size],_,_,H1,rfl,I1.kept (t':=s1.toks) λb o e=>wf _ e,MH a _,⟨_,wB _ rfl,rfl,rfl⟩,λb hb=>?_,q⟩;have e:b=s1.heap.objs.size:=by simpa using hb
  subst e;exact I1.ji (wg _) (I1.aG.fresh (wg _))
end
section
variable{K:wb}{g:TG}{tt:TT}{te ta tb' tc:TE}{tb:TS}{D:cc}{src:List (Option Nat)}{σ : St}{H:Hp}{Q:VK}{r r':R2}
theorem So(h:ta σ H λx H1=>tD K g tt te src σ x H1 Q\/yD K g tt te src σ x H1 Q):jo src (Bl K ta) g tt te σ H Q:=h
theorem UT(h:te σ H λx H1=>A4 K g tb D σ x H1\/N1 K g tb D σ x H1):m5 (Bl K te) g tb D σ H:=h
theorem S_(h:ta σ H λx H1=>tb' σ H1 λy H2=>r x y H2 λz H3=>∃k,z=.bl k/\(if k=true then tc σ H3 λw' H4=>r' y w' H4 Q else Q (.bl false) H3)):Rl r r' ta tb' tc σ H Q:=h
theorem Ua{b:Bool}{P:Bool->Prop}(h:P b):∃k,V.bl b=.bl k/\P k:=⟨b,rfl,h⟩
end
def bD(a b:Rat)(xs:List Rat):PyData:=.tuple [R a b,TN xs]
theorem zzp(a b:Rat)(xs:List Rat):cS (bD a b xs)=true:=by rw[bD,cS,bY,bY,bY,BI,tI];rfl
theorem zBU{x y:Rat}(h:N x=N y):x=y:=by
 have h':PyData.tuple [.int x.num,.int (x.den:Int)]=PyData.tuple [.int y.num,.int (y.den:Int)]:=h
 injection h' with h1
 injection h1 with h2 h3
 injection h2 with h4
 injection h3 with h5 _
 injection h5 with h6
 exact X3 h4 (by omega)
theorem kx{K:wb}{H:Hp}{us:List V}{ds:List PyData}{i:Nat}{x:V}(t:ak K H us ds)(h:us[i]? = some x):i<ds.length/\Is K H x (ds.getD i .none):=by
 have hl:=t.length
 have hi:i<ds.length:=by
  rcases wt i ds.length with z | z
  ·exact z
  ·rw[wA (by omega)]at h;cases h
 obtain⟨y,e,k⟩:=t.get (i:=i) (d:=ds.getD i .none) (by rw[wa,wc hi];rfl);rw[e]at h;cases h;exact⟨hi,k⟩
def B0:List V->Hp->VK->Prop:=λxs H Q=>∃i j,xs=[.int i,.int j]/\Q (.int (if j<i then j else i)) H
theorem zu8{X:Cx}(hc:X.calm=true):aO X (.builtin "min") B0:=ZK hc
theorem zBk:bootBuiltins "min"=some (.builtin "min"):=by decide +kernel
theorem zyI{i j:Int}{H:Hp}{Q:VK}(q:∀m:Int,m<=i->m<=j->(m=i\/m=j)->Q (.int m) H):B0 [.int i,.int j] H Q:=⟨i,j,rfl,by
 split
 ·exact q j (by omega) (by omega) (.inr rfl)
 ·exact q i (by omega) (by omega) (.inl rfl)⟩
def Eg(K:wb)(a:Addr):It :=
 ⟨λi H=>∃xs x,aK K H a xs/\xs[i]? = some x,λi H y H'=>∃t x,y=.ref t/\H t=none/\(∀xs,aK K H a xs->xs[i]? = some x)/\H'=upd H t (.tup [.int (i:Int),x]),λi H=>∃xs,aK K H a xs/\xs.length<=i⟩
theorem Tu{P:Program}{w:World}{K:wb}{elts:List Expr}{k1}{tpos:Pos}(a e it:Addr)(hne:e≠it):iT P w K (.Tuple elts k1 tpos) (Eg K a) [e,it] e (λi h=>(∃old,IsEnum h e it (i:Int) old)/\h.IsListIter it a i) where
 mem:=by simp
 obj:=λi h st b hb=>by
  obtain⟨⟨old,he⟩,o,eo,c,d⟩:=st;rcases wz.mp hb with rfl | hb
  ·exact⟨_,he,λv z=>by cases (show Data.fields _=Data.cell v from z)⟩
  ·rw[wO.mp hb]
   exact⟨o,eo,λv z=>by rw[d]at z;cases z⟩
 keep:=λi h h' st k=>⟨let ⟨old,he⟩:=st.1;⟨old,k e (by simp) _ he⟩,st.2.at λo eo=>k it (by simp) o eo⟩
 item:=by
  intro X hP hw hK hc i pins s σ H E I hf st hg;subst hP hw hK;obtain⟨⟨old,he⟩,st⟩:=st;obtain⟨xs,x,hq,hx⟩:=hg;obtain⟨its,rv,p,hz⟩:=I.list hq;obtain⟨u,hu,ru⟩:=rv.get hx;have p':s.heap.IsList a its.toArray:=p.isList
  have hai:a≠it:=λz=>by
   subst z;obtain⟨o,e1,c1,_⟩:=st;obtain⟨o',e2,c2,_⟩:=p';rw[e1]at e2;cases e2;rw[c1]at c2;exact absurd c2 (by decide)
  have hae:e≠a:=λz=>by
   subst z;obtain⟨o',e2,c2,_⟩:=p';rw[he]at e2;cases e2;exact absurd (show Value.type "enumerate"=Value.type "list" from c2) (by decide)
  have hlt:i<its.toArray.size:=by
   rcases wt i its.length with z | z
   ·simpa using z
   ·rw[wA z]at hu;cases hu
  refine wpAny_pyNext_enum_itemD (Draws.list (A:=X.A.in1) (I.ok.hd hc) it a hai its.toArray) he ⟨st,p'⟩ hlt hne (by simp[hne,hae]) λv h1 tk hv ho hs1 hT hsz hk=>?_
  have hvu:v=u:=by
   have hv':its[i]? = some v:=by simpa using hv
   rw[hu]at hv';exact(wF hv').symm
  subst hvu
  have I1:Inv X pins σ (upd H s.heap.objs.size (.tup [.int (i:Int),x])) {s with heap:=s.heap.push {cls:=.type "tuple",data:=.seq ([.int (i:Int) tk,v]:List Value).toArray},toks:=tk+1} :=
   I.laid (λb o q=>wf _ q) (wg _) (show dh X.prog X.w _ _ _ (.tup [.int (i:Int),x])from⟨mV (by simp),_,.cons ⟨_,rfl⟩ (.cons ru .nil),qp _ _⟩)
  have lt1:∀b∈[e,it],b<s.heap.objs.size:=λb hb=>by
   rcases wz.mp hb with rfl | hb
   ·exact wq he
   ·rw[wO.mp hb]
    obtain⟨o,eo,_⟩:=st;exact wq eo
  have hf1:∀b∈[e,it],d8 X pins (upd H s.heap.objs.size (.tup [.int (i:Int),x])) b:=λb hb=>⟨by rw[dR (wD (lt1 b hb))];exact(hf b hb).1,(hf b hb).2⟩
  refine⟨_,rfl,wpAny_letOwnedTupleGo_enum ho λh2 he2 hs2=>?_⟩;refine⟨.ref s.heap.objs.size,_,Inv.q_ (s:={s with heap:=s.heap.push {cls:=.type "tuple",data:=.seq ([.int (i:Int) tk,v]:List Value).toArray},toks:=tk+1}) (ch:=[e,it]) I1 (λb o hb q=>?_) hf1,rfl,⟨_,x,rfl,I.aG.fresh (wg _),λys hy=>by rw[I.z8 hy hq];exact hx,rfl⟩,⟨⟨_,by simpa using he2⟩,hs1.1.at λo eo=>(hs2.2 it (vX hne)).trans eo⟩,λb hb=>(hf1 b hb).1⟩;have hbe:b≠e:=λz=>hb (by simp[z])
  have hbi:b≠it:=λz=>hb (by simp[z])
  refine(hs2.2 b hbe).trans ?_
  by_cases hb2:b=s.heap.objs.size
  ·subst hb2
   rw[wB _ rfl]at q;cases q;exact hT
  ·exact hk b o hbe hbi (by rw[Qb _ _ _ hb2]at q;exact q)
 done:=by
  intro X hP hw hK hc i pins s σ H E I hf st hg;subst hP hw hK;obtain⟨⟨old,he⟩,st⟩:=st;obtain⟨xs,hq,hx⟩:=hg;obtain⟨its,rv,p,hz⟩:=I.list hq;have p':s.heap.IsList a its.toArray:=p.isList;have hl:=rv.length;have hT:s.TypeIs (.ref e) "enumerate":=⟨_,he,rfl⟩;unfold pyNext;refine wpAny_bind (wpAny_attempt (wpAny_callSpecial?_slot (name:=vj "__next__") hT VJ (wpAny_call_entry VJ hT QT ?_ (Qt _))))
  show wpAny _ _ (field (.ref e) 2 >>= _) _ _ _;refine wpAny_bind (wpAny_field he rfl (x:=.ref it) rfl ?_)
  refine wpAny_bind (wpAny_nextOf_list_end (A:=X.A.in1) (I.ok.hd hc) st p' (by simp;omega) λh' y he' hx'=>?_);obtain⟨o,ho,hcl⟩:=hx';refine wpAny_bind (wpAny_isInstance (T:="StopIteration") (b:=true) ⟨o,ho,hcl⟩ isSubtype_stop (wpAny_pure ⟨rfl,?_⟩));obtain⟨f0,f1,f2,f3,f4,f5⟩:=hf it (by simp);exact I.turned (t':=s.toks) (λb o hb e=>he' b o hb e) f0 f1 f3 f4 f5
 self:=λ_ _ _ _ _ st h=>let ⟨_,he⟩:=st.1;wpAny_pyIter_enum he h
def NT(K:wb)(ta:TA):TI:=λσ H R=>ta σ H λvs H1=>∃a,vs=[.ref a]/\(∃xs,aK K H1 a xs)/\R (Eg K a) H1
theorem Zj{X:Cx}{elts:List Expr}{k1}{tpos p pos:Pos}{l:Expr}{ta:TA}(hg:Gl X "enumerate")(hm:X.mg "enumerate"=none)(ha:PA X [l] ta)(hs:starEach [l] X.env=[(false,eval l X.env)]:=by rfl) :
   PI X (.Tuple elts k1 tpos) (.Call (.Name "enumerate" p) [l] [] pos) (NT X.K ta):=by
 intro pins s σ H R I h;refine Call_ (fZ I hg hm HU (wX (aI (ha pos pins s σ H _ I h) λus s1 ⟨vs,H1,I1,r1,q1⟩=>?_) hs rfl));obtain⟨a,rfl,⟨xs,hq⟩,q⟩:=q1;obtain⟨u,rfl,ru⟩:=gk r1;cases ru;obtain⟨its,rv,p,hz⟩:=I1.list hq;refine call_enumerate_list p.isList λh' he hit _ kp=>?_
 refine wpAny_pyIter_enum he ?_;refine⟨s1.heap.objs.size+1,[s1.heap.objs.size+1,s1.heap.objs.size],_,_,H1,rfl,I1.kept (t':=s1.toks) kp,Tu a (s1.heap.objs.size+1) s1.heap.objs.size (Xu _),⟨⟨_,he⟩,hit⟩,λb hb=>?_,q⟩
 have hb':s1.heap.objs.size<=b:=by
   rcases wz.mp hb with rfl | hb
   . omega
   . rw[wO.mp hb];exact wg _
 exact I1.ji hb' (I1.aG.fresh hb')
def Iz(K:wb)(g:TG)(tt:TT)(te:TE)(src:List (Option Nat))(σ : St)(vs:List V)(H1:Hp)(Q:VK):Prop:=∃a,vs=[.ref a]/\(∃xs,aK K H1 a xs) /\
 ∀D,H1 D=none->jk g tt te (Eg K a) D (dB src σ) (upd H1 D (.lst [])) (λH'=>Q (.ref D) H')
section
variable{K:wb}{ta:TA}{g:TG}{tb:TS}{tt c:TT}{te:TE}{D:cc}{σ : St}{H:Hp}{Q:VK}{a:Addr}{xs:List V}{src:List (Option Nat)}{o0 o0':Option V}{tl:St}
theorem zuo(h:ta σ H λvs H1=>Iz K g tt te src σ vs H1 Q):jo src (NT K ta) g tt te σ H Q:=h
theorem zvR(hx:aK K H a xs)(hsrc:dB src σ = o0::o0'::tl)(Rel:Nat->V->Hp->Prop)(hk:∀i v H1 H2,bG H1 H2->Rel i v H1->Rel i v H2)
   (hs:∀D i x zs o1 o2 H1 c,xs[i]? = some x->fS H tl Rel D i zs (o1::o2::tl) H1->H1 c=some (.tup [.int (i:Int),x])->gO (fS H tl Rel) g tt te D i (.ref c) (o1::o2::tl) H1)
   (hd:∀D zs H',H D=none->ah H H'->H' D=some (.lst zs)->zs.length=xs.length->(∀j y,zs[j]? = some y->Rel j y H')->Q (.ref D) H'):Iz K g tt te src σ [.ref a] H Q:=by
 refine⟨a,rfl,⟨xs,hx⟩,λD hD=>⟨λi m σ' H'=>i+m=xs.length /\ ∃zs,fS H tl Rel D i zs σ' H',⟨xs.length,by omega,[],⟨o0,o0',hsrc⟩,hD,ah.upd hD,cF,rfl,λj y z=>by simp at z⟩,?_⟩⟩;rintro i m σ' H' ⟨him,zs,inv⟩;have hq1:=inv.2.2.1.seq hx
 by_cases hm:m=0
 . have e:i=xs.length:=by omega
   subst e;obtain⟨_,n,s,e,hl,r⟩:=inv;exact .inl ⟨⟨xs,hq1,wg _⟩,hd D zs H' n s e hl r⟩
 . have hi:i<xs.length:=by omega
   refine .inr ⟨⟨xs,xs[i],hq1,by simp[hi]⟩,λσ2 H2=>∃zs,fS H tl Rel D (i+1) zs σ2 H2,λσ2 H2 h=>⟨m-1,by omega,by omega,h⟩,?_⟩;rintro v H2 ⟨c,x,rfl,hn,hx',rfl⟩;obtain⟨⟨o1,o2,rfl⟩,n,s,e,hl,r⟩:=inv;have su:=ah.upd (o:=.tup [.int (i:Int),x]) hn;exact hs D i x zs o1 o2 _ c (hx' xs hq1) ⟨⟨o1,o2,rfl⟩,n,s.trans su,su _ _ e,hl,λj y hy=>hk _ _ _ _ su.keep (r j y hy)⟩ cF
def IW(Pv:Nat->St->Hp->Prop)(m:Nat)(tb:TS)(D:cc)(σ':St)(H1:Hp):Prop :=
 ∃M:St->Hp->Prop,(∀σ2 H2,M σ2 H2->∃m',m'<m/\Pv m' σ2 H2)/\tb {D with nx:=M,ct:=M,bk:=D.nx} σ' H1
theorem yH(Pv:Nat->St->Hp->Prop)(m0:Nat)(h0:Pv m0 σ H)(hs:∀m σ' H',Pv m σ' H'->c σ' H' λb H1=>if b=true then IW Pv m tb D σ' H1 else D.nx σ' H1):DF c tb D σ H:=⟨Pv,⟨m0,h0⟩,hs⟩
theorem rD{Pv:Nat->St->Hp->Prop}{m:Nat}{σ':St}{H1:Hp}(h:tb {D with nx:=λσ2 H2=>∃m',m'<m/\Pv m' σ2 H2,ct:=λσ2 H2=>∃m',m'<m/\Pv m' σ2 H2,bk:=D.nx} σ' H1):IW Pv m tb D σ' H1:=⟨_,λ_ _ q=>q,h⟩
def sP(K:wb)(x:V)(H:Hp)(Q:Bool->Hp->Prop):Prop:=∃k,AN K x H k/\Q k H
def JR(K:wb)(te:TE):TT:=λσ H Q=>te σ H λx H'=>sP K x H' Q
theorem CH{X:Cx}{e:Expr}{t:TE}(h:PE X e t)(he:∀whole,isTrue e X.env whole=(do let v <- whole;standAt e.pos;holding [v] (truthy v)):=by intro _;rfl):PT X e (JR X.K t):=zwb h he
theorem zAK{QB:Bool->Hp->Prop}(h:te σ H λx H'=>sP K x H' QB):JR K te σ H QB:=h
theorem Sn{QB:Bool->Hp->Prop}{v:V}{ds:List PyData}(h:Is K H v (.tuple ds))(q:QB (!ds.isEmpty) H):sP K v H QB:=by
 obtain⟨p,us,rfl,hs,t⟩:=bM.mp h;have hl:=t.length;refine⟨_,.inr (.inl ⟨us,hs,rfl⟩),?_⟩
 have e:us.isEmpty=ds.isEmpty:=by
  cases us<;>cases ds<;>simp_all
 rw[e];exact q
theorem Ri{QB:Bool->Hp->Prop}{v:V}{ds:List PyData}(h:Is K H v (.list ds))(q:QB (!ds.isEmpty) H):sP K v H QB:=by
 obtain⟨p,us,rfl,hs,t⟩:=cB.mp h;have hl:=t.length;refine⟨_,.inl ⟨us,hs,rfl⟩,?_⟩
 have e:us.isEmpty=ds.isEmpty:=by
  cases us<;>cases ds<;>simp_all
 rw[e];exact q
end
theorem OF:∀(ys:List V)(us:List Value),ys.length=us.length->(∀(i:Nat) y u,ys[i]? = some y->us[i]? = some u->aW y u)->aM ys us
 | [],[],_,_=>.nil
 | [],_::_,h,_=>by simp at h
 | _::_,[],h,_=>by simp at h
 | y::ys,u::us,h,r=>.cons (r 0 y u rfl rfl) (OF ys us (by simpa using h) λi y u h1 h2=>r (i+1) y u h1 h2)
def vz(l:List Nat):List V:=l.map λ(w:Nat)=>V.int (w:Int)
theorem jB(l:List Nat):(vz l).length=l.length:=we ..
def DJ(vs:List V)(H1:Hp)(Q:VK):Prop:=∃j:Int,vs=[.int j]/\0<=j/\j<=1000 /\ ∀l,H1 l=none->Q (.ref l) (upd H1 l (.lst (vz (wl j.toNat))))
def OA(ta:TA):TE:=λσ H Q=>ta σ H λvs H1=>DJ vs H1 Q
theorem UW{X:Cx}{a:Expr}{ta:TA}{p p2 pos pos2:Pos}(hc:X.calm=true)(hg:Gl X "list")(hm:X.mg "list"=none)(hg2:Gl X "range")(hm2:X.mg "range"=none)(ha:PA X [a] ta)(hs:starEach [a] X.env=[(false,eval a X.env)]:=by rfl)
   (hs2:starEach [Expr.Call (.Name "range" p2) [a] [] pos2] X.env=[(false,eval (.Call (.Name "range" p2) [a] [] pos2) X.env)]:=by rfl):PE X (.Call (.Name "list" p) [.Call (.Name "range" p2) [a] [] pos2] [] pos) (OA ta):=by
 intro pins s σ H Q I h;refine Call_ (fZ I hg hm lV ?_);refine wX ?_ hs2 rfl;rw[hs2]
 show wpAny _ _ (spliced ((false,eval _ X.env)::backTo pos [])) _ _ s
 refine qM ?_;refine Call_ (fZ I hg2 hm2 boot_range (wX (aI (ha pos2 pins s σ H _ I h) λus s1 ⟨vs,H1,I1,r1,q1⟩=>?_) hs rfl));obtain⟨j,e,j0,j1,q⟩:=q1;subst e;obtain⟨u,rfl,ru⟩:=gk r1;obtain⟨t,rfl⟩:=ru;refine call_range_1 ?_;refine qZ ?_;have I2:Inv X pins σ H1 {s1 with heap:=s1.heap.push {cls:=.type "range",data:=.fields #[.int 0 s1.toks,.int j t,.int 1 (s1.toks+1)]},toks:=s1.toks+1+1}:=I1.kept λb o e=>wf _ e
 refine call_list_range (n:=j.toNat) (I1.ok.hd hc) (uA ..) (small_one (by omega) (by omega) (by omega) (by omega)) (by rw[rangeSize_one];split<;>omega) (by omega) λh' tk acc c hk hD hI=>?_
 refine⟨.ref _,_,I2.laid (t':=tk) hk (wg _) ?_,rfl,q _ (I2.aG.fresh (wg _))⟩;refine⟨mV (by rw[jB,wU];omega),acc.toList,c,OF _ _ (by rw[jB,wU,wy,hI.1]) λi y u hy hu=>?_,by simpa using hD⟩;have hu':acc[i]? = some u:=by simpa using hu
 obtain⟨t',e'⟩:=hI.2 i u hu'
 have hi:i<j.toNat:=by
   have:=(Wq.mp hu').1;rw[hI.1]at this;exact this
 have hy':y=V.int (i:Int):=by
   unfold vz at hy;rw[wn,vk hi]at hy;exact(wF hy).symm
 subst hy';exact⟨t',by rw[e'];congr 1;omega⟩
theorem zps{ta:TA}{σ : St}{H:Hp}{Q:VK}(h:ta σ H λvs H1=>DJ vs H1 Q):OA ta σ H Q:=h
theorem Uz{n:Nat}{H:Hp}{Q:VK}(hn:n<=1000)(q:∀l H',H l=none->ah H H'->H' l=some (.lst (vz (wl n)))->Q (.ref l) H'):DJ [V.int (n:Int)] H Q :=
 ⟨_,rfl,by omega,by omega,λl hl=>q l _ hl (ah.upd hl) (by rw[wE];exact cF)⟩
theorem OO(w:Nat)(l:List Nat):sS (.int (w:Int)) (vz l)=decide (w∈l):=by
 unfold sS vz
 induction l with
 | nil=>rfl
 | cons x l ih =>
  rw[wM,qT,ih]
  show((x:Int) == (w:Int) || _)=_
  by_cases h:w=x
  ·subst h;simp
  ·have h':¬ (x:Int)=(w:Int):=λz=>h (by omega)
   simp[h,h']
theorem Jw(l:List Nat):(vz l).all jm=true:=by
 unfold vz;rw[Wd];intro y hy;obtain⟨w,_,rfl⟩:=wJ.mp hy
 rfl
section
variable{K:wb}{H H':Hp}{Q:VK}{v:V}{p:Addr}{l:List Nat}{w:Nat}
theorem Uk(h:aR K H p (vz l))(q:Q (.bl (!decide (w∈l))) H):j_ K true (.int (w:Int)) (.ref p) H Q:=⟨p,vz l,rfl,.inr h,rfl,Jw l,by rw[OO];exact q⟩
theorem Yy(h:aK K H p (vz l))(q:Q (.bl (decide (w∈l))) H):j_ K false (.int (w:Int)) (.ref p) H Q:=⟨p,vz l,rfl,.inl h,rfl,Jw l,by rw[OO];exact q⟩
def TW(l:List Nat):PyData:=TZ (l.map λ(w:Nat)=>(w:Int))
theorem By:Is K H v (TW l) ↔ ∃a,v=.ref a/\aR K H a (vz l):=by
 unfold TW vz;rw[nJ,Vn];exact Iff.rfl
theorem Cv(l:List Nat):cS (TW l)=true:=zAR _
def lg(ws:List (List Nat)):PyData:=.tuple (ws.map TW)
theorem rX:∀ws:List (List Nat),bY (ws.map TW)=true
 | []=>rfl
 | w::ws=>by rw[wM,bY,Cv,rX ws];rfl
theorem Sr(ws:List (List Nat)):cS (lg ws)=true:=by rw[lg,cS];exact rX ws
theorem Cc{i:Nat}{x:V}(h:(vz l)[i]? = some x):∃hi:i<l.length,x=.int ((l[i]:Nat):Int):=by
 have hi:i<l.length:=by
  rcases wt i l.length with z | z
  ·exact z
  ·rw[wA (by rw[jB];exact z)]at h;cases h
 refine⟨hi,?_⟩;unfold vz at h;rw[wn,wc hi]at h;exact(wF h).symm
def GD(a b:Rat)(xs:List Rat):PyData:=.tuple [N (1-bV xs),lg (ck a b xs),bD a b (cX a b xs)]
def nq(h:Rat)(ws:List (List Nat))(xs:List Rat):PyData:=.tuple [N h,lg ws,TN xs]
theorem Lp(h:Rat)(ws:List (List Nat))(xs:List Rat):cS (nq h ws xs)=true:=by rw[nq,cS,bY,bY,bY,bY,jU,Sr,tI];rfl
def oD(a b:Rat)(xs:List Rat)(k:Nat):PyData:=nq (aQ a b xs (k+1)) (ck a b (aj a b xs k)) (aj a b xs (k+1))
def fP(a b:Rat)(xs:List Rat)(n:Nat):List PyData:=(wl n).map (oD a b xs)
theorem zev{α : Type}(f : α -> PyData)(hf:∀x,cS (f x)=true):∀l:List α,bY (l.map f)=true
 | []=>rfl
 | x::l=>by rw[wM,bY,hf,zev f hf l];rfl
theorem ak.snoc{vs:List V}{ds:List PyData}{d:PyData}(h:ak K H vs ds)(k:Is K H v d):ak K H (vs++[v]) (ds++[d]):=h.append (.cons k .nil)
theorem oS{l:List Nat}{i:Nat}(h:i<l.length):l.take (i+1)=l.take i++[l[i]]:=by
 rw[qh,wc h];rfl
theorem SS{ds:List PyData}{d:PyData}{j:Nat}(h:Is K H v (.list ds))(e:ds[j]? = some d)(q:∀x,Is K H x d->Q x H):cQ K v (.int (j:Int)) H Q:=by
 obtain⟨a,xs,rfl,h,t⟩:=cB.mp h;obtain⟨x,e1,hx⟩:=t.get e;exact ie h (jT e1) (q x hx)
theorem Cp(h:Is K H v (TW l))(q:Q (.int (l.length:Int)) H):cN K [v] H Q:=DS h (by rw[we];exact q)
end
theorem AY(a b:Rat)(xs:List Rat)(n:Nat):(fP a b xs n).length=n:=by simp[fP]
theorem Pc{a b:Rat}{xs:List Rat}{n k:Nat}(h:k<n):(fP a b xs n)[k]? = some (oD a b xs k):=by
 unfold fP;rw[wn,vk h];rfl
theorem pk(a b:Rat)(xs:List Rat)(n:Nat):fP a b xs (n+1)=fP a b xs n++[oD a b xs n]:=by
 unfold fP;rw[qu,w8];rfl
theorem Zu(a b:Rat)(xs:List Rat)(n:Nat):bY (fP a b xs n)=true:=zev _ (λk=>Lp _ _ _) _
theorem Z2{ps:List Rat}{l:List Nat}{w:Nat}(h:¬ ps.getD w 0<1):aF ps (l++[w])=aF ps l++[w]:=by
 unfold aF;rw[Wz,Wt,decide_eq_false h];rfl
theorem Zi{ps:List Rat}{l:List Nat}{w:Nat}(h:ps.getD w 0<1):aF ps (l++[w])=aF ps l:=by
 unfold aF;rw[Wz,Wt,decide_eq_true h];exact vH _
theorem zvg{wave l:List Nat}{w:Nat}(h:¬ w∈wave):bK (l++[w]) wave=bK l wave++[w]:=by
 unfold bK;rw[Wz];simp[Wt,h]
theorem ztc{wave l:List Nat}{w:Nat}(h:w∈wave):bK (l++[w]) wave=bK l wave:=by
 unfold bK;rw[Wz];simp[Wt,h]
theorem AM(l:List Nat)(w:Nat):vz (l++[w])=vz l++[V.int (w:Int)]:=by unfold vz;rw[w8];rfl
theorem Y1{xs:List Rat}{j:Nat}(h:j<xs.length):(bA xs).getD j 0=xs.getD j 0+(1-bV xs):=by
 unfold bA;rw[wa,wn,wc h,wa,wc h];rfl
theorem Pp:∀ds:List PyData,(∀d∈ds,wN d d=true)->Wr ds ds=true
 | [],_=>by simp[Wr]
 | d::ds,h=>by rw[Wr,h d (wu ..),Pp ds λe he=>h e (wo _ he)];rfl
theorem tT{ds:List PyData}(h:∀d∈ds,wN d d=true):wN (.tuple ds) (.tuple ds)=true:=by rw[wN];exact Pp ds h
theorem md(x:Rat):wN (N x) (N x)=true:=by rw[pB];exact decide_eq_true rfl
theorem Kr(xs:List Rat):wN (TN xs) (TN xs)=true:=by rw[PR];exact decide_eq_true rfl
theorem ic{P:PyData->Prop}{a b:PyData}(ha:P a)(hb:P b):∀d∈[a,b],P d:=λd hd=>by
 simp only[wz,VP,or_false]at hd;rcases hd with rfl | rfl
 ·exact ha
 ·exact hb
def Sh(n:Nat)(d:PyData):Prop:=d.canLay0=true/\d.depth<=n
theorem BF{n:Nat} : ∀ds:List PyData,(∀d∈ds,Sh n d)->vQ ds=true/\Wj ds<=n
 | [],_=>by simp[vQ,Wj]
 | d::ds,h=>by
  have h1:=h d (wu ..);have h2:=BF ds λe he=>h e (wo _ he)
  rw[vQ,Wj,h1.1,h2.1];exact⟨rfl,by have:=h1.2;have:=h2.2;omega⟩
theorem mS{n:Nat}{ds:List PyData}(h:∀d∈ds,Sh n d):Sh (n+1) (.tuple ds):=by
 have:=BF ds h;unfold Sh;rw[vG,Vo];exact⟨this.1,by have:=this.2;omega⟩
theorem Jb{n:Nat}{ds:List PyData}(h:∀d∈ds,Sh n d):Sh (n+1) (.list ds):=by
 have:=BF ds h;unfold Sh;rw[vG,Vo];exact⟨this.1,by have:=this.2;omega⟩
theorem Sh.mono{m n:Nat}{d:PyData}(h:Sh m d)(e:m<=n):Sh n d:=⟨h.1,vA h.2 e⟩
theorem Sh.shaped{n:Nat}{d:PyData}(h:Sh n d)(e:n<=64):vC d=true:=by
 unfold vC;rw[h.1,qW];exact decide_eq_true (vA h.2 e)
theorem O2(i:Int):Sh 1 (.int i):=⟨by simp[vG],by simp[Vo]⟩
theorem jV(x:Rat):Sh 2 (N x):=mS (ic (O2 _) (O2 _))
theorem HX(xs:List Rat):Sh 3 (TN xs):=mS λd hd=>by
 obtain⟨x,_,rfl⟩:=wJ.mp hd;exact jV x
theorem uV{K:wb}{H:Hp}{Q:VK}{v w:V}{d:PyData}{n:Nat}(h:Is K H v d)(k:Is K H w d)(s:Sh n d)(e:n<=64)(r:wN d d=true)(q:Q (.bl false) H):gc K v w H Q:=Ec h k (s.shaped e) (s.shaped e) (by rw[r];exact q)
section
variable{K:wb}{H H':Hp}{Q:VK}{D:cc}{σ : St}{td ty tv:TE}{a:Addr}{kvs:List (Key × V)}{k:Int}{v:V}
end
theorem ME:∀{ts:List Int}{ys:List V},ys.length=ts.length->(∀(j:Nat)(y:V),ys[j]? = some y->y=V.int (ts.getD j 0))->ys=ts.map V.int
 | [],[],_,_=>rfl
 | [],_::_,h,_=>by simp at h
 | _::_,[],h,_=>by simp at h
 | t::ts,y::ys,h,e=>by
  rw[wM,e 0 y rfl,ME (ts:=ts) (ys:=ys) (by simpa using h) λj z hz=>e (j+1) z hz]
  rfl
theorem JI{n:Nat}(p:Nat->Bool)(i:Nat):(wl (i+1)).filter p=(wl i).filter p++(if p i then [i]else []):=by
 rw[qu,Wz];cases h:p i<;>simp[h]
def Ly(K:wb)(g:TG)(tt:TT)(te:TE)(src:List (Option Nat))(σ : St)(vs:List V)(H1:Hp)(Q:VK):Prop:=∃a,vs=[.ref a]/\(∃xs,aR K H1 a xs) /\
 ∀D,H1 D=none->jk g tt te (mL K a) D (dB src σ) (upd H1 D (.lst [])) (λH'=>Q (.ref D) H')
section
variable{K:wb}{ta:TA}{g:TG}{tt:TT}{te:TE}{σ : St}{H:Hp}{Q:VK}{a:Addr}{xs:List V}{src:List (Option Nat)}
theorem ZE(h:ta σ H λvs H1=>Ly K g tt te src σ vs H1 Q):jo src (Bu K ta) g tt te σ H Q:=h
theorem zqI(hx:aR K H a xs)(Pv:Addr->Nat->List V->St->Hp->Prop)(h0:∀D H',H D=none->ah H H'->H' D=some (.lst [])->Pv D 0 [] (dB src σ) H')(hl:∀D i ys σ' H',Pv D i ys σ' H'->aR K H' a xs)
   (hs:∀D i x ys σ' H1 c H2,xs[i]? = some x->Pv D i ys σ' H1->H1 c=none->ah H1 H2->H2 c=some (.tup [.int (i:Int),x])->gO Pv g tt te D i (.ref c) σ' H2) (hd:∀D ys σ' H',Pv D xs.length ys σ' H'->Q (.ref D) H'):Ly K g tt te src σ [.ref a] H Q:=by
 refine⟨a,rfl,⟨xs,hx⟩,λD hD=>⟨λi m σ' H'=>i+m=xs.length /\ ∃ys,Pv D i ys σ' H',⟨xs.length,by omega,[],h0 D _ hD (ah.upd hD) cF⟩,?_⟩⟩;rintro i m σ' H' ⟨him,ys,inv⟩;have hq:=hl _ _ _ _ _ inv
 by_cases hm:m=0
 . have e:i=xs.length:=by omega
   subst e;exact .inl ⟨⟨xs,hq,wg _⟩,hd _ _ _ _ inv⟩
 . have hi:i<xs.length:=by omega
   refine .inr ⟨⟨xs,xs[i],hq,by simp[hi]⟩,λσ2 H2=>∃ys,Pv D (i+1) ys σ2 H2,λσ2 H2 h=>⟨m-1,by omega,by omega,h⟩,?_⟩;rintro v H2 ⟨c,x,rfl,hn,hx',rfl⟩;exact hs D i x ys σ' H' c _ (hx' xs hq) inv hn (ah.upd hn) cF
end
def DR(K:wb):R2:=λx y H Q=>∃d ds,Is K H x d/\Is K H y (.tuple ds)/\Sh 60 d/\vG (.tuple ds)=true/\Q (.bl (ds.any λe=>wN e d)) H
theorem zA3{X:Cx}(hu:X.A.units+64<cLine):aN X (compareOp .In) (DR X.K):=by
 intro pins s σ H x y v u Q I rx ry h;obtain⟨d,ds,hd,he,sd,se,q⟩:=h;obtain⟨as,h1⟩:=I.reads d x v sd.1 hd rx;obtain⟨bs,h2⟩:=I.reads (.tuple ds) y u se he ry;have sd2:=sd.2;have hm:=Xi (Wj ds) d.depth;exact SeqAt.in_tuple_reads h2 h1 (by rw[vG]at se;exact se) sd.1 (by omega) ⟨.bl _,H,I,rfl,q⟩
theorem S0(xs:List Rat)(x:Rat):((xs.map N).any λe=>wN e (N x))=decide (x∈xs):=by
 induction xs with
 | nil=>rfl
 | cons y xs ih =>
  rw[wM,qT,ih,pB]
  by_cases h:x=y
  ·subst h;simp
  ·have h':¬ y=x:=λz=>h z.symm
   simp[h,h']
theorem zyo{K:wb}{H:Hp}{Q:VK}{v w:V}{xs:List Rat}{x:Rat}(h:Is K H v (N x))(k:Is K H w (TN xs))(q:Q (.bl (decide (x∈xs))) H):DR K v w H Q :=
 ⟨N x,xs.map N,h,k,(jV x).mono (by decide),by rw[vG];exact Dw xs,by rw[S0];exact q⟩
def jK(xs:List Rat)(v:Rat):PyData:=.tuple [N v,TW (fb xs v)]
theorem Ju(xs:List Rat)(v:Rat):cS (jK xs v)=true:=by rw[jK,cS,bY,bY,bY,jU,Cv];rfl
theorem Ye(xs:List Rat)(l:List Rat):bY (l.map (jK xs))=true:=zev _ (Ju xs) l
theorem zxX(ds:List PyData):wN (.list ds) (.list [])=ds.isEmpty:=by cases ds<;>simp[wN,Wr]
section
variable{K:wb}{H:Hp}{Q:VK}{v w:V}{ds:List PyData}{n:Nat}{l b:Addr}{xs zs:List V}
theorem zwZ(h:Is K H v (.list ds))(k:Is K H w (.list []))(s:Sh n (.list ds))(e:n<=64)(q:Q (.bl (!ds.isEmpty)) H):gc K v w H Q :=
 Ec h k (s.shaped e) ((Jb (n:=1) (ds:=[]) (by simp)).shaped (by decide)) (by rw[zxX];exact q)
theorem zwh(a b:Bool):wN (.bool a) (.bool b)=(a == b):=by rw[wN]
theorem Jv(b:Bool):Sh 1 (.bool b):=⟨by simp[vG],by simp[Vo]⟩
theorem PV{a b:Bool}(q:Q (.bl (a == b)) H):cz K (.bl a) (.bl b) H Q:=u9 (kc.mpr rfl) (kc.mpr rfl) ((Jv a).shaped (by decide)) ((Jv b).shaped (by decide)) (by rw[zwh];exact q)
theorem zAX{k:Int}(h:H l=some (.lst xs))(h0 : -1000<=k)(h1:k<=1000)(z:xs.length*k.toNat<=1000)(q:∀p H',H p=none->ah H H'->H' p=some (.lst (wQ k.toNat xs).flatten)->Q (.ref p) H'):pE (.ref l) (.int k) H Q :=
 ⟨l,k,xs,rfl,rfl,h,by omega,by omega,by have:=iJ z;omega,λp hp=>q p _ hp (ah.upd hp) cF⟩
theorem ak.HJ{d:PyData}(h:Is K H v d):∀n:Nat,ak K H (wQ n v) (wQ n d)
 | 0=>.nil
 | n+1=>.cons h (ak.HJ h n)
end
theorem my{K:wb}{H:Hp}{Q:VK}{v:V}{ds:List PyData}{d:PyData}(h:Is K H v (.list (ds++[d])))(q:∀x,Is K H x d->Q x H):cQ K v (.int (-1)) H Q:=by
 obtain⟨a,xs,rfl,hs,t⟩:=cB.mp h;have hl:=t.length;rw[wH,vJ]at hl;obtain⟨x,e1,hx⟩:=t.get (i:=ds.length) (d:=d) (by rw[wW (wg _),WS];rfl);exact ie hs (BJ (by rw[hl];exact e1)) (q x hx)
def Df(K:wb):List V->Hp->VK->Prop:=λxs H Q=>∃(p:Addr)(bs:List Bool),xs=[.ref p]/\aK K H p (bs.map V.bl)/\Q (.bl (bs.any id)) H
theorem Sj:bootBuiltins "any"=some (.builtin "any"):=by decide +kernel
theorem Ux(bs:List Bool):((wl bs.length).any λi=>(bs[i]?).getD true)=bs.any id:=by
 rw[vc,Xw,Xw]
 constructor
 ·rintro ⟨i,hi,h⟩
  rw[wx]at hi;rw[wc hi]at h;exact⟨bs[i],vd hi,h⟩
 ·rintro ⟨b,hb,h⟩
  obtain⟨i,hi,rfl⟩:=wK hb;exact⟨i,wx.mpr hi,by rw[wc hi];exact h⟩
open PyProof.V PySem.Calls in
theorem Y3{X:Cx}(hc:X.calm=true):aO X (.builtin "any") (Df X.K):=by
 intro pins s σ H xs us Q I r h;obtain⟨p,bs,rfl,hq,q⟩:=h;obtain⟨u,rfl,rx⟩:=gk r;cases rx;obtain⟨its,r',pl,hz⟩:=I.list hq;have hi:its=bs.map Value.bool:=KP r';have hl:s.heap.IsList p its.toArray:=pl.isList;have hlt:p<s.heap.objs.size:=by obtain⟨_,e,_⟩:=hl;exact wq e
 refine call_any_walk (wpAny_pyIter_list hl ?_)
 refine⟨s.heap.objs.size,[s.heap.objs.size,p],[s.heap.objs.size],its.toArray.size,_,_,λi=>(bs[i]?).getD true,rfl,XQ (A:=X.A.in1) (I.ok.hd hc) _ p (wD hlt) its.toArray,
  ⟨⟨_,wB _ rfl,rfl,rfl⟩,hl.push _⟩,λi v s' Q' E' hP hQ=>?_,λh' tk hk=>?_⟩
 ·have hP:its.toArray[i]? = some v:=hP
  rw[hi]at hP;simp only[Q2,wn,WN]at hP;obtain⟨b,e,rfl⟩:=hP;simp only[e,qo]at hQ;exact wpAny_truthy_bool hQ
 ·have e:((wl its.toArray.size).any λi=>(bs[i]?).getD true)=bs.any id:=by
   rw[wC,hi,we];exact Ux bs
  rw[e];exact⟨.bl (bs.any id),H,I.kept (t':=tk) (λb x e=>hk b x (λhm=>by rw[wO.mp hm]at e;exact WE _ (wq e)) (wf _ e)),rfl,q⟩
theorem Ts{K:wb}{H:Hp}{Q:VK}{p:Addr}{bs:List Bool}(h:aK K H p (bs.map V.bl))(q:Q (.bl (bs.any id)) H):Df K [.ref p] H Q:=⟨p,bs,rfl,h,q⟩
def Ca(K:wb):List V->Hp->VK->Prop:=λxs H Q=>∃(p:Addr)(ns:List Int),xs=[.ref p]/\aK K H p (ns.map V.int)/\Q (.int ns.sum) H
section
open PyProof.V PySem.Calls PySem.W
variable{prog:Program}{w:World}{A:Around}{E:Value->Shared->Prop}{s:Shared}
theorem zye{t:Addr}{xs:Array (Int × Tok)}{Q:Value->Shared->Prop}(hh:A.handled=none)(ht:s.heap.IsList t (intItems xs))
   (h:∀h' tk t',(∀b o,s.heap.get? b=some o->h'.get? b=some o)->Q (.int (preSum (numAt xs) xs.size) t') {s with heap:=h',toks:=tk}) :
   wpAny (model prog w) A (call (.builtin "sum") [.ref t]) Q E s:=by
 obtain⟨o,ho,hc,n,hd⟩:=id ht;have hne:t≠s.heap.objs.size:=wD (wq ho);have hsz:(intItems xs).size=xs.size:=by simp[intItems]
 have W:=(XQ (prog:=prog) (w:=w) (A:=A.in1) hh s.heap.objs.size t hne (intItems xs)).toS;rw[hsz]at W;refine call_sum_walkAnyS (wpAny_pyIter_list ht ?_);refine⟨s.heap.objs.size,_,_,_,_,_,_,numAt xs,rfl,W,⟨⟨_,wB _ rfl,rfl,rfl⟩,ht.at λo e=>wf _ e⟩,λb hb=>?_,λi v hP=>intItems_at hP,λs' t' hm=>?_⟩
 . rcases wz.mp hb with rfl | hb
   . exact wq (wB _ rfl)
   . obtain rfl:=wO.mp hb
     exact wq (wf _ ho)
 . obtain⟨h',g',d',tk',os'⟩:=s'
   have e1:g'=s.gens:=hm.gens;have e2:d'=s.drawn:=hm.drawn;have e3:os'=s.os:=hm.os;subst e1 e2 e3;exact h h' tk' t' λb o e=>hm.heap b o (λhb=>absurd (wq e) ((wO.mp hb) ▸ WE _)) (wf _ e)
theorem zsM{X:Cx}(hc:X.calm=true):aO X (.builtin "sum") (Ca X.K):=by
 intro pins s σ H xs us Q I r h;obtain⟨p,ns,rfl,hq,q⟩:=h;obtain⟨u,rfl,rx⟩:=gk r;cases rx;obtain⟨its,r',pl,hz⟩:=I.list hq;have hI:=yJ r';have hT:s.heap.IsList p its.toArray:=pl.isList;obtain⟨zs,hx⟩:=hI.allInts.items;have hn:numsOf its.toArray.toList=ns:=by rw[show its.toArray.toList=its from rfl,hI.numsOf]
 rw[hx]at hT hn;rw[nums_intItems]at hn;refine zye (I.ok.hd hc) hT λh' tk t' hk=>?_
 rw[preSum_eq,Wm (by simp),hn];exact⟨.int ns.sum,H,I.kept (t':=tk) hk,⟨_,rfl⟩,q⟩
end
theorem zyd{K:wb}{H:Hp}{Q:VK}{p:Addr}{ns:List Int}(h:aK K H p (ns.map V.int))(q:Q (.int ns.sum) H):Ca K [.ref p] H Q:=⟨p,ns,rfl,h,q⟩
abbrev Rf(h:Heap)(a:Addr):Heap:=h.push {cls:=.type "tuple_iterator",data:=.fields #[.ref a,.int 0 0]}
abbrev KG(h:Heap)(a b:Addr):Heap:=(Rf h a).push {cls:=.type "list_iterator",data:=.fields #[.ref b,.int 0 0]}
abbrev Pg(h:Heap)(a b:Addr):Heap:=(KG h a b).push {cls:=.type "tuple",data:=.seq #[.ref h.objs.size,.ref (Rf h a).objs.size]}
abbrev zM4(h:Heap)(a b:Addr):Heap:=(Pg h a b).push {cls:=.type "tuple",data:=.seq #[.none,.none]}
abbrev zM5(h:Heap)(a b:Addr):Heap:=(zM4 h a b).push {cls:=.type "zip",data:=.fields #[.none,.bool false,.bool false,.ref (KG h a b).objs.size,.ref (Pg h a b).objs.size]}
section
variable{prog:Program}{w:World}{A:Around}{E:Value->Shared->Prop}{s:Shared}
end
theorem zu3{K:wb}{H:Hp}{Q:VK}{v:V}{ds:List PyData}(h:Is K H v (.list ds)\/Is K H v (.tuple ds))(q:∀l H' ys,H l=none->ah H H'->H' l=some (.lst ys)->ak K H' ys ds->Q (.ref l) H'):j6 K [v] H Q:=by
 rcases h with h | h
 ·exact Z8 h q
 ·exact yo h q
def Ij(K:wb)(G:Value)(tb:(St->XK)->TS)(th:TS):TS:=λD σ H=>∃W:St->XK,tb W D σ H /\ ∀σ' C o H',W σ' C o H'->VL K C G=some true/\th D σ' H'
section
variable{X:Cx}{x:Str}{G:Value}{b₀ : Stmt}{body suite:List Stmt}{np hpos pos:Pos}{tb:(St->XK)->TS}{th:TS}
theorem zyH(hs:X.stack=X.env::X.outer)(hf:X.env.frame=some X.env.locals)(hg:Gl X x)(hG:X.mg x=some G)
   (hb:∀(W:St->XK)(pn:List (Addr × Obj))(E':Value->Shared->Prop),MC (eJ X.prog X.w) (X.at pn E') W->eW (X.at pn E') body (tb W))
   (hh:∀(pn:List (Addr × Obj))(ex:Addr)(oe:Obj),eW (X.rn pn ex oe) (b₀ :: suite) th) (hdb:(x == ("__debug__" : Str))=false:=by decide) :
   PS X (.Try body [.ExceptHandler (some (.Name x np)) none (b₀ :: suite) hpos] [] [] pos) (Ij X.K G tb th):=by
 intro pins s σ H D I h;obtain⟨W,hB,hH⟩:=h;refine wpAny_Try_except ?_;have I':=I.R5 λe s1=>∃σ1 H1 s0,Inv X pins σ1 H1 s0/\eJ X.prog X.w X.stack H1 s0 (W σ1) e s1
 have key:=hb W (X.pn++pins) (λe s1=>∃σ1 H1 s0,Inv X pins σ1 H1 s0/\eJ X.prog X.w X.stack H1 s0 (W σ1) e s1) (λpins1 σ1 H1 s0 e s1 I1 q=>⟨σ1,H1,s0,I1.nI,q⟩) [] s σ H D I' hB;refine wpAny_mono key (λf s1 hq=>?_) λe s1 he=>?_
 . cases f with
   | next=>obtain⟨σ',H',J,q⟩:=hq;exact wpAny_execs_nil ⟨σ',H',J.nI,q⟩
   | brk=>obtain⟨σ',H',J,q⟩:=hq;exact⟨σ',H',J.nI,q⟩
   | cont=>obtain⟨σ',H',J,q⟩:=hq;exact⟨σ',H',J.nI,q⟩
   | ret u=>obtain⟨v,σ',H',J,r,q⟩:=hq;exact⟨v,σ',H',J.nI,r,q⟩
 obtain⟨σ1,H1,s0,I1,ex,C,H',B,rfl,os,bare,un,aG,F,ov,q⟩:=he;obtain⟨hm,hS⟩:=hH σ1 C none H' q;have hfs:∀b∈dy X.stack,H1 b=none /\ ∃o,s0.heap.get? b=some o /\ ∀vs,o.data≠.fields vs:=λb hb=>⟨I1.rf b hb,(I1.stack.mem hb).2⟩
 have hfr:=I.ok.frames.trans (congrArg some hs)
 have hex:H' ex=none:=by
   obtain⟨_,_,_,_,_,_,_,_,_,_,_,_,_,be,_⟩:=F;cases z:H' ex with
   | none=>rfl
   | some o =>
     obtain⟨u,e1⟩:=ov.ig ex o z;rw[be]at e1;cases e1
 have st1:=F.st;rw[hs]at F
 have exc:∀{h4:Heap},eQ B (X.env::X.outer) ex C .none h4->s1.heap.UpToSlots h4->∃oe,h4.get? ex=some oe/\BR C oe/\Inv (X.rn (X.pn++pins) ex oe) [] σ1 H' {s1 with heap:=h4}:=λ{h4} F4 sm=>by
   have J:Inv X pins σ1 H' {s1 with heap:=h4}:=I1.HB (s':={s1 with heap:=h4}) (ch:=[]) os (ov.un un hfs F4.st sm) (ov.aG aG st1 F4.st) bare (λ_ z=>nomatch z);obtain⟨_,_,oe,vs,T,oT,ts,he,hc,hd,h1,h2,hdi,_⟩:=F4;refine⟨oe,he,⟨hc,⟨vs,hd,h2⟩,hdi⟩,J.R4 he hex (λz=>?_) (λz=>?_) λv z=>?_⟩
   . obtain⟨m,⟨o,es,ep,ho,hdd,_⟩,_⟩:=J.loc
     rw[<- z]at ho;have:(some oe:Option Obj)=some o:=he.symm.trans ho;cases this;rw[hd]at hdd;cases hdd
   . obtain⟨_,o,ho,nr⟩:=J.eG.mem z
     have:(some oe:Option Obj)=some o:=he.symm.trans ho;cases this;exact nr vs hd
   . rw[hd]at z;cases z
 refine F.note hfr hf λh2 F2 sm2=>F2.land λh3 F3 sm3=>?_
 obtain⟨oe3,g3,x3,K3⟩:=exc F3 (sm2.trans sm3);refine wpAny_handleBy_cons (codeAny_handlers_test (og K3 hg hG ?_ hdb)) (by intro z;cases z);have LT:PySem.W.Looks (model X.prog X.w) h3 (typeOf (.ref ex)) C:=x3.cls ▸ (uE g3).andThen .now;refine(PySem.W.exm_one (h:=h3) K3.dk LT hm).here ?_;refine codeAny_handlers_suite ?_;refine F3.land λh4 F4 sm4=>?_
 obtain⟨oe,g4,x4,K4⟩:=exc F4 ((sm2.trans sm3).trans sm4);refine wpAny_mono (hh _ ex oe [] _ _ H' _ K4 hS) (λf s6 h6=>?_) λ_ _ z=>z.elim
 cases f with
 | next=>obtain⟨σ',H6,J,q6⟩:=h6;exact⟨_,H6,J.rm I.ok,q6⟩
 | brk=>obtain⟨σ',H6,J,q6⟩:=h6;exact⟨_,H6,J.rm I.ok,q6⟩
 | cont=>obtain⟨σ',H6,J,q6⟩:=h6;exact⟨_,H6,J.rm I.ok,q6⟩
 | ret u=>obtain⟨v,σ',H6,J,r,q6⟩:=h6;exact⟨v,_,H6,J.rm I.ok,r,q6⟩
end
theorem zyT{K:wb}{σ : St}{H:Hp}{D:cc}{G:Value}{tb:(St->XK)->TS}{th:TS}(W:St->XK)(h:tb W D σ H)(k:∀σ' C o H',W σ' C o H'->VL K C G=some true/\th D σ' H'):Ij K G tb th D σ H:=⟨W,h,k⟩
theorem gx{K:wb}{H:Hp}{Q:VK}(s t:String)(r:Bool)(e:wN (.str (vj s)) (.str (vj t))=r)(q:Q (.bl r) H):cz K (.str (vj s)) (.str (vj t)) H Q :=
 u9 (d:=.str (vj s)) (e:=.str (vj t)) (iR.mpr rfl) (iR.mpr rfl) (K9 s) (K9 t) (by rw[e];exact q)
theorem NV:bootBuiltins "set"=some (.type "set"):=by decide +kernel
section
variable{K:wb}{H:Hp}{Q:VK}{p:Addr}{ns:List Int}
end
abbrev Od(h:Heap)(a:Addr):Heap:=h.push {cls:=.type "list_iterator",data:=.fields #[.ref a,.int 0 0]}
abbrev Js(h:Heap)(a b:Addr):Heap:=(Od h a).push {cls:=.type "tuple_iterator",data:=.fields #[.ref b,.int 0 0]}
abbrev HY(h:Heap)(a b:Addr):Heap:=(Js h a b).push {cls:=.type "tuple",data:=.seq #[.ref h.objs.size,.ref (Od h a).objs.size]}
abbrev zN4(h:Heap)(a b:Addr):Heap:=(HY h a b).push {cls:=.type "tuple",data:=.seq #[.none,.none]}
abbrev zN5(h:Heap)(a b:Addr):Heap:=(zN4 h a b).push {cls:=.type "zip",data:=.fields #[.none,.bool false,.bool false,.ref (Js h a b).objs.size,.ref (HY h a b).objs.size]}
section
variable{prog:Program}{w:World}{A:Around}{E:Value->Shared->Prop}{s:Shared}
end
end L2
namespace TB
open PySem
def jt(xs:Array Nat):Prop:=∀i j,i<j->j<xs.size->xs.getD i 0<xs.getD j 0
theorem Tj{xs:Array Nat}{i:Nat}(h:i<xs.size)(d e:Nat):xs.getD i d=xs.getD i e:=by
 simp[XR,h]
theorem DO(xs:Array Nat)(j:Nat)(R:jt xs):∀(fuel lo hi:Nat),hi<=xs.size->lo<=hi->hi-lo<=fuel->(∀k,k<lo->xs.getD k 0<j)->(∀k,hi<=k->k<xs.size->j<=xs.getD k 0) ->
   (qi xs j fuel lo hi<=xs.size/\(∀k,k<qi xs j fuel lo hi->xs.getD k 0<j)/\(∀k,qi xs j fuel lo hi<=k->k<xs.size->j<=xs.getD k 0))
 | 0,lo,hi,h1,h2,h3,a,b=>by
   have:lo=hi:=by omega
   subst this;exact⟨h1,a,b⟩
 | fuel+1,lo,hi,h1,h2,h3,a,b=>by
   unfold qi
   by_cases c:lo<hi
   . rw[if_pos c]
     have m1:(lo+hi) / 2<hi:=by omega
     have m2:lo<=(lo+hi) / 2:=by omega
     dsimp only;rw[Tj (wG m1 h1) j 0]
     by_cases d:xs.getD ((lo+hi) / 2) 0<j
     . rw[if_pos d]
       refine DO xs j R fuel _ hi h1 m1 (by omega) (λk hk=>?_) b;rcases wt k ((lo+hi) / 2)with q | q
       . exact xz (R k _ q (by omega)) d
       . have:k=(lo+hi) / 2:=by omega
         rw[this];exact d
     . rw[if_neg d]
       refine DO xs j R fuel lo _ (by omega) m2 (by omega) a (λk hk hk'=>?_);rcases WA hk with q | q
       . rw[<- q];omega
       . have:=R _ k q hk';omega
   . rw[if_neg c]
     have:lo=hi:=by omega
     subst this;exact⟨h1,a,b⟩
theorem PD{xs:Array Nat}(R:jt xs)(j:Nat):vY xs j<=xs.size/\(∀k,k<vY xs j->xs.getD k 0<j)/\(∀k,vY xs j<=k->k<xs.size->j<=xs.getD k 0) :=
 DO xs j R xs.size 0 xs.size (wg _) (vV _) (by omega) (λk h=>absurd h (Wa k)) (λk h h'=>absurd h' (by omega))
theorem ZH{xs:Array Nat}{i:Nat}(h:i<xs.size):xs[i]? = some (xs.getD i 0):=by simp[XR,h]
theorem Mx{t:SetTable}(R:jt t.place)(D:t.dummies = #[])(j:Nat) :
   (∃i,i<t.place.size/\t.place.getD i 0=j/\t.slot j=.live i)\/((∀i,i<t.place.size->t.place.getD i 0≠j)/\t.slot j=.empty):=by
 obtain⟨h1,h2,h3⟩:=PD R j;unfold SetTable.slot;dsimp only;have hd:xG t.dummies j=false:=by rw[D];rfl
 rw[hd];rcases wt (vY t.place j) t.place.size with q | q
 . rw[ZH q]
   by_cases e:t.place.getD (vY t.place j) 0=j
   . exact .inl ⟨_,q,e,by simp[e]⟩
   . refine .inr ⟨λi hi he=>?_,by generalize t.place.getD (vY t.place j) 0=z at e;simp[e]⟩
     rcases wt i (vY t.place j)with a | a
     . have:=h2 i a;omega
     . rcases WA a with b | b
       . rw[<- b]at he;exact e he
       . have:=R _ i b hi
         have:=h3 _ (wg _) q;omega
 . have:t.place[vY t.place j]? = none:=WP q
   rw[this];refine .inr ⟨λi hi he=>?_,by simp⟩;have:=h2 i (by omega);omega
def g(x:Nat):Nat:=x*5+1
def it(n x:Nat):Nat:=match n with | 0=>x | n+1=>g (it n x)
def s:Nat->Nat | 0=>0 | n+1=>5*s n+1
theorem Rn(n:Nat):5^n=4*s n+1:=by
 induction n with
 | zero=>rfl
 | succ n ih=>rw[Wk,ih];show _=4*(5*s n+1)+1;omega
theorem zCd(n x:Nat):it n x=5^n*x+s n:=by
 induction n with
 | zero=>show x=5^0*x+0;simp
 | succ n ih =>
  show g (it n x)=5^(n+1)*x+(5*s n+1)
  rw[ih,Wk];unfold g;rw[Ws,xX (5^n) 5 x];omega
theorem zBd(m n x:Nat):it (m+n) x=it m (it n x):=by
 induction m with
 | zero=>rw[Nat.zero_add];rfl
 | succ m ih=>rw[Nat.succ_add];show g (it (m+n) x)=g (it m (it n x));rw[ih]
theorem zCa(m n:Nat):s (m+n)=5^m*s n+s m:=by
 induction m with
 | zero=>simp[s]
 | succ m ih =>
  rw[Nat.succ_add]
  show 5*s (m+n)+1=5^(m+1)*s n+(5*s m+1)
  rw[ih,Wk,Ws,xX (5^m) 5];omega
theorem zBY(k:Nat):∃o,s (2^k)=2^k*(2*o+1):=by
 induction k with
 | zero=>exact⟨0,rfl⟩
 | succ k ih =>
  obtain⟨o,ho⟩:=ih
  have e:s (2^(k+1))=2^(k+1)*((2*o+1)*(2*s (2^k)+1)):=by
   have:2^(k+1)=2^k+2^k:=by rw[Wk];omega
   rw[this,zCa,Rn];generalize hs:s (2^k)=S at *
   have h2:(2^k+2^k)*((2*o+1)*(2*S+1))=2*(2^k*(2*o+1))*(2*S+1):=by
    rw[<- Nat.two_mul,<- Ws,Ws 2]
   rw[h2,<- ho];generalize S*S=z at *;have:(4*S+1)*S=4*(S*S)+S:=by rw[Xe,Ws,Xf]
   rw[this]
   have:2*S*(2*S+1)=4*(S*S)+2*S:=by
    rw[qL,Nat.mul_one,Nat.mul_mul_mul_comm]
   rw[this];omega
  refine⟨o*(2*s (2^k)+1)+s (2^k),?_⟩;rw[e]
  congr 1
  rw[Xe,Xf,Ws];omega
theorem zB7(M c a:Nat):(4*(M*c)+1)*a+M*c=a+M*(c*(4*a+1)):=by
 rw[Xe,Xf,qL c,Nat.mul_one,qL M];have:4*(M*c)*a=M*(c*(4*a)):=by rw[VF 4,Ws,Ws]
 omega
theorem Zy(k:Nat):∀x y:Nat,∃n,n<2^k/\it n x % 2^k=y % 2^k:=by
 induction k with
 | zero=>intro x y;exact⟨0,by decide,by simp[Nat.mod_one]⟩
 | succ k ih =>
  intro x y;obtain⟨n,hn,e⟩:=ih x y;have hp:0<2^k:=Nat.pow_pos (by decide);have h2:2^(k+1)=2^k*2:=Wk ..;obtain⟨o,ho⟩:=zBY k;generalize hM:2^k=M at *;rw[h2]
  by_cases c:it n x / M % 2=y / M % 2
  ·refine⟨n,by omega,?_⟩
   rw[QU,QU,e,c]
  ·refine⟨M+n,by omega,?_⟩
   rw[zBd,zCd,Rn,ho];generalize it n x=a at *;rw[zB7,QU,QU,Nat.add_mul_mod_self_left,e,Nat.add_mul_div_left _ _ hp]
   have:(2*o+1)*(4*a+1) % 2=1:=by
    rw[Xg];have h1:(2*o+1) % 2=1:=by omega
    have h2:(4*a+1) % 2=1:=by omega
    rw[h1,h2]
   congr 2
   omega
open SetTable (Probe leap runEnd bits turns)
def gL(mask:Nat)(p:Probe):Probe :=
 if p.more > 0 then {p with j:=p.j+1,more:=p.more-1}else
 {p with j:=(leap mask p.i p.perturb).1,more:=runEnd mask (leap mask p.i p.perturb).1-(leap mask p.i p.perturb).1,i:=(leap mask p.i p.perturb).1,perturb:=(leap mask p.i p.perturb).2}
def way(mask:Nat)(p:Probe):Nat->Probe | 0=>p | n+1=>gL mask (way mask p n)
def gJ(mask i b:Nat):Probe:={j:=i,more:=runEnd mask i-i,i:=i,perturb:=b,dummy:=none}
def start(mask:Nat)(h:Int):Probe:=gJ mask (bits h % (mask+1)) (bits h)
def lp(mask i b:Nat):Nat->Nat × Nat | 0=>(i,b) | n+1=>leap mask (lp mask i b n).1 (lp mask i b n).2
theorem rK(mask:Nat)(p:Probe)(m:Nat):∀n,way mask p (m+n)=way mask (way mask p m) n
 | 0=>rfl
 | n+1=>by show gL mask (way mask p (m+n))=gL mask (way mask (way mask p m) n);rw[rK mask p m n]
theorem Im(mask:Nat)(p:Probe):∀n,(way mask p n).dummy=p.dummy
 | 0=>rfl
 | n+1=>by
  show(gL mask (way mask p n)).dummy=p.dummy
  rw[<- Im mask p n];unfold gL;split<;>rfl
theorem nY(mask i b:Nat):∀n,n<=runEnd mask i-i->way mask (gJ mask i b) n = {j:=i+n,more:=runEnd mask i-i-n,i:=i,perturb:=b,dummy:=none}
 | 0,_=>rfl
 | n+1,h=>by
  show gL mask (way mask (gJ mask i b) n)=_
  rw[nY mask i b n (by omega)];unfold gL;dsimp only;rw[if_pos (by omega)]
  congr 1
theorem DK(mask i b:Nat):way mask (gJ mask i b) (runEnd mask i-i+1)=gJ mask (leap mask i b).1 (leap mask i b).2:=by
 show gL mask (way mask (gJ mask i b) (runEnd mask i-i))=_
 rw[nY mask i b _ (wg _)];unfold gL;dsimp only;rw[if_neg (by omega)]
 rfl
theorem zBm(mask i:Nat):runEnd mask i-i<=9:=by unfold runEnd;split<;>omega
theorem Mb(mask i b:Nat):∀m,∃n,n<=10*m/\way mask (gJ mask i b) n=gJ mask (lp mask i b m).1 (lp mask i b m).2
 | 0=>⟨0,wg _,rfl⟩
 | m+1=>by
  obtain⟨n,hn,e⟩:=Mb mask i b m;have:=zBm mask (lp mask i b m).1;refine⟨n+(runEnd mask (lp mask i b m).1-(lp mask i b m).1+1),by omega,?_⟩;rw[rK,e,DK];rfl
theorem JY(mask i b:Nat):∀n,(lp mask i b n).2=b / 32^n
 | 0=>by simp[lp]
 | n+1=>by
  show(lp mask i b n).2 / 32=_
  rw[JY mask i b n,Wk,QV]
theorem NJ(mask i b c:Nat)(h:b / 32^c=0):∀n,(lp mask i b (c+1+n)).1=it n (lp mask i b (c+1)).1 % (mask+1)
 | 0=>by
  show(lp mask i b (c+1)).1=(lp mask i b (c+1)).1 % (mask+1)
  show _ % _=_ % _ % _
  rw[Nat.mod_mod]
 | n+1=>by
  show((lp mask i b (c+1+n)).1*5+1+(lp mask i b (c+1+n)).2 / 32) % (mask+1)=g (it n _) % _
  have:(lp mask i b (c+1+n)).2 / 32=0:=by
   rw[JY]
   have:b / 32^(c+1+n)=0:=by
    rw[W0,qK,<- QV,h,Nat.zero_div]
   rw[this]
  rw[this,NJ mask i b c h n];unfold g;rw[xB,Nat.add_mod,Xg,Nat.mod_mod,<- Xg,<- Nat.add_mod]
theorem IE(h:Int):bits h<2^64:=by unfold bits;omega
theorem Nb{mask k:Nat}(hm:mask+1=2^k){i b:Nat}(hb:b<2^64){j:Nat}(hj:j<=mask):∃m,m<=mask+14/\(lp mask i b m).1=j:=by
 have h0:b / 32^13=0:=Nat.div_eq_of_lt (wG hb (by decide));obtain⟨n,hn,e⟩:=Zy k (lp mask i b 14).1 j;refine⟨13+1+n,by omega,?_⟩;rw[NJ mask i b 13 h0,hm,e,Qn (by omega)]
theorem zuJ{mask k:Nat}(hm:mask+1=2^k){i b:Nat}(hb:b<2^64){j:Nat}(hj:j<=mask):∃n,n<10*turns mask/\(way mask (gJ mask i b) n).j=j:=by
 obtain⟨m,hm',e⟩:=Nb hm (i:=i) hb hj;obtain⟨n,hn,e'⟩:=Mb mask i b m;refine⟨n,by unfold turns;omega,?_⟩;rw[e'];exact e
theorem A9{mask i:Nat}(h:i<=mask):i<=runEnd mask i/\runEnd mask i<=mask:=by unfold runEnd;split<;>omega
theorem LD{mask:Nat}{p:Probe}(h:p.j+p.more<=mask):∀n,(way mask p n).j+(way mask p n).more<=mask
 | 0=>h
 | n+1=>by
  have ih:=LD h n
  show(gL mask (way mask p n)).j+(gL mask (way mask p n)).more<=mask
  unfold gL
  split
  ·dsimp only;omega
  ·dsimp only
   have:(leap mask (way mask p n).i (way mask p n).perturb).1<=mask:=by
    unfold leap;dsimp only;exact Va (qb _ (qt _))
   have:=A9 this;omega
theorem zwd(mask:Nat)(h:Int)(n:Nat):(way mask (start mask h) n).j<=mask:=by
 have h1:bits h % (mask+1)<=mask:=Va (qb _ (qt _));have h2:=A9 h1;have:=LD (mask:=mask) (p:=start mask h) (by unfold start gJ;dsimp only;omega) n;omega
def In(t:SetTable)(j:Nat):Prop:=∃i,i<t.place.size/\t.place.getD i 0=j
structure Tb(t:SetTable)(hs:List Int):Prop where
 iW:jt t.place
 size:t.place.size=hs.length
 m4:t.dummies = #[]
 two:∃k,3<=k/\t.mask+1=2^k
 le:∀i,i<t.place.size->t.place.getD i 0<=t.mask
 room:t.place.size<=t.mask
 path:∀i,i<t.place.size->∃n,(way t.mask (start t.mask (hs.getD i 0)) n).j=t.place.getD i 0 /\ ∀m,m<n->In t (way t.mask (start t.mask (hs.getD i 0)) m).j
theorem zB3{P:Nat->Prop}{n:Nat}(h:P n):∃m,m<=n/\P m /\ ∀k,k<m->¬ P k:=by
 induction n using Nat.strongRecOn with
 | _ n ih =>
  by_cases c:∃k,k<n/\P k
  ·obtain⟨k,hk,hp⟩:=c
   obtain⟨m,h1,h2,h3⟩:=ih k hk hp;exact⟨m,by omega,h2,h3⟩
  ·exact⟨n,wg _,h,λk hk hp=>c ⟨k,hk,hp⟩⟩
theorem Ai{xs:Array Nat}(R:jt xs){i j:Nat}(hi:i<xs.size)(hj:j<xs.size)(e:xs.getD i 0=xs.getD j 0):i=j:=by
 rcases W7 i j with q | q | q
 ·have:=R i j q hj;omega
 ·exact q
 ·have:=R j i q hi;omega
theorem NH{t:SetTable}(R:jt t.place):∀j,(∀j',j'<=j->In t j')->∃i,i<t.place.size/\t.place.getD i 0=j/\j<=i
 | 0,h=>by obtain⟨i,hi,e⟩:=h 0 (wg _);exact⟨i,hi,e,vV _⟩
 | j+1,h=>by
  obtain⟨i,hi,e,hle⟩:=NH R j λj' hj'=>h j' (by omega)
  obtain⟨i',hi',e'⟩:=h (j+1) (wg _);refine⟨i',hi',e',?_⟩;rcases W7 i i' with q | q | q
  ·omega
  ·subst q;omega
  ·have:=R i' i q hi;omega
theorem Tb.gap{t:SetTable}{hs:List Int}(b:Tb t hs):∃j,j<=t.mask /\ ¬ In t j:=by
 refine Ve λc=>?_
 obtain⟨i,hi,e,hle⟩:=NH b.iW t.place.size λj' hj'=>Ve λd=>c ⟨j',vA hj' b.room,d⟩
 omega
theorem Tb.free{t:SetTable}{hs:List Int}(b:Tb t hs)(h:Int):∃n,n<10*turns t.mask /\ ¬ In t (way t.mask (start t.mask h) n).j /\ ∀m,m<n->In t (way t.mask (start t.mask h) m).j:=by
 obtain⟨j,hj,hn⟩:=b.gap;obtain⟨k,_,hk⟩:=b.two;obtain⟨n,hn',e⟩:=zuJ hk (i:=bits h % (t.mask+1)) (IE h) hj;obtain⟨m,h1,h2,h3⟩:=zB3 (P:=λn=>¬ In t (way t.mask (start t.mask h) n).j) (n:=n) (by show ¬ In t _;unfold start;rw[e];exact hn);exact⟨m,by omega,h2,λk hk=>Ve (h3 k hk)⟩
theorem IH{t:SetTable}(R:jt t.place)(D:t.dummies = #[])(hashAt:Nat->Int)(h:Int){p:Probe}(dm:p.dummy=none){n0:Nat}(hE:¬ In t (way t.mask p n0).j)(hF:∀m,m<n0->In t (way t.mask p m).j) :
   ∀fuel n,n<=n0->n0-n<fuel ->
     (∃m i,n<=m/\m<n0/\i<t.place.size/\t.place.getD i 0=(way t.mask p m).j/\hashAt i=h/\(∀k,n<=k->k<m->∀i',i'<t.place.size->t.place.getD i' 0=(way t.mask p k).j->hashAt i'≠h) /\
       Qc t hashAt h fuel (way t.mask p n)=some (.candidate (way t.mask p m).j i (way t.mask p (m+1)))) \/
     ((∀k,n<=k->k<n0->∀i',i'<t.place.size->t.place.getD i' 0=(way t.mask p k).j->hashAt i'≠h) /\
       Qc t hashAt h fuel (way t.mask p n)=some (.empty (way t.mask p n0).j none))
 | 0,n,_,hf=>absurd hf (Wa _)
 | fuel+1,n,hn,hf=>by
   unfold Qc;rcases Mx R D (way t.mask p n).j with⟨i,hi,e,es⟩ | ⟨no,es⟩
   . rw[es]
     dsimp only
     have hlt:n<n0:=by
       rcases wt n n0 with q | q
       . exact q
       . have:n=n0:=by omega
         subst this;exact absurd ⟨i,hi,e⟩ hE
     by_cases c:hashAt i=h
     . rw[if_pos (by simpa using c)]
       exact .inl ⟨n,i,wg _,hlt,hi,e,c,λk h1 h2=>absurd h1 (by omega),rfl⟩
     . rw[if_neg (by simpa using c)]
       have here:∀i',i'<t.place.size->t.place.getD i' 0=(way t.mask p n).j->hashAt i'≠h:=λi' hi' e'=>by
         rw[Ai R hi' hi (e'.trans e.symm)];exact c
       rcases IH R D hashAt h dm hE hF fuel (n+1) hlt (by omega)with⟨m,i2,a1,a2,a3,a4,a5,a6,a7⟩ | ⟨a1,a2⟩
       . refine .inl ⟨m,i2,by omega,a2,a3,a4,a5,λk h1 h2 i' hi' e'=>?_,a7⟩
         rcases WA h1 with q | q
         . subst q;exact here i' hi' e'
         . exact a6 k q h2 i' hi' e'
       . refine .inr ⟨λk h1 h2 i' hi' e'=>?_,a2⟩
         rcases WA h1 with q | q
         . subst q;exact here i' hi' e'
         . exact a1 k q h2 i' hi' e'
   . rw[es]
     dsimp only
     have:n=n0:=by
       rcases wt n n0 with q | q
       . obtain⟨i,hi,e⟩:=hF n q
         exact absurd e (no i hi)
       . omega
     subst this;refine .inr ⟨λk h1 h2=>absurd h1 (by omega),?_⟩;rw[Im,dm]
def dY{α : Type}(l:List α)(p:Nat)(x : α):List α:=l.take p++x::l.drop p
theorem zq{α : Type}{l:List α}{p:Nat}(x : α)(hp:p<=l.length)(i:Nat):(dY l p x)[i]? = if i<p then l[i]? else if i=p then some x else l[i-1]?:=by
 unfold dY;have hl:(l.take p).length=p:=by rw[vP];omega
 by_cases a:i<p
 ·rw[if_pos a,vo (by omega),Qj a]
 ·rw[if_neg a,wW (by omega),hl]
  by_cases b:i=p
  ·rw[if_pos b,b,WS];rfl
  ·rw[if_neg b]
   have:i-p=(i-1-p)+1:=by omega
   rw[this,Qu,qO]
   congr 1;omega
theorem nP{α : Type}{l:List α}{p:Nat}(x : α)(hp:p<=l.length):(dY l p x).length=l.length+1:=by
 unfold dY;rw[wH,vP,wV,vy];omega
theorem n_{α : Type}(xs:Array α)(p:Nat)(x : α):(vL xs p x).toList=dY xs.toList p x:=by
 unfold vL dY;simp;exact Wm (by simp)
theorem mU{xs:Array Nat}{p:Nat}(x:Nat)(hp:p<=xs.size)(i:Nat):(vL xs p x).getD i 0=if i<p then xs.getD i 0 else if i=p then x else xs.getD (i-1) 0:=by
 rw[wY,<- vU,n_,zq x (by simpa using hp)]
 split
 ·rw[wY,<- vU]
 ·split
  ·rfl
  ·rw[wY,<- vU]
theorem N3{xs:Array Nat}{p:Nat}(x:Nat)(hp:p<=xs.size):(vL xs p x).size=xs.size+1:=by
 rw[<- wy,n_,nP x (by simpa using hp),wy]
theorem YX{l:List Int}{p:Nat}(x:Int)(hp:p<=l.length)(i:Nat):(dY l p x).getD i 0=if i<p then l.getD i 0 else if i=p then x else l.getD (i-1) 0:=by
 rw[wa,zq x hp]
 split
 ·rw[wa]
 ·split
  ·rfl
  ·rw[wa]
theorem Tb.put{t:SetTable}{hs:List Int}(b:Tb t hs){h:Int}{n:Nat}(hE:¬ In t (way t.mask (start t.mask h) n).j)(hF:∀m,m<n->In t (way t.mask (start t.mask h) m).j)(hr:t.place.size+1<=t.mask) :
   (t.put (way t.mask (start t.mask h) n).j).2<=hs.length/\Tb (t.put (way t.mask (start t.mask h) n).j).1 (dY hs (t.put (way t.mask (start t.mask h) n).j).2 h):=by
 generalize hj:(way t.mask (start t.mask h) n).j=j at *;have hjm:j<=t.mask:=by rw[<- hj];exact zwd t.mask h n
 obtain⟨q1,q2,q3⟩:=PD b.iW j;have hd:xG t.dummies j=false:=by rw[b.m4];rfl
 have e2:(t.put j).2=vY t.place j:=rfl;have ep:(t.put j).1.place=vL t.place (vY t.place j) j:=rfl;have em:(t.put j).1.mask=t.mask:=rfl
 have edm:(t.put j).1.dummies = #[]:=by
   show(if xG t.dummies j=true then _ else t.dummies)=_
   rw[hd];exact b.m4
 rw[e2];generalize vY t.place j=p at *;have hp:p<=hs.length:=by rw[<- b.size];exact q1
 have inn:∀x,In t x->In (t.put j).1 x:=λx ⟨i,hi,e⟩=>by
   unfold In;rw[ep,N3 j q1];rcases wt i p with a | a
   . exact⟨i,by omega,by rw[mU j q1,if_pos a];exact e⟩
   . exact⟨i+1,by omega,by rw[mU j q1,if_neg (by omega),if_neg (by omega)];exact e⟩
 have ns:(t.put j).1.place.size=t.place.size+1:=by rw[ep,N3 j q1]
 have gt:∀k,p<=k->k<t.place.size->j<t.place.getD k 0:=λk h1 h2=>by
   have:=q3 k h1 h2;have:t.place.getD k 0≠j:=λe=>hE ⟨k,h2,e⟩
   omega
 refine⟨hp,⟨?_,?_,edm,em ▸ b.two,?_,?_,?_⟩⟩
 . intro i k hik hk
   rw[ns]at hk;rw[ep,mU j q1,mU j q1]
   by_cases a:k<p
   . rw[if_pos (by omega),if_pos a];exact b.iW i k hik (by omega)
   . rw[if_neg a]
     by_cases c:k=p
     . rw[if_pos c,if_pos (by omega)];exact q2 i (by omega)
     . rw[if_neg c]
       by_cases d:i<p
       . rw[if_pos d];exact xz (q2 i d) (gt (k-1) (by omega) (by omega))
       . rw[if_neg d]
         by_cases f:i=p
         . rw[if_pos f];exact gt (k-1) (by omega) (by omega)
         . rw[if_neg f];exact b.iW (i-1) (k-1) (by omega) (by omega)
 . rw[ns,nP h hp,b.size]
 . intro i hi
   rw[ns]at hi;rw[ep,mU j q1,em]
   split
   . exact b.le i (by omega)
   . split
     . exact hjm
     . exact b.le (i-1) (by omega)
 . rw[ns,em];exact hr
 . intro i hi
   rw[ns]at hi;rw[ep,mU j q1,em,YX h hp]
   split
   . obtain⟨m,h1,h2⟩:=b.path i (by omega)
     exact⟨m,h1,λk hk=>inn _ (h2 k hk)⟩
   . split
     . exact⟨n,hj,λk hk=>inn _ (hF k hk)⟩
     . obtain⟨m,h1,h2⟩:=b.path (i-1) (by omega)
       exact⟨m,h1,λk hk=>inn _ (h2 k hk)⟩
structure Ow(mask:Nat)(ow:Array (Option Nat))(hs:List Int):Prop where
 size:ow.size=mask+1
 cnt:ow.toList.countP uf=hs.length
 inj:∀j j' k,ow.getD j none=some k->ow.getD j' none=some k->j=j'
 lt:∀j k,ow.getD j none=some k->k<hs.length
 has:∀k,k<hs.length->∃j,ow.getD j none=some k
 path:∀k j,ow.getD j none=some k->∃n,(way mask (start mask (hs.getD k 0)) n).j=j /\ ∀m,m<n->ow.getD (way mask (start mask (hs.getD k 0)) m).j none≠none
theorem Nl(mask i b:Nat):∀m,lp mask i b (m+1)=lp mask (leap mask i b).1 (leap mask i b).2 m
 | 0=>rfl
 | m+1=>by
  show leap mask (lp mask i b (m+1)).1 (lp mask i b (m+1)).2=leap mask (lp mask (leap mask i b).1 (leap mask i b).2 m).1 _
  rw[Nl mask i b m]
theorem Dv{ow:Array (Option Nat)}{j:Nat}(h:j<ow.size)(d e:Option Nat):ow.getD j d=ow.getD j e:=by simp[XR,h]
theorem O_{mask:Nat}{ow:Array (Option Nat)}(hz:ow.size=mask+1):∀fuel i b,i<=mask->(∃m,m<fuel/\ow.getD (lp mask i b m).1 none=none/\(lp mask i b m).1<=mask) ->
   ∃j n,Wo mask ow fuel i b=some j/\(way mask (gJ mask i b) n).j=j/\j<=mask/\ow.getD j none=none /\ ∀m,m<n->ow.getD (way mask (gJ mask i b) m).j none≠none
 | 0,i,b,_,⟨m,h,_⟩=>absurd h (Wa _)
 | fuel+1,i,b,hi,⟨m,hm,hn,hle⟩=>by
   unfold Wo;have hr:=A9 hi;cases hf:(wl (runEnd mask i+1-i)).find? λk=>(ow.getD (i+k) (some 0)).isNone with
   | some k =>
     rw[List.find?_range_eq_some]at hf;obtain⟨h1,h2,h3⟩:=hf;have h2:k<runEnd mask i+1-i:=by simpa using h2
     refine⟨i+k,k,rfl,?_,by omega,?_,λm hm=>?_⟩
     . rw[nY mask i b k (by omega)]
     . rw[Dv (by omega) none (some 0)];simpa using h1
     . rw[nY mask i b m (by omega)]
       have:=h3 m hm
       show ow.getD (i+m) none≠none
       rw[Dv (by omega) none (some 0)];intro e;rw[e]at this;exact absurd this (by decide)
   | none =>
     rw[List.find?_range_eq_none]at hf
     have all:∀k,k<=runEnd mask i-i->ow.getD (i+k) none≠none:=λk hk e=>by
       have:=hf k (by omega);rw[Dv (by omega) (some 0) none,e]at this;exact absurd this (by decide)
     cases m with
     | zero=>exact absurd hn (all 0 (vV _))
     | succ m =>
       rw[Nl]at hn hle;have hi':(leap mask i b).1<=mask:=by unfold leap;dsimp only;exact Va (qb _ (qt _))
       obtain⟨j,n,e1,e2,e3,e4,e5⟩:=O_ hz fuel (leap mask i b).1 (leap mask i b).2 hi' ⟨m,by omega,hn,hle⟩;refine⟨j,runEnd mask i-i+1+n,e1,by rw[rK,DK];exact e2,e3,e4,λm' hm'=>?_⟩;rcases wt m' (runEnd mask i-i+1)with q | q
       . rw[nY mask i b m' (by omega)];exact all m' (by omega)
       . have:m'=runEnd mask i-i+1+(m'-(runEnd mask i-i+1)):=by omega
         rw[this,rK,DK];exact e5 _ (by omega)
theorem Ow.gap{mask:Nat}{ow:Array (Option Nat)}{hs:List Int}(o:Ow mask ow hs)(h:hs.length<=mask):∃j,j<=mask/\ow.getD j none=none:=by
 refine Ve λc=>?_
 have:ow.toList.countP uf=ow.toList.length:=List.countP_eq_length.mpr λa ha=>by
  obtain⟨j,hj,e⟩:=wK ha;rw[wy,o.size]at hj;cases a with
  | some _=>rfl
  | none =>
   refine absurd ⟨j,by omega,?_⟩ c;rw[wY,<- vU,wc (by rw[wy,o.size];exact hj),e]
   rfl
 have h2:ow.toList.length=mask+1:=by rw[wy,o.size]
 have:=o.cnt;omega
theorem zxE{ow:Array (Option Nat)}{j:Nat}(h:j<ow.size)(v:Option Nat)(x:Nat):(ow.setIfInBounds j v).getD x none=if x=j then v else ow.getD x none:=by
 rw[wY,Array.getElem?_setIfInBounds]
 by_cases e:j=x
 ·subst e;rw[if_pos rfl,if_pos rfl,if_pos h];rfl
 ·rw[if_neg e,if_neg (λq=>e q.symm),wY]
theorem Ow.step{mask k:Nat}(hm:mask+1=2^k){ow:Array (Option Nat)}{hs:List Int}(o:Ow mask ow hs)(hl:hs.length<=mask)(h:Int) :
   ∃j,Wo mask ow (turns mask) (bits h % (mask+1)) (bits h)=some j/\Ow mask (ow.setIfInBounds j (some hs.length)) (hs++[h]):=by
 obtain⟨j0,hj0,e0⟩:=o.gap hl;obtain⟨m,hm',em⟩:=Nb hm (i:=bits h % (mask+1)) (IE h) hj0;obtain⟨j,n,e1,e2,e3,e4,e5⟩:=O_ o.size (turns mask) (bits h % (mask+1)) (bits h) (Va (qb _ (qt _))) ⟨m,by unfold turns;omega,by rw[em];exact e0,by rw[em];exact hj0⟩;have hjs:j<ow.size:=by rw[o.size];omega
 have G:=zxE hjs (some hs.length);have hlen:(hs++[h]).length=hs.length+1:=by simp
 have old:∀k,k<hs.length->(hs++[h]).getD k 0=hs.getD k 0:=λk hk=>by
   rw[wa,wa,vo hk]
 refine⟨j,e1,⟨by simpa using o.size,?_,?_,?_,?_,?_⟩⟩
 . rw[Array.toList_setIfInBounds,List.countP_set (by simpa using hjs),o.cnt,hlen]
   have:ow.toList[j]'(by simpa using hjs)=none:=by
     rw[wY,vv hjs]at e4
     simpa using e4
   simp[this]
 . intro x x' k h1 h2
   rw[G]at h1 h2
   split at h1
   . split at h2
     . rename_i a b;rw[a,b]
     . have:=o.lt _ _ h2;have:=wF h1;omega
   . split at h2
     . have:=o.lt _ _ h1;have:=wF h2;omega
     . exact o.inj _ _ _ h1 h2
 . intro x k h1
   rw[G]at h1;rw[hlen]
   split at h1
   . have:=wF h1;omega
   . have:=o.lt _ _ h1;omega
 . intro k hk
   rw[hlen]at hk;rcases wt k hs.length with q | q
   . obtain⟨x,hx⟩:=o.has k q
     refine⟨x,?_⟩;rw[G,if_neg]
     . exact hx
     . intro e;rw[e,e4]at hx;cases hx
   . refine⟨j,?_⟩
     rw[G,if_pos rfl];congr 1;omega
 . intro k x h1
   rw[G]at h1
   have keep:∀y,ow.getD y none≠none->(ow.setIfInBounds j (some hs.length)).getD y none≠none:=λy hy=>by
     rw[G];split
     . exact λz=>nomatch z
     . exact hy
   split at h1
   . rename_i ex
     have ek:k=hs.length:=(wF h1).symm;have:(hs++[h]).getD k 0=h:=by rw[ek,wa,wW (wg _),WS];rfl
     rw[this,ex];exact⟨n,e2,λm hm=>keep _ (e5 m hm)⟩
   . rw[old k (o.lt _ _ h1)]
     obtain⟨n',a1,a2⟩:=o.path k x h1;exact⟨n',a1,λm hm=>keep _ (a2 m hm)⟩
theorem Ow.nil(mask:Nat):Ow mask (XS (mask+1) none) []:=by
 have G:∀j,(XS (mask+1) (none:Option Nat)).getD j none=none:=λj=>by
  rw[wY,Array.getElem?_replicate];split<;>rfl
 refine⟨by simp,?_,λj j' k h=>?_,λj k h=>?_,λk h=>absurd h (Wa _),λk j h=>?_⟩
 ·rw[Array.toList_replicate,List.countP_replicate];rfl
 all_goals(rw[G]at h;cases h)
theorem Ll{mask k:Nat}(hm:mask+1=2^k):∀(l:List Int)(ow:Array (Option Nat))(hs:List Int),Ow mask ow hs->hs.length+l.length<=mask+1 ->
   ∃ow',(l.foldl (init:=some (ow,hs.length)) λ(acc:Option (Array (Option Nat) × Nat)) h=>do
     let (owner,k) <- acc
     let j <- Wo mask owner (turns mask) (bits h % (mask+1)) (bits h)
     pure (owner.setIfInBounds j (some k),k+1))=some (ow',hs.length+l.length)/\Ow mask ow' (hs++l)
 | [],ow,hs,o,_=>⟨ow,rfl,by rw[vH];exact o⟩
 | h::l,ow,hs,o,hl=>by
   rw[wV]at hl;obtain⟨j,e,o'⟩:=o.step hm (by omega) h;have hlen:(hs++[h]).length=hs.length+1:=by simp
   obtain⟨ow',e',o''⟩:=Ll hm l _ _ o' (by omega);refine⟨ow',?_,by rw[W4]at o'';exact o''⟩;rw[XC]
   have:(do
     let (owner,k) <- some (ow,hs.length)
     let j <- Wo mask owner (turns mask) (bits h % (mask+1)) (bits h)
     pure (owner.setIfInBounds j (some k),k+1):Option (Array (Option Nat) × Nat))=some (ow.setIfInBounds j (some hs.length),hs.length+1):=by
     show(Wo mask ow (turns mask) (bits h % (mask+1)) (bits h) >>= _)=_
     rw[e];rfl
   rw[this,<- hlen,e',hlen,wV]
   congr 2;omega
theorem SN{mask k:Nat}(hm:mask+1=2^k){hs:Array Int}(hl:hs.size<=mask+1):∃ow,xY mask hs=some ow/\Ow mask ow hs.toList:=by
 obtain⟨ow,e,o⟩:=Ll hm hs.toList _ [] (Ow.nil mask) (by simpa using hl);refine⟨ow,?_,by simpa using o⟩;unfold xY;rw[<- Array.foldl_toList];have:=congrArg (uB (·.1)) e;exact this
def live(mask:Nat)(ow:Array (Option Nat)):List (Nat × Nat):=(wl (mask+1)).filterMap λj=>(ow.getD j none).map (j,·)
theorem oG{mask:Nat}{ow:Array (Option Nat)}(hz:ow.size=mask+1){j k:Nat} : (j,k)∈live mask ow ↔ ow.getD j none=some k:=by
 unfold live;rw[VY]
 constructor
 ·rintro ⟨x,_,e⟩
  cases h:ow.getD x none with
  | none=>rw[h]at e;cases e
  | some y=>rw[h]at e;cases e;exact h
 ·intro h
  refine⟨j,?_,by rw[h];rfl⟩;rw[wx];rcases wt j (mask+1)with q | q
  ·exact q
  ·rw[wY,WP (by omega)]at h;cases h
theorem Np{mask:Nat}{ow:Array (Option Nat)}{hs:List Int}(o:Ow mask ow hs):(live mask ow).Pairwise λx y=>x.1<y.1/\x.2≠y.2:=by
 unfold live;rw[List.pairwise_filterMap];refine uw ?_ List.pairwise_lt_range;intro a b _ _ hab x hx y hy;cases h1:ow.getD a none with
 | none=>rw[h1]at hx;cases hx
 | some u =>
  cases h2:ow.getD b none with
  | none=>rw[h2]at hy;cases hy
  | some v =>
   rw[h1]at hx;rw[h2]at hy;cases hx;cases hy;refine⟨hab,λe=>?_⟩;have:u=v:=e;subst this;have:=o.inj _ _ _ h1 h2;omega
theorem zsp{mask:Nat}{ow:Array (Option Nat)}{hs:List Int}(o:Ow mask ow hs):((live mask ow).map (·.2)).Perm (wl hs.length):=by
 refine(List.perm_ext_iff_of_nodup ?_ Wu).mpr λk=>?_
 ·show qU _ _
  rw[VC];exact(Np o).imp λh=>h.2
 ·rw[wx,wJ]
  constructor
  ·rintro ⟨⟨j,k'⟩,h,rfl⟩
   exact o.lt _ _ ((oG o.size).mp h)
  ·intro h
   obtain⟨j,hj⟩:=o.has k h;exact⟨(j,k),(oG o.size).mpr hj,rfl⟩
theorem TJ{mask k:Nat}(k3:3<=k)(hm:mask+1=2^k)(finger moves:Nat)(led plain:Bool){hs:Array Int}(hl:hs.size<=mask) :
   ∃(t:SetTable)(ord:Array Nat),ug mask finger moves led plain hs=some (t,ord)/\t.mask=mask/\t.led=led/\t.plain=plain/\t.moves=moves/\ord.toList.Perm (wl hs.size)/\Tb t (ord.toList.map λk=>hs.toList.getD k 0):=by
 obtain⟨ow,e,o⟩:=SN hm (hs:=hs) (by omega);have op:=zsp o;rw[wy]at op;have ll:(live mask ow).length=hs.size:=by have:=op.length_eq;simpa using this
 refine⟨{mask,place:=((live mask ow).map (·.1)).toArray,dummies:=#[],finger,led,moves,plain},((live mask ow).map (·.2)).toArray,?_,rfl,rfl,rfl,rfl,by simpa using op,?_⟩
 . unfold ug
   rw[e];rfl
 . have pz:(((live mask ow).map (·.1)).toArray).size=(live mask ow).length:=by simp
   have pg:∀i (h:i<(live mask ow).length),(((live mask ow).map (·.1)).toArray).getD i 0=((live mask ow)[i]).1:=λi h=>by
     rw[wY];simp[h]
   have inn:∀x,ow.getD x none≠none->In {mask,place:=((live mask ow).map (·.1)).toArray,dummies:=#[],finger,led,moves,plain} x:=λx hx=>by
     cases hy:ow.getD x none with
     | none=>exact absurd hy hx
     | some y =>
       obtain⟨i,hi,ei⟩:=wK ((oG o.size).mpr hy);exact⟨i,by show i<(((live mask ow).map (·.1)).toArray).size;rw[pz];exact hi,by show(((live mask ow).map (·.1)).toArray).getD i 0=x;rw[pg i hi,ei]⟩
   refine⟨?_,?_,rfl,⟨k,k3,hm⟩,?_,?_,?_⟩
   . intro i j hij hj
     have hj:j<(live mask ow).length:=by rw[<- pz];exact hj
     show(((live mask ow).map (·.1)).toArray).getD i 0<(((live mask ow).map (·.1)).toArray).getD j 0
     rw[pg i (by omega),pg j hj];exact(vE.mp (Np o) i j (by omega) hj hij).1
   . show(((live mask ow).map (·.1)).toArray).size=_
     rw[pz];simp
   . intro i hi
     have hi:i<(live mask ow).length:=by rw[<- pz];exact hi
     show(((live mask ow).map (·.1)).toArray).getD i 0<=mask
     rw[pg i hi];have:=(oG o.size).mp (show(((live mask ow)[i]).1,((live mask ow)[i]).2)∈live mask ow from vd hi);rcases wt ((live mask ow)[i]).1 (mask+1)with q | q
     . omega
     . rw[wY,WP (by rw[o.size];omega)]at this;cases this
   . show(((live mask ow).map (·.1)).toArray).size<=mask
     rw[pz,ll];exact hl
   . intro i hi
     have hi:i<(live mask ow).length:=by rw[<- pz];exact hi
     have hm':=(oG o.size).mp (show(((live mask ow)[i]).1,((live mask ow)[i]).2)∈live mask ow from vd hi)
     have eh:(((live mask ow).map (·.2)).toArray.toList.map λk=>hs.toList.getD k 0).getD i 0=hs.toList.getD ((live mask ow)[i]).2 0:=by
       rw[wa];simp[hi]
     obtain⟨n,a1,a2⟩:=o.path _ _ hm'
     show ∃n,(way mask (start mask (_)) n).j=(((live mask ow).map (·.1)).toArray).getD i 0/\_
     rw[pg i hi,eh];exact⟨n,a1,λm hm=>inn _ (a2 m hm)⟩
theorem LF(n:Nat):∀(fuel size:Nat),∃m,vK n fuel size=size*2^m/\(n<size*2^fuel->n<vK n fuel size)/\(vK n fuel size<=size\/vK n fuel size<=2*n)
 | 0,size=>⟨0,by simp[vK],λh=>by simpa [vK] using h,.inl (by simp[vK])⟩
 | fuel+1,size=>by
  unfold vK
  by_cases c:size<=n
  ·rw[if_pos c]
   obtain⟨m,h1,h2,h3⟩:=LF n fuel (size*2);refine⟨m+1,?_,λh=>h2 ?_,?_⟩
   ·rw[h1,Wk,VF (2^m) 2,Ws]
   ·rw[Wk,VF (2^fuel) 2,<- Ws]at h;exact h
   ·rcases h3 with h3 | h3<;>right<;>omega
  ·rw[if_neg c]
   exact⟨0,by simp,λ_=>by omega,.inl (wg _)⟩
theorem zBR{n:Nat}(h1:1<=n)(h:n<=4000):∃k,3<=k/\Vy (4*n)-1+1=2^k/\4*n<=Vy (4*n)-1/\Vy (4*n)<=8*n:=by
 obtain⟨m,e1,e2,e3⟩:=LF (4*n) 64 8;have e0:Vy (4*n)=vK (4*n) 64 8:=rfl
 have lt := e2 (by have : (8 * 2 ^ 64 : Nat) = 147573952589676412928 := by decide
                   omega)
 rw[e0];refine⟨m+3,by omega,?_,by omega,by omega⟩;rw[Nat.sub_add_cancel (by omega),e1,qK,VF]
section
variable{prog:Program}{w:World}{K:Type}[DecidableEq K]{knd:KeyKind prog w K}{U:Addr->List K->Prop}{A:Around}{E:Value->Shared->Prop}{s:Shared}
def Ent(knd:KeyKind prog w K)(U:Addr->List K->Prop)(h:Heap)(e:Int × Value)(k:List K):Prop:=∃a,e.2=.ref a/\IsTupleKey knd h k a/\e.1=tupleKeyHash knd k/\U a k
theorem ZM(n:Nat){v:Value}(h:carriedByValue v=true):ofAClassStatement n v=pure false:=by
 cases v with
 | ref a=>simp[carriedByValue]at h
 | _=>first | rfl | simp[ofAClassStatement] | (unfold ofAClassStatement;rfl)
theorem OS{x:Addr}{k:List K}(hx:IsTupleKey knd s.heap k x){Q:Bool->Shared->Prop}(q:Q false s):wpAny (model prog w) A (ofAClassStatement 8 (.ref x)) Q E s:=by
 have hT:=hx.typeIs;obtain⟨o,items,n,ho,hc,hd,hi⟩:=hx;unfold ofAClassStatement;refine wpAny_bind (wpAny_typeOf hT ?_);dsimp only;rw[if_pos (by decide)];refine wpAny_bind (wpAny_pure ?_);simp only[vR,wL,if_false];refine wpAny_bind (wpAny_seqItems ho hd ?_);refine wpAny_bind ?_
 show wpAny _ _ (forIn items _ _) _ _ s
 rw[<- WT];refine wpAny_forIn_list _ (λcO r s'=>r.1=none/\s'=s /\ ∀v∈cO,carriedByValue v=true) _ ?_ ?_ _ _ ⟨rfl,rfl,hi.byValue⟩
 ·rintro v cO r s' ⟨hr,rfl,hall⟩
  rw[ZM _ (hall v wu)];refine wpAny_bind (wpAny_pure ?_);simp only[wL,if_false];exact wpAny_pure ⟨rfl,rfl,λu hu'=>hall u (wo _ hu')⟩
 ·rintro ⟨r1,r2⟩ s' ⟨hr,rfl,_⟩
  simp only at hr;subst hr;exact wpAny_pure q
theorem Th{x:Addr}{k:List K}(hx:IsTupleKey knd s.heap k x):∀(l:List Value),(∀v∈l,∃y k',v=.ref y/\IsTupleKey knd s.heap k' y)->∀{Q:Bool->Shared->Prop},Q false s->wpAny (model prog w) A (searchCouldBeSeen (.ref x) l) Q E s:=by
 intro l hl Q q;unfold searchCouldBeSeen;refine wpAny_bind ?_;refine wpAny_forIn_list _ (λcO r s'=>r.1=none/\s'=s /\ ∀v∈cO,∃y k',v=.ref y/\IsTupleKey knd s.heap k' y) _ ?_ ?_ _ _ ⟨rfl,rfl,hl⟩
 ·rintro v cO r s' ⟨hr,rfl,hall⟩
  obtain⟨y,k',rfl,hy⟩:=hall v wu;have rst:∀v∈cO,∃y k',v=.ref y/\IsTupleKey knd s'.heap k' y:=λu hu'=>hall u (wo _ hu')
  dsimp only
  split
  ·exact wpAny_pure ⟨rfl,rfl,rst⟩
  ·refine wpAny_bind (wpAny_eqIsQuiet_tuple hx ?_)
   simp only[vR,wL,if_false];refine wpAny_bind (wpAny_eqIsQuiet_tuple hy ?_);simp only[vR,wL,if_false];refine wpAny_bind (OS hx ?_);simp only[vR,wL,if_false];refine wpAny_bind (OS hy ?_);simp only[vR,wL,if_false];exact wpAny_pure ⟨rfl,rfl,rst⟩
 ·rintro ⟨r1,r2⟩ s' ⟨hr,rfl,_⟩
  simp only at hr;subst hr;exact wpAny_pure q
theorem zyG{t:SetTable}(R:jt t.place)(D:t.dummies = #[]){i j:Nat}(hi:i<t.place.size)(e:t.place.getD i 0=j):t.slot j=.live i:=by
 rcases Mx R D j with⟨i',h1,h2,h3⟩ | ⟨no,_⟩
 ·rw[h3,Ai R h1 hi (h2.trans e.symm)]
 ·exact absurd e (no i hi)
theorem Ent.inj{h:Heap}{e:Int × Value}{k k':List K}(a:Ent knd U h e k)(b:Ent knd U h e k'):k=k':=by
 obtain⟨x,h1,h2,_⟩:=a;obtain⟨y,h3,h4,_⟩:=b;rw[h1]at h3;cases h3;exact h2.inj h4
theorem Tb.fits{t:SetTable}{hs:List Int}(b:Tb t hs):t.fits hs.length=true:=by
 unfold SetTable.fits uh;rw[b.m4,b.size];have:=b.room;rw[b.size]at this
 simpa using this
theorem Tb.RO{t:SetTable}{hs:List Int}(b:Tb t hs):t.gaveWay=false:=by
 obtain⟨k',h3,e⟩:=b.two;unfold SetTable.gaveWay;have:2^k'=2*2^(k'-1):=by rw[<- Nat.pow_succ'];congr 1;omega
 have:t.mask % 2=1:=by omega
 rw[this];rfl
theorem Ic{a xa:Addr}{k:List K}{o:Obj}{es:Array (Int × Value)}{ep:Nat}{t:SetTable}(hu:A.units<cLine)(hx:IsTupleKey knd s.heap k xa)
   (ho:s.heap.get? a=some o) (hd:o.data=.set es ep t) (b:Tb t (es.toList.map (·.1))) (he:∀i (h:i<es.size),∃k',Ent knd U s.heap es[i] k') (n0:Nat) (hE:¬ In t (way t.mask (start t.mask (tupleKeyHash knd k)) n0).j) (hF:∀m,m<n0->In t (way t.mask (start t.mask (tupleKeyHash knd k)) m).j) (hf0:n0<10*Q3 t.mask)
   {Q:SetFound->Shared->Prop} (yes:(∃i,∃h:i<es.size,Ent knd U s.heap es[i] k)->Q (.there none) s) (no:(∀i (h:i<es.size),¬ Ent knd U s.heap es[i] k)->Q (.free (way t.mask (start t.mask (tupleKeyHash knd k)) n0).j false) s) :
   ∀(fuel n:Nat)(st:Option SetTable.Probe),n<=n0->n0-n<fuel->st.getD (t.probeStart (tupleKeyHash knd k))=way t.mask (start t.mask (tupleKeyHash knd k)) n ->
     (∀m,m<n->∀i (h:i<es.size),t.place.getD i 0=(way t.mask (start t.mask (tupleKeyHash knd k)) m).j->¬ Ent knd U s.heap es[i] k) ->
     wpAny (model prog w) A (setSearchFrom a (.ref xa) (tupleKeyHash knd k) true fuel st) Q E s
 | 0,n,st,_,hlt,_,_=>absurd hlt (Wa _)
 | fuel+1,n,st,hn,hlt,hst,hno=>by
   have hsz:t.place.size=es.size:=by rw[b.size,we,wy]
   have hfit:t.fits es.size=true:=by have:=b.fits;rwa[we,wy]at this
   unfold setSearchFrom;refine wpAny_bind (wpAny_setState_of ho hd hfit ?_);dsimp only;rw[b.RO,hst];simp only[wL,if_false];have hp:=IH b.iW b.m4 (λi=>(es[i]?.map (·.1)).getD 0) (tupleKeyHash knd k) (p:=start t.mask (tupleKeyHash knd k)) rfl hE hF (10*Q3 t.mask) n hn (by omega);rcases hp with⟨m,i,m1,m2,i1,i2,i3,i4,e⟩ | ⟨a1,e⟩
   . generalize hP:t.probe _ (tupleKeyHash knd k) (way t.mask (start t.mask (tupleKeyHash knd k)) n)=P
     have eP:=hP.symm.trans e;rw[eP];clear eP hP P e;dsimp only;have ies:i<es.size:=by rw[<- hsz];exact i1
     obtain⟨k',a',e1,e2,e3,e4⟩:=he i ies;have eg:es[i]? = some es[i]:=vv ies;have hent:Ent knd U s.heap es[i] k':=⟨a',e1,e2,e3,e4⟩
     have next:k'≠k->wpAny (model prog w) A (setSearchFrom a (.ref xa) (tupleKeyHash knd k) true fuel (some (way t.mask (start t.mask (tupleKeyHash knd k)) (m+1)))) Q E s:=λc=>by
       refine Ic hu hx ho hd b he n0 hE hF hf0 yes no fuel (m+1) _ m2 (by omega) rfl λm' hm' i' hi' ep' hent'=>?_
       rcases wt m' n with q | q
       . exact hno m' q i' hi' ep' hent'
       . rcases WA (Va hm')with q' | q'
         . subst q'
           have:i'=i:=Ai b.iW (by rw[hsz];exact hi') i1 (ep'.trans i2.symm);subst this;exact c (hent.inj hent')
         . refine i4 m' q q' i' (by rw[hsz];exact hi') ep' ?_
           show(es[i']?.map (·.1)).getD 0=_
           rw[vv hi'];obtain⟨_,_,_,e5,_⟩:=hent';exact e5
     have hsl:t.slot (way t.mask (start t.mask (tupleKeyHash knd k)) m).j=.live i:=zyG b.iW b.m4 i1 i2;have hsm:t.sameMemory t.moves t.mask=some true:=by unfold SetTable.sameMemory;rw[if_pos (by simp)]
     have unseen:∀v∈(es.filter λx=>x.1 == tupleKeyHash knd k).toList.map (λx=>x.2),∃y k',v=.ref y/\IsTupleKey knd s.heap k' y:=λv hv=>by
       obtain⟨e0,h0,rfl⟩:=wJ.mp hv;rw[Array.toList_filter,wP]at h0;obtain⟨j,hj,ej⟩:=wK h0.1;obtain⟨k2,y2,f1,f2,_⟩:=he j (by simpa using hj);refine⟨y2,k2,?_,f2⟩;rw[<- ej,<- f1,Array.getElem_toList]
     have eg':es[i]? = some (es[i].1,.ref a'):=by rw[eg,<- e1]
     clear eg;generalize es[i].1=h' at *;have tail:k'=k->Q (.there none) s:=λc=>yes ⟨i,ies,c ▸ hent⟩
     cases hl:t.led
     . simp only[qD,if_true]
       refine wpAny_bind (Th hx _ unseen ?_);simp only[wL,if_false];rw[eg'];dsimp only;refine wpAny_bind (wpAny_holding (wpAny_eqBool_tuple hu e2 hx ?_));refine wpAny_bind (wpAny_setState_of ho hd hfit ?_);dsimp only
       by_cases c:k'=k
       . rw[decide_eq_true c]
         exact wpAny_pure (tail c)
       . rw[decide_eq_false c,hsm]
         simp only[qI,wL,if_false,if_true];rw[hsl];dsimp only;rw[eg'];dsimp only;refine wpAny_bind (wpAny_isSame_ref_self ?_);refine wpAny_bind (wpAny_pure ?_);simp only[if_true];exact next c
     . simp only[vR,wL,if_false]
       rw[eg'];dsimp only;refine wpAny_bind (wpAny_holding (wpAny_eqBool_tuple hu e2 hx ?_));refine wpAny_bind (wpAny_setState_of ho hd hfit ?_);dsimp only
       by_cases c:k'=k
       . rw[decide_eq_true c]
         exact wpAny_pure (tail c)
       . rw[decide_eq_false c,hsm]
         simp only[qI,wL,if_false,if_true];rw[hsl];dsimp only;rw[eg'];dsimp only;refine wpAny_bind (wpAny_isSame_ref_self ?_);refine wpAny_bind (wpAny_pure ?_);simp only[if_true];exact next c
   . generalize hP:t.probe _ (tupleKeyHash knd k) (way t.mask (start t.mask (tupleKeyHash knd k)) n)=P
     have eP:=hP.symm.trans e;rw[eP];dsimp only;refine wpAny_pure (no λi hi hent=>?_);have hi':i<t.place.size:=by rw[hsz];exact hi
     obtain⟨m,p1,p2⟩:=b.path i hi'
     have hh:(es.toList.map (·.1)).getD i 0=tupleKeyHash knd k:=by
       obtain⟨_,_,_,e3,_⟩:=hent;rw[wa,wn,vU,vv hi];exact e3
     rw[hh]at p1 p2;rcases wt m n0 with q | q
     . rcases wt m n with q' | q'
       . exact hno m q' i hi p1.symm hent
       . refine a1 m q' q i hi' p1.symm ?_
         show(es[i]?.map (·.1)).getD 0=_
         rw[vv hi];obtain⟨_,_,_,e3,_⟩:=hent;exact e3
     . rcases WA q with q' | q'
       . subst q';exact hE ⟨i,hi',p1.symm⟩
       . exact hE (p2 n0 q')
theorem zvh{α : Type}(l:List α)(p:Nat)(x : α):(dY l p x).Perm (x::l):=by
 unfold dY;refine List.perm_middle.trans (List.Perm.cons x ?_);rw[QZ]
theorem sW{h g:Heap}{k:List K}{a:Addr}(x:IsTupleKey knd h k a)(e:∀o,h.get? a=some o->g.get? a=some o):IsTupleKey knd g k a:=by
 obtain⟨o,its,n,h1,r⟩:=x;exact⟨o,its,n,e o h1,r⟩
theorem Ir{h g:Heap}{k:List K}{a d:Addr}{o:Obj}{es:Array (Int × Value)}{ep:Nat}{t:SetTable}(x:IsTupleKey knd h k a)(ho:h.get? d=some o)(hd:o.data=.set es ep t)(hs:wS d h g):IsTupleKey knd g k a:=by
 refine sW x λu eu=>(hs.2 a λad=>?_).trans eu
 obtain⟨u',_,_,e1,_,e2,_⟩:=x;rw[ad,ho]at e1;cases e1;rw[hd]at e2;cases e2
def fW(knd:KeyKind prog w K)(U:Addr->List K->Prop)(h:Heap)(es:List (Int × Value))(ks:List (List K)):Prop:=es.length=ks.length /\ ∀(i:Nat)(e:Int × Value)(k:List K),es[i]? = some e->ks[i]? = some k->Ent knd U h e k
def TS(knd:KeyKind prog w K)(U:Addr->List K->Prop)(h:Heap)(a:Addr)(led:Bool)(ks:List (List K)):Prop :=
 ∃o es ep t,h.get? a=some o/\o.ExactSet/\o.data=.set es ep t/\Tb t (es.toList.map (·.1))/\es.size*5<t.mask*3/\(t.mask<=7\/t.mask<=8*es.size)/\t.led=led/\t.plain=true/\fW knd U h es.toList ks/\ks.Nodup
theorem zvr(hv:∀k v,knd.is k v=true->∃i t,v=.int i t){x:Addr}{k:List K}(hx:IsTupleKey knd s.heap k x){Q:Bool->Shared->Prop}(q:Q true s):wpAny (model prog w) A (hashByValue 8 (.ref x)) Q E s:=by
 have hT:=hx.typeIs;obtain⟨o,items,n,ho,hc,hd,hi⟩:=hx
 have hints:∀{ks:List K}{vs:List Value},ItemsAre knd ks vs->∀v∈vs,∃i t,v=.int i t:=λh=>by
  induction h with
  | nil=>intro v hv;simp at hv
  | cons h1 _ ih =>
   intro v hm;rcases wz.mp hm with rfl | hm
   ·exact hv _ _ h1
   ·exact ih v hm
 unfold hashByValue;refine wpAny_bind (wpAny_specialOf hT VD.lookup ?_);dsimp only;refine wpAny_bind (wpAny_seqItems ho hd ?_);refine wpAny_bind ?_
 show wpAny _ _ (forIn items _ _) _ _ s
 rw[<- WT];refine wpAny_forIn_list _ (λcO r s'=>r.1=none/\s'=s /\ ∀v∈cO,∃i t,v=.int i t) _ ?_ ?_ _ _ ⟨rfl,rfl,hints hi⟩
 ·rintro v cO r s' ⟨hr,rfl,hall⟩
  obtain⟨i,t,rfl⟩:=hall v wu
  show wpAny _ _ (pure true >>= _) _ _ _
  refine wpAny_bind (wpAny_pure ?_);simp only[vR,wL,if_false];exact wpAny_pure ⟨rfl,rfl,λu hu'=>hall u (wo _ hu')⟩
 ·rintro ⟨r1,r2⟩ s' ⟨hr,rfl,_⟩
  simp only at hr;subst hr;exact wpAny_pure q
theorem YZ{α β : Type}(f : α -> β)(l:List α)(p:Nat)(x : α):(dY l p x).map f=dY (l.map f) p (f x):=by
 unfold dY;rw[w8,wM,ud,xk]
theorem Jj{α : Type}(d : α)(es:Array α):∀l:List Nat,(∀i∈l,i<es.size)->l.filterMap (λi=>es[i]?)=l.map λi=>es.toList.getD i d
 | [],_=>rfl
 | i::l,h=>by
  have hi:=h i (wu ..);rw[VR,vv hi,wM,Jj d es l λj hj=>h j (wo _ hj)];dsimp only;rw[wa,vU,vv hi]
  rfl
theorem zuL{α : Type}(d : α)(l:List α):(wl l.length).map (λi=>l.getD i d)=l:=by
 refine WK (by simp) λi h1 h2=>?_
 rw[WL,List.getElem_range,wa,wc h2]
 rfl
theorem fW.keeps{h h':Heap}{es:List (Int × Value)}{ks:List (List K)}{d:Addr}{o:Obj}{es0:Array (Int × Value)}{ep:Nat}{t:SetTable}(x:fW knd U h es ks)(ho:h.get? d=some o)(hd:o.data=.set es0 ep t)(hs:wS d h h'):fW knd U h' es ks :=
 ⟨x.1,λi e k h1 h2=>by obtain⟨a,e1,e2,e3⟩:=x.2 i e k h1 h2;exact⟨a,e1,Ir e2 ho hd hs,e3⟩⟩
theorem fW.ins{h:Heap}{es:List (Int × Value)}{ks:List (List K)}(x:fW knd U h es ks){p:Nat}(hp:p<=ks.length){e:Int × Value}{k:List K}(c:Ent knd U h e k):fW knd U h (dY es p e) (dY ks p k):=by
 have hp':p<=es.length:=by rw[x.1];exact hp
 refine⟨by rw[nP e hp',nP k hp,x.1],λi e' k' h1 h2=>?_⟩;rw[zq e hp']at h1;rw[zq k hp]at h2
 split at h1
 ·rename_i a;rw[if_pos a]at h2;exact x.2 i e' k' h1 h2
 ·rename_i a;rw[if_neg a]at h2
  split at h1
  ·rename_i b;rw[if_pos b]at h2
   cases h1;cases h2;exact c
  ·rename_i b;rw[if_neg b]at h2;exact x.2 (i-1) e' k' h1 h2
theorem fW.ord{h:Heap}{es:List (Int × Value)}{ks:List (List K)}(x:fW knd U h es ks){l:List Nat}(hl:∀i∈l,i<es.length):fW knd U h (l.map λi=>es.getD i (0,.none)) (l.map λi=>ks.getD i []):=by
 refine⟨by simp,λi e' k' h1 h2=>?_⟩;rw[wn]at h1 h2;cases hi:l[i]? with
 | none=>rw[hi]at h1;cases h1
 | some j =>
  rw[hi]at h1 h2;cases h1;cases h2;have hj:j<es.length:=hl j (Q7 hi);have hj':j<ks.length:=by rw[<- x.1];exact hj
  refine x.2 j _ _ ?_ ?_
  ·dsimp only;rw[wa,wc hj];rfl
  ·dsimp only;rw[wa,wc hj'];rfl
theorem Nf{h:Heap}{a:Addr}{o:Obj}{es:Array (Int × Value)}{ep:Nat}{t:SetTable}(ho:h.get? a=some o)(hd:o.data=.set es ep t)(es':Array (Int × Value))(t':SetTable) :
  (h.update a (Qh es' t')).get? a=some {o with data:=.set es' (ep+1) t'}:=by
 have:=WV (Qh es' t') ho (by rw[putSet_of es' t' hd];rfl);rw[putSet_of es' t' hd]at this;exact this
theorem zwO{a:Addr}{o:Obj}{es:Array (Int × Value)}{ep:Nat}{t:SetTable}{ks:List (List K)}(ho:s.heap.get? a=some o)(hex:o.ExactSet)(hd:o.data=.set es ep t)(b:Tb t (es.toList.map (·.1)))(hpl:t.plain=true)
   (hk:fW knd U s.heap es.toList ks) (hnd:ks.Nodup) (h1:1<=es.size) (hz:es.size<=1000) {Q:Unit->Shared->Prop} (q:∀h' ks',wS a s.heap h'->TS knd U h' a t.led ks'->ks'.Perm ks->Q () {s with heap:=h'}) :
   wpAny (model prog w) A (setRelay a (Q4 es.size)) Q E s:=by
 have hfit:t.fits es.size=true:=by have:=b.fits;rwa[we,wy]at this
 have hg:Q4 es.size=4*es.size:=by unfold Q4;rw[if_neg (by omega),VF]
 obtain⟨k2,k3,s1,s2,s3⟩:=zBR (n:=es.size) h1 (by omega);unfold setRelay;rw[hg];refine wpAny_bind (wpAny_setState_of ho hd hfit ?_);dsimp only;rw[if_neg (by rw[sizeLine_eq];omega)];obtain⟨t2,ord,e2,m2,l2,p2,_,op,b2⟩:=TJ k3 s1 t.finger (t.movedTo (Vy (4*es.size)-1)) t.led t.plain (hs:=es.map (·.1)) (by rw[X6];omega);rw[X6]at op;have olt:∀i∈ord.toList,i<es.size:=λi hi=>wx.mp (op.mem_iff.mp hi)
 have e2':t.relaid (es.map (·.1)) (4*es.size)=some (t2,ord):=e2;rw[e2']
 have fe:(ord.filterMap (λi=>es[i]?)).toList=ord.toList.map λi=>es.toList.getD i (0,.none):=by
   rw[Array.toList_filterMap];exact Jj _ es _ olt
 have fz:(ord.filterMap (λi=>es[i]?)).size=es.size:=by
   rw[<- wy,fe,we,op.length_eq,wU]
 refine wpAny_bind ?_
 show wpAny _ _ (if((ord.filterMap (λi=>es[i]?)).size != es.size)=true then(unsupported "internal:set-table-lost-an-element" >>= λ_=>pure (ord.filterMap (λi=>es[i]?),t2))else pure (ord.filterMap (λi=>es[i]?),t2)) _ _ _
 rw[if_neg (by rw[fz];simp)];refine wpAny_pure ?_;refine wpAny_storeSet_of ho hd ?_ (by rw[fz,sizeLine_eq];omega);have hsb:=VS s.heap a (Qh (ord.filterMap (λi=>es[i]?)) t2);have hkk:fW knd U s.heap (ord.filterMap (λi=>es[i]?)).toList (ord.toList.map λi=>ks.getD i []):=by rw[fe];exact hk.ord λi hi=>by rw[wy];exact olt i hi
 have pm:(ord.toList.map λi=>ks.getD i []).Perm ks:=by
   have:=op.map (λi=>ks.getD i []);have hl:es.size=ks.length:=by rw[<- wy];exact hk.1
   rw[hl,zuL]at this;exact this
 refine q _ (ord.toList.map λi=>ks.getD i []) hsb ⟨_,_,_,t2,Nf ho hd _ t2,hex,rfl,?_,?_,?_,l2,p2.trans hpl,hkk.keeps ho hd hsb,pm.nodup_iff.mpr hnd⟩ pm
 . rw[fe,Vn]
   have:(ord.toList.map ((λx:Int × Value=>x.1) ∘ λi=>es.toList.getD i (0,.none)))=ord.toList.map λk=>(es.map (·.1)).toList.getD k 0:=by
     refine qz λi hi=>?_
     have:=olt i hi
     show(es.toList.getD i (0,.none)).1=_
     rw[wa,wa,Array.toList_map,wn,vU,vv this]
     rfl
   rw[this];exact b2
 . rw[fz,m2];omega
 . right;rw[fz,m2];omega
theorem Yj(hv:∀k v,knd.is k v=true->∃i t,v=.int i t){a xa:Addr}{k:List K}{led:Bool}{ks:List (List K)}(hu:A.units<cLine)(hS:TS knd U s.heap a led ks)(hx:IsTupleKey knd s.heap k xa)(hU:U xa k)(hz:ks.length+1<=1000)
   {Q:Bool->Shared->Prop} (q:∀h' ks',wS a s.heap h'->TS knd U h' a led ks'->(k∈ks->ks'=ks)->(k ∉ ks->ks'.Perm (k::ks))->∀b,Q b {s with heap:=h'}) :
   wpAny (model prog w) A (setAddHashed a (.ref xa) (tupleKeyHash knd k)) Q E s:=by
 obtain⟨o,es,ep,t,ho,hex,hd,b,hfew,hmask,hled,hpl,⟨hkl,hke⟩,hnd⟩:=hS;rw[wy]at hkl;have hfit:t.fits es.size=true:=by have:=b.fits;rwa[we,wy]at this
 have hsz:t.place.size=es.size:=by rw[b.size,we,wy]
 have hent:∀i (h:i<es.size),Ent knd U s.heap es[i] (ks[i]'(by omega)):=λi h=>hke i _ _ (by rw[vU,vv h]) (wc _)
 unfold setAddHashed setAddHashedIn;refine wpAny_holding (wpAny_bind (wpAny_setState_of ho hd hfit ?_));dsimp only;rw[show byScan (.ref xa) es=false from rfl];simp only[wL,if_false];obtain⟨n0,hf0,hE,hF⟩:=b.free (tupleKeyHash knd k);have hmm:t.mask<=8000:=by omega
 refine wpAny_bind (Ic hu hx ho hd b (λi h=>⟨_,hent i h⟩) n0 hE hF hf0 (λhy=>?yes) (λhn=>?no) 100000 0 none (vV _) (by unfold Q3 at hf0;omega) rfl (λm hm=>absurd hm (Wa _)))
 case yes =>
   dsimp only;obtain⟨i,hi,he⟩:=hy;have hk:k∈ks:=by rw[he.inj (hent i hi)];exact vd _
   exact wpAny_pure (q s.heap ks (xZ a s.heap) ⟨o,es,ep,t,ho,hex,hd,b,hfew,hmask,hled,hpl,⟨by rw[wy];exact hkl,hke⟩,hnd⟩ (λ_=>rfl) (λh=>absurd hk h) _)
 case no =>
   dsimp only
   have hk:k ∉ ks:=λhm=>by
     obtain⟨i,hi,e⟩:=wK hm;exact hn i (by omega) (e ▸ hent i (by omega))
   refine wpAny_bind (wpAny_setState_of ho hd hfit ?_);dsimp only;obtain⟨k8,k3,kk⟩:=b.two
   have m7:7<=t.mask:=by
     have:2^3<=2^k8:=Q9 (by decide) k3;omega
   obtain⟨hp,tb⟩:=b.put hE hF (by rw[hsz];omega);rw[we,wy,hkl]at hp;have q1:(t.put (way t.mask (start t.mask (tupleKeyHash knd k)) n0).j).1.plain=t.plain:=rfl;have q2:(t.put (way t.mask (start t.mask (tupleKeyHash knd k)) n0).j).1.led=t.led:=rfl;have q3:(t.put (way t.mask (start t.mask (tupleKeyHash knd k)) n0).j).1.mask=t.mask:=rfl;generalize (t.put (way t.mask (start t.mask (tupleKeyHash knd k)) n0).j).2=p at *;generalize (t.put (way t.mask (start t.mask (tupleKeyHash knd k)) n0).j).1=t1 at *;rw[if_pos (q1.trans hpl)];refine wpAny_bind (zvr hv hx ?_);simp only[if_true];have en:Ent knd U s.heap (tupleKeyHash knd k,.ref xa) k:=⟨xa,rfl,hx,rfl,hU⟩
   have hkk:fW knd U s.heap (vL es p (tupleKeyHash knd k,.ref xa)).toList (dY ks p k):=by
     rw[n_];exact fW.ins ⟨by rw[wy];exact hkl,hke⟩ hp en
   have tb':Tb t1 ((vL es p (tupleKeyHash knd k,.ref xa)).toList.map (·.1)):=by
     rw[n_,YZ];exact tb
   have z1:(vL es p (tupleKeyHash knd k,.ref xa)).size=es.size+1:=by
     rw[<- wy,n_,nP _ (by rw[wy,hkl];exact hp),wy]
   have pm:(dY ks p k).Perm (k::ks):=zvh ks p k;have nd:(dY ks p k).Nodup:=pm.nodup_iff.mpr (Wi.mpr ⟨hk,hnd⟩);refine wpAny_bind (wpAny_storeSet_of ho hd ?_ (by rw[z1,sizeLine_eq];omega));have hsb:=VS s.heap a (Qh (vL es p (tupleKeyHash knd k,.ref xa)) t1);have ho1:=Nf ho hd (vL es p (tupleKeyHash knd k,.ref xa)) t1
   have pz:t1.fill=es.size+1:=by
     unfold uh;rw[tb'.m4,tb'.size,we,wy,z1];rfl
   split
   . refine wpAny_bind ?_
     have:=zwO (A:=A) (E:=E) (knd:=knd) (s:={s with heap:=s.heap.update a (Qh (vL es p (tupleKeyHash knd k,.ref xa)) t1)}) (ks:=dY ks p k) ho1 hex rfl tb' (q1.trans hpl) (hkk.keeps ho hd hsb) nd (by rw[z1];omega) (by rw[z1];omega)
       (Q:=λ_ s'=>wpAny (model prog w) A (pure true) Q E s') λh' ks' sb ts pm'=>wpAny_pure (q h' ks' (hsb.trans sb) (by rw[q2,hled]at ts;exact ts) (λh=>absurd h hk) (λ_=>pm'.trans pm) _)
     rw[z1]at this;exact this
   . rename_i c
     have c:¬ t1.tooFull=true:=by simpa using c
     unfold SetTable.tooFull at c;rw[pz]at c;refine wpAny_pure (q _ (dY ks p k) hsb ⟨_,_,_,t1,ho1,hex,rfl,tb',?_,?_,q2.trans hled,q1.trans hpl,hkk.keeps ho hd hsb,nd⟩ (λh=>absurd h hk) (λ_=>pm) _)
     . rw[z1]
       have:¬ t1.mask*3<=(es.size+1)*5:=by simpa using c
       omega
     . rw[z1,q3];omega
end
section
variable{prog:Program}{w:World}{K:Type}[DecidableEq K]{knd:KeyKind prog w K}{U:Addr->List K->Prop}
theorem TS.same{h g:Heap}{S:Addr}{led:Bool}{ks:List (List K)}(x:TS knd U h S led ks)(e:∀o,h.get? S=some o->g.get? S=some o)(f:∀k a,IsTupleKey knd h k a->IsTupleKey knd g k a):TS knd U g S led ks:=by
 obtain⟨o,es,ep,t,c1,c2,c3,c4,c5,c6,c7,c8,⟨d1,d2⟩,c9⟩:=x;refine⟨o,es,ep,t,e o c1,c2,c3,c4,c5,c6,c7,c8,⟨d1,λi y k y1 y2=>?_⟩,c9⟩;obtain⟨a,z1,z2,z3⟩:=d2 i y k y1 y2;exact⟨a,z1,f k a z2,z3⟩
theorem TS.new{h:Heap}{S:Addr}{led:Bool}(e:h.get? S=some {cls:=.type "set",dict:=none,data:=.set #[] 0 (.fresh 0 0 led)}):TS knd U h S led [] :=
 ⟨_,#[],0,_,e,⟨rfl,rfl,rfl⟩,rfl,⟨λi j _ hj=>absurd hj (Wa _),rfl,rfl,⟨3,wg _,rfl⟩,λi hi=>absurd hi (Wa _),vV _,λi hi=>absurd hi (Wa _)⟩,(by show 0*5<7*3;decide),.inl (wg _),rfl,rfl,⟨rfl,λi y k y1=>by simp at y1⟩,List.nodup_nil⟩
variable{A:Around}{R:Result->Shared->Prop}{I:Addr}{fp wr:List Addr}{G:Array GenState->Array GenState->Prop}{n:Nat}{P:Nat->Value->Prop}{St:Nat->Shared->Prop}
theorem zCJ(hv:∀k v,knd.is k v=true->∃i t,v=.int i t)(W:WalksS prog w A.in1 I fp wr G n P St){S:Addr}(hSf:S ∉ fp)(hu:A.units+1<cLine){led:Bool}{key:Nat->List K}{ad:Nat->Addr}
   (hval:∀i v,P i v->v=.ref (ad i)) (hI:∀i s a k,St i s->IsTupleKey knd s.heap k a->a ∉ wr) (hn:n<=999) (hU:∀j,j<n->U (ad j) (key j)) :
   ∀(c i:Nat)(s:Shared)(ks:List (List K)),n-i=c->i<=n->St i s->(∀j,j<n->IsTupleKey knd s.heap (key j) (ad j))->TS knd U s.heap S led ks->(∀x,x∈ks ↔ ∃j,j<i/\key j=x)->ks.length<=i ->
     (∀s' ks',Moved (S::wr) G s s'->(∀k a,IsTupleKey knd s.heap k a->IsTupleKey knd s'.heap k a)->TS knd U s'.heap S led ks'->(∀x,x∈ks' ↔ ∃j,j<n/\key j=x)->R (.ok (.ret .none)) s') ->
     codeAny (model prog w) A (.builtin "set.update.loop" ⟨[.ref S,.ref I],[]⟩) R s:=by
 have nw:S ∉ wr:=λx=>hSf (W.sub _ x)
 intro c
 induction c with
 | zero =>
   intro i s ks ec ei st ht hs hx hl r;obtain rfl:i=n:=by omega
   refine codeAny_builtin V7 ?_;rw[Vf WU _];refine wpAny_bind (m:=pyNext (.ref I)) (W.done s _ _ st λs' mv=>?_);have f:∀k a,IsTupleKey knd s.heap k a->IsTupleKey knd s'.heap k a:=λk a x=>sW x λo eo=>mv.heap a o (hI i s a k st x) eo
   exact wpAny_pure (r s' ks (mv.mono λ_ q=>.tail _ q) f (hs.same (λo eo=>mv.heap S o nw eo) f) hx)
 | succ c ih =>
   intro i s ks ec ei st ht hs hx hl r;have lt:i<n:=by omega
   refine codeAny_builtin V7 ?_;rw[Vf WU _];refine wpAny_bind (m:=pyNext (.ref I)) (W.item i s _ _ lt st λv s' pv st' mv=>?_);obtain rfl:=hval i v pv;have f:∀k a,IsTupleKey knd s.heap k a->IsTupleKey knd s'.heap k a:=λk a x=>sW x λo eo=>mv.heap a o (hI i s a k st x) eo
   have hs':=hs.same (λo eo=>mv.heap S o nw eo) f;refine wpAny_bind (m:=holding [Value.ref (ad i)] (setAdd S (.ref (ad i)))) (wpAny_holding ?_);unfold setAdd;refine wpAny_holding (wpAny_bind (wpAny_pyHash_tuple (by exact hu) (f _ _ (ht i lt)) ?_));refine Yj hv (s:={s' with toks:=s'.toks+((key i).length+1)}) (by exact hu) hs' (f _ _ (ht i lt)) (hU i lt) (by omega) λh2 ks2 sb ts2 y1 y2 b=>?_
   have so:=hs';obtain⟨o9,_,_,_,g1,_,g2,_⟩:=so;have f2:∀k a,IsTupleKey knd s'.heap k a->IsTupleKey knd h2 k a:=λk a x=>Ir x g1 g2 sb
   have ic:∀x,x∈ks2 ↔ ∃j,j<i+1/\key j=x:=λx=>by
     have old:x∈ks2 ↔ x=key i\/x∈ks:=by
       by_cases d:key i∈ks
       . rw[y1 d];exact⟨.inr,λq=>q.elim (λe=>e ▸ d) id⟩
       . rw[(y2 d).mem_iff,wz]
     rw[old,hx]
     constructor
     . rintro (rfl | ⟨j,j1,j2⟩)
       . exact⟨i,by omega,rfl⟩
       . exact⟨j,by omega,j2⟩
     . rintro ⟨j,j1,j2⟩
       rcases WA (Va j1)with e | e
       . subst e;exact .inl j2.symm
       . exact .inr ⟨j,e,j2⟩
   have len2:ks2.length<=i+1:=by
     by_cases d:key i∈ks
     . rw[y1 d];omega
     . rw[(y2 d).length_eq,wV];omega
   refine wpAny_pure ⟨plainId_quiet WU _,ih (i+1) _ ks2 (by omega) lt (W.frame _ s' _ _ st' (We _ _) λz hz o e=>?_) (λj hj=>f2 _ _ (f _ _ (ht j hj))) ts2 ic len2 λs3 ks3 mv3 f3 ts3 m3=>?_⟩
   . rw[sb.2 z (λq=>hSf (q ▸ hz))];exact e
   . refine r s3 ks3 (Moved.trans W.gtrans ((mv.mono λ_ q=>.tail _ q).then_heap (We _ _) λz o hz e=>?_) mv3) (λk a x=>f3 k a (f2 k a (f k a x))) ts3 m3
     rw[sb.2 z (λq=>hz (q ▸ .head _))];exact e
end
def hW(led:Bool):Obj:={cls:=.type "set",dict:=none,data:=.set #[] 0 (.fresh 0 0 led)}
def fF(w:World):Bool:=!(w.params.followText "set-order")
section
variable{prog:Program}{w:World}{K:Type}[DecidableEq K]{knd:KeyKind prog w K}{U:Addr->List K->Prop}{A:Around}{E:Value->Shared->Prop}{s:Shared}
theorem Sv(x:Value){Q:Value->Shared->Prop}(q:Q (.ref s.heap.objs.size) {s with heap:=s.heap.push (hW (fF w))}) :
   codeAny (model prog w) A (.call (.builtin "set.__new__") ⟨[.type "set",x],[]⟩) (wants Q E) s:=by
 refine codeAny_of_tree ?_;refine wpAny_bind (m:=checkBuiltinCall "set.__new__" ⟨[.type "set",x],[]⟩) (wpAny_of_eq (F.newCall_set_1 x) (wpAny_pure ?_));refine⟨plainId_quiet XT _,codeAny_builtin F.entry_set_new ?_⟩;rw[Vf XT _];unfold Builtin.«set.__new__» ui;have sub:=sub_set_self;obtain⟨z1,z2,z3,z4,z5⟩:=s;dsimp only
 wp_walk
 refine wpAny_askSetting (wpAny_pure ?_);dsimp only;simp only[newObj];exact wpAny_bind (wpAny_alloc (wpAny_pure (wpAny_pure q)))
end
end TB
namespace TB
open PySem PySem.W PyProof.Rows
inductive Dr{α : Type}(n:Nat)(φ : α -> Prop):KasT α -> Prop
 | ret {a : α} : φ a->Dr n φ (.ret a)
 | ask {i j:Nat} {k:Bool->KasT α} : i<n->j<n->(∀b,Dr n φ (k b))->Dr n φ (.ask i j k)
section
variable{n:Nat}(h1:1<=n)
include h1
end
section
variable{prog:Program}{w:World}{A:Around}{E:Value->Shared->Prop}{s:Shared}
end
structure rh(w:World)(h:Heap)(a:Addr)(es:Array (Int × Value))(ep:Nat)(t:SetTable):Prop where
 at':∃o,h.get? a=some o/\o.ExactSet/\o.data=.set es ep t
 fits:t.fits es.size=true
 size:t.place.size=es.size
 iW:jt t.place
 plain:t.plain=true
 led:t.led=fF w
 bX:es.size<=4000
theorem rh.same{w:World}{h g:Heap}{a:Addr}{es:Array (Int × Value)}{ep:Nat}{t:SetTable}(x:rh w h a es ep t)(e:∀o,h.get? a=some o->g.get? a=some o):rh w g a es ep t :=
 ⟨let ⟨o,h1,r⟩:=x.at';⟨o,e o h1,r⟩,x.fits,x.size,x.iW,x.plain,x.led,x.bX⟩
section
variable{prog:Program}{w:World}{A:Around}{E:Value->Shared->Prop}{s:Shared}{a:Addr}{es:Array (Int × Value)}{ep:Nat}{t:SetTable}
end
section
variable{prog:Program}{w:World}{A:Around}{E:Value->Shared->Prop}{s:Shared}{a it:Addr}{es:Array (Int × Value)}{ep:Nat}{t:SetTable}{i:Nat}
end
section
variable{prog:Program}{w:World}{A:Around}{E:Value->Shared->Prop}{s:Shared}
end
end TB
namespace L2
open PySem PySem.Spec PyProof.Rows GM
def lH(w:World)(a:Addr)(ws:List V):HO:=.ext λh=>∃es ep t,TB.rh w h a es ep t/\aM ws (es.toList.map (·.2))
def B7(K:wb)(H:Hp)(v:V)(k:List Int):Prop:=∃q,v=.ref q/\aR K H q (k.map V.int)
theorem items_int{P:Program}{w:World} : ∀{us:List Value}{ns:List Int},IntsAre us ns->ItemsAre (intKind P w) ns us
 | _,_,.nil=>.nil
 | _,_,.cons n t r=>.cons (by show qJ n (Value.int n t)=true;simp[qJ]) (items_int r)
theorem zuZ{P:Program}{w:World}(k:Int)(v:Value)(h:(intKind P w).is k v=true):∃i t,v=.int i t:=by
 have h:qJ k v=true:=h;cases v with
 | int i t=>exact⟨i,t,rfl⟩
 | _=>exact absurd h (by simp[qJ])
theorem Inv.key{X:Cx}{pins:List (Addr × Obj)}{σ : List (Option V)}{H:Hp}{s:Shared}(I:Inv X pins σ H s){q:Addr}{k:List Int}(h:aR X.K H q (k.map V.int)):IsTupleKey (intKind X.prog X.w) s.heap k q:=by
 obtain⟨its,r,⟨o,e,hc,n,hd⟩,_⟩:=I.tuple h;exact⟨o,its.toArray,n,e,hc,hd,items_int (yJ r)⟩
theorem uH:∀{ws:List V}{us:List Value},aM ws us->∀{i:Nat}{q:Addr},ws[i]? = some (.ref q)->us[i]? = some (.ref q)
 | _,_,.nil,i,q,h=>by simp at h
 | _,_,.cons r1 r2,0,q,h=>by
  simp only[List.getElem?_cons_zero,Qa]at h ⊢;subst h;exact r1
 | _,_,.cons r1 r2,i+1,q,h=>by
  simp only[Qu]at h ⊢;exact uH r2 h
def uU:Value->V
 | .ref a=>.ref a
 | _=>.bj
theorem LG:∀(us:List Value),(∀u∈us,∃a,u=.ref a)->aM (us.map uU) us
 | [],_=>.nil
 | u::us,h=>by
  obtain⟨a,rfl⟩:=h u (wu ..);exact .cons rfl (LG us λu hu=>h u (wo _ hu))
theorem ZO(es:List (Int × Value))(h:∀e∈es,∃a,e.2=.ref a):aM (es.map λe=>uU e.2) (es.map (·.2)):=by
 have:=LG (es.map (·.2)) λu hu=>by
  obtain⟨e,he,rfl⟩:=wJ.mp hu;exact h e he
 rwa[Vn]at this
theorem m8{α : Type}[DecidableEq α]:∀{ks l:List α},ks.Nodup->(∀x∈ks,x∈l)->ks.length<=l.length
 | [],l,_,_=>vV _
 | k::ks,l,h,hs=>by
  rw[Wi]at h;have hk:=hs k (wu ..);have:=m8 (l:=l.erase k) h.2 λx hx=>(xg (λe=>h.1 (by rw[<- e];exact hx))).mpr (hs x (wo _ hx))
  rw[Qo hk]at this;have:=VA hk;rw[wV];omega
def Az(w:World):List V->Hp->VK->Prop:=λxs H Q=>∃(p:Addr)(ws:List V),xs=[.ref p]/\H p=some (lH w p ws)/\Q (.int (ws.length:Int)) H
theorem I_{X:Cx} : aO X (.builtin "len") (Az X.w):=by
 intro pins s σ H xs us Q I r h;obtain⟨p,ws,rfl,hp,q⟩:=h;obtain⟨u,rfl,rx⟩:=gk r;cases rx;obtain⟨⟨es,ep,t,y,r'⟩,_,_⟩:=I.aG p _ hp;obtain⟨o,h1,h2,h3⟩:=y.at';have hl:ws.length=es.size:=by have:=r'.length;simpa using this
 have:=y.bX;exact PySem.call_len_set h1 h2 h3 y.fits (by omega) ⟨.int (ws.length:Int),H,I.tok _,⟨s.toks+1,by rw[hl]⟩,q⟩
end L2
namespace TB
open PySem PySem.W PyProof.Rows MeetsSeq
section
variable{prog:Program}{w:World}{A:Around}{s:Shared}{R:Result->Shared->Prop}
end
end TB
namespace L2
open PySem PySem.Spec PyProof.Rows GM
section
variable{K:wb}{w:World}{H H':Hp}{Q:VK}{v:V}{p l:Addr}{xs ys:List Rat}{us ws:List V}
theorem Ot{r:Rat} : Is K H v (N r) ↔ B7 K H v [r.num,(r.den:Int)]:=lU
theorem Iv{r s:Rat}(h:([r.num,(r.den:Int)]:List Int)=[s.num,(s.den:Int)]):r=s:=by
 simp only[XN,and_true]at h;exact X3 h.1 (by omega)
theorem P9:∀(ks:List (List Int)),(∀k∈ks,∃r:Rat,k=[r.num,(r.den:Int)])->∃ys:List Rat,ks=ys.map λr=>[r.num,(r.den:Int)]
 | [],_=>⟨[],rfl⟩
 | k::ks,h=>by
  obtain⟨r,rfl⟩:=h k (wu ..);obtain⟨ys,rfl⟩:=P9 ks λk hk=>h k (wo _ hk)
  exact⟨r::ys,rfl⟩
theorem LW:∀{ws:List V}{ys:List Rat},ws.length=ys.length->(∀(i:Nat)(v:V)(r:Rat),ws[i]? = some v->ys[i]? = some r->Is K H v (N r))->ak K H ws (ys.map N)
 | [],[],_,_=>.nil
 | [],_::_,h,_=>absurd h (by simp)
 | _::_,[],h,_=>absurd h (by simp)
 | v::ws,y::ys,h,hh=>.cons (hh 0 v y rfl rfl) (LW (by simpa using h) λi v r h1 h2=>hh (i+1) v r (by simpa using h1) (by simpa using h2))
end
end L2
namespace TB
open PySem
section
variable{prog:Program}{w:World}{K:Type}[DecidableEq K]{knd:KeyKind prog w K}{U:Addr->List K->Prop}{A:Around}{E:Value->Shared->Prop}{s:Shared}
set_option maxHeartbeats 3200000 in
theorem RG(hv:∀k v,knd.is k v=true->∃i t,v=.int i t){l:Addr}{its:List Value}{key:Nat->List K}{ad:Nat->Addr}(hh:A.handled=none)(hu:A.units+64<cLine)(hl:s.heap.IsTuple l its.toArray)
   (hi:∀(i:Nat) v,its[i]? = some v->v=.ref (ad i)) (hk:∀i,i<its.length->IsTupleKey knd s.heap (key i) (ad i)) (hn:its.length<=999) (hU:∀j,j<its.length->U (ad j) (key j)) {Q:Value->Shared->Prop}
   (q:∀(g:Heap)(tk:Nat)(ks:List (List K)),TS knd U g s.heap.objs.size (fF w) ks->(∀x,x∈ks ↔ ∃j,j<its.length/\key j=x)->(∀b o,s.heap.get? b=some o->g.get? b=some o)->Q (.ref s.heap.objs.size) {s with heap:=g,toks:=tk}) :
   wpAny (model prog w) A (call (.type "set") [.ref l]) Q E s:=by
 obtain⟨c1,c2,mro⟩:=Vq.mro;have f1:=Vq.made;have f2:=Vq.sub;have f3:=Vq.notType;have f4:=Vq.canCreate;have f5:=F.typeCall_set_1 (.ref l);refine wpAny_call (codeAny_of_tree (show wpAny _ _ (callAny (.type "set") _) _ _ _ from ?_));refine wpAny_pure ⟨Code.quiet_builtin _ (by decide +kernel),codeAny_builtin F.entry_type_call ?_⟩;rw[Around.under_plain (weight_type_call_type "set" [.ref l] []) rfl]
 repeat(any_goals(first | assumption | wp_step))
 have nd:=Sv (prog:=prog) (w:=w) (A:=A.in1) (E:=E) (s:=s) (.ref l) (Q:=λv s1=>v=.ref s.heap.objs.size/\s1 = {s with heap:=s.heap.push (hW (fF w))}) ⟨rfl,rfl⟩;refine codeAny_mono nd λr s1 hr=>?_
 cases r with
 | error e=>exact hr
 | ok fl =>
   cases fl with
   | ret obj =>
     obtain⟨rfl,rfl⟩:=hr;have gS:(s.heap.push (hW (fF w))).get? s.heap.objs.size=some (hW (fF w)):=wB _ rfl;have tS:Shared.TypeIs {s with heap:=s.heap.push (hW (fF w))} (.ref s.heap.objs.size) "set":=⟨_,gS,rfl⟩;have g1:=Vq.init.lookup;have g2:=Vq.init.bind (.ref s.heap.objs.size)
     repeat(any_goals(first | assumption | wp_step))
     refine codeAny_mono (codeAny_call_builtin (R:=wants (λv s2=>v=.none /\ ∃g tk ks,s2 = {s with heap:=g,toks:=tk}/\TS knd U g s.heap.objs.size (fF w) ks/\(∀x,x∈ks ↔ ∃j,j<its.length/\key j=x) /\ ∀b o,s.heap.get? b=some o->g.get? b=some o) E)
       Vq.init.plain F.entry_set_init (check_set_init_1 tS ?_)) λr2 s2 hr2=>?_
     . obtain⟨ol,e1,e2,nl,e3⟩:=hl
       obtain⟨y1,y2,y3,y4⟩:=ol;dsimp only at e2 e3;subst e2;subst e3;have gl:(s.heap.push (hW (fF w))).get? l=some {cls:=.type "tuple",dict:=y2,data:=.seq its.toArray nl,slots:=y4}:=wf _ e1;have n1:=F.sub_tuple_set;have n2:=F.sub_tuple_frozenset;have n3:(Value.type "tuple" == Value.type "dict")=false:=by decide
       have il:(s.heap.push (hW (fF w))).IsTuple l its.toArray:=⟨_,gl,rfl,nl,rfl⟩;unfold Builtin.«set.__init__» noKeywords X7;generalize hPI:pyIter=PI
       wp_walk
       subst hPI;refine wpAny_pyIter_tuple il ?_;refine wpAny_bind (wpAny_runValue ?_);have ls:l<s.heap.objs.size:=wq e1;have zs:(s.heap.push (hW (fF w))).objs.size=s.heap.objs.size+1:=Vh ..;have ne:l≠(s.heap.push (hW (fF w))).objs.size:=by rw[zs];exact wD (W8 ls)
       have nf:s.heap.objs.size ∉ [(s.heap.push (hW (fF w))).objs.size,l]:=by
         rw[zs];intro hm;rcases wz.mp hm with e | hm
         . exact absurd e (wD (Nat.lt_succ_self _))
         . rcases wz.mp hm with e | hm
           . exact absurd e (wR ls)
           . cases hm
       have kp:∀b o,s.heap.get? b=some o->((s.heap.push (hW (fF w))).push {cls:=.type "tuple_iterator",data:=.fields #[.ref l,.int 0 0]}).get? b=some o:=λb o e=>wf _ (wf _ e)
       refine zCJ hv ((Walks.tuple (by simp[hh]) _ l ne its.toArray).toS) (S:=s.heap.objs.size) nf (by show A.units+1+1+1<_;omega) (led:=fF w) (key:=key) (ad:=ad)
         (λi v hp=>hi i v (by simpa using hp)) ?hI (by simpa using hn) (λj hj=>hU j (by simpa using hj)) (its.toArray.size-0) 0 _ [] rfl (vV _) ⟨⟨_,wB _ rfl,rfl,rfl⟩,il.at λo e=>wf _ e⟩
         (λj hj=>sW (hk j (by simpa using hj)) λo eo=>kp _ o eo) (TS.new (wf _ gS)) (λx=>⟨λh=>absurd h VP,λ⟨j,j1,_⟩=>absurd j1 (Wa _)⟩) (wg _) ?fin
       case hI =>
         intro i s9 a9 k9 st9 x9 hm;obtain⟨⟨o8,u1,u2,_⟩,_⟩:=st9;obtain⟨o9,_,_,v1,v2,_⟩:=x9;rcases wz.mp hm with e | hm
         . subst e
           rw[u1]at v1;cases v1;rw[u2]at v2;exact absurd (Value.type.inj v2) (by decide)
         . cases hm
       case fin =>
         intro s9 ks9 mv f9 ts9 m9;obtain⟨g,x1,x2,x3,x4⟩:=s9;obtain rfl:x1=s.gens:=mv.gens;obtain rfl:x2=s.drawn:=mv.drawn;obtain rfl:x4=s.os:=mv.os;refine wpAny_pure (wpAny_pure ⟨rfl,g,x3,ks9,rfl,ts9,by simpa using m9,λb o e=>?_⟩);have lb:b<s.heap.objs.size:=wq e;refine mv.heap b o (λhm=>?_) (kp b o e);rcases wz.mp hm with e' | hm
         . exact absurd e' (wD lb)
         . rcases wz.mp hm with e' | hm
           . rw[zs]at e';exact absurd e' (wD (W8 lb))
           . cases hm
     . cases r2 with
       | error e=>exact hr2
       | ok fl2 =>
         cases fl2 with
         | ret v =>
           obtain⟨rfl,g,tk,ks,rfl,a1,a2,a3⟩:=hr2
           repeat(any_goals(first | assumption | wp_step))
           exact q g tk ks a1 a2 a3
         | _=>exact hr2.elim
   | _=>exact hr.elim
end
end TB
namespace L2
open PySem PySem.Spec PyProof.Rows GM
def zd(K:wb)(w:World):List V->Hp->VK->Prop:=λxs H Q=>∃(p:Addr)(vs:List V)(key:Nat->List Int),xs=[.ref p]/\aR K H p vs/\vs.length<=999/\(∀j v,vs[j]? = some v->B7 K H v (key j)) /\
 ∀(l:Addr)(ws:List V)(ks:List (List Int)),H l=none->ws.length=ks.length->(∀(i:Nat)(v:V)(k:List Int),ws[i]? = some v->ks[i]? = some k->B7 K H v k)->ks.Nodup->(∀x,x∈ks ↔ ∃j,j<vs.length/\key j=x) ->
  Q (.ref l) (upd H l (lH w l ws))
theorem Mn{X:Cx}(hu:X.A.units+64<cLine)(hc:X.calm=true):aO X (.type "set") (zd X.K X.w):=by
 intro pins s σ H xs us Q I r h;obtain⟨p,vs,key,rfl,hq,hn,hk,q⟩:=h;obtain⟨u,rfl,rx⟩:=gk r;cases rx;obtain⟨its,r',pl,hz⟩:=I.tuple hq;have hlen:=r'.length
 have hx:∀j:Nat,∃ad:Addr,∀v,vs[j]? = some v->v=.ref ad/\aR X.K H ad ((key j).map V.int):=λj=>by
  cases e:vs[j]? with
  | none=>exact⟨0,λv h=>by cases h⟩
  | some v =>
   obtain⟨ad,h1,h2⟩:=hk j v e;exact⟨ad,λv' h=>by cases h;exact⟨h1,h2⟩⟩
 obtain⟨ad,had⟩:∃ad:Nat->Addr,∀j v,vs[j]? = some v->v=.ref (ad j)/\aR X.K H (ad j) ((key j).map V.int):=⟨λj=>(hx j).choose,λj=>(hx j).choose_spec⟩;have hg:∀j,j<its.length->∃v,vs[j]? = some v:=λj hj=>⟨vs[j]'(by omega),wc _⟩
 refine TB.RG (knd:=intKind X.prog X.w) (U:=λa k=>aR X.K H a (k.map V.int)) zuZ (key:=key) (ad:=ad) (I.ok.hd hc) hu (let ⟨o,e,hc,n,hd⟩:=pl;⟨o,e,hc,n,hd⟩) (λj v hv=>?_) (λj hj=>?_) (by omega) (λj hj=>?_) λg tk ks hS hm kp=>?_
 ·obtain⟨v',hv'⟩:=hg j (by rcases wt j its.length with h | h;exact h;rw[wA h]at hv;cases hv)
  obtain⟨rfl,_⟩:=had j v' hv';have:=uH r' hv';rw[hv]at this;exact wF this
 ·obtain⟨v',hv'⟩:=hg j hj
  exact I.key (had j v' hv').2
 ·obtain⟨v',hv'⟩:=hg j hj
  exact(had j v' hv').2
 ·obtain⟨o,es,ep,t,e1,e2,e3,e4,e5,e6,e7,e8,e9,e10⟩:=hS
  obtain⟨f1,f2⟩:=e9
  have kl:ks.length<=999:=vA (m8 e10 (l:=(wl its.length).map key) λx hx=>by
   obtain⟨j,h1,h2⟩:=(hm x).mp hx;exact wJ.mpr ⟨j,wx.mpr h1,h2⟩) (by rw[we,wU];omega)
  have hz':es.size=ks.length:=by rw[<- f1,wy]
  have hr:∀e∈es.toList,∃a,e.2=.ref a:=λe he=>by
   obtain⟨i,hi⟩:=Q1.mp he;obtain⟨k,hk'⟩:∃k,ks[i]? = some k:=⟨_,wc (by rw[<- f1];exact(vZ.mp hi).1)⟩;obtain⟨a,h1,_⟩:=f2 i e k hi hk';exact⟨a,h1⟩
  refine⟨.ref s.heap.objs.size,_,I.laid (t':=tk) kp (wg _) (show dh X.prog X.w _ _ _ (lH X.w s.heap.objs.size (es.toList.map λe=>uU e.2))from⟨⟨es,ep,t,⟨⟨o,e1,e2,e3⟩,?_,?_,e4.iW,e8,e7,by omega⟩,?_⟩,⟨o,e1⟩,?_⟩),rfl,
   q _ _ ks (I.aG.fresh (wg _)) (by rw[we];exact f1) (λi v k hv hk'=>?_) e10 λx=>by rw[hlen];exact hm x⟩
  ·have:=e4.fits
   rwa[we,wy]at this
  ·rw[e4.size,we,wy]
  ·exact ZO _ hr
  ·rintro h1 h2 ⟨es',ep',t',a1,a2⟩ hh
   exact⟨es',ep',t',a1.same hh,a2⟩
  ·rw[wn]at hv
   cases e:es.toList[i]? with
   | none=>rw[e]at hv;cases hv
   | some x =>
    rw[e]at hv;cases hv;obtain⟨a,h1,_,_,h2⟩:=f2 i x k e hk';exact⟨a,by show uU x.2=_;rw[h1];rfl,h2⟩
section
variable{K:wb}{w:World}{H H':Hp}{Q:VK}{v:V}{p l:Addr}{xs ys:List Rat}{us ws:List V}
theorem H_(h:Is K H v (TN xs))(hn:xs.length<=999)(q:∀(l:Addr)(H':Hp)(ws:List V)(ys:List Rat),H l=none->ah H H'->H' l=some (lH w l ws)->ak K H' ws (ys.map N)->ys.Nodup->(∀y,y∈ys ↔ y∈xs)->Q (.ref l) H'):zd K w [v] H Q:=by
 obtain⟨p,vs,rfl,hs,t⟩:=bM.mp h;have hl:=t.length;rw[we]at hl;refine⟨p,vs,λj=>[(xs.getD j 0).num,((xs.getD j 0).den:Int)],rfl,hs,by omega,λj v hv=>Ot.mp (de t hv).2,λl ws ks h1 h2 h3 h4 h5=>?_⟩
 obtain⟨ys,rfl⟩:=P9 ks λk hk=>by
  obtain⟨j,_,e⟩:=(h5 k).mp hk;exact⟨_,e.symm⟩
 have S:ah H (upd H l (lH w l ws)):=ah.upd h1;rw[we]at h2;refine q l _ ws ys h1 S cF (LW h2 λi v r hv hr=>(Ot.mpr (h3 i v _ hv (by rw[wn,hr];rfl))).by S) ?_ λy=>?_
 ·unfold List.Nodup at h4 ⊢
  rw[VC]at h4;exact h4.imp λ{a b} h e=>h (by rw[e])
 ·have:=h5 [y.num,(y.den:Int)]
  constructor
  ·intro hy
   obtain⟨j,hj,e⟩:=this.mp (wJ.mpr ⟨y,hy,rfl⟩);rw[<- Iv e];exact getD_mem (by omega)
  ·intro hy
   obtain⟨j,hj,e⟩:=wK hy;obtain⟨r,hr,er⟩:=wJ.mp (this.mpr ⟨j,by omega,by show [(xs.getD j 0).num,((xs.getD j 0).den:Int)]=_;rw[wa,wc hj,qo,e]⟩);rw[<- Iv er];exact hr
end
end L2
namespace GM
def Rb(c:Int)(u:List Int):Nat->Int->Int
 | 0,p=>p
 | k+1,p=>if c<=p then p else Rb c u k (p+u.getD p.toNat 0)
def Zc(n:Nat)(t:List Int):Prop:=∃a b d:Nat,t=[(a:Int),(b:Int),(d:Int)]/\a<n/\b<n/\a≠b/\d<=4
structure zC9(rs:List Int)(us ts:List (List Int)):Prop where
 n1:1<=rs.length
 n8:rs.length<=8
 r:∀r∈rs,1<=r/\r<=60
 ul:us.length=rs.length
 u:∀i,i<rs.length->((us.getD i []).length:Int)=rs.getD i 0 /\ ∀x∈us.getD i [],0<=x/\x<=60
 tl:ts.length<=60
 t:∀t∈ts,Zc rs.length t
 nd:ts.Nodup
def zC0(g:List Nat)(w d:Nat)(t:List Int):Bool:=decide ((t.getD 0 0).toNat∈g)&&(decide (t.getD 1 0=(w:Int))&&decide (t.getD 2 0=(d:Int)))
def Y_(ts:List (List Int))(g:List Nat)(w d:Nat):Nat:=(ts.filter (zC0 g w d)).length
section
variable(rs:List Int)(us ts:List (List Int))(ps cs:List Int)
def Uc(g:List Nat)(w:Nat):Int:=Rb (rs.getD w 0) (us.getD w []) ((cs.getD w 0).toNat+Y_ ts g w 0) (ps.getD w 0+1)
def fresh(g:List Nat):List Nat:=(wl rs.length).filter λw=>!decide (w∈g)&&decide (rs.getD w 0<=Uc rs us ts ps cs g w)
def C3:Nat->List Nat->List (List Nat)
 | 0,_=>[]
 | f+1,g=>if fresh rs us ts ps cs g=[]then []else fresh rs us ts ps cs g::C3 f (g++fresh rs us ts ps cs g)
def As:Nat->List Nat->List Nat
 | 0,g=>g
 | f+1,g=>if fresh rs us ts ps cs g=[]then g else As f (g++fresh rs us ts ps cs g)
end
section
variable{rs:List Int}{us ts:List (List Int)}{ps cs:List Int}
structure TU(n:Nat)(g:List Nat):Prop where
 nd:g.Nodup
 lt:∀w∈g,w<n
end
section
variable(rs:List Int)(us ts:List (List Int))(ps cs:List Int)
structure Run(f:Nat)(g:List Nat)(acc:List (List Nat)):Prop where
 go:TU rs.length g
 fl:rs.length<f+g.length
 ws:acc++C3 rs us ts ps cs f g=C3 rs us ts ps cs 9 []
 ge:As rs us ts ps cs f g=As rs us ts ps cs 9 []
end
section
variable{rs:List Int}{us ts:List (List Int)}{ps cs:List Int}{f:Nat}{g:List Nat}{acc:List (List Nat)}
end
section
variable(rs:List Int)(us ts:List (List Int))(ps:List Int)(cm:List (List Int))
end
structure zDf(rs:List Int)(ps:List Int)(cm:List (List Int)):Prop where
 pl:ps.length=rs.length
 p:∀i,i<rs.length->0<=ps.getD i 0/\ps.getD i 0<rs.getD i 0
 cl:cm.length=4
 c:∀d,d<4->(cm.getD d []).length=rs.length /\ ∀i,i<rs.length->0<=(cm.getD d []).getD i 0/\(cm.getD d []).getD i 0<=240-60*(d:Int)
section
variable{rs:List Int}{us ts:List (List Int)}{ps:List Int}{cm:List (List Int)}
end
end GM
namespace L2
open PySem PySem.Spec PyProof.Rows GM
section
variable{K:wb}{H H':Hp}{Q:VK}{v:V}{rs ps:List Int}{us ts cm rows:List (List Int)}{m:Int}{ws:List (List Nat)}
end
theorem Uo{i:Nat}{te:TE}{ti:oJ}{D:cc}{σ : L2.St}{H:Hp}(h:∃x,σ[i]? = some (some x)/\te σ H λy H1=>ti x y H1 λz H2=>D.nx (σ.set i (some z)) H2):N8 i te ti D σ H:=h
theorem zy3{v:V}{P:V->Prop}{o:Option (Option V)}(h:o=some (some v))(q:P v):∃x,o=some (some x)/\P x:=⟨v,h,q⟩
theorem zBe{f:Int->Int->Int}{m n:Int}{H:Hp}{Q:VK}(q:Q (.int (f m n)) H):Ny f (.int m) (.int n) H Q:=⟨m,n,rfl,rfl,q⟩
end L2
namespace TB
open PySem PySem.W PyProof.Rows
inductive dH{α β : Type}(R : α -> β -> Prop):List α -> List β -> Prop
 | nil:dH R [] []
 | cons {a : α} {b : β} {l:List α} {m:List β} : R a b->dH R l m->dH R (a::l) (b::m)
structure HV(prog:Program)(w:World)(K:Type)[DecidableEq K] where
 is:Heap->K->Value->Prop
 hash:K->Int
 draws:K->Nat
 deep:Nat
 inj:∀{h:Heap}{v:Value}{x y:K},is h x v->is h y v->x=y
 keeps:∀{h h':Heap}{k:K}{v:Value}{d:Addr}{o:Obj}{es ep},is h k v->h.get? d=some o->o.data=.dict es ep->wS d h h'->is h' k v
 pyHash:∀{A:Around}{E:Value->Shared->Prop}{s:Shared}{k:K}{v:Value}{Q:Int->Shared->Prop},A.units+deep<cLine->is s.heap k v->Q (hash k) {s with toks:=s.toks+draws k}->wpAny (model prog w) A (PySem.pyHash v) Q E s
 eqBool:∀{A:Around}{E:Value->Shared->Prop}{s:Shared}{x y:K}{u v:Value}{Q:Bool->Shared->Prop},A.units+deep<cLine->is s.heap x u->is s.heap y v->Q (decide (x=y)) s->wpAny (model prog w) A (PySem.eqBool u v) Q E s
 quiet:∀{A:Around}{E:Value->Shared->Prop}{s:Shared}{k:K}{v:Value}{Q:Bool->Shared->Prop}(n:Nat),deep<=n->is s.heap k v->Q true s->wpAny (model prog w) A (eqIsQuiet n v) Q E s
section
variable{prog:Program}{w:World}{A:Around}{E:Value->Shared->Prop}{s:Shared}
theorem Ia{a:Addr}{o:Obj}{items:Array Value}{n:Nat}{hs:List (Int × Nat)}{Q:Int->Shared->Prop}(hu:A.units<cLine)(ho:s.heap.get? a=some o)(hc:o.cls=.type "tuple")(hd:o.data=.seq items n)
   (hi:dH (λv (x:Int × Nat)=>∀(E:Value->Shared->Prop)(Q:Int->Shared->Prop)(s':Shared),s'.heap=s.heap->Q x.1 {s' with toks:=s'.toks+x.2}->wpAny (model prog w) A.in1 (pyHash v) Q E s') items.toList hs)
   (h:Q (reduceHash (vx (hs.map (·.1)))) {s with toks:=s.toks+((hs.map (·.2)).sum+1)}) :
   wpAny (model prog w) A (pyHash (.ref a)) Q E s:=by
 have hT:s.TypeIs (.ref a) "tuple":=⟨o,ho,hc⟩;unfold pyHash
 first | unfold pyHashByItsType | skip
 first | refine wpAny_bind (wpAny_cRoomFor_or (.inr hu) ?_) | skip
 refine wpAny_bind (wpAny_specialOf hT VD.lookup ?_)
 show wpAny _ _ (if(some (Value.builtin "tuple.__hash__") == some Value.none)=true then _ else _) Q E s
 rw[if_neg (by rw[beq_builtin_none];exact w5)];refine wpAny_bind (wpAny_specialOf hT VD.lookup ?_)
 show wpAny _ _ (callSpecialIfBoundUnlessNone? (.ref a) "__hash__" _ >>= _) Q E s
 refine wpAny_bind (wpAny_callSpecialIfBoundUnlessNone?_slot hT VD (wpAny_call_entry VD hT F.entry_tuple_hash ?_ (F.args_tuple_hash_1 _)))
 show wpAny _ _ (qS (.ref a) >>= _) _ _ s
 refine wpAny_bind (wpAny_tupleItemsOf ho hd ?_);refine wpAny_bind ?_;rw[<- WT]
 refine wpAny_forIn_list _
   (λcO (b:Array Int) s'=>∃done left,hs=done++left/\dH (λv (x:Int × Nat)=>∀(E:Value->Shared->Prop)(Q:Int->Shared->Prop)(s':Shared),s'.heap=s.heap->Q x.1 {s' with toks:=s'.toks+x.2}->wpAny (model prog w) A.in1 (pyHash v) Q E s') cO left/\b.toList=done.map (·.1)/\s' = {s with toks:=s.toks+(done.map (·.2)).sum})
   _ ?_ ?_ _ _ ⟨[],hs,rfl,hi,rfl,rfl⟩
 . rintro x cO b s' ⟨done,left,rfl,hl,hb,rfl⟩
   cases hl with
   | @cons _ k _ ks' h1 hl' =>
     refine wpAny_bind (h1 _ _ _ rfl ?_)
     first
       | exact wpAny_pure ⟨done++[k],ks',by simp,hl',by simp[hb],by simp[W0]⟩
       | exact wpAny_bind (wpAny_pure (wpAny_pure ⟨done++[k],ks',by simp,hl',by simp[hb],by simp[W0]⟩))
 . rintro b s' ⟨done,left,rfl,hl,hb,rfl⟩
   cases hl;rw[vH]at h
   show wpAny _ _ (retInt (vx b.toList)) _ _ _
   rw[hb];refine wpAny_ret_mkInt ?_
   show wpAny _ _ (if(decide (-(2:Int)^63<=vx (done.map (·.1)))&&decide (vx (done.map (·.1))<2^63))=true then _ else _) Q E _
   unfold reduceHash at h
   by_cases hr:(decide (-(2:Int)^63<=vx (done.map (·.1)))&&decide (vx (done.map (·.1))<2^63))=true
   . rw[if_pos hr]
     rw[if_pos hr]at h;exact wpAny_pure (by simpa [W0] using h)
   . rw[if_neg hr]
     rw[if_neg hr]at h;exact wpAny_bind (wpAny_rule (wpAny_pure (by simpa [W0] using h)))
theorem US{a b:Addr}{oa ob:Obj}{xs ys:Array Value}{na nb:Nat}{bs:List Bool}{P:PySem.Fin->Shared->Prop}(hoa:s.heap.get? a=some oa)(hda:oa.data=.seq xs na)(hob:s.heap.get? b=some ob)(hcb:ob.cls=.type "tuple")(hdb:ob.data=.seq ys nb)
   (hi:dH (λ(p:Value × Value)(c:Bool)=>∀(E:Value->Shared->Prop)(Q:Bool->Shared->Prop),Q c s->wpAny (model prog w) A (eqBool p.1 p.2) Q E s) (xs.toList.zip ys.toList) bs)
   (h:P (.done (.ret (.bool (bs.all id&&xs.size == ys.size)))) s) :
   wpAny (model prog w) A (Builtin.«tuple.__eq__» ⟨[.ref a,.ref b],[]⟩) P E s:=by
 have hTb:s.TypeIs (.ref b) "tuple":=⟨ob,hob,hcb⟩
 show wpAny _ _ (isInstance (.ref b) (.type "tuple") >>= _) _ _ s
 refine wpAny_bind (wpAny_isInstance hTb isSubtype_tuple_tuple ?_);simp only[vR,wL,if_false];refine wpAny_bind (wpAny_tupleItemsOf hoa hda ?_);refine wpAny_bind (wpAny_tupleItemsOf hob hdb ?_);refine wpAny_bind ?_
 refine wpAny_forIn_list _
   (λcO r s'=>r.1=none/\s'=s /\ ∃cs,dH (λ(p:Value × Value)(c:Bool)=>∀(E:Value->Shared->Prop)(Q:Bool->Shared->Prop),Q c s->wpAny (model prog w) A (eqBool p.1 p.2) Q E s) cO cs/\bs.all id=cs.all id)
   _ ?_ ?_ _ _ ⟨rfl,rfl,bs,hi,rfl⟩
 . rintro ⟨u,v⟩ cO r s' ⟨hr,rfl,cs,hcs,hall⟩
   cases hcs with
   | @cons _ c _ cs' h1 h2 =>
     refine wpAny_bind (h1 _ _ ?_);cases c with
     | true =>
       simp only[vR,wL,if_false];exact wpAny_pure ⟨rfl,rfl,cs',h2,by rw[hall];simp⟩
     | false =>
       simp only[qD,if_true];have hf:bs.all id=false:=by rw[hall];simp
       rw[hf,Wv]at h;exact wpAny_bind (wpAny_pure (wpAny_pure (wpAny_pure h)))
 . rintro ⟨r1,r2⟩ s' ⟨hr,rfl,cs,hcs,hall⟩
   simp only at hr;subst hr;refine wpAny_pure ?_;cases hcs;rw[hall]at h;have h':P (.done (.ret (.bool (xs.size == ys.size)))) s':=by simpa using h
   exact h'
theorem J3{a:Addr}{o:Obj}{items:Array Value}{n m:Nat}{Q:Bool->Shared->Prop}(ho:s.heap.get? a=some o)(hc:o.cls=.type "tuple")(hd:o.data=.seq items n)
   (hi:∀v∈items.toList,∀(E:Value->Shared->Prop)(Q:Bool->Shared->Prop),Q true s->wpAny (model prog w) A (eqIsQuiet m v) Q E s) (h:Q true s):wpAny (model prog w) A (eqIsQuiet (m+1) (.ref a)) Q E s:=by
 have hT:s.TypeIs (.ref a) "tuple":=⟨o,ho,hc⟩;unfold eqIsQuiet;refine wpAny_bind (wpAny_specialOf hT QD.lookup ?_)
 show wpAny _ _ (isInstance (.ref a) (.type "tuple") >>= _) _ _ s
 refine wpAny_bind (wpAny_isInstance hT isSubtype_tuple_tuple ?_);simp only[vR,wL,if_false];refine wpAny_bind (wpAny_seqItems ho hd ?_);refine wpAny_bind ?_
 show wpAny _ _ (forIn items _ _) _ _ s
 rw[<- WT];refine wpAny_forIn_list _ (λcO r s'=>r.1=none/\s'=s /\ ∀v∈cO,v∈items.toList) _ ?_ ?_ _ _ ⟨rfl,rfl,λ_ h=>h⟩
 . rintro v cO r s' ⟨hr,rfl,hall⟩
   refine wpAny_bind (hi v (hall v wu) _ _ ?_);simp only[vR,wL,if_false];exact wpAny_pure ⟨rfl,rfl,λu hu'=>hall u (wo _ hu')⟩
 . rintro ⟨r1,r2⟩ s' ⟨hr,rfl,_⟩
   simp only at hr;subst hr;exact wpAny_pure h
theorem Ol{a b:Addr}{oa ob:Obj}{xs ys:Array Value}{na nb:Nat}{bs:List Bool}{Q:Bool->Shared->Prop}(hu:A.units<cLine)(hoa:s.heap.get? a=some oa)(hca:oa.cls=.type "tuple")(hda:oa.data=.seq xs na)(hob:s.heap.get? b=some ob)(hcb:ob.cls=.type "tuple")(hdb:ob.data=.seq ys nb)
   (he:a=b->(bs.all id&&xs.size == ys.size)=true)
   (hi:dH (λ(p:Value × Value)(c:Bool)=>∀(E:Value->Shared->Prop)(Q:Bool->Shared->Prop),Q c s->wpAny (model prog w) A.in1 (eqBool p.1 p.2) Q E s) (xs.toList.zip ys.toList) bs)
   (h:Q (bs.all id&&xs.size == ys.size) s):wpAny (model prog w) A (eqBool (.ref a) (.ref b)) Q E s:=by
 unfold eqBool
 try with_reducible refine wpAny_holding ?_
 show wpAny _ _ (if(Value.ref a == Value.ref b)=true then _ else _) Q E s
 by_cases hab:(Value.ref a == Value.ref b)=true
 . rw[if_pos hab]
   have e:a=b:=by have:=eq_of_beq hab;injection this
   rw[he e]at h;exact wpAny_bind (wpAny_rule (wpAny_pure h))
 . rw[if_neg hab]
   have ta:s.TypeIs (.ref a) "tuple":=⟨oa,hoa,hca⟩;have tb:s.TypeIs (.ref b) "tuple":=⟨ob,hob,hcb⟩
   exact wpAny_bind (wpAny_richCompare_same_room (op:=.Eq) ta tb QD
     (wpAny_call_entry QD ta F.entry_tuple_eq (US hoa hda hob hcb hdb hi ⟨_,rfl,(λe=>nomatch e),wpAny_truthy_bool h⟩) (F.args_tuple_eq_2 _ _)) hu)
end
def j7(R:List Value->Prop)(h:Heap)(v:Value):Prop:=∃a o items n,v=.ref a/\h.get? a=some o/\o.cls=.type "tuple"/\o.data=.seq items n/\R items.toList
theorem j7.inj{R S:List Value->Prop}{h:Heap}{v:Value}(x:j7 R h v)(y:j7 S h v):∃l,R l/\S l:=by
 obtain⟨a,o,items,n,rfl,ho,_,hd,hi⟩:=x;obtain⟨a',o',items',n',e,ho',_,hd',hi'⟩:=y;cases e;obtain rfl:o=o':=wF (ho.symm.trans ho');rw[hd]at hd'
 injection hd' with h1 _
 subst h1;exact⟨_,hi,hi'⟩
theorem j7.keeps{R S:List Value->Prop}{h h':Heap}{v:Value}{d:Addr}{o:Obj}{es ep}(x:j7 R h v)(ho:h.get? d=some o)(hd:o.data=.dict es ep)(hs:wS d h h')(r:∀l,R l->S l):j7 S h' v:=by
 obtain⟨a,o',items,n,rfl,ho',hc,hd',hi⟩:=x
 have hne:a≠d:=by
  rintro rfl;obtain rfl:o'=o:=wF (ho'.symm.trans ho);rw[hd]at hd';exact nomatch hd'
 exact⟨a,o',items,n,rfl,(hs.2 a hne).trans ho',hc,hd',r _ hi⟩
def fm(prog:Program)(w:World):HV prog w Int where
 is:=λ_ k v=>∃t,v=.int k t
 hash:=hashInt
 draws:=λ_=>1
 deep:=0
 inj:=λ⟨t,e⟩ ⟨u,f⟩=>by subst e;injection f
 keeps:=λh _ _ _=>h
 pyHash:=λ_ ⟨t,e⟩ h=>by subst e;exact wpAny_pyHash_int h
 eqBool:=λ_ ⟨t,e⟩ ⟨u,f⟩ h=>by subst e f;exact wpAny_eqBool_int h
 quiet:=λn _ ⟨t,e⟩ h=>by subst e;rw[eqIsQuiet_byValue n rfl];exact wpAny_pure h
section
variable{prog:Program}{w:World}{K:Type}[DecidableEq K](e:HV prog w K)
theorem Mq{A:Around}{s:Shared}(hu:A.in1.units+e.deep<cLine):∀{ks:List K}{vs:List Value},dH (e.is s.heap) ks vs ->
   dH (λv (x:Int × Nat)=>∀(E:Value->Shared->Prop)(Q:Int->Shared->Prop)(s':Shared),s'.heap=s.heap->Q x.1 {s' with toks:=s'.toks+x.2}->wpAny (model prog w) A.in1 (pyHash v) Q E s') vs (ks.map λk=>(e.hash k,e.draws k))
 | _,_,.nil=>.nil
 | _,_,.cons h t=>.cons (λE Q s' he q=>e.pyHash hu (he ▸ h) q) (Mq hu t)
theorem J5{A:Around}{s:Shared}(hu:A.in1.units+e.deep<cLine):∀{ks js:List K}{us vs:List Value},dH (e.is s.heap) ks us->dH (e.is s.heap) js vs ->
   ∃bs,dH (λ(p:Value × Value)(c:Bool)=>∀(E:Value->Shared->Prop)(Q:Bool->Shared->Prop),Q c s->wpAny (model prog w) A.in1 (eqBool p.1 p.2) Q E s) (us.zip vs) bs/\(bs.all id&&us.length == vs.length)=decide (ks=js)
 | _,_,_,_,.nil,.nil=>⟨[],.nil,by simp⟩
 | _,_,_,_,.nil,.cons _ _=>⟨[],.nil,by simp⟩
 | _,_,_,_,.cons _ _,.nil=>⟨[],.nil,by simp⟩
 | k::ks,j::js,_,_,.cons h t,.cons h' t'=>by
   obtain⟨bs,b1,b2⟩:=J5 hu t t';refine⟨decide (k=j)::bs,.cons (λE Q q=>e.eqBool hu h h' q) b1,?_⟩;rw[xj,Bool.and_assoc,wV,wV,show ∀a b:Nat,(a+1 == b+1)=(a == b)from λa b=>by simp,b2]
   by_cases h1:k=j<;>by_cases h2:ks=js<;>simp[h1,h2]
theorem CK{h:Heap} : ∀{ks js:List K}{vs:List Value},dH (e.is h) ks vs->dH (e.is h) js vs->ks=js
 | _,_,_,.nil,.nil=>rfl
 | _,_,_,.cons h t,.cons h' t'=>by rw[e.inj h h',CK t t']
theorem JB{α β : Type}{R S : α -> β -> Prop}(f:∀a b,R a b->S a b):∀{l:List α}{m:List β},dH R l m->dH S l m
 | _,_,.nil=>.nil
 | _,_,.cons h t=>.cons (f _ _ h) (JB f t)
theorem Jc{α β : Type}{R : α -> β -> Prop} : ∀{l:List α}{m:List β},dH R l m->∀y∈m,∃x,R x y
 | _,_,.nil,y,hy=>by cases hy
 | _,_,.cons h t,y,hy=>by
  rcases wz.mp hy with rfl | hy
  ·exact⟨_,h⟩
  ·exact Jc t y hy
def fC:HV prog w (List K) where
 is:=λh ks v=>j7 (dH (e.is h) ks) h v
 hash:=λks=>reduceHash (vx ((ks.map λk=>(e.hash k,e.draws k)).map (·.1)))
 draws:=λks=>((ks.map λk=>(e.hash k,e.draws k)).map (·.2)).sum+1
 deep:=e.deep+1
 inj:=λx y=>by
  obtain⟨l,h1,h2⟩:=x.inj y;exact CK e h1 h2
 keeps:=λx ho hd hs=>x.keeps ho hd hs λl h=>JB (λa b r=>e.keeps r ho hd hs) h
 pyHash:=λ{A E s k v Q} hu x h=>by
  obtain⟨a,o,items,n,rfl,ho,hc,hd,hi⟩:=x;exact Ia (by omega) ho hc hd (Mq e (show A.units+1+e.deep<cLine by omega) hi) h
 eqBool:=λ{A E s x y u v Q} hu hx hy h=>by
  have hj:u=v->x=y:=λev=>by
   subst ev;obtain⟨l,h1,h2⟩:=hx.inj hy;exact CK e h1 h2
  obtain⟨a,o,items,n,rfl,ho,hc,hd,hi⟩:=hx;obtain⟨a',o',items',n',rfl,ho',hc',hd',hi'⟩:=hy;obtain⟨bs,b1,b2⟩:=J5 e (A:=A) (show A.units+1+e.deep<cLine by omega) hi hi';have b3:(bs.all id&&items.size == items'.size)=decide (x=y):=by rw[<- b2];rfl
  refine Ol (by omega) ho hc hd ho' hc' hd' (λea=>?_) b1 (by rw[b3];exact h);rw[b3];exact decide_eq_true (hj (by rw[ea]))
 quiet:=λ{A E s k v Q} n hn x h=>by
  obtain⟨a,o,items,m,rfl,ho,hc,hd,hi⟩:=x;obtain⟨j,rfl⟩:∃j,n=j+1:=⟨n-1,by omega⟩
  exact J3 ho hc hd (λu hu E Q q=>by
   obtain⟨x,hx⟩:=Jc hi u hu;exact e.quiet j (by omega) hx q) h
end
section
variable{prog:Program}{w:World}{J K:Type}[DecidableEq J][DecidableEq K](d:HV prog w J)(e:HV prog w K)
def Two(h:Heap)(k:J × K)(l:List Value):Prop:=∃u v,l=[u,v]/\d.is h k.1 u/\e.is h k.2 v
def MK:HV prog w (J × K) where
 is:=λh k v=>j7 (Two d e h k) h v
 hash:=λk=>reduceHash (vx ([(d.hash k.1,d.draws k.1),(e.hash k.2,e.draws k.2)].map (·.1)))
 draws:=λk=>([(d.hash k.1,d.draws k.1),(e.hash k.2,e.draws k.2)].map (·.2)).sum+1
 deep:=max d.deep e.deep+1
 inj:=λ{h v x y} hx hy=>by
  obtain⟨l,⟨u,v,rfl,h1,h2⟩,u',v',e',h3,h4⟩:=hx.inj hy;cases e';exact qm (d.inj h1 h3) (e.inj h2 h4)
 keeps:=λx ho hd hs=>x.keeps ho hd hs λl ⟨u,v,r,h1,h2⟩=>⟨u,v,r,d.keeps h1 ho hd hs,e.keeps h2 ho hd hs⟩
 pyHash:=λ{A E s k v Q} hu x h=>by
  obtain⟨a,o,items,n,rfl,ho,hc,hd,u,v,hl,h1,h2⟩:=x
  exact Ia (by omega) ho hc hd (by
   rw[hl];exact .cons (λE Q s' he q=>d.pyHash (show A.units+1+d.deep<cLine by omega) (he ▸ h1) q) (.cons (λE Q s' he q=>e.pyHash (show A.units+1+e.deep<cLine by omega) (he ▸ h2) q) .nil)) h
 eqBool:=λ{A E s x y u v Q} hu hx hy h=>by
  have hj:u=v->x=y:=λev=>by
   subst ev;obtain⟨l,⟨u,v,rfl,h1,h2⟩,u',v',e',h3,h4⟩:=hx.inj hy;cases e';exact qm (d.inj h1 h3) (e.inj h2 h4)
  obtain⟨a,o,items,n,rfl,ho,hc,hd,u,v,hl,h1,h2⟩:=hx;obtain⟨a',o',items',n',rfl,ho',hc',hd',u',v',hl',h1',h2'⟩:=hy
  have b3:([decide (x.1=y.1),decide (x.2=y.2)].all id&&items.size == items'.size)=decide (x=y):=by
   rw[<- wy,<- wy,hl,hl'];obtain⟨x1,x2⟩:=x;obtain⟨y1,y2⟩:=y
   by_cases h1:x1=y1<;>by_cases h2:x2=y2<;>simp[h1,h2]
  refine Ol (bs:=[decide (x.1=y.1),decide (x.2=y.2)]) (by omega) ho hc hd ho' hc' hd' (λea=>?_) ?_ (by rw[b3];exact h)
  ·rw[b3]
   exact decide_eq_true (hj (by rw[ea]))
  ·rw[hl,hl']
   exact .cons (λE Q q=>d.eqBool (show A.units+1+d.deep<cLine by omega) h1 h1' q) (.cons (λE Q q=>e.eqBool (show A.units+1+e.deep<cLine by omega) h2 h2' q) .nil)
 quiet:=λ{A E s k v Q} n hn x h=>by
  obtain⟨a,o,items,m,rfl,ho,hc,hd,u,v,hl,h1,h2⟩:=x;obtain⟨j,rfl⟩:∃j,n=j+1:=⟨n-1,by omega⟩
  exact J3 ho hc hd (λu hu E Q q=>by
   rw[hl]at hu;rcases wz.mp hu with rfl | hu
   ·exact d.quiet j (by omega) h1 q
   ·rw[wO]at hu
    subst hu;exact e.quiet j (by omega) h2 q) h
end
abbrev SK:=List Int × List (List Int)
def jA(prog:Program)(w:World):HV prog w SK:=MK (fC (fm prog w)) (fC (fC (fm prog w)))
def zBl(prog:Program)(w:World):HeapKind prog w SK where
 is:=λh k a=>(jA prog w).is h k (.ref a)
 hash:=(jA prog w).hash
 draws:=(jA prog w).draws
 room:=λA=>A.units+3<cLine
 inj:=λx y=>(jA prog w).inj x y
 keeps:=λx ho hd hs=>(jA prog w).keeps x ho hd hs
 pyHash:=λhu hk h=>(jA prog w).pyHash hu hk h
 eqBool:=λhu hx hy h=>(jA prog w).eqBool hu hx hy h
 quiet:=λhk h=>(jA prog w).quiet 8 (by show 3<=8;decide) hk h
end TB
namespace L2
open PySem PySem.Spec PyProof.Rows GM
open TB (SK zBl jA fC fm MK dH)
theorem LA{P:Program}{w:World}{h:Heap} : ∀{us:List Value}{ns:List Int},IntsAre us ns->dH ((fm P w).is h) ns us
 | _,_,.nil=>.nil
 | _,_,.cons n t r=>.cons ⟨t,rfl⟩ (LA r)
section
variable{X:Cx}{pins:List (Addr × Obj)}{σ : St}{H:Hp}{s:Shared}
theorem Inv.Sa(I:Inv X pins σ H s){v:V}{u:Value}{k:List Int}(h:Is X.K H v (TZ k))(r:aW v u):(fC (fm X.prog X.w)).is s.heap k u:=by
 obtain⟨q,rfl,hs⟩:=nJ.mp h;obtain⟨its,r',⟨o,e,hc,n,hd⟩,_⟩:=I.tuple hs;cases (show u=Value.ref q from r);exact⟨q,o,its.toArray,n,rfl,e,hc,hd,LA (yJ r')⟩
end
def ZI(l:List (Int × Nat)):Int:=reduceHash (vx (l.map (·.1)))
def TQ(ks:List Int):Int:=ZI (ks.map λk=>(hashInt k,1))
section
variable{X:Cx}{pins:List (Addr × Obj)}{σ : St}{H:Hp}{s:Shared}{a b:Addr}{xs:List (SK × Addr × Int)}{ps:List Int}{cm:List (List Int)}{A:Around}{E:Value->Shared->Prop}
end
section
variable{X:Cx}{pos pos':Pos}{i o value:Expr}{ty td tv:TE}
end
section
variable{K:wb}{H H':Hp}{Q:VK}{D:cc}{σ : St}{td ty tv:TE}{a b:Addr}{xs:List (SK × Addr × Int)}{ps:List Int}{cm:List (List Int)}{n:Int}
end
section
variable{X:Cx}{N':List Str}{scope:Scope}{cl:List (Str × Addr)}{src:List (Option Nat)}{elt tgt iter:Expr}{ifs:List Expr}{pos:Pos}{wi:TI}{g:TG}{tt:TT}{te:TE}
end
end L2
namespace TB
open PySem PySem.Spec PyProof.Rows
def dj(prog:Program)(w:World):HeapKind prog w (List Int) where
 is:=λh k a=>(fC (fm prog w)).is h k (.ref a)
 hash:=(fC (fm prog w)).hash
 draws:=(fC (fm prog w)).draws
 room:=λA=>A.units+1<cLine
 inj:=λx y=>(fC (fm prog w)).inj x y
 keeps:=λx ho hd hs=>(fC (fm prog w)).keeps x ho hd hs
 pyHash:=λhu hk h=>(fC (fm prog w)).pyHash hu hk h
 eqBool:=λhu hx hy h=>(fC (fm prog w)).eqBool hu hx hy h
 quiet:=λhk h=>(fC (fm prog w)).quiet 8 (by show 1<=8;decide) hk h
section
variable{prog:Program}{w:World}{K:Type}[DecidableEq K]{knd:HeapKind prog w K}{A:Around}{E:Value->Shared->Prop}{s:Shared}
end
end TB
namespace L2
open PySem PySem.Spec PyProof.Rows GM
open TB (dj fC fm)
abbrev NE:=List Int × Addr × Addr
def pG(x:NE)(e:DictEntry):Prop:=e=⟨TQ x.1,.ref x.2.1,.ref x.2.2⟩
def gE(a:Addr)(ep:Nat)(xs:List NE):HO:=.ext λh=>xs.length<=1000/\(a == sysModules)=false/\(xs.map (·.1)).Nodup /\ ∃o es,h.get? a=some o/\o.ExactDict/\o.data=.dict es ep/\Paired pG xs es.toList
def zc(K:wb)(H:Hp)(xs:List NE):Prop:=∀x∈xs,Is K H (.ref x.2.1) (TZ x.1)
def kW(xs:List NE)(k:List Int):Option Addr:=(xs.find? λx=>decide (x.1=k)).map (·.2.2)
theorem Zo{P:Program}{w:World}{H:Hp}{h:Heap}{a:Addr}{ep:Nat}{xs:List NE}(z:xs.length<=1000)(hd:(a == sysModules)=false)(nd:(xs.map (·.1)).Nodup){o:Obj}{es:Array DictEntry}(ho:h.get? a=some o)(hx:o.ExactDict)(hda:o.data=.dict es ep)(r:Paired pG xs es.toList) :
  dh P w H h a (gE a ep xs):=⟨⟨z,hd,nd,o,es,ho,hx,hda,r⟩,⟨o,ho⟩,λh1 h2 ⟨z,hd,nd,o,es,ho,q⟩ k=>⟨z,hd,nd,o,es,k _ ho,q⟩⟩
def iu(xs:List NE):List (List Int × Addr × Value):=xs.map λx=>(x.1,x.2.1,.ref x.2.2)
theorem zBV{P:Program}{w:World}{xs:List NE}{es:List DictEntry}(r:Paired pG xs es):es=(iu xs).map (entryOfKey (dj P w)):=by
 induction r with
 | nil=>rfl
 | @cons x e xs es hx r ih =>
  show e::es=_::(iu xs).map (entryOfKey (dj P w))
  rw[<- ih,show e=_ from hx]
  rfl
theorem OU{P:Program}{w:World} : ∀xs:List NE,Paired pG xs ((iu xs).map (entryOfKey (dj P w)))
 | []=>.nil
 | x::xs=>.cons rfl (OU xs)
theorem zAQ(xs:List NE)(k:List Int):(atKey (iu xs) k).map (·.2)=(kW xs k).map Value.ref:=by
 induction xs with
 | nil=>rfl
 | cons x xs ih =>
  unfold atKey kW iu at *;rw[wM,XU,XU]
  by_cases e:x.1=k
  ·simp[e]
  ·simp only[e,decide_false]
   exact ih
section
variable{X:Cx}{pins:List (Addr × Obj)}{σ : St}{H:Hp}{s:Shared}{a b q:Addr}{ep:Nat}{xs:List NE}{k:List Int}{A:Around}{E:Value->Shared->Prop}
theorem Inv.nK(I:Inv X pins σ H s)(h:Is X.K H (.ref b) (TZ k)):(dj X.prog X.w).is s.heap k b:=I.Sa h rfl
theorem Inv.HG(I:Inv X pins σ H s)(e:H a=some (gE a ep xs)):xs.length<=1000/\(a == sysModules)=false/\(xs.map (·.1)).Nodup /\ ∃o es,s.heap.get? a=some o/\o.ExactDict/\o.data=.dict es ep/\Paired pG xs es.toList :=
 (show dh X.prog X.w H s.heap a (gE a ep xs)from I.aG a _ e).1
end
section
variable{X:Cx}{o e f:Expr}{apos cpos pos:Pos}{td ty tx:TE}{tg:Expr}
end
section
variable{K:wb}{H H':Hp}{Q:VK}{D:cc}{σ : St}{td ty tx te:TE}{g:TG}{tt:TT}{a b q:Addr}{ep:Nat}{xs:List NE}{k:List Int}{src:List (Option Nat)}
end
section
variable{X:Cx}{N':List Str}{scope:Scope}{cl:List (Str × Addr)}{src:List (Option Nat)}{elt tgt iter:Expr}{ifs:List Expr}{pos:Pos}{wi:TI}{g:TG}{tt:TT}{te:TE}
end
end L2
namespace TB
open PySem PySem.W PyProof.Rows
theorem Na:entryFor table "dict.update.loop"=some Builtin.«dict.update.loop»:=entryFor_of_tree (by kernel_rfl)
theorem t_:plainId "dict.update.loop"=true:=by decide +kernel
theorem Sq:typeLookup (.type "zip") "keys"=pure none:=am_miss_of_fast (by decide +kernel)
theorem Sx:typeLookup (.type "zip") "__getattr__"=pure none:=by rw[typeLookup_type,builtinLookup_eq_fast];kernel_rfl
theorem Z_:entryFor table "zip.__getattribute__"=some Builtin.«object.__getattribute__» :=
 entryFor_alias (id':="object.__getattribute__") (by kernel_rfl) (by decide +kernel) (by decide +kernel) (by kernel_rfl)
theorem YF(a:Addr)(fs:Array Value)(sl:Array (Option Value))(name:Str)(u:Tok)(hmiss:typeLookup (.type "zip") name=pure none)(hname:(["__module__","__name__","__qualname__","__doc__","__annotations__"]:List Str).contains name=false)(hsz:name.length+100<=sizeLine:=by size_fits) :
   Meets (Builtin.«object.__getattribute__» ⟨[.ref a,.str name u],[]⟩) (λA R s=>s.heap.get? a=some {cls:=.type "zip",dict:=none,data:=.fields fs,slots:=sl}/\raisesAttr (.ref a) name A R s) :=
 Meets.of_wp λprog w A R s hs=>by
   obtain⟨hp,g,d,tk,os⟩:=s;obtain⟨hx,hs⟩:=hs;have hT:(⟨hp,g,d,tk,os⟩:Shared).TypeIs (.ref a) "zip":=⟨_,hx,rfl⟩;unfold Builtin.«object.__getattribute__»
   repeat(any_goals(first | assumption | wp_step))
   simp only[hname,wL,if_false]
   repeat(any_goals(first | assumption | wp_step))
   exact wpAny_raiseAttrError hs.1 hs.2 (attrMsg_fits (by decide +kernel) hsz)
section
variable{prog:Program}{w:World}{A:Around}{E:Value->Shared->Prop}{s:Shared}
theorem zza{a:Addr}{fs:Array Value}{sl:Array (Option Value)}{Q:Option Value->Shared->Prop}
   (hx:s.heap.get? a=some {cls:=.type "zip",dict:=none,data:=.fields fs,slots:=sl}) (hA:A.handled=none)
   (q:∀h' tk,(∀b ob,s.heap.get? b=some ob->h'.get? b=some ob)->Q none {s with heap:=h',toks:=tk}) :
   wpAny (model prog w) A (getAttr? (.ref a) "keys") Q E s:=by
 obtain⟨hp,g,d,tk,os⟩:=s;have hT:∀tk',(⟨hp,g,d,tk',os⟩:Shared).TypeIs (.ref a) "zip":=λ_=>⟨_,hx,rfl⟩
 have f1:=sub_AttributeError;have f3:=VB.lookup;have f4:=VB.bind (.ref a);have f5:=Sx;unfold getAttr? getAttrBy? getAttrBy
 repeat(any_goals(first | assumption | exact hT _ | ((with_reducible show wpAny _ _ (call (Value.builtin "zip.__getattribute__") _ _) _ _ _);refine call_meets VB (hT _) Z_ (PySem.F.args_zip_getattribute_2 _ _) (YF a fs sl "keys" _ Sq (by decide +kernel)) ⟨hx,hA,λh' tk' e hx'=>?_⟩) | wp_step))
 obtain⟨t',u',he⟩:=hx'.there
 show wpAny _ _ (getattributeRaised _ _ _ _ _ _ _) _ _ _
 unfold getattributeRaised
 repeat(any_goals(first | assumption | wp_step))
 exact q _ _ hx'.keeps
theorem zw3{p:Addr}{x y:Value}(h:IsPair s.heap p x y){Q:List Value->Shared->Prop}(q:Q [x,y] s):wpAny (model prog w) A (QW (.ref p)) Q E s:=by
 have hT:s.TypeIs (.ref p) "tuple":=⟨_,h,rfl⟩;unfold QW;refine wpAny_bind (wpAny_typeOf hT ?_);rw[if_pos (by decide)];refine wpAny_bind (wpAny_seqItems h rfl ?_);exact wpAny_pure q
abbrev lA(h:Heap)(z TI TO p:Addr)(f:Bool):Prop :=
 h.get? z=some {cls:=.type "zip",dict:=none,data:=.fields #[rawInt p,.bool f,.bool false,.ref TI,.ref TO],slots:=#[]}
end
section
variable{prog:Program}{w:World}{A:Around}{E:Value->Shared->Prop}{s:Shared}{z TI TO i1 i2 p:Addr}{f:Bool}{f1 f2:List Addr}{n1 n2 k:Nat}{P1 P2:Nat->Value->Prop}{S1 S2:Nat->Heap->Prop}{a b:Value}
theorem K0{op:Obj}{Q:Bool->Shared->Prop}(hz:lA s.heap z TI TO p f)(hp:s.heap.get? p=some op)
   (q:∀g,lA g z TI TO p true->wS z s.heap g->Q false {s with heap:=g}):wpAny (model prog w) A (w9 (.ref z)) Q E s:=by
 unfold w9;refine wpAny_bind (wpAny_field hz rfl (x:=rawInt p) rfl ?_)
 show wpAny _ _ (loadIfAlive ((p:Int).toNat) >>= _) _ _ _
 rw[wE];refine wpAny_bind (kdx_alive hp ?_);simp only[Option.isNone_some,wL,if_false];refine wpAny_bind (wpAny_field hz rfl (x:=.bool f) rfl ?_);cases f with
 | true =>
   rw[if_neg (show ¬ ((Value.bool true != Value.bool true)=true)from w5)];exact wpAny_pure (q _ hz (xZ _ _))
 | false =>
   rw[if_pos (show(Value.bool false != Value.bool true)=true from rfl)];refine wpAny_bind (wpAny_setField_rec hz (by simp) λg hg sb=>?_);exact wpAny_pure (q g hg sb)
theorem UP{op:Obj}{Q:Value->Shared->Prop}(D1:Draws prog w A i1 f1 n1 P1 S1)(D2:Draws prog w A i2 f2 n2 P2 S2)(ap:L2.ZA z TI TO i1 i2 f1 f2)(hz:lA s.heap z TI TO p f)(hi:IsPair s.heap TI (.ref i1) (.ref i2))(hp:s.heap.get? p=some op)
   (h1:S1 k s.heap) (h2:S2 k s.heap) (l1:k<n1) (l2:k<n2)
   (fin:∀x y h' tk,P1 k x->P2 k y->lA h' z TI TO p true->S1 (k+1) h'->S2 (k+1) h'->IsPair h' s.heap.objs.size x y ->
     (∀c o,c≠z->c≠i1->c≠i2->s.heap.get? c=some o->h'.get? c=some o)->Q (.ref s.heap.objs.size) {s with heap:=h',toks:=tk}) :
   wpAny (model prog w) A (Builtin.«zip.__next__» ⟨[.ref z],[]⟩) (λr s'=>∃v,r=.done (.ret v)/\Q v s') E s:=by
 show wpAny _ _ (field (.ref z) 2 >>= _) _ _ _;refine wpAny_bind (wpAny_field hz rfl (x:=.bool false) rfl ?_)
 show wpAny _ _ (field (.ref z) 3 >>= _) _ _ _;refine wpAny_bind (wpAny_field hz rfl (x:=.ref TI) rfl ?_)
 refine wpAny_bind (wpAny_seqItems hi rfl ?_);show wpAny _ _ (w9 (.ref z) >>= _) _ _ _
 refine wpAny_bind (K0 hz hp λg0 hz0 sb0=>?_);have sb0:wS z s.heap g0:=sb0;simp only[wL,if_false];refine wpAny_bind ?_;rw[<- WT];simp only[VX,qH];have h1a:S1 k g0:=D1.frame _ _ _ h1 λc hc o e=>sb0.extBut c o (λq=>ap.b1 (q ▸ hc)) e
 have h2a:S2 k g0:=D2.frame _ _ _ h2 λc hc o e=>sb0.extBut c o (λq=>ap.b2 (q ▸ hc)) e
 refine wpAny_bind (wpAny_bind (wpAny_holding ?_))
 show wpAny _ _ (vb (.ref i1) >>= _) _ _ _
 refine wpAny_bind (D1.item k _ _ _ l1 h1a λx g1 t1 px h1b sb1=>wpAny_pure ?_);have sb1:wS i1 g0 g1:=sb1;have h2b:S2 k g1:=D2.frame _ _ _ h2a λc hc o e=>sb1.extBut c o (λq=>ap.b5 (q ▸ hc)) e
 refine wpAny_pure ?_;refine wpAny_bind (wpAny_bind (wpAny_holding ?_))
 show wpAny _ _ (vb (.ref i2) >>= _) _ _ _
 refine wpAny_bind (D2.item k _ _ _ l2 h2b λy g2 t2 py h2c sb2=>wpAny_pure ?_);have sb2:wS i2 g1 g2:=sb2;have h1c:S1 (k+1) g2:=D1.frame _ _ _ h1b λc hc o e=>sb2.extBut c o (λq=>ap.b6 (q ▸ hc)) e
 refine wpAny_pure (wpAny_pure ?_);refine wpAny_bind (wpAny_newTuple (hsz:=by show 2<=sizeLine;rw[sizeLine_eq];decide) ?_);have hsz:g2.objs.size=s.heap.objs.size:=by rw[sb2.1,sb1.1,sb0.1]
 have kept:∀c o,c≠z->c≠i1->c≠i2->s.heap.get? c=some o->g2.get? c=some o:=λc o c1 c3 c4 e=>sb2.extBut _ _ c4 (sb1.extBut _ _ c3 (sb0.extBut _ _ c1 e))
 have zz:lA g2 z TI TO p true:=sb2.extBut _ _ ap.a4.symm (sb1.extBut _ _ ap.a3.symm hz0);refine wpAny_pure ⟨_,rfl,?_⟩
 show Q (.ref g2.objs.size) _
 have new:IsPair (g2.push {cls:=.type "tuple",data:=.seq #[x,y]}) g2.objs.size x y:=wB _ rfl;rw[hsz]at new ⊢;exact fin x y _ _ px py (wf _ zz) (D1.frame _ _ _ h1c λc hc o e=>wf _ e) (D2.frame _ _ _ h2c λc hc o e=>wf _ e) new λc o c1 c3 c4 e=>wf _ (kept c o c1 c3 c4 e)
theorem UK{op:Obj}{Q:Fin->Shared->Prop}(D1:Draws prog w A i1 f1 n1 P1 S1)(ap:L2.ZA z TI TO i1 i2 f1 f2)(hz:lA s.heap z TI TO p f)(hi:IsPair s.heap TI (.ref i1) (.ref i2))(hp:s.heap.get? p=some op)(h1:S1 n1 s.heap)
   (fin:∀h' e tk,(∀c o,c≠z->c≠i1->s.heap.get? c=some o->h'.get? c=some o)->(∃o,h'.get? e=some o/\o.cls=.type "StopIteration")->E (.ref e) {s with heap:=h',toks:=tk}) :
   wpAny (model prog w) A (Builtin.«zip.__next__» ⟨[.ref z],[]⟩) Q E s:=by
 show wpAny _ _ (field (.ref z) 2 >>= _) _ _ _;refine wpAny_bind (wpAny_field hz rfl (x:=.bool false) rfl ?_)
 show wpAny _ _ (field (.ref z) 3 >>= _) _ _ _;refine wpAny_bind (wpAny_field hz rfl (x:=.ref TI) rfl ?_)
 refine wpAny_bind (wpAny_seqItems hi rfl ?_);show wpAny _ _ (w9 (.ref z) >>= _) _ _ _
 refine wpAny_bind (K0 hz hp λg0 hz0 sb0=>?_);have sb0:wS z s.heap g0:=sb0;simp only[wL,if_false];refine wpAny_bind ?_;rw[<- WT];simp only[VX,qH];have h1a:S1 n1 g0:=D1.frame _ _ _ h1 λc hc o e=>sb0.extBut c o (λq=>ap.b1 (q ▸ hc)) e
 refine wpAny_bind (wpAny_bind (wpAny_holding ?_))
 show wpAny _ _ (vb (.ref i1) >>= _) _ _ _
 exact wpAny_bind (D1.done _ _ _ h1a λg1 e sb1 he=>fin g1 e _ (λc o c1 c3 q=>sb1 _ _ c3 (sb0.extBut _ _ c1 q)) he)
end
theorem nG{prog:Program}{w:World}{h h':Heap}{k:List Int}{a:Addr}(x:(dj prog w).is h k a)(e:∀o,h.get? a=some o->h'.get? a=some o):(dj prog w).is h' k a:=by
 obtain⟨a',o,items,n,ea,ho,hc,hd,r⟩:=x;cases ea;exact⟨a,o,items,n,rfl,e o ho,hc,hd,r⟩
def jx(base:Addr)(h h':Heap):Prop:=∀b o,b<base->h.get? b=some o->h'.get? b=some o
theorem jx.trans{base:Addr}{h h' h'':Heap}(x:jx base h h')(y:jx base h' h''):jx base h h'':=λb o hb e=>y b o hb (x b o hb e)
structure ZB(base z TI TO i1 i2 d a b:Addr):Prop where
 ap:L2.ZA z TI TO i1 i2 [i1,a] [i2,b]
 na:a≠i1
 nb:b≠i2
 bz:base<=z
 bO:base<=TO
 b1:base<=i1
 b2:base<=i2
 bd:base<=d
 dz:d≠z
 dI:d≠TI
 dO:d≠TO
 d1:d≠i1
 d2:d≠i2
 la:a<base
 lb:b<base
def kM(z TI TO i1 i2 d a b:Addr)(its jts:Array Value)(i:Nat)(h:Heap):Prop:=IsPair h TI (.ref i1) (.ref i2)/\(h.IsTupleIter i1 a i/\h.IsTuple a its)/\(h.IsTupleIter i2 b i/\h.IsTuple b jts) /\
 ((∃x y,IsZip h z TI TO .none/\IsPair h TO x y) \/ ∃p f op,lA h z TI TO p f/\h.get? p=some op/\p≠z/\p≠i1/\p≠i2/\p≠d)
section
variable{prog:Program}{w:World}{A:Around}{E:Value->Shared->Prop}{s:Shared}{base z TI TO i1 i2 d a b:Addr}{its jts:Array Value}{i:Nat}
theorem iO(hh:A.handled=none)(it l:Addr)(hne:l≠it)(items:Array Value):Draws prog w A it [it,l] items.size (λi v=>items[i]? = some v) (λi h=>h.IsTupleIter it l i/\h.IsTuple l items):=L2.nF true hh it l hne items
theorem Zw(B:ZB base z TI TO i1 i2 d a b)(hh:A.in1.handled=none)(st:kM z TI TO i1 i2 d a b its jts i s.heap)(hd:d<s.heap.objs.size){x y:Value}(hx:its[i]? = some x)(hy:jts[i]? = some y){Q:Option Value->Shared->Prop}
   (q:∀(h':Heap) tk,IsPair h' s.heap.objs.size x y->kM z TI TO i1 i2 d a b its jts (i+1) h'->(∀c o,c≠z->c≠TO->c≠i1->c≠i2->s.heap.get? c=some o->h'.get? c=some o)->Q (some (.ref s.heap.objs.size)) {s with heap:=h',toks:=tk}) :
   wpAny (model prog w) A (pyNext (.ref z)) Q E s:=by
 obtain⟨hi,s1,s2,hz⟩:=st
 have lt1:i<its.size:=by
   rcases wt i its.size with z | z
   . exact z
   . rw[WP z]at hx;cases hx
 have lt2:i<jts.size:=by
   rcases wt i jts.size with z | z
   . exact z
   . rw[WP z]at hy;cases hy
 have ap:=B.ap;unfold pyNext;rcases hz with⟨x0,y0,hz,ho⟩ | ⟨p,f,op,hz,hp,p1,p2,p3,p4⟩
 . have hT:s.TypeIs (.ref z) "zip":=⟨_,hz,rfl⟩
   have ltz:=wq hz
   refine wpAny_bind (wpAny_attempt (wpAny_callSpecial?_slot (name:=vj "__next__") hT vN (wpAny_call_entry vN hT Vp
     (L2.HI (iO (A:=A.in1) hh i1 a B.na its) (iO (A:=A.in1) hh i2 b B.nb jts) ap hz hi ho s1 s2 lt1 lt2 λv1 v2 h1 tk e1 e2 hz1 ho1 st1 st2 hT1 hk=>wpAny_pure ?_) (W9 _))))
   rw[hx]at e1;cases e1;rw[hy]at e2;cases e2;have l1:i1<s.heap.objs.size:=by obtain⟨o,e,_⟩:=s1.1;exact wq e
   have l2:i2<s.heap.objs.size:=by obtain⟨o,e,_⟩:=s2.1;exact wq e
   exact q h1 tk hT1 ⟨hk _ _ ap.a1 ap.a5 ap.a6 ap.a7 hi,st1,st2,.inr ⟨s.heap.objs.size,false,_,hz1,hT1,wR ltz,wR l1,wR l2,wR hd⟩⟩ hk
 . have hT:s.TypeIs (.ref z) "zip":=⟨_,hz,rfl⟩
   refine wpAny_bind (wpAny_attempt (wpAny_callSpecial?_slot (name:=vj "__next__") hT vN (wpAny_call_entry vN hT Vp
     (UP (iO (A:=A.in1) hh i1 a B.na its) (iO (A:=A.in1) hh i2 b B.nb jts) ap hz hi hp s1 s2 lt1 lt2 λv1 v2 h1 tk e1 e2 hz1 st1 st2 hT1 hk=>wpAny_pure ?_) (W9 _))))
   rw[hx]at e1;cases e1;rw[hy]at e2;cases e2;exact q h1 tk hT1 ⟨hk _ _ ap.a1 ap.a6 ap.a7 hi,st1,st2,.inr ⟨p,true,op,hz1,hk _ _ p1 p2 p3 hp,p1,p2,p3,p4⟩⟩ λc o c1 _ c3 c4 e=>hk c o c1 c3 c4 e
theorem Y4(B:ZB base z TI TO i1 i2 d a b)(hh:A.in1.handled=none)(st:kM z TI TO i1 i2 d a b its jts its.size s.heap){Q:Option Value->Shared->Prop}
   (q:∀(h':Heap) tk,(∀c o,c≠z->c≠TO->c≠i1->c≠i2->s.heap.get? c=some o->h'.get? c=some o)->Q none {s with heap:=h',toks:=tk}) :
   wpAny (model prog w) A (pyNext (.ref z)) Q E s:=by
 obtain⟨hi,s1,s2,hz⟩:=st;have ap:=B.ap;unfold pyNext;rcases hz with⟨x0,y0,hz,ho⟩ | ⟨p,f,op,hz,hp,p1,p2,p3,p4⟩
 . have hT:s.TypeIs (.ref z) "zip":=⟨_,hz,rfl⟩
   refine wpAny_bind (wpAny_attempt (wpAny_callSpecial?_slot (name:=vj "__next__") hT vN (wpAny_call_entry vN hT Vp
     (L2.HF (k:=its.size) (iO (A:=A.in1) hh i1 a B.na its) (iO (A:=A.in1) hh i2 b B.nb jts) ap hz hi ho s1 s2 (.inl rfl) λh' y tk hk hx'=>?_) (W9 _))))
   obtain⟨o,ho',hcl⟩:=hx';exact wpAny_bind (wpAny_isInstance (T:="StopIteration") (b:=true) ⟨o,ho',hcl⟩ isSubtype_stop (wpAny_pure (q h' tk hk)))
 . have hT:s.TypeIs (.ref z) "zip":=⟨_,hz,rfl⟩
   refine wpAny_bind (wpAny_attempt (wpAny_callSpecial?_slot (name:=vj "__next__") hT vN (wpAny_call_entry vN hT Vp
     (UK (iO (A:=A.in1) hh i1 a B.na its) ap hz hi hp s1 λh' y tk hk hx'=>?_) (W9 _))))
   obtain⟨o,ho',hcl⟩:=hx';exact wpAny_bind (wpAny_isInstance (T:="StopIteration") (b:=true) ⟨o,ho',hcl⟩ isSubtype_stop (wpAny_pure (q h' tk λc o c1 _ c3 _ e=>hk c o c1 c3 e)))
end
theorem kM.but{base z TI TO i1 i2 d a b:Addr}{its jts:Array Value}{i:Nat}{h g:Heap}(st:kM z TI TO i1 i2 d a b its jts i h)(B:ZB base z TI TO i1 i2 d a b)(sb:wS d h g):kM z TI TO i1 i2 d a b its jts i g:=by
 obtain⟨hi,s1,s2,hz⟩:=st;have da:a≠d:=wD (wG B.la B.bd);have db:b≠d:=wD (wG B.lb B.bd);refine⟨sb.extBut _ _ B.dI.symm hi,⟨s1.1.at λo e=>sb.extBut _ _ B.d1.symm e,s1.2.at λo e=>sb.extBut _ _ da e⟩,⟨s2.1.at λo e=>sb.extBut _ _ B.d2.symm e,s2.2.at λo e=>sb.extBut _ _ db e⟩,?_⟩;rcases hz with⟨x0,y0,hz,ho⟩ | ⟨p,f,op,hz,hp,p1,p2,p3,p4⟩
 ·exact .inl ⟨x0,y0,sb.extBut _ _ B.dz.symm hz,sb.extBut _ _ B.dO.symm ho⟩
 ·exact .inr ⟨p,f,op,sb.extBut _ _ B.dz.symm hz,sb.extBut _ _ p4 hp,p1,p2,p3,p4⟩
section
variable{prog:Program}{w:World}{A:Around}{R:Result->Shared->Prop}{base z TI TO i1 i2 d a b:Addr}{its jts:Array Value}{key:Nat->List Int}{ka:Nat->Addr}{val:Nat->Value}
theorem Y5(B:ZB base z TI TO i1 i2 d a b)(hh:A.in1.in1.handled=none)(hu:A.in1.units+1<cLine)(hl:jts.size=its.size)(hn:its.size<=999)(hx:∀i,i<its.size->its[i]? = some (.ref (ka i)))(hy:∀i,i<its.size->jts[i]? = some (val i))
   (lk:∀i,i<its.size->ka i<base) (hk:∀i j,i<its.size->j<its.size->key i=key j->i=j) :
   ∀(c i:Nat)(s:Shared),its.size-i=c->i<=its.size->kM z TI TO i1 i2 d a b its jts i s.heap->(∀j,j<its.size->(dj prog w).is s.heap (key j) (ka j))->s.heap.DictOfH (dj prog w) d ((wl i).map λj=>(key j,ka j,val j)) ->
     (∀(g:Heap)(tk:Nat),jx base s.heap g->g.DictOfH (dj prog w) d ((wl its.size).map λj=>(key j,ka j,val j))->R (.ok (.ret .none)) {s with heap:=g,toks:=tk}) ->
     codeAny (model prog w) A (.builtin "dict.update.loop" ⟨[.ref d,.ref z,rawInt i,.none],[]⟩) R s:=by
 have lift:∀{h h':Heap}{xs:List (List Int × Addr × Value)},h.DictOfH (dj prog w) d xs->(∀x∈xs,x.2.1<base)->jx base h h'->(∀o,h.get? d=some o->h'.get? d=some o)->h'.DictOfH (dj prog w) d xs:=λx hb bl hd=>by
   obtain⟨o,es,ep,ho,hc,hda,he,his,hn⟩:=x;exact⟨o,es,ep,hd o ho,hc,hda,he,λx hx=>nG (his x hx) λo e=>bl _ o (hb x hx) e,hn⟩
 have lo:∀{h h':Heap},(∀c o,c≠z->c≠TO->c≠i1->c≠i2->h.get? c=some o->h'.get? c=some o)->jx base h h':=λhk c o hc e=>hk c o (wD (wG hc B.bz)) (wD (wG hc B.bO)) (wD (wG hc B.b1)) (wD (wG hc B.b2)) e
 intro c
 induction c with
 | zero =>
   intro i s ec ei st ht hs r;obtain rfl:i=its.size:=by omega
   refine codeAny_builtin Na ?_;rw[Vf t_ _];refine wpAny_bind (m:=pyNext (.ref z)) (Y4 B hh st λh' tk hk'=>?_);refine wpAny_bind (wpAny_pure ?_);refine wpAny_pure (r h' tk (lo hk') (lift hs (λx hx=>?_) (lo hk') λo e=>hk' d o B.dz B.dO B.d1 B.d2 e));obtain⟨j,hj,rfl⟩:=wJ.mp hx;exact lk j (wx.mp hj)
 | succ c ih =>
   intro i s ec ei st ht hs r;have lt:i<its.size:=by omega
   have hdl:d<s.heap.objs.size:=by obtain⟨o,_,_,ho,_⟩:=hs;exact wq ho
   refine codeAny_builtin Na ?_;rw[Vf t_ _];refine wpAny_bind (m:=pyNext (.ref z)) (Zw B hh st hdl (hx i lt) (hy i lt) λh' tk hp st' hk'=>?_);have bl:=lo hk'
   have hs':h'.DictOfH (dj prog w) d ((wl i).map λj=>(key j,ka j,val j)):=lift hs (λx hx=>by
     obtain⟨j,hj,rfl⟩:=wJ.mp hx;have:=wx.mp hj;exact lk j (by omega)) bl λo e=>hk' d o B.dz B.dO B.d1 B.d2 e
   have ht':∀j,j<its.size->(dj prog w).is h' (key j) (ka j):=λj hj=>nG (ht j hj) λo e=>bl _ o (lk j hj) e
   refine wpAny_bind (wpAny_holding (wpAny_bind (wpAny_tryCatch (zw3 hp ?_))));refine wpAny_holding (wpAny_dictSet_heap (knd:=dj prog w) (k:=key i) hu (ht' i lt) hs' (λh2 hd2 sb=>?_) (by rw[we,wU,sizeLine_eq];omega))
   have e2:storedH ((wl i).map λj=>(key j,ka j,val j)) (key i) (ka i) (val i)=(wl (i+1)).map λj=>(key j,ka j,val j):=by
     rw[storedH_new,qu,w8]
     . rfl
     . cases e:atKey ((wl i).map λj=>(key j,ka j,val j)) (key i)with
       | none=>rfl
       | some p =>
         unfold atKey at e;rw[WN]at e;obtain⟨y,hy',_⟩:=e;have hm:=Qi hy';have hp':=XV hy';obtain⟨j,hj,rfl⟩:=wJ.mp hm;have hj:=wx.mp hj;have:=hk j i (by omega) lt (of_decide_eq_true hp');omega
   rw[e2]at hd2;have sb:wS d h' h2:=sb;refine wpAny_pure ⟨plainId_quiet t_ _,?_⟩;have bl2:jx base h' h2:=λc o hc e=>sb.extBut c o (wD (wG hc B.bd)) e
   have:=ih (i+1) {s with heap:=h2,toks:=tk+(dj prog w).draws (key i)} (by omega) lt (st'.but B sb) (λj hj=>nG (ht' j hj) λo e=>bl2 _ o (lk j hj) e) hd2 λg tk' bl3 dd=>r g tk' (bl.trans (bl2.trans bl3)) dd
   exact this
end
section
variable{prog:Program}{w:World}{A:Around}{E:Value->Shared->Prop}{s:Shared}{base z TI TO i1 i2 a b:Addr}{its jts:Array Value}{key:Nat->List Int}{ka:Nat->Addr}{val:Nat->Value}{x0 y0:Value}
theorem RF(B:ZB base z TI TO i1 i2 s.heap.objs.size a b)(hh:A.handled=none)(hu:A.units+3<cLine)(hl:jts.size=its.size)(hn:its.size<=999)(hx:∀i,i<its.size->its[i]? = some (.ref (ka i)))(hy:∀i,i<its.size->jts[i]? = some (val i))
   (lk:∀i,i<its.size->ka i<base) (hk:∀i j,i<its.size->j<its.size->key i=key j->i=j) (hz:IsZip s.heap z TI TO .none) (hi:IsPair s.heap TI (.ref i1) (.ref i2)) (ho:IsPair s.heap TO x0 y0) (s1:s.heap.IsTupleIter i1 a 0) (t1:s.heap.IsTuple a its) (s2:s.heap.IsTupleIter i2 b 0) (t2:s.heap.IsTuple b jts)
   (hK:∀j,j<its.size->(dj prog w).is s.heap (key j) (ka j)) {Q:Value->Shared->Prop}
   (q:∀(g:Heap)(tk:Nat),jx base s.heap g->g.DictOfH (dj prog w) s.heap.objs.size ((wl its.size).map λj=>(key j,ka j,val j))->Q (.ref s.heap.objs.size) {s with heap:=g,toks:=tk}) :
   wpAny (model prog w) A (call (.type "dict") [.ref z]) Q E s:=by
 refine callType_codes (Q₁:=λobj s₁=>obj=.ref s.heap.objs.size/\s₁ = {s with heap:=s.heap.push {cls:=.type "dict",data:=.dict #[]}}) PySem.F.kt_called_dict (PySem.F.kt_typeCall_dict_1 _) PySem.F.entry_dict_init (kt_code_dict_new _ ⟨rfl,rfl⟩) ?_;rintro obj s₁ ⟨rfl,rfl⟩;have hnew:(s.heap.push {cls:=.type "dict",data:=.dict #[]}).DictOfH (dj prog w) s.heap.objs.size []:=Heap.DictOfH.new s.heap;have hz':IsZip (s.heap.push {cls:=.type "dict",data:=.dict #[]}) z TI TO .none:=wf _ hz;refine⟨hnew.typeIs,PySem.F.args_dict_init_2 _ _,?_⟩;unfold Builtin.«dict.__init__»;refine wpAny_bind ?_;unfold Builtin.Dict.selfAndRest;refine wpAny_bind (wpAny_notOrdered_dict hnew.typeIs ?_)
 show wpAny _ _ (pure (s.heap.objs.size,[Value.ref z])) _ _ _
 refine wpAny_pure ?_
 show wpAny _ _ (Qv "dict.__init__" s.heap.objs.size (.ref z) [] .none) _ _ _
 unfold Qv;refine wpAny_bind (wpAny_typeOf (T:="zip") ⟨_,hz',rfl⟩ ?_);rw[if_pos (by decide)];refine wpAny_bind (zza hz' (by exact hh) λh1 tk1 kp1=>?_);simp only[Option.isNone_none,if_true];refine wpAny_bind (wpAny_rule ?_);have kp0:∀b o,s.heap.get? b=some o->h1.get? b=some o:=λb o e=>kp1 b o (wf _ e)
 have dn:h1.DictOfH (dj prog w) s.heap.objs.size []:=by
   obtain⟨o,es,ep,ho,hc,hda,he,his,hn⟩:=hnew;exact⟨o,es,ep,kp1 _ _ ho,hc,hda,he,(λx hx=>by cases hx),hn⟩
 refine wpAny_bind (wpAny_pyIter_zip (kp0 _ _ hz) ?_);refine wpAny_pure ⟨plainId_quiet t_ _,?_⟩;refine Y5 B (by exact hh) (show A.units+1+1+1<cLine by omega) hl hn hx hy lk hk (its.size-0) 0 _ rfl (vV _) ⟨kp0 _ _ hi,⟨s1.at λo e=>kp0 _ o e,t1.at λo e=>kp0 _ o e⟩,⟨s2.at λo e=>kp0 _ o e,t2.at λo e=>kp0 _ o e⟩,.inl ⟨x0,y0,kp0 _ _ hz,kp0 _ _ ho⟩⟩ (λj hj=>nG (hK j hj) λo e=>kp0 _ o e) dn λg tk bl dd=>?_
 exact⟨rfl,q g tk (λc o hc e=>bl c o hc (kp0 c o e)) dd⟩
end
end TB
namespace L2
open PySem PySem.Spec PyProof.Rows GM
open TB (dj fC fm)
theorem Z0:bootBuiltins "dict"=some (.type "dict"):=by decide +kernel
def fT(ks:List (List Int))(us ws:List Addr):List NE:=(wl us.length).map λj=>(ks.getD j [],us.getD j 0,ws.getD j 0)
def IM(K:wb)(vs:List V)(H1:Hp)(Q:VK):Prop:=∃(a b:Addr)(ks:List (List Int))(us ws:List Addr),vs=[.ref a,.ref b]/\aR K H1 a (us.map V.ref)/\aR K H1 b (ws.map V.ref)/\us.length=ws.length/\us.length<=999/\ak K H1 (us.map V.ref) (ks.map TZ)/\ks.Nodup /\
 ∀D ep,H1 D=none->Q (.ref D) (upd H1 D (gE D ep (fT ks us ws)))
def IP(K:wb)(ta:TA):TE:=λσ H Q=>ta σ H λvs H1=>IM K vs H1 Q
theorem zB1{n d a b:Nat}(la:a<n)(lb:b<n)(hd:n+5<=d):TB.ZB n (n+4) (n+2) (n+3) n (n+1) d a b where
 ap:=JH la lb
 na:=wD la
 nb:=wD (W8 lb)
 bz:=We _ 4
 bO:=We _ 3
 b1:=wg _
 b2:=We _ 1
 bd:=by show n<=d;omega
 dz:=wR (by omega)
 dI:=wR (by omega)
 dO:=wR (by omega)
 d1:=wR (by omega)
 d2:=wR (by omega)
 la:=la
 lb:=lb
theorem YS{ks:List (List Int)}{us ws:List Addr}(h:ks.length=us.length):(fT ks us ws).map (·.1)=ks:=by
 unfold fT;rw[Vn];refine List.ext_getElem? λj=>?_
 rw[wn];rcases wt j us.length with z | z
 ·rw[vk z,wc (by omega:j<ks.length)]
  show some (ks.getD j [])=_
  rw[wa,wc (by omega:j<ks.length)]
  rfl
 ·rw[wA (by simpa using z),wA (by omega)]
  rfl
section
variable{X:Cx}{o i:Expr}{pos:Pos}{td ty:TE}
theorem YK{l m:Expr}{ta:TA}{p p2 pos2:Pos}(hc:X.calm=true)(hu:X.A.units+4<cLine)(hg:Gl X "dict")(hm:X.mg "dict"=none)(hg2:Gl X "zip")(hm2:X.mg "zip"=none)(ha:PA X [l,m] ta)(hs:starEach [l,m] X.env=[(false,eval l X.env),(false,eval m X.env)]:=by rfl)(hs2:starEach [m] X.env=[(false,eval m X.env)]:=by rfl)
   (hs3:starEach [Expr.Call (.Name "zip" p2) [l,m] [] pos2] X.env=[(false,eval (.Call (.Name "zip" p2) [l,m] [] pos2) X.env)]:=by rfl):PE X (.Call (.Name "dict" p) [.Call (.Name "zip" p2) [l,m] [] pos2] [] pos) (IP X.K ta):=by
 intro pins s σ H Q I h;refine Call_ (fZ I hg hm Z0 ?_);refine wX ?_ hs3 rfl;rw[hs3]
 show wpAny _ _ (spliced ((false,eval _ X.env)::backTo pos [])) _ _ s
 refine qM ?_;refine Call_ (fZ I hg2 hm2 Am (wX (aI (ha pos2 pins s σ H _ I h) λus s1 ⟨vs,H1,I1,r1,q1⟩=>?_) (by rw[hs,hs2]) (by rw[hs2];rfl)));obtain⟨a,b,ks,us',ws,rfl,hq1,hq2,hl,hn,hk,nd,q⟩:=q1;obtain⟨u,v,rfl,ru,rv⟩:=k_ r1;cases ru;cases rv;obtain⟨its,ri,p1⟩:=I1.iC (t:=true) hq1;obtain⟨jts,rj,p2⟩:=I1.iC (t:=true) hq2;have p1:s1.heap.IsTuple a its.toArray:=p1;have p2:s1.heap.IsTuple b jts.toArray:=p2;have la:a<s1.heap.objs.size:=by obtain⟨o,e,_⟩:=p1;exact wq e
 have lb:b<s1.heap.objs.size:=by obtain⟨o,e,_⟩:=p2;exact wq e
 have li:=ri.length;have lj:=rj.length;have lk:=hk.length;simp only[we]at li lj lk;refine N2 p1 p2 λh' hz hi ho t1 t2 kp=>?_
 refine qZ ?_;have hd:s1.heap.objs.size+5<=h'.objs.size:=wq hz
 have hx:∀j,j<its.toArray.size->its.toArray[j]? = some (Value.ref (us'.getD j 0)):=λj hj=>by
   have hj:j<us'.length:=by simpa [li] using hj
   have:=uH ri (show(us'.map V.ref)[j]? = some (V.ref (us'.getD j 0)) by rw[wn,wa,wc hj];rfl)
   simpa using this
 have hy:∀j,j<its.toArray.size->jts.toArray[j]? = some (Value.ref (ws.getD j 0)):=λj hj=>by
   have hj : j < ws.length := by have : j < us'.length := by simpa [li] using hj
                                 omega
   have:=uH rj (show(ws.map V.ref)[j]? = some (V.ref (ws.getD j 0)) by rw[wn,wa,wc hj];rfl)
   simpa using this
 have hK:∀j,j<its.toArray.size->(dj X.prog X.w).is s1.heap (ks.getD j []) (us'.getD j 0):=λj hj=>by
   have hj:j<us'.length:=by simpa [li] using hj
   have:=(kx hk (i:=j) (x:=.ref (us'.getD j 0)) (by rw[wn,wa,wc hj];rfl)).2
   have ek:(ks.map TZ).getD j .none=TZ (ks.getD j []):=by
     rw[wa,wn,wa,wc (by omega:j<ks.length)]
     rfl
   rw[ek]at this;exact I1.nK this
 refine TB.RF (zB1 la lb hd) (I1.ok.hd hc) (by omega) (by simp only[wC];omega) (by simp only[wC];omega) hx hy (λj hj=>?_) (λi j hi' hj e=>?_) hz hi ho t1 (p1.at λo e=>kp _ o e) t2 (p2.at λo e=>kp _ o e) (λj hj=>TB.nG (hK j hj) λo e=>kp _ o e) λg tk bl dd=>?_
 . obtain⟨a',o,items,n,ea,ho',_⟩:=hK j hj
   cases ea;exact wq ho'
 . have hi' : i < ks.length := by have : i < its.length := by simpa using hi'
                                  omega
   have hj : j < ks.length := by have : j < its.length := by simpa using hj
                                 omega
   rw[wa,wa,wc hi',wc hj]at e;have pw:=vE.mp nd;rcases W7 i j with z | z | z
   . exact absurd e (pw i j hi' hj z)
   . exact z
   . exact absurd e.symm (pw j i hj hi' z)
 . obtain⟨o,es,ep,ho',hxd,hda,he,his,hnd⟩:=dd
   refine⟨.ref h'.objs.size,_,I1.laid (t':=tk) (a:=h'.objs.size) (o:=gE h'.objs.size ep (fT ks us' ws)) (λc o e=>bl c o (wq e) (kp c o e)) (by omega) (Zo ?_ (beq_eq_false_iff_ne.mpr (vX (wD ?_))) ?_ ho' hxd hda ?_),rfl,q _ ep (I1.aG.fresh (by omega))⟩
   . unfold fT;rw[we,wU];omega
   . exact wG I1.big (by omega)
   . rw[YS (by omega)];exact nd
   . rw[he]
     have:((wl its.toArray.size).map λj=>(ks.getD j [],us'.getD j 0,Value.ref (ws.getD j 0)))=iu (fT ks us' ws):=by
       unfold iu fT;rw[Vn,wC,<- li]
       rfl
     rw[this];exact OU _
def A3(K:wb)(td ty:TE):TE:=λσ H Q=>td σ H λx H1=>ty σ H1 λy H2=>∃a b ep xs k l,x=.ref a/\y=.ref b/\H2 a=some (gE a ep xs)/\zc K H2 xs/\Is K H2 (.ref b) (TZ k)/\kW xs k=some l/\Q (.ref l) H2
theorem zAB{pins:List (Addr × Obj)}{σ : St}{H:Hp}{s:Shared}{a b l:Addr}{ep:Nat}{xs:List NE}{k:List Int}{A:Around}{E:Value->Shared->Prop}{Q:Value->Shared->Prop}(hu:A.units+4<cLine)(I:Inv X pins σ H s)(e:H a=some (gE a ep xs))(hk:zc X.K H xs)(hb:Is X.K H (.ref b) (TZ k))(hl:kW xs k=some l)(h:∀s',Inv X pins σ H s'->Q (.ref l) s') :
   wpAny (model X.prog X.w) A (getItem (.ref a) (.ref b)) Q E s:=by
 obtain⟨z,hd,nd,o,es,ho,hx,hda,r⟩:=I.HG e;have zk:(iu xs).map (·.1)=xs.map (·.1):=by unfold iu;rw[Vn];rfl
 have dd:s.heap.DictOfH (dj X.prog X.w) a (iu xs):=⟨o,es,ep,ho,hx,hda,zBV r,λx hx=>by
   obtain⟨y,hy,rfl⟩:=wJ.mp hx;exact I.nK (hk y hy),by rw[zk];exact nd⟩
 have lk:=zAQ xs k;rw[hl]at lk;cases e2:atKey (iu xs) k with
 | none=>rw[e2]at lk;cases lk
 | some p =>
   rw[e2]at lk;have:p.2=Value.ref l:=wF lk;obtain⟨p1,p2⟩:=p;have:p2=Value.ref l:=this;subst this;exact wpAny_getItem_heap (knd:=dj X.prog X.w) (show A.units+1+1<cLine by omega) (I.nK hb) dd e2 (h _ (I.tok _))
theorem zwA(hu:X.A.units+4<cLine)(ho:PE X o td)(hi:PE X i ty)(hs:Mw i):PE X (.Subscript o i pos) (A3 X.K td ty):=by
 intro pins s σ H Q I h;refine zym PySem.F.slot_dict_getitem.lookup hs (aI (ho pins s σ H _ I h) λu s1 ⟨x,H1,I1,rx,q1⟩=>aI (hi pins s1 σ H1 _ I1 q1) λiv s2 ⟨y,H2,I2,ry,a,b,ep,xs,k,l,ex,ey,e,hk,hb,hl,q2⟩=>?_);subst ex ey;obtain rfl:u=Value.ref a:=rx;obtain rfl:iv=Value.ref b:=ry;obtain⟨_,_,_,od,es,g1,g2,_,_⟩:=I2.HG e;exact⟨⟨od,g1,g2.1⟩,zAB hu I2 e hk hb hl λs3 I3=>⟨.ref l,H2,I3,rfl,q2⟩⟩
end
section
variable{K:wb}{σ : St}{H:Hp}{Q:VK}{td ty:TE}{ta:TA}
theorem zvS(h:ta σ H λvs H1=>IM K vs H1 Q):IP K ta σ H Q:=h
theorem zxQ(h:td σ H λx H1=>ty σ H1 λy H2=>∃a b ep xs k l,x=.ref a/\y=.ref b/\H2 a=some (gE a ep xs)/\zc K H2 xs/\Is K H2 (.ref b) (TZ k)/\kW xs k=some l/\Q (.ref l) H2):A3 K td ty σ H Q:=h
end
end L2
namespace G
open PySem PySem.Spec PyProof.Rows L2 GM
def top(i:Nat):Stmt:=WQ.main.body.getD i (.Pass ⟨0,0,0,0⟩)
abbrev A6:Stmt:=top 10
abbrev Ax:List Str:=["thing"]
abbrev rH:=Ax
theorem UB:aU Ax rH (aC A6):=⟨rfl,rfl,rfl,by decide +kernel,rfl,by decide +kernel,by decide +kernel⟩
abbrev AL:Stmt:=top 11
abbrev M8:List Str:=["one","other","rest"]
abbrev yU:List Str:=["one","other"]
theorem zg:aU M8 yU (aC AL):=⟨rfl,rfl,rfl,by decide +kernel,rfl,by decide +kernel,by decide +kernel⟩
abbrev CC:Stmt:=top 12
abbrev BN:List Str:=["thing"]
abbrev zl:=BN
theorem zoN:aU BN zl (aC CC):=⟨rfl,rfl,rfl,by decide +kernel,rfl,by decide +kernel,by decide +kernel⟩
abbrev DI:Stmt:=top 13
abbrev OV:List Str:=["one","other","shared","top","divisor"]
abbrev u5:List Str:=["one","other"]
theorem uP:aU OV u5 (aC DI):=⟨rfl,rfl,rfl,by decide +kernel,rfl,by decide +kernel,by decide +kernel⟩
abbrev A2:Stmt:=top 14
abbrev CL:List Str:=["one","other"]
abbrev t9:=CL
theorem Uj:aU CL t9 (aC A2):=⟨rfl,rfl,rfl,by decide +kernel,rfl,by decide +kernel,by decide +kernel⟩
abbrev Bn:Stmt:=top 15
abbrev Pk:List Str:=["one","other","first","second"]
abbrev uS:List Str:=["one","other"]
theorem Dq:aU Pk uS (aC Bn):=⟨rfl,rfl,rfl,by decide +kernel,rfl,by decide +kernel,by decide +kernel⟩
abbrev CN:Stmt:=top 16
abbrev HW:List Str:=["one","other","turned"]
abbrev sh:List Str:=["one","other"]
theorem OC:aU HW sh (aC CN):=⟨rfl,rfl,rfl,by decide +kernel,rfl,by decide +kernel,by decide +kernel⟩
abbrev AE:Stmt:=top 17
abbrev C6:List Str:=["one","other"]
abbrev uQ:=C6
theorem zyq:aU C6 uQ (aC AE):=⟨rfl,rfl,rfl,by decide +kernel,rfl,by decide +kernel,by decide +kernel⟩
abbrev Cd:Stmt:=top 22
abbrev DX:List Str:=["a"]
abbrev uL:=DX
theorem Ta:aU DX uL (aC Cd):=⟨rfl,rfl,rfl,by decide +kernel,rfl,by decide +kernel,by decide +kernel⟩
abbrev Dx:Stmt:=top 23
abbrev AZ:List Str:=["b"]
abbrev sr:=AZ
theorem zqo:aU AZ sr (aC Dx):=⟨rfl,rfl,rfl,by decide +kernel,rfl,by decide +kernel,by decide +kernel⟩
abbrev BO:Stmt:=top 24
abbrev Aj:List Str:=["a","b"]
abbrev yQ:=Aj
theorem Us:aU Aj yQ (aC BO):=⟨rfl,rfl,rfl,by decide +kernel,rfl,by decide +kernel,by decide +kernel⟩
abbrev C0:Stmt:=top 25
abbrev Ao:List Str:=["thing"]
abbrev uK:=Ao
theorem zr2:aU Ao uK (aC C0):=⟨rfl,rfl,rfl,by decide +kernel,rfl,by decide +kernel,by decide +kernel⟩
abbrev CQ:Stmt:=top 26
abbrev AJ:List Str:=["rule"]
abbrev yY:=AJ
theorem zyW:aU AJ yY (aC CQ):=⟨rfl,rfl,rfl,by decide +kernel,rfl,by decide +kernel,by decide +kernel⟩
abbrev C7:Stmt:=top 27
abbrev J7:List Str:=["rule","many","factor","shift","done"]
abbrev yN:List Str:=["rule","many"]
theorem lP:aU J7 yN (aC C7):=⟨rfl,rfl,rfl,by decide +kernel,rfl,by decide +kernel,by decide +kernel⟩
abbrev Ct:Stmt:=top 28
abbrev A5:List Str:=["push","x"]
abbrev zx:=A5
theorem zo3:aU A5 zx (aC Ct):=⟨rfl,rfl,rfl,by decide +kernel,rfl,by decide +kernel,by decide +kernel⟩
abbrev Cn:Stmt:=top 32
abbrev DE:List Str:=["thing"]
abbrev tR:=DE
theorem zrS:aU DE tR (aC Cn):=⟨rfl,rfl,rfl,by decide +kernel,rfl,by decide +kernel,by decide +kernel⟩
abbrev sT:Stmt:=top 33
abbrev tN:List Str:=["thing"]
abbrev zm:=tN
theorem zm7:aU tN zm (aC sT):=⟨rfl,rfl,rfl,by decide +kernel,rfl,by decide +kernel,by decide +kernel⟩
abbrev Al:Stmt:=top 34
abbrev Bc:List Str:=["rule","phases"]
abbrev yS:=Bc
theorem zq9:aU Bc yS (aC Al):=⟨rfl,rfl,rfl,by decide +kernel,rfl,by decide +kernel,by decide +kernel⟩
abbrev C9:Stmt:=top 35
abbrev L5:List Str:=["phases","told","phase"]
abbrev zE:List Str:=["phases"]
theorem y_:aU L5 zE (aC C9):=⟨rfl,rfl,rfl,by decide +kernel,rfl,by decide +kernel,by decide +kernel⟩
abbrev yM:Stmt:=top 36
abbrev v_:List Str:=["phases","phase"]
abbrev zC:=v_
theorem zp6:aU v_ zC (aC yM):=⟨rfl,rfl,rfl,by decide +kernel,rfl,by decide +kernel,by decide +kernel⟩
abbrev zp:Stmt:=top 37
abbrev BQ:List Str:=["swarm","told","left","phase"]
abbrev yc:List Str:=["swarm"]
theorem oA:aU BQ yc (aC zp):=⟨rfl,rfl,rfl,by decide +kernel,rfl,by decide +kernel,by decide +kernel⟩
abbrev sX:Stmt:=top 38
abbrev tK:List Str:=["worms","phases"]
abbrev tQ:=tK
theorem znu:aU tK tQ (aC sX):=⟨rfl,rfl,rfl,by decide +kernel,rfl,by decide +kernel,by decide +kernel⟩
abbrev mY:Stmt:=top 39
abbrev pf:List Str:=["swarm","wait","phases","left","waves","wave","push","worm","anew"]
abbrev u4:List Str:=["swarm"]
theorem hV:aU pf u4 (aC mY):=⟨rfl,rfl,rfl,by decide +kernel,rfl,by decide +kernel,by decide +kernel⟩
abbrev BM:Stmt:=top 41
abbrev Lx:List Str:=["swarm","many","rows","hour","stand","done","told"]
abbrev ze:List Str:=["swarm","many"]
theorem j8:aU Lx ze (aC BM):=⟨rfl,rfl,rfl,by decide +kernel,rfl,by decide +kernel,by decide +kernel⟩
abbrev Ci:Stmt:=top 42
abbrev Rq:List Str:=["swarm","many","rows","last"]
abbrev uX:List Str:=["swarm","many"]
theorem Ay:aU Rq uX (aC Ci):=⟨rfl,rfl,rfl,by decide +kernel,rfl,by decide +kernel,by decide +kernel⟩
abbrev C_:Stmt:=top 44
abbrev Dd:List Str:=["swarm"]
abbrev rL:=Dd
theorem Si:aU Dd rL (aC C_):=⟨rfl,rfl,rfl,by decide +kernel,rfl,by decide +kernel,by decide +kernel⟩
abbrev oE:Stmt:=top 45
abbrev yW:List Str:=["swarm","rows","sizes","places"]
abbrev sE:List Str:=["swarm"]
theorem sC:aU yW sE (aC oE):=⟨rfl,rfl,rfl,by decide +kernel,rfl,by decide +kernel,by decide +kernel⟩
abbrev tO:Stmt:=top 46
abbrev Bm:List Str:=["rule","size","phases","turn","wait","push","told"]
abbrev zi:List Str:=["rule","size","phases","turn"]
theorem uM:aU Bm zi (aC tO):=⟨rfl,rfl,rfl,by decide +kernel,rfl,by decide +kernel,by decide +kernel⟩
abbrev AX:Stmt:=top 47
abbrev NK:List Str:=["rule","sizes","places","told","turn","size"]
abbrev sF:List Str:=["rule","sizes","places"]
theorem uN:aU NK sF (aC AX):=⟨rfl,rfl,rfl,by decide +kernel,rfl,by decide +kernel,by decide +kernel⟩
abbrev CY:Stmt:=top 48
abbrev Cy:List Str:=["rule","sizes","places"]
abbrev yr:=Cy
theorem zlc:aU Cy yr (aC CY):=⟨rfl,rfl,rfl,by decide +kernel,rfl,by decide +kernel,by decide +kernel⟩
abbrev AI:Stmt:=top 49
abbrev Oo:List Str:=["rule","sizes","places","told","rows","turn"]
abbrev tZ:List Str:=["rule","sizes","places"]
theorem oU:aU Oo tZ (aC AI):=⟨rfl,rfl,rfl,by decide +kernel,rfl,by decide +kernel,by decide +kernel⟩
abbrev yb:Stmt:=top 50
abbrev Bz:List Str:=["rule","sizes","places","rows","count"]
abbrev zh:List Str:=["rule","sizes","places"]
theorem C5:aU Bz zh (aC yb):=⟨rfl,rfl,rfl,by decide +kernel,rfl,by decide +kernel,by decide +kernel⟩
abbrev pA:Stmt:=top 51
abbrev yP:List Str:=["rule","sizes","places","steps"]
abbrev s_:List Str:=["rule","sizes","places"]
theorem Kq:aU yP s_ (aC pA):=⟨rfl,rfl,rfl,by decide +kernel,rfl,by decide +kernel,by decide +kernel⟩
abbrev sy:Stmt:=top 52
abbrev Dy:List Str:=["rule","sizes","factor","noughts"]
abbrev sI:List Str:=["rule","sizes"]
theorem AW:aU Dy sI (aC sy):=⟨rfl,rfl,rfl,by decide +kernel,rfl,by decide +kernel,by decide +kernel⟩
abbrev yV:Stmt:=top 55
abbrev BS:List Str:=["rule","sizes","both","gap"]
abbrev rz:List Str:=["rule","sizes"]
theorem DD:aU BS rz (aC yV):=⟨rfl,rfl,rfl,by decide +kernel,rfl,by decide +kernel,by decide +kernel⟩
abbrev yk:Stmt:=top 56
abbrev yI:List Str:=["both","places","of_place","of_shift"]
abbrev uJ:=yI
theorem zsD:aU yI uJ (aC yk):=⟨rfl,rfl,rfl,by decide +kernel,rfl,by decide +kernel,by decide +kernel⟩
abbrev AO:Stmt:=top 57
abbrev Ko:List Str:=["both","places","many","push"]
abbrev tJ:List Str:=["both","places","many"]
theorem O3:aU Ko tJ (aC AO):=⟨rfl,rfl,rfl,by decide +kernel,rfl,by decide +kernel,by decide +kernel⟩
abbrev BC:Stmt:=top 58
abbrev CF:List Str:=["rule","sizes","places","many"]
abbrev zu:=CF
theorem TK:aU CF zu (aC BC):=⟨rfl,rfl,rfl,by decide +kernel,rfl,by decide +kernel,by decide +kernel⟩
abbrev A_:Stmt:=top 59
abbrev Nr:List Str:=["both","places","many","of_place","of_shift","done"]
abbrev w_:List Str:=["both","places","many"]
theorem me:aU Nr w_ (aC A_):=⟨rfl,rfl,rfl,by decide +kernel,rfl,by decide +kernel,by decide +kernel⟩
abbrev uG:Stmt:=top 60
abbrev Bk:List Str:=["rule","sizes","places","many","count","mean"]
abbrev uI:List Str:=["rule","sizes","places","many"]
theorem CP:aU Bk uI (aC uG):=⟨rfl,rfl,rfl,by decide +kernel,rfl,by decide +kernel,by decide +kernel⟩
abbrev sj:Stmt:=top 61
abbrev tV:List Str:=["rule","sizes"]
abbrev zw:=tV
theorem zli:aU tV zw (aC sj):=⟨rfl,rfl,rfl,by decide +kernel,rfl,by decide +kernel,by decide +kernel⟩
abbrev rR:Stmt:=top 62
abbrev DQ:List Str:=["rule","sizes","places","way"]
abbrev yu:List Str:=["rule","sizes","places"]
theorem M5:aU DQ yu (aC rR):=⟨rfl,rfl,rfl,by decide +kernel,rfl,by decide +kernel,by decide +kernel⟩
abbrev Bi:Stmt:=top 63
abbrev MO:List Str:=["rule","sizes","places","both","ahead","count"]
abbrev yx:List Str:=["rule","sizes","places"]
theorem pe:aU MO yx (aC Bi):=⟨rfl,rfl,rfl,by decide +kernel,rfl,by decide +kernel,by decide +kernel⟩
abbrev rE:Stmt:=top 65
abbrev El:List Str:=["swarm","rounds","both","later","now","phases"]
abbrev zj:List Str:=["swarm","rounds"]
theorem nV:aU El zj (aC rE):=⟨rfl,rfl,rfl,by decide +kernel,rfl,by decide +kernel,by decide +kernel⟩
abbrev CS:Stmt:=top 66
abbrev P_:List Str:=["swarm","rounds","glows","first","then"]
abbrev yi:List Str:=["swarm","rounds","glows"]
theorem Bs:aU P_ yi (aC CS):=⟨rfl,rfl,rfl,by decide +kernel,rfl,by decide +kernel,by decide +kernel⟩
abbrev CV:Stmt:=top 67
abbrev Oa:List Str:=["swarm","both"]
abbrev sZ:List Str:=["swarm"]
theorem IC:aU Oa sZ (aC CV):=⟨rfl,rfl,rfl,by decide +kernel,rfl,by decide +kernel,by decide +kernel⟩
abbrev AK:Stmt:=top 68
abbrev Mo:List Str:=["swarm","count","told"]
abbrev yE:List Str:=["swarm"]
theorem oR:aU Mo yE (aC AK):=⟨rfl,rfl,rfl,by decide +kernel,rfl,by decide +kernel,by decide +kernel⟩
abbrev BZ:Stmt:=top 69
abbrev IT:List Str:=["hour","swarm","both","rounds","glows"]
abbrev tm:List Str:=["hour","swarm"]
theorem uZ:aU IT tm (aC BZ):=⟨rfl,rfl,rfl,by decide +kernel,rfl,by decide +kernel,by decide +kernel⟩
abbrev DL:Stmt:=top 70
abbrev Ml:List Str:=["swarm","rows","word","row","told","hour"]
abbrev zG:List Str:=["swarm"]
theorem kN:aU Ml zG (aC DL):=⟨rfl,rfl,rfl,by decide +kernel,rfl,by decide +kernel,by decide +kernel⟩
abbrev Av:Stmt:=top 72
abbrev DA:List Str:=["_law_script","_law_k"]
abbrev yl:=DA
theorem zqZ:aU DA yl (aC Av):=⟨rfl,rfl,rfl,by decide +kernel,rfl,by decide +kernel,by decide +kernel⟩
abbrev C1:Stmt:=top 73
abbrev J0:List Str:=["_law_script","_law_k","_law_cell_here"]
abbrev sY:List Str:=["_law_script","_law_k"]
theorem NI:aU J0 sY (aC C1):=⟨rfl,rfl,rfl,by decide +kernel,rfl,by decide +kernel,by decide +kernel⟩
abbrev BK:Stmt:=top 74
abbrev Ld:List Str:=["_law_pen_here","_law_most","_law_found","_law_mixed"]
abbrev yq:List Str:=["_law_pen_here","_law_most"]
theorem r_:aU Ld yq (aC BK):=⟨rfl,rfl,rfl,by decide +kernel,rfl,by decide +kernel,by decide +kernel⟩
abbrev CG:Stmt:=top 75
abbrev Jg:List Str:=["_law_top","_law_bottom","_law_one","_law_other"]
abbrev ye:List Str:=["_law_top","_law_bottom"]
theorem zy:aU Jg ye (aC CG):=⟨rfl,rfl,rfl,by decide +kernel,rfl,by decide +kernel,by decide +kernel⟩
abbrev AF:Stmt:=top 76
abbrev Ma:List Str:=["_law_pen_here","_law_way","_law_bottom","_law_deep","_law_more","_law_top","_law_need"]
abbrev zt:List Str:=["_law_pen_here"]
theorem jj:aU Ma zt (aC AF):=⟨rfl,rfl,rfl,by decide +kernel,rfl,by decide +kernel,by decide +kernel⟩
abbrev sQ:Stmt:=top 77
abbrev BL:List Str:=["_law_pen_here","_law_most","_law_many","_law_bottom","_law_few","_law_apart"]
abbrev rG:List Str:=["_law_pen_here","_law_most"]
theorem oI:aU BL rG (aC sQ):=⟨rfl,rfl,rfl,by decide +kernel,rfl,by decide +kernel,by decide +kernel⟩
abbrev Dk:Stmt:=top 78
abbrev MZ:List Str:=["_law_swarm","_law_found"]
abbrev yt:List Str:=["_law_swarm"]
theorem tX:aU MZ yt (aC Dk):=⟨rfl,rfl,rfl,by decide +kernel,rfl,by decide +kernel,by decide +kernel⟩
abbrev sU:Stmt:=top 79
abbrev B3:List Str:=["_law_swarm","_law_word","_law_many","_law_rows"]
abbrev yw:List Str:=["_law_swarm","_law_word"]
theorem C2:aU B3 yw (aC sU):=⟨rfl,rfl,rfl,by decide +kernel,rfl,by decide +kernel,by decide +kernel⟩
abbrev DN:Stmt:=top 80
abbrev BU:List Str:=["_law_one","_law_other"]
abbrev rN:=BU
theorem YM:aU BU rN (aC DN):=⟨rfl,rfl,rfl,by decide +kernel,rfl,by decide +kernel,by decide +kernel⟩
abbrev Bj:Stmt:=top 81
abbrev Cr:List Str:=["_law_one","_law_other"]
abbrev y8:=Cr
theorem Y9:aU Cr y8 (aC Bj):=⟨rfl,rfl,rfl,by decide +kernel,rfl,by decide +kernel,by decide +kernel⟩
abbrev BX:Stmt:=top 82
abbrev DM:List Str:=["_law_one","_law_other"]
abbrev tY:=DM
theorem SQ:aU DM tY (aC BX):=⟨rfl,rfl,rfl,by decide +kernel,rfl,by decide +kernel,by decide +kernel⟩
abbrev Cf:Stmt:=top 83
abbrev Cz:List Str:=["_law_one","_law_other"]
abbrev x_:=Cz
theorem Tz:aU Cz x_ (aC Cf):=⟨rfl,rfl,rfl,by decide +kernel,rfl,by decide +kernel,by decide +kernel⟩
abbrev DH:Stmt:=top 84
abbrev Lh:List Str:=["_law_rule","_law_many","_law_found","_law_k"]
abbrev yZ:List Str:=["_law_rule","_law_many"]
theorem tE:aU Lh yZ (aC DH):=⟨rfl,rfl,rfl,by decide +kernel,rfl,by decide +kernel,by decide +kernel⟩
abbrev oF:Stmt:=top 85
abbrev yy:List Str:=["_law_rule","_law_sizes","_law_places","_law_phases","_law_time","_law_heights","_law_at","_law_wait","_law_often","_law_risen"]
abbrev uW:List Str:=["_law_rule","_law_sizes","_law_places"]
theorem iX:aU yy uW (aC oF):=⟨rfl,rfl,rfl,by decide +kernel,rfl,by decide +kernel,by decide +kernel⟩
abbrev BY:Stmt:=top 86
abbrev LP:List Str:=["_law_one","_law_many","_law_top","_law_bottom","_law_k"]
abbrev yL:List Str:=["_law_one","_law_many"]
theorem ml:aU LP yL (aC BY):=⟨rfl,rfl,rfl,by decide +kernel,rfl,by decide +kernel,by decide +kernel⟩
abbrev tM:Stmt:=top 87
abbrev An:List Str:=["_law_rule","_law_sizes","_law_factor","_law_shifts"]
abbrev yp:List Str:=["_law_rule","_law_sizes"]
theorem Bh:aU An yp (aC tM):=⟨rfl,rfl,rfl,by decide +kernel,rfl,by decide +kernel,by decide +kernel⟩
abbrev Ei:Stmt:=top 88
abbrev Kj:List Str:=["_law_pen_here","_law_rule","_law_most","_law_found","_law_some","_law_one"]
abbrev zo:List Str:=["_law_pen_here","_law_rule","_law_most"]
theorem r8:aU Kj zo (aC Ei):=⟨rfl,rfl,rfl,by decide +kernel,rfl,by decide +kernel,by decide +kernel⟩
abbrev tH:Stmt:=top 89
abbrev Jx:List Str:=["_law_script","_law_rule","_law_swarm","_law_told","_law_count","_law_now","_law_row","_law_hour"]
abbrev zB:List Str:=["_law_script"]
theorem iZ:aU Jx zB (aC tH):=⟨rfl,rfl,rfl,by decide +kernel,rfl,by decide +kernel,by decide +kernel⟩
set_option genInjectivity false in
structure Ad where
 GX:Addr
 FD:FuncData
 Es:Addr
 En:FuncData
 Gr:Addr
 Fp:FuncData
 plus:Addr
 G_:FuncData
 minus:Addr
 GS:FuncData
 times:Addr
 GW:FuncData
 over:Addr
 Hm:FuncData
 less:Addr
 Hu:FuncData
 Gv:Addr
 Fe:FuncData
 GP:Addr
 FK:FuncData
 GA:Addr
 Fj:FuncData
 Ho:Addr
 F9:FuncData
 HD:Addr
 Hf:FuncData
 Hx:Addr
 Gw:FuncData
 Gx:Addr
 Fd:FuncData
 G2:Addr
 FJ:FuncData
 Gm:Addr
 ES:FuncData
 G6:Addr
 FN:FuncData
 GQ:Addr
 FC:FuncData
 G4:Addr
 Fy:FuncData
 Hv:Addr
 GN:FuncData
 F8:Addr
 EO:FuncData
 lG:Addr
 Hi:FuncData
 Hg:Addr
 Gg:FuncData
 behind:Addr
 GL:FuncData
 Hn:Addr
 Gd:FuncData
 laid:Addr
 He:FuncData
 ET:Addr
 Et:FuncData
 rk:Addr
 GC:FuncData
 Fg:Addr
 ED:FuncData
 Gn:Addr
 EW:FuncData
 gT:Addr
 G9:FuncData
 Hh:Addr
 Ga:FuncData
 Gy:Addr
 Fh:FuncData
 HA:Addr
 G5:FuncData
 Hl:Addr
 Gi:FuncData
 Hw:Addr
 GK:FuncData
 EY:Addr
 EC:FuncData
 EM:Addr
 Ep:FuncData
 FP:Addr
 EJ:FuncData
 Fm:Addr
 EF:FuncData
 FZ:Addr
 ER:FuncData
 FV:Addr
 EL:FuncData
 EU:Addr
 Ey:FuncData
 FY:Addr
 E_:FuncData
 Ht:Addr
 F_:FuncData
 EX:Addr
 Ew:FuncData
 GR:Addr
 FI:FuncData
 G3:Addr
 FO:FuncData
 G7:Addr
 Fz:FuncData
 Hq:Addr
 Gk:FuncData
 G1:Addr
 FG:FuncData
 Hj:Addr
 F0:FuncData
 EK:Addr
 Er:FuncData
 Eu:Addr
 Em:FuncData
 GJ:Addr
 Fs:FuncData
 GZ:Addr
 Fw:FuncData
 Hs:Addr
 Gq:FuncData
 GU:Addr
 FU:FuncData
 FW:Addr
 EN:FuncData
 GY:Addr
 FA:FuncData
 Gh:Addr
 Fb:FuncData
 GF:Addr
 Fn:FuncData
 GI:Addr
 Ff:FuncData
 Gz:Addr
 Ft:FuncData
 Gs:Addr
 Fv:FuncData
 law:Addr
 Hy:FuncData
 nB:Addr
 fX:Addr
 cW:Addr
 dG:Addr
 zL:Addr
structure Dn(K:wb)(mg:Str->Option Value)(n:Str)(st:Stmt)(ps:List Str)(f:Addr)(fd:FuncData):Prop where
 F:km K n n st f fd
 g:mg n=some (.ref f)
 b:lu K fd ps []
section
variable{X:Cx}{x:Str}{f:Addr}{fd:FuncData}{ps:List Str}{sp:Sp}{j k:Nat}{e:Expr}{es:List Expr}{t:TA}{pos pp:Pos}{st:Stmt}{CX:fv}
theorem oO{E:XK}(F:aJ X.prog X.w X.K X.mg X.base CX k f fd ps sp)(hr:dJ j X.A)(D:Dn X.K X.mg x st ps f fd)(hx:mQ CX X E)(ha:PA X (e::es) t)(hj:k<=j:=by decide)(hg:Gl X x:=by exact rfl)
  (hdb:(x == ("__debug__" : Str))=false:=by decide) (he:starEach (e::es) X.env=(false,eval e X.env)::starEach es X.env:=by rfl) (hpl:(backTo pos (starEach es X.env)).any (·.1)=false:=by rfl) :
  PE X (.Call (.Name x pp) (e::es) [] pos) (nU sp [] E t):=Ro F (hr.mono hj) hg D.g D.F.kp D.b .nil hx ha hdb he hpl
theorem au(F:aJ X.prog X.w X.K X.mg X.base aT k f fd ps sp)(hr:dJ j X.A)(D:Dn X.K X.mg x st ps f fd)(ha:PA X (e::es) t)(hj:k<=j:=by decide)(hg:Gl X x:=by exact rfl)
  (hdb:(x == ("__debug__" : Str))=false:=by decide) (he:starEach (e::es) X.env=(false,eval e X.env)::starEach es X.env:=by rfl) (hpl:(backTo pos (starEach es X.env)).any (·.1)=false:=by rfl) :
  PE X (.Call (.Name x pp) (e::es) [] pos) (nU sp [] E0 t):=Ro F (hr.mono hj) hg D.g D.F.kp D.b .nil Y0 ha hdb he hpl
theorem ar{ta:TE}{i:Int}{kd}(ha:PE X e ta):PE X (.Subscript e (.Constant (.int i) kd pp) pos) (kK (cQ X.K) ta (tC (.int i))):=dQ c_ ha ay (λ_ _=>rfl)
theorem nW{K:wb}{ta:TE}{i:Int}{kd}(hr:gz X (cQ K))(ha:PE X e ta):PE X (.Subscript e (.Constant (.int i) kd pp) pos) (kK (cQ K) ta (tC (.int i))):=dQ hr ha ay (λ_ _=>rfl)
theorem az(i:Nat){te:TE}(hN:X.N.Nodup)(he:PE X e te)(hi:X.N[i]? = some x:=by exact rfl)(hx:Loc X.env.scope x:=by first | exact Or.inl rfl | exact Or.inr rfl)(hs:swapsWith e (some (.Name x pp)) pos.line X.env=pure false:=by rfl)(hf:X.fn x=true\/X.env.scope.names.lookup x=some .local:=by first | exact .inl rfl | exact .inr rfl | assumption) :
  PS X (.Assign [.Name x pp] e pos) (kP te (iM i)):=zBh hN hi hx he hs hf
end
structure Txt(K:wb)(mg:Str->Option Value)(a:Ad):Prop where
 zT:Dn K mg "is_whole" A6 rH a.GX a.FD
 lC:Dn K mg "greatest_divisor" AL yU a.Es a.En
 p6:Dn K mg "is_number" CC zl a.Gr a.Fp
 fM:Dn K mg "plus" DI u5 a.plus a.G_
 nE:Dn K mg "minus" A2 t9 a.minus a.GS
 jh:Dn K mg "times" Bn uS a.times a.GW
 Aa:Dn K mg "over" CN sh a.over a.Hm
 fL:Dn K mg "less" AE uQ a.less a.Hu
 FR:Dn K mg "is_factor" Cd uL a.Gv a.Fe
 F6:Dn K mg "is_shift" Dx sr a.GP a.FK
 FE:Dn K mg "make_rule" BO yQ a.GA a.Fj
 GO:Dn K mg "is_rule" C0 uK a.Ho a.F9
 Ac:Dn K mg "bend" CQ yY a.HD a.Hf
 nD:Dn K mg "pushes" C7 yN a.Hx a.Gw
 zQ:Dn K mg "pushed_by" Ct zx a.Gx a.Fd
 Gf:Dn K mg "is_phase" Cn tR a.G2 a.FJ
 Fo:Dn K mg "are_phases" sT zm a.Gm a.ES
 Gj:Dn K mg "swarm_of" Al yS a.G6 a.FN
 zS:Dn K mg "greatest" C9 zE a.GQ a.FC
 Gb:Dn K mg "worms_at" yM zC a.G4 a.Fy
 z7:Dn K mg "flocks" zp yc a.Hv a.GN
 zP:Dn K mg "at_the_end" sX tQ a.F8 a.EO
 rg:Dn K mg "glow" mY u4 a.lG a.Hi
 zW:Dn K mg "history" BM ze a.Hg a.Gg
 zZ:Dn K mg "behind" Ci uX a.behind a.GL
 zV:Dn K mg "is_laid" C_ rL a.Hn a.Gd
 rl:Dn K mg "laid" oE sE a.laid a.He
 EG:Dn K mg "phases_behind" tO zi a.ET a.Et
 p_:Dn K mg "stands" AX sF a.rk a.GC
 zO:Dn K mg "round_behind" CY yr a.Fg a.ED
 Fq:Dn K mg "round_time" AI tZ a.Gn a.EW
 Ab:Dn K mg "tops" yb zh a.gT a.G9
 p8:Dn K mg "is_free" pA s_ a.Hh a.Ga
 lD:Dn K mg "round_map" sy sI a.Gy a.Fh
 z_:Dn K mg "still" yV rz a.HA a.G5
 zX:Dn K mg "weighed" yk uJ a.Hl a.Gi
 z6:Dn K mg "led_on" AO tJ a.Hw a.GK
 EI:Dn K mg "rounds_behind" BC zu a.EY a.EC
 Ex:Dn K mg "sums_of_places" A_ w_ a.EM a.Ep
 EZ:Dn K mg "rounds_time" uG uI a.FP a.EJ
 zN:Dn K mg "draws_freely" sj zw a.Fm a.EF
 Fi:Dn K mg "stays_free" rR yu a.FZ a.ER
 EV:Dn K mg "free_rounds" Bi yx a.FV a.EL
 zM:Dn K mg "behind_rounds" rE zj a.EU a.Ey
 Fc:Dn K mg "behind_row" CS yi a.FY a.E_
 Gu:Dn K mg "word_of" CV sZ a.Ht a.F_
 EH:Dn K mg "glows_to_join" AK yE a.EX a.Ew
 F5:Dn K mg "next_row" BZ tm a.GR a.FI
 p7:Dn K mg "paper_of" DL zG a.G3 a.FO
 F7:Dn K mg "_law_cell" Av yl a.G7 a.Fz
 zY:Dn K mg "_law_pen" C1 sY a.Hq a.Gk
 fj:Dn K mg "_law_draw" BK yq a.G1 a.FG
 fK:Dn K mg "_law_low" CG ye a.Hj a.F0
 Ez:Dn K mg "_law_drawn_rule" AF zt a.EK a.Er
 Eo:Dn K mg "_law_drawn_phases" sQ rG a.Eu a.Em
 FQ:Dn K mg "_law_paper" Dk yt a.GJ a.Fs
 Gp:Dn K mg "_law_ends" sU yw a.GZ a.Fw
 nC:Dn K mg "_law_sum" DN rN a.Hs a.Gq
 zR:Dn K mg "_law_rest" Bj y8 a.GU a.FU
 p5:Dn K mg "_law_product" BX tY a.FW a.EN
 Ge:Dn K mg "_law_part" Cf x_ a.GY a.FA
 Fu:Dn K mg "_law_pushes" DH yZ a.Gh a.Fb
 FH:Dn K mg "_law_round" oF uW a.GF a.Fn
 FT:Dn K mg "_law_power" BY yL a.GI a.Ff
 Fx:Dn K mg "_law_rests" tM yp a.Gz a.Ft
 FX:Dn K mg "_law_start" Ei zo a.Gs a.Fv
 RX:Dn K mg "law" tH zB a.law a.Hy
 z_abs:mg "abs"=none
 z_all:mg "all"=none
 z_any:mg "any"=none
 z_bool:mg "bool"=none
 z_dict:mg "dict"=none
 z_enumerate:mg "enumerate"=none
 z_int:mg "int"=none
 z_isinstance:mg "isinstance"=none
 z_len:mg "len"=none
 z_list:mg "list"=none
 z_min:mg "min"=none
 z_range:mg "range"=none
 z_set:mg "set"=none
 z_sum:mg "sum"=none
 z_tuple:mg "tuple"=none
 z_zip:mg "zip"=none
 RJ:mg "NoStand"=some (.ref a.nB)
 GB:mg "TooLong"=some (.ref a.fX)
 RK:Vv K a.nB oM "ValueError.__new__"=true
 aaa:VL K (.ref a.nB) (.ref a.fX)=some false
 RH:Vv K a.fX oM "ValueError.__new__"=true
 Ru:VL K (.ref a.fX) (.ref a.fX)=some true
 dF:mg "NOUGHT"=some (.ref a.cW)
 d9:∀H:Hp,aR K H a.cW [.int 0,.int 1]
 eF:mg "ONE"=some (.ref a.dG)
 rp:∀H:Hp,aR K H a.dG [.int 1,.int 1]
 Rv:mg "GREATEST_FACTOR"=some (.ref a.zL)
 Rt:∀H:Hp,aR K H a.zL [.int 4,.int 1]
 Rx:∃t,mg "FACTOR_BOTTOM"=some (.int 8 t)
 Ry:∃t,mg "SHIFT_BOTTOM"=some (.int 12 t)
 RA:∃t,mg "MOST_WORMS"=some (.int 8 t)
 Rz:∃t,mg "PHASE_BOTTOM"=some (.int 60 t)
 RC:∃t,mg "MOST_FREE"=some (.int 30 t)
end G
open L2 GM in
local macro_rules | `(tactic| walk_at "is")=>`(tactic| first
 | assumption
 | exact cg.mpr rfl
 | exact kc.mpr rfl
 | exact lS.mpr rfl
 | exact iR.mpr rfl
 | exact Is.R9 (by assumption) (by walk_at "same")
 | exact Is.R0 (by assumption) (by walk_at "keep")
 | exact Is.nH (by assumption) (by walk_at "keep")
 | ((with_reducible apply is_tupAt);(focus assumption);(focus walk_at "isall");walk_at "same")
 | ((with_reducible apply is_lstAt);(focus assumption);(focus walk_at "isall");walk_at "same")
 | ((with_reducible apply is_dctAt);(focus assumption);walk_at "same")
 | exact dP 0 (G.Txt.d9 (by assumption) _) rfl rfl | exact dP 1 (G.Txt.rp (by assumption) _) rfl rfl | exact dP 4 (G.Txt.Rt (by assumption) _) rfl rfl
 | fail "is")
open L2 GM in
local macro_rules | `(tactic| walk_at "isall")=>`(tactic| first
 | exact ak.nil
 | exact ak.cons (by walk_at "is") (by walk_at "isall")
 | fail "isall")
open L2 GM in
local macro_rules | `(tactic| walk_at "ne")=>`(tactic| first
 | assumption
 | (apply vX;assumption))
/- a list that rk at an address -/
open L2 GM in
local macro_rules | `(tactic| walk_at "lst")=>`(tactic| first
 | assumption
 | exact ah.at (by assumption) (by walk_at "lst")
 | exact Exc.at (by assumption) (by walk_at "ne") (by walk_at "lst")
 | fail "lst")
open L2 GM in
local macro_rules | `(tactic| walk_at "same")=>`(tactic| first
 | assumption
 | exact ah.refl _
 | exact ah.back (by assumption) (by walk_at "same")
 | fail "same")
open L2 GM in
local macro_rules | `(tactic| walk_at "keep")=>`(tactic| first
 | assumption
 | exact bG.refl _
 | exact ah.keep (by assumption)
 | exact bG.back (by assumption) (by walk_at "keep")
 | exact bG.back (ah.keep (by assumption)) (by walk_at "keep")
 | fail "keep")
open L2 GM in
local macro_rules | `(tactic| walk_at "exc")=>`(tactic| first
 | assumption
 | exact Exc.refl _ _
 | exact Exc.back (by assumption) (by walk_at "exc")
 | exact Exc.back (ah.exc (by assumption)) (by walk_at "exc")
 | fail "exc")
open L2 GM in
local macro_rules | `(tactic| walk_at "sqf")=>`(tactic| first
 | assumption
 | exact bG.Lu (by walk_at "keep") (by assumption)
 | fail "sqf")
/- how great -/
open L2 GM in
local macro_rules | `(tactic| walk_at "bd")=>`(tactic| first
 | assumption
 | exact Bd.mk (n:=128) (by decide)
 | exact Bd.mono (m:=128) ⟨by decide⟩ (by decide)
 | exact ag.t (by assumption)
 | exact ag.b (by assumption)
 | exact Bd.jQ (by omega) (by omega)
 | (apply Bd.neg;walk_at "bd")
 | (apply Bd.mul;(focus walk_at "bd");walk_at "bd")
 | (apply Bd.add;(focus walk_at "bd");walk_at "bd")
 | (apply Bd.sub;(focus walk_at "bd");walk_at "bd"))
open L2 GM PySem in
local macro_rules | `(tactic| walk_at "mulok")=>`(tactic| first
 | exact x5 (by decide)
 | exact Xx (by decide)
 | exact x5 (intBits_le_64 (by omega) (by omega))
 | exact Xx (intBits_le_64 (by omega) (by omega))
 | (apply L2.R3;(focus walk_at "bd");(focus walk_at "bd");(focus decide);decide))
open L2 GM PySem in
local macro_rules | `(tactic| walk_at "side")=>`(tactic| first
 | assumption
 | decide
 | omega
 | walk_at "mulok"
 | (refine And.intro ?_ ?_<;>walk_at "side")
 | walk_at "bd")
open L2 GM in
local macro_rules | `(tactic| walk_at "gs")=>`(tactic| first
 | walk_at "sq"
 | with_reducible (first | refine zAF ?_ | refine zAx ?_ | refine zAU ?_ | refine Yo ?_)
 | ((with_reducible apply zA5);(focus rfl))
 | with_reducible (first | refine T1 ?_ | refine zyt ?_ | refine zAO ?_ | refine zyL ?_ | refine Tw ?_ | refine TL ?_ | refine zCu ?_ | refine ZD ?_ | refine zBb ?_ | refine zAp ?_ | refine zx2 ?_)
 | ((with_reducible apply pj);(focus walk_at "side"))
 | with_reducible (first | refine Uq ?_ | refine Zx ?_ | refine Zk ?_ | refine SA ?_ | refine zAE ?_ | refine Ut ?_ | refine mq ?_ | refine l8 ?_)
 | with_reducible refine zy0 (λ_=>?_) (λ_=>?_)
 | with_reducible refine SO (λ_=>?_) (λ_=>?_)
 | with_reducible refine Tv (λ_=>?_) (λ_=>?_)
 | with_reducible refine zyY (λ_=>?_) (λ_=>?_)
 | with_reducible (first | refine zBP ?_ | refine zCc ?_ | refine zBJ ?_ | refine zzk ?_ | refine SV ?_ | refine zBv ?_ | refine YI ?_ | refine TV ?_ | refine ZX ?_ | refine U8 ?_ | refine zAJ ?_ | refine zyk ?_ | refine YU ?_ | refine zxS ?_ | refine zzi ?_ | refine zzq ?_)
 | ((with_reducible apply zyx);(focus walk_at "is"))
 | ((with_reducible apply YL);(focus walk_at "is"))
 | ((with_reducible apply ie);(focus(apply aK.of;walk_at "lst"));(focus rfl))
 | ((with_reducible apply zf);(focus assumption);(focus rfl);intro hN eN lN;dsimp only[Int.reduceToNat,xH,xI]at lN)
 | ((with_reducible apply PJ);(focus walk_at "is"))
 | ((with_reducible apply zxh);(focus walk_at "is"))
 | ((with_reducible apply Se);(focus walk_at "is"))
 | dsimp only[xH,xI])
/- one statement behind another: what follows rk behind a name -/
set_option hygiene false in
open L2 GM in
local macro_rules | `(tactic| walk_at "sq")=>`(tactic| with_reducible refine Zg (λ tl_ htl_=>?_))
set_option hygiene false in
open L2 GM in
local macro_rules | `(tactic| walk_at "tl")=>`(tactic| ((with_reducible refine rS.go (by assumption) ?_); (try clear htl_ tl_)))
/- how great a number is -/
open L2 GM in
local macro_rules | `(tactic| walk_at "bdr0")=>`(tactic| first
 | assumption
 | exact ag.zero
 | exact ag.one
 | exact ag.four
 | (apply ag.add;(focus walk_at "bdr0");walk_at "bdr0")
 | (apply ag.sub;(focus walk_at "bdr0");walk_at "bdr0")
 | (apply ag.mul;(focus walk_at "bdr0");walk_at "bdr0"))
open L2 GM in
local macro_rules | `(tactic| walk_at "bdr")=>`(tactic| first
 | assumption
 | (apply ag.mono;(focus walk_at "bdr0");(first | decide | omega)))
/- .. with new tuples,lists,dicts -/
open L2 GM in
local macro_rules | `(tactic| walk_at "ga1")=>`(tactic| first
 | walk_at "gs"
 | ((with_reducible apply cH);(focus(simp only[wV,QE];decide));(focus walk_at "isall");intro _ _ _ _)
 | ((with_reducible apply ff);(focus(simp only[wV,QE];decide));intro _ _ _ _ _)
 | ((with_reducible apply mP);(focus walk_at "lst");(focus walk_at "lst");(focus(simp only[wH,wV,QE];decide));intro _ _ _ _ _))
local macro_rules | `(tactic| walk_at "ga")=>`(tactic| repeat' (first | walk_at "ga1" | walk_at "tl"))
local macro_rules | `(tactic| walk_at "gg")=>`(tactic| repeat' (first | walk_at "gs" | walk_at "tl"))
local macro_rules | `(tactic| walk_at "gt")=>`(tactic| repeat' (walk_at "gs"))
open L2 GM in
local macro_rules | `(tactic| walk_at "bd128")=>`(tactic| first
 | exact Bd.mono (m:=128) ⟨by decide⟩ (by decide)
 | exact(Bd.jQ (by omega) (by omega)).mono (by decide))
open L2 GM in
local macro_rules | `(tactic| walk_at "gs")=>`(tactic| first
 | with_reducible (first | refine zCC ?_ | refine ZR ?_ | refine Yz ?_ | refine zxP ?_ | refine zwM ?_ | refine zxw ?_ | refine U3 ?_ | refine Ls ?_ | refine zw2 ?_ | refine zv8 ?_ | refine zCf ?_ | refine SI ?_ | refine So ?_ | refine zuo ?_ | refine ZE ?_ | refine zAK ?_ | refine zps ?_ | refine zvS ?_ | refine zxQ ?_)
 | with_reducible refine zyI (λ_ _ _ _=>?_)
 | with_reducible (first | refine UT ?_ | refine S_ ?_ | refine Ua ?_ | refine Yi ?_ | refine Uo ?_ | refine zxD ?_ | refine zu5 ?_ | refine Ze ?_ | refine zvN ?_)
 | ((with_reducible apply YQ);(focus walk_at "is"))
 | ((with_reducible apply zyM);(focus walk_at "is"))
 | ((with_reducible apply Td);(focus walk_at "is");intro _ _)
 | ((with_reducible apply zy2);(focus walk_at "is");intro _ _)
 | ((with_reducible apply ie);(focus(apply aK.of;walk_at "lst"));(focus rfl))
 | ((with_reducible apply Sd);(focus walk_at "lst");(focus omega);(focus omega);intro _ _)
 | ((with_reducible apply Ph);(focus walk_at "is");(focus walk_at "is"))
 | ((with_reducible apply Tn);(focus walk_at "is");(focus walk_at "is")))
set_option hygiene false in
local macro_rules | `(tactic| walk_at "b1")=>`(tactic| (focus (intro vs H Q E h; obtain ⟨_,rfl,_⟩:=h; rfl)); (intro cdv A outer s H vs Q E hr h; obtain ⟨x0,rfl,h⟩:=h; have hu:=hr.units))
set_option hygiene false in
local macro_rules | `(tactic| walk_at "b2")=>`(tactic| (focus (intro vs H Q E h; obtain ⟨_,_,rfl,_⟩:=h; rfl)); (intro cdv A outer s H vs Q E hr h; obtain ⟨x0,x1,rfl,h⟩:=h; have hu:=hr.units))
set_option hygiene false in
local macro_rules | `(tactic| walk_at "b3")=>`(tactic| (focus (intro vs H Q E h; obtain ⟨_,_,_,rfl,_⟩:=h; rfl)); (intro cdv A outer s H vs Q E hr h; obtain ⟨x0,x1,x2,rfl,h⟩:=h; have hu:=hr.units))
set_option hygiene false in
local macro_rules | `(tactic| walk_at "b4")=>`(tactic| (focus (intro vs H Q E h; obtain ⟨_,_,_,_,rfl,_⟩:=h; rfl)); (intro cdv A outer s H vs Q E hr h; obtain ⟨x0,x1,x2,x3,rfl,h⟩:=h; have hu:=hr.units))
set_option hygiene false in
local macro_rules | `(tactic| walk_at "cl")=>`(tactic| ((clear hu); (try clear hgd); (try dsimp only [iQ,cxOfH])))
namespace G
open PySem PySem.Spec PyProof.Rows L2 GM
section
variable{P:Program}{w:World}{K:wb}{mg:Str->Option Value}{base:Heap}{a:Ad}
def isInt:PyData->Bool
 | .int _=>true
 | _=>false
def J9(K:wb):Sp:=λvs H Q _=>∃x0,vs=[x0] /\ ∃d,Is K H x0 d/\Q (.bl (isInt d)) H
theorem Ug{K:wb}{H:Hp}{Q:VK}{E:XK}{v:V}{d:PyData}(h:Is K H v d)(q:Q (.bl (isInt d)) H):J9 K [v] H Q E:=⟨v,rfl,d,h,q⟩
local macro_rules | `(tactic| walk_at "gs")=>`(tactic| ((with_reducible apply Ug); (focus walk_at "is")))
theorem Li(T:Txt K mg a):aJ P w K mg base aT 1 a.GX a.FD rH (J9 K):=by
 refine T.zT.F.ok UB ?_ ?_;walk_at "b1";refine⟨_,(av (aE (gW (bQ (show aO _ (.builtin "isinstance") (i_ K)from ym) rfl T.z_isinstance nM (ae (pv 0) (ae (mH (v:=.ty "int") rfl T.z_int zBG rfl) af))) (lz (nk (bQ (show aO _ (.builtin "isinstance") (i_ K)from ym) rfl T.z_isinstance nM (ae (pv 0) (ae (mH (v:=.ty "bool") rfl T.z_bool zyP rfl) af)))))))),?_⟩;walk_at "cl";rw[show start Ax [x0]=[some x0]from rfl];obtain⟨d,hd,q⟩:=h;walk_at "gg"
 all_goals(cases d<;>simp_all [isInt,Au,Ds])
def PL(K:wb):Sp:=λvs H Q _=>∃x0 x1,vs=[x0,x1] /\ ∃a b:Int,x0=.int a/\x1=.int b/\0<=a/\0<=b/\Q (.int (wZ a b:Nat)) H
theorem pQ{K:wb}{H:Hp}{Q:VK}{E:XK}{a b:Int}(ha:0<=a)(hb:0<=b)(q:Q (.int (wZ a b:Nat)) H):PL K [.int a,.int b] H Q E:=⟨_,_,rfl,a,b,rfl,rfl,ha,hb,q⟩
theorem pT(T:Txt K mg a):aJ P w K mg base aT 1 a.Es a.En yU (PL K):=by
 refine T.lC.F.ok zg ?_ ?_;walk_at "b2"
 refine⟨_,(ao (mG vf (bS (show aN _ (compareOp .NotEq) (gc K)from kX hu) (pv 1) ay (a_ _)) (ao (az 2 zg.nd (aA gr (pv 0) (pv 1)))
     (ao (az 0 zg.nd (pv 1))
     (av (az 1 zg.nd (pv 2))))))
     (av (aE (pv 0)))),?_⟩
 walk_at "cl";rw[show start M8 [x0,x1]=[some x0,some x1,none]from rfl];obtain⟨a',b',rfl,rfl,ha,hb,q⟩:=h;refine zAV ?_;refine KW (λσ H'=>∃(x y:Int)(r:Option V),σ = [some (.int x),some (.int y),r]/\0<=x/\0<=y/\wZ x y=wZ a' b'/\H'=H) (λσ=>(KH σ 1).toNat) ⟨a',b',none,rfl,ha,hb,rfl,rfl⟩ ?_;rintro σ H' ⟨x,y,r,rfl,hx,hy,hg,rfl⟩;walk_at "gg"
 . refine Iy ?_
   walk_at "gg";have h1:=qw x (show y≠0 by assumption);have h2:=V8 x (show 0<y by omega);refine⟨?_,_,_,_,rfl,hy,h1,?_,rfl⟩
   . show(x % y).toNat<y.toNat
     omega
   . rw[<- hg];exact KY (by omega) hx
 . rename_i h0
   subst h0
   have e:((wZ a' b':Nat):Int)=x:=by
     rw[<- hg,xJ];omega
   rw[e]at q;exact q
def bE:PyData->Bool
 | .tuple [.int p,.int q]=>gu p q
 | _=>false
theorem DP(r:Rat):bE (N r)=true:=PU r
theorem Y7{d:PyData}(h:hJ d=false):bE d=false:=by
 cases d<;>first | rfl | (simp[hJ]at h)
theorem zsU{ds:List PyData}(h:¬ ds.length=2):bE (.tuple ds)=false:=by
 match ds with
 | []=>rfl
 | [_]=>simp[bE]
 | [_,_]=>exact absurd rfl h
 | _::_::_::_=>simp[bE]
theorem zpu{d e:PyData}(h:isInt d=false):bE (.tuple [d,e])=false:=by
 cases d<;>first | rfl | (simp[isInt]at h)
theorem znb{d e:PyData}(h:isInt e=false):bE (.tuple [d,e])=false:=by
 cases d<;>cases e<;>first | rfl | (simp[isInt]at h)
theorem Q_{d:PyData} : isInt d=true ↔ ∃i,d=.int i:=by cases d<;>simp[isInt]
def KD(K:wb):Sp:=λvs H Q _=>∃x0,vs=[x0] /\ ∃d,Is K H x0 d/\Q (.bl (bE d)) H
theorem zoQ{K:wb}{H:Hp}{Q:VK}{E:XK}{v:V}{d:PyData}(h:Is K H v d)(q:Q (.bl (bE d)) H):KD K [v] H Q E:=⟨v,rfl,d,h,q⟩
local macro_rules | `(tactic| walk_at "gs")=>`(tactic| ((with_reducible apply zoQ); (focus walk_at "is")))
theorem Ck(T:Txt K mg a):aJ P w K mg base aT 2 a.Gr a.Fp zl (KD K):=by
 refine T.p6.F.ok zoN ?_ ?_;walk_at "b1"
 refine⟨_,(ao (bN (PW.pt (jD (eD (dD (bQ (show aO _ (.builtin "isinstance") (i_ K)from ym) rfl T.z_isinstance nM (ae (pv 0) (ae (mH (v:=.ty "tuple") rfl T.z_tuple d_ rfl) af))))) (kh (bS (show aN _ (compareOp .NotEq) (gc K)from kX hu) (bQ (show aO _ (.builtin "len") (cN K)from dU) rfl T.z_len dC (ae (pv 0) af)) ay (a_ _))))) (av (aE jb)) bP)
     (ao (bN (PW.pt (jD (eD (dD (au (Li T) hr T.zT (ae (ar (pv 0)) af)))) (kh (eD (dD (au (Li T) hr T.zT (ae (ar (pv 0)) af))))))) (av (aE jb)) bP)
     (av (aE (gW (fB Bg (ar (pv 0)) ay (a_ _)) (lz (fB (show aN _ (compareOp .Eq) (cz K)from cZ hu) (au (pT T) hr T.lC (ae (bQ kE rfl T.z_abs kC (ae (ar (pv 0)) af)) (ae (ar (pv 0)) af))) ay (a_ _)))))))),?_⟩
 walk_at "cl";rw[show start BN [x0]=[some x0]from rfl];obtain⟨d,hd,q⟩:=h;walk_at "gg"
 . rename_i e
   rw[Y7 e]at q;exact q
 . rename_i e
   obtain⟨ds,rfl⟩:=NX.mp e;refine ju hd ?_;walk_at "gg"
   . rename_i e
     rw[zsU (by omega)]at q;exact q
   . rename_i e
     obtain⟨d0,d1,rfl⟩:∃d0 d1,ds=[d0,d1]:=by
       match ds,e with
       | [d0,d1],_=>exact⟨d0,d1,rfl⟩
       | [],e=>simp at e
       | [_],e=>simp at e
       | _::_::_::_,e=>simp at e;omega
     refine aD (j:=0) hd rfl (λy0 h0=>?_);walk_at "gg"
     . rename_i e
       rw[zpu e]at q;exact q
     . rename_i e0
       obtain⟨i,rfl⟩:=Q_.mp e0;refine aD (j:=1) hd rfl (λy1 h1=>?_);walk_at "gg"
       . rename_i e
         rw[znb e]at q;exact q
       . rename_i e1
         obtain⟨j,rfl⟩:=Q_.mp e1;refine aD (j:=1) hd rfl (λy2 h2=>?_);cases cg.mp h2;walk_at "gg"
         . refine aD (j:=0) hd rfl (λy3 h3=>?_)
           cases cg.mp h3;walk_at "gg";refine aD (j:=1) hd rfl (λy4 h4=>?_);cases cg.mp h4;walk_at "gg";refine pQ (by split<;>omega) (by omega) ?_;walk_at "gg"
           have e3:bE (.tuple [.int i,.int j])=decide ((wZ (if i<0 then -i else i) j:Nat)=(1:Int)):=by
             have e4:wZ (if i<0 then -i else i) j=wZ i j:=by
               split<;>simp
             rw[e4]
             show gu i j=_
             rename_i e5;simp only[gu,e5,decide_true,qW];rw[vc,decide_eq_true_eq,decide_eq_true_eq];omega
           rw[e3]at q;exact q
         . rename_i e5
           have e3:bE (.tuple [.int i,.int j])=false:=by
             show gu i j=false
             simp only[gu,e5,decide_false,Wv]
           rw[e3]at q;exact q
def MN(K:wb):Sp:=λvs H Q _=>∃x0 x1,vs=[x0,x1] /\ ∃(x y:Rat),Is K H x0 (N x)/\Is K H x1 (N y)/\ag 8999 x/\ag 8999 y /\ ∀v H',ah H H'->Is K H' v (N (x+y))->Q v H'
theorem Rp{K:wb}{H:Hp}{Q:VK}{E:XK}{x y:Rat}{v w:V}(h1:Is K H v (N x))(h2:Is K H w (N y))(b1:ag 8999 x)(b2:ag 8999 y)(q:∀v H',ah H H'->Is K H' v (N (x+y))->Q v H'):MN K [v,w] H Q E:=⟨_,_,rfl,x,y,h1,h2,b1,b2,q⟩
local macro_rules | `(tactic| walk_at "gs")=>`(tactic| ((with_reducible apply Rp); (focus walk_at "is"); (focus walk_at "is"); (focus walk_at "bdr"); (focus walk_at "bdr"); intro _ _ _ _))
theorem gn(T:Txt K mg a):aJ P w K mg base aT 2 a.plus a.G_ u5 (MN K):=by
 refine T.fM.F.ok uP ?_ ?_;walk_at "b2"
 refine⟨_,(ao (az 2 uP.nd (au (pT T) hr T.lC (ae (ar (pv 0)) (ae (ar (pv 1)) af))))
     (ao (az 3 uP.nd (aA cb (aA cj (ar (pv 0)) (aA eS (ar (pv 1)) (pv 2))) (aA cj (ar (pv 1)) (aA eS (ar (pv 0)) (pv 2)))))
     (ao (az 4 uP.nd (au (pT T) hr T.lC (ae (bQ kE rfl T.z_abs kC (ae (pv 3) af)) (ae (pv 2) af))))
     (av (aE (br (ae (aA eS (pv 3) (pv 4)) (ae (aA cj (aA eS (ar (pv 0)) (pv 2)) (aA eS (ar (pv 1)) (pv 4))) af)))))))),?_⟩
 walk_at "cl";rw[show start OV [x0,x1]=[some x0,some x1,none,none,none]from rfl];obtain⟨x,y,hx,hy,⟨bx1,bx2⟩,⟨by1,by2⟩,q⟩:=h;have px:=den_pos x;have py:=den_pos y;have ps:=rV x y;have pd:=Cs x y;have c1:mC 0 (eK x y):=⟨by omega,oX bx2 (oq x y) px⟩;have c2:mC 0 (iF x y):=⟨by omega,oX (oX bx2 (oq x y) px) (CI x y) ps⟩;have f1:=kQ by2 (sD x y) ps;have f2:=kQ bx2 (oq x y) ps;have f3:=kQ by2 (VQ (CI x y) (sD x y)) pd;walk_at "gg";refine pQ (by omega) (by omega) ?_;rw[show((wZ (x.den:Int) (y.den:Int):Nat):Int)=eK x y from rfl];walk_at "gg";rw[show x.num*(y.den:Int).fdiv (eK x y)+y.num*(x.den:Int).fdiv (eK x y)=kj x y from rfl];walk_at "gg";refine pQ (by split<;>omega) (by omega) ?_;rw[sO,show((wZ (kj x y) (eK x y):Nat):Int)=iF x y from rfl];walk_at "gg";exact eC (zyQ x y) (zzh x y) q
def MS(K:wb):Sp:=λvs H Q _=>∃x0 x1,vs=[x0,x1] /\ ∃(x y:Rat),Is K H x0 (N x)/\Is K H x1 (N y)/\ag 8999 x/\ag 8999 y /\ ∀v H',ah H H'->Is K H' v (N (x-y))->Q v H'
theorem zwj{K:wb}{H:Hp}{Q:VK}{E:XK}{x y:Rat}{v w:V}(h1:Is K H v (N x))(h2:Is K H w (N y))(b1:ag 8999 x)(b2:ag 8999 y)(q:∀v H',ah H H'->Is K H' v (N (x-y))->Q v H'):MS K [v,w] H Q E:=⟨_,_,rfl,x,y,h1,h2,b1,b2,q⟩
local macro_rules | `(tactic| walk_at "gs")=>`(tactic| ((with_reducible apply zwj); (focus walk_at "is"); (focus walk_at "is"); (focus walk_at "bdr"); (focus walk_at "bdr"); intro _ _ _ _))
theorem rT(T:Txt K mg a):aJ P w K mg base aT 3 a.minus a.GS t9 (MS K):=by
 refine T.nE.F.ok Uj ?_ ?_;walk_at "b2";refine⟨_,(av (aE (au (gn T) hr T.fM (ae (pv 0) (ae (br (ae (gU h9 (ar (pv 1))) (ae (ar (pv 1)) af))) af))))),?_⟩;walk_at "cl";rw[show start CL [x0,x1]=[some x0,some x1]from rfl];obtain⟨x,y,hx,hy,bx,by',q⟩:=h;walk_at "gg";refine eC (r:=-y) (by simp) (by simp) (λv H' s hv=>?_);walk_at "gg";refine Rp (by walk_at "is") hv bx (zyv by') (λw H'' s2 hw=>?_);rw[zss]at hw;walk_at "gg";exact q w H'' (s.trans s2) hw
def JA(K:wb):Sp:=λvs H Q _=>∃x0 x1,vs=[x0,x1] /\ ∃(x y:Rat),Is K H x0 (N x)/\Is K H x1 (N y)/\ag 8999 x/\ag 8999 y /\ ∀v H',ah H H'->Is K H' v (N (x*y))->Q v H'
theorem DW{K:wb}{H:Hp}{Q:VK}{E:XK}{x y:Rat}{v w:V}(h1:Is K H v (N x))(h2:Is K H w (N y))(b1:ag 8999 x)(b2:ag 8999 y)(q:∀v H',ah H H'->Is K H' v (N (x*y))->Q v H'):JA K [v,w] H Q E:=⟨_,_,rfl,x,y,h1,h2,b1,b2,q⟩
local macro_rules | `(tactic| walk_at "gs")=>`(tactic| ((with_reducible apply DW); (focus walk_at "is"); (focus walk_at "is"); (focus walk_at "bdr"); (focus walk_at "bdr"); intro _ _ _ _))
theorem jW(T:Txt K mg a):aJ P w K mg base aT 2 a.times a.GW uS (JA K):=by
 refine T.jh.F.ok Dq ?_ ?_;walk_at "b2"
 refine⟨_,(ao (az 2 Dq.nd (au (pT T) hr T.lC (ae (bQ kE rfl T.z_abs kC (ae (ar (pv 0)) af)) (ae (ar (pv 1)) af))))
     (ao (az 3 Dq.nd (au (pT T) hr T.lC (ae (bQ kE rfl T.z_abs kC (ae (ar (pv 1)) af)) (ae (ar (pv 0)) af))))
     (av (aE (br (ae (aA cj (aA eS (ar (pv 0)) (pv 2)) (aA eS (ar (pv 1)) (pv 3))) (ae (aA cj (aA eS (ar (pv 0)) (pv 3)) (aA eS (ar (pv 1)) (pv 2))) af))))))),?_⟩
 walk_at "cl";rw[show start Pk [x0,x1]=[some x0,some x1,none,none]from rfl];obtain⟨x,y,hx,hy,⟨bx1,bx2⟩,⟨by1,by2⟩,q⟩:=h;have px:=den_pos x;have py:=den_pos y;have p1:=nz x y;have p2:=nz y x;have c1:mC 0 (fV x y):=⟨by omega,oX by2 (mh x y) py⟩;have c2:mC 0 (fV y x):=⟨by omega,oX bx2 (mh y x) px⟩;have f1:=kQ bx1 (yg x y) p1;have f2:=kQ by1 (yg y x) p2;have f3:=kQ bx2 (mh y x) p2;have f4:=kQ by2 (mh x y) p1;walk_at "gg";refine pQ (by split<;>omega) (by omega) ?_;rw[sO,show((wZ x.num (y.den:Int):Nat):Int)=fV x y from rfl];walk_at "gg";refine pQ (by split<;>omega) (by omega) ?_;rw[sO,show((wZ y.num (x.den:Int):Nat):Int)=fV y x from rfl];walk_at "gg";exact eC (zy7 x y) (UA x y) q
def La(K:wb):Sp:=λvs H Q _=>∃x0 x1,vs=[x0,x1] /\ ∃(x y:Rat),Is K H x0 (N x)/\Is K H x1 (N y)/\ag 8999 x/\ag 8999 y/\y≠0 /\ ∀v H',ah H H'->Is K H' v (N (x / y))->Q v H'
theorem KR{K:wb}{H:Hp}{Q:VK}{E:XK}{x y:Rat}{v w:V}(h1:Is K H v (N x))(h2:Is K H w (N y))(b1:ag 8999 x)(b2:ag 8999 y)(hy:y≠0)(q:∀v H',ah H H'->Is K H' v (N (x / y))->Q v H'):La K [v,w] H Q E:=⟨_,_,rfl,x,y,h1,h2,b1,b2,hy,q⟩
theorem NA(T:Txt K mg a):aJ P w K mg base aT 3 a.over a.Hm sh (La K):=by
 refine T.Aa.F.ok OC ?_ ?_;walk_at "b2"
 refine⟨_,(ao (bN (bS (show aN _ (compareOp .Eq) (cz K)from cZ hu) (ar (pv 1)) ay (a_ _)) (av BE) bP)
     (ao (az 2 OC.nd (rZ (bS nv (ar (pv 1)) ay (a_ _)) (br (ae (ar (pv 1)) (ae (ar (pv 1)) af))) (br (ae (gU h9 (ar (pv 1))) (ae (gU h9 (ar (pv 1))) af)))))
     (av (aE (au (jW T) hr T.jh (ae (pv 0) (ae (pv 2) af))))))),?_⟩
 walk_at "cl";rw[show start HW [x0,x1]=[some x0,some x1,none]from rfl];obtain⟨x,y,hx,hy,bx,by',hn,q⟩:=h;walk_at "gg"
 . rename_i z
   exact absurd z (sJ hn)
 . rename_i z0 z
   refine eC (r:=y⁻¹) (yz z).1.symm (yz z).2.symm (λv1 H1 S1 i1=>?_);walk_at "gg";refine DW (hx.by S1) i1 bx (Nc by' hn) (λv2 H2 S2 i2=>?_);rw[<- QL]at i2;walk_at "gg";exact q v2 H2 (S1.trans S2) i2
 . rename_i z0 z
   have z:y.num<0:=by omega
   refine eC (r:=y⁻¹) (tW z).1.symm (tW z).2.symm (λv1 H1 S1 i1=>?_);walk_at "gg";refine DW (hx.by S1) i1 bx (Nc by' hn) (λv2 H2 S2 i2=>?_);rw[<- QL]at i2;walk_at "gg";exact q v2 H2 (S1.trans S2) i2
def LS(K:wb):Sp:=λvs H Q _=>∃x0 x1,vs=[x0,x1] /\ ∃(x y:Rat),Is K H x0 (N x)/\Is K H x1 (N y)/\ag 8999 x/\ag 8999 y/\Q (.bl (decide (x<y))) H
theorem zyR{K:wb}{H:Hp}{Q:VK}{E:XK}{x y:Rat}{v w:V}(h1:Is K H v (N x))(h2:Is K H w (N y))(b1:ag 8999 x)(b2:ag 8999 y)(q:Q (.bl (decide (x<y))) H):LS K [v,w] H Q E:=⟨_,_,rfl,x,y,h1,h2,b1,b2,q⟩
local macro_rules | `(tactic| walk_at "gs")=>`(tactic| ((with_reducible apply zyR); (focus walk_at "is"); (focus walk_at "is"); (focus walk_at "bdr"); (focus walk_at "bdr")))
theorem gf(T:Txt K mg a):aJ P w K mg base aT 1 a.less a.Hu uQ (LS K):=by
 refine T.fL.F.ok zyq ?_ ?_;walk_at "b2";refine⟨_,(av (aE (fB mO (aA cj (ar (pv 0)) (ar (pv 1))) (aA cj (ar (pv 1)) (ar (pv 0))) (a_ _)))),?_⟩;walk_at "cl";rw[show start C6 [x0,x1]=[some x0,some x1]from rfl];obtain⟨x,y,hx,hy,⟨bx1,bx2⟩,⟨by1,by2⟩,q⟩:=h;walk_at "gg";rw[UO];exact q
def nX(x:Rat):Bool:=decide (0<x)&&(!decide (4<x))&&decide ((x.den:Int)<=8)
def L3(K:wb):Sp:=λvs H Q _=>∃x0,vs=[x0] /\ ∃x:Rat,Is K H x0 (N x)/\ag 4000 x/\Q (.bl (nX x)) H
theorem ZY{K:wb}{H:Hp}{Q:VK}{E:XK}{x:Rat}{v:V}(h:Is K H v (N x))(b:ag 4000 x)(q:Q (.bl (nX x)) H):L3 K [v] H Q E:=⟨_,rfl,x,h,b,q⟩
local macro_rules | `(tactic| walk_at "gs")=>`(tactic| ((with_reducible apply ZY); (focus walk_at "is"); (focus walk_at "bdr")))
theorem Uu(T:Txt K mg a):aJ P w K mg base aT 2 a.Gv a.Fe uL (L3 K):=by
 refine T.FR.F.ok Ta ?_ ?_;walk_at "b1";refine⟨_,(av (aE (gW (au (gf T) hr T.fL (ae (bW (v:=.ref a.cW) rfl T.dF rfl) (ae (pv 0) af))) (gW (nk (au (gf T) hr T.fL (ae (bW (v:=.ref a.zL) rfl T.Rv rfl) (ae (pv 0) af)))) (lz (fB pK (ar (pv 0)) (oH rfl T.Rx) (a_ _))))))),?_⟩;walk_at "cl";rw[show start DX [x0]=[some x0]from rfl];obtain⟨x,hx,bx,q⟩:=h;unfold nX at q;walk_at "gg"
 ·rename_i h1 h2
  rw[decide_eq_true h1,decide_eq_false h2]at q;exact q
 ·rename_i h1 h2
  rw[decide_eq_true h1,decide_eq_true h2]at q;exact q
 ·rename_i h1
  rw[decide_eq_false h1]at q;exact q
def nZ(x:Rat):Bool:=(!decide (x<0))&&(!decide (1<x))&&decide ((x.den:Int)<=12)
def NY(K:wb):Sp:=λvs H Q _=>∃x0,vs=[x0] /\ ∃x:Rat,Is K H x0 (N x)/\ag 4000 x/\Q (.bl (nZ x)) H
theorem TH{K:wb}{H:Hp}{Q:VK}{E:XK}{x:Rat}{v:V}(h:Is K H v (N x))(b:ag 4000 x)(q:Q (.bl (nZ x)) H):NY K [v] H Q E:=⟨_,rfl,x,h,b,q⟩
local macro_rules | `(tactic| walk_at "gs")=>`(tactic| ((with_reducible apply TH); (focus walk_at "is"); (focus walk_at "bdr")))
theorem V_(T:Txt K mg a):aJ P w K mg base aT 2 a.GP a.FK sr (NY K):=by
 refine T.F6.F.ok zqo ?_ ?_;walk_at "b1";refine⟨_,(av (aE (gW (nk (au (gf T) hr T.fL (ae (pv 0) (ae (bW (v:=.ref a.cW) rfl T.dF rfl) af)))) (gW (nk (au (gf T) hr T.fL (ae (bW (v:=.ref a.dG) rfl T.eF rfl) (ae (pv 0) af)))) (lz (fB pK (ar (pv 0)) (oH rfl T.Ry) (a_ _))))))),?_⟩;walk_at "cl";rw[show start AZ [x0]=[some x0]from rfl];obtain⟨x,hx,bx,q⟩:=h;unfold nZ at q;walk_at "gg"
 ·rename_i h1 h2
  rw[decide_eq_false h1,decide_eq_false h2]at q;exact q
 ·rename_i h1 h2
  rw[decide_eq_false h1,decide_eq_true h2]at q;exact q
 ·rename_i h1
  rw[decide_eq_true h1]at q;exact q
def lB(x y:Rat):Bool:=nX x&&nZ y && !decide (x+y<1)
def CJ(K:wb):Sp:=λvs H Q _=>∃x0 x1,vs=[x0,x1]/\((∃d e,Is K H x0 d/\Is K H x1 e/\(bE d&&bE e)=false /\ ∀H',ah H H'->Q (.bl false) H')\/(∃x y:Rat,Is K H x0 (N x)/\Is K H x1 (N y)/\ag 1000 x/\ag 1000 y /\ ∀H',ah H H'->Q (.bl (lB x y)) H'))
theorem YB{K:wb}{H:Hp}{Q:VK}{E:XK}{d e:PyData}{v w:V}(h1:Is K H v d)(h2:Is K H w e)(n:(bE d&&bE e)=false)(q:∀H',ah H H'->Q (.bl false) H'):CJ K [v,w] H Q E:=⟨_,_,rfl,.inl ⟨d,e,h1,h2,n,q⟩⟩
theorem Ss{K:wb}{H:Hp}{Q:VK}{E:XK}{x y:Rat}{v w:V}(h1:Is K H v (N x))(h2:Is K H w (N y))(b1:ag 1000 x)(b2:ag 1000 y)(q:∀H',ah H H'->Q (.bl (lB x y)) H'):CJ K [v,w] H Q E:=⟨_,_,rfl,.inr ⟨x,y,h1,h2,b1,b2,q⟩⟩
theorem To(T:Txt K mg a):aJ P w K mg base aT 3 a.GA a.Fj yQ (CJ K):=by
 refine T.FE.F.ok Us ?_ ?_;walk_at "b2"
 refine⟨_,(ao (bN (PW.pt (jD (eD (dD (au (Ck T) hr T.p6 (ae (pv 0) af)))) (kh (eD (dD (au (Ck T) hr T.p6 (ae (pv 1) af))))))) (av (aE jb)) bP)
     (av (aE (gW (au (Uu T) hr T.FR (ae (pv 0) af)) (gW (au (V_ T) hr T.F6 (ae (pv 1) af)) (lz (nk (au (gf T) hr T.fL (ae (au (gn T) hr T.fM (ae (pv 0) (ae (pv 1) af))) (ae (bW (v:=.ref a.dG) rfl T.eF rfl) af)))))))))),?_⟩
 walk_at "cl";rw[show start Aj [x0,x1]=[some x0,some x1]from rfl];rcases h with⟨d,e,hd,he,hn,q⟩ | ⟨x,y,hx,hy,bx,by',q⟩
 . walk_at "gg"
   . exact q _ (ah.refl _)
   . exact q _ (ah.refl _)
   . rename_i h1 h2
     exact absurd hn (by rw[h1,h2];decide)
 . unfold lB at q
   walk_at "gg"
   . rename_i z;rw[DP]at z;cases z
   . rename_i z;rw[DP]at z;cases z
   . rename_i h1 h2 v H' S hv
     rw[h1,h2]at q;exact q _ S
   . rename_i h1 h2
     rw[h1,h2]at q;exact q _ (ah.refl _)
   . rename_i h1
     rw[h1]at q;exact q _ (ah.refl _)
def Ra:PyData->Bool
 | .tuple [d,e]=>!(bE d&&bE e)
 | _=>true
theorem zqj{d e:PyData}(h:Ra (.tuple [d,e])=true):(bE d&&bE e)=false:=by
 have h:(!(bE d&&bE e))=true:=h;cases z:(bE d&&bE e)with
 | false=>rfl
 | true=>rw[z]at h;exact absurd h (by decide)
def ON(K:wb):Sp:=λvs H Q _=>∃x0,vs=[x0]/\((∃d,Is K H x0 d/\Ra d=true /\ ∀H',ah H H'->Q (.bl false) H')\/(∃x y:Rat,Is K H x0 (R x y)/\ag 1000 x/\ag 1000 y /\ ∀H',ah H H'->Q (.bl (lB x y)) H'))
theorem zs7{K:wb}{H:Hp}{Q:VK}{E:XK}{x y:Rat}{v:V}(h:Is K H v (R x y))(b1:ag 1000 x)(b2:ag 1000 y)(q:∀H',ah H H'->Q (.bl (lB x y)) H'):ON K [v] H Q E:=⟨_,rfl,.inr ⟨x,y,h,b1,b2,q⟩⟩
theorem Uw(T:Txt K mg a):aJ P w K mg base aT 4 a.Ho a.F9 uK (ON K):=by
 refine T.GO.F.ok zr2 ?_ ?_;walk_at "b1";refine⟨_,(av (aE (gW (bQ (show aO _ (.builtin "isinstance") (i_ K)from ym) rfl T.z_isinstance nM (ae (pv 0) (ae (mH (v:=.ty "tuple") rfl T.z_tuple d_ rfl) af))) (gW (fB (show aN _ (compareOp .Eq) (cz K)from cZ hu) (bQ (show aO _ (.builtin "len") (cN K)from dU) rfl T.z_len dC (ae (pv 0) af)) ay (a_ _)) (lz (au (To T) hr T.FE (ae (ar (pv 0)) (ae (ar (pv 0)) af)))))))),?_⟩;walk_at "cl";rw[show start Ao [x0]=[some x0]from rfl];rcases h with⟨d,hd,hn,q⟩ | ⟨x,y,hr,bx,by',q⟩
 ·walk_at "gg"
  ·rename_i e
   obtain⟨ds,rfl⟩:=NX.mp e;refine ju hd ?_;walk_at "gg"
   ·rename_i e
    obtain⟨d0,d1,rfl⟩:∃d0 d1,ds=[d0,d1]:=by
     match ds,e with
     | [d0,d1],_=>exact⟨d0,d1,rfl⟩
     | [],e=>simp at e
     | [_],e=>simp at e
     | _::_::_::_,e=>simp at e;omega
    refine aD (j:=0) hd rfl (λy0 h0=>?_);walk_at "gg";refine aD (j:=1) hd rfl (λy1 h1=>?_);walk_at "gg";refine YB h0 h1 (zqj hn) (λH' S=>?_);walk_at "gg";exact q _ S
   ·exact q _ (ah.refl _)
  ·exact q _ (ah.refl _)
 ·walk_at "gg"
  refine Ss (by assumption) (by assumption) bx by' (λH' S=>?_);walk_at "gg";exact q _ S
def nR(x:Rat):Str:=if 1<x then "rising" else if x=1 then "even" else "falling"
def PX(K:wb):Sp:=λvs H Q _=>∃x0,vs=[x0] /\ ∃x y:Rat,Is K H x0 (R x y)/\ag 4000 x/\Q (.str (nR x)) H
theorem Pu{K:wb}{H:Hp}{Q:VK}{E:XK}{x y:Rat}{v:V}(h:Is K H v (R x y))(b:ag 4000 x)(q:Q (.str (nR x)) H):PX K [v] H Q E:=⟨_,rfl,x,y,h,b,q⟩
theorem O7(T:Txt K mg a):aJ P w K mg base aT 2 a.HD a.Hf yY (PX K):=by
 refine T.Ac.F.ok zyW ?_ ?_;walk_at "b1"
 refine⟨_,(ao (bN (dD (au (gf T) hr T.fL (ae (bW (v:=.ref a.dG) rfl T.eF rfl) (ae (ar (pv 0)) af)))) (av (aE gg)) bP)
     (ao (bN (bS (show aN _ (compareOp .Eq) (cz K)from cZ hu) (ar (pv 0)) (bW (v:=.ref a.dG) rfl T.eF rfl) (a_ _)) (av (aE gg)) bP)
     (av (aE gg)))),?_⟩
 walk_at "cl";rw[show start AJ [x0]=[some x0]from rfl];obtain⟨x,y,hx,bx,q⟩:=h;unfold nR at q;walk_at "gg"
 . rename_i h1
   rw[if_pos h1]at q;exact q
 . rename_i h1 _ _ h2
   rw[if_neg h1,if_pos h2]at q;exact q
 . rename_i h1 _ _ h2
   rw[if_neg h1,if_neg h2]at q;exact q
def CT(K:wb):Sp:=λvs H Q _=>∃x0 x1,vs=[x0,x1] /\ ∃(a b:Rat)(n:Int),x1=.int n/\Is K H x0 (R a b)/\ag 4000 a/\ag 4000 b/\0<=n/\n<=64/\(∀i,i<=n.toNat->ag 4000 (a^i))/\(∀i,i<=n.toNat->ag 4000 (aB a b i)) /\ ∀v H',ah H H'->Is K H' v (R (a^n.toNat) (aB a b n.toNat))->Q v H'
theorem Kp{K:wb}{H:Hp}{Q:VK}{E:XK}{a b:Rat}{n:Int}{v:V}(h1:Is K H v (R a b))(b1:ag 4000 a)(b2:ag 4000 b)(h0:0<=n)(h64:n<=64)(f1:∀i,i<=n.toNat->ag 4000 (a^i))(f2:∀i,i<=n.toNat->ag 4000 (aB a b i))(q:∀v H',ah H H'->Is K H' v (R (a^n.toNat) (aB a b n.toNat))->Q v H'):CT K [v,.int n] H Q E:=⟨_,_,rfl,a,b,n,rfl,h1,b1,b2,h0,h64,f1,f2,q⟩
theorem Bv{K:wb}{H:Hp}{Q:VK}{E:XK}{a b:Rat}{n:Int}{v:V}(h1:Is K H v (R a b))(b1:ag 10 a)(b2:ag 10 b)(h0:0<=n)(h64:n<=64)(q:∀v H',ah H H'->Is K H' v (R (a^n.toNat) (aB a b n.toNat))->Q v H'):CT K [v,.int n] H Q E :=
 Kp h1 (b1.mono (by decide)) (b2.mono (by decide)) h0 h64 (λi hi=>(b1.pow i).mono (by omega)) (λi hi=>(b1.aB b2 i).mono (by omega)) q
theorem yn(T:Txt K mg a):aJ P w K mg base aT 3 a.Hx a.Gw yN (CT K):=by
 refine T.nD.F.ok lP ?_ ?_;walk_at "b2"
 refine⟨_,(ao (az 2 lP.nd (bW (v:=.ref a.dG) rfl T.eF rfl))
     (ao (az 3 lP.nd (bW (v:=.ref a.cW) rfl T.dF rfl))
     (ao (f_ vf rfl (jI rfl T.z_range (ae (pv 1) af)) (bL (i:=4) lP.nd rfl (Or.inl rfl)) (ao (az 2 lP.nd (au (jW T) hr T.jh (ae (ar (pv 0)) (ae (pv 2) af))))
     (av (az 3 lP.nd (au (gn T) hr T.fM (ae (au (jW T) hr T.jh (ae (ar (pv 0)) (ae (pv 3) af))) (ae (ar (pv 0)) af)))))))
     (av (aE (br (ae (pv 2) (ae (pv 3) af)))))))),?_⟩
 walk_at "cl";rw[show start J7 [x0,x1]=[some x0,some x1,none,none,none]from rfl];obtain⟨r,s',n,rfl,hr',ba,bb,h0,h64,f1,f2,q⟩:=h;walk_at "gg";refine kH (n:=n) (by omega) (by omega) (λi σ H'=>∃(f g:V)(o:Option V),σ = [some x0,some (.int n),some f,some g,o]/\ah H H'/\Is K H' f (N (r^i))/\Is K H' g (N (aB r s' i))) ⟨_,_,_,rfl,ah.refl H,by rw[VH];exact lU.mpr ⟨_,rfl,T.rp H⟩,lU.mpr ⟨_,rfl,T.d9 H⟩⟩ ?_ ?_
 . rintro i σ H' hi ⟨f,g,o,rfl,S1,hf,hg⟩
   have hr1:=hr'.by S1;have bf:ag 4000 (r^i):=f1 i (by omega);have bg:ag 4000 (aB r s' i):=f2 i (by omega);have bg2:ag 8999 (r*aB r s' i):=(ba.mul bg).mono (by decide);walk_at "gg";refine⟨_,_,_,rfl,S1.trans (ah.trans (by assumption) (ah.trans (by assumption) (by assumption))),?_,?_⟩
   . rw[Wl,V9]
     walk_at "is"
   . walk_at "is"
 . rintro σ H' ⟨f,g,o,rfl,S1,hf,hg⟩
   walk_at "ga";exact q _ _ (S1.trans (by assumption)) (by assumption)
def PB(K:wb):Sp:=λvs H Q _=>∃x0 x1,vs=[x0,x1] /\ ∃(f g x:Rat),Is K H x0 (R f g)/\Is K H x1 (N x)/\ag 700 f/\ag 1500 g/\ag 8100 x /\ ∀v H',ah H H'->Is K H' v (N (f*x+g))->Q v H'
theorem LK{K:wb}{H:Hp}{Q:VK}{E:XK}{f g x:Rat}{v w:V}(h1:Is K H v (R f g))(h2:Is K H w (N x))(b1:ag 700 f)(b2:ag 1500 g)(b3:ag 8100 x)(q:∀v H',ah H H'->Is K H' v (N (f*x+g))->Q v H'):PB K [v,w] H Q E:=⟨_,_,rfl,f,g,x,h1,h2,b1,b2,b3,q⟩
theorem Mr(T:Txt K mg a):aJ P w K mg base aT 3 a.Gx a.Fd zx (PB K):=by
 refine T.zQ.F.ok zo3 ?_ ?_;walk_at "b2";refine⟨_,(av (aE (au (gn T) hr T.fM (ae (au (jW T) hr T.jh (ae (ar (pv 0)) (ae (pv 1) af))) (ae (ar (pv 0)) af))))),?_⟩;walk_at "cl";rw[show start A5 [x0,x1]=[some x0,some x1]from rfl];obtain⟨f,g,x,hp,hx,bf,bg,bx,q⟩:=h;walk_at "gg";rename_i hz;exact q _ _ (ah.trans (by assumption) (by assumption)) hz
def y7(K:wb):Sp:=λvs H Q _=>∃x0,vs=[x0]/\((∃d,Is K H x0 d/\bE d=false/\Q (.bl false) H)\/(∃x:Rat,Is K H x0 (N x)/\ag 4000 x/\Q (.bl (jG x)) H))
theorem zoU{K:wb}{H:Hp}{Q:VK}{E:XK}{d:PyData}{v:V}(h:Is K H v d)(n:bE d=false)(q:Q (.bl false) H):y7 K [v] H Q E:=⟨_,rfl,.inl ⟨d,h,n,q⟩⟩
theorem zqV{K:wb}{H:Hp}{Q:VK}{E:XK}{x:Rat}{v:V}(h:Is K H v (N x))(b:ag 4000 x)(q:Q (.bl (jG x)) H):y7 K [v] H Q E:=⟨_,rfl,.inr ⟨x,h,b,q⟩⟩
theorem zrf(T:Txt K mg a):aJ P w K mg base aT 3 a.G2 a.FJ tR (y7 K):=by
 refine T.Gf.F.ok zrS ?_ ?_;walk_at "b1"
 refine⟨_,(ao (bN (PW.pt (jD (eD (dD (au (Ck T) hr T.p6 (ae (pv 0) af)))) (kh (dD (au (gf T) hr T.fL (ae (pv 0) (ae (bW (v:=.ref a.cW) rfl T.dF rfl) af))))))) (av (aE jb)) bP)
     (av (aE (gW (au (gf T) hr T.fL (ae (pv 0) (ae (bW (v:=.ref a.dG) rfl T.eF rfl) af))) (lz (fB pK (ar (pv 0)) (oH rfl T.Rz) (a_ _))))))),?_⟩
 walk_at "cl";rw[show start DE [x0]=[some x0]from rfl];rcases h with⟨d,hd,hn,q⟩ | ⟨x,hx,bx,q⟩
 . walk_at "gg"
   . exact q
   . rename_i e;rw[hn]at e;cases e
 . unfold jG at q
   walk_at "gg"
   . rename_i z;rw[DP]at z;cases z
   . rename_i h1
     rw[decide_eq_true h1]at q;exact q
   . rename_i h1 h2
     rw[decide_eq_false h1,decide_eq_true h2]at q;exact q
   . rename_i h1 h2
     rw[decide_eq_false h1,decide_eq_false h2]at q;exact q
def fH:PyData->Bool
 | .tuple [.int p,.int q]=>gu p q&&jG (wp p q)
 | _=>false
theorem OE(x:Rat):fH (N x)=jG x:=by
 show(gu x.num x.den&&jG (wp x.num x.den))=jG x
 rw[PU,WR,qW]
theorem Yu{d:PyData}(h:bE d=true):∃x:Rat,d=N x:=by
 match d with
 | .tuple [.int p,.int q] =>
  obtain⟨r,e1,e2⟩:=UN (show gu p q=true from h);exact⟨r,by rw[e1,e2];rfl⟩
 | .none=>simp[bE]at h
 | .bool _=>simp[bE]at h
 | .int _=>simp[bE]at h
 | .str _=>simp[bE]at h
 | .list _=>simp[bE]at h
 | .dict _=>simp[bE]at h
 | .tuple []=>simp[bE]at h
 | .tuple [_]=>simp[bE]at h
 | .tuple (_::_::_::_)=>simp[bE]at h
 | .tuple [.none,_]=>simp[bE]at h
 | .tuple [.bool _,_]=>simp[bE]at h
 | .tuple [.str _,_]=>simp[bE]at h
 | .tuple [.tuple _,_]=>simp[bE]at h
 | .tuple [.list _,_]=>simp[bE]at h
 | .tuple [.dict _,_]=>simp[bE]at h
 | .tuple [.int _,.none]=>simp[bE]at h
 | .tuple [.int _,.bool _]=>simp[bE]at h
 | .tuple [.int _,.str _]=>simp[bE]at h
 | .tuple [.int _,.tuple _]=>simp[bE]at h
 | .tuple [.int _,.list _]=>simp[bE]at h
 | .tuple [.int _,.dict _]=>simp[bE]at h
theorem zx5{d:PyData}(h:bE d=false):fH d=false:=by
 unfold fH
 split
 ·rename_i p q
  rw[show gu p q=false from h];rfl
 ·rfl
theorem Ou{K:wb}{H:Hp}{Q:VK}{E:XK}{d:PyData}{v:V}(h:Is K H v d)(b:∀x,d=N x->ag 4000 x)(q:Q (.bl (fH d)) H):y7 K [v] H Q E:=by
 cases e:bE d with
 | false=>rw[zx5 e]at q;exact zoU h e q
 | true =>
  obtain⟨x,rfl⟩:=Yu e;rw[OE]at q;exact zqV h (b x rfl) q
def JT(K:wb):Sp:=λvs H Q _=>∃x0,vs=[x0]/\((∃d,Is K H x0 d/\(oV d || hJ d)=false /\ ∀H',ah H H'->Q (.bl false) H')\/(∃ds,(Is K H x0 (.list ds)\/Is K H x0 (.tuple ds))/\(∀e∈ds,∀x,e=N x->ag 4000 x) /\ ∀H',ah H H'->Q (.bl (decide (1<=ds.length)&&decide (ds.length<=8)&&ds.all fH)) H'))
theorem Yk{K:wb}{H:Hp}{Q:VK}{E:XK}{ds:List PyData}{v:V}(h:Is K H v (.list ds)\/Is K H v (.tuple ds))(b:∀e∈ds,∀x,e=N x->ag 4000 x)(q:∀H',ah H H'->Q (.bl (decide (1<=ds.length)&&decide (ds.length<=8)&&ds.all fH)) H'):JT K [v] H Q E:=⟨_,rfl,.inr ⟨ds,h,b,q⟩⟩
theorem TF(T:Txt K mg a):aJ P w K mg base aT 4 a.Gm a.ES zm (JT K):=by
 refine T.Fo.F.ok zm7 ?_ ?_;walk_at "b1"
 refine⟨_,(ao (bN (PW.pt (jD (eD (dD (bQ (show aO _ (.builtin "isinstance") (Ee K)from zsg) rfl T.z_isinstance nM (ae (pv 0) (ae (br (ae (mH (v:=.ty "list") rfl T.z_list lV rfl) (ae (mH (v:=.ty "tuple") rfl T.z_tuple d_ rfl) af))) af))))) (kh (eD (zwS pK pK ay (bQ (show aO _ (.builtin "len") (cN K)from dU) rfl T.z_len dC (ae (pv 0) af)) (oH rfl T.RA)))))) (av (aE jb)) bP)
     (av (aE (bQ (show aO _ (.builtin "all") (ng K)from yG rfl) rfl T.z_all zA (ae (d4 rfl (cE.by (N':=["one"]) (src:=[none]) rfl (show cU _ (aC sT).names tN ["one"] [none]=true from by decide +kernel)) (JQ (pv 0)) (λ_ _ _ _ _=>(bL (i:=0) (show(["one"]:List Str).Nodup from by decide) rfl (Or.inl rfl))) (λ_ _ _ _ _=>dX) (λ_ _ _ _ _=>(au (zrf (K:=K) (mg:=mg) (a:=a) T) hr T.Gf (ae (pv 0) af)))) af))))),?_⟩
 walk_at "cl";rw[show start tN [x0]=[some x0]from rfl];rcases h with⟨d,hd,hn,q⟩ | ⟨ds,hd,bd,q⟩
 . walk_at "gg"
   refine lR (by simp) (λtp H1 _ S1 e1=>?_);walk_at "gg";refine Aw (hd.by S1) e1 ?_;rw[hn];walk_at "gg";exact q H1 S1
 . rcases hd with hd | hd
   . walk_at "gg"
     refine lR (by simp) (λtp H1 _ S1 e1=>?_);walk_at "gg";refine Aw (hd.by S1) e1 ?_;rw[show(oV (.list ds) || hJ (.list ds))=true from rfl];obtain⟨ap,us,rfl,hs,tu⟩:=cB.mp (hd.by S1);have hul:=tu.length;walk_at "gg";refine jJ hs ?_;rw[hul];walk_at "gg"
     . rename_i z0 z
       have:=q H1 S1;rw[decide_eq_false (show ¬ ds.length<=8 by omega),qI,Wv]at this;exact this
     . rename_i z0 z
       have h1:1<=ds.length:=by omega
       have h8:ds.length<=8:=by omega
       refine .inl (kF (o0:=none) (tl:=[]) hs rfl (λj y H'=>y=.bl (fH (ds.getD j .none))) ?_ ?_)
       . intro D i x ys o H2 hx inv
         obtain⟨hi,ix⟩:=kx tu hx;walk_at "gg";refine Ou (ix.by inv.same) (λx e=>bd _ (getD_mem hi) x e) ?_;walk_at "gg";exact eU inv (by omega) (λ_ _ _ _ _ z=>z) ⟨_,rfl⟩ (ah.refl _) rfl
       . intro D ys H2 hn S2 hD hl hr
         have hys:ys=(ds.map fH).map V.bl:=by
           refine WK (by rw[hl,hul,we,we]) λj h1 h2=>?_
           have:=hr j ys[j] (wc h1);rw[this,WL,WL,wa,wc]
           rfl
         subst hys;walk_at "gg";refine pL (.of hD) ?_;walk_at "gg";have e:(ds.map fH).all id=ds.all fH:=by rw[xE];rfl
         have:=q H2 (S1.trans S2);rw[decide_eq_true h1,decide_eq_true h8,<- e]at this;exact this
     . rename_i z
       have:=q H1 S1;rw[decide_eq_false (show ¬ 1<=ds.length by omega),Wv,Wv]at this;exact this
   . walk_at "gg"
     refine lR (by simp) (λtp H1 _ S1 e1=>?_);walk_at "gg";refine Aw (hd.by S1) e1 ?_;rw[show(oV (.tuple ds) || hJ (.tuple ds))=true from rfl];obtain⟨ap,us,rfl,hs,tu⟩:=bM.mp (hd.by S1);have hul:=tu.length;walk_at "gg";refine OL hs ?_;rw[hul];walk_at "gg"
     . rename_i z0 z
       have:=q H1 S1;rw[decide_eq_false (show ¬ ds.length<=8 by omega),qI,Wv]at this;exact this
     . rename_i z0 z
       have h1:1<=ds.length:=by omega
       have h8:ds.length<=8:=by omega
       refine .inr (jz (o0:=none) (tl:=[]) hs rfl (λj y H'=>y=.bl (fH (ds.getD j .none))) ?_ ?_)
       . intro D i x ys o H2 hx inv
         obtain⟨hi,ix⟩:=kx tu hx;walk_at "gg";refine Ou (ix.by inv.same) (λx e=>bd _ (getD_mem hi) x e) ?_;walk_at "gg";exact eU inv (by omega) (λ_ _ _ _ _ z=>z) ⟨_,rfl⟩ (ah.refl _) rfl
       . intro D ys H2 hn S2 hD hl hr
         have hys:ys=(ds.map fH).map V.bl:=by
           refine WK (by rw[hl,hul,we,we]) λj h1 h2=>?_
           have:=hr j ys[j] (wc h1);rw[this,WL,WL,wa,wc]
           rfl
         subst hys;walk_at "gg";refine pL (.of hD) ?_;walk_at "gg";have e:(ds.map fH).all id=ds.all fH:=by rw[xE];rfl
         have:=q H2 (S1.trans S2);rw[decide_eq_true h1,decide_eq_true h8,<- e]at this;exact this
     . rename_i z
       have:=q H1 S1;rw[decide_eq_false (show ¬ 1<=ds.length by omega),Wv,Wv]at this;exact this
theorem Yp{a b:Rat}(h:aV a b):lB a b=true:=by
 obtain⟨h1,h2,h3,h4,h5,h6,h7⟩:=h;have k2:¬ (4:Rat)<a:=Vd.mpr h2;have k4:¬ b<0:=Vd.mpr h4;have k5:¬ (1:Rat)<b:=Vd.mpr h5;have k7:¬ a+b<1:=Vd.mpr h7;have k3:(a.den:Int)<=8:=by omega
 have k6:(b.den:Int)<=12:=by omega
 simp[lB,nX,nZ,h1,k2,k3,k4,k5,k6,k7]
theorem SJ{xs:List Rat}(h:∀x∈xs,eA x):(xs.map N).all fH=true:=by
 rw[Wd];intro d hd;obtain⟨x,hx,rfl⟩:=wJ.mp hd;rw[OE];exact(h x hx).is
theorem Za{xs:List Rat}(h:∀x∈xs,eA x):∀e∈xs.map N,∀x,e=N x->ag 4000 x:=by
 intro e he x hx;obtain⟨y,hy,rfl⟩:=wJ.mp he;rw[<- zBU hx];exact(h y hy).eX.mono (by decide)
def JZ(K:wb):Sp:=λvs H Q _=>∃x0 x1,vs=[x0,x1] /\ ∃(a b:Rat)(xs:List Rat),Is K H x0 (R a b)/\aV a b/\(Is K H x1 (LN xs)\/Is K H x1 (TN xs))/\1<=xs.length/\xs.length<=8/\(∀x∈xs,eA x) /\ ∀v H',ah H H'->Is K H' v (bD a b xs)->Q v H'
theorem zqN{K:wb}{H:Hp}{Q:VK}{E:XK}{a b:Rat}{xs:List Rat}{v w:V}(h1:Is K H v (R a b))(ok:aV a b)(h2:Is K H w (LN xs)\/Is K H w (TN xs))(h3:1<=xs.length)(h4:xs.length<=8)(h5:∀x∈xs,eA x)(q:∀v H',ah H H'->Is K H' v (bD a b xs)->Q v H'):JZ K [v,w] H Q E:=⟨_,_,rfl,a,b,xs,h1,ok,h2,h3,h4,h5,q⟩
theorem YG(T:Txt K mg a):aJ P w K mg base aT 5 a.G6 a.FN yS (JZ K):=by
 refine T.Gj.F.ok zq9 ?_ ?_;walk_at "b2"
 refine⟨_,(ao (bN (eD (dD (au (Uw T) hr T.GO (ae (pv 0) af)))) (av BE) bP)
     (ao (bN (eD (dD (au (TF T) hr T.Fo (ae (pv 1) af)))) (av BE) bP)
     (av (aE (br (ae (pv 0) (ae (dM (show aO _ (.type "tuple") (d5 K)from ft) rfl T.z_tuple d_ (ae (pv 1) af)) af))))))),?_⟩
 walk_at "cl";rw[show start Bc [x0,x1]=[some x0,some x1]from rfl];obtain⟨ra,rb,xs,hr,ok,hp,h1,h8,hph,q⟩:=h;walk_at "gg";refine zs7 hr (ok.ba.mono (by decide)) (ok.bb.mono (by decide)) (λH1 S1=>?_);rw[Yp ok];walk_at "gg";have hp1:Is K H1 x1 (LN xs)\/Is K H1 x1 (TN xs):=hp.imp (λz=>z.by S1) (λz=>z.by S1);refine Yk (ds:=xs.map N) hp1 (Za hph) (λH2 S2=>?_);rw[SJ hph,we,decide_eq_true h1,decide_eq_true h8,show(true&&true&&true)=true from rfl];have hp2:Is K H2 x1 (LN xs)\/Is K H2 x1 (TN xs):=hp1.imp (λz=>z.by S2) (λz=>z.by S2);have hr2:Is K H2 x0 (R ra rb):=(hr.by S1).by S2;walk_at "gg";rcases hp2 with z | z
 . refine g6 z (λw H3 S3 i3=>?_)
   walk_at "gg";refine cH (ds:=[R ra rb,TN xs]) (by simp) (.cons (hr2.by S3) (.cons i3 .nil)) (λv H4 S4 i4=>?_);exact q v H4 (S1.trans (S2.trans (S3.trans S4))) i4
 . refine Rg z ?_
   walk_at "gg";refine cH (ds:=[R ra rb,TN xs]) (by simp) (.cons hr2 (.cons z .nil)) (λv H4 S4 i4=>?_);exact q v H4 (S1.trans (S2.trans S4)) i4
def MQ(K:wb):Sp:=λvs H Q _=>∃x0,vs=[x0] /\ ∃xs:List Rat,(Is K H x0 (LN xs)\/Is K H x0 (TN xs))/\1<=xs.length/\(∀i,ag 4000 (xs.getD i 0)) /\ ∀v,Is K H v (N (bV xs))->Q v H
theorem J1{K:wb}{H:Hp}{Q:VK}{E:XK}{xs:List Rat}{v:V}(h:Is K H v (LN xs)\/Is K H v (TN xs))(h1:1<=xs.length)(b:∀i,ag 4000 (xs.getD i 0))(q:∀v,Is K H v (N (bV xs))->Q v H):MQ K [v] H Q E:=⟨_,rfl,xs,h,h1,b,q⟩
theorem IG(T:Txt K mg a):aJ P w K mg base aT 2 a.GQ a.FC zE (MQ K):=by
 refine T.zS.F.ok y_ ?_ ?_;walk_at "b1"
 refine⟨_,(ao (az 1 y_.nd (ar (pv 0)))
     (ao (f_ vf rfl (JQ (pv 0)) (bL (i:=2) y_.nd rfl (Or.inl rfl)) (av (bN (dD (au (gf T) hr T.fL (ae (pv 1) (ae (pv 2) af)))) (av (az 1 y_.nd (pv 2))) bP)))
     (av (aE (pv 1))))),?_⟩
 walk_at "cl";rw[show start L5 [x0]=[some x0,none,none]from rfl];obtain⟨xs,hx,h1,bx,q⟩:=h;rcases hx with hx | hx
 . obtain⟨ap,us,rfl,hs,tu⟩:=cB.mp hx
   have hul:us.length=xs.length:=by rw[tu.length,we]
   walk_at "gg";refine ki hx (by decide) (by omega) (λv0 i0=>?_);have i0:Is K H v0 (N (mx (xs.getD 0 0) [])):=i0;walk_at "gg";refine .inl (rF hs (λi σ H'=>∃o v,σ = [some (.ref ap),some v,o]/\H'=H/\Is K H v (N (mx (xs.getD 0 0) (xs.take i)))) ⟨_,v0,rfl,rfl,by rw[X8];exact i0⟩ (λi σ H' _ h=>by obtain⟨_,_,_,rfl,_⟩:=h;exact hs) ?_ ?_)
   . rintro i x σ H' hx' ⟨o,v,rfl,rfl,iv⟩
     obtain⟨hi,ix⟩:=de tu hx';have b1:=OQ bx h1 i;have b2:=bx i;walk_at "gg"
     . rename_i z
       exact⟨_,x,rfl,rfl,by rw[mf hi,ya,if_pos z];exact ix⟩
     . rename_i z
       exact⟨_,v,rfl,rfl,by rw[mf hi,ya,if_neg z];exact iv⟩
   . rintro σ H' ⟨o,v,rfl,rfl,iv⟩
     rw[hul,vW]at iv;walk_at "gg";exact q v iv
 . obtain⟨ap,us,rfl,hs,tu⟩:=bM.mp hx
   have hul:us.length=xs.length:=by rw[tu.length,we]
   walk_at "gg";refine W_ hx (by decide) (by omega) (λv0 i0=>?_);have i0:Is K H v0 (N (mx (xs.getD 0 0) [])):=i0;walk_at "gg";refine .inr (zu0 hs (λi σ H'=>∃o v,σ = [some (.ref ap),some v,o]/\H'=H/\Is K H v (N (mx (xs.getD 0 0) (xs.take i)))) ⟨_,v0,rfl,rfl,by rw[X8];exact i0⟩ (λi σ H' _ h=>by obtain⟨_,_,_,rfl,_⟩:=h;exact hs) ?_ ?_)
   . rintro i x σ H' hx' ⟨o,v,rfl,rfl,iv⟩
     obtain⟨hi,ix⟩:=de tu hx';have b1:=OQ bx h1 i;have b2:=bx i;walk_at "gg"
     . rename_i z
       exact⟨_,x,rfl,rfl,by rw[mf hi,ya,if_pos z];exact ix⟩
     . rename_i z
       exact⟨_,v,rfl,rfl,by rw[mf hi,ya,if_neg z];exact iv⟩
   . rintro σ H' ⟨o,v,rfl,rfl,iv⟩
     rw[hul,vW]at iv;walk_at "gg";exact q v iv
def OH(K:wb):Sp:=λvs H Q _=>∃x0 x1,vs=[x0,x1] /\ ∃(xs:List Rat)(v:Rat),Is K H x0 (TN xs)/\Is K H x1 (N v)/\xs.length<=900 /\ ∀u H',ah H H'->Is K H' u (TW (fb xs v))->Q u H'
theorem Zq{K:wb}{H:Hp}{Q:VK}{E:XK}{xs:List Rat}{v:Rat}{w u:V}(h1:Is K H w (TN xs))(h2:Is K H u (N v))(hl:xs.length<=900)(q:∀u H',ah H H'->Is K H' u (TW (fb xs v))->Q u H'):OH K [w,u] H Q E:=⟨_,_,rfl,xs,v,h1,h2,hl,q⟩
theorem SD(T:Txt K mg a):aJ P w K mg base aT 1 a.G4 a.Fy zC (OH K):=by
 refine T.Gb.F.ok zp6 ?_ ?_;walk_at "b2";refine⟨_,(av (aE (dM (show aO _ (.type "tuple") (d5 K)from ft) rfl T.z_tuple d_ (ae (d4 rfl (cE.by (N':=["worm","own","phase"]) (src:=[none,none,some 1]) rfl (show cU _ (aC yM).names v_ ["worm","own","phase"] [none,none,some 1]=true from by decide +kernel)) (Mi rfl T.z_enumerate (ae (pv 0) af)) (λ_ _ _ _ _=>by exact(show PG _ _ (ly K 2 _)from lK (n:=2) rfl (gD (bL (i:=0) (show(["worm","own","phase"]:List Str).Nodup from by decide) rfl (Or.inl rfl)) (gD (bL (i:=1) (show(["worm","own","phase"]:List Str).Nodup from by decide) rfl (Or.inl rfl)) ma)))) (λ_ _ _ _ _=>(oh (bS (show aN _ (compareOp .Eq) (cz K)from cZ hu) (pv 1) (pv 2) (a_ _)))) (λ_ _ _ _ _=>(pv 0))) af)))),?_⟩;walk_at "cl";rw[show start v_ [x0,x1]=[some x0,some x1]from rfl];obtain⟨xs,v,hx,hv,hl,q⟩:=h;obtain⟨ap,us,rfl,hu',tu⟩:=bM.mp hx;have hul:us.length=xs.length:=by rw[tu.length,we]
 walk_at "gg";refine zqI hu' (λD i ys σ' H'=>(∃o1 o2,σ'=[o1,o2,some x1])/\H D=none/\ah H H'/\H' D=some (.lst (vz ((wl i).filter λw=>decide (xs.getD w 0=v))))) (λD H' n s e=>⟨⟨_,_,rfl⟩,n,s,e⟩) (λD i ys σ' H' h=>h.2.2.1.jw hu') ?_ ?_
 ·rintro D i x ys σ' H1 c H2 hx' ⟨⟨o1,o2,rfl⟩,n,S1,e1⟩ hc S2 e2
  obtain⟨hi,ix⟩:=de tu hx';have T2:=S1.trans S2;have ix2:=ix.by T2;have hv2:=hv.by T2;have e12:=S2 _ _ e1
  have hfl:((wl i).filter λw=>decide (xs.getD w 0=v)).length<=i:=by
   have:=Wc (λw=>decide (xs.getD w 0=v)) (wl i);rw[wU]at this;exact this
  refine mE (.of e2) rfl ?_;walk_at "gg"
  ·rename_i z
   refine kG e12 (by rw[jB];omega) (λH6 E6 e6=>⟨⟨_,_,rfl⟩,n,T2.grow n E6,?_⟩);rw[JI (n:=i),decide_eq_true z,if_pos rfl,AM];exact e6
  ·rename_i z
   refine⟨[],⟨_,_,rfl⟩,n,T2,?_⟩;rw[JI (n:=i),decide_eq_false z,if_neg (by decide),vH];exact e12
 ·rintro D ys σ' H1 ⟨_,n,S1,e1⟩
  rw[hul]at e1;walk_at "gg";refine yR (.of e1) (λl H2 n2 S2 e3=>?_);exact q _ H2 (S1.trans S2) (By.mpr ⟨l,rfl,.of e3⟩)
def Kv(K:wb):Sp:=λvs H Q _=>∃x0,vs=[x0] /\ ∃(a b:Rat)(xs:List Rat),Is K H x0 (bD a b xs)/\xs.length<=8/\(∀i,ag 4000 (xs.getD i 0)) /\ ∀l H' us,H l=none->ah H H'->H' l=some (.lst us)->ak K H' us ((ai xs).map (jK xs))->Q (.ref l) H'
theorem Mf{K:wb}{H:Hp}{Q:VK}{E:XK}{a b:Rat}{xs:List Rat}{v:V}(h:Is K H v (bD a b xs))(h8:xs.length<=8)(bx:∀i,ag 4000 (xs.getD i 0))(q:∀l H' us,H l=none->ah H H'->H' l=some (.lst us)->ak K H' us ((ai xs).map (jK xs))->Q (.ref l) H'):Kv K [v] H Q E:=⟨_,rfl,a,b,xs,h,h8,bx,q⟩
theorem zsA{m:Nat}{xs:List Rat}(b:∀i,ag m (xs.getD i 0)){x:Rat}(h:x∈xs):ag m x:=by
 obtain⟨j,hj,rfl⟩:=wK h;have:=b j;rw[wa,wc hj]at this;exact this
theorem SH{α β : Type}(f : α -> β)(l:List α):(!(l.map f).isEmpty) = !l.isEmpty:=by cases l<;>rfl
theorem JP(T:Txt K mg a):aJ P w K mg base aT 3 a.Hv a.GN yc (Kv K):=by
 refine T.z7.F.ok oA ?_ ?_;walk_at "b1"
 refine⟨_,(ao (az 1 oA.nd (e_ af))
     (ao (az 2 oA.nd (dM (show aO _ (.type "list") (j6 K)from rW) rfl T.z_list lV (ae (ar (pv 0)) af)))
     (ao (mG vf (CH (pv 2)) (ao (az 3 oA.nd (au (IG T) hr T.zS (ae (pv 2) af)))
     (ao (mR (m6 Wh Wf Wg kY (pv 1) (ae (br (ae (pv 3) (ae (au (SD T) hr T.Gb (ae (ar (pv 0)) (ae (pv 3) af))) af))) af)))
     (av (lJ (i:=2) oA.nd rfl (Or.inl rfl) rfl (cE.by (N':=["other","phase"]) (src:=[none,some 3]) rfl (show cU _ (aC zp).names BQ ["other","phase"] [none,some 3]=true from by decide +kernel)) (fY (pv 2)) (λ_ _ _ _ _=>(bL (i:=0) (show(["other","phase"]:List Str).Nodup from by decide) rfl (Or.inl rfl))) (λ_ _ _ _ _=>(oh (bS (show aN _ (compareOp .NotEq) (gc K)from kX hu) (pv 0) (pv 1) (a_ _)))) (λ_ _ _ _ _=>(pv 0)))))))
     (av (aE (pv 1)))))),?_⟩
 walk_at "cl";rw[show start BQ [x0]=[some x0,none,none,none]from rfl];obtain⟨ra,rb,xs,hw,h8,bx,q⟩:=h;walk_at "gg";refine ff (by simp) (λlt H1 n1 S1 e1=>?_);walk_at "gg";refine aD (j:=1) (hw.by S1) rfl (λvp ip=>?_);walk_at "gg";refine yo ip (λll H2 us n2 S2 e2 t2=>?_);have nlt:ll≠lt:=λz=>by subst z;rw[e1]at n2;cases n2
 walk_at "gg";refine yH (λm σ' H'=>∃(ll:Addr)(left done:List Rat)(us ws:List V)(f:Nat)(o3:Option V),σ'=[some x0,some (.ref lt),some (.ref ll),o3]/\m=left.length/\ah H H'/\ll≠lt/\H' lt=some (.lst ws)/\ak K H' ws (done.map (jK xs))/\H' ll=some (.lst us)/\ak K H' us (left.map N)/\(∀y∈left,y∈xs)/\left.length<=f/\done.length+left.length<=xs.length/\done++g_ f left=ai xs) _ ⟨ll,xs,[],us,[],xs.length,_,rfl,rfl,S1.trans S2,nlt,S2 _ _ e1,.nil,e2,t2,λy h=>h,wg _,by simp,rfl⟩ ?_;rintro m σ' H3 ⟨ll,left,done,us,ws,f,o3,rfl,rfl,S3,nl,et,tt',el,tl',sub,hf,hdl,heq⟩;walk_at "gg";refine Ri (cY el tl') ?_;rw[SH]
 by_cases he:left=[]
 . rw[show(!left.isEmpty)=false by rw[he];rfl]
   refine l8 ?_;rw[he,Dz,vH]at heq;rw[heq]at tt';walk_at "gg";exact q lt H3 ws n1 S3 et tt'
 . rw [show (!left.isEmpty) = true by cases left with
       | nil=>exact absurd rfl he
       | cons y l=>rfl]
   refine mq ?_;refine rD ?_;have hpos:=Vs.mpr he
   have bl:∀i,ag 4000 (left.getD i 0):=λi=>by
     rcases wt i left.length with z | z
     . exact zsA bx (sub _ (getD_mem z))
     . rw[wa,wA z];exact ag.zero.mono (by decide)
   obtain⟨f',rfl⟩:∃f',f=f'+1:=⟨f-1,by omega⟩;rw[mW he]at heq;have hless:=Rr he;have hwl:=tt'.length;rw[we]at hwl;walk_at "gg";refine J1 (.inl (cY el tl')) hpos bl (λvm im=>?_);walk_at "gg";refine lq (aK.of et) ?_;walk_at "gg";refine aD (j:=1) (hw.by S3) rfl (λvq iq=>?_);walk_at "gg";refine Zq iq im (by omega) (λv4 H4 S4 i4=>?_);walk_at "gg";refine cH (ds:=[N (bV left),TW (fb xs (bV left))]) (by simp) (.cons (im.by S4) (.cons i4 .nil)) (λv5 H5 S5 i5=>?_);walk_at "gg";have T5:=S4.trans S5;refine kS (T5 _ _ et) (by omega) (λH6 E6 e6=>?_);have K6:=E6.keep (T5 _ _ et);have el6:=E6 _ _ nl (T5 _ _ el);have tl6:ak K H6 us (left.map N):=ak.keep (T5.keep.trans K6) _ _ (fO _) tl'
   have tt6:ak K H6 (ws++[v5]) ((done++[bV left]).map (jK xs)):=by
     rw[w8];exact(ak.keep (T5.keep.trans K6) _ _ (Ye ..) tt').snoc (i5.kA K6 (Ju ..))
   have im6:=(im.by T5).fE K6;have S6:ah H H6:=(S3.trans T5).grow n1 E6;generalize hmx:bV left=mxx at *;walk_at "gg";refine oQ (.of el6) (λD i ys σ' H'=>(∃o,σ'=[o,some vm])/\H6 D=none/\ah H6 H'/\H' D=some (.lst ys)/\ak K H' ys (((left.take i).filter λy=>!decide (y=mxx)).map N)) (λD H' n s e=>⟨⟨_,rfl⟩,n,s,e,.nil⟩) (λD i ys σ' H' h=>h.2.2.1.seq (.of el6)) ?_ ?_
   . rintro D i x ys σ' H7 hx ⟨⟨o,rfl⟩,n7,S7,e7,t7⟩
     obtain⟨hi,ix⟩:=de tl6 hx;have ix7:=ix.by S7;have im7:=im6.by S7;have hyl:=t7.length;rw[we]at hyl;have hfl:=Wc (λy=>!decide (y=mxx)) (left.take i);rw[vP]at hfl;walk_at "gg"
     . rename_i z
       refine kG e7 (by omega) (λH8 E8 e8=>⟨⟨_,rfl⟩,n7,S7.grow n7 E8,e8,?_⟩);have K8:=E8.keep e7;rw[mf hi,Wz,Wt,decide_eq_false z,w8];exact(ak.keep K8 _ _ (fO _) t7).append (.cons (ix7.fE K8) .nil)
     . rename_i z
       refine⟨ys,⟨_,rfl⟩,n7,S7,e7,?_⟩;rw[mf hi,Wz,Wt,decide_eq_true (by first | exact z | exact VE.mp z)];have:([]:List Rat).filter (λy=>!decide (y=mxx))=[]:=rfl
       simpa using t7
   . rintro D ys σ' H7 ⟨_,n7,S7,e7,t7⟩
     have hul:=tl6.length;rw[we]at hul;rw[hul,vW]at t7;walk_at "gg";exact⟨(left.filter λy=>!decide (y=mxx)).length,by omega,D,_,done++[mxx],ys,ws++[v5],f',_,rfl,rfl,S6.trans S7,(λz=>by subst z;rw[e6]at n7;cases n7),S7 _ _ e6,ak.same S7 _ _ tt6,e7,t7,λy hy=>sub y (wP.mp hy).1,by omega,by rw[wH];simp only[vJ];omega,by rw[W4];exact heq⟩
def N6(K:wb):Sp:=λvs H Q _=>∃x0 x1,vs=[x0,x1] /\ ∃(lw:Addr)(left:List Nat)(ps:List Rat),x0=.ref lw/\H lw=some (.lst (vz left))/\Is K H x1 (LN ps)/\(∀w∈left,w<ps.length)/\left.length<=900/\(∀i,ag 4000 (ps.getD i 0)) /\ ∀v H',ah H H'->Is K H' v (TW (aF ps left))->Q v H'
theorem Jm{K:wb}{H:Hp}{Q:VK}{E:XK}{lw:Addr}{left:List Nat}{ps:List Rat}{v:V}(e:H lw=some (.lst (vz left)))(h:Is K H v (LN ps))(hw:∀w∈left,w<ps.length)(hl:left.length<=900)(b:∀i,ag 4000 (ps.getD i 0))(q:∀v H',ah H H'->Is K H' v (TW (aF ps left))->Q v H'):N6 K [.ref lw,v] H Q E:=⟨_,_,rfl,lw,left,ps,rfl,e,h,hw,hl,b,q⟩
theorem Y8(ps:List Rat)(l:List Nat):(aF ps l).length<=l.length:=Wc _ _
theorem Oq(T:Txt K mg a):aJ P w K mg base aT 2 a.F8 a.EO tQ (N6 K):=by
 refine T.zP.F.ok znu ?_ ?_;walk_at "b2";refine⟨_,(av (aE (dM (show aO _ (.type "tuple") (d5 K)from ft) rfl T.z_tuple d_ (ae (d4 rfl (cE.by (N':=["worm","phases"]) (src:=[none,some 1]) rfl (show cU _ (aC sX).names tK ["worm","phases"] [none,some 1]=true from by decide +kernel)) (fY (pv 0)) (λ_ _ _ _ _=>(bL (i:=0) (show(["worm","phases"]:List Str).Nodup from by decide) rfl (Or.inl rfl))) (λ_ _ _ _ _=>(oh (eD (dD (au (gf (K:=K) (mg:=mg) (a:=a) T) hr T.fL (ae (dQ (show gz _ (cQ K)from c_) (pv 1) (pv 0) (λ_ _=>rfl)) (ae (bW (v:=.ref a.dG) rfl T.eF rfl) af))))))) (λ_ _ _ _ _=>(pv 0))) af)))),?_⟩;walk_at "cl";rw[show start tK [x0,x1]=[some x0,some x1]from rfl];obtain⟨lw,left,ps,rfl,e1,hx,hw,hl,bp,q⟩:=h;walk_at "gg";refine oQ (.of e1) (λD i ys σ' H'=>(∃o,σ'=[o,some x1])/\H D=none/\ah H H'/\H' D=some (.lst (vz (aF ps (left.take i))))) (λD H' n s e=>⟨⟨_,rfl⟩,n,s,e⟩) (λD i ys σ' H' h=>h.2.2.1.seq (.of e1)) ?_ ?_
 ·rintro D i x ys σ' H1 hx' ⟨⟨o,rfl⟩,n,S1,e2⟩
  obtain⟨hi,rfl⟩:=Cc hx';have hx1:=hx.by S1;have hlt:=hw _ (vd hi);have bw:=bp left[i];have hle:=Y8 ps (left.take i);have htl:(left.take i).length<=900:=by rw[vP];omega
  walk_at "gg";refine ki hx1 (by omega) (by omega) (λv iv=>?_);rw[wE]at iv;generalize hww:left[i]=ww at *;walk_at "gg"
  ·rename_i z
   refine kG e2 (by rw[jB];omega) (λH6 E6 e6=>⟨⟨_,rfl⟩,n,S1.grow n E6,?_⟩);rw[oS hi,hww,Z2 z,AM];exact e6
  ·rename_i z
   refine⟨[],⟨_,rfl⟩,n,S1,?_⟩;rw[oS hi,hww,Zi (by first | exact z | exact VE.mp z)];exact e2
 ·rintro D ys σ' H1 ⟨_,n,S1,e2⟩
  rw[jB,vW]at e2;walk_at "gg";refine yR (.of e2) (λl H2 n2 S2 e3=>?_);exact q _ H2 (S1.trans S2) (By.mpr ⟨l,rfl,.of e3⟩)
def JE(K:wb):Sp:=λvs H Q _=>∃x0,vs=[x0] /\ ∃(a b:Rat)(xs:List Rat)(m:Nat),Is K H x0 (bD a b xs)/\ag 10 a/\ag 10 b/\1<=xs.length/\xs.length<=8/\Cm m xs/\m+2+21*xs.length<=3950 /\ ∀v H',ah H H'->Is K H' v (GD a b xs)->Q v H'
theorem Ba{K:wb}{H:Hp}{Q:VK}{E:XK}{a b:Rat}{xs:List Rat}{m:Nat}{v:V}(h:Is K H v (bD a b xs))(ba:ag 10 a)(bb:ag 10 b)(h1:1<=xs.length)(h8:xs.length<=8)(c:Cm m xs)(hm:m+2+21*xs.length<=3950)(q:∀v H',ah H H'->Is K H' v (GD a b xs)->Q v H'):JE K [v] H Q E:=⟨_,rfl,a,b,xs,m,h,ba,bb,h1,h8,c,hm,q⟩
structure zAq(K:wb)(a b:Rat)(xs:List Rat)(m:Nat)(H H':Hp)(vw:V)(lp lv ll:Addr)(left:List Nat)(ps:List Rat)(done:List (List Nat))(f:Nat)(pv wv:List V)(vwave:V):Prop where
 same:ah H H'
 hp:H lp=none
 hv:H lv=none
 iw:Is K H' vw (N (1-bV xs))
 lI:lp≠lv
 Bb:ll≠lp
 u6:ll≠lv
 ep:H' lp=some (.lst pv)
 tp:ak K H' pv (ps.map N)
 el:H' ll=some (.lst (vz left))
 ev:H' lv=some (.lst wv)
 tv:ak K H' wv (done.map TW)
 iv:Is K H' vwave (TW (aF ps left))
 nd:left.Nodup
 lt:∀w∈left,w<xs.length
 len:ps.length=xs.length
 fl:left.length<=f
 dl:done.length+left.length<=xs.length
 cm:Cm (m+2+21*(xs.length-left.length)) ps
 w1:done++(cu a b f ps left).1=ck a b xs
 w2:(cu a b f ps left).2=(dZ a b xs).2
def Mt(K:wb)(a b:Rat)(xs:List Rat)(m:Nat)(H:Hp)(x0 vw:V)(lp lv:Addr)(k:Nat)(σ':L2.St)(H':Hp):Prop:=∃(ll:Addr)(left:List Nat)(ps:List Rat)(done:List (List Nat))(f:Nat)(pv wv:List V)(vwave:V)(o6 o7:Option V),σ'=[some x0,some vw,some (.ref lp),some (.ref ll),some (.ref lv),some vwave,o6,o7,none]/\k=left.length/\zAq K a b xs m H H' vw lp lv ll left ps done f pv wv vwave
theorem pC{H:Hp}{p q:Addr}{o:HO}(h:H p=none)(k:H q=some o):p≠q:=λe=>by rw[e,k]at h;cases h
theorem zu6{α β γ : Type}(f : α -> β)(g : β -> γ)(l:List α):(!((l.map f).map g).isEmpty) = !l.isEmpty:=by cases l<;>rfl
theorem zwk{α : Type}{l:List α}(h:l≠[]):(!l.isEmpty)=true:=by cases l with
 | nil=>exact absurd rfl h
 | cons x l=>rfl
theorem C4(T:Txt K mg a):aJ P w K mg base aT 4 a.lG a.Hi u4 (JE K):=by
 refine T.rg.F.ok hV ?_ ?_;walk_at "b1"
 refine⟨_,(ao (az 1 hV.nd (au (rT T) hr T.nE (ae (bW (v:=.ref a.dG) rfl T.eF rfl) (ae (au (IG T) hr T.zS (ae (ar (pv 0)) af)) af))))
     (ao (lJ (i:=2) hV.nd rfl (Or.inl rfl) rfl (cE.by (N':=["phase","wait"]) (src:=[none,some 1]) rfl (show cU _ (aC mY).names pf ["phase","wait"] [none,some 1]=true from by decide +kernel)) (j4 (ar (pv 0))) (λ_ _ _ _ _=>(bL (i:=0) (show(["phase","wait"]:List Str).Nodup from by decide) rfl (Or.inl rfl))) (λ_ _ _ _ _=>dX) (λ_ _ _ _ _=>(au (gn (K:=K) (mg:=mg) (a:=a) T) hr T.fM (ae (pv 0) (ae (pv 1) af)))))
     (ao (az 3 hV.nd (UW rfl rfl T.z_list rfl T.z_range (ae (bQ (show aO _ (.builtin "len") (cN K)from dU) rfl T.z_len dC (ae (pv 2) af)) af)))
     (ao (az 4 hV.nd (e_ af))
     (ao (az 5 hV.nd (au (Oq T) hr T.zP (ae (pv 3) (ae (pv 2) af))))
     (ao (mG vf (CH (pv 5)) (ao (mR (m6 Wh Wf Wg kY (pv 4) (ae (pv 5) af)))
     (ao (az 3 hV.nd (d4 rfl (cE.by (N':=["worm","wave"]) (src:=[none,some 5]) rfl (show cU _ (aC mY).names pf ["worm","wave"] [none,some 5]=true from by decide +kernel)) (fY (pv 3)) (λ_ _ _ _ _=>(bL (i:=0) (show(["worm","wave"]:List Str).Nodup from by decide) rfl (Or.inl rfl))) (λ_ _ _ _ _=>(oh (bS (show aN _ (compareOp .NotIn) (j_ K true)from zuO) (pv 0) (pv 1) (by with_unfolding_all rfl)))) (λ_ _ _ _ _=>(pv 0))))
     (ao (az 6 hV.nd (au (yn T) hr T.nD (ae (ar (pv 0)) (ae (bQ (show aO _ (.builtin "len") (cN K)from dU) rfl T.z_len dC (ae (pv 5) af)) af))))
     (ao (f_ vf rfl (fY (pv 3)) (bL (i:=7) hV.nd rfl (Or.inl rfl)) (av (mD (au (Mr T) hr T.zQ (ae (pv 6) (ae (dQ c_ (pv 2) (pv 7) (λ_ _=>rfl)) af))) (om (pv 2) (pv 7) pY))))
     (av (az 5 hV.nd (au (Oq T) hr T.zP (ae (pv 3) (ae (pv 2) af))))))))))
     (ao (lJ (i:=8) hV.nd rfl (Or.inl rfl) rfl (cE.by (N':=["worm","phase","left"]) (src:=[none,none,some 3]) rfl (show cU _ (aC mY).names pf ["worm","phase","left"] [none,none,some 3]=true from by decide +kernel)) (Zj rfl T.z_enumerate (ae (pv 2) af)) (λ_ _ _ _ _=>by exact(show PG _ _ (ly K 2 _)from lK (n:=2) rfl (gD (bL (i:=0) (show(["worm","phase","left"]:List Str).Nodup from by decide) rfl (Or.inl rfl)) (gD (bL (i:=1) (show(["worm","phase","left"]:List Str).Nodup from by decide) rfl (Or.inl rfl)) ma)))) (λ_ _ _ _ _=>dX) (λ_ _ _ _ _=>(rZ (bS (show aN _ (compareOp .In) (j_ K false)from Z7) (pv 0) (pv 2) (by with_unfolding_all rfl)) (pv 1) (bW (v:=.ref a.cW) rfl T.dF rfl))))
     (av (aE (br (ae (pv 1) (ae (dM (show aO _ (.type "tuple") (d5 K)from ft) rfl T.z_tuple d_ (ae (pv 4) af)) (ae (br (ae (ar (pv 0)) (ae (dM (show aO _ (.type "tuple") (d5 K)from ft) rfl T.z_tuple d_ (ae (pv 8) af)) af))) af))))))))))))),?_⟩
 walk_at "cl";rw[show start pf [x0]=[some x0,none,none,none,none,none,none,none,none]from rfl];obtain⟨ra,rb,xs,m,hw,ba,bb,h1,h8,cm,hm,q⟩:=h;have bx:∀i,ag 4000 (xs.getD i 0):=λi=>(cm.get i).mono (by omega)
 have bm:ag 3950 (bV xs):=(cm.eX (gM h1)).mono (by omega);walk_at "gg";refine aD (j:=1) hw rfl (λvp ip=>?_);walk_at "gg";refine J1 (.inr ip) h1 bx (λvm im=>?_);walk_at "gg";rename_i vw H1 S1 iw;refine aD (j:=1) (hw.by S1) rfl (λvp1 ip1=>?_);obtain⟨ap,us,rfl,hu,tu⟩:=bM.mp ip1;refine jz (o0:=none) (tl:=[some vw]) hu rfl (λj y H'=>Is K H' y (N ((bA xs).getD j 0))) ?_ ?_
 . intro D i x ys o H2 hx inv
   obtain⟨hi,ix⟩:=de tu hx;have S2:=inv.same;have ix2:=ix.by S2;have iw2:=iw.by S2;have bi:=bx i;have bw:ag 3952 (1-bV xs):=(ag.one.sub bm).mono (by decide);walk_at "gg";rename_i v3 H3 S3 i3;exact eU inv (by omega) eZ ⟨_,rfl⟩ S3 (by rw[Y1 hi];exact i3)
 . intro lp ys H2 hnp S2 hD hl hr
   have hl':ys.length=(bA xs).length:=by rw[hl,tu.length,we,fg]
   have tp:ak K H2 ys ((bA xs).map N):=fk hl' hr;have iw2:=iw.by S2;have T2:=S1.trans S2;have hpH:H lp=none:=jf S1 hnp;clear hl hr hu tu ip1 ip im iw S1 S2 hnp;walk_at "gg";refine YR (cY hD tp) ?_;rw[fg];walk_at "gg";refine Uz (n:=xs.length) (by omega) (λll H3 n3 S3 e3=>?_);walk_at "gg";refine ff (by simp) (λlv H4 n4 S4 e4=>?_);walk_at "gg";have hD4:=S4 _ _ (S3 _ _ hD);have tp4:ak K H4 ys ((bA xs).map N):=ak.same (S3.trans S4) _ _ tp;have jy:Cm (m+2) (bA xs):=(Cm.rise (h:=0) (cm.jO (ys:=0::xs) λy hy=>by rcases wz.mp hy with rfl | hy;(exact .inr rfl);exact .inl hy) (gM h1)).jO λy hy=>.inl (wo _ hy)
   have b3:∀i,ag 4000 ((bA xs).getD i 0):=λi=>(jy.get i).mono (by omega)
   refine Jm (S4 _ _ e3) (cY hD4 tp4) (λw hw'=>by rw[fg];exact wx.mp hw') (by rw[wU];omega) b3 (λvwave H5 S5 i5=>?_);have T5:=T2.trans (S3.trans (S4.trans S5));have hvH:H lv=none:=jf (T2.trans S3) n4;have lI:lp≠lv:=(pC n4 (S3 _ _ hD)).symm;have Bb:ll≠lp:=pC n3 hD;have u6:ll≠lv:=(pC n4 e3).symm
   have G0:Mt K ra rb xs m H x0 vw lp lv xs.length [some x0,some vw,some (.ref lp),some (.ref ll),some (.ref lv),some vwave,none,none,none] H5:=by
     refine⟨ll,wl xs.length,bA xs,[],xs.length,ys,[],vwave,none,none,rfl,by rw[wU],T5,hpH,hvH,iw2.by (S3.trans (S4.trans S5)),lI,Bb,u6,S5 _ _ hD4,ak.same S5 _ _ tp4,S5 _ _ (S4 _ _ e3),S5 _ _ e4,.nil,i5,Wu,λw hw'=>wx.mp hw',fg xs,by rw[wU];exact wg _,by rw[wU];simp,jy.mono (by omega),?_,rfl⟩;rw[qr];rfl
   clear T5 S5 S4 S3 T2 hD hD4 tp tp4 b3 jy n3 n4 e3 e4 iw2 i5 hl';walk_at "gg";refine yH (Mt K ra rb xs m H x0 vw lp lv) _ G0 ?_;clear G0 lI Bb u6;rintro k σ' H6 ⟨ll,left,ps,done,f,pv,wv,vwave,o6,o7,rfl,hk,G⟩;have bp:∀i,ag 4000 (ps.getD i 0):=λi=>(G.cm.get i).mono (by have:=G.dl;omega)
   walk_at "gg";refine Sn (show Is K H6 vwave (.tuple (((aF ps left).map λ(w:Nat)=>(w:Int)).map PyData.int))from G.iv) ?_;rw[zu6]
   by_cases he:aF ps left=[]
   . rw[show(!(aF ps left).isEmpty)=false by rw[he];rfl]
     refine l8 ?_;have w1:=G.w1;have w2:=G.w2;rw[nj he]at w1 w2;rw[vH]at w1;have eps:ps=(dZ ra rb xs).2.2:=congrArg um w2;have elf:left=(dZ ra rb xs).2.1:=congrArg uk w2;have hph:iK left ps=cX ra rb xs:=by rw[cX,<- eps,<- elf]
     walk_at "gg";refine zvR (.of G.ep) (o0:=none) (o0':=none) (tl:=[some (.ref ll)]) rfl (λj y H'=>Is K H' y (N ((iK left ps).getD j 0))) eZ ?_ ?_
     . intro D i x zs o1 o2 H7 c hx inv hc
       obtain⟨hi,ix⟩:=de G.tp hx;have S7:=inv.2.2.1;refine mE (.of hc) rfl ?_;walk_at "gg";refine Yy (aK.of (S7 _ _ G.el)) ?_;walk_at "gg"
       . rename_i z
         exact yB inv (by have:=G.len;omega) eZ ⟨_,_,rfl⟩ (ah.refl _) (by rw[mT hi,if_pos z];exact ix.by S7)
       . rename_i z
         exact yB inv (by have:=G.len;omega) eZ ⟨_,_,rfl⟩ (ah.refl _) (by rw[mT hi,if_neg z];exact dP 0 (T.d9 _) rfl rfl)
     . intro D zs H7 hn S7 hD hl hr
       have hpl:=G.tp.length;rw[we]at hpl;have tz:ak K H7 zs ((iK left ps).map N):=fk (by rw[hl,Oi,hpl]) hr;rw[hph]at tz;have tv:=ak.same S7 _ _ G.tv;have ev:=S7 _ _ G.ev;have iw7:=G.iw.by S7;have T7:=G.same.trans S7;rw[w1]at tv;walk_at "gg";refine g6 (cB.mpr ⟨lv,wv,rfl,.of ev,tv⟩) (λv8 H8 S8 i8=>?_);walk_at "gg";refine aD (j:=0) (hw.by (T7.trans S8)) rfl (λv9 i9=>?_);walk_at "gg";refine g6 (cY (S8 _ _ hD) (ak.same S8 _ _ tz)) (λv10 H10 S10 i10=>?_);walk_at "gg";refine cH (ds:=[R ra rb,TN (cX ra rb xs)]) (by simp) (.cons (i9.by S10) (.cons i10 .nil)) (λv11 H11 S11 i11=>?_);walk_at "gg";refine cH (ds:=[N (1-bV xs),lg (ck ra rb xs),bD ra rb (cX ra rb xs)]) (by simp) (.cons (iw7.by (S8.trans (S10.trans S11))) (.cons (i8.by (S10.trans S11)) (.cons i11 .nil))) (λv12 H12 S12 i12=>?_);exact q v12 H12 (T7.trans (S8.trans (S10.trans (S11.trans S12)))) i12
   . rw[zwk he]
     refine mq ?_;refine rD ?_;have hwl:=G.tv.length;rw[we]at hwl;have hdl:=G.dl;have hlen:=Dm ps left;have hpos:0<(aF ps left).length:=Vs.mpr he;walk_at "gg";refine lq (aK.of G.ev) ?_;walk_at "gg";refine kS G.ev (by omega) (λH7 E7 e7=>?_);have K7:bG H6 H7:=E7.keep G.ev;have S7:ah H H7:=G.same.grow G.hv E7;have el7:=E7 _ _ G.u6 G.el;have ep7:=E7 _ _ G.lI G.ep;have tp7:=ak.keep K7 _ _ (fO _) G.tp;have iv7:=G.iv.kA K7 (Cv _);have iw7:=G.iw.fE K7
     have tv7:ak K H7 (wv++[vwave]) ((done++[aF ps left]).map TW):=by
       rw[w8];exact(ak.keep K7 _ _ (rX _) G.tv).snoc iv7
     obtain⟨aw,rfl,hsw⟩:=By.mp iv7;walk_at "gg";refine oQ (.of el7) (λD i ys σ' H'=>(∃o,σ'=[o,some (.ref aw)])/\H7 D=none/\ah H7 H'/\H' D=some (.lst (vz (bK (left.take i) (aF ps left))))) (λD H' n s e=>⟨⟨_,rfl⟩,n,s,e⟩) (λD i ys σ' H' h=>h.2.2.1.seq (.of el7)) ?_ ?_
     . rintro D i x ys σ' H8 hx' ⟨⟨o,rfl⟩,n,S8,e8⟩
       obtain⟨hi,rfl⟩:=Cc hx';have hle:(bK (left.take i) (aF ps left)).length<=(left.take i).length:=Wc _ _;rw[vP]at hle;walk_at "gg";refine Uk (S8.jw hsw) ?_;generalize hww:left[i]=ww at *;walk_at "gg"
       . rename_i z
         refine kG e8 (by rw[jB];omega) (λH9 E9 e9=>⟨⟨_,rfl⟩,n,S8.grow n E9,?_⟩);rw[oS hi,hww,zvg z,AM];exact e9
       . rename_i z
         refine⟨[],⟨_,rfl⟩,n,S8,?_⟩;rw[oS hi,hww,ztc (by first | exact z | exact VE.mp z)];exact e8
     . rintro D ys σ' H8 ⟨_,n8,S8,e8⟩
       rw[jB,vW]at e8;have nD1:D≠lp:=pC n8 ep7;have nD2:D≠lv:=pC n8 e7;have T8:=S7.trans S8;have iv8:=iv7.by S8;walk_at "gg";refine aD (j:=0) (hw.by T8) rfl (λvr ir=>?_);walk_at "gg";refine Cp iv8 ?_;walk_at "gg";refine Bv ir ba bb (by omega) (by omega) (λvpush H9 S9 ipush=>?_);rw[wE]at ipush;have bf:ag 700 (ra^(aF ps left).length):=(ba.pow _).mono (by omega);have bg:ag 1500 (aB ra rb (aF ps left).length):=(ba.aB bb _).mono (by omega);have T9:=S8.trans S9;have ep9:=T9 _ _ ep7;have tp9:ak K H9 pv (ps.map N):=ak.same T9 _ _ tp7;have e9:=S9 _ _ e8;have ev9:=T9 _ _ e7;have ndl:=mZ (wave:=aF ps left) G.nd;have ltl:=mJ (wave:=aF ps left) G.lt;generalize hL:bK left (aF ps left)=left' at *;walk_at "gg";refine rF (.of e9) (λi σ'' H''=>∃o pv',σ''=[some x0,some vw,some (.ref lp),some (.ref D),some (.ref lv),some (.ref aw),some vpush,o,none]/\Exc lp H9 H''/\H'' lp=some (.lst pv')/\ak K H'' pv' ((cD (ra^(aF ps left).length) (aB ra rb (aF ps left).length) ps (left'.take i)).map N)) ⟨_,pv,rfl,Exc.refl _ _,ep9,tp9⟩ (λi σ'' H'' _ ⟨_,_,_,e,_⟩=>.of (e _ _ nD1 e9)) ?_ ?_
       . rintro i x σ'' H10 hx' ⟨o,pv',rfl,E10,e10,t10⟩
         obtain⟨hi,rfl⟩:=Cc hx';have K10:bG H9 H10:=E10.keep ep9;have hlt:=ltl _ (vd hi);have hpl:=g9 (ra^(aF ps left).length) (aB ra rb (aF ps left).length) (left'.take i) ps;have hps:=G.len
         have bq:ag 4000 ((cD (ra^(aF ps left).length) (aB ra rb (aF ps left).length) ps (left'.take i)).getD left'[i] 0):=by
           have nt:(left'.take i).Nodup:=ndl.sublist (xM ..);rw[iL _ _ _ _ nt (λw hw'=>by rw[hps];exact ltl w (Xp _ _ hw'))];rw[if_neg]
           . exact bp _
           . intro hm
             obtain⟨j,hj,ej⟩:=wK hm;rw[vP]at hj;rw[xQ]at ej;exact absurd ej ((vE.mp ndl) j i (by omega) hi (by omega))
         have ip10:=ipush.kA K10 (BI _ _);generalize hww:left'[i]=ww at *;generalize hqs:cD (ra^(aF ps left).length) (aB ra rb (aF ps left).length) ps (left'.take i)=qs at *;walk_at "gg";refine ki (cY e10 t10) (by omega) (by omega) (λv11 i11=>?_);rw[wE]at i11;walk_at "gg";refine LK ip10 i11 bf bg (bq.mono (by decide)) (λv12 H12 S12 i12=>?_);have e12:=S12 _ _ e10;have hvl:=t10.length;rw[we]at hvl;walk_at "gg";refine zf (j:=ww) e12 (by unfold gP;rw[if_pos (by omega),if_pos (by omega)];simp) (λH13 E13 e13=>?_);refine⟨_,_,rfl,E10.trans (S12.exc.trans E13),e13,?_⟩;have K13:=E13.keep e12;rw[oS hi,hww,zrN,hqs];refine fk (by rw[WW,WW];exact hvl) (λj v hj=>?_);rw[W5]at hj
         by_cases hjw:ww=j
         . subst hjw
           rw[if_pos rfl,if_pos (by omega)]at hj;cases hj;rw[PH (by omega)];exact i12.fE K13
         . rw[if_neg hjw]at hj
           rw[NU hjw];obtain⟨_,ij⟩:=de t10 hj;exact(ij.by S12).fE K13
       . rintro σ'' H10 ⟨o,pv',rfl,E10,e10,t10⟩
         rw[jB,vW]at t10;have K10:bG H9 H10:=E10.keep ep9;have hps:=G.len
         have cm10:Cm (m+2+21*(xs.length-left'.length)) (cD (ra^(aF ps left).length) (aB ra rb (aF ps left).length) ps left'):=by
           have c0:Cm (m+2+21*(xs.length-left.length)) (0::ps):=G.cm.jO λy hy=>by rcases wz.mp hy with rfl | hy;(exact .inr rfl);exact .inl hy
           exact((c0.wave ba bb (aF ps left).length ndl (λw hw'=>by rw[hps];exact ltl w hw')).jO λy hy=>.inl (wo _ hy)).mono (by omega)
         have hpl:=g9 (ra^(aF ps left).length) (aB ra rb (aF ps left).length) left' ps;have w1:=G.w1;have w2:=G.w2;have hfl:=G.fl;obtain⟨f',rfl⟩:∃f',f=f'+1:=⟨f-1,by omega⟩;rw[iG he,hL]at w1 w2;generalize hqs:cD (ra^(aF ps left).length) (aB ra rb (aF ps left).length) ps left'=qs at *;walk_at "gg";have e10':=E10 _ _ nD1 e9;refine Jm e10' (cY e10 t10) (λw hw'=>by rw[hpl,hps];exact ltl w hw') (by omega) (λi=>(cm10.get i).mono (by omega)) (λvwave2 H11 S11 i11=>?_);walk_at "gg";have KA:=T9.keep.trans K10;refine⟨left'.length,by omega,D,left',qs,done++[aF ps left],f',pv',wv++[V.ref aw],vwave2,_,_,rfl,rfl,?_⟩;exact⟨((S7.trans T9).grow G.hp E10).trans S11,G.hp,G.hv,(iw7.fE KA).by S11,G.lI,nD1,nD2,S11 _ _ e10,ak.same S11 _ _ t10,S11 _ _ e10',S11 _ _ (E10 _ _ G.lI.symm ev9),ak.same S11 _ _ (ak.keep KA _ _ (rX _) tv7),i11,ndl,ltl,by rw[hpl];exact hps,by omega,by rw[wH];simp;omega,cm10,by rw[W4];exact w1,w2⟩
def O8(K:wb):Sp:=λvs H Q _=>∃x0 x1,vs=[x0,x1] /\ ∃(a b:Rat)(xs:List Rat)(n:Int),x1=.int n/\Is K H x0 (bD a b xs)/\ag 10 a/\ag 10 b/\1<=xs.length/\xs.length<=8/\0<=n/\n<=40/\(∀i,i<=n.toNat->Cm 3700 (aQ a b xs i::aj a b xs i)) /\ ∀l H',H l=none->ah H H'->Is K H' (.ref l) (.list (fP a b xs n.toNat))->Q (.ref l) H'
theorem Jk{K:wb}{H:Hp}{Q:VK}{E:XK}{a b:Rat}{xs:List Rat}{n:Int}{v:V}(h:Is K H v (bD a b xs))(ba:ag 10 a)(bb:ag 10 b)(h1:1<=xs.length)(h8:xs.length<=8)(n0:0<=n)(n1:n<=40)(c:∀i,i<=n.toNat->Cm 3700 (aQ a b xs i::aj a b xs i))(q:∀l H',H l=none->ah H H'->Is K H' (.ref l) (.list (fP a b xs n.toNat))->Q (.ref l) H'):O8 K [v,.int n] H Q E:=⟨_,_,rfl,a,b,xs,n,rfl,h,ba,bb,h1,h8,n0,n1,c,q⟩
theorem JK(T:Txt K mg a):aJ P w K mg base aT 5 a.Hg a.Gg ze (O8 K):=by
 refine T.zW.F.ok j8 ?_ ?_;walk_at "b2"
 refine⟨_,(ao (az 2 j8.nd (e_ af))
     (ao (az 3 j8.nd (bW (v:=.ref a.cW) rfl T.dF rfl))
     (ao (az 4 j8.nd (pv 0))
     (ao (f_ vf rfl (jI rfl T.z_range (ae (pv 1) af)) (bL (i:=5) j8.nd rfl (Or.inl rfl)) (ao (az 6 j8.nd (au (C4 T) hr T.rg (ae (pv 4) af)))
     (ao (az 3 j8.nd (au (gn T) hr T.fM (ae (pv 3) (ae (ar (pv 6)) af))))
     (ao (az 4 j8.nd (ar (pv 6)))
     (av (mR (m6 Wh Wf Wg kY (pv 2) (ae (br (ae (pv 3) (ae (ar (pv 6)) (ae (ar (pv 4)) af)))) af))))))))
     (av (aE (pv 2))))))),?_⟩
 walk_at "cl";rw[show start Lx [x0,x1]=[some x0,some x1,none,none,none,none,none]from rfl];obtain⟨ra,rb,xs,n,rfl,hw,ba,bb,h1,h8,n0,n1,cm,q⟩:=h;walk_at "gg";refine ff (by simp) (λlr H1 nr S1 e1=>?_);walk_at "gg";refine kH (n:=n) (by omega) (by omega) (λi σ H'=>∃vh vs o5 o6 us,σ = [some x0,some (.int n),some (.ref lr),some vh,some vs,o5,o6]/\ah H H'/\H' lr=some (.lst us)/\ak K H' us (fP ra rb xs i)/\Is K H' vh (N (aQ ra rb xs i))/\Is K H' vs (bD ra rb (aj ra rb xs i))) ⟨_,_,_,_,[],rfl,S1,e1,.nil,dP 0 (T.d9 _) rfl rfl,hw.by S1⟩ ?_ ?_
 . rintro i σ H2 hi ⟨vh,vs,o5,o6,us,rfl,S2,e2,t2,ih,iw⟩
   have hc:=cm i (by omega);have hpl:=bR ra rb xs i;have bh:ag 3700 (aQ ra rb xs i):=hc.eX (wu ..);have hc':Cm 3700 (aj ra rb xs i):=hc.jO λy hy=>.inl (wo _ hy)
   have bw:ag 3702 (1-bV (aj ra rb xs i)):=(ag.one.sub (hc'.eX (gM (by omega)))).mono (by decide);walk_at "gg";refine Ba iw ba bb (by omega) (by omega) hc' (by rw[hpl];omega) (λv3 H3 S3 i3=>?_);walk_at "gg";refine aD (j:=0) i3 rfl (λv4 i4=>?_);have ih3:=ih.by S3;walk_at "gg";rename_i v5 H5 S5 i5;refine aD (j:=2) (i3.by S5) rfl (λv6 i6=>?_);have T5:=S3.trans S5;walk_at "gg";refine lq (aK.of (T5 _ _ e2)) ?_;walk_at "gg";refine aD (j:=1) (i3.by S5) rfl (λv7 i7=>?_);walk_at "gg";refine aD (j:=1) i6 rfl (λv8 i8=>?_);walk_at "gg";refine cH (ds:=[N (aQ ra rb xs (i+1)),lg (ck ra rb (aj ra rb xs i)),TN (aj ra rb xs (i+1))]) (by simp) (.cons i5 (.cons i7 (.cons i8 .nil))) (λv9 H9 S9 i9=>?_);walk_at "gg";have T9:=T5.trans S9;have e9:=T9 _ _ e2;have hul:=t2.length;rw[AY]at hul;refine kS e9 (by omega) (λH10 E10 e10=>?_);have K10:=E10.keep e9;have i10:=i9.kA K10 (Lp _ _ _)
   have t10:ak K H10 (us++[v9]) (fP ra rb xs (i+1)):=by
     rw[pk];exact(ak.keep K10 _ _ (Zu ..) (ak.same T9 _ _ t2)).snoc i10
   exact⟨_,_,_,_,_,rfl,(S2.trans T9).grow nr E10,e10,t10,(i5.by S9).fE K10,(i6.by S9).kA K10 (zzp _ _ _)⟩
 . rintro σ H2 ⟨vh,vs,o5,o6,us,rfl,S2,e2,t2,ih,iw⟩
   walk_at "gg";exact q lr H2 nr S2 (cB.mpr ⟨lr,us,rfl,.of e2,t2⟩)
def BD(a b:Rat)(xs:List Rat)(n:Nat):PyData:=.tuple [N (aQ a b xs n),bD a b (aj a b xs n)]
def JJ(K:wb):Sp:=λvs H Q _=>∃x0 x1,vs=[x0,x1] /\ ∃(a b:Rat)(xs:List Rat)(n:Int),x1=.int n/\Is K H x0 (bD a b xs)/\ag 10 a/\ag 10 b/\1<=xs.length/\xs.length<=8/\0<=n/\n<=40/\(∀i,i<=n.toNat->Cm 3700 (aQ a b xs i::aj a b xs i)) /\ ∀v H',ah H H'->Is K H' v (BD a b xs n.toNat)->Q v H'
theorem sR{K:wb}{H:Hp}{Q:VK}{E:XK}{a b:Rat}{xs:List Rat}{n:Int}{v:V}(h:Is K H v (bD a b xs))(ba:ag 10 a)(bb:ag 10 b)(h1:1<=xs.length)(h8:xs.length<=8)(n0:0<=n)(n1:n<=40)(c:∀i,i<=n.toNat->Cm 3700 (aQ a b xs i::aj a b xs i))(q:∀v H',ah H H'->Is K H' v (BD a b xs n.toNat)->Q v H'):JJ K [v,.int n] H Q E:=⟨_,_,rfl,a,b,xs,n,rfl,h,ba,bb,h1,h8,n0,n1,c,q⟩
theorem my{K:wb}{H:Hp}{Q:VK}{v:V}{ds:List PyData}{d:PyData}(h:Is K H v (.list (ds++[d])))(q:∀x,Is K H x d->Q x H):cQ K v (.int (-1)) H Q:=by
 obtain⟨a,xs,rfl,hs,t⟩:=cB.mp h;have hl:=t.length;rw[wH,vJ]at hl;obtain⟨x,e1,hx⟩:=t.get (i:=ds.length) (d:=d) (by rw[wW (wg _),WS];rfl);exact ie hs (BJ (by rw[hl];exact e1)) (q x hx)
theorem L9(T:Txt K mg a):aJ P w K mg base aT 6 a.behind a.GL uX (JJ K):=by
 refine T.zZ.F.ok Ay ?_ ?_;walk_at "b2"
 refine⟨_,(ao (az 2 Ay.nd (au (JK T) hr T.zW (ae (pv 0) (ae (pv 1) af))))
     (ao (bN (eD (CH (pv 2))) (av (aE (br (ae (bW (v:=.ref a.cW) rfl T.dF rfl) (ae (pv 0) af))))) bP)
     (ao (az 3 Ay.nd (dQ c_ (pv 2) (gU h9 ay) (λ_ _=>rfl)))
     (av (aE (br (ae (ar (pv 3)) (ae (br (ae (ar (pv 0)) (ae (ar (pv 3)) af))) af)))))))),?_⟩
 walk_at "cl";rw[show start Rq [x0,x1]=[some x0,some x1,none,none]from rfl];obtain⟨ra,rb,xs,n,rfl,hw,ba,bb,h1,h8,n0,n1,cm,q⟩:=h;walk_at "gg";refine Jk hw ba bb h1 h8 n0 n1 cm (λlr H1 nr S1 i1=>?_);walk_at "gg";refine Ri i1 ?_;generalize n.toNat=k at *;cases k with
 | zero =>
   rw[show(!(fP ra rb xs 0).isEmpty)=false from rfl];walk_at "gg";refine cH (ds:=[N 0,bD ra rb xs]) (by simp) (.cons (dP 0 (T.d9 _) rfl rfl) (.cons (hw.by S1) .nil)) (λv H2 S2 i2=>?_);exact q v H2 (S1.trans S2) i2
 | succ k =>
   rw[pk]at i1;rw[show(!(fP ra rb xs (k+1)).isEmpty)=true by rw[pk];simp];walk_at "gg";refine my i1 (λv2 i2=>?_);have i2:Is K H1 v2 (nq (aQ ra rb xs (k+1)) (ck ra rb (aj ra rb xs k)) (aj ra rb xs (k+1))):=i2;walk_at "gg";refine aD (j:=0) i2 rfl (λv3 i3=>?_);walk_at "gg";refine aD (j:=0) (hw.by S1) rfl (λv4 i4=>?_);walk_at "gg";refine aD (j:=2) i2 rfl (λv5 i5=>?_);walk_at "gg";refine cH (ds:=[R ra rb,TN (aj ra rb xs (k+1))]) (by simp) (.cons i4 (.cons i5 .nil)) (λv6 H6 S6 i6=>?_);walk_at "gg";refine cH (ds:=[N (aQ ra rb xs (k+1)),bD ra rb (aj ra rb xs (k+1))]) (by simp) (.cons (i3.by S6) (.cons i6 .nil)) (λv7 H7 S7 i7=>?_);exact q v7 H7 (S1.trans (S6.trans S7)) i7
def KI(K:wb):Sp:=λvs H Q _=>∃x0,vs=[x0] /\ ∃(a b:Rat)(xs:List Rat),Is K H x0 (bD a b xs)/\Q (.bl (decide (0∈xs))) H
theorem MP{K:wb}{H:Hp}{Q:VK}{E:XK}{a b:Rat}{xs:List Rat}{v:V}(h:Is K H v (bD a b xs))(q:Q (.bl (decide (0∈xs))) H):KI K [v] H Q E:=⟨_,rfl,a,b,xs,h,q⟩
theorem M3(T:Txt K mg a):aJ P w K mg base aT 1 a.Hn a.Gd rL (KI K):=by
 refine T.zV.F.ok Si ?_ ?_;walk_at "b1";refine⟨_,(av (aE (fB (show aN _ (compareOp .In) (DR K)from zA3 hu) (bW (v:=.ref a.cW) rfl T.dF rfl) (ar (pv 0)) (by with_unfolding_all rfl)))),?_⟩;walk_at "cl";rw[show start Dd [x0]=[some x0]from rfl];obtain⟨ra,rb,xs,hw,q⟩:=h;walk_at "gg";refine aD (j:=1) hw rfl (λvp ip=>?_);exact zyo (dP 0 (T.d9 _) rfl rfl) ip q
def bC(xs:List Rat):List Rat:=(ai xs).dropLast
def PC(xs:List Rat):PyData:=.tuple [TZ (aY xs),TN (bC xs)]
def Jl(K:wb)(a:Ad):Sp:=λvs H Q E=>∃x0,vs=[x0] /\ ∃(ra rb:Rat)(xs:List Rat),Is K H x0 (bD ra rb xs)/\xs.length<=8/\(∀i,ag 4000 (xs.getD i 0))/\(¬ 0∈xs->∀H',ah H H'->E (.ref a.nB) none H')/\(0∈xs->∀v H',ah H H'->Is K H' v (PC xs)->Q v H')
theorem Ah{K:wb}{a:Ad}{H:Hp}{Q:VK}{E:XK}{ra rb:Rat}{xs:List Rat}{v:V}(h:Is K H v (bD ra rb xs))(h8:xs.length<=8)(bx:∀i,ag 4000 (xs.getD i 0))(qe:¬ 0∈xs->∀H',ah H H'->E (.ref a.nB) none H')(q:0∈xs->∀v H',ah H H'->Is K H' v (PC xs)->Q v H'):Jl K a [v] H Q E:=⟨_,rfl,ra,rb,xs,h,h8,bx,qe,q⟩
theorem Mz:∀(n:Nat)(l:List Rat),(g_ n l).length<=n
 | 0,l=>wg _
 | n+1,[]=>by rw[Dz];simp
 | n+1,x::l=>by
  rw[mW (by simp),wV];have:=Mz n ((x::l).filter λy=>!decide (y=bV (x::l)));omega
theorem DT(T:Txt K mg a):aJ P w K mg base (eJ P w) 4 a.laid a.He sE (Jl K a):=by
 refine T.rl.F.rP sC ?_ ?_;walk_at "b1"
 refine⟨_,(ao (bN (eD (dD (au (M3 T) hr T.zV (ae (pv 0) af)))) (av (PK T.RK rfl rfl T.RJ Jf (ae gg af))) bP)
     (ao (az 1 sC.nd (au (JP T) hr T.z7 (ae (pv 0) af)))
     (ao (az 2 sC.nd (dM (show aO _ (.type "tuple") (d5 K)from ft) rfl T.z_tuple d_ (ae (d4 rfl (cE.by (N':=["row"]) (src:=[none]) rfl (show cU _ (aC oE).names yW ["row"] [none]=true from by decide +kernel)) (fY (pv 1)) (λ_ _ _ _ _=>(bL (i:=0) (show(["row"]:List Str).Nodup from by decide) rfl (Or.inl rfl))) (λ_ _ _ _ _=>dX) (λ_ _ _ _ _=>(bQ (show aO _ (.builtin "len") (cN K)from dU) rfl T.z_len dC (ae (nW (K:=K) c_ (pv 0)) af)))) af)))
     (ao (az 3 sC.nd (dM (show aO _ (.type "tuple") (d5 K)from ft) rfl T.z_tuple d_ (ae (d4 rfl (cE.by (N':=["row"]) (src:=[none]) rfl (show cU _ (aC oE).names yW ["row"] [none]=true from by decide +kernel)) (fY (oB oz (pv 1) nN (pb (gU h9 ay)))) (λ_ _ _ _ _=>(bL (i:=0) (show(["row"]:List Str).Nodup from by decide) rfl (Or.inl rfl))) (λ_ _ _ _ _=>dX) (λ_ _ _ _ _=>(nW (K:=K) c_ (pv 0)))) af)))
     (av (aE (br (ae (pv 2) (ae (pv 3) af))))))))),?_⟩
 walk_at "cl";rw[show start yW [x0]=[some x0,none,none,none]from rfl];obtain⟨ra,rb,xs,hw,h8,bx,qe,q⟩:=h;have hvl:(ai xs).length<=8:=vA (Mz _ _) h8;walk_at "gg";refine MP hw ?_;walk_at "gg"
 . rename_i z
   exact⟨by simp;decide,qe z H (ah.refl _)⟩
 . rename_i z
   have z:=(by first | exact z | exact VE.mp z:0∈xs);refine Mf hw h8 bx (λlr H1 us n1 S1 e1 t1=>?_);have hul:=t1.length;rw[we]at hul;walk_at "gg";refine kF (.of e1) (o0:=none) (tl:=[]) rfl (λj y _=>y=.int ((aY xs).getD j 0)) ?_ ?_
   . intro D j x ys o H2 hx inv
     obtain⟨hj,ix⟩:=kx t1 hx;rw[we]at hj;rw[wa,wn,wc hj]at ix;have ix2:Is K H2 x (jK xs (ai xs)[j]):=ix.by inv.same;walk_at "gg";refine aD (j:=1) ix2 rfl (λv3 i3=>?_);walk_at "gg";refine Cp i3 ?_;walk_at "gg";refine eU inv (by omega) (λ_ _ _ _ _ h=>h) ⟨_,rfl⟩ (ah.refl _) ?_;unfold aY;rw[wa,wn,wc hj]
     rfl
   . intro D ys H2 hn S2 hD hl hr
     have hys:ys=(aY xs).map V.int:=ME (by rw[hl,hul];unfold aY;rw[we]) hr;subst hys;walk_at "gg";refine yR (.of hD) (λl3 H3 n3 S3 e3=>?_);have i3:Is K H3 (.ref l3) (TZ (aY xs)):=nJ.mpr ⟨l3,rfl,.of e3⟩;have T3:=S2.trans S3;walk_at "gg";refine uY (cB.mpr ⟨lr,us,rfl,.of (T3 _ _ e1),ak.same T3 _ _ t1⟩) (λl4 H4 us4 n4 S4 e4 t4=>?_);rw[AV,<- Qd]at t4;walk_at "gg";refine kF (.of e4) (o0:=none) (tl:=[]) rfl (λj y H'=>Is K H' y (N ((bC xs).getD j 0))) ?_ ?_
     . intro D' j x ys o H5 hx inv
       obtain⟨hj,ix⟩:=kx t4 hx;have hj2:j<(bC xs).length:=by rw[we]at hj;exact hj
       have hj8:(bC xs).length<=8:=by unfold bC;rw[xh];omega
       rw[wa,wn,wc (show j<(ai xs).dropLast.length from hj2)]at ix;have ix5:Is K H5 x (jK xs (bC xs)[j]):=ix.by inv.same;walk_at "gg";refine aD (j:=0) ix5 rfl (λv6 i6=>?_);walk_at "gg";refine eU inv (by omega) eZ ⟨_,rfl⟩ (ah.refl _) ?_;rw[wa,wc hj2];exact i6
     . intro D' zs H5 hn5 S5 hD5 hl5 hr5
       have hu4:=t4.length;rw[we]at hu4;have tz:ak K H5 zs ((bC xs).map N):=fk (by rw[hl5,hu4];rfl) hr5;walk_at "gg";refine g6 (cY hD5 tz) (λv6 H6 S6 i6=>?_);walk_at "gg";refine cH (ds:=[TZ (aY xs),TN (bC xs)]) (by simp) (.cons (i3.by (S4.trans (S5.trans S6))) (.cons i6 .nil)) (λv7 H7 S7 i7=>?_);exact q z v7 H7 (S1.trans (T3.trans (S4.trans (S5.trans (S6.trans S7))))) i7
theorem YA{m:Nat}{xs:List Rat}(h:Cm m xs)(i j:Nat):ag (m+2) (xs.getD i 0+(1-xs.getD j 0)):=by
 obtain⟨B,h0,h1,h2⟩:=h
 have key:∀i,∃t:Int,xs.getD i 0=wp t B/\Bd m t:=λi=>by
  rcases wt i xs.length with q | q
  ·rw[wa,wc q]
   exact h2 _ (vd q)
  ·rw[wa,wA q]
   exact⟨0,by simp,⟨by simp;exact vI m⟩⟩
 obtain⟨t,et,bt⟩:=key i;obtain⟨z,ez,bz⟩:=key j
 have e2:wp t B+(1-wp z B)=wp (t+B-z) B:=by
  symm
  refine fI (by omega) ?_;have q1:=cA t (show B≠0 by omega);have q2:=cA z (show B≠0 by omega);have q3:((t+B-z:Int):Rat)=(t:Rat)+(B:Rat)-(z:Rat):=by push_cast;rfl
  rw[q3,<- q1,<- q2]
  grind
 rw[et,ez,e2];exact ag.divInt (by omega) (((bt.add h1).sub bz).mono (by omega)) (h1.mono (by omega))
def JG(K:wb):Sp:=λvs H Q _=>∃x0 x1 x2 x3,vs=[x0,x1,x2,x3] /\ ∃(a b:Rat)(n i:Int)(xs:List Rat)(m:Nat),x1=.int n/\x3=.int i/\Is K H x0 (R a b)/\Is K H x2 (LN xs)/\ag 10 a/\ag 10 b/\0<=n/\n<=64/\0<=i/\i<xs.length/\xs.length<=100/\Cm m xs/\m<=8000 /\
 ∀l H' us,H l=none->ah H H'->H' l=some (.lst us)->ak K H' us ((df a b n.toNat xs i.toNat).map N)->Q (.ref l) H'
theorem Zr{K:wb}{H:Hp}{Q:VK}{E:XK}{a b:Rat}{n i:Int}{xs:List Rat}{m:Nat}{v w:V}(h1:Is K H v (R a b))(h2:Is K H w (LN xs))(b1:ag 10 a)(b2:ag 10 b)(h0:0<=n)(h64:n<=64)(i0:0<=i)(i1:i<xs.length)(hl:xs.length<=100)(hm:Cm m xs)(hm2:m<=8000)
  (q:∀l H' us,H l=none->ah H H'->H' l=some (.lst us)->ak K H' us ((df a b n.toNat xs i.toNat).map N)->Q (.ref l) H'):JG K [v,.int n,w,.int i] H Q E:=⟨_,_,_,_,rfl,a,b,n,i,xs,m,rfl,rfl,h1,h2,b1,b2,h0,h64,i0,i1,hl,hm,hm2,q⟩
theorem YJ(T:Txt K mg a):aJ P w K mg base aT 4 a.ET a.Et zi (JG K):=by
 refine T.EG.F.ok uM ?_ ?_;walk_at "b4"
 refine⟨_,(ao (az 4 uM.nd (au (rT T) hr T.nE (ae (bW (v:=.ref a.dG) rfl T.eF rfl) (ae (dQ c_ (pv 2) (pv 3) (λ_ _=>rfl)) af))))
     (ao (az 5 uM.nd (au (yn T) hr T.nD (ae (pv 0) (ae (pv 1) af))))
     (ao (lJ (i:=6) uM.nd rfl (Or.inl rfl) rfl (cE.by (N':=["phase","push","wait"]) (src:=[none,some 5,some 4]) rfl (show cU _ (aC tO).names Bm ["phase","push","wait"] [none,some 5,some 4]=true from by decide +kernel)) (fY (pv 2)) (λ_ _ _ _ _=>(bL (i:=0) (show(["phase","push","wait"]:List Str).Nodup from by decide) rfl (Or.inl rfl))) (λ_ _ _ _ _=>dX) (λ_ _ _ _ _=>(au (Mr (K:=K) (mg:=mg) (a:=a) T) hr T.zQ (ae (pv 1) (ae (au (gn (K:=K) (mg:=mg) (a:=a) T) hr T.fM (ae (pv 0) (ae (pv 2) af))) af)))))
     (ao (mD (bW (v:=.ref a.cW) rfl T.dF rfl) (om (pv 6) (pv 3) pY))
     (av (aE (pv 6))))))),?_⟩
 walk_at "cl";rw[show start Bm [x0,x1,x2,x3]=[some x0,some x1,some x2,some x3,none,none,none]from rfl];obtain⟨a',b',n,i,xs,m,rfl,rfl,hr',hx,ba,bb,h0,h64,i0,i1,hl,hm,hm2,q⟩:=h;have bi:ag 8000 (xs.getD i.toNat 0):=(hm.get _).mono hm2;have bw:ag 8002 (1-xs.getD i.toNat 0):=(ag.one.sub bi).mono (by decide);have bf:ag 700 (a'^n.toNat):=(ba.pow n.toNat).mono (by omega);have bg:ag 1500 (aB a' b' n.toNat):=(ba.aB bb n.toNat).mono (by omega);walk_at "gg";refine ki hx i0 i1 (λv1 iv1=>?_);walk_at "gg";rename_i v2 H2 S2 iv2;refine Bv (hr'.by S2) ba bb h0 h64 (λv3 H3 S3 iv3=>?_);have T3:=S2.trans S3;have iv2':=iv2.by S3;have hx3:=hx.by T3;clear iv1 iv2 S2 S3 hx hr';walk_at "gg";obtain⟨lx,vs,rfl,hs,t⟩:=cB.mp hx3;refine kF hs (o0:=none) (tl:=[some v3,some v2]) rfl (λj v H=>Is K H v (N ((xs.map λx=>push a' b' n.toNat (x+(1-xs.getD i.toNat 0))).getD j 0))) ?_ ?_
 . rintro D j x ys o H1 hx' inv
   obtain⟨hj,ix⟩:=de t hx';have ix1:=ix.by inv.same;have jv2:=iv2'.by inv.same;have jv3:=iv3.by inv.same;have bx:ag 8000 (xs.getD j 0):=(hm.get j).mono hm2;walk_at "gg";rename_i v4 H4 S4 iv4;refine LK (jv3.by S4) iv4 bf bg ((YA hm j i.toNat).mono (by omega)) (λv5 H5 S5 iv5=>?_);exact eU inv (by omega) eZ ⟨_,rfl⟩ (S4.trans S5) (by rw[mX hj,gG];exact iv5)
 . rintro D ys H4 hn S4 e4 hl4 hr4
   have hvl:=t.length;rw[we]at hvl;have hyl:ys.length=xs.length:=by omega
   clear hs t hx3 iv2' iv3;walk_at "gg";refine zf (j:=i.toNat) e4 (by unfold gP;rw[if_pos i0,if_pos (by omega)]) (λH5 E5 e5=>?_);walk_at "gg";have hD:=jf T3 hn;refine q D H5 _ hD ((T3.trans S4).grow hD E5) e5 (fk (by rw[WW,gB];exact hyl) λj v hv=>?_);rw[W5]at hv
   by_cases hij:i.toNat=j
   . subst hij
     rw[if_pos rfl,if_pos (by omega)]at hv;cases hv;rw[fA _ _ _ _ _ _ (by omega),if_pos rfl];exact dP 0 (T.d9 _) rfl rfl
   . rw[if_neg hij]at hv
     have hj:j<xs.length:=by
       rcases wt j ys.length with z | z
       . omega
       . rw[wA z]at hv;cases hv
     have hz:=hr4 j v hv;rw[mX hj]at hz;rw[fA _ _ _ _ _ _ hj,if_neg (vX hij)];exact hz.fE (E5.keep e4)
structure cq(a b:Rat)(ns:List Int)(xs:List Rat):Prop where
 ba:ag 10 a
 bb:ag 10 b
 n0:∀n∈ns,0<=n/\n<=64
 len:ns.length=xs.length+1
 bX:ns.length<=50
 cm:∃m,Cm m xs/\m+2*ns.length+21*upTo ns ns.length<=8000
theorem Cw{ns:List Int} : ∀{k j:Nat},k<=j->j<=ns.length->upTo ns k<=upTo ns j:=by
 intro k j hk
 induction j with
 | zero => intro _; have : k = 0 := by omega
           subst this;exact wg _
 | succ j ih =>
   intro hj;rcases wt k (j+1)with z | z
   . rw[o_ (by omega)]
     have:=ih (by omega) (by omega);omega
   . have:k=j+1:=by omega
     subst this;exact wg _
theorem cq.row{a b:Rat}{ns:List Int}{xs:List Rat}(h:cq a b ns xs){k:Nat}(hk:k<=ns.length):∃m,Cm m (aH a b ns (xs++[0]) k)/\m<=8000:=by
 obtain⟨m,hm,hm2⟩:=h.cm;refine⟨_,(hm.snoc).rows h.ba h.bb k hk,?_⟩;have:=Cw (ns:=ns) hk (wg _);omega
def mj(a b:Rat)(ns:List Int)(xs:List Rat):List (List Rat):=(wl (ns.length+1)).map (aH a b ns (xs++[0]))
theorem oP(a b:Rat)(ns:List Int)(xs:List Rat):(mj a b ns xs).length=ns.length+1:=by simp[mj]
theorem uF{a b:Rat}{ns:List Int}{xs:List Rat}{k:Nat}(h:k<=ns.length):(mj a b ns xs).getD k []=aH a b ns (xs++[0]) k:=by
 unfold mj;rw[wa,wn,vk (by omega)]
 rfl
def PZ(K:wb):Sp:=λvs H Q _=>∃x0 x1 x2,vs=[x0,x1,x2] /\ ∃(a b:Rat)(ns:List Int)(xs:List Rat),Is K H x0 (R a b)/\Is K H x1 (TZ ns)/\Is K H x2 (TN xs)/\cq a b ns xs /\ ∀l H',ah H H'->Is K H' (.ref l) (LL (mj a b ns xs))->Q (.ref l) H'
theorem Co{K:wb}{H:Hp}{Q:VK}{E:XK}{a b:Rat}{ns:List Int}{xs:List Rat}{v w u:V}(h1:Is K H v (R a b))(h2:Is K H w (TZ ns))(h3:Is K H u (TN xs))(ok:cq a b ns xs)(q:∀l H',ah H H'->Is K H' (.ref l) (LL (mj a b ns xs))->Q (.ref l) H'):PZ K [v,w,u] H Q E:=⟨_,_,_,rfl,a,b,ns,xs,h1,h2,h3,ok,q⟩
theorem A8(T:Txt K mg a):aJ P w K mg base aT 5 a.rk a.GC sF (PZ K):=by
 refine T.p_.F.ok uN ?_ ?_;walk_at "b3"
 refine⟨_,(ao (az 3 uN.nd (e_ (ae (aA cb (dM (show aO _ (.type "list") (j6 K)from rW) rfl T.z_list lV (ae (pv 2) af)) (e_ (ae (bW (v:=.ref a.cW) rfl T.dF rfl) af))) af)))
     (ao (f_ vf rfl (Mi rfl T.z_enumerate (ae (pv 1) af)) (lK (n:=2) rfl (gD (bL (i:=4) uN.nd rfl (Or.inl rfl)) (gD (bL (i:=5) uN.nd rfl (Or.inl rfl)) ma))) (av (mR (m6 Wh Wf Wg kY (pv 3) (ae (au (YJ T) hr T.EG (ae (pv 0) (ae (pv 5) (ae (dQ c_ (pv 3) (pv 4) (λ_ _=>rfl)) (ae (pv 4) af))))) af)))))
     (av (aE (pv 3))))),?_⟩
 walk_at "cl";rw[show start NK [x0,x1,x2]=[some x0,some x1,some x2,none,none,none]from rfl];obtain⟨a',b',ns,xs,hr',hn',hp',ok,q⟩:=h;have hlen:=ok.len;have hfew:=ok.bX;walk_at "gg";refine yo hp' (λl1 H1 us hl1 S1 e1 t1=>?_);have hul:=t1.length;rw[we]at hul;walk_at "gg";refine ff (by simp) (λl2 H2 hl2 S2 e2=>?_);refine mP (S2 _ _ e1) e2 (WC (iJ (by simp;omega))) (λl3 H3 hl3 S3 e3=>?_);walk_at "gg";refine ff (by simp) (λlt H4 hlt S4 e4=>?_);have T4:ah H H4:=S1.trans (S2.trans (S3.trans S4));have e3':=S4 _ _ e3;have ne43:l3≠lt:=λz=>by subst z;rw[e3]at hlt;cases hlt
 have t3:ak K H4 (us++[V.ref a.cW]) ((xs++[0]).map N):=by
   rw[w8];exact(ak.same (S2.trans (S3.trans S4)) _ _ t1).append (.cons (dP 0 (T.d9 _) rfl rfl) .nil)
 have hD:=jf (S1.trans (S2.trans S3)) hlt;clear hl1 hl2 hl3 S1 S2 S3 S4 e1 e2 e3 t1 hlt;walk_at "gg";obtain⟨an,rfl,hsn⟩:=nJ.mp hn'
 refine zuD (T4.jw hsn) (λk σ H'=>∃o1 o2 vs,σ = [some x0,some (.ref an),some x2,some (.ref lt),o1,o2]/\ah H H'/\H' lt=some (.lst vs)/\vs.length=k+1 /\ ∀j v,vs[j]? = some v->∃lj ws,v=.ref lj/\lj≠lt/\H' lj=some (.lst ws)/\ak K H' ws ((aH a' b' ns (xs++[0]) j).map N))
   ⟨_,_,_,rfl,T4,e4,rfl,λj v hv=>?_⟩ (λk σ H' _ ⟨_,_,_,_,s,_⟩=>s.jw hsn) ?_ ?_
 . match j,hv with
   | 0,e=>cases wF e;exact⟨l3,_,rfl,ne43,e3',t3⟩
   | j+1,e=>simp at e
 . rintro k x σ H5 t H6 hx ⟨o1,o2,vs,rfl,S5,e5,hl5,hr5⟩ ht S6 e6
   have hk:k<ns.length:=by
     rcases wt k ns.length with z | z
     . exact z
     . rw[wA (by simpa using z)]at hx;cases hx
   have hxv:x=.int (ns.getD k 0):=by
     rw[wn,wc hk]at hx;rw[wa,wc hk];exact(wF hx).symm
   subst hxv;have hnk:=ok.n0 (ns.getD k 0) (by rw[wa,wc hk];exact vd hk);refine mE (.of e6) rfl ?_;walk_at "gg";have e5':=S6 _ _ e5;refine lq (aK.of e5') ?_;walk_at "gg";have hkv:∃v,vs[k]? = some v:=⟨vs[k]'(by omega),wc (by omega)⟩;obtain⟨v,hv⟩:=hkv;obtain⟨lk,ws,rfl,nek,ek,tk⟩:=hr5 k v hv;refine ie (aK.of e5') (jT hv) ?_;walk_at "gg";obtain⟨m,hm,hm2⟩:=ok.row (k:=k) (by omega);have hrl:=cJ a' b' ns (xs++[0]) k;rw[wH]at hrl;have T6:=S5.trans S6;refine Zr (hr'.by T6) (cY (S6 _ _ ek) (ak.same S6 _ _ tk)) ok.ba ok.bb hnk.1 hnk.2 (by omega) (by rw[hrl];simp;omega) (by rw[hrl];simp;omega) hm hm2 (λl7 H7 us7 hl7 S7 e7 t7=>?_);have e5'':=S7 _ _ e5';have ne7:l7≠lt:=λz=>by subst z;rw[e5']at hl7;cases hl7
   walk_at "gg";refine kS e5'' (by omega) (λH8 E8 e8=>?_);have K8:bG H7 H8:=E8.keep e5'';refine⟨_,_,_,rfl,(T6.trans S7).grow hD E8,e8,by simp[hl5],λj v hv=>?_⟩;rcases wt j vs.length with z | z
   . rw[vo z]at hv
     obtain⟨lj,wj,rfl,nej,ej,tj⟩:=hr5 j v hv;exact⟨lj,wj,rfl,nej,E8 _ _ nej (S7 _ _ (S6 _ _ ej)),ak.keep (S6.keep.trans (S7.keep.trans K8)) _ _ (fO _) tj⟩
   . have hj:j=vs.length:=by
       rcases wt vs.length j with q | q
       . rw[wA (by simp;omega)]at hv;cases hv
       . omega
     subst hj;rw[wW (wg _),WS]at hv;cases wF hv;rw[hl5];refine⟨l7,us7,rfl,ne7,E8 _ _ ne7 e7,ak.keep K8 _ _ (fO _) ?_⟩;rw[aH]
     simpa using t7
 . rintro σ H5 ⟨o1,o2,vs,rfl,S5,e5,hl5,hr5⟩
   walk_at "gg";refine q lt H5 S5 (cB.mpr ⟨lt,vs,rfl,.of e5,Jy (by rw[hl5,oP];simp) λj v hv=>?_⟩)
   have hj:j<vs.length:=by
     rcases wt j vs.length with z | z
     . exact z
     . rw[wA z]at hv;cases hv
   obtain⟨lj,wj,rfl,nej,ej,tj⟩:=hr5 j v hv;rw[uF (by simp at hl5;omega)];exact cY ej tj
def cv(a b:Rat)(ns:List Int)(xs:List Rat):List Rat:=(aH a b ns (xs++[0]) ns.length).dropLast
def MU(K:wb):Sp:=λvs H Q _=>∃x0 x1 x2,vs=[x0,x1,x2] /\ ∃(a b:Rat)(ns:List Int)(xs:List Rat),Is K H x0 (R a b)/\Is K H x1 (TZ ns)/\Is K H x2 (TN xs)/\cq a b ns xs /\ ∀v H',ah H H'->Is K H' v (TN (cv a b ns xs))->Q v H'
theorem JD{K:wb}{H:Hp}{Q:VK}{E:XK}{a b:Rat}{ns:List Int}{xs:List Rat}{v w u:V}(h1:Is K H v (R a b))(h2:Is K H w (TZ ns))(h3:Is K H u (TN xs))(ok:cq a b ns xs)(q:∀v H',ah H H'->Is K H' v (TN (cv a b ns xs))->Q v H'):MU K [v,w,u] H Q E:=⟨_,_,_,rfl,a,b,ns,xs,h1,h2,h3,ok,q⟩
theorem IF(T:Txt K mg a):aJ P w K mg base aT 6 a.Fg a.ED yr (MU K):=by
 refine T.zO.F.ok zlc ?_ ?_;walk_at "b3";refine⟨_,(av (aE (dM (show aO _ (.type "tuple") (d5 K)from ft) rfl T.z_tuple d_ (ae (oB oz (dQ c_ (au (A8 T) hr T.p_ (ae (pv 0) (ae (pv 1) (ae (pv 2) af)))) (gU h9 ay) (λ_ _=>rfl)) nN (pb (gU h9 ay))) af)))),?_⟩;walk_at "cl";rw[show start Cy [x0,x1,x2]=[some x0,some x1,some x2]from rfl];obtain⟨a',b',ns,xs,hr',hn',hp',ok,q⟩:=h;walk_at "gg";refine Co hr' hn' hp' ok (λl H1 S1 i1=>?_);walk_at "gg";refine zuq i1 (by rw[oP];omega) (λv2 i2=>?_);rw[oP,V3,uF (wg _)]at i2;walk_at "gg";refine uY i2 (λl3 H3 ys hn3 S3 e3 t3=>?_);rw[AV,<- Qd]at t3;walk_at "gg";refine g6 (cY e3 t3) (λw H4 S4 i4=>?_);exact q w H4 (S1.trans (S3.trans S4)) i4
theorem Kw{a b:Rat}{ns:List Int}{xs:List Rat}{m:Nat}(ok:cq a b ns xs)(c:Cm m xs)(hm:m+2*ns.length+21*upTo ns ns.length<=8000){k:Nat}(hk:k<=ns.length):Cm 8000 (dS a b ns (xs++[0]) k::aH a b ns (xs++[0]) k):=by
 have h1:=Cw (ns:=ns) hk (wg _);exact(c.snoc.Ae ok.ba ok.bb (ns:=ns) k hk).mono (by omega)
def NR(K:wb):Sp:=λvs H Q _=>∃x0 x1 x2,vs=[x0,x1,x2] /\ ∃(a b:Rat)(ns:List Int)(xs:List Rat)(m:Nat),Is K H x0 (R a b)/\Is K H x1 (TZ ns)/\Is K H x2 (TN xs)/\cq a b ns xs/\Cm m xs/\m+2*ns.length+21*upTo ns ns.length<=8000 /\ ∀v H',ah H H'->Is K H' v (N (eO a b ns xs))->Q v H'
theorem SX{K:wb}{H:Hp}{Q:VK}{E:XK}{a b:Rat}{ns:List Int}{xs:List Rat}{m:Nat}{v w u:V}(h1:Is K H v (R a b))(h2:Is K H w (TZ ns))(h3:Is K H u (TN xs))(ok:cq a b ns xs)(hm:Cm m xs)(hm2:m+2*ns.length+21*upTo ns ns.length<=8000)(q:∀v H',ah H H'->Is K H' v (N (eO a b ns xs))->Q v H'):NR K [v,w,u] H Q E:=⟨_,_,_,rfl,a,b,ns,xs,m,h1,h2,h3,ok,hm,hm2,q⟩
theorem znj(T:Txt K mg a):aJ P w K mg base aT 6 a.Gn a.EW tZ (NR K):=by
 refine T.Fq.F.ok oU ?_ ?_;walk_at "b3"
 refine⟨_,(ao (az 3 oU.nd (bW (v:=.ref a.cW) rfl T.dF rfl))
     (ao (az 4 oU.nd (au (A8 T) hr T.p_ (ae (pv 0) (ae (pv 1) (ae (pv 2) af)))))
     (ao (f_ vf rfl (jI rfl T.z_range (ae (bQ (show aO _ (.builtin "len") (cN K)from dU) rfl T.z_len dC (ae (pv 1) af)) af)) (bL (i:=5) oU.nd rfl (Or.inl rfl)) (av (az 3 oU.nd (au (gn T) hr T.fM (ae (pv 3) (ae (au (rT T) hr T.nE (ae (bW (v:=.ref a.dG) rfl T.eF rfl) (ae (dQ c_ (dQ c_ (pv 4) (pv 5) (λ_ _=>rfl)) (pv 5) (λ_ _=>rfl)) af))) af))))))
     (av (aE (pv 3)))))),?_⟩
 walk_at "cl";rw[show start Oo [x0,x1,x2]=[some x0,some x1,some x2,none,none,none]from rfl];obtain⟨a',b',ns,xs,m,hr',hn',hp',ok,hm,hm2,q⟩:=h;walk_at "gg";refine Co hr' hn' hp' ok (λl H1 S1 i1=>?_);walk_at "gg";refine DS (hn'.by S1) ?_;have hlen:=ok.len;have hfew:=ok.bX;refine kH (n:=(ns.length:Int)) (by omega) (by omega) (λk σ H'=>∃v o,σ = [some x0,some x1,some x2,some v,some (.ref l),o]/\ah H1 H'/\Is K H' v (N (dS a' b' ns (xs++[0]) k))) ⟨_,_,rfl,ah.refl _,dP 0 (T.d9 _) rfl rfl⟩ ?_ ?_
 . rintro k σ H2 hk ⟨v,o,rfl,S2,iv⟩
   have hk':k<ns.length:=by simpa using hk
   have c:=Kw ok hm hm2 (k:=k) (by omega);have b1:ag 8000 (dS a' b' ns (xs++[0]) k):=c.eX (wu ..);have b2:ag 8000 ((aH a' b' ns (xs++[0]) k).getD k 0):=(oW c λy hy=>wo _ hy).get k;have b4:ag 8002 (1-(aH a' b' ns (xs++[0]) k).getD k 0):=(ag.one.sub b2).mono (by decide);have i2:=i1.by S2;walk_at "gg";refine Ms i2 (by omega) (by rw[oP];omega) (λv3 i3=>?_);rw[wE,uF (by omega)]at i3;walk_at "gg";refine ki i3 (by omega) (by rw[cJ,wH];simp;omega) (λv4 i4=>?_);rw[wE]at i4;walk_at "gg";exact⟨_,_,rfl,S2.trans (ah.trans (by assumption) (by assumption)),by assumption⟩
 . rintro σ H2 ⟨v,o,rfl,S2,iv⟩
   walk_at "gg";exact q _ _ (S1.trans S2) iv
def ee(a b:Rat)(ns:List Int)(xs:List Rat):List Rat:=(wl ns.length).map λk=>(aH a b ns (xs++[0]) (k+1)).getD ((k+1) % ns.length) 0
theorem iV(a b:Rat)(ns:List Int)(xs:List Rat):(ee a b ns xs).length=ns.length:=by simp[ee]
theorem kT{a b:Rat}{ns:List Int}{xs:List Rat}{k:Nat}(h:k<ns.length):(ee a b ns xs).getD k 0=(aH a b ns (xs++[0]) (k+1)).getD ((k+1) % ns.length) 0:=by
 unfold ee;rw[wa,wn,vk h]
 rfl
def KS(K:wb):Sp:=λvs H Q _=>∃x0 x1 x2,vs=[x0,x1,x2] /\ ∃(a b:Rat)(ns:List Int)(xs:List Rat),Is K H x0 (R a b)/\Is K H x1 (TZ ns)/\Is K H x2 (TN xs)/\cq a b ns xs /\ ∀v H',ah H H'->Is K H' v (TN (ee a b ns xs))->Q v H'
theorem Kk{K:wb}{H:Hp}{Q:VK}{E:XK}{a b:Rat}{ns:List Int}{xs:List Rat}{v w u:V}(h1:Is K H v (R a b))(h2:Is K H w (TZ ns))(h3:Is K H u (TN xs))(ok:cq a b ns xs)(q:∀v H',ah H H'->Is K H' v (TN (ee a b ns xs))->Q v H'):KS K [v,w,u] H Q E:=⟨_,_,_,rfl,a,b,ns,xs,h1,h2,h3,ok,q⟩
theorem Mv(T:Txt K mg a):aJ P w K mg base aT 6 a.gT a.G9 zh (KS K):=by
 refine T.Ab.F.ok C5 ?_ ?_;walk_at "b3"
 refine⟨_,(ao (az 3 C5.nd (au (A8 T) hr T.p_ (ae (pv 0) (ae (pv 1) (ae (pv 2) af)))))
     (ao (az 4 C5.nd (bQ (show aO _ (.builtin "len") (cN K)from dU) rfl T.z_len dC (ae (pv 1) af)))
     (av (aE (dM (show aO _ (.type "tuple") (d5 K)from ft) rfl T.z_tuple d_ (ae (d4 rfl (cE.by (N':=["turn","rows","count"]) (src:=[none,some 3,some 4]) rfl (show cU _ (aC yb).names Bz ["turn","rows","count"] [none,some 3,some 4]=true from by decide +kernel)) (jI rfl T.z_range (ae (pv 4) af)) (λ_ _ _ _ _=>(bL (i:=0) (show(["turn","rows","count"]:List Str).Nodup from by decide) rfl (Or.inl rfl))) (λ_ _ _ _ _=>dX) (λ_ _ _ _ _=>(dQ (show gz _ (cQ K)from c_) (dQ (show gz _ (cQ K)from c_) (pv 1) (aA cb (pv 0) ay) (λ_ _=>rfl)) (aA gr (aA cb (pv 0) ay) (pv 2)) (λ_ _=>rfl)))) af)))))),?_⟩
 walk_at "cl";rw[show start Bz [x0,x1,x2]=[some x0,some x1,some x2,none,none]from rfl];obtain⟨a',b',ns,xs,hr',hn',hp',ok,q⟩:=h;have hlen:=ok.len;have hfew:=ok.bX;walk_at "gg";refine Co hr' hn' hp' ok (λl H1 S1 i1=>?_);walk_at "gg";refine DS (hn'.by S1) ?_;walk_at "gg";refine zyS (n:=(ns.length:Int)) (by omega) (by omega) (o0:=none) (tl:=[some (.ref l),some (.int (ns.length:Int))]) rfl (λi v H=>Is K H v (N ((ee a' b' ns xs).getD i 0))) ?_ ?_
 . rintro D i ys o H2 hi inv
   have hi':i<ns.length:=by simpa using hi
   have i2:=i1.by inv.same;have hn0:(0:Int)<(ns.length:Int):=by omega
   walk_at "gg";refine Ms i2 (by omega) (by rw[oP];omega) (λv3 i3=>?_);rw[show((i:Int)+1).toNat=i+1 by omega,uF (by omega)]at i3;walk_at "gg";have e:((i:Int)+1) % (ns.length:Int)=(((i+1) % ns.length:Nat):Int):=by push_cast;rfl
   have hm:(i+1) % ns.length<ns.length:=qb _ (by omega);rw[e];refine ki i3 (by omega) (by rw[cJ,wH];simp;omega) (λv4 i4=>?_);rw[wE,<- kT hi']at i4;exact eU inv (by omega) eZ ⟨_,rfl⟩ (ah.refl _) i4
 . rintro D ys H2 hn S2 e2 hl2 hr2
   walk_at "gg";refine g6 (cY e2 (fk (by rw[hl2,iV];simp) hr2)) (λw H3 S3 i3=>?_);exact q w H3 (S1.trans (S2.trans S3)) i3
theorem rO{bs:List Bool}{zs:List V}(hl:zs.length=bs.length)(h:∀j z,zs[j]? = some z->z=V.bl (bs.getD j true)):zs=bs.map V.bl:=by
 refine WK (by rw[we];exact hl) λi h1 h2=>?_
 rw[h i _ (wc h1),WL,wa,wc (by omega)]
 rfl
def dg(xs:List Rat):List Rat:=[1]++xs++[0]
theorem u3(xs:List Rat):(dg xs).length=xs.length+2:=by simp[dg]
def lT(xs:List Rat):List Bool:=(wl (xs.length+1)).map λi=>decide ((dg xs).getD (i+1) 0<(dg xs).getD i 0)
def kJ(ts:List Rat):List Bool:=ts.map λx=>decide (x<1)
def d7(a b:Rat)(ns:List Int)(xs:List Rat):Bool:=(lT xs).all id&&(kJ (ee a b ns xs)).all id
theorem U6{xs:List Rat}{i:Nat}(h:i<xs.length+1):(lT xs).getD i true=decide ((dg xs).getD (i+1) 0<(dg xs).getD i 0):=by
 unfold lT;rw[wa,wn,vk h]
 rfl
theorem zvl{ts:List Rat}{i:Nat}(h:i<ts.length):(kJ ts).getD i true=decide (ts.getD i 0<1):=by
 unfold kJ;rw[wa,wn,wa,wc h]
 rfl
theorem OI{m:Nat}{xs:List Rat}(h:Cm m xs)(i:Nat):ag m ((dg xs).getD i 0):=by
 unfold dg;rcases Nat.eq_zero_or_pos i with rfl | hi
 ·exact ag.one.mono h.pos
 ·obtain⟨j,rfl⟩:∃j,i=j+1:=⟨i-1,by omega⟩
  exact h.snoc.get j
theorem Lz{a b:Rat}{ns:List Int}{xs:List Rat}(ok:cq a b ns xs){i:Nat}(hi:i<ns.length):ag 8000 ((ee a b ns xs).getD i 0):=by
 rw[kT hi];obtain⟨m,hm,hm2⟩:=ok.row (k:=i+1) (by omega);exact(hm.get _).mono hm2
def Je(K:wb):Sp:=λvs H Q _=>∃x0 x1 x2,vs=[x0,x1,x2] /\ ∃(a b:Rat)(ns:List Int)(xs:List Rat),Is K H x0 (R a b)/\Is K H x1 (TZ ns)/\Is K H x2 (TN xs)/\cq a b ns xs /\ ∀H',ah H H'->Q (.bl (d7 a b ns xs)) H'
theorem De{K:wb}{H:Hp}{Q:VK}{E:XK}{a b:Rat}{ns:List Int}{xs:List Rat}{v w u:V}(h1:Is K H v (R a b))(h2:Is K H w (TZ ns))(h3:Is K H u (TN xs))(ok:cq a b ns xs)(q:∀H',ah H H'->Q (.bl (d7 a b ns xs)) H'):Je K [v,w,u] H Q E:=⟨_,_,_,rfl,a,b,ns,xs,h1,h2,h3,ok,q⟩
theorem Be(T:Txt K mg a):aJ P w K mg base aT 7 a.Hh a.Ga s_ (Je K):=by
 refine T.p8.F.ok Kq ?_ ?_;walk_at "b3"
 refine⟨_,(ao (az 3 Kq.nd (aA cb (aA cb (e_ (ae (bW (v:=.ref a.dG) rfl T.eF rfl) af)) (dM (show aO _ (.type "list") (j6 K)from rW) rfl T.z_list lV (ae (pv 2) af))) (e_ (ae (bW (v:=.ref a.cW) rfl T.dF rfl) af))))
     (ao (bN (eD (dD (bQ (show aO _ (.builtin "all") (ng K)from yG rfl) rfl T.z_all zA (ae (d4 rfl (cE.by (N':=["upper","lower"]) (src:=[none,none]) rfl (show cU _ (aC pA).names yP ["upper","lower"] [none,none]=true from by decide +kernel)) (UL rfl T.z_zip (ae (pv 3) (ae (oB oz (pv 3) (pb ay) nN) af))) (λ_ _ _ _ _=>by exact(show PG _ _ (ly K 2 _)from lK (n:=2) rfl (gD (bL (i:=0) (show(["upper","lower"]:List Str).Nodup from by decide) rfl (Or.inl rfl)) (gD (bL (i:=1) (show(["upper","lower"]:List Str).Nodup from by decide) rfl (Or.inl rfl)) ma)))) (λ_ _ _ _ _=>dX) (λ_ _ _ _ _=>(au (gf (K:=K) (mg:=mg) (a:=a) T) hr T.fL (ae (pv 1) (ae (pv 0) af))))) af)))) (av (aE jb)) bP)
     (av (aE (bQ (show aO _ (.builtin "all") (ng K)from yG rfl) rfl T.z_all zA (ae (d4 rfl (cE.by (N':=["top"]) (src:=[none]) rfl (show cU _ (aC pA).names yP ["top"] [none]=true from by decide +kernel)) (j4 (au (Mv T) hr T.Ab (ae (pv 0) (ae (pv 1) (ae (pv 2) af))))) (λ_ _ _ _ _=>(bL (i:=0) (show(["top"]:List Str).Nodup from by decide) rfl (Or.inl rfl))) (λ_ _ _ _ _=>dX) (λ_ _ _ _ _=>(au (gf (K:=K) (mg:=mg) (a:=a) T) hr T.fL (ae (pv 0) (ae (bW (v:=.ref a.dG) rfl T.eF rfl) af))))) af)))))),?_⟩
 walk_at "cl";rw[show start yP [x0,x1,x2]=[some x0,some x1,some x2,none]from rfl];obtain⟨a',b',ns,xs,hr',hn',hp',ok,q⟩:=h;have hlen:=ok.len;have hfew:=ok.bX;obtain⟨m,hcm,hcm2⟩:=ok.cm;walk_at "gg";refine ff (by simp) (λl0 H1 n1 S1 e1=>?_);walk_at "gg";refine yo (hp'.by S1) (λl1 H2 us n2 S2 e2 t2=>?_);have hul:=t2.length;rw[we]at hul;refine mP (S2 _ _ e1) e2 (WC (iJ (by simp;omega))) (λl2 H3 n3 S3 e3=>?_);walk_at "gg";refine ff (by simp) (λl3 H4 n4 S4 e4=>?_);refine mP (S4 _ _ e3) e4 (WC (iJ (by simp;omega))) (λl5 H5 n5 S5 e5=>?_);have T5:ah H H5:=S1.trans (S2.trans (S3.trans (S4.trans S5)))
 have t5:ak K H5 ([V.ref a.dG]++us++[V.ref a.cW]) ((dg xs).map N):=by
   unfold dg;rw[w8,w8];exact(ak.append (.cons (dP 1 (T.rp _) rfl rfl) .nil) (ak.same (S3.trans (S4.trans S5)) _ _ t2)).append (.cons (dP 0 (T.d9 _) rfl rfl) .nil)
 have ir5:=hr'.by T5;have in5:=hn'.by T5;have ip5:=hp'.by T5;clear n1 n2 n3 n4 n5 S1 S2 S3 S4 S5 e1 e2 e3 e4 t2 hr' hn' hp';generalize [V.ref a.dG]++us++[V.ref a.cW]=ws at e5 t5;have hws:=t5.length;rw[we,u3]at hws;walk_at "gg";refine uY (cY e5 t5) (λl6 H6 ys n6 S6 e6 t6=>?_);rw[show(1:Int)=((1:Nat):Int)from rfl,Um _ _ (by rw[we,u3];omega),<- xk]at t6;have hys:=t6.length;rw[we,vy,u3]at hys;have e56:=S6 _ _ e5;have t56:=ak.same S6 _ _ t5;have T6:=T5.trans S6;have ir6:=ir5.by S6;have in6:=in5.by S6;have ip6:=ip5.by S6;clear ir5 in5 ip5 T5 S6 e5 t5 n6;walk_at "gg";refine zwJ (t:=false) (u:=false) (aK.of e56) (aK.of e6) (by omega) (o0:=none) (o0':=none) (tl:=[]) rfl (λi v H=>v=V.bl ((lT xs).getD i true)) (λ_ _ _ _ _ h=>h) ?_ ?_
 . rintro D i x y zs o1 o2 H7 c hx hy inv e7
   obtain⟨hi,ix⟩:=de t56 hx;obtain⟨hj,iy⟩:=de t6 hy;rw[vy,u3]at hj
   have ed:((dg xs).drop 1).getD i 0=(dg xs).getD (i+1) 0:=by
     rw[wa,qO,wa,Nat.add_comm]
   rw[ed]at iy;have S7:=inv.2.2.1;have b1:ag 8000 ((dg xs).getD i 0):=(OI hcm i).mono (by omega);have b2:ag 8000 ((dg xs).getD (i+1) 0):=(OI hcm (i+1)).mono (by omega);refine Ls (mE (.of e7) rfl ?_);have ix7:=ix.by S7;have iy7:=iy.by S7;walk_at "gg";exact yB inv (by omega) (λ_ _ _ _ _ h=>h) ⟨_,_,rfl⟩ (ah.refl _) (by rw[U6 (by omega)])
 . rintro D zs H7 hn S7 e7 hl7 hr7
   have hz:=rO (bs:=lT xs) (by unfold lT;rw[we,wU];omega) hr7;rw[hz]at e7;walk_at "gg";refine pL (.of e7) ?_;walk_at "gg"
   . rename_i z
     have ef:d7 a' b' ns xs=false:=by unfold d7;rw[z];rfl
     rw[<- ef];exact q _ (T6.trans S7)
   . rename_i z
     have ef:d7 a' b' ns xs=(kJ (ee a' b' ns xs)).all id:=by unfold d7;rw[z];rfl
     rw[ef]at q;refine Kk (ir6.by S7) (in6.by S7) (ip6.by S7) ok (λv8 H8 S8 i8=>?_);have T8:=T6.trans (S7.trans S8);obtain⟨a8,us8,rfl,hs8,t8⟩:=bM.mp i8;have hl8:=t8.length;rw[we,iV]at hl8;refine jz hs8 (o0:=none) (tl:=[]) rfl (λi v H=>v=V.bl ((kJ (ee a' b' ns xs)).getD i true)) ?_ ?_
     . rintro D i x ys' o H9 hx inv
       obtain⟨hi,ix⟩:=de t8 hx;rw[iV]at hi;have ix9:=ix.by inv.same;have b1:ag 8000 ((ee a' b' ns xs).getD i 0):=Lz ok hi;have b2:ag 8000 1:=ag.one.mono (by decide);walk_at "gg";exact eU inv (by omega) (λ_ _ _ _ _ h=>h) ⟨_,rfl⟩ (ah.refl _) (by rw[zvl (by rw[iV];exact hi)])
     . rintro D ys' H9 hn9 S9 e9 hl9 hr9
       have hz':=rO (bs:=kJ (ee a' b' ns xs)) (by unfold kJ;rw[we,iV];omega) hr9;rw[hz']at e9;walk_at "gg";refine pL (.of e9) ?_;exact q _ (T8.trans S9)
def cf(n:Nat):List Rat:=wQ n 0
theorem NQ(n i:Nat):(cf n).getD i 0=0:=by
 unfold cf;rw[wa,Qr]
 split<;>rfl
theorem nT(n:Nat):Cm 1 (cf n):=by
 refine⟨1,by decide,⟨by decide⟩,λx hx=>⟨0,?_,⟨by decide⟩⟩⟩;rw[List.eq_of_mem_replicate hx]
 rfl
def Lb(K:wb):Sp:=λvs H Q _=>∃x0 x1,vs=[x0,x1] /\ ∃(a b:Rat)(ns:List Int),Is K H x0 (R a b)/\Is K H x1 (TZ ns)/\cq a b ns (cf (ns.length-1))/\0<=ns.sum/\ns.sum<=64 /\ ∀v H',ah H H'->Is K H' v (.tuple [N (a^ns.sum.toNat),TN (cv a b ns (cf (ns.length-1)))])->Q v H'
theorem pD{K:wb}{H:Hp}{Q:VK}{E:XK}{a b:Rat}{ns:List Int}{v w:V}(h1:Is K H v (R a b))(h2:Is K H w (TZ ns))(ok:cq a b ns (cf (ns.length-1)))(h0:0<=ns.sum)(h64:ns.sum<=64)(q:∀v H',ah H H'->Is K H' v (.tuple [N (a^ns.sum.toNat),TN (cv a b ns (cf (ns.length-1)))])->Q v H'):Lb K [v,w] H Q E:=⟨_,_,rfl,a,b,ns,h1,h2,ok,h0,h64,q⟩
theorem oZ(T:Txt K mg a):aJ P w K mg base aT 7 a.Gy a.Fh sI (Lb K):=by
 refine T.lD.F.ok AW ?_ ?_;walk_at "b2"
 refine⟨_,(ao (az 2 AW.nd (ar (au (yn T) hr T.nD (ae (pv 0) (ae (bQ (show aO _ (.builtin "sum") (AG K)from Ur rfl) rfl T.z_sum OG (ae (pv 1) af)) af)))))
     (ao (az 3 AW.nd (dM (show aO _ (.type "tuple") (d5 K)from ft) rfl T.z_tuple d_ (ae (d4 rfl (cE.by (N':=["size"]) (src:=[none]) rfl (show cU _ (aC sy).names Dy ["size"] [none]=true from by decide +kernel)) (j4 (oB oz (pv 1) (pb ay) nN)) (λ_ _ _ _ _=>(bL (i:=0) (show(["size"]:List Str).Nodup from by decide) rfl (Or.inl rfl))) (λ_ _ _ _ _=>dX) (λ_ _ _ _ _=>(bW (v:=.ref a.cW) rfl T.dF rfl))) af)))
     (av (aE (br (ae (pv 2) (ae (au (IF T) hr T.zO (ae (pv 0) (ae (pv 1) (ae (pv 3) af)))) af))))))),?_⟩
 walk_at "cl";rw[show start Dy [x0,x1]=[some x0,some x1,none,none]from rfl];obtain⟨a',b',ns,hr',hn',ok,h0,h64,q⟩:=h;have hlen:=ok.len;have hfew:=ok.bX;walk_at "gg";refine Tg hn' ?_;walk_at "gg";refine Bv hr' ok.ba ok.bb h0 h64 (λv1 H1 S1 i1=>?_);walk_at "gg";rename_i v2 i2;have hn1:Is K H1 x1 (.tuple (ns.map PyData.int)):=hn'.by S1;refine zx8 hn1 ?_ (λv3 H3 S3 i3=>?_)
 . rintro ⟨e,_⟩
   have e':min 1 (ns.map PyData.int).length=0:=e;rw[we]at e';omega
 rw[zu4]at i3;obtain⟨a3,vs3,rfl,hs3,t3⟩:=bM.mp i3;have hl3:=t3.length;rw[Xo,we]at hl3;have hzl:(cf (ns.length-1)).length=ns.length-1:=vT ..;walk_at "gg";refine jz hs3 (o0:=none) (tl:=[]) rfl (λi v H=>Is K H v (N ((cf (ns.length-1)).getD i 0))) ?_ ?_
 . rintro D i x ys o H4 hx inv
   have hi:i<vs3.length:=by
     rcases wt i vs3.length with z | z
     . exact z
     . rw[wA z]at hx;cases hx
   walk_at "gg";exact eU inv (by omega) eZ ⟨_,rfl⟩ (ah.refl _) (by rw[NQ];exact dP 0 (T.d9 _) rfl rfl)
 . rintro D ys H4 hn4 S4 e4 hl4 hr4
   walk_at "gg";refine g6 (cY (xs:=cf (ns.length-1)) e4 (fk (by omega) hr4)) (λv5 H5 S5 i5=>?_);have T5:ah H1 H5:=S3.trans (S4.trans S5);walk_at "gg";refine JD ((hr'.by S1).by T5) ((hn'.by S1).by T5) i5 ok (λv6 H6 S6 i6=>?_);walk_at "gg";exact cH (by simp) (.cons (i2.by (T5.trans S6)) (.cons i6 .nil)) (λv H' S h=>q v H' (S1.trans (T5.trans (S6.trans S))) h)
def cK(a b:Rat)(ns:List Int):List Rat:=(cv a b ns (cf (ns.length-1))).map (λs=>s / (1-a^ns.sum.toNat))
theorem kO{a b:Rat}{ns:List Int}{xs:List Rat}(h:ns.length=xs.length+1):(cv a b ns xs).length=xs.length:=by
 unfold cv;rw[xh,cJ];simp
theorem Cj{a b:Rat}{ns:List Int}{xs:List Rat}(h:ns.length=xs.length+1){i:Nat}(hi:i<xs.length):(cv a b ns xs).getD i 0=(aH a b ns (xs++[0]) ns.length).getD i 0:=by
 unfold cv;have hl:(aH a b ns (xs++[0]) ns.length).length=xs.length+1:=by rw[cJ];simp
 rw[wa,wa,List.getElem?_dropLast,if_pos (by omega)]
theorem AQ{xs:List Rat}{i:Nat}(h:i<xs.length):(xs++[0]).getD i 0=xs.getD i 0:=by
 rw[wa,wa,vo h]
theorem pH{xs:List Rat} : (xs++[0]).getD xs.length 0=0:=by
 rw[wa,wW (wg _),WS]
 rfl
theorem II:∀{ns:List Int},(∀n∈ns,0<=n)->((ns.map Qz).sum:Int)=ns.sum
 | [],_=>rfl
 | n::ns,h=>by
  have h1:=II (ns:=ns) λm hm=>h m (wo _ hm)
  have h2:=h n (wu ..);rw[wM,WF,WF];omega
theorem PY{ns:List Int}(h:∀n∈ns,0<=n):upTo ns ns.length=ns.sum.toNat:=by
 have:=II h;unfold GM.upTo;rw[vW];omega
theorem znm{a b:Rat}{ns:List Int}{xs:List Rat}(h:ns.length=xs.length+1)(hn:∀n∈ns,0<=n){i:Nat}(hi:i<xs.length):(cv a b ns xs).getD i 0=a^ns.sum.toNat*xs.getD i 0+(cv a b ns (cf (ns.length-1))).getD i 0:=by
 have hz:(cf (ns.length-1)).length=xs.length:=by unfold cf;rw[vT];omega
 have hu:=PY hn;rw[Cj h hi,Cj (by omega) (by omega)];have hr:=AB a b ns (xs++[0]) (cf (ns.length-1)++[0]) (by simp[hz]) (by simp[h]) xs.length (by simp) (by rw[pH];rw[<- hz,pH]) ns.length (wg _) i (by simp;omega);rw[if_neg (by omega),show ns.length-1=xs.length by omega]at hr;rw[show ns.length-1=xs.length by omega]at hz ⊢;rw[pH,AQ hi,AQ (by omega),NQ,hu]at hr
 have hl0:(cf xs.length++[0]).getD xs.length 0=0:=by
  have:=pH (xs:=cf xs.length);rw[hz]at this;exact this
 rw[hl0]at hr
 grind
theorem sf{a b:Rat}{ns:List Int}(h:1<=ns.length):(cK a b ns).length=ns.length-1:=by
 unfold cK;rw[we,kO (by unfold cf;rw[vT];omega)];unfold cf;rw[vT]
theorem PF{a b:Rat}{ns:List Int}{i:Nat}(h:i<(cK a b ns).length):(cK a b ns).getD i 0=(cv a b ns (cf (ns.length-1))).getD i 0 / (1-a^ns.sum.toNat):=by
 unfold cK at *;rw[we]at h;rw[wa,wn,wa,wc h];rfl
theorem KO{m n:Nat}{xs:List Rat}{g:Rat}(h:Cm m xs)(bg:ag n g)(hg:g≠0):Cm (m+n) (xs.map (λs=>s / g)):=by
 obtain⟨B,h0,bB,hx⟩:=h;have hgn:=sJ hg
 have key:∀(t:Int),wp t B / g=wp (t*(g.den:Int)) (B*g.num):=by
  intro t
  conv=>lhs;rw[<- WR g]
  rw[QL,Rat.inv_divInt,QY]
 rcases Int.lt_or_gt_of_ne hgn with z | z
 ·refine⟨B * -g.num,vg h0 (by omega),bB.mul bg.t.neg,λx hxm=>?_⟩
  obtain⟨s,hs,rfl⟩:=wJ.mp hxm;obtain⟨t,rfl,bt⟩:=hx s hs;refine⟨-(t*(g.den:Int)),?_,(bt.mul bg.b).neg⟩
  show wp t B / g=_
  rw[key t,Xb,Rat.divInt_neg',Int.neg_neg]
 ·refine⟨B*g.num,vg h0 (by omega),bB.mul bg.t,λx hxm=>?_⟩
  obtain⟨s,hs,rfl⟩:=wJ.mp hxm;obtain⟨t,rfl,bt⟩:=hx s hs;exact⟨t*(g.den:Int),key t,bt.mul bg.b⟩
theorem Ef{a b:Rat}{ns:List Int}{xs:List Rat}{m:Nat}(ba:ag 10 a)(bb:ag 10 b)(hm:Cm m xs):Cm (m+2*ns.length+21*upTo ns ns.length) (cv a b ns xs):=by
 obtain⟨B,h0,h1,h2⟩:=(hm.snoc).rows ba bb (ns:=ns) ns.length (wg _);exact⟨B,h0,h1,λx hx=>h2 x (List.dropLast_subset _ hx)⟩
theorem zvK{a b:Rat}{ns:List Int}(ba:ag 10 a)(bb:ag 10 b)(h8:ns.length<=8)(hu:upTo ns ns.length<=8)(hs:ns.sum.toNat<=8)(hF:a^ns.sum.toNat≠1):Cm 268 (cK a b ns):=by
 have bF:ag 81 (a^ns.sum.toNat):=(ba.pow ns.sum.toNat).mono (by omega);have bg:ag 83 (1-a^ns.sum.toNat):=(ag.one.sub bF).mono (by decide);have hg:1-a^ns.sum.toNat≠0:=λe=>hF (by grind)
 exact(KO (Ef (ns:=ns) ba bb (nT (ns.length-1))) bg hg).mono (by omega)
theorem zpi{a b:Rat}{ns:List Int}(ok:cq a b ns (cf (ns.length-1)))(h8:ns.sum<=8)(i:Nat):ag 400 ((cv a b ns (cf (ns.length-1))).getD i 0):=((Ef ok.ba ok.bb (nT _)).get i).mono (by
 have h1:=PY (λn hn=>(ok.n0 n hn).1);have h2:=ok.bX;omega)
def KJ(K:wb):Sp:=λvs H Q _=>∃x0 x1,vs=[x0,x1] /\ ∃(a b:Rat)(ns:List Int),Is K H x0 (R a b)/\Is K H x1 (TZ ns)/\cq a b ns (cf (ns.length-1))/\0<=ns.sum/\ns.sum<=8/\(a^ns.sum.toNat=1->∀H',ah H H'->Q .bj H')/\(a^ns.sum.toNat≠1->∀v H',ah H H'->Is K H' v (TN (cK a b ns))->Q v H')
theorem MW{K:wb}{H:Hp}{Q:VK}{E:XK}{a b:Rat}{ns:List Int}{v w:V}(h1:Is K H v (R a b))(h2:Is K H w (TZ ns))(ok:cq a b ns (cf (ns.length-1)))(h0:0<=ns.sum)(h8:ns.sum<=8)(q1:a^ns.sum.toNat=1->∀H',ah H H'->Q .bj H')(q2:a^ns.sum.toNat≠1->∀v H',ah H H'->Is K H' v (TN (cK a b ns))->Q v H'):KJ K [v,w] H Q E:=⟨_,_,rfl,a,b,ns,h1,h2,ok,h0,h8,q1,q2⟩
theorem Nx(T:Txt K mg a):aJ P w K mg base aT 8 a.HA a.G5 rz (KJ K):=by
 refine T.z_.F.ok DD ?_ ?_;walk_at "b2"
 refine⟨_,(ao (az 2 DD.nd (au (oZ T) hr T.lD (ae (pv 0) (ae (pv 1) af))))
     (ao (bN (bS (show aN _ (compareOp .Eq) (cz K)from cZ hu) (ar (pv 2)) (bW (v:=.ref a.dG) rfl T.eF rfl) (a_ _)) (av (aE ik)) bP)
     (ao (az 3 DD.nd (au (rT T) hr T.nE (ae (bW (v:=.ref a.dG) rfl T.eF rfl) (ae (ar (pv 2)) af))))
     (av (aE (dM (show aO _ (.type "tuple") (d5 K)from ft) rfl T.z_tuple d_ (ae (d4 rfl (cE.by (N':=["shift","gap"]) (src:=[none,some 3]) rfl (show cU _ (aC yV).names BS ["shift","gap"] [none,some 3]=true from by decide +kernel)) (j4 (ar (pv 2))) (λ_ _ _ _ _=>(bL (i:=0) (show(["shift","gap"]:List Str).Nodup from by decide) rfl (Or.inl rfl))) (λ_ _ _ _ _=>dX) (λ_ _ _ _ _=>(au (NA (K:=K) (mg:=mg) (a:=a) T) hr T.Aa (ae (pv 0) (ae (pv 1) af))))) af))))))),?_⟩
 walk_at "cl";rw[show start BS [x0,x1]=[some x0,some x1,none,none]from rfl];obtain⟨ra,rb,ns,hr',hn',ok,h0,h8,q1,q2⟩:=h;have bF:ag 100 (ra^ns.sum.toNat):=(ok.ba.pow ns.sum.toNat).mono (by omega);walk_at "gg";refine pD hr' hn' ok h0 (by omega) (λv1 H1 S1 i1=>?_);walk_at "gg";refine aD (j:=0) i1 rfl (λv2 i2=>?_);walk_at "gg"
 . rename_i z
   exact q1 z H1 S1
 . rename_i z
   refine aD (j:=0) i1 rfl (λv3 i3=>?_);walk_at "gg";rename_i v4 H4 S4 i4;have hg:(1-ra^ns.sum.toNat)≠0:=λe=>z (by grind)
   have bg:ag 102 (1-ra^ns.sum.toNat):=(ag.one.sub bF).mono (by decide);refine aD (j:=1) (i1.by S4) rfl (λv5 i5=>?_);obtain⟨ap,us,rfl,hu,tu⟩:=bM.mp i5;refine jz (o0:=none) (tl:=[some v4]) hu rfl (λj y H'=>Is K H' y (N ((cK ra rb ns).getD j 0))) ?_ ?_
   . intro D i x ys o H5 hx inv
     obtain⟨hi,ix⟩:=de tu hx;have ix5:=ix.by inv.same;have i45:=i4.by inv.same
     have hi1000:i<=1000:=by
       have h1:=ok.len;have h2:=ok.bX;have h3:=kO (a:=ra) (b:=rb) (show ns.length=(cf (ns.length-1)).length+1 from ok.len);omega
     walk_at "gg";refine KR ix5 i45 ((zpi ok h8 i).mono (by decide)) (bg.mono (by decide)) hg (λv6 H6 S6 i6=>?_);walk_at "gg"
     have e:(cK ra rb ns).getD i 0=(cv ra rb ns (cf (ns.length-1))).getD i 0 / (1-ra^ns.sum.toNat):=by
       unfold cK;rw[wa,wn,wa,wc hi];rfl
     exact eU inv hi1000 eZ ⟨_,rfl⟩ S6 (by rw[e];exact i6)
   . intro D ys H5 hn S5 hD hl hr5
     have hl':ys.length=(cK ra rb ns).length:=by
       unfold cK;rw[hl,tu.length,we,we]
     refine g6 (cY hD (fk hl' hr5)) (λw H6 S6 i6=>?_);walk_at "gg";exact q2 z w H6 (S1.trans (S4.trans (S5.trans S6))) i6
def fG(p q:Rat)(xs ss:List Rat):List Rat:=(wl xs.length).map λi=>p*xs.getD i 0+q*ss.getD i 0
theorem lM(p q:Rat)(xs ss:List Rat):(fG p q xs ss).length=xs.length:=by unfold fG;rw[we,wU]
theorem Nm{p q:Rat}{xs ss:List Rat}{i:Nat}(h:i<xs.length):(fG p q xs ss).getD i 0=p*xs.getD i 0+q*ss.getD i 0:=by
 unfold fG;rw[wa,wn,vk h];rfl
def Py(K:wb):Sp:=λvs H Q _=>∃x0 x1 x2 x3,vs=[x0,x1,x2,x3] /\ ∃(d:PyData)(p q:Rat)(xs ss:List Rat),Is K H x0 (.tuple [d,TN ss])/\Is K H x1 (TN xs)/\Is K H x2 (N p)/\Is K H x3 (N q)/\ss.length=xs.length/\xs.length<=50/\ag 2000 p/\ag 2000 q/\(∀i,ag 6900 (xs.getD i 0))/\(∀i,ag 6900 (ss.getD i 0)) /\ ∀v H',ah H H'->Is K H' v (TN (fG p q xs ss))->Q v H'
theorem JF{K:wb}{H:Hp}{Q:VK}{E:XK}{d:PyData}{p q':Rat}{xs ss:List Rat}{v w u z:V}(h0:Is K H v (.tuple [d,TN ss]))(h1:Is K H w (TN xs))(h2:Is K H u (N p))(h3:Is K H z (N q'))(hl:ss.length=xs.length)(hf:xs.length<=50)(b1:ag 2000 p)(b2:ag 2000 q')(b3:∀i,ag 6900 (xs.getD i 0))(b4:∀i,ag 6900 (ss.getD i 0))(q:∀v H',ah H H'->Is K H' v (TN (fG p q' xs ss))->Q v H'):Py K [v,w,u,z] H Q E:=⟨_,_,_,_,rfl,d,p,q',xs,ss,h0,h1,h2,h3,hl,hf,b1,b2,b3,b4,q⟩
theorem Oc(T:Txt K mg a):aJ P w K mg base aT 3 a.Hl a.Gi uJ (Py K):=by
 refine T.zX.F.ok zsD ?_ ?_;walk_at "b4";refine⟨_,(av (aE (dM (show aO _ (.type "tuple") (d5 K)from ft) rfl T.z_tuple d_ (ae (d4 rfl (cE.by (N':=["place","shift","of_place","of_shift"]) (src:=[none,none,some 2,some 3]) rfl (show cU _ (aC yk).names yI ["place","shift","of_place","of_shift"] [none,none,some 2,some 3]=true from by decide +kernel)) (UY rfl T.z_zip (ae (pv 1) (ae (ar (pv 0)) af))) (λ_ _ _ _ _=>by exact(show PG _ _ (ly K 2 _)from lK (n:=2) rfl (gD (bL (i:=0) (show(["place","shift","of_place","of_shift"]:List Str).Nodup from by decide) rfl (Or.inl rfl)) (gD (bL (i:=1) (show(["place","shift","of_place","of_shift"]:List Str).Nodup from by decide) rfl (Or.inl rfl)) ma)))) (λ_ _ _ _ _=>dX) (λ_ _ _ _ _=>(au (gn (K:=K) (mg:=mg) (a:=a) T) hr T.fM (ae (au (jW (K:=K) (mg:=mg) (a:=a) T) hr T.jh (ae (pv 2) (ae (pv 0) af))) (ae (au (jW (K:=K) (mg:=mg) (a:=a) T) hr T.jh (ae (pv 3) (ae (pv 1) af))) af))))) af)))),?_⟩;walk_at "cl";rw[show start yI [x0,x1,x2,x3]=[some x0,some x1,some x2,some x3]from rfl];obtain⟨d,p,q',xs,ss,h0,h1,h2,h3,hl,hf,b1,b2,b3,b4,q⟩:=h;obtain⟨a1,us,rfl,hs1,t1⟩:=bM.mp h1;walk_at "gg";refine aD (j:=1) h0 rfl (λv5 i5=>?_);obtain⟨a2,ws,rfl,hs2,t2⟩:=bM.mp i5;have l1:=t1.length;have l2:=t2.length;rw[we]at l1 l2;walk_at "gg";refine zzs (t:=true) (u:=true) hs1 hs2 (by omega) (o0:=none) (o0':=none) (tl:=[some x2,some x3]) rfl (λj y H'=>Is K H' y (N ((fG p q' xs ss).getD j 0))) eZ ?_ ?_
 ·intro D j y z zs o1 o2 H7 c hy hz inv hc
  obtain⟨hj,iy⟩:=de t1 hy;obtain⟨_,iz⟩:=de t2 hz;have S7:=inv.2.2.1;have iy7:=iy.by S7;have iz7:=iz.by S7;have ip7:=h2.by S7;have iq7:=h3.by S7;have c1:=b3 j;have c2:=b4 j;have m1:ag 8999 (p*xs.getD j 0):=(b1.mul c1).mono (by decide);have m2:ag 8999 (q'*ss.getD j 0):=(b2.mul c2).mono (by decide);refine mE (.of hc) rfl ?_;walk_at "gg";rename_i v8 H8 S8 i8 v9 H9 S9 i9 v10 H10 S10 i10;rw[<- Nm hj]at i10;exact yB inv (by omega) eZ ⟨_,_,rfl⟩ (S8.trans (S9.trans S10)) i10
 ·intro D zs H7 hn S7 hD hl7 hr7
  have tz:ak K H7 zs ((fG p q' xs ss).map N):=fk (by rw[hl7,lM];omega) hr7;walk_at "gg";refine g6 (cY hD tz) (λv8 H8 S8 i8=>?_);exact q v8 H8 (S7.trans S8) i8
structure cP(ns:List Int):Prop where
 some:1<=ns.length
 bX:ns.length<=8
 each:∀n∈ns,1<=n/\n<=8
 sum:ns.sum<=8
theorem y9:∀{ns:List Int},(∀n∈ns,0<=n)->((ns.map Qz).sum:Int)=ns.sum
 | [],_=>rfl
 | n::ns,h=>by
  have h1:=y9 (ns:=ns) λm hm=>h m (wo _ hm)
  have h2:=h n (wu ..);rw[wM,WF,WF];omega
theorem cP.upTo{ns:List Int}(h:cP ns):upTo ns ns.length<=8:=by
 have h1:=y9 (ns:=ns) λn hn=>by have:=h.each n hn;omega
 have h2:=h.sum;unfold GM.upTo;rw[vW];omega
def cR(a b:Rat)(ns:List Int):List Rat:=cv a b ns (cf (ns.length-1))
def cC(a b:Rat)(ns:List Int)(n:Nat)(xs:List Rat):List Rat:=(wl xs.length).map λi=>fc (a^ns.sum.toNat) ((cR a b ns).getD i 0) n (xs.getD i 0)
theorem tf(n:Nat):(cf n).length=n:=vT ..
theorem lY{a b:Rat}{ns:List Int}(h:1<=ns.length):(cR a b ns).length=ns.length-1:=by
 unfold cR;rw[kO (by rw[tf];omega),tf]
theorem dq(a b:Rat)(ns:List Int)(n:Nat)(xs:List Rat):(cC a b ns n xs).length=xs.length:=by unfold cC;rw[we,wU]
theorem j5{a b:Rat}{ns:List Int}{n:Nat}{xs:List Rat}{i:Nat}(h:i<xs.length):(cC a b ns n xs).getD i 0=fc (a^ns.sum.toNat) ((cR a b ns).getD i 0) n (xs.getD i 0):=by
 unfold cC;rw[wa,wn,vk h];rfl
theorem BP{xs ys:List Rat}(hl:xs.length=ys.length)(h:∀i,i<xs.length->xs.getD i 0=ys.getD i 0):xs=ys:=WK hl λi h1 h2=>by
 have:=h i h1;rw[wa,wa,wc h1,wc h2]at this;exact this
theorem oY(a b:Rat)(ns:List Int)(xs:List Rat):cC a b ns 0 xs=xs:=BP (dq ..) λi hi=>by
 rw[dq]at hi;rw[j5 hi,SU]
theorem N_(a b:Rat)(ns:List Int)(m n:Nat)(xs:List Rat):cC a b ns n (cC a b ns m xs)=cC a b ns (m+n) xs:=BP (by rw[dq,dq,dq]) λi hi=>by
 rw[dq,dq]at hi;rw[j5 (by rw[dq];exact hi),j5 hi,j5 hi,zxj]
theorem DG{a b:Rat}{ns:List Int}{xs:List Rat}(h:ns.length=xs.length+1)(hn:∀n∈ns,0<=n):cC a b ns 1 xs=cv a b ns xs:=BP (by rw[dq,kO h]) λi hi=>by
 rw[dq]at hi;rw[j5 hi,zxV,znm h hn hi]
 rfl
structure dW(a b:Rat)(ns:List Int)(n:Nat):Prop where
 ok:aV a b
 sz:cP ns
 bX:n<=60
 k:(6*ns.sum.toNat+1+1)*n<=1600
theorem L6{a b:Rat}(h:aV a b):ag 6 a:=by
 have h1:=h.a0;have h2:=h.a4;have h3:=h.ad;have n0:0<=a.num:=qa.mpr (vB h1)
 have n1:a.num<=4*a.den:=by
  have:=(xb a 4).mp h2
  simpa using this
 have e:(2:Nat)^6=64:=by decide
 exact⟨⟨by rw[e];omega⟩,⟨by rw[e];omega⟩⟩
theorem iE{a b:Rat}(h:aV a b)(S:Nat):ag (6*S+1) (a^S):=(L6 h).pow S
theorem dW.le{a b:Rat}{ns:List Int}{m n:Nat}(h:dW a b ns n)(e:m<=n):dW a b ns m:=⟨h.ok,h.sz,vA e h.bX,vA (qB _ e) h.k⟩
theorem dW.pow{a b:Rat}{ns:List Int}{n:Nat}(h:dW a b ns n){i:Nat}(hi:i<=n):ag 1601 ((a^ns.sum.toNat)^i):=((iE h.ok _).pow i).mono (by
 have h1:=(h.le hi).k;have h2:=vF i (show 6*ns.sum.toNat+1<=6*ns.sum.toNat+1+1 by omega);omega)
theorem dW.aB{a b:Rat}{ns:List Int}{n:Nat}(h:dW a b ns n){i:Nat}(hi:i<=n):ag 1601 (aB (a^ns.sum.toNat) 1 i):=(Pt (iE h.ok _) i).mono (by have:=(h.le hi).k;omega)
theorem mI{a b:Rat}{ns:List Int}(h:aV a b)(k:cP ns):cq a b ns (cf (ns.length-1)):=⟨h.ba,h.bb,λn hn=>by have:=k.each n hn;omega,by rw[tf];have:=k.some;omega,by have:=k.bX;omega,⟨1,nT _,by have:=k.bX;have:=k.upTo;omega⟩⟩
theorem CA{a b:Rat}{ns:List Int}(h:aV a b)(k:cP ns):Cm 185 (cR a b ns):=(Ef (ns:=ns) h.ba h.bb (nT (ns.length-1))).mono (by have:=k.bX;have:=k.upTo;omega)
theorem sM{a b:Rat}{ns:List Int}(h:aV a b)(k:cP ns)(i:Nat):ag 185 ((cR a b ns).getD i 0):=(CA h k).get i
theorem cP.nn{ns:List Int}(k:cP ns):∀n∈ns,0<=n:=λn hn=>by have:=k.each n hn;omega
theorem cP.pos{ns:List Int}(k:cP ns):1<=ns.sum/\ns.sum<=8:=by
 refine⟨?_,k.sum⟩;have h1:=y9 k.nn;have h2:=k.some
 match ns,h2,k.each with
 | n::ns,_,he =>
  have:=he n (wu ..);rw[wM,WF]at h1;omega
theorem sx{a b:Rat}(h:aV a b){S:Nat}(hS:1<=S):a^S=1 ↔ a=1:=by
 obtain⟨m,rfl⟩:∃m,S=m+1:=⟨S-1,by omega⟩
 constructor
 ·intro e
  by_cases z:a<1
  ·have:=zsf h.a0 z m
   rw[e]at this;exact absurd this (by grind)
  ·by_cases y:a=1
   ·exact y
   ·have z3:1<a:=V4 (Vd.mp z) (vX y)
    have:=zsi z3 m;rw[e]at this;exact absurd this (by grind)
 ·intro e
  rw[e,GM.one_pow']
theorem zu1{a b:Rat}{ns:List Int}(hF:a^ns.sum.toNat≠1){i:Nat}(hi:i<(cK a b ns).length):(cK a b ns).getD i 0*(1-a^ns.sum.toNat)=(cR a b ns).getD i 0:=by
 rw[PF hi];exact Wx (λe=>hF (by grind))
theorem zzo{a b:Rat}(h:aV a b)(S n:Nat):ag ((6*S+3)*n+1) ((a^S)^n):=((iE h S).pow n).mono (by have:=vF n (show 6*S+1<=6*S+3 by omega);omega)
theorem O4{a b:Rat}(h:aV a b)(S n:Nat):ag ((6*S+3)*n+1) (aB (a^S) 1 n):=(Pt (iE h S) n).mono (by have:=vF n (show 6*S+1+1<=6*S+3 by omega);omega)
def OY(K:wb):Sp:=λvs H Q _=>∃x0 x1 x2,vs=[x0,x1,x2] /\ ∃(F:Rat)(n:Int)(xs ss:List Rat),x2=.int n/\Is K H x0 (.tuple [N F,TN ss])/\Is K H x1 (TN xs)/\0<=n/\n<=64/\ss.length=xs.length/\xs.length<=50/\ag 2000 F/\(∀i,i<=n.toNat->ag 2000 (F^i))/\(∀i,i<=n.toNat->ag 2000 (aB F 1 i))/\(∀i,ag 6900 (xs.getD i 0))/\(∀i,ag 6900 (ss.getD i 0)) /\ ∀v H',ah H H'->Is K H' v (TN ((wl xs.length).map λi=>fc F (ss.getD i 0) n.toNat (xs.getD i 0)))->Q v H'
theorem Ii{K:wb}{H:Hp}{Q:VK}{E:XK}{F:Rat}{n:Int}{xs ss:List Rat}{v w:V}(h0:Is K H v (.tuple [N F,TN ss]))(h1:Is K H w (TN xs))(n0:0<=n)(n1:n<=64)(hl:ss.length=xs.length)(hf:xs.length<=50)(b0:ag 2000 F)(b1:∀i,i<=n.toNat->ag 2000 (F^i))(b2:∀i,i<=n.toNat->ag 2000 (aB F 1 i))(b3:∀i,ag 6900 (xs.getD i 0))(b4:∀i,ag 6900 (ss.getD i 0))(q:∀v H',ah H H'->Is K H' v (TN ((wl xs.length).map λi=>fc F (ss.getD i 0) n.toNat (xs.getD i 0)))->Q v H'):OY K [v,w,.int n] H Q E:=⟨_,_,_,rfl,F,n,xs,ss,rfl,h0,h1,n0,n1,hl,hf,b0,b1,b2,b3,b4,q⟩
theorem Nz(T:Txt K mg a):aJ P w K mg base aT 4 a.Hw a.GK tJ (OY K):=by
 refine T.z6.F.ok O3 ?_ ?_;walk_at "b3"
 refine⟨_,(ao (az 3 O3.nd (au (yn T) hr T.nD (ae (br (ae (ar (pv 0)) (ae (bW (v:=.ref a.dG) rfl T.eF rfl) af))) (ae (pv 2) af))))
     (av (aE (au (Oc T) hr T.zX (ae (pv 0) (ae (pv 1) (ae (ar (pv 3)) (ae (ar (pv 3)) af)))))))),?_⟩
 walk_at "cl";rw[show start Ko [x0,x1,x2]=[some x0,some x1,some x2,none]from rfl];obtain⟨F,n,xs,ss,rfl,h0,h1,n0,n1,hl,hf,b0,b1,b2,b3,b4,q⟩:=h;walk_at "gg";refine aD (j:=0) h0 rfl (λv1 i1=>?_);walk_at "gg";refine Dl i1 (dP 1 (T.rp _) rfl rfl) (λv2 H2 S2 i2=>?_);walk_at "gg";refine Kp i2 (b0.mono (by decide)) (ag.one.mono (by decide)) n0 n1 (λi hi=>(b1 i hi).mono (by decide)) (λi hi=>(b2 i hi).mono (by decide)) (λv3 H3 S3 i3=>?_);walk_at "gg";rename_i v4 i4 v5 i5;have T3:=S2.trans S3;refine JF (h0.by T3) (h1.by T3) i4 i5 hl hf (b1 _ (wg _)) (b2 _ (wg _)) b3 b4 (λv6 H6 S6 i6=>?_);exact q v6 H6 (T3.trans S6) i6
def LM(K:wb):Sp:=λvs H Q _=>∃x0 x1 x2 x3,vs=[x0,x1,x2,x3] /\ ∃(ra rb:Rat)(ns:List Int)(xs:List Rat)(n:Int),x3=.int n/\Is K H x0 (R ra rb)/\Is K H x1 (TZ ns)/\Is K H x2 (TN xs)/\ns.length=xs.length+1/\0<=n/\dW ra rb ns n.toNat/\(∀i,ag 6900 (xs.getD i 0)) /\ ∀v H',ah H H'->Is K H' v (TN (cC ra rb ns n.toNat xs))->Q v H'
theorem zkk{K:wb}{H:Hp}{Q:VK}{E:XK}{ra rb:Rat}{ns:List Int}{xs:List Rat}{n:Int}{v w u:V}(h0:Is K H v (R ra rb))(h1:Is K H w (TZ ns))(h2:Is K H u (TN xs))(hl:ns.length=xs.length+1)(n0:0<=n)(ok:dW ra rb ns n.toNat)(b:∀i,ag 6900 (xs.getD i 0))(q:∀v H',ah H H'->Is K H' v (TN (cC ra rb ns n.toNat xs))->Q v H'):LM K [v,w,u,.int n] H Q E:=⟨_,_,_,_,rfl,ra,rb,ns,xs,n,rfl,h0,h1,h2,hl,n0,ok,b,q⟩
theorem zkg(T:Txt K mg a):aJ P w K mg base aT 8 a.EY a.EC zu (LM K):=by
 refine T.EI.F.ok TK ?_ ?_;walk_at "b4";refine⟨_,(av (aE (au (Nz T) hr T.z6 (ae (au (oZ T) hr T.lD (ae (pv 0) (ae (pv 1) af))) (ae (pv 2) (ae (pv 3) af)))))),?_⟩;walk_at "cl";rw[show start CF [x0,x1,x2,x3]=[some x0,some x1,some x2,some x3]from rfl];obtain⟨ra,rb,ns,xs,n,rfl,hr',hn',hx',hl,n0,ok,bx,q⟩:=h;have h8:=ok.sz.bX;have hp:=ok.sz.pos;have hn60:=ok.bX;walk_at "gg";refine pD hr' hn' (mI ok.ok ok.sz) (by omega) (by omega) (λv1 H1 S1 i1=>?_);walk_at "gg";refine Ii (ss:=cR ra rb ns) i1 (hx'.by S1) n0 (by omega) (by rw[lY (by omega)];omega) (by omega) (by have:=ok.sz.sum;exact(iE ok.ok _).mono (by omega)) (λi hi=>(ok.pow hi).mono (by decide)) (λi hi=>(ok.aB hi).mono (by decide)) bx (λi=>(sM ok.ok ok.sz i).mono (by decide)) (λv2 H2 S2 i2=>?_);exact q v2 H2 (S1.trans S2) i2
theorem IZ{k:Nat}{F:Rat}(h:ag k F):∀i:Nat,∃U:Int,GM.sumTo (aB F 1) i=wp U ((F.den:Int)^i)/\Bd ((k+2)*i+2) U
 | 0=>⟨0,by simp[GM.sumTo],⟨by simp⟩⟩
 | i+1=>by
  obtain⟨U,e,bU⟩:=IZ h i;obtain⟨T,e2,bT,bd⟩:=yF h i;have hd:(F.den:Int)^i≠0:=Vw (gj F);have hd1:(F.den:Int)^(i+1)≠0:=Vw (gj F);have ed:(F.den:Int)^(i+1)=(F.den:Int)^i*(F.den:Int):=Vm ..;have h1:(k+2)*(i+1)=(k+2)*i+(k+2):=V2 ..;have h2:(k+1)*i<=(k+2)*i:=vF i (by omega);refine⟨(U+T)*(F.den:Int),?_,((bU.add bT).mul h.b).mono (by omega)⟩
  symm
  refine fI hd1 ?_;have k1:=cA U hd;have k2:=cA T hd;have e3:(((U+T)*(F.den:Int):Int):Rat)=((U:Rat)+(T:Rat))*((F.den:Int):Rat):=by rw[vi,VU]
  rw[GM.sumTo,e,e2,ed,vi,e3,<- k1,<- k2]
  grind
theorem Nq{k:Nat}{F:Rat}(h:ag k F)(i:Nat):ag ((k+2)*i+2) (GM.sumTo (aB F 1) i):=by
 obtain⟨U,e,bU⟩:=IZ h i;obtain⟨T,e2,bT,bd⟩:=yF h i;rw[e];exact ag.divInt (Vw (gj F)) bU (bd.mono (by have:=vF i (show k<=k+2 by omega);omega))
theorem dW.sums{a b:Rat}{ns:List Int}{n:Nat}(h:dW a b ns n){i:Nat}(hi:i<=n):ag 1662 (GM.sumTo (GM.aB (a^ns.sum.toNat) 1) i):=(Nq (iE h.ok _) i).mono (by
 have h1:=(h.le hi).k;have h2:=(h.le hi).bX;have e:(6*ns.sum.toNat+1+2)*i=(6*ns.sum.toNat+1+1)*i+i:=by rw[<- V1]
 omega)
theorem zyz(F s x:Rat)(n:Nat):GM.sumTo (λk=>fc F s k x) n=aB F 1 n*x+GM.sumTo (aB F 1) n*s:=by
 unfold fc;rw[NB]
 have e1:GM.sumTo (λk=>F^k*x) n=aB F 1 n*x:=by
  rw[<- IY F n,V9,<- Bf];exact zr n λk _=>V9 ..
 have e2:GM.sumTo (λk=>aB F 1 k*s) n=GM.sumTo (aB F 1) n*s:=by
  rw[V9 (GM.sumTo (aB F 1) n) s,<- Bf];exact zr n λk _=>V9 ..
 rw[e1,e2]
def Kl(K:wb):Sp:=λvs H Q _=>∃x0 x1 x2,vs=[x0,x1,x2] /\ ∃(a b:Rat)(ns:List Int)(n:Int)(xs:List Rat),x2=.int n/\Is K H x0 (.tuple [N (a^ns.sum.toNat),TN (cR a b ns)])/\Is K H x1 (TN xs)/\0<=n/\dW a b ns n.toNat/\ns.length=xs.length+1/\(∀i,ag 6900 (xs.getD i 0)) /\ ∀v H',ah H H'->Is K H' v (TN (fG (aB (a^ns.sum.toNat) 1 n.toNat) (GM.sumTo (aB (a^ns.sum.toNat) 1) n.toNat) xs (cR a b ns)))->Q v H'
theorem Yh{K:wb}{H:Hp}{Q:VK}{E:XK}{a b:Rat}{ns:List Int}{n:Int}{xs:List Rat}{v w:V}(h0:Is K H v (.tuple [N (a^ns.sum.toNat),TN (cR a b ns)]))(h1:Is K H w (TN xs))(n0:0<=n)(ok:dW a b ns n.toNat)(hl:ns.length=xs.length+1)(bx:∀i,ag 6900 (xs.getD i 0))(q:∀v H',ah H H'->Is K H' v (TN (fG (aB (a^ns.sum.toNat) 1 n.toNat) (GM.sumTo (aB (a^ns.sum.toNat) 1) n.toNat) xs (cR a b ns)))->Q v H'):Kl K [v,w,.int n] H Q E:=⟨_,_,_,rfl,a,b,ns,n,xs,rfl,h0,h1,n0,ok,hl,bx,q⟩
theorem TM(T:Txt K mg a):aJ P w K mg base aT 4 a.EM a.Ep w_ (Kl K):=by
 refine T.Ex.F.ok me ?_ ?_;walk_at "b3"
 refine⟨_,(ao (az 3 me.nd (bW (v:=.ref a.cW) rfl T.dF rfl))
     (ao (az 4 me.nd (bW (v:=.ref a.cW) rfl T.dF rfl))
     (ao (f_ vf rfl (jI rfl T.z_range (ae (pv 2) af)) (bL (i:=5) me.nd rfl (Or.inl rfl)) (ao (az 4 me.nd (au (gn T) hr T.fM (ae (pv 4) (ae (pv 3) af))))
     (av (az 3 me.nd (au (gn T) hr T.fM (ae (au (jW T) hr T.jh (ae (ar (pv 0)) (ae (pv 3) af))) (ae (bW (v:=.ref a.dG) rfl T.eF rfl) af)))))))
     (av (aE (au (Oc T) hr T.zX (ae (pv 0) (ae (pv 1) (ae (pv 3) (ae (pv 4) af)))))))))),?_⟩
 walk_at "cl";rw[show start Nr [x0,x1,x2]=[some x0,some x1,some x2,none,none,none]from rfl];obtain⟨ra,rb,ns,n,xs,rfl,h0,h1,n0,ok,hl,bx,q⟩:=h;have h8:=ok.sz.bX;have h60:=ok.bX;have bF:ag 49 (ra^ns.sum.toNat):=(iE ok.ok _).mono (by have:=ok.sz.sum;omega);generalize hF:ra^ns.sum.toNat=F at *;walk_at "gg";refine kH (n:=n) (by omega) (by omega) (λi σ H'=>∃(f g:V)(o:Option V),σ = [some x0,some x1,some (.int n),some f,some g,o]/\ah H H'/\Is K H' f (N (aB F 1 i))/\Is K H' g (N (GM.sumTo (aB F 1) i))) ⟨_,_,_,rfl,ah.refl H,dP 0 (T.d9 _) rfl rfl,dP 0 (T.d9 _) rfl rfl⟩ ?_ ?_
 . rintro i σ H' hi ⟨f,g,o,rfl,S1,hf,hg⟩
   have h01:=h0.by S1;have bf:ag 1601 (aB F 1 i):=by rw[<- hF];exact ok.aB (by omega)
   have bg:ag 1662 (GM.sumTo (aB F 1) i):=by rw[<- hF];exact ok.sums (by omega)
   have bm:ag 1700 (F*aB F 1 i):=(bF.mul bf).mono (by decide);walk_at "gg";rename_i v2 H2 S2 i2;refine aD (j:=0) (h01.by S2) rfl (λv3 i3=>?_);have hf2:=hf.by S2;walk_at "gg";rename_i v4 H4 S4 i4 v5 H5 S5 i5;exact⟨_,_,_,rfl,S1.trans (S2.trans (S4.trans S5)),i5,i2.by (S4.trans S5)⟩
 . rintro σ H' ⟨f,g,o,rfl,S1,hf,hg⟩
   have bf:ag 2000 (aB F 1 n.toNat):=by rw[<- hF];exact(ok.aB (wg _)).mono (by decide)
   have bg:ag 2000 (GM.sumTo (aB F 1) n.toNat):=by rw[<- hF];exact(ok.sums (wg _)).mono (by decide)
   walk_at "gg";refine JF (h0.by S1) (h1.by S1) hf hg (by rw[lY (by omega)];omega) (by omega) bf bg bx (λi=>(sM ok.ok ok.sz i).mono (by decide)) (λv2 H2 S2 i2=>?_);exact q v2 H2 (S1.trans S2) i2
theorem J_{m j c d:Nat}{p q:Rat}{xs ss:List Rat}(hx:Cm m xs)(hs:Cm j ss)(bp:ag c p)(bq:ag d q):Cm (m+j+c+d+1) (fG p q xs ss):=by
 obtain⟨B,h0,h1,h2⟩:=hx;obtain⟨D,g0,g1,g2⟩:=hs;have hb:0<B*(p.den:Int)*(D*(q.den:Int)):=vg (vg h0 (den_pos p)) (vg g0 (den_pos q));refine⟨_,hb,((h1.mul bp.b).mul (g1.mul bq.b)).mono (by omega),λx hx=>?_⟩;obtain⟨i,hi,rfl⟩:=wJ.mp hx;have hi:=wx.mp hi;obtain⟨u,eu,bu⟩:=h2 _ (getD_mem (d:=0) hi)
 have hv:∃v:Int,ss.getD i 0=wp v D/\Bd j v:=by
  rcases wt i ss.length with z | z
  ·exact g2 _ (getD_mem z)
  ·rw[wa,wA z]
   exact⟨0,by simp,⟨by simp;exact vI j⟩⟩
 obtain⟨v,ev,bv⟩:=hv;refine⟨p.num*u*(D*(q.den:Int))+q.num*v*(B*(p.den:Int)),?_,(((bp.t.mul bu).mul (g1.mul bq.b)).add ((bq.t.mul bv).mul (h1.mul bp.b))).mono (by omega)⟩
 symm
 show wp _ _=p*xs.getD i 0+q*ss.getD i 0
 refine fI (by omega) ?_;have k1:=cA u (show B≠0 by omega);have k2:=cA v (show D≠0 by omega);have k3:=jl p;have k4:=jl q;rw[eu,ev];simp only[VU,vi];rw[<- k1,<- k2,<- k3,<- k4];generalize wp u B=y;generalize wp v D=z;generalize (B:Rat)=B';generalize (D:Rat)=D';generalize ((p.den:Int):Rat)=P';generalize ((q.den:Int):Rat)=Q'
 grind
theorem zBO{a b:Rat}{ns:List Int}{xs:List Rat}{n m:Nat}(ok:dW a b ns n)(c:Cm m xs):Cm (m+188+2*((6*ns.sum.toNat+3)*n)) (cC a b ns n xs):=(J_ c (CA ok.ok ok.sz) (zzo ok.ok _ n) (O4 ok.ok _ n)).mono (by omega)
def pZ(a b:Rat)(ns:List Int)(xs:List Rat)(n:Nat):Rat:=GM.sumTo (λk=>eO a b ns (cC a b ns k xs)) n
def gY(a b:Rat)(ns:List Int)(xs:List Rat)(n:Nat):List Rat:=(fG (aB (a^ns.sum.toNat) 1 n) (GM.sumTo (aB (a^ns.sum.toNat) 1) n) xs (cR a b ns)).map λt=>t / ((n:Int):Rat)
theorem Iu(a b:Rat)(ns:List Int)(xs:List Rat)(n:Nat):(gY a b ns xs n).length=xs.length:=by unfold gY;rw[we,lM]
theorem Cg{n:Nat}(h:1<=n):((n:Int):Rat)≠0:=λe=>by
 have:=WH.mp e;omega
theorem MX{a b:Rat}{ns:List Int}{xs:List Rat}{n i:Nat}(hi:i<xs.length):(gY a b ns xs n).getD i 0=(fG (aB (a^ns.sum.toNat) 1 n) (GM.sumTo (aB (a^ns.sum.toNat) 1) n) xs (cR a b ns)).getD i 0 / ((n:Int):Rat):=by
 unfold gY;rw[wa,wn,wc (by rw[lM];exact hi),wa,wc (by rw[lM];exact hi)]
 rfl
theorem zqK{a b:Rat}{ns:List Int}{xs:List Rat}(hl:ns.length=xs.length+1){n:Nat}(h1:1<=n):((n:Int):Rat)*eO a b ns (gY a b ns xs n)=pZ a b ns xs n:=by
 unfold pZ;refine Ob hl (λk=>cC a b ns k xs) (λk=>dq ..) n _ h1 (Iu ..) λi hi=>?_
 rw[MX hi,Wx (Cg h1),Nm hi,<- zyz];exact zr n λk _=>(j5 hi).symm
theorem Og{n:Nat}(h:n<=60):ag 6 ((n:Int):Rat):=by
 have e:(2:Nat)^6=64:=by decide
 exact⟨⟨by rw[XW,e];omega⟩,⟨by rw[XX];decide⟩⟩
theorem Up{a b:Rat}(h:aV a b)(S n:Nat):ag ((6*S+3)*n+2) (GM.sumTo (aB (a^S) 1) n):=Nq (iE h S) n
theorem HQ{a b:Rat}{ns:List Int}{xs:List Rat}{n m:Nat}(ok:dW a b ns n)(c:Cm m xs):Cm (m+189+2*((6*ns.sum.toNat+3)*n)) (fG (aB (a^ns.sum.toNat) 1 n) (GM.sumTo (aB (a^ns.sum.toNat) 1) n) xs (cR a b ns)):=(J_ c (CA ok.ok ok.sz) (O4 ok.ok _ n) (Up ok.ok _ n)).mono (by omega)
theorem ZG{a b:Rat}{ns:List Int}{xs:List Rat}{n m:Nat}(ok:dW a b ns n)(h1:1<=n)(c:Cm m xs):Cm (m+195+2*((6*ns.sum.toNat+3)*n)) (gY a b ns xs n):=by
 unfold gY;exact(KO (HQ ok c) (Og ok.bX) (Cg h1)).mono (by omega)
def Pq(K:wb):Sp:=λvs H Q _=>∃x0 x1 x2 x3,vs=[x0,x1,x2,x3] /\ ∃(ra rb:Rat)(ns:List Int)(xs:List Rat)(n:Int)(m:Nat),x3=.int n/\Is K H x0 (R ra rb)/\Is K H x1 (TZ ns)/\Is K H x2 (TN xs)/\ns.length=xs.length+1/\0<=n/\dW ra rb ns n.toNat/\Cm m xs/\m+2*((6*ns.sum.toNat+3)*n.toNat)<=6700 /\ ∀v H',ah H H'->Is K H' v (N (pZ ra rb ns xs n.toNat))->Q v H'
theorem zl6{K:wb}{H:Hp}{Q:VK}{E:XK}{ra rb:Rat}{ns:List Int}{xs:List Rat}{n:Int}{m:Nat}{v w u:V}(h0:Is K H v (R ra rb))(h1:Is K H w (TZ ns))(h2:Is K H u (TN xs))(hl:ns.length=xs.length+1)(n0:0<=n)(ok:dW ra rb ns n.toNat)(c:Cm m xs)(hm:m+2*((6*ns.sum.toNat+3)*n.toNat)<=6700)(q:∀v H',ah H H'->Is K H' v (N (pZ ra rb ns xs n.toNat))->Q v H'):Pq K [v,w,u,.int n] H Q E:=⟨_,_,_,_,rfl,ra,rb,ns,xs,n,m,rfl,h0,h1,h2,hl,n0,ok,c,hm,q⟩
theorem Sz{K:wb}{H:Hp}{Q:VK}{n:Int}(q:∀v H',ah H H'->Is K H' v (N (n:Rat))->Q v H'):kz K [.int n,.int 1] H Q:=eC (r:=(n:Rat)) (XW n).symm (by rw[XX];rfl) q
theorem YH(T:Txt K mg a):aJ P w K mg base aT 8 a.FP a.EJ uI (Pq K):=by
 refine T.EZ.F.ok CP ?_ ?_;walk_at "b4"
 refine⟨_,(ao (bN (bS mO (pv 3) ay (a_ _)) (av (aE (bW (v:=.ref a.cW) rfl T.dF rfl))) bP)
     (ao (az 4 CP.nd (br (ae (pv 3) (ae ay af))))
     (ao (az 5 CP.nd (dM (show aO _ (.type "tuple") (d5 K)from ft) rfl T.z_tuple d_ (ae (d4 rfl (cE.by (N':=["total","count"]) (src:=[none,some 4]) rfl (show cU _ (aC uG).names Bk ["total","count"] [none,some 4]=true from by decide +kernel)) (j4 (au (TM T) hr T.Ex (ae (au (oZ T) hr T.lD (ae (pv 0) (ae (pv 1) af))) (ae (pv 2) (ae (pv 3) af))))) (λ_ _ _ _ _=>(bL (i:=0) (show(["total","count"]:List Str).Nodup from by decide) rfl (Or.inl rfl))) (λ_ _ _ _ _=>dX) (λ_ _ _ _ _=>(au (NA (K:=K) (mg:=mg) (a:=a) T) hr T.Aa (ae (pv 0) (ae (pv 1) af))))) af)))
     (av (aE (au (jW T) hr T.jh (ae (pv 4) (ae (au (znj T) hr T.Fq (ae (pv 0) (ae (pv 1) (ae (pv 5) af)))) af)))))))),?_⟩
 walk_at "cl";rw[show start Bk [x0,x1,x2,x3]=[some x0,some x1,some x2,some x3,none,none]from rfl];obtain⟨ra,rb,ns,xs,n,m,rfl,hr',hn',hx',hl,n0,ok,c,hm,q⟩:=h;have h8:=ok.sz.bX;have hp:=ok.sz.pos;have h60:=ok.bX;have hu:=ok.sz.upTo;obtain⟨n,rfl⟩:∃j:Nat,n=(j:Int):=⟨n.toNat,by omega⟩;rw[wE]at q ok h60 hm;walk_at "gg"
 . rename_i z
   have hz:n=0:=by omega
   subst hz;exact q _ H (ah.refl _) (dP 0 (T.d9 _) rfl rfl)
 . rename_i z
   have h1n:1<=n:=by omega
   have cM:=ZG ok h1n c;have hml:=Iu ra rb ns xs n;have hne:=Cg h1n;have bn:ag 6 ((n:Int):Rat):=Og h60;refine Sz (λv1 H1 S1 i1=>?_);walk_at "gg";refine pD (hr'.by S1) (hn'.by S1) (mI ok.ok ok.sz) (by omega) (by omega) (λv2 H2 S2 i2=>?_);have T2:=S1.trans S2;walk_at "gg";refine Yh (a:=ra) (b:=rb) (ns:=ns) i2 (hx'.by T2) (by omega) (by rw[wE];exact ok) hl (λi=>(c.get i).mono (by omega)) (λv3 H3 S3 i3=>?_);rw[wE]at i3;have i13:=i1.by (S2.trans S3);obtain⟨a3,us,rfl,hs3,t3⟩:=bM.mp i3;have hul:=t3.length;rw[we,lM]at hul;have bw:∀i,ag 8100 ((fG (aB (ra^ns.sum.toNat) 1 n) (GM.sumTo (aB (ra^ns.sum.toNat) 1) n) xs (cR ra rb ns)).getD i 0):=λi=>((HQ ok c).get i).mono (by omega)
   walk_at "gg";refine jz hs3 (o0:=none) (tl:=[some v1]) rfl (λj y H'=>Is K H' y (N ((gY ra rb ns xs n).getD j 0))) ?_ ?_
   . intro D j x ys o H4 hx inv
     obtain⟨hj,ix⟩:=de t3 hx;rw[lM]at hj;walk_at "gg";refine KR (ix.by inv.same) (i13.by inv.same) ((bw j).mono (by decide)) (bn.mono (by decide)) hne (λv5 H5 S5 i5=>?_);rw[<- MX hj]at i5;exact eU inv (by omega) eZ ⟨_,rfl⟩ S5 i5
   . intro D ys H4 hn4 S4 e4 hl4 hr4
     have tz:ak K H4 ys ((gY ra rb ns xs n).map N):=fk (by rw[hl4,hul,hml]) hr4;walk_at "gg";refine g6 (cY e4 tz) (λv5 H5 S5 i5=>?_);have T5:=T2.trans (S3.trans (S4.trans S5));have rok:cq ra rb ns (gY ra rb ns xs n):=⟨ok.ok.ba,ok.ok.bb,λk hk=>by have:=ok.sz.each k hk;omega,by rw[hml];exact hl,by omega,⟨_,cM,by omega⟩⟩;walk_at "gg";refine SX (hr'.by T5) (hn'.by T5) i5 rok cM (by omega) (λv6 H6 S6 i6=>?_);have bt:ag 8000 (eO ra rb ns (gY ra rb ns xs n)):=(Kw rok cM (by omega) (wg _)).eX (wu ..);have i16:=i13.by (S4.trans (S5.trans S6));walk_at "gg";rename_i v7 H7 S7 i7;rw[zqK hl h1n]at i7;exact q v7 H7 (T5.trans (S6.trans S7)) i7
def mM(ts:List Rat):List Bool:=ts.map λx=>decide (1<x)
theorem zvb{ts:List Rat}{i:Nat}(h:i<ts.length):(mM ts).getD i true=decide (1<ts.getD i 0):=by
 unfold mM;rw[wa,wn,wa,wc h]
 rfl
def pV(a b:Rat)(ns:List Int):Bool:=!((mM (ee a b ns (cK a b ns))).any id)
theorem zrT{a b:Rat}{ns:List Int}(h:aV a b)(k:cP ns)(hF:a^ns.sum.toNat≠1):cq a b ns (cK a b ns):=⟨h.ba,h.bb,λn hn=>by have:=k.each n hn;omega,by rw[sf k.some];have:=k.some;omega,by have:=k.bX;omega,⟨268,zvK h.ba h.bb k.bX k.upTo (by have:=k.sum;omega) hF,by have:=k.bX;have:=k.upTo;omega⟩⟩
def MJ(K:wb):Sp:=λvs H Q _=>∃x0 x1,vs=[x0,x1] /\ ∃(a b:Rat)(ns:List Int),Is K H x0 (R a b)/\Is K H x1 (TZ ns)/\aV a b/\cP ns/\a≠1 /\ ∀H',ah H H'->Q (.bl (pV a b ns)) H'
theorem Ik{K:wb}{H:Hp}{Q:VK}{E:XK}{a b:Rat}{ns:List Int}{v w:V}(h1:Is K H v (R a b))(h2:Is K H w (TZ ns))(ok:aV a b)(sz:cP ns)(ha:a≠1)(q:∀H',ah H H'->Q (.bl (pV a b ns)) H'):MJ K [v,w] H Q E:=⟨_,_,rfl,a,b,ns,h1,h2,ok,sz,ha,q⟩
theorem Pw(T:Txt K mg a):aJ P w K mg base aT 9 a.Fm a.EF zw (MJ K):=by
 refine T.zN.F.ok zli ?_ ?_;walk_at "b2";refine⟨_,(av (aE (nk (bQ (show aO _ (.builtin "any") (Df K)from Y3 rfl) rfl T.z_any Sj (ae (d4 rfl (cE.by (N':=["top"]) (src:=[none]) rfl (show cU _ (aC sj).names tV ["top"] [none]=true from by decide +kernel)) (j4 (au (Mv T) hr T.Ab (ae (pv 0) (ae (pv 1) (ae (au (Nx T) hr T.z_ (ae (pv 0) (ae (pv 1) af))) af))))) (λ_ _ _ _ _=>(bL (i:=0) (show(["top"]:List Str).Nodup from by decide) rfl (Or.inl rfl))) (λ_ _ _ _ _=>dX) (λ_ _ _ _ _=>(au (gf (K:=K) (mg:=mg) (a:=a) T) hr T.fL (ae (bW (v:=.ref a.dG) rfl T.eF rfl) (ae (pv 0) af))))) af))))),?_⟩;walk_at "cl";rw[show start tV [x0,x1]=[some x0,some x1]from rfl];obtain⟨ra,rb,ns,hr',hn',ok,sz,ha,q⟩:=h;have h8:=sz.bX;have hps:=sz.pos;have hF:ra^ns.sum.toNat≠1:=λe=>ha ((sx ok (by omega)).mp e)
 have rok:=zrT ok sz hF;walk_at "gg";refine MW hr' hn' (mI ok sz) (by omega) (by omega) (λe=>absurd e hF) (λ_ v1 H1 S1 i1=>?_);walk_at "gg";refine Kk (hr'.by S1) (hn'.by S1) i1 rok (λv2 H2 S2 i2=>?_);obtain⟨a2,us,rfl,hs2,t2⟩:=bM.mp i2;have hl2:=t2.length;rw[we,iV]at hl2;refine jz hs2 (o0:=none) (tl:=[]) rfl (λi v H=>v=V.bl ((mM (ee ra rb ns (cK ra rb ns))).getD i true)) ?_ ?_
 ·rintro D i x ys o H3 hx inv
  obtain⟨hi,ix⟩:=de t2 hx;rw[iV]at hi;have ix3:=ix.by inv.same;have b1:=Lz rok hi;have b2:ag 1 1:=ag.one;walk_at "gg";exact eU inv (by omega) (λ_ _ _ _ _ h=>h) ⟨_,rfl⟩ (ah.refl _) (by rw[zvb (by rw[iV];exact hi)])
 ·rintro D ys H3 hn3 S3 e3 hl3 hr3
  have hz:=rO (bs:=mM (ee ra rb ns (cK ra rb ns))) (by unfold mM;rw[we,iV];omega) hr3;rw[hz]at e3;walk_at "gg";refine Ts (.of e3) ?_;walk_at "gg";exact q _ (S1.trans (S2.trans S3))
def mi(ss:List Rat):List Bool:=ss.map λs=>decide (s=0)
theorem Uy{ts:List Rat}{i:Nat}(h:i<ts.length):(mi ts).getD i true=decide (ts.getD i 0=0):=by
 unfold mi;rw[wa,wn,wa,wc h]
 rfl
def d6(a b:Rat)(ns:List Int)(xs:List Rat):Bool:=if 1<a then decide (xs=cK a b ns)else if a=1 then(mi (cR a b ns)).all id else pV a b ns
def J4(K:wb):Sp:=λvs H Q _=>∃x0 x1 x2,vs=[x0,x1,x2] /\ ∃(a b:Rat)(ns:List Int)(xs:List Rat),Is K H x0 (R a b)/\Is K H x1 (TZ ns)/\Is K H x2 (TN xs)/\aV a b/\cP ns /\ ∀H',ah H H'->Q (.bl (d6 a b ns xs)) H'
theorem znt{K:wb}{H:Hp}{Q:VK}{E:XK}{a b:Rat}{ns:List Int}{xs:List Rat}{v w u:V}(h1:Is K H v (R a b))(h2:Is K H w (TZ ns))(h3:Is K H u (TN xs))(ok:aV a b)(sz:cP ns)(q:∀H',ah H H'->Q (.bl (d6 a b ns xs)) H'):J4 K [v,w,u] H Q E:=⟨_,_,_,rfl,a,b,ns,xs,h1,h2,h3,ok,sz,q⟩
theorem znn(T:Txt K mg a):aJ P w K mg base aT 10 a.FZ a.ER yu (J4 K):=by
 refine T.Fi.F.ok M5 ?_ ?_;walk_at "b3"
 refine⟨_,(ao (az 3 M5.nd (au (O7 T) hr T.Ac (ae (pv 0) af)))
     (ao (bN (bS (show aN _ (compareOp .Eq) (cz K)from cZ hu) (pv 3) gg (a_ _)) (av (aE (fB (show aN _ (compareOp .Eq) (cz K)from cZ hu) (dM (show aO _ (.type "tuple") (d5 K)from ft) rfl T.z_tuple d_ (ae (pv 2) af)) (au (Nx T) hr T.z_ (ae (pv 0) (ae (pv 1) af))) (a_ _)))) bP)
     (ao (bN (bS (show aN _ (compareOp .Eq) (cz K)from cZ hu) (pv 3) gg (a_ _)) (av (aE (bQ (show aO _ (.builtin "all") (ng K)from yG rfl) rfl T.z_all zA (ae (d4 rfl (cE.by (N':=["shift"]) (src:=[none]) rfl (show cU _ (aC rR).names DQ ["shift"] [none]=true from by decide +kernel)) (j4 (ar (au (oZ T) hr T.lD (ae (pv 0) (ae (pv 1) af))))) (λ_ _ _ _ _=>(bL (i:=0) (show(["shift"]:List Str).Nodup from by decide) rfl (Or.inl rfl))) (λ_ _ _ _ _=>dX) (λ_ _ _ _ _=>(fB (show aN _ (compareOp .Eq) (cz K)from cZ hu) (pv 0) (bW (v:=.ref a.cW) rfl T.dF rfl) (a_ _)))) af)))) bP)
     (av (aE (au (Pw T) hr T.zN (ae (pv 0) (ae (pv 1) af)))))))),?_⟩
 walk_at "cl";rw[show start DQ [x0,x1,x2]=[some x0,some x1,some x2,none]from rfl];obtain⟨ra,rb,ns,xs,hr',hn',hx',ok,sz,q⟩:=h;have h8:=sz.bX;have h1:=sz.some;have hps:=sz.pos;walk_at "gg";refine Pu hr' (ok.ba.mono (by decide)) ?_;unfold nR;unfold d6 at q
 by_cases z1:1<ra
 . rw[if_pos z1]at q ⊢
   have hF:ra^ns.sum.toNat≠1:=λe=>absurd ((sx ok (by omega)).mp e) (by grind)
   walk_at "gg";refine gx _ _ true (by rw[wN];decide) ?_;walk_at "gg";refine Rg hx' ?_;walk_at "gg";refine MW hr' hn' (mI ok sz) (by omega) (by omega) (λe=>absurd e hF) (λ_ v1 H1 S1 i1=>?_);walk_at "gg";refine sV (hx'.by S1) i1 ?_;exact q _ S1
 . rw[if_neg z1]at q ⊢
   by_cases z2:ra=1
   . rw[if_pos z2]at q ⊢
     walk_at "gg";refine gx _ _ false (by rw[wN];decide) ?_;walk_at "gg";refine gx _ _ true (by rw[wN];decide) ?_;walk_at "gg";refine pD hr' hn' (mI ok sz) (by omega) (by omega) (λv1 H1 S1 i1=>?_);walk_at "gg";refine aD (j:=1) i1 rfl (λv2 i2=>?_);obtain⟨a2,us,rfl,hs2,t2⟩:=bM.mp i2;have hl2:=t2.length;rw[we]at hl2;have hsl:(cR ra rb ns).length=ns.length-1:=lY h1;have t2:ak K H1 us ((cR ra rb ns).map N):=t2;have hl2:us.length=(cR ra rb ns).length:=hl2;refine jz hs2 (o0:=none) (tl:=[]) rfl (λi v H=>v=V.bl ((mi (cR ra rb ns)).getD i true)) ?_ ?_
     . rintro D i x ys o H3 hx inv
       obtain⟨hi,ix⟩:=de t2 hx;have ix3:=ix.by inv.same;walk_at "gg";exact eU inv (by omega) (λ_ _ _ _ _ h=>h) ⟨_,rfl⟩ (ah.refl _) (by rw[Uy hi])
     . rintro D ys H3 hn3 S3 e3 hl3 hr3
       have hz:=rO (bs:=mi (cR ra rb ns)) (by unfold mi;rw[we];omega) hr3;rw[hz]at e3;walk_at "gg";refine pL (.of e3) ?_;exact q _ (S1.trans S3)
   . rw[if_neg z2]at q ⊢
     walk_at "gg";refine gx _ _ false (by rw[wN];decide) ?_;walk_at "gg";refine gx _ _ false (by rw[wN];decide) ?_;walk_at "gg";exact Ik hr' hn' ok sz z2 q
theorem zzf{a b:Rat}{ns:List Int}{xs:List Rat}(hF:a^ns.sum.toNat≠1)(hl:ns.length=xs.length+1)(k:Nat):cC a b ns k xs=fh ((a^ns.sum.toNat)^k) (cK a b ns) xs:=by
 have hs:(cK a b ns).length=xs.length:=by rw[sf (by omega)];omega
 refine ke (by rw[dq,nA hs,hs]) λi hi=>?_
 rw[dq]at hi;rw[kr hs (by omega),j5 hi,SY (zu1 hF (by omega))]
theorem uT{a b:Rat}{ns:List Int}{xs:List Rat} : d7 a b ns xs=true ↔ (∀i,i<xs.length+1->(dg xs).getD (i+1) 0<(dg xs).getD i 0) /\ ∀i,i<ns.length->(ee a b ns xs).getD i 0<1:=by
 unfold d7;rw[wI,Wd,Wd]
 constructor
 ·rintro ⟨h1,h2⟩
  refine⟨λi hi=>?_,λi hi=>?_⟩
  ·have:=h1 _ (wJ.mpr ⟨i,wx.mpr hi,rfl⟩)
   exact of_decide_eq_true this
  ·have:=h2 _ (wJ.mpr ⟨_,getD_mem (d:=0) (show i<(ee a b ns xs).length by rw[iV];exact hi),rfl⟩)
   exact of_decide_eq_true this
 ·rintro ⟨h1,h2⟩
  refine⟨λx hx=>?_,λx hx=>?_⟩
  ·obtain⟨i,hi,rfl⟩:=wJ.mp hx
   exact decide_eq_true (h1 i (wx.mp hi))
  ·obtain⟨t,ht,rfl⟩:=wJ.mp hx
   obtain⟨i,hi,rfl⟩:=wJ.mp ht;have:=h2 i (wx.mp hi);rw[kT (wx.mp hi)]at this;exact decide_eq_true this
theorem JN:∀l:List Rat,(∀i,i+1<l.length->l.getD (i+1) 0<l.getD i 0)->l.Pairwise (· > ·)
 | [],_=>.nil
 | x::l,h=>by
  have h':∀i,i+1<l.length->l.getD (i+1) 0<l.getD i 0:=λi hi=>by
   have:=h (i+1) (by simp;omega)
   simpa using this
  have hd:∀j,j<l.length->l.getD j 0<x:=λj=>by
   induction j with
   | zero=>intro hj;have:=h 0 (by simp;omega);simpa using this
   | succ j ih=>intro hj;have h3:=h' j hj;have h4:=ih (by omega);grind
  refine Wy.mpr ⟨λy hy=>?_,JN l h'⟩;obtain⟨j,hj,e⟩:=wK hy;have:=hd j hj;rw[wa,wc hj]at this
  show y<x
  rw[<- e];exact this
theorem zwH{l:List Rat}(h:l.Pairwise (· > ·)){i:Nat}(hi:i+1<l.length):l.getD (i+1) 0<l.getD i 0:=by
 rw[wa,wa,wc hi,wc (show i<l.length by omega)];exact(vE.mp h) i (i+1) (by omega) hi (by omega)
theorem ny(xs:List Rat)(i:Nat):(dg xs).getD (i+1) 0=(xs++[0]).getD i 0:=by
 unfold dg;rw[W4]
 rfl
theorem KZ{xs:List Rat}(h:∀i,i<xs.length+1->(dg xs).getD (i+1) 0<(dg xs).getD i 0):gH (xs++[0])/\(xs++[0]).getD 0 0<1:=by
 have pw:(xs++[0]).Pairwise (· > ·):=JN _ λi hi=>by
  have:=h (i+1) (by simp at hi;omega);rw[ny,ny]at this;exact this
 refine⟨⟨pw,λy hy=>?_⟩,?_⟩
 ·rcases vM.mp hy with z | z
  ·exact vB ((VN.mp pw).2.2 y z 0 (wO.mpr rfl))
  ·rw[wO.mp z];exact Wn
 ·have:=h 0 (by omega)
  rw[ny]at this;exact this
theorem Bo{xs:List Rat}(pw:(xs++[0]).Pairwise (· > ·))(one:(xs++[0]).getD 0 0<1):∀i,i<xs.length+1->(dg xs).getD (i+1) 0<(dg xs).getD i 0
 | 0,_=>by rw[ny];exact one
 | i+1,hi=>by rw[ny,ny];exact zwH pw (by simp;omega)
theorem DC{a b:Rat}{ns:List Int}{xs:List Rat}(h:ns.length=xs.length+1):cv a b ns xs++[0]=aH a b ns (xs++[0]) ns.length:=by
 have hl:=kO (a:=a) (b:=b) h;have hr:(aH a b ns (xs++[0]) ns.length).length=xs.length+1:=by rw[cJ];simp
 refine ke (by rw[hr,wH,hl];rfl) λi hi=>?_
 rw[wH,hl]at hi;have hi:i<xs.length+1:=hi;rcases wt i xs.length with z | z
 ·rw[AQ (by omega),Cj h z]
 ·have e:i=xs.length:=by omega
  have e2:(cv a b ns xs++[0]).getD i 0=0:=by rw[e,<- hl];exact pH
  rw[e2,e,h,aH,fA _ _ _ _ _ _ (by rw[cJ];simp),if_pos rfl]
theorem Ib{a b:Rat}(a0:0<a)(b0:0<=b){ns:List Int}{row:List Rat}(F:gH row)(one:row.getD 0 0<1)(gT:∀t,t<row.length->du a b ns row t<1):∀i,i<=row.length->gH (turned a b ns row i)
 | 0,_=>F
 | i+1,hi=>by
  have ih:=Ib a0 b0 F one gT i (by omega)
  have oi:(aH a b ns row i).getD i 0<1:=by
   cases i with
   | zero=>exact one
   | succ j =>
    have:=gT j (by omega);unfold du at this;rw[Qn (by omega)]at this;exact this
  obtain⟨x,l,ex⟩:∃x l,turned a b ns row i=x::l:=by
   cases e:turned a b ns row i with
   | nil =>
    have:=AS a b ns row (by omega) i;rw[e]at this;simp at this;omega
   | cons x l=>exact⟨x,l,rfl⟩
  have hx:x=(aH a b ns row i).getD i 0:=by
   have:=B5 a b ns row (show i<row.length by omega);rw[ex]at this;exact this
  show gH (kD a b (ns.getD i 0).toNat (turned a b ns row i))
  rw[ex]at ih ⊢;exact ih.step a0 b0 (by rw[hx];exact oi)
theorem U7{a b:Rat}{ns:List Int}{xs:List Rat}(ok:aV a b)(hn:ns.length=xs.length+1)(f:d7 a b ns xs=true):∀i,i<(cv a b ns xs).length+1->(dg (cv a b ns xs)).getD (i+1) 0<(dg (cv a b ns xs)).getD i 0:=by
 obtain⟨h1,h2⟩:=uT.mp f;obtain⟨F,one⟩:=KZ h1;have hl:(xs++[0]).length=ns.length:=by simp[hn]
 have gT:∀t,t<(xs++[0]).length->du a b ns (xs++[0]) t<1:=λt ht=>by
  have:=h2 t (by omega);rw[kT (by omega)]at this;unfold du;rw[hl];exact this
 have Fl:=Ib ok.a0 ok.b0 F one gT (xs++[0]).length (wg _);rw[hl,Sw a b ns _ hl.symm,<- DC hn]at Fl;have t:=gT (ns.length-1) (by omega);unfold du at t;rw[hl,show ns.length-1+1=ns.length by omega,xC,<- DC hn]at t;exact Bo Fl.pw t
theorem zxI(c:Rat)(xs:List Rat):fh c xs xs=xs:=ke (nA rfl) λi hi=>by
 rw[nA rfl]at hi;rw[kr rfl hi]
 grind
def cw(a b:Rat)(ns:List Int)(xs:List Rat)(k:Nat):Bool:=d7 a b ns (cC a b ns k xs)
theorem zb{a b:Rat}{ns:List Int}(ok:aV a b)(sz:cP ns){k:Nat}(hk:k<=31):dW a b ns k:=⟨ok,sz,by omega,by
 have h1:=sz.sum;have h2:(6*ns.sum.toNat+1+1)*k<=50*k:=vF k (by omega);omega⟩
theorem My{a b:Rat}{ns:List Int}{xs:List Rat}{m:Nat}(ok:aV a b)(sz:cP ns)(c:Cm m xs){k:Nat}(hk:k<=31):Cm (m+188+102*k) (cC a b ns k xs):=(zBO (zb ok sz hk) c).mono (by
 have h1:=sz.sum;have h2:(6*ns.sum.toNat+3)*k<=51*k:=vF k (by omega);omega)
theorem Kx{a b:Rat}{ns:List Int}{xs:List Rat}{m:Nat}(ok:aV a b)(sz:cP ns)(hn:ns.length=xs.length+1)(c:Cm m xs)(hm:m<=3700){k:Nat}(hk:k<=30):cq a b ns (cC a b ns k xs):=⟨ok.ba,ok.bb,λn hn=>by have:=sz.each n hn;omega,by rw[dq];exact hn,by have:=sz.bX;omega,⟨_,My ok sz c (by omega),by have:=sz.bX;have:=sz.upTo;omega⟩⟩
def Bx(K:wb)(a:Ad):Sp:=λvs H Q E=>∃x0 x1 x2,vs=[x0,x1,x2] /\ ∃(ra rb:Rat)(ns:List Int)(xs:List Rat),Is K H x0 (R ra rb)/\Is K H x1 (TZ ns)/\Is K H x2 (TN xs)/\aV ra rb/\cP ns/\ns.length=xs.length+1/\cq ra rb ns xs/\(d6 ra rb ns xs=false->∃n:Nat,n<=30/\(n=30\/cw ra rb ns xs n=false)/\(∀k,k<=n->cq ra rb ns (cC ra rb ns k xs))/\(∀k,k<n->∀j,ag 6900 ((cC ra rb ns k xs).getD j 0))) /\
 (cw ra rb ns xs 0=false->∀H',ah H H'->Q (.int 0) H') /\
 (cw ra rb ns xs 0=true->d6 ra rb ns xs=true->∀H',ah H H'->Q .bj H') /\
 (∀c:Nat,1<=c->c<=30->d6 ra rb ns xs=false->(∀k,k<c->cw ra rb ns xs k=true)->cw ra rb ns xs c=false->∀H',ah H H'->Q (.int (c:Int)) H') /\
 (d6 ra rb ns xs=false->(∀k,k<=30->cw ra rb ns xs k=true)->∀H',ah H H'->E (.ref a.fX) none H')
theorem zlf{K:wb}{a:Ad}{H:Hp}{Q:VK}{E:XK}{ra rb:Rat}{ns:List Int}{xs:List Rat}{v w u:V}(h1:Is K H v (R ra rb))(h2:Is K H w (TZ ns))(h3:Is K H u (TN xs))(ok:aV ra rb)(sz:cP ns)(hn:ns.length=xs.length+1)(r0:cq ra rb ns xs)(hb:d6 ra rb ns xs=false->∃n:Nat,n<=30/\(n=30\/cw ra rb ns xs n=false)/\(∀k,k<=n->cq ra rb ns (cC ra rb ns k xs))/\(∀k,k<n->∀j,ag 6900 ((cC ra rb ns k xs).getD j 0)))
  (q0:cw ra rb ns xs 0=false->∀H',ah H H'->Q (.int 0) H')
  (q1:cw ra rb ns xs 0=true->d6 ra rb ns xs=true->∀H',ah H H'->Q .bj H')
  (q2:∀c:Nat,1<=c->c<=30->d6 ra rb ns xs=false->(∀k,k<c->cw ra rb ns xs k=true)->cw ra rb ns xs c=false->∀H',ah H H'->Q (.int (c:Int)) H')
  (q3:d6 ra rb ns xs=false->(∀k,k<=30->cw ra rb ns xs k=true)->∀H',ah H H'->E (.ref a.fX) none H'):Bx K a [v,w,u] H Q E:=⟨_,_,_,rfl,ra,rb,ns,xs,h1,h2,h3,ok,sz,hn,r0,hb,q0,q1,q2,q3⟩
theorem zmy{K:wb}{a:Ad}{H:Hp}{Q:VK}{E:XK}{ra rb:Rat}{ns:List Int}{xs:List Rat}{m:Nat}{v w u:V}(h1:Is K H v (R ra rb))(h2:Is K H w (TZ ns))(h3:Is K H u (TN xs))(ok:aV ra rb)(sz:cP ns)(hn:ns.length=xs.length+1)(c:Cm m xs)(hm:m<=3700)
  (q0:cw ra rb ns xs 0=false->∀H',ah H H'->Q (.int 0) H')
  (q1:cw ra rb ns xs 0=true->d6 ra rb ns xs=true->∀H',ah H H'->Q .bj H')
  (q2:∀c:Nat,1<=c->c<=30->d6 ra rb ns xs=false->(∀k,k<c->cw ra rb ns xs k=true)->cw ra rb ns xs c=false->∀H',ah H H'->Q (.int (c:Int)) H')
  (q3:d6 ra rb ns xs=false->(∀k,k<=30->cw ra rb ns xs k=true)->∀H',ah H H'->E (.ref a.fX) none H'):Bx K a [v,w,u] H Q E :=
 zlf h1 h2 h3 ok sz hn (by have:=Kx ok sz hn c hm (k:=0) (by decide);rw[oY]at this;exact this) (λ_=>⟨30,wg 30,.inl rfl,λk hk=>Kx ok sz hn c hm hk,λk hk j=>((My ok sz c (k:=k) (by omega)).get j).mono (by omega)⟩) q0 q1 q2 q3
theorem zlF(T:Txt K mg a):aJ P w K mg base (eJ P w) 11 a.FV a.EL yx (Bx K a):=by
 refine T.EV.F.rP pe ?_ ?_;walk_at "b3"
 refine⟨_,(ao (bN (eD (dD (au (Be T) hr T.p8 (ae (pv 0) (ae (pv 1) (ae (pv 2) af)))))) (av (aE ay)) bP)
     (ao (bN (dD (au (znn T) hr T.Fi (ae (pv 0) (ae (pv 1) (ae (pv 2) af))))) (av (aE ik)) bP)
     (ao (az 3 pe.nd (au (oZ T) hr T.lD (ae (pv 0) (ae (pv 1) af))))
     (ao (az 4 pe.nd (pv 2))
     (ao (f_ x6 rfl (zvt rfl T.z_range (ae ay (ae (aA cb (oH rfl T.RC) ay) af))) (bL (i:=5) pe.nd rfl (Or.inl rfl)) (ao (az 4 pe.nd (au (Nz T) hr T.z6 (ae (pv 3) (ae (pv 4) (ae ay af)))))
     (av (bN (eD (dD (au (Be T) hr T.p8 (ae (pv 0) (ae (pv 1) (ae (pv 4) af)))))) (av (aE (pv 5))) bP))))
     (av (PK T.RH rfl rfl T.GB Jf (ae gg af)))))))),?_⟩
 walk_at "cl";rw[show start MO [x0,x1,x2]=[some x0,some x1,some x2,none,none,none]from rfl];obtain⟨ra,rb,ns,xs,hr',hn',hx',ok,sz,hn,r0,hb,q0,q1,q2,q3⟩:=h;have h8:=sz.bX;have h1:=sz.some;have hps:=sz.pos;have e0:cw ra rb ns xs 0=d7 ra rb ns xs:=by unfold cw;rw[oY]
 walk_at "gg";refine De hr' hn' hx' r0 (λH1 S1=>?_);walk_at "gg"
 . rename_i z
   exact q0 (by rw[e0];exact z) H1 S1
 . rename_i z
   have hr1:=hr'.by S1;have hn1:=hn'.by S1;have hx1:=hx'.by S1;refine znt hr1 hn1 hx1 ok sz (λH2 S2=>?_);walk_at "gg"
   . rename_i y
     exact q1 (by rw[e0];exact z) y H2 (S1.trans S2)
   . rename_i y
     have y:d6 ra rb ns xs=false:=by first | exact y | exact Xs _ ▸ y
     obtain⟨n,n30,stop,rd,bd⟩:=hb y;refine pD (hr1.by S2) (hn1.by S2) (mI ok sz) (by omega) (by omega) (λv3 H3 S3 i3=>?_);have T3:ah H H3:=S1.trans (S2.trans S3);have hr3:=hr'.by T3;have hn3:=hn'.by T3;have hx3:=hx'.by T3;clear hr1 hn1 hx1 S1 S2 S3;walk_at "gg";refine Zf ?_;walk_at "gg";refine Zs (lo:=1) (hi:=31) (by decide) (by decide) (by decide) (by decide) (λi σ H'=>∃(v:V)(o:Option V),σ = [some x0,some x1,some x2,some v3,some v,o]/\ah H3 H'/\Is K H' v (TN (cC ra rb ns i xs)) /\ ∀k,k<=i->cw ra rb ns xs k=true) ⟨_,_,rfl,ah.refl _,by rw[oY];exact hx3,λk hk=>by rw[show k=0 by omega,e0];exact z⟩ ?_ ?_
     . rintro i σ H4 hi ⟨v,o,rfl,S4,iv,fr⟩
       have hi:i<30:=hi;have i34:=i3.by S4
       have hin:i<n:=by
         rcases stop with e | e
         . omega
         . rcases wt i n with u | u
           . exact u
           . rw[fr n u]at e;cases e
       walk_at "gg";refine Ii (ss:=cR ra rb ns) i34 iv (by decide) (by decide) (by rw[lY h1,dq];omega) (by rw[dq];omega) ((iE ok _).mono (by have:=sz.sum;omega)) (λj hj=>((zb ok sz (k:=1) (by decide)).pow hj).mono (by decide)) (λj hj=>((zb ok sz (k:=1) (by decide)).aB hj).mono (by decide)) (λj=>bd i hin j) (λj=>(sM ok sz j).mono (by decide)) (λv5 H5 S5 i5=>?_);have i5:Is K H5 v5 (TN (cC ra rb ns 1 (cC ra rb ns i xs))):=i5;rw[N_]at i5;have T5:=S4.trans S5;walk_at "gg";refine De (hr3.by T5) (hn3.by T5) i5 (rd (i+1) (by omega)) (λH6 S6=>?_);have T6:=T5.trans S6;walk_at "gg"
       . rename_i w
         have q:=q2 (i+1) (by omega) (by omega) y (λk hk=>fr k (by omega)) (by unfold cw;exact w) H6 (T3.trans T6);rw[show((i+1:Nat):Int)=1+(i:Int) by omega]at q;exact q
       . rename_i w
         refine⟨_,_,rfl,T6,i5.by S6,λk hk=>?_⟩;rcases wt k (i+1)with u | u
         . exact fr k (by omega)
         . have:k=i+1:=by omega
           subst this;unfold cw
           first | exact w | exact Bool.not_eq_false _ ▸ w
     . rintro σ H4 ⟨v,o,rfl,S4,iv,fr⟩
       walk_at "gg";exact⟨by simp;decide,q3 y (λk hk=>fr k hk) H4 (T3.trans S4)⟩
theorem u_{a b:Rat}(ok:aV a b){xs ps:List Rat}{fl:Nat->Nat}{ns:List Int}(L:fq xs (ps++[0]) fl ns)(hn:ns.length=ps.length+1)(f:d7 a b ns ps=true) :
   fq (aj a b xs ns.length) (cv a b ns ps++[0]) fl ns/\(∀t,t<ns.length->ck a b (aj a b xs t)=[aZ xs.length fl t])/\aQ a b xs ns.length=eO a b ns ps:=by
 have hl:(ps++[0]).length=ns.length:=by simp[hn]
 have gT:∀t,t<(ps++[0]).length->du a b ns (ps++[0]) t<1:=λt ht=>by
   have:=(uT.mp f).2 t (by omega);rw[kT (by omega)]at this;unfold du;rw[hl];exact this
 obtain⟨P,F,_,W⟩:=uO ok.a0 ok.b0 L _ (wg _) gT;have ht:=Pl ok.a0 ok.b0 L _ (wg _) gT;rw[hl]at P W ht;rw[<- DC hn]at P;have st:=KZ (U7 ok hn f);have hbl:=kO (a:=a) (b:=b) hn;have hbl2:(cv a b ns ps++[0]).length=(ps++[0]).length:=by simp[hbl]
 have hpl:=bR a b xs ns.length;refine⟨⟨P,st.1,st.2,by rw[hbl2];exact L.len,λc hc=>?_,λc hc=>?_⟩,W,?_⟩
 . rw[hpl];exact L.some c (by omega)
 . rw[hpl];exact L.size c (by omega)
 . rw[ht];rfl
theorem uR{a b:Rat}(ok:aV a b){xs ps:List Rat}{fl:Nat->Nat}{ns:List Int}(L:fq xs (ps++[0]) fl ns)(hn:ns.length=ps.length+1)(n0:∀n∈ns,0<=n):∀k,(∀j,j<k->cw a b ns ps j=true) ->
   fq (aj a b xs (k*ns.length)) (cC a b ns k ps++[0]) fl ns/\aQ a b xs (k*ns.length)=pZ a b ns ps k
 | 0,_=>by
   rw[Qp,oY];exact⟨L,rfl⟩
 | k+1,h=>by
   obtain⟨Lk,Hk⟩:=uR ok L hn n0 k λj hj=>h j (by omega)
   have hl:ns.length=(cC a b ns k ps).length+1:=by rw[dq];exact hn
   obtain⟨L1,_,H1⟩:=u_ ok Lk hl (h k (by omega));rw[eT,<- DG hl n0,N_]at L1;have e:(k+1)*ns.length=k*ns.length+ns.length:=V1 ..;rw[e];refine⟨L1,?_⟩;rw[<- mB,Hk,H1]
   rfl
theorem JW{a b:Rat}(a0:0<a)(b0:0<=b){xs row:List Rat}{fl:Nat->Nat}{ns:List Int}(L:fq xs row fl ns):∀n,n<=row.length->(¬ ∀t,t<n->du a b ns row t<1)->∃t,t<n/\1<(ck a b (aj a b xs t)).length
 | 0,_,z=>absurd (λt ht=>by omega) z
 | n+1,hn,z=>by
  by_cases y:∀t,t<n->du a b ns row t<1
  ·refine⟨n,by omega,U5 a0 b0 L (by omega) y (λu=>z λt ht=>?_)⟩
   rcases wt t n with k | k
   ·exact y t k
   ·have:t=n:=by omega
    rw[this];exact u
  ·obtain⟨t,h1,h2⟩:=JW a0 b0 L n (by omega) y
   exact⟨t,by omega,h2⟩
theorem Ul{a b:Rat}(ok:aV a b){xs ps:List Rat}{fl:Nat->Nat}{ns:List Int}(L:fq xs (ps++[0]) fl ns)(hn:ns.length=ps.length+1)(f:d7 a b ns ps=false):∃t,t<ns.length/\1<(ck a b (aj a b xs t)).length:=by
 have hl:(ps++[0]).length=ns.length:=by simp[hn]
 refine JW ok.a0 ok.b0 L ns.length (by omega) λz=>?_
 have:d7 a b ns ps=true:=uT.mpr ⟨Bo L.lF.pw L.one,λi hi=>by
  have:=z i hi;unfold du at this;rw[hl]at this;rw[kT hi];exact this⟩
 rw[f]at this;cases this
theorem BV{xs row:List Rat}{fl:Nat->Nat}{ns:List Int}{n:Nat}(L:fq xs row fl ns)(hn:xs.length=n):((wl n).map λw=>row.getD (fl w) 0)=xs:=by
 refine ke (by simp[hn]) λw hw=>?_
 have hw:w<n:=by simpa using hw
 rw[L.pl.at' w (by omega),wa,wn,vk hw]
 rfl
theorem HN{xs:List Rat}(h1:1<=xs.length)(h8:xs.length<=8):cP (aY xs):=by
 have hs:=sN xs;have hv:=kf xs;have hp:=pN h1;refine⟨by omega,by omega,λn hn=>?_,?_⟩
 ·have h2:=Yl xs n hn
  refine⟨?_,by omega⟩;obtain⟨v,hv,rfl⟩:=wJ.mp hn;have hm:=jq hv;obtain⟨j,hj,e⟩:=wK hm;have:j∈fb xs v:=wP.mpr ⟨wx.mpr hj,decide_eq_true (by rw[wa,wc hj];exact e)⟩;have:=VA this;omega
 ·have h3:=Om xs
  have:=y9 (rQ xs);omega
def jM(a b:Rat)(xs:List Rat)(r:Nat):Prop:=∀k,k<r->cw a b (aY xs) (bC xs) k=true
structure fu(a b:Rat)(xs:List Rat):Prop where
 ok:aV a b
 h1:1<=xs.length
 h8:xs.length<=8
 hp:cV xs
 h0:0∈xs
 cm:Cm 3600 xs
def Lc(K:wb):Sp:=λvs H Q _=>∃x0 x1,vs=[x0,x1] /\ ∃(a b:Rat)(xs:List Rat)(r:Nat),x1=.int (r:Int)/\Is K H x0 (bD a b xs)/\fu a b xs/\r<=30/\jM a b xs r /\ ∀v H',ah H H'->Is K H' v (BD a b xs (r*(ai xs).length))->Q v H'
theorem Eh{K:wb}{H:Hp}{Q:VK}{E:XK}{a b:Rat}{xs:List Rat}{r:Nat}{v:V}(h:Is K H v (bD a b xs))(ok:fu a b xs)(h30:r<=30)(f:jM a b xs r)(q:∀v H',ah H H'->Is K H' v (BD a b xs (r*(ai xs).length))->Q v H'):Lc K [v,.int (r:Int)] H Q E:=⟨_,_,rfl,a,b,xs,r,rfl,h,ok,h30,f,q⟩
theorem BB{K:wb}{H:Hp} : ∀{xs:List Rat}{us:List V},ak K H us (xs.map N)->∃cs:List Addr,us=cs.map V.ref
 | [],us,h=>⟨[],fR.mp h⟩
 | x::xs,us,h=>by
  obtain⟨v,r,rfl,iv,t⟩:=dE.mp h;obtain⟨a,_,rfl,_,_⟩:=bM.mp (show Is K H v (.tuple _)from iv);obtain⟨cs,rfl⟩:=BB t;exact⟨a::cs,rfl⟩
def fJ(x:Rat):List Int:=[x.num,(x.den:Int)]
theorem U1{x y:Rat}(h:fJ x=fJ y):x=y:=by
 unfold fJ at h
 injection h with h1 h2
 injection h2 with h2 _
 exact X3 h1 (by omega)
theorem Ym{xs:List Rat}(h:xs.Nodup):(xs.map fJ).Nodup:=by
 unfold List.Nodup at *;rw[VC];exact h.imp λ{a b} n e=>n (U1 e)
theorem Mp{xs:List Rat}{j:Nat}(h:j<xs.length):(xs.map fJ).getD j []=fJ (xs.getD j 0):=by
 rw[wa,wn,wa,wc h]
 rfl
theorem zuW{ks:List (List Int)}{us ws:List Addr}(nd:ks.Nodup)(hl:ks.length=us.length){j:Nat}(hj:j<us.length):kW (fT ks us ws) (ks.getD j [])=some (ws.getD j 0):=by
 unfold kW fT;rw[List.find?_map];have pw:=vE.mp nd;cases e:(wl us.length).find? ((λx:NE=>decide (x.1=ks.getD j [])) ∘ λj=>(ks.getD j [],us.getD j 0,ws.getD j 0))with
 | none =>
  have:=List.find?_eq_none.mp e j (wx.mpr hj);simp at this
 | some i =>
  have hm:=wx.mp (Qi e);have hp:=XV e;have hp:ks.getD i []=ks.getD j []:=of_decide_eq_true hp;have hi:i<ks.length:=by omega
  have hj':j<ks.length:=by omega
  rw[wa,wa,wc hi,wc hj']at hp
  have hij:i=j:=by
   rcases W7 i j with z | z | z
   ·exact absurd hp (pw i j hi hj' z)
   ·exact z
   ·exact absurd hp.symm (pw j i hj' hi z)
  rw[hij];rfl
theorem zuS{K:wb}{H:Hp}{xs:List Rat}{cs ws:List Addr}(t:ak K H (cs.map V.ref) (xs.map N)):zc K H (fT (xs.map fJ) cs ws):=by
 intro x hx;obtain⟨j,hj,rfl⟩:=wJ.mp hx;have hj:=wx.mp hj;have hl:=t.length;simp only[we]at hl;have:=(de t (i:=j) (x:=.ref (cs.getD j 0)) (by rw[wn,wa,wc hj];rfl)).2
 show Is K H (.ref (cs.getD j 0)) (TZ ((xs.map fJ).getD j []))
 rw[Mp (by omega)];exact this
theorem IJ(T:Txt K mg a):aJ P w K mg base aT 9 a.EU a.Ey zj (Lc K):=by
 refine T.zM.F.ok nV ?_ ?_;walk_at "b2"
 refine⟨_,(ao (az 2 nV.nd (oO (DT T) hr T.rl OR (ae (pv 0) af)))
     (ao (az 3 nV.nd (au (zkg T) hr T.EI (ae (ar (pv 0)) (ae (ar (pv 2)) (ae (ar (pv 2)) (ae (pv 1) af))))))
     (ao (az 4 nV.nd (YK rfl (Ww (xr (by decide) _) hu) rfl T.z_dict rfl T.z_zip (ae (aA (show aN _ (binaryOp .Add) (yh K)from OJ) (ar (pv 2)) (br (ae (bW (v:=.ref a.cW) rfl T.dF rfl) af))) (ae (aA (show aN _ (binaryOp .Add) (yh K)from OJ) (pv 3) (br (ae (bW (v:=.ref a.cW) rfl T.dF rfl) af))) af))))
     (ao (az 5 nV.nd (dM (show aO _ (.type "tuple") (d5 K)from ft) rfl T.z_tuple d_ (ae (d4 rfl (cE.by (N':=["phase","now"]) (src:=[none,some 4]) rfl (show cU _ (aC rE).names El ["phase","now"] [none,some 4]=true from by decide +kernel)) (j4 (ar (pv 0))) (λ_ _ _ _ _=>(bL (i:=0) (show(["phase","now"]:List Str).Nodup from by decide) rfl (Or.inl rfl))) (λ_ _ _ _ _=>dX) (λ_ _ _ _ _=>(show PE _ _ (A3 K _ _)from(zwA (by exact(Ww (xr (by decide) _) hu)) (pv 1) (pv 0) (λ_ _=>rfl))))) af)))
     (av (aE (br (ae (au (YH T) hr T.EZ (ae (ar (pv 0)) (ae (ar (pv 2)) (ae (ar (pv 2)) (ae (pv 1) af))))) (ae (br (ae (ar (pv 0)) (ae (pv 5) af))) af))))))))),?_⟩
 walk_at "cl";rw[show start El [x0,x1]=[some x0,some x1,none,none,none,none]from rfl];obtain⟨ra,rb,xs,r,rfl,hw,ok,h30,fr,q⟩:=h;have hz:bC xs++[0]=ai xs:=Bq ok.hp ok.h0;have h1:=ok.h1;have h8:=ok.h8;have sz:=HN h1 h8;have hsl:=sN xs;have hvl:=kf xs;have hvp:=pN h1;have hpl:(bC xs).length+1=(ai xs).length:=by rw[<- hz];simp
 have hn:(aY xs).length=(bC xs).length+1:=by omega
 have L:fq xs (bC xs++[0]) (aP xs) (aY xs):=by rw[hz];exact OT ok.hp.nn ok.hp.lt
 obtain⟨Lr,Hr⟩:=uR ok.ok L hn (rQ xs) r fr;rw[hsl]at Lr Hr;have hel:=BV Lr (bR ra rb xs _);have bx:∀i,ag 4000 (xs.getD i 0):=λi=>(ok.cm.get i).mono (by decide)
 have cp:Cm 3600 (bC xs):=tF ok.cm;have hlk:dW ra rb (aY xs) ((r:Int)).toNat:=by rw[wE];exact zb ok.ok sz (by omega)
 have hbp:∀i,ag 6900 ((bC xs).getD i 0):=λi=>(cp.get i).mono (by decide)
 walk_at "gg";refine Ah hw h8 bx (λz=>absurd ok.h0 z) (λ_ vl H1 S1 il=>?_);have hw1:=hw.by S1;walk_at "gg";refine aD (j:=0) hw1 rfl (λvr ir=>?_);walk_at "gg";refine aD (j:=0) il rfl (λvz iz=>?_);walk_at "gg";refine aD (j:=1) il rfl (λvp ip=>?_);walk_at "gg";refine zkk ir iz ip hn (by omega) hlk hbp (λv2 H2 S2 i2=>?_);rw[wE]at i2;walk_at "gg";refine aD (j:=1) (il.by S2) rfl (λvp2 ip2=>?_);walk_at "gg";refine cH (ds:=[N 0]) (by simp) (.cons (dP 0 (T.d9 _) rfl rfl) .nil) (λv3 H3 S3 i3=>?_);refine Nw (ip2.by S3) i3 (by rw[we];simp;omega) (λv4 H4 S4 i4=>?_);walk_at "gg";refine cH (ds:=[N 0]) (by simp) (.cons (dP 0 (T.d9 _) rfl rfl) .nil) (λv5 H5 S5 i5=>?_);have S25:=S3.trans (S4.trans S5);refine Nw (i2.by S25) i5 (by rw[we,dq];simp;omega) (λv6 H6 S6 i6=>?_)
 have i46:Is K H6 v4 (TN (ai xs)):=by
   have:=i4.by (S5.trans S6);rw[<- hz];unfold TN;rw[w8];exact this
 have i66:Is K H6 v6 (TN (cC ra rb (aY xs) r (bC xs)++[0])):=by
   unfold TN;rw[w8];exact i6
 have S16:=S2.trans (S25.trans S6);have hw6:=hw1.by S16;have il6:=il.by S16;have T6:=S1.trans S16;clear hw hw1 il ir iz ip i2 ip2 i3 i4 i5 i6 S1 S2 S3 S4 S5 S6 S25 S16;have hrl:(cC ra rb (aY xs) r (bC xs)++[0]).length=(ai xs).length:=by rw[wH,dq];simp;omega
 generalize cC ra rb (aY xs) r (bC xs)++[0]=row at *;obtain⟨aa,us,rfl,hs1,tu⟩:=bM.mp i46;obtain⟨ab,ws,rfl,hs2,tw⟩:=bM.mp i66;obtain⟨cs,rfl⟩:=BB tu;obtain⟨ds,rfl⟩:=BB tw;have hcl:=tu.length;have hdl:=tw.length;simp only[we]at hcl hdl;have nd:=Ym (B6 xs);have hkl:((ai xs).map fJ).length=cs.length:=by rw[we];omega
 walk_at "gg";refine⟨aa,ab,(ai xs).map fJ,cs,ds,rfl,hs1,hs2,by omega,by omega,?_,nd,λD ep hD=>?_⟩
 . rw[Vn]
   exact tu
 . have S7:ah H6 (upd H6 D (gE D ep (fT ((ai xs).map fJ) cs ds))):=ah.upd hD
   have e7:upd H6 D (gE D ep (fT ((ai xs).map fJ) cs ds)) D=some (gE D ep (fT ((ai xs).map fJ) cs ds)):=cF;generalize upd H6 D (gE D ep (fT ((ai xs).map fJ) cs ds))=H7 at *;have tu7:ak K H7 (cs.map V.ref) ((ai xs).map N):=ak.same S7 _ _ tu;have tw7:ak K H7 (ds.map V.ref) (row.map N):=ak.same S7 _ _ tw;have hw7:=hw6.by S7;walk_at "gg";refine aD (j:=1) hw7 rfl (λvq iq=>?_);obtain⟨aq,uq,rfl,hsq,tq⟩:=bM.mp iq;have hql:=tq.length;rw[we]at hql;refine jz hsq (o0:=none) (tl:=[some (.ref D)]) rfl (λj y H'=>Is K H' y (N (((wl xs.length).map λw=>row.getD (aP xs w) 0).getD j 0))) ?_ ?_
   . intro D' j x ys o H8 hx inv
     obtain⟨hj,ix⟩:=de tq hx;have S8:=inv.same;obtain⟨ax,_,rfl,_,_⟩:=bM.mp (show Is K H7 x (.tuple _)from ix);have hfl:=(jF xs).lt j hj;have hxe:xs.getD j 0=(ai xs).getD (aP xs j) 0:=(jF xs).at' j hj;walk_at "gg";refine⟨D,ax,ep,_,fJ (xs.getD j 0),ds.getD (aP xs j) 0,rfl,rfl,S8 _ _ e7,zuS (ak.same S8 _ _ tu7),ix.by S8,?_,?_⟩
     . rw[hxe,<- Mp hfl]
       exact zuW nd hkl (by omega)
     . refine eU inv (by omega) eZ ⟨_,rfl⟩ (ah.refl _) ?_
       have hr:((wl xs.length).map λw=>row.getD (aP xs w) 0).getD j 0=row.getD (aP xs j) 0:=by
         rw[wa,wn,vk hj];rfl
       rw[hr];exact(de tw7 (i:=aP xs j) (x:=.ref (ds.getD (aP xs j) 0)) (by rw[wn,wa,wc (by omega)];rfl)).2.by S8
   . intro D' ys H8 n8 S8 e8 hl8 hr8
     have t8:ak K H8 ys (((wl xs.length).map λw=>row.getD (aP xs w) 0).map N):=fk (by rw[hl8,hql];simp) hr8;rw[hel]at t8;walk_at "gg";refine g6 (cY e8 t8) (λv9 H9 S9 i9=>?_);have S69:=S7.trans (S8.trans S9);walk_at "gg";refine aD (j:=0) (hw6.by S69) rfl (λvr9 ir9=>?_);walk_at "gg";refine aD (j:=0) (il6.by S69) rfl (λvz9 iz9=>?_);walk_at "gg";refine aD (j:=1) (il6.by S69) rfl (λvp9 ip9=>?_);walk_at "gg"
     refine zl6 ir9 iz9 ip9 hn (by omega) hlk cp (by
       have h5:=sz.sum;rw[wE];have:(6*(aY xs).sum.toNat+3)*r<=51*30:=WB (by omega) h30;omega) (λv10 H10 S10 i10=>?_)
     rw[wE,<- Hr]at i10;walk_at "gg";refine aD (j:=0) (hw6.by (S69.trans S10)) rfl (λvr10 ir10=>?_);walk_at "gg";refine cH (ds:=[R ra rb,TN (aj ra rb xs (r*(ai xs).length))]) (by simp) (.cons ir10 (.cons (i9.by S10) .nil)) (λv11 H11 S11 i11=>?_);walk_at "gg";refine cH (ds:=[N (aQ ra rb xs (r*(ai xs).length)),bD ra rb (aj ra rb xs (r*(ai xs).length))]) (by simp) (.cons (i10.by S11) (.cons i11 .nil)) (λv12 H12 S12 i12=>?_);exact q v12 H12 (T6.trans (S69.trans (S10.trans (S11.trans S12)))) i12
def JC(K:wb):Sp:=λvs H Q _=>∃x0 x1 x2,vs=[x0,x1,x2] /\ ∃(a b:Rat)(xs:List Rat)(r g:Nat),x1=.int (r:Int)/\x2=.int (g:Int)/\Is K H x0 (bD a b xs)/\aV a b/\1<=xs.length/\xs.length<=8/\(1<=r->fu a b xs/\r<=30/\jM a b xs r)/\g<=40/\ag 8000 (aQ a b xs (r*(ai xs).length))/\(∀i,i<=g->Cm 3700 (aQ a b (aj a b xs (r*(ai xs).length)) i::aj a b (aj a b xs (r*(ai xs).length)) i)) /\ ∀v H',ah H H'->Is K H' v (BD a b xs (r*(ai xs).length+g))->Q v H'
theorem U2{K:wb}{H:Hp}{Q:VK}{E:XK}{a b:Rat}{xs:List Rat}{r g:Nat}{v:V}(h:Is K H v (bD a b xs))(ok:aV a b)(h1:1<=xs.length)(h8:xs.length<=8)(f:1<=r->fu a b xs/\r<=30/\jM a b xs r)(hg:g<=40)(c:ag 8000 (aQ a b xs (r*(ai xs).length)))(c2:∀i,i<=g->Cm 3700 (aQ a b (aj a b xs (r*(ai xs).length)) i::aj a b (aj a b xs (r*(ai xs).length)) i))(q:∀v H',ah H H'->Is K H' v (BD a b xs (r*(ai xs).length+g))->Q v H'):JC K [v,.int (r:Int),.int (g:Int)] H Q E:=⟨_,_,_,rfl,a,b,xs,r,g,rfl,rfl,h,ok,h1,h8,f,hg,c,c2,q⟩
theorem zne(T:Txt K mg a):aJ P w K mg base aT 10 a.FY a.E_ yi (JC K):=by
 refine T.Fc.F.ok Bs ?_ ?_;walk_at "b3"
 refine⟨_,(ao (az 3 Bs.nd (rZ (bS nv (pv 1) ay (a_ _)) (au (IJ T) hr T.zM (ae (pv 0) (ae (pv 1) af))) (br (ae (bW (v:=.ref a.cW) rfl T.dF rfl) (ae (pv 0) af)))))
     (ao (az 4 Bs.nd (au (L9 T) hr T.zZ (ae (ar (pv 3)) (ae (pv 2) af))))
     (av (aE (br (ae (au (gn T) hr T.fM (ae (ar (pv 3)) (ae (ar (pv 4)) af))) (ae (ar (pv 4)) af))))))),?_⟩
 walk_at "cl";rw[show start P_ [x0,x1,x2]=[some x0,some x1,some x2,none,none]from rfl];obtain⟨ra,rb,xs,r,g,rfl,rfl,hw,ok,h1,h8,f,hg,c,c2,q⟩:=h;walk_at "gg"
 . rename_i z
   obtain⟨sw,h30,fr⟩:=f (by omega);refine Eh hw sw h30 fr (λv1 H1 S1 i1=>?_);walk_at "gg";refine aD (j:=1) i1 rfl (λv2 i2=>?_);walk_at "gg";refine sR i2 ok.ba ok.bb (by rw[bR];exact h1) (by rw[bR];exact h8) (by omega) (by omega) (by rw[wE];exact c2) (λv3 H3 S3 i3=>?_);rw[wE]at i3;have i13:=i1.by S3;walk_at "gg";refine aD (j:=0) i13 rfl (λv4 i4=>?_);walk_at "gg";refine aD (j:=0) i3 rfl (λv5 i5=>?_);have b5:ag 3700 (aQ ra rb (aj ra rb xs (r*(ai xs).length)) g):=(c2 g (wg _)).eX (wu ..);walk_at "gg";rename_i v6 H6 S6 i6;refine aD (j:=1) (i3.by S6) rfl (λv7 i7=>?_);walk_at "gg";rw[mB]at i6;rw[eT]at i7;refine cH (ds:=[N (aQ ra rb xs (r*(ai xs).length+g)),bD ra rb (aj ra rb xs (r*(ai xs).length+g))]) (by simp) (.cons i6 (.cons i7 .nil)) (λv8 H8 S8 i8=>?_);exact q v8 H8 (S1.trans (S3.trans (S6.trans S8))) i8
 . rename_i z
   have hr0:r=0:=by omega
   refine cH (ds:=[N 0,bD ra rb xs]) (by simp) (.cons (dP 0 (T.d9 _) rfl rfl) (.cons hw .nil)) (λv1 H1 S1 i1=>?_);have i1:Is K H1 v1 (BD ra rb xs (r*(ai xs).length)):=by rw[hr0,Qp];exact i1
   walk_at "gg";refine aD (j:=1) i1 rfl (λv2 i2=>?_);walk_at "gg";refine sR i2 ok.ba ok.bb (by rw[bR];exact h1) (by rw[bR];exact h8) (by omega) (by omega) (by rw[wE];exact c2) (λv3 H3 S3 i3=>?_);rw[wE]at i3;have i13:=i1.by S3;walk_at "gg";refine aD (j:=0) i13 rfl (λv4 i4=>?_);walk_at "gg";refine aD (j:=0) i3 rfl (λv5 i5=>?_);have b5:ag 3700 (aQ ra rb (aj ra rb xs (r*(ai xs).length)) g):=(c2 g (wg _)).eX (wu ..);walk_at "gg";rename_i v6 H6 S6 i6;refine aD (j:=1) (i3.by S6) rfl (λv7 i7=>?_);walk_at "gg";rw[mB]at i6;rw[eT]at i7;refine cH (ds:=[N (aQ ra rb xs (r*(ai xs).length+g)),bD ra rb (aj ra rb xs (r*(ai xs).length+g))]) (by simp) (.cons i6 (.cons i7 .nil)) (λv8 H8 S8 i8=>?_);exact q v8 H8 (S1.trans (S3.trans (S6.trans S8))) i8
def eI(a b:Rat)(xs:List Rat):Option String :=
 if(ai xs).length=1 then some "one"
 else if d7 a b (aY xs) (bC xs)=true then
  if cv a b (aY xs) (bC xs)=bC xs then some "rests"
  else if a<1/\pV a b (aY xs)=true then some "drawn" else none
 else none
def M9:Option String->V
 | none=>.bj
 | some s=>.str (vO s)
def Mh(K:wb):Sp:=λvs H Q _=>∃x0,vs=[x0] /\ ∃(a b:Rat)(xs:List Rat),Is K H x0 (bD a b xs)/\fu a b xs /\ ∀H',ah H H'->Q (M9 (eI a b xs)) H'
theorem U9{K:wb}{H:Hp}{Q:VK}{E:XK}{a b:Rat}{xs:List Rat}{v:V}(h:Is K H v (bD a b xs))(ok:fu a b xs)(q:∀H',ah H H'->Q (M9 (eI a b xs)) H'):Mh K [v] H Q E:=⟨_,rfl,a,b,xs,h,ok,q⟩
theorem fu.round{a b:Rat}{xs:List Rat}(h:fu a b xs):cq a b (aY xs) (bC xs)/\cP (aY xs)/\(aY xs).length=(bC xs).length+1:=by
 have hz:bC xs++[0]=ai xs:=Bq h.hp h.h0;have h8:=h.h8;have sz:=HN h.h1 h8;have hsl:=sN xs;have hvl:=kf xs;have hsu:=Jp xs;have hpl:(bC xs).length+1=(ai xs).length:=by rw[<- hz];simp
 refine⟨⟨h.ok.ba,h.ok.bb,λn hn=>by have:=sz.each n hn;omega,by omega,by omega,⟨3600,tF h.cm,by omega⟩⟩,sz,by omega⟩
theorem UU(T:Txt K mg a):aJ P w K mg base aT 10 a.Ht a.F_ sZ (Mh K):=by
 refine T.Gu.F.ok IC ?_ ?_;walk_at "b1"
 refine⟨_,(ao (bN (bS (show aN _ (compareOp .Eq) (cz K)from cZ hu) (bQ (show aO _ (.builtin "len") (cN K)from dU) rfl T.z_len dC (ae (au (JP T) hr T.z7 (ae (pv 0) af)) af)) ay (a_ _)) (av (aE gg)) bP)
     (ao (bN (eD (dD (au (M3 T) hr T.zV (ae (pv 0) af)))) (av (aE ik)) bP)
     (ao (az 1 IC.nd (oO (DT T) hr T.rl OR (ae (pv 0) af)))
     (ao (bN (eD (dD (au (Be T) hr T.p8 (ae (ar (pv 0)) (ae (ar (pv 1)) (ae (ar (pv 1)) af)))))) (av (aE ik)) bP)
     (ao (bN (bS (show aN _ (compareOp .Eq) (cz K)from cZ hu) (au (IF T) hr T.zO (ae (ar (pv 0)) (ae (ar (pv 1)) (ae (ar (pv 1)) af)))) (ar (pv 1)) (a_ _)) (av (aE gg)) bP)
     (ao (bN (PW.pt (zBI (bS (show aN _ (compareOp .Eq) (cz K)from cZ hu) (au (O7 T) hr T.Ac (ae (ar (pv 0)) af)) gg (a_ _)) (zyf (dD (au (Pw T) hr T.zN (ae (ar (pv 0)) (ae (ar (pv 1)) af))))))) (av (aE gg)) bP)
     (av (aE ik)))))))),?_⟩
 walk_at "cl";rw[show start Oa [x0]=[some x0,none]from rfl];obtain⟨ra,rb,xs,hw,ok,q⟩:=h;obtain⟨rok,sz,hn⟩:=ok.round;have h8:=ok.h8;have bx:∀i,ag 4000 (xs.getD i 0):=λi=>(ok.cm.get i).mono (by decide)
 have bp:∀i,ag 4000 ((bC xs).getD i 0):=λi=>((tF ok.cm).get i).mono (by decide)
 unfold eI at q;walk_at "gg";refine Mf hw h8 bx (λlf H1 us1 n1 S1 e1 t1=>?_);have hul:=t1.length;rw[we]at hul;have hw1:=hw.by S1;walk_at "gg";refine jJ (.of e1) ?_;rw[hul];walk_at "gg"
 . rename_i z
   have z:(ai xs).length=1:=by omega
   rw[if_pos z]at q;exact q _ S1
 . rename_i z
   have z:¬ (ai xs).length=1:=by omega
   rw[if_neg z]at q;refine MP hw1 ?_;rw[decide_eq_true ok.h0];walk_at "gg";refine Ah hw1 h8 bx (λz=>absurd ok.h0 z) (λ_ vl H2 S2 il=>?_);have hw2:=hw1.by S2;walk_at "gg";refine aD (j:=0) hw2 rfl (λvr ir=>?_);walk_at "gg";refine aD (j:=0) il rfl (λvz iz=>?_);walk_at "gg";refine aD (j:=1) il rfl (λvp ip=>?_);walk_at "gg";refine De ir iz ip rok (λH3 S3=>?_);have T3:=S1.trans (S2.trans S3);have hw3:=hw2.by S3;have il3:=il.by S3;clear hw hw1 hw2 il ir iz ip S1 S2 S3 e1 t1 n1;walk_at "gg"
   . rename_i y
     rw[if_neg (by rw[y];decide)]at q;exact q _ T3
   . rename_i y
     rw[if_pos y]at q;refine aD (j:=0) hw3 rfl (λvr ir=>?_);walk_at "gg";refine aD (j:=0) il3 rfl (λvz iz=>?_);walk_at "gg";refine aD (j:=1) il3 rfl (λvp ip=>?_);walk_at "gg";refine JD ir iz ip rok (λv4 H4 S4 i4=>?_);walk_at "gg";refine aD (j:=1) (il3.by S4) rfl (λvp4 ip4=>?_);refine sV i4 ip4 ?_;walk_at "gg"
     . rename_i u
       rw[if_pos u]at q;exact q _ (T3.trans S4)
     . rename_i u
       rw[if_neg u]at q;refine aD (j:=0) (hw3.by S4) rfl (λvr4 ir4=>?_);walk_at "gg";refine Pu ir4 (ok.ok.ba.mono (by decide)) ?_;unfold nR
       by_cases z1:1<ra
       . rw[if_pos z1]
         walk_at "gg";refine gx _ _ false (by rw[wN];decide) ?_;walk_at "gg";rw[if_neg (λh=>absurd h.1 (by grind))]at q;exact q _ (T3.trans S4)
       . rw[if_neg z1]
         by_cases z2:ra=1
         . rw[if_pos z2]
           walk_at "gg";refine gx _ _ false (by rw[wN];decide) ?_;walk_at "gg";rw[if_neg (λh=>absurd h.1 (by grind))]at q;exact q _ (T3.trans S4)
         . rw[if_neg z2]
           have ha:ra<1:=by
             by_cases h:ra<1
             . exact h
             . exact absurd (V4 (Vd.mp h) (vX z2)) z1
           walk_at "gg";refine gx _ _ true (by rw[wN];decide) ?_;walk_at "gg";refine aD (j:=0) (hw3.by S4) rfl (λvr5 ir5=>?_);walk_at "gg";refine aD (j:=0) (il3.by S4) rfl (λvz5 iz5=>?_);walk_at "gg";refine Ik ir5 iz5 ok.ok sz z2 (λH5 S5=>?_);walk_at "gg"
           . rename_i d
             rw[if_pos ⟨ha,d⟩]at q;exact q _ (T3.trans (S4.trans S5))
           . rename_i d
             rw[if_neg (λh=>by rw[h.2]at d;cases d)]at q;exact q _ (T3.trans (S4.trans S5))
def IS(K:wb):Sp:=λvs H Q _=>∃x0,vs=[x0] /\ ∃(a b:Rat)(xs:List Rat)(g:Nat),Is K H x0 (bD a b xs)/\aV a b/\1<=xs.length/\xs.length<=8/\g<=8/\(∀t,t<=g->Cm 3700 (aj a b xs t))/\(∀t,t<g->(ck a b (aj a b xs t)).length=1)/\(ck a b (aj a b xs g)).length≠1 /\ ∀H',ah H H'->Q (.int ((g+1:Nat):Int)) H'
theorem MB{K:wb}{H:Hp}{Q:VK}{E:XK}{a b:Rat}{xs:List Rat}{g:Nat}{v:V}(h:Is K H v (bD a b xs))(ok:aV a b)(h1:1<=xs.length)(h8:xs.length<=8)(hg:g<=8)(c:∀t,t<=g->Cm 3700 (aj a b xs t))(w1:∀t,t<g->(ck a b (aj a b xs t)).length=1)(w2:(ck a b (aj a b xs g)).length≠1)(q:∀H',ah H H'->Q (.int ((g+1:Nat):Int)) H'):IS K [v] H Q E:=⟨_,rfl,a,b,xs,g,h,ok,h1,h8,hg,c,w1,w2,q⟩
theorem zjS(T:Txt K mg a):aJ P w K mg base aT 5 a.EX a.Ew yE (IS K):=by
 refine T.EH.F.ok oR ?_ ?_;walk_at "b1"
 refine⟨_,(ao (az 1 oR.nd ay)
     (ao (az 2 oR.nd (au (C4 T) hr T.rg (ae (pv 0) af)))
     (ao (mG vf (bS (show aN _ (compareOp .Eq) (cz K)from cZ hu) (bQ (show aO _ (.builtin "len") (cN K)from dU) rfl T.z_len dC (ae (ar (pv 2)) af)) ay (a_ _)) (ao (Tp (i:=1) oR.nd rfl (Or.inl rfl) ay UR)
     (av (az 2 oR.nd (au (C4 T) hr T.rg (ae (ar (pv 2)) af))))))
     (av (aE (pv 1)))))),?_⟩
 walk_at "cl";rw[show start Mo [x0]=[some x0,none,none]from rfl];obtain⟨ra,rb,xs,g,hw,ok,h1,h8,hg,c,w1,w2,q⟩:=h;walk_at "gg";refine Ba hw ok.ba ok.bb h1 h8 (c 0 (by omega)) (by omega) (λv2 H2 S2 i2=>?_);walk_at "gg";refine yH (λm σ' H'=>∃(t:Nat)(v:V),σ'=[some x0,some (.int ((t+1:Nat):Int)),some v]/\m=g-t/\t<=g/\ah H H'/\Is K H' v (GD ra rb (aj ra rb xs t))) _ ⟨0,v2,rfl,rfl,by omega,S2,i2⟩ ?_;rintro m σ' H3 ⟨t,v,rfl,rfl,ht,S3,iv⟩;walk_at "gg";refine aD (j:=1) iv rfl (λv4 i4=>?_);walk_at "gg";refine ju i4 ?_;rw[we];walk_at "gg"
 . rename_i z
   have z:(ck ra rb (aj ra rb xs t)).length=1:=by omega
   have htg:t<g:=by
     rcases wt t g with y | y
     . exact y
     . have:t=g:=by omega
       subst this;exact absurd z w2
   have hpl:=bR ra rb xs t;have hpl2:=bR ra rb xs (t+1);refine rD ?_;walk_at "gg";refine zy3 rfl ?_;walk_at "gg";refine zBe ?_;walk_at "gg";refine aD (j:=2) iv rfl (λv5 i5=>?_);walk_at "gg";refine Ba (show Is K H3 v5 (bD ra rb (aj ra rb xs (t+1)))from i5) ok.ba ok.bb (by omega) (by omega) (c (t+1) (by omega)) (by omega) (λv6 H6 S6 i6=>?_);walk_at "gg";exact⟨g-(t+1),by omega,t+1,v6,by push_cast;rfl,rfl,by omega,S3.trans S6,i6⟩
 . rename_i z
   have htg:t=g:=by
     rcases wt t g with y | y
     . exact absurd (by rw[w1 t y];rfl) z
     . omega
   subst htg;exact q H3 S3
def Ov(B:Int)(x:Rat):Prop:=∃t:Int,x=wp t B
theorem Ov.zero(B:Int):Ov B 0:=⟨0,by simp⟩
theorem Ov.more{B d:Int}{x:Rat}(h:Ov B x)(hB:0<B)(hd:0<d):Ov (B*d) x:=by
 obtain⟨t,rfl⟩:=h;exact⟨t*d,pO hB hd⟩
theorem ZP(t u:Int):∃m,Bd m t/\Bd m u:=⟨t.natAbs+u.natAbs,⟨Ww (by omega:t.natAbs<=t.natAbs+u.natAbs) xt⟩,⟨Ww (by omega:u.natAbs<=t.natAbs+u.natAbs) xt⟩⟩
theorem zCq{a b:Rat}(h:aV a b):Bd 6 a.num:=by
 have h1:=h.a0;have h2:=h.a4;have h3:=h.ad;have n0:0<=a.num:=qa.mpr (vB h1)
 have n1:a.num<=4*a.den:=by
   have:=(xb a 4).mp h2
   simpa using this
 exact ⟨by have : (2 : Nat) ^ 6 = 64 := by decide
           omega⟩
theorem Zp{a b:Rat}(h:aV a b):Bd 4 (a.den:Int):=by
 have h3:=h.ad
 exact ⟨by have : (2 : Nat) ^ 4 = 16 := by decide
           omega⟩
theorem zCz{a b:Rat}(h:aV a b):Bd 4 b.num:=by
 have h1:=h.b0;have h2:=h.b1;have h3:=h.bd;have n0:0<=b.num:=qa.mpr h1
 have n1:b.num<=b.den:=by
   have:=(xb b 1).mp h2
   simpa using this
 exact ⟨by have : (2 : Nat) ^ 4 = 16 := by decide
           omega⟩
theorem Ov.push{a b:Rat}(ok:aV a b){B:Int}{x:Rat}(hB:0<B)(hd:(b.den:Int) ∣ B)(h:Ov B x)(n:Nat):Ov (B*(a.den:Int)^n) (push a b n x):=by
 obtain⟨t,rfl⟩:=h;obtain⟨m,h1,h2⟩:=ZP t B;obtain⟨_,_,_,T,e,_⟩:=Il (zCq ok) (Zp ok) (zCz ok) hB hd h1 h2 n;exact⟨T,e⟩
theorem ox(a:Rat)(n:Nat):0<(a.den:Int)^n:=Xc (den_pos a)
theorem Ov.up{a:Rat}{B:Int}{x:Rat}(h:Ov B x)(hB:0<B)(n:Nat):Ov (B*(a.den:Int)^n) x:=h.more hB (ox a n)
theorem OZ{B:Int}{xs:List Rat}(h:∀x∈xs,Ov B x)(i:Nat):Ov B (xs.getD i 0):=by
 rcases wt i xs.length with z | z
 ·exact h _ (getD_mem z)
 ·rw[wa,wA z];exact Ov.zero B
theorem zuK{B:Int}{xs:List Rat}(h:∀i,i<xs.length->Ov B (xs.getD i 0)):∀x∈xs,Ov B x:=λx hx=>by
 obtain⟨j,hj,rfl⟩:=wK hx;have:=h j hj;rw[wa,wc hj]at this;exact this
theorem P0{a b:Rat}(ok:aV a b):∀(n:Nat)(B:Int)(ps:List Rat)(left:List Nat),0<B->(b.den:Int) ∣ B->left.Nodup->(∀w∈left,w<ps.length)->(∀x∈ps,Ov B x)->∀x∈(cu a b n ps left).2.2,Ov (B*(a.den:Int)^(cu a b n ps left).1.flatten.length) x
 | 0,B,ps,left,hB,_,_,_,h=>λx hx=>by
  have:Ov (B*(a.den:Int)^0) x:=by rw[qx,QG];exact h x hx
  exact this
 | n+1,B,ps,left,hB,hd,nd,lt,h=>by
  by_cases e:aF ps left=[]
  ·rw[nj e]
   intro x hx;have:Ov (B*(a.den:Int)^0) x:=by rw[qx,QG];exact h x hx
   exact this
  ·rw[iG e]
   have nd':(bK left (aF ps left)).Nodup:=mZ nd;have lt':=mJ (wave:=aF ps left) lt
   have ih:=P0 ok n (B*(a.den:Int)^(aF ps left).length) (cD (a^(aF ps left).length) (aB a b (aF ps left).length) ps (bK left (aF ps left))) (bK left (aF ps left)) (vg hB (ox a _)) (VQ hd (W6 ..)) nd' (λw hw=>by rw[g9];exact lt' w hw) (zuK λi hi=>by
    rw[iL _ _ _ _ nd' lt']
    split
    ·rw[<- gG];exact(OZ h i).push ok hB hd _
    ·exact(OZ h i).up hB _)
   intro x hx;have:=ih x hx
   show Ov (B*(a.den:Int)^(aF ps left::_).flatten.length) x
   rw[W3,wH,Xh,<- Vu];exact this
theorem Ov.rise{B:Int}{x y:Rat}(hx:Ov B x)(hy:Ov B y)(hB:0<B):Ov B (x+(1-y)):=by
 obtain⟨t,rfl⟩:=hx;obtain⟨z,rfl⟩:=hy;refine⟨t+B-z,?_⟩
 symm
 refine fI (by omega) ?_;have q1:=cA t (show B≠0 by omega);have q2:=cA z (show B≠0 by omega);have q3:((t+B-z:Int):Rat)=(t:Rat)+(B:Rat)-(z:Rat):=by push_cast;rfl
 rw[q3,<- q1,<- q2]
 grind
def jd(a b:Rat)(xs:List Rat):Nat:=(ck a b xs).flatten.length
theorem Yv{a b:Rat}(ok:aV a b){B:Int}(hB:0<B)(hd:(b.den:Int) ∣ B){xs:List Rat}(h1:1<=xs.length)(h:∀x∈xs,Ov B x):∀y∈cX a b xs,Ov (B*(a.den:Int)^jd a b xs) y:=by
 have hr:∀x∈bA xs,Ov B x:=λx hx=>by
  obtain⟨y,hy,rfl⟩:=wJ.mp hx;exact(h y hy).rise (h _ (gM h1)) hB
 have:=P0 ok xs.length B (bA xs) (wl xs.length) hB hd Wu (λw hw=>by rw[fg];exact wx.mp hw) hr;intro y hy;rcases zwL y hy with z | z
 ·exact this y z
 ·rw[z];exact Ov.zero _
def bZ(a b:Rat)(xs:List Rat):Nat->Nat
 | 0=>0
 | k+1=>bZ a b xs k+jd a b (aj a b xs k)
theorem lX(a b:Rat)(xs:List Rat)(m:Nat):∀k,bZ a b xs (m+k)=bZ a b xs m+bZ a b (aj a b xs m) k
 | 0=>rfl
 | k+1=>by
  show bZ a b xs (m+k)+jd a b (aj a b xs (m+k))=bZ a b xs m+(bZ a b (aj a b xs m) k+jd a b (aj a b (aj a b xs m) k))
  rw[lX a b xs m k,eT];omega
theorem KL{a b:Rat}(ok:aV a b){B:Int}(hB:0<B)(hd:(b.den:Int) ∣ B){xs:List Rat}(h1:1<=xs.length)(h:∀x∈xs,Ov B x):∀k,(∀y∈aj a b xs k,Ov (B*(a.den:Int)^bZ a b xs k) y)/\Ov (B*(a.den:Int)^bZ a b xs k) (aQ a b xs k)
 | 0=>by
  show(∀y∈xs,Ov (B*(a.den:Int)^0) y)/\Ov (B*(a.den:Int)^0) 0
  rw[qx,QG];exact⟨h,Ov.zero B⟩
 | k+1=>by
  obtain⟨hp,hh⟩:=KL ok hB hd h1 h k;have hBk:=vg hB (ox a (bZ a b xs k));have hpl:=bR a b xs k
  have e:B*(a.den:Int)^bZ a b xs (k+1)=B*(a.den:Int)^bZ a b xs k*(a.den:Int)^jd a b (aj a b xs k):=by
   rw[Vu,<- Xh];rfl
  rw[e];refine⟨Yv ok hBk (VQ hd (W6 ..)) (by omega) hp,?_⟩;exact(Ov.rise hh (hp _ (gM (by omega))) hBk).up hBk _
theorem L7{a b:Rat}(a0:0<a)(b0:0<=b){xs:List Rat}(h1:1<=xs.length)(hp:cV xs):∀k:Nat,0<=aQ a b xs k/\aQ a b xs k<=((k:Int):Rat)
 | 0=>⟨Wn,Wn⟩
 | k+1=>by
  obtain⟨l,u⟩:=L7 a0 b0 h1 hp k;have hk:=hp.at a0 b0 k;have hm:=gM (xs:=aj a b xs k) (by rw[bR];exact h1);have m0:=hk.nn _ hm;have m1:=hk.lt _ hm;have e:aQ a b xs (k+1)=aQ a b xs k+(1-bV (aj a b xs k)):=rfl;have ek:(((k+1:Nat):Int):Rat)=((k:Int):Rat)+1:=by push_cast;rfl
  rw[e,ek];exact⟨by grind,by grind⟩
theorem HZ{B:Int}{m l:Nat}{x:Rat}(hB:0<B)(bB:Bd m B)(h:Ov B x)(x0:0<=x)(x1:x<=(((2^l:Nat):Int):Rat)):∃t:Int,x=wp t B/\Bd (m+l+1) t:=by
 obtain⟨t,rfl⟩:=h;refine⟨t,rfl,?_⟩;have q1:=cA t (show B≠0 by omega);have hBr:(0:Rat)<(B:Rat):=XI.mpr hB;have t0:(0:Rat)<=(t:Rat):=by rw[<- q1];exact qE x0 (vB hBr)
 have t1:(t:Rat)<=(((2^l:Nat):Int):Rat)*(B:Rat):=by
  rw[<- q1];exact qy x1 (vB hBr)
 have t0':0<=t:=Rat.intCast_nonneg.mp t0
 have t1':t<=((2^l:Nat):Int)*B:=by
  rw[<- vi]at t1;exact WO.mp t1
 have b:=bB.lt;refine⟨?_⟩
 have hb:t.natAbs<=2^l*B.natAbs:=by
  have e:((2^l*B.natAbs:Nat):Int)=((2^l:Nat):Int)*B:=by
   rw[WX]
   congr 1
   omega
  omega
 have:2^l*B.natAbs<2^l*2^m:=Nat.mul_lt_mul_of_pos_left b (vI l);have e2:2^(m+l+1)=2^l*2^m*2:=by rw[Wk,qK,VF (2^m)]
 omega
theorem zzc{a b:Rat}(ok:aV a b){B:Int}{m:Nat}(h:Bd m B)(n:Nat):Bd (m+3*n) (B*(a.den:Int)^n):=by
 refine⟨?_⟩;have h1:=h.lt;have h8:=ok.ad;rw[QX,Int.natAbs_pow,Int.natAbs_natCast,qK,Nat.pow_mul];have e:(2:Nat)^3=8:=by decide
 rw[e];have h2:a.den^n<=8^n:=Nat.pow_le_pow_left h8 n;have hp:0<8^n:=Nat.pow_pos (by decide);exact Ww (qB _ h2) (Nat.mul_lt_mul_of_pos_right h1 hp)
theorem Ov.sub{B:Int}{x y:Rat}(hx:Ov B x)(hy:Ov B y)(hB:0<B):Ov B (x-y):=by
 obtain⟨t,rfl⟩:=hx;obtain⟨z,rfl⟩:=hy;refine⟨t-z,?_⟩
 symm
 refine fI (by omega) ?_;have q1:=cA t (show B≠0 by omega);have q2:=cA z (show B≠0 by omega);have q3:((t-z:Int):Rat)=(t:Rat)-(z:Rat):=by push_cast;rfl
 rw[q3,<- q1,<- q2]
 grind
theorem Ys{a b:Rat}(ok:aV a b){m:Nat}{xs:List Rat}(c:pS b.den m xs)(h1:1<=xs.length)(hp:cV xs){i k l:Nat}(hk:k<=2^l):Cm (m+3*bZ a b xs (i+k)+l+1) (aQ a b (aj a b xs i) k::aj a b (aj a b xs i) k):=by
 obtain⟨B,hB,hd,bB,hx⟩:=c;have hov:=KL ok hB hd h1 (λx hx'=>let ⟨t,e,_⟩:=hx x hx';⟨t,e⟩);obtain⟨hph,hh⟩:=hov (i+k);have hBk:=vg hB (ox a (bZ a b xs (i+k)))
 have hi:Ov (B*(a.den:Int)^bZ a b xs (i+k)) (aQ a b xs i):=by
  have:=((hov i).2).up (a:=a) (vg hB (ox a (bZ a b xs i))) (bZ a b (aj a b xs i) k);rw[Vu,<- Xh,<- lX]at this;exact this
 have hhk:Ov (B*(a.den:Int)^bZ a b xs (i+k)) (aQ a b (aj a b xs i) k):=by
  have e:aQ a b (aj a b xs i) k=aQ a b xs (i+k)-aQ a b xs i:=by
   have:=mB a b xs i k
   grind
  rw[e];exact hh.sub hi hBk
 have bb:=zzc ok bB (bZ a b xs (i+k));have hpi:=hp.at ok.a0 ok.b0 i;have hpk:=hpi.at ok.a0 ok.b0 k;have hl:(((k:Nat):Int):Rat)<=(((2^l:Nat):Int):Rat):=WO.mpr (by omega)
 have h1l:(1:Rat)<=(((2^l:Nat):Int):Rat):=by
  have:((1:Int):Rat)<=(((2^l:Nat):Int):Rat):=WO.mpr (by have:=vI l;omega);exact this
 refine⟨_,hBk,bb.mono (by omega),λx hx'=>?_⟩;rcases wz.mp hx' with rfl | hx'
 ·have hb:=L7 ok.a0 ok.b0 (xs:=aj a b xs i) (by rw[bR];exact h1) hpi k
  exact HZ hBk bb hhk hb.1 (Qm hb.2 hl)
 ·have:=hph x (by rw[<- eT];exact hx')
  exact HZ hBk bb this (hpk.nn x hx') (Qm (vB (hpk.lt x hx')) h1l)
theorem zxT{a b:Rat}(a0:0<a)(b0:0<=b){xs:List Rat}(h1:1<=xs.length)(hp:cV xs):jd a b xs<=xs.length:=by
 obtain⟨v,J⟩:=B8 a0 b0 h1 hp.nn hp.lt;unfold jd;rw[J.perm.length_eq];unfold seg;have:=Wc (λw=>decide (0<=aP xs w)&&decide (aP xs w<v)) (wl xs.length);rw[wU]at this;exact this
theorem mz{a b:Rat}(a0:0<a)(b0:0<=b){xs:List Rat}(h1:1<=xs.length)(hp:cV xs):∀k,bZ a b xs k<=k*xs.length
 | 0=>vV _
 | k+1=>by
  have ih:=mz a0 b0 h1 hp k;have hl:=bR a b xs k;have:=zxT a0 b0 (xs:=aj a b xs k) (by omega) (hp.at a0 b0 k);rw[V1]
  show bZ a b xs k+jd a b (aj a b xs k)<=_
  omega
theorem Ue{a b:Rat}(a0:0<a)(b0:0<=b){xs:List Rat}(h1:1<=xs.length)(hp:cV xs):1<=(ck a b xs).length:=by
 obtain⟨v,J⟩:=B8 a0 b0 h1 hp.nn hp.lt;obtain⟨ws,e,_⟩:=J.first;rw[e];simp
theorem Ni{a b:Rat}(a0:0<a)(b0:0<=b){xs:List Rat}(h1:1<=xs.length)(hp:cV xs):(ai (cX a b xs)).length<=(ai xs).length/\(1<(ck a b xs).length->(ai (cX a b xs)).length<(ai xs).length):=by
 obtain⟨v,J⟩:=B8 a0 b0 h1 hp.nn hp.lt;have e:=congrArg List.length J.new;rw[ja,wH,vy,ja,vJ]at e;have v1:=J.v1;have vm:=J.vm;exact⟨by omega,λh=>by have:=J.more.mp h;omega⟩
theorem Kz{a b:Rat}(a0:0<a)(b0:0<=b){xs:List Rat}(h1:1<=xs.length)(hp:cV xs):∀k,(ai (aj a b xs k)).length<=(ai xs).length
 | 0=>wg _
 | k+1=>vA (Ni a0 b0 (xs:=aj a b xs k) (by rw[bR];exact h1) (hp.at a0 b0 k)).1 (Kz a0 b0 h1 hp k)
theorem O6{a b:Rat}(ok:aV a b){xs ps:List Rat}{fl:Nat->Nat}{ns:List Int}(L:fq xs (ps++[0]) fl ns)(hn:ns.length=ps.length+1)(f:d7 a b ns ps=true):∀t,t<=ns.length->bZ a b xs t=upTo ns t
 | 0,_=>rfl
 | t+1,ht=>by
  have ih:=O6 ok L hn f t (by omega);have hw:=(u_ ok L hn f).2.1 t (by omega);have hl:(ps++[0]).length=ns.length:=by simp[hn]
  have hs:=L.size t (by omega)
  show bZ a b xs t+jd a b (aj a b xs t)=_
  unfold jd;rw[hw,ih,o_ (by omega),hs];simp
theorem KU{a b:Rat}(ok:aV a b){xs ps:List Rat}{fl:Nat->Nat}{ns:List Int}(L:fq xs (ps++[0]) fl ns)(hn:ns.length=ps.length+1)(n0:∀n∈ns,0<=n):∀k,(∀j,j<k->cw a b ns ps j=true)->bZ a b xs (k*ns.length)=k*upTo ns ns.length
 | 0,_=>by rw[Qp,Qp];rfl
 | k+1,h=>by
  have ih:=KU ok L hn n0 k λj hj=>h j (by omega)
  obtain⟨Lk,_⟩:=uR ok L hn n0 k λj hj=>h j (by omega)
  have hl:ns.length=(cC a b ns k ps).length+1:=by rw[dq];exact hn
  rw[V1,lX,ih,O6 ok Lk hl (h k (by omega)) _ (wg _),V1]
structure gF(a b:Rat)(xs:List Rat)(r g:Nat):Prop where
 ky:r<=30
 free:jM a b xs r
 ends:cw a b (aY xs) (bC xs) r=false
 g1:1<=g
 gN:g<=(ai xs).length
 one:∀t,t+1<g->(ck a b (aj a b (aj a b xs (r*(ai xs).length)) t)).length=1
 join:1<(ck a b (aj a b (aj a b xs (r*(ai xs).length)) (g-1))).length
theorem L8{p:Nat->Prop} : ∀n,(∃t,t<n /\ ¬ p t)->∃g,g<n/\(∀t,t<g->p t) /\ ¬ p g
 | 0,h=>by obtain⟨t,ht,_⟩:=h;omega
 | n+1,h=>by
  by_cases z:∃t,t<n /\ ¬ p t
  ·obtain⟨g,h1,h2,h3⟩:=L8 n z
   exact⟨g,by omega,h2,h3⟩
  ·obtain⟨t,ht,hp⟩:=h
   have htn:t=n:=by
    rcases wt t n with y | y
    ·exact absurd ⟨t,y,hp⟩ z
    ·omega
   subst htn;exact⟨t,by omega,λs hs=>VE.mp λy=>z ⟨s,hs,y⟩,hp⟩
structure zBy(a b:Rat)(xs:List Rat):Prop where
 hz:bC xs++[0]=ai xs
 hn:(aY xs).length=(bC xs).length+1
 hs:(aY xs).length=(ai xs).length
 L:fq xs (bC xs++[0]) (aP xs) (aY xs)
theorem nQ{a b:Rat}{xs:List Rat}(hp:cV xs)(h0:0∈xs):zBy a b xs:=by
 have hz:bC xs++[0]=ai xs:=Bq hp h0;have hsl:=sN xs;have hpl:(bC xs).length+1=(ai xs).length:=by rw[<- hz];simp
 exact⟨hz,by omega,hsl,by rw[hz];exact OT hp.nn hp.lt⟩
theorem N4{a b:Rat}{xs:List Rat}(ok:aV a b)(h1:1<=xs.length)(hp:cV xs)(h0:0∈xs){r:Nat}(h30:r<=30)(f:jM a b xs r)(e:cw a b (aY xs) (bC xs) r=false):∃g,gF a b xs r g:=by
 obtain⟨hz,hn,hs,L⟩:=nQ (a:=a) (b:=b) hp h0;obtain⟨Lr,_⟩:=uR ok L hn (rQ xs) r f;obtain⟨t,ht,hj⟩:=Ul ok Lr (by rw[dq];exact hn) e;rw[hs]at ht hj;obtain⟨g,g1,g2,g3⟩:=L8 (p:=λt=>(ck a b (aj a b (aj a b xs (r*(ai xs).length)) t)).length=1) (ai xs).length ⟨t,ht,λz=>by rw[z]at hj;omega⟩;refine⟨g+1,h30,f,e,by omega,by omega,λt ht=>g2 t (by omega),?_⟩;have:=Ue (a:=a) (b:=b) ok.a0 ok.b0 (xs:=aj a b (aj a b xs (r*(ai xs).length)) g) (by rw[bR,bR];exact h1) ((hp.at ok.a0 ok.b0 _).at ok.a0 ok.b0 _);rw[V3];have g3:¬ (ck a b (aj a b (aj a b xs (r*(ai xs).length)) g)).length=1:=g3;omega
theorem gF.bZ{a b:Rat}{xs:List Rat}{r g:Nat}(R:gF a b xs r g)(ok:aV a b)(h1:1<=xs.length)(hp:cV xs)(h0:0∈xs){t:Nat}(ht:t<=g):bZ a b xs (r*(ai xs).length+t)<=30*xs.length+xs.length*xs.length:=by
 obtain⟨hz,hn,hs,L⟩:=nQ (a:=a) (b:=b) hp h0;have h2:=KU ok L hn (rQ xs) r R.free;rw[hs]at h2;have h3:=Jp xs;rw[hs]at h3;have h4:=mz ok.a0 ok.b0 (xs:=aj a b xs (r*(ai xs).length)) (by rw[bR];exact h1) (hp.at ok.a0 ok.b0 _) t;rw[bR]at h4;rw[lX,h2];have h5:r*upTo (aY xs) (ai xs).length<=30*xs.length:=WB R.ky h3;have h6:t*xs.length<=xs.length*xs.length:=vF _ (by have:=R.gN;have:=kf xs;omega);omega
theorem gF.HC{a b:Rat}{xs:List Rat}{r g:Nat}(R:gF a b xs r g)(ok:aV a b)(h1:1<=xs.length)(hp:cV xs):(ai (aj a b xs (r*(ai xs).length+g))).length<(ai xs).length:=by
 have g1:=R.g1
 have e:aj a b xs (r*(ai xs).length+g)=cX a b (aj a b (aj a b xs (r*(ai xs).length)) (g-1)):=by
  rw[<- eT];obtain⟨k,rfl⟩:∃k,g=k+1:=⟨g-1,by omega⟩
  rfl
 have h2:cV (aj a b (aj a b xs (r*(ai xs).length)) (g-1)):=(hp.at ok.a0 ok.b0 _).at ok.a0 ok.b0 _;have hl:(aj a b (aj a b xs (r*(ai xs).length)) (g-1)).length=xs.length:=by rw[bR,bR]
 have h3:=(Ni ok.a0 ok.b0 (xs:=aj a b (aj a b xs (r*(ai xs).length)) (g-1)) (by omega) h2).2 R.join;have h4:=Kz ok.a0 ok.b0 (xs:=xs) h1 hp (r*(ai xs).length+(g-1));rw[eT]at h3;rw[eT]at e;rw[e];omega
theorem zqq{a b:Rat}{ns:List Int}{xs:List Rat}(ok:aV a b)(sz:cP ns)(hn:ns.length=xs.length+1)(st:d6 a b ns xs=true):cv a b ns xs=xs\/(a<1/\pV a b ns=true):=by
 have hps:=sz.pos;unfold d6 at st
 by_cases z1:1<a
 ·rw[if_pos z1]at st
  have e:=of_decide_eq_true st;have hF:a^ns.sum.toNat≠1:=λe=>absurd ((sx ok (by omega)).mp e) (by grind)
  refine .inl ?_;rw[<- DG hn sz.nn,zzf hF hn 1];rw[<- e,zxI]
 ·rw[if_neg z1]at st
  by_cases z2:a=1
  ·rw[if_pos z2]at st
   refine .inl ?_;rw[<- DG hn sz.nn]
   exact ke (dq ..) λi hi=>by
    rw[dq]at hi;have hi':i<(cR a b ns).length:=by rw[lY (by omega)];omega
    have hz:(cR a b ns).getD i 0=0:=by
     rw[Wd]at st;have:=st _ (wJ.mpr ⟨_,getD_mem (d:=0) hi',rfl⟩);exact of_decide_eq_true this
    rw[j5 hi,hz];unfold fc;rw[z2,GM.one_pow',GM.one_pow']
    grind
  ·rw[if_neg z2]at st
   refine .inr ⟨?_,st⟩
   by_cases h:a<1
   ·exact h
   ·exact absurd (V4 (Vd.mp h) (vX z2)) z1
theorem zx7{a b:Rat}{xs:List Rat}(ok:fu a b xs)(h:eI a b xs=none)(f:cw a b (aY xs) (bC xs) 0=true):d6 a b (aY xs) (bC xs)=false:=by
 obtain⟨_,sz,hn⟩:=ok.round;unfold cw at f;rw[oY]at f;cases e:d6 a b (aY xs) (bC xs)with
 | false=>rfl
 | true =>
  unfold eI at h;rw[if_pos f]at h
  split at h
  ·cases h
  ·split at h
   ·cases h
   ·rename_i y
    rcases zqq ok.ok sz hn e with z | z
    ·exact absurd z y
    ·rw[if_pos z]at h;cases h
def kR(h:Rat)(xs:List Rat)(r g:Nat):PyData:=.tuple [N h,TN xs,.int (r:Int),.int (g:Int)]
def Jh(K:wb)(a:Ad):Sp:=λvs H Q E=>∃x0 x1,vs=[x0,x1] /\ ∃(ra rb h:Rat)(xs:List Rat),Is K H x0 (N h)/\Is K H x1 (bD ra rb xs)/\fu ra rb xs/\eI ra rb xs=none/\(∀r g t,gF ra rb xs r g->t<=g->Cm 3600 (aj ra rb xs (r*(ai xs).length+t))) /\
 ((∀k,k<=30->cw ra rb (aY xs) (bC xs) k=true)->∀H',ah H H'->E (.ref a.fX) none H') /\ ∀r g v H',gF ra rb xs r g->ah H H'->Is K H' v (kR h xs r g)->Q v H'
theorem Yt{K:wb}{a:Ad}{H:Hp}{Q:VK}{E:XK}{ra rb h:Rat}{xs:List Rat}{v w:V}(h1:Is K H v (N h))(h2:Is K H w (bD ra rb xs))(ok:fu ra rb xs)(hw:eI ra rb xs=none)(c:∀r g t,gF ra rb xs r g->t<=g->Cm 3600 (aj ra rb xs (r*(ai xs).length+t)))(qe:(∀k,k<=30->cw ra rb (aY xs) (bC xs) k=true)->∀H',ah H H'->E (.ref a.fX) none H')(q:∀r g v H',gF ra rb xs r g->ah H H'->Is K H' v (kR h xs r g)->Q v H'):Jh K a [v,w] H Q E:=⟨_,_,rfl,ra,rb,h,xs,h1,h2,ok,hw,c,qe,q⟩
theorem ZF(T:Txt K mg a):aJ P w K mg base (eJ P w) 12 a.GR a.FI tm (Jh K a):=by
 refine T.F5.F.rP uZ ?_ ?_;walk_at "b2"
 refine⟨_,(ao (az 2 uZ.nd (oO (DT T) hr T.rl DB (ae (pv 1) af)))
     (ao (az 3 uZ.nd (oO (zlF T) hr T.EV DB (ae (ar (pv 1)) (ae (ar (pv 2)) (ae (ar (pv 2)) af)))))
     (ao (az 4 uZ.nd (au (zjS T) hr T.EH (ae (ar (au (IJ T) hr T.zM (ae (pv 1) (ae (pv 3) af)))) af)))
     (av (aE (br (ae (pv 0) (ae (ar (pv 1)) (ae (pv 3) (ae (pv 4) af)))))))))),?_⟩
 walk_at "cl";rw[show start IT [x0,x1]=[some x0,some x1,none,none,none]from rfl];obtain⟨ra,rb,hr',xs,ih,hw,ok,hno,hc,qe,q⟩:=h;obtain⟨rok,sz,hn⟩:=ok.round;have h8:=ok.h8;have bx:∀i,ag 4000 (xs.getD i 0):=λi=>(ok.cm.get i).mono (by decide)
 walk_at "gg";refine Ah hw h8 bx (λz=>absurd ok.h0 z) (λ_ vl H1 S1 il=>?_);have hw1:=hw.by S1;walk_at "gg";refine aD (j:=0) hw1 rfl (λvr ir=>?_);walk_at "gg";refine aD (j:=0) il rfl (λvz iz=>?_);walk_at "gg";refine aD (j:=1) il rfl (λvp ip=>?_);walk_at "gg";refine zmy ir iz ip ok.ok sz hn (tF ok.cm) (by decide) (λz H2 S2=>?_) (λz y H2 S2=>?_) (λc c1 c2 y z w H2 S2=>?_) (λy z H2 S2=>?_)
 . have RR:(0:Nat)<=30:=by decide
   have FF:jM ra rb xs 0:=λk hk=>by omega
   have EE:=z;walk_at "gg";obtain⟨g,R⟩:=N4 ok.ok ok.h1 ok.hp ok.h0 RR FF EE;have g1:=R.g1;have gN:=R.gN;have hvl:=kf xs;refine Eh (r:=0) (hw1.by S2) ok RR FF (λv3 H3 S3 i3=>?_);walk_at "gg";refine aD (j:=1) i3 rfl (λv4 i4=>?_);walk_at "gg";have hj:=R.join;refine MB (g:=g-1) i4 ok.ok (by rw[bR];exact ok.h1) (by rw[bR];exact h8) (by omega) (λt ht=>by rw[eT];exact(hc _ g t R (by omega)).mono (by decide)) (λt ht=>R.one t (by omega)) (by omega) (λH5 S5=>?_);rw[show g-1+1=g by omega];have S15:=S2.trans (S3.trans S5);walk_at "gg";refine aD (j:=1) (hw1.by S15) rfl (λv6 i6=>?_);walk_at "gg";refine cH (ds:=[N hr',TN xs,.int ((0:Nat):Int),.int (g:Int)]) (by simp) (.cons (ih.by (S1.trans S15)) (.cons i6 (.cons (cg.mpr rfl) (.cons (cg.mpr rfl) .nil)))) (λv7 H7 S7 i7=>?_);exact q 0 g v7 H7 R (S1.trans (S15.trans S7)) i7
 . rw[zx7 ok hno z]at y
   cases y
 . have RR:=c2
   have FF:jM ra rb xs c:=z;have EE:=w;walk_at "gg";obtain⟨g,R⟩:=N4 ok.ok ok.h1 ok.hp ok.h0 RR FF EE;have g1:=R.g1;have gN:=R.gN;have hvl:=kf xs;refine Eh (r:=c) (hw1.by S2) ok RR FF (λv3 H3 S3 i3=>?_);walk_at "gg";refine aD (j:=1) i3 rfl (λv4 i4=>?_);walk_at "gg";have hj:=R.join;refine MB (g:=g-1) i4 ok.ok (by rw[bR];exact ok.h1) (by rw[bR];exact h8) (by omega) (λt ht=>by rw[eT];exact(hc _ g t R (by omega)).mono (by decide)) (λt ht=>R.one t (by omega)) (by omega) (λH5 S5=>?_);rw[show g-1+1=g by omega];have S15:=S2.trans (S3.trans S5);walk_at "gg";refine aD (j:=1) (hw1.by S15) rfl (λv6 i6=>?_);walk_at "gg";refine cH (ds:=[N hr',TN xs,.int (c:Int),.int (g:Int)]) (by simp) (.cons (ih.by (S1.trans S15)) (.cons i6 (.cons (cg.mpr rfl) (.cons (cg.mpr rfl) .nil)))) (λv7 H7 S7 i7=>?_);exact q c g v7 H7 R (S1.trans (S15.trans S7)) i7
 . exact qe z H2 (S1.trans S2)
def p0(a b:Rat)(xs:List Rat)(i r g:Nat):Prop:=(i=0/\r=0/\g=1)\/(1<=i/\eI a b (aj a b xs i)=none/\gF a b (aj a b xs i) r g)
def dw(a b:Rat)(xs:List Rat)(i r g:Nat):Nat:=i+(r*(ai (aj a b xs i)).length+g)
def gq(a b:Rat)(xs:List Rat):Nat->List (Nat × Nat × Nat)->Nat->Prop
 | i,[],n=>i=n
 | i,e::es,n=>e.1=i/\p0 a b xs i e.2.1 e.2.2/\gq a b xs (dw a b xs i e.2.1 e.2.2) es n
theorem gq.snoc{a b:Rat}{xs:List Rat} : ∀{es:List (Nat × Nat × Nat)}{i n r g:Nat},gq a b xs i es n->p0 a b xs n r g->gq a b xs i (es++[(n,r,g)]) (dw a b xs n r g)
 | [],i,n,r,g,h,k=>by
  have e:i=n:=h;subst e;exact⟨rfl,k,rfl⟩
 | e::es,i,n,r,g,h,k=>⟨h.1,h.2.1,gq.snoc h.2.2 k⟩
def l_(a b:Rat)(xs:List Rat)(e:Nat × Nat × Nat):PyData:=kR (aQ a b xs e.1) (aj a b xs e.1) e.2.1 e.2.2
def sA(a b:Rat)(xs:List Rat)(n:Nat)(w:String):PyData:=.tuple [N (aQ a b xs n),TN (aj a b xs n),.str (vO w)]
def h_(a b:Rat)(xs:List Rat)(es:List (Nat × Nat × Nat))(n:Nat)(w:String):List PyData:=es.map (l_ a b xs)++[sA a b xs n w]
theorem Ap(h:Rat)(xs:List Rat)(r g:Nat):cS (kR h xs r g)=true:=by rw[kR,cS,bY,bY,bY,bY,bY,jU,tI];rfl
theorem zus(a b:Rat)(xs:List Rat)(n:Nat)(w:String):cS (sA a b xs n w)=true:=by rw[sA,cS,bY,bY,bY,bY,jU,tI];rfl
structure dA(a b:Rat)(xs:List Rat):Prop where
 ok:aV a b
 h1:1<=xs.length
 h6:xs.length<=6
 ph:∀x∈xs,eA x
theorem dA.hp{a b:Rat}{xs:List Rat}(h:dA a b xs):cV xs:=⟨λx hx=>(h.ph x hx).nn,λx hx=>(h.ph x hx).lt⟩
theorem dA.ZZ{a b:Rat}{xs:List Rat}(h:dA a b xs):pS b.den 47 xs:=by
 have h6:=h.h6
 have b6:∀j,ag 6 (xs.getD j 0):=λj=>by
  rcases wt j xs.length with z | z
  ·exact(h.ph _ (getD_mem z)).eX
  ·rw[wa,wA z];exact ag.zero.mono (by decide)
 have c0:Cm 43 xs:=(Cm.RT b6).mono (by omega);exact pS.of c0 (den_pos b) ⟨by have:=h.ok.bd;have:(2:Nat)^4=16:=(by decide);omega⟩
def kb(a b:Rat)(xs:List Rat)(i:Nat):Prop:=bZ a b xs i+216*(ai (aj a b xs i)).length<=6+216*6/\i+186*(ai (aj a b xs i)).length<=1+186*6
structure oy(a b:Rat)(xs:List Rat)(es:List (Nat × Nat × Nat))(n:Nat)(w:String):Prop where
 walk:gq a b xs 0 es n
 e1:1<=es.length
 bX:es.length<=9
 n1:1<=n
 word:eI a b (aj a b xs n)=some w
 sp:kb a b xs n
theorem dA.jy{a b:Rat}{xs:List Rat}(h:dA a b xs){i k:Nat}(hg:bZ a b xs (i+k)<=1100)(hk:k<=1024):Cm 3500 (aQ a b (aj a b xs i) k::aj a b (aj a b xs i) k) :=
 (Ys h.ok h.ZZ h.h1 h.hp (i:=i) (k:=k) (l:=10) (by rw[show(2:Nat)^10=1024 by decide];exact hk)).mono (by omega)
theorem dA.cm{a b:Rat}{xs:List Rat}(h:dA a b xs){i:Nat}(hg:bZ a b xs i<=1100)(hi:i<=1024):Cm 3500 (aQ a b xs i::aj a b xs i):=h.jy (i:=0) (k:=i) (by rw[Nat.zero_add];exact hg) hi
theorem dA.Af{a b:Rat}{xs:List Rat}(h:dA a b xs){i:Nat}(h1:1<=i)(c:Cm 3500 (aQ a b xs i::aj a b xs i)):fu a b (aj a b xs i) :=
 ⟨h.ok,by rw[bR];exact h.h1,by rw[bR];have:=h.h6;omega,h.hp.at h.ok.a0 h.ok.b0 i,h.hp.zero h.ok.a0 h.ok.b0 h.h1 h1,(oW c λy hy=>wo _ hy).mono (by decide)⟩
theorem dA.nf{a b:Rat}{xs:List Rat}(h:dA a b xs)(i:Nat):1<=(ai (aj a b xs i)).length/\(ai (aj a b xs i)).length<=6:=by
 have:=kf (aj a b xs i);rw[bR]at this;have h6:=h.h6;exact⟨pN (by rw[bR];exact h.h1),by omega⟩
theorem dA.one{a b:Rat}{xs:List Rat}(h:dA a b xs):kb a b xs 1:=by
 have h6:=h.h6;have:=mz h.ok.a0 h.ok.b0 h.h1 h.hp 1;have:=(h.nf 1).2;exact⟨by omega,by omega⟩
theorem dA.within{a b:Rat}{xs:List Rat}(h:dA a b xs){i r g t:Nat}(i1:1<=i)(sp:kb a b xs i)(n2:2<=(ai (aj a b xs i)).length)(R:gF a b (aj a b xs i) r g)(ht:t<=g):bZ a b xs (i+(r*(ai (aj a b xs i)).length+t))<=1100/\i+(r*(ai (aj a b xs i)).length+t)<=1024/\bZ a b xs (i+(r*(ai (aj a b xs i)).length+t))<=bZ a b xs i+216/\r*(ai (aj a b xs i)).length+t<=186:=by
 have h6:=h.h6;have nf:=(h.nf i).2;have hl:=bR a b xs i;have g1:=R.bZ h.ok (by rw[hl];exact h.h1) (h.hp.at h.ok.a0 h.ok.b0 i) (h.hp.zero h.ok.a0 h.ok.b0 h.h1 i1) ht;rw[hl]at g1
 have g2:30*xs.length+xs.length*xs.length<=216:=by
  have:xs.length*xs.length<=6*6:=WB h6 h6;omega
 have g3:r*(ai (aj a b xs i)).length<=30*6:=WB R.ky nf;have g4:=R.gN;obtain⟨s1,s2⟩:=sp;rw[lX];exact⟨by omega,by omega,by omega,by omega⟩
theorem dA.next{a b:Rat}{xs:List Rat}(h:dA a b xs){i r g:Nat}(i1:1<=i)(sp:kb a b xs i)(n2:2<=(ai (aj a b xs i)).length)(R:gF a b (aj a b xs i) r g):kb a b xs (dw a b xs i r g):=by
 obtain⟨_,_,w1,w2⟩:=h.within i1 sp n2 R (wg g);have f:=R.HC h.ok (by rw[bR];exact h.h1) (h.hp.at h.ok.a0 h.ok.b0 i);rw[eT]at f;obtain⟨s1,s2⟩:=sp;unfold kb dw;exact⟨by omega,by omega⟩
theorem Ji{a b:Rat}{xs:List Rat}(h:eI a b xs=none)(h1:1<=(ai xs).length):2<=(ai xs).length:=by
 unfold eI at h
 split at h
 ·cases h
 ·omega
def dN(es:List (Nat × Nat × Nat))(n j:Nat):Nat:=(es.map (·.1)++[n]).getD j 0
theorem gq.first{a b:Rat}{xs:List Rat}{es:List (Nat × Nat × Nat)}{i n:Nat}(h:gq a b xs i es n):dN es n 0=i:=by
 cases es with
 | nil=>exact(show i=n from h).symm
 | cons e es=>exact h.1
theorem gq.at{a b:Rat}{xs:List Rat} : ∀{es:List (Nat × Nat × Nat)}{i n:Nat},gq a b xs i es n->∀j (hj:j<es.length),es[j].1=dN es n j/\p0 a b xs es[j].1 es[j].2.1 es[j].2.2/\dw a b xs es[j].1 es[j].2.1 es[j].2.2=dN es n (j+1)
 | [],_,_,_,j,hj=>absurd hj (by simp)
 | e::es,i,n,h,j,hj=>by
  cases j with
  | zero =>
   have h1:=h.2.2.first;have e1:=h.1;refine⟨rfl,?_,?_⟩
   ·show p0 a b xs e.1 e.2.1 e.2.2
    rw[e1];exact h.2.1
   ·show dw a b xs e.1 e.2.1 e.2.2=dN es n 0
    rw[h1,e1]
  | succ j=>exact gq.at h.2.2 j (by simpa using hj)
theorem zuV(es:List (Nat × Nat × Nat))(n:Nat):dN es n es.length=n:=by
 unfold dN;rw[wa,wW (by simp)];simp
def ou(a b:Rat)(xs:List Rat):Prop:=∃es i,gq a b xs 0 es i/\1<=i/\eI a b (aj a b xs i)=none /\ ∀k,k<=30->cw a b (aY (aj a b xs i)) (bC (aj a b xs i)) k=true
def DV(K:wb)(a:Ad):Sp:=λvs H Q E=>∃x0,vs=[x0] /\ ∃(ra rb:Rat)(xs:List Rat),Is K H x0 (bD ra rb xs)/\dA ra rb xs /\
 (ou ra rb xs->∀H',ah H H'->E (.ref a.fX) none H') /\ ∀l H' es n w,oy ra rb xs es n w->H l=none->ah H H'->Is K H' (.ref l) (.list (h_ ra rb xs es n w))->Q (.ref l) H'
theorem zrM{K:wb}{a:Ad}{H:Hp}{Q:VK}{E:XK}{ra rb:Rat}{xs:List Rat}{v:V}(h:Is K H v (bD ra rb xs))(ok:dA ra rb xs)(qe:ou ra rb xs->∀H',ah H H'->E (.ref a.fX) none H')(q:∀l H' es n w,oy ra rb xs es n w->H l=none->ah H H'->Is K H' (.ref l) (.list (h_ ra rb xs es n w))->Q (.ref l) H'):DV K a [v] H Q E:=⟨_,rfl,ra,rb,xs,h,ok,qe,q⟩
theorem Tc(T:Txt K mg a):aJ P w K mg base (eJ P w) 13 a.G3 a.FO zG (DV K a):=by
 refine T.p7.F.rP kN ?_ ?_;walk_at "b1"
 refine⟨_,(ao (az 1 kN.nd (e_ (ae (br (ae (bW (v:=.ref a.cW) rfl T.dF rfl) (ae (ar (pv 0)) (ae ay (ae ay af))))) af)))
     (ao (az 2 kN.nd ik)
     (ao (mG x6 (bS CD (pv 2) ik (a_ _)) (ao (az 3 kN.nd (dQ c_ (pv 1) (gU h9 ay) (λ_ _=>rfl)))
     (ao (az 4 kN.nd (au (zne T) hr T.Fc (ae (br (ae (ar (pv 0)) (ae (ar (pv 3)) af))) (ae (ar (pv 3)) (ae (ar (pv 3)) af)))))
     (ao (az 5 kN.nd (au (gn T) hr T.fM (ae (ar (pv 3)) (ae (ar (pv 4)) af))))
     (ao (az 2 kN.nd (au (UU T) hr T.Gu (ae (ar (pv 4)) af)))
     (av (mR (m6 Wh Wf Wg kY (pv 1) (ae (rZ (bS CD (pv 2) ik (a_ _)) (oO (ZF T) hr T.F5 DB (ae (pv 5) (ae (ar (pv 4)) af))) (br (ae (pv 5) (ae (ar (ar (pv 4))) (ae (pv 2) af))))) af)))))))))
     (av (aE (pv 1)))))),?_⟩
 walk_at "cl";rw[show start Ml [x0]=[some x0,none,none,none,none,none]from rfl];obtain⟨ra,rb,xs,hw,ok,qe,q⟩:=h;walk_at "gg";refine aD (j:=1) hw rfl (λv1 i1=>?_);walk_at "gg";refine cH (ds:=[N 0,TN xs,.int 0,.int 1]) (by simp) (.cons (dP 0 (T.d9 _) rfl rfl) (.cons i1 (.cons (cg.mpr rfl) (.cons (cg.mpr rfl) .nil)))) (λv2 H2 S2 i2=>?_);walk_at "gg";refine ff (by simp) (λlr H3 n3 S3 e3=>?_);have hlr:H lr=none:=jf S2 n3;walk_at "gg"
 refine yH (λm σ' H'=>∃(us:List V)(es:List (Nat × Nat × Nat))(vw:V)(o3 o4 o5:Option V),σ'=[some x0,some (.ref lr),some vw,o3,o4,o5]/\ah H H'/\H' lr=some (.lst us) /\
   ((vw=.bj /\ ∃i r g,gq ra rb xs 0 es i/\p0 ra rb xs i r g/\ak K H' us ((es++[(i,r,g)]).map (l_ ra rb xs))/\(1<=i->kb ra rb xs i)/\es.length+(ai (aj ra rb xs (dw ra rb xs i r g))).length<=6/\m=(ai (aj ra rb xs (dw ra rb xs i r g))).length) \/
     ∃n w,vw=.str (vO w)/\oy ra rb xs es n w/\ak K H' us (h_ ra rb xs es n w)/\m=0)) _ ⟨[v2],[],.bj,_,_,_,rfl,S2.trans S3,e3,.inl ⟨rfl,0,0,1,rfl,.inl ⟨rfl,rfl,rfl⟩,.cons (i2.by S3) .nil,λh=>by omega,by have:=(ok.nf (dw ra rb xs 0 0 1)).2;simpa using this,rfl⟩⟩ ?_
 rintro m σ' H4 ⟨us,es,vw,o3,o4,o5,rfl,S4,e4,C⟩;rcases C with⟨rfl,i,r,g,wk,ro,t4,sp,bX,rfl⟩ | ⟨n,w',rfl,P,t4,rfl⟩
 . have hN:=(ok.nf i).2
   have h6:=ok.h6
   have facts:g<=40/\(1<=r->fu ra rb (aj ra rb xs i)/\r<=30/\jM ra rb (aj ra rb xs i) r)/\bZ ra rb xs (dw ra rb xs i r g)<=1100/\dw ra rb xs i r g<=1024/\bZ ra rb xs i<=1100/\i<=1024/\(∀t,t<=g->bZ ra rb xs (i+(r*(ai (aj ra rb xs i)).length+t))<=1100)/\kb ra rb xs (dw ra rb xs i r g)/\r<=30:=by
     rcases ro with⟨rfl,rfl,rfl⟩ | ⟨i1,hno,R⟩
     . have e:dw ra rb xs 0 0 1=1:=by unfold dw;omega
       have h2:=mz ok.ok.a0 ok.ok.b0 ok.h1 ok.hp;refine⟨by omega,λz=>by omega,by rw[e];have:=h2 1;omega,by omega,by have:=h2 0;omega,by omega,λt ht=>?_,by rw[e];exact ok.one,by omega⟩;have h3:=h2 (0+(0*(ai (aj ra rb xs 0)).length+t));have h4:(0+(0*(ai (aj ra rb xs 0)).length+t))*xs.length<=1*6:=WB (by omega) h6;omega
     . have n2:=Ji hno (ok.nf i).1
       have sp:=sp i1;have w:=λ{t:Nat}(ht:t<=g)=>ok.within i1 sp n2 R ht
       have w0:=w (wg g);have g4:=R.gN;have si:=sp.1;have si2:=sp.2;have c:Cm 3500 (aQ ra rb xs i::aj ra rb xs i):=ok.cm (by omega) (by omega);exact⟨by omega,λ_=>⟨ok.Af i1 c,R.ky,R.free⟩,w0.1,w0.2.1,by omega,by omega,λt ht=>(w ht).1,ok.next i1 sp n2 R,R.ky⟩
   obtain⟨g40,fr,gl,nl,gi,ni,gw,sl,ky⟩:=facts;have cI:=ok.cm gi ni;have cL:=ok.cm gl nl
   have n1:1<=dw ra rb xs i r g:=by
     unfold dw;rcases ro with⟨rfl,rfl,rfl⟩ | ⟨i1,hno,R⟩
     . omega
     . omega
   have swL:=ok.Af n1 cL;have hrN:r*(ai (aj ra rb xs i)).length<=30*6:=WB ky hN;have hul:=t4.length;rw[we,wH,vJ]at hul;have hnf:=(ok.nf (dw ra rb xs i r g)).1;walk_at "gg";refine rD ?_;walk_at "gg"
   have il:Is K H4 (.ref lr) (.list (es.map (l_ ra rb xs)++[l_ ra rb xs (i,r,g)])):=by
     rw[w8]at t4;exact cB.mpr ⟨lr,us,rfl,.of e4,t4⟩
   refine my il (λv5 i5=>?_);have i5:Is K H4 v5 (kR (aQ ra rb xs i) (aj ra rb xs i) r g):=i5;have hw4:=hw.by S4;walk_at "gg";refine aD (j:=0) hw4 rfl (λv6 i6=>?_);walk_at "gg";refine aD (j:=1) i5 rfl (λv7 i7=>?_);walk_at "gg";refine cH (ds:=[R ra rb,TN (aj ra rb xs i)]) (by simp) (.cons i6 (.cons i7 .nil)) (λv8 H8 S8 i8=>?_);have i58:=i5.by S8;walk_at "gg";refine aD (j:=2) i58 rfl (λv9 i9=>?_);rw[cg.mp i9];walk_at "gg";refine aD (j:=3) i58 rfl (λv10 i10=>?_);rw[cg.mp i10];walk_at "gg";have bH:ag 8000 (aQ ra rb (aj ra rb xs i) (r*(ai (aj ra rb xs i)).length)):=((ok.jy (i:=i) (k:=r*(ai (aj ra rb xs i)).length) (by have:=gw 0 (by omega);rw[xB]at this;exact this) (by omega)).eX (wu ..)).mono (by decide)
   have cG:∀t,t<=g->Cm 3700 (aQ ra rb (aj ra rb (aj ra rb xs i) (r*(ai (aj ra rb xs i)).length)) t::aj ra rb (aj ra rb (aj ra rb xs i) (r*(ai (aj ra rb xs i)).length)) t):=λt ht=>by
     rw[eT ra rb xs];exact(ok.jy (i:=i+r*(ai (aj ra rb xs i)).length) (k:=t) (by have:=gw t ht;rw[<- W0]at this;exact this) (by omega)).mono (by decide)
   refine U2 (show Is K H8 v8 (bD ra rb (aj ra rb xs i))from i8) ok.ok (by rw[bR];exact ok.h1) (by rw[bR];omega) fr g40 bH cG (λv11 H11 S11 i11=>?_);have i11:Is K H11 v11 (.tuple [N (aQ ra rb (aj ra rb xs i) (r*(ai (aj ra rb xs i)).length+g)),bD ra rb (aj ra rb (aj ra rb xs i) (r*(ai (aj ra rb xs i)).length+g))]):=i11;rw[eT]at i11;have i11:Is K H11 v11 (.tuple [N (aQ ra rb (aj ra rb xs i) (r*(ai (aj ra rb xs i)).length+g)),bD ra rb (aj ra rb xs (dw ra rb xs i r g))]):=i11;have i511:=i58.by S11;have bI:ag 3500 (aQ ra rb xs i):=cI.eX (wu ..);have bJ:ag 3500 (aQ ra rb (aj ra rb xs i) (r*(ai (aj ra rb xs i)).length+g)):=(ok.jy (i:=i) (k:=r*(ai (aj ra rb xs i)).length+g) gl (by omega)).eX (wu ..);walk_at "gg";refine aD (j:=0) i511 rfl (λv12 i12=>?_);walk_at "gg";refine aD (j:=0) i11 rfl (λv13 i13=>?_);walk_at "gg";rename_i v14 H14 S14 i14;rw[mB]at i14;have i14:Is K H14 v14 (N (aQ ra rb xs (dw ra rb xs i r g))):=i14;have i1114:=i11.by S14;refine aD (j:=1) i1114 rfl (λv15 i15=>?_);have i15:Is K H14 v15 (bD ra rb (aj ra rb xs (dw ra rb xs i r g))):=i15;walk_at "gg";refine U9 i15 swL (λH16 S16=>?_);have S816:=S8.trans (S11.trans (S14.trans S16));have e16:=S816 _ _ e4;have t16:ak K H16 us ((es++[(i,r,g)]).map (l_ ra rb xs)):=ak.same S816 _ _ t4;have S416:=S4.trans S816;have i1116:=i1114.by S16;have i1416:=i14.by S16;have i1516:=i15.by S16;have wk':=wk.snoc ro;generalize hlead:dw ra rb xs i r g=n at *;cases hwd:eI ra rb (aj ra rb xs n)with
   | none =>
     show iM 2 V.bj _ _ _
     walk_at "gg";refine lq (aK.of e16) ?_;walk_at "gg";refine aD (j:=1) i1116 rfl (λv17 i17=>?_);walk_at "gg";have n2:=Ji hwd hnf;refine Yt i1416 (show Is K H16 v17 (bD ra rb (aj ra rb xs n))from i17) swL hwd (λr' g' t R ht=>?_) (λz H' S=>qe ⟨_,n,wk',n1,hwd,z⟩ H' (S416.trans S)) (λr' g' v18 H18 R S18 i18=>?_)
     . have w:=ok.within n1 sl n2 R ht
       rw[eT];exact(oW (ok.cm w.1 w.2.1) λy hy=>wo _ hy).mono (by decide)
     . walk_at "gg"
       have e18:=S18 _ _ e16;refine kS e18 (by omega) (λH19 E19 e19=>?_);have K19:=E19.keep e18;have fw:=R.HC ok.ok (by rw[bR];exact ok.h1) (ok.hp.at ok.ok.a0 ok.ok.b0 n);rw[eT]at fw;have fw:(ai (aj ra rb xs (dw ra rb xs n r' g'))).length<(ai (aj ra rb xs n)).length:=fw;walk_at "gg";refine⟨_,fw,us++[v18],es++[(i,r,g)],.bj,_,_,_,rfl,(S416.trans S18).grow hlr E19,e19,.inl ⟨rfl,n,r',g',wk',.inr ⟨n1,hwd,R⟩,?_,λ_=>sl,?_,rfl⟩⟩
       . rw[w8]
         exact(ak.keep K19 _ _ (zev _ (λe=>Ap _ _ _ _) _) (ak.same S18 _ _ t16)).append (.cons (i18.kA K19 (Ap _ _ _ _)) .nil)
       . rw[wH,vJ]
         omega
   | some wd =>
     show iM 2 (V.str (vO wd)) _ _ _
     walk_at "gg";refine lq (aK.of e16) ?_;walk_at "gg"
     . rename_i z;cases z
     . refine aD (j:=1) i1116 rfl (λv17 i17=>?_)
       walk_at "gg";refine aD (j:=1) i17 rfl (λv18 i18=>?_);walk_at "gg";refine cH (ds:=[N (aQ ra rb xs n),TN (aj ra rb xs n),.str (vO wd)]) (by simp) (.cons i1416 (.cons i18 (.cons (iR.mpr rfl) .nil))) (λv19 H19 S19 i19=>?_);walk_at "gg";have e19:=S19 _ _ e16;refine kS e19 (by omega) (λH20 E20 e20=>?_);have K20:=E20.keep e19;walk_at "gg";refine⟨0,by omega,us++[v19],es++[(i,r,g)],_,_,_,_,rfl,(S416.trans S19).grow hlr E20,e20,.inr ⟨n,wd,rfl,⟨wk',by simp,by rw[wH,vJ];omega,n1,hwd,sl⟩,?_,rfl⟩⟩;exact(ak.keep K20 _ _ (zev _ (λe=>Ap _ _ _ _) _) (ak.same S19 _ _ t16)).append (.cons (i19.kA K20 (zus _ _ _ _ _)) .nil)
 . walk_at "gg"
   . rename_i z;cases z
   . exact q lr H4 es n w' P hlr S4 (cB.mpr ⟨lr,us,rfl,.of e4,t4⟩)
def Ih(K:wb):Sp:=λvs H Q _=>∃x0 x1,vs=[x0,x1] /\ ∃(a:Addr)(ns:List Int)(k:Int),x0=.ref a/\x1=.int k/\gZ K H a (ns.map V.int)/\ns.length<=63/\0<=k/\k<=1000 /\ ∀c:Int,Q (.int c) H
theorem zqD{K:wb}{H:Hp}{Q:VK}{E:XK}{a:Addr}{ns:List Int}{k:Int}(h:gZ K H a (ns.map V.int))(hl:ns.length<=63)(h0:0<=k)(h1:k<=1000)(q:∀c:Int,Q (.int c) H):Ih K [.ref a,.int k] H Q E:=⟨_,_,rfl,a,ns,k,rfl,rfl,h,hl,h0,h1,q⟩
theorem zqG(T:Txt K mg a):aJ P w K mg base aT 1 a.G7 a.Fz yl (Ih K):=by
 refine T.F7.F.ok zqZ ?_ ?_;walk_at "b2"
 refine⟨_,(ao (bN (bS mO (pv 1) (bQ (show aO _ (.builtin "len") (cN K)from dU) rfl T.z_len dC (ae (pv 0) af)) (a_ _)) (av (aE (bQ kE rfl T.z_abs kC (ae (dQ c_ (pv 0) (pv 1) (λ_ _=>rfl)) af)))) bP)
     (ao (bN (bS (show aN _ (compareOp .Eq) (cz K)from cZ hu) (bQ (show aO _ (.builtin "len") (cN K)from dU) rfl T.z_len dC (ae (pv 0) af)) ay (a_ _)) (av (aE (aA cb (aA cj ay (pv 1)) ay))) bP)
     (av (aE (aA cb (aA gr (bQ kE rfl T.z_abs kC (ae (dQ c_ (pv 0) (aA gr (pv 1) (bQ (show aO _ (.builtin "len") (cN K)from dU) rfl T.z_len dC (ae (pv 0) af))) (λ_ _=>rfl)) af)) (LR (v:=100000000000000000) ⟨by decide,by decide,by decide⟩ (by decide +kernel))) (aA cj ay (pv 1))))))),?_⟩
 walk_at "cl";rw[show start DA [x0,x1]=[some x0,some x1]from rfl];obtain⟨a',ns,k,rfl,rfl,hs,hl,h0,h1,q⟩:=h;walk_at "gg";refine jJ hs.sq ?_;walk_at "gg"
 . refine Lm hs h0 (by assumption) (λz=>?_)
   walk_at "gg";exact q _
 . refine jJ hs.sq ?_
   walk_at "gg"
   . exact q _
   . refine jJ hs.sq ?_
     walk_at "gg";refine Lm hs (qw _ (by omega)) (V8 _ (by omega)) (λz=>?_);walk_at "gg";exact q _
def b_(H:Hp)(p:Addr)(k:Int):Prop:=∃(a:Int)(b:Bool)(n:Int),H p=some (.lst [.int a,.bl b,.int n])/\0<=n/\n<=k
theorem b_.same{H H':Hp}{p:Addr}{k:Int}(s:ah H H')(h:b_ H p k):b_ H' p k:=by
 obtain⟨x,y,n,e,h1,h2⟩:=h;exact⟨x,y,n,s _ _ e,h1,h2⟩
theorem b_.le{H:Hp}{p:Addr}{j k:Int}(h:b_ H p j)(e:j<=k):b_ H p k:=by
 obtain⟨x,y,n,z,h1,h2⟩:=h;exact⟨x,y,n,z,h1,Int.le_trans h2 e⟩
theorem b_.ne{H:Hp}{p q:Addr}{k:Int}(e:H q=none)(h:b_ H p k):q≠p:=by
 obtain⟨x,y,n,z,_⟩:=h;exact(jL z e).symm
def M_(K:wb):Sp:=λvs H Q _=>∃x0 x1,vs=[x0,x1] /\ ∃(a:Addr)(ns:List Int)(k:Int),x0=.ref a/\x1=.int k/\gZ K H a (ns.map V.int)/\ns.length<=63/\0<=k/\k<=1000 /\
 ∀p H',H p=none->ah H H'->b_ H' p 0->Q (.ref p) H'
theorem Mc{K:wb}{H:Hp}{Q:VK}{E:XK}{a:Addr}{ns:List Int}{k:Int}(h:gZ K H a (ns.map V.int))(hl:ns.length<=63)(h0:0<=k)(h1:k<=1000)
  (q:∀p H',H p=none->ah H H'->b_ H' p 0->Q (.ref p) H'):M_ K [.ref a,.int k] H Q E:=⟨_,_,rfl,a,ns,k,rfl,rfl,h,hl,h0,h1,q⟩
local macro_rules | `(tactic| walk_at "pen")=>`(tactic| first
 | assumption
 | (apply b_.same;(focus assumption);walk_at "pen"))
local macro_rules | `(tactic| walk_at "ne")=>`(tactic| ((with_reducible apply b_.ne); (focus assumption); walk_at "pen"))
local macro_rules | `(tactic| walk_at "penle")=>`(tactic| exact b_.le (by walk_at "pen") (by omega))
theorem Pz(T:Txt K mg a):aJ P w K mg base aT 2 a.Hq a.Gk sY (M_ K):=by
 refine T.zY.F.ok NI ?_ ?_;walk_at "b2"
 refine⟨_,(ao (az 2 NI.nd (au (zqG T) hr T.F7 (ae (pv 0) (ae (pv 1) af))))
     (av (aE (e_ (ae (pv 2) (ae (fB Bg (pv 2) (LR (v:=1000000000000000000) ⟨by decide,by decide,by decide⟩ (by decide +kernel)) (a_ _)) (ae ay af))))))),?_⟩
 walk_at "cl";rw[show start J0 [x0,x1]=[some x0,some x1,none]from rfl];obtain⟨a',ns,k,rfl,rfl,hs,hl,h0,h1,q⟩:=h;walk_at "gg";refine zqD hs hl h0 h1 (λc=>?_);walk_at "gg";exact ff (by show 3<=1000;decide) λp H' hp s e=>q p H' hp s ⟨_,_,0,e,by decide,by decide⟩
def Ky(K:wb):Sp:=λvs H Q _=>∃x0 x1,vs=[x0,x1] /\ ∃(p:Addr)(k m:Int),x0=.ref p/\x1=.int m/\b_ H p k/\k<=1000000/\0<m/\Bd 8999 m /\
 ∀(r:Int)(H':Hp),0<=r->r<m->Exc p H H'->bG H H'->b_ H' p (k+1)->Q (.int r) H'
theorem zrd{K:wb}{H:Hp}{Q:VK}{E:XK}{p:Addr}{k m:Int}(h:b_ H p k)(hk:k<=1000000)(hm:0<m)(hb:Bd 8999 m)
  (q:∀(r:Int)(H':Hp),0<=r->r<m->Exc p H H'->bG H H'->b_ H' p (k+1)->Q (.int r) H'):Ky K [.ref p,.int m] H Q E:=⟨_,_,rfl,p,k,m,rfl,rfl,h,hk,hm,hb,q⟩
local macro_rules | `(tactic| walk_at "gs")=>`(tactic| ((with_reducible apply zrd); (focus walk_at "pen"); (focus omega); (focus omega); (focus walk_at "bd128"); intro _ _ _ _ _ _ _))
theorem fU(T:Txt K mg a):aJ P w K mg base aT 1 a.G1 a.FG yq (Ky K):=by
 refine T.fj.F.ok r_ ?_ ?_;walk_at "b2"
 refine⟨_,(ao (mD (aA cb (ar (pv 0)) ay) (om (pv 0) ay pY))
     (ao (bN (dD (ar (pv 0))) (ao (az 2 r_.nd (aA gr (ar (pv 0)) (pv 1)))
     (ao (mD (aA eS (ar (pv 0)) (pv 1)) (om (pv 0) ay pY))
     (av (aE (pv 2))))) bP)
     (ao (az 3 r_.nd (aA gr (aA cj (aA cb (aA gr (ar (pv 0)) ay) ay) (aA cb ay (aA cj (ar (pv 0)) (ar (pv 0))))) ay))
     (ao (az 3 r_.nd (aA gr (aA cj (pv 3) (aA cb (pv 3) (aA cj ay (ar (pv 0))))) ay))
     (av (aE (aA gr (aA eS (aA gr (aA cj (pv 3) (aA cb (aA eS (pv 3) ay) ay)) ay) ay) (pv 1)))))))),?_⟩
 walk_at "cl";rw[show start Ld [x0,x1]=[some x0,some x1,none,none]from rfl];obtain⟨p,k,m,rfl,rfl,⟨x,y,n,hp,hn0,hn1⟩,hk,hm,hbm,q⟩:=h;walk_at "gg"
 all_goals
   exact q _ _ (qw _ (by omega)) (V8 _ hm) (by walk_at "exc") (Exc.keep (p:=p) (by walk_at "exc") hp) ⟨_,_,_,by assumption,by omega,by omega⟩
def Cu(K:wb):Sp:=λvs H Q _=>∃x0 x1,vs=[x0,x1] /\ ∃(t b:Int),x0=.int t/\x1=.int b/\0<b/\Bd 8999 b /\ ∀v H',ah H H'->Is K H' v (N (wp t b))->Q v H'
theorem m_{K:wb}{H:Hp}{Q:VK}{E:XK}{t b:Int}(hb:0<b)(hB:Bd 8999 b)(q:∀v H',ah H H'->Is K H' v (N (wp t b))->Q v H'):Cu K [.int t,.int b] H Q E:=⟨_,_,rfl,t,b,rfl,rfl,hb,hB,q⟩
theorem zvf{K:wb}{H:Hp}{Q:VK}{E:XK}{t b:Int}(hb:0<b)(h1 : -100000000000000000000000000000000000000<=t)(h2:t<=100000000000000000000000000000000000000)(h3 : -100000000000000000000000000000000000000<=b)(h4:b<=100000000000000000000000000000000000000)
  (q:∀v H' (x:Rat),ah H H'->Is K H' v (N x)->x=wp t b->ag 128 x->Q v H'):Cu K [.int t,.int b] H Q E :=
 m_ hb ((Bd.jQ h3 h4).mono (by decide)) λv H' s h=>q v H' _ s h rfl (ag.divInt (show b≠0 by omega) (Bd.jQ h1 h2) (Bd.jQ h3 h4))
local macro_rules | `(tactic| walk_at "gs")=>`(tactic| ((with_reducible apply zvf); (focus omega); (focus omega); (focus omega); (focus omega); (focus omega); intro _ _ _ _ _ _ _))
theorem gy(T:Txt K mg a):aJ P w K mg base aT 1 a.Hj a.F0 ye (Cu K):=by
 refine T.fK.F.ok zy ?_ ?_;walk_at "b2"
 refine⟨_,(ao (az 2 zy.nd (bQ kE rfl T.z_abs kC (ae (pv 0) af)))
     (ao (az 3 zy.nd (pv 1))
     (ao (mG vf (bS nv (pv 3) ay (a_ _)) (av (zAy (i:=2) (j:=3) rfl zy.nd rfl rfl (by decide) rfl rfl (ae (pv 3) (ae (aA gr (pv 2) (pv 3)) af)) rfl)))
     (av (aE (br (ae (aA eS (pv 0) (pv 2)) (ae (aA eS (pv 1) (pv 2)) af)))))))),?_⟩
 walk_at "cl";rw[show start Jg [x0,x1]=[some x0,some x1,none,none]from rfl];obtain⟨t,b,rfl,rfl,hp,hB,q⟩:=h;have hb:b≠0:=by omega
 walk_at "gg";refine KW (λσ H'=>∃(x y:Int),σ = [some (.int t),some (.int b),some (.int x),some (.int y)]/\0<=x/\0<=y/\wZ x y=wZ t b/\H'=H) (λσ=>(KH σ 3).toNat) ⟨_,_,rfl,by split<;>omega,by omega,sO t b,rfl⟩ ?_;rintro σ H' ⟨x,y,rfl,hx,hy,hg,rfl⟩
 have hgb:Bd 8999 ((wZ t b:Nat):Int):=hB.le (by
   have:wZ t b ∣ b.natAbs:=Int.gcd_dvd_natAbs_right t b;have:=ue (by omega) this
   simpa using this)
 walk_at "gg"
 . refine Iy ?_
   walk_at "gg";have h1:=qw x (show y≠0 by omega);have h2:=V8 x (show 0<y by omega);refine⟨?_,_,_,rfl,hy,h1,?_,rfl⟩
   . show(x % y).toNat<y.toNat
     omega
   . rw[<- hg];exact KY (by omega) hx
 . rename_i h0
   have e0:y=0:=by omega
   subst e0
   have e:x=((wZ t b:Nat):Int):=by
     rw[<- hg,xJ];omega
   have e1:x=dv t b:=by unfold dv;rw[if_neg (by omega),<- e]
   rw[e1];have hd:mC t (dv t b):=⟨M7 hb,by unfold dv;rw[if_neg (by omega)];exact hgb⟩;refine pj hd ?_;walk_at "gg";exact eC (Nj hb) (zAM hb) q
theorem zK{w z n d:Int}(hw:1<=w)(hw8:w<=8)(hz:w<z)(hz4:z<=4*w)(hn:0<=n)(hd:1<=d)(hnd:n<=d)(hd12:d<=12):aV (wp z w) (wp n d):=by
 obtain⟨a1,a2,a3⟩:=JL (x:=wp z w) rfl hw hw8 (by omega) hz4;obtain⟨b1,b2,b3⟩:=Br (y:=wp n d) rfl hd hd12 hn hnd
 have h1:(1:Rat)<wp z w:=by
  have:=cA z (show w≠0 by omega);refine Rat.not_le.mp λk=>?_
  have h2:=qy k (vB (kU (show 0<w by omega)));rw[this,QM]at h2;have:=WO.mp h2;omega
 exact⟨a1,a2,a3,b1,b2,b3,by grind⟩
theorem I0{n d:Int}(hn:0<=n)(hd:1<=d)(hnd:n<=d)(hd12:d<=12):aV 1 (wp n d):=by
 obtain⟨b1,b2,b3⟩:=Br (y:=wp n d) rfl hd hd12 hn hnd;exact⟨by decide,by decide,by decide,b1,b2,b3,by grind⟩
theorem yf{w t n d:Int}(hw:2<=w)(hw8:w<=8)(ht:1<=t)(htw:t<w)(hn:0<=n)(hd:1<=d)(hnd:n<=d)(hd12:d<=12)(h:(w-t)*d<=n*w):aV (wp t w) (wp n d):=by
 obtain⟨a1,a2,a3⟩:=JL (x:=wp t w) rfl (by omega) hw8 ht (by omega);obtain⟨b1,b2,b3⟩:=Br (y:=wp n d) rfl hd hd12 hn hnd;refine⟨a1,a2,a3,b1,b2,b3,?_⟩;have e1:=cA t (show w≠0 by omega);have e2:=cA n (show d≠0 by omega);have pw:(0:Rat)<(w:Rat):=kU (show 0<w by omega);have pd:(0:Rat)<(d:Rat):=kU (show 0<d by omega);refine Vd.mp λk=>?_
 have k1:=Rat.mul_lt_mul_of_pos_right k (Vz pw pd)
 have e3:(wp t w+wp n d)*((w:Rat)*(d:Rat))=(t:Rat)*(d:Rat)+(n:Rat)*(w:Rat):=by
  rw[<- e1,<- e2];grind
 rw[e3,QM]at k1
 have k2:((t*d+n*w:Int):Rat)<((w*d:Int):Rat):=by
  rw[VU,vi,vi,vi];exact k1
 have k3:=QN.mp k2;rw[Int.sub_mul]at h;omega
theorem Ox{t w d:Int}(hw:2<=w)(ht:1<=t)(htw:t<w)(hd:1<=d):1<=0-((t-w)*d).fdiv w/\0-((t-w)*d).fdiv w<=d/\(w-t)*d<=(0-((t-w)*d).fdiv w)*w:=by
 rw[W1 _ (by omega)];have e:(t-w)*d = -((w-t)*d):=by rw[<- Int.neg_mul];congr 1;omega
 have p:1<=(w-t)*d:=by
  have:=Int.mul_le_mul (show(1:Int)<=w-t by omega) hd (by omega) (by omega);omega
 have hle:(w-t)*d<=w*d:=Wb (by omega) (by omega);rw[e];generalize (w-t)*d=m at *;have h1:=XY (-m) (show w≠0 by omega);have h2:=Int.lt_ediv_add_one_mul_self (-m) (show 0<w by omega);generalize -m / w=q at *;have e2:(0-q)*w = -(q*w):=by rw[Int.sub_mul,Int.zero_mul];omega
 have e3:(q+1)*w=q*w+w:=by rw[Int.add_mul,QK]
 rw[e3]at h2;refine⟨?_,?_,by rw[e2];omega⟩
 ·refine Int.not_lt.mp λk=>?_
  have:0<=q*w:=X9 (by omega) (by omega);omega
 ·refine Int.not_lt.mp λk=>?_
  have:(q+1)*w<=(-d)*w:=Wb (by omega) (by omega);rw[e3,Int.neg_mul,Int.mul_comm d w]at this;omega
def Pf(K:wb):Sp:=λvs H Q _=>∃x0,vs=[x0] /\ ∃(p:Addr)(k:Int),x0=.ref p/\b_ H p k/\k<=1000 /\ ∀v H' (a b:Rat),Exc p H H'->bG H H'->b_ H' p (k+8)->Is K H' v (R a b)->aV a b->Q v H'
theorem YD{K:wb}{H:Hp}{Q:VK}{E:XK}{p:Addr}{k:Int}(h:b_ H p k)(hk:k<=1000)(q:∀v H' (a b:Rat),Exc p H H'->bG H H'->b_ H' p (k+8)->Is K H' v (R a b)->aV a b->Q v H'):Pf K [.ref p] H Q E:=⟨_,rfl,p,k,rfl,h,hk,q⟩
theorem zja(T:Txt K mg a):aJ P w K mg base aT 2 a.EK a.Er zt (Pf K):=by
 refine T.Ez.F.ok jj ?_ ?_;walk_at "b1"
 refine⟨_,(ao (az 1 jj.nd (au (fU T) hr T.fj (ae (pv 0) (ae ay af))))
     (ao (az 2 jj.nd (aA cb ay (au (fU T) hr T.fj (ae (pv 0) (ae ay af)))))
     (ao (az 3 jj.nd (aA cb ay (au (fU T) hr T.fj (ae (pv 0) (ae ay af)))))
     (ao (az 4 jj.nd (au (fU T) hr T.fj (ae (pv 0) (ae (aA cb (pv 3) ay) af))))
     (ao (bN (bS (show aN _ (compareOp .Eq) (cz K)from cZ hu) (au (fU T) hr T.fj (ae (pv 0) (ae ay af))) ay (a_ _)) (av (az 4 jj.nd (bQ (show aO _ (.builtin "min") B0 from zu8 rfl) rfl T.z_min zBk (ae (pv 4) (ae ay af))))) bP)
     (ao (bN (bS mO (pv 1) ay (a_ _)) (av (aE (br (ae (au (gy T) hr T.fK (ae (aA cb (aA cb (pv 2) ay) (aA cj (pv 1) (au (fU T) hr T.fj (ae (pv 0) (ae (aA cj ay (pv 2)) af))))) (ae (pv 2) af))) (ae (au (gy T) hr T.fK (ae (pv 4) (ae (pv 3) af))) af))))) bP)
     (ao (bN (bS (show aN _ (compareOp .Eq) (cz K)from cZ hu) (pv 1) ay (a_ _)) (av (aE (br (ae (br (ae ay (ae ay af))) (ae (au (gy T) hr T.fK (ae (pv 4) (ae (pv 3) af))) af))))) bP)
     (ao (az 2 jj.nd (aA cb ay (aA gr (pv 2) ay)))
     (ao (az 5 jj.nd (aA cb ay (au (fU T) hr T.fj (ae (pv 0) (ae (aA jn (pv 2) ay) af)))))
     (ao (bN (bS (show aN _ (compareOp .Eq) (cz K)from cZ hu) (pv 1) ay (a_ _)) (av (aE (br (ae (au (gy T) hr T.fK (ae (pv 5) (ae (pv 2) af))) (ae (au (gy T) hr T.fK (ae (aA jn (pv 2) (pv 5)) (ae (pv 2) af))) af))))) bP)
     (ao (az 6 jj.nd (aA jn ay (aA eS (aA cj (aA jn (pv 5) (pv 2)) (pv 3)) (pv 2))))
     (av (aE (br (ae (au (gy T) hr T.fK (ae (pv 5) (ae (pv 2) af))) (ae (au (gy T) hr T.fK (ae (aA cb (pv 6) (au (fU T) hr T.fj (ae (pv 0) (ae (aA cb (aA jn (pv 3) (pv 6)) ay) af)))) (ae (pv 3) af))) af)))))))))))))))),?_⟩
 walk_at "cl";rw[show start Ma [x0]=[some x0,none,none,none,none,none,none]from rfl];obtain⟨p,k,rfl,hp,hk,q⟩:=h;walk_at "ga"
 . rename_i way H1 w0 w1 E1 K1 P1 bt H2 b0 b1 E2 K2 P2 dr H3 d0 d1 E3 K3 P3 mo H4 m0 m1 E4 K4 P4 tw H5 t0 t1 E5 K5 P5 z mn mn0 mn1 mn2 hw rr H6 r0 r1 E6 K6 P6
   have hw2:way=0\/way=1:=by omega
   rcases hw2 with rfl | rfl
   . walk_at "ga"
     rename_i v7 H7 x7 S7 i7 e7 b7 v8 H8 x8 S8 i8 e8 b8 v9 H9 S9 i9;exact q _ _ x7 x8 (by walk_at "exc") (by walk_at "keep") (by walk_at "penle") i9 (by rw[e7,e8];exact zK (by omega) (by omega) (by omega) (by omega) (by omega) (by omega) (by omega) (by omega))
   . walk_at "ga"
     rename_i v7 H7 x7 S7 i7 e7 b7 v8 H8 x8 S8 i8 e8 b8 v9 H9 S9 i9;exact q _ _ x7 x8 (by walk_at "exc") (by walk_at "keep") (by walk_at "penle") i9 (by rw[e7,e8];exact zK (by omega) (by omega) (by omega) (by omega) (by omega) (by omega) (by omega) (by omega))
 . rename_i way H1 w0 w1 E1 K1 P1 bt H2 b0 b1 E2 K2 P2 dr H3 d0 d1 E3 K3 P3 mo H4 m0 m1 E4 K4 P4 tw H5 t0 t1 E5 K5 P5 z mn mn0 mn1 mn2 hw hw2 v7 H7 S7 i7 v8 H8 x8 S8 i8 e8 b8 v9 H9 S9 i9
   exact q _ _ 1 x8 (by walk_at "exc") (by walk_at "keep") (by walk_at "penle") i9 (by rw[e8];exact I0 (by omega) (by omega) (by omega) (by omega))
 . rename_i way H1 w0 w1 E1 K1 P1 bt H2 b0 b1 E2 K2 P2 dr H3 d0 d1 E3 K3 P3 mo H4 m0 m1 E4 K4 P4 tw H5 t0 t1 E5 K5 P5 z mn mn0 mn1 mn2 hw hw2 rr H6 r0 r1 E6 K6 P6 hw3 v7 H7 x7 S7 i7 e7 b7 v8 H8 x8 S8 i8 e8 b8 v9 H9 S9 i9
   exact q _ _ x7 x8 (by walk_at "exc") (by walk_at "keep") (by walk_at "penle") i9 (by rw[e7,e8];exact yf (by omega) (by omega) (by omega) (by omega) (by omega) (by omega) (by omega) (by omega) (Int.le_refl _))
 . rename_i way H1 w0 w1 E1 K1 P1 bt H2 b0 b1 E2 K2 P2 dr H3 d0 d1 E3 K3 P3 mo H4 m0 m1 E4 K4 P4 tw H5 t0 t1 E5 K5 P5 z mn mn0 mn1 mn2 hw hw2 rr H6 r0 r1 E6 K6 P6 hw3
   have nd:=Ox (t:=1+rr) (w:=2+(1+bt) % 7) (d:=1+dr) (by omega) (by omega) (by omega) (by omega);refine pj ⟨by omega,(Bd.jQ (by omega) (by omega)).mono (by decide)⟩ ?_;generalize ((1+rr-(2+(1+bt) % 7))*(1+dr)).fdiv (2+(1+bt) % 7)=fd at nd ⊢;obtain⟨n1,n2,n3⟩:=nd;walk_at "ga";rename_i v7 H7 x7 S7 i7 e7 b7 s8 H8 s0 s1 E8 K8 P8 v9 H9 x9 S9 i9 e9 b9 v10 H10 S10 i10
   exact q _ _ x7 x9 (by walk_at "exc") (by walk_at "keep") (by walk_at "penle") i10 (by
     rw[e7,e9];refine yf (by omega) (by omega) (by omega) (by omega) (by omega) (by omega) (by omega) (by omega) ?_;have:(0-fd)*(2+(1+bt) % 7)<=(0-fd+s8)*(2+(1+bt) % 7):=Wb (by omega) (by omega);omega)
 . rename_i way H1 w0 w1 E1 K1 P1 bt H2 b0 b1 E2 K2 P2 dr H3 d0 d1 E3 K3 P3 mo H4 m0 m1 E4 K4 P4 tw H5 t0 t1 E5 K5 P5 z hw rr H6 r0 r1 E6 K6 P6
   have hw2:way=0\/way=1:=by omega
   rcases hw2 with rfl | rfl
   . walk_at "ga"
     rename_i v7 H7 x7 S7 i7 e7 b7 v8 H8 x8 S8 i8 e8 b8 v9 H9 S9 i9;exact q _ _ x7 x8 (by walk_at "exc") (by walk_at "keep") (by walk_at "penle") i9 (by rw[e7,e8];exact zK (by omega) (by omega) (by omega) (by omega) (by omega) (by omega) (by omega) (by omega))
   . walk_at "ga"
     rename_i v7 H7 x7 S7 i7 e7 b7 v8 H8 x8 S8 i8 e8 b8 v9 H9 S9 i9;exact q _ _ x7 x8 (by walk_at "exc") (by walk_at "keep") (by walk_at "penle") i9 (by rw[e7,e8];exact zK (by omega) (by omega) (by omega) (by omega) (by omega) (by omega) (by omega) (by omega))
 . rename_i way H1 w0 w1 E1 K1 P1 bt H2 b0 b1 E2 K2 P2 dr H3 d0 d1 E3 K3 P3 mo H4 m0 m1 E4 K4 P4 tw H5 t0 t1 E5 K5 P5 z hw hw2 v7 H7 S7 i7 v8 H8 x8 S8 i8 e8 b8 v9 H9 S9 i9
   exact q _ _ 1 x8 (by walk_at "exc") (by walk_at "keep") (by walk_at "penle") i9 (by rw[e8];exact I0 (by omega) (by omega) (by omega) (by omega))
 . rename_i way H1 w0 w1 E1 K1 P1 bt H2 b0 b1 E2 K2 P2 dr H3 d0 d1 E3 K3 P3 mo H4 m0 m1 E4 K4 P4 tw H5 t0 t1 E5 K5 P5 z hw hw2 rr H6 r0 r1 E6 K6 P6 hw3 v7 H7 x7 S7 i7 e7 b7 v8 H8 x8 S8 i8 e8 b8 v9 H9 S9 i9
   exact q _ _ x7 x8 (by walk_at "exc") (by walk_at "keep") (by walk_at "penle") i9 (by rw[e7,e8];exact yf (by omega) (by omega) (by omega) (by omega) (by omega) (by omega) (by omega) (by omega) (Int.le_refl _))
 . rename_i way H1 w0 w1 E1 K1 P1 bt H2 b0 b1 E2 K2 P2 dr H3 d0 d1 E3 K3 P3 mo H4 m0 m1 E4 K4 P4 tw H5 t0 t1 E5 K5 P5 z hw hw2 rr H6 r0 r1 E6 K6 P6 hw3
   have nd:=Ox (t:=1+rr) (w:=2+(1+bt) % 7) (d:=1+dr) (by omega) (by omega) (by omega) (by omega);refine pj ⟨by omega,(Bd.jQ (by omega) (by omega)).mono (by decide)⟩ ?_;generalize ((1+rr-(2+(1+bt) % 7))*(1+dr)).fdiv (2+(1+bt) % 7)=fd at nd ⊢;obtain⟨n1,n2,n3⟩:=nd;walk_at "ga";rename_i v7 H7 x7 S7 i7 e7 b7 s8 H8 s0 s1 E8 K8 P8 v9 H9 x9 S9 i9 e9 b9 v10 H10 S10 i10
   exact q _ _ x7 x9 (by walk_at "exc") (by walk_at "keep") (by walk_at "penle") i10 (by
     rw[e7,e9];refine yf (by omega) (by omega) (by omega) (by omega) (by omega) (by omega) (by omega) (by omega) ?_;have:(0-fd)*(2+(1+bt) % 7)<=(0-fd+s8)*(2+(1+bt) % 7):=Wb (by omega) (by omega);omega)
def J8(K:wb):Sp:=λvs H Q _=>∃x0 x1,vs=[x0,x1] /\ ∃(p:Addr)(k m:Int),x0=.ref p/\x1=.int m/\b_ H p k/\k<=1000/\1<=m/\m<=8 /\ ∀(l:Addr)(H':Hp)(us:List V)(xs:List Rat),H l=none->Exc p H H'->bG H H'->b_ H' p (k+11)->H' l=some (.lst us)->ak K H' us (xs.map N)->1<=xs.length->(xs.length:Int)<=m->(∀x∈xs,eA x)->Q (.ref l) H'
theorem Z4{K:wb}{H:Hp}{Q:VK}{E:XK}{p:Addr}{k m:Int}(h:b_ H p k)(hk:k<=1000)(h1:1<=m)(h8:m<=8)(q:∀(l:Addr)(H':Hp)(us:List V)(xs:List Rat),H l=none->Exc p H H'->bG H H'->b_ H' p (k+11)->H' l=some (.lst us)->ak K H' us (xs.map N)->1<=xs.length->(xs.length:Int)<=m->(∀x∈xs,eA x)->Q (.ref l) H'):J8 K [.ref p,.int m] H Q E:=⟨_,_,rfl,p,k,m,rfl,rfl,h,hk,h1,h8,q⟩
theorem UX(T:Txt K mg a):aJ P w K mg base aT 2 a.Eu a.Em rG (J8 K):=by
 refine T.Eo.F.ok oI ?_ ?_;walk_at "b2"
 refine⟨_,(ao (az 2 oI.nd (aA cb ay (au (fU T) hr T.fj (ae (pv 0) (ae (pv 1) af)))))
     (ao (az 3 oI.nd (aA cb ay (au (fU T) hr T.fj (ae (pv 0) (ae ay af)))))
     (ao (az 4 oI.nd (dQ c_ (e_ (ae (pv 3) (ae (aA cb ay (aA eS (pv 3) ay)) af))) (au (fU T) hr T.fj (ae (pv 0) (ae ay af))) (λ_ _=>rfl)))
     (ao (az 5 oI.nd (aA eS (pv 3) (pv 4)))
     (av (aE (d4 rfl (cE.by (N':=["_law_k","_law_bottom","_law_apart","_law_pen_here","_law_few"]) (src:=[none,some 3,some 5,some 0,some 4]) rfl (show cU _ (aC sQ).names BL ["_law_k","_law_bottom","_law_apart","_law_pen_here","_law_few"] [none,some 3,some 5,some 0,some 4]=true from by decide +kernel)) (jI rfl T.z_range (ae (pv 2) af)) (λ_ _ _ _ _=>(bL (i:=0) (show(["_law_k","_law_bottom","_law_apart","_law_pen_here","_law_few"]:List Str).Nodup from by decide) rfl (Or.inl rfl))) (λ_ _ _ _ _=>dX) (λ_ _ _ _ _=>(au (gy (K:=K) (mg:=mg) (a:=a) T) hr T.fK (ae (aA cj (au (fU (K:=K) (mg:=mg) (a:=a) T) hr T.fj (ae (pv 3) (ae (pv 4) af))) (pv 2)) (ae (pv 1) af))))))))))),?_⟩
 walk_at "cl";rw[show start BL [x0,x1]=[some x0,some x1,none,none,none,none]from rfl];obtain⟨p,k,m,rfl,rfl,hp,hk,h1,h8,q⟩:=h;walk_at "ga";rename_i ra Ha ra0 ra1 Ea Ka Pa rb Hb rb0 rb1 Eb Kb Pb lc Hc nc Sc ec rd Hd rd0 rd1 Ed Kd Pd z hz;have E1:Exc p H Hd:=Ea.trans (Eb.trans (Sc.exc.trans Ed));have K1:bG H Hd:=Ka.trans (Kb.trans (Sc.keep.trans Kd));clear Ea Ka Pa Eb Kb Pb Sc ec nc Ed Kd hp;generalize hB:2+rb=B at *;have B2:2<=B/\B<=60:=by omega
 have hz1:1<=z/\z<=B:=by
   rcases hz with rfl | rfl
   . omega
   . rw[W1 _ (by decide)];omega
 refine pj ⟨by omega,(Bd.jQ (by omega) (by omega)).mono (by decide)⟩ ?_
 have ha:1<=B.fdiv z/\B.fdiv z*z<=B/\B.fdiv z<=B:=by
   rw[W1 _ (by omega)];refine⟨?_,XY _ (by omega),Xn _ (by omega)⟩;exact(Int.le_ediv_iff_mul_le (by omega)).mpr (by omega)
 generalize B.fdiv z=a at *;obtain⟨a1,a2,a3⟩:=ha;walk_at "gg";obtain⟨n,hn⟩:∃n:Nat,1+ra=(n:Int):=⟨(1+ra).toNat,by omega⟩;rw[hn];refine M4 (n:=(n:Int)) (by omega) (by omega) (λD i ys σ' H'=>(∃o,σ'=[o,some (.int B),some (.int a),some (.ref p),some (.int z)])/\Hd D=none/\D≠p/\Exc p Hd H'/\bG Hd H'/\b_ H' p (k+1+1+1+(i:Int)) /\ ∃(us:List V)(xs:List Rat),H' D=some (.lst us)/\xs.length=i/\ak K H' us (xs.map N) /\ ∀x∈xs,eA x) ?_ ?_ ?_
 . intro D H' n s e
   exact⟨⟨_,rfl⟩,n,b_.ne n Pd,s.exc,s.keep,(Pd.same s).le (by omega),[],[],e,rfl,.nil,by simp⟩
 . rintro D i ys σ' H' hi ⟨⟨o,rfl⟩,hn',hne,hE,hK,hP,us,xs,hD,hl,ht,hm⟩
   walk_at "gg";rename_i r H6 r0 r1 E6 K6 P6;have t0:0<=r*a:=X9 r0 (by omega)
   have t1:r*a<B:=by
     have h1:(r+1)*a<=z*a:=Wb (by omega) (by omega);rw[Int.add_mul,QK]at h1;have h2:z*a=a*z:=Int.mul_comm _ _;omega
   generalize r*a=t at *;walk_at "gg";rename_i v7 H7 x7 S7 i7 e7 b7;have hul:=ht.length;simp only[we]at hul;have hD7:=S7 _ _ (E6.at hne hD);have px:eA x7:=by rw[e7];exact LJ (by omega) (by omega) (by omega)
   refine kG hD7 (by omega) (λH8 E8 e8=>?_);have K8:bG H7 H8:=E8.keep hD7;refine⟨⟨_,rfl⟩,hn',hne,λb o hb h=>E8 b o (jL h hn') (S7 b o ((hE.trans E6) b o hb h)),(hK.trans K6).trans (S7.keep.trans K8),?_,us++[v7],xs++[x7],e8,by simp[hl],?_,?_⟩
   . obtain⟨x,y,z,e,h1,h2⟩:=P6
     exact⟨x,y,z,E8 p _ (vX hne) (S7 _ _ e),h1,by omega⟩
   . rw[w8]
     exact(ak.keep (K6.trans (S7.keep.trans K8)) _ _ (fO _) ht).append (.cons (i7.fE K8) .nil)
   . intro y hy
     rcases vM.mp hy with h | h
     . exact hm y h
     . rw[wO.mp h];exact px
 . rintro D ys σ' H' ⟨_,hn',hne,hE,hK,hP,us,xs,hD,hl,ht,hm⟩
   rw[wE]at hl hP;walk_at "gg"
   have hfr:H D=none:=by
     cases e:H D with
     | none=>rfl
     | some o=>rw[E1 D o hne e]at hn';cases hn'
   exact q D H' us xs hfr (E1.trans hE) (K1.trans hK) (hP.le (by omega)) hD ht (by omega) (by omega) hm
def Of(K:wb):Sp:=λvs H Q _=>∃x0,vs=[x0] /\ ∃(ra rb:Rat)(xs:List Rat),Is K H x0 (bD ra rb xs)/\dA ra rb xs/\(ou ra rb xs->∀H',ah H H'->Q .bj H') /\ ∀l H' es n w,oy ra rb xs es n w->H l=none->ah H H'->Is K H' (.ref l) (.list (h_ ra rb xs es n w))->Q (.ref l) H'
theorem ZS{K:wb}{H:Hp}{Q:VK}{E:XK}{ra rb:Rat}{xs:List Rat}{v:V}(h:Is K H v (bD ra rb xs))(ok:dA ra rb xs)(qe:ou ra rb xs->∀H',ah H H'->Q .bj H')(q:∀l H' es n w,oy ra rb xs es n w->H l=none->ah H H'->Is K H' (.ref l) (.list (h_ ra rb xs es n w))->Q (.ref l) H'):Of K [v] H Q E:=⟨_,rfl,ra,rb,xs,h,ok,qe,q⟩
theorem zpT(T:Txt K mg a):aJ P w K mg base aT 14 a.GJ a.Fs yt (Of K):=by
 refine T.FQ.F.ok tX ?_ ?_;walk_at "b1"
 refine⟨_,(ao (az 1 tX.nd ik)
     (ao (zyH (tb:=λW=>kP (Dj (DV K a) W (Dc (yC 0) Ej)) (iM 1)) (th:=kP (tC .bj) (iM 1)) rfl rfl rfl T.GB (λW pn E' hx=>by exact(av (az 1 tX.nd (zvI (Tc T) (hr.mono (by decide)) rfl T.p7.g T.p7.F.kp T.p7.b hx (ae (pv 0) af))))) (λpn ex oe=>by exact(av (az 1 tX.nd ik))))
     (av (aE (pv 1))))),?_⟩
 walk_at "cl";rw[show start MZ [x0]=[some x0,none]from rfl];obtain⟨ra,rb,xs,hw,ok,qe,q⟩:=h;walk_at "gg";refine zyT (λσ' C o H'=>σ'=[some x0,some .bj]/\C=.ref a.fX/\ou ra rb xs/\ah H H') ?_ ?_
 . walk_at "gg"
   refine zrM hw ok (λF H' S=>⟨rfl,rfl,F,S⟩) (λl H' es n w P hl S i=>?_);walk_at "gg";exact q l H' es n w P hl S i
 . rintro σ' C o H' ⟨rfl,rfl,F,S⟩
   refine⟨T.Ru,?_⟩;walk_at "gg";exact qe F H' S
theorem m8{α : Type}[DecidableEq α]:∀{l m:List α},l.Nodup->(∀x∈l,x∈m)->l.length<=m.length
 | [],_,_,_=>vV _
 | x::l,m,nd,h=>by
  have⟨h1,h2⟩:=Wi.mp nd;have hx:=h x (wu ..);have:=m8 (m:=m.erase x) h2 λy hy=>(xg (λe=>h1 (by rw[<- e];exact hy))).mpr (h y (wo _ hy))
  rw[Qo hx]at this;have:=VA hx;rw[wV];omega
theorem OB{xs ys:List Rat}(nd:ys.Nodup)(h:∀y,y∈ys ↔ y∈xs):ys.length=(ai xs).length :=
 XJ (m8 nd λx hx=>pR ((h x).mp hx)) (m8 (B6 xs) λx hx=>(h x).mpr (jq hx))
theorem zw7{a b:Rat}{xs:List Rat}(hp:cV xs)(h0:0∈xs)(h:(ai xs).length=1):d7 a b (aY xs) (bC xs)=true:=by
 obtain⟨hz,hn,hs,L⟩:=nQ (a:=a) (b:=b) hp h0;have hl:(bC xs++[0]).length=1:=by rw[hz];exact h
 refine uT.mpr ⟨Bo L.lF.pw L.one,λi hi=>?_⟩;have:i=0:=by omega
 subst this;have t:=ZJ (a:=a) (b:=b) (ns:=aY xs) (row:=bC xs++[0]) hl;unfold du at t;rw[kT hi,hs,h];rw[hl]at t;rw[t];decide
theorem SW{a b:Rat}{xs:List Rat}{w:String}(hp:cV xs)(h0:0∈xs)(h:eI a b xs=some w):d7 a b (aY xs) (bC xs)=true/\((w="one"/\(ai xs).length=1)\/(w="rests"/\cv a b (aY xs) (bC xs)=bC xs)\/(w="drawn"/\cv a b (aY xs) (bC xs)≠bC xs)):=by
 unfold eI at h
 split at h
 ·rename_i z
  exact⟨zw7 hp h0 z,.inl ⟨(wF h).symm,z⟩⟩
 ·split at h
  ·rename_i y
   refine⟨y,.inr ?_⟩
   split at h
   ·rename_i u
    exact .inl ⟨(wF h).symm,u⟩
   ·rename_i u
    split at h
    ·exact .inr ⟨(wF h).symm,u⟩
    ·cases h
  ·cases h
theorem zsT{a b:Rat}{xs:List Rat}(ok:aV a b)(hp:cV xs)(h0:0∈xs)(f:d7 a b (aY xs) (bC xs)=true):aj a b xs (ai xs).length=xs ↔ cv a b (aY xs) (bC xs)=bC xs:=by
 obtain⟨hz,hn,hs,L⟩:=nQ (a:=a) (b:=b) hp h0;have L1:=(u_ ok L hn f).1;rw[hs]at L1;have v1:=O0 L1.pl L1.lF.pw L1.some
 constructor
 ·intro e
  rw[e,<- hz]at v1;exact(List.append_inj_left v1 (by rw[kO hn])).symm
 ·intro e
  have a1:=BV L1 (bR a b xs _);have a2:=BV L (n:=xs.length) rfl;rw[e]at a1;rw[<- a1,a2]
def Lf(K:wb):Sp:=λvs H Q _=>∃x0 x1,vs=[x0,x1] /\ ∃(a b:Rat)(xs:List Rat)(w:String),x1=.str (vO w)/\Is K H x0 (bD a b xs)/\fu a b xs/\eI a b xs=some w/\(∀t,t<=(ai xs).length->Cm 3700 (aQ a b xs t::aj a b xs t)) /\ ∀H',Q (.bl true) H'
theorem Z3{K:wb}{H:Hp}{Q:VK}{E:XK}{a b:Rat}{xs:List Rat}{w:String}{v:V}(h:Is K H v (bD a b xs))(ok:fu a b xs)(hw:eI a b xs=some w)(c:∀t,t<=(ai xs).length->Cm 3700 (aQ a b xs t::aj a b xs t))(q:∀H',Q (.bl true) H'):Lf K [v,.str (vO w)] H Q E:=⟨_,_,rfl,a,b,xs,w,rfl,h,ok,hw,c,q⟩
theorem zrk(T:Txt K mg a):aJ P w K mg base aT 6 a.GZ a.Fw yw (Lf K):=by
 refine T.Gp.F.ok C2 ?_ ?_;walk_at "b2"
 refine⟨_,(ao (az 2 C2.nd (bQ (show aO _ (.builtin "len") (Az w)from I_) rfl T.z_len dC (ae (dM (show aO _ (.type "set") (zd K w)from Mn hu rfl) rfl T.z_set NV (ae (ar (pv 0)) af)) af)))
     (ao (az 3 C2.nd (au (JK T) hr T.zW (ae (pv 0) (ae (pv 2) af))))
     (ao (bN (bS (show aN _ (compareOp .NotEq) (gc K)from kX hu) (d4 rfl (cE.by (N':=["_law_row"]) (src:=[none]) rfl (show cU _ (aC sU).names B3 ["_law_row"] [none]=true from by decide +kernel)) (fY (pv 3)) (λ_ _ _ _ _=>(bL (i:=0) (show(["_law_row"]:List Str).Nodup from by decide) rfl (Or.inl rfl))) (λ_ _ _ _ _=>(oh (bS (show aN _ (compareOp .NotEq) (gc K)from kX hu) (bQ (show aO _ (.builtin "len") (cN K)from dU) rfl T.z_len dC (ae (nW (K:=K) c_ (pv 0)) af)) ay (a_ _)))) (λ_ _ _ _ _=>(pv 0))) (e_ af) (a_ _)) (av (aE jb)) bP)
     (ao (bN (bS (show aN _ (compareOp .Eq) (cz K)from cZ hu) (pv 1) gg (a_ _)) (av (aE (fB (show aN _ (compareOp .Eq) (cz K)from cZ hu) (bQ (show aO _ (.builtin "len") (cN K)from dU) rfl T.z_len dC (ae (ar (ar (ar (pv 3)))) af)) (bQ (show aO _ (.builtin "len") (cN K)from dU) rfl T.z_len dC (ae (ar (pv 0)) af)) (a_ _)))) bP)
     (av (aE (fB (show aN _ (compareOp .Eq) (cz K)from cZ hu) (fB (show aN _ (compareOp .Eq) (cz K)from cZ hu) (ar (dQ c_ (pv 3) (gU h9 ay) (λ_ _=>rfl))) (ar (pv 0)) (a_ _)) (fB (show aN _ (compareOp .Eq) (cz K)from cZ hu) (pv 1) gg (a_ _)) (a_ _)))))))),?_⟩
 walk_at "cl";rw[show start B3 [x0,x1]=[some x0,some x1,none,none]from rfl];obtain⟨ra,rb,xs,wd,rfl,hw,ok,hwd,hc,q⟩:=h;obtain⟨fr,hcase⟩:=SW ok.hp ok.h0 hwd;obtain⟨hz,hn,hs,L⟩:=nQ (a:=ra) (b:=rb) ok.hp ok.h0;have hwv:=(u_ ok.ok L hn fr).2.1;rw[hs]at hwv;have hbk:=zsT ok.ok ok.hp ok.h0 fr;have hvl:=kf xs;have hvp:=pN ok.h1;have h8:=ok.h8;walk_at "gg";refine aD (j:=1) hw rfl (λv1 i1=>?_);walk_at "gg";refine H_ i1 (by omega) (λls H1 ws ys n1 S1 e1 t1 nd mem=>?_);have hyl:=OB nd mem;have hwl:=t1.length;rw[we]at hwl;walk_at "gg";refine⟨ls,ws,rfl,e1,?_⟩;rw[show ws.length=(ai xs).length by omega];walk_at "gg";refine Jk (hw.by S1) ok.ok.ba ok.ok.bb ok.h1 h8 (by omega) (by omega) (λt ht=>hc t (by omega)) (λlr H2 n2 S2 i2=>?_);rw[wE]at i2;obtain⟨lr',us,el,hs2,t2⟩:=cB.mp i2;cases el;have hul:=t2.length;rw[AY]at hul;walk_at "gg";refine oQ hs2 (λD i ys σ' H'=>(∃o,σ'=[o])/\H2 D=none/\ah H2 H'/\H' D=some (.lst ys)/\ys=[]) (λD H' n s e=>⟨⟨_,rfl⟩,n,s,e,rfl⟩) (λD i ys σ' H' h=>h.2.2.1.seq hs2) ?_ ?_
 . rintro D i x ys σ' H3 hx ⟨⟨o,rfl⟩,n3,S3,e3,rfl⟩
   obtain⟨hi,ix⟩:=kx t2 hx;rw[AY]at hi;rw[wa,Pc hi]at ix;have ix3:Is K H3 x (oD ra rb xs i):=ix.by S3;walk_at "gg";refine aD (j:=1) ix3 rfl (λv4 i4=>?_);walk_at "gg";refine ju i4 ?_;rw[we,hwv i hi];walk_at "gg"
   . rename_i z;exact absurd rfl z
   . exact⟨[],⟨_,rfl⟩,n3,S3,e3,rfl⟩
 . rintro D ys' σ' H3 ⟨_,n3,S3,e3,rfl⟩
   have i23:=i2.by S3;have hw3:=hw.by (S1.trans (S2.trans S3));walk_at "gg";refine ff (by simp) (λl4 H4 n4 S4 e4=>?_);refine zwZ (ds:=[]) (cB.mpr ⟨D,[],rfl,.of (S4 _ _ e3),.nil⟩) (cB.mpr ⟨l4,[],rfl,.of e4,.nil⟩) (Jb (n:=1) (ds:=[]) (by simp)) (by decide) ?_;rw[show(!([]:List PyData).isEmpty)=false from rfl];have i24:=i23.by S4;have hw4:=hw3.by S4;clear i2 i23 hw hw3 hs2 t2 S3 S4 e3 e4 n3 n4;walk_at "gg";rcases hcase with⟨rfl,hone⟩ | ⟨rfl,hr⟩ | ⟨rfl,hr⟩
   . refine gx _ _ true (by rw[wN];decide) ?_
     walk_at "gg";refine SS (j:=0) i24 (d:=oD ra rb xs 0) (by rw[Pc (by omega)]) (λv5 i5=>?_);walk_at "gg";refine aD (j:=1) i5 rfl (λv6 i6=>?_);have h0:=hwv 0 (by omega);have i6:Is K H4 v6 (lg (ck ra rb (aj ra rb xs 0))):=i6;rw[h0]at i6;walk_at "gg";refine aD (j:=0) i6 rfl (λv7 i7=>?_);walk_at "gg";refine Cp i7 ?_;walk_at "gg";refine aD (j:=1) hw4 rfl (λv8 i8=>?_);walk_at "gg";refine Zv i8 ?_
     have hall:(aZ xs.length (aP xs) 0).length=xs.length:=by
       unfold aZ;rw[xm.mpr (λw hw=>?_),wU];have:=(jF xs).lt w (wx.mp hw);exact decide_eq_true (by omega)
     rw[hall];walk_at "gg";rw[decide_eq_true rfl];exact q _
   . refine gx _ _ false (by rw[wN];decide) ?_
     walk_at "gg";obtain⟨k,hk⟩:∃k,(ai xs).length=k+1:=⟨(ai xs).length-1,by omega⟩;rw[hk,pk]at i24;refine my i24 (λv5 i5=>?_);have i5:Is K H4 v5 (nq (aQ ra rb xs (k+1)) (ck ra rb (aj ra rb xs k)) (aj ra rb xs (k+1))):=i5;rw[<- hk]at i5;walk_at "gg";refine aD (j:=2) i5 rfl (λv6 i6=>?_);walk_at "gg";refine aD (j:=1) hw4 rfl (λv7 i7=>?_);refine sV i6 i7 ?_;walk_at "gg";refine gx _ _ true (by rw[wN];decide) ?_;refine PV ?_;rw[decide_eq_true (hbk.mpr hr)];exact q _
   . refine gx _ _ false (by rw[wN];decide) ?_
     walk_at "gg";obtain⟨k,hk⟩:∃k,(ai xs).length=k+1:=⟨(ai xs).length-1,by omega⟩;rw[hk,pk]at i24;refine my i24 (λv5 i5=>?_);have i5:Is K H4 v5 (nq (aQ ra rb xs (k+1)) (ck ra rb (aj ra rb xs k)) (aj ra rb xs (k+1))):=i5;rw[<- hk]at i5;walk_at "gg";refine aD (j:=2) i5 rfl (λv6 i6=>?_);walk_at "gg";refine aD (j:=1) hw4 rfl (λv7 i7=>?_);refine sV i6 i7 ?_;walk_at "gg";refine gx _ _ false (by rw[wN];decide) ?_;refine PV ?_;rw[decide_eq_false (λe=>hr (hbk.mp e))];exact q _
def CB(K:wb):Sp:=λvs H Q _=>∃x0 x1,vs=[x0,x1] /\ ∃(x:Rat)(t u:Int)(n:Nat),Is K H x0 (N x)/\Is K H x1 (.tuple [.int t,.int u])/\0<u/\ag n x/\n<=4400/\Bd 4400 t/\Bd 4400 u /\ ∀v H',ah H H'->Is K H' v (N (x+wp t u))->Q v H'
theorem zrz{K:wb}{H:Hp}{Q:VK}{E:XK}{x:Rat}{t u:Int}{v w:V}(h1:Is K H v (N x))(h2:Is K H w (.tuple [.int t,.int u]))(hu:0<u)(b1:ag 4400 x)(b2:Bd 4400 t)(b3:Bd 4400 u)(q:∀v H',ah H H'->Is K H' v (N (x+wp t u))->Q v H'):CB K [v,w] H Q E:=⟨_,_,rfl,x,t,u,4400,h1,h2,hu,b1,wg _,b2,b3,q⟩
theorem Ti{K:wb}{H:Hp}{Q:VK}{E:XK}{x y:Rat}{v w:V}(h1:Is K H v (N x))(h2:Is K H w (N y))(b1:ag 4400 x)(b2:ag 4400 y)(q:∀v H',ah H H'->Is K H' v (N (x+y))->Q v H'):CB K [v,w] H Q E :=
 zrz h1 h2 (den_pos y) b1 b2.t b2.b (λv H' s i=>q v H' s (by rw[WR]at i;exact i))
local macro_rules | `(tactic| walk_at "gs")=>`(tactic| ((with_reducible apply Ti); (focus walk_at "is"); (focus walk_at "is"); (focus walk_at "bdr"); (focus walk_at "bdr"); intro _ _ _ _))
theorem zzn{K:wb}{H:Hp}{Q:VK}{v:V}{t u:Int}(h:Is K H v (.tuple [.int t,.int u]))(q:Q (.int t) H):cQ K v (.int 0) H Q:=aD (j:=0) h rfl (λx i=>by rw[cg.mp i];exact q)
theorem IL{K:wb}{H:Hp}{Q:VK}{v:V}{t u:Int}(h:Is K H v (.tuple [.int t,.int u]))(q:Q (.int u) H):cQ K v (.int 1) H Q:=aD (j:=1) h rfl (λx i=>by rw[cg.mp i];exact q)
theorem Z5(x:Rat){t u:Int}(hu:0<u):wp (x.num*u+t*(x.den:Int)) ((x.den:Int)*u)=x+wp t u:=by
 have hp:=vg (den_pos x) hu;refine fI (by omega) ?_;have k1:=jl x;have k2:=cA t (show u≠0 by omega);have e1:((x.num*u+t*(x.den:Int):Int):Rat)=(x.num:Rat)*(u:Rat)+(t:Rat)*((x.den:Int):Rat):=by push_cast;rfl
 have e2:(((x.den:Int)*u:Int):Rat)=((x.den:Int):Rat)*(u:Rat):=by push_cast;rfl
 rw[e1,e2,<- k1,<- k2]
 grind
theorem yd(T:Txt K mg a):aJ P w K mg base aT 2 a.Hs a.Gq rN (CB K):=by
 refine T.nC.F.ok YM ?_ ?_;walk_at "b2";refine⟨_,(av (aE (au (gy T) hr T.fK (ae (aA cb (aA cj (ar (pv 0)) (ar (pv 1))) (aA cj (ar (pv 1)) (ar (pv 0)))) (ae (aA cj (ar (pv 0)) (ar (pv 1))) af))))),?_⟩;walk_at "cl";rw[show start BU [x0,x1]=[some x0,some x1]from rfl];obtain⟨x,t,u,n,hx,hy,hu,bx,hn,bt,bu,q⟩:=h;obtain⟨bx1,bx2⟩:=bx.mono hn;have hp:=vg (den_pos x) hu;walk_at "gg";refine IL hy ?_;walk_at "gg";refine zzn hy ?_;walk_at "gg";refine IL hy ?_;walk_at "gg";refine m_ hp ((bx2.mul bu).mono (by decide)) (λv H' s hv=>?_);rw[Z5 x hu]at hv;exact q v H' s hv
def Lq(K:wb):Sp:=λvs H Q _=>∃x0 x1,vs=[x0,x1] /\ ∃(x y:Rat)(m n:Nat),Is K H x0 (N x)/\Is K H x1 (N y)/\ag m x/\ag n y/\m+n<=8999 /\ ∀v H',ah H H'->Is K H' v (N (x-y))->Q v H'
theorem O5{K:wb}{H:Hp}{Q:VK}{E:XK}{x y:Rat}{m n:Nat}{v w:V}(h1:Is K H v (N x))(h2:Is K H w (N y))(b1:ag m x)(b2:ag n y)(hmn:m+n<=8999)(q:∀v H',ah H H'->Is K H' v (N (x-y))->Q v H'):Lq K [v,w] H Q E:=⟨_,_,rfl,x,y,m,n,h1,h2,b1,b2,hmn,q⟩
theorem M0(T:Txt K mg a):aJ P w K mg base aT 2 a.GU a.FU y8 (Lq K):=by
 refine T.zR.F.ok Y9 ?_ ?_;walk_at "b2";refine⟨_,(av (aE (au (gy T) hr T.fK (ae (aA jn (aA cj (ar (pv 0)) (ar (pv 1))) (aA cj (ar (pv 1)) (ar (pv 0)))) (ae (aA cj (ar (pv 0)) (ar (pv 1))) af))))),?_⟩;walk_at "cl";rw[show start Cr [x0,x1]=[some x0,some x1]from rfl];obtain⟨x,y,m,n,hx,hy,bx,by',hmn,q⟩:=h;have cx:=bx.mono (show m<=8999 by omega);have cy:=by'.mono (show n<=8999 by omega);walk_at "gg";refine m_ (Nd x y) ((bx.b.mul by'.b).mono hmn) (λv H' s hv=>?_);rw[Jt]at hv;exact q v H' s hv
def Rk(K:wb):Sp:=λvs H Q _=>∃x0 x1,vs=[x0,x1] /\ ∃(x y:Rat),Is K H x0 (N x)/\Is K H x1 (N y)/\ag 4000 x/\ag 4000 y /\ ∀v H',ah H H'->Is K H' v (N (x*y))->Q v H'
theorem zlV{K:wb}{H:Hp}{Q:VK}{E:XK}{x y:Rat}{v w:V}(h1:Is K H v (N x))(h2:Is K H w (N y))(b1:ag 4000 x)(b2:ag 4000 y)(q:∀v H',ah H H'->Is K H' v (N (x*y))->Q v H'):Rk K [v,w] H Q E:=⟨_,_,rfl,x,y,h1,h2,b1,b2,q⟩
local macro_rules | `(tactic| walk_at "gs")=>`(tactic| ((with_reducible apply zlV); (focus walk_at "is"); (focus walk_at "is"); (focus walk_at "bdr"); (focus walk_at "bdr"); intro _ _ _ _))
theorem CO(T:Txt K mg a):aJ P w K mg base aT 2 a.FW a.EN tY (Rk K):=by
 refine T.p5.F.ok SQ ?_ ?_;walk_at "b2";refine⟨_,(av (aE (au (gy T) hr T.fK (ae (aA cj (ar (pv 0)) (ar (pv 1))) (ae (aA cj (ar (pv 0)) (ar (pv 1))) af))))),?_⟩;walk_at "cl";rw[show start DM [x0,x1]=[some x0,some x1]from rfl];obtain⟨x,y,hx,hy,⟨bx1,bx2⟩,⟨by1,by2⟩,q⟩:=h;walk_at "gg";refine m_ (Nd x y) ((bx2.mul by2).mono (by decide)) (λv H' s hv=>?_);rw[Lg]at hv;exact q v H' s hv
def Jo(K:wb):Sp:=λvs H Q _=>∃x0 x1,vs=[x0,x1] /\ ∃(x y:Rat)(m n:Nat),Is K H x0 (N x)/\Is K H x1 (N y)/\ag m x/\ag n y/\m+n<=8998/\y≠0 /\ ∀v H',ah H H'->Is K H' v (N (x / y))->Q v H'
theorem zqk{K:wb}{H:Hp}{Q:VK}{E:XK}{x y:Rat}{m n:Nat}{v w:V}(h1:Is K H v (N x))(h2:Is K H w (N y))(b1:ag m x)(b2:ag n y)(hmn:m+n<=8998)(hy:y≠0)(q:∀v H',ah H H'->Is K H' v (N (x / y))->Q v H'):Jo K [v,w] H Q E:=⟨_,_,rfl,x,y,m,n,h1,h2,b1,b2,hmn,hy,q⟩
theorem zqQ{p q:Int}(h:q≠0):wp (0-p) (0-q)=wp p q:=by
 refine fI (by omega) ?_;have k:=cA p h;have e1:((0-p:Int):Rat) = -(p:Rat):=by rw[xK];push_cast;rfl
 have e2:((0-q:Int):Rat) = -(q:Rat):=by rw[xK];push_cast;rfl
 rw[e1,e2,<- k]
 grind
theorem TY(T:Txt K mg a):aJ P w K mg base aT 2 a.GY a.FA x_ (Jo K):=by
 refine T.Ge.F.ok Tz ?_ ?_;walk_at "b2"
 refine⟨_,(ao (bN (bS mO (ar (pv 1)) ay (a_ _)) (av (aE (au (gy T) hr T.fK (ae (aA jn ay (aA cj (ar (pv 0)) (ar (pv 1)))) (ae (aA jn ay (aA cj (ar (pv 0)) (ar (pv 1)))) af))))) bP)
     (av (aE (au (gy T) hr T.fK (ae (aA cj (ar (pv 0)) (ar (pv 1))) (ae (aA cj (ar (pv 0)) (ar (pv 1))) af)))))),?_⟩
 walk_at "cl";rw[show start Cz [x0,x1]=[some x0,some x1]from rfl];obtain⟨x,y,m,n,hx,hy,bx,by',hmn,h0,q⟩:=h;have cx:=bx.mono (show m<=8999 by omega);have cy:=by'.mono (show n<=8999 by omega);have hn:=sJ h0;have bb:=bx.b.mul by'.t;have hd:=den_pos x;have bo:Bd 8999 (0-(x.den:Int)*y.num):=by rw[xK];exact bb.neg.mono (by omega)
 walk_at "gg"
 . rename_i z
   have hp:0<0-(x.den:Int)*y.num:=by
     have:=Int.mul_neg_of_pos_of_neg hd z;omega
   refine m_ hp bo (λv H' s hv=>?_);rw[zqQ (by omega),MV]at hv;exact q v H' s hv
 . rename_i z
   refine m_ (vg hd (by omega)) (bb.mono (by omega)) (λv H' s hv=>?_);rw[MV]at hv;exact q v H' s hv
def LZ(K:wb):Sp:=λvs H Q _=>∃x0 x1,vs=[x0,x1] /\ ∃(a b:Rat)(n:Int),x1=.int n/\Is K H x0 (R a b)/\ag 10 a/\ag 10 b/\0<=n/\n<=64 /\ ∀v H',ah H H'->Is K H' v (R (a^n.toNat) (aB a b n.toNat))->Q v H'
theorem Z6{K:wb}{H:Hp}{Q:VK}{E:XK}{a b:Rat}{n:Int}{v:V}(h1:Is K H v (R a b))(b1:ag 10 a)(b2:ag 10 b)(h0:0<=n)(h64:n<=64)(q:∀v H',ah H H'->Is K H' v (R (a^n.toNat) (aB a b n.toNat))->Q v H'):LZ K [v,.int n] H Q E:=⟨_,_,rfl,a,b,n,rfl,h1,b1,b2,h0,h64,q⟩
theorem Sf(T:Txt K mg a):aJ P w K mg base aT 3 a.Gh a.Fb yZ (LZ K):=by
 refine T.Fu.F.ok tE ?_ ?_;walk_at "b2"
 refine⟨_,(ao (az 2 tE.nd (br (ae (br (ae ay (ae ay af))) (ae (br (ae ay (ae ay af))) af))))
     (ao (f_ vf rfl (jI rfl T.z_range (ae (pv 1) af)) (bL (i:=3) tE.nd rfl (Or.inl rfl)) (av (az 2 tE.nd (br (ae (au (CO T) hr T.p5 (ae (ar (pv 0)) (ae (ar (pv 2)) af))) (ae (au (yd T) hr T.nC (ae (au (CO T) hr T.p5 (ae (ar (pv 0)) (ae (ar (pv 2)) af))) (ae (ar (pv 0)) af))) af))))))
     (av (aE (pv 2))))),?_⟩
 walk_at "cl";rw[show start Lh [x0,x1]=[some x0,some x1,none,none]from rfl];obtain⟨r,s',n,rfl,hr',ba,bb,h0,h64,q⟩:=h;walk_at "gg";refine eC (r:=1) rfl rfl (λv1 H1 S1 i1=>?_);walk_at "gg";refine eC (r:=0) rfl rfl (λv2 H2 S2 i2=>?_);walk_at "gg";refine Dl (i1.by S2) i2 (λv3 H3 S3 i3=>?_);walk_at "gg";refine kH (n:=n) (by omega) (by omega) (λi σ H'=>∃(f:V)(o:Option V),σ = [some x0,some (.int n),some f,o]/\ah H H'/\Is K H' f (R (r^i) (aB r s' i))) ⟨_,_,rfl,S1.trans (S2.trans S3),by rw[VH];exact i3⟩ ?_ ?_
 . rintro i σ H' hi ⟨f,o,rfl,S,hf⟩
   have hr1:=hr'.by S;have bf:ag 650 (r^i):=(ba.pow i).mono (by omega);have bg:ag 1400 (aB r s' i):=(ba.aB bb i).mono (by omega);walk_at "gg";refine Dl (a:=r*r^i) (b:=r*aB r s' i+s') (by walk_at "is") (by walk_at "is") (λv4 H4 S4 i4=>?_);walk_at "gg";refine⟨_,_,rfl,ah.back S4 (by walk_at "same"),?_⟩;rw[Wl,V9];exact i4
 . rintro σ H' ⟨f,o,rfl,S,hf⟩
   walk_at "gg";exact q _ _ S hf
def gp(a b:Rat)(ns:List Int)(xs:List Rat):Nat->Rat
 | 0=>0
 | k+1=>gp a b ns xs k+(1-(aH a b ns (xs++[0]) k).getD k 0)
def iH(a b:Rat)(ns:List Int)(xs:List Rat)(k:Nat):List Rat:=(wl k).map λj=>(aH a b ns (xs++[0]) (j+1)).getD ((j+1) % ns.length) 0
theorem Yc(a b:Rat)(ns:List Int)(xs:List Rat)(k:Nat):iH a b ns xs (k+1)=iH a b ns xs k++[(aH a b ns (xs++[0]) (k+1)).getD ((k+1) % ns.length) 0]:=by
 unfold iH;rw[qu,w8];rfl
theorem Ak{K:wb}{H:Hp}{us:List V}{u:V}{xs:List Rat}{x:Rat}(h:ak K H us (xs.map N))(k:Is K H u (N x)):ak K H (us++[u]) ((xs++[x]).map N):=by
 rw[w8];exact h.append (.cons k .nil)
theorem Z9{K:wb}{H:Hp}{Q:VK}{p:Addr}{ns:List Int}{m:Int}(h:aK K H p (ns.map V.int))(h0:0<=m)(h1:m<ns.length)(q:Q (.int (ns.getD m.toNat 0)) H):cQ K (.ref p) (.int m) H Q:=by
 obtain⟨n,rfl⟩:∃n:Nat,m=(n:Int):=⟨m.toNat,by omega⟩;refine ie h (jT (j:=n) (v:=.int (ns.getD n 0)) ?_) q;rw[wn,wa,wc (by omega)]
 rfl
def AR(K:wb):Sp:=λvs H Q _=>∃x0 x1 x2,vs=[x0,x1,x2] /\ ∃(a b:Rat)(ns:List Int)(xs:List Rat)(p1:Addr),x1=.ref p1/\Is K H x0 (R a b)/\aK K H p1 (ns.map V.int)/\(Is K H x2 (LN xs)\/Is K H x2 (TN xs))/\cq a b ns xs/\(∀k,k<=ns.length->Cm 3500 (aH a b ns (xs++[0]) k))/\(∀k,k<ns.length->ag 4300 (gp a b ns xs k)) /\ ∀t lb vt lh us hs H',ah H H'->H' t=some (.tup [.ref lb,vt,.ref lh])->H' lb=some (.lst us)->ak K H' us ((cv a b ns xs).map N)->Is K H' vt (N (gp a b ns xs ns.length))->H lh=none->H' lh=some (.lst hs)->ak K H' hs ((iH a b ns xs ns.length).map N)->Q (.ref t) H'
theorem znf{K:wb}{H:Hp}{Q:VK}{E:XK}{a b:Rat}{ns:List Int}{xs:List Rat}{v u:V}{p1:Addr}(h1:Is K H v (R a b))(h2:aK K H p1 (ns.map V.int))(h3:Is K H u (LN xs)\/Is K H u (TN xs))(ok:cq a b ns xs)(hrow:∀k,k<=ns.length->Cm 3500 (aH a b ns (xs++[0]) k))(htm:∀k,k<ns.length->ag 4300 (gp a b ns xs k))(q:∀t lb vt lh us hs H',ah H H'->H' t=some (.tup [.ref lb,vt,.ref lh])->H' lb=some (.lst us)->ak K H' us ((cv a b ns xs).map N)->Is K H' vt (N (gp a b ns xs ns.length))->H lh=none->H' lh=some (.lst hs)->ak K H' hs ((iH a b ns xs ns.length).map N)->Q (.ref t) H'):AR K [v,.ref p1,u] H Q E:=⟨_,_,_,rfl,a,b,ns,xs,p1,rfl,h1,h2,h3,ok,hrow,htm,q⟩
theorem zpX{K:wb}{H:Hp}{Q:VK}{E:XK}{a b:Rat}{ns:List Int}{xs:List Rat}{v u:V}{p1:Addr}(h1:Is K H v (R a b))(h2:aK K H p1 (ns.map V.int))(h3:Is K H u (LN xs)\/Is K H u (TN xs))(ok:cq a b ns xs)(hrow:∀k,k<=ns.length->Cm 3500 (aH a b ns (xs++[0]) k))(htm:∀k,k<ns.length->ag 4300 (gp a b ns xs k))(q:∀v H',ah H H'->Is K H' v (.tuple [LN (cv a b ns xs),N (gp a b ns xs ns.length),LN (iH a b ns xs ns.length)])->Q v H'):AR K [v,.ref p1,u] H Q E :=
 znf h1 h2 h3 ok hrow htm (λt lb vt lh us hs H' S et eb tb it _ eh th=>q (.ref t) H' S (bM.mpr ⟨t,_,rfl,.of et,.cons (cY eb tb) (.cons it (.cons (cY eh th) .nil))⟩))
theorem zCx{m:Nat}{row:List Rat}(c:Cm m row){j k:Nat}(hj:j<row.length)(hk:k<row.length):ag (m+2) (row.getD j 0+(1-row.getD k 0)):=by
 have c0:Cm m (0::row):=c.jO λy hy=>by rcases wz.mp hy with rfl | hy;(exact .inr rfl);exact .inl hy
 exact(c0.rise (GM.getD_mem hk)).eX (wo _ (wJ.mpr ⟨_,GM.getD_mem hj,rfl⟩))
theorem Zt(T:Txt K mg a):aJ P w K mg base aT 4 a.GF a.Fn uW (AR K):=by
 refine T.FH.F.ok iX ?_ ?_;walk_at "b3"
 refine⟨_,(ao (az 3 iX.nd (aA cb (dM (show aO _ (.type "list") (j6 K)from rW) rfl T.z_list lV (ae (pv 2) af)) (e_ (ae (br (ae ay (ae ay af))) af))))
     (ao (az 4 iX.nd (br (ae ay (ae ay af))))
     (ao (az 5 iX.nd (e_ af))
     (ao (f_ vf rfl (jI rfl T.z_range (ae (bQ (show aO _ (.builtin "len") (cN K)from dU) rfl T.z_len dC (ae (pv 1) af)) af)) (bL (i:=6) iX.nd rfl (Or.inl rfl)) (ao (az 7 iX.nd (au (M0 T) hr T.zR (ae (br (ae ay (ae ay af))) (ae (dQ c_ (pv 3) (pv 6) (λ_ _=>rfl)) af))))
     (ao (az 4 iX.nd (au (yd T) hr T.nC (ae (pv 4) (ae (pv 7) af))))
     (ao (az 8 iX.nd (au (Sf T) hr T.Fu (ae (pv 0) (ae (dQ c_ (pv 1) (pv 6) (λ_ _=>rfl)) af))))
     (ao (lJ (i:=9) iX.nd rfl (Or.inl rfl) rfl (cE.by (N':=["_law_phase","_law_wait"]) (src:=[none,some 7]) rfl (show cU _ (aC oF).names yy ["_law_phase","_law_wait"] [none,some 7]=true from by decide +kernel)) (fY (pv 3)) (λ_ _ _ _ _=>(bL (i:=0) (show(["_law_phase","_law_wait"]:List Str).Nodup from by decide) rfl (Or.inl rfl))) (λ_ _ _ _ _=>dX) (λ_ _ _ _ _=>(au (yd (K:=K) (mg:=mg) (a:=a) T) hr T.nC (ae (pv 0) (ae (pv 1) af)))))
     (ao (lJ (i:=3) iX.nd rfl (Or.inl rfl) rfl (cE.by (N':=["_law_phase","_law_often"]) (src:=[none,some 8]) rfl (show cU _ (aC oF).names yy ["_law_phase","_law_often"] [none,some 8]=true from by decide +kernel)) (fY (pv 9)) (λ_ _ _ _ _=>(bL (i:=0) (show(["_law_phase","_law_often"]:List Str).Nodup from by decide) rfl (Or.inl rfl))) (λ_ _ _ _ _=>dX) (λ_ _ _ _ _=>(au (yd (K:=K) (mg:=mg) (a:=a) T) hr T.nC (ae (au (CO (K:=K) (mg:=mg) (a:=a) T) hr T.p5 (ae (nW (K:=K) c_ (pv 1)) (ae (pv 0) af))) (ae (nW (K:=K) c_ (pv 1)) af)))))
     (ao (mD (br (ae ay (ae ay af))) (om (pv 3) (pv 6) pY))
     (av (mR (m6 Wh Wf Wg kY (pv 5) (ae (dQ c_ (pv 3) (aA gr (aA cb (pv 6) ay) (bQ (show aO _ (.builtin "len") (cN K)from dU) rfl T.z_len dC (ae (pv 1) af))) (λ_ _=>rfl)) af)))))))))))
     (av (aE (br (ae (oB oz (pv 3) nN (pb (gU h9 ay))) (ae (pv 4) (ae (pv 5) af)))))))))),?_⟩
 walk_at "cl";rw[show start yy [x0,x1,x2]=[some x0,some x1,some x2,none,none,none,none,none,none,none]from rfl];obtain⟨ra,rb,ns,xs,p1,rfl,hr',hn',hp',ok,hrow,htm,q⟩:=h;have hlen:=ok.len;have hfew:=ok.bX;walk_at "gg";refine zu3 hp' (λl1 H1 us hl1 S1 e1 t1=>?_);have hul:=t1.length;rw[we]at hul;walk_at "gg";refine eC (r:=0) rfl rfl (λv2 H2 S2 i2=>?_);walk_at "gg";refine ff (by simp) (λl3 H3 hl3 S3 e3=>?_);refine mP (S3 _ _ (S2 _ _ e1)) e3 (WC (iJ (by simp;omega))) (λlp H4 hl4 S4 e4=>?_);walk_at "gg";refine eC (r:=0) rfl rfl (λv5 H5 S5 i5=>?_);walk_at "gg";refine ff (by simp) (λlh H6 hlh S6 e6=>?_);have T4:ah H H4:=S1.trans (S2.trans (S3.trans S4));have T6:ah H H6:=T4.trans (S5.trans S6);have t6:ak K H6 (us++[v2]) ((xs++[0]).map N):=Ak (ak.same (S2.trans (S3.trans (S4.trans (S5.trans S6)))) _ _ t1) (i2.by (S3.trans (S4.trans (S5.trans S6))));have e46:=S6 _ _ (S5 _ _ e4);have hD:=jf (T4.trans S5) hlh;have neph:lp≠lh:=λz=>by subst z;rw[S5 _ _ e4]at hlh;cases hlh
 have i56:=i5.by S6;clear S1 S2 S3 S4 S5 S6 e1 e3 e4 t1 i2 i5 hl1 hl3 hl4 hlh T4;walk_at "gg";refine jJ (T6.seq hn') ?_;rw[we];refine kH (n:=(ns.length:Int)) (by omega) (by omega) (λk σ H'=>∃lp vt o6 o7 o8 o9 us hs,σ = [some x0,some (.ref p1),some x2,some (.ref lp),some vt,some (.ref lh),o6,o7,o8,o9]/\ah H H'/\lp≠lh/\H' lp=some (.lst us)/\ak K H' us ((aH ra rb ns (xs++[0]) k).map N)/\Is K H' vt (N (gp ra rb ns xs k))/\H' lh=some (.lst hs)/\ak K H' hs ((iH ra rb ns xs k).map N)) ⟨lp,v5,_,_,_,_,_,[],rfl,T6,neph,e46,t6,i56,e6,.nil⟩ ?_ ?_
 . rintro k σ H7 hk ⟨lp,vt,o6,o7,o8,o9,us,hs,rfl,S7,neph,e7,t7,it7,h7,th7⟩
   have hk':k<ns.length:=by simpa using hk
   have b1:=htm k hk';have hmk:=hrow k (by omega);have hrl:(aH ra rb ns (xs++[0]) k).length=ns.length:=by rw[cJ,wH];simp;omega
   have e8:aH ra rb ns (xs++[0]) (k+1)=df ra rb (ns.getD k 0).toNat (aH ra rb ns (xs++[0]) k) k:=rfl;have et:gp ra rb ns xs (k+1)=gp ra rb ns xs k+(1-(aH ra rb ns (xs++[0]) k).getD k 0):=rfl;have eh:=Yc ra rb ns xs k;have bb:∀j,ag 3500 ((aH ra rb ns (xs++[0]) k).getD j 0):=λj=>hmk.get j
   have hnk:=ok.n0 (ns.getD k 0) (by rw[wa,wc hk'];exact vd _);generalize aH ra rb ns (xs++[0]) k=row at *;have bw:ag 3502 (1-row.getD k 0):=(ag.one.sub (bb k)).mono (by decide);have bk:=bb k;walk_at "gg";refine eC (r:=1) rfl rfl (λv8 H8 S8 i8=>?_);walk_at "gg";refine ki (cY (S8 _ _ e7) (ak.same S8 _ _ t7)) (by omega) (by omega) (λv9 i9=>?_);rw[wE]at i9;have it8:=it7.by S8;walk_at "gg";refine O5 i8 i9 ag.one bk (by decide) (λv10 H10 S10 i10=>?_);have it10:=it8.by S10;walk_at "gg";rename_i v11 H11 S11 i11;have T11:=S8.trans (S10.trans S11);refine Z9 (T11.seq (S7.seq hn')) (by omega) (by omega) ?_;rw[wE];walk_at "gg";refine Z6 ((hr'.by S7).by T11) ok.ba ok.bb hnk.1 hnk.2 (λv12 H12 S12 i12=>?_);have T12:=T11.trans S12;have bf:ag 700 (ra^(ns.getD k 0).toNat):=(ok.ba.pow _).mono (by omega);have bg:ag 1500 (aB ra rb (ns.getD k 0).toNat):=(ok.ba.aB ok.bb _).mono (by omega);have i1012:=i10.by (S11.trans S12);have i1112:=i11.by S12;have e12:=T12 _ _ e7;have t12:ak K H12 us (row.map N):=ak.same T12 _ _ t7;have h12:=T12 _ _ h7;have th12:ak K H12 hs ((iH ra rb ns xs k).map N):=ak.same T12 _ _ th7;have X12:=S7.trans T12;have hul:us.length=row.length:=by rw[t12.length,we]
   rw[<- et]at i1112;clear S8 S10 S11 S12 T11 T12 i8 i9 i10 i11 e7 t7 h7 th7 it7 it8;walk_at "gg";refine kF (.of e12) (o0:=none) (tl:=[some v10]) rfl (λj v H=>Is K H v (N ((row.map λx=>x+(1-row.getD k 0)).getD j 0))) ?_ ?_
   . rintro D j x ys o H1 hx' inv
     obtain⟨hj,ix⟩:=de t12 hx';have ix1:=ix.by inv.same;have jv:=i1012.by inv.same;have bx:=bb j;walk_at "gg";rename_i v4 H4 S4 iv4;exact eU inv (by omega) eZ ⟨_,rfl⟩ S4 (by rw[mX hj];exact iv4)
   . rintro D ys H13 hn13 S13 e13 hl13 hr13
     have hyl:ys.length=row.length:=by omega
     have t13:ak K H13 ys ((row.map λx=>x+(1-row.getD k 0)).map N):=fk (by rw[we];exact hyl) hr13;have hn0:H12 D=none:=hn13;walk_at "gg";refine kF (.of e13) (o0:=none) (tl:=[some v12]) rfl (λj v H=>Is K H v (N ((row.map λx=>push ra rb (ns.getD k 0).toNat (x+(1-row.getD k 0))).getD j 0))) ?_ ?_
     . rintro D2 j x zs o H1 hx' inv
       obtain⟨hj,ix⟩:=de t13 hx';rw[we]at hj;rw[mX hj]at ix;have ix1:=ix.by inv.same;have jv:=(i12.by S13).by inv.same;have bx:ag 3502 (row.getD j 0+(1-row.getD k 0)):=zCx hmk hj (by omega);walk_at "gg";rename_i v4 H4 S4 iv4 v5 iv5 v6 H6 S6 iv6;exact eU inv (by omega) eZ ⟨_,rfl⟩ (S4.trans S6) (by rw[mX hj,gG];exact iv6)
     . rintro D2 zs H14 hn14 S14 e14 hl14 hr14
       have hzl:zs.length=row.length:=by omega
       have T14:=S13.trans S14;walk_at "gg";refine eC (r:=0) rfl rfl (λv15 H15 S15 i15=>?_);walk_at "gg";refine zf (j:=k) (S15 _ _ e14) (by unfold gP;rw[if_pos (by omega),if_pos (by omega)];simp) (λH16 E16 e16=>?_);have hD2:H12 D2=none:=jf S13 hn14;have ne2:lh≠D2:=λz=>by subst z;rw[h12]at hD2;cases hD2
       have hDH:=jf X12 hD2;have T15:=T14.trans S15;have h16:=E16 lh _ ne2 (T15 _ _ h12);have K16:bG H15 H16:=E16.keep (S15 _ _ e14)
       have t16:ak K H16 (zs.set k v15) ((df ra rb (ns.getD k 0).toNat row k).map N):=by
         refine fk (by rw[WW,gB];exact hzl) λj v hv=>?_
         rw[W5]at hv
         by_cases hij:k=j
         . subst hij
           rw[if_pos rfl,if_pos (by omega)]at hv;cases hv;rw[fA _ _ _ _ _ _ (by omega),if_pos rfl];exact i15.fE K16
         . rw[if_neg hij]at hv
           have hj:j<row.length:=by
             rcases wt j zs.length with z | z
             . omega
             . rw[wA z]at hv;cases hv
           have hz:=hr14 j v hv;rw[mX hj]at hz;rw[fA _ _ _ _ _ _ hj,if_neg (vX hij)];exact(hz.by S15).fE K16
       rw[<- e8]at t16;have th16:ak K H16 hs ((iH ra rb ns xs k).map N):=ak.keep (T15.keep.trans K16) _ _ (fO _) th12;have i1116:=(i1112.by T15).fE K16;have X16:ah H H16:=(X12.trans T15).grow hDH E16;have hrl2:(aH ra rb ns (xs++[0]) (k+1)).length=ns.length:=by rw[cJ,wH];simp;omega
       have hhl:hs.length=k:=by
         have:=th16.length;rw[we]at this;unfold iH at this
         simpa using this
       clear hr14 e14 hn14 S14 S15 T14 T15 S13 e13 t13 hr13 hn13 i12 i1012 i1112 e12 t12 h12 th12 i15;walk_at "gg";refine lq (aK.of h16) ?_;walk_at "gg";refine jJ (X16.seq hn') ?_;rw[we];have hn0':(0:Int)<(ns.length:Int):=by omega
       walk_at "gg";have em:((k:Int)+1) % (ns.length:Int)=(((k+1) % ns.length:Nat):Int):=by push_cast;rfl
       have hmd:(k+1) % ns.length<ns.length:=qb _ (by omega);rw[em];refine ki (cY e16 t16) (by omega) (by omega) (λv17 i17=>?_);rw[wE]at i17;walk_at "gg";refine kS h16 (by omega) (λH18 E18 e18=>?_);have K18:=E18.keep h16;walk_at "gg";refine⟨D2,_,_,_,_,_,_,hs++[v17],rfl,X16.grow hD E18,vX ne2,E18 D2 _ (vX ne2) e16,ak.keep K18 _ _ (fO _) t16,i1116.fE K18,e18,?_⟩;rw[eh];exact Ak (ak.keep K18 _ _ (fO _) th16) (i17.fE K18)
 . rintro σ H7 ⟨lp,vt,o6,o7,o8,o9,us,hs,rfl,S7,neph,e7,t7,it7,h7,th7⟩
   walk_at "gg";refine uY (cY e7 t7) (λl20 H20 ys20 n20 S20 e20 t20=>?_);rw[AV,<- Qd]at t20;walk_at "gg";refine lR (by simp) (λt21 H21 n21 S21 e21=>?_);exact q t21 l20 vt lh ys20 hs H21 (S7.trans (S20.trans S21)) e21 (S21 _ _ e20) (ak.same S21 _ _ t20) (it7.by (S20.trans S21)) hD ((S20.trans S21) _ _ h7) (ak.same (S20.trans S21) _ _ th7)
def HP(K:wb):Sp:=λvs H Q _=>∃x0 x1,vs=[x0,x1] /\ ∃(a:Rat)(n:Int)(k:Nat),x1=.int n/\Is K H x0 (N a)/\ag k a/\k<=4000/\0<=n/\n<=100/\k*n.toNat<=4000 /\ ∀v H',ah H H'->Is K H' v (N (a^n.toNat))->Q v H'
theorem zo6{K:wb}{H:Hp}{Q:VK}{E:XK}{a:Rat}{n:Int}{k:Nat}{v:V}(h:Is K H v (N a))(b:ag k a)(hk:k<=4000)(n0:0<=n)(n1:n<=100)(hkn:k*n.toNat<=4000)(q:∀v H',ah H H'->Is K H' v (N (a^n.toNat))->Q v H'):HP K [v,.int n] H Q E:=⟨_,_,rfl,a,n,k,rfl,h,b,hk,n0,n1,hkn,q⟩
theorem Cq{k:Nat}{x:Int}(h:Bd k x):∀n:Nat,Bd (k*n+1) (x^n)
 | 0=>⟨by simp⟩
 | n+1=>by
  rw[Vm];exact((Cq h n).mul h).mono (by rw[qL];omega)
theorem Yb(T:Txt K mg a):aJ P w K mg base aT 1 a.GI a.Ff yL (HP K):=by
 refine T.FT.F.ok ml ?_ ?_;walk_at "b2"
 refine⟨_,(ao (az 2 ml.nd ay)
     (ao (az 3 ml.nd ay)
     (ao (f_ vf rfl (jI rfl T.z_range (ae (pv 1) af)) (bL (i:=4) ml.nd rfl (Or.inl rfl)) (ao (az 2 ml.nd (aA cj (pv 2) (ar (pv 0))))
     (av (az 3 ml.nd (aA cj (pv 3) (ar (pv 0)))))))
     (av (aE (br (ae (pv 2) (ae (pv 3) af)))))))),?_⟩
 walk_at "cl";rw[show start LP [x0,x1]=[some x0,some x1,none,none,none]from rfl];obtain⟨ra,n,kk,rfl,hx,ba,hk4,n0,n1,hkn,q⟩:=h;have bt:Bd 4000 ra.num:=ba.t.mono hk4;have bd:Bd 4000 (ra.den:Int):=ba.b.mono hk4;walk_at "gg";refine kH (n:=n) (by omega) (by omega) (λi σ H'=>∃o,σ = [some x0,some (.int n),some (.int (ra.num^i)),some (.int ((ra.den:Int)^i)),o]/\H'=H) ⟨none,by rw[qx,qx],rfl⟩ ?_ ?_
 . rintro i σ H' hi ⟨o,rfl,rfl⟩
   have hki:kk*i<=kk*n.toNat:=qB _ (by omega);have b1:Bd 4001 (ra.num^i):=(Cq ba.t i).mono (by omega);have b2:Bd 4001 ((ra.den:Int)^i):=(Cq ba.b i).mono (by omega);have e1:ra.num^(i+1)=ra.num^i*ra.num:=Vm ..;have e2:(ra.den:Int)^(i+1)=(ra.den:Int)^i*(ra.den:Int):=Vm ..;generalize ra.num^i=t at *;generalize (ra.den:Int)^i=u at *;walk_at "gg";exact⟨_,by rw[e1,e2],rfl⟩
 . rintro σ H' ⟨o,rfl,rfl⟩
   walk_at "gg";exact eC (r:=ra^n.toNat) (Rat.num_pow ..).symm (by rw[Rat.den_pow];push_cast;rfl) q
def KQ(K:wb):Sp:=λvs H Q _=>∃x0 x1,vs=[x0,x1] /\ ∃(a b:Rat)(ns:List Int)(p1:Addr),x1=.ref p1/\Is K H x0 (R a b)/\aK K H p1 (ns.map V.int)/\aV a b/\cP ns/\a≠1 /\ ∀l H' us,H l=none->ah H H'->H' l=some (.lst us)->ak K H' us ((cK a b ns).map N)->Q (.ref l) H'
theorem ZC{K:wb}{H:Hp}{Q:VK}{E:XK}{a b:Rat}{ns:List Int}{v:V}{p1:Addr}(h1:Is K H v (R a b))(h2:aK K H p1 (ns.map V.int))(ok:aV a b)(sz:cP ns)(ha:a≠1)(q:∀l H' us,H l=none->ah H H'->H' l=some (.lst us)->ak K H' us ((cK a b ns).map N)->Q (.ref l) H'):KQ K [v,.ref p1] H Q E:=⟨_,_,rfl,a,b,ns,p1,rfl,h1,h2,ok,sz,ha,q⟩
theorem zvy{a b:Rat}{ns:List Int}{xs:List Rat}{m:Nat}(h:aV a b)(k:cP ns)(hl:ns.length=xs.length+1)(c:Cm m xs)(hm:m<=3290):cq a b ns xs/\(∀j,j<=ns.length->Cm 3500 (aH a b ns (xs++[0]) j)) /\ ∀j,j<ns.length->ag 4300 (gp a b ns xs j):=by
 have h8:=k.bX;have hu:=k.upTo
 have ht:∀j,gp a b ns xs j=dS a b ns (xs++[0]) j:=λj=>by
  induction j with
  | zero=>rfl
  | succ j ih=>rw[gp,dS,ih]
 have hc:∀j,j<=ns.length->Cm 3500 (dS a b ns (xs++[0]) j::aH a b ns (xs++[0]) j):=λj hj=>by
  have h1:=Cw (ns:=ns) hj (wg _);exact(c.snoc.Ae h.ba h.bb (ns:=ns) j hj).mono (by omega)
 refine⟨⟨h.ba,h.bb,λn hn=>by have:=k.each n hn;omega,hl,by omega,⟨m,c,by omega⟩⟩,λj hj=>oW (hc j hj) λy hy=>wo _ hy,λj hj=>?_⟩;rw[ht];exact((hc j (by omega)).eX (wu ..)).mono (by decide)
theorem Po{H:Hp}{Q:VK}{l:Addr}{v:V}{k:Int}(e:H l=some (.lst [v]))(h0:0<=k)(h1:k<=1000)(q:∀p H',H p=none->ah H H'->H' p=some (.lst (wQ k.toNat v))->Q (.ref p) H'):pE (.ref l) (.int k) H Q :=
 zAX e (by omega) h1 (by rw[vJ];omega) (λp H' n s e'=>q p H' n s (by rw[e',List.flatten_replicate_singleton]))
theorem UI{K:wb}{H:Hp}{v:V}(h:Is K H v (N 0))(n:Nat):ak K H (wQ n v) ((cf n).map N):=by
 unfold cf;rw[xL];exact ak.HJ h n
theorem YE(T:Txt K mg a):aJ P w K mg base aT 5 a.Gz a.Ft yp (KQ K):=by
 refine T.Fx.F.ok Bh ?_ ?_;walk_at "b2"
 refine⟨_,(ao (az 2 Bh.nd (au (Yb T) hr T.FT (ae (ar (pv 0)) (ae (bQ (show aO _ (.builtin "sum") (Ca K)from zsM rfl) rfl T.z_sum OG (ae (pv 1) af)) af))))
     (ao (az 3 Bh.nd (ar (au (Zt T) hr T.FH (ae (pv 0) (ae (pv 1) (ae (aA (show aN _ (binaryOp .Mult) pE from P7) (e_ (ae (br (ae ay (ae ay af))) af)) (aA jn (bQ (show aO _ (.builtin "len") (cN K)from dU) rfl T.z_len dC (ae (pv 1) af)) ay)) af))))))
     (av (aE (d4 rfl (cE.by (N':=["_law_shift","_law_factor"]) (src:=[none,some 2]) rfl (show cU _ (aC tM).names An ["_law_shift","_law_factor"] [none,some 2]=true from by decide +kernel)) (fY (pv 3)) (λ_ _ _ _ _=>(bL (i:=0) (show(["_law_shift","_law_factor"]:List Str).Nodup from by decide) rfl (Or.inl rfl))) (λ_ _ _ _ _=>dX) (λ_ _ _ _ _=>by exact(au (TY (K:=K) (mg:=mg) (a:=a) T) hr T.Ge (ae (pv 0) (ae (au (M0 (K:=K) (mg:=mg) (a:=a) T) hr T.zR (ae (show PE _ _ (CM K _)from br (ae ay (ae ay af))) (ae (pv 1) af))) af))))))))),?_⟩
 walk_at "cl";rw[show start An [x0,x1]=[some x0,some x1,none,none]from rfl];obtain⟨ra,rb,ns,p1,rfl,hr',hn',ok,sz,ha,q⟩:=h;have h8:=sz.bX;have h1:=sz.some;have hp:=sz.pos;have hF:ra^ns.sum.toNat≠1:=λe=>ha ((sx ok (by omega)).mp e)
 have bF:ag 49 (ra^ns.sum.toNat):=(iE ok _).mono (by omega);have hne:1-ra^ns.sum.toNat≠0:=λe=>hF (by grind)
 have rc:=zvy ok sz (xs:=cf (ns.length-1)) (by rw[tf];omega) (nT _) (by decide);walk_at "gg";rename_i va ia;refine zyd hn' ?_;walk_at "gg";refine zo6 ia (L6 ok) (by decide) (by omega) (by omega) (by omega) (λv1 H1 S1 i1=>?_);walk_at "gg";refine eC (r:=0) rfl rfl (λv2 H2 S2 i2=>?_);walk_at "gg";refine ff (by simp) (λl3 H3 n3 S3 e3=>?_);walk_at "gg";refine jJ ((S1.trans (S2.trans S3)).seq hn') ?_;rw[we];walk_at "gg";refine Po e3 (by omega) (by omega) (λl4 H4 n4 S4 e4=>?_);have T4:=S1.trans (S2.trans (S3.trans S4));have hk:((ns.length:Int)-1).toNat=ns.length-1:=by omega
 rw[hk]at e4;have i4:Is K H4 (.ref l4) (LN (cf (ns.length-1))):=cY e4 (UI (i2.by (S3.trans S4)) _);walk_at "gg";refine zpX (hr'.by T4) (T4.seq hn') (.inl i4) rc.1 rc.2.1 rc.2.2 (λv5 H5 S5 i5=>?_);walk_at "gg";refine aD (j:=0) i5 rfl (λv6 i6=>?_);have T5:=T4.trans S5;have i15:=i1.by (S2.trans (S3.trans (S4.trans S5)));obtain⟨l6,us,rfl,hs6,t6⟩:=cB.mp i6;have hul:=t6.length;rw[we]at hul;have hsl:(cR ra rb ns).length=ns.length-1:=lY h1;have hul:us.length=ns.length-1:=by rw[hul];exact hsl
 have hstl:(cK ra rb ns).length=ns.length-1:=sf h1;walk_at "gg";refine kF hs6 (o0:=none) (tl:=[some v1]) rfl (λj y H'=>Is K H' y (N ((cK ra rb ns).getD j 0))) ?_ ?_
 . intro D j x ys o H7 hx inv
   obtain⟨hj,ix⟩:=de (xs:=cR ra rb ns) t6 hx;have S7:=inv.same;have ix7:=ix.by S7;walk_at "gg";refine eC (r:=1) rfl rfl (λv8 H8 S8 i8=>?_);walk_at "gg";refine O5 i8 (i15.by (S7.trans S8)) ag.one bF (by decide) (λv9 H9 S9 i9=>?_);walk_at "gg";refine zqk (ix7.by (S8.trans S9)) i9 (sM ok sz j) (ag.one.sub bF) (by decide) hne (λv10 H10 S10 i10=>?_);have e:(cK ra rb ns).getD j 0=(cR ra rb ns).getD j 0 / (1-ra^ns.sum.toNat):=PF (by omega);rw[<- e]at i10;exact eU inv (by omega) eZ ⟨_,rfl⟩ (S8.trans (S9.trans S10)) i10
 . intro D ys H7 hn S7 hD hl hr
   exact q D H7 ys (jf T5 hn) (T5.trans S7) hD (fk (by rw[hl,hul,hstl]) hr)
def LY(K:wb):Sp:=λvs H Q _=>∃x0 x1 x2,vs=[x0,x1,x2] /\ ∃(p:Addr)(k m:Int)(ra rb:Rat),x0=.ref p/\x2=.int m/\Is K H x1 (R ra rb)/\aV ra rb/\b_ H p k/\k<=900/\3<=m/\m<=8 /\ ∀(l:Addr)(H':Hp)(us:List V)(xs:List Rat),H l=none->Exc p H H'->bG H H'->b_ H' p (k+13)->H' l=some (.lst us)->ak K H' us (xs.map N)->1<=xs.length->(xs.length:Int)<=m->(∀x∈xs,eA x)->Q (.ref l) H'
theorem zpm{K:wb}{H:Hp}{Q:VK}{E:XK}{p:Addr}{k m:Int}{ra rb:Rat}{v:V}(ir:Is K H v (R ra rb))(ok:aV ra rb)(h:b_ H p k)(hk:k<=900)(h1:3<=m)(h8:m<=8)(q:∀(l:Addr)(H':Hp)(us:List V)(xs:List Rat),H l=none->Exc p H H'->bG H H'->b_ H' p (k+13)->H' l=some (.lst us)->ak K H' us (xs.map N)->1<=xs.length->(xs.length:Int)<=m->(∀x∈xs,eA x)->Q (.ref l) H'):LY K [.ref p,v,.int m] H Q E:=⟨_,_,_,rfl,p,k,m,ra,rb,rfl,rfl,ir,ok,h,hk,h1,h8,q⟩
theorem Yg{n:Nat}(h1:1<=n)(h3:n<=3):cP (wQ n (1:Int)):=by
 have:n=1\/n=2\/n=3:=by omega
 rcases this with rfl | rfl | rfl
 ·exact⟨by decide,by decide,by decide,by decide⟩
 ·exact⟨by decide,by decide,by decide,by decide⟩
 ·exact⟨by decide,by decide,by decide,by decide⟩
theorem zwc{x:Rat}(h0:¬ x.num<0)(h1:¬ (x.den:Int)<=x.num)(h2:¬ (60:Int)<(x.den:Int)):eA x:=by
 have:=LJ (r:=x.num) (u:=(x.den:Int)) (by omega) (by omega) (by omega);rw[WR]at this;exact this
theorem YN(T:Txt K mg a):aJ P w K mg base aT 6 a.Gs a.Fv zo (LY K):=by
 refine T.FX.F.ok r8 ?_ ?_;walk_at "b3"
 refine⟨_,(ao (az 3 r8.nd (au (UX T) hr T.Eo (ae (pv 0) (ae (pv 2) af))))
     (ao (bN (PW.pt (jD (bS nv (au (fU T) hr T.fj (ae (pv 0) (ae ay af))) ay (a_ _)) (kh (bS (show aN _ (compareOp .Eq) (cz K)from cZ hu) (ar (pv 1)) (br (ae ay (ae ay af))) (a_ _))))) (av (aE (pv 3))) bP)
     (ao (az 4 r8.nd (aA cb (au (YE T) hr T.Fx (ae (pv 1) (ae (aA (show aN _ (binaryOp .Mult) pE from P7) (e_ (ae ay af)) (aA cb ay (au (fU T) hr T.fj (ae (pv 0) (ae ay af))))) af))) (e_ (ae (br (ae ay (ae ay af))) af))))
     (ao (f_ vf rfl (fY (pv 4)) (bL (i:=5) r8.nd rfl (Or.inl rfl)) (av (bN (PW.pt (jD (bS mO (ar (pv 5)) ay (a_ _)) (jD (bS Bg (ar (pv 5)) (ar (pv 5)) (a_ _)) (kh (bS nv (ar (pv 5)) ay (a_ _)))))) (av (aE (pv 3))) bP)))
     (av (aE (pv 4))))))),?_⟩
 walk_at "cl";rw[show start Kj [x0,x1,x2]=[some x0,some x1,some x2,none,none,none]from rfl];obtain⟨p,k,m,ra,rb,rfl,rfl,ir,ok,hp,hk,h3,h8,q⟩:=h;walk_at "gg";refine Z4 hp (by omega) (by omega) (by omega) (λl1 H1 us1 xs1 n1 E1 K1 P1 e1 t1 a1 b1 ph1=>?_);have ne1:l1≠p:=b_.ne n1 hp;walk_at "gg"
 . rename_i d H2 d0 d1 E2 K2 P2 z
   exact q l1 H2 us1 xs1 n1 (E1.trans E2) (K1.trans K2) (P2.le (by omega)) (E2.at ne1 e1) (ak.keep K2 _ _ (fO _) t1) a1 b1 ph1
 . rename_i d H2 d0 d1 E2 K2 P2 z va ia
   have e2:=E2.at ne1 e1;have t2:ak K H2 us1 (xs1.map N):=ak.keep K2 _ _ (fO _) t1;have ir2:=(ir.nH K1).nH K2;have EA:=E1.trans E2;have KA:=K1.trans K2;clear E1 K1 P1 e1 t1 E2 K2 ir;refine eC (r:=1) rfl rfl (λv3 H3 S3 i3=>?_);refine Ph (ia.by S3) i3 ⟨_,rfl,?_⟩
   by_cases za:ra=1
   . rw[decide_eq_true za,if_pos rfl]
     walk_at "gg";exact q l1 H3 us1 xs1 n1 (EA.trans S3.exc) (KA.trans S3.keep) ((P2.same S3).le (by omega)) (S3 _ _ e2) (ak.same S3 _ _ t2) a1 b1 ph1
   . rw[decide_eq_false za,if_neg (by decide)]
     walk_at "gg";refine ff (by simp) (λl4 H4 n4 S4 e4=>?_);have P4:=(P2.same S3).same S4;walk_at "gg";rename_i r H5 r0 r1 E5 K5 P5;have ne4:l4≠p:=b_.ne n4 (P2.same S3);refine Po (E5.at ne4 e4) (by omega) (by omega) (λl6 H6 n6 S6 e6=>?_);obtain⟨n,hn⟩:∃n:Nat,2+r=(n:Int):=⟨(2+r).toNat,by omega⟩;rw[hn,wE]at e6;have e6:H6 l6=some (.lst ((wQ n (1:Int)).map V.int)):=by rw[xL];exact e6
     have S34:=S3.trans S4;have KB:=KA.trans (S34.keep.trans (K5.trans S6.keep));have EB:=EA.trans (S34.exc.trans (E5.trans S6.exc));have P6:=P5.same S6;have eB:H6 l1=some (.lst us1):=S6 _ _ (E5.at ne1 (S34 _ _ e2));have tB:ak K H6 us1 (xs1.map N):=ak.keep (S34.keep.trans (K5.trans S6.keep)) _ _ (fO _) t2;have irB:=ir2.nH (S34.keep.trans (K5.trans S6.keep));clear S3 S4 S34 E5 K5 S6 e2 t2 ir2 EA KA P2 P4 P5 e4 i3 ia n4 ne4 n6;walk_at "gg";refine ZC irB (.of e6) ok (Yg (by omega) (by omega)) za (λl7 H7 us7 n7 S7 e7 t7=>?_);have hsl:(cK ra rb (wQ n (1:Int))).length=n-1:=by rw[sf (by rw[vT];omega),vT]
     have hul:=t7.length;rw[we,hsl]at hul;generalize cK ra rb (wQ n (1:Int))=ys at *;walk_at "gg";refine eC (r:=0) rfl rfl (λv8 H8 S8 i8=>?_);walk_at "gg";refine ff (by simp) (λl9 H9 n9 S9 e9=>?_);refine mP (S9 _ _ (S8 _ _ e7)) e9 (WC (iJ (by simp;omega))) (λl10 H10 n10 S10 e10=>?_);have S710:=S8.trans (S9.trans S10);have t10:ak K H10 (us7++[v8]) ((ys++[0]).map N):=Ak (ak.same S710 _ _ t7) (i8.by (S9.trans S10));have SC:=S7.trans S710;have hn10:H6 l10=none:=jf (S7.trans (S8.trans S9)) n10
     have hnl:H l10=none:=by
       have ne:l10≠p:=b_.ne hn10 P6;cases e:H l10 with
       | none=>rfl
       | some o=>rw[EB l10 o ne e]at hn10;cases hn10
     clear S7 S8 S9 S10 S710 t7 i8 n7 n9 n10 e7 e9;walk_at "gg";refine rF (.of e10) (λi σ H'=>∃o,σ = [some (.ref p),some x1,some (.int m),some (.ref l1),some (.ref l10),o]/\H'=H10 /\ ∀j,j<i->eA ((ys++[0]).getD j 0)) ⟨_,rfl,rfl,λj hj=>by omega⟩ (λi σ H' _ h=>by obtain⟨_,_,rfl,_⟩:=h;exact .of e10) ?_ ?_
     . rintro i x σ H' hx ⟨o,rfl,rfl,hj⟩
       obtain⟨hi,ix⟩:=de t10 hx;walk_at "gg"
       . exact q l1 H' us1 xs1 n1 (EB.trans SC.exc) (KB.trans SC.keep) ((P6.same SC).le (by omega)) (SC _ _ eB) (ak.same SC _ _ tB) a1 b1 ph1
       . exact q l1 H' us1 xs1 n1 (EB.trans SC.exc) (KB.trans SC.keep) ((P6.same SC).le (by omega)) (SC _ _ eB) (ak.same SC _ _ tB) a1 b1 ph1
       . exact q l1 H' us1 xs1 n1 (EB.trans SC.exc) (KB.trans SC.keep) ((P6.same SC).le (by omega)) (SC _ _ eB) (ak.same SC _ _ tB) a1 b1 ph1
       . rename_i z1 z2 z3
         refine⟨_,rfl,rfl,λj hj'=>?_⟩;rcases wt j i with y | y
         . exact hj j y
         . have:j=i:=by omega
           subst this;exact zwc z1 z2 z3
     . rintro σ H' ⟨o,rfl,rfl,hj⟩
       walk_at "gg";have hyl:(ys++[0]).length=n:=by simp[hsl];omega
       refine q l10 H' _ (ys++[0]) hnl (EB.trans SC.exc) (KB.trans SC.keep) ((P6.same SC).le (by omega)) e10 t10 (by omega) (by omega) (λy hy=>?_);obtain⟨j,hj',e⟩:=wK hy;have:=hj j (by simp;omega);rw[wa,wc hj']at this;rw[<- e];exact this
def yX(K:wb):Sp:=λvs H Q _=>∃x0,vs=[x0] /\ ∃(a:Addr)(ns:List Int),x0=.ref a/\gZ K H a (ns.map V.int)/\ns.length<=63 /\ ∀H',Q (.bl true) H'
theorem Jq(a b:Rat)(xs:List Rat)(es:List (Nat × Nat × Nat))(n:Nat)(w:String):(h_ a b xs es n w).length=es.length+1:=by simp[h_]
theorem YT{a b:Rat}{xs:List Rat}{es:List (Nat × Nat × Nat)}{n:Nat}{w:String}{j:Nat}(h:j<es.length):(h_ a b xs es n w)[j]? = some (l_ a b xs es[j]):=by
 unfold h_;rw[vo (by simpa using h),wn,wc h]
 rfl
theorem Sk(a b:Rat)(xs:List Rat)(es:List (Nat × Nat × Nat))(n:Nat)(w:String):(h_ a b xs es n w)[es.length]? = some (sA a b xs n w):=by
 unfold h_;rw[wW (by simp)];simp
theorem zBL(T:Txt K mg a):aJ P w K mg base aT 15 a.law a.Hy zB (yX K):=by
 refine T.RX.F.ok iZ ?_ ?_;walk_at "b1"
 refine⟨_,(ao (az 1 iZ.nd (au (zja T) hr T.Ez (ae (au (Pz T) hr T.zY (ae (pv 0) (ae ay af))) af)))
     (ao (az 2 iZ.nd (au (YG T) hr T.Gj (ae (pv 1) (ae (au (YN T) hr T.FX (ae (au (Pz T) hr T.zY (ae (pv 0) (ae ay af))) (ae (pv 1) (ae ay af)))) af))))
     (ao (az 3 iZ.nd (au (zpT T) hr T.FQ (ae (pv 2) af)))
     (ao (bN (bS CD (pv 3) ik (a_ _)) (av (aE jb)) bP)
     (ao (az 4 iZ.nd ay)
     (ao (az 5 iZ.nd (pv 2))
     (ao (f_ vf rfl (fY (pv 3)) (bL (i:=6) iZ.nd rfl (Or.inl rfl)) (ao (bN (bS nv (pv 4) ay (a_ _)) (av (aE jb)) bP)
     (ao (mD (au (L9 T) hr T.zZ (ae (pv 2) (ae (pv 4) af))) (lK (n:=2) rfl (gD (bL (i:=7) iZ.nd rfl (Or.inl rfl)) (gD (bL (i:=5) iZ.nd rfl (Or.inl rfl)) ma))))
     (ao (bN (PW.pt (jD (bS (show aN _ (compareOp .NotEq) (gc K)from kX hu) (br (ae (pv 7) (ae (ar (pv 5)) af))) (br (ae (ar (pv 6)) (ae (ar (pv 6)) af))) (a_ _)) (kh (bS (show aN _ (compareOp .NotEq) (gc K)from kX hu) (ar (pv 5)) (pv 1) (a_ _))))) (av (aE jb)) bP)
     (av (bN (bS (show aN _ (compareOp .Eq) (cz K)from cZ hu) (bQ (show aO _ (.builtin "len") (cN K)from dU) rfl T.z_len dC (ae (pv 6) af)) ay (a_ _)) (av (az 4 iZ.nd (aA cb (aA cb (pv 4) (aA cj (ar (pv 6)) (bQ (show aO _ (.builtin "len") (Az w)from I_) rfl T.z_len dC (ae (dM (show aO _ (.type "set") (zd K w)from Mn hu rfl) rfl T.z_set NV (ae (ar (pv 6)) af)) af)))) (ar (pv 6))))) bP))))))
     (av (aE (au (zrk T) hr T.Gp (ae (pv 5) (ae (ar (dQ c_ (pv 3) (gU h9 ay) (λ_ _=>rfl))) af)))))))))))),?_⟩
 walk_at "cl";rw[show start Jx [x0]=[some x0,none,none,none,none,none,none,none]from rfl];obtain⟨a',ns0,rfl,hs,hl,q⟩:=h;walk_at "gg";refine Mc hs hl (by decide) (by decide) (λp1 H1 hp1 S1 P1=>?_);walk_at "gg";refine YD P1 (by decide) (λv2 H2 ra rb E2 K2 P2 i2 ok=>?_);have KA:bG H H2:=S1.keep.trans K2;walk_at "gg";refine Mc (KA.Lu hs) hl (by decide) (by decide) (λp3 H3 hp3 S3 P3=>?_);walk_at "gg";refine zpm (i2.by S3) ok P3 (by decide) (by decide) (by decide) (λl4 H4 us4 xs n4 E4 K4 P4 e4 t4 a4 b4 ph4=>?_);have i4:=i2.nH (S3.keep.trans K4);have iS:=cY e4 t4;have bg:dA ra rb xs:=⟨ok,a4,by omega,ph4⟩;clear i2 S1 S3 P1 P2 P3 P4 E2 K2 E4 K4 e4 t4 n4 hp1 hp3 KA;walk_at "gg";refine zqN i4 ok (.inl iS) a4 (by omega) ph4 (λvw H5 S5 iw=>?_);have i45:=i4.by S5;walk_at "gg";refine ZS iw bg (λ_ H6 S6=>?_) (λl H6 es n wd P hl6 S6 i6=>?_)
 . walk_at "gg"
   exact q _
 . have iw6:=iw.by S6
   have i46:=i45.by S6;have h6:=bg.h6;have hgl:=mz ok.a0 ok.b0 bg.h1 bg.hp;obtain⟨l',us,el,hs6,t6⟩:=cB.mp i6;cases el;have hul:=t6.length;rw[Jq]at hul;have hat:=P.walk.at;have hz0:=P.walk.first;have hzl:=zuV es n;walk_at "gg"
   . rename_i z;cases z
   . refine rF hs6 (λj σ H'=>∃(vn:V)(o6 o7:Option V),σ = [some (.ref a'),some v2,some vw,some (.ref l),some (.int (dN es n (min j es.length):Int)),some vn,o6,o7]/\ah H6 H'/\(j=es.length+1->Is K H' vn (bD ra rb (aj ra rb xs n)))) ⟨vw,none,none,by rw[Nat.zero_min,hz0];rfl,ah.refl _,λz=>by omega⟩ (λj σ H' _ h=>by obtain⟨_,_,_,_,S,_⟩:=h;exact S.seq hs6) ?_ ?_
     . rintro j x σ H7 hx ⟨vn,o6,o7,rfl,S7,_⟩
       obtain⟨hi,ix⟩:=kx t6 hx;rw[Jq]at hi;have ix7:=ix.by S7;have iwB:=iw6.by S7;rw[QC (by omega)]
       by_cases hj:j<es.length
       . obtain⟨e1,ro,e3⟩:=hat j hj
         rw[wa,YT hj]at ix7;have ixB:Is K H7 x (kR (aQ ra rb xs es[j].1) (aj ra rb xs es[j].1) es[j].2.1 es[j].2.2):=ix7;rw[e1]at ixB ro e3;generalize es[j].2.1=r at *;generalize es[j].2.2=g at *
         have hr30:r<=30:=by
           rcases ro with⟨_,z,_⟩ | ⟨_,_,R⟩
           . omega
           . exact R.ky
         have hN:=bg.nf (dN es n j);walk_at "gg"
         . exact q _
         . rename_i z24
           have hc40:(dN es n j:Int)<=24:=by omega
           refine sR iwB ok.ba ok.bb bg.h1 (by omega) (by omega) (by omega) (λt ht=>(bg.cm (i:=t) (by
             have h1:=hgl t;have h2:t*xs.length<=24*6:=WB (by omega) h6;omega) (by omega)).mono (by decide)) (λv8 H8 S8 i8=>?_)
           rw[wE]at i8;walk_at "gg";refine Rm i8 rfl (λys t=>?_);obtain⟨vh,r1,rfl,ih,t⟩:=dE.mp t;obtain⟨vn',r2,rfl,inw,t⟩:=dE.mp t;rw[fR.mp t];have ixC:=ixB.by S8;walk_at "gg";refine aD (j:=1) inw rfl (λv9 i9=>?_);walk_at "gg";refine cH (ds:=[N (aQ ra rb xs (dN es n j)),TN (aj ra rb xs (dN es n j))]) (by simp) (.cons ih (.cons i9 .nil)) (λv10 H10 S10 i10=>?_);have ixD:=ixC.by S10;walk_at "gg";refine aD (j:=0) ixD rfl (λv11 i11=>?_);walk_at "gg";refine aD (j:=1) ixD rfl (λv12 i12=>?_);walk_at "gg";refine cH (ds:=[N (aQ ra rb xs (dN es n j)),TN (aj ra rb xs (dN es n j))]) (by simp) (.cons i11 (.cons i12 .nil)) (λv13 H13 S13 i13=>?_);refine uV (n:=4) (i10.by S13) i13 (mS (ic ((jV _).mono (by decide)) ((HX _).mono (by decide)))) (by decide) (tT (ic (md _) (Kr _))) ?_;have inw13:=inw.by (S10.trans S13);have iR13:=i46.by (S7.trans (S8.trans (S10.trans S13)));have ix13:=ixD.by S13;have S613:=S7.trans (S8.trans (S10.trans S13));walk_at "gg";refine aD (j:=0) inw13 rfl (λv14 i14=>?_);walk_at "gg";refine uV (n:=4) i14 iR13 (mS (ic ((jV _).mono (by decide)) ((jV _).mono (by decide)))) (by decide) (tT (ic (md _) (md _))) ?_;walk_at "gg";refine ju ix13 ?_;walk_at "gg"
           . refine aD (j:=2) ix13 rfl (λv15 i15=>?_)
             rw[cg.mp i15];walk_at "gg";refine aD (j:=1) ix13 rfl (λv16 i16=>?_);walk_at "gg";refine H_ i16 (by rw[bR];omega) (λls H17 ws ys n17 S17 e17 t17 nd mem=>?_);have hyl:=OB nd mem;have hwl:=t17.length;rw[we]at hwl;walk_at "gg";refine⟨ls,ws,rfl,e17,?_⟩;rw[show ws.length=(ai (aj ra rb xs (dN es n j))).length by omega];walk_at "gg";refine aD (j:=3) (ix13.by S17) rfl (λv18 i18=>?_);rw[cg.mp i18];walk_at "gg";refine⟨vn',some x,some vh,?_,S613.trans S17,λz=>by omega⟩;rw[QC (by omega),<- e3];unfold dw
             push_cast
             rw[Int.add_assoc]
           . rename_i z;exact absurd rfl z
       . have hje:j=es.length:=by omega
         subst hje;rw[wa,Sk]at ix7;have ixB:Is K H7 x (.tuple [N (aQ ra rb xs n),TN (aj ra rb xs n),.str (vO wd)]):=ix7;rw[<- hzl]at ixB;walk_at "gg"
         . exact q _
         . rename_i z24
           have hc40:(dN es n es.length:Int)<=24:=by omega
           refine sR iwB ok.ba ok.bb bg.h1 (by omega) (by omega) (by omega) (λt ht=>(bg.cm (i:=t) (by
             have h1:=hgl t;have h2:t*xs.length<=24*6:=WB (by omega) h6;omega) (by omega)).mono (by decide)) (λv8 H8 S8 i8=>?_)
           rw[wE]at i8;walk_at "gg";refine Rm i8 rfl (λys t=>?_);obtain⟨vh,r1,rfl,ih,t⟩:=dE.mp t;obtain⟨vn',r2,rfl,inw,t⟩:=dE.mp t;rw[fR.mp t];have ixC:=ixB.by S8;walk_at "gg";refine aD (j:=1) inw rfl (λv9 i9=>?_);walk_at "gg";refine cH (ds:=[N (aQ ra rb xs (dN es n es.length)),TN (aj ra rb xs (dN es n es.length))]) (by simp) (.cons ih (.cons i9 .nil)) (λv10 H10 S10 i10=>?_);have ixD:=ixC.by S10;walk_at "gg";refine aD (j:=0) ixD rfl (λv11 i11=>?_);walk_at "gg";refine aD (j:=1) ixD rfl (λv12 i12=>?_);walk_at "gg";refine cH (ds:=[N (aQ ra rb xs (dN es n es.length)),TN (aj ra rb xs (dN es n es.length))]) (by simp) (.cons i11 (.cons i12 .nil)) (λv13 H13 S13 i13=>?_);refine uV (n:=4) (i10.by S13) i13 (mS (ic ((jV _).mono (by decide)) ((HX _).mono (by decide)))) (by decide) (tT (ic (md _) (Kr _))) ?_;have inw13:=inw.by (S10.trans S13);have iR13:=i46.by (S7.trans (S8.trans (S10.trans S13)));have ix13:=ixD.by S13;have S613:=S7.trans (S8.trans (S10.trans S13));walk_at "gg";refine aD (j:=0) inw13 rfl (λv14 i14=>?_);walk_at "gg";refine uV (n:=4) i14 iR13 (mS (ic ((jV _).mono (by decide)) ((jV _).mono (by decide)))) (by decide) (tT (ic (md _) (md _))) ?_;walk_at "gg";refine ju ix13 ?_;walk_at "gg"
           . rename_i z
             rw[show([N (aQ ra rb xs (dN es n es.length)),TN (aj ra rb xs (dN es n es.length)),PyData.str (vO wd)]:List PyData).length=3 from rfl]at z;exact absurd z (by decide)
           . refine⟨vn',some x,some vh,by rw[Nat.min_eq_right (by omega)],S613,λ_=>?_⟩
             rw[hzl]at inw13;exact inw13
     . rintro σ H7 ⟨vn,o6,o7,rfl,S7,hfin⟩
       have iN:=hfin hul;have hsp:=P.sp;have hnf:=bg.nf n;have cn:Cm 3500 (aQ ra rb xs n::aj ra rb xs n):=bg.cm (by have:=hsp.1;omega) (by have:=hsp.2;omega);have sw:=bg.Af P.n1 cn;walk_at "gg";refine my (i6.by S7) (λv8 i8=>?_);walk_at "gg";refine aD (j:=2) (show Is K H7 v8 (.tuple [N (aQ ra rb xs n),TN (aj ra rb xs n),.str (vO wd)])from i8) rfl (λv9 i9=>?_);rw[iR.mp i9];walk_at "gg";refine Z3 iN sw P.word (λt ht=>(bg.jy (i:=n) (k:=t) ?_ (by omega)).mono (by decide)) q;have g1:=mz ok.a0 ok.b0 (xs:=aj ra rb xs n) (by rw[bR];exact bg.h1) (bg.hp.at ok.a0 ok.b0 n) t;rw[bR]at g1;have g2:t*xs.length<=(ai (aj ra rb xs n)).length*6:=WB ht h6;have:=hsp.1;rw[lX];omega
end
theorem Km{us:List Value}(h:us.length=1):∃a,us=[a]:=by
 cases us with
 | nil=>cases h
 | cons a t=>exact⟨a,by rw[qf.mp (Qq h)]⟩
theorem MT{us:List Value}(h:us.length=2):∃a0 a1,us=[a0,a1]:=by
 cases us with
 | nil=>cases h
 | cons a0 t =>
  obtain⟨a1,e⟩:=Km (Qq h);exact⟨a0,a1,by rw[e]⟩
theorem Iw{us:List Value}(h:us.length=3):∃a0 a1 a2,us=[a0,a1,a2]:=by
 cases us with
 | nil=>cases h
 | cons a0 t =>
  obtain⟨a1,a2,e⟩:=MT (Qq h);exact⟨a0,a1,a2,by rw[e]⟩
theorem zCO{us:List Value}(h:us.length=4):∃a0 a1 a2 a3,us=[a0,a1,a2,a3]:=by
 cases us with
 | nil=>cases h
 | cons a0 t =>
  obtain⟨a1,a2,a3,e⟩:=Iw (Qq h);exact⟨a0,a1,a2,a3,by rw[e]⟩
inductive aS(K:wb)(n:Str)(st:Stmt)(f:Addr):Prop
 | mk {od an:Option Addr} {sl:Array (Option Value)} {oc kV dc pm cd ct:Value} (a:wT K mainGlobals n=some (some (.ref f))) (l:K.lookup f=some ⟨oc,od,.func (Vi n n (mw st) (jX st) (aC st) .none kV dc pm an cd ct),sl⟩) (c:qC K cd n=true) (k:Vg K (.ref f)=true):aS K n st f
theorem aS.dn{K:wb}{h:Heap}{mg:Str->Option Value}{n:Str}{st:Stmt}{f:Addr}{ps:List Str}(A:aS K n st f)(X:K.In h)(G:h.Ns mainGlobals mg)
  (b:∀(kV doc pm:Value)(an:Option Addr)(cdv ct:Value)(us:List Value),us.length=ps.length->bindArgs (Vi n n (mw st) (jX st) (aC st) .none kV doc pm an cdv ct) ⟨us,[]⟩=pure (ps.zip us)):∃fd,Dn K mg n st ps f fd:=by
 obtain⟨a,l,c,k⟩:=A;have F:=O1 (st:=st) l c k;exact⟨_,F,vS X G a,F.binds b⟩
set_option hygiene false in
local macro_rules | `(tactic| walk_at "bd")=>`(tactic| (intro _ _ _ _ _ _ us hl; first | (obtain ⟨_,rfl⟩:=Km hl; rfl) | (obtain ⟨_,_,rfl⟩:=MT hl; rfl) | (obtain ⟨_,_,_,rfl⟩:=Iw hl; rfl) | (obtain ⟨_,_,_,_,rfl⟩:=zCO hl; rfl)))
set_option maxHeartbeats 8000000 in
theorem all_mk{l:Qx}{w:World}{K:wb}{h:Heap}{mg:Str->Option Value}{fa:Addr}(X:K.In h)(G:h.Ns mainGlobals mg)(hfa:mg "law"=some (.ref fa))
   {f0 f1 f2 f3 f4 f5 f6 f7 f8 f9 f10 f11 f12 f13 f14 f15 f16 f17 f18 f19 f20 f21 f22 f23 f24 f25 f26 f27 f28 f29 f30 f31 f32 f33 f34 f35 f36 f37 f38 f39 f40 f41 f42 f43 f44 f45 f46 f47 f48 f49 f50 f51 f52 f53 f54 f55 f56 f57 f58 f59 f60 f61 f62 f63 f64 f65 f66:Addr}
   {e0:Addr}
   {e1:Addr}
   {g0:Addr} {gn0:Nat} {gd0:Option Addr} {gs0:Array (Option Value)} {tk0_0 tk0_1:Tok}
   {g1:Addr} {gn1:Nat} {gd1:Option Addr} {gs1:Array (Option Value)} {tk1_0 tk1_1:Tok}
   {g2:Addr} {gn2:Nat} {gd2:Option Addr} {gs2:Array (Option Value)} {tk2_0 tk2_1:Tok}
   {tk3:Tok}
   {tk4:Tok}
   {tk5:Tok}
   {tk6:Tok}
   {tk7:Tok}
   (a0:aS K "is_whole" A6 f0)
   (a1:aS K "greatest_divisor" AL f1)
   (a2:aS K "is_number" CC f2)
   (a3:aS K "plus" DI f3)
   (a4:aS K "minus" A2 f4)
   (a5:aS K "times" Bn f5)
   (a6:aS K "over" CN f6)
   (a7:aS K "less" AE f7)
   (a8:aS K "is_factor" Cd f8)
   (a9:aS K "is_shift" Dx f9)
   (a10:aS K "make_rule" BO f10)
   (a11:aS K "is_rule" C0 f11)
   (a12:aS K "bend" CQ f12)
   (a13:aS K "pushes" C7 f13)
   (a14:aS K "pushed_by" Ct f14)
   (a15:aS K "is_phase" Cn f15)
   (a16:aS K "are_phases" sT f16)
   (a17:aS K "swarm_of" Al f17)
   (a18:aS K "greatest" C9 f18)
   (a19:aS K "worms_at" yM f19)
   (a20:aS K "flocks" zp f20)
   (a21:aS K "at_the_end" sX f21)
   (a22:aS K "glow" mY f22)
   (a23:aS K "history" BM f23)
   (a24:aS K "behind" Ci f24)
   (a25:aS K "is_laid" C_ f25)
   (a26:aS K "laid" oE f26)
   (a27:aS K "phases_behind" tO f27)
   (a28:aS K "stands" AX f28)
   (a29:aS K "round_behind" CY f29)
   (a30:aS K "round_time" AI f30)
   (a31:aS K "tops" yb f31)
   (a32:aS K "is_free" pA f32)
   (a33:aS K "round_map" sy f33)
   (a34:aS K "still" yV f34)
   (a35:aS K "weighed" yk f35)
   (a36:aS K "led_on" AO f36)
   (a37:aS K "rounds_behind" BC f37)
   (a38:aS K "sums_of_places" A_ f38)
   (a39:aS K "rounds_time" uG f39)
   (a40:aS K "draws_freely" sj f40)
   (a41:aS K "stays_free" rR f41)
   (a42:aS K "free_rounds" Bi f42)
   (a43:aS K "behind_rounds" rE f43)
   (a44:aS K "behind_row" CS f44)
   (a45:aS K "word_of" CV f45)
   (a46:aS K "glows_to_join" AK f46)
   (a47:aS K "next_row" BZ f47)
   (a48:aS K "paper_of" DL f48)
   (a49:aS K "_law_cell" Av f49)
   (a50:aS K "_law_pen" C1 f50)
   (a51:aS K "_law_draw" BK f51)
   (a52:aS K "_law_low" CG f52)
   (a53:aS K "_law_drawn_rule" AF f53)
   (a54:aS K "_law_drawn_phases" sQ f54)
   (a55:aS K "_law_paper" Dk f55)
   (a56:aS K "_law_ends" sU f56)
   (a57:aS K "_law_sum" DN f57)
   (a58:aS K "_law_rest" Bj f58)
   (a59:aS K "_law_product" BX f59)
   (a60:aS K "_law_part" Cf f60)
   (a61:aS K "_law_pushes" DH f61)
   (a62:aS K "_law_round" oF f62)
   (a63:aS K "_law_power" BY f63)
   (a64:aS K "_law_rests" tM f64)
   (a65:aS K "_law_start" Ei f65)
   (a66:aS K "law" tH f66)
   (n_NoStand:wT K mainGlobals "NoStand"=some (some (.ref e0)))
   (n_TooLong:wT K mainGlobals "TooLong"=some (some (.ref e1)))
   (z_abs:wT K mainGlobals "abs"=some none)
   (z_all:wT K mainGlobals "all"=some none)
   (z_any:wT K mainGlobals "any"=some none)
   (z_bool:wT K mainGlobals "bool"=some none)
   (z_dict:wT K mainGlobals "dict"=some none)
   (z_enumerate:wT K mainGlobals "enumerate"=some none)
   (z_int:wT K mainGlobals "int"=some none)
   (z_isinstance:wT K mainGlobals "isinstance"=some none)
   (z_len:wT K mainGlobals "len"=some none)
   (z_list:wT K mainGlobals "list"=some none)
   (z_min:wT K mainGlobals "min"=some none)
   (z_range:wT K mainGlobals "range"=some none)
   (z_set:wT K mainGlobals "set"=some none)
   (z_sum:wT K mainGlobals "sum"=some none)
   (z_tuple:wT K mainGlobals "tuple"=some none)
   (z_zip:wT K mainGlobals "zip"=some none)
   (h_x_NoStand:Vv K e0 oM "ValueError.__new__"=true)
   (h_m_NoStand_TooLong:VL K (.ref e0) (.ref e1)=some false)
   (h_x_TooLong:Vv K e1 oM "ValueError.__new__"=true)
   (h_m_TooLong_TooLong:VL K (.ref e1) (.ref e1)=some true)
   (q0:wT K mainGlobals "NOUGHT"=some (some (.ref g0)))
   (r0:K.lookup g0=some ⟨.type "tuple",gd0,.seq #[.int 0 tk0_0,.int 1 tk0_1] gn0,gs0⟩)
   (q1:wT K mainGlobals "ONE"=some (some (.ref g1)))
   (r1:K.lookup g1=some ⟨.type "tuple",gd1,.seq #[.int 1 tk1_0,.int 1 tk1_1] gn1,gs1⟩)
   (q2:wT K mainGlobals "GREATEST_FACTOR"=some (some (.ref g2)))
   (r2:K.lookup g2=some ⟨.type "tuple",gd2,.seq #[.int 4 tk2_0,.int 1 tk2_1] gn2,gs2⟩)
   (q3:wT K mainGlobals "FACTOR_BOTTOM"=some (some (.int 8 tk3)))
   (q4:wT K mainGlobals "SHIFT_BOTTOM"=some (some (.int 12 tk4)))
   (q5:wT K mainGlobals "MOST_WORMS"=some (some (.int 8 tk5)))
   (q6:wT K mainGlobals "PHASE_BOTTOM"=some (some (.int 60 tk6)))
   (q7:wT K mainGlobals "MOST_FREE"=some (some (.int 30 tk7)))
   : ∃fd:FuncData,(∀(s:Shared)(v:Value),BindsTo s fd ⟨[v],[]⟩ [("_law_script",v)]) /\ ∀base:Heap,K.In base->base.Ns mainGlobals mg->aJ l.prog w K mg base aT 15 fa fd ["_law_script"] (yX K):=by
 obtain⟨aL,lL,cL,kL⟩:=a66;cases hfa.symm.trans (vS X G aL);have FL:=O1 (st:=tH) lL cL kL;have D66:Dn K mg _ _ zB _ _:=⟨FL,vS X G aL,FL.binds (by walk_at "bd")⟩;have⟨_,D0⟩:=a0.dn (ps:=rH) X G (by walk_at "bd");have⟨_,D1⟩:=a1.dn (ps:=yU) X G (by walk_at "bd");have⟨_,D2⟩:=a2.dn (ps:=zl) X G (by walk_at "bd");have⟨_,D3⟩:=a3.dn (ps:=u5) X G (by walk_at "bd");have⟨_,D4⟩:=a4.dn (ps:=t9) X G (by walk_at "bd");have⟨_,D5⟩:=a5.dn (ps:=uS) X G (by walk_at "bd");have⟨_,D6⟩:=a6.dn (ps:=sh) X G (by walk_at "bd");have⟨_,D7⟩:=a7.dn (ps:=uQ) X G (by walk_at "bd");have⟨_,D8⟩:=a8.dn (ps:=uL) X G (by walk_at "bd");have⟨_,D9⟩:=a9.dn (ps:=sr) X G (by walk_at "bd");have⟨_,D10⟩:=a10.dn (ps:=yQ) X G (by walk_at "bd");have⟨_,D11⟩:=a11.dn (ps:=uK) X G (by walk_at "bd");have⟨_,D12⟩:=a12.dn (ps:=yY) X G (by walk_at "bd");have⟨_,D13⟩:=a13.dn (ps:=yN) X G (by walk_at "bd");have⟨_,D14⟩:=a14.dn (ps:=zx) X G (by walk_at "bd");have⟨_,D15⟩:=a15.dn (ps:=tR) X G (by walk_at "bd");have⟨_,D16⟩:=a16.dn (ps:=zm) X G (by walk_at "bd");have⟨_,D17⟩:=a17.dn (ps:=yS) X G (by walk_at "bd");have⟨_,D18⟩:=a18.dn (ps:=zE) X G (by walk_at "bd");have⟨_,D19⟩:=a19.dn (ps:=zC) X G (by walk_at "bd");have⟨_,D20⟩:=a20.dn (ps:=yc) X G (by walk_at "bd");have⟨_,D21⟩:=a21.dn (ps:=tQ) X G (by walk_at "bd");have⟨_,D22⟩:=a22.dn (ps:=u4) X G (by walk_at "bd");have⟨_,D23⟩:=a23.dn (ps:=ze) X G (by walk_at "bd");have⟨_,D24⟩:=a24.dn (ps:=uX) X G (by walk_at "bd");have⟨_,D25⟩:=a25.dn (ps:=rL) X G (by walk_at "bd")
 have⟨_,D26⟩:=a26.dn (ps:=sE) X G (by walk_at "bd");have⟨_,D27⟩:=a27.dn (ps:=zi) X G (by walk_at "bd");have⟨_,D28⟩:=a28.dn (ps:=sF) X G (by walk_at "bd");have⟨_,D29⟩:=a29.dn (ps:=yr) X G (by walk_at "bd");have⟨_,D30⟩:=a30.dn (ps:=tZ) X G (by walk_at "bd");have⟨_,D31⟩:=a31.dn (ps:=zh) X G (by walk_at "bd");have⟨_,D32⟩:=a32.dn (ps:=s_) X G (by walk_at "bd");have⟨_,D33⟩:=a33.dn (ps:=sI) X G (by walk_at "bd");have⟨_,D34⟩:=a34.dn (ps:=rz) X G (by walk_at "bd");have⟨_,D35⟩:=a35.dn (ps:=uJ) X G (by walk_at "bd");have⟨_,D36⟩:=a36.dn (ps:=tJ) X G (by walk_at "bd");have⟨_,D37⟩:=a37.dn (ps:=zu) X G (by walk_at "bd");have⟨_,D38⟩:=a38.dn (ps:=w_) X G (by walk_at "bd");have⟨_,D39⟩:=a39.dn (ps:=uI) X G (by walk_at "bd");have⟨_,D40⟩:=a40.dn (ps:=zw) X G (by walk_at "bd");have⟨_,D41⟩:=a41.dn (ps:=yu) X G (by walk_at "bd");have⟨_,D42⟩:=a42.dn (ps:=yx) X G (by walk_at "bd");have⟨_,D43⟩:=a43.dn (ps:=zj) X G (by walk_at "bd");have⟨_,D44⟩:=a44.dn (ps:=yi) X G (by walk_at "bd");have⟨_,D45⟩:=a45.dn (ps:=sZ) X G (by walk_at "bd");have⟨_,D46⟩:=a46.dn (ps:=yE) X G (by walk_at "bd");have⟨_,D47⟩:=a47.dn (ps:=tm) X G (by walk_at "bd");have⟨_,D48⟩:=a48.dn (ps:=zG) X G (by walk_at "bd");have⟨_,D49⟩:=a49.dn (ps:=yl) X G (by walk_at "bd");have⟨_,D50⟩:=a50.dn (ps:=sY) X G (by walk_at "bd");have⟨_,D51⟩:=a51.dn (ps:=yq) X G (by walk_at "bd");have⟨_,D52⟩:=a52.dn (ps:=ye) X G (by walk_at "bd");have⟨_,D53⟩:=a53.dn (ps:=zt) X G (by walk_at "bd");have⟨_,D54⟩:=a54.dn (ps:=rG) X G (by walk_at "bd")
 have⟨_,D55⟩:=a55.dn (ps:=yt) X G (by walk_at "bd");have⟨_,D56⟩:=a56.dn (ps:=yw) X G (by walk_at "bd");have⟨_,D57⟩:=a57.dn (ps:=rN) X G (by walk_at "bd");have⟨_,D58⟩:=a58.dn (ps:=y8) X G (by walk_at "bd");have⟨_,D59⟩:=a59.dn (ps:=tY) X G (by walk_at "bd");have⟨_,D60⟩:=a60.dn (ps:=x_) X G (by walk_at "bd");have⟨_,D61⟩:=a61.dn (ps:=yZ) X G (by walk_at "bd");have⟨_,D62⟩:=a62.dn (ps:=uW) X G (by walk_at "bd");have⟨_,D63⟩:=a63.dn (ps:=yL) X G (by walk_at "bd");have⟨_,D64⟩:=a64.dn (ps:=yp) X G (by walk_at "bd");have⟨_,D65⟩:=a65.dn (ps:=zo) X G (by walk_at "bd")
 have T:Txt K mg ⟨f0,_,f1,_,f2,_,f3,_,f4,_,f5,_,f6,_,f7,_,f8,_,f9,_,f10,_,f11,_,f12,_,f13,_,f14,_,f15,_,f16,_,f17,_,f18,_,f19,_,f20,_,f21,_,f22,_,f23,_,f24,_,f25,_,f26,_,f27,_,f28,_,f29,_,f30,_,f31,_,f32,_,f33,_,f34,_,f35,_,f36,_,f37,_,f38,_,f39,_,f40,_,f41,_,f42,_,f43,_,f44,_,f45,_,f46,_,f47,_,f48,_,f49,_,f50,_,f51,_,f52,_,f53,_,f54,_,f55,_,f56,_,f57,_,f58,_,f59,_,f60,_,f61,_,f62,_,f63,_,f64,_,f65,_,_,_,e0,e1,g0,g1,g2⟩:=⟨D0,
   D1,
   D2,
   D3,
   D4,
   D5,
   D6,
   D7,
   D8,
   D9,
   D10,
   D11,
   D12,
   D13,
   D14,
   D15,
   D16,
   D17,
   D18,
   D19,
   D20,
   D21,
   D22,
   D23,
   D24,
   D25,
   D26,
   D27,
   D28,
   D29,
   D30,
   D31,
   D32,
   D33,
   D34,
   D35,
   D36,
   D37,
   D38,
   D39,
   D40,
   D41,
   D42,
   D43,
   D44,
   D45,
   D46,
   D47,
   D48,
   D49,
   D50,
   D51,
   D52,
   D53,
   D54,
   D55,
   D56,
   D57,
   D58,
   D59,
   D60,
   D61,
   D62,
   D63,
   D64,
   D65,
   D66,
   w6 X G z_abs,
   w6 X G z_all,
   w6 X G z_any,
   w6 X G z_bool,
   w6 X G z_dict,
   w6 X G z_enumerate,
   w6 X G z_int,
   w6 X G z_isinstance,
   w6 X G z_len,
   w6 X G z_list,
   w6 X G z_min,
   w6 X G z_range,
   w6 X G z_set,
   w6 X G z_sum,
   w6 X G z_tuple,
   w6 X G z_zip,
   vS X G n_NoStand,
   vS X G n_TooLong,
   h_x_NoStand,
   h_m_NoStand_TooLong,
   h_x_TooLong,
   h_m_TooLong_TooLong,
   vS X G q0,
   λH=>.inr ⟨_,_,_,r0,rfl,rfl,by simp;decide,(.cons ⟨_,rfl⟩ (.cons ⟨_,rfl⟩ .nil))⟩,
   vS X G q1,
   λH=>.inr ⟨_,_,_,r1,rfl,rfl,by simp;decide,(.cons ⟨_,rfl⟩ (.cons ⟨_,rfl⟩ .nil))⟩,
   vS X G q2,
   λH=>.inr ⟨_,_,_,r2,rfl,rfl,by simp;decide,(.cons ⟨_,rfl⟩ (.cons ⟨_,rfl⟩ .nil))⟩,
   ⟨_,vS X G q3⟩,
   ⟨_,vS X G q4⟩,
   ⟨_,vS X G q5⟩,
   ⟨_,vS X G q6⟩,
   ⟨_,vS X G q7⟩⟩
 exact⟨_,λs v=>.of_eq rfl,λbase _ _=>zBL T⟩
theorem walk{l:Qx}{q:Program}{loose:List Str}{XP:(Str->Option Value)->Heap->Prop}{YP:World->Heap->Prop}{d:DefRec}{K:Params->wb}(hn:l.most=some 63)(hdf:d.params.defaults=[])
  (hY:∀(w:World)(h:Heap),YP w h->(K w.params).In h)
  (F:∀(w:World)(mg:Str->Option Value)(fa:Addr)(h:Heap),(K w.params).In h->h.Ns mainGlobals mg->mg d.name=some (.ref fa) ->
   ∃fd:FuncData,(∀(s:Shared)(u:Value),BindsTo s fd ⟨[u],[]⟩ [("_law_script",u)]) /\ ∀base:Heap,(K w.params).In base->base.Ns mainGlobals mg->aJ l.prog w (K w.params) mg base aT 15 fa fd ["_law_script"] (yX (K w.params))) :
  ub q loose XP YP l.row.toRowW d [] (λf vs=>XE f vs) :=
 L2.RN (n:=63) (k:=15) (x:="_law_script") (CX:=λ_=>aT) (sp:=λw=>yX (K w.params)) hn (by decide) hdf ⟨rfl,by decide,by decide,rfl⟩ hY F (λ_ H a ns hl hO hS=>⟨.ref a,rfl,a,ns,rfl,Yq hO hS,hl,λ_=>rfl⟩) λ_ _ _ _ _ z=>z
end G
local macro_rules | `(tactic| walk_at "fk")=>`(tactic| (refine' G.aS.mk ?a ?l ?c ?k; (case a=>k_is); (case l=>k_is); (case c=>k_is); (case k=>k_is)))
open PySem PySem.W PyProof.Rows
set_option maxRecDepth 100000 in
set_option maxHeartbeats 0 in
theorem PySem.Challenge.cw_glowflock_k35_whole_rows_are_stands_holds : PySem.Challenge.rw_glowflock_k35_whole_rows_are_stands.Holds := by
 w_on; refine GH.head ?_
 k_fill
 refine G.walk (l:=PySem.Challenge.rw_glowflock_k35_whole_rows_are_stands) rfl rfl (fun w h Y=>PySem.W.kIn_of Y) ?F
 case F =>
   intro w mg fa h KX GG hmg;refine' G.all_mk KX GG hmg ?a0 ?a1 ?a2 ?a3 ?a4 ?a5 ?a6 ?a7 ?a8 ?a9 ?a10 ?a11 ?a12 ?a13 ?a14 ?a15 ?a16 ?a17 ?a18 ?a19 ?a20 ?a21 ?a22 ?a23 ?a24 ?a25 ?a26 ?a27 ?a28 ?a29 ?a30 ?a31 ?a32 ?a33 ?a34 ?a35 ?a36 ?a37 ?a38 ?a39 ?a40 ?a41 ?a42 ?a43 ?a44 ?a45 ?a46 ?a47 ?a48 ?a49 ?a50 ?a51 ?a52 ?a53 ?a54 ?a55 ?a56 ?a57 ?a58 ?a59 ?a60 ?a61 ?a62 ?a63 ?a64 ?a65 ?a66 ?n_NoStand ?n_TooLong ?z_abs ?z_all ?z_any ?z_bool ?z_dict ?z_enumerate ?z_int ?z_isinstance ?z_len ?z_list ?z_min ?z_range ?z_set ?z_sum ?z_tuple ?z_zip ?h_x_NoStand ?h_m_NoStand_TooLong ?h_x_TooLong ?h_m_TooLong_TooLong ?q0 ?r0 ?q1 ?r1 ?q2 ?r2 ?q3 ?q4 ?q5 ?q6 ?q7
   (case a0=>walk_at "fk")
   (case a1=>walk_at "fk")
   (case a2=>walk_at "fk")
   (case a3=>walk_at "fk")
   (case a4=>walk_at "fk")
   (case a5=>walk_at "fk")
   (case a6=>walk_at "fk")
   (case a7=>walk_at "fk")
   (case a8=>walk_at "fk")
   (case a9=>walk_at "fk")
   (case a10=>walk_at "fk")
   (case a11=>walk_at "fk")
   (case a12=>walk_at "fk")
   (case a13=>walk_at "fk")
   (case a14=>walk_at "fk")
   (case a15=>walk_at "fk")
   (case a16=>walk_at "fk")
   (case a17=>walk_at "fk")
   (case a18=>walk_at "fk")
   (case a19=>walk_at "fk")
   (case a20=>walk_at "fk")
   (case a21=>walk_at "fk")
   (case a22=>walk_at "fk")
   (case a23=>walk_at "fk")
   (case a24=>walk_at "fk")
   (case a25=>walk_at "fk")
   (case a26=>walk_at "fk")
   (case a27=>walk_at "fk")
   (case a28=>walk_at "fk")
   (case a29=>walk_at "fk")
   (case a30=>walk_at "fk")
   (case a31=>walk_at "fk")
   (case a32=>walk_at "fk")
   (case a33=>walk_at "fk")
   (case a34=>walk_at "fk")
   (case a35=>walk_at "fk")
   (case a36=>walk_at "fk")
   (case a37=>walk_at "fk")
   (case a38=>walk_at "fk")
   (case a39=>walk_at "fk")
   (case a40=>walk_at "fk")
   (case a41=>walk_at "fk")
   (case a42=>walk_at "fk")
   (case a43=>walk_at "fk")
   (case a44=>walk_at "fk")
   (case a45=>walk_at "fk")
   (case a46=>walk_at "fk")
   (case a47=>walk_at "fk")
   (case a48=>walk_at "fk")
   (case a49=>walk_at "fk")
   (case a50=>walk_at "fk")
   (case a51=>walk_at "fk")
   (case a52=>walk_at "fk")
   (case a53=>walk_at "fk")
   (case a54=>walk_at "fk")
   (case a55=>walk_at "fk")
   (case a56=>walk_at "fk")
   (case a57=>walk_at "fk")
   (case a58=>walk_at "fk")
   (case a59=>walk_at "fk")
   (case a60=>walk_at "fk")
   (case a61=>walk_at "fk")
   (case a62=>walk_at "fk")
   (case a63=>walk_at "fk")
   (case a64=>walk_at "fk")
   (case a65=>walk_at "fk")
   (case a66=>walk_at "fk")
   (case n_NoStand=>k_is)
   (case n_TooLong=>k_is)
   (case z_abs=>k_is)
   (case z_all=>k_is)
   (case z_any=>k_is)
   (case z_bool=>k_is)
   (case z_dict=>k_is)
   (case z_enumerate=>k_is)
   (case z_int=>k_is)
   (case z_isinstance=>k_is)
   (case z_len=>k_is)
   (case z_list=>k_is)
   (case z_min=>k_is)
   (case z_range=>k_is)
   (case z_set=>k_is)
   (case z_sum=>k_is)
   (case z_tuple=>k_is)
   (case z_zip=>k_is)
   (case h_x_NoStand=>k_exc)
   (case h_m_NoStand_TooLong=>kts_exm)
   (case h_x_TooLong=>k_exc)
   (case h_m_TooLong_TooLong=>kts_exm)
   (case q0=>k_is)
   (case r0=>k_is)
   (case q1=>k_is)
   (case r1=>k_is)
   (case q2=>k_is)
   (case r2=>k_is)
   (case q3=>k_is)
   (case q4=>k_is)
   (case q5=>k_is)
   (case q6=>k_is)
   (case q7=>k_is)
#print axioms PySem.Challenge.cw_glowflock_k35_whole_rows_are_stands_holds
