import PyProof.Rows.All
import KE.KDictOf
import KE.KFromBytes
import KE.KItemsList
import KE.KSortTup
import KE.KTupSum
import KE.RegKIsAll
import KE.RegKTryMore
import Lean
import PySem.Challenge.RW_glowflock_k30_papers_told
set_option compiler.extract_closed false
set_option Elab.async false
set_option linter.all false
set_option maxRecDepth 100000
open Array renaming append_assoc->xU,forIn_toList->qB,getElem?_eq_none->xo,getElem?_eq_some_iff->WT,length_toList->W7,toList->uA
open Bool renaming and_eq_true->wV,and_eq_true_iff->xw,and_false->ul,and_true->uw,beq_eq_decide_eq->qY,eq_false_iff->Xu,eq_iff_iff->vi,false_and->WW,false_eq_true->Wu,false_ne_true->vC,not_eq_true->XT,not_eq_true'->WO,not_false->xr,not_true->qj,true_and->qk
open Classical renaming not_not->We
open False renaming elim->WS
open Int renaming add_mul->XE,dvd_mul_left->XM,dvd_mul_right->Vw,dvd_trans->qh,ediv_eq_of_eq_mul_right->Qv,ediv_le_self->XN,ediv_mul_le->ud,emod_lt_of_pos->qC,emod_nonneg->Qc,fdiv_eq_ediv_of_nonneg->Wr,gcd->vA,gcd_comm->xX,gcd_dvd_left->qc,gcd_dvd_right->qL,gcd_pos_of_ne_zero_right->V4,gcd_zero_right->Xc,mul_assoc->VQ,mul_ediv_cancel_left->VG,mul_le_mul->um,mul_le_mul_of_nonneg_right->WI,mul_ne_zero->qZ,mul_neg->Xx,mul_nonneg->xv,mul_one->qR,mul_pos->vT,natAbs_ediv_le_natAbs->QK,natAbs_mul->xp,natCast_ediv->VH,natCast_mul->Vn,neg_dvd->Xw,neg_one_mul->X1,one_mul->Qq,pow_add->XD,pow_ne_zero->VU,pow_pos->Xy,pow_succ->VI,pow_zero->Qd,sign_eq_neg_one_of_neg->QD,sign_eq_one_of_pos->xb,toNat->Q4,toNat_natCast->wx,zero_sub->Xd
open List renaming Pairwise->xH,all_cons->xG,all_eq_true->Wc,all_map->x5,any_cons->QC,any_eq_true->qW,append_assoc->W2,append_nil->vK,cons_append->XJ,countP_eq_length_filter->Qm,countP_map->X6,dropLast_concat->xF,dropLast_concat_getLast->Ql,dropLast_eq_take->xt,dropLast_subset->xD,drop_eq_getElem_cons->VC,drop_eq_nil_of_le->xg,drop_succ_cons->Qh,drop_zero->uj,eq_nil_of_length_eq_zero->W5,eq_of_mem_replicate->QV,ext_getElem->Vb,filterMap_cons->Qg,filter_append->Wl,filter_congr->vk,filter_cons->Wp,filter_eq_nil_iff->xh,filter_eq_self->xJ,filter_filter->Vk,find?_cons->ub,find?_some->uc,flatten_cons->Vv,foldl->XY,foldl_append->Xi,forIn_cons->qp,forIn_nil->Qo,getD_eq_getElem?_getD->wb,getElem?_append_left->Wk,getElem?_append_right->vQ,getElem?_cons_succ->QZ,getElem?_cons_zero->QY,getElem?_drop->xY,getElem?_eq_getElem->wc,getElem?_eq_none->wI,getElem?_eq_some_iff->W1,getElem?_map->wq,getElem?_range->vE,getElem?_replicate->qH,getElem?_set->WN,getElem?_set_ne->xx,getElem?_set_self->Q9,getElem?_toArray->xu,getElem_drop->Xk,getElem_map->Vc,getElem_mem->Wi,getElem_of_mem->ve,getElem_take->Xj,length_append->wN,length_cons->Wa,length_drop->Wh,length_dropLast->xC,length_eq_zero_iff->qJ,length_filter_le->vS,length_map->wl,length_nil->Q6,length_pos_iff->Wx,length_pos_of_mem->xi,length_range->vc,length_replicate->Wq,length_set->Wt,length_singleton->vV,length_tail->XO,length_take->Wo,length_zipWith->xK,lookup_cons->qf,map_append->wX,map_congr_left->W9,map_cons->vd,map_drop->uu,map_dropLast->qQ,map_map->V7,map_nil->QP,map_replicate->Xe,mem_append->vY,mem_append_left->VA,mem_append_right->Wg,mem_cons->wL,mem_cons_of_mem->wA,mem_cons_self->wE,mem_filter->wU,mem_filterMap->Qt,mem_iff_getElem->xA,mem_map->wR,mem_of_find?_eq_some->QM,mem_or_eq_of_mem_set->QL,mem_range->wF,mem_singleton->w6,nil_append->qo,nodup_cons->VS,nodup_range->WK,not_mem_nil->VJ,of_mem_zip->Q1,pairwise_append->qd,pairwise_cons->WZ,pairwise_iff_getElem->Ww,pairwise_map->QG,pairwise_singleton->QW,range->wo,range_succ->Qb,replicate->vf,replicate_succ->VO,set_cons_succ->Xa,set_cons_zero->Xb,size_toArray->wK,sum_cons->W4,tail_cons->ug,take_add_one->qM,take_length->Wb,take_of_length_le->WQ,take_sublist->Xf,take_subset->XQ,take_succ_cons->xN,take_zero->Qp,zipIdx_cons->XV,zipIdx_nil->X9
open List.Pairwise renaming drop->uH
open List.cons renaming injEq->X8
open Nat renaming add_assoc->Vr,add_le_add_left->xP,add_mul->XA,add_sub_cancel->qy,add_zero->Qa,div_div_eq_div_mul->xm,eq_zero_or_pos->qD,gcd_dvd_right->Xh,le_add_right->Ve,le_max_left->X2,le_max_right->XI,le_of_dvd->uv,le_of_lt->WA,le_refl->wp,le_trans->Wf,lt_irrefl->W3,lt_of_le_of_lt->WX,lt_of_lt_of_le->wT,lt_or_ge->wG,lt_succ_of_lt->qN,lt_trichotomy->Vx,lt_two_pow_self->xQ,min_le_right->QN,mod_eq_of_lt->QT,mod_lt->X5,mod_mul->xl,mul_add->Qs,mul_assoc->Vt,mul_comm->xW,mul_le_mul->WM,mul_le_mul_left->Qi,mul_le_mul_right->vU,mul_left_comm->Xq,mul_mod->XC,mul_succ->qx,ne_of_gt->vg,ne_of_lt->wQ,one_mul->XB,pow_add->xc,pow_succ->Vj,sub_self->V6,succ_mul->qw,succ_ne_self->XU,two_pow_pos->Wm,zero_add->Vl,zero_le->VZ,zero_mul->VN
open Nat.succ renaming inj->Qf
open Ne renaming symm->WB
open Option renaming getD_none->XH,getD_some->QU,map_eq_some_iff->Vg,map_some->X7
open Option.some renaming inj->wZ,injEq->qO
open Prod renaming ext->VX,fst->XF,snd->XG
open PyProof.Rows renaming callWith_type1->vn,slot_tuple_getitem->VP
open PyProof.Rows.IsTup renaming new->qX
open PySem renaming Addr->we,Around->w9,FuncData->wz,Heap->wJ,IsPair->WD,NameKind->WV,Program->wH,PyData->wD,Shared->wm,Stmt->wW,Value->wf,World->wM,backTo->Vz,binaryOp->WF,bootBuiltins->vI,cLine->WG,call->X0,compareOp->vP,letOwnedTupleGo->qr,mainGlobals->wP,mem_of_lookup->W8,rawInt->Va,sizeLine->wY,sliceBounds->ql,starEach->wS,wpAny->wt,wpAny_Call_Name_kw->qE,wpAny_attempt->Vu,wpAny_bind->wg,wpAny_call_entry->Wj,wpAny_execs_nil->qq,wpAny_field->vv,wpAny_holding->WU,wpAny_isInstance->Vf,wpAny_mono->WE,wpAny_newObj_type->WH,wpAny_passesOwn->Vq,wpAny_pure->wy,wpAny_pyIter_list->V2,wpAny_pyIter_tuple->Vm,wpAny_seqItems->WC,wpAny_setField_rec->W0,wpAny_truthy_bool->Wy
open PySem.Around renaming under->uB,under_plainId->qg
open PySem.Builtin.Dict renaming pairItems->xn,updateFrom->Q0
open PySem.Builtin.Int renaming intBits->xL
open PySem.Builtin.List renaming listTooLong->qu
open PySem.Builtin.Range renaming rangeSize->uE
open PySem.Builtin.Slice renaming sliceAdjust->qm,sliceApplied->Qy,sliceFields->uz,slicePartIndex->ue,slicePlaces->VB
open PySem.Builtin.SmallTypes renaming nextOf->vJ,ownedTupleHandOut->qA,ownedTupleIsFree->vF
open PySem.Builtin.Tuple renaming tupleExact->VF,tupleHashOf->vZ,tupleItemsOf->Qz
open PySem.Calls renaming Name_function_global->Qx,evalArgs_plain->xy,spliced_cons->Qu,spliced_nil->QF
open PySem.Challenge renaming pw_glowflock_k30_papers_told->VY,rw_glowflock_k30_papers_told->wB
open PySem.Code renaming isGuard->uC
open PySem.EntryCells renaming newEntry->xM
open PySem.F renaming args_enumerate_next_1->QX,args_tuple_add_2->qt,args_tuple_iterator_next_1->Qn,args_zip_next_1->Vy,entry_enumerate_next->xk,entry_tuple_add->qI,entry_tuple_iterator_next->Qw,entry_zip_next->VL,excBase_ValueError->xB,plainAttrs_list->vH,slot_enumerate_next->qa,slot_int_rmul->XZ,slot_list_append->vN,slot_list_count->qK,slot_tuple_add->qS,slot_tuple_eq->Q5,slot_tuple_hash->qP,slot_tuple_iterator_next->Vs,slot_zip_getattribute->V1,slot_zip_next->Wv,type_list_append->vO
open PySem.Heap renaming IsTuple->x6,MadeExcOf->uh,SameBut->vG,get?_push_ne->QI,get?_push_of_some->wn,get?_push_size->wO,get?_update_other->qT,get?_update_self->V3,lt_size->wC,size_push->V8,update->xj
open PySem.Heap.IsSliceOf renaming new->uG
open PySem.Heap.SameBut renaming update->xO
open PySem.IntMulOk renaming of_left->XW,of_right->Xr
open PySem.IsRange renaming new->uF
open PySem.Obj renaming cls_mapFields->Xp,data_mapFields->VW,isFreed_of_fields->V9,mapFields->qV,mapSeq->QJ
open PySem.Paired renaming length->uo
open PySem.PassesOwn renaming leaving->Xs,never->w5
open PySem.PyData renaming canLay0->vB,canLayAll0->Wd,depth->WL,depthAll->Wn,eqv->w8,eqvAll->Ws,strOk->uD
open PySem.SeqAt renaming canLay_of_shaped->Vd,shaped->vL
open PySem.SeqAt.EqAt renaming int_str->xR,str_int->xS
open PySem.Shared renaming heap->Xz
open PySem.Str renaming ofString->vM,ofString->vW
open PySem.Value renaming isInt->Xv
open PySem.W renaming Frag->wa,OpenLaw->Q2,WalkO->ur,callWith_K->xV,cellsFrom_some->xa,codeIn->Qj,excIn->VR,exmOne->qb,fnOf->VE,hideAll->XX,hideAll_get->xI,keepIn->qF,kia_one->Vo,kia_tup->Vp,kitAny->uk,kitOne->VD,kitx_bool->Xm,kitx_dict->Xo,kitx_int->XR,kitx_list->Xn,kitx_none->Xl,kitx_str->XS,kitx_tuple->xZ,methodObj->QE,mg_none_of->vD,mg_of->Wz,nsIn->vj,of_hideAll->xT
open PySem.W.Looks renaming ld->uI
open PySem.Walks renaming list->ua
open Rat renaming den_divInt->uf,den_intCast->Q8,divInt->wu,divInt_mul_divInt->xq,divInt_nonneg->Xg,divInt_ofNat->QQ,div_def->qU,div_mul_cancel->WJ,ext->ui,intCast_add->VT,intCast_eq_zero_iff->W6,intCast_le_intCast->Vh,intCast_lt_intCast->xf,intCast_mul->vR,intCast_pos->X4,le_iff->xz,le_of_lt->vX,le_refl->WR,le_trans->QR,lt_iff->X3,lt_of_le_of_ne->qz,mul_assoc->ut,mul_comm->VM,mul_eq_zero->Q3,mul_le_mul_of_nonneg_right->Qe,mul_nonneg->Qk,mul_pos->V0,not_le->xE,not_lt->Vi,num_divInt_den->WY,num_intCast->Q7,num_nonneg->qG,one_mul->Qr,pow_succ->WP,pow_zero->V5
namespace GH
open PySem PySem.W PyProof.Rows
noncomputable def tN (p:wH) (w:wM) (m:Nat) (an:Option wf) (N:Nat) (s0:wm):Option wm :=
 Option.bind (Fast.tw14082659384304107361 Fast.tw14364793385576792824 p w m an N s0 (topStub p)) λs1=>match staticsOk (Fast.tw5923862056798008813 p.main.body) s0.heap s1.heap&&namesBound p s1.heap&&gensDone s1&&laidKept s0.heap s1.heap with | true=>some s1 | false=>none
noncomputable def gD (w:wM) (os:OsState):wm:=⟨boot_heap w.params,#[],boot_drawn,boot_toks,os⟩
theorem zw8{p q:wH}{loose:List Str}{Xt:wm->Bool}{A:Type}{Yf:wm->A}{Ya:wM->A}{N:Nat}(e:opening p=plainProg p.main.scope.names)(hN:Nat.ble 600 N=true)(f:∀s,fenceModules? p s=some s){m:Nat}{an:Option wf}
  (size:∀w:wM,((boot_heap w.params).isNs wP,(boot_heap w.params).objs.size,(boot_heap w.params).nsMap wP "__annotations__")=(true,m,an))
  (h:∀w:wM,(λos=>(tN p w m an N (gD w os)).map (λs=>(Fast.tw4187177175401517315 q loose (Fast.tw5923862056798008813 p.main.body) Xt true s,Yf s)))=λ_=>some (openGood q loose,Ya w)):LeftO p q loose Xt Yf Ya N:=λw=>by
 obtain⟨⟨h',gs,d,k,os⟩,e',e2⟩:=Vg.mp (boot_open e hN f (w:=w));obtain⟨rfl,rfl,rfl,rfl⟩:h'=boot_heap w.params/\gs = #[]/\d=boot_drawn/\k=boot_toks:=by simpa using e2
 obtain⟨z1,z2,z3⟩:_/\_/\_:=by simpa only[Prod.mk.injEq] using size w
 have r:=congrFun (h w) os;unfold openEnds;rw[e']
 show Option.map _ (topFrom treeTable p w N _)=_
 rw[<- r];unfold topFrom tN gD;rw[<- Fast.te14082659384304107361,<- Fast.te14364793385576792824,<- Fast.te5923862056798008813,<- Fast.te4187177175401517315];dsimp only;rw[z1,z2,z3]
 rfl
noncomputable def jC (p:wH) (w:wM) (m:Nat) (an:Option wf) (N:Nat) (s0:wm):Option wm:=Fast.tw14082659384304107361 Fast.tw14364793385576792824 p w m an N s0 (topStub p)
noncomputable def zi (p:wH) (w:wM) (os:OsState) (s1:wm):Bool:=staticsOk (Fast.tw5923862056798008813 p.main.body) (gD w os).heap s1.heap&&namesBound p s1.heap&&gensDone s1&&laidKept (gD w os).heap s1.heap
theorem YE{p q:wH}{loose:List Str}{Xt:wm->Bool}{A:Type}{Yf:wm->A}{Ya:wM->A}{N:Nat}(e:opening p=plainProg p.main.scope.names)(hN:Nat.ble 600 N=true)(f:∀s,fenceModules? p s=some s){m:Nat}{an:Option wf}
  (size:∀w:wM,((boot_heap w.params).isNs wP,(boot_heap w.params).objs.size,(boot_heap w.params).nsMap wP "__annotations__")=(true,m,an)) (hp:drecsOf q=[]) (he:plainsOf q (looseW q loose)=[]) (hd:dclssOf q loose=[])
  (hB0:∀w:wM,(λos=>(jC p w m an N (gD w os)).map (λs=>(zi p w os s,(Fast.tw4187177175401517315 q loose (Fast.tw5923862056798008813 p.main.body) Xt true s).2.2.2.1)))=λ_=>some (true,true))
  (hB1:∀w:wM,(λos=>(jC p w m an N (gD w os)).map (λs=>((Fast.tw4187177175401517315 q loose (Fast.tw5923862056798008813 p.main.body) Xt true s).1,(Fast.tw4187177175401517315 q loose (Fast.tw5923862056798008813 p.main.body) Xt true s).2.1)))=λ_=>some (expectedOf q,bltViewBooted))
  (hB2:∀w:wM,(λos=>(jC p w m an N (gD w os)).map (λs=>(Fast.tw4187177175401517315 q loose (Fast.tw5923862056798008813 p.main.body) Xt true s).2.2.1))=λ_=>some true)
  (hB3:∀w:wM,(λos=>(jC p w m an N (gD w os)).map (λs=>(Fast.tw4187177175401517315 q loose (Fast.tw5923862056798008813 p.main.body) Xt true s).2.2.2.2.2.2.2))=λ_=>some (wideGood q,clsGoodW q loose))
  (hC:∀w:wM,(λos=>(jC p w m an N (gD w os)).map (λs=>Yf s))=λ_=>some (Ya w)):LeftO p q loose Xt Yf Ya N:=by
 refine zw8 e hN f size λw=>?_
 funext os
 have h1:=congrFun (hB0 w) os;obtain⟨s1,e1,e2⟩:=Vg.mp h1;have g1:=congrFun (hB1 w) os;have g2:=congrFun (hB2 w) os;have g3:=congrFun (hB3 w) os;have k:=congrFun (hC w) os;rw[e1]at g1 g2 g3 k;have g1:=wZ g1;have g2:=wZ g2;have g3:=wZ g3;have a0:=congrArg XF e2;have b0:=congrArg XG e2;have a1:=congrArg XF g1;have b1:=congrArg XG g1
 have gp:(Fast.tw4187177175401517315 q loose (Fast.tw5923862056798008813 p.main.body) Xt true s1).2.2.2.2.1=pinGoodD (drecsOf q):=by
  rw[<- Fast.te4187177175401517315]
  show pinSeenD q (drecsOf q) s1=_
  rw[hp]
  rfl
 have ge:(Fast.tw4187177175401517315 q loose (Fast.tw5923862056798008813 p.main.body) Xt true s1).2.2.2.2.2.1=plainGoodE q (looseW q loose):=by
  rw[<- Fast.te4187177175401517315]
  show plainSeenE q (looseW q loose) s1=_
  unfold plainSeenE plainGoodE;rw[he]
  rfl
 have gd:(Fast.tw4187177175401517315 q loose (Fast.tw5923862056798008813 p.main.body) Xt true s1).2.2.2.2.2.2.1=plainGoodD q loose:=by
  rw[<- Fast.te4187177175401517315]
  show plainSeenD q loose s1=_
  unfold plainSeenD plainGoodD;rw[hd]
  rfl
 have g:Fast.tw4187177175401517315 q loose (Fast.tw5923862056798008813 p.main.body) Xt true s1=openGood q loose:=VX a1 (VX b1 (VX g2 (VX b0 (VX gp (VX ge (VX gd g3))))));have k:=wZ k
 have ez:tN p w m an N (gD w os)=some s1:=by
  unfold tN;unfold jC at e1;rw[e1]
  show(match zi p w os s1 with | true=>some s1 | false=>none)=some s1
  rw[show zi p w os s1=true from a0]
 rw[ez];exact congrArg some (VX g k)
def qv:wH:=view VY [1,2,3,4,5,6,8,9,10,11,12,13,14,15,16,17,19,20,21,22,23,24,25,26,27,28,30,31,32,33,34,35,36,37,38,39,41,42,44,45,46,47,48,49,50,51,52,54,55,56,57,58,59,60,61,62,63,65,66,67,68,69,70,71,73,74,75,76,77,78,79,80,81,82,83,84,85,86,87,88,89,90,91,92,93,94,95,96,97,98,99,100,101,102,103,104,105,106]
theorem Uw{a b:Bool}(h:a=true)(k:b=true):(a&&b)=true:=by rw[h,k];rfl
set_option maxHeartbeats 0 in
theorem KD:wB.wellSaid=true:=by
 unfold OpenLaw.wellSaid OpenRow.wellSaid OpenRow.partSaid looksOpen
 repeat' with_reducible refine Uw ?_ ?_
 all_goals decide +kernel
theorem size(w:wM):((boot_heap w.params).isNs wP,(boot_heap w.params).objs.size,(boot_heap w.params).nsMap wP "__annotations__")=(true,11,some (.ref 6)):=by kernel_rfl
theorem no1:drecsOf qv=[]:=by kernel_rfl
theorem no2:plainsOf qv (looseW qv [])=[]:=by kernel_rfl
theorem no3:dclssOf qv []=[]:=by kernel_rfl
theorem YY(w:wM):(λos=>(jC wB.row.prog w 11 (some (.ref 6)) 7958 (gD w os)).map (λs=>(zi wB.row.prog w os s,(Fast.tw4187177175401517315 qv [] (Fast.tw5923862056798008813 wB.row.prog.main.body) (λs=>xlAt GH.qv [] s&&recOk (RowW.records (OpenRow.toRowW (OpenLaw.row wB))) s) true s).2.2.2.1)))=λ_=>some (true,true):=by kernel_rfl
theorem YT(w:wM):(λos=>(jC wB.row.prog w 11 (some (.ref 6)) 7958 (gD w os)).map (λs=>((Fast.tw4187177175401517315 qv [] (Fast.tw5923862056798008813 wB.row.prog.main.body) (λs=>xlAt GH.qv [] s&&recOk (RowW.records (OpenRow.toRowW (OpenLaw.row wB))) s) true s).1,(Fast.tw4187177175401517315 qv [] (Fast.tw5923862056798008813 wB.row.prog.main.body) (λs=>xlAt GH.qv [] s&&recOk (RowW.records (OpenRow.toRowW (OpenLaw.row wB))) s) true s).2.1)))=λ_=>some (expectedOf qv,bltViewBooted):=by kernel_rfl
theorem YW(w:wM):(λos=>(jC wB.row.prog w 11 (some (.ref 6)) 7958 (gD w os)).map (λs=>(Fast.tw4187177175401517315 qv [] (Fast.tw5923862056798008813 wB.row.prog.main.body) (λs=>xlAt GH.qv [] s&&recOk (RowW.records (OpenRow.toRowW (OpenLaw.row wB))) s) true s).2.2.1))=λ_=>some true:=by kernel_rfl
theorem YX(w:wM):(λos=>(jC wB.row.prog w 11 (some (.ref 6)) 7958 (gD w os)).map (λs=>(Fast.tw4187177175401517315 qv [] (Fast.tw5923862056798008813 wB.row.prog.main.body) (λs=>xlAt GH.qv [] s&&recOk (RowW.records (OpenRow.toRowW (OpenLaw.row wB))) s) true s).2.2.2.2.2.2.2))=λ_=>some (wideGood qv,clsGoodW qv []):=by kernel_rfl
local macro_rules | `(tactic| o_head $H)=>`(tactic| (refine holds_open (q:=GH.qv) (loose:=[]) (Xt:=λ s=>xlAt GH.qv [] s && recOk (RowW.records (OpenRow.toRowW (OpenLaw.row wB))) s) (XP:=XL GH.qv []) (Yf:=Hook.obs $H) (Ya:=Hook.val $H) (YP:=Hook.says $H) (N:=7958) ?hl (Hook.of $H) (Hook.keeps $H) (λ s e=>xl_of s (xw.mp e).1) XL.keeps (by rfl) (by rfl) (by rfl) (λ s e=>recFacts_of (xw.mp e).2) (by rfl) (by first | assumption | decide +kernel) (by decide +kernel) ⟨rfl,rfl,rfl,rfl,rfl,by decide +kernel⟩ ?hw ?hc; (case hl=>refine GH.YE (by kernel_rfl) rfl (λ s=>by kernel_rfl) GH.size GH.no1 GH.no2 GH.no3 GH.YY GH.YT GH.YW GH.YX ?_; intro w; kernel_rfl)))
local macro_rules | `(tactic| o_law)=>`(tactic| refine holds_law GH.KD λ KD=>?_)
set_option maxHeartbeats 0
open_top head for wB
end GH
set_option maxHeartbeats 4000000
namespace L2
open PySem PySem.Spec PyProof.Rows
variable{H:Hp}{a b:we}{o:HO}
abbrev Key:=Sum Int Str
def Pq:Key->wf->Bool
 | .inl k,v=>Xv k v
 | .inr x,v=>Value.isStrOf x v
def Zf(w:wM):Key->Int
 | .inl k=>hashInt k
 | .inr x=>hashStr w x
theorem kf :∀{k:Key}{v:wf},Pq k v=true->(∃i t,k=Sum.inl i/\v=Value.int i t)\/(∃x t,k=Sum.inr x/\v=Value.str x t)
 | .inl i,v,h=>by
  obtain⟨t,e⟩:=Value.isInt_shape (k:=i) (v:=v) h;exact .inl ⟨i,t,rfl,e⟩
 | .inr x,v,h=>by
  obtain⟨t,e⟩:=Value.isStrOf_shape (x:=x) (v:=v) h;exact .inr ⟨x,t,rfl,e⟩
theorem zDB(a b:Int):decide ((Sum.inl a:Key)=Sum.inl b)=(a == b):=by
 by_cases e:a=b
 ·subst e;simp
 ·have h:¬ (Sum.inl a:Key)=Sum.inl b:=λq=>e (Sum.inl.inj q)
  rw[decide_eq_false h];exact(beq_eq_false_iff_ne.mpr e).symm
theorem zDA(a b:Str):decide ((Sum.inr a:Key)=Sum.inr b)=decide (a=b):=by
 by_cases e:a=b
 ·subst e;simp
 ·have h:¬ (Sum.inr a:Key)=Sum.inr b:=λq=>e (Sum.inr.inj q)
  rw[decide_eq_false h,decide_eq_false e]
theorem zDp(a:Int)(b:Str):decide ((Sum.inl a:Key)=Sum.inr b)=false:=decide_eq_false (λq=>nomatch q)
theorem zDl(a:Str)(b:Int):decide ((Sum.inr a:Key)=Sum.inl b)=false:=decide_eq_false (λq=>nomatch q)
def BS(prog:wH)(w:wM):PySem.KeyKind prog w Key where
 is:=Pq
 hash:=Zf w
 inj:=λv a b ha hb=>by
  rcases kf ha with⟨i,t,rfl,rfl⟩ | ⟨x,t,rfl,rfl⟩
  ·rcases kf hb with⟨j,u,rfl,e⟩ | ⟨y,u,rfl,e⟩
   ·injection e with e1 _;rw[e1]
   ·exact nomatch e
  ·rcases kf hb with⟨j,u,rfl,e⟩ | ⟨y,u,rfl,e⟩
   ·exact nomatch e
   ·injection e with e1 _;rw[e1]
 byValue:=λk v h=>by
  rcases kf h with⟨i,t,rfl,rfl⟩ | ⟨x,t,rfl,rfl⟩<;>rfl
 pyHash:=λhv h=>by
  rcases kf hv with⟨i,t,rfl,rfl⟩ | ⟨x,t,rfl,rfl⟩
  ·exact wpAny_pyHash_int h
  ·exact wpAny_pyHash_str h
 eqBool:=λhu hv h=>by
  rcases kf hu with⟨i,t,rfl,rfl⟩ | ⟨x,t,rfl,rfl⟩
  ·rcases kf hv with⟨j,u,rfl,rfl⟩ | ⟨y,u,rfl,rfl⟩
   ·rw[zDB]at h;exact wpAny_eqBool_int h
   ·rw[zDp]at h;exact xR i t y u _ _ _ _ h
  ·rcases kf hv with⟨j,u,rfl,rfl⟩ | ⟨y,u,rfl,rfl⟩
   ·rw[zDl]at h;exact xS x t j u _ _ _ _ h
   ·rw[zDA]at h;exact wpAny_eqBool_str h
 «strs»:=λk x t v h=>by
  rcases kf h with⟨i,u,rfl,e⟩ | ⟨y,u,rfl,e⟩
  ·exact nomatch e
  ·injection e with e1 _
   subst e1;cases v<;>rfl
inductive V where
 | bM | bl (b:Bool) | int (i:Int) | str (x:Str) | byt (b:Array UInt8) | flt (b:UInt64) | ref (a:we) | ty (n:String)
 deriving DecidableEq
def aZ:V->wf->Prop
 | .bM,u=>u=Value.none
 | .bl b,u=>u=Value.bool b
 | .int i,u=>∃t,u=Value.int i t
 | .str x,u=>∃t,u=Value.str x t
 | .byt b,u=>∃t,u=Value.bytes b t
 | .flt b,u=>∃t,u=Value.float b t
 | .ref a,u=>u=Value.ref a
 | .ty n,u=>u=Value.type n
abbrev aS:List V->List wf->Prop:=Paired aZ
theorem aS.length{xs:List V}{us:List wf}(r:aS xs us):xs.length=us.length:=uo r
theorem aS.get:∀{xs:List V}{us:List wf}{i:Nat}{x:V},aS xs us->xs[i]? = some x->∃u,us[i]? = some u/\aZ x u
 | _,_,_,_,.nil,e=>by simp at e
 | _,_,0,_,.cons r _,e=>by simp at e;subst e;exact⟨_,rfl,r⟩
 | _,_,i+1,x,.cons _ t,e=>by
  obtain⟨u,h1,h2⟩:=aS.get (i:=i) (x:=x) t (by simpa using e);exact⟨u,by simpa using h1,h2⟩
theorem aS.set{x:V}{u:wf}(r:aZ x u):∀{xs:List V}{us:List wf}(i:Nat),aS xs us->aS (xs.set i x) (us.set i u)
 | _,_,_,.nil=>.nil
 | _,_,0,.cons _ t=>.cons r t
 | _,_,i+1,.cons q t=>.cons q (aS.set r i t)
theorem aS.append:∀{xs ys:List V}{us ws:List wf},aS xs us->aS ys ws->aS (xs++ys) (us++ws)
 | _,_,_,_,.nil,s=>s
 | _,_,_,_,.cons r t,s=>.cons r (aS.append t s)
theorem aS.take:∀{xs:List V}{us:List wf}(n:Nat),aS xs us->aS (xs.take n) (us.take n)
 | _,_,0,_=>.nil
 | _,_,_+1,.nil=>.nil
 | _,_,n+1,.cons r t=>.cons r (aS.take n t)
theorem aS.drop:∀{xs:List V}{us:List wf}(n:Nat),aS xs us->aS (xs.drop n) (us.drop n)
 | _,_,0,r=>r
 | _,_,_+1,.nil=>.nil
 | _,_,n+1,.cons _ t=>aS.drop n t
def Yo:Option V->Option wf->Prop
 | some v,some u=>aZ v u
 | none,none=>True
 | _,_=>False
def KV{κ : Type} : List (κ × V)->List (κ × wf)->Prop:=Paired λ(p : κ × V)(q : κ × wf)=>p.1=q.1/\aZ p.2 q.2
def kV:Key->V
 | .inl i=>.int i
 | .inr x=>.str x
inductive HO where
 | lst (xs:List V)
 | tup (xs:List V)
 | dK (kvs:List (Key × V)) | dT (kvs:List (List Key × V))
 | set (S:Int->Bool) (n:Nat)
 | ins (C dx:we) (fs:List (Str × V))
 | own (x:we)
 | xd (fs:List (Str × V))
 | met (f x:we)
 | yB (lo hi:Int)
 | gK (o:Obj) (u:HO)
 | lJ (ps:Array wf)
 | ext (φ : wJ->Prop)
abbrev Hp:=we->Option HO
def upd(H:Hp)(a:we)(o:HO):Hp:=λb=>if b=a then some o else H b
theorem dh : upd H a o a=some o:=by unfold upd;rw[if_pos rfl]
theorem eJ(h:b≠a):upd H a o b=H b:=by unfold upd;rw[if_neg h]
theorem Sz{u:HO}(h:H a=some o)(h':H b=some u)(d:o≠u):a≠b:=by
 intro e;subst e;rw[h]at h';exact d (wZ h')
theorem kC(h:H a=some o)(h':H b=none):a≠b:=by
 intro e;subst e;rw[h]at h';cases h'
section
variable(P:wH)(w:wM)
def dR(H:Hp)(h:wJ)(a:we):HO->Prop
 | .lst xs=>xs.length<=wY /\ ∃(its:List wf)(n:Nat),aS xs its/\h.get? a=some {cls:=.type "list",data:=.seq its.toArray n}
 | .tup xs=>xs.length<=wY /\ ∃its:List wf,aS xs its/\IsTup h a its.toArray
 | .dK kvs=>kvs.length<=wY/\(a == sysModules)=false /\ ∃vs,KV kvs vs/\h.DictOf (BS P w) a vs
 | .dT kvs=>kvs.length<=wY/\(a == sysModules)=false /\ ∃xs:List (List Key × we × wf),
     Paired (λ(p:List Key × V)(q:List Key × we × wf)=>p.1=q.1/\H q.2.1=some (.tup (p.1.map kV))/\aZ p.2 q.2.2) kvs xs /\
     ∃o es ep,h.get? a=some o/\o.ExactDict/\o.data=.dict es ep/\es.toList=xs.map (entryOfKey (tupleKind (BS P w)))/\(xs.map (·.1)).Nodup
 | .set S n=>h.SetOf (intKind P w) a S n
 | .ins C dx fs=>H dx=some (.own a)/\fs.length<=1000/\dx≠a/\h.get? a=some (PySem.W.instObj C dx) /\
     ∃mA,h.Ns1 dx mA/\(∀f,Yo (fs.lookup f) (mA f))/\PySem.Within mA (fs.map (·.1))
 | .own _=>∃o,h.get? a=some o
 | .xd fs=>∃mA,h.Ns1 a mA /\ ∀f,Yo (fs.lookup f) (mA f)
 | .yB lo hi=>∃t u v,h.get? a=some {cls:=.type "range",data:=.fields #[.int lo t,.int hi u,.int 1 v]}
 | .gK o u=>h.get? a=some o/\dR H h a u
 | .lJ ps=>h.get? a=some {cls:=.none,data:=.fields ps}
 | .met f x=>h.get? a=some (QE (.ref f) (.ref x))
 | .ext φ=>φ h/\(∃o,h.get? a=some o) /\ ∀h1 h2:wJ,φ h1->(∀o,h1.get? a=some o->h2.get? a=some o) -> φ h2
def dw(H:Hp)(h:wJ):Prop:=∀a o,H a=some o->dR P w H h a o
end
section
variable{P:wH}{w:wM}{H H':Hp}{h h':wJ}{a:we}{o:HO}
theorem dR.lt(x:dR P w H h a o):a<h.objs.size:=by
 cases o with
 | lst xs=>obtain⟨_,_,_,_,e⟩:=x;exact wC e
 | tup xs=>obtain⟨_,_,_,p⟩:=x;exact p.lt
 | dK kvs=>obtain⟨_,_,_,_,o,_,_,e,_⟩:=x;exact wC e
 | dT kvs=>obtain⟨_,_,_,_,o,_,_,e,_⟩:=x;exact wC e
 | set S n=>obtain⟨o,_,_,_,e,_⟩:=x;exact wC e
 | ins C dx fs=>obtain⟨_,_,_,e,_⟩:=x;exact wC e
 | own y=>obtain⟨_,e⟩:=x;exact wC e
 | xd fs=>obtain⟨_,⟨_,_,_,e,_⟩,_⟩:=x;exact wC e
 | yB lo hi=>obtain⟨_,_,_,e⟩:=x;exact wC e
 | gK ob u=>obtain⟨e,_⟩:=x;exact wC e
 | lJ ps=>exact wC (show h.get? a=some _ from x)
 | met f y=>exact wC (show h.get? a=some _ from x)
 | ext φ=>obtain⟨_,⟨_,e⟩,_⟩:=x;exact wC e
theorem Paired.KP{α β : Type}{F G : α -> β -> Prop} : ∀{l₁ : List α}{l₂ : List β},Paired F l₁ l₂ -> (∀a b,F a b->G a b)->Paired G l₁ l₂
 | _,_,.nil,_=>.nil
 | _,_,.cons r t,f=>.cons (f _ _ r) (Paired.KP t f)
theorem dR.kQ(x:dR P w H h a o)(k:∀b u,(b=a\/H b=some (.own a))->h.get? b=some u->h'.get? b=some u)
  (ho:∀b,H b=some (.own a)->H' b=some (.own a)) (ht:∀b xs,H b=some (.tup xs)->H' b=some (.tup xs)):dR P w H' h' a o:=by
 induction o with
 | lst xs=>obtain⟨z,its,n,r,e⟩:=x;exact⟨z,its,n,r,k _ _ (.inl rfl) e⟩
 | tup xs=>obtain⟨z,its,r,ob,e,c⟩:=x;exact⟨z,its,r,ob,k _ _ (.inl rfl) e,c⟩
 | dK kvs=>obtain⟨z,y,vs,r,ob,es,ep,e,c⟩:=x;exact⟨z,y,vs,r,ob,es,ep,k _ _ (.inl rfl) e,c⟩
 | dT kvs =>
  obtain⟨z,y,xs,r,ob,es,ep,e,c⟩:=x;exact⟨z,y,xs,Paired.KP r λp q z=>⟨z.1,ht _ _ z.2.1,z.2.2⟩,ob,es,ep,k _ _ (.inl rfl) e,c⟩
 | set S n=>obtain⟨ob,es,ep,t,e,c⟩:=x;exact⟨ob,es,ep,t,k _ _ (.inl rfl) e,c⟩
 | ins C dx fs =>
  obtain⟨d,z,ne,e,mA,⟨od,es,ep,e2,c⟩,r⟩:=x;exact⟨ho _ d,z,ne,k _ _ (.inl rfl) e,mA,⟨od,es,ep,k _ _ (.inr d) e2,c⟩,r⟩
 | own y=>obtain⟨ob,e⟩:=x;exact⟨ob,k _ _ (.inl rfl) e⟩
 | xd fs=>obtain⟨mA,⟨od,es,ep,e,c⟩,r⟩:=x;exact⟨mA,⟨od,es,ep,k _ _ (.inl rfl) e,c⟩,r⟩
 | yB lo hi=>obtain⟨t,u,v,e⟩:=x;exact⟨t,u,v,k _ _ (.inl rfl) e⟩
 | gK ob u ih=>obtain⟨e,q⟩:=x;exact⟨k _ _ (.inl rfl) e,ih q⟩
 | lJ ps =>
  have e:h.get? a=some {cls:=.none,data:=.fields ps}:=x
  show h'.get? a=some {cls:=.none,data:=.fields ps}
  exact k a _ (.inl rfl) e
 | met f y =>
  have e:h.get? a=some (QE (.ref f) (.ref y)):=x
  show h'.get? a=some (QE (.ref f) (.ref y))
  exact k a _ (.inl rfl) e
 | ext φ=>obtain⟨p,⟨o,e⟩,st⟩:=x;exact⟨st _ _ p λo q=>k _ _ (.inl rfl) q,⟨o,k _ _ (.inl rfl) e⟩,st⟩
theorem dw.lt(x:dw P w H h)(e:H a=some o):a<h.objs.size:=(x a o e).lt
theorem dw.fresh(x:dw P w H h)(e:h.objs.size<=a):H a=none:=by
 cases q:H a with
 | none=>rfl
 | some u=>exact absurd (wT (x.lt q) e) (W3 _)
theorem dw.kept(x:dw P w H h)(k:∀b u,h.get? b=some u->h'.get? b=some u):dw P w H h':=λa o e =>
 (x a o e).kQ (λb u _ q=>k b u q) (λ_ q=>q) λ_ _ q=>q
theorem dw.laid(x:dw P w H h)(k:∀b u,h.get? b=some u->h'.get? b=some u)(hp:h.objs.size<=a)(new:dR P w (upd H a o) h' a o):dw P w (upd H a o) h':=λb u e=>by
 have hn:=x.fresh hp
 by_cases hb:b=a
 ·subst hb;rw[dh]at e;cases e;exact new
 ·rw[eJ hb]at e
  exact(x b u e).kQ (λc v _ q=>k c v q) (λc q=>by rw[eJ (kC q hn)];exact q) λc xs q=>by rw[eJ (kC q hn)];exact q
end
def Rd(H:Hp)(a:we)(u:HO):Prop:=H a=some u \/ ∃o,H a=some (.gK o u)
theorem Rd.ok{P:wH}{w:wM}{H:Hp}{h:wJ}{a:we}{u:HO}(r:Rd H a u)(x:dw P w H h):dR P w H h a u:=by
 rcases r with r | ⟨o,r⟩
 ·exact x a u r
 ·obtain⟨_,q⟩:=x a _ r
  exact q
def z6:Option HO->Prop
 | some (.lst _)=>True
 | some (.dK _)=>True
 | some (.dT _)=>True
 | some (.set _ _)=>True
 | some (.ins _ _ _)=>True
 | some (.ext _)=>True
 | _=>False
section
variable{P:wH}{w:wM}{H:Hp}{h h':wJ}{x e:we}{o':HO}
theorem dw.write(ok:dw P w H h)(mu:z6 (H x))(he:e=x\/H e=some (.own x))(k:∀b u,b≠e->h.get? b=some u->h'.get? b=some u)(heo:∃u,h'.get? e=some u)
  (new:dR P w (upd H x o') h' x o'):dw P w (upd H x o') h':=λb u q=>by
 have nown:∀c y,H c=some (.own y)->c≠x:=λc y r z=>by subst z;rw[r]at mu;exact mu
 have ntup:∀c xs,H c=some (.tup xs)->c≠x:=λc xs r z=>by subst z;rw[r]at mu;exact mu
 by_cases hb:b=x
 ·subst hb;rw[dh]at q;cases q;exact new
 ·rw[eJ hb]at q
  by_cases hbe:b=e
  ·have q':H b=some (.own x):=by
    rcases he with z | z
    ·exact absurd (hbe.trans z) hb
    ·rw[hbe];exact z
   rw[q]at q';cases q';obtain⟨v,hv⟩:=heo;exact⟨v,by rw[hbe];exact hv⟩
  ·refine(ok b u q).kQ (λc v hc r=>k c v ?_ r) (λc r=>by rw[eJ (nown c b r)];exact r) λc xs r=>by rw[eJ (ntup c xs r)];exact r
   rcases hc with rfl | hc
   ·exact hbe
   ·rintro rfl
    rcases he with z | z
    ·exact nown c b hc z
    ·rw[hc]at z;cases z;exact hb rfl
end
structure Un(fs ex:List we)(H H':Hp)(h h':wJ):Prop where
 keep:∀b o,h.get? b=some o->H b=none->b ∉ fs->b ∉ ex->h'.get? b=some o
 slot:∀b o,h.get? b=some o->H b=none->b∈fs->b ∉ ex->∃sl,h'.get? b=some {o with slots:=sl}
 free:∀b o,h.get? b=some o->H b=none->b ∉ ex->H' b=none
 there:∀b o,h.get? b=some o->b ∉ ex->∃o',h'.get? b=some o'
 iU:∀b xs,H b=some (.tup xs)->H' b=some (.tup xs)
 iu:∀b o u,H b=some (.gK o u)->H' b=some (.gK o u)
 iT:∀b ps,H b=some (.lJ ps)->∃more,H' b=some (.lJ (ps++more))
section
variable{fs fs' ex ex':List we}{H H1 H2:Hp}{h h1 h2 h':wJ}{a x e:we}{o:HO}
theorem Un.any(u:Un fs ex H H1 h h1){b:we}{ob:Obj}(q:h.get? b=some ob)(n:H b=none)(hx:b ∉ ex):∃sl,h1.get? b=some {ob with slots:=sl}:=by
 by_cases hb:b∈fs
 ·exact u.slot b ob q n hb hx
 ·exact⟨ob.slots,u.keep b ob q n hb hx⟩
theorem Un.kept(k:∀b u,h.get? b=some u->h'.get? b=some u):Un fs ex H H h h' :=
 ⟨λb ob q _ _ _=>k b ob q,λb ob q _ _ _=>⟨ob.slots,k b ob q⟩,λ_ _ _ n _=>n,λb ob q _=>⟨ob,k b ob q⟩,λ_ _ q=>q,λ_ _ _ q=>q,λ_ ps q=>⟨#[],by rw[q];simp⟩⟩
theorem Un.refl:Un fs ex H H h h:=Un.kept λ_ _ q=>q
theorem Un.laid(k:∀b u,h.get? b=some u->h'.get? b=some u)(hp:h.objs.size<=a)(hn:H a=none):Un fs ex H (upd H a o) h h' where
 keep:=λb u q _ _ _=>k b u q
 slot:=λb u q _ _ _=>⟨u.slots,k b u q⟩
 free:=λb u q n _=>by rw[eJ (wQ (wT (wC q) hp))];exact n
 there:=λb u q _=>⟨u,k b u q⟩
 iU:=λb xs q=>by rw[eJ (kC q hn)];exact q
 iu:=λb u xs q=>by rw[eJ (kC q hn)];exact q
 iT:=λb ps q=>⟨#[],by rw[eJ (kC q hn),q];simp⟩
theorem Un.write(mu:z6 (H x))(he:e=x\/H e=some (.own x))(k:∀b u,b≠e->h.get? b=some u->h'.get? b=some u)(heo:∃u,h'.get? e=some u):Un fs ex H (upd H x o) h h':=by
 have hx:∀b,H b=none->b≠x:=λb n z=>by subst z;rw[n]at mu;exact mu
 have hb:∀b,H b=none->b≠e:=λb n z=>by
  subst z;rcases he with r | r
  ·exact hx b n r
  ·rw[n]at r;cases r
 have hm:∀b u,H b=some u->¬ z6 (some u)->b≠x:=λb u q nm z=>by subst z;rw[q]at mu;exact nm mu
 refine⟨λb u q n _ _=>k b u (hb b n) q,λb u q n _ _=>⟨u.slots,k b u (hb b n) q⟩,λb u q n _=>by rw[eJ (hx b n)];exact n,λb u q _=>?_,
  λb xs q=>by rw[eJ (hm b _ q λz=>z)];exact q,λb u xs q=>by rw[eJ (hm b _ q λz=>z)];exact q,λb ps q=>⟨#[],by rw[eJ (hm b _ q λz=>z),q];simp⟩⟩
 by_cases hbe:b=e
 ·subst hbe;exact heo
 ·exact⟨u,k b u hbe q⟩
end
def jj(h:wJ)(H:Hp):List we:=(wo h.objs.size).filter λa=>(H a).isSome
def kD(h:wJ)(H:Hp):wJ:=XX h (jj h H)
theorem zxU(h:wJ)(H:Hp):(kD h H).objs.size=h.objs.size:=PySem.W.hideAll_size _ _
theorem zzh{h:wJ}{H:Hp}{b:we}{o:Obj}(e:h.get? b=some o)(n:H b=none):(kD h H).get? b=some o :=
 xI _ e λhm=>by
  have q:(H b).isSome=true:=(wU.mp hm).2;rw[n]at q;simp at q
theorem zAP{h:wJ}{H:Hp}{b:we}{o:Obj}(e:(kD h H).get? b=some o):h.get? b=some o/\H b=none:=by
 have e':h.get? b=some o:=xT (jj h H) e;refine⟨e',?_⟩;cases q:H b with
 | none=>rfl
 | some x =>
  have hm:b∈jj h H:=wU.mpr ⟨wF.mpr (wC e'),by simp[q]⟩;have z:(kD h H).get? b=none:=PySem.W.hideAll_none (jj h H) hm;rw[z]at e;cases e
def zBw(g h:wJ)(L:we):List (we × Obj):=(wo h.objs.size).filterMap λa=>if a=L\/(g.get? a).isSome=true then none else(h.get? a).map λo=>(a,o)
def d4(g h:wJ)(L d:we):List (we × Obj):=(zBw g h L).filter λp=>decide (p.1≠d)
structure Mod(K:wa)(mg:Str->Option wf)(base:wJ):Prop where
 pA:K.In base
 glob:base.Ns wP mg
 blt:∃mb,base.Ns builtinsNs mb /\ ∀x:Str,x≠"__name__" -> mb x=vI x
 nolimit:base.NoLimit
structure Cx where
 prog:wH
 w:wM
 K:wa
 mg:Str->Option wf
 base:wJ
 A:w9
 N:List Str
 s₀ : wm
 H₀ : Hp
 env:Env
 outer:List Env
 stack:List Env
 ex:List we
 fn:Str->Bool
 calm:Bool
 pn:List (we × Obj)
 xe:wf->wm->Prop
def d7(l:List Env):List we:=l.filterMap (·.frame)
abbrev Cx.fs(X:Cx):List we:=d7 X.outer
def rG(sc:Scope)(x:Str):Prop:=sc.names.lookup x=some .local\/sc.names.lookup x=some .cell\/sc.names.lookup x=some .free
def Loc(sc:Scope)(x:Str):Prop:=sc.names.lookup x=some .local\/sc.names.lookup x=some .cell
def zEX(env:Env)(h:wJ)(m:Str->Option wf)(x:Str)(u:wf):Prop :=
 (env.kindOf x=some .local/\m x=some u)\/((env.kindOf x=some .cell\/env.kindOf x=some .free) /\ ∃c,env.cells.lookup x=some c/\h.IsCell c (some u))
structure Cx.Ok(X:Cx):Prop where
 mod:Mod X.K X.mg X.base
 kind:X.env.scope.kind=.function
 glob:X.env.globals=wP
 blt:X.env.builtins=builtinsNs
 above:X.s₀.heap.objs.size<=X.env.locals
 inj:∀x y c,X.env.cells.lookup x=some c->X.env.cells.lookup y=some c->x=y
 has:∀x,(X.env.kindOf x=some .cell\/X.env.kindOf x=some .free)->∃c,X.env.cells.lookup x=some c
 k8:∀x c,X.fn x=true->X.env.cells.lookup x=some c->X.s₀.heap.objs.size<=c
 hd:X.calm=true->X.A.handled=none
 frames:X.A.frames=some X.stack
 mP:X.stack=X.outer\/(X.stack=X.env::X.outer/\X.env.frame=some X.env.locals)
 rB:∀b∈X.ex,b≠X.env.locals /\ ∀x c,X.env.cells.lookup x=some c->c≠b
 bs:∀b o,X.base.get? b=some o->X.s₀.heap.get? b=some o/\X.H₀ b=none
 jx:X.base.objs.size<=X.s₀.heap.objs.size
 kR:∀b o,X.base.get? b=some o->b ∉ X.ex
 mj:∀b∈X.ex,b ∉ X.fs
 fk:X.s₀.heap.FunFrames X.base X.outer
 jG:∀b∈X.fs,X.H₀ b=none
structure Inv(X:Cx)(pins:List (we × Obj))(σ : List (Option V))(H:Hp)(s:wm):Prop where
 ok:X.Ok
 os:s.os=X.s₀.os
 bare:AllBare s.gens
 base:Un X.fs X.ex X.H₀ H X.s₀.heap s.heap
 loc:∃m,s.heap.Ns X.env.locals m /\ ∀(i:Nat)(x:Str)(v:V),X.N[i]? = some x -> σ[i]? = some (some v)->rG X.env.scope x->∃u,aZ v u/\zEX X.env s.heap m x u
 cell:∀x c,X.env.cells.lookup x=some c->∃v,s.heap.IsCell c v
 free:H X.env.locals=none
 gj:∀x c,X.env.cells.lookup x=some c->H c=none
 pin:∀p∈X.pn++pins,s.heap.get? p.1=some p.2/\H p.1=none/\p.1≠X.env.locals/\p.1 ∉ X.fs /\ ∀v,p.2.data≠.cell v
 aM:dw X.prog X.w H s.heap
 len : σ.length=X.N.length
section
variable{X:Cx}{pins:List (we × Obj)}{σ : List (Option V)}{H H':Hp}{s:wm}{h':wJ}
variable{i t':Nat}{ch:List we}{x:Str}
theorem Cx.Ok.Y5(ok:X.Ok){b:we}{o:Obj}(e:X.base.get? b=some o):b ∉ X.fs:=λhb=>by
 have:=(ok.fk.mem hb).1;rw[e]at this;cases this
theorem Inv.bs(I:Inv X pins σ H s):∀b o,X.base.get? b=some o->s.heap.get? b=some o/\H b=none:=λb o e =>
 ⟨I.base.keep b o (I.ok.bs b o e).1 (I.ok.bs b o e).2 (I.ok.Y5 e) (I.ok.kR b o e),I.base.free b o (I.ok.bs b o e).1 (I.ok.bs b o e).2 (I.ok.kR b o e)⟩
theorem Inv.bk(I:Inv X pins σ H s):∀b o,X.base.get? b=some o->s.heap.get? b=some o:=λb o e=>(I.bs b o e).1
theorem Inv.mod(I:Inv X pins σ H s):Mod X.K X.mg X.base:=I.ok.mod
theorem Inv.dW(I:Inv X pins σ H s):X.K.In s.heap:=I.ok.mod.pA.keeps I.bk
theorem Inv.lt(I:Inv X pins σ H s):X.env.locals<s.heap.objs.size:=let ⟨_,hn,_⟩:=I.loc;hn.lt
theorem Inv.sz(I:Inv X pins σ H s):X.s₀.heap.objs.size<=s.heap.objs.size:=Wf I.ok.above (WA I.lt)
theorem Inv.Y3(I:Inv X pins σ H s){a:we}(h:s.heap.objs.size<=a):a ∉ X.fs:=λhb=>by
 obtain⟨_,o,ho,_⟩:=I.ok.fk.mem hb;exact absurd (wT (wC ho) (Wf I.sz h)) (W3 _)
theorem Inv.lP(I:Inv X pins σ H s):∀x c,X.env.cells.lookup x=some c->c≠X.env.locals:=λx c e z=>by
 obtain⟨v,o,ho,hd⟩:=I.cell x c e;obtain⟨m,⟨o',es,ep,ho',hd',_⟩,_⟩:=I.loc;rw[z,ho']at ho;cases ho;rw[hd']at hd;cases hd
theorem Inv.fk(I:Inv X pins σ H s):s.heap.FunFrames X.base X.outer:=by
 have all:∀(l:List Env),(∀b∈d7 l,b∈X.fs)->X.s₀.heap.FunFrames X.base l->s.heap.FunFrames X.base l:=by
  intro l
  induction l with
  | nil=>intro _ _;trivial
  | cons env r ih =>
   intro hs hl;obtain⟨hk,⟨L,o,hf,hn,ho,hd⟩,hr⟩:=hl;have hL:L∈X.fs:=hs L (by unfold d7;rw[Qg,hf];exact wE);obtain⟨sl,e⟩:=I.base.slot L o ho (I.ok.jG L hL) hL λz=>I.ok.mj L z hL
   exact⟨hk,⟨L,_,hf,hn,e,hd⟩,ih (λb hb=>hs b (by unfold d7;rw[Qg,hf];exact wA _ hb)) hr⟩
 exact all X.outer (λ_ hb=>hb) I.ok.fk
theorem Inv.stack(I:Inv X pins σ H s):s.heap.FunFrames X.base X.stack:=by
 rcases I.ok.mP with e | ⟨e,hf⟩
 ·rw[e];exact I.fk
 ·rw[e]
  obtain⟨m,hn,_⟩:=I.loc;refine .cons (by rw[I.ok.kind];decide) hf hn ?_ I.fk;exact Heap.get?_none_of_le (Wf I.ok.jx I.ok.above)
theorem Inv.nj(I:Inv X pins σ H s):∀b∈d7 X.stack,b∈X.env.locals::X.fs:=λb hb=>by
 rcases I.ok.mP with e | ⟨e,hf⟩
 ·rw[e]at hb;exact wA _ hb
 ·rw[e]at hb
  unfold d7 at hb;rw[Qg,hf]at hb;exact hb
theorem Inv.sS(I:Inv X pins σ H s):∀b∈d7 X.stack,H b=none:=λb hb=>by
 rcases wL.mp (I.nj b hb)with e | hb
 ·rw[e];exact I.free
 ·obtain⟨_,o,ho,_⟩:=I.ok.fk.mem hb
  exact I.base.free b o ho (I.ok.jG b hb) λz=>I.ok.mj b z hb
theorem Inv.step{g':Array GenState}{d':Drawn}(I:Inv X pins σ H s)
  (hch:∀b∈ch,(b∈X.ex\/X.s₀.heap.objs.size<=b)/\b≠X.env.locals/\(∀x c,X.env.cells.lookup x=some c->c≠b) /\ ∀p∈X.pn++pins,p.1≠b)
  (keep:∀b o,b≠X.env.locals->b ∉ X.fs->b ∉ ch->s.heap.get? b=some o->H b=none->h'.get? b=some o)
  (slot:∀b o,b≠X.env.locals->b∈X.fs->b ∉ ch->s.heap.get? b=some o->H b=none->∃sl,h'.get? b=some {o with slots:=sl}) (free:∀b o,b ∉ ch->s.heap.get? b=some o->H b=none->H' b=none)
  (there:∀b o,b ∉ ch->s.heap.get? b=some o->∃o',h'.get? b=some o')
  (iU:∀b xs,H b=some (.tup xs)->H' b=some (.tup xs)) (iu:∀b o u,H b=some (.gK o u)->H' b=some (.gK o u)) (iT:∀b ps,H b=some (.lJ ps)->∃more,H' b=some (.lJ (ps++more)))
  (ns:∀m,s.heap.Ns X.env.locals m->h'.Ns X.env.locals m) (aM:dw X.prog X.w H' h') (hg:AllBare g') :
  Inv X pins σ H' {s with heap:=h',gens:=g',drawn:=d',toks:=t'}:=by
 have neL:∀b o,X.s₀.heap.get? b=some o->b≠X.env.locals:=λb o e=>wQ (wT (wC e) I.ok.above)
 have neC:∀b o,X.s₀.heap.get? b=some o->b ∉ X.ex->b ∉ ch:=λb o e hx hb=>by
  rcases (hch b hb).1 with z | z
  ·exact hx z
  ·exact absurd (wT (wC e) z) (W3 _)
 have cellK:∀x c,X.env.cells.lookup x=some c->∀v,s.heap.IsCell c v->h'.IsCell c v:=λx c e v ⟨o,ho,hd⟩=>by
  have nch:c ∉ ch:=λz=>(hch c z).2.2.1 x c e rfl
  by_cases hc:c∈X.fs
  ·obtain⟨sl,q⟩:=slot c o (I.lP x c e) hc nch ho (I.gj x c e)
   exact⟨_,q,hd⟩
  ·exact⟨o,keep c o (I.lP x c e) hc nch ho (I.gj x c e),hd⟩
 refine⟨I.ok,I.os,hg,⟨λb o e n hb hx=>?_,λb o e n hb hx=>?_,λb o e n hx=>?_,λb o e hx=>?_,λb xs e=>iU b xs (I.base.iU b xs e),λb o xs e=>iu b o xs (I.base.iu b o xs e),λb ps e=>?_⟩,?_,λx c e=>?_,?_,λx c e=>?_,λp hp=>?_,aM,I.len⟩
 ·exact keep b o (neL b o e) hb (neC b o e hx) (I.base.keep b o e n hb hx) (I.base.free b o e n hx)
 ·obtain⟨sl,e1⟩:=I.base.slot b o e n hb hx
  obtain⟨sl',e2⟩:=slot b _ (neL b o e) hb (neC b o e hx) e1 (I.base.free b o e n hx);exact⟨sl',e2⟩
 ·obtain⟨o',e1⟩:=I.base.there b o e hx
  exact free b o' (neC b o e hx) e1 (I.base.free b o e n hx)
 ·obtain⟨o',e1⟩:=I.base.there b o e hx
  exact there b o' (neC b o e hx) e1
 ·obtain⟨m1,e1⟩:=I.base.iT b ps e
  obtain⟨m2,e2⟩:=iT b _ e1;exact⟨m1++m2,by rw[e2,xU]⟩
 ·obtain⟨m,hn,hl⟩:=I.loc
  refine⟨m,ns m hn,λi x v e1 e2 e3=>?_⟩;obtain⟨u,r,l⟩:=hl i x v e1 e2 e3;refine⟨u,r,?_⟩;rcases l with l | ⟨k,c,e,z⟩
  ·exact .inl l
  ·exact .inr ⟨k,c,e,cellK x c e _ z⟩
 ·obtain⟨v,z⟩:=I.cell x c e
  exact⟨v,cellK x c e v z⟩
 ·obtain⟨m,⟨o,_,_,ho,_⟩,_⟩:=I.loc
  exact free _ o (λz=>(hch _ z).2.1 rfl) ho I.free
 ·obtain⟨v,o,ho,hd⟩:=I.cell x c e
  exact free c o (λz=>(hch c z).2.2.1 x c e rfl) ho (I.gj x c e)
 ·obtain⟨e,n,ne,nf,d⟩:=I.pin p hp
  have nch:p.1 ∉ ch:=λz=>(hch p.1 z).2.2.2 p hp rfl
  exact⟨keep p.1 p.2 ne nf nch e n,free p.1 p.2 nch e n,ne,nf,d⟩
theorem Inv.un(I:Inv X pins σ H s)(u:Un X.fs [] H H' s.heap h')(aM:dw X.prog X.w H' h'):Inv X pins σ H' {s with heap:=h',toks:=t'}:=by
 obtain⟨m,⟨o,es,ep,ho,r⟩,_⟩:=id I.loc;obtain⟨sl,hL⟩:=u.any ho I.free (by simp)
 exact I.step (g':=s.gens) (d':=s.drawn) (ch:=[]) (λ_ z=>nomatch z) (λb o _ hb _ e n=>u.keep b o e n hb (by simp)) (λb o _ hb _ e n=>u.slot b o e n hb (by simp)) (λb o _ e n=>u.free b o e n (by simp)) (λb o _ e=>u.there b o e (by simp)) u.iU u.iu u.iT (λm' hm=>by
  obtain⟨o',es',ep',ho',r'⟩:=hm;rw[ho]at ho';cases ho';exact⟨_,es',ep',hL,r'⟩) aM I.bare
theorem Inv.call{g':Array GenState}{d':Drawn}(I:Inv X pins σ H s)(u:Un (d7 X.stack) ch H H' s.heap h')(aM:dw X.prog X.w H' h')(hg:AllBare g')
  (hch:∀b∈ch,(b∈X.ex\/X.s₀.heap.objs.size<=b)/\b≠X.env.locals/\(∀x c,X.env.cells.lookup x=some c->c≠b) /\ ∀p∈X.pn++pins,p.1≠b) :
  Inv X pins σ H' {s with heap:=h',gens:=g',drawn:=d',toks:=t'}:=by
 obtain⟨m,⟨o,es,ep,ho,r⟩,_⟩:=id I.loc;obtain⟨sl,hL⟩:=u.any ho I.free λz=>(hch _ z).2.1 rfl
 exact I.step (ch:=ch) hch (λb o hL hb hc e n=>u.keep b o e n (λz=>(wL.mp (I.nj b z)).elim hL hb) hc) (λb o _ _ hc e n=>u.any e n hc) (λb o hc e n=>u.free b o e n hc) (λb o hc e=>u.there b o e hc) u.iU u.iu u.iT (λm' hm=>by
  obtain⟨o',es',ep',ho',r'⟩:=hm;rw[ho]at ho';cases ho';exact⟨_,es',ep',hL,r'⟩) aM hg
theorem Inv.turned{it:we}(I:Inv X pins σ H s)(k:∀b o,b≠it->s.heap.get? b=some o->h'.get? b=some o)(hn:H it=none)(hL:it≠X.env.locals)
  (h1:it∈X.ex\/X.s₀.heap.objs.size<=it) (h2:∀x c,X.env.cells.lookup x=some c->c≠it) (h3:∀p∈X.pn++pins,p.1≠it):Inv X pins σ H {s with heap:=h',toks:=t'}:=by
 have nit:∀b u,H b=some u->b≠it:=λb u e z=>by rw[z,hn]at e;cases e
 refine I.step (g':=s.gens) (d':=s.drawn) (ch:=[it]) (λb hb=>?_) (λb o _ _ hc e _=>k b o (λz=>hc (by simp[z])) e) (λb o _ _ hc e _=>⟨o.slots,k b o (λz=>hc (by simp[z])) e⟩) (λ_ _ _ _ n=>n)
  (λb o hc e=>⟨o,k b o (λz=>hc (by simp[z])) e⟩) (λ_ _ e=>e) (λ_ _ _ e=>e) (λb ps e=>⟨#[],by rw[e];simp⟩) (λm hm=>?_) (λb u e=>?_) I.bare
 ·have e:b=it:=by simpa using hb
  subst e;exact⟨h1,hL,h2,h3⟩
 ·obtain⟨o,es,ep,ho,r⟩:=hm
  exact⟨o,es,ep,k _ o (WB hL) ho,r⟩
 ·refine(I.aM b u e).kQ (λc v hc q=>k c v ?_ q) (λ_ q=>q) λ_ _ q=>q
  rcases hc with z | z
  ·rw[z];exact nit b u e
  ·exact nit c _ z
theorem Inv.tok(I:Inv X pins σ H s)(t:Nat):Inv X pins σ H {s with toks:=t}:=I.un (h':=s.heap) (t':=t) Un.refl I.aM
theorem Inv.kept(I:Inv X pins σ H s)(k:∀b u,s.heap.get? b=some u->h'.get? b=some u):Inv X pins σ H {s with heap:=h',toks:=t'}:=I.un (Un.kept k) (I.aM.kept k)
theorem Inv.laid{a:we}{o:HO}(I:Inv X pins σ H s)(k:∀b u,s.heap.get? b=some u->h'.get? b=some u)(hp:s.heap.objs.size<=a)(new:dR X.prog X.w (upd H a o) h' a o) :
  Inv X pins σ (upd H a o) {s with heap:=h',toks:=t'}:=I.un (Un.laid k hp (I.aM.fresh hp)) (I.aM.laid k hp new)
theorem Inv.write{x e:we}{o:HO}(I:Inv X pins σ H s)(mu:z6 (H x))(he:e=x\/H e=some (.own x))(k:∀b u,b≠e->s.heap.get? b=some u->h'.get? b=some u)(heo:∃u,h'.get? e=some u)
  (new:dR X.prog X.w (upd H x o) h' x o):Inv X pins σ (upd H x o) {s with heap:=h',toks:=t'}:=I.un (Un.write mu he k heo) (I.aM.write mu he k heo new)
theorem Inv.Kn{pins':List (we × Obj)}(I:Inv X pins σ H s)(h:∀p∈pins',s.heap.get? p.1=some p.2/\H p.1=none/\p.1≠X.env.locals/\p.1 ∉ X.fs /\ ∀v,p.2.data≠.cell v):Inv X pins' σ H s :=
 ⟨I.ok,I.os,I.bare,I.base,I.loc,I.cell,I.free,I.gj,λp hp=>(vY.mp hp).elim (λz=>I.pin p (VA _ z)) (h p),I.aM,I.len⟩
theorem Uc{N:List Str}(hN:N.Nodup){j:Nat}(a:N[i]? = some x)(b:N[j]? = some x):i=j:=by
 obtain⟨h1,e1⟩:=W1.mp a;obtain⟨h2,e2⟩:=W1.mp b;exact(List.getElem_inj hN).mp (e1.trans e2.symm)
theorem Nh{M:Model}{A:w9}{E:wf->wm->Prop}{v:V}{u:wf}{Q:Unit->wm->Prop}(I:Inv X pins σ H s)(hN:X.N.Nodup)(hi:X.N[i]? = some x)(hx:Loc X.env.scope x)(r:aZ v u)
  (h:∀s',Inv X pins (σ.set i (some v)) H s'->(∃a,vG a s.heap s'.heap/\(a=X.env.locals\/X.env.cells.lookup x=some a))->Q () s') (hf:X.fn x=true\/X.env.scope.names.lookup x=some .local:=by first | exact .inl rfl | exact .inr rfl | assumption):wt M A (storeName X.env x u) Q E s:=by
 obtain⟨m,hn,hl⟩:=id I.loc;have hcls:(X.env.scope.kind == .class || (X.env.scope.kind == .module&&X.env.locals != X.env.globals))=false:=by rw[I.ok.kind];rfl
 have hiσ : i < σ.length:=by rw[I.len];exact(W1.mp hi).1
 have lP:=I.lP
 have tracked:∀{a:we}{h':wJ},(∃o,s.heap.get? a=some o/\H a=none)->vG a s.heap h'->dw X.prog X.w H h':=λ{a h'} ha hs b ob e=>by
  obtain⟨_,_,hfree⟩:=ha;refine(I.aM b ob e).kQ (λc w' hc q=>(hs.2 c ?_).trans q) (λ_ q=>q) λ_ _ q=>q
  rintro rfl;rcases hc with rfl | hc
  ·rw[hfree]at e;cases e
  ·rw[hfree]at hc;cases hc
 rcases hx with hk | hk
 ·refine wpAny_storeName_local hk hn (λh' hn' hs=>?_) hcls
  obtain⟨oL,_,_,hoL,_⟩:=id hn;refine h _ ⟨I.ok,I.os,I.bare,⟨λb o e n hb hx=>?_,λb o e n hb hx=>?_,I.base.free,λb o e hx=>?_,I.base.iU,I.base.iu,I.base.iT⟩,⟨_,hn',λj y v' e1 e2 e3=>?_⟩,λy c e=>?_,I.free,I.gj,λp hp=>?_,tracked ⟨oL,hoL,I.free⟩ hs,by simpa using I.len⟩ ⟨_,hs,.inl rfl⟩
  ·exact(hs.2 b (wQ (wT (wC e) I.ok.above))).trans (I.base.keep b o e n hb hx)
  ·obtain⟨sl,e1⟩:=I.base.slot b o e n hb hx
   exact⟨sl,(hs.2 b (wQ (wT (wC e) I.ok.above))).trans e1⟩
  ·obtain⟨o',e1⟩:=I.base.there b o e hx
   exact⟨o',(hs.2 b (wQ (wT (wC e) I.ok.above))).trans e1⟩
  ·by_cases hj:j=i
   ·subst hj
    rw[hi]at e1;cases e1;rw[Q9 hiσ]at e2;cases e2;exact⟨u,r,.inl ⟨hk,by simp⟩⟩
   ·rw[xx (WB hj)]at e2
    obtain⟨u',r',q⟩:=hl j y v' e1 e2 e3;refine⟨u',r',?_⟩;rcases q with⟨k,e⟩ | ⟨k,c,e,z⟩
    ·refine .inl ⟨k,?_⟩
     have:y≠x:=λe=>hj (Uc hN e1 (e ▸ hi))
     simp[this,e]
    ·exact .inr ⟨k,c,e,z.sameBut hs (lP y c e)⟩
  ·obtain⟨w',z⟩:=I.cell y c e
   exact⟨w',z.sameBut hs (lP y c e)⟩
  ·obtain⟨e,n,ne,nf,d⟩:=I.pin p hp
   exact⟨(hs.2 p.1 ne).trans e,n,ne,nf,d⟩
 ·have hfn:X.fn x=true:=by
   rcases hf with z | z
   ·exact z
   ·rw[z]at hk;cases hk
  obtain⟨c,hc⟩:=I.ok.has x (.inl hk);obtain⟨w',z⟩:=I.cell x c hc;refine wpAny_storeName_cell I.ok.kind hk hc z (λh' hc' hs=>?_);obtain⟨oc,hoc,hocd⟩:=id z;refine h {s with heap:=h'} ⟨I.ok,I.os,I.bare,⟨λb o e n hb hx=>?_,λb o e n hb hx=>?_,I.base.free,λb o e hx=>?_,I.base.iU,I.base.iu,I.base.iT⟩,⟨m,hn.sameBut hs (WB (lP x c hc)),λj y v' e1 e2 e3=>?_⟩,λy c' e=>?_,I.free,I.gj,λp hp=>?_,tracked ⟨oc,hoc,I.gj x c hc⟩ hs,by simpa using I.len⟩ ⟨c,hs,.inr hc⟩
  ·exact(hs.2 b (wQ (wT (wC e) (I.ok.k8 x c hfn hc)))).trans (I.base.keep b o e n hb hx)
  ·obtain⟨sl,e1⟩:=I.base.slot b o e n hb hx
   exact⟨sl,(hs.2 b (wQ (wT (wC e) (I.ok.k8 x c hfn hc)))).trans e1⟩
  ·obtain⟨o',e1⟩:=I.base.there b o e hx
   exact⟨o',(hs.2 b (wQ (wT (wC e) (I.ok.k8 x c hfn hc)))).trans e1⟩
  ·by_cases hj:j=i
   ·subst hj
    rw[hi]at e1;cases e1;rw[Q9 hiσ]at e2;cases e2;exact⟨u,r,.inr ⟨.inl hk,c,hc,hc'⟩⟩
   ·rw[xx (WB hj)]at e2
    obtain⟨u',r',q⟩:=hl j y v' e1 e2 e3;refine⟨u',r',?_⟩;rcases q with q | ⟨k,c',e,z'⟩
    ·exact .inl q
    ·refine .inr ⟨k,c',e,z'.sameBut hs ?_⟩
     rintro rfl;exact hj (Uc hN e1 (I.ok.inj _ _ _ e hc ▸ hi))
  ·by_cases hcc:c'=c
   ·subst hcc;exact⟨_,hc'⟩
   ·obtain⟨w2,z2⟩:=I.cell y c' e
    exact⟨w2,z2.sameBut hs hcc⟩
  ·obtain⟨e,n,ne,nf,d⟩:=I.pin p hp
   refine⟨(hs.2 p.1 ?_).trans e,n,ne,nf,d⟩;intro q;rw[q,hoc]at e;have q':oc=p.2:=wZ e;exact d w' (by rw[<- q'];exact hocd)
theorem rW{M:Model}{A:w9}{E:wf->wm->Prop}{v:V}{u:wf}{Q:Unit->wm->Prop}(I:Inv X pins σ H s)(hN:X.N.Nodup)(hi:X.N[i]? = some x)(hx:Loc X.env.scope x)(r:aZ v u)
  (h:∀s',Inv X pins (σ.set i (some v)) H s'->Q () s') (hf:X.fn x=true\/X.env.scope.names.lookup x=some .local:=by first | exact .inl rfl | exact .inr rfl | assumption):wt M A (storeName X.env x u) Q E s :=
 Nh I hN hi hx r (λs' I' _=>h s' I') hf
theorem Inv.Kv{s':wm}(I:Inv X pins σ H s)(ho:s'.os=s.os)(u:Un (d7 X.stack) ch H H' s.heap s'.heap)(aM:dw X.prog X.w H' s'.heap)(hg:AllBare s'.gens)
  (hch:∀b∈ch,(b∈X.ex\/X.s₀.heap.objs.size<=b)/\b≠X.env.locals/\(∀x c,X.env.cells.lookup x=some c->c≠b) /\ ∀p∈X.pn++pins,p.1≠b):Inv X pins σ H' s':=by
 obtain⟨h',g',d',t',o'⟩:=s';have e:o'=s.os:=ho;subst e;exact I.call (g':=g') (t':=t') (d':=d') u aM hg hch
end
abbrev XK:=wf->Option we->Hp->Prop
abbrev St:=List (Option V)
abbrev VK:=V->Hp->Prop
abbrev TE:=St->Hp->VK->Prop
abbrev TT:=St->Hp->(Bool->Hp->Prop)->Prop
abbrev TA:=St->Hp->(List V->Hp->Prop)->Prop
structure cR where
 nx:St->Hp->Prop
 rt:VK
 bk:St->Hp->Prop:=λ_ _=>False
 ct:St->Hp->Prop:=λ_ _=>False
abbrev TS:=cR->St->Hp->Prop
def EP(X:Cx)(pins:List (we × Obj))(σ : St)(Q:VK)(u:wf)(s':wm):Prop:=∃v H',Inv X pins σ H' s'/\aZ v u/\Q v H'
def TP(X:Cx)(pins:List (we × Obj))(σ : St)(Q:Bool->Hp->Prop)(b:Bool)(s':wm):Prop:=∃H',Inv X pins σ H' s'/\Q b H'
def AP(X:Cx)(pins:List (we × Obj))(σ : St)(Q:List V->Hp->Prop)(us:List wf)(s':wm):Prop:=∃vs H',Inv X pins σ H' s'/\aS vs us/\Q vs H'
def SP(X:Cx)(pins:List (we × Obj))(D:cR)(f:Flow)(s':wm):Prop :=
 match f with
 | .next=>∃σ' H',Inv X pins σ' H' s'/\D.nx σ' H'
 | .brk=>∃σ' H',Inv X pins σ' H' s'/\D.bk σ' H'
 | .cont=>∃σ' H',Inv X pins σ' H' s'/\D.ct σ' H'
 | .ret u=>∃v σ' H',Inv X pins σ' H' s'/\aZ v u/\D.rt v H'
def PE(X:Cx)(e:Expr)(t:TE):Prop :=
 ∀(pins:List (we × Obj))(s:wm)(σ : St)(H:Hp)(Q:VK),Inv X pins σ H s->t σ H Q->wt (model X.prog X.w) X.A (eval e X.env) (EP X pins σ Q) X.xe s
def PT(X:Cx)(e:Expr)(t:TT):Prop :=
 ∀(pins:List (we × Obj))(s:wm)(σ : St)(H:Hp)(Q:Bool->Hp->Prop),Inv X pins σ H s->t σ H Q->wt (model X.prog X.w) X.A (isTrue e X.env (eval e X.env)) (TP X pins σ Q) X.xe s
def PW(X:Cx)(e:Expr)(t:TT):Prop :=
 ∀(whole:Sem wf)(pins:List (we × Obj))(s:wm)(σ : St)(H:Hp)(Q:Bool->Hp->Prop),Inv X pins σ H s->t σ H Q->wt (model X.prog X.w) X.A (isTrue e X.env whole) (TP X pins σ Q) X.xe s
theorem PW.pt{X:Cx}{e:Expr}{t:TT}(h:PW X e t):PT X e t:=h _
def PA(X:Cx)(es:List Expr)(t:TA):Prop :=
 ∀(pos:Pos)(pins:List (we × Obj))(s:wm)(σ : St)(H:Hp)(Q:List V->Hp->Prop),Inv X pins σ H s->t σ H Q->wt (model X.prog X.w) X.A (spliced (Vz pos (wS es X.env))) (AP X pins σ Q) X.xe s
def PS(X:Cx)(st:wW)(t:TS):Prop :=
 ∀(pins:List (we × Obj))(s:wm)(σ : St)(H:Hp)(D:cR),Inv X pins σ H s->t D σ H->wt (model X.prog X.w) X.A (exec st X.env) (SP X pins D) X.xe s
def fE(X:Cx)(st:List wW)(t:TS):Prop :=
 ∀(pins:List (we × Obj))(s:wm)(σ : St)(H:Hp)(D:cR),Inv X pins σ H s->t D σ H->wt (model X.prog X.w) X.A (execs st X.env) (SP X pins D) X.xe s
theorem aP{α : Type}{t:Sem α}{Q Q' : α -> wm->Prop}{M:Model}{A:w9}{E:wf->wm->Prop}{s:wm}(h:wt M A t Q E s)(hQ:∀a s,Q a s->Q' a s):wt M A t Q' E s:=WE h hQ λ_ _ x=>x
section
variable{X:Cx}
variable{x:Str}{u:wf}
def gW(i:Nat):TE:=λσ H Q=>∃v,σ[i]? = some (some v)/\Q v H
def tC(v:V):TE:=λ_ H Q=>Q v H
theorem Pr{i:Nat}{pos:Pos}(hN:X.N[i]? = some x)(hv:rG X.env.scope x)(hd:(x == ("__debug__" : Str))=false:=by decide)(hcd:(x == ("__classdict__" : Str))=false:=by decide):PE X (.Name x pos) (gW i):=by
 intro pins s σ H Q I h;obtain⟨v,e,h⟩:=h;obtain⟨m,hn,hl⟩:=I.loc;obtain⟨u,r,l⟩:=hl i x v hN e hv;have fin:EP X pins σ Q u s:=⟨v,H,I,r,h⟩;rcases l with⟨hk,hm⟩ | ⟨hk,c,hc,hcell⟩
 ·exact wpAny_Name (wpAny_loadName_local I.ok.kind hk hn hm fin) hd
 ·rcases hk with hk | hk
  ·exact wpAny_Name (wpAny_loadName_cell I.ok.kind hk hc hcell fin) hd
  ·exact wpAny_Name (wpAny_loadName_free I.ok.kind hk hc hcell fin hcd) hd
theorem au{i j pos} : PE X (.Constant (.int i) j pos) (tC (.int i)):=λ_ _ _ H _ I h=>wpAny_Constant_int ⟨.int i,H,I.tok _,⟨_,rfl⟩,h⟩
theorem dX{b j pos} : PE X (.Constant (.bool b) j pos) (tC (.bl b)):=λ_ _ _ H _ I h=>Constant_bool ⟨.bl b,H,I,rfl,h⟩
theorem eT{j pos} : PE X (.Constant .none j pos) (tC .bM):=λ_ _ _ H _ I h=>Constant_none ⟨.bM,H,I,rfl,h⟩
theorem fP{x j pos} : PE X (.Constant (.str x) j pos) (tC (.str x)):=λ_ _ _ H _ I h=>Calls.Constant_str ⟨.str x,H,I.tok _,⟨_,rfl⟩,h⟩
def Gl(X:Cx)(x:Str):Prop:=X.env.kindOf x=some .globalImplicit
theorem pS{E:wf->wm->Prop}{pins:List (we × Obj)}{s:wm}{σ : St}{H:Hp}{pos:Pos}{Q:wf->wm->Prop}(I:Inv X pins σ H s)(hg:Gl X x)(hm:X.mg x=some u)(h:Q u s)
  (hd:(x == ("__debug__" : Str))=false:=by decide):wt (model X.prog X.w) X.A (eval (.Name x pos) X.env) Q E s :=
 Qx I.ok.kind hg (Calls.loadGlobal_global (by rw[I.ok.glob];exact I.mod.glob.keeps I.bk) hm h) hd
theorem hJ{E:wf->wm->Prop}{pins:List (we × Obj)}{s:wm}{σ : St}{H:Hp}{pos:Pos}{Q:wf->wm->Prop}(I:Inv X pins σ H s)(hg:Gl X x)(hm:X.mg x=none)(hv:vI x=some u)(h:Q u s)
  (hn:x≠"__name__":=by decide) (hd:(x == ("__debug__" : Str))=false:=by decide):wt (model X.prog X.w) X.A (eval (.Name x pos) X.env) Q E s:=by
 obtain⟨mb,h1,h2⟩:=I.mod.blt;exact Qx I.ok.kind hg (Calls.loadGlobal_builtin (by rw[I.ok.glob];exact I.mod.glob.keeps I.bk) hm (by rw[I.ok.blt];exact h1.keeps I.bk) ((h2 x hn).trans hv) h) hd
theorem cj{v:V}{pos:Pos}(hg:Gl X x)(hm:X.mg x=some u)(r:aZ v u)(hd:(x == ("__debug__" : Str))=false:=by decide):PE X (.Name x pos) (tC v) :=
 λ_ _ _ H _ I h=>pS I hg hm ⟨v,H,I,r,h⟩ hd
theorem gJ{v:V}{pos:Pos}(hg:Gl X x)(hm:X.mg x=none)(hv:vI x=some u)(r:aZ v u)(hn:x≠"__name__":=by decide)(hd:(x == ("__debug__" : Str))=false:=by decide):PE X (.Name x pos) (tC v) :=
 λ_ _ _ H _ I h=>hJ I hg hm hv ⟨v,H,I,r,h⟩ hn hd
def t2I(ta tb:TE)(k:Int->Int->Hp->Prop):St->Hp->Prop:=λσ H=>ta σ H λx H1=>tb σ H1 λy H2=>∃i j,x=.int i/\y=.int j/\k i j H2
variable{a b:Expr}{ta tb:TE}{pos:Pos}
def oK(p:Int->Int->Bool)(ta tb:TE):TE:=λσ H Q=>t2I ta tb (λi j H2=>Q (.bl (p i j)) H2) σ H
abbrev tLt:TE->TE->TE:=oK λi j=>decide (i<j)
abbrev tLe:TE->TE->TE:=oK λi j=>decide (i<=j)
abbrev tGt:TE->TE->TE:=oK λi j=>decide (j<i)
abbrev tGe:TE->TE->TE:=oK λi j=>decide (j<=i)
abbrev zFa:TE->TE->TE:=oK λi j=>decide (i=j)
abbrev zFb:TE->TE->TE:=oK λi j=>!decide (i=j)
def tB(t:TE):TT:=λσ H Q=>t σ H λx H1=>∃c,x=.bl c/\Q c H1
theorem b_{e:Expr}{t:TE}(h:PE X e t)(he:∀whole,isTrue e X.env whole=(do let v <- whole;standAt e.pos;holding [v] (truthy v)):=by intro _;rfl):PT X e (tB t):=by
 intro pins s σ H Q I hw;refine isTrue_plain (aP (h pins s σ H _ I hw) λv s1 ⟨x,H1,I1,r1,q1⟩=>?_) (he _);obtain⟨d,rfl,q⟩:=q1;cases r1;exact Wy ⟨H1,I1,q⟩
variable{tA tB':TT}{d4:List Expr}
def LC(t u:TT):TT:=λσ H Q=>t σ H λc H1=>if c=true then u σ H1 Q else Q false H1
def LU(t u:TT):TT:=λσ H Q=>t σ H λc H1=>if c=true then Q true H1 else u σ H1 Q
def RT(t:TT):TT:=λσ H Q=>t σ H λc H1=>Q (!c) H1
theorem Bq(ha:PT X a tA):PW X (.BoolOp .And [a] pos) tA:=by
 intro wh pins s σ H Q I h;refine isTrue_and (aP (ha pins s σ H Q I h) λc s1 e=>?_);cases c with
 | true=>exact isTrue_and_nil e
 | false=>exact e
theorem fc(ha:PT X a tA):PW X (.BoolOp .Or [a] pos) tA:=by
 intro wh pins s σ H Q I h;refine isTrue_or (aP (ha pins s σ H Q I h) λc s1 e=>?_);cases c with
 | false=>exact isTrue_or_nil e
 | true=>exact e
theorem EW(ha:PT X a tA)(hb:PW X (.BoolOp .And (b::d4) pos) tB'):PW X (.BoolOp .And (a::b::d4) pos) (LC tA tB'):=by
 intro wh pins s σ H Q I h;refine isTrue_and (aP (ha pins s σ H _ I h) λc s1 ⟨H1,I1,q1⟩=>?_);cases c with
 | true=>exact hb wh pins s1 σ H1 Q I1 q1
 | false=>exact⟨H1,I1,q1⟩
theorem dq(ha:PT X a tA)(hb:PW X (.BoolOp .Or (b::d4) pos) tB'):PW X (.BoolOp .Or (a::b::d4) pos) (LU tA tB'):=by
 intro wh pins s σ H Q I h;refine isTrue_or (aP (ha pins s σ H _ I h) λc s1 ⟨H1,I1,q1⟩=>?_);cases c with
 | true=>exact⟨H1,I1,q1⟩
 | false=>exact hb wh pins s1 σ H1 Q I1 q1
theorem cv(ha:PT X a tA):PT X (.UnaryOp .Not a pos) (RT tA):=by
 intro pins s σ H Q I h;exact isTrue_not (ha pins s σ H (λc H1=>Q (!c) H1) I h)
def MA(ta tb:TE):TE:=λσ H Q=>ta σ H λx H1=>∃c,x=.bl c/\if c=true then tb σ H1 Q else Q (.bl false) H1
def Ox(ta:TE):TE:=λσ H Q=>ta σ H λx H1=>∃c,x=.bl c/\Q (.bl (!c)) H1
theorem jg{op}{t:TE}(h:PE X a t):PE X (.BoolOp op [a] pos) t:=λpins s σ H Q I hw=>BoolOp_one (h pins s σ H Q I hw)
theorem fJ(ha:PE X a ta)(hb:PE X (.BoolOp .And (b::d4) pos) tb):PE X (.BoolOp .And (a::b::d4) pos) (MA ta tb):=by
 intro pins s σ H Q I h;refine BoolOp_and (aP (ha pins s σ H _ I h) λv s1 ⟨x,H1,I1,r1,q1⟩=>?_);obtain⟨c,rfl,q1⟩:=q1;cases r1;refine Wy ?_;cases c with
 | true=>exact hb pins s1 σ H1 Q I1 q1
 | false=>exact⟨.bl false,H1,I1,rfl,q1⟩
theorem m8(ha:PE X a ta):PE X (.UnaryOp .Not a pos) (Ox ta):=by
 intro pins s σ H Q I h;refine UnaryOp_ (aP (ha pins s σ H _ I h) λv s1 ⟨x,H1,I1,r1,q1⟩=>?_);obtain⟨c,rfl,q1⟩:=q1;cases r1;exact not_of (Wy ⟨.bl (!c),H1,I1,rfl,q1⟩)
def SS(t:TT)(ta tb:TE):TE:=λσ H Q=>t σ H λc H1=>if c=true then ta σ H1 Q else tb σ H1 Q
theorem q_{c:Expr}(hc:PT X c tA)(ha:PE X a ta)(hb:PE X b tb):PE X (.IfExp c a b pos) (SS tA ta tb):=by
 intro pins s σ H Q I h;refine wpAny_IfExp (aP (hc pins s σ H _ I h) λd s1 ⟨H1,I1,q1⟩=>?_);cases d with
 | true=>exact ha pins s1 σ H1 Q I1 q1
 | false=>exact hb pins s1 σ H1 Q I1 q1
end
def aE(K:wa)(H:Hp)(a:we)(xs:List V):Prop :=
 Rd H a (.lst xs) \/
  ∃(o:Obj)(its:Array wf)(n:Nat),K.lookup a=some o/\o.cls=.type "list"/\o.dict=none/\o.data=.seq its n/\its.size<=wY/\aS xs its.toList
def aT(K:wa)(H:Hp)(a:we)(xs:List V):Prop :=
 Rd H a (.tup xs) \/
  ∃(o:Obj)(its:Array wf)(n:Nat),K.lookup a=some o/\o.cls=.type "tuple"/\o.data=.seq its n/\its.size<=wY/\aS xs its.toList
def Z5:wf->Option V
 | .none=>some .bM
 | .bool b=>some (.bl b)
 | .int i _=>some (.int i)
 | .str x _=>some (.str x)
 | .bytes b _=>some (.byt b)
 | .float b _=>some (.flt b)
 | .ref a=>some (.ref a)
 | .type n=>some (.ty n)
 | _=>none
theorem aZ.abs{x:V}{u:wf}(r:aZ x u):Z5 u=some x:=by
 cases x with
 | bM=>cases r;rfl
 | bl _=>cases r;rfl
 | int _=>obtain⟨t,rfl⟩:=r;rfl
 | str _=>obtain⟨t,rfl⟩:=r;rfl
 | byt _=>obtain⟨t,rfl⟩:=r;rfl
 | flt _=>obtain⟨t,rfl⟩:=r;rfl
 | ref _=>cases r;rfl
 | ty _=>cases r;rfl
theorem aZ.inj{x y:V}{u:wf}(r:aZ x u)(q:aZ y u):x=y:=wZ (r.abs.symm.trans q.abs)
theorem aS.inj:∀{xs ys:List V}{us:List wf},aS xs us->aS ys us->xs=ys
 | _,_,_,.nil,.nil=>rfl
 | _,_,_,.cons r t,.cons r' t'=>by rw[r.inj r',aS.inj t t']
section
variable{X:Cx}{pins:List (we × Obj)}{σ : St}{H:Hp}{s:wm}{a:we}{xs ys:List V}
theorem aE.of{K:wa}(h:H a=some (.lst xs)):aE K H a xs:=.inl (.inl h)
theorem aT.of{K:wa}(h:H a=some (.tup xs)):aT K H a xs:=.inl (.inl h)
theorem Inv.list(I:Inv X pins σ H s)(h:aE X.K H a xs):∃its:List wf,aS xs its/\PlainL s.heap a its.toArray/\xs.length<=wY:=by
 rcases h with h | ⟨o,its,n,hk,hc,hd,hs,hz,r⟩
 ·obtain⟨z,its,n,r,e⟩:=h.ok I.aM
  exact⟨its,r,⟨_,n,e,rfl,rfl,rfl⟩,z⟩
 ·refine⟨its.toList,r,⟨o,n,I.dW a o hk,hc,hd,by simpa using hs⟩,?_⟩
  have e:=r.length;simp only[W7]at e
  lia
theorem Inv.tuple(I:Inv X pins σ H s)(h:aT X.K H a xs):∃its:List wf,aS xs its/\IsTup s.heap a its.toArray/\xs.length<=wY:=by
 rcases h with h | ⟨o,its,n,hk,hc,hs,hz,r⟩
 ·obtain⟨z,its,r,p⟩:=h.ok I.aM
  exact⟨its,r,p,z⟩
 ·refine⟨its.toList,r,⟨o,I.dW a o hk,hc,n,by simpa using hs⟩,?_⟩
  have e:=r.length;simp only[W7]at e
  lia
theorem Inv.Be(I:Inv X pins σ H s)(h:aE X.K H a xs)(h':aE X.K H a ys):xs=ys:=by
 obtain⟨its,r,⟨o,n,e,_,_,d⟩,_⟩:=I.list h;obtain⟨its',r',⟨o',n',e',_,_,d'⟩,_⟩:=I.list h';rw[e]at e';cases e';rw[d]at d'
 injection d' with d1 _
 have:its=its':=by simpa using congrArg uA d1
 subst this;exact r.inj r'
theorem Inv.Bb(I:Inv X pins σ H s)(h:aT X.K H a xs)(h':aT X.K H a ys):xs=ys:=by
 obtain⟨its,r,⟨o,e,_,n,d⟩,_⟩:=I.tuple h;obtain⟨its',r',⟨o',e',_,n',d'⟩,_⟩:=I.tuple h';rw[e]at e';cases e';rw[d]at d'
 injection d' with d1 _
 have:its=its':=by simpa using congrArg uA d1
 subst this;exact r.inj r'
end
abbrev Cx.jA(X:Cx)(E:wf->wm->Prop):Cx:={X with xe:=E}
abbrev Cx.ze(X:Cx):Cx:=X.jA λ_ _=>False
theorem Cx.Ok.jA{X:Cx}(ok:X.Ok)(E:wf->wm->Prop):(X.jA E).Ok :=
 ⟨ok.mod,ok.kind,ok.glob,ok.blt,ok.above,ok.inj,ok.has,ok.k8,ok.hd,ok.frames,ok.mP,ok.rB,ok.bs,ok.jx,ok.kR,ok.mj,ok.fk,ok.jG⟩
theorem Cx.Ok.kN{X:Cx}{E:wf->wm->Prop}(ok:(X.jA E).Ok):X.Ok :=
 ⟨ok.mod,ok.kind,ok.glob,ok.blt,ok.above,ok.inj,ok.has,ok.k8,ok.hd,ok.frames,ok.mP,ok.rB,ok.bs,ok.jx,ok.kR,ok.mj,ok.fk,ok.jG⟩
section
variable{X:Cx}{pins:List (we × Obj)}{σ : St}{H:Hp}{s:wm}{E:wf->wm->Prop}
theorem Inv.jA(I:Inv X pins σ H s)(E:wf->wm->Prop):Inv (X.jA E) pins σ H s:=⟨I.ok.jA E,I.os,I.bare,I.base,I.loc,I.cell,I.free,I.gj,I.pin,I.aM,I.len⟩
theorem Inv.kN(I:Inv (X.jA E) pins σ H s):Inv X pins σ H s:=⟨I.ok.kN,I.os,I.bare,I.base,I.loc,I.cell,I.free,I.gj,I.pin,I.aM,I.len⟩
theorem SP.kN{D:cR}{f:Flow}{s':wm}(h:SP (X.jA E) pins D f s'):SP X pins D f s':=by
 cases f with
 | next=>obtain⟨σ',H',I,q⟩:=h;exact⟨σ',H',I.kN,q⟩
 | brk=>obtain⟨σ',H',I,q⟩:=h;exact⟨σ',H',I.kN,q⟩
 | cont=>obtain⟨σ',H',I,q⟩:=h;exact⟨σ',H',I.kN,q⟩
 | ret u=>obtain⟨v,σ',H',I,r,q⟩:=h;exact⟨v,σ',H',I.kN,r,q⟩
theorem fE.ze{st:List wW}{t:TS}(h:fE X.ze st t):fE X st t:=λpins s σ H D I hw =>
 WE (h pins s σ H D (I.jA _) hw) (λ_ _ q=>q.kN) λ_ _ z=>WS z
end
section
variable{X:Cx}{st:wW}{d4:List wW}{t u:TS}{e:Expr}{te:TE}{pos:Pos}
def PM:TS:=λD σ H=>D.nx σ H
def BC(t u:TS):TS:=λD σ H=>t {D with nx:=u D} σ H
theorem aX:fE X [] PM:=λ_ _ σ H _ I h=>qq ⟨σ,H,I,h⟩
theorem ai(h1:PS X st t)(h2:fE X d4 u):fE X (st::d4) (BC t u):=by
 intro pins s σ H D I h;refine wpAny_execs_cons (aP (h1 pins s σ H {D with nx:=u D} I h) λf s1 q=>?_);cases f with
 | next =>
  obtain⟨σ',H',I',q⟩:=q;exact h2 pins s1 σ' H' D I' q
 | ret v=>exact q
 | brk=>exact q
 | cont=>exact q
theorem av(h1:PS X st t):fE X [st] t:=by
 intro pins s σ H D I h;refine wpAny_execs_cons (aP (h1 pins s σ H D I h) λf s1 q=>?_);cases f with
 | next=>exact qq q
 | ret v=>exact q
 | brk=>exact q
 | cont=>exact q
theorem Inv.quiet{pins:List (we × Obj)}{σ : St}{H:Hp}{s:wm}(I:Inv X pins σ H s):interactive X.env=false:=by simp[interactive,I.ok.kind]
def Sy(te:TE):TS:=λD σ H=>te σ H λ_ H1=>D.nx σ H1
theorem jq(he:PE X e te)(hs:swapsWith e none pos.line X.env=pure false:=by rfl):PS X (.Expr e pos) (Sy te):=by
 intro pins s σ H D I h;exact wpAny_Expr_any (aP (he pins s σ H _ I h) λv s1 ⟨x,H1,I1,r1,q1⟩=>⟨σ,H1,I1,q1⟩) I.quiet hs
def Ot(te:TE):TS:=λD σ H=>te σ H D.rt
theorem aA(he:PE X e te):PS X (.Return (some e) pos) (Ot te):=by
 intro pins s σ H D I h;exact wpAny_Return_some (aP (he pins s σ H _ I h) λv s1 ⟨x,H1,I1,r1,q1⟩=>⟨x,σ,H1,I1,r1,q1⟩)
def Ld(c:TT)(t u:TS):TS:=λD σ H=>c σ H λb H1=>if b=true then t D σ H1 else u D σ H1
theorem aV{c:Expr}{a b:List wW}{tc:TT}(hc:PT X c tc)(ha:fE X a t)(hb:fE X b u):PS X (.If c a b pos) (Ld tc t u):=by
 intro pins s σ H D I h;refine wpAny_If (aP (hc pins s σ H _ I h) λd s1 ⟨H1,I1,q1⟩=>?_);cases d with
 | true=>exact ha pins s1 σ H1 D I1 q1
 | false=>exact hb pins s1 σ H1 D I1 q1
def zCR:TS:=λ_ _ _=>False
theorem DJ:PS X st zCR:=λ_ _ _ _ _ _ h=>h.elim
end
abbrev TG:=V->St->Hp->(St->Hp->Prop)->Prop
abbrev kj:=List V->St->Hp->(St->Hp->Prop)->Prop
def PG(X:Cx)(target:Expr)(t:TG):Prop :=
 ∀(pins:List (we × Obj))(s:wm)(σ : St)(H:Hp)(v:V)(u:wf)(Q:St->Hp->Prop),Inv X pins σ H s->aZ v u->t v σ H Q ->
  wt (model X.prog X.w) X.A (assign target X.env u) (λ_ s'=>∃σ' H',Inv X pins σ' H' s'/\Q σ' H') X.xe s
def Ac(X:Cx)(ts:List Expr)(t:kj):Prop :=
 ∀(pins:List (we × Obj))(s:wm)(σ : St)(H:Hp)(vs:List V)(us:List wf)(Q:St->Hp->Prop),Inv X pins σ H s->aS vs us->t vs σ H Q ->
  wt (model X.prog X.w) X.A (assignInOrder ((assignEach ts X.env).map (·.2)) us) (λ_ s'=>∃σ' H',Inv X pins σ' H' s'/\Q σ' H') X.xe s
abbrev tU:=V->V->V->Hp->(Hp->Prop)->Prop
def NV(X:Cx)(t:tU):Prop :=
 ∀(pins:List (we × Obj))(s:wm)(σ : St)(H:Hp)(o i v:V)(ov iv u:wf)(Q:Hp->Prop),Inv X pins σ H s->aZ o ov->aZ i iv->aZ v u->t o i v H Q ->
  wt (model X.prog X.w) X.A (setItem ov iv u) (λ_ s'=>∃H',Inv X pins σ H' s'/\Q H') X.xe s
abbrev rl:=V->V->Hp->VK->Prop
def UR(X:Cx)(op:Operator)(t:rl):Prop :=
 ∀(pins:List (we × Obj))(s:wm)(σ : St)(H:Hp)(x y:V)(v u:wf)(Q:VK),Inv X pins σ H s->aZ x v->aZ y u->t x y H Q ->
  wt (model X.prog X.w) X.A (inplaceOp op v u) (EP X pins σ Q) X.xe s
section
variable{X:Cx}{pos:Pos}
variable{i:Nat}{x:Str}{e:Expr}{te:TE}{pos':Pos}
def gY(i:Nat):TG:=λv σ H Q=>Q (σ.set i (some v)) H
theorem cT(hN:X.N.Nodup)(hi:X.N[i]? = some x)(hx:Loc X.env.scope x)(hf:X.fn x=true\/X.env.scope.names.lookup x=some .local:=by first | exact .inl rfl | exact .inr rfl | assumption):PG X (.Name x pos) (gY i):=by
 intro pins s σ H v u Q I r h;exact wpAny_assign_Name (rW I hN hi hx r (λs' I'=>⟨_,H,I',h⟩) hf)
def Up:kj:=λvs σ H Q=>vs=[]/\Q σ H
def OY(t:TG)(u:kj):kj:=λvs σ H Q=>∃v r,vs=v::r/\t v σ H λσ' H'=>u r σ' H' Q
theorem jm :Ac X [] Up:=by
 intro pins s σ H vs us Q I r h;obtain⟨e,h⟩:=h;subst e;cases r;exact assignInOrder_nil ⟨σ,H,I,h⟩
theorem dU{es:List Expr}{t:TG}{u:kj}(h1:PG X e t)(h2:Ac X es u)
  (hs:(assignEach (e::es) X.env).map (·.2)=assign e X.env::(assignEach es X.env).map (·.2):=by rfl):Ac X (e::es) (OY t u):=by
 intro pins s σ H vs us Q I r h;obtain⟨v,vr,e1,h⟩:=h;subst e1;cases r with
 | cons r rr =>
  rw[hs];refine assignInOrder_cons (aP (h1 pins s σ H _ _ _ I r h) λ_ s1 ⟨σ1,H1,I1,q1⟩=>?_);exact h2 pins s1 σ1 H1 _ _ Q I1 rr q1
def lO(K:wa)(n:Nat)(t:kj):TG:=λv σ H Q=>∃a xs,v=.ref a/\aT K H a xs/\xs.length=n/\t xs σ H Q
theorem i_{es:List Expr}{k:Nat}{t:kj}{n:Nat}(hc:X.calm=true)(h:Ac X es t)
  (hn:(assignEach es X.env).length=n:=by rfl) (hst:(assignEach es X.env).findIdx? (·.1)=none:=by rfl):PG X (.Tuple es k pos) (lO X.K n t):=by
 intro pins s σ H v u Q I r hw;obtain⟨a,xs,e1,hq,hl,hw⟩:=hw;subst e1;cases r;obtain⟨its,rv,ht,hz⟩:=I.tuple hq;refine assign_Tuple_tuple (I.ok.hd hc) ht (by simp[hn,<- hl,rv.length]) hst λh' hx=>?_
 have I1:Inv X pins σ H {s with heap:=h'}:=I.kept (t':=s.toks) λb o e=>hx b o (wQ (wC e)) e
 exact h pins _ σ H xs _ Q I1 (by simpa using rv) hw
def Pz(to ti:TE)(t:tU):TG:=λv σ H Q=>to σ H λo H1=>ti σ H1 λi H2=>t o i v H2 λH3=>Q σ H3
theorem mW{o i:Expr}{to ti:TE}{t:tU}(ho:PE X o to)(hi:PE X i ti)(hs:NV X t)
  (ha:∀v,assign (.Subscript o i pos) X.env v=(do
   let ov <- holding [v] (eval o X.env)
   let iv <- holding [v,ov] (eval i X.env)
   standAt pos
   holding [v,ov,iv] (setItem ov iv v)
   release [v,ov,iv] []):=by intro _;rfl):PG X (.Subscript o i pos) (Pz to ti t):=by
 intro pins s σ H v u Q I r h;rw[ha];refine wg (WU (aP (ho pins s σ H _ I h) λov s1 ⟨x,H1,I1,r1,q1⟩=>?_));refine wg (WU (aP (hi pins s1 σ H1 _ I1 q1) λiv s2 ⟨y,H2,I2,r2,q2⟩=>?_));refine wg (wpAny_standAt (wg (WU (aP (hs pins s2 σ H2 x y v ov iv u _ I2 r1 r2 r q2) λ_ s3 ⟨H3,I3,q3⟩=>?_))));exact wpAny_release ⟨σ,H3,I3,q3⟩
def kq(te:TE)(g:TG):TS:=λD σ H=>te σ H λx H1=>g x σ H1 D.nx
theorem ju{tg:Expr}{g:TG}(he:PE X e te)(hg:PG X tg g)(hs:swapsWithSole [tg] e pos.line X.env=pure false:=by rfl)(hw:swappedStores [tg] e X.env=pure none:=by rfl)
  (h1:(assignEach [tg] X.env).map (·.2)=[assign tg X.env]:=by rfl):PS X (.Assign [tg] e pos) (kq te g):=by
 intro pins s σ H D I h;refine wpAny_Assign_stores (aP (he pins s σ H _ I h) λv s1 ⟨x,H1,I1,r1,q1⟩=>?_) hs hw;rw[h1];exact aP (hg pins s1 σ H1 x v _ I1 r1 q1) λ_ s2 q=>q
theorem zC5(hN:X.N.Nodup)(hi:X.N[i]? = some x)(hx:Loc X.env.scope x)(he:PE X e te)(hs:swapsWith e (some (.Name x pos')) pos.line X.env=pure false:=by rfl)(hf:X.fn x=true\/X.env.scope.names.lookup x=some .local:=by first | exact .inl rfl | exact .inr rfl | assumption) :
  PS X (.Assign [.Name x pos'] e pos) (kq te (gY i)):=by
 intro pins s σ H D I h;refine wpAny_Assign_Name (aP (he pins s σ H _ I h) λv s1 ⟨y,H1,I1,r1,q1⟩=>?_) hs;exact rW I1 hN hi hx r1 (λs2 I2=>⟨_,H1,I2,q1⟩) hf
def Mp(i j:Nat)(ta:TA):TS:=λD σ H=>ta σ H λvs H1=>∃v w,vs=[v,w]/\D.nx ((σ.set i (some v)).set j (some w)) H1
theorem zDe{j:Nat}{y:Str}{a b:Expr}{ta:TA}{px py pt:Pos}{kt k2 pt2}(hc:X.calm=true)(hN:X.N.Nodup)(hi:X.N[i]? = some x)(hj:X.N[j]? = some y)(hij:i≠j)
  (hx:X.env.scope.names.lookup x=some .local) (hy:X.env.scope.names.lookup y=some .local) (ha:PA X [a,b] ta)
  (hw:swappedStores [.Tuple [.Name x px,.Name y py] kt pt] (.Tuple [a,b] k2 pt2) X.env=pure (some [x,y]))
  (hs:swapsWithSole [.Tuple [.Name x px,.Name y py] kt pt] (.Tuple [a,b] k2 pt2) pos.line X.env=pure false:=by rfl) :
  PS X (.Assign [.Tuple [.Name x px,.Name y py] kt pt] (.Tuple [a,b] k2 pt2) pos) (Mp i j ta):=by
 intro pins s σ H D I h;rw[exec_Assign_arm];refine wg (wpAny_standAt ?_);rw[hs];refine wg (wy ?_);rw[if_neg (by decide)];refine wg (Tuple_ (aP (ha _ pins s σ H _ I h) λus s1 ⟨vs,H1,I1,r1,q1⟩=>?_));obtain⟨v,w,e1,q1⟩:=q1;subst e1
 obtain⟨u1,u2,rfl,rv,rw'⟩:∃u1 u2,us=[u1,u2]/\aZ v u1/\aZ w u2:=by
  cases r1 with
  | cons p q =>
   cases q with
   | cons p' q' =>
    cases q';exact⟨_,_,rfl,p,p'⟩
 refine WH ?_ (by show 2<=wY;decide);have I2:Inv X pins σ H1 {s1 with heap:=s1.heap.push {cls:=.type "tuple",data:=.seq [u1,u2].toArray}}:=I1.kept (t':=s1.toks) λb o e=>wn _ e
 rw[hw];refine wg (wy ?_)
 show wt (model X.prog X.w) X.A (do rule "assign.swapped-stores";let items <- unpackItems (.ref s1.heap.objs.size) 2 none;assignInOrder [λv=>bindName X.env y v,λv=>bindName X.env x v] items.reverse;pure Flow.next) _ _ _
 refine wg (wpAny_rule (wg (unpackItems_tuple (items:=#[u1,u2]) (I.ok.hd hc) (qX s1.heap _) λh' hx'=>?_)));have I3:=I2.kept (h':=h') (t':=s1.toks) λb o e=>hx' b o (wQ (wC e)) e
 show wt _ _ (assignInOrder [λv=>bindName X.env y v,λv=>bindName X.env x v] [u2,u1] >>= λ_=>pure Flow.next) _ _ _
 refine wg (assignInOrder_cons (wpAny_bindName (rW I3 hN hj (.inl hy) rw' (λs2 I4=>?_) (.inr hy))));refine assignInOrder_cons (wpAny_bindName (rW I4 hN hi (.inl hx) rv (λs3 I5=>assignInOrder_nil (wy ?_)) (.inr hx)));rw[List.set_comm _ _ (WB hij)]at I5;exact⟨_,H1,I5,q1⟩
def RJ(i:Nat)(te:TE)(ti:rl):TS:=λD σ H=>∃x,σ[i]? = some (some x)/\te σ H λy H1=>ti x y H1 λz H2=>D.nx (σ.set i (some z)) H2
theorem zCA{op:Operator}{ti:rl}(hN:X.N.Nodup)(hi:X.N[i]? = some x)(hx:Loc X.env.scope x)(he:PE X e te)(ho:UR X op ti)(hf:X.fn x=true\/X.env.scope.names.lookup x=some .local:=by first | exact .inl rfl | exact .inr rfl | assumption) :
  PS X (.AugAssign (.Name x pos') op e pos) (RJ i te ti):=by
 intro pins s σ H D I h;obtain⟨v,e1,h⟩:=h;obtain⟨m,hn,hl⟩:=I.loc;have Gs:rG X.env.scope x:=by rcases hx with k | k;exact .inl k;exact .inr (.inl k)
 obtain⟨u,r,l⟩:=hl i x v hi e1 Gs;refine wpAny_AugAssign_Name ?_
 have go:wt (model X.prog X.w) X.A (eval e X.env) (λw s₂=>wt (model X.prog X.w) X.A (inplaceOp op u w) (λr s₃=>wt (model X.prog X.w) X.A (storeName X.env x r) (λ_=>SP X pins D .next) X.xe s₃) X.xe s₂) X.xe s:=by
  refine aP (he pins s σ H _ I h) λw s1 ⟨y,H1,I1,r1,q1⟩=>?_
  refine aP (ho pins s1 σ H1 v y u w _ I1 r r1 q1) λz s2 ⟨zv,H2,I2,r2,q2⟩=>?_
  exact rW I2 hN hi hx r2 (λs3 I3=>⟨_,H2,I3,q2⟩) hf
 rcases l with⟨hk,hm⟩ | ⟨hk,c,hc,hcell⟩
 ·exact wpAny_loadName_local I.ok.kind hk hn hm go
 ·rcases hk with hk | hk
  ·exact wpAny_loadName_cell I.ok.kind hk hc hcell go
  ·rcases hx with k | k
   ·have:X.env.scope.names.lookup x=some .free:=hk
    rw[k]at this;cases this
   ·have:X.env.scope.names.lookup x=some .free:=hk
    rw[k]at this;cases this
def Tc(f:Int->Int->Int):rl:=λx y H Q=>∃i j,x=.int i/\y=.int j/\Q (.int (f i j)) H
theorem zDC :UR X .Add (Tc λi j=>i+j):=by
 intro pins s σ H x y v u Q I r1 r2 h;obtain⟨i,j,e1,e2,q⟩:=h;subst e1;subst e2;obtain⟨t,rfl⟩:=r1;obtain⟨t',rfl⟩:=r2;exact iadd_int ⟨.int _,H,I.tok _,⟨_,rfl⟩,q⟩
end
section
variable{X:Cx}{pos:Pos}
def DW(c:TT)(tb:TS):TS:=λD σ H=>∃W:Nat->St->Hp->Prop,(∃m,W m σ H) /\ ∀m σ H,W m σ H ->
 c σ H λb H1=>if b=true then ∃N:St->Hp->Prop,(∀σ' H',N σ' H'->∃m',m'<m/\W m' σ' H')/\tb {D with nx:=N,ct:=N,bk:=D.nx} σ H1 else D.nx σ H1
theorem lD{c:Expr}{body:List wW}{tc:TT}{tb:TS}(hp:PassesOwn (model X.prog X.w) X.A X.env X.xe)(hc:PT X c tc)(hb:fE X body tb):PS X (.While c body [] pos) (DW tc tb):=by
 intro pins s σ H D I h;obtain⟨W,⟨m0,w0⟩,turn⟩:=h;refine wpAny_While (codeAny_whileLoop (λn s'=>∃σ' H',Inv X pins σ' H' s'/\W n σ' H') ?_ m0 ⟨σ,H,I,w0⟩);rintro n s1 ⟨σ1,H1,I1,w1⟩;refine Vq hp (aP (hc pins s1 σ1 H1 _ I1 (turn n σ1 H1 w1)) λb s2 ⟨H2,I2,q2⟩=>?_);cases b with
 | true =>
  obtain⟨N,hN,q2⟩:=q2;rw[if_pos rfl];refine Vq hp (aP (hb pins s2 σ1 H2 _ I2 q2) λf s3 q3=>?_);cases f with
  | next =>
   obtain⟨σ3,H3,I3,n3⟩:=q3;obtain⟨m',hm,w3⟩:=hN σ3 H3 n3;exact⟨m',hm,σ3,H3,I3,w3⟩
  | cont =>
   obtain⟨σ3,H3,I3,n3⟩:=q3;obtain⟨m',hm,w3⟩:=hN σ3 H3 n3;exact⟨m',hm,σ3,H3,I3,w3⟩
  | brk=>exact q3
  | ret v=>exact q3
 | false =>
  rw[if_neg vC];exact qq ⟨σ1,H2,I2,q2⟩
end
variable{tg:Expr}{P:wH}{w:wM}{K:wa}
structure It where
 go:Nat->Hp->Prop
 fD:Nat->Hp->V->Hp->Prop
 stop:Nat->Hp->Prop
def eS(X:Cx)(pins:List (we × Obj))(H:Hp)(b:we):Prop :=
 H b=none/\b≠X.env.locals/\b ∉ X.fs/\(b∈X.ex\/X.s₀.heap.objs.size<=b)/\(∀x c,X.env.cells.lookup x=some c->c≠b) /\ ∀p∈X.pn++pins,p.1≠b
theorem Inv.kc{X:Cx}{pins:List (we × Obj)}{σ : St}{H H':Hp}{s:wm}{b:we}(I:Inv X pins σ H s)(hb:s.heap.objs.size<=b)(hn:H' b=none):eS X pins H' b:=by
 refine⟨hn,vg (wT I.lt hb),I.Y3 hb,.inr (Wf I.sz hb),λx c e z=>?_,λp hp z=>?_⟩
 ·obtain⟨v,q⟩:=I.cell x c e
  exact absurd (wT q.lt (by rw[z];exact hb)) (W3 _)
 ·exact absurd (wT (wC (I.pin p hp).1) (by rw[z];exact hb)) (W3 _)
structure jL(P:wH)(w:wM)(K:wa)(tg:Expr)(J:It)(fp:List we)(it:we)(tn:Nat->wJ->Prop):Prop where
 mem:it∈fp
 obj:∀i h,tn i h->∀b∈fp,∃o,h.get? b=some o /\ ∀v,o.data≠.cell v
 keep:∀i h h',tn i h->(∀b∈fp,∀o,h.get? b=some o->h'.get? b=some o)->tn i h'
 item:∀(X:Cx),X.prog=P->X.w=w->X.K=K->X.calm=true->∀(i:Nat)(pins:List (we × Obj))(s:wm)(σ : St)(H:Hp)(E:wf->wm->Prop),Inv X pins σ H s->(∀b∈fp,eS X pins H b)->tn i s.heap->J.go i H ->
   wt (model P w) X.A (pyNext (.ref it)) (λr s1=>∃u,r=some u /\
     wt (model P w) X.A (qr tg (.ref it) u) (λ_ s2=>∃x H',Inv X pins σ H' s2/\aZ x u/\J.fD i H x H'/\tn (i+1) s2.heap /\ ∀b∈fp,H' b=none) E s1) E s
 done:∀(X:Cx),X.prog=P->X.w=w->X.K=K->X.calm=true->∀(i:Nat)(pins:List (we × Obj))(s:wm)(σ : St)(H:Hp)(E:wf->wm->Prop),Inv X pins σ H s->(∀b∈fp,eS X pins H b)->tn i s.heap->J.stop i H ->
   wt (model P w) X.A (pyNext (.ref it)) (λr s1=>r=none/\Inv X pins σ H s1) E s
 self:∀(A:w9)(i:Nat)(s:wm)(Q:wf->wm->Prop)(E:wf->wm->Prop),tn i s.heap->Q (.ref it) s->wt (model P w) A (pyIter (.ref it)) Q E s
abbrev TI:=St->Hp->(It->Hp->Prop)->Prop
def BF(X:Cx)(pins:List (we × Obj))(σ : St)(tg:Expr)(R:It->Hp->Prop)(itv:wf)(s2:wm):Prop :=
 ∃(it:we)(fp:List we)(tn:Nat->wJ->Prop)(J:It)(H':Hp),itv=.ref it/\Inv X pins σ H' s2/\jL X.prog X.w X.K tg J fp it tn/\tn 0 s2.heap/\(∀b∈fp,eS X pins H' b)/\R J H'
def PI(X:Cx)(tg iter:Expr)(wi:TI):Prop :=
 ∀(pins:List (we × Obj))(s:wm)(σ : St)(H:Hp)(R:It->Hp->Prop),Inv X pins σ H s->wi σ H R ->
  wt (model X.prog X.w) X.A (eval iter X.env) (λv s1=>wt (model X.prog X.w) X.A (pyIter v) (BF X pins σ tg R) X.xe s1) X.xe s
theorem EF{M:Model}{A:w9}{E:wf->wm->Prop}{s:wm}{it:we}{u:wf}{o:Obj}{n:String}{vs:Array wf}{Q:Unit->wm->Prop}(ho:s.heap.get? it=some o)(hc:o.cls=.type n)(hd:o.data=.fields vs)
   (hn:["enumerate","zip","dict_itemiterator","dict_reverseitemiterator","odict_iterator","itertools.zip_longest","itertools.pairwise"].contains n=false) (hQ:Q () s):wt M A (qr tg (.ref it) u) Q E s:=by
 unfold qr
 cases tg<;>first
   | exact wy hQ
   | (cases u<;>first
       | exact wy hQ
       | (refine wg (wpAny_load ho ?_)
          rw[hc,hd]
          show wt M A (if(["enumerate","zip","dict_itemiterator","dict_reverseitemiterator","odict_iterator","itertools.zip_longest","itertools.pairwise"].contains n&&vs[0]? == some (Va _))=true then _ else _) Q E s
          rw[if_neg (by intro h;rw[hn,WW]at h;cases h)];exact wy hQ))
def jI(K:wa)(a:we):It :=
 ⟨λi H=>∃xs x,aE K H a xs/\xs[i]? = some x,λi H x H'=>H'=H /\ ∀xs,aE K H a xs->xs[i]? = some x,λi H=>∃xs,aE K H a xs/\xs.length<=i⟩
def j8(K:wa)(a:we):It :=
 ⟨λi H=>∃xs x,aT K H a xs/\xs[i]? = some x,λi H x H'=>H'=H /\ ∀xs,aT K H a xs->xs[i]? = some x,λi H=>∃xs,aT K H a xs/\xs.length<=i⟩
def gI(lo:Int)(n:Nat):It:=⟨λi _=>i<n,λi H x H'=>H'=H/\x=.int (lo+i),λi _=>n<=i⟩
theorem Rx(a it:we):jL P w K tg (jI K a) [it] it (λi h=>h.IsListIter it a i) where
 mem:=by simp
 obj:=λi h st b hb=>by
  have e:b=it:=by simpa using hb
  subst e;obtain⟨o,e,c,d⟩:=st;exact⟨o,e,λv z=>by rw[d]at z;cases z⟩
 keep:=λi h h' st k=>st.at λo e=>k it (by simp) o e
 item:=by
  intro X hP hw hK hc i pins s σ H E I hf st hg;subst hP hw hK;obtain⟨xs,x,hq,hx⟩:=hg;obtain⟨its,rv,p,hz⟩:=I.list hq;obtain⟨u,hu,ru⟩:=rv.get hx;obtain⟨f0,f1,f2,f3,f4,f5⟩:=hf it (by simp);refine wpAny_pyNext_list_item st p.isList (x:=u) (by simpa using hu) λh' st' sb=>?_
  have I1:Inv X pins σ H {s with heap:=h'}:=I.turned (t':=s.toks) (λb o hb e=>(sb.2 b hb).trans e) f0 f1 f3 f4 f5;obtain⟨o,e,c,d⟩:=id st';exact⟨u,rfl,EF (s:={s with heap:=h'}) e c d (by decide) ⟨x,H,I1,ru,⟨rfl,λys hy=>by rw[I.Be hy hq];exact hx⟩,st',λb hb=>(hf b hb).1⟩⟩
 done:=by
  intro X hP hw hK hc i pins s σ H E I hf st hg;subst hP hw hK;obtain⟨xs,hq,hx⟩:=hg;obtain⟨its,rv,p,hz⟩:=I.list hq;obtain⟨f0,f1,f2,f3,f4,f5⟩:=hf it (by simp);have hl:=rv.length;exact wpAny_pyNext_list_end (I.ok.hd hc) st p.isList (by simp;lia) λh' eb=>⟨rfl,I.turned (t':=s.toks) (λb o hb e=>eb b o hb e) f0 f1 f3 f4 f5⟩
 self:=λ_ _ _ _ _ st h=>wpAny_pyIter_listiter st h
theorem ME(a it:we):jL P w K tg (j8 K a) [it] it (λi h=>h.IsTupleIter it a i) where
 mem:=by simp
 obj:=λi h st b hb=>by
  have e:b=it:=by simpa using hb
  subst e;obtain⟨o,e,c,d⟩:=st;exact⟨o,e,λv z=>by rw[d]at z;cases z⟩
 keep:=λi h h' st k=>st.at λo e=>k it (by simp) o e
 item:=by
  intro X hP hw hK hc i pins s σ H E I hf st hg;subst hP hw hK;obtain⟨xs,x,hq,hx⟩:=hg;obtain⟨its,rv,p,hz⟩:=I.tuple hq;obtain⟨u,hu,ru⟩:=rv.get hx;obtain⟨f0,f1,f2,f3,f4,f5⟩:=hf it (by simp);refine wpAny_pyNext_tuple_item st (show s.heap.IsTuple a its.toArray from p) (x:=u) (by simpa using hu) λh' st' sb=>?_
  have I1:Inv X pins σ H {s with heap:=h'}:=I.turned (t':=s.toks) (λb o hb e=>(sb.2 b hb).trans e) f0 f1 f3 f4 f5;obtain⟨o,e,c,d⟩:=id st';exact⟨u,rfl,EF (s:={s with heap:=h'}) e c d (by decide) ⟨x,H,I1,ru,⟨rfl,λys hy=>by rw[I.Bb hy hq];exact hx⟩,st',λb hb=>(hf b hb).1⟩⟩
 done:=by
  intro X hP hw hK hc i pins s σ H E I hf st hg;subst hP hw hK;obtain⟨xs,hq,hx⟩:=hg;obtain⟨its,rv,p,hz⟩:=I.tuple hq;obtain⟨f0,f1,f2,f3,f4,f5⟩:=hf it (by simp);have hl:=rv.length;exact wpAny_pyNext_tuple_end (I.ok.hd hc) st (show s.heap.IsTuple a its.toArray from p) (by simp;lia) λh' eb=>⟨rfl,I.turned (t':=s.toks) (λb o hb e=>eb b o hb e) f0 f1 f3 f4 f5⟩
 self:=λ_ _ _ _ _ st h=>wpAny_pyIter_tupleiter st h
theorem zuN(it:we)(lo:Int)(n:Nat):jL P w K tg (gI lo n) [it] it (λi h=>IsRangeIter h it (lo+(i:Nat)*1) ((n:Int)-(i:Nat)) 1) where
 mem:=by simp
 obj:=λi h st b hb=>by
  have e:b=it:=by simpa using hb
  subst e
  exact⟨_,st,λv z=>by
   have z':Data.fields _=Data.cell v:=z;cases z'⟩
 keep:=λi h h' st k=>k it (by simp) _ st
 item:=by
  intro X hP hw hK hc i pins s σ H E I hf st hg;subst hP hw hK;obtain⟨f0,f1,f2,f3,f4,f5⟩:=hf it (by simp);have W:=Walks.range (prog:=X.prog) (w:=X.w) (I.ok.hd hc) it lo 1 n;refine W.item i s _ _ hg st λv h' tk hv st' kk=>?_
  obtain⟨t,rfl⟩:=hv;have I1:Inv X pins σ H {s with heap:=h',toks:=tk}:=I.turned (λb o hb e=>kk b o (by simpa using hb) e) f0 f1 f3 f4 f5;refine⟨_,rfl,EF (s:={s with heap:=h',toks:=tk}) (n:="range_iterator") st' rfl rfl (by decide) ⟨.int (lo+i),H,I1,⟨t,?_⟩,⟨rfl,rfl⟩,st',λb hb=>(hf b hb).1⟩⟩;rw[qR]
 done:=by
  intro X hP hw hK hc i pins s σ H E I hf st hg;subst hP hw hK;obtain⟨f0,f1,f2,f3,f4,f5⟩:=hf it (by simp);exact wpAny_pyNext_range_end (I.ok.hd hc) st (by have:n<=i:=hg;lia) λh' eb=>⟨rfl,I.turned (t':=s.toks) (λb o hb e=>eb b o hb e) f0 f1 f3 f4 f5⟩
 self:=λ_ _ _ _ _ st h=>wpAny_pyIter_rangeiter st h
section
variable{X:Cx}{tg:Expr}
variable{σ:St}{H:Hp}{fp:List we}
def BM(K:wa)(tl:TE):TI:=λσ H R=>tl σ H λx H1=>∃a,x=.ref a/\(∃xs,aE K H1 a xs)/\R (jI K a) H1
def MX(K:wa)(tl:TE):TI:=λσ H R=>tl σ H λx H1=>∃a,x=.ref a/\(∃xs,aT K H1 a xs)/\R (j8 K a) H1
theorem eY{l:Expr}{tl:TE}(hl:PE X l tl):PI X tg l (BM X.K tl):=by
 intro pins s σ H R I h;refine aP (hl pins s σ H _ I h) λv s1 ⟨x,H1,I1,r1,q1⟩=>?_
 obtain⟨a,e,⟨xs,hq⟩,q⟩:=q1;subst e;cases r1;obtain⟨its,rv,p,hz⟩:=I1.list hq;refine V2 p.isList ?_;refine⟨s1.heap.objs.size,[s1.heap.objs.size],_,_,H1,rfl,I1.kept (t':=s1.toks) λb o e=>wn _ e,Rx a _,⟨_,wO _ rfl,rfl,rfl⟩,λb hb=>?_,q⟩;have e:b=s1.heap.objs.size:=by simpa using hb
 subst e;exact I1.kc (wp _) (I1.aM.fresh (wp _))
theorem jM{l:Expr}{tl:TE}(hl:PE X l tl):PI X tg l (MX X.K tl):=by
 intro pins s σ H R I h;refine aP (hl pins s σ H _ I h) λv s1 ⟨x,H1,I1,r1,q1⟩=>?_
 obtain⟨a,e,⟨xs,hq⟩,q⟩:=q1;subst e;cases r1;obtain⟨its,rv,p,hz⟩:=I1.tuple hq;refine Vm (show s1.heap.IsTuple a its.toArray from p) ?_;refine⟨s1.heap.objs.size,[s1.heap.objs.size],_,_,H1,rfl,I1.kept (t':=s1.toks) λb o e=>wn _ e,ME a _,⟨_,wO _ rfl,rfl,rfl⟩,λb hb=>?_,q⟩;have e:b=s1.heap.objs.size:=by simpa using hb
 subst e;exact I1.kc (wp _) (I1.aM.fresh (wp _))
theorem KS{pins:List (we × Obj)}{s:wm}{R:It->Hp->Prop}{E:wf->wm->Prop}{lo hi:Int}{t u v:Tok}{tk:Nat}(I:Inv X pins σ H s)(h1 : -(2^62)<=lo)(h2:lo<2^62)(h3 : -(2^62)<=hi)(h4:hi<2^62)
  (q:R (gI lo (hi-lo).toNat) H):wt (model X.prog X.w) X.A (pyIter (.ref s.heap.objs.size)) (BF X pins σ tg R) E {s with heap:=s.heap.push {cls:=.type "range",data:=.fields #[.int lo t,.int hi u,.int 1 v]},toks:=tk}:=by
 refine wpAny_pyIter_range (uF ..) (small_one h1 h2 h3 h4) ?_;have I1:Inv X pins σ H {s with heap:=s.heap.push {cls:=.type "range",data:=.fields #[.int lo t,.int hi u,.int 1 v]},toks:=tk}:=I.kept λb o e=>wn _ e
 refine⟨(s.heap.push {cls:=.type "range",data:=.fields #[.int lo t,.int hi u,.int 1 v]}).objs.size,[(s.heap.push {cls:=.type "range",data:=.fields #[.int lo t,.int hi u,.int 1 v]}).objs.size],_,_,H,rfl,
  I1.kept (t':=tk) λb o e=>wn _ e,zuN _ lo (hi-lo).toNat,?_,λb hb=>?_,q⟩
 ·have e1:lo+((0:Nat):Int)*1=lo:=by simp
  have e2:(((hi-lo).toNat:Nat):Int)-((0:Nat):Int)=uE lo hi 1:=by rw[rangeSize_one];split<;>lia
  show IsRangeIter _ _ (lo+((0:Nat):Int)*1) ((((hi-lo).toNat:Nat):Int)-((0:Nat):Int)) 1
  rw[e1,e2];exact wO _ rfl
 ·have e:b=(s.heap.push {cls:=.type "range",data:=.fields #[.int lo t,.int hi u,.int 1 v]}).objs.size:=by simpa using hb
  subst e;exact I1.kc (wp _) (I1.aM.fresh (wp _))
def De(ta:TA):TI:=λσ H R=>ta σ H λvs H1=>∃j:Int,vs=[.int j] /\ -(2^62)<=j/\j<2^62/\R (gI 0 j.toNat) H1
def TV(ta:TA):TI:=λσ H R=>ta σ H λvs H1=>∃i j:Int,vs=[.int i,.int j]/\(-(2^62)<=i/\i<2^62 /\ -(2^62)<=j/\j<2^62)/\R (gI i (j-i).toNat) H1
theorem fC{a:Expr}{ta:TA}{p pos:Pos}(hg:Gl X "range")(hm:X.mg "range"=none)(ha:PA X [a] ta)(hs:wS [a] X.env=[(false,eval a X.env)]:=by rfl):PI X tg (.Call (.Name "range" p) [a] [] pos) (De ta):=by
 intro pins s σ H R I h;refine Call_ (hJ I hg hm boot_range (vn (aP (ha pos pins s σ H _ I h) λus s1 ⟨vs,H1,I1,r1,q1⟩=>?_) hs rfl));obtain⟨j,e,q1,q2,q⟩:=q1;subst e;cases r1 with
 | cons r rr =>
  cases rr;obtain⟨t,rfl⟩:=r;exact call_range_1 (KS I1 (by lia) (by lia) q1 q2 (by simpa using q))
theorem zxM{a b:Expr}{ta:TA}{p pos:Pos}(hg:Gl X "range")(hm:X.mg "range"=none)(ha:PA X [a,b] ta)(hs:wS [a,b] X.env=[(false,eval a X.env),(false,eval b X.env)]:=by rfl)(hs2:wS [b] X.env=[(false,eval b X.env)]:=by rfl) :
  PI X tg (.Call (.Name "range" p) [a,b] [] pos) (TV ta):=by
 intro pins s σ H R I h;refine Call_ (hJ I hg hm boot_range (vn (aP (ha pos pins s σ H _ I h) λus s1 ⟨vs,H1,I1,r1,q1⟩=>?_) (by rw[hs,hs2]) (by rw[hs2];rfl)));obtain⟨i,j,e,⟨q1,q2,q3,q4⟩,q⟩:=q1;subst e;cases r1 with
 | cons r rr =>
  cases rr with
  | cons r' rr =>
   cases rr;obtain⟨t,rfl⟩:=r;obtain⟨t',rfl⟩:=r';exact call_range_2 (KS I1 q1 q2 q3 q4 q)
def ml(wi:TI)(g:TG)(tb:TS):TS:=λD σ H=>wi σ H λJ H1=>∃W:Nat->Nat->St->Hp->Prop,(∃m,W 0 m σ H1) /\ ∀i m σ H,W i m σ H ->
 (J.stop i H/\D.nx σ H)\/(J.go i H /\ ∃N:St->Hp->Prop,(∀σ' H',N σ' H'->∃m',m'<m/\W (i+1) m' σ' H') /\ ∀x H',J.fD i H x H'->g x σ H' λσ2 H2=>tb {D with nx:=N,ct:=N,bk:=D.nx} σ2 H2)
def sA(fp:List we)(h:wJ):List (we × Obj):=fp.filterMap λb=>(h.get? b).map λo=>(b,o)
theorem zb{h:wJ}{b:we}{o:Obj}(hb:b∈fp)(e:h.get? b=some o):(b,o)∈sA fp h:=Qt.mpr ⟨b,hb,by rw[e];rfl⟩
theorem zxt{h:wJ}{p:we × Obj}(hp:p∈sA fp h):p.1∈fp/\h.get? p.1=some p.2:=by
 obtain⟨b,hb,e⟩:=Qt.mp hp;cases q:h.get? b with
 | none=>rw[q]at e;cases e
 | some o =>
  rw[q]at e;have e':(b,o)=p:=wZ e;subst e';exact⟨hb,q⟩
theorem Inv.pinned{pins:List (we × Obj)}{s:wm}(I:Inv X pins σ H s)(hf:∀b∈fp,eS X pins H b)(ho:∀b∈fp,∃o,s.heap.get? b=some o /\ ∀v,o.data≠.cell v):Inv X (pins++sA fp s.heap) σ H s :=
 I.Kn λp hp=>(vY.mp hp).elim (λz=>I.pin p (Wg _ z)) λz=>by
  obtain⟨hb,e⟩:=zxt z;obtain⟨f0,f1,f2,_⟩:=hf p.1 hb;obtain⟨o,e',d⟩:=ho p.1 hb;rw[e]at e';cases e';exact⟨e,f0,f1,f2,d⟩
theorem Inv.sQ{pins pl:List (we × Obj)}{s:wm}(I:Inv X (pins++pl) σ H s):Inv X pins σ H s:=I.Kn λp hp=>I.pin p (Wg _ (VA _ hp))
theorem d6{iter:Expr}{body:List wW}{wi:TI}{g:TG}{tb:TS}{pos:Pos}(hp:PassesOwn (model X.prog X.w) X.A X.env X.xe)(hc:X.calm=true)(hi:PI X tg iter wi)(hg:PG X tg g)(hb:fE X body tb)
  (hs:∀x,foldedSetIterable iter X.env x=pure x:=by intro _;rfl):PS X (.For tg iter body [] pos) (ml wi g tb):=by
 intro pins s σ H D I h;refine wpAny_For (aP (hi pins s σ H _ I h) λv s1 h1=>aP h1 λitv s2 h2=>?_) hs;obtain⟨it,fp,tn,J,H2,e,I2,T,st2,f2,W,⟨m0,w0⟩,turn⟩:=h2;subst e
 have stat:∀{H':Hp},(∀b∈fp,H' b=none)->∀b∈fp,eS X pins H' b:=λhn b hb=>⟨hn b hb,(f2 b hb).2⟩
 refine codeAny_forLoop_any (λn s'=>∃i σ' H',Inv X pins σ' H' s'/\tn i s'.heap/\(∀b∈fp,H' b=none)/\W i n σ' H') ?_ m0 ⟨0,σ,H2,I2,st2,λb hb=>(f2 b hb).1,w0⟩;rintro n s3 ⟨i,σ3,H3,I3,st3,fr3,w3⟩;rcases turn i n σ3 H3 w3 with⟨stop,qn⟩ | ⟨go,N,hN,step⟩
 ·refine Vq hp (aP (T.done X rfl rfl rfl hc i pins s3 σ3 H3 X.xe I3 (stat fr3) st3 stop) λr s4 ⟨hr,I4⟩=>?_)
  subst hr;exact qq ⟨σ3,H3,I4,qn⟩
 ·refine Vq hp (aP (T.item X rfl rfl rfl hc i pins s3 σ3 H3 X.xe I3 (stat fr3) st3 go) λr s4 ⟨u,hr,h4⟩=>?_)
  subst hr;refine Vq hp (aP h4 λ_ s5 ⟨x,H5,I5,r5,y5,st5,fr5⟩=>?_);have I5':=I5.pinned (stat fr5) (T.obj _ _ st5);refine Vq hp (aP (hg _ s5 σ3 H5 x u _ I5' r5 (step x H5 y5)) λ_ s6 ⟨σ6,H6,I6,q6⟩=>?_);refine Vq hp (aP (hb _ s6 σ6 H6 _ I6 q6) λf s7 q7=>?_)
  have again:∀{σ7:St}{H7:Hp},Inv X (pins++sA fp s5.heap) σ7 H7 s7->N σ7 H7->∃m,m<n /\ ∃i σ' H',Inv X pins σ' H' s7/\tn i s7.heap/\(∀b∈fp,H' b=none)/\W i m σ' H':=λ{σ7 H7} I7 n7=>by
   obtain⟨m',hm,w7⟩:=hN σ7 H7 n7;refine⟨m',hm,i+1,σ7,H7,I7.sQ,T.keep _ _ _ st5 λb hb o e=>(I7.pin (b,o) (Wg _ (Wg _ (zb hb e)))).1,λb hb=>?_,w7⟩;obtain⟨o,e,d⟩:=T.obj _ _ st5 b hb;exact(I7.pin (b,o) (Wg _ (Wg _ (zb hb e)))).2.1
  cases f with
  | next=>obtain⟨σ7,H7,I7,n7⟩:=q7;exact again I7 n7
  | cont=>obtain⟨σ7,H7,I7,n7⟩:=q7;exact again I7 n7
  | brk=>obtain⟨σ7,H7,I7,q7⟩:=q7;exact⟨σ7,H7,I7.sQ,q7⟩
  | ret v=>obtain⟨x7,σ7,H7,I7,r7,q7⟩:=q7;exact⟨x7,σ7,H7,I7.sQ,r7,q7⟩
end
variable{tb:TS}{D:cR}{σ:St}{H:Hp}
theorem ZR{K:wa}{a:we}{xs:List V}{g:TG}(Pv:Nat->St->Hp->Prop)(h0:Pv 0 σ H)(hl:∀i σ H,i<=xs.length->Pv i σ H->aE K H a xs)
  (hs:∀i x σ H,xs[i]? = some x->Pv i σ H->g x σ H λσ2 H2=>tb {D with nx:=Pv (i+1),ct:=Pv (i+1),bk:=D.nx} σ2 H2) (hd:∀σ H,Pv xs.length σ H->D.nx σ H) :
  ∃W:Nat->Nat->St->Hp->Prop,(∃m,W 0 m σ H) /\ ∀i m σ H,W i m σ H ->
   ((jI K a).stop i H/\D.nx σ H)\/((jI K a).go i H /\ ∃N:St->Hp->Prop,(∀σ' H',N σ' H'->∃m',m'<m/\W (i+1) m' σ' H') /\ ∀x H',(jI K a).fD i H x H'->g x σ H' λσ2 H2=>tb {D with nx:=N,ct:=N,bk:=D.nx} σ2 H2):=by
 refine⟨λi m σ H=>m=xs.length-i/\i<=xs.length/\Pv i σ H,⟨xs.length,by simp,VZ _,h0⟩,?_⟩;rintro i m σ H ⟨rfl,hi,p⟩;have q:=hl i σ H hi p
 by_cases hlt:i<xs.length
 ·refine .inr ⟨⟨xs,xs[i],q,by simp[hlt]⟩,Pv (i+1),λσ' H' p'=>⟨xs.length-(i+1),by lia,rfl,hlt,p'⟩,λx H' y=>?_⟩
  obtain⟨e,y⟩:=y;subst e;exact hs i x σ _ (y xs q) p
 ·have e:i=xs.length:=by lia
  subst e;exact .inl ⟨⟨xs,q,wp _⟩,hd σ H p⟩
theorem zAu{K:wa}{a:we}{xs:List V}{g:TG}(Pv:Nat->St->Hp->Prop)(h0:Pv 0 σ H)(hl:∀i σ H,i<=xs.length->Pv i σ H->aT K H a xs)
  (hs:∀i x σ H,xs[i]? = some x->Pv i σ H->g x σ H λσ2 H2=>tb {D with nx:=Pv (i+1),ct:=Pv (i+1),bk:=D.nx} σ2 H2) (hd:∀σ H,Pv xs.length σ H->D.nx σ H) :
  ∃W:Nat->Nat->St->Hp->Prop,(∃m,W 0 m σ H) /\ ∀i m σ H,W i m σ H ->
   ((j8 K a).stop i H/\D.nx σ H)\/((j8 K a).go i H /\ ∃N:St->Hp->Prop,(∀σ' H',N σ' H'->∃m',m'<m/\W (i+1) m' σ' H') /\ ∀x H',(j8 K a).fD i H x H'->g x σ H' λσ2 H2=>tb {D with nx:=N,ct:=N,bk:=D.nx} σ2 H2):=by
 refine⟨λi m σ H=>m=xs.length-i/\i<=xs.length/\Pv i σ H,⟨xs.length,by simp,VZ _,h0⟩,?_⟩;rintro i m σ H ⟨rfl,hi,p⟩;have q:=hl i σ H hi p
 by_cases hlt:i<xs.length
 ·refine .inr ⟨⟨xs,xs[i],q,by simp[hlt]⟩,Pv (i+1),λσ' H' p'=>⟨xs.length-(i+1),by lia,rfl,hlt,p'⟩,λx H' y=>?_⟩
  obtain⟨e,y⟩:=y;subst e;exact hs i x σ _ (y xs q) p
 ·have e:i=xs.length:=by lia
  subst e;exact .inl ⟨⟨xs,q,wp _⟩,hd σ H p⟩
theorem Pf{lo:Int}{n:Nat}{g:TG}(Pv:Nat->St->Hp->Prop)(h0:Pv 0 σ H)
  (hs:∀i σ H,i<n->Pv i σ H->g (.int (lo+i)) σ H λσ2 H2=>tb {D with nx:=Pv (i+1),ct:=Pv (i+1),bk:=D.nx} σ2 H2) (hd:∀σ H,Pv n σ H->D.nx σ H) :
  ∃W:Nat->Nat->St->Hp->Prop,(∃m,W 0 m σ H) /\ ∀i m σ H,W i m σ H ->
   ((gI lo n).stop i H/\D.nx σ H)\/((gI lo n).go i H /\ ∃N:St->Hp->Prop,(∀σ' H',N σ' H'->∃m',m'<m/\W (i+1) m' σ' H') /\ ∀x H',(gI lo n).fD i H x H'->g x σ H' λσ2 H2=>tb {D with nx:=N,ct:=N,bk:=D.nx} σ2 H2):=by
 refine⟨λi m σ H=>m=n-i/\i<=n/\Pv i σ H,⟨n,by simp,VZ _,h0⟩,?_⟩;rintro i m σ H ⟨rfl,hi,p⟩
 by_cases hlt:i<n
 ·refine .inr ⟨hlt,Pv (i+1),λσ' H' p'=>⟨n-(i+1),by lia,rfl,hlt,p'⟩,λx H' y=>?_⟩
  obtain⟨e,y⟩:=y;subst e y;exact hs i σ _ hlt p
 ·have e:i=n:=by lia
  subst e;exact .inl ⟨wp _,hd σ H p⟩
abbrev R2:=V->V->Hp->VK->Prop
def bG(X:Cx)(f:wf->wf->Sem wf)(r:R2):Prop :=
 ∀(pins:List (we × Obj))(s:wm)(σ : St)(H:Hp)(x y:V)(v u:wf)(Q:VK),Inv X pins σ H s->aZ x v->aZ y u->r x y H Q ->
  wt (model X.prog X.w) X.A (f v u) (EP X pins σ Q) X.xe s
def Du(X:Cx)(f:wf->Sem wf)(r:V->Hp->VK->Prop):Prop :=
 ∀(pins:List (we × Obj))(s:wm)(σ : St)(H:Hp)(x:V)(v:wf)(Q:VK),Inv X pins σ H s->aZ x v->r x H Q ->
  wt (model X.prog X.w) X.A (f v) (EP X pins σ Q) X.xe s
def bS(X:Cx)(f:wf)(r:List V->Hp->VK->Prop):Prop :=
 ∀(pins:List (we × Obj))(s:wm)(σ : St)(H:Hp)(xs:List V)(us:List wf)(Q:VK),Inv X pins σ H s->aS xs us->r xs H Q ->
  wt (model X.prog X.w) X.A (call f us) (EP X pins σ Q) X.xe s
def Zg(X:Cx)(r:V->Hp->(Bool->Hp->Prop)->Prop):Prop :=
 ∀(pins:List (we × Obj))(s:wm)(σ : St)(H:Hp)(x:V)(v:wf)(Q:Bool->Hp->Prop),Inv X pins σ H s->aZ x v->r x H Q ->
  wt (model X.prog X.w) X.A (truthy v) (TP X pins σ Q) X.xe s
def jh(r:R2)(ta tb:TE):TE:=λσ H Q=>ta σ H λx H1=>tb σ H1 λy H2=>r x y H2 Q
def UH(r:V->Hp->VK->Prop)(ta:TE):TE:=λσ H Q=>ta σ H λx H1=>r x H1 Q
def rI(C:Int->Int->Prop)(g:Int->Int->V):R2:=λx y H Q=>∃i j,x=.int i/\y=.int j/\C i j/\Q (g i j) H
def jl(g:Int->Int->V):R2:=λx y H Q=>∃i j,x=.int i/\y=.int j/\Q (g i j) H
def rU(g:Int->V):V->Hp->VK->Prop:=λx H Q=>∃i,x=.int i/\Q (g i) H
section
variable{X:Cx}{a b c:Expr}{ta tb tc:TE}{pos:Pos}
theorem BP(ha:PE X a ta)(hb:PE X b tb){pins:List (we × Obj)}{s:wm}{σ : St}{H:Hp}{R:V->V->Hp->Prop}(I:Inv X pins σ H s)
  (h:ta σ H λx H1=>tb σ H1 λy H2=>R x y H2) {Q:wf->wm->Prop} {f:wf->wf->Sem wf}
  (hf:∀v u s2 x y H2,Inv X pins σ H2 s2->aZ x v->aZ y u->R x y H2->wt (model X.prog X.w) X.A (f v u) Q X.xe s2) :
  wt (model X.prog X.w) X.A (eval a X.env) (λv s₁=>wt (model X.prog X.w) X.A (eval b X.env) (λu s₂=>wt (model X.prog X.w) X.A (f v u) Q X.xe s₂) X.xe s₁) X.xe s:=by
 refine aP (ha pins s σ H _ I h) λv s1 ⟨x,H1,I1,r1,q1⟩=>?_
 refine aP (hb pins s1 σ H1 _ I1 q1) λu s2 ⟨y,H2,I2,r2,q2⟩=>?_
 exact hf v u s2 x y H2 I2 r1 r2 q2
theorem aB{op:Operator}{r:R2}(ho:bG X (WF op) r)(ha:PE X a ta)(hb:PE X b tb):PE X (.BinOp a op b pos) (jh r ta tb):=by
 intro pins s σ H Q I h;exact wpAny_BinOp (BP ha hb I h λv u s2 x y H2 I2 rx ry q=>ho pins s2 σ H2 x y v u Q I2 rx ry q)
theorem fo{op:UnaryOp}{r:V->Hp->VK->Prop}(ho:Du X (unaryOp op) r)(ha:PE X a ta):PE X (.UnaryOp op a pos) (UH r ta):=by
 intro pins s σ H Q I h;exact UnaryOp_ (aP (ha pins s σ H _ I h) λv s1 ⟨x,H1,I1,r1,q1⟩=>ho pins s1 σ H1 x v Q I1 r1 q1)
theorem AE{f:wf->wf->Sem wf}{C:Int->Int->Prop}{g:Int->Int->Int}
  (rule:∀(i j:Int)(t u:Tok)(s:wm)(Q:wf->wm->Prop)(E:wf->wm->Prop),C i j->Q (.int (g i j) s.toks) {s with toks:=s.toks+1}->wt (model X.prog X.w) X.A (f (.int i t) (.int j u)) Q E s) :
  bG X f (rI C λi j=>.int (g i j)):=by
 intro pins s σ H x y v u Q I rx ry h;obtain⟨i,j,rfl,rfl,hc,q⟩:=h;obtain⟨t,rfl⟩:=rx;obtain⟨t',rfl⟩:=ry;exact rule i j t t' s _ _ hc ⟨.int (g i j),H,I.tok _,⟨_,rfl⟩,q⟩
theorem UA{f:wf->wf->Sem wf}{g:Int->Int->Int}
  (rule:∀(i j:Int)(t u:Tok)(s:wm)(Q:wf->wm->Prop)(E:wf->wm->Prop),Q (.int (g i j) s.toks) {s with toks:=s.toks+1}->wt (model X.prog X.w) X.A (f (.int i t) (.int j u)) Q E s) :
  bG X f (jl λi j=>.int (g i j)):=by
 intro pins s σ H x y v u Q I rx ry h;obtain⟨i,j,rfl,rfl,q⟩:=h;obtain⟨t,rfl⟩:=rx;obtain⟨t',rfl⟩:=ry;exact rule i j t t' s _ _ ⟨.int (g i j),H,I.tok _,⟨_,rfl⟩,q⟩
theorem uO{f:wf->wf->Sem wf}{g:Int->Int->Bool}
  (rule:∀(i j:Int)(t u:Tok)(s:wm)(Q:wf->wm->Prop)(E:wf->wm->Prop),Q (.bool (g i j)) s->wt (model X.prog X.w) X.A (f (.int i t) (.int j u)) Q E s) :
  bG X f (jl λi j=>.bl (g i j)):=by
 intro pins s σ H x y v u Q I rx ry h;obtain⟨i,j,rfl,rfl,q⟩:=h;obtain⟨t,rfl⟩:=rx;obtain⟨t',rfl⟩:=ry;exact rule i j t t' s _ _ ⟨.bl (g i j),H,I,rfl,q⟩
def LG(i j:Int):Prop:=0<=j/\j<=1000000/\i.natAbs<2^64
theorem zDt:bG X (WF .Add) (jl λi j=>.int (i+j)):=UA λ_ _ _ _ _ _ _ q=>add_int q
theorem hZ:bG X (WF .Sub) (jl λi j=>.int (i-j)):=UA λ_ _ _ _ _ _ _ q=>sub_int q
theorem gZ:bG X (WF .Mod) (rI (λ_ j=>0<j) λi j=>.int (i % j)):=AE λi j _ _ _ _ _ hc q=>by
 have h1:(0:Int)<j:=hc;exact mod_int' (by lia) (by rw[Int.fmod_eq_emod_of_nonneg i (by lia)];exact q)
theorem zDw:bG X (WF .Pow) (rI LG λi j=>.int (i^j.toNat)):=AE λ_ _ _ _ _ _ _ hc q=>pow_int_small hc.1 hc.2.1 hc.2.2 q
theorem unI{f:wf->Sem wf}{g:Int->Int}
  (rule:∀(i:Int)(t:Tok)(s:wm)(Q:wf->wm->Prop)(E:wf->wm->Prop),Q (.int (g i) s.toks) {s with toks:=s.toks+1}->wt (model X.prog X.w) X.A (f (.int i t)) Q E s) :
  Du X f (rU λi=>.int (g i)):=by
 intro pins s σ H x v Q I rx h;obtain⟨i,rfl,q⟩:=h;obtain⟨t,rfl⟩:=rx;exact rule i t s _ _ ⟨.int (g i),H,I.tok _,⟨_,rfl⟩,q⟩
theorem fA:Du X (unaryOp .USub) (rU λi=>.int (-i)):=unI λ_ _ _ _ _ q=>neg_int q
end
section
variable{X:Cx}{a b c:Expr}{ta tb tc:TE}{pos:Pos}
variable{r:R2}{op:CmpOp}
theorem U3{pins:List (we × Obj)}{σ : St}{H:Hp}{s:wm}{Q:VK}{k k':Bool}(I:Inv X pins σ H s)(q:Q (.bl k) H)(e:k=k'):EP X pins σ Q (.bool k') s:=by
 subst e;exact⟨.bl k,H,I,rfl,q⟩
theorem jT :bG X (vP .Lt) (jl λi j=>.bl (decide (i<j))):=uO λ_ _ _ _ _ _ _ q=>lt_int q
theorem p_ :bG X (vP .LtE) (jl λi j=>.bl (decide (i<=j))):=uO λ_ _ _ _ _ _ _ q=>le_int q
theorem kx :bG X (vP .Gt) (jl λi j=>.bl (decide (j<i))):=uO λ_ _ _ _ _ _ _ q=>gt_int q
theorem zg :bG X (vP .GtE) (jl λi j=>.bl (decide (j<=i))):=uO λ_ _ _ _ _ _ _ q=>ge_int q
theorem zCY :bG X (vP .Is) (λx y H Q=>y=.bM/\Q (.bl (decide (x=.bM))) H):=by
 intro pins s σ H x y v u Q I rx ry h;obtain⟨rfl,q⟩:=h;cases ry;refine is_none_gen (U3 I q ?_)
 cases x<;>first
  | (cases rx;rfl)
  | (obtain⟨t,rfl⟩:=rx;rfl)
theorem bG.or{f:wf->wf->Sem wf}{r':R2}(h:bG X f r)(h':bG X f r'):bG X f (λx y H Q=>r x y H Q\/r' x y H Q):=by
 intro pins s σ H x y v u Q I rx ry q;rcases q with q | q
 ·exact h pins s σ H x y v u Q I rx ry q
 ·exact h' pins s σ H x y v u Q I rx ry q
theorem cQ(b:Expr)(h:op≠.In:=by decide)(h2:op≠.NotIn:=by decide):behindInMarks op b=false:=by
 have e1:(op == CmpOp.In)=false:=by cases op<;>first | rfl | exact absurd rfl h
 have e2:(op == CmpOp.NotIn)=false:=by cases op<;>first | rfl | exact absurd rfl h2
 cases b<;>simp[behindInMarks,e1,e2]
theorem gP(ho:bG X (vP op) r)(ha:PE X a ta)(hb:PE X b tb)(hm:behindInMarks op b=false):PE X (.Compare a [op] [b] pos) (jh r ta tb):=by
 intro pins s σ H Q I h;exact wpAny_Compare1 (BP ha hb I h λv u s2 x y H2 I2 rx ry q=>ho pins s2 σ H2 x y v u Q I2 rx ry q) hm
def pL(t:TE):TT:=λσ H Q=>t σ H λx H'=>∃k,x=.bl k/\Q k H'
theorem cY(ho:bG X (vP op) r)(ha:PE X a ta)(hb:PE X b tb)(hm:behindInMarks op b=false):PT X (.Compare a [op] [b] pos) (pL (jh r ta tb)):=by
 intro pins s σ H Q I h
 refine wpAny_isTrue_Compare1 (aP (ha pins s σ H _ I h) λv s1 ⟨x,H1,I1,r1,q1⟩=>aP (hb pins s1 σ H1 _ I1 q1) λu s2 ⟨y,H2,I2,r2,q2⟩ =>
  aP (ho pins s2 σ H2 x y v u _ I2 r1 r2 q2) λc s3 ⟨z,H3,I3,r3,k,e,q3⟩=>?_) hm
 subst e;cases r3;exact Wy ⟨H3,I3,q3⟩
def Tv(r r':R2)(ta tb tc:TE):TE:=λσ H Q=>ta σ H λx H1=>tb σ H1 λy H2=>r x y H2 λz H3=>∃k,z=.bl k /\
 (if k=true then tc σ H3 λw' H4=>r' y w' H4 Q else Q (.bl false) H3)
theorem Zn{op':CmpOp}{r':R2}(ho:bG X (vP op) r)(ho':bG X (vP op') r')(ha:PE X a ta)(hb:PE X b tb)(hc:PE X c tc)
  (hm:lastMarks [op,op'] [b,c]=false:=by with_unfolding_all rfl):PT X (.Compare a [op,op'] [b,c] pos) (pL (Tv r r' ta tb tc)):=by
 intro pins s σ H Q I h
 refine isTrue_chain (aP (ha pins s σ H _ I h) λv s1 ⟨x,H1,I1,r1,q1⟩=>test_link (aP (hb pins s1 σ H1 _ I1 q1) λu s2 ⟨y,H2,I2,r2,q2⟩ =>
  aP (ho pins s2 σ H2 x y v u _ I2 r1 r2 q2) λd s3 ⟨z,H3,I3,r3,k,e,q3⟩=>?_)) hm
 subst e;cases r3;refine Wy ?_;cases k with
 | false =>
  obtain⟨k',e',q'⟩:=q3;cases e';exact ite_ff ⟨H3,I3,q'⟩
 | true =>
  refine ite_tt (test_last (aP (hc pins s3 σ H3 _ I3 q3) λw' s4 ⟨z',H4,I4,r4,q4⟩=>aP (ho' pins s4 σ H4 y z' u w' _ I4 r2 r4 q4) λd' s5 ⟨z2,H5,I5,r5,k2,e2,q5⟩=>?_));subst e2;cases r5;exact Wy ⟨H5,I5,q5⟩
def Ft(K:wa)(x:V)(H:Hp)(k:Bool):Prop :=
 match x with
 | .bM=>k=false
 | .bl b=>k=b
 | .int i=>k=(i != 0)
 | .str y=>y.length<=wY/\k=((y.length:Int) != 0)
 | .byt y=>y.size<=wY/\k=((y.size:Int) != 0)
 | .ref p=>(∃xs,aE K H p xs/\k = !xs.isEmpty)\/(∃xs,aT K H p xs/\k = !xs.isEmpty) \/ ∃kvs,H p=some (.dK kvs)/\k = !kvs.isEmpty
 | _=>False
theorem zuD{κ : Type}{kvs:List (κ × V)}{vs:List (κ × wf)}(r:KV kvs vs):(!vs.isEmpty) = !kvs.isEmpty:=by
 cases r<;>rfl
theorem LY{xs:List V}{its:List wf}(r:aS xs its):(!its.toArray.isEmpty) = !xs.isEmpty:=by
 cases r<;>simp
theorem nQ :(wY:Nat)<2^63:=by rw[sizeLine_eq];decide
theorem zDL :Zg X (λx H Q=>∃k,Ft X.K x H k/\Q k H):=by
 intro pins s σ H x v Q I rx h;obtain⟨k,e,q⟩:=h;have hl:=nQ;have hs:wY=16777216:=sizeLine_eq;cases x with
 | bM =>
  cases rx;have e':k=false:=e;subst e';exact truthy_none ⟨H,I,q⟩
 | bl b =>
  cases rx;have e':k=b:=e;subst e';exact Wy ⟨H,I,q⟩
 | int i =>
  obtain⟨t,rfl⟩:=rx;have e':k=(i != 0):=e;subst e';exact PySem.P.truthy_int ⟨H,I,q⟩
 | str y =>
  obtain⟨t,rfl⟩:=rx;obtain⟨hy,e'⟩:y.length<=wY/\k=((y.length:Int) != 0):=e;subst e';exact PySem.P.truthy_str (by lia) ⟨H,I.tok _,q⟩
 | byt y =>
  obtain⟨t,rfl⟩:=rx;obtain⟨hy,e'⟩:y.size<=wY/\k=((y.size:Int) != 0):=e;subst e';exact PySem.W.truthy_bytes (by lia) ⟨H,I.tok _,q⟩
 | ref p =>
  cases rx;have e':(∃xs,aE X.K H p xs/\k = !xs.isEmpty)\/(∃xs,aT X.K H p xs/\k = !xs.isEmpty) \/ ∃kvs,H p=some (.dK kvs)/\k = !kvs.isEmpty:=e;rcases e' with⟨xs,hx,e'⟩ | ⟨xs,hx,e'⟩ | ⟨kvs,hx,e'⟩
  ·subst e'
   obtain⟨its,r,pl,hz⟩:=I.list hx;have hlen:=r.length;exact wpAny_truthy_list pl.isList (by simp only[wK];lia) ⟨H,I.tok _,by rw[LY r];exact q⟩
  ·subst e'
   obtain⟨its,r,pl,hz⟩:=I.tuple hx;have hlen:=r.length;exact truthy_tuple pl (by simp only[wK];lia) ⟨H,I.tok _,by rw[LY r];exact q⟩
  ·subst e'
   obtain⟨hz,hS,vs,r,m⟩:kvs.length<=wY/\(p == sysModules)=false /\ ∃vs,KV kvs vs/\s.heap.DictOf (BS X.prog X.w) p vs:=I.aM p _ hx;have hlen:kvs.length=vs.length:=uo r;exact wpAny_truthy_dict hS m (by lia) ⟨H,I.tok _,by rw[zuD r];exact q⟩
 | _=>exact(show False from e).elim
theorem zy1(ha:PE X a ta)(he:∀whole,isTrue a X.env whole=(do let v <- whole;standAt a.pos;holding [v] (truthy v))) :
  PT X a (λσ H Q=>ta σ H λx H'=>∃k,Ft X.K x H' k/\Q k H'):=by
 intro pins s σ H Q I h;exact isTrue_plain (aP (ha pins s σ H _ I h) λv s1 ⟨x,H1,I1,r1,q1⟩=>zDL pins s1 σ H1 x v Q I1 r1 q1) (he _)
theorem zui :bG X (WF .Add) (λx y H Q=>∃i j,x=.str i/\y=.str j/\i.length+j.length<=wY/\Q (.str (i++j)) H):=by
 intro pins s σ H x y v u Q I rx ry h;obtain⟨i,j,rfl,rfl,hz,q⟩:=h;obtain⟨t,rfl⟩:=rx;obtain⟨t',rfl⟩:=ry;exact add_str (λt' tk=>⟨.str (i++j),H,I.tok _,⟨_,rfl⟩,q⟩) hz
theorem iZ{x:V}{us:List wf}(r:aS [x] us):∃u,us=[u]/\aZ x u:=by
 cases r with
 | cons r1 r2=>cases r2;exact⟨_,rfl,r1⟩
theorem mT{x y:V}{us:List wf}(r:aS [x,y] us):∃u w',us=[u,w']/\aZ x u/\aZ y w':=by
 cases r with
 | cons r1 r2 =>
  cases r2 with
  | cons r3 r4=>cases r4;exact⟨_,_,rfl,r1,r3⟩
theorem zx5 :bS X (.builtin "abs") (λxs H Q=>∃i,xs=[.int i]/\Q (.int (if i<0 then -i else i)) H):=by
 intro pins s σ H xs us Q I r h;obtain⟨i,rfl,q⟩:=h;obtain⟨u,rfl,t,rfl⟩:=iZ r;exact call_abs_int λu tk=>⟨.int (if i<0 then -i else i),H,I.tok _,⟨_,rfl⟩,q⟩
theorem Zx(hc:X.calm=true):bS X (.builtin "min") (λxs H Q=>∃i j,xs=[.int i,.int j]/\Q (.int (if j<i then j else i)) H):=by
 intro pins s σ H xs us Q I r h;obtain⟨i,j,rfl,q⟩:=h;obtain⟨u,w',rfl,⟨t,rfl⟩,⟨t',rfl⟩⟩:=mT r;refine min_two_ints (I.ok.hd hc) λh' tk k=>⟨_,H,I.kept k,?_,q⟩
 by_cases hj:j<i
 ·rw[if_pos hj,if_pos hj];exact⟨_,rfl⟩
 ·rw[if_neg hj,if_neg hj];exact⟨_,rfl⟩
end
section
variable{prog:wH}{w:wM}{A:w9}{E:wf->wm->Prop}{s:wm}{K:wa}{x dx C f:we}{mA:Str->Option wf}{name:Str}{v:wf}
end
section
variable{P:wH}{w:wM}{H H':Hp}{h h':wJ}{a C dx:we}{fs fs':List (Str × V)}
end
section
variable{X:Cx}{pins:List (we × Obj)}{σ : St}{H:Hp}{s:wm}{a C dx:we}{fs:List (Str × V)}{f:Str}{v:V}{A:w9}{E:wf->wm->Prop}
end
section
variable{X:Cx}{o e value:Expr}{f:Str}{pos pos' tpos:Pos}{ta tv:TE}
end
section
variable{X:Cx}{pins:List (we × Obj)}{σ : St}{H:Hp}{s:wm}{A:w9}{E:wf->wm->Prop}{Q:wf->wm->Prop}{c:wf}{b:Bool}
end
variable{k:Nat}{A:w9}
structure ee(k:Nat)(A:w9):Prop where
 hd:A.handled=none
 dp:A.depth+3*k+5<recursionLimit
 un:A.units+16*k+200<WG
 gd:A.guards=some []
theorem ee.mono{j:Nat}(r:ee k A)(h:j<=k):ee j A:=⟨r.hd,by have:=r.dp;lia,by have:=r.un;lia,by first | exact r.gd | (simp[uB,Code.guards,uC,guardIds];exact r.gd)⟩
theorem ee.deeper(r:ee (k+1) A)(env:Env):ee k (A.deeper env) :=
 ⟨r.hd,by have:=r.dp;show A.depth+1+3*k+5<_;lia,by have:=r.un;show A.units+3+16*k+200<_;lia,by first | exact r.gd | (simp[uB,Code.guards,uC,guardIds];exact r.gd)⟩
theorem ee.depth(r:ee k A):A.depth<recursionLimit:=by have:=r.dp;lia
theorem ee.units(r:ee k A):A.units+64<WG:=by have:=r.un;lia
def mO:TA:=λ_ H Q=>Q [] H
def jY(ta:TE)(tr:TA):TA:=λσ H Q=>ta σ H λx H1=>tr σ H1 λxs H2=>Q (x::xs) H2
section
variable{X:Cx}{e:Expr}{es:List Expr}{te:TE}{t:TA}{pos:Pos}
theorem ag:PA X [] mO:=λ_ _ _ _ H Q I h=>QF ⟨[],H,I,.nil,h⟩
theorem ae(ha:PE X e te)(hr:PA X es t)(hs:wS (e::es) X.env=(false,eval e X.env)::wS es X.env:=by rfl):PA X (e::es) (jY te t):=by
 intro pos pins s σ H Q I h;rw[hs]
 show wt _ _ (spliced ((false,eval e X.env)::Vz pos (wS es X.env))) _ _ s
 refine Qu (aP (ha pins s σ H _ I h) λu s1 ⟨x,H1,I1,r1,q1⟩=>?_);exact aP (hr pos pins s1 σ H1 _ I1 q1) λus s2 ⟨xs,H2,I2,r2,q2⟩=>⟨x::xs,H2,I2,.cons r1 r2,q2⟩
def zE3(t:TA):TE:=λσ H Q=>t σ H λxs H1=>xs.length<=wY /\ ∀p,H1 p=none->Q (.ref p) (upd H1 p (.tup xs))
def zE4(t:TA):TE:=λσ H Q=>t σ H λxs H1=>xs.length<=wY /\ ∀p,H1 p=none->Q (.ref p) (upd H1 p (.lst xs))
theorem zDo{x1}(h:PA X es t):PE X (.Tuple es x1 pos) (zE3 t):=by
 intro pins s σ H Q I hq;refine wpAny_Tuple_spliced (aP (h pos pins s σ H _ I hq) λus s1 ⟨xs,H1,I1,r,z,q⟩=>⟨by rw[<- r.length];exact z,?_⟩);have hf:H1 s1.heap.objs.size=none:=I1.aM.fresh (wp _);refine⟨.ref s1.heap.objs.size,upd H1 s1.heap.objs.size (.tup xs),I1.laid (t':=s1.toks) (λb u e=>wn _ e) (wp _) ?_,rfl,q _ hf⟩;exact⟨z,us,r,⟨_,wO _ rfl,rfl,_,rfl⟩⟩
theorem zCz(h:PA X es t):PE X (.List es pos) (zE4 t):=by
 intro pins s σ H Q I hq;refine wpAny_List_spliced (aP (h pos pins s σ H _ I hq) λus s1 ⟨xs,H1,I1,r,z,q⟩=>⟨by rw[<- r.length];exact z,?_⟩);have hf:H1 s1.heap.objs.size=none:=I1.aM.fresh (wp _);refine⟨.ref s1.heap.objs.size,upd H1 s1.heap.objs.size (.lst xs),I1.laid (t':=s1.toks) (λb u e=>wn _ e) (wp _) ?_,rfl,q _ hf⟩;exact⟨z,us,0,r,wO _ rfl⟩
end
abbrev Sp:=List V->Hp->VK->XK->Prop
abbrev fX:=List Env->Hp->wm->XK->wf->wm->Prop
structure yh(P:wH)(w:wM)(K:wa)(mg:Str->Option wf)(base:wJ)(A:w9)(outer:List Env)(s:wm)(H:Hp):Prop where
 frames:A.frames=some outer
 mod:Mod K mg base
 bs:∀b o,base.get? b=some o->s.heap.get? b=some o/\H b=none
 jx:base.objs.size<=s.heap.objs.size
 fk:s.heap.FunFrames base outer
 jG:∀b∈d7 outer,H b=none
 aM:dw P w H s.heap
 bare:AllBare s.gens
def CE(outer:List Env)(P:wH)(w:wM)(H:Hp)(s:wm)(Q:VK)(u:wf)(s':wm):Prop :=
 ∃v H',s'.os=s.os/\AllBare s'.gens/\Un (d7 outer) [] H H' s.heap s'.heap/\dw P w H' s'.heap/\aZ v u/\Q v H'
def CR(CX:fX)(outer:List Env)(P:wH)(w:wM)(H:Hp)(s:wm)(Q:VK)(E:XK)(r:Result)(s':wm):Prop :=
 match r with
 | .ok (.ret u)=>CE outer P w H s Q u s'
 | .ok _=>False
 | .error e=>CX outer H s E e s'
structure aF(P:wH)(w:wM)(K:wa)(mg:Str->Option wf)(base:wJ)(CX:fX)(k:Nat)(f:we)(fd:wz)(ps:List Str)(sp:Sp):Prop where
 len:∀vs H Q E,sp vs H Q E->vs.length=ps.length
 run:∀(A:w9)(outer:List Env)(s:wm)(H:Hp)(args:Args)(us:List wf)(vs:List V)(Q:VK)(E:XK),ee k A->yh P w K mg base A outer s H->BindsTo s fd args (ps.zip us)->aS vs us->sp vs H Q E ->
   codeAny (model P w) A (.call (.ref f) args) (CR CX outer P w H s Q E) s
section
variable{X:Cx}{pins:List (we × Obj)}{σ : St}{H:Hp}{s s':wm}
theorem Inv.KJ(I:Inv X pins σ H s):yh X.prog X.w X.K X.mg X.base X.A X.stack s H :=
 ⟨I.ok.frames,I.ok.mod,I.bs,Wf I.ok.jx I.sz,I.stack,I.sS,I.aM,I.bare⟩
theorem Inv.after{Q:VK}{u:wf}(I:Inv X pins σ H s)(h:CE X.stack X.prog X.w H s Q u s'):EP X pins σ Q u s':=by
 obtain⟨v,H',os,bare,un,aM,r,q⟩:=h;obtain⟨hh,g,d,t,os'⟩:=s';obtain rfl:os'=s.os:=os;exact⟨v,H',I.call (h':=hh) (g':=g) (d':=d) (t':=t) (ch:=[]) un aM bare (λb z=>absurd z (by simp)),r,q⟩
end
def pR(sp:Sp)(dvs:List V)(E:XK)(t:TA):TE:=λσ H Q=>t σ H λvs H1=>sp (vs++dvs) H1 Q E
def mR(K:wa)(fd:wz)(ps:List Str)(ds:List wf):Prop :=
 ∀(s:wm)(us:List wf),K.In s.heap->(us++ds).length=ps.length->BindsTo s fd ⟨us,[]⟩ (ps.zip (us++ds))
theorem mR.all{K:wa}{fd:wz}{ps:List Str}(h:∀us:List wf,us.length=ps.length->bindArgs fd ⟨us,[]⟩=pure (ps.zip us)):mR K fd ps []:=λs us _ hl=>by
 rw[vK]at hl ⊢;exact .of_eq (h us hl)
def nZ(CX:fX)(X:Cx)(E:XK):Prop:=∀(pins:List (we × Obj))(σ : St)(H:Hp)(s:wm)(e:wf)(s':wm),Inv X pins σ H s->CX X.stack H s E e s'->X.xe e s'
section
variable{X:Cx}{CX:fX}{k:Nat}{f C:we}{fd:wz}{ps:List Str}{sp:Sp}{dvs:List V}{ds:List wf}{E:XK}{x m:Str}{p pos apos:Pos}{e o:Expr}{es:List Expr}{ta:TE}{t:TA}
theorem zCP{pins:List (we × Obj)}{σ : St}{H:Hp}{s:wm}{Q:VK}{us:List wf}{vs:List V}(F:aF X.prog X.w X.K X.mg X.base CX k f fd ps sp)(hr:ee k X.A)(hb:mR X.K fd ps ds)(hd:aS dvs ds)(hx:nZ CX X E)
  (I:Inv X pins σ H s) (r:aS vs us) (h:sp (vs++dvs) H Q E):wt (model X.prog X.w) X.A (call (.ref f) us) (EP X pins σ Q) X.xe s:=by
 have r2:aS (vs++dvs) (us++ds):=r.append hd;have hl:(us++ds).length=ps.length:=by rw[<- r2.length];exact F.len _ _ _ _ h
 refine wpAny_call (codeAny_mono (F.run X.A X.stack s H ⟨us,[]⟩ (us++ds) (vs++dvs) Q E hr I.KJ (hb s us I.dW hl) r2 h) λr s' hq=>?_);cases r with
 | error e=>exact hx pins σ H s e s' I hq
 | ok fl =>
  cases fl with
  | ret u=>exact I.after hq
  | next=>exact WS hq
  | brk=>exact WS hq
  | cont=>exact WS hq
theorem TK(F:aF X.prog X.w X.K X.mg X.base CX k f fd ps sp)(hr:ee k X.A)(hg:Gl X x)(hm:X.mg x=some (.ref f))(hk:qF X.K (.ref f)=true)(hb:mR X.K fd ps ds)(hd:aS dvs ds)(hx:nZ CX X E)
  (ha:PA X (e::es) t) (hdb:(x == ("__debug__" : Str))=false:=by decide) (he:wS (e::es) X.env=(false,eval e X.env)::wS es X.env:=by rfl) (hpl:(Vz pos (wS es X.env)).any (·.1)=false:=by rfl) :
  PE X (.Call (.Name x p) (e::es) [] pos) (pR sp dvs E t):=by
 intro pins s σ H Q I h;refine qE (pS I hg hm ?_ hdb);refine xV (h₀:=X.base) I.ok.mod.pA hk (aP (ha pos pins s σ H _ I h) λus s1 ⟨vs,H1,I1,r,q⟩=>⟨I1.dW,?_⟩) he hpl;exact zCP F hr hb hd hx I1 r q
end
section
variable{X:Cx}{CX:fX}{k:Nat}{f C:we}{fd:wz}{ps ks:List Str}{sp:Sp}{E:XK}{x m:Str}{p pos apos kpos:Pos}{e o:Expr}{es:List Expr}{kws:List Keyword}{te ta:TE}{t tk:TA}{nm:Option Str}
variable{g:List wf->List wf->List wf}{gV:List V->List V->List V}
end
variable{base:wJ}{qual:Str}
structure aI(N P:List Str)(sc:Scope):Prop where
 kind:sc.kind=.function
 co:sc.isCoroutine=false
 gen:sc.isGenerator=false
 nd:N.Nodup
 pre:N.take P.length=P
 par:∀x∈P,sc.names.lookup x=some .local\/sc.names.lookup x=some .cell
 YQ:∀y∈sc.names,y.2≠.free
theorem MY{kindOf:Str->Option WV}{x:Str} : ∀{binds:List (Str × wf)}{m:Str->Option wf},(∀v,(x,v) ∉ binds)->bindL kindOf binds m x=m x
 | [],_,_=>rfl
 | (n,v)::r,m,h=>by
  unfold bindL;rw[MY λw hw=>h w (wA _ hw)]
  split
  ·have:x≠n:=by rintro rfl;exact h v wE
   simp[this]
  ·rfl
theorem PN{kindOf:Str->Option WV}{x:Str} : ∀{binds:List (Str × wf)}{m:Str->Option wf},(∀v,(x,v) ∉ binds)->bindC kindOf binds m x=m x
 | [],_,_=>rfl
 | (n,v)::r,m,h=>by
  unfold bindC;rw[PN λw hw=>h w (wA _ hw)]
  split
  ·rfl
  ·have:x≠n:=by rintro rfl;exact h v wE
   simp[this]
theorem RG{kindOf:Str->Option WV}{x:Str}{v:wf} : ∀{P:List Str}{vs:List wf}{i:Nat}{m:Str->Option wf},P.Nodup->P[i]? = some x->vs[i]? = some v->kindOf x=some .local ->
  bindL kindOf (P.zip vs) m x=some v
 | [],_,_,_,_,h,_,_=>by simp at h
 | _::_,[],_,_,_,_,h,_=>by simp at h
 | p::P,w::vs,0,m,nd,h1,h2,hk=>by
  simp at h1 h2;subst h1;subst h2
  show bindL kindOf ((p,w)::P.zip vs) m p=_
  unfold bindL;rw[MY λv hv=>(VS.mp nd).1 (Q1 hv).1,if_pos hk];simp
 | p::P,w::vs,i+1,m,nd,h1,h2,hk=>by
  show bindL kindOf ((p,w)::P.zip vs) m x=_
  unfold bindL;exact RG (i:=i) (VS.mp nd).2 (by simpa using h1) (by simpa using h2) hk
theorem Ue{kindOf:Str->Option WV}{x:Str}{v:wf} : ∀{P:List Str}{vs:List wf}{i:Nat}{m:Str->Option wf},P.Nodup->P[i]? = some x->vs[i]? = some v->kindOf x≠some .local ->
  bindC kindOf (P.zip vs) m x=some v
 | [],_,_,_,_,h,_,_=>by simp at h
 | _::_,[],_,_,_,_,h,_=>by simp at h
 | p::P,w::vs,0,m,nd,h1,h2,hk=>by
  simp at h1 h2;subst h1;subst h2
  show bindC kindOf ((p,w)::P.zip vs) m p=_
  unfold bindC;rw[PN λv hv=>(VS.mp nd).1 (Q1 hv).1,if_neg hk];simp
 | p::P,w::vs,i+1,m,nd,h1,h2,hk=>by
  show bindC kindOf ((p,w)::P.zip vs) m x=_
  unfold bindC;exact Ue (i:=i) (VS.mp nd).2 (by simpa using h1) (by simpa using h2) hk
def start(N:List Str)(vs:List V):St:=vs.map some++vf (N.length-vs.length) none
def jd(CX:fX)(P:wH)(w:wM)(K:wa)(mg:Str->Option wf)(base:wJ)(N:List Str)(qual:Str)(scope:Scope)(f:we)(cd:wf)(A:w9)(outer:List Env)(s:wm)(H:Hp)(E:XK):Cx where
 prog:=P
 w:=w
 K:=K
 mg:=mg
 base:=base
 A:=A.deeper (envOfC qual scope s.heap.objs.size f cd)
 N:=N
 s₀:=s
 H₀:=H
 env:=envOfC qual scope s.heap.objs.size f cd
 outer:=outer
 stack:=envOfC qual scope s.heap.objs.size f cd::outer
 ex:=[]
 calm:=true
 fn:=λ_=>true
 pn:=[]
 xe:=λe s'=>wt (model P w) (A.deeper (envOfC qual scope s.heap.objs.size f cd)) (leaving (envOfC qual scope s.heap.objs.size f cd) e) (λ_ s''=>CX outer H s E e s'') (λe' s''=>CX outer H s E e' s'') s'
theorem Ax{sc:Scope}{n:Nat}{x:Str}(h:sc.names.lookup x=some .cell):∃c,(cellsFrom n sc.names []).lookup x=some c:=by
 have q:=xa sc.names n [] (.inl h);exact Option.isSome_iff_exists.mp q
theorem Z4{CX:fX}{P:wH}{w:wM}{K:wa}{mg:Str->Option wf}{N ps:List Str}{scope:Scope}{f:we}{cd:wf}{A:w9}{outer:List Env}{s s1:wm}{H:Hp}{E:XK}{us:List wf}{vs:List V}
  (S:aI N ps scope) (hd:A.handled=none) (e0:yh P w K mg base A outer s H) (hl:vs.length=ps.length) (r:aS vs us)
  (x:InCallC s s.heap.objs.size (bindL (envOfC qual scope s.heap.objs.size f cd).kindOf (ps.zip us) λ_=>none) (cellsFrom (s.heap.objs.size+1) scope.names []) (bindC (envOfC qual scope s.heap.objs.size f cd).kindOf (ps.zip us) λ_=>none) s1) :
  Inv (jd CX P w K mg base N qual scope f cd A outer s H E) [] (start N vs) H s1:=by
 have hpl:ps.length<=N.length:=by have:=congrArg List.length S.pre;rw[Wo]at this;lia
 obtain⟨h1,tk,rfl,hk⟩:=x.done;have noA:∀b:we,b ∉ (jd CX P w K mg base N qual scope f cd A outer s H E).ex:=λb z=>absurd (show b∈([]:List we)from z) (by simp)
 refine⟨⟨e0.mod,S.kind,rfl,rfl,wp _,λy z c h1 h2=>?_,λy hy=>?_,λy c _ h=>?_,λ_=>hd,Around.frames_deeper e0.frames,.inr ⟨rfl,rfl⟩,λb z=>absurd z (noA b),e0.bs,e0.jx,λb _ _=>noA b,λb z=>absurd z (noA b),e0.fk,e0.jG⟩,
  rfl,e0.bare,Un.kept hk,⟨_,x.toInCall.ns,λi y v h1 h2 h3=>?_⟩,λy c h=>⟨_,x.cell y c h⟩,e0.aM.fresh (wp _),λy c h=>?_,λp hp=>absurd (show p∈([]:List (we × Obj))from hp) (by simp),e0.aM.kept hk,?_⟩
 ·exact name_of_addr x.apart (W8 h1) (W8 h2)
 ·have hy:scope.names.lookup y=some .cell\/scope.names.lookup y=some .free:=hy
  rcases hy with hy | hy
  ·exact Ax hy
  ·exact absurd rfl (S.YQ _ (W8 hy))
 ·exact WA (x.above y c (W8 h))
 ·have hi:i<vs.length:=by
   unfold start at h2
   by_cases hi:i<vs.length
   ·exact hi
   ·rw[vQ (by simpa using hi)]at h2
    rw[qH]at h2
    split at h2<;>cases h2
  have ha:vs[i]? = some v:=by
   unfold start at h2;rw[Wk (by simpa using hi),wq]at h2;cases e:vs[i]? with
   | none=>rw[e]at h2;cases h2
   | some a=>rw[e]at h2;cases h2;rfl
  obtain⟨u,hu,rv⟩:=r.get ha
  have hp:ps[i]? = some y:=by
   rw[<- S.pre,List.getElem?_take_of_lt (by lia)];exact h1
  have ndP:ps.Nodup:=by rw[<- S.pre];exact S.nd.sublist (Xf _ _)
  refine⟨u,rv,?_⟩;rcases S.par y (List.mem_of_getElem? hp)with k | k
  ·exact .inl ⟨k,RG ndP hp hu k⟩
  ·obtain⟨c,e⟩:=Ax (n:=s.heap.objs.size+1) k
   refine .inr ⟨.inl k,c,e,?_⟩;have q:=x.cell y c e;rw[Ue ndP hp hu (by show scope.names.lookup y≠_;rw[k];decide)]at q;exact q
 ·exact e0.aM.fresh (WA (x.above y c (W8 h)))
 ·unfold start
  show _=N.length
  rw[wN,wl,Wq]
  lia
theorem MR{CX:fX}{P:wH}{w:wM}{K:wa}{mg:Str->Option wf}{k:Nat}{f:we}{name:Str}{params:Arguments}{body:List wW}{scope:Scope}{dV kV doc pm cdv ct oc:wf}{an od:Option we}
  {osl:Array (Option wf)} {N ps:List Str} {sp:Sp} (lk:K.lookup f=some ⟨oc,od,.func (VE name qual params body scope dV kV doc pm an cdv ct),osl⟩) (hcd:Qj K cdv qual=true) (S:aI N ps scope)
  (len:∀vs H Q E,sp vs H Q E->vs.length=ps.length)
  (hbody:∀(A:w9)(outer:List Env)(s:wm)(H:Hp)(vs:List V)(Q:VK)(E:XK),ee k (A.deeper (envOfC qual scope s.heap.objs.size f cdv))->sp vs H Q E ->
   ∃t,fE (jd CX P w K mg base N qual scope f cdv A outer s H E) body t/\t {nx:=λ_ H'=>Q .bM H',rt:=Q} (start N vs) H) :
  aF P w K mg base CX (k+1) f (VE name qual params body scope dV kV doc pm an cdv ct) ps sp:=by
 refine⟨len,λA outer s H args us vs Q E hr e0 hb r hsp=>?_⟩;have hl:=len _ _ _ _ hsp;have KX:K.In s.heap:=e0.mod.pA.keeps λb o e=>(e0.bs b o e).1
 have lim:s.heap.NoLimit:=e0.mod.nolimit.keeps λb o e=>(e0.bs b o e).1
 have hkind:∀y∈ps.zip us,scope.names.lookup y.1=some .local\/(scope.names.lookup y.1=some .cell/\((cellsFrom (s.heap.objs.size+1) scope.names []).lookup y.1).isSome=true):=λ⟨n,v⟩ hy=>by
  rcases S.par n (Q1 hy).1 with q | q
  ·exact .inl q
  ·exact .inr ⟨q,xa _ _ _ (.inl q)⟩
 refine codeAny_call_function hr.depth (KX _ _ lk) rfl S.co S.gen rfl (PySem.W.codeRec_of KX hcd) (hb _ _ _ _ ?_);refine wpAny_newFunctionEnv_cells S.kind hkind λenv he s1 x=>?_
 subst he;refine⟨lim.keeps x.toInCall.keep,codeAny_func ?_⟩;obtain⟨t,ht,hq⟩:=hbody A outer s H vs Q E (hr.deeper _) hsp;have I:Inv (jd CX P w K mg base N qual scope f cdv A outer s H E) [] (start N vs) H s1:=Z4 S hr.hd e0 hl r x;refine WE (ht [] s1 (start N vs) H _ I hq) (λfl s' hs=>?_) λe s' hs=>hs
 have fin:∀{σ':St}{H':Hp}{v:V}{u:wf},Inv (jd CX P w K mg base N qual scope f cdv A outer s H E) [] σ' H' s'->aZ v u->Q v H'->CE outer P w H s Q u s' :=
  λ{σ' H' v u} J rv q=>⟨v,H',J.os,J.bare,J.base,J.aM,rv,q⟩
 cases fl with
 | ret u =>
  obtain⟨v,σ',H',J,rv,q⟩:=hs;exact fin J rv q
 | next =>
  obtain⟨σ',H',J,q⟩:=hs;exact fin (v:=V.bM) (u:=Value.none) J rfl q
 | brk =>
  obtain⟨_,_,_,q⟩:=hs;exact WS q
 | cont =>
  obtain⟨_,_,_,q⟩:=hs;exact WS q
section
variable{X:Cx}{x:Str}{p pos:Pos}{e:Expr}{es:List Expr}{t:TA}{id T:String}{r:List V->Hp->VK->Prop}
def rf(r:List V->Hp->VK->Prop)(t:TA):TE:=λσ H Q=>t σ H λvs H1=>r vs H1 Q
theorem c7(hc:bS X (.builtin id) r)(hg:Gl X x)(hm:X.mg x=none)(hv:vI x=some (.builtin id))(ha:PA X (e::es) t)(hn:x≠"__name__":=by decide)(hdb:(x == ("__debug__" : Str))=false:=by decide)
  (he:wS (e::es) X.env=(false,eval e X.env)::wS es X.env:=by rfl) (hpl:(Vz pos (wS es X.env)).any (·.1)=false:=by rfl):PE X (.Call (.Name x p) (e::es) [] pos) (rf r t):=by
 intro pins s σ H Q I h;refine qE (hJ I hg hm hv ?_ hn hdb);exact PyProof.Rows.callWith_builtin1 (aP (ha pos pins s σ H _ I h) λus s1 ⟨vs,H1,I1,r1,q1⟩=>hc pins s1 σ H1 vs us Q I1 r1 q1) he hpl
theorem iY(hc:bS X (.type T) r)(hg:Gl X x)(hm:X.mg x=none)(hv:vI x=some (.type T))(ha:PA X (e::es) t)(hn:x≠"__name__":=by decide)(hdb:(x == ("__debug__" : Str))=false:=by decide)
  (he:wS (e::es) X.env=(false,eval e X.env)::wS es X.env:=by rfl) (hpl:(Vz pos (wS es X.env)).any (·.1)=false:=by rfl):PE X (.Call (.Name x p) (e::es) [] pos) (rf r t):=by
 intro pins s σ H Q I h;refine qE (hJ I hg hm hv ?_ hn hdb);exact vn (aP (ha pos pins s σ H _ I h) λus s1 ⟨vs,H1,I1,r1,q1⟩=>hc pins s1 σ H1 vs us Q I1 r1 q1) he hpl
end
section
variable{κ : Type}[DecidableEq κ]
end
abbrev KT(H:Hp):List (List Key × V)->List (List Key × we × wf)->Prop:=Paired λp q=>p.1=q.1/\H q.2.1=some (.tup (p.1.map kV))/\aZ p.2 q.2.2
section
variable{P:wH}{w:wM}{H:Hp}{h:wJ}{a:we}
end
section
variable{X:Cx}{pins:List (we × Obj)}{σ : St}{H:Hp}{s:wm}{a:we}{y v:V}{u r:wf}{o:Option V}{A:w9}{E:wf->wm->Prop}
theorem Inv.big(I:Inv X pins σ H s):sysModules<s.heap.objs.size:=by
 have h:wP<s.heap.objs.size:=(I.mod.glob.keeps I.bk).lt;exact Nat.lt_trans (by decide) h
end
section
variable{X:Cx}{pins:List (we × Obj)}{σ : St}{H:Hp}{s:wm}{a:we}{kvs:List (Key × V)}{k:Key}{u:wf}{A:w9}{E:wf->wm->Prop}
end
def PH(i:Expr):Prop:=∀ov iv,subscripted i false ov iv=operate [ov,iv] (getItem ov iv)
theorem zBB{prog:wH}{w:wM}{A:w9}{E:wf->wm->Prop}{s:wm}{env:Env}{value slice:Expr}{pos:Pos}{T id:String}{Q:wf->wm->Prop}
  (hl:typeLookup (.type T) "__getitem__"=pure (some (.builtin id))) (hs:PH slice)
  (h:wt (model prog w) A (eval value env) (λo s₁=>wt (model prog w) A (eval slice env) (λi s₂=>s₂.TypeIs o T/\wt (model prog w) A (getItem o i) Q E s₂) E s₁) E s) :
  wt (model prog w) A (eval (.Subscript value slice pos) env) Q E s:=by
 refine Subscript_ (WE h (λo s₁ h₁=>WE h₁ (λi s₂ h₂=>?_) λ_ _ x=>x) λ_ _ x=>x);obtain⟨hT,h₂⟩:=h₂;unfold subscriptTail;refine wg ?_;rw[getitemInPython_of_ne hT.not_modules];refine wg (wpAny_specialOf hT hl ?_)
 have fin:wt (model prog w) A (subscripted slice false o i) (λr s₃=>wt (model prog w) A (letTemporaryGo value o r >>= λ_=>pure r) Q E s₃) E s₂:=by
  rw[hs o i];exact wpAny_operating (WE h₂ (λr s₃ h₃=>wg (wpAny_letTemporaryGo (wy h₃))) λ_ _ x=>x)
 first
  | exact wy (wg fin)
  | exact wg (wy (wg fin))
  | exact wg fin
section
variable{X:Cx}{o i e value:Expr}{pos pos' tpos:Pos}{td ty tv:TE}
end
section
variable{X:Cx}{pos:Pos}
end
abbrev VV:List (V × V)->List (wf × wf)->Prop:=Paired λp q=>aZ p.1 q.1/\aZ p.2 q.2
section
variable{X:Cx}{pins:List (we × Obj)}{σ : St}{H:Hp}{s:wm}{a:we}{y d:V}{u r:wf}{o:Option V}{A:w9}{E:wf->wm->Prop}
end
section
variable{X:Cx}{o e f:Expr}{apos cpos:Pos}{td ty tx:TE}
end
section
variable{X:Cx}{pins:List (we × Obj)}{σ : St}{H:Hp}{s:wm}{a:we}{kvs:List (Key × V)}{A:w9}{E:wf->wm->Prop}
end
section
variable{X:Cx}{pins:List (we × Obj)}{σ : St}{H:Hp}{s:wm}{a:we}{y:V}{u:wf}{A:w9}{E:wf->wm->Prop}
end
end L2
namespace HT
open PySem PyProof.Rows
section
open PySem.SeqAt
open PySem.AutoSeq1 (wpAny_loadPart')
open PySem.MeetsSeq PySem.MeetsSeq2 PySem.MeetsSeq3
end
section
variable{prog:wH}{w:wM}{A:w9}{E:wf->wm->Prop}{s:wm}
theorem YN{t b:we}{vs ws:List wf}{Q:wf->wm->Prop}(ht:IsTup s.heap t vs.toArray)(hb:IsTup s.heap b ws.toArray)(hv:vs≠[])
  (h1:ws=[]->Q (.ref t) s) (h2:ws≠[]->Q (.ref s.heap.objs.size) {s with heap:=s.heap.push {cls:=.type "tuple",data:=.seq (vs++ws).toArray}})
  (hsz:vs.length+ws.length<=wY):wt (model prog w) A (WF .Add (.ref t) (.ref b)) Q E s:=by
 obtain⟨⟨cls,dd,data,sl⟩,ho,hc,n,hd⟩:=id ht;obtain⟨⟨cls2,dd2,data2,sl2⟩,ho2,hc2,n2,hd2⟩:=id hb;simp only at hc hd hc2 hd2;subst hc hd hc2 hd2;have e:vs.toArray++ws.toArray=(vs++ws).toArray:=by simp
 by_cases hw:ws=[]
 ·exact concat_meets ⟨_,ho,rfl⟩ ⟨_,ho2,rfl⟩ noFill_tuple_add seq_tuple_add qS qI (qt _ _)
   (tuple_addW1 t b vs.toArray ws.toArray n n2 dd dd2 sl sl2 (by simpa using hv) (by simp[hw])) ⟨ho,ho2,h1 hw⟩
 ·refine concat_meets ⟨_,ho,rfl⟩ ⟨_,ho2,rfl⟩ noFill_tuple_add seq_tuple_add qS qI (qt _ _)
   (tuple_addW2 t b vs.toArray ws.toArray n n2 dd dd2 sl sl2 (by simpa using hv) (by simpa using hw) (by rw[wK,wK];exact hsz)) ⟨ho,ho2,?_⟩
  rw[e];exact h2 hw
def bA(n d:Nat):Option Int->Nat
 | none=>d
 | some v=>if v<0 then(v+(n:Int)).toNat else min v.toNat n
theorem YI(n d:Nat):bA n d none=d:=rfl
theorem YM(n d k:Nat):bA n d (some (k:Int))=min k n:=by
 show(if(k:Int)<0 then((k:Int)+(n:Int)).toNat else min (k:Int).toNat n)=min k n
 rw[if_neg (by lia),wx]
theorem zDP(n d:Nat)(hd:d<=n)(o:Option Int):bA n d o<=n:=by
 cases o with
 | none=>exact hd
 | some v =>
  show(if v<0 then(v+(n:Int)).toNat else min v.toNat n)<=n
  by_cases hv:v<0
  ·rw[if_pos hv];lia
  ·rw[if_neg hv];exact QN _ _
theorem Yd(v:Int)(n d:Nat):(if v<0 then max (v+(n:Int)) 0 else min v (n:Int))=((bA n d (some v):Nat):Int):=by
 show(if v<0 then max (v+(n:Int)) 0 else min v (n:Int))=(((if v<0 then(v+(n:Int)).toNat else min v.toNat n):Nat):Int)
 by_cases hv:v<0
 ·simp only[if_pos hv];lia
 ·simp only[if_neg hv];lia
theorem zuE(lo hi:Option Int)(n:Nat):qm lo hi 1 (n:Int)=(((bA n 0 lo:Nat):Int),((bA n n hi:Nat):Int)):=by
 have h1:¬ ((1:Int)<0):=by lia
 unfold qm;simp only[h1,if_false];refine VX ?_ ?_
 ·cases lo with
  | none=>rfl
  | some v=>exact Yd v n 0
 ·cases hi with
  | none=>rfl
  | some v=>exact Yd v n n
theorem zut(i j:Nat):VB (i:Int) (j:Int) 1=j-i:=by
 unfold VB;have h1:(1:Int) > 0:=by lia
 simp only[h1,if_true,Int.ediv_one]
 split<;>lia
theorem NH{v:wf}{o:Option Int}{Q:Option Int->wm->Prop}(p:IsPart v o)(h:Q o s):wt (model prog w) A (ue v) Q E s:=by
 cases p with
 | none=>exact slicePart_none h
 | int i t=>exact slicePart_int h
theorem zlX{sl:we}{vl vu:wf}{lo hi:Option Int}{n:Nat}{Q:Int × Int × Nat->wm->Prop}(hs:s.heap.IsSliceOf sl vl vu .none)(pl:IsPart vl lo)(pu:IsPart vu hi)
  (h:Q (((bA n 0 lo:Nat):Int),1,bA n n hi-bA n 0 lo) s):wt (model prog w) A (Qy (.ref sl) (pure (n:Int))) Q E s:=by
 obtain⟨os,hos,hcs,hds⟩:=id hs;unfold Qy uz;refine wg (wg (vv hos hds (x:=vl) rfl (wg (vv hos hds (x:=vu) rfl (wg (vv hos hds (x:=.none) rfl (wy ?_)))))));refine wg (slicePart_none ?_)
 show wt _ _ (if((1:Int) == 0)=true then _ else _) _ _ s
 rw[if_neg (by decide)];refine wg (NH pl (wg (NH pu (wg (wy ?_)))))
 show wt _ _ (match qm lo hi 1 (n:Int)with | (lo,hi)=>pure (lo,(1:Int),VB lo hi 1)) _ _ s
 rw[zuE lo hi n]
 show wt _ _ (pure (((bA n 0 lo:Nat):Int),(1:Int),VB ((bA n 0 lo:Nat):Int) ((bA n n hi:Nat):Int) 1)) _ _ s
 rw[zut];exact wy h
theorem zyW(xs:Array wf)(i k:Nat):((wo k).filterMap λ(m:Nat)=>xs[((i:Int)+(m:Int)*1).toNat]?).toArray=((xs.toList.drop i).take k).toArray:=by
 have e:(λ(m:Nat)=>xs[((i:Int)+(m:Int)*1).toNat]?)=λm=>xs[i+m]?:=by
  funext m
  have:((i:Int)+(m:Int)*1).toNat=i+m:=by lia
  rw[this]
 rw[e];have:=pick_run xs i k;rw[List.filterMap_map]at this;have e2:((λx=>xs[x]?) ∘ λx=>i+x)=λm=>xs[i+m]?:=rfl
 rw[e2]at this;rw[this]
theorem Yv{t sl:we}{items:Array wf}{vl vu:wf}{lo hi:Option Int}{Q:wf->wm->Prop}(ht:IsTup s.heap t items)(hs:s.heap.IsSliceOf sl vl vu .none)(pl:IsPart vl lo)(pu:IsPart vu hi)
  (hw:¬ (bA items.size 0 lo=0/\bA items.size items.size hi=items.size))
  (h:Q (.ref s.heap.objs.size) {s with heap:=s.heap.push {cls:=.type "tuple",data:=.seq ((items.toList.drop (bA items.size 0 lo)).take (bA items.size items.size hi-bA items.size 0 lo)).toArray}})
  (hsz:items.size<=wY):wt (model prog w) A (getItem (.ref t) (.ref sl)) Q E s:=by
 have htake:sizeOk (.seq ((items.toList.drop (bA items.size 0 lo)).take (bA items.size items.size hi-bA items.size 0 lo)).toArray):=by
  show((items.toList.drop (bA items.size 0 lo)).take (bA items.size items.size hi-bA items.size 0 lo)).toArray.size<=wY
  rw[wK,Wo,Wh,W7]
  lia
 have hj:bA items.size items.size hi<=items.size:=zDP _ _ (wp _) hi;obtain⟨os,hos,hcs,hds⟩:=id hs;have hTs:s.TypeIs (.ref sl) "slice":=⟨os,hos,hcs⟩;unfold getItem
 try with_reducible refine WU ?_
 first | refine wg (wy ?_) | skip
 refine wg (wpAny_sequenceKey ht.typeIs (by decide) ?_)
 refine wg (wpAny_callSpecial?_slot (name:=vW "__getitem__") ht.typeIs VP
  (Wj VP ht.typeIs entry_tuple_getitem ?_ (args_tuple_getitem _ _)))
 show wt _ _ (Qz (.ref t) >>= _) _ _ s
 refine wg (tupleItemsOf_ ht ?_);refine wg (wpAny_typeOf hTs ?_);rw[if_pos (by decide)];refine wg (zlX hs pl pu ?_)
 have hno:¬ ((((bA items.size 0 lo:Nat):Int) == 0&&(1:Int) == 1&&(bA items.size items.size hi-bA items.size 0 lo) == items.size)=true):=by
  intro q;rw[wV,wV]at q;have q1:((bA items.size 0 lo:Nat):Int)=0:=eq_of_beq q.1.1;have q2:bA items.size items.size hi-bA items.size 0 lo=items.size:=eq_of_beq q.2;exact hw ⟨by lia,by lia⟩
 show wt _ _ (if(((bA items.size 0 lo:Nat):Int) == 0&&(1:Int) == 1&&(bA items.size items.size hi-bA items.size 0 lo) == items.size)=true then _ else _) _ _ s
 rw[if_neg hno,zyW]
 first
  | exact wg (m:=VF _) (WH (wy ⟨_,rfl,wy h⟩) htake)
  | exact wg (m:=VF _) (WH (wg (wy (wy ⟨_,rfl,wy h⟩))) htake)
  | exact wg (wg (m:=VF _) (WH (wy (wy ⟨_,rfl,wy h⟩)) htake))
  | exact wg (wg (m:=VF _) (WH (wy ⟨_,rfl,wy h⟩) htake))
end
end HT
namespace L2
open PySem PySem.Spec PyProof.Rows
abbrev TO:=St->Hp->(Option Int->Hp->Prop)->Prop
def PO(X:Cx)(e:Option Expr)(t:TO):Prop :=
 ∀(pins:List (we × Obj))(s:wm)(σ : St)(H:Hp)(Q:Option Int->Hp->Prop),Inv X pins σ H s->t σ H Q ->
  wt (model X.prog X.w) X.A (evalPart e X.env) (λu s'=>∃o H',Inv X pins σ H' s'/\IsPart u o/\Q o H') X.xe s
def Sr:TO:=λ_ H Q=>Q none H
def O1(t:TE):TO:=λσ H Q=>t σ H λx H1=>∃i,x=.int i/\Q (some i) H1
theorem zj{ns:List Int} : ∀{us:List wf},aS (ns.map V.int) us->IntsAre us ns:=by
 induction ns with
 | nil=>intro us r;rw[QP]at r;cases r;exact .nil
 | cons n ns ih =>
  intro us r;rw[vd]at r;cases r with
  | cons r1 r2 =>
   obtain⟨t,e⟩:=r1;subst e;exact .cons n t (ih r2)
section
variable{X:Cx}{e:Expr}{te:TE}{lo hi:Option Expr}{tl th:TO}{pos p2:Pos}
theorem lZ:PO X none Sr:=by
 intro pins s σ H Q I h;rw[evalPart_none];exact wy ⟨none,H,I,.none,h⟩
theorem lH(h:PE X e te):PO X (some e) (O1 te):=by
 intro pins s σ H Q I hw;rw[evalPart_some];refine aP (h pins s σ H _ I hw) λu s1 ⟨x,H1,I1,r1,q1⟩=>?_
 obtain⟨i,rfl,q⟩:=q1;obtain⟨t,rfl⟩:=r1;exact⟨some i,H1,I1,.int i t,q⟩
def kZ(X:Cx)(r:V->Option Int->Option Int->Hp->VK->Prop):Prop :=
 ∀(pins:List (we × Obj))(s:wm)(σ : St)(H:Hp)(x:V)(v vl vu:wf)(lo hi:Option Int)(sl:we)(Q:VK),Inv X pins σ H s->aZ x v->s.heap.IsSliceOf sl vl vu .none->IsPart vl lo->IsPart vu hi->r x lo hi H Q ->
  ∃T id,typeLookup (.type T) "__getitem__"=pure (some (.builtin id))/\s.TypeIs v T/\wt (model X.prog X.w) X.A (getItem v (.ref sl)) (EP X pins σ Q) X.xe s
theorem kZ.or{r r':V->Option Int->Option Int->Hp->VK->Prop}(h:kZ X r)(h':kZ X r'):kZ X (λx lo hi H Q=>r x lo hi H Q\/r' x lo hi H Q):=by
 intro pins s σ H x v vl vu lo hi sl Q I rx hs pl pu q;rcases q with q | q
 ·exact h pins s σ H x v vl vu lo hi sl Q I rx hs pl pu q
 ·exact h' pins s σ H x v vl vu lo hi sl Q I rx hs pl pu q
def Rn(r:V->Option Int->Option Int->Hp->VK->Prop)(te:TE)(tl th:TO):TE:=λσ H Q=>te σ H λx H1=>tl σ H1 λl H2=>th σ H2 λu H3=>r x l u H3 Q
theorem kS{r:V->Option Int->Option Int->Hp->VK->Prop}(hr:kZ X r)(he:PE X e te)(hl:PO X lo tl)(hu:PO X hi th):PE X (.Subscript e (.Slice lo hi none p2) pos) (Rn r te tl th):=by
 intro pins s σ H Q I h;refine Subscript_ (aP (he pins s σ H _ I h) λv s1 ⟨x,H1,I1,r1,q1⟩=>?_);refine wpAny_Slice (aP (hl pins s1 σ H1 _ I1 q1) λvl s2 ⟨l,H2,I2,pl,q2⟩=>aP (hu pins s2 σ H2 _ I2 q2) λvu s3 ⟨u,H3,I3,pu,q3⟩=>?_);rw[evalPart_none];refine wy ?_;have I4:Inv X pins σ H3 {s3 with heap:=s3.heap.push {cls:=.type "slice",data:=.fields #[vl,vu,.none]}}:=I3.kept (t':=s3.toks) λb ob q=>wn _ q
 obtain⟨T,id,hT,ht,hg⟩:=hr pins {s3 with heap:=s3.heap.push {cls:=.type "slice",data:=.fields #[vl,vu,.none]}} σ H3 x v vl vu l u s3.heap.objs.size Q I4 r1 (uG ..) pl pu q3
 show wt (model X.prog X.w) X.A (subscriptTail e (.Slice lo hi none p2) v (.ref s3.heap.objs.size)) (EP X pins σ Q) X.xe {s3 with heap:=s3.heap.push {cls:=.type "slice",data:=.fields #[vl,vu,.none]}}
 exact tail_any (ops:=[.ref s3.heap.objs.size,v]) ht hT hg (by with_unfolding_all rfl)
def kh(xs:List V)(lo hi:Option Int):List V:=(xs.drop (HT.bA xs.length 0 lo)).take (HT.bA xs.length xs.length hi-HT.bA xs.length 0 lo)
theorem LK(xs:List V)(lo hi:Option Int):(kh xs lo hi).length<=xs.length:=by
 unfold kh;rw[Wo,Wh]
 lia
def UY(K:wa):V->Option Int->Option Int->Hp->VK->Prop:=λx lo hi H Q=>∃a xs,x=.ref a/\aT K H a xs /\
 ¬ (HT.bA xs.length 0 lo=0/\HT.bA xs.length xs.length hi=xs.length) /\ ∀p,H p=none->Q (.ref p) (upd H p (.tup (kh xs lo hi)))
theorem zCH:kZ X (UY X.K):=by
 intro pins s σ H x v vl vu lo hi sl Q I rx hs pl pu h;obtain⟨a,xs,rfl,hx,hw,q⟩:=h;cases rx;obtain⟨its,r,ht,hz⟩:=I.tuple hx;have hlen:its.toArray.size=xs.length:=by rw[wK];exact r.length.symm
 refine⟨"tuple",_,VP.lookup,ht.typeIs,?_⟩;refine HT.Yv ht hs pl pu (by rw[hlen];exact hw) ?_ (by rw[hlen];exact hz);rw[hlen];refine⟨.ref s.heap.objs.size,_,I.laid (t':=s.toks) (o:=.tup (kh xs lo hi)) (λb ob q=>wn _ q) (wp _) ?_,rfl,q _ (I.aM.fresh (wp _))⟩;exact⟨Wf (LK xs lo hi) hz,_,(r.drop (HT.bA xs.length 0 lo)).take (HT.bA xs.length xs.length hi-HT.bA xs.length 0 lo),qX _ _⟩
def RO(K:wa):R2:=λx y H Q=>∃a b xs ys,x=.ref a/\y=.ref b/\aT K H a xs/\aT K H b ys/\xs≠[]/\xs.length+ys.length<=wY /\
 (ys=[]->Q (.ref a) H)/\(ys≠[]->∀p,H p=none->Q (.ref p) (upd H p (.tup (xs++ys))))
theorem aS.Bf{xs:List V}{us:List wf}(r:aS xs us):us=[] ↔ xs=[]:=by
 cases r with
 | nil=>simp
 | cons _ _=>simp
theorem zBe:bG X (WF .Add) (RO X.K):=by
 intro pins s σ H x y v u Q I rx ry h;obtain⟨a,b,xs,ys,rfl,rfl,ha,hb,hx,hz,q1,q2⟩:=h;cases rx;cases ry;obtain⟨its,r1,p1,_⟩:=I.tuple ha;obtain⟨its2,r2,p2,_⟩:=I.tuple hb;refine HT.YN p1 p2 (λz=>hx (r1.Bf.mp z)) (λz=>⟨.ref a,H,I,rfl,q1 (r2.Bf.mp z)⟩) (λz=>?_) (by rw[<- r1.length,<- r2.length];exact hz);refine⟨.ref s.heap.objs.size,_,I.laid (t':=s.toks) (o:=.tup (xs++ys)) (λb ob q=>wn _ q) (wp _) ?_,rfl,q2 (λw=>z (r2.Bf.mpr w)) _ (I.aM.fresh (wp _))⟩;exact⟨by rw[wN];exact hz,_,r1.append r2,qX _ _⟩
end
def gB(n:Nat)(i:Int):Option Nat:=if 0<=i then(if i<n then some i.toNat else none)else if -(n:Int)<=i then some (i+n).toNat else none
def iH{α : Type}(xs:List α)(i:Int):Option α:=(gB xs.length i).bind λj=>xs[j]?
theorem UX{n:Nat}{i:Int}{j:Nat}(h:gB n i=some j):seqIndex? i n=some j/\j<n /\ -(n:Int)<=i/\i<n:=by
 unfold gB at h
 by_cases h0:0<=i
 ·rw[if_pos h0]at h
  by_cases h1:i<n
  ·rw[if_pos h1]at h
   have e:i.toNat=j:=wZ h;exact⟨by rw[seqIndex_of h0 h1,e],by lia,by lia,h1⟩
  ·rw[if_neg h1]at h;cases h
 ·rw[if_neg h0]at h
  by_cases h1 : -(n:Int)<=i
  ·rw[if_pos h1]at h
   have e:(i+n).toNat=j:=wZ h;exact⟨by rw[seqIndex_neg (by lia) h1,e],by lia,h1,by lia⟩
  ·rw[if_neg h1]at h;cases h
theorem Ef{α : Type}{xs:List α}{i:Int}{v : α}(h:iH xs i=some v):∃j,seqIndex? i xs.length=some j/\xs[j]? = some v/\j<xs.length /\ -(xs.length:Int)<=i/\i<xs.length:=by
 unfold iH at h;cases e:gB xs.length i with
 | none=>rw[e]at h;cases h
 | some j =>
  rw[e]at h;obtain⟨h1,h2,h3,h4⟩:=UX e;exact⟨j,h1,h,h2,h3,h4⟩
theorem mQ{α : Type}{xs:List α}{j:Nat}{v : α}(h:xs[j]? = some v):iH xs (j:Int)=some v:=by
 have hj:j<xs.length:=(W1.mp h).1
 have e:gB xs.length (j:Int)=some j:=by
  unfold gB;rw[if_pos (by lia),if_pos (by lia)];simp
 unfold iH;rw[e];exact h
def zAS(b:Expr):Prop:=∀o i,subscripted b false o i=operate [o,i] (getItem o i)
def fF(X:Cx)(r:R2):Prop :=
 ∀(value slice:Expr)(pins:List (we × Obj))(s:wm)(σ : St)(H:Hp)(x y:V)(v u:wf)(Q:VK),Inv X pins σ H s->aZ x v->aZ y u->r x y H Q ->
  subscripted slice false v u=operate [v,u] (getItem v u)->wt (model X.prog X.w) X.A (subscriptTail value slice v u) (EP X pins σ Q) X.xe s
def Q_(X:Cx)(id:String)(r:V->List V->Hp->VK->Prop):Prop :=
 ∀(pins:List (we × Obj))(s:wm)(σ : St)(H:Hp)(x:V)(xs:List V)(v:wf)(us:List wf)(Q:VK),Inv X pins σ H s->aZ x v->aS xs us->r x xs H Q ->
  wt (model X.prog X.w) X.A (call (.builtin id) (v::us)) (EP X pins σ Q) X.xe s
section
variable{X:Cx}{a b:Expr}{ta tb:TE}{pos:Pos}
variable{σ:St}{H:Hp}{x:V}
theorem fF.or{r r':R2}(h:fF X r)(h':fF X r'):fF X (λx y H Q=>r x y H Q\/r' x y H Q):=by
 intro value slice pins s σ H x y v u Q I rx ry q hs;rcases q with q | q
 ·exact h value slice pins s σ H x y v u Q I rx ry q hs
 ·exact h' value slice pins s σ H x y v u Q I rx ry q hs
theorem de{r:R2}(hr:fF X r)(ha:PE X a ta)(hb:PE X b tb)(hs:zAS b):PE X (.Subscript a b pos) (jh r ta tb):=by
 intro pins s σ H Q I h;exact Subscript_ (BP ha hb I h λv u s2 x y H2 I2 rx ry q=>hr a b pins s2 σ H2 x y v u Q I2 rx ry q (hs _ _))
def OP(K:wa):R2:=λx y H Q=>∃p xs i v,x=.ref p/\y=.int i/\aE K H p xs/\iH xs i=some v/\Q v H
def PJ(K:wa):R2:=λx y H Q=>∃p xs i v,x=.ref p/\y=.int i/\aT K H p xs/\iH xs i=some v/\Q v H
def LQ:R2:=λx y H Q=>∃z i c,x=.str z/\y=.int i/\z.length<=wY/\iH z.cps.toList i=some c/\Q (.str ⟨#[c]⟩) H
theorem zA6 :fF X (OP X.K):=by
 intro value slice pins s σ H x y v u Q I rx ry h hs;obtain⟨p,xs,i,z,rfl,rfl,hq,he,q⟩:=h;cases rx;obtain⟨t,rfl⟩:=ry;obtain⟨its,r,pl,hz⟩:=I.list hq;obtain⟨j,h1,h2,h3,h4,h5⟩:=Ef he;obtain⟨w,ew,rw'⟩:=r.get h2;have hl:=r.length;have hn:=nQ;have fin:EP X pins σ Q w s:=⟨z,H,I,rw',q⟩
 by_cases h0:0<=i
 ·have hj:i.toNat=j:=by
   rw[seqIndex_of h0 h5]at h1;exact wZ h1
  exact item_listR pl.isList h0 (by lia) (by rw[hj];simpa using ew) fin hs
 ·have hj:(i+(its.toArray.size:Int)).toNat=j:=by
   rw[seqIndex_neg (by lia) h4]at h1;rw[wK,<- hl];exact wZ h1
  exact subscriptTail_builtinR (x:=w) pl.isList.typeIs slot_list_getitem.lookup
   (wpAny_getItem_list_neg (Q:=λr s'=>r=w/\EP X pins σ Q r s') pl.isList (by lia) (by rw[wK]<;>lia) (by lia) (by rw[hj];simpa using ew) ⟨rfl,fin⟩) hs
theorem zDK :fF X (PJ X.K):=by
 intro value slice pins s σ H x y v u Q I rx ry h hs;obtain⟨p,xs,i,z,rfl,rfl,hq,he,q⟩:=h;cases rx;obtain⟨t,rfl⟩:=ry;obtain⟨its,r,pl,hz⟩:=I.tuple hq;obtain⟨j,h1,h2,h3,h4,h5⟩:=Ef he;obtain⟨w,ew,rw'⟩:=r.get h2;have hl:=r.length;have hn:=nQ;have fin:EP X pins σ Q w s:=⟨z,H,I,rw',q⟩
 exact subscriptTail_builtinR (x:=w) pl.typeIs slot_tuple_getitem.lookup
  (getItem_tuple (j:=j) (Q:=λr s'=>r=w/\EP X pins σ Q r s') pl (by lia) (by lia) (by rw[wK,<- hl];exact h1) (by simpa using ew) ⟨rfl,fin⟩) hs
theorem zDd :fF X LQ:=by
 intro value slice pins s σ H x y v u Q I rx ry h hs;obtain⟨z,i,c,rfl,rfl,hz,he,q⟩:=h;obtain⟨t,rfl⟩:=rx;obtain⟨t',rfl⟩:=ry;obtain⟨j,h1,h2,h3,h4,h5⟩:=Ef he;have hl:z.cps.toList.length=z.length:=by simp[Str.length]
 rw[hl]at h1 h4 h5;have hn:=nQ
 exact tail_any (typeIs_str s z t) slot_str_getitem.lookup (getItem_str (c:=c) (by
  have e1:decide (i < -(2^63:Int))=false:=decide_eq_false (by lia);have e2:decide (i ≥ 2^63)=false:=decide_eq_false (by lia);rw[e1,e2,Bool.or_false]) (by rw[h1];simpa using h2) ⟨.str ⟨#[c]⟩,H,I.tok _,⟨_,rfl⟩,q⟩) hs
def c_(K:wa):R2:=λx y H Q=>OP K x y H Q\/PJ K x y H Q\/LQ x y H Q
theorem cD :fF X (c_ X.K):=zA6.or (zDK.or zDd)
theorem zvp(its:List wf)(n j:Nat)(u:wf):QJ (·.setIfInBounds j u) {cls:=.type "list",data:=.seq its.toArray n} = {cls:=.type "list",data:=.seq (its.set j u).toArray n}:=by
 simp[QJ]
theorem Inv.lst{pins:List (we × Obj)}{s:wm}{p:we}{xs:List V}(I:Inv X pins σ H s)(h:H p=some (.lst xs)) :
  ∃(its:List wf)(n:Nat),aS xs its/\s.heap.get? p=some {cls:=.type "list",data:=.seq its.toArray n}/\xs.length<=wY:=by
 obtain⟨z,its,n,r,e⟩:=I.aM p _ h;exact⟨its,n,r,e,z⟩
theorem Inv.YR{pins:List (we × Obj)}{s:wm}{p:we}{xs ys:List V}{its its':List wf}{n n':Nat}{f:Obj->Obj}(I:Inv X pins σ H s)(h:H p=some (.lst xs))
  (ho:s.heap.get? p=some {cls:=.type "list",data:=.seq its.toArray n}) (hf:f {cls:=.type "list",data:=.seq its.toArray n} = {cls:=.type "list",data:=.seq its'.toArray n'}) (r:aS ys its') (hz:ys.length<=wY) (t:Nat) :
  Inv X pins σ (upd H p (.lst ys)) {s with heap:=s.heap.update p f,toks:=t}:=by
 have e:(s.heap.update p f).get? p=some {cls:=.type "list",data:=.seq its'.toArray n'}:=by
  rw[V3 f ho (by rw[hf]<;>rfl),hf]
 refine I.write (x:=p) (e:=p) (by rw[h];trivial) (.inl rfl) (λb u hb q=>(qT _ _ (WB hb)).trans q) ⟨_,e⟩ ?_;exact⟨hz,its',n',r,e⟩
def Px:V->V->V->Hp->(Hp->Prop)->Prop:=λo i v H Q=>∃p xs k j,o=.ref p/\i=.int k/\H p=some (.lst xs)/\gB xs.length k=some j/\Q (upd H p (.lst (xs.set j v)))
theorem mM :NV X Px:=by
 intro pins s σ H o i v ov iv u Q I ro ri rv h;obtain⟨p,xs,k,j,rfl,rfl,hp,hj,q⟩:=h;cases ro;obtain⟨t,rfl⟩:=ri;obtain⟨its,n,r,ho,hz⟩:=I.lst hp;obtain⟨h1,h2,h3,h4⟩:=UX hj;have hl:=r.length;have hn:=nQ
 have I':Inv X pins σ (upd H p (.lst (xs.set j v))) {s with heap:=s.heap.update p (QJ (·.setIfInBounds j u))} :=
  I.YR hp ho (zvp its n j u) (r.set rv j) (by rw[Wt];exact hz) s.toks
 by_cases h0:0<=k
 ·have hk:k.toNat=j:=by
   rw[seqIndex_of h0 h4]at h1;exact wZ h1
  exact PySem.W.ki_setAt ho h0 (by lia) (by rw[wK,<- hl];exact h4) (by rw[hk];exact⟨_,I',q⟩)
 ·have hk:(k+(its.toArray.size:Int)).toNat=j:=by
   rw[seqIndex_neg (by lia) h3]at h1;rw[wK,<- hl];exact wZ h1
  exact PySem.W.ki_setBack ho (by lia) (by rw[wK,<- hl];exact h3) (by lia) (by rw[hk];exact⟨_,I',q⟩)
theorem zqO(lo hi:Option Int)(n:Nat):(ql lo hi none n).1=((HT.bA n 0 lo:Nat):Int)/\(ql lo hi none n).2.1=((HT.bA n n hi:Nat):Int)/\(ql lo hi none n).2.2=1:=by
 refine⟨?_,?_,rfl⟩
 ·cases lo with
  | none=>simp[ql,HT.bA]
  | some i =>
   simp only[ql,HT.bA,XH,show(1:Int) > 0 by decide,if_true]
   by_cases h:i<0
   ·simp only[h,if_true]<;>lia
   ·simp only[h,if_false]<;>lia
 ·cases hi with
  | none=>simp[ql,HT.bA]
  | some i =>
   simp only[ql,HT.bA,XH,show(1:Int) > 0 by decide,if_true]
   by_cases h:i<0
   ·simp only[h,if_true]<;>lia
   ·simp only[h,if_false]<;>lia
theorem zpg(its:List wf)(lo hi:Option Int):slicePick its.toArray lo hi none=((its.drop (HT.bA its.length 0 lo)).take (HT.bA its.length its.length hi-HT.bA its.length 0 lo)).toArray:=by
 obtain⟨h1,h2,h3⟩:=zqO lo hi its.toArray.size;unfold slicePick;rw[h1,h2,h3];simp only[sliceRange_one,pick_run,wK]<;>rfl
def Tp(K:wa):V->Option Int->Option Int->Hp->VK->Prop:=λx lo hi H Q=>∃a xs,x=.ref a/\aE K H a xs /\ ∀p,H p=none->Q (.ref p) (upd H p (.lst (kh xs lo hi)))
theorem zBc :kZ X (Tp X.K):=by
 intro pins s σ H x v vl vu lo hi sl Q I rx hs pl pu h;obtain⟨a,xs,rfl,hx,q⟩:=h;cases rx;obtain⟨its,r,ht,hz⟩:=I.list hx;have hlen:=r.length;refine⟨"list",_,slot_list_getitem.lookup,ht.isList.typeIs,?_⟩;refine wpAny_getItem_list_slice ht.isList hs pl pu .none (by simp) ?_ (by rw[wK]<;>lia);rw[zpg,<- hlen];refine⟨.ref s.heap.objs.size,_,I.laid (t':=s.toks) (o:=.lst (kh xs lo hi)) (λb ob q=>wn _ q) (wp _) ?_,rfl,q _ (I.aM.fresh (wp _))⟩;exact⟨Wf (LK xs lo hi) hz,_,0,(r.drop (HT.bA xs.length 0 lo)).take (HT.bA xs.length xs.length hi-HT.bA xs.length 0 lo),wO _ rfl⟩
def jH:V->Bool
 | .bM=>true
 | .bl _=>true
 | .int _=>true
 | .str _=>true
 | _=>false
def mh:V->V->Bool
 | .bM,.bM=>true
 | .bl a,.bl b=>a == b
 | .bl a,.int b=>(if a then 1 else 0) == b
 | .int a,.bl b=>a == (if b then 1 else 0)
 | .int a,.int b=>a == b
 | .str a,.str b=>a == b
 | _,_=>false
theorem zCN{A:w9}{s:wm}{y:V}{u v:wf}(ry:aZ y u)(rx:aZ x v)(fy:jH y=true)(fx:jH x=true):SeqAt.EqAt A s u v (mh y x):=by
 cases y with
 | bM =>
  cases ry;cases x with
  | bM=>cases rx;exact SeqAt.EqAt.same _
  | bl b=>cases rx;exact SeqAt.EqAt.none_bool b
  | int b=>obtain⟨t,rfl⟩:=rx;exact SeqAt.EqAt.none_int b t
  | str b=>obtain⟨t,rfl⟩:=rx;exact SeqAt.EqAt.none_str b t
  | _=>exact absurd (show false=true from fx) vC
 | bl a =>
  cases ry;cases x with
  | bM=>cases rx;exact SeqAt.EqAt.bool_none a
  | bl b=>cases rx;exact SeqAt.EqAt.bool_bool a b
  | int b=>obtain⟨t,rfl⟩:=rx;exact SeqAt.EqAt.bool_int a b t
  | str b=>obtain⟨t,rfl⟩:=rx;exact SeqAt.EqAt.bool_str a b t
  | _=>exact absurd (show false=true from fx) vC
 | int a =>
  obtain⟨t',rfl⟩:=ry;cases x with
  | bM=>cases rx;exact SeqAt.EqAt.int_none a t'
  | bl b=>cases rx;exact SeqAt.EqAt.int_bool a t' b
  | int b=>obtain⟨t,rfl⟩:=rx;exact SeqAt.EqAt.int_int a t' b t
  | str b=>obtain⟨t,rfl⟩:=rx;exact xR a t' b t
  | _=>exact absurd (show false=true from fx) vC
 | str a =>
  obtain⟨t',rfl⟩:=ry;cases x with
  | bM=>cases rx;exact SeqAt.EqAt.str_none a t'
  | bl b=>cases rx;exact SeqAt.EqAt.str_bool a t' b
  | int b=>obtain⟨t,rfl⟩:=rx;exact xS a t' b t
  | str b=>obtain⟨t,rfl⟩:=rx;exact SeqAt.EqAt.str_str a t' b t
  | _=>exact absurd (show false=true from fx) vC
 | _=>exact absurd (show false=true from fy) vC
def fU(x:V)(u:wf):Bool:=match u with
 | .none=>mh .bM x
 | .bool b=>mh (.bl b) x
 | .int i _=>mh (.int i) x
 | .str z _=>mh (.str z) x
 | _=>false
theorem N2{y:V}{u:wf}(r:aZ y u)(f:jH y=true):fU x u=mh y x:=by
 cases y with
 | bM=>cases r;rfl
 | bl b=>cases r;rfl
 | int i=>obtain⟨t,rfl⟩:=r;rfl
 | str z=>obtain⟨t,rfl⟩:=r;rfl
 | _=>exact absurd (show false=true from f) vC
theorem pI{x:V} : ∀{xs:List V}{us:List wf},aS xs us->xs.all jH=true->us.any (fU x)=xs.any λy=>mh y x
 | _,_,.nil,_=>rfl
 | y::xs,u::us,.cons r t,f=>by
  rw[xG,wV]at f;rw[QC,QC,N2 r f.1,pI t f.2]
theorem sx{A:w9}{s:wm}{x:V}{v:wf}(rx:aZ x v)(fx:jH x=true):∀{xs:List V}{us:List wf},aS xs us->xs.all jH=true->∀u∈us,SeqAt.EqAt A s u v (fU x u)
 | _,_,.nil,_=>λu hu=>by cases hu
 | y::xs,u::us,.cons r t,f=>λu' hu=>by
  rw[xG,wV]at f;rcases wL.mp hu with rfl | hu
  ·rw[N2 r f.1];exact zCN r rx f.1 fx
  ·exact sx rx fx t f.2 u' hu
def nO(x:V)(xs:List V):Bool:=xs.any λy=>mh y x
def fu(K:wa)(neg:Bool):R2:=λx y H Q=>∃p xs,y=.ref p/\(aE K H p xs\/aT K H p xs)/\jH x=true/\xs.all jH=true/\Q (.bl (if neg then !nO x xs else nO x xs)) H
theorem zxi :bG X (vP .In) (fu X.K false):=by
 intro pins s σ H x y v u Q I rx ry h;obtain⟨p,xs,rfl,hq,fx,fs,q⟩:=h;cases ry;rcases hq with hq | hq
 ·obtain⟨its,r,pl,hz⟩:=I.list hq
  refine SeqAt.in_listAt (fU x) pl.isList (λw hw=>sx rx fx r fs w (by simpa using hw)) ⟨.bl _,H,I,rfl,?_⟩;rw[show its.toArray.any (fU x)=its.any (fU x) by simp,pI r fs];exact q
 ·obtain⟨its,r,pl,hz⟩:=I.tuple hq
  refine SeqAt.in_tupleAt (fU x) pl (λw hw=>sx rx fx r fs w (by simpa using hw)) ⟨.bl _,H,I,rfl,?_⟩;rw[show its.toArray.any (fU x)=its.any (fU x) by simp,pI r fs];exact q
theorem zrT :bG X (vP .NotIn) (fu X.K true):=by
 intro pins s σ H x y v u Q I rx ry h;obtain⟨p,xs,rfl,hq,fx,fs,q⟩:=h;cases ry;rcases hq with hq | hq
 ·obtain⟨its,r,pl,hz⟩:=I.list hq
  refine SeqAt.notIn_listAt (fU x) pl.isList (λw hw=>sx rx fx r fs w (by simpa using hw)) ⟨.bl _,H,I,rfl,?_⟩;rw[show its.toArray.any (fU x)=its.any (fU x) by simp,pI r fs];exact q
 ·obtain⟨its,r,pl,hz⟩:=I.tuple hq
  refine SeqAt.notIn_tupleAt (fU x) pl (λw hw=>sx rx fx r fs w (by simpa using hw)) ⟨.bl _,H,I,rfl,?_⟩;rw[show its.toArray.any (fU x)=its.any (fU x) by simp,pI r fs];exact q
theorem zru :bS X (.builtin "len") (λxs H Q=>∃p ys,xs=[.ref p]/\(aE X.K H p ys\/aT X.K H p ys)/\Q (.int ys.length) H):=by
 intro pins s σ H xs us Q I r h;obtain⟨p,ys,rfl,hq,q⟩:=h;obtain⟨u,rfl,rx⟩:=iZ r;cases rx;have hn:=nQ;rcases hq with hq | hq
 ·obtain⟨its,r',pl,hz⟩:=I.list hq
  have hlen:=r'.length;exact Calls.call_len_list pl.isList (by simp only[wK]<;>lia) ⟨.int ys.length,H,I.tok _,⟨s.toks+1,by rw[wK,hlen]⟩,q⟩
 ·obtain⟨its,r',pl,hz⟩:=I.tuple hq
  have hlen:=r'.length;exact len_tuple pl (by simp only[wK]<;>lia) ⟨.int ys.length,H,I.tok _,⟨s.toks+1,by rw[wK,hlen]⟩,q⟩
theorem zrN :bS X (.type "list") (λxs H Q=>∃p ys,xs=[.ref p]/\(aE X.K H p ys\/aT X.K H p ys) /\ ∀l,H l=none->Q (.ref l) (upd H l (.lst ys))):=by
 intro pins s σ H xs us Q I r h;obtain⟨p,ys,rfl,hq,q⟩:=h;obtain⟨u,rfl,rx⟩:=iZ r;cases rx
 have fin:∀(its:List wf),aS ys its->ys.length<=wY->∀(h':wJ)(c':Nat),(∀b o',s.heap.get? b=some o'->h'.get? b=some o') ->
     h'.get? s.heap.objs.size=some {cls:=.type "list",dict:=none,data:=.seq its.toArray c',slots:=#[]}->EP X pins σ Q (.ref s.heap.objs.size) {s with heap:=h'}:=λits r' hz h' c' kp e =>
   ⟨.ref s.heap.objs.size,_,I.laid (t':=s.toks) kp (wp _) (show dR X.prog X.w _ h' _ (.lst ys)from⟨hz,its,c',r',e⟩),rfl,q _ (I.aM.fresh (wp _))⟩
 rcases hq with hq | hq
 . obtain⟨its,r',pl,hz⟩:=I.list hq
   have hlen:=r'.length;obtain⟨o,ho,hc,n,hd⟩:=pl.isList;exact call_list_seq p (.inl rfl) ho hc hd (λh' c' kp e=>fin its r' hz h' c' kp e) (by simp only[wK]<;>lia)
 . obtain⟨its,r',pl,hz⟩:=I.tuple hq
   have hlen:=r'.length;obtain⟨o,ho,hc,n,hd⟩:=pl;exact call_list_seq p (.inr rfl) ho hc hd (λh' c' kp e=>fin its r' hz h' c' kp e) (by simp only[wK]<;>lia)
theorem zpB :bS X (.type "tuple") (λxs H Q=>∃p ys,xs=[.ref p]/\((aE X.K H p ys /\ ∀l,H l=none->Q (.ref l) (upd H l (.tup ys)))\/(aT X.K H p ys/\Q (.ref p) H))):=by
 intro pins s σ H xs us Q I r h;obtain⟨p,ys,rfl,h⟩:=h;obtain⟨u,rfl,rx⟩:=iZ r;cases rx;rcases h with⟨hq,q⟩ | ⟨hq,q⟩
 ·obtain⟨its,r',pl,hz⟩:=I.list hq
  have hlen:=r'.length;refine call_tuple_list pl.isList (λh' kp=>?_) (by simp only[wK]<;>lia);have I1:Inv X pins σ H {s with heap:=h'}:=I.kept (t':=s.toks) kp
  have I2:Inv X pins σ (upd H h'.objs.size (.tup ys)) {s with heap:=h'.push {cls:=.type "tuple",data:=.seq its.toArray}} :=
   I1.laid (t':=s.toks) (λb o e=>wn _ e) (wp _) (show dR X.prog X.w _ _ _ (.tup ys)from⟨hz,its,r',qX _ _⟩)
  exact⟨.ref h'.objs.size,_,I2,rfl,q _ (I1.aM.fresh (wp _))⟩
 ·obtain⟨its,r',pl,hz⟩:=I.tuple hq
  exact call_tuple_same pl ⟨.ref p,H,I,rfl,q⟩
def zZ(K:wa)(T:String)(x:V)(H:Hp):Prop:=match x with
 | .str _=>T="str"
 | .int _=>T="int"
 | .ref p=>(T="list" /\ ∃xs,aE K H p xs)\/(T="tuple" /\ ∃o,K.lookup p=some o/\o.cls=.type "tuple"/\o.dict=none) \/
     (T="dict"/\((∃kvs,H p=some (.dK kvs)) \/ ∃kvs,H p=some (.dT kvs)))\/(T="set" /\ ∃S n,H p=some (.set S n))
 | _=>False
theorem zCS{pins:List (we × Obj)}{s:wm}{T:String}{v:wf}(I:Inv X pins σ H s)(r:aZ x v)(ty:zZ X.K T x H) :
  s.TypeIs v T /\ ∀a,v=.ref a->∃ob,s.heap.get? a=some ob/\ob.dict=none:=by
 cases x with
 | str z =>
  obtain⟨t,rfl⟩:=r;cases (show T="str" from ty);exact⟨typeIs_str s z t,λ_ e=>nomatch e⟩
 | int i =>
  obtain⟨t,rfl⟩:=r;cases (show T="int" from ty);exact⟨typeIs_int s i t,λ_ e=>nomatch e⟩
 | ref p =>
  cases r;rcases ty with⟨rfl,xs,hq⟩ | ⟨rfl,o,hk,hc,hd⟩ | ⟨rfl,hk⟩ | ⟨rfl,S,n,hk⟩
  ·obtain⟨its,_,pl,_⟩:=I.list hq
   refine⟨pl.isList.typeIs,λa e=>?_⟩;cases e;obtain⟨o,n,e,c,hd,_⟩:=pl;exact⟨o,e,hd⟩
  ·refine⟨⟨o,I.dW p o hk,hc⟩,λa e=>?_⟩
   cases e;exact⟨o,I.dW _ o hk,hd⟩
  ·have z:∃o,s.heap.get? p=some o/\o.ExactDict:=by
    rcases hk with⟨kvs,hk⟩ | ⟨kvs,hk⟩
    ·obtain⟨_,_,_,_,o,_,_,e,ex,_⟩:=I.aM p _ hk
     exact⟨o,e,ex⟩
    ·obtain⟨_,_,_,_,o,_,_,e,ex,_⟩:=I.aM p _ hk
     exact⟨o,e,ex⟩
   obtain⟨o,e,ex⟩:=z;refine⟨⟨o,e,ex.1⟩,λa e2=>?_⟩;cases e2;exact⟨o,e,ex.2.1⟩
  ·obtain⟨o,_,_,_,e,ex,_⟩:=I.aM p _ hk
   refine⟨⟨o,e,ex.1⟩,λa e2=>?_⟩;cases e2;exact⟨o,e,ex.2.1⟩
 | _=>exact WS ty
def Ui(K:wa)(T:String)(r:V->List V->Hp->VK->Prop)(to:TE)(t:TA):TE:=λσ H Q=>to σ H λx H1=>zZ K T x H1/\t σ H1 λxs H2=>r x xs H2 Q
variable{o e:Expr}{es:List Expr}{to:TE}{t:TA}{name:Str}{apos cpos:Pos}{T id:String}{r:V->List V->Hp->VK->Prop}
theorem iN(pa:PlainAttrs T)(slot:Slot T name id)(hty:typeOf (.builtin id)=pure (.type "method_descriptor"))(hm:Q_ X id r)(ho:PE X o to)(ha:PA X (e::es) t)
  (hbase:attributeBase o name X.env (eval o X.env)=eval o X.env:=by rfl)
  (hfew:((Vz cpos (wS (e::es) X.env)).all (λx=>!x.1)&&(backToKw cpos (keywordEach [] X.env)).all (λx=>x.1.isSome)
   && decide ((e::es).length+([]:List Keyword).length+(if([]:List Keyword).isEmpty then 0 else 1)<30))=true:=by rfl)
  (hline:(apos.endLine == cpos.line)=true:=by rfl) (hs:wS (e::es) X.env=(false,eval e X.env)::wS es X.env:=by rfl) (hplain:(Vz cpos (wS es X.env)).any (·.1)=false:=by rfl) :
  PE X (.Call (.Attribute o name apos) (e::es) [] cpos) (Ui X.K T r to t):=by
 intro pins s σ H Q I h;refine wpAny_Call_method_late hbase hfew hline rfl (aP (ho pins s σ H _ I h) λv s1 ⟨x,H1,I1,r1,ty,q1⟩=>?_);obtain⟨h1,h2⟩:=zCS I1 r1 ty;refine⟨T,id,pa,slot,hty,h1,h2,?_⟩;have hA:=ha cpos pins s1 σ H1 _ I1 q1;rw[hs]at hA ⊢;refine Calls.callWith_builtin (by show(false || (Vz cpos (wS es X.env)).any (·.1))=false;rw[hplain]<;>rfl) (xy ?_);exact aP hA λus s2 ⟨vs,H2,I2,r2,q2⟩=>hm pins s2 σ H2 x vs v us Q I2 r1 r2 q2
end
def Cd(X:Cx)(id:String)(r:V->List V->Hp->VK->Prop):Prop :=
 ∀(pins:List (we × Obj))(s:wm)(σ : St)(H:Hp)(x:V)(xs:List V)(v:wf)(us:List wf)(Q:VK),Inv X pins σ H s->aZ x v->aS xs us->r x xs H Q ->
  wt (model X.prog X.w) X.A (call (.builtin id) (v::us)) (EP X pins σ Q) X.xe s
theorem aS.one:∀{x:V}{us:List wf},aS [x] us->∃u,us=[u]/\aZ x u
 | _,_,.cons r .nil=>⟨_,rfl,r⟩
theorem aS.rep{xs:List V}{us:List wf}(h:aS xs us):∀k:Nat,aS (vf k xs).flatten (vf k us).flatten
 | 0=>.nil
 | k+1=>by
  rw[VO,VO,Vv,Vv];exact aS.append h (aS.rep h k)
theorem Sg(its:List wf):∀(k:Nat)(acc:List wf),
  XY (λx1 x2=>x1++x2) acc.toArray (vf k its.toArray)=(acc++(vf k its).flatten).toArray
 | 0,acc=>by simp
 | k+1,acc=>by
  have e:acc.toArray++its.toArray=(acc++its).toArray:=by simp
  have e2:(acc++its)++(vf k its).flatten=acc++(vf (k+1) its).flatten:=by
   rw[VO,Vv,W2]
  rw[<- e2,<- Sg its k (acc++its),<- e,VO,List.foldl_cons]
section
variable{X:Cx}{pins:List (we × Obj)}{σ : St}{H:Hp}{s:wm}{l b:we}{xs ys zs:List V}
theorem Inv.Y1{its its':List wf}{n:Nat}{f:Array wf->Array wf}{t':Nat}(I:Inv X pins σ H s)(hH:H l=some (.lst xs))
  (e:s.heap.get? l=some {cls:=.type "list",data:=.seq its.toArray n}) (hf:f its.toArray=its'.toArray) (hv:aS ys its') (hz:ys.length<=wY) :
  Inv X pins σ (upd H l (.lst ys)) {s with heap:=s.heap.update l (QJ f),toks:=t'}:=by
 have q:=PySem.IsL.update e f;rw[hf]at q;refine I.write (x:=l) (e:=l) (by rw[hH];exact trivial) (.inl rfl) (λb' u hb hu=>(qT s.heap (QJ f) (WB hb)).trans hu) ⟨_,q⟩ ?_;exact⟨hz,its',_,hv,q⟩
theorem Inv.Bl{its:List wf}{t':Nat}(I:Inv X pins σ H s)(hv:aS ys its)(hz:ys.length<=wY) :
  Inv X pins σ (upd H s.heap.objs.size (.lst ys)) {s with heap:=s.heap.push {cls:=.type "list",data:=.seq its.toArray},toks:=t'} :=
 I.laid (λ_ _ q=>wn _ q) (wp _) ⟨hz,its,0,hv,wO _ rfl⟩
theorem Inv.fresh(I:Inv X pins σ H s):H s.heap.objs.size=none:=I.aM.fresh (wp _)
theorem Inv.pj(I:Inv X pins σ H s)(hH:H l=some (.lst xs)):xs.length<=wY /\ ∃(its:List wf)(n:Nat),aS xs its/\xs.length=its.length/\s.heap.get? l=some {cls:=.type "list",data:=.seq its.toArray n}:=by
 obtain⟨z,its,n,r,e⟩:=I.aM l _ hH;exact⟨z,its,n,r,r.length,e⟩
theorem zzF{n:Nat}(h:n<=wY):qu n=false:=by
 unfold qu;exact decide_eq_false (by lia)
end
section
variable{X:Cx}
def Sw:V->List V->Hp->VK->Prop:=λx vs H Q=>∃l xs y,x=.ref l/\vs=[y]/\H l=some (.lst xs)/\xs.length<wY/\Q .bM (upd H l (.lst (xs++[y])))
theorem iJ:Cd X "list.append" Sw:=by
 intro pins s σ H x vs v us Q I rx rv h;obtain⟨l,xs,y,rfl,rfl,hH,hz,q⟩:=h;cases rx;obtain⟨u,rfl,ru⟩:=rv.one;obtain⟨z,its,n,r,hl,e⟩:=I.pj hH;refine call_meets F.slot_list_append ⟨_,e,rfl⟩ F.entry_list_append (F.args_list_append_2 _ _) (PySem.list_append l its.toArray n u (by rw[wK];lia)) ⟨e,?_⟩;refine⟨.bM,_,I.Y1 (its':=its++[u]) hH e (by simp) (r.append (.cons ru .nil)) ?_,rfl,q⟩;rw[wN,vV]
 lia
def BN:R2:=λx y H Q=>∃l b xs zs,x=.ref l/\y=.ref b/\H l=some (.lst xs)/\H b=some (.lst zs)/\xs.length+zs.length<=wY /\ ∀p,H p=none->Q (.ref p) (upd H p (.lst (xs++zs)))
theorem zDH:bG X (WF .Add) BN:=by
 intro pins s σ H x y v u Q I rx ry h;obtain⟨l,b,xs,zs,rfl,rfl,hH,hB,hz,q⟩:=h;cases rx;cases ry;obtain⟨z,its,n,r,hl,e⟩:=I.pj hH;obtain⟨z2,its2,n2,r2,hl2,e2⟩:=I.pj hB;refine PySem.P.add_list e e2 ?_ (by rw[wK,wK];lia);have ea:its.toArray++its2.toArray=(its++its2).toArray:=by simp
 rw[ea];exact⟨.ref _,_,I.Bl (t':=s.toks) (r.append r2) (by rw[wN];lia),rfl,q _ I.fresh⟩
def nI:R2:=λx y H Q=>∃l k xs,x=.ref l/\y=.int k/\H l=some (.lst xs) /\ -(2^63)<=k/\k<2^63/\xs.length*k.toNat<=wY /\
 ∀p,H p=none->Q (.ref p) (upd H p (.lst (vf k.toNat xs).flatten))
theorem zBt{α : Type}(xs:List α)(k:Nat):(vf k xs).flatten.length=k*xs.length:=by
 induction k with
 | zero=>simp
 | succ k ih=>rw[VO,Vv,wN,ih,qw,Nat.add_comm]
theorem Gk:bG X (WF .Mult) nI:=by
 intro pins s σ H x y v u Q I rx ry h;obtain⟨l,k,xs,rfl,rfl,hH,h1,h2,hz,q⟩:=h;cases rx;obtain⟨t,rfl⟩:=ry;obtain⟨z,its,n,r,hl,e⟩:=I.pj hH;have hlen:its.toArray.size*k.toNat<=wY:=by rw[wK,<- hl];exact hz
 have hcap:¬ its.toArray.size*k.toNat > (2^63-1) / 8:=by
  have:(wY:Nat)<=(2^63-1) / 8:=by decide
  lia
 have hfit:¬ (!Builtin.List.listFitsIndex k)=true:=by
  rw[fitsIndex_both h1 h2];exact vC
 have hlong:¬ qu (its.toArray.size*k.toNat)=true:=by
  rw[zzF hlen];exact vC
 have hnew:XY (λx1 x2=>x1++x2) #[] (vf (if its.toArray.isEmpty=true then 0 else k.toNat) its.toArray)=(vf k.toNat its).flatten.toArray:=by
  have f0:∀m:Nat,XY (λx1 x2=>x1++x2) #[] (vf m its.toArray)=(vf m its).flatten.toArray:=λm=>by
   have:=Sg its m [];rw[qo]at this;exact this
  rw[f0];cases its with
  | nil=>simp
  | cons a r'=>rw[if_neg (by simp)]
 refine wpAny_binaryOp_repeat_ref (T:="list") (U:="int") (by decide) ⟨_,e,rfl⟩ (λs'=>typeIs_int s' k t) noFill_list_mul F.fills_int_mul XZ repeat_list F.slot_int_index.lookup
  (call_meets XZ (typeIs_int s k t) F.entry_int_rmul (F.args_int_rmul_2 _ _) (int___rmul___int_list k t l its.toArray n)
   ⟨e,rfl,⟨_,e,rfl⟩,call_meets F.slot_list_mul ⟨_,e,rfl⟩ F.entry_list_mul (F.args_list_mul_2 _ _) (AutoListH.list___mul___list_int_3 l its.toArray n k t hfit hcap hlong) ⟨e,?_⟩⟩)
 rw[hnew];exact⟨.ref _,_,I.Bl (t':=s.toks) (r.rep k.toNat) (by rw[zBt,xW];exact hz),rfl,q _ I.fresh⟩
end
section
variable{prog:wH}{w:wM}{A:w9}{E:wf->wm->Prop}{s:wm}
end
section
variable{X:Cx}
end
end L2
namespace Att
open PySem PySem.W PySem.Calls PyProof.Rows
theorem znu{P:Params}{h:wJ} : ∀(ns:List Int)(vs:List wf),WellAll P h vs (ns.map WData.int)->IntsAre vs ns:=by
 intro ns
 induction ns with
 | nil =>
  intro vs w;rw[QP]at w;cases w;exact .nil
 | cons n ns ih =>
  intro vs w;rw[vd]at w;cases w with
  | cons a b =>
   cases a;exact .cons _ _ (ih _ b)
theorem zxw{l:OpenLaw}{n:Nat}(hn:l.most=some n){P:Params}{h:wJ}{args:List WData}{vals:List wf}
  (hpre:l.row.toRowW.claim.pre args=true) (hwl:WellAll P h vals args) :
  ∃a vs ns,vals=[Value.ref a]/\args=[WData.list (ns.map WData.int)]/\h.get? a=some {cls:=.type "list",data:=.seq vs.toArray}/\IntsAre vs ns/\ns.length<=n:=by
 have hsh:WShape.hasAll [] args [.list .int]=true:=(pre_splitW hpre).1;have hc:l.pre.holds [] {args:=args}=true:=(pre_splitW hpre).2;obtain⟨d,r,rfl,h1,h2⟩:=hasAllW_cons hsh;obtain rfl:=hasAllW_nil h2;obtain⟨xs,rfl,h3⟩:=hasW_list h1;obtain⟨ns,rfl⟩:=items_int h3
 have hlen:ns.length<=n:=by
  unfold OpenLaw.pre at hc
  have h4:(WTm.not (.lt (.lit (.int (n:Int))) (.len (.arg 0)))).holds [] {args:=[.list (ns.map .int)]}=true:=by
   have h4:=(holds_andW hc).1;rw[hn]at h4;exact h4
  have h5:=condW_of h4 (w_not (w_lt w_lit (w_len_list (w_arg rfl))));rw[wl]at h5;refine Nat.le_of_not_lt λq=>?_
  have q':(n:Int)<((ns.length:Nat):Int):=by lia
  first
   | (rw[decide_eq_true q']at h5;exact absurd h5 (by decide))
   | (simp at h5;lia)
 cases hwl with
 | cons w1 w2 =>
  cases w2;cases w1 with
  | list ho hall=>exact⟨_,_,ns,rfl,rfl,ho,znu ns _ hall,hlen⟩
theorem zwY(l:OpenLaw)(args:List WData):l.row.toRowW.claim.post args (.bool true) args=true :=
 postW_of (r:=l.row.toRowW) (X:=(true == true))
  (show WShape.has [] (.bool true) .bool=true by first | rfl | decide | simp[WShape.has,WShape.arms,WShape.armsAll])
  (show(WTm.eq .res (.lit (.bool true))).value [] {args:=args,res:=some (.bool true),after:=args}=some (.bool (true == true))from w_eq_bool (w_res rfl) w_lit) rfl
theorem YA{l:OpenLaw}{n:Nat}{q:wH}{loose:List Str}{XP:(Str->Option wf)->wJ->Prop}{YP:wM->wJ->Prop}{d:DefRec}
  (hn:l.most=some n) (hdf:d.params.defaults=[])
  (call:∀(w:wM)(s₀ s₁ : wm)(mg mb:Str->Option wf)(fa:we)(o:Obj)(pm cd doc:wf)(a:we)(vs:List wf)(ns:List Int),
   Ground q loose [] XP w s₀ mg mb s₁.heap->YP w s₁.heap ->
   s₁.heap.get? fa=some o->o.data=.func (docDef d.name d.params d.body d.scope pm cd doc)->s₁.heap.CodeRec cd d.name->mg d.name=some (.ref fa) ->
   s₁.heap.get? a=some {cls:=.type "list",data:=.seq vs.toArray}->IntsAre vs ns->ns.length<=n->s₁.gens = #[] ->
   codeAny (model l.prog w) callerA (.call (.ref fa) ⟨[.ref a],[]⟩) (λr s'=>r=.ok (.ret (.bool true))/\OldK s₁.heap s'.heap/\s'.os=s₁.os/\AllBare s'.gens) s₁) :
  WalkO q loose XP YP l.row.toRowW d [] (λf vs=>X0 f vs):=by
 intro w s₀ s₁ mg mb G Y fa o pm cd doc dV kV ho hd hcd hD hmg hg args vals as hpre hlay hrd hwl hlo;obtain rfl:dV=.none:=Dflts.none hD hdf;obtain rfl:kV=.none:=Dflts.noKw hD;obtain⟨a,vs,ns,rfl,rfl,hobj,hints,hlen⟩:=zxw hn hpre hwl;refine enter_call (codeAny_mono (call w s₀ s₁ mg mb fa o pm cd doc a vs ns G Y ho (fd_plain hd) hcd hmg hobj hints hlen hg) λr s' hq=>?_);obtain⟨rfl,h2,h3,h4⟩:=hq;exact⟨.inl ⟨.bool true,.bool true,[],rfl,λ_=>rfl,.bool true,zwY l _,λ_=>⟨xH.nil,λ_ hm=>(nomatch hm)⟩⟩,h2,h3,h4⟩
section
variable{prog:wH}{w:wM}{A:w9}{E:wf->wm->Prop}{s:wm}{K:Frag}
def zE5(h:wJ)(L d:we):List (we × Obj):=(wo h.objs.size).filterMap λa=>if a=L\/a=d then none else(h.get? a).map λo=>(a,o)
end
end Att
namespace L2
open PySem PySem.Spec PyProof.Rows
theorem M0:∀{vs:List wf}{ns:List Int},IntsAre vs ns->aS (ns.map V.int) vs
 | _,_,.nil=>.nil
 | _,_,.cons n t h=>.cons ⟨t,rfl⟩ (M0 h)
def Aj(H:Hp):Prop:=∀b,H b=none \/ ∃o xs,H b=some (.gK o (.lst xs))
theorem zzu{P:wH}{w:wM}{K:wa}{mg mb:Str->Option wf}{CX:fX}{k:Nat}{fa a:we}{fd:wz}{x:Str}{sp:Sp}{s₁ : wm}{vs:List wf}{ns:List Int}
   (KX:K.In s₁.heap) (hns:s₁.heap.Ns wP mg) (hb:s₁.heap.Ns builtinsNs mb) (hbb:∀x:Str,x≠"__name__" -> mb x=vI x) (hlim:s₁.heap.NoLimit) (hg:s₁.gens = #[])
   (ha:s₁.heap.get? a=some {cls:=.type "list",data:=.seq vs.toArray}) (hi:IntsAre vs ns) (hl:ns.length<=wY) (hr:ee k callerA)
   (F:∀base:wJ,K.In base->base.Ns wP mg->aF P w K mg base CX k fa fd [x] sp) (hbind:∀(s:wm)(u:wf),BindsTo s fd ⟨[u],[]⟩ [(x,u)])
   (hsp:∀H:Hp,Aj H->aE K H a (ns.map V.int)->sp [.ref a] H (λv _=>v=.bl true) λ_ _ _=>False)
   (hCX:∀H e s',CX [] H s₁ (λ_ _ _=>False) e s'->False) :
   codeAny (model P w) callerA (.call (.ref fa) ⟨[.ref a],[]⟩) (λr s'=>r=.ok (.ret (.bool true))/\OldK s₁.heap s'.heap/\s'.os=s₁.os/\AllBare s'.gens) s₁:=by
 have rv:=M0 hi;have lenV:=hi.length
 have core:∀H:Hp,Aj H->aE K H a (ns.map V.int)->dw P w H s₁.heap->(∀b,H b≠none->b=a)->(H a≠none->K.lookup a=none) ->
     codeAny (model P w) callerA (.call (.ref fa) ⟨[.ref a],[]⟩) (λr s'=>r=.ok (.ret (.bool true))/\OldK s₁.heap s'.heap/\s'.os=s₁.os/\AllBare s'.gens) s₁:=by
   intro H hO hS aM hA hK;have base_of:∀{b:we}{o:Obj},s₁.heap.get? b=some o->H b=none->(kD s₁.heap H).get? b=some o:=λe n=>zzh e n
   have noA:∀{b:we}{o:Obj}{es:Array DictEntry}{ep:Nat},s₁.heap.get? b=some o->o.data=.dict es ep->H b=none:=λ{b o es ep} e d=>by
     cases q:H b with
     | none=>rfl
     | some u =>
       have e':b=a:=hA b (by rw[q];simp);subst e';rw[ha]at e;cases e;have d':Data.seq vs.toArray _=Data.dict es ep:=d;cases d'
   have nsK:∀{b:we}{m:Str->Option wf},s₁.heap.Ns b m->(kD s₁.heap H).Ns b m:=λ{b m} ⟨o,es,ep,e,d,r⟩=>⟨o,es,ep,base_of e (noA e d),d,r⟩
   have hKb:K.In (kD s₁.heap H):=λb o e=>base_of (KX b o e) (by
     cases q:H b with
     | none=>rfl
     | some u =>
       have e':b=a:=hA b (by rw[q];simp);subst e';rw[hK (by rw[q];simp)]at e;cases e)
   have hM:Mod K mg (kD s₁.heap H):=⟨hKb,nsK hns,⟨mb,nsK hb,hbb⟩,let ⟨mc,h1,h2⟩:=hlim;⟨mc,nsK h1,h2⟩⟩;have e0:yh P w K mg (kD s₁.heap H) callerA [] s₁ H:=⟨rfl,hM,λb o e=>zAP e,Nat.le_of_eq (zxU _ _),trivial,λb hb=>absurd (show b∈([]:List we)from hb) (by simp),aM,.of_eq hg⟩;refine codeAny_mono ((F _ hKb (nsK hns)).run callerA [] s₁ H ⟨[.ref a],[]⟩ [.ref a] [.ref a] _ _ hr e0 (hbind s₁ (.ref a)) (.cons rfl .nil) (hsp H hO hS)) λr s' h=>?_
   cases r with
   | error e=>exact(hCX H e s' h).elim
   | ok fl =>
     cases fl with
     | next=>exact WS h
     | brk=>exact WS h
     | cont=>exact WS h
     | ret u =>
       obtain⟨v,H',os,bare,un,hok',r',q⟩:=h;have q':v=.bl true:=q;subst q';obtain rfl:u=Value.bool true:=r';refine⟨rfl,OldK.of_keep λb o e=>?_,os,bare⟩;cases q:H b with
       | none=>exact un.keep b o e q (by intro z;exact absurd (show b∈([]:List we)from z) (by simp)) (by simp)
       | some u =>
         rcases hO b with z | ⟨ob,xs,z⟩
         . rw[q]at z;cases z
         . have z2:=un.iu b ob _ z
           obtain⟨e1,_⟩:=aM b _ z;obtain⟨e2,_⟩:=hok' b _ z2;rw[e]at e1;cases e1;exact e2
 cases hk:K.lookup a with
 | some o =>
   have e:=KX a o hk;rw[ha]at e;cases e;refine core (λ_=>none) (λ_=>.inl rfl) (.inr ⟨_,vs.toArray,_,hk,rfl,rfl,rfl,by rw[wK,lenV];exact hl,by simpa using rv⟩) (λb u z=>by have z':(none:Option HO)=some u:=z;cases z') (λb z=>absurd rfl z) λz=>absurd rfl z
 | none =>
   refine core (λb=>if b=a then some (.gK {cls:=.type "list",data:=.seq vs.toArray} (.lst (ns.map V.int)))else none) (λb=>?_) (.inl (.inr ⟨{cls:=.type "list",data:=.seq vs.toArray},if_pos rfl⟩)) (λb u z=>?_) (λb z=>?_) λ_=>hk
   . by_cases hb:b=a
     . exact .inr ⟨_,_,if_pos hb⟩
     . exact .inl (if_neg hb)
   . by_cases hb:b=a
     . have z':=(if_pos hb).symm.trans z
       cases z';subst hb;exact⟨ha,by rw[wl];exact hl,vs,_,rv,ha⟩
     . have z':=(if_neg hb).symm.trans z
       cases z'
   . by_cases hb:b=a
     . exact hb
     . exact absurd (if_neg hb) z
abbrev KOf{K:wa}{h:wJ}(_:K.In h):wa:=K
theorem YL{l:Q2}{n k:Nat}{q:wH}{loose:List Str}{XP:(Str->Option wf)->wJ->Prop}{YP:wM->wJ->Prop}{d:DefRec}{K:Params->wa}{CX:wM->fX}{sp:wM->Sp}{x:Str}
  (hn:l.most=some n) (hn2:n<=wY) (hdf:d.params.defaults=[]) (hr:ee k callerA)
  (hY:∀(w:wM)(h:wJ),YP w h->(K w.params).In h)
  (F:∀(w:wM)(mg:Str->Option wf)(fa:we)(h:wJ),(K w.params).In h->h.Ns wP mg->mg d.name=some (.ref fa) ->
   ∃fd:wz,(∀(s:wm)(u:wf),BindsTo s fd ⟨[u],[]⟩ [(x,u)]) /\
    ∀base:wJ,(K w.params).In base->base.Ns wP mg->aF l.prog w (K w.params) mg base (CX w) k fa fd [x] (sp w))
  (hsp:∀(w:wM)(H:Hp)(a:we)(ns:List Int),ns.length<=n->Aj H->aE (K w.params) H a (ns.map V.int)->sp w [.ref a] H (λv _=>v=.bl true) λ_ _ _=>False)
  (hCX:∀(w:wM)(H:Hp)(s:wm)(e:wf)(s':wm),CX w [] H s (λ_ _ _=>False) e s'->False) :
  ur q loose XP YP l.row.toRowW d [] (λf vs=>X0 f vs):=by
 refine Att.YA hn hdf λw s₀ s₁ mg mb fa o pm cd doc a vs ns G Y ho hd hcd hmg hobj hints hlen hg=>?_
 have KX:=hY w _ Y;obtain⟨fd,hb,hF⟩:=F w mg fa _ KX G.T.g hmg;exact zzu KX G.T.g G.T.b G.T.builtins G.T.nolimit hg hobj hints (Wf hlen hn2) hr hF hb (λH hO hS=>hsp w H a ns hlen hO hS) λH e s'=>hCX w H s₁ e s'
def oh(s:wW):Arguments:=match s with
 | .FunctionDef _ a _ _ _ _ _ _ _ _=>a
 | _=>{posonlyargs:=[],args:=[],vararg:=none,kwonlyargs:=[],kw_defaults:=[],kwarg:=none,defaults:=[]}
def lQ(s:wW):List wW:=match s with
 | .FunctionDef _ _ b _ _ _ _ _ _ _=>b
 | _=>[]
def aG(s:wW):Scope:=match s with
 | .FunctionDef _ _ _ _ _ _ sc _ _ _=>sc
 | _=>{kind:=.function,names:=[],isGenerator:=false,isCoroutine:=false}
abbrev aN:fX:=λ_ _ _ _ _ _=>False
abbrev E0:XK:=λ_ _ _=>False
theorem zEe{X:Cx} : nZ aN X E0:=λ_ _ _ _ _ _ _ h=>h.elim
structure lS(K:wa)(x qual:Str)(st:wW)(f:we)(fd:wz):Prop where
 ex:∃(oc:wf)(od:Option we)(kV doc pm:wf)(an:Option we)(cdv ct:wf)(osl:Array (Option wf)),
   fd=VE x qual (oh st) (lQ st) (aG st) .none kV doc pm an cdv ct/\K.lookup f=some ⟨oc,od,.func fd,osl⟩/\Qj K cdv qual=true
 kp:qF K (.ref f)=true
section
variable{P:wH}{w:wM}{K:wa}{mg:Str->Option wf}{base:wJ}
variable{qual x:Str}{st:wW}{f:we}
theorem lS.ok{fd:wz}{N ps:List Str}{k:Nat}{sp:Sp}(F:lS K x qual st f fd)(S:aI N ps (aG st))(len:∀vs H Q E,sp vs H Q E->vs.length=ps.length)
  (hbody:∀(cdv:wf)(A:w9)(outer:List Env)(s:wm)(H:Hp)(vs:List V)(Q:VK)(E:XK),ee k (A.deeper (envOfC qual (aG st) s.heap.objs.size f cdv))->sp vs H Q E ->
   ∃t,fE (jd aN P w K mg base N qual (aG st) f cdv A outer s H E).ze (lQ st) t/\t {nx:=λ_ H'=>Q .bM H',rt:=Q} (start N vs) H):aF P w K mg base aN (k+1) f fd ps sp:=by
 obtain⟨oc,od,kV,doc,pm,an,cdv,ct,osl,rfl,lk,hcd⟩:=F.ex;refine MR lk hcd S len λA outer s H vs Q E hr hsp=>?_
 obtain⟨t,h,q⟩:=hbody cdv A outer s H vs Q E hr hsp;exact⟨t,h.ze,q⟩
theorem lS.binds{fd:wz}{ps:List Str}(F:lS K x qual st f fd)
  (h:∀(kV doc pm:wf)(an:Option we)(cdv ct:wf)(us:List wf),us.length=ps.length->bindArgs (VE x qual (oh st) (lQ st) (aG st) .none kV doc pm an cdv ct) ⟨us,[]⟩=pure (ps.zip us)):mR K fd ps []:=by
 obtain⟨oc,od,kV,doc,pm,an,cdv,ct,osl,rfl,lk,hcd⟩:=F.ex;exact .all (h kV doc pm an cdv ct)
theorem U8{oc:wf}{od an:Option we}{osl:Array (Option wf)}{kV doc pm cdv ct:wf}(l:K.lookup f=some ⟨oc,od,.func (VE x qual (oh st) (lQ st) (aG st) .none kV doc pm an cdv ct),osl⟩)
  (c:Qj K cdv qual=true) (k:qF K (.ref f)=true):lS K x qual st f (VE x qual (oh st) (lQ st) (aG st) .none kV doc pm an cdv ct):=⟨⟨oc,od,kV,doc,pm,an,cdv,ct,osl,rfl,l,c⟩,k⟩
end
theorem gF{n:Nat}(h:n<=1000):n<wY:=WX h (by decide)
section
variable{X:Cx}
theorem pv(i:Nat){x:Str}{pos:Pos}(hN:X.N[i]? = some x:=by rfl)(hv:rG X.env.scope x:=by first | exact Or.inl rfl | exact Or.inr (Or.inl rfl) | exact Or.inr (Or.inr rfl))(hd:(x == ("__debug__" : Str))=false:=by decide)
  (hcd:(x == ("__classdict__" : Str))=false:=by decide):PE X (.Name x pos) (gW i):=Pr hN hv hd hcd
end
theorem nV{A B:Prop}(h:B):if false=true then A else B:=by
 rw[if_neg vC];exact h
theorem nz{A B:Prop}(h:A):if true=true then A else B:=by
 rw[if_pos rfl];exact h
def ar(H H':Hp):Prop:=∀b o,H b=some o->H' b=some o
theorem ar.refl(H:Hp):ar H H:=λ_ _ h=>h
theorem ar.trans{H H1 H2:Hp}(a:ar H H1)(b:ar H1 H2):ar H H2:=λc o h=>b c o (a c o h)
theorem ar.seq{K:wa}{H H':Hp}{a:we}{xs:List V}(e:ar H H')(h:aE K H a xs):aE K H' a xs:=by
 rcases h with(h | ⟨o,h⟩) | h
 ·exact .inl (.inl (e _ _ h))
 ·exact .inl (.inr ⟨o,e _ _ h⟩)
 ·exact .inr h
end L2
namespace GM
variable{B d t u:Int}{a b h x y:Rat}{c i j k m n w:Nat}{l ps xs ys:List Rat}{ns:List Int}{left:List Nat}{fl:Nat->Nat}
def dv(t b:Int):Int:=if b<0 then -((vA t b:Nat):Int)else((vA t b:Nat):Int)
theorem EL{b:Int}(hb:b≠0):0<vA t b:=V4 t hb
theorem Tw{b:Int}(hb:b≠0):dv t b≠0:=by
 have:=EL (t:=t) hb;unfold dv
 split<;>lia
theorem fH{a:Int}(h:d ∣ a)(hd:d≠0):a.fdiv d=a / d:=by
 obtain⟨k,rfl⟩:=h;rw[Int.mul_fdiv_cancel_left _ hd,VG _ hd]
theorem N_{b:Int}(hb:b≠0):t.fdiv (dv t b)=(wu t b).num:=by
 have hg:=EL (t:=t) hb;have h1:((vA t b:Nat):Int) ∣ t:=qc ..;rw[Rat.num_divInt,xX b t];unfold dv
 by_cases h:b<0
 ·rw[if_pos h,QD h,fH (Xw.mpr h1) (by lia),Int.ediv_neg]
  obtain⟨k,hk⟩:=h1;have:(-1:Int)*t=((vA t b:Nat):Int)*(-k):=by rw[X1,Xx,<- hk]
  rw[this,VG _ (by lia)];have e:t / ((vA t b:Nat):Int)=k:=Qv (by lia) hk;rw[e]
 ·rw[if_neg h,xb (by lia),Qq,fH h1 (by lia)]
theorem zDz{b:Int}(hb:b≠0):b.fdiv (dv t b)=((wu t b).den:Int):=by
 have hg:=EL (t:=t) hb;have h1:((vA t b:Nat):Int) ∣ b:=qL ..;rw[uf,if_neg hb,xX b t];unfold dv
 by_cases h:b<0
 ·rw[if_pos h,fH (Xw.mpr h1) (by lia),Int.ediv_neg,VH]
  obtain⟨k,hk⟩:=h1;have:(b.natAbs:Int)=((vA t b:Nat):Int)*(-k):=by rw[Xx,<- hk];lia
  rw[this,VG _ (by lia)];have e:b / ((vA t b:Nat):Int)=k:=Qv (by lia) hk;rw[e]
 ·rw[if_neg h,fH h1 (by lia),VH]
  have:(b.natAbs:Int)=b:=by lia
  rw[this]
def gS(p q:Int):Bool:=decide (1<=q)&&decide (vA p q=1)
theorem L6(r:Rat):gS r.num r.den=true:=by
 have h:=r.reduced;have hd:=r.den_pos;simp only[gS,wV,decide_eq_true_eq];refine⟨by lia,?_⟩;have:Nat.gcd r.num.natAbs r.den=1:=h
 simpa [vA] using this
theorem zqH{p q:Int}(h:gS p q=true):∃r:Rat,p=r.num/\q=(r.den:Int):=by
 simp only[gS,wV,decide_eq_true_eq]at h;obtain⟨h1,h2⟩:=h;refine⟨⟨p,q.toNat,by lia,?_⟩,rfl,by show q=((q.toNat:Nat):Int);lia⟩;have e:q.toNat=q.natAbs:=by lia
 rw[e];exact h2
theorem OM{a b:Int}(hb:0<b)(ha:0<=a):vA b (a % b)=vA a b:=by
 rw[xX a b];have e:a=a % b+b*(a / b):=(Int.emod_add_mul_ediv a b).symm
 conv=>rhs;rw[e]
 rw[Int.gcd_add_mul_left_right]
structure Bd(n:Nat)(x:Int):Prop where
 lt:x.natAbs<2^n
theorem Bd.mono{x:Int}(h:Bd m x)(e:m<=n):Bd n x:=⟨wT h.lt (Nat.pow_le_pow_right (by decide) e)⟩
theorem Bd.mul{x y:Int}(h:Bd m x)(k:Bd n y):Bd (m+n) (x*y):=by
 refine⟨?_⟩;rw[xp,xc];exact Nat.mul_lt_mul'' h.lt k.lt
theorem Bd.add{x y:Int}(h:Bd m x)(k:Bd n y):Bd (max m n+1) (x+y):=by
 have h1:=(h.mono (X2 m n)).lt;have h2:=(k.mono (XI m n)).lt;refine⟨?_⟩;rw[Vj]
 lia
theorem Bd.sub{x y:Int}(h:Bd m x)(k:Bd n y):Bd (max m n+1) (x-y):=by
 have h1:=(h.mono (X2 m n)).lt;have h2:=(k.mono (XI m n)).lt;refine⟨?_⟩;rw[Vj]
 lia
theorem Bd.neg{x:Int}(h:Bd n x):Bd n (-x):=⟨by rw[Int.natAbs_neg];exact h.lt⟩
theorem Bd.le{x y:Int}(h:Bd n x)(e:y.natAbs<=x.natAbs):Bd n y:=⟨WX e h.lt⟩
theorem Bd.log{x:Int}(h:Bd n x)(hn:0<n):x.natAbs.log2<n:=by
 by_cases e:x.natAbs=0
 ·rw[e];exact hn
 ·exact(Nat.log2_lt e).mpr h.lt
theorem zCL(t b:Int)(hb:b≠0):(wu t b).num.natAbs<=t.natAbs:=by
 rw[<- N_ hb]
 have h1:dv t b ∣ t:=by
  have:((vA t b:Nat):Int) ∣ t:=qc ..;unfold dv;split
  ·exact Xw.mpr this
  ·exact this
 rw[fH h1 (Tw hb)];exact QK t _
theorem Dt(t b:Int)(hb:b≠0):(wu t b).den<=b.natAbs:=by
 rw[uf,if_neg hb];exact Nat.div_le_self _ _
structure af(n:Nat)(x:Rat):Prop where
 t:Bd n x.num
 b:Bd n (x.den:Int)
theorem af.mono(h:af m x)(e:m<=n):af n x:=⟨h.t.mono e,h.b.mono e⟩
theorem af.divInt{b:Int}(hb:b≠0)(h1:Bd n t)(h2:Bd n b):af n (wu t b) :=
 ⟨h1.le (zCL t b hb),h2.le (by have:=Dt t b hb;simpa using this)⟩
theorem Bd.kP{m:Int}(h1 : -100000000000000000000000000000000000000<=m)(h2:m<=100000000000000000000000000000000000000):Bd 128 m:=⟨by
 have e:(2:Nat)^128=340282366920938463463374607431768211456:=by decide
 rw[e]
 lia⟩
theorem fT(x:Rat):(x.den:Int)≠0:=by have:=x.den_pos;lia
theorem den_pos(x:Rat):(0:Int)<(x.den:Int):=by have:=x.den_pos;lia
theorem BA(x y:Rat):(x.den:Int)*(y.den:Int)≠0:=qZ (fT x) (fT y)
theorem zDg(x y:Rat):wu (x.num*(y.den:Int)+y.num*(x.den:Int)) ((x.den:Int)*(y.den:Int))=x+y:=by
 rw[<- Vn,QQ,Rat.add_def']
theorem UK(x y:Rat):wu (x.num*(y.den:Int)-y.num*(x.den:Int)) ((x.den:Int)*(y.den:Int))=x-y:=by
 rw[<- Vn,QQ,Rat.sub_def']
theorem RH(x y:Rat):wu (x.num*y.num) ((x.den:Int)*(y.den:Int))=x*y:=by
 rw[<- Vn,QQ,Rat.mul_def']
theorem Fv(x y:Rat):wu (x.num*(y.den:Int)) ((x.den:Int)*y.num)=x / y:=by
 rw[qU,Rat.inv_def,<- xq,WY]
theorem RN(x y:Rat):decide (x.num*(y.den:Int)<y.num*(x.den:Int))=decide (x<y):=by
 rw[vi,decide_eq_true_eq,decide_eq_true_eq,X3]
theorem sD(h:y≠0):y.num≠0:=λe=>h (Rat.num_eq_zero.mp e)
theorem af.add(h:af m x)(k:af n y):af (m+n+1) (x+y):=by
 rw[<- zDg];refine af.divInt (BA x y) ?_ ((h.b.mul k.b).mono (by lia));exact((h.t.mul k.b).add (k.t.mul h.b)).mono (by lia)
theorem af.sub(h:af m x)(k:af n y):af (m+n+1) (x-y):=by
 rw[<- UK];refine af.divInt (BA x y) ?_ ((h.b.mul k.b).mono (by lia));exact((h.t.mul k.b).sub (k.t.mul h.b)).mono (by lia)
theorem af.mul(h:af m x)(k:af n y):af (m+n) (x*y):=by
 rw[<- RH];exact af.divInt (BA x y) (h.t.mul k.t) (h.b.mul k.b)
theorem af.div(h:af m x)(k:af n y)(hy:y≠0):af (m+n) (x / y):=by
 rw[<- Fv];exact af.divInt (qZ (fT x) (sD hy)) (h.t.mul k.b) (h.b.mul k.t)
theorem af.zero :af 1 0:=⟨⟨by decide⟩,⟨by decide⟩⟩
theorem af.one :af 1 1:=⟨⟨by decide⟩,⟨by decide⟩⟩
def aC(a b:Rat):Nat->Rat
 | 0=>0
 | n+1=>a*aC a b n+b
def push(a b:Rat):Nat->Rat->Rat
 | 0,x=>x
 | n+1,x=>a*push a b n x+b
theorem gz(a b:Rat)(n:Nat)(x:Rat):push a b n x=a^n*x+aC a b n:=by
 induction n with
 | zero=>simp[push,aC,Rat.add_zero,V5]
 | succ n ih=>rw[push,ih,aC,WP];grind
theorem zyc(a b:Rat)(m n:Nat)(x:Rat):push a b (m+n) x=push a b n (push a b m x):=by
 induction n with
 | zero=>rfl
 | succ n ih=>rw[<- Vr,push,push,ih]
theorem af.pow(h:af k a)(n:Nat):af (k*n+1) (a^n):=by
 induction n with
 | zero=>rw[V5];exact af.one.mono (by lia)
 | succ n ih=>rw[WP];exact(ih.mul h).mono (by rw[qx];lia)
theorem af.aC(h:af k a)(hb:af k b)(n:Nat):af ((2*k+1)*n+1) (aC a b n):=by
 induction n with
 | zero=>exact af.zero.mono (by lia)
 | succ n ih=>exact((h.mul ih).add hb).mono (by rw[qx];lia)
theorem c9(t:Int)(hu:u≠0):(wu t u)*(u:Rat)=(t:Rat):=by
 rw[Rat.divInt_eq_div];exact WJ λz=>hu (W6.mp z)
theorem jO(x:Rat):x*((x.den:Int):Rat)=(x.num:Rat):=by
 have:=c9 x.num (fT x)
 rwa[WY]at this
theorem fK(hu:u≠0)(h:x*(u:Rat)=(t:Rat)):wu t u=x:=by
 have h1:=c9 t hu;have h2:(wu t u-x)*(u:Rat)=0:=by grind
 have h3:(u:Rat)≠0:=by
  intro z;exact hu (W6.mp z)
 have:=Q3.mp h2
 grind
theorem zxn(a b:Rat)(t u:Int)(hu:u≠0):wu (a.num*b.den*t+b.num*a.den*u) (u*a.den*b.den)=a*wu t u+b:=by
 refine fK (qZ (qZ hu (fT a)) (fT b)) ?_;have h1:=c9 t hu;have h2:=jO a;have h3:=jO b;simp only[vR,VT]
 grind
theorem NJ(a b:Rat)(n:Nat)(x y:Rat):push a b n y-push a b n x=a^n*(y-x):=by
 rw[gz,gz];grind
theorem rh(h:0<a)(n:Nat):0<a^n:=Rat.pow_pos h
theorem Z_(h:1<a)(n:Nat):1<a^(n+1):=by
 induction n with
 | zero=>simpa using h
 | succ n ih =>
  rw[WP];have:=V0 (show 0<a^(n+1)-1 by grind) (show 0<a-1 by grind)
  grind
theorem zvz(h0:0<a)(h:a<1)(n:Nat):a^(n+1)<1:=by
 induction n with
 | zero=>simpa using h
 | succ n ih =>
  rw[WP];have:=V0 (show 0<1-a^(n+1) by grind) h0
  grind
theorem one_pow'(n:Nat):(1:Rat)^n=1:=by
 induction n with
 | zero=>rfl
 | succ n ih=>rw[WP,ih,Qr]
theorem mS(h:0<u):(0:Rat)<(u:Rat):=X4.mpr h
theorem Zm(hu:0<u)(ht:0<t):0<wu t u:=by
 have e:=c9 t (show u≠0 by lia);have:=mS ht;rw[<- e]at this;exact(Rat.mul_pos_iff_of_pos_right (mS hu)).mp this
theorem Oi{c:Int}(hu:0<u)(h:t<=c*u):wu t u<=(c:Rat):=by
 have e:=c9 t (show u≠0 by lia);refine Rat.le_of_mul_le_mul_right (c:=(u:Rat)) ?_ (mS hu);rw[e,<- vR];exact Vh.mpr h
theorem ZC{c:Int}(hu:0<u)(h:t<c*u):wu t u<(c:Rat):=by
 have e:=c9 t (show u≠0 by lia);refine Rat.lt_of_mul_lt_mul_right (c:=(u:Rat)) ?_ (vX (mS hu));rw[e,<- vR];exact xf.mpr h
theorem K_(hu:0<u):((wu t u).den:Int)<=u:=by
 have:=Dt t u (by lia)
 lia
theorem zw5{c:Int}(h:x<=(c:Rat)):x.num<=c*x.den:=by
 have:=(xz x c).mp h
 simpa using this
theorem zDr(h:0<=x):0<=x.num:=qG.mpr h
theorem af.small{d:Nat}(h0:0<=x)(hc:x<=((c:Int):Rat))(hd:x.den<=d)(z:c*d<1024)(hd2:d<1024):af 10 x:=by
 have h1:=zw5 hc;have h2:=zDr h0;have h3:(c:Int)*(x.den:Int)<=(c:Int)*(d:Int):=Int.mul_le_mul_of_nonneg_left (by lia) (by lia);have h4:(c:Int)*(d:Int)<1024:=by rw[<- Vn];lia
 refine⟨⟨?_⟩,⟨?_⟩⟩
 ·show _<1024
  lia
 ·show _<1024
  lia
theorem OC{z:Int}(e:x=wu z u)(h1:1<=u)(h2:u<=8)(h3:1<=z)(h4:z<=4*u):0<x/\x<=4/\x.den<=8:=by
 subst e;refine⟨Zm (by lia) (by lia),Oi (c:=4) (by lia) h4,?_⟩;have:=K_ (t:=z) (show 0<u by lia)
 lia
theorem B9{r:Int}(e:y=wu r u)(h1:1<=u)(h2:u<=12)(h3:0<=r)(h4:r<=u):0<=y/\y<=1/\y.den<=12:=by
 subst e;refine⟨Xg h3 (by lia),Oi (c:=1) (by lia) (by lia),?_⟩;have:=K_ (t:=r) (show 0<u by lia)
 lia
theorem af.four :af 3 4:=⟨⟨by decide +kernel⟩,⟨by decide +kernel⟩⟩
theorem nS{f:Rat->Rat}(h:i<xs.length):(xs.map f).getD i 0=f (xs.getD i 0):=by
 rw[wb,wb,wq,wc h]
 rfl
theorem zAo(ha:0<a)(n:Nat)(x y:Rat):push a b n x<push a b n y ↔ x<y:=by
 have e:=NJ a b n x y;have p:=rh ha n
 constructor
 ·intro h
  have:0<a^n*(y-x):=by rw[<- e];grind
  have h2:=(Rat.mul_pos_iff_of_pos_left p).mp this
  grind
 ·intro h
  have:0<a^n*(y-x):=V0 p (by grind)
  grind
def dP(a b:Rat)(n:Nat)(xs:List Rat)(i:Nat):List Rat:=(xs.map λx=>push a b n (x+(1-xs.getD i 0))).set i 0
def aJ(a b:Rat)(ns:List Int)(xs:List Rat):Nat->List Rat
 | 0=>xs
 | k+1=>dP a b (ns.getD k 0).toNat (aJ a b ns xs k) k
theorem iQ(a b:Rat)(n:Nat)(xs:List Rat)(i:Nat):(dP a b n xs i).length=xs.length:=by simp[dP]
theorem dm(a b:Rat)(ns:List Int)(xs:List Rat):∀k,(aJ a b ns xs k).length=xs.length
 | 0=>rfl
 | k+1=>by rw[aJ,iQ,dm a b ns xs k]
theorem gC(a b:Rat)(n:Nat)(xs:List Rat)(i j:Nat)(hj:j<xs.length):(dP a b n xs i).getD j 0=if j=i then 0 else push a b n (xs.getD j 0+(1-xs.getD i 0)):=by
 unfold dP;rw[wb,WN]
 by_cases h:i=j
 ·subst h
  simp[hj]
 ·rw[if_neg h,if_neg (WB h),wq,wc hj]
  simp[wb,hj]
def Cm(m:Nat)(xs:List Rat):Prop:=∃B:Int,0<B/\Bd m B /\ ∀x∈xs,∃t:Int,x=wu t B/\Bd m t
theorem Cm.mono(h:Cm m xs)(e:m<=n):Cm n xs:=by
 obtain⟨B,h0,h1,h2⟩:=h;exact⟨B,h0,h1.mono e,λx hx=>let ⟨t,e1,e2⟩:=h2 x hx;⟨t,e1,e2.mono e⟩⟩
theorem Cm.dM(h:Cm m xs)(hx:x∈xs):af m x:=by
 obtain⟨B,h0,h1,h2⟩:=h;obtain⟨t,rfl,ht⟩:=h2 x hx;exact af.divInt (by lia) ht h1
theorem Cm.pos(h:Cm m xs):1<=m:=by
 obtain⟨B,h0,h1,_⟩:=h;cases m with
 | zero=>have:=h1.lt;simp at this;lia
 | succ m=>lia
theorem Cm.get(h:Cm m xs)(i:Nat):af m (xs.getD i 0):=by
 rcases wG i xs.length with z | z
 ·rw[wb,wc z]
  exact h.dM (Wi z)
 ·rw[wb,wI z]
  exact af.zero.mono h.pos
theorem rX{a b:Rat}(ba:af 10 a)(bb:af 10 b){m:Nat}{t u:Int}(hu:0<u)(bt:Bd m t)(bu:Bd m u):∀n:Nat,0<u*((a.den:Int)*(b.den:Int))^n/\Bd (m+21*n) (u*((a.den:Int)*(b.den:Int))^n) /\
  ∃T:Int,push a b n (wu t u)=wu T (u*((a.den:Int)*(b.den:Int))^n)/\Bd (m+21*n) T
 | 0=>⟨by simpa using hu,by simpa using bu,t,by simp[push],by simpa using bt⟩
 | n+1=>by
  obtain⟨h1,h2,T,e,hT⟩:=rX ba bb hu bt bu n;have eb:u*((a.den:Int)*(b.den:Int))^(n+1)=u*((a.den:Int)*(b.den:Int))^n*(a.den:Int)*(b.den:Int):=by rw[VI,<- VQ,VQ (u*_)]
  rw[eb];refine⟨vT (vT h1 (den_pos a)) (den_pos b),((h2.mul ba.b).mul bb.b).mono (by lia),a.num*(b.den:Int)*T+b.num*(a.den:Int)*(u*((a.den:Int)*(b.den:Int))^n),?_,(((ba.t.mul bb.b).mul hT).add ((bb.t.mul ba.b).mul h2)).mono (by lia)⟩;rw[push,e];exact(zxn a b T _ (by lia)).symm
theorem Cm.nk(h:Cm m xs)(ba:af 10 a)(bb:af 10 b)(n i:Nat):Cm (m+2+21*n) (dP a b n xs i):=by
 obtain⟨B,h0,h1,h2⟩:=h
 have hz:∃z:Int,xs.getD i 0=wu z B/\Bd m z:=by
  rcases wG i xs.length with q | q
  ·rw[wb,wc q]
   exact h2 _ (Wi q)
  ·rw[wb,wI q]
   exact⟨0,by simp,⟨by simp;exact Wm m⟩⟩
 obtain⟨z,ez,hz⟩:=hz;have key:=λ(t:Int)(ht:Bd m t)=>rX ba bb h0 (show Bd (m+2) (t+B-z)from((ht.add h1).sub hz).mono (by lia)) (h1.mono (by lia)) n
 obtain⟨p1,p2,_⟩:=key 0 ⟨by simp;exact Wm m⟩;refine⟨_,p1,p2,λx hx=>?_⟩
 have hx':x=0 \/ ∃y∈xs,x=push a b n (y+(1-xs.getD i 0)):=by
  unfold dP at hx;rcases QL hx with q | q
  ·obtain⟨y,hy,rfl⟩:=wR.mp q
   exact .inr ⟨y,hy,rfl⟩
  ·exact .inl q
 rcases hx' with rfl | ⟨y,hy,rfl⟩
 ·exact⟨0,by simp,⟨by simp;exact Wm _⟩⟩
 ·obtain⟨t,rfl,ht⟩:=h2 y hy
  obtain⟨_,_,T,e,hT⟩:=key t ht
  have e2:wu t B+(1-xs.getD i 0)=wu (t+B-z) B:=by
   rw[ez]
   symm
   refine fK (by lia) ?_;have q1:=c9 t (show B≠0 by lia);have q2:=c9 z (show B≠0 by lia);have q3:((t+B-z:Int):Rat)=(t:Rat)+(B:Rat)-(z:Rat):=by push_cast;rfl
   rw[q3,<- q1,<- q2]
   grind
  rw[e2];exact⟨T,e,hT⟩
theorem Cm.snoc(h:Cm m xs):Cm m (xs++[0]):=by
 obtain⟨B,h0,h1,h2⟩:=h;refine⟨B,h0,h1,λx hx=>?_⟩;rcases vY.mp hx with q | q
 ·exact h2 x q
 ·rw[w6.mp q]
  exact⟨0,by simp,⟨by simp;exact Wm m⟩⟩
def upTo(ns:List Int)(k:Nat):Nat:=((ns.take k).map Q4).sum
theorem nP(h:k<ns.length):upTo ns (k+1)=upTo ns k+(ns.getD k 0).toNat:=by
 unfold upTo;rw[qM,wc h,wb,wc h,wX,List.sum_append]
 show _+([ns[k].toNat]:List Nat).sum=_
 rw[List.sum_singleton]
 rfl
theorem Cm.rows{m:Nat}{xs:List Rat}{a b:Rat}{ns:List Int}(h:Cm m xs)(ba:af 10 a)(bb:af 10 b):∀k,k<=ns.length->Cm (m+2*k+21*upTo ns k) (aJ a b ns xs k)
 | 0,_=>h.mono (by lia)
 | k+1,hk=>by
  have:=(Cm.rows h ba bb (ns:=ns) k (by lia)).nk ba bb (ns.getD k 0).toNat k;rw[aJ];refine this.mono ?_;rw[nP (by lia)]
  lia
theorem KZ(a:Rat)(m:Nat):∀n:Nat,a^(m+n)=a^m*a^n
 | 0=>by rw[Qa,V5,Rat.mul_one]
 | n+1=>by rw[<- Vr,WP,KZ a m n,WP,ut]
theorem zxp(a b:Rat)(n:Nat)(xs ys:List Rat)(i j:Nat)(hx:xs.length=ys.length)(hj:j<xs.length) :
  (dP a b n xs i).getD j 0-(dP a b n ys i).getD j 0=a^n*((xs.getD j 0-ys.getD j 0)-(xs.getD i 0-ys.getD i 0)):=by
 rw[gC a b n xs i j hj,gC a b n ys i j (by lia)]
 by_cases h:j=i
 ·subst h
  rw[if_pos rfl,if_pos rfl]
  grind
 ·rw[if_neg h,if_neg h,NJ]
  grind
theorem Cf(a b:Rat)(ns:List Int)(xs ys:List Rat)(hx:xs.length=ys.length)(hn:ns.length=xs.length)(l:Nat)(hl:l+1=xs.length)(h0:xs.getD l 0=ys.getD l 0) :
  ∀k,k<=ns.length->∀j,j<xs.length->(aJ a b ns xs k).getD j 0-(aJ a b ns ys k).getD j 0=a^upTo ns k*((xs.getD j 0-ys.getD j 0)-(if k=0 then 0 else xs.getD (k-1) 0-ys.getD (k-1) 0))
 | 0,_,j,hj=>by simp[aJ,upTo];grind
 | k+1,hk,j,hj=>by
  rw[aJ,aJ,zxp _ _ _ _ _ _ _ (by rw[dm,dm,hx]) (by rw[dm];exact hj),Cf a b ns xs ys hx hn l hl h0 k (by lia) j hj,Cf a b ns xs ys hx hn l hl h0 k (by lia) k (by lia),nP (by lia),KZ];simp only[qy];rw[if_neg (show ¬ k+1=0 by lia)]
  grind
def mC(a b:Rat)(n:Nat)(xs:List Rat):List Rat:=(xs.tail.map λy=>push a b n (y+(1-xs.headD 0)))++[0]
def turned(a b:Rat)(ns:List Int)(xs:List Rat):Nat->List Rat
 | 0=>xs
 | k+1=>mC a b (ns.getD k 0).toNat (turned a b ns xs k)
theorem nB(a b:Rat)(ns:List Int)(xs:List Rat):∀k,k<=xs.length->turned a b ns xs k=(aJ a b ns xs k).drop k++(aJ a b ns xs k).take k
 | 0,_=>by simp[turned,aJ]
 | k+1,hk=>by
  have hl:(aJ a b ns xs k).length=xs.length:=dm a b ns xs k;have hk':k<(aJ a b ns xs k).length:=by lia
  rw[turned,nB a b ns xs k (by lia),aJ];generalize aJ a b ns xs k=r at *;generalize (ns.getD k 0).toNat=n;have e1:r.drop k=r[k]::r.drop (k+1):=VC hk';have e2:r.getD k 0=r[k]:=by rw[wb,wc hk'];rfl
  unfold mC dP;rw[e1,e2,XJ,ug,List.headD_cons,List.drop_set_of_lt (by lia),wX,uu,W2]
  congr 1
  have hm:k<(r.map λx=>push a b n (x+(1-r[k]))).length:=by rw[wl];exact hk'
  rw[List.map_take];generalize (r.map λx=>push a b n (x+(1-r[k])))=s at hm ⊢;rw[List.take_set,qM,wc hm]
  show _=(s.take k++[s[k]]).set k 0
  have hlk:(s.take k).length=k:=by rw[Wo];lia
  rw[List.set_append_right _ _ (by lia),hlk,V6]
  rfl
theorem Zp(a b:Rat)(ns:List Int)(xs:List Rat)(h:ns.length=xs.length):turned a b ns xs ns.length=aJ a b ns xs ns.length:=by
 rw[nB a b ns xs _ (by lia)];have hl:(aJ a b ns xs ns.length).length=xs.length:=dm a b ns xs _;rw[xg (by lia),WQ (by lia),qo]
def oR(xs:List Rat):Nat->Int
 | 0=>1
 | k+1=>oR xs k*((xs.getD k 0).den:Int)
theorem Ng(xs:List Rat):∀k,0<oR xs k
 | 0=>by show(0:Int)<1;decide
 | k+1=>vT (Ng xs k) (den_pos _)
theorem MJ(xs:List Rat):∀k j,j<k->((xs.getD j 0).den:Int) ∣ oR xs k
 | 0,j,h=>by lia
 | k+1,j,h=>by
  rcases wG j k with z | z
  ·exact qh (MJ xs k j z) (Vw ..)
  ·have:j=k:=by lia
   subst this;exact XM ..
theorem Oq{xs:List Rat}{m:Nat}(h:∀i,af m (xs.getD i 0)):∀k,Bd (m*k+1) (oR xs k)
 | 0=>⟨by show(1:Int).natAbs<_;simp⟩
 | k+1=>by
  rw[oR];refine((Oq h k).mul (h k).b).mono ?_;rw[Qs];lia
theorem zu2(hB:0<B)(h:(x.den:Int) ∣ B):wu (x.num*B.fdiv x.den) B=x:=by
 obtain⟨c,rfl⟩:=h;rw[fH (Vw ..) (fT x),VG _ (fT x)];refine fK (by lia) ?_;have:=jO x;rw[vR,vR,<- this]
 grind
theorem zBM(hd:0<d)(hB:0<B)(h:Bd m B):Bd m (B.fdiv d):=by
 refine h.le ?_;rw[Wr _ (by lia)];have h1:0<=B / d:=Int.ediv_nonneg (by lia) (by lia);have h2:B / d<=B:=XN _ (by lia)
 lia
theorem Ci(a b:Rat)(ns:List Int)(xs:List Rat)(hk:k<xs.length):(turned a b ns xs k).headD 0=(aJ a b ns xs k).getD k 0:=by
 have hl:=dm a b ns xs k;rw[nB a b ns xs k (by lia),VC (by lia),wb,wc (by lia)]
 rfl
theorem FE(a b:Rat)(ns:List Int)(xs:List Rat)(hx:0<xs.length):∀k,(turned a b ns xs k).length=xs.length
 | 0=>rfl
 | k+1=>by
  have:=FE a b ns xs hx k;rw[turned,mC,wN,wl,XO,this];simp;lia
theorem PB(x y:Rat):((x*y).num=x.num / (x.num.natAbs.gcd y.den:Nat)*(y.num / (y.num.natAbs.gcd x.den:Nat)))/\((x*y).den=x.den / (y.num.natAbs.gcd x.den)*(y.den / (x.num.natAbs.gcd y.den))):=by
 show(Rat.mul x y).num=_/\(Rat.mul x y).den=_
 unfold Rat.mul;simp only[Int.divExact_eq_ediv,Nat.divExact_eq_div]
 constructor<;>trivial
theorem Ug(x y:Rat):((x+y).num=(x.num*((y.den / x.den.gcd y.den:Nat):Int)+y.num*((x.den / x.den.gcd y.den:Nat):Int)) / (((x.num*((y.den / x.den.gcd y.den:Nat):Int)+y.num*((x.den / x.den.gcd y.den:Nat):Int)).natAbs.gcd (x.den.gcd y.den):Nat):Int))/\((x+y).den=x.den / (x.den.gcd y.den)*(y.den / ((x.num*((y.den / x.den.gcd y.den:Nat):Int)+y.num*((x.den / x.den.gcd y.den:Nat):Int)).natAbs.gcd (x.den.gcd y.den)))):=by
 show(Rat.add x y).num=_/\(Rat.add x y).den=_
 unfold Rat.add
 by_cases hg:x.den.gcd y.den=1
 ·simp[hg]
 ·simp only[hg,dite_false,Rat.maybeNormalize_eq]
  refine⟨by simp,?_⟩;simp;have:(x.num*((y.den / x.den.gcd y.den:Nat):Int)+y.num*((x.den / x.den.gcd y.den:Nat):Int)).natAbs.gcd (x.den.gcd y.den) ∣ y.den:=Nat.dvd_trans (Xh _ _) (Xh _ _);simp at this;rw[Nat.mul_div_assoc _ this]
def fB(x y:Rat):Int:=((vA (x.den:Int) (y.den:Int):Nat):Int)
def lT(x y:Rat):Int:=x.num*(y.den:Int).fdiv (fB x y)+y.num*(x.den:Int).fdiv (fB x y)
def jF(x y:Rat):Int:=((vA (lT x y) (fB x y):Nat):Int)
theorem zm(x y:Rat):0<fB x y:=by
 have:0<vA (x.den:Int) (y.den:Int):=Int.gcd_pos_of_ne_zero_left _ (by have:=x.den_pos;lia);unfold fB;lia
theorem Cc(x y:Rat):0<jF x y:=by
 have:0<vA (lT x y) (fB x y):=V4 _ (by have:=zm x y;lia);unfold jF;lia
theorem FG(x y:Rat):fB x y=((x.den.gcd y.den:Nat):Int):=by simp[fB,vA]
theorem pC(x y:Rat):fB x y ∣ (x.den:Int):=qc ..
theorem yx(x y:Rat):fB x y ∣ (y.den:Int):=qL ..
theorem Zd(x y:Rat):jF x y ∣ lT x y:=qc ..
theorem Em(x y:Rat):jF x y ∣ fB x y:=qL ..
theorem TF(x y:Rat):lT x y=x.num*((y.den / x.den.gcd y.den:Nat):Int)+y.num*((x.den / x.den.gcd y.den:Nat):Int):=by
 have h:=zm x y;rw[lT,fH (yx x y) (by lia),fH (pC x y) (by lia),FG,VH,VH]
theorem NS(x y:Rat):jF x y=(((x.num*((y.den / x.den.gcd y.den:Nat):Int)+y.num*((x.den / x.den.gcd y.den:Nat):Int)).natAbs.gcd (x.den.gcd y.den):Nat):Int):=by
 rw[jF,TF,FG];simp[vA]
theorem zAF(x y:Rat):(lT x y).fdiv (jF x y)=(x+y).num:=by
 have h:=Cc x y;rw[fH (Zd x y) (by lia),(Ug x y).1,NS,TF]
theorem zBn(x y:Rat):(x.den:Int).fdiv (fB x y)*(y.den:Int).fdiv (jF x y)=((x+y).den:Int):=by
 have h:=Cc x y;have h2:=zm x y;rw[fH (qh (Em x y) (yx x y)) (by lia),fH (pC x y) (by lia),(Ug x y).2,NS,FG];simp only[Vn,VH]
def gm(x y:Rat):Int:=((vA x.num (y.den:Int):Nat):Int)
theorem oJ(x y:Rat):0<gm x y:=by
 have:0<vA x.num (y.den:Int):=V4 _ (by have:=y.den_pos;lia);unfold gm;lia
theorem w_(x y:Rat):gm x y ∣ x.num:=qc ..
theorem nE(x y:Rat):gm x y ∣ (y.den:Int):=qL ..
theorem tD(x y:Rat):gm x y=((x.num.natAbs.gcd y.den:Nat):Int):=by simp[gm,vA]
theorem zAK(x y:Rat):x.num.fdiv (gm x y)*y.num.fdiv (gm y x)=(x*y).num:=by
 have h:=oJ x y;have h2:=oJ y x;rw[fH (w_ x y) (by lia),fH (w_ y x) (by lia),(PB x y).1,tD,tD]
theorem zAG(x y:Rat):(x.den:Int).fdiv (gm y x)*(y.den:Int).fdiv (gm x y)=((x*y).den:Int):=by
 have h:=oJ x y;have h2:=oJ y x;rw[fH (nE x y) (by lia),fH (nE y x) (by lia),(PB x y).2,tD,tD];simp only[Vn,VH]
theorem mq{a:Int}(h:Bd n a)(hd:d ∣ a)(hp:0<d):Bd n (a.fdiv d):=by
 rw[fH hd (by lia)];exact h.le (QK a d)
theorem sk{a:Int}(h:Bd n a)(hd:d ∣ a)(ha:0<a):Bd n d :=
 h.le (uv (by lia) (Int.natAbs_dvd_natAbs.mpr hd))
theorem uQ(t b:Int):vA (if t<0 then -t else t) b=vA t b:=by split<;>simp
theorem zBm(h:af n y):af n (-y):=⟨by simpa using h.t.neg,by simpa using h.b⟩
theorem zuA(x y:Rat):x + -y=x-y:=(Rat.sub_eq_add_neg x y).symm
theorem uZ(h:0<y.num):(y⁻¹).num=(y.den:Int)/\((y⁻¹).den:Int)=y.num:=by
 have:¬ y.num<0:=by lia
 constructor
 ·rw[Rat.num_inv,xb h,Qq]
 ·rw[Rat.den_inv];split<;>lia
theorem zl(h:y.num<0):(y⁻¹).num = -(y.den:Int)/\((y⁻¹).den:Int) = -y.num:=by
 constructor
 ·rw[Rat.num_inv,QD h,X1]
 ·rw[Rat.den_inv];split<;>lia
theorem PQ(h:af n y)(hy:y≠0):af n y⁻¹:=by
 have:=sD hy
 by_cases p:0<y.num
 ·exact⟨by rw[(uZ p).1];exact h.b,by rw[(uZ p).2];exact h.t⟩
 ·have p:y.num<0:=by lia
  exact⟨by rw[(zl p).1];exact h.b.neg,by rw[(zl p).2];exact h.t.neg⟩
theorem Ub(x y:Rat):0<(x.den:Int)*(y.den:Int):=vT (den_pos x) (den_pos y)
theorem getD_mem{α : Type}{xs:List α}{d : α}(h:i<xs.length):xs.getD i d∈xs:=by
 rw[wb,wc h];exact Wi h
def ki(x:Rat):Bool:=(!decide (x<0))&&(decide (x<1)&&decide ((x.den:Int)<=60))
structure fh(x:Rat):Prop where
 nn:0<=x
 lt:x<1
 den:x.den<=60
theorem fh.is(h:fh x):ki x=true:=by
 have h1:=h.nn;have h2:=h.lt;have h3:=h.den;have h4:¬ x<0:=Vi.mpr h1;have h5:(x.den:Int)<=60:=by lia
 simp[ki,h4,h2,h5]
theorem fh.dM(h:fh x):af 6 x:=by
 have h1:=h.nn;have h2:=h.lt;have h3:=h.den;have n0:0<=x.num:=qG.mpr h1
 have n1:x.num<x.den:=by
   have:=X3 x 1 |>.mp h2
   simpa using this
 exact ⟨⟨by have : (2 : Nat) ^ 6 = 64 := by decide
            omega⟩, ⟨by have : (2 : Nat) ^ 6 = 64 := by decide
                        omega⟩⟩
def mx(m:Rat)(l:List Rat):Rat:=l.foldl (λm x=>if m<x then x else m) m
theorem Om:∀(l:List Rat)(m:Rat),m<=mx m l /\ ∀y∈l,y<=mx m l
 | [],m=>⟨WR,λy h=>by cases h⟩
 | x::l,m=>by
  have h:=Om l (if m<x then x else m);have e:mx m (x::l)=mx (if m<x then x else m) l:=rfl;rw[e]
  have h1:m<=(if m<x then x else m)/\x<=(if m<x then x else m):=by
   split
   ·rename_i z;exact⟨vX z,WR⟩
   ·rename_i z;exact⟨WR,Vi.mp z⟩
  refine⟨QR h1.1 h.1,λy hy=>?_⟩;rcases wL.mp hy with rfl | hy
  ·exact QR h1.2 h.1
  ·exact h.2 y hy
theorem EV:∀(l:List Rat)(m:Rat),mx m l=m\/mx m l∈l
 | [],m=>.inl rfl
 | x::l,m=>by
  have e:mx m (x::l)=mx (if m<x then x else m) l:=rfl;rw[e];rcases EV l (if m<x then x else m)with h | h
  ·rw[h]
   split
   ·exact .inr (wE ..)
   ·exact .inl rfl
  ·exact .inr (wA _ h)
theorem me(m x:Rat)(l:List Rat):mx m (l++[x])=if mx m l<x then x else mx m l:=by
 unfold mx;rw[Xi];rfl
def aU(xs:List Rat):Rat:=mx (xs.getD 0 0) xs
theorem CS : ∀y∈xs,y<=aU xs:=(Om xs _).2
theorem fG(h:1<=xs.length):aU xs∈xs:=by
 rcases EV xs (xs.getD 0 0)with e | e
 ·unfold aU
  rw[e,wb,wc (by lia)];exact Wi _
 ·exact e
theorem fO(h:i<xs.length):xs.take (i+1)=xs.take i++[xs.getD i 0]:=by
 rw[qM,wb,wc h];rfl
theorem yd(b:∀i,af n (xs.getD i 0))(h1:1<=xs.length)(i:Nat):af n (mx (xs.getD 0 0) (xs.take i)):=by
 rcases EV (xs.take i) (xs.getD 0 0)with e | e
 ·rw[e];exact b 0
 ·have e:=XQ _ _ e
  obtain⟨j,hj,ej⟩:=ve e;rw[<- ej];have:=b j;rw[wb,wc hj]at this;exact this
theorem UN{r:Int}(h0:0<=r)(h1:r<u)(h2:u<=60):fh (wu r u):=by
 refine⟨Xg h0 (by lia),ZC (c:=1) (by lia) (by lia),?_⟩;have:=Dt r u (by lia)
 lia
def az(ps:List Rat)(left:List Nat):List Nat:=left.filter λw=>!decide (ps.getD w 0<1)
def bK(left wave:List Nat):List Nat:=left.filter λw=>!decide (w∈wave)
def cF(f g:Rat)(ps:List Rat)(l:List Nat):List Rat:=l.foldl (λps w=>ps.set w (f*ps.getD w 0+g)) ps
def cO(a b:Rat):Nat->List Rat->List Nat->List (List Nat) × (List Nat × List Rat)
 | 0,ps,left=>([],left,ps)
 | n+1,ps,left=>match az ps left with
  | []=>([],left,ps)
  | w::ws=>((w::ws)::(cO a b n (cF (a^(w::ws).length) (aC a b (w::ws).length) ps (bK left (w::ws))) (bK left (w::ws))).1,(cO a b n (cF (a^(w::ws).length) (aC a b (w::ws).length) ps (bK left (w::ws))) (bK left (w::ws))).2)
def gX(left:List Nat)(ps:List Rat):List Rat:=(wo ps.length).map λi=>if i∈left then ps.getD i 0 else 0
def bE(xs:List Rat):List Rat:=xs.map (· + (1-aU xs))
def dY(a b:Rat)(xs:List Rat):List (List Nat) × (List Nat × List Rat):=cO a b xs.length (bE xs) (wo xs.length)
def cW(a b:Rat)(xs:List Rat):List (List Nat):=(dY a b xs).1
def cZ(a b:Rat)(xs:List Rat):List Rat:=gX (dY a b xs).2.1 (dY a b xs).2.2
theorem mD(h:az ps left=[]):cO a b n ps left=([],left,ps):=by
 cases n with
 | zero=>rfl
 | succ n=>rw[cO,h]
theorem jb(h:az ps left≠[]):cO a b (n+1) ps left=(az ps left::(cO a b n (cF (a^(az ps left).length) (aC a b (az ps left).length) ps (bK left (az ps left))) (bK left (az ps left))).1,(cO a b n (cF (a^(az ps left).length) (aC a b (az ps left).length) ps (bK left (az ps left))) (bK left (az ps left))).2):=by
 rw[cO];cases e:az ps left with
 | nil=>exact absurd e h
 | cons w ws=>rfl
theorem UW(f g:Rat)(ps:List Rat)(l:List Nat)(w:Nat):cF f g ps (l++[w])=(cF f g ps l).set w (f*(cF f g ps l).getD w 0+g):=by
 unfold cF;rw[Xi];rfl
theorem gR(f g:Rat):∀(l:List Nat)(ps:List Rat),(cF f g ps l).length=ps.length
 | [],ps=>rfl
 | w::l,ps=>by
  show(cF f g (ps.set w _) l).length=_
  rw[gR f g l,Wt]
theorem sj(h:w≠j):(ps.set w y).getD j 0=ps.getD j 0:=by
 rw[wb,WN,if_neg h,wb]
theorem pz(h:w<ps.length):(ps.set w y).getD w 0=y:=by
 rw[wb,WN,if_pos rfl,if_pos h];rfl
theorem jn(f g:Rat):∀(l:List Nat)(ps:List Rat),l.Nodup->(∀w∈l,w<ps.length)->∀j,(cF f g ps l).getD j 0=if j∈l then f*ps.getD j 0+g else ps.getD j 0
 | [],ps,_,_,j=>by simp[cF]
 | w::l,ps,nd,hl,j=>by
  have nd':=VS.mp nd
  show(cF f g (ps.set w _) l).getD j 0=_
  rw[jn f g l _ nd'.2 (λv hv=>by rw[Wt];exact hl v (wA _ hv)) j]
  by_cases hj:j=w
  ·subst hj
   rw[if_neg nd'.1,if_pos (wE ..),pz (hl j (wE ..))]
  ·rw[sj (WB hj)]
   by_cases hm:j∈l
   ·rw[if_pos hm,if_pos (wA _ hm)]
   ·rw[if_neg hm,if_neg (λz=>by rcases wL.mp z with z | z;(exact hj z);exact hm z)]
theorem Za(ps:List Rat)(left:List Nat):bK left (az ps left)=left.filter λw=>decide (ps.getD w 0<1):=by
 unfold bK;refine vk λw hw=>?_
 have e:(w∈az ps left)=(¬ ps.getD w 0<1):=by
  unfold az;rw[wU];simp[hw]
 simp only[e];simp
theorem zW(ps:List Rat)(left:List Nat):(az ps left).length+(bK left (az ps left)).length=left.length:=by
 rw[Za];unfold az
 induction left with
 | nil=>rfl
 | cons w l ih=>by_cases h:ps.getD w 0<1<;>simp only[Wp,h,decide_true,decide_false,qj,xr,if_true,if_false,Wu,Wa]<;>lia
theorem n_{wave:List Nat}(h:left.Nodup):(bK left wave).Nodup:=h.filter _
theorem nY{wave:List Nat}(h:∀w∈left,w<n):∀w∈bK left wave,w<n:=λw hw=>h w (wU.mp hw).1
theorem CY(left:List Nat)(ps:List Rat):(gX left ps).length=ps.length:=by simp[gX]
theorem lX(h:j<ps.length):(gX left ps).getD j 0=if j∈left then ps.getD j 0 else 0:=by
 unfold gX;rw[wb,wq,vE h]
 rfl
theorem eU(xs:List Rat):(bE xs).length=xs.length:=by simp[bE]
theorem rY{a b:Rat} : ∀(n:Nat)(ps:List Rat)(left:List Nat),(cO a b n ps left).2.2.length=ps.length
 | 0,ps,left=>rfl
 | n+1,ps,left=>by
  by_cases h:az ps left=[]
  ·rw[mD h]
  ·rw[jb h]
   show(cO a b n _ _).2.2.length=_
   rw[rY n,gR]
theorem jN(a b:Rat)(xs:List Rat):(cZ a b xs).length=xs.length:=by
 unfold cZ dY;rw[CY,rY,eU]
theorem Cm.Kt(h0:0<B)(h1:Bd m B)(h:∀j,j<ps.length->∃t:Int,ps.getD j 0=wu t B/\Bd m t):∀x∈ps,∃t:Int,x=wu t B/\Bd m t:=λx hx=>by
 obtain⟨j,hj,e⟩:=ve hx;have:=h j hj;rw[wb,wc hj]at this;rw[<- e];exact this
theorem yK{a b:Rat}(ba:af 10 a)(bb:af 10 b){m:Nat}{t:Int}(h:Bd m t):∀n:Nat,Bd (m+21*n) (t*((a.den:Int)*(b.den:Int))^n)
 | 0=>by simpa using h
 | n+1=>by
  rw[VI,<- VQ];exact((yK ba bb h n).mul (ba.b.mul bb.b)).mono (by lia)
theorem rH(h0:0<B)(hd:0<d):wu t B=wu (t*d) (B*d):=by
 symm
 refine fK (by have:=vT h0 hd;lia) ?_;have q1:=c9 t (show B≠0 by lia);rw[vR,vR,<- ut,q1]
theorem Cm.wave(c:Cm m (h::ps))(ba:af 10 a)(bb:af 10 b)(n:Nat){l:List Nat}(nd:l.Nodup)(hl:∀w∈l,w<ps.length):Cm (m+21*n) (h::cF (a^n) (aC a b n) ps l):=by
 obtain⟨B,h0,h1,h2⟩:=c;have hz:Bd m (0:Int):=⟨by simp;exact Wm m⟩;obtain⟨p1,p2,_⟩:=rX ba bb h0 hz h1 n;have hd:0<((a.den:Int)*(b.den:Int))^n:=Xy (vT (den_pos a) (den_pos b));refine⟨_,p1,p2,λx hx=>?_⟩;rcases wL.mp hx with rfl | hx
 ·obtain⟨t,rfl,ht⟩:=h2 x (wE ..)
  exact⟨_,rH h0 hd,yK ba bb ht n⟩
 ·refine Cm.Kt p1 p2 (λj hj=>?_) x hx
  rw[gR]at hj;obtain⟨t,e,ht⟩:=h2 (ps.getD j 0) (wA _ (getD_mem hj));rw[jn _ _ _ _ nd hl]
  split
  ·obtain⟨_,_,T,e2,hT⟩:=rX ba bb h0 ht h1 n
   exact⟨T,by rw[<- gz,e,e2],hT⟩
  ·exact⟨_,by rw[e];exact rH h0 hd,yK ba bb ht n⟩
theorem Cm.rise{M:Rat}(c:Cm m (h::xs))(hM:M∈xs):Cm (m+2) ((h+(1-M))::xs.map (· + (1-M))):=by
 obtain⟨B,h0,h1,h2⟩:=c;obtain⟨z,ez,hz⟩:=h2 M (wA _ hM)
 have key:∀t:Int,Bd m t->wu t B+(1-M)=wu (t+B-z) B/\Bd (m+2) (t+B-z):=λt ht=>by
  refine⟨?_,((ht.add h1).sub hz).mono (by lia)⟩;rw[ez]
  symm
  refine fK (by lia) ?_;have q1:=c9 t (show B≠0 by lia);have q2:=c9 z (show B≠0 by lia);have q3:((t+B-z:Int):Rat)=(t:Rat)+(B:Rat)-(z:Rat):=by push_cast;rfl
  rw[q3,<- q1,<- q2]
  grind
 refine⟨B,h0,h1.mono (by lia),λx hx=>?_⟩;rcases wL.mp hx with rfl | hx
 ·obtain⟨t,e,ht⟩:=h2 h (wE ..)
  rw[e];exact⟨_,(key t ht).1,(key t ht).2⟩
 ·obtain⟨y,hy,rfl⟩:=wR.mp hx
  obtain⟨t,e,ht⟩:=h2 y (wA _ hy)
  show ∃t:Int,y+(1-M)=_/\_
  rw[e];exact⟨_,(key t ht).1,(key t ht).2⟩
theorem Cm.gf(c:Cm m xs)(h:∀y∈ys,y∈xs\/y=0):Cm m ys:=by
 obtain⟨B,h0,h1,h2⟩:=c;refine⟨B,h0,h1,λy hy=>?_⟩;rcases h y hy with z | rfl
 ·exact h2 y z
 ·exact⟨0,by simp,⟨by simp;exact Wm m⟩⟩
theorem zye : ∀y∈gX left ps,y∈ps\/y=0:=λy hy=>by
 unfold gX at hy;obtain⟨i,hi,e⟩:=wR.mp hy;rw[<- e]
 split
 ·exact .inl (getD_mem (wF.mp hi))
 ·exact .inr rfl
theorem Cm.YS(h:∀i,af k (xs.getD i 0)):Cm (k*xs.length+1+k) xs:=by
 have h0:=Ng xs xs.length;have h1:=Oq h xs.length;refine⟨oR xs xs.length,h0,h1.mono (by lia),Cm.Kt h0 (h1.mono (by lia)) λj hj=>?_⟩;exact⟨_,(zu2 h0 (MJ xs _ j hj)).symm,((h j).t.mul (zBM (den_pos _) h0 h1)).mono (by lia)⟩
def ao(a b:Rat)(xs:List Rat):Nat->List Rat
 | 0=>xs
 | k+1=>cZ a b (ao a b xs k)
def aO(a b:Rat)(xs:List Rat):Nat->Rat
 | 0=>0
 | k+1=>aO a b xs k+(1-aU (ao a b xs k))
theorem bW(a b:Rat)(xs:List Rat):∀k,(ao a b xs k).length=xs.length
 | 0=>rfl
 | k+1=>by rw[ao,jN,bW a b xs k]
def Rg(n:Nat)(left:List Nat):Prop:=left=(wo n).filter λw=>decide (w∈left)
theorem Rg.range(n:Nat):Rg n (wo n):=by
 unfold Rg;rw[xJ.mpr];intro w hw;exact decide_eq_true hw
theorem Rg.filter(h:Rg n left)(p:Nat->Bool):Rg n (left.filter p):=by
 have e:((wo n).filter λw=>decide (w∈left.filter p))=((wo n).filter λw=>decide (w∈left)).filter p:=by
  rw[Vk];refine vk λw _=>?_
  by_cases h1:w∈left<;>cases h2:p w<;>simp[h1,h2]
 unfold Rg;rw[e];exact congrArg (List.filter p) h
theorem Rg.bK(h:Rg n left)(wave:List Nat):Rg n (bK left wave):=h.filter _
theorem Rg.lt(h:Rg n left):∀w∈left,w<n:=λw hw=>by
 rw[h]at hw;exact wF.mp (wU.mp hw).1
theorem Rg.nodup(h:Rg n left):left.Nodup:=by
 rw[h];exact WK.filter _
theorem Rg.ends(h:Rg n left)(ps:List Rat):az ps left=(wo n).filter λw=>decide (w∈left) && !decide (ps.getD w 0<1):=by
 have e:az ps left=((wo n).filter λw=>decide (w∈left)).filter λw=>!decide (ps.getD w 0<1):=congrArg (List.filter λw=>!decide (ps.getD w 0<1)) h
 rw[e,Vk];refine vk λw _=>?_
 rw[Bool.and_comm]
theorem yS{f:Rat->Rat}(h:w<xs.length):(xs.map f).getD w 0=f (xs.getD w 0):=by
 rw[wb,wq,wc h,wb,wc h];rfl
def e_(d:Int)(m:Nat)(xs:List Rat):Prop:=∃B:Int,0<B/\d ∣ B/\Bd m B /\ ∀x∈xs,∃t:Int,x=wu t B/\Bd m t
theorem e_.of(h:Cm m xs)(hd:0<d)(b:Bd 4 d):e_ d (m+4) xs:=by
 obtain⟨B,h0,h1,h2⟩:=h;refine⟨B*d,vT h0 hd,XM ..,(h1.mul b),λx hx=>?_⟩;obtain⟨t,e,ht⟩:=h2 x hx;exact⟨t*d,by rw[e];exact rH h0 hd,ht.mul b⟩
theorem U1{a b:Rat}(ta:Bd 6 a.num)(da:Bd 4 (a.den:Int))(tb:Bd 4 b.num){m:Nat}{t u:Int}(hu:0<u)(hd:(b.den:Int) ∣ u)(bt:Bd m t)(bu:Bd m u):∀n:Nat,0<u*(a.den:Int)^n/\(b.den:Int) ∣ u*(a.den:Int)^n/\Bd (m+9*n) (u*(a.den:Int)^n) /\
  ∃T:Int,push a b n (wu t u)=wu T (u*(a.den:Int)^n)/\Bd (m+9*n) T
 | 0=>⟨by simpa using hu,by simpa using hd,by simpa using bu,t,by simp[push],by simpa using bt⟩
 | n+1=>by
  obtain⟨h1,hdv,h2,T,e,hT⟩:=U1 ta da tb hu hd bt bu n;have eb:u*(a.den:Int)^(n+1)=u*(a.den:Int)^n*(a.den:Int):=by rw[VI,<- VQ]
  rw[eb];generalize u*(a.den:Int)^n=U at *;obtain⟨c,rfl⟩:=hdv
  have hc:0<c:=by
   have hb:=den_pos b;rcases Int.lt_or_le 0 c with z | z
   ·exact z
   ·have:=Int.mul_nonpos_of_nonneg_of_nonpos (Int.le_of_lt hb) z
    lia
  have bc:Bd (m+9*n) c:=h2.le (by
   rw[xp];exact Nat.le_mul_of_pos_left _ (by have:=den_pos b;lia))
  refine⟨vT h1 (den_pos a),qh (Vw ..) (Vw ..),(h2.mul da).mono (by lia),a.num*T+b.num*(a.den:Int)*c,?_,((ta.mul hT).add ((tb.mul da).mul bc)).mono (by lia)⟩;rw[push,e]
  symm
  have hU:((b.den:Int)*c)*(a.den:Int)≠0:=by have:=vT h1 (den_pos a);lia
  refine fK hU ?_;have q1:=c9 T (show(b.den:Int)*c≠0 by lia);have q2:=jO a;have q3:=jO b;have q4:((a.num*T+b.num*(a.den:Int)*c:Int):Rat)=(a.num:Rat)*(T:Rat)+(b.num:Rat)*((a.den:Int):Rat)*(c:Rat):=by push_cast;rfl
  have q5:(((b.den:Int)*c*(a.den:Int):Int):Rat)=((b.den:Int):Rat)*(c:Rat)*((a.den:Int):Rat):=by push_cast;rfl
  have q6:(((b.den:Int)*c:Int):Rat)=((b.den:Int):Rat)*(c:Rat):=by push_cast;rfl
  rw[q6]at q1;rw[q4,q5,<- q1,<- q2,<- q3]
  grind
theorem eD(a b:Rat)(xs:List Rat)(m:Nat):∀k,ao a b (ao a b xs m) k=ao a b xs (m+k)
 | 0=>rfl
 | k+1=>by rw[ao,eD a b xs m k];rfl
theorem km(a b:Rat)(xs:List Rat)(m:Nat):∀k,aO a b xs m+aO a b (ao a b xs m) k=aO a b xs (m+k)
 | 0=>by show aO a b xs m+0=aO a b xs m;grind
 | k+1=>by
  have:=km a b xs m k
  show aO a b xs m+(aO a b (ao a b xs m) k+(1-aU (ao a b (ao a b xs m) k)))=aO a b xs (m+k)+(1-aU (ao a b xs (m+k)))
  rw[eD,<- this]
  grind
theorem Mt{a b:Rat}(a0:0<a)(b0:0<=b){x:Rat}(h:0<x):∀n:Nat,0<push a b n x
 | 0=>h
 | n+1=>by
  have h1:=Mt a0 b0 h n;have h2:=V0 a0 h1
  show 0<a*push a b n x+b
  grind
structure iP(l:List Rat):Prop where
 pw:l.Pairwise (· > ·)
 nn:∀y∈l,0<=y
theorem iP.step(a0:0<a)(b0:0<=b)(h:iP (x::l))(x1:x<1):iP (mC a b n (x::l)):=by
 have hp:=WZ.mp h.pw;have pos:∀y∈l,0<push a b n (y+(1-x)):=λy hy=>Mt a0 b0 (by have:=h.nn y (wA _ hy);grind) n
 unfold mC;refine⟨qd.mpr ⟨?_,QW _ _,?_⟩,λy hy=>?_⟩
 ·show(l.map λy=>push a b n (y+(1-x))).Pairwise (· > ·)
  rw[QG];refine hp.2.imp λ{y z} hyz=>?_
  show push a b n (z+(1-x))<push a b n (y+(1-x))
  have hyz:z<y:=hyz;exact(zAo a0 n _ _).mpr (by grind)
 ·intro y hy z hz
  obtain⟨w,hw,rfl⟩:=wR.mp hy;rw[w6.mp hz];exact pos w hw
 ·rcases vY.mp hy with hy | hy
  ·obtain⟨w,hw,rfl⟩:=wR.mp hy
   exact vX (pos w hw)
  ·rw[w6.mp hy];exact WR
structure hV(xs row:List Rat)(fl:Nat->Nat):Prop where
 at':∀w,w<xs.length->xs.getD w 0=row.getD (fl w) 0
 lt:∀w,w<xs.length->fl w<row.length
def bN(n:Nat)(fl:Nat->Nat)(c:Nat):List Nat:=(wo n).filter λw=>decide (fl w=c)
theorem rM{row:List Rat}(h:hV xs row fl)(some:∃w,w<xs.length/\fl w=c)(top:∀j,j<row.length->j≠c->row.getD j 0<row.getD c 0):aU xs=row.getD c 0:=by
 obtain⟨w,hw,rfl⟩:=some;have h1:1<=xs.length:=by lia
 refine Rat.le_antisymm ?_ ?_
 ·obtain⟨j,hj,e⟩:=ve (fG h1)
  have ea:=h.at' j hj;rw[wb,wc hj]at ea;have ea:xs[j]=row.getD (fl j) 0:=ea;rw[<- e,ea]
  by_cases z:fl j=fl w
  ·rw[z];exact WR
  ·exact vX (top _ (h.lt j hj) z)
 ·rw[<- h.at' w hw]
  exact CS _ (getD_mem hw)
theorem E_{row:List Rat}(h:hV xs row fl)(some:∃w,w<xs.length/\fl w=c)(top:∀j,j<row.length->j≠c->row.getD j 0<row.getD c 0):az (bE xs) (wo xs.length)=bN xs.length fl c:=by
 unfold az bN;refine vk λw hw=>?_
 have hw:=wF.mp hw;have hm:=rM h some top
 have e:(bE xs).getD w 0=row.getD (fl w) 0+(1-row.getD c 0):=by
  unfold bE;rw[wb,wq,wc hw,hm];have ea:=h.at' w hw;rw[wb,wc hw]at ea;have ea:xs[w]=row.getD (fl w) 0:=ea
  show xs[w]+(1-row.getD c 0)=_
  rw[ea]
 rw[e]
 by_cases z:fl w=c
 ·rw[z,decide_eq_true rfl,decide_eq_false (by grind)];rfl
 ·have:=top _ (h.lt w hw) z
  rw[decide_eq_false z,decide_eq_true (by grind)];rfl
theorem RA{row:List Rat}(h:hV xs row fl)(hm:aU xs=row.getD c 0)(hw:w<xs.length):(bE xs).getD w 0=row.getD (fl w) 0+(1-row.getD c 0):=by
 unfold bE;rw[wb,wq,wc hw,hm];have ea:=h.at' w hw;rw[wb,wc hw]at ea;have ea:xs[w]=row.getD (fl w) 0:=ea
 show xs[w]+(1-row.getD c 0)=_
 rw[ea]
theorem zsV{row:List Rat}(h:hV xs row fl)(some:∃w,w<xs.length/\fl w=c)(top:∀j,j<row.length->j≠c->row.getD j 0<row.getD c 0)
  (low:∀j,j<row.length->j≠c->(∃w,w<xs.length/\fl w=j)->push a b (bN xs.length fl c).length (row.getD j 0+(1-row.getD c 0))<1) :
  cW a b xs=[bN xs.length fl c]/\hV (cZ a b xs) (dP a b (bN xs.length fl c).length row c) fl:=by
 have hm:=rM h some top;have he:=E_ h some top;obtain⟨w0,hw0,hf0⟩:=some
 have hne:bN xs.length fl c≠[]:=λe=>by
  have:w0∈bN xs.length fl c:=wU.mpr ⟨wF.mpr hw0,decide_eq_true hf0⟩;rw[e]at this;cases this
 have hlen:xs.length=(xs.length-1)+1:=by lia
 have hcl:c<row.length:=by rw[<- hf0];exact h.lt w0 hw0
 have nd:=WK (n:=xs.length)
 have hmemL:∀w,w∈bK (wo xs.length) (bN xs.length fl c) ↔ w<xs.length/\fl w≠c:=λw=>by
  unfold bK bN;rw[wU,wF]
  constructor
  ·rintro ⟨h1,h2⟩
   refine⟨h1,λz=>?_⟩;have:w∈(wo xs.length).filter λw=>decide (fl w=c):=wU.mpr ⟨wF.mpr h1,decide_eq_true z⟩
   simp[this]at h2
  ·rintro ⟨h1,h2⟩
   exact⟨h1,by simp[h2]⟩
 have hps:∀w,w<xs.length->fl w≠c->(cF (a^(bN xs.length fl c).length) (aC a b (bN xs.length fl c).length) (bE xs) (bK (wo xs.length) (bN xs.length fl c))).getD w 0=push a b (bN xs.length fl c).length (row.getD (fl w) 0+(1-row.getD c 0)):=λw hw hf=>by
  rw[jn _ _ _ _ (n_ nd) (λv hv=>by rw[eU];exact((hmemL v).mp hv).1),if_pos ((hmemL w).mpr ⟨hw,hf⟩),RA h hm hw,gz]
 have hend:az (cF (a^(bN xs.length fl c).length) (aC a b (bN xs.length fl c).length) (bE xs) (bK (wo xs.length) (bN xs.length fl c))) (bK (wo xs.length) (bN xs.length fl c))=[]:=by
  unfold az;rw[xh];intro w hw;have hw':=(hmemL w).mp hw;rw[hps w hw'.1 hw'.2];have:=low (fl w) (h.lt w hw'.1) hw'.2 ⟨w,hw'.1,rfl⟩;rw[decide_eq_true this]
  decide
 have hR:dY a b xs=([bN xs.length fl c],bK (wo xs.length) (bN xs.length fl c),cF (a^(bN xs.length fl c).length) (aC a b (bN xs.length fl c).length) (bE xs) (bK (wo xs.length) (bN xs.length fl c))):=by
  unfold dY;generalize hN:cO a b xs.length (bE xs) (wo xs.length)=r;rw[show cO a b xs.length (bE xs) (wo xs.length)=cO a b ((xs.length-1)+1) (bE xs) (wo xs.length) by rw[<- hlen],jb (by rw[he];exact hne),he,mD hend]at hN;exact hN.symm
 refine⟨by unfold cW;rw[hR],λw hw=>?_,λw hw=>by rw[iQ];exact h.lt w (by rw[jN]at hw;exact hw)⟩;rw[jN]at hw;have hfw:=h.lt w hw;unfold cZ;rw[hR,lX (by rw[gR,eU];exact hw),gC _ _ _ _ _ _ hfw]
 by_cases z:fl w=c
 ·rw[if_neg (λy=>((hmemL w).mp y).2 z),if_pos z]
 ·rw[if_pos ((hmemL w).mpr ⟨hw,z⟩),if_neg z,hps w hw z]
theorem zsB{row:List Rat}(h:hV xs row fl)(some:∃w,w<xs.length/\fl w=c)(top:∀j,j<row.length->j≠c->row.getD j 0<row.getD c 0)
  {w1:Nat} (hw1:w1<xs.length) (hf1:fl w1≠c) (up:¬ push a b (bN xs.length fl c).length (row.getD (fl w1) 0+(1-row.getD c 0))<1):1<(cW a b xs).length:=by
 have hm:=rM h some top;have he:=E_ h some top;obtain⟨w0,hw0,hf0⟩:=some
 have hne:bN xs.length fl c≠[]:=λe=>by
  have:w0∈bN xs.length fl c:=wU.mpr ⟨wF.mpr hw0,decide_eq_true hf0⟩;rw[e]at this;cases this
 have hw01:w0≠w1:=λe=>hf1 (by rw[<- e];exact hf0)
 have hlen:xs.length=(xs.length-2)+1+1:=by lia
 have nd:=WK (n:=xs.length)
 have hmem:w1∈bK (wo xs.length) (bN xs.length fl c):=by
  unfold bK bN;rw[wU,wF];exact⟨hw1,by simp[hf1]⟩
 have hend:az (cF (a^(bN xs.length fl c).length) (aC a b (bN xs.length fl c).length) (bE xs) (bK (wo xs.length) (bN xs.length fl c))) (bK (wo xs.length) (bN xs.length fl c))≠[]:=λe=>by
  have:w1∈az (cF (a^(bN xs.length fl c).length) (aC a b (bN xs.length fl c).length) (bE xs) (bK (wo xs.length) (bN xs.length fl c))) (bK (wo xs.length) (bN xs.length fl c)):=by
   unfold az;refine wU.mpr ⟨hmem,?_⟩;rw[jn _ _ _ _ (n_ nd) (λv hv=>by rw[eU];exact wF.mp (wU.mp hv).1),if_pos hmem,RA h hm hw1,<- gz,decide_eq_false up]
   rfl
  rw[e]at this;cases this
 unfold cW dY;rw[show cO a b xs.length (bE xs) (wo xs.length)=cO a b ((xs.length-2)+1+1) (bE xs) (wo xs.length) by rw[<- hlen],jb (by rw[he];exact hne),he,jb hend]
 show 1<(_::_::_:List (List Nat)).length
 simp
theorem Nv{row:List Rat}(hi:i<=row.length)(hj:j<row.length):(aJ a b ns row i).getD j 0∈turned a b ns row i:=by
 have hl:=dm a b ns row i;rw[nB a b ns row i hi];have hm:(aJ a b ns row i).getD j 0∈aJ a b ns row i:=getD_mem (by lia);generalize (aJ a b ns row i).getD j 0=y at hm;have hm2:y∈(aJ a b ns row i).take i++(aJ a b ns row i).drop i:=by rw[List.take_append_drop];exact hm
 rcases vY.mp hm2 with z | z
 ·exact vY.mpr (.inr z)
 ·exact vY.mpr (.inl z)
theorem EC{row:List Rat}(h:iP (turned a b ns row i))(hi:i<row.length)(hj:j<row.length)(hne:j≠i):(aJ a b ns row i).getD j 0<(aJ a b ns row i).getD i 0:=by
 have hl:=dm a b ns row i;have hpw:=h.pw;rw[nB a b ns row i (by lia),VC (by lia),XJ]at hpw;have hp:=(WZ.mp hpw).1;have e:(aJ a b ns row i).getD i 0=(aJ a b ns row i)[i]'(by lia):=by rw[wb,wc (by lia)];rfl
 rw[e];refine hp _ ?_;rw[vY];have ej:(aJ a b ns row i).getD j 0=(aJ a b ns row i)[j]'(by lia):=by rw[wb,wc (by lia)];rfl
 rw[ej];rcases wG j i with z | z
 ·refine .inr (xA.mpr ⟨j,by rw[Wo];lia,?_⟩)
  rw[Xj]
 ·refine .inl (xA.mpr ⟨j-(i+1),by rw[Wh];lia,?_⟩)
  rw[Xk]
  congr 1
  lia
def eP(a b:Rat)(ns:List Int)(row:List Rat)(i:Nat):Rat:=(aJ a b ns row (i+1)).getD ((i+1) % row.length) 0
structure fQ(xs row:List Rat)(fl:Nat->Nat)(ns:List Int):Prop where
 pl:hV xs row fl
 Bk:iP row
 one:row.getD 0 0<1
 len:ns.length=row.length
 some:∀c,c<row.length->∃w,w<xs.length/\fl w=c
 size:∀c,c<row.length->(ns.getD c 0).toNat=(bN xs.length fl c).length
theorem uS{a b:Rat}(a0:0<a)(b0:0<=b){xs row:List Rat}{fl:Nat->Nat}{ns:List Int}(h:fQ xs row fl ns):∀i,i<=row.length->(∀t,t<i->eP a b ns row t<1)->hV (ao a b xs i) (aJ a b ns row i) fl/\iP (turned a b ns row i)/\(i<row.length->(aJ a b ns row i).getD i 0<1) /\ ∀t,t<i->cW a b (ao a b xs t)=[bN xs.length fl t]
 | 0,_,_=>⟨h.pl,h.Bk,λ_=>h.one,λt ht=>by lia⟩
 | i+1,hi,ht=>by
  obtain⟨P,F,o,W⟩:=uS a0 b0 h i (by lia) (λt ht'=>ht t (by lia));have hl:=dm a b ns row i;have hpl:=bW a b xs i;have hi':i<row.length:=by lia
  have oi:=o hi';have ti:=ht i (by lia)
  have hne:turned a b ns row i≠[]:=λe=>by
   have:=FE a b ns row (by lia) i;rw[e]at this;simp at this;lia
  obtain⟨x,l,ex⟩:∃x l,turned a b ns row i=x::l:=by
   cases e:turned a b ns row i with
   | nil=>exact absurd e hne
   | cons x l=>exact⟨x,l,rfl⟩
  have hx:x=(aJ a b ns row i).getD i 0:=by
   have:=Ci a b ns row hi';rw[ex]at this;exact this
  have F1:iP (turned a b ns row (i+1)):=by
   show iP (mC a b (ns.getD i 0).toNat (turned a b ns row i))
   rw[ex]at F ⊢;exact F.step a0 b0 (by rw[hx];exact oi)
  have hsz:(ns.getD i 0).toNat=(bN (ao a b xs i).length fl i).length:=by rw[hpl];exact h.size i hi'
  have hrow:aJ a b ns row (i+1)=dP a b (bN (ao a b xs i).length fl i).length (aJ a b ns row i) i:=by rw[<- hsz];rfl
  have headTop:(turned a b ns row (i+1)).headD 0=eP a b ns row i:=by
   unfold eP;rcases wG (i+1) row.length with z | z
   ·rw[Ci a b ns row z,QT z]
   ·have e:i+1=row.length:=by lia
    rw[e,Nat.mod_self,nB a b ns row _ (wp _)];have hl1:=dm a b ns row row.length;rw[xg (by lia),WQ (by lia),qo];cases e2:aJ a b ns row row.length with
    | nil=>rw[e2]at hl1;simp at hl1;lia
    | cons y m=>rfl
  have below:∀y∈turned a b ns row (i+1),y<1:=λy hy=>by
   have hpw:=F1.pw;cases e2:turned a b ns row (i+1)with
   | nil=>rw[e2]at hy;cases hy
   | cons z m =>
    rw[e2]at hy hpw headTop
    have hz:z<1:=by
     have:z=eP a b ns row i:=headTop;rw[this];exact ti
    rcases wL.mp hy with rfl | hy
    ·exact hz
    ·have:=(WZ.mp hpw).1 y hy
     have:y<z:=this
     grind
  have G:=zsV (a:=a) (b:=b) (c:=i) P (by obtain⟨w,h1,h2⟩:=h.some i hi';exact⟨w,by lia,h2⟩) (λj hj hji=>EC F hi' (by lia) hji) (λj hj hji _=>by
   have hm:=Nv (a:=a) (b:=b) (ns:=ns) (row:=row) (i:=i+1) (j:=j) hi (by lia);have:=below _ hm;rw[hrow,gC _ _ _ _ _ _ hj,if_neg hji]at this;exact this)
  refine⟨by rw[hrow];exact G.2,F1,λhlt=>?_,λt ht'=>?_⟩
  ·have:=below _ (Nv (a:=a) (b:=b) (ns:=ns) (row:=row) (i:=i+1) (j:=i+1) hi hlt)
   exact this
  ·rcases wG t i with z | z
   ·exact W t z
   ·have:t=i:=by lia
    subst this;have:=G.1;rw[hpl]at this;exact this
def eI(xs:List Rat)(v:Rat):List Nat:=(wo xs.length).filter λw=>decide (xs.getD w 0=v)
def gc:Nat->List Rat->List Rat
 | 0,_=>[]
 | _+1,[]=>[]
 | n+1,x::l=>aU (x::l)::gc n ((x::l).filter λy=>!decide (y=aU (x::l)))
def aj(xs:List Rat):List Rat:=gc xs.length xs
theorem p6(n:Nat):gc n []=[]:=by cases n<;>rfl
theorem lz(h:l≠[]):gc (n+1) l=aU l::gc n (l.filter λy=>!decide (y=aU l)):=by
 cases l with
 | nil=>exact absurd rfl h
 | cons x l=>rfl
theorem zI(h:l≠[]):(l.filter λy=>!decide (y=aU l)).length<l.length:=by
 have hm:aU l∈l:=fG (Wx.mpr h);rcases wG (l.filter λy=>!decide (y=aU l)).length l.length with z | z
 ·exact z
 ·have:=List.length_filter_eq_length_iff.mp (Nat.le_antisymm (vS _ _) z) (aU l) hm
  simp at this
theorem Cw:∀(n:Nat)(l:List Rat),∀y∈gc n l,y∈l
 | 0,l,y,h=>by cases h
 | n+1,[],y,h=>by cases h
 | n+1,x::l,y,h=>by
  rw[lz (by simp)]at h;rcases wL.mp h with rfl | h
  ·exact fG (by simp)
  ·exact(wU.mp (Cw n _ y h)).1
theorem jQ:∀(n:Nat)(l:List Rat),(gc n l).Pairwise (· > ·)
 | 0,l=>xH.nil
 | n+1,[]=>xH.nil
 | n+1,x::l=>by
  rw[lz (by simp)];refine WZ.mpr ⟨λy hy=>?_,jQ n _⟩;have hf:=wU.mp (Cw n _ y hy);have h1:=CS y hf.1;have h2:¬ y=aU (x::l):=by simpa using hf.2
  show y<aU (x::l)
  exact qz h1 h2
theorem NF:∀(n:Nat)(l:List Rat),l.length<=n->∀y∈l,y∈gc n l
 | 0,l,h,y,hy=>by
  have:l=[]:=qJ.mp (by lia);rw[this]at hy;cases hy
 | n+1,[],h,y,hy=>by cases hy
 | n+1,x::l,h,y,hy=>by
  rw[lz (by simp)]
  by_cases z:y=aU (x::l)
  ·rw[z];exact wE ..
  ·have hl:=zI (l:=x::l) (by simp)
   refine wA _ (NF n _ (by lia) y (wU.mpr ⟨hy,by simp[z]⟩))
def aH(xs:List Rat)(w:Nat):Nat:=(aj xs).idxOf (xs.getD w 0)
theorem zx(h:y∈xs):y∈aj xs:=NF _ _ (wp _) y h
theorem lK(h:y∈aj xs):y∈xs:=Cw _ _ y h
theorem kA(xs:List Rat):hV xs (aj xs) (aH xs):=by
 have key:∀w,w<xs.length->aH xs w<(aj xs).length:=λw hw=>List.idxOf_lt_length_of_mem (zx (getD_mem hw))
 refine⟨λw hw=>?_,key⟩;rw[wb (l:=aj xs),wc (key w hw)];exact(List.getElem_idxOf (key w hw)).symm
theorem uR(hw:w<xs.length)(hc:c<(aj xs).length):aH xs w=c ↔ xs.getD w 0=(aj xs).getD c 0:=by
 have P:=kA xs;have e:=P.at' w hw;have hl:=P.lt w hw
 constructor
 ·rintro rfl;exact e
 ·intro h
  rw[e]at h;rcases Vx (aH xs w) c with z | z | z
  ·have:=(Ww.mp (jQ xs.length xs)) (aH xs w) c hl hc z
   rw[wb,wc hl,wb,wc hc]at h;have h:(aj xs)[aH xs w]=(aj xs)[c]:=h;have this:(aj xs)[c]<(aj xs)[aH xs w]:=this;rw[h]at this;exact absurd this (by grind)
  ·exact z
  ·have:=(Ww.mp (jQ xs.length xs)) c (aH xs w) hc hl z
   rw[wb,wc hl,wb,wc hc]at h;have h:(aj xs)[aH xs w]=(aj xs)[c]:=h;have this:(aj xs)[aH xs w]<(aj xs)[c]:=this;rw[h]at this;exact absurd this (by grind)
theorem zx4(hc:c<(aj xs).length):bN xs.length (aH xs) c=eI xs ((aj xs).getD c 0):=by
 unfold bN eI;refine vk λw hw=>?_
 exact decide_eq_decide.mpr (uR (wF.mp hw) hc)
def aW(xs:List Rat):List Int:=(aj xs).map λv=>((eI xs v).length:Int)
theorem Pe(nn:∀x∈xs,0<=x)(lt:∀x∈xs,x<1):fQ xs (aj xs) (aH xs) (aW xs) where
 pl:=kA xs
 Bk:=⟨jQ _ _,λy hy=>nn y (lK hy)⟩
 one:=by
  rcases wG 0 (aj xs).length with z | z
  ·exact lt _ (lK (getD_mem z))
  ·rw[wb,wI z];decide
 len:=by unfold aW;rw[wl]
 some:=λc hc=>by
  obtain⟨w,hw,e⟩:=ve (lK (getD_mem (d:=0) hc));refine⟨w,hw,(uR hw hc).mpr ?_⟩;rw[wb,wc hw];exact e
 size:=λc hc=>by
  rw[zx4 hc];unfold aW;rw[wb,wq,wc hc,wb,wc hc]
  rfl
theorem TL:∀{l m:List Rat},l.Pairwise (· > ·)->m.Pairwise (· > ·)->(∀y,y∈l ↔ y∈m)->l=m
 | [],[],_,_,_=>rfl
 | [],y::m,_,_,h=>by have:=(h y).mpr (wE ..);cases this
 | x::l,[],_,_,h=>by have:=(h x).mp (wE ..);cases this
 | x::l,y::m,hl,hm,h=>by
  have pl:=WZ.mp hl;have pm:=WZ.mp hm
  have e:x=y:=by
   rcases wL.mp ((h x).mp (wE ..))with z | z
   ·exact z
   ·rcases wL.mp ((h y).mpr (wE ..))with z2 | z2
    ·exact z2.symm
    ·have a1:x<y:=pm.1 x z
     have a2:y<x:=pl.1 y z2
     grind
  subst e;rw[TL pl.2 pm.2 λz=>⟨λhz=>?_,λhz=>?_⟩]
  ·rcases wL.mp ((h z).mp (wA _ hz))with e | e
   ·have:z<x:=pl.1 z hz
    rw[e]at this;exact absurd this (by grind)
   ·exact e
  ·rcases wL.mp ((h z).mpr (wA _ hz))with e | e
   ·have:z<x:=pm.1 z hz
    rw[e]at this;exact absurd this (by grind)
   ·exact e
theorem zty{row:List Rat}(P:hV ys row fl)(F:row.Pairwise (· > ·))(some:∀c,c<row.length->∃w,w<ys.length/\fl w=c):aj ys=row:=by
 refine TL (jQ _ _) F λy=>⟨λh=>?_,λh=>?_⟩
 ·obtain⟨w,hw,e⟩:=ve (lK h)
  have ea:=P.at' w hw;rw[wb,wc hw]at ea;have ea:ys[w]=row.getD (fl w) 0:=ea;rw[<- e,ea];exact getD_mem (P.lt w hw)
 ·obtain⟨c,hc,e⟩:=ve h
  obtain⟨w,hw,hf⟩:=some c hc;have ea:=P.at' w hw;rw[hf,wb (l:=row),wc hc]at ea;have ea:ys.getD w 0=row[c]:=ea;rw[<- e,<- ea];exact zx (getD_mem hw)
def dA(a b:Rat)(ns:List Int)(row:List Rat):Nat->Rat
 | 0=>0
 | k+1=>dA a b ns row k+(1-(aJ a b ns row k).getD k 0)
theorem Ux{a b:Rat}(a0:0<a)(b0:0<=b){xs row:List Rat}{fl:Nat->Nat}{ns:List Int}(h:fQ xs row fl ns):∀i,i<=row.length->(∀t,t<i->eP a b ns row t<1)->aO a b xs i=dA a b ns row i
 | 0,_,_=>rfl
 | i+1,hi,ht=>by
  have ht':∀t,t<i->eP a b ns row t<1:=λt z=>ht t (by lia)
  obtain⟨P,F,_,_⟩:=uS a0 b0 h i (by lia) ht';have hpl:=bW a b xs i;have hl:=dm a b ns row i;have hm:=rM (c:=i) P (by obtain⟨w,h1,h2⟩:=h.some i (by lia);exact⟨w,by lia,h2⟩) (λj hj hji=>EC F (by lia) (by lia) hji);rw[aO,dA,Ux a0 b0 h i (by lia) ht',hm]
theorem zxg(a0:0<a)(b0:0<=b){row:List Rat}(h:fQ xs row fl ns){t:Nat}(ht:t<row.length)(free:∀s,s<t->eP a b ns row s<1)(up:¬ eP a b ns row t<1):1<(cW a b (ao a b xs t)).length:=by
 obtain⟨P,F,o,_⟩:=uS a0 b0 h t (by lia) free;have hpl:=bW a b xs t;have hl:=dm a b ns row t;have hsz:(ns.getD t 0).toNat=(bN (ao a b xs t).length fl t).length:=by rw[hpl];exact h.size t ht
 have hrow:aJ a b ns row (t+1)=dP a b (bN (ao a b xs t).length fl t).length (aJ a b ns row t) t:=by rw[<- hsz];rfl
 have hj:(t+1) % row.length<row.length:=X5 _ (by lia)
 have hne:(t+1) % row.length≠t:=λe=>by
  apply up
  unfold eP;rw[hrow,e,gC _ _ _ _ _ _ (by lia),if_pos rfl]
  decide
 obtain⟨w1,hw1,hf1⟩:=h.some _ hj;refine zsB (c:=t) P (by obtain⟨w,h1,h2⟩:=h.some t ht;exact⟨w,by lia,h2⟩) (λj hj hji=>EC F ht (by lia) hji) (w1:=w1) (by lia) (by rw[hf1];exact hne) ?_;intro z
 apply up
 unfold eP;rw[hrow,gC _ _ _ _ _ _ (by lia),if_neg hne,<- hf1];exact z
theorem rq{a b:Rat}(a0:0<a)(b0:0<=b):∀n:Nat,0<=aC a b n
 | 0=>WR
 | n+1=>by
  have h1:=rq a0 b0 n;have h2:=Qk (vX a0) h1
  show 0<=a*aC a b n+b
  grind
theorem Co{a b:Rat}(a0:0<a)(b0:0<=b):∀(n:Nat)(ps:List Rat)(left:List Nat),left.length<=n->left.Nodup->(∀w∈left,w<ps.length)->(∀w∈left,0<=ps.getD w 0) ->
  ∀w∈(cO a b n ps left).2.1,w∈left/\0<=(cO a b n ps left).2.2.getD w 0/\(cO a b n ps left).2.2.getD w 0<1
 | 0,ps,left,hn,_,_,_=>by
  have:left=[]:=qJ.mp (by lia);subst this;intro w hw;cases (show w∈([]:List Nat)from hw)
 | n+1,ps,left,hn,nd,hlt,nn=>by
  by_cases e:az ps left=[]
  ·rw[mD e]
   intro w hw;have hw:w∈left:=hw;refine⟨hw,nn w hw,?_⟩;have:¬ w∈az ps left:=by rw[e];simp
   unfold az at this;rw[wU]at this
   show ps.getD w 0<1
   by_cases z:ps.getD w 0<1
   ·exact z
   ·exact absurd ⟨hw,by simp only[z,decide_false,xr]⟩ this
  ·rw[jb e]
   have hl:=zW ps left;have hp:=Wx.mpr e;have nd':(bK left (az ps left)).Nodup:=n_ nd;have lt':∀w∈bK left (az ps left),w<(cF (a^(az ps left).length) (aC a b (az ps left).length) ps (bK left (az ps left))).length:=λw hw=>by rw[gR];exact nY hlt w hw
   have ih:=Co a0 b0 n (cF (a^(az ps left).length) (aC a b (az ps left).length) ps (bK left (az ps left))) (bK left (az ps left)) (by lia) nd' lt' (λw hw=>by
    rw[jn _ _ _ _ nd' (nY hlt),if_pos hw];have h1:=nn w (wU.mp hw).1;have h2:=Qk (vX (rh a0 (az ps left).length)) h1;have h3:=rq a0 b0 (az ps left).length
    grind)
   intro w hw;have:=ih w hw;exact⟨(wU.mp this.1).1,this.2⟩
theorem OH(nn:∀x∈xs,0<=x)(lt:∀x∈xs,x<1)(hw:w<xs.length):0<=(bE xs).getD w 0:=by
 have h1:=fG (xs:=xs) (by lia);have h2:=lt _ h1;have h3:=nn _ (getD_mem (d:=0) hw);unfold bE;rw[yS hw]
 grind
theorem R0(a0:0<a)(b0:0<=b)(nn:∀x∈xs,0<=x)(lt:∀x∈xs,x<1):∀y∈cZ a b xs,0<=y/\y<1:=λy hy=>by
 obtain⟨j,hj,e⟩:=ve hy;have hlen:=jN a b xs;have hjx:j<xs.length:=by lia
 have hpl:(dY a b xs).2.2.length=xs.length:=by
  unfold dY;rw[rY,eU]
 have e2:(cZ a b xs).getD j 0=y:=by rw[wb,wc hj];exact e
 unfold cZ at e2;rw[lX (by lia)]at e2
 split at e2
 ·rename_i hm
  have:=Co a0 b0 xs.length (bE xs) (wo xs.length) (by simp) WK (λw hw=>by rw[eU];exact wF.mp hw) (λw hw=>OH nn lt (wF.mp hw)) j hm;rw[<- e2];exact this.2
 ·rw[<- e2];exact⟨WR,by decide⟩
theorem zt1(a0:0<a)(b0:0<=b)(h1:1<=xs.length)(nn:∀x∈xs,0<=x)(lt:∀x∈xs,x<1):0∈cZ a b xs:=by
 obtain⟨j,hj,e⟩:=ve (fG h1)
 have hr:(bE xs).getD j 0=1:=by
  unfold bE;rw[yS hj,wb,wc hj]
  show xs[j]+(1-aU xs)=1
  rw[e];grind
 have hend:j∈az (bE xs) (wo xs.length):=by
  unfold az;rw[wU];refine⟨wF.mpr hj,?_⟩;rw[hr];decide
 have hne:az (bE xs) (wo xs.length)≠[]:=λz=>by rw[z]at hend;cases hend
 have hpl:(dY a b xs).2.2.length=xs.length:=by
  unfold dY;rw[rY,eU]
 have hnot:¬ j∈(dY a b xs).2.1:=λz=>by
  unfold dY at z;obtain⟨n,hn⟩:∃n,xs.length=n+1:=⟨xs.length-1,by lia⟩;have hl:=zW (bE xs) (wo xs.length);rw[vc]at hl;have hp:=Wx.mpr hne;have z':j∈(cO a b (n+1) (bE xs) (wo xs.length)).2.1:=by rw[<- hn];exact z
  rw[jb hne]at z';have nd':(bK (wo xs.length) (az (bE xs) (wo xs.length))).Nodup:=n_ WK;have ltr:∀w∈wo xs.length,w<(bE xs).length:=λw hw=>by rw[eU];exact wF.mp hw
  have:=Co a0 b0 n _ _ (by lia) nd' (λw hw=>by rw[gR];exact nY ltr w hw) (λw hw=>by
   rw[jn _ _ _ _ nd' (nY ltr),if_pos hw];have h1:=OH nn lt (wF.mp (wU.mp hw).1);have h2:=Qk (vX (rh a0 (az (bE xs) (wo xs.length)).length)) h1;have h3:=rq a0 b0 (az (bE xs) (wo xs.length)).length
   grind) j z'
  have:=(wU.mp this.1).2;simp only[hend,decide_true,qj]at this;cases this
 have hlen:=jN a b xs
 have hg:(cZ a b xs).getD j 0=0:=by
  unfold cZ;rw[lX (by lia),if_neg hnot]
 rw[<- hg];exact getD_mem (by lia)
structure dj(xs:List Rat):Prop where
 nn:∀x∈xs,0<=x
 lt:∀x∈xs,x<1
theorem dj.nk(a0:0<a)(b0:0<=b)(h:dj xs):dj (cZ a b xs):=⟨λy hy=>(R0 a0 b0 h.nn h.lt y hy).1,λy hy=>(R0 a0 b0 h.nn h.lt y hy).2⟩
theorem dj.at{a b:Rat}(a0:0<a)(b0:0<=b){xs:List Rat}(h:dj xs):∀k,dj (ao a b xs k)
 | 0=>h
 | k+1=>(dj.at a0 b0 h k).nk a0 b0
theorem dj.zero(a0:0<a)(b0:0<=b)(h:dj xs)(h1:1<=xs.length)(hk:1<=k):0∈ao a b xs k:=by
 obtain⟨j,rfl⟩:∃j,k=j+1:=⟨k-1,by lia⟩;have:=h.at a0 b0 j;exact zt1 a0 b0 (by rw[bW];exact h1) this.nn this.lt
theorem yE(h:dj xs)(h0:0∈xs):(aj xs).dropLast++[0]=aj xs:=by
 have hm:=zx h0;have hne:aj xs≠[]:=λe=>by rw[e]at hm;cases hm
 have hpw:(aj xs).Pairwise (· > ·):=jQ _ _
 have hl:(aj xs).getLast hne=0:=by
  have h1:=h.nn _ (lK (List.getLast_mem hne))
  have h2:(aj xs).getLast hne<=0:=by
   have e:=Ql hne;rw[<- e]at hm hpw;rcases vY.mp hm with z | z
   ·have:=(qd.mp hpw).2.2 0 z _ (w6.mpr rfl)
    exact vX this
   ·rw[<- w6.mp z];exact WR
  grind
 have:=Ql hne;rw[hl]at this;exact this
theorem AS(h1:1<=xs.length):1<=(aj xs).length:=by
 have:=zx (getD_mem (d:=0) (show 0<xs.length by lia));exact xi this
theorem oN(xs:List Rat):(aW xs).length=(aj xs).length:=by unfold aW;rw[wl]
theorem m7(xs:List Rat):∀n∈aW xs,0<=n:=λn hn=>by
 obtain⟨v,_,rfl⟩:=wR.mp hn
 lia
theorem Pp{α : Type}(g h : α -> Nat):∀l:List α,(l.map λv=>g v+h v).sum=(l.map g).sum+(l.map h).sum
 | []=>rfl
 | x::l=>by
  simp only[vd,W4,Pp g h l]
  lia
theorem Mu(x:Rat):∀vs:List Rat,vs.Nodup->(vs.map λv=>if x=v then 1 else 0).sum<=1
 | [],_=>by simp
 | v::vs,nd=>by
  have⟨h1,h2⟩:=VS.mp nd;rw[vd,W4]
  by_cases e:x=v
  ·have z:(vs.map λv=>if x=v then 1 else 0).sum=0:=by
    have:∀ws:List Rat,(∀y∈ws,x≠y)->(ws.map λv=>if x=v then 1 else 0).sum=0:=by
     intro ws
     induction ws with
     | nil=>intro _;rfl
     | cons y ws ih =>
      intro hy;rw[vd,W4,if_neg (hy y (wE ..)),ih λz hz=>hy z (wA _ hz)]
    exact this vs λy hy z=>h1 (by rw[<- e,z];exact hy)
   rw[z,if_pos e]
   lia
  ·have:=Mu x vs h2
   rw[if_neg e];lia
theorem TR(f:Nat->Rat)(vs:List Rat)(nd:vs.Nodup):∀l:List Nat,(vs.map λv=>(l.filter λw=>decide (f w=v)).length).sum<=l.length
 | []=>by
  have:∀ws:List Rat,(ws.map λv=>(([]:List Nat).filter λw=>decide (f w=v)).length).sum=0:=by
   intro ws
   induction ws with
   | nil=>rfl
   | cons y ws ih=>rw[vd,W4,ih];rfl
  rw[this];exact wp _
 | w::l=>by
  have ih:=TR f vs nd l
  have e:(vs.map λv=>((w::l).filter λw=>decide (f w=v)).length)=vs.map λv=>(if f w=v then 1 else 0)+(l.filter λw=>decide (f w=v)).length:=by
   refine W9 λv _=>?_
   rw[Wp]
   by_cases z:f w=v
   ·rw[if_pos (by simp[z]),if_pos z,Wa];lia
   ·rw[if_neg (by simp[z]),if_neg z];lia
  rw[e,Pp,Wa];have:=Mu (f w) vs nd
  lia
theorem Uu(xs:List Rat):(aj xs).Nodup:=(jQ xs.length xs).imp λ{x y} h=>by
 have h:y<x:=h;intro e;rw[e]at h;exact absurd h (by grind)
theorem Lc(xs:List Rat):((aW xs).map Q4).sum<=xs.length:=by
 have:=TR (λw=>xs.getD w 0) (aj xs) (Uu xs) (wo xs.length);rw[vc]at this
 have e:(aW xs).map Q4=(aj xs).map λv=>((wo xs.length).filter λw=>decide (xs.getD w 0=v)).length:=by
  unfold aW;rw[V7];refine W9 λv _=>?_
  show((eI xs v).length:Int).toNat=_
  rw[wx];rfl
 rw[e];exact this
theorem Ez(xs:List Rat):upTo (aW xs) (aW xs).length<=xs.length:=by
 unfold upTo;rw[Wb];exact Lc xs
theorem zun(xs:List Rat):∀n∈aW xs,0<=n/\n<=xs.length:=λn hn=>by
 obtain⟨v,_,rfl⟩:=wR.mp hn
 have:(eI xs v).length<=xs.length:=by
  have:=vS (λw=>decide (xs.getD w 0=v)) (wo xs.length);rw[vc]at this;exact this
 lia
theorem iB(xs:List Rat):(aj xs).length<=xs.length:=by
 have h:∀(n:Nat)(l:List Rat),(gc n l).length<=n:=by
  intro n
  induction n with
  | zero=>intro l;exact wp _
  | succ n ih =>
   intro l
   by_cases e:l=[]
   ·rw[e,p6];simp
   ·rw[lz e,Wa]
    have:=ih (l.filter λy=>!decide (y=aU l))
    lia
 exact h _ _
theorem jk(c:Cm m xs)(h:∀y∈ys,y∈xs):Cm m ys:=c.gf λy hy=>.inl (h y hy)
theorem mG(c:Cm m xs):Cm m (aj xs).dropLast:=jk c λy hy=>lK (by rw[xt]at hy;exact List.mem_of_mem_take hy)
theorem zxT(xs:List Rat):(wo xs.length).map (λw=>xs.getD w 0)=xs:=by
 refine Vb (by simp) λi h1 h2=>?_
 rw[Vc,List.getElem_range,wb,wc h2]
 rfl
theorem L8(xs:List Rat)(v:Rat):(eI xs v).length=xs.countP λy=>decide (y=v):=by
 unfold eI;rw[<- Qm]
 conv=>rhs;rw[<- zxT xs,X6]
 rfl
def seg(n:Nat)(fl:Nat->Nat)(s t:Nat):List Nat:=(wo n).filter λw=>decide (s<=fl w)&&decide (fl w<t)
theorem iE{s t:Nat} : w∈seg n fl s t ↔ w<n/\s<=fl w/\fl w<t:=by
 unfold seg;rw[wU,wF,wV,decide_eq_true_eq,decide_eq_true_eq]
theorem US(n:Nat)(fl:Nat->Nat)(s t:Nat):(seg n fl s t).Nodup:=WK.filter _
theorem zw0{s t u:Nat}(h1:s<=t)(h2:t<=u):(seg n fl s t++seg n fl t u).Perm (seg n fl s u):=by
 have e1:(seg n fl s u).filter (λw=>decide (fl w<t))=seg n fl s t:=by
  unfold seg;rw[Vk];refine vk λw _=>?_
  rw[vi];simp only[wV,decide_eq_true_eq]
  lia
 have e2:(seg n fl s u).filter (λw=>!decide (fl w<t))=seg n fl t u:=by
  unfold seg;rw[Vk];refine vk λw _=>?_
  rw[vi];simp only[wV,WO,decide_eq_true_eq,decide_eq_false_iff_not]
  lia
 have:=List.filter_append_perm (λw=>decide (fl w<t)) (seg n fl s u);rw[e1,e2]at this;exact this
theorem Ms(n:Nat)(fl:Nat->Nat)(s:Nat):seg n fl s s=[]:=by
 unfold seg;rw[xh];intro w _;simp only[wV,decide_eq_true_eq]
 lia
inductive jE(n:Nat)(fl:Nat->Nat):Nat->List (List Nat)->Nat->Prop
 | nil (t:Nat):jE n fl t [] t
 | cons {t u v:Nat} {ws:List (List Nat)} : t<u->jE n fl u ws v->jE n fl t (seg n fl t u::ws) v
theorem jE.le{t v:Nat}{ws:List (List Nat)}(h:jE n fl t ws v):t<=v:=by
 induction h with
 | nil t=>exact wp t
 | cons h _ ih=>lia
theorem jE.perm{t v:Nat}{ws:List (List Nat)}(h:jE n fl t ws v):ws.flatten.Perm (seg n fl t v):=by
 induction h with
 | nil t=>rw[Ms];exact List.Perm.refl _
 | cons h k ih =>
  rw[Vv];exact(List.Perm.append_left _ ih).trans (zw0 (by lia) k.le)
theorem PR(p:Nat->Prop)[DecidablePred p](t:Nat):∀m:Nat,t<=m->(∀c d,t<=c->c<=d->d<m->p d->p c)->∃u,t<=u/\u<=m /\ ∀c,t<=c->c<m->(p c ↔ c<u)
 | 0,h,_=>⟨0,h,wp 0,λc _ hc=>absurd hc (by lia)⟩
 | m+1,h,mono=>by
  rcases wG m t with z | z
  ·exact⟨m+1,h,wp _,λc h1 h2=>absurd h2 (by lia)⟩
  ·by_cases q:p m
   ·exact⟨m+1,h,wp _,λc h1 h2=>⟨λ_=>h2,λ_=>mono c m h1 (by lia) (by lia) q⟩⟩
   ·obtain⟨u,u1,u2,hu⟩:=PR p t m z (λc d h1 h2 h3=>mono c d h1 h2 (by lia))
    refine⟨u,u1,by lia,λc h1 h2=>?_⟩;rcases wG c m with y | y
    ·exact hu c h1 y
    ·have:c=m:=by lia
     subst this;exact⟨λk=>absurd k q,λk=>absurd k (by lia)⟩
theorem zM{row:List Rat}(F:row.Pairwise (· > ·)){d:Nat}(h:c<d)(hd:d<row.length):row.getD d 0<row.getD c 0:=by
 have:=Ww.mp F c d (by lia) hd h;rw[wb,wc hd,wb,wc (by lia)];exact this
theorem Zh{row:List Rat}(F:row.Pairwise (· > ·)){d:Nat}(h:c<=d)(hd:d<row.length):row.getD d 0<=row.getD c 0:=by
 rcases wG c d with z | z
 ·exact vX (zM F z hd)
 ·rw[show c=d by lia];exact WR
theorem NK{a b:Rat}(a0:0<a)(b0:0<=b){row:List Rat}{fl:Nat->Nat}{N:Nat}(F:row.Pairwise (· > ·)):∀(n:Nat)(ps:List Rat)(t:Nat)(A B:Rat),t<=row.length->ps.length=N->0<A->(∀w∈seg N fl t row.length,ps.getD w 0=A*row.getD (fl w) 0+B/\0<ps.getD w 0) ->
  ∃(v:Nat)(A' B':Rat),v<=row.length/\0<A'/\jE N fl t (cO a b n ps (seg N fl t row.length)).1 v/\(cO a b n ps (seg N fl t row.length)).2.1=seg N fl v row.length /\
   ∀w∈seg N fl v row.length,(cO a b n ps (seg N fl t row.length)).2.2.getD w 0=A'*row.getD (fl w) 0+B'/\0<A'*row.getD (fl w) 0+B'
 | 0,ps,t,A,B,ht,hl,hA,hw=>⟨t,A,B,ht,hA,.nil t,rfl,λw h=>⟨(hw w h).1,by rw[<- (hw w h).1];exact(hw w h).2⟩⟩
 | n+1,ps,t,A,B,ht,hl,hA,hw=>by
  by_cases e:az ps (seg N fl t row.length)=[]
  ·rw[mD e]
   exact⟨t,A,B,ht,hA,.nil t,rfl,λw h=>⟨(hw w h).1,by rw[<- (hw w h).1];exact(hw w h).2⟩⟩
  ·obtain⟨u,u1,u2,hu⟩:=PR (λc=>¬ A*row.getD c 0+B<1) t row.length ht (λc d h1 h2 h3 hp=>by
    have:=Rat.mul_le_mul_of_nonneg_left (Zh F h2 h3) (vX hA);have hp:¬ A*row.getD d 0+B<1:=hp
    show ¬ A*row.getD c 0+B<1
    grind)
   have eE:az ps (seg N fl t row.length)=seg N fl t u:=by
    unfold az
    have:(seg N fl t row.length).filter (λw=>!decide (ps.getD w 0<1))=(seg N fl t row.length).filter (λw=>decide (fl w<u)):=by
     refine vk λw h=>?_
     have h1:=hw w h;have h2:=iE.mp h;rw[vi,WO,decide_eq_false_iff_not,decide_eq_true_eq,h1.1];exact hu (fl w) h2.2.1 h2.2.2
    rw[this];unfold seg;rw[Vk];refine vk λw _=>?_
    rw[vi];simp only[wV,decide_eq_true_eq]
    lia
   have eL:bK (seg N fl t row.length) (seg N fl t u)=seg N fl u row.length:=by
    unfold bK
    have:(seg N fl t row.length).filter (λw=>!decide (w∈seg N fl t u))=(seg N fl t row.length).filter (λw=>!decide (fl w<u)):=by
     refine vk λw h=>?_
     have h2:=iE.mp h;rw[vi,WO,WO,decide_eq_false_iff_not,decide_eq_false_iff_not,iE]
     constructor
     ·intro k y;exact k ⟨h2.1,h2.2.1,y⟩
     ·intro k y;exact k y.2.2
    rw[this];unfold seg;rw[Vk];refine vk λw _=>?_
    rw[vi];simp only[wV,WO,decide_eq_true_eq,decide_eq_false_iff_not]
    lia
   have htu:t<u:=by
    rcases wG t u with z | z
    ·exact z
    ·have:u=t:=by lia
     rw[eE,this,Ms]at e;exact absurd rfl e
   rw[jb e,eE,eL];have hf:=rh a0 (seg N fl t u).length;have hg:=rq a0 b0 (seg N fl t u).length;generalize a^(seg N fl t u).length=f at *;generalize aC a b (seg N fl t u).length=g at *;have hA':0<f*A:=V0 hf hA
   obtain⟨v,A',B',hv,hA2,hs,hl2,hw2⟩:=NK (fl:=fl) (N:=N) a0 b0 F n (cF f g ps (seg N fl u row.length)) u (f*A) (f*B+g) u2 (by rw[gR];exact hl) hA' (λw h=>by
    have hm:=iE.mp h;have h1:=hw w (iE.mpr ⟨hm.1,by lia,hm.2.2⟩);have h3:=V0 hf h1.2;rw[jn _ _ _ _ (US ..) (λw h=>by rw[hl];exact(iE.mp h).1),if_pos h];refine⟨by rw[h1.1];grind,by grind⟩)
   exact⟨v,A',B',hv,hA2,.cons htu hs,hl2,hw2⟩
structure my(xs ys:List Rat)(waves:List (List Nat))(v:Nat):Prop where
 v1:1<=v
 vm:v<=(aj xs).length
 first:∃ws,waves=seg xs.length (aH xs) 0 1::ws/\jE xs.length (aH xs) 1 ws v
 vals:∃(A B:Rat),0<A/\aj ys=((aj xs).drop v).map (λx=>A*x+B)++[0]/\(∀x∈(aj xs).drop v,0<A*x+B)
 at':hV ys (aj ys) (λw=>if aH xs w<v then(aj xs).length-v else aH xs w-v)
 len:ys.length=xs.length
theorem Sx{v:Nat} : (l.drop v).getD c 0=l.getD (v+c) 0:=by
 rw[wb,xY,wb]
theorem oV(hc:c<(aj xs).length):∃w,w<xs.length/\aH xs w=c:=by
 have hm:(aj xs).getD c 0∈xs:=lK (getD_mem hc);obtain⟨w,hw,e⟩:=ve hm;refine⟨w,hw,(uR hw hc).mpr ?_⟩;rw[wb,wc hw];exact e
theorem Dq(a0:0<a)(b0:0<=b)(h1:1<=xs.length)(nn:∀x∈xs,0<=x)(lt:∀x∈xs,x<1):∃v,my xs (cZ a b xs) (cW a b xs) v:=by
 have P:=kA xs;have F:(aj xs).Pairwise (· > ·):=jQ xs.length xs;have m1:=AS h1;have top:∀j,j<(aj xs).length->j≠0->(aj xs).getD j 0<(aj xs).getD 0 0:=λj hj h0=>zM F (by lia) hj
 have he:=E_ P (oV m1) top;have hmax:=rM P (oV m1) top;have hmx1:aU xs<1:=lt _ (fG h1)
 have e01:bN xs.length (aH xs) 0=seg xs.length (aH xs) 0 1:=by
  unfold bN seg;refine vk λw _=>?_
  rw[vi];simp only[wV,decide_eq_true_eq]
  lia
 rw[e01]at he
 have hr:wo xs.length=seg xs.length (aH xs) 0 (aj xs).length:=by
  unfold seg
  symm
  rw[xJ];intro w hw;have:=P.lt w (wF.mp hw);simp only[wV,decide_eq_true_eq]
  lia
 have hne:az (bE xs) (wo xs.length)≠[]:=λe=>by
  obtain⟨w,hw,hf⟩:=oV m1;rw[he]at e;have:w∈seg xs.length (aH xs) 0 1:=iE.mpr ⟨hw,by lia,by lia⟩;rw[e]at this;cases this
 obtain⟨n,hn⟩:∃n,xs.length=n+1:=⟨xs.length-1,by lia⟩
 have eL:bK (wo xs.length) (seg xs.length (aH xs) 0 1)=seg xs.length (aH xs) 1 (aj xs).length:=by
  unfold bK seg;refine vk λw hw=>?_
  have h2:=P.lt w (wF.mp hw);rw[vi,WO,decide_eq_false_iff_not]
  have:w∈(wo xs.length).filter (λw=>decide (0<=aH xs w)&&decide (aH xs w<1)) ↔ aH xs w<1:=by
   rw[wU,wV,decide_eq_true_eq,decide_eq_true_eq];exact⟨λh=>h.2.2,λh=>⟨hw,by lia,h⟩⟩
  rw[this];simp only[wV,decide_eq_true_eq]
  lia
 have hf:=rh a0 (seg xs.length (aH xs) 0 1).length;have hg:=rq a0 b0 (seg xs.length (aH xs) 0 1).length
 have eR:dY a b xs=(seg xs.length (aH xs) 0 1::(cO a b n (cF (a^(seg xs.length (aH xs) 0 1).length) (aC a b (seg xs.length (aH xs) 0 1).length) (bE xs) (seg xs.length (aH xs) 1 (aj xs).length)) (seg xs.length (aH xs) 1 (aj xs).length)).1,(cO a b n (cF (a^(seg xs.length (aH xs) 0 1).length) (aC a b (seg xs.length (aH xs) 0 1).length) (bE xs) (seg xs.length (aH xs) 1 (aj xs).length)) (seg xs.length (aH xs) 1 (aj xs).length)).2):=by
  unfold dY;have e:cO a b xs.length (bE xs) (wo xs.length)=cO a b (n+1) (bE xs) (wo xs.length):=by rw[<- hn]
  rw[e,jb hne,he,eL]
 generalize a^(seg xs.length (aH xs) 0 1).length=f at *;generalize aC a b (seg xs.length (aH xs) 0 1).length=g at *
 obtain⟨v,A,B,hv,hA,hs,hl2,hw2⟩:=NK (fl:=aH xs) (N:=xs.length) a0 b0 F n (cF f g (bE xs) (seg xs.length (aH xs) 1 (aj xs).length)) 1 f (f*(1-aU xs)+g) m1 (by rw[gR,eU]) hf (λw h=>by
  have hm:=iE.mp h;rw[jn _ _ _ _ (US ..) (λw h=>by rw[eU];exact(iE.mp h).1),if_pos h]
  have e:(bE xs).getD w 0=(aj xs).getD (aH xs w) 0+(1-aU xs):=by
   unfold bE;rw[yS hm.1,P.at' w hm.1]
  have hx:=nn _ (getD_mem (d:=0) hm.1);rw[P.at' w hm.1]at hx;have h3:=V0 hf (show 0<(aj xs).getD (aH xs w) 0+(1-aU xs) by grind);rw[e];exact⟨by grind,by grind⟩)
 have v1:=hs.le
 have ePh:∀w,w<xs.length->(cZ a b xs).getD w 0=if aH xs w<v then 0 else A*(aj xs).getD (aH xs w) 0+B:=λw hw=>by
  have hpl:(dY a b xs).2.2.length=xs.length:=by unfold dY;rw[rY,eU]
  unfold cZ;rw[lX (by lia),eR]
  show(if w∈(cO a b n _ _).2.1 then _ else _)=_
  rw[hl2]
  by_cases z:aH xs w<v
  ·rw[if_neg (λh=>by have:=(iE.mp h).2.1;lia),if_pos z]
  ·have hmem:w∈seg xs.length (aH xs) v (aj xs).length:=iE.mpr ⟨hw,by lia,P.lt w hw⟩
   rw[if_pos hmem,if_neg z];exact(hw2 w hmem).1
 have posd:∀x∈(aj xs).drop v,0<A*x+B:=λx hx=>by
  obtain⟨c,hc,e⟩:=ve hx;rw[Wh]at hc;obtain⟨w,hw,hfw⟩:=oV (xs:=xs) (c:=v+c) (by lia);have:=(hw2 w (iE.mpr ⟨hw,by lia,P.lt w hw⟩)).2;rw[hfw,<- Sx,wb,wc (by rw[Wh];lia)]at this;rw[<- e];exact this
 have rlen:(((aj xs).drop v).map (λx=>A*x+B)++[0]).length=(aj xs).length-v+1:=by simp
 have rget:∀c,c<(aj xs).length-v->(((aj xs).drop v).map (λx=>A*x+B)++[0]).getD c 0=A*(aj xs).getD (v+c) 0+B:=λc hc=>by
  rw[wb,Wk (by simp;lia),<- wb,yS (by rw[Wh];lia),Sx]
 have rlast:(((aj xs).drop v).map (λx=>A*x+B)++[0]).getD ((aj xs).length-v) 0=0:=by
  rw[wb,vQ (by simp)];simp
 have P2:hV (cZ a b xs) (((aj xs).drop v).map (λx=>A*x+B)++[0]) (λw=>if aH xs w<v then(aj xs).length-v else aH xs w-v):=by
  refine⟨λw hw=>?_,λw hw=>?_⟩
  ·rw[jN]at hw
   rw[ePh w hw];have:=P.lt w hw
   by_cases z:aH xs w<v
   ·simp only[z,if_true]
    exact rlast.symm
   ·simp only[z,if_false]
    rw[rget _ (by lia),show v+(aH xs w-v)=aH xs w by lia]
  ·rw[jN]at hw
   have:=P.lt w hw;rw[rlen]
   show(if aH xs w<v then _ else _)<_
   split<;>lia
 have F2:(((aj xs).drop v).map (λx=>A*x+B)++[0]).Pairwise (· > ·):=by
  rw[qd];refine⟨?_,QW _ _,λx hx y hy=>?_⟩
  ·rw[QG]
   refine(uH F).imp λ{x y} h=>?_
   have:=Rat.mul_lt_mul_of_pos_left (show y<x from h) hA
   show A*y+B<A*x+B
   grind
  ·obtain⟨z,hz,rfl⟩:=wR.mp hx
   rw[w6.mp hy];exact posd z hz
 have eV:aj (cZ a b xs)=((aj xs).drop v).map (λx=>A*x+B)++[0]:=zty P2 F2 λc hc=>by
  rw[rlen]at hc;rcases wG c ((aj xs).length-v)with z | z
  ·obtain⟨w,hw,hfw⟩:=oV (xs:=xs) (c:=v+c) (by lia)
   refine⟨w,by rw[jN];exact hw,?_⟩
   show(if aH xs w<v then _ else _)=_
   rw[hfw,if_neg (by lia)]
   lia
  ·obtain⟨w,hw,hfw⟩:=oV m1
   refine⟨w,by rw[jN];exact hw,?_⟩
   show(if aH xs w<v then _ else _)=_
   rw[hfw,if_pos (by lia)]
   lia
 refine⟨v,v1,hv,⟨_,by unfold cW;rw[eR],hs⟩,⟨A,B,hA,eV,posd⟩,by rw[eV];exact P2,jN ..⟩
def kW(xs:List Rat):List (List Nat):=(aj xs).map (eI xs)
theorem jX(xs:List Rat):(kW xs).length=(aj xs).length:=wl ..
theorem Sv{row:List Rat}(P:hV ys row fl)(F:row.Pairwise (· > ·))(hc:c<row.length):eI ys (row.getD c 0)=bN ys.length fl c:=by
 unfold eI bN;refine vk λw hw=>?_
 have hw:=wF.mp hw;rw[vi,decide_eq_true_eq,decide_eq_true_eq,P.at' w hw]
 constructor
 ·intro h
  rcases Vx (fl w) c with z | z | z
  ·have:=zM F z hc;rw[h]at this;exact absurd this (by grind)
  ·exact z
  ·have:=zM F z (P.lt w hw);rw[h]at this;exact absurd this (by grind)
 ·rintro rfl;rfl
theorem zt4(hc:c<(aj xs).length):(kW xs).getD c []=seg xs.length (aH xs) c (c+1):=by
 have h:=Sv (kA xs) (jQ xs.length xs) hc;unfold kW;rw[wb,wq,wc hc]
 show eI xs (aj xs)[c]=_
 rw[wb,wc hc]at h;have h:eI xs (aj xs)[c]=_:=h;rw[h];unfold bN seg;refine vk λw _=>?_
 rw[vi];simp only[wV,decide_eq_true_eq]
 lia
theorem my.new{waves:List (List Nat)}{v:Nat}(J:my xs ys waves v):kW ys=(kW xs).drop v++[seg xs.length (aH xs) 0 v]:=by
 obtain⟨A,B,hA,eV,pos⟩:=J.vals;have F2:(aj ys).Pairwise (· > ·):=jQ ys.length ys;have hlen:(aj ys).length=(aj xs).length-v+1:=by rw[eV];simp
 have v1:=J.v1;have vm:=J.vm;refine Vb (by rw[jX,hlen,wN,Wh,jX];rfl) λc h1 h2=>?_
 rw[jX,hlen]at h1
 have e1:(kW ys)[c]'(by rw[jX];lia)=bN xs.length (λw=>if aH xs w<v then(aj xs).length-v else aH xs w-v) c:=by
  have:=Sv J.at' F2 (c:=c) (by lia);rw[J.len]at this;rw[<- this];unfold kW;rw[Vc,wb,wc (by lia)]
  rfl
 rw[e1];rcases wG c ((aj xs).length-v)with z | z
 ·rw[List.getElem_append_left (by rw[Wh,jX];lia),Xk]
  have hg:=zt4 (xs:=xs) (c:=v+c) (by lia);rw[wb,wc (by rw[jX];lia)]at hg;have hg:(kW xs)[v+c]'(by rw[jX];lia)=_:=hg;rw[hg];unfold bN seg;refine vk λw hw=>?_
  have:=(kA xs).lt w (wF.mp hw);rw[vi];simp only[wV,decide_eq_true_eq]
  split<;>lia
 ·rw[List.getElem_append_right (by rw[Wh,jX];lia)]
  have hc:c=(aj xs).length-v:=by lia
  simp only[List.getElem_singleton];unfold bN seg;refine vk λw hw=>?_
  have:=(kA xs).lt w (wF.mp hw);rw[vi];simp only[wV,decide_eq_true_eq]
  split<;>lia
theorem my.perm{waves:List (List Nat)}{v:Nat}(J:my xs ys waves v):waves.flatten.Perm (seg xs.length (aH xs) 0 v):=by
 obtain⟨ws,e,s⟩:=J.first;rw[e];exact(jE.cons (by decide) s).perm
theorem my.more{waves:List (List Nat)}{v:Nat}(J:my xs ys waves v):1<waves.length ↔ 1<v:=by
 obtain⟨ws,e,s⟩:=J.first;rw[e];cases s with
 | nil=>simp
 | cons h k=>have:=k.le;simp;lia
theorem pO(F s:Rat):∀n:Nat,aC F s n=aC F 1 n*s
 | 0=>by show(0:Rat)=0*s;rw[Rat.zero_mul]
 | n+1=>by
  show F*aC F s n+s=(F*aC F 1 n+1)*s
  rw[pO F s n]
  grind
theorem z7{k:Nat}{F:Rat}(h:af k F):∀i:Nat,∃T:Int,aC F 1 i=wu T ((F.den:Int)^i)/\Bd ((k+1)*i+1) T/\Bd (k*i+1) ((F.den:Int)^i)
 | 0=>⟨0,by simp[aC],⟨by simp⟩,⟨by simp⟩⟩
 | i+1=>by
  obtain⟨T,e,bT,bd⟩:=z7 h i;have hd:(F.den:Int)^i≠0:=VU (fT F);have hd1:(F.den:Int)^(i+1)≠0:=VU (fT F);have ed:(F.den:Int)^(i+1)=(F.den:Int)^i*(F.den:Int):=VI ..
  have bd1:Bd (k*(i+1)+1) ((F.den:Int)^(i+1)):=by
   rw[ed];exact(bd.mul h.b).mono (by rw[qx];lia)
  refine⟨F.num*T+(F.den:Int)^(i+1),?_,?_,bd1⟩
  ·symm
   refine fK hd1 ?_
   show(F*aC F 1 i+1)*_=_
   rw[e];have k1:=c9 T hd;have k2:=jO F
   have e1:((F.num*T+(F.den:Int)^(i+1):Int):Rat)=(F.num:Rat)*(T:Rat)+(((F.den:Int)^(i+1):Int):Rat):=by
    rw[VT,vR]
   rw[e1,<- k1,<- k2,ed,vR];generalize (((F.den:Int)^i:Int):Rat)=D;generalize ((F.den:Int):Rat)=d;generalize wu T ((F.den:Int)^i)=y
   grind
  ·have h1:(k+1)*(i+1)=(k+1)*i+(k+1):=qx ..
   have h2:k*(i+1)<=(k+1)*i+k:=by rw[qx];have:=vU i (show k<=k+1 by lia);lia
   exact((h.t.mul bT).add bd1).mono (by lia)
theorem O2{F:Rat}(h:af k F)(i:Nat):af ((k+1)*i+1) (aC F 1 i):=by
 obtain⟨T,e,bT,bd⟩:=z7 h i;rw[e];exact af.divInt (VU (fT F)) bT (bd.mono (by have:=vU i (show k<=k+1 by lia);lia))
def fg(F s:Rat)(n:Nat)(x:Rat):Rat:=F^n*x+aC F 1 n*s
theorem mK(F s:Rat)(n:Nat)(x:Rat):fg F s n x=push F s n x:=by
 unfold fg;rw[gz,<- pO]
theorem ZK(F s:Rat)(m n:Nat)(x:Rat):fg F s (m+n) x=fg F s n (fg F s m x):=by
 rw[mK,mK,mK,zyc]
theorem zxI(F s x:Rat):fg F s 0 x=x:=by rw[mK];rfl
theorem CV(F s x:Rat):fg F s 1 x=F*x+s:=by rw[mK];rfl
theorem FK(n:Nat):aC 1 1 n=((n:Int):Rat):=by
 induction n with
 | zero=>rfl
 | succ n ih =>
  have e:(((n+1:Nat):Int):Rat)=((n:Int):Rat)+1:=by push_cast;rfl
  show 1*aC 1 1 n+1=_
  rw[ih,e];grind
theorem ZE(s:Rat)(n:Nat)(x:Rat):fg 1 s n x=x+wu ((n:Int)*s.num) (s.den:Int):=by
 unfold fg;rw[one_pow',FK]
 have:wu ((n:Int)*s.num) (s.den:Int)=((n:Int):Rat)*s:=by
  refine fK (fT s) ?_;have:=jO s;rw[vR,<- this]
  grind
 rw[this];grind
theorem CO{F s r:Rat}(h:r*(1-F)=s):∀k:Nat,aC F s k=r-F^k*r
 | 0=>by rw[V5,Qr];show(0:Rat)=r-r;grind
 | k+1=>by
  show F*aC F s k+s=_
  rw[CO h k,WP]
  grind
theorem UO{F s r:Rat}(h:r*(1-F)=s)(n:Nat)(x:Rat):fg F s n x=r+F^n*(x-r):=by
 unfold fg;rw[<- pO,CO h]
 grind
theorem Cm.Kw(c:Cm m (h::xs))(ba:af 10 a)(bb:af 10 b)(n i:Nat):Cm (m+2+21*n) ((h+(1-xs.getD i 0))::dP a b n xs i):=by
 obtain⟨B,h0,h1,h2⟩:=c
 have hz:∃z:Int,xs.getD i 0=wu z B/\Bd m z:=by
  rcases wG i xs.length with q | q
  ·rw[wb,wc q]
   exact h2 _ (wA _ (Wi q))
  ·rw[wb,wI q]
   exact⟨0,by simp,⟨by simp;exact Wm m⟩⟩
 obtain⟨z,ez,hz⟩:=hz;have key:=λ(t:Int)(ht:Bd m t)=>rX ba bb h0 (show Bd (m+2) (t+B-z)from((ht.add h1).sub hz).mono (by lia)) (h1.mono (by lia)) n
 have e2:∀t:Int,wu t B+(1-xs.getD i 0)=wu (t+B-z) B:=λt=>by
  rw[ez]
  symm
  refine fK (by lia) ?_;have q1:=c9 t (show B≠0 by lia);have q2:=c9 z (show B≠0 by lia);have q3:((t+B-z:Int):Rat)=(t:Rat)+(B:Rat)-(z:Rat):=by push_cast;rfl
  rw[q3,<- q1,<- q2]
  grind
 obtain⟨p1,p2,_⟩:=key 0 ⟨by simp;exact Wm m⟩;refine⟨_,p1,p2,λx hx=>?_⟩;rcases wL.mp hx with rfl | hx
 ·obtain⟨t,et,ht⟩:=h2 h (wE ..)
  have hd:(0:Int)<((a.den:Int)*(b.den:Int))^n:=Xy (vT (den_pos a) (den_pos b));refine⟨(t+B-z)*((a.den:Int)*(b.den:Int))^n,?_,yK ba bb (((ht.add h1).sub hz).mono (by lia)) n⟩;rw[et,e2 t];exact rH h0 hd
 ·have hx':x=0 \/ ∃y∈xs,x=push a b n (y+(1-xs.getD i 0)):=by
   unfold dP at hx;rcases QL hx with q | q
   ·obtain⟨y,hy,rfl⟩:=wR.mp q
    exact .inr ⟨y,hy,rfl⟩
   ·exact .inl q
  rcases hx' with rfl | ⟨y,hy,rfl⟩
  ·exact⟨0,by simp,⟨by simp;exact Wm _⟩⟩
  ·obtain⟨t,rfl,ht⟩:=h2 y (wA _ hy)
   obtain⟨_,_,T,e,hT⟩:=key t ht;rw[e2 t];exact⟨T,e,hT⟩
theorem Cm.tm{m:Nat}{xs:List Rat}{a b:Rat}{ns:List Int}(c:Cm m xs)(ba:af 10 a)(bb:af 10 b):∀k,k<=ns.length->Cm (m+2*k+21*upTo ns k) (dA a b ns xs k::aJ a b ns xs k)
 | 0,_=>(c.mono (by lia)).gf λy hy=>by
  rcases wL.mp hy with rfl | hy
  ·exact .inr rfl
  ·exact .inl hy
 | k+1,hk=>by
  have:=(Cm.tm c ba bb (ns:=ns) k (by lia)).Kw ba bb (ns.getD k 0).toNat k;rw[aJ,dA];refine this.mono ?_;rw[nP (by lia)]
  lia
def fz(c:Rat)(xs ys:List Rat):List Rat:=List.zipWith (λx y=>x+c*(y-x)) xs ys
theorem mX{c:Rat}(h:xs.length=ys.length):(fz c xs ys).length=xs.length:=by unfold fz;rw[xK];lia
theorem ma{c:Rat}(h:xs.length=ys.length)(hi:i<xs.length):(fz c xs ys).getD i 0=xs.getD i 0+c*(ys.getD i 0-xs.getD i 0):=by
 unfold fz;rw[wb,wc (by rw[xK];lia),List.getElem_zipWith,wb,wc hi,wb,wc (by lia)]
 rfl
theorem g6(hl:xs.length=ys.length)(h:∀i,i<xs.length->xs.getD i 0=ys.getD i 0):xs=ys:=Vb hl λi h1 h2=>by
 have:=h i h1;rw[wb,wb,wc h1,wc h2]at this;exact this
theorem ZD(a b:Rat)(n:Nat)(c:Rat)(h:xs.length=ys.length)(hi:i<xs.length):dP a b n (fz c xs ys) i=fz c (dP a b n xs i) (dP a b n ys i):=by
 have hl:=mX (c:=c) h;refine g6 (by rw[iQ,hl,mX (by rw[iQ,iQ];exact h),iQ]) λj hj=>?_
 rw[iQ,hl]at hj;have hg:=ma (c:=c) (xs:=dP a b n xs i) (ys:=dP a b n ys i) (by rw[iQ,iQ];exact h) (i:=j) (by rw[iQ];exact hj);rw[hg,gC _ _ _ _ _ _ (by lia),gC _ _ _ _ _ _ hj,gC _ _ _ _ _ _ (show j<ys.length by lia)]
 by_cases z:j=i
 ·rw[if_pos z,if_pos z,if_pos z];grind
 ·rw[if_neg z,if_neg z,if_neg z,ma h hj,ma h hi,gz,gz,gz]
  grind
theorem SY(a b:Rat)(ns:List Int)(c:Rat){xs ys:List Rat}(h:xs.length=ys.length):∀k,k<=xs.length->aJ a b ns (fz c xs ys) k=fz c (aJ a b ns xs k) (aJ a b ns ys k)
 | 0,_=>rfl
 | k+1,hk=>by
  have ih:=SY a b ns c h k (by lia);rw[aJ,ih,aJ,aJ];exact ZD a b _ c (by rw[dm,dm];exact h) (by rw[dm];lia)
theorem NB(a b:Rat)(ns:List Int)(c:Rat){xs ys:List Rat}(h:xs.length=ys.length):∀k,k<=xs.length->dA a b ns (fz c xs ys) k=dA a b ns xs k+c*(dA a b ns ys k-dA a b ns xs k)
 | 0,_=>by show(0:Rat)=0+c*(0-0);grind
 | k+1,hk=>by
  rw[dA,dA,dA,NB a b ns c h k (by lia),SY a b ns c h k (by lia),ma (by rw[dm,dm];exact h) (by rw[dm];lia)]
  grind
theorem zz0(c:Rat)(h:xs.length=ys.length):fz c (xs++[0]) (ys++[0])=fz c xs ys++[0]:=by
 unfold fz;rw[List.zipWith_append h]
 show _++[0+c*(0-0)]=_
 congr 2
 grind
def cz(a b:Rat)(ns:List Int)(xs:List Rat):Rat:=dA a b ns (xs++[0]) ns.length
theorem BQ(c:Rat)(hn:ns.length=xs.length+1)(h:xs.length=ys.length):cz a b ns (fz c xs ys)=cz a b ns xs+c*(cz a b ns ys-cz a b ns xs):=by
 unfold cz;rw[<- zz0 c h];exact NB a b ns c (by simp[h]) _ (by simp;lia)
def sumTo(f:Nat->Rat):Nat->Rat
 | 0=>0
 | n+1=>sumTo f n+f n
theorem mZ{f g:Nat->Rat} : ∀n,(∀k,k<n->f k=g k)->sumTo f n=sumTo g n
 | 0,_=>rfl
 | n+1,h=>by rw[sumTo,sumTo,mZ n λk hk=>h k (by lia),h n (by lia)]
theorem yi(c:Rat)(f:Nat->Rat):∀n,sumTo (λk=>c*f k) n=c*sumTo f n
 | 0=>by show(0:Rat)=c*0;grind
 | n+1=>by rw[sumTo,sumTo,yi c f n];grind
theorem C1(f g:Nat->Rat):∀n,sumTo (λk=>f k+g k) n=sumTo f n+sumTo g n
 | 0=>by show(0:Rat)=0+0;grind
 | n+1=>by rw[sumTo,sumTo,sumTo,C1 f g n];grind
theorem Rt(c:Rat):∀n:Nat,sumTo (λ_=>c) n=((n:Int):Rat)*c
 | 0=>by show(0:Rat)=((0:Int):Rat)*c;grind
 | n+1=>by
  have e:(((n+1:Nat):Int):Rat)=((n:Int):Rat)+1:=by push_cast;rfl
  rw[sumTo,Rt c n,e];grind
theorem Gd(F:Rat):∀n,sumTo (λk=>F^k) n=aC F 1 n
 | 0=>rfl
 | n+1=>by
  rw[sumTo,Gd F n]
  have:∀m,aC F 1 m*F+1=aC F 1 m+F^m:=λm=>by
   induction m with
   | zero=>rw[V5];show(0:Rat)*F+1=0+1;grind
   | succ m ih =>
    show(F*aC F 1 m+1)*F+1=(F*aC F 1 m+1)+F^(m+1)
    rw[WP]
    grind
  have:=this n
  show aC F 1 n+F^n=F*aC F 1 n+1
  grind
theorem Yi{a b:Rat}{ns:List Int}{L:Nat}(hn:ns.length=L+1)(X:Nat->List Rat)(hX:∀k,(X k).length=L):∀(n:Nat)(M:List Rat),1<=n->M.length=L->(∀i,i<L->M.getD i 0*((n:Int):Rat)=sumTo (λk=>(X k).getD i 0) n)->((n:Int):Rat)*cz a b ns M=sumTo (λk=>cz a b ns (X k)) n
 | 0,M,h,_,_=>by lia
 | n+1,M,_,hM,hs=>by
  have en:(((n+1:Nat):Int):Rat)=((n:Int):Rat)+1:=by push_cast;rfl
  by_cases z:n=0
  ·subst z
   have e1:(((0+1:Nat):Int):Rat)=1:=by decide
   have:M=X 0:=g6 (by rw[hM,hX]) λi hi=>by
    have:=hs i (by lia);rw[e1]at this;have e2:sumTo (λk=>(X k).getD i 0) (0+1)=(X 0).getD i 0:=by rw[sumTo,sumTo];grind
    rw[e2]at this
    grind
   rw[this,e1]
   show 1*cz a b ns (X 0)=0+cz a b ns (X 0)
   grind
  ·have hn0:((n:Int):Rat)≠0:=λe=>z (by have:=W6.mp e;lia)
   have hn1:((n:Int):Rat)+1≠0:=λe=>by
    rw[<- en]at e;have:=W6.mp e
    lia
   let M':List Rat:=(wo L).map λi=>sumTo (λk=>(X k).getD i 0) n / ((n:Int):Rat)
   have hl':M'.length=L:=by simp[M']
   have g':∀i,i<L->M'.getD i 0=sumTo (λk=>(X k).getD i 0) n / ((n:Int):Rat):=λi hi=>by
    show((wo L).map λi=>sumTo (λk=>(X k).getD i 0) n / ((n:Int):Rat)).getD i 0=_
    rw[wb,wq,vE hi];rfl
   have ih:=Yi (a:=a) (b:=b) hn X hX n M' (by lia) hl' λi hi=>by rw[g' i hi];exact WJ hn0
   have eM:M=fz (1 / (((n:Int):Rat)+1)) M' (X n):=g6 (by rw[hM,mX (by rw[hl',hX]),hl']) λi hi=>by
    rw[ma (by rw[hl',hX]) (by lia),g' i (by lia)];have h1:=hs i (by lia);rw[en,sumTo]at h1;generalize sumTo (λk=>(X k).getD i 0) n=S at *;generalize (X n).getD i 0=y at *;generalize M.getD i 0=m at *;generalize ((n:Int):Rat)=N at *;have k1:S / N*N=S:=WJ hn0;have k2:1 / (N+1)*(N+1)=1:=WJ hn1;generalize S / N=q at *;generalize 1 / (N+1)=r at *;have:(m-(q+r*(y-q)))*(N+1)=0:=by grind
    rcases Q3.mp this with h | h
    ·grind
    ·exact absurd h hn1
   rw[eM,BQ _ (by lia) (by rw[hl',hX]),sumTo,<- ih,en];generalize cz a b ns M'=A;generalize cz a b ns (X n)=B;generalize ((n:Int):Rat)=N at *;have k2:1 / (N+1)*(N+1)=1:=WJ hn1;generalize 1 / (N+1)=r at *
   grind
end GM
namespace L2
open PySem PySem.Spec PyProof.Rows GM
section
variable{K:wa}{H H' H2:Hp}{a p:we}{xs ys:List V}{o:HO}
theorem ar.upd(h:H p=none):ar H (upd H p o):=λb u e=>by
 rw[eJ (kC e h)];exact e
theorem ar.j6(s:ar H H')(h:aT K H a xs):aT K H' a xs:=by
 rcases h with(h | ⟨o,h⟩) | h
 ·exact .inl (.inl (s _ _ h))
 ·exact .inl (.inr ⟨o,s _ _ h⟩)
 ·exact .inr h
structure a_(H H':Hp):Prop where
 t:∀b xs,H b=some (.tup xs)->H' b=some (.tup xs)
 f:∀b o u,H b=some (.gK o u)->H' b=some (.gK o u)
theorem ar.keep(s:ar H H'):a_ H H':=⟨λb xs h=>s _ _ h,λb o u h=>s _ _ h⟩
theorem a_.refl(H:Hp):a_ H H:=(ar.refl H).keep
theorem a_.trans(a:a_ H H')(b:a_ H' H2):a_ H H2:=⟨λc xs h=>b.t _ _ (a.t _ _ h),λc o u h=>b.f _ _ _ (a.f _ _ _ h)⟩
theorem a_.j6(k:a_ H H')(h:aT K H a xs):aT K H' a xs:=by
 rcases h with(h | ⟨o,h⟩) | h
 ·exact .inl (.inl (k.t _ _ h))
 ·exact .inl (.inr ⟨o,k.f _ _ _ h⟩)
 ·exact .inr h
def iW(K:wa)(H:Hp)(a:we)(xs:List V):Prop :=
 (∃o,H a=some (.gK o (.lst xs))) \/
  ∃(o:Obj)(its:Array wf)(n:Nat),K.lookup a=some o/\o.cls=.type "list"/\o.dict=none/\o.data=.seq its n/\its.size<=wY/\aS xs its.toList
theorem iW.sq(h:iW K H a xs):aE K H a xs:=by
 rcases h with⟨o,h⟩ | h
 ·exact .inl (.inr ⟨o,h⟩)
 ·exact .inr h
theorem a_.yu(k:a_ H H')(h:iW K H a xs):iW K H' a xs:=by
 rcases h with⟨o,h⟩ | h
 ·exact .inl ⟨o,k.f _ _ _ h⟩
 ·exact .inr h
def Exc(p:we)(H H':Hp):Prop:=∀b o,b≠p->H b=some o->H' b=some o
theorem Exc.keep(e:Exc p H H')(h:H p=some (.lst xs)):a_ H H' :=
 ⟨λb ys hb=>e b _ (Sz hb h (by intro z;cases z)) hb,λb o u hb=>e b _ (Sz hb h (by intro z;cases z)) hb⟩
theorem ar.exc(s:ar H H'):Exc p H H':=λb o _ h=>s b o h
theorem Exc.refl(p:we)(H:Hp):Exc p H H:=λ_ _ _ h=>h
theorem Exc.trans(a:Exc p H H')(b:Exc p H' H2):Exc p H H2:=λc o n h=>b c o n (a c o n h)
theorem Exc.upd(p:we)(H:Hp)(o:HO):Exc p H (upd H p o):=λb u n h=>by
 rw[eJ n];exact h
theorem Exc.at(e:Exc p H H'){q:we}{u:HO}(n:q≠p)(h:H q=some u):H' q=some u:=e q u n h
end
mutual
def Is(K:wa)(H:Hp):V->wD->Prop
 | v,.none=>v=.bM
 | v,.bool b=>v=.bl b
 | v,.int i=>v=.int i
 | v,.str x=>v=.str x
 | v,.tuple ds=>∃a xs,v=.ref a/\aT K H a xs/\ah K H xs ds
 | v,.list ds=>∃a xs,v=.ref a/\aE K H a xs/\ah K H xs ds
 | v,.dict _=>∃a kvs,v=.ref a/\H a=some (.dK kvs)
def ah(K:wa)(H:Hp):List V->List wD->Prop
 | xs,[]=>xs=[]
 | xs,d::ds=>∃x r,xs=x::r/\Is K H x d/\ah K H r ds
end
section
variable{K:wa}{H H':Hp}{v:V}{xs:List V}{ds:List wD}{d:wD}
theorem cc{i:Int} : Is K H v (.int i) ↔ v=.int i:=by rw[Is]
theorem oM{b:Bool} : Is K H v (.bool b) ↔ v=.bl b:=by rw[Is]
theorem iF{x:Str} : Is K H v (.str x) ↔ v=.str x:=by rw[Is]
theorem nv:Is K H v .none ↔ v=.bM:=by rw[Is]
theorem bY:Is K H v (.tuple ds) ↔ ∃a xs,v=.ref a/\aT K H a xs/\ah K H xs ds:=by rw[Is]
theorem ck:Is K H v (.list ds) ↔ ∃a xs,v=.ref a/\aE K H a xs/\ah K H xs ds:=by rw[Is]
theorem tM{kv:List (wD × wD)} : Is K H v (.dict kv) ↔ ∃a kvs,v=.ref a/\H a=some (.dK kvs):=by rw[Is]
theorem fI:ah K H xs [] ↔ xs=[]:=by rw[ah]
theorem dB:ah K H xs (d::ds) ↔ ∃x r,xs=x::r/\Is K H x d/\ah K H r ds:=by rw[ah]
theorem ah.cons(h:Is K H v d)(t:ah K H xs ds):ah K H (v::xs) (d::ds):=dB.mpr ⟨v,xs,rfl,h,t⟩
theorem ah.nil:ah K H [] []:=fI.mpr rfl
theorem ah.length:∀{ds:List wD}{xs:List V},ah K H xs ds->xs.length=ds.length
 | [],_,h=>by rw[fI.mp h];rfl
 | d::ds,_,h=>by
  obtain⟨x,r,rfl,_,t⟩:=dB.mp h;rw[Wa,Wa,ah.length t]
theorem ah.get:∀{ds:List wD}{xs:List V}{i:Nat}{d:wD},ah K H xs ds->ds[i]? = some d->∃x,xs[i]? = some x/\Is K H x d
 | [],_,_,_,_,e=>by simp at e
 | d::ds,_,0,_,h,e=>by
  obtain⟨x,r,rfl,q,_⟩:=dB.mp h;simp at e;subst e;exact⟨x,rfl,q⟩
 | d::ds,_,i+1,d',h,e=>by
  obtain⟨x,r,rfl,_,t⟩:=dB.mp h;obtain⟨y,h1,h2⟩:=ah.get (i:=i) t (by simpa using e);exact⟨y,by simpa using h1,h2⟩
theorem ah.append:∀{ds es:List wD}{xs ys:List V},ah K H xs ds->ah K H ys es->ah K H (xs++ys) (ds++es)
 | [],_,_,_,h,t=>by rw[fI.mp h];exact t
 | d::ds,_,_,_,h,t=>by
  obtain⟨x,r,rfl,q,u⟩:=dB.mp h;exact .cons q (ah.append u t)
mutual
theorem Is.same(s:ar H H'):∀(d:wD)(v:V),Is K H v d->Is K H' v d
 | .none,v,h=>by rw[nv]at h ⊢;exact h
 | .bool _,v,h=>by rw[oM]at h ⊢;exact h
 | .int _,v,h=>by rw[cc]at h ⊢;exact h
 | .str _,v,h=>by rw[iF]at h ⊢;exact h
 | .tuple ds,v,h=>by
  obtain⟨a,xs,e,q,t⟩:=bY.mp h;exact bY.mpr ⟨a,xs,e,s.j6 q,ah.same s ds xs t⟩
 | .list ds,v,h=>by
  obtain⟨a,xs,e,q,t⟩:=ck.mp h;exact ck.mpr ⟨a,xs,e,s.seq q,ah.same s ds xs t⟩
 | .dict _,v,h=>by
  obtain⟨a,kvs,e,q⟩:=tM.mp h;exact tM.mpr ⟨a,kvs,e,s _ _ q⟩
theorem ah.same(s:ar H H'):∀(ds:List wD)(xs:List V),ah K H xs ds->ah K H' xs ds
 | [],xs,h=>by rw[fI]at h ⊢;exact h
 | d::ds,xs,h=>by
  obtain⟨x,r,e,q,t⟩:=dB.mp h;exact dB.mpr ⟨x,r,e,Is.same s d x q,ah.same s ds r t⟩
end
end
mutual
def di:wD->Bool
 | .none=>true
 | .bool _=>true
 | .int _=>true
 | .str _=>true
 | .tuple ds=>cw ds
 | .list _=>false
 | .dict _=>false
def cw:List wD->Bool
 | []=>true
 | d::ds=>di d&&cw ds
end
section
variable{K:wa}{H H':Hp}
mutual
theorem Is.keep(k:a_ H H'):∀(d:wD)(v:V),di d=true->Is K H v d->Is K H' v d
 | .none,v,_,h=>by rw[nv]at h ⊢;exact h
 | .bool _,v,_,h=>by rw[oM]at h ⊢;exact h
 | .int _,v,_,h=>by rw[cc]at h ⊢;exact h
 | .str _,v,_,h=>by rw[iF]at h ⊢;exact h
 | .tuple ds,v,i,h=>by
  obtain⟨a,xs,e,q,t⟩:=bY.mp h;exact bY.mpr ⟨a,xs,e,k.j6 q,ah.keep k ds xs (by rw[di]at i;exact i) t⟩
 | .list ds,v,i,h=>by rw[di]at i;cases i
 | .dict _,v,i,h=>by rw[di]at i;cases i
theorem ah.keep(k:a_ H H'):∀(ds:List wD)(xs:List V),cw ds=true->ah K H xs ds->ah K H' xs ds
 | [],xs,_,h=>by rw[fI]at h ⊢;exact h
 | d::ds,xs,i,h=>by
  obtain⟨x,r,e,q,t⟩:=dB.mp h;rw[cw,wV]at i;exact dB.mpr ⟨x,r,e,Is.keep k d x i.1 q,ah.keep k ds r i.2 t⟩
end
end
def N(r:Rat):wD:=.tuple [.int r.num,.int (r.den:Int)]
theorem lG(r:Rat):di (N r)=true:=by simp[N,di,cw]
section
variable{K:wa}{H H':Hp}{v:V}{r:Rat}
theorem mE:Is K H v (N r) ↔ ∃a,v=.ref a/\aT K H a [.int r.num,.int (r.den:Int)]:=by
 unfold N;rw[bY]
 constructor
 ·rintro ⟨a,xs,e,q,t⟩
  obtain⟨x,r1,rfl,q1,t⟩:=dB.mp t;obtain⟨y,r2,rfl,q2,t⟩:=dB.mp t;rw[fI.mp t,cc.mp q1,cc.mp q2]at q;exact⟨a,e,q⟩
 ·rintro ⟨a,e,q⟩
  exact⟨a,_,e,q,.cons (cc.mpr rfl) (.cons (cc.mpr rfl) .nil)⟩
end
section
variable{X:Cx}{pins:List (we × Obj)}{σ : St}{H:Hp}{s:wm}
mutual
theorem Inv.reads(I:Inv X pins σ H s):∀(d:wD)(v:V)(u:wf),d.canLay0=true->Is X.K H v d->aZ v u->∃as,Reads s.heap u d as
 | .none,v,u,_,h,r=>by
  cases nv.mp h;cases (show u=Value.none from r);exact⟨_,.none⟩
 | .bool b,v,u,_,h,r=>by
  cases oM.mp h;cases (show u=Value.bool b from r);exact⟨_,.bool b⟩
 | .int i,v,u,_,h,r=>by
  cases cc.mp h;obtain⟨t,e⟩:=(show ∃t,u=Value.int i t from r);cases e;exact⟨_,.int i t⟩
 | .str x,v,u,_,h,r=>by
  cases iF.mp h;obtain⟨t,e⟩:=(show ∃t,u=Value.str x t from r);cases e;exact⟨_,.str x t⟩
 | .tuple ds,v,u,c,h,r=>by
  obtain⟨a,xs,e,q,t⟩:=bY.mp h;subst e;cases (show u=Value.ref a from r);obtain⟨its,rv,⟨o,e1,e2,n,e3⟩,_⟩:=I.tuple q;obtain⟨as,ra⟩:=Inv.readsAll I ds xs its (by rw[vB]at c;exact c) t rv;exact⟨_,.tuple e1 e2 e3 (by simpa using ra)⟩
 | .list ds,v,u,c,h,r=>by
  obtain⟨a,xs,e,q,t⟩:=ck.mp h;subst e;cases (show u=Value.ref a from r);obtain⟨its,rv,⟨o,n,e1,e2,_,e3⟩,_⟩:=I.list q;obtain⟨as,ra⟩:=Inv.readsAll I ds xs its (by rw[vB]at c;exact c) t rv;exact⟨_,.list e1 e2 e3 (by simpa using ra)⟩
 | .dict _,v,u,c,h,r=>by rw[vB]at c;cases c
theorem Inv.readsAll(I:Inv X pins σ H s):∀(ds:List wD)(xs:List V)(us:List wf),Wd ds=true->ah X.K H xs ds->aS xs us->∃as,ReadsAll s.heap us ds as
 | [],xs,us,_,h,r=>by
  rw[fI.mp h]at r;cases r;exact⟨_,.nil⟩
 | d::ds,xs,us,c,h,r=>by
  obtain⟨x,l,e,q,t⟩:=dB.mp h;subst e;rw[Wd,wV]at c;cases r with
  | cons r1 r2 =>
   obtain⟨as,h1⟩:=Inv.reads I d x _ c.1 q r1;obtain⟨bs,h2⟩:=Inv.readsAll I ds l _ c.2 t r2;exact⟨_,.cons h1 h2⟩
end
end
section
variable{X:Cx}
open PySem.SeqAt (shaped)
variable{K:wa}
def jP(K:wa):R2:=λx y H Q=>∃d e,Is K H x d/\Is K H y e/\shaped d=true/\shaped e=true/\Q (.bl (w8 d e)) H
def md(K:wa):R2:=λx y H Q=>∃d e,Is K H x d/\Is K H y e/\shaped d=true/\shaped e=true/\Q (.bl (!PyData.eqv d e)) H
theorem SW(hu:X.A.units+64<WG):bG X (vP .Eq) (jP X.K):=by
 intro pins s σ H x y v u Q I rx ry h;obtain⟨d,e,hd,he,sd,se,q⟩:=h;obtain⟨as,h1⟩:=I.reads d x v (Vd sd) hd rx;obtain⟨bs,h2⟩:=I.reads e y u (Vd se) he ry;exact eq_dataH h1 h2 sd se hu ⟨.bl _,H,I,rfl,q⟩
theorem zDa(hu:X.A.units+64<WG):bG X (vP .NotEq) (md X.K):=by
 intro pins s σ H x y v u Q I rx ry h;obtain⟨d,e,hd,he,sd,se,q⟩:=h;obtain⟨as,h1⟩:=I.reads d x v (Vd sd) hd rx;obtain⟨bs,h2⟩:=I.reads e y u (Vd se) he ry;exact ne_dataH h1 h2 sd se hu ⟨.bl _,H,I,rfl,q⟩
theorem aZ.YK{x:V}{v:wf}(r:aZ x v)(c:Bool):(v == Value.bool c)=decide (x=.bl c):=by
 cases x with
 | bM=>cases (show v=Value.none from r);rfl
 | bl b=>cases (show v=Value.bool b from r);cases b<;>cases c<;>rfl
 | int _=>obtain⟨t,rfl⟩:=r;rfl
 | str _=>obtain⟨t,rfl⟩:=r;rfl
 | byt _=>obtain⟨t,rfl⟩:=r;rfl
 | flt _=>obtain⟨t,rfl⟩:=r;rfl
 | ref _=>cases r;rfl
 | ty _=>cases r;rfl
theorem aZ.YD{x:V}{v:wf}(r:aZ x v)(c:Bool):plainIs v (Value.bool c)=true:=by
 cases x with
 | bM=>cases (show v=Value.none from r);rfl
 | bl b=>cases (show v=Value.bool b from r);rfl
 | int _=>obtain⟨t,rfl⟩:=r;rfl
 | str _=>obtain⟨t,rfl⟩:=r;rfl
 | byt _=>obtain⟨t,rfl⟩:=r;rfl
 | flt _=>obtain⟨t,rfl⟩:=r;rfl
 | ref _=>cases r;rfl
 | ty _=>cases r;rfl
def SU:R2:=λx y H Q=>(∃c,y=.bl c/\Q (.bl (decide (x=.bl c))) H)\/(y=.bM/\Q (.bl (decide (x=.bM))) H)
theorem rP :bG X (vP .Is) SU:=by
 intro pins s σ H x y v u Q I rx ry h;rcases h with⟨c,e,q⟩ | h
 ·subst e
  cases (show u=Value.bool c from ry);exact wpAny_is_plain (rx.YD c) (U3 I q (rx.YK c).symm)
 ·exact zCY pins s σ H x y v u Q I rx ry h
def kindOf:wD->String
 | .none=>"NoneType"
 | .bool _=>"bool"
 | .int _=>"int"
 | .str _=>"str"
 | .tuple _=>"tuple"
 | .list _=>"list"
 | .dict _=>"dict"
def eC(K:wa):List V->Hp->VK->Prop:=λxs H Q=>∃x T d b,xs=[x,.ty T]/\Is K H x d/\VD K (.type (kindOf d)) (.type T)=some b/\Q (.bl b) H
theorem iC :bS X (.builtin "isinstance") (eC X.K):=by
 intro pins s σ H xs us Q I r h;obtain⟨x,T,d,b,rfl,hd,e,q⟩:=h;obtain⟨u,w',rfl,rx,rt⟩:=mT r;cases (show w'=Value.type T from rt);have fin:∀tk,EP X pins σ Q (.bool b) {s with toks:=tk}:=λtk=>⟨.bl b,H,I.tok _,rfl,q⟩
 cases d with
 | none =>
  cases nv.mp hd;cases (show u=Value.none from rx);exact Vo Xl I.dW True.intro e (λz=>nomatch z) fin
 | bool y =>
  cases oM.mp hd;cases (show u=Value.bool y from rx);exact Vo Xm I.dW True.intro e (λz=>nomatch z) fin
 | int i =>
  cases cc.mp hd;obtain⟨t,q⟩:=(show ∃t,u=Value.int i t from rx);cases q;exact Vo XR I.dW True.intro e (λz=>nomatch z) fin
 | str y =>
  cases iF.mp hd;obtain⟨t,q⟩:=(show ∃t,u=Value.str y t from rx);cases q;exact Vo XS I.dW True.intro e (λz=>nomatch z) fin
 | tuple ds =>
  obtain⟨a,xs,e1,hq,_⟩:=bY.mp hd;subst e1;cases (show u=Value.ref a from rx);obtain⟨its,_,⟨o,h1,h2,_⟩,_⟩:=I.tuple hq;exact Vo xZ I.dW ⟨o,h1,h2⟩ e (λz=>nomatch z) fin
 | list ds =>
  obtain⟨a,xs,e1,hq,_⟩:=ck.mp hd;subst e1;cases (show u=Value.ref a from rx);obtain⟨its,_,⟨o,n,h1,h2,_⟩,_⟩:=I.list hq;exact Vo Xn I.dW ⟨o,h1,h2⟩ e (λz=>nomatch z) fin
 | dict kv =>
  obtain⟨a,kvs,e1,hq⟩:=tM.mp hd;subst e1;cases (show u=Value.ref a from rx);obtain⟨_,_,vs,_,o,es,ep,h1,h2,_⟩:=(show dR X.prog X.w H s.heap a (.dK kvs)from I.aM a _ hq);exact Vo Xo I.dW ⟨o,h1,h2.1⟩ e (λz=>nomatch z) fin
def isA(T:String)(d:wD):Bool:=(kindOf d == T) || (kindOf d == "bool"&&T == "int")
theorem zAT(d:wD):VD K (.type (kindOf d)) (.type "int")=some (isA "int" d):=by cases d<;>rfl
theorem zzG(d:wD):VD K (.type (kindOf d)) (.type "bool")=some (isA "bool" d):=by cases d<;>rfl
theorem ZT(d:wD):VD K (.type (kindOf d)) (.type "tuple")=some (isA "tuple" d):=by cases d<;>rfl
theorem zyo(d:wD):VD K (.type (kindOf d)) (.type "list")=some (isA "list" d):=by cases d<;>rfl
theorem ZY(d:wD):VD K (.type (kindOf d)) (.type "str")=some (isA "str" d):=by cases d<;>rfl
theorem Y0{m n:Nat}{i j:Int}(h:Bd m i)(k:Bd n j)(hm:m<=1000000)(hn:n<=1000000):IntMulOk i j:=by
 have f:∀{m:Nat}{i:Int},Bd m i->m<=1000000->xL i<=2^20:=by
  intro m i h hm;have e:(2:Nat)^20=1048576:=by decide
  have l:=(h.mono (Nat.le_succ m)).log (Nat.succ_pos m);unfold xL
  split<;>lia
 exact .of_bits (f h hm) (f k hn)
theorem cE :bG X (WF .Mult) (rI IntMulOk λi j=>.int (i*j)):=AE λ_ _ _ _ _ _ _ hc q=>mul_int q hc
def oF(_ j:Int):Prop:=j≠0/\Bd 8999 j
theorem fe :bG X (WF .FloorDiv) (rI oF λi j=>.int (i.fdiv j)):=AE λ_ _ _ _ _ _ _ hc q =>
 floordiv_int hc.1 q (.inl (PyProof.noPylong_of_log2 (qN (hc.2.log (by decide)))))
theorem Zr :bG X (WF .Add) (λx y H Q=>(jl λi j=>.int (i+j)) x y H Q\/(BN x y H Q \/ ∃i j,x=.str i/\y=.str j/\i.length+j.length<=wY/\Q (.str (i++j)) H)):=zDt.or (zDH.or zui)
end
theorem zDc:vI "len"=some (.builtin "len"):=by decide +kernel
theorem mY:vI "abs"=some (.builtin "abs"):=by decide +kernel
theorem ic:vI "isinstance"=some (.builtin "isinstance"):=by decide +kernel
theorem Si:vI "int"=some (.type "int"):=by decide +kernel
theorem OU:vI "bool"=some (.type "bool"):=by decide +kernel
theorem zDM:vI "str"=some (.type "str"):=by decide +kernel
theorem k_:vI "tuple"=some (.type "tuple"):=by decide +kernel
theorem gT:vI "list"=some (.type "list"):=by decide +kernel
def mz(K:wa)(xs:List V)(H:Hp)(Q:VK):Prop:=xs.length<=wY /\ ∀p,H p=none->Q (.ref p) (upd H p (.tup xs))
def Dx(K:wa)(xs:List V)(H:Hp)(Q:VK):Prop:=xs.length<=wY /\ ∀p,H p=none->Q (.ref p) (upd H p (.lst xs))
def k9(K:wa)(t:TA):TE:=λσ H Q=>t σ H λxs H1=>mz K xs H1 Q
def O7(K:wa)(t:TA):TE:=λσ H Q=>t σ H λxs H1=>Dx K xs H1 Q
def EN:R2:=λx y H Q=>(jl λi j=>.int (i+j)) x y H Q\/(BN x y H Q \/ ∃i j,x=.str i/\y=.str j/\i.length+j.length<=wY/\Q (.str (i++j)) H)
def Yn:List V->Hp->VK->Prop:=λxs H Q=>∃i:Int,xs=[.int i]/\Q (.int (if i<0 then -i else i)) H
def jt(K:wa):List V->Hp->VK->Prop:=λxs H Q=>∃p ys,xs=[.ref p]/\(aE K H p ys\/aT K H p ys)/\Q (.int ys.length) H
section
variable{X:Cx}{e:Expr}{es:List Expr}{te:TE}{t:TA}{pos:Pos}
theorem aQ{x1}(h:PA X es t):PE X (.Tuple es x1 pos) (k9 X.K t):=zDo h
theorem dy(h:PA X es t):PE X (.List es pos) (O7 X.K t):=zCz h
theorem cB:bG X (WF .Add) EN:=Zr
theorem m5:bS X (.builtin "abs") Yn:=zx5
theorem zxZ:bS X (.builtin "len") (jt X.K):=zru
theorem rJ{x:Str}{i:Int}{pos:Pos}(hg:Gl X x)(hm:∃t,X.mg x=some (.int i t))(hd:(x == ("__debug__" : Str))=false:=by decide):PE X (.Name x pos) (tC (.int i)):=by
 obtain⟨t,hm⟩:=hm;exact cj hg hm ⟨t,rfl⟩ hd
end
section
variable{K:wa}{σ : St}{H H':Hp}{Q:VK}{QA:List V->Hp->Prop}{QB:Bool->Hp->Prop}{QS:St->Hp->Prop}{QH:Hp->Prop}{D:cR}{ta tb te:TE}{tt tu:TT}{t tr:TA}{s1 s2:TS}{g:TG}{gs:kj}{r:R2}{v w:V}{xs ys:List V}{i:Nat}{m n:Int}
variable{j:Nat}{p:we}{d:wD}{ds:List wD}{A B:Prop}
theorem zCV(h : σ[i]? = some (some v))(q:Q v H):gW i σ H Q:=⟨v,h,q⟩
theorem zE1(q:Q v H):tC v σ H Q:=q
theorem ZM(h:ta σ H λx H1=>tb σ H1 λy H2=>r x y H2 Q):jh r ta tb σ H Q:=h
theorem ZU{u:V->Hp->VK->Prop}(h:ta σ H λx H1=>u x H1 Q):UH u ta σ H Q:=h
theorem Zz(h:t σ H λxs H1=>mz K xs H1 Q):k9 K t σ H Q:=h
theorem zC8(h:t σ H λxs H1=>Dx K xs H1 Q):O7 K t σ H Q:=h
theorem zDs(q:QA [] H):mO σ H QA:=q
theorem zA3(h:te σ H λx H1=>tr σ H1 λxs H2=>QA (x::xs) H2):jY te tr σ H QA:=h
theorem zAq{sp:Sp}{E:XK}(h:t σ H λvs H1=>sp vs H1 Q E):pR sp [] E t σ H Q:=by
 simpa only[pR,vK] using h
theorem zEg{u:List V->Hp->VK->Prop}(h:t σ H λvs H1=>u vs H1 Q):rf u t σ H Q:=h
theorem zBl(h:te σ H λx H'=>∃k,x=.bl k/\QB k H'):pL te σ H QB:=h
theorem zEv(h:te σ H λx H'=>∃k,x=.bl k/\QB k H'):tB te σ H QB:=h
theorem zCQ(h:tt σ H λc H1=>if c=true then tu σ H1 QB else QB false H1):LC tt tu σ H QB:=h
theorem zED(h:tt σ H λc H1=>if c=true then QB true H1 else tu σ H1 QB):LU tt tu σ H QB:=h
theorem zDG(h:tt σ H λc H1=>QB (!c) H1):RT tt σ H QB:=h
theorem zBo(h:ta σ H λx H1=>∃c,x=.bl c/\if c=true then tb σ H1 Q else Q (.bl false) H1):MA ta tb σ H Q:=h
theorem zBF(h:ta σ H λx H1=>∃c,x=.bl c/\Q (.bl (!c)) H1):Ox ta σ H Q:=h
theorem zC2(h:tt σ H λc H1=>if c=true then ta σ H1 Q else tb σ H1 Q):SS tt ta tb σ H Q:=h
theorem zDx(h:s1 {D with nx:=s2 D} σ H):BC s1 s2 D σ H:=h
theorem zAD(h:D.nx σ H):PM D σ H:=h
theorem zC3(h:te σ H D.rt):Ot te D σ H:=h
theorem zCU(h:tt σ H λb H1=>if b=true then s1 D σ H1 else s2 D σ H1):Ld tt s1 s2 D σ H:=h
theorem zDN(h:te σ H λx H1=>g x σ H1 D.nx):kq te g D σ H:=h
theorem Zy(h:te σ H λ_ H1=>D.nx σ H1):Sy te D σ H:=h
theorem zDj(h:t σ H λvs H1=>∃v w,vs=[v,w]/\D.nx ((σ.set i (some v)).set j (some w)) H1):Mp i j t D σ H:=h
theorem zBr(q:QS ((σ.set i (some v)).set j (some w)) H):∃v' w',[v,w]=[v',w']/\QS ((σ.set i (some v')).set j (some w')) H:=⟨v,w,rfl,q⟩
theorem zyR(q:QS (σ.set i (some v)) H):gY i v σ H QS:=q
theorem zAw(q:QS σ H):Up [] σ H QS:=⟨rfl,q⟩
theorem zzY(q:g v σ H λσ' H'=>gs xs σ' H' QS):OY g gs (v::xs) σ H QS:=⟨v,xs,rfl,q⟩
theorem lA{a:we}{n:Nat}(h:aT K H a xs)(e:xs.length=n)(q:gs xs σ H QS):lO K n gs (.ref a) σ H QS:=⟨a,xs,rfl,h,e,q⟩
theorem zAC{tset:tU}(h:ta σ H λo H1=>tb σ H1 λi H2=>tset o i v H2 λH3=>QS σ H3):Pz ta tb tset v σ H QS:=h
theorem oy{k:Int}(h:H p=some (.lst xs))(e:gB xs.length k=some j)(q:∀H',Exc p H H'->H' p=some (.lst (xs.set j v))->QH H'):Px (.ref p) (.int k) v H QH :=
 ⟨p,xs,k,j,rfl,rfl,h,e,q _ (Exc.upd p H _) dh⟩
theorem zDb{f:Int->Int->V}(q:Q (f m n) H):jl f (.int m) (.int n) H Q:=⟨m,n,rfl,rfl,q⟩
theorem pX{C:Int->Int->Prop}{f:Int->Int->V}(c:C m n)(q:Q (f m n) H):rI C f (.int m) (.int n) H Q:=⟨m,n,rfl,rfl,c,q⟩
theorem Zk{f:Int->V}(q:Q (f m) H):rU f (.int m) H Q:=⟨m,rfl,q⟩
theorem zAW(q:Q (.int (m+n)) H):EN (.int m) (.int n) H Q:=.inl ⟨m,n,rfl,rfl,q⟩
theorem jV{b:we}(h:H p=some (.lst xs))(k:H b=some (.lst ys))(z:xs.length+ys.length<=wY)
  (q:∀c H',H c=none->ar H H'->H' c=some (.lst (xs++ys))->Q (.ref c) H'):EN (.ref p) (.ref b) H Q :=
 .inr (.inl ⟨p,b,xs,ys,rfl,rfl,h,k,z,λc hc=>q c _ hc (ar.upd hc) dh⟩)
theorem zCX(q:Q (.int (if m<0 then -m else m)) H):Yn [.int m] H Q:=⟨m,rfl,q⟩
theorem CI(h:aT K H p xs)(q:Q (.int xs.length) H):jt K [.ref p] H Q:=⟨p,xs,rfl,.inr h,q⟩
theorem gG(h:aE K H p xs)(q:Q (.int xs.length) H):jt K [.ref p] H Q:=⟨p,xs,rfl,.inl h,q⟩
theorem zC1(q:Q (.bl (decide (v=.bM))) H):SU v .bM H Q:=.inr ⟨rfl,q⟩
theorem zCC(q:Q (.bl (decide (m=n))) H):jP K (.int m) (.int n) H Q :=
 ⟨.int m,.int n,cc.mpr rfl,cc.mpr rfl,rfl,rfl,by
  have e:w8 (.int m) (.int n)=decide (m=n):=by
   rw[w8,qY]
  rw[e];exact q⟩
theorem ZS(q:Q (.bl (!decide (m=n))) H):md K (.int m) (.int n) H Q :=
 ⟨.int m,.int n,cc.mpr rfl,cc.mpr rfl,rfl,rfl,by
  have e:w8 (.int m) (.int n)=decide (m=n):=by
   rw[w8,qY]
  rw[e];exact q⟩
theorem oq{e:wD}(h:Is K H v d)(k:Is K H w e)(sd:vL d=true)(se:vL e=true)(q:Q (.bl (w8 d e)) H):jP K v w H Q:=⟨d,e,h,k,sd,se,q⟩
theorem zV{e:wD}(h:Is K H v d)(k:Is K H w e)(sd:vL d=true)(se:vL e=true)(q:Q (.bl (!PyData.eqv d e)) H):md K v w H Q:=⟨d,e,h,k,sd,se,q⟩
theorem sf{T:String}(h:Is K H v d)(e:VD K (.type (kindOf d)) (.type T)=some (isA T d))(q:Q (.bl (isA T d)) H):eC K [v,.ty T] H Q:=⟨v,T,d,_,rfl,h,e,q⟩
def jr:wD->Bool
 | .tuple _=>true
 | _=>false
def zt:wD->Bool
 | .int _=>true
 | .bool _=>true
 | _=>false
def Ap:wD->Bool
 | .bool _=>true
 | _=>false
def kX:wD->Bool
 | .list _=>true
 | _=>false
def DN:wD->Bool
 | .str _=>true
 | _=>false
theorem UG : jr d=true ↔ ∃ds,d=.tuple ds:=by cases d<;>simp[jr]
theorem FP(h:Is K H v d)(q:Q (.bl (jr d)) H):eC K [v,.ty "tuple"] H Q:=sf h (ZT d) (by have e:isA "tuple" d=jr d:=(by cases d<;>rfl);rw[e];exact q)
theorem zy4(h:Is K H v d)(q:Q (.bl (zt d)) H):eC K [v,.ty "int"] H Q:=sf h (zAT d) (by have e:isA "int" d=zt d:=(by cases d<;>rfl);rw[e];exact q)
theorem zza(h:Is K H v d)(q:Q (.bl (Ap d)) H):eC K [v,.ty "bool"] H Q:=sf h (zzG d) (by have e:isA "bool" d=Ap d:=(by cases d<;>rfl);rw[e];exact q)
theorem zAd(h:Is K H v d)(q:Q (.bl (kX d)) H):eC K [v,.ty "list"] H Q:=sf h (zyo d) (by have e:isA "list" d=kX d:=(by cases d<;>rfl);rw[e];exact q)
theorem ZV(h:Is K H v d)(q:Q (.bl (DN d)) H):eC K [v,.ty "str"] H Q:=sf h (ZY d) (by have e:isA "str" d=DN d:=(by cases d<;>rfl);rw[e];exact q)
theorem tG(h:aT K H p xs)(e:iH xs m=some v)(q:Q v H):c_ K (.ref p) (.int m) H Q:=.inr (.inl ⟨p,xs,m,v,rfl,rfl,h,e,q⟩)
theorem j5(h:aE K H p xs)(e:iH xs m=some v)(q:Q v H):c_ K (.ref p) (.int m) H Q:=.inl ⟨p,xs,m,v,rfl,rfl,h,e,q⟩
theorem zDU{α : Type}{xs:List α}(h0:0<=m)(h1:m<xs.length):∃v,iH xs m=some v/\v∈xs:=by
 obtain⟨k,rfl⟩:∃k:Nat,m=(k:Int):=⟨m.toNat,by lia⟩;have l:k<xs.length:=by lia
 exact⟨xs[k],mQ (by simp[l]),Wi l⟩
theorem O_(P:V->Prop)(h:aE K H p xs)(h0:0<=m)(h1:m<xs.length)(hP:∀x∈xs,P x)(q:∀x,P x->Q x H):c_ K (.ref p) (.int m) H Q:=by
 obtain⟨x,e,hx⟩:=zDU h0 h1;exact j5 h e (q x (hP x hx))
theorem zBD{r:Rat}(h:Is K H v (N r))(q:Q (.int r.num) H):c_ K v (.int 0) H Q:=by
 obtain⟨a,rfl,h'⟩:=mE.mp h;exact tG h' rfl q
theorem zAJ{r:Rat}(h:Is K H v (N r))(q:Q (.int (r.den:Int)) H):c_ K v (.int 1) H Q:=by
 obtain⟨a,rfl,h'⟩:=mE.mp h;exact tG h' rfl q
theorem aD(h:Is K H v (.tuple ds))(e:ds[j]? = some d)(q:∀x,Is K H x d->Q x H):c_ K v (.int (j:Int)) H Q:=by
 obtain⟨a,xs,rfl,h,t⟩:=bY.mp h;obtain⟨x,e1,hx⟩:=t.get e;exact tG h (mQ e1) (q x hx)
theorem ly(h:Is K H v (.tuple ds))(q:Q (.int ds.length) H):jt K [v] H Q:=by
 obtain⟨a,xs,rfl,h,t⟩:=bY.mp h;exact CI h (by rw[t.length];exact q)
theorem yP{n:Nat}(h:Is K H v (.tuple ds))(e:ds.length=n)(q:∀xs,ah K H xs ds->gs xs σ H QS):lO K n gs v σ H QS:=by
 obtain⟨a,xs,rfl,h,t⟩:=bY.mp h;exact lA h (by rw[t.length];exact e) (q xs t)
theorem nR{α : Type}{l:List α}(h:l.length<=1000):l.length<=wY:=WA (gF h)
theorem ox(z:xs.length<=1000)(q:∀p H',H p=none->ar H H'->H' p=some (.tup xs)->Q (.ref p) H'):mz K xs H Q:=⟨nR z,λp hp=>q p _ hp (ar.upd hp) dh⟩
theorem dC(z:xs.length<=1000)(q:∀p H',H p=none->ar H H'->H' p=some (.lst xs)->Q (.ref p) H'):Dx K xs H Q:=⟨nR z,λp hp=>q p _ hp (ar.upd hp) dh⟩
theorem c6(z:xs.length<=1000)(h:ah K H xs ds)(q:∀v H',ar H H'->Is K H' v (.tuple ds)->Q v H'):mz K xs H Q :=
 ox z λp H' _ s e=>q _ H' s (bY.mpr ⟨p,xs,rfl,.of e,ah.same s ds xs h⟩)
theorem cU{r:Rat}(e1:m=r.num)(e2:n=(r.den:Int))(q:∀v H',ar H H'->Is K H' v (N r)->Q v H'):mz K [.int m,.int n] H Q:=by
 subst e1 e2;exact ox (by show 2<=1000;decide) λp H' _ s e=>q _ H' s (mE.mpr ⟨p,rfl,.of e⟩)
theorem zAf{p:Prop}[Decidable p](h1:p->A)(h2:¬ p->B):if decide p=true then A else B:=by
 by_cases h:p
 ·rw[decide_eq_true h,if_pos rfl];exact h1 h
 ·rw[decide_eq_false h,if_neg vC];exact h2 h
theorem zzP{p:Prop}[Decidable p](h1:¬ p->A)(h2:p->B):if(!decide p)=true then A else B:=by
 by_cases h:p
 ·rw[decide_eq_true h];exact nV (h2 h)
 ·rw[decide_eq_false h];exact nz (h1 h)
theorem zAZ{b:Bool}(h1:b=true->A)(h2:b=false->B):if b=true then A else B:=by
 cases b
 ·exact nV (h2 rfl)
 ·exact nz (h1 rfl)
theorem zyV{b:Bool}(h1:b=false->A)(h2:b=true->B):if(!b)=true then A else B:=by
 cases b
 ·exact nz (h1 rfl)
 ·exact nV (h2 rfl)
end
section
variable{c:TT}{tb:TS}{D:cR}{σ : St}{H:Hp}
def Rz(σ : St)(i:Nat):Int:=match σ[i]? with
 | some (some (.int y))=>y
 | _=>0
def N5(Pv:St->Hp->Prop)(μ : St->Nat)(tb:TS)(D:cR)(σ':St)(H1:Hp):Prop :=
 ∃M:St->Hp->Prop,(∀σ2 H2,M σ2 H2->∃m',m' < μ σ'/\(m' = μ σ2/\Pv σ2 H2))/\tb {D with nx:=M,ct:=M,bk:=D.nx} σ' H1
theorem UT(Pv:St->Hp->Prop)(μ : St->Nat)(h0:Pv σ H)
  (hs:∀σ' H',Pv σ' H'->c σ' H' λb H1=>if b=true then N5 Pv μ tb D σ' H1 else D.nx σ' H1):DW c tb D σ H:=by
 refine⟨λm σ H=>m = μ σ /\ Pv σ H,⟨_,rfl,h0⟩,?_⟩;rintro m σ H ⟨rfl,p⟩;exact hs σ H p
theorem U7{Pv:St->Hp->Prop}{μ : St->Nat}{σ':St}{H1:Hp}(h:tb {D with nx:=λσ2 H2=>μ σ2 < μ σ'/\Pv σ2 H2,ct:=λσ2 H2=>μ σ2 < μ σ'/\Pv σ2 H2,bk:=D.nx} σ' H1):N5 Pv μ tb D σ' H1 :=
 ⟨_,λσ2 H2 q=>⟨_,q.1,rfl,q.2⟩,h⟩
def M3(g:TG)(tb:TS)(D:cR)(σ : St)(vs:List V)(H1:Hp):Prop:=∃j:Int,vs=[.int j] /\ -(2^62)<=j/\j<2^62 /\
 ∃W:Nat->Nat->St->Hp->Prop,(∃m,W 0 m σ H1) /\ ∀i m σ H,W i m σ H ->
  ((gI 0 j.toNat).stop i H/\D.nx σ H)\/((gI 0 j.toNat).go i H /\ ∃M:St->Hp->Prop,(∀σ' H',M σ' H'->∃m',m'<m/\W (i+1) m' σ' H') /\ ∀x H',(gI 0 j.toNat).fD i H x H'->g x σ H' λσ2 H2=>tb {D with nx:=M,ct:=M,bk:=D.nx} σ2 H2)
theorem zBj{ta:TA}{g:TG}(h:ta σ H λvs H1=>M3 g tb D σ vs H1):ml (De ta) g tb D σ H:=h
theorem iX{g:TG}{n:Int}(h0 : -1000000000<=n)(h1:n<1000000000)(Pv:Nat->St->Hp->Prop)(p:Pv 0 σ H)
  (hs:∀(i:Nat) σ H,i<n.toNat->Pv i σ H->g (.int (i:Int)) σ H λσ2 H2=>tb {D with nx:=Pv (i+1),ct:=Pv (i+1),bk:=D.nx} σ2 H2)
  (hd:∀σ H,Pv n.toNat σ H->D.nx σ H):M3 g tb D σ [.int n] H:=by
 refine⟨n,rfl,by lia,by lia,Pf (lo:=0) Pv p (λi σ H hi q=>?_) hd⟩;have e:(0:Int)+(i:Int)=(i:Int):=by lia
 rw[e];exact hs i σ H hi q
end
def Fy(K:wa)(g:TG)(tb:TS)(D:cR)(σ : St)(x:V)(H1:Hp):Prop:=∃a,x=.ref a/\(∃xs,aE K H1 a xs) /\
 ∃W:Nat->Nat->St->Hp->Prop,(∃m,W 0 m σ H1) /\ ∀i m σ H,W i m σ H ->
  ((jI K a).stop i H/\D.nx σ H)\/((jI K a).go i H /\ ∃M:St->Hp->Prop,(∀σ' H',M σ' H'->∃m',m'<m/\W (i+1) m' σ' H') /\ ∀x H',(jI K a).fD i H x H'->g x σ H' λσ2 H2=>tb {D with nx:=M,ct:=M,bk:=D.nx} σ2 H2)
def T_(K:wa)(g:TG)(tb:TS)(D:cR)(σ : St)(x:V)(H1:Hp):Prop:=∃a,x=.ref a/\(∃xs,aT K H1 a xs) /\
 ∃W:Nat->Nat->St->Hp->Prop,(∃m,W 0 m σ H1) /\ ∀i m σ H,W i m σ H ->
  ((j8 K a).stop i H/\D.nx σ H)\/((j8 K a).go i H /\ ∃M:St->Hp->Prop,(∀σ' H',M σ' H'->∃m',m'<m/\W (i+1) m' σ' H') /\ ∀x H',(j8 K a).fD i H x H'->g x σ H' λσ2 H2=>tb {D with nx:=M,ct:=M,bk:=D.nx} σ2 H2)
section
variable{K:wa}{te:TE}{g:TG}{tb:TS}{D:cR}{σ : St}{H:Hp}{a:we}{xs:List V}
theorem zBL(h:te σ H λx H1=>Fy K g tb D σ x H1):ml (BM K te) g tb D σ H:=h
theorem lF(hx:aE K H a xs)(Pv:Nat->St->Hp->Prop)(h0:Pv 0 σ H)(hl:∀i σ H,i<=xs.length->Pv i σ H->aE K H a xs)
  (hs:∀i x σ H,xs[i]? = some x->Pv i σ H->g x σ H λσ2 H2=>tb {D with nx:=Pv (i+1),ct:=Pv (i+1),bk:=D.nx} σ2 H2) (hd:∀σ H,Pv xs.length σ H->D.nx σ H):Fy K g tb D σ (.ref a) H :=
 ⟨a,rfl,⟨xs,hx⟩,ZR Pv h0 hl hs hd⟩
theorem Ys(hx:aT K H a xs)(Pv:Nat->St->Hp->Prop)(h0:Pv 0 σ H)(hl:∀i σ H,i<=xs.length->Pv i σ H->aT K H a xs)
  (hs:∀i x σ H,xs[i]? = some x->Pv i σ H->g x σ H λσ2 H2=>tb {D with nx:=Pv (i+1),ct:=Pv (i+1),bk:=D.nx} σ2 H2) (hd:∀σ H,Pv xs.length σ H->D.nx σ H):T_ K g tb D σ (.ref a) H :=
 ⟨a,rfl,⟨xs,hx⟩,zAu Pv h0 hl hs hd⟩
end
theorem zC7{K:wa}{H:Hp}{a:we}{xs:List V}(hO:Aj H)(h:aE K H a xs):iW K H a xs:=by
 rcases h with(h | ⟨o,h⟩) | h
 ·rcases hO a with z | ⟨ob,ys,z⟩
  ·rw[h]at z;cases z
  ·rw[h]at z;cases z
 ·exact .inl ⟨o,h⟩
 ·exact .inr h
theorem OZ{K:wa}{H:Hp}{Q:VK}{a:we}{ns:List Int}{m:Int}(h:iW K H a (ns.map V.int))(h0:0<=m)(h1:m<((ns.map V.int).length:Int))(q:∀z,Q (.int z) H):c_ K (.ref a) (.int m) H Q:=by
 refine O_ (λv=>∃z,v=.int z) h.sq h0 h1 (λx hx=>?_) (λx hx=>?_)
 ·obtain⟨z,_,rfl⟩:=wR.mp hx
  exact⟨z,rfl⟩
 ·obtain⟨z,rfl⟩:=hx
  exact q z
section
variable{K:wa}{H H':Hp}{v:V}{d:wD}{a:we}{xs:List V}{o:HO}
theorem ar.back{H2:Hp}(b:ar H' H2)(s:ar H H'):ar H H2:=s.trans b
theorem a_.back{H2:Hp}(b:a_ H' H2)(s:a_ H H'):a_ H H2:=s.trans b
theorem Is.by(s:ar H H')(h:Is K H v d):Is K H' v d:=Is.same s d v h
theorem Is.Y7(h:Is K H v d)(s:ar H H'):Is K H' v d:=Is.same s d v h
theorem Is.YZ{r:Rat}(h:Is K H v (N r))(s:a_ H H'):Is K H' v (N r):=Is.keep s _ v (lG r) h
theorem Is.df{r:Rat}(s:a_ H H')(h:Is K H v (N r)):Is K H' v (N r):=Is.keep s _ v (lG r) h
theorem Is.ik(s:a_ H H')(i:di d=true)(h:Is K H v d):Is K H' v d:=Is.keep s _ v i h
end
def fv(X:Cx)(N':List Str)(scope:Scope)(cl:List (Str × we))(C:we)(s₀ : wm)(H₀ : Hp)(fp:List we)(pins:List (we × Obj)):Cx where
 prog:=X.prog
 w:=X.w
 K:=X.K
 mg:=X.mg
 base:=X.base
 A:=X.A
 N:=N'
 s₀:=s₀
 H₀:=H₀
 env:=compEnvC scope cl C X.env
 outer:=X.stack
 stack:=X.stack
 ex:=fp
 fn:=λ_=>false
 calm:=X.calm
 pn:=X.pn++pins
 xe:=λ_ _=>False
structure UQ(X:Cx)(scope:Scope)(cl:List (Str × we)):Prop where
 mi:closureFor scope X.env=pure cl
 sub:∀x c,cl.lookup x=some c->X.env.cells.lookup x=some c
 has:∀x,((relabel scope X.env).names.lookup x=some .cell\/(relabel scope X.env).names.lookup x=some .free)->∃c,cl.lookup x=some c
def dS(src:List (Option Nat))(σ : St):St:=src.map λo=>match o with
 | none=>none
 | some j=>(σ[j]?).join
def Sj(X:Cx)(N':List Str)(src:List (Option Nat)):Prop :=
 N'.length=src.length /\ ∀(i j:Nat)(x:Str),N'[i]? = some x->src[i]? = some (some j)->X.N[j]? = some x/\X.env.scope.names.lookup x=some .cell
section
variable{X:Cx}{pins:List (we × Obj)}{σ : St}{H:Hp}{s:wm}{N':List Str}{scope:Scope}{cl:List (Str × we)}{src:List (Option Nat)}{fp:List we}
theorem Inv.block{h₁ : wJ}{tk:Nat}(I:Inv X pins σ H s)(hk:scope.kind=.function)(cok:UQ X scope cl)(sok:Sj X N' src)(hf:∀b∈fp,eS X pins H b)(hlt:∀b∈fp,b<s.heap.objs.size)
  (hns:h₁.Ns s.heap.objs.size λ_=>none) (old:∀b o,s.heap.get? b=some o->h₁.get? b=some o)
  (hvis:∀(i:Nat) x,N'[i]? = some x->src[i]? ≠ some none->(relabel scope X.env).names.lookup x=some .cell\/(relabel scope X.env).names.lookup x=some .free) :
  Inv (fv X N' scope cl s.heap.objs.size s H fp pins) [] (dS src σ) H {s with heap:=h₁,toks:=tk}:=by
 have hfr:H s.heap.objs.size=none:=I.aM.fresh (wp _)
 have lP:∀x c,cl.lookup x=some c->c<s.heap.objs.size:=λx c e=>by
  obtain⟨v,q⟩:=I.cell x c (cok.sub x c e);exact q.lt
 have fplt:∀b∈fp,b ∉ d7 X.stack:=λb hb z=>by
  obtain⟨_,f1,f2,_⟩:=hf b hb;exact(wL.mp (I.nj b z)).elim f1 f2
 refine⟨⟨I.ok.mod,?_,I.ok.glob,I.ok.blt,wp _,λx y c h1 h2=>?_,λx hx=>?_,λx c hx=>?_,I.ok.hd,I.ok.frames,.inl rfl,λb hb=>⟨?_,λx c e=>?_⟩,I.bs,Wf I.ok.jx I.sz,λb o e=>?_,fplt,I.stack,I.sS⟩,
  rfl,I.bare,Un.kept old,⟨_,hns,λi x v h1 h2 h3=>?_⟩,λx c e=>?_,hfr,λx c e=>?_,λp hp=>?_,I.aM.kept old,?_⟩
 ·show(relabel scope X.env).kind=.function
  exact hk
 ·exact I.ok.inj x y c (cok.sub x c h1) (cok.sub y c h2)
 ·exact cok.has x hx
 ·exact absurd (show false=true from hx) vC
 ·exact wQ (hlt b hb)
 ·exact(hf b hb).2.2.2.2.1 x c (cok.sub x c e)
 ·intro hb
  obtain⟨_,_,_,f3,_⟩:=hf b hb;rcases f3 with z | z
  ·exact I.ok.kR b o e z
  ·exact absurd (wT (wC e) (Wf I.ok.jx z)) (W3 _)
 ·-- a name of the frame around
  have hsrc:∃j,src[i]? = some (some j) /\ σ[j]? = some (some v):=by
   unfold dS at h2;rw[wq]at h2;cases q:src[i]? with
   | none=>rw[q]at h2;cases h2
   | some o =>
    rw[q]at h2;cases o with
    | none=>cases h2
    | some j =>
     refine⟨j,rfl,?_⟩;have h2':(σ[j]?).join=some v:=wZ h2;cases q2 : σ[j]? with
     | none=>rw[q2]at h2';cases h2'
     | some z=>rw[q2]at h2';exact congrArg some h2'
  obtain⟨j,hj,hv⟩:=hsrc;obtain⟨hN,hc⟩:=sok.2 i j x h1 hj;obtain⟨m,_,hl⟩:=I.loc;obtain⟨u,ru,lk⟩:=hl j x v hN hv (.inr (.inl hc));refine⟨u,ru,.inr ⟨hvis i x h1 (by rw[hj];intro z;cases z),?_⟩⟩;rcases lk with⟨k,_⟩ | ⟨_,c,ec,hcell⟩
  ·have k':X.env.scope.names.lookup x=some .local:=k
   rw[hc]at k';cases k'
  ·obtain⟨c',ec'⟩:=cok.has x (hvis i x h1 (by rw[hj];intro z;cases z))
   have:=cok.sub x c' ec';rw[ec]at this;cases this;obtain⟨o,ho,hd⟩:=hcell;exact⟨c,ec',o,old c o ho,hd⟩
 ·obtain⟨v,o,ho,hd⟩:=I.cell x c (cok.sub x c e)
  exact⟨v,o,old c o ho,hd⟩
 ·exact I.gj x c (cok.sub x c e)
 ·have hp':p∈(X.pn++pins)++[]:=hp
  rw[vK]at hp';obtain⟨e,n,ne,nf,d⟩:=I.pin p hp';refine⟨old _ _ e,n,wQ (wC e),λz=>?_,d⟩;exact(wL.mp (I.nj p.1 z)).elim ne nf
 ·show(dS src σ).length=N'.length
  unfold dS;rw[wl,sok.1]
end
def UP:TT:=λ_ H Q=>Q true H
def r8(X:Cx)(ifs:List Expr)(t:TT):Prop :=
 ∀(pins:List (we × Obj))(s:wm)(σ : St)(H:Hp)(Q:Bool->Hp->Prop),Inv X pins σ H s->t σ H Q ->
  wt (model X.prog X.w) X.A (forIn ifs true λc r=>if r=true then do let ok <- isTrue c X.env (eval c X.env);pure (ForInStep.yield ok)else pure (ForInStep.yield r)) (TP X pins σ Q) X.xe s
theorem dF{X:Cx} : r8 X [] UP:=λ_ _ _ H _ I h=>wpAny_tests_nil ⟨H,I,h⟩
theorem lU{X:Cx}{c:Expr}{t:TT}(hc:PT X c t):r8 X [c] t:=λpins s σ H Q I h=>wpAny_tests_one (hc pins s σ H Q I h)
section
variable{prog:wH}{w:wM}{A:w9}{R:Result->wm->Prop}{s:wm}
theorem zq7{elt target iter:Expr}{ifs:List Expr}{scope:Scope}{pos:Pos}{it acc:wf}{env:Env}(I:Nat->wm->Prop)
   (turn:∀n s,I n s->wt (model prog w) A (pyNext it) (λr s₁=>match r with
     | none=>R (.ok .next) s₁
     | some v=>wt (model prog w) A (qr target it v) (λ_ s₁'=>wt (model prog w) A (assign target env v) (λ_ s₂ =>
         wt (model prog w) A (forIn ifs true λc r=>if r=true then do let ok <- isTrue c env (eval c env);pure (ForInStep.yield ok)else pure (ForInStep.yield r)) (λok s₃ =>
           if ok=true then wt (model prog w) A (eval elt env) (λx s₄ =>
             wt (model prog w) A (call (.builtin "list.append") [acc,x]) (λ_ s₅=>∃m,m<n/\I m s₅) (λ_ _=>False) s₄) (λ_ _=>False) s₃
           else ∃m,m<n/\I m s₃) (λ_ _=>False) s₂) (λ_ _=>False) s₁') (λ_ _=>False) s₁) (λ_ _=>False) s)
   (n:Nat) (h:I n s):codeAny (model prog w) A (.compLoop (.ListComp elt [⟨target,iter,ifs,0⟩] scope pos) 0 it acc env) R s:=by
 refine codeAny_loop rfl I (λn s hI=>?_) n h
 show wt _ A ((compTurn (.ListComp elt [⟨target,iter,ifs,0⟩] scope pos) 0 it acc env).onRaise (λx=>do noteFrame x env;theTreesLotGoes x)) _ _ s
 refine wpAny_noted ?_;rw[compTurn_list];refine wg (wpAny_standAt (wg (WE (turn n s hI) (λr s₁ h₁=>?_) λ_ _ h'=>h'.elim)));cases r with
 | none=>exact wy h₁
 | some v =>
   refine wg (WE h₁ (λ_ s₁' h₁'=>?_) λ_ _ h'=>h'.elim);refine wg (WE h₁' (λ_ s₂ h₂=>wg (WE h₂ (λok s₃ h₃=>?_) λ_ _ h'=>h'.elim)) λ_ _ h'=>h'.elim);cases ok with
   | false=>exact wy ⟨rfl,h₃⟩
   | true=>exact wg (wg (WE h₃ (λx s₄ h₄=>wg (WE h₄ (λ_ s₅ h₅=>wy (wy ⟨rfl,h₅⟩)) λ_ _ h'=>h'.elim)) λ_ _ h'=>h'.elim))
end
def kg(g:TG)(tt:TT)(te:TE)(J:It)(D:we)(σ0:St)(H0:Hp)(Q:Hp->Prop):Prop :=
 ∃W:Nat->Nat->St->Hp->Prop,(∃m,W 0 m σ0 H0) /\ ∀i m σ' H',W i m σ' H' ->
  (J.stop i H'/\Q H')\/(J.go i H' /\ ∃M:St->Hp->Prop,(∀σ2 H2,M σ2 H2->∃m',m'<m/\W (i+1) m' σ2 H2) /\
   ∀x H2,J.fD i H' x H2->g x σ' H2 λσ3 H3=>tt σ3 H3 λok H4=>if ok=true then te σ3 H4 λy H5=>∃ys,H5 D=some (.lst ys)/\ys.length<wY/\M σ3 (upd H5 D (.lst (ys++[y])))else M σ3 H4)
def kM(src:List (Option Nat))(wi:TI)(g:TG)(tt:TT)(te:TE):TE:=λσ H Q=>wi σ H λJ H1=>∀D,H1 D=none->kg g tt te J D (dS src σ) (upd H1 D (.lst [])) (λH'=>Q (.ref D) H')
structure ON(Y:Cx)(tg:Expr)(J:It)(fp:List we)(it:we)(tn:Nat->wJ->Prop):Prop where
 item:∀(i:Nat)(pins:List (we × Obj))(s:wm)(σ : St)(H:Hp)(E:wf->wm->Prop),Inv Y pins σ H s->(∀b∈fp,eS Y pins H b)->tn i s.heap->J.go i H ->
   wt (model Y.prog Y.w) Y.A (pyNext (.ref it)) (λr s1=>∃u,r=some u/\wt (model Y.prog Y.w) Y.A (qr tg (.ref it) u) (λ_ s2=>∃x H',Inv Y pins σ H' s2/\aZ x u/\J.fD i H x H'/\tn (i+1) s2.heap /\ ∀b∈fp,H' b=none) E s1) E s
 done:∀(i:Nat)(pins:List (we × Obj))(s:wm)(σ : St)(H:Hp)(E:wf->wm->Prop),Inv Y pins σ H s->(∀b∈fp,eS Y pins H b)->tn i s.heap->J.stop i H ->
   wt (model Y.prog Y.w) Y.A (pyNext (.ref it)) (λr s1=>r=none/\Inv Y pins σ H s1) E s
theorem jL.Sl{P:wH}{w:wM}{K:wa}{tg:Expr}{J:It}{fp:List we}{it:we}{tn:Nat->wJ->Prop}(T:jL P w K tg J fp it tn){Y:Cx}(h1:Y.prog=P)(h2:Y.w=w)(h3:Y.K=K)(hc:Y.calm=true):ON Y tg J fp it tn:=by
 subst h1 h2 h3;exact⟨T.item Y rfl rfl rfl hc,T.done Y rfl rfl rfl hc⟩
section
variable{X:Cx}{pins:List (we × Obj)}{σ : St}{H:Hp}{s:wm}{N':List Str}{scope:Scope}{cl:List (Str × we)}{src:List (Option Nat)}{elt tgt iter:Expr}{ifs:List Expr}{pos:Pos}{wi:TI}{g:TG}{tt:TT}{te:TE}
structure oO(X:Cx)(N':List Str)(scope:Scope)(cl:List (Str × we))(src:List (Option Nat)):Prop where
 kind:scope.kind=.function
 cell:∀y∈scope.names,y.2≠.cell
 names:∀y∈scope.names,y.2=.local->scope.names.lookup y.1=some .local
 mi:UQ X scope cl
 Y4:Sj X N' src
 Gs:∀(i:Nat) x,N'[i]? = some x->src[i]? ≠ some none->(relabel scope X.env).names.lookup x=some .cell\/(relabel scope X.env).names.lookup x=some .free
theorem ND{it:we}{fp:List we}{tn:Nat->wJ->Prop}{J:It}{RQ:we->Hp->Prop}{E:wf->wm->Prop}{RR:wf->we->Result->wm->Prop}
   (TC:∀C s₀ H₀,ON (fv X N' scope cl C s₀ H₀ fp pins) tgt J fp it tn) (ok:oO X N' scope cl src)
   (hg:∀C s₀ H₀ fp pins,PG (fv X N' scope cl C s₀ H₀ fp pins) tgt g) (ht:∀C s₀ H₀ fp pins,r8 (fv X N' scope cl C s₀ H₀ fp pins) ifs tt) (he:∀C s₀ H₀ fp pins,PE (fv X N' scope cl C s₀ H₀ fp pins) elt te)
   (I:Inv X pins σ H s) (T:jL X.prog X.w X.K tgt J fp it tn) (st:tn 0 s.heap) (hf:∀b∈fp,eS X pins H b)
   (rd:∀D,H D=none->kg g tt te J D (dS src σ) (upd H D (.lst [])) (λH'=>RQ D H'))
   (hRR:∀D C H' s' m,Inv X pins σ H' s'->s'.heap.Ns C m->eS X pins H' C->RQ D H'->RR (.ref D) C (.ok .next) s') :
   wt (model X.prog X.w) X.A (newList []) (λacc s₃=>wt (model X.prog X.w) X.A (newFunctionEnv scope X.env.globals cl [] X.env.qual none .none (some X.env)) (λcenv s₄ =>
     codeAny (model X.prog X.w) X.A (.compStart (.ListComp elt [⟨tgt,iter,ifs,0⟩] scope pos) 0 (.ref it) acc {cenv with scope:=relabel scope X.env}) (RR acc cenv.locals) s₄) E s₃) E s:=by
 refine WH ?_ (by show 0<=wY;exact VZ _);have hD:H s.heap.objs.size=none:=I.aM.fresh (wp _)
 have I3:Inv X pins σ (upd H s.heap.objs.size (.lst [])) {s with heap:=s.heap.push {cls:=.type "list",data:=.seq ([]:List wf).toArray}} :=
   I.Bl (ys:=[]) (its:=[]) (t':=s.toks) .nil (VZ _)
 have old3:∀b o,s.heap.get? b=some o->(s.heap.push {cls:=.type "list",data:=.seq ([]:List wf).toArray}).get? b=some o:=λb o e=>wn _ e
 have lt0:∀b∈fp,b<s.heap.objs.size:=λb hb=>by
   obtain⟨o,e,_⟩:=T.obj 0 _ st b hb;exact wC e
 have hf3:∀b∈fp,eS X pins (upd H s.heap.objs.size (.lst [])) b:=λb hb=>⟨by rw[eJ (wQ (lt0 b hb))];exact(hf b hb).1,(hf b hb).2⟩
 have lt3:∀b∈fp,b<(s.heap.push {cls:=.type "list",data:=.seq ([]:List wf).toArray}).objs.size:=λb hb=>by
   rw[V8];exact qN (lt0 b hb)
 have st3:tn 0 (s.heap.push {cls:=.type "list",data:=.seq ([]:List wf).toArray}):=T.keep _ _ _ st λb _ o e=>old3 b o e
 obtain⟨W,⟨m0,w0⟩,turn⟩:=rd _ hD;generalize hs3:({s with heap:=s.heap.push {cls:=.type "list",data:=.seq ([]:List wf).toArray}} : wm)=s3 at I3 ⊢;have hh3:s3.heap=s.heap.push {cls:=.type "list",data:=.seq ([]:List wf).toArray}:=by rw[<- hs3]
 rw[<- hh3]at lt3 st3;clear old3 hs3 hh3;generalize hD':s.heap.objs.size=D at *
 refine wpAny_newFunctionEnv ok.cell (by intro y hy;cases hy) (λh₁ hns₁ hsb₁=>?_) ok.kind;have old:∀b o,s3.heap.get? b=some o->h₁.get? b=some o:=λb o e=>hsb₁.extBut b o (wQ (wC e)) (wn _ e)
 have hC:eS X pins (upd H D (.lst [])) s3.heap.objs.size:=I3.kc (wp _) (I3.aM.fresh (wp _))
 have IB:∀tk,Inv (fv X N' scope cl s3.heap.objs.size s3 (upd H D (.lst [])) fp pins) [] (dS src σ) (upd H D (.lst [])) {s3 with heap:=h₁,toks:=tk}:=λtk =>
   I3.block ok.kind ok.mi ok.Y4 hf3 lt3 hns₁ old ok.Gs
 have stB:tn 0 h₁:=T.keep _ _ _ st3 λb _ o e=>old b o e
 have stat:∀{H':Hp} ,(∀b∈fp,H' b=none)->∀b∈fp,eS (fv X N' scope cl s3.heap.objs.size s3 (upd H D (.lst [])) fp pins) [] H' b:=λhn b hb=>by
   obtain⟨_,f1,f2,f3,f4,f5⟩:=hf3 b hb;refine⟨hn b hb,wQ (lt3 b hb),λz=>(wL.mp (I3.nj b z)).elim f1 f2,.inl hb,λx c e=>f4 x c (ok.mi.sub x c e),λp hp=>?_⟩;have hp':p∈(X.pn++pins)++[]:=hp;rw[vK]at hp';exact f5 p hp'
 have back:∀{σ':St}{H':Hp}{s':wm},Inv (fv X N' scope cl s3.heap.objs.size s3 (upd H D (.lst [])) fp pins) [] σ' H' s'->Inv X pins σ H' s'/\(∃m,s'.heap.Ns s3.heap.objs.size m)/\eS X pins H' s3.heap.objs.size:=λ{σ' H' s'} J=>by
   obtain⟨m,hn,_⟩:=J.loc;refine⟨I3.Kv (ch:=fp) J.os J.base J.aM J.bare (λb hb=>?_),⟨m,hn⟩,⟨J.free,hC.2⟩⟩;obtain⟨_,f1,_,f3,f4,f5⟩:=hf3 b hb;exact⟨f3,f1,f4,f5⟩
 have loop:∀tk,codeAny (model X.prog X.w) X.A (.compLoop (.ListComp elt [⟨tgt,iter,ifs,0⟩] scope pos) 0 (.ref it) (.ref D) (compEnvC scope cl s3.heap.objs.size X.env)) (RR (.ref D) s3.heap.objs.size) {s3 with heap:=h₁,toks:=tk}:=by
   intro tk
   refine zq7 (λn s'=>∃i σ' H',Inv (fv X N' scope cl s3.heap.objs.size s3 (upd H D (.lst [])) fp pins) [] σ' H' s'/\tn i s'.heap/\(∀b∈fp,H' b=none)/\W i n σ' H') ?_ m0
     ⟨0,_,_,IB tk,stB,λb hb=>(hf3 b hb).1,w0⟩
   rintro n s4 ⟨i,σ4,H4,I4,st4,fr4,w4⟩;rcases turn i n σ4 H4 w4 with⟨stop,q⟩ | ⟨go,M,hM,step⟩
   . refine aP ((TC _ _ _).done i [] s4 σ4 H4 (λ_ _=>False) I4 (stat fr4) st4 stop) λr s5 ⟨hr,I5⟩=>?_
     subst hr;obtain⟨J,⟨m,hn⟩,hCf⟩:=back I5;exact hRR D _ H4 s5 m J hn hCf q
   . refine aP ((TC _ _ _).item i [] s4 σ4 H4 (λ_ _=>False) I4 (stat fr4) st4 go) λr s5 ⟨u,hr,h5⟩=>?_
     subst hr;refine aP h5 λ_ s6 ⟨x,H6,I6,r6,y6,st6,fr6⟩=>?_
     have I6':=I6.pinned (stat fr6) (T.obj _ _ st6)
     have again:∀{σ7:St}{H7:Hp}{s7:wm},Inv (fv X N' scope cl s3.heap.objs.size s3 (upd H D (.lst [])) fp pins) ([]++sA fp s6.heap) σ7 H7 s7->M σ7 H7 ->
         ∃m,m<n /\ ∃i σ' H',Inv (fv X N' scope cl s3.heap.objs.size s3 (upd H D (.lst [])) fp pins) [] σ' H' s7/\tn i s7.heap/\(∀b∈fp,H' b=none)/\W i m σ' H':=λ{σ7 H7 s7} I7 n7=>by
       obtain⟨m',hm,w7⟩:=hM σ7 H7 n7;refine⟨m',hm,i+1,σ7,H7,I7.sQ,T.keep _ _ _ st6 λb hb o e=>(I7.pin (b,o) (Wg _ (Wg _ (zb hb e)))).1,λb hb=>?_,w7⟩;obtain⟨o,e,d⟩:=T.obj _ _ st6 b hb;exact(I7.pin (b,o) (Wg _ (Wg _ (zb hb e)))).2.1
     refine aP (hg _ _ _ _ _ _ s6 σ4 H6 x u _ I6' r6 (step x H6 y6)) λ_ s7 ⟨σ7,H7,I7,q7⟩=>?_
     refine aP (ht _ _ _ _ _ _ s7 σ7 H7 _ I7 q7) λk s8 ⟨H8,I8,q8⟩=>?_
     cases k with
     | false=>exact again I8 q8
     | true =>
       rw[if_pos rfl]at q8 ⊢;refine aP (he _ _ _ _ _ _ s8 σ7 H8 _ I8 q8) λy s9 ⟨yv,H9,I9,r9,ys,hys,hz,q9⟩=>?_
       exact aP (iJ _ s9 σ7 H9 (.ref D) [yv] (.ref D) [y] (λ_ H'=>M σ7 H') I9 rfl (.cons r9 .nil) ⟨D,ys,yv,rfl,rfl,hys,hz,q9⟩) λ_ s10 ⟨_,H10,I10,_,q10⟩=>again I10 q10
 exact codeAny_compStart_list (loop _) (T.self _ _ _ _ _ stB (loop _))
theorem dH(hc:X.calm=true)(ok:oO X N' scope cl src)(hi:PI X tgt iter wi)
  (hg:∀C s₀ H₀ fp pins,PG (fv X N' scope cl C s₀ H₀ fp pins) tgt g) (ht:∀C s₀ H₀ fp pins,r8 (fv X N' scope cl C s₀ H₀ fp pins) ifs tt) (he:∀C s₀ H₀ fp pins,PE (fv X N' scope cl C s₀ H₀ fp pins) elt te)
  (hs:∀x,foldedSetIterable iter X.env x=pure x:=by intro _;rfl):PE X (.ListComp elt [⟨tgt,iter,ifs,0⟩] scope pos) (kM src wi g tt te):=by
 intro pins s σ H Q I h;rw[eval_ListComp];refine wpAny_comprehension_free (use:=none) rfl hs ok.mi.mi ok.kind ok.names (aP (hi pins s σ H _ I h) λv s1 h1=>aP h1 λitv s2 h2=>?_);obtain⟨it,fp,tn,J,H2,e,I2,T,st2,f2,rd⟩:=h2;subst e;refine ND (RQ:=λD H'=>Q (.ref D) H') (RR:=λacc C=>compPost (model X.prog X.w) X.A X.xe none (EP X pins σ Q) acc C) (λ_ _ _=>T.Sl rfl rfl rfl hc) ok hg ht he I2 T st2 f2 rd ?_;intro D C H' s' m J hn hC q;obtain⟨c0,c1,_,c3,c4,c5⟩:=hC;exact⟨m,hn,λh' sb=>⟨.ref D,H',J.turned (t':=s'.toks) (λb o hb e=>(sb.2 b hb).trans e) c0 c1 c3 c4 c5,rfl,q⟩⟩
theorem jR{i:Nat}{y:Str}{py spos:Pos}(hN:X.N.Nodup)(hy:X.N[i]? = some y)(hly:Loc X.env.scope y)(hc:X.calm=true)(ok:oO X N' scope cl src)(hi:PI X tgt iter wi)
  (hg:∀C s₀ H₀ fp pins,PG (fv X N' scope cl C s₀ H₀ fp pins) tgt g) (ht:∀C s₀ H₀ fp pins,r8 (fv X N' scope cl C s₀ H₀ fp pins) ifs tt) (he:∀C s₀ H₀ fp pins,PE (fv X N' scope cl C s₀ H₀ fp pins) elt te)
  (hsw:swapsWith (.ListComp elt [⟨tgt,iter,ifs,0⟩] scope pos) (some (.Name y py)) spos.line X.env=pure true:=by rfl)
  (hs:∀x,foldedSetIterable iter X.env x=pure x:=by intro _;rfl) (hf:X.fn y=true\/X.env.scope.names.lookup y=some .local:=by first | exact .inl rfl | exact .inr rfl | assumption) :
  PS X (.Assign [.Name y py] (.ListComp elt [⟨tgt,iter,ifs,0⟩] scope pos) spos) (kq (kM src wi g tt te) (gY i)):=by
 intro pins s σ H D0 I h;rw[exec_Assign_Name_used _ _ _ _ hsw];refine wg (wpAny_standAt (wg ?_))
 show wt _ X.A (do let _ <- comprehension (.ListComp elt [⟨tgt,iter,ifs,0⟩] scope pos) scope X.env _ (newList []) false (eval iter X.env) (some (assign (.Name y py) X.env))) _ _ s
 refine wg (WE (wpAny_comprehension_free (Q:=λ_ s'=>SP X pins D0 .next s') rfl hs ok.mi.mi ok.kind ok.names (aP (hi pins s σ H _ I h) λv s1 h1=>aP h1 λitv s2 h2=>?_))
  (λ_ s' hq=>wy (wy hq)) λ_ _ e=>e)
 obtain⟨it,fp,tn,J,H2,e,I2,T,st2,f2,rd⟩:=h2;subst e;refine ND (RQ:=λD H'=>gY i (.ref D) σ H' D0.nx) (RR:=λacc C=>compPost (model X.prog X.w) X.A X.xe (some (assign (.Name y py) X.env)) (λ_ s'=>SP X pins D0 .next s') acc C) (λ_ _ _=>T.Sl rfl rfl rfl hc) ok hg ht he I2 T st2 f2 rd ?_;intro D C H' s' m J hn hC q;obtain⟨c0,c1,_,c3,c4,c5⟩:=hC
 show wt _ _ (assign (.Name y py) X.env (.ref D)) _ _ s'
 refine wpAny_assign_Name (Nh J hN hy hly (v:=.ref D) rfl (λs'' J2 ⟨a,sb,ha⟩=>?_) hf)
 have hCa:C≠a:=by
  rcases ha with z | z
  ·rw[z];exact c1
  ·exact(c4 y a z).symm
 exact⟨m,hn.sameBut sb hCa,λh' sb'=>⟨_,H',J2.turned (t':=s''.toks) (λb o hb e=>(sb'.2 b hb).trans e) c0 c1 c3 c4 c5,q⟩⟩
end
variable{T b:we}
abbrev R4(h B:wJ)(e:we)(cls:wf):Prop :=
 ∃oe vs,h.get? e=some oe/\oe.cls=cls/\oe.data=.fields vs/\vs[1]? = some .none/\vs[2]? = some .none/\oe.dict=none/\B.get? e=none
abbrev U4(h B:wJ)(e:we)(cls fl:wf):Prop :=
 ∃oe vs T oT ts,h.get? e=some oe/\oe.cls=cls/\oe.data=.fields vs/\vs[1]? = some (.ref T)/\vs[2]? = some .none/\oe.dict=none/\B.get? e=none/\B.get? T=none/\T≠e/\h.get? T=some oT/\oT.data=.fields ts/\ts[3]? = some fl
structure ft(B:wJ)(l:List Env)(e:we)(cls fl:wf)(h:wJ):Prop where
 st:B.StaysIn h
 fr:h.FunFrames B l
 tr:U4 h B e cls fl
theorem ztl{f:Array wf->Array wf}(o:Obj):(qV f o).dict=o.dict:=by
 obtain⟨c,d,dt,sl⟩:=o;cases dt<;>rfl
theorem mU{h:wJ}{f:Obj->Obj}(n:b≠T):(h.update T f).get? b=h.get? b:=qT _ _ (WB n)
theorem oA{h:wJ}{oT o:Obj}{ts:Array wf}(hT:h.get? T=some oT)(dT:oT.data=.fields ts)(hb:h.get? b=some o)(hn:∀vs,o.data≠.fields vs):b≠T:=by
 rintro rfl;rw[hT]at hb;cases hb;exact hn _ dT
theorem Dj{B:wJ}{o:Obj}(n:B.get? T=none)(q:B.get? b=some o):b≠T:=by
 rintro rfl;rw[n]at q;cases q
section
variable{M:Model}{A:w9}{E:wf->wm->Prop}{s:wm}{B:wJ}{l outer:List Env}{env:Env}{L e:we}{cls fl:wf}{Q:Unit->wm->Prop}
theorem ft.land(F:ft B l e cls fl s.heap)(k:∀h',ft B l e cls .none h'->s.heap.UpToSlots h'->Q () {s with heap:=h'}):wt M A (setFlight (.ref e) none) Q E s:=by
 obtain⟨st,fr,oe,vs,T,oT,ts,he,hc,hd,h1,h2,hdi,be,bT,ne,hT,dT,h3⟩:=F;have sz:3<ts.size:=(WT.mp h3).1;unfold setFlight;refine wg (vv he hd h1 ?_);rw[if_pos (by simp)];have at3:∀b,b≠T->(s.heap.update T (qV (·.setIfInBounds 3 Value.none))).get? b=s.heap.get? b:=λb n=>mU n
 have tr:U4 (s.heap.update T (qV (·.setIfInBounds 3 Value.none))) B e cls .none :=
  ⟨oe,vs,T,qV (·.setIfInBounds 3 Value.none) oT,ts.setIfInBounds 3 Value.none,(at3 e ne.symm).trans he,hc,hd,h1,h2,hdi,be,bT,ne,
   V3 _ hT (V9 (VW dT _)),VW dT _,by simp[sz]⟩
 refine wpAny_setField hT dT sz (k _ ⟨λb o q=>(at3 b (Dj bT q)).trans (st b o q),fr.of_keeps λb o hb hn=>⟨o,(at3 b (oA hT dT hb hn)).trans hb,rfl⟩,tr⟩ λb o hb hn=>⟨o.slots,(at3 b (oA hT dT hb hn)).trans hb⟩)
theorem Mf{oe:Obj}{vs:Array wf}{head:wf}{had:Bool}(hfr:A.frames=some (env::outer))(hf:env.frame=some L)(st:B.StaysIn s.heap)(fr:s.heap.FunFrames B (env::outer))(he:s.heap.get? e=some oe)
  (hd:oe.data=.fields vs) (sz:1<vs.size) (h2:vs[2]? = some .none) (hdi:oe.dict=none) (be:B.get? e=none) (k:∀h',ft B (env::outer) e oe.cls (Va L) h'->s.heap.UpToSlots h'->Q () {s with heap:=h'}) :
  wt M A (do let a <- frameOf env;let pl <- entryPlaceOf L had;let b <- xM head a .none (Va L) .none pl;setField (.ref e) 1 b) Q E s:=by
 have nfr:e ∉ (env::outer).filterMap (·.frame):=λz=>by
  obtain⟨_,o,ho,hnf⟩:=fr.mem z;rw[he]at ho;cases ho;exact hnf vs hd
 refine wg (wpAny_frameOf_fun hfr fr hf λg sg=>wg (wpAny_entryPlaceOf λpl hpl=>?_));unfold xM newFields;refine wg (WH ?_ (hpl.sizeOk5 _ _ _ _ _));have eg:g.get? e=some oe:=(sg.2.1 e nfr).trans he
 have stg:B.StaysIn g:=λb o q=>by
  rw[sg.2.1 b λz=>?_]
  ·exact st b o q
  ·rw[(fr.mem z).1]at q;cases q
 generalize hob:({cls:=.type "traceback",data:=.fields ([head,.ref L,.none,Va L,.none]++(if pl.isEmpty then vf 6 Value.none else pl)).toArray} : Obj)=tb;have dtb:tb.data=.fields ([head,.ref L,.none,Va L,.none]++(if pl.isEmpty then vf 6 Value.none else pl)).toArray:=by rw[<- hob]
 have ftb:tb.isFreed=false:=V9 dtb;have e2:=wn (h:=g) tb eg;have neT:g.objs.size≠e:=vg (wC eg)
 have at3:∀b o,b≠e->g.get? b=some o->((g.push tb).update e (qV (·.setIfInBounds 1 (.ref g.objs.size)))).get? b=some o:=λb o n q=>by
  rw[mU n];exact wn _ q
 refine wpAny_setField e2 hd sz (k _ ?_ ?_)
 ·have d3:=VW hd (·.setIfInBounds 1 (Value.ref g.objs.size))
  refine⟨λb o q=>at3 b o (Dj be q) (stg b o q),fr.of_keeps λb o hb hn=>?_,_,_,g.objs.size,tb,_,V3 _ e2 (V9 d3),Xp _ _,d3,by simp[sz],?_,?_,be,stg.fresh,neT,?_,dtb,?_⟩
  ·obtain⟨sl,q⟩:=sg.2.2 b o hb
   exact⟨_,at3 b _ (oA he hd hb hn) q,rfl⟩
  ·rw[Array.getElem?_setIfInBounds_ne (by decide)];exact h2
  ·exact(ztl oe).trans hdi
  ·rw[mU neT];exact wO _ ftb
  ·first | (simp;done) | (rcases hpl with rfl | ⟨_,_,_,_,_,_,_,rfl⟩<;>simp)
 ·exact λb o hb hn=>by
   obtain⟨sl,q⟩:=sg.2.2 b o hb;exact⟨sl,at3 b _ (oA he hd hb hn) q⟩
theorem zxu(hfr:A.frames=some (env::outer))(hf:env.frame=some L)(st:B.StaysIn s.heap)(fr:s.heap.FunFrames B (env::outer))(t:R4 s.heap B e cls)
  (k:∀h',ft B (env::outer) e cls (Va L) h'->s.heap.UpToSlots h'->Q () {s with heap:=h'}):wt M A (noteFrame (.ref e) env) Q E s:=by
 obtain⟨oe,vs,he,hc,hd,h1,h2,hdi,be⟩:=t;subst hc;unfold noteFrame;simp only[hf];refine wg (vv he hd h1 ?_);rw[if_neg (by decide)];exact Mf hfr hf st fr he hd (WT.mp h1).1 h2 hdi be k
theorem ft.note(F:ft B (env::outer) e cls .none s.heap)(hfr:A.frames=some (env::outer))(hf:env.frame=some L)
  (k:∀h',ft B (env::outer) e cls (Va L) h'->s.heap.UpToSlots h'->Q () {s with heap:=h'}):wt M A (noteFrame (.ref e) env) Q E s:=by
 obtain⟨st,fr,oe,vs,T,oT,ts,he,hc,hd,h1,h2,hdi,be,bT,ne,hT,dT,h3⟩:=F;subst hc;unfold noteFrame;simp only[hf];refine wg (vv he hd h1 ?_);rw[if_pos (by simp)];refine wg (vv hT dT h3 ?_);rw[if_neg (by simp[Va])];refine wg (wpAny_setField hT dT (WT.mp h3).1 ?_);refine Mf hfr hf (λb o q=>?_) (fr.of_keeps λb o hb hn=>⟨o,?_,rfl⟩) ?_ hd (WT.mp h1).1 h2 hdi be λh' F' sm=>k h' F' λb o hb hn=>sm b o ?_ hn
 ·show(xj _ _ _).get? b=_
  rw[mU (Dj bT q)];exact st b o q
 ·show(xj _ _ _).get? b=_
  rw[mU (oA hT dT hb hn)];exact hb
 ·show(xj _ _ _).get? e=_
  rw[mU ne.symm];exact he
 ·show(xj _ _ _).get? b=_
  rw[mU (oA hT dT hb hn)];exact hb
theorem zul(hfr:A.frames=some (env::outer))(hf:env.frame=some L)(st:B.StaysIn s.heap)(fr:s.heap.FunFrames B (env::outer))(t:R4 s.heap B e cls)
  (k:∀h',ft B outer e cls .none h'->s.heap.UpToSlots h'->Q () {s with heap:=h'}):wt M A (leaving env (.ref e)) Q E s:=by
 unfold leaving;refine wg (zxu hfr hf st fr t λh1 F1 s1=>ft.land F1 λh2 F2 s2=>k h2 ⟨F2.st,F2.fr.2.2,F2.tr⟩ (s1.trans s2))
theorem ft.leave(F:ft B (env::outer) e cls .none s.heap)(hfr:A.frames=some (env::outer))(hf:env.frame=some L)
  (k:∀h',ft B outer e cls .none h'->s.heap.UpToSlots h'->Q () {s with heap:=h'}):wt M A (leaving env (.ref e)) Q E s:=by
 unfold leaving;refine wg (F.note hfr hf λh1 F1 s1=>ft.land F1 λh2 F2 s2=>k h2 ⟨F2.st,F2.fr.2.2,F2.tr⟩ (s1.trans s2))
end
theorem dR.there{P:wH}{w:wM}{H:Hp}{h:wJ}{a:we}{o:HO}(x:dR P w H h a o):∃u,h.get? a=some u:=by
 cases o with
 | lst xs=>obtain⟨_,_,_,_,e⟩:=x;exact⟨_,e⟩
 | tup xs=>obtain⟨_,_,_,_,e,_⟩:=x;exact⟨_,e⟩
 | dK kvs=>obtain⟨_,_,_,_,o,_,_,e,_⟩:=x;exact⟨_,e⟩
 | dT kvs=>obtain⟨_,_,_,_,o,_,_,e,_⟩:=x;exact⟨_,e⟩
 | set S n=>obtain⟨o,_,_,_,e,_⟩:=x;exact⟨_,e⟩
 | ins C dx fs=>obtain⟨_,_,_,e,_⟩:=x;exact⟨_,e⟩
 | own y=>exact x
 | xd fs=>obtain⟨_,⟨_,_,_,e,_⟩,_⟩:=x;exact⟨_,e⟩
 | yB lo hi=>obtain⟨_,_,_,e⟩:=x;exact⟨_,e⟩
 | gK ob u=>obtain⟨e,_⟩:=x;exact⟨_,e⟩
 | lJ ps=>exact⟨_,x⟩
 | met f y=>exact⟨_,x⟩
 | ext φ=>obtain⟨_,e,_⟩:=x;exact e
structure nM(B:wJ)(fs:List we)(H H':Hp)(h:wJ):Prop where
 jj:∀a o,H' a=some o->∃u,B.get? a=some u
 old:∀b o,h.get? b=some o->H b=none->b ∉ fs->B.get? b=some o
 pY:∀b o,h.get? b=some o->b ∉ fs->∃u,B.get? b=some u
def ff(P:wH)(w:wM):fX:=λouter H s E e s'=>∃(ex:we)(C:wf)(H':Hp)(B:wJ),e=.ref ex/\s'.os=s.os/\AllBare s'.gens/\Un (d7 outer) [] H H' s.heap s'.heap/\dw P w H' s'.heap /\
 ft B outer ex C .none s'.heap/\nM B (d7 outer) H H' s.heap/\E C none H'
section
variable{B h h1 h':wJ}{fs:List we}{H H':Hp}{P:wH}{w:wM}
theorem nM.un(ov:nM B fs H H' h)(un:Un fs [] H H' h h1)(hfs:∀b∈fs,H b=none /\ ∃o,h.get? b=some o /\ ∀vs,o.data≠.fields vs)(st:B.StaysIn h')(sm:h1.UpToSlots h'):Un fs [] H H' h h':=by
 have slot:∀b o,h.get? b=some o->b∈fs->∃sl,h'.get? b=some {o with slots:=sl}:=λb o e hb=>by
  obtain⟨n,o',ho',nr⟩:=hfs b hb;rw[e]at ho';cases ho';obtain⟨sl,e1⟩:=un.any e n (by simp);obtain⟨sl2,e2⟩:=sm b _ e1 nr;exact⟨sl2,e2⟩
 refine⟨λb o e n nf _=>st b o (ov.old b o e n nf),λb o e _ hb _=>slot b o e hb,un.free,λb o e _=>?_,un.iU,un.iu,un.iT⟩
 by_cases hb:b∈fs
 ·obtain⟨sl,e1⟩:=slot b o e hb
  exact⟨_,e1⟩
 ·obtain⟨u,e1⟩:=ov.pY b o e hb
  exact⟨u,st b u e1⟩
theorem nM.aM(ov:nM B fs H H' h)(aM:dw P w H' h1)(st1:B.StaysIn h1)(st:B.StaysIn h'):dw P w H' h':=λa o e=>by
 refine(aM a o e).kQ (λb u hb r=>?_) (λ_ z=>z) λ_ _ z=>z
 have:∃v,B.get? b=some v:=by
  rcases hb with rfl | hb
  ·exact ov.jj _ _ e
  ·exact ov.jj _ _ hb
 obtain⟨v,ev⟩:=this;have e2:=st1 b v ev;rw[r]at e2;cases e2;exact st b u ev
end
section
variable{X:Cx}{pins:List (we × Obj)}{σ : St}{H H':Hp}{s s':wm}{B:wJ}{ex:we}{C:wf}{E:XK}{E':wf->wm->Prop}
theorem Np(I:Inv X pins σ H s)(hx:X.ex=[])(os:s'.os=s.os)(bare:AllBare s'.gens)(un:Un (d7 X.stack) [] H H' s.heap s'.heap)(aM:dw X.prog X.w H' s'.heap)(stB:B.StaysIn s'.heap)(ov:nM B (d7 X.stack) H H' s.heap)
  (q:E C none H') (fly:∀(Q:Unit->wm->Prop),(∀h',ft B X.outer ex C .none h'->s'.heap.UpToSlots h'->Q () {s' with heap:=h'})->wt (model X.prog X.w) X.A (leaving X.env (.ref ex)) Q E' s') :
  wt (model X.prog X.w) X.A (leaving X.env (.ref ex)) (λ_ s''=>ff X.prog X.w X.outer X.H₀ X.s₀ E (.ref ex) s'') E' s':=by
 have base:Un X.fs [] X.H₀ H X.s₀.heap s.heap:=by have:=I.base;rwa[hx]at this
 have nL:∀b o,X.s₀.heap.get? b=some o->b ∉ X.fs->b ∉ d7 X.stack:=λb o e n z=>by
  rcases wL.mp (I.nj b z)with r | r
  ·exact wQ (wT (wC e) I.ok.above) r
  ·exact n r
 have old:∀b o,X.s₀.heap.get? b=some o->X.H₀ b=none->b ∉ X.fs->B.get? b=some o:=λb o e n nf =>
  ov.old b o (base.keep b o e n nf (by simp)) (base.free b o e n (by simp)) (nL b o e nf)
 have pY:∀b o,X.s₀.heap.get? b=some o->b ∉ X.fs->∃u,B.get? b=some u:=λb o e nf=>by
  obtain⟨o',e1⟩:=base.there b o e (by simp);exact ov.pY b o' e1 (nL b o e nf)
 refine fly _ λh' F sm=>⟨ex,C,H',B,rfl,os.trans I.os,bare,⟨λb o e n nf _=>F.st b o (old b o e n nf),λb o e n hb _=>?_,λb o e n _=>?_,λb o e _=>?_,λb xs e=>un.iU b xs (base.iU b xs e),
  λb o u e=>un.iu b o u (base.iu b o u e),λb ps e=>?_⟩,λa o e=>?_,F,⟨ov.jj,old,pY⟩,q⟩
 ·obtain⟨sl,e1⟩:=base.slot b o e n hb (by simp)
  obtain⟨sl',e2⟩:=un.any e1 (base.free b o e n (by simp)) (by simp);obtain⟨_,o',ho',nr⟩:=I.ok.fk.mem hb;rw[e]at ho';cases ho';obtain⟨sl2,e3⟩:=sm b _ e2 nr;exact⟨sl2,e3⟩
 ·obtain⟨o',e1⟩:=base.there b o e (by simp)
  exact un.free b o' e1 (base.free b o e n (by simp)) (by simp)
 ·by_cases hb:b∈X.fs
  ·obtain⟨_,o',ho',nr⟩:=I.ok.fk.mem hb
   rw[e]at ho';cases ho';have n:X.H₀ b=none:=I.ok.jG b hb;obtain⟨sl,e1⟩:=base.slot b o e n hb (by simp);obtain⟨sl',e2⟩:=un.any e1 (base.free b o e n (by simp)) (by simp);obtain⟨sl2,e3⟩:=sm b _ e2 nr;exact⟨_,e3⟩
  ·obtain⟨u,e1⟩:=pY b o e hb
   exact⟨u,F.st b u e1⟩
 ·obtain⟨m1,e1⟩:=base.iT b ps e
  obtain⟨m2,e2⟩:=un.iT b _ e1;exact⟨m1++m2,by rw[e2,xU]⟩
 ·refine(aM a o e).kQ (λb u hb r=>?_) (λ_ z=>z) λ_ _ z=>z
  have:∃v,B.get? b=some v:=by
   rcases hb with rfl | hb
   ·exact ov.jj _ _ e
   ·exact ov.jj _ _ hb
  obtain⟨v,ev⟩:=this;have e2:=stB b v ev;rw[r]at e2;cases e2;exact F.st b u ev
theorem zxz{e:wf}(I:Inv X pins σ H s)(hx:X.ex=[])(hs:X.stack=X.env::X.outer)(hf:X.env.frame=some X.env.locals)(h:ff X.prog X.w X.stack H s E e s') :
  wt (model X.prog X.w) X.A (leaving X.env e) (λ_ s''=>ff X.prog X.w X.outer X.H₀ X.s₀ E e s'') E' s':=by
 obtain⟨ex,C,H',B,rfl,os,bare,un,aM,F,ov,q⟩:=h;rw[hs]at F;exact Np I hx os bare un aM F.st ov q λQ k=>F.leave (I.ok.frames.trans (congrArg some hs)) hf k
theorem zuv{h':wJ}{vs:List wf}(I:Inv X pins σ H s)(hx:X.ex=[])(hs:X.stack=X.env::X.outer)(hf:X.env.frame=some X.env.locals)(m:uh s.heap h' ex C vs)(q:E C none H) :
  wt (model X.prog X.w) X.A (leaving X.env (.ref ex)) (λ_ s''=>ff X.prog X.w X.outer X.H₀ X.s₀ E (.ref ex) s'') E' {s with heap:=h'}:=by
 obtain⟨B,hB⟩:∃B,B=XX s.heap (d7 X.stack):=⟨_,rfl⟩;have hin:∀env∈X.stack,∀b,env.frame=some b->b∈d7 X.stack:=λenv he b hb=>Qt.mpr ⟨env,he,hb⟩
 have frB:s.heap.FunFrames B X.stack:=by rw[hB];exact PySem.W.funFrames_hide I.stack hin
 have getB:∀{b o},s.heap.get? b=some o->b ∉ d7 X.stack->B.get? b=some o:=λe n=>by rw[hB];exact xI _ e n
 have ofB:∀{b o},B.get? b=some o->s.heap.get? b=some o:=λr=>by rw[hB]at r;exact xT _ r
 have nfr:∀a o,H a=some o->a ∉ d7 X.stack:=λa o e z=>by
  have:=I.sS a z;rw[e]at this;cases this
 obtain⟨t,he,_,_⟩:=m.there
 refine Np (B:=B) (s':={s with heap:=h'}) I hx rfl I.bare (Un.kept m.keeps) (I.aM.kept m.keeps) (λb o r=>m.keeps b o (ofB r))
  ⟨λa o e=>?_,λb o e _ nf=>getB e nf,λb o e nf=>⟨o,getB e nf⟩⟩ q λQ k=>?_
 ·obtain⟨u,e1⟩:=(I.aM a o e).there
  exact⟨u,getB e1 (nfr a o e)⟩
 ·rw[hs]at frB
  refine zul (s:={s with heap:=h'}) (I.ok.frames.trans (congrArg some hs)) hf (λb o r=>m.keeps b o (ofB r)) (frB.of_keeps λb o hb _=>⟨o,m.keeps b o hb,rfl⟩) ⟨_,_,he,rfl,rfl,rfl,rfl,rfl,?_⟩ k;cases z:B.get? ex with
  | none=>rfl
  | some o =>
   have:=ofB z;rw[m.new]at this;cases this
end
variable{K:wa}{base:wJ}{qual:Str}
theorem zS{P:wH}{w:wM}{mg:Str->Option wf}{N:List Str}{scope:Scope}{f:we}{cd:wf}{A:w9}{outer:List Env}{s:wm}{H:Hp}{E:XK} :
  nZ (ff P w) (jd (ff P w) P w K mg base N qual scope f cd A outer s H E) E:=λpins σ H1 s1 e s' I h=>zxz I rfl rfl rfl h
def R5(X:Cx)(C:wf)(E:XK):Prop:=∀(pins:List (we × Obj))(σ : St)(H:Hp)(s:wm)(h':wJ)(ex:we)(vs:List wf),Inv X pins σ H s->uh s.heap h' ex C vs->E C none H->X.xe (.ref ex) {s with heap:=h'}
theorem U5{P:wH}{w:wM}{mg:Str->Option wf}{N:List Str}{scope:Scope}{f:we}{cd C:wf}{A:w9}{outer:List Env}{s:wm}{H:Hp}{E:XK} :
  R5 (jd (ff P w) P w K mg base N qual scope f cd A outer s H E) C E:=λpins σ H1 s1 h' ex vs I m q=>zuv I rfl rfl rfl m q
def pD:List wf:=[.type "ValueError",.type "Exception",.type "BaseException",.type "object"]
theorem zAV{h:wJ}{C:we}{bmB:List wf}{newId:String}(X:K.In h)(q:VR K C bmB newId=true) :
  ∃bm N nm qn bs hd sn sub ab col dd k0 k1 k2 k3 k5 mN,h.get? C=some (excClassObj nm qn C N bs bm hd sn sub ab col dd k0 k1 k2 k3 k5 newId)/\h.Ns N mN/\mN "__init__"=none/\OwnTail h bmB bm:=by
 unfold VR at q
 split at q
 case h_2=>cases q
 rename_i dd cd sl ho
 split at q
 case h_2=>cases q
 rename_i C' bm k0 k1 k2 k3 n k5 hm hs;simp only[wV,beq_iff_eq,WO]at q;obtain⟨⟨⟨⟨⟨rfl,rfl⟩,hdel⟩,ht⟩,aM⟩,hni⟩:=q;obtain⟨nm,bs,mro,ns,qn,hd,sn,sub,ab,col,del⟩:=cd;dsimp only at hm hdel aM hni;subst hm hdel
 have e:sl = #[k0,k1,k2,k3,some (.builtin n),k5]:=by
  cases sl;simp only at hs;rw[hs]
 subst e;exact⟨bm,ns,nm,qn,bs,hd,sn,sub,ab,col,dd,k0,k1,k2,k3,k5,_,X _ _ ho,.of_isNs (PySem.W.isNs_of_in X aM),PySem.W.nsMap_none_of_in X aM hni,PySem.W.tail_of_in X ht⟩
section
variable{X:Cx}{x:Str}{C:we}{E:XK}{e:Expr}{es:List Expr}{t:TA}{np cpos pos:Pos}
def NY(C:wf)(E:XK)(t:TA):TS:=λ_ σ H=>t σ H λvs H1=>vs.length<=wY/\E C none H1
theorem M8(q:VR X.K C pD "ValueError.__new__"=true)(hc:X.calm=true)(hg:Gl X x)(hm:X.mg x=some (.ref C))(Z:R5 X (.ref C) E)(ha:PA X (e::es) t)(hdb:(x == ("__debug__" : Str))=false:=by decide)
  (he:wS (e::es) X.env=(false,eval e X.env)::wS es X.env:=by rfl) (hpl:(Vz cpos (wS es X.env)).any (·.1)=false:=by rfl) :
  PS X (.Raise (some (.Call (.Name x np) (e::es) [] cpos)) none pos) (NY (.ref C) E t):=by
 intro pins s σ H D I h;obtain⟨bm,N,nm,qn,bs,hd,sn,sub,ab,col,dd,k0,k1,k2,k3,k5,mN,hC,hN,hni,T⟩:=zAV I.ok.mod.pA q
 refine wpAny_Raise_call_subU (C:=C) (nm:=nm) (q:=qn) (N:=N) (bs:=bs) (bm:=bm) (hdct:=hd) (sn:=sn) (sub:=sub) (ab:=ab) (col:=col) (dd:=dd) (k0:=k0) (k1:=k1) (k2:=k2) (k3:=k3) (k5:=k5)
  xB (by decide) xB (mN:=mN) (T.hasType (by decide)) (I.ok.hd hc) (by rw[he];show(false || (Vz cpos (wS es X.env)).any (·.1))=false;rw[hpl];rfl) hni (pS I hg hm ⟨rfl,?_⟩ hdb)
 have ha':=ha cpos pins s σ H _ I h;rw[he]at ha' ⊢;refine xy (WE ha' (λus s2 ⟨vs,H2,I2,r,z,q2⟩=>⟨rfl,by rw[<- r.length];exact z,I2.bk _ _ hC,hN.keeps I2.bk,T.keeps I2.bk,λh' ex m=>Z pins σ H2 s2 h' ex us I2 m q2⟩) λ_ _ y=>y)
end
abbrev Cx.at(X:Cx)(pn:List (we × Obj))(E:wf->wm->Prop):Cx:={X with pn:=pn,xe:=E}
abbrev Cx.sY(X:Cx)(pn:List (we × Obj))(ex:we)(oe:Obj):Cx:={X with pn:=pn++[(ex,oe)],xe:=λ_ _=>False,A:=X.A.mark (some (.ref ex)),calm:=false}
section
variable{X:Cx}{pins pins':List (we × Obj)}{σ : St}{H:Hp}{s:wm}{ex:we}{oe:Obj}
theorem Inv.Y8(I:Inv X pins σ H s)(E:wf->wm->Prop):Inv (X.at (X.pn++pins) E) [] σ H s :=
 ⟨⟨I.ok.mod,I.ok.kind,I.ok.glob,I.ok.blt,I.ok.above,I.ok.inj,I.ok.has,I.ok.k8,I.ok.hd,I.ok.frames,I.ok.mP,I.ok.rB,I.ok.bs,I.ok.jx,I.ok.kR,I.ok.mj,I.ok.fk,I.ok.jG⟩,I.os,I.bare,I.base,I.loc,I.cell,I.free,I.gj,
  λp hp=>I.pin p (by rw[vK]at hp;exact hp),I.aM,I.len⟩
theorem Inv.pk{E:wf->wm->Prop}(I:Inv (X.at (X.pn++pins) E) pins' σ H s):Inv X pins σ H s :=
 ⟨⟨I.ok.mod,I.ok.kind,I.ok.glob,I.ok.blt,I.ok.above,I.ok.inj,I.ok.has,I.ok.k8,I.ok.hd,I.ok.frames,I.ok.mP,I.ok.rB,I.ok.bs,I.ok.jx,I.ok.kR,I.ok.mj,I.ok.fk,I.ok.jG⟩,I.os,I.bare,I.base,I.loc,I.cell,I.free,I.gj,
  λp hp=>I.pin p (VA _ hp),I.aM,I.len⟩
theorem Inv.YU(I:Inv X pins σ H s)(he:s.heap.get? ex=some oe)(hn:H ex=none)(nl:ex≠X.env.locals)(nf:ex ∉ X.fs)(nc:∀v,oe.data≠.cell v):Inv (X.sY (X.pn++pins) ex oe) [] σ H s :=
 ⟨⟨I.ok.mod,I.ok.kind,I.ok.glob,I.ok.blt,I.ok.above,I.ok.inj,I.ok.has,I.ok.k8,λz=>Bool.noConfusion z,I.ok.frames,I.ok.mP,I.ok.rB,I.ok.bs,I.ok.jx,I.ok.kR,I.ok.mj,I.ok.fk,I.ok.jG⟩,I.os,I.bare,I.base,I.loc,I.cell,I.free,I.gj,
  λp hp=>by
   rw[vK]at hp;rcases vY.mp hp with z | z
   ·exact I.pin p z
   ·cases w6.mp z
    exact⟨he,hn,nl,nf,nc⟩,I.aM,I.len⟩
theorem Inv.s_(ok:X.Ok)(I:Inv (X.sY (X.pn++pins) ex oe) pins' σ H s):Inv X pins σ H s :=
 ⟨ok,I.os,I.bare,I.base,I.loc,I.cell,I.free,I.gj,λp hp=>I.pin p (VA _ (VA _ hp)),I.aM,I.len⟩
end
def Uh(CX:fX)(X:Cx)(W:St->XK):Prop:=∀(pins:List (we × Obj))(σ : St)(H:Hp)(s:wm)(e:wf)(s':wm),Inv X pins σ H s->CX X.stack H s (W σ) e s'->X.xe e s'
def yr(sp:Sp)(W:St->XK)(t:TA):TE:=λσ H Q=>t σ H λvs H1=>sp vs H1 Q (W σ)
section
variable{X:Cx}{CX:fX}{k:Nat}{f:we}{fd:wz}{ps:List Str}{sp:Sp}{W:St->XK}{x:Str}{p pos:Pos}{e:Expr}{es:List Expr}{t:TA}
theorem RC(F:aF X.prog X.w X.K X.mg X.base CX k f fd ps sp)(hr:ee k X.A)(hg:Gl X x)(hm:X.mg x=some (.ref f))(hk:qF X.K (.ref f)=true)(hb:mR X.K fd ps [])(hx:Uh CX X W)
  (ha:PA X (e::es) t) (hdb:(x == ("__debug__" : Str))=false:=by decide) (he:wS (e::es) X.env=(false,eval e X.env)::wS es X.env:=by rfl) (hpl:(Vz pos (wS es X.env)).any (·.1)=false:=by rfl) :
  PE X (.Call (.Name x p) (e::es) [] pos) (yr sp W t):=by
 intro pins s σ H Q I h;refine qE (pS I hg hm ?_ hdb);refine xV (h₀:=X.base) I.ok.mod.pA hk (aP (ha pos pins s σ H _ I h) λus s1 ⟨vs,H1,I1,r,q⟩=>⟨I1.dW,?_⟩) he hpl;have hl:us.length=ps.length:=by rw[<- r.length];exact F.len _ _ _ _ q
 have hbd:BindsTo s1 fd ⟨us,[]⟩ (ps.zip us):=by simpa using hb s1 us I1.dW (by simpa using hl)
 refine wpAny_call (codeAny_mono (F.run X.A X.stack s1 H1 ⟨us,[]⟩ us vs Q (W σ) hr I1.KJ hbd r q) λr s' hq=>?_);cases r with
 | error e=>exact hx pins σ H1 s1 e s' I1 hq
 | ok fl =>
  cases fl with
  | ret u=>exact I1.after hq
  | next=>exact WS hq
  | brk=>exact WS hq
  | cont=>exact WS hq
end
structure NW(C:wf)(oe:Obj):Prop where
 cls:oe.cls=C
 fld:∃vs,oe.data=.fields vs/\vs[2]? = some .none
 dict:oe.dict=none
section
variable{X:Cx}{x n:Str}{G:wf}{i:Nat}{b₀ : wW}{body suite:List wW}{np hpos pos:Pos}{tb:(St->XK)->TS}{th:we->wf->TS}
end
structure Hd(X:Cx)(ex:we)(C:wf)(oe:Obj):Prop where
 hd:X.A.handled=some (.ref ex)
 pn:(ex,oe)∈X.pn
 ob:NW C oe
section
variable{P:wH}{w:wM}{K:wa}{mg:Str->Option wf}{base:wJ}
end
section
variable{X:Cx}{k:Nat}{f:we}{fd:wz}{ps:List Str}{sp:we->wf->Sp}{x:Str}{p pos:Pos}{e:Expr}{es:List Expr}{t:TA}{ex:we}{C:wf}{oe:Obj}
end
variable{scope:Scope}
def gU(cells:List (Str × we)):List (Str × WV)->List (Str × we)->List (Str × we)
 | [],acc=>acc
 | (n,k)::r,acc=>gU cells r (if(k == NameKind.free)=true then(n,(cells.lookup n).getD 0)::acc else acc)
theorem zmb{env:Env}(h:∀y∈scope.names,y.2=.free->∃c,env.cells.lookup y.1=some c):closureFor scope env=pure (gU env.cells scope.names []):=by
 unfold closureFor;generalize scope.names=names at h
 suffices g:∀(names:List (Str × WV))(acc:List (Str × we)),(∀y∈names,y.2=.free->∃c,env.cells.lookup y.1=some c) ->
     (forIn names acc λ(x:Str × WV)(r:List (Str × we))=>if(x.2 == NameKind.free)=true then do let c <- cellOf env x.1;pure (ForInStep.yield ((x.1,c)::r))else pure (ForInStep.yield r):Sem (List (Str × we)))=pure (gU env.cells names acc) by
   have:=g names [] h
   show(_ >>= pure)=_
   rw[bind_pure];exact this
 intro names
 induction names with
 | nil=>intro acc _;rfl
 | cons y r ih =>
   intro acc hy;obtain⟨n,k⟩:=y;rw[qp]
   by_cases e:(k == NameKind.free)=true
   . obtain⟨c,hc⟩:=hy (n,k) wE (beq_iff_eq.mp e)
     have hcell:cellOf env n=pure c:=by
       unfold cellOf;rw[hc]
     simp only[e,if_true,hcell,pure_bind];rw[ih _ λz hz=>hy z (wA _ hz)]
     show _=pure (gU env.cells r _)
     simp only[e,if_true,hc,QU]
   . simp only[e,pure_bind]
     rw[if_neg (by simp),pure_bind];dsimp only;rw[ih _ λz hz=>hy z (wA _ hz)]
     show _=pure (gU env.cells r _)
     rw[if_neg e]
theorem Nl{cells:List (Str × we)} : ∀(names:List (Str × WV))(acc:List (Str × we))(x:Str)(c:we),(∀y∈names,y.2=.free->∃c,cells.lookup y.1=some c)->(∀x c,acc.lookup x=some c->cells.lookup x=some c) ->
  (gU cells names acc).lookup x=some c->cells.lookup x=some c
 | [],acc,x,c,_,ha,h=>ha x c h
 | (n,k)::r,acc,x,c,hy,ha,h=>by
  unfold gU at h;refine Nl r _ x c (λz hz=>hy z (wA _ hz)) (λx' c' h'=>?_) h
  split at h'
  ·rename_i e
   obtain⟨c0,hc0⟩:=hy (n,k) wE (beq_iff_eq.mp e);rw[qf]at h'
   split at h'
   ·rename_i e2
    rw[beq_iff_eq.mp e2,hc0];rw[hc0]at h';exact h'
   ·exact ha x' c' h'
  ·exact ha x' c' h'
theorem Rj{cells:List (Str × we)} : ∀(names:List (Str × WV))(acc:List (Str × we))(x:Str),(∃c,acc.lookup x=some c)->∃c,(gU cells names acc).lookup x=some c
 | [],acc,x,h=>h
 | (n,k)::r,acc,x,h=>by
  unfold gU;refine Rj r _ x ?_
  split
  ·rw[qf]
   split
   ·exact⟨_,rfl⟩
   ·exact h
  ·exact h
theorem OI{cells:List (Str × we)} : ∀(names:List (Str × WV))(acc:List (Str × we))(x:Str),(x,NameKind.free)∈names->∃c,(gU cells names acc).lookup x=some c
 | [],acc,x,h=>nomatch h
 | (n,k)::r,acc,x,h=>by
  unfold gU;rcases wL.mp h with e | e
  ·cases e
   rw[if_pos (by decide)];refine Rj r _ _ ?_;rw[qf];simp
  ·exact OI r _ x e
theorem Oy(g:Str->WV->WV):∀(names:List (Str × WV))(x:Str),(names.map λy=>(y.1,g y.1 y.2)).lookup x=(names.lookup x).map (g x)
 | [],x=>rfl
 | (n,k)::r,x=>by
  rw[vd,qf,qf];dsimp only
  by_cases e:(x == n)=true
  ·have e':=beq_iff_eq.mp e
   subst e';simp
  ·rw[XT]at e
   simp only[e];exact Oy g r x
def yL(env:Env)(x:Str)(k:WV):WV:=if(k == .free&&env.scope.kind == .function&&env.kindOf x == some .cell)=true then .cell else k
theorem Ll{env:Env}(x:Str):(relabel scope env).names.lookup x=(scope.names.lookup x).map (yL env x):=by
 rw[<- Oy]
 show(scope.names.map _).lookup x=_
 congr 2
 funext ⟨n,k⟩
 dsimp only[yL]
 split<;>rfl
def DF(inner outer:List (Str × WV))(N N':List Str)(src:List (Option Nat)):Bool :=
 (inner.all λy=>(y.2 != .cell)&&(y.2 != .local || inner.lookup y.1 == some .local)&&(y.2 != .free || outer.lookup y.1 == some .cell)) &&
 (N'.length == src.length)&&((N'.zip src).all λp=>match p.2 with
  | none=>true
  | some j=>N[j]? == some p.1&&outer.lookup p.1 == some .cell&&inner.lookup p.1 == some .free)
theorem oO.by{X:Cx}{N':List Str}{src:List (Option Nat)}(hk:scope.kind=.function)(hc:DF scope.names X.env.scope.names X.N N' src=true)(hf:∀x,X.env.scope.names.lookup x=some .cell->∃c,X.env.cells.lookup x=some c:=by exact λx h=>Ax h) :
  oO X N' scope (gU X.env.cells scope.names []) src:=by
 unfold DF at hc;simp only[wV,Wc,beq_iff_eq,Bool.or_eq_true,bne_iff_ne,ne_eq]at hc;obtain⟨⟨h1,h2⟩,h3⟩:=hc;have fr:∀y∈scope.names,y.2=.free->∃c,X.env.cells.lookup y.1=some c:=λy hy e=>hf _ (((h1 y hy).2).elim (λz=>absurd e z) id)
 have at3:∀(i:Nat)(x:Str)(j:Nat),N'[i]? = some x->src[i]? = some (some j)->X.N[j]? = some x/\X.env.scope.names.lookup x=some .cell/\scope.names.lookup x=some .free:=λi x j e1 e2=>by
  have m:(x,some j)∈N'.zip src:=by
   rw[List.mem_iff_getElem?];exact⟨i,by rw[List.getElem?_zip_eq_some];exact⟨e1,e2⟩⟩
  have:=h3 _ m;simp only[wV,beq_iff_eq]at this;exact⟨this.1.1,this.1.2,this.2⟩
 refine⟨hk,λy hy=>((h1 y hy).1).1,λy hy e=>(((h1 y hy).1).2).elim (λz=>absurd e z) id,⟨zmb fr,λx c e=>Nl _ _ x c fr (λ_ _ z=>by simp at z) e,λx e=>?_⟩,⟨h2,λi j x e1 e2=>⟨(at3 i x j e1 e2).1,(at3 i x j e1 e2).2.1⟩⟩,λi x e1 e2=>?_⟩
 ·rw[Ll]at e
  cases q:scope.names.lookup x with
  | none=>rw[q]at e;simp at e
  | some k =>
   have hm:=W8 q
   have hk:k=.free:=by
    rw[q]at e;simp only[X7,qO,yL]at e;have nc:k≠.cell:=((h1 _ hm).1).1;rcases e with e | e
    ·split at e
     ·rename_i z;simp only[wV,beq_iff_eq]at z;exact z.1.1
     ·exact absurd e nc
    ·split at e
     ·cases e
     ·exact e
   subst hk;exact OI _ _ x hm
 ·obtain⟨o,ho⟩:∃o,src[i]? = some o:=by
   have:i<src.length:=by rw[<- h2];exact(W1.mp e1).1
   exact⟨src[i],by simp[this]⟩
  cases o with
  | none=>exact absurd ho e2
  | some j =>
   have:=(at3 i x j e1 ho).2.2;rw[Ll,this];simp only[X7,qO,yL]
   split
   ·exact .inl rfl
   ·exact .inr rfl
section
variable{prog:wH}{w:wM}{A:w9}{E:wf->wm->Prop}{s:wm}
end
section
variable{X:Cx}{ex:we}{C:wf}{oe:Obj}{pins:List (we × Obj)}{σ : St}{H:Hp}{s:wm}{pos:Pos}
variable{tg l:Expr}{tl:TE}
variable{N':List Str}{scope:Scope}{cl:List (Str × we)}{src:List (Option Nat)}{elt tgt iter:Expr}{ifs:List Expr}{wi:TI}{g:TG}{tt:TT}{te:TE}
end
def yp(K:wa)(g:TG)(tt:TT)(te:TE)(src:List (Option Nat))(σ : St)(x:V)(H1:Hp)(Q:VK):Prop :=
 ∃a,x=.ref a/\(∃xs,aE K H1 a xs) /\ ∀D,H1 D=none->kg g tt te (jI K a) D (dS src σ) (upd H1 D (.lst [])) (λH'=>Q (.ref D) H')
def Ah(K:wa)(g:TG)(tt:TT)(te:TE)(src:List (Option Nat))(σ : St)(x:V)(H1:Hp)(Q:VK):Prop :=
 ∃a,x=.ref a/\(∃xs,aT K H1 a xs) /\ ∀D,H1 D=none->kg g tt te (j8 K a) D (dS src σ) (upd H1 D (.lst [])) (λH'=>Q (.ref D) H')
def F8(g:TG)(tt:TT)(te:TE)(src:List (Option Nat))(σ : St)(vs:List V)(H1:Hp)(Q:VK):Prop :=
 ∃j:Int,vs=[.int j] /\ -(2^62)<=j/\j<2^62 /\ ∀D,H1 D=none->kg g tt te (gI 0 j.toNat) D (dS src σ) (upd H1 D (.lst [])) (λH'=>Q (.ref D) H')
section
variable{K:wa}{g:TG}{tt:TT}{te ta:TE}{tA:TA}{src:List (Option Nat)}{σ : St}{H:Hp}{Q:VK}{a:we}{xs:List V}{n:Int}
theorem zyz(h:ta σ H λx H1=>yp K g tt te src σ x H1 Q):kM src (BM K ta) g tt te σ H Q:=h
theorem zyi(h:ta σ H λx H1=>Ah K g tt te src σ x H1 Q):kM src (MX K ta) g tt te σ H Q:=h
theorem zyC(h:tA σ H λvs H1=>F8 g tt te src σ vs H1 Q):kM src (De tA) g tt te σ H Q:=h
def rV(Pv:we->Nat->List V->St->Hp->Prop)(D:we)(i:Nat)(σ3:St)(y:V)(H5:Hp):Prop :=
 ∃ys,H5 D=some (.lst ys)/\ys.length<wY /\ ∃ys',Pv D (i+1) ys' σ3 (upd H5 D (.lst (ys++[y])))
def iL(Pv:we->Nat->List V->St->Hp->Prop)(g:TG)(tt:TT)(te:TE)(D:we)(i:Nat)(x:V)(σ':St)(H':Hp):Prop :=
 g x σ' H' λσ3 H3=>tt σ3 H3 λok H4=>if ok=true then te σ3 H4 λy H5=>rV Pv D i σ3 y H5 else ∃ys',Pv D (i+1) ys' σ3 H4
theorem ji{Pv:we->Nat->List V->St->Hp->Prop}{D:we}{i:Nat}{σ3:St}{y:V}{H5:Hp}{ys:List V}(h:H5 D=some (.lst ys))(z:ys.length<=1000)(q:∀H6,Exc D H5 H6->H6 D=some (.lst (ys++[y]))->Pv D (i+1) (ys++[y]) σ3 H6):rV Pv D i σ3 y H5 :=
 ⟨ys,h,gF z,_,q _ (Exc.upd D H5 _) dh⟩
theorem DX{J:It}{N:Nat}{D:we}{σ0:St}{H0:Hp}{R:Hp->Prop}(Pv:we->Nat->List V->St->Hp->Prop)(item:Nat->V->Prop)(h0:Pv D 0 [] σ0 H0)
  (stop:∀i ys σ' H',Pv D i ys σ' H'->N<=i->J.stop i H') (go:∀i ys σ' H',Pv D i ys σ' H'->i<N->J.go i H') (fD:∀i ys σ' H' x H2,Pv D i ys σ' H'->J.fD i H' x H2->H2=H'/\item i x)
  (hs:∀i x ys σ' H',i<N->item i x->Pv D i ys σ' H'->iL Pv g tt te D i x σ' H') (hd:∀ys σ' H',Pv D N ys σ' H'->R H'):kg g tt te J D σ0 H0 R:=by
 refine⟨λi m σ' H'=>i+m=N /\ ∃ys,Pv D i ys σ' H',⟨N,by lia,[],h0⟩,?_⟩;rintro i m σ' H' ⟨him,ys,hp⟩
 by_cases hm:m=0
 ·subst hm
  have e:i=N:=by lia
  subst e;exact .inl ⟨stop _ _ _ _ hp (wp _),hd _ _ _ hp⟩
 ·refine .inr ⟨go _ _ _ _ hp (by lia),λσ2 H2=>∃ys,Pv D (i+1) ys σ2 H2,λσ2 H2 h=>⟨m-1,by lia,by lia,h⟩,λx H2 hy2=>?_⟩
  obtain⟨e,hit⟩:=fD _ _ _ _ _ _ hp hy2;subst e;exact hs i x ys σ' H2 (by lia) hit hp
theorem oG(hx:aE K H a xs)(Pv:we->Nat->List V->St->Hp->Prop)(h0:∀D H',H D=none->ar H H'->H' D=some (.lst [])->Pv D 0 [] (dS src σ) H')(hl:∀D i ys σ' H',Pv D i ys σ' H'->aE K H' a xs)
  (hs:∀D i x ys σ' H',xs[i]? = some x->Pv D i ys σ' H'->iL Pv g tt te D i x σ' H') (hd:∀D ys σ' H',Pv D xs.length ys σ' H'->Q (.ref D) H'):yp K g tt te src σ (.ref a) H Q:=by
 refine⟨a,rfl,⟨xs,hx⟩,λD hD=>DX (N:=xs.length) Pv (λi x=>xs[i]? = some x) (h0 D _ hD (ar.upd hD) dh) (λi ys σ' H' hp hi=>⟨xs,hl _ _ _ _ _ hp,hi⟩) (λi ys σ' H' hp hi=>?_) (λi ys σ' H' x H2 hp hy=>?_)
  (λi x ys σ' H' _ hit hp=>hs D i x ys σ' H' hit hp) (hd D)⟩
 ·exact⟨xs,xs[i],hl _ _ _ _ _ hp,by simp[hi]⟩
 ·obtain⟨e,hy⟩:=hy
  exact⟨e,hy xs (hl _ _ _ _ _ hp)⟩
theorem ZO(hx:aT K H a xs)(Pv:we->Nat->List V->St->Hp->Prop)(h0:∀D H',H D=none->ar H H'->H' D=some (.lst [])->Pv D 0 [] (dS src σ) H')(hl:∀D i ys σ' H',Pv D i ys σ' H'->aT K H' a xs)
  (hs:∀D i x ys σ' H',xs[i]? = some x->Pv D i ys σ' H'->iL Pv g tt te D i x σ' H') (hd:∀D ys σ' H',Pv D xs.length ys σ' H'->Q (.ref D) H'):Ah K g tt te src σ (.ref a) H Q:=by
 refine⟨a,rfl,⟨xs,hx⟩,λD hD=>DX (N:=xs.length) Pv (λi x=>xs[i]? = some x) (h0 D _ hD (ar.upd hD) dh) (λi ys σ' H' hp hi=>⟨xs,hl _ _ _ _ _ hp,hi⟩) (λi ys σ' H' hp hi=>?_) (λi ys σ' H' x H2 hp hy=>?_)
  (λi x ys σ' H' _ hit hp=>hs D i x ys σ' H' hit hp) (hd D)⟩
 ·exact⟨xs,xs[i],hl _ _ _ _ _ hp,by simp[hi]⟩
 ·obtain⟨e,hy⟩:=hy
  exact⟨e,hy xs (hl _ _ _ _ _ hp)⟩
theorem Af(h0' : -1000000000<=n)(h1:n<1000000000)(Pv:we->Nat->List V->St->Hp->Prop)(h0:∀D H',H D=none->ar H H'->H' D=some (.lst [])->Pv D 0 [] (dS src σ) H')
  (hs:∀D (i:Nat) ys σ' H',i<n.toNat->Pv D i ys σ' H'->iL Pv g tt te D i (.int (i:Int)) σ' H') (hd:∀D ys σ' H',Pv D n.toNat ys σ' H'->Q (.ref D) H'):F8 g tt te src σ [.int n] H Q:=by
 refine⟨n,rfl,by lia,by lia,λD hD=>DX (N:=n.toNat) Pv (λi x=>x=.int (i:Int)) (h0 D _ hD (ar.upd hD) dh) (λi ys σ' H' hp hi=>hi) (λi ys σ' H' hp hi=>hi) (λi ys σ' H' x H2 hp hy=>?_)
  (λi x ys σ' H' hi hit hp=>?_) (hd D)⟩
 ·obtain⟨e,hy⟩:=hy
  exact⟨e,by rw[hy,Int.zero_add]⟩
 ·subst hit
  exact hs D i ys σ' H' hi hp
end
structure u3(u' u:TS):Prop where
 e:u'=u
theorem zBy{t u:TS}{D:cR}{σ : St}{H:Hp}(h:∀u',u3 u' u->t {D with nx:=u' D} σ H):BC t u D σ H:=h u ⟨rfl⟩
theorem u3.go{u' u:TS}{D:cR}{σ : St}{H:Hp}(e:u3 u' u)(h:u D σ H):u' D σ H:=by rw[e.e];exact h
theorem L4{P:wH}{w:wM}{X:Cx} : nZ (ff P w) X E0:=λ_ _ _ _ _ _ _ h=>by
 obtain⟨_,_,_,_,_,_,_,_,_,_,_,q⟩:=h;exact q.elim
theorem lS.rk{P:wH}{w:wM}{K:wa}{mg:Str->Option wf}{base:wJ}{x qual:Str}{st:wW}{f:we}{fd:wz}{N ps:List Str}{k:Nat}{sp:Sp}(F:lS K x qual st f fd)(S:aI N ps (aG st))(len:∀vs H Q E,sp vs H Q E->vs.length=ps.length)
  (hbody:∀(cdv:wf)(A:w9)(outer:List Env)(s:wm)(H:Hp)(vs:List V)(Q:VK)(E:XK),ee k (A.deeper (envOfC qual (aG st) s.heap.objs.size f cdv))->sp vs H Q E ->
   ∃t,fE (jd (ff P w) P w K mg base N qual (aG st) f cdv A outer s H E) (lQ st) t/\t {nx:=λ_ H'=>Q .bM H',rt:=Q} (start N vs) H):aF P w K mg base (ff P w) (k+1) f fd ps sp:=by
 obtain⟨oc,od,kV,doc,pm,an,cdv,ct,osl,rfl,lk,hcd⟩:=F.ex;exact MR lk hcd S len λA outer s H vs Q E hr hsp=>hbody cdv A outer s H vs Q E hr hsp
theorem Exc.back{p:we}{H H' H2:Hp}(b:Exc p H' H2)(s:Exc p H H'):Exc p H H2:=s.trans b
theorem Sf{X:Cx}{i j v:Int}{k1 k2:Nat}{p1 p2 pos:Pos}(hc:LG i j)(hv:i^j.toNat=v):PE X (.BinOp (.Constant (.int i) k1 p1) .Pow (.Constant (.int j) k2 p2) pos) (tC (.int v)):=by
 subst hv;exact λpins s σ H Q I h=>(aB zDw au au:PE X _ _) pins s σ H Q I ⟨i,j,rfl,rfl,hc,h⟩
theorem zwZ{α : Type}[DecidableEq α]{x : α}{A B:Prop}(h:B):if(!decide (x=x))=true then A else B:=by simpa using h
theorem zxx{α : Type}[DecidableEq α]{x : α}{A B:Prop}(h:A):if decide (x=x)=true then A else B:=by simpa using h
section
variable{K:wa}{σ : St}{H H':Hp}{Q:VK}{QB:Bool->Hp->Prop}{D:cR}{t:TA}{v w:V}{xs ys:List V}{m n:Int}{r:Rat}{p:we}
variable{x y:Rat}
theorem zD1{A B:Prop}(h:B):if(!true)=true then A else B:=by simpa using h
theorem zEN{A B:Prop}(h:A):if(!false)=true then A else B:=by simpa using h
theorem zw4(h:Is K H v (N r))(q:Q (.bl true) H):eC K [v,.ty "tuple"] H Q:=FP h q
theorem zBq(h:Is K H v (N r))(q:Q (.int 2) H):jt K [v] H Q:=by
 obtain⟨a,rfl,h'⟩:=mE.mp h;exact CI h' q
theorem zBP{a b:V}(h:H p=some (.lst [a,b]))(h0:0<=m)(h1:m<2)(q:∀z,z=a\/z=b->Q z H):c_ K (.ref p) (.int m) H Q :=
 O_ (λz=>z=a\/z=b) (aE.of h) h0 (by simpa using h1) (by simp) q
theorem zA2{a b:Int}(h:H p=some (.lst [.int a,.int b]))(h0:0<=m)(h1:m<2)(q:∀z,z=a\/z=b->Q (.int z) H):c_ K (.ref p) (.int m) H Q :=
 zBP h h0 h1 λz hz=>by rcases hz with rfl | rfl;exact q _ (.inl rfl);exact q _ (.inr rfl)
theorem zr7(h1:x.num=y.num)(h2:(x.den:Int)=y.den):x=y:=by
 have h2':x.den=y.den:=by lia
 exact ui h1 h2'
theorem pF(x y:Rat):w8 (N x) (N y)=decide (x=y):=by
 have e:w8 (N x) (N y)=(decide (x.num=y.num)&&decide ((x.den:Int)=y.den)):=by
  simp only[N,w8,Ws,uw,qY]
 rw[e,vi,wV,decide_eq_true_eq,decide_eq_true_eq,decide_eq_true_eq]
 constructor
 ·rintro ⟨h1,h2⟩;exact zr7 h1 h2
 ·rintro rfl;exact⟨rfl,rfl⟩
theorem zE(x:Rat):vL (N x)=true:=by simp[N,vL,vB,Wd,WL,Wn]
theorem tX(h:Is K H v (N x))(k:Is K H w (N y))(q:Q (.bl (decide (x=y))) H):jP K v w H Q:=oq h k (zE x) (zE y) (by rw[pF];exact q)
theorem zCD(h:Is K H v (N x))(k:Is K H w (N y))(q:Q (.bl (!decide (x=y))) H):md K v w H Q:=zV h k (zE x) (zE y) (by rw[pF];exact q)
end
def EG:wD->Bool
 | .int _=>true
 | _=>false
theorem Dg{X:Cx} : bG X (vP .In) (fu X.K false):=zxi
theorem sv{X:Cx} : bG X (vP .NotIn) (fu X.K true):=zrT
def R(a b:Rat):wD:=.tuple [N a,N b]
theorem uK(a b:Rat):di (R a b)=true:=by simp[R,di,cw,lG]
structure aR(a b:Rat):Prop where
 a0:0<a
 a4:a<=4
 ad:a.den<=8
 b0:0<=b
 b1:b<=1
 bd:b.den<=12
 ab:1<=a+b
theorem aR.ba{a b:Rat}(h:aR a b):af 10 a:=af.small (c:=4) (d:=8) (vX h.a0) h.a4 h.ad (by decide) (by decide)
theorem aR.bb{a b:Rat}(h:aR a b):af 10 b:=af.small (c:=1) (d:=12) h.b0 h.b1 h.bd (by decide) (by decide)
section
variable{K:wa}{H:Hp}{Q:VK}{v:V}{a b:Rat}{σ : St}{gs:kj}{QS:St->Hp->Prop}
theorem zAM(h:Is K H v (R a b))(q:∀x,Is K H x (N a)->Q x H):c_ K v (.int 0) H Q:=aD (j:=0) h rfl q
theorem zBb(h:Is K H v (R a b))(q:∀x,Is K H x (N b)->Q x H):c_ K v (.int 1) H Q:=aD (j:=1) h rfl q
theorem Is.kO{H':Hp}(h:Is K H v (R a b))(s:a_ H H'):Is K H' v (R a b):=Is.keep s _ v (uK a b) h
theorem Fs{x y:V}(h1:Is K H x (N a))(h2:Is K H y (N b))(q:∀v H',ar H H'->Is K H' v (R a b)->Q v H'):mz K [x,y] H Q :=
 c6 (by show 2<=1000;decide) (.cons h1 (.cons h2 .nil)) q
theorem zEK(a b c d:Rat):w8 (R a b) (R c d)=(decide (a=c)&&decide (b=d)):=by
 simp only[R,w8,Ws,uw,pF]
end
section
variable{K:wa}{H H' H2:Hp}{Q:VK}{v w:V}{a b c d:Rat}{D:we}
theorem zxX(h:Is K H v (R a b))(q:Q (.bl true) H):eC K [v,.ty "tuple"] H Q:=FP h q
theorem zAE(h:Is K H v (R a b))(q:Q (.int 2) H):jt K [v] H Q:=ly h q
theorem ar.grow(s:ar H H')(n:H D=none)(e:Exc D H' H2):ar H H2:=λb o h=>e b o (kC h n) (s b o h)
end
theorem zzM{σ : St}{H:Hp}{Q:Bool->Hp->Prop}(q:Q true H):UP σ H Q:=q
theorem Le{Pv:we->Nat->List V->St->Hp->Prop}{g:TG}{tt:TT}{te:TE}{D:we}{i:Nat}{x:V}{σ':St}{H':Hp}(h:g x σ' H' λσ3 H3=>tt σ3 H3 λok H4=>if ok=true then te σ3 H4 λy H5=>rV Pv D i σ3 y H5 else ∃ys',Pv D (i+1) ys' σ3 H4) :
  iL Pv g tt te D i x σ' H':=h
section
variable{K:wa}{σ : St}{H:Hp}{Q:VK}{E:XK}{D:cR}{t:TA}{C G:wf}{i:Nat}{tb:(St->XK)->TS}{th:we->wf->TS}{sp:Sp}{W:St->XK}{ex C':we}{b:Bool}
theorem zys(h:t σ H λvs H1=>vs.length<=wY/\E C none H1):NY C E t D σ H:=h
theorem zzi(h:t σ H λvs H1=>sp vs H1 Q (W σ)):yr sp W t σ H Q:=h
end
variable{p:Pos}{es:List Expr}{env:Env}
theorem Gg(s:String):uD (vW s)=true:=by
 rw[Str.ofString_eq_toList,uD];simp only[List.all_toArray,x5,Wc,Function.comp,decide_eq_true_eq];intro c _;have:=c.valid;simp only[Char.toNat];rcases this with h | h
 ·have:c.val.toNat<0xd800:=h
  lia
 ·exact h.2
theorem eF{K:wa}{H:Hp}{c:we}{p q:Int}(r:Rat)(h:aT K H c [.int p,.int q])(e1:r.num=p)(e2:(r.den:Int)=q):Is K H (.ref c) (N r):=by
 subst e1 e2;exact bY.mpr ⟨c,_,rfl,h,dB.mpr ⟨_,_,rfl,cc.mpr rfl,dB.mpr ⟨_,_,rfl,cc.mpr rfl,fI.mpr rfl⟩⟩⟩
theorem Sq(s:String):vL (.str (vW s))=true:=by
 simp[vL,vB,WL,Gg]
theorem B_{c:Const}{k:Nat} : wS ((.Constant c k p)::es) env=(false,eval (.Constant c k p) env)::wS es env:=rfl
theorem zuX{o:Operator}{x y:Expr} : wS ((.BinOp x o y p)::es) env=(false,eval (.BinOp x o y p) env)::wS es env:=rfl
theorem cu{x:Str} : wS ((.Name x p)::es) env=(false,eval (.Name x p) env)::wS es env:=rfl
theorem g_{x y:Expr} : wS ((.Subscript x y p)::es) env=(false,eval (.Subscript x y p) env)::wS es env:=rfl
section
variable{K:wa}{H H' H2:Hp}{Q:VK}{R:Prop}{v w y:V}{p l:we}{xs ys zs:List V}{ns:List Int}{m:Int}{σ : St}
end
section
variable{K:wa}{H H' H2:Hp}{Q:VK}{R:Prop}{v w y:V}{p l:we}{xs ys zs:List V}{ns:List Int}{m:Int}{σ : St}{to:TE}{t:TA}{T:String}{r:V->List V->Hp->VK->Prop}
theorem ZF(h:to σ H λx H1=>zZ K T x H1/\t σ H1 λxs H2=>r x xs H2 Q):Ui K T r to t σ H Q:=h
theorem h_(h:aE K H p xs)(q:R):zZ K "list" (.ref p) H/\R:=⟨.inl ⟨rfl,xs,h⟩,q⟩
theorem iD(h:H l=some (.lst xs))(z:xs.length<=1000)(q:∀H',Exc l H H'->H' l=some (.lst (xs++[y]))->Q .bM H'):Sw (.ref l) [y] H Q:=⟨l,xs,y,rfl,rfl,h,gF z,q _ (Exc.upd l H _) dh⟩
end
variable{X:Cx}
def sH(K:wa):List V->Hp->VK->Prop:=λxs H Q=>∃p ys,xs=[.ref p]/\((aE K H p ys /\ ∀l,H l=none->Q (.ref l) (upd H l (.tup ys)))\/(aT K H p ys/\Q (.ref p) H))
def fS(K:wa):List V->Hp->VK->Prop:=λxs H Q=>∃p ys,xs=[.ref p]/\(aE K H p ys\/aT K H p ys) /\ ∀l,H l=none->Q (.ref l) (upd H l (.lst ys))
theorem zsm : bS X (.type "tuple") (sH X.K):=zpB
theorem jS : bS X (.type "list") (fS X.K):=zrN
def yM(K:wa):V->Option Int->Option Int->Hp->VK->Prop:=λx lo hi H Q=>Tp K x lo hi H Q\/UY K x lo hi H Q
theorem lq : kZ X (yM X.K):=zBc.or zCH
section
variable{K:wa}{H H' H2:Hp}{Q:VK}{QO:Option Int->Hp->Prop}{R:Prop}{v w y:V}{p l:we}{xs ys zs:List V}{ds es:List wD}{m:Int}{σ : St}{te:TE}{tl th:TO}{r:V->Option Int->Option Int->Hp->VK->Prop}{lo hi:Option Int}
theorem rK(h:aE K H p ys)(q:∀l H',H l=none->ar H H'->H' l=some (.tup ys)->Q (.ref l) H'):sH K [.ref p] H Q:=⟨p,ys,rfl,.inl ⟨h,λl hl=>q l _ hl (ar.upd hl) dh⟩⟩
theorem fR(h:Is K H v (.list ds))(q:∀w H',ar H H'->Is K H' w (.tuple ds)->Q w H'):sH K [v] H Q:=by
 obtain⟨a,xs,rfl,hs,t⟩:=ck.mp h;exact rK hs λl H' _ s e=>q _ H' s (bY.mpr ⟨l,xs,rfl,.of e,ah.same s ds xs t⟩)
theorem N9(h:Is K H v (.tuple ds))(q:Q v H):sH K [v] H Q:=by
 obtain⟨a,xs,rfl,hs,t⟩:=bY.mp h;exact⟨a,xs,rfl,.inr ⟨hs,q⟩⟩
theorem pU(h:Is K H v (.tuple ds))(q:∀l H' ys,H l=none->ar H H'->H' l=some (.lst ys)->ah K H' ys ds->Q (.ref l) H'):fS K [v] H Q:=by
 obtain⟨a,xs,rfl,hs,t⟩:=bY.mp h;exact⟨a,xs,rfl,.inr hs,λl hl=>q l _ xs hl (ar.upd hl) dh (ah.same (ar.upd hl) ds xs t)⟩
theorem Rf(h:Is K H v (.list ds))(q:∀l H' ys,H l=none->ar H H'->H' l=some (.lst ys)->ah K H' ys ds->Q (.ref l) H'):fS K [v] H Q:=by
 obtain⟨a,xs,rfl,hs,t⟩:=ck.mp h;exact⟨a,xs,rfl,.inl hs,λl hl=>q l _ xs hl (ar.upd hl) dh (ah.same (ar.upd hl) ds xs t)⟩
theorem zy3(h:te σ H λx H1=>tl σ H1 λl H2=>th σ H2 λu H3=>r x l u H3 Q):Rn r te tl th σ H Q:=h
theorem Zi(q:QO none H):Sr σ H QO:=q
theorem zAm(h:te σ H λx H1=>∃i,x=.int i/\QO (some i) H1):O1 te σ H QO:=h
theorem zzx{RI:Int->Prop}(q:RI m):∃i,V.int m=V.int i/\RI i:=⟨m,rfl,q⟩
def jK{α : Type}(xs:List α)(lo hi:Option Int):List α:=(xs.drop (HT.bA xs.length 0 lo)).take (HT.bA xs.length xs.length hi-HT.bA xs.length 0 lo)
theorem ah.take:∀{ds:List wD}{xs:List V}(n:Nat),ah K H xs ds->ah K H (xs.take n) (ds.take n)
 | _,_,0,h=>by simp[ah.nil]
 | [],_,n+1,h=>by rw[fI.mp h];simp[ah.nil]
 | d::ds,_,n+1,h=>by
  obtain⟨x,r,rfl,q,t⟩:=dB.mp h;rw[xN,xN];exact .cons q (ah.take n t)
theorem ah.drop:∀{ds:List wD}{xs:List V}(n:Nat),ah K H xs ds->ah K H (xs.drop n) (ds.drop n)
 | _,_,0,h=>by simpa using h
 | [],_,n+1,h=>by rw[fI.mp h];simp[ah.nil]
 | d::ds,_,n+1,h=>by
  obtain⟨x,r,rfl,q,t⟩:=dB.mp h;rw[Qh,Qh];exact ah.drop n t
theorem ah.cut(h:ah K H xs ds):ah K H (kh xs lo hi) (jK ds lo hi):=by
 unfold kh jK;rw[h.length];exact(h.drop _).take _
theorem zDi(h:aE K H p xs)(q:∀l H',H l=none->ar H H'->H' l=some (.lst (kh xs lo hi))->Q (.ref l) H'):yM K (.ref p) lo hi H Q:=.inl ⟨p,xs,rfl,h,λl hl=>q l _ hl (ar.upd hl) dh⟩
theorem mH(h:Is K H v (.list ds))(q:∀l H' ys,H l=none->ar H H'->H' l=some (.lst ys)->ah K H' ys (jK ds lo hi)->Q (.ref l) H'):yM K v lo hi H Q:=by
 obtain⟨a,xs,rfl,hs,t⟩:=ck.mp h;exact zDi hs λl H' hl s e=>q l H' _ hl s e (ah.same s _ _ t.cut)
theorem zAi(h:Is K H v (.tuple ds))(hw:¬ (HT.bA ds.length 0 lo=0/\HT.bA ds.length ds.length hi=ds.length))(q:∀w H',ar H H'->Is K H' w (.tuple (jK ds lo hi))->Q w H'):yM K v lo hi H Q:=by
 obtain⟨a,xs,rfl,hs,t⟩:=bY.mp h;refine .inr ⟨a,xs,rfl,hs,by rw[t.length];exact hw,λl hl=>q _ _ (ar.upd hl) (bY.mpr ⟨l,_,rfl,.of dh,ah.same (ar.upd hl) _ _ t.cut⟩)⟩
theorem ny{α : Type}(xs:List α):jK xs none (some (-1))=xs.dropLast:=by
 unfold jK
 show(xs.drop 0).take (((-1:Int)+(xs.length:Int)).toNat-0)=_
 rw[uj,xt]
 congr 1
 lia
theorem zxF{α : Type}(xs:List α):jK xs (some 1) none=xs.tail:=by
 unfold jK
 show(xs.drop (min 1 xs.length)).take (xs.length-min 1 xs.length)=_
 cases xs with
 | nil=>rfl
 | cons x xs =>
  have e:min 1 (x::xs).length=1:=by rw[Wa];lia
  rw[e,Qh,uj,Wa,qy,Wb,ug]
end
def TN(xs:List Rat):wD:=.tuple (xs.map N)
def LN(xs:List Rat):wD:=.list (xs.map N)
theorem dZ:∀xs:List Rat,cw (xs.map N)=true
 | []=>by simp[cw]
 | x::xs=>by rw[vd,cw,lG,dZ xs];rfl
theorem lC(xs:List Rat):di (TN xs)=true:=by rw[TN,di];exact dZ xs
theorem ZJ(x:Rat):(N x).canLay0=true:=by simp[N,vB,Wd]
theorem Y9(x:Rat):(N x).depth=1:=by simp[N,WL,Wn]
theorem sy:∀xs:List Rat,Wd (xs.map N)=true
 | []=>by simp[Wd]
 | x::xs=>by rw[vd,Wd,ZJ,sy xs];rfl
theorem BU:∀xs:List Rat,Wn (xs.map N)<=1
 | []=>by simp[Wn]
 | x::xs=>by
  have:=BU xs;rw[vd,Wn,Y9];lia
theorem RX(xs:List Rat):vL (TN xs)=true:=by
 unfold vL TN;rw[vB,sy,WL,qk];have:=BU xs;exact decide_eq_true (by lia)
theorem NZ(xs:List Rat):vL (LN xs)=true:=by
 unfold vL LN;rw[vB,sy,WL,qk];have:=BU xs;exact decide_eq_true (by lia)
theorem C0:∀xs ys:List Rat,Ws (xs.map N) (ys.map N)=decide (xs=ys)
 | [],[]=>by simp[Ws]
 | [],y::ys=>by simp[Ws]
 | x::xs,[]=>by simp[Ws]
 | x::xs,y::ys=>by
  rw[vd,vd,Ws,pF,C0 xs ys,vi,wV,decide_eq_true_eq,decide_eq_true_eq,decide_eq_true_eq,X8]
theorem En(xs ys:List Rat):w8 (TN xs) (TN ys)=decide (xs=ys):=by
 unfold TN;rw[w8,C0]
theorem zDQ(xs ys:List Rat):w8 (LN xs) (LN ys)=decide (xs=ys):=by
 unfold LN;rw[w8,C0]
section
variable{K:wa}{H H' H2:Hp}{Q:VK}{v w y:V}{p l:we}{vs:List V}{xs ys:List Rat}{m:Int}{σ : St}
theorem P_(h:Is K H v (TN xs))(k:Is K H w (TN ys))(q:Q (.bl (decide (xs=ys))) H):jP K v w H Q:=oq h k (RX xs) (RX ys) (by rw[En];exact q)
theorem UB(h:Is K H v (LN xs))(k:Is K H w (LN ys))(q:Q (.bl (decide (xs=ys))) H):jP K v w H Q:=oq h k (NZ xs) (NZ ys) (by rw[zDQ];exact q)
theorem DP{i:Nat}(t:ah K H vs (xs.map N))(h:i<xs.length):∃x,vs[i]? = some x/\Is K H x (N (xs.getD i 0)):=by
 refine t.get ?_;rw[wq,wb,wc h]
 rfl
theorem cg{i:Nat}{x:V}(t:ah K H vs (xs.map N))(h:vs[i]? = some x):i<xs.length/\Is K H x (N (xs.getD i 0)):=by
 have hl:=t.length;rw[wl]at hl
 have hi:i<xs.length:=by
  rcases wG i vs.length with z | z
  ·lia
  ·rw[wI z]at h;cases h
 obtain⟨x',e,hx⟩:=DP t hi;rw[h]at e;cases e;exact⟨hi,hx⟩
theorem ym(h:Is K H v (TN xs))(h0:0<=m)(h1:m<xs.length)(q:∀x,Is K H x (N (xs.getD m.toNat 0))->Q x H):c_ K v (.int m) H Q:=by
 obtain⟨a,vs,rfl,hs,t⟩:=bY.mp h;obtain⟨n,rfl⟩:∃n:Nat,m=(n:Int):=⟨m.toNat,by lia⟩;obtain⟨x,e,hx⟩:=DP (i:=n) t (by lia);exact tG hs (mQ e) (q x hx)
theorem gL(h:Is K H v (LN xs))(h0:0<=m)(h1:m<xs.length)(q:∀x,Is K H x (N (xs.getD m.toNat 0))->Q x H):c_ K v (.int m) H Q:=by
 obtain⟨a,vs,rfl,hs,t⟩:=ck.mp h;obtain⟨n,rfl⟩:∃n:Nat,m=(n:Int):=⟨m.toNat,by lia⟩;obtain⟨x,e,hx⟩:=DP (i:=n) t (by lia);exact j5 hs (mQ e) (q x hx)
theorem yl(h:Is K H v (TN xs))(q:Q (.int xs.length) H):jt K [v] H Q:=ly h (by rw[wl];exact q)
theorem yy(h:Is K H v (LN xs))(q:Q (.int xs.length) H):jt K [v] H Q:=by
 obtain⟨a,vs,rfl,hs,t⟩:=ck.mp h;have:=t.length;rw[wl]at this;exact gG hs (by rw[this];exact q)
theorem bX(h:H l=some (.lst vs))(t:ah K H vs (xs.map N)):Is K H (.ref l) (LN xs):=ck.mpr ⟨l,vs,rfl,.of h,t⟩
theorem eH:∀{xs:List Rat}{vs:List V},vs.length=xs.length->(∀i x,vs[i]? = some x->Is K H x (N (xs.getD i 0)))->ah K H vs (xs.map N)
 | [],vs,hl,_=>by
  have:vs=[]:=W5 hl;subst this;exact .nil
 | x::xs,[],hl,_=>by cases hl
 | x::xs,u::vs,hl,h=>by
  rw[vd];exact .cons (h 0 u rfl) (eH (by simpa using hl) λi y e=>h (i+1) y e)
end
section
variable{K:wa}{g:TG}{tt:TT}{te:TE}{src:List (Option Nat)}{σ : St}{H:Hp}{Q:VK}{a:we}{vs:List V}{n:Int}{tl:St}{o0:Option V}
def gQ(H:Hp)(tl:St)(Rel:Nat->V->Hp->Prop)(D:we)(i:Nat)(ys:List V)(σ':St)(H':Hp):Prop :=
 (∃o,σ'=o::tl)/\H D=none/\ar H H'/\H' D=some (.lst ys)/\ys.length=i /\ ∀j y,ys[j]? = some y->Rel j y H'
theorem gQ.same{Rel:Nat->V->Hp->Prop}{D:we}{i:Nat}{ys:List V}{σ':St}{H':Hp}(h:gQ H tl Rel D i ys σ' H'):ar H H':=h.2.2.1
theorem dQ{Rel:Nat->V->Hp->Prop}{D:we}{i:Nat}{ys:List V}{σ' σ3:St}{H1 H5:Hp}{y:V}(inv:gQ H tl Rel D i ys σ' H1)(hi:i<=1000)(hk:∀i v H1 H2,a_ H1 H2->Rel i v H1->Rel i v H2)(hσ : ∃o,σ3=o::tl)(s:ar H1 H5)(r:Rel i y H5):rV (gQ H tl Rel) D i σ3 y H5:=by
 obtain⟨_,hn,s1,hD,hl,hr⟩:=inv;have hD5:=s _ _ hD;refine ji hD5 (by lia) λH6 E6 e6=>⟨hσ,hn,(s1.trans s).grow hn E6,e6,by simp[hl],λj z hz=>?_⟩
 have k6:a_ H5 H6:=E6.keep hD5;rcases wG j ys.length with hj | hj
 ·rw[Wk hj]at hz
  exact hk _ _ _ _ (s.keep.trans k6) (hr j z hz)
 ·have hj':j=ys.length:=by
   rcases wG ys.length j with q | q
   ·rw[wI (by simp;lia)]at hz;cases hz
   ·lia
  subst hj';rw[vQ (wp _),V6]at hz;cases hz;rw[hl];exact hk _ _ _ _ k6 r
theorem kB(hx:aE K H a vs)(hsrc:dS src σ = o0::tl)(Rel:Nat->V->Hp->Prop)(hs:∀D i x ys o H1,vs[i]? = some x->gQ H tl Rel D i ys (o::tl) H1->iL (gQ H tl Rel) g tt te D i x (o::tl) H1)
  (hd:∀D ys H',H D=none->ar H H'->H' D=some (.lst ys)->ys.length=vs.length->(∀j y,ys[j]? = some y->Rel j y H')->Q (.ref D) H'):yp K g tt te src σ (.ref a) H Q:=by
 refine oG hx (gQ H tl Rel) (λD H' n s e=>⟨⟨o0,hsrc⟩,n,s,e,rfl,λj y z=>by simp at z⟩) (λD i ys σ' H' h=>h.same.seq hx) ?_ λD ys σ' H' ⟨_,n,s,e,hl,r⟩=>hd D ys H' n s e hl r
 rintro D i x ys σ' H' hx' h;obtain⟨⟨o,rfl⟩,_⟩:=id h;exact hs D i x ys o H' hx' h
theorem jw(hx:aT K H a vs)(hsrc:dS src σ = o0::tl)(Rel:Nat->V->Hp->Prop)(hs:∀D i x ys o H1,vs[i]? = some x->gQ H tl Rel D i ys (o::tl) H1->iL (gQ H tl Rel) g tt te D i x (o::tl) H1)
  (hd:∀D ys H',H D=none->ar H H'->H' D=some (.lst ys)->ys.length=vs.length->(∀j y,ys[j]? = some y->Rel j y H')->Q (.ref D) H'):Ah K g tt te src σ (.ref a) H Q:=by
 refine ZO hx (gQ H tl Rel) (λD H' n s e=>⟨⟨o0,hsrc⟩,n,s,e,rfl,λj y z=>by simp at z⟩) (λD i ys σ' H' h=>h.same.j6 hx) ?_ λD ys σ' H' ⟨_,n,s,e,hl,r⟩=>hd D ys H' n s e hl r
 rintro D i x ys σ' H' hx' h;obtain⟨⟨o,rfl⟩,_⟩:=id h;exact hs D i x ys o H' hx' h
theorem PK(h0:0<=n)(h1:n<1000000000)(hsrc:dS src σ = o0::tl)(Rel:Nat->V->Hp->Prop)(hs:∀D (i:Nat) ys o H1,i<n.toNat->gQ H tl Rel D i ys (o::tl) H1->iL (gQ H tl Rel) g tt te D i (.int (i:Int)) (o::tl) H1)
  (hd:∀D ys H',H D=none->ar H H'->H' D=some (.lst ys)->ys.length=n.toNat->(∀j y,ys[j]? = some y->Rel j y H')->Q (.ref D) H'):F8 g tt te src σ [.int n] H Q:=by
 refine Af (by lia) h1 (gQ H tl Rel) (λD H' n s e=>⟨⟨o0,hsrc⟩,n,s,e,rfl,λj y z=>by simp at z⟩) ?_ λD ys σ' H' ⟨_,n,s,e,hl,r⟩=>hd D ys H' n s e hl r
 rintro D i ys σ' H' hi h;obtain⟨⟨o,rfl⟩,_⟩:=id h;exact hs D i ys o H' hi h
theorem eG{xs:List Rat} : ∀(i:Nat)(v:V)(H1 H2:Hp),a_ H1 H2->Is K H1 v (N (xs.getD i 0))->Is K H2 v (N (xs.getD i 0)):=λi v H1 H2 k h=>h.df k
end
theorem fm{H H':Hp}{l:we}(s:ar H H')(h:H' l=none):H l=none:=by
 cases e:H l with
 | none=>rfl
 | some o=>rw[s _ _ e]at h;cases h
def TZ(ns:List Int):wD:=.tuple (ns.map PyData.int)
def LL(rss:List (List Rat)):wD:=.list (rss.map LN)
theorem M5:∀ns:List Int,cw (ns.map PyData.int)=true
 | []=>by simp[cw]
 | n::ns=>by rw[vd,cw,M5 ns];rfl
theorem zDE(ns:List Int):di (TZ ns)=true:=by rw[TZ,di];exact M5 ns
section
variable{K:wa}{H H' H2:Hp}{Q:VK}{v w y:V}{p l:we}{vs:List V}{ns:List Int}{rss:List (List Rat)}{m:Int}{σ : St}
theorem mv:∀{ns:List Int}{vs:List V},ah K H vs (ns.map PyData.int) ↔ vs=ns.map V.int
 | [],vs=>by rw[QP,fI];rfl
 | n::ns,vs=>by
  rw[vd,dB,vd]
  constructor
  ·rintro ⟨x,r,rfl,h,t⟩
   rw[cc.mp h,mv.mp t]
  ·rintro rfl
   exact⟨_,_,rfl,cc.mpr rfl,mv.mpr rfl⟩
theorem rQ:Is K H v (TZ ns) ↔ ∃a,v=.ref a/\aT K H a (ns.map V.int):=by
 unfold TZ;rw[bY]
 constructor
 ·rintro ⟨a,xs,e,h,t⟩
  rw[mv.mp t]at h;exact⟨a,e,h⟩
 ·rintro ⟨a,e,h⟩
  exact⟨a,_,e,h,mv.mpr rfl⟩
theorem CP(h:Is K H v (TZ ns))(q:Q (.int ns.length) H):jt K [v] H Q:=ly h (by rw[wl];exact q)
theorem Pg{i:Nat}(t:ah K H vs (rss.map LN))(h:i<rss.length):∃x,vs[i]? = some x/\Is K H x (LN (rss.getD i [])):=by
 refine t.get ?_;rw[wq,wb,wc h]
 rfl
theorem Su(h:Is K H v (LL rss))(h0:0<=m)(h1:m<rss.length)(q:∀x,Is K H x (LN (rss.getD m.toNat []))->Q x H):c_ K v (.int m) H Q:=by
 obtain⟨a,vs,rfl,hs,t⟩:=ck.mp h;obtain⟨n,rfl⟩:∃n:Nat,m=(n:Int):=⟨m.toNat,by lia⟩;obtain⟨x,e,hx⟩:=Pg (i:=n) t (by lia);exact j5 hs (mQ e) (q x hx)
theorem Fp{α : Type}{xs:List α}{x : α}(h:xs[xs.length-1]? = some x):iH xs (-1)=some x:=by
 have hl:0<xs.length:=by
  cases xs with
  | nil=>cases h
  | cons _ _=>simp
 unfold iH gB;rw[if_neg (by lia),if_pos (by lia)]
 show xs[((-1:Int)+(xs.length:Int)).toNat]? = some x
 rw[show((-1:Int)+(xs.length:Int)).toNat=xs.length-1 by lia];exact h
theorem zwW(h:Is K H v (LL rss))(h0:0<rss.length)(q:∀x,Is K H x (LN (rss.getD (rss.length-1) []))->Q x H):c_ K v (.int (-1)) H Q:=by
 obtain⟨a,vs,rfl,hs,t⟩:=ck.mp h;have hl:=t.length;rw[wl]at hl;obtain⟨x,e,hx⟩:=Pg (i:=rss.length-1) t (by lia);rw[<- hl]at e;exact j5 hs (Fp e) (q x hx)
theorem Mv:∀{rss:List (List Rat)}{vs:List V},vs.length=rss.length->(∀i x,vs[i]? = some x->Is K H x (LN (rss.getD i [])))->ah K H vs (rss.map LN)
 | [],vs,hl,_=>by
  have:vs=[]:=W5 hl;subst this;exact .nil
 | x::xs,[],hl,_=>by cases hl
 | x::xs,u::vs,hl,h=>by
  rw[vd];exact .cons (h 0 u rfl) (Mv (by simpa using hl) λi y e=>h (i+1) y e)
end
def yQ(K:wa):R2:=λx y H Q=>RO K x y H Q \/ ∃a b ys,x=.ref a/\y=.ref b/\aT K H a []/\aT K H b ys/\Q (.ref b) H
theorem Nd{X:Cx} : bG X (WF .Add) (yQ X.K):=by
 intro pins s σ H x y v u Q I rx ry h;rcases h with h | ⟨a,b,ys,rfl,rfl,ha,hb,q⟩
 ·exact zBe pins s σ H x y v u Q I rx ry h
 ·cases rx
  cases ry;obtain⟨its,r1,p1,_⟩:=I.tuple ha;cases r1;obtain⟨its2,r2,p2,_⟩:=I.tuple hb;obtain⟨⟨cls,dd,data,sl⟩,ho,hc,n,hd⟩:=id p1;obtain⟨⟨cls2,dd2,data2,sl2⟩,ho2,hc2,n2,hd2⟩:=id p2;simp only at hc hd hc2 hd2;subst hc hd hc2 hd2;exact concat_meets ⟨_,ho,rfl⟩ ⟨_,ho2,rfl⟩ noFill_tuple_add seq_tuple_add qS qI (qt _ _) (tuple_addW0 a b _ its2.toArray n n2 dd dd2 sl sl2 rfl) ⟨ho,ho2,⟨.ref b,H,I,rfl,q⟩⟩
theorem SO{K:wa}{H:Hp}{Q:VK}{v w:V}{ds es:List wD}(h1:Is K H v (.tuple ds))(h2:Is K H w (.tuple es))(z:ds.length+es.length<=1000)(q:∀u H',ar H H'->Is K H' u (.tuple (ds++es))->Q u H'):yQ K v w H Q:=by
 obtain⟨a,xs,rfl,ha,ta⟩:=bY.mp h1;obtain⟨b,ys,rfl,hb,tb⟩:=bY.mp h2;have la:=ta.length;have lb:=tb.length;cases xs with
 | nil =>
  obtain rfl:ds=[]:=W5 (by simpa using la.symm);exact .inr ⟨a,b,ys,rfl,rfl,ha,hb,q _ H (ar.refl _) h2⟩
 | cons x xs =>
  refine .inl ⟨a,b,x::xs,ys,rfl,rfl,ha,hb,by simp,WA (gF (by lia)),λhy=>?_,λhy p hp=>?_⟩
  ·obtain rfl:es=[]:=W5 (by rw[hy]at lb;simpa using lb.symm)
   exact q _ H (ar.refl _) (by rw[vK];exact h1)
  ·exact q _ _ (ar.upd hp) (bY.mpr ⟨p,_,rfl,.of dh,(ah.same (ar.upd hp) _ _ ta).append (ah.same (ar.upd hp) _ _ tb)⟩)
theorem Inv.sT{X:Cx}{pins:List (we × Obj)}{σ : St}{H:Hp}{s:wm}{h':wJ}{t':Nat}{ch:List we}(I:Inv X pins σ H s)(k:∀b o,b ∉ ch->s.heap.get? b=some o->h'.get? b=some o)(hf:∀b∈ch,eS X pins H b):Inv X pins σ H {s with heap:=h',toks:=t'}:=by
 have nit:∀b u,H b=some u->b ∉ ch:=λb u e z=>by rw[(hf b z).1]at e;cases e
 refine I.step (g':=s.gens) (d':=s.drawn) (ch:=ch) (λb hb=>⟨(hf b hb).2.2.2.1,(hf b hb).2.1,(hf b hb).2.2.2.2.1,(hf b hb).2.2.2.2.2⟩) (λb o _ _ hc e _=>k b o hc e)
  (λb o _ _ hc e _=>⟨o.slots,k b o hc e⟩) (λ_ _ _ _ n=>n) (λb o hc e=>⟨o,k b o hc e⟩) (λ_ _ e=>e) (λ_ _ _ e=>e) (λb ps e=>⟨#[],by rw[e];simp⟩) (λm hm=>?_) (λb u e=>?_) I.bare
 ·obtain⟨o,es,ep,ho,r⟩:=hm
  exact⟨o,es,ep,k _ o (λz=>(hf _ z).2.1 rfl) ho,r⟩
 ·refine(I.aM b u e).kQ (λc v hc q=>k c v ?_ q) (λ_ q=>q) λ_ _ q=>q
  rcases hc with z | z
  ·rw[z];exact nit b u e
  ·exact nit c _ z
section
variable{prog:wH}{w:wM}{A:w9}{E:wf->wm->Prop}{s:wm}
theorem zsP{it tu:we}{i:Nat}{its:Array wf}{x:wf}{Q:wf->wm->Prop}(ei:s.heap.IsTupleIter it tu i)(et:s.heap.IsTuple tu its)(ex:its[i]? = some x)
  (fin:∀h',h'.IsTupleIter it tu (i+1)->vG it s.heap h'->Q x {s with heap:=h'}):wt (model prog w) A (vJ (.ref it)) Q E s:=by
 obtain⟨ob,eo,ec,ed⟩:=id ei;obtain⟨ot,eot,_,nt,edt⟩:=et;unfold vJ;refine wg (wpAny_callSpecial?_slot (name:=vW "__next__") ei.typeIs Vs (Wj Vs ei.typeIs Qw ?_ (Qn _)))
 show wt _ _ (field (.ref it) 0 >>= _) _ _ s;refine wg (vv eo ed (x:=.ref tu) rfl ?_)
 show wt _ _ (if(Value.ref tu == Value.none)=true then _ else _) _ _ s;rw[if_neg (show ¬ ((Value.ref tu == Value.none)=true)from vC)]
 show wt _ _ (field (.ref it) 1 >>= _) _ _ s;refine wg (vv eo ed (x:=.int i 0) rfl ?_)
 show wt _ _ (seqItems? (.ref tu) >>= _) _ _ s;refine wg (WC eot edt ?_)
 simp only[wx,ex];refine wg (wpAny_setField eo ed (by simp) (wy ⟨x,rfl,wy (fin _ ?_ (xO ..))⟩));exact⟨_,V3 _ eo (V9 (VW ed _)),(Xp ..).trans ec,by rw[VW ed];simp[Va]⟩
theorem U9{it tu:we}{i:Nat}{its:Array wf}{Q:wf->wm->Prop}(hh:A.handled=none)(ei:s.heap.IsTupleIter it tu i)(et:s.heap.IsTuple tu its)(ex:its[i]? = none)
  (fin:∀h' e,Heap.ExtBut it s.heap h'->(∃o,h'.get? e=some o/\o.cls=.type "StopIteration")->E (.ref e) {s with heap:=h'}):wt (model prog w) A (vJ (.ref it)) Q E s:=by
 obtain⟨ob,eo,ec,ed⟩:=id ei;obtain⟨ot,eot,_,nt,edt⟩:=et;unfold vJ;refine wg (wpAny_callSpecial?_slot (name:=vW "__next__") ei.typeIs Vs (Wj Vs ei.typeIs Qw ?_ (Qn _)))
 show wt _ _ (field (.ref it) 0 >>= _) _ _ s;refine wg (vv eo ed (x:=.ref tu) rfl ?_)
 show wt _ _ (if(Value.ref tu == Value.none)=true then _ else _) _ _ s;rw[if_neg (show ¬ ((Value.ref tu == Value.none)=true)from vC)]
 show wt _ _ (field (.ref it) 1 >>= _) _ _ s;refine wg (vv eo ed (x:=.int i 0) rfl ?_)
 show wt _ _ (seqItems? (.ref tu) >>= _) _ _ s;refine wg (WC eot edt ?_)
 simp only[wx,ex];refine wg (wpAny_rule (wg (wpAny_setField eo ed (by simp) ?_)))
 show wt _ _ (newExc (.type "StopIteration") [] >>= _) _ _ _;refine wg ?_;simp only[newExc,newTuple]
 refine wg (WH ?_ (by size_fits));refine wg (m:=firstArgMember _ _) (wpAny_of_eq (a:=Value.none) (by first | rfl | (simp only[firstArgMember];rfl)) ?_);refine WH ?_ (by size_fits);simp only[raiseNew];refine wg (wpAny_handled ?_)
 first | rw[hh] | rw[show A.in1.handled=none from hh]
 exact wg (wy (wpAny_throw (fin _ _ (((xO ..).extBut.push _).push _) ⟨_,wO _ rfl,rfl⟩)))
theorem jZ(hh:A.handled=none)(it tu:we)(hne:tu≠it)(its:Array wf):Draws prog w A it [it,tu] its.size (λi v=>its[i]? = some v) (λi h=>h.IsTupleIter it tu i/\h.IsTuple tu its) where
 live:=λ_ _ st=>let ⟨o,ho,_⟩:=st.1;⟨o,ho⟩
 frame:=λ_ _ _ st hk=>⟨st.1.at λo e=>hk it (by simp) o e,st.2.at λo e=>hk tu (by simp) o e⟩
 item:=λi s Q E hi st hQ=>zsP st.1 st.2 (x:=its[i]) (by simp[hi]) λh' hit' hs'=>hQ _ h' s.toks (by simp[hi]) ⟨hit',st.2.extBut hs'.extBut hne⟩ hs'
 done:=λs Q E st hE=>U9 hh st.1 st.2 (by simp) hE
open AutoSeq1 (wpAny_loadPart') in
theorem ztQ(tu:we)(its:Array wf)(n:Nat)(dct:Option we)(sl:Array (Option wf)):Meets (Builtin.«enumerate.__new__» ⟨[.type "enumerate",.ref tu],[]⟩) (λ_ R s=>s.heap.get? tu=some {cls:=.type "tuple",dict:=dct,data:=.seq its n,slots:=sl} /\
  R (.ok (.ret (.ref (s.heap.push {cls:=.type "tuple_iterator",data:=.fields #[.ref tu,.int 0 0]}).objs.size))) {s with heap:=(s.heap.push {cls:=.type "tuple_iterator",data:=.fields #[.ref tu,.int 0 0]}).push {cls:=.type "enumerate",data:=.fields #[.none,.bool false,.ref s.heap.objs.size,Va 0,.none,.none]}}) :=
 .of_wp λprog w A R s h=>by
  obtain⟨hp,g,d,tk,os⟩:=s;obtain⟨et,h⟩:=h;have hsub:=sub_enumerate;have hT:x6 (Xz ⟨hp,g,d,tk,os⟩) tu its:=⟨_,et,rfl,n,rfl⟩
  wp_walk using wpAny_loadPart' et
  refine wpAny_stack_any λst=>wy ?_
  split
  ·rename_i c _ _ _ _ _
   cases (c == Value.type "enumerate")<;>(wp_walk using wpAny_loadPart' et,Vm hT;exact⟨_,rfl,h⟩)
  ·wp_walk using wpAny_loadPart' et,Vm hT
   exact⟨_,rfl,h⟩
theorem zup{tu:we}{its:Array wf}{Q:wf->wm->Prop}(hT:s.heap.IsTuple tu its)(fin:∀h',IsEnum h' (s.heap.objs.size+1) s.heap.objs.size 0 .none->h'.IsTupleIter s.heap.objs.size tu 0->(∀b o,s.heap.get? b=some o->h'.get? b=some o)->Q (.ref (s.heap.objs.size+1)) {s with heap:=h'}) :
  wt (model prog w) A (call (.type "enumerate") [.ref tu]) Q E s:=by
 obtain⟨⟨c,dct,dt,sl⟩,et,hc,n,hd⟩:=hT;obtain rfl:c=.type "tuple":=hc;obtain rfl:dt=.seq its n:=hd;refine callType_new F.called_enumerate (by decide) (F.typeCall_enumerate_1 _) (F.newCall_enumerate_1 _) (λobj=>F.args_object_init_2 obj _) F.entry_enumerate_new (ztQ tu its n dct sl) ⟨et,?_⟩;have hz:(s.heap.push {cls:=.type "tuple_iterator",data:=.fields #[.ref tu,.int 0 0]}).objs.size=s.heap.objs.size+1:=V8 ..
 show _/\_
 rw[hz]
 have he:IsEnum ((s.heap.push {cls:=.type "tuple_iterator",data:=.fields #[.ref tu,.int 0 0]}).push {cls:=.type "enumerate",data:=.fields #[.none,.bool false,.ref s.heap.objs.size,Va 0,.none,.none]}) (s.heap.objs.size+1) s.heap.objs.size 0 .none:=by
  rw[<- hz];exact wO _ rfl
 exact⟨⟨_,he,rfl⟩,fin _ he ⟨_,wn _ (wO _ rfl),rfl,rfl⟩ λb o x=>wn _ (wn _ x)⟩
end
def oI(K:wa)(a:we):It :=
 ⟨λi H=>∃xs x,aT K H a xs/\xs[i]? = some x,λi H y H'=>∃t x,y=.ref t/\H t=none/\(∀xs,aT K H a xs->xs[i]? = some x)/\H'=upd H t (.tup [.int (i:Int),x]),λi H=>∃xs,aT K H a xs/\xs.length<=i⟩
theorem zu4{P:wH}{w:wM}{K:wa}{elts:List Expr}{k1}{tpos:Pos}(a e it:we)(hne:e≠it):jL P w K (.Tuple elts k1 tpos) (oI K a) [e,it] e (λi h=>(∃old,IsEnum h e it (i:Int) old)/\h.IsTupleIter it a i) where
 mem:=by simp
 obj:=λi h st b hb=>by
  obtain⟨⟨old,he⟩,o,eo,c,d⟩:=st;rcases wL.mp hb with rfl | hb
  ·exact⟨_,he,λv z=>by cases (show Data.fields _=Data.cell v from z)⟩
  ·rw[w6.mp hb]
   exact⟨o,eo,λv z=>by rw[d]at z;cases z⟩
 keep:=λi h h' st k=>⟨let ⟨old,he⟩:=st.1;⟨old,k e (by simp) _ he⟩,st.2.at λo eo=>k it (by simp) o eo⟩
 item:=by
  intro X hP hw hK hc i pins s σ H E I hf st hg;subst hP hw hK;obtain⟨⟨old,he⟩,st⟩:=st;obtain⟨xs,x,hq,hx⟩:=hg;obtain⟨its,rv,p,hz⟩:=I.tuple hq;obtain⟨u,hu,ru⟩:=rv.get hx;have p':s.heap.IsTuple a its.toArray:=p
  have hai:a≠it:=λz=>by
   subst z;obtain⟨o,e1,c1,_⟩:=st;obtain⟨o',e2,c2,_⟩:=p';rw[e1]at e2;cases e2;rw[c1]at c2;exact absurd c2 (by decide)
  have hae:e≠a:=λz=>by
   subst z;obtain⟨o',e2,c2,_⟩:=p';rw[he]at e2;cases e2;exact absurd (show Value.type "enumerate"=Value.type "tuple" from c2) (by decide)
  have hlt:i<its.toArray.size:=by
   rcases wG i its.length with z | z
   ·simpa using z
   ·rw[wI z]at hu;cases hu
  refine wpAny_pyNext_enum_itemD (jZ (A:=X.A.in1) (I.ok.hd hc) it a hai its.toArray) he ⟨st,p'⟩ hlt hne (by simp[hne,hae]) λv h1 tk hv ho hs1 hT hsz hk=>?_
  have hvu:v=u:=by
   have hv':its[i]? = some v:=by simpa using hv
   rw[hu]at hv';exact(wZ hv').symm
  subst hvu
  have I1:Inv X pins σ (upd H s.heap.objs.size (.tup [.int (i:Int),x])) {s with heap:=s.heap.push {cls:=.type "tuple",data:=.seq ([.int (i:Int) tk,v]:List wf).toArray},toks:=tk+1} :=
   I.laid (λb o q=>wn _ q) (wp _) (show dR X.prog X.w _ _ _ (.tup [.int (i:Int),x])from⟨nR (by simp),_,.cons ⟨_,rfl⟩ (.cons ru .nil),qX _ _⟩)
  have lt1:∀b∈[e,it],b<s.heap.objs.size:=λb hb=>by
   rcases wL.mp hb with rfl | hb
   ·exact wC he
   ·rw[w6.mp hb]
    obtain⟨o,eo,_⟩:=st;exact wC eo
  have hf1:∀b∈[e,it],eS X pins (upd H s.heap.objs.size (.tup [.int (i:Int),x])) b:=λb hb=>⟨by rw[eJ (wQ (lt1 b hb))];exact(hf b hb).1,(hf b hb).2⟩
  refine⟨_,rfl,wpAny_letOwnedTupleGo_enum ho λh2 he2 hs2=>?_⟩;refine⟨.ref s.heap.objs.size,_,Inv.sT (s:={s with heap:=s.heap.push {cls:=.type "tuple",data:=.seq ([.int (i:Int) tk,v]:List wf).toArray},toks:=tk+1}) (ch:=[e,it]) I1 (λb o hb q=>?_) hf1,rfl,⟨_,x,rfl,I.aM.fresh (wp _),λys hy=>by rw[I.Bb hy hq];exact hx,rfl⟩,⟨⟨_,by simpa using he2⟩,hs1.1.at λo eo=>(hs2.2 it (WB hne)).trans eo⟩,λb hb=>(hf1 b hb).1⟩;have hbe:b≠e:=λz=>hb (by simp[z])
  have hbi:b≠it:=λz=>hb (by simp[z])
  refine(hs2.2 b hbe).trans ?_
  by_cases hb2:b=s.heap.objs.size
  ·subst hb2
   rw[wO _ rfl]at q;cases q;exact hT
  ·exact hk b o hbe hbi (by rw[QI _ _ _ hb2]at q;exact q)
 done:=by
  intro X hP hw hK hc i pins s σ H E I hf st hg;subst hP hw hK;obtain⟨⟨old,he⟩,st⟩:=st;obtain⟨xs,hq,hx⟩:=hg;obtain⟨its,rv,p,hz⟩:=I.tuple hq;have p':s.heap.IsTuple a its.toArray:=p
  have hai:a≠it:=λz=>by
   subst z;obtain⟨o,e1,c1,_⟩:=st;obtain⟨o',e2,c2,_⟩:=p';rw[e1]at e2;cases e2;rw[c1]at c2;exact absurd c2 (by decide)
  have hl:=rv.length;have hT:s.TypeIs (.ref e) "enumerate":=⟨_,he,rfl⟩;unfold pyNext;refine wg (Vu (wpAny_callSpecial?_slot (name:=vW "__next__") hT qa (Wj qa hT xk ?_ (QX _))))
  show wt _ _ (field (.ref e) 2 >>= _) _ _ _;refine wg (vv he rfl (x:=.ref it) rfl ?_)
  refine wg (U9 (A:=X.A.in1) (I.ok.hd hc) st p' (by simp;lia) λh' y he' hx'=>?_);obtain⟨o,ho,hcl⟩:=hx';refine wg (Vf (T:="StopIteration") (b:=true) ⟨o,ho,hcl⟩ isSubtype_stop (wy ⟨rfl,?_⟩));obtain⟨f0,f1,f2,f3,f4,f5⟩:=hf it (by simp);exact I.turned (t':=s.toks) (λb o hb e=>he' b o hb e) f0 f1 f3 f4 f5
 self:=λ_ _ _ _ _ st h=>let ⟨_,he⟩:=st.1;wpAny_pyIter_enum he h
def Dv(K:wa)(ta:TA):TI:=λσ H R=>ta σ H λvs H1=>∃a,vs=[.ref a]/\(∃xs,aT K H1 a xs)/\R (oI K a) H1
theorem SA:vI "enumerate"=some (.type "enumerate"):=by decide +kernel
theorem Me{X:Cx}{elts:List Expr}{k1}{tpos p pos:Pos}{l:Expr}{ta:TA}(hg:Gl X "enumerate")(hm:X.mg "enumerate"=none)(ha:PA X [l] ta)(hs:wS [l] X.env=[(false,eval l X.env)]:=by rfl) :
  PI X (.Tuple elts k1 tpos) (.Call (.Name "enumerate" p) [l] [] pos) (Dv X.K ta):=by
 intro pins s σ H R I h;refine Call_ (hJ I hg hm SA (vn (aP (ha pos pins s σ H _ I h) λus s1 ⟨vs,H1,I1,r1,q1⟩=>?_) hs rfl));obtain⟨a,rfl,⟨xs,hq⟩,q⟩:=q1;obtain⟨u,rfl,ru⟩:=iZ r1;cases ru;obtain⟨its,rv,p,hz⟩:=I1.tuple hq;refine zup (show s1.heap.IsTuple a its.toArray from p) λh' he hit kp=>?_
 refine wpAny_pyIter_enum he ?_;refine⟨s1.heap.objs.size+1,[s1.heap.objs.size+1,s1.heap.objs.size],_,_,H1,rfl,I1.kept (t':=s1.toks) kp,zu4 a (s1.heap.objs.size+1) s1.heap.objs.size (XU _),⟨⟨_,he⟩,hit⟩,λb hb=>?_,q⟩
 have hb':s1.heap.objs.size<=b:=by
  rcases wL.mp hb with rfl | hb
  ·lia
  ·rw[w6.mp hb];exact wp _
 exact I1.kc hb' (I1.aM.fresh hb')
def Pc(K:wa)(g:TG)(tb:TS)(D:cR)(σ : St)(vs:List V)(H1:Hp):Prop:=∃a,vs=[.ref a]/\(∃xs,aT K H1 a xs) /\
 ∃W:Nat->Nat->St->Hp->Prop,(∃m,W 0 m σ H1) /\ ∀i m σ H,W i m σ H ->
  ((oI K a).stop i H/\D.nx σ H)\/((oI K a).go i H /\ ∃M:St->Hp->Prop,(∀σ' H',M σ' H'->∃m',m'<m/\W (i+1) m' σ' H') /\ ∀x H',(oI K a).fD i H x H'->g x σ H' λσ2 H2=>tb {D with nx:=M,ct:=M,bk:=D.nx} σ2 H2)
section
variable{K:wa}{ta:TA}{g:TG}{tb:TS}{D:cR}{σ : St}{H:Hp}{a:we}{xs:List V}
theorem zBC(h:ta σ H λvs H1=>Pc K g tb D σ vs H1):ml (Dv K ta) g tb D σ H:=h
theorem zxo(hx:aT K H a xs)(Pv:Nat->St->Hp->Prop)(h0:Pv 0 σ H)(hl:∀i σ H,i<=xs.length->Pv i σ H->aT K H a xs)
  (hs:∀i x σ H t H',xs[i]? = some x->Pv i σ H->H t=none->ar H H'->H' t=some (.tup [.int (i:Int),x])->g (.ref t) σ H' λσ2 H2=>tb {D with nx:=Pv (i+1),ct:=Pv (i+1),bk:=D.nx} σ2 H2) (hd:∀σ H,Pv xs.length σ H->D.nx σ H):Pc K g tb D σ [.ref a] H:=by
 refine⟨a,rfl,⟨xs,hx⟩,λi m σ H=>i+m=xs.length/\Pv i σ H,⟨xs.length,by lia,h0⟩,?_⟩;rintro i m σ H ⟨him,hp⟩;have hq:=hl i σ H (by lia) hp
 by_cases hm:m=0
 ·have e:i=xs.length:=by lia
  subst e;exact .inl ⟨⟨xs,hq,wp _⟩,hd _ _ hp⟩
 ·have hi:i<xs.length:=by lia
  refine .inr ⟨⟨xs,xs[i],hq,by simp[hi]⟩,λσ' H'=>Pv (i+1) σ' H',λσ' H' h=>⟨m-1,by lia,by lia,h⟩,?_⟩;rintro y H' ⟨t,x,rfl,hn,hx',rfl⟩;exact hs i x σ H t _ (hx' xs hq) hp hn (ar.upd hn) dh
end
structure ZA(z TI TO i1 i2:we)(f1 f2:List we):Prop where
 a1:TI≠z
 a2:TO≠z
 a3:i1≠z
 a4:i2≠z
 a5:TI≠TO
 a6:TI≠i1
 a7:TI≠i2
 a8:TO≠i1
 a9:TO≠i2
 b0:i1≠i2
 b1:z ∉ f1
 b2:z ∉ f2
 b3:TO ∉ f1
 b4:TO ∉ f2
 b5:i1 ∉ f2
 b6:i2 ∉ f1
section
variable{prog:wH}{w:wM}{A:w9}{E:wf->wm->Prop}{s:wm}{z TI TO i1 i2:we}{f1 f2:List we}{n1 n2 k:Nat}{P1 P2:Nat->wf->Prop}{S1 S2:Nat->wJ->Prop}{a b:wf}
theorem KN{Q:wf->wm->Prop}(D1:Draws prog w A i1 f1 n1 P1 S1)(D2:Draws prog w A i2 f2 n2 P2 S2)(ap:ZA z TI TO i1 i2 f1 f2)(hz:IsZip s.heap z TI TO .none)(hi:WD s.heap TI (.ref i1) (.ref i2))(ho:WD s.heap TO a b)
  (h1:S1 k s.heap) (h2:S2 k s.heap) (l1:k<n1) (l2:k<n2)
  (fin:∀x y h' tk,P1 k x->P2 k y->IsZip h' z TI TO (Va s.heap.objs.size)->WD h' TO x y->S1 (k+1) h'->S2 (k+1) h'->WD h' s.heap.objs.size x y ->
   (∀c o,c≠z->c≠TO->c≠i1->c≠i2->s.heap.get? c=some o->h'.get? c=some o)->Q (.ref s.heap.objs.size) {s with heap:=h',toks:=tk}) :
  wt (model prog w) A (Builtin.«zip.__next__» ⟨[.ref z],[]⟩) (λr s'=>∃v,r=.done (.ret v)/\Q v s') E s:=by
 show wt _ _ (field (.ref z) 2 >>= _) _ _ _;refine wg (vv hz rfl (x:=.bool false) rfl ?_)
 show wt _ _ (field (.ref z) 3 >>= _) _ _ _;refine wg (vv hz rfl (x:=.ref TI) rfl ?_)
 refine wg (WC hi rfl ?_);show wt _ _ (vF (.ref z) >>= _) _ _ _
 refine wg ?_;unfold vF;refine wg (vv hz rfl (x:=.none) rfl (wy ?_));simp only[if_true];refine wg (wpAny_rule ?_);refine wg (vv hz rfl (x:=.ref TO) rfl ?_);refine wg (W0 hz (by simp) λg1 zz1 sb1=>?_);have zz1:IsZip g1 z TI TO .ellipsis:=zz1;refine wg ?_;simp only[XV,X9,qp,Qo];refine wg (wg (wpAny_onRaise ?_));show wt _ _ (vJ (.ref i1) >>= _) _ _ _
 have h1a:S1 k g1:=D1.frame _ _ _ h1 λc hc o e=>sb1.extBut c o (λq=>ap.b1 (q ▸ hc)) e
 have h2a:S2 k g1:=D2.frame _ _ _ h2 λc hc o e=>sb1.extBut c o (λq=>ap.b2 (q ▸ hc)) e
 refine wg (D1.item k _ _ _ l1 h1a λx g2 t2 px h1b sb2=>wy ?_);have ho2:WD g2 TO a b:=sb2.extBut _ _ ap.a8 (sb1.extBut _ _ ap.a2 ho);have h2b:S2 k g2:=D2.frame _ _ _ h2a λc hc o e=>sb2.extBut c o (λq=>ap.b5 (q ▸ hc)) e
 refine wg (WC ho2 rfl ?_);refine wg (wpAny_updateSeq_pair ho2 λg3 ho3 sb3=>?_);have ho3:WD g3 TO x b:=ho3;have sb3:vG TO g2 g3:=sb3;have h1c:S1 (k+1) g3:=D1.frame _ _ _ h1b λc hc o e=>sb3.extBut c o (λq=>ap.b3 (q ▸ hc)) e
 have h2c:S2 k g3:=D2.frame _ _ _ h2b λc hc o e=>sb3.extBut c o (λq=>ap.b4 (q ▸ hc)) e
 refine wg (wpAny_letGo (wy ?_));refine wg (wg (wpAny_onRaise ?_))
 show wt _ _ (vJ (.ref i2) >>= _) _ _ _;refine wg (D2.item k _ _ _ l2 h2c λy g4 t4 py h2d sb4=>wy ?_)
 have sb4:vG i2 g3 g4:=sb4;have ho4:WD g4 TO x b:=sb4.extBut _ _ ap.a9 ho3;have h1d:S1 (k+1) g4:=D1.frame _ _ _ h1c λc hc o e=>sb4.extBut c o (λq=>ap.b6 (q ▸ hc)) e
 refine wg (WC ho4 rfl ?_);refine wg (wpAny_updateSeq_pair ho4 λg5 ho5 sb5=>?_);have ho5:WD g5 TO x y:=ho5;have sb5:vG TO g4 g5:=sb5;have h1e:S1 (k+1) g5:=D1.frame _ _ _ h1d λc hc o e=>sb5.extBut c o (λq=>ap.b3 (q ▸ hc)) e
 have h2e:S2 (k+1) g5:=D2.frame _ _ _ h2d λc hc o e=>sb5.extBut c o (λq=>ap.b4 (q ▸ hc)) e
 refine wg (wpAny_letGo (wy (wy ?_)));refine wg (WC ho5 rfl ?_);refine wg (wpAny_newTuple ?_);have sb2:vG i1 g1 g2:=sb2;have sb1:vG z s.heap g1:=sb1;have hsz:g5.objs.size=s.heap.objs.size:=by rw[sb5.1,sb4.1,sb3.1,sb2.1,sb1.1]
 have zz5:IsZip g5 z TI TO .ellipsis:=sb5.extBut _ _ ap.a2.symm (sb4.extBut _ _ ap.a4.symm (sb3.extBut _ _ ap.a2.symm (sb2.extBut _ _ ap.a3.symm zz1)));have kept:∀c o,c≠z->c≠TO->c≠i1->c≠i2->s.heap.get? c=some o->g5.get? c=some o:=λc o c1 c2 c3 c4 e=>sb5.extBut _ _ c2 (sb4.extBut _ _ c4 (sb3.extBut _ _ c2 (sb2.extBut _ _ c3 (sb1.extBut _ _ c1 e))))
 have zlt:z<g5.objs.size:=wC zz5
 show wt _ _ (qA (.ref z) (.ref g5.objs.size) >>= _) _ _ _;refine wg ?_;unfold qA
 have zz6:IsZip (g5.push {cls:=.type "tuple",data:=.seq #[x,y]}) z TI TO .ellipsis:=wn _ zz5;refine wg (W0 zz6 (by simp) λg7 zz7 sb7=>?_);have zz7:IsZip g7 z TI TO (Va g5.objs.size):=zz7;refine W0 zz7 (by simp) λg8 zz8 sb8=>?_
 have zz8:IsZip g8 z TI TO (Va g5.objs.size):=zz8;have sb7:vG z (g5.push {cls:=.type "tuple",data:=.seq #[x,y]}) g7:=sb7;have sb8:vG z g7 g8:=sb8;have up:∀c o,c≠z->g5.get? c=some o->g8.get? c=some o:=λc o c1 e=>sb8.extBut _ _ c1 (sb7.extBut _ _ c1 (wn _ e))
 have new8:WD g8 g5.objs.size x y:=sb8.extBut _ _ (vg zlt) (sb7.extBut _ _ (vg zlt) (wO _ rfl));rw[hsz]at zz8 new8;refine wy ⟨_,rfl,?_⟩
 show Q (.ref g5.objs.size) _
 rw[hsz];exact fin x y g8 _ px py zz8 (up _ _ ap.a2 ho5) (D1.frame _ _ _ h1e λc hc o e=>up c o (λq=>ap.b1 (q ▸ hc)) e) (D2.frame _ _ _ h2e λc hc o e=>up c o (λq=>ap.b2 (q ▸ hc)) e) new8 λc o c1 c2 c3 c4 e=>up c o c1 (kept c o c1 c2 c3 c4 e)
theorem KH{Q:Fin->wm->Prop}(D1:Draws prog w A i1 f1 n1 P1 S1)(D2:Draws prog w A i2 f2 n2 P2 S2)(ap:ZA z TI TO i1 i2 f1 f2)(hz:IsZip s.heap z TI TO .none)(hi:WD s.heap TI (.ref i1) (.ref i2))(ho:WD s.heap TO a b)
  (h1:S1 k s.heap) (h2:S2 k s.heap) (hk:k=n1\/(k<n1/\k=n2))
  (fin:∀h' e tk,(∀c o,c≠z->c≠TO->c≠i1->c≠i2->s.heap.get? c=some o->h'.get? c=some o)->(∃o,h'.get? e=some o/\o.cls=.type "StopIteration")->E (.ref e) {s with heap:=h',toks:=tk}) :
  wt (model prog w) A (Builtin.«zip.__next__» ⟨[.ref z],[]⟩) Q E s:=by
 show wt _ _ (field (.ref z) 2 >>= _) _ _ _;refine wg (vv hz rfl (x:=.bool false) rfl ?_)
 show wt _ _ (field (.ref z) 3 >>= _) _ _ _;refine wg (vv hz rfl (x:=.ref TI) rfl ?_)
 refine wg (WC hi rfl ?_);show wt _ _ (vF (.ref z) >>= _) _ _ _
 refine wg ?_;unfold vF;refine wg (vv hz rfl (x:=.none) rfl (wy ?_));simp only[if_true];refine wg (wpAny_rule ?_);refine wg (vv hz rfl (x:=.ref TO) rfl ?_);refine wg (W0 hz (by simp) λg1 zz1 sb1=>?_);have zz1:IsZip g1 z TI TO .ellipsis:=zz1;have sb1:vG z s.heap g1:=sb1;refine wg ?_;simp only[XV,X9,qp,Qo];refine wg (wg (wpAny_onRaise ?_));show wt _ _ (vJ (.ref i1) >>= _) _ _ _
 have h1a:S1 k g1:=D1.frame _ _ _ h1 λc hc o e=>sb1.extBut c o (λq=>ap.b1 (q ▸ hc)) e
 have h2a:S2 k g1:=D2.frame _ _ _ h2 λc hc o e=>sb1.extBut c o (λq=>ap.b2 (q ▸ hc)) e
 rcases hk with rfl | ⟨l1,rfl⟩
 ·refine wg (D1.done _ _ _ h1a λg2 e sb2 he=>?_)
  obtain⟨oe,hoe,hce⟩:=he;have zz2:IsZip g2 z TI TO .ellipsis:=sb2 _ _ ap.a3.symm zz1;have hez:e≠z:=λq=>by subst q;rw[zz2]at hoe;cases hoe;simp at hce
  exact W0 zz2 (by simp) λg3 _ sb3=>fin g3 e _ (λc o c1 _ c3 _ q=>sb3.extBut _ _ c1 (sb2 _ _ c3 (sb1.extBut _ _ c1 q))) ⟨oe,sb3.extBut _ _ hez hoe,hce⟩
 ·refine wg (D1.item k _ _ _ l1 h1a λx g2 t2 px h1b sb2=>wy ?_)
  have sb2:vG i1 g1 g2:=sb2;have ho2:WD g2 TO a b:=sb2.extBut _ _ ap.a8 (sb1.extBut _ _ ap.a2 ho);have h2b:S2 k g2:=D2.frame _ _ _ h2a λc hc o e=>sb2.extBut c o (λq=>ap.b5 (q ▸ hc)) e
  refine wg (WC ho2 rfl ?_);refine wg (wpAny_updateSeq_pair ho2 λg3 ho3 sb3=>?_);have sb3:vG TO g2 g3:=sb3;have h2c:S2 k g3:=D2.frame _ _ _ h2b λc hc o e=>sb3.extBut c o (λq=>ap.b4 (q ▸ hc)) e
  refine wg (wpAny_letGo (wy ?_));refine wg (wg (wpAny_onRaise ?_))
  show wt _ _ (vJ (.ref i2) >>= _) _ _ _;refine wg (D2.done _ _ _ h2c λg4 e sb4 he=>?_)
  obtain⟨oe,hoe,hce⟩:=he;have zz4:IsZip g4 z TI TO .ellipsis:=sb4 _ _ ap.a4.symm (sb3.extBut _ _ ap.a2.symm (sb2.extBut _ _ ap.a3.symm zz1));have hez:e≠z:=λq=>by subst q;rw[zz4]at hoe;cases hoe;simp at hce
  exact W0 zz4 (by simp) λg5 _ sb5=>fin g5 e _ (λc o c1 c2 c3 c4 q=>sb5.extBut _ _ c1 (sb4 _ _ c4 (sb3.extBut _ _ c2 (sb2.extBut _ _ c3 (sb1.extBut _ _ c1 q))))) ⟨oe,sb5.extBut _ _ hez hoe,hce⟩
end
variable{t:Bool}{a:we}
def dg(t:Bool)(K:wa)(H:Hp)(a:we)(xs:List V):Prop:=match t with
 | true=>aT K H a xs
 | false=>aE K H a xs
def j3(t:Bool)(h:wJ)(it a:we)(i:Nat):Prop:=match t with
 | true=>h.IsTupleIter it a i
 | false=>h.IsListIter it a i
def TM(t:Bool)(h:wJ)(a:we)(its:Array wf):Prop:=match t with
 | true=>h.IsTuple a its
 | false=>h.IsList a its
theorem pf{prog:wH}{w:wM}{A:w9}(t:Bool)(hh:A.handled=none)(it a:we)(hne:a≠it)(its:Array wf):Draws prog w A it [it,a] its.size (λi v=>its[i]? = some v) (λi h=>j3 t h it a i/\TM t h a its):=by
 cases t
 ·exact Draws.list hh it a hne its
 ·exact jZ hh it a hne its
theorem Inv.jB{X:Cx}{pins:List (we × Obj)}{σ : L2.St}{H:Hp}{s:wm}{xs:List V}(I:Inv X pins σ H s)(h:dg t X.K H a xs):∃its:List wf,aS xs its/\TM t s.heap a its.toArray:=by
 cases t
 ·obtain⟨its,r,p,_⟩:=I.list h
  exact⟨its,r,p.isList⟩
 ·obtain⟨its,r,p,_⟩:=I.tuple h
  exact⟨its,r,p⟩
theorem Inv.JR{X:Cx}{pins:List (we × Obj)}{σ : L2.St}{H:Hp}{s:wm}{xs ys:List V}(I:Inv X pins σ H s)(h:dg t X.K H a xs)(k:dg t X.K H a ys):xs=ys:=by
 cases t
 ·exact I.Be h k
 ·exact I.Bb h k
theorem j3.obj{h:wJ}{it:we}{i:Nat}(st:j3 t h it a i):∃o,h.get? it=some o /\ ∀v,o.data≠.cell v:=by
 cases t
 ·obtain⟨o,e,_,d⟩:=st
  exact⟨o,e,λv z=>by rw[d]at z;cases z⟩
 ·obtain⟨o,e,_,d⟩:=st
  exact⟨o,e,λv z=>by rw[d]at z;cases z⟩
theorem j3.at{h h':wJ}{it:we}{i:Nat}(st:j3 t h it a i)(k:∀o,h.get? it=some o->h'.get? it=some o):j3 t h' it a i:=by
 cases t
 ·exact Heap.IsListIter.at st k
 ·exact Heap.IsTupleIter.at st k
def mr(t u:Bool)(K:wa)(a b:we):It :=
 ⟨λi H=>∃xs x ys y,dg t K H a xs/\xs[i]? = some x/\dg u K H b ys/\ys[i]? = some y,
  λi H v H'=>∃(c:we)(x y:V),v=.ref c/\H c=none/\(∀xs,dg t K H a xs->xs[i]? = some x)/\(∀ys,dg u K H b ys->ys[i]? = some y)/\H'=upd H c (.tup [x,y]),
  λi H=>∃xs ys,dg t K H a xs/\dg u K H b ys/\(xs.length=i\/(i<xs.length/\ys.length=i))⟩
theorem zzZ{P:wH}{w:wM}{K:wa}{elts:List Expr}{k1}{tpos:Pos}{u:Bool}(a b z TI TO i1 i2:we)(ap:ZA z TI TO i1 i2 [i1,a] [i2,b])(na:a≠i1)(nb:b≠i2) :
  jL P w K (.Tuple elts k1 tpos) (mr t u K a b) [z,TI,TO,i1,i2] z (λi h=>IsZip h z TI TO .none/\WD h TI (.ref i1) (.ref i2)/\(∃p q,WD h TO p q)/\j3 t h i1 a i/\j3 u h i2 b i) where
 mem:=by simp
 obj:=λi h st c hc=>by
  obtain⟨hz,hi,⟨p,q,ho⟩,s1,s2⟩:=st;simp only[wL,VJ,or_false]at hc;rcases hc with rfl | rfl | rfl | rfl | rfl
  ·exact⟨_,hz,λv z=>by cases (show Data.fields _=Data.cell v from z)⟩
  ·exact⟨_,hi,λv z=>by cases (show Data.seq _ _=Data.cell v from z)⟩
  ·exact⟨_,ho,λv z=>by cases (show Data.seq _ _=Data.cell v from z)⟩
  ·exact s1.obj
  ·exact s2.obj
 keep:=λi h h' st k=>by
  obtain⟨hz,hi,⟨p,q,ho⟩,s1,s2⟩:=st;exact⟨k z (by simp) _ hz,k TI (by simp) _ hi,⟨p,q,k TO (by simp) _ ho⟩,s1.at λo e=>k i1 (by simp) o e,s2.at λo e=>k i2 (by simp) o e⟩
 item:=by
  intro X hP hw hK hc i pins s σ H E I hf st hg;subst hP hw hK;obtain⟨hz,hi,⟨p,q,ho⟩,s1,s2⟩:=st;obtain⟨xs,x,ys,y,hq1,hx,hq2,hy⟩:=hg;obtain⟨its,r1,p1⟩:=I.jB hq1;obtain⟨jts,r2,p2⟩:=I.jB hq2;obtain⟨ux,hux,rux⟩:=r1.get hx;obtain⟨uy,huy,ruy⟩:=r2.get hy
  have lt1:i<its.toArray.size:=by
   rcases wG i its.length with q | q
   ·simpa using q
   ·rw[wI q]at hux;cases hux
  have lt2:i<jts.toArray.size:=by
   rcases wG i jts.length with q | q
   ·simpa using q
   ·rw[wI q]at huy;cases huy
  have hT:s.TypeIs (.ref z) "zip":=⟨_,hz,rfl⟩;unfold pyNext
  refine wg (Vu (wpAny_callSpecial?_slot (name:=vW "__next__") hT Wv (Wj Wv hT VL
   (KN (pf (A:=X.A.in1) t (I.ok.hd hc) i1 a na its.toArray) (pf (A:=X.A.in1) u (I.ok.hd hc) i2 b nb jts.toArray) ap hz hi ho ⟨s1,p1⟩ ⟨s2,p2⟩ lt1 lt2 λv1 v2 h1 tk e1 e2 hz1 ho1 st1 st2 hT1 hk=>wy ?_) (Vy _))))
  have ev1:v1=ux:=by
   have e1':its[i]? = some v1:=by simpa using e1
   rw[hux]at e1';exact(wZ e1').symm
  have ev2:v2=uy:=by
   have e2':jts[i]? = some v2:=by simpa using e2
   rw[huy]at e2';exact(wZ e2').symm
  subst ev1 ev2
  have I1:Inv X pins σ (upd H s.heap.objs.size (.tup [x,y])) {s with heap:=s.heap.push {cls:=.type "tuple",data:=.seq ([v1,v2]:List wf).toArray},toks:=tk} :=
   I.laid (λc o q=>wn _ q) (wp _) (show dR X.prog X.w _ _ _ (.tup [x,y])from⟨nR (by simp),_,.cons rux (.cons ruy .nil),qX _ _⟩)
  have ltf:∀c∈[z,TI,TO,i1,i2],c<s.heap.objs.size:=λc hc=>by
   simp only[wL,VJ,or_false]at hc;rcases hc with rfl | rfl | rfl | rfl | rfl
   ·exact wC hz
   ·exact wC hi
   ·exact wC ho
   ·obtain⟨o,e,_⟩:=s1.obj;exact wC e
   ·obtain⟨o,e,_⟩:=s2.obj;exact wC e
  have hf1:∀c∈[z,TI,TO,i1,i2],eS X pins (upd H s.heap.objs.size (.tup [x,y])) c:=λc hc=>⟨by rw[eJ (wQ (ltf c hc))];exact(hf c hc).1,(hf c hc).2⟩
  refine⟨_,rfl,wpAny_letOwnedTupleGo_zip hz1 λh2 hz2 hs2=>?_⟩;have hs2:vG z h1 h2:=hs2
  refine⟨.ref s.heap.objs.size,_,Inv.sT (s:={s with heap:=s.heap.push {cls:=.type "tuple",data:=.seq ([v1,v2]:List wf).toArray},toks:=tk}) (ch:=[z,TI,TO,i1,i2]) I1 (λc o hc q=>?_) hf1,rfl,
   ⟨_,x,y,rfl,I.aM.fresh (wp _),λzs hzs=>by rw[I.JR hzs hq1];exact hx,λzs hzs=>by rw[I.JR hzs hq2];exact hy,rfl⟩,
   ⟨hz2,hs2.extBut _ _ ap.a1 (hk _ _ ap.a1 ap.a5 ap.a6 ap.a7 hi),⟨_,_,hs2.extBut _ _ ap.a2 ho1⟩,st1.1.at λo e=>hs2.extBut _ _ ap.a3 e,st2.1.at λo e=>hs2.extBut _ _ ap.a4 e⟩,λc hc=>(hf1 c hc).1⟩
  have c1:c≠z:=λq=>hc (by simp[q])
  have c2:c≠TO:=λq=>hc (by simp[q])
  have c3:c≠i1:=λq=>hc (by simp[q])
  have c4:c≠i2:=λq=>hc (by simp[q])
  refine hs2.extBut _ _ c1 ?_
  by_cases hcs:c=s.heap.objs.size
  ·subst hcs
   rw[wO _ rfl]at q;cases q;exact hT1
  ·exact hk c o c1 c2 c3 c4 (by rw[QI _ _ _ hcs]at q;exact q)
 done:=by
  intro X hP hw hK hc i pins s σ H E I hf st hg;subst hP hw hK;obtain⟨hz,hi,⟨p,q,ho⟩,s1,s2⟩:=st;obtain⟨xs,ys,hq1,hq2,hend⟩:=hg;obtain⟨its,r1,p1⟩:=I.jB hq1;obtain⟨jts,r2,p2⟩:=I.jB hq2;have e1:=r1.length;have e2:=r2.length;have hT:s.TypeIs (.ref z) "zip":=⟨_,hz,rfl⟩;unfold pyNext
  refine wg (Vu (wpAny_callSpecial?_slot (name:=vW "__next__") hT Wv (Wj Wv hT VL
   (KH (k:=i) (pf (A:=X.A.in1) t (I.ok.hd hc) i1 a na its.toArray) (pf (A:=X.A.in1) u (I.ok.hd hc) i2 b nb jts.toArray) ap hz hi ho ⟨s1,p1⟩ ⟨s2,p2⟩ (by simp only[wK];lia) λh' y tk hk hx'=>?_) (Vy _))))
  obtain⟨o,ho',hcl⟩:=hx';refine wg (Vf (T:="StopIteration") (b:=true) ⟨o,ho',hcl⟩ isSubtype_stop (wy ⟨rfl,?_⟩));exact Inv.sT (ch:=[z,TI,TO,i1,i2]) I (λc o hc e=>hk c o (λq=>hc (by simp[q])) (λq=>hc (by simp[q])) (λq=>hc (by simp[q])) (λq=>hc (by simp[q])) e) hf
 self:=λ_ _ _ _ _ st h=>wpAny_pyIter_zip st.1 h
abbrev uN(h:wJ)(a:we):wJ:=h.push {cls:=.type "tuple_iterator",data:=.fields #[.ref a,.int 0 0]}
abbrev z9(h:wJ)(a b:we):wJ:=(uN h a).push {cls:=.type "tuple_iterator",data:=.fields #[.ref b,.int 0 0]}
abbrev zG(h:wJ)(a b:we):wJ:=(z9 h a b).push {cls:=.type "tuple",data:=.seq #[.ref h.objs.size,.ref (uN h a).objs.size]}
abbrev Az(h:wJ)(a b:we):wJ:=(zG h a b).push {cls:=.type "tuple",data:=.seq #[.none,.none]}
abbrev nU(h:wJ)(a b:we):wJ:=(Az h a b).push {cls:=.type "zip",data:=.fields #[.none,.bool false,.bool false,.ref (z9 h a b).objs.size,.ref (zG h a b).objs.size]}
theorem zuC(a b:we)(xs ys:Array wf):Meets (Builtin.«zip.__new__» ⟨[.type "zip",.ref a,.ref b],[]⟩) (λ_ R s=>s.heap.IsTuple a xs/\s.heap.IsTuple b ys/\R (.ok (.ret (.ref (Az s.heap a b).objs.size))) {s with heap:=nU s.heap a b}) :=
 .of_wp λprog w A R s h=>by
  obtain⟨hp,g,d,tk,os⟩:=s;obtain⟨ha,hb,h⟩:=h;have hsub:=sub_zip;have hA:x6 (Xz ⟨hp,g,d,tk,os⟩) a xs:=ha;have hB:x6 (Xz ⟨hp.push {cls:=.type "tuple_iterator",data:=.fields #[.ref a,.int 0 0]},g,d,tk,os⟩) b ys:=hb.at λo e=>wn _ e
  wp_walk using Vm hA,Vm hB
  exact⟨_,rfl,h⟩
section
variable{prog:wH}{w:wM}{A:w9}{E:wf->wm->Prop}{s:wm}
theorem Ts{a b:we}{xs ys:Array wf}{Q:wf->wm->Prop}(ha:s.heap.IsTuple a xs)(hb:s.heap.IsTuple b ys)
  (fin:∀h',IsZip h' (s.heap.objs.size+4) (s.heap.objs.size+2) (s.heap.objs.size+3) .none->WD h' (s.heap.objs.size+2) (.ref s.heap.objs.size) (.ref (s.heap.objs.size+1))->WD h' (s.heap.objs.size+3) .none .none ->
   h'.IsTupleIter s.heap.objs.size a 0->h'.IsTupleIter (s.heap.objs.size+1) b 0->(∀c o,s.heap.get? c=some o->h'.get? c=some o)->Q (.ref (s.heap.objs.size+4)) {s with heap:=h'}):wt (model prog w) A (call (.type "zip") [.ref a,.ref b]) Q E s:=by
 refine callType_new F.called_zip (by decide) (F.typeCall_zip_2 _ _) (F.newCall_zip_2 _ _) (λobj=>F.args_object_init_3 obj _ _) F.entry_zip_new (zuC a b xs ys) ⟨ha,hb,?_⟩;have z1:(uN s.heap a).objs.size=s.heap.objs.size+1:=V8 ..;have z2:(z9 s.heap a b).objs.size=s.heap.objs.size+2:=by rw[V8,z1]
 have z3:(zG s.heap a b).objs.size=s.heap.objs.size+3:=by rw[V8,z2]
 have z4:(Az s.heap a b).objs.size=s.heap.objs.size+4:=by rw[V8,z3]
 have g5:(nU s.heap a b).get? (Az s.heap a b).objs.size=some _:=wO _ rfl;have g4:(nU s.heap a b).get? (zG s.heap a b).objs.size=some _:=wn _ (wO _ rfl);have g3:(nU s.heap a b).get? (z9 s.heap a b).objs.size=some _:=wn _ (wn _ (wO _ rfl));have g2:(nU s.heap a b).get? (uN s.heap a).objs.size=some _:=wn _ (wn _ (wn _ (wO _ rfl)));have g1:(nU s.heap a b).get? s.heap.objs.size=some _:=wn _ (wn _ (wn _ (wn _ (wO _ rfl))))
 show _/\_
 rw[z2,z3,z4]at g5;rw[z1,z2]at g3;rw[z3]at g4;rw[z1]at g2;rw[z4];exact⟨⟨_,g5,rfl⟩,fin _ g5 g3 g4 ⟨_,g1,rfl,rfl⟩ ⟨_,g2,rfl,rfl⟩ λc o x=>wn _ (wn _ (wn _ (wn _ (wn _ x))))⟩
end
variable{a:we}{X:Cx}{elts:List Expr}{tpos:Pos}
def yV(t u:Bool)(K:wa)(ta:TA):TI:=λσ H R=>ta σ H λvs H1=>∃a b,vs=[.ref a,.ref b]/\(∃xs,dg t K H1 a xs)/\(∃ys,dg u K H1 b ys)/\R (mr t u K a b) H1
theorem Eo :vI "zip"=some (.type "zip"):=by decide +kernel
theorem oP{x b:we}(h:x≠a)(k:x≠b):x ∉ [a,b]:=by simp[h,k]
theorem UE{n a b:Nat}(la:a<n)(lb:b<n):ZA (n+4) (n+2) (n+3) n (n+1) [n,a] [n+1,b] where
 a1:=wQ (by lia)
 a2:=wQ (by lia)
 a3:=wQ (by lia)
 a4:=wQ (by lia)
 a5:=wQ (by lia)
 a6:=vg (by lia)
 a7:=vg (by lia)
 a8:=vg (by lia)
 a9:=vg (by lia)
 b0:=wQ (by lia)
 b1:=oP (vg (by lia)) (vg (by lia))
 b2:=oP (vg (by lia)) (vg (by lia))
 b3:=oP (vg (by lia)) (vg (by lia))
 b4:=oP (vg (by lia)) (vg (by lia))
 b5:=oP (wQ (by lia)) (vg (by lia))
 b6:=oP (vg (by lia)) (vg (by lia))
theorem Nw{k1}{pins:List (we × Obj)}{σ : L2.St}{H:Hp}{s:wm}{R:It->Hp->Prop}{h':wJ}{E:wf->wm->Prop}{t u:Bool}{b:we}(I:Inv X pins σ H s)(la:a<s.heap.objs.size)(lb:b<s.heap.objs.size)
  (hz:IsZip h' (s.heap.objs.size+4) (s.heap.objs.size+2) (s.heap.objs.size+3) .none) (hi:WD h' (s.heap.objs.size+2) (.ref s.heap.objs.size) (.ref (s.heap.objs.size+1))) (ho:WD h' (s.heap.objs.size+3) .none .none)
  (s1:j3 t h' s.heap.objs.size a 0) (s2:j3 u h' (s.heap.objs.size+1) b 0) (kp:∀c o,s.heap.get? c=some o->h'.get? c=some o) (q:R (mr t u X.K a b) H):wt (model X.prog X.w) X.A (pyIter (.ref (s.heap.objs.size+4))) (BF X pins σ (.Tuple elts k1 tpos) R) E {s with heap:=h'}:=by
 refine wpAny_pyIter_zip hz ?_;refine⟨s.heap.objs.size+4,[s.heap.objs.size+4,s.heap.objs.size+2,s.heap.objs.size+3,s.heap.objs.size,s.heap.objs.size+1],_,_,H,rfl,I.kept (t':=s.toks) kp,zzZ a b _ (s.heap.objs.size+2) (s.heap.objs.size+3) s.heap.objs.size (s.heap.objs.size+1) (UE la lb) (wQ la) (wQ (qN lb)),⟨hz,hi,⟨_,_,ho⟩,s1,s2⟩,λc hc=>?_,q⟩
 ·have hb':s.heap.objs.size<=c:=by
   simp only[wL,VJ,or_false]at hc;rcases hc with rfl | rfl | rfl | rfl | rfl
   ·exact Ve _ 4
   ·exact Ve _ 2
   ·exact Ve _ 3
   ·exact wp _
   ·exact Ve _ 1
  exact I.kc hb' (I.aM.fresh hb')
theorem zBO{k1}{p pos:Pos}{l m:Expr}{ta:TA}(hg:Gl X "zip")(hm:X.mg "zip"=none)(ha:PA X [l,m] ta)(hs:wS [l,m] X.env=[(false,eval l X.env),(false,eval m X.env)]:=by rfl)(hs2:wS [m] X.env=[(false,eval m X.env)]:=by rfl) :
  PI X (.Tuple elts k1 tpos) (.Call (.Name "zip" p) [l,m] [] pos) (yV true true X.K ta):=by
 intro pins s σ H R I h;refine Call_ (hJ I hg hm Eo (vn (aP (ha pos pins s σ H _ I h) λus s1 ⟨vs,H1,I1,r1,q1⟩=>?_) (by rw[hs,hs2]) (by rw[hs2];rfl)));obtain⟨a,b,rfl,⟨xs,hq1⟩,⟨ys,hq2⟩,q⟩:=q1;obtain⟨u,v,rfl,ru,rv⟩:=mT r1;cases ru;cases rv;obtain⟨its,_,p1⟩:=I1.jB hq1;obtain⟨jts,_,p2⟩:=I1.jB hq2;have la:a<s1.heap.objs.size:=by obtain⟨o,e,_⟩:=(show s1.heap.IsTuple a its.toArray from p1);exact wC e
 have lb:b<s1.heap.objs.size:=by obtain⟨o,e,_⟩:=(show s1.heap.IsTuple b jts.toArray from p2);exact wC e
 exact Ts p1 p2 λh' hz hi ho t1 t2 kp=>Nw (t:=true) (u:=true) I1 la lb hz hi ho t1 t2 kp q
theorem FZ{k1}{p pos:Pos}{l m:Expr}{ta:TA}(hg:Gl X "zip")(hm:X.mg "zip"=none)(ha:PA X [l,m] ta)(hs:wS [l,m] X.env=[(false,eval l X.env),(false,eval m X.env)]:=by rfl)(hs2:wS [m] X.env=[(false,eval m X.env)]:=by rfl) :
  PI X (.Tuple elts k1 tpos) (.Call (.Name "zip" p) [l,m] [] pos) (yV false false X.K ta):=by
 intro pins s σ H R I h;refine Call_ (hJ I hg hm Eo (vn (aP (ha pos pins s σ H _ I h) λus s1 ⟨vs,H1,I1,r1,q1⟩=>?_) (by rw[hs,hs2]) (by rw[hs2];rfl)));obtain⟨a,b,rfl,⟨xs,hq1⟩,⟨ys,hq2⟩,q⟩:=q1;obtain⟨u,v,rfl,ru,rv⟩:=mT r1;cases ru;cases rv;obtain⟨its,_,p1⟩:=I1.jB hq1;obtain⟨jts,_,p2⟩:=I1.jB hq2;have la:a<s1.heap.objs.size:=by obtain⟨o,e,_⟩:=(show s1.heap.IsList a its.toArray from p1);exact wC e
 have lb:b<s1.heap.objs.size:=by obtain⟨o,e,_⟩:=(show s1.heap.IsList b jts.toArray from p2);exact wC e
 exact call_zip_2 p1 p2 λh' hz hi ho t1 t2 _ kp=>Nw (t:=false) (u:=false) I1 la lb hz hi ho t1 t2 kp q
theorem dg.same{t:Bool}{K:wa}{H H':Hp}{xs:List V}(s:ar H H')(h:dg t K H a xs):dg t K H' a xs:=by
 cases t
 ·exact s.seq h
 ·exact s.j6 h
def Ra(t u:Bool)(K:wa)(g:TG)(tb:TS)(D:cR)(σ : L2.St)(vs:List V)(H1:Hp):Prop:=∃a b,vs=[.ref a,.ref b]/\(∃xs,dg t K H1 a xs)/\(∃ys,dg u K H1 b ys) /\
 ∃W:Nat->Nat->L2.St->Hp->Prop,(∃m,W 0 m σ H1) /\ ∀i m σ H,W i m σ H ->
  ((mr t u K a b).stop i H/\D.nx σ H)\/((mr t u K a b).go i H /\ ∃M:L2.St->Hp->Prop,(∀σ' H',M σ' H'->∃m',m'<m/\W (i+1) m' σ' H') /\ ∀x H',(mr t u K a b).fD i H x H'->g x σ H' λσ2 H2=>tb {D with nx:=M,ct:=M,bk:=D.nx} σ2 H2)
def Gr(t u:Bool)(K:wa)(g:TG)(tt:TT)(te:TE)(src:List (Option Nat))(σ : L2.St)(vs:List V)(H1:Hp)(Q:VK):Prop:=∃a b,vs=[.ref a,.ref b]/\(∃xs,dg t K H1 a xs)/\(∃ys,dg u K H1 b ys) /\
 ∀D,H1 D=none->kg g tt te (mr t u K a b) D (dS src σ) (upd H1 D (.lst [])) (λH'=>Q (.ref D) H')
section
variable{t u:Bool}{K:wa}{ta:TA}{g:TG}{tb:TS}{tt:TT}{te:TE}{D:cR}{σ : L2.St}{H:Hp}{Q:VK}{a b:we}{xs ys:List V}{src:List (Option Nat)}{o0 o0':Option V}{tl:L2.St}
theorem zBg(h:ta σ H λvs H1=>Ra t u K g tb D σ vs H1):ml (yV t u K ta) g tb D σ H:=h
theorem zyQ(h:ta σ H λvs H1=>Gr t u K g tt te src σ vs H1 Q):kM src (yV t u K ta) g tt te σ H Q:=h
theorem Zj(hx:dg t K H a xs)(hy:dg u K H b ys)(hxy:xs.length=ys.length)(Pv:Nat->L2.St->Hp->Prop)(h0:Pv 0 σ H)(hl:∀i σ H,i<=xs.length->Pv i σ H->dg t K H a xs/\dg u K H b ys)
  (hs:∀i x y σ H c H',xs[i]? = some x->ys[i]? = some y->Pv i σ H->H c=none->ar H H'->H' c=some (.tup [x,y])->g (.ref c) σ H' λσ2 H2=>tb {D with nx:=Pv (i+1),ct:=Pv (i+1),bk:=D.nx} σ2 H2) (hd:∀σ H,Pv xs.length σ H->D.nx σ H):Ra t u K g tb D σ [.ref a,.ref b] H:=by
 refine⟨a,b,rfl,⟨xs,hx⟩,⟨ys,hy⟩,λi m σ H=>i+m=xs.length/\Pv i σ H,⟨xs.length,by lia,h0⟩,?_⟩;rintro i m σ H ⟨him,hp⟩;obtain⟨hq1,hq2⟩:=hl i σ H (by lia) hp
 by_cases hm:m=0
 ·have e:i=xs.length:=by lia
  subst e;exact .inl ⟨⟨xs,ys,hq1,hq2,.inl rfl⟩,hd _ _ hp⟩
 ·have hi:i<xs.length:=by lia
  have hj:i<ys.length:=by lia
  refine .inr ⟨⟨xs,xs[i],ys,ys[i],hq1,by simp[hi],hq2,by simp[hj]⟩,λσ' H'=>Pv (i+1) σ' H',λσ' H' h=>⟨m-1,by lia,by lia,h⟩,?_⟩;rintro v H' ⟨c,x,y,rfl,hn,hx',hy',rfl⟩;exact hs i x y σ H c _ (hx' xs hq1) (hy' ys hq2) hp hn (ar.upd hn) dh
def gy(H:Hp)(tl:L2.St)(Rel:Nat->V->Hp->Prop)(D:we)(i:Nat)(zs:List V)(σ':L2.St)(H':Hp):Prop :=
 (∃o1 o2,σ'=o1::o2::tl)/\H D=none/\ar H H'/\H' D=some (.lst zs)/\zs.length=i /\ ∀j y,zs[j]? = some y->Rel j y H'
theorem rZ{Rel:Nat->V->Hp->Prop}{D:we}{i:Nat}{zs:List V}{σ' σ3:L2.St}{H1 H5:Hp}{y:V}(inv:gy H tl Rel D i zs σ' H1)(hi:i<=1000)(hk:∀i v H1 H2,a_ H1 H2->Rel i v H1->Rel i v H2)(hσ : ∃o1 o2,σ3=o1::o2::tl)(s:ar H1 H5)(r:Rel i y H5):rV (gy H tl Rel) D i σ3 y H5:=by
 obtain⟨_,hn,s1,hD,hl,hr⟩:=inv;have hD5:=s _ _ hD;refine ji hD5 (by lia) λH6 E6 e6=>⟨hσ,hn,(s1.trans s).grow hn E6,e6,by simp[hl],λj z hz=>?_⟩
 have k6:a_ H5 H6:=E6.keep hD5;rcases wG j zs.length with hj | hj
 ·rw[Wk hj]at hz
  exact hk _ _ _ _ (s.keep.trans k6) (hr j z hz)
 ·have hj':j=zs.length:=by
   rcases wG zs.length j with q | q
   ·rw[wI (by simp;lia)]at hz;cases hz
   ·lia
  subst hj';rw[vQ (wp _),V6]at hz;cases hz;rw[hl];exact hk _ _ _ _ k6 r
theorem Og(hx:dg t K H a xs)(hy:dg u K H b ys)(hxy:xs.length=ys.length)(hsrc:dS src σ = o0::o0'::tl)(Rel:Nat->V->Hp->Prop)(hk:∀i v H1 H2,a_ H1 H2->Rel i v H1->Rel i v H2)
  (hs:∀D i x y zs o1 o2 H1 c,xs[i]? = some x->ys[i]? = some y->gy H tl Rel D i zs (o1::o2::tl) H1->H1 c=some (.tup [x,y])->iL (gy H tl Rel) g tt te D i (.ref c) (o1::o2::tl) H1)
  (hd:∀D zs H',H D=none->ar H H'->H' D=some (.lst zs)->zs.length=xs.length->(∀j y,zs[j]? = some y->Rel j y H')->Q (.ref D) H'):Gr t u K g tt te src σ [.ref a,.ref b] H Q:=by
 refine⟨a,b,rfl,⟨xs,hx⟩,⟨ys,hy⟩,λD hD=>⟨λi m σ' H'=>i+m=xs.length /\ ∃zs,gy H tl Rel D i zs σ' H',⟨xs.length,by lia,[],⟨o0,o0',hsrc⟩,hD,ar.upd hD,dh,rfl,λj y z=>by simp at z⟩,?_⟩⟩;rintro i m σ' H' ⟨him,zs,inv⟩;have hq1:=dg.same inv.2.2.1 hx;have hq2:=dg.same inv.2.2.1 hy
 by_cases hm:m=0
 ·have e:i=xs.length:=by lia
  subst e;obtain⟨_,n,s,e,hl,r⟩:=inv;exact .inl ⟨⟨xs,ys,hq1,hq2,.inl rfl⟩,hd D zs H' n s e hl r⟩
 ·have hi:i<xs.length:=by lia
  have hj:i<ys.length:=by lia
  refine .inr ⟨⟨xs,xs[i],ys,ys[i],hq1,by simp[hi],hq2,by simp[hj]⟩,λσ2 H2=>∃zs,gy H tl Rel D (i+1) zs σ2 H2,λσ2 H2 h=>⟨m-1,by lia,by lia,h⟩,?_⟩;rintro v H2 ⟨c,x,y,rfl,hn,hx',hy',rfl⟩;obtain⟨⟨o1,o2,rfl⟩,n,s,e,hl,r⟩:=inv;have su:=ar.upd (o:=.tup [x,y]) hn;exact hs D i x y zs o1 o2 _ c (hx' xs hq1) (hy' ys hq2) ⟨⟨o1,o2,rfl⟩,n,s.trans su,su _ _ e,hl,λj y hy=>hk _ _ _ _ su.keep (r j y hy)⟩ dh
end
def Cr(K:wa):List V->Hp->VK->Prop:=λxs H Q=>∃(p:we)(ns:List Int),xs=[.ref p]/\aT K H p (ns.map V.int)/\Q (.int ns.sum) H
theorem zq:vI "sum"=some (.builtin "sum"):=by decide +kernel
open PyProof.V PySem.Calls in
theorem zwX{X:Cx}(hc:X.calm=true):bS X (.builtin "sum") (Cr X.K):=by
 intro pins s σ H xs us Q I r h;obtain⟨p,ns,rfl,hq,q⟩:=h;obtain⟨u,rfl,rx⟩:=iZ r;cases rx;obtain⟨its,r',pl,hz⟩:=I.tuple hq;have hI:=zj r';have hT:s.heap.IsTuple p its.toArray:=pl;obtain⟨zs,hx⟩:=hI.allInts.items;have hn:numsOf its.toArray.toList=ns:=by rw[show its.toArray.toList=its from rfl,hI.numsOf]
 rw[hx]at hT hn;rw[nums_intItems]at hn;refine PySem.W.ktm_sumG (I.ok.hd hc) hT λh' tk t' hk=>?_
 rw[preSum_eq,WQ (by simp),hn];exact⟨.int ns.sum,H,I.kept (t':=tk) hk,⟨_,rfl⟩,q⟩
theorem ZX{K:wa}{H:Hp}{Q:VK}{v:V}{ns:List Int}(h:Is K H v (TZ ns))(q:Q (.int ns.sum) H):Cr K [v] H Q:=by
 obtain⟨a,rfl,hs⟩:=rQ.mp h;exact⟨a,ns,rfl,hs,q⟩
theorem zyJ{α : Type}(xs:List α)(k:Nat)(h:k<=xs.length):jK xs (some (k:Int)) none=xs.drop k:=by
 unfold jK;rw[HT.YI,HT.YM,Nat.min_eq_left h];exact WQ (by rw[Wh];lia)
def oS(K:wa):List V->Hp->VK->Prop:=λxs H Q=>∃(p:we)(bs:List Bool),xs=[.ref p]/\aE K H p (bs.map V.bl)/\Q (.bl (bs.all id)) H
theorem u_:vI "all"=some (.builtin "all"):=by decide +kernel
theorem Mx{bs:List Bool} : ∀{us:List wf},aS (bs.map V.bl) us->us=bs.map Value.bool:=by
 induction bs with
 | nil=>intro us r;rw[QP]at r;cases r;rfl
 | cons b bs ih =>
  intro us r;rw[vd]at r;cases r with
  | cons r1 r2 =>
   cases r1;rw[vd,ih r2]
theorem zuR(bs:List Bool):((wo bs.length).all λi=>(bs[i]?).getD true)=bs.all id:=by
 rw[vi,Wc,Wc]
 constructor
 ·intro h b hb
  obtain⟨i,hi,rfl⟩:=ve hb;have:=h i (wF.mpr hi);rw[wc hi]at this;exact this
 ·intro h i hi
  rw[wF]at hi;rw[wc hi];exact h _ (Wi hi)
open PyProof.V PySem.Calls in
theorem tF{X:Cx}(hc:X.calm=true):bS X (.builtin "all") (oS X.K):=by
 intro pins s σ H xs us Q I r h;obtain⟨p,bs,rfl,hq,q⟩:=h;obtain⟨u,rfl,rx⟩:=iZ r;cases rx;obtain⟨its,r',pl,hz⟩:=I.list hq;have hi:its=bs.map Value.bool:=Mx r';have hl:s.heap.IsList p its.toArray:=pl.isList;have hlt:p<s.heap.objs.size:=by obtain⟨_,e,_⟩:=hl;exact wC e
 refine call_all_walk (V2 hl ?_)
 refine⟨s.heap.objs.size,[s.heap.objs.size,p],[s.heap.objs.size],its.toArray.size,_,_,λi=>(bs[i]?).getD true,rfl,ua (A:=X.A.in1) (I.ok.hd hc) _ p (wQ hlt) its.toArray,
  ⟨⟨_,wO _ rfl,rfl,rfl⟩,hl.push _⟩,λi v s' Q' E' hP hQ=>?_,λh' tk hk=>?_⟩
 ·have hP:its.toArray[i]? = some v:=hP
  rw[hi]at hP;simp only[xu,wq,Vg]at hP;obtain⟨b,e,rfl⟩:=hP;simp only[e,QU]at hQ;exact Wy hQ
 ·have e:((wo its.toArray.size).all λi=>(bs[i]?).getD true)=bs.all id:=by
   rw[wK,hi,wl];exact zuR bs
  rw[e];exact⟨.bl (bs.all id),H,I.kept (t':=tk) (λb x e=>hk b x (λhm=>by rw[w6.mp hm]at e;exact W3 _ (wC e)) (wn _ e)),rfl,q⟩
theorem rF{K:wa}{H:Hp}{Q:VK}{p:we}{bs:List Bool}(h:aE K H p (bs.map V.bl))(q:Q (.bl (bs.all id)) H):oS K [.ref p] H Q:=⟨p,bs,rfl,h,q⟩
section
variable{t u:Bool}{K:wa}{g:TG}{tt:TT}{te:TE}{σ : L2.St}{H:Hp}{Q:VK}{a b:we}{xs ys:List V}{src:List (Option Nat)}{o0 o0':Option V}{tl:L2.St}
theorem zyn(hx:dg t K H a xs)(hy:dg u K H b ys)(hxy:ys.length<xs.length)(hsrc:dS src σ = o0::o0'::tl)(Rel:Nat->V->Hp->Prop)(hk:∀i v H1 H2,a_ H1 H2->Rel i v H1->Rel i v H2)
  (hs:∀D i x y zs o1 o2 H1 c,xs[i]? = some x->ys[i]? = some y->gy H tl Rel D i zs (o1::o2::tl) H1->H1 c=some (.tup [x,y])->iL (gy H tl Rel) g tt te D i (.ref c) (o1::o2::tl) H1)
  (hd:∀D zs H',H D=none->ar H H'->H' D=some (.lst zs)->zs.length=ys.length->(∀j y,zs[j]? = some y->Rel j y H')->Q (.ref D) H'):Gr t u K g tt te src σ [.ref a,.ref b] H Q:=by
 refine⟨a,b,rfl,⟨xs,hx⟩,⟨ys,hy⟩,λD hD=>⟨λi m σ' H'=>i+m=ys.length /\ ∃zs,gy H tl Rel D i zs σ' H',⟨ys.length,by lia,[],⟨o0,o0',hsrc⟩,hD,ar.upd hD,dh,rfl,λj y z=>by simp at z⟩,?_⟩⟩;rintro i m σ' H' ⟨him,zs,inv⟩;have hq1:=dg.same inv.2.2.1 hx;have hq2:=dg.same inv.2.2.1 hy
 by_cases hm:m=0
 ·have e:i=ys.length:=by lia
  subst e;obtain⟨_,n,s,e,hl,r⟩:=inv;exact .inl ⟨⟨xs,ys,hq1,hq2,.inr ⟨hxy,rfl⟩⟩,hd D zs H' n s e hl r⟩
 ·have hi:i<xs.length:=by lia
  have hj:i<ys.length:=by lia
  refine .inr ⟨⟨xs,xs[i],ys,ys[i],hq1,by simp[hi],hq2,by simp[hj]⟩,λσ2 H2=>∃zs,gy H tl Rel D (i+1) zs σ2 H2,λσ2 H2 h=>⟨m-1,by lia,by lia,h⟩,?_⟩;rintro v H2 ⟨c,x,y,rfl,hn,hx',hy',rfl⟩;obtain⟨⟨o1,o2,rfl⟩,n,s,e,hl,r⟩:=inv;have su:=ar.upd (o:=.tup [x,y]) hn;exact hs D i x y zs o1 o2 _ c (hx' xs hq1) (hy' ys hq2) ⟨⟨o1,o2,rfl⟩,n,s.trans su,su _ _ e,hl,λj y hy=>hk _ _ _ _ su.keep (r j y hy)⟩ dh
end
variable{H:Hp}
def RZ(g:TG)(tb:TS)(D:cR)(σ : L2.St)(vs:List V)(H1:Hp):Prop:=∃i j:Int,vs=[.int i,.int j]/\(-(2^62)<=i/\i<2^62 /\ -(2^62)<=j/\j<2^62) /\
 ∃W:Nat->Nat->L2.St->Hp->Prop,(∃m,W 0 m σ H1) /\ ∀k m σ H,W k m σ H ->
  ((gI i (j-i).toNat).stop k H/\D.nx σ H)\/((gI i (j-i).toNat).go k H /\ ∃M:L2.St->Hp->Prop,(∀σ' H',M σ' H'->∃m',m'<m/\W (k+1) m' σ' H') /\ ∀x H',(gI i (j-i).toNat).fD k H x H'->g x σ H' λσ2 H2=>tb {D with nx:=M,ct:=M,bk:=D.nx} σ2 H2)
theorem zzI{ta:TA}{g:TG}{tb:TS}{D:cR}{σ : L2.St}(h:ta σ H λvs H1=>RZ g tb D σ vs H1):ml (TV ta) g tb D σ H:=h
theorem zuQ{g:TG}{tb:TS}{D:cR}{σ : L2.St}{lo hi:Int}(h0 : -1000000000<=lo)(h1:lo<1000000000)(h2 : -1000000000<=hi)(h3:hi<1000000000)(Pv:Nat->L2.St->Hp->Prop)(p:Pv 0 σ H)
  (hs:∀(i:Nat) σ H,i<(hi-lo).toNat->Pv i σ H->g (.int (lo+(i:Int))) σ H λσ2 H2=>tb {D with nx:=Pv (i+1),ct:=Pv (i+1),bk:=D.nx} σ2 H2)
  (hd:∀σ H,Pv (hi-lo).toNat σ H->D.nx σ H):RZ g tb D σ [.int lo,.int hi] H :=
 ⟨lo,hi,rfl,⟨by lia,by lia,by lia,by lia⟩,Pf (lo:=lo) Pv p hs hd⟩
def Cp(K:wa):List V->Hp->VK->Prop:=λxs H Q=>∃x tp S T d b,xs=[x,.ref tp]/\aT K H tp [.ty S,.ty T]/\Is K H x d/\uk K (.type (kindOf d)) [.type S,.type T]=some b/\Q (.bl b) H
theorem zuO{X:Cx} : bS X (.builtin "isinstance") (Cp X.K):=by
 intro pins s σ H xs us Q I r h;obtain⟨x,tp,S,T,d,b,rfl,ht,hd,e,q⟩:=h;obtain⟨u,w',rfl,rx,rt⟩:=mT r;cases (show w'=Value.ref tp from rt);obtain⟨tts,rv,⟨ot,ht1,ht2,n,ht3⟩,_⟩:=I.tuple ht;obtain⟨t1,t2,rfl,r1,r2⟩:=mT rv;cases (show t1=Value.type S from r1);cases (show t2=Value.type T from r2);obtain⟨c,dd,da,sl⟩:=ot;cases ht2;cases ht3;have fin:∀tk,EP X pins σ Q (.bool b) {s with toks:=tk}:=λtk=>⟨.bl b,H,I.tok _,rfl,q⟩
 cases d with
 | none =>
  cases nv.mp hd;cases (show u=Value.none from rx);exact Vp Xl I.dW True.intro ht1 e (λz=>nomatch z) fin
 | bool y =>
  cases oM.mp hd;cases (show u=Value.bool y from rx);exact Vp Xm I.dW True.intro ht1 e (λz=>nomatch z) fin
 | int i =>
  cases cc.mp hd;obtain⟨t,q⟩:=(show ∃t,u=Value.int i t from rx);cases q;exact Vp XR I.dW True.intro ht1 e (λz=>nomatch z) fin
 | str y =>
  cases iF.mp hd;obtain⟨t,q⟩:=(show ∃t,u=Value.str y t from rx);cases q;exact Vp XS I.dW True.intro ht1 e (λz=>nomatch z) fin
 | tuple ds =>
  obtain⟨a,xs,e1,hq,_⟩:=bY.mp hd;subst e1;cases (show u=Value.ref a from rx);obtain⟨its,_,⟨o,h1,h2,_⟩,_⟩:=I.tuple hq;exact Vp xZ I.dW ⟨o,h1,h2⟩ ht1 e (λz=>nomatch z) fin
 | list ds =>
  obtain⟨a,xs,e1,hq,_⟩:=ck.mp hd;subst e1;cases (show u=Value.ref a from rx);obtain⟨its,_,⟨o,n,h1,h2,_⟩,_⟩:=I.list hq;exact Vp Xn I.dW ⟨o,h1,h2⟩ ht1 e (λz=>nomatch z) fin
 | dict kv =>
  obtain⟨a,kvs,e1,hq⟩:=tM.mp hd;subst e1;cases (show u=Value.ref a from rx);obtain⟨_,_,vs,_,o,es,ep,h1,h2,_⟩:=(show dR X.prog X.w H s.heap a (.dK kvs)from I.aM a _ hq);exact Vp Xo I.dW ⟨o,h1,h2.1⟩ ht1 e (λz=>nomatch z) fin
theorem zBk{K:wa}(d:wD):uk K (.type (kindOf d)) [.type "list",.type "tuple"]=some (kX d || jr d):=by cases d<;>rfl
theorem CA{K:wa}{Q:VK}{v:V}{tp:we}{d:wD}(h:Is K H v d)(t:H tp=some (.tup [.ty "list",.ty "tuple"]))(q:Q (.bl (kX d || jr d)) H):Cp K [v,.ref tp] H Q :=
 ⟨v,tp,"list","tuple",d,_,rfl,.of t,h,zBk d,q⟩
section
variable{X:Cx}{tg:Expr}
def Cg(K:wa)(tl:TE):TI:=λσ H R=>tl σ H λx H1=>(∃a,x=.ref a/\(∃xs,aE K H1 a xs)/\R (jI K a) H1)\/(∃a,x=.ref a/\(∃xs,aT K H1 a xs)/\R (j8 K a) H1)
theorem D_{l:Expr}{tl:TE}(hl:PE X l tl):PI X tg l (Cg X.K tl):=by
 intro pins s σ H R I h;refine aP (hl pins s σ H _ I h) λv s1 ⟨x,H1,I1,r1,q1⟩=>?_
 rcases q1 with⟨a,e,⟨xs,hq⟩,q⟩ | ⟨a,e,⟨xs,hq⟩,q⟩
 ·subst e
  cases r1;obtain⟨its,rv,p,hz⟩:=I1.list hq;refine V2 p.isList ?_;refine⟨s1.heap.objs.size,[s1.heap.objs.size],_,_,H1,rfl,I1.kept (t':=s1.toks) λb o e=>wn _ e,Rx a _,⟨_,wO _ rfl,rfl,rfl⟩,λb hb=>?_,q⟩;have e:b=s1.heap.objs.size:=by simpa using hb
  subst e;exact I1.kc (wp _) (I1.aM.fresh (wp _))
 ·subst e
  cases r1;obtain⟨its,rv,p,hz⟩:=I1.tuple hq;refine Vm (show s1.heap.IsTuple a its.toArray from p) ?_;refine⟨s1.heap.objs.size,[s1.heap.objs.size],_,_,H1,rfl,I1.kept (t':=s1.toks) λb o e=>wn _ e,ME a _,⟨_,wO _ rfl,rfl,rfl⟩,λb hb=>?_,q⟩;have e:b=s1.heap.objs.size:=by simpa using hb
  subst e;exact I1.kc (wp _) (I1.aM.fresh (wp _))
end
section
variable{K:wa}{g:TG}{tt:TT}{te ta tb' tc:TE}{tb:TS}{D:cR}{src:List (Option Nat)}{σ : St}{H:Hp}{Q:VK}{r r':R2}
theorem zAe(h:ta σ H λx H1=>yp K g tt te src σ x H1 Q\/Ah K g tt te src σ x H1 Q):kM src (Cg K ta) g tt te σ H Q:=h
theorem zAx(h:te σ H λx H1=>Fy K g tb D σ x H1\/T_ K g tb D σ x H1):ml (Cg K te) g tb D σ H:=h
theorem zz9(h:ta σ H λx H1=>tb' σ H1 λy H2=>r x y H2 λz H3=>∃k,z=.bl k/\(if k=true then tc σ H3 λw' H4=>r' y w' H4 Q else Q (.bl false) H3)):Tv r r' ta tb' tc σ H Q:=h
theorem zCI{b:Bool}{P:Bool->Prop}(h:P b):∃k,V.bl b=.bl k/\P k:=⟨b,rfl,h⟩
end
def aY(a b:Rat)(xs:List Rat):wD:=.tuple [R a b,TN xs]
theorem zBG(a b:Rat)(xs:List Rat):di (aY a b xs)=true:=by rw[aY,di,cw,cw,cw,uK,lC];rfl
theorem zDV{x y:Rat}(h:N x=N y):x=y:=by
 have h':PyData.tuple [.int x.num,.int (x.den:Int)]=PyData.tuple [.int y.num,.int (y.den:Int)]:=h
 injection h' with h1
 injection h1 with h2 h3
 injection h2 with h4
 injection h3 with h5 _
 injection h5 with h6
 exact ui h4 (by lia)
theorem kU{K:wa}{H:Hp}{us:List V}{ds:List wD}{i:Nat}{x:V}(t:ah K H us ds)(h:us[i]? = some x):i<ds.length/\Is K H x (ds.getD i .none):=by
 have hl:=t.length
 have hi:i<ds.length:=by
  rcases wG i ds.length with z | z
  ·exact z
  ·rw[wI (by lia)]at h;cases h
 obtain⟨y,e,k⟩:=t.get (i:=i) (d:=ds.getD i .none) (by rw[wb,wc hi];rfl);rw[e]at h;cases h;exact⟨hi,k⟩
theorem zEl(a b c d:Rat)(xs ys:List Rat):w8 (aY a b xs) (aY c d ys)=(decide (a=c)&&decide (b=d)&&decide (xs=ys)):=by
 unfold aY;rw[w8,Ws,Ws,Ws,zEK,En];simp
def Bt:List V->Hp->VK->Prop:=λxs H Q=>∃i j,xs=[.int i,.int j]/\Q (.int (if j<i then j else i)) H
theorem zxs{X:Cx}(hc:X.calm=true):bS X (.builtin "min") Bt:=Zx hc
theorem zDy:vI "min"=some (.builtin "min"):=by decide +kernel
theorem zAL{i j:Int}{H:Hp}{Q:VK}(q:∀m:Int,m<=i->m<=j->(m=i\/m=j)->Q (.int m) H):Bt [.int i,.int j] H Q:=⟨i,j,rfl,by
 split
 ·exact q j (by lia) (by lia) (.inr rfl)
 ·exact q i (by lia) (by lia) (.inl rfl)⟩
def DK(K:wa)(a:we):It :=
 ⟨λi H=>∃xs x,aE K H a xs/\xs[i]? = some x,λi H y H'=>∃t x,y=.ref t/\H t=none/\(∀xs,aE K H a xs->xs[i]? = some x)/\H'=upd H t (.tup [.int (i:Int),x]),λi H=>∃xs,aE K H a xs/\xs.length<=i⟩
theorem zvk{P:wH}{w:wM}{K:wa}{elts:List Expr}{k1}{tpos:Pos}(a e it:we)(hne:e≠it):jL P w K (.Tuple elts k1 tpos) (DK K a) [e,it] e (λi h=>(∃old,IsEnum h e it (i:Int) old)/\h.IsListIter it a i) where
 mem:=by simp
 obj:=λi h st b hb=>by
  obtain⟨⟨old,he⟩,o,eo,c,d⟩:=st;rcases wL.mp hb with rfl | hb
  ·exact⟨_,he,λv z=>by cases (show Data.fields _=Data.cell v from z)⟩
  ·rw[w6.mp hb]
   exact⟨o,eo,λv z=>by rw[d]at z;cases z⟩
 keep:=λi h h' st k=>⟨let ⟨old,he⟩:=st.1;⟨old,k e (by simp) _ he⟩,st.2.at λo eo=>k it (by simp) o eo⟩
 item:=by
  intro X hP hw hK hc i pins s σ H E I hf st hg;subst hP hw hK;obtain⟨⟨old,he⟩,st⟩:=st;obtain⟨xs,x,hq,hx⟩:=hg;obtain⟨its,rv,p,hz⟩:=I.list hq;obtain⟨u,hu,ru⟩:=rv.get hx;have p':s.heap.IsList a its.toArray:=p.isList
  have hai:a≠it:=λz=>by
   subst z;obtain⟨o,e1,c1,_⟩:=st;obtain⟨o',e2,c2,_⟩:=p';rw[e1]at e2;cases e2;rw[c1]at c2;exact absurd c2 (by decide)
  have hae:e≠a:=λz=>by
   subst z;obtain⟨o',e2,c2,_⟩:=p';rw[he]at e2;cases e2;exact absurd (show Value.type "enumerate"=Value.type "list" from c2) (by decide)
  have hlt:i<its.toArray.size:=by
   rcases wG i its.length with z | z
   ·simpa using z
   ·rw[wI z]at hu;cases hu
  refine wpAny_pyNext_enum_itemD (Draws.list (A:=X.A.in1) (I.ok.hd hc) it a hai its.toArray) he ⟨st,p'⟩ hlt hne (by simp[hne,hae]) λv h1 tk hv ho hs1 hT hsz hk=>?_
  have hvu:v=u:=by
   have hv':its[i]? = some v:=by simpa using hv
   rw[hu]at hv';exact(wZ hv').symm
  subst hvu
  have I1:Inv X pins σ (upd H s.heap.objs.size (.tup [.int (i:Int),x])) {s with heap:=s.heap.push {cls:=.type "tuple",data:=.seq ([.int (i:Int) tk,v]:List wf).toArray},toks:=tk+1} :=
   I.laid (λb o q=>wn _ q) (wp _) (show dR X.prog X.w _ _ _ (.tup [.int (i:Int),x])from⟨nR (by simp),_,.cons ⟨_,rfl⟩ (.cons ru .nil),qX _ _⟩)
  have lt1:∀b∈[e,it],b<s.heap.objs.size:=λb hb=>by
   rcases wL.mp hb with rfl | hb
   ·exact wC he
   ·rw[w6.mp hb]
    obtain⟨o,eo,_⟩:=st;exact wC eo
  have hf1:∀b∈[e,it],eS X pins (upd H s.heap.objs.size (.tup [.int (i:Int),x])) b:=λb hb=>⟨by rw[eJ (wQ (lt1 b hb))];exact(hf b hb).1,(hf b hb).2⟩
  refine⟨_,rfl,wpAny_letOwnedTupleGo_enum ho λh2 he2 hs2=>?_⟩;refine⟨.ref s.heap.objs.size,_,Inv.sT (s:={s with heap:=s.heap.push {cls:=.type "tuple",data:=.seq ([.int (i:Int) tk,v]:List wf).toArray},toks:=tk+1}) (ch:=[e,it]) I1 (λb o hb q=>?_) hf1,rfl,⟨_,x,rfl,I.aM.fresh (wp _),λys hy=>by rw[I.Be hy hq];exact hx,rfl⟩,⟨⟨_,by simpa using he2⟩,hs1.1.at λo eo=>(hs2.2 it (WB hne)).trans eo⟩,λb hb=>(hf1 b hb).1⟩;have hbe:b≠e:=λz=>hb (by simp[z])
  have hbi:b≠it:=λz=>hb (by simp[z])
  refine(hs2.2 b hbe).trans ?_
  by_cases hb2:b=s.heap.objs.size
  ·subst hb2
   rw[wO _ rfl]at q;cases q;exact hT
  ·exact hk b o hbe hbi (by rw[QI _ _ _ hb2]at q;exact q)
 done:=by
  intro X hP hw hK hc i pins s σ H E I hf st hg;subst hP hw hK;obtain⟨⟨old,he⟩,st⟩:=st;obtain⟨xs,hq,hx⟩:=hg;obtain⟨its,rv,p,hz⟩:=I.list hq;have p':s.heap.IsList a its.toArray:=p.isList;have hl:=rv.length;have hT:s.TypeIs (.ref e) "enumerate":=⟨_,he,rfl⟩;unfold pyNext;refine wg (Vu (wpAny_callSpecial?_slot (name:=vW "__next__") hT qa (Wj qa hT xk ?_ (QX _))))
  show wt _ _ (field (.ref e) 2 >>= _) _ _ _;refine wg (vv he rfl (x:=.ref it) rfl ?_)
  refine wg (wpAny_nextOf_list_end (A:=X.A.in1) (I.ok.hd hc) st p' (by simp;lia) λh' y he' hx'=>?_);obtain⟨o,ho,hcl⟩:=hx';refine wg (Vf (T:="StopIteration") (b:=true) ⟨o,ho,hcl⟩ isSubtype_stop (wy ⟨rfl,?_⟩));obtain⟨f0,f1,f2,f3,f4,f5⟩:=hf it (by simp);exact I.turned (t':=s.toks) (λb o hb e=>he' b o hb e) f0 f1 f3 f4 f5
 self:=λ_ _ _ _ _ st h=>let ⟨_,he⟩:=st.1;wpAny_pyIter_enum he h
def Rh(K:wa)(ta:TA):TI:=λσ H R=>ta σ H λvs H1=>∃a,vs=[.ref a]/\(∃xs,aE K H1 a xs)/\R (DK K a) H1
theorem zyt{X:Cx}{elts:List Expr}{k1}{tpos p pos:Pos}{l:Expr}{ta:TA}(hg:Gl X "enumerate")(hm:X.mg "enumerate"=none)(ha:PA X [l] ta)(hs:wS [l] X.env=[(false,eval l X.env)]:=by rfl) :
  PI X (.Tuple elts k1 tpos) (.Call (.Name "enumerate" p) [l] [] pos) (Rh X.K ta):=by
 intro pins s σ H R I h;refine Call_ (hJ I hg hm SA (vn (aP (ha pos pins s σ H _ I h) λus s1 ⟨vs,H1,I1,r1,q1⟩=>?_) hs rfl));obtain⟨a,rfl,⟨xs,hq⟩,q⟩:=q1;obtain⟨u,rfl,ru⟩:=iZ r1;cases ru;obtain⟨its,rv,p,hz⟩:=I1.list hq;refine call_enumerate_list p.isList λh' he hit _ kp=>?_
 refine wpAny_pyIter_enum he ?_;refine⟨s1.heap.objs.size+1,[s1.heap.objs.size+1,s1.heap.objs.size],_,_,H1,rfl,I1.kept (t':=s1.toks) kp,zvk a (s1.heap.objs.size+1) s1.heap.objs.size (XU _),⟨⟨_,he⟩,hit⟩,λb hb=>?_,q⟩
 have hb':s1.heap.objs.size<=b:=by
  rcases wL.mp hb with rfl | hb
  ·lia
  ·rw[w6.mp hb];exact wp _
 exact I1.kc hb' (I1.aM.fresh hb')
def SQ(K:wa)(g:TG)(tt:TT)(te:TE)(src:List (Option Nat))(σ : St)(vs:List V)(H1:Hp)(Q:VK):Prop:=∃a,vs=[.ref a]/\(∃xs,aE K H1 a xs) /\
 ∀D,H1 D=none->kg g tt te (DK K a) D (dS src σ) (upd H1 D (.lst [])) (λH'=>Q (.ref D) H')
section
variable{K:wa}{ta:TA}{g:TG}{tb:TS}{tt c:TT}{te:TE}{D:cR}{σ : St}{H:Hp}{Q:VK}{a:we}{xs:List V}{src:List (Option Nat)}{o0 o0':Option V}{tl:St}
theorem zxj(h:ta σ H λvs H1=>SQ K g tt te src σ vs H1 Q):kM src (Rh K ta) g tt te σ H Q:=h
theorem zzV(hx:aE K H a xs)(hsrc:dS src σ = o0::o0'::tl)(Rel:Nat->V->Hp->Prop)(hk:∀i v H1 H2,a_ H1 H2->Rel i v H1->Rel i v H2)
  (hs:∀D i x zs o1 o2 H1 c,xs[i]? = some x->gy H tl Rel D i zs (o1::o2::tl) H1->H1 c=some (.tup [.int (i:Int),x])->iL (gy H tl Rel) g tt te D i (.ref c) (o1::o2::tl) H1)
  (hd:∀D zs H',H D=none->ar H H'->H' D=some (.lst zs)->zs.length=xs.length->(∀j y,zs[j]? = some y->Rel j y H')->Q (.ref D) H'):SQ K g tt te src σ [.ref a] H Q:=by
 refine⟨a,rfl,⟨xs,hx⟩,λD hD=>⟨λi m σ' H'=>i+m=xs.length /\ ∃zs,gy H tl Rel D i zs σ' H',⟨xs.length,by lia,[],⟨o0,o0',hsrc⟩,hD,ar.upd hD,dh,rfl,λj y z=>by simp at z⟩,?_⟩⟩;rintro i m σ' H' ⟨him,zs,inv⟩;have hq1:=inv.2.2.1.seq hx
 by_cases hm:m=0
 ·have e:i=xs.length:=by lia
  subst e;obtain⟨_,n,s,e,hl,r⟩:=inv;exact .inl ⟨⟨xs,hq1,wp _⟩,hd D zs H' n s e hl r⟩
 ·have hi:i<xs.length:=by lia
  refine .inr ⟨⟨xs,xs[i],hq1,by simp[hi]⟩,λσ2 H2=>∃zs,gy H tl Rel D (i+1) zs σ2 H2,λσ2 H2 h=>⟨m-1,by lia,by lia,h⟩,?_⟩;rintro v H2 ⟨c,x,rfl,hn,hx',rfl⟩;obtain⟨⟨o1,o2,rfl⟩,n,s,e,hl,r⟩:=inv;have su:=ar.upd (o:=.tup [.int (i:Int),x]) hn;exact hs D i x zs o1 o2 _ c (hx' xs hq1) ⟨⟨o1,o2,rfl⟩,n,s.trans su,su _ _ e,hl,λj y hy=>hk _ _ _ _ su.keep (r j y hy)⟩ dh
def PY(Pv:Nat->St->Hp->Prop)(m:Nat)(tb:TS)(D:cR)(σ':St)(H1:Hp):Prop :=
 ∃M:St->Hp->Prop,(∀σ2 H2,M σ2 H2->∃m',m'<m/\Pv m' σ2 H2)/\tb {D with nx:=M,ct:=M,bk:=D.nx} σ' H1
theorem oC(Pv:Nat->St->Hp->Prop)(m0:Nat)(h0:Pv m0 σ H)(hs:∀m σ' H',Pv m σ' H'->c σ' H' λb H1=>if b=true then PY Pv m tb D σ' H1 else D.nx σ' H1):DW c tb D σ H:=⟨Pv,⟨m0,h0⟩,hs⟩
theorem nW{Pv:Nat->St->Hp->Prop}{m:Nat}{σ':St}{H1:Hp}(h:tb {D with nx:=λσ2 H2=>∃m',m'<m/\Pv m' σ2 H2,ct:=λσ2 H2=>∃m',m'<m/\Pv m' σ2 H2,bk:=D.nx} σ' H1):PY Pv m tb D σ' H1:=⟨_,λ_ _ q=>q,h⟩
def yb(K:wa)(x:V)(H:Hp)(Q:Bool->Hp->Prop):Prop:=∃k,Ft K x H k/\Q k H
def Yr(K:wa)(te:TE):TT:=λσ H Q=>te σ H λx H'=>yb K x H' Q
theorem Gh{X:Cx}{e:Expr}{t:TE}(h:PE X e t)(he:∀whole,isTrue e X.env whole=(do let v <- whole;standAt e.pos;holding [v] (truthy v)):=by intro _;rfl):PT X e (Yr X.K t):=zy1 h he
theorem zDO{QB:Bool->Hp->Prop}(h:te σ H λx H'=>yb K x H' QB):Yr K te σ H QB:=h
theorem zAr{QB:Bool->Hp->Prop}{v:V}{ds:List wD}(h:Is K H v (.tuple ds))(q:QB (!ds.isEmpty) H):yb K v H QB:=by
 obtain⟨p,us,rfl,hs,t⟩:=bY.mp h;have hl:=t.length;refine⟨_,.inr (.inl ⟨us,hs,rfl⟩),?_⟩
 have e:us.isEmpty=ds.isEmpty:=by
  cases us<;>cases ds<;>simp_all
 rw[e];exact q
theorem Pj{QB:Bool->Hp->Prop}{v:V}{ds:List wD}(h:Is K H v (.list ds))(q:QB (!ds.isEmpty) H):yb K v H QB:=by
 obtain⟨p,us,rfl,hs,t⟩:=ck.mp h;have hl:=t.length;refine⟨_,.inl ⟨us,hs,rfl⟩,?_⟩
 have e:us.isEmpty=ds.isEmpty:=by
  cases us<;>cases ds<;>simp_all
 rw[e];exact q
end
theorem R9:∀(ys:List V)(us:List wf),ys.length=us.length->(∀(i:Nat) y u,ys[i]? = some y->us[i]? = some u->aZ y u)->aS ys us
 | [],[],_,_=>.nil
 | [],_::_,h,_=>by simp at h
 | _::_,[],h,_=>by simp at h
 | y::ys,u::us,h,r=>.cons (r 0 y u rfl rfl) (R9 ys us (by simpa using h) λi y u h1 h2=>r (i+1) y u h1 h2)
def vz(l:List Nat):List V:=l.map λ(w:Nat)=>V.int (w:Int)
theorem gr(l:List Nat):(vz l).length=l.length:=wl ..
def C_(vs:List V)(H1:Hp)(Q:VK):Prop:=∃j:Int,vs=[.int j]/\0<=j/\j<=1000 /\ ∀l,H1 l=none->Q (.ref l) (upd H1 l (.lst (vz (wo j.toNat))))
def Mo(ta:TA):TE:=λσ H Q=>ta σ H λvs H1=>C_ vs H1 Q
theorem zqW{X:Cx}{a:Expr}{ta:TA}{p p2 pos pos2:Pos}(hc:X.calm=true)(hg:Gl X "list")(hm:X.mg "list"=none)(hg2:Gl X "range")(hm2:X.mg "range"=none)(ha:PA X [a] ta)(hs:wS [a] X.env=[(false,eval a X.env)]:=by rfl)
  (hs2:wS [Expr.Call (.Name "range" p2) [a] [] pos2] X.env=[(false,eval (.Call (.Name "range" p2) [a] [] pos2) X.env)]:=by rfl):PE X (.Call (.Name "list" p) [.Call (.Name "range" p2) [a] [] pos2] [] pos) (Mo ta):=by
 intro pins s σ H Q I h;refine Call_ (hJ I hg hm gT ?_);refine vn ?_ hs2 rfl;rw[hs2]
 show wt _ _ (spliced ((false,eval _ X.env)::Vz pos [])) _ _ s
 refine Qu ?_;refine Call_ (hJ I hg2 hm2 boot_range (vn (aP (ha pos2 pins s σ H _ I h) λus s1 ⟨vs,H1,I1,r1,q1⟩=>?_) hs rfl));obtain⟨j,e,j0,j1,q⟩:=q1;subst e;obtain⟨u,rfl,ru⟩:=iZ r1;obtain⟨t,rfl⟩:=ru;refine call_range_1 ?_;refine QF ?_;have I2:Inv X pins σ H1 {s1 with heap:=s1.heap.push {cls:=.type "range",data:=.fields #[.int 0 s1.toks,.int j t,.int 1 (s1.toks+1)]},toks:=s1.toks+1+1}:=I1.kept λb o e=>wn _ e
 refine call_list_range (n:=j.toNat) (I1.ok.hd hc) (uF ..) (small_one (by lia) (by lia) (by lia) (by lia)) (by rw[rangeSize_one];split<;>lia) (by lia) λh' tk acc c hk hD hI=>?_
 refine⟨.ref _,_,I2.laid (t':=tk) hk (wp _) ?_,rfl,q _ (I2.aM.fresh (wp _))⟩;refine⟨nR (by rw[gr,vc];lia),acc.toList,c,R9 _ _ (by rw[gr,vc,W7,hI.1]) λi y u hy hu=>?_,by simpa using hD⟩;have hu':acc[i]? = some u:=by simpa using hu
 obtain⟨t',e'⟩:=hI.2 i u hu'
 have hi:i<j.toNat:=by
  have:=(WT.mp hu').1;rw[hI.1]at this;exact this
 have hy':y=V.int (i:Int):=by
  unfold vz at hy;rw[wq,vE hi]at hy;exact(wZ hy).symm
 subst hy';exact⟨t',by rw[e'];congr 1;lia⟩
theorem zq8{ta:TA}{σ : St}{H:Hp}{Q:VK}(h:ta σ H λvs H1=>C_ vs H1 Q):Mo ta σ H Q:=h
theorem zxh{n:Nat}{H:Hp}{Q:VK}(hn:n<=1000)(q:∀l H',H l=none->ar H H'->H' l=some (.lst (vz (wo n)))->Q (.ref l) H'):C_ [V.int (n:Int)] H Q :=
 ⟨_,rfl,by lia,by lia,λl hl=>q l _ hl (ar.upd hl) (by rw[wx];exact dh)⟩
theorem B5(w:Nat)(l:List Nat):nO (.int (w:Int)) (vz l)=decide (w∈l):=by
 unfold nO vz
 induction l with
 | nil=>rfl
 | cons x l ih =>
  rw[vd,QC,ih]
  show((x:Int) == (w:Int) || _)=_
  by_cases h:w=x
  ·subst h;simp
  ·have h':¬ (x:Int)=(w:Int):=λz=>h (by lia)
   simp[h,h']
theorem BJ(l:List Nat):(vz l).all jH=true:=by
 unfold vz;rw[Wc];intro y hy;obtain⟨w,_,rfl⟩:=wR.mp hy
 rfl
section
variable{K:wa}{H H':Hp}{Q:VK}{v:V}{p:we}{l:List Nat}{w:Nat}
theorem zur(h:aT K H p (vz l))(q:Q (.bl (!decide (w∈l))) H):fu K true (.int (w:Int)) (.ref p) H Q:=⟨p,vz l,rfl,.inr h,rfl,BJ l,by rw[B5];exact q⟩
theorem Na(h:aE K H p (vz l))(q:Q (.bl (decide (w∈l))) H):fu K false (.int (w:Int)) (.ref p) H Q:=⟨p,vz l,rfl,.inl h,rfl,BJ l,by rw[B5];exact q⟩
theorem MI(h:aE K H p (vz l))(q:Q (.bl (!decide (w∈l))) H):fu K true (.int (w:Int)) (.ref p) H Q:=⟨p,vz l,rfl,.inl h,rfl,BJ l,by rw[B5];exact q⟩
def TW(l:List Nat):wD:=TZ (l.map λ(w:Nat)=>(w:Int))
theorem tW :Is K H v (TW l) ↔ ∃a,v=.ref a/\aT K H a (vz l):=by
 unfold TW vz;rw[rQ,V7];exact Iff.rfl
theorem y8(l:List Nat):di (TW l)=true:=zDE _
def nF(ws:List (List Nat)):wD:=.tuple (ws.map TW)
theorem nH:∀ws:List (List Nat),cw (ws.map TW)=true
 | []=>rfl
 | w::ws=>by rw[vd,cw,y8,nH ws];rfl
theorem zBI(ws:List (List Nat)):di (nF ws)=true:=by rw[nF,di];exact nH ws
theorem DQ{i:Nat}{x:V}(h:(vz l)[i]? = some x):∃hi:i<l.length,x=.int ((l[i]:Nat):Int):=by
 have hi:i<l.length:=by
  rcases wG i l.length with z | z
  ·exact z
  ·rw[wI (by rw[gr];exact z)]at h;cases h
 refine⟨hi,?_⟩;unfold vz at h;rw[wq,wc hi]at h;exact(wZ h).symm
def GD(a b:Rat)(xs:List Rat):wD:=.tuple [N (1-aU xs),nF (cW a b xs),aY a b (cZ a b xs)]
def Au(h:Rat)(ws:List (List Nat))(xs:List Rat):wD:=.tuple [N h,nF ws,TN xs]
theorem RS(h:Rat)(ws:List (List Nat))(xs:List Rat):di (Au h ws xs)=true:=by rw[Au,di,cw,cw,cw,cw,lG,zBI,lC];rfl
def Ro(a b:Rat)(xs:List Rat)(k:Nat):wD:=Au (aO a b xs (k+1)) (cW a b (ao a b xs k)) (ao a b xs (k+1))
def iI(a b:Rat)(xs:List Rat)(n:Nat):List wD:=(wo n).map (Ro a b xs)
theorem pG{α : Type}(f : α -> wD)(hf:∀x,di (f x)=true):∀l:List α,cw (l.map f)=true
 | []=>rfl
 | x::l=>by rw[vd,cw,hf,pG f hf l];rfl
theorem ah.snoc{vs:List V}{ds:List wD}{d:wD}(h:ah K H vs ds)(k:Is K H v d):ah K H (vs++[v]) (ds++[d]):=h.append (.cons k .nil)
theorem rA{i:Nat}(h:i<l.length):l.take (i+1)=l.take i++[l[i]]:=by
 rw[qM,wc h];rfl
theorem Nq(h:Is K H v (TW l))(q:Q (.int (l.length:Int)) H):jt K [v] H Q:=CP h (by rw[wl];exact q)
end
variable{l:List Nat}{n w:Nat}{d:wD}
theorem Ur:∀ns:List Int,Wd (ns.map PyData.int)=true
 | []=>by simp[Wd]
 | n::ns=>by rw[vd,Wd,Ur ns];simp[vB]
theorem Nu:∀ns:List Int,Wn (ns.map PyData.int)<=1
 | []=>by simp[Wn]
 | n::ns=>by
  have:=Nu ns;rw[vd,Wn];simp[WL]
  lia
theorem zxQ(a b:Rat)(xs:List Rat)(n:Nat):(iI a b xs n).length=n:=by simp[iI]
theorem Bu(a b:Rat)(xs:List Rat)(n:Nat):iI a b xs (n+1)=iI a b xs n++[Ro a b xs n]:=by
 unfold iI;rw[Qb,wX];rfl
theorem zq9(a b:Rat)(xs:List Rat)(n:Nat):cw (iI a b xs n)=true:=pG _ (λk=>RS _ _ _) _
theorem zzn{ps:List Rat}(h:¬ ps.getD w 0<1):az ps (l++[w])=az ps l++[w]:=by
 unfold az;rw[Wl,Wp,decide_eq_false h];rfl
theorem zxq{ps:List Rat}(h:ps.getD w 0<1):az ps (l++[w])=az ps l:=by
 unfold az;rw[Wl,Wp,decide_eq_true h];exact vK _
theorem zw3{wave:List Nat}(h:¬ w∈wave):bK (l++[w]) wave=bK l wave++[w]:=by
 unfold bK;rw[Wl];simp[Wp,h]
theorem zuJ{wave:List Nat}(h:w∈wave):bK (l++[w]) wave=bK l wave:=by
 unfold bK;rw[Wl];simp[Wp,h]
theorem sE(l:List Nat)(w:Nat):vz (l++[w])=vz l++[V.int (w:Int)]:=by unfold vz;rw[wX];rfl
theorem Gv{xs:List Rat}{j:Nat}(h:j<xs.length):(bE xs).getD j 0=xs.getD j 0+(1-aU xs):=by
 unfold bE;rw[wb,wq,wc h,wb,wc h];rfl
theorem Yc(xs:List Rat):w8 (TN xs) (TN xs)=true:=by rw[En];exact decide_eq_true rfl
theorem zEY(a b:Rat)(xs:List Rat):w8 (aY a b xs) (aY a b xs)=true:=by rw[zEl];simp
theorem Fc{P:wD->Prop}{a b:wD}(ha:P a)(hb:P b):∀d∈[a,b],P d:=λd hd=>by
 simp only[wL,VJ,or_false]at hd;rcases hd with rfl | rfl
 ·exact ha
 ·exact hb
def Sh(n:Nat)(d:wD):Prop:=d.canLay0=true/\d.depth<=n
theorem Ek{n:Nat} : ∀ds:List wD,(∀d∈ds,Sh n d)->Wd ds=true/\Wn ds<=n
 | [],_=>by simp[Wd,Wn]
 | d::ds,h=>by
  have h1:=h d (wE ..);have h2:=Ek ds λe he=>h e (wA _ he)
  rw[Wd,Wn,h1.1,h2.1];exact⟨rfl,by have:=h1.2;have:=h2.2;lia⟩
theorem nD{ds:List wD}(h:∀d∈ds,Sh n d):Sh (n+1) (.tuple ds):=by
 have:=Ek ds h;unfold Sh;rw[vB,WL];exact⟨this.1,by have:=this.2;lia⟩
theorem Fg{ds:List wD}(h:∀d∈ds,Sh n d):Sh (n+1) (.list ds):=by
 have:=Ek ds h;unfold Sh;rw[vB,WL];exact⟨this.1,by have:=this.2;lia⟩
theorem Sh.mono{m:Nat}(h:Sh m d)(e:m<=n):Sh n d:=⟨h.1,Wf h.2 e⟩
theorem Sh.shaped(h:Sh n d)(e:n<=64):vL d=true:=by
 unfold vL;rw[h.1,qk];exact decide_eq_true (Wf h.2 e)
theorem yG(i:Int):Sh 1 (.int i):=⟨by simp[vB],by simp[WL]⟩
theorem lB(x:Rat):Sh 2 (N x):=nD (Fc (yG _) (yG _))
theorem pE(xs:List Rat):Sh 3 (TN xs):=nD λd hd=>by
 obtain⟨x,_,rfl⟩:=wR.mp hd;exact lB x
theorem Zb(a b:Rat)(xs:List Rat):Sh 5 (aY a b xs):=nD (Fc ((nD (Fc (lB a) (lB b))).mono (by decide)) ((pE xs).mono (by decide)))
theorem zAB{K:wa}{H:Hp}{Q:VK}{v w:V}(h:Is K H v d)(k:Is K H w d)(s:Sh n d)(e:n<=64)(r:w8 d d=true)(q:Q (.bl false) H):md K v w H Q:=zV h k (s.shaped e) (s.shaped e) (by rw[r];exact q)
section
variable{K:wa}{H H':Hp}{Q:VK}{D:cR}{σ : St}{td ty tv:TE}{a:we}{kvs:List (Key × V)}{k:Int}{v:V}
theorem Zw{p r:we}{l:List Nat}(h:H p=some (.lst (vz l)))(e:H r=some (.lst []))(q:Q (.bl (decide (l≠[]))) H):md K (.ref p) (.ref r) H Q:=by
 have i1:Is K H (.ref p) (.list ((l.map λ(w:Nat)=>(w:Int)).map PyData.int)):=ck.mpr ⟨p,vz l,rfl,.of h,by
  have e1:vz l=(l.map λ(w:Nat)=>(w:Int)).map V.int:=by unfold vz;rw[V7];rfl
  rw[e1];exact mv.mpr rfl⟩
 have i2:Is K H (.ref r) (.list []):=ck.mpr ⟨r,[],rfl,.of e,.nil⟩;refine zV i1 i2 ?_ rfl ?_
 ·unfold vL
  rw[vB,Ur,WL,qk];have:=Nu (l.map λ(w:Nat)=>(w:Int));exact decide_eq_true (by lia)
 ·cases l with
  | nil=>simpa [w8,Ws] using q
  | cons x l=>simpa [w8,Ws] using q
end
theorem Tn:∀{ts:List Int}{ys:List V},ys.length=ts.length->(∀(j:Nat)(y:V),ys[j]? = some y->y=V.int (ts.getD j 0))->ys=ts.map V.int
 | [],[],_,_=>rfl
 | [],_::_,h,_=>by simp at h
 | _::_,[],h,_=>by simp at h
 | t::ts,y::ys,h,e=>by
  rw[vd,e 0 y rfl,Tn (ts:=ts) (ys:=ys) (by simpa using h) λj z hz=>e (j+1) z hz]
  rfl
theorem kl{n:Nat}(p:Nat->Bool)(i:Nat):(wo (i+1)).filter p=(wo i).filter p++(if p i then [i]else []):=by
 rw[Qb,Wl];cases h:p i<;>simp[h]
def LO(K:wa)(g:TG)(tt:TT)(te:TE)(src:List (Option Nat))(σ : St)(vs:List V)(H1:Hp)(Q:VK):Prop:=∃a,vs=[.ref a]/\(∃xs,aT K H1 a xs) /\
 ∀D,H1 D=none->kg g tt te (oI K a) D (dS src σ) (upd H1 D (.lst [])) (λH'=>Q (.ref D) H')
section
variable{K:wa}{ta:TA}{g:TG}{tt:TT}{te:TE}{σ : St}{H:Hp}{Q:VK}{a:we}{xs:List V}{src:List (Option Nat)}
theorem ZL(h:ta σ H λvs H1=>LO K g tt te src σ vs H1 Q):kM src (Dv K ta) g tt te σ H Q:=h
theorem ztn(hx:aT K H a xs)(Pv:we->Nat->List V->St->Hp->Prop)(h0:∀D H',H D=none->ar H H'->H' D=some (.lst [])->Pv D 0 [] (dS src σ) H')(hl:∀D i ys σ' H',Pv D i ys σ' H'->aT K H' a xs)
  (hs:∀D i x ys σ' H1 c H2,xs[i]? = some x->Pv D i ys σ' H1->H1 c=none->ar H1 H2->H2 c=some (.tup [.int (i:Int),x])->iL Pv g tt te D i (.ref c) σ' H2) (hd:∀D ys σ' H',Pv D xs.length ys σ' H'->Q (.ref D) H'):LO K g tt te src σ [.ref a] H Q:=by
 refine⟨a,rfl,⟨xs,hx⟩,λD hD=>⟨λi m σ' H'=>i+m=xs.length /\ ∃ys,Pv D i ys σ' H',⟨xs.length,by lia,[],h0 D _ hD (ar.upd hD) dh⟩,?_⟩⟩;rintro i m σ' H' ⟨him,ys,inv⟩;have hq:=hl _ _ _ _ _ inv
 by_cases hm:m=0
 ·have e:i=xs.length:=by lia
  subst e;exact .inl ⟨⟨xs,hq,wp _⟩,hd _ _ _ _ inv⟩
 ·have hi:i<xs.length:=by lia
  refine .inr ⟨⟨xs,xs[i],hq,by simp[hi]⟩,λσ2 H2=>∃ys,Pv D (i+1) ys σ2 H2,λσ2 H2 h=>⟨m-1,by lia,by lia,h⟩,?_⟩;rintro v H2 ⟨c,x,rfl,hn,hx',rfl⟩;exact hs D i x ys σ' H' c _ (hx' xs hq) inv hn (ar.upd hn) dh
end
def Ct(K:wa):R2:=λx y H Q=>∃d ds,Is K H x d/\Is K H y (.tuple ds)/\Sh 60 d/\vB (.tuple ds)=true/\Q (.bl (ds.any λe=>w8 e d)) H
theorem zDS{X:Cx}(hu:X.A.units+64<WG):bG X (vP .In) (Ct X.K):=by
 intro pins s σ H x y v u Q I rx ry h;obtain⟨d,ds,hd,he,sd,se,q⟩:=h;obtain⟨as,h1⟩:=I.reads d x v sd.1 hd rx;obtain⟨bs,h2⟩:=I.reads (.tuple ds) y u se he ry;have sd2:=sd.2;have hm:=QN (Wn ds) d.depth;exact SeqAt.in_tuple_reads h2 h1 (by rw[vB]at se;exact se) sd.1 (by lia) ⟨.bl _,H,I,rfl,q⟩
theorem ML(xs:List Rat)(x:Rat):((xs.map N).any λe=>w8 e (N x))=decide (x∈xs):=by
 induction xs with
 | nil=>rfl
 | cons y xs ih =>
  rw[vd,QC,ih,pF]
  by_cases h:x=y
  ·subst h;simp
  ·have h':¬ y=x:=λz=>h z.symm
   simp[h,h']
theorem zBa{K:wa}{H:Hp}{Q:VK}{v w:V}{xs:List Rat}{x:Rat}(h:Is K H v (N x))(k:Is K H w (TN xs))(q:Q (.bl (decide (x∈xs))) H):Ct K v w H Q :=
 ⟨N x,xs.map N,h,k,(lB x).mono (by decide),by rw[vB];exact sy xs,by rw[ML];exact q⟩
def kK(xs:List Rat)(v:Rat):wD:=.tuple [N v,TW (eI xs v)]
theorem Tu(xs:List Rat)(v:Rat):di (kK xs v)=true:=by rw[kK,di,cw,cw,cw,lG,y8];rfl
theorem zxG(xs:List Rat)(l:List Rat):cw (l.map (kK xs))=true:=pG _ (Tu xs) l
theorem zya(ds:List wD):w8 (.list ds) (.list [])=ds.isEmpty:=by cases ds<;>simp[w8,Ws]
section
variable{K:wa}{H:Hp}{Q:VK}{v w:V}{ds:List wD}{n:Nat}{l b:we}{xs zs:List V}
theorem zzs(h:Is K H v (.list ds))(k:Is K H w (.list []))(s:Sh n (.list ds))(e:n<=64)(q:Q (.bl (!ds.isEmpty)) H):md K v w H Q :=
 zV h k (s.shaped e) ((Fg (n:=1) (ds:=[]) (by simp)).shaped (by decide)) (by rw[zya];exact q)
theorem EH{d:wD}(h:Is K H v d)(k:Is K H w d)(s:Sh n d)(e:n<=64)(r:w8 d d=true)(q:Q (.bl true) H):jP K v w H Q:=oq h k (s.shaped e) (s.shaped e) (by rw[r];exact q)
theorem zCW{k:Int}(h:H l=some (.lst xs))(h0 : -1000<=k)(h1:k<=1000)(z:xs.length*k.toNat<=1000)(q:∀p H',H p=none->ar H H'->H' p=some (.lst (vf k.toNat xs).flatten)->Q (.ref p) H'):nI (.ref l) (.int k) H Q :=
 ⟨l,k,xs,rfl,rfl,h,by lia,by lia,by have:=gF z;lia,λp hp=>q p _ hp (ar.upd hp) dh⟩
theorem ah.KO{d:wD}(h:Is K H v d):∀n:Nat,ah K H (vf n v) (vf n d)
 | 0=>.nil
 | n+1=>.cons h (ah.KO h n)
end
theorem lV{K:wa}{H:Hp}{Q:VK}{v:V}{ds:List wD}{d:wD}(h:Is K H v (.list (ds++[d])))(q:∀x,Is K H x d->Q x H):c_ K v (.int (-1)) H Q:=by
 obtain⟨a,xs,rfl,hs,t⟩:=ck.mp h;have hl:=t.length;rw[wN,vV]at hl;obtain⟨x,e1,hx⟩:=t.get (i:=ds.length) (d:=d) (by rw[vQ (wp _),V6];rfl);exact j5 hs (Fp (by rw[hl];exact e1)) (q x hx)
def Bs(K:wa):List V->Hp->VK->Prop:=λxs H Q=>∃(p:we)(bs:List Bool),xs=[.ref p]/\aE K H p (bs.map V.bl)/\Q (.bl (bs.any id)) H
theorem zDF:vI "any"=some (.builtin "any"):=by decide +kernel
theorem zuU(bs:List Bool):((wo bs.length).any λi=>(bs[i]?).getD true)=bs.any id:=by
 rw[vi,qW,qW]
 constructor
 ·rintro ⟨i,hi,h⟩
  rw[wF]at hi;rw[wc hi]at h;exact⟨bs[i],Wi hi,h⟩
 ·rintro ⟨b,hb,h⟩
  obtain⟨i,hi,rfl⟩:=ve hb;exact⟨i,wF.mpr hi,by rw[wc hi];exact h⟩
open PyProof.V PySem.Calls in
theorem zxE{X:Cx}(hc:X.calm=true):bS X (.builtin "any") (Bs X.K):=by
 intro pins s σ H xs us Q I r h;obtain⟨p,bs,rfl,hq,q⟩:=h;obtain⟨u,rfl,rx⟩:=iZ r;cases rx;obtain⟨its,r',pl,hz⟩:=I.list hq;have hi:its=bs.map Value.bool:=Mx r';have hl:s.heap.IsList p its.toArray:=pl.isList;have hlt:p<s.heap.objs.size:=by obtain⟨_,e,_⟩:=hl;exact wC e
 refine call_any_walk (V2 hl ?_)
 refine⟨s.heap.objs.size,[s.heap.objs.size,p],[s.heap.objs.size],its.toArray.size,_,_,λi=>(bs[i]?).getD true,rfl,ua (A:=X.A.in1) (I.ok.hd hc) _ p (wQ hlt) its.toArray,
  ⟨⟨_,wO _ rfl,rfl,rfl⟩,hl.push _⟩,λi v s' Q' E' hP hQ=>?_,λh' tk hk=>?_⟩
 ·have hP:its.toArray[i]? = some v:=hP
  rw[hi]at hP;simp only[xu,wq,Vg]at hP;obtain⟨b,e,rfl⟩:=hP;simp only[e,QU]at hQ;exact Wy hQ
 ·have e:((wo its.toArray.size).any λi=>(bs[i]?).getD true)=bs.any id:=by
   rw[wK,hi,wl];exact zuU bs
  rw[e];exact⟨.bl (bs.any id),H,I.kept (t':=tk) (λb x e=>hk b x (λhm=>by rw[w6.mp hm]at e;exact W3 _ (wC e)) (wn _ e)),rfl,q⟩
theorem zBu{K:wa}{H:Hp}{Q:VK}{p:we}{bs:List Bool}(h:aE K H p (bs.map V.bl))(q:Q (.bl (bs.any id)) H):Bs K [.ref p] H Q:=⟨p,bs,rfl,h,q⟩
def sr(K:wa):List V->Hp->VK->Prop:=λxs H Q=>∃(p:we)(ns:List Int),xs=[.ref p]/\aE K H p (ns.map V.int)/\Q (.int ns.sum) H
section
open PyProof.V PySem.Calls PySem.W
variable{prog:wH}{w:wM}{A:w9}{E:wf->wm->Prop}{s:wm}
theorem Zt{t:we}{xs:Array (Int × Tok)}{Q:wf->wm->Prop}(hh:A.handled=none)(ht:s.heap.IsList t (intItems xs))
  (h:∀h' tk t',(∀b o,s.heap.get? b=some o->h'.get? b=some o)->Q (.int (preSum (numAt xs) xs.size) t') {s with heap:=h',toks:=tk}) :
  wt (model prog w) A (call (.builtin "sum") [.ref t]) Q E s:=by
 obtain⟨o,ho,hc,n,hd⟩:=id ht;have hne:t≠s.heap.objs.size:=wQ (wC ho);have hsz:(intItems xs).size=xs.size:=by simp[intItems]
 have W:=(ua (prog:=prog) (w:=w) (A:=A.in1) hh s.heap.objs.size t hne (intItems xs)).toS;rw[hsz]at W;refine call_sum_walkAnyS (V2 ht ?_);refine⟨s.heap.objs.size,_,_,_,_,_,_,numAt xs,rfl,W,⟨⟨_,wO _ rfl,rfl,rfl⟩,ht.at λo e=>wn _ e⟩,λb hb=>?_,λi v hP=>intItems_at hP,λs' t' hm=>?_⟩
 ·rcases wL.mp hb with rfl | hb
  ·exact wC (wO _ rfl)
  ·obtain rfl:=w6.mp hb
   exact wC (wn _ ho)
 ·obtain⟨h',g',d',tk',os'⟩:=s'
  have e1:g'=s.gens:=hm.gens;have e2:d'=s.drawn:=hm.drawn;have e3:os'=s.os:=hm.os;subst e1 e2 e3;exact h h' tk' t' λb o e=>hm.heap b o (λhb=>absurd (wC e) ((w6.mp hb) ▸ W3 _)) (wn _ e)
theorem Df{X:Cx}(hc:X.calm=true):bS X (.builtin "sum") (sr X.K):=by
 intro pins s σ H xs us Q I r h;obtain⟨p,ns,rfl,hq,q⟩:=h;obtain⟨u,rfl,rx⟩:=iZ r;cases rx;obtain⟨its,r',pl,hz⟩:=I.list hq;have hI:=zj r';have hT:s.heap.IsList p its.toArray:=pl.isList;obtain⟨zs,hx⟩:=hI.allInts.items;have hn:numsOf its.toArray.toList=ns:=by rw[show its.toArray.toList=its from rfl,hI.numsOf]
 rw[hx]at hT hn;rw[nums_intItems]at hn;refine Zt (I.ok.hd hc) hT λh' tk t' hk=>?_
 rw[preSum_eq,WQ (by simp),hn];exact⟨.int ns.sum,H,I.kept (t':=tk) hk,⟨_,rfl⟩,q⟩
end
theorem GC{K:wa}{H:Hp}{Q:VK}{p:we}{ns:List Int}(h:aE K H p (ns.map V.int))(q:Q (.int ns.sum) H):sr K [.ref p] H Q:=⟨p,ns,rfl,h,q⟩
abbrev M4(h:wJ)(a:we):wJ:=h.push {cls:=.type "tuple_iterator",data:=.fields #[.ref a,.int 0 0]}
abbrev LW(h:wJ)(a b:we):wJ:=(M4 h a).push {cls:=.type "list_iterator",data:=.fields #[.ref b,.int 0 0]}
abbrev O6(h:wJ)(a b:we):wJ:=(LW h a b).push {cls:=.type "tuple",data:=.seq #[.ref h.objs.size,.ref (M4 h a).objs.size]}
abbrev Zu(h:wJ)(a b:we):wJ:=(O6 h a b).push {cls:=.type "tuple",data:=.seq #[.none,.none]}
abbrev zM5(h:wJ)(a b:we):wJ:=(Zu h a b).push {cls:=.type "zip",data:=.fields #[.none,.bool false,.bool false,.ref (LW h a b).objs.size,.ref (O6 h a b).objs.size]}
section
variable{prog:wH}{w:wM}{A:w9}{E:wf->wm->Prop}{s:wm}
end
theorem oz{K:wa}{H:Hp}{Q:VK}{v:V}{ds:List wD}(h:Is K H v (.list ds)\/Is K H v (.tuple ds))(q:∀l H' ys,H l=none->ar H H'->H' l=some (.lst ys)->ah K H' ys ds->Q (.ref l) H'):fS K [v] H Q:=by
 rcases h with h | h
 ·exact Rf h q
 ·exact pU h q
def Lp(K:wa)(G:wf)(tb:(St->XK)->TS)(th:TS):TS:=λD σ H=>∃W:St->XK,tb W D σ H /\ ∀σ' C o H',W σ' C o H'->qb K C G=some true/\th D σ' H'
section
variable{X:Cx}{x:Str}{G:wf}{b₀ : wW}{body suite:List wW}{np hpos pos:Pos}{tb:(St->XK)->TS}{th:TS}
theorem NR(hs:X.stack=X.env::X.outer)(hf:X.env.frame=some X.env.locals)(hg:Gl X x)(hG:X.mg x=some G)
  (hb:∀(W:St->XK)(pn:List (we × Obj))(E':wf->wm->Prop),Uh (ff X.prog X.w) (X.at pn E') W->fE (X.at pn E') body (tb W))
  (hh:∀(pn:List (we × Obj))(ex:we)(oe:Obj),fE (X.sY pn ex oe) (b₀ :: suite) th) (hdb:(x == ("__debug__" : Str))=false:=by decide) :
  PS X (.Try body [.ExceptHandler (some (.Name x np)) none (b₀ :: suite) hpos] [] [] pos) (Lp X.K G tb th):=by
 intro pins s σ H D I h;obtain⟨W,hB,hH⟩:=h;refine wpAny_Try_except ?_;have I':=I.Y8 λe s1=>∃σ1 H1 s0,Inv X pins σ1 H1 s0/\ff X.prog X.w X.stack H1 s0 (W σ1) e s1
 have key:=hb W (X.pn++pins) (λe s1=>∃σ1 H1 s0,Inv X pins σ1 H1 s0/\ff X.prog X.w X.stack H1 s0 (W σ1) e s1) (λpins1 σ1 H1 s0 e s1 I1 q=>⟨σ1,H1,s0,I1.pk,q⟩) [] s σ H D I' hB;refine WE key (λf s1 hq=>?_) λe s1 he=>?_
 ·cases f with
  | next=>obtain⟨σ',H',J,q⟩:=hq;exact qq ⟨σ',H',J.pk,q⟩
  | brk=>obtain⟨σ',H',J,q⟩:=hq;exact⟨σ',H',J.pk,q⟩
  | cont=>obtain⟨σ',H',J,q⟩:=hq;exact⟨σ',H',J.pk,q⟩
  | ret u=>obtain⟨v,σ',H',J,r,q⟩:=hq;exact⟨v,σ',H',J.pk,r,q⟩
 obtain⟨σ1,H1,s0,I1,ex,C,H',B,rfl,os,bare,un,aM,F,ov,q⟩:=he;obtain⟨hm,hS⟩:=hH σ1 C none H' q;have hfs:∀b∈d7 X.stack,H1 b=none /\ ∃o,s0.heap.get? b=some o /\ ∀vs,o.data≠.fields vs:=λb hb=>⟨I1.sS b hb,(I1.stack.mem hb).2⟩
 have hfr:=I.ok.frames.trans (congrArg some hs)
 have hex:H' ex=none:=by
  obtain⟨_,_,_,_,_,_,_,_,_,_,_,_,_,be,_⟩:=F;cases z:H' ex with
  | none=>rfl
  | some o =>
   obtain⟨u,e1⟩:=ov.jj ex o z;rw[be]at e1;cases e1
 have st1:=F.st;rw[hs]at F
 have exc:∀{h4:wJ},ft B (X.env::X.outer) ex C .none h4->s1.heap.UpToSlots h4->∃oe,h4.get? ex=some oe/\NW C oe/\Inv (X.sY (X.pn++pins) ex oe) [] σ1 H' {s1 with heap:=h4}:=λ{h4} F4 sm=>by
  have J:Inv X pins σ1 H' {s1 with heap:=h4}:=I1.Kv (s':={s1 with heap:=h4}) (ch:=[]) os (ov.un un hfs F4.st sm) (ov.aM aM st1 F4.st) bare (λ_ z=>nomatch z);obtain⟨_,_,oe,vs,T,oT,ts,he,hc,hd,h1,h2,hdi,_⟩:=F4;refine⟨oe,he,⟨hc,⟨vs,hd,h2⟩,hdi⟩,J.YU he hex (λz=>?_) (λz=>?_) λv z=>?_⟩
  ·obtain⟨m,⟨o,es,ep,ho,hdd,_⟩,_⟩:=J.loc
   rw[<- z]at ho;have:(some oe:Option Obj)=some o:=he.symm.trans ho;cases this;rw[hd]at hdd;cases hdd
  ·obtain⟨_,o,ho,nr⟩:=J.fk.mem z
   have:(some oe:Option Obj)=some o:=he.symm.trans ho;cases this;exact nr vs hd
  ·rw[hd]at z;cases z
 refine F.note hfr hf λh2 F2 sm2=>F2.land λh3 F3 sm3=>?_
 obtain⟨oe3,g3,x3,K3⟩:=exc F3 (sm2.trans sm3);refine wpAny_handleBy_cons (codeAny_handlers_test (pS K3 hg hG ?_ hdb)) (by intro z;cases z);have LT:PySem.W.Looks (model X.prog X.w) h3 (typeOf (.ref ex)) C:=x3.cls ▸ (uI g3).andThen .now;refine(PySem.W.exm_one (h:=h3) K3.dW LT hm).here ?_;refine codeAny_handlers_suite ?_;refine F3.land λh4 F4 sm4=>?_
 obtain⟨oe,g4,x4,K4⟩:=exc F4 ((sm2.trans sm3).trans sm4);refine WE (hh _ ex oe [] _ _ H' _ K4 hS) (λf s6 h6=>?_) λ_ _ z=>z.elim
 cases f with
 | next=>obtain⟨σ',H6,J,q6⟩:=h6;exact⟨_,H6,J.s_ I.ok,q6⟩
 | brk=>obtain⟨σ',H6,J,q6⟩:=h6;exact⟨_,H6,J.s_ I.ok,q6⟩
 | cont=>obtain⟨σ',H6,J,q6⟩:=h6;exact⟨_,H6,J.s_ I.ok,q6⟩
 | ret u=>obtain⟨v,σ',H6,J,r,q6⟩:=h6;exact⟨v,_,H6,J.s_ I.ok,r,q6⟩
end
theorem LR{K:wa}{σ : St}{H:Hp}{D:cR}{G:wf}{tb:(St->XK)->TS}{th:TS}(W:St->XK)(h:tb W D σ H)(k:∀σ' C o H',W σ' C o H'->qb K C G=some true/\th D σ' H'):Lp K G tb th D σ H:=⟨W,h,k⟩
theorem lY{K:wa}{H:Hp}{Q:VK}(s t:String)(r:Bool)(e:w8 (.str (vW s)) (.str (vW t))=r)(q:Q (.bl r) H):jP K (.str (vW s)) (.str (vW t)) H Q :=
 oq (d:=.str (vW s)) (e:=.str (vW t)) (iF.mpr rfl) (iF.mpr rfl) (Sq s) (Sq t) (by rw[e];exact q)
section
variable{K:wa}{H:Hp}{Q:VK}{p:we}{ns:List Int}
end
def LZ(ns:List Int):wD:=.list (ns.map .int)
theorem zEU{K:wa}{H:Hp}{l:we}{ns:List Int}(h:H l=some (.lst (ns.map V.int))):Is K H (.ref l) (LZ ns):=ck.mpr ⟨l,_,rfl,.of h,mv.mpr rfl⟩
abbrev T1(h:wJ)(a:we):wJ:=h.push {cls:=.type "list_iterator",data:=.fields #[.ref a,.int 0 0]}
abbrev OO(h:wJ)(a b:we):wJ:=(T1 h a).push {cls:=.type "tuple_iterator",data:=.fields #[.ref b,.int 0 0]}
abbrev Lz(h:wJ)(a b:we):wJ:=(OO h a b).push {cls:=.type "tuple",data:=.seq #[.ref h.objs.size,.ref (T1 h a).objs.size]}
abbrev zN4(h:wJ)(a b:we):wJ:=(Lz h a b).push {cls:=.type "tuple",data:=.seq #[.none,.none]}
abbrev zN5(h:wJ)(a b:we):wJ:=(zN4 h a b).push {cls:=.type "zip",data:=.fields #[.none,.bool false,.bool false,.ref (OO h a b).objs.size,.ref (Lz h a b).objs.size]}
section
variable{prog:wH}{w:wM}{A:w9}{E:wf->wm->Prop}{s:wm}
end
end L2
namespace TB
open PySem
def Lx(xs:Array Nat):Prop:=∀i j,i<j->j<xs.size->xs.getD i 0<xs.getD j 0
def g(x:Nat):Nat:=x*5+1
def it(n x:Nat):Nat:=match n with | 0=>x | n+1=>g (it n x)
def s:Nat->Nat | 0=>0 | n+1=>5*s n+1
theorem U0(n:Nat):5^n=4*s n+1:=by
 induction n with
 | zero=>rfl
 | succ n ih=>rw[Vj,ih];show _=4*(5*s n+1)+1;lia
theorem ZP(n x:Nat):it n x=5^n*x+s n:=by
 induction n with
 | zero=>show x=5^0*x+0;simp
 | succ n ih =>
  show g (it n x)=5^(n+1)*x+(5*s n+1)
  rw[ih,Vj];unfold g;rw[Vt,Xq (5^n) 5 x];lia
theorem zC6(m n x:Nat):it (m+n) x=it m (it n x):=by
 induction m with
 | zero=>rw[Vl];rfl
 | succ m ih=>rw[Nat.succ_add];show g (it (m+n) x)=g (it m (it n x));rw[ih]
theorem zDZ(m n:Nat):s (m+n)=5^m*s n+s m:=by
 induction m with
 | zero=>simp[s]
 | succ m ih =>
  rw[Nat.succ_add]
  show 5*s (m+n)+1=5^(m+1)*s n+(5*s m+1)
  rw[ih,Vj,Vt,Xq (5^m) 5];lia
theorem zEr(k:Nat):∃o,s (2^k)=2^k*(2*o+1):=by
 induction k with
 | zero=>exact⟨0,rfl⟩
 | succ k ih =>
  obtain⟨o,ho⟩:=ih
  have e:s (2^(k+1))=2^(k+1)*((2*o+1)*(2*s (2^k)+1)):=by
   have:2^(k+1)=2^k+2^k:=by rw[Vj];lia
   rw[this,zDZ,U0];generalize hs:s (2^k)=S at *
   have h2:(2^k+2^k)*((2*o+1)*(2*S+1))=2*(2^k*(2*o+1))*(2*S+1):=by
    rw[<- Nat.two_mul,<- Vt,Vt 2]
   rw[h2,<- ho];generalize S*S=z at *;have:(4*S+1)*S=4*(S*S)+S:=by rw[XA,Vt,XB]
   rw[this]
   have:2*S*(2*S+1)=4*(S*S)+2*S:=by
    rw[Qs,Nat.mul_one,Nat.mul_mul_mul_comm]
   rw[this];lia
  refine⟨o*(2*s (2^k)+1)+s (2^k),?_⟩;rw[e]
  congr 1
  rw[XA,XB,Vt]
  lia
theorem zEy(M c a:Nat):(4*(M*c)+1)*a+M*c=a+M*(c*(4*a+1)):=by
 rw[XA,XB,Qs c,Nat.mul_one,Qs M];have:4*(M*c)*a=M*(c*(4*a)):=by rw[xW 4,Vt,Vt]
 lia
theorem zEk(k:Nat):∀x y:Nat,∃n,n<2^k/\it n x % 2^k=y % 2^k:=by
 induction k with
 | zero=>intro x y;exact⟨0,by decide,by simp[Nat.mod_one]⟩
 | succ k ih =>
  intro x y;obtain⟨n,hn,e⟩:=ih x y;have hp:0<2^k:=Nat.pow_pos (by decide);have h2:2^(k+1)=2^k*2:=Vj ..;obtain⟨o,ho⟩:=zEr k;generalize hM:2^k=M at *;rw[h2]
  by_cases c:it n x / M % 2=y / M % 2
  ·refine⟨n,by lia,?_⟩
   rw[xl,xl,e,c]
  ·refine⟨M+n,by lia,?_⟩
   rw[zC6,ZP,U0,ho];generalize it n x=a at *;rw[zEy,xl,xl,Nat.add_mul_mod_self_left,e,Nat.add_mul_div_left _ _ hp]
   have:(2*o+1)*(4*a+1) % 2=1:=by
    rw[XC];have h1:(2*o+1) % 2=1:=by lia
    have h2:(4*a+1) % 2=1:=by lia
    rw[h1,h2]
   congr 2
   lia
open SetTable (Probe leap runEnd bits turns)
def Zv(mask:Nat)(p:Probe):Probe :=
 if p.more > 0 then {p with j:=p.j+1,more:=p.more-1}else
 {p with j:=(leap mask p.i p.perturb).1,more:=runEnd mask (leap mask p.i p.perturb).1-(leap mask p.i p.perturb).1,i:=(leap mask p.i p.perturb).1,perturb:=(leap mask p.i p.perturb).2}
def way(mask:Nat)(p:Probe):Nat->Probe | 0=>p | n+1=>Zv mask (way mask p n)
def zEF(mask i b:Nat):Probe:={j:=i,more:=runEnd mask i-i,i:=i,perturb:=b,dummy:=none}
def start(mask:Nat)(h:Int):Probe:=zEF mask (bits h % (mask+1)) (bits h)
def lp(mask i b:Nat):Nat->Nat × Nat | 0=>(i,b) | n+1=>leap mask (lp mask i b n).1 (lp mask i b n).2
theorem TQ(mask i b:Nat):∀n,(lp mask i b n).2=b / 32^n
 | 0=>by simp[lp]
 | n+1=>by
  show(lp mask i b n).2 / 32=_
  rw[TQ mask i b n,Vj,xm]
theorem L9(mask i b c:Nat)(h:b / 32^c=0):∀n,(lp mask i b (c+1+n)).1=it n (lp mask i b (c+1)).1 % (mask+1)
 | 0=>by
  show(lp mask i b (c+1)).1=(lp mask i b (c+1)).1 % (mask+1)
  show _ % _=_ % _ % _
  rw[Nat.mod_mod]
 | n+1=>by
  show((lp mask i b (c+1+n)).1*5+1+(lp mask i b (c+1+n)).2 / 32) % (mask+1)=g (it n _) % _
  have:(lp mask i b (c+1+n)).2 / 32=0:=by
   rw[TQ]
   have:b / 32^(c+1+n)=0:=by
    rw[Vr,xc,<- xm,h,Nat.zero_div]
   rw[this]
  rw[this,L9 mask i b c h n];unfold g;rw[Qa,Nat.add_mod,XC,Nat.mod_mod,<- XC,<- Nat.add_mod]
theorem zE8{mask k:Nat}(hm:mask+1=2^k){i b:Nat}(hb:b<2^64){j:Nat}(hj:j<=mask):∃m,m<=mask+14/\(lp mask i b m).1=j:=by
 have h0:b / 32^13=0:=Nat.div_eq_of_lt (wT hb (by decide));obtain⟨n,hn,e⟩:=zEk k (lp mask i b 14).1 j;refine⟨13+1+n,by lia,?_⟩;rw[L9 mask i b 13 h0,hm,e,QT (by lia)]
def In(t:SetTable)(j:Nat):Prop:=∃i,i<t.place.size/\t.place.getD i 0=j
structure Tb(t:SetTable)(hs:List Int):Prop where
 Zo:Lx t.place
 size:t.place.size=hs.length
 dum:t.dummies = #[]
 two:∃k,3<=k/\t.mask+1=2^k
 le:∀i,i<t.place.size->t.place.getD i 0<=t.mask
 room:t.place.size<=t.mask
 path:∀i,i<t.place.size->∃n,(way t.mask (start t.mask (hs.getD i 0)) n).j=t.place.getD i 0 /\ ∀m,m<n->In t (way t.mask (start t.mask (hs.getD i 0)) m).j
theorem zE9{P:Nat->Prop}{n:Nat}(h:P n):∃m,m<=n/\P m /\ ∀k,k<m->¬ P k:=by
 induction n using Nat.strongRecOn with
 | _ n ih =>
  by_cases c:∃k,k<n/\P k
  ·obtain⟨k,hk,hp⟩:=c
   obtain⟨m,h1,h2,h3⟩:=ih k hk hp;exact⟨m,by lia,h2,h3⟩
  ·exact⟨n,wp _,h,λk hk hp=>c ⟨k,hk,hp⟩⟩
def live(mask:Nat)(ow:Array (Option Nat)):List (Nat × Nat):=(wo (mask+1)).filterMap λj=>(ow.getD j none).map (j,·)
section
variable{prog:wH}{w:wM}{K:Type}[DecidableEq K]{knd:KeyKind prog w K}{U:we->List K->Prop}{A:w9}{E:wf->wm->Prop}{s:wm}
def Ent(knd:KeyKind prog w K)(U:we->List K->Prop)(h:wJ)(e:Int × wf)(k:List K):Prop:=∃a,e.2=.ref a/\IsTupleKey knd h k a/\e.1=tupleKeyHash knd k/\U a k
def zBH(knd:KeyKind prog w K)(U:we->List K->Prop)(h:wJ)(es:List (Int × wf))(ks:List (List K)):Prop:=es.length=ks.length /\ ∀(i:Nat)(e:Int × wf)(k:List K),es[i]? = some e->ks[i]? = some k->Ent knd U h e k
def TS(knd:KeyKind prog w K)(U:we->List K->Prop)(h:wJ)(a:we)(led:Bool)(ks:List (List K)):Prop :=
 ∃o es ep t,h.get? a=some o/\o.ExactSet/\o.data=.set es ep t/\Tb t (es.toList.map (·.1))/\es.size*5<t.mask*3/\(t.mask<=7\/t.mask<=8*es.size)/\t.led=led/\t.plain=true/\zBH knd U h es.toList ks/\ks.Nodup
end
section
variable{prog:wH}{w:wM}{K:Type}[DecidableEq K]{knd:KeyKind prog w K}{U:we->List K->Prop}
variable{A:w9}{R:Result->wm->Prop}{I:we}{fp wr:List we}{G:Array GenState->Array GenState->Prop}{n:Nat}{P:Nat->wf->Prop}{St:Nat->wm->Prop}
end
def zD6(w:wM):Bool:=!(w.params.followText "set-order")
section
variable{prog:wH}{w:wM}{K:Type}[DecidableEq K]{knd:KeyKind prog w K}{U:we->List K->Prop}{A:w9}{E:wf->wm->Prop}{s:wm}
end
end TB
namespace TB
open PySem PySem.W PyProof.Rows
section
variable{n:Nat}(h1:1<=n)
include h1
end
section
variable{prog:wH}{w:wM}{A:w9}{E:wf->wm->Prop}{s:wm}
end
structure YO(w:wM)(h:wJ)(a:we)(es:Array (Int × wf))(ep:Nat)(t:SetTable):Prop where
 at':∃o,h.get? a=some o/\o.ExactSet/\o.data=.set es ep t
 fits:t.fits es.size=true
 size:t.place.size=es.size
 Zo:Lx t.place
 plain:t.plain=true
 led:t.led=zD6 w
 bZ:es.size<=4000
section
variable{prog:wH}{w:wM}{A:w9}{E:wf->wm->Prop}{s:wm}{a:we}{es:Array (Int × wf)}{ep:Nat}{t:SetTable}
end
section
variable{prog:wH}{w:wM}{A:w9}{E:wf->wm->Prop}{s:wm}{a it:we}{es:Array (Int × wf)}{ep:Nat}{t:SetTable}{i:Nat}
end
section
variable{prog:wH}{w:wM}{A:w9}{E:wf->wm->Prop}{s:wm}
end
end TB
namespace L2
open PySem PySem.Spec PyProof.Rows GM
def Y6(w:wM)(a:we)(ws:List V):HO:=.ext λh=>∃es ep t,TB.YO w h a es ep t/\aS ws (es.toList.map (·.2))
def B0(K:wa)(H:Hp)(v:V)(k:List Int):Prop:=∃q,v=.ref q/\aT K H q (k.map V.int)
theorem items_int{P:wH}{w:wM} : ∀{us:List wf}{ns:List Int},IntsAre us ns->ItemsAre (intKind P w) ns us
 | _,_,.nil=>.nil
 | _,_,.cons n t r=>.cons (by show Xv n (Value.int n t)=true;simp[Xv]) (items_int r)
theorem Inv.key{X:Cx}{pins:List (we × Obj)}{σ : List (Option V)}{H:Hp}{s:wm}(I:Inv X pins σ H s){q:we}{k:List Int}(h:aT X.K H q (k.map V.int)):IsTupleKey (intKind X.prog X.w) s.heap k q:=by
 obtain⟨its,r,⟨o,e,hc,n,hd⟩,_⟩:=I.tuple h;exact⟨o,its.toArray,n,e,hc,hd,items_int (zj r)⟩
theorem LM:∀{ws:List V}{us:List wf},aS ws us->∀{i:Nat}{q:we},ws[i]? = some (.ref q)->us[i]? = some (.ref q)
 | _,_,.nil,i,q,h=>by simp at h
 | _,_,.cons r1 r2,0,q,h=>by
  simp only[QY,qO]at h ⊢;subst h;exact r1
 | _,_,.cons r1 r2,i+1,q,h=>by
  simp only[QZ]at h ⊢;exact LM r2 h
end L2
namespace TB
open PySem PySem.W PyProof.Rows MeetsSeq
section
variable{prog:wH}{w:wM}{A:w9}{s:wm}{R:Result->wm->Prop}
end
end TB
namespace L2
open PySem PySem.Spec PyProof.Rows GM
section
variable{K:wa}{w:wM}{H H':Hp}{Q:VK}{v:V}{p l:we}{xs ys:List Rat}{us ws:List V}
theorem UU{r:Rat} : Is K H v (N r) ↔ B0 K H v [r.num,(r.den:Int)]:=mE
theorem Y_{r s:Rat}(h:([r.num,(r.den:Int)]:List Int)=[s.num,(s.den:Int)]):r=s:=by
 simp only[X8,and_true]at h;exact ui h.1 (by lia)
end
end L2
namespace GM
section
variable(rs:List Int)(us ts:List (List Int))(ps cs:List Int)
end
section
variable{rs:List Int}{us ts:List (List Int)}{ps cs:List Int}
end
section
variable(rs:List Int)(us ts:List (List Int))(ps cs:List Int)
end
section
variable{rs:List Int}{us ts:List (List Int)}{ps cs:List Int}{f:Nat}{g:List Nat}{acc:List (List Nat)}
end
section
variable(rs:List Int)(us ts:List (List Int))(ps:List Int)(cm:List (List Int))
end
section
variable{rs:List Int}{us ts:List (List Int)}{ps:List Int}{cm:List (List Int)}
end
end GM
namespace L2
open PySem PySem.Spec PyProof.Rows GM
section
variable{K:wa}{H H':Hp}{Q:VK}{v:V}{rs ps:List Int}{us ts cm rows:List (List Int)}{m:Int}{ws:List (List Nat)}
end
theorem zC0{i:Nat}{te:TE}{ti:rl}{D:cR}{σ : L2.St}{H:Hp}(h:∃x,σ[i]? = some (some x)/\te σ H λy H1=>ti x y H1 λz H2=>D.nx (σ.set i (some z)) H2):RJ i te ti D σ H:=h
theorem ZI{v:V}{P:V->Prop}{o:Option (Option V)}(h:o=some (some v))(q:P v):∃x,o=some (some x)/\P x:=⟨v,h,q⟩
theorem zCZ{f:Int->Int->Int}{m n:Int}{H:Hp}{Q:VK}(q:Q (.int (f m n)) H):Tc f (.int m) (.int n) H Q:=⟨m,n,rfl,rfl,q⟩
end L2
namespace TB
open PySem PySem.W PyProof.Rows
inductive d_{α β : Type}(R : α -> β -> Prop):List α -> List β -> Prop
 | nil:d_ R [] []
 | cons {a : α} {b : β} {l:List α} {m:List β} : R a b->d_ R l m->d_ R (a::l) (b::m)
structure HV(prog:wH)(w:wM)(K:Type)[DecidableEq K] where
 is:wJ->K->wf->Prop
 hash:K->Int
 draws:K->Nat
 deep:Nat
 inj:∀{h:wJ}{v:wf}{x y:K},is h x v->is h y v->x=y
 keeps:∀{h h':wJ}{k:K}{v:wf}{d:we}{o:Obj}{es ep},is h k v->h.get? d=some o->o.data=.dict es ep->vG d h h'->is h' k v
 pyHash:∀{A:w9}{E:wf->wm->Prop}{s:wm}{k:K}{v:wf}{Q:Int->wm->Prop},A.units+deep<WG->is s.heap k v->Q (hash k) {s with toks:=s.toks+draws k}->wt (model prog w) A (PySem.pyHash v) Q E s
 eqBool:∀{A:w9}{E:wf->wm->Prop}{s:wm}{x y:K}{u v:wf}{Q:Bool->wm->Prop},A.units+deep<WG->is s.heap x u->is s.heap y v->Q (decide (x=y)) s->wt (model prog w) A (PySem.eqBool u v) Q E s
 quiet:∀{A:w9}{E:wf->wm->Prop}{s:wm}{k:K}{v:wf}{Q:Bool->wm->Prop}(n:Nat),deep<=n->is s.heap k v->Q true s->wt (model prog w) A (eqIsQuiet n v) Q E s
section
variable{prog:wH}{w:wM}{A:w9}{E:wf->wm->Prop}{s:wm}
variable{a:we}
theorem RB{o:Obj}{items:Array wf}{n:Nat}{hs:List (Int × Nat)}{Q:Int->wm->Prop}(hu:A.units<WG)(ho:s.heap.get? a=some o)(hc:o.cls=.type "tuple")(hd:o.data=.seq items n)
  (hi:d_ (λv (x:Int × Nat)=>∀(E:wf->wm->Prop)(Q:Int->wm->Prop)(s':wm),s'.heap=s.heap->Q x.1 {s' with toks:=s'.toks+x.2}->wt (model prog w) A.in1 (pyHash v) Q E s') items.toList hs)
  (h:Q (reduceHash (vZ (hs.map (·.1)))) {s with toks:=s.toks+((hs.map (·.2)).sum+1)}) :
  wt (model prog w) A (pyHash (.ref a)) Q E s:=by
 have hT:s.TypeIs (.ref a) "tuple":=⟨o,ho,hc⟩;unfold pyHash
 first | unfold pyHashByItsType | skip
 first | refine wg (wpAny_cRoomFor_or (.inr hu) ?_) | skip
 refine wg (wpAny_specialOf hT qP.lookup ?_)
 show wt _ _ (if(some (Value.builtin "tuple.__hash__") == some Value.none)=true then _ else _) Q E s
 rw[if_neg (by rw[beq_builtin_none];exact vC)];refine wg (wpAny_specialOf hT qP.lookup ?_)
 show wt _ _ (callSpecialIfBoundUnlessNone? (.ref a) "__hash__" _ >>= _) Q E s
 refine wg (wpAny_callSpecialIfBoundUnlessNone?_slot hT qP (Wj qP hT F.entry_tuple_hash ?_ (F.args_tuple_hash_1 _)))
 show wt _ _ (Qz (.ref a) >>= _) _ _ s
 refine wg (wpAny_tupleItemsOf ho hd ?_);refine wg ?_;rw[<- qB]
 refine wpAny_forIn_list _
  (λd4 (b:Array Int) s'=>∃done left,hs=done++left/\d_ (λv (x:Int × Nat)=>∀(E:wf->wm->Prop)(Q:Int->wm->Prop)(s':wm),s'.heap=s.heap->Q x.1 {s' with toks:=s'.toks+x.2}->wt (model prog w) A.in1 (pyHash v) Q E s') d4 left/\b.toList=done.map (·.1)/\s' = {s with toks:=s.toks+(done.map (·.2)).sum})
  _ ?_ ?_ _ _ ⟨[],hs,rfl,hi,rfl,rfl⟩
 ·rintro x d4 b s' ⟨done,left,rfl,hl,hb,rfl⟩
  cases hl with
  | @cons _ k _ ks' h1 hl' =>
   refine wg (h1 _ _ _ rfl ?_)
   first
    | exact wy ⟨done++[k],ks',by simp,hl',by simp[hb],by simp[Vr]⟩
    | exact wg (wy (wy ⟨done++[k],ks',by simp,hl',by simp[hb],by simp[Vr]⟩))
 ·rintro b s' ⟨done,left,rfl,hl,hb,rfl⟩
  cases hl;rw[vK]at h
  show wt _ _ (retInt (vZ b.toList)) _ _ _
  rw[hb];refine wpAny_ret_mkInt ?_
  show wt _ _ (if(decide (-(2:Int)^63<=vZ (done.map (·.1)))&&decide (vZ (done.map (·.1))<2^63))=true then _ else _) Q E _
  unfold reduceHash at h
  by_cases hr:(decide (-(2:Int)^63<=vZ (done.map (·.1)))&&decide (vZ (done.map (·.1))<2^63))=true
  ·rw[if_pos hr]
   rw[if_pos hr]at h;exact wy (by simpa [Vr] using h)
  ·rw[if_neg hr]
   rw[if_neg hr]at h;exact wg (wpAny_rule (wy (by simpa [Vr] using h)))
theorem zC4{b:we}{oa ob:Obj}{xs ys:Array wf}{na nb:Nat}{bs:List Bool}{P:PySem.Fin->wm->Prop}(hoa:s.heap.get? a=some oa)(hda:oa.data=.seq xs na)(hob:s.heap.get? b=some ob)(hcb:ob.cls=.type "tuple")(hdb:ob.data=.seq ys nb)
  (hi:d_ (λ(p:wf × wf)(c:Bool)=>∀(E:wf->wm->Prop)(Q:Bool->wm->Prop),Q c s->wt (model prog w) A (eqBool p.1 p.2) Q E s) (xs.toList.zip ys.toList) bs)
  (h:P (.done (.ret (.bool (bs.all id&&xs.size == ys.size)))) s) :
  wt (model prog w) A (Builtin.«tuple.__eq__» ⟨[.ref a,.ref b],[]⟩) P E s:=by
 have hTb:s.TypeIs (.ref b) "tuple":=⟨ob,hob,hcb⟩
 show wt _ _ (isInstance (.ref b) (.type "tuple") >>= _) _ _ s
 refine wg (Vf hTb isSubtype_tuple_tuple ?_);simp only[qj,Wu,if_false];refine wg (wpAny_tupleItemsOf hoa hda ?_);refine wg (wpAny_tupleItemsOf hob hdb ?_);refine wg ?_
 refine wpAny_forIn_list _
  (λd4 r s'=>r.1=none/\s'=s /\ ∃cs,d_ (λ(p:wf × wf)(c:Bool)=>∀(E:wf->wm->Prop)(Q:Bool->wm->Prop),Q c s->wt (model prog w) A (eqBool p.1 p.2) Q E s) d4 cs/\bs.all id=cs.all id)
  _ ?_ ?_ _ _ ⟨rfl,rfl,bs,hi,rfl⟩
 ·rintro ⟨u,v⟩ d4 r s' ⟨hr,rfl,cs,hcs,hall⟩
  cases hcs with
  | @cons _ c _ cs' h1 h2 =>
   refine wg (h1 _ _ ?_);cases c with
   | true =>
    simp only[qj,Wu,if_false];exact wy ⟨rfl,rfl,cs',h2,by rw[hall];simp⟩
   | false =>
    simp only[xr,if_true];have hf:bs.all id=false:=by rw[hall];simp
    rw[hf,WW]at h;exact wg (wy (wy (wy h)))
 ·rintro ⟨r1,r2⟩ s' ⟨hr,rfl,cs,hcs,hall⟩
  simp only at hr;subst hr;refine wy ?_;cases hcs;rw[hall]at h;have h':P (.done (.ret (.bool (xs.size == ys.size)))) s':=by simpa using h
  exact h'
theorem X_{o:Obj}{items:Array wf}{n m:Nat}{Q:Bool->wm->Prop}(ho:s.heap.get? a=some o)(hc:o.cls=.type "tuple")(hd:o.data=.seq items n)
  (hi:∀v∈items.toList,∀(E:wf->wm->Prop)(Q:Bool->wm->Prop),Q true s->wt (model prog w) A (eqIsQuiet m v) Q E s) (h:Q true s):wt (model prog w) A (eqIsQuiet (m+1) (.ref a)) Q E s:=by
 have hT:s.TypeIs (.ref a) "tuple":=⟨o,ho,hc⟩;unfold eqIsQuiet;refine wg (wpAny_specialOf hT Q5.lookup ?_)
 show wt _ _ (isInstance (.ref a) (.type "tuple") >>= _) _ _ s
 refine wg (Vf hT isSubtype_tuple_tuple ?_);simp only[qj,Wu,if_false];refine wg (WC ho hd ?_);refine wg ?_
 show wt _ _ (forIn items _ _) _ _ s
 rw[<- qB];refine wpAny_forIn_list _ (λd4 r s'=>r.1=none/\s'=s /\ ∀v∈d4,v∈items.toList) _ ?_ ?_ _ _ ⟨rfl,rfl,λ_ h=>h⟩
 ·rintro v d4 r s' ⟨hr,rfl,hall⟩
  refine wg (hi v (hall v wE) _ _ ?_);simp only[qj,Wu,if_false];exact wy ⟨rfl,rfl,λu hu'=>hall u (wA _ hu')⟩
 ·rintro ⟨r1,r2⟩ s' ⟨hr,rfl,_⟩
  simp only at hr;subst hr;exact wy h
theorem Ob{b:we}{oa ob:Obj}{xs ys:Array wf}{na nb:Nat}{bs:List Bool}{Q:Bool->wm->Prop}(hu:A.units<WG)(hoa:s.heap.get? a=some oa)(hca:oa.cls=.type "tuple")(hda:oa.data=.seq xs na)(hob:s.heap.get? b=some ob)(hcb:ob.cls=.type "tuple")(hdb:ob.data=.seq ys nb)
  (he:a=b->(bs.all id&&xs.size == ys.size)=true)
  (hi:d_ (λ(p:wf × wf)(c:Bool)=>∀(E:wf->wm->Prop)(Q:Bool->wm->Prop),Q c s->wt (model prog w) A.in1 (eqBool p.1 p.2) Q E s) (xs.toList.zip ys.toList) bs)
  (h:Q (bs.all id&&xs.size == ys.size) s):wt (model prog w) A (eqBool (.ref a) (.ref b)) Q E s:=by
 unfold eqBool
 try with_reducible refine WU ?_
 show wt _ _ (if(Value.ref a == Value.ref b)=true then _ else _) Q E s
 by_cases hab:(Value.ref a == Value.ref b)=true
 ·rw[if_pos hab]
  have e:a=b:=by have:=eq_of_beq hab;injection this
  rw[he e]at h;exact wg (wpAny_rule (wy h))
 ·rw[if_neg hab]
  have ta:s.TypeIs (.ref a) "tuple":=⟨oa,hoa,hca⟩;have tb:s.TypeIs (.ref b) "tuple":=⟨ob,hob,hcb⟩
  exact wg (wpAny_richCompare_same_room (op:=.Eq) ta tb Q5
   (Wj Q5 ta F.entry_tuple_eq (zC4 hoa hda hob hcb hdb hi ⟨_,rfl,(λe=>nomatch e),Wy h⟩) (F.args_tuple_eq_2 _ _)) hu)
end
def l_(R:List wf->Prop)(h:wJ)(v:wf):Prop:=∃a o items n,v=.ref a/\h.get? a=some o/\o.cls=.type "tuple"/\o.data=.seq items n/\R items.toList
theorem l_.inj{R S:List wf->Prop}{h:wJ}{v:wf}(x:l_ R h v)(y:l_ S h v):∃l,R l/\S l:=by
 obtain⟨a,o,items,n,rfl,ho,_,hd,hi⟩:=x;obtain⟨a',o',items',n',e,ho',_,hd',hi'⟩:=y;cases e;obtain rfl:o=o':=wZ (ho.symm.trans ho');rw[hd]at hd'
 injection hd' with h1 _
 subst h1;exact⟨_,hi,hi'⟩
theorem l_.keeps{R S:List wf->Prop}{h h':wJ}{v:wf}{d:we}{o:Obj}{es ep}(x:l_ R h v)(ho:h.get? d=some o)(hd:o.data=.dict es ep)(hs:vG d h h')(r:∀l,R l->S l):l_ S h' v:=by
 obtain⟨a,o',items,n,rfl,ho',hc,hd',hi⟩:=x
 have hne:a≠d:=by
  rintro rfl;obtain rfl:o'=o:=wZ (ho'.symm.trans ho);rw[hd]at hd';exact nomatch hd'
 exact⟨a,o',items,n,rfl,(hs.2 a hne).trans ho',hc,hd',r _ hi⟩
def fY(prog:wH)(w:wM):HV prog w Int where
 is:=λ_ k v=>∃t,v=.int k t
 hash:=hashInt
 draws:=λ_=>1
 deep:=0
 inj:=λ⟨t,e⟩ ⟨u,f⟩=>by subst e;injection f
 keeps:=λh _ _ _=>h
 pyHash:=λ_ ⟨t,e⟩ h=>by subst e;exact wpAny_pyHash_int h
 eqBool:=λ_ ⟨t,e⟩ ⟨u,f⟩ h=>by subst e f;exact wpAny_eqBool_int h
 quiet:=λn _ ⟨t,e⟩ h=>by subst e;rw[eqIsQuiet_byValue n rfl];exact wy h
section
variable{prog:wH}{w:wM}{K:Type}[DecidableEq K](e:HV prog w K)
theorem NP{A:w9}{s:wm}(hu:A.in1.units+e.deep<WG):∀{ks:List K}{vs:List wf},d_ (e.is s.heap) ks vs ->
  d_ (λv (x:Int × Nat)=>∀(E:wf->wm->Prop)(Q:Int->wm->Prop)(s':wm),s'.heap=s.heap->Q x.1 {s' with toks:=s'.toks+x.2}->wt (model prog w) A.in1 (pyHash v) Q E s') vs (ks.map λk=>(e.hash k,e.draws k))
 | _,_,.nil=>.nil
 | _,_,.cons h t=>.cons (λE Q s' he q=>e.pyHash hu (he ▸ h) q) (NP hu t)
theorem Rv{A:w9}{s:wm}(hu:A.in1.units+e.deep<WG):∀{ks js:List K}{us vs:List wf},d_ (e.is s.heap) ks us->d_ (e.is s.heap) js vs ->
  ∃bs,d_ (λ(p:wf × wf)(c:Bool)=>∀(E:wf->wm->Prop)(Q:Bool->wm->Prop),Q c s->wt (model prog w) A.in1 (eqBool p.1 p.2) Q E s) (us.zip vs) bs/\(bs.all id&&us.length == vs.length)=decide (ks=js)
 | _,_,_,_,.nil,.nil=>⟨[],.nil,by simp⟩
 | _,_,_,_,.nil,.cons _ _=>⟨[],.nil,by simp⟩
 | _,_,_,_,.cons _ _,.nil=>⟨[],.nil,by simp⟩
 | k::ks,j::js,_,_,.cons h t,.cons h' t'=>by
  obtain⟨bs,b1,b2⟩:=Rv hu t t';refine⟨decide (k=j)::bs,.cons (λE Q q=>e.eqBool hu h h' q) b1,?_⟩;rw[xG,Bool.and_assoc,Wa,Wa,show ∀a b:Nat,(a+1 == b+1)=(a == b)from λa b=>by simp,b2]
  by_cases h1:k=j<;>by_cases h2:ks=js<;>simp[h1,h2]
theorem Cz{h:wJ} : ∀{ks js:List K}{vs:List wf},d_ (e.is h) ks vs->d_ (e.is h) js vs->ks=js
 | _,_,_,.nil,.nil=>rfl
 | _,_,_,.cons h t,.cons h' t'=>by rw[e.inj h h',Cz t t']
theorem RD{α β : Type}{R S : α -> β -> Prop}(f:∀a b,R a b->S a b):∀{l:List α}{m:List β},d_ R l m->d_ S l m
 | _,_,.nil=>.nil
 | _,_,.cons h t=>.cons (f _ _ h) (RD f t)
theorem Sb{α β : Type}{R : α -> β -> Prop} : ∀{l:List α}{m:List β},d_ R l m->∀y∈m,∃x,R x y
 | _,_,.nil,y,hy=>by cases hy
 | _,_,.cons h t,y,hy=>by
  rcases wL.mp hy with rfl | hy
  ·exact⟨_,h⟩
  ·exact Sb t y hy
def f_:HV prog w (List K) where
 is:=λh ks v=>l_ (d_ (e.is h) ks) h v
 hash:=λks=>reduceHash (vZ ((ks.map λk=>(e.hash k,e.draws k)).map (·.1)))
 draws:=λks=>((ks.map λk=>(e.hash k,e.draws k)).map (·.2)).sum+1
 deep:=e.deep+1
 inj:=λx y=>by
  obtain⟨l,h1,h2⟩:=x.inj y;exact Cz e h1 h2
 keeps:=λx ho hd hs=>x.keeps ho hd hs λl h=>RD (λa b r=>e.keeps r ho hd hs) h
 pyHash:=λ{A E s k v Q} hu x h=>by
  obtain⟨a,o,items,n,rfl,ho,hc,hd,hi⟩:=x;exact RB (by lia) ho hc hd (NP e (show A.units+1+e.deep<WG by lia) hi) h
 eqBool:=λ{A E s x y u v Q} hu hx hy h=>by
  have hj:u=v->x=y:=λev=>by
   subst ev;obtain⟨l,h1,h2⟩:=hx.inj hy;exact Cz e h1 h2
  obtain⟨a,o,items,n,rfl,ho,hc,hd,hi⟩:=hx;obtain⟨a',o',items',n',rfl,ho',hc',hd',hi'⟩:=hy;obtain⟨bs,b1,b2⟩:=Rv e (A:=A) (show A.units+1+e.deep<WG by lia) hi hi';have b3:(bs.all id&&items.size == items'.size)=decide (x=y):=by rw[<- b2];rfl
  refine Ob (by lia) ho hc hd ho' hc' hd' (λea=>?_) b1 (by rw[b3];exact h);rw[b3];exact decide_eq_true (hj (by rw[ea]))
 quiet:=λ{A E s k v Q} n hn x h=>by
  obtain⟨a,o,items,m,rfl,ho,hc,hd,hi⟩:=x;obtain⟨j,rfl⟩:∃j,n=j+1:=⟨n-1,by lia⟩
  exact X_ ho hc hd (λu hu E Q q=>by
   obtain⟨x,hx⟩:=Sb hi u hu;exact e.quiet j (by lia) hx q) h
end
section
variable{prog:wH}{w:wM}{J K:Type}[DecidableEq J][DecidableEq K](d:HV prog w J)(e:HV prog w K)
def Two(h:wJ)(k:J × K)(l:List wf):Prop:=∃u v,l=[u,v]/\d.is h k.1 u/\e.is h k.2 v
def RW:HV prog w (J × K) where
 is:=λh k v=>l_ (Two d e h k) h v
 hash:=λk=>reduceHash (vZ ([(d.hash k.1,d.draws k.1),(e.hash k.2,e.draws k.2)].map (·.1)))
 draws:=λk=>([(d.hash k.1,d.draws k.1),(e.hash k.2,e.draws k.2)].map (·.2)).sum+1
 deep:=max d.deep e.deep+1
 inj:=λ{h v x y} hx hy=>by
  obtain⟨l,⟨u,v,rfl,h1,h2⟩,u',v',e',h3,h4⟩:=hx.inj hy;cases e';exact VX (d.inj h1 h3) (e.inj h2 h4)
 keeps:=λx ho hd hs=>x.keeps ho hd hs λl ⟨u,v,r,h1,h2⟩=>⟨u,v,r,d.keeps h1 ho hd hs,e.keeps h2 ho hd hs⟩
 pyHash:=λ{A E s k v Q} hu x h=>by
  obtain⟨a,o,items,n,rfl,ho,hc,hd,u,v,hl,h1,h2⟩:=x
  exact RB (by lia) ho hc hd (by
   rw[hl];exact .cons (λE Q s' he q=>d.pyHash (show A.units+1+d.deep<WG by lia) (he ▸ h1) q) (.cons (λE Q s' he q=>e.pyHash (show A.units+1+e.deep<WG by lia) (he ▸ h2) q) .nil)) h
 eqBool:=λ{A E s x y u v Q} hu hx hy h=>by
  have hj:u=v->x=y:=λev=>by
   subst ev;obtain⟨l,⟨u,v,rfl,h1,h2⟩,u',v',e',h3,h4⟩:=hx.inj hy;cases e';exact VX (d.inj h1 h3) (e.inj h2 h4)
  obtain⟨a,o,items,n,rfl,ho,hc,hd,u,v,hl,h1,h2⟩:=hx;obtain⟨a',o',items',n',rfl,ho',hc',hd',u',v',hl',h1',h2'⟩:=hy
  have b3:([decide (x.1=y.1),decide (x.2=y.2)].all id&&items.size == items'.size)=decide (x=y):=by
   rw[<- W7,<- W7,hl,hl'];obtain⟨x1,x2⟩:=x;obtain⟨y1,y2⟩:=y
   by_cases h1:x1=y1<;>by_cases h2:x2=y2<;>simp[h1,h2]
  refine Ob (bs:=[decide (x.1=y.1),decide (x.2=y.2)]) (by lia) ho hc hd ho' hc' hd' (λea=>?_) ?_ (by rw[b3];exact h)
  ·rw[b3]
   exact decide_eq_true (hj (by rw[ea]))
  ·rw[hl,hl']
   exact .cons (λE Q q=>d.eqBool (show A.units+1+d.deep<WG by lia) h1 h1' q) (.cons (λE Q q=>e.eqBool (show A.units+1+e.deep<WG by lia) h2 h2' q) .nil)
 quiet:=λ{A E s k v Q} n hn x h=>by
  obtain⟨a,o,items,m,rfl,ho,hc,hd,u,v,hl,h1,h2⟩:=x;obtain⟨j,rfl⟩:∃j,n=j+1:=⟨n-1,by lia⟩
  exact X_ ho hc hd (λu hu E Q q=>by
   rw[hl]at hu;rcases wL.mp hu with rfl | hu
   ·exact d.quiet j (by lia) h1 q
   ·rw[w6]at hu
    subst hu;exact e.quiet j (by lia) h2 q) h
end
abbrev SK:=List Int × List (List Int)
def kE(prog:wH)(w:wM):HV prog w SK:=RW (f_ (fY prog w)) (f_ (f_ (fY prog w)))
def zDT(prog:wH)(w:wM):HeapKind prog w SK where
 is:=λh k a=>(kE prog w).is h k (.ref a)
 hash:=(kE prog w).hash
 draws:=(kE prog w).draws
 room:=λA=>A.units+3<WG
 inj:=λx y=>(kE prog w).inj x y
 keeps:=λx ho hd hs=>(kE prog w).keeps x ho hd hs
 pyHash:=λhu hk h=>(kE prog w).pyHash hu hk h
 eqBool:=λhu hx hy h=>(kE prog w).eqBool hu hx hy h
 quiet:=λhk h=>(kE prog w).quiet 8 (by show 3<=8;decide) hk h
end TB
namespace L2
open PySem PySem.Spec PyProof.Rows GM
open TB (SK zDT kE f_ fY RW d_)
theorem S_{P:wH}{w:wM}{h:wJ} : ∀{us:List wf}{ns:List Int},IntsAre us ns->d_ ((fY P w).is h) ns us
 | _,_,.nil=>.nil
 | _,_,.cons n t r=>.cons ⟨t,rfl⟩ (S_ r)
section
variable{X:Cx}{pins:List (we × Obj)}{σ : St}{H:Hp}{s:wm}
theorem Inv.Y2(I:Inv X pins σ H s){v:V}{u:wf}{k:List Int}(h:Is X.K H v (TZ k))(r:aZ v u):(f_ (fY X.prog X.w)).is s.heap k u:=by
 obtain⟨q,rfl,hs⟩:=rQ.mp h;obtain⟨its,r',⟨o,e,hc,n,hd⟩,_⟩:=I.tuple hs;cases (show u=Value.ref q from r);exact⟨q,o,its.toArray,n,rfl,e,hc,hd,S_ (zj r')⟩
end
def zEC(l:List (Int × Nat)):Int:=reduceHash (vZ (l.map (·.1)))
def zEa(ks:List Int):Int:=zEC (ks.map λk=>(hashInt k,1))
section
variable{X:Cx}{pins:List (we × Obj)}{σ : St}{H:Hp}{s:wm}{a b:we}{xs:List (SK × we × Int)}{ps:List Int}{cm:List (List Int)}{A:w9}{E:wf->wm->Prop}
end
section
variable{X:Cx}{pos pos':Pos}{i o value:Expr}{ty td tv:TE}
end
section
variable{K:wa}{H H':Hp}{Q:VK}{D:cR}{σ : St}{td ty tv:TE}{a b:we}{xs:List (SK × we × Int)}{ps:List Int}{cm:List (List Int)}{n:Int}
end
section
variable{X:Cx}{N':List Str}{scope:Scope}{cl:List (Str × we)}{src:List (Option Nat)}{elt tgt iter:Expr}{ifs:List Expr}{pos:Pos}{wi:TI}{g:TG}{tt:TT}{te:TE}
end
end L2
namespace TB
open PySem PySem.Spec PyProof.Rows
def dN(prog:wH)(w:wM):HeapKind prog w (List Int) where
 is:=λh k a=>(f_ (fY prog w)).is h k (.ref a)
 hash:=(f_ (fY prog w)).hash
 draws:=(f_ (fY prog w)).draws
 room:=λA=>A.units+1<WG
 inj:=λx y=>(f_ (fY prog w)).inj x y
 keeps:=λx ho hd hs=>(f_ (fY prog w)).keeps x ho hd hs
 pyHash:=λhu hk h=>(f_ (fY prog w)).pyHash hu hk h
 eqBool:=λhu hx hy h=>(f_ (fY prog w)).eqBool hu hx hy h
 quiet:=λhk h=>(f_ (fY prog w)).quiet 8 (by show 1<=8;decide) hk h
section
variable{prog:wH}{w:wM}{K:Type}[DecidableEq K]{knd:HeapKind prog w K}{A:w9}{E:wf->wm->Prop}{s:wm}
end
end TB
namespace L2
open PySem PySem.Spec PyProof.Rows GM
open TB (dN f_ fY)
abbrev NE:=List Int × we × we
def pK(x:NE)(e:DictEntry):Prop:=e=⟨zEa x.1,.ref x.2.1,.ref x.2.2⟩
def iG(a:we)(ep:Nat)(xs:List NE):HO:=.ext λh=>xs.length<=1000/\(a == sysModules)=false/\(xs.map (·.1)).Nodup /\ ∃o es,h.get? a=some o/\o.ExactDict/\o.data=.dict es ep/\Paired pK xs es.toList
def Ab(K:wa)(H:Hp)(xs:List NE):Prop:=∀x∈xs,Is K H (.ref x.2.1) (TZ x.1)
def mm(xs:List NE)(k:List Int):Option we:=(xs.find? λx=>decide (x.1=k)).map (·.2.2)
theorem zAX{P:wH}{w:wM}{H:Hp}{h:wJ}{a:we}{ep:Nat}{xs:List NE}(z:xs.length<=1000)(hd:(a == sysModules)=false)(nd:(xs.map (·.1)).Nodup){o:Obj}{es:Array DictEntry}(ho:h.get? a=some o)(hx:o.ExactDict)(hda:o.data=.dict es ep)(r:Paired pK xs es.toList) :
  dR P w H h a (iG a ep xs):=⟨⟨z,hd,nd,o,es,ho,hx,hda,r⟩,⟨o,ho⟩,λh1 h2 ⟨z,hd,nd,o,es,ho,q⟩ k=>⟨z,hd,nd,o,es,k _ ho,q⟩⟩
def iV(xs:List NE):List (List Int × we × wf):=xs.map λx=>(x.1,x.2.1,.ref x.2.2)
theorem zDX{P:wH}{w:wM}{xs:List NE}{es:List DictEntry}(r:Paired pK xs es):es=(iV xs).map (entryOfKey (dN P w)):=by
 induction r with
 | nil=>rfl
 | @cons x e xs es hx r ih =>
  show e::es=_::(iV xs).map (entryOfKey (dN P w))
  rw[<- ih,show e=_ from hx]
  rfl
theorem LX{P:wH}{w:wM} : ∀xs:List NE,Paired pK xs ((iV xs).map (entryOfKey (dN P w)))
 | []=>.nil
 | x::xs=>.cons rfl (LX xs)
theorem Ze(xs:List NE)(k:List Int):(atKey (iV xs) k).map (·.2)=(mm xs k).map Value.ref:=by
 induction xs with
 | nil=>rfl
 | cons x xs ih =>
  unfold atKey mm iV at *;rw[vd,ub,ub]
  by_cases e:x.1=k
  ·simp[e]
  ·simp only[e,decide_false]
   exact ih
section
variable{X:Cx}{pins:List (we × Obj)}{σ : St}{H:Hp}{s:wm}{a b q:we}{ep:Nat}{xs:List NE}{k:List Int}{A:w9}{E:wf->wm->Prop}
theorem Inv.nK(I:Inv X pins σ H s)(h:Is X.K H (.ref b) (TZ k)):(dN X.prog X.w).is s.heap k b:=I.Y2 h rfl
theorem Inv.KR(I:Inv X pins σ H s)(e:H a=some (iG a ep xs)):xs.length<=1000/\(a == sysModules)=false/\(xs.map (·.1)).Nodup /\ ∃o es,s.heap.get? a=some o/\o.ExactDict/\o.data=.dict es ep/\Paired pK xs es.toList :=
 (show dR X.prog X.w H s.heap a (iG a ep xs)from I.aM a _ e).1
end
section
variable{X:Cx}{o e f:Expr}{apos cpos pos:Pos}{td ty tx:TE}{tg:Expr}
end
section
variable{K:wa}{H H':Hp}{Q:VK}{D:cR}{σ : St}{td ty tx te:TE}{g:TG}{tt:TT}{a b q:we}{ep:Nat}{xs:List NE}{k:List Int}{src:List (Option Nat)}
end
section
variable{X:Cx}{N':List Str}{scope:Scope}{cl:List (Str × we)}{src:List (Option Nat)}{elt tgt iter:Expr}{ifs:List Expr}{pos:Pos}{wi:TI}{g:TG}{tt:TT}{te:TE}
end
end L2
namespace TB
open PySem PySem.W PyProof.Rows
theorem OE:entryFor table "dict.update.loop"=some Builtin.«dict.update.loop»:=entryFor_of_tree (by kernel_rfl)
theorem ya:plainId "dict.update.loop"=true:=by decide +kernel
theorem zux:typeLookup (.type "zip") "keys"=pure none:=am_miss_of_fast (by decide +kernel)
theorem zmn:typeLookup (.type "zip") "__getattr__"=pure none:=by rw[typeLookup_type,builtinLookup_eq_fast];kernel_rfl
theorem zho:entryFor table "zip.__getattribute__"=some Builtin.«object.__getattribute__» :=
 entryFor_alias (id':="object.__getattribute__") (by kernel_rfl) (by decide +kernel) (by decide +kernel) (by kernel_rfl)
theorem zt2(a:we)(fs:Array wf)(sl:Array (Option wf))(name:Str)(u:Tok)(hmiss:typeLookup (.type "zip") name=pure none)(hname:(["__module__","__name__","__qualname__","__doc__","__annotations__"]:List Str).contains name=false)(hsz:name.length+100<=wY:=by size_fits) :
  Meets (Builtin.«object.__getattribute__» ⟨[.ref a,.str name u],[]⟩) (λA R s=>s.heap.get? a=some {cls:=.type "zip",dict:=none,data:=.fields fs,slots:=sl}/\raisesAttr (.ref a) name A R s) :=
 Meets.of_wp λprog w A R s hs=>by
  obtain⟨hp,g,d,tk,os⟩:=s;obtain⟨hx,hs⟩:=hs;have hT:(⟨hp,g,d,tk,os⟩:wm).TypeIs (.ref a) "zip":=⟨_,hx,rfl⟩;unfold Builtin.«object.__getattribute__»
  repeat(any_goals(first | assumption | wp_step))
  simp only[hname,Wu,if_false]
  repeat(any_goals(first | assumption | wp_step))
  exact wpAny_raiseAttrError hs.1 hs.2 (attrMsg_fits (by decide +kernel) hsz)
section
variable{prog:wH}{w:wM}{A:w9}{E:wf->wm->Prop}{s:wm}
theorem zAU{a:we}{fs:Array wf}{sl:Array (Option wf)}{Q:Option wf->wm->Prop}
  (hx:s.heap.get? a=some {cls:=.type "zip",dict:=none,data:=.fields fs,slots:=sl}) (hA:A.handled=none)
  (q:∀h' tk,(∀b ob,s.heap.get? b=some ob->h'.get? b=some ob)->Q none {s with heap:=h',toks:=tk}) :
  wt (model prog w) A (getAttr? (.ref a) "keys") Q E s:=by
 obtain⟨hp,g,d,tk,os⟩:=s;have hT:∀tk',(⟨hp,g,d,tk',os⟩:wm).TypeIs (.ref a) "zip":=λ_=>⟨_,hx,rfl⟩
 have f1:=sub_AttributeError;have f3:=V1.lookup;have f4:=V1.bind (.ref a);have f5:=zmn;unfold getAttr? getAttrBy? getAttrBy
 repeat(any_goals(first | assumption | exact hT _ | ((with_reducible show wt _ _ (call (Value.builtin "zip.__getattribute__") _ _) _ _ _);refine call_meets V1 (hT _) zho (PySem.F.args_zip_getattribute_2 _ _) (zt2 a fs sl "keys" _ zux (by decide +kernel)) ⟨hx,hA,λh' tk' e hx'=>?_⟩) | wp_step))
 obtain⟨t',u',he⟩:=hx'.there
 show wt _ _ (getattributeRaised _ _ _ _ _ _ _) _ _ _
 unfold getattributeRaised
 repeat(any_goals(first | assumption | wp_step))
 exact q _ _ hx'.keeps
theorem zy8{p:we}{x y:wf}(h:WD s.heap p x y){Q:List wf->wm->Prop}(q:Q [x,y] s):wt (model prog w) A (xn (.ref p)) Q E s:=by
 have hT:s.TypeIs (.ref p) "tuple":=⟨_,h,rfl⟩;unfold xn;refine wg (wpAny_typeOf hT ?_);rw[if_pos (by decide)];refine wg (WC h rfl ?_);exact wy q
abbrev mw(h:wJ)(z TI TO p:we)(f:Bool):Prop :=
 h.get? z=some {cls:=.type "zip",dict:=none,data:=.fields #[Va p,.bool f,.bool false,.ref TI,.ref TO],slots:=#[]}
end
section
variable{prog:wH}{w:wM}{A:w9}{E:wf->wm->Prop}{s:wm}{z TI TO i1 i2 p:we}{f:Bool}{f1 f2:List we}{n1 n2 k:Nat}{P1 P2:Nat->wf->Prop}{S1 S2:Nat->wJ->Prop}{a b:wf}
variable{op:Obj}
theorem MU{Q:Bool->wm->Prop}(hz:mw s.heap z TI TO p f)(hp:s.heap.get? p=some op)
  (q:∀g,mw g z TI TO p true->vG z s.heap g->Q false {s with heap:=g}):wt (model prog w) A (vF (.ref z)) Q E s:=by
 unfold vF;refine wg (vv hz rfl (x:=Va p) rfl ?_)
 show wt _ _ (loadIfAlive ((p:Int).toNat) >>= _) _ _ _
 rw[wx];refine wg (kdx_alive hp ?_);simp only[Option.isNone_some,Wu,if_false];refine wg (vv hz rfl (x:=.bool f) rfl ?_);cases f with
 | true =>
  rw[if_neg (show ¬ ((Value.bool true != Value.bool true)=true)from vC)];exact wy (q _ hz (Heap.SameBut.refl _ _))
 | false =>
  rw[if_pos (show(Value.bool false != Value.bool true)=true from rfl)];refine wg (W0 hz (by simp) λg hg sb=>?_);exact wy (q g hg sb)
theorem Zs{Q:wf->wm->Prop}(D1:Draws prog w A i1 f1 n1 P1 S1)(D2:Draws prog w A i2 f2 n2 P2 S2)(ap:L2.ZA z TI TO i1 i2 f1 f2)(hz:mw s.heap z TI TO p f)(hi:WD s.heap TI (.ref i1) (.ref i2))(hp:s.heap.get? p=some op)
  (h1:S1 k s.heap) (h2:S2 k s.heap) (l1:k<n1) (l2:k<n2)
  (fin:∀x y h' tk,P1 k x->P2 k y->mw h' z TI TO p true->S1 (k+1) h'->S2 (k+1) h'->WD h' s.heap.objs.size x y ->
   (∀c o,c≠z->c≠i1->c≠i2->s.heap.get? c=some o->h'.get? c=some o)->Q (.ref s.heap.objs.size) {s with heap:=h',toks:=tk}) :
  wt (model prog w) A (Builtin.«zip.__next__» ⟨[.ref z],[]⟩) (λr s'=>∃v,r=.done (.ret v)/\Q v s') E s:=by
 show wt _ _ (field (.ref z) 2 >>= _) _ _ _;refine wg (vv hz rfl (x:=.bool false) rfl ?_)
 show wt _ _ (field (.ref z) 3 >>= _) _ _ _;refine wg (vv hz rfl (x:=.ref TI) rfl ?_)
 refine wg (WC hi rfl ?_);show wt _ _ (vF (.ref z) >>= _) _ _ _
 refine wg (MU hz hp λg0 hz0 sb0=>?_);have sb0:vG z s.heap g0:=sb0;simp only[Wu,if_false];refine wg ?_;rw[<- qB];simp only[qp,Qo];have h1a:S1 k g0:=D1.frame _ _ _ h1 λc hc o e=>sb0.extBut c o (λq=>ap.b1 (q ▸ hc)) e
 have h2a:S2 k g0:=D2.frame _ _ _ h2 λc hc o e=>sb0.extBut c o (λq=>ap.b2 (q ▸ hc)) e
 refine wg (wg (WU ?_))
 show wt _ _ (vJ (.ref i1) >>= _) _ _ _
 refine wg (D1.item k _ _ _ l1 h1a λx g1 t1 px h1b sb1=>wy ?_);have sb1:vG i1 g0 g1:=sb1;have h2b:S2 k g1:=D2.frame _ _ _ h2a λc hc o e=>sb1.extBut c o (λq=>ap.b5 (q ▸ hc)) e
 refine wy ?_;refine wg (wg (WU ?_))
 show wt _ _ (vJ (.ref i2) >>= _) _ _ _
 refine wg (D2.item k _ _ _ l2 h2b λy g2 t2 py h2c sb2=>wy ?_);have sb2:vG i2 g1 g2:=sb2;have h1c:S1 (k+1) g2:=D1.frame _ _ _ h1b λc hc o e=>sb2.extBut c o (λq=>ap.b6 (q ▸ hc)) e
 refine wy (wy ?_);refine wg (wpAny_newTuple (hsz:=by show 2<=wY;rw[sizeLine_eq];decide) ?_);have hsz:g2.objs.size=s.heap.objs.size:=by rw[sb2.1,sb1.1,sb0.1]
 have kept:∀c o,c≠z->c≠i1->c≠i2->s.heap.get? c=some o->g2.get? c=some o:=λc o c1 c3 c4 e=>sb2.extBut _ _ c4 (sb1.extBut _ _ c3 (sb0.extBut _ _ c1 e))
 have zz:mw g2 z TI TO p true:=sb2.extBut _ _ ap.a4.symm (sb1.extBut _ _ ap.a3.symm hz0);refine wy ⟨_,rfl,?_⟩
 show Q (.ref g2.objs.size) _
 have new:WD (g2.push {cls:=.type "tuple",data:=.seq #[x,y]}) g2.objs.size x y:=wO _ rfl;rw[hsz]at new ⊢;exact fin x y _ _ px py (wn _ zz) (D1.frame _ _ _ h1c λc hc o e=>wn _ e) (D2.frame _ _ _ h2c λc hc o e=>wn _ e) new λc o c1 c3 c4 e=>wn _ (kept c o c1 c3 c4 e)
theorem zEp{Q:Fin->wm->Prop}(D1:Draws prog w A i1 f1 n1 P1 S1)(ap:L2.ZA z TI TO i1 i2 f1 f2)(hz:mw s.heap z TI TO p f)(hi:WD s.heap TI (.ref i1) (.ref i2))(hp:s.heap.get? p=some op)(h1:S1 n1 s.heap)
  (fin:∀h' e tk,(∀c o,c≠z->c≠i1->s.heap.get? c=some o->h'.get? c=some o)->(∃o,h'.get? e=some o/\o.cls=.type "StopIteration")->E (.ref e) {s with heap:=h',toks:=tk}) :
  wt (model prog w) A (Builtin.«zip.__next__» ⟨[.ref z],[]⟩) Q E s:=by
 show wt _ _ (field (.ref z) 2 >>= _) _ _ _;refine wg (vv hz rfl (x:=.bool false) rfl ?_)
 show wt _ _ (field (.ref z) 3 >>= _) _ _ _;refine wg (vv hz rfl (x:=.ref TI) rfl ?_)
 refine wg (WC hi rfl ?_);show wt _ _ (vF (.ref z) >>= _) _ _ _
 refine wg (MU hz hp λg0 hz0 sb0=>?_);have sb0:vG z s.heap g0:=sb0;simp only[Wu,if_false];refine wg ?_;rw[<- qB];simp only[qp,Qo];have h1a:S1 n1 g0:=D1.frame _ _ _ h1 λc hc o e=>sb0.extBut c o (λq=>ap.b1 (q ▸ hc)) e
 refine wg (wg (WU ?_))
 show wt _ _ (vJ (.ref i1) >>= _) _ _ _
 exact wg (D1.done _ _ _ h1a λg1 e sb1 he=>fin g1 e _ (λc o c1 c3 q=>sb1 _ _ c3 (sb0.extBut _ _ c1 q)) he)
end
theorem pg{prog:wH}{w:wM}{h h':wJ}{k:List Int}{a:we}(x:(dN prog w).is h k a)(e:∀o,h.get? a=some o->h'.get? a=some o):(dN prog w).is h' k a:=by
 obtain⟨a',o,items,n,ea,ho,hc,hd,r⟩:=x;cases ea;exact⟨a,o,items,n,rfl,e o ho,hc,hd,r⟩
def ko(base:we)(h h':wJ):Prop:=∀b o,b<base->h.get? b=some o->h'.get? b=some o
theorem ko.trans{base:we}{h h' h'':wJ}(x:ko base h h')(y:ko base h' h''):ko base h h'':=λb o hb e=>y b o hb (x b o hb e)
structure ZB(base z TI TO i1 i2 d a b:we):Prop where
 ap:L2.ZA z TI TO i1 i2 [i1,a] [i2,b]
 na:a≠i1
 nb:b≠i2
 bz:base<=z
 bO:base<=TO
 b1:base<=i1
 b2:base<=i2
 bd:base<=d
 dz:d≠z
 dI:d≠TI
 dO:d≠TO
 d1:d≠i1
 d2:d≠i2
 la:a<base
 lb:b<base
def mJ(z TI TO i1 i2 d a b:we)(its jts:Array wf)(i:Nat)(h:wJ):Prop:=WD h TI (.ref i1) (.ref i2)/\(h.IsTupleIter i1 a i/\h.IsTuple a its)/\(h.IsTupleIter i2 b i/\h.IsTuple b jts) /\
 ((∃x y,IsZip h z TI TO .none/\WD h TO x y) \/ ∃p f op,mw h z TI TO p f/\h.get? p=some op/\p≠z/\p≠i1/\p≠i2/\p≠d)
section
variable{prog:wH}{w:wM}{A:w9}{E:wf->wm->Prop}{s:wm}{base z TI TO i1 i2 d a b:we}{its jts:Array wf}{i:Nat}
theorem jZ(hh:A.handled=none)(it l:we)(hne:l≠it)(items:Array wf):Draws prog w A it [it,l] items.size (λi v=>items[i]? = some v) (λi h=>h.IsTupleIter it l i/\h.IsTuple l items):=L2.pf true hh it l hne items
theorem zEG(B:ZB base z TI TO i1 i2 d a b)(hh:A.in1.handled=none)(st:mJ z TI TO i1 i2 d a b its jts i s.heap)(hd:d<s.heap.objs.size){x y:wf}(hx:its[i]? = some x)(hy:jts[i]? = some y){Q:Option wf->wm->Prop}
  (q:∀(h':wJ) tk,WD h' s.heap.objs.size x y->mJ z TI TO i1 i2 d a b its jts (i+1) h'->(∀c o,c≠z->c≠TO->c≠i1->c≠i2->s.heap.get? c=some o->h'.get? c=some o)->Q (some (.ref s.heap.objs.size)) {s with heap:=h',toks:=tk}) :
  wt (model prog w) A (pyNext (.ref z)) Q E s:=by
 obtain⟨hi,s1,s2,hz⟩:=st
 have lt1:i<its.size:=by
  rcases wG i its.size with z | z
  ·exact z
  ·rw[xo z]at hx;cases hx
 have lt2:i<jts.size:=by
  rcases wG i jts.size with z | z
  ·exact z
  ·rw[xo z]at hy;cases hy
 have ap:=B.ap;unfold pyNext;rcases hz with⟨x0,y0,hz,ho⟩ | ⟨p,f,op,hz,hp,p1,p2,p3,p4⟩
 ·have hT:s.TypeIs (.ref z) "zip":=⟨_,hz,rfl⟩
  have ltz:=wC hz
  refine wg (Vu (wpAny_callSpecial?_slot (name:=vW "__next__") hT Wv (Wj Wv hT VL
   (L2.KN (jZ (A:=A.in1) hh i1 a B.na its) (jZ (A:=A.in1) hh i2 b B.nb jts) ap hz hi ho s1 s2 lt1 lt2 λv1 v2 h1 tk e1 e2 hz1 ho1 st1 st2 hT1 hk=>wy ?_) (Vy _))))
  rw[hx]at e1;cases e1;rw[hy]at e2;cases e2;have l1:i1<s.heap.objs.size:=by obtain⟨o,e,_⟩:=s1.1;exact wC e
  have l2:i2<s.heap.objs.size:=by obtain⟨o,e,_⟩:=s2.1;exact wC e
  exact q h1 tk hT1 ⟨hk _ _ ap.a1 ap.a5 ap.a6 ap.a7 hi,st1,st2,.inr ⟨s.heap.objs.size,false,_,hz1,hT1,vg ltz,vg l1,vg l2,vg hd⟩⟩ hk
 ·have hT:s.TypeIs (.ref z) "zip":=⟨_,hz,rfl⟩
  refine wg (Vu (wpAny_callSpecial?_slot (name:=vW "__next__") hT Wv (Wj Wv hT VL
   (Zs (jZ (A:=A.in1) hh i1 a B.na its) (jZ (A:=A.in1) hh i2 b B.nb jts) ap hz hi hp s1 s2 lt1 lt2 λv1 v2 h1 tk e1 e2 hz1 st1 st2 hT1 hk=>wy ?_) (Vy _))))
  rw[hx]at e1;cases e1;rw[hy]at e2;cases e2;exact q h1 tk hT1 ⟨hk _ _ ap.a1 ap.a6 ap.a7 hi,st1,st2,.inr ⟨p,true,op,hz1,hk _ _ p1 p2 p3 hp,p1,p2,p3,p4⟩⟩ λc o c1 _ c3 c4 e=>hk c o c1 c3 c4 e
theorem zE2(B:ZB base z TI TO i1 i2 d a b)(hh:A.in1.handled=none)(st:mJ z TI TO i1 i2 d a b its jts its.size s.heap){Q:Option wf->wm->Prop}
  (q:∀(h':wJ) tk,(∀c o,c≠z->c≠TO->c≠i1->c≠i2->s.heap.get? c=some o->h'.get? c=some o)->Q none {s with heap:=h',toks:=tk}) :
  wt (model prog w) A (pyNext (.ref z)) Q E s:=by
 obtain⟨hi,s1,s2,hz⟩:=st;have ap:=B.ap;unfold pyNext;rcases hz with⟨x0,y0,hz,ho⟩ | ⟨p,f,op,hz,hp,p1,p2,p3,p4⟩
 ·have hT:s.TypeIs (.ref z) "zip":=⟨_,hz,rfl⟩
  refine wg (Vu (wpAny_callSpecial?_slot (name:=vW "__next__") hT Wv (Wj Wv hT VL
   (L2.KH (k:=its.size) (jZ (A:=A.in1) hh i1 a B.na its) (jZ (A:=A.in1) hh i2 b B.nb jts) ap hz hi ho s1 s2 (.inl rfl) λh' y tk hk hx'=>?_) (Vy _))))
  obtain⟨o,ho',hcl⟩:=hx';exact wg (Vf (T:="StopIteration") (b:=true) ⟨o,ho',hcl⟩ isSubtype_stop (wy (q h' tk hk)))
 ·have hT:s.TypeIs (.ref z) "zip":=⟨_,hz,rfl⟩
  refine wg (Vu (wpAny_callSpecial?_slot (name:=vW "__next__") hT Wv (Wj Wv hT VL
   (zEp (jZ (A:=A.in1) hh i1 a B.na its) ap hz hi hp s1 λh' y tk hk hx'=>?_) (Vy _))))
  obtain⟨o,ho',hcl⟩:=hx';exact wg (Vf (T:="StopIteration") (b:=true) ⟨o,ho',hcl⟩ isSubtype_stop (wy (q h' tk λc o c1 _ c3 _ e=>hk c o c1 c3 e)))
end
theorem mJ.but{base z TI TO i1 i2 d a b:we}{its jts:Array wf}{i:Nat}{h g:wJ}(st:mJ z TI TO i1 i2 d a b its jts i h)(B:ZB base z TI TO i1 i2 d a b)(sb:vG d h g):mJ z TI TO i1 i2 d a b its jts i g:=by
 obtain⟨hi,s1,s2,hz⟩:=st;have da:a≠d:=wQ (wT B.la B.bd);have db:b≠d:=wQ (wT B.lb B.bd);refine⟨sb.extBut _ _ B.dI.symm hi,⟨s1.1.at λo e=>sb.extBut _ _ B.d1.symm e,s1.2.at λo e=>sb.extBut _ _ da e⟩,⟨s2.1.at λo e=>sb.extBut _ _ B.d2.symm e,s2.2.at λo e=>sb.extBut _ _ db e⟩,?_⟩;rcases hz with⟨x0,y0,hz,ho⟩ | ⟨p,f,op,hz,hp,p1,p2,p3,p4⟩
 ·exact .inl ⟨x0,y0,sb.extBut _ _ B.dz.symm hz,sb.extBut _ _ B.dO.symm ho⟩
 ·exact .inr ⟨p,f,op,sb.extBut _ _ B.dz.symm hz,sb.extBut _ _ p4 hp,p1,p2,p3,p4⟩
section
variable{prog:wH}{w:wM}{A:w9}{R:Result->wm->Prop}{base z TI TO i1 i2 d a b:we}{its jts:Array wf}{key:Nat->List Int}{ka:Nat->we}{val:Nat->wf}
theorem zEn(B:ZB base z TI TO i1 i2 d a b)(hh:A.in1.in1.handled=none)(hu:A.in1.units+1<WG)(hl:jts.size=its.size)(hn:its.size<=999)(hx:∀i,i<its.size->its[i]? = some (.ref (ka i)))(hy:∀i,i<its.size->jts[i]? = some (val i))
  (lk:∀i,i<its.size->ka i<base) (hk:∀i j,i<its.size->j<its.size->key i=key j->i=j) :
  ∀(c i:Nat)(s:wm),its.size-i=c->i<=its.size->mJ z TI TO i1 i2 d a b its jts i s.heap->(∀j,j<its.size->(dN prog w).is s.heap (key j) (ka j))->s.heap.DictOfH (dN prog w) d ((wo i).map λj=>(key j,ka j,val j)) ->
   (∀(g:wJ)(tk:Nat),ko base s.heap g->g.DictOfH (dN prog w) d ((wo its.size).map λj=>(key j,ka j,val j))->R (.ok (.ret .none)) {s with heap:=g,toks:=tk}) ->
   codeAny (model prog w) A (.builtin "dict.update.loop" ⟨[.ref d,.ref z,Va i,.none],[]⟩) R s:=by
 have lift:∀{h h':wJ}{xs:List (List Int × we × wf)},h.DictOfH (dN prog w) d xs->(∀x∈xs,x.2.1<base)->ko base h h'->(∀o,h.get? d=some o->h'.get? d=some o)->h'.DictOfH (dN prog w) d xs:=λx hb bl hd=>by
  obtain⟨o,es,ep,ho,hc,hda,he,his,hn⟩:=x;exact⟨o,es,ep,hd o ho,hc,hda,he,λx hx=>pg (his x hx) λo e=>bl _ o (hb x hx) e,hn⟩
 have lo:∀{h h':wJ},(∀c o,c≠z->c≠TO->c≠i1->c≠i2->h.get? c=some o->h'.get? c=some o)->ko base h h':=λhk c o hc e=>hk c o (wQ (wT hc B.bz)) (wQ (wT hc B.bO)) (wQ (wT hc B.b1)) (wQ (wT hc B.b2)) e
 intro c
 induction c with
 | zero =>
  intro i s ec ei st ht hs r;obtain rfl:i=its.size:=by omega
  refine codeAny_builtin OE ?_;rw[qg ya _];refine wg (m:=pyNext (.ref z)) (zE2 B hh st λh' tk hk'=>?_);refine wg (wy ?_);refine wy (r h' tk (lo hk') (lift hs (λx hx=>?_) (lo hk') λo e=>hk' d o B.dz B.dO B.d1 B.d2 e));obtain⟨j,hj,rfl⟩:=wR.mp hx;exact lk j (wF.mp hj)
 | succ c ih =>
  intro i s ec ei st ht hs r;have lt:i<its.size:=by omega
  have hdl:d<s.heap.objs.size:=by obtain⟨o,_,_,ho,_⟩:=hs;exact wC ho
  refine codeAny_builtin OE ?_;rw[qg ya _];refine wg (m:=pyNext (.ref z)) (zEG B hh st hdl (hx i lt) (hy i lt) λh' tk hp st' hk'=>?_);have bl:=lo hk'
  have hs':h'.DictOfH (dN prog w) d ((wo i).map λj=>(key j,ka j,val j)):=lift hs (λx hx=>by
   obtain⟨j,hj,rfl⟩:=wR.mp hx;have:=wF.mp hj;exact lk j (by omega)) bl λo e=>hk' d o B.dz B.dO B.d1 B.d2 e
  have ht':∀j,j<its.size->(dN prog w).is h' (key j) (ka j):=λj hj=>pg (ht j hj) λo e=>bl _ o (lk j hj) e
  refine wg (WU (wg (wpAny_tryCatch (zy8 hp ?_))));refine WU (wpAny_dictSet_heap (knd:=dN prog w) (k:=key i) hu (ht' i lt) hs' (λh2 hd2 sb=>?_) (by rw[wl,vc,sizeLine_eq];omega))
  have e2:storedH ((wo i).map λj=>(key j,ka j,val j)) (key i) (ka i) (val i)=(wo (i+1)).map λj=>(key j,ka j,val j):=by
   rw[storedH_new,Qb,wX]
   ·rfl
   ·cases e:atKey ((wo i).map λj=>(key j,ka j,val j)) (key i)with
    | none=>rfl
    | some p =>
     unfold atKey at e;rw[Vg]at e;obtain⟨y,hy',_⟩:=e;have hm:=QM hy';have hp':=uc hy';obtain⟨j,hj,rfl⟩:=wR.mp hm;have hj:=wF.mp hj;have:=hk j i (by omega) lt (of_decide_eq_true hp');omega
  rw[e2]at hd2;have sb:vG d h' h2:=sb;refine wy ⟨plainId_quiet ya _,?_⟩;have bl2:ko base h' h2:=λc o hc e=>sb.extBut c o (wQ (wT hc B.bd)) e
  have:=ih (i+1) {s with heap:=h2,toks:=tk+(dN prog w).draws (key i)} (by omega) lt (st'.but B sb) (λj hj=>pg (ht' j hj) λo e=>bl2 _ o (lk j hj) e) hd2 λg tk' bl3 dd=>r g tk' (bl.trans (bl2.trans bl3)) dd
  exact this
end
section
variable{prog:wH}{w:wM}{A:w9}{E:wf->wm->Prop}{s:wm}{base z TI TO i1 i2 a b:we}{its jts:Array wf}{key:Nat->List Int}{ka:Nat->we}{val:Nat->wf}{x0 y0:wf}
theorem YC(B:ZB base z TI TO i1 i2 s.heap.objs.size a b)(hh:A.handled=none)(hu:A.units+3<WG)(hl:jts.size=its.size)(hn:its.size<=999)(hx:∀i,i<its.size->its[i]? = some (.ref (ka i)))(hy:∀i,i<its.size->jts[i]? = some (val i))
  (lk:∀i,i<its.size->ka i<base) (hk:∀i j,i<its.size->j<its.size->key i=key j->i=j) (hz:IsZip s.heap z TI TO .none) (hi:WD s.heap TI (.ref i1) (.ref i2)) (ho:WD s.heap TO x0 y0) (s1:s.heap.IsTupleIter i1 a 0) (t1:s.heap.IsTuple a its) (s2:s.heap.IsTupleIter i2 b 0) (t2:s.heap.IsTuple b jts)
  (hK:∀j,j<its.size->(dN prog w).is s.heap (key j) (ka j)) {Q:wf->wm->Prop}
  (q:∀(g:wJ)(tk:Nat),ko base s.heap g->g.DictOfH (dN prog w) s.heap.objs.size ((wo its.size).map λj=>(key j,ka j,val j))->Q (.ref s.heap.objs.size) {s with heap:=g,toks:=tk}) :
  wt (model prog w) A (call (.type "dict") [.ref z]) Q E s:=by
 refine callType_codes (Q₁:=λobj s₁=>obj=.ref s.heap.objs.size/\s₁ = {s with heap:=s.heap.push {cls:=.type "dict",data:=.dict #[]}}) PySem.F.kt_called_dict (PySem.F.kt_typeCall_dict_1 _) PySem.F.entry_dict_init (kt_code_dict_new _ ⟨rfl,rfl⟩) ?_;rintro obj s₁ ⟨rfl,rfl⟩;have hnew:(s.heap.push {cls:=.type "dict",data:=.dict #[]}).DictOfH (dN prog w) s.heap.objs.size []:=Heap.DictOfH.new s.heap;have hz':IsZip (s.heap.push {cls:=.type "dict",data:=.dict #[]}) z TI TO .none:=wn _ hz;refine⟨hnew.typeIs,PySem.F.args_dict_init_2 _ _,?_⟩;unfold Builtin.«dict.__init__»;refine wg ?_;unfold Builtin.Dict.selfAndRest;refine wg (wpAny_notOrdered_dict hnew.typeIs ?_)
 show wt _ _ (pure (s.heap.objs.size,[Value.ref z])) _ _ _
 refine wy ?_
 show wt _ _ (Q0 "dict.__init__" s.heap.objs.size (.ref z) [] .none) _ _ _
 unfold Q0;refine wg (wpAny_typeOf (T:="zip") ⟨_,hz',rfl⟩ ?_);rw[if_pos (by decide)];refine wg (zAU hz' (by exact hh) λh1 tk1 kp1=>?_);simp only[Option.isNone_none,if_true];refine wg (wpAny_rule ?_);have kp0:∀b o,s.heap.get? b=some o->h1.get? b=some o:=λb o e=>kp1 b o (wn _ e)
 have dn:h1.DictOfH (dN prog w) s.heap.objs.size []:=by
  obtain⟨o,es,ep,ho,hc,hda,he,his,hn⟩:=hnew;exact⟨o,es,ep,kp1 _ _ ho,hc,hda,he,(λx hx=>by cases hx),hn⟩
 refine wg (wpAny_pyIter_zip (kp0 _ _ hz) ?_);refine wy ⟨plainId_quiet ya _,?_⟩;refine zEn B (by exact hh) (show A.units+1+1+1<WG by omega) hl hn hx hy lk hk (its.size-0) 0 _ rfl (VZ _) ⟨kp0 _ _ hi,⟨s1.at λo e=>kp0 _ o e,t1.at λo e=>kp0 _ o e⟩,⟨s2.at λo e=>kp0 _ o e,t2.at λo e=>kp0 _ o e⟩,.inl ⟨x0,y0,kp0 _ _ hz,kp0 _ _ ho⟩⟩ (λj hj=>pg (hK j hj) λo e=>kp0 _ o e) dn λg tk bl dd=>?_
 exact⟨rfl,q g tk (λc o hc e=>bl c o hc (kp0 c o e)) dd⟩
end
end TB
namespace L2
open PySem PySem.Spec PyProof.Rows GM
open TB (dN f_ fY)
theorem zyd:vI "dict"=some (.type "dict"):=by decide +kernel
def gA(ks:List (List Int))(us ws:List we):List NE:=(wo us.length).map λj=>(ks.getD j [],us.getD j 0,ws.getD j 0)
def Sd(K:wa)(vs:List V)(H1:Hp)(Q:VK):Prop:=∃(a b:we)(ks:List (List Int))(us ws:List we),vs=[.ref a,.ref b]/\aT K H1 a (us.map V.ref)/\aT K H1 b (ws.map V.ref)/\us.length=ws.length/\us.length<=999/\ah K H1 (us.map V.ref) (ks.map TZ)/\ks.Nodup /\
 ∀D ep,H1 D=none->Q (.ref D) (upd H1 D (iG D ep (gA ks us ws)))
def LS(K:wa)(ta:TA):TE:=λσ H Q=>ta σ H λvs H1=>Sd K vs H1 Q
theorem zES{n d a b:Nat}(la:a<n)(lb:b<n)(hd:n+5<=d):TB.ZB n (n+4) (n+2) (n+3) n (n+1) d a b where
 ap:=UE la lb
 na:=wQ la
 nb:=wQ (qN lb)
 bz:=Ve _ 4
 bO:=Ve _ 3
 b1:=wp _
 b2:=Ve _ 1
 bd:=by show n<=d;omega
 dz:=vg (by omega)
 dI:=vg (by omega)
 dO:=vg (by omega)
 d1:=vg (by omega)
 d2:=vg (by omega)
 la:=la
 lb:=lb
theorem zxc{ks:List (List Int)}{us ws:List we}(h:ks.length=us.length):(gA ks us ws).map (·.1)=ks:=by
 unfold gA;rw[V7];refine List.ext_getElem? λj=>?_
 rw[wq];rcases wG j us.length with z | z
 ·rw[vE z,wc (by omega:j<ks.length)]
  show some (ks.getD j [])=_
  rw[wb,wc (by omega:j<ks.length)]
  rfl
 ·rw[wI (by simpa using z),wI (by omega)]
  rfl
section
variable{X:Cx}{o i:Expr}{pos:Pos}{td ty:TE}
theorem DU:∀{ws:List V}{us:List wf},aS ws us->∀{i:Nat}{q:we},ws[i]? = some (.ref q)->us[i]? = some (.ref q)
 | _,_,.nil,i,q,h=>by simp at h
 | _,_,.cons r1 r2,0,q,h=>by
  simp only[QY,qO]at h ⊢;subst h;exact r1
 | _,_,.cons r1 r2,i+1,q,h=>by
  simp only[QZ]at h ⊢;exact DU r2 h
theorem zyU{l m:Expr}{ta:TA}{p p2 pos2:Pos}(hc:X.calm=true)(hu:X.A.units+4<WG)(hg:Gl X "dict")(hm:X.mg "dict"=none)(hg2:Gl X "zip")(hm2:X.mg "zip"=none)(ha:PA X [l,m] ta)(hs:wS [l,m] X.env=[(false,eval l X.env),(false,eval m X.env)]:=by rfl)(hs2:wS [m] X.env=[(false,eval m X.env)]:=by rfl)
   (hs3:wS [Expr.Call (.Name "zip" p2) [l,m] [] pos2] X.env=[(false,eval (.Call (.Name "zip" p2) [l,m] [] pos2) X.env)]:=by rfl):PE X (.Call (.Name "dict" p) [.Call (.Name "zip" p2) [l,m] [] pos2] [] pos) (LS X.K ta):=by
 intro pins s σ H Q I h;refine Call_ (hJ I hg hm zyd ?_);refine vn ?_ hs3 rfl;rw[hs3]
 show wt _ _ (spliced ((false,eval _ X.env)::Vz pos [])) _ _ s
 refine Qu ?_;refine Call_ (hJ I hg2 hm2 Eo (vn (aP (ha pos2 pins s σ H _ I h) λus s1 ⟨vs,H1,I1,r1,q1⟩=>?_) (by rw[hs,hs2]) (by rw[hs2];rfl)));obtain⟨a,b,ks,us',ws,rfl,hq1,hq2,hl,hn,hk,nd,q⟩:=q1;obtain⟨u,v,rfl,ru,rv⟩:=mT r1;cases ru;cases rv;obtain⟨its,ri,p1⟩:=I1.jB (t:=true) hq1;obtain⟨jts,rj,p2⟩:=I1.jB (t:=true) hq2;have p1:s1.heap.IsTuple a its.toArray:=p1;have p2:s1.heap.IsTuple b jts.toArray:=p2;have la:a<s1.heap.objs.size:=by obtain⟨o,e,_⟩:=p1;exact wC e
 have lb:b<s1.heap.objs.size:=by obtain⟨o,e,_⟩:=p2;exact wC e
 have li:=ri.length;have lj:=rj.length;have lk:=hk.length;simp only[wl]at li lj lk;refine Ts p1 p2 λh' hz hi ho t1 t2 kp=>?_
 refine QF ?_;have hd:s1.heap.objs.size+5<=h'.objs.size:=wC hz
 have hx:∀j,j<its.toArray.size->its.toArray[j]? = some (Value.ref (us'.getD j 0)):=λj hj=>by
   have hj:j<us'.length:=by simpa [li] using hj
   have:=DU ri (show(us'.map V.ref)[j]? = some (V.ref (us'.getD j 0)) by rw[wq,wb,wc hj];rfl)
   simpa using this
 have hy:∀j,j<its.toArray.size->jts.toArray[j]? = some (Value.ref (ws.getD j 0)):=λj hj=>by
   have hj : j < ws.length := by have : j < us'.length := by simpa [li] using hj
                                 omega
   have:=DU rj (show(ws.map V.ref)[j]? = some (V.ref (ws.getD j 0)) by rw[wq,wb,wc hj];rfl)
   simpa using this
 have hK:∀j,j<its.toArray.size->(dN X.prog X.w).is s1.heap (ks.getD j []) (us'.getD j 0):=λj hj=>by
   have hj:j<us'.length:=by simpa [li] using hj
   have:=(kU hk (i:=j) (x:=.ref (us'.getD j 0)) (by rw[wq,wb,wc hj];rfl)).2
   have ek:(ks.map TZ).getD j .none=TZ (ks.getD j []):=by
     rw[wb,wq,wb,wc (by omega:j<ks.length)]
     rfl
   rw[ek]at this;exact I1.nK this
 refine TB.YC (zES la lb hd) (I1.ok.hd hc) (by omega) (by simp only[wK];omega) (by simp only[wK];omega) hx hy (λj hj=>?_) (λi j hi' hj e=>?_) hz hi ho t1 (p1.at λo e=>kp _ o e) t2 (p2.at λo e=>kp _ o e) (λj hj=>TB.pg (hK j hj) λo e=>kp _ o e) λg tk bl dd=>?_
 . obtain⟨a',o,items,n,ea,ho',_⟩:=hK j hj
   cases ea;exact wC ho'
 . have hi' : i < ks.length := by have : i < its.length := by simpa using hi'
                                  omega
   have hj : j < ks.length := by have : j < its.length := by simpa using hj
                                 omega
   rw[wb,wb,wc hi',wc hj]at e;have pw:=Ww.mp nd;rcases Vx i j with z | z | z
   . exact absurd e (pw i j hi' hj z)
   . exact z
   . exact absurd e.symm (pw j i hj hi' z)
 . obtain⟨o,es,ep,ho',hxd,hda,he,his,hnd⟩:=dd
   refine⟨.ref h'.objs.size,_,I1.laid (t':=tk) (a:=h'.objs.size) (o:=iG h'.objs.size ep (gA ks us' ws)) (λc o e=>bl c o (wC e) (kp c o e)) (by omega) (zAX ?_ (beq_eq_false_iff_ne.mpr (WB (wQ ?_))) ?_ ho' hxd hda ?_),rfl,q _ ep (I1.aM.fresh (by omega))⟩
   . unfold gA;rw[wl,vc];omega
   . exact wT I1.big (by omega)
   . rw[zxc (by omega)];exact nd
   . rw[he]
     have:((wo its.toArray.size).map λj=>(ks.getD j [],us'.getD j 0,Value.ref (ws.getD j 0)))=iV (gA ks us' ws):=by
       unfold iV gA;rw[V7,wK,<- li]
       rfl
     rw[this];exact LX _
def F0(K:wa)(td ty:TE):TE:=λσ H Q=>td σ H λx H1=>ty σ H1 λy H2=>∃a b ep xs k l,x=.ref a/\y=.ref b/\H2 a=some (iG a ep xs)/\Ab K H2 xs/\Is K H2 (.ref b) (TZ k)/\mm xs k=some l/\Q (.ref l) H2
theorem zDu{pins:List (we × Obj)}{σ : St}{H:Hp}{s:wm}{a b l:we}{ep:Nat}{xs:List NE}{k:List Int}{A:w9}{E:wf->wm->Prop}{Q:wf->wm->Prop}(hu:A.units+4<WG)(I:Inv X pins σ H s)(e:H a=some (iG a ep xs))(hk:Ab X.K H xs)(hb:Is X.K H (.ref b) (TZ k))(hl:mm xs k=some l)(h:∀s',Inv X pins σ H s'->Q (.ref l) s') :
  wt (model X.prog X.w) A (getItem (.ref a) (.ref b)) Q E s:=by
 obtain⟨z,hd,nd,o,es,ho,hx,hda,r⟩:=I.KR e;have zk:(iV xs).map (·.1)=xs.map (·.1):=by unfold iV;rw[V7];rfl
 have dd:s.heap.DictOfH (dN X.prog X.w) a (iV xs):=⟨o,es,ep,ho,hx,hda,zDX r,λx hx=>by
  obtain⟨y,hy,rfl⟩:=wR.mp hx;exact I.nK (hk y hy),by rw[zk];exact nd⟩
 have lk:=Ze xs k;rw[hl]at lk;cases e2:atKey (iV xs) k with
 | none=>rw[e2]at lk;cases lk
 | some p =>
  rw[e2]at lk;have:p.2=Value.ref l:=wZ lk;obtain⟨p1,p2⟩:=p;have:p2=Value.ref l:=this;subst this;exact wpAny_getItem_heap (knd:=dN X.prog X.w) (show A.units+1+1<WG by omega) (I.nK hb) dd e2 (h _ (I.tok _))
theorem zy6(hu:X.A.units+4<WG)(ho:PE X o td)(hi:PE X i ty)(hs:PH i):PE X (.Subscript o i pos) (F0 X.K td ty):=by
 intro pins s σ H Q I h;refine zBB PySem.F.slot_dict_getitem.lookup hs (aP (ho pins s σ H _ I h) λu s1 ⟨x,H1,I1,rx,q1⟩=>aP (hi pins s1 σ H1 _ I1 q1) λiv s2 ⟨y,H2,I2,ry,a,b,ep,xs,k,l,ex,ey,e,hk,hb,hl,q2⟩=>?_);subst ex ey;obtain rfl:u=Value.ref a:=rx;obtain rfl:iv=Value.ref b:=ry;obtain⟨_,_,_,od,es,g1,g2,_,_⟩:=I2.KR e;exact⟨⟨od,g1,g2.1⟩,zDu hu I2 e hk hb hl λs3 I3=>⟨.ref l,H2,I3,rfl,q2⟩⟩
end
section
variable{K:wa}{σ : St}{H:Hp}{Q:VK}{td ty:TE}{ta:TA}
theorem zx7(h:ta σ H λvs H1=>Sd K vs H1 Q):LS K ta σ H Q:=h
theorem zyk(h:td σ H λx H1=>ty σ H1 λy H2=>∃a b ep xs k l,x=.ref a/\y=.ref b/\H2 a=some (iG a ep xs)/\Ab K H2 xs/\Is K H2 (.ref b) (TZ k)/\mm xs k=some l/\Q (.ref l) H2):F0 K td ty σ H Q:=h
end
end L2
namespace TB
open PySem PySem.W PyProof.Rows MeetsSeq PySem.SeqAt
section
variable{prog:wH}{w:wM}{A:w9}{s:wm}{R:Result->wm->Prop}
def iR(b:Nat->Bool):Nat->Nat->Nat
 | _,0=>0
 | i,k+1=>(if b i=true then 1 else 0)+iR b (i+1) k
theorem SH{l:we}{items:Array wf}{n:Nat}{dd:Option we}{sl:Array (Option wf)}{x:wf}{b:Nat->Bool}(hl:s.heap.get? l=some {cls:=.type "list",dict:=dd,data:=.seq items n,slots:=sl})
  (he:∀m (hm:m<items.size) (E:wf->wm->Prop) (Q:Bool->wm->Prop),Q (b m) s->wt (model prog w) A.in1 (eqBool items[m] x) Q E s) :
  ∀(k i:Nat)(found:Int),items.size-i=k->R (.ok (.ret (.int (found+(iR b i k:Nat)) s.toks))) {s with toks:=s.toks+1}->codeAny (model prog w) A (.builtin "list.count.loop" ⟨[.ref l,x,Va i,Va found],[]⟩) R s
 | 0,i,found,hk,h=>by
  refine codeAny_builtin entry_count_loop ?_;rw[qg plain_count_loop _];obtain⟨hp,g,d,tk,os⟩:=s
  wp_walk using wpAny_loadPart' hl
  have hi:items[((i:Nat):Int).toNat]? = none:=by simp;omega
  rw[hi]
  wp_walk
  simpa [iR] using h
 | k+1,i,found,hk,h=>by
  have hlt:i<items.size:=by omega
  refine codeAny_builtin entry_count_loop ?_;rw[qg plain_count_loop _];have ih:=λfound' h'=>SH hl he k (i+1) found' (by omega) h'
  obtain⟨hp,g,d,tk,os⟩:=s
  wp_walk using wpAny_loadPart' hl
  have hi:items[((i:Nat):Int).toNat]? = some items[i]:=by simp[hlt]
  have hc:((i:Int)+1)=((i+1:Nat):Int):=by push_cast;rfl
  rw[hi];refine wg (he i hlt _ _ ?_)
  wp_walk
  rw[hc];refine⟨plainId_quiet plain_count_loop _,ih _ ?_⟩;cases hb:b i with
  | false =>
   simp only[iR,hb,Wu,if_false,Vl]at h ⊢;exact h
  | true =>
   simp only[iR,hb,if_true]at h ⊢;have e1:found+1+((iR b (i+1) k:Nat):Int)=found+((1+iR b (i+1) k:Nat):Int):=by push_cast;omega
   rw[e1];exact h
theorem YJ{l:we}{items:Array wf}{n:Nat}{x:wf}{b:Nat->Bool}{Q:wf->wm->Prop}{E:wf->wm->Prop}(hl:s.heap.get? l=some {cls:=.type "list",dict:=none,data:=.seq items n,slots:=#[]})
  (he:∀m (hm:m<items.size) (E:wf->wm->Prop) (Q:Bool->wm->Prop),Q (b m) s->wt (model prog w) A.in1 (eqBool items[m] x) Q E s)
  (h:Q (.int (iR b 0 items.size:Nat) s.toks) {s with toks:=s.toks+1}):wt (model prog w) A (call (.builtin "list.count") [.ref l,x]) Q E s:=by
 refine wpAny_call (codeAny_call_builtin qK.plain PySem.F.entry_list_count (qK.check _ _ _ _ _ _ _ _ ⟨_,hl,rfl⟩ (PySem.F.args_list_count_2 _ _) ?_));have ih:=SH (R:=wants Q E) hl he items.size 0 0 (by omega) (by rw[Int.zero_add];exact h);obtain⟨hp,g,d,tk,os⟩:=s
 wp_walk using wpAny_loadPart' hl
 exact⟨plainId_quiet plain_count_loop _,ih⟩
end
end TB
namespace L2
open PySem PySem.Spec PyProof.Rows GM
def Bx(K:wa):V->List V->Hp->VK->Prop:=λx vs H Q=>∃(l:we)(us:List V)(v:V)(key:Nat->List Int)(k:List Int),x=.ref l/\vs=[v]/\H l=some (.lst us)/\(∀i u,us[i]? = some u->B0 K H u (key i))/\B0 K H v k/\Q (.int (TB.iR (λm=>decide (key m=k)) 0 us.length:Nat)) H
theorem zxA{X:Cx}(hu:X.A.units+64<WG):Cd X "list.count" (Bx X.K):=by
 intro pins s σ H x vs v us Q I rx rv h;obtain⟨l,ws,y,key,k,rfl,rfl,hH,hk,⟨p,rfl,hp⟩,q⟩:=h;cases rx;obtain⟨u,rfl,ru⟩:=rv.one;cases ru;obtain⟨z,its,n,r,hl,e⟩:=I.pj hH;have hlen:=r.length;refine TB.YJ (b:=λm=>decide (key m=k)) e (λm hm E Q' q'=>?_) ?_
 ·have hm2:m<its.length:=by rw[wK]at hm;exact hm
  have hm':m<ws.length:=by omega
  obtain⟨a,ea,sa⟩:=hk m _ (wc hm');have hv:=LM r (show ws[m]? = some (.ref a) by rw[wc hm',ea])
  have he:its.toArray[m]=.ref a:=by
   rw[wc hm2]at hv
   simpa using wZ hv
  rw[he];exact wpAny_eqBool_tuple (by show X.A.units+1<_;lia) (I.key sa) (I.key hp) q'
 ·rw[wK,show its.length=ws.length by omega]
  exact⟨.int _,H,I.tok _,⟨_,rfl⟩,q⟩
theorem L_{x:Rat}{b:Nat->Bool} : ∀(ys:List Rat)(i:Nat),(∀j,j<ys.length->b (i+j)=decide (ys.getD j 0=x))->TB.iR b i ys.length=ys.count x
 | [],_,_=>rfl
 | y::ys,i,h=>by
  have h0:=h 0 (by simp);rw[Qa]at h0
  have ih:=L_ (x:=x) (b:=b) ys (i+1) λj hj=>by
   have:=h (j+1) (by simp;omega);rw[show i+(j+1)=i+1+j by omega]at this;exact this
  have e:(y::ys).getD 0 0=y:=rfl;rw[e]at h0
  show(if b i=true then 1 else 0)+TB.iR b (i+1) ys.length=_
  rw[ih,List.count_cons,h0]
  by_cases z:y=x<;>simp[z]
  omega
theorem zxW{K:wa}{H:Hp}{Q:VK}{l:we}{us:List V}{xs:List Rat}{x:Rat}{v:V}(h:H l=some (.lst us))(t:ah K H us (xs.map N))(hv:Is K H v (N x))(q:Q (.int (xs.count x:Nat)) H):Bx K (.ref l) [v] H Q:=by
 have hl:=t.length;rw[wl]at hl;refine⟨l,us,v,λj=>[(xs.getD j 0).num,((xs.getD j 0).den:Int)],_,rfl,rfl,h,λj v hv=>UU.mp (cg t hv).2,UU.mp hv,?_⟩
 rw[hl,L_ xs 0 λj hj=>by
  rw[Vl]
  show decide ([(xs.getD j 0).num,((xs.getD j 0).den:Int)]=[x.num,(x.den:Int)])=decide (xs.getD j 0=x)
  by_cases z:xs.getD j 0=x
  ·rw[decide_eq_true z,decide_eq_true (by rw[z])]
  ·rw[decide_eq_false z,decide_eq_false λe=>z (Y_ e)]]
 exact q
end L2
namespace G
open PySem PySem.Spec PyProof.Rows L2 GM
local macro_rules | `(tactic| wtm_at "sc")=>`(tactic| exact ⟨rfl,rfl,rfl,by decide +kernel,rfl,by decide +kernel,by decide +kernel⟩)
def top(i:Nat):wW:=VY.main.body.getD i (.Pass ⟨0,0,0,0⟩)
abbrev C3:wW:=top 10
abbrev CQ:List Str:=["thing"]
abbrev AF:=CQ
theorem ZQ:aI CQ AF (aG C3):=by wtm_at "sc"
abbrev Fd:wW:=top 11
abbrev PF:List Str:=["one","other","rest"]
abbrev tL:List Str:=["one","other"]
theorem Av:aI PF tL (aG Fd):=by wtm_at "sc"
abbrev ET:wW:=top 12
abbrev Fw:List Str:=["thing"]
abbrev yI:=Fw
theorem zqQ:aI Fw yI (aG ET):=by wtm_at "sc"
abbrev FA:wW:=top 13
abbrev Pm:List Str:=["one","other","shared","top","divisor"]
abbrev tE:List Str:=["one","other"]
theorem yc:aI Pm tE (aG FA):=by wtm_at "sc"
abbrev EJ:wW:=top 14
abbrev CT:List Str:=["one","other"]
abbrev zU:=CT
theorem zzN:aI CT zU (aG EJ):=by wtm_at "sc"
abbrev Fh:wW:=top 15
abbrev Rp:List Str:=["one","other","first","second"]
abbrev tY:List Str:=["one","other"]
theorem Fz:aI Rp tY (aG Fh):=by wtm_at "sc"
abbrev Gf:wW:=top 16
abbrev MG:List Str:=["one","other","turned"]
abbrev yk:List Str:=["one","other"]
theorem M9:aI MG yk (aG Gf):=by wtm_at "sc"
abbrev BB:wW:=top 17
abbrev EI:List Str:=["one","other"]
abbrev yo:=EI
theorem zAh:aI EI yo (aG BB):=by wtm_at "sc"
abbrev DY:wW:=top 22
abbrev B4:List Str:=["a"]
abbrev yg:=B4
theorem zrm:aI B4 yg (aG DY):=by wtm_at "sc"
abbrev Ca:wW:=top 23
abbrev CD:List Str:=["b"]
abbrev yR:=CD
theorem zs8:aI CD yR (aG Ca):=by wtm_at "sc"
abbrev Ei:wW:=top 24
abbrev Fu:List Str:=["a","b"]
abbrev yX:=Fu
theorem zrl:aI Fu yX (aG Ei):=by wtm_at "sc"
abbrev CM:wW:=top 25
abbrev Dl:List Str:=["thing"]
abbrev AJ:=Dl
theorem zuj:aI Dl AJ (aG CM):=by wtm_at "sc"
abbrev GA:wW:=top 26
abbrev FD:List Str:=["rule"]
abbrev Ag:=FD
theorem zA4:aI FD Ag (aG GA):=by wtm_at "sc"
abbrev DB:wW:=top 27
abbrev O8:List Str:=["rule","many","factor","shift","done"]
abbrev yw:List Str:=["rule","many"]
theorem oH:aI O8 yw (aG DB):=by wtm_at "sc"
abbrev DT:wW:=top 28
abbrev Ey:List Str:=["push","x"]
abbrev Aw:=Ey
theorem zr6:aI Ey Aw (aG DT):=by wtm_at "sc"
abbrev Dr:wW:=top 32
abbrev FQ:List Str:=["thing"]
abbrev AR:=FQ
theorem ZG:aI FQ AR (aG Dr):=by wtm_at "sc"
abbrev BH:wW:=top 33
abbrev DA:List Str:=["thing"]
abbrev tZ:=DA
theorem zpk:aI DA tZ (aG BH):=by wtm_at "sc"
abbrev Di:wW:=top 34
abbrev FU:List Str:=["rule","phases"]
abbrev zD:=FU
theorem zsk:aI FU zD (aG Di):=by wtm_at "sc"
abbrev FR:wW:=top 35
abbrev Yg:List Str:=["phases","told","phase"]
abbrev uW:List Str:=["phases"]
theorem y_:aI Yg uW (aG FR):=by wtm_at "sc"
abbrev Gb:wW:=top 36
abbrev Cn:List Str:=["phases","phase"]
abbrev tQ:=Cn
theorem Z6:aI Cn tQ (aG Gb):=by wtm_at "sc"
abbrev Fm:wW:=top 37
abbrev Yb:List Str:=["swarm","told","left","phase"]
abbrev Ay:List Str:=["swarm"]
theorem pZ:aI Yb Ay (aG Fm):=by wtm_at "sc"
abbrev DS:wW:=top 38
abbrev Ds:List Str:=["worms","phases"]
abbrev As:=Ds
theorem Z0:aI Ds As (aG DS):=by wtm_at "sc"
abbrev DH:wW:=top 39
abbrev PL:List Str:=["swarm","wait","phases","left","waves","wave","push","worm","anew"]
abbrev An:List Str:=["swarm"]
theorem jo:aI PL An (aG DH):=by wtm_at "sc"
abbrev BX:wW:=top 41
abbrev Sk:List Str:=["swarm","many","rows","hour","stand","done","told"]
abbrev zJ:List Str:=["swarm","many"]
theorem lR:aI Sk zJ (aG BX):=by wtm_at "sc"
abbrev Dm:wW:=top 42
abbrev SD:List Str:=["swarm","many","rows","last"]
abbrev yF:List Str:=["swarm","many"]
theorem CG:aI SD yF (aG Dm):=by wtm_at "sc"
abbrev B3:wW:=top 44
abbrev DG:List Str:=["swarm"]
abbrev Al:=DG
theorem zu0:aI DG Al (aG B3):=by wtm_at "sc"
abbrev Gn:wW:=top 45
abbrev Mn:List Str:=["swarm","rows","sizes","places"]
abbrev AG:List Str:=["swarm"]
theorem u6:aI Mn AG (aG Gn):=by wtm_at "sc"
abbrev C9:wW:=top 46
abbrev MM:List Str:=["rule","size","phases","turn","wait","push","told"]
abbrev yj:List Str:=["rule","size","phases","turn"]
theorem tR:aI MM yj (aG C9):=by wtm_at "sc"
abbrev BR:wW:=top 47
abbrev OR:List Str:=["rule","sizes","places","told","turn","size"]
abbrev zc:List Str:=["rule","sizes","places"]
theorem zL:aI OR zc (aG BR):=by wtm_at "sc"
abbrev Ex:wW:=top 48
abbrev Gx:List Str:=["rule","sizes","places"]
abbrev tK:=Gx
theorem znr:aI Gx tK (aG Ex):=by wtm_at "sc"
abbrev GI:wW:=top 49
abbrev NT:List Str:=["rule","sizes","places","told","rows","turn"]
abbrev y9:List Str:=["rule","sizes","places"]
theorem p8:aI NT y9 (aG GI):=by wtm_at "sc"
abbrev CZ:wW:=top 50
abbrev MH:List Str:=["rule","sizes","places","rows","count"]
abbrev zy:List Str:=["rule","sizes","places"]
theorem GJ:aI MH zy (aG CZ):=by wtm_at "sc"
abbrev EX:wW:=top 51
abbrev OS:List Str:=["rule","sizes","places","steps"]
abbrev AH:List Str:=["rule","sizes","places"]
theorem LV:aI OS AH (aG EX):=by wtm_at "sc"
abbrev Cy:wW:=top 52
abbrev Mi:List Str:=["rule","sizes","factor","noughts"]
abbrev zR:List Str:=["rule","sizes"]
theorem Cu:aI Mi zR (aG Cy):=by wtm_at "sc"
abbrev Fo:wW:=top 55
abbrev Mc:List Str:=["rule","sizes","both","gap"]
abbrev AB:List Str:=["rule","sizes"]
theorem CU:aI Mc AB (aG Fo):=by wtm_at "sc"
abbrev C4:wW:=top 56
abbrev FO:List Str:=["both","places","of_place","of_shift"]
abbrev x_:=FO
theorem zuy:aI FO x_ (aG C4):=by wtm_at "sc"
abbrev B7:wW:=top 57
abbrev Nf:List Str:=["both","places","many","push"]
abbrev z5:List Str:=["both","places","many"]
theorem Tq:aI Nf z5 (aG B7):=by wtm_at "sc"
abbrev BK:wW:=top 58
abbrev Bv:List Str:=["rule","sizes","places","many"]
abbrev tI:=Bv
theorem ZZ:aI Bv tI (aG BK):=by wtm_at "sc"
abbrev DL:wW:=top 59
abbrev Te:List Str:=["both","places","many","of_place","of_shift","done"]
abbrev Ak:List Str:=["both","places","many"]
theorem og:aI Te Ak (aG DL):=by wtm_at "sc"
abbrev BY:wW:=top 60
abbrev Ss:List Str:=["rule","sizes","places","many","count","mean"]
abbrev uX:List Str:=["rule","sizes","places","many"]
theorem Ee:aI Ss uX (aG BY):=by wtm_at "sc"
abbrev FV:wW:=top 61
abbrev BW:List Str:=["rule","sizes"]
abbrev tP:=BW
theorem znt:aI BW tP (aG FV):=by wtm_at "sc"
abbrev Fn:wW:=top 62
abbrev Nt:List Str:=["rule","sizes","places","way"]
abbrev AL:List Str:=["rule","sizes","places"]
theorem Us:aI Nt AL (aG Fn):=by wtm_at "sc"
abbrev Gu:wW:=top 63
abbrev Py:List Str:=["rule","sizes","places","both","ahead","count"]
abbrev AA:List Str:=["rule","sizes","places"]
theorem pB:aI Py AA (aG Gu):=by wtm_at "sc"
abbrev BO:wW:=top 65
abbrev L0:List Str:=["swarm","rounds","both","later","now","phases"]
abbrev zT:List Str:=["swarm","rounds"]
theorem rD:aI L0 zT (aG BO):=by wtm_at "sc"
abbrev El:wW:=top 66
abbrev UL:List Str:=["swarm","rounds","glows","first","then"]
abbrev yU:List Str:=["swarm","rounds","glows"]
theorem CB:aI UL yU (aG El):=by wtm_at "sc"
abbrev Et:wW:=top 67
abbrev O5:List Str:=["swarm","both"]
abbrev AN:List Str:=["swarm"]
theorem Lb:aI O5 AN (aG Et):=by wtm_at "sc"
abbrev Ep:wW:=top 68
abbrev Td:List Str:=["swarm","count","told"]
abbrev z_:List Str:=["swarm"]
theorem p0:aI Td z_ (aG Ep):=by wtm_at "sc"
abbrev DC:wW:=top 69
abbrev NQ:List Str:=["hour","swarm","both","rounds","glows"]
abbrev yD:List Str:=["hour","swarm"]
theorem uU:aI NQ yD (aG DC):=by wtm_at "sc"
abbrev Gj:wW:=top 70
abbrev MD:List Str:=["swarm","rows","word","row","told","hour"]
abbrev zK:List Str:=["swarm"]
theorem mV:aI MD zK (aG Gj):=by wtm_at "sc"
abbrev EZ:wW:=top 71
abbrev PD:List Str:=["swarm","last"]
abbrev uT:List Str:=["swarm"]
theorem Nr:aI PD uT (aG EZ):=by wtm_at "sc"
abbrev F9:wW:=top 73
abbrev FH:List Str:=["_law_script","_law_k"]
abbrev uV:=FH
theorem ztY:aI FH uV (aG F9):=by wtm_at "sc"
abbrev ER:wW:=top 74
abbrev O3:List Str:=["_law_script","_law_k","_law_cell_here"]
abbrev zH:List Str:=["_law_script","_law_k"]
theorem SI:aI O3 zH (aG ER):=by wtm_at "sc"
abbrev Cv:wW:=top 75
abbrev Ym:List Str:=["_law_pen_here","_law_most","_law_found","_law_mixed"]
abbrev u0:List Str:=["_law_pen_here","_law_most"]
theorem u9:aI Ym u0 (aG Cv):=by wtm_at "sc"
abbrev Bw:wW:=top 76
abbrev SN:List Str:=["_law_top","_law_bottom","_law_one","_law_other"]
abbrev AO:List Str:=["_law_top","_law_bottom"]
theorem AM:aI SN AO (aG Bw):=by wtm_at "sc"
abbrev Bo:wW:=top 77
abbrev By:List Str:=["_law_one","_law_other"]
abbrev yO:=By
theorem zuF:aI By yO (aG Bo):=by wtm_at "sc"
abbrev F6:wW:=top 78
abbrev FJ:List Str:=["_law_one","_law_other"]
abbrev tT:=FJ
theorem zsT:aI FJ tT (aG F6):=by wtm_at "sc"
abbrev Fb:wW:=top 79
abbrev Gw:List Str:=["_law_one","_law_other"]
abbrev zO:=Gw
theorem zoz:aI Gw zO (aG Fb):=by wtm_at "sc"
abbrev Gp:wW:=top 80
abbrev FT:List Str:=["_law_one","_law_other"]
abbrev zf:=FT
theorem zt8:aI FT zf (aG Gp):=by wtm_at "sc"
abbrev CL:wW:=top 81
abbrev B6:List Str:=["_law_one","_law_other"]
abbrev zY:=B6
theorem zq6:aI B6 zY (aG CL):=by wtm_at "sc"
abbrev Dy:wW:=top 82
abbrev Gm:List Str:=["_law_thing"]
abbrev zu:=Gm
theorem zq3:aI Gm zu (aG Dy):=by wtm_at "sc"
abbrev Dw:wW:=top 83
abbrev NI:List Str:=["_law_pen_here","_law_way","_law_bottom","_law_deep","_law_more","_law_top","_law_need"]
abbrev AK:List Str:=["_law_pen_here"]
theorem kI:aI NI AK (aG Dw):=by wtm_at "sc"
abbrev BE:wW:=top 84
abbrev MW:List Str:=["_law_rule","_law_many","_law_found","_law_k"]
abbrev z8:List Str:=["_law_rule","_law_many"]
theorem tH:aI MW z8 (aG BE):=by wtm_at "sc"
abbrev Cs:wW:=top 85
abbrev Lo:List Str:=["_law_rule","_law_sizes","_law_places","_law_phases","_law_time_here","_law_heights","_law_at","_law_wait","_law_often","_law_risen"]
abbrev Am:List Str:=["_law_rule","_law_sizes","_law_places"]
theorem jJ:aI Lo Am (aG Cs):=by wtm_at "sc"
abbrev C5:wW:=top 86
abbrev Rr:List Str:=["_law_one","_law_many","_law_top","_law_bottom","_law_k"]
abbrev yT:List Str:=["_law_one","_law_many"]
theorem ou:aI Rr yT (aG C5):=by wtm_at "sc"
abbrev Ec:wW:=top 87
abbrev Pw:List Str:=["_law_rule","_law_sizes","_law_factor","_law_shifts"]
abbrev yf:List Str:=["_law_rule","_law_sizes"]
theorem Fx:aI Pw yf (aG Ec):=by wtm_at "sc"
abbrev DZ:wW:=top 88
abbrev Mk:List Str:=["_law_rule","_law_sizes","_law_places","_law_many","_law_shifts","_law_factor","_law_found","_law_place","_law_rest_here"]
abbrev zN:List Str:=["_law_rule","_law_sizes","_law_places","_law_many"]
theorem nu:aI Mk zN (aG DZ):=by wtm_at "sc"
abbrev DE:wW:=top 89
abbrev U_:List Str:=["_law_rule","_law_sizes","_law_places","_law_row","_law_k"]
abbrev tS:List Str:=["_law_rule","_law_sizes","_law_places"]
theorem Bm:aI U_ tS (aG DE):=by wtm_at "sc"
abbrev C8:wW:=top 90
abbrev MV:List Str:=["_law_rule","_law_sizes","_law_places","_law_heights"]
abbrev zw:List Str:=["_law_rule","_law_sizes","_law_places"]
theorem TH:aI MV zw (aG C8):=by wtm_at "sc"
abbrev ES:wW:=top 91
abbrev OF:List Str:=["_law_pen_here","_law_most","_law_many","_law_bottom","_law_few","_law_apart"]
abbrev yW:List Str:=["_law_pen_here","_law_most"]
theorem p5:aI OF yW (aG ES):=by wtm_at "sc"
abbrev Gq:wW:=top 93
abbrev Pk:List Str:=["_law_some","_law_found","_law_one"]
abbrev zh:List Str:=["_law_some"]
theorem zB:aI Pk zh (aG Gq):=by wtm_at "sc"
abbrev Eg:wW:=top 92
abbrev Pt:List Str:=["_law_phases","_law_places","_law_found","_law_left","_law_place","_law_high_here","_law_k"]
abbrev Ar:List Str:=["_law_phases","_law_places"]
theorem m3:aI Pt Ar (aG Eg):=by wtm_at "sc"
abbrev BG:wW:=top 94
abbrev Ml:List Str:=["_law_rule","_law_phases","_law_high_here","_law_wait","_law_now","_law_wave","_law_waves","_law_gone","_law_often","_law_k"]
abbrev uJ:List Str:=["_law_rule","_law_phases"]
theorem ja:aI Ml uJ (aG BG):=by wtm_at "sc"
abbrev Bz:wW:=top 95
abbrev PV:List Str:=["_law_phases","_law_left","_law_sizes","_law_found","_law_high_here"]
abbrev yA:List Str:=["_law_phases"]
theorem nJ:aI PV yA (aG Bz):=by wtm_at "sc"
abbrev Er:wW:=top 96
abbrev Tx:List Str:=["_law_rule","_law_sizes","_law_places","_law_many","_law_first","_law_step","_law_rest_here","_law_factor","_law_often"]
abbrev yC:List Str:=["_law_rule","_law_sizes","_law_places","_law_many"]
theorem oj:aI Tx yC (aG Er):=by wtm_at "sc"
abbrev FX:wW:=top 97
abbrev Lw:List Str:=["_law_rule","_law_hour","_law_phases","_law_rounds","_law_glows","_law_sizes","_law_places","_law_k","_law_wait","_law_waves"]
abbrev uM:List Str:=["_law_rule","_law_hour","_law_phases","_law_rounds","_law_glows"]
theorem jD:aI Lw uM (aG FX):=by wtm_at "sc"
abbrev BL:wW:=top 98
abbrev O9:List Str:=["_law_rule","_law_phases","_law_sizes","_law_places"]
abbrev yY:List Str:=["_law_rule","_law_phases"]
theorem Fq:aI O9 yY (aG BL):=by wtm_at "sc"
abbrev C7:wW:=top 99
abbrev OT:List Str:=["_law_rule","_law_phases","_law_paper_here","_law_hour","_law_row","_law_stand_here"]
abbrev yz:List Str:=["_law_rule","_law_phases","_law_paper_here"]
theorem oE:aI OT yz (aG C7):=by wtm_at "sc"
abbrev Br:wW:=top 100
abbrev Ff:List Str:=["_law_one"]
abbrev u4:=Ff
theorem zpp:aI Ff u4 (aG Br):=by wtm_at "sc"
abbrev Dd:wW:=top 101
abbrev Rk:List Str:=["_law_paper_here","_law_many","_law_row","_law_last"]
abbrev u5:List Str:=["_law_paper_here","_law_many"]
theorem yq:aI Rk u5 (aG Dd):=by wtm_at "sc"
abbrev Fj:wW:=top 102
abbrev N1:List Str:=["_law_swarm","_law_found"]
abbrev zQ:List Str:=["_law_swarm"]
theorem tJ:aI N1 zQ (aG Fj):=by wtm_at "sc"
abbrev Gy:wW:=top 103
abbrev RL:List Str:=["_law_swarm","_law_found"]
abbrev zo:List Str:=["_law_swarm"]
theorem v_:aI RL zo (aG Gy):=by wtm_at "sc"
abbrev Cb:wW:=top 104
abbrev La:List Str:=["_law_rule","_law_phases","_law_swarm","_law_told"]
abbrev u7:List Str:=["_law_rule","_law_phases","_law_swarm"]
theorem LA:aI La u7 (aG Cb):=by wtm_at "sc"
abbrev Es:wW:=top 105
abbrev O0:List Str:=["_law_pen_here","_law_rule","_law_most","_law_found","_law_some","_law_one"]
abbrev uL:List Str:=["_law_pen_here","_law_rule","_law_most"]
theorem Ae:aI O0 uL (aG Es):=by wtm_at "sc"
abbrev AQ:wW:=top 106
abbrev L3:List Str:=["_law_script","_law_rule","_law_phases","_law_other","_law_others","_law_swarm"]
abbrev yZ:List Str:=["_law_script"]
theorem oo:aI L3 yZ (aG AQ):=by wtm_at "sc"
set_option genInjectivity false in
structure Ad where
 JX:we
 ID:wz
 GV:we
 GL:wz
 Jt:we
 HE:wz
 plus:we
 Kk:wz
 minus:we
 JI:wz
 times:we
 J4:wz
 over:we
 Kj:wz
 less:we
 Kh:wz
 JC:we
 HA:wz
 JM:we
 Ig:wz
 JD:we
 HF:wz
 J5:we
 Ji:wz
 KI:we
 Kf:wz
 Kq:we
 Jz:wz
 Jr:we
 HC:wz
 JH:we
 Iw:wz
 IT:we
 Hq:wz
 JJ:we
 H_:wz
 JN:we
 Iu:wz
 J0:we
 Ij:wz
 Kr:we
 JE:wz
 IP:we
 Hy:wz
 nk:we
 Kc:wz
 Kp:we
 Jd:wz
 behind:we
 Jn:wz
 J6:we
 IU:wz
 laid:we
 J9:wz
 Hi:we
 GY:wz
 sX:we
 Jv:wz
 HK:we
 G4:wz
 IX:we
 Ho:wz
 iS:we
 Ko:wz
 J7:we
 Ja:wz
 Jy:we
 HN:wz
 Ky:we
 JL:wz
 Ke:we
 IV:wz
 Ku:we
 Jm:wz
 Hu:we
 GX:wz
 He:we
 GR:wz
 Ir:we
 G_:wz
 HQ:we
 G6:wz
 Jf:we
 Hw:wz
 Ic:we
 G9:wz
 Hg:we
 GZ:wz
 IW:we
 Hh:wz
 Kg:we
 IJ:wz
 Ht:we
 G1:wz
 J3:we
 Iq:wz
 JG:we
 Ia:wz
 KL:we
 Kl:wz
 JK:we
 HZ:wz
 J_:we
 IG:wz
 JY:we
 IC:wz
 Km:we
 II:wz
 J8:we
 IS:wz
 JV:we
 IA:wz
 IE:we
 G8:wz
 JP:we
 Ii:wz
 Js:we
 HJ:wz
 Jo:we
 HX:wz
 Hf:we
 GP:wz
 Jh:we
 Hx:wz
 JF:we
 HU:wz
 Jl:we
 HL:wz
 Ju:we
 HP:wz
 Jb:we
 Hs:wz
 JW:we
 Iz:wz
 Ki:we
 Je:wz
 GU:we
 GK:wz
 JS:we
 Ik:wz
 IM:we
 Hl:wz
 JO:we
 Iv:wz
 JQ:we
 Ih:wz
 J1:we
 Im:wz
 Jx:we
 HY:wz
 JZ:we
 Ib:wz
 JU:we
 Ip:wz
 IF:we
 Hn:wz
 IQ:we
 Hm:wz
 JA:we
 HS:wz
 Hz:we
 GW:wz
 Jq:we
 HG:wz
 Jw:we
 HH:wz
 law:we
 Ks:wz
 o_:we
 fi:we
 dD:we
 d9:we
 AU:we
structure Dn(K:wa)(mg:Str->Option wf)(n:Str)(st:wW)(ps:List Str)(f:we)(fd:wz):Prop where
 F:lS K n n st f fd
 g:mg n=some (.ref f)
 b:mR K fd ps []
section
variable{X:Cx}{x:Str}{f:we}{fd:wz}{ps:List Str}{sp:Sp}{j k:Nat}{e:Expr}{es:List Expr}{t:TA}{pos pp:Pos}{st:wW}{CX:fX}
theorem oU{E:XK}(F:aF X.prog X.w X.K X.mg X.base CX k f fd ps sp)(hr:ee j X.A)(D:Dn X.K X.mg x st ps f fd)(hx:nZ CX X E)(ha:PA X (e::es) t)(hj:k<=j:=by decide)(hg:Gl X x:=by exact rfl)
  (hdb:(x == ("__debug__" : Str))=false:=by decide) (he:wS (e::es) X.env=(false,eval e X.env)::wS es X.env:=by rfl) (hpl:(Vz pos (wS es X.env)).any (·.1)=false:=by rfl) :
  PE X (.Call (.Name x pp) (e::es) [] pos) (pR sp [] E t):=TK F (hr.mono hj) hg D.g D.F.kp D.b .nil hx ha hdb he hpl
theorem ak(F:aF X.prog X.w X.K X.mg X.base aN k f fd ps sp)(hr:ee j X.A)(D:Dn X.K X.mg x st ps f fd)(ha:PA X (e::es) t)(hj:k<=j:=by decide)(hg:Gl X x:=by exact rfl)
  (hdb:(x == ("__debug__" : Str))=false:=by decide) (he:wS (e::es) X.env=(false,eval e X.env)::wS es X.env:=by rfl) (hpl:(Vz pos (wS es X.env)).any (·.1)=false:=by rfl) :
  PE X (.Call (.Name x pp) (e::es) [] pos) (pR sp [] E0 t):=TK F (hr.mono hj) hg D.g D.F.kp D.b .nil zEe ha hdb he hpl
theorem eA{ta:TE}{i:Int}{kd}(ha:PE X e ta):PE X (.Subscript e (.Constant (.int i) kd pp) pos) (jh (c_ X.K) ta (tC (.int i))):=de cD ha au (λ_ _=>rfl)
theorem nG{K:wa}{ta:TE}{i:Int}{kd}(hr:fF X (c_ K))(ha:PE X e ta):PE X (.Subscript e (.Constant (.int i) kd pp) pos) (jh (c_ K) ta (tC (.int i))):=de hr ha au (λ_ _=>rfl)
theorem ay(i:Nat){te:TE}(hN:X.N.Nodup)(he:PE X e te)(hi:X.N[i]? = some x:=by exact rfl)(hx:Loc X.env.scope x:=by first | exact Or.inl rfl | exact Or.inr rfl)(hs:swapsWith e (some (.Name x pp)) pos.line X.env=pure false:=by rfl)(hf:X.fn x=true\/X.env.scope.names.lookup x=some .local:=by first | exact .inl rfl | exact .inr rfl | assumption) :
  PS X (.Assign [.Name x pp] e pos) (kq te (gY i)):=zC5 hN hi hx he hs hf
end
section
variable{X:Cx}{x y z:Str}{e b:Expr}{es:List Expr}{t:TA}{ta tb:TE}{pos pp pq pr ps:Pos}
def Rs(K:wa)(H:Hp)(Q:VK)(d:wD):Prop:=∀v H',ar H H'->Is K H' v d->Q v H'
def Rq(H:Hp)(Q:VK)(v:V):Prop:=∀H',ar H H'->Q v H'
def Nm(X:Cx)(i:Nat)(x:Str):Prop:=X.N[i]? = some x/\rG X.env.scope x/\(x == ("__debug__" : Str))=false/\(x == ("__classdict__" : Str))=false
theorem Nm.v{i:Nat}(h:Nm X i x):PE X (.Name x pos) (gW i):=Pr h.1 h.2.1 h.2.2.1 h.2.2.2
theorem q1(i:Nat)(h:Nm X i x:=by wtm_at "nm"):PA X [.Name x pp] (jY (gW i) mO):=ae h.v ag cu
theorem q2(i j:Nat)(h:Nm X i x:=by wtm_at "nm")(k:Nm X j y:=by wtm_at "nm"):PA X [.Name x pp,.Name y pq] (jY (gW i) (jY (gW j) mO)):=ae h.v (ae k.v ag cu) cu
theorem q3(i j k:Nat)(h:Nm X i x:=by wtm_at "nm")(h2:Nm X j y:=by wtm_at "nm")(h3:Nm X k z:=by wtm_at "nm"):PA X [.Name x pp,.Name y pq,.Name z pr] (jY (gW i) (jY (gW j) (jY (gW k) mO))):=ae h.v (ae h2.v (ae h3.v ag cu) cu) cu
theorem qi(i:Nat){n:Int}{kd}(h:Nm X i x:=by wtm_at "nm"):PE X (.Subscript (.Name x pp) (.Constant (.int n) kd pq) pos) (jh (c_ X.K) (gW i) (tC (.int n))):=eA h.v
theorem c8(K:wa)(hz:X.mg x=none)(ha:PA X (e::es) t)(hK:X.K=K:=by rfl)(hg:Gl X x:=by exact rfl)(hv:vI x=some (.builtin "len"):=by exact zDc)(hn:x≠"__name__":=by decide)(hdb:(x == ("__debug__" : Str))=false:=by decide)
  (he:wS (e::es) X.env=(false,eval e X.env)::wS es X.env:=by rfl) (hpl:(Vz pos (wS es X.env)).any (·.1)=false:=by rfl):PE X (.Call (.Name x pp) (e::es) [] pos) (rf (jt K) t):=by
 subst hK;exact c7 zxZ hg hz hv ha hn hdb he hpl
theorem eQ(K:wa)(hz:X.mg x=none)(ha:PA X (e::es) t)(hK:X.K=K:=by rfl)(hg:Gl X x:=by exact rfl)(hv:vI x=some (.type "tuple"):=by exact k_)(hn:x≠"__name__":=by decide)(hdb:(x == ("__debug__" : Str))=false:=by decide)
  (he:wS (e::es) X.env=(false,eval e X.env)::wS es X.env:=by rfl) (hpl:(Vz pos (wS es X.env)).any (·.1)=false:=by rfl):PE X (.Call (.Name x pp) (e::es) [] pos) (rf (sH K) t):=by
 subst hK;exact iY zsm hg hz hv ha hn hdb he hpl
theorem j7(K:wa)(hu:X.A.units+64<WG)(ha:PE X e ta)(hb:PE X b tb)(hK:X.K=K:=by rfl):PE X (.Compare e [.Eq] [b] pos) (jh (jP K) ta tb):=by
 subst hK;exact gP (SW hu) ha hb (cQ _)
theorem d5(K:wa)(hu:X.A.units+64<WG)(ha:PE X e ta)(hb:PE X b tb)(hK:X.K=K:=by rfl):PT X (.Compare e [.Eq] [b] pos) (pL (jh (jP K) ta tb)):=by
 subst hK;exact cY (SW hu) ha hb (cQ _)
theorem hW(K:wa)(hu:X.A.units+64<WG)(ha:PE X e ta)(hb:PE X b tb)(hK:X.K=K:=by rfl):PT X (.Compare e [.NotEq] [b] pos) (pL (jh (md K) ta tb)):=by
 subst hK;exact cY (zDa hu) ha hb (cQ _)
theorem cq(i:Nat)(hN:X.N.Nodup:=by exact of_decide_eq_true (by kernel_rfl))(hi:X.N[i]? = some x:=by rfl)(hx:Loc X.env.scope x:=by exact Or.inl rfl)(hf:X.fn x=true\/X.env.scope.names.lookup x=some .local:=by first | exact .inl rfl | exact .inr rfl | assumption):PG X (.Name x pos) (gY i):=cT hN hi hx hf
theorem cP(N':List Str){scope:Scope}(src:List (Option Nat))(hk:scope.kind=.function:=by rfl)(hc:DF scope.names X.env.scope.names X.N N' src=true:=by kernel_rfl)(hf:∀x,X.env.scope.names.lookup x=some .cell->∃c,X.env.cells.lookup x=some c:=by exact λx h=>Ax h):oO X N' scope (gU X.env.cells scope.names []) src:=.by hk hc hf
end
structure Txt(K:wa)(mg:Str->Option wf)(a:Ad):Prop where
 A4:Dn K mg "is_whole" C3 AF a.JX a.ID
 m9:Dn K mg "greatest_divisor" Fd tL a.GV a.GL
 sJ:Dn K mg "is_number" ET yI a.Jt a.HE
 gh:Dn K mg "plus" FA tE a.plus a.Kk
 pe:Dn K mg "minus" EJ zU a.minus a.JI
 kb:Dn K mg "times" Fh tY a.times a.J4
 Bh:Dn K mg "over" Gf yk a.over a.Kj
 gg:Dn K mg "less" BB yo a.less a.Kh
 Io:Dn K mg "is_factor" DY yg a.JC a.HA
 IZ:Dn K mg "is_shift" Ca yR a.JM a.Ig
 Iy:Dn K mg "make_rule" Ei yX a.JD a.HF
 Jp:Dn K mg "is_rule" CM AJ a.J5 a.Ji
 Bj:Dn K mg "bend" GA Ag a.KI a.Kf
 pb:Dn K mg "pushes" DB yw a.Kq a.Jz
 A3:Dn K mg "pushed_by" DT Aw a.Jr a.HC
 IL:Dn K mg "is_phase" Dr AR a.JH a.Iw
 HW:Dn K mg "are_phases" BH tZ a.IT a.Hq
 A8:Dn K mg "swarm_of" Di zD a.JJ a.H_
 A7:Dn K mg "greatest" FR uW a.JN a.Iu
 Jc:Dn K mg "worms_at" Gb tQ a.J0 a.Ij
 sP:Dn K mg "flocks" Fm Ay a.Kr a.JE
 A0:Dn K mg "at_the_end" DS As a.IP a.Hy
 sU:Dn K mg "glow" DH An a.nk a.Kc
 Jj:Dn K mg "history" BX zJ a.Kp a.Jd
 JT:Dn K mg "behind" Dm yF a.behind a.Jn
 A9:Dn K mg "is_laid" B3 Al a.J6 a.IU
 sW:Dn K mg "laid" Gn AG a.laid a.J9
 G7:Dn K mg "phases_behind" C9 yj a.Hi a.GY
 sR:Dn K mg "stands" BR zc a.sX a.Jv
 AY:Dn K mg "round_behind" Ex tK a.HK a.G4
 HB:Dn K mg "round_time" GI y9 a.IX a.Ho
 Bi:Dn K mg "tops" CZ zy a.iS a.Ko
 sO:Dn K mg "is_free" EX AH a.J7 a.Ja
 m_:Dn K mg "round_map" Cy zR a.Jy a.HN
 Bg:Dn K mg "still" Fo AB a.Ky a.JL
 A_:Dn K mg "weighed" C4 x_ a.Ke a.IV
 Bc:Dn K mg "led_on" B7 z5 a.Ku a.Jm
 G2:Dn K mg "rounds_behind" BK tI a.Hu a.GX
 GS:Dn K mg "sums_of_places" DL Ak a.He a.GR
 Hj:Dn K mg "rounds_time" BY uX a.Ir a.G_
 AX:Dn K mg "draws_freely" FV tP a.HQ a.G6
 HD:Dn K mg "stays_free" Fn AL a.Jf a.Hw
 Hv:Dn K mg "free_rounds" Gu AA a.Ic a.G9
 AW:Dn K mg "behind_rounds" BO zT a.Hg a.GZ
 HR:Dn K mg "behind_row" El yU a.IW a.Hh
 JB:Dn K mg "word_of" Et AN a.Kg a.IJ
 G5:Dn K mg "glows_to_join" Ep z_ a.Ht a.G1
 I0:Dn K mg "next_row" DC yD a.J3 a.Iq
 oY:Dn K mg "paper_of" Gj zK a.JG a.Ia
 sV:Dn K mg "fate" EZ uT a.KL a.Kl
 IH:Dn K mg "_law_cell" F9 uV a.JK a.HZ
 oZ:Dn K mg "_law_pen" ER zH a.J_ a.IG
 fL:Dn K mg "_law_draw" Cv u0 a.JY a.IC
 fM:Dn K mg "_law_low" Bw AO a.Km a.II
 gM:Dn K mg "_law_sum" Bo yO a.J8 a.IS
 j_:Dn K mg "_law_rest" F6 tT a.JV a.IA
 jy:Dn K mg "_law_product" Fb zO a.IE a.G8
 A5:Dn K mg "_law_part" Gp zf a.JP a.Ii
 nh:Dn K mg "_law_below" CL zY a.Js a.HJ
 oX:Dn K mg "_law_whole" Dy zu a.Jo a.HX
 AV:Dn K mg "_law_drawn_rule" Dw AK a.Hf a.GP
 AZ:Dn K mg "_law_pushes" BE z8 a.Jh a.Hx
 jz:Dn K mg "_law_round" Cs Am a.JF a.HU
 ng:Dn K mg "_law_power" C5 yT a.Jl a.HL
 oW:Dn K mg "_law_rests" Ec yf a.Ju a.HP
 sI:Dn K mg "_law_behind" DZ zN a.Jb a.Hs
 sN:Dn K mg "_law_free" DE tS a.JW a.Iz
 Jk:Dn K mg "_law_all" C8 zw a.Ki a.Je
 GO:Dn K mg "_law_drawn_phases" ES yW a.GU a.GK
 sM:Dn K mg "_law_high" Gq zh a.JS a.Ik
 HI:Dn K mg "_law_placed" Eg Ar a.IM a.Hl
 I_:Dn K mg "_law_glow" BG uJ a.JO a.Iv
 A6:Dn K mg "_law_laid" Bz yA a.JQ a.Ih
 IY:Dn K mg "_law_time" Er yC a.J1 a.Im
 Il:Dn K mg "_law_stand" FX uM a.Jx a.HY
 IK:Dn K mg "_law_word" BL yY a.JZ a.Ib
 Jg:Dn K mg "_law_lets" C7 yz a.JU a.Ip
 A1:Dn K mg "_law_lowest" Br u4 a.IF a.Hn
 HM:Dn K mg "_law_formed" Dd u5 a.IQ a.Hm
 Ie:Dn K mg "_law_paper" Fj zQ a.JA a.HS
 G3:Dn K mg "_law_fate_told" Gy zo a.Hz a.GW
 sL:Dn K mg "_law_right" Cb u7 a.Jq a.HG
 A2:Dn K mg "_law_start" Es uL a.Jw a.HH
 YV:Dn K mg "law" AQ yZ a.law a.Ks
 h0s:mg "abs"=none
 h0v:mg "all"=none
 h0o:mg "any"=none
 h0l:mg "bool"=none
 h0k:mg "dict"=none
 h0f:mg "enumerate"=none
 h0n:mg "int"=none
 h0c:mg "isinstance"=none
 h0t:mg "len"=none
 h0m:mg "list"=none
 h0p:mg "min"=none
 h0j:mg "range"=none
 h0q:mg "str"=none
 h0u:mg "sum"=none
 h0i:mg "tuple"=none
 h0r:mg "zip"=none
 YG:mg "NoStand"=some (.ref a.o_)
 Ba:mg "TooLong"=some (.ref a.fi)
 YF:VR K a.o_ pD "ValueError.__new__"=true
 aaa:qb K (.ref a.o_) (.ref a.fi)=some false
 YH:VR K a.fi pD "ValueError.__new__"=true
 GQ:qb K (.ref a.fi) (.ref a.fi)=some true
 d8:mg "NOUGHT"=some (.ref a.dD)
 fb:∀H:Hp,aT K H a.dD [.int 0,.int 1]
 fj:mg "ONE"=some (.ref a.d9)
 sZ:∀H:Hp,aT K H a.d9 [.int 1,.int 1]
 Yu:mg "GREATEST_FACTOR"=some (.ref a.AU)
 Yt:∀H:Hp,aT K H a.AU [.int 4,.int 1]
 Yw:∃t,mg "FACTOR_BOTTOM"=some (.int 8 t)
 Yx:∃t,mg "SHIFT_BOTTOM"=some (.int 12 t)
 Yz:∃t,mg "MOST_WORMS"=some (.int 8 t)
 Yy:∃t,mg "PHASE_BOTTOM"=some (.int 60 t)
 YB:∃t,mg "MOST_FREE"=some (.int 30 t)
end G
local macro_rules | `(term| ())=>`(term| by lia)
local macro_rules | `(term| ⋯)=>`(term| by decide)
local macro_rules | `(term| ∅)=>`(term| by simp)
open L2 GM in
local macro_rules | `(tactic| wtm_at "is")=>`(tactic| first
 | assumption
 | exact cc.mpr rfl
 | exact oM.mpr rfl
 | exact nv.mpr rfl
 | exact iF.mpr rfl
 | exact Is.Y7 (by assumption) (by wtm_at "same")
 | exact Is.YZ (by assumption) (by wtm_at "keep")
 | exact Is.kO (by assumption) (by wtm_at "keep")
 | ((with_reducible apply is_tupAt);(focus assumption);(focus wtm_at "isall");wtm_at "same")
 | ((with_reducible apply is_lstAt);(focus assumption);(focus wtm_at "isall");wtm_at "same")
 | ((with_reducible apply is_dctAt);(focus assumption);wtm_at "same")
 | exact eF 0 (G.Txt.fb (by assumption) _) rfl rfl | exact eF 1 (G.Txt.sZ (by assumption) _) rfl rfl | exact eF 4 (G.Txt.Yt (by assumption) _) rfl rfl
 | fail "is")
open L2 GM in
local macro_rules | `(tactic| wtm_at "isall")=>`(tactic| first
 | exact ah.nil
 | exact ah.cons (by wtm_at "is") (by wtm_at "isall")
 | fail "isall")
open L2 GM in
local macro_rules | `(tactic| wtm_at "ne")=>`(tactic| first
 | assumption
 | (apply WB;assumption))
open L2 GM in
local macro_rules | `(tactic| wtm_at "lst")=>`(tactic| first
 | assumption
 | exact ar.at (by assumption) (by wtm_at "lst")
 | exact Exc.at (by assumption) (by wtm_at "ne") (by wtm_at "lst")
 | fail "lst")
open L2 GM in
local macro_rules | `(tactic| wtm_at "same")=>`(tactic| first
 | assumption
 | exact ar.refl _
 | exact ar.back (by assumption) (by wtm_at "same")
 | fail "same")
open L2 GM in
local macro_rules | `(tactic| wtm_at "keep")=>`(tactic| first
 | assumption
 | exact a_.refl _
 | exact ar.keep (by assumption)
 | exact a_.back (by assumption) (by wtm_at "keep")
 | exact a_.back (ar.keep (by assumption)) (by wtm_at "keep")
 | fail "keep")
open L2 GM in
local macro_rules | `(tactic| wtm_at "exc")=>`(tactic| first
 | assumption
 | exact Exc.refl _ _
 | exact Exc.back (by assumption) (by wtm_at "exc")
 | exact Exc.back (ar.exc (by assumption)) (by wtm_at "exc")
 | fail "exc")
open L2 GM in
local macro_rules | `(tactic| wtm_at "sqf")=>`(tactic| first
 | assumption
 | exact a_.yu (by wtm_at "keep") (by assumption)
 | fail "sqf")
open L2 GM in
local macro_rules | `(tactic| wtm_at "bd")=>`(tactic| first
 | assumption
 | exact Bd.mk (n:=128) ⋯
 | exact Bd.mono (m:=128) ⟨by decide⟩ ⋯
 | exact af.t (by assumption)
 | exact af.b (by assumption)
 | exact Bd.kP () ()
 | (apply Bd.neg;wtm_at "bd")
 | (apply Bd.mul;(focus wtm_at "bd");wtm_at "bd")
 | (apply Bd.add;(focus wtm_at "bd");wtm_at "bd")
 | (apply Bd.sub;(focus wtm_at "bd");wtm_at "bd"))
open L2 GM PySem in
local macro_rules | `(tactic| wtm_at "mulok")=>`(tactic| first
 | exact Xr ⋯
 | exact XW ⋯
 | exact Xr (intBits_le_64 () ())
 | exact XW (intBits_le_64 () ())
 | (apply L2.Y0;(focus wtm_at "bd");(focus wtm_at "bd");(focus decide);decide))
open L2 GM PySem in
local macro_rules | `(tactic| wtm_at "side")=>`(tactic| first
 | assumption
 | decide
 | lia
 | wtm_at "mulok"
 | (refine And.intro ?_ ?_<;>wtm_at "side")
 | wtm_at "bd")
open L2 GM in
local macro_rules | `(tactic| wtm_at "gs")=>`(tactic| first
 | with_reducible (first | refine zEv ?_ | refine zEg ?_ | refine zC8 ?_ | refine zDb ?_ | refine zAW ?_)
 | ((with_reducible apply pX);(focus wtm_at "side"))
 | with_reducible (first | refine Zk ?_ | refine ZU ?_ | refine zCX ?_ | refine zCC ?_ | refine ZS ?_ | refine zC1 ?_ | refine nz ?_ | refine nV ?_)
 | with_reducible refine zAf (λ_=>?_) (λ_=>?_)
 | with_reducible refine zzP (λ_=>?_) (λ_=>?_)
 | with_reducible refine zyV (λ_=>?_) (λ_=>?_)
 | with_reducible refine zAZ (λ_=>?_) (λ_=>?_)
 | with_reducible (first | refine zCQ ?_ | refine zED ?_ | refine zDG ?_ | refine zBo ?_ | refine zBF ?_ | refine zC2 ?_ | refine zAD ?_ | refine Zy ?_ | refine zBj ?_ | refine zBL ?_ | refine zDj ?_ | refine zBr ?_ | refine zzY ?_ | refine zAw ?_ | refine zAC ?_)
 | ((with_reducible apply zBD);(focus wtm_at "is"))
 | ((with_reducible apply zAJ);(focus wtm_at "is"))
 | ((with_reducible apply j5);(focus(apply aE.of;wtm_at "lst"));(focus rfl))
 | ((with_reducible apply oy);(focus assumption);(focus rfl);intro hN eN lN;dsimp only[Int.reduceToNat,Xa,Xb]at lN)
 | ((with_reducible apply FP);(focus wtm_at "is"))
 | ((with_reducible apply zy4);(focus wtm_at "is"))
 | ((with_reducible apply zza);(focus wtm_at "is"))
 | dsimp only[Xa,Xb])
set_option hygiene false in
open L2 GM in
local macro_rules | `(tactic| wtm_at "sq")=>`(tactic| with_reducible refine zBy (λ tl_ htl_=>?_))
set_option hygiene false in
open L2 GM in
local macro_rules | `(tactic| wtm_at "tl")=>`(tactic| ((with_reducible refine u3.go (by assumption) ?_); (try clear htl_ tl_)))
open L2 GM in
local macro_rules | `(tactic| wtm_at "bdr0")=>`(tactic| first
 | assumption
 | exact af.zero
 | exact af.one
 | exact af.four
 | (apply af.add;(focus wtm_at "bdr0");wtm_at "bdr0")
 | (apply af.sub;(focus wtm_at "bdr0");wtm_at "bdr0")
 | (apply af.mul;(focus wtm_at "bdr0");wtm_at "bdr0"))
open L2 GM in
local macro_rules | `(tactic| wtm_at "bdr")=>`(tactic| first
 | assumption
 | (apply af.mono;(focus wtm_at "bdr0");(first | decide | lia)))
open L2 GM in
local macro_rules | `(tactic| wtm_at "ga1")=>`(tactic| first
 | wtm_at "gs"
 | ((with_reducible apply c6);(focus(simp only[Wa,Q6];decide));(focus wtm_at "isall");intro _ _ _ _)
 | ((with_reducible apply dC);(focus(simp only[Wa,Q6];decide));intro _ _ _ _ _)
 | ((with_reducible apply jV);(focus wtm_at "lst");(focus wtm_at "lst");(focus(simp only[wN,Wa,Q6];decide));intro _ _ _ _ _))
local macro_rules | `(tactic| wtm_at "ga")=>`(tactic| repeat' (first | wtm_at "ga1" | wtm_at "tl"))
local macro_rules | `(tactic| wtm_at "gg")=>`(tactic| repeat' (first | wtm_at "gs" | wtm_at "tl"))
local macro_rules | `(tactic| wtm_at "gt")=>`(tactic| repeat' (wtm_at "gs"))
open L2 GM in
local macro_rules | `(tactic| wtm_at "bd128")=>`(tactic| first
 | exact Bd.mono (m:=128) ⟨by decide⟩ ⋯
 | exact(Bd.kP () ()).mono ⋯)
open L2 GM in
local macro_rules | `(tactic| wtm_at "gs")=>`(tactic| first
 | with_reducible (first | refine zD1 ?_ | refine zwZ ?_ | refine zxx ?_ | refine zEN ?_ | refine zyz ?_ | refine zys ?_ | refine zzi ?_ | refine zzM ?_ | refine Le ?_ | refine zyi ?_ | refine zyC ?_ | refine ZF ?_ | refine zBC ?_ | refine zBg ?_ | refine zAe ?_ | refine zxj ?_ | refine ZL ?_ | refine zDO ?_ | refine zq8 ?_ | refine zx7 ?_ | refine zyk ?_)
 | with_reducible refine zAL (λ_ _ _ _=>?_)
 | with_reducible (first | refine zAx ?_ | refine zz9 ?_ | refine zCI ?_ | refine zyQ ?_ | refine zC0 ?_ | refine zy3 ?_ | refine Zi ?_ | refine zAm ?_ | refine zzx ?_)
 | ((with_reducible apply zw4);(focus wtm_at "is"))
 | ((with_reducible apply zBq);(focus wtm_at "is"))
 | ((with_reducible apply zxX);(focus wtm_at "is"))
 | ((with_reducible apply zAE);(focus wtm_at "is"))
 | ((with_reducible apply zAM);(focus wtm_at "is");intro _ _)
 | ((with_reducible apply zBb);(focus wtm_at "is");intro _ _)
 | ((with_reducible apply j5);(focus(apply aE.of;wtm_at "lst"));(focus rfl))
 | ((with_reducible apply zA2);(focus wtm_at "lst");(focus lia);(focus lia);intro _ _)
 | ((with_reducible apply tX);(focus wtm_at "is");(focus wtm_at "is"))
 | ((with_reducible apply zCD);(focus wtm_at "is");(focus wtm_at "is")))
open L2 GM in
local macro_rules | `(tactic| wtm_at "gs")=>`(tactic| first
 | wtm_at "sq"
 | with_reducible (first | refine zDN ?_ | refine zC3 ?_ | refine zCU ?_ | refine ZM ?_)
 | ((with_reducible apply zCV);(focus rfl))
 | with_reducible (first | refine zE1 ?_ | refine zA3 ?_ | refine zDs ?_ | refine zBl ?_ | refine zAq ?_ | refine Zz ?_ | refine zyR ?_))
local macro_rules | `(tactic| wtm_at "nm")=>`(tactic| exact ⟨rfl,by first | exact Or.inl rfl | exact Or.inr (Or.inl rfl) | exact Or.inr (Or.inr rfl),by decide,by decide⟩)
set_option hygiene false in
local macro_rules | `(tactic| wtm_at "b1")=>`(tactic| (focus (intro vs H Q E h; obtain ⟨_,rfl,_⟩:=h; rfl)); (intro cdv A outer s H vs Q E hr h; obtain ⟨x0,rfl,h⟩:=h; have hu:=hr.units))
set_option hygiene false in
local macro_rules | `(tactic| wtm_at "b2")=>`(tactic| (focus (intro vs H Q E h; obtain ⟨_,_,rfl,_⟩:=h; rfl)); (intro cdv A outer s H vs Q E hr h; obtain ⟨x0,x1,rfl,h⟩:=h; have hu:=hr.units))
set_option hygiene false in
local macro_rules | `(tactic| wtm_at "b3")=>`(tactic| (focus (intro vs H Q E h; obtain ⟨_,_,_,rfl,_⟩:=h; rfl)); (intro cdv A outer s H vs Q E hr h; obtain ⟨x0,x1,x2,rfl,h⟩:=h; have hu:=hr.units))
set_option hygiene false in
local macro_rules | `(tactic| wtm_at "b4")=>`(tactic| (focus (intro vs H Q E h; obtain ⟨_,_,_,_,rfl,_⟩:=h; rfl)); (intro cdv A outer s H vs Q E hr h; obtain ⟨x0,x1,x2,x3,rfl,h⟩:=h; have hu:=hr.units))
set_option hygiene false in
local macro_rules | `(tactic| wtm_at "b5")=>`(tactic| (focus (intro vs H Q E h; obtain ⟨_,_,_,_,_,rfl,_⟩:=h; rfl)); (intro cdv A outer s H vs Q E hr h; obtain ⟨x0,x1,x2,x3,x4,rfl,h⟩:=h; have hu:=hr.units))
set_option hygiene false in
local macro_rules | `(tactic| wtm_at "cl")=>`(tactic| ((clear hu); (try clear hgd); (first | dsimp only [jd,cxOfH] | dsimp only [jd] | skip)))
local macro_rules | `(tactic| k_few)=>`(tactic| wtm_at "gg")
local macro_rules | `(tactic| o_head $e)=>`(tactic| (wtm_at "gg"; refine $e))
namespace G
open PySem PySem.Spec PyProof.Rows L2 GM
section
variable{P:wH}{w:wM}{K:wa}{mg:Str->Option wf}{base:wJ}{a:Ad}
variable{H:Hp}{Q:VK}{E:XK}{d e:wD}{b ra rb x y:Rat}{ds:List wD}{i j k m n r:Nat}{ps ss xs:List Rat}{u:V}{α:Type}{left:List Nat}{p p1 q:we}{ns:List Int}{us:List V}{B t:Int}{es:List (Nat × Nat × Nat)}
def isInt:wD->Bool
 | .int _=>true
 | _=>false
def MP(K:wa):Sp:=λvs H Q _=>∃x0,vs=[x0] /\ ∃d,Is K H x0 d/\Q (.bl (isInt d)) H
theorem ztG{v:V}(h:Is K H v d)(q:Q (.bl (isInt d)) H):MP K [v] H Q E:=⟨v,rfl,d,h,q⟩
local macro_rules | `(tactic| wtm_at "gs")=>`(tactic| ((with_reducible apply ztG); (focus wtm_at "is")))
theorem OJ(T:Txt K mg a):aF P w K mg base aN 1 a.JX a.ID AF (MP K):=by
 refine T.A4.F.ok ZQ ?_ ?_;wtm_at "b1";refine⟨_,(av (aA (fJ (c7 (show bS _ (.builtin "isinstance") (eC K)from iC) rfl T.h0c ic (ae (pv 0) (ae (gJ (v:=.ty "int") rfl T.h0n Si rfl) ag))) (jg (m8 (c7 (show bS _ (.builtin "isinstance") (eC K)from iC) rfl T.h0c ic (ae (pv 0) (ae (gJ (v:=.ty "bool") rfl T.h0l OU rfl) ag)))))))),?_⟩;wtm_at "cl";rw[show start CQ [x0]=[some x0]from rfl];obtain⟨d,hd,q⟩:=h;k_few
 all_goals(cases d<;>simp_all [isInt,zt,Ap])
def Sn(K:wa):Sp:=λvs H Q _=>∃x0 x1,vs=[x0,x1] /\ ∃a b:Int,x0=.int a/\x1=.int b/\0<=a/\0<=b/\Q (.int (vA a b:Nat)) H
theorem pJ{a b:Int}(ha:0<=a)(hb:0<=b)(q:Q (.int (vA a b:Nat)) H):Sn K [.int a,.int b] H Q E:=⟨_,_,rfl,a,b,rfl,rfl,ha,hb,q⟩
theorem rL(T:Txt K mg a):aF P w K mg base aN 1 a.GV a.GL tL (Sn K):=by
 refine T.m9.F.ok Av ?_ ?_;wtm_at "b2"
 refine⟨_,(ai (lD w5 (hW K hu (pv 1) au) (ai (ay 2 Av.nd (aB gZ (pv 0) (pv 1)))
     (ai (ay 0 Av.nd (pv 1))
     (av (ay 1 Av.nd (pv 2))))))
     (av (aA (pv 0)))),?_⟩
 wtm_at "cl";rw[show start PF [x0,x1]=[some x0,some x1,none]from rfl];obtain⟨a',b',rfl,rfl,ha,hb,q⟩:=h;refine zDx ?_;refine UT (λσ H'=>∃(x y:Int)(r:Option V),σ = [some (.int x),some (.int y),r]/\0<=x/\0<=y/\vA x y=vA a' b'/\H'=H) (λσ=>(Rz σ 1).toNat) ⟨a',b',none,rfl,ha,hb,rfl,rfl⟩ ?_;rintro σ H' ⟨x,y,r,rfl,hx,hy,hg,rfl⟩;k_few
 . refine U7 ?_
   k_few;have h1:=Qc x (show y≠0 by assumption);have h2:=qC x (show 0<y by lia);refine⟨?_,_,_,_,rfl,hy,h1,?_,rfl⟩
   . show(x % y).toNat<y.toNat
     lia
   . rw[<- hg];exact OM () hx
 . rename_i h0
   subst h0
   have e:((vA a' b':Nat):Int)=x:=by
     rw[<- hg,Xc];lia
   rw[e]at q;exact q
def bV:wD->Bool
 | .tuple [.int p,.int q]=>gS p q
 | _=>false
theorem Ge(r:Rat):bV (N r)=true:=L6 r
theorem Z7(h:jr d=false):bV d=false:=by
 cases d<;>first | rfl | (simp[jr]at h)
theorem zu8(h:¬ ds.length=2):bV (.tuple ds)=false:=by
 match ds with
 | []=>rfl
 | [_]=>simp[bV]
 | [_,_]=>exact absurd rfl h
 | _::_::_::_=>simp[bV]
theorem zrs(h:isInt d=false):bV (.tuple [d,e])=false:=by
 cases d<;>first | rfl | (simp[isInt]at h)
theorem zpC(h:isInt e=false):bV (.tuple [d,e])=false:=by
 cases d<;>cases e<;>first | rfl | (simp[isInt]at h)
theorem Of : isInt d=true ↔ ∃i,d=.int i:=by cases d<;>simp[isInt]
def Oe(K:wa):Sp:=λvs H Q _=>∃x0,vs=[x0] /\ ∃d,Is K H x0 d/\Q (.bl (bV d)) H
theorem zqL{v:V}(h:Is K H v d)(q:Q (.bl (bV d)) H):Oe K [v] H Q E:=⟨v,rfl,d,h,q⟩
local macro_rules | `(tactic| wtm_at "gs")=>`(tactic| ((with_reducible apply zqL); (focus wtm_at "is")))
theorem Dc(T:Txt K mg a):aF P w K mg base aN 2 a.Jt a.HE yI (Oe K):=by
 refine T.sJ.F.ok zqQ ?_ ?_;wtm_at "b1"
 refine⟨_,(ai (aV (PW.pt (dq (cv (b_ (c7 (show bS _ (.builtin "isinstance") (eC K)from iC) rfl T.h0c ic (ae (pv 0) (ae (gJ (v:=.ty "tuple") rfl T.h0i k_ rfl) ag))))) (fc (hW K hu (c8 K T.h0t (q1 0)) au)))) (av (aA dX)) aX)
     (ai (aV (PW.pt (dq (cv (b_ (ak (OJ T) hr T.A4 (ae (qi 0) ag)))) (fc (cv (b_ (ak (OJ T) hr T.A4 (ae (qi 0) ag))))))) (av (aA dX)) aX)
     (av (aA (fJ (gP zg (qi 0) au (cQ _)) (jg (j7 K hu (ak (rL T) hr T.m9 (ae (c7 m5 rfl T.h0s mY (ae (qi 0) ag)) (ae (qi 0) ag))) au))))))),?_⟩
 wtm_at "cl";rw[show start Fw [x0]=[some x0]from rfl];obtain⟨d,hd,q⟩:=h;k_few
 . rename_i e
   rw[Z7 e]at q;exact q
 . rename_i e
   obtain⟨ds,rfl⟩:=UG.mp e;refine ly hd ?_;k_few
   . rename_i e
     rw[zu8 ()]at q;exact q
   . rename_i e
     obtain⟨d0,d1,rfl⟩:∃d0 d1,ds=[d0,d1]:=by
       match ds,e with
       | [d0,d1],_=>exact⟨d0,d1,rfl⟩
       | [],e=>simp at e
       | [_],e=>simp at e
       | _::_::_::_,e=>simp at e;lia
     refine aD (j:=0) hd rfl (λy0 h0=>?_);k_few
     . rename_i e
       rw[zrs e]at q;exact q
     . rename_i e0
       obtain⟨i,rfl⟩:=Of.mp e0;refine aD (j:=1) hd rfl (λy1 h1=>?_);k_few
       . rename_i e
         rw[zpC e]at q;exact q
       . rename_i e1
         obtain⟨j,rfl⟩:=Of.mp e1;refine aD (j:=1) hd rfl (λy2 h2=>?_);cases cc.mp h2;k_few
         . refine aD (j:=0) hd rfl (λy3 h3=>?_)
           cases cc.mp h3;o_head aD (j:=1) hd rfl (λy4 h4=>?_);cases cc.mp h4;o_head pJ (by split<;>lia) () ?_;k_few
           have e3:bV (.tuple [.int i,.int j])=decide ((vA (if i<0 then -i else i) j:Nat)=(1:Int)):=by
             have e4:vA (if i<0 then -i else i) j=vA i j:=by
               split<;>simp
             rw[e4]
             show gS i j=_
             rename_i e5;simp only[gS,e5,decide_true,qk];rw[vi,decide_eq_true_eq,decide_eq_true_eq];lia
           rw[e3]at q;exact q
         . rename_i e5
           have e3:bV (.tuple [.int i,.int j])=false:=by
             show gS i j=false
             simp only[gS,e5,decide_false,WW]
           rw[e3]at q;exact q
def KY(K:wa):Sp:=λvs H Q _=>∃x0 x1,vs=[x0,x1] /\ ∃(x y:Rat),Is K H x0 (N x)/\Is K H x1 (N y)/\af 8999 x/\af 8999 y/\Rs K H Q (N (x+y))
theorem R8{v w:V}(h1:Is K H v (N x))(h2:Is K H w (N y))(b1:af 8999 x)(b2:af 8999 y)(q:Rs K H Q (N (x+y))):KY K [v,w] H Q E:=⟨_,_,rfl,x,y,h1,h2,b1,b2,q⟩
local macro_rules | `(tactic| wtm_at "gs")=>`(tactic| ((with_reducible apply R8); (focus wtm_at "is"); (focus wtm_at "is"); (focus wtm_at "bdr"); (focus wtm_at "bdr"); intro _ _ _ _))
theorem gO(T:Txt K mg a):aF P w K mg base aN 2 a.plus a.Kk tE (KY K):=by
 refine T.gh.F.ok yc ?_ ?_;wtm_at "b2"
 refine⟨_,(ai (ay 2 yc.nd (ak (rL T) hr T.m9 (ae (qi 0) (ae (qi 1) ag))))
     (ai (ay 3 yc.nd (aB cB (aB cE (qi 0) (aB fe (qi 1) (pv 2))) (aB cE (qi 1) (aB fe (qi 0) (pv 2)))))
     (ai (ay 4 yc.nd (ak (rL T) hr T.m9 (ae (c7 m5 rfl T.h0s mY (q1 3)) (q1 2))))
     (av (aA (aQ (ae (aB fe (pv 3) (pv 4)) (ae (aB cE (aB fe (qi 0) (pv 2)) (aB fe (qi 1) (pv 4))) ag)))))))),?_⟩
 wtm_at "cl";rw[show start Pm [x0,x1]=[some x0,some x1,none,none,none]from rfl];obtain⟨x,y,hx,hy,⟨bx1,bx2⟩,⟨by1,by2⟩,q⟩:=h;have px:=den_pos x;have py:=den_pos y;have ps:=zm x y;have pd:=Cc x y;have c1:oF 0 (fB x y):=⟨by lia,sk bx2 (pC x y) px⟩;have c2:oF 0 (jF x y):=⟨by lia,sk (sk bx2 (pC x y) px) (Em x y) ps⟩;have f1:=mq by2 (yx x y) ps;have f2:=mq bx2 (pC x y) ps;have f3:=mq by2 (qh (Em x y) (yx x y)) pd;o_head pJ () () ?_;rw[show((vA (x.den:Int) (y.den:Int):Nat):Int)=fB x y from rfl];k_few;rw[show x.num*(y.den:Int).fdiv (fB x y)+y.num*(x.den:Int).fdiv (fB x y)=lT x y from rfl];o_head pJ (by split<;>lia) () ?_;rw[uQ,show((vA (lT x y) (fB x y):Nat):Int)=jF x y from rfl];k_few;exact cU (zAF x y) (zBn x y) q
def Tg(K:wa):Sp:=λvs H Q _=>∃x0 x1,vs=[x0,x1] /\ ∃(x y:Rat),Is K H x0 (N x)/\Is K H x1 (N y)/\af 8999 x/\af 8999 y/\Rs K H Q (N (x-y))
theorem zyj{v w:V}(h1:Is K H v (N x))(h2:Is K H w (N y))(b1:af 8999 x)(b2:af 8999 y)(q:Rs K H Q (N (x-y))):Tg K [v,w] H Q E:=⟨_,_,rfl,x,y,h1,h2,b1,b2,q⟩
local macro_rules | `(tactic| wtm_at "gs")=>`(tactic| ((with_reducible apply zyj); (focus wtm_at "is"); (focus wtm_at "is"); (focus wtm_at "bdr"); (focus wtm_at "bdr"); intro _ _ _ _))
theorem zC(T:Txt K mg a):aF P w K mg base aN 3 a.minus a.JI zU (Tg K):=by
 refine T.pe.F.ok zzN ?_ ?_;wtm_at "b2";refine⟨_,(av (aA (ak (gO T) hr T.gh (ae (pv 0) (ae (aQ (ae (fo fA (qi 1)) (ae (qi 1) ag))) ag))))),?_⟩;wtm_at "cl";rw[show start CT [x0,x1]=[some x0,some x1]from rfl];obtain⟨x,y,hx,hy,bx,by',q⟩:=h;o_head cU (r:=-y) ∅ ∅ (λv H' s hv=>?_);o_head R8 (by wtm_at "is") hv bx (zBm by') (λw H'' s2 hw=>?_);rw[zuA]at hw;k_few;exact q w H'' (s.trans s2) hw
def M7(K:wa):Sp:=λvs H Q _=>∃x0 x1,vs=[x0,x1] /\ ∃(x y:Rat),Is K H x0 (N x)/\Is K H x1 (N y)/\af 8999 x/\af 8999 y/\Rs K H Q (N (x*y))
theorem F_{v w:V}(h1:Is K H v (N x))(h2:Is K H w (N y))(b1:af 8999 x)(b2:af 8999 y)(q:Rs K H Q (N (x*y))):M7 K [v,w] H Q E:=⟨_,_,rfl,x,y,h1,h2,b1,b2,q⟩
local macro_rules | `(tactic| wtm_at "gs")=>`(tactic| ((with_reducible apply F_); (focus wtm_at "is"); (focus wtm_at "is"); (focus wtm_at "bdr"); (focus wtm_at "bdr"); intro _ _ _ _))
theorem zev(T:Txt K mg a):aF P w K mg base aN 2 a.times a.J4 tY (M7 K):=by
 refine T.kb.F.ok Fz ?_ ?_;wtm_at "b2"
 refine⟨_,(ai (ay 2 Fz.nd (ak (rL T) hr T.m9 (ae (c7 m5 rfl T.h0s mY (ae (qi 0) ag)) (ae (qi 1) ag))))
     (ai (ay 3 Fz.nd (ak (rL T) hr T.m9 (ae (c7 m5 rfl T.h0s mY (ae (qi 1) ag)) (ae (qi 0) ag))))
     (av (aA (aQ (ae (aB cE (aB fe (qi 0) (pv 2)) (aB fe (qi 1) (pv 3))) (ae (aB cE (aB fe (qi 0) (pv 3)) (aB fe (qi 1) (pv 2))) ag))))))),?_⟩
 wtm_at "cl";rw[show start Rp [x0,x1]=[some x0,some x1,none,none]from rfl];obtain⟨x,y,hx,hy,⟨bx1,bx2⟩,⟨by1,by2⟩,q⟩:=h;have px:=den_pos x;have py:=den_pos y;have p1:=oJ x y;have p2:=oJ y x;have c1:oF 0 (gm x y):=⟨by lia,sk by2 (nE x y) py⟩;have c2:oF 0 (gm y x):=⟨by lia,sk bx2 (nE y x) px⟩;have f1:=mq bx1 (w_ x y) p1;have f2:=mq by1 (w_ y x) p2;have f3:=mq bx2 (nE y x) p2;have f4:=mq by2 (nE x y) p1;o_head pJ (by split<;>lia) () ?_;rw[uQ,show((vA x.num (y.den:Int):Nat):Int)=gm x y from rfl];o_head pJ (by split<;>lia) () ?_;rw[uQ,show((vA y.num (x.den:Int):Nat):Int)=gm y x from rfl];k_few;exact cU (zAK x y) (zAG x y) q
def SG(K:wa):Sp:=λvs H Q _=>∃x0 x1,vs=[x0,x1] /\ ∃(x y:Rat),Is K H x0 (N x)/\Is K H x1 (N y)/\af 8999 x/\af 8999 y/\y≠0/\Rs K H Q (N (x / y))
theorem Lq{v w:V}(h1:Is K H v (N x))(h2:Is K H w (N y))(b1:af 8999 x)(b2:af 8999 y)(hy:y≠0)(q:Rs K H Q (N (x / y))):SG K [v,w] H Q E:=⟨_,_,rfl,x,y,h1,h2,b1,b2,hy,q⟩
theorem Mm(T:Txt K mg a):aF P w K mg base aN 3 a.over a.Kj yk (SG K):=by
 refine T.Bh.F.ok M9 ?_ ?_;wtm_at "b2"
 refine⟨_,(ai (aV (d5 K hu (qi 1) au) (av DJ) aX)
     (ai (ay 2 M9.nd (q_ (cY kx (qi 1) au (cQ _)) (aQ (ae (qi 1) (ae (qi 1) ag))) (aQ (ae (fo fA (qi 1)) (ae (fo fA (qi 1)) ag)))))
     (av (aA (ak (zev T) hr T.kb (q2 0 2)))))),?_⟩
 wtm_at "cl";rw[show start MG [x0,x1]=[some x0,some x1,none]from rfl];obtain⟨x,y,hx,hy,bx,by',hn,q⟩:=h;k_few
 . rename_i z
   exact absurd z (sD hn)
 . rename_i z0 z
   refine cU (r:=y⁻¹) (uZ z).1.symm (uZ z).2.symm (λv1 H1 S1 i1=>?_);o_head F_ (hx.by S1) i1 bx (PQ by' hn) (λv2 H2 S2 i2=>?_);rw[<- qU]at i2;k_few;exact q v2 H2 (S1.trans S2) i2
 . rename_i z0 z
   have z:y.num<0:=by lia
   refine cU (r:=y⁻¹) (zl z).1.symm (zl z).2.symm (λv1 H1 S1 i1=>?_);o_head F_ (hx.by S1) i1 bx (PQ by' hn) (λv2 H2 S2 i2=>?_);rw[<- qU]at i2;k_few;exact q v2 H2 (S1.trans S2) i2
def OK(K:wa):Sp:=λvs H Q _=>∃x0 x1,vs=[x0,x1] /\ ∃(x y:Rat),Is K H x0 (N x)/\Is K H x1 (N y)/\af 8999 x/\af 8999 y/\Q (.bl (decide (x<y))) H
theorem zBK{v w:V}(h1:Is K H v (N x))(h2:Is K H w (N y))(b1:af 8999 x)(b2:af 8999 y)(q:Q (.bl (decide (x<y))) H):OK K [v,w] H Q E:=⟨_,_,rfl,x,y,h1,h2,b1,b2,q⟩
local macro_rules | `(tactic| wtm_at "gs")=>`(tactic| ((with_reducible apply zBK); (focus wtm_at "is"); (focus wtm_at "is"); (focus wtm_at "bdr"); (focus wtm_at "bdr")))
theorem g9(T:Txt K mg a):aF P w K mg base aN 1 a.less a.Kh yo (OK K):=by
 refine T.gg.F.ok zAh ?_ ?_;wtm_at "b2";refine⟨_,(av (aA (gP jT (aB cE (qi 0) (qi 1)) (aB cE (qi 1) (qi 0)) (cQ _)))),?_⟩;wtm_at "cl";rw[show start EI [x0,x1]=[some x0,some x1]from rfl];obtain⟨x,y,hx,hy,⟨bx1,bx2⟩,⟨by1,by2⟩,q⟩:=h;k_few;rw[RN];exact q
def rC(x:Rat):Bool:=decide (0<x)&&(!decide (4<x))&&decide ((x.den:Int)<=8)
def UJ(K:wa):Sp:=λvs H Q _=>∃x0,vs=[x0] /\ ∃x:Rat,Is K H x0 (N x)/\af 4000 x/\Q (.bl (rC x)) H
theorem zrM{v:V}(h:Is K H v (N x))(b:af 4000 x)(q:Q (.bl (rC x)) H):UJ K [v] H Q E:=⟨_,rfl,x,h,b,q⟩
local macro_rules | `(tactic| wtm_at "gs")=>`(tactic| ((with_reducible apply zrM); (focus wtm_at "is"); (focus wtm_at "bdr")))
theorem zrc(T:Txt K mg a):aF P w K mg base aN 2 a.JC a.HA yg (UJ K):=by
 refine T.Io.F.ok zrm ?_ ?_;wtm_at "b1";refine⟨_,(av (aA (fJ (ak (g9 T) hr T.gg (ae (cj (v:=.ref a.dD) rfl T.d8 rfl) (q1 0))) (fJ (m8 (ak (g9 T) hr T.gg (ae (cj (v:=.ref a.AU) rfl T.Yu rfl) (q1 0)))) (jg (gP p_ (qi 0) (rJ rfl T.Yw) (cQ _))))))),?_⟩;wtm_at "cl";rw[show start B4 [x0]=[some x0]from rfl];obtain⟨x,hx,bx,q⟩:=h;unfold rC at q;k_few
 ·rename_i h1 h2
  rw[decide_eq_true h1,decide_eq_false h2]at q;exact q
 ·rename_i h1 h2
  rw[decide_eq_true h1,decide_eq_true h2]at q;exact q
 ·rename_i h1
  rw[decide_eq_false h1]at q;exact q
def rO(x:Rat):Bool:=(!decide (x<0))&&(!decide (1<x))&&decide ((x.den:Int)<=12)
def LP(K:wa):Sp:=λvs H Q _=>∃x0,vs=[x0] /\ ∃x:Rat,Is K H x0 (N x)/\af 4000 x/\Q (.bl (rO x)) H
theorem ztA{v:V}(h:Is K H v (N x))(b:af 4000 x)(q:Q (.bl (rO x)) H):LP K [v] H Q E:=⟨_,rfl,x,h,b,q⟩
local macro_rules | `(tactic| wtm_at "gs")=>`(tactic| ((with_reducible apply ztA); (focus wtm_at "is"); (focus wtm_at "bdr")))
theorem zsl(T:Txt K mg a):aF P w K mg base aN 2 a.JM a.Ig yR (LP K):=by
 refine T.IZ.F.ok zs8 ?_ ?_;wtm_at "b1";refine⟨_,(av (aA (fJ (m8 (ak (g9 T) hr T.gg (ae (pv 0) (ae (cj (v:=.ref a.dD) rfl T.d8 rfl) ag)))) (fJ (m8 (ak (g9 T) hr T.gg (ae (cj (v:=.ref a.d9) rfl T.fj rfl) (q1 0)))) (jg (gP p_ (qi 0) (rJ rfl T.Yx) (cQ _))))))),?_⟩;wtm_at "cl";rw[show start CD [x0]=[some x0]from rfl];obtain⟨x,hx,bx,q⟩:=h;unfold rO at q;k_few
 ·rename_i h1 h2
  rw[decide_eq_false h1,decide_eq_false h2]at q;exact q
 ·rename_i h1 h2
  rw[decide_eq_false h1,decide_eq_true h2]at q;exact q
 ·rename_i h1
  rw[decide_eq_true h1]at q;exact q
def m4(x y:Rat):Bool:=rC x&&rO y && !decide (x+y<1)
def C2(K:wa):Sp:=λvs H Q _=>∃x0 x1,vs=[x0,x1]/\((∃d e,Is K H x0 d/\Is K H x1 e/\(bV d&&bV e)=false/\Rq H Q (.bl false))\/(∃x y:Rat,Is K H x0 (N x)/\Is K H x1 (N y)/\af 1000 x/\af 1000 y/\Rq H Q (.bl (m4 x y))))
theorem Z9{v w:V}(h1:Is K H v d)(h2:Is K H w e)(n:(bV d&&bV e)=false)(q:Rq H Q (.bl false)):C2 K [v,w] H Q E:=⟨_,_,rfl,.inl ⟨d,e,h1,h2,n,q⟩⟩
theorem zrU{v w:V}(h1:Is K H v (N x))(h2:Is K H w (N y))(b1:af 1000 x)(b2:af 1000 y)(q:Rq H Q (.bl (m4 x y))):C2 K [v,w] H Q E:=⟨_,_,rfl,.inr ⟨x,y,h1,h2,b1,b2,q⟩⟩
theorem zrb(T:Txt K mg a):aF P w K mg base aN 3 a.JD a.HF yX (C2 K):=by
 refine T.Iy.F.ok zrl ?_ ?_;wtm_at "b2"
 refine⟨_,(ai (aV (PW.pt (dq (cv (b_ (ak (Dc T) hr T.sJ (q1 0)))) (fc (cv (b_ (ak (Dc T) hr T.sJ (q1 1))))))) (av (aA dX)) aX)
     (av (aA (fJ (ak (zrc T) hr T.Io (q1 0)) (fJ (ak (zsl T) hr T.IZ (q1 1)) (jg (m8 (ak (g9 T) hr T.gg (ae (ak (gO T) hr T.gh (q2 0 1)) (ae (cj (v:=.ref a.d9) rfl T.fj rfl) ag)))))))))),?_⟩
 wtm_at "cl";rw[show start Fu [x0,x1]=[some x0,some x1]from rfl];rcases h with⟨d,e,hd,he,hn,q⟩ | ⟨x,y,hx,hy,bx,by',q⟩
 . k_few
   . exact q _ (ar.refl _)
   . exact q _ (ar.refl _)
   . rename_i h1 h2
     exact absurd hn (by rw[h1,h2];decide)
 . unfold m4 at q
   k_few
   . rename_i z;rw[Ge]at z;cases z
   . rename_i z;rw[Ge]at z;cases z
   . rename_i h1 h2 v H' S hv
     rw[h1,h2]at q;exact q _ S
   . rename_i h1 h2
     rw[h1,h2]at q;exact q _ (ar.refl _)
   . rename_i h1
     rw[h1]at q;exact q _ (ar.refl _)
def Tt:wD->Bool
 | .tuple [d,e]=>!(bV d&&bV e)
 | _=>true
theorem Zl(h:Tt (.tuple [d,e])=true):(bV d&&bV e)=false:=by
 have h:(!(bV d&&bV e))=true:=h;cases z:(bV d&&bV e)with
 | false=>rfl
 | true=>rw[z]at h;exact absurd h ⋯
def OD(K:wa):Sp:=λvs H Q _=>∃x0,vs=[x0]/\((∃d,Is K H x0 d/\Tt d=true/\Rq H Q (.bl false))\/(∃x y:Rat,Is K H x0 (R x y)/\af 1000 x/\af 1000 y/\Rq H Q (.bl (m4 x y))))
theorem zvu{v:V}(h:Is K H v (R x y))(b1:af 1000 x)(b2:af 1000 y)(q:Rq H Q (.bl (m4 x y))):OD K [v] H Q E:=⟨_,rfl,.inr ⟨x,y,h,b1,b2,q⟩⟩
theorem zuZ(T:Txt K mg a):aF P w K mg base aN 4 a.J5 a.Ji AJ (OD K):=by
 refine T.Jp.F.ok zuj ?_ ?_;wtm_at "b1";refine⟨_,(av (aA (fJ (c7 (show bS _ (.builtin "isinstance") (eC K)from iC) rfl T.h0c ic (ae (pv 0) (ae (gJ (v:=.ty "tuple") rfl T.h0i k_ rfl) ag))) (fJ (j7 K hu (c8 K T.h0t (q1 0)) au) (jg (ak (zrb T) hr T.Iy (ae (qi 0) (ae (qi 0) ag)))))))),?_⟩;wtm_at "cl";rw[show start Dl [x0]=[some x0]from rfl];rcases h with⟨d,hd,hn,q⟩ | ⟨x,y,hr,bx,by',q⟩
 ·k_few
  ·rename_i e
   obtain⟨ds,rfl⟩:=UG.mp e;refine ly hd ?_;k_few
   ·rename_i e
    obtain⟨d0,d1,rfl⟩:∃d0 d1,ds=[d0,d1]:=by
     match ds,e with
     | [d0,d1],_=>exact⟨d0,d1,rfl⟩
     | [],e=>simp at e
     | [_],e=>simp at e
     | _::_::_::_,e=>simp at e;lia
    refine aD (j:=0) hd rfl (λy0 h0=>?_);o_head aD (j:=1) hd rfl (λy1 h1=>?_);o_head Z9 h0 h1 (Zl hn) (λH' S=>?_);k_few;exact q _ S
   ·exact q _ (ar.refl _)
  ·exact q _ (ar.refl _)
 ·k_few
  refine zrU (by assumption) (by assumption) bx by' (λH' S=>?_);k_few;exact q _ S
def pW(x:Rat):Str:=if 1<x then "rising" else if x=1 then "even" else "falling"
def NX(K:wa):Sp:=λvs H Q _=>∃x0,vs=[x0] /\ ∃x y:Rat,Is K H x0 (R x y)/\af 4000 x/\Q (.str (pW x)) H
theorem Uv{v:V}(h:Is K H v (R x y))(b:af 4000 x)(q:Q (.str (pW x)) H):NX K [v] H Q E:=⟨_,rfl,x,y,h,b,q⟩
theorem P0(T:Txt K mg a):aF P w K mg base aN 2 a.KI a.Kf Ag (NX K):=by
 refine T.Bj.F.ok zA4 ?_ ?_;wtm_at "b1"
 refine⟨_,(ai (aV (b_ (ak (g9 T) hr T.gg (ae (cj (v:=.ref a.d9) rfl T.fj rfl) (ae (qi 0) ag)))) (av (aA fP)) aX)
     (ai (aV (d5 K hu (qi 0) (cj (v:=.ref a.d9) rfl T.fj rfl)) (av (aA fP)) aX)
     (av (aA fP)))),?_⟩
 wtm_at "cl";rw[show start FD [x0]=[some x0]from rfl];obtain⟨x,y,hx,bx,q⟩:=h;unfold pW at q;k_few
 . rename_i h1
   rw[if_pos h1]at q;exact q
 . rename_i h1 _ _ h2
   rw[if_neg h1,if_pos h2]at q;exact q
 . rename_i h1 _ _ h2
   rw[if_neg h1,if_neg h2]at q;exact q
def DR(K:wa):Sp:=λvs H Q _=>∃x0 x1,vs=[x0,x1] /\ ∃(a b:Rat)(n:Int),x1=.int n/\Is K H x0 (R a b)/\af 4000 a/\af 4000 b/\0<=n/\n<=64/\(∀i,i<=n.toNat->af 4000 (a^i))/\(∀i,i<=n.toNat->af 4000 (aC a b i))/\Rs K H Q (R (a^n.toNat) (aC a b n.toNat))
theorem Mw{a:Rat}{n:Int}{v:V}(h1:Is K H v (R a b))(b1:af 4000 a)(b2:af 4000 b)(h0:0<=n)(h64:n<=64)(f1:∀i,i<=n.toNat->af 4000 (a^i))(f2:∀i,i<=n.toNat->af 4000 (aC a b i))(q:Rs K H Q (R (a^n.toNat) (aC a b n.toNat))):DR K [v,.int n] H Q E:=⟨_,_,rfl,a,b,n,rfl,h1,b1,b2,h0,h64,f1,f2,q⟩
theorem Dh{a:Rat}{n:Int}{v:V}(h1:Is K H v (R a b))(b1:af 10 a)(b2:af 10 b)(h0:0<=n)(h64:n<=64)(q:Rs K H Q (R (a^n.toNat) (aC a b n.toNat))):DR K [v,.int n] H Q E :=
 Mw h1 (b1.mono ⋯) (b2.mono ⋯) h0 h64 (λi hi=>(b1.pow i).mono ()) (λi hi=>(b1.aC b2 i).mono ()) q
theorem zF(T:Txt K mg a):aF P w K mg base aN 3 a.Kq a.Jz yw (DR K):=by
 refine T.pb.F.ok oH ?_ ?_;wtm_at "b2"
 refine⟨_,(ai (ay 2 oH.nd (cj (v:=.ref a.d9) rfl T.fj rfl))
     (ai (ay 3 oH.nd (cj (v:=.ref a.dD) rfl T.d8 rfl))
     (ai (d6 w5 rfl (fC rfl T.h0j (q1 1)) (cT (i:=4) oH.nd rfl (Or.inl rfl)) (ai (ay 2 oH.nd (ak (zev T) hr T.kb (ae (qi 0) (q1 2))))
     (av (ay 3 oH.nd (ak (gO T) hr T.gh (ae (ak (zev T) hr T.kb (ae (qi 0) (q1 3))) (ae (qi 0) ag)))))))
     (av (aA (aQ (q2 2 3))))))),?_⟩
 wtm_at "cl";rw[show start O8 [x0,x1]=[some x0,some x1,none,none,none]from rfl];obtain⟨r,s',n,rfl,hr',ba,bb,h0,h64,f1,f2,q⟩:=h;o_head iX (n:=n) () () (λi σ H'=>∃(f g:V)(o:Option V),σ = [some x0,some (.int n),some f,some g,o]/\ar H H'/\Is K H' f (N (r^i))/\Is K H' g (N (aC r s' i))) ⟨_,_,_,rfl,ar.refl H,by rw[V5];exact mE.mpr ⟨_,rfl,T.sZ H⟩,mE.mpr ⟨_,rfl,T.fb H⟩⟩ ?_ ?_
 . rintro i σ H' hi ⟨f,g,o,rfl,S1,hf,hg⟩
   have hr1:=hr'.by S1;have bf:af 4000 (r^i):=f1 i ();have bg:af 4000 (aC r s' i):=f2 i ();have bg2:af 8999 (r*aC r s' i):=(ba.mul bg).mono ⋯;o_head ⟨_,_,_,rfl,S1.trans (ar.trans (by assumption) (ar.trans (by assumption) (by assumption))),?_,?_⟩
   . rw[WP,VM]
     wtm_at "is"
   . wtm_at "is"
 . rintro σ H' ⟨f,g,o,rfl,S1,hf,hg⟩
   wtm_at "ga";exact q _ _ (S1.trans (by assumption)) (by assumption)
def Yj(K:wa):Sp:=λvs H Q _=>∃x0 x1,vs=[x0,x1] /\ ∃(f g x:Rat),Is K H x0 (R f g)/\Is K H x1 (N x)/\af 700 f/\af 1500 g/\af 8100 x/\Rs K H Q (N (f*x+g))
theorem Ta{f g:Rat}{v w:V}(h1:Is K H v (R f g))(h2:Is K H w (N x))(b1:af 700 f)(b2:af 1500 g)(b3:af 8100 x)(q:Rs K H Q (N (f*x+g))):Yj K [v,w] H Q E:=⟨_,_,rfl,f,g,x,h1,h2,b1,b2,b3,q⟩
theorem TJ(T:Txt K mg a):aF P w K mg base aN 3 a.Jr a.HC Aw (Yj K):=by
 refine T.A3.F.ok zr6 ?_ ?_;wtm_at "b2";refine⟨_,(av (aA (ak (gO T) hr T.gh (ae (ak (zev T) hr T.kb (ae (qi 0) (q1 1))) (ae (qi 0) ag))))),?_⟩;wtm_at "cl";rw[show start Ey [x0,x1]=[some x0,some x1]from rfl];obtain⟨f,g,x,hp,hx,bf,bg,bx,q⟩:=h;k_few;rename_i hz;exact q _ _ (ar.trans (by assumption) (by assumption)) hz
def uY(K:wa):Sp:=λvs H Q _=>∃x0,vs=[x0]/\((∃d,Is K H x0 d/\bV d=false/\Q (.bl false) H)\/(∃x:Rat,Is K H x0 (N x)/\af 4000 x/\Q (.bl (ki x)) H))
theorem zrF{v:V}(h:Is K H v d)(n:bV d=false)(q:Q (.bl false) H):uY K [v] H Q E:=⟨_,rfl,.inl ⟨d,h,n,q⟩⟩
theorem ztM{v:V}(h:Is K H v (N x))(b:af 4000 x)(q:Q (.bl (ki x)) H):uY K [v] H Q E:=⟨_,rfl,.inr ⟨x,h,b,q⟩⟩
theorem zsJ(T:Txt K mg a):aF P w K mg base aN 3 a.JH a.Iw AR (uY K):=by
 refine T.IL.F.ok ZG ?_ ?_;wtm_at "b1"
 refine⟨_,(ai (aV (PW.pt (dq (cv (b_ (ak (Dc T) hr T.sJ (q1 0)))) (fc (b_ (ak (g9 T) hr T.gg (ae (pv 0) (ae (cj (v:=.ref a.dD) rfl T.d8 rfl) ag))))))) (av (aA dX)) aX)
     (av (aA (fJ (ak (g9 T) hr T.gg (ae (pv 0) (ae (cj (v:=.ref a.d9) rfl T.fj rfl) ag))) (jg (gP p_ (qi 0) (rJ rfl T.Yy) (cQ _))))))),?_⟩
 wtm_at "cl";rw[show start FQ [x0]=[some x0]from rfl];rcases h with⟨d,hd,hn,q⟩ | ⟨x,hx,bx,q⟩
 . k_few
   . exact q
   . rename_i e;rw[hn]at e;cases e
 . unfold ki at q
   k_few
   . rename_i z;rw[Ge]at z;cases z
   . rename_i h1
     rw[decide_eq_true h1]at q;exact q
   . rename_i h1 h2
     rw[decide_eq_false h1,decide_eq_true h2]at q;exact q
   . rename_i h1 h2
     rw[decide_eq_false h1,decide_eq_false h2]at q;exact q
def fV:wD->Bool
 | .tuple [.int p,.int q]=>gS p q&&ki (wu p q)
 | _=>false
theorem MK(x:Rat):fV (N x)=ki x:=by
 show(gS x.num x.den&&ki (wu x.num x.den))=ki x
 rw[L6,WY,qk]
theorem zvh(h:bV d=true):∃x:Rat,d=N x:=by
 match d with
 | .tuple [.int p,.int q] =>
  obtain⟨r,e1,e2⟩:=zqH (show gS p q=true from h);exact⟨r,by rw[e1,e2];rfl⟩
 | .none=>simp[bV]at h
 | .bool _=>simp[bV]at h
 | .int _=>simp[bV]at h
 | .str _=>simp[bV]at h
 | .list _=>simp[bV]at h
 | .dict _=>simp[bV]at h
 | .tuple []=>simp[bV]at h
 | .tuple [_]=>simp[bV]at h
 | .tuple (_::_::_::_)=>simp[bV]at h
 | .tuple [.none,_]=>simp[bV]at h
 | .tuple [.bool _,_]=>simp[bV]at h
 | .tuple [.str _,_]=>simp[bV]at h
 | .tuple [.tuple _,_]=>simp[bV]at h
 | .tuple [.list _,_]=>simp[bV]at h
 | .tuple [.dict _,_]=>simp[bV]at h
 | .tuple [.int _,.none]=>simp[bV]at h
 | .tuple [.int _,.bool _]=>simp[bV]at h
 | .tuple [.int _,.str _]=>simp[bV]at h
 | .tuple [.int _,.tuple _]=>simp[bV]at h
 | .tuple [.int _,.list _]=>simp[bV]at h
 | .tuple [.int _,.dict _]=>simp[bV]at h
theorem zBN(h:bV d=false):fV d=false:=by
 unfold fV
 split
 ·rename_i p q
  rw[show gS p q=false from h];rfl
 ·rfl
theorem RY{v:V}(h:Is K H v d)(b:∀x,d=N x->af 4000 x)(q:Q (.bl (fV d)) H):uY K [v] H Q E:=by
 cases e:bV d with
 | false=>rw[zBN e]at q;exact zrF h e q
 | true =>
  obtain⟨x,rfl⟩:=zvh e;rw[MK]at q;exact ztM h (b x rfl) q
def Ua(K:wa):Sp:=λvs H Q _=>∃x0,vs=[x0]/\((∃d,Is K H x0 d/\(kX d || jr d)=false/\Rq H Q (.bl false))\/(∃ds,(Is K H x0 (.list ds)\/Is K H x0 (.tuple ds))/\(∀e∈ds,∀x,e=N x->af 4000 x)/\Rq H Q (.bl (decide (1<=ds.length)&&decide (ds.length<=8)&&ds.all fV))))
theorem Z3{v:V}(h:Is K H v (.list ds)\/Is K H v (.tuple ds))(b:∀e∈ds,∀x,e=N x->af 4000 x)(q:Rq H Q (.bl (decide (1<=ds.length)&&decide (ds.length<=8)&&ds.all fV))):Ua K [v] H Q E:=⟨_,rfl,.inr ⟨ds,h,b,q⟩⟩
theorem zpm(T:Txt K mg a):aF P w K mg base aN 4 a.IT a.Hq tZ (Ua K):=by
 refine T.HW.F.ok zpk ?_ ?_;wtm_at "b1"
 refine⟨_,(ai (aV (PW.pt (dq (cv (b_ (c7 (show bS _ (.builtin "isinstance") (Cp K)from zuO) rfl T.h0c ic (ae (pv 0) (ae (aQ (ae (gJ (v:=.ty "list") rfl T.h0m gT rfl) (ae (gJ (v:=.ty "tuple") rfl T.h0i k_ rfl) ag))) ag))))) (fc (cv (Zn p_ p_ au (c8 K T.h0t (q1 0)) (rJ rfl T.Yz)))))) (av (aA dX)) aX)
     (av (aA (c7 (show bS _ (.builtin "all") (oS K)from tF rfl) rfl T.h0v u_ (ae (dH rfl (cP ["one"] [none]) (D_ (pv 0)) (λ_ _ _ _ _=>(cq 0)) (λ_ _ _ _ _=>dF) (λ_ _ _ _ _=>(ak (zsJ (K:=K) (mg:=mg) (a:=a) T) hr T.IL (q1 0)))) ag))))),?_⟩
 wtm_at "cl";rw[show start DA [x0]=[some x0]from rfl];rcases h with⟨d,hd,hn,q⟩ | ⟨ds,hd,bd,q⟩
 . k_few
   refine ox ∅ (λtp H1 _ S1 e1=>?_);o_head CA (hd.by S1) e1 ?_;rw[hn];k_few;exact q H1 S1
 . rcases hd with hd | hd
   . k_few
     refine ox ∅ (λtp H1 _ S1 e1=>?_);o_head CA (hd.by S1) e1 ?_;rw[show(kX (.list ds) || jr (.list ds))=true from rfl];obtain⟨ap,us,rfl,hs,tu⟩:=ck.mp (hd.by S1);have hul:=tu.length;o_head gG hs ?_;rw[hul];k_few
     . rename_i z0 z
       have:=q H1 S1;rw[decide_eq_false (show ¬ ds.length<=8 by lia),ul,WW]at this;exact this
     . rename_i z0 z
       have h1:1<=ds.length:=by lia
       have h8:ds.length<=8:=by lia
       refine .inl (kB (o0:=none) (tl:=[]) hs rfl (λj y H'=>y=.bl (fV (ds.getD j .none))) ?_ ?_)
       . intro D i x ys o H2 hx inv
         obtain⟨hi,ix⟩:=kU tu hx;o_head RY (ix.by inv.same) (λx e=>bd _ (getD_mem hi) x e) ?_;k_few;exact dQ inv () (λ_ _ _ _ _ z=>z) ⟨_,rfl⟩ (ar.refl _) rfl
       . intro D ys H2 hn S2 hD hl hr
         have hys:ys=(ds.map fV).map V.bl:=by
           refine Vb (by rw[hl,hul,wl,wl]) λj h1 h2=>?_
           have:=hr j ys[j] (wc h1);rw[this,Vc,Vc,wb,wc]
           rfl
         subst hys;o_head rF (.of hD) ?_;k_few;have e:(ds.map fV).all id=ds.all fV:=by rw[x5];rfl
         have:=q H2 (S1.trans S2);rw[decide_eq_true h1,decide_eq_true h8,<- e]at this;exact this
     . rename_i z
       have:=q H1 S1;rw[decide_eq_false (show ¬ 1<=ds.length by lia),WW,WW]at this;exact this
   . k_few
     refine ox ∅ (λtp H1 _ S1 e1=>?_);o_head CA (hd.by S1) e1 ?_;rw[show(kX (.tuple ds) || jr (.tuple ds))=true from rfl];obtain⟨ap,us,rfl,hs,tu⟩:=bY.mp (hd.by S1);have hul:=tu.length;o_head CI hs ?_;rw[hul];k_few
     . rename_i z0 z
       have:=q H1 S1;rw[decide_eq_false (show ¬ ds.length<=8 by lia),ul,WW]at this;exact this
     . rename_i z0 z
       have h1:1<=ds.length:=by lia
       have h8:ds.length<=8:=by lia
       refine .inr (jw (o0:=none) (tl:=[]) hs rfl (λj y H'=>y=.bl (fV (ds.getD j .none))) ?_ ?_)
       . intro D i x ys o H2 hx inv
         obtain⟨hi,ix⟩:=kU tu hx;o_head RY (ix.by inv.same) (λx e=>bd _ (getD_mem hi) x e) ?_;k_few;exact dQ inv () (λ_ _ _ _ _ z=>z) ⟨_,rfl⟩ (ar.refl _) rfl
       . intro D ys H2 hn S2 hD hl hr
         have hys:ys=(ds.map fV).map V.bl:=by
           refine Vb (by rw[hl,hul,wl,wl]) λj h1 h2=>?_
           have:=hr j ys[j] (wc h1);rw[this,Vc,Vc,wb,wc]
           rfl
         subst hys;o_head rF (.of hD) ?_;k_few;have e:(ds.map fV).all id=ds.all fV:=by rw[x5];rfl
         have:=q H2 (S1.trans S2);rw[decide_eq_true h1,decide_eq_true h8,<- e]at this;exact this
     . rename_i z
       have:=q H1 S1;rw[decide_eq_false (show ¬ 1<=ds.length by lia),WW,WW]at this;exact this
theorem zxm{a:Rat}(h:aR a b):m4 a b=true:=by
 obtain⟨h1,h2,h3,h4,h5,h6,h7⟩:=h;have k2:¬ (4:Rat)<a:=Vi.mpr h2;have k4:¬ b<0:=Vi.mpr h4;have k5:¬ (1:Rat)<b:=Vi.mpr h5;have k7:¬ a+b<1:=Vi.mpr h7;have k3:(a.den:Int)<=8:=by lia
 have k6:(b.den:Int)<=12:=by lia
 simp[m4,rC,rO,h1,k2,k3,k4,k5,k6,k7]
theorem zCJ(h:∀x∈xs,fh x):(xs.map N).all fV=true:=by
 rw[Wc];intro d hd;obtain⟨x,hx,rfl⟩:=wR.mp hd;rw[MK];exact(h x hx).is
theorem zAA(h:∀x∈xs,fh x):∀e∈xs.map N,∀x,e=N x->af 4000 x:=by
 intro e he x hx;obtain⟨y,hy,rfl⟩:=wR.mp he;rw[<- zDV hx];exact(h y hy).dM.mono ⋯
def Rw(K:wa):Sp:=λvs H Q _=>∃x0 x1,vs=[x0,x1] /\ ∃(a b:Rat)(xs:List Rat),Is K H x0 (R a b)/\aR a b/\(Is K H x1 (LN xs)\/Is K H x1 (TN xs))/\1<=xs.length/\xs.length<=8/\(∀x∈xs,fh x)/\Rs K H Q (aY a b xs)
theorem OX{a:Rat}{v w:V}(h1:Is K H v (R a b))(ok:aR a b)(h2:Is K H w (LN xs)\/Is K H w (TN xs))(h3:1<=xs.length)(h4:xs.length<=8)(h5:∀x∈xs,fh x)(q:Rs K H Q (aY a b xs)):Rw K [v,w] H Q E:=⟨_,_,rfl,a,b,xs,h1,ok,h2,h3,h4,h5,q⟩
theorem OQ(T:Txt K mg a):aF P w K mg base aN 5 a.JJ a.H_ zD (Rw K):=by
 refine T.A8.F.ok zsk ?_ ?_;wtm_at "b2"
 refine⟨_,(ai (aV (cv (b_ (ak (zuZ T) hr T.Jp (q1 0)))) (av DJ) aX)
     (ai (aV (cv (b_ (ak (zpm T) hr T.HW (q1 1)))) (av DJ) aX)
     (av (aA (aQ (ae (pv 0) (ae (eQ K T.h0i (q1 1)) ag))))))),?_⟩
 wtm_at "cl";rw[show start FU [x0,x1]=[some x0,some x1]from rfl];obtain⟨ra,rb,xs,hr,ok,hp,h1,h8,hph,q⟩:=h;o_head zvu hr (ok.ba.mono ⋯) (ok.bb.mono ⋯) (λH1 S1=>?_);rw[zxm ok];k_few;have hp1:Is K H1 x1 (LN xs)\/Is K H1 x1 (TN xs):=hp.imp (λz=>z.by S1) (λz=>z.by S1);refine Z3 (ds:=xs.map N) hp1 (zAA hph) (λH2 S2=>?_);rw[zCJ hph,wl,decide_eq_true h1,decide_eq_true h8,show(true&&true&&true)=true from rfl];have hp2:Is K H2 x1 (LN xs)\/Is K H2 x1 (TN xs):=hp1.imp (λz=>z.by S2) (λz=>z.by S2);have hr2:Is K H2 x0 (R ra rb):=(hr.by S1).by S2;k_few;rcases hp2 with z | z
 . refine fR z (λw H3 S3 i3=>?_)
   o_head c6 (ds:=[R ra rb,TN xs]) ∅ (.cons (hr2.by S3) (.cons i3 .nil)) (λv H4 S4 i4=>?_);exact q v H4 (S1.trans (S2.trans (S3.trans S4))) i4
 . refine N9 z ?_
   o_head c6 (ds:=[R ra rb,TN xs]) ∅ (.cons hr2 (.cons z .nil)) (λv H4 S4 i4=>?_);exact q v H4 (S1.trans (S2.trans S4)) i4
def LJ(K:wa):Sp:=λvs H Q _=>∃x0,vs=[x0] /\ ∃xs:List Rat,(Is K H x0 (LN xs)\/Is K H x0 (TN xs))/\1<=xs.length/\(∀i,af 4000 (xs.getD i 0)) /\ ∀v,Is K H v (N (aU xs))->Q v H
theorem Lf{v:V}(h:Is K H v (LN xs)\/Is K H v (TN xs))(h1:1<=xs.length)(b:∀i,af 4000 (xs.getD i 0))(q:∀v,Is K H v (N (aU xs))->Q v H):LJ K [v] H Q E:=⟨_,rfl,xs,h,h1,b,q⟩
theorem Ln(T:Txt K mg a):aF P w K mg base aN 2 a.JN a.Iu uW (LJ K):=by
 refine T.A7.F.ok y_ ?_ ?_;wtm_at "b1"
 refine⟨_,(ai (ay 1 y_.nd (qi 0))
     (ai (d6 w5 rfl (D_ (pv 0)) (cT (i:=2) y_.nd rfl (Or.inl rfl)) (av (aV (b_ (ak (g9 T) hr T.gg (q2 1 2))) (av (ay 1 y_.nd (pv 2))) aX)))
     (av (aA (pv 1))))),?_⟩
 wtm_at "cl";rw[show start Yg [x0]=[some x0,none,none]from rfl];obtain⟨xs,hx,h1,bx,q⟩:=h;rcases hx with hx | hx
 . obtain⟨ap,us,rfl,hs,tu⟩:=ck.mp hx
   have hul:us.length=xs.length:=by rw[tu.length,wl]
   o_head gL hx ⋯ () (λv0 i0=>?_);have i0:Is K H v0 (N (mx (xs.getD 0 0) [])):=i0;o_head .inl (lF hs (λi σ H'=>∃o v,σ = [some (.ref ap),some v,o]/\H'=H/\Is K H v (N (mx (xs.getD 0 0) (xs.take i)))) ⟨_,v0,rfl,rfl,by rw[Qp];exact i0⟩ (λi σ H' _ h=>by obtain⟨_,_,_,rfl,_⟩:=h;exact hs) ?_ ?_)
   . rintro i x σ H' hx' ⟨o,v,rfl,rfl,iv⟩
     obtain⟨hi,ix⟩:=cg tu hx';have b1:=yd bx h1 i;have b2:=bx i;k_few
     . rename_i z
       exact⟨_,x,rfl,rfl,by rw[fO hi,me,if_pos z];exact ix⟩
     . rename_i z
       exact⟨_,v,rfl,rfl,by rw[fO hi,me,if_neg z];exact iv⟩
   . rintro σ H' ⟨o,v,rfl,rfl,iv⟩
     rw[hul,Wb]at iv;k_few;exact q v iv
 . obtain⟨ap,us,rfl,hs,tu⟩:=bY.mp hx
   have hul:us.length=xs.length:=by rw[tu.length,wl]
   o_head ym hx ⋯ () (λv0 i0=>?_);have i0:Is K H v0 (N (mx (xs.getD 0 0) [])):=i0;o_head .inr (Ys hs (λi σ H'=>∃o v,σ = [some (.ref ap),some v,o]/\H'=H/\Is K H v (N (mx (xs.getD 0 0) (xs.take i)))) ⟨_,v0,rfl,rfl,by rw[Qp];exact i0⟩ (λi σ H' _ h=>by obtain⟨_,_,_,rfl,_⟩:=h;exact hs) ?_ ?_)
   . rintro i x σ H' hx' ⟨o,v,rfl,rfl,iv⟩
     obtain⟨hi,ix⟩:=cg tu hx';have b1:=yd bx h1 i;have b2:=bx i;k_few
     . rename_i z
       exact⟨_,x,rfl,rfl,by rw[fO hi,me,if_pos z];exact ix⟩
     . rename_i z
       exact⟨_,v,rfl,rfl,by rw[fO hi,me,if_neg z];exact iv⟩
   . rintro σ H' ⟨o,v,rfl,rfl,iv⟩
     rw[hul,Wb]at iv;k_few;exact q v iv
def NL(K:wa):Sp:=λvs H Q _=>∃x0 x1,vs=[x0,x1] /\ ∃(xs:List Rat)(v:Rat),Is K H x0 (TN xs)/\Is K H x1 (N v)/\xs.length<=900 /\ ∀u H',ar H H'->Is K H' u (TW (eI xs v))->Q u H'
theorem zud{v:Rat}{w:V}(h1:Is K H w (TN xs))(h2:Is K H u (N v))(hl:xs.length<=900)(q:∀u H',ar H H'->Is K H' u (TW (eI xs v))->Q u H'):NL K [w,u] H Q E:=⟨_,_,rfl,xs,v,h1,h2,hl,q⟩
theorem zsj(T:Txt K mg a):aF P w K mg base aN 1 a.J0 a.Ij tQ (NL K):=by
 refine T.Jc.F.ok Z6 ?_ ?_;wtm_at "b2";refine⟨_,(av (aA (eQ K T.h0i (ae (dH rfl (cP ["worm","own","phase"] [none,none,some 1]) (Me rfl T.h0f (q1 0)) (λ_ _ _ _ _=>by exact(show PG _ _ (lO K 2 _)from i_ (n:=2) rfl (dU (cq 0) (dU (cq 1) jm)))) (λ_ _ _ _ _=>(lU (d5 K hu (pv 1) (pv 2)))) (λ_ _ _ _ _=>(pv 0))) ag)))),?_⟩;wtm_at "cl";rw[show start Cn [x0,x1]=[some x0,some x1]from rfl];obtain⟨xs,v,hx,hv,hl,q⟩:=h;obtain⟨ap,us,rfl,hu',tu⟩:=bY.mp hx;have hul:us.length=xs.length:=by rw[tu.length,wl]
 o_head ztn hu' (λD i ys σ' H'=>(∃o1 o2,σ'=[o1,o2,some x1])/\H D=none/\ar H H'/\H' D=some (.lst (vz ((wo i).filter λw=>decide (xs.getD w 0=v))))) (λD H' n s e=>⟨⟨_,_,rfl⟩,n,s,e⟩) (λD i ys σ' H' h=>h.2.2.1.j6 hu') ?_ ?_
 ·rintro D i x ys σ' H1 c H2 hx' ⟨⟨o1,o2,rfl⟩,n,S1,e1⟩ hc S2 e2
  obtain⟨hi,ix⟩:=cg tu hx';have T2:=S1.trans S2;have ix2:=ix.by T2;have hv2:=hv.by T2;have e12:=S2 _ _ e1
  have hfl:((wo i).filter λw=>decide (xs.getD w 0=v)).length<=i:=by
   have:=vS (λw=>decide (xs.getD w 0=v)) (wo i);rw[vc]at this;exact this
  refine lA (.of e2) rfl ?_;k_few
  ·rename_i z
   refine ji e12 (by rw[gr];lia) (λH6 E6 e6=>⟨⟨_,_,rfl⟩,n,T2.grow n E6,?_⟩);rw[kl (n:=i),decide_eq_true z,if_pos rfl,sE];exact e6
  ·rename_i z
   refine⟨[],⟨_,_,rfl⟩,n,T2,?_⟩;rw[kl (n:=i),decide_eq_false z,if_neg ⋯,vK];exact e12
 ·rintro D ys σ' H1 ⟨_,n,S1,e1⟩
  rw[hul]at e1;o_head rK (.of e1) (λl H2 n2 S2 e3=>?_);exact q _ H2 (S1.trans S2) (tW.mpr ⟨l,rfl,.of e3⟩)
def R1(K:wa):Sp:=λvs H Q _=>∃x0,vs=[x0] /\ ∃(a b:Rat)(xs:List Rat),Is K H x0 (aY a b xs)/\xs.length<=8/\(∀i,af 4000 (xs.getD i 0)) /\ ∀l H' us,H l=none->ar H H'->H' l=some (.lst us)->ah K H' us ((aj xs).map (kK xs))->Q (.ref l) H'
theorem CF{a:Rat}{v:V}(h:Is K H v (aY a b xs))(h8:xs.length<=8)(bx:∀i,af 4000 (xs.getD i 0))(q:∀l H' us,H l=none->ar H H'->H' l=some (.lst us)->ah K H' us ((aj xs).map (kK xs))->Q (.ref l) H'):R1 K [v] H Q E:=⟨_,rfl,a,b,xs,h,h8,bx,q⟩
theorem DM(b:∀i,af m (xs.getD i 0))(h:x∈xs):af m x:=by
 obtain⟨j,hj,rfl⟩:=ve h;have:=b j;rw[wb,wc hj]at this;exact this
theorem zw1{β:Type}(f : α -> β)(l:List α):(!(l.map f).isEmpty) = !l.isEmpty:=by cases l<;>rfl
theorem FY(T:Txt K mg a):aF P w K mg base aN 3 a.Kr a.JE Ay (R1 K):=by
 refine T.sP.F.ok pZ ?_ ?_;wtm_at "b1"
 refine⟨_,(ai (ay 1 pZ.nd (dy ag))
     (ai (ay 2 pZ.nd (iY (show bS _ (.type "list") (fS K)from jS) rfl T.h0m gT (ae (qi 0) ag)))
     (ai (lD w5 (Gh (pv 2)) (ai (ay 3 pZ.nd (ak (Ln T) hr T.A7 (q1 2)))
     (ai (jq (iN vH vN vO iJ (pv 1) (ae (aQ (ae (pv 3) (ae (ak (zsj T) hr T.Jc (ae (qi 0) (q1 3))) ag))) ag)))
     (av (jR (i:=2) pZ.nd rfl (Or.inl rfl) rfl (cP ["other","phase"] [none,some 3]) (eY (pv 2)) (λ_ _ _ _ _=>(cq 0)) (λ_ _ _ _ _=>(lU (hW K hu (pv 0) (pv 1)))) (λ_ _ _ _ _=>(pv 0)))))))
     (av (aA (pv 1)))))),?_⟩
 wtm_at "cl";rw[show start Yb [x0]=[some x0,none,none,none]from rfl];obtain⟨ra,rb,xs,hw,h8,bx,q⟩:=h;o_head dC ∅ (λlt H1 n1 S1 e1=>?_);o_head aD (j:=1) (hw.by S1) rfl (λvp ip=>?_);o_head pU ip (λll H2 us n2 S2 e2 t2=>?_);have nlt:ll≠lt:=λz=>by subst z;rw[e1]at n2;cases n2
 o_head oC (λm σ' H'=>∃(ll:we)(left done:List Rat)(us ws:List V)(f:Nat)(o3:Option V),σ'=[some x0,some (.ref lt),some (.ref ll),o3]/\m=left.length/\ar H H'/\ll≠lt/\H' lt=some (.lst ws)/\ah K H' ws (done.map (kK xs))/\H' ll=some (.lst us)/\ah K H' us (left.map N)/\(∀y∈left,y∈xs)/\left.length<=f/\done.length+left.length<=xs.length/\done++gc f left=aj xs) _ ⟨ll,xs,[],us,[],xs.length,_,rfl,rfl,S1.trans S2,nlt,S2 _ _ e1,.nil,e2,t2,λy h=>h,wp _,by simp,rfl⟩ ?_;rintro m σ' H3 ⟨ll,left,done,us,ws,f,o3,rfl,rfl,S3,nl,et,tt',el,tl',sub,hf,hdl,heq⟩;o_head Pj (bX el tl') ?_;rw[zw1]
 by_cases he:left=[]
 . rw[show(!left.isEmpty)=false by rw[he];rfl]
   refine nV ?_;rw[he,p6,vK]at heq;rw[heq]at tt';k_few;exact q lt H3 ws n1 S3 et tt'
 . rw [show (!left.isEmpty) = true by cases left with
       | nil=>exact absurd rfl he
       | cons y l=>rfl]
   refine nz ?_;refine nW ?_;have hpos:=Wx.mpr he
   have bl:∀i,af 4000 (left.getD i 0):=λi=>by
     rcases wG i left.length with z | z
     . exact DM bx (sub _ (getD_mem z))
     . rw[wb,wI z];exact af.zero.mono ⋯
   obtain⟨f',rfl⟩:∃f',f=f'+1:=⟨f-1,by lia⟩;rw[lz he]at heq;have hless:=zI he;have hwl:=tt'.length;rw[wl]at hwl;o_head Lf (.inl (bX el tl')) hpos bl (λvm im=>?_);o_head h_ (aE.of et) ?_;o_head aD (j:=1) (hw.by S3) rfl (λvq iq=>?_);o_head zud iq im () (λv4 H4 S4 i4=>?_);o_head c6 (ds:=[N (aU left),TW (eI xs (aU left))]) ∅ (.cons (im.by S4) (.cons i4 .nil)) (λv5 H5 S5 i5=>?_);k_few;have T5:=S4.trans S5;refine iD (T5 _ _ et) () (λH6 E6 e6=>?_);have K6:=E6.keep (T5 _ _ et);have el6:=E6 _ _ nl (T5 _ _ el);have tl6:ah K H6 us (left.map N):=ah.keep (T5.keep.trans K6) _ _ (dZ _) tl'
   have tt6:ah K H6 (ws++[v5]) ((done++[aU left]).map (kK xs)):=by
     rw[wX];exact(ah.keep (T5.keep.trans K6) _ _ (zxG ..) tt').snoc (i5.ik K6 (Tu ..))
   have im6:=(im.by T5).df K6;have S6:ar H H6:=(S3.trans T5).grow n1 E6;generalize hmx:aU left=mxx at *;o_head oG (.of el6) (λD i ys σ' H'=>(∃o,σ'=[o,some vm])/\H6 D=none/\ar H6 H'/\H' D=some (.lst ys)/\ah K H' ys (((left.take i).filter λy=>!decide (y=mxx)).map N)) (λD H' n s e=>⟨⟨_,rfl⟩,n,s,e,.nil⟩) (λD i ys σ' H' h=>h.2.2.1.seq (.of el6)) ?_ ?_
   . rintro D i x ys σ' H7 hx ⟨⟨o,rfl⟩,n7,S7,e7,t7⟩
     obtain⟨hi,ix⟩:=cg tl6 hx;have ix7:=ix.by S7;have im7:=im6.by S7;have hyl:=t7.length;rw[wl]at hyl;have hfl:=vS (λy=>!decide (y=mxx)) (left.take i);rw[Wo]at hfl;k_few
     . rename_i z
       refine ji e7 () (λH8 E8 e8=>⟨⟨_,rfl⟩,n7,S7.grow n7 E8,e8,?_⟩);have K8:=E8.keep e7;rw[fO hi,Wl,Wp,decide_eq_false z,wX];exact(ah.keep K8 _ _ (dZ _) t7).append (.cons (ix7.df K8) .nil)
     . rename_i z
       refine⟨ys,⟨_,rfl⟩,n7,S7,e7,?_⟩;rw[fO hi,Wl,Wp,decide_eq_true (by first | exact z | exact We.mp z)];have:([]:List Rat).filter (λy=>!decide (y=mxx))=[]:=rfl
       simpa using t7
   . rintro D ys σ' H7 ⟨_,n7,S7,e7,t7⟩
     have hul:=tl6.length;rw[wl]at hul;rw[hul,Wb]at t7;k_few;exact⟨(left.filter λy=>!decide (y=mxx)).length,by lia,D,_,done++[mxx],ys,ws++[v5],f',_,rfl,rfl,S6.trans S7,(λz=>by subst z;rw[e6]at n7;cases n7),S7 _ _ e6,ah.same S7 _ _ tt6,e7,t7,λy hy=>sub y (wU.mp hy).1,by lia,by rw[wN];simp only[vV];lia,by rw[W2];exact heq⟩
def Mg(K:wa):Sp:=λvs H Q _=>∃x0 x1,vs=[x0,x1] /\ ∃(lw:we)(left:List Nat)(ps:List Rat),x0=.ref lw/\H lw=some (.lst (vz left))/\Is K H x1 (LN ps)/\(∀w∈left,w<ps.length)/\left.length<=900/\(∀i,af 4000 (ps.getD i 0))/\Rs K H Q (TW (az ps left))
theorem K0{lw:we}{v:V}(e:H lw=some (.lst (vz left)))(h:Is K H v (LN ps))(hw:∀w∈left,w<ps.length)(hl:left.length<=900)(b:∀i,af 4000 (ps.getD i 0))(q:Rs K H Q (TW (az ps left))):Mg K [.ref lw,v] H Q E:=⟨_,_,rfl,lw,left,ps,rfl,e,h,hw,hl,b,q⟩
theorem zx2(ps:List Rat)(l:List Nat):(az ps l).length<=l.length:=vS _ _
theorem SR(T:Txt K mg a):aF P w K mg base aN 2 a.IP a.Hy As (Mg K):=by
 refine T.A0.F.ok Z0 ?_ ?_;wtm_at "b2";refine⟨_,(av (aA (eQ K T.h0i (ae (dH rfl (cP ["worm","phases"] [none,some 1]) (eY (pv 0)) (λ_ _ _ _ _=>(cq 0)) (λ_ _ _ _ _=>(lU (cv (b_ (ak (g9 (K:=K) (mg:=mg) (a:=a) T) hr T.gg (ae (de (show fF _ (c_ K)from cD) (pv 1) (pv 0) (λ_ _=>rfl)) (ae (cj (v:=.ref a.d9) rfl T.fj rfl) ag))))))) (λ_ _ _ _ _=>(pv 0))) ag)))),?_⟩;wtm_at "cl";rw[show start Ds [x0,x1]=[some x0,some x1]from rfl];obtain⟨lw,left,ps,rfl,e1,hx,hw,hl,bp,q⟩:=h;o_head oG (.of e1) (λD i ys σ' H'=>(∃o,σ'=[o,some x1])/\H D=none/\ar H H'/\H' D=some (.lst (vz (az ps (left.take i))))) (λD H' n s e=>⟨⟨_,rfl⟩,n,s,e⟩) (λD i ys σ' H' h=>h.2.2.1.seq (.of e1)) ?_ ?_
 ·rintro D i x ys σ' H1 hx' ⟨⟨o,rfl⟩,n,S1,e2⟩
  obtain⟨hi,rfl⟩:=DQ hx';have hx1:=hx.by S1;have hlt:=hw _ (Wi hi);have bw:=bp left[i];have hle:=zx2 ps (left.take i);have htl:(left.take i).length<=900:=by rw[Wo];lia
  o_head gL hx1 () () (λv iv=>?_);rw[wx]at iv;generalize hww:left[i]=ww at *;k_few
  ·rename_i z
   refine ji e2 (by rw[gr];lia) (λH6 E6 e6=>⟨⟨_,rfl⟩,n,S1.grow n E6,?_⟩);rw[rA hi,hww,zzn z,sE];exact e6
  ·rename_i z
   refine⟨[],⟨_,rfl⟩,n,S1,?_⟩;rw[rA hi,hww,zxq (by first | exact z | exact We.mp z)];exact e2
 ·rintro D ys σ' H1 ⟨_,n,S1,e2⟩
  rw[gr,Wb]at e2;o_head rK (.of e2) (λl H2 n2 S2 e3=>?_);exact q _ H2 (S1.trans S2) (tW.mpr ⟨l,rfl,.of e3⟩)
def OG(K:wa):Sp:=λvs H Q _=>∃x0,vs=[x0] /\ ∃(a b:Rat)(xs:List Rat)(m:Nat),Is K H x0 (aY a b xs)/\af 10 a/\af 10 b/\1<=xs.length/\xs.length<=8/\Cm m xs/\m+2+21*xs.length<=3950/\Rs K H Q (GD a b xs)
theorem ED{a:Rat}{v:V}(h:Is K H v (aY a b xs))(ba:af 10 a)(bb:af 10 b)(h1:1<=xs.length)(h8:xs.length<=8)(c:Cm m xs)(hm:m+2+21*xs.length<=3950)(q:Rs K H Q (GD a b xs)):OG K [v] H Q E:=⟨_,rfl,a,b,xs,m,h,ba,bb,h1,h8,c,hm,q⟩
structure zDI(K:wa)(a b:Rat)(xs:List Rat)(m:Nat)(H H':Hp)(vw:V)(lp lv ll:we)(left:List Nat)(ps:List Rat)(done:List (List Nat))(f:Nat)(pv wv:List V)(vwave:V):Prop where
 same:ar H H'
 hp:H lp=none
 hv:H lv=none
 iw:Is K H' vw (N (1-aU xs))
 j4:lp≠lv
 Dp:ll≠lp
 zA:ll≠lv
 ep:H' lp=some (.lst pv)
 tp:ah K H' pv (ps.map N)
 el:H' ll=some (.lst (vz left))
 ev:H' lv=some (.lst wv)
 tv:ah K H' wv (done.map TW)
 iv:Is K H' vwave (TW (az ps left))
 nd:left.Nodup
 lt:∀w∈left,w<xs.length
 len:ps.length=xs.length
 fl:left.length<=f
 dl:done.length+left.length<=xs.length
 cm:Cm (m+2+21*(xs.length-left.length)) ps
 w1:done++(cO a b f ps left).1=cW a b xs
 w2:(cO a b f ps left).2=(dY a b xs).2
def Nb(K:wa)(a b:Rat)(xs:List Rat)(m:Nat)(H:Hp)(x0 vw:V)(lp lv:we)(k:Nat)(σ':L2.St)(H':Hp):Prop:=∃(ll:we)(left:List Nat)(ps:List Rat)(done:List (List Nat))(f:Nat)(pv wv:List V)(vwave:V)(o6 o7:Option V),σ'=[some x0,some vw,some (.ref lp),some (.ref ll),some (.ref lv),some vwave,o6,o7,none]/\k=left.length/\zDI K a b xs m H H' vw lp lv ll left ps done f pv wv vwave
theorem rN{o:HO}(h:H p=none)(k:H q=some o):p≠q:=λe=>by rw[e,k]at h;cases h
theorem zxy{β γ:Type}(f : α -> β)(g : β -> γ)(l:List α):(!((l.map f).map g).isEmpty) = !l.isEmpty:=by cases l<;>rfl
theorem zzb{l:List α}(h:l≠[]):(!l.isEmpty)=true:=by cases l with
 | nil=>exact absurd rfl h
 | cons x l=>rfl
theorem CC(T:Txt K mg a):aF P w K mg base aN 4 a.nk a.Kc An (OG K):=by
 refine T.sU.F.ok jo ?_ ?_;wtm_at "b1"
 refine⟨_,(ai (ay 1 jo.nd (ak (zC T) hr T.pe (ae (cj (v:=.ref a.d9) rfl T.fj rfl) (ae (ak (Ln T) hr T.A7 (ae (qi 0) ag)) ag))))
     (ai (jR (i:=2) jo.nd rfl (Or.inl rfl) rfl (cP ["phase","wait"] [none,some 1]) (jM (qi 0)) (λ_ _ _ _ _=>(cq 0)) (λ_ _ _ _ _=>dF) (λ_ _ _ _ _=>(ak (gO (K:=K) (mg:=mg) (a:=a) T) hr T.gh (q2 0 1))))
     (ai (ay 3 jo.nd (zqW rfl rfl T.h0m rfl T.h0j (ae (c8 K T.h0t (q1 2)) ag)))
     (ai (ay 4 jo.nd (dy ag))
     (ai (ay 5 jo.nd (ak (SR T) hr T.A0 (q2 3 2)))
     (ai (lD w5 (Gh (pv 5)) (ai (jq (iN vH vN vO iJ (pv 4) (q1 5)))
     (ai (ay 3 jo.nd (dH rfl (cP ["worm","wave"] [none,some 5]) (eY (pv 3)) (λ_ _ _ _ _=>(cq 0)) (λ_ _ _ _ _=>(lU (cY (show bG _ (vP .NotIn) (fu K true)from sv) (pv 0) (pv 1) (by with_unfolding_all rfl)))) (λ_ _ _ _ _=>(pv 0))))
     (ai (ay 6 jo.nd (ak (zF T) hr T.pb (ae (qi 0) (ae (c8 K T.h0t (q1 5)) ag))))
     (ai (d6 w5 rfl (eY (pv 3)) (cT (i:=7) jo.nd rfl (Or.inl rfl)) (av (ju (ak (TJ T) hr T.A3 (ae (pv 6) (ae (de cD (pv 2) (pv 7) (λ_ _=>rfl)) ag))) (mW (pv 2) (pv 7) mM))))
     (av (ay 5 jo.nd (ak (SR T) hr T.A0 (q2 3 2)))))))))
     (ai (jR (i:=8) jo.nd rfl (Or.inl rfl) rfl (cP ["worm","phase","left"] [none,none,some 3]) (zyt rfl T.h0f (q1 2)) (λ_ _ _ _ _=>by exact(show PG _ _ (lO K 2 _)from i_ (n:=2) rfl (dU (cq 0) (dU (cq 1) jm)))) (λ_ _ _ _ _=>dF) (λ_ _ _ _ _=>(q_ (cY (show bG _ (vP .In) (fu K false)from Dg) (pv 0) (pv 2) (by with_unfolding_all rfl)) (pv 1) (cj (v:=.ref a.dD) rfl T.d8 rfl))))
     (av (aA (aQ (ae (pv 1) (ae (eQ K T.h0i (q1 4)) (ae (aQ (ae (qi 0) (ae (eQ K T.h0i (q1 8)) ag))) ag))))))))))))),?_⟩
 wtm_at "cl";rw[show start PL [x0]=[some x0,none,none,none,none,none,none,none,none]from rfl];obtain⟨ra,rb,xs,m,hw,ba,bb,h1,h8,cm,hm,q⟩:=h;have bx:∀i,af 4000 (xs.getD i 0):=λi=>(cm.get i).mono ()
 have bm:af 3950 (aU xs):=(cm.dM (fG h1)).mono ();o_head aD (j:=1) hw rfl (λvp ip=>?_);o_head Lf (.inr ip) h1 bx (λvm im=>?_);k_few;rename_i vw H1 S1 iw;refine aD (j:=1) (hw.by S1) rfl (λvp1 ip1=>?_);obtain⟨ap,us,rfl,hu,tu⟩:=bY.mp ip1;refine jw (o0:=none) (tl:=[some vw]) hu rfl (λj y H'=>Is K H' y (N ((bE xs).getD j 0))) ?_ ?_
 . intro D i x ys o H2 hx inv
   obtain⟨hi,ix⟩:=cg tu hx;have S2:=inv.same;have ix2:=ix.by S2;have iw2:=iw.by S2;have bi:=bx i;have bw:af 3952 (1-aU xs):=(af.one.sub bm).mono ⋯;k_few;rename_i v3 H3 S3 i3;exact dQ inv () eG ⟨_,rfl⟩ S3 (by rw[Gv hi];exact i3)
 . intro lp ys H2 hnp S2 hD hl hr
   have hl':ys.length=(bE xs).length:=by rw[hl,tu.length,wl,eU]
   have tp:ah K H2 ys ((bE xs).map N):=eH hl' hr;have iw2:=iw.by S2;have T2:=S1.trans S2;have hpH:H lp=none:=fm S1 hnp;clear hl hr hu tu ip1 ip im iw S1 S2 hnp;o_head yy (bX hD tp) ?_;rw[eU];o_head zxh (n:=xs.length) () (λll H3 n3 S3 e3=>?_);o_head dC ∅ (λlv H4 n4 S4 e4=>?_);k_few;have hD4:=S4 _ _ (S3 _ _ hD);have tp4:ah K H4 ys ((bE xs).map N):=ah.same (S3.trans S4) _ _ tp;have iO:Cm (m+2) (bE xs):=(Cm.rise (h:=0) (cm.gf (ys:=0::xs) λy hy=>by rcases wL.mp hy with rfl | hy;(exact .inr rfl);exact .inl hy) (fG h1)).gf λy hy=>.inl (wA _ hy)
   have b3:∀i,af 4000 ((bE xs).getD i 0):=λi=>(iO.get i).mono ()
   refine K0 (S4 _ _ e3) (bX hD4 tp4) (λw hw'=>by rw[eU];exact wF.mp hw') (by rw[vc];lia) b3 (λvwave H5 S5 i5=>?_);have T5:=T2.trans (S3.trans (S4.trans S5));have hvH:H lv=none:=fm (T2.trans S3) n4;have j4:lp≠lv:=(rN n4 (S3 _ _ hD)).symm;have Dp:ll≠lp:=rN n3 hD;have zA:ll≠lv:=(rN n4 e3).symm
   have G0:Nb K ra rb xs m H x0 vw lp lv xs.length [some x0,some vw,some (.ref lp),some (.ref ll),some (.ref lv),some vwave,none,none,none] H5:=by
     refine⟨ll,wo xs.length,bE xs,[],xs.length,ys,[],vwave,none,none,rfl,by rw[vc],T5,hpH,hvH,iw2.by (S3.trans (S4.trans S5)),j4,Dp,zA,S5 _ _ hD4,ah.same S5 _ _ tp4,S5 _ _ (S4 _ _ e3),S5 _ _ e4,.nil,i5,WK,λw hw'=>wF.mp hw',eU xs,by rw[vc];exact wp _,by rw[vc];simp,iO.mono (),?_,rfl⟩;rw[qo];rfl
   clear T5 S5 S4 S3 T2 hD hD4 tp tp4 b3 iO n3 n4 e3 e4 iw2 i5 hl';o_head oC (Nb K ra rb xs m H x0 vw lp lv) _ G0 ?_;clear G0 j4 Dp zA;rintro k σ' H6 ⟨ll,left,ps,done,f,pv,wv,vwave,o6,o7,rfl,hk,G⟩;have bp:∀i,af 4000 (ps.getD i 0):=λi=>(G.cm.get i).mono (by have:=G.dl;lia)
   o_head zAr (show Is K H6 vwave (.tuple (((az ps left).map λ(w:Nat)=>(w:Int)).map PyData.int))from G.iv) ?_;rw[zxy]
   by_cases he:az ps left=[]
   . rw[show(!(az ps left).isEmpty)=false by rw[he];rfl]
     refine nV ?_;have w1:=G.w1;have w2:=G.w2;rw[mD he]at w1 w2;rw[vK]at w1;have eps:ps=(dY ra rb xs).2.2:=congrArg XG w2;have elf:left=(dY ra rb xs).2.1:=congrArg XF w2;have hph:gX left ps=cZ ra rb xs:=by rw[cZ,<- eps,<- elf]
     o_head zzV (.of G.ep) (o0:=none) (o0':=none) (tl:=[some (.ref ll)]) rfl (λj y H'=>Is K H' y (N ((gX left ps).getD j 0))) eG ?_ ?_
     . intro D i x zs o1 o2 H7 c hx inv hc
       obtain⟨hi,ix⟩:=cg G.tp hx;have S7:=inv.2.2.1;refine lA (.of hc) rfl ?_;o_head Na (aE.of (S7 _ _ G.el)) ?_;k_few
       . rename_i z
         exact rZ inv (by have:=G.len;lia) eG ⟨_,_,rfl⟩ (ar.refl _) (by rw[lX hi,if_pos z];exact ix.by S7)
       . rename_i z
         exact rZ inv (by have:=G.len;lia) eG ⟨_,_,rfl⟩ (ar.refl _) (by rw[lX hi,if_neg z];exact eF 0 (T.fb _) rfl rfl)
     . intro D zs H7 hn S7 hD hl hr
       have hpl:=G.tp.length;rw[wl]at hpl;have tz:ah K H7 zs ((gX left ps).map N):=eH (by rw[hl,CY,hpl]) hr;rw[hph]at tz;have tv:=ah.same S7 _ _ G.tv;have ev:=S7 _ _ G.ev;have iw7:=G.iw.by S7;have T7:=G.same.trans S7;rw[w1]at tv;o_head fR (ck.mpr ⟨lv,wv,rfl,.of ev,tv⟩) (λv8 H8 S8 i8=>?_);o_head aD (j:=0) (hw.by (T7.trans S8)) rfl (λv9 i9=>?_);o_head fR (bX (S8 _ _ hD) (ah.same S8 _ _ tz)) (λv10 H10 S10 i10=>?_);o_head c6 (ds:=[R ra rb,TN (cZ ra rb xs)]) ∅ (.cons (i9.by S10) (.cons i10 .nil)) (λv11 H11 S11 i11=>?_);o_head c6 (ds:=[N (1-aU xs),nF (cW ra rb xs),aY ra rb (cZ ra rb xs)]) ∅ (.cons (iw7.by (S8.trans (S10.trans S11))) (.cons (i8.by (S10.trans S11)) (.cons i11 .nil))) (λv12 H12 S12 i12=>?_);exact q v12 H12 (T7.trans (S8.trans (S10.trans (S11.trans S12)))) i12
   . rw[zzb he]
     refine nz ?_;refine nW ?_;have hwl:=G.tv.length;rw[wl]at hwl;have hdl:=G.dl;have hlen:=zW ps left;have hpos:0<(az ps left).length:=Wx.mpr he;o_head h_ (aE.of G.ev) ?_;o_head iD G.ev () (λH7 E7 e7=>?_);have K7:a_ H6 H7:=E7.keep G.ev;have S7:ar H H7:=G.same.grow G.hv E7;have el7:=E7 _ _ G.zA G.el;have ep7:=E7 _ _ G.j4 G.ep;have tp7:=ah.keep K7 _ _ (dZ _) G.tp;have iv7:=G.iv.ik K7 (y8 _);have iw7:=G.iw.df K7
     have tv7:ah K H7 (wv++[vwave]) ((done++[az ps left]).map TW):=by
       rw[wX];exact(ah.keep K7 _ _ (nH _) G.tv).snoc iv7
     obtain⟨aw,rfl,hsw⟩:=tW.mp iv7;o_head oG (.of el7) (λD i ys σ' H'=>(∃o,σ'=[o,some (.ref aw)])/\H7 D=none/\ar H7 H'/\H' D=some (.lst (vz (bK (left.take i) (az ps left))))) (λD H' n s e=>⟨⟨_,rfl⟩,n,s,e⟩) (λD i ys σ' H' h=>h.2.2.1.seq (.of el7)) ?_ ?_
     . rintro D i x ys σ' H8 hx' ⟨⟨o,rfl⟩,n,S8,e8⟩
       obtain⟨hi,rfl⟩:=DQ hx';have hle:(bK (left.take i) (az ps left)).length<=(left.take i).length:=vS _ _;rw[Wo]at hle;o_head zur (S8.j6 hsw) ?_;generalize hww:left[i]=ww at *;k_few
       . rename_i z
         refine ji e8 (by rw[gr];lia) (λH9 E9 e9=>⟨⟨_,rfl⟩,n,S8.grow n E9,?_⟩);rw[rA hi,hww,zw3 z,sE];exact e9
       . rename_i z
         refine⟨[],⟨_,rfl⟩,n,S8,?_⟩;rw[rA hi,hww,zuJ (by first | exact z | exact We.mp z)];exact e8
     . rintro D ys σ' H8 ⟨_,n8,S8,e8⟩
       rw[gr,Wb]at e8;have nD1:D≠lp:=rN n8 ep7;have nD2:D≠lv:=rN n8 e7;have T8:=S7.trans S8;have iv8:=iv7.by S8;o_head aD (j:=0) (hw.by T8) rfl (λvr ir=>?_);o_head Nq iv8 ?_;o_head Dh ir ba bb () () (λvpush H9 S9 ipush=>?_);rw[wx]at ipush;have bf:af 700 (ra^(az ps left).length):=(ba.pow _).mono ();have bg:af 1500 (aC ra rb (az ps left).length):=(ba.aC bb _).mono ();have T9:=S8.trans S9;have ep9:=T9 _ _ ep7;have tp9:ah K H9 pv (ps.map N):=ah.same T9 _ _ tp7;have e9:=S9 _ _ e8;have ev9:=T9 _ _ e7;have ndl:=n_ (wave:=az ps left) G.nd;have ltl:=nY (wave:=az ps left) G.lt;generalize hL:bK left (az ps left)=left' at *;o_head lF (.of e9) (λi σ'' H''=>∃o pv',σ''=[some x0,some vw,some (.ref lp),some (.ref D),some (.ref lv),some (.ref aw),some vpush,o,none]/\Exc lp H9 H''/\H'' lp=some (.lst pv')/\ah K H'' pv' ((cF (ra^(az ps left).length) (aC ra rb (az ps left).length) ps (left'.take i)).map N)) ⟨_,pv,rfl,Exc.refl _ _,ep9,tp9⟩ (λi σ'' H'' _ ⟨_,_,_,e,_⟩=>.of (e _ _ nD1 e9)) ?_ ?_
       . rintro i x σ'' H10 hx' ⟨o,pv',rfl,E10,e10,t10⟩
         obtain⟨hi,rfl⟩:=DQ hx';have K10:a_ H9 H10:=E10.keep ep9;have hlt:=ltl _ (Wi hi);have hpl:=gR (ra^(az ps left).length) (aC ra rb (az ps left).length) (left'.take i) ps;have hps:=G.len
         have bq:af 4000 ((cF (ra^(az ps left).length) (aC ra rb (az ps left).length) ps (left'.take i)).getD left'[i] 0):=by
           have nt:(left'.take i).Nodup:=ndl.sublist (Xf ..);rw[jn _ _ _ _ nt (λw hw'=>by rw[hps];exact ltl w (XQ _ _ hw'))];rw[if_neg]
           . exact bp _
           . intro hm
             obtain⟨j,hj,ej⟩:=ve hm;rw[Wo]at hj;rw[Xj]at ej;exact absurd ej ((Ww.mp ndl) j i () hi ())
         have ip10:=ipush.ik K10 (uK _ _);generalize hww:left'[i]=ww at *;generalize hqs:cF (ra^(az ps left).length) (aC ra rb (az ps left).length) ps (left'.take i)=qs at *;o_head gL (bX e10 t10) () () (λv11 i11=>?_);rw[wx]at i11;o_head Ta ip10 i11 bf bg (bq.mono ⋯) (λv12 H12 S12 i12=>?_);have e12:=S12 _ _ e10;have hvl:=t10.length;rw[wl]at hvl;o_head oy (j:=ww) e12 (by unfold gB;rw[if_pos (),if_pos ()];simp) (λH13 E13 e13=>?_);refine⟨_,_,rfl,E10.trans (S12.exc.trans E13),e13,?_⟩;have K13:=E13.keep e12;rw[rA hi,hww,UW,hqs];refine eH (by rw[Wt,Wt];exact hvl) (λj v hj=>?_);rw[WN]at hj
         by_cases hjw:ww=j
         . subst hjw
           rw[if_pos rfl,if_pos ()]at hj;cases hj;rw[pz ()];exact i12.df K13
         . rw[if_neg hjw]at hj
           rw[sj hjw];obtain⟨_,ij⟩:=cg t10 hj;exact(ij.by S12).df K13
       . rintro σ'' H10 ⟨o,pv',rfl,E10,e10,t10⟩
         rw[gr,Wb]at t10;have K10:a_ H9 H10:=E10.keep ep9;have hps:=G.len
         have cm10:Cm (m+2+21*(xs.length-left'.length)) (cF (ra^(az ps left).length) (aC ra rb (az ps left).length) ps left'):=by
           have c0:Cm (m+2+21*(xs.length-left.length)) (0::ps):=G.cm.gf λy hy=>by rcases wL.mp hy with rfl | hy;(exact .inr rfl);exact .inl hy
           exact((c0.wave ba bb (az ps left).length ndl (λw hw'=>by rw[hps];exact ltl w hw')).gf λy hy=>.inl (wA _ hy)).mono ()
         have hpl:=gR (ra^(az ps left).length) (aC ra rb (az ps left).length) left' ps;have w1:=G.w1;have w2:=G.w2;have hfl:=G.fl;obtain⟨f',rfl⟩:∃f',f=f'+1:=⟨f-1,by lia⟩;rw[jb he,hL]at w1 w2;generalize hqs:cF (ra^(az ps left).length) (aC ra rb (az ps left).length) ps left'=qs at *;k_few;have e10':=E10 _ _ nD1 e9;refine K0 e10' (bX e10 t10) (λw hw'=>by rw[hpl,hps];exact ltl w hw') () (λi=>(cm10.get i).mono ()) (λvwave2 H11 S11 i11=>?_);k_few;have KA:=T9.keep.trans K10;refine⟨left'.length,by lia,D,left',qs,done++[az ps left],f',pv',wv++[V.ref aw],vwave2,_,_,rfl,rfl,?_⟩;exact⟨((S7.trans T9).grow G.hp E10).trans S11,G.hp,G.hv,(iw7.df KA).by S11,G.j4,nD1,nD2,S11 _ _ e10,ah.same S11 _ _ t10,S11 _ _ e10',S11 _ _ (E10 _ _ G.j4.symm ev9),ah.same S11 _ _ (ah.keep KA _ _ (nH _) tv7),i11,ndl,ltl,by rw[hpl];exact hps,by lia,by rw[wN];simp;lia,cm10,by rw[W2];exact w1,w2⟩
def Uy(K:wa):Sp:=λvs H Q _=>∃x0 x1,vs=[x0,x1] /\ ∃(a b:Rat)(xs:List Rat)(n:Int),x1=.int n/\Is K H x0 (aY a b xs)/\af 10 a/\af 10 b/\1<=xs.length/\xs.length<=8/\0<=n/\n<=40/\(∀i,i<=n.toNat->Cm 3700 (aO a b xs i::ao a b xs i)) /\ ∀l H',H l=none->ar H H'->Is K H' (.ref l) (.list (iI a b xs n.toNat))->Q (.ref l) H'
theorem zsq{a:Rat}{n:Int}{v:V}(h:Is K H v (aY a b xs))(ba:af 10 a)(bb:af 10 b)(h1:1<=xs.length)(h8:xs.length<=8)(n0:0<=n)(n1:n<=40)(c:∀i,i<=n.toNat->Cm 3700 (aO a b xs i::ao a b xs i))(q:∀l H',H l=none->ar H H'->Is K H' (.ref l) (.list (iI a b xs n.toNat))->Q (.ref l) H'):Uy K [v,.int n] H Q E:=⟨_,_,rfl,a,b,xs,n,rfl,h,ba,bb,h1,h8,n0,n1,c,q⟩
theorem zvC(T:Txt K mg a):aF P w K mg base aN 5 a.Kp a.Jd zJ (Uy K):=by
 refine T.Jj.F.ok lR ?_ ?_;wtm_at "b2"
 refine⟨_,(ai (ay 2 lR.nd (dy ag))
     (ai (ay 3 lR.nd (cj (v:=.ref a.dD) rfl T.d8 rfl))
     (ai (ay 4 lR.nd (pv 0))
     (ai (d6 w5 rfl (fC rfl T.h0j (q1 1)) (cT (i:=5) lR.nd rfl (Or.inl rfl)) (ai (ay 6 lR.nd (ak (CC T) hr T.sU (q1 4)))
     (ai (ay 3 lR.nd (ak (gO T) hr T.gh (ae (pv 3) (ae (qi 6) ag))))
     (ai (ay 4 lR.nd (qi 6))
     (av (jq (iN vH vN vO iJ (pv 2) (ae (aQ (ae (pv 3) (ae (qi 6) (ae (qi 4) ag)))) ag))))))))
     (av (aA (pv 2))))))),?_⟩
 wtm_at "cl";rw[show start Sk [x0,x1]=[some x0,some x1,none,none,none,none,none]from rfl];obtain⟨ra,rb,xs,n,rfl,hw,ba,bb,h1,h8,n0,n1,cm,q⟩:=h;o_head dC ∅ (λlr H1 nr S1 e1=>?_);o_head iX (n:=n) () () (λi σ H'=>∃vh vs o5 o6 us,σ = [some x0,some (.int n),some (.ref lr),some vh,some vs,o5,o6]/\ar H H'/\H' lr=some (.lst us)/\ah K H' us (iI ra rb xs i)/\Is K H' vh (N (aO ra rb xs i))/\Is K H' vs (aY ra rb (ao ra rb xs i))) ⟨_,_,_,_,[],rfl,S1,e1,.nil,eF 0 (T.fb _) rfl rfl,hw.by S1⟩ ?_ ?_
 . rintro i σ H2 hi ⟨vh,vs,o5,o6,us,rfl,S2,e2,t2,ih,iw⟩
   have hc:=cm i ();have hpl:=bW ra rb xs i;have bh:af 3700 (aO ra rb xs i):=hc.dM (wE ..);have hc':Cm 3700 (ao ra rb xs i):=hc.gf λy hy=>.inl (wA _ hy)
   have bw:af 3702 (1-aU (ao ra rb xs i)):=(af.one.sub (hc'.dM (fG ()))).mono ⋯;o_head ED iw ba bb () () hc' (by rw[hpl];lia) (λv3 H3 S3 i3=>?_);o_head aD (j:=0) i3 rfl (λv4 i4=>?_);have ih3:=ih.by S3;k_few;rename_i v5 H5 S5 i5;refine aD (j:=2) (i3.by S5) rfl (λv6 i6=>?_);have T5:=S3.trans S5;o_head h_ (aE.of (T5 _ _ e2)) ?_;o_head aD (j:=1) (i3.by S5) rfl (λv7 i7=>?_);o_head aD (j:=1) i6 rfl (λv8 i8=>?_);o_head c6 (ds:=[N (aO ra rb xs (i+1)),nF (cW ra rb (ao ra rb xs i)),TN (ao ra rb xs (i+1))]) ∅ (.cons i5 (.cons i7 (.cons i8 .nil))) (λv9 H9 S9 i9=>?_);k_few;have T9:=T5.trans S9;have e9:=T9 _ _ e2;have hul:=t2.length;rw[zxQ]at hul;refine iD e9 () (λH10 E10 e10=>?_);have K10:=E10.keep e9;have i10:=i9.ik K10 (RS _ _ _)
   have t10:ah K H10 (us++[v9]) (iI ra rb xs (i+1)):=by
     rw[Bu];exact(ah.keep K10 _ _ (zq9 ..) (ah.same T9 _ _ t2)).snoc i10
   exact⟨_,_,_,_,_,rfl,(S2.trans T9).grow nr E10,e10,t10,(i5.by S9).df K10,(i6.by S9).ik K10 (zBG _ _ _)⟩
 . rintro σ H2 ⟨vh,vs,o5,o6,us,rfl,S2,e2,t2,ih,iw⟩
   k_few;exact q lr H2 nr S2 (ck.mpr ⟨lr,us,rfl,.of e2,t2⟩)
def BD(a b:Rat)(xs:List Rat)(n:Nat):wD:=.tuple [N (aO a b xs n),aY a b (ao a b xs n)]
def SV(K:wa):Sp:=λvs H Q _=>∃x0 x1,vs=[x0,x1] /\ ∃(a b:Rat)(xs:List Rat)(n:Int),x1=.int n/\Is K H x0 (aY a b xs)/\af 10 a/\af 10 b/\1<=xs.length/\xs.length<=8/\0<=n/\n<=40/\(∀i,i<=n.toNat->Cm 3700 (aO a b xs i::ao a b xs i))/\Rs K H Q (BD a b xs n.toNat)
theorem MO{a:Rat}{n:Int}{v:V}(h:Is K H v (aY a b xs))(ba:af 10 a)(bb:af 10 b)(h1:1<=xs.length)(h8:xs.length<=8)(n0:0<=n)(n1:n<=40)(c:∀i,i<=n.toNat->Cm 3700 (aO a b xs i::ao a b xs i))(q:Rs K H Q (BD a b xs n.toNat)):SV K [v,.int n] H Q E:=⟨_,_,rfl,a,b,xs,n,rfl,h,ba,bb,h1,h8,n0,n1,c,q⟩
theorem lV{v:V}(h:Is K H v (.list (ds++[d])))(q:∀x,Is K H x d->Q x H):c_ K v (.int (-1)) H Q:=by
 obtain⟨a,xs,rfl,hs,t⟩:=ck.mp h;have hl:=t.length;rw[wN,vV]at hl;obtain⟨x,e1,hx⟩:=t.get (i:=ds.length) (d:=d) (by rw[vQ (wp _),V6];rfl);exact j5 hs (Fp (by rw[hl];exact e1)) (q x hx)
theorem zxd(T:Txt K mg a):aF P w K mg base aN 6 a.behind a.Jn yF (SV K):=by
 refine T.JT.F.ok CG ?_ ?_;wtm_at "b2"
 refine⟨_,(ai (ay 2 CG.nd (ak (zvC T) hr T.Jj (q2 0 1)))
     (ai (aV (cv (Gh (pv 2))) (av (aA (aQ (ae (cj (v:=.ref a.dD) rfl T.d8 rfl) (q1 0))))) aX)
     (ai (ay 3 CG.nd (de cD (pv 2) (fo fA au) (λ_ _=>rfl)))
     (av (aA (aQ (ae (qi 3) (ae (aQ (ae (qi 0) (ae (qi 3) ag))) ag)))))))),?_⟩
 wtm_at "cl";rw[show start SD [x0,x1]=[some x0,some x1,none,none]from rfl];obtain⟨ra,rb,xs,n,rfl,hw,ba,bb,h1,h8,n0,n1,cm,q⟩:=h;o_head zsq hw ba bb h1 h8 n0 n1 cm (λlr H1 nr S1 i1=>?_);o_head Pj i1 ?_;generalize n.toNat=k at *;cases k with
 | zero =>
   rw[show(!(iI ra rb xs 0).isEmpty)=false from rfl];o_head c6 (ds:=[N 0,aY ra rb xs]) ∅ (.cons (eF 0 (T.fb _) rfl rfl) (.cons (hw.by S1) .nil)) (λv H2 S2 i2=>?_);exact q v H2 (S1.trans S2) i2
 | succ k =>
   rw[Bu]at i1;rw[show(!(iI ra rb xs (k+1)).isEmpty)=true by rw[Bu];simp];o_head lV i1 (λv2 i2=>?_);have i2:Is K H1 v2 (Au (aO ra rb xs (k+1)) (cW ra rb (ao ra rb xs k)) (ao ra rb xs (k+1))):=i2;o_head aD (j:=0) i2 rfl (λv3 i3=>?_);o_head aD (j:=0) (hw.by S1) rfl (λv4 i4=>?_);o_head aD (j:=2) i2 rfl (λv5 i5=>?_);o_head c6 (ds:=[R ra rb,TN (ao ra rb xs (k+1))]) ∅ (.cons i4 (.cons i5 .nil)) (λv6 H6 S6 i6=>?_);o_head c6 (ds:=[N (aO ra rb xs (k+1)),aY ra rb (ao ra rb xs (k+1))]) ∅ (.cons (i3.by S6) (.cons i6 .nil)) (λv7 H7 S7 i7=>?_);exact q v7 H7 (S1.trans (S6.trans S7)) i7
def M_(K:wa):Sp:=λvs H Q _=>∃x0,vs=[x0] /\ ∃(a b:Rat)(xs:List Rat),Is K H x0 (aY a b xs)/\Q (.bl (decide (0∈xs))) H
theorem Rm{a:Rat}{v:V}(h:Is K H v (aY a b xs))(q:Q (.bl (decide (0∈xs))) H):M_ K [v] H Q E:=⟨_,rfl,a,b,xs,h,q⟩
theorem Oo(T:Txt K mg a):aF P w K mg base aN 1 a.J6 a.IU Al (M_ K):=by
 refine T.A9.F.ok zu0 ?_ ?_;wtm_at "b1";refine⟨_,(av (aA (gP (show bG _ (vP .In) (Ct K)from zDS hu) (cj (v:=.ref a.dD) rfl T.d8 rfl) (qi 0) (by with_unfolding_all rfl)))),?_⟩;wtm_at "cl";rw[show start DG [x0]=[some x0]from rfl];obtain⟨ra,rb,xs,hw,q⟩:=h;o_head aD (j:=1) hw rfl (λvp ip=>?_);exact zBa (eF 0 (T.fb _) rfl rfl) ip q
def bC(xs:List Rat):List Rat:=(aj xs).dropLast
def UM(xs:List Rat):wD:=.tuple [TZ (aW xs),TN (bC xs)]
def Ni(K:wa)(a:Ad):Sp:=λvs H Q E=>∃x0,vs=[x0] /\ ∃(ra rb:Rat)(xs:List Rat),Is K H x0 (aY ra rb xs)/\xs.length<=8/\(∀i,af 4000 (xs.getD i 0))/\(¬ 0∈xs->∀H',ar H H'->E (.ref a.o_) none H')/\(0∈xs->Rs K H Q (UM xs))
theorem B1{v:V}(h:Is K H v (aY ra rb xs))(h8:xs.length<=8)(bx:∀i,af 4000 (xs.getD i 0))(qe:¬ 0∈xs->∀H',ar H H'->E (.ref a.o_) none H')(q:0∈xs->Rs K H Q (UM xs)):Ni K a [v] H Q E:=⟨_,rfl,ra,rb,xs,h,h8,bx,qe,q⟩
theorem LI:∀(n:Nat)(l:List Rat),(gc n l).length<=n
 | 0,l=>wp _
 | n+1,[]=>by rw[p6];simp
 | n+1,x::l=>by
  rw[lz ∅,Wa];have:=LI n ((x::l).filter λy=>!decide (y=aU (x::l)));lia
theorem DD(T:Txt K mg a):aF P w K mg base (ff P w) 4 a.laid a.J9 AG (Ni K a):=by
 refine T.sW.F.rk u6 ?_ ?_;wtm_at "b1"
 refine⟨_,(ai (aV (cv (b_ (ak (Oo T) hr T.A9 (q1 0)))) (av (M8 T.YF rfl rfl T.YG U5 (ae fP ag))) aX)
     (ai (ay 1 u6.nd (ak (FY T) hr T.sP (q1 0)))
     (ai (ay 2 u6.nd (eQ K T.h0i (ae (dH rfl (cP ["row"] [none]) (eY (pv 1)) (λ_ _ _ _ _=>(cq 0)) (λ_ _ _ _ _=>dF) (λ_ _ _ _ _=>(c8 K T.h0t (ae (nG (K:=K) cD (pv 0)) ag)))) ag)))
     (ai (ay 3 u6.nd (eQ K T.h0i (ae (dH rfl (cP ["row"] [none]) (eY (kS lq (pv 1) lZ (lH (fo fA au)))) (λ_ _ _ _ _=>(cq 0)) (λ_ _ _ _ _=>dF) (λ_ _ _ _ _=>(nG (K:=K) cD (pv 0)))) ag)))
     (av (aA (aQ (q2 2 3)))))))),?_⟩
 wtm_at "cl";rw[show start Mn [x0]=[some x0,none,none,none]from rfl];obtain⟨ra,rb,xs,hw,h8,bx,qe,q⟩:=h;have hvl:(aj xs).length<=8:=Wf (LI _ _) h8;o_head Rm hw ?_;k_few
 . rename_i z
   exact⟨by simp;decide,qe z H (ar.refl _)⟩
 . rename_i z
   have z:=(by first | exact z | exact We.mp z:0∈xs);refine CF hw h8 bx (λlr H1 us n1 S1 e1 t1=>?_);have hul:=t1.length;rw[wl]at hul;o_head kB (.of e1) (o0:=none) (tl:=[]) rfl (λj y _=>y=.int ((aW xs).getD j 0)) ?_ ?_
   . intro D j x ys o H2 hx inv
     obtain⟨hj,ix⟩:=kU t1 hx;rw[wl]at hj;rw[wb,wq,wc hj]at ix;have ix2:Is K H2 x (kK xs (aj xs)[j]):=ix.by inv.same;o_head aD (j:=1) ix2 rfl (λv3 i3=>?_);o_head Nq i3 ?_;o_head dQ inv () (λ_ _ _ _ _ h=>h) ⟨_,rfl⟩ (ar.refl _) ?_;unfold aW;rw[wb,wq,wc hj]
     rfl
   . intro D ys H2 hn S2 hD hl hr
     have hys:ys=(aW xs).map V.int:=Tn (by rw[hl,hul];unfold aW;rw[wl]) hr;subst hys;o_head rK (.of hD) (λl3 H3 n3 S3 e3=>?_);have i3:Is K H3 (.ref l3) (TZ (aW xs)):=rQ.mpr ⟨l3,rfl,.of e3⟩;have T3:=S2.trans S3;o_head mH (ck.mpr ⟨lr,us,rfl,.of (T3 _ _ e1),ah.same T3 _ _ t1⟩) (λl4 H4 us4 n4 S4 e4 t4=>?_);rw[ny,<- qQ]at t4;o_head kB (.of e4) (o0:=none) (tl:=[]) rfl (λj y H'=>Is K H' y (N ((bC xs).getD j 0))) ?_ ?_
     . intro D' j x ys o H5 hx inv
       obtain⟨hj,ix⟩:=kU t4 hx;have hj2:j<(bC xs).length:=by rw[wl]at hj;exact hj
       have hj8:(bC xs).length<=8:=by unfold bC;rw[xC];lia
       rw[wb,wq,wc (show j<(aj xs).dropLast.length from hj2)]at ix;have ix5:Is K H5 x (kK xs (bC xs)[j]):=ix.by inv.same;o_head aD (j:=0) ix5 rfl (λv6 i6=>?_);o_head dQ inv () eG ⟨_,rfl⟩ (ar.refl _) ?_;rw[wb,wc hj2];exact i6
     . intro D' zs H5 hn5 S5 hD5 hl5 hr5
       have hu4:=t4.length;rw[wl]at hu4;have tz:ah K H5 zs ((bC xs).map N):=eH (by rw[hl5,hu4];rfl) hr5;o_head fR (bX hD5 tz) (λv6 H6 S6 i6=>?_);o_head c6 (ds:=[TZ (aW xs),TN (bC xs)]) ∅ (.cons (i3.by (S4.trans (S5.trans S6))) (.cons i6 .nil)) (λv7 H7 S7 i7=>?_);exact q z v7 H7 (S1.trans (T3.trans (S4.trans (S5.trans (S6.trans S7))))) i7
theorem zyg(h:Cm m xs)(i j:Nat):af (m+2) (xs.getD i 0+(1-xs.getD j 0)):=by
 obtain⟨B,h0,h1,h2⟩:=h
 have key:∀i,∃t:Int,xs.getD i 0=wu t B/\Bd m t:=λi=>by
  rcases wG i xs.length with q | q
  ·rw[wb,wc q]
   exact h2 _ (Wi q)
  ·rw[wb,wI q]
   exact⟨0,by simp,⟨by simp;exact Wm m⟩⟩
 obtain⟨t,et,bt⟩:=key i;obtain⟨z,ez,bz⟩:=key j
 have e2:wu t B+(1-wu z B)=wu (t+B-z) B:=by
  symm
  refine fK () ?_;have q1:=c9 t (show B≠0 by lia);have q2:=c9 z (show B≠0 by lia);have q3:((t+B-z:Int):Rat)=(t:Rat)+(B:Rat)-(z:Rat):=by push_cast;rfl
  rw[q3,<- q1,<- q2]
  grind
 rw[et,ez,e2];exact af.divInt () (((bt.add h1).sub bz).mono ()) (h1.mono ())
def RF(K:wa):Sp:=λvs H Q _=>∃x0 x1 x2 x3,vs=[x0,x1,x2,x3] /\ ∃(a b:Rat)(n i:Int)(xs:List Rat)(m:Nat),x1=.int n/\x3=.int i/\Is K H x0 (R a b)/\Is K H x2 (LN xs)/\af 10 a/\af 10 b/\0<=n/\n<=64/\0<=i/\i<xs.length/\xs.length<=100/\Cm m xs/\m<=8000 /\
 ∀l H' us,H l=none->ar H H'->H' l=some (.lst us)->ah K H' us ((dP a b n.toNat xs i.toNat).map N)->Q (.ref l) H'
theorem zmr{a:Rat}{n i:Int}{v w:V}(h1:Is K H v (R a b))(h2:Is K H w (LN xs))(b1:af 10 a)(b2:af 10 b)(h0:0<=n)(h64:n<=64)(i0:0<=i)(i1:i<xs.length)(hl:xs.length<=100)(hm:Cm m xs)(hm2:m<=8000)
  (q:∀l H' us,H l=none->ar H H'->H' l=some (.lst us)->ah K H' us ((dP a b n.toNat xs i.toNat).map N)->Q (.ref l) H'):RF K [v,.int n,w,.int i] H Q E:=⟨_,_,_,_,rfl,a,b,n,i,xs,m,rfl,rfl,h1,h2,b1,b2,h0,h64,i0,i1,hl,hm,hm2,q⟩
theorem zmi(T:Txt K mg a):aF P w K mg base aN 4 a.Hi a.GY yj (RF K):=by
 refine T.G7.F.ok tR ?_ ?_;wtm_at "b4"
 refine⟨_,(ai (ay 4 tR.nd (ak (zC T) hr T.pe (ae (cj (v:=.ref a.d9) rfl T.fj rfl) (ae (de cD (pv 2) (pv 3) (λ_ _=>rfl)) ag))))
     (ai (ay 5 tR.nd (ak (zF T) hr T.pb (q2 0 1)))
     (ai (jR (i:=6) tR.nd rfl (Or.inl rfl) rfl (cP ["phase","push","wait"] [none,some 5,some 4]) (eY (pv 2)) (λ_ _ _ _ _=>(cq 0)) (λ_ _ _ _ _=>dF) (λ_ _ _ _ _=>(ak (TJ (K:=K) (mg:=mg) (a:=a) T) hr T.A3 (ae (pv 1) (ae (ak (gO (K:=K) (mg:=mg) (a:=a) T) hr T.gh (q2 0 2)) ag)))))
     (ai (ju (cj (v:=.ref a.dD) rfl T.d8 rfl) (mW (pv 6) (pv 3) mM))
     (av (aA (pv 6))))))),?_⟩
 wtm_at "cl";rw[show start MM [x0,x1,x2,x3]=[some x0,some x1,some x2,some x3,none,none,none]from rfl];obtain⟨a',b',n,i,xs,m,rfl,rfl,hr',hx,ba,bb,h0,h64,i0,i1,hl,hm,hm2,q⟩:=h;have bi:af 8000 (xs.getD i.toNat 0):=(hm.get _).mono hm2;have bw:af 8002 (1-xs.getD i.toNat 0):=(af.one.sub bi).mono ⋯;have bf:af 700 (a'^n.toNat):=(ba.pow n.toNat).mono ();have bg:af 1500 (aC a' b' n.toNat):=(ba.aC bb n.toNat).mono ();o_head gL hx i0 i1 (λv1 iv1=>?_);k_few;rename_i v2 H2 S2 iv2;refine Dh (hr'.by S2) ba bb h0 h64 (λv3 H3 S3 iv3=>?_);have T3:=S2.trans S3;have iv2':=iv2.by S3;have hx3:=hx.by T3;clear iv1 iv2 S2 S3 hx hr';k_few;obtain⟨lx,vs,rfl,hs,t⟩:=ck.mp hx3;refine kB hs (o0:=none) (tl:=[some v3,some v2]) rfl (λj v H=>Is K H v (N ((xs.map λx=>push a' b' n.toNat (x+(1-xs.getD i.toNat 0))).getD j 0))) ?_ ?_
 . rintro D j x ys o H1 hx' inv
   obtain⟨hj,ix⟩:=cg t hx';have ix1:=ix.by inv.same;have jv2:=iv2'.by inv.same;have jv3:=iv3.by inv.same;have bx:af 8000 (xs.getD j 0):=(hm.get j).mono hm2;k_few;rename_i v4 H4 S4 iv4;refine Ta (jv3.by S4) iv4 bf bg ((zyg hm j i.toNat).mono ()) (λv5 H5 S5 iv5=>?_);exact dQ inv () eG ⟨_,rfl⟩ (S4.trans S5) (by rw[nS hj,gz];exact iv5)
 . rintro D ys H4 hn S4 e4 hl4 hr4
   have hvl:=t.length;rw[wl]at hvl;have hyl:ys.length=xs.length:=by lia
   clear hs t hx3 iv2' iv3;o_head oy (j:=i.toNat) e4 (by unfold gB;rw[if_pos i0,if_pos ()]) (λH5 E5 e5=>?_);k_few;have hD:=fm T3 hn;refine q D H5 _ hD ((T3.trans S4).grow hD E5) e5 (eH (by rw[Wt,iQ];exact hyl) λj v hv=>?_);rw[WN]at hv
   by_cases hij:i.toNat=j
   . subst hij
     rw[if_pos rfl,if_pos ()]at hv;cases hv;rw[gC _ _ _ _ _ _ (),if_pos rfl];exact eF 0 (T.fb _) rfl rfl
   . rw[if_neg hij]at hv
     have hj:j<xs.length:=by
       rcases wG j ys.length with z | z
       . lia
       . rw[wI z]at hv;cases hv
     have hz:=hr4 j v hv;rw[nS hj]at hz;rw[gC _ _ _ _ _ _ hj,if_neg (WB hij)];exact hz.df (E5.keep e4)
structure cX(a b:Rat)(ns:List Int)(xs:List Rat):Prop where
 ba:af 10 a
 bb:af 10 b
 n0:∀n∈ns,0<=n/\n<=64
 len:ns.length=xs.length+1
 bZ:ns.length<=50
 cm:∃m,Cm m xs/\m+2*ns.length+21*upTo ns ns.length<=8000
theorem GB : ∀{k j:Nat},k<=j->j<=ns.length->upTo ns k<=upTo ns j:=by
 intro k j hk
 induction j with
 | zero => intro _; have : k = 0 := by lia
           subst this;exact wp _
 | succ j ih =>
   intro hj;rcases wG k (j+1)with z | z
   . rw[nP ()]
     have:=ih () ();lia
   . have:k=j+1:=by lia
     subst this;exact wp _
theorem cX.row{a:Rat}(h:cX a b ns xs)(hk:k<=ns.length):∃m,Cm m (aJ a b ns (xs++[0]) k)/\m<=8000:=by
 obtain⟨m,hm,hm2⟩:=h.cm;refine⟨_,(hm.snoc).rows h.ba h.bb k hk,?_⟩;have:=GB (ns:=ns) hk (wp _);lia
def nC(a b:Rat)(ns:List Int)(xs:List Rat):List (List Rat):=(wo (ns.length+1)).map (aJ a b ns (xs++[0]))
theorem pP(a b:Rat)(ns:List Int)(xs:List Rat):(nC a b ns xs).length=ns.length+1:=by simp[nC]
theorem yH{a:Rat}(h:k<=ns.length):(nC a b ns xs).getD k []=aJ a b ns (xs++[0]) k:=by
 unfold nC;rw[wb,wq,vE ()]
 rfl
def NC(K:wa):Sp:=λvs H Q _=>∃x0 x1 x2,vs=[x0,x1,x2] /\ ∃(a b:Rat)(ns:List Int)(xs:List Rat),Is K H x0 (R a b)/\Is K H x1 (TZ ns)/\Is K H x2 (TN xs)/\cX a b ns xs /\ ∀l H',ar H H'->Is K H' (.ref l) (LL (nC a b ns xs))->Q (.ref l) H'
theorem BI{a:Rat}{v w:V}(h1:Is K H v (R a b))(h2:Is K H w (TZ ns))(h3:Is K H u (TN xs))(ok:cX a b ns xs)(q:∀l H',ar H H'->Is K H' (.ref l) (LL (nC a b ns xs))->Q (.ref l) H'):NC K [v,w,u] H Q E:=⟨_,_,_,rfl,a,b,ns,xs,h1,h2,h3,ok,q⟩
theorem EK(T:Txt K mg a):aF P w K mg base aN 5 a.sX a.Jv zc (NC K):=by
 refine T.sR.F.ok zL ?_ ?_;wtm_at "b3"
 refine⟨_,(ai (ay 3 zL.nd (dy (ae (aB cB (iY (show bS _ (.type "list") (fS K)from jS) rfl T.h0m gT (q1 2)) (dy (ae (cj (v:=.ref a.dD) rfl T.d8 rfl) ag))) ag)))
     (ai (d6 w5 rfl (Me rfl T.h0f (q1 1)) (i_ (n:=2) rfl (dU (cT (i:=4) zL.nd rfl (Or.inl rfl)) (dU (cT (i:=5) zL.nd rfl (Or.inl rfl)) jm))) (av (jq (iN vH vN vO iJ (pv 3) (ae (ak (zmi T) hr T.G7 (by exact(@ae _ _ _ _ _ (pv 0) (@ae _ _ _ _ _ (pv 5) (@ae _ _ _ _ _ (de cD (pv 3) (pv 4) (λ_ _=>rfl)) (@ae _ _ _ _ _ (pv 4) ag cu) g_) cu) cu))) ag)))))
     (av (aA (pv 3))))),?_⟩
 wtm_at "cl";rw[show start OR [x0,x1,x2]=[some x0,some x1,some x2,none,none,none]from rfl];obtain⟨a',b',ns,xs,hr',hn',hp',ok,q⟩:=h;have hlen:=ok.len;have hfew:=ok.bZ;o_head pU hp' (λl1 H1 us hl1 S1 e1 t1=>?_);have hul:=t1.length;rw[wl]at hul;o_head dC ∅ (λl2 H2 hl2 S2 e2=>?_);refine jV (S2 _ _ e1) e2 (WA (gF (by simp;lia))) (λl3 H3 hl3 S3 e3=>?_);o_head dC ∅ (λlt H4 hlt S4 e4=>?_);have T4:ar H H4:=S1.trans (S2.trans (S3.trans S4));have e3':=S4 _ _ e3;have ne43:l3≠lt:=λz=>by subst z;rw[e3]at hlt;cases hlt
 have t3:ah K H4 (us++[V.ref a.dD]) ((xs++[0]).map N):=by
   rw[wX];exact(ah.same (S2.trans (S3.trans S4)) _ _ t1).append (.cons (eF 0 (T.fb _) rfl rfl) .nil)
 have hD:=fm (S1.trans (S2.trans S3)) hlt;clear hl1 hl2 hl3 S1 S2 S3 S4 e1 e2 e3 t1 hlt;k_few;obtain⟨an,rfl,hsn⟩:=rQ.mp hn'
 refine zxo (T4.j6 hsn) (λk σ H'=>∃o1 o2 vs,σ = [some x0,some (.ref an),some x2,some (.ref lt),o1,o2]/\ar H H'/\H' lt=some (.lst vs)/\vs.length=k+1 /\ ∀j v,vs[j]? = some v->∃lj ws,v=.ref lj/\lj≠lt/\H' lj=some (.lst ws)/\ah K H' ws ((aJ a' b' ns (xs++[0]) j).map N))
   ⟨_,_,_,rfl,T4,e4,rfl,λj v hv=>?_⟩ (λk σ H' _ ⟨_,_,_,_,s,_⟩=>s.j6 hsn) ?_ ?_
 . match j,hv with
   | 0,e=>cases wZ e;exact⟨l3,_,rfl,ne43,e3',t3⟩
   | j+1,e=>simp at e
 . rintro k x σ H5 t H6 hx ⟨o1,o2,vs,rfl,S5,e5,hl5,hr5⟩ ht S6 e6
   have hk:k<ns.length:=by
     rcases wG k ns.length with z | z
     . exact z
     . rw[wI (by simpa using z)]at hx;cases hx
   have hxv:x=.int (ns.getD k 0):=by
     rw[wq,wc hk]at hx;rw[wb,wc hk];exact(wZ hx).symm
   subst hxv;have hnk:=ok.n0 (ns.getD k 0) (by rw[wb,wc hk];exact Wi hk);refine lA (.of e6) rfl ?_;k_few;have e5':=S6 _ _ e5;refine h_ (aE.of e5') ?_;k_few;have hkv:∃v,vs[k]? = some v:=⟨vs[k]'(),wc ()⟩;obtain⟨v,hv⟩:=hkv;obtain⟨lk,ws,rfl,nek,ek,tk⟩:=hr5 k v hv;refine j5 (aE.of e5') (mQ hv) ?_;k_few;obtain⟨m,hm,hm2⟩:=ok.row (k:=k) ();have hrl:=dm a' b' ns (xs++[0]) k;rw[wN]at hrl;have T6:=S5.trans S6;refine zmr (hr'.by T6) (bX (S6 _ _ ek) (ah.same S6 _ _ tk)) ok.ba ok.bb hnk.1 hnk.2 () (by rw[hrl];simp;lia) (by rw[hrl];simp;lia) hm hm2 (λl7 H7 us7 hl7 S7 e7 t7=>?_);have e5'':=S7 _ _ e5';have ne7:l7≠lt:=λz=>by subst z;rw[e5']at hl7;cases hl7
   o_head iD e5'' () (λH8 E8 e8=>?_);have K8:a_ H7 H8:=E8.keep e5'';refine⟨_,_,_,rfl,(T6.trans S7).grow hD E8,e8,by simp[hl5],λj v hv=>?_⟩;rcases wG j vs.length with z | z
   . rw[Wk z]at hv
     obtain⟨lj,wj,rfl,nej,ej,tj⟩:=hr5 j v hv;exact⟨lj,wj,rfl,nej,E8 _ _ nej (S7 _ _ (S6 _ _ ej)),ah.keep (S6.keep.trans (S7.keep.trans K8)) _ _ (dZ _) tj⟩
   . have hj:j=vs.length:=by
       rcases wG vs.length j with q | q
       . rw[wI (by simp;lia)]at hv;cases hv
       . lia
     subst hj;rw[vQ (wp _),V6]at hv;cases wZ hv;rw[hl5];refine⟨l7,us7,rfl,ne7,E8 _ _ ne7 e7,ah.keep K8 _ _ (dZ _) ?_⟩;rw[aJ]
     simpa using t7
 . rintro σ H5 ⟨o1,o2,vs,rfl,S5,e5,hl5,hr5⟩
   o_head q lt H5 S5 (ck.mpr ⟨lt,vs,rfl,.of e5,Mv (by rw[hl5,pP];simp) λj v hv=>?_⟩)
   have hj:j<vs.length:=by
     rcases wG j vs.length with z | z
     . exact z
     . rw[wI z]at hv;cases hv
   obtain⟨lj,wj,rfl,nej,ej,tj⟩:=hr5 j v hv;rw[yH (by simp at hl5;lia)];exact bX ej tj
def cK(a b:Rat)(ns:List Int)(xs:List Rat):List Rat:=(aJ a b ns (xs++[0]) ns.length).dropLast
def MC(K:wa):Sp:=λvs H Q _=>∃x0 x1 x2,vs=[x0,x1,x2] /\ ∃(a b:Rat)(ns:List Int)(xs:List Rat),Is K H x0 (R a b)/\Is K H x1 (TZ ns)/\Is K H x2 (TN xs)/\cX a b ns xs/\Rs K H Q (TN (cK a b ns xs))
theorem LB{a:Rat}{v w:V}(h1:Is K H v (R a b))(h2:Is K H w (TZ ns))(h3:Is K H u (TN xs))(ok:cX a b ns xs)(q:Rs K H Q (TN (cK a b ns xs))):MC K [v,w,u] H Q E:=⟨_,_,_,rfl,a,b,ns,xs,h1,h2,h3,ok,q⟩
theorem MZ(T:Txt K mg a):aF P w K mg base aN 6 a.HK a.G4 tK (MC K):=by
 refine T.AY.F.ok znr ?_ ?_;wtm_at "b3";refine⟨_,(av (aA (eQ K T.h0i (ae (kS lq (de cD (ak (EK T) hr T.sR (q3 0 1 2)) (fo fA au) (λ_ _=>rfl)) lZ (lH (fo fA au))) ag)))),?_⟩;wtm_at "cl";rw[show start Gx [x0,x1,x2]=[some x0,some x1,some x2]from rfl];obtain⟨a',b',ns,xs,hr',hn',hp',ok,q⟩:=h;o_head BI hr' hn' hp' ok (λl H1 S1 i1=>?_);o_head zwW i1 (by rw[pP];lia) (λv2 i2=>?_);rw[pP,qy,yH (wp _)]at i2;o_head mH i2 (λl3 H3 ys hn3 S3 e3 t3=>?_);rw[ny,<- qQ]at t3;o_head fR (bX e3 t3) (λw H4 S4 i4=>?_);exact q w H4 (S1.trans (S3.trans S4)) i4
theorem Mr{a:Rat}(ok:cX a b ns xs)(c:Cm m xs)(hm:m+2*ns.length+21*upTo ns ns.length<=8000)(hk:k<=ns.length):Cm 8000 (dA a b ns (xs++[0]) k::aJ a b ns (xs++[0]) k):=by
 have h1:=GB (ns:=ns) hk (wp _);exact(c.snoc.tm ok.ba ok.bb (ns:=ns) k hk).mono ()
def Ny(K:wa):Sp:=λvs H Q _=>∃x0 x1 x2,vs=[x0,x1,x2] /\ ∃(a b:Rat)(ns:List Int)(xs:List Rat)(m:Nat),Is K H x0 (R a b)/\Is K H x1 (TZ ns)/\Is K H x2 (TN xs)/\cX a b ns xs/\Cm m xs/\m+2*ns.length+21*upTo ns ns.length<=8000/\Rs K H Q (N (cz a b ns xs))
theorem zpi{a:Rat}{v w:V}(h1:Is K H v (R a b))(h2:Is K H w (TZ ns))(h3:Is K H u (TN xs))(ok:cX a b ns xs)(hm:Cm m xs)(hm2:m+2*ns.length+21*upTo ns ns.length<=8000)(q:Rs K H Q (N (cz a b ns xs))):Ny K [v,w,u] H Q E:=⟨_,_,_,rfl,a,b,ns,xs,m,h1,h2,h3,ok,hm,hm2,q⟩
theorem zpA(T:Txt K mg a):aF P w K mg base aN 6 a.IX a.Ho y9 (Ny K):=by
 refine T.HB.F.ok p8 ?_ ?_;wtm_at "b3"
 refine⟨_,(ai (ay 3 p8.nd (cj (v:=.ref a.dD) rfl T.d8 rfl))
     (ai (ay 4 p8.nd (ak (EK T) hr T.sR (q3 0 1 2)))
     (ai (d6 w5 rfl (fC rfl T.h0j (ae (c8 K T.h0t (q1 1)) ag)) (cT (i:=5) p8.nd rfl (Or.inl rfl)) (av (ay 3 p8.nd (ak (gO T) hr T.gh (ae (pv 3) (ae (ak (zC T) hr T.pe (ae (cj (v:=.ref a.d9) rfl T.fj rfl) (ae (de cD (de cD (pv 4) (pv 5) (λ_ _=>rfl)) (pv 5) (λ_ _=>rfl)) ag))) ag))))))
     (av (aA (pv 3)))))),?_⟩
 wtm_at "cl";rw[show start NT [x0,x1,x2]=[some x0,some x1,some x2,none,none,none]from rfl];obtain⟨a',b',ns,xs,m,hr',hn',hp',ok,hm,hm2,q⟩:=h;o_head BI hr' hn' hp' ok (λl H1 S1 i1=>?_);o_head CP (hn'.by S1) ?_;have hlen:=ok.len;have hfew:=ok.bZ;refine iX (n:=(ns.length:Int)) () () (λk σ H'=>∃v o,σ = [some x0,some x1,some x2,some v,some (.ref l),o]/\ar H1 H'/\Is K H' v (N (dA a' b' ns (xs++[0]) k))) ⟨_,_,rfl,ar.refl _,eF 0 (T.fb _) rfl rfl⟩ ?_ ?_
 . rintro k σ H2 hk ⟨v,o,rfl,S2,iv⟩
   have hk':k<ns.length:=by simpa using hk
   have c:=Mr ok hm hm2 (k:=k) ();have b1:af 8000 (dA a' b' ns (xs++[0]) k):=c.dM (wE ..);have b2:af 8000 ((aJ a' b' ns (xs++[0]) k).getD k 0):=(jk c λy hy=>wA _ hy).get k;have b4:af 8002 (1-(aJ a' b' ns (xs++[0]) k).getD k 0):=(af.one.sub b2).mono ⋯;have i2:=i1.by S2;o_head Su i2 () (by rw[pP];lia) (λv3 i3=>?_);rw[wx,yH ()]at i3;o_head gL i3 () (by rw[dm,wN];simp;lia) (λv4 i4=>?_);rw[wx]at i4;k_few;exact⟨_,_,rfl,S2.trans (ar.trans (by assumption) (by assumption)),by assumption⟩
 . rintro σ H2 ⟨v,o,rfl,S2,iv⟩
   k_few;exact q _ _ (S1.trans S2) iv
def dk(a b:Rat)(ns:List Int)(xs:List Rat):List Rat:=(wo ns.length).map λk=>(aJ a b ns (xs++[0]) (k+1)).getD ((k+1) % ns.length) 0
theorem eX(a b:Rat)(ns:List Int)(xs:List Rat):(dk a b ns xs).length=ns.length:=by simp[dk]
theorem nX{a:Rat}(h:k<ns.length):(dk a b ns xs).getD k 0=(aJ a b ns (xs++[0]) (k+1)).getD ((k+1) % ns.length) 0:=by
 unfold dk;rw[wb,wq,vE h]
 rfl
def Mz(K:wa):Sp:=λvs H Q _=>∃x0 x1 x2,vs=[x0,x1,x2] /\ ∃(a b:Rat)(ns:List Int)(xs:List Rat),Is K H x0 (R a b)/\Is K H x1 (TZ ns)/\Is K H x2 (TN xs)/\cX a b ns xs/\Rs K H Q (TN (dk a b ns xs))
theorem So{a:Rat}{v w:V}(h1:Is K H v (R a b))(h2:Is K H w (TZ ns))(h3:Is K H u (TN xs))(ok:cX a b ns xs)(q:Rs K H Q (TN (dk a b ns xs))):Mz K [v,w,u] H Q E:=⟨_,_,_,rfl,a,b,ns,xs,h1,h2,h3,ok,q⟩
theorem Pu(T:Txt K mg a):aF P w K mg base aN 6 a.iS a.Ko zy (Mz K):=by
 refine T.Bi.F.ok GJ ?_ ?_;wtm_at "b3"
 refine⟨_,(ai (ay 3 GJ.nd (ak (EK T) hr T.sR (q3 0 1 2)))
     (ai (ay 4 GJ.nd (c8 K T.h0t (q1 1)))
     (av (aA (eQ K T.h0i (ae (dH rfl (cP ["turn","rows","count"] [none,some 3,some 4]) (fC rfl T.h0j (q1 4)) (λ_ _ _ _ _=>(cq 0)) (λ_ _ _ _ _=>dF) (λ_ _ _ _ _=>(de (show fF _ (c_ K)from cD) (de (show fF _ (c_ K)from cD) (pv 1) (aB cB (pv 0) au) (λ_ _=>rfl)) (aB gZ (aB cB (pv 0) au) (pv 2)) (λ_ _=>rfl)))) ag)))))),?_⟩
 wtm_at "cl";rw[show start MH [x0,x1,x2]=[some x0,some x1,some x2,none,none]from rfl];obtain⟨a',b',ns,xs,hr',hn',hp',ok,q⟩:=h;have hlen:=ok.len;have hfew:=ok.bZ;o_head BI hr' hn' hp' ok (λl H1 S1 i1=>?_);o_head CP (hn'.by S1) ?_;o_head PK (n:=(ns.length:Int)) () () (o0:=none) (tl:=[some (.ref l),some (.int (ns.length:Int))]) rfl (λi v H=>Is K H v (N ((dk a' b' ns xs).getD i 0))) ?_ ?_
 . rintro D i ys o H2 hi inv
   have hi':i<ns.length:=by simpa using hi
   have i2:=i1.by inv.same;have hn0:(0:Int)<(ns.length:Int):=by lia
   o_head Su i2 () (by rw[pP];lia) (λv3 i3=>?_);rw[show((i:Int)+1).toNat=i+1 by lia,yH ()]at i3;k_few;have e:((i:Int)+1) % (ns.length:Int)=(((i+1) % ns.length:Nat):Int):=by push_cast;rfl
   have hm:(i+1) % ns.length<ns.length:=X5 _ ();rw[e];refine gL i3 () (by rw[dm,wN];simp;lia) (λv4 i4=>?_);rw[wx,<- nX hi']at i4;exact dQ inv () eG ⟨_,rfl⟩ (ar.refl _) i4
 . rintro D ys H2 hn S2 e2 hl2 hr2
   o_head fR (bX e2 (eH (by rw[hl2,eX];simp) hr2)) (λw H3 S3 i3=>?_);exact q w H3 (S1.trans (S2.trans S3)) i3
theorem mB{bs:List Bool}{zs:List V}(hl:zs.length=bs.length)(h:∀j z,zs[j]? = some z->z=V.bl (bs.getD j true)):zs=bs.map V.bl:=by
 refine Vb (by rw[wl];exact hl) λi h1 h2=>?_
 rw[h i _ (wc h1),Vc,wb,wc ()]
 rfl
def cC(xs:List Rat):List Rat:=[1]++xs++[0]
theorem m6(xs:List Rat):(cC xs).length=xs.length+2:=by simp[cC]
def kY(xs:List Rat):List Bool:=(wo (xs.length+1)).map λi=>decide ((cC xs).getD (i+1) 0<(cC xs).getD i 0)
def kF(ts:List Rat):List Bool:=ts.map λx=>decide (x<1)
def dJ(a b:Rat)(ns:List Int)(xs:List Rat):Bool:=(kY xs).all id&&(kF (dk a b ns xs)).all id
theorem zvy(h:i<xs.length+1):(kY xs).getD i true=decide ((cC xs).getD (i+1) 0<(cC xs).getD i 0):=by
 unfold kY;rw[wb,wq,vE h]
 rfl
theorem zxP{ts:List Rat}(h:i<ts.length):(kF ts).getD i true=decide (ts.getD i 0<1):=by
 unfold kF;rw[wb,wq,wb,wc h]
 rfl
theorem zp(h:Cm m xs)(i:Nat):af m ((cC xs).getD i 0):=by
 unfold cC;rcases qD i with rfl | hi
 ·exact af.one.mono h.pos
 ·obtain⟨j,rfl⟩:∃j,i=j+1:=⟨i-1,by lia⟩
  exact h.snoc.get j
theorem Ao{a:Rat}(ok:cX a b ns xs)(hi:i<ns.length):af 8000 ((dk a b ns xs).getD i 0):=by
 rw[nX hi];obtain⟨m,hm,hm2⟩:=ok.row (k:=i+1) ();exact(hm.get _).mono hm2
def N3(K:wa):Sp:=λvs H Q _=>∃x0 x1 x2,vs=[x0,x1,x2] /\ ∃(a b:Rat)(ns:List Int)(xs:List Rat),Is K H x0 (R a b)/\Is K H x1 (TZ ns)/\Is K H x2 (TN xs)/\cX a b ns xs/\Rq H Q (.bl (dJ a b ns xs))
theorem Ew{a:Rat}{v w:V}(h1:Is K H v (R a b))(h2:Is K H w (TZ ns))(h3:Is K H u (TN xs))(ok:cX a b ns xs)(q:Rq H Q (.bl (dJ a b ns xs))):N3 K [v,w,u] H Q E:=⟨_,_,_,rfl,a,b,ns,xs,h1,h2,h3,ok,q⟩
theorem B8(T:Txt K mg a):aF P w K mg base aN 7 a.J7 a.Ja AH (N3 K):=by
 refine T.sO.F.ok LV ?_ ?_;wtm_at "b3"
 refine⟨_,(ai (ay 3 LV.nd (aB cB (aB cB (dy (ae (cj (v:=.ref a.d9) rfl T.fj rfl) ag)) (iY (show bS _ (.type "list") (fS K)from jS) rfl T.h0m gT (q1 2))) (dy (ae (cj (v:=.ref a.dD) rfl T.d8 rfl) ag))))
     (ai (aV (cv (b_ (c7 (show bS _ (.builtin "all") (oS K)from tF rfl) rfl T.h0v u_ (ae (dH rfl (cP ["upper","lower"] [none,none]) (FZ rfl T.h0r (ae (pv 3) (ae (kS lq (pv 3) (lH au) lZ) ag))) (λ_ _ _ _ _=>by exact(show PG _ _ (lO K 2 _)from i_ (n:=2) rfl (dU (cq 0) (dU (cq 1) jm)))) (λ_ _ _ _ _=>dF) (λ_ _ _ _ _=>(ak (g9 (K:=K) (mg:=mg) (a:=a) T) hr T.gg (q2 1 0)))) ag)))) (av (aA dX)) aX)
     (av (aA (c7 (show bS _ (.builtin "all") (oS K)from tF rfl) rfl T.h0v u_ (ae (dH rfl (cP ["top"] [none]) (jM (ak (Pu T) hr T.Bi (q3 0 1 2))) (λ_ _ _ _ _=>(cq 0)) (λ_ _ _ _ _=>dF) (λ_ _ _ _ _=>(ak (g9 (K:=K) (mg:=mg) (a:=a) T) hr T.gg (ae (pv 0) (ae (cj (v:=.ref a.d9) rfl T.fj rfl) ag))))) ag)))))),?_⟩
 wtm_at "cl";rw[show start OS [x0,x1,x2]=[some x0,some x1,some x2,none]from rfl];obtain⟨a',b',ns,xs,hr',hn',hp',ok,q⟩:=h;have hlen:=ok.len;have hfew:=ok.bZ;obtain⟨m,hcm,hcm2⟩:=ok.cm;o_head dC ∅ (λl0 H1 n1 S1 e1=>?_);o_head pU (hp'.by S1) (λl1 H2 us n2 S2 e2 t2=>?_);have hul:=t2.length;rw[wl]at hul;refine jV (S2 _ _ e1) e2 (WA (gF (by simp;lia))) (λl2 H3 n3 S3 e3=>?_);o_head dC ∅ (λl3 H4 n4 S4 e4=>?_);refine jV (S4 _ _ e3) e4 (WA (gF (by simp;lia))) (λl5 H5 n5 S5 e5=>?_);have T5:ar H H5:=S1.trans (S2.trans (S3.trans (S4.trans S5)))
 have t5:ah K H5 ([V.ref a.d9]++us++[V.ref a.dD]) ((cC xs).map N):=by
   unfold cC;rw[wX,wX];exact(ah.append (.cons (eF 1 (T.sZ _) rfl rfl) .nil) (ah.same (S3.trans (S4.trans S5)) _ _ t2)).append (.cons (eF 0 (T.fb _) rfl rfl) .nil)
 have ir5:=hr'.by T5;have in5:=hn'.by T5;have ip5:=hp'.by T5;clear n1 n2 n3 n4 n5 S1 S2 S3 S4 S5 e1 e2 e3 e4 t2 hr' hn' hp';generalize [V.ref a.d9]++us++[V.ref a.dD]=ws at e5 t5;have hws:=t5.length;rw[wl,m6]at hws;o_head mH (bX e5 t5) (λl6 H6 ys n6 S6 e6 t6=>?_);rw[show(1:Int)=((1:Nat):Int)from rfl,zyJ _ _ (by rw[wl,m6];lia),<- uu]at t6;have hys:=t6.length;rw[wl,Wh,m6]at hys;have e56:=S6 _ _ e5;have t56:=ah.same S6 _ _ t5;have T6:=T5.trans S6;have ir6:=ir5.by S6;have in6:=in5.by S6;have ip6:=ip5.by S6;clear ir5 in5 ip5 T5 S6 e5 t5 n6;o_head zyn (t:=false) (u:=false) (aE.of e56) (aE.of e6) () (o0:=none) (o0':=none) (tl:=[]) rfl (λi v H=>v=V.bl ((kY xs).getD i true)) (λ_ _ _ _ _ h=>h) ?_ ?_
 . rintro D i x y zs o1 o2 H7 c hx hy inv e7
   obtain⟨hi,ix⟩:=cg t56 hx;obtain⟨hj,iy⟩:=cg t6 hy;rw[Wh,m6]at hj
   have ed:((cC xs).drop 1).getD i 0=(cC xs).getD (i+1) 0:=by
     rw[wb,xY,wb,Nat.add_comm]
   rw[ed]at iy;have S7:=inv.2.2.1;have b1:af 8000 ((cC xs).getD i 0):=(zp hcm i).mono ();have b2:af 8000 ((cC xs).getD (i+1) 0):=(zp hcm (i+1)).mono ();refine Le (lA (.of e7) rfl ?_);have ix7:=ix.by S7;have iy7:=iy.by S7;k_few;exact rZ inv () (λ_ _ _ _ _ h=>h) ⟨_,_,rfl⟩ (ar.refl _) (by rw[zvy ()])
 . rintro D zs H7 hn S7 e7 hl7 hr7
   have hz:=mB (bs:=kY xs) (by unfold kY;rw[wl,vc];lia) hr7;rw[hz]at e7;o_head rF (.of e7) ?_;k_few
   . rename_i z
     have ef:dJ a' b' ns xs=false:=by unfold dJ;rw[z];rfl
     rw[<- ef];exact q _ (T6.trans S7)
   . rename_i z
     have ef:dJ a' b' ns xs=(kF (dk a' b' ns xs)).all id:=by unfold dJ;rw[z];rfl
     rw[ef]at q;refine So (ir6.by S7) (in6.by S7) (ip6.by S7) ok (λv8 H8 S8 i8=>?_);have T8:=T6.trans (S7.trans S8);obtain⟨a8,us8,rfl,hs8,t8⟩:=bY.mp i8;have hl8:=t8.length;rw[wl,eX]at hl8;refine jw hs8 (o0:=none) (tl:=[]) rfl (λi v H=>v=V.bl ((kF (dk a' b' ns xs)).getD i true)) ?_ ?_
     . rintro D i x ys' o H9 hx inv
       obtain⟨hi,ix⟩:=cg t8 hx;rw[eX]at hi;have ix9:=ix.by inv.same;have b1:af 8000 ((dk a' b' ns xs).getD i 0):=Ao ok hi;have b2:af 8000 1:=af.one.mono ⋯;k_few;exact dQ inv () (λ_ _ _ _ _ h=>h) ⟨_,rfl⟩ (ar.refl _) (by rw[zxP (by rw[eX];exact hi)])
     . rintro D ys' H9 hn9 S9 e9 hl9 hr9
       have hz':=mB (bs:=kF (dk a' b' ns xs)) (by unfold kF;rw[wl,eX];lia) hr9;rw[hz']at e9;o_head rF (.of e9) ?_;exact q _ (T8.trans S9)
def cH(n:Nat):List Rat:=vf n 0
theorem LF(n i:Nat):(cH n).getD i 0=0:=by
 unfold cH;rw[wb,qH]
 split<;>rfl
theorem om(n:Nat):Cm 1 (cH n):=by
 refine⟨1,by decide,⟨by decide⟩,λx hx=>⟨0,?_,⟨by decide⟩⟩⟩;rw[QV hx]
 rfl
def Oh(K:wa):Sp:=λvs H Q _=>∃x0 x1,vs=[x0,x1] /\ ∃(a b:Rat)(ns:List Int),Is K H x0 (R a b)/\Is K H x1 (TZ ns)/\cX a b ns (cH (ns.length-1))/\0<=ns.sum/\ns.sum<=64/\Rs K H Q (.tuple [N (a^ns.sum.toNat),TN (cK a b ns (cH (ns.length-1)))])
theorem r_{a:Rat}{v w:V}(h1:Is K H v (R a b))(h2:Is K H w (TZ ns))(ok:cX a b ns (cH (ns.length-1)))(h0:0<=ns.sum)(h64:ns.sum<=64)(q:Rs K H Q (.tuple [N (a^ns.sum.toNat),TN (cK a b ns (cH (ns.length-1)))])):Oh K [v,w] H Q E:=⟨_,_,rfl,a,b,ns,h1,h2,ok,h0,h64,q⟩
theorem pT(T:Txt K mg a):aF P w K mg base aN 7 a.Jy a.HN zR (Oh K):=by
 refine T.m_.F.ok Cu ?_ ?_;wtm_at "b2"
 refine⟨_,(ai (ay 2 Cu.nd (eA (ak (zF T) hr T.pb (ae (pv 0) (ae (c7 (show bS _ (.builtin "sum") (Cr K)from zwX rfl) rfl T.h0u zq (q1 1)) ag)))))
     (ai (ay 3 Cu.nd (eQ K T.h0i (ae (dH rfl (cP ["size"] [none]) (jM (kS lq (pv 1) (lH au) lZ)) (λ_ _ _ _ _=>(cq 0)) (λ_ _ _ _ _=>dF) (λ_ _ _ _ _=>(cj (v:=.ref a.dD) rfl T.d8 rfl))) ag)))
     (av (aA (aQ (ae (pv 2) (ae (ak (MZ T) hr T.AY (q3 0 1 3)) ag))))))),?_⟩
 wtm_at "cl";rw[show start Mi [x0,x1]=[some x0,some x1,none,none]from rfl];obtain⟨a',b',ns,hr',hn',ok,h0,h64,q⟩:=h;have hlen:=ok.len;have hfew:=ok.bZ;o_head ZX hn' ?_;o_head Dh hr' ok.ba ok.bb h0 h64 (λv1 H1 S1 i1=>?_);k_few;rename_i v2 i2;have hn1:Is K H1 x1 (.tuple (ns.map PyData.int)):=hn'.by S1;refine zAi hn1 ?_ (λv3 H3 S3 i3=>?_)
 . rintro ⟨e,_⟩
   have e':min 1 (ns.map PyData.int).length=0:=e;rw[wl]at e';lia
 rw[zxF]at i3;obtain⟨a3,vs3,rfl,hs3,t3⟩:=bY.mp i3;have hl3:=t3.length;rw[XO,wl]at hl3;have hzl:(cH (ns.length-1)).length=ns.length-1:=Wq ..;o_head jw hs3 (o0:=none) (tl:=[]) rfl (λi v H=>Is K H v (N ((cH (ns.length-1)).getD i 0))) ?_ ?_
 . rintro D i x ys o H4 hx inv
   have hi:i<vs3.length:=by
     rcases wG i vs3.length with z | z
     . exact z
     . rw[wI z]at hx;cases hx
   k_few;exact dQ inv () eG ⟨_,rfl⟩ (ar.refl _) (by rw[LF];exact eF 0 (T.fb _) rfl rfl)
 . rintro D ys H4 hn4 S4 e4 hl4 hr4
   o_head fR (bX (xs:=cH (ns.length-1)) e4 (eH () hr4)) (λv5 H5 S5 i5=>?_);have T5:ar H1 H5:=S3.trans (S4.trans S5);o_head LB ((hr'.by S1).by T5) ((hn'.by S1).by T5) i5 ok (λv6 H6 S6 i6=>?_);k_few;exact c6 ∅ (.cons (i2.by (T5.trans S6)) (.cons i6 .nil)) (λv H' S h=>q v H' (S1.trans (T5.trans (S6.trans S))) h)
def bQ(a b:Rat)(ns:List Int):List Rat:=(cK a b ns (cH (ns.length-1))).map (λs=>s / (1-a^ns.sum.toNat))
theorem oD{a:Rat}(h:ns.length=xs.length+1):(cK a b ns xs).length=xs.length:=by
 unfold cK;rw[xC,dm];simp
theorem Eh{a:Rat}(h:ns.length=xs.length+1)(hi:i<xs.length):(cK a b ns xs).getD i 0=(aJ a b ns (xs++[0]) ns.length).getD i 0:=by
 unfold cK;have hl:(aJ a b ns (xs++[0]) ns.length).length=xs.length+1:=by rw[dm];simp
 rw[wb,wb,List.getElem?_dropLast,if_pos ()]
theorem Ga(h:i<xs.length):(xs++[0]).getD i 0=xs.getD i 0:=by
 rw[wb,wb,Wk h]
theorem sF : (xs++[0]).getD xs.length 0=0:=by
 rw[wb,vQ (wp _),V6]
 rfl
theorem N0:∀{ns:List Int},(∀n∈ns,0<=n)->((ns.map Q4).sum:Int)=ns.sum
 | [],_=>rfl
 | n::ns,h=>by
  have h1:=N0 (ns:=ns) λm hm=>h m (wA _ hm)
  have h2:=h n (wE ..);rw[vd,W4,W4];lia
theorem Oc(h:∀n∈ns,0<=n):upTo ns ns.length=ns.sum.toNat:=by
 have:=N0 h;unfold GM.upTo;rw[Wb];lia
theorem zpD{a:Rat}(h:ns.length=xs.length+1)(hn:∀n∈ns,0<=n)(hi:i<xs.length):(cK a b ns xs).getD i 0=a^ns.sum.toNat*xs.getD i 0+(cK a b ns (cH (ns.length-1))).getD i 0:=by
 have hz:(cH (ns.length-1)).length=xs.length:=by unfold cH;rw[Wq];lia
 have hu:=Oc hn;rw[Eh h hi,Eh () ()];have hr:=Cf a b ns (xs++[0]) (cH (ns.length-1)++[0]) (by simp[hz]) (by simp[h]) xs.length ∅ (by rw[sF];rw[<- hz,sF]) ns.length (wp _) i (by simp;lia);rw[if_neg (),show ns.length-1=xs.length by lia]at hr;rw[show ns.length-1=xs.length by lia]at hz ⊢;rw[sF,Ga hi,Ga (),LF,hu]at hr
 have hl0:(cH xs.length++[0]).getD xs.length 0=0:=by
  have:=sF (xs:=cH xs.length);rw[hz]at this;exact this
 rw[hl0]at hr
 grind
theorem kG{a:Rat}(h:1<=ns.length):(bQ a b ns).length=ns.length-1:=by
 unfold bQ;rw[wl,oD (by unfold cH;rw[Wq];lia)];unfold cH;rw[Wq]
theorem N4{a:Rat}(h:i<(bQ a b ns).length):(bQ a b ns).getD i 0=(cK a b ns (cH (ns.length-1))).getD i 0 / (1-a^ns.sum.toNat):=by
 unfold bQ at *;rw[wl]at h;rw[wb,wq,wb,wc h];rfl
theorem PC{g:Rat}(h:Cm m xs)(bg:af n g)(hg:g≠0):Cm (m+n) (xs.map (λs=>s / g)):=by
 obtain⟨B,h0,bB,hx⟩:=h;have hgn:=sD hg
 have key:∀(t:Int),wu t B / g=wu (t*(g.den:Int)) (B*g.num):=by
  intro t
  conv=>lhs;rw[<- WY g]
  rw[qU,Rat.inv_divInt,xq]
 rcases Int.lt_or_gt_of_ne hgn with z | z
 ·refine⟨B * -g.num,vT h0 (),bB.mul bg.t.neg,λx hxm=>?_⟩
  obtain⟨s,hs,rfl⟩:=wR.mp hxm;obtain⟨t,rfl,bt⟩:=hx s hs;refine⟨-(t*(g.den:Int)),?_,(bt.mul bg.b).neg⟩
  show wu t B / g=_
  rw[key t,Xx,Rat.divInt_neg',Int.neg_neg]
 ·refine⟨B*g.num,vT h0 (),bB.mul bg.t,λx hxm=>?_⟩
  obtain⟨s,hs,rfl⟩:=wR.mp hxm;obtain⟨t,rfl,bt⟩:=hx s hs;exact⟨t*(g.den:Int),key t,bt.mul bg.b⟩
theorem F7{a:Rat}(ba:af 10 a)(bb:af 10 b)(hm:Cm m xs):Cm (m+2*ns.length+21*upTo ns ns.length) (cK a b ns xs):=by
 obtain⟨B,h0,h1,h2⟩:=(hm.snoc).rows ba bb (ns:=ns) ns.length (wp _);exact⟨B,h0,h1,λx hx=>h2 x (xD _ hx)⟩
theorem AD{a:Rat}(ba:af 10 a)(bb:af 10 b)(h8:ns.length<=8)(hu:upTo ns ns.length<=8)(hs:ns.sum.toNat<=8)(hF:a^ns.sum.toNat≠1):Cm 268 (bQ a b ns):=by
 have bF:af 81 (a^ns.sum.toNat):=(ba.pow ns.sum.toNat).mono ();have bg:af 83 (1-a^ns.sum.toNat):=(af.one.sub bF).mono ⋯;have hg:1-a^ns.sum.toNat≠0:=λe=>hF (by grind)
 exact(PC (F7 (ns:=ns) ba bb (om (ns.length-1))) bg hg).mono ()
theorem zsc{a:Rat}(ok:cX a b ns (cH (ns.length-1)))(h8:ns.sum<=8)(i:Nat):af 400 ((cK a b ns (cH (ns.length-1))).getD i 0):=((F7 ok.ba ok.bb (om _)).get i).mono (by
 have h1:=Oc (λn hn=>(ok.n0 n hn).1);have h2:=ok.bZ;lia)
def OA(K:wa):Sp:=λvs H Q _=>∃x0 x1,vs=[x0,x1] /\ ∃(a b:Rat)(ns:List Int),Is K H x0 (R a b)/\Is K H x1 (TZ ns)/\cX a b ns (cH (ns.length-1))/\0<=ns.sum/\ns.sum<=8/\(a^ns.sum.toNat=1->Rq H Q .bM)/\(a^ns.sum.toNat≠1->Rs K H Q (TN (bQ a b ns)))
theorem Ow{a:Rat}{v w:V}(h1:Is K H v (R a b))(h2:Is K H w (TZ ns))(ok:cX a b ns (cH (ns.length-1)))(h0:0<=ns.sum)(h8:ns.sum<=8)(q1:a^ns.sum.toNat=1->Rq H Q .bM)(q2:a^ns.sum.toNat≠1->Rs K H Q (TN (bQ a b ns))):OA K [v,w] H Q E:=⟨_,_,rfl,a,b,ns,h1,h2,ok,h0,h8,q1,q2⟩
theorem LH(T:Txt K mg a):aF P w K mg base aN 8 a.Ky a.JL AB (OA K):=by
 refine T.Bg.F.ok CU ?_ ?_;wtm_at "b2"
 refine⟨_,(ai (ay 2 CU.nd (ak (pT T) hr T.m_ (q2 0 1)))
     (ai (aV (d5 K hu (qi 2) (cj (v:=.ref a.d9) rfl T.fj rfl)) (av (aA eT)) aX)
     (ai (ay 3 CU.nd (ak (zC T) hr T.pe (ae (cj (v:=.ref a.d9) rfl T.fj rfl) (ae (qi 2) ag))))
     (av (aA (eQ K T.h0i (ae (dH rfl (cP ["shift","gap"] [none,some 3]) (jM (qi 2)) (λ_ _ _ _ _=>(cq 0)) (λ_ _ _ _ _=>dF) (λ_ _ _ _ _=>(ak (Mm (K:=K) (mg:=mg) (a:=a) T) hr T.Bh (q2 0 1)))) ag))))))),?_⟩
 wtm_at "cl";rw[show start Mc [x0,x1]=[some x0,some x1,none,none]from rfl];obtain⟨ra,rb,ns,hr',hn',ok,h0,h8,q1,q2⟩:=h;have bF:af 100 (ra^ns.sum.toNat):=(ok.ba.pow ns.sum.toNat).mono ();o_head r_ hr' hn' ok h0 () (λv1 H1 S1 i1=>?_);o_head aD (j:=0) i1 rfl (λv2 i2=>?_);k_few
 . rename_i z
   exact q1 z H1 S1
 . rename_i z
   refine aD (j:=0) i1 rfl (λv3 i3=>?_);k_few;rename_i v4 H4 S4 i4;have hg:(1-ra^ns.sum.toNat)≠0:=λe=>z (by grind)
   have bg:af 102 (1-ra^ns.sum.toNat):=(af.one.sub bF).mono ⋯;refine aD (j:=1) (i1.by S4) rfl (λv5 i5=>?_);obtain⟨ap,us,rfl,hu,tu⟩:=bY.mp i5;refine jw (o0:=none) (tl:=[some v4]) hu rfl (λj y H'=>Is K H' y (N ((bQ ra rb ns).getD j 0))) ?_ ?_
   . intro D i x ys o H5 hx inv
     obtain⟨hi,ix⟩:=cg tu hx;have ix5:=ix.by inv.same;have i45:=i4.by inv.same
     have hi1000:i<=1000:=by
       have h1:=ok.len;have h2:=ok.bZ;have h3:=oD (a:=ra) (b:=rb) (show ns.length=(cH (ns.length-1)).length+1 from ok.len);lia
     o_head Lq ix5 i45 ((zsc ok h8 i).mono ⋯) (bg.mono ⋯) hg (λv6 H6 S6 i6=>?_);k_few
     have e:(bQ ra rb ns).getD i 0=(cK ra rb ns (cH (ns.length-1))).getD i 0 / (1-ra^ns.sum.toNat):=by
       unfold bQ;rw[wb,wq,wb,wc hi];rfl
     exact dQ inv hi1000 eG ⟨_,rfl⟩ S6 (by rw[e];exact i6)
   . intro D ys H5 hn S5 hD hl hr5
     have hl':ys.length=(bQ ra rb ns).length:=by
       unfold bQ;rw[hl,tu.length,wl,wl]
     refine fR (bX hD (eH hl' hr5)) (λw H6 S6 i6=>?_);k_few;exact q2 z w H6 (S1.trans (S4.trans (S5.trans S6))) i6
def fZ(p q:Rat)(xs ss:List Rat):List Rat:=(wo xs.length).map λi=>p*xs.getD i 0+q*ss.getD i 0
theorem nA(p q:Rat)(xs ss:List Rat):(fZ p q xs ss).length=xs.length:=by unfold fZ;rw[wl,vc]
theorem NA{p q:Rat}(h:i<xs.length):(fZ p q xs ss).getD i 0=p*xs.getD i 0+q*ss.getD i 0:=by
 unfold fZ;rw[wb,wq,vE h];rfl
def Ly(K:wa):Sp:=λvs H Q _=>∃x0 x1 x2 x3,vs=[x0,x1,x2,x3] /\ ∃(d:wD)(p q:Rat)(xs ss:List Rat),Is K H x0 (.tuple [d,TN ss])/\Is K H x1 (TN xs)/\Is K H x2 (N p)/\Is K H x3 (N q)/\ss.length=xs.length/\xs.length<=50/\af 2000 p/\af 2000 q/\(∀i,af 6900 (xs.getD i 0))/\(∀i,af 6900 (ss.getD i 0))/\Rs K H Q (TN (fZ p q xs ss))
theorem Ti{p q':Rat}{v w z:V}(h0:Is K H v (.tuple [d,TN ss]))(h1:Is K H w (TN xs))(h2:Is K H u (N p))(h3:Is K H z (N q'))(hl:ss.length=xs.length)(hf:xs.length<=50)(b1:af 2000 p)(b2:af 2000 q')(b3:∀i,af 6900 (xs.getD i 0))(b4:∀i,af 6900 (ss.getD i 0))(q:Rs K H Q (TN (fZ p q' xs ss))):Ly K [v,w,u,z] H Q E:=⟨_,_,_,_,rfl,d,p,q',xs,ss,h0,h1,h2,h3,hl,hf,b1,b2,b3,b4,q⟩
theorem RE(T:Txt K mg a):aF P w K mg base aN 3 a.Ke a.IV x_ (Ly K):=by
 refine T.A_.F.ok zuy ?_ ?_;wtm_at "b4";refine⟨_,(av (aA (eQ K T.h0i (ae (dH rfl (cP ["place","shift","of_place","of_shift"] [none,none,some 2,some 3]) (zBO rfl T.h0r (ae (pv 1) (ae (qi 0) ag))) (λ_ _ _ _ _=>by exact(show PG _ _ (lO K 2 _)from i_ (n:=2) rfl (dU (cq 0) (dU (cq 1) jm)))) (λ_ _ _ _ _=>dF) (λ_ _ _ _ _=>(ak (gO (K:=K) (mg:=mg) (a:=a) T) hr T.gh (ae (ak (zev (K:=K) (mg:=mg) (a:=a) T) hr T.kb (q2 2 0)) (ae (ak (zev (K:=K) (mg:=mg) (a:=a) T) hr T.kb (q2 3 1)) ag))))) ag)))),?_⟩;wtm_at "cl";rw[show start FO [x0,x1,x2,x3]=[some x0,some x1,some x2,some x3]from rfl];obtain⟨d,p,q',xs,ss,h0,h1,h2,h3,hl,hf,b1,b2,b3,b4,q⟩:=h;obtain⟨a1,us,rfl,hs1,t1⟩:=bY.mp h1;o_head aD (j:=1) h0 rfl (λv5 i5=>?_);obtain⟨a2,ws,rfl,hs2,t2⟩:=bY.mp i5;have l1:=t1.length;have l2:=t2.length;rw[wl]at l1 l2;o_head Og (t:=true) (u:=true) hs1 hs2 () (o0:=none) (o0':=none) (tl:=[some x2,some x3]) rfl (λj y H'=>Is K H' y (N ((fZ p q' xs ss).getD j 0))) eG ?_ ?_
 ·intro D j y z zs o1 o2 H7 c hy hz inv hc
  obtain⟨hj,iy⟩:=cg t1 hy;obtain⟨_,iz⟩:=cg t2 hz;have S7:=inv.2.2.1;have iy7:=iy.by S7;have iz7:=iz.by S7;have ip7:=h2.by S7;have iq7:=h3.by S7;have c1:=b3 j;have c2:=b4 j;have m1:af 8999 (p*xs.getD j 0):=(b1.mul c1).mono ⋯;have m2:af 8999 (q'*ss.getD j 0):=(b2.mul c2).mono ⋯;refine lA (.of hc) rfl ?_;k_few;rename_i v8 H8 S8 i8 v9 H9 S9 i9 v10 H10 S10 i10;rw[<- NA hj]at i10;exact rZ inv () eG ⟨_,_,rfl⟩ (S8.trans (S9.trans S10)) i10
 ·intro D zs H7 hn S7 hD hl7 hr7
  have tz:ah K H7 zs ((fZ p q' xs ss).map N):=eH (by rw[hl7,nA];lia) hr7;o_head fR (bX hD tz) (λv8 H8 S8 i8=>?_);exact q v8 H8 (S7.trans S8) i8
structure cJ(ns:List Int):Prop where
 some:1<=ns.length
 bZ:ns.length<=8
 each:∀n∈ns,1<=n/\n<=8
 sum:ns.sum<=8
theorem yt:∀{ns:List Int},(∀n∈ns,0<=n)->((ns.map Q4).sum:Int)=ns.sum
 | [],_=>rfl
 | n::ns,h=>by
  have h1:=yt (ns:=ns) λm hm=>h m (wA _ hm)
  have h2:=h n (wE ..);rw[vd,W4,W4];lia
theorem cJ.upTo(h:cJ ns):upTo ns ns.length<=8:=by
 have h1:=yt (ns:=ns) λn hn=>by have:=h.each n hn;lia
 have h2:=h.sum;unfold GM.upTo;rw[Wb];lia
def cf(a b:Rat)(ns:List Int):List Rat:=cK a b ns (cH (ns.length-1))
def bL(a b:Rat)(ns:List Int)(n:Nat)(xs:List Rat):List Rat:=(wo xs.length).map λi=>fg (a^ns.sum.toNat) ((cf a b ns).getD i 0) n (xs.getD i 0)
theorem pQ(n:Nat):(cH n).length=n:=Wq ..
theorem kT{a:Rat}(h:1<=ns.length):(cf a b ns).length=ns.length-1:=by
 unfold cf;rw[oD (by rw[pQ];lia),pQ]
theorem cA(a b:Rat)(ns:List Int)(n:Nat)(xs:List Rat):(bL a b ns n xs).length=xs.length:=by unfold bL;rw[wl,vc]
theorem gk{a:Rat}(h:i<xs.length):(bL a b ns n xs).getD i 0=fg (a^ns.sum.toNat) ((cf a b ns).getD i 0) n (xs.getD i 0):=by
 unfold bL;rw[wb,wq,vE h];rfl
theorem pH{ys:List Rat}(hl:xs.length=ys.length)(h:∀i,i<xs.length->xs.getD i 0=ys.getD i 0):xs=ys:=Vb hl λi h1 h2=>by
 have:=h i h1;rw[wb,wb,wc h1,wc h2]at this;exact this
theorem mI(a b:Rat)(ns:List Int)(xs:List Rat):bL a b ns 0 xs=xs:=pH (cA ..) λi hi=>by
 rw[cA]at hi;rw[gk hi,zxI]
theorem DI(a b:Rat)(ns:List Int)(m n:Nat)(xs:List Rat):bL a b ns n (bL a b ns m xs)=bL a b ns (m+n) xs:=pH (by rw[cA,cA,cA]) λi hi=>by
 rw[cA,cA]at hi;rw[gk (by rw[cA];exact hi),gk hi,gk hi,ZK]
theorem pN{a:Rat}(h:ns.length=xs.length+1)(hn:∀n∈ns,0<=n):bL a b ns 1 xs=cK a b ns xs:=pH (by rw[cA,oD h]) λi hi=>by
 rw[cA]at hi;rw[gk hi,CV,zpD h hn hi]
 rfl
structure dG(a b:Rat)(ns:List Int)(n:Nat):Prop where
 ok:aR a b
 sz:cJ ns
 bZ:n<=60
 k:(6*ns.sum.toNat+1+1)*n<=1600
theorem yN{a:Rat}(h:aR a b):af 6 a:=by
 have h1:=h.a0;have h2:=h.a4;have h3:=h.ad;have n0:0<=a.num:=qG.mpr (vX h1)
 have n1:a.num<=4*a.den:=by
  have:=(xz a 4).mp h2
  simpa using this
 have e:(2:Nat)^6=64:=by decide
 exact⟨⟨by rw[e];lia⟩,⟨by rw[e];lia⟩⟩
theorem ie{a:Rat}(h:aR a b)(S:Nat):af (6*S+1) (a^S):=(yN h).pow S
theorem dG.le{a:Rat}(h:dG a b ns n)(e:m<=n):dG a b ns m:=⟨h.ok,h.sz,Wf e h.bZ,Wf (Qi _ e) h.k⟩
theorem dG.pow{a:Rat}(h:dG a b ns n)(hi:i<=n):af 1601 ((a^ns.sum.toNat)^i):=((ie h.ok _).pow i).mono (by
 have h1:=(h.le hi).k;have h2:=vU i (show 6*ns.sum.toNat+1<=6*ns.sum.toNat+1+1 by lia);lia)
theorem dG.aC{a:Rat}(h:dG a b ns n)(hi:i<=n):af 1601 (aC (a^ns.sum.toNat) 1 i):=(O2 (ie h.ok _) i).mono (by have:=(h.le hi).k;lia)
theorem oQ{a:Rat}(h:aR a b)(k:cJ ns):cX a b ns (cH (ns.length-1)):=⟨h.ba,h.bb,λn hn=>by have:=k.each n hn;lia,by rw[pQ];have:=k.some;lia,by have:=k.bZ;lia,⟨1,om _,by have:=k.bZ;have:=k.upTo;lia⟩⟩
theorem BZ{a:Rat}(h:aR a b)(k:cJ ns):Cm 185 (cf a b ns):=(F7 (ns:=ns) h.ba h.bb (om (ns.length-1))).mono (by have:=k.bZ;have:=k.upTo;lia)
theorem sG{a:Rat}(h:aR a b)(k:cJ ns)(i:Nat):af 185 ((cf a b ns).getD i 0):=(BZ h k).get i
theorem cJ.nn(k:cJ ns):∀n∈ns,0<=n:=λn hn=>by have:=k.each n hn;lia
theorem cJ.pos(k:cJ ns):1<=ns.sum/\ns.sum<=8:=by
 refine⟨?_,k.sum⟩;have h1:=yt k.nn;have h2:=k.some
 match ns,h2,k.each with
 | n::ns,_,he =>
  have:=he n (wE ..);rw[vd,W4]at h1;lia
theorem kn{a:Rat}(h:aR a b){S:Nat}(hS:1<=S):a^S=1 ↔ a=1:=by
 obtain⟨m,rfl⟩:∃m,S=m+1:=⟨S-1,by lia⟩
 constructor
 ·intro e
  by_cases z:a<1
  ·have:=zvz h.a0 z m
   rw[e]at this;exact absurd this (by grind)
  ·by_cases y:a=1
   ·exact y
   ·have z3:1<a:=qz (Vi.mp z) (WB y)
    have:=Z_ z3 m;rw[e]at this;exact absurd this (by grind)
 ·intro e
  rw[e,GM.one_pow']
theorem zX{a:Rat}(hF:a^ns.sum.toNat≠1)(hi:i<(bQ a b ns).length):(bQ a b ns).getD i 0*(1-a^ns.sum.toNat)=(cf a b ns).getD i 0:=by
 rw[N4 hi];exact WJ (λe=>hF (by grind))
theorem zAs{a:Rat}(h:aR a b)(S n:Nat):af ((6*S+3)*n+1) ((a^S)^n):=((ie h S).pow n).mono (by have:=vU n (show 6*S+1<=6*S+3 by lia);lia)
theorem Sa{a:Rat}(h:aR a b)(S n:Nat):af ((6*S+3)*n+1) (aC (a^S) 1 n):=(O2 (ie h S) n).mono (by have:=vU n (show 6*S+1+1<=6*S+3 by lia);lia)
def OL(K:wa):Sp:=λvs H Q _=>∃x0 x1 x2,vs=[x0,x1,x2] /\ ∃(F:Rat)(n:Int)(xs ss:List Rat),x2=.int n/\Is K H x0 (.tuple [N F,TN ss])/\Is K H x1 (TN xs)/\0<=n/\n<=64/\ss.length=xs.length/\xs.length<=50/\af 2000 F/\(∀i,i<=n.toNat->af 2000 (F^i))/\(∀i,i<=n.toNat->af 2000 (aC F 1 i))/\(∀i,af 6900 (xs.getD i 0))/\(∀i,af 6900 (ss.getD i 0))/\Rs K H Q (TN ((wo xs.length).map λi=>fg F (ss.getD i 0) n.toNat (xs.getD i 0)))
theorem MF{F:Rat}{n:Int}{v w:V}(h0:Is K H v (.tuple [N F,TN ss]))(h1:Is K H w (TN xs))(n0:0<=n)(n1:n<=64)(hl:ss.length=xs.length)(hf:xs.length<=50)(b0:af 2000 F)(b1:∀i,i<=n.toNat->af 2000 (F^i))(b2:∀i,i<=n.toNat->af 2000 (aC F 1 i))(b3:∀i,af 6900 (xs.getD i 0))(b4:∀i,af 6900 (ss.getD i 0))(q:Rs K H Q (TN ((wo xs.length).map λi=>fg F (ss.getD i 0) n.toNat (xs.getD i 0)))):OL K [v,w,.int n] H Q E:=⟨_,_,_,rfl,F,n,xs,ss,rfl,h0,h1,n0,n1,hl,hf,b0,b1,b2,b3,b4,q⟩
theorem Mj(T:Txt K mg a):aF P w K mg base aN 4 a.Ku a.Jm z5 (OL K):=by
 refine T.Bc.F.ok Tq ?_ ?_;wtm_at "b3"
 refine⟨_,(ai (ay 3 Tq.nd (ak (zF T) hr T.pb (ae (aQ (ae (qi 0) (ae (cj (v:=.ref a.d9) rfl T.fj rfl) ag))) (q1 2))))
     (av (aA (ak (RE T) hr T.A_ (by exact(@ae _ _ _ _ _ (pv 0) (@ae _ _ _ _ _ (pv 1) (@ae _ _ _ _ _ (qi 3) (@ae _ _ _ _ _ (qi 3) ag g_) g_) cu) cu)))))),?_⟩
 wtm_at "cl";rw[show start Nf [x0,x1,x2]=[some x0,some x1,some x2,none]from rfl];obtain⟨F,n,xs,ss,rfl,h0,h1,n0,n1,hl,hf,b0,b1,b2,b3,b4,q⟩:=h;o_head aD (j:=0) h0 rfl (λv1 i1=>?_);o_head Fs i1 (eF 1 (T.sZ _) rfl rfl) (λv2 H2 S2 i2=>?_);o_head Mw i2 (b0.mono ⋯) (af.one.mono ⋯) n0 n1 (λi hi=>(b1 i hi).mono ⋯) (λi hi=>(b2 i hi).mono ⋯) (λv3 H3 S3 i3=>?_);k_few;rename_i v4 i4 v5 i5;have T3:=S2.trans S3;refine Ti (h0.by T3) (h1.by T3) i4 i5 hl hf (b1 _ (wp _)) (b2 _ (wp _)) b3 b4 (λv6 H6 S6 i6=>?_);exact q v6 H6 (T3.trans S6) i6
def RM(K:wa):Sp:=λvs H Q _=>∃x0 x1 x2 x3,vs=[x0,x1,x2,x3] /\ ∃(ra rb:Rat)(ns:List Int)(xs:List Rat)(n:Int),x3=.int n/\Is K H x0 (R ra rb)/\Is K H x1 (TZ ns)/\Is K H x2 (TN xs)/\ns.length=xs.length+1/\0<=n/\dG ra rb ns n.toNat/\(∀i,af 6900 (xs.getD i 0))/\Rs K H Q (TN (bL ra rb ns n.toNat xs))
theorem zl3{n:Int}{v w:V}(h0:Is K H v (R ra rb))(h1:Is K H w (TZ ns))(h2:Is K H u (TN xs))(hl:ns.length=xs.length+1)(n0:0<=n)(ok:dG ra rb ns n.toNat)(b:∀i,af 6900 (xs.getD i 0))(q:Rs K H Q (TN (bL ra rb ns n.toNat xs))):RM K [v,w,u,.int n] H Q E:=⟨_,_,_,_,rfl,ra,rb,ns,xs,n,rfl,h0,h1,h2,hl,n0,ok,b,q⟩
theorem zl6(T:Txt K mg a):aF P w K mg base aN 8 a.Hu a.GX tI (RM K):=by
 refine T.G2.F.ok ZZ ?_ ?_;wtm_at "b4";refine⟨_,(av (aA (ak (Mj T) hr T.Bc (ae (ak (pT T) hr T.m_ (q2 0 1)) (q2 2 3))))),?_⟩;wtm_at "cl";rw[show start Bv [x0,x1,x2,x3]=[some x0,some x1,some x2,some x3]from rfl];obtain⟨ra,rb,ns,xs,n,rfl,hr',hn',hx',hl,n0,ok,bx,q⟩:=h;have h8:=ok.sz.bZ;have hp:=ok.sz.pos;have hn60:=ok.bZ;o_head r_ hr' hn' (oQ ok.ok ok.sz) () () (λv1 H1 S1 i1=>?_);o_head MF (ss:=cf ra rb ns) i1 (hx'.by S1) n0 () (by rw[kT ()];lia) () (by have:=ok.sz.sum;exact(ie ok.ok _).mono ()) (λi hi=>(ok.pow hi).mono ⋯) (λi hi=>(ok.aC hi).mono ⋯) bx (λi=>(sG ok.ok ok.sz i).mono ⋯) (λv2 H2 S2 i2=>?_);exact q v2 H2 (S1.trans S2) i2
theorem U6{k:Nat}{F:Rat}(h:af k F):∀i:Nat,∃U:Int,GM.sumTo (aC F 1) i=wu U ((F.den:Int)^i)/\Bd ((k+2)*i+2) U
 | 0=>⟨0,by simp[GM.sumTo],⟨by simp⟩⟩
 | i+1=>by
  obtain⟨U,e,bU⟩:=U6 h i;obtain⟨T,e2,bT,bd⟩:=z7 h i;have hd:(F.den:Int)^i≠0:=VU (fT F);have hd1:(F.den:Int)^(i+1)≠0:=VU (fT F);have ed:(F.den:Int)^(i+1)=(F.den:Int)^i*(F.den:Int):=VI ..;have h1:(k+2)*(i+1)=(k+2)*i+(k+2):=qx ..;have h2:(k+1)*i<=(k+2)*i:=vU i ();refine⟨(U+T)*(F.den:Int),?_,((bU.add bT).mul h.b).mono ()⟩
  symm
  refine fK hd1 ?_;have k1:=c9 U hd;have k2:=c9 T hd;have e3:(((U+T)*(F.den:Int):Int):Rat)=((U:Rat)+(T:Rat))*((F.den:Int):Rat):=by rw[vR,VT]
  rw[GM.sumTo,e,e2,ed,vR,e3,<- k1,<- k2]
  grind
theorem Rb{F:Rat}(h:af k F)(i:Nat):af ((k+2)*i+2) (GM.sumTo (aC F 1) i):=by
 obtain⟨U,e,bU⟩:=U6 h i;obtain⟨T,e2,bT,bd⟩:=z7 h i;rw[e];exact af.divInt (VU (fT F)) bU (bd.mono (by have:=vU i (show k<=k+2 by lia);lia))
theorem dG.sums{a:Rat}(h:dG a b ns n)(hi:i<=n):af 1662 (GM.sumTo (GM.aC (a^ns.sum.toNat) 1) i):=(Rb (ie h.ok _) i).mono (by
 have h1:=(h.le hi).k;have h2:=(h.le hi).bZ;have e:(6*ns.sum.toNat+1+2)*i=(6*ns.sum.toNat+1+1)*i+i:=by rw[<- qw]
 lia)
theorem zAR(F s x:Rat)(n:Nat):GM.sumTo (λk=>fg F s k x) n=aC F 1 n*x+GM.sumTo (aC F 1) n*s:=by
 unfold fg;rw[C1]
 have e1:GM.sumTo (λk=>F^k*x) n=aC F 1 n*x:=by
  rw[<- Gd F n,VM,<- yi];exact mZ n λk _=>VM ..
 have e2:GM.sumTo (λk=>aC F 1 k*s) n=GM.sumTo (aC F 1) n*s:=by
  rw[VM (GM.sumTo (aC F 1) n) s,<- yi];exact mZ n λk _=>VM ..
 rw[e1,e2]
def OW(K:wa):Sp:=λvs H Q _=>∃x0 x1 x2,vs=[x0,x1,x2] /\ ∃(a b:Rat)(ns:List Int)(n:Int)(xs:List Rat),x2=.int n/\Is K H x0 (.tuple [N (a^ns.sum.toNat),TN (cf a b ns)])/\Is K H x1 (TN xs)/\0<=n/\dG a b ns n.toNat/\ns.length=xs.length+1/\(∀i,af 6900 (xs.getD i 0))/\Rs K H Q (TN (fZ (aC (a^ns.sum.toNat) 1 n.toNat) (GM.sumTo (aC (a^ns.sum.toNat) 1) n.toNat) xs (cf a b ns)))
theorem zk6{a:Rat}{n:Int}{v w:V}(h0:Is K H v (.tuple [N (a^ns.sum.toNat),TN (cf a b ns)]))(h1:Is K H w (TN xs))(n0:0<=n)(ok:dG a b ns n.toNat)(hl:ns.length=xs.length+1)(bx:∀i,af 6900 (xs.getD i 0))(q:Rs K H Q (TN (fZ (aC (a^ns.sum.toNat) 1 n.toNat) (GM.sumTo (aC (a^ns.sum.toNat) 1) n.toNat) xs (cf a b ns)))):OW K [v,w,.int n] H Q E:=⟨_,_,_,rfl,a,b,ns,n,xs,rfl,h0,h1,n0,ok,hl,bx,q⟩
theorem zlA(T:Txt K mg a):aF P w K mg base aN 4 a.He a.GR Ak (OW K):=by
 refine T.GS.F.ok og ?_ ?_;wtm_at "b3"
 refine⟨_,(ai (ay 3 og.nd (cj (v:=.ref a.dD) rfl T.d8 rfl))
     (ai (ay 4 og.nd (cj (v:=.ref a.dD) rfl T.d8 rfl))
     (ai (d6 w5 rfl (fC rfl T.h0j (q1 2)) (cT (i:=5) og.nd rfl (Or.inl rfl)) (ai (ay 4 og.nd (ak (gO T) hr T.gh (q2 4 3)))
     (av (ay 3 og.nd (ak (gO T) hr T.gh (ae (ak (zev T) hr T.kb (ae (qi 0) (q1 3))) (ae (cj (v:=.ref a.d9) rfl T.fj rfl) ag)))))))
     (av (aA (ak (RE T) hr T.A_ (by exact(@ae _ _ _ _ _ (pv 0) (@ae _ _ _ _ _ (pv 1) (@ae _ _ _ _ _ (pv 3) (@ae _ _ _ _ _ (pv 4) ag cu) cu) cu) cu)))))))),?_⟩
 wtm_at "cl";rw[show start Te [x0,x1,x2]=[some x0,some x1,some x2,none,none,none]from rfl];obtain⟨ra,rb,ns,n,xs,rfl,h0,h1,n0,ok,hl,bx,q⟩:=h;have h8:=ok.sz.bZ;have h60:=ok.bZ;have bF:af 49 (ra^ns.sum.toNat):=(ie ok.ok _).mono (by have:=ok.sz.sum;lia);generalize hF:ra^ns.sum.toNat=F at *;o_head iX (n:=n) () () (λi σ H'=>∃(f g:V)(o:Option V),σ = [some x0,some x1,some (.int n),some f,some g,o]/\ar H H'/\Is K H' f (N (aC F 1 i))/\Is K H' g (N (GM.sumTo (aC F 1) i))) ⟨_,_,_,rfl,ar.refl H,eF 0 (T.fb _) rfl rfl,eF 0 (T.fb _) rfl rfl⟩ ?_ ?_
 . rintro i σ H' hi ⟨f,g,o,rfl,S1,hf,hg⟩
   have h01:=h0.by S1;have bf:af 1601 (aC F 1 i):=by rw[<- hF];exact ok.aC ()
   have bg:af 1662 (GM.sumTo (aC F 1) i):=by rw[<- hF];exact ok.sums ()
   have bm:af 1700 (F*aC F 1 i):=(bF.mul bf).mono ⋯;k_few;rename_i v2 H2 S2 i2;refine aD (j:=0) (h01.by S2) rfl (λv3 i3=>?_);have hf2:=hf.by S2;k_few;rename_i v4 H4 S4 i4 v5 H5 S5 i5;exact⟨_,_,_,rfl,S1.trans (S2.trans (S4.trans S5)),i5,i2.by (S4.trans S5)⟩
 . rintro σ H' ⟨f,g,o,rfl,S1,hf,hg⟩
   have bf:af 2000 (aC F 1 n.toNat):=by rw[<- hF];exact(ok.aC (wp _)).mono ⋯
   have bg:af 2000 (GM.sumTo (aC F 1) n.toNat):=by rw[<- hF];exact(ok.sums (wp _)).mono ⋯
   o_head Ti (h0.by S1) (h1.by S1) hf hg (by rw[kT ()];lia) () bf bg bx (λi=>(sG ok.ok ok.sz i).mono ⋯) (λv2 H2 S2 i2=>?_);exact q v2 H2 (S1.trans S2) i2
theorem SF{c d:Nat}{p q:Rat}(hx:Cm m xs)(hs:Cm j ss)(bp:af c p)(bq:af d q):Cm (m+j+c+d+1) (fZ p q xs ss):=by
 obtain⟨B,h0,h1,h2⟩:=hx;obtain⟨D,g0,g1,g2⟩:=hs;have hb:0<B*(p.den:Int)*(D*(q.den:Int)):=vT (vT h0 (den_pos p)) (vT g0 (den_pos q));refine⟨_,hb,((h1.mul bp.b).mul (g1.mul bq.b)).mono (),λx hx=>?_⟩;obtain⟨i,hi,rfl⟩:=wR.mp hx;have hi:=wF.mp hi;obtain⟨u,eu,bu⟩:=h2 _ (getD_mem (d:=0) hi)
 have hv:∃v:Int,ss.getD i 0=wu v D/\Bd j v:=by
  rcases wG i ss.length with z | z
  ·exact g2 _ (getD_mem z)
  ·rw[wb,wI z]
   exact⟨0,by simp,⟨by simp;exact Wm j⟩⟩
 obtain⟨v,ev,bv⟩:=hv;refine⟨p.num*u*(D*(q.den:Int))+q.num*v*(B*(p.den:Int)),?_,(((bp.t.mul bu).mul (g1.mul bq.b)).add ((bq.t.mul bv).mul (h1.mul bp.b))).mono ()⟩
 symm
 show wu _ _=p*xs.getD i 0+q*ss.getD i 0
 refine fK () ?_;have k1:=c9 u (show B≠0 by lia);have k2:=c9 v (show D≠0 by lia);have k3:=jO p;have k4:=jO q;rw[eu,ev];simp only[VT,vR];rw[<- k1,<- k2,<- k3,<- k4];generalize wu u B=y;generalize wu v D=z;generalize (B:Rat)=B';generalize (D:Rat)=D';generalize ((p.den:Int):Rat)=P';generalize ((q.den:Int):Rat)=Q'
 grind
theorem zDq{a:Rat}(ok:dG a b ns n)(c:Cm m xs):Cm (m+188+2*((6*ns.sum.toNat+3)*n)) (bL a b ns n xs):=(SF c (BZ ok.ok ok.sz) (zAs ok.ok _ n) (Sa ok.ok _ n)).mono ()
def gx(a b:Rat)(ns:List Int)(xs:List Rat)(n:Nat):Rat:=GM.sumTo (λk=>cz a b ns (bL a b ns k xs)) n
def jc(a b:Rat)(ns:List Int)(xs:List Rat)(n:Nat):List Rat:=(fZ (aC (a^ns.sum.toNat) 1 n) (GM.sumTo (aC (a^ns.sum.toNat) 1) n) xs (cf a b ns)).map λt=>t / ((n:Int):Rat)
theorem SJ(a b:Rat)(ns:List Int)(xs:List Rat)(n:Nat):(jc a b ns xs n).length=xs.length:=by unfold jc;rw[wl,nA]
theorem Gi(h:1<=n):((n:Int):Rat)≠0:=λe=>by
 have:=W6.mp e;lia
theorem PU{a:Rat}(hi:i<xs.length):(jc a b ns xs n).getD i 0=(fZ (aC (a^ns.sum.toNat) 1 n) (GM.sumTo (aC (a^ns.sum.toNat) 1) n) xs (cf a b ns)).getD i 0 / ((n:Int):Rat):=by
 unfold jc;rw[wb,wq,wc (by rw[nA];exact hi),wb,wc (by rw[nA];exact hi)]
 rfl
theorem zs0{a:Rat}(hl:ns.length=xs.length+1)(h1:1<=n):((n:Int):Rat)*cz a b ns (jc a b ns xs n)=gx a b ns xs n:=by
 unfold gx;refine Yi hl (λk=>bL a b ns k xs) (λk=>cA ..) n _ h1 (SJ ..) λi hi=>?_
 rw[PU hi,WJ (Gi h1),NA hi,<- zAR];exact mZ n λk _=>(gk hi).symm
theorem Bp(h:n<=60):af 6 ((n:Int):Rat):=by
 have e:(2:Nat)^6=64:=by decide
 exact⟨⟨by rw[Q7,e];lia⟩,⟨by rw[Q8];decide⟩⟩
theorem ZN{a:Rat}(h:aR a b)(S n:Nat):af ((6*S+3)*n+2) (GM.sumTo (aC (a^S) 1) n):=Rb (ie h S) n
theorem NU{a:Rat}(ok:dG a b ns n)(c:Cm m xs):Cm (m+189+2*((6*ns.sum.toNat+3)*n)) (fZ (aC (a^ns.sum.toNat) 1 n) (GM.sumTo (aC (a^ns.sum.toNat) 1) n) xs (cf a b ns)):=(SF c (BZ ok.ok ok.sz) (Sa ok.ok _ n) (ZN ok.ok _ n)).mono ()
theorem zyb{a:Rat}(ok:dG a b ns n)(h1:1<=n)(c:Cm m xs):Cm (m+195+2*((6*ns.sum.toNat+3)*n)) (jc a b ns xs n):=by
 unfold jc;exact(PC (NU ok c) (Bp ok.bZ) (Gi h1)).mono ()
def Ph(K:wa):Sp:=λvs H Q _=>∃x0 x1 x2 x3,vs=[x0,x1,x2,x3] /\ ∃(ra rb:Rat)(ns:List Int)(xs:List Rat)(n:Int)(m:Nat),x3=.int n/\Is K H x0 (R ra rb)/\Is K H x1 (TZ ns)/\Is K H x2 (TN xs)/\ns.length=xs.length+1/\0<=n/\dG ra rb ns n.toNat/\Cm m xs/\m+2*((6*ns.sum.toNat+3)*n.toNat)<=6700/\Rs K H Q (N (gx ra rb ns xs n.toNat))
theorem zoL{n:Int}{v w:V}(h0:Is K H v (R ra rb))(h1:Is K H w (TZ ns))(h2:Is K H u (TN xs))(hl:ns.length=xs.length+1)(n0:0<=n)(ok:dG ra rb ns n.toNat)(c:Cm m xs)(hm:m+2*((6*ns.sum.toNat+3)*n.toNat)<=6700)(q:Rs K H Q (N (gx ra rb ns xs n.toNat))):Ph K [v,w,u,.int n] H Q E:=⟨_,_,_,_,rfl,ra,rb,ns,xs,n,m,rfl,h0,h1,h2,hl,n0,ok,c,hm,q⟩
theorem zd{n:Int}(q:Rs K H Q (N (n:Rat))):mz K [.int n,.int 1] H Q:=cU (r:=(n:Rat)) (Q7 n).symm (by rw[Q8];rfl) q
theorem zn5(T:Txt K mg a):aF P w K mg base aN 8 a.Ir a.G_ uX (Ph K):=by
 refine T.Hj.F.ok Ee ?_ ?_;wtm_at "b4"
 refine⟨_,(ai (aV (cY jT (pv 3) au (cQ _)) (av (aA (cj (v:=.ref a.dD) rfl T.d8 rfl))) aX)
     (ai (ay 4 Ee.nd (aQ (ae (pv 3) (ae au ag))))
     (ai (ay 5 Ee.nd (eQ K T.h0i (ae (dH rfl (cP ["total","count"] [none,some 4]) (jM (ak (zlA T) hr T.GS (ae (ak (pT T) hr T.m_ (q2 0 1)) (q2 2 3)))) (λ_ _ _ _ _=>(cq 0)) (λ_ _ _ _ _=>dF) (λ_ _ _ _ _=>(ak (Mm (K:=K) (mg:=mg) (a:=a) T) hr T.Bh (q2 0 1)))) ag)))
     (av (aA (ak (zev T) hr T.kb (ae (pv 4) (ae (ak (zpA T) hr T.HB (q3 0 1 5)) ag)))))))),?_⟩
 wtm_at "cl";rw[show start Ss [x0,x1,x2,x3]=[some x0,some x1,some x2,some x3,none,none]from rfl];obtain⟨ra,rb,ns,xs,n,m,rfl,hr',hn',hx',hl,n0,ok,c,hm,q⟩:=h;have h8:=ok.sz.bZ;have hp:=ok.sz.pos;have h60:=ok.bZ;have hu:=ok.sz.upTo;obtain⟨n,rfl⟩:∃j:Nat,n=(j:Int):=⟨n.toNat,by lia⟩;rw[wx]at q ok h60 hm;k_few
 . rename_i z
   have hz:n=0:=by lia
   subst hz;exact q _ H (ar.refl _) (eF 0 (T.fb _) rfl rfl)
 . rename_i z
   have h1n:1<=n:=by lia
   have cM:=zyb ok h1n c;have hml:=SJ ra rb ns xs n;have hne:=Gi h1n;have bn:af 6 ((n:Int):Rat):=Bp h60;refine zd (λv1 H1 S1 i1=>?_);o_head r_ (hr'.by S1) (hn'.by S1) (oQ ok.ok ok.sz) () () (λv2 H2 S2 i2=>?_);have T2:=S1.trans S2;o_head zk6 (a:=ra) (b:=rb) (ns:=ns) i2 (hx'.by T2) () (by rw[wx];exact ok) hl (λi=>(c.get i).mono ()) (λv3 H3 S3 i3=>?_);rw[wx]at i3;have i13:=i1.by (S2.trans S3);obtain⟨a3,us,rfl,hs3,t3⟩:=bY.mp i3;have hul:=t3.length;rw[wl,nA]at hul;have bw:∀i,af 8100 ((fZ (aC (ra^ns.sum.toNat) 1 n) (GM.sumTo (aC (ra^ns.sum.toNat) 1) n) xs (cf ra rb ns)).getD i 0):=λi=>((NU ok c).get i).mono ()
   o_head jw hs3 (o0:=none) (tl:=[some v1]) rfl (λj y H'=>Is K H' y (N ((jc ra rb ns xs n).getD j 0))) ?_ ?_
   . intro D j x ys o H4 hx inv
     obtain⟨hj,ix⟩:=cg t3 hx;rw[nA]at hj;o_head Lq (ix.by inv.same) (i13.by inv.same) ((bw j).mono ⋯) (bn.mono ⋯) hne (λv5 H5 S5 i5=>?_);rw[<- PU hj]at i5;exact dQ inv () eG ⟨_,rfl⟩ S5 i5
   . intro D ys H4 hn4 S4 e4 hl4 hr4
     have tz:ah K H4 ys ((jc ra rb ns xs n).map N):=eH (by rw[hl4,hul,hml]) hr4;o_head fR (bX e4 tz) (λv5 H5 S5 i5=>?_);have T5:=T2.trans (S3.trans (S4.trans S5));have rok:cX ra rb ns (jc ra rb ns xs n):=⟨ok.ok.ba,ok.ok.bb,λk hk=>by have:=ok.sz.each k hk;lia,by rw[hml];exact hl,by lia,⟨_,cM,by lia⟩⟩;o_head zpi (hr'.by T5) (hn'.by T5) i5 rok cM () (λv6 H6 S6 i6=>?_);have bt:af 8000 (cz ra rb ns (jc ra rb ns xs n)):=(Mr rok cM () (wp _)).dM (wE ..);have i16:=i13.by (S4.trans (S5.trans S6));k_few;rename_i v7 H7 S7 i7;rw[zs0 hl h1n]at i7;exact q v7 H7 (T5.trans (S6.trans S7)) i7
def jU(ts:List Rat):List Bool:=ts.map λx=>decide (1<x)
theorem Yp{ts:List Rat}(h:i<ts.length):(jU ts).getD i true=decide (1<ts.getD i 0):=by
 unfold jU;rw[wb,wq,wb,wc h]
 rfl
def lu(a b:Rat)(ns:List Int):Bool:=!((jU (dk a b ns (bQ a b ns))).any id)
theorem zsO{a:Rat}(h:aR a b)(k:cJ ns)(hF:a^ns.sum.toNat≠1):cX a b ns (bQ a b ns):=⟨h.ba,h.bb,λn hn=>by have:=k.each n hn;lia,by rw[kG k.some];have:=k.some;lia,by have:=k.bZ;lia,⟨268,AD h.ba h.bb k.bZ k.upTo (by have:=k.sum;lia) hF,by have:=k.bZ;have:=k.upTo;lia⟩⟩
def Mq(K:wa):Sp:=λvs H Q _=>∃x0 x1,vs=[x0,x1] /\ ∃(a b:Rat)(ns:List Int),Is K H x0 (R a b)/\Is K H x1 (TZ ns)/\aR a b/\cJ ns/\a≠1/\Rq H Q (.bl (lu a b ns))
theorem Lh{a:Rat}{v w:V}(h1:Is K H v (R a b))(h2:Is K H w (TZ ns))(ok:aR a b)(sz:cJ ns)(ha:a≠1)(q:Rq H Q (.bl (lu a b ns))):Mq K [v,w] H Q E:=⟨_,_,rfl,a,b,ns,h1,h2,ok,sz,ha,q⟩
theorem R7(T:Txt K mg a):aF P w K mg base aN 9 a.HQ a.G6 tP (Mq K):=by
 refine T.AX.F.ok znt ?_ ?_;wtm_at "b2";refine⟨_,(av (aA (m8 (c7 (show bS _ (.builtin "any") (Bs K)from zxE rfl) rfl T.h0o zDF (ae (dH rfl (cP ["top"] [none]) (jM (ak (Pu T) hr T.Bi (ae (pv 0) (ae (pv 1) (ae (ak (LH T) hr T.Bg (q2 0 1)) ag))))) (λ_ _ _ _ _=>(cq 0)) (λ_ _ _ _ _=>dF) (λ_ _ _ _ _=>(ak (g9 (K:=K) (mg:=mg) (a:=a) T) hr T.gg (ae (cj (v:=.ref a.d9) rfl T.fj rfl) (q1 0))))) ag))))),?_⟩;wtm_at "cl";rw[show start BW [x0,x1]=[some x0,some x1]from rfl];obtain⟨ra,rb,ns,hr',hn',ok,sz,ha,q⟩:=h;have h8:=sz.bZ;have hps:=sz.pos;have hF:ra^ns.sum.toNat≠1:=λe=>ha ((kn ok ()).mp e)
 have rok:=zsO ok sz hF;o_head Ow hr' hn' (oQ ok sz) () () (λe=>absurd e hF) (λ_ v1 H1 S1 i1=>?_);o_head So (hr'.by S1) (hn'.by S1) i1 rok (λv2 H2 S2 i2=>?_);obtain⟨a2,us,rfl,hs2,t2⟩:=bY.mp i2;have hl2:=t2.length;rw[wl,eX]at hl2;refine jw hs2 (o0:=none) (tl:=[]) rfl (λi v H=>v=V.bl ((jU (dk ra rb ns (bQ ra rb ns))).getD i true)) ?_ ?_
 ·rintro D i x ys o H3 hx inv
  obtain⟨hi,ix⟩:=cg t2 hx;rw[eX]at hi;have ix3:=ix.by inv.same;have b1:=Ao rok hi;have b2:af 1 1:=af.one;k_few;exact dQ inv () (λ_ _ _ _ _ h=>h) ⟨_,rfl⟩ (ar.refl _) (by rw[Yp (by rw[eX];exact hi)])
 ·rintro D ys H3 hn3 S3 e3 hl3 hr3
  have hz:=mB (bs:=jU (dk ra rb ns (bQ ra rb ns))) (by unfold jU;rw[wl,eX];lia) hr3;rw[hz]at e3;o_head zBu (.of e3) ?_;k_few;exact q _ (S1.trans (S2.trans S3))
def nq(ss:List Rat):List Bool:=ss.map λs=>decide (s=0)
theorem zxH{ts:List Rat}(h:i<ts.length):(nq ts).getD i true=decide (ts.getD i 0=0):=by
 unfold nq;rw[wb,wq,wb,wc h]
 rfl
def du(a b:Rat)(ns:List Int)(xs:List Rat):Bool:=if 1<a then decide (xs=bQ a b ns)else if a=1 then(nq (cf a b ns)).all id else lu a b ns
def Lg(K:wa):Sp:=λvs H Q _=>∃x0 x1 x2,vs=[x0,x1,x2] /\ ∃(a b:Rat)(ns:List Int)(xs:List Rat),Is K H x0 (R a b)/\Is K H x1 (TZ ns)/\Is K H x2 (TN xs)/\aR a b/\cJ ns/\Rq H Q (.bl (du a b ns xs))
theorem zpv{a:Rat}{v w:V}(h1:Is K H v (R a b))(h2:Is K H w (TZ ns))(h3:Is K H u (TN xs))(ok:aR a b)(sz:cJ ns)(q:Rq H Q (.bl (du a b ns xs))):Lg K [v,w,u] H Q E:=⟨_,_,_,rfl,a,b,ns,xs,h1,h2,h3,ok,sz,q⟩
theorem zpE(T:Txt K mg a):aF P w K mg base aN 10 a.Jf a.Hw AL (Lg K):=by
 refine T.HD.F.ok Us ?_ ?_;wtm_at "b3"
 refine⟨_,(ai (ay 3 Us.nd (ak (P0 T) hr T.Bj (q1 0)))
     (ai (aV (d5 K hu (pv 3) fP) (av (aA (j7 K hu (eQ K T.h0i (q1 2)) (ak (LH T) hr T.Bg (q2 0 1))))) aX)
     (ai (aV (d5 K hu (pv 3) fP) (av (aA (c7 (show bS _ (.builtin "all") (oS K)from tF rfl) rfl T.h0v u_ (ae (dH rfl (cP ["shift"] [none]) (jM (eA (ak (pT T) hr T.m_ (q2 0 1)))) (λ_ _ _ _ _=>(cq 0)) (λ_ _ _ _ _=>dF) (λ_ _ _ _ _=>(j7 K hu (pv 0) (cj (v:=.ref a.dD) rfl T.d8 rfl)))) ag)))) aX)
     (av (aA (ak (R7 T) hr T.AX (q2 0 1))))))),?_⟩
 wtm_at "cl";rw[show start Nt [x0,x1,x2]=[some x0,some x1,some x2,none]from rfl];obtain⟨ra,rb,ns,xs,hr',hn',hx',ok,sz,q⟩:=h;have h8:=sz.bZ;have h1:=sz.some;have hps:=sz.pos;o_head Uv hr' (ok.ba.mono ⋯) ?_;unfold pW;unfold du at q
 by_cases z1:1<ra
 . rw[if_pos z1]at q ⊢
   have hF:ra^ns.sum.toNat≠1:=λe=>absurd ((kn ok ()).mp e) (by grind)
   o_head lY _ _ true (by rw[w8];decide) ?_;o_head N9 hx' ?_;o_head Ow hr' hn' (oQ ok sz) () () (λe=>absurd e hF) (λ_ v1 H1 S1 i1=>?_);o_head P_ (hx'.by S1) i1 ?_;exact q _ S1
 . rw[if_neg z1]at q ⊢
   by_cases z2:ra=1
   . rw[if_pos z2]at q ⊢
     o_head lY _ _ false (by rw[w8];decide) ?_;o_head lY _ _ true (by rw[w8];decide) ?_;o_head r_ hr' hn' (oQ ok sz) () () (λv1 H1 S1 i1=>?_);o_head aD (j:=1) i1 rfl (λv2 i2=>?_);obtain⟨a2,us,rfl,hs2,t2⟩:=bY.mp i2;have hl2:=t2.length;rw[wl]at hl2;have hsl:(cf ra rb ns).length=ns.length-1:=kT h1;have t2:ah K H1 us ((cf ra rb ns).map N):=t2;have hl2:us.length=(cf ra rb ns).length:=hl2;refine jw hs2 (o0:=none) (tl:=[]) rfl (λi v H=>v=V.bl ((nq (cf ra rb ns)).getD i true)) ?_ ?_
     . rintro D i x ys o H3 hx inv
       obtain⟨hi,ix⟩:=cg t2 hx;have ix3:=ix.by inv.same;k_few;exact dQ inv () (λ_ _ _ _ _ h=>h) ⟨_,rfl⟩ (ar.refl _) (by rw[zxH hi])
     . rintro D ys H3 hn3 S3 e3 hl3 hr3
       have hz:=mB (bs:=nq (cf ra rb ns)) (by unfold nq;rw[wl];lia) hr3;rw[hz]at e3;o_head rF (.of e3) ?_;exact q _ (S1.trans S3)
   . rw[if_neg z2]at q ⊢
     o_head lY _ _ false (by rw[w8];decide) ?_;o_head lY _ _ false (by rw[w8];decide) ?_;k_few;exact Lh hr' hn' ok sz z2 q
theorem zyF(k:Nat):bL 1 b ns k xs=fz ((k:Int):Rat) xs (bL 1 b ns 1 xs):=by
 have hl:=cA 1 b ns 1 xs;refine g6 (by rw[cA,mX ()]) λi hi=>?_
 rw[cA]at hi;rw[ma () hi,gk hi,gk hi,GM.one_pow',mK,mK,gz,gz,GM.one_pow',GM.one_pow'];generalize (cf 1 b ns).getD i 0=s;rw[pO 1 s k,pO 1 s 1,FK,FK];have e:(((1:Nat):Int):Rat)=1:=by decide
 rw[e]
 grind
theorem MT{a:Rat}(hF:a^ns.sum.toNat≠1)(hl:ns.length=xs.length+1)(k:Nat):bL a b ns k xs=fz ((a^ns.sum.toNat)^k) (bQ a b ns) xs:=by
 have hs:(bQ a b ns).length=xs.length:=by rw[kG ()];lia
 refine g6 (by rw[cA,mX hs,hs]) λi hi=>?_
 rw[cA]at hi;rw[ma hs (),gk hi,UO (zX hF ())]
theorem FW{a:Rat} : dJ a b ns xs=true ↔ (∀i,i<xs.length+1->(cC xs).getD (i+1) 0<(cC xs).getD i 0) /\ ∀i,i<ns.length->(dk a b ns xs).getD i 0<1:=by
 unfold dJ;rw[wV,Wc,Wc]
 constructor
 ·rintro ⟨h1,h2⟩
  refine⟨λi hi=>?_,λi hi=>?_⟩
  ·have:=h1 _ (wR.mpr ⟨i,wF.mpr hi,rfl⟩)
   exact of_decide_eq_true this
  ·have:=h2 _ (wR.mpr ⟨_,getD_mem (d:=0) (show i<(dk a b ns xs).length by rw[eX];exact hi),rfl⟩)
   exact of_decide_eq_true this
 ·rintro ⟨h1,h2⟩
  refine⟨λx hx=>?_,λx hx=>?_⟩
  ·obtain⟨i,hi,rfl⟩:=wR.mp hx
   exact decide_eq_true (h1 i (wF.mp hi))
  ·obtain⟨t,ht,rfl⟩:=wR.mp hx
   obtain⟨i,hi,rfl⟩:=wR.mp ht;have:=h2 i (wF.mp hi);rw[nX (wF.mp hi)]at this;exact decide_eq_true this
theorem L7:∀l:List Rat,(∀i,i+1<l.length->l.getD (i+1) 0<l.getD i 0)->l.Pairwise (· > ·)
 | [],_=>.nil
 | x::l,h=>by
  have h':∀i,i+1<l.length->l.getD (i+1) 0<l.getD i 0:=λi hi=>by
   have:=h (i+1) (by simp;lia)
   simpa using this
  have hd:∀j,j<l.length->l.getD j 0<x:=λj=>by
   induction j with
   | zero=>intro hj;have:=h 0 (by simp;lia);simpa using this
   | succ j ih=>intro hj;have h3:=h' j hj;have h4:=ih ();grind
  refine WZ.mpr ⟨λy hy=>?_,L7 l h'⟩;obtain⟨j,hj,e⟩:=ve hy;have:=hd j hj;rw[wb,wc hj]at this
  show y<x
  rw[<- e];exact this
theorem zyX{l:List Rat}(h:l.Pairwise (· > ·))(hi:i+1<l.length):l.getD (i+1) 0<l.getD i 0:=by
 rw[wb,wb,wc hi,wc (show i<l.length by lia)];exact(Ww.mp h) i (i+1) () hi ()
theorem oB(xs:List Rat)(i:Nat):(cC xs).getD (i+1) 0=(xs++[0]).getD i 0:=by
 unfold cC;rw[W2]
 rfl
theorem Yh(h:∀i,i<xs.length+1->(cC xs).getD (i+1) 0<(cC xs).getD i 0):iP (xs++[0])/\(xs++[0]).getD 0 0<1:=by
 have pw:(xs++[0]).Pairwise (· > ·):=L7 _ λi hi=>by
  have:=h (i+1) (by simp at hi;lia);rw[oB,oB]at this;exact this
 refine⟨⟨pw,λy hy=>?_⟩,?_⟩
 ·rcases vY.mp hy with z | z
  ·exact vX ((qd.mp pw).2.2 y z 0 (w6.mpr rfl))
  ·rw[w6.mp z];exact WR
 ·have:=h 0 ()
  rw[oB]at this;exact this
theorem Nk(pw:(xs++[0]).Pairwise (· > ·))(one:(xs++[0]).getD 0 0<1):∀i,i<xs.length+1->(cC xs).getD (i+1) 0<(cC xs).getD i 0
 | 0,_=>by rw[oB];exact one
 | i+1,hi=>by rw[oB,oB];exact zyX pw (by simp;lia)
theorem Cq{a:Rat}(h:ns.length=xs.length+1):cK a b ns xs++[0]=aJ a b ns (xs++[0]) ns.length:=by
 have hl:=oD (a:=a) (b:=b) h;have hr:(aJ a b ns (xs++[0]) ns.length).length=xs.length+1:=by rw[dm];simp
 refine g6 (by rw[hr,wN,hl];rfl) λi hi=>?_
 rw[wN,hl]at hi;have hi:i<xs.length+1:=hi;rcases wG i xs.length with z | z
 ·rw[Ga (),Eh h z]
 ·have e:i=xs.length:=by lia
  have e2:(cK a b ns xs++[0]).getD i 0=0:=by rw[e,<- hl];exact sF
  rw[e2,e,h,aJ,gC _ _ _ _ _ _ (by rw[dm];simp),if_pos rfl]
theorem Ls{a b:Rat}(a0:0<a)(b0:0<=b){ns:List Int}{row:List Rat}(F:iP row)(one:row.getD 0 0<1)(iS:∀t,t<row.length->eP a b ns row t<1):∀i,i<=row.length->iP (turned a b ns row i)
 | 0,_=>F
 | i+1,hi=>by
  have ih:=Ls a0 b0 F one iS i ()
  have oi:(aJ a b ns row i).getD i 0<1:=by
   cases i with
   | zero=>exact one
   | succ j =>
    have:=iS j ();unfold eP at this;rw[QT ()]at this;exact this
  obtain⟨x,l,ex⟩:∃x l,turned a b ns row i=x::l:=by
   cases e:turned a b ns row i with
   | nil =>
    have:=FE a b ns row () i;rw[e]at this;simp at this;lia
   | cons x l=>exact⟨x,l,rfl⟩
  have hx:x=(aJ a b ns row i).getD i 0:=by
   have:=Ci a b ns row (show i<row.length by lia);rw[ex]at this;exact this
  show iP (mC a b (ns.getD i 0).toNat (turned a b ns row i))
  rw[ex]at ih ⊢;exact ih.step a0 b0 (by rw[hx];exact oi)
theorem zuI{a:Rat}(ok:aR a b)(hn:ns.length=xs.length+1)(f:dJ a b ns xs=true):∀i,i<(cK a b ns xs).length+1->(cC (cK a b ns xs)).getD (i+1) 0<(cC (cK a b ns xs)).getD i 0:=by
 obtain⟨h1,h2⟩:=FW.mp f;obtain⟨F,one⟩:=Yh h1;have hl:(xs++[0]).length=ns.length:=by simp[hn]
 have iS:∀t,t<(xs++[0]).length->eP a b ns (xs++[0]) t<1:=λt ht=>by
  have:=h2 t ();rw[nX ()]at this;unfold eP;rw[hl];exact this
 have Fl:=Ls ok.a0 ok.b0 F one iS (xs++[0]).length (wp _);rw[hl,Zp a b ns _ hl.symm,<- Cq hn]at Fl;have t:=iS (ns.length-1) ();unfold eP at t;rw[hl,show ns.length-1+1=ns.length by lia,Nat.mod_self,<- Cq hn]at t;exact Nk Fl.pw t
theorem zzD(c:Rat)(xs:List Rat):fz c xs xs=xs:=g6 (mX rfl) λi hi=>by
 rw[mX rfl]at hi;rw[ma rfl hi]
 grind
def cN(a b:Rat)(ns:List Int)(xs:List Rat)(k:Nat):Bool:=dJ a b ns (bL a b ns k xs)
theorem mL{a:Rat}(ok:aR a b)(sz:cJ ns)(hk:k<=31):dG a b ns k:=⟨ok,sz,by lia,by
 have h1:=sz.sum;have h2:(6*ns.sum.toNat+1+1)*k<=50*k:=vU k ();lia⟩
theorem OB{a:Rat}(ok:aR a b)(sz:cJ ns)(c:Cm m xs)(hk:k<=31):Cm (m+188+102*k) (bL a b ns k xs):=(zDq (mL ok sz hk) c).mono (by
 have h1:=sz.sum;have h2:(6*ns.sum.toNat+3)*k<=51*k:=vU k ();lia)
theorem Uq{a:Rat}(ok:aR a b)(sz:cJ ns)(hn:ns.length=xs.length+1)(c:Cm m xs)(hm:m<=3700)(hk:k<=30):cX a b ns (bL a b ns k xs):=⟨ok.ba,ok.bb,λn hn=>by have:=sz.each n hn;lia,by rw[cA];exact hn,by have:=sz.bZ;lia,⟨_,OB ok sz c (),by have:=sz.bZ;have:=sz.upTo;lia⟩⟩
def Dk(K:wa)(a:Ad):Sp:=λvs H Q E=>∃x0 x1 x2,vs=[x0,x1,x2] /\ ∃(ra rb:Rat)(ns:List Int)(xs:List Rat),Is K H x0 (R ra rb)/\Is K H x1 (TZ ns)/\Is K H x2 (TN xs)/\aR ra rb/\cJ ns/\ns.length=xs.length+1/\cX ra rb ns xs/\(du ra rb ns xs=false->∃n:Nat,n<=30/\(n=30\/cN ra rb ns xs n=false)/\(∀k,k<=n->cX ra rb ns (bL ra rb ns k xs))/\(∀k,k<n->∀j,af 6900 ((bL ra rb ns k xs).getD j 0))) /\
 (cN ra rb ns xs 0=false->Rq H Q (.int 0)) /\
 (cN ra rb ns xs 0=true->du ra rb ns xs=true->Rq H Q .bM) /\
 (∀c:Nat,1<=c->c<=30->du ra rb ns xs=false->(∀k,k<c->cN ra rb ns xs k=true)->cN ra rb ns xs c=false->Rq H Q (.int (c:Int))) /\
 (du ra rb ns xs=false->(∀k,k<=30->cN ra rb ns xs k=true)->∀H',ar H H'->E (.ref a.fi) none H')
theorem znq{v w:V}(h1:Is K H v (R ra rb))(h2:Is K H w (TZ ns))(h3:Is K H u (TN xs))(ok:aR ra rb)(sz:cJ ns)(hn:ns.length=xs.length+1)(r0:cX ra rb ns xs)(hb:du ra rb ns xs=false->∃n:Nat,n<=30/\(n=30\/cN ra rb ns xs n=false)/\(∀k,k<=n->cX ra rb ns (bL ra rb ns k xs))/\(∀k,k<n->∀j,af 6900 ((bL ra rb ns k xs).getD j 0)))
  (q0:cN ra rb ns xs 0=false->Rq H Q (.int 0))
  (q1:cN ra rb ns xs 0=true->du ra rb ns xs=true->Rq H Q .bM)
  (q2:∀c:Nat,1<=c->c<=30->du ra rb ns xs=false->(∀k,k<c->cN ra rb ns xs k=true)->cN ra rb ns xs c=false->Rq H Q (.int (c:Int)))
  (q3:du ra rb ns xs=false->(∀k,k<=30->cN ra rb ns xs k=true)->∀H',ar H H'->E (.ref a.fi) none H'):Dk K a [v,w,u] H Q E:=⟨_,_,_,rfl,ra,rb,ns,xs,h1,h2,h3,ok,sz,hn,r0,hb,q0,q1,q2,q3⟩
theorem zn9{v w:V}(h1:Is K H v (R ra rb))(h2:Is K H w (TZ ns))(h3:Is K H u (TN xs))(ok:aR ra rb)(sz:cJ ns)(hn:ns.length=xs.length+1)(c:Cm m xs)(hm:m<=3700)
  (q0:cN ra rb ns xs 0=false->Rq H Q (.int 0))
  (q1:cN ra rb ns xs 0=true->du ra rb ns xs=true->Rq H Q .bM)
  (q2:∀c:Nat,1<=c->c<=30->du ra rb ns xs=false->(∀k,k<c->cN ra rb ns xs k=true)->cN ra rb ns xs c=false->Rq H Q (.int (c:Int)))
  (q3:du ra rb ns xs=false->(∀k,k<=30->cN ra rb ns xs k=true)->∀H',ar H H'->E (.ref a.fi) none H'):Dk K a [v,w,u] H Q E :=
 znq h1 h2 h3 ok sz hn (by have:=Uq ok sz hn c hm (k:=0) ⋯;rw[mI]at this;exact this) (λ_=>⟨30,wp 30,.inl rfl,λk hk=>Uq ok sz hn c hm hk,λk hk j=>((OB ok sz c (k:=k) ()).get j).mono ()⟩) q0 q1 q2 q3
theorem zo4(T:Txt K mg a):aF P w K mg base (ff P w) 11 a.Ic a.G9 AA (Dk K a):=by
 refine T.Hv.F.rk pB ?_ ?_;wtm_at "b3"
 refine⟨_,(ai (aV (cv (b_ (ak (B8 T) hr T.sO (q3 0 1 2)))) (av (aA au)) aX)
     (ai (aV (b_ (ak (zpE T) hr T.HD (q3 0 1 2))) (av (aA eT)) aX)
     (ai (ay 3 pB.nd (ak (pT T) hr T.m_ (q2 0 1)))
     (ai (ay 4 pB.nd (pv 2))
     (ai (d6 Xs rfl (zxM rfl T.h0j (ae au (ae (aB cB (rJ rfl T.YB) au) ag))) (cT (i:=5) pB.nd rfl (Or.inl rfl)) (ai (ay 4 pB.nd (ak (Mj T) hr T.Bc (ae (pv 3) (ae (pv 4) (ae au ag)))))
     (av (aV (cv (b_ (ak (B8 T) hr T.sO (q3 0 1 4)))) (av (aA (pv 5))) aX))))
     (av (M8 T.YH rfl rfl T.Ba U5 (ae fP ag)))))))),?_⟩
 wtm_at "cl";rw[show start Py [x0,x1,x2]=[some x0,some x1,some x2,none,none,none]from rfl];obtain⟨ra,rb,ns,xs,hr',hn',hx',ok,sz,hn,r0,hb,q0,q1,q2,q3⟩:=h;have h8:=sz.bZ;have h1:=sz.some;have hps:=sz.pos;have e0:cN ra rb ns xs 0=dJ ra rb ns xs:=by unfold cN;rw[mI]
 o_head Ew hr' hn' hx' r0 (λH1 S1=>?_);k_few
 . rename_i z
   exact q0 (by rw[e0];exact z) H1 S1
 . rename_i z
   have hr1:=hr'.by S1;have hn1:=hn'.by S1;have hx1:=hx'.by S1;refine zpv hr1 hn1 hx1 ok sz (λH2 S2=>?_);k_few
   . rename_i y
     exact q1 (by rw[e0];exact z) y H2 (S1.trans S2)
   . rename_i y
     have y:du ra rb ns xs=false:=by first | exact y | exact XT _ ▸ y
     obtain⟨n,n30,stop,rd,bd⟩:=hb y;refine r_ (hr1.by S2) (hn1.by S2) (oQ ok sz) () () (λv3 H3 S3 i3=>?_);have T3:ar H H3:=S1.trans (S2.trans S3);have hr3:=hr'.by T3;have hn3:=hn'.by T3;have hx3:=hx'.by T3;clear hr1 hn1 hx1 S1 S2 S3;o_head zzI ?_;o_head zuQ (lo:=1) (hi:=31) ⋯ ⋯ ⋯ ⋯ (λi σ H'=>∃(v:V)(o:Option V),σ = [some x0,some x1,some x2,some v3,some v,o]/\ar H3 H'/\Is K H' v (TN (bL ra rb ns i xs)) /\ ∀k,k<=i->cN ra rb ns xs k=true) ⟨_,_,rfl,ar.refl _,by rw[mI];exact hx3,λk hk=>by rw[show k=0 by lia,e0];exact z⟩ ?_ ?_
     . rintro i σ H4 hi ⟨v,o,rfl,S4,iv,fr⟩
       have hi:i<30:=hi;have i34:=i3.by S4
       have hin:i<n:=by
         rcases stop with e | e
         . lia
         . rcases wG i n with u | u
           . exact u
           . rw[fr n u]at e;cases e
       o_head MF (ss:=cf ra rb ns) i34 iv ⋯ ⋯ (by rw[kT h1,cA];lia) (by rw[cA];lia) ((ie ok _).mono (by have:=sz.sum;lia)) (λj hj=>((mL ok sz (k:=1) ⋯).pow hj).mono ⋯) (λj hj=>((mL ok sz (k:=1) ⋯).aC hj).mono ⋯) (λj=>bd i hin j) (λj=>(sG ok sz j).mono ⋯) (λv5 H5 S5 i5=>?_);have i5:Is K H5 v5 (TN (bL ra rb ns 1 (bL ra rb ns i xs))):=i5;rw[DI]at i5;have T5:=S4.trans S5;o_head Ew (hr3.by T5) (hn3.by T5) i5 (rd (i+1) ()) (λH6 S6=>?_);have T6:=T5.trans S6;k_few
       . rename_i w
         have q:=q2 (i+1) () () y (λk hk=>fr k ()) (by unfold cN;exact w) H6 (T3.trans T6);rw[show((i+1:Nat):Int)=1+(i:Int) by lia]at q;exact q
       . rename_i w
         refine⟨_,_,rfl,T6,i5.by S6,λk hk=>?_⟩;rcases wG k (i+1)with u | u
         . exact fr k ()
         . have:k=i+1:=by lia
           subst this;unfold cN
           first | exact w | exact Bool.not_eq_false _ ▸ w
     . rintro σ H4 ⟨v,o,rfl,S4,iv,fr⟩
       k_few;exact⟨by simp;decide,q3 y (λk hk=>fr k hk) H4 (T3.trans S4)⟩
theorem UZ{a:Rat}(ok:aR a b){fl:Nat->Nat}(L:fQ xs (ps++[0]) fl ns)(hn:ns.length=ps.length+1)(f:dJ a b ns ps=true) :
  fQ (ao a b xs ns.length) (cK a b ns ps++[0]) fl ns/\(∀t,t<ns.length->cW a b (ao a b xs t)=[bN xs.length fl t])/\aO a b xs ns.length=cz a b ns ps:=by
 have hl:(ps++[0]).length=ns.length:=by simp[hn]
 have iS:∀t,t<(ps++[0]).length->eP a b ns (ps++[0]) t<1:=λt ht=>by
  have:=(FW.mp f).2 t ();rw[nX ()]at this;unfold eP;rw[hl];exact this
 obtain⟨P,F,_,W⟩:=uS ok.a0 ok.b0 L _ (wp _) iS;have ht:=Ux ok.a0 ok.b0 L _ (wp _) iS;rw[hl]at P W ht;rw[<- Cq hn]at P;have st:=Yh (zuI ok hn f);have hbl:=oD (a:=a) (b:=b) hn;have hbl2:(cK a b ns ps++[0]).length=(ps++[0]).length:=by simp[hbl]
 have hpl:=bW a b xs ns.length;refine⟨⟨P,st.1,st.2,by rw[hbl2];exact L.len,λc hc=>?_,λc hc=>?_⟩,W,?_⟩
 ·rw[hpl];exact L.some c ()
 ·rw[hpl];exact L.size c ()
 ·rw[ht];rfl
theorem nT{a b:Rat}(ok:aR a b){xs ps:List Rat}{fl:Nat->Nat}{ns:List Int}(L:fQ xs (ps++[0]) fl ns)(hn:ns.length=ps.length+1)(n0:∀n∈ns,0<=n):∀k,(∀j,j<k->cN a b ns ps j=true) ->
  fQ (ao a b xs (k*ns.length)) (bL a b ns k ps++[0]) fl ns/\aO a b xs (k*ns.length)=gx a b ns ps k
 | 0,_=>by
  rw[VN,mI];exact⟨L,rfl⟩
 | k+1,h=>by
  obtain⟨Lk,Hk⟩:=nT ok L hn n0 k λj hj=>h j ()
  have hl:ns.length=(bL a b ns k ps).length+1:=by rw[cA];exact hn
  obtain⟨L1,_,H1⟩:=UZ ok Lk hl (h k ());rw[eD,<- pN hl n0,DI]at L1;have e:(k+1)*ns.length=k*ns.length+ns.length:=qw ..;rw[e];refine⟨L1,?_⟩;rw[<- km,Hk,H1]
  rfl
theorem KW{a b:Rat}(a0:0<a)(b0:0<=b){xs row:List Rat}{fl:Nat->Nat}{ns:List Int}(L:fQ xs row fl ns):∀n,n<=row.length->(¬ ∀t,t<n->eP a b ns row t<1)->∃t,t<n/\1<(cW a b (ao a b xs t)).length
 | 0,_,z=>absurd (λt ht=>by lia) z
 | n+1,hn,z=>by
  by_cases y:∀t,t<n->eP a b ns row t<1
  ·refine⟨n,by lia,zxg a0 b0 L () y (λu=>z λt ht=>?_)⟩
   rcases wG t n with k | k
   ·exact y t k
   ·have:t=n:=by lia
    rw[this];exact u
  ·obtain⟨t,h1,h2⟩:=KW a0 b0 L n () y
   exact⟨t,by lia,h2⟩
theorem zxO{a:Rat}(ok:aR a b){fl:Nat->Nat}(L:fQ xs (ps++[0]) fl ns)(hn:ns.length=ps.length+1)(f:dJ a b ns ps=false):∃t,t<ns.length/\1<(cW a b (ao a b xs t)).length:=by
 have hl:(ps++[0]).length=ns.length:=by simp[hn]
 refine KW ok.a0 ok.b0 L ns.length () λz=>?_
 have:dJ a b ns ps=true:=FW.mpr ⟨Nk L.Bk.pw L.one,λi hi=>by
  have:=z i hi;unfold eP at this;rw[hl]at this;rw[nX hi];exact this⟩
 rw[f]at this;cases this
theorem zAv{row:List Rat}{fl:Nat->Nat}(L:fQ xs row fl ns)(hn:xs.length=n):((wo n).map λw=>row.getD (fl w) 0)=xs:=by
 refine g6 (by simp[hn]) λw hw=>?_
 have hw:w<n:=by simpa using hw
 rw[L.pl.at' w (),wb,wq,vE hw]
 rfl
theorem ye(h1:1<=xs.length)(h8:xs.length<=8):cJ (aW xs):=by
 have hs:=oN xs;have hv:=iB xs;have hp:=AS h1;refine⟨by lia,by lia,λn hn=>?_,?_⟩
 ·have h2:=zun xs n hn
  refine⟨?_,by lia⟩;obtain⟨v,hv,rfl⟩:=wR.mp hn;have hm:=lK hv;obtain⟨j,hj,e⟩:=ve hm;have:j∈eI xs v:=wU.mpr ⟨wF.mpr hj,decide_eq_true (by rw[wb,wc hj];exact e)⟩;have:=xi this;lia
 ·have h3:=Lc xs
  have:=yt (m7 xs);lia
def iK(a b:Rat)(xs:List Rat)(r:Nat):Prop:=∀k,k<r->cN a b (aW xs) (bC xs) k=true
structure h9(a b:Rat)(xs:List Rat):Prop where
 ok:aR a b
 h1:1<=xs.length
 h8:xs.length<=8
 hp:dj xs
 h0:0∈xs
 cm:Cm 3600 xs
theorem h9.round{a:Rat}(h:h9 a b xs):cX a b (aW xs) (bC xs)/\cJ (aW xs)/\(aW xs).length=(bC xs).length+1:=by
 have hz:bC xs++[0]=aj xs:=yE h.hp h.h0;have h8:=h.h8;have sz:=ye h.h1 h8;have hsl:=oN xs;have hvl:=iB xs;have hsu:=Ez xs;have hpl:(bC xs).length+1=(aj xs).length:=by rw[<- hz];simp
 refine⟨⟨h.ok.ba,h.ok.bb,λn hn=>by have:=sz.each n hn;lia,by lia,by lia,⟨3600,mG h.cm,by lia⟩⟩,sz,by lia⟩
def N6(K:wa):Sp:=λvs H Q _=>∃x0 x1,vs=[x0,x1] /\ ∃(a b:Rat)(xs:List Rat)(r:Nat),x1=.int (r:Int)/\Is K H x0 (aY a b xs)/\h9 a b xs/\r<=30/\iK a b xs r/\Rs K H Q (BD a b xs (r*(aj xs).length))
theorem C6{a:Rat}{v:V}(h:Is K H v (aY a b xs))(ok:h9 a b xs)(h30:r<=30)(f:iK a b xs r)(q:Rs K H Q (BD a b xs (r*(aj xs).length))):N6 K [v,.int (r:Int)] H Q E:=⟨_,_,rfl,a,b,xs,r,rfl,h,ok,h30,f,q⟩
theorem DO{K:wa}{H:Hp} : ∀{xs:List Rat}{us:List V},ah K H us (xs.map N)->∃cs:List we,us=cs.map V.ref
 | [],us,h=>⟨[],fI.mp h⟩
 | x::xs,us,h=>by
  obtain⟨v,r,rfl,iv,t⟩:=dB.mp h;obtain⟨a,_,rfl,_,_⟩:=bY.mp (show Is K H v (.tuple _)from iv);obtain⟨cs,rfl⟩:=DO t;exact⟨a::cs,rfl⟩
def fW(x:Rat):List Int:=[x.num,(x.den:Int)]
theorem zyZ(h:fW x=fW y):x=y:=by
 unfold fW at h
 injection h with h1 h2
 injection h2 with h2 _
 exact ui h1 ()
theorem zu6(h:xs.Nodup):(xs.map fW).Nodup:=by
 unfold List.Nodup at *;rw[QG];exact h.imp λ{a b} n e=>n (zyZ e)
theorem NG(h:j<xs.length):(xs.map fW).getD j []=fW (xs.getD j 0):=by
 rw[wb,wq,wb,wc h]
 rfl
theorem zxR{ks:List (List Int)}{us ws:List we}(nd:ks.Nodup)(hl:ks.length=us.length)(hj:j<us.length):mm (gA ks us ws) (ks.getD j [])=some (ws.getD j 0):=by
 unfold mm gA;rw[List.find?_map];have pw:=Ww.mp nd;cases e:(wo us.length).find? ((λx:NE=>decide (x.1=ks.getD j [])) ∘ λj=>(ks.getD j [],us.getD j 0,ws.getD j 0))with
 | none =>
  have:=List.find?_eq_none.mp e j (wF.mpr hj);simp at this
 | some i =>
  have hm:=wF.mp (QM e);have hp:=uc e;have hp:ks.getD i []=ks.getD j []:=of_decide_eq_true hp;have hi:i<ks.length:=by lia
  have hj':j<ks.length:=by lia
  rw[wb,wb,wc hi,wc hj']at hp
  have hij:i=j:=by
   rcases Vx i j with z | z | z
   ·exact absurd hp (pw i j hi hj' z)
   ·exact z
   ·exact absurd hp.symm (pw j i hj' hi z)
  rw[hij];rfl
theorem zxf{cs ws:List we}(t:ah K H (cs.map V.ref) (xs.map N)):Ab K H (gA (xs.map fW) cs ws):=by
 intro x hx;obtain⟨j,hj,rfl⟩:=wR.mp hx;have hj:=wF.mp hj;have hl:=t.length;simp only[wl]at hl;have:=(cg t (i:=j) (x:=.ref (cs.getD j 0)) (by rw[wq,wb,wc hj];rfl)).2
 show Is K H (.ref (cs.getD j 0)) (TZ ((xs.map fW).getD j []))
 rw[NG ()];exact this
theorem RU(T:Txt K mg a):aF P w K mg base aN 9 a.Hg a.GZ zT (N6 K):=by
 refine T.AW.F.ok rD ?_ ?_;wtm_at "b2"
 refine⟨_,(ai (ay 2 rD.nd (oU (DD T) hr T.sW L4 (q1 0)))
     (ai (ay 3 rD.nd (ak (zl6 T) hr T.G2 (by exact(@ae _ _ _ _ _ (qi 0) (@ae _ _ _ _ _ (qi 2) (@ae _ _ _ _ _ (qi 2) (@ae _ _ _ _ _ (pv 1) ag cu) g_) g_) g_))))
     (ai (ay 4 rD.nd (zyU rfl (WX (xP ⋯ _) hu) rfl T.h0k rfl T.h0r (ae (aB (show bG _ (WF .Add) (yQ K)from Nd) (qi 2) (aQ (ae (cj (v:=.ref a.dD) rfl T.d8 rfl) ag))) (ae (aB (show bG _ (WF .Add) (yQ K)from Nd) (pv 3) (aQ (ae (cj (v:=.ref a.dD) rfl T.d8 rfl) ag))) ag))))
     (ai (ay 5 rD.nd (eQ K T.h0i (ae (dH rfl (cP ["phase","now"] [none,some 4]) (jM (qi 0)) (λ_ _ _ _ _=>(cq 0)) (λ_ _ _ _ _=>dF) (λ_ _ _ _ _=>(show PE _ _ (F0 K _ _)from(zy6 (by exact(WX (xP ⋯ _) hu)) (pv 1) (pv 0) (λ_ _=>rfl))))) ag)))
     (av (aA (aQ (ae (ak (zn5 T) hr T.Hj (by exact(@ae _ _ _ _ _ (qi 0) (@ae _ _ _ _ _ (qi 2) (@ae _ _ _ _ _ (qi 2) (@ae _ _ _ _ _ (pv 1) ag cu) g_) g_) g_))) (ae (aQ (ae (qi 0) (q1 5))) ag))))))))),?_⟩
 wtm_at "cl";rw[show start L0 [x0,x1]=[some x0,some x1,none,none,none,none]from rfl];obtain⟨ra,rb,xs,r,rfl,hw,ok,h30,fr,q⟩:=h;have hz:bC xs++[0]=aj xs:=yE ok.hp ok.h0;have h1:=ok.h1;have h8:=ok.h8;have sz:=ye h1 h8;have hsl:=oN xs;have hvl:=iB xs;have hvp:=AS h1;have hpl:(bC xs).length+1=(aj xs).length:=by rw[<- hz];simp
 have hn:(aW xs).length=(bC xs).length+1:=by lia
 have L:fQ xs (bC xs++[0]) (aH xs) (aW xs):=by rw[hz];exact Pe ok.hp.nn ok.hp.lt
 obtain⟨Lr,Hr⟩:=nT ok.ok L hn (m7 xs) r fr;rw[hsl]at Lr Hr;have hel:=zAv Lr (bW ra rb xs _);have bx:∀i,af 4000 (xs.getD i 0):=λi=>(ok.cm.get i).mono ⋯
 have cp:Cm 3600 (bC xs):=mG ok.cm;have hlk:dG ra rb (aW xs) ((r:Int)).toNat:=by rw[wx];exact mL ok.ok sz ()
 have hbp:∀i,af 6900 ((bC xs).getD i 0):=λi=>(cp.get i).mono ⋯
 o_head B1 hw h8 bx (λz=>absurd ok.h0 z) (λ_ vl H1 S1 il=>?_);have hw1:=hw.by S1;o_head aD (j:=0) hw1 rfl (λvr ir=>?_);o_head aD (j:=0) il rfl (λvz iz=>?_);o_head aD (j:=1) il rfl (λvp ip=>?_);o_head zl3 ir iz ip hn () hlk hbp (λv2 H2 S2 i2=>?_);rw[wx]at i2;o_head aD (j:=1) (il.by S2) rfl (λvp2 ip2=>?_);o_head c6 (ds:=[N 0]) ∅ (.cons (eF 0 (T.fb _) rfl rfl) .nil) (λv3 H3 S3 i3=>?_);refine SO (ip2.by S3) i3 (by rw[wl];simp;lia) (λv4 H4 S4 i4=>?_);o_head c6 (ds:=[N 0]) ∅ (.cons (eF 0 (T.fb _) rfl rfl) .nil) (λv5 H5 S5 i5=>?_);have S25:=S3.trans (S4.trans S5);refine SO (i2.by S25) i5 (by rw[wl,cA];simp;lia) (λv6 H6 S6 i6=>?_)
 have i46:Is K H6 v4 (TN (aj xs)):=by
   have:=i4.by (S5.trans S6);rw[<- hz];unfold TN;rw[wX];exact this
 have i66:Is K H6 v6 (TN (bL ra rb (aW xs) r (bC xs)++[0])):=by
   unfold TN;rw[wX];exact i6
 have S16:=S2.trans (S25.trans S6);have hw6:=hw1.by S16;have il6:=il.by S16;have T6:=S1.trans S16;clear hw hw1 il ir iz ip i2 ip2 i3 i4 i5 i6 S1 S2 S3 S4 S5 S6 S25 S16;have hrl:(bL ra rb (aW xs) r (bC xs)++[0]).length=(aj xs).length:=by rw[wN,cA];simp;lia
 generalize bL ra rb (aW xs) r (bC xs)++[0]=row at *;obtain⟨aa,us,rfl,hs1,tu⟩:=bY.mp i46;obtain⟨ab,ws,rfl,hs2,tw⟩:=bY.mp i66;obtain⟨cs,rfl⟩:=DO tu;obtain⟨ds,rfl⟩:=DO tw;have hcl:=tu.length;have hdl:=tw.length;simp only[wl]at hcl hdl;have nd:=zu6 (Uu xs);have hkl:((aj xs).map fW).length=cs.length:=by rw[wl];lia
 o_head ⟨aa,ab,(aj xs).map fW,cs,ds,rfl,hs1,hs2,by lia,by lia,?_,nd,λD ep hD=>?_⟩
 . rw[V7]
   exact tu
 . have S7:ar H6 (upd H6 D (iG D ep (gA ((aj xs).map fW) cs ds))):=ar.upd hD
   have e7:upd H6 D (iG D ep (gA ((aj xs).map fW) cs ds)) D=some (iG D ep (gA ((aj xs).map fW) cs ds)):=dh;generalize upd H6 D (iG D ep (gA ((aj xs).map fW) cs ds))=H7 at *;have tu7:ah K H7 (cs.map V.ref) ((aj xs).map N):=ah.same S7 _ _ tu;have tw7:ah K H7 (ds.map V.ref) (row.map N):=ah.same S7 _ _ tw;have hw7:=hw6.by S7;o_head aD (j:=1) hw7 rfl (λvq iq=>?_);obtain⟨aq,uq,rfl,hsq,tq⟩:=bY.mp iq;have hql:=tq.length;rw[wl]at hql;refine jw hsq (o0:=none) (tl:=[some (.ref D)]) rfl (λj y H'=>Is K H' y (N (((wo xs.length).map λw=>row.getD (aH xs w) 0).getD j 0))) ?_ ?_
   . intro D' j x ys o H8 hx inv
     obtain⟨hj,ix⟩:=cg tq hx;have S8:=inv.same;obtain⟨ax,_,rfl,_,_⟩:=bY.mp (show Is K H7 x (.tuple _)from ix);have hfl:=(kA xs).lt j hj;have hxe:xs.getD j 0=(aj xs).getD (aH xs j) 0:=(kA xs).at' j hj;o_head ⟨D,ax,ep,_,fW (xs.getD j 0),ds.getD (aH xs j) 0,rfl,rfl,S8 _ _ e7,zxf (ah.same S8 _ _ tu7),ix.by S8,?_,?_⟩
     . rw[hxe,<- NG hfl]
       exact zxR nd hkl ()
     . refine dQ inv () eG ⟨_,rfl⟩ (ar.refl _) ?_
       have hr:((wo xs.length).map λw=>row.getD (aH xs w) 0).getD j 0=row.getD (aH xs j) 0:=by
         rw[wb,wq,vE hj];rfl
       rw[hr];exact(cg tw7 (i:=aH xs j) (x:=.ref (ds.getD (aH xs j) 0)) (by rw[wq,wb,wc ()];rfl)).2.by S8
   . intro D' ys H8 n8 S8 e8 hl8 hr8
     have t8:ah K H8 ys (((wo xs.length).map λw=>row.getD (aH xs w) 0).map N):=eH (by rw[hl8,hql];simp) hr8;rw[hel]at t8;o_head fR (bX e8 t8) (λv9 H9 S9 i9=>?_);have S69:=S7.trans (S8.trans S9);o_head aD (j:=0) (hw6.by S69) rfl (λvr9 ir9=>?_);o_head aD (j:=0) (il6.by S69) rfl (λvz9 iz9=>?_);o_head aD (j:=1) (il6.by S69) rfl (λvp9 ip9=>?_);k_few
     refine zoL ir9 iz9 ip9 hn () hlk cp (by
       have h5:=sz.sum;rw[wx];have:(6*(aW xs).sum.toNat+3)*r<=51*30:=WM () h30;lia) (λv10 H10 S10 i10=>?_)
     rw[wx,<- Hr]at i10;o_head aD (j:=0) (hw6.by (S69.trans S10)) rfl (λvr10 ir10=>?_);o_head c6 (ds:=[R ra rb,TN (ao ra rb xs (r*(aj xs).length))]) ∅ (.cons ir10 (.cons (i9.by S10) .nil)) (λv11 H11 S11 i11=>?_);o_head c6 (ds:=[N (aO ra rb xs (r*(aj xs).length)),aY ra rb (ao ra rb xs (r*(aj xs).length))]) ∅ (.cons (i10.by S11) (.cons i11 .nil)) (λv12 H12 S12 i12=>?_);exact q v12 H12 (T6.trans (S69.trans (S10.trans (S11.trans S12)))) i12
def Oz(K:wa):Sp:=λvs H Q _=>∃x0 x1 x2,vs=[x0,x1,x2] /\ ∃(a b:Rat)(xs:List Rat)(r g:Nat),x1=.int (r:Int)/\x2=.int (g:Int)/\Is K H x0 (aY a b xs)/\aR a b/\1<=xs.length/\xs.length<=8/\(1<=r->h9 a b xs/\r<=30/\iK a b xs r)/\g<=40/\af 8000 (aO a b xs (r*(aj xs).length))/\(∀i,i<=g->Cm 3700 (aO a b (ao a b xs (r*(aj xs).length)) i::ao a b (ao a b xs (r*(aj xs).length)) i))/\Rs K H Q (BD a b xs (r*(aj xs).length+g))
theorem Z1{a:Rat}{g:Nat}{v:V}(h:Is K H v (aY a b xs))(ok:aR a b)(h1:1<=xs.length)(h8:xs.length<=8)(f:1<=r->h9 a b xs/\r<=30/\iK a b xs r)(hg:g<=40)(c:af 8000 (aO a b xs (r*(aj xs).length)))(c2:∀i,i<=g->Cm 3700 (aO a b (ao a b xs (r*(aj xs).length)) i::ao a b (ao a b xs (r*(aj xs).length)) i))(q:Rs K H Q (BD a b xs (r*(aj xs).length+g))):Oz K [v,.int (r:Int),.int (g:Int)] H Q E:=⟨_,_,_,rfl,a,b,xs,r,g,rfl,rfl,h,ok,h1,h8,f,hg,c,c2,q⟩
theorem zpx(T:Txt K mg a):aF P w K mg base aN 10 a.IW a.Hh yU (Oz K):=by
 refine T.HR.F.ok CB ?_ ?_;wtm_at "b3"
 refine⟨_,(ai (ay 3 CB.nd (q_ (cY kx (pv 1) au (cQ _)) (ak (RU T) hr T.AW (q2 0 1)) (aQ (ae (cj (v:=.ref a.dD) rfl T.d8 rfl) (q1 0)))))
     (ai (ay 4 CB.nd (ak (zxd T) hr T.JT (ae (qi 3) (q1 2))))
     (av (aA (aQ (ae (ak (gO T) hr T.gh (ae (qi 3) (ae (qi 4) ag))) (ae (qi 4) ag))))))),?_⟩
 wtm_at "cl";rw[show start UL [x0,x1,x2]=[some x0,some x1,some x2,none,none]from rfl];obtain⟨ra,rb,xs,r,g,rfl,rfl,hw,ok,h1,h8,f,hg,c,c2,q⟩:=h;k_few
 . rename_i z
   obtain⟨sw,h30,fr⟩:=f ();refine C6 hw sw h30 fr (λv1 H1 S1 i1=>?_);o_head aD (j:=1) i1 rfl (λv2 i2=>?_);o_head MO i2 ok.ba ok.bb (by rw[bW];exact h1) (by rw[bW];exact h8) () () (by rw[wx];exact c2) (λv3 H3 S3 i3=>?_);rw[wx]at i3;have i13:=i1.by S3;o_head aD (j:=0) i13 rfl (λv4 i4=>?_);o_head aD (j:=0) i3 rfl (λv5 i5=>?_);have b5:af 3700 (aO ra rb (ao ra rb xs (r*(aj xs).length)) g):=(c2 g (wp _)).dM (wE ..);k_few;rename_i v6 H6 S6 i6;refine aD (j:=1) (i3.by S6) rfl (λv7 i7=>?_);k_few;rw[km]at i6;rw[eD]at i7;refine c6 (ds:=[N (aO ra rb xs (r*(aj xs).length+g)),aY ra rb (ao ra rb xs (r*(aj xs).length+g))]) ∅ (.cons i6 (.cons i7 .nil)) (λv8 H8 S8 i8=>?_);exact q v8 H8 (S1.trans (S3.trans (S6.trans S8))) i8
 . rename_i z
   have hr0:r=0:=by lia
   refine c6 (ds:=[N 0,aY ra rb xs]) ∅ (.cons (eF 0 (T.fb _) rfl rfl) (.cons hw .nil)) (λv1 H1 S1 i1=>?_);have i1:Is K H1 v1 (BD ra rb xs (r*(aj xs).length)):=by rw[hr0,VN];exact i1
   o_head aD (j:=1) i1 rfl (λv2 i2=>?_);o_head MO i2 ok.ba ok.bb (by rw[bW];exact h1) (by rw[bW];exact h8) () () (by rw[wx];exact c2) (λv3 H3 S3 i3=>?_);rw[wx]at i3;have i13:=i1.by S3;o_head aD (j:=0) i13 rfl (λv4 i4=>?_);o_head aD (j:=0) i3 rfl (λv5 i5=>?_);have b5:af 3700 (aO ra rb (ao ra rb xs (r*(aj xs).length)) g):=(c2 g (wp _)).dM (wE ..);k_few;rename_i v6 H6 S6 i6;refine aD (j:=1) (i3.by S6) rfl (λv7 i7=>?_);k_few;rw[km]at i6;rw[eD]at i7;refine c6 (ds:=[N (aO ra rb xs (r*(aj xs).length+g)),aY ra rb (ao ra rb xs (r*(aj xs).length+g))]) ∅ (.cons i6 (.cons i7 .nil)) (λv8 H8 S8 i8=>?_);exact q v8 H8 (S1.trans (S3.trans (S6.trans S8))) i8
def eZ(a b:Rat)(xs:List Rat):Option String :=
 if(aj xs).length=1 then some "one"
 else if dJ a b (aW xs) (bC xs)=true then
  if cK a b (aW xs) (bC xs)=bC xs then some "rests"
  else if a<1/\lu a b (aW xs)=true then some "drawn" else none
 else none
def pV:Option String->V
 | none=>.bM
 | some s=>.str (vM s)
def NN(K:wa):Sp:=λvs H Q _=>∃x0,vs=[x0] /\ ∃(a b:Rat)(xs:List Rat),Is K H x0 (aY a b xs)/\h9 a b xs/\Rq H Q (pV (eZ a b xs))
theorem zue{a:Rat}{v:V}(h:Is K H v (aY a b xs))(ok:h9 a b xs)(q:Rq H Q (pV (eZ a b xs))):NN K [v] H Q E:=⟨_,rfl,a,b,xs,h,ok,q⟩
theorem zvi(T:Txt K mg a):aF P w K mg base aN 10 a.Kg a.IJ AN (NN K):=by
 refine T.JB.F.ok Lb ?_ ?_;wtm_at "b1"
 refine⟨_,(ai (aV (d5 K hu (c8 K T.h0t (ae (ak (FY T) hr T.sP (q1 0)) ag)) au) (av (aA fP)) aX)
     (ai (aV (cv (b_ (ak (Oo T) hr T.A9 (q1 0)))) (av (aA eT)) aX)
     (ai (ay 1 Lb.nd (oU (DD T) hr T.sW L4 (q1 0)))
     (ai (aV (cv (b_ (ak (B8 T) hr T.sO (ae (qi 0) (ae (qi 1) (ae (qi 1) ag)))))) (av (aA eT)) aX)
     (ai (aV (d5 K hu (ak (MZ T) hr T.AY (ae (qi 0) (ae (qi 1) (ae (qi 1) ag)))) (qi 1)) (av (aA fP)) aX)
     (ai (aV (PW.pt (EW (d5 K hu (ak (P0 T) hr T.Bj (ae (qi 0) ag)) fP) (Bq (b_ (ak (R7 T) hr T.AX (ae (qi 0) (ae (qi 1) ag))))))) (av (aA fP)) aX)
     (av (aA eT)))))))),?_⟩
 wtm_at "cl";rw[show start O5 [x0]=[some x0,none]from rfl];obtain⟨ra,rb,xs,hw,ok,q⟩:=h;obtain⟨rok,sz,hn⟩:=ok.round;have h8:=ok.h8;have bx:∀i,af 4000 (xs.getD i 0):=λi=>(ok.cm.get i).mono ⋯
 have bp:∀i,af 4000 ((bC xs).getD i 0):=λi=>((mG ok.cm).get i).mono ⋯
 unfold eZ at q;o_head CF hw h8 bx (λlf H1 us1 n1 S1 e1 t1=>?_);have hul:=t1.length;rw[wl]at hul;have hw1:=hw.by S1;o_head gG (.of e1) ?_;rw[hul];k_few
 . rename_i z
   have z:(aj xs).length=1:=by lia
   rw[if_pos z]at q;exact q _ S1
 . rename_i z
   have z:¬ (aj xs).length=1:=by lia
   rw[if_neg z]at q;refine Rm hw1 ?_;rw[decide_eq_true ok.h0];o_head B1 hw1 h8 bx (λz=>absurd ok.h0 z) (λ_ vl H2 S2 il=>?_);have hw2:=hw1.by S2;o_head aD (j:=0) hw2 rfl (λvr ir=>?_);o_head aD (j:=0) il rfl (λvz iz=>?_);o_head aD (j:=1) il rfl (λvp ip=>?_);o_head Ew ir iz ip rok (λH3 S3=>?_);have T3:=S1.trans (S2.trans S3);have hw3:=hw2.by S3;have il3:=il.by S3;clear hw hw1 hw2 il ir iz ip S1 S2 S3 e1 t1 n1;k_few
   . rename_i y
     rw[if_neg (by rw[y];decide)]at q;exact q _ T3
   . rename_i y
     rw[if_pos y]at q;refine aD (j:=0) hw3 rfl (λvr ir=>?_);o_head aD (j:=0) il3 rfl (λvz iz=>?_);o_head aD (j:=1) il3 rfl (λvp ip=>?_);o_head LB ir iz ip rok (λv4 H4 S4 i4=>?_);o_head aD (j:=1) (il3.by S4) rfl (λvp4 ip4=>?_);refine P_ i4 ip4 ?_;k_few
     . rename_i u
       rw[if_pos u]at q;exact q _ (T3.trans S4)
     . rename_i u
       rw[if_neg u]at q;refine aD (j:=0) (hw3.by S4) rfl (λvr4 ir4=>?_);o_head Uv ir4 (ok.ok.ba.mono ⋯) ?_;unfold pW
       by_cases z1:1<ra
       . rw[if_pos z1]
         o_head lY _ _ false (by rw[w8];decide) ?_;k_few;rw[if_neg (λh=>absurd h.1 (by grind))]at q;exact q _ (T3.trans S4)
       . rw[if_neg z1]
         by_cases z2:ra=1
         . rw[if_pos z2]
           o_head lY _ _ false (by rw[w8];decide) ?_;k_few;rw[if_neg (λh=>absurd h.1 (by grind))]at q;exact q _ (T3.trans S4)
         . rw[if_neg z2]
           have ha:ra<1:=by
             by_cases h:ra<1
             . exact h
             . exact absurd (qz (Vi.mp h) (WB z2)) z1
           o_head lY _ _ true (by rw[w8];decide) ?_;o_head aD (j:=0) (hw3.by S4) rfl (λvr5 ir5=>?_);o_head aD (j:=0) (il3.by S4) rfl (λvz5 iz5=>?_);o_head Lh ir5 iz5 ok.ok sz z2 (λH5 S5=>?_);k_few
           . rename_i d
             rw[if_pos ⟨ha,d⟩]at q;exact q _ (T3.trans (S4.trans S5))
           . rename_i d
             rw[if_neg (λh=>by rw[h.2]at d;cases d)]at q;exact q _ (T3.trans (S4.trans S5))
def Md(K:wa):Sp:=λvs H Q _=>∃x0,vs=[x0] /\ ∃(a b:Rat)(xs:List Rat)(g:Nat),Is K H x0 (aY a b xs)/\aR a b/\1<=xs.length/\xs.length<=8/\g<=8/\(∀t,t<=g->Cm 3700 (ao a b xs t))/\(∀t,t<g->(cW a b (ao a b xs t)).length=1)/\(cW a b (ao a b xs g)).length≠1/\Rq H Q (.int ((g+1:Nat):Int))
theorem Oj{a:Rat}{g:Nat}{v:V}(h:Is K H v (aY a b xs))(ok:aR a b)(h1:1<=xs.length)(h8:xs.length<=8)(hg:g<=8)(c:∀t,t<=g->Cm 3700 (ao a b xs t))(w1:∀t,t<g->(cW a b (ao a b xs t)).length=1)(w2:(cW a b (ao a b xs g)).length≠1)(q:Rq H Q (.int ((g+1:Nat):Int))):Md K [v] H Q E:=⟨_,rfl,a,b,xs,g,h,ok,h1,h8,hg,c,w1,w2,q⟩
theorem zlV(T:Txt K mg a):aF P w K mg base aN 5 a.Ht a.G1 z_ (Md K):=by
 refine T.G5.F.ok p0 ?_ ?_;wtm_at "b1"
 refine⟨_,(ai (ay 1 p0.nd au)
     (ai (ay 2 p0.nd (ak (CC T) hr T.sU (q1 0)))
     (ai (lD w5 (d5 K hu (c8 K T.h0t (ae (qi 2) ag)) au) (ai (zCA (i:=1) p0.nd rfl (Or.inl rfl) au zDC)
     (av (ay 2 p0.nd (ak (CC T) hr T.sU (ae (qi 2) ag))))))
     (av (aA (pv 1)))))),?_⟩
 wtm_at "cl";rw[show start Td [x0]=[some x0,none,none]from rfl];obtain⟨ra,rb,xs,g,hw,ok,h1,h8,hg,c,w1,w2,q⟩:=h;o_head ED hw ok.ba ok.bb h1 h8 (c 0 ()) () (λv2 H2 S2 i2=>?_);o_head oC (λm σ' H'=>∃(t:Nat)(v:V),σ'=[some x0,some (.int ((t+1:Nat):Int)),some v]/\m=g-t/\t<=g/\ar H H'/\Is K H' v (GD ra rb (ao ra rb xs t))) _ ⟨0,v2,rfl,rfl,by lia,S2,i2⟩ ?_;rintro m σ' H3 ⟨t,v,rfl,rfl,ht,S3,iv⟩;o_head aD (j:=1) iv rfl (λv4 i4=>?_);o_head ly i4 ?_;rw[wl];k_few
 . rename_i z
   have z:(cW ra rb (ao ra rb xs t)).length=1:=by lia
   have htg:t<g:=by
     rcases wG t g with y | y
     . exact y
     . have:t=g:=by lia
       subst this;exact absurd z w2
   have hpl:=bW ra rb xs t;have hpl2:=bW ra rb xs (t+1);refine nW ?_;o_head ZI rfl ?_;o_head zCZ ?_;o_head aD (j:=2) iv rfl (λv5 i5=>?_);o_head ED (show Is K H3 v5 (aY ra rb (ao ra rb xs (t+1)))from i5) ok.ba ok.bb () () (c (t+1) ()) () (λv6 H6 S6 i6=>?_);k_few;exact⟨g-(t+1),by lia,t+1,v6,by push_cast;rfl,rfl,by lia,S3.trans S6,i6⟩
 . rename_i z
   have htg:t=g:=by
     rcases wG t g with y | y
     . exact absurd (by rw[w1 t y];rfl) z
     . lia
   subst htg;exact q H3 S3
def Ov(B:Int)(x:Rat):Prop:=∃t:Int,x=wu t B
theorem Ov.zero(B:Int):Ov B 0:=⟨0,by simp⟩
theorem Ov.more{d:Int}(h:Ov B x)(hB:0<B)(hd:0<d):Ov (B*d) x:=by
 obtain⟨t,rfl⟩:=h;exact⟨t*d,rH hB hd⟩
theorem zBJ(t u:Int):∃m,Bd m t/\Bd m u:=⟨t.natAbs+u.natAbs,⟨WX (by lia:t.natAbs<=t.natAbs+u.natAbs) xQ⟩,⟨WX (by lia:u.natAbs<=t.natAbs+u.natAbs) xQ⟩⟩
theorem zEM{a:Rat}(h:aR a b):Bd 6 a.num:=by
 have h1:=h.a0;have h2:=h.a4;have h3:=h.ad;have n0:0<=a.num:=qG.mpr (vX h1)
 have n1:a.num<=4*a.den:=by
   have:=(xz a 4).mp h2
   simpa using this
 exact ⟨by have : (2 : Nat) ^ 6 = 64 := by decide
           lia⟩
theorem zEj{a:Rat}(h:aR a b):Bd 4 (a.den:Int):=by
 have h3:=h.ad
 exact ⟨by have : (2 : Nat) ^ 4 = 16 := by decide
           lia⟩
theorem zEO{a:Rat}(h:aR a b):Bd 4 b.num:=by
 have h1:=h.b0;have h2:=h.b1;have h3:=h.bd;have n0:0<=b.num:=qG.mpr h1
 have n1:b.num<=b.den:=by
   have:=(xz b 1).mp h2
   simpa using this
 exact ⟨by have : (2 : Nat) ^ 4 = 16 := by decide
           lia⟩
theorem Ov.push{a:Rat}(ok:aR a b)(hB:0<B)(hd:(b.den:Int) ∣ B)(h:Ov B x)(n:Nat):Ov (B*(a.den:Int)^n) (push a b n x):=by
 obtain⟨t,rfl⟩:=h;obtain⟨m,h1,h2⟩:=zBJ t B;obtain⟨_,_,_,T,e,_⟩:=U1 (zEM ok) (zEj ok) (zEO ok) hB hd h1 h2 n;exact⟨T,e⟩
theorem rT(a:Rat)(n:Nat):0<(a.den:Int)^n:=Xy (den_pos a)
theorem Ov.up{a:Rat}(h:Ov B x)(hB:0<B)(n:Nat):Ov (B*(a.den:Int)^n) x:=h.more hB (rT a n)
theorem PX(h:∀x∈xs,Ov B x)(i:Nat):Ov B (xs.getD i 0):=by
 rcases wG i xs.length with z | z
 ·exact h _ (getD_mem z)
 ·rw[wb,wI z];exact Ov.zero B
theorem zxr(h:∀i,i<xs.length->Ov B (xs.getD i 0)):∀x∈xs,Ov B x:=λx hx=>by
 obtain⟨j,hj,rfl⟩:=ve hx;have:=h j hj;rw[wb,wc hj]at this;exact this
theorem Ul{a b:Rat}(ok:aR a b):∀(n:Nat)(B:Int)(ps:List Rat)(left:List Nat),0<B->(b.den:Int) ∣ B->left.Nodup->(∀w∈left,w<ps.length)->(∀x∈ps,Ov B x)->∀x∈(cO a b n ps left).2.2,Ov (B*(a.den:Int)^(cO a b n ps left).1.flatten.length) x
 | 0,B,ps,left,hB,_,_,_,h=>λx hx=>by
  have:Ov (B*(a.den:Int)^0) x:=by rw[Qd,qR];exact h x hx
  exact this
 | n+1,B,ps,left,hB,hd,nd,lt,h=>by
  by_cases e:az ps left=[]
  ·rw[mD e]
   intro x hx;have:Ov (B*(a.den:Int)^0) x:=by rw[Qd,qR];exact h x hx
   exact this
  ·rw[jb e]
   have nd':(bK left (az ps left)).Nodup:=n_ nd;have lt':=nY (wave:=az ps left) lt
   have ih:=Ul ok n (B*(a.den:Int)^(az ps left).length) (cF (a^(az ps left).length) (aC a b (az ps left).length) ps (bK left (az ps left))) (bK left (az ps left)) (vT hB (rT a _)) (qh hd (Vw ..)) nd' (λw hw=>by rw[gR];exact lt' w hw) (zxr λi hi=>by
    rw[jn _ _ _ _ nd' lt']
    split
    ·rw[<- gz];exact(PX h i).push ok hB hd _
    ·exact(PX h i).up hB _)
   intro x hx;have:=ih x hx
   show Ov (B*(a.den:Int)^(az ps left::_).flatten.length) x
   rw[Vv,wN,XD,<- VQ];exact this
theorem Ov.rise(hx:Ov B x)(hy:Ov B y)(hB:0<B):Ov B (x+(1-y)):=by
 obtain⟨t,rfl⟩:=hx;obtain⟨z,rfl⟩:=hy;refine⟨t+B-z,?_⟩
 symm
 refine fK () ?_;have q1:=c9 t (show B≠0 by lia);have q2:=c9 z (show B≠0 by lia);have q3:((t+B-z:Int):Rat)=(t:Rat)+(B:Rat)-(z:Rat):=by push_cast;rfl
 rw[q3,<- q1,<- q2]
 grind
def jW(a b:Rat)(xs:List Rat):Nat:=(cW a b xs).flatten.length
theorem Zq{a:Rat}(ok:aR a b)(hB:0<B)(hd:(b.den:Int) ∣ B)(h1:1<=xs.length)(h:∀x∈xs,Ov B x):∀y∈cZ a b xs,Ov (B*(a.den:Int)^jW a b xs) y:=by
 have hr:∀x∈bE xs,Ov B x:=λx hx=>by
  obtain⟨y,hy,rfl⟩:=wR.mp hx;exact(h y hy).rise (h _ (fG h1)) hB
 have:=Ul ok xs.length B (bE xs) (wo xs.length) hB hd WK (λw hw=>by rw[eU];exact wF.mp hw) hr;intro y hy;rcases zye y hy with z | z
 ·exact this y z
 ·rw[z];exact Ov.zero _
def cn(a b:Rat)(xs:List Rat):Nat->Nat
 | 0=>0
 | k+1=>cn a b xs k+jW a b (ao a b xs k)
theorem nN(a b:Rat)(xs:List Rat)(m:Nat):∀k,cn a b xs (m+k)=cn a b xs m+cn a b (ao a b xs m) k
 | 0=>rfl
 | k+1=>by
  show cn a b xs (m+k)+jW a b (ao a b xs (m+k))=cn a b xs m+(cn a b (ao a b xs m) k+jW a b (ao a b (ao a b xs m) k))
  rw[nN a b xs m k,eD];lia
theorem CN{a b:Rat}(ok:aR a b){B:Int}(hB:0<B)(hd:(b.den:Int) ∣ B){xs:List Rat}(h1:1<=xs.length)(h:∀x∈xs,Ov B x):∀k,(∀y∈ao a b xs k,Ov (B*(a.den:Int)^cn a b xs k) y)/\Ov (B*(a.den:Int)^cn a b xs k) (aO a b xs k)
 | 0=>by
  show(∀y∈xs,Ov (B*(a.den:Int)^0) y)/\Ov (B*(a.den:Int)^0) 0
  rw[Qd,qR];exact⟨h,Ov.zero B⟩
 | k+1=>by
  obtain⟨hp,hh⟩:=CN ok hB hd h1 h k;have hBk:=vT hB (rT a (cn a b xs k));have hpl:=bW a b xs k
  have e:B*(a.den:Int)^cn a b xs (k+1)=B*(a.den:Int)^cn a b xs k*(a.den:Int)^jW a b (ao a b xs k):=by
   rw[VQ,<- XD];rfl
  rw[e];refine⟨Zq ok hBk (qh hd (Vw ..)) () hp,?_⟩;exact(Ov.rise hh (hp _ (fG ())) hBk).up hBk _
theorem KU{a b:Rat}(a0:0<a)(b0:0<=b){xs:List Rat}(h1:1<=xs.length)(hp:dj xs):∀k:Nat,0<=aO a b xs k/\aO a b xs k<=((k:Int):Rat)
 | 0=>⟨WR,WR⟩
 | k+1=>by
  obtain⟨l,u⟩:=KU a0 b0 h1 hp k;have hk:=hp.at a0 b0 k;have hm:=fG (xs:=ao a b xs k) (by rw[bW];exact h1);have m0:=hk.nn _ hm;have m1:=hk.lt _ hm;have e:aO a b xs (k+1)=aO a b xs k+(1-aU (ao a b xs k)):=rfl;have ek:(((k+1:Nat):Int):Rat)=((k:Int):Rat)+1:=by push_cast;rfl
  rw[e,ek];exact⟨by grind,by grind⟩
theorem CH{l:Nat}(hB:0<B)(bB:Bd m B)(h:Ov B x)(x0:0<=x)(x1:x<=(((2^l:Nat):Int):Rat)):∃t:Int,x=wu t B/\Bd (m+l+1) t:=by
 obtain⟨t,rfl⟩:=h;refine⟨t,rfl,?_⟩;have q1:=c9 t (show B≠0 by lia);have hBr:(0:Rat)<(B:Rat):=X4.mpr hB;have t0:(0:Rat)<=(t:Rat):=by rw[<- q1];exact Qk x0 (vX hBr)
 have t1:(t:Rat)<=(((2^l:Nat):Int):Rat)*(B:Rat):=by
  rw[<- q1];exact Qe x1 (vX hBr)
 have t0':0<=t:=Rat.intCast_nonneg.mp t0
 have t1':t<=((2^l:Nat):Int)*B:=by
  rw[<- vR]at t1;exact Vh.mp t1
 have b:=bB.lt;refine⟨?_⟩
 have hb:t.natAbs<=2^l*B.natAbs:=by
  have e:((2^l*B.natAbs:Nat):Int)=((2^l:Nat):Int)*B:=by
   rw[Vn]
   congr 1
   lia
  lia
 have:2^l*B.natAbs<2^l*2^m:=Nat.mul_lt_mul_of_pos_left b (Wm l);have e2:2^(m+l+1)=2^l*2^m*2:=by rw[Vj,xc,xW (2^m)]
 lia
theorem Zc{a:Rat}(ok:aR a b)(h:Bd m B)(n:Nat):Bd (m+3*n) (B*(a.den:Int)^n):=by
 refine⟨?_⟩;have h1:=h.lt;have h8:=ok.ad;rw[xp,Int.natAbs_pow,Int.natAbs_natCast,xc,Nat.pow_mul];have e:(2:Nat)^3=8:=by decide
 rw[e];have h2:a.den^n<=8^n:=Nat.pow_le_pow_left h8 n;have hp:0<8^n:=Nat.pow_pos ⋯;exact WX (Qi _ h2) (Nat.mul_lt_mul_of_pos_right h1 hp)
theorem Ov.sub(hx:Ov B x)(hy:Ov B y)(hB:0<B):Ov B (x-y):=by
 obtain⟨t,rfl⟩:=hx;obtain⟨z,rfl⟩:=hy;refine⟨t-z,?_⟩
 symm
 refine fK () ?_;have q1:=c9 t (show B≠0 by lia);have q2:=c9 z (show B≠0 by lia);have q3:((t-z:Int):Rat)=(t:Rat)-(z:Rat):=by push_cast;rfl
 rw[q3,<- q1,<- q2]
 grind
theorem To{a:Rat}(ok:aR a b)(c:e_ b.den m xs)(h1:1<=xs.length)(hp:dj xs){l:Nat}(hk:k<=2^l):Cm (m+3*cn a b xs (i+k)+l+1) (aO a b (ao a b xs i) k::ao a b (ao a b xs i) k):=by
 obtain⟨B,hB,hd,bB,hx⟩:=c;have hov:=CN ok hB hd h1 (λx hx'=>let ⟨t,e,_⟩:=hx x hx';⟨t,e⟩);obtain⟨hph,hh⟩:=hov (i+k);have hBk:=vT hB (rT a (cn a b xs (i+k)))
 have hi:Ov (B*(a.den:Int)^cn a b xs (i+k)) (aO a b xs i):=by
  have:=((hov i).2).up (a:=a) (vT hB (rT a (cn a b xs i))) (cn a b (ao a b xs i) k);rw[VQ,<- XD,<- nN]at this;exact this
 have hhk:Ov (B*(a.den:Int)^cn a b xs (i+k)) (aO a b (ao a b xs i) k):=by
  have e:aO a b (ao a b xs i) k=aO a b xs (i+k)-aO a b xs i:=by
   have:=km a b xs i k
   grind
  rw[e];exact hh.sub hi hBk
 have bb:=Zc ok bB (cn a b xs (i+k));have hpi:=hp.at ok.a0 ok.b0 i;have hpk:=hpi.at ok.a0 ok.b0 k;have hl:(((k:Nat):Int):Rat)<=(((2^l:Nat):Int):Rat):=Vh.mpr ()
 have h1l:(1:Rat)<=(((2^l:Nat):Int):Rat):=by
  have:((1:Int):Rat)<=(((2^l:Nat):Int):Rat):=Vh.mpr (by have:=Wm l;lia);exact this
 refine⟨_,hBk,bb.mono (),λx hx'=>?_⟩;rcases wL.mp hx' with rfl | hx'
 ·have hb:=KU ok.a0 ok.b0 (xs:=ao a b xs i) (by rw[bW];exact h1) hpi k
  exact CH hBk bb hhk hb.1 (QR hb.2 hl)
 ·have:=hph x (by rw[<- eD];exact hx')
  exact CH hBk bb this (hpk.nn x hx') (QR (vX (hpk.lt x hx')) h1l)
theorem zx6{a:Rat}(a0:0<a)(b0:0<=b)(h1:1<=xs.length)(hp:dj xs):jW a b xs<=xs.length:=by
 obtain⟨v,J⟩:=Dq a0 b0 h1 hp.nn hp.lt;unfold jW;rw[J.perm.length_eq];unfold seg;have:=vS (λw=>decide (0<=aH xs w)&&decide (aH xs w<v)) (wo xs.length);rw[vc]at this;exact this
theorem sC{a b:Rat}(a0:0<a)(b0:0<=b){xs:List Rat}(h1:1<=xs.length)(hp:dj xs):∀k,cn a b xs k<=k*xs.length
 | 0=>VZ _
 | k+1=>by
  have ih:=sC a0 b0 h1 hp k;have hl:=bW a b xs k;have:=zx6 a0 b0 (xs:=ao a b xs k) () (hp.at a0 b0 k);rw[qw]
  show cn a b xs k+jW a b (ao a b xs k)<=_
  lia
theorem zuk{a:Rat}(a0:0<a)(b0:0<=b)(h1:1<=xs.length)(hp:dj xs):1<=(cW a b xs).length:=by
 obtain⟨v,J⟩:=Dq a0 b0 h1 hp.nn hp.lt;obtain⟨ws,e,_⟩:=J.first;rw[e];simp
theorem Uj{a:Rat}(a0:0<a)(b0:0<=b)(h1:1<=xs.length)(hp:dj xs):(aj (cZ a b xs)).length<=(aj xs).length/\(1<(cW a b xs).length->(aj (cZ a b xs)).length<(aj xs).length):=by
 obtain⟨v,J⟩:=Dq a0 b0 h1 hp.nn hp.lt;have e:=congrArg List.length J.new;rw[jX,wN,Wh,jX,vV]at e;have v1:=J.v1;have vm:=J.vm;exact⟨by lia,λh=>by have:=J.more.mp h;lia⟩
theorem Lm{a b:Rat}(a0:0<a)(b0:0<=b){xs:List Rat}(h1:1<=xs.length)(hp:dj xs):∀k,(aj (ao a b xs k)).length<=(aj xs).length
 | 0=>wp _
 | k+1=>Wf (Uj a0 b0 (xs:=ao a b xs k) (by rw[bW];exact h1) (hp.at a0 b0 k)).1 (Lm a0 b0 h1 hp k)
theorem V_{a b:Rat}(ok:aR a b){xs ps:List Rat}{fl:Nat->Nat}{ns:List Int}(L:fQ xs (ps++[0]) fl ns)(hn:ns.length=ps.length+1)(f:dJ a b ns ps=true):∀t,t<=ns.length->cn a b xs t=upTo ns t
 | 0,_=>rfl
 | t+1,ht=>by
  have ih:=V_ ok L hn f t ();have hw:=(UZ ok L hn f).2.1 t ();have hl:(ps++[0]).length=ns.length:=by simp[hn]
  have hs:=L.size t ()
  show cn a b xs t+jW a b (ao a b xs t)=_
  unfold jW;rw[hw,ih,nP (),hs];simp
theorem FN{a b:Rat}(ok:aR a b){xs ps:List Rat}{fl:Nat->Nat}{ns:List Int}(L:fQ xs (ps++[0]) fl ns)(hn:ns.length=ps.length+1)(n0:∀n∈ns,0<=n):∀k,(∀j,j<k->cN a b ns ps j=true)->cn a b xs (k*ns.length)=k*upTo ns ns.length
 | 0,_=>by rw[VN,VN];rfl
 | k+1,h=>by
  have ih:=FN ok L hn n0 k λj hj=>h j ()
  obtain⟨Lk,_⟩:=nT ok L hn n0 k λj hj=>h j ()
  have hl:ns.length=(bL a b ns k ps).length+1:=by rw[cA];exact hn
  rw[qw,nN,ih,V_ ok Lk hl (h k ()) _ (wp _),qw]
structure gq(a b:Rat)(xs:List Rat)(r g:Nat):Prop where
 jf:r<=30
 free:iK a b xs r
 ends:cN a b (aW xs) (bC xs) r=false
 g1:1<=g
 gN:g<=(aj xs).length
 one:∀t,t+1<g->(cW a b (ao a b (ao a b xs (r*(aj xs).length)) t)).length=1
 join:1<(cW a b (ao a b (ao a b xs (r*(aj xs).length)) (g-1))).length
theorem Pn{p:Nat->Prop} : ∀n,(∃t,t<n /\ ¬ p t)->∃g,g<n/\(∀t,t<g->p t) /\ ¬ p g
 | 0,h=>by obtain⟨t,ht,_⟩:=h;lia
 | n+1,h=>by
  by_cases z:∃t,t<n /\ ¬ p t
  ·obtain⟨g,h1,h2,h3⟩:=Pn n z
   exact⟨g,by lia,h2,h3⟩
  ·obtain⟨t,ht,hp⟩:=h
   have htn:t=n:=by
    rcases wG t n with y | y
    ·exact absurd ⟨t,y,hp⟩ z
    ·lia
   subst htn;exact⟨t,by lia,λs hs=>We.mp λy=>z ⟨s,hs,y⟩,hp⟩
structure zCB(a b:Rat)(xs:List Rat):Prop where
 hz:bC xs++[0]=aj xs
 hn:(aW xs).length=(bC xs).length+1
 hs:(aW xs).length=(aj xs).length
 L:fQ xs (bC xs++[0]) (aH xs) (aW xs)
theorem rR{a:Rat}(hp:dj xs)(h0:0∈xs):zCB a b xs:=by
 have hz:bC xs++[0]=aj xs:=yE hp h0;have hsl:=oN xs;have hpl:(bC xs).length+1=(aj xs).length:=by rw[<- hz];simp
 exact⟨hz,by lia,hsl,by rw[hz];exact Pe hp.nn hp.lt⟩
theorem Ol{a:Rat}(ok:aR a b)(h1:1<=xs.length)(hp:dj xs)(h0:0∈xs)(h30:r<=30)(f:iK a b xs r)(e:cN a b (aW xs) (bC xs) r=false):∃g,gq a b xs r g:=by
 obtain⟨hz,hn,hs,L⟩:=rR (a:=a) (b:=b) hp h0;obtain⟨Lr,_⟩:=nT ok L hn (m7 xs) r f;obtain⟨t,ht,hj⟩:=zxO ok Lr (by rw[cA];exact hn) e;rw[hs]at ht hj;obtain⟨g,g1,g2,g3⟩:=Pn (p:=λt=>(cW a b (ao a b (ao a b xs (r*(aj xs).length)) t)).length=1) (aj xs).length ⟨t,ht,λz=>by rw[z]at hj;lia⟩;refine⟨g+1,h30,f,e,by lia,by lia,λt ht=>g2 t (),?_⟩;have:=zuk (a:=a) (b:=b) ok.a0 ok.b0 (xs:=ao a b (ao a b xs (r*(aj xs).length)) g) (by rw[bW,bW];exact h1) ((hp.at ok.a0 ok.b0 _).at ok.a0 ok.b0 _);rw[qy];have g3:¬ (cW a b (ao a b (ao a b xs (r*(aj xs).length)) g)).length=1:=g3;lia
theorem gq.cn{a:Rat}{g:Nat}(R:gq a b xs r g)(ok:aR a b)(h1:1<=xs.length)(hp:dj xs)(h0:0∈xs){t:Nat}(ht:t<=g):cn a b xs (r*(aj xs).length+t)<=30*xs.length+xs.length*xs.length:=by
 obtain⟨hz,hn,hs,L⟩:=rR (a:=a) (b:=b) hp h0;have h2:=FN ok L hn (m7 xs) r R.free;rw[hs]at h2;have h3:=Ez xs;rw[hs]at h3;have h4:=sC ok.a0 ok.b0 (xs:=ao a b xs (r*(aj xs).length)) (by rw[bW];exact h1) (hp.at ok.a0 ok.b0 _) t;rw[bW]at h4;rw[nN,h2];have h5:r*upTo (aW xs) (aj xs).length<=30*xs.length:=WM R.jf h3;have h6:t*xs.length<=xs.length*xs.length:=vU _ (by have:=R.gN;have:=iB xs;lia);lia
theorem gq.Kx{a:Rat}{g:Nat}(R:gq a b xs r g)(ok:aR a b)(h1:1<=xs.length)(hp:dj xs):(aj (ao a b xs (r*(aj xs).length+g))).length<(aj xs).length:=by
 have g1:=R.g1
 have e:ao a b xs (r*(aj xs).length+g)=cZ a b (ao a b (ao a b xs (r*(aj xs).length)) (g-1)):=by
  rw[<- eD];obtain⟨k,rfl⟩:∃k,g=k+1:=⟨g-1,by lia⟩
  rfl
 have h2:dj (ao a b (ao a b xs (r*(aj xs).length)) (g-1)):=(hp.at ok.a0 ok.b0 _).at ok.a0 ok.b0 _;have hl:(ao a b (ao a b xs (r*(aj xs).length)) (g-1)).length=xs.length:=by rw[bW,bW]
 have h3:=(Uj ok.a0 ok.b0 (xs:=ao a b (ao a b xs (r*(aj xs).length)) (g-1)) () h2).2 R.join;have h4:=Lm ok.a0 ok.b0 (xs:=xs) h1 hp (r*(aj xs).length+(g-1));rw[eD]at h3;rw[eD]at e;rw[e];lia
theorem zs2{a:Rat}(ok:aR a b)(sz:cJ ns)(hn:ns.length=xs.length+1)(st:du a b ns xs=true):cK a b ns xs=xs\/(a<1/\lu a b ns=true):=by
 have hps:=sz.pos;unfold du at st
 by_cases z1:1<a
 ·rw[if_pos z1]at st
  have e:=of_decide_eq_true st;have hF:a^ns.sum.toNat≠1:=λe=>absurd ((kn ok ()).mp e) (by grind)
  refine .inl ?_;rw[<- pN hn sz.nn,MT hF hn 1];rw[<- e,zzD]
 ·rw[if_neg z1]at st
  by_cases z2:a=1
  ·rw[if_pos z2]at st
   refine .inl ?_;rw[<- pN hn sz.nn]
   exact g6 (cA ..) λi hi=>by
    rw[cA]at hi;have hi':i<(cf a b ns).length:=by rw[kT ()];lia
    have hz:(cf a b ns).getD i 0=0:=by
     rw[Wc]at st;have:=st _ (wR.mpr ⟨_,getD_mem (d:=0) hi',rfl⟩);exact of_decide_eq_true this
    rw[gk hi,hz];unfold fg;rw[z2,GM.one_pow',GM.one_pow']
    grind
  ·rw[if_neg z2]at st
   refine .inr ⟨?_,st⟩
   by_cases h:a<1
   ·exact h
   ·exact absurd (qz (Vi.mp h) (WB z2)) z1
def mf(h:Rat)(xs:List Rat)(r g:Nat):wD:=.tuple [N h,TN xs,.int (r:Int),.int (g:Int)]
def dE(a b:Rat)(xs:List Rat)(i r g:Nat):Nat:=i+(r*(aj (ao a b xs i)).length+g)
def je(a b:Rat)(xs:List Rat)(e:Nat × Nat × Nat):wD:=mf (aO a b xs e.1) (ao a b xs e.1) e.2.1 e.2.2
def kr(a b:Rat)(xs:List Rat)(n:Nat)(w:String):wD:=.tuple [N (aO a b xs n),TN (ao a b xs n),.str (vM w)]
def gv(a b:Rat)(xs:List Rat)(es:List (Nat × Nat × Nat))(n:Nat)(w:String):List wD:=es.map (je a b xs)++[kr a b xs n w]
def eK(es:List (Nat × Nat × Nat))(n j:Nat):Nat:=(es.map (·.1)++[n]).getD j 0
theorem Fi(es:List (Nat × Nat × Nat))(n:Nat):eK es n es.length=n:=by
 unfold eK;rw[wb,vQ ∅];simp
theorem zBi{a:Rat}(ok:h9 a b xs)(h:eZ a b xs=none)(f:cN a b (aW xs) (bC xs) 0=true):du a b (aW xs) (bC xs)=false:=by
 obtain⟨_,sz,hn⟩:=ok.round;unfold cN at f;rw[mI]at f;cases e:du a b (aW xs) (bC xs)with
 | false=>rfl
 | true =>
  unfold eZ at h;rw[if_pos f]at h
  split at h
  ·cases h
  ·split at h
   ·cases h
   ·rename_i y
    rcases zs2 ok.ok sz hn e with z | z
    ·exact absurd z y
    ·rw[if_pos z]at h;cases h
def Uo(K:wa)(a:Ad):Sp:=λvs H Q E=>∃x0 x1,vs=[x0,x1] /\ ∃(ra rb h:Rat)(xs:List Rat),Is K H x0 (N h)/\Is K H x1 (aY ra rb xs)/\h9 ra rb xs/\eZ ra rb xs=none/\(∀r g t,gq ra rb xs r g->t<=g->Cm 3600 (ao ra rb xs (r*(aj xs).length+t))) /\
 ((∀k,k<=30->cN ra rb (aW xs) (bC xs) k=true)->∀H',ar H H'->E (.ref a.fi) none H') /\ ∀r g v H',gq ra rb xs r g->ar H H'->Is K H' v (mf h xs r g)->Q v H'
theorem zsY{h:Rat}{v w:V}(h1:Is K H v (N h))(h2:Is K H w (aY ra rb xs))(ok:h9 ra rb xs)(hw:eZ ra rb xs=none)(c:∀r g t,gq ra rb xs r g->t<=g->Cm 3600 (ao ra rb xs (r*(aj xs).length+t)))(qe:(∀k,k<=30->cN ra rb (aW xs) (bC xs) k=true)->∀H',ar H H'->E (.ref a.fi) none H')(q:∀r g v H',gq ra rb xs r g->ar H H'->Is K H' v (mf h xs r g)->Q v H'):Uo K a [v,w] H Q E:=⟨_,_,rfl,ra,rb,h,xs,h1,h2,ok,hw,c,qe,q⟩
theorem zt3(T:Txt K mg a):aF P w K mg base (ff P w) 12 a.J3 a.Iq yD (Uo K a):=by
 refine T.I0.F.rk uU ?_ ?_;wtm_at "b2"
 refine⟨_,(ai (ay 2 uU.nd (oU (DD T) hr T.sW zS (q1 1)))
     (ai (ay 3 uU.nd (oU (zo4 T) hr T.Hv zS (ae (qi 1) (ae (qi 2) (ae (qi 2) ag)))))
     (ai (ay 4 uU.nd (ak (zlV T) hr T.G5 (ae (eA (ak (RU T) hr T.AW (q2 1 3))) ag)))
     (av (aA (aQ (by exact(@ae _ _ _ _ _ (pv 0) (@ae _ _ _ _ _ (qi 1) (@ae _ _ _ _ _ (pv 3) (@ae _ _ _ _ _ (pv 4) ag cu) cu) g_) cu)))))))),?_⟩
 wtm_at "cl";rw[show start NQ [x0,x1]=[some x0,some x1,none,none,none]from rfl];obtain⟨ra,rb,hr',xs,ih,hw,ok,hno,hc,qe,q⟩:=h;obtain⟨rok,sz,hn⟩:=ok.round;have h8:=ok.h8;have bx:∀i,af 4000 (xs.getD i 0):=λi=>(ok.cm.get i).mono ⋯
 o_head B1 hw h8 bx (λz=>absurd ok.h0 z) (λ_ vl H1 S1 il=>?_);have hw1:=hw.by S1;o_head aD (j:=0) hw1 rfl (λvr ir=>?_);o_head aD (j:=0) il rfl (λvz iz=>?_);o_head aD (j:=1) il rfl (λvp ip=>?_);o_head zn9 ir iz ip ok.ok sz hn (mG ok.cm) ⋯ (λz H2 S2=>?_) (λz y H2 S2=>?_) (λc c1 c2 y z w H2 S2=>?_) (λy z H2 S2=>?_)
 . have RR:(0:Nat)<=30:=by decide
   have FF:iK ra rb xs 0:=λk hk=>by lia
   have EE:=z;k_few;obtain⟨g,R⟩:=Ol ok.ok ok.h1 ok.hp ok.h0 RR FF EE;have g1:=R.g1;have gN:=R.gN;have hvl:=iB xs;refine C6 (r:=0) (hw1.by S2) ok RR FF (λv3 H3 S3 i3=>?_);o_head aD (j:=1) i3 rfl (λv4 i4=>?_);k_few;have hj:=R.join;refine Oj (g:=g-1) i4 ok.ok (by rw[bW];exact ok.h1) (by rw[bW];exact h8) () (λt ht=>by rw[eD];exact(hc _ g t R ()).mono ⋯) (λt ht=>R.one t ()) () (λH5 S5=>?_);rw[show g-1+1=g by lia];have S15:=S2.trans (S3.trans S5);o_head aD (j:=1) (hw1.by S15) rfl (λv6 i6=>?_);o_head c6 (ds:=[N hr',TN xs,.int ((0:Nat):Int),.int (g:Int)]) ∅ (.cons (ih.by (S1.trans S15)) (.cons i6 (.cons (cc.mpr rfl) (.cons (cc.mpr rfl) .nil)))) (λv7 H7 S7 i7=>?_);exact q 0 g v7 H7 R (S1.trans (S15.trans S7)) i7
 . rw[zBi ok hno z]at y
   cases y
 . have RR:=c2
   have FF:iK ra rb xs c:=z;have EE:=w;k_few;obtain⟨g,R⟩:=Ol ok.ok ok.h1 ok.hp ok.h0 RR FF EE;have g1:=R.g1;have gN:=R.gN;have hvl:=iB xs;refine C6 (r:=c) (hw1.by S2) ok RR FF (λv3 H3 S3 i3=>?_);o_head aD (j:=1) i3 rfl (λv4 i4=>?_);k_few;have hj:=R.join;refine Oj (g:=g-1) i4 ok.ok (by rw[bW];exact ok.h1) (by rw[bW];exact h8) () (λt ht=>by rw[eD];exact(hc _ g t R ()).mono ⋯) (λt ht=>R.one t ()) () (λH5 S5=>?_);rw[show g-1+1=g by lia];have S15:=S2.trans (S3.trans S5);o_head aD (j:=1) (hw1.by S15) rfl (λv6 i6=>?_);o_head c6 (ds:=[N hr',TN xs,.int (c:Int),.int (g:Int)]) ∅ (.cons (ih.by (S1.trans S15)) (.cons i6 (.cons (cc.mpr rfl) (.cons (cc.mpr rfl) .nil)))) (λv7 H7 S7 i7=>?_);exact q c g v7 H7 R (S1.trans (S15.trans S7)) i7
 . exact qe z H2 (S1.trans S2)
def lI(a b:Rat)(xs:List Rat)(i r g:Nat):Prop:=(i=0/\r=0/\g=1)\/(1<=i/\eZ a b (ao a b xs i)=none/\gq a b (ao a b xs i) r g)
def fN(a b:Rat)(xs:List Rat):Nat->List (Nat × Nat × Nat)->Nat->Prop
 | i,[],n=>i=n
 | i,e::es,n=>e.1=i/\lI a b xs i e.2.1 e.2.2/\fN a b xs (dE a b xs i e.2.1 e.2.2) es n
theorem fN.snoc{a b:Rat}{xs:List Rat} : ∀{es:List (Nat × Nat × Nat)}{i n r g:Nat},fN a b xs i es n->lI a b xs n r g->fN a b xs i (es++[(n,r,g)]) (dE a b xs n r g)
 | [],i,n,r,g,h,k=>by
  have e:i=n:=h;subst e;exact⟨rfl,k,rfl⟩
 | e::es,i,n,r,g,h,k=>⟨h.1,h.2.1,fN.snoc h.2.2 k⟩
theorem Gz(h:Rat)(xs:List Rat)(r g:Nat):di (mf h xs r g)=true:=by rw[mf,di,cw,cw,cw,cw,cw,lG,lC];rfl
theorem zw9(a b:Rat)(xs:List Rat)(n:Nat)(w:String):di (kr a b xs n w)=true:=by rw[kr,di,cw,cw,cw,cw,lG,lC];rfl
structure cb(a b:Rat)(xs:List Rat):Prop where
 ok:aR a b
 h1:1<=xs.length
 h6:xs.length<=6
 hp:dj xs
 sz:∃m,e_ b.den m xs/\m+648*xs.length<=3935
theorem cb.of{a:Rat}(ok:aR a b)(h1:1<=xs.length)(h6:xs.length<=6)(ph:∀x∈xs,fh x):cb a b xs/\e_ b.den 47 xs:=by
 have b6:∀j,af 6 (xs.getD j 0):=λj=>by
  rcases wG j xs.length with z | z
  ·exact(ph _ (getD_mem z)).dM
  ·rw[wb,wI z];exact af.zero.mono ⋯
 have c0:Cm 43 xs:=(Cm.YS b6).mono ();have c1:e_ b.den 47 xs:=e_.of c0 (den_pos b) ⟨by have:=ok.bd;have:(2:Nat)^4=16:=⋯;lia⟩;exact⟨⟨ok,h1,h6,⟨λx hx=>(ph x hx).nn,λx hx=>(ph x hx).lt⟩,47,c1,by lia⟩,c1⟩
def ig(a b:Rat)(xs:List Rat)(i:Nat):Prop:=cn a b xs i+216*(aj (ao a b xs i)).length<=6+216*xs.length/\i+186*(aj (ao a b xs i)).length<=1+186*6
structure eO(a b:Rat)(xs:List Rat)(es:List (Nat × Nat × Nat))(n:Nat)(w:String):Prop where
 walk:fN a b xs 0 es n
 e1:1<=es.length
 bZ:es.length<=9
 n1:1<=n
 word:eZ a b (ao a b xs n)=some w
 sp:ig a b xs n
theorem cb.iO{a:Rat}(h:cb a b xs)(hg:cn a b xs (i+k)+216<=20+216*xs.length)(hk:k<=1024):Cm 3500 (aO a b (ao a b xs i) k::ao a b (ao a b xs i) k):=by
 obtain⟨m,c,hm⟩:=h.sz;exact(To h.ok c h.h1 h.hp (i:=i) (k:=k) (l:=10) (by rw[show(2:Nat)^10=1024 by decide];exact hk)).mono ()
theorem cb.cm{a:Rat}(h:cb a b xs)(hg:cn a b xs i+216<=20+216*xs.length)(hi:i<=1024):Cm 3500 (aO a b xs i::ao a b xs i):=h.iO (i:=0) (k:=i) (by rw[Vl];exact hg) hi
theorem cb.KQ{a:Rat}(h:cb a b xs)(h1:1<=i)(c:Cm 3500 (aO a b xs i::ao a b xs i)):h9 a b (ao a b xs i) :=
 ⟨h.ok,by rw[bW];exact h.h1,by rw[bW];have:=h.h6;lia,h.hp.at h.ok.a0 h.ok.b0 i,h.hp.zero h.ok.a0 h.ok.b0 h.h1 h1,(jk c λy hy=>wA _ hy).mono ⋯⟩
theorem cb.nf{a:Rat}(h:cb a b xs)(i:Nat):1<=(aj (ao a b xs i)).length/\(aj (ao a b xs i)).length<=6:=by
 have:=iB (ao a b xs i);rw[bW]at this;have h6:=h.h6;exact⟨AS (by rw[bW];exact h.h1),by lia⟩
theorem cb.nl{a:Rat}(i:Nat):(aj (ao a b xs i)).length<=xs.length:=by
 have:=iB (ao a b xs i);rw[bW]at this;exact this
theorem cb.one{a:Rat}(h:cb a b xs):ig a b xs 1:=by
 have h6:=h.h6;have h1:=h.h1;have:=sC h.ok.a0 h.ok.b0 h.h1 h.hp 1;have:=(h.nf 1).2;have:=cb.nl (a:=a) (b:=b) (xs:=xs) 1;exact⟨by lia,by lia⟩
theorem cb.within{a:Rat}(h:cb a b xs){g t:Nat}(i1:1<=i)(sp:ig a b xs i)(n2:2<=(aj (ao a b xs i)).length)(R:gq a b (ao a b xs i) r g)(ht:t<=g):cn a b xs (i+(r*(aj (ao a b xs i)).length+t))+216<=20+216*xs.length/\i+(r*(aj (ao a b xs i)).length+t)<=1024/\cn a b xs (i+(r*(aj (ao a b xs i)).length+t))<=cn a b xs i+216/\r*(aj (ao a b xs i)).length+t<=186:=by
 have h6:=h.h6;have nf:=(h.nf i).2;have hl:=bW a b xs i;have g1:=R.cn h.ok (by rw[hl];exact h.h1) (h.hp.at h.ok.a0 h.ok.b0 i) (h.hp.zero h.ok.a0 h.ok.b0 h.h1 i1) ht;rw[hl]at g1
 have g2:30*xs.length+xs.length*xs.length<=216:=by
  have:xs.length*xs.length<=6*6:=WM h6 h6;lia
 have g3:r*(aj (ao a b xs i)).length<=30*6:=WM R.jf nf;have g4:=R.gN;obtain⟨s1,s2⟩:=sp;rw[nN];exact⟨by lia,by lia,by lia,by lia⟩
theorem cb.next{a:Rat}(h:cb a b xs){g:Nat}(i1:1<=i)(sp:ig a b xs i)(n2:2<=(aj (ao a b xs i)).length)(R:gq a b (ao a b xs i) r g):ig a b xs (dE a b xs i r g):=by
 obtain⟨_,_,w1,w2⟩:=h.within i1 sp n2 R (wp g);have f:=R.Kx h.ok (by rw[bW];exact h.h1) (h.hp.at h.ok.a0 h.ok.b0 i);rw[eD]at f;obtain⟨s1,s2⟩:=sp;unfold ig dE;exact⟨by lia,by lia⟩
theorem EO{a:Rat}(h:eZ a b xs=none)(h1:1<=(aj xs).length):2<=(aj xs).length:=by
 unfold eZ at h
 split at h
 ·cases h
 ·lia
theorem fN.first{a:Rat}(h:fN a b xs i es n):eK es n 0=i:=by
 cases es with
 | nil=>exact(show i=n from h).symm
 | cons e es=>exact h.1
theorem fN.at{a b:Rat}{xs:List Rat} : ∀{es:List (Nat × Nat × Nat)}{i n:Nat},fN a b xs i es n->∀j (hj:j<es.length),es[j].1=eK es n j/\lI a b xs es[j].1 es[j].2.1 es[j].2.2/\dE a b xs es[j].1 es[j].2.1 es[j].2.2=eK es n (j+1)
 | [],_,_,_,j,hj=>absurd hj ∅
 | e::es,i,n,h,j,hj=>by
  cases j with
  | zero =>
   have h1:=h.2.2.first;have e1:=h.1;refine⟨rfl,?_,?_⟩
   ·show lI a b xs e.1 e.2.1 e.2.2
    rw[e1];exact h.2.1
   ·show dE a b xs e.1 e.2.1 e.2.2=eK es n 0
    rw[h1,e1]
  | succ j=>exact fN.at h.2.2 j (by simpa using hj)
def iM(a b:Rat)(xs:List Rat):Prop:=∃es i,fN a b xs 0 es i/\1<=i/\eZ a b (ao a b xs i)=none /\ ∀k,k<=30->cN a b (aW (ao a b xs i)) (bC (ao a b xs i)) k=true
def tO(K:wa)(a:Ad):Sp:=λvs H Q E=>∃x0,vs=[x0] /\ ∃(ra rb:Rat)(xs:List Rat),Is K H x0 (aY ra rb xs)/\cb ra rb xs /\
 (iM ra rb xs->∀H',ar H H'->E (.ref a.fi) none H') /\ ∀l H' es n w us,eO ra rb xs es n w->H l=none->ar H H'->H' l=some (.lst us)->ah K H' us (gv ra rb xs es n w)->Q (.ref l) H'
theorem SE{v:V}(h:Is K H v (aY ra rb xs))(ok:cb ra rb xs)(qe:iM ra rb xs->∀H',ar H H'->E (.ref a.fi) none H')(q:∀l H' es n w us,eO ra rb xs es n w->H l=none->ar H H'->H' l=some (.lst us)->ah K H' us (gv ra rb xs es n w)->Q (.ref l) H'):tO K a [v] H Q E:=⟨_,rfl,ra,rb,xs,h,ok,qe,q⟩
theorem zsz{v:V}(h:Is K H v (aY ra rb xs))(ok:cb ra rb xs)(qe:iM ra rb xs->∀H',ar H H'->E (.ref a.fi) none H')(q:∀l H' es n w,eO ra rb xs es n w->H l=none->ar H H'->Is K H' (.ref l) (.list (gv ra rb xs es n w))->Q (.ref l) H'):tO K a [v] H Q E:=SE h ok qe (λl H' es n w us P nl S e t=>q l H' es n w P nl S (ck.mpr ⟨l,us,rfl,.of e,t⟩))
theorem Nx(T:Txt K mg a):aF P w K mg base (ff P w) 13 a.JG a.Ia zK (tO K a):=by
 refine T.oY.F.rk mV ?_ ?_;wtm_at "b1"
 refine⟨_,(ai (ay 1 mV.nd (dy (ae (aQ (by exact(@ae _ _ _ _ _ (cj (v:=.ref a.dD) rfl T.d8 rfl) (@ae _ _ _ _ _ (qi 0) (@ae _ _ _ _ _ au (@ae _ _ _ _ _ au ag B_) B_) g_) cu))) ag)))
     (ai (ay 2 mV.nd eT)
     (ai (lD Xs (cY rP (pv 2) eT (cQ _)) (ai (ay 3 mV.nd (de cD (pv 1) (fo fA au) (λ_ _=>rfl)))
     (ai (ay 4 mV.nd (ak (zpx T) hr T.HR (ae (aQ (ae (qi 0) (ae (qi 3) ag))) (ae (qi 3) (ae (qi 3) ag)))))
     (ai (ay 5 mV.nd (ak (gO T) hr T.gh (ae (qi 3) (ae (qi 4) ag))))
     (ai (ay 2 mV.nd (ak (zvi T) hr T.JB (ae (qi 4) ag)))
     (av (jq (iN vH vN vO iJ (pv 1) (ae (q_ (cY rP (pv 2) eT (cQ _)) (oU (zt3 T) hr T.I0 zS (ae (pv 5) (ae (qi 4) ag))) (aQ (ae (pv 5) (ae (eA (qi 4)) (q1 2))))) ag)))))))))
     (av (aA (pv 1)))))),?_⟩
 wtm_at "cl";rw[show start MD [x0]=[some x0,none,none,none,none,none]from rfl];obtain⟨ra,rb,xs,hw,ok,qe,q⟩:=h;o_head aD (j:=1) hw rfl (λv1 i1=>?_);o_head c6 (ds:=[N 0,TN xs,.int 0,.int 1]) ∅ (.cons (eF 0 (T.fb _) rfl rfl) (.cons i1 (.cons (cc.mpr rfl) (.cons (cc.mpr rfl) .nil)))) (λv2 H2 S2 i2=>?_);o_head dC ∅ (λlr H3 n3 S3 e3=>?_);have hlr:H lr=none:=fm S2 n3;k_few
 refine oC (λm σ' H'=>∃(us:List V)(es:List (Nat × Nat × Nat))(vw:V)(o3 o4 o5:Option V),σ'=[some x0,some (.ref lr),some vw,o3,o4,o5]/\ar H H'/\H' lr=some (.lst us) /\
   ((vw=.bM /\ ∃i r g,fN ra rb xs 0 es i/\lI ra rb xs i r g/\ah K H' us ((es++[(i,r,g)]).map (je ra rb xs))/\(1<=i->ig ra rb xs i)/\es.length+(aj (ao ra rb xs (dE ra rb xs i r g))).length<=6/\m=(aj (ao ra rb xs (dE ra rb xs i r g))).length) \/
     ∃n w,vw=.str (vM w)/\eO ra rb xs es n w/\ah K H' us (gv ra rb xs es n w)/\m=0)) _ ⟨[v2],[],.bM,_,_,_,rfl,S2.trans S3,e3,.inl ⟨rfl,0,0,1,rfl,.inl ⟨rfl,rfl,rfl⟩,.cons (i2.by S3) .nil,λh=>by lia,by have:=(ok.nf (dE ra rb xs 0 0 1)).2;simpa using this,rfl⟩⟩ ?_
 rintro m σ' H4 ⟨us,es,vw,o3,o4,o5,rfl,S4,e4,C⟩;rcases C with⟨rfl,i,r,g,wk,ro,t4,sp,bZ,rfl⟩ | ⟨n,w',rfl,P,t4,rfl⟩
 . have hN:=(ok.nf i).2
   have h6:=ok.h6;have h1L:=ok.h1
   have facts:g<=40/\(1<=r->h9 ra rb (ao ra rb xs i)/\r<=30/\iK ra rb (ao ra rb xs i) r)/\cn ra rb xs (dE ra rb xs i r g)+216<=20+216*xs.length/\dE ra rb xs i r g<=1024/\cn ra rb xs i+216<=20+216*xs.length/\i<=1024/\(∀t,t<=g->cn ra rb xs (i+(r*(aj (ao ra rb xs i)).length+t))+216<=20+216*xs.length)/\ig ra rb xs (dE ra rb xs i r g)/\r<=30:=by
     rcases ro with⟨rfl,rfl,rfl⟩ | ⟨i1,hno,R⟩
     . have e:dE ra rb xs 0 0 1=1:=by unfold dE;lia
       have h2:=sC ok.ok.a0 ok.ok.b0 ok.h1 ok.hp;refine⟨by lia,λz=>by lia,by rw[e];have:=h2 1;lia,by lia,by have:=h2 0;lia,by lia,λt ht=>?_,by rw[e];exact ok.one,by lia⟩;have h3:=h2 (0+(0*(aj (ao ra rb xs 0)).length+t));have h4:(0+(0*(aj (ao ra rb xs 0)).length+t))*xs.length<=1*6:=WM () h6;lia
     . have n2:=EO hno (ok.nf i).1
       have sp:=sp i1;have w:=λ{t:Nat}(ht:t<=g)=>ok.within i1 sp n2 R ht
       have w0:=w (wp g);have g4:=R.gN;have si:=sp.1;have si2:=sp.2;have c:Cm 3500 (aO ra rb xs i::ao ra rb xs i):=ok.cm () ();exact⟨by lia,λ_=>⟨ok.KQ i1 c,R.jf,R.free⟩,w0.1,w0.2.1,by lia,by lia,λt ht=>(w ht).1,ok.next i1 sp n2 R,R.jf⟩
   obtain⟨zr,fr,gl,nl,gi,ni,gw,sl,jf⟩:=facts;have cI:=ok.cm gi ni;have cL:=ok.cm gl nl
   have n1:1<=dE ra rb xs i r g:=by
     unfold dE;rcases ro with⟨rfl,rfl,rfl⟩ | ⟨i1,hno,R⟩
     . lia
     . lia
   have swL:=ok.KQ n1 cL;have hrN:r*(aj (ao ra rb xs i)).length<=30*6:=WM jf hN;have hul:=t4.length;rw[wl,wN,vV]at hul;have hnf:=(ok.nf (dE ra rb xs i r g)).1;o_head nW ?_;k_few
   have il:Is K H4 (.ref lr) (.list (es.map (je ra rb xs)++[je ra rb xs (i,r,g)])):=by
     rw[wX]at t4;exact ck.mpr ⟨lr,us,rfl,.of e4,t4⟩
   refine lV il (λv5 i5=>?_);have i5:Is K H4 v5 (mf (aO ra rb xs i) (ao ra rb xs i) r g):=i5;have hw4:=hw.by S4;o_head aD (j:=0) hw4 rfl (λv6 i6=>?_);o_head aD (j:=1) i5 rfl (λv7 i7=>?_);o_head c6 (ds:=[R ra rb,TN (ao ra rb xs i)]) ∅ (.cons i6 (.cons i7 .nil)) (λv8 H8 S8 i8=>?_);have i58:=i5.by S8;o_head aD (j:=2) i58 rfl (λv9 i9=>?_);rw[cc.mp i9];o_head aD (j:=3) i58 rfl (λv10 i10=>?_);rw[cc.mp i10];k_few;have bH:af 8000 (aO ra rb (ao ra rb xs i) (r*(aj (ao ra rb xs i)).length)):=((ok.iO (i:=i) (k:=r*(aj (ao ra rb xs i)).length) (by have:=gw 0 ();rw[Qa]at this;exact this) ()).dM (wE ..)).mono ⋯
   have cG:∀t,t<=g->Cm 3700 (aO ra rb (ao ra rb (ao ra rb xs i) (r*(aj (ao ra rb xs i)).length)) t::ao ra rb (ao ra rb (ao ra rb xs i) (r*(aj (ao ra rb xs i)).length)) t):=λt ht=>by
     rw[eD ra rb xs];exact(ok.iO (i:=i+r*(aj (ao ra rb xs i)).length) (k:=t) (by have:=gw t ht;rw[<- Vr]at this;exact this) ()).mono ⋯
   refine Z1 (show Is K H8 v8 (aY ra rb (ao ra rb xs i))from i8) ok.ok (by rw[bW];exact ok.h1) (by rw[bW];lia) fr zr bH cG (λv11 H11 S11 i11=>?_);have i11:Is K H11 v11 (.tuple [N (aO ra rb (ao ra rb xs i) (r*(aj (ao ra rb xs i)).length+g)),aY ra rb (ao ra rb (ao ra rb xs i) (r*(aj (ao ra rb xs i)).length+g))]):=i11;rw[eD]at i11;have i11:Is K H11 v11 (.tuple [N (aO ra rb (ao ra rb xs i) (r*(aj (ao ra rb xs i)).length+g)),aY ra rb (ao ra rb xs (dE ra rb xs i r g))]):=i11;have i511:=i58.by S11;have bI:af 3500 (aO ra rb xs i):=cI.dM (wE ..);have bJ:af 3500 (aO ra rb (ao ra rb xs i) (r*(aj (ao ra rb xs i)).length+g)):=(ok.iO (i:=i) (k:=r*(aj (ao ra rb xs i)).length+g) gl ()).dM (wE ..);o_head aD (j:=0) i511 rfl (λv12 i12=>?_);o_head aD (j:=0) i11 rfl (λv13 i13=>?_);k_few;rename_i v14 H14 S14 i14;rw[km]at i14;have i14:Is K H14 v14 (N (aO ra rb xs (dE ra rb xs i r g))):=i14;have i1114:=i11.by S14;refine aD (j:=1) i1114 rfl (λv15 i15=>?_);have i15:Is K H14 v15 (aY ra rb (ao ra rb xs (dE ra rb xs i r g))):=i15;o_head zue i15 swL (λH16 S16=>?_);have S816:=S8.trans (S11.trans (S14.trans S16));have e16:=S816 _ _ e4;have t16:ah K H16 us ((es++[(i,r,g)]).map (je ra rb xs)):=ah.same S816 _ _ t4;have S416:=S4.trans S816;have i1116:=i1114.by S16;have i1416:=i14.by S16;have i1516:=i15.by S16;have wk':=wk.snoc ro;generalize hlead:dE ra rb xs i r g=n at *;cases hwd:eZ ra rb (ao ra rb xs n)with
   | none =>
     show gY 2 V.bM _ _ _
     o_head h_ (aE.of e16) ?_;o_head aD (j:=1) i1116 rfl (λv17 i17=>?_);k_few;have n2:=EO hwd hnf;refine zsY i1416 (show Is K H16 v17 (aY ra rb (ao ra rb xs n))from i17) swL hwd (λr' g' t R ht=>?_) (λz H' S=>qe ⟨_,n,wk',n1,hwd,z⟩ H' (S416.trans S)) (λr' g' v18 H18 R S18 i18=>?_)
     . have w:=ok.within n1 sl n2 R ht
       rw[eD];exact(jk (ok.cm w.1 w.2.1) λy hy=>wA _ hy).mono ⋯
     . k_few
       have e18:=S18 _ _ e16;refine iD e18 () (λH19 E19 e19=>?_);have K19:=E19.keep e18;have fw:=R.Kx ok.ok (by rw[bW];exact ok.h1) (ok.hp.at ok.ok.a0 ok.ok.b0 n);rw[eD]at fw;have fw:(aj (ao ra rb xs (dE ra rb xs n r' g'))).length<(aj (ao ra rb xs n)).length:=fw;o_head ⟨_,fw,us++[v18],es++[(i,r,g)],.bM,_,_,_,rfl,(S416.trans S18).grow hlr E19,e19,.inl ⟨rfl,n,r',g',wk',.inr ⟨n1,hwd,R⟩,?_,λ_=>sl,?_,rfl⟩⟩
       . rw[wX]
         exact(ah.keep K19 _ _ (pG _ (λe=>Gz _ _ _ _) _) (ah.same S18 _ _ t16)).append (.cons (i18.ik K19 (Gz _ _ _ _)) .nil)
       . rw[wN,vV]
         lia
   | some wd =>
     show gY 2 (V.str (vM wd)) _ _ _
     o_head h_ (aE.of e16) ?_;k_few
     . rename_i z;cases z
     . refine aD (j:=1) i1116 rfl (λv17 i17=>?_)
       o_head aD (j:=1) i17 rfl (λv18 i18=>?_);o_head c6 (ds:=[N (aO ra rb xs n),TN (ao ra rb xs n),.str (vM wd)]) ∅ (.cons i1416 (.cons i18 (.cons (iF.mpr rfl) .nil))) (λv19 H19 S19 i19=>?_);k_few;have e19:=S19 _ _ e16;refine iD e19 () (λH20 E20 e20=>?_);have K20:=E20.keep e19;o_head ⟨0,by lia,us++[v19],es++[(i,r,g)],_,_,_,_,rfl,(S416.trans S19).grow hlr E20,e20,.inr ⟨n,wd,rfl,⟨wk',by simp,by rw[wN,vV];lia,n1,hwd,sl⟩,?_,rfl⟩⟩;exact(ah.keep K20 _ _ (pG _ (λe=>Gz _ _ _ _) _) (ah.same S19 _ _ t16)).append (.cons (i19.ik K20 (zw9 _ _ _ _ _)) .nil)
 . k_few
   . rename_i z;cases z
   . exact q lr H4 es n w' us P hlr S4 e4 t4
theorem ZW{a:Rat}{g r' g':Nat}(R:gq a b xs r g)(S:gq a b xs r' g'):r=r'/\g=g':=by
 have er:r=r':=by
  rcases Vx r r' with z | z | z
  ·have:=S.free r z;rw[R.ends]at this;cases this
  ·exact z
  ·have:=R.free r' z;rw[S.ends]at this;cases this
 subst er;refine⟨rfl,?_⟩;have g1:=R.g1;have g2:=S.g1;have j1:=R.join;have j2:=S.join;rcases Vx g g' with z | z | z
 ·have:=S.one (g-1) ();lia
 ·exact z
 ·have:=R.one (g'-1) ();lia
theorem zuM{a:Rat}{g r' g':Nat}(R:lI a b xs i r g)(S:lI a b xs i r' g'):r=r'/\g=g':=by
 rcases R with⟨e,rfl,rfl⟩ | ⟨i1,_,R⟩<;>rcases S with⟨e',rfl,rfl⟩ | ⟨i1',_,S⟩
 ·exact⟨rfl,rfl⟩
 ·lia
 ·lia
 ·exact ZW R S
theorem Yq{a b:Rat}{xs:List Rat} : ∀{es es':List (Nat × Nat × Nat)}{i n n':Nat},fN a b xs i es n->fN a b xs i es' n'->1<=n->eZ a b (ao a b xs n)≠none->1<=n'->eZ a b (ao a b xs n')=none->(∀k,k<=30->cN a b (aW (ao a b xs n')) (bC (ao a b xs n')) k=true)->False
 | [],[],i,n,n',h,k,n1,w,_,w',_=>by
  have e:i=n:=h;have e':i=n':=k;subst e;subst e';exact w w'
 | [],f::fs,i,n,n',h,k,n1,w,_,_,_=>by
  have e:i=n:=h;subst e;rcases k.2.1 with⟨z,_,_⟩ | ⟨_,z,_⟩
  ·lia
  ·exact w z
 | e::es,[],i,n,n',h,k,_,_,n1',_,all=>by
  have e':i=n':=k;subst e';rcases h.2.1 with⟨z,_,_⟩ | ⟨_,_,R⟩
  ·lia
  ·have:=R.ends
   rw[all _ R.jf]at this;cases this
 | e::es,f::fs,i,n,n',h,k,n1,w,n1',w',all=>by
  obtain⟨e1,e2⟩:=zuM h.2.1 k.2.1;have k2:=k.2.2;rw[<- e1,<- e2]at k2;exact Yq h.2.2 k2 n1 w n1' w' all
theorem zxl{a:Rat}{w:String}(P:eO a b xs es n w)(F:iM a b xs):False:=by
 obtain⟨es',i,h,i1,hw,all⟩:=F;exact Yq P.walk h P.n1 (by rw[P.word];simp) i1 hw all
def zP(w:String)(n:Nat):wD:=.tuple [.str (vM w),.int (n:Int)]
def CK(K:wa)(a:Ad):Sp:=λvs H Q E=>∃x0,vs=[x0] /\ ∃(ra rb:Rat)(xs:List Rat),Is K H x0 (aY ra rb xs)/\cb ra rb xs /\
 (iM ra rb xs->∀H',ar H H'->E (.ref a.fi) none H') /\ ∀es n w v H',eO ra rb xs es n w->ar H H'->Is K H' v (zP w (aj (ao ra rb xs n)).length)->Q v H'
theorem zBf{v:V}(h:Is K H v (aY ra rb xs))(ok:cb ra rb xs)(qe:iM ra rb xs->∀H',ar H H'->E (.ref a.fi) none H')(q:∀es n w v H',eO ra rb xs es n w->ar H H'->Is K H' v (zP w (aj (ao ra rb xs n)).length)->Q v H'):CK K a [v] H Q E:=⟨_,rfl,ra,rb,xs,h,ok,qe,q⟩
theorem eO.cm{a:Rat}{w:String}(P:eO a b xs es n w)(ok:cb a b xs):Cm 3500 (aO a b xs n::ao a b xs n):=by
 have hnf:=ok.nf n;have s1:=P.sp.1;have s2:=P.sp.2;exact ok.cm () ()
theorem zAN(T:Txt K mg a):aF P w K mg base (ff P w) 14 a.KL a.Kl uT (CK K a):=by
 refine T.sV.F.rk Nr ?_ ?_;wtm_at "b1"
 refine⟨_,(ai (ay 1 Nr.nd (de cD (oU (Nx T) hr T.oY zS (q1 0)) (fo fA au) (λ_ _=>rfl)))
     (av (aA (aQ (ae (qi 1) (ae (c8 K T.h0t (ae (ak (FY T) hr T.sP (ae (aQ (ae (qi 0) (ae (qi 1) ag))) ag)) ag)) ag)))))),?_⟩
 wtm_at "cl";rw[show start PD [x0]=[some x0,none]from rfl];obtain⟨ra,rb,xs,hw,ok,qe,q⟩:=h;have h6:=ok.h6;o_head zsz hw ok qe (λl H1 es n wd P hl S1 i1=>?_);have c:=P.cm ok;have bx:∀i,af 4000 ((ao ra rb xs n).getD i 0):=λi=>((jk c λy hy=>wA _ hy).get i).mono ⋯
 have hw1:=hw.by S1;o_head lV i1 (λv2 i2=>?_);have i2:Is K H1 v2 (.tuple [N (aO ra rb xs n),TN (ao ra rb xs n),.str (vM wd)]):=i2;o_head aD (j:=2) i2 rfl (λv3 i3=>?_);rw[iF.mp i3];o_head aD (j:=0) hw1 rfl (λv4 i4=>?_);o_head aD (j:=1) i2 rfl (λv5 i5=>?_);o_head c6 (ds:=[R ra rb,TN (ao ra rb xs n)]) ∅ (.cons i4 (.cons i5 .nil)) (λv6 H6 S6 i6=>?_);o_head CF (show Is K H6 v6 (aY ra rb (ao ra rb xs n))from i6) (by rw[bW];lia) bx (λlf H7 us7 n7 S7 e7 t7=>?_);have hul:=t7.length;rw[wl]at hul;o_head gG (.of e7) ?_;rw[hul];o_head c6 (ds:=[.str (vM wd),.int ((aj (ao ra rb xs n)).length:Int)]) ∅ (.cons (iF.mpr rfl) (.cons (cc.mpr rfl) .nil)) (λv8 H8 S8 i8=>?_);exact q es n wd v8 H8 P (S1.trans (S6.trans (S7.trans S8))) i8
def W_(K:wa):Sp:=λvs H Q _=>∃x0 x1,vs=[x0,x1] /\ ∃(a:we)(ns:List Int)(k:Int),x0=.ref a/\x1=.int k/\iW K H a (ns.map V.int)/\ns.length<=63/\0<=k/\k<=1000 /\ ∀c:Int,Q (.int c) H
theorem ztw{a:we}{k:Int}(h:iW K H a (ns.map V.int))(hl:ns.length<=63)(h0:0<=k)(h1:k<=1000)(q:∀c:Int,Q (.int c) H):W_ K [.ref a,.int k] H Q E:=⟨_,_,rfl,a,ns,k,rfl,rfl,h,hl,h0,h1,q⟩
theorem zsx(T:Txt K mg a):aF P w K mg base aN 1 a.JK a.HZ uV (W_ K):=by
 refine T.IH.F.ok ztY ?_ ?_;wtm_at "b2"
 refine⟨_,(ai (aV (cY jT (pv 1) (c8 K T.h0t (q1 0)) (cQ _)) (av (aA (c7 m5 rfl T.h0s mY (ae (de cD (pv 0) (pv 1) (λ_ _=>rfl)) ag)))) aX)
     (ai (aV (d5 K hu (c8 K T.h0t (q1 0)) au) (av (aA (aB cB (aB cE au (pv 1)) au))) aX)
     (av (aA (aB cB (aB gZ (c7 m5 rfl T.h0s mY (ae (de cD (pv 0) (aB gZ (pv 1) (c8 K T.h0t (q1 0))) (λ_ _=>rfl)) ag)) (Sf (v:=100000000000000000) ⟨by decide,by decide,by decide⟩ (by decide +kernel))) (aB cE au (pv 1))))))),?_⟩
 wtm_at "cl";rw[show start FH [x0,x1]=[some x0,some x1]from rfl];obtain⟨a',ns,k,rfl,rfl,hs,hl,h0,h1,q⟩:=h;o_head gG hs.sq ?_;k_few
 . refine OZ hs h0 (by assumption) (λz=>?_)
   k_few;exact q _
 . refine gG hs.sq ?_
   k_few
   . exact q _
   . refine gG hs.sq ?_
     o_head OZ hs (Qc _ ()) (qC _ ()) (λz=>?_);k_few;exact q _
def cV(H:Hp)(p:we)(k:Int):Prop:=∃(a:Int)(b:Bool)(n:Int),H p=some (.lst [.int a,.bl b,.int n])/\0<=n/\n<=k
theorem cV.same{H':Hp}{k:Int}(s:ar H H')(h:cV H p k):cV H' p k:=by
 obtain⟨x,y,n,e,h1,h2⟩:=h;exact⟨x,y,n,s _ _ e,h1,h2⟩
theorem cV.le{j k:Int}(h:cV H p j)(e:j<=k):cV H p k:=by
 obtain⟨x,y,n,z,h1,h2⟩:=h;exact⟨x,y,n,z,h1,Int.le_trans h2 e⟩
theorem cV.ne{k:Int}(e:H q=none)(h:cV H p k):q≠p:=by
 obtain⟨x,y,n,z,_⟩:=h;exact(kC z e).symm
def MQ(K:wa):Sp:=λvs H Q _=>∃x0 x1,vs=[x0,x1] /\ ∃(a:we)(ns:List Int)(k:Int),x0=.ref a/\x1=.int k/\iW K H a (ns.map V.int)/\ns.length<=63/\0<=k/\k<=1000 /\
 ∀p H',H p=none->ar H H'->cV H' p 0->Q (.ref p) H'
theorem AI{a:we}{k:Int}(h:iW K H a (ns.map V.int))(hl:ns.length<=63)(h0:0<=k)(h1:k<=1000)
  (q:∀p H',H p=none->ar H H'->cV H' p 0->Q (.ref p) H'):MQ K [.ref a,.int k] H Q E:=⟨_,_,rfl,a,ns,k,rfl,rfl,h,hl,h0,h1,q⟩
local macro_rules | `(tactic| wtm_at "pen")=>`(tactic| first
 | assumption
 | (apply cV.same;(focus assumption);wtm_at "pen"))
local macro_rules | `(tactic| wtm_at "ne")=>`(tactic| ((with_reducible apply cV.ne); (focus assumption); wtm_at "pen"))
local macro_rules | `(tactic| wtm_at "penle")=>`(tactic| exact cV.le (by wtm_at "pen") ())
theorem Aa(T:Txt K mg a):aF P w K mg base aN 2 a.J_ a.IG zH (MQ K):=by
 refine T.oZ.F.ok SI ?_ ?_;wtm_at "b2"
 refine⟨_,(ai (ay 2 SI.nd (ak (zsx T) hr T.IH (q2 0 1)))
     (av (aA (dy (ae (pv 2) (ae (gP zg (pv 2) (Sf (v:=1000000000000000000) ⟨by decide,by decide,by decide⟩ (by decide +kernel)) (cQ _)) (ae au ag))))))),?_⟩
 wtm_at "cl";rw[show start O3 [x0,x1]=[some x0,some x1,none]from rfl];obtain⟨a',ns,k,rfl,rfl,hs,hl,h0,h1,q⟩:=h;o_head ztw hs hl h0 h1 (λc=>?_);k_few;exact dC (by show 3<=1000;decide) λp H' hp s e=>q p H' hp s ⟨_,_,0,e,by decide,by decide⟩
def LD(K:wa):Sp:=λvs H Q _=>∃x0 x1,vs=[x0,x1] /\ ∃(p:we)(k m:Int),x0=.ref p/\x1=.int m/\cV H p k/\k<=1000000/\0<m/\Bd 8999 m /\
 ∀(r:Int)(H':Hp),0<=r->r<m->Exc p H H'->a_ H H'->cV H' p (k+1)->Q (.int r) H'
theorem zts{k m:Int}(h:cV H p k)(hk:k<=1000000)(hm:0<m)(hb:Bd 8999 m)
  (q:∀(r:Int)(H':Hp),0<=r->r<m->Exc p H H'->a_ H H'->cV H' p (k+1)->Q (.int r) H'):LD K [.ref p,.int m] H Q E:=⟨_,_,rfl,p,k,m,rfl,rfl,h,hk,hm,hb,q⟩
local macro_rules | `(tactic| wtm_at "gs")=>`(tactic| ((with_reducible apply zts); (focus wtm_at "pen"); (focus lia); (focus lia); (focus wtm_at "bd128"); intro _ _ _ _ _ _ _))
theorem gE(T:Txt K mg a):aF P w K mg base aN 1 a.JY a.IC u0 (LD K):=by
 refine T.fL.F.ok u9 ?_ ?_;wtm_at "b2"
 refine⟨_,(ai (ju (aB cB (qi 0) au) (mW (pv 0) au mM))
     (ai (aV (b_ (qi 0)) (ai (ay 2 u9.nd (aB gZ (qi 0) (pv 1)))
     (ai (ju (aB fe (qi 0) (pv 1)) (mW (pv 0) au mM))
     (av (aA (pv 2))))) aX)
     (ai (ay 3 u9.nd (aB gZ (aB cE (aB cB (aB gZ (qi 0) au) au) (aB cB au (aB cE (qi 0) (qi 0)))) au))
     (ai (ay 3 u9.nd (aB gZ (aB cE (pv 3) (aB cB (pv 3) (aB cE au (qi 0)))) au))
     (av (aA (aB gZ (aB fe (aB gZ (aB cE (pv 3) (aB cB (aB fe (pv 3) au) au)) au) au) (pv 1)))))))),?_⟩
 wtm_at "cl";rw[show start Ym [x0,x1]=[some x0,some x1,none,none]from rfl];obtain⟨p,k,m,rfl,rfl,⟨x,y,n,hp,hn0,hn1⟩,hk,hm,hbm,q⟩:=h;k_few
 all_goals
   exact q _ _ (Qc _ ()) (qC _ hm) (by wtm_at "exc") (Exc.keep (p:=p) (by wtm_at "exc") hp) ⟨_,_,_,by assumption,by lia,by lia⟩
def CJ(K:wa):Sp:=λvs H Q _=>∃x0 x1,vs=[x0,x1] /\ ∃(t b:Int),x0=.int t/\x1=.int b/\0<b/\Bd 8999 b/\Rs K H Q (N (wu t b))
theorem mF{b:Int}(hb:0<b)(hB:Bd 8999 b)(q:Rs K H Q (N (wu t b))):CJ K [.int t,.int b] H Q E:=⟨_,_,rfl,t,b,rfl,rfl,hb,hB,q⟩
theorem zxv{b:Int}(hb:0<b)(h1 : -100000000000000000000000000000000000000<=t)(h2:t<=100000000000000000000000000000000000000)(h3 : -100000000000000000000000000000000000000<=b)(h4:b<=100000000000000000000000000000000000000)
  (q:∀v H' (x:Rat),ar H H'->Is K H' v (N x)->x=wu t b->af 128 x->Q v H'):CJ K [.int t,.int b] H Q E :=
 mF hb ((Bd.kP h3 h4).mono ⋯) λv H' s h=>q v H' _ s h rfl (af.divInt (show b≠0 by lia) (Bd.kP h1 h2) (Bd.kP h3 h4))
local macro_rules | `(tactic| wtm_at "gs")=>`(tactic| ((with_reducible apply zxv); (focus lia); (focus lia); (focus lia); (focus lia); (focus lia); intro _ _ _ _ _ _ _))
theorem gu(T:Txt K mg a):aF P w K mg base aN 1 a.Km a.II AO (CJ K):=by
 refine T.fM.F.ok AM ?_ ?_;wtm_at "b2"
 refine⟨_,(ai (ay 2 AM.nd (c7 m5 rfl T.h0s mY (q1 0)))
     (ai (ay 3 AM.nd (pv 1))
     (ai (lD w5 (cY kx (pv 3) au (cQ _)) (av (zDe (i:=2) (j:=3) rfl AM.nd rfl rfl ⋯ rfl rfl (ae (pv 3) (ae (aB gZ (pv 2) (pv 3)) ag)) rfl)))
     (av (aA (aQ (ae (aB fe (pv 0) (pv 2)) (ae (aB fe (pv 1) (pv 2)) ag)))))))),?_⟩
 wtm_at "cl";rw[show start SN [x0,x1]=[some x0,some x1,none,none]from rfl];obtain⟨t,b,rfl,rfl,hp,hB,q⟩:=h;have hb:b≠0:=by lia
 o_head UT (λσ H'=>∃(x y:Int),σ = [some (.int t),some (.int b),some (.int x),some (.int y)]/\0<=x/\0<=y/\vA x y=vA t b/\H'=H) (λσ=>(Rz σ 3).toNat) ⟨_,_,rfl,by split<;>lia,by lia,uQ t b,rfl⟩ ?_;rintro σ H' ⟨x,y,rfl,hx,hy,hg,rfl⟩
 have hgb:Bd 8999 ((vA t b:Nat):Int):=hB.le (by
   have:vA t b ∣ b.natAbs:=Int.gcd_dvd_natAbs_right t b;have:=uv () this
   simpa using this)
 k_few
 . refine U7 ?_
   k_few;have h1:=Qc x (show y≠0 by lia);have h2:=qC x (show 0<y by lia);refine⟨?_,_,_,rfl,hy,h1,?_,rfl⟩
   . show(x % y).toNat<y.toNat
     lia
   . rw[<- hg];exact OM () hx
 . rename_i h0
   have e0:y=0:=by lia
   subst e0
   have e:x=((vA t b:Nat):Int):=by
     rw[<- hg,Xc];lia
   have e1:x=dv t b:=by unfold dv;rw[if_neg (),<- e]
   rw[e1];have hd:oF t (dv t b):=⟨Tw hb,by unfold dv;rw[if_neg ()];exact hgb⟩;refine pX hd ?_;k_few;exact cU (N_ hb) (zDz hb) q
def DV(K:wa):Sp:=λvs H Q _=>∃x0 x1,vs=[x0,x1] /\ ∃(x:Rat)(t u:Int)(n:Nat),Is K H x0 (N x)/\Is K H x1 (.tuple [.int t,.int u])/\0<u/\af n x/\n<=4400/\Bd 4400 t/\Bd 4400 u/\Rs K H Q (N (x+wu t u))
theorem N7{u:Int}{v w:V}(h1:Is K H v (N x))(h2:Is K H w (.tuple [.int t,.int u]))(hu:0<u)(b1:af 4400 x)(b2:Bd 4400 t)(b3:Bd 4400 u)(q:Rs K H Q (N (x+wu t u))):DV K [v,w] H Q E:=⟨_,_,rfl,x,t,u,4400,h1,h2,hu,b1,wp _,b2,b3,q⟩
theorem zvB{v w:V}(h1:Is K H v (N x))(h2:Is K H w (N y))(b1:af 4400 x)(b2:af 4400 y)(q:Rs K H Q (N (x+y))):DV K [v,w] H Q E :=
 N7 h1 h2 (den_pos y) b1 b2.t b2.b (λv H' s i=>q v H' s (by rw[WY]at i;exact i))
local macro_rules | `(tactic| wtm_at "gs")=>`(tactic| ((with_reducible apply zvB); (focus wtm_at "is"); (focus wtm_at "is"); (focus wtm_at "bdr"); (focus wtm_at "bdr"); intro _ _ _ _))
theorem zAO{v:V}{u:Int}(h:Is K H v (.tuple [.int t,.int u]))(q:Q (.int t) H):c_ K v (.int 0) H Q:=aD (j:=0) h rfl (λx i=>by rw[cc.mp i];exact q)
theorem Ri{v:V}{u:Int}(h:Is K H v (.tuple [.int t,.int u]))(q:Q (.int u) H):c_ K v (.int 1) H Q:=aD (j:=1) h rfl (λx i=>by rw[cc.mp i];exact q)
theorem zyr(x:Rat){u:Int}(hu:0<u):wu (x.num*u+t*(x.den:Int)) ((x.den:Int)*u)=x+wu t u:=by
 have hp:=vT (den_pos x) hu;refine fK () ?_;have k1:=jO x;have k2:=c9 t (show u≠0 by lia);have e1:((x.num*u+t*(x.den:Int):Int):Rat)=(x.num:Rat)*(u:Rat)+(t:Rat)*((x.den:Int):Rat):=by push_cast;rfl
 have e2:(((x.den:Int)*u:Int):Rat)=((x.den:Int):Rat)*(u:Rat):=by push_cast;rfl
 rw[e1,e2,<- k1,<- k2]
 grind
theorem iA(T:Txt K mg a):aF P w K mg base aN 2 a.J8 a.IS yO (DV K):=by
 refine T.gM.F.ok zuF ?_ ?_;wtm_at "b2";refine⟨_,(av (aA (ak (gu T) hr T.fM (ae (aB cB (aB cE (qi 0) (qi 1)) (aB cE (qi 1) (qi 0))) (ae (aB cE (qi 0) (qi 1)) ag))))),?_⟩;wtm_at "cl";rw[show start By [x0,x1]=[some x0,some x1]from rfl];obtain⟨x,t,u,n,hx,hy,hu,bx,hn,bt,bu,q⟩:=h;obtain⟨bx1,bx2⟩:=bx.mono hn;have hp:=vT (den_pos x) hu;o_head Ri hy ?_;o_head zAO hy ?_;o_head Ri hy ?_;o_head mF hp ((bx2.mul bu).mono ⋯) (λv H' s hv=>?_);rw[zyr x hu]at hv;exact q v H' s hv
def U2(K:wa):Sp:=λvs H Q _=>∃x0 x1,vs=[x0,x1] /\ ∃(x y:Rat)(m n:Nat),Is K H x0 (N x)/\Is K H x1 (N y)/\af m x/\af n y/\m+n<=8999/\Rs K H Q (N (x-y))
theorem lE{v w:V}(h1:Is K H v (N x))(h2:Is K H w (N y))(b1:af m x)(b2:af n y)(hmn:m+n<=8999)(q:Rs K H Q (N (x-y))):U2 K [v,w] H Q E:=⟨_,_,rfl,x,y,m,n,h1,h2,b1,b2,hmn,q⟩
theorem lM(T:Txt K mg a):aF P w K mg base aN 2 a.JV a.IA tT (U2 K):=by
 refine T.j_.F.ok zsT ?_ ?_;wtm_at "b2";refine⟨_,(av (aA (ak (gu T) hr T.fM (ae (aB hZ (aB cE (qi 0) (qi 1)) (aB cE (qi 1) (qi 0))) (ae (aB cE (qi 0) (qi 1)) ag))))),?_⟩;wtm_at "cl";rw[show start FJ [x0,x1]=[some x0,some x1]from rfl];obtain⟨x,y,m,n,hx,hy,bx,by',hmn,q⟩:=h;have cx:=bx.mono (show m<=8999 by lia);have cy:=by'.mono (show n<=8999 by lia);o_head mF (Ub x y) ((bx.b.mul by'.b).mono hmn) (λv H' s hv=>?_);rw[UK]at hv;exact q v H' s hv
def Uz(K:wa):Sp:=λvs H Q _=>∃x0 x1,vs=[x0,x1] /\ ∃(x y:Rat),Is K H x0 (N x)/\Is K H x1 (N y)/\af 4000 x/\af 4000 y/\Rs K H Q (N (x*y))
theorem zod{v w:V}(h1:Is K H v (N x))(h2:Is K H w (N y))(b1:af 4000 x)(b2:af 4000 y)(q:Rs K H Q (N (x*y))):Uz K [v,w] H Q E:=⟨_,_,rfl,x,y,h1,h2,b1,b2,q⟩
local macro_rules | `(tactic| wtm_at "gs")=>`(tactic| ((with_reducible apply zod); (focus wtm_at "is"); (focus wtm_at "is"); (focus wtm_at "bdr"); (focus wtm_at "bdr"); intro _ _ _ _))
theorem ky(T:Txt K mg a):aF P w K mg base aN 2 a.IE a.G8 zO (Uz K):=by
 refine T.jy.F.ok zoz ?_ ?_;wtm_at "b2";refine⟨_,(av (aA (ak (gu T) hr T.fM (ae (aB cE (qi 0) (qi 1)) (ae (aB cE (qi 0) (qi 1)) ag))))),?_⟩;wtm_at "cl";rw[show start Gw [x0,x1]=[some x0,some x1]from rfl];obtain⟨x,y,hx,hy,⟨bx1,bx2⟩,⟨by1,by2⟩,q⟩:=h;o_head mF (Ub x y) ((bx2.mul by2).mono ⋯) (λv H' s hv=>?_);rw[RH]at hv;exact q v H' s hv
def RV(K:wa):Sp:=λvs H Q _=>∃x0 x1,vs=[x0,x1] /\ ∃(x y:Rat)(m n:Nat),Is K H x0 (N x)/\Is K H x1 (N y)/\af m x/\af n y/\m+n<=8998/\y≠0/\Rs K H Q (N (x / y))
theorem N8{v w:V}(h1:Is K H v (N x))(h2:Is K H w (N y))(b1:af m x)(b2:af n y)(hmn:m+n<=8998)(hy:y≠0)(q:Rs K H Q (N (x / y))):RV K [v,w] H Q E:=⟨_,_,rfl,x,y,m,n,h1,h2,b1,b2,hmn,hy,q⟩
theorem ztB{p q:Int}(h:q≠0):wu (0-p) (0-q)=wu p q:=by
 refine fK () ?_;have k:=c9 p h;have e1:((0-p:Int):Rat) = -(p:Rat):=by rw[Xd];push_cast;rfl
 have e2:((0-q:Int):Rat) = -(q:Rat):=by rw[Xd];push_cast;rfl
 rw[e1,e2,<- k]
 grind
theorem Ma(T:Txt K mg a):aF P w K mg base aN 2 a.JP a.Ii zf (RV K):=by
 refine T.A5.F.ok zt8 ?_ ?_;wtm_at "b2"
 refine⟨_,(ai (aV (cY jT (qi 1) au (cQ _)) (av (aA (ak (gu T) hr T.fM (ae (aB hZ au (aB cE (qi 0) (qi 1))) (ae (aB hZ au (aB cE (qi 0) (qi 1))) ag))))) aX)
     (av (aA (ak (gu T) hr T.fM (ae (aB cE (qi 0) (qi 1)) (ae (aB cE (qi 0) (qi 1)) ag)))))),?_⟩
 wtm_at "cl";rw[show start FT [x0,x1]=[some x0,some x1]from rfl];obtain⟨x,y,m,n,hx,hy,bx,by',hmn,h0,q⟩:=h;have cx:=bx.mono (show m<=8999 by lia);have cy:=by'.mono (show n<=8999 by lia);have hn:=sD h0;have bb:=bx.b.mul by'.t;have hd:=den_pos x;have bo:Bd 8999 (0-(x.den:Int)*y.num):=by rw[Xd];exact bb.neg.mono ()
 k_few
 . rename_i z
   have hp:0<0-(x.den:Int)*y.num:=by
     have:=Int.mul_neg_of_pos_of_neg hd z;lia
   refine mF hp bo (λv H' s hv=>?_);rw[ztB (),Fv]at hv;exact q v H' s hv
 . rename_i z
   refine mF (vT hd ()) (bb.mono ()) (λv H' s hv=>?_);rw[Fv]at hv;exact q v H' s hv
def Lv(K:wa):Sp:=λvs H Q _=>∃x0 x1,vs=[x0,x1] /\ ∃(x y:Rat),Is K H x0 (N x)/\Is K H x1 (N y)/\af 8999 x/\af 8999 y/\Q (.bl (decide (x<y))) H
theorem zqF{v w:V}(h1:Is K H v (N x))(h2:Is K H w (N y))(b1:af 8999 x)(b2:af 8999 y)(q:Q (.bl (decide (x<y))) H):Lv K [v,w] H Q E:=⟨_,_,rfl,x,y,h1,h2,b1,b2,q⟩
local macro_rules | `(tactic| wtm_at "gs")=>`(tactic| ((with_reducible apply zqF); (focus wtm_at "is"); (focus wtm_at "is"); (focus wtm_at "bdr"); (focus wtm_at "bdr")))
theorem rm(T:Txt K mg a):aF P w K mg base aN 1 a.Js a.HJ zY (Lv K):=by
 refine T.nh.F.ok zq6 ?_ ?_;wtm_at "b2";refine⟨_,(av (aA (gP jT (aB cE (qi 0) (qi 1)) (aB cE (qi 1) (qi 0)) (cQ _)))),?_⟩;wtm_at "cl";rw[show start B6 [x0,x1]=[some x0,some x1]from rfl];obtain⟨x,y,hx,hy,⟨bx1,bx2⟩,⟨by1,by2⟩,q⟩:=h;k_few;rw[RN];exact q
def Dz(K:wa):Sp:=λvs H Q _=>∃x0,vs=[x0] /\ ∃d,Is K H x0 d/\Q (.bl (EG d)) H
theorem zr0{v:V}(h:Is K H v d)(q:Q (.bl (EG d)) H):Dz K [v] H Q E:=⟨v,rfl,d,h,q⟩
theorem zpF{m:Int}(q:Q (.bl true) H):Dz K [.int m] H Q E:=zr0 (cc.mpr rfl) q
local macro_rules | `(tactic| wtm_at "gs")=>`(tactic| with_reducible refine zpF ?_)
theorem yJ(T:Txt K mg a):aF P w K mg base aN 1 a.Jo a.HX zu (Dz K):=by
 refine T.oX.F.ok zq3 ?_ ?_;wtm_at "b1";refine⟨_,(av (aA (fJ (c7 (show bS _ (.builtin "isinstance") (eC K)from iC) rfl T.h0c ic (ae (pv 0) (ae (gJ (v:=.ty "int") rfl T.h0n Si rfl) ag))) (jg (m8 (c7 (show bS _ (.builtin "isinstance") (eC K)from iC) rfl T.h0c ic (ae (pv 0) (ae (gJ (v:=.ty "bool") rfl T.h0l OU rfl) ag)))))))),?_⟩;wtm_at "cl";rw[show start Gm [x0]=[some x0]from rfl];obtain⟨d,hd,q⟩:=h;k_few
 all_goals(cases d<;>simp_all [EG,zt,Ap])
theorem uP{w z n d:Int}(hw:1<=w)(hw8:w<=8)(hz:w<z)(hz4:z<=4*w)(hn:0<=n)(hd:1<=d)(hnd:n<=d)(hd12:d<=12):aR (wu z w) (wu n d):=by
 obtain⟨a1,a2,a3⟩:=OC (x:=wu z w) rfl hw hw8 () hz4;obtain⟨b1,b2,b3⟩:=B9 (y:=wu n d) rfl hd hd12 hn hnd
 have h1:(1:Rat)<wu z w:=by
  have:=c9 z (show w≠0 by lia);refine xE.mp λk=>?_
  have h2:=Qe k (vX (mS (show 0<w by lia)));rw[this,Qr]at h2;have:=Vh.mp h2;lia
 exact⟨a1,a2,a3,b1,b2,b3,by grind⟩
theorem Oa{n d:Int}(hn:0<=n)(hd:1<=d)(hnd:n<=d)(hd12:d<=12):aR 1 (wu n d):=by
 obtain⟨b1,b2,b3⟩:=B9 (y:=wu n d) rfl hd hd12 hn hnd;exact⟨by decide,by decide,by decide,b1,b2,b3,by grind⟩
theorem t_{w n d:Int}(hw:2<=w)(hw8:w<=8)(ht:1<=t)(htw:t<w)(hn:0<=n)(hd:1<=d)(hnd:n<=d)(hd12:d<=12)(h:(w-t)*d<=n*w):aR (wu t w) (wu n d):=by
 obtain⟨a1,a2,a3⟩:=OC (x:=wu t w) rfl () hw8 ht ();obtain⟨b1,b2,b3⟩:=B9 (y:=wu n d) rfl hd hd12 hn hnd;refine⟨a1,a2,a3,b1,b2,b3,?_⟩;have e1:=c9 t (show w≠0 by lia);have e2:=c9 n (show d≠0 by lia);have pw:(0:Rat)<(w:Rat):=mS (show 0<w by lia);have pd:(0:Rat)<(d:Rat):=mS (show 0<d by lia);refine Vi.mp λk=>?_
 have k1:=Rat.mul_lt_mul_of_pos_right k (V0 pw pd)
 have e3:(wu t w+wu n d)*((w:Rat)*(d:Rat))=(t:Rat)*(d:Rat)+(n:Rat)*(w:Rat):=by
  rw[<- e1,<- e2];grind
 rw[e3,Qr]at k1
 have k2:((t*d+n*w:Int):Rat)<((w*d:Int):Rat):=by
  rw[VT,vR,vR,vR];exact k1
 have k3:=xf.mp k2;rw[Int.sub_mul]at h;lia
theorem NM{w d:Int}(hw:2<=w)(ht:1<=t)(htw:t<w)(hd:1<=d):1<=0-((t-w)*d).fdiv w/\0-((t-w)*d).fdiv w<=d/\(w-t)*d<=(0-((t-w)*d).fdiv w)*w:=by
 rw[Wr _ ()];have e:(t-w)*d = -((w-t)*d):=by rw[<- Int.neg_mul];congr 1;lia
 have p:1<=(w-t)*d:=by
  have:=um (show(1:Int)<=w-t by lia) hd () ();lia
 have hle:(w-t)*d<=w*d:=WI () ();rw[e];generalize (w-t)*d=m at *;have h1:=ud (-m) (show w≠0 by lia);have h2:=Int.lt_ediv_add_one_mul_self (-m) (show 0<w by lia);generalize -m / w=q at *;have e2:(0-q)*w = -(q*w):=by rw[Int.sub_mul,Int.zero_mul];lia
 have e3:(q+1)*w=q*w+w:=by rw[XE,Qq]
 rw[e3]at h2;refine⟨?_,?_,by rw[e2];lia⟩
 ·refine Int.not_lt.mp λk=>?_
  have:0<=q*w:=xv () ();lia
 ·refine Int.not_lt.mp λk=>?_
  have:(q+1)*w<=(-d)*w:=WI () ();rw[e3,Int.neg_mul,Int.mul_comm d w]at this;lia
def Lj(K:wa):Sp:=λvs H Q _=>∃x0,vs=[x0] /\ ∃(p:we)(k:Int),x0=.ref p/\cV H p k/\k<=1000 /\ ∀v H' (a b:Rat),Exc p H H'->a_ H H'->cV H' p (k+8)->Is K H' v (R a b)->aR a b->Q v H'
theorem UD{k:Int}(h:cV H p k)(hk:k<=1000)(q:∀v H' (a b:Rat),Exc p H H'->a_ H H'->cV H' p (k+8)->Is K H' v (R a b)->aR a b->Q v H'):Lj K [.ref p] H Q E:=⟨_,rfl,p,k,rfl,h,hk,q⟩
theorem R6(T:Txt K mg a):aF P w K mg base aN 2 a.Hf a.GP AK (Lj K):=by
 refine T.AV.F.ok kI ?_ ?_;wtm_at "b1"
 refine⟨_,(ai (ay 1 kI.nd (ak (gE T) hr T.fL (ae (pv 0) (ae au ag))))
     (ai (ay 2 kI.nd (aB cB au (ak (gE T) hr T.fL (ae (pv 0) (ae au ag)))))
     (ai (ay 3 kI.nd (aB cB au (ak (gE T) hr T.fL (ae (pv 0) (ae au ag)))))
     (ai (ay 4 kI.nd (ak (gE T) hr T.fL (ae (pv 0) (ae (aB cB (pv 3) au) ag))))
     (ai (aV (d5 K hu (ak (gE T) hr T.fL (ae (pv 0) (ae au ag))) au) (av (ay 4 kI.nd (c7 (show bS _ (.builtin "min") Bt from zxs rfl) rfl T.h0p zDy (ae (pv 4) (ae au ag))))) aX)
     (ai (aV (cY jT (pv 1) au (cQ _)) (av (aA (aQ (ae (ak (gu T) hr T.fM (ae (aB cB (aB cB (pv 2) au) (aB cE (pv 1) (ak (gE T) hr T.fL (ae (pv 0) (ae (aB cE au (pv 2)) ag))))) (q1 2))) (ae (ak (gu T) hr T.fM (q2 4 3)) ag))))) aX)
     (ai (aV (d5 K hu (pv 1) au) (av (aA (aQ (ae (aQ (ae au (ae au ag))) (ae (ak (gu T) hr T.fM (q2 4 3)) ag))))) aX)
     (ai (ay 2 kI.nd (aB cB au (aB gZ (pv 2) au)))
     (ai (ay 5 kI.nd (aB cB au (ak (gE T) hr T.fL (ae (pv 0) (ae (aB hZ (pv 2) au) ag)))))
     (ai (aV (d5 K hu (pv 1) au) (av (aA (aQ (ae (ak (gu T) hr T.fM (q2 5 2)) (ae (ak (gu T) hr T.fM (ae (aB hZ (pv 2) (pv 5)) (q1 2))) ag))))) aX)
     (ai (ay 6 kI.nd (aB hZ au (aB fe (aB cE (aB hZ (pv 5) (pv 2)) (pv 3)) (pv 2))))
     (av (aA (aQ (ae (ak (gu T) hr T.fM (q2 5 2)) (ae (ak (gu T) hr T.fM (ae (aB cB (pv 6) (ak (gE T) hr T.fL (ae (pv 0) (ae (aB cB (aB hZ (pv 3) (pv 6)) au) ag)))) (q1 3))) ag)))))))))))))))),?_⟩
 wtm_at "cl";rw[show start NI [x0]=[some x0,none,none,none,none,none,none]from rfl];obtain⟨p,k,rfl,hp,hk,q⟩:=h;wtm_at "ga"
 . rename_i way H1 w0 w1 E1 K1 P1 bt H2 b0 b1 E2 K2 P2 dr H3 d0 d1 E3 K3 P3 mo H4 m0 m1 E4 K4 P4 tw H5 t0 t1 E5 K5 P5 z mn mn0 mn1 mn2 hw rr H6 r0 r1 E6 K6 P6
   have hw2:way=0\/way=1:=by lia
   rcases hw2 with rfl | rfl
   . wtm_at "ga"
     rename_i v7 H7 x7 S7 i7 e7 b7 v8 H8 x8 S8 i8 e8 b8 v9 H9 S9 i9;exact q _ _ x7 x8 (by wtm_at "exc") (by wtm_at "keep") (by wtm_at "penle") i9 (by rw[e7,e8];exact uP () () () () () () () ())
   . wtm_at "ga"
     rename_i v7 H7 x7 S7 i7 e7 b7 v8 H8 x8 S8 i8 e8 b8 v9 H9 S9 i9;exact q _ _ x7 x8 (by wtm_at "exc") (by wtm_at "keep") (by wtm_at "penle") i9 (by rw[e7,e8];exact uP () () () () () () () ())
 . rename_i way H1 w0 w1 E1 K1 P1 bt H2 b0 b1 E2 K2 P2 dr H3 d0 d1 E3 K3 P3 mo H4 m0 m1 E4 K4 P4 tw H5 t0 t1 E5 K5 P5 z mn mn0 mn1 mn2 hw hw2 v7 H7 S7 i7 v8 H8 x8 S8 i8 e8 b8 v9 H9 S9 i9
   exact q _ _ 1 x8 (by wtm_at "exc") (by wtm_at "keep") (by wtm_at "penle") i9 (by rw[e8];exact Oa () () () ())
 . rename_i way H1 w0 w1 E1 K1 P1 bt H2 b0 b1 E2 K2 P2 dr H3 d0 d1 E3 K3 P3 mo H4 m0 m1 E4 K4 P4 tw H5 t0 t1 E5 K5 P5 z mn mn0 mn1 mn2 hw hw2 rr H6 r0 r1 E6 K6 P6 hw3 v7 H7 x7 S7 i7 e7 b7 v8 H8 x8 S8 i8 e8 b8 v9 H9 S9 i9
   exact q _ _ x7 x8 (by wtm_at "exc") (by wtm_at "keep") (by wtm_at "penle") i9 (by rw[e7,e8];exact t_ () () () () () () () () (Int.le_refl _))
 . rename_i way H1 w0 w1 E1 K1 P1 bt H2 b0 b1 E2 K2 P2 dr H3 d0 d1 E3 K3 P3 mo H4 m0 m1 E4 K4 P4 tw H5 t0 t1 E5 K5 P5 z mn mn0 mn1 mn2 hw hw2 rr H6 r0 r1 E6 K6 P6 hw3
   have nd:=NM (t:=1+rr) (w:=2+(1+bt) % 7) (d:=1+dr) () () () ();refine pX ⟨by lia,(Bd.kP () ()).mono ⋯⟩ ?_;generalize ((1+rr-(2+(1+bt) % 7))*(1+dr)).fdiv (2+(1+bt) % 7)=fd at nd ⊢;obtain⟨n1,n2,n3⟩:=nd;wtm_at "ga";rename_i v7 H7 x7 S7 i7 e7 b7 s8 H8 s0 s1 E8 K8 P8 v9 H9 x9 S9 i9 e9 b9 v10 H10 S10 i10
   exact q _ _ x7 x9 (by wtm_at "exc") (by wtm_at "keep") (by wtm_at "penle") i10 (by
     rw[e7,e9];refine t_ () () () () () () () () ?_;have:(0-fd)*(2+(1+bt) % 7)<=(0-fd+s8)*(2+(1+bt) % 7):=WI () ();lia)
 . rename_i way H1 w0 w1 E1 K1 P1 bt H2 b0 b1 E2 K2 P2 dr H3 d0 d1 E3 K3 P3 mo H4 m0 m1 E4 K4 P4 tw H5 t0 t1 E5 K5 P5 z hw rr H6 r0 r1 E6 K6 P6
   have hw2:way=0\/way=1:=by lia
   rcases hw2 with rfl | rfl
   . wtm_at "ga"
     rename_i v7 H7 x7 S7 i7 e7 b7 v8 H8 x8 S8 i8 e8 b8 v9 H9 S9 i9;exact q _ _ x7 x8 (by wtm_at "exc") (by wtm_at "keep") (by wtm_at "penle") i9 (by rw[e7,e8];exact uP () () () () () () () ())
   . wtm_at "ga"
     rename_i v7 H7 x7 S7 i7 e7 b7 v8 H8 x8 S8 i8 e8 b8 v9 H9 S9 i9;exact q _ _ x7 x8 (by wtm_at "exc") (by wtm_at "keep") (by wtm_at "penle") i9 (by rw[e7,e8];exact uP () () () () () () () ())
 . rename_i way H1 w0 w1 E1 K1 P1 bt H2 b0 b1 E2 K2 P2 dr H3 d0 d1 E3 K3 P3 mo H4 m0 m1 E4 K4 P4 tw H5 t0 t1 E5 K5 P5 z hw hw2 v7 H7 S7 i7 v8 H8 x8 S8 i8 e8 b8 v9 H9 S9 i9
   exact q _ _ 1 x8 (by wtm_at "exc") (by wtm_at "keep") (by wtm_at "penle") i9 (by rw[e8];exact Oa () () () ())
 . rename_i way H1 w0 w1 E1 K1 P1 bt H2 b0 b1 E2 K2 P2 dr H3 d0 d1 E3 K3 P3 mo H4 m0 m1 E4 K4 P4 tw H5 t0 t1 E5 K5 P5 z hw hw2 rr H6 r0 r1 E6 K6 P6 hw3 v7 H7 x7 S7 i7 e7 b7 v8 H8 x8 S8 i8 e8 b8 v9 H9 S9 i9
   exact q _ _ x7 x8 (by wtm_at "exc") (by wtm_at "keep") (by wtm_at "penle") i9 (by rw[e7,e8];exact t_ () () () () () () () () (Int.le_refl _))
 . rename_i way H1 w0 w1 E1 K1 P1 bt H2 b0 b1 E2 K2 P2 dr H3 d0 d1 E3 K3 P3 mo H4 m0 m1 E4 K4 P4 tw H5 t0 t1 E5 K5 P5 z hw hw2 rr H6 r0 r1 E6 K6 P6 hw3
   have nd:=NM (t:=1+rr) (w:=2+(1+bt) % 7) (d:=1+dr) () () () ();refine pX ⟨by lia,(Bd.kP () ()).mono ⋯⟩ ?_;generalize ((1+rr-(2+(1+bt) % 7))*(1+dr)).fdiv (2+(1+bt) % 7)=fd at nd ⊢;obtain⟨n1,n2,n3⟩:=nd;wtm_at "ga";rename_i v7 H7 x7 S7 i7 e7 b7 s8 H8 s0 s1 E8 K8 P8 v9 H9 x9 S9 i9 e9 b9 v10 H10 S10 i10
   exact q _ _ x7 x9 (by wtm_at "exc") (by wtm_at "keep") (by wtm_at "penle") i10 (by
     rw[e7,e9];refine t_ () () () () () () () () ?_;have:(0-fd)*(2+(1+bt) % 7)<=(0-fd+s8)*(2+(1+bt) % 7):=WI () ();lia)
def Uk(K:wa):Sp:=λvs H Q _=>∃x0 x1,vs=[x0,x1] /\ ∃(a b:Rat)(n:Int),x1=.int n/\Is K H x0 (R a b)/\af 10 a/\af 10 b/\0<=n/\n<=64/\Rs K H Q (R (a^n.toNat) (aC a b n.toNat))
theorem Se{a:Rat}{n:Int}{v:V}(h1:Is K H v (R a b))(b1:af 10 a)(b2:af 10 b)(h0:0<=n)(h64:n<=64)(q:Rs K H Q (R (a^n.toNat) (aC a b n.toNat))):Uk K [v,.int n] H Q E:=⟨_,_,rfl,a,b,n,rfl,h1,b1,b2,h0,h64,q⟩
theorem Ut(T:Txt K mg a):aF P w K mg base aN 3 a.Jh a.Hx z8 (Uk K):=by
 refine T.AZ.F.ok tH ?_ ?_;wtm_at "b2"
 refine⟨_,(ai (ay 2 tH.nd (aQ (ae (aQ (ae au (ae au ag))) (ae (aQ (ae au (ae au ag))) ag))))
     (ai (d6 w5 rfl (fC rfl T.h0j (q1 1)) (cT (i:=3) tH.nd rfl (Or.inl rfl)) (av (ay 2 tH.nd (aQ (ae (ak (ky T) hr T.jy (ae (qi 0) (ae (qi 2) ag))) (ae (ak (iA T) hr T.gM (ae (ak (ky T) hr T.jy (ae (qi 0) (ae (qi 2) ag))) (ae (qi 0) ag))) ag))))))
     (av (aA (pv 2))))),?_⟩
 wtm_at "cl";rw[show start MW [x0,x1]=[some x0,some x1,none,none]from rfl];obtain⟨r,s',n,rfl,hr',ba,bb,h0,h64,q⟩:=h;o_head cU (r:=1) rfl rfl (λv1 H1 S1 i1=>?_);o_head cU (r:=0) rfl rfl (λv2 H2 S2 i2=>?_);o_head Fs (i1.by S2) i2 (λv3 H3 S3 i3=>?_);o_head iX (n:=n) () () (λi σ H'=>∃(f:V)(o:Option V),σ = [some x0,some (.int n),some f,o]/\ar H H'/\Is K H' f (R (r^i) (aC r s' i))) ⟨_,_,rfl,S1.trans (S2.trans S3),by rw[V5];exact i3⟩ ?_ ?_
 . rintro i σ H' hi ⟨f,o,rfl,S,hf⟩
   have hr1:=hr'.by S;have bf:af 650 (r^i):=(ba.pow i).mono ();have bg:af 1400 (aC r s' i):=(ba.aC bb i).mono ();o_head Fs (a:=r*r^i) (b:=r*aC r s' i+s') (by wtm_at "is") (by wtm_at "is") (λv4 H4 S4 i4=>?_);o_head ⟨_,_,rfl,ar.back S4 (by wtm_at "same"),?_⟩;rw[WP,VM];exact i4
 . rintro σ H' ⟨f,o,rfl,S,hf⟩
   k_few;exact q _ _ S hf
def fq(a b:Rat)(ns:List Int)(xs:List Rat):Nat->Rat
 | 0=>0
 | k+1=>fq a b ns xs k+(1-(aJ a b ns (xs++[0]) k).getD k 0)
def j9(a b:Rat)(ns:List Int)(xs:List Rat)(k:Nat):List Rat:=(wo k).map λj=>(aJ a b ns (xs++[0]) (j+1)).getD ((j+1) % ns.length) 0
theorem zx1(a b:Rat)(ns:List Int)(xs:List Rat)(k:Nat):j9 a b ns xs (k+1)=j9 a b ns xs k++[(aJ a b ns (xs++[0]) (k+1)).getD ((k+1) % ns.length) 0]:=by
 unfold j9;rw[Qb,wX];rfl
theorem Ce(h:ah K H us (xs.map N))(k:Is K H u (N x)):ah K H (us++[u]) ((xs++[x]).map N):=by
 rw[wX];exact h.append (.cons k .nil)
theorem zA9{m:Int}(h:aE K H p (ns.map V.int))(h0:0<=m)(h1:m<ns.length)(q:Q (.int (ns.getD m.toNat 0)) H):c_ K (.ref p) (.int m) H Q:=by
 obtain⟨n,rfl⟩:∃n:Nat,m=(n:Int):=⟨m.toNat,by lia⟩;refine j5 h (mQ (j:=n) (v:=.int (ns.getD n 0)) ?_) q;rw[wq,wb,wc ()]
 rfl
def EU(K:wa):Sp:=λvs H Q _=>∃x0 x1 x2,vs=[x0,x1,x2] /\ ∃(a b:Rat)(ns:List Int)(xs:List Rat)(p1:we),x1=.ref p1/\Is K H x0 (R a b)/\aE K H p1 (ns.map V.int)/\(Is K H x2 (LN xs)\/Is K H x2 (TN xs))/\cX a b ns xs/\(∀k,k<=ns.length->Cm 3500 (aJ a b ns (xs++[0]) k))/\(∀k,k<ns.length->af 4300 (fq a b ns xs k)) /\ ∀t lb vt lh us hs H',ar H H'->H' t=some (.tup [.ref lb,vt,.ref lh])->H' lb=some (.lst us)->ah K H' us ((cK a b ns xs).map N)->Is K H' vt (N (fq a b ns xs ns.length))->H lh=none->H' lh=some (.lst hs)->ah K H' hs ((j9 a b ns xs ns.length).map N)->Q (.ref t) H'
theorem zpe{a:Rat}{v:V}(h1:Is K H v (R a b))(h2:aE K H p1 (ns.map V.int))(h3:Is K H u (LN xs)\/Is K H u (TN xs))(ok:cX a b ns xs)(hrow:∀k,k<=ns.length->Cm 3500 (aJ a b ns (xs++[0]) k))(htm:∀k,k<ns.length->af 4300 (fq a b ns xs k))(q:∀t lb vt lh us hs H',ar H H'->H' t=some (.tup [.ref lb,vt,.ref lh])->H' lb=some (.lst us)->ah K H' us ((cK a b ns xs).map N)->Is K H' vt (N (fq a b ns xs ns.length))->H lh=none->H' lh=some (.lst hs)->ah K H' hs ((j9 a b ns xs ns.length).map N)->Q (.ref t) H'):EU K [v,.ref p1,u] H Q E:=⟨_,_,_,rfl,a,b,ns,xs,p1,rfl,h1,h2,h3,ok,hrow,htm,q⟩
theorem ku{a:Rat}{v:V}(h1:Is K H v (R a b))(h2:aE K H p1 (ns.map V.int))(h3:Is K H u (LN xs)\/Is K H u (TN xs))(ok:cX a b ns xs)(hrow:∀k,k<=ns.length->Cm 3500 (aJ a b ns (xs++[0]) k))(htm:∀k,k<ns.length->af 4300 (fq a b ns xs k))(q:Rs K H Q (.tuple [LN (cK a b ns xs),N (fq a b ns xs ns.length),LN (j9 a b ns xs ns.length)])):EU K [v,.ref p1,u] H Q E :=
 zpe h1 h2 h3 ok hrow htm (λt lb vt lh us hs H' S et eb tb it _ eh th=>q (.ref t) H' S (bY.mpr ⟨t,_,rfl,.of et,.cons (bX eb tb) (.cons it (.cons (bX eh th) .nil))⟩))
theorem zDY{row:List Rat}(c:Cm m row)(hj:j<row.length)(hk:k<row.length):af (m+2) (row.getD j 0+(1-row.getD k 0)):=by
 have c0:Cm m (0::row):=c.gf λy hy=>by rcases wL.mp hy with rfl | hy;(exact .inr rfl);exact .inl hy
 exact(c0.rise (GM.getD_mem hk)).dM (wA _ (wR.mpr ⟨_,GM.getD_mem hj,rfl⟩))
theorem ke(T:Txt K mg a):aF P w K mg base aN 4 a.JF a.HU Am (EU K):=by
 refine T.jz.F.ok jJ ?_ ?_;wtm_at "b3"
 refine⟨_,(ai (ay 3 jJ.nd (aB cB (iY (show bS _ (.type "list") (fS K)from jS) rfl T.h0m gT (q1 2)) (dy (ae (aQ (ae au (ae au ag))) ag))))
     (ai (ay 4 jJ.nd (aQ (ae au (ae au ag))))
     (ai (ay 5 jJ.nd (dy ag))
     (ai (d6 w5 rfl (fC rfl T.h0j (ae (c8 K T.h0t (q1 1)) ag)) (cT (i:=6) jJ.nd rfl (Or.inl rfl)) (ai (ay 7 jJ.nd (ak (lM T) hr T.j_ (ae (aQ (ae au (ae au ag))) (ae (de cD (pv 3) (pv 6) (λ_ _=>rfl)) ag))))
     (ai (ay 4 jJ.nd (ak (iA T) hr T.gM (q2 4 7)))
     (ai (ay 8 jJ.nd (ak (Ut T) hr T.AZ (ae (pv 0) (ae (de cD (pv 1) (pv 6) (λ_ _=>rfl)) ag))))
     (ai (jR (i:=9) jJ.nd rfl (Or.inl rfl) rfl (cP ["_law_phase","_law_wait"] [none,some 7]) (eY (pv 3)) (λ_ _ _ _ _=>(cq 0)) (λ_ _ _ _ _=>dF) (λ_ _ _ _ _=>(ak (iA (K:=K) (mg:=mg) (a:=a) T) hr T.gM (q2 0 1))))
     (ai (jR (i:=3) jJ.nd rfl (Or.inl rfl) rfl (cP ["_law_phase","_law_often"] [none,some 8]) (eY (pv 9)) (λ_ _ _ _ _=>(cq 0)) (λ_ _ _ _ _=>dF) (λ_ _ _ _ _=>(ak (iA (K:=K) (mg:=mg) (a:=a) T) hr T.gM (ae (ak (ky (K:=K) (mg:=mg) (a:=a) T) hr T.jy (ae (nG (K:=K) cD (pv 1)) (q1 0))) (ae (nG (K:=K) cD (pv 1)) ag)))))
     (ai (ju (aQ (ae au (ae au ag))) (mW (pv 3) (pv 6) mM))
     (av (jq (iN vH vN vO iJ (pv 5) (ae (de cD (pv 3) (aB gZ (aB cB (pv 6) au) (c8 K T.h0t (q1 1))) (λ_ _=>rfl)) ag)))))))))))
     (av (aA (aQ (ae (kS lq (pv 3) lZ (lH (fo fA au))) (q2 4 5))))))))),?_⟩
 wtm_at "cl";rw[show start Lo [x0,x1,x2]=[some x0,some x1,some x2,none,none,none,none,none,none,none]from rfl];obtain⟨ra,rb,ns,xs,p1,rfl,hr',hn',hp',ok,hrow,htm,q⟩:=h;have hlen:=ok.len;have hfew:=ok.bZ;o_head oz hp' (λl1 H1 us hl1 S1 e1 t1=>?_);have hul:=t1.length;rw[wl]at hul;o_head cU (r:=0) rfl rfl (λv2 H2 S2 i2=>?_);o_head dC ∅ (λl3 H3 hl3 S3 e3=>?_);refine jV (S3 _ _ (S2 _ _ e1)) e3 (WA (gF (by simp;lia))) (λlp H4 hl4 S4 e4=>?_);o_head cU (r:=0) rfl rfl (λv5 H5 S5 i5=>?_);o_head dC ∅ (λlh H6 hlh S6 e6=>?_);have T4:ar H H4:=S1.trans (S2.trans (S3.trans S4));have T6:ar H H6:=T4.trans (S5.trans S6);have t6:ah K H6 (us++[v2]) ((xs++[0]).map N):=Ce (ah.same (S2.trans (S3.trans (S4.trans (S5.trans S6)))) _ _ t1) (i2.by (S3.trans (S4.trans (S5.trans S6))));have e46:=S6 _ _ (S5 _ _ e4);have hD:=fm (T4.trans S5) hlh;have neph:lp≠lh:=λz=>by subst z;rw[S5 _ _ e4]at hlh;cases hlh
 have i56:=i5.by S6;clear S1 S2 S3 S4 S5 S6 e1 e3 e4 t1 i2 i5 hl1 hl3 hl4 hlh T4;o_head gG (T6.seq hn') ?_;rw[wl];refine iX (n:=(ns.length:Int)) () () (λk σ H'=>∃lp vt o6 o7 o8 o9 us hs,σ = [some x0,some (.ref p1),some x2,some (.ref lp),some vt,some (.ref lh),o6,o7,o8,o9]/\ar H H'/\lp≠lh/\H' lp=some (.lst us)/\ah K H' us ((aJ ra rb ns (xs++[0]) k).map N)/\Is K H' vt (N (fq ra rb ns xs k))/\H' lh=some (.lst hs)/\ah K H' hs ((j9 ra rb ns xs k).map N)) ⟨lp,v5,_,_,_,_,_,[],rfl,T6,neph,e46,t6,i56,e6,.nil⟩ ?_ ?_
 . rintro k σ H7 hk ⟨lp,vt,o6,o7,o8,o9,us,hs,rfl,S7,neph,e7,t7,it7,h7,th7⟩
   have hk':k<ns.length:=by simpa using hk
   have b1:=htm k hk';have hmk:=hrow k ();have hrl:(aJ ra rb ns (xs++[0]) k).length=ns.length:=by rw[dm,wN];simp;lia
   have e8:aJ ra rb ns (xs++[0]) (k+1)=dP ra rb (ns.getD k 0).toNat (aJ ra rb ns (xs++[0]) k) k:=rfl;have et:fq ra rb ns xs (k+1)=fq ra rb ns xs k+(1-(aJ ra rb ns (xs++[0]) k).getD k 0):=rfl;have eh:=zx1 ra rb ns xs k;have bb:∀j,af 3500 ((aJ ra rb ns (xs++[0]) k).getD j 0):=λj=>hmk.get j
   have hnk:=ok.n0 (ns.getD k 0) (by rw[wb,wc hk'];exact Wi _);generalize aJ ra rb ns (xs++[0]) k=row at *;have bw:af 3502 (1-row.getD k 0):=(af.one.sub (bb k)).mono ⋯;have bk:=bb k;o_head cU (r:=1) rfl rfl (λv8 H8 S8 i8=>?_);o_head gL (bX (S8 _ _ e7) (ah.same S8 _ _ t7)) () () (λv9 i9=>?_);rw[wx]at i9;have it8:=it7.by S8;o_head lE i8 i9 af.one bk ⋯ (λv10 H10 S10 i10=>?_);have it10:=it8.by S10;k_few;rename_i v11 H11 S11 i11;have T11:=S8.trans (S10.trans S11);refine zA9 (T11.seq (S7.seq hn')) () () ?_;rw[wx];o_head Se ((hr'.by S7).by T11) ok.ba ok.bb hnk.1 hnk.2 (λv12 H12 S12 i12=>?_);have T12:=T11.trans S12;have bf:af 700 (ra^(ns.getD k 0).toNat):=(ok.ba.pow _).mono ();have bg:af 1500 (aC ra rb (ns.getD k 0).toNat):=(ok.ba.aC ok.bb _).mono ();have i1012:=i10.by (S11.trans S12);have i1112:=i11.by S12;have e12:=T12 _ _ e7;have t12:ah K H12 us (row.map N):=ah.same T12 _ _ t7;have h12:=T12 _ _ h7;have th12:ah K H12 hs ((j9 ra rb ns xs k).map N):=ah.same T12 _ _ th7;have X12:=S7.trans T12;have hul:us.length=row.length:=by rw[t12.length,wl]
   rw[<- et]at i1112;clear S8 S10 S11 S12 T11 T12 i8 i9 i10 i11 e7 t7 h7 th7 it7 it8;o_head kB (.of e12) (o0:=none) (tl:=[some v10]) rfl (λj v H=>Is K H v (N ((row.map λx=>x+(1-row.getD k 0)).getD j 0))) ?_ ?_
   . rintro D j x ys o H1 hx' inv
     obtain⟨hj,ix⟩:=cg t12 hx';have ix1:=ix.by inv.same;have jv:=i1012.by inv.same;have bx:=bb j;k_few;rename_i v4 H4 S4 iv4;exact dQ inv () eG ⟨_,rfl⟩ S4 (by rw[nS hj];exact iv4)
   . rintro D ys H13 hn13 S13 e13 hl13 hr13
     have hyl:ys.length=row.length:=by lia
     have t13:ah K H13 ys ((row.map λx=>x+(1-row.getD k 0)).map N):=eH (by rw[wl];exact hyl) hr13;have hn0:H12 D=none:=hn13;o_head kB (.of e13) (o0:=none) (tl:=[some v12]) rfl (λj v H=>Is K H v (N ((row.map λx=>push ra rb (ns.getD k 0).toNat (x+(1-row.getD k 0))).getD j 0))) ?_ ?_
     . rintro D2 j x zs o H1 hx' inv
       obtain⟨hj,ix⟩:=cg t13 hx';rw[wl]at hj;rw[nS hj]at ix;have ix1:=ix.by inv.same;have jv:=(i12.by S13).by inv.same;have bx:af 3502 (row.getD j 0+(1-row.getD k 0)):=zDY hmk hj ();k_few;rename_i v4 H4 S4 iv4 v5 iv5 v6 H6 S6 iv6;exact dQ inv () eG ⟨_,rfl⟩ (S4.trans S6) (by rw[nS hj,gz];exact iv6)
     . rintro D2 zs H14 hn14 S14 e14 hl14 hr14
       have hzl:zs.length=row.length:=by lia
       have T14:=S13.trans S14;o_head cU (r:=0) rfl rfl (λv15 H15 S15 i15=>?_);o_head oy (j:=k) (S15 _ _ e14) (by unfold gB;rw[if_pos (),if_pos ()];simp) (λH16 E16 e16=>?_);have hD2:H12 D2=none:=fm S13 hn14;have ne2:lh≠D2:=λz=>by subst z;rw[h12]at hD2;cases hD2
       have hDH:=fm X12 hD2;have T15:=T14.trans S15;have h16:=E16 lh _ ne2 (T15 _ _ h12);have K16:a_ H15 H16:=E16.keep (S15 _ _ e14)
       have t16:ah K H16 (zs.set k v15) ((dP ra rb (ns.getD k 0).toNat row k).map N):=by
         refine eH (by rw[Wt,iQ];exact hzl) λj v hv=>?_
         rw[WN]at hv
         by_cases hij:k=j
         . subst hij
           rw[if_pos rfl,if_pos ()]at hv;cases hv;rw[gC _ _ _ _ _ _ (),if_pos rfl];exact i15.df K16
         . rw[if_neg hij]at hv
           have hj:j<row.length:=by
             rcases wG j zs.length with z | z
             . lia
             . rw[wI z]at hv;cases hv
           have hz:=hr14 j v hv;rw[nS hj]at hz;rw[gC _ _ _ _ _ _ hj,if_neg (WB hij)];exact(hz.by S15).df K16
       rw[<- e8]at t16;have th16:ah K H16 hs ((j9 ra rb ns xs k).map N):=ah.keep (T15.keep.trans K16) _ _ (dZ _) th12;have i1116:=(i1112.by T15).df K16;have X16:ar H H16:=(X12.trans T15).grow hDH E16;have hrl2:(aJ ra rb ns (xs++[0]) (k+1)).length=ns.length:=by rw[dm,wN];simp;lia
       have hhl:hs.length=k:=by
         have:=th16.length;rw[wl]at this;unfold j9 at this
         simpa using this
       clear hr14 e14 hn14 S14 S15 T14 T15 S13 e13 t13 hr13 hn13 i12 i1012 i1112 e12 t12 h12 th12 i15;o_head h_ (aE.of h16) ?_;o_head gG (X16.seq hn') ?_;rw[wl];have hn0':(0:Int)<(ns.length:Int):=by lia
       k_few;have em:((k:Int)+1) % (ns.length:Int)=(((k+1) % ns.length:Nat):Int):=by push_cast;rfl
       have hmd:(k+1) % ns.length<ns.length:=X5 _ ();rw[em];refine gL (bX e16 t16) () () (λv17 i17=>?_);rw[wx]at i17;o_head iD h16 () (λH18 E18 e18=>?_);have K18:=E18.keep h16;o_head ⟨D2,_,_,_,_,_,_,hs++[v17],rfl,X16.grow hD E18,WB ne2,E18 D2 _ (WB ne2) e16,ah.keep K18 _ _ (dZ _) t16,i1116.df K18,e18,?_⟩;rw[eh];exact Ce (ah.keep K18 _ _ (dZ _) th16) (i17.df K18)
 . rintro σ H7 ⟨lp,vt,o6,o7,o8,o9,us,hs,rfl,S7,neph,e7,t7,it7,h7,th7⟩
   o_head mH (bX e7 t7) (λl20 H20 ys20 n20 S20 e20 t20=>?_);rw[ny,<- qQ]at t20;o_head ox ∅ (λt21 H21 n21 S21 e21=>?_);exact q t21 l20 vt lh ys20 hs H21 (S7.trans (S20.trans S21)) e21 (S21 _ _ e20) (ah.same S21 _ _ t20) (it7.by (S20.trans S21)) hD ((S20.trans S21) _ _ h7) (ah.same (S20.trans S21) _ _ th7)
def Tj(K:wa):Sp:=λvs H Q _=>∃x0 x1,vs=[x0,x1] /\ ∃(a:Rat)(n:Int)(k:Nat),x1=.int n/\Is K H x0 (N a)/\af k a/\k<=4000/\0<=n/\n<=100/\k*n.toNat<=4000/\Rs K H Q (N (a^n.toNat))
theorem sh{a:Rat}{n:Int}{v:V}(h:Is K H v (N a))(b:af k a)(hk:k<=4000)(n0:0<=n)(n1:n<=100)(hkn:k*n.toNat<=4000)(q:Rs K H Q (N (a^n.toNat))):Tj K [v,.int n] H Q E:=⟨_,_,rfl,a,n,k,rfl,h,b,hk,n0,n1,hkn,q⟩
theorem CW{k:Nat}{x:Int}(h:Bd k x):∀n:Nat,Bd (k*n+1) (x^n)
 | 0=>⟨by simp⟩
 | n+1=>by
  rw[VI];exact((CW h n).mul h).mono (by rw[Qs];lia)
theorem pM(T:Txt K mg a):aF P w K mg base aN 1 a.Jl a.HL yT (Tj K):=by
 refine T.ng.F.ok ou ?_ ?_;wtm_at "b2"
 refine⟨_,(ai (ay 2 ou.nd au)
     (ai (ay 3 ou.nd au)
     (ai (d6 w5 rfl (fC rfl T.h0j (q1 1)) (cT (i:=4) ou.nd rfl (Or.inl rfl)) (ai (ay 2 ou.nd (aB cE (pv 2) (qi 0)))
     (av (ay 3 ou.nd (aB cE (pv 3) (qi 0))))))
     (av (aA (aQ (q2 2 3))))))),?_⟩
 wtm_at "cl";rw[show start Rr [x0,x1]=[some x0,some x1,none,none,none]from rfl];obtain⟨ra,n,kk,rfl,hx,ba,hk4,n0,n1,hkn,q⟩:=h;have bt:Bd 4000 ra.num:=ba.t.mono hk4;have bd:Bd 4000 (ra.den:Int):=ba.b.mono hk4;o_head iX (n:=n) () () (λi σ H'=>∃o,σ = [some x0,some (.int n),some (.int (ra.num^i)),some (.int ((ra.den:Int)^i)),o]/\H'=H) ⟨none,by rw[Qd,Qd],rfl⟩ ?_ ?_
 . rintro i σ H' hi ⟨o,rfl,rfl⟩
   have hki:kk*i<=kk*n.toNat:=Qi _ ();have b1:Bd 4001 (ra.num^i):=(CW ba.t i).mono ();have b2:Bd 4001 ((ra.den:Int)^i):=(CW ba.b i).mono ();have e1:ra.num^(i+1)=ra.num^i*ra.num:=VI ..;have e2:(ra.den:Int)^(i+1)=(ra.den:Int)^i*(ra.den:Int):=VI ..;generalize ra.num^i=t at *;generalize (ra.den:Int)^i=u at *;k_few;exact⟨_,by rw[e1,e2],rfl⟩
 . rintro σ H' ⟨o,rfl,rfl⟩
   k_few;exact cU (r:=ra^n.toNat) (Rat.num_pow ..).symm (by rw[Rat.den_pow];push_cast;rfl) q
def PZ(K:wa):Sp:=λvs H Q _=>∃x0 x1,vs=[x0,x1] /\ ∃(a b:Rat)(ns:List Int)(p1:we),x1=.ref p1/\Is K H x0 (R a b)/\aE K H p1 (ns.map V.int)/\aR a b/\cJ ns/\a≠1 /\ ∀l H' us,H l=none->ar H H'->H' l=some (.lst us)->ah K H' us ((bQ a b ns).map N)->Q (.ref l) H'
theorem y7{a:Rat}{v:V}(h1:Is K H v (R a b))(h2:aE K H p1 (ns.map V.int))(ok:aR a b)(sz:cJ ns)(ha:a≠1)(q:∀l H' us,H l=none->ar H H'->H' l=some (.lst us)->ah K H' us ((bQ a b ns).map N)->Q (.ref l) H'):PZ K [v,.ref p1] H Q E:=⟨_,_,rfl,a,b,ns,p1,rfl,h1,h2,ok,sz,ha,q⟩
theorem kJ{a:Rat}(h:aR a b)(k:cJ ns)(hl:ns.length=xs.length+1)(c:Cm m xs)(hm:m<=3290):cX a b ns xs/\(∀j,j<=ns.length->Cm 3500 (aJ a b ns (xs++[0]) j)) /\ ∀j,j<ns.length->af 4300 (fq a b ns xs j):=by
 have h8:=k.bZ;have hu:=k.upTo
 have ht:∀j,fq a b ns xs j=dA a b ns (xs++[0]) j:=λj=>by
  induction j with
  | zero=>rfl
  | succ j ih=>rw[fq,dA,ih]
 have hc:∀j,j<=ns.length->Cm 3500 (dA a b ns (xs++[0]) j::aJ a b ns (xs++[0]) j):=λj hj=>by
  have h1:=GB (ns:=ns) hj (wp _);exact(c.snoc.tm h.ba h.bb (ns:=ns) j hj).mono ()
 refine⟨⟨h.ba,h.bb,λn hn=>by have:=k.each n hn;lia,hl,by lia,⟨m,c,by lia⟩⟩,λj hj=>jk (hc j hj) λy hy=>wA _ hy,λj hj=>?_⟩;rw[ht];exact((hc j ()).dM (wE ..)).mono ⋯
theorem Eu{l:we}{v:V}{k:Int}(e:H l=some (.lst [v]))(h0:0<=k)(h1:k<=1000)(q:∀p H',H p=none->ar H H'->H' p=some (.lst (vf k.toNat v))->Q (.ref p) H'):nI (.ref l) (.int k) H Q :=
 zCW e () h1 (by rw[vV];lia) (λp H' n s e'=>q p H' n s (by rw[e',List.flatten_replicate_singleton]))
theorem Yk{v:V}(h:Is K H v (N 0))(n:Nat):ah K H (vf n v) ((cH n).map N):=by
 unfold cH;rw[Xe];exact ah.KO h n
theorem Aq(T:Txt K mg a):aF P w K mg base aN 5 a.Ju a.HP yf (PZ K):=by
 refine T.oW.F.ok Fx ?_ ?_;wtm_at "b2"
 refine⟨_,(ai (ay 2 Fx.nd (ak (pM T) hr T.ng (ae (qi 0) (ae (c7 (show bS _ (.builtin "sum") (sr K)from Df rfl) rfl T.h0u zq (q1 1)) ag))))
     (ai (ay 3 Fx.nd (eA (ak (ke T) hr T.jz (ae (pv 0) (ae (pv 1) (ae (aB (show bG _ (WF .Mult) nI from Gk) (dy (ae (aQ (ae au (ae au ag))) ag)) (aB hZ (c8 K T.h0t (q1 1)) au)) ag))))))
     (av (aA (dH rfl (cP ["_law_shift","_law_factor"] [none,some 2]) (eY (pv 3)) (λ_ _ _ _ _=>(cq 0)) (λ_ _ _ _ _=>dF) (λ_ _ _ _ _=>by exact(ak (Ma (K:=K) (mg:=mg) (a:=a) T) hr T.A5 (ae (pv 0) (ae (ak (lM (K:=K) (mg:=mg) (a:=a) T) hr T.j_ (ae (show PE _ _ (k9 K _)from aQ (ae au (ae au ag))) (q1 1))) ag))))))))),?_⟩
 wtm_at "cl";rw[show start Pw [x0,x1]=[some x0,some x1,none,none]from rfl];obtain⟨ra,rb,ns,p1,rfl,hr',hn',ok,sz,ha,q⟩:=h;have h8:=sz.bZ;have h1:=sz.some;have hp:=sz.pos;have hF:ra^ns.sum.toNat≠1:=λe=>ha ((kn ok ()).mp e)
 have bF:af 49 (ra^ns.sum.toNat):=(ie ok _).mono ();have hne:1-ra^ns.sum.toNat≠0:=λe=>hF (by grind)
 have rc:=kJ ok sz (xs:=cH (ns.length-1)) (by rw[pQ];lia) (om _) ⋯;k_few;rename_i va ia;refine GC hn' ?_;o_head sh ia (yN ok) ⋯ () () () (λv1 H1 S1 i1=>?_);o_head cU (r:=0) rfl rfl (λv2 H2 S2 i2=>?_);o_head dC ∅ (λl3 H3 n3 S3 e3=>?_);o_head gG ((S1.trans (S2.trans S3)).seq hn') ?_;rw[wl];o_head Eu e3 () () (λl4 H4 n4 S4 e4=>?_);have T4:=S1.trans (S2.trans (S3.trans S4));have hk:((ns.length:Int)-1).toNat=ns.length-1:=by lia
 rw[hk]at e4;have i4:Is K H4 (.ref l4) (LN (cH (ns.length-1))):=bX e4 (Yk (i2.by (S3.trans S4)) _);o_head ku (hr'.by T4) (T4.seq hn') (.inl i4) rc.1 rc.2.1 rc.2.2 (λv5 H5 S5 i5=>?_);o_head aD (j:=0) i5 rfl (λv6 i6=>?_);have T5:=T4.trans S5;have i15:=i1.by (S2.trans (S3.trans (S4.trans S5)));obtain⟨l6,us,rfl,hs6,t6⟩:=ck.mp i6;have hul:=t6.length;rw[wl]at hul;have hsl:(cf ra rb ns).length=ns.length-1:=kT h1;have hul:us.length=ns.length-1:=by rw[hul];exact hsl
 have hstl:(bQ ra rb ns).length=ns.length-1:=kG h1;o_head kB hs6 (o0:=none) (tl:=[some v1]) rfl (λj y H'=>Is K H' y (N ((bQ ra rb ns).getD j 0))) ?_ ?_
 . intro D j x ys o H7 hx inv
   obtain⟨hj,ix⟩:=cg (xs:=cf ra rb ns) t6 hx;have S7:=inv.same;have ix7:=ix.by S7;o_head cU (r:=1) rfl rfl (λv8 H8 S8 i8=>?_);o_head lE i8 (i15.by (S7.trans S8)) af.one bF ⋯ (λv9 H9 S9 i9=>?_);o_head N8 (ix7.by (S8.trans S9)) i9 (sG ok sz j) (af.one.sub bF) ⋯ hne (λv10 H10 S10 i10=>?_);have e:(bQ ra rb ns).getD j 0=(cf ra rb ns).getD j 0 / (1-ra^ns.sum.toNat):=N4 ();rw[<- e]at i10;exact dQ inv () eG ⟨_,rfl⟩ (S8.trans (S9.trans S10)) i10
 . intro D ys H7 hn S7 hD hl hr
   exact q D H7 ys (fm T5 hn) (T5.trans S7) hD (eH (by rw[hl,hul,hstl]) hr)
def Nn(K:wa):Sp:=λvs H Q _=>∃x0 x1 x2 x3,vs=[x0,x1,x2,x3] /\ ∃(a b:Rat)(ns:List Int)(xs:List Rat)(k:Int)(p1:we),x3=.int k/\x1=.ref p1/\Is K H x0 (R a b)/\aE K H p1 (ns.map V.int)/\Is K H x2 (LN xs)/\ns.length=xs.length+1/\0<=k/\dG a b ns k.toNat/\(∀i,af 2500 (xs.getD i 0)) /\ ∀l H' us,H l=none->ar H H'->H' l=some (.lst us)->ah K H' us ((bL a b ns k.toNat xs).map N)->Q (.ref l) H'
theorem EM{a:Rat}{k:Int}{v:V}(h1:Is K H v (R a b))(h2:aE K H p1 (ns.map V.int))(h3:Is K H u (LN xs))(hl:ns.length=xs.length+1)(k0:0<=k)(ok:dG a b ns k.toNat)(bx:∀i,af 2500 (xs.getD i 0))(q:∀l H' us,H l=none->ar H H'->H' l=some (.lst us)->ah K H' us ((bL a b ns k.toNat xs).map N)->Q (.ref l) H'):Nn K [v,.ref p1,u,.int k] H Q E:=⟨_,_,_,_,rfl,a,b,ns,xs,k,p1,rfl,rfl,h1,h2,h3,hl,k0,ok,bx,q⟩
theorem zxe{a:Rat}(ok:aR a b)(sz:cJ ns)(hF:a^ns.sum.toNat≠1)(i:Nat):af 268 ((bQ a b ns).getD i 0):=(AD ok.ba ok.bb sz.bZ sz.upTo (by have:=sz.sum;lia) hF).get i
theorem BV(T:Txt K mg a):aF P w K mg base aN 6 a.Jb a.Hs zN (Nn K):=by
 refine T.sI.F.ok nu ?_ ?_;wtm_at "b4"
 refine⟨_,(ai (aV (d5 K hu (qi 0) (aQ (ae au (ae au ag)))) (ai (ay 4 nu.nd (eA (ak (ke T) hr T.jz (ae (pv 0) (ae (pv 1) (ae (aB (show bG _ (WF .Mult) nI from Gk) (dy (ae (aQ (ae au (ae au ag))) ag)) (aB hZ (c8 K T.h0t (q1 1)) au)) ag))))))
     (av (aA (dH rfl (cP ["_law_place","_law_shift","_law_many"] [none,none,some 3]) (FZ rfl T.h0r (q2 2 4)) (λ_ _ _ _ _=>by exact(show PG _ _ (lO K 2 _)from i_ (n:=2) rfl (dU (cq 0) (dU (cq 1) jm)))) (λ_ _ _ _ _=>dF) (λ_ _ _ _ _=>by exact(ak (iA (K:=K) (mg:=mg) (a:=a) T) hr T.gM (ae (pv 0) (ae (show PE _ _ (k9 K _)from aQ (ae (aB cE (pv 2) (nG (K:=K) cD (pv 1))) (ae (nG (K:=K) cD (pv 1)) ag))) ag)))))))) aX)
     (ai (ay 5 nu.nd (ak (pM T) hr T.ng (ae (ak (pM T) hr T.ng (ae (qi 0) (ae (c7 (show bS _ (.builtin "sum") (sr K)from Df rfl) rfl T.h0u zq (q1 1)) ag))) (q1 3))))
     (ai (ay 6 nu.nd (dy ag))
     (ai (d6 w5 rfl (FZ rfl T.h0r (ae (pv 2) (ae (ak (Aq T) hr T.oW (q2 0 1)) ag))) (i_ (n:=2) rfl (dU (cT (i:=7) nu.nd rfl (Or.inl rfl)) (dU (cT (i:=8) nu.nd rfl (Or.inl rfl)) jm))) (av (jq (iN vH vN vO iJ (pv 6) (ae (ak (iA T) hr T.gM (ae (pv 8) (ae (ak (ky T) hr T.jy (ae (pv 5) (ae (ak (lM T) hr T.j_ (q2 7 8)) ag))) ag))) ag)))))
     (av (aA (pv 6))))))),?_⟩
 wtm_at "cl";rw[show start Mk [x0,x1,x2,x3]=[some x0,some x1,some x2,some x3,none,none,none,none,none]from rfl];obtain⟨ra,rb,ns,xs,k,p1,rfl,rfl,hr',hn',hp',hl,k0,ok,bx,q⟩:=h;have h8:=ok.sz.bZ;have h1:=ok.sz.some;have hps:=ok.sz.pos;have hk60:=ok.bZ;have hkk:=ok.k;obtain⟨k,rfl⟩:∃j:Nat,k=(j:Int):=⟨k.toNat,by lia⟩;rw[wx]at q ok hk60 hkk;obtain⟨lp,ps,rfl,hsp0,tp0⟩:=ck.mp hp';have hpl:=tp0.length;rw[wl]at hpl;have hsl:(cf ra rb ns).length=ns.length-1:=kT h1;have bs:=sG ok.ok ok.sz;k_few;rename_i va ia;refine cU (r:=1) rfl rfl (λv1 H1 S1 i1=>?_);refine tX (ia.by S1) i1 ?_;k_few
 . rename_i ha
   have hF:ra^ns.sum.toNat=1:=by rw[ha,GM.one_pow']
   have rc:=kJ ok.ok ok.sz (xs:=cH (ns.length-1)) (by rw[pQ];lia) (om _) ⋯;refine cU (r:=0) rfl rfl (λv2 H2 S2 i2=>?_);o_head dC ∅ (λl3 H3 n3 S3 e3=>?_);o_head gG ((S1.trans (S2.trans S3)).seq hn') ?_;rw[wl];o_head Eu e3 () () (λl4 H4 n4 S4 e4=>?_);have T4:=S1.trans (S2.trans (S3.trans S4));have hk1:((ns.length:Int)-1).toNat=ns.length-1:=by lia
   rw[hk1]at e4;have i4:Is K H4 (.ref l4) (LN (cH (ns.length-1))):=bX e4 (Yk (i2.by (S3.trans S4)) _);o_head ku (hr'.by T4) (T4.seq hn') (.inl i4) rc.1 rc.2.1 rc.2.2 (λv5 H5 S5 i5=>?_);o_head aD (j:=0) i5 rfl (λv6 i6=>?_);have T5:=T4.trans S5;obtain⟨l6,us,rfl,hs6,t6⟩:=ck.mp i6;have hul:=t6.length;rw[wl]at hul;have hul:us.length=ns.length-1:=by rw[hul];exact hsl
   have hsp:=T5.seq hsp0;have tp:ah K H5 ps (xs.map N):=ah.same T5 _ _ tp0;o_head Og (t:=false) (u:=false) hsp hs6 () (o0:=none) (o0':=none) (tl:=[some (.int (k:Int))]) rfl (λj y H'=>Is K H' y (N ((bL ra rb ns k xs).getD j 0))) eG ?_ ?_
   . intro D j y z zs o1 o2 H7 c hy hz inv hc
     obtain⟨hj,iy⟩:=cg tp hy;obtain⟨_,iz⟩:=cg (xs:=cf ra rb ns) t6 hz;have S7:=inv.2.2.1;have iy7:=iy.by S7;have iz7:=iz.by S7;have h64:(2:Nat)^6=64:=by decide
     have bk:Bd 6 (k:Int):=⟨by rw[h64];lia⟩;have bj:=bs j;have bkt:Bd 191 ((k:Int)*((cf ra rb ns).getD j 0).num):=(bk.mul bj.t).mono ⋯;refine lA (.of hc) rfl ?_;o_head c6 (ds:=[.int ((k:Int)*((cf ra rb ns).getD j 0).num),.int (((cf ra rb ns).getD j 0).den:Int)]) ∅ (.cons (cc.mpr rfl) (.cons (cc.mpr rfl) .nil)) (λv8 H8 S8 i8=>?_);o_head N7 (iy7.by S8) i8 (den_pos _) ((bx j).mono ⋯) (bkt.mono ⋯) (bj.b.mono ⋯) (λv9 H9 S9 i9=>?_);have e:(bL ra rb ns k xs).getD j 0=xs.getD j 0+wu ((k:Int)*((cf ra rb ns).getD j 0).num) (((cf ra rb ns).getD j 0).den:Int):=by rw[gk hj,hF,ZE]
     rw[<- e]at i9;exact rZ inv () eG ⟨_,_,rfl⟩ (S8.trans S9) i9
   . intro D zs H7 hn S7 hD hl7 hr
     exact q D H7 zs (fm T5 hn) (T5.trans S7) hD (eH (by rw[hl7,hpl,cA]) hr)
 . rename_i ha vb ib
   have hF:ra^ns.sum.toNat≠1:=λe=>ha ((kn ok.ok ()).mp e)
   have br:=zxe ok.ok ok.sz hF;have hstl:(bQ ra rb ns).length=ns.length-1:=kG h1;refine GC (S1.seq hn') ?_;o_head sh ib (yN ok.ok) ⋯ () () () (λv2 H2 S2 i2=>?_);k_few;have hkn:(6*ns.sum.toNat+1)*k<=1600:=Wf (vU _ ()) hkk;refine sh i2 (ie ok.ok _) () () () (by rw[wx];lia) (λv3 H3 S3 i3=>?_);rw[wx]at i3;have bP:af 1601 ((ra^ns.sum.toNat)^k):=ok.pow (wp _);o_head dC ∅ (λlf H4 n4 S4 e4=>?_);have T4:=S1.trans (S2.trans (S3.trans S4));o_head y7 (hr'.by T4) (T4.seq hn') ok.ok ok.sz ha (λl5 H5 us n5 S5 e5 t5=>?_);have T5:=T4.trans S5;have ef5:=S5 _ _ e4;have i35:=i3.by (S4.trans S5);have hfH:H lf=none:=fm (S1.trans (S2.trans S3)) n4;have n5f:l5≠lf:=λz=>by subst z;rw[e4]at n5;cases n5
   have hsp:=T5.seq hsp0;have tp:ah K H5 ps (xs.map N):=ah.same T5 _ _ tp0;have hul:=t5.length;rw[wl]at hul;generalize hpow:(ra^ns.sum.toNat)^k=Fk at *;refine Zj (t:=false) (u:=false) hsp (aE.of e5) () (λi σ H'=>∃o7 o8 ws,σ = [some x0,some (.ref p1),some (.ref lp),some (.int (k:Int)),none,some v3,some (.ref lf),o7,o8]/\Exc lf H5 H'/\H' lf=some (.lst ws)/\ah K H' ws (((bL ra rb ns k xs).take i).map N)) ⟨_,_,[],rfl,Exc.refl _ _,ef5,.nil⟩ (λi σ H' _ ⟨_,_,_,_,E,_⟩=>⟨(T5.grow hfH E).seq hsp0,aE.of (E _ _ n5f e5)⟩) ?_ ?_
   . rintro i y z σ H6 c H7 hy hz ⟨o7,o8,ws,rfl,E6,e6,t6⟩ hc S7 e7
     obtain⟨hj,iy⟩:=cg tp hy;obtain⟨hj2,iz⟩:=cg t5 hz;have K7:=(E6.keep ef5).trans S7.keep;have iy7:=iy.df K7;have iz7:=iz.df K7;have i37:=i35.df K7;have hwl:=t6.length;rw[wl,Wo,cA]at hwl;have bri:=br i;have bxi:=bx i;have e:(bL ra rb ns k xs).getD i 0=(bQ ra rb ns).getD i 0+Fk*(xs.getD i 0-(bQ ra rb ns).getD i 0):=by rw[gk hj,UO (zX hF hj2),hpow]
     have hlj:i<(bL ra rb ns k xs).length:=by rw[cA];exact hj
     have b8:af 2769 (xs.getD i 0-(bQ ra rb ns).getD i 0):=(bxi.sub bri).mono ⋯;have bPx:af 4370 (Fk*(xs.getD i 0-(bQ ra rb ns).getD i 0)):=(bP.mul b8).mono ⋯;refine lA (.of e7) rfl ?_;o_head h_ (aE.of (S7 _ _ e6)) ?_;o_head lE iy7 iz7 bxi bri ⋯ (λv8 H8 S8 i8=>?_);have i38:=i37.by S8;have iz8:=iz7.by S8;k_few;rename_i v9 H9 S9 i9 v10 H10 S10 i10;rw[<- e]at i10;have T10:=S7.trans (S8.trans (S9.trans S10));have e10:=T10 _ _ e6;refine iD e10 () (λH11 E11 e11=>?_);have K11:=E11.keep e10;refine⟨_,_,_,rfl,E6.trans (T10.exc.trans E11),e11,?_⟩;rw[fO hlj,wX];exact(ah.keep (T10.keep.trans K11) _ _ (dZ _) t6).append (.cons (i10.df K11) .nil)
   . rintro σ H6 ⟨o7,o8,ws,rfl,E6,e6,t6⟩
     rw[hpl,WQ (by rw[cA];lia)]at t6;k_few;exact q lf H6 ws hfH (T5.grow hfH E6) e6 t6
theorem MS(bs:List Bool):(bs.map V.bl).all jH=true:=by
 rw[Wc];intro y hy;obtain⟨b,_,rfl⟩:=wR.mp hy
 rfl
theorem Ry(c:Bool)(bs:List Bool):nO (.bl c) (bs.map V.bl)=decide (c∈bs):=by
 unfold nO;rw[vi,qW,decide_eq_true_eq]
 constructor
 ·rintro ⟨y,hy,e⟩
  obtain⟨b,hb,rfl⟩:=wR.mp hy;have:b=c:=by revert e;cases b<;>cases c<;>decide
  rw[<- this];exact hb
 ·intro h
  exact⟨.bl c,wR.mpr ⟨c,h,rfl⟩,by cases c<;>decide⟩
theorem Ru{bs:List Bool}{c:Bool}(h:aE K H p (bs.map V.bl))(q:Q (.bl (!decide (c∈bs))) H):fu K true (.bl c) (.ref p) H Q:=⟨p,_,rfl,.inl h,rfl,MS bs,by rw[Ry];exact q⟩
theorem zrL(h:∀i,i<xs.length+1->(cC xs).getD (i+1) 0<(cC xs).getD i 0):(kY xs).all id=true:=by
 rw[Wc];intro b hb;obtain⟨i,hi,rfl⟩:=wR.mp hb;exact decide_eq_true (h i (wF.mp hi))
theorem zuu(hi:i<xs.length+1)(h:¬ (cC xs).getD (i+1) 0<(cC xs).getD i 0):(kY xs).all id=false:=by
 rw[Xu];intro e;have:=Wc.mp e _ (wR.mpr ⟨i,wF.mpr hi,rfl⟩);exact h (of_decide_eq_true this)
theorem ztL(ts:List Rat):(!decide (false∈ts.map λx=>decide (x<1)))=(kF ts).all id:=by
 rw[vi,WO,decide_eq_false_iff_not,Wc]
 constructor
 ·intro h b hb
  cases b with
  | true=>rfl
  | false=>exact absurd hb h
 ·intro h hb
  have:=h _ hb;cases this
def Tf(K:wa):Sp:=λvs H Q _=>∃x0 x1 x2,vs=[x0,x1,x2] /\ ∃(a b:Rat)(ns:List Int)(xs:List Rat)(p1:we),x1=.ref p1/\Is K H x0 (R a b)/\aE K H p1 (ns.map V.int)/\(Is K H x2 (LN xs)\/Is K H x2 (TN xs))/\cX a b ns xs/\(∀k,k<=ns.length->Cm 3500 (aJ a b ns (xs++[0]) k))/\(∀k,k<ns.length->af 4300 (fq a b ns xs k))/\Rq H Q (.bl (dJ a b ns xs))
theorem Cj{a:Rat}{v:V}(h1:Is K H v (R a b))(h2:aE K H p1 (ns.map V.int))(h3:Is K H u (LN xs)\/Is K H u (TN xs))(ok:aR a b)(sz:cJ ns)(hl:ns.length=xs.length+1)(c:Cm m xs)(hm:m<=3290)(q:Rq H Q (.bl (dJ a b ns xs))):Tf K [v,.ref p1,u] H Q E :=
 have rc:=kJ ok sz hl c hm
 ⟨_,_,_,rfl,a,b,ns,xs,p1,rfl,h1,h2,h3,rc.1,rc.2.1,rc.2.2,q⟩
theorem Ck(T:Txt K mg a):aF P w K mg base aN 5 a.JW a.Iz tS (Tf K):=by
 refine T.sN.F.ok Bm ?_ ?_;wtm_at "b3"
 refine⟨_,(ai (ay 3 Bm.nd (aB cB (aB cB (dy (ae (aQ (ae au (ae au ag))) ag)) (iY (show bS _ (.type "list") (fS K)from jS) rfl T.h0m gT (q1 2))) (dy (ae (aQ (ae au (ae au ag))) ag))))
     (ai (d6 w5 rfl (fC rfl T.h0j (ae (aB hZ (c8 K T.h0t (q1 3)) au) ag)) (cT (i:=4) Bm.nd rfl (Or.inl rfl)) (av (aV (cv (b_ (ak (rm T) hr T.nh (ae (de cD (pv 3) (aB cB (pv 4) au) (λ_ _=>rfl)) (ae (de cD (pv 3) (pv 4) (λ_ _=>rfl)) ag))))) (av (aA dX)) aX)))
     (av (aA (gP (show bG _ (vP .NotIn) (fu K true)from sv) dX (dH rfl (cP ["_law_one"] [none]) (eY (eA (ak (ke T) hr T.jz (q3 0 1 2)))) (λ_ _ _ _ _=>(cq 0)) (λ_ _ _ _ _=>dF) (λ_ _ _ _ _=>by exact(ak (rm (K:=K) (mg:=mg) (a:=a) T) hr T.nh (ae (pv 0) (ae (show PE _ _ (k9 K _)from aQ (ae au (ae au ag))) ag))))) (by with_unfolding_all rfl)))))),?_⟩
 wtm_at "cl";rw[show start U_ [x0,x1,x2]=[some x0,some x1,some x2,none,none]from rfl];obtain⟨ra,rb,ns,xs,p1,rfl,hr',hn',hp',ok,hrow,htm,q⟩:=h;have hlen:=ok.len;have hfew:=ok.bZ;obtain⟨m,hcm,hm⟩:=ok.cm;o_head cU (r:=1) rfl rfl (λv1 H1 S1 i1=>?_);o_head dC ∅ (λl2 H2 n2 S2 e2=>?_);k_few
 have hp2:Is K H2 x2 (.list (xs.map N))\/Is K H2 x2 (.tuple (xs.map N)):=by
   rcases hp' with z | z
   . exact .inl (z.by (S1.trans S2))
   . exact .inr (z.by (S1.trans S2))
 refine oz hp2 (λl3 H3 us n3 S3 e3 t3=>?_);have hul:=t3.length;rw[wl]at hul;o_head jV (S3 _ _ e2) e3 (WA (gF (by simp;lia))) (λl4 H4 n4 S4 e4=>?_);o_head cU (r:=0) rfl rfl (λv5 H5 S5 i5=>?_);o_head dC ∅ (λl6 H6 n6 S6 e6=>?_);refine jV (S6 _ _ (S5 _ _ e4)) e6 (WA (gF (by simp;lia))) (λl7 H7 n7 S7 e7=>?_);have S37:=S4.trans (S5.trans (S6.trans S7));have T7:ar H H7:=S1.trans (S2.trans (S3.trans S37))
 have t7:ah K H7 ([v1]++us++[v5]) ((cC xs).map N):=by
   unfold cC;rw[wX,wX];exact(ah.append (.cons (i1.by (S2.trans (S3.trans S37))) .nil) (ah.same S37 _ _ t3)).append (.cons (i5.by (S6.trans S7)) .nil)
 have ir7:=hr'.by T7;have in7:=T7.seq hn'
 have ip7:Is K H7 x2 (LN xs)\/Is K H7 x2 (TN xs):=by
   rcases hp' with z | z
   . exact .inl (z.by T7)
   . exact .inr (z.by T7)
 clear n2 n3 n4 n6 n7 S1 S2 S3 S4 S5 S6 S7 S37 e2 e3 e4 e6 t3 hr' hn' hp' hp2 i1 i5;generalize [v1]++us++[v5]=ws at e7 t7;have hws:=t7.length;rw[wl,m6]at hws;o_head gG (.of e7) ?_;rw[hws];o_head iX (n:=((xs.length+2:Nat):Int)-1) () () (λk σ H'=>∃o4,σ = [some x0,some (.ref p1),some x2,some (.ref l7),o4]/\H'=H7 /\ ∀i,i<k->(cC xs).getD (i+1) 0<(cC xs).getD i 0) ⟨_,rfl,rfl,λi hi=>by lia⟩ ?_ ?_
 . rintro k σ H' hk ⟨o4,rfl,rfl,hf⟩
   have hk:k<xs.length+1:=by lia
   have b1:af 8000 ((cC xs).getD k 0):=(zp hcm k).mono ();have b2:af 8000 ((cC xs).getD (k+1) 0):=(zp hcm (k+1)).mono ();o_head gL (bX e7 t7) () (by rw[m6];lia) (λv8 i8=>?_);rw[show((k:Int)+1).toNat=k+1 by lia]at i8;o_head gL (bX e7 t7) () (by rw[m6];lia) (λv9 i9=>?_);rw[wx]at i9;k_few
   . rename_i z
     have e:dJ ra rb ns xs=false:=by unfold dJ;rw[zuu hk z];rfl
     have:=q H' T7;rw[e]at this;exact this
   . rename_i z
     refine⟨_,rfl,rfl,λi hi=>?_⟩;rcases wG i k with y | y
     . exact hf i y
     . have:i=k:=by lia
       subst this;exact z
 . rintro σ H' ⟨o4,rfl,rfl,hf⟩
   have hf:∀i,i<xs.length+1->(cC xs).getD (i+1) 0<(cC xs).getD i 0:=λi hi=>hf i ()
   have hfa:=zrL hf;o_head ku ir7 in7 ip7 ok hrow htm (λv8 H8 S8 i8=>?_);o_head aD (j:=2) i8 rfl (λv9 i9=>?_);obtain⟨l9,hs9,rfl,s9,t9⟩:=ck.mp (show Is K H8 v9 (.list ((dk ra rb ns xs).map N))from i9);have hl9:hs9.length=ns.length:=by rw[t9.length,wl,eX]
   refine kB s9 (o0:=none) (tl:=[]) rfl (λj y _=>y=V.bl (((dk ra rb ns xs).map λx=>decide (x<1)).getD j true)) ?_ ?_
   . intro D i x ys o H10 hx inv
     obtain⟨hi,ix⟩:=cg t9 hx;rw[eX]at hi;have ix:=ix.by inv.same;have b1:af 8000 ((dk ra rb ns xs).getD i 0):=Ao ok hi;o_head cU (r:=1) rfl rfl (λv11 H11 S11 i11=>?_);have ix:=ix.by S11;o_head dQ inv () (λ_ _ _ _ _ h=>h) ⟨_,rfl⟩ S11 ?_;rw[wb (l:=List.map _ _),wq,wc (by rw[eX];exact hi),wb,wc (by rw[eX];exact hi)]
     rfl
   . intro D zs H10 n10 S10 e10 hl10 hr10
     have hz:=mB (bs:=(dk ra rb ns xs).map λx=>decide (x<1)) (by rw[wl,eX];lia) hr10;rw[hz]at e10;o_head Ru (.of e10) ?_;rw[ztL];have e:dJ ra rb ns xs=(kF (dk ra rb ns xs)).all id:=by unfold dJ;rw[hfa];rfl
     have:=q H10 (T7.trans (S8.trans S10));rw[e]at this;exact this
theorem R3{a:Rat}(sz:cJ ns)(hl:ns.length=xs.length+1):cK a b ns xs=xs ↔ ∀i,i<xs.length->a^ns.sum.toNat*xs.getD i 0+(cf a b ns).getD i 0=xs.getD i 0:=by
 rw[<- pN (a:=a) (b:=b) hl sz.nn]
 constructor
 ·intro e i hi
  have h:=gk (a:=a) (b:=b) (ns:=ns) (n:=1) hi;rw[e,CV]at h;exact h.symm
 ·intro h
  refine pH (cA ..) λi hi=>?_
  rw[cA]at hi;rw[gk hi,CV,h i hi]
theorem zx0{a:Rat}(ok:aR a b)(sz:cJ ns)(hl:ns.length=xs.length+1)(h1:1<=a):du a b ns xs=decide (cK a b ns xs=xs):=by
 have hps:=sz.pos;have hsl:(cf a b ns).length=xs.length:=by rw[kT sz.some];lia
 have hst:(bQ a b ns).length=xs.length:=by rw[kG sz.some];lia
 unfold du
 by_cases h:1<a
 ·have ha:a≠1:=by intro e;rw[e]at h;exact absurd h ⋯
  have hF:a^ns.sum.toNat≠1:=λe=>ha ((kn ok ()).mp e)
  rw[if_pos h];refine decide_eq_decide.mpr ?_;rw[R3 sz hl]
  constructor
  ·rintro rfl i hi
   have:=zX hF hi
   grind
  ·intro e
   refine pH hst.symm λi hi=>?_
   have h1:=e i hi;have h2:=zX (b:=b) hF (i:=i) ();have h3:(xs.getD i 0-(bQ a b ns).getD i 0)*(1-a^ns.sum.toNat)=0:=by grind
   rcases Q3.mp h3 with z | z
   ·grind
   ·exact absurd (by grind) hF
 ·have ha:a=1:=by
   rcases Rat.le_iff_lt_or_eq.mp h1 with z | z
   ·exact absurd z h
   ·exact z.symm
  have hF:a^ns.sum.toNat=1:=(kn ok ()).mpr ha;rw[if_neg h,if_pos ha,vi,decide_eq_true_eq,R3 sz hl,Wc]
  constructor
  ·intro e i hi
   have:=e _ (wR.mpr ⟨(cf a b ns).getD i 0,getD_mem (),rfl⟩);have:=of_decide_eq_true this;rw[hF,this]
   grind
  ·intro e c hc
   obtain⟨s,hs,rfl⟩:=wR.mp hc;obtain⟨i,hi,rfl⟩:=ve hs;have h2:=e i ();rw[hF,wb (l:=cf a b ns),wc hi]at h2;refine decide_eq_true ?_
   show(cf a b ns)[i]=0
   have h3:1*xs.getD i 0+(cf a b ns)[i]=xs.getD i 0:=h2
   grind
theorem tV(a:Rat):(a.den:Int)<=a.num ↔ 1<=a:=by
 rw[<- Vi,X3]
 show _ ↔ ¬ (a.num*((1:Rat).den:Int)<(1:Rat).num*(a.den:Int))
 rw[show((1:Rat).den:Int)=1 from rfl,show(1:Rat).num=1 from rfl];lia
def Nc(K:wa):Sp:=λvs H Q _=>∃x0 x1 x2,vs=[x0,x1,x2] /\ ∃(a b:Rat)(ns:List Int)(xs:List Rat)(m:Nat)(p1:we),x1=.ref p1/\Is K H x0 (R a b)/\aE K H p1 (ns.map V.int)/\Is K H x2 (LN xs)/\aR a b/\cJ ns/\ns.length=xs.length+1/\Cm m xs/\m<=3290/\Rq H Q (.bl (du a b ns xs))
theorem zuP{a:Rat}{v:V}(h1:Is K H v (R a b))(h2:aE K H p1 (ns.map V.int))(h3:Is K H u (LN xs))(ok:aR a b)(sz:cJ ns)(hl:ns.length=xs.length+1)(c:Cm m xs)(hm:m<=3290)(q:Rq H Q (.bl (du a b ns xs))):Nc K [v,.ref p1,u] H Q E:=⟨_,_,_,rfl,a,b,ns,xs,m,p1,rfl,h1,h2,h3,ok,sz,hl,c,hm,q⟩
theorem zva(T:Txt K mg a):aF P w K mg base aN 6 a.Ki a.Je zw (Nc K):=by
 refine T.Jk.F.ok TH ?_ ?_;wtm_at "b3"
 refine⟨_,(ai (aV (cY zg (eA (qi 0)) (eA (qi 0)) (cQ _)) (av (aA (j7 K hu (eA (ak (ke T) hr T.jz (q3 0 1 2))) (iY (show bS _ (.type "list") (fS K)from jS) rfl T.h0m gT (q1 2))))) aX)
     (ai (ay 3 TH.nd (eA (ak (ke T) hr T.jz (ae (pv 0) (ae (pv 1) (ae (ak (Aq T) hr T.oW (q2 0 1)) ag))))))
     (av (aA (gP (show bG _ (vP .NotIn) (fu K true)from sv) dX (dH rfl (cP ["_law_one"] [none]) (eY (pv 3)) (λ_ _ _ _ _=>(cq 0)) (λ_ _ _ _ _=>dF) (λ_ _ _ _ _=>by exact(ak (rm (K:=K) (mg:=mg) (a:=a) T) hr T.nh (ae (show PE _ _ (k9 K _)from aQ (ae au (ae au ag))) (q1 0))))) (by with_unfolding_all rfl)))))),?_⟩
 wtm_at "cl";rw[show start MV [x0,x1,x2]=[some x0,some x1,some x2,none]from rfl];obtain⟨ra,rb,ns,xs,m,p1,rfl,hr',hn',hx',ok,sz,hl,c,hm,q⟩:=h;have rc:=kJ ok sz hl c hm;have h8:=sz.bZ;have hps:=sz.pos;k_few
 . rename_i v1 i1 v2 i2 z
   have ha:1<=ra:=(tV ra).mp z;refine ku hr' hn' (.inl hx') rc.1 rc.2.1 rc.2.2 (λv3 H3 S3 i3=>?_);o_head aD (j:=0) i3 rfl (λv4 i4=>?_);o_head oz (ds:=xs.map N) (.inl (hx'.by S3)) (λl5 H5 us n5 S5 e5 t5=>?_);o_head UB (show Is K H5 v4 (LN (cK ra rb ns xs))from(show Is K H3 v4 (LN (cK ra rb ns xs))from i4).by S5) (bX e5 t5) ?_;have:=q H5 (S3.trans S5);rw[zx0 ok sz hl ha]at this;exact this
 . rename_i v1 i1 v2 i2 z
   have ha:ra<1:=by
     rw[<- xE];exact λh=>z ((tV ra).mpr h)
   have ha1:ra≠1:=by intro e;rw[e]at ha;exact absurd ha ⋯
   have hn1:¬ 1<ra:=by grind
   have hF:ra^ns.sum.toNat≠1:=λe=>ha1 ((kn ok ()).mp e)
   have hst:ns.length=(bQ ra rb ns).length+1:=by rw[kG sz.some];lia
   have rs:=kJ ok sz hst (AD ok.ba ok.bb h8 sz.upTo () hF) ⋯;refine y7 hr' hn' ok sz ha1 (λl3 H3 us n3 S3 e3 t3=>?_);o_head ku (hr'.by S3) (S3.seq hn') (.inl (bX e3 t3)) rs.1 rs.2.1 rs.2.2 (λv4 H4 S4 i4=>?_);o_head aD (j:=2) i4 rfl (λv5 i5=>?_);obtain⟨l5,hs5,rfl,s5,t5⟩:=ck.mp (show Is K H4 v5 (.list ((dk ra rb ns (bQ ra rb ns)).map N))from i5);have hl5:hs5.length=ns.length:=by rw[t5.length,wl,eX]
   o_head kB s5 (o0:=none) (tl:=[]) rfl (λj y _=>y=V.bl ((jU (dk ra rb ns (bQ ra rb ns))).getD j true)) ?_ ?_
   . intro D i x ys o H6 hx inv
     obtain⟨hi,ix⟩:=cg t5 hx;rw[eX]at hi;have ix:=ix.by inv.same;have b1:af 8000 ((dk ra rb ns (bQ ra rb ns)).getD i 0):=Ao rs.1 hi;o_head cU (r:=1) rfl rfl (λv7 H7 S7 i7=>?_);have ix:=ix.by S7;k_few;exact dQ inv () (λ_ _ _ _ _ h=>h) ⟨_,rfl⟩ S7 (by rw[Yp (by rw[eX];exact hi)])
   . intro D zs H6 n6 S6 e6 hl6 hr6
     have hz:=mB (bs:=jU (dk ra rb ns (bQ ra rb ns))) (by unfold jU;rw[wl,eX];lia) hr6;rw[hz]at e6;o_head Ru (.of e6) ?_
     have e:du ra rb ns xs = !decide (true∈jU (dk ra rb ns (bQ ra rb ns))):=by
       unfold du lu;rw[if_neg hn1,if_neg ha1]
       congr 1
       rw[vi,qW,decide_eq_true_eq]
       constructor
       . rintro ⟨b,hb,e⟩
         rw[show b=true from e]at hb;exact hb
       . intro h;exact⟨true,h,rfl⟩
     have:=q H6 (S3.trans (S4.trans S6));rw[e]at this;exact this
def M1(K:wa):Sp:=λvs H Q _=>∃x0 x1,vs=[x0,x1] /\ ∃(p:we)(k m:Int),x0=.ref p/\x1=.int m/\cV H p k/\k<=1000/\1<=m/\m<=8 /\ ∀(l:we)(H':Hp)(us:List V)(xs:List Rat),H l=none->Exc p H H'->a_ H H'->cV H' p (k+11)->H' l=some (.lst us)->ah K H' us (xs.map N)->1<=xs.length->(xs.length:Int)<=m->(∀x∈xs,fh x)->Q (.ref l) H'
theorem zjo{k m:Int}(h:cV H p k)(hk:k<=1000)(h1:1<=m)(h8:m<=8)(q:∀(l:we)(H':Hp)(us:List V)(xs:List Rat),H l=none->Exc p H H'->a_ H H'->cV H' p (k+11)->H' l=some (.lst us)->ah K H' us (xs.map N)->1<=xs.length->(xs.length:Int)<=m->(∀x∈xs,fh x)->Q (.ref l) H'):M1 K [.ref p,.int m] H Q E:=⟨_,_,rfl,p,k,m,rfl,rfl,h,hk,h1,h8,q⟩
theorem zjn(T:Txt K mg a):aF P w K mg base aN 2 a.GU a.GK yW (M1 K):=by
 refine T.GO.F.ok p5 ?_ ?_;wtm_at "b2"
 refine⟨_,(ai (ay 2 p5.nd (aB cB au (ak (gE T) hr T.fL (q2 0 1))))
     (ai (ay 3 p5.nd (aB cB au (ak (gE T) hr T.fL (ae (pv 0) (ae au ag)))))
     (ai (ay 4 p5.nd (de cD (dy (ae (pv 3) (ae (aB cB au (aB fe (pv 3) au)) ag))) (ak (gE T) hr T.fL (ae (pv 0) (ae au ag))) (λ_ _=>rfl)))
     (ai (ay 5 p5.nd (aB fe (pv 3) (pv 4)))
     (av (aA (dH rfl (cP ["_law_k","_law_bottom","_law_apart","_law_pen_here","_law_few"] [none,some 3,some 5,some 0,some 4]) (fC rfl T.h0j (q1 2)) (λ_ _ _ _ _=>(cq 0)) (λ_ _ _ _ _=>dF) (λ_ _ _ _ _=>(ak (gu (K:=K) (mg:=mg) (a:=a) T) hr T.fM (ae (aB cE (ak (gE (K:=K) (mg:=mg) (a:=a) T) hr T.fL (q2 3 4)) (pv 2)) (q1 1))))))))))),?_⟩
 wtm_at "cl";rw[show start OF [x0,x1]=[some x0,some x1,none,none,none,none]from rfl];obtain⟨p,k,m,rfl,rfl,hp,hk,h1,h8,q⟩:=h;wtm_at "ga";rename_i ra Ha ra0 ra1 Ea Ka Pa rb Hb rb0 rb1 Eb Kb Pb lc Hc nc Sc ec rd Hd rd0 rd1 Ed Kd Pd z hz;have E1:Exc p H Hd:=Ea.trans (Eb.trans (Sc.exc.trans Ed));have K1:a_ H Hd:=Ka.trans (Kb.trans (Sc.keep.trans Kd));clear Ea Ka Pa Eb Kb Pb Sc ec nc Ed Kd hp;generalize hB:2+rb=B at *;have B2:2<=B/\B<=60:=by lia
 have hz1:1<=z/\z<=B:=by
   rcases hz with rfl | rfl
   . lia
   . rw[Wr _ ⋯];lia
 refine pX ⟨by lia,(Bd.kP () ()).mono ⋯⟩ ?_
 have ha:1<=B.fdiv z/\B.fdiv z*z<=B/\B.fdiv z<=B:=by
   rw[Wr _ ()];refine⟨?_,ud _ (),XN _ ()⟩;exact(Int.le_ediv_iff_mul_le ()).mpr ()
 generalize B.fdiv z=a at *;obtain⟨a1,a2,a3⟩:=ha;k_few;obtain⟨n,hn⟩:∃n:Nat,1+ra=(n:Int):=⟨(1+ra).toNat,by lia⟩;rw[hn];refine Af (n:=(n:Int)) () () (λD i ys σ' H'=>(∃o,σ'=[o,some (.int B),some (.int a),some (.ref p),some (.int z)])/\Hd D=none/\D≠p/\Exc p Hd H'/\a_ Hd H'/\cV H' p (k+1+1+1+(i:Int)) /\ ∃(us:List V)(xs:List Rat),H' D=some (.lst us)/\xs.length=i/\ah K H' us (xs.map N) /\ ∀x∈xs,fh x) ?_ ?_ ?_
 . intro D H' n s e
   exact⟨⟨_,rfl⟩,n,cV.ne n Pd,s.exc,s.keep,(Pd.same s).le (),[],[],e,rfl,.nil,by simp⟩
 . rintro D i ys σ' H' hi ⟨⟨o,rfl⟩,hn',hne,hE,hK,hP,us,xs,hD,hl,ht,hm⟩
   k_few;rename_i r H6 r0 r1 E6 K6 P6;have t0:0<=r*a:=xv r0 ()
   have t1:r*a<B:=by
     have h1:(r+1)*a<=z*a:=WI () ();rw[XE,Qq]at h1;have h2:z*a=a*z:=Int.mul_comm _ _;lia
   generalize r*a=t at *;k_few;rename_i v7 H7 x7 S7 i7 e7 b7;have hul:=ht.length;simp only[wl]at hul;have hD7:=S7 _ _ (E6.at hne hD);have px:fh x7:=by rw[e7];exact UN () () ()
   refine ji hD7 () (λH8 E8 e8=>?_);have K8:a_ H7 H8:=E8.keep hD7;refine⟨⟨_,rfl⟩,hn',hne,λb o hb h=>E8 b o (kC h hn') (S7 b o ((hE.trans E6) b o hb h)),(hK.trans K6).trans (S7.keep.trans K8),?_,us++[v7],xs++[x7],e8,by simp[hl],?_,?_⟩
   . obtain⟨x,y,z,e,h1,h2⟩:=P6
     exact⟨x,y,z,E8 p _ (WB hne) (S7 _ _ e),h1,by lia⟩
   . rw[wX]
     exact(ah.keep (K6.trans (S7.keep.trans K8)) _ _ (dZ _) ht).append (.cons (i7.df K8) .nil)
   . intro y hy
     rcases vY.mp hy with h | h
     . exact hm y h
     . rw[w6.mp h];exact px
 . rintro D ys σ' H' ⟨_,hn',hne,hE,hK,hP,us,xs,hD,hl,ht,hm⟩
   rw[wx]at hl hP;k_few
   have hfr:H D=none:=by
     cases e:H D with
     | none=>rfl
     | some o=>rw[E1 D o hne e]at hn';cases hn'
   exact q D H' us xs hfr (E1.trans hE) (K1.trans hK) (hP.le ()) hD ht () () hm
def Rl(K:wa):Sp:=λvs H Q _=>∃x0,vs=[x0] /\ ∃xs:List Rat,(Is K H x0 (LN xs)\/Is K H x0 (TN xs))/\1<=xs.length/\(∀i,af 4000 (xs.getD i 0)) /\ ∀v,Is K H v (N (aU xs))->Q v H
theorem Ej{v:V}(h:Is K H v (LN xs)\/Is K H v (TN xs))(h1:1<=xs.length)(b:∀i,af 4000 (xs.getD i 0))(q:∀v,Is K H v (N (aU xs))->Q v H):Rl K [v] H Q E:=⟨_,rfl,xs,h,h1,b,q⟩
theorem EY(T:Txt K mg a):aF P w K mg base aN 2 a.JS a.Ik zh (Rl K):=by
 refine T.sM.F.ok zB ?_ ?_;wtm_at "b1"
 refine⟨_,(ai (ay 1 zB.nd (qi 0))
     (ai (d6 w5 rfl (D_ (pv 0)) (cT (i:=2) zB.nd rfl (Or.inl rfl)) (av (aV (b_ (ak (rm T) hr T.nh (q2 1 2))) (av (ay 1 zB.nd (pv 2))) aX)))
     (av (aA (pv 1))))),?_⟩
 wtm_at "cl";rw[show start Pk [x0]=[some x0,none,none]from rfl];obtain⟨xs,hx,h1,bx,q⟩:=h;rcases hx with hx | hx
 . obtain⟨ap,us,rfl,hs,tu⟩:=ck.mp hx
   have hul:us.length=xs.length:=by rw[tu.length,wl]
   o_head gL hx ⋯ () (λv0 i0=>?_);have i0:Is K H v0 (N (mx (xs.getD 0 0) [])):=i0;o_head .inl (lF hs (λi σ H'=>∃o v,σ = [some (.ref ap),some v,o]/\H'=H/\Is K H v (N (mx (xs.getD 0 0) (xs.take i)))) ⟨_,v0,rfl,rfl,by rw[Qp];exact i0⟩ (λi σ H' _ h=>by obtain⟨_,_,_,rfl,_⟩:=h;exact hs) ?_ ?_)
   . rintro i x σ H' hx' ⟨o,v,rfl,rfl,iv⟩
     obtain⟨hi,ix⟩:=cg tu hx';have b1:=yd bx h1 i;have b2:=bx i;k_few
     . rename_i z
       exact⟨_,x,rfl,rfl,by rw[fO hi,me,if_pos z];exact ix⟩
     . rename_i z
       exact⟨_,v,rfl,rfl,by rw[fO hi,me,if_neg z];exact iv⟩
   . rintro σ H' ⟨o,v,rfl,rfl,iv⟩
     rw[hul,Wb]at iv;k_few;exact q v iv
 . obtain⟨ap,us,rfl,hs,tu⟩:=bY.mp hx
   have hul:us.length=xs.length:=by rw[tu.length,wl]
   o_head ym hx ⋯ () (λv0 i0=>?_);have i0:Is K H v0 (N (mx (xs.getD 0 0) [])):=i0;o_head .inr (Ys hs (λi σ H'=>∃o v,σ = [some (.ref ap),some v,o]/\H'=H/\Is K H v (N (mx (xs.getD 0 0) (xs.take i)))) ⟨_,v0,rfl,rfl,by rw[Qp];exact i0⟩ (λi σ H' _ h=>by obtain⟨_,_,_,rfl,_⟩:=h;exact hs) ?_ ?_)
   . rintro i x σ H' hx' ⟨o,v,rfl,rfl,iv⟩
     obtain⟨hi,ix⟩:=cg tu hx';have b1:=yd bx h1 i;have b2:=bx i;k_few
     . rename_i z
       exact⟨_,x,rfl,rfl,by rw[fO hi,me,if_pos z];exact ix⟩
     . rename_i z
       exact⟨_,v,rfl,rfl,by rw[fO hi,me,if_neg z];exact iv⟩
   . rintro σ H' ⟨o,v,rfl,rfl,iv⟩
     rw[hul,Wb]at iv;k_few;exact q v iv
def kH(xs row:List Rat)(i:Nat):List Rat:=(wo xs.length).map λw=>if aH xs w<i then row.getD (aH xs w) 0 else xs.getD w 0
def Lu(K:wa):Sp:=λvs H Q _=>∃x0 x1,vs=[x0,x1] /\ ∃(xs ps:List Rat),Is K H x0 (TN xs)/\Is K H x1 (LN ps)/\xs.length<=8/\(aj xs).length=ps.length+1/\(∀i,af 4000 (xs.getD i 0))/\Rs K H Q (TN ((wo xs.length).map λw=>(ps++[0]).getD (aH xs w) 0))
theorem Z2{v w:V}(h1:Is K H v (TN xs))(h2:Is K H w (LN ps))(h8:xs.length<=8)(hl:(aj xs).length=ps.length+1)(b:∀i,af 4000 (xs.getD i 0))(q:Rs K H Q (TN ((wo xs.length).map λw=>(ps++[0]).getD (aH xs w) 0))):Lu K [v,w] H Q E:=⟨_,_,rfl,xs,ps,h1,h2,h8,hl,b,q⟩
theorem zvw(xs row:List Rat):kH xs row 0=xs:=by
 unfold kH;refine g6 ∅ λw hw=>?_
 have hw:w<xs.length:=by simpa using hw
 rw[wb,wq,vE hw]
 rfl
def gH(xs row:List Rat)(i k:Nat):List Rat:=(wo xs.length).map λw=>if aH xs w<i then row.getD (aH xs w) 0 else if aH xs w=i/\w<k then row.getD i 0 else xs.getD w 0
theorem zu9(xs row:List Rat)(i:Nat):gH xs row i 0=kH xs row i:=by
 unfold gH kH;refine W9 λw _=>?_
 by_cases z:aH xs w<i
 ·rw[if_pos z,if_pos z]
 ·rw[if_neg z,if_neg z,if_neg ()]
theorem zxN(xs row:List Rat)(i:Nat):gH xs row i xs.length=kH xs row (i+1):=by
 unfold gH kH;refine W9 λw hw=>?_
 have hw:=wF.mp hw
 by_cases z:aH xs w<i
 ·rw[if_pos z,if_pos ()]
 ·rw[if_neg z]
  by_cases y:aH xs w=i
  ·rw[if_pos ⟨y,hw⟩,if_pos (),y]
  ·rw[if_neg (),if_neg ()]
theorem rS(xs row:List Rat)(i k:Nat):(gH xs row i k).length=xs.length:=by simp[gH]
theorem S0{row:List Rat}{w:Nat}(hw:w<xs.length):(gH xs row i k).getD w 0=if aH xs w<i then row.getD (aH xs w) 0 else if aH xs w=i/\w<k then row.getD i 0 else xs.getD w 0:=by
 unfold gH;rw[wb,wq,vE hw]
 rfl
theorem Z8{row:List Rat}(hk:k<xs.length)(h:aH xs k=i):gH xs row i (k+1)=(gH xs row i k).set k (row.getD i 0):=by
 refine g6 (by rw[Wt,rS,rS]) λw hw=>?_
 rw[rS]at hw;rw[S0 hw]
 by_cases e:w=k
 ·subst e
  rw[pz (by rw[rS];exact hw),if_neg (),if_pos ⟨h,by lia⟩]
 ·rw[sj (WB e),S0 hw]
  by_cases z:aH xs w<i
  ·rw[if_pos z,if_pos z]
  ·rw[if_neg z,if_neg z]
   by_cases y:aH xs w=i/\w<k
   ·rw[if_pos y,if_pos ⟨y.1,by lia⟩]
   ·rw[if_neg y,if_neg ()]
theorem zzE{row:List Rat}(h:aH xs k≠i):gH xs row i (k+1)=gH xs row i k:=by
 unfold gH;refine W9 λw _=>?_
 by_cases z:aH xs w<i
 ·rw[if_pos z,if_pos z]
 ·rw[if_neg z,if_neg z]
  by_cases y:aH xs w=i/\w<k
  ·rw[if_pos y,if_pos ⟨y.1,by lia⟩]
  ·rw[if_neg y,if_neg (λu=>y ⟨u.1,by
    have:=u.2;have:w≠k:=λe=>h (by rw[<- e];exact u.1)
    lia⟩)]
theorem zxa{row:List Rat}(h:(aj xs).length=n):kH xs row n=(wo xs.length).map λw=>row.getD (aH xs w) 0:=by
 unfold kH;refine W9 λw hw=>?_
 have:=(kA xs).lt w (wF.mp hw);rw[if_pos ()]
theorem zuS{f:Nat}{left vs:List Rat}(h:gc f left=vs.drop i)(hi:i<vs.length)(hl:left.length<=f):left≠[]/\aU left=vs.getD i 0 /\ ∃f',(left.filter λy=>!decide (y=aU left)).length<=f'/\gc f' (left.filter λy=>!decide (y=aU left))=vs.drop (i+1):=by
 have hd:vs.drop i=vs[i]::vs.drop (i+1):=VC hi;have ne:left≠[]:=λe=>by rw[e,p6,hd]at h;cases h
 have hp:=Wx.mpr ne;obtain⟨f',rfl⟩:∃f',f=f'+1:=⟨f-1,by lia⟩;rw[lz ne,hd]at h
 injection h with h1 h2
 refine⟨ne,by rw[h1,wb,wc hi];rfl,f',?_,h2⟩;have:=zI ne;lia
theorem ZH(h:ah K H us (xs.map N))(k:Is K H u (N x)):ah K H (us++[u]) ((xs++[x]).map N):=by
 rw[wX];exact h.append (.cons k .nil)
theorem zvb(h:ah K H us (xs.map N))(i:Is K H u (N x)):ah K H (us.set k u) ((xs.set k x).map N):=by
 have hl:=h.length;rw[wl]at hl;refine eH (by rw[Wt,Wt];exact hl) λj v hv=>?_
 rw[WN]at hv
 by_cases e:k=j
 ·subst e
  rw[if_pos rfl]at hv
  by_cases z:k<us.length
  ·rw[if_pos z]at hv
   cases hv;rw[pz ()];exact i
  ·rw[if_neg z]at hv;cases hv
 ·rw[if_neg e]at hv
  rw[sj e];exact(cg h hv).2
theorem zpt(T:Txt K mg a):aF P w K mg base aN 3 a.IM a.Hl Ar (Lu K):=by
 refine T.HI.F.ok m3 ?_ ?_;wtm_at "b2"
 refine⟨_,(ai (ay 2 m3.nd (iY (show bS _ (.type "list") (fS K)from jS) rfl T.h0m gT (q1 0)))
     (ai (ay 3 m3.nd (iY (show bS _ (.type "list") (fS K)from jS) rfl T.h0m gT (q1 0)))
     (ai (d6 w5 rfl (eY (aB cB (iY (show bS _ (.type "list") (fS K)from jS) rfl T.h0m gT (q1 1)) (dy (ae (aQ (ae au (ae au ag))) ag)))) (cT (i:=4) m3.nd rfl (Or.inl rfl)) (ai (ay 5 m3.nd (ak (EY T) hr T.sM (q1 3)))
     (ai (d6 w5 rfl (fC rfl T.h0j (ae (c8 K T.h0t (q1 0)) ag)) (cT (i:=6) m3.nd rfl (Or.inl rfl)) (av (aV (d5 K hu (de cD (pv 0) (pv 6) (λ_ _=>rfl)) (pv 5)) (av (ju (pv 4) (mW (pv 2) (pv 6) mM))) aX)))
     (av (jR (i:=3) m3.nd rfl (Or.inl rfl) rfl (cP ["_law_one","_law_high_here"] [none,some 5]) (eY (pv 3)) (λ_ _ _ _ _=>(cq 0)) (λ_ _ _ _ _=>(lU (hW K hu (pv 0) (pv 1)))) (λ_ _ _ _ _=>(pv 0)))))))
     (av (aA (eQ K T.h0i (q1 2))))))),?_⟩
 wtm_at "cl";rw[show start Pt [x0,x1]=[some x0,some x1,none,none,none,none,none]from rfl];obtain⟨xs,ps,hx',hp',h8,hvl,bx,q⟩:=h;o_head oz (.inr hx') (λlf H1 us1 n1 S1 e1 t1=>?_);o_head oz (.inr (hx'.by S1)) (λl2 H2 us2 n2 S2 e2 t2=>?_);o_head oz (.inl (hp'.by (S1.trans S2))) (λl3 H3 us3 n3 S3 e3 t3=>?_);o_head cU (r:=0) rfl rfl (λv4 H4 S4 i4=>?_);o_head dC ∅ (λl5 H5 n5 S5 e5=>?_);have hul3:=t3.length;rw[wl]at hul3;have hvx:=iB xs;refine jV (S5 _ _ (S4 _ _ e3)) e5 (WA (gF (by simp;lia))) (λl6 H6 n6 S6 e6=>?_);have S36:=S4.trans (S5.trans S6);have t6:ah K H6 (us3++[v4]) ((ps++[0]).map N):=ZH (ah.same S36 _ _ t3) (i4.by (S5.trans S6));have S26:=S3.trans S36;have S16:=S2.trans S26;have ne2:l2≠lf:=λz=>by subst z;rw[e1]at n2;cases n2
 have ne6:l6≠lf:=λz=>by subst z;rw[(S2.trans (S3.trans (S4.trans S5))) _ _ e1]at n6;cases n6
 have T6:=S1.trans S16;have ef6:=S16 _ _ e1;have tf6:ah K H6 us1 (xs.map N):=ah.same S16 _ _ t1;have el6:=S26 _ _ e2;have tl6:ah K H6 us2 (xs.map N):=ah.same S26 _ _ t2;clear S1 S2 S3 S4 S5 S6 S36 S26 S16 e1 t1 e2 t2 e3 t3 i4 e5 n2 n3 n5 n6;have hrl:(ps++[0]).length=(aj xs).length:=by simp[hvl]
 generalize hrow:ps++[0]=row at *;o_head lF (.of e6) (λi σ H'=>∃(ll:we)(us ws:List V)(left:List Rat)(f:Nat)(o4 o5 o6:Option V),σ = [some x0,some x1,some (.ref lf),some (.ref ll),o4,o5,o6]/\Exc lf H6 H'/\a_ H6 H'/\ll≠lf/\H' lf=some (.lst ws)/\ah K H' ws ((kH xs row i).map N)/\H' ll=some (.lst us)/\ah K H' us (left.map N)/\(∀y∈left,y∈xs)/\left.length<=xs.length/\left.length<=f/\gc f left=(aj xs).drop i) ⟨l2,us2,us1,xs,xs.length,_,_,_,rfl,Exc.refl _ _,a_.refl _,ne2,ef6,by rw[zvw];exact tf6,el6,tl6,λy h=>h,wp _,wp _,rfl⟩ (λi σ H' _ h=>by obtain⟨_,_,_,_,_,_,_,_,_,E,_⟩:=h;exact .of (E _ _ ne6 e6)) ?_ ?_
 . rintro i x σ H7 hx ⟨ll,us,ws,left,f,o4,o5,o6,rfl,E7,K7,nl,ef,tf,el,tl',sub,hlx,hf,heq⟩
   obtain⟨hi,ix⟩:=cg t6 hx;have ix7:Is K H7 x (N (row.getD i 0)):=ix.df K7;obtain⟨he,hmx,f',hf',heq'⟩:=zuS heq () hf;have hpos:=Wx.mpr he
   have bl:∀i,af 4000 (left.getD i 0):=λi=>by
     rcases wG i left.length with z | z
     . exact DM bx (sub _ (getD_mem z))
     . rw[wb,wI z];exact af.zero.mono ⋯
   have hul:us.length=left.length:=by rw[tl'.length,wl]
   o_head Ej (.inl (bX el tl')) hpos bl (λvm im=>?_)
   . skip
     rw[<- zu9]at tf;o_head yl ((hx'.by T6).ik K7 (lC _)) ?_;refine iX (n:=(xs.length:Int)) () () (λk σ H8=>∃(ws:List V)(o7:Option V),σ = [some x0,some x1,some (.ref lf),some (.ref ll),some x,some vm,o7]/\Exc lf H7 H8/\a_ H7 H8/\H8 lf=some (.lst ws)/\ah K H8 ws ((gH xs row i k).map N)) ⟨ws,_,rfl,Exc.refl _ _,a_.refl _,ef,tf⟩ ?_ ?_
     . rintro k σ H8 hk ⟨ws,o7,rfl,E8,K8,ef8,tf8⟩
       have hk':k<xs.length:=by simpa using hk
       have hwl:=tf8.length;rw[wl,rS]at hwl;have KX:=K7.trans K8;o_head ym ((hx'.by T6).ik KX (lC _)) () () (λv9 i9=>?_);rw[wx]at i9;have im8:=im.df K8;have hfl:=uR (xs:=xs) (w:=k) (c:=i) hk' ();k_few
       . rename_i z
         refine oy (j:=k) ef8 (by unfold gB;rw[if_pos (),if_pos ()];simp) (λH9 E9 e9=>?_);have K9:=E9.keep ef8;o_head ⟨_,_,rfl,E8.trans E9,K8.trans K9,e9,?_⟩;rw[Z8 hk' (hfl.mpr (by rw[z,hmx]))];exact zvb (ah.keep K9 _ _ (dZ _) tf8) (ix7.df (K8.trans K9))
       . rename_i z
         refine⟨_,_,rfl,E8,K8,ef8,?_⟩;rw[zzE (λy=>z (by rw[hmx];exact hfl.mp y))];exact tf8
     . rintro σ H8 ⟨ws8,o8,rfl,E8,K8,ef8,tf8⟩
       rw[wx,zxN]at tf8;have el8:=E8 _ _ nl el;have tl8:ah K H8 us (left.map N):=ah.keep K8 _ _ (dZ _) tl';have im8:=im.df K8;have E68:=E7.trans E8;have K68:=K7.trans K8;clear tf ef E7 K7 E8 K8 el tl' im ix7;generalize aU left=mxx at *;o_head oG (.of el8) (λD i ys σ' H'=>(∃o,σ'=[o,some vm])/\H8 D=none/\ar H8 H'/\H' D=some (.lst ys)/\ah K H' ys (((left.take i).filter λy=>!decide (y=mxx)).map N)) (λD H' n s e=>⟨⟨_,rfl⟩,n,s,e,.nil⟩) (λD i ys σ' H' h=>h.2.2.1.seq (.of el8)) ?_ ?_
       . rintro D j y ys σ' H9 hy ⟨⟨o,rfl⟩,n9,S9,e9,t9⟩
         obtain⟨hj,iy⟩:=cg tl8 hy;have iy9:=iy.by S9;have im9:=im8.by S9;have hyl:=t9.length;rw[wl]at hyl;have hfl:=vS (λy=>!decide (y=mxx)) (left.take j);rw[Wo]at hfl;k_few
         . rename_i z
           refine ji e9 () (λH10 E10 e10=>⟨⟨_,rfl⟩,n9,S9.grow n9 E10,e10,?_⟩);have K10:=E10.keep e9;rw[fO hj,Wl,Wp,decide_eq_false z,wX];exact(ah.keep K10 _ _ (dZ _) t9).append (.cons (iy9.df K10) .nil)
         . rename_i z
           refine⟨ys,⟨_,rfl⟩,n9,S9,e9,?_⟩;rw[fO hj,Wl,Wp,decide_eq_true (by first | exact z | exact We.mp z)];have:([]:List Rat).filter (λy=>!decide (y=mxx))=[]:=rfl
           simpa using t9
       . rintro D ys σ' H9 ⟨_,n9,S9,e9,t9⟩
         rw[hul,Wb]at t9;o_head ⟨D,ys,ws8,_,f',_,_,_,rfl,E68.trans S9.exc,K68.trans S9.keep,(λz=>by subst z;rw[ef8]at n9;cases n9),S9 _ _ ef8,ah.same S9 _ _ tf8,e9,t9,λy hy=>sub y (wU.mp hy).1,?_,hf',heq'⟩;have:=vS (λy=>!decide (y=mxx)) left;lia
 . rintro σ H7 ⟨ll,us,ws,left,f,o4,o5,o6,rfl,E7,K7,nl,ef,tf,el,tl',sub,hlx,hf,heq⟩
   rw[show(us3++[v4]).length=row.length by rw[t6.length,wl],zxa hrl.symm]at tf;o_head fR (bX ef tf) (λv H8 S8 i8=>?_);refine q v H8 ((T6.grow n1 E7).trans S8) i8
def OV(a b:Rat)(xs:List Rat):wD:=.tuple [N (1-aU xs),.list ((cW a b xs).map TW),TN (cZ a b xs)]
def Li(K:wa):Sp:=λvs H Q _=>∃x0 x1,vs=[x0,x1] /\ ∃(a b:Rat)(xs:List Rat)(m:Nat),Is K H x0 (R a b)/\Is K H x1 (TN xs)/\af 10 a/\af 10 b/\1<=xs.length/\xs.length<=8/\Cm m xs/\m+2+21*xs.length<=3950/\Rs K H Q (OV a b xs)
theorem ztg{a:Rat}{v w:V}(h:Is K H v (R a b))(k:Is K H w (TN xs))(ba:af 10 a)(bb:af 10 b)(h1:1<=xs.length)(h8:xs.length<=8)(c:Cm m xs)(hm:m+2+21*xs.length<=3950)(q:Rs K H Q (OV a b xs)):Li K [v,w] H Q E:=⟨_,_,rfl,a,b,xs,m,h,k,ba,bb,h1,h8,c,hm,q⟩
theorem zvo : az (bE xs) (wo xs.length)=(wo xs.length).filter λw=>decide (xs.getD w 0=aU xs):=by
 unfold az;refine vk λw hw=>?_
 have hw:=wF.mp hw;rw[Gv hw];have hle:=CS (xs:=xs) (xs.getD w 0) (getD_mem hw);generalize xs.getD w 0=x at *;generalize aU xs=m at *
 by_cases h:x=m
 ·rw[decide_eq_true h,decide_eq_false (by grind)];rfl
 ·rw[decide_eq_false h,decide_eq_true (by grind)];rfl
structure zEZ(K:wa)(a b:Rat)(xs:List Rat)(m:Nat)(H H':Hp)(vw:V)(lp lW lv lg:we)(left:List Nat)(ps:List Rat)(done:List (List Nat))(f:Nat)(pv wv:List V)(gone:List Nat):Prop where
 same:ar H H'
 hp:H lp=none
 hv:H lv=none
 iw:Is K H' vw (N (1-aU xs))
 j4:lp≠lv
 nWp:lW≠lp
 nWv:lW≠lv
 ngp:lg≠lp
 ngv:lg≠lv
 ep:H' lp=some (.lst pv)
 tp:ah K H' pv (ps.map N)
 eW:H' lW=some (.lst (vz (az ps left)))
 ev:H' lv=some (.lst wv)
 tv:ah K H' wv (done.map TW)
 eg:H' lg=some (.lst (vz gone))
 gn:∀w,w<xs.length->(w∈gone ↔ w ∉ left)
 gl:gone.length+left.length<=xs.length
 rg:Rg xs.length left
 len:ps.length=xs.length
 fl:left.length<=f
 dl:done.length+left.length<=xs.length
 cm:Cm (m+2+21*(xs.length-left.length)) ps
 w1:done++(cO a b f ps left).1=cW a b xs
 w2:(cO a b f ps left).2=(dY a b xs).2
def Nz(K:wa)(a b:Rat)(xs:List Rat)(m:Nat)(H:Hp)(x0 x1 vm vw:V)(lp lv:we)(k:Nat)(σ':L2.St)(H':Hp):Prop:=∃(lW lg:we)(left:List Nat)(ps:List Rat)(done:List (List Nat))(f:Nat)(pv wv:List V)(gone:List Nat)(o8 o9:Option V),σ'=[some x0,some x1,some vm,some vw,some (.ref lp),some (.ref lW),some (.ref lv),some (.ref lg),o8,o9]/\k=left.length/\zEZ K a b xs m H H' vw lp lW lv lg left ps done f pv wv gone
theorem kz{o:HO}(h:H p=none)(k:H q=some o):p≠q:=λe=>by rw[e,k]at h;cases h
theorem zA0(h:i∈left):(wo (i+1)).filter (λw=>decide (w∈left))=(wo i).filter (λw=>decide (w∈left))++[i]:=by
 rw[kl (n:=i),if_pos (decide_eq_true h)]
theorem zAt(h:i ∉ left):(wo (i+1)).filter (λw=>decide (w∈left))=(wo i).filter (λw=>decide (w∈left)):=by
 rw[kl (n:=i),if_neg (by simpa using h),vK]
theorem zs1(T:Txt K mg a):aF P w K mg base aN 4 a.JO a.Iv uJ (Li K):=by
 refine T.I_.F.ok ja ?_ ?_;wtm_at "b2"
 refine⟨_,(ai (ay 2 ja.nd (ak (EY T) hr T.sM (q1 1)))
     (ai (ay 3 ja.nd (ak (lM T) hr T.j_ (ae (aQ (ae au (ae au ag))) (q1 2))))
     (ai (ay 4 ja.nd (dH rfl (cP ["_law_one","_law_wait"] [none,some 3]) (jM (pv 1)) (λ_ _ _ _ _=>(cq 0)) (λ_ _ _ _ _=>dF) (λ_ _ _ _ _=>(ak (iA (K:=K) (mg:=mg) (a:=a) T) hr T.gM (q2 0 1)))))
     (ai (jR (i:=5) ja.nd rfl (Or.inl rfl) rfl (cP ["_law_k","_law_high_here","_law_phases"] [none,some 2,some 1]) (fC rfl T.h0j (ae (c8 K T.h0t (q1 4)) ag)) (λ_ _ _ _ _=>(cq 0)) (λ_ _ _ _ _=>(lU (d5 K hu (de (show fF _ (c_ K)from cD) (pv 2) (pv 0) (λ_ _=>rfl)) (pv 1)))) (λ_ _ _ _ _=>(pv 0)))
     (ai (ay 6 ja.nd (dy ag))
     (ai (ay 7 ja.nd (dy ag))
     (ai (lD w5 (hW K hu (pv 5) (dy ag)) (ai (jq (iN vH vN vO iJ (pv 6) (ae (eQ K T.h0i (q1 5)) ag)))
     (ai (ay 7 ja.nd (aB cB (pv 7) (pv 5)))
     (ai (ay 8 ja.nd (ak (Ut T) hr T.AZ (ae (pv 0) (ae (c8 K T.h0t (q1 5)) ag))))
     (ai (d6 w5 rfl (fC rfl T.h0j (ae (c8 K T.h0t (q1 1)) ag)) (cT (i:=9) ja.nd rfl (Or.inl rfl)) (av (aV (cY (show bG _ (vP .NotIn) (fu K true)from sv) (pv 9) (pv 7) (by with_unfolding_all rfl)) (av (ju (ak (iA T) hr T.gM (ae (ak (ky T) hr T.jy (ae (qi 8) (ae (de cD (pv 4) (pv 9) (λ_ _=>rfl)) ag))) (ae (qi 8) ag))) (mW (pv 4) (pv 9) mM))) aX)))
     (av (jR (i:=5) ja.nd rfl (Or.inl rfl) rfl (cP ["_law_k","_law_gone","_law_now"] [none,some 7,some 4]) (fC rfl T.h0j (ae (c8 K T.h0t (q1 4)) ag)) (λ_ _ _ _ _=>(cq 0)) (λ_ _ _ _ _=>(lU (PW.pt (EW (cY (show bG _ (vP .NotIn) (fu K true)from sv) (pv 0) (pv 1) (by with_unfolding_all rfl)) (Bq (cv (b_ (ak (rm (K:=K) (mg:=mg) (a:=a) T) hr T.nh (ae (de (show fF _ (c_ K)from cD) (pv 2) (pv 0) (λ_ _=>rfl)) (ae (show PE _ _ (k9 K _)from aQ (ae au (ae au ag))) ag)))))))))) (λ_ _ _ _ _=>(pv 0)))))))))
     (av (aA (aQ (ae (pv 3) (ae (pv 6) (ae (eQ K T.h0i (ae (dH rfl (cP ["_law_k","_law_gone","_law_now"] [none,some 7,some 4]) (fC rfl T.h0j (ae (c8 K T.h0t (q1 4)) ag)) (λ_ _ _ _ _=>(cq 0)) (λ_ _ _ _ _=>dF) (λ_ _ _ _ _=>by exact(q_ (cY (show bG _ (vP .In) (fu K false)from Dg) (pv 0) (pv 1) (by with_unfolding_all rfl)) (show PE _ _ (k9 K _)from aQ (ae au (ae au ag))) (de (show fF _ (c_ K)from cD) (pv 2) (pv 0) (λ_ _=>rfl))))) ag)) ag))))))))))))),?_⟩
 wtm_at "cl";rw[show start Ml [x0,x1]=[some x0,some x1,none,none,none,none,none,none,none,none]from rfl];obtain⟨ra,rb,xs,m,hr',hx',ba,bb,h1,h8,cm,hm,q⟩:=h;have bx:∀i,af 4000 (xs.getD i 0):=λi=>(cm.get i).mono ()
 have bm:af 3950 (aU xs):=(cm.dM (fG h1)).mono ();o_head Ej (.inr hx') h1 bx (λvm im=>?_);o_head cU (r:=1) rfl rfl (λv1 H1 S1 i1=>?_);o_head lE i1 (im.by S1) af.one bm ⋯ (λvw H2 S2 iw=>?_);have T2:=S1.trans S2;have im2:=im.by T2;obtain⟨ap,us,rfl,hu0,tu0⟩:=bY.mp hx';have hu:=T2.j6 hu0;have tu:ah K H2 us (xs.map N):=ah.same T2 _ _ tu0;o_head jw (o0:=none) (tl:=[some vw]) hu rfl (λj y H'=>Is K H' y (N ((bE xs).getD j 0))) ?_ ?_
 . intro D i x ys o H3 hx inv
   obtain⟨hi,ix⟩:=cg tu hx;have S3:=inv.same;have ix2:=ix.by S3;have iw2:=iw.by S3;have bi:=bx i;have bw:af 3952 (1-aU xs):=(af.one.sub bm).mono ⋯;k_few;rename_i v4 H4 S4 i4;exact dQ inv () eG ⟨_,rfl⟩ S4 (by rw[Gv hi];exact i4)
 . intro lp ys H3 hnp S3 hD hl hr
   have hl':ys.length=(bE xs).length:=by rw[hl,tu.length,wl,eU]
   have tp:ah K H3 ys ((bE xs).map N):=eH hl' hr;have iw3:=iw.by S3;have im3:=im2.by S3;have T3:=T2.trans S3;have hpH:H lp=none:=fm T2 hnp;have hx3:=hx'.by T3;clear hl hr hu tu iw S1 S2 S3 hnp i1 im2 im T2;have iO:Cm (m+2) (bE xs):=(Cm.rise (h:=0) (cm.gf (ys:=0::xs) λy hy=>by rcases wL.mp hy with rfl | hy;(exact .inr rfl);exact .inl hy) (fG h1)).gf λy hy=>.inl (wA _ hy)
   o_head yy (bX hD tp) ?_;rw[eU];o_head Af (n:=(xs.length:Int)) () () (λD i ys σ' H'=>(∃o,σ'=[o,some vm,some (.ref ap)])/\H3 D=none/\ar H3 H'/\H' D=some (.lst (vz ((wo i).filter λw=>decide (xs.getD w 0=aU xs))))) (λD H' n s e=>⟨⟨_,rfl⟩,n,s,e⟩) ?_ ?_
   . rintro D i zs σ' H4 hi ⟨⟨o,rfl⟩,n4,S4,e4⟩
     have hi':i<xs.length:=by simpa using hi
     have hfl:((wo i).filter λw=>decide (xs.getD w 0=aU xs)).length<=i:=by
       have:=vS (λw=>decide (xs.getD w 0=aU xs)) (wo i);rw[vc]at this;exact this
     have hx4:=hx3.by S4;have im4:=im3.by S4;o_head ym hx4 () () (λv5 i5=>?_);rw[wx]at i5;generalize hmx:aU xs=mxx at *;k_few
     . rename_i z
       refine ji e4 (by rw[gr];lia) (λH8 E8 e8=>⟨⟨_,rfl⟩,n4,S4.grow n4 E8,?_⟩);rw[kl (n:=i),if_pos (decide_eq_true z),sE];exact e8
     . rename_i z
       refine⟨[],⟨_,rfl⟩,n4,S4,?_⟩;rw[kl (n:=i),if_neg (by simpa using z),vK];exact e4
   . rintro lW zs σ' H4 ⟨_,n4,S4,e4⟩
     rw[wx,<- zvo]at e4;o_head dC ∅ (λlv H5 n5 S5 e5=>?_);o_head dC ∅ (λlg H6 n6 S6 e6=>?_);have S46:=S4.trans (S5.trans S6)
     have G0:Nz K ra rb xs m H x0 (.ref ap) vm vw lp lv xs.length [some x0,some (.ref ap),some vm,some vw,some (.ref lp),some (.ref lW),some (.ref lv),some (.ref lg),none,none] H6:=by
       refine⟨lW,lg,wo xs.length,bE xs,[],xs.length,ys,[],[],none,none,rfl,by rw[vc],T3.trans S46,hpH,fm (T3.trans S4) n5,iw3.by S46,(kz n5 (S4 _ _ hD)).symm,kz n4 hD,(kz n5 e4).symm,kz n6 (S5 _ _ (S4 _ _ hD)),kz n6 e5,S46 _ _ hD,ah.same S46 _ _ tp,S6 _ _ (S5 _ _ e4),S6 _ _ e5,.nil,e6,λw hw=>⟨λz=>(by cases z),λz=>absurd (wF.mpr hw) z⟩,by rw[vc];simp,Rg.range _,eU xs,by rw[vc];exact wp _,by rw[vc];simp,iO.mono (),?_,rfl⟩;rw[qo];rfl
     clear S46 S6 S5 S4 e6 e5 e4 n4 n5 n6 hD tp iw3 im3 hx3 iO hpH T3 hl';o_head oC (Nz K ra rb xs m H x0 (.ref ap) vm vw lp lv) _ G0 ?_;clear G0;rintro k σ' H6 ⟨lW,lg,left,ps,done,f,pv,wv,gone,o8,o9,rfl,hk,G⟩;have bp:∀i,af 3950 (ps.getD i 0):=λi=>(G.cm.get i).mono (by have:=G.dl;lia)
     have hdl:=G.dl;o_head dC ∅ (λle H7 n7 S7 e7=>?_);refine Zw (S7 _ _ G.eW) e7 ?_;have T7:=G.same.trans S7;have ep7:=S7 _ _ G.ep;have ev7:=S7 _ _ G.ev;have eg7:=S7 _ _ G.eg;have eW7:=S7 _ _ G.eW;have iw7:=G.iw.by S7;have tp7:ah K H7 pv (ps.map N):=ah.same S7 _ _ G.tp;have tv7:ah K H7 wv (done.map TW):=ah.same S7 _ _ G.tv;have hps:=G.len;have hpvl:=tp7.length;rw[wl]at hpvl;clear n7 e7 S7
     by_cases he:az ps left=[]
     . rw[decide_eq_false (by simpa using he)]
       have w1:=G.w1;have w2:=G.w2;rw[mD he]at w1 w2;rw[vK]at w1;have eps:ps=(dY ra rb xs).2.2:=congrArg XG w2;have elf:left=(dY ra rb xs).2.1:=congrArg XF w2;have hph:gX left ps=cZ ra rb xs:=by rw[cZ,<- eps,<- elf]
       o_head yy (bX ep7 tp7) ?_;rw[hps];o_head PK (n:=(xs.length:Int)) () () (o0:=none) (tl:=[some (.ref lg),some (.ref lp)]) rfl (λj y H'=>Is K H' y (N ((gX left ps).getD j 0))) ?_ ?_
       . intro D i zs o H8 hi inv
         have hi':i<xs.length:=by simpa using hi
         have S8:=inv.same;o_head Na (aE.of (S8 _ _ eg7)) ?_;have hg:=G.gn i hi';k_few
         . rename_i z
           refine cU (r:=0) rfl rfl (λv9 H9 S9 i9=>?_);exact dQ inv () eG ⟨_,rfl⟩ S9 (by rw[lX (),if_neg (hg.mp z)];exact i9)
         . rename_i z
           refine gL (bX (S8 _ _ ep7) (ah.same S8 _ _ tp7)) () () (λv9 i9=>?_);rw[wx]at i9;exact dQ inv () eG ⟨_,rfl⟩ (ar.refl _) (by rw[lX (),if_pos (by exact We.mp λy=>z (hg.mpr y))];exact i9)
       . intro D zs H8 hn8 S8 hD8 hl8 hr8
         have tz:ah K H8 zs ((gX left ps).map N):=eH (by rw[hl8,CY];lia) hr8;rw[hph]at tz;have tv8:=ah.same S8 _ _ tv7;have ev8:=S8 _ _ ev7;rw[w1]at tv8;o_head fR (bX hD8 tz) (λv9 H9 S9 i9=>?_);o_head c6 (ds:=[N (1-aU xs),.list ((cW ra rb xs).map TW),TN (cZ ra rb xs)]) ∅ (.cons (iw7.by (S8.trans S9)) (.cons (ck.mpr ⟨lv,wv,rfl,.of (S9 _ _ ev8),ah.same S9 _ _ tv8⟩) (.cons i9 .nil))) (λv10 H10 S10 i10=>?_);exact q v10 H10 (T7.trans (S8.trans (S9.trans S10))) i10
     . rw[decide_eq_true he]
       o_head nW ?_;have hwl:=tv7.length;rw[wl]at hwl;have hlen:=zW ps left;have hgl:=G.gl;have hpos:0<(az ps left).length:=Wx.mpr he;o_head h_ (aE.of ev7) ?_;o_head rK (.of eW7) (λlt H8 n8 S8 e8=>?_);have it8:Is K H8 (.ref lt) (TW (az ps left)):=tW.mpr ⟨lt,rfl,.of e8⟩;k_few;have ev8:=S8 _ _ ev7;refine iD ev8 () (λH9 E9 e9=>?_);have K9:a_ H8 H9:=E9.keep ev8;have T9:ar H H9:=(T7.trans S8).grow G.hv E9;have ep9:=E9 _ _ G.j4 (S8 _ _ ep7);have eg9:=E9 _ _ G.ngv (S8 _ _ eg7);have eW9:=E9 _ _ G.nWv (S8 _ _ eW7);have KK:=S8.keep.trans K9;have tp9:ah K H9 pv (ps.map N):=ah.keep KK _ _ (dZ _) tp7;have iw9:=iw7.df KK
       have tv9:ah K H9 (wv++[.ref lt]) ((done++[az ps left]).map TW):=by
         rw[wX];exact(ah.keep KK _ _ (nH _) tv7).snoc (it8.ik K9 (y8 _))
       clear ep7 ev7 eg7 eW7 iw7 tp7 tv7 T7 it8 ev8 e8 KK;o_head jV eg9 eW9 (WA (gF (by rw[gr,gr];lia))) (λlg2 H10 n10 S10 e10=>?_);rw[show vz gone++vz (az ps left)=vz (gone++az ps left) by unfold vz;rw[wX]]at e10;o_head gG (aE.of (S10 _ _ eW9)) ?_;rw[gr];o_head Se (hr'.by (T9.trans S10)) ba bb () () (λvpush H11 S11 ipush=>?_);rw[wx]at ipush;have bf:af 90 (ra^(az ps left).length):=(ba.pow _).mono ();have bg:af 1500 (aC ra rb (az ps left).length):=(ba.aC bb _).mono ();have T11:=S10.trans S11;have ep11:=T11 _ _ ep9;have tp11:ah K H11 pv (ps.map N):=ah.same T11 _ _ tp9;have eg11:=S11 _ _ e10;have ev11:=T11 _ _ e9;have iw11:=iw9.by T11;have tv11:ah K H11 (wv++[.ref lt]) ((done++[az ps left]).map TW):=ah.same T11 _ _ tv9;have rg':=G.rg.bK (az ps left);have ndl:=rg'.nodup;have ltl:=rg'.lt;have nGp:lg2≠lp:=kz n10 ep9;have nGv:lg2≠lv:=kz n10 e9
       have gn':∀w,w<xs.length->(w∈gone++az ps left ↔ w ∉ bK left (az ps left)):=λw hw=>by
         have:=G.gn w hw;rw[vY,this];unfold bK;rw[wU]
         by_cases z1:w∈left<;>by_cases z2:w∈az ps left<;>simp[z1,z2]
       have TT:=T9.trans T11;have hx11:=hx'.by TT;generalize hL:bK left (az ps left)=left' at *;clear S10 S11 T9 T11 ep9 tp9 e10 e9 iw9 tv9 eg9 eW9 n10;o_head yl hx11 ?_;refine iX (n:=(xs.length:Int)) () () (λi σ'' H''=>∃o pv',σ''=[some x0,some (.ref ap),some vm,some vw,some (.ref lp),some (.ref lW),some (.ref lv),some (.ref lg2),some vpush,o]/\Exc lp H11 H''/\H'' lp=some (.lst pv')/\ah K H'' pv' ((cF (ra^(az ps left).length) (aC ra rb (az ps left).length) ps ((wo i).filter λw=>decide (w∈left'))).map N)) ⟨_,pv,rfl,Exc.refl _ _,ep11,tp11⟩ ?_ ?_
       . rintro i σ'' H12 hi ⟨o,pv',rfl,E12,e12,t12⟩
         have hi':i<xs.length:=by simpa using hi
         have K12:a_ H11 H12:=E12.keep ep11;have hpl:=gR (ra^(az ps left).length) (aC ra rb (az ps left).length) ((wo i).filter λw=>decide (w∈left')) ps;have hgi:=gn' i hi';o_head MI (aE.of (E12 _ _ nGp eg11)) ?_;k_few
         . rename_i z v13 i13
           have hin:i∈left':=We.mp λy=>z (hgi.mpr y)
           have bq:af 3950 ((cF (ra^(az ps left).length) (aC ra rb (az ps left).length) ps ((wo i).filter λw=>decide (w∈left'))).getD i 0):=by
             rw[jn _ _ _ _ (WK.filter _) (λw hw'=>by rw[hps];exact ltl w (of_decide_eq_true (wU.mp hw').2)),if_neg]
             . exact bp _
             . intro hm
               have:=wF.mp (wU.mp hm).1;lia
           have ip12:=ipush.ik K12 (uK _ _);generalize hqs:cF (ra^(az ps left).length) (aC ra rb (az ps left).length) ps ((wo i).filter λw=>decide (w∈left'))=qs at *;generalize hfa:ra^(az ps left).length=fa at *;generalize hgb:aC ra rb (az ps left).length=gb at *;have bpr:af 4040 (fa*qs.getD i 0):=(bf.mul bq).mono ⋯;refine gL (bX e12 t12) () () (λv14 i14=>?_);rw[wx]at i14;k_few;rename_i v15 H15 S15 i15 v16 i16 v17 H17 S17 i17;have S17':=S15.trans S17;have e17:=S17' _ _ e12;have hvl:=t12.length;rw[wl]at hvl;refine oy (j:=i) e17 (by unfold gB;rw[if_pos (),if_pos ()];simp) (λH18 E18 e18=>?_);refine⟨_,_,rfl,E12.trans (S17'.exc.trans E18),e18,?_⟩;have K18:=E18.keep e17;rw[zA0 hin,UW,hqs];refine eH (by rw[Wt,Wt];exact hvl) (λj v hj=>?_);rw[WN]at hj
           by_cases hjw:i=j
           . subst hjw
             rw[if_pos rfl,if_pos ()]at hj;cases hj;rw[pz ()];exact i17.df K18
           . rw[if_neg hjw]at hj
             rw[sj hjw];obtain⟨_,ij⟩:=cg t12 hj;exact(ij.by S17').df K18
         . rename_i z
           have hout:i ∉ left':=hgi.mp (by first | exact z | exact We.mp z);refine⟨_,pv',rfl,E12,e12,?_⟩;rw[zAt hout];exact t12
       . rintro σ'' H12 ⟨o,pv',rfl,E12,e12,t12⟩
         rw[wx,<- show left'=(wo xs.length).filter (λw=>decide (w∈left'))from rg']at t12;have K12:a_ H11 H12:=E12.keep ep11
         have cm12:Cm (m+2+21*(xs.length-left'.length)) (cF (ra^(az ps left).length) (aC ra rb (az ps left).length) ps left'):=by
           have c0:Cm (m+2+21*(xs.length-left.length)) (0::ps):=G.cm.gf λy hy=>by rcases wL.mp hy with rfl | hy;(exact .inr rfl);exact .inl hy
           exact((c0.wave ba bb (az ps left).length ndl (λw hw'=>by rw[hps];exact ltl w hw')).gf λy hy=>.inl (wA _ hy)).mono ()
         have hpl:=gR (ra^(az ps left).length) (aC ra rb (az ps left).length) left' ps;have w1:=G.w1;have w2:=G.w2;have hfl:=G.fl;obtain⟨f',rfl⟩:∃f',f=f'+1:=⟨f-1,by lia⟩;rw[jb he,hL]at w1 w2;generalize hqs:cF (ra^(az ps left).length) (aC ra rb (az ps left).length) ps left'=qs at *;have hends:=rg'.ends qs;have bq:∀i,af 3950 (qs.getD i 0):=λi=>(cm12.get i).mono ()
         have eg12:=E12 _ _ nGp eg11;have ev12:=E12 _ _ G.j4.symm ev11;have TX:=TT.grow G.hp E12;have hvl:=t12.length;rw[wl]at hvl;o_head yy (bX e12 t12) ?_;rw[hpl,hps];o_head Af (n:=(xs.length:Int)) () () (λD i ys σ' H'=>(∃o,σ'=[o,some (.ref lg2),some (.ref lp)])/\H12 D=none/\ar H12 H'/\H' D=some (.lst (vz ((wo i).filter λw=>decide (w∈left') && !decide (qs.getD w 0<1))))) (λD H' n s e=>⟨⟨_,rfl⟩,n,s,e⟩) ?_ ?_
         . rintro D i zs σ' H13 hi ⟨⟨o,rfl⟩,n13,S13,e13⟩
           have hi':i<xs.length:=by simpa using hi
           have hfl2:((wo i).filter λw=>decide (w∈left') && !decide (qs.getD w 0<1)).length<=i:=by
             have:=vS (λw=>decide (w∈left') && !decide (qs.getD w 0<1)) (wo i);rw[vc]at this;exact this
           have hgi:=gn' i hi';have bqi:=bq i;o_head MI (aE.of (S13 _ _ eg12)) ?_;k_few
           . rename_i z
             have hin:i∈left':=We.mp λy=>z (hgi.mpr y)
             refine gL (bX (S13 _ _ e12) (ah.same S13 _ _ t12)) () () (λv14 i14=>?_);rw[wx]at i14;o_head cU (r:=1) rfl rfl (λv15 H15 S15 i15=>?_);have i14:=i14.by S15;have e15:=S15 _ _ e13;k_few
             . rename_i z2
               refine ji e15 (by rw[gr];lia) (λH16 E16 e16=>⟨⟨_,rfl⟩,n13,(S13.trans S15).grow n13 E16,?_⟩);rw[kl (n:=i),if_pos,sE]
               . exact e16
               . rw[decide_eq_true hin,decide_eq_false z2];rfl
             . rename_i z2
               refine⟨[],⟨_,rfl⟩,n13,S13.trans S15,?_⟩;rw[kl (n:=i),if_neg,vK]
               . exact e15
               . rw[decide_eq_true hin,decide_eq_true (show qs.getD i 0<1 by first | exact z2 | exact We.mp z2)];simp
           . rename_i z
             have hout:i ∉ left':=hgi.mp (by first | exact z | exact We.mp z);refine⟨[],⟨_,rfl⟩,n13,S13,?_⟩;rw[kl (n:=i),if_neg,vK]
             . exact e13
             . rw[decide_eq_false hout];simp
         . rintro lW2 zs σ' H13 ⟨_,n13,S13,e13⟩
           rw[wx,<- hends]at e13;o_head ⟨left'.length,by lia,lW2,lg2,left',qs,done++[az ps left],f',pv',wv++[V.ref lt],gone++az ps left,_,_,rfl,rfl,?_⟩;have KA:=K12.trans S13.keep;exact⟨TX.trans S13,G.hp,G.hv,iw11.df KA,G.j4,kz n13 e12,kz n13 ev12,nGp,nGv,S13 _ _ e12,ah.same S13 _ _ t12,e13,S13 _ _ ev12,ah.keep KA _ _ (nH _) tv11,S13 _ _ eg12,gn',by rw[wN];lia,rg',by rw[hpl];exact hps,by lia,by rw[wN];simp;lia,cm12,by rw[W2];exact w1,w2⟩
def RK(xs:List Rat):wD:=.tuple [LZ (aW xs),LN (bC xs)]
theorem L8(xs:List Rat)(v:Rat):(eI xs v).length=xs.count v:=by
 have e:(wo xs.length).map (λw=>xs.getD w 0)=xs:=by
  refine g6 ∅ λi hi=>?_
  rw[wl,vc]at hi;rw[wb,wq,vE hi]
  rfl
 have:xs.count v=((wo xs.length).map (λw=>xs.getD w 0)).count v:=by rw[e]
 rw[this];unfold eI List.count;rw[X6,<- Qm];refine List.countP_congr λw _=>?_
 simp
def GF(xs ds:List Rat):List Int:=ds.map λv=>((eI xs v).length:Int)
def My(K:wa):Sp:=λvs H Q _=>∃x0,vs=[x0] /\ ∃(xs:List Rat),(Is K H x0 (LN xs)\/Is K H x0 (TN xs))/\1<=xs.length/\xs.length<=8/\(∀i,af 4000 (xs.getD i 0))/\Rs K H Q (RK xs)
theorem Th{v:V}(h:Is K H v (LN xs)\/Is K H v (TN xs))(h1:1<=xs.length)(h8:xs.length<=8)(b:∀i,af 4000 (xs.getD i 0))(q:Rs K H Q (RK xs)):My K [v] H Q E:=⟨_,rfl,xs,h,h1,h8,b,q⟩
theorem Od(T:Txt K mg a):aF P w K mg base aN 3 a.JQ a.Ih yA (My K):=by
 refine T.A6.F.ok nJ ?_ ?_;wtm_at "b1"
 refine⟨_,(ai (ay 1 nJ.nd (iY (show bS _ (.type "list") (fS K)from jS) rfl T.h0m gT (q1 0)))
     (ai (ay 2 nJ.nd (dy ag))
     (ai (ay 3 nJ.nd (dy ag))
     (ai (lD w5 (hW K hu (pv 1) (dy ag)) (ai (ay 4 nJ.nd (ak (EY T) hr T.sM (q1 1)))
     (ai (jq (iN vH vN vO iJ (pv 2) (ae (iN vH qK PySem.F.type_list_count (show Cd _ "list.count" (Bx K)from zxA hu) (pv 1) (q1 4)) ag)))
     (ai (jq (iN vH vN vO iJ (pv 3) (q1 4)))
     (av (jR (i:=1) nJ.nd rfl (Or.inl rfl) rfl (cP ["_law_one","_law_high_here"] [none,some 4]) (eY (pv 1)) (λ_ _ _ _ _=>(cq 0)) (λ_ _ _ _ _=>(lU (hW K hu (pv 0) (pv 1)))) (λ_ _ _ _ _=>(pv 0))))))))
     (av (aA (aQ (ae (pv 2) (ae (kS lq (pv 3) lZ (lH (fo fA au))) ag))))))))),?_⟩
 wtm_at "cl";rw[show start PV [x0]=[some x0,none,none,none,none]from rfl];obtain⟨xs,hx,h1,h8,bx,q⟩:=h;k_few
 have fstL:∀{Q':VK},(∀ll H' us,H ll=none->ar H H'->H' ll=some (.lst us)->ah K H' us (xs.map N)->Q' (.ref ll) H')->fS K [x0] H Q':=λq'=>by
   rcases hx with h | h
   . exact Rf h (λl H' ys n S e t=>q' l H' ys n S e t)
   . exact pU h (λl H' ys n S e t=>q' l H' ys n S e t)
 refine fstL (λll H1 us n1 S1 e1 t1=>?_);o_head dC ∅ (λls H2 n2 S2 e2=>?_);have nls:ll≠ls:=λz=>by subst z;rw[e1]at n2;cases n2
 o_head dC ∅ (λlf H3 n3 S3 e3=>?_);have e23:=S3 _ _ e2;have nlf:ll≠lf:=λz=>by subst z;rw[S2 _ _ e1]at n3;cases n3
 have nsf:ls≠lf:=λz=>by subst z;rw[e2]at n3;cases n3
 have ns0:H ls=none:=fm S1 n2;have nf0:H lf=none:=fm S1 (fm S2 n3);have S03:=S1.trans (S2.trans S3);o_head oC (λm σ' H'=>∃(ll:we)(left done:List Rat)(us ws:List V)(f:Nat)(o4:Option V),σ'=[some x0,some (.ref ll),some (.ref ls),some (.ref lf),o4]/\m=left.length/\ar H H'/\ll≠ls/\ll≠lf/\H' ls=some (.lst ((GF xs done).map V.int))/\H' lf=some (.lst ws)/\ah K H' ws (done.map N)/\H' ll=some (.lst us)/\ah K H' us (left.map N)/\(∀y∈left,y∈xs/\left.count y=xs.count y)/\left.length<=f/\done.length+left.length<=xs.length/\done++gc f left=aj xs) _ ⟨ll,xs,[],us,[],xs.length,_,rfl,rfl,S03,nls,nlf,e23,e3,.nil,(S2.trans S3) _ _ e1,ah.same (S2.trans S3) _ _ t1,λy h=>⟨h,rfl⟩,wp _,by simp,rfl⟩ ?_;rintro m σ' H4 ⟨ll,left,done,us,ws,f,o4,rfl,rfl,S4,nls,nlf,es,et,tt',el,tl',sub,hf,hdl,heq⟩;o_head dC ∅ (λl5 H5 n5 S5 e5=>?_);have el5:=S5 _ _ el;have et5:=S5 _ _ et;have es5:=S5 _ _ es;have tl5:ah K H5 us (left.map N):=ah.same S5 _ _ tl';have tt5:ah K H5 ws (done.map N):=ah.same S5 _ _ tt'
 refine zzs (bX el5 tl5) (ck.mpr ⟨l5,[],rfl,.of e5,.nil⟩) (n:=4) (Fg λd hd=>by
   obtain⟨x,_,rfl⟩:=wR.mp hd;exact(lB x).mono ⋯) ⋯ ?_
 have hwl:=tt5.length;rw[wl]at hwl;rw[show(!(left.map N).isEmpty) = !left.isEmpty by cases left<;>rfl]
 by_cases he:left=[]
 . rw[show(!left.isEmpty)=false by rw[he];rfl]
   rw[he,p6,vK]at heq;subst heq;o_head mH (bX et5 tt5) (λl6 H6 us6 n6 S6 e6 t6=>?_);rw[ny,<- qQ]at t6;o_head c6 (ds:=[LZ (aW xs),LN (bC xs)]) ∅ (.cons (zEU (S6 _ _ es5)) (.cons (bX e6 t6) .nil)) (λv7 H7 S7 i7=>?_);exact q v7 H7 (S4.trans (S5.trans (S6.trans S7))) i7
 . rw [show (!left.isEmpty) = true by cases left with
       | nil=>exact absurd rfl he
       | cons y l=>rfl]
   have hpos:=Wx.mpr he
   have bl:∀i,af 4000 (left.getD i 0):=λi=>by
     rcases wG i left.length with z | z
     . exact DM bx (sub _ (getD_mem z)).1
     . rw[wb,wI z];exact af.zero.mono ⋯
   obtain⟨f',rfl⟩:∃f',f=f'+1:=⟨f-1,by lia⟩;rw[lz he]at heq;have hless:=zI he;have hcx:=(sub _ (fG hpos)).2;o_head nW ?_;o_head Ej (.inl (bX el5 tl5)) hpos bl (λvm im=>?_);o_head h_ (aE.of es5) ?_;o_head h_ (aE.of el5) ?_;o_head zxW el5 tl5 im ?_;rw[hcx,<- L8];o_head iD es5 (by rw[wl,GF,wl];lia) (λH6 E6 e6=>?_);have K6:=E6.keep es5;have el6:=E6 _ _ nls el5;have et6:=E6 _ _ (WB nsf) et5;have im6:=im.df K6;o_head h_ (aE.of et6) ?_;o_head iD et6 () (λH7 E7 e7=>?_);have K7:=E7.keep et6;have el7:=E7 _ _ nlf el6;have es7:=E7 _ _ nsf e6;have im7:=im6.df K7;have tl7:ah K H7 us (left.map N):=ah.keep (K6.trans K7) _ _ (dZ _) tl5
   have tt7:ah K H7 (ws++[vm]) ((done++[aU left]).map N):=by
     rw[wX];exact(ah.keep (K6.trans K7) _ _ (dZ _) tt5).snoc im7
   have S7:ar H H7:=((S4.trans S5).grow ns0 E6).grow nf0 E7;generalize hmx:aU left=mxx at *;o_head oG (.of el7) (λD i ys σ' H'=>(∃o,σ'=[o,some vm])/\H7 D=none/\ar H7 H'/\H' D=some (.lst ys)/\ah K H' ys (((left.take i).filter λy=>!decide (y=mxx)).map N)) (λD H' n s e=>⟨⟨_,rfl⟩,n,s,e,.nil⟩) (λD i ys σ' H' h=>h.2.2.1.seq (.of el7)) ?_ ?_
   . rintro D i x ys σ' H8 hx ⟨⟨o,rfl⟩,n8,S8,e8,t8⟩
     obtain⟨hi,ix⟩:=cg tl7 hx;have ix8:=ix.by S8;have im8:=im7.by S8;have hyl:=t8.length;rw[wl]at hyl;have hfl:=vS (λy=>!decide (y=mxx)) (left.take i);rw[Wo]at hfl;k_few
     . rename_i z
       refine ji e8 () (λH9 E9 e9=>⟨⟨_,rfl⟩,n8,S8.grow n8 E9,e9,?_⟩);have K9:=E9.keep e8;rw[fO hi,Wl,Wp,decide_eq_false z,wX];exact(ah.keep K9 _ _ (dZ _) t8).append (.cons (ix8.df K9) .nil)
     . rename_i z
       refine⟨ys,⟨_,rfl⟩,n8,S8,e8,?_⟩;rw[fO hi,Wl,Wp,decide_eq_true (by first | exact z | exact We.mp z)];have:([]:List Rat).filter (λy=>!decide (y=mxx))=[]:=rfl
       simpa using t8
   . rintro D ys σ' H8 ⟨_,n8,S8,e8,t8⟩
     have hul:=tl7.length;rw[wl]at hul;rw[hul,Wb]at t8;o_head ⟨(left.filter λy=>!decide (y=mxx)).length,by lia,D,_,done++[mxx],ys,ws++[vm],f',_,rfl,rfl,S7.trans S8,(λz=>by subst z;rw[es7]at n8;cases n8),(λz=>by subst z;rw[e7]at n8;cases n8),?_,S8 _ _ e7,ah.same S8 _ _ tt7,e8,t8,λy hy=>?_,by lia,by rw[wN];simp only[vV];lia,by rw[W2];exact heq⟩
     . have e:=S8 _ _ es7
       unfold GF at e ⊢;rw[wX,wX];exact e
     . obtain⟨hy1,hy2⟩:=wU.mp hy
       have:=sub y hy1;exact⟨this.1,by rw[List.count_filter (p:=λy=>!decide (y=mxx)) hy2];exact this.2⟩
theorem Cm.Kz{m:Nat}{h:Rat}{xs:List Rat}{a b:Rat}{ns:List Int}(c:Cm m (h::xs))(ba:af 10 a)(bb:af 10 b):∀k,k<=ns.length->Cm (m+2*k+21*upTo ns k) ((h+dA a b ns xs k)::aJ a b ns xs k)
 | 0,_=>by
  have e:h+dA a b ns xs 0=h:=by rw[dA];grind
  rw[e];exact c.mono ()
 | k+1,hk=>by
  have:=(Cm.Kz c ba bb (ns:=ns) k ()).Kw ba bb (ns.getD k 0).toNat k;have e:h+dA a b ns xs (k+1)=h+dA a b ns xs k+(1-(aJ a b ns xs k).getD k 0):=by rw[dA];grind
  rw[aJ,e];refine this.mono ?_;rw[nP ()];lia
theorem zyw{a:Rat}(hl:ns.length=xs.length+1)(hn:∀n∈ns,0<=n)(k:Nat):cK a b ns (bL a b ns k xs)=bL a b ns (k+1) xs:=by
 rw[<- pN (by rw[cA];exact hl) hn,DI]
theorem Ye{a b:Rat}{ns:List Int}{xs:List Rat}{m:Nat}(ok:aR a b)(sz:cJ ns)(hl:ns.length=xs.length+1)(c:Cm m xs):∀k,Cm (m+184*k) (gx a b ns xs k::bL a b ns k xs)
 | 0=>by
  rw[mI];refine(c.mono ()).gf λy hy=>?_
  rcases wL.mp hy with rfl | hy
  ·exact .inr rfl
  ·exact .inl hy
 | k+1=>by
  have h8:=sz.bZ;have hu:=sz.upTo
  have h1:Cm (m+184*k) (gx a b ns xs k::(bL a b ns k xs++[0])):=(Ye ok sz hl c k).gf λy hy=>by
   rcases wL.mp hy with rfl | hy
   ·exact .inl (wE ..)
   ·rcases vY.mp hy with h | h
    ·exact .inl (wA _ h)
    ·exact .inr (w6.mp h)
  have h2:=(Cm.Kz h1 ok.ba ok.bb (ns:=ns) ns.length (wp _)).mono (show _<=m+184*(k+1) by lia);refine jk h2 λy hy=>?_
  rcases wL.mp hy with rfl | hy
  ·exact wE ..
  ·rw[<- zyw hl sz.nn k]at hy
   exact wA _ (xD _ hy)
theorem F5(a b:Rat)(ns:List Int)(xs:List Rat):fq a b ns xs ns.length=cz a b ns xs:=by
 have h:∀j,fq a b ns xs j=dA a b ns (xs++[0]) j:=λj=>by
  induction j with
  | zero=>rfl
  | succ j ih=>rw[fq,dA,ih]
 exact h _
theorem Ud(A B:Rat)(f:Nat->Rat)(n:Nat):GM.sumTo (λk=>A+f k*B) n=((n:Int):Rat)*A+GM.sumTo f n*B:=by
 rw[C1,Rt]
 congr 1
 rw[VM (GM.sumTo f n) B,<- yi];exact mZ n λk _=>VM ..
theorem MN:∀n:Nat,GM.sumTo (λk=>((k:Int):Rat)) n=((((n:Int)*((n:Int)-1)).fdiv 2:Int):Rat)
 | 0=>by decide
 | n+1=>by
  rw[GM.sumTo,MN n,<- VT]
  congr 1
  rw[Wr _ ⋯,Wr _ ⋯]
  have e:(((n+1:Nat):Int))*(((n+1:Nat):Int)-1)=(n:Int)*((n:Int)-1)+2*(n:Int):=by
   push_cast
   generalize (n:Int)=z
   have:(z+1)*(z+1-1)=z*(z-1)+2*z:=by
    rw[show z+1-1=z by lia,XE,Int.mul_sub,qR,Qq];lia
   exact this
  rw[e,Int.add_mul_ediv_left _ _ ⋯]
theorem zvs(hl:ns.length=xs.length+1)(n:Nat):gx 1 b ns xs n=((n:Int):Rat)*cz 1 b ns xs+((((n:Int)*((n:Int)-1)).fdiv 2:Int):Rat)*(cz 1 b ns (bL 1 b ns 1 xs)-cz 1 b ns xs):=by
 unfold gx;rw[<- MN,<- Ud];exact mZ n λk _=>by rw[zyF k,BQ _ hl (cA ..).symm]
theorem zxb{a:Rat}(hF:a^ns.sum.toNat≠1)(hl:ns.length=xs.length+1)(n:Nat):gx a b ns xs n=((n:Int):Rat)*cz a b ns (bQ a b ns)+(1-(a^ns.sum.toNat)^n) / (1-a^ns.sum.toNat)*(cz a b ns xs-cz a b ns (bQ a b ns)):=by
 have hs:(bQ a b ns).length=xs.length:=by rw[kG ()];lia
 unfold gx
 have e:(1-(a^ns.sum.toNat)^n) / (1-a^ns.sum.toNat)=GM.sumTo (λk=>(a^ns.sum.toNat)^k) n:=by
  rw[Gd];generalize a^ns.sum.toNat=F at *;have hg:1-F≠0:=λe=>hF (by grind)
  have h1:(1 / (1-F))*(1-F)=1:=WJ hg;rw[CO h1 n];have h2:(1-F^n) / (1-F)=(1-F^n)*(1 / (1-F)):=by rw[qU,qU,Qr]
  rw[h2]
  grind
 rw[e,<- Ud];exact mZ n λk _=>by rw[MT hF hl k,BQ _ () hs]
def Po(K:wa):Sp:=λvs H Q _=>∃x0 x1 x2 x3,vs=[x0,x1,x2,x3] /\ ∃(a b:Rat)(ns:List Int)(xs:List Rat)(n:Int)(p1:we),x3=.int n/\x1=.ref p1/\Is K H x0 (R a b)/\aE K H p1 (ns.map V.int)/\Is K H x2 (LN xs)/\ns.length=xs.length+1/\0<=n/\dG a b ns n.toNat/\(∀i,af 2500 (xs.getD i 0))/\Cm 2100 xs/\(a=1->Cm 100 xs)/\Rs K H Q (N (gx a b ns xs n.toNat))
theorem ztc{a:Rat}{n:Int}{v:V}(h1:Is K H v (R a b))(h2:aE K H p1 (ns.map V.int))(h3:Is K H u (LN xs))(hl:ns.length=xs.length+1)(n0:0<=n)(ok:dG a b ns n.toNat)(bx:∀i,af 2500 (xs.getD i 0))(c:Cm 2100 xs)(ce:a=1->Cm 100 xs)(q:Rs K H Q (N (gx a b ns xs n.toNat))):Po K [v,.ref p1,u,.int n] H Q E:=⟨_,_,_,_,rfl,a,b,ns,xs,n,p1,rfl,rfl,h1,h2,h3,hl,n0,ok,bx,c,ce,q⟩
theorem ztH(T:Txt K mg a):aF P w K mg base aN 7 a.J1 a.Im yC (Po K):=by
 refine T.IY.F.ok oj ?_ ?_;wtm_at "b4"
 refine⟨_,(ai (ay 4 oj.nd (eA (ak (ke T) hr T.jz (q3 0 1 2))))
     (ai (aV (d5 K hu (qi 0) (aQ (ae au (ae au ag)))) (ai (ay 5 oj.nd (ak (lM T) hr T.j_ (ae (eA (ak (ke T) hr T.jz (ae (pv 0) (ae (pv 1) (ae (ak (BV T) hr T.sI (by exact(@ae _ _ _ _ _ (pv 0) (@ae _ _ _ _ _ (pv 1) (@ae _ _ _ _ _ (pv 2) (@ae _ _ _ _ _ au ag B_) cu) cu) cu))) ag))))) (q1 4))))
     (av (aA (ak (iA T) hr T.gM (ae (ak (ky T) hr T.jy (ae (aQ (ae (pv 3) (ae au ag))) (q1 4))) (ae (ak (ky T) hr T.jy (ae (aQ (ae (aB fe (aB cE (pv 3) (aB hZ (pv 3) au)) au) (ae au ag))) (q1 5))) ag)))))) aX)
     (ai (ay 6 oj.nd (eA (ak (ke T) hr T.jz (ae (pv 0) (ae (pv 1) (ae (ak (Aq T) hr T.oW (q2 0 1)) ag))))))
     (ai (ay 7 oj.nd (ak (pM T) hr T.ng (ae (qi 0) (ae (c7 (show bS _ (.builtin "sum") (sr K)from Df rfl) rfl T.h0u zq (q1 1)) ag))))
     (ai (ay 8 oj.nd (ak (Ma T) hr T.A5 (ae (ak (lM T) hr T.j_ (ae (aQ (ae au (ae au ag))) (ae (ak (pM T) hr T.ng (q2 7 3)) ag))) (ae (ak (lM T) hr T.j_ (ae (aQ (ae au (ae au ag))) (q1 7))) ag))))
     (av (aA (ak (iA T) hr T.gM (ae (ak (ky T) hr T.jy (ae (aQ (ae (pv 3) (ae au ag))) (q1 6))) (ae (ak (ky T) hr T.jy (ae (pv 8) (ae (ak (lM T) hr T.j_ (q2 4 6)) ag))) ag)))))))))),?_⟩
 wtm_at "cl";rw[show start Tx [x0,x1,x2,x3]=[some x0,some x1,some x2,some x3,none,none,none,none,none]from rfl];obtain⟨ra,rb,ns,xs,n,p1,rfl,rfl,hr',hn',hx',hl,n0,ok,bx,c,ce,q⟩:=h;have h8:=ok.sz.bZ;have h1:=ok.sz.some;have hu:=ok.sz.upTo;have hps:=ok.sz.pos;have h60:=ok.bZ;have hkk:=ok.k;obtain⟨n,rfl⟩:∃j:Nat,n=(j:Int):=⟨n.toNat,by lia⟩;rw[wx]at q ok h60 hkk;have tb:∀{m:Nat}{ys:List Rat},Cm m ys->af (m+184) (cz ra rb ns ys):=λ{m ys} cy=>((cy.snoc.tm ok.ok.ba ok.ok.bb (ns:=ns) ns.length (wp _)).dM (wE ..)).mono ()
 have bT:=tb c;have rc:=kJ ok.ok ok.sz hl c ⋯;have bn:af 6 ((n:Int):Rat):=Bp h60;o_head ku hr' hn' (.inl hx') rc.1 rc.2.1 rc.2.2 (λv1 H1 S1 i1=>?_);rw[F5]at i1;o_head aD (j:=1) i1 rfl (λv2 i2=>?_);have hr1:=hr'.by S1;k_few;rename_i va ia;refine cU (r:=1) rfl rfl (λv3 H3 S3 i3=>?_);refine tX (ia.by S3) i3 ?_;have T3:=S1.trans S3;k_few
 . rename_i ha
   subst ha;have c:=ce rfl;have bT:=tb c;have led1:dG 1 rb ns 1:=⟨ok.ok,ok.sz,by decide,by have:=ok.sz.sum;lia⟩;refine EM (hr'.by T3) (T3.seq hn') (hx'.by T3) hl ⋯ led1 bx (λl4 H4 us n4 S4 e4 t4=>?_);have i4:Is K H4 (.ref l4) (LN (bL 1 rb ns 1 xs)):=bX e4 t4;have T4:=T3.trans S4;have c1:Cm 1774 (bL 1 rb ns 1 xs):=(jk (Ye ok.ok ok.sz hl c 1) λy hy=>wA _ hy).mono ⋯;have rc1:=kJ ok.ok ok.sz (by rw[cA];exact hl) c1 ⋯;have bT1:=tb c1;o_head ku (hr'.by T4) (T4.seq hn') (.inl i4) rc1.1 rc1.2.1 rc1.2.2 (λv5 H5 S5 i5=>?_);rw[F5]at i5;o_head aD (j:=1) i5 rfl (λv6 i6=>?_);have i25:=i2.by (S3.trans (S4.trans S5));o_head lE i6 i25 bT1 bT ⋯ (λv7 H7 S7 i7=>?_);have T7:=T4.trans (S5.trans S7);have i27:=i25.by S7;have bst:af 3800 (cz 1 rb ns (bL 1 rb ns 1 xs)-cz 1 rb ns xs):=(bT1.sub bT).mono ⋯;have bT':af 1774 (cz 1 rb ns xs):=bT.mono ⋯
   have hm0:0<=(n:Int)*((n:Int)-1)/\(n:Int)*((n:Int)-1)<=3600:=by
     rcases qD n with z | z
     . subst z;decide
     . exact⟨xv () (),by
         have:=um (show(n:Int)<=60 by lia) (show(n:Int)-1<=60 by lia) () ⋯;lia⟩
   have hf0:0<=((n:Int)*((n:Int)-1)).fdiv 2/\((n:Int)*((n:Int)-1)).fdiv 2<=1800:=by rw[Wr _ ⋯];lia
   have bh:af 11 (((((n:Int)*((n:Int)-1)).fdiv 2:Int)):Rat):=by
     have e:(2:Nat)^11=2048:=by decide
     exact⟨⟨by rw[Q7,e];lia⟩,⟨by rw[Q8];decide⟩⟩
   clear i1 i2 ia i3 i5 i6 i25 S3 S4 S5 S7 e4 t4 n4 T3 T4 hr1 i4;o_head zd (λv8 H8 S8 i8=>?_);have i28:=i27.by S8;have i78:=i7.by S8;k_few;rename_i v9 H9 S9 i9;refine zd (λv10 H10 S10 i10=>?_);have i710:=i78.by (S9.trans S10);have i910:=i9.by S10;have b9:af 1780 (((n:Int):Rat)*cz 1 rb ns xs):=(bn.mul bT').mono ⋯;have b11:af 3811 (((((n:Int)*((n:Int)-1)).fdiv 2:Int):Rat)*(cz 1 rb ns (bL 1 rb ns 1 xs)-cz 1 rb ns xs)):=(bh.mul bst).mono ⋯;k_few;rename_i v11 H11 S11 i11 v12 H12 S12 i12;rw[<- zvs hl]at i12;exact q v12 H12 (T7.trans (S8.trans (S9.trans (S10.trans (S11.trans S12))))) i12
 . rename_i ha
   have hF:ra^ns.sum.toNat≠1:=λe=>ha ((kn ok.ok ()).mp e)
   have hne:1-ra^ns.sum.toNat≠0:=λe=>hF (by grind)
   have bF:af 49 (ra^ns.sum.toNat):=(ie ok.ok _).mono ();have hs:(bQ ra rb ns).length=xs.length:=by rw[kG ()];lia
   have cS:Cm 268 (bQ ra rb ns):=AD ok.ok.ba ok.ok.bb h8 hu () hF;have rcS:=kJ ok.ok ok.sz (by rw[hs];exact hl) cS ⋯;have bR:af 452 (cz ra rb ns (bQ ra rb ns)):=tb cS;refine y7 (hr'.by T3) (T3.seq hn') ok.ok ok.sz ha (λl4 H4 us n4 S4 e4 t4=>?_);have T4:=T3.trans S4;o_head ku (hr'.by T4) (T4.seq hn') (.inl (bX e4 t4)) rcS.1 rcS.2.1 rcS.2.2 (λv5 H5 S5 i5=>?_);rw[F5]at i5;o_head aD (j:=1) i5 rfl (λv6 i6=>?_);have T5:=T4.trans S5;have i25:=i2.by (S3.trans (S4.trans S5));have hr5:=hr'.by T5;clear i1 i2 ia i3 i5 S3 S4 S5 e4 t4 n4 T3 T4 hr1;k_few;rename_i vb ib;refine GC (T5.seq hn') ?_;o_head sh ib (yN ok.ok) ⋯ () () () (λv7 H7 S7 i7=>?_);o_head cU (r:=1) rfl rfl (λv8 H8 S8 i8=>?_);k_few;have hkn:(6*ns.sum.toNat+1)*n<=1600:=Wf (vU _ ()) hkk;refine sh (i7.by S8) (ie ok.ok _) () () () (by rw[wx];lia) (λv9 H9 S9 i9=>?_);rw[wx]at i9;have bP:af 1601 ((ra^ns.sum.toNat)^n):=ok.pow (wp _);o_head lE (i8.by S9) i9 af.one bP ⋯ (λv10 H10 S10 i10=>?_);o_head cU (r:=1) rfl rfl (λv11 H11 S11 i11=>?_);o_head lE i11 (i7.by (S8.trans (S9.trans (S10.trans S11)))) af.one bF ⋯ (λv12 H12 S12 i12=>?_);o_head N8 (i10.by (S11.trans S12)) i12 (af.one.sub bP) (af.one.sub bF) ⋯ hne (λv13 H13 S13 i13=>?_);have S513:=S7.trans (S8.trans (S9.trans (S10.trans (S11.trans (S12.trans S13)))))
   have i613:=i6.by S513;have i213:=i25.by S513;have T13:=T5.trans S513;have bO:af 1660 ((1-(ra^ns.sum.toNat)^n) / (1-ra^ns.sum.toNat)):=((af.one.sub bP).div (af.one.sub bF) hne).mono ⋯;clear i6 i7 i8 i9 i10 i11 i12 i25 S7 S8 S9 S10 S11 S12 S13 S513 T5 ib hr5;generalize hO:(1-(ra^ns.sum.toNat)^n) / (1-ra^ns.sum.toNat)=O at *;o_head zd (λv14 H14 S14 i14=>?_);have i614:=i613.by S14;have b15:af 458 (((n:Int):Rat)*cz ra rb ns (bQ ra rb ns)):=(bn.mul bR).mono ⋯;k_few;rename_i v15 H15 S15 i15;refine lE (i213.by (S14.trans S15)) (i614.by S15) bT bR ⋯ (λv16 H16 S16 i16=>?_);have i1316:=i13.by (S14.trans (S15.trans S16));have i1516:=i15.by S16;have bD:af 2740 (cz ra rb ns xs-cz ra rb ns (bQ ra rb ns)):=(bT.sub bR).mono ⋯;have bOD:af 4400 (O*(cz ra rb ns xs-cz ra rb ns (bQ ra rb ns))):=(bO.mul bD).mono ⋯;k_few;rename_i v17 H17 S17 i17 v18 H18 S18 i18;rw[<- hO,<- zxb hF hl]at i18;exact q v18 H18 (T13.trans (S14.trans (S15.trans (S16.trans (S17.trans S18))))) i18
def yn(K:wa):R2:=λx y H Q=>∃d ds,Is K H x d/\Is K H y (.tuple ds)/\Sh 60 d/\vB (.tuple ds)=true/\Q (.bl (!ds.any λe=>w8 e d)) H
theorem SM{X:Cx}(hu:X.A.units+64<WG):bG X (vP .NotIn) (yn X.K):=by
 intro pins s σ H x y v u Q I rx ry h;obtain⟨d,ds,hd,he,sd,se,q⟩:=h;obtain⟨as,h1⟩:=I.reads d x v sd.1 hd rx;obtain⟨bs,h2⟩:=I.reads (.tuple ds) y u se he ry;have sd2:=sd.2;have hm:=QN (Wn ds) d.depth;exact PySem.SeqAt.notIn_tuple_reads h2 h1 (by rw[vB]at se;exact se) sd.1 () ⟨.bl _,H,I,rfl,q⟩
theorem Tr{v w:V}(h:Is K H v (N x))(k:Is K H w (TN xs))(q:Q (.bl (!decide (x∈xs))) H):yn K v w H Q :=
 ⟨N x,xs.map N,h,k,(lB x).mono ⋯,by rw[vB];exact sy xs,by rw[ML];exact q⟩
theorem Mb{v:V}(h:Is K H v (LZ ns)):∃p,v=.ref p/\aE K H p (ns.map V.int):=by
 obtain⟨p,us,rfl,s,t⟩:=ck.mp h;rw[mv.mp t]at s;exact⟨p,rfl,s⟩
theorem zDh{a:Rat}(h:cb a b xs)(c:e_ b.den 47 xs)(h1:a=1)(hj:j<=1024):Cm 100 (ao a b xs j):=by
 subst h1;obtain⟨B,hB,hd,bB,hx⟩:=c;have hov:=(CN h.ok hB hd h.h1 (λx hx'=>let ⟨t,e,_⟩:=hx x hx';⟨t,e⟩) j).1
 have e:B*(((1:Rat).den:Int))^cn 1 b xs j=B:=by
  have:((1:Rat).den:Int)=1:=rfl;rw[this,Int.one_pow,qR]
 rw[e]at hov;have hp:=h.hp.at h.ok.a0 h.ok.b0 j;refine⟨B,hB,bB.mono ⋯,λx hx'=>?_⟩;obtain⟨t,e,bt⟩:=CH (l:=0) hB bB (hov x hx') (hp.nn x hx') (vX (hp.lt x hx'));exact⟨t,e,bt.mono ⋯⟩
theorem TY{a:Rat}(ok:aR a b){ys:List Rat}(hp:dj ys)(h0:0∈ys)(f:iK a b ys k):(∀y∈bL a b (aW ys) k (bC ys),y∈ao a b ys (k*(aj ys).length))/\((wo ys.length).map λw=>(bL a b (aW ys) k (bC ys)++[0]).getD (aH ys w) 0)=ao a b ys (k*(aj ys).length):=by
 obtain⟨hz,hn,hs,L⟩:=rR (a:=a) (b:=b) hp h0;obtain⟨Lr,_⟩:=nT ok L hn (m7 ys) k f;rw[hs]at Lr
 constructor
 ·intro y hy
  obtain⟨j,hj,rfl⟩:=ve hy;obtain⟨w,hw,hf⟩:=Lr.some j (by rw[wN];lia);have e:=Lr.pl.at' w hw;rw[hf,wb (l:=_++_),Wk hj,wc hj]at e;have e:(ao a b ys (k*(aj ys).length)).getD w 0=(bL a b (aW ys) k (bC ys))[j]:=e;rw[<- e];exact getD_mem hw
 ·refine g6 (by simp[bW]) λw hw=>?_
  have hw:w<ys.length:=by simpa using hw
  rw[Lr.pl.at' w (by rw[bW];exact hw),wb (l:=List.map _ _),wq,vE hw]
  rfl
structure FC(a b h:Rat)(ys:List Rat)(r g:Nat):Prop where
 ok:aR a b
 h1:1<=ys.length
 h8:ys.length<=8
 hp:dj ys
 free:1<=r->0∈ys/\iK a b ys r/\r<=30/\Cm 2100 ys/\(a=1->Cm 100 ys)/\Cm 2100 (ao a b ys ((r-1)*(aj ys).length))/\af 4400 (aO a b ys (r*(aj ys).length))
 zr:g<=40
 hb:af 4400 h
 ch:∀t,t<=g->Cm 3500 (ao a b ys (r*(aj ys).length+t))
 bh:∀t,t<=g->af 4400 (h+aO a b ys (r*(aj ys).length+t))
def FI(a b h:Rat)(ys:List Rat)(r g:Nat):wD:=.tuple [N (h+aO a b ys (r*(aj ys).length+g)),TN (ao a b ys (r*(aj ys).length+g))]
def Rc(K:wa):Sp:=λvs H Q _=>∃x0 x1 x2 x3 x4,vs=[x0,x1,x2,x3,x4] /\ ∃(a b h:Rat)(ys:List Rat)(r g:Nat),x3=.int (r:Int)/\x4=.int (g:Int)/\Is K H x0 (R a b)/\Is K H x1 (N h)/\Is K H x2 (TN ys)/\FC a b h ys r g/\Rs K H Q (FI a b h ys r g)
theorem zrR{a h:Rat}{ys:List Rat}{g:Nat}{v w:V}(i1:Is K H v (R a b))(i2:Is K H w (N h))(i3:Is K H u (TN ys))(ok:FC a b h ys r g)(q:Rs K H Q (FI a b h ys r g)):Rc K [v,w,u,.int (r:Int),.int (g:Int)] H Q E:=⟨_,_,_,_,_,rfl,a,b,h,ys,r,g,rfl,rfl,i1,i2,i3,ok,q⟩
theorem zq0(T:Txt K mg a):aF P w K mg base aN 8 a.Jx a.HY uM (Rc K):=by
 refine T.Il.F.ok jD ?_ ?_;wtm_at "b5"
 refine⟨_,(ai (aV (cY kx (pv 3) au (cQ _)) (ai (ju (ak (Od T) hr T.A6 (q1 2)) (i_ (n:=2) rfl (dU (cT (i:=5) jD.nd rfl (Or.inl rfl)) (dU (cT (i:=6) jD.nd rfl (Or.inl rfl)) jm))))
     (ai (aV (PW.pt (dq (cY (show bG _ (vP .NotIn) (yn K)from SM hu) (aQ (ae au (ae au ag))) (pv 2) (by with_unfolding_all rfl)) (fc (cv (b_ (ak (Ck T) hr T.sN (q3 0 5 6))))))) (av (aA eT)) aX)
     (ai (aV (cv (b_ (ak (Ck T) hr T.sN (ae (pv 0) (ae (pv 5) (ae (ak (BV T) hr T.sI (by exact(@ae _ _ _ _ _ (pv 0) (@ae _ _ _ _ _ (pv 5) (@ae _ _ _ _ _ (pv 6) (@ae _ _ _ _ _ (aB hZ (pv 3) au) ag zuX) cu) cu) cu))) ag)))))) (av (aA eT)) aX)
     (ai (ay 1 jD.nd (ak (iA T) hr T.gM (ae (pv 1) (ae (ak (ztH T) hr T.IY (by exact(@ae _ _ _ _ _ (pv 0) (@ae _ _ _ _ _ (pv 5) (@ae _ _ _ _ _ (pv 6) (@ae _ _ _ _ _ (pv 3) ag cu) cu) cu) cu))) ag))))
     (av (ay 2 jD.nd (ak (zpt T) hr T.HI (ae (pv 2) (ae (ak (BV T) hr T.sI (by exact(@ae _ _ _ _ _ (pv 0) (@ae _ _ _ _ _ (pv 5) (@ae _ _ _ _ _ (pv 6) (@ae _ _ _ _ _ (pv 3) ag cu) cu) cu) cu))) ag))))))))) aX)
     (ai (d6 w5 rfl (fC rfl T.h0j (q1 4)) (cT (i:=7) jD.nd rfl (Or.inl rfl)) (ai (ju (ak (zs1 T) hr T.I_ (q2 0 2)) (i_ (n:=3) rfl (dU (cT (i:=8) jD.nd rfl (Or.inl rfl)) (dU (cT (i:=9) jD.nd rfl (Or.inl rfl)) (dU (cT (i:=2) jD.nd rfl (Or.inl rfl)) jm)))))
     (av (ay 1 jD.nd (ak (iA T) hr T.gM (q2 1 8))))))
     (av (aA (aQ (q2 1 2)))))),?_⟩
 wtm_at "cl";rw[show start Lw [x0,x1,x2,x3,x4]=[some x0,some x1,some x2,some x3,some x4,none,none,none,none,none]from rfl];obtain⟨ra,rb,h0,ys,r,g,rfl,rfl,hr',hh',hy',ok,q⟩:=h;have zr:=ok.zr;have l1:∀k,1<=(ao ra rb ys k).length:=λk=>by rw[bW];exact ok.h1
 have l8:∀k,(ao ra rb ys k).length<=8:=λk=>by rw[bW];exact ok.h8
 wtm_at "sq"
 have main:∀(vh vp:V)(o5 o6:Option V)(H1:Hp),ar H H1->Is K H1 vh (N (h0+aO ra rb ys (r*(aj ys).length)))->Is K H1 vp (TN (ao ra rb ys (r*(aj ys).length)))->tl_ {nx:=λ_ H'=>Q V.bM H',rt:=Q} [some x0,some vh,some vp,some (V.int (r:Int)),some (V.int (g:Int)),o5,o6,none,none,none] H1:=λvh vp o5 o6 H1 S1 ih ip=>by
   wtm_at "tl";o_head iX (n:=(g:Int)) () () (λt σ H'=>∃vh vp o7 o8 o9,σ = [some x0,some vh,some vp,some (.int (r:Int)),some (.int (g:Int)),o5,o6,o7,o8,o9]/\ar H H'/\Is K H' vh (N (h0+aO ra rb ys (r*(aj ys).length+t)))/\Is K H' vp (TN (ao ra rb ys (r*(aj ys).length+t)))) ⟨vh,vp,_,_,_,rfl,S1,ih,ip⟩ ?_ ?_
   . rintro t σ H2 ht ⟨vh,vp,o7,o8,o9,rfl,S2,ih2,ip2⟩
     have ht':t<g:=by simpa using ht
     have ct:=ok.ch t ();have b1:=ok.bh t ();have e1:ao ra rb ys (r*(aj ys).length+(t+1))=cZ ra rb (ao ra rb ys (r*(aj ys).length+t)):=rfl;have e2:aO ra rb ys (r*(aj ys).length+(t+1))=aO ra rb ys (r*(aj ys).length+t)+(1-aU (ao ra rb ys (r*(aj ys).length+t))):=rfl;have q1:=l1 (r*(aj ys).length+t);have q8:=l8 (r*(aj ys).length+t);rw[e1,e2];have b2:af 4400 (1-aU (ao ra rb ys (r*(aj ys).length+t))):=(af.one.sub (ct.dM (fG q1))).mono ⋯;generalize ao ra rb ys (r*(aj ys).length+t)=zs at *;generalize aO ra rb ys (r*(aj ys).length+t)=hh at *;o_head ztg (hr'.by S2) ip2 ok.ok.ba ok.ok.bb q1 q8 ct () (λv3 H3 S3 i3=>?_);have ih3:=ih2.by S3;o_head yP (show Is K H3 v3 (.tuple [N (1-aU zs),.list ((cW ra rb zs).map TW),TN (cZ ra rb zs)])from i3) rfl (λus t4=>?_);obtain⟨v4,r1,rfl,i4,t4⟩:=dB.mp t4;obtain⟨v5,r2,rfl,i5,t4⟩:=dB.mp t4;obtain⟨v6,r3,rfl,i6,t4⟩:=dB.mp t4;rw[fI.mp t4];k_few;rename_i v7 H7 S7 i7;exact⟨v7,v6,_,_,_,rfl,S2.trans (S3.trans S7),by rw[<- Rat.add_assoc];exact i7,i6.by S7⟩
   . rintro σ H2 ⟨vh,vp,o7,o8,o9,rfl,S2,ih2,ip2⟩
     rw[wx]at ih2 ip2;o_head c6 (ds:=[N (h0+aO ra rb ys (r*(aj ys).length+g)),TN (ao ra rb ys (r*(aj ys).length+g))]) ∅ (.cons ih2 (.cons ip2 .nil)) (λv3 H3 S3 i3=>?_);exact q v3 H3 (S2.trans S3) i3
 rcases qD r with rz | rp
 . have e0:h0+aO ra rb ys (r*(aj ys).length)=h0:=by
     rw[rz,VN]
     show h0+0=h0
     grind
   have e1:ao ra rb ys (r*(aj ys).length)=ys:=by rw[rz,VN];rfl
   rw[e0,e1]at main;wtm_at "gt"
   . exfalso
     lia
   . exact main x1 x2 none none H (λ_ _ h=>h) hh' hy'
 . obtain⟨z0,fr,jf,cy,ce,cr1,bt⟩:=ok.free rp
   obtain⟨hzv,hn,hs,L⟩:=rR (a:=ra) (b:=rb) ok.hp z0;have sz:=ye ok.h1 ok.h8;have hvl:=iB ys;have bx:∀j,af 4000 (ys.getD j 0):=λj=>(cy.get j).mono ⋯
   have cp:Cm 2100 (bC ys):=mG cy;have bp:∀j,af 2500 ((bC ys).getD j 0):=λj=>(cp.get j).mono ⋯
   have lo:=TY ok.ok ok.hp z0 fr;have lo1:=TY ok.ok ok.hp z0 (k:=r-1) (λk hk=>fr k ());have cl1:Cm 2100 (bL ra rb (aW ys) (r-1) (bC ys)):=jk cr1 lo1.1;have f0:dJ ra rb (aW ys) (bC ys)=true:=by have:=fr 0 ();unfold cN at this;rw[mI]at this;exact this
   have f1:dJ ra rb (aW ys) (bL ra rb (aW ys) (r-1) (bC ys))=true:=fr (r-1) ()
   have et:gx ra rb (aW ys) (bC ys) r=aO ra rb ys (r*(aj ys).length):=by
     obtain⟨_,e⟩:=nT ok.ok L hn (m7 ys) r fr;rw[hs]at e;exact e.symm
   wtm_at "gt"
   . refine Th (.inr hy') ok.h1 ok.h8 bx (λv1 H1 S1 i1=>?_)
     refine yP (show Is K H1 v1 (.tuple [LZ (aW ys),LN (bC ys)])from i1) rfl (λus t=>?_);obtain⟨v2,r1,rfl,iz,t⟩:=dB.mp t;obtain⟨vp,r2,rfl,ip,t⟩:=dB.mp t;rw[fI.mp t];obtain⟨p1,rfl,hz⟩:=Mb iz;have hr1:=hr'.by S1;have hy1:=hy'.by S1;have hh1:=hh'.by S1;clear t iz i1;wtm_at "gt";wtm_at "tl";wtm_at "gt";refine cU (r:=0) rfl rfl (λv3 H3 S3 i3=>?_);wtm_at "gt";refine Tr i3 (hy1.by S3) ⟨_,rfl,?_⟩;rw[decide_eq_true z0,if_neg ⋯];wtm_at "gt";refine Cj (hr1.by S3) (S3.seq hz) (.inl (ip.by S3)) ok.ok sz hn cp ⋯ (λH4 S4=>⟨_,rfl,?_⟩);rw[f0];have T4:=S3.trans S4;wtm_at "gt";wtm_at "tl";wtm_at "gt";have hr4:=hr1.by T4;have hz4:=T4.seq hz;have ip4:=ip.by T4;refine EM hr4 hz4 ip4 hn () (mL ok.ok sz ()) bp (λl5 H5 us5 n5 S5 e5 t5=>?_);rw[show((r:Int)-1).toNat=r-1 by lia]at t5;wtm_at "gt";refine Cj (hr4.by S5) (S5.seq hz4) (.inl (bX e5 t5)) ok.ok sz (by rw[cA];exact hn) cl1 ⋯ (λH6 S6=>⟨_,rfl,?_⟩);rw[f1];have S46:=S5.trans S6;have hr6:=hr4.by S46;have hz6:=S46.seq hz4;have ip6:=ip4.by S46;have T6:=T4.trans S46;have hh6:=hh1.by T6;have hy6:=hy1.by T6;have TT6:=S1.trans T6;have hb:=ok.hb;clear hr4 hz4 ip4 S46 S5 S6 e5 t5 n5 S3 S4 T4 i3 hr1 hy1 hh1 hz ip T6 S1;wtm_at "gt";wtm_at "tl";wtm_at "gt";refine ztc hr6 hz6 ip6 hn () (mL ok.ok sz ()) bp cp (λe=>mG (ce e)) (λv7 H7 S7 i7=>?_);rw[wx,et]at i7;have hh7:=hh6.by S7;wtm_at "gt";rename_i v8 H8 S8 i8;have T8:=S7.trans S8;wtm_at "tl";wtm_at "gt"
     refine EM (hr6.by T8) (T8.seq hz6) (ip6.by T8) hn () (mL ok.ok sz ()) bp (λl9 H9 us9 n9 S9 e9 t9=>?_);rw[wx]at t9;wtm_at "gt";refine Z2 (hy6.by (T8.trans S9)) (bX e9 t9) ok.h8 (by rw[cA];lia) bx (λv10 H10 S10 i10=>?_);rw[lo.2]at i10;wtm_at "gt";exact main v8 v10 _ _ H10 (TT6.trans (T8.trans (S9.trans S10))) (i8.by (S9.trans S10)) i10
   . exfalso
     lia
def rn(a b:Rat)(xs:List Rat):Option String:=if(aj xs).length=1 then some "one" else if 0∈xs then eZ a b xs else none
theorem zrD{a:Rat}(h:0∈xs):rn a b xs=eZ a b xs:=by
 unfold rn
 by_cases z:(aj xs).length=1
 ·rw[if_pos z];unfold eZ;rw[if_pos z]
 ·rw[if_neg z,if_pos h]
def Nj(K:wa):Sp:=λvs H Q _=>∃x0 x1,vs=[x0,x1] /\ ∃(a b:Rat)(xs:List Rat)(m:Nat),Is K H x0 (R a b)/\Is K H x1 (TN xs)/\aR a b/\1<=xs.length/\xs.length<=8/\dj xs/\Cm m xs/\m<=3290/\Rq H Q (pV (rn a b xs))
theorem ztr{a:Rat}{v w:V}(h:Is K H v (R a b))(k:Is K H w (TN xs))(ok:aR a b)(h1:1<=xs.length)(h8:xs.length<=8)(hp:dj xs)(c:Cm m xs)(hm:m<=3290)(q:Rq H Q (pV (rn a b xs))):Nj K [v,w] H Q E:=⟨_,_,rfl,a,b,xs,m,h,k,ok,h1,h8,hp,c,hm,q⟩
theorem ztf(T:Txt K mg a):aF P w K mg base aN 7 a.JZ a.Ib yY (Nj K):=by
 refine T.IK.F.ok Fq ?_ ?_;wtm_at "b2"
 refine⟨_,(ai (ju (ak (Od T) hr T.A6 (q1 1)) (i_ (n:=2) rfl (dU (cT (i:=2) Fq.nd rfl (Or.inl rfl)) (dU (cT (i:=3) Fq.nd rfl (Or.inl rfl)) jm))))
     (ai (aV (d5 K hu (c8 K T.h0t (q1 2)) au) (av (aA fP)) aX)
     (ai (aV (PW.pt (dq (cY (show bG _ (vP .NotIn) (yn K)from SM hu) (aQ (ae au (ae au ag))) (pv 1) (by with_unfolding_all rfl)) (fc (cv (b_ (ak (Ck T) hr T.sN (q3 0 2 3))))))) (av (aA eT)) aX)
     (ai (aV (d5 K hu (eA (ak (ke T) hr T.jz (q3 0 2 3))) (pv 3)) (av (aA fP)) aX)
     (ai (aV (PW.pt (EW (cY jT (eA (qi 0)) (eA (qi 0)) (cQ _)) (Bq (b_ (ak (zva T) hr T.Jk (q3 0 2 3)))))) (av (aA fP)) aX)
     (av (aA eT))))))),?_⟩
 wtm_at "cl";rw[show start O9 [x0,x1]=[some x0,some x1,none,none]from rfl];obtain⟨ra,rb,xs,m,hr',hx',ok,h1,h8,hp,c,hm,q⟩:=h;have bx:∀i,af 4000 (xs.getD i 0):=λi=>(c.get i).mono ()
 have sz:=ye h1 h8;have hvl:=iB xs;unfold rn at q;o_head Th (.inr hx') h1 h8 bx (λv1 H1 S1 i1=>?_);o_head yP (show Is K H1 v1 (.tuple [LZ (aW xs),LN (bC xs)])from i1) rfl (λys t=>?_);obtain⟨v2,r1,rfl,iz,t⟩:=dB.mp t;obtain⟨vp,r2,rfl,ip,t⟩:=dB.mp t;rw[fI.mp t];obtain⟨p1,rfl,hz⟩:=Mb iz;o_head gG hz ?_;rw[wl,oN];k_few
 . rename_i z
   have z:(aj xs).length=1:=by lia
   rw[if_pos z]at q;exact q _ S1
 . rename_i z
   have z:¬ (aj xs).length=1:=by lia
   rw[if_neg z]at q;refine cU (r:=0) rfl rfl (λv3 H3 S3 i3=>?_);have T3:=S1.trans S3;have hx3:=hx'.by T3;have hr3:=hr'.by T3;have hz3:=S3.seq hz;have ip3:=ip.by S3;clear hx' hr' hz ip S1 S3 i1 iz t;o_head Tr i3 hx3 ⟨_,rfl,?_⟩
   by_cases h0:0∈xs
   . rw[decide_eq_true h0,if_neg ⋯]
     rw[if_pos h0]at q;unfold eZ at q;rw[if_neg z]at q;have hzv:bC xs++[0]=aj xs:=yE hp h0;have hpl:(bC xs).length+1=(aj xs).length:=by rw[<- hzv];simp
     have hn:(aW xs).length=(bC xs).length+1:=by rw[oN];lia
     have cp:Cm m (bC xs):=mG c;have rc:=kJ ok sz hn cp hm;generalize aW xs=ns at *;generalize bC xs=ps at *;o_head Cj hr3 hz3 (.inl ip3) ok sz hn cp hm (λH4 S4=>?_);have T4:=T3.trans S4;have hr4:=hr3.by S4;have hz4:=S4.seq hz3;have ip4:=ip3.by S4;clear hr3 hz3 ip3 T3 S4 hx3 i3;k_few
     . rename_i y
       rw[if_neg (by rw[y];decide)]at q;exact q _ T4
     . rename_i y
       rw[if_pos y]at q;refine ku hr4 hz4 (.inl ip4) rc.1 rc.2.1 rc.2.2 (λv5 H5 S5 i5=>?_);have T5:=T4.trans S5;have hr5:=hr4.by S5;have hz5:=S5.seq hz4;have ip5:=ip4.by S5;clear hr4 hz4 ip4 T4 S5;o_head aD (j:=0) i5 rfl (λv6 i6=>?_);o_head UB (show Is K H5 v6 (LN (cK ra rb ns ps))from i6) ip5 ?_;k_few
       . rename_i w
         rw[if_pos w]at q;exact q _ T5
       . rename_i w v7 i7 v8 i8 y2
         have ha:ra<1:=by
           rw[<- xE];intro h;have:=(tV ra).mpr h;lia
         rw[if_neg w]at q
         have es:du ra rb ns ps=lu ra rb ns:=by
           unfold du;rw[if_neg (by grind),if_neg (by grind)]
         refine zuP hr5 hz5 ip5 ok sz hn cp hm (λH6 S6=>⟨_,rfl,?_⟩);rw[es]
         by_cases y3:lu ra rb ns=true
         . rw[if_pos ⟨ha,y3⟩]at q
           rw[y3];k_few;exact q _ (T5.trans S6)
         . rw[if_neg (λh=>y3 h.2)]at q
           rw[Xu.mpr y3];k_few;exact q _ (T5.trans S6)
       . rename_i w v7 i7 v8 i8 y2
         rw[if_neg w,if_neg (λh=>y2 (by
           have:=mt (tV ra).mp (xE.mpr h.1);lia))]at q
         exact q _ T5
   . rw[decide_eq_false h0]
     rw[if_neg h0]at q;k_few;exact q _ T3
theorem rE{a:Rat}(h:cb a b xs)(c:e_ b.den 47 xs)(h4:xs.length<=4)(hg:cn a b xs j+216<=20+216*xs.length)(hj:j<=1024):Cm 2100 (ao a b xs j):=by
 have:=To h.ok c h.h1 h.hp (i:=0) (k:=j) (l:=10) (by rw[show(2:Nat)^10=1024 by decide];exact hj);rw[Vl]at this;exact(jk this λy hy=>wA _ hy).mono ()
theorem zyv{a:Rat}(h:cb a b xs)(h4:xs.length<=4)(i1:1<=i)(sp:ig a b xs i)(n2:2<=(aj (ao a b xs i)).length)(k31:k<=31)(f:iK a b (ao a b xs i) k):cn a b xs (i+k*(aj (ao a b xs i)).length)+216<=20+216*xs.length/\i+k*(aj (ao a b xs i)).length<=1024:=by
 have hp:=h.hp.at h.ok.a0 h.ok.b0 i;have h0:=h.hp.zero h.ok.a0 h.ok.b0 h.h1 i1;obtain⟨hz,hn,hs,L⟩:=rR (a:=a) (b:=b) hp h0;have h2:=FN h.ok L hn (m7 _) k f;rw[hs]at h2;have h3:=Ez (ao a b xs i);rw[hs,bW]at h3;have hv:=iB (ao a b xs i);rw[bW]at hv;have g1:k*upTo (aW (ao a b xs i)) (aj (ao a b xs i)).length<=31*4:=WM k31 ();have g2:k*(aj (ao a b xs i)).length<=31*4:=WM k31 ();obtain⟨s1,s2⟩:=sp;rw[nN,h2];exact⟨by lia,by lia⟩
theorem Sm{a:Rat}(h:cb a b xs)(c:e_ b.den 47 xs)(h4:xs.length<=4){g:Nat}(ro:lI a b xs i r g)(sp:1<=i->ig a b xs i):FC a b (aO a b xs i) (ao a b xs i) r g/\(1<=dE a b xs i r g->ig a b xs (dE a b xs i r g)):=by
 have l1:=h.h1;have hpl:=bW a b xs i;have hpi:=h.hp.at h.ok.a0 h.ok.b0 i;have hg:=sC h.ok.a0 h.ok.b0 h.h1 h.hp;rcases ro with⟨rfl,rfl,rfl⟩ | ⟨i1,hno,R⟩
 ·have e:dE a b xs 0 0 1=1:=by unfold dE;lia
  refine⟨⟨h.ok,by lia,by lia,hpi,λz=>by lia,by lia,af.zero.mono ⋯,λt ht=>?_,λt ht=>?_⟩,λ_=>by rw[e];exact h.one⟩
  ·rw[VN,Vl,eD,Vl]
   exact(rE h c h4 (by have:=hg t;have:t*xs.length<=1*4:=WM ht h4;lia) ()).mono ⋯
  ·rw[VN,Vl,km,Vl]
   exact((h.cm (i:=t) (by have:=hg t;have:t*xs.length<=1*4:=WM ht h4;lia) ()).dM (wE ..)).mono ⋯
 ·have sp:=sp i1
  have n2:=EO hno (h.nf i).1;have h0:=h.hp.zero h.ok.a0 h.ok.b0 h.h1 i1;have s1:=sp.1;have s2:=sp.2;have gN:=R.gN;have nf:=(h.nf i).2;have wi:=λ{t:Nat}(ht:t<=g)=>h.within i1 sp n2 R ht
  have w1:=zyv h h4 i1 sp n2 (k:=r-1) (by have:=R.jf;lia) (λk hk=>R.free k ());refine⟨⟨h.ok,by lia,by lia,hpi,λz=>⟨h0,R.free,R.jf,rE h c h4 () (),λe=>zDh h c e (),?_,?_⟩,by lia,((h.cm (i:=i) () ()).dM (wE ..)).mono ⋯,λt ht=>?_,λt ht=>?_⟩,λ_=>h.next i1 sp n2 R⟩
  ·rw[eD]
   exact rE h c h4 w1.1 w1.2
  ·obtain⟨g1,g2,g3,g4⟩:=wi (VZ g)
   exact((h.iO (i:=i) (k:=r*(aj (ao a b xs i)).length) (by rw[Qa]at g1;exact g1) ()).dM (wE ..)).mono ⋯
  ·obtain⟨g1,g2,g3,g4⟩:=wi ht
   rw[eD];exact(rE h c h4 g1 g2).mono ⋯
  ·obtain⟨g1,g2,g3,g4⟩:=wi ht
   rw[km];exact((h.cm g1 g2).dM (wE ..)).mono ⋯
theorem zA1(w:PySem.Str):w8 (.str w) (.str w)=true:=by rw[w8];simp
def Yl(K:wa):Sp:=λvs H Q _=>∃x0 x1 x2,vs=[x0,x1,x2] /\ ∃(a b:Rat)(xs:List Rat)(es:List (Nat × Nat × Nat))(n:Nat)(w:String),Is K H x0 (R a b)/\Is K H x1 (TN xs)/\Is K H x2 (.list (gv a b xs es n w))/\cb a b xs/\e_ b.den 47 xs/\xs.length<=4/\eO a b xs es n w/\Rq H Q (.bl true)
theorem zs4{a:Rat}{w:String}{v t:V}(i1:Is K H v (R a b))(i2:Is K H u (TN xs))(i3:Is K H t (.list (gv a b xs es n w)))(ok:cb a b xs)(c:e_ b.den 47 xs)(h4:xs.length<=4)(P:eO a b xs es n w)(q:Rq H Q (.bl true)):Yl K [v,u,t] H Q E:=⟨_,_,_,rfl,a,b,xs,es,n,w,i1,i2,i3,ok,c,h4,P,q⟩
theorem ztD(T:Txt K mg a):aF P w K mg base aN 9 a.JU a.Ip yz (Yl K):=by
 refine T.Jg.F.ok oE ?_ ?_;wtm_at "b3"
 refine⟨_,(ai (ay 3 oE.nd (aQ (ae au (ae au ag))))
     (ai (d6 w5 rfl (eY (kS lq (pv 2) lZ (lH (fo fA au)))) (cT (i:=4) oE.nd rfl (Or.inl rfl)) (ai (aV (PW.pt (dq (hW K hu (qi 4) (pv 3)) (fc (hW K hu (qi 4) (pv 1))))) (av (aA dX)) aX)
     (ai (ay 5 oE.nd (ak (zq0 T) hr T.Il (by exact(@ae _ _ _ _ _ (pv 0) (@ae _ _ _ _ _ (pv 3) (@ae _ _ _ _ _ (pv 1) (@ae _ _ _ _ _ (qi 4) (@ae _ _ _ _ _ (qi 4) ag g_) g_) cu) cu) cu))))
     (ai (aV (cY rP (pv 5) eT (cQ _)) (av (aA dX)) aX)
     (av (ju (pv 5) (i_ (n:=2) rfl (dU (cT (i:=3) oE.nd rfl (Or.inl rfl)) (dU (cT (i:=1) oE.nd rfl (Or.inl rfl)) jm)))))))))
     (av (aA (fJ (j7 K hu (eA (de cD (pv 2) (fo fA au) (λ_ _=>rfl))) (pv 3)) (fJ (j7 K hu (eA (de cD (pv 2) (fo fA au) (λ_ _=>rfl))) (pv 1)) (jg (j7 K hu (eA (de cD (pv 2) (fo fA au) (λ_ _=>rfl))) (ak (ztf T) hr T.IK (q2 0 1)))))))))),?_⟩
 wtm_at "cl";rw[show start OT [x0,x1,x2]=[some x0,some x1,some x2,none,none,none]from rfl];obtain⟨ra,rb,xs,es,n,w,hr',hx',hq',ok,c47,h4,P,q⟩:=h;have hat:=P.walk.at;have hz0:=P.walk.first;have hzl:=Fi es n;o_head cU (r:=0) rfl rfl (λv1 H1 S1 i1=>?_);have hq1:Is K H1 x2 (.list (es.map (je ra rb xs)++[kr ra rb xs n w])):=hq'.by S1;o_head mH hq1 (λl2 H2 us2 n2 S2 e2 t2=>?_);rw[ny,xF]at t2;have T2:=S1.trans S2;have hul:=t2.length;rw[wl]at hul;o_head lF (.of e2) (λj σ H'=>∃(vh vp:V)(o4 o5:Option V),σ = [some x0,some vp,some x2,some vh,o4,o5]/\ar H2 H'/\Is K H' vh (N (aO ra rb xs (eK es n j)))/\Is K H' vp (TN (ao ra rb xs (eK es n j)))/\(1<=eK es n j->ig ra rb xs (eK es n j))) ⟨v1,x1,_,_,rfl,λ_ _ h=>h,by rw[hz0];exact i1.by S2,by rw[hz0];exact hx'.by T2,λz=>by rw[hz0]at z;lia⟩ (λj σ H' _ h=>by obtain⟨_,_,_,_,_,S,_⟩:=h;exact .of (S _ _ e2)) ?_ ?_
 . rintro j x σ H3 hx ⟨vh,vp,o4,o5,rfl,S3,ih,ip,sp⟩
   obtain⟨hi,ix⟩:=kU t2 hx;rw[wl]at hi;obtain⟨e1,ro,e3⟩:=hat j hi;have ix3:=ix.by S3;rw[wb,wq,wc hi]at ix3;have ix3:Is K H3 x (mf (aO ra rb xs es[j].1) (ao ra rb xs es[j].1) es[j].2.1 es[j].2.2):=ix3;rw[e1]at ix3 ro e3;generalize es[j].2.1=r at *;generalize es[j].2.2=g at *;generalize eK es n j=i at *;obtain⟨so,spn⟩:=Sm ok c47 h4 ro sp;rw[e3]at spn;have hr3:=hr'.by (T2.trans S3);o_head aD (j:=0) ix3 rfl (λv4 i4=>?_);o_head aD (j:=1) ix3 rfl (λv5 i5=>?_);o_head zAB i5 ip (pE _) ⋯ (Yc _) ?_;o_head aD (j:=2) ix3 rfl (λv6 i6=>?_);rw[cc.mp i6];o_head aD (j:=3) ix3 rfl (λv7 i7=>?_);rw[cc.mp i7];o_head zrR hr3 ih ip so (λv8 H8 S8 i8=>?_)
   have i8:Is K H8 v8 (.tuple [N (aO ra rb xs (eK es n (j+1))),TN (ao ra rb xs (eK es n (j+1)))]):=by
     have e4:i+(r*(aj (ao ra rb xs i)).length+g)=eK es n (j+1):=e3;unfold FI at i8;rw[km,eD,e4]at i8;exact i8
   obtain⟨a8,us8,rfl,s8,t8⟩:=bY.mp i8;k_few
   . rename_i z
     cases z
   refine yP i8 rfl (λus t=>?_);obtain⟨v9,r1,rfl,i9,t⟩:=dB.mp t;obtain⟨v10,r2,rfl,i10,t⟩:=dB.mp t;rw[fI.mp t];k_few;exact⟨v9,v10,_,_,rfl,S3.trans S8,i9,i10,spn⟩
 . rintro σ H3 ⟨vh,vp,o4,o5,rfl,S3,ih,ip,sp⟩
   rw[hul,hzl]at ih ip sp;have sp:=sp P.n1;have s1:=sp.1;have s2:=sp.2;have nf:=ok.nf n;have hl:=bW ra rb xs n;have l1:=ok.h1;have hq3:Is K H3 x2 (.list (es.map (je ra rb xs)++[kr ra rb xs n w])):=hq1.by (S2.trans S3);o_head lV hq3 (λv4 i4=>?_);have i4:Is K H3 v4 (.tuple [N (aO ra rb xs n),TN (ao ra rb xs n),.str (vM w)]):=i4;o_head aD (j:=0) i4 rfl (λv5 i5=>?_);o_head lV hq3 (λv6 i6=>?_);have i6:Is K H3 v6 (.tuple [N (aO ra rb xs n),TN (ao ra rb xs n),.str (vM w)]):=i6;o_head aD (j:=1) i6 rfl (λv7 i7=>?_);o_head EH i7 ip (pE _) ⋯ (Yc _) ?_;o_head lV hq3 (λv8 i8=>?_);have i8:Is K H3 v8 (.tuple [N (aO ra rb xs n),TN (ao ra rb xs n),.str (vM w)]):=i8;o_head aD (j:=2) i8 rfl (λv9 i9=>?_);o_head ztr (hr'.by (T2.trans S3)) ip ok.ok () () (ok.hp.at ok.ok.a0 ok.ok.b0 n) (rE ok c47 h4 () ()) ⋯ (λH10 S10=>?_);rw[zrD (ok.hp.zero ok.ok.a0 ok.ok.b0 ok.h1 P.n1),P.word];refine EH (i9.by S10) (show Is K H10 (pV (some w)) (.str (vM w))from iF.mpr rfl) (n:=1) ⟨by simp[vB,Gg],by simp[WL]⟩ ⋯ (zA1 _) ?_;exact q _ (T2.trans (S3.trans S10))
def M6(K:wa):Sp:=λvs H Q _=>∃x0,vs=[x0] /\ ∃(x:Rat),Is K H x0 (N x)/\af 4000 x/\Rq H Q (.bl true)
theorem O4{v:V}(h:Is K H v (N x))(b:af 4000 x)(q:Rq H Q (.bl true)):M6 K [v] H Q E:=⟨_,rfl,x,h,b,q⟩
theorem RP(T:Txt K mg a):aF P w K mg base aN 2 a.IF a.Hn u4 (M6 K):=by
 refine T.A1.F.ok zpp ?_ ?_;wtm_at "b1"
 refine⟨_,(ai (aV (PW.pt (dq (cv (b_ (c7 (show bS _ (.builtin "isinstance") (eC K)from iC) rfl T.h0c ic (ae (pv 0) (ae (gJ (v:=.ty "tuple") rfl T.h0i k_ rfl) ag))))) (dq (hW K hu (c8 K T.h0t (q1 0)) au) (dq (cv (b_ (ak (yJ T) hr T.oX (ae (qi 0) ag)))) (fc (cv (b_ (ak (yJ T) hr T.oX (ae (qi 0) ag))))))))) (av (aA dX)) aX)
     (av (aA (fJ (gP kx (qi 0) au (cQ _)) (jg (j7 K hu (ak (gu T) hr T.fM (ae (qi 0) (ae (qi 0) ag))) (pv 0))))))),?_⟩
 wtm_at "cl";rw[show start Ff [x0]=[some x0]from rfl];obtain⟨x,hx,bx,q⟩:=h;have bx1:=bx.b;k_few
 . refine mF (den_pos x) (bx1.mono ⋯) (λv1 H1 S1 i1=>?_)
   rw[WY]at i1;have hx1:=hx.by S1;k_few;rw[decide_eq_true rfl];exact q H1 S1
 . rename_i z
   exact absurd (den_pos x) z
theorem zyO(a b:Rat)(xs:List Rat)(es:List (Nat × Nat × Nat))(n:Nat)(w:String):Sh 5 (.list (gv a b xs es n w)):=Fg λd hd=>by
 rcases vY.mp hd with z | z
 ·obtain⟨e,_,rfl⟩:=wR.mp z
  refine nD (n:=3) λd hd=>?_
  simp only[wL,VJ,or_false]at hd;rcases hd with rfl | rfl | rfl | rfl
  ·exact(lB _).mono ⋯
  ·exact(pE _).mono ⋯
  ·exact(yG _).mono ⋯
  ·exact(yG _).mono ⋯
 ·rw[w6.mp z]
  refine nD (n:=3) λd hd=>?_
  simp only[wL,VJ,or_false]at hd;rcases hd with rfl | rfl | rfl
  ·exact(lB _).mono ⋯
  ·exact(pE _).mono ⋯
  ·exact(Sh.mono ⟨by simp[vB,Gg],by simp[WL]⟩ (show 1<=3 by decide))
theorem SX{a b:Rat}{xs:List Rat}{es:List (Nat × Nat × Nat)}{n:Nat}{w:String}(h:cb a b xs)(c:e_ b.den 47 xs)(h4:xs.length<=4)(P:eO a b xs es n w):∀j,j<=es.length->(1<=eK es n j->ig a b xs (eK es n j))
 | 0,_=>λz=>by rw[P.walk.first]at z;lia
 | j+1,hj=>by
  obtain⟨e1,ro,e3⟩:=P.walk.at j ();rw[e1]at ro e3;have:=(Sm h c h4 ro (SX h c h4 P j ())).2;rw[e3]at this;exact this
theorem NO{a:Rat}{w:String}(h:cb a b xs)(c:e_ b.den 47 xs)(h4:xs.length<=4)(P:eO a b xs es n w)(hj:j<=es.length):Cm 3500 (aO a b xs (eK es n j)::ao a b xs (eK es n j)):=by
 have s:=SX h c h4 P j hj;have h1:=h.h1;have nf:=h.nf (eK es n j);rcases qD (eK es n j)with z | z
 ·rw[z]
  exact h.cm (i:=0) (by show 0+216<=_;lia) ()
 ·obtain⟨s1,s2⟩:=s z
  exact h.cm () ()
theorem zyf(ds:List wD)(x:wD):w8 (.list (ds++[x])) (.list [])=false:=by
 cases ds<;>simp[w8,Ws]
theorem zDn{bs:List Bool}{c:Bool}(h:aE K H p (bs.map V.bl))(q:Q (.bl (decide (c∈bs))) H):fu K false (.bl c) (.ref p) H Q:=⟨p,_,rfl,.inl h,rfl,MS bs,by rw[Ry];exact q⟩
theorem zBv{a:Rat}{w:String}(h:cb a b xs)(c:e_ b.den 47 xs)(h4:xs.length<=4)(P:eO a b xs es n w)(hj:j<(es.map (je a b xs)++[kr a b xs n w]).length):∃i d4,(es.map (je a b xs)++[kr a b xs n w]).getD j .none=.tuple (N (aO a b xs i)::TN (ao a b xs i)::d4)/\Cm 3500 (aO a b xs i::ao a b xs i):=by
 rw[wN,wl,vV]at hj;rcases wG j es.length with z | z
 ·have cm:=NO h c h4 P (j:=j) ()
  obtain⟨e1,_,_⟩:=P.walk.at j z;rw[<- e1]at cm;refine⟨es[j].1,[.int (es[j].2.1:Int),.int (es[j].2.2:Int)],?_,cm⟩;rw[wb,Wk (by simpa using z),wq,wc z]
  rfl
 ·have e:j=es.length:=by lia
  subst e;have cm:=NO h c h4 P (wp _);rw[Fi]at cm;refine⟨n,[.str (vM w)],?_,cm⟩;rw[wb,vQ ∅];simp
  rfl
def L5(K:wa):Sp:=λvs H Q _=>∃x0 x1,vs=[x0,x1] /\ ∃(a b:Rat)(xs:List Rat)(es:List (Nat × Nat × Nat))(n:Nat)(w:String),x1=.int (xs.length:Int)/\Is K H x0 (.list (gv a b xs es n w))/\cb a b xs/\e_ b.den 47 xs/\xs.length<=4/\eO a b xs es n w/\Rq H Q (.bl true)
theorem zpf{a:Rat}{w:String}{v:V}(i:Is K H v (.list (gv a b xs es n w)))(ok:cb a b xs)(c:e_ b.den 47 xs)(h4:xs.length<=4)(P:eO a b xs es n w)(q:Rq H Q (.bl true)):L5 K [v,.int (xs.length:Int)] H Q E:=⟨_,_,rfl,a,b,xs,es,n,w,rfl,i,ok,c,h4,P,q⟩
theorem zpw(T:Txt K mg a):aF P w K mg base aN 3 a.IQ a.Hm u5 (L5 K):=by
 refine T.HM.F.ok yq ?_ ?_;wtm_at "b2";have hgd:=hr.gd
 refine⟨_,(ai (aV (PW.pt (dq (cv (b_ (c7 (show bS _ (.builtin "isinstance") (eC K)from iC) rfl T.h0c ic (ae (pv 0) (ae (gJ (v:=.ty "list") rfl T.h0m gT rfl) ag))))) (fc (d5 K hu (pv 0) (dy ag))))) (av (aA dX)) aX)
     (ai (d6 w5 rfl (eY (kS lq (pv 0) lZ (lH (fo fA au)))) (cT (i:=2) yq.nd rfl (Or.inl rfl)) (ai (aV (PW.pt (dq (cv (b_ (c7 (show bS _ (.builtin "isinstance") (eC K)from iC) rfl T.h0c ic (ae (pv 2) (ae (gJ (v:=.ty "tuple") rfl T.h0i k_ rfl) ag))))) (dq (hW K hu (c8 K T.h0t (q1 2)) au) (dq (cv (b_ (ak (yJ T) hr T.oX (ae (qi 2) ag)))) (fc (cv (b_ (ak (yJ T) hr T.oX (ae (qi 2) ag))))))))) (av (aA dX)) aX)
     (av (aV (PW.pt (dq (cY jT (qi 2) au (cQ _)) (dq (cY kx (qi 2) au (cQ _)) (dq (cY jT (qi 2) au (cQ _)) (fc (cY kx (qi 2) au (cQ _))))))) (av (aA dX)) aX))))
     (ai (ay 3 yq.nd (de cD (pv 0) (fo fA au) (λ_ _=>rfl)))
     (ai (aV (PW.pt (dq (cv (b_ (c7 (show bS _ (.builtin "isinstance") (eC K)from iC) rfl T.h0c ic (ae (pv 3) (ae (gJ (v:=.ty "tuple") rfl T.h0i k_ rfl) ag))))) (dq (hW K hu (c8 K T.h0t (q1 3)) au) (fc (cv (b_ (c7 (show bS _ (.builtin "isinstance") (eC K)from iC) rfl T.h0c ic (ae (qi 3) (ae (gJ (v:=.ty "str") rfl T.h0q zDM rfl) ag))))))))) (av (aA dX)) aX)
     (ai (d6 w5 rfl (eY (pv 0)) (cT (i:=2) yq.nd rfl (Or.inl rfl)) (ai (aV (PW.pt (dq (cv (b_ (c7 (show bS _ (.builtin "isinstance") (eC K)from iC) rfl T.h0c ic (ae (qi 2) (ae (gJ (v:=.ty "tuple") rfl T.h0i k_ rfl) ag))))) (dq (hW K hu (c8 K T.h0t (ae (qi 2) ag)) (pv 1)) (fc (cv (b_ (ak (RP T) hr T.A1 (ae (qi 2) ag)))))))) (av (aA dX)) aX)
     (av (aV (cY (show bG _ (vP .In) (fu K false)from Dg) dX (dH rfl (cP ["_law_one"] [none]) (jM (qi 2)) (λ_ _ _ _ _=>(cq 0)) (λ_ _ _ _ _=>dF) (λ_ _ _ _ _=>(ak (RP (K:=K) (mg:=mg) (a:=a) T) hr T.A1 (q1 0)))) (by with_unfolding_all rfl)) (av (aA dX)) aX))))
     (av (aA dX))))))),?_⟩
 wtm_at "cl";rw[show start Rk [x0,x1]=[some x0,some x1,none,none]from rfl];obtain⟨ra,rb,xs,es,n,w,rfl,hq',ok,c47,h4,P,q⟩:=h;have hat:=P.walk.at;have hz0:=P.walk.first;have hzl:=Fi es n;have h1:=ok.h1;have hq0:Is K H x0 (.list (es.map (je ra rb xs)++[kr ra rb xs n w])):=hq';o_head zAd hq0 ⟨_,rfl,?_⟩;rw[show kX (.list (es.map (je ra rb xs)++[kr ra rb xs n w]))=true from rfl];o_head dC ∅ (λl1 H1 n1 S1 e1=>?_);o_head oq (hq0.by S1) (ck.mpr ⟨l1,[],rfl,.of e1,.nil⟩) ((zyO ra rb xs es n w).shaped ⋯) ⋯ ⟨_,rfl,?_⟩;rw[zyf];o_head mH (hq0.by S1) (λl2 H2 us2 n2 S2 e2 t2=>?_);rw[ny,xF]at t2;have T2:=S1.trans S2;have hul:=t2.length;rw[wl]at hul;o_head lF (.of e2) (λj σ H'=>∃(o2:Option V),σ = [some x0,some (.int (xs.length:Int)),o2,none]/\H'=H2) ⟨_,rfl,rfl⟩ (λj σ H' _ h=>by obtain⟨_,_,rfl⟩:=h;exact .of e2) ?_ ?_
 . rintro j x σ H3 hx ⟨o2,rfl,rfl⟩
   obtain⟨hi,ix⟩:=kU t2 hx;rw[wl]at hi;obtain⟨e1,ro,e3⟩:=hat j hi;rw[wb,wq,wc hi]at ix;have ix:Is K H3 x (mf (aO ra rb xs es[j].1) (ao ra rb xs es[j].1) es[j].2.1 es[j].2.2):=ix
   have rg:es[j].2.1<=30/\es[j].2.2<=40:=by
     rcases ro with⟨_,z1,z2⟩ | ⟨_,_,R⟩
     . lia
     . have:=(ok.nf es[j].1).2
       exact⟨R.jf,by have:=R.gN;lia⟩
   generalize es[j].2.1=r at *;generalize es[j].2.2=g at *;generalize es[j].1=i at *;k_few
   . rename_i z
     exact absurd (show true=false from z) ⋯
   refine ly ix ?_;k_few
   . rename_i z
     exact absurd rfl z
   refine aD (j:=2) ix rfl (λv4 i4=>?_);rw[cc.mp i4];o_head aD (j:=3) ix rfl (λv5 i5=>?_);rw[cc.mp i5];o_head aD (j:=2) ix rfl (λv6 i6=>?_);rw[cc.mp i6];k_few
   . exfalso
     lia
   refine aD (j:=2) ix rfl (λv7 i7=>?_);rw[cc.mp i7];k_few
   . exfalso
     lia
   refine aD (j:=3) ix rfl (λv8 i8=>?_);rw[cc.mp i8];k_few
   . exfalso
     lia
   refine aD (j:=3) ix rfl (λv9 i9=>?_);rw[cc.mp i9];k_few
   . exfalso
     lia
   exact⟨_,rfl,rfl⟩
 . rintro σ H3 ⟨o2,rfl,rfl⟩
   o_head lV (hq0.by T2) (λv4 i4=>?_);have i4:Is K H3 v4 (.tuple [N (aO ra rb xs n),TN (ao ra rb xs n),.str (vM w)]):=i4;k_few
   . rename_i z
     exact absurd (show true=false from z) ⋯
   refine ly i4 ?_;k_few
   . rename_i z
     exact absurd rfl z
   refine aD (j:=2) i4 rfl (λv5 i5=>?_);o_head ZV i5 ⟨_,rfl,?_⟩;rw[show DN (.str (vM w))=true from rfl];k_few;obtain⟨lp,usp,ex,hsp,tp⟩:=ck.mp (hq0.by T2);subst ex;have hpl:=tp.length;refine lF hsp (λj σ H'=>∃(o2:Option V),σ = [some (.ref lp),some (.int (xs.length:Int)),o2,some v4]/\ar H3 H') ⟨_,rfl,λ_ _ h=>h⟩ (λj σ H' _ h=>by obtain⟨_,_,S⟩:=h;exact S.seq hsp) ?_ ?_
   . rintro j x σ H5 hx ⟨o2,rfl,S5⟩
     obtain⟨hi,ix⟩:=kU tp hx;obtain⟨i,d4,ed,ci⟩:=zBv ok c47 h4 P hi;have ix5:=ix.by S5;rw[ed]at ix5;have hl:=bW ra rb xs i;have bh:af 4000 (aO ra rb xs i):=(ci.dM (wE ..)).mono ⋯;have bp:∀k,af 4000 ((ao ra rb xs i).getD k 0):=λk=>((jk ci λy hy=>wA _ hy).get k).mono ⋯
     generalize ao ra rb xs i=zs at *;generalize aO ra rb xs i=hh at *;o_head aD (j:=1) ix5 rfl (λv6 i6=>?_);k_few
     . rename_i z
       exact absurd (show true=false from z) ⋯
     refine aD (j:=1) ix5 rfl (λv7 i7=>?_);o_head yl i7 ?_;rw[hl];o_head aD (j:=0) ix5 rfl (λv8 i8=>?_);o_head O4 i8 bh (λH9 S9=>⟨_,rfl,?_⟩);o_head aD (j:=1) (ix5.by S9) rfl (λv10 i10=>?_);obtain⟨a10,us10,rfl,s10,t10⟩:=bY.mp (show Is K H9 v10 (.tuple (zs.map N))from i10);have hl10:=t10.length;rw[wl]at hl10;refine jw s10 (o0:=none) (tl:=[]) rfl (λk y _=>y=V.bl ((vf zs.length true).getD k true)) ?_ ?_
     . intro D k y ys o H11 hy inv
       obtain⟨hk,iy⟩:=cg t10 hy;have iy:=iy.by inv.same;o_head O4 iy (bp k) (λH12 S12=>?_);exact dQ inv () (λ_ _ _ _ _ h=>h) ⟨_,rfl⟩ S12 (by rw[wb,qH];split<;>rfl)
     . intro D ys H11 n11 S11 e11 hl11 hr11
       have hz:=mB (bs:=vf zs.length true) (by rw[Wq];lia) hr11;rw[hz]at e11;o_head zDn (.of e11) ?_;rw[decide_eq_false (λz=>by have:=QV z;cases this)];k_few;exact⟨_,rfl,S5.trans (S9.trans S11)⟩
   . rintro σ H5 ⟨o2,rfl,S5⟩
     k_few;exact q H5 (T2.trans S5)
def Ou(K:wa):Sp:=λvs H Q _=>∃x0,vs=[x0] /\ ∃(ra rb:Rat)(xs:List Rat),Is K H x0 (aY ra rb xs)/\cb ra rb xs/\(iM ra rb xs->Rq H Q .bM) /\ ∀l H' es n w us,eO ra rb xs es n w->H l=none->ar H H'->H' l=some (.lst us)->ah K H' us (gv ra rb xs es n w)->Q (.ref l) H'
theorem zrt{v:V}(h:Is K H v (aY ra rb xs))(ok:cb ra rb xs)(qe:iM ra rb xs->Rq H Q .bM)(q:∀l H' es n w us,eO ra rb xs es n w->H l=none->ar H H'->H' l=some (.lst us)->ah K H' us (gv ra rb xs es n w)->Q (.ref l) H'):Ou K [v] H Q E:=⟨_,rfl,ra,rb,xs,h,ok,qe,q⟩
theorem zqJ(T:Txt K mg a):aF P w K mg base aN 14 a.JA a.HS zQ (Ou K):=by
 refine T.Ie.F.ok tJ ?_ ?_;wtm_at "b1"
 refine⟨_,(ai (ay 1 tJ.nd eT)
     (ai (NR (tb:=λW=>kq (yr (tO K a) W (jY (gW 0) mO)) (gY 1)) (th:=kq (tC .bM) (gY 1)) rfl rfl rfl T.Ba (λW pn E' hx=>by exact(av (ay 1 tJ.nd (RC (Nx T) (hr.mono ⋯) rfl T.oY.g T.oY.F.kp T.oY.b hx (q1 0))))) (λpn ex oe=>by exact(av (ay 1 tJ.nd eT))))
     (av (aA (pv 1))))),?_⟩
 wtm_at "cl";rw[show start N1 [x0]=[some x0,none]from rfl];obtain⟨ra,rb,xs,hw,ok,qe,q⟩:=h;o_head LR (λσ' C o H'=>σ'=[some x0,some .bM]/\C=.ref a.fi/\iM ra rb xs/\ar H H') ?_ ?_
 . k_few
   refine SE hw ok (λF H' S=>⟨rfl,rfl,F,S⟩) (λl H' es n w us P hl S e t=>?_);k_few;exact q l H' es n w us P hl S e t
 . rintro σ' C o H' ⟨rfl,rfl,F,S⟩
   refine⟨T.GQ,?_⟩;k_few;exact qe F H' S
def Tz(K:wa):Sp:=λvs H Q _=>∃x0,vs=[x0] /\ ∃(ra rb:Rat)(xs:List Rat),Is K H x0 (aY ra rb xs)/\cb ra rb xs/\(iM ra rb xs->Rq H Q .bM) /\ ∀es n w v H',eO ra rb xs es n w->ar H H'->Is K H' v (zP w (aj (ao ra rb xs n)).length)->Q v H'
theorem zmt{v:V}(h:Is K H v (aY ra rb xs))(ok:cb ra rb xs)(qe:iM ra rb xs->Rq H Q .bM)(q:∀es n w v H',eO ra rb xs es n w->ar H H'->Is K H' v (zP w (aj (ao ra rb xs n)).length)->Q v H'):Tz K [v] H Q E:=⟨_,rfl,ra,rb,xs,h,ok,qe,q⟩
theorem zlI(T:Txt K mg a):aF P w K mg base aN 15 a.Hz a.GW zo (Tz K):=by
 refine T.G3.F.ok v_ ?_ ?_;wtm_at "b1"
 refine⟨_,(ai (ay 1 v_.nd eT)
     (ai (NR (tb:=λW=>kq (yr (CK K a) W (jY (gW 0) mO)) (gY 1)) (th:=kq (tC .bM) (gY 1)) rfl rfl rfl T.Ba (λW pn E' hx=>by exact(av (ay 1 v_.nd (RC (zAN T) (hr.mono ⋯) rfl T.sV.g T.sV.F.kp T.sV.b hx (q1 0))))) (λpn ex oe=>by exact(av (ay 1 v_.nd eT))))
     (av (aA (pv 1))))),?_⟩
 wtm_at "cl";rw[show start RL [x0]=[some x0,none]from rfl];obtain⟨ra,rb,xs,hw,ok,qe,q⟩:=h;o_head LR (λσ' C o H'=>σ'=[some x0,some .bM]/\C=.ref a.fi/\iM ra rb xs/\ar H H') ?_ ?_
 . k_few
   refine zBf hw ok (λF H' S=>⟨rfl,rfl,F,S⟩) (λes n w v H' P S i=>?_);k_few;exact q es n w v H' P S i
 . rintro σ' C o H' ⟨rfl,rfl,F,S⟩
   refine⟨T.GQ,?_⟩;k_few;exact qe F H' S
def Mh(K:wa):Sp:=λvs H Q _=>∃x0 x1 x2,vs=[x0,x1,x2] /\ ∃(a b:Rat)(xs:List Rat),Is K H x0 (R a b)/\Is K H x1 (TN xs)/\Is K H x2 (aY a b xs)/\cb a b xs/\e_ b.den 47 xs/\xs.length<=4/\Rq H Q (.bl true)
theorem Fe{a:Rat}{v w:V}(i1:Is K H v (R a b))(i2:Is K H w (TN xs))(i3:Is K H u (aY a b xs))(ok:cb a b xs)(c:e_ b.den 47 xs)(h4:xs.length<=4)(q:Rq H Q (.bl true)):Mh K [v,w,u] H Q E:=⟨_,_,_,rfl,a,b,xs,i1,i2,i3,ok,c,h4,q⟩
theorem Bn(T:Txt K mg a):aF P w K mg base aN 16 a.Jq a.HG u7 (Mh K):=by
 refine T.sL.F.ok LA ?_ ?_;wtm_at "b3"
 refine⟨_,(ai (ay 3 LA.nd (ak (zqJ T) hr T.Ie (q1 2)))
     (ai (aV (cY rP (pv 3) eT (cQ _)) (av (aA (gP rP (ak (zlI T) hr T.G3 (q1 2)) eT (cQ _)))) aX)
     (ai (aV (PW.pt (dq (cv (b_ (ak (zpw T) hr T.HM (ae (pv 3) (ae (c8 K T.h0t (q1 1)) ag))))) (fc (cv (b_ (ak (ztD T) hr T.Jg (q3 0 1 3))))))) (av (aA dX)) aX)
     (ai (jq (iN vH vN vO iJ (pv 3) (ae fP ag)))
     (av (aA dX)))))),?_⟩
 wtm_at "cl";rw[show start La [x0,x1,x2]=[some x0,some x1,some x2,none]from rfl];obtain⟨ra,rb,xs,hr',hx',hw',ok,c47,h4,q⟩:=h;o_head zrt hw' ok (λF H1 S1=>?_) (λl H1 es n w us P nl S1 e1 t1=>?_)
 . k_few
   refine zmt (hw'.by S1) ok (λ_ H2 S2=>?_) (λes n w _ _ P _ _=>(zxl P F).elim);k_few
   first | exact q H2 (S1.trans S2) | (rw[decide_eq_true rfl];exact q H2 (S1.trans S2))
 . have i1:Is K H1 (.ref l) (.list (gv ra rb xs es n w)):=ck.mpr ⟨l,us,rfl,.of e1,t1⟩
   have hul:=t1.length;have pl:(gv ra rb xs es n w).length=es.length+1:=by simp[gv]
   have bZ:=P.bZ;k_few
   . rename_i z
     cases z
   refine yl (hx'.by S1) ?_;o_head zpf i1 ok c47 h4 P (λH2 S2=>⟨_,rfl,?_⟩);have T2:=S1.trans S2;o_head zs4 (hr'.by T2) (hx'.by T2) (i1.by S2) ok c47 h4 P (λH3 S3=>⟨_,rfl,?_⟩);have T3:=T2.trans S3;have e3:=(S2.trans S3) _ _ e1;o_head h_ (aE.of e3) ?_;o_head iD e3 () (λH4 E4 e4=>?_);k_few;exact q H4 (T3.grow nl E4)
def Um(K:wa):Sp:=λvs H Q _=>∃x0 x1 x2,vs=[x0,x1,x2] /\ ∃(p:we)(k m:Int)(ra rb:Rat),x0=.ref p/\x2=.int m/\Is K H x1 (R ra rb)/\aR ra rb/\cV H p k/\k<=900/\3<=m/\m<=8 /\ ∀(l:we)(H':Hp)(us:List V)(xs:List Rat),H l=none->Exc p H H'->a_ H H'->cV H' p (k+13)->H' l=some (.lst us)->ah K H' us (xs.map N)->1<=xs.length->(xs.length:Int)<=m->(∀x∈xs,fh x)->Q (.ref l) H'
theorem MB{k m:Int}{v:V}(ir:Is K H v (R ra rb))(ok:aR ra rb)(h:cV H p k)(hk:k<=900)(h1:3<=m)(h8:m<=8)(q:∀(l:we)(H':Hp)(us:List V)(xs:List Rat),H l=none->Exc p H H'->a_ H H'->cV H' p (k+13)->H' l=some (.lst us)->ah K H' us (xs.map N)->1<=xs.length->(xs.length:Int)<=m->(∀x∈xs,fh x)->Q (.ref l) H'):Um K [.ref p,v,.int m] H Q E:=⟨_,_,_,rfl,p,k,m,ra,rb,rfl,rfl,ir,ok,h,hk,h1,h8,q⟩
theorem zAI(h1:1<=n)(h3:n<=3):cJ (vf n (1:Int)):=by
 have:n=1\/n=2\/n=3:=by lia
 rcases this with rfl | rfl | rfl
 ·exact⟨by decide,by decide,by decide,by decide⟩
 ·exact⟨by decide,by decide,by decide,by decide⟩
 ·exact⟨by decide,by decide,by decide,by decide⟩
theorem zzg(h0:¬ x.num<0)(h1:¬ (x.den:Int)<=x.num)(h2:¬ (60:Int)<(x.den:Int)):fh x:=by
 have:=UN (r:=x.num) (u:=(x.den:Int)) () () ();rw[WY]at this;exact this
theorem R_(T:Txt K mg a):aF P w K mg base aN 6 a.Jw a.HH uL (Um K):=by
 refine T.A2.F.ok Ae ?_ ?_;wtm_at "b3"
 refine⟨_,(ai (ay 3 Ae.nd (ak (zjn T) hr T.GO (q2 0 2)))
     (ai (aV (PW.pt (dq (cY kx (ak (gE T) hr T.fL (ae (pv 0) (ae au ag))) au (cQ _)) (fc (d5 K hu (qi 1) (aQ (ae au (ae au ag))))))) (av (aA (pv 3))) aX)
     (ai (ay 4 Ae.nd (aB cB (ak (Aq T) hr T.oW (ae (pv 1) (ae (aB (show bG _ (WF .Mult) nI from Gk) (dy (ae au ag)) (aB cB au (ak (gE T) hr T.fL (ae (pv 0) (ae au ag))))) ag))) (dy (ae (aQ (ae au (ae au ag))) ag))))
     (ai (d6 w5 rfl (eY (pv 4)) (cT (i:=5) Ae.nd rfl (Or.inl rfl)) (av (aV (PW.pt (dq (cY jT (qi 5) au (cQ _)) (dq (cY zg (qi 5) (qi 5) (cQ _)) (fc (cY kx (qi 5) au (cQ _)))))) (av (aA (pv 3))) aX)))
     (av (aA (pv 4))))))),?_⟩
 wtm_at "cl";rw[show start O0 [x0,x1,x2]=[some x0,some x1,some x2,none,none,none]from rfl];obtain⟨p,k,m,ra,rb,rfl,rfl,ir,ok,hp,hk,h3,h8,q⟩:=h;o_head zjo hp () () () (λl1 H1 us1 xs1 n1 E1 K1 P1 e1 t1 a1 b1 ph1=>?_);have ne1:l1≠p:=cV.ne n1 hp;k_few
 . rename_i d H2 d0 d1 E2 K2 P2 z
   exact q l1 H2 us1 xs1 n1 (E1.trans E2) (K1.trans K2) (P2.le ()) (E2.at ne1 e1) (ah.keep K2 _ _ (dZ _) t1) a1 b1 ph1
 . rename_i d H2 d0 d1 E2 K2 P2 z va ia
   have e2:=E2.at ne1 e1;have t2:ah K H2 us1 (xs1.map N):=ah.keep K2 _ _ (dZ _) t1;have ir2:=(ir.kO K1).kO K2;have EA:=E1.trans E2;have KA:=K1.trans K2;clear E1 K1 P1 e1 t1 E2 K2 ir;refine cU (r:=1) rfl rfl (λv3 H3 S3 i3=>?_);refine tX (ia.by S3) i3 ⟨_,rfl,?_⟩
   by_cases za:ra=1
   . rw[decide_eq_true za,if_pos rfl]
     k_few;exact q l1 H3 us1 xs1 n1 (EA.trans S3.exc) (KA.trans S3.keep) ((P2.same S3).le ()) (S3 _ _ e2) (ah.same S3 _ _ t2) a1 b1 ph1
   . rw[decide_eq_false za,if_neg ⋯]
     o_head dC ∅ (λl4 H4 n4 S4 e4=>?_);have P4:=(P2.same S3).same S4;k_few;rename_i r H5 r0 r1 E5 K5 P5;have ne4:l4≠p:=cV.ne n4 (P2.same S3);refine Eu (E5.at ne4 e4) () () (λl6 H6 n6 S6 e6=>?_);obtain⟨n,hn⟩:∃n:Nat,2+r=(n:Int):=⟨(2+r).toNat,by lia⟩;rw[hn,wx]at e6;have e6:H6 l6=some (.lst ((vf n (1:Int)).map V.int)):=by rw[Xe];exact e6
     have S34:=S3.trans S4;have KB:=KA.trans (S34.keep.trans (K5.trans S6.keep));have EB:=EA.trans (S34.exc.trans (E5.trans S6.exc));have P6:=P5.same S6;have eB:H6 l1=some (.lst us1):=S6 _ _ (E5.at ne1 (S34 _ _ e2));have tB:ah K H6 us1 (xs1.map N):=ah.keep (S34.keep.trans (K5.trans S6.keep)) _ _ (dZ _) t2;have irB:=ir2.kO (S34.keep.trans (K5.trans S6.keep));clear S3 S4 S34 E5 K5 S6 e2 t2 ir2 EA KA P2 P4 P5 e4 i3 ia n4 ne4 n6;o_head y7 irB (.of e6) ok (zAI () ()) za (λl7 H7 us7 n7 S7 e7 t7=>?_);have hsl:(bQ ra rb (vf n (1:Int))).length=n-1:=by rw[kG (by rw[Wq];lia),Wq]
     have hul:=t7.length;rw[wl,hsl]at hul;generalize bQ ra rb (vf n (1:Int))=ys at *;o_head cU (r:=0) rfl rfl (λv8 H8 S8 i8=>?_);o_head dC ∅ (λl9 H9 n9 S9 e9=>?_);refine jV (S9 _ _ (S8 _ _ e7)) e9 (WA (gF (by simp;lia))) (λl10 H10 n10 S10 e10=>?_);have S710:=S8.trans (S9.trans S10);have t10:ah K H10 (us7++[v8]) ((ys++[0]).map N):=Ce (ah.same S710 _ _ t7) (i8.by (S9.trans S10));have SC:=S7.trans S710;have hn10:H6 l10=none:=fm (S7.trans (S8.trans S9)) n10
     have hnl:H l10=none:=by
       have ne:l10≠p:=cV.ne hn10 P6;cases e:H l10 with
       | none=>rfl
       | some o=>rw[EB l10 o ne e]at hn10;cases hn10
     clear S7 S8 S9 S10 S710 t7 i8 n7 n9 n10 e7 e9;o_head lF (.of e10) (λi σ H'=>∃o,σ = [some (.ref p),some x1,some (.int m),some (.ref l1),some (.ref l10),o]/\H'=H10 /\ ∀j,j<i->fh ((ys++[0]).getD j 0)) ⟨_,rfl,rfl,λj hj=>by lia⟩ (λi σ H' _ h=>by obtain⟨_,_,rfl,_⟩:=h;exact .of e10) ?_ ?_
     . rintro i x σ H' hx ⟨o,rfl,rfl,hj⟩
       obtain⟨hi,ix⟩:=cg t10 hx;k_few
       . exact q l1 H' us1 xs1 n1 (EB.trans SC.exc) (KB.trans SC.keep) ((P6.same SC).le ()) (SC _ _ eB) (ah.same SC _ _ tB) a1 b1 ph1
       . exact q l1 H' us1 xs1 n1 (EB.trans SC.exc) (KB.trans SC.keep) ((P6.same SC).le ()) (SC _ _ eB) (ah.same SC _ _ tB) a1 b1 ph1
       . exact q l1 H' us1 xs1 n1 (EB.trans SC.exc) (KB.trans SC.keep) ((P6.same SC).le ()) (SC _ _ eB) (ah.same SC _ _ tB) a1 b1 ph1
       . rename_i z1 z2 z3
         refine⟨_,rfl,rfl,λj hj'=>?_⟩;rcases wG j i with y | y
         . exact hj j y
         . have:j=i:=by lia
           subst this;exact zzg z1 z2 z3
     . rintro σ H' ⟨o,rfl,rfl,hj⟩
       k_few;have hyl:(ys++[0]).length=n:=by simp[hsl];lia
       refine q l10 H' _ (ys++[0]) hnl (EB.trans SC.exc) (KB.trans SC.keep) ((P6.same SC).le ()) e10 t10 () () (λy hy=>?_);obtain⟨j,hj',e⟩:=ve hy;have:=hj j (by simp;lia);rw[wb,wc hj']at this;rw[<- e];exact this
def Ai(K:wa):Sp:=λvs H Q _=>∃x0,vs=[x0] /\ ∃(a:we)(ns:List Int),x0=.ref a/\iW K H a (ns.map V.int)/\ns.length<=63 /\ ∀H',Q (.bl true) H'
theorem zDR(T:Txt K mg a):aF P w K mg base aN 17 a.law a.Ks yZ (Ai K):=by
 refine T.YV.F.ok oo ?_ ?_;wtm_at "b1"
 refine⟨_,(ai (ay 1 oo.nd (ak (R6 T) hr T.AV (ae (ak (Aa T) hr T.oZ (ae (pv 0) (ae au ag))) ag)))
     (ai (ay 2 oo.nd (eQ K T.h0i (ae (ak (R_ T) hr T.A2 (ae (ak (Aa T) hr T.oZ (ae (pv 0) (ae au ag))) (ae (pv 1) (ae au ag)))) ag)))
     (ai (ay 3 oo.nd (ak (R6 T) hr T.AV (ae (ak (Aa T) hr T.oZ (ae (pv 0) (ae au ag))) ag)))
     (ai (ay 4 oo.nd (eQ K T.h0i (ae (ak (R_ T) hr T.A2 (ae (ak (Aa T) hr T.oZ (ae (pv 0) (ae au ag))) (ae (pv 3) (ae au ag)))) ag)))
     (ai (ay 5 oo.nd (ak (OQ T) hr T.A8 (q2 1 2)))
     (ai (aV (PW.pt (dq (cv (b_ (ak (Bn T) hr T.sL (q3 1 2 5)))) (fc (cv (b_ (ak (Bn T) hr T.sL (ae (pv 3) (ae (pv 4) (ae (ak (OQ T) hr T.A8 (q2 3 4)) ag))))))))) (av (aA dX)) aX)
     (av (aA (fJ (ak (Bn T) hr T.sL (q3 1 2 5)) (jg (j7 K hu (pv 5) (aQ (q2 1 2))))))))))))),?_⟩
 wtm_at "cl";rw[show start L3 [x0]=[some x0,none,none,none,none,none]from rfl];obtain⟨a',ns0,rfl,hs,hl,q⟩:=h;o_head AI hs hl ⋯ ⋯ (λp1 H1 hp1 S1 P1=>?_);o_head UD P1 ⋯ (λv2 H2 ra rb E2 K2 P2 i2 ok=>?_);have KA:a_ H H2:=S1.keep.trans K2;o_head AI (KA.yu hs) hl ⋯ ⋯ (λp3 H3 hp3 S3 P3=>?_);o_head MB (i2.by S3) ok P3 ⋯ ⋯ ⋯ (λl4 H4 us4 xs n4 E4 K4 P4 e4 t4 a4 b4 ph4=>?_);have i4:=i2.kO (S3.keep.trans K4);have KB:=KA.trans (S3.keep.trans K4);o_head fR (bX e4 t4) (λvx H5 S5 ix=>?_);have i5:=i4.by S5;have KC:=KB.trans S5.keep;have h4:xs.length<=4:=by lia
 clear i2 i4 S1 S3 P1 P2 P3 P4 E2 K2 E4 K4 e4 t4 n4 hp1 hp3 KA KB S5;o_head AI (KC.yu hs) hl ⋯ ⋯ (λp7 H7 hp7 S7 P7=>?_);o_head UD P7 ⋯ (λv8 H8 ra2 rb2 E8 K8 P8 i8 ok2=>?_);have KE:=S7.keep.trans K8;have i58:=i5.kO KE;have ix8:=ix.ik KE (lC _);have KF:=KC.trans KE;clear i5 ix S7 K8 E8 P7 P8 hp7 KE KC;o_head AI (KF.yu hs) hl ⋯ ⋯ (λp9 H9 hp9 S9 P9=>?_);o_head MB (i8.by S9) ok2 P9 ⋯ ⋯ ⋯ (λl10 H10 us10 ys n10 E10 K10 P10 e10 t10 a10 b10 ph10=>?_);have KG:=S9.keep.trans K10;have i510:=i58.kO KG;have i810:=i8.kO KG;have ix10:=ix8.ik KG (lC _);o_head fR (bX e10 t10) (λvy H11 S11 iy=>?_);have i511:=i510.by S11;have i811:=i810.by S11;have ix11:=ix10.by S11;have h3:ys.length<=4:=by lia
 clear i58 i8 ix8 i510 i810 ix10 KG KF S9 K10 E10 P9 P10 e10 t10 n10 hp9 S11;obtain⟨bg,c47⟩:=cb.of ok a4 () ph4;obtain⟨bg2,c472⟩:=cb.of ok2 a10 () ph10;o_head OX i511 ok (.inr ix11) a4 () ph4 (λvw H12 S12 iw=>?_);o_head Fe (i511.by S12) (ix11.by S12) iw bg c47 h4 (λH13 S13=>⟨_,rfl,?_⟩);have T13:=S12.trans S13;o_head OX (i811.by T13) ok2 (.inr (iy.by T13)) a10 () ph10 (λvo H14 S14 io=>?_);have T14:=T13.trans S14;o_head Fe (i811.by T14) (iy.by T14) io bg2 c472 h3 (λH15 S15=>⟨_,rfl,?_⟩);have T15:=T14.trans S15;have iw15:=iw.by (S13.trans (S14.trans S15));o_head Fe (i511.by T15) (ix11.by T15) iw15 bg c47 h4 (λH16 S16=>⟨_,rfl,?_⟩);have T16:=T15.trans S16;o_head c6 (ds:=[R ra rb,TN xs]) ∅ (.cons (i511.by T16) (.cons (ix11.by T16) .nil)) (λv17 H17 S17 i17=>?_);refine EH (iw15.by (S16.trans S17)) (show Is K H17 v17 (aY ra rb xs)from i17) (Zb _ _ _) ⋯ (zEY _ _ _) ?_;exact q _
end
variable{us:List wf}
theorem UI(h:us.length=1):∃a,us=[a]:=by
 cases us with
 | nil=>cases h
 | cons a t=>exact⟨a,by rw[qJ.mp (Qf h)]⟩
theorem Pl(h:us.length=2):∃a0 a1,us=[a0,a1]:=by
 cases us with
 | nil=>cases h
 | cons a0 t =>
  obtain⟨a1,e⟩:=UI (Qf h);exact⟨a0,a1,by rw[e]⟩
theorem UC(h:us.length=3):∃a0 a1 a2,us=[a0,a1,a2]:=by
 cases us with
 | nil=>cases h
 | cons a0 t =>
  obtain⟨a1,a2,e⟩:=Pl (Qf h);exact⟨a0,a1,a2,by rw[e]⟩
theorem TU(h:us.length=4):∃a0 a1 a2 a3,us=[a0,a1,a2,a3]:=by
 cases us with
 | nil=>cases h
 | cons a0 t =>
  obtain⟨a1,a2,a3,e⟩:=UC (Qf h);exact⟨a0,a1,a2,a3,by rw[e]⟩
theorem zEE(h:us.length=5):∃a0 a1 a2 a3 a4,us=[a0,a1,a2,a3,a4]:=by
 cases us with
 | nil=>cases h
 | cons a0 t =>
  obtain⟨a1,a2,a3,a4,e⟩:=TU (Qf h);exact⟨a0,a1,a2,a3,a4,by rw[e]⟩
inductive aK(K:wa)(n:Str)(st:wW)(f:we):Prop
 | mk {od an:Option we} {sl:Array (Option wf)} {oc kV dc pm cd ct:wf} (a:vj K wP n=some (some (.ref f))) (l:K.lookup f=some ⟨oc,od,.func (VE n n (oh st) (lQ st) (aG st) .none kV dc pm an cd ct),sl⟩) (c:Qj K cd n=true) (k:qF K (.ref f)=true):aK K n st f
theorem aK.dn{K:wa}{h:wJ}{mg:Str->Option wf}{n:Str}{st:wW}{f:we}{ps:List Str}(A:aK K n st f)(X:K.In h)(GN:h.Ns wP mg)
  (b:∀(kV doc pm:wf)(an:Option we)(cdv ct:wf)(us:List wf),us.length=ps.length->bindArgs (VE n n (oh st) (lQ st) (aG st) .none kV doc pm an cdv ct) ⟨us,[]⟩=pure (ps.zip us):=by wtm_at "bd"):∃fd,Dn K mg n st ps f fd:=by
 obtain⟨a,l,c,k⟩:=A;have F:=U8 (st:=st) l c k;exact⟨_,F,Wz X GN a,F.binds b⟩
set_option hygiene false in
local macro_rules | `(tactic| wtm_at "bd")=>`(tactic| (intro _ _ _ _ _ _ us hl; first | (obtain ⟨_,rfl⟩:=UI hl; rfl) | (obtain ⟨_,_,rfl⟩:=Pl hl; rfl) | (obtain ⟨_,_,_,rfl⟩:=UC hl; rfl) | (obtain ⟨_,_,_,_,rfl⟩:=TU hl; rfl) | (obtain ⟨_,_,_,_,_,rfl⟩:=zEE hl; rfl)))
set_option maxHeartbeats 8000000 in
theorem all_mk{l:Q2}{w:wM}{K:wa}{h:wJ}{mg:Str->Option wf}{fa:we}(X:K.In h)(G:h.Ns wP mg)(hfa:mg "law"=some (.ref fa))
  {f0 f1 f2 f3 f4 f5 f6 f7 f8 f9 f10 f11 f12 f13 f14 f15 f16 f17 f18 f19 f20 f21 f22 f23 f24 f25 f26 f27 f28 f29 f30 f31 f32 f33 f34 f35 f36 f37 f38 f39 f40 f41 f42 f43 f44 f45 f46 f47 f48 f49 f50 f51 f52 f53 f54 f55 f56 f57 f58 f59 f60 f61 f62 f63 f64 f65 f66 f67 f68 f69 f70 f71 f72 f73 f74 f75 f76 f77 f78 f79 f80 f81 f82 f83:we}
  {e0:we}
  {e1:we}
  {g0:we} {gn0:Nat} {gd0:Option we} {gs0:Array (Option wf)} {tk0_0 tk0_1:Tok}
  {g1:we} {gn1:Nat} {gd1:Option we} {gs1:Array (Option wf)} {tk1_0 tk1_1:Tok}
  {g2:we} {gn2:Nat} {gd2:Option we} {gs2:Array (Option wf)} {tk2_0 tk2_1:Tok}
  {tk3:Tok}
  {tk4:Tok}
  {tk5:Tok}
  {tk6:Tok}
  {tk7:Tok}
  (a0:aK K "is_whole" C3 f0)
  (a1:aK K "greatest_divisor" Fd f1)
  (a2:aK K "is_number" ET f2)
  (a3:aK K "plus" FA f3)
  (a4:aK K "minus" EJ f4)
  (a5:aK K "times" Fh f5)
  (a6:aK K "over" Gf f6)
  (a7:aK K "less" BB f7)
  (a8:aK K "is_factor" DY f8)
  (a9:aK K "is_shift" Ca f9)
  (a10:aK K "make_rule" Ei f10)
  (a11:aK K "is_rule" CM f11)
  (a12:aK K "bend" GA f12)
  (a13:aK K "pushes" DB f13)
  (a14:aK K "pushed_by" DT f14)
  (a15:aK K "is_phase" Dr f15)
  (a16:aK K "are_phases" BH f16)
  (a17:aK K "swarm_of" Di f17)
  (a18:aK K "greatest" FR f18)
  (a19:aK K "worms_at" Gb f19)
  (a20:aK K "flocks" Fm f20)
  (a21:aK K "at_the_end" DS f21)
  (a22:aK K "glow" DH f22)
  (a23:aK K "history" BX f23)
  (a24:aK K "behind" Dm f24)
  (a25:aK K "is_laid" B3 f25)
  (a26:aK K "laid" Gn f26)
  (a27:aK K "phases_behind" C9 f27)
  (a28:aK K "stands" BR f28)
  (a29:aK K "round_behind" Ex f29)
  (a30:aK K "round_time" GI f30)
  (a31:aK K "tops" CZ f31)
  (a32:aK K "is_free" EX f32)
  (a33:aK K "round_map" Cy f33)
  (a34:aK K "still" Fo f34)
  (a35:aK K "weighed" C4 f35)
  (a36:aK K "led_on" B7 f36)
  (a37:aK K "rounds_behind" BK f37)
  (a38:aK K "sums_of_places" DL f38)
  (a39:aK K "rounds_time" BY f39)
  (a40:aK K "draws_freely" FV f40)
  (a41:aK K "stays_free" Fn f41)
  (a42:aK K "free_rounds" Gu f42)
  (a43:aK K "behind_rounds" BO f43)
  (a44:aK K "behind_row" El f44)
  (a45:aK K "word_of" Et f45)
  (a46:aK K "glows_to_join" Ep f46)
  (a47:aK K "next_row" DC f47)
  (a48:aK K "paper_of" Gj f48)
  (a49:aK K "fate" EZ f49)
  (a50:aK K "_law_cell" F9 f50)
  (a51:aK K "_law_pen" ER f51)
  (a52:aK K "_law_draw" Cv f52)
  (a53:aK K "_law_low" Bw f53)
  (a54:aK K "_law_sum" Bo f54)
  (a55:aK K "_law_rest" F6 f55)
  (a56:aK K "_law_product" Fb f56)
  (a57:aK K "_law_part" Gp f57)
  (a58:aK K "_law_below" CL f58)
  (a59:aK K "_law_whole" Dy f59)
  (a60:aK K "_law_drawn_rule" Dw f60)
  (a61:aK K "_law_pushes" BE f61)
  (a62:aK K "_law_round" Cs f62)
  (a63:aK K "_law_power" C5 f63)
  (a64:aK K "_law_rests" Ec f64)
  (a65:aK K "_law_behind" DZ f65)
  (a66:aK K "_law_free" DE f66)
  (a67:aK K "_law_all" C8 f67)
  (a68:aK K "_law_drawn_phases" ES f68)
  (a69:aK K "_law_high" Gq f69)
  (a70:aK K "_law_placed" Eg f70)
  (a71:aK K "_law_glow" BG f71)
  (a72:aK K "_law_laid" Bz f72)
  (a73:aK K "_law_time" Er f73)
  (a74:aK K "_law_stand" FX f74)
  (a75:aK K "_law_word" BL f75)
  (a76:aK K "_law_lets" C7 f76)
  (a77:aK K "_law_lowest" Br f77)
  (a78:aK K "_law_formed" Dd f78)
  (a79:aK K "_law_paper" Fj f79)
  (a80:aK K "_law_fate_told" Gy f80)
  (a81:aK K "_law_right" Cb f81)
  (a82:aK K "_law_start" Es f82)
  (a83:aK K "law" AQ f83)
  (h0h:vj K wP "NoStand"=some (some (.ref e0)))
  (h0g:vj K wP "TooLong"=some (some (.ref e1)))
  (h0s:vj K wP "abs"=some none)
  (h0v:vj K wP "all"=some none)
  (h0o:vj K wP "any"=some none)
  (h0l:vj K wP "bool"=some none)
  (h0k:vj K wP "dict"=some none)
  (h0f:vj K wP "enumerate"=some none)
  (h0n:vj K wP "int"=some none)
  (h0c:vj K wP "isinstance"=some none)
  (h0t:vj K wP "len"=some none)
  (h0m:vj K wP "list"=some none)
  (h0p:vj K wP "min"=some none)
  (h0j:vj K wP "range"=some none)
  (h0q:vj K wP "str"=some none)
  (h0u:vj K wP "sum"=some none)
  (h0i:vj K wP "tuple"=some none)
  (h0r:vj K wP "zip"=some none)
  (h0e:VR K e0 pD "ValueError.__new__"=true)
  (h0b:qb K (.ref e0) (.ref e1)=some false)
  (h0d:VR K e1 pD "ValueError.__new__"=true)
  (h0a:qb K (.ref e1) (.ref e1)=some true)
  (q0:vj K wP "NOUGHT"=some (some (.ref g0)))
  (r0:K.lookup g0=some ⟨.type "tuple",gd0,.seq #[.int 0 tk0_0,.int 1 tk0_1] gn0,gs0⟩)
  (q1:vj K wP "ONE"=some (some (.ref g1)))
  (r1:K.lookup g1=some ⟨.type "tuple",gd1,.seq #[.int 1 tk1_0,.int 1 tk1_1] gn1,gs1⟩)
  (q2:vj K wP "GREATEST_FACTOR"=some (some (.ref g2)))
  (r2:K.lookup g2=some ⟨.type "tuple",gd2,.seq #[.int 4 tk2_0,.int 1 tk2_1] gn2,gs2⟩)
  (q3:vj K wP "FACTOR_BOTTOM"=some (some (.int 8 tk3)))
  (q4:vj K wP "SHIFT_BOTTOM"=some (some (.int 12 tk4)))
  (q5:vj K wP "MOST_WORMS"=some (some (.int 8 tk5)))
  (q6:vj K wP "PHASE_BOTTOM"=some (some (.int 60 tk6)))
  (q7:vj K wP "MOST_FREE"=some (some (.int 30 tk7)))
  : ∃fd:wz,(∀(s:wm)(v:wf),BindsTo s fd ⟨[v],[]⟩ [("_law_script",v)]) /\ ∀base:wJ,K.In base->base.Ns wP mg->aF l.prog w K mg base aN 17 fa fd ["_law_script"] (Ai K):=by
 obtain⟨aL,lL,cL,kL⟩:=a83;cases hfa.symm.trans (Wz X G aL);have FL:=U8 (st:=AQ) lL cL kL;have D83:Dn K mg _ _ yZ _ _:=⟨FL,Wz X G aL,FL.binds (by wtm_at "bd")⟩;have⟨_,D0⟩:=a0.dn (ps:=AF) X G;have⟨_,D1⟩:=a1.dn (ps:=tL) X G;have⟨_,D2⟩:=a2.dn (ps:=yI) X G;have⟨_,D3⟩:=a3.dn (ps:=tE) X G;have⟨_,D4⟩:=a4.dn (ps:=zU) X G;have⟨_,D5⟩:=a5.dn (ps:=tY) X G;have⟨_,D6⟩:=a6.dn (ps:=yk) X G;have⟨_,D7⟩:=a7.dn (ps:=yo) X G;have⟨_,D8⟩:=a8.dn (ps:=yg) X G;have⟨_,D9⟩:=a9.dn (ps:=yR) X G;have⟨_,D10⟩:=a10.dn (ps:=yX) X G;have⟨_,D11⟩:=a11.dn (ps:=AJ) X G;have⟨_,D12⟩:=a12.dn (ps:=Ag) X G;have⟨_,D13⟩:=a13.dn (ps:=yw) X G;have⟨_,D14⟩:=a14.dn (ps:=Aw) X G;have⟨_,D15⟩:=a15.dn (ps:=AR) X G;have⟨_,D16⟩:=a16.dn (ps:=tZ) X G;have⟨_,D17⟩:=a17.dn (ps:=zD) X G;have⟨_,D18⟩:=a18.dn (ps:=uW) X G;have⟨_,D19⟩:=a19.dn (ps:=tQ) X G;have⟨_,D20⟩:=a20.dn (ps:=Ay) X G;have⟨_,D21⟩:=a21.dn (ps:=As) X G;have⟨_,D22⟩:=a22.dn (ps:=An) X G;have⟨_,D23⟩:=a23.dn (ps:=zJ) X G;have⟨_,D24⟩:=a24.dn (ps:=yF) X G;have⟨_,D25⟩:=a25.dn (ps:=Al) X G;have⟨_,D26⟩:=a26.dn (ps:=AG) X G;have⟨_,D27⟩:=a27.dn (ps:=yj) X G;have⟨_,D28⟩:=a28.dn (ps:=zc) X G;have⟨_,D29⟩:=a29.dn (ps:=tK) X G;have⟨_,D30⟩:=a30.dn (ps:=y9) X G;have⟨_,D31⟩:=a31.dn (ps:=zy) X G;have⟨_,D32⟩:=a32.dn (ps:=AH) X G;have⟨_,D33⟩:=a33.dn (ps:=zR) X G;have⟨_,D34⟩:=a34.dn (ps:=AB) X G;have⟨_,D35⟩:=a35.dn (ps:=x_) X G;have⟨_,D36⟩:=a36.dn (ps:=z5) X G;have⟨_,D37⟩:=a37.dn (ps:=tI) X G;have⟨_,D38⟩:=a38.dn (ps:=Ak) X G
 have⟨_,D39⟩:=a39.dn (ps:=uX) X G;have⟨_,D40⟩:=a40.dn (ps:=tP) X G;have⟨_,D41⟩:=a41.dn (ps:=AL) X G;have⟨_,D42⟩:=a42.dn (ps:=AA) X G;have⟨_,D43⟩:=a43.dn (ps:=zT) X G;have⟨_,D44⟩:=a44.dn (ps:=yU) X G;have⟨_,D45⟩:=a45.dn (ps:=AN) X G;have⟨_,D46⟩:=a46.dn (ps:=z_) X G;have⟨_,D47⟩:=a47.dn (ps:=yD) X G;have⟨_,D48⟩:=a48.dn (ps:=zK) X G;have⟨_,D49⟩:=a49.dn (ps:=uT) X G;have⟨_,D50⟩:=a50.dn (ps:=uV) X G;have⟨_,D51⟩:=a51.dn (ps:=zH) X G;have⟨_,D52⟩:=a52.dn (ps:=u0) X G;have⟨_,D53⟩:=a53.dn (ps:=AO) X G;have⟨_,D54⟩:=a54.dn (ps:=yO) X G;have⟨_,D55⟩:=a55.dn (ps:=tT) X G;have⟨_,D56⟩:=a56.dn (ps:=zO) X G;have⟨_,D57⟩:=a57.dn (ps:=zf) X G;have⟨_,D58⟩:=a58.dn (ps:=zY) X G;have⟨_,D59⟩:=a59.dn (ps:=zu) X G;have⟨_,D60⟩:=a60.dn (ps:=AK) X G;have⟨_,D61⟩:=a61.dn (ps:=z8) X G;have⟨_,D62⟩:=a62.dn (ps:=Am) X G;have⟨_,D63⟩:=a63.dn (ps:=yT) X G;have⟨_,D64⟩:=a64.dn (ps:=yf) X G;have⟨_,D65⟩:=a65.dn (ps:=zN) X G;have⟨_,D66⟩:=a66.dn (ps:=tS) X G;have⟨_,D67⟩:=a67.dn (ps:=zw) X G;have⟨_,D68⟩:=a68.dn (ps:=yW) X G;have⟨_,D69⟩:=a69.dn (ps:=zh) X G;have⟨_,D70⟩:=a70.dn (ps:=Ar) X G;have⟨_,D71⟩:=a71.dn (ps:=uJ) X G;have⟨_,D72⟩:=a72.dn (ps:=yA) X G;have⟨_,D73⟩:=a73.dn (ps:=yC) X G;have⟨_,D74⟩:=a74.dn (ps:=uM) X G;have⟨_,D75⟩:=a75.dn (ps:=yY) X G;have⟨_,D76⟩:=a76.dn (ps:=yz) X G;have⟨_,D77⟩:=a77.dn (ps:=u4) X G;have⟨_,D78⟩:=a78.dn (ps:=u5) X G;have⟨_,D79⟩:=a79.dn (ps:=zQ) X G;have⟨_,D80⟩:=a80.dn (ps:=zo) X G;have⟨_,D81⟩:=a81.dn (ps:=u7) X G
 have⟨_,D82⟩:=a82.dn (ps:=uL) X G
 have T:Txt K mg ⟨f0,_,f1,_,f2,_,f3,_,f4,_,f5,_,f6,_,f7,_,f8,_,f9,_,f10,_,f11,_,f12,_,f13,_,f14,_,f15,_,f16,_,f17,_,f18,_,f19,_,f20,_,f21,_,f22,_,f23,_,f24,_,f25,_,f26,_,f27,_,f28,_,f29,_,f30,_,f31,_,f32,_,f33,_,f34,_,f35,_,f36,_,f37,_,f38,_,f39,_,f40,_,f41,_,f42,_,f43,_,f44,_,f45,_,f46,_,f47,_,f48,_,f49,_,f50,_,f51,_,f52,_,f53,_,f54,_,f55,_,f56,_,f57,_,f58,_,f59,_,f60,_,f61,_,f62,_,f63,_,f64,_,f65,_,f66,_,f67,_,f68,_,f69,_,f70,_,f71,_,f72,_,f73,_,f74,_,f75,_,f76,_,f77,_,f78,_,f79,_,f80,_,f81,_,f82,_,_,_,e0,e1,g0,g1,g2⟩:=⟨D0,
  D1,
  D2,
  D3,
  D4,
  D5,
  D6,
  D7,
  D8,
  D9,
  D10,
  D11,
  D12,
  D13,
  D14,
  D15,
  D16,
  D17,
  D18,
  D19,
  D20,
  D21,
  D22,
  D23,
  D24,
  D25,
  D26,
  D27,
  D28,
  D29,
  D30,
  D31,
  D32,
  D33,
  D34,
  D35,
  D36,
  D37,
  D38,
  D39,
  D40,
  D41,
  D42,
  D43,
  D44,
  D45,
  D46,
  D47,
  D48,
  D49,
  D50,
  D51,
  D52,
  D53,
  D54,
  D55,
  D56,
  D57,
  D58,
  D59,
  D60,
  D61,
  D62,
  D63,
  D64,
  D65,
  D66,
  D67,
  D68,
  D69,
  D70,
  D71,
  D72,
  D73,
  D74,
  D75,
  D76,
  D77,
  D78,
  D79,
  D80,
  D81,
  D82,
  D83,
  vD X G h0s,
  vD X G h0v,
  vD X G h0o,
  vD X G h0l,
  vD X G h0k,
  vD X G h0f,
  vD X G h0n,
  vD X G h0c,
  vD X G h0t,
  vD X G h0m,
  vD X G h0p,
  vD X G h0j,
  vD X G h0q,
  vD X G h0u,
  vD X G h0i,
  vD X G h0r,
  Wz X G h0h,
  Wz X G h0g,
  h0e,
  h0b,
  h0d,
  h0a,
  Wz X G q0,
  λH=>.inr ⟨_,_,_,r0,rfl,rfl,by simp;decide,(.cons ⟨_,rfl⟩ (.cons ⟨_,rfl⟩ .nil))⟩,
  Wz X G q1,
  λH=>.inr ⟨_,_,_,r1,rfl,rfl,by simp;decide,(.cons ⟨_,rfl⟩ (.cons ⟨_,rfl⟩ .nil))⟩,
  Wz X G q2,
  λH=>.inr ⟨_,_,_,r2,rfl,rfl,by simp;decide,(.cons ⟨_,rfl⟩ (.cons ⟨_,rfl⟩ .nil))⟩,
  ⟨_,Wz X G q3⟩,
  ⟨_,Wz X G q4⟩,
  ⟨_,Wz X G q5⟩,
  ⟨_,Wz X G q6⟩,
  ⟨_,Wz X G q7⟩⟩
 exact⟨_,λs v=>.of_eq rfl,λbase _ _=>zDR T⟩
theorem walk{l:Q2}{q:wH}{loose:List Str}{XP:(Str->Option wf)->wJ->Prop}{YP:wM->wJ->Prop}{d:DefRec}{K:Params->wa}(hn:l.most=some 63)(hdf:d.params.defaults=[])
  (hY:∀(w:wM)(h:wJ),YP w h->(K w.params).In h)
  (F:∀(w:wM)(mg:Str->Option wf)(fa:we)(h:wJ),(K w.params).In h->h.Ns wP mg->mg d.name=some (.ref fa) ->
   ∃fd:wz,(∀(s:wm)(u:wf),BindsTo s fd ⟨[u],[]⟩ [("_law_script",u)]) /\ ∀base:wJ,(K w.params).In base->base.Ns wP mg->aF l.prog w (K w.params) mg base aN 17 fa fd ["_law_script"] (Ai (K w.params))) :
  ur q loose XP YP l.row.toRowW d [] (λf vs=>X0 f vs) :=
 L2.YL (n:=63) (k:=17) (x:="_law_script") (CX:=λ_=>aN) (sp:=λw=>Ai (K w.params)) hn ⋯ hdf ⟨rfl,by decide,by decide,rfl⟩ hY F (λ_ H a ns hl hO hS=>⟨.ref a,rfl,a,ns,rfl,zC7 hO hS,hl,λ_=>rfl⟩) λ_ _ _ _ _ z=>z
end G
local macro_rules | `(tactic| wtm_at "fk")=>`(tactic| (refine' G.aK.mk ?a ?l ?c ?k; (case a=>k_is); (case l=>k_is); (case c=>k_is); (case k=>k_is)))
open PySem PySem.W PyProof.Rows
set_option maxRecDepth 100000 in
set_option maxHeartbeats 0 in
theorem PySem.Challenge.cw_glowflock_k30_papers_told_holds : PySem.Challenge.rw_glowflock_k30_papers_told.Holds := by
 w_on; refine GH.head ?_
 k_fill
 refine G.walk (l:=PySem.Challenge.rw_glowflock_k30_papers_told) rfl rfl (fun w h Y=>PySem.W.kIn_of Y) ?F
 case F =>
   intro w mg fa h KX GG hmg;refine' G.all_mk KX GG hmg ?a0 ?a1 ?a2 ?a3 ?a4 ?a5 ?a6 ?a7 ?a8 ?a9 ?a10 ?a11 ?a12 ?a13 ?a14 ?a15 ?a16 ?a17 ?a18 ?a19 ?a20 ?a21 ?a22 ?a23 ?a24 ?a25 ?a26 ?a27 ?a28 ?a29 ?a30 ?a31 ?a32 ?a33 ?a34 ?a35 ?a36 ?a37 ?a38 ?a39 ?a40 ?a41 ?a42 ?a43 ?a44 ?a45 ?a46 ?a47 ?a48 ?a49 ?a50 ?a51 ?a52 ?a53 ?a54 ?a55 ?a56 ?a57 ?a58 ?a59 ?a60 ?a61 ?a62 ?a63 ?a64 ?a65 ?a66 ?a67 ?a68 ?a69 ?a70 ?a71 ?a72 ?a73 ?a74 ?a75 ?a76 ?a77 ?a78 ?a79 ?a80 ?a81 ?a82 ?a83 ?h0h ?h0g ?h0s ?h0v ?h0o ?h0l ?h0k ?h0f ?h0n ?h0c ?h0t ?h0m ?h0p ?h0j ?h0q ?h0u ?h0i ?h0r ?h0e ?h0b ?h0d ?h0a ?q0 ?r0 ?q1 ?r1 ?q2 ?r2 ?q3 ?q4 ?q5 ?q6 ?q7
   (case a0|a1|a2|a3|a4|a5|a6|a7|a8|a9|a10|a11|a12|a13|a14|a15|a16|a17|a18|a19|a20|a21|a22|a23|a24|a25|a26|a27|a28|a29|a30|a31|a32|a33|a34|a35|a36|a37|a38|a39|a40|a41|a42|a43|a44|a45|a46|a47|a48|a49|a50|a51|a52|a53|a54|a55|a56|a57|a58|a59|a60|a61|a62|a63|a64|a65|a66|a67|a68|a69|a70|a71|a72|a73|a74|a75|a76|a77|a78|a79|a80|a81|a82|a83=>wtm_at "fk")
   (case h0h|h0g|h0s|h0v|h0o|h0l|h0k|h0f|h0n|h0c|h0t|h0m|h0p|h0j|h0q|h0u|h0i|h0r=>k_is)
   (case h0e=>k_exc)
   (case h0b=>kts_exm)
   (case h0d=>k_exc)
   (case h0a=>kts_exm)
   (case q0|r0|q1|r1|q2|r2|q3|q4|q5|q6|q7=>k_is)
#print axioms PySem.Challenge.cw_glowflock_k30_papers_told_holds
