import PyProof.Rows.All
import KE.KDictOf
import KE.KItem
import KE.KItemsList
import KE.KTupSum
import KE.RegKIsAll
import KE.RegKTryMore
import Lean
import PySem.Challenge.RW_glowflock_k31_fates_told
set_option compiler.extract_closed false
set_option Elab.async false
set_option linter.all false
set_option maxRecDepth 100000
open Array renaming append_assoc->xV,forIn_toList->qA,getElem?_eq_none->xp,getElem?_eq_some_iff->WU,length_toList->W9,toList->uE
open Bool renaming and_eq_true->wY,and_eq_true_iff->xy,and_false->ur,and_true->uC,beq_eq_decide_eq->qV,eq_false_iff->VY,eq_iff_iff->vy,false_and->WX,false_eq_true->Wu,false_ne_true->vG,not_eq_true->XT,not_eq_true'->WO,not_false->xt,not_true->qg,true_and->qh
open Classical renaming not_not->We
open False renaming elim->WT
open Int renaming dvd_mul_left->XM,dvd_mul_right->Vy,dvd_trans->qd,ediv_eq_of_eq_mul_right->Qo,ediv_le_self->XN,ediv_mul_le->uh,emod_lt_of_pos->qB,emod_nonneg->qZ,fdiv_eq_ediv_of_nonneg->Vu,gcd->vE,gcd_comm->xY,gcd_dvd_left->V9,gcd_dvd_right->qK,gcd_pos_of_ne_zero_right->V1,gcd_zero_right->Xd,mul_assoc->VO,mul_ediv_cancel_left->VG,mul_le_mul_of_nonneg_right->WJ,mul_ne_zero->Q1,mul_neg->Xy,mul_nonneg->ut,mul_one->Q7,mul_pos->vU,natAbs_ediv_le_natAbs->QE,natAbs_mul->xq,natCast_ediv->VH,natCast_mul->Vq,neg_dvd->Xx,neg_one_mul->X2,one_mul->xa,pow_add->XE,pow_ne_zero->VS,pow_pos->Xz,pow_succ->VI,pow_zero->Qa,sign_eq_neg_one_of_neg->Qv,sign_eq_one_of_pos->Q9,toNat->Q3,toNat_natCast->wD,zero_sub->Xe
open List renaming Pairwise->xH,all_cons->xG,all_eq_true->Wc,all_map->x6,any_cons->Qu,any_eq_true->qT,append_assoc->W4,append_nil->vM,cons_append->XJ,countP_eq_length_filter->Qh,countP_map->X7,dropLast_concat_getLast->Qg,dropLast_eq_take->xu,drop_eq_getElem_cons->VC,drop_eq_nil_of_le->xh,drop_succ_cons->Qc,drop_zero->uo,eq_nil_of_length_eq_zero->W7,ext_getElem->Vd,filterMap_cons->qk,filter_append->Wm,filter_congr->vA,filter_cons->Ws,filter_eq_nil_iff->xi,filter_eq_self->xK,filter_filter->Vo,find?_cons->ud,find?_some->ue,flatten_cons->Vx,foldl->XZ,foldl_append->Xj,forIn_cons->qp,forIn_nil->Qj,getD_eq_getElem?_getD->wb,getElem?_append_left->Ww,getElem?_append_right->Wh,getElem?_cons_succ->QX,getElem?_cons_zero->QW,getElem?_drop->xZ,getElem?_eq_getElem->wc,getElem?_eq_none->wL,getElem?_eq_some_iff->W2,getElem?_map->wu,getElem?_range->vH,getElem?_replicate->QT,getElem?_set->WH,getElem?_set_ne->qW,getElem?_set_self->Q6,getElem?_toArray->xx,getElem_drop->Xl,getElem_map->Ve,getElem_mem->Wi,getElem_of_mem->vj,getElem_take->Xk,length->Xw,length_append->wQ,length_cons->Wa,length_drop->vZ,length_dropLast->xE,length_eq_zero_iff->qI,length_filter_le->vT,length_map->wm,length_nil->Q5,length_pos_iff->Wy,length_pos_of_mem->xj,length_range->vi,length_replicate->WC,length_set->Wo,length_singleton->vS,length_tail->XO,length_take->Wr,length_zipWith->xL,lookup_cons->qb,map_append->w6,map_congr_left->Vb,map_cons->ve,map_drop->uz,map_dropLast->qP,map_map->V4,map_nil->QJ,map_replicate->Xf,mem_append->Wn,mem_append_left->WM,mem_append_right->vR,mem_cons->wR,mem_cons_of_mem->wB,mem_cons_self->wJ,mem_filter->wW,mem_filterMap->Qm,mem_iff_getElem->xB,mem_map->wV,mem_of_find?_eq_some->QG,mem_or_eq_of_mem_set->QF,mem_range->wF,mem_singleton->wX,nil_append->qm,nodup_cons->VQ,nodup_range->WK,not_mem_nil->VJ,of_mem_zip->QZ,pairwise_append->qa,pairwise_cons->W0,pairwise_iff_getElem->Wx,pairwise_map->Qz,pairwise_singleton->QU,range->wo,range_succ->qX,replicate->vn,replicate_succ->VM,set_cons_succ->Xb,set_cons_zero->Xc,size_toArray->wN,sum_cons->W6,tail_cons->uk,take_add_one->qL,take_length->Wb,take_of_length_le->WR,take_sublist->Xg,take_subset->XQ,take_succ_cons->xO,take_zero->Qk,zipIdx_cons->XW,zipIdx_nil->ub
open List.Pairwise renaming drop->uL
open List.cons renaming injEq->ua
open Nat renaming add_assoc->Vt,add_le_add_left->xQ,add_mul->XB,add_sub_cancel->VR,add_zero->QL,div_div_eq_div_mul->xn,gcd_dvd_right->Xi,le_add_right->Vg,le_max_left->X3,le_max_right->XI,le_of_dvd->uA,le_of_lt->WB,le_refl->wp,le_trans->Wl,lt_irrefl->W5,lt_of_le_of_lt->WY,lt_of_lt_of_le->wU,lt_or_ge->wG,lt_succ_of_lt->qM,lt_trichotomy->Vz,lt_two_pow_self->xR,min_le_right->QI,mod_eq_of_lt->QN,mod_lt->X6,mod_mul->xm,mul_add->Ql,mul_assoc->Vw,mul_comm->xX,mul_le_mul->Vh,mul_le_mul_left->Qd,mul_le_mul_right->Wf,mul_left_comm->Xr,mul_mod->XD,mul_succ->qx,ne_of_gt->vv,ne_of_lt->wT,one_mul->XC,pow_add->xb,pow_succ->Vm,sub_self->V3,succ_mul->qw,succ_ne_self->XV,two_pow_pos->Wp,zero_add->qY,zero_le->qi,zero_mul->QQ
open Nat.succ renaming inj->QR
open Ne renaming symm->Wt
open Option renaming bind_some->XU,getD_none->XH,getD_some->QP,isSome_iff_exists->VD,map_eq_some_iff->Vj,map_some->X8
open Option.some renaming inj->w5,injEq->qN
open Prod renaming ext->Vs,fst->XF,snd->XG
open PyProof.Rows renaming callWith_type1->vC,slot_tuple_getitem->VN
open PyProof.Rows.IsTup renaming new->qU
open PySem renaming Addr->we,Around->w9,FuncData->wy,Heap->wM,IsPair->WE,NameKind->WW,Program->wI,PyData->wC,Shared->wl,Stmt->wZ,Value->wf,World->wO,binaryOp->WG,bootBuiltins->vO,cLine->WN,call->X1,compareOp->wH,letOwnedTupleGo->qr,mainGlobals->wK,mem_of_lookup->Va,rawInt->Vc,sizeLine->vc,sliceBounds->qj,starEach->vf,wpAny->wq,wpAny_Call_Name_kw->qD,wpAny_attempt->WV,wpAny_bind->wg,wpAny_call_entry->Wk,wpAny_execs_nil->qq,wpAny_field->vD,wpAny_holding->WA,wpAny_isInstance->Vi,wpAny_mono->WF,wpAny_newObj_type->WI,wpAny_passesOwn->Vr,wpAny_pure->wt,wpAny_pyIter_list->VZ,wpAny_pyIter_tuple->Vp,wpAny_seqItems->WD,wpAny_setField_rec->W1,wpAny_truthy_bool->Wz
open PySem.Around renaming under->uF,under_plainId->qc
open PySem.Builtin.Dict renaming pairItems->xo,updateFrom->QY
open PySem.Builtin.Int renaming intBits->xM
open PySem.Builtin.List renaming listTooLong->qu
open PySem.Builtin.Range renaming rangeSize->uI
open PySem.Builtin.Slice renaming sliceAdjust->ql,sliceApplied->Qs,sliceFields->uD,slicePartIndex->ui,slicePlaces->VB
open PySem.Builtin.SmallTypes renaming nextOf->vK,ownedTupleHandOut->qz,ownedTupleIsFree->vI
open PySem.Builtin.Tuple renaming tupleExact->VF,tupleHashOf->vY,tupleItemsOf->Qt
open PySem.Calls renaming Name_function_global->Qr,evalArgs_plain->xz,spliced_cons->Qn,spliced_nil->Qy
open PySem.Challenge renaming pw_glowflock_k31_fates_told->VX,rw_glowflock_k31_fates_told->wz
open PySem.Code renaming isGuard->uG
open PySem.EntryCells renaming newEntry->xN
open PySem.F renaming args_enumerate_next_1->QV,args_tuple_add_2->qt,args_tuple_iterator_next_1->Qi,args_zip_next_1->VA,attrBase_ValueError->Qp,entry_enumerate_next->xl,entry_tuple_add->qH,entry_tuple_iterator_next->Qq,entry_zip_next->VL,excBase_ValueError->xC,plainAttrs_list->vQ,slot_enumerate_next->V7,slot_int_rmul->X0,slot_list_append->vV,slot_list_count->qJ,slot_tuple_add->qQ,slot_tuple_eq->Q4,slot_tuple_hash->qO,slot_tuple_iterator_next->Vv,slot_zip_getattribute->VW,slot_zip_next->Wv,type_list_append->vW
open PySem.Heap renaming IsTuple->Xa,MadeExcOf->ul,SameBut->vJ,get?_push_ne->QC,get?_push_of_some->wn,get?_push_size->wS,get?_update_other->qR,get?_update_self->V0,lt_size->wA,size_push->V5,update->xk
open PySem.Heap.IsSliceOf renaming new->uK
open PySem.Heap.SameBut renaming update->xP
open PySem.IntMulOk renaming of_left->XX,of_right->Xs
open PySem.IsRange renaming new->uJ
open PySem.Obj renaming cls_mapFields->Xq,data_mapFields->VT,isFreed_of_fields->V6,mapFields->qS,mapSeq->QD
open PySem.Paired renaming length->uu
open PySem.PassesOwn renaming leaving->Xu,never->vg
open PySem.PyData renaming canLay0->vF,canLayAll0->Wd,depth->WL,depthAll->Wq,eqv->wP,eqvAll->Wj,strOk->uH
open PySem.SeqAt renaming canLay_of_shaped->Vf,shaped->vN
open PySem.SeqAt.EqAt renaming int_str->xS,str_int->xT
open PySem.Shared renaming heap->XA
open PySem.Str renaming ofString->vX,ofString->vk
open PySem.Value renaming isInt->Xv
open PySem.W renaming Frag->wa,InstAt->xw,Looks->Qw,OpenLaw->Q0,WalkO->uv,callWith_K->xW,cellsFrom_some->Q8,clsIn->xI,codeIn->Qe,excIn->VP,exmOne->V8,findIn->xv,findObj->X9,fnOf->VE,hideAll->XY,hideAll_get->xJ,keepIn->qE,kia_one->WP,kia_tup->W3,kitAny->qG,kitOne->wE,kitx_bool->Xn,kitx_dict->Xp,kitx_int->XR,kitx_list->Xo,kitx_none->Xm,kitx_str->XS,kitx_tuple->x5,looks_findIn->xD,methodObj->Qx,mg_none_of->vB,mg_of->vL,mroIn->uB,nsIn->w8,of_hideAll->xU
open PySem.W.Looks renaming ld->uM
open PySem.Walks renaming list->uc
open Rat renaming den_divInt->uj,den_intCast->ug,divInt->wx,divInt_mul_divInt->xr,divInt_nonneg->Xh,divInt_ofNat->QK,div_def->xc,div_mul_cancel->WZ,ext->um,intCast_add->qo,intCast_eq_zero_iff->W8,intCast_le_intCast->Vk,intCast_lt_intCast->xg,intCast_mul->vP,intCast_pos->X5,le_iff->xA,le_of_lt->Wg,le_refl->WS,le_trans->QM,lt_iff->X4,lt_of_le_of_ne->qy,mul_assoc->uw,mul_comm->qC,mul_eq_zero->Q2,mul_le_mul_of_nonneg_right->Qb,mul_nonneg->Qf,mul_pos->VU,not_le->xF,not_lt->Vl,num_divInt_den->Vn,num_intCast->uf,num_nonneg->qF,one_mul->xf,pow_succ->WQ,pow_zero->V2
namespace GH
open PySem PySem.W PyProof.Rows
noncomputable def AF (p:wI) (w:wO) (m:Nat) (an:Option wf) (N:Nat) (s0:wl):Option wl :=
 Option.bind (Fast.tw14082659384304107361 Fast.tw14364793385576792824 p w m an N s0 (topStub p)) λs1=>match staticsOk (Fast.tw5923862056798008813 p.main.body) s0.heap s1.heap&&namesBound p s1.heap&&gensDone s1&&laidKept s0.heap s1.heap with | true=>some s1 | false=>none
noncomputable def gg (w:wO) (os:OsState):wl:=⟨boot_heap w.params,#[],boot_drawn,boot_toks,os⟩
theorem zwC{p q:wI}{loose:List Str}{Xt:wl->Bool}{A:Type}{Yf:wl->A}{Ya:wO->A}{N:Nat}(e:opening p=plainProg p.main.scope.names)(hN:Nat.ble 600 N=true)(f:∀s,fenceModules? p s=some s){m:Nat}{an:Option wf}
  (size:∀w:wO,((boot_heap w.params).isNs wK,(boot_heap w.params).objs.size,(boot_heap w.params).nsMap wK "__annotations__")=(true,m,an))
  (h:∀w:wO,(λos=>(AF p w m an N (gg w os)).map (λs=>(Fast.tw4187177175401517315 q loose (Fast.tw5923862056798008813 p.main.body) Xt true s,Yf s)))=λ_=>some (openGood q loose,Ya w)):LeftO p q loose Xt Yf Ya N:=λw=>by
 obtain⟨⟨h',gs,d,k,os⟩,e',e2⟩:=Vj.mp (boot_open e hN f (w:=w));obtain⟨rfl,rfl,rfl,rfl⟩:h'=boot_heap w.params/\gs = #[]/\d=boot_drawn/\k=boot_toks:=by simpa using e2
 obtain⟨z1,z2,z3⟩:_/\_/\_:=by simpa only[Prod.mk.injEq] using size w
 have r:=congrFun (h w) os;unfold openEnds;rw[e']
 show Option.map _ (topFrom treeTable p w N _)=_
 rw[<- r];unfold topFrom AF gg;rw[<- Fast.te14082659384304107361,<- Fast.te14364793385576792824,<- Fast.te5923862056798008813,<- Fast.te4187177175401517315];dsimp only;rw[z1,z2,z3]
 rfl
noncomputable def jD (p:wI) (w:wO) (m:Nat) (an:Option wf) (N:Nat) (s0:wl):Option wl:=Fast.tw14082659384304107361 Fast.tw14364793385576792824 p w m an N s0 (topStub p)
noncomputable def tK (p:wI) (w:wO) (os:OsState) (s1:wl):Bool:=staticsOk (Fast.tw5923862056798008813 p.main.body) (gg w os).heap s1.heap&&namesBound p s1.heap&&gensDone s1&&laidKept (gg w os).heap s1.heap
theorem YD{p q:wI}{loose:List Str}{Xt:wl->Bool}{A:Type}{Yf:wl->A}{Ya:wO->A}{N:Nat}(e:opening p=plainProg p.main.scope.names)(hN:Nat.ble 600 N=true)(f:∀s,fenceModules? p s=some s){m:Nat}{an:Option wf}
  (size:∀w:wO,((boot_heap w.params).isNs wK,(boot_heap w.params).objs.size,(boot_heap w.params).nsMap wK "__annotations__")=(true,m,an)) (hp:drecsOf q=[]) (he:plainsOf q (looseW q loose)=[]) (hd:dclssOf q loose=[])
  (hB0:∀w:wO,(λos=>(jD p w m an N (gg w os)).map (λs=>(tK p w os s,(Fast.tw4187177175401517315 q loose (Fast.tw5923862056798008813 p.main.body) Xt true s).2.2.2.1)))=λ_=>some (true,true))
  (hB1:∀w:wO,(λos=>(jD p w m an N (gg w os)).map (λs=>((Fast.tw4187177175401517315 q loose (Fast.tw5923862056798008813 p.main.body) Xt true s).1,(Fast.tw4187177175401517315 q loose (Fast.tw5923862056798008813 p.main.body) Xt true s).2.1)))=λ_=>some (expectedOf q,bltViewBooted))
  (hB2:∀w:wO,(λos=>(jD p w m an N (gg w os)).map (λs=>(Fast.tw4187177175401517315 q loose (Fast.tw5923862056798008813 p.main.body) Xt true s).2.2.1))=λ_=>some true)
  (hB3:∀w:wO,(λos=>(jD p w m an N (gg w os)).map (λs=>(Fast.tw4187177175401517315 q loose (Fast.tw5923862056798008813 p.main.body) Xt true s).2.2.2.2.2.2.2))=λ_=>some (wideGood q,clsGoodW q loose))
  (hC:∀w:wO,(λos=>(jD p w m an N (gg w os)).map (λs=>Yf s))=λ_=>some (Ya w)):LeftO p q loose Xt Yf Ya N:=by
 refine zwC e hN f size λw=>?_
 funext os
 have h1:=congrFun (hB0 w) os;obtain⟨s1,e1,e2⟩:=Vj.mp h1;have g1:=congrFun (hB1 w) os;have g2:=congrFun (hB2 w) os;have g3:=congrFun (hB3 w) os;have k:=congrFun (hC w) os;rw[e1]at g1 g2 g3 k;have g1:=w5 g1;have g2:=w5 g2;have g3:=w5 g3;have a0:=congrArg XF e2;have b0:=congrArg XG e2;have a1:=congrArg XF g1;have b1:=congrArg XG g1
 have gp:(Fast.tw4187177175401517315 q loose (Fast.tw5923862056798008813 p.main.body) Xt true s1).2.2.2.2.1=pinGoodD (drecsOf q):=by
  rw[<- Fast.te4187177175401517315]
  show pinSeenD q (drecsOf q) s1=_
  rw[hp]
  rfl
 have ge:(Fast.tw4187177175401517315 q loose (Fast.tw5923862056798008813 p.main.body) Xt true s1).2.2.2.2.2.1=plainGoodE q (looseW q loose):=by
  rw[<- Fast.te4187177175401517315]
  show plainSeenE q (looseW q loose) s1=_
  unfold plainSeenE plainGoodE;rw[he]
  rfl
 have gd:(Fast.tw4187177175401517315 q loose (Fast.tw5923862056798008813 p.main.body) Xt true s1).2.2.2.2.2.2.1=plainGoodD q loose:=by
  rw[<- Fast.te4187177175401517315]
  show plainSeenD q loose s1=_
  unfold plainSeenD plainGoodD;rw[hd]
  rfl
 have g:Fast.tw4187177175401517315 q loose (Fast.tw5923862056798008813 p.main.body) Xt true s1=openGood q loose:=Vs a1 (Vs b1 (Vs g2 (Vs b0 (Vs gp (Vs ge (Vs gd g3))))));have k:=w5 k
 have ez:AF p w m an N (gg w os)=some s1:=by
  unfold AF;unfold jD at e1;rw[e1]
  show(match tK p w os s1 with | true=>some s1 | false=>none)=some s1
  rw[show tK p w os s1=true from a0]
 rw[ez];exact congrArg some (Vs g k)
def qv:wI:=view VX [1,2,3,4,5,6,7,8,9,10,12,13,14,15,16,17,18,19,20,21,23,24,25,26,27,28,29,30,31,32,34,35,36,37,38,39,40,41,42,43,45,46,48,49,50,51,52,53,54,55,56,58,59,60,61,62,63,64,65,66,67,69,70,71,72,73,74,75,77,78,79,80,81,82,83,84,85,86,87,88,89,90,91,92,93,94,95,96,97,98,99,100,101,102,103,104,105,106]
theorem Uq{a b:Bool}(h:a=true)(k:b=true):(a&&b)=true:=by rw[h,k];rfl
set_option maxHeartbeats 0 in
theorem Kj:wz.wellSaid=true:=by
 unfold OpenLaw.wellSaid OpenRow.wellSaid OpenRow.partSaid looksOpen
 repeat' with_reducible refine Uq ?_ ?_
 all_goals decide +kernel
theorem size(w:wO):((boot_heap w.params).isNs wK,(boot_heap w.params).objs.size,(boot_heap w.params).nsMap wK "__annotations__")=(true,11,some (.ref 6)):=by kernel_rfl
theorem no1:drecsOf qv=[]:=by kernel_rfl
theorem no2:plainsOf qv (looseW qv [])=[]:=by kernel_rfl
theorem no3:dclssOf qv []=[]:=by kernel_rfl
theorem Y4(w:wO):(λos=>(jD wz.row.prog w 11 (some (.ref 6)) 9414 (gg w os)).map (λs=>(tK wz.row.prog w os s,(Fast.tw4187177175401517315 qv [] (Fast.tw5923862056798008813 wz.row.prog.main.body) (λs=>xlAt GH.qv [] s&&recOk (RowW.records (OpenRow.toRowW (OpenLaw.row wz))) s) true s).2.2.2.1)))=λ_=>some (true,true):=by kernel_rfl
theorem Y8(w:wO):(λos=>(jD wz.row.prog w 11 (some (.ref 6)) 9414 (gg w os)).map (λs=>((Fast.tw4187177175401517315 qv [] (Fast.tw5923862056798008813 wz.row.prog.main.body) (λs=>xlAt GH.qv [] s&&recOk (RowW.records (OpenRow.toRowW (OpenLaw.row wz))) s) true s).1,(Fast.tw4187177175401517315 qv [] (Fast.tw5923862056798008813 wz.row.prog.main.body) (λs=>xlAt GH.qv [] s&&recOk (RowW.records (OpenRow.toRowW (OpenLaw.row wz))) s) true s).2.1)))=λ_=>some (expectedOf qv,bltViewBooted):=by kernel_rfl
theorem Y0(w:wO):(λos=>(jD wz.row.prog w 11 (some (.ref 6)) 9414 (gg w os)).map (λs=>(Fast.tw4187177175401517315 qv [] (Fast.tw5923862056798008813 wz.row.prog.main.body) (λs=>xlAt GH.qv [] s&&recOk (RowW.records (OpenRow.toRowW (OpenLaw.row wz))) s) true s).2.2.1))=λ_=>some true:=by kernel_rfl
theorem Y3(w:wO):(λos=>(jD wz.row.prog w 11 (some (.ref 6)) 9414 (gg w os)).map (λs=>(Fast.tw4187177175401517315 qv [] (Fast.tw5923862056798008813 wz.row.prog.main.body) (λs=>xlAt GH.qv [] s&&recOk (RowW.records (OpenRow.toRowW (OpenLaw.row wz))) s) true s).2.2.2.2.2.2.2))=λ_=>some (wideGood qv,clsGoodW qv []):=by kernel_rfl
local macro_rules | `(tactic| o_head $H)=>`(tactic| (refine holds_open (q:=GH.qv) (loose:=[]) (Xt:=λ s=>xlAt GH.qv [] s && recOk (RowW.records (OpenRow.toRowW (OpenLaw.row wz))) s) (XP:=XL GH.qv []) (Yf:=Hook.obs $H) (Ya:=Hook.val $H) (YP:=Hook.says $H) (N:=9414) ?hl (Hook.of $H) (Hook.keeps $H) (λ s e=>xl_of s (xy.mp e).1) XL.keeps (by rfl) (by rfl) (by rfl) (λ s e=>recFacts_of (xy.mp e).2) (by rfl) (by first | assumption | decide +kernel) (by decide +kernel) ⟨rfl,rfl,rfl,rfl,rfl,by decide +kernel⟩ ?hw ?hc; (case hl=>refine GH.YD (by kernel_rfl) rfl (λ s=>by kernel_rfl) GH.size GH.no1 GH.no2 GH.no3 GH.Y4 GH.Y8 GH.Y0 GH.Y3 ?_; intro w; kernel_rfl)))
local macro_rules | `(tactic| o_law)=>`(tactic| refine holds_law GH.Kj λ Kj=>?_)
set_option maxHeartbeats 0
open_top head for wz
end GH
set_option maxHeartbeats 4000000
namespace L2
open PySem PySem.Spec PyProof.Rows
variable{H:Hp}{a b:we}{o:HO}
abbrev Key:=Sum Int Str
def OP:Key->wf->Bool
 | .inl k,v=>Xv k v
 | .inr x,v=>Value.isStrOf x v
def zEy(w:wO):Key->Int
 | .inl k=>hashInt k
 | .inr x=>hashStr w x
theorem ko :∀{k:Key}{v:wf},OP k v=true->(∃i t,k=Sum.inl i/\v=Value.int i t)\/(∃x t,k=Sum.inr x/\v=Value.str x t)
 | .inl i,v,h=>by
  obtain⟨t,e⟩:=Value.isInt_shape (k:=i) (v:=v) h;exact .inl ⟨i,t,rfl,e⟩
 | .inr x,v,h=>by
  obtain⟨t,e⟩:=Value.isStrOf_shape (x:=x) (v:=v) h;exact .inr ⟨x,t,rfl,e⟩
theorem zDb(a b:Int):decide ((Sum.inl a:Key)=Sum.inl b)=(a == b):=by
 by_cases e:a=b
 ·subst e;simp
 ·have h:¬ (Sum.inl a:Key)=Sum.inl b:=λq=>e (Sum.inl.inj q)
  rw[decide_eq_false h];exact(beq_eq_false_iff_ne.mpr e).symm
theorem zCB(a b:Str):decide ((Sum.inr a:Key)=Sum.inr b)=decide (a=b):=by
 by_cases e:a=b
 ·subst e;simp
 ·have h:¬ (Sum.inr a:Key)=Sum.inr b:=λq=>e (Sum.inr.inj q)
  rw[decide_eq_false h,decide_eq_false e]
theorem zC3(a:Int)(b:Str):decide ((Sum.inl a:Key)=Sum.inr b)=false:=decide_eq_false (λq=>nomatch q)
theorem zCp(a:Str)(b:Int):decide ((Sum.inr a:Key)=Sum.inl b)=false:=decide_eq_false (λq=>nomatch q)
def Ck(prog:wI)(w:wO):PySem.KeyKind prog w Key where
 is:=OP
 hash:=zEy w
 inj:=λv a b ha hb=>by
  rcases ko ha with⟨i,t,rfl,rfl⟩ | ⟨x,t,rfl,rfl⟩
  ·rcases ko hb with⟨j,u,rfl,e⟩ | ⟨y,u,rfl,e⟩
   ·injection e with e1 _;rw[e1]
   ·exact nomatch e
  ·rcases ko hb with⟨j,u,rfl,e⟩ | ⟨y,u,rfl,e⟩
   ·exact nomatch e
   ·injection e with e1 _;rw[e1]
 byValue:=λk v h=>by
  rcases ko h with⟨i,t,rfl,rfl⟩ | ⟨x,t,rfl,rfl⟩<;>rfl
 pyHash:=λhv h=>by
  rcases ko hv with⟨i,t,rfl,rfl⟩ | ⟨x,t,rfl,rfl⟩
  ·exact wpAny_pyHash_int h
  ·exact wpAny_pyHash_str h
 eqBool:=λhu hv h=>by
  rcases ko hu with⟨i,t,rfl,rfl⟩ | ⟨x,t,rfl,rfl⟩
  ·rcases ko hv with⟨j,u,rfl,rfl⟩ | ⟨y,u,rfl,rfl⟩
   ·rw[zDb]at h;exact wpAny_eqBool_int h
   ·rw[zC3]at h;exact xS i t y u _ _ _ _ h
  ·rcases ko hv with⟨j,u,rfl,rfl⟩ | ⟨y,u,rfl,rfl⟩
   ·rw[zCp]at h;exact xT x t j u _ _ _ _ h
   ·rw[zCB]at h;exact wpAny_eqBool_str h
 «strs»:=λk x t v h=>by
  rcases ko h with⟨i,u,rfl,e⟩ | ⟨y,u,rfl,e⟩
  ·exact nomatch e
  ·injection e with e1 _
   subst e1;cases v<;>rfl
inductive V where
 | bY | bl (b:Bool) | int (i:Int) | str (x:Str) | byt (b:Array UInt8) | flt (b:UInt64) | ref (a:we) | ty (n:String)
 deriving DecidableEq
def bE:V->wf->Prop
 | .bY,u=>u=Value.none
 | .bl b,u=>u=Value.bool b
 | .int i,u=>∃t,u=Value.int i t
 | .str x,u=>∃t,u=Value.str x t
 | .byt b,u=>∃t,u=Value.bytes b t
 | .flt b,u=>∃t,u=Value.float b t
 | .ref a,u=>u=Value.ref a
 | .ty n,u=>u=Value.type n
abbrev aT:List V->List wf->Prop:=Paired bE
theorem aT.length{xs:List V}{us:List wf}(r:aT xs us):xs.length=us.length:=uu r
theorem aT.get:∀{xs:List V}{us:List wf}{i:Nat}{x:V},aT xs us->xs[i]? = some x->∃u,us[i]? = some u/\bE x u
 | _,_,_,_,.nil,e=>by simp at e
 | _,_,0,_,.cons r _,e=>by simp at e;subst e;exact⟨_,rfl,r⟩
 | _,_,i+1,x,.cons _ t,e=>by
  obtain⟨u,h1,h2⟩:=aT.get (i:=i) (x:=x) t (by simpa using e);exact⟨u,by simpa using h1,h2⟩
theorem aT.set{x:V}{u:wf}(r:bE x u):∀{xs:List V}{us:List wf}(i:Nat),aT xs us->aT (xs.set i x) (us.set i u)
 | _,_,_,.nil=>.nil
 | _,_,0,.cons _ t=>.cons r t
 | _,_,i+1,.cons q t=>.cons q (aT.set r i t)
theorem aT.append:∀{xs ys:List V}{us ws:List wf},aT xs us->aT ys ws->aT (xs++ys) (us++ws)
 | _,_,_,_,.nil,s=>s
 | _,_,_,_,.cons r t,s=>.cons r (aT.append t s)
theorem aT.take:∀{xs:List V}{us:List wf}(n:Nat),aT xs us->aT (xs.take n) (us.take n)
 | _,_,0,_=>.nil
 | _,_,_+1,.nil=>.nil
 | _,_,n+1,.cons r t=>.cons r (aT.take n t)
theorem aT.drop:∀{xs:List V}{us:List wf}(n:Nat),aT xs us->aT (xs.drop n) (us.drop n)
 | _,_,0,r=>r
 | _,_,_+1,.nil=>.nil
 | _,_,n+1,.cons _ t=>aT.drop n t
def NN:Option V->Option wf->Prop
 | some v,some u=>bE v u
 | none,none=>True
 | _,_=>False
def KV{κ : Type} : List (κ × V)->List (κ × wf)->Prop:=Paired λ(p : κ × V)(q : κ × wf)=>p.1=q.1/\bE p.2 q.2
def kV:Key->V
 | .inl i=>.int i
 | .inr x=>.str x
inductive HO where
 | lst (xs:List V)
 | tup (xs:List V)
 | dK (kvs:List (Key × V)) | dT (kvs:List (List Key × V))
 | set (S:Int->Bool) (n:Nat)
 | ins (C dx:we) (fs:List (Str × V))
 | own (x:we)
 | xd (fs:List (Str × V))
 | met (f x:we)
 | y8 (lo hi:Int)
 | gz (o:Obj) (u:HO)
 | kF (ps:Array wf)
 | ext (φ : wM->Prop)
abbrev Hp:=we->Option HO
def upd(H:Hp)(a:we)(o:HO):Hp:=λb=>if b=a then some o else H b
theorem cW : upd H a o a=some o:=by unfold upd;rw[if_pos rfl]
theorem dh(h:b≠a):upd H a o b=H b:=by unfold upd;rw[if_neg h]
theorem Ui{u:HO}(h:H a=some o)(h':H b=some u)(d:o≠u):a≠b:=by
 intro e;subst e;rw[h]at h';exact d (w5 h')
theorem iV(h:H a=some o)(h':H b=none):a≠b:=by
 intro e;subst e;rw[h]at h';cases h'
section
variable(P:wI)(w:wO)
def dS(H:Hp)(h:wM)(a:we):HO->Prop
 | .lst xs=>xs.length<=vc /\ ∃(its:List wf)(n:Nat),aT xs its/\h.get? a=some {cls:=.type "list",data:=.seq its.toArray n}
 | .tup xs=>xs.length<=vc /\ ∃its:List wf,aT xs its/\IsTup h a its.toArray
 | .dK kvs=>kvs.length<=vc/\(a == sysModules)=false /\ ∃vs,KV kvs vs/\h.DictOf (Ck P w) a vs
 | .dT kvs=>kvs.length<=vc/\(a == sysModules)=false /\ ∃xs:List (List Key × we × wf),
     Paired (λ(p:List Key × V)(q:List Key × we × wf)=>p.1=q.1/\H q.2.1=some (.tup (p.1.map kV))/\bE p.2 q.2.2) kvs xs /\
     ∃o es ep,h.get? a=some o/\o.ExactDict/\o.data=.dict es ep/\es.toList=xs.map (entryOfKey (tupleKind (Ck P w)))/\(xs.map (·.1)).Nodup
 | .set S n=>h.SetOf (intKind P w) a S n
 | .ins C dx fs=>H dx=some (.own a)/\fs.length<=1000/\dx≠a/\h.get? a=some (PySem.W.instObj C dx) /\
     ∃mA,h.Ns1 dx mA/\(∀f,NN (fs.lookup f) (mA f))/\PySem.Within mA (fs.map (·.1))
 | .own _=>∃o,h.get? a=some o
 | .xd fs=>∃mA,h.Ns1 a mA /\ ∀f,NN (fs.lookup f) (mA f)
 | .y8 lo hi=>∃t u v,h.get? a=some {cls:=.type "range",data:=.fields #[.int lo t,.int hi u,.int 1 v]}
 | .gz o u=>h.get? a=some o/\dS H h a u
 | .kF ps=>h.get? a=some {cls:=.none,data:=.fields ps}
 | .met f x=>h.get? a=some (Qx (.ref f) (.ref x))
 | .ext φ=>φ h/\(∃o,h.get? a=some o) /\ ∀h1 h2:wM,φ h1->(∀o,h1.get? a=some o->h2.get? a=some o) -> φ h2
def dE(H:Hp)(h:wM):Prop:=∀a o,H a=some o->dS P w H h a o
end
section
variable{P:wI}{w:wO}{H H':Hp}{h h':wM}{a:we}{o:HO}
theorem dS.lt(x:dS P w H h a o):a<h.objs.size:=by
 cases o with
 | lst xs=>obtain⟨_,_,_,_,e⟩:=x;exact wA e
 | tup xs=>obtain⟨_,_,_,p⟩:=x;exact p.lt
 | dK kvs=>obtain⟨_,_,_,_,o,_,_,e,_⟩:=x;exact wA e
 | dT kvs=>obtain⟨_,_,_,_,o,_,_,e,_⟩:=x;exact wA e
 | set S n=>obtain⟨o,_,_,_,e,_⟩:=x;exact wA e
 | ins C dx fs=>obtain⟨_,_,_,e,_⟩:=x;exact wA e
 | own y=>obtain⟨_,e⟩:=x;exact wA e
 | xd fs=>obtain⟨_,⟨_,_,_,e,_⟩,_⟩:=x;exact wA e
 | y8 lo hi=>obtain⟨_,_,_,e⟩:=x;exact wA e
 | gz ob u=>obtain⟨e,_⟩:=x;exact wA e
 | kF ps=>exact wA (show h.get? a=some _ from x)
 | met f y=>exact wA (show h.get? a=some _ from x)
 | ext φ=>obtain⟨_,⟨_,e⟩,_⟩:=x;exact wA e
theorem Paired.Kn{α β : Type}{F G : α -> β -> Prop} : ∀{l₁ : List α}{l₂ : List β},Paired F l₁ l₂ -> (∀a b,F a b->G a b)->Paired G l₁ l₂
 | _,_,.nil,_=>.nil
 | _,_,.cons r t,f=>.cons (f _ _ r) (Paired.Kn t f)
theorem dS.jq(x:dS P w H h a o)(k:∀b u,(b=a\/H b=some (.own a))->h.get? b=some u->h'.get? b=some u)
  (ho:∀b,H b=some (.own a)->H' b=some (.own a)) (ht:∀b xs,H b=some (.tup xs)->H' b=some (.tup xs)):dS P w H' h' a o:=by
 induction o with
 | lst xs=>obtain⟨z,its,n,r,e⟩:=x;exact⟨z,its,n,r,k _ _ (.inl rfl) e⟩
 | tup xs=>obtain⟨z,its,r,ob,e,c⟩:=x;exact⟨z,its,r,ob,k _ _ (.inl rfl) e,c⟩
 | dK kvs=>obtain⟨z,y,vs,r,ob,es,ep,e,c⟩:=x;exact⟨z,y,vs,r,ob,es,ep,k _ _ (.inl rfl) e,c⟩
 | dT kvs =>
  obtain⟨z,y,xs,r,ob,es,ep,e,c⟩:=x;exact⟨z,y,xs,Paired.Kn r λp q z=>⟨z.1,ht _ _ z.2.1,z.2.2⟩,ob,es,ep,k _ _ (.inl rfl) e,c⟩
 | set S n=>obtain⟨ob,es,ep,t,e,c⟩:=x;exact⟨ob,es,ep,t,k _ _ (.inl rfl) e,c⟩
 | ins C dx fs =>
  obtain⟨d,z,ne,e,mA,⟨od,es,ep,e2,c⟩,r⟩:=x;exact⟨ho _ d,z,ne,k _ _ (.inl rfl) e,mA,⟨od,es,ep,k _ _ (.inr d) e2,c⟩,r⟩
 | own y=>obtain⟨ob,e⟩:=x;exact⟨ob,k _ _ (.inl rfl) e⟩
 | xd fs=>obtain⟨mA,⟨od,es,ep,e,c⟩,r⟩:=x;exact⟨mA,⟨od,es,ep,k _ _ (.inl rfl) e,c⟩,r⟩
 | y8 lo hi=>obtain⟨t,u,v,e⟩:=x;exact⟨t,u,v,k _ _ (.inl rfl) e⟩
 | gz ob u ih=>obtain⟨e,q⟩:=x;exact⟨k _ _ (.inl rfl) e,ih q⟩
 | kF ps =>
  have e:h.get? a=some {cls:=.none,data:=.fields ps}:=x
  show h'.get? a=some {cls:=.none,data:=.fields ps}
  exact k a _ (.inl rfl) e
 | met f y =>
  have e:h.get? a=some (Qx (.ref f) (.ref y)):=x
  show h'.get? a=some (Qx (.ref f) (.ref y))
  exact k a _ (.inl rfl) e
 | ext φ=>obtain⟨p,⟨o,e⟩,st⟩:=x;exact⟨st _ _ p λo q=>k _ _ (.inl rfl) q,⟨o,k _ _ (.inl rfl) e⟩,st⟩
theorem dE.lt(x:dE P w H h)(e:H a=some o):a<h.objs.size:=(x a o e).lt
theorem dE.fresh(x:dE P w H h)(e:h.objs.size<=a):H a=none:=by
 cases q:H a with
 | none=>rfl
 | some u=>exact absurd (wU (x.lt q) e) (W5 _)
theorem dE.kept(x:dE P w H h)(k:∀b u,h.get? b=some u->h'.get? b=some u):dE P w H h':=λa o e =>
 (x a o e).jq (λb u _ q=>k b u q) (λ_ q=>q) λ_ _ q=>q
theorem dE.laid(x:dE P w H h)(k:∀b u,h.get? b=some u->h'.get? b=some u)(hp:h.objs.size<=a)(new:dS P w (upd H a o) h' a o):dE P w (upd H a o) h':=λb u e=>by
 have hn:=x.fresh hp
 by_cases hb:b=a
 ·subst hb;rw[cW]at e;cases e;exact new
 ·rw[dh hb]at e
  exact(x b u e).jq (λc v _ q=>k c v q) (λc q=>by rw[dh (iV q hn)];exact q) λc xs q=>by rw[dh (iV q hn)];exact q
end
def Rd(H:Hp)(a:we)(u:HO):Prop:=H a=some u \/ ∃o,H a=some (.gz o u)
theorem Rd.ok{P:wI}{w:wO}{H:Hp}{h:wM}{a:we}{u:HO}(r:Rd H a u)(x:dE P w H h):dS P w H h a u:=by
 rcases r with r | ⟨o,r⟩
 ·exact x a u r
 ·obtain⟨_,q⟩:=x a _ r
  exact q
def yx:Option HO->Prop
 | some (.lst _)=>True
 | some (.dK _)=>True
 | some (.dT _)=>True
 | some (.set _ _)=>True
 | some (.ins _ _ _)=>True
 | some (.ext _)=>True
 | _=>False
section
variable{P:wI}{w:wO}{H:Hp}{h h':wM}{x e:we}{o':HO}
theorem dE.write(ok:dE P w H h)(mu:yx (H x))(he:e=x\/H e=some (.own x))(k:∀b u,b≠e->h.get? b=some u->h'.get? b=some u)(heo:∃u,h'.get? e=some u)
  (new:dS P w (upd H x o') h' x o'):dE P w (upd H x o') h':=λb u q=>by
 have nown:∀c y,H c=some (.own y)->c≠x:=λc y r z=>by subst z;rw[r]at mu;exact mu
 have ntup:∀c xs,H c=some (.tup xs)->c≠x:=λc xs r z=>by subst z;rw[r]at mu;exact mu
 by_cases hb:b=x
 ·subst hb;rw[cW]at q;cases q;exact new
 ·rw[dh hb]at q
  by_cases hbe:b=e
  ·have q':H b=some (.own x):=by
    rcases he with z | z
    ·exact absurd (hbe.trans z) hb
    ·rw[hbe];exact z
   rw[q]at q';cases q';obtain⟨v,hv⟩:=heo;exact⟨v,by rw[hbe];exact hv⟩
  ·refine(ok b u q).jq (λc v hc r=>k c v ?_ r) (λc r=>by rw[dh (nown c b r)];exact r) λc xs r=>by rw[dh (ntup c xs r)];exact r
   rcases hc with rfl | hc
   ·exact hbe
   ·rintro rfl
    rcases he with z | z
    ·exact nown c b hc z
    ·rw[hc]at z;cases z;exact hb rfl
end
structure Un(fs ex:List we)(H H':Hp)(h h':wM):Prop where
 keep:∀b o,h.get? b=some o->H b=none->b ∉ fs->b ∉ ex->h'.get? b=some o
 slot:∀b o,h.get? b=some o->H b=none->b∈fs->b ∉ ex->∃sl,h'.get? b=some {o with slots:=sl}
 free:∀b o,h.get? b=some o->H b=none->b ∉ ex->H' b=none
 there:∀b o,h.get? b=some o->b ∉ ex->∃o',h'.get? b=some o'
 gJ:∀b xs,H b=some (.tup xs)->H' b=some (.tup xs)
 gf:∀b o u,H b=some (.gz o u)->H' b=some (.gz o u)
 gK:∀b ps,H b=some (.kF ps)->∃more,H' b=some (.kF (ps++more))
section
variable{fs fs' ex ex':List we}{H H1 H2:Hp}{h h1 h2 h':wM}{a x e:we}{o:HO}
theorem Un.any(u:Un fs ex H H1 h h1){b:we}{ob:Obj}(q:h.get? b=some ob)(n:H b=none)(hx:b ∉ ex):∃sl,h1.get? b=some {ob with slots:=sl}:=by
 by_cases hb:b∈fs
 ·exact u.slot b ob q n hb hx
 ·exact⟨ob.slots,u.keep b ob q n hb hx⟩
theorem Un.kept(k:∀b u,h.get? b=some u->h'.get? b=some u):Un fs ex H H h h' :=
 ⟨λb ob q _ _ _=>k b ob q,λb ob q _ _ _=>⟨ob.slots,k b ob q⟩,λ_ _ _ n _=>n,λb ob q _=>⟨ob,k b ob q⟩,λ_ _ q=>q,λ_ _ _ q=>q,λ_ ps q=>⟨#[],by rw[q];simp⟩⟩
theorem Un.refl:Un fs ex H H h h:=Un.kept λ_ _ q=>q
theorem Un.laid(k:∀b u,h.get? b=some u->h'.get? b=some u)(hp:h.objs.size<=a)(hn:H a=none):Un fs ex H (upd H a o) h h' where
 keep:=λb u q _ _ _=>k b u q
 slot:=λb u q _ _ _=>⟨u.slots,k b u q⟩
 free:=λb u q n _=>by rw[dh (wT (wU (wA q) hp))];exact n
 there:=λb u q _=>⟨u,k b u q⟩
 gJ:=λb xs q=>by rw[dh (iV q hn)];exact q
 gf:=λb u xs q=>by rw[dh (iV q hn)];exact q
 gK:=λb ps q=>⟨#[],by rw[dh (iV q hn),q];simp⟩
theorem Un.write(mu:yx (H x))(he:e=x\/H e=some (.own x))(k:∀b u,b≠e->h.get? b=some u->h'.get? b=some u)(heo:∃u,h'.get? e=some u):Un fs ex H (upd H x o) h h':=by
 have hx:∀b,H b=none->b≠x:=λb n z=>by subst z;rw[n]at mu;exact mu
 have hb:∀b,H b=none->b≠e:=λb n z=>by
  subst z;rcases he with r | r
  ·exact hx b n r
  ·rw[n]at r;cases r
 have hm:∀b u,H b=some u->¬ yx (some u)->b≠x:=λb u q nm z=>by subst z;rw[q]at mu;exact nm mu
 refine⟨λb u q n _ _=>k b u (hb b n) q,λb u q n _ _=>⟨u.slots,k b u (hb b n) q⟩,λb u q n _=>by rw[dh (hx b n)];exact n,λb u q _=>?_,
  λb xs q=>by rw[dh (hm b _ q λz=>z)];exact q,λb u xs q=>by rw[dh (hm b _ q λz=>z)];exact q,λb ps q=>⟨#[],by rw[dh (hm b _ q λz=>z),q];simp⟩⟩
 by_cases hbe:b=e
 ·subst hbe;exact heo
 ·exact⟨u,k b u hbe q⟩
end
def jb(h:wM)(H:Hp):List we:=(wo h.objs.size).filter λa=>(H a).isSome
def kx(h:wM)(H:Hp):wM:=XY h (jb h H)
theorem zxi(h:wM)(H:Hp):(kx h H).objs.size=h.objs.size:=PySem.W.hideAll_size _ _
theorem zzk{h:wM}{H:Hp}{b:we}{o:Obj}(e:h.get? b=some o)(n:H b=none):(kx h H).get? b=some o :=
 xJ _ e λhm=>by
  have q:(H b).isSome=true:=(wW.mp hm).2;rw[n]at q;simp at q
theorem zAD{h:wM}{H:Hp}{b:we}{o:Obj}(e:(kx h H).get? b=some o):h.get? b=some o/\H b=none:=by
 have e':h.get? b=some o:=xU (jb h H) e;refine⟨e',?_⟩;cases q:H b with
 | none=>rfl
 | some x =>
  have hm:b∈jb h H:=wW.mpr ⟨wF.mpr (wA e'),by simp[q]⟩;have z:(kx h H).get? b=none:=PySem.W.hideAll_none (jb h H) hm;rw[z]at e;cases e
def zzY(g h:wM)(L:we):List (we × Obj):=(wo h.objs.size).filterMap λa=>if a=L\/(g.get? a).isSome=true then none else(h.get? a).map λo=>(a,o)
def eY(g h:wM)(L d:we):List (we × Obj):=(zzY g h L).filter λp=>decide (p.1≠d)
structure Mod(K:wa)(mg:Str->Option wf)(base:wM):Prop where
 rS:K.In base
 glob:base.Ns wK mg
 blt:∃mb,base.Ns builtinsNs mb /\ ∀x:Str,x≠"__name__" -> mb x=vO x
 nolimit:base.NoLimit
structure Cx where
 prog:wI
 w:wO
 K:wa
 mg:Str->Option wf
 base:wM
 A:w9
 N:List Str
 s₀ : wl
 H₀ : Hp
 env:Env
 outer:List Env
 stack:List Env
 ex:List we
 fn:Str->Bool
 calm:Bool
 pn:List (we × Obj)
 xe:wf->wl->Prop
def dB(l:List Env):List we:=l.filterMap (·.frame)
abbrev Cx.fs(X:Cx):List we:=dB X.outer
def zR(sc:Scope)(x:Str):Prop:=sc.names.lookup x=some .local\/sc.names.lookup x=some .cell\/sc.names.lookup x=some .free
def Loc(sc:Scope)(x:Str):Prop:=sc.names.lookup x=some .local\/sc.names.lookup x=some .cell
def ZC(env:Env)(h:wM)(m:Str->Option wf)(x:Str)(u:wf):Prop :=
 (env.kindOf x=some .local/\m x=some u)\/((env.kindOf x=some .cell\/env.kindOf x=some .free) /\ ∃c,env.cells.lookup x=some c/\h.IsCell c (some u))
structure Cx.Ok(X:Cx):Prop where
 mod:Mod X.K X.mg X.base
 kind:X.env.scope.kind=.function
 glob:X.env.globals=wK
 blt:X.env.builtins=builtinsNs
 above:X.s₀.heap.objs.size<=X.env.locals
 inj:∀x y c,X.env.cells.lookup x=some c->X.env.cells.lookup y=some c->x=y
 has:∀x,(X.env.kindOf x=some .cell\/X.env.kindOf x=some .free)->∃c,X.env.cells.lookup x=some c
 lq:∀x c,X.fn x=true->X.env.cells.lookup x=some c->X.s₀.heap.objs.size<=c
 hd:X.calm=true->X.A.handled=none
 frames:X.A.frames=some X.stack
 lT:X.stack=X.outer\/(X.stack=X.env::X.outer/\X.env.frame=some X.env.locals)
 pV:∀b∈X.ex,b≠X.env.locals /\ ∀x c,X.env.cells.lookup x=some c->c≠b
 bs:∀b o,X.base.get? b=some o->X.s₀.heap.get? b=some o/\X.H₀ b=none
 jl:X.base.objs.size<=X.s₀.heap.objs.size
 kD:∀b o,X.base.get? b=some o->b ∉ X.ex
 lJ:∀b∈X.ex,b ∉ X.fs
 fi:X.s₀.heap.FunFrames X.base X.outer
 jt:∀b∈X.fs,X.H₀ b=none
structure Inv(X:Cx)(pins:List (we × Obj))(σ : List (Option V))(H:Hp)(s:wl):Prop where
 ok:X.Ok
 os:s.os=X.s₀.os
 bare:AllBare s.gens
 base:Un X.fs X.ex X.H₀ H X.s₀.heap s.heap
 loc:∃m,s.heap.Ns X.env.locals m /\ ∀(i:Nat)(x:Str)(v:V),X.N[i]? = some x -> σ[i]? = some (some v)->zR X.env.scope x->∃u,bE v u/\ZC X.env s.heap m x u
 cell:∀x c,X.env.cells.lookup x=some c->∃v,s.heap.IsCell c v
 free:H X.env.locals=none
 fv:∀x c,X.env.cells.lookup x=some c->H c=none
 pin:∀p∈X.pn++pins,s.heap.get? p.1=some p.2/\H p.1=none/\p.1≠X.env.locals/\p.1 ∉ X.fs /\ ∀v,p.2.data≠.cell v
 aM:dE X.prog X.w H s.heap
 len : σ.length=X.N.length
section
variable{X:Cx}{pins:List (we × Obj)}{σ : List (Option V)}{H H':Hp}{s:wl}{h':wM}
variable{i t':Nat}{ch:List we}{x:Str}
theorem Cx.Ok.Zc(ok:X.Ok){b:we}{o:Obj}(e:X.base.get? b=some o):b ∉ X.fs:=λhb=>by
 have:=(ok.fi.mem hb).1;rw[e]at this;cases this
theorem Inv.bs(I:Inv X pins σ H s):∀b o,X.base.get? b=some o->s.heap.get? b=some o/\H b=none:=λb o e =>
 ⟨I.base.keep b o (I.ok.bs b o e).1 (I.ok.bs b o e).2 (I.ok.Zc e) (I.ok.kD b o e),I.base.free b o (I.ok.bs b o e).1 (I.ok.bs b o e).2 (I.ok.kD b o e)⟩
theorem Inv.bk(I:Inv X pins σ H s):∀b o,X.base.get? b=some o->s.heap.get? b=some o:=λb o e=>(I.bs b o e).1
theorem Inv.mod(I:Inv X pins σ H s):Mod X.K X.mg X.base:=I.ok.mod
theorem Inv.dG(I:Inv X pins σ H s):X.K.In s.heap:=I.ok.mod.rS.keeps I.bk
theorem Inv.lt(I:Inv X pins σ H s):X.env.locals<s.heap.objs.size:=let ⟨_,hn,_⟩:=I.loc;hn.lt
theorem Inv.sz(I:Inv X pins σ H s):X.s₀.heap.objs.size<=s.heap.objs.size:=Wl I.ok.above (WB I.lt)
theorem Inv.Y9(I:Inv X pins σ H s){a:we}(h:s.heap.objs.size<=a):a ∉ X.fs:=λhb=>by
 obtain⟨_,o,ho,_⟩:=I.ok.fi.mem hb;exact absurd (wU (wA ho) (Wl I.sz h)) (W5 _)
theorem Inv.jP(I:Inv X pins σ H s):∀x c,X.env.cells.lookup x=some c->c≠X.env.locals:=λx c e z=>by
 obtain⟨v,o,ho,hd⟩:=I.cell x c e;obtain⟨m,⟨o',es,ep,ho',hd',_⟩,_⟩:=I.loc;rw[z,ho']at ho;cases ho;rw[hd']at hd;cases hd
theorem Inv.fi(I:Inv X pins σ H s):s.heap.FunFrames X.base X.outer:=by
 have all:∀(l:List Env),(∀b∈dB l,b∈X.fs)->X.s₀.heap.FunFrames X.base l->s.heap.FunFrames X.base l:=by
  intro l
  induction l with
  | nil=>intro _ _;trivial
  | cons env r ih =>
   intro hs hl;obtain⟨hk,⟨L,o,hf,hn,ho,hd⟩,hr⟩:=hl;have hL:L∈X.fs:=hs L (by unfold dB;rw[qk,hf];exact wJ);obtain⟨sl,e⟩:=I.base.slot L o ho (I.ok.jt L hL) hL λz=>I.ok.lJ L z hL
   exact⟨hk,⟨L,_,hf,hn,e,hd⟩,ih (λb hb=>hs b (by unfold dB;rw[qk,hf];exact wB _ hb)) hr⟩
 exact all X.outer (λ_ hb=>hb) I.ok.fi
theorem Inv.stack(I:Inv X pins σ H s):s.heap.FunFrames X.base X.stack:=by
 rcases I.ok.lT with e | ⟨e,hf⟩
 ·rw[e];exact I.fi
 ·rw[e]
  obtain⟨m,hn,_⟩:=I.loc;refine .cons (by rw[I.ok.kind];decide) hf hn ?_ I.fi;exact Heap.get?_none_of_le (Wl I.ok.jl I.ok.above)
theorem Inv.mQ(I:Inv X pins σ H s):∀b∈dB X.stack,b∈X.env.locals::X.fs:=λb hb=>by
 rcases I.ok.lT with e | ⟨e,hf⟩
 ·rw[e]at hb;exact wB _ hb
 ·rw[e]at hb
  unfold dB at hb;rw[qk,hf]at hb;exact hb
theorem Inv.sU(I:Inv X pins σ H s):∀b∈dB X.stack,H b=none:=λb hb=>by
 rcases wR.mp (I.mQ b hb)with e | hb
 ·rw[e];exact I.free
 ·obtain⟨_,o,ho,_⟩:=I.ok.fi.mem hb
  exact I.base.free b o ho (I.ok.jt b hb) λz=>I.ok.lJ b z hb
theorem Inv.step{g':Array GenState}{d':Drawn}(I:Inv X pins σ H s)
  (hch:∀b∈ch,(b∈X.ex\/X.s₀.heap.objs.size<=b)/\b≠X.env.locals/\(∀x c,X.env.cells.lookup x=some c->c≠b) /\ ∀p∈X.pn++pins,p.1≠b)
  (keep:∀b o,b≠X.env.locals->b ∉ X.fs->b ∉ ch->s.heap.get? b=some o->H b=none->h'.get? b=some o)
  (slot:∀b o,b≠X.env.locals->b∈X.fs->b ∉ ch->s.heap.get? b=some o->H b=none->∃sl,h'.get? b=some {o with slots:=sl}) (free:∀b o,b ∉ ch->s.heap.get? b=some o->H b=none->H' b=none)
  (there:∀b o,b ∉ ch->s.heap.get? b=some o->∃o',h'.get? b=some o')
  (gJ:∀b xs,H b=some (.tup xs)->H' b=some (.tup xs)) (gf:∀b o u,H b=some (.gz o u)->H' b=some (.gz o u)) (gK:∀b ps,H b=some (.kF ps)->∃more,H' b=some (.kF (ps++more)))
  (ns:∀m,s.heap.Ns X.env.locals m->h'.Ns X.env.locals m) (aM:dE X.prog X.w H' h') (hg:AllBare g') :
  Inv X pins σ H' {s with heap:=h',gens:=g',drawn:=d',toks:=t'}:=by
 have neL:∀b o,X.s₀.heap.get? b=some o->b≠X.env.locals:=λb o e=>wT (wU (wA e) I.ok.above)
 have neC:∀b o,X.s₀.heap.get? b=some o->b ∉ X.ex->b ∉ ch:=λb o e hx hb=>by
  rcases (hch b hb).1 with z | z
  ·exact hx z
  ·exact absurd (wU (wA e) z) (W5 _)
 have cellK:∀x c,X.env.cells.lookup x=some c->∀v,s.heap.IsCell c v->h'.IsCell c v:=λx c e v ⟨o,ho,hd⟩=>by
  have nch:c ∉ ch:=λz=>(hch c z).2.2.1 x c e rfl
  by_cases hc:c∈X.fs
  ·obtain⟨sl,q⟩:=slot c o (I.jP x c e) hc nch ho (I.fv x c e)
   exact⟨_,q,hd⟩
  ·exact⟨o,keep c o (I.jP x c e) hc nch ho (I.fv x c e),hd⟩
 refine⟨I.ok,I.os,hg,⟨λb o e n hb hx=>?_,λb o e n hb hx=>?_,λb o e n hx=>?_,λb o e hx=>?_,λb xs e=>gJ b xs (I.base.gJ b xs e),λb o xs e=>gf b o xs (I.base.gf b o xs e),λb ps e=>?_⟩,?_,λx c e=>?_,?_,λx c e=>?_,λp hp=>?_,aM,I.len⟩
 ·exact keep b o (neL b o e) hb (neC b o e hx) (I.base.keep b o e n hb hx) (I.base.free b o e n hx)
 ·obtain⟨sl,e1⟩:=I.base.slot b o e n hb hx
  obtain⟨sl',e2⟩:=slot b _ (neL b o e) hb (neC b o e hx) e1 (I.base.free b o e n hx);exact⟨sl',e2⟩
 ·obtain⟨o',e1⟩:=I.base.there b o e hx
  exact free b o' (neC b o e hx) e1 (I.base.free b o e n hx)
 ·obtain⟨o',e1⟩:=I.base.there b o e hx
  exact there b o' (neC b o e hx) e1
 ·obtain⟨m1,e1⟩:=I.base.gK b ps e
  obtain⟨m2,e2⟩:=gK b _ e1;exact⟨m1++m2,by rw[e2,xV]⟩
 ·obtain⟨m,hn,hl⟩:=I.loc
  refine⟨m,ns m hn,λi x v e1 e2 e3=>?_⟩;obtain⟨u,r,l⟩:=hl i x v e1 e2 e3;refine⟨u,r,?_⟩;rcases l with l | ⟨k,c,e,z⟩
  ·exact .inl l
  ·exact .inr ⟨k,c,e,cellK x c e _ z⟩
 ·obtain⟨v,z⟩:=I.cell x c e
  exact⟨v,cellK x c e v z⟩
 ·obtain⟨m,⟨o,_,_,ho,_⟩,_⟩:=I.loc
  exact free _ o (λz=>(hch _ z).2.1 rfl) ho I.free
 ·obtain⟨v,o,ho,hd⟩:=I.cell x c e
  exact free c o (λz=>(hch c z).2.2.1 x c e rfl) ho (I.fv x c e)
 ·obtain⟨e,n,ne,nf,d⟩:=I.pin p hp
  have nch:p.1 ∉ ch:=λz=>(hch p.1 z).2.2.2 p hp rfl
  exact⟨keep p.1 p.2 ne nf nch e n,free p.1 p.2 nch e n,ne,nf,d⟩
theorem Inv.un(I:Inv X pins σ H s)(u:Un X.fs [] H H' s.heap h')(aM:dE X.prog X.w H' h'):Inv X pins σ H' {s with heap:=h',toks:=t'}:=by
 obtain⟨m,⟨o,es,ep,ho,r⟩,_⟩:=id I.loc;obtain⟨sl,hL⟩:=u.any ho I.free (by simp)
 exact I.step (g':=s.gens) (d':=s.drawn) (ch:=[]) (λ_ z=>nomatch z) (λb o _ hb _ e n=>u.keep b o e n hb (by simp)) (λb o _ hb _ e n=>u.slot b o e n hb (by simp)) (λb o _ e n=>u.free b o e n (by simp)) (λb o _ e=>u.there b o e (by simp)) u.gJ u.gf u.gK (λm' hm=>by
  obtain⟨o',es',ep',ho',r'⟩:=hm;rw[ho]at ho';cases ho';exact⟨_,es',ep',hL,r'⟩) aM I.bare
theorem Inv.call{g':Array GenState}{d':Drawn}(I:Inv X pins σ H s)(u:Un (dB X.stack) ch H H' s.heap h')(aM:dE X.prog X.w H' h')(hg:AllBare g')
  (hch:∀b∈ch,(b∈X.ex\/X.s₀.heap.objs.size<=b)/\b≠X.env.locals/\(∀x c,X.env.cells.lookup x=some c->c≠b) /\ ∀p∈X.pn++pins,p.1≠b) :
  Inv X pins σ H' {s with heap:=h',gens:=g',drawn:=d',toks:=t'}:=by
 obtain⟨m,⟨o,es,ep,ho,r⟩,_⟩:=id I.loc;obtain⟨sl,hL⟩:=u.any ho I.free λz=>(hch _ z).2.1 rfl
 exact I.step (ch:=ch) hch (λb o hL hb hc e n=>u.keep b o e n (λz=>(wR.mp (I.mQ b z)).elim hL hb) hc) (λb o _ _ hc e n=>u.any e n hc) (λb o hc e n=>u.free b o e n hc) (λb o hc e=>u.there b o e hc) u.gJ u.gf u.gK (λm' hm=>by
  obtain⟨o',es',ep',ho',r'⟩:=hm;rw[ho]at ho';cases ho';exact⟨_,es',ep',hL,r'⟩) aM hg
theorem Inv.turned{it:we}(I:Inv X pins σ H s)(k:∀b o,b≠it->s.heap.get? b=some o->h'.get? b=some o)(hn:H it=none)(hL:it≠X.env.locals)
  (h1:it∈X.ex\/X.s₀.heap.objs.size<=it) (h2:∀x c,X.env.cells.lookup x=some c->c≠it) (h3:∀p∈X.pn++pins,p.1≠it):Inv X pins σ H {s with heap:=h',toks:=t'}:=by
 have nit:∀b u,H b=some u->b≠it:=λb u e z=>by rw[z,hn]at e;cases e
 refine I.step (g':=s.gens) (d':=s.drawn) (ch:=[it]) (λb hb=>?_) (λb o _ _ hc e _=>k b o (λz=>hc (by simp[z])) e) (λb o _ _ hc e _=>⟨o.slots,k b o (λz=>hc (by simp[z])) e⟩) (λ_ _ _ _ n=>n)
  (λb o hc e=>⟨o,k b o (λz=>hc (by simp[z])) e⟩) (λ_ _ e=>e) (λ_ _ _ e=>e) (λb ps e=>⟨#[],by rw[e];simp⟩) (λm hm=>?_) (λb u e=>?_) I.bare
 ·have e:b=it:=by simpa using hb
  subst e;exact⟨h1,hL,h2,h3⟩
 ·obtain⟨o,es,ep,ho,r⟩:=hm
  exact⟨o,es,ep,k _ o (Wt hL) ho,r⟩
 ·refine(I.aM b u e).jq (λc v hc q=>k c v ?_ q) (λ_ q=>q) λ_ _ q=>q
  rcases hc with z | z
  ·rw[z];exact nit b u e
  ·exact nit c _ z
theorem Inv.tok(I:Inv X pins σ H s)(t:Nat):Inv X pins σ H {s with toks:=t}:=I.un (h':=s.heap) (t':=t) Un.refl I.aM
theorem Inv.kept(I:Inv X pins σ H s)(k:∀b u,s.heap.get? b=some u->h'.get? b=some u):Inv X pins σ H {s with heap:=h',toks:=t'}:=I.un (Un.kept k) (I.aM.kept k)
theorem Inv.laid{a:we}{o:HO}(I:Inv X pins σ H s)(k:∀b u,s.heap.get? b=some u->h'.get? b=some u)(hp:s.heap.objs.size<=a)(new:dS X.prog X.w (upd H a o) h' a o) :
  Inv X pins σ (upd H a o) {s with heap:=h',toks:=t'}:=I.un (Un.laid k hp (I.aM.fresh hp)) (I.aM.laid k hp new)
theorem Inv.write{x e:we}{o:HO}(I:Inv X pins σ H s)(mu:yx (H x))(he:e=x\/H e=some (.own x))(k:∀b u,b≠e->s.heap.get? b=some u->h'.get? b=some u)(heo:∃u,h'.get? e=some u)
  (new:dS X.prog X.w (upd H x o) h' x o):Inv X pins σ (upd H x o) {s with heap:=h',toks:=t'}:=I.un (Un.write mu he k heo) (I.aM.write mu he k heo new)
theorem Inv.JQ{pins':List (we × Obj)}(I:Inv X pins σ H s)(h:∀p∈pins',s.heap.get? p.1=some p.2/\H p.1=none/\p.1≠X.env.locals/\p.1 ∉ X.fs /\ ∀v,p.2.data≠.cell v):Inv X pins' σ H s :=
 ⟨I.ok,I.os,I.bare,I.base,I.loc,I.cell,I.free,I.fv,λp hp=>(Wn.mp hp).elim (λz=>I.pin p (WM _ z)) (h p),I.aM,I.len⟩
theorem Gv{N:List Str}(hN:N.Nodup){j:Nat}(a:N[i]? = some x)(b:N[j]? = some x):i=j:=by
 obtain⟨h1,e1⟩:=W2.mp a;obtain⟨h2,e2⟩:=W2.mp b;exact(List.getElem_inj hN).mp (e1.trans e2.symm)
theorem O1{M:Model}{A:w9}{E:wf->wl->Prop}{v:V}{u:wf}{Q:Unit->wl->Prop}(I:Inv X pins σ H s)(hN:X.N.Nodup)(hi:X.N[i]? = some x)(hx:Loc X.env.scope x)(r:bE v u)
  (h:∀s',Inv X pins (σ.set i (some v)) H s'->(∃a,vJ a s.heap s'.heap/\(a=X.env.locals\/X.env.cells.lookup x=some a))->Q () s') (hf:X.fn x=true\/X.env.scope.names.lookup x=some .local:=by first | exact .inl rfl | exact .inr rfl | assumption):wq M A (storeName X.env x u) Q E s:=by
 obtain⟨m,hn,hl⟩:=id I.loc;have hcls:(X.env.scope.kind == .class || (X.env.scope.kind == .module&&X.env.locals != X.env.globals))=false:=by rw[I.ok.kind];rfl
 have hiσ : i < σ.length:=by rw[I.len];exact(W2.mp hi).1
 have jP:=I.jP
 have tracked:∀{a:we}{h':wM},(∃o,s.heap.get? a=some o/\H a=none)->vJ a s.heap h'->dE X.prog X.w H h':=λ{a h'} ha hs b ob e=>by
  obtain⟨_,_,hfree⟩:=ha;refine(I.aM b ob e).jq (λc w' hc q=>(hs.2 c ?_).trans q) (λ_ q=>q) λ_ _ q=>q
  rintro rfl;rcases hc with rfl | hc
  ·rw[hfree]at e;cases e
  ·rw[hfree]at hc;cases hc
 rcases hx with hk | hk
 ·refine wpAny_storeName_local hk hn (λh' hn' hs=>?_) hcls
  obtain⟨oL,_,_,hoL,_⟩:=id hn;refine h _ ⟨I.ok,I.os,I.bare,⟨λb o e n hb hx=>?_,λb o e n hb hx=>?_,I.base.free,λb o e hx=>?_,I.base.gJ,I.base.gf,I.base.gK⟩,⟨_,hn',λj y v' e1 e2 e3=>?_⟩,λy c e=>?_,I.free,I.fv,λp hp=>?_,tracked ⟨oL,hoL,I.free⟩ hs,by simpa using I.len⟩ ⟨_,hs,.inl rfl⟩
  ·exact(hs.2 b (wT (wU (wA e) I.ok.above))).trans (I.base.keep b o e n hb hx)
  ·obtain⟨sl,e1⟩:=I.base.slot b o e n hb hx
   exact⟨sl,(hs.2 b (wT (wU (wA e) I.ok.above))).trans e1⟩
  ·obtain⟨o',e1⟩:=I.base.there b o e hx
   exact⟨o',(hs.2 b (wT (wU (wA e) I.ok.above))).trans e1⟩
  ·by_cases hj:j=i
   ·subst hj
    rw[hi]at e1;cases e1;rw[Q6 hiσ]at e2;cases e2;exact⟨u,r,.inl ⟨hk,by simp⟩⟩
   ·rw[qW (Wt hj)]at e2
    obtain⟨u',r',q⟩:=hl j y v' e1 e2 e3;refine⟨u',r',?_⟩;rcases q with⟨k,e⟩ | ⟨k,c,e,z⟩
    ·refine .inl ⟨k,?_⟩
     have:y≠x:=λe=>hj (Gv hN e1 (e ▸ hi))
     simp[this,e]
    ·exact .inr ⟨k,c,e,z.sameBut hs (jP y c e)⟩
  ·obtain⟨w',z⟩:=I.cell y c e
   exact⟨w',z.sameBut hs (jP y c e)⟩
  ·obtain⟨e,n,ne,nf,d⟩:=I.pin p hp
   exact⟨(hs.2 p.1 ne).trans e,n,ne,nf,d⟩
 ·have hfn:X.fn x=true:=by
   rcases hf with z | z
   ·exact z
   ·rw[z]at hk;cases hk
  obtain⟨c,hc⟩:=I.ok.has x (.inl hk);obtain⟨w',z⟩:=I.cell x c hc;refine wpAny_storeName_cell I.ok.kind hk hc z (λh' hc' hs=>?_);obtain⟨oc,hoc,hocd⟩:=id z;refine h {s with heap:=h'} ⟨I.ok,I.os,I.bare,⟨λb o e n hb hx=>?_,λb o e n hb hx=>?_,I.base.free,λb o e hx=>?_,I.base.gJ,I.base.gf,I.base.gK⟩,⟨m,hn.sameBut hs (Wt (jP x c hc)),λj y v' e1 e2 e3=>?_⟩,λy c' e=>?_,I.free,I.fv,λp hp=>?_,tracked ⟨oc,hoc,I.fv x c hc⟩ hs,by simpa using I.len⟩ ⟨c,hs,.inr hc⟩
  ·exact(hs.2 b (wT (wU (wA e) (I.ok.lq x c hfn hc)))).trans (I.base.keep b o e n hb hx)
  ·obtain⟨sl,e1⟩:=I.base.slot b o e n hb hx
   exact⟨sl,(hs.2 b (wT (wU (wA e) (I.ok.lq x c hfn hc)))).trans e1⟩
  ·obtain⟨o',e1⟩:=I.base.there b o e hx
   exact⟨o',(hs.2 b (wT (wU (wA e) (I.ok.lq x c hfn hc)))).trans e1⟩
  ·by_cases hj:j=i
   ·subst hj
    rw[hi]at e1;cases e1;rw[Q6 hiσ]at e2;cases e2;exact⟨u,r,.inr ⟨.inl hk,c,hc,hc'⟩⟩
   ·rw[qW (Wt hj)]at e2
    obtain⟨u',r',q⟩:=hl j y v' e1 e2 e3;refine⟨u',r',?_⟩;rcases q with q | ⟨k,c',e,z'⟩
    ·exact .inl q
    ·refine .inr ⟨k,c',e,z'.sameBut hs ?_⟩
     rintro rfl;exact hj (Gv hN e1 (I.ok.inj _ _ _ e hc ▸ hi))
  ·by_cases hcc:c'=c
   ·subst hcc;exact⟨_,hc'⟩
   ·obtain⟨w2,z2⟩:=I.cell y c' e
    exact⟨w2,z2.sameBut hs hcc⟩
  ·obtain⟨e,n,ne,nf,d⟩:=I.pin p hp
   refine⟨(hs.2 p.1 ?_).trans e,n,ne,nf,d⟩;intro q;rw[q,hoc]at e;have q':oc=p.2:=w5 e;exact d w' (by rw[<- q'];exact hocd)
theorem oh{M:Model}{A:w9}{E:wf->wl->Prop}{v:V}{u:wf}{Q:Unit->wl->Prop}(I:Inv X pins σ H s)(hN:X.N.Nodup)(hi:X.N[i]? = some x)(hx:Loc X.env.scope x)(r:bE v u)
  (h:∀s',Inv X pins (σ.set i (some v)) H s'->Q () s') (hf:X.fn x=true\/X.env.scope.names.lookup x=some .local:=by first | exact .inl rfl | exact .inr rfl | assumption):wq M A (storeName X.env x u) Q E s :=
 O1 I hN hi hx r (λs' I' _=>h s' I') hf
theorem Inv.Kg{s':wl}(I:Inv X pins σ H s)(ho:s'.os=s.os)(u:Un (dB X.stack) ch H H' s.heap s'.heap)(aM:dE X.prog X.w H' s'.heap)(hg:AllBare s'.gens)
  (hch:∀b∈ch,(b∈X.ex\/X.s₀.heap.objs.size<=b)/\b≠X.env.locals/\(∀x c,X.env.cells.lookup x=some c->c≠b) /\ ∀p∈X.pn++pins,p.1≠b):Inv X pins σ H' s':=by
 obtain⟨h',g',d',t',o'⟩:=s';have e:o'=s.os:=ho;subst e;exact I.call (g':=g') (t':=t') (d':=d') u aM hg hch
end
abbrev XK:=wf->Option we->Hp->Prop
abbrev St:=List (Option V)
abbrev VK:=V->Hp->Prop
abbrev TE:=St->Hp->VK->Prop
abbrev TT:=St->Hp->(Bool->Hp->Prop)->Prop
abbrev TA:=St->Hp->(List V->Hp->Prop)->Prop
structure cN where
 nx:St->Hp->Prop
 rt:VK
 bk:St->Hp->Prop:=λ_ _=>False
 ct:St->Hp->Prop:=λ_ _=>False
abbrev TS:=cN->St->Hp->Prop
def EP(X:Cx)(pins:List (we × Obj))(σ : St)(Q:VK)(u:wf)(s':wl):Prop:=∃v H',Inv X pins σ H' s'/\bE v u/\Q v H'
def TP(X:Cx)(pins:List (we × Obj))(σ : St)(Q:Bool->Hp->Prop)(b:Bool)(s':wl):Prop:=∃H',Inv X pins σ H' s'/\Q b H'
def AP(X:Cx)(pins:List (we × Obj))(σ : St)(Q:List V->Hp->Prop)(us:List wf)(s':wl):Prop:=∃vs H',Inv X pins σ H' s'/\aT vs us/\Q vs H'
def SP(X:Cx)(pins:List (we × Obj))(D:cN)(f:Flow)(s':wl):Prop :=
 match f with
 | .next=>∃σ' H',Inv X pins σ' H' s'/\D.nx σ' H'
 | .brk=>∃σ' H',Inv X pins σ' H' s'/\D.bk σ' H'
 | .cont=>∃σ' H',Inv X pins σ' H' s'/\D.ct σ' H'
 | .ret u=>∃v σ' H',Inv X pins σ' H' s'/\bE v u/\D.rt v H'
def PE(X:Cx)(e:Expr)(t:TE):Prop :=
 ∀(pins:List (we × Obj))(s:wl)(σ : St)(H:Hp)(Q:VK),Inv X pins σ H s->t σ H Q->wq (model X.prog X.w) X.A (eval e X.env) (EP X pins σ Q) X.xe s
def PT(X:Cx)(e:Expr)(t:TT):Prop :=
 ∀(pins:List (we × Obj))(s:wl)(σ : St)(H:Hp)(Q:Bool->Hp->Prop),Inv X pins σ H s->t σ H Q->wq (model X.prog X.w) X.A (isTrue e X.env (eval e X.env)) (TP X pins σ Q) X.xe s
def PW(X:Cx)(e:Expr)(t:TT):Prop :=
 ∀(whole:Sem wf)(pins:List (we × Obj))(s:wl)(σ : St)(H:Hp)(Q:Bool->Hp->Prop),Inv X pins σ H s->t σ H Q->wq (model X.prog X.w) X.A (isTrue e X.env whole) (TP X pins σ Q) X.xe s
theorem PW.pt{X:Cx}{e:Expr}{t:TT}(h:PW X e t):PT X e t:=h _
def PA(X:Cx)(es:List Expr)(t:TA):Prop :=
 ∀(pos:Pos)(pins:List (we × Obj))(s:wl)(σ : St)(H:Hp)(Q:List V->Hp->Prop),Inv X pins σ H s->t σ H Q->wq (model X.prog X.w) X.A (spliced (backTo pos (vf es X.env))) (AP X pins σ Q) X.xe s
def PS(X:Cx)(st:wZ)(t:TS):Prop :=
 ∀(pins:List (we × Obj))(s:wl)(σ : St)(H:Hp)(D:cN),Inv X pins σ H s->t D σ H->wq (model X.prog X.w) X.A (exec st X.env) (SP X pins D) X.xe s
def fD(X:Cx)(st:List wZ)(t:TS):Prop :=
 ∀(pins:List (we × Obj))(s:wl)(σ : St)(H:Hp)(D:cN),Inv X pins σ H s->t D σ H->wq (model X.prog X.w) X.A (execs st X.env) (SP X pins D) X.xe s
theorem aQ{α : Type}{t:Sem α}{Q Q' : α -> wl->Prop}{M:Model}{A:w9}{E:wf->wl->Prop}{s:wl}(h:wq M A t Q E s)(hQ:∀a s,Q a s->Q' a s):wq M A t Q' E s:=WF h hQ λ_ _ x=>x
section
variable{X:Cx}
variable{x:Str}{u:wf}
def lQ(i:Nat):TE:=λσ H Q=>∃v,σ[i]? = some (some v)/\Q v H
def tC(v:V):TE:=λ_ H Q=>Q v H
theorem zCA{i:Nat}{pos:Pos}(hN:X.N[i]? = some x)(hv:zR X.env.scope x)(hd:(x == ("__debug__" : Str))=false:=by decide)(hcd:(x == ("__classdict__" : Str))=false:=by decide):PE X (.Name x pos) (lQ i):=by
 intro pins s σ H Q I h;obtain⟨v,e,h⟩:=h;obtain⟨m,hn,hl⟩:=I.loc;obtain⟨u,r,l⟩:=hl i x v hN e hv;have fin:EP X pins σ Q u s:=⟨v,H,I,r,h⟩;rcases l with⟨hk,hm⟩ | ⟨hk,c,hc,hcell⟩
 ·exact wpAny_Name (wpAny_loadName_local I.ok.kind hk hn hm fin) hd
 ·rcases hk with hk | hk
  ·exact wpAny_Name (wpAny_loadName_cell I.ok.kind hk hc hcell fin) hd
  ·exact wpAny_Name (wpAny_loadName_free I.ok.kind hk hc hcell fin hcd) hd
theorem ay{i j pos} : PE X (.Constant (.int i) j pos) (tC (.int i)):=λ_ _ _ H _ I h=>wpAny_Constant_int ⟨.int i,H,I.tok _,⟨_,rfl⟩,h⟩
theorem hZ{b j pos} : PE X (.Constant (.bool b) j pos) (tC (.bl b)):=λ_ _ _ H _ I h=>Constant_bool ⟨.bl b,H,I,rfl,h⟩
theorem fS{j pos} : PE X (.Constant .none j pos) (tC .bY):=λ_ _ _ H _ I h=>Constant_none ⟨.bY,H,I,rfl,h⟩
theorem dX{x j pos} : PE X (.Constant (.str x) j pos) (tC (.str x)):=λ_ _ _ H _ I h=>Calls.Constant_str ⟨.str x,H,I.tok _,⟨_,rfl⟩,h⟩
def Gl(X:Cx)(x:Str):Prop:=X.env.kindOf x=some .globalImplicit
theorem p8{E:wf->wl->Prop}{pins:List (we × Obj)}{s:wl}{σ : St}{H:Hp}{pos:Pos}{Q:wf->wl->Prop}(I:Inv X pins σ H s)(hg:Gl X x)(hm:X.mg x=some u)(h:Q u s)
  (hd:(x == ("__debug__" : Str))=false:=by decide):wq (model X.prog X.w) X.A (eval (.Name x pos) X.env) Q E s :=
 Qr I.ok.kind hg (Calls.loadGlobal_global (by rw[I.ok.glob];exact I.mod.glob.keeps I.bk) hm h) hd
theorem gW{E:wf->wl->Prop}{pins:List (we × Obj)}{s:wl}{σ : St}{H:Hp}{pos:Pos}{Q:wf->wl->Prop}(I:Inv X pins σ H s)(hg:Gl X x)(hm:X.mg x=none)(hv:vO x=some u)(h:Q u s)
  (hn:x≠"__name__":=by decide) (hd:(x == ("__debug__" : Str))=false:=by decide):wq (model X.prog X.w) X.A (eval (.Name x pos) X.env) Q E s:=by
 obtain⟨mb,h1,h2⟩:=I.mod.blt;exact Qr I.ok.kind hg (Calls.loadGlobal_builtin (by rw[I.ok.glob];exact I.mod.glob.keeps I.bk) hm (by rw[I.ok.blt];exact h1.keeps I.bk) ((h2 x hn).trans hv) h) hd
theorem bW{v:V}{pos:Pos}(hg:Gl X x)(hm:X.mg x=some u)(r:bE v u)(hd:(x == ("__debug__" : Str))=false:=by decide):PE X (.Name x pos) (tC v) :=
 λ_ _ _ H _ I h=>p8 I hg hm ⟨v,H,I,r,h⟩ hd
theorem jk{v:V}{pos:Pos}(hg:Gl X x)(hm:X.mg x=none)(hv:vO x=some u)(r:bE v u)(hn:x≠"__name__":=by decide)(hd:(x == ("__debug__" : Str))=false:=by decide):PE X (.Name x pos) (tC v) :=
 λ_ _ _ H _ I h=>gW I hg hm hv ⟨v,H,I,r,h⟩ hn hd
def t2I(ta tb:TE)(k:Int->Int->Hp->Prop):St->Hp->Prop:=λσ H=>ta σ H λx H1=>tb σ H1 λy H2=>∃i j,x=.int i/\y=.int j/\k i j H2
variable{a b:Expr}{ta tb:TE}{pos:Pos}
def nU(p:Int->Int->Bool)(ta tb:TE):TE:=λσ H Q=>t2I ta tb (λi j H2=>Q (.bl (p i j)) H2) σ H
abbrev tLt:TE->TE->TE:=nU λi j=>decide (i<j)
abbrev tLe:TE->TE->TE:=nU λi j=>decide (i<=j)
abbrev tGt:TE->TE->TE:=nU λi j=>decide (j<i)
abbrev tGe:TE->TE->TE:=nU λi j=>decide (j<=i)
abbrev zEK:TE->TE->TE:=nU λi j=>decide (i=j)
abbrev zEJ:TE->TE->TE:=nU λi j=>!decide (i=j)
def tB(t:TE):TT:=λσ H Q=>t σ H λx H1=>∃c,x=.bl c/\Q c H1
theorem cA{e:Expr}{t:TE}(h:PE X e t)(he:∀whole,isTrue e X.env whole=(do let v <- whole;standAt e.pos;holding [v] (truthy v)):=by intro _;rfl):PT X e (tB t):=by
 intro pins s σ H Q I hw;refine isTrue_plain (aQ (h pins s σ H _ I hw) λv s1 ⟨x,H1,I1,r1,q1⟩=>?_) (he _);obtain⟨d,rfl,q⟩:=q1;cases r1;exact Wz ⟨H1,I1,q⟩
variable{tA tB':TT}{eY:List Expr}
def Tj(t u:TT):TT:=λσ H Q=>t σ H λc H1=>if c=true then u σ H1 Q else Q false H1
def MM(t u:TT):TT:=λσ H Q=>t σ H λc H1=>if c=true then Q true H1 else u σ H1 Q
def M0(t:TT):TT:=λσ H Q=>t σ H λc H1=>Q (!c) H1
theorem Ai(ha:PT X a tA):PW X (.BoolOp .And [a] pos) tA:=by
 intro wh pins s σ H Q I h;refine isTrue_and (aQ (ha pins s σ H Q I h) λc s1 e=>?_);cases c with
 | true=>exact isTrue_and_nil e
 | false=>exact e
theorem ig(ha:PT X a tA):PW X (.BoolOp .Or [a] pos) tA:=by
 intro wh pins s σ H Q I h;refine isTrue_or (aQ (ha pins s σ H Q I h) λc s1 e=>?_);cases c with
 | false=>exact isTrue_or_nil e
 | true=>exact e
theorem As(ha:PT X a tA)(hb:PW X (.BoolOp .And (b::eY) pos) tB'):PW X (.BoolOp .And (a::b::eY) pos) (Tj tA tB'):=by
 intro wh pins s σ H Q I h;refine isTrue_and (aQ (ha pins s σ H _ I h) λc s1 ⟨H1,I1,q1⟩=>?_);cases c with
 | true=>exact hb wh pins s1 σ H1 Q I1 q1
 | false=>exact⟨H1,I1,q1⟩
theorem fz(ha:PT X a tA)(hb:PW X (.BoolOp .Or (b::eY) pos) tB'):PW X (.BoolOp .Or (a::b::eY) pos) (MM tA tB'):=by
 intro wh pins s σ H Q I h;refine isTrue_or (aQ (ha pins s σ H _ I h) λc s1 ⟨H1,I1,q1⟩=>?_);cases c with
 | true=>exact⟨H1,I1,q1⟩
 | false=>exact hb wh pins s1 σ H1 Q I1 q1
theorem dy(ha:PT X a tA):PT X (.UnaryOp .Not a pos) (M0 tA):=by
 intro pins s σ H Q I h;exact isTrue_not (ha pins s σ H (λc H1=>Q (!c) H1) I h)
def NB(ta tb:TE):TE:=λσ H Q=>ta σ H λx H1=>∃c,x=.bl c/\if c=true then tb σ H1 Q else Q (.bl false) H1
def NU(ta:TE):TE:=λσ H Q=>ta σ H λx H1=>∃c,x=.bl c/\Q (.bl (!c)) H1
theorem jB{op}{t:TE}(h:PE X a t):PE X (.BoolOp op [a] pos) t:=λpins s σ H Q I hw=>BoolOp_one (h pins s σ H Q I hw)
theorem gB(ha:PE X a ta)(hb:PE X (.BoolOp .And (b::eY) pos) tb):PE X (.BoolOp .And (a::b::eY) pos) (NB ta tb):=by
 intro pins s σ H Q I h;refine BoolOp_and (aQ (ha pins s σ H _ I h) λv s1 ⟨x,H1,I1,r1,q1⟩=>?_);obtain⟨c,rfl,q1⟩:=q1;cases r1;refine Wz ?_;cases c with
 | true=>exact hb pins s1 σ H1 Q I1 q1
 | false=>exact⟨.bl false,H1,I1,rfl,q1⟩
theorem mD(ha:PE X a ta):PE X (.UnaryOp .Not a pos) (NU ta):=by
 intro pins s σ H Q I h;refine UnaryOp_ (aQ (ha pins s σ H _ I h) λv s1 ⟨x,H1,I1,r1,q1⟩=>?_);obtain⟨c,rfl,q1⟩:=q1;cases r1;exact not_of (Wz ⟨.bl (!c),H1,I1,rfl,q1⟩)
def Oj(t:TT)(ta tb:TE):TE:=λσ H Q=>t σ H λc H1=>if c=true then ta σ H1 Q else tb σ H1 Q
theorem p5{c:Expr}(hc:PT X c tA)(ha:PE X a ta)(hb:PE X b tb):PE X (.IfExp c a b pos) (Oj tA ta tb):=by
 intro pins s σ H Q I h;refine wpAny_IfExp (aQ (hc pins s σ H _ I h) λd s1 ⟨H1,I1,q1⟩=>?_);cases d with
 | true=>exact ha pins s1 σ H1 Q I1 q1
 | false=>exact hb pins s1 σ H1 Q I1 q1
end
def aG(K:wa)(H:Hp)(a:we)(xs:List V):Prop :=
 Rd H a (.lst xs) \/
  ∃(o:Obj)(its:Array wf)(n:Nat),K.lookup a=some o/\o.cls=.type "list"/\o.dict=none/\o.data=.seq its n/\its.size<=vc/\aT xs its.toList
def aV(K:wa)(H:Hp)(a:we)(xs:List V):Prop :=
 Rd H a (.tup xs) \/
  ∃(o:Obj)(its:Array wf)(n:Nat),K.lookup a=some o/\o.cls=.type "tuple"/\o.data=.seq its n/\its.size<=vc/\aT xs its.toList
def ZS:wf->Option V
 | .none=>some .bY
 | .bool b=>some (.bl b)
 | .int i _=>some (.int i)
 | .str x _=>some (.str x)
 | .bytes b _=>some (.byt b)
 | .float b _=>some (.flt b)
 | .ref a=>some (.ref a)
 | .type n=>some (.ty n)
 | _=>none
theorem bE.abs{x:V}{u:wf}(r:bE x u):ZS u=some x:=by
 cases x with
 | bY=>cases r;rfl
 | bl _=>cases r;rfl
 | int _=>obtain⟨t,rfl⟩:=r;rfl
 | str _=>obtain⟨t,rfl⟩:=r;rfl
 | byt _=>obtain⟨t,rfl⟩:=r;rfl
 | flt _=>obtain⟨t,rfl⟩:=r;rfl
 | ref _=>cases r;rfl
 | ty _=>cases r;rfl
theorem bE.inj{x y:V}{u:wf}(r:bE x u)(q:bE y u):x=y:=w5 (r.abs.symm.trans q.abs)
theorem aT.inj:∀{xs ys:List V}{us:List wf},aT xs us->aT ys us->xs=ys
 | _,_,_,.nil,.nil=>rfl
 | _,_,_,.cons r t,.cons r' t'=>by rw[r.inj r',aT.inj t t']
section
variable{X:Cx}{pins:List (we × Obj)}{σ : St}{H:Hp}{s:wl}{a:we}{xs ys:List V}
theorem aG.of{K:wa}(h:H a=some (.lst xs)):aG K H a xs:=.inl (.inl h)
theorem aV.of{K:wa}(h:H a=some (.tup xs)):aV K H a xs:=.inl (.inl h)
theorem Inv.list(I:Inv X pins σ H s)(h:aG X.K H a xs):∃its:List wf,aT xs its/\PlainL s.heap a its.toArray/\xs.length<=vc:=by
 rcases h with h | ⟨o,its,n,hk,hc,hd,hs,hz,r⟩
 ·obtain⟨z,its,n,r,e⟩:=h.ok I.aM
  exact⟨its,r,⟨_,n,e,rfl,rfl,rfl⟩,z⟩
 ·refine⟨its.toList,r,⟨o,n,I.dG a o hk,hc,hd,by simpa using hs⟩,?_⟩
  have e:=r.length;simp only[W9]at e
  lia
theorem Inv.tuple(I:Inv X pins σ H s)(h:aV X.K H a xs):∃its:List wf,aT xs its/\IsTup s.heap a its.toArray/\xs.length<=vc:=by
 rcases h with h | ⟨o,its,n,hk,hc,hs,hz,r⟩
 ·obtain⟨z,its,r,p⟩:=h.ok I.aM
  exact⟨its,r,p,z⟩
 ·refine⟨its.toList,r,⟨o,I.dG a o hk,hc,n,by simpa using hs⟩,?_⟩
  have e:=r.length;simp only[W9]at e
  lia
theorem Inv.A8(I:Inv X pins σ H s)(h:aG X.K H a xs)(h':aG X.K H a ys):xs=ys:=by
 obtain⟨its,r,⟨o,n,e,_,_,d⟩,_⟩:=I.list h;obtain⟨its',r',⟨o',n',e',_,_,d'⟩,_⟩:=I.list h';rw[e]at e';cases e';rw[d]at d'
 injection d' with d1 _
 have:its=its':=by simpa using congrArg uE d1
 subst this;exact r.inj r'
theorem Inv.A4(I:Inv X pins σ H s)(h:aV X.K H a xs)(h':aV X.K H a ys):xs=ys:=by
 obtain⟨its,r,⟨o,e,_,n,d⟩,_⟩:=I.tuple h;obtain⟨its',r',⟨o',e',_,n',d'⟩,_⟩:=I.tuple h';rw[e]at e';cases e';rw[d]at d'
 injection d' with d1 _
 have:its=its':=by simpa using congrArg uE d1
 subst this;exact r.inj r'
end
abbrev Cx.jr(X:Cx)(E:wf->wl->Prop):Cx:={X with xe:=E}
abbrev Cx.tZ(X:Cx):Cx:=X.jr λ_ _=>False
theorem Cx.Ok.jr{X:Cx}(ok:X.Ok)(E:wf->wl->Prop):(X.jr E).Ok :=
 ⟨ok.mod,ok.kind,ok.glob,ok.blt,ok.above,ok.inj,ok.has,ok.lq,ok.hd,ok.frames,ok.lT,ok.pV,ok.bs,ok.jl,ok.kD,ok.lJ,ok.fi,ok.jt⟩
theorem Cx.Ok.kB{X:Cx}{E:wf->wl->Prop}(ok:(X.jr E).Ok):X.Ok :=
 ⟨ok.mod,ok.kind,ok.glob,ok.blt,ok.above,ok.inj,ok.has,ok.lq,ok.hd,ok.frames,ok.lT,ok.pV,ok.bs,ok.jl,ok.kD,ok.lJ,ok.fi,ok.jt⟩
section
variable{X:Cx}{pins:List (we × Obj)}{σ : St}{H:Hp}{s:wl}{E:wf->wl->Prop}
theorem Inv.jr(I:Inv X pins σ H s)(E:wf->wl->Prop):Inv (X.jr E) pins σ H s:=⟨I.ok.jr E,I.os,I.bare,I.base,I.loc,I.cell,I.free,I.fv,I.pin,I.aM,I.len⟩
theorem Inv.kB(I:Inv (X.jr E) pins σ H s):Inv X pins σ H s:=⟨I.ok.kB,I.os,I.bare,I.base,I.loc,I.cell,I.free,I.fv,I.pin,I.aM,I.len⟩
theorem SP.kB{D:cN}{f:Flow}{s':wl}(h:SP (X.jr E) pins D f s'):SP X pins D f s':=by
 cases f with
 | next=>obtain⟨σ',H',I,q⟩:=h;exact⟨σ',H',I.kB,q⟩
 | brk=>obtain⟨σ',H',I,q⟩:=h;exact⟨σ',H',I.kB,q⟩
 | cont=>obtain⟨σ',H',I,q⟩:=h;exact⟨σ',H',I.kB,q⟩
 | ret u=>obtain⟨v,σ',H',I,r,q⟩:=h;exact⟨v,σ',H',I.kB,r,q⟩
theorem fD.tZ{st:List wZ}{t:TS}(h:fD X.tZ st t):fD X st t:=λpins s σ H D I hw =>
 WF (h pins s σ H D (I.jr _) hw) (λ_ _ q=>q.kB) λ_ _ z=>WT z
end
section
variable{X:Cx}{st:wZ}{eY:List wZ}{t u:TS}{e:Expr}{te:TE}{pos:Pos}
def Na:TS:=λD σ H=>D.nx σ H
def Dj(t u:TS):TS:=λD σ H=>t {D with nx:=u D} σ H
theorem bN:fD X [] Na:=λ_ _ σ H _ I h=>qq ⟨σ,H,I,h⟩
theorem ao(h1:PS X st t)(h2:fD X eY u):fD X (st::eY) (Dj t u):=by
 intro pins s σ H D I h;refine wpAny_execs_cons (aQ (h1 pins s σ H {D with nx:=u D} I h) λf s1 q=>?_);cases f with
 | next =>
  obtain⟨σ',H',I',q⟩:=q;exact h2 pins s1 σ' H' D I' q
 | ret v=>exact q
 | brk=>exact q
 | cont=>exact q
theorem av(h1:PS X st t):fD X [st] t:=by
 intro pins s σ H D I h;refine wpAny_execs_cons (aQ (h1 pins s σ H D I h) λf s1 q=>?_);cases f with
 | next=>exact qq q
 | ret v=>exact q
 | brk=>exact q
 | cont=>exact q
theorem Inv.quiet{pins:List (we × Obj)}{σ : St}{H:Hp}{s:wl}(I:Inv X pins σ H s):interactive X.env=false:=by simp[interactive,I.ok.kind]
def Sn(te:TE):TS:=λD σ H=>te σ H λ_ H1=>D.nx σ H1
theorem jR(he:PE X e te)(hs:swapsWith e none pos.line X.env=pure false:=by rfl):PS X (.Expr e pos) (Sn te):=by
 intro pins s σ H D I h;exact wpAny_Expr_any (aQ (he pins s σ H _ I h) λv s1 ⟨x,H1,I1,r1,q1⟩=>⟨σ,H1,I1,q1⟩) I.quiet hs
def N2(te:TE):TS:=λD σ H=>te σ H D.rt
theorem aB(he:PE X e te):PS X (.Return (some e) pos) (N2 te):=by
 intro pins s σ H D I h;exact wpAny_Return_some (aQ (he pins s σ H _ I h) λv s1 ⟨x,H1,I1,r1,q1⟩=>⟨x,σ,H1,I1,r1,q1⟩)
def Dv(c:TT)(t u:TS):TS:=λD σ H=>c σ H λb H1=>if b=true then t D σ H1 else u D σ H1
theorem bL{c:Expr}{a b:List wZ}{tc:TT}(hc:PT X c tc)(ha:fD X a t)(hb:fD X b u):PS X (.If c a b pos) (Dv tc t u):=by
 intro pins s σ H D I h;refine wpAny_If (aQ (hc pins s σ H _ I h) λd s1 ⟨H1,I1,q1⟩=>?_);cases d with
 | true=>exact ha pins s1 σ H1 D I1 q1
 | false=>exact hb pins s1 σ H1 D I1 q1
def zCa:TS:=λ_ _ _=>False
theorem Ei:PS X st zCa:=λ_ _ _ _ _ _ h=>h.elim
end
abbrev TG:=V->St->Hp->(St->Hp->Prop)->Prop
abbrev kf:=List V->St->Hp->(St->Hp->Prop)->Prop
def PG(X:Cx)(target:Expr)(t:TG):Prop :=
 ∀(pins:List (we × Obj))(s:wl)(σ : St)(H:Hp)(v:V)(u:wf)(Q:St->Hp->Prop),Inv X pins σ H s->bE v u->t v σ H Q ->
  wq (model X.prog X.w) X.A (assign target X.env u) (λ_ s'=>∃σ' H',Inv X pins σ' H' s'/\Q σ' H') X.xe s
def zU(X:Cx)(ts:List Expr)(t:kf):Prop :=
 ∀(pins:List (we × Obj))(s:wl)(σ : St)(H:Hp)(vs:List V)(us:List wf)(Q:St->Hp->Prop),Inv X pins σ H s->aT vs us->t vs σ H Q ->
  wq (model X.prog X.w) X.A (assignInOrder ((assignEach ts X.env).map (·.2)) us) (λ_ s'=>∃σ' H',Inv X pins σ' H' s'/\Q σ' H') X.xe s
abbrev yO:=V->V->V->Hp->(Hp->Prop)->Prop
def RO(X:Cx)(t:yO):Prop :=
 ∀(pins:List (we × Obj))(s:wl)(σ : St)(H:Hp)(o i v:V)(ov iv u:wf)(Q:Hp->Prop),Inv X pins σ H s->bE o ov->bE i iv->bE v u->t o i v H Q ->
  wq (model X.prog X.w) X.A (setItem ov iv u) (λ_ s'=>∃H',Inv X pins σ H' s'/\Q H') X.xe s
abbrev sr:=V->V->Hp->VK->Prop
def LK(X:Cx)(op:Operator)(t:sr):Prop :=
 ∀(pins:List (we × Obj))(s:wl)(σ : St)(H:Hp)(x y:V)(v u:wf)(Q:VK),Inv X pins σ H s->bE x v->bE y u->t x y H Q ->
  wq (model X.prog X.w) X.A (inplaceOp op v u) (EP X pins σ Q) X.xe s
section
variable{X:Cx}{pos:Pos}
variable{i:Nat}{x:Str}{e:Expr}{te:TE}{pos':Pos}
def iZ(i:Nat):TG:=λv σ H Q=>Q (σ.set i (some v)) H
theorem aZ(hN:X.N.Nodup)(hi:X.N[i]? = some x)(hx:Loc X.env.scope x)(hf:X.fn x=true\/X.env.scope.names.lookup x=some .local:=by first | exact .inl rfl | exact .inr rfl | assumption):PG X (.Name x pos) (iZ i):=by
 intro pins s σ H v u Q I r h;exact wpAny_assign_Name (oh I hN hi hx r (λs' I'=>⟨_,H,I',h⟩) hf)
def Tx:kf:=λvs σ H Q=>vs=[]/\Q σ H
def Ss(t:TG)(u:kf):kf:=λvs σ H Q=>∃v r,vs=v::r/\t v σ H λσ' H'=>u r σ' H' Q
theorem j7 :zU X [] Tx:=by
 intro pins s σ H vs us Q I r h;obtain⟨e,h⟩:=h;subst e;cases r;exact assignInOrder_nil ⟨σ,H,I,h⟩
theorem fb{es:List Expr}{t:TG}{u:kf}(h1:PG X e t)(h2:zU X es u)
  (hs:(assignEach (e::es) X.env).map (·.2)=assign e X.env::(assignEach es X.env).map (·.2):=by rfl):zU X (e::es) (Ss t u):=by
 intro pins s σ H vs us Q I r h;obtain⟨v,vr,e1,h⟩:=h;subst e1;cases r with
 | cons r rr =>
  rw[hs];refine assignInOrder_cons (aQ (h1 pins s σ H _ _ _ I r h) λ_ s1 ⟨σ1,H1,I1,q1⟩=>?_);exact h2 pins s1 σ1 H1 _ _ Q I1 rr q1
def kW(K:wa)(n:Nat)(t:kf):TG:=λv σ H Q=>∃a xs,v=.ref a/\aV K H a xs/\xs.length=n/\t xs σ H Q
theorem j_{es:List Expr}{k:Nat}{t:kf}{n:Nat}(hc:X.calm=true)(h:zU X es t)
  (hn:(assignEach es X.env).length=n:=by rfl) (hst:(assignEach es X.env).findIdx? (·.1)=none:=by rfl):PG X (.Tuple es k pos) (kW X.K n t):=by
 intro pins s σ H v u Q I r hw;obtain⟨a,xs,e1,hq,hl,hw⟩:=hw;subst e1;cases r;obtain⟨its,rv,ht,hz⟩:=I.tuple hq;refine assign_Tuple_tuple (I.ok.hd hc) ht (by simp[hn,<- hl,rv.length]) hst λh' hx=>?_
 have I1:Inv X pins σ H {s with heap:=h'}:=I.kept (t':=s.toks) λb o e=>hx b o (wT (wA e)) e
 exact h pins _ σ H xs _ Q I1 (by simpa using rv) hw
def KW(to ti:TE)(t:yO):TG:=λv σ H Q=>to σ H λo H1=>ti σ H1 λi H2=>t o i v H2 λH3=>Q σ H3
theorem ml{o i:Expr}{to ti:TE}{t:yO}(ho:PE X o to)(hi:PE X i ti)(hs:RO X t)
  (ha:∀v,assign (.Subscript o i pos) X.env v=(do
   let ov <- holding [v] (eval o X.env)
   let iv <- holding [v,ov] (eval i X.env)
   standAt pos
   holding [v,ov,iv] (setItem ov iv v)
   release [v,ov,iv] []):=by intro _;rfl):PG X (.Subscript o i pos) (KW to ti t):=by
 intro pins s σ H v u Q I r h;rw[ha];refine wg (WA (aQ (ho pins s σ H _ I h) λov s1 ⟨x,H1,I1,r1,q1⟩=>?_));refine wg (WA (aQ (hi pins s1 σ H1 _ I1 q1) λiv s2 ⟨y,H2,I2,r2,q2⟩=>?_));refine wg (wpAny_standAt (wg (WA (aQ (hs pins s2 σ H2 x y v ov iv u _ I2 r1 r2 r q2) λ_ s3 ⟨H3,I3,q3⟩=>?_))));exact wpAny_release ⟨σ,H3,I3,q3⟩
def lG(te:TE)(g:TG):TS:=λD σ H=>te σ H λx H1=>g x σ H1 D.nx
theorem kz{tg:Expr}{g:TG}(he:PE X e te)(hg:PG X tg g)(hs:swapsWithSole [tg] e pos.line X.env=pure false:=by rfl)(hw:swappedStores [tg] e X.env=pure none:=by rfl)
  (h1:(assignEach [tg] X.env).map (·.2)=[assign tg X.env]:=by rfl):PS X (.Assign [tg] e pos) (lG te g):=by
 intro pins s σ H D I h;refine wpAny_Assign_stores (aQ (he pins s σ H _ I h) λv s1 ⟨x,H1,I1,r1,q1⟩=>?_) hs hw;rw[h1];exact aQ (hg pins s1 σ H1 x v _ I1 r1 q1) λ_ s2 q=>q
theorem zCf(hN:X.N.Nodup)(hi:X.N[i]? = some x)(hx:Loc X.env.scope x)(he:PE X e te)(hs:swapsWith e (some (.Name x pos')) pos.line X.env=pure false:=by rfl)(hf:X.fn x=true\/X.env.scope.names.lookup x=some .local:=by first | exact .inl rfl | exact .inr rfl | assumption) :
  PS X (.Assign [.Name x pos'] e pos) (lG te (iZ i)):=by
 intro pins s σ H D I h;refine wpAny_Assign_Name (aQ (he pins s σ H _ I h) λv s1 ⟨y,H1,I1,r1,q1⟩=>?_) hs;exact oh I1 hN hi hx r1 (λs2 I2=>⟨_,H1,I2,q1⟩) hf
def RP(i j:Nat)(ta:TA):TS:=λD σ H=>ta σ H λvs H1=>∃v w,vs=[v,w]/\D.nx ((σ.set i (some v)).set j (some w)) H1
theorem Zj{j:Nat}{y:Str}{a b:Expr}{ta:TA}{px py pt:Pos}{kt k2 pt2}(hc:X.calm=true)(hN:X.N.Nodup)(hi:X.N[i]? = some x)(hj:X.N[j]? = some y)(hij:i≠j)
  (hx:X.env.scope.names.lookup x=some .local) (hy:X.env.scope.names.lookup y=some .local) (ha:PA X [a,b] ta)
  (hw:swappedStores [.Tuple [.Name x px,.Name y py] kt pt] (.Tuple [a,b] k2 pt2) X.env=pure (some [x,y]))
  (hs:swapsWithSole [.Tuple [.Name x px,.Name y py] kt pt] (.Tuple [a,b] k2 pt2) pos.line X.env=pure false:=by rfl) :
  PS X (.Assign [.Tuple [.Name x px,.Name y py] kt pt] (.Tuple [a,b] k2 pt2) pos) (RP i j ta):=by
 intro pins s σ H D I h;rw[exec_Assign_arm];refine wg (wpAny_standAt ?_);rw[hs];refine wg (wt ?_);rw[if_neg (by decide)];refine wg (Tuple_ (aQ (ha _ pins s σ H _ I h) λus s1 ⟨vs,H1,I1,r1,q1⟩=>?_));obtain⟨v,w,e1,q1⟩:=q1;subst e1
 obtain⟨u1,u2,rfl,rv,rw'⟩:∃u1 u2,us=[u1,u2]/\bE v u1/\bE w u2:=by
  cases r1 with
  | cons p q =>
   cases q with
   | cons p' q' =>
    cases q';exact⟨_,_,rfl,p,p'⟩
 refine WI ?_ (by show 2<=vc;decide);have I2:Inv X pins σ H1 {s1 with heap:=s1.heap.push {cls:=.type "tuple",data:=.seq [u1,u2].toArray}}:=I1.kept (t':=s1.toks) λb o e=>wn _ e
 rw[hw];refine wg (wt ?_)
 show wq (model X.prog X.w) X.A (do rule "assign.swapped-stores";let items <- unpackItems (.ref s1.heap.objs.size) 2 none;assignInOrder [λv=>bindName X.env y v,λv=>bindName X.env x v] items.reverse;pure Flow.next) _ _ _
 refine wg (wpAny_rule (wg (unpackItems_tuple (items:=#[u1,u2]) (I.ok.hd hc) (qU s1.heap _) λh' hx'=>?_)));have I3:=I2.kept (h':=h') (t':=s1.toks) λb o e=>hx' b o (wT (wA e)) e
 show wq _ _ (assignInOrder [λv=>bindName X.env y v,λv=>bindName X.env x v] [u2,u1] >>= λ_=>pure Flow.next) _ _ _
 refine wg (assignInOrder_cons (wpAny_bindName (oh I3 hN hj (.inl hy) rw' (λs2 I4=>?_) (.inr hy))));refine assignInOrder_cons (wpAny_bindName (oh I4 hN hi (.inl hx) rv (λs3 I5=>assignInOrder_nil (wt ?_)) (.inr hx)));rw[List.set_comm _ _ (Wt hij)]at I5;exact⟨_,H1,I5,q1⟩
def RM(i:Nat)(te:TE)(ti:sr):TS:=λD σ H=>∃x,σ[i]? = some (some x)/\te σ H λy H1=>ti x y H1 λz H2=>D.nx (σ.set i (some z)) H2
theorem zCh{op:Operator}{ti:sr}(hN:X.N.Nodup)(hi:X.N[i]? = some x)(hx:Loc X.env.scope x)(he:PE X e te)(ho:LK X op ti)(hf:X.fn x=true\/X.env.scope.names.lookup x=some .local:=by first | exact .inl rfl | exact .inr rfl | assumption) :
  PS X (.AugAssign (.Name x pos') op e pos) (RM i te ti):=by
 intro pins s σ H D I h;obtain⟨v,e1,h⟩:=h;obtain⟨m,hn,hl⟩:=I.loc;have CS:zR X.env.scope x:=by rcases hx with k | k;exact .inl k;exact .inr (.inl k)
 obtain⟨u,r,l⟩:=hl i x v hi e1 CS;refine wpAny_AugAssign_Name ?_
 have go:wq (model X.prog X.w) X.A (eval e X.env) (λw s₂=>wq (model X.prog X.w) X.A (inplaceOp op u w) (λr s₃=>wq (model X.prog X.w) X.A (storeName X.env x r) (λ_=>SP X pins D .next) X.xe s₃) X.xe s₂) X.xe s:=by
  refine aQ (he pins s σ H _ I h) λw s1 ⟨y,H1,I1,r1,q1⟩=>?_
  refine aQ (ho pins s1 σ H1 v y u w _ I1 r r1 q1) λz s2 ⟨zv,H2,I2,r2,q2⟩=>?_
  exact oh I2 hN hi hx r2 (λs3 I3=>⟨_,H2,I3,q2⟩) hf
 rcases l with⟨hk,hm⟩ | ⟨hk,c,hc,hcell⟩
 ·exact wpAny_loadName_local I.ok.kind hk hn hm go
 ·rcases hk with hk | hk
  ·exact wpAny_loadName_cell I.ok.kind hk hc hcell go
  ·rcases hx with k | k
   ·have:X.env.scope.names.lookup x=some .free:=hk
    rw[k]at this;cases this
   ·have:X.env.scope.names.lookup x=some .free:=hk
    rw[k]at this;cases this
def LU(f:Int->Int->Int):sr:=λx y H Q=>∃i j,x=.int i/\y=.int j/\Q (.int (f i j)) H
theorem zCm :LK X .Add (LU λi j=>i+j):=by
 intro pins s σ H x y v u Q I r1 r2 h;obtain⟨i,j,e1,e2,q⟩:=h;subst e1;subst e2;obtain⟨t,rfl⟩:=r1;obtain⟨t',rfl⟩:=r2;exact iadd_int ⟨.int _,H,I.tok _,⟨_,rfl⟩,q⟩
end
section
variable{X:Cx}{pos:Pos}
def DC(c:TT)(tb:TS):TS:=λD σ H=>∃W:Nat->St->Hp->Prop,(∃m,W m σ H) /\ ∀m σ H,W m σ H ->
 c σ H λb H1=>if b=true then ∃N:St->Hp->Prop,(∀σ' H',N σ' H'->∃m',m'<m/\W m' σ' H')/\tb {D with nx:=N,ct:=N,bk:=D.nx} σ H1 else D.nx σ H1
theorem iW{c:Expr}{body:List wZ}{tc:TT}{tb:TS}(hp:PassesOwn (model X.prog X.w) X.A X.env X.xe)(hc:PT X c tc)(hb:fD X body tb):PS X (.While c body [] pos) (DC tc tb):=by
 intro pins s σ H D I h;obtain⟨W,⟨m0,w0⟩,turn⟩:=h;refine wpAny_While (codeAny_whileLoop (λn s'=>∃σ' H',Inv X pins σ' H' s'/\W n σ' H') ?_ m0 ⟨σ,H,I,w0⟩);rintro n s1 ⟨σ1,H1,I1,w1⟩;refine Vr hp (aQ (hc pins s1 σ1 H1 _ I1 (turn n σ1 H1 w1)) λb s2 ⟨H2,I2,q2⟩=>?_);cases b with
 | true =>
  obtain⟨N,hN,q2⟩:=q2;rw[if_pos rfl];refine Vr hp (aQ (hb pins s2 σ1 H2 _ I2 q2) λf s3 q3=>?_);cases f with
  | next =>
   obtain⟨σ3,H3,I3,n3⟩:=q3;obtain⟨m',hm,w3⟩:=hN σ3 H3 n3;exact⟨m',hm,σ3,H3,I3,w3⟩
  | cont =>
   obtain⟨σ3,H3,I3,n3⟩:=q3;obtain⟨m',hm,w3⟩:=hN σ3 H3 n3;exact⟨m',hm,σ3,H3,I3,w3⟩
  | brk=>exact q3
  | ret v=>exact q3
 | false =>
  rw[if_neg vG];exact qq ⟨σ1,H2,I2,q2⟩
end
variable{tg:Expr}{P:wI}{w:wO}{K:wa}
structure It where
 go:Nat->Hp->Prop
 fC:Nat->Hp->V->Hp->Prop
 stop:Nat->Hp->Prop
def eP(X:Cx)(pins:List (we × Obj))(H:Hp)(b:we):Prop :=
 H b=none/\b≠X.env.locals/\b ∉ X.fs/\(b∈X.ex\/X.s₀.heap.objs.size<=b)/\(∀x c,X.env.cells.lookup x=some c->c≠b) /\ ∀p∈X.pn++pins,p.1≠b
theorem Inv.j5{X:Cx}{pins:List (we × Obj)}{σ : St}{H H':Hp}{s:wl}{b:we}(I:Inv X pins σ H s)(hb:s.heap.objs.size<=b)(hn:H' b=none):eP X pins H' b:=by
 refine⟨hn,vv (wU I.lt hb),I.Y9 hb,.inr (Wl I.sz hb),λx c e z=>?_,λp hp z=>?_⟩
 ·obtain⟨v,q⟩:=I.cell x c e
  exact absurd (wU q.lt (by rw[z];exact hb)) (W5 _)
 ·exact absurd (wU (wA (I.pin p hp).1) (by rw[z];exact hb)) (W5 _)
structure jF(P:wI)(w:wO)(K:wa)(tg:Expr)(J:It)(fp:List we)(it:we)(tn:Nat->wM->Prop):Prop where
 mem:it∈fp
 obj:∀i h,tn i h->∀b∈fp,∃o,h.get? b=some o /\ ∀v,o.data≠.cell v
 keep:∀i h h',tn i h->(∀b∈fp,∀o,h.get? b=some o->h'.get? b=some o)->tn i h'
 item:∀(X:Cx),X.prog=P->X.w=w->X.K=K->X.calm=true->∀(i:Nat)(pins:List (we × Obj))(s:wl)(σ : St)(H:Hp)(E:wf->wl->Prop),Inv X pins σ H s->(∀b∈fp,eP X pins H b)->tn i s.heap->J.go i H ->
   wq (model P w) X.A (pyNext (.ref it)) (λr s1=>∃u,r=some u /\
     wq (model P w) X.A (qr tg (.ref it) u) (λ_ s2=>∃x H',Inv X pins σ H' s2/\bE x u/\J.fC i H x H'/\tn (i+1) s2.heap /\ ∀b∈fp,H' b=none) E s1) E s
 done:∀(X:Cx),X.prog=P->X.w=w->X.K=K->X.calm=true->∀(i:Nat)(pins:List (we × Obj))(s:wl)(σ : St)(H:Hp)(E:wf->wl->Prop),Inv X pins σ H s->(∀b∈fp,eP X pins H b)->tn i s.heap->J.stop i H ->
   wq (model P w) X.A (pyNext (.ref it)) (λr s1=>r=none/\Inv X pins σ H s1) E s
 self:∀(A:w9)(i:Nat)(s:wl)(Q:wf->wl->Prop)(E:wf->wl->Prop),tn i s.heap->Q (.ref it) s->wq (model P w) A (pyIter (.ref it)) Q E s
abbrev TI:=St->Hp->(It->Hp->Prop)->Prop
def Dp(X:Cx)(pins:List (we × Obj))(σ : St)(tg:Expr)(R:It->Hp->Prop)(itv:wf)(s2:wl):Prop :=
 ∃(it:we)(fp:List we)(tn:Nat->wM->Prop)(J:It)(H':Hp),itv=.ref it/\Inv X pins σ H' s2/\jF X.prog X.w X.K tg J fp it tn/\tn 0 s2.heap/\(∀b∈fp,eP X pins H' b)/\R J H'
def PI(X:Cx)(tg iter:Expr)(wi:TI):Prop :=
 ∀(pins:List (we × Obj))(s:wl)(σ : St)(H:Hp)(R:It->Hp->Prop),Inv X pins σ H s->wi σ H R ->
  wq (model X.prog X.w) X.A (eval iter X.env) (λv s1=>wq (model X.prog X.w) X.A (pyIter v) (Dp X pins σ tg R) X.xe s1) X.xe s
theorem Dm{M:Model}{A:w9}{E:wf->wl->Prop}{s:wl}{it:we}{u:wf}{o:Obj}{n:String}{vs:Array wf}{Q:Unit->wl->Prop}(ho:s.heap.get? it=some o)(hc:o.cls=.type n)(hd:o.data=.fields vs)
   (hn:["enumerate","zip","dict_itemiterator","dict_reverseitemiterator","odict_iterator","itertools.zip_longest","itertools.pairwise"].contains n=false) (hQ:Q () s):wq M A (qr tg (.ref it) u) Q E s:=by
 unfold qr
 cases tg<;>first
   | exact wt hQ
   | (cases u<;>first
       | exact wt hQ
       | (refine wg (wpAny_load ho ?_)
          rw[hc,hd]
          show wq M A (if(["enumerate","zip","dict_itemiterator","dict_reverseitemiterator","odict_iterator","itertools.zip_longest","itertools.pairwise"].contains n&&vs[0]? == some (Vc _))=true then _ else _) Q E s
          rw[if_neg (by intro h;rw[hn,WX]at h;cases h)];exact wt hQ))
def jw(K:wa)(a:we):It :=
 ⟨λi H=>∃xs x,aG K H a xs/\xs[i]? = some x,λi H x H'=>H'=H /\ ∀xs,aG K H a xs->xs[i]? = some x,λi H=>∃xs,aG K H a xs/\xs.length<=i⟩
def ju(K:wa)(a:we):It :=
 ⟨λi H=>∃xs x,aV K H a xs/\xs[i]? = some x,λi H x H'=>H'=H /\ ∀xs,aV K H a xs->xs[i]? = some x,λi H=>∃xs,aV K H a xs/\xs.length<=i⟩
def gG(lo:Int)(n:Nat):It:=⟨λi _=>i<n,λi H x H'=>H'=H/\x=.int (lo+i),λi _=>n<=i⟩
theorem Po(a it:we):jF P w K tg (jw K a) [it] it (λi h=>h.IsListIter it a i) where
 mem:=by simp
 obj:=λi h st b hb=>by
  have e:b=it:=by simpa using hb
  subst e;obtain⟨o,e,c,d⟩:=st;exact⟨o,e,λv z=>by rw[d]at z;cases z⟩
 keep:=λi h h' st k=>st.at λo e=>k it (by simp) o e
 item:=by
  intro X hP hw hK hc i pins s σ H E I hf st hg;subst hP hw hK;obtain⟨xs,x,hq,hx⟩:=hg;obtain⟨its,rv,p,hz⟩:=I.list hq;obtain⟨u,hu,ru⟩:=rv.get hx;obtain⟨f0,f1,f2,f3,f4,f5⟩:=hf it (by simp);refine wpAny_pyNext_list_item st p.isList (x:=u) (by simpa using hu) λh' st' sb=>?_
  have I1:Inv X pins σ H {s with heap:=h'}:=I.turned (t':=s.toks) (λb o hb e=>(sb.2 b hb).trans e) f0 f1 f3 f4 f5;obtain⟨o,e,c,d⟩:=id st';exact⟨u,rfl,Dm (s:={s with heap:=h'}) e c d (by decide) ⟨x,H,I1,ru,⟨rfl,λys hy=>by rw[I.A8 hy hq];exact hx⟩,st',λb hb=>(hf b hb).1⟩⟩
 done:=by
  intro X hP hw hK hc i pins s σ H E I hf st hg;subst hP hw hK;obtain⟨xs,hq,hx⟩:=hg;obtain⟨its,rv,p,hz⟩:=I.list hq;obtain⟨f0,f1,f2,f3,f4,f5⟩:=hf it (by simp);have hl:=rv.length;exact wpAny_pyNext_list_end (I.ok.hd hc) st p.isList (by simp;lia) λh' eb=>⟨rfl,I.turned (t':=s.toks) (λb o hb e=>eb b o hb e) f0 f1 f3 f4 f5⟩
 self:=λ_ _ _ _ _ st h=>wpAny_pyIter_listiter st h
theorem Kw(a it:we):jF P w K tg (ju K a) [it] it (λi h=>h.IsTupleIter it a i) where
 mem:=by simp
 obj:=λi h st b hb=>by
  have e:b=it:=by simpa using hb
  subst e;obtain⟨o,e,c,d⟩:=st;exact⟨o,e,λv z=>by rw[d]at z;cases z⟩
 keep:=λi h h' st k=>st.at λo e=>k it (by simp) o e
 item:=by
  intro X hP hw hK hc i pins s σ H E I hf st hg;subst hP hw hK;obtain⟨xs,x,hq,hx⟩:=hg;obtain⟨its,rv,p,hz⟩:=I.tuple hq;obtain⟨u,hu,ru⟩:=rv.get hx;obtain⟨f0,f1,f2,f3,f4,f5⟩:=hf it (by simp);refine wpAny_pyNext_tuple_item st (show s.heap.IsTuple a its.toArray from p) (x:=u) (by simpa using hu) λh' st' sb=>?_
  have I1:Inv X pins σ H {s with heap:=h'}:=I.turned (t':=s.toks) (λb o hb e=>(sb.2 b hb).trans e) f0 f1 f3 f4 f5;obtain⟨o,e,c,d⟩:=id st';exact⟨u,rfl,Dm (s:={s with heap:=h'}) e c d (by decide) ⟨x,H,I1,ru,⟨rfl,λys hy=>by rw[I.A4 hy hq];exact hx⟩,st',λb hb=>(hf b hb).1⟩⟩
 done:=by
  intro X hP hw hK hc i pins s σ H E I hf st hg;subst hP hw hK;obtain⟨xs,hq,hx⟩:=hg;obtain⟨its,rv,p,hz⟩:=I.tuple hq;obtain⟨f0,f1,f2,f3,f4,f5⟩:=hf it (by simp);have hl:=rv.length;exact wpAny_pyNext_tuple_end (I.ok.hd hc) st (show s.heap.IsTuple a its.toArray from p) (by simp;lia) λh' eb=>⟨rfl,I.turned (t':=s.toks) (λb o hb e=>eb b o hb e) f0 f1 f3 f4 f5⟩
 self:=λ_ _ _ _ _ st h=>wpAny_pyIter_tupleiter st h
theorem zuV(it:we)(lo:Int)(n:Nat):jF P w K tg (gG lo n) [it] it (λi h=>IsRangeIter h it (lo+(i:Nat)*1) ((n:Int)-(i:Nat)) 1) where
 mem:=by simp
 obj:=λi h st b hb=>by
  have e:b=it:=by simpa using hb
  subst e
  exact⟨_,st,λv z=>by
   have z':Data.fields _=Data.cell v:=z;cases z'⟩
 keep:=λi h h' st k=>k it (by simp) _ st
 item:=by
  intro X hP hw hK hc i pins s σ H E I hf st hg;subst hP hw hK;obtain⟨f0,f1,f2,f3,f4,f5⟩:=hf it (by simp);have W:=Walks.range (prog:=X.prog) (w:=X.w) (I.ok.hd hc) it lo 1 n;refine W.item i s _ _ hg st λv h' tk hv st' kk=>?_
  obtain⟨t,rfl⟩:=hv;have I1:Inv X pins σ H {s with heap:=h',toks:=tk}:=I.turned (λb o hb e=>kk b o (by simpa using hb) e) f0 f1 f3 f4 f5;refine⟨_,rfl,Dm (s:={s with heap:=h',toks:=tk}) (n:="range_iterator") st' rfl rfl (by decide) ⟨.int (lo+i),H,I1,⟨t,?_⟩,⟨rfl,rfl⟩,st',λb hb=>(hf b hb).1⟩⟩;rw[Q7]
 done:=by
  intro X hP hw hK hc i pins s σ H E I hf st hg;subst hP hw hK;obtain⟨f0,f1,f2,f3,f4,f5⟩:=hf it (by simp);exact wpAny_pyNext_range_end (I.ok.hd hc) st (by have:n<=i:=hg;lia) λh' eb=>⟨rfl,I.turned (t':=s.toks) (λb o hb e=>eb b o hb e) f0 f1 f3 f4 f5⟩
 self:=λ_ _ _ _ _ st h=>wpAny_pyIter_rangeiter st h
section
variable{X:Cx}{tg:Expr}
variable{σ:St}{H:Hp}{fp:List we}
def EV(K:wa)(tl:TE):TI:=λσ H R=>tl σ H λx H1=>∃a,x=.ref a/\(∃xs,aG K H1 a xs)/\R (jw K a) H1
def LR(K:wa)(tl:TE):TI:=λσ H R=>tl σ H λx H1=>∃a,x=.ref a/\(∃xs,aV K H1 a xs)/\R (ju K a) H1
theorem fA{l:Expr}{tl:TE}(hl:PE X l tl):PI X tg l (EV X.K tl):=by
 intro pins s σ H R I h;refine aQ (hl pins s σ H _ I h) λv s1 ⟨x,H1,I1,r1,q1⟩=>?_
 obtain⟨a,e,⟨xs,hq⟩,q⟩:=q1;subst e;cases r1;obtain⟨its,rv,p,hz⟩:=I1.list hq;refine VZ p.isList ?_;refine⟨s1.heap.objs.size,[s1.heap.objs.size],_,_,H1,rfl,I1.kept (t':=s1.toks) λb o e=>wn _ e,Po a _,⟨_,wS _ rfl,rfl,rfl⟩,λb hb=>?_,q⟩;have e:b=s1.heap.objs.size:=by simpa using hb
 subst e;exact I1.j5 (wp _) (I1.aM.fresh (wp _))
theorem kb{l:Expr}{tl:TE}(hl:PE X l tl):PI X tg l (LR X.K tl):=by
 intro pins s σ H R I h;refine aQ (hl pins s σ H _ I h) λv s1 ⟨x,H1,I1,r1,q1⟩=>?_
 obtain⟨a,e,⟨xs,hq⟩,q⟩:=q1;subst e;cases r1;obtain⟨its,rv,p,hz⟩:=I1.tuple hq;refine Vp (show s1.heap.IsTuple a its.toArray from p) ?_;refine⟨s1.heap.objs.size,[s1.heap.objs.size],_,_,H1,rfl,I1.kept (t':=s1.toks) λb o e=>wn _ e,Kw a _,⟨_,wS _ rfl,rfl,rfl⟩,λb hb=>?_,q⟩;have e:b=s1.heap.objs.size:=by simpa using hb
 subst e;exact I1.j5 (wp _) (I1.aM.fresh (wp _))
theorem Mo{pins:List (we × Obj)}{s:wl}{R:It->Hp->Prop}{E:wf->wl->Prop}{lo hi:Int}{t u v:Tok}{tk:Nat}(I:Inv X pins σ H s)(h1 : -(2^62)<=lo)(h2:lo<2^62)(h3 : -(2^62)<=hi)(h4:hi<2^62)
  (q:R (gG lo (hi-lo).toNat) H):wq (model X.prog X.w) X.A (pyIter (.ref s.heap.objs.size)) (Dp X pins σ tg R) E {s with heap:=s.heap.push {cls:=.type "range",data:=.fields #[.int lo t,.int hi u,.int 1 v]},toks:=tk}:=by
 refine wpAny_pyIter_range (uJ ..) (small_one h1 h2 h3 h4) ?_;have I1:Inv X pins σ H {s with heap:=s.heap.push {cls:=.type "range",data:=.fields #[.int lo t,.int hi u,.int 1 v]},toks:=tk}:=I.kept λb o e=>wn _ e
 refine⟨(s.heap.push {cls:=.type "range",data:=.fields #[.int lo t,.int hi u,.int 1 v]}).objs.size,[(s.heap.push {cls:=.type "range",data:=.fields #[.int lo t,.int hi u,.int 1 v]}).objs.size],_,_,H,rfl,
  I1.kept (t':=tk) λb o e=>wn _ e,zuV _ lo (hi-lo).toNat,?_,λb hb=>?_,q⟩
 ·have e1:lo+((0:Nat):Int)*1=lo:=by simp
  have e2:(((hi-lo).toNat:Nat):Int)-((0:Nat):Int)=uI lo hi 1:=by rw[rangeSize_one];split<;>lia
  show IsRangeIter _ _ (lo+((0:Nat):Int)*1) ((((hi-lo).toNat:Nat):Int)-((0:Nat):Int)) 1
  rw[e1,e2];exact wS _ rfl
 ·have e:b=(s.heap.push {cls:=.type "range",data:=.fields #[.int lo t,.int hi u,.int 1 v]}).objs.size:=by simpa using hb
  subst e;exact I1.j5 (wp _) (I1.aM.fresh (wp _))
def DX(ta:TA):TI:=λσ H R=>ta σ H λvs H1=>∃j:Int,vs=[.int j] /\ -(2^62)<=j/\j<2^62/\R (gG 0 j.toNat) H1
def N4(ta:TA):TI:=λσ H R=>ta σ H λvs H1=>∃i j:Int,vs=[.int i,.int j]/\(-(2^62)<=i/\i<2^62 /\ -(2^62)<=j/\j<2^62)/\R (gG i (j-i).toNat) H1
theorem fK{a:Expr}{ta:TA}{p pos:Pos}(hg:Gl X "range")(hm:X.mg "range"=none)(ha:PA X [a] ta)(hs:vf [a] X.env=[(false,eval a X.env)]:=by rfl):PI X tg (.Call (.Name "range" p) [a] [] pos) (DX ta):=by
 intro pins s σ H R I h;refine Call_ (gW I hg hm boot_range (vC (aQ (ha pos pins s σ H _ I h) λus s1 ⟨vs,H1,I1,r1,q1⟩=>?_) hs rfl));obtain⟨j,e,q1,q2,q⟩:=q1;subst e;cases r1 with
 | cons r rr =>
  cases rr;obtain⟨t,rfl⟩:=r;exact call_range_1 (Mo I1 (by lia) (by lia) q1 q2 (by simpa using q))
theorem zwS{a b:Expr}{ta:TA}{p pos:Pos}(hg:Gl X "range")(hm:X.mg "range"=none)(ha:PA X [a,b] ta)(hs:vf [a,b] X.env=[(false,eval a X.env),(false,eval b X.env)]:=by rfl)(hs2:vf [b] X.env=[(false,eval b X.env)]:=by rfl) :
  PI X tg (.Call (.Name "range" p) [a,b] [] pos) (N4 ta):=by
 intro pins s σ H R I h;refine Call_ (gW I hg hm boot_range (vC (aQ (ha pos pins s σ H _ I h) λus s1 ⟨vs,H1,I1,r1,q1⟩=>?_) (by rw[hs,hs2]) (by rw[hs2];rfl)));obtain⟨i,j,e,⟨q1,q2,q3,q4⟩,q⟩:=q1;subst e;cases r1 with
 | cons r rr =>
  cases rr with
  | cons r' rr =>
   cases rr;obtain⟨t,rfl⟩:=r;obtain⟨t',rfl⟩:=r';exact call_range_2 (Mo I1 q1 q2 q3 q4 q)
def mv(wi:TI)(g:TG)(tb:TS):TS:=λD σ H=>wi σ H λJ H1=>∃W:Nat->Nat->St->Hp->Prop,(∃m,W 0 m σ H1) /\ ∀i m σ H,W i m σ H ->
 (J.stop i H/\D.nx σ H)\/(J.go i H /\ ∃N:St->Hp->Prop,(∀σ' H',N σ' H'->∃m',m'<m/\W (i+1) m' σ' H') /\ ∀x H',J.fC i H x H'->g x σ H' λσ2 H2=>tb {D with nx:=N,ct:=N,bk:=D.nx} σ2 H2)
def rq(fp:List we)(h:wM):List (we × Obj):=fp.filterMap λb=>(h.get? b).map λo=>(b,o)
theorem ya{h:wM}{b:we}{o:Obj}(hb:b∈fp)(e:h.get? b=some o):(b,o)∈rq fp h:=Qm.mpr ⟨b,hb,by rw[e];rfl⟩
theorem Z7{h:wM}{p:we × Obj}(hp:p∈rq fp h):p.1∈fp/\h.get? p.1=some p.2:=by
 obtain⟨b,hb,e⟩:=Qm.mp hp;cases q:h.get? b with
 | none=>rw[q]at e;cases e
 | some o =>
  rw[q]at e;have e':(b,o)=p:=w5 e;subst e';exact⟨hb,q⟩
theorem Inv.pinned{pins:List (we × Obj)}{s:wl}(I:Inv X pins σ H s)(hf:∀b∈fp,eP X pins H b)(ho:∀b∈fp,∃o,s.heap.get? b=some o /\ ∀v,o.data≠.cell v):Inv X (pins++rq fp s.heap) σ H s :=
 I.JQ λp hp=>(Wn.mp hp).elim (λz=>I.pin p (vR _ z)) λz=>by
  obtain⟨hb,e⟩:=Z7 z;obtain⟨f0,f1,f2,_⟩:=hf p.1 hb;obtain⟨o,e',d⟩:=ho p.1 hb;rw[e]at e';cases e';exact⟨e,f0,f1,f2,d⟩
theorem Inv.sR{pins pl:List (we × Obj)}{s:wl}(I:Inv X (pins++pl) σ H s):Inv X pins σ H s:=I.JQ λp hp=>I.pin p (vR _ (WM _ hp))
theorem fc{iter:Expr}{body:List wZ}{wi:TI}{g:TG}{tb:TS}{pos:Pos}(hp:PassesOwn (model X.prog X.w) X.A X.env X.xe)(hc:X.calm=true)(hi:PI X tg iter wi)(hg:PG X tg g)(hb:fD X body tb)
  (hs:∀x,foldedSetIterable iter X.env x=pure x:=by intro _;rfl):PS X (.For tg iter body [] pos) (mv wi g tb):=by
 intro pins s σ H D I h;refine wpAny_For (aQ (hi pins s σ H _ I h) λv s1 h1=>aQ h1 λitv s2 h2=>?_) hs;obtain⟨it,fp,tn,J,H2,e,I2,T,st2,f2,W,⟨m0,w0⟩,turn⟩:=h2;subst e
 have stat:∀{H':Hp},(∀b∈fp,H' b=none)->∀b∈fp,eP X pins H' b:=λhn b hb=>⟨hn b hb,(f2 b hb).2⟩
 refine codeAny_forLoop_any (λn s'=>∃i σ' H',Inv X pins σ' H' s'/\tn i s'.heap/\(∀b∈fp,H' b=none)/\W i n σ' H') ?_ m0 ⟨0,σ,H2,I2,st2,λb hb=>(f2 b hb).1,w0⟩;rintro n s3 ⟨i,σ3,H3,I3,st3,fr3,w3⟩;rcases turn i n σ3 H3 w3 with⟨stop,qn⟩ | ⟨go,N,hN,step⟩
 ·refine Vr hp (aQ (T.done X rfl rfl rfl hc i pins s3 σ3 H3 X.xe I3 (stat fr3) st3 stop) λr s4 ⟨hr,I4⟩=>?_)
  subst hr;exact qq ⟨σ3,H3,I4,qn⟩
 ·refine Vr hp (aQ (T.item X rfl rfl rfl hc i pins s3 σ3 H3 X.xe I3 (stat fr3) st3 go) λr s4 ⟨u,hr,h4⟩=>?_)
  subst hr;refine Vr hp (aQ h4 λ_ s5 ⟨x,H5,I5,r5,y5,st5,fr5⟩=>?_);have I5':=I5.pinned (stat fr5) (T.obj _ _ st5);refine Vr hp (aQ (hg _ s5 σ3 H5 x u _ I5' r5 (step x H5 y5)) λ_ s6 ⟨σ6,H6,I6,q6⟩=>?_);refine Vr hp (aQ (hb _ s6 σ6 H6 _ I6 q6) λf s7 q7=>?_)
  have again:∀{σ7:St}{H7:Hp},Inv X (pins++rq fp s5.heap) σ7 H7 s7->N σ7 H7->∃m,m<n /\ ∃i σ' H',Inv X pins σ' H' s7/\tn i s7.heap/\(∀b∈fp,H' b=none)/\W i m σ' H':=λ{σ7 H7} I7 n7=>by
   obtain⟨m',hm,w7⟩:=hN σ7 H7 n7;refine⟨m',hm,i+1,σ7,H7,I7.sR,T.keep _ _ _ st5 λb hb o e=>(I7.pin (b,o) (vR _ (vR _ (ya hb e)))).1,λb hb=>?_,w7⟩;obtain⟨o,e,d⟩:=T.obj _ _ st5 b hb;exact(I7.pin (b,o) (vR _ (vR _ (ya hb e)))).2.1
  cases f with
  | next=>obtain⟨σ7,H7,I7,n7⟩:=q7;exact again I7 n7
  | cont=>obtain⟨σ7,H7,I7,n7⟩:=q7;exact again I7 n7
  | brk=>obtain⟨σ7,H7,I7,q7⟩:=q7;exact⟨σ7,H7,I7.sR,q7⟩
  | ret v=>obtain⟨x7,σ7,H7,I7,r7,q7⟩:=q7;exact⟨x7,σ7,H7,I7.sR,r7,q7⟩
end
variable{tb:TS}{D:cN}{σ:St}{H:Hp}
theorem ZY{K:wa}{a:we}{xs:List V}{g:TG}(Pv:Nat->St->Hp->Prop)(h0:Pv 0 σ H)(hl:∀i σ H,i<=xs.length->Pv i σ H->aG K H a xs)
  (hs:∀i x σ H,xs[i]? = some x->Pv i σ H->g x σ H λσ2 H2=>tb {D with nx:=Pv (i+1),ct:=Pv (i+1),bk:=D.nx} σ2 H2) (hd:∀σ H,Pv xs.length σ H->D.nx σ H) :
  ∃W:Nat->Nat->St->Hp->Prop,(∃m,W 0 m σ H) /\ ∀i m σ H,W i m σ H ->
   ((jw K a).stop i H/\D.nx σ H)\/((jw K a).go i H /\ ∃N:St->Hp->Prop,(∀σ' H',N σ' H'->∃m',m'<m/\W (i+1) m' σ' H') /\ ∀x H',(jw K a).fC i H x H'->g x σ H' λσ2 H2=>tb {D with nx:=N,ct:=N,bk:=D.nx} σ2 H2):=by
 refine⟨λi m σ H=>m=xs.length-i/\i<=xs.length/\Pv i σ H,⟨xs.length,by simp,qi _,h0⟩,?_⟩;rintro i m σ H ⟨rfl,hi,p⟩;have q:=hl i σ H hi p
 by_cases hlt:i<xs.length
 ·refine .inr ⟨⟨xs,xs[i],q,by simp[hlt]⟩,Pv (i+1),λσ' H' p'=>⟨xs.length-(i+1),by lia,rfl,hlt,p'⟩,λx H' y=>?_⟩
  obtain⟨e,y⟩:=y;subst e;exact hs i x σ _ (y xs q) p
 ·have e:i=xs.length:=by lia
  subst e;exact .inl ⟨⟨xs,q,wp _⟩,hd σ H p⟩
theorem zA9{K:wa}{a:we}{xs:List V}{g:TG}(Pv:Nat->St->Hp->Prop)(h0:Pv 0 σ H)(hl:∀i σ H,i<=xs.length->Pv i σ H->aV K H a xs)
  (hs:∀i x σ H,xs[i]? = some x->Pv i σ H->g x σ H λσ2 H2=>tb {D with nx:=Pv (i+1),ct:=Pv (i+1),bk:=D.nx} σ2 H2) (hd:∀σ H,Pv xs.length σ H->D.nx σ H) :
  ∃W:Nat->Nat->St->Hp->Prop,(∃m,W 0 m σ H) /\ ∀i m σ H,W i m σ H ->
   ((ju K a).stop i H/\D.nx σ H)\/((ju K a).go i H /\ ∃N:St->Hp->Prop,(∀σ' H',N σ' H'->∃m',m'<m/\W (i+1) m' σ' H') /\ ∀x H',(ju K a).fC i H x H'->g x σ H' λσ2 H2=>tb {D with nx:=N,ct:=N,bk:=D.nx} σ2 H2):=by
 refine⟨λi m σ H=>m=xs.length-i/\i<=xs.length/\Pv i σ H,⟨xs.length,by simp,qi _,h0⟩,?_⟩;rintro i m σ H ⟨rfl,hi,p⟩;have q:=hl i σ H hi p
 by_cases hlt:i<xs.length
 ·refine .inr ⟨⟨xs,xs[i],q,by simp[hlt]⟩,Pv (i+1),λσ' H' p'=>⟨xs.length-(i+1),by lia,rfl,hlt,p'⟩,λx H' y=>?_⟩
  obtain⟨e,y⟩:=y;subst e;exact hs i x σ _ (y xs q) p
 ·have e:i=xs.length:=by lia
  subst e;exact .inl ⟨⟨xs,q,wp _⟩,hd σ H p⟩
theorem Mf{lo:Int}{n:Nat}{g:TG}(Pv:Nat->St->Hp->Prop)(h0:Pv 0 σ H)
  (hs:∀i σ H,i<n->Pv i σ H->g (.int (lo+i)) σ H λσ2 H2=>tb {D with nx:=Pv (i+1),ct:=Pv (i+1),bk:=D.nx} σ2 H2) (hd:∀σ H,Pv n σ H->D.nx σ H) :
  ∃W:Nat->Nat->St->Hp->Prop,(∃m,W 0 m σ H) /\ ∀i m σ H,W i m σ H ->
   ((gG lo n).stop i H/\D.nx σ H)\/((gG lo n).go i H /\ ∃N:St->Hp->Prop,(∀σ' H',N σ' H'->∃m',m'<m/\W (i+1) m' σ' H') /\ ∀x H',(gG lo n).fC i H x H'->g x σ H' λσ2 H2=>tb {D with nx:=N,ct:=N,bk:=D.nx} σ2 H2):=by
 refine⟨λi m σ H=>m=n-i/\i<=n/\Pv i σ H,⟨n,by simp,qi _,h0⟩,?_⟩;rintro i m σ H ⟨rfl,hi,p⟩
 by_cases hlt:i<n
 ·refine .inr ⟨hlt,Pv (i+1),λσ' H' p'=>⟨n-(i+1),by lia,rfl,hlt,p'⟩,λx H' y=>?_⟩
  obtain⟨e,y⟩:=y;subst e y;exact hs i σ _ hlt p
 ·have e:i=n:=by lia
  subst e;exact .inl ⟨wp _,hd σ H p⟩
abbrev R2:=V->V->Hp->VK->Prop
def aH(X:Cx)(f:wf->wf->Sem wf)(r:R2):Prop :=
 ∀(pins:List (we × Obj))(s:wl)(σ : St)(H:Hp)(x y:V)(v u:wf)(Q:VK),Inv X pins σ H s->bE x v->bE y u->r x y H Q ->
  wq (model X.prog X.w) X.A (f v u) (EP X pins σ Q) X.xe s
def FT(X:Cx)(f:wf->Sem wf)(r:V->Hp->VK->Prop):Prop :=
 ∀(pins:List (we × Obj))(s:wl)(σ : St)(H:Hp)(x:V)(v:wf)(Q:VK),Inv X pins σ H s->bE x v->r x H Q ->
  wq (model X.prog X.w) X.A (f v) (EP X pins σ Q) X.xe s
def aE(X:Cx)(f:wf)(r:List V->Hp->VK->Prop):Prop :=
 ∀(pins:List (we × Obj))(s:wl)(σ : St)(H:Hp)(xs:List V)(us:List wf)(Q:VK),Inv X pins σ H s->aT xs us->r xs H Q ->
  wq (model X.prog X.w) X.A (call f us) (EP X pins σ Q) X.xe s
def zEE(X:Cx)(r:V->Hp->(Bool->Hp->Prop)->Prop):Prop :=
 ∀(pins:List (we × Obj))(s:wl)(σ : St)(H:Hp)(x:V)(v:wf)(Q:Bool->Hp->Prop),Inv X pins σ H s->bE x v->r x H Q ->
  wq (model X.prog X.w) X.A (truthy v) (TP X pins σ Q) X.xe s
def lA(r:R2)(ta tb:TE):TE:=λσ H Q=>ta σ H λx H1=>tb σ H1 λy H2=>r x y H2 Q
def RU(r:V->Hp->VK->Prop)(ta:TE):TE:=λσ H Q=>ta σ H λx H1=>r x H1 Q
def rI(C:Int->Int->Prop)(g:Int->Int->V):R2:=λx y H Q=>∃i j,x=.int i/\y=.int j/\C i j/\Q (g i j) H
def i_(g:Int->Int->V):R2:=λx y H Q=>∃i j,x=.int i/\y=.int j/\Q (g i j) H
def rU(g:Int->V):V->Hp->VK->Prop:=λx H Q=>∃i,x=.int i/\Q (g i) H
section
variable{X:Cx}{a b c:Expr}{ta tb tc:TE}{pos:Pos}
theorem Eu(ha:PE X a ta)(hb:PE X b tb){pins:List (we × Obj)}{s:wl}{σ : St}{H:Hp}{R:V->V->Hp->Prop}(I:Inv X pins σ H s)
  (h:ta σ H λx H1=>tb σ H1 λy H2=>R x y H2) {Q:wf->wl->Prop} {f:wf->wf->Sem wf}
  (hf:∀v u s2 x y H2,Inv X pins σ H2 s2->bE x v->bE y u->R x y H2->wq (model X.prog X.w) X.A (f v u) Q X.xe s2) :
  wq (model X.prog X.w) X.A (eval a X.env) (λv s₁=>wq (model X.prog X.w) X.A (eval b X.env) (λu s₂=>wq (model X.prog X.w) X.A (f v u) Q X.xe s₂) X.xe s₁) X.xe s:=by
 refine aQ (ha pins s σ H _ I h) λv s1 ⟨x,H1,I1,r1,q1⟩=>?_
 refine aQ (hb pins s1 σ H1 _ I1 q1) λu s2 ⟨y,H2,I2,r2,q2⟩=>?_
 exact hf v u s2 x y H2 I2 r1 r2 q2
theorem aD{op:Operator}{r:R2}(ho:aH X (WG op) r)(ha:PE X a ta)(hb:PE X b tb):PE X (.BinOp a op b pos) (lA r ta tb):=by
 intro pins s σ H Q I h;exact wpAny_BinOp (Eu ha hb I h λv u s2 x y H2 I2 rx ry q=>ho pins s2 σ H2 x y v u Q I2 rx ry q)
theorem iD{op:UnaryOp}{r:V->Hp->VK->Prop}(ho:FT X (unaryOp op) r)(ha:PE X a ta):PE X (.UnaryOp op a pos) (RU r ta):=by
 intro pins s σ H Q I h;exact UnaryOp_ (aQ (ha pins s σ H _ I h) λv s1 ⟨x,H1,I1,r1,q1⟩=>ho pins s1 σ H1 x v Q I1 r1 q1)
theorem yJ{f:wf->wf->Sem wf}{C:Int->Int->Prop}{g:Int->Int->Int}
  (rule:∀(i j:Int)(t u:Tok)(s:wl)(Q:wf->wl->Prop)(E:wf->wl->Prop),C i j->Q (.int (g i j) s.toks) {s with toks:=s.toks+1}->wq (model X.prog X.w) X.A (f (.int i t) (.int j u)) Q E s) :
  aH X f (rI C λi j=>.int (g i j)):=by
 intro pins s σ H x y v u Q I rx ry h;obtain⟨i,j,rfl,rfl,hc,q⟩:=h;obtain⟨t,rfl⟩:=rx;obtain⟨t',rfl⟩:=ry;exact rule i j t t' s _ _ hc ⟨.int (g i j),H,I.tok _,⟨_,rfl⟩,q⟩
theorem MI{f:wf->wf->Sem wf}{g:Int->Int->Int}
  (rule:∀(i j:Int)(t u:Tok)(s:wl)(Q:wf->wl->Prop)(E:wf->wl->Prop),Q (.int (g i j) s.toks) {s with toks:=s.toks+1}->wq (model X.prog X.w) X.A (f (.int i t) (.int j u)) Q E s) :
  aH X f (i_ λi j=>.int (g i j)):=by
 intro pins s σ H x y v u Q I rx ry h;obtain⟨i,j,rfl,rfl,q⟩:=h;obtain⟨t,rfl⟩:=rx;obtain⟨t',rfl⟩:=ry;exact rule i j t t' s _ _ ⟨.int (g i j),H,I.tok _,⟨_,rfl⟩,q⟩
theorem yK{f:wf->wf->Sem wf}{g:Int->Int->Bool}
  (rule:∀(i j:Int)(t u:Tok)(s:wl)(Q:wf->wl->Prop)(E:wf->wl->Prop),Q (.bool (g i j)) s->wq (model X.prog X.w) X.A (f (.int i t) (.int j u)) Q E s) :
  aH X f (i_ λi j=>.bl (g i j)):=by
 intro pins s σ H x y v u Q I rx ry h;obtain⟨i,j,rfl,rfl,q⟩:=h;obtain⟨t,rfl⟩:=rx;obtain⟨t',rfl⟩:=ry;exact rule i j t t' s _ _ ⟨.bl (g i j),H,I,rfl,q⟩
def KS(i j:Int):Prop:=0<=j/\j<=1000000/\i.natAbs<2^64
theorem zDp:aH X (WG .Add) (i_ λi j=>.int (i+j)):=MI λ_ _ _ _ _ _ _ q=>add_int q
theorem iY:aH X (WG .Sub) (i_ λi j=>.int (i-j)):=MI λ_ _ _ _ _ _ _ q=>sub_int q
theorem gL:aH X (WG .Mod) (rI (λ_ j=>0<j) λi j=>.int (i % j)):=yJ λi j _ _ _ _ _ hc q=>by
 have h1:(0:Int)<j:=hc;exact mod_int' (by lia) (by rw[Int.fmod_eq_emod_of_nonneg i (by lia)];exact q)
theorem Z4:aH X (WG .Pow) (rI KS λi j=>.int (i^j.toNat)):=yJ λ_ _ _ _ _ _ _ hc q=>pow_int_small hc.1 hc.2.1 hc.2.2 q
theorem unI{f:wf->Sem wf}{g:Int->Int}
  (rule:∀(i:Int)(t:Tok)(s:wl)(Q:wf->wl->Prop)(E:wf->wl->Prop),Q (.int (g i) s.toks) {s with toks:=s.toks+1}->wq (model X.prog X.w) X.A (f (.int i t)) Q E s) :
  FT X f (rU λi=>.int (g i)):=by
 intro pins s σ H x v Q I rx h;obtain⟨i,rfl,q⟩:=h;obtain⟨t,rfl⟩:=rx;exact rule i t s _ _ ⟨.int (g i),H,I.tok _,⟨_,rfl⟩,q⟩
theorem ic:FT X (unaryOp .USub) (rU λi=>.int (-i)):=unI λ_ _ _ _ _ q=>neg_int q
end
section
variable{X:Cx}{a b c:Expr}{ta tb tc:TE}{pos:Pos}
variable{r:R2}{op:CmpOp}
theorem Mr{pins:List (we × Obj)}{σ : St}{H:Hp}{s:wl}{Q:VK}{k k':Bool}(I:Inv X pins σ H s)(q:Q (.bl k) H)(e:k=k'):EP X pins σ Q (.bool k') s:=by
 subst e;exact⟨.bl k,H,I,rfl,q⟩
theorem ku :aH X (wH .Lt) (i_ λi j=>.bl (decide (i<j))):=yK λ_ _ _ _ _ _ _ q=>lt_int q
theorem sh :aH X (wH .LtE) (i_ λi j=>.bl (decide (i<=j))):=yK λ_ _ _ _ _ _ _ q=>le_int q
theorem nJ :aH X (wH .Gt) (i_ λi j=>.bl (decide (j<i))):=yK λ_ _ _ _ _ _ _ q=>gt_int q
theorem ye :aH X (wH .GtE) (i_ λi j=>.bl (decide (j<=i))):=yK λ_ _ _ _ _ _ _ q=>ge_int q
theorem zC5 :aH X (wH .Is) (λx y H Q=>y=.bY/\Q (.bl (decide (x=.bY))) H):=by
 intro pins s σ H x y v u Q I rx ry h;obtain⟨rfl,q⟩:=h;cases ry;refine is_none_gen (Mr I q ?_)
 cases x<;>first
  | (cases rx;rfl)
  | (obtain⟨t,rfl⟩:=rx;rfl)
theorem aH.or{f:wf->wf->Sem wf}{r':R2}(h:aH X f r)(h':aH X f r'):aH X f (λx y H Q=>r x y H Q\/r' x y H Q):=by
 intro pins s σ H x y v u Q I rx ry q;rcases q with q | q
 ·exact h pins s σ H x y v u Q I rx ry q
 ·exact h' pins s σ H x y v u Q I rx ry q
theorem aU(b:Expr)(h:op≠.In:=by decide)(h2:op≠.NotIn:=by decide):behindInMarks op b=false:=by
 have e1:(op == CmpOp.In)=false:=by cases op<;>first | rfl | exact absurd rfl h
 have e2:(op == CmpOp.NotIn)=false:=by cases op<;>first | rfl | exact absurd rfl h2
 cases b<;>simp[behindInMarks,e1,e2]
theorem eK(ho:aH X (wH op) r)(ha:PE X a ta)(hb:PE X b tb)(hm:behindInMarks op b=false):PE X (.Compare a [op] [b] pos) (lA r ta tb):=by
 intro pins s σ H Q I h;exact wpAny_Compare1 (Eu ha hb I h λv u s2 x y H2 I2 rx ry q=>ho pins s2 σ H2 x y v u Q I2 rx ry q) hm
def Ao(t:TE):TT:=λσ H Q=>t σ H λx H'=>∃k,x=.bl k/\Q k H'
theorem bD(ho:aH X (wH op) r)(ha:PE X a ta)(hb:PE X b tb)(hm:behindInMarks op b=false):PT X (.Compare a [op] [b] pos) (Ao (lA r ta tb)):=by
 intro pins s σ H Q I h
 refine wpAny_isTrue_Compare1 (aQ (ha pins s σ H _ I h) λv s1 ⟨x,H1,I1,r1,q1⟩=>aQ (hb pins s1 σ H1 _ I1 q1) λu s2 ⟨y,H2,I2,r2,q2⟩ =>
  aQ (ho pins s2 σ H2 x y v u _ I2 r1 r2 q2) λc s3 ⟨z,H3,I3,r3,k,e,q3⟩=>?_) hm
 subst e;cases r3;exact Wz ⟨H3,I3,q3⟩
def RS(r r':R2)(ta tb tc:TE):TE:=λσ H Q=>ta σ H λx H1=>tb σ H1 λy H2=>r x y H2 λz H3=>∃k,z=.bl k /\
 (if k=true then tc σ H3 λw' H4=>r' y w' H4 Q else Q (.bl false) H3)
theorem zyx{op':CmpOp}{r':R2}(ho:aH X (wH op) r)(ho':aH X (wH op') r')(ha:PE X a ta)(hb:PE X b tb)(hc:PE X c tc)
  (hm:lastMarks [op,op'] [b,c]=false:=by with_unfolding_all rfl):PT X (.Compare a [op,op'] [b,c] pos) (Ao (RS r r' ta tb tc)):=by
 intro pins s σ H Q I h
 refine isTrue_chain (aQ (ha pins s σ H _ I h) λv s1 ⟨x,H1,I1,r1,q1⟩=>test_link (aQ (hb pins s1 σ H1 _ I1 q1) λu s2 ⟨y,H2,I2,r2,q2⟩ =>
  aQ (ho pins s2 σ H2 x y v u _ I2 r1 r2 q2) λd s3 ⟨z,H3,I3,r3,k,e,q3⟩=>?_)) hm
 subst e;cases r3;refine Wz ?_;cases k with
 | false =>
  obtain⟨k',e',q'⟩:=q3;cases e';exact ite_ff ⟨H3,I3,q'⟩
 | true =>
  refine ite_tt (test_last (aQ (hc pins s3 σ H3 _ I3 q3) λw' s4 ⟨z',H4,I4,r4,q4⟩=>aQ (ho' pins s4 σ H4 y z' u w' _ I4 r2 r4 q4) λd' s5 ⟨z2,H5,I5,r5,k2,e2,q5⟩=>?_));subst e2;cases r5;exact Wz ⟨H5,I5,q5⟩
def DL(K:wa)(x:V)(H:Hp)(k:Bool):Prop :=
 match x with
 | .bY=>k=false
 | .bl b=>k=b
 | .int i=>k=(i != 0)
 | .str y=>y.length<=vc/\k=((y.length:Int) != 0)
 | .byt y=>y.size<=vc/\k=((y.size:Int) != 0)
 | .ref p=>(∃xs,aG K H p xs/\k = !xs.isEmpty)\/(∃xs,aV K H p xs/\k = !xs.isEmpty) \/ ∃kvs,H p=some (.dK kvs)/\k = !kvs.isEmpty
 | _=>False
theorem zuQ{κ : Type}{kvs:List (κ × V)}{vs:List (κ × wf)}(r:KV kvs vs):(!vs.isEmpty) = !kvs.isEmpty:=by
 cases r<;>rfl
theorem MF{xs:List V}{its:List wf}(r:aT xs its):(!its.toArray.isEmpty) = !xs.isEmpty:=by
 cases r<;>simp
theorem nT :(vc:Nat)<2^63:=by rw[sizeLine_eq];decide
theorem zCo :zEE X (λx H Q=>∃k,DL X.K x H k/\Q k H):=by
 intro pins s σ H x v Q I rx h;obtain⟨k,e,q⟩:=h;have hl:=nT;have hs:vc=16777216:=sizeLine_eq;cases x with
 | bY =>
  cases rx;have e':k=false:=e;subst e';exact truthy_none ⟨H,I,q⟩
 | bl b =>
  cases rx;have e':k=b:=e;subst e';exact Wz ⟨H,I,q⟩
 | int i =>
  obtain⟨t,rfl⟩:=rx;have e':k=(i != 0):=e;subst e';exact PySem.P.truthy_int ⟨H,I,q⟩
 | str y =>
  obtain⟨t,rfl⟩:=rx;obtain⟨hy,e'⟩:y.length<=vc/\k=((y.length:Int) != 0):=e;subst e';exact PySem.P.truthy_str (by lia) ⟨H,I.tok _,q⟩
 | byt y =>
  obtain⟨t,rfl⟩:=rx;obtain⟨hy,e'⟩:y.size<=vc/\k=((y.size:Int) != 0):=e;subst e';exact PySem.W.truthy_bytes (by lia) ⟨H,I.tok _,q⟩
 | ref p =>
  cases rx;have e':(∃xs,aG X.K H p xs/\k = !xs.isEmpty)\/(∃xs,aV X.K H p xs/\k = !xs.isEmpty) \/ ∃kvs,H p=some (.dK kvs)/\k = !kvs.isEmpty:=e;rcases e' with⟨xs,hx,e'⟩ | ⟨xs,hx,e'⟩ | ⟨kvs,hx,e'⟩
  ·subst e'
   obtain⟨its,r,pl,hz⟩:=I.list hx;have hlen:=r.length;exact wpAny_truthy_list pl.isList (by simp only[wN];lia) ⟨H,I.tok _,by rw[MF r];exact q⟩
  ·subst e'
   obtain⟨its,r,pl,hz⟩:=I.tuple hx;have hlen:=r.length;exact truthy_tuple pl (by simp only[wN];lia) ⟨H,I.tok _,by rw[MF r];exact q⟩
  ·subst e'
   obtain⟨hz,hS,vs,r,m⟩:kvs.length<=vc/\(p == sysModules)=false /\ ∃vs,KV kvs vs/\s.heap.DictOf (Ck X.prog X.w) p vs:=I.aM p _ hx;have hlen:kvs.length=vs.length:=uu r;exact wpAny_truthy_dict hS m (by lia) ⟨H,I.tok _,by rw[zuQ r];exact q⟩
 | _=>exact(show False from e).elim
theorem zxT(ha:PE X a ta)(he:∀whole,isTrue a X.env whole=(do let v <- whole;standAt a.pos;holding [v] (truthy v))) :
  PT X a (λσ H Q=>ta σ H λx H'=>∃k,DL X.K x H' k/\Q k H'):=by
 intro pins s σ H Q I h;exact isTrue_plain (aQ (ha pins s σ H _ I h) λv s1 ⟨x,H1,I1,r1,q1⟩=>zCo pins s1 σ H1 x v Q I1 r1 q1) (he _)
theorem zum :aH X (WG .Add) (λx y H Q=>∃i j,x=.str i/\y=.str j/\i.length+j.length<=vc/\Q (.str (i++j)) H):=by
 intro pins s σ H x y v u Q I rx ry h;obtain⟨i,j,rfl,rfl,hz,q⟩:=h;obtain⟨t,rfl⟩:=rx;obtain⟨t',rfl⟩:=ry;exact add_str (λt' tk=>⟨.str (i++j),H,I.tok _,⟨_,rfl⟩,q⟩) hz
theorem jg{x:V}{us:List wf}(r:aT [x] us):∃u,us=[u]/\bE x u:=by
 cases r with
 | cons r1 r2=>cases r2;exact⟨_,rfl,r1⟩
theorem jI{x y:V}{us:List wf}(r:aT [x,y] us):∃u w',us=[u,w']/\bE x u/\bE y w':=by
 cases r with
 | cons r1 r2 =>
  cases r2 with
  | cons r3 r4=>cases r4;exact⟨_,_,rfl,r1,r3⟩
theorem zye :aE X (.builtin "abs") (λxs H Q=>∃i,xs=[.int i]/\Q (.int (if i<0 then -i else i)) H):=by
 intro pins s σ H xs us Q I r h;obtain⟨i,rfl,q⟩:=h;obtain⟨u,rfl,t,rfl⟩:=jg r;exact call_abs_int λu tk=>⟨.int (if i<0 then -i else i),H,I.tok _,⟨_,rfl⟩,q⟩
theorem zwT(hc:X.calm=true):aE X (.builtin "min") (λxs H Q=>∃i j,xs=[.int i,.int j]/\Q (.int (if j<i then j else i)) H):=by
 intro pins s σ H xs us Q I r h;obtain⟨i,j,rfl,q⟩:=h;obtain⟨u,w',rfl,⟨t,rfl⟩,⟨t',rfl⟩⟩:=jI r;refine min_two_ints (I.ok.hd hc) λh' tk k=>⟨_,H,I.kept k,?_,q⟩
 by_cases hj:j<i
 ·rw[if_pos hj,if_pos hj];exact⟨_,rfl⟩
 ·rw[if_neg hj,if_neg hj];exact⟨_,rfl⟩
end
section
variable{prog:wI}{w:wO}{A:w9}{E:wf->wl->Prop}{s:wl}{K:wa}{x dx C f:we}{mA:Str->Option wf}{name:Str}{v:wf}
end
section
variable{P:wI}{w:wO}{H H':Hp}{h h':wM}{a C dx:we}{fs fs':List (Str × V)}
end
section
variable{X:Cx}{pins:List (we × Obj)}{σ : St}{H:Hp}{s:wl}{a C dx:we}{fs:List (Str × V)}{f:Str}{v:V}{A:w9}{E:wf->wl->Prop}
end
section
variable{X:Cx}{o e value:Expr}{f:Str}{pos pos' tpos:Pos}{ta tv:TE}
end
section
variable{X:Cx}{pins:List (we × Obj)}{σ : St}{H:Hp}{s:wl}{A:w9}{E:wf->wl->Prop}{Q:wf->wl->Prop}{c:wf}{b:Bool}
end
variable{k:Nat}{A:w9}
structure eF(k:Nat)(A:w9):Prop where
 hd:A.handled=none
 dp:A.depth+3*k+5<recursionLimit
 un:A.units+16*k+200<WN
 gd:A.guards=some []
theorem eF.mono{j:Nat}(r:eF k A)(h:j<=k):eF j A:=⟨r.hd,by have:=r.dp;lia,by have:=r.un;lia,by first | exact r.gd | (simp[uF,Code.guards,uG,guardIds];exact r.gd)⟩
theorem eF.deeper(r:eF (k+1) A)(env:Env):eF k (A.deeper env) :=
 ⟨r.hd,by have:=r.dp;show A.depth+1+3*k+5<_;lia,by have:=r.un;show A.units+3+16*k+200<_;lia,by first | exact r.gd | (simp[uF,Code.guards,uG,guardIds];exact r.gd)⟩
theorem eF.depth(r:eF k A):A.depth<recursionLimit:=by have:=r.dp;lia
theorem eF.units(r:eF k A):A.units+64<WN:=by have:=r.un;lia
def og:TA:=λ_ H Q=>Q [] H
def oI(ta:TE)(tr:TA):TA:=λσ H Q=>ta σ H λx H1=>tr σ H1 λxs H2=>Q (x::xs) H2
section
variable{X:Cx}{e:Expr}{es:List Expr}{te:TE}{t:TA}{pos:Pos}
theorem af:PA X [] og:=λ_ _ _ _ H Q I h=>Qy ⟨[],H,I,.nil,h⟩
theorem ae(ha:PE X e te)(hr:PA X es t)(hs:vf (e::es) X.env=(false,eval e X.env)::vf es X.env:=by rfl):PA X (e::es) (oI te t):=by
 intro pos pins s σ H Q I h;rw[hs]
 show wq _ _ (spliced ((false,eval e X.env)::backTo pos (vf es X.env))) _ _ s
 refine Qn (aQ (ha pins s σ H _ I h) λu s1 ⟨x,H1,I1,r1,q1⟩=>?_);exact aQ (hr pos pins s1 σ H1 _ I1 q1) λus s2 ⟨xs,H2,I2,r2,q2⟩=>⟨x::xs,H2,I2,.cons r1 r2,q2⟩
def zEz(t:TA):TE:=λσ H Q=>t σ H λxs H1=>xs.length<=vc /\ ∀p,H1 p=none->Q (.ref p) (upd H1 p (.tup xs))
def zEv(t:TA):TE:=λσ H Q=>t σ H λxs H1=>xs.length<=vc /\ ∀p,H1 p=none->Q (.ref p) (upd H1 p (.lst xs))
theorem ZE{x1}(h:PA X es t):PE X (.Tuple es x1 pos) (zEz t):=by
 intro pins s σ H Q I hq;refine wpAny_Tuple_spliced (aQ (h pos pins s σ H _ I hq) λus s1 ⟨xs,H1,I1,r,z,q⟩=>⟨by rw[<- r.length];exact z,?_⟩);have hf:H1 s1.heap.objs.size=none:=I1.aM.fresh (wp _);refine⟨.ref s1.heap.objs.size,upd H1 s1.heap.objs.size (.tup xs),I1.laid (t':=s1.toks) (λb u e=>wn _ e) (wp _) ?_,rfl,q _ hf⟩;exact⟨z,us,r,⟨_,wS _ rfl,rfl,_,rfl⟩⟩
theorem zDi(h:PA X es t):PE X (.List es pos) (zEv t):=by
 intro pins s σ H Q I hq;refine wpAny_List_spliced (aQ (h pos pins s σ H _ I hq) λus s1 ⟨xs,H1,I1,r,z,q⟩=>⟨by rw[<- r.length];exact z,?_⟩);have hf:H1 s1.heap.objs.size=none:=I1.aM.fresh (wp _);refine⟨.ref s1.heap.objs.size,upd H1 s1.heap.objs.size (.lst xs),I1.laid (t':=s1.toks) (λb u e=>wn _ e) (wp _) ?_,rfl,q _ hf⟩;exact⟨z,us,0,r,wS _ rfl⟩
end
abbrev Sp:=List V->Hp->VK->XK->Prop
abbrev fW:=List Env->Hp->wl->XK->wf->wl->Prop
structure z8(P:wI)(w:wO)(K:wa)(mg:Str->Option wf)(base:wM)(A:w9)(outer:List Env)(s:wl)(H:Hp):Prop where
 frames:A.frames=some outer
 mod:Mod K mg base
 bs:∀b o,base.get? b=some o->s.heap.get? b=some o/\H b=none
 jl:base.objs.size<=s.heap.objs.size
 fi:s.heap.FunFrames base outer
 jt:∀b∈dB outer,H b=none
 aM:dE P w H s.heap
 bare:AllBare s.gens
def CE(outer:List Env)(P:wI)(w:wO)(H:Hp)(s:wl)(Q:VK)(u:wf)(s':wl):Prop :=
 ∃v H',s'.os=s.os/\AllBare s'.gens/\Un (dB outer) [] H H' s.heap s'.heap/\dE P w H' s'.heap/\bE v u/\Q v H'
def CR(CX:fW)(outer:List Env)(P:wI)(w:wO)(H:Hp)(s:wl)(Q:VK)(E:XK)(r:Result)(s':wl):Prop :=
 match r with
 | .ok (.ret u)=>CE outer P w H s Q u s'
 | .ok _=>False
 | .error e=>CX outer H s E e s'
structure aK(P:wI)(w:wO)(K:wa)(mg:Str->Option wf)(base:wM)(CX:fW)(k:Nat)(f:we)(fd:wy)(ps:List Str)(sp:Sp):Prop where
 len:∀vs H Q E,sp vs H Q E->vs.length=ps.length
 run:∀(A:w9)(outer:List Env)(s:wl)(H:Hp)(args:Args)(us:List wf)(vs:List V)(Q:VK)(E:XK),eF k A->z8 P w K mg base A outer s H->BindsTo s fd args (ps.zip us)->aT vs us->sp vs H Q E ->
   codeAny (model P w) A (.call (.ref f) args) (CR CX outer P w H s Q E) s
section
variable{X:Cx}{pins:List (we × Obj)}{σ : St}{H:Hp}{s s':wl}
theorem Inv.Ki(I:Inv X pins σ H s):z8 X.prog X.w X.K X.mg X.base X.A X.stack s H :=
 ⟨I.ok.frames,I.ok.mod,I.bs,Wl I.ok.jl I.sz,I.stack,I.sU,I.aM,I.bare⟩
theorem Inv.after{Q:VK}{u:wf}(I:Inv X pins σ H s)(h:CE X.stack X.prog X.w H s Q u s'):EP X pins σ Q u s':=by
 obtain⟨v,H',os,bare,un,aM,r,q⟩:=h;obtain⟨hh,g,d,t,os'⟩:=s';obtain rfl:os'=s.os:=os;exact⟨v,H',I.call (h':=hh) (g':=g) (d':=d) (t':=t) (ch:=[]) un aM bare (λb z=>absurd z (by simp)),r,q⟩
end
def rL(sp:Sp)(dvs:List V)(E:XK)(t:TA):TE:=λσ H Q=>t σ H λvs H1=>sp (vs++dvs) H1 Q E
def ma(K:wa)(fd:wy)(ps:List Str)(ds:List wf):Prop :=
 ∀(s:wl)(us:List wf),K.In s.heap->(us++ds).length=ps.length->BindsTo s fd ⟨us,[]⟩ (ps.zip (us++ds))
theorem ma.all{K:wa}{fd:wy}{ps:List Str}(h:∀us:List wf,us.length=ps.length->bindArgs fd ⟨us,[]⟩=pure (ps.zip us)):ma K fd ps []:=λs us _ hl=>by
 rw[vM]at hl ⊢;exact .of_eq (h us hl)
def nE(CX:fW)(X:Cx)(E:XK):Prop:=∀(pins:List (we × Obj))(σ : St)(H:Hp)(s:wl)(e:wf)(s':wl),Inv X pins σ H s->CX X.stack H s E e s'->X.xe e s'
section
variable{X:Cx}{CX:fW}{k:Nat}{f C:we}{fd:wy}{ps:List Str}{sp:Sp}{dvs:List V}{ds:List wf}{E:XK}{x m:Str}{p pos apos:Pos}{e o:Expr}{es:List Expr}{ta:TE}{t:TA}
theorem zCX{pins:List (we × Obj)}{σ : St}{H:Hp}{s:wl}{Q:VK}{us:List wf}{vs:List V}(F:aK X.prog X.w X.K X.mg X.base CX k f fd ps sp)(hr:eF k X.A)(hb:ma X.K fd ps ds)(hd:aT dvs ds)(hx:nE CX X E)
  (I:Inv X pins σ H s) (r:aT vs us) (h:sp (vs++dvs) H Q E):wq (model X.prog X.w) X.A (call (.ref f) us) (EP X pins σ Q) X.xe s:=by
 have r2:aT (vs++dvs) (us++ds):=r.append hd;have hl:(us++ds).length=ps.length:=by rw[<- r2.length];exact F.len _ _ _ _ h
 refine wpAny_call (codeAny_mono (F.run X.A X.stack s H ⟨us,[]⟩ (us++ds) (vs++dvs) Q E hr I.Ki (hb s us I.dG hl) r2 h) λr s' hq=>?_);cases r with
 | error e=>exact hx pins σ H s e s' I hq
 | ok fl =>
  cases fl with
  | ret u=>exact I.after hq
  | next=>exact WT hq
  | brk=>exact WT hq
  | cont=>exact WT hq
theorem KU(F:aK X.prog X.w X.K X.mg X.base CX k f fd ps sp)(hr:eF k X.A)(hg:Gl X x)(hm:X.mg x=some (.ref f))(hk:qE X.K (.ref f)=true)(hb:ma X.K fd ps ds)(hd:aT dvs ds)(hx:nE CX X E)
  (ha:PA X (e::es) t) (hdb:(x == ("__debug__" : Str))=false:=by decide) (he:vf (e::es) X.env=(false,eval e X.env)::vf es X.env:=by rfl) (hpl:(backTo pos (vf es X.env)).any (·.1)=false:=by rfl) :
  PE X (.Call (.Name x p) (e::es) [] pos) (rL sp dvs E t):=by
 intro pins s σ H Q I h;refine qD (p8 I hg hm ?_ hdb);refine xW (h₀:=X.base) I.ok.mod.rS hk (aQ (ha pos pins s σ H _ I h) λus s1 ⟨vs,H1,I1,r,q⟩=>⟨I1.dG,?_⟩) he hpl;exact zCX F hr hb hd hx I1 r q
end
section
variable{X:Cx}{CX:fW}{k:Nat}{f C:we}{fd:wy}{ps ks:List Str}{sp:Sp}{E:XK}{x m:Str}{p pos apos kpos:Pos}{e o:Expr}{es:List Expr}{kws:List Keyword}{te ta:TE}{t tk:TA}{nm:Option Str}
variable{g:List wf->List wf->List wf}{gV:List V->List V->List V}
end
variable{base:wM}{qual:Str}
structure aP(N P:List Str)(sc:Scope):Prop where
 kind:sc.kind=.function
 co:sc.isCoroutine=false
 gen:sc.isGenerator=false
 nd:N.Nodup
 pre:N.take P.length=P
 par:∀x∈P,sc.names.lookup x=some .local\/sc.names.lookup x=some .cell
 YW:∀y∈sc.names,y.2≠.free
theorem T1{kindOf:Str->Option WW}{x:Str} : ∀{binds:List (Str × wf)}{m:Str->Option wf},(∀v,(x,v) ∉ binds)->bindL kindOf binds m x=m x
 | [],_,_=>rfl
 | (n,v)::r,m,h=>by
  unfold bindL;rw[T1 λw hw=>h w (wB _ hw)]
  split
  ·have:x≠n:=by rintro rfl;exact h v wJ
   simp[this]
  ·rfl
theorem LD{kindOf:Str->Option WW}{x:Str} : ∀{binds:List (Str × wf)}{m:Str->Option wf},(∀v,(x,v) ∉ binds)->bindC kindOf binds m x=m x
 | [],_,_=>rfl
 | (n,v)::r,m,h=>by
  unfold bindC;rw[LD λw hw=>h w (wB _ hw)]
  split
  ·rfl
  ·have:x≠n:=by rintro rfl;exact h v wJ
   simp[this]
theorem UA{kindOf:Str->Option WW}{x:Str}{v:wf} : ∀{P:List Str}{vs:List wf}{i:Nat}{m:Str->Option wf},P.Nodup->P[i]? = some x->vs[i]? = some v->kindOf x=some .local ->
  bindL kindOf (P.zip vs) m x=some v
 | [],_,_,_,_,h,_,_=>by simp at h
 | _::_,[],_,_,_,_,h,_=>by simp at h
 | p::P,w::vs,0,m,nd,h1,h2,hk=>by
  simp at h1 h2;subst h1;subst h2
  show bindL kindOf ((p,w)::P.zip vs) m p=_
  unfold bindL;rw[T1 λv hv=>(VQ.mp nd).1 (QZ hv).1,if_pos hk];simp
 | p::P,w::vs,i+1,m,nd,h1,h2,hk=>by
  show bindL kindOf ((p,w)::P.zip vs) m x=_
  unfold bindL;exact UA (i:=i) (VQ.mp nd).2 (by simpa using h1) (by simpa using h2) hk
theorem RX{kindOf:Str->Option WW}{x:Str}{v:wf} : ∀{P:List Str}{vs:List wf}{i:Nat}{m:Str->Option wf},P.Nodup->P[i]? = some x->vs[i]? = some v->kindOf x≠some .local ->
  bindC kindOf (P.zip vs) m x=some v
 | [],_,_,_,_,h,_,_=>by simp at h
 | _::_,[],_,_,_,_,h,_=>by simp at h
 | p::P,w::vs,0,m,nd,h1,h2,hk=>by
  simp at h1 h2;subst h1;subst h2
  show bindC kindOf ((p,w)::P.zip vs) m p=_
  unfold bindC;rw[LD λv hv=>(VQ.mp nd).1 (QZ hv).1,if_neg hk];simp
 | p::P,w::vs,i+1,m,nd,h1,h2,hk=>by
  show bindC kindOf ((p,w)::P.zip vs) m x=_
  unfold bindC;exact RX (i:=i) (VQ.mp nd).2 (by simpa using h1) (by simpa using h2) hk
def start(N:List Str)(vs:List V):St:=vs.map some++vn (N.length-vs.length) none
def iP(CX:fW)(P:wI)(w:wO)(K:wa)(mg:Str->Option wf)(base:wM)(N:List Str)(qual:Str)(scope:Scope)(f:we)(cd:wf)(A:w9)(outer:List Env)(s:wl)(H:Hp)(E:XK):Cx where
 prog:=P
 w:=w
 K:=K
 mg:=mg
 base:=base
 A:=A.deeper (envOfC qual scope s.heap.objs.size f cd)
 N:=N
 s₀:=s
 H₀:=H
 env:=envOfC qual scope s.heap.objs.size f cd
 outer:=outer
 stack:=envOfC qual scope s.heap.objs.size f cd::outer
 ex:=[]
 calm:=true
 fn:=λ_=>true
 pn:=[]
 xe:=λe s'=>wq (model P w) (A.deeper (envOfC qual scope s.heap.objs.size f cd)) (leaving (envOfC qual scope s.heap.objs.size f cd) e) (λ_ s''=>CX outer H s E e s'') (λe' s''=>CX outer H s E e' s'') s'
theorem DS{sc:Scope}{n:Nat}{x:Str}(h:sc.names.lookup x=some .cell):∃c,(cellsFrom n sc.names []).lookup x=some c:=by
 have q:=Q8 sc.names n [] (.inl h);exact VD.mp q
theorem zwB{CX:fW}{P:wI}{w:wO}{K:wa}{mg:Str->Option wf}{N ps:List Str}{scope:Scope}{f:we}{cd:wf}{A:w9}{outer:List Env}{s s1:wl}{H:Hp}{E:XK}{us:List wf}{vs:List V}
  (S:aP N ps scope) (hd:A.handled=none) (e0:z8 P w K mg base A outer s H) (hl:vs.length=ps.length) (r:aT vs us)
  (x:InCallC s s.heap.objs.size (bindL (envOfC qual scope s.heap.objs.size f cd).kindOf (ps.zip us) λ_=>none) (cellsFrom (s.heap.objs.size+1) scope.names []) (bindC (envOfC qual scope s.heap.objs.size f cd).kindOf (ps.zip us) λ_=>none) s1) :
  Inv (iP CX P w K mg base N qual scope f cd A outer s H E) [] (start N vs) H s1:=by
 have hpl:ps.length<=N.length:=by have:=congrArg Xw S.pre;rw[Wr]at this;lia
 obtain⟨h1,tk,rfl,hk⟩:=x.done;have noA:∀b:we,b ∉ (iP CX P w K mg base N qual scope f cd A outer s H E).ex:=λb z=>absurd (show b∈([]:List we)from z) (by simp)
 refine⟨⟨e0.mod,S.kind,rfl,rfl,wp _,λy z c h1 h2=>?_,λy hy=>?_,λy c _ h=>?_,λ_=>hd,Around.frames_deeper e0.frames,.inr ⟨rfl,rfl⟩,λb z=>absurd z (noA b),e0.bs,e0.jl,λb _ _=>noA b,λb z=>absurd z (noA b),e0.fi,e0.jt⟩,
  rfl,e0.bare,Un.kept hk,⟨_,x.toInCall.ns,λi y v h1 h2 h3=>?_⟩,λy c h=>⟨_,x.cell y c h⟩,e0.aM.fresh (wp _),λy c h=>?_,λp hp=>absurd (show p∈([]:List (we × Obj))from hp) (by simp),e0.aM.kept hk,?_⟩
 ·exact name_of_addr x.apart (Va h1) (Va h2)
 ·have hy:scope.names.lookup y=some .cell\/scope.names.lookup y=some .free:=hy
  rcases hy with hy | hy
  ·exact DS hy
  ·exact absurd rfl (S.YW _ (Va hy))
 ·exact WB (x.above y c (Va h))
 ·have hi:i<vs.length:=by
   unfold start at h2
   by_cases hi:i<vs.length
   ·exact hi
   ·rw[Wh (by simpa using hi)]at h2
    rw[QT]at h2
    split at h2<;>cases h2
  have ha:vs[i]? = some v:=by
   unfold start at h2;rw[Ww (by simpa using hi),wu]at h2;cases e:vs[i]? with
   | none=>rw[e]at h2;cases h2
   | some a=>rw[e]at h2;cases h2;rfl
  obtain⟨u,hu,rv⟩:=r.get ha
  have hp:ps[i]? = some y:=by
   rw[<- S.pre,List.getElem?_take_of_lt (by lia)];exact h1
  have ndP:ps.Nodup:=by rw[<- S.pre];exact S.nd.sublist (Xg _ _)
  refine⟨u,rv,?_⟩;rcases S.par y (List.mem_of_getElem? hp)with k | k
  ·exact .inl ⟨k,UA ndP hp hu k⟩
  ·obtain⟨c,e⟩:=DS (n:=s.heap.objs.size+1) k
   refine .inr ⟨.inl k,c,e,?_⟩;have q:=x.cell y c e;rw[RX ndP hp hu (by show scope.names.lookup y≠_;rw[k];decide)]at q;exact q
 ·exact e0.aM.fresh (WB (x.above y c (Va h)))
 ·unfold start
  show _=N.length
  rw[wQ,wm,WC]
  lia
theorem Mi{CX:fW}{P:wI}{w:wO}{K:wa}{mg:Str->Option wf}{k:Nat}{f:we}{name:Str}{params:Arguments}{body:List wZ}{scope:Scope}{dV kV doc pm cdv ct oc:wf}{an od:Option we}
  {osl:Array (Option wf)} {N ps:List Str} {sp:Sp} (lk:K.lookup f=some ⟨oc,od,.func (VE name qual params body scope dV kV doc pm an cdv ct),osl⟩) (hcd:Qe K cdv qual=true) (S:aP N ps scope)
  (len:∀vs H Q E,sp vs H Q E->vs.length=ps.length)
  (hbody:∀(A:w9)(outer:List Env)(s:wl)(H:Hp)(vs:List V)(Q:VK)(E:XK),eF k (A.deeper (envOfC qual scope s.heap.objs.size f cdv))->sp vs H Q E ->
   ∃t,fD (iP CX P w K mg base N qual scope f cdv A outer s H E) body t/\t {nx:=λ_ H'=>Q .bY H',rt:=Q} (start N vs) H) :
  aK P w K mg base CX (k+1) f (VE name qual params body scope dV kV doc pm an cdv ct) ps sp:=by
 refine⟨len,λA outer s H args us vs Q E hr e0 hb r hsp=>?_⟩;have hl:=len _ _ _ _ hsp;have KX:K.In s.heap:=e0.mod.rS.keeps λb o e=>(e0.bs b o e).1
 have lim:s.heap.NoLimit:=e0.mod.nolimit.keeps λb o e=>(e0.bs b o e).1
 have hkind:∀y∈ps.zip us,scope.names.lookup y.1=some .local\/(scope.names.lookup y.1=some .cell/\((cellsFrom (s.heap.objs.size+1) scope.names []).lookup y.1).isSome=true):=λ⟨n,v⟩ hy=>by
  rcases S.par n (QZ hy).1 with q | q
  ·exact .inl q
  ·exact .inr ⟨q,Q8 _ _ _ (.inl q)⟩
 refine codeAny_call_function hr.depth (KX _ _ lk) rfl S.co S.gen rfl (PySem.W.codeRec_of KX hcd) (hb _ _ _ _ ?_);refine wpAny_newFunctionEnv_cells S.kind hkind λenv he s1 x=>?_
 subst he;refine⟨lim.keeps x.toInCall.keep,codeAny_func ?_⟩;obtain⟨t,ht,hq⟩:=hbody A outer s H vs Q E (hr.deeper _) hsp;have I:Inv (iP CX P w K mg base N qual scope f cdv A outer s H E) [] (start N vs) H s1:=zwB S hr.hd e0 hl r x;refine WF (ht [] s1 (start N vs) H _ I hq) (λfl s' hs=>?_) λe s' hs=>hs
 have fin:∀{σ':St}{H':Hp}{v:V}{u:wf},Inv (iP CX P w K mg base N qual scope f cdv A outer s H E) [] σ' H' s'->bE v u->Q v H'->CE outer P w H s Q u s' :=
  λ{σ' H' v u} J rv q=>⟨v,H',J.os,J.bare,J.base,J.aM,rv,q⟩
 cases fl with
 | ret u =>
  obtain⟨v,σ',H',J,rv,q⟩:=hs;exact fin J rv q
 | next =>
  obtain⟨σ',H',J,q⟩:=hs;exact fin (v:=V.bY) (u:=Value.none) J rfl q
 | brk =>
  obtain⟨_,_,_,q⟩:=hs;exact WT q
 | cont =>
  obtain⟨_,_,_,q⟩:=hs;exact WT q
section
variable{X:Cx}{x:Str}{p pos:Pos}{e:Expr}{es:List Expr}{t:TA}{id T:String}{r:List V->Hp->VK->Prop}
def FZ(r:List V->Hp->VK->Prop)(t:TA):TE:=λσ H Q=>t σ H λvs H1=>r vs H1 Q
theorem bA(hc:aE X (.builtin id) r)(hg:Gl X x)(hm:X.mg x=none)(hv:vO x=some (.builtin id))(ha:PA X (e::es) t)(hn:x≠"__name__":=by decide)(hdb:(x == ("__debug__" : Str))=false:=by decide)
  (he:vf (e::es) X.env=(false,eval e X.env)::vf es X.env:=by rfl) (hpl:(backTo pos (vf es X.env)).any (·.1)=false:=by rfl):PE X (.Call (.Name x p) (e::es) [] pos) (FZ r t):=by
 intro pins s σ H Q I h;refine qD (gW I hg hm hv ?_ hn hdb);exact PyProof.Rows.callWith_builtin1 (aQ (ha pos pins s σ H _ I h) λus s1 ⟨vs,H1,I1,r1,q1⟩=>hc pins s1 σ H1 vs us Q I1 r1 q1) he hpl
theorem di(hc:aE X (.type T) r)(hg:Gl X x)(hm:X.mg x=none)(hv:vO x=some (.type T))(ha:PA X (e::es) t)(hn:x≠"__name__":=by decide)(hdb:(x == ("__debug__" : Str))=false:=by decide)
  (he:vf (e::es) X.env=(false,eval e X.env)::vf es X.env:=by rfl) (hpl:(backTo pos (vf es X.env)).any (·.1)=false:=by rfl):PE X (.Call (.Name x p) (e::es) [] pos) (FZ r t):=by
 intro pins s σ H Q I h;refine qD (gW I hg hm hv ?_ hn hdb);exact vC (aQ (ha pos pins s σ H _ I h) λus s1 ⟨vs,H1,I1,r1,q1⟩=>hc pins s1 σ H1 vs us Q I1 r1 q1) he hpl
end
section
variable{κ : Type}[DecidableEq κ]
end
abbrev KT(H:Hp):List (List Key × V)->List (List Key × we × wf)->Prop:=Paired λp q=>p.1=q.1/\H q.2.1=some (.tup (p.1.map kV))/\bE p.2 q.2.2
section
variable{P:wI}{w:wO}{H:Hp}{h:wM}{a:we}
end
section
variable{X:Cx}{pins:List (we × Obj)}{σ : St}{H:Hp}{s:wl}{a:we}{y v:V}{u r:wf}{o:Option V}{A:w9}{E:wf->wl->Prop}
theorem Inv.big(I:Inv X pins σ H s):sysModules<s.heap.objs.size:=by
 have h:wK<s.heap.objs.size:=(I.mod.glob.keeps I.bk).lt;exact Nat.lt_trans (by decide) h
end
section
variable{X:Cx}{pins:List (we × Obj)}{σ : St}{H:Hp}{s:wl}{a:we}{kvs:List (Key × V)}{k:Key}{u:wf}{A:w9}{E:wf->wl->Prop}
end
def PL(i:Expr):Prop:=∀ov iv,subscripted i false ov iv=operate [ov,iv] (getItem ov iv)
theorem zBb{prog:wI}{w:wO}{A:w9}{E:wf->wl->Prop}{s:wl}{env:Env}{value slice:Expr}{pos:Pos}{T id:String}{Q:wf->wl->Prop}
  (hl:typeLookup (.type T) "__getitem__"=pure (some (.builtin id))) (hs:PL slice)
  (h:wq (model prog w) A (eval value env) (λo s₁=>wq (model prog w) A (eval slice env) (λi s₂=>s₂.TypeIs o T/\wq (model prog w) A (getItem o i) Q E s₂) E s₁) E s) :
  wq (model prog w) A (eval (.Subscript value slice pos) env) Q E s:=by
 refine Subscript_ (WF h (λo s₁ h₁=>WF h₁ (λi s₂ h₂=>?_) λ_ _ x=>x) λ_ _ x=>x);obtain⟨hT,h₂⟩:=h₂;unfold subscriptTail;refine wg ?_;rw[getitemInPython_of_ne hT.not_modules];refine wg (wpAny_specialOf hT hl ?_)
 have fin:wq (model prog w) A (subscripted slice false o i) (λr s₃=>wq (model prog w) A (letTemporaryGo value o r >>= λ_=>pure r) Q E s₃) E s₂:=by
  rw[hs o i];exact wpAny_operating (WF h₂ (λr s₃ h₃=>wg (wpAny_letTemporaryGo (wt h₃))) λ_ _ x=>x)
 first
  | exact wt (wg fin)
  | exact wg (wt (wg fin))
  | exact wg fin
section
variable{X:Cx}{o i e value:Expr}{pos pos' tpos:Pos}{td ty tv:TE}
end
section
variable{X:Cx}{pos:Pos}
end
abbrev VV:List (V × V)->List (wf × wf)->Prop:=Paired λp q=>bE p.1 q.1/\bE p.2 q.2
section
variable{X:Cx}{pins:List (we × Obj)}{σ : St}{H:Hp}{s:wl}{a:we}{y d:V}{u r:wf}{o:Option V}{A:w9}{E:wf->wl->Prop}
end
section
variable{X:Cx}{o e f:Expr}{apos cpos:Pos}{td ty tx:TE}
end
section
variable{X:Cx}{pins:List (we × Obj)}{σ : St}{H:Hp}{s:wl}{a:we}{kvs:List (Key × V)}{A:w9}{E:wf->wl->Prop}
end
section
variable{X:Cx}{pins:List (we × Obj)}{σ : St}{H:Hp}{s:wl}{a:we}{y:V}{u:wf}{A:w9}{E:wf->wl->Prop}
end
end L2
namespace HT
open PySem PyProof.Rows
section
open PySem.SeqAt
open PySem.AutoSeq1 (wpAny_loadPart')
open PySem.MeetsSeq PySem.MeetsSeq2 PySem.MeetsSeq3
end
section
variable{prog:wI}{w:wO}{A:w9}{E:wf->wl->Prop}{s:wl}
theorem YR{t b:we}{vs ws:List wf}{Q:wf->wl->Prop}(ht:IsTup s.heap t vs.toArray)(hb:IsTup s.heap b ws.toArray)(hv:vs≠[])
  (h1:ws=[]->Q (.ref t) s) (h2:ws≠[]->Q (.ref s.heap.objs.size) {s with heap:=s.heap.push {cls:=.type "tuple",data:=.seq (vs++ws).toArray}})
  (hsz:vs.length+ws.length<=vc):wq (model prog w) A (WG .Add (.ref t) (.ref b)) Q E s:=by
 obtain⟨⟨cls,dd,data,sl⟩,ho,hc,n,hd⟩:=id ht;obtain⟨⟨cls2,dd2,data2,sl2⟩,ho2,hc2,n2,hd2⟩:=id hb;simp only at hc hd hc2 hd2;subst hc hd hc2 hd2;have e:vs.toArray++ws.toArray=(vs++ws).toArray:=by simp
 by_cases hw:ws=[]
 ·exact concat_meets ⟨_,ho,rfl⟩ ⟨_,ho2,rfl⟩ noFill_tuple_add seq_tuple_add qQ qH (qt _ _)
   (tuple_addW1 t b vs.toArray ws.toArray n n2 dd dd2 sl sl2 (by simpa using hv) (by simp[hw])) ⟨ho,ho2,h1 hw⟩
 ·refine concat_meets ⟨_,ho,rfl⟩ ⟨_,ho2,rfl⟩ noFill_tuple_add seq_tuple_add qQ qH (qt _ _)
   (tuple_addW2 t b vs.toArray ws.toArray n n2 dd dd2 sl sl2 (by simpa using hv) (by simpa using hw) (by rw[wN,wN];exact hsz)) ⟨ho,ho2,?_⟩
  rw[e];exact h2 hw
def bG(n d:Nat):Option Int->Nat
 | none=>d
 | some v=>if v<0 then(v+(n:Int)).toNat else min v.toNat n
theorem YN(n d:Nat):bG n d none=d:=rfl
theorem YT(n d k:Nat):bG n d (some (k:Int))=min k n:=by
 show(if(k:Int)<0 then((k:Int)+(n:Int)).toNat else min (k:Int).toNat n)=min k n
 rw[if_neg (by lia),wD]
theorem zCE(n d:Nat)(hd:d<=n)(o:Option Int):bG n d o<=n:=by
 cases o with
 | none=>exact hd
 | some v =>
  show(if v<0 then(v+(n:Int)).toNat else min v.toNat n)<=n
  by_cases hv:v<0
  ·rw[if_pos hv];lia
  ·rw[if_neg hv];exact QI _ _
theorem UD(v:Int)(n d:Nat):(if v<0 then max (v+(n:Int)) 0 else min v (n:Int))=((bG n d (some v):Nat):Int):=by
 show(if v<0 then max (v+(n:Int)) 0 else min v (n:Int))=(((if v<0 then(v+(n:Int)).toNat else min v.toNat n):Nat):Int)
 by_cases hv:v<0
 ·simp only[if_pos hv];lia
 ·simp only[if_neg hv];lia
theorem ztO(lo hi:Option Int)(n:Nat):ql lo hi 1 (n:Int)=(((bG n 0 lo:Nat):Int),((bG n n hi:Nat):Int)):=by
 have h1:¬ ((1:Int)<0):=by lia
 unfold ql;simp only[h1,if_false];refine Vs ?_ ?_
 ·cases lo with
  | none=>rfl
  | some v=>exact UD v n 0
 ·cases hi with
  | none=>rfl
  | some v=>exact UD v n n
theorem zt9(i j:Nat):VB (i:Int) (j:Int) 1=j-i:=by
 unfold VB;have h1:(1:Int) > 0:=by lia
 simp only[h1,if_true,Int.ediv_one]
 split<;>lia
theorem Ob{v:wf}{o:Option Int}{Q:Option Int->wl->Prop}(p:IsPart v o)(h:Q o s):wq (model prog w) A (ui v) Q E s:=by
 cases p with
 | none=>exact slicePart_none h
 | int i t=>exact slicePart_int h
theorem zlR{sl:we}{vl vu:wf}{lo hi:Option Int}{n:Nat}{Q:Int × Int × Nat->wl->Prop}(hs:s.heap.IsSliceOf sl vl vu .none)(pl:IsPart vl lo)(pu:IsPart vu hi)
  (h:Q (((bG n 0 lo:Nat):Int),1,bG n n hi-bG n 0 lo) s):wq (model prog w) A (Qs (.ref sl) (pure (n:Int))) Q E s:=by
 obtain⟨os,hos,hcs,hds⟩:=id hs;unfold Qs uD;refine wg (wg (vD hos hds (x:=vl) rfl (wg (vD hos hds (x:=vu) rfl (wg (vD hos hds (x:=.none) rfl (wt ?_)))))));refine wg (slicePart_none ?_)
 show wq _ _ (if((1:Int) == 0)=true then _ else _) _ _ s
 rw[if_neg (by decide)];refine wg (Ob pl (wg (Ob pu (wg (wt ?_)))))
 show wq _ _ (match ql lo hi 1 (n:Int)with | (lo,hi)=>pure (lo,(1:Int),VB lo hi 1)) _ _ s
 rw[ztO lo hi n]
 show wq _ _ (pure (((bG n 0 lo:Nat):Int),(1:Int),VB ((bG n 0 lo:Nat):Int) ((bG n n hi:Nat):Int) 1)) _ _ s
 rw[zt9];exact wt h
theorem zyv(xs:Array wf)(i k:Nat):((wo k).filterMap λ(m:Nat)=>xs[((i:Int)+(m:Int)*1).toNat]?).toArray=((xs.toList.drop i).take k).toArray:=by
 have e:(λ(m:Nat)=>xs[((i:Int)+(m:Int)*1).toNat]?)=λm=>xs[i+m]?:=by
  funext m
  have:((i:Int)+(m:Int)*1).toNat=i+m:=by lia
  rw[this]
 rw[e];have:=pick_run xs i k;rw[List.filterMap_map]at this;have e2:((λx=>xs[x]?) ∘ λx=>i+x)=λm=>xs[i+m]?:=rfl
 rw[e2]at this;rw[this]
theorem Ye{t sl:we}{items:Array wf}{vl vu:wf}{lo hi:Option Int}{Q:wf->wl->Prop}(ht:IsTup s.heap t items)(hs:s.heap.IsSliceOf sl vl vu .none)(pl:IsPart vl lo)(pu:IsPart vu hi)
  (hw:¬ (bG items.size 0 lo=0/\bG items.size items.size hi=items.size))
  (h:Q (.ref s.heap.objs.size) {s with heap:=s.heap.push {cls:=.type "tuple",data:=.seq ((items.toList.drop (bG items.size 0 lo)).take (bG items.size items.size hi-bG items.size 0 lo)).toArray}})
  (hsz:items.size<=vc):wq (model prog w) A (getItem (.ref t) (.ref sl)) Q E s:=by
 have htake:sizeOk (.seq ((items.toList.drop (bG items.size 0 lo)).take (bG items.size items.size hi-bG items.size 0 lo)).toArray):=by
  show((items.toList.drop (bG items.size 0 lo)).take (bG items.size items.size hi-bG items.size 0 lo)).toArray.size<=vc
  rw[wN,Wr,vZ,W9]
  lia
 have hj:bG items.size items.size hi<=items.size:=zCE _ _ (wp _) hi;obtain⟨os,hos,hcs,hds⟩:=id hs;have hTs:s.TypeIs (.ref sl) "slice":=⟨os,hos,hcs⟩;unfold getItem
 try with_reducible refine WA ?_
 first | refine wg (wt ?_) | skip
 refine wg (wpAny_sequenceKey ht.typeIs (by decide) ?_)
 refine wg (wpAny_callSpecial?_slot (name:=vX "__getitem__") ht.typeIs VN
  (Wk VN ht.typeIs entry_tuple_getitem ?_ (args_tuple_getitem _ _)))
 show wq _ _ (Qt (.ref t) >>= _) _ _ s
 refine wg (tupleItemsOf_ ht ?_);refine wg (wpAny_typeOf hTs ?_);rw[if_pos (by decide)];refine wg (zlR hs pl pu ?_)
 have hno:¬ ((((bG items.size 0 lo:Nat):Int) == 0&&(1:Int) == 1&&(bG items.size items.size hi-bG items.size 0 lo) == items.size)=true):=by
  intro q;rw[wY,wY]at q;have q1:((bG items.size 0 lo:Nat):Int)=0:=eq_of_beq q.1.1;have q2:bG items.size items.size hi-bG items.size 0 lo=items.size:=eq_of_beq q.2;exact hw ⟨by lia,by lia⟩
 show wq _ _ (if(((bG items.size 0 lo:Nat):Int) == 0&&(1:Int) == 1&&(bG items.size items.size hi-bG items.size 0 lo) == items.size)=true then _ else _) _ _ s
 rw[if_neg hno,zyv]
 first
  | exact wg (m:=VF _) (WI (wt ⟨_,rfl,wt h⟩) htake)
  | exact wg (m:=VF _) (WI (wg (wt (wt ⟨_,rfl,wt h⟩))) htake)
  | exact wg (wg (m:=VF _) (WI (wt (wt ⟨_,rfl,wt h⟩)) htake))
  | exact wg (wg (m:=VF _) (WI (wt ⟨_,rfl,wt h⟩) htake))
end
end HT
namespace L2
open PySem PySem.Spec PyProof.Rows
abbrev TO:=St->Hp->(Option Int->Hp->Prop)->Prop
def PO(X:Cx)(e:Option Expr)(t:TO):Prop :=
 ∀(pins:List (we × Obj))(s:wl)(σ : St)(H:Hp)(Q:Option Int->Hp->Prop),Inv X pins σ H s->t σ H Q ->
  wq (model X.prog X.w) X.A (evalPart e X.env) (λu s'=>∃o H',Inv X pins σ H' s'/\IsPart u o/\Q o H') X.xe s
def ON:TO:=λ_ H Q=>Q none H
def L6(t:TE):TO:=λσ H Q=>t σ H λx H1=>∃i,x=.int i/\Q (some i) H1
theorem w_{ns:List Int} : ∀{us:List wf},aT (ns.map V.int) us->IntsAre us ns:=by
 induction ns with
 | nil=>intro us r;rw[QJ]at r;cases r;exact .nil
 | cons n ns ih =>
  intro us r;rw[ve]at r;cases r with
  | cons r1 r2 =>
   obtain⟨t,e⟩:=r1;subst e;exact .cons n t (ih r2)
section
variable{X:Cx}{e:Expr}{te:TE}{lo hi:Option Expr}{tl th:TO}{pos p2:Pos}
theorem m6:PO X none ON:=by
 intro pins s σ H Q I h;rw[evalPart_none];exact wt ⟨none,H,I,.none,h⟩
theorem m7(h:PE X e te):PO X (some e) (L6 te):=by
 intro pins s σ H Q I hw;rw[evalPart_some];refine aQ (h pins s σ H _ I hw) λu s1 ⟨x,H1,I1,r1,q1⟩=>?_
 obtain⟨i,rfl,q⟩:=q1;obtain⟨t,rfl⟩:=r1;exact⟨some i,H1,I1,.int i t,q⟩
def kG(X:Cx)(r:V->Option Int->Option Int->Hp->VK->Prop):Prop :=
 ∀(pins:List (we × Obj))(s:wl)(σ : St)(H:Hp)(x:V)(v vl vu:wf)(lo hi:Option Int)(sl:we)(Q:VK),Inv X pins σ H s->bE x v->s.heap.IsSliceOf sl vl vu .none->IsPart vl lo->IsPart vu hi->r x lo hi H Q ->
  ∃T id,typeLookup (.type T) "__getitem__"=pure (some (.builtin id))/\s.TypeIs v T/\wq (model X.prog X.w) X.A (getItem v (.ref sl)) (EP X pins σ Q) X.xe s
theorem kG.or{r r':V->Option Int->Option Int->Hp->VK->Prop}(h:kG X r)(h':kG X r'):kG X (λx lo hi H Q=>r x lo hi H Q\/r' x lo hi H Q):=by
 intro pins s σ H x v vl vu lo hi sl Q I rx hs pl pu q;rcases q with q | q
 ·exact h pins s σ H x v vl vu lo hi sl Q I rx hs pl pu q
 ·exact h' pins s σ H x v vl vu lo hi sl Q I rx hs pl pu q
def TY(r:V->Option Int->Option Int->Hp->VK->Prop)(te:TE)(tl th:TO):TE:=λσ H Q=>te σ H λx H1=>tl σ H1 λl H2=>th σ H2 λu H3=>r x l u H3 Q
theorem oO{r:V->Option Int->Option Int->Hp->VK->Prop}(hr:kG X r)(he:PE X e te)(hl:PO X lo tl)(hu:PO X hi th):PE X (.Subscript e (.Slice lo hi none p2) pos) (TY r te tl th):=by
 intro pins s σ H Q I h;refine Subscript_ (aQ (he pins s σ H _ I h) λv s1 ⟨x,H1,I1,r1,q1⟩=>?_);refine wpAny_Slice (aQ (hl pins s1 σ H1 _ I1 q1) λvl s2 ⟨l,H2,I2,pl,q2⟩=>aQ (hu pins s2 σ H2 _ I2 q2) λvu s3 ⟨u,H3,I3,pu,q3⟩=>?_);rw[evalPart_none];refine wt ?_;have I4:Inv X pins σ H3 {s3 with heap:=s3.heap.push {cls:=.type "slice",data:=.fields #[vl,vu,.none]}}:=I3.kept (t':=s3.toks) λb ob q=>wn _ q
 obtain⟨T,id,hT,ht,hg⟩:=hr pins {s3 with heap:=s3.heap.push {cls:=.type "slice",data:=.fields #[vl,vu,.none]}} σ H3 x v vl vu l u s3.heap.objs.size Q I4 r1 (uK ..) pl pu q3
 show wq (model X.prog X.w) X.A (subscriptTail e (.Slice lo hi none p2) v (.ref s3.heap.objs.size)) (EP X pins σ Q) X.xe {s3 with heap:=s3.heap.push {cls:=.type "slice",data:=.fields #[vl,vu,.none]}}
 exact tail_any (ops:=[.ref s3.heap.objs.size,v]) ht hT hg (by with_unfolding_all rfl)
def j9(xs:List V)(lo hi:Option Int):List V:=(xs.drop (HT.bG xs.length 0 lo)).take (HT.bG xs.length xs.length hi-HT.bG xs.length 0 lo)
theorem O5(xs:List V)(lo hi:Option Int):(j9 xs lo hi).length<=xs.length:=by
 unfold j9;rw[Wr,vZ]
 lia
def U_(K:wa):V->Option Int->Option Int->Hp->VK->Prop:=λx lo hi H Q=>∃a xs,x=.ref a/\aV K H a xs /\
 ¬ (HT.bG xs.length 0 lo=0/\HT.bG xs.length xs.length hi=xs.length) /\ ∀p,H p=none->Q (.ref p) (upd H p (.tup (j9 xs lo hi)))
theorem ZH:kG X (U_ X.K):=by
 intro pins s σ H x v vl vu lo hi sl Q I rx hs pl pu h;obtain⟨a,xs,rfl,hx,hw,q⟩:=h;cases rx;obtain⟨its,r,ht,hz⟩:=I.tuple hx;have hlen:its.toArray.size=xs.length:=by rw[wN];exact r.length.symm
 refine⟨"tuple",_,VN.lookup,ht.typeIs,?_⟩;refine HT.Ye ht hs pl pu (by rw[hlen];exact hw) ?_ (by rw[hlen];exact hz);rw[hlen];refine⟨.ref s.heap.objs.size,_,I.laid (t':=s.toks) (o:=.tup (j9 xs lo hi)) (λb ob q=>wn _ q) (wp _) ?_,rfl,q _ (I.aM.fresh (wp _))⟩;exact⟨Wl (O5 xs lo hi) hz,_,(r.drop (HT.bG xs.length 0 lo)).take (HT.bG xs.length xs.length hi-HT.bG xs.length 0 lo),qU _ _⟩
def Pt(K:wa):R2:=λx y H Q=>∃a b xs ys,x=.ref a/\y=.ref b/\aV K H a xs/\aV K H b ys/\xs≠[]/\xs.length+ys.length<=vc /\
 (ys=[]->Q (.ref a) H)/\(ys≠[]->∀p,H p=none->Q (.ref p) (upd H p (.tup (xs++ys))))
theorem aT.A_{xs:List V}{us:List wf}(r:aT xs us):us=[] ↔ xs=[]:=by
 cases r with
 | nil=>simp
 | cons _ _=>simp
theorem zA3:aH X (WG .Add) (Pt X.K):=by
 intro pins s σ H x y v u Q I rx ry h;obtain⟨a,b,xs,ys,rfl,rfl,ha,hb,hx,hz,q1,q2⟩:=h;cases rx;cases ry;obtain⟨its,r1,p1,_⟩:=I.tuple ha;obtain⟨its2,r2,p2,_⟩:=I.tuple hb;refine HT.YR p1 p2 (λz=>hx (r1.A_.mp z)) (λz=>⟨.ref a,H,I,rfl,q1 (r2.A_.mp z)⟩) (λz=>?_) (by rw[<- r1.length,<- r2.length];exact hz);refine⟨.ref s.heap.objs.size,_,I.laid (t':=s.toks) (o:=.tup (xs++ys)) (λb ob q=>wn _ q) (wp _) ?_,rfl,q2 (λw=>z (r2.A_.mpr w)) _ (I.aM.fresh (wp _))⟩;exact⟨by rw[wQ];exact hz,_,r1.append r2,qU _ _⟩
end
def gD(n:Nat)(i:Int):Option Nat:=if 0<=i then(if i<n then some i.toNat else none)else if -(n:Int)<=i then some (i+n).toNat else none
def ie{α : Type}(xs:List α)(i:Int):Option α:=(gD xs.length i).bind λj=>xs[j]?
theorem Tv{n:Nat}{i:Int}{j:Nat}(h:gD n i=some j):seqIndex? i n=some j/\j<n /\ -(n:Int)<=i/\i<n:=by
 unfold gD at h
 by_cases h0:0<=i
 ·rw[if_pos h0]at h
  by_cases h1:i<n
  ·rw[if_pos h1]at h
   have e:i.toNat=j:=w5 h;exact⟨by rw[seqIndex_of h0 h1,e],by lia,by lia,h1⟩
  ·rw[if_neg h1]at h;cases h
 ·rw[if_neg h0]at h
  by_cases h1 : -(n:Int)<=i
  ·rw[if_pos h1]at h
   have e:(i+n).toNat=j:=w5 h;exact⟨by rw[seqIndex_neg (by lia) h1,e],by lia,h1,by lia⟩
  ·rw[if_neg h1]at h;cases h
theorem B4{α : Type}{xs:List α}{i:Int}{v : α}(h:ie xs i=some v):∃j,seqIndex? i xs.length=some j/\xs[j]? = some v/\j<xs.length /\ -(xs.length:Int)<=i/\i<xs.length:=by
 unfold ie at h;cases e:gD xs.length i with
 | none=>rw[e]at h;cases h
 | some j =>
  rw[e]at h;obtain⟨h1,h2,h3,h4⟩:=Tv e;exact⟨j,h1,h,h2,h3,h4⟩
theorem kQ{α : Type}{xs:List α}{j:Nat}{v : α}(h:xs[j]? = some v):ie xs (j:Int)=some v:=by
 have hj:j<xs.length:=(W2.mp h).1
 have e:gD xs.length (j:Int)=some j:=by
  unfold gD;rw[if_pos (by lia),if_pos (by lia)];simp
 unfold ie;rw[e];exact h
def zAd(b:Expr):Prop:=∀o i,subscripted b false o i=operate [o,i] (getItem o i)
def fB(X:Cx)(r:R2):Prop :=
 ∀(value slice:Expr)(pins:List (we × Obj))(s:wl)(σ : St)(H:Hp)(x y:V)(v u:wf)(Q:VK),Inv X pins σ H s->bE x v->bE y u->r x y H Q ->
  subscripted slice false v u=operate [v,u] (getItem v u)->wq (model X.prog X.w) X.A (subscriptTail value slice v u) (EP X pins σ Q) X.xe s
def Nl(X:Cx)(id:String)(r:V->List V->Hp->VK->Prop):Prop :=
 ∀(pins:List (we × Obj))(s:wl)(σ : St)(H:Hp)(x:V)(xs:List V)(v:wf)(us:List wf)(Q:VK),Inv X pins σ H s->bE x v->aT xs us->r x xs H Q ->
  wq (model X.prog X.w) X.A (call (.builtin id) (v::us)) (EP X pins σ Q) X.xe s
section
variable{X:Cx}{a b:Expr}{ta tb:TE}{pos:Pos}
variable{σ:St}{H:Hp}{x:V}
theorem fB.or{r r':R2}(h:fB X r)(h':fB X r'):fB X (λx y H Q=>r x y H Q\/r' x y H Q):=by
 intro value slice pins s σ H x y v u Q I rx ry q hs;rcases q with q | q
 ·exact h value slice pins s σ H x y v u Q I rx ry q hs
 ·exact h' value slice pins s σ H x y v u Q I rx ry q hs
theorem dw{r:R2}(hr:fB X r)(ha:PE X a ta)(hb:PE X b tb)(hs:zAd b):PE X (.Subscript a b pos) (lA r ta tb):=by
 intro pins s σ H Q I h;exact Subscript_ (Eu ha hb I h λv u s2 x y H2 I2 rx ry q=>hr a b pins s2 σ H2 x y v u Q I2 rx ry q (hs _ _))
def OG(K:wa):R2:=λx y H Q=>∃p xs i v,x=.ref p/\y=.int i/\aG K H p xs/\ie xs i=some v/\Q v H
def Su(K:wa):R2:=λx y H Q=>∃p xs i v,x=.ref p/\y=.int i/\aV K H p xs/\ie xs i=some v/\Q v H
def N_:R2:=λx y H Q=>∃z i c,x=.str z/\y=.int i/\z.length<=vc/\ie z.cps.toList i=some c/\Q (.str ⟨#[c]⟩) H
theorem zzW :fB X (OG X.K):=by
 intro value slice pins s σ H x y v u Q I rx ry h hs;obtain⟨p,xs,i,z,rfl,rfl,hq,he,q⟩:=h;cases rx;obtain⟨t,rfl⟩:=ry;obtain⟨its,r,pl,hz⟩:=I.list hq;obtain⟨j,h1,h2,h3,h4,h5⟩:=B4 he;obtain⟨w,ew,rw'⟩:=r.get h2;have hl:=r.length;have hn:=nT;have fin:EP X pins σ Q w s:=⟨z,H,I,rw',q⟩
 by_cases h0:0<=i
 ·have hj:i.toNat=j:=by
   rw[seqIndex_of h0 h5]at h1;exact w5 h1
  exact item_listR pl.isList h0 (by lia) (by rw[hj];simpa using ew) fin hs
 ·have hj:(i+(its.toArray.size:Int)).toNat=j:=by
   rw[seqIndex_neg (by lia) h4]at h1;rw[wN,<- hl];exact w5 h1
  exact subscriptTail_builtinR (x:=w) pl.isList.typeIs slot_list_getitem.lookup
   (wpAny_getItem_list_neg (Q:=λr s'=>r=w/\EP X pins σ Q r s') pl.isList (by lia) (by rw[wN]<;>lia) (by lia) (by rw[hj];simpa using ew) ⟨rfl,fin⟩) hs
theorem zCY :fB X (Su X.K):=by
 intro value slice pins s σ H x y v u Q I rx ry h hs;obtain⟨p,xs,i,z,rfl,rfl,hq,he,q⟩:=h;cases rx;obtain⟨t,rfl⟩:=ry;obtain⟨its,r,pl,hz⟩:=I.tuple hq;obtain⟨j,h1,h2,h3,h4,h5⟩:=B4 he;obtain⟨w,ew,rw'⟩:=r.get h2;have hl:=r.length;have hn:=nT;have fin:EP X pins σ Q w s:=⟨z,H,I,rw',q⟩
 exact subscriptTail_builtinR (x:=w) pl.typeIs slot_tuple_getitem.lookup
  (getItem_tuple (j:=j) (Q:=λr s'=>r=w/\EP X pins σ Q r s') pl (by lia) (by lia) (by rw[wN,<- hl];exact h1) (by simpa using ew) ⟨rfl,fin⟩) hs
theorem zCU :fB X N_:=by
 intro value slice pins s σ H x y v u Q I rx ry h hs;obtain⟨z,i,c,rfl,rfl,hz,he,q⟩:=h;obtain⟨t,rfl⟩:=rx;obtain⟨t',rfl⟩:=ry;obtain⟨j,h1,h2,h3,h4,h5⟩:=B4 he;have hl:z.cps.toList.length=z.length:=by simp[Str.length]
 rw[hl]at h1 h4 h5;have hn:=nT
 exact tail_any (typeIs_str s z t) slot_str_getitem.lookup (getItem_str (c:=c) (by
  have e1:decide (i < -(2^63:Int))=false:=decide_eq_false (by lia);have e2:decide (i ≥ 2^63)=false:=decide_eq_false (by lia);rw[e1,e2,Bool.or_false]) (by rw[h1];simpa using h2) ⟨.str ⟨#[c]⟩,H,I.tok _,⟨_,rfl⟩,q⟩) hs
def c9(K:wa):R2:=λx y H Q=>OG K x y H Q\/Su K x y H Q\/N_ x y H Q
theorem cU :fB X (c9 X.K):=zzW.or (zCY.or zCU)
theorem zuS(its:List wf)(n j:Nat)(u:wf):QD (·.setIfInBounds j u) {cls:=.type "list",data:=.seq its.toArray n} = {cls:=.type "list",data:=.seq (its.set j u).toArray n}:=by
 simp[QD]
theorem Inv.lst{pins:List (we × Obj)}{s:wl}{p:we}{xs:List V}(I:Inv X pins σ H s)(h:H p=some (.lst xs)) :
  ∃(its:List wf)(n:Nat),aT xs its/\s.heap.get? p=some {cls:=.type "list",data:=.seq its.toArray n}/\xs.length<=vc:=by
 obtain⟨z,its,n,r,e⟩:=I.aM p _ h;exact⟨its,n,r,e,z⟩
theorem Inv.YZ{pins:List (we × Obj)}{s:wl}{p:we}{xs ys:List V}{its its':List wf}{n n':Nat}{f:Obj->Obj}(I:Inv X pins σ H s)(h:H p=some (.lst xs))
  (ho:s.heap.get? p=some {cls:=.type "list",data:=.seq its.toArray n}) (hf:f {cls:=.type "list",data:=.seq its.toArray n} = {cls:=.type "list",data:=.seq its'.toArray n'}) (r:aT ys its') (hz:ys.length<=vc) (t:Nat) :
  Inv X pins σ (upd H p (.lst ys)) {s with heap:=s.heap.update p f,toks:=t}:=by
 have e:(s.heap.update p f).get? p=some {cls:=.type "list",data:=.seq its'.toArray n'}:=by
  rw[V0 f ho (by rw[hf]<;>rfl),hf]
 refine I.write (x:=p) (e:=p) (by rw[h];trivial) (.inl rfl) (λb u hb q=>(qR _ _ (Wt hb)).trans q) ⟨_,e⟩ ?_;exact⟨hz,its',n',r,e⟩
def SA:V->V->V->Hp->(Hp->Prop)->Prop:=λo i v H Q=>∃p xs k j,o=.ref p/\i=.int k/\H p=some (.lst xs)/\gD xs.length k=some j/\Q (upd H p (.lst (xs.set j v)))
theorem me :RO X SA:=by
 intro pins s σ H o i v ov iv u Q I ro ri rv h;obtain⟨p,xs,k,j,rfl,rfl,hp,hj,q⟩:=h;cases ro;obtain⟨t,rfl⟩:=ri;obtain⟨its,n,r,ho,hz⟩:=I.lst hp;obtain⟨h1,h2,h3,h4⟩:=Tv hj;have hl:=r.length;have hn:=nT
 have I':Inv X pins σ (upd H p (.lst (xs.set j v))) {s with heap:=s.heap.update p (QD (·.setIfInBounds j u))} :=
  I.YZ hp ho (zuS its n j u) (r.set rv j) (by rw[Wo];exact hz) s.toks
 by_cases h0:0<=k
 ·have hk:k.toNat=j:=by
   rw[seqIndex_of h0 h4]at h1;exact w5 h1
  exact PySem.W.ki_setAt ho h0 (by lia) (by rw[wN,<- hl];exact h4) (by rw[hk];exact⟨_,I',q⟩)
 ·have hk:(k+(its.toArray.size:Int)).toNat=j:=by
   rw[seqIndex_neg (by lia) h3]at h1;rw[wN,<- hl];exact w5 h1
  exact PySem.W.ki_setBack ho (by lia) (by rw[wN,<- hl];exact h3) (by lia) (by rw[hk];exact⟨_,I',q⟩)
theorem zrh(lo hi:Option Int)(n:Nat):(qj lo hi none n).1=((HT.bG n 0 lo:Nat):Int)/\(qj lo hi none n).2.1=((HT.bG n n hi:Nat):Int)/\(qj lo hi none n).2.2=1:=by
 refine⟨?_,?_,rfl⟩
 ·cases lo with
  | none=>simp[qj,HT.bG]
  | some i =>
   simp only[qj,HT.bG,XH,show(1:Int) > 0 by decide,if_true]
   by_cases h:i<0
   ·simp only[h,if_true]<;>lia
   ·simp only[h,if_false]<;>lia
 ·cases hi with
  | none=>simp[qj,HT.bG]
  | some i =>
   simp only[qj,HT.bG,XH,show(1:Int) > 0 by decide,if_true]
   by_cases h:i<0
   ·simp only[h,if_true]<;>lia
   ·simp only[h,if_false]<;>lia
theorem ZZ(its:List wf)(lo hi:Option Int):slicePick its.toArray lo hi none=((its.drop (HT.bG its.length 0 lo)).take (HT.bG its.length its.length hi-HT.bG its.length 0 lo)).toArray:=by
 obtain⟨h1,h2,h3⟩:=zrh lo hi its.toArray.size;unfold slicePick;rw[h1,h2,h3];simp only[sliceRange_one,pick_run,wN]<;>rfl
def KG(K:wa):V->Option Int->Option Int->Hp->VK->Prop:=λx lo hi H Q=>∃a xs,x=.ref a/\aG K H a xs /\ ∀p,H p=none->Q (.ref p) (upd H p (.lst (j9 xs lo hi)))
theorem zzN :kG X (KG X.K):=by
 intro pins s σ H x v vl vu lo hi sl Q I rx hs pl pu h;obtain⟨a,xs,rfl,hx,q⟩:=h;cases rx;obtain⟨its,r,ht,hz⟩:=I.list hx;have hlen:=r.length;refine⟨"list",_,slot_list_getitem.lookup,ht.isList.typeIs,?_⟩;refine wpAny_getItem_list_slice ht.isList hs pl pu .none (by simp) ?_ (by rw[wN]<;>lia);rw[ZZ,<- hlen];refine⟨.ref s.heap.objs.size,_,I.laid (t':=s.toks) (o:=.lst (j9 xs lo hi)) (λb ob q=>wn _ q) (wp _) ?_,rfl,q _ (I.aM.fresh (wp _))⟩;exact⟨Wl (O5 xs lo hi) hz,_,0,(r.drop (HT.bG xs.length 0 lo)).take (HT.bG xs.length xs.length hi-HT.bG xs.length 0 lo),wS _ rfl⟩
def jL:V->Bool
 | .bY=>true
 | .bl _=>true
 | .int _=>true
 | .str _=>true
 | _=>false
def kI:V->V->Bool
 | .bY,.bY=>true
 | .bl a,.bl b=>a == b
 | .bl a,.int b=>(if a then 1 else 0) == b
 | .int a,.bl b=>a == (if b then 1 else 0)
 | .int a,.int b=>a == b
 | .str a,.str b=>a == b
 | _,_=>false
theorem ZN{A:w9}{s:wl}{y:V}{u v:wf}(ry:bE y u)(rx:bE x v)(fy:jL y=true)(fx:jL x=true):SeqAt.EqAt A s u v (kI y x):=by
 cases y with
 | bY =>
  cases ry;cases x with
  | bY=>cases rx;exact SeqAt.EqAt.same _
  | bl b=>cases rx;exact SeqAt.EqAt.none_bool b
  | int b=>obtain⟨t,rfl⟩:=rx;exact SeqAt.EqAt.none_int b t
  | str b=>obtain⟨t,rfl⟩:=rx;exact SeqAt.EqAt.none_str b t
  | _=>exact absurd (show false=true from fx) vG
 | bl a =>
  cases ry;cases x with
  | bY=>cases rx;exact SeqAt.EqAt.bool_none a
  | bl b=>cases rx;exact SeqAt.EqAt.bool_bool a b
  | int b=>obtain⟨t,rfl⟩:=rx;exact SeqAt.EqAt.bool_int a b t
  | str b=>obtain⟨t,rfl⟩:=rx;exact SeqAt.EqAt.bool_str a b t
  | _=>exact absurd (show false=true from fx) vG
 | int a =>
  obtain⟨t',rfl⟩:=ry;cases x with
  | bY=>cases rx;exact SeqAt.EqAt.int_none a t'
  | bl b=>cases rx;exact SeqAt.EqAt.int_bool a t' b
  | int b=>obtain⟨t,rfl⟩:=rx;exact SeqAt.EqAt.int_int a t' b t
  | str b=>obtain⟨t,rfl⟩:=rx;exact xS a t' b t
  | _=>exact absurd (show false=true from fx) vG
 | str a =>
  obtain⟨t',rfl⟩:=ry;cases x with
  | bY=>cases rx;exact SeqAt.EqAt.str_none a t'
  | bl b=>cases rx;exact SeqAt.EqAt.str_bool a t' b
  | int b=>obtain⟨t,rfl⟩:=rx;exact xT a t' b t
  | str b=>obtain⟨t,rfl⟩:=rx;exact SeqAt.EqAt.str_str a t' b t
  | _=>exact absurd (show false=true from fx) vG
 | _=>exact absurd (show false=true from fy) vG
def fT(x:V)(u:wf):Bool:=match u with
 | .none=>kI .bY x
 | .bool b=>kI (.bl b) x
 | .int i _=>kI (.int i) x
 | .str z _=>kI (.str z) x
 | _=>false
theorem MR{y:V}{u:wf}(r:bE y u)(f:jL y=true):fT x u=kI y x:=by
 cases y with
 | bY=>cases r;rfl
 | bl b=>cases r;rfl
 | int i=>obtain⟨t,rfl⟩:=r;rfl
 | str z=>obtain⟨t,rfl⟩:=r;rfl
 | _=>exact absurd (show false=true from f) vG
theorem rB{x:V} : ∀{xs:List V}{us:List wf},aT xs us->xs.all jL=true->us.any (fT x)=xs.any λy=>kI y x
 | _,_,.nil,_=>rfl
 | y::xs,u::us,.cons r t,f=>by
  rw[xG,wY]at f;rw[Qu,Qu,MR r f.1,rB t f.2]
theorem rT{A:w9}{s:wl}{x:V}{v:wf}(rx:bE x v)(fx:jL x=true):∀{xs:List V}{us:List wf},aT xs us->xs.all jL=true->∀u∈us,SeqAt.EqAt A s u v (fT x u)
 | _,_,.nil,_=>λu hu=>by cases hu
 | y::xs,u::us,.cons r t,f=>λu' hu=>by
  rw[xG,wY]at f;rcases wR.mp hu with rfl | hu
  ·rw[MR r f.1];exact ZN r rx f.1 fx
  ·exact rT rx fx t f.2 u' hu
def m3(x:V)(xs:List V):Bool:=xs.any λy=>kI y x
def fY(K:wa)(neg:Bool):R2:=λx y H Q=>∃p xs,y=.ref p/\(aG K H p xs\/aV K H p xs)/\jL x=true/\xs.all jL=true/\Q (.bl (if neg then !m3 x xs else m3 x xs)) H
theorem zwM :aH X (wH .In) (fY X.K false):=by
 intro pins s σ H x y v u Q I rx ry h;obtain⟨p,xs,rfl,hq,fx,fs,q⟩:=h;cases ry;rcases hq with hq | hq
 ·obtain⟨its,r,pl,hz⟩:=I.list hq
  refine SeqAt.in_listAt (fT x) pl.isList (λw hw=>rT rx fx r fs w (by simpa using hw)) ⟨.bl _,H,I,rfl,?_⟩;rw[show its.toArray.any (fT x)=its.any (fT x) by simp,rB r fs];exact q
 ·obtain⟨its,r,pl,hz⟩:=I.tuple hq
  refine SeqAt.in_tupleAt (fT x) pl (λw hw=>rT rx fx r fs w (by simpa using hw)) ⟨.bl _,H,I,rfl,?_⟩;rw[show its.toArray.any (fT x)=its.any (fT x) by simp,rB r fs];exact q
theorem zqv :aH X (wH .NotIn) (fY X.K true):=by
 intro pins s σ H x y v u Q I rx ry h;obtain⟨p,xs,rfl,hq,fx,fs,q⟩:=h;cases ry;rcases hq with hq | hq
 ·obtain⟨its,r,pl,hz⟩:=I.list hq
  refine SeqAt.notIn_listAt (fT x) pl.isList (λw hw=>rT rx fx r fs w (by simpa using hw)) ⟨.bl _,H,I,rfl,?_⟩;rw[show its.toArray.any (fT x)=its.any (fT x) by simp,rB r fs];exact q
 ·obtain⟨its,r,pl,hz⟩:=I.tuple hq
  refine SeqAt.notIn_tupleAt (fT x) pl (λw hw=>rT rx fx r fs w (by simpa using hw)) ⟨.bl _,H,I,rfl,?_⟩;rw[show its.toArray.any (fT x)=its.any (fT x) by simp,rB r fs];exact q
theorem zrt :aE X (.builtin "len") (λxs H Q=>∃p ys,xs=[.ref p]/\(aG X.K H p ys\/aV X.K H p ys)/\Q (.int ys.length) H):=by
 intro pins s σ H xs us Q I r h;obtain⟨p,ys,rfl,hq,q⟩:=h;obtain⟨u,rfl,rx⟩:=jg r;cases rx;have hn:=nT;rcases hq with hq | hq
 ·obtain⟨its,r',pl,hz⟩:=I.list hq
  have hlen:=r'.length;exact Calls.call_len_list pl.isList (by simp only[wN]<;>lia) ⟨.int ys.length,H,I.tok _,⟨s.toks+1,by rw[wN,hlen]⟩,q⟩
 ·obtain⟨its,r',pl,hz⟩:=I.tuple hq
  have hlen:=r'.length;exact len_tuple pl (by simp only[wN]<;>lia) ⟨.int ys.length,H,I.tok _,⟨s.toks+1,by rw[wN,hlen]⟩,q⟩
theorem zqC :aE X (.type "list") (λxs H Q=>∃p ys,xs=[.ref p]/\(aG X.K H p ys\/aV X.K H p ys) /\ ∀l,H l=none->Q (.ref l) (upd H l (.lst ys))):=by
 intro pins s σ H xs us Q I r h;obtain⟨p,ys,rfl,hq,q⟩:=h;obtain⟨u,rfl,rx⟩:=jg r;cases rx
 have fin:∀(its:List wf),aT ys its->ys.length<=vc->∀(h':wM)(c':Nat),(∀b o',s.heap.get? b=some o'->h'.get? b=some o') ->
     h'.get? s.heap.objs.size=some {cls:=.type "list",dict:=none,data:=.seq its.toArray c',slots:=#[]}->EP X pins σ Q (.ref s.heap.objs.size) {s with heap:=h'}:=λits r' hz h' c' kp e =>
   ⟨.ref s.heap.objs.size,_,I.laid (t':=s.toks) kp (wp _) (show dS X.prog X.w _ h' _ (.lst ys)from⟨hz,its,c',r',e⟩),rfl,q _ (I.aM.fresh (wp _))⟩
 rcases hq with hq | hq
 . obtain⟨its,r',pl,hz⟩:=I.list hq
   have hlen:=r'.length;obtain⟨o,ho,hc,n,hd⟩:=pl.isList;exact call_list_seq p (.inl rfl) ho hc hd (λh' c' kp e=>fin its r' hz h' c' kp e) (by simp only[wN]<;>lia)
 . obtain⟨its,r',pl,hz⟩:=I.tuple hq
   have hlen:=r'.length;obtain⟨o,ho,hc,n,hd⟩:=pl;exact call_list_seq p (.inr rfl) ho hc hd (λh' c' kp e=>fin its r' hz h' c' kp e) (by simp only[wN]<;>lia)
theorem zoP :aE X (.type "tuple") (λxs H Q=>∃p ys,xs=[.ref p]/\((aG X.K H p ys /\ ∀l,H l=none->Q (.ref l) (upd H l (.tup ys)))\/(aV X.K H p ys/\Q (.ref p) H))):=by
 intro pins s σ H xs us Q I r h;obtain⟨p,ys,rfl,h⟩:=h;obtain⟨u,rfl,rx⟩:=jg r;cases rx;rcases h with⟨hq,q⟩ | ⟨hq,q⟩
 ·obtain⟨its,r',pl,hz⟩:=I.list hq
  have hlen:=r'.length;refine call_tuple_list pl.isList (λh' kp=>?_) (by simp only[wN]<;>lia);have I1:Inv X pins σ H {s with heap:=h'}:=I.kept (t':=s.toks) kp
  have I2:Inv X pins σ (upd H h'.objs.size (.tup ys)) {s with heap:=h'.push {cls:=.type "tuple",data:=.seq its.toArray}} :=
   I1.laid (t':=s.toks) (λb o e=>wn _ e) (wp _) (show dS X.prog X.w _ _ _ (.tup ys)from⟨hz,its,r',qU _ _⟩)
  exact⟨.ref h'.objs.size,_,I2,rfl,q _ (I1.aM.fresh (wp _))⟩
 ·obtain⟨its,r',pl,hz⟩:=I.tuple hq
  exact call_tuple_same pl ⟨.ref p,H,I,rfl,q⟩
def tN(K:wa)(T:String)(x:V)(H:Hp):Prop:=match x with
 | .str _=>T="str"
 | .int _=>T="int"
 | .ref p=>(T="list" /\ ∃xs,aG K H p xs)\/(T="tuple" /\ ∃o,K.lookup p=some o/\o.cls=.type "tuple"/\o.dict=none) \/
     (T="dict"/\((∃kvs,H p=some (.dK kvs)) \/ ∃kvs,H p=some (.dT kvs)))\/(T="set" /\ ∃S n,H p=some (.set S n))
 | _=>False
theorem zCi{pins:List (we × Obj)}{s:wl}{T:String}{v:wf}(I:Inv X pins σ H s)(r:bE x v)(ty:tN X.K T x H) :
  s.TypeIs v T /\ ∀a,v=.ref a->∃ob,s.heap.get? a=some ob/\ob.dict=none:=by
 cases x with
 | str z =>
  obtain⟨t,rfl⟩:=r;cases (show T="str" from ty);exact⟨typeIs_str s z t,λ_ e=>nomatch e⟩
 | int i =>
  obtain⟨t,rfl⟩:=r;cases (show T="int" from ty);exact⟨typeIs_int s i t,λ_ e=>nomatch e⟩
 | ref p =>
  cases r;rcases ty with⟨rfl,xs,hq⟩ | ⟨rfl,o,hk,hc,hd⟩ | ⟨rfl,hk⟩ | ⟨rfl,S,n,hk⟩
  ·obtain⟨its,_,pl,_⟩:=I.list hq
   refine⟨pl.isList.typeIs,λa e=>?_⟩;cases e;obtain⟨o,n,e,c,hd,_⟩:=pl;exact⟨o,e,hd⟩
  ·refine⟨⟨o,I.dG p o hk,hc⟩,λa e=>?_⟩
   cases e;exact⟨o,I.dG _ o hk,hd⟩
  ·have z:∃o,s.heap.get? p=some o/\o.ExactDict:=by
    rcases hk with⟨kvs,hk⟩ | ⟨kvs,hk⟩
    ·obtain⟨_,_,_,_,o,_,_,e,ex,_⟩:=I.aM p _ hk
     exact⟨o,e,ex⟩
    ·obtain⟨_,_,_,_,o,_,_,e,ex,_⟩:=I.aM p _ hk
     exact⟨o,e,ex⟩
   obtain⟨o,e,ex⟩:=z;refine⟨⟨o,e,ex.1⟩,λa e2=>?_⟩;cases e2;exact⟨o,e,ex.2.1⟩
  ·obtain⟨o,_,_,_,e,ex,_⟩:=I.aM p _ hk
   refine⟨⟨o,e,ex.1⟩,λa e2=>?_⟩;cases e2;exact⟨o,e,ex.2.1⟩
 | _=>exact WT ty
def M3(K:wa)(T:String)(r:V->List V->Hp->VK->Prop)(to:TE)(t:TA):TE:=λσ H Q=>to σ H λx H1=>tN K T x H1/\t σ H1 λxs H2=>r x xs H2 Q
variable{o e:Expr}{es:List Expr}{to:TE}{t:TA}{name:Str}{apos cpos:Pos}{T id:String}{r:V->List V->Hp->VK->Prop}
theorem jn(pa:PlainAttrs T)(slot:Slot T name id)(hty:typeOf (.builtin id)=pure (.type "method_descriptor"))(hm:Nl X id r)(ho:PE X o to)(ha:PA X (e::es) t)
  (hbase:attributeBase o name X.env (eval o X.env)=eval o X.env:=by rfl)
  (hfew:((backTo cpos (vf (e::es) X.env)).all (λx=>!x.1)&&(backToKw cpos (keywordEach [] X.env)).all (λx=>x.1.isSome)
   && decide ((e::es).length+([]:List Keyword).length+(if([]:List Keyword).isEmpty then 0 else 1)<30))=true:=by rfl)
  (hline:(apos.endLine == cpos.line)=true:=by rfl) (hs:vf (e::es) X.env=(false,eval e X.env)::vf es X.env:=by rfl) (hplain:(backTo cpos (vf es X.env)).any (·.1)=false:=by rfl) :
  PE X (.Call (.Attribute o name apos) (e::es) [] cpos) (M3 X.K T r to t):=by
 intro pins s σ H Q I h;refine wpAny_Call_method_late hbase hfew hline rfl (aQ (ho pins s σ H _ I h) λv s1 ⟨x,H1,I1,r1,ty,q1⟩=>?_);obtain⟨h1,h2⟩:=zCi I1 r1 ty;refine⟨T,id,pa,slot,hty,h1,h2,?_⟩;have hA:=ha cpos pins s1 σ H1 _ I1 q1;rw[hs]at hA ⊢;refine Calls.callWith_builtin (by show(false || (backTo cpos (vf es X.env)).any (·.1))=false;rw[hplain]<;>rfl) (xz ?_);exact aQ hA λus s2 ⟨vs,H2,I2,r2,q2⟩=>hm pins s2 σ H2 x vs v us Q I2 r1 r2 q2
end
def CW(X:Cx)(id:String)(r:V->List V->Hp->VK->Prop):Prop :=
 ∀(pins:List (we × Obj))(s:wl)(σ : St)(H:Hp)(x:V)(xs:List V)(v:wf)(us:List wf)(Q:VK),Inv X pins σ H s->bE x v->aT xs us->r x xs H Q ->
  wq (model X.prog X.w) X.A (call (.builtin id) (v::us)) (EP X pins σ Q) X.xe s
theorem aT.one:∀{x:V}{us:List wf},aT [x] us->∃u,us=[u]/\bE x u
 | _,_,.cons r .nil=>⟨_,rfl,r⟩
theorem aT.rep{xs:List V}{us:List wf}(h:aT xs us):∀k:Nat,aT (vn k xs).flatten (vn k us).flatten
 | 0=>.nil
 | k+1=>by
  rw[VM,VM,Vx,Vx];exact aT.append h (aT.rep h k)
theorem UB(its:List wf):∀(k:Nat)(acc:List wf),
  XZ (λx1 x2=>x1++x2) acc.toArray (vn k its.toArray)=(acc++(vn k its).flatten).toArray
 | 0,acc=>by simp
 | k+1,acc=>by
  have e:acc.toArray++its.toArray=(acc++its).toArray:=by simp
  have e2:(acc++its)++(vn k its).flatten=acc++(vn (k+1) its).flatten:=by
   rw[VM,Vx,W4]
  rw[<- e2,<- UB its k (acc++its),<- e,VM,List.foldl_cons]
section
variable{X:Cx}{pins:List (we × Obj)}{σ : St}{H:Hp}{s:wl}{l b:we}{xs ys zs:List V}
theorem Inv.Zb{its its':List wf}{n:Nat}{f:Array wf->Array wf}{t':Nat}(I:Inv X pins σ H s)(hH:H l=some (.lst xs))
  (e:s.heap.get? l=some {cls:=.type "list",data:=.seq its.toArray n}) (hf:f its.toArray=its'.toArray) (hv:aT ys its') (hz:ys.length<=vc) :
  Inv X pins σ (upd H l (.lst ys)) {s with heap:=s.heap.update l (QD f),toks:=t'}:=by
 have q:=PySem.IsL.update e f;rw[hf]at q;refine I.write (x:=l) (e:=l) (by rw[hH];exact trivial) (.inl rfl) (λb' u hb hu=>(qR s.heap (QD f) (Wt hb)).trans hu) ⟨_,q⟩ ?_;exact⟨hz,its',_,hv,q⟩
theorem Inv.Bg{its:List wf}{t':Nat}(I:Inv X pins σ H s)(hv:aT ys its)(hz:ys.length<=vc) :
  Inv X pins σ (upd H s.heap.objs.size (.lst ys)) {s with heap:=s.heap.push {cls:=.type "list",data:=.seq its.toArray},toks:=t'} :=
 I.laid (λ_ _ q=>wn _ q) (wp _) ⟨hz,its,0,hv,wS _ rfl⟩
theorem Inv.fresh(I:Inv X pins σ H s):H s.heap.objs.size=none:=I.aM.fresh (wp _)
theorem Inv.pk(I:Inv X pins σ H s)(hH:H l=some (.lst xs)):xs.length<=vc /\ ∃(its:List wf)(n:Nat),aT xs its/\xs.length=its.length/\s.heap.get? l=some {cls:=.type "list",data:=.seq its.toArray n}:=by
 obtain⟨z,its,n,r,e⟩:=I.aM l _ hH;exact⟨z,its,n,r,r.length,e⟩
theorem zy4{n:Nat}(h:n<=vc):qu n=false:=by
 unfold qu;exact decide_eq_false (by lia)
end
section
variable{X:Cx}
def N8:V->List V->Hp->VK->Prop:=λx vs H Q=>∃l xs y,x=.ref l/\vs=[y]/\H l=some (.lst xs)/\xs.length<vc/\Q .bY (upd H l (.lst (xs++[y])))
theorem iS:CW X "list.append" N8:=by
 intro pins s σ H x vs v us Q I rx rv h;obtain⟨l,xs,y,rfl,rfl,hH,hz,q⟩:=h;cases rx;obtain⟨u,rfl,ru⟩:=rv.one;obtain⟨z,its,n,r,hl,e⟩:=I.pk hH;refine call_meets F.slot_list_append ⟨_,e,rfl⟩ F.entry_list_append (F.args_list_append_2 _ _) (PySem.list_append l its.toArray n u (by rw[wN];lia)) ⟨e,?_⟩;refine⟨.bY,_,I.Zb (its':=its++[u]) hH e (by simp) (r.append (.cons ru .nil)) ?_,rfl,q⟩;rw[wQ,vS]
 lia
def B8:R2:=λx y H Q=>∃l b xs zs,x=.ref l/\y=.ref b/\H l=some (.lst xs)/\H b=some (.lst zs)/\xs.length+zs.length<=vc /\ ∀p,H p=none->Q (.ref p) (upd H p (.lst (xs++zs)))
theorem zCk:aH X (WG .Add) B8:=by
 intro pins s σ H x y v u Q I rx ry h;obtain⟨l,b,xs,zs,rfl,rfl,hH,hB,hz,q⟩:=h;cases rx;cases ry;obtain⟨z,its,n,r,hl,e⟩:=I.pk hH;obtain⟨z2,its2,n2,r2,hl2,e2⟩:=I.pk hB;refine PySem.P.add_list e e2 ?_ (by rw[wN,wN];lia);have ea:its.toArray++its2.toArray=(its++its2).toArray:=by simp
 rw[ea];exact⟨.ref _,_,I.Bg (t':=s.toks) (r.append r2) (by rw[wQ];lia),rfl,q _ I.fresh⟩
def mV:R2:=λx y H Q=>∃l k xs,x=.ref l/\y=.int k/\H l=some (.lst xs) /\ -(2^63)<=k/\k<2^63/\xs.length*k.toNat<=vc /\
 ∀p,H p=none->Q (.ref p) (upd H p (.lst (vn k.toNat xs).flatten))
theorem zAu{α : Type}(xs:List α)(k:Nat):(vn k xs).flatten.length=k*xs.length:=by
 induction k with
 | zero=>simp
 | succ k ih=>rw[VM,Vx,wQ,ih,qw,Nat.add_comm]
theorem Fi:aH X (WG .Mult) mV:=by
 intro pins s σ H x y v u Q I rx ry h;obtain⟨l,k,xs,rfl,rfl,hH,h1,h2,hz,q⟩:=h;cases rx;obtain⟨t,rfl⟩:=ry;obtain⟨z,its,n,r,hl,e⟩:=I.pk hH;have hlen:its.toArray.size*k.toNat<=vc:=by rw[wN,<- hl];exact hz
 have hcap:¬ its.toArray.size*k.toNat > (2^63-1) / 8:=by
  have:(vc:Nat)<=(2^63-1) / 8:=by decide
  lia
 have hfit:¬ (!Builtin.List.listFitsIndex k)=true:=by
  rw[fitsIndex_both h1 h2];exact vG
 have hlong:¬ qu (its.toArray.size*k.toNat)=true:=by
  rw[zy4 hlen];exact vG
 have hnew:XZ (λx1 x2=>x1++x2) #[] (vn (if its.toArray.isEmpty=true then 0 else k.toNat) its.toArray)=(vn k.toNat its).flatten.toArray:=by
  have f0:∀m:Nat,XZ (λx1 x2=>x1++x2) #[] (vn m its.toArray)=(vn m its).flatten.toArray:=λm=>by
   have:=UB its m [];rw[qm]at this;exact this
  rw[f0];cases its with
  | nil=>simp
  | cons a r'=>rw[if_neg (by simp)]
 refine wpAny_binaryOp_repeat_ref (T:="list") (U:="int") (by decide) ⟨_,e,rfl⟩ (λs'=>typeIs_int s' k t) noFill_list_mul F.fills_int_mul X0 repeat_list F.slot_int_index.lookup
  (call_meets X0 (typeIs_int s k t) F.entry_int_rmul (F.args_int_rmul_2 _ _) (int___rmul___int_list k t l its.toArray n)
   ⟨e,rfl,⟨_,e,rfl⟩,call_meets F.slot_list_mul ⟨_,e,rfl⟩ F.entry_list_mul (F.args_list_mul_2 _ _) (AutoListH.list___mul___list_int_3 l its.toArray n k t hfit hcap hlong) ⟨e,?_⟩⟩)
 rw[hnew];exact⟨.ref _,_,I.Bg (t':=s.toks) (r.rep k.toNat) (by rw[zAu,xX];exact hz),rfl,q _ I.fresh⟩
end
section
variable{prog:wI}{w:wO}{A:w9}{E:wf->wl->Prop}{s:wl}
end
section
variable{X:Cx}
end
end L2
namespace Att
open PySem PySem.W PySem.Calls PyProof.Rows
theorem ZP{P:Params}{h:wM} : ∀(ns:List Int)(vs:List wf),WellAll P h vs (ns.map WData.int)->IntsAre vs ns:=by
 intro ns
 induction ns with
 | nil =>
  intro vs w;rw[QJ]at w;cases w;exact .nil
 | cons n ns ih =>
  intro vs w;rw[ve]at w;cases w with
  | cons a b =>
   cases a;exact .cons _ _ (ih _ b)
theorem Z_{l:OpenLaw}{n:Nat}(hn:l.most=some n){P:Params}{h:wM}{args:List WData}{vals:List wf}
  (hpre:l.row.toRowW.claim.pre args=true) (hwl:WellAll P h vals args) :
  ∃a vs ns,vals=[Value.ref a]/\args=[WData.list (ns.map WData.int)]/\h.get? a=some {cls:=.type "list",data:=.seq vs.toArray}/\IntsAre vs ns/\ns.length<=n:=by
 have hsh:WShape.hasAll [] args [.list .int]=true:=(pre_splitW hpre).1;have hc:l.pre.holds [] {args:=args}=true:=(pre_splitW hpre).2;obtain⟨d,r,rfl,h1,h2⟩:=hasAllW_cons hsh;obtain rfl:=hasAllW_nil h2;obtain⟨xs,rfl,h3⟩:=hasW_list h1;obtain⟨ns,rfl⟩:=items_int h3
 have hlen:ns.length<=n:=by
  unfold OpenLaw.pre at hc
  have h4:(WTm.not (.lt (.lit (.int (n:Int))) (.len (.arg 0)))).holds [] {args:=[.list (ns.map .int)]}=true:=by
   have h4:=(holds_andW hc).1;rw[hn]at h4;exact h4
  have h5:=condW_of h4 (w_not (w_lt w_lit (w_len_list (w_arg rfl))));rw[wm]at h5;refine Nat.le_of_not_lt λq=>?_
  have q':(n:Int)<((ns.length:Nat):Int):=by lia
  first
   | (rw[decide_eq_true q']at h5;exact absurd h5 (by decide))
   | (simp at h5;lia)
 cases hwl with
 | cons w1 w2 =>
  cases w2;cases w1 with
  | list ho hall=>exact⟨_,_,ns,rfl,rfl,ho,ZP ns _ hall,hlen⟩
theorem zwY(l:OpenLaw)(args:List WData):l.row.toRowW.claim.post args (.bool true) args=true :=
 postW_of (r:=l.row.toRowW) (X:=(true == true))
  (show WShape.has [] (.bool true) .bool=true by first | rfl | decide | simp[WShape.has,WShape.arms,WShape.armsAll])
  (show(WTm.eq .res (.lit (.bool true))).value [] {args:=args,res:=some (.bool true),after:=args}=some (.bool (true == true))from w_eq_bool (w_res rfl) w_lit) rfl
theorem Yy{l:OpenLaw}{n:Nat}{q:wI}{loose:List Str}{XP:(Str->Option wf)->wM->Prop}{YP:wO->wM->Prop}{d:DefRec}
  (hn:l.most=some n) (hdf:d.params.defaults=[])
  (call:∀(w:wO)(s₀ s₁ : wl)(mg mb:Str->Option wf)(fa:we)(o:Obj)(pm cd doc:wf)(a:we)(vs:List wf)(ns:List Int),
   Ground q loose [] XP w s₀ mg mb s₁.heap->YP w s₁.heap ->
   s₁.heap.get? fa=some o->o.data=.func (docDef d.name d.params d.body d.scope pm cd doc)->s₁.heap.CodeRec cd d.name->mg d.name=some (.ref fa) ->
   s₁.heap.get? a=some {cls:=.type "list",data:=.seq vs.toArray}->IntsAre vs ns->ns.length<=n->s₁.gens = #[] ->
   codeAny (model l.prog w) callerA (.call (.ref fa) ⟨[.ref a],[]⟩) (λr s'=>r=.ok (.ret (.bool true))/\OldK s₁.heap s'.heap/\s'.os=s₁.os/\AllBare s'.gens) s₁) :
  WalkO q loose XP YP l.row.toRowW d [] (λf vs=>X1 f vs):=by
 intro w s₀ s₁ mg mb G Y fa o pm cd doc dV kV ho hd hcd hD hmg hg args vals as hpre hlay hrd hwl hlo;obtain rfl:dV=.none:=Dflts.none hD hdf;obtain rfl:kV=.none:=Dflts.noKw hD;obtain⟨a,vs,ns,rfl,rfl,hobj,hints,hlen⟩:=Z_ hn hpre hwl;refine enter_call (codeAny_mono (call w s₀ s₁ mg mb fa o pm cd doc a vs ns G Y ho (fd_plain hd) hcd hmg hobj hints hlen hg) λr s' hq=>?_);obtain⟨rfl,h2,h3,h4⟩:=hq;exact⟨.inl ⟨.bool true,.bool true,[],rfl,λ_=>rfl,.bool true,zwY l _,λ_=>⟨xH.nil,λ_ hm=>(nomatch hm)⟩⟩,h2,h3,h4⟩
section
variable{prog:wI}{w:wO}{A:w9}{E:wf->wl->Prop}{s:wl}{K:Frag}
def zEG(h:wM)(L d:we):List (we × Obj):=(wo h.objs.size).filterMap λa=>if a=L\/a=d then none else(h.get? a).map λo=>(a,o)
end
end Att
namespace L2
open PySem PySem.Spec PyProof.Rows
theorem MQ:∀{vs:List wf}{ns:List Int},IntsAre vs ns->aT (ns.map V.int) vs
 | _,_,.nil=>.nil
 | _,_,.cons n t h=>.cons ⟨t,rfl⟩ (MQ h)
def zq(H:Hp):Prop:=∀b,H b=none \/ ∃o xs,H b=some (.gz o (.lst xs))
theorem zzw{P:wI}{w:wO}{K:wa}{mg mb:Str->Option wf}{CX:fW}{k:Nat}{fa a:we}{fd:wy}{x:Str}{sp:Sp}{s₁ : wl}{vs:List wf}{ns:List Int}
   (KX:K.In s₁.heap) (hns:s₁.heap.Ns wK mg) (hb:s₁.heap.Ns builtinsNs mb) (hbb:∀x:Str,x≠"__name__" -> mb x=vO x) (hlim:s₁.heap.NoLimit) (hg:s₁.gens = #[])
   (ha:s₁.heap.get? a=some {cls:=.type "list",data:=.seq vs.toArray}) (hi:IntsAre vs ns) (hl:ns.length<=vc) (hr:eF k callerA)
   (F:∀base:wM,K.In base->base.Ns wK mg->aK P w K mg base CX k fa fd [x] sp) (hbind:∀(s:wl)(u:wf),BindsTo s fd ⟨[u],[]⟩ [(x,u)])
   (hsp:∀H:Hp,zq H->aG K H a (ns.map V.int)->sp [.ref a] H (λv _=>v=.bl true) λ_ _ _=>False)
   (hCX:∀H e s',CX [] H s₁ (λ_ _ _=>False) e s'->False) :
   codeAny (model P w) callerA (.call (.ref fa) ⟨[.ref a],[]⟩) (λr s'=>r=.ok (.ret (.bool true))/\OldK s₁.heap s'.heap/\s'.os=s₁.os/\AllBare s'.gens) s₁:=by
 have rv:=MQ hi;have lenV:=hi.length
 have core:∀H:Hp,zq H->aG K H a (ns.map V.int)->dE P w H s₁.heap->(∀b,H b≠none->b=a)->(H a≠none->K.lookup a=none) ->
     codeAny (model P w) callerA (.call (.ref fa) ⟨[.ref a],[]⟩) (λr s'=>r=.ok (.ret (.bool true))/\OldK s₁.heap s'.heap/\s'.os=s₁.os/\AllBare s'.gens) s₁:=by
   intro H hO hS aM hA hK;have base_of:∀{b:we}{o:Obj},s₁.heap.get? b=some o->H b=none->(kx s₁.heap H).get? b=some o:=λe n=>zzk e n
   have noA:∀{b:we}{o:Obj}{es:Array DictEntry}{ep:Nat},s₁.heap.get? b=some o->o.data=.dict es ep->H b=none:=λ{b o es ep} e d=>by
     cases q:H b with
     | none=>rfl
     | some u =>
       have e':b=a:=hA b (by rw[q];simp);subst e';rw[ha]at e;cases e;have d':Data.seq vs.toArray _=Data.dict es ep:=d;cases d'
   have nsK:∀{b:we}{m:Str->Option wf},s₁.heap.Ns b m->(kx s₁.heap H).Ns b m:=λ{b m} ⟨o,es,ep,e,d,r⟩=>⟨o,es,ep,base_of e (noA e d),d,r⟩
   have hKb:K.In (kx s₁.heap H):=λb o e=>base_of (KX b o e) (by
     cases q:H b with
     | none=>rfl
     | some u =>
       have e':b=a:=hA b (by rw[q];simp);subst e';rw[hK (by rw[q];simp)]at e;cases e)
   have hM:Mod K mg (kx s₁.heap H):=⟨hKb,nsK hns,⟨mb,nsK hb,hbb⟩,let ⟨mc,h1,h2⟩:=hlim;⟨mc,nsK h1,h2⟩⟩;have e0:z8 P w K mg (kx s₁.heap H) callerA [] s₁ H:=⟨rfl,hM,λb o e=>zAD e,Nat.le_of_eq (zxi _ _),trivial,λb hb=>absurd (show b∈([]:List we)from hb) (by simp),aM,.of_eq hg⟩;refine codeAny_mono ((F _ hKb (nsK hns)).run callerA [] s₁ H ⟨[.ref a],[]⟩ [.ref a] [.ref a] _ _ hr e0 (hbind s₁ (.ref a)) (.cons rfl .nil) (hsp H hO hS)) λr s' h=>?_
   cases r with
   | error e=>exact(hCX H e s' h).elim
   | ok fl =>
     cases fl with
     | next=>exact WT h
     | brk=>exact WT h
     | cont=>exact WT h
     | ret u =>
       obtain⟨v,H',os,bare,un,hok',r',q⟩:=h;have q':v=.bl true:=q;subst q';obtain rfl:u=Value.bool true:=r';refine⟨rfl,OldK.of_keep λb o e=>?_,os,bare⟩;cases q:H b with
       | none=>exact un.keep b o e q (by intro z;exact absurd (show b∈([]:List we)from z) (by simp)) (by simp)
       | some u =>
         rcases hO b with z | ⟨ob,xs,z⟩
         . rw[q]at z;cases z
         . have z2:=un.gf b ob _ z
           obtain⟨e1,_⟩:=aM b _ z;obtain⟨e2,_⟩:=hok' b _ z2;rw[e]at e1;cases e1;exact e2
 cases hk:K.lookup a with
 | some o =>
   have e:=KX a o hk;rw[ha]at e;cases e;refine core (λ_=>none) (λ_=>.inl rfl) (.inr ⟨_,vs.toArray,_,hk,rfl,rfl,rfl,by rw[wN,lenV];exact hl,by simpa using rv⟩) (λb u z=>by have z':(none:Option HO)=some u:=z;cases z') (λb z=>absurd rfl z) λz=>absurd rfl z
 | none =>
   refine core (λb=>if b=a then some (.gz {cls:=.type "list",data:=.seq vs.toArray} (.lst (ns.map V.int)))else none) (λb=>?_) (.inl (.inr ⟨{cls:=.type "list",data:=.seq vs.toArray},if_pos rfl⟩)) (λb u z=>?_) (λb z=>?_) λ_=>hk
   . by_cases hb:b=a
     . exact .inr ⟨_,_,if_pos hb⟩
     . exact .inl (if_neg hb)
   . by_cases hb:b=a
     . have z':=(if_pos hb).symm.trans z
       cases z';subst hb;exact⟨ha,by rw[wm];exact hl,vs,_,rv,ha⟩
     . have z':=(if_neg hb).symm.trans z
       cases z'
   . by_cases hb:b=a
     . exact hb
     . exact absurd (if_neg hb) z
abbrev KOf{K:wa}{h:wM}(_:K.In h):wa:=K
theorem YU{l:Q0}{n k:Nat}{q:wI}{loose:List Str}{XP:(Str->Option wf)->wM->Prop}{YP:wO->wM->Prop}{d:DefRec}{K:Params->wa}{CX:wO->fW}{sp:wO->Sp}{x:Str}
  (hn:l.most=some n) (hn2:n<=vc) (hdf:d.params.defaults=[]) (hr:eF k callerA)
  (hY:∀(w:wO)(h:wM),YP w h->(K w.params).In h)
  (F:∀(w:wO)(mg:Str->Option wf)(fa:we)(h:wM),(K w.params).In h->h.Ns wK mg->mg d.name=some (.ref fa) ->
   ∃fd:wy,(∀(s:wl)(u:wf),BindsTo s fd ⟨[u],[]⟩ [(x,u)]) /\
    ∀base:wM,(K w.params).In base->base.Ns wK mg->aK l.prog w (K w.params) mg base (CX w) k fa fd [x] (sp w))
  (hsp:∀(w:wO)(H:Hp)(a:we)(ns:List Int),ns.length<=n->zq H->aG (K w.params) H a (ns.map V.int)->sp w [.ref a] H (λv _=>v=.bl true) λ_ _ _=>False)
  (hCX:∀(w:wO)(H:Hp)(s:wl)(e:wf)(s':wl),CX w [] H s (λ_ _ _=>False) e s'->False) :
  uv q loose XP YP l.row.toRowW d [] (λf vs=>X1 f vs):=by
 refine Att.Yy hn hdf λw s₀ s₁ mg mb fa o pm cd doc a vs ns G Y ho hd hcd hmg hobj hints hlen hg=>?_
 have KX:=hY w _ Y;obtain⟨fd,hb,hF⟩:=F w mg fa _ KX G.T.g hmg;exact zzw KX G.T.g G.T.b G.T.builtins G.T.nolimit hg hobj hints (Wl hlen hn2) hr hF hb (λH hO hS=>hsp w H a ns hlen hO hS) λH e s'=>hCX w H s₁ e s'
def nC(s:wZ):Arguments:=match s with
 | .FunctionDef _ a _ _ _ _ _ _ _ _=>a
 | _=>{posonlyargs:=[],args:=[],vararg:=none,kwonlyargs:=[],kw_defaults:=[],kwarg:=none,defaults:=[]}
def kS(s:wZ):List wZ:=match s with
 | .FunctionDef _ _ b _ _ _ _ _ _ _=>b
 | _=>[]
def aJ(s:wZ):Scope:=match s with
 | .FunctionDef _ _ _ _ _ _ sc _ _ _=>sc
 | _=>{kind:=.function,names:=[],isGenerator:=false,isCoroutine:=false}
abbrev aR:fW:=λ_ _ _ _ _ _=>False
abbrev E0:XK:=λ_ _ _=>False
theorem zEb{X:Cx} : nE aR X E0:=λ_ _ _ _ _ _ _ h=>h.elim
structure k9(K:wa)(x qual:Str)(st:wZ)(f:we)(fd:wy):Prop where
 ex:∃(oc:wf)(od:Option we)(kV doc pm:wf)(an:Option we)(cdv ct:wf)(osl:Array (Option wf)),
   fd=VE x qual (nC st) (kS st) (aJ st) .none kV doc pm an cdv ct/\K.lookup f=some ⟨oc,od,.func fd,osl⟩/\Qe K cdv qual=true
 kp:qE K (.ref f)=true
section
variable{P:wI}{w:wO}{K:wa}{mg:Str->Option wf}{base:wM}
variable{qual x:Str}{st:wZ}{f:we}
theorem k9.ok{fd:wy}{N ps:List Str}{k:Nat}{sp:Sp}(F:k9 K x qual st f fd)(S:aP N ps (aJ st))(len:∀vs H Q E,sp vs H Q E->vs.length=ps.length)
  (hbody:∀(cdv:wf)(A:w9)(outer:List Env)(s:wl)(H:Hp)(vs:List V)(Q:VK)(E:XK),eF k (A.deeper (envOfC qual (aJ st) s.heap.objs.size f cdv))->sp vs H Q E ->
   ∃t,fD (iP aR P w K mg base N qual (aJ st) f cdv A outer s H E).tZ (kS st) t/\t {nx:=λ_ H'=>Q .bY H',rt:=Q} (start N vs) H):aK P w K mg base aR (k+1) f fd ps sp:=by
 obtain⟨oc,od,kV,doc,pm,an,cdv,ct,osl,rfl,lk,hcd⟩:=F.ex;refine Mi lk hcd S len λA outer s H vs Q E hr hsp=>?_
 obtain⟨t,h,q⟩:=hbody cdv A outer s H vs Q E hr hsp;exact⟨t,h.tZ,q⟩
theorem k9.binds{fd:wy}{ps:List Str}(F:k9 K x qual st f fd)
  (h:∀(kV doc pm:wf)(an:Option we)(cdv ct:wf)(us:List wf),us.length=ps.length->bindArgs (VE x qual (nC st) (kS st) (aJ st) .none kV doc pm an cdv ct) ⟨us,[]⟩=pure (ps.zip us)):ma K fd ps []:=by
 obtain⟨oc,od,kV,doc,pm,an,cdv,ct,osl,rfl,lk,hcd⟩:=F.ex;exact .all (h kV doc pm an cdv ct)
theorem U5{oc:wf}{od an:Option we}{osl:Array (Option wf)}{kV doc pm cdv ct:wf}(l:K.lookup f=some ⟨oc,od,.func (VE x qual (nC st) (kS st) (aJ st) .none kV doc pm an cdv ct),osl⟩)
  (c:Qe K cdv qual=true) (k:qE K (.ref f)=true):k9 K x qual st f (VE x qual (nC st) (kS st) (aJ st) .none kV doc pm an cdv ct):=⟨⟨oc,od,kV,doc,pm,an,cdv,ct,osl,rfl,l,c⟩,k⟩
end
theorem gj{n:Nat}(h:n<=1000):n<vc:=WY h (by decide)
section
variable{X:Cx}
theorem pv(i:Nat){x:Str}{pos:Pos}(hN:X.N[i]? = some x:=by rfl)(hv:zR X.env.scope x:=by first | exact Or.inl rfl | exact Or.inr (Or.inl rfl) | exact Or.inr (Or.inr rfl))(hd:(x == ("__debug__" : Str))=false:=by decide)
  (hcd:(x == ("__classdict__" : Str))=false:=by decide):PE X (.Name x pos) (lQ i):=zCA hN hv hd hcd
end
theorem nN{A B:Prop}(h:B):if false=true then A else B:=by
 rw[if_neg vG];exact h
theorem mZ{A B:Prop}(h:A):if true=true then A else B:=by
 rw[if_pos rfl];exact h
def ah(H H':Hp):Prop:=∀b o,H b=some o->H' b=some o
theorem ah.refl(H:Hp):ah H H:=λ_ _ h=>h
theorem ah.trans{H H1 H2:Hp}(a:ah H H1)(b:ah H1 H2):ah H H2:=λc o h=>b c o (a c o h)
theorem ah.seq{K:wa}{H H':Hp}{a:we}{xs:List V}(e:ah H H')(h:aG K H a xs):aG K H' a xs:=by
 rcases h with(h | ⟨o,h⟩) | h
 ·exact .inl (.inl (e _ _ h))
 ·exact .inl (.inr ⟨o,e _ _ h⟩)
 ·exact .inr h
end L2
namespace GM
variable{B d t u:Int}{a b h x y:Rat}{c i j k m n v w:Nat}{l ps xs ys:List Rat}{ns:List Int}{left:List Nat}{fl:Nat->Nat}
def dv(t b:Int):Int:=if b<0 then -((vE t b:Nat):Int)else((vE t b:Nat):Int)
theorem Fm{b:Int}(hb:b≠0):0<vE t b:=V1 t hb
theorem LC{b:Int}(hb:b≠0):dv t b≠0:=by
 have:=Fm (t:=t) hb;unfold dv
 split<;>lia
theorem fF{a:Int}(h:d ∣ a)(hd:d≠0):a.fdiv d=a / d:=by
 obtain⟨k,rfl⟩:=h;rw[Int.mul_fdiv_cancel_left _ hd,VG _ hd]
theorem UM{b:Int}(hb:b≠0):t.fdiv (dv t b)=(wx t b).num:=by
 have hg:=Fm (t:=t) hb;have h1:((vE t b:Nat):Int) ∣ t:=V9 ..;rw[Rat.num_divInt,xY b t];unfold dv
 by_cases h:b<0
 ·rw[if_pos h,Qv h,fF (Xx.mpr h1) (by lia),Int.ediv_neg]
  obtain⟨k,hk⟩:=h1;have:(-1:Int)*t=((vE t b:Nat):Int)*(-k):=by rw[X2,Xy,<- hk]
  rw[this,VG _ (by lia)];have e:t / ((vE t b:Nat):Int)=k:=Qo (by lia) hk;rw[e]
 ·rw[if_neg h,Q9 (by lia),xa,fF h1 (by lia)]
theorem zCz{b:Int}(hb:b≠0):b.fdiv (dv t b)=((wx t b).den:Int):=by
 have hg:=Fm (t:=t) hb;have h1:((vE t b:Nat):Int) ∣ b:=qK ..;rw[uj,if_neg hb,xY b t];unfold dv
 by_cases h:b<0
 ·rw[if_pos h,fF (Xx.mpr h1) (by lia),Int.ediv_neg,VH]
  obtain⟨k,hk⟩:=h1;have:(b.natAbs:Int)=((vE t b:Nat):Int)*(-k):=by rw[Xy,<- hk];lia
  rw[this,VG _ (by lia)];have e:b / ((vE t b:Nat):Int)=k:=Qo (by lia) hk;rw[e]
 ·rw[if_neg h,fF h1 (by lia),VH]
  have:(b.natAbs:Int)=b:=by lia
  rw[this]
def gZ(p q:Int):Bool:=decide (1<=q)&&decide (vE p q=1)
theorem RN(r:Rat):gZ r.num r.den=true:=by
 have h:=r.reduced;have hd:=r.den_pos;simp only[gZ,wY,decide_eq_true_eq];refine⟨by lia,?_⟩;have:Nat.gcd r.num.natAbs r.den=1:=h
 simpa [vE] using this
theorem zqV{p q:Int}(h:gZ p q=true):∃r:Rat,p=r.num/\q=(r.den:Int):=by
 simp only[gZ,wY,decide_eq_true_eq]at h;obtain⟨h1,h2⟩:=h;refine⟨⟨p,q.toNat,by lia,?_⟩,rfl,by show q=((q.toNat:Nat):Int);lia⟩;have e:q.toNat=q.natAbs:=by lia
 rw[e];exact h2
theorem T_{a b:Int}(hb:0<b)(ha:0<=a):vE b (a % b)=vE a b:=by
 rw[xY a b];have e:a=a % b+b*(a / b):=(Int.emod_add_mul_ediv a b).symm
 conv=>rhs;rw[e]
 rw[Int.gcd_add_mul_left_right]
structure Bd(n:Nat)(x:Int):Prop where
 lt:x.natAbs<2^n
theorem Bd.mono{x:Int}(h:Bd m x)(e:m<=n):Bd n x:=⟨wU h.lt (Nat.pow_le_pow_right (by decide) e)⟩
theorem Bd.mul{x y:Int}(h:Bd m x)(k:Bd n y):Bd (m+n) (x*y):=by
 refine⟨?_⟩;rw[xq,xb];exact Nat.mul_lt_mul'' h.lt k.lt
theorem Bd.add{x y:Int}(h:Bd m x)(k:Bd n y):Bd (max m n+1) (x+y):=by
 have h1:=(h.mono (X3 m n)).lt;have h2:=(k.mono (XI m n)).lt;refine⟨?_⟩;rw[Vm]
 lia
theorem Bd.sub{x y:Int}(h:Bd m x)(k:Bd n y):Bd (max m n+1) (x-y):=by
 have h1:=(h.mono (X3 m n)).lt;have h2:=(k.mono (XI m n)).lt;refine⟨?_⟩;rw[Vm]
 lia
theorem Bd.neg{x:Int}(h:Bd n x):Bd n (-x):=⟨by rw[Int.natAbs_neg];exact h.lt⟩
theorem Bd.le{x y:Int}(h:Bd n x)(e:y.natAbs<=x.natAbs):Bd n y:=⟨WY e h.lt⟩
theorem Bd.log{x:Int}(h:Bd n x)(hn:0<n):x.natAbs.log2<n:=by
 by_cases e:x.natAbs=0
 ·rw[e];exact hn
 ·exact(Nat.log2_lt e).mpr h.lt
theorem Zq(t b:Int)(hb:b≠0):(wx t b).num.natAbs<=t.natAbs:=by
 rw[<- UM hb]
 have h1:dv t b ∣ t:=by
  have:((vE t b:Nat):Int) ∣ t:=V9 ..;unfold dv;split
  ·exact Xx.mpr this
  ·exact this
 rw[fF h1 (LC hb)];exact QE t _
theorem Gh(t b:Int)(hb:b≠0):(wx t b).den<=b.natAbs:=by
 rw[uj,if_neg hb];exact Nat.div_le_self _ _
structure ag(n:Nat)(x:Rat):Prop where
 t:Bd n x.num
 b:Bd n (x.den:Int)
theorem ag.mono(h:ag m x)(e:m<=n):ag n x:=⟨h.t.mono e,h.b.mono e⟩
theorem ag.divInt{b:Int}(hb:b≠0)(h1:Bd n t)(h2:Bd n b):ag n (wx t b) :=
 ⟨h1.le (Zq t b hb),h2.le (by have:=Gh t b hb;simpa using this)⟩
theorem Bd.kC{m:Int}(h1 : -100000000000000000000000000000000000000<=m)(h2:m<=100000000000000000000000000000000000000):Bd 128 m:=⟨by
 have e:(2:Nat)^128=340282366920938463463374607431768211456:=by decide
 rw[e]
 lia⟩
theorem gy(x:Rat):(x.den:Int)≠0:=by have:=x.den_pos;lia
theorem den_pos(x:Rat):(0:Int)<(x.den:Int):=by have:=x.den_pos;lia
theorem DG(x y:Rat):(x.den:Int)*(y.den:Int)≠0:=Q1 (gy x) (gy y)
theorem zCt(x y:Rat):wx (x.num*(y.den:Int)+y.num*(x.den:Int)) ((x.den:Int)*(y.den:Int))=x+y:=by
 rw[<- Vq,QK,Rat.add_def']
theorem Oo(x y:Rat):wx (x.num*(y.den:Int)-y.num*(x.den:Int)) ((x.den:Int)*(y.den:Int))=x-y:=by
 rw[<- Vq,QK,Rat.sub_def']
theorem NP(x y:Rat):wx (x.num*y.num) ((x.den:Int)*(y.den:Int))=x*y:=by
 rw[<- Vq,QK,Rat.mul_def']
theorem Pp(x y:Rat):wx (x.num*(y.den:Int)) ((x.den:Int)*y.num)=x / y:=by
 rw[xc,Rat.inv_def,<- xr,Vn]
theorem R1(x y:Rat):decide (x.num*(y.den:Int)<y.num*(x.den:Int))=decide (x<y):=by
 rw[vy,decide_eq_true_eq,decide_eq_true_eq,X4]
theorem zG(h:y≠0):y.num≠0:=λe=>h (Rat.num_eq_zero.mp e)
theorem ag.add(h:ag m x)(k:ag n y):ag (m+n+1) (x+y):=by
 rw[<- zCt];refine ag.divInt (DG x y) ?_ ((h.b.mul k.b).mono (by lia));exact((h.t.mul k.b).add (k.t.mul h.b)).mono (by lia)
theorem ag.sub(h:ag m x)(k:ag n y):ag (m+n+1) (x-y):=by
 rw[<- Oo];refine ag.divInt (DG x y) ?_ ((h.b.mul k.b).mono (by lia));exact((h.t.mul k.b).sub (k.t.mul h.b)).mono (by lia)
theorem ag.mul(h:ag m x)(k:ag n y):ag (m+n) (x*y):=by
 rw[<- NP];exact ag.divInt (DG x y) (h.t.mul k.t) (h.b.mul k.b)
theorem ag.zero :ag 1 0:=⟨⟨by decide⟩,⟨by decide⟩⟩
theorem ag.one :ag 1 1:=⟨⟨by decide⟩,⟨by decide⟩⟩
def aC(a b:Rat):Nat->Rat
 | 0=>0
 | n+1=>a*aC a b n+b
def push(a b:Rat):Nat->Rat->Rat
 | 0,x=>x
 | n+1,x=>a*push a b n x+b
theorem h_(a b:Rat)(n:Nat)(x:Rat):push a b n x=a^n*x+aC a b n:=by
 induction n with
 | zero=>simp[push,aC,Rat.add_zero,V2]
 | succ n ih=>rw[push,ih,aC,WQ];grind
theorem zyb(a b:Rat)(m n:Nat)(x:Rat):push a b (m+n) x=push a b n (push a b m x):=by
 induction n with
 | zero=>rfl
 | succ n ih=>rw[<- Vt,push,push,ih]
theorem ag.pow(h:ag k a)(n:Nat):ag (k*n+1) (a^n):=by
 induction n with
 | zero=>rw[V2];exact ag.one.mono (by lia)
 | succ n ih=>rw[WQ];exact(ih.mul h).mono (by rw[qx];lia)
theorem ag.aC(h:ag k a)(hb:ag k b)(n:Nat):ag ((2*k+1)*n+1) (aC a b n):=by
 induction n with
 | zero=>exact ag.zero.mono (by lia)
 | succ n ih=>exact((h.mul ih).add hb).mono (by rw[qx];lia)
theorem c7(t:Int)(hu:u≠0):(wx t u)*(u:Rat)=(t:Rat):=by
 rw[Rat.divInt_eq_div];exact WZ λz=>hu (W8.mp z)
theorem jS(x:Rat):x*((x.den:Int):Rat)=(x.num:Rat):=by
 have:=c7 x.num (gy x)
 rwa[Vn]at this
theorem fG(hu:u≠0)(h:x*(u:Rat)=(t:Rat)):wx t u=x:=by
 have h1:=c7 t hu;have h2:(wx t u-x)*(u:Rat)=0:=by grind
 have h3:(u:Rat)≠0:=by
  intro z;exact hu (W8.mp z)
 have:=Q2.mp h2
 grind
theorem Zr(a b:Rat)(t u:Int)(hu:u≠0):wx (a.num*b.den*t+b.num*a.den*u) (u*a.den*b.den)=a*wx t u+b:=by
 refine fG (Q1 (Q1 hu (gy a)) (gy b)) ?_;have h1:=c7 t hu;have h2:=jS a;have h3:=jS b;simp only[vP,qo]
 grind
theorem Ma(a b:Rat)(n:Nat)(x y:Rat):push a b n y-push a b n x=a^n*(y-x):=by
 rw[h_,h_];grind
theorem pU(h:0<a)(n:Nat):0<a^n:=Rat.pow_pos h
theorem zuZ(h:1<a)(n:Nat):1<a^(n+1):=by
 induction n with
 | zero=>simpa using h
 | succ n ih =>
  rw[WQ];have:=VU (show 0<a^(n+1)-1 by grind) (show 0<a-1 by grind)
  grind
theorem zur(h0:0<a)(h:a<1)(n:Nat):a^(n+1)<1:=by
 induction n with
 | zero=>simpa using h
 | succ n ih =>
  rw[WQ];have:=VU (show 0<1-a^(n+1) by grind) h0
  grind
theorem one_pow'(n:Nat):(1:Rat)^n=1:=by
 induction n with
 | zero=>rfl
 | succ n ih=>rw[WQ,ih,xf]
theorem mf(h:0<u):(0:Rat)<(u:Rat):=X5.mpr h
theorem zr7(hu:0<u)(ht:0<t):0<wx t u:=by
 have e:=c7 t (show u≠0 by lia);have:=mf ht;rw[<- e]at this;exact(Rat.mul_pos_iff_of_pos_right (mf hu)).mp this
theorem Te{c:Int}(hu:0<u)(h:t<=c*u):wx t u<=(c:Rat):=by
 have e:=c7 t (show u≠0 by lia);refine Rat.le_of_mul_le_mul_right (c:=(u:Rat)) ?_ (mf hu);rw[e,<- vP];exact Vk.mpr h
theorem ztW{c:Int}(hu:0<u)(h:t<c*u):wx t u<(c:Rat):=by
 have e:=c7 t (show u≠0 by lia);refine Rat.lt_of_mul_lt_mul_right (c:=(u:Rat)) ?_ (Wg (mf hu));rw[e,<- vP];exact xg.mpr h
theorem Rf(hu:0<u):((wx t u).den:Int)<=u:=by
 have:=Gh t u (by lia)
 lia
theorem zxy{c:Int}(h:x<=(c:Rat)):x.num<=c*x.den:=by
 have:=(xA x c).mp h
 simpa using this
theorem zCQ(h:0<=x):0<=x.num:=qF.mpr h
theorem ag.small{d:Nat}(h0:0<=x)(hc:x<=((c:Int):Rat))(hd:x.den<=d)(z:c*d<1024)(hd2:d<1024):ag 10 x:=by
 have h1:=zxy hc;have h2:=zCQ h0;have h3:(c:Int)*(x.den:Int)<=(c:Int)*(d:Int):=Int.mul_le_mul_of_nonneg_left (by lia) (by lia);have h4:(c:Int)*(d:Int)<1024:=by rw[<- Vq];lia
 refine⟨⟨?_⟩,⟨?_⟩⟩
 ·show _<1024
  lia
 ·show _<1024
  lia
theorem SG{z:Int}(e:x=wx z u)(h1:1<=u)(h2:u<=8)(h3:1<=z)(h4:z<=4*u):0<x/\x<=4/\x.den<=8:=by
 subst e;refine⟨zr7 (by lia) (by lia),Te (c:=4) (by lia) h4,?_⟩;have:=Rf (t:=z) (show 0<u by lia)
 lia
theorem CJ{r:Int}(e:y=wx r u)(h1:1<=u)(h2:u<=12)(h3:0<=r)(h4:r<=u):0<=y/\y<=1/\y.den<=12:=by
 subst e;refine⟨Xh h3 (by lia),Te (c:=1) (by lia) (by lia),?_⟩;have:=Rf (t:=r) (show 0<u by lia)
 lia
theorem ag.four :ag 3 4:=⟨⟨by decide +kernel⟩,⟨by decide +kernel⟩⟩
theorem oG{f:Rat->Rat}(h:i<xs.length):(xs.map f).getD i 0=f (xs.getD i 0):=by
 rw[wb,wb,wu,wc h]
 rfl
theorem zAN(ha:0<a)(n:Nat)(x y:Rat):push a b n x<push a b n y ↔ x<y:=by
 have e:=Ma a b n x y;have p:=pU ha n
 constructor
 ·intro h
  have:0<a^n*(y-x):=by rw[<- e];grind
  have h2:=(Rat.mul_pos_iff_of_pos_left p).mp this
  grind
 ·intro h
  have:0<a^n*(y-x):=VU p (by grind)
  grind
def dN(a b:Rat)(n:Nat)(xs:List Rat)(i:Nat):List Rat:=(xs.map λx=>push a b n (x+(1-xs.getD i 0))).set i 0
def aN(a b:Rat)(ns:List Int)(xs:List Rat):Nat->List Rat
 | 0=>xs
 | k+1=>dN a b (ns.getD k 0).toNat (aN a b ns xs k) k
theorem iG(a b:Rat)(n:Nat)(xs:List Rat)(i:Nat):(dN a b n xs i).length=xs.length:=by simp[dN]
theorem du(a b:Rat)(ns:List Int)(xs:List Rat):∀k,(aN a b ns xs k).length=xs.length
 | 0=>rfl
 | k+1=>by rw[aN,iG,du a b ns xs k]
theorem gr(a b:Rat)(n:Nat)(xs:List Rat)(i j:Nat)(hj:j<xs.length):(dN a b n xs i).getD j 0=if j=i then 0 else push a b n (xs.getD j 0+(1-xs.getD i 0)):=by
 unfold dN;rw[wb,WH]
 by_cases h:i=j
 ·subst h
  simp[hj]
 ·rw[if_neg h,if_neg (Wt h),wu,wc hj]
  simp[wb,hj]
def Cm(m:Nat)(xs:List Rat):Prop:=∃B:Int,0<B/\Bd m B /\ ∀x∈xs,∃t:Int,x=wx t B/\Bd m t
theorem Cm.mono(h:Cm m xs)(e:m<=n):Cm n xs:=by
 obtain⟨B,h0,h1,h2⟩:=h;exact⟨B,h0,h1.mono e,λx hx=>let ⟨t,e1,e2⟩:=h2 x hx;⟨t,e1,e2.mono e⟩⟩
theorem Cm.fk(h:Cm m xs)(hx:x∈xs):ag m x:=by
 obtain⟨B,h0,h1,h2⟩:=h;obtain⟨t,rfl,ht⟩:=h2 x hx;exact ag.divInt (by lia) ht h1
theorem Cm.pos(h:Cm m xs):1<=m:=by
 obtain⟨B,h0,h1,_⟩:=h;cases m with
 | zero=>have:=h1.lt;simp at this;lia
 | succ m=>lia
theorem Cm.get(h:Cm m xs)(i:Nat):ag m (xs.getD i 0):=by
 rcases wG i xs.length with z | z
 ·rw[wb,wc z]
  exact h.fk (Wi z)
 ·rw[wb,wL z]
  exact ag.zero.mono h.pos
theorem rM{a b:Rat}(ba:ag 10 a)(bb:ag 10 b){m:Nat}{t u:Int}(hu:0<u)(bt:Bd m t)(bu:Bd m u):∀n:Nat,0<u*((a.den:Int)*(b.den:Int))^n/\Bd (m+21*n) (u*((a.den:Int)*(b.den:Int))^n) /\
  ∃T:Int,push a b n (wx t u)=wx T (u*((a.den:Int)*(b.den:Int))^n)/\Bd (m+21*n) T
 | 0=>⟨by simpa using hu,by simpa using bu,t,by simp[push],by simpa using bt⟩
 | n+1=>by
  obtain⟨h1,h2,T,e,hT⟩:=rM ba bb hu bt bu n;have eb:u*((a.den:Int)*(b.den:Int))^(n+1)=u*((a.den:Int)*(b.den:Int))^n*(a.den:Int)*(b.den:Int):=by rw[VI,<- VO,VO (u*_)]
  rw[eb];refine⟨vU (vU h1 (den_pos a)) (den_pos b),((h2.mul ba.b).mul bb.b).mono (by lia),a.num*(b.den:Int)*T+b.num*(a.den:Int)*(u*((a.den:Int)*(b.den:Int))^n),?_,(((ba.t.mul bb.b).mul hT).add ((bb.t.mul ba.b).mul h2)).mono (by lia)⟩;rw[push,e];exact(Zr a b T _ (by lia)).symm
theorem Cm.mT(h:Cm m xs)(ba:ag 10 a)(bb:ag 10 b)(n i:Nat):Cm (m+2+21*n) (dN a b n xs i):=by
 obtain⟨B,h0,h1,h2⟩:=h
 have hz:∃z:Int,xs.getD i 0=wx z B/\Bd m z:=by
  rcases wG i xs.length with q | q
  ·rw[wb,wc q]
   exact h2 _ (Wi q)
  ·rw[wb,wL q]
   exact⟨0,by simp,⟨by simp;exact Wp m⟩⟩
 obtain⟨z,ez,hz⟩:=hz;have key:=λ(t:Int)(ht:Bd m t)=>rM ba bb h0 (show Bd (m+2) (t+B-z)from((ht.add h1).sub hz).mono (by lia)) (h1.mono (by lia)) n
 obtain⟨p1,p2,_⟩:=key 0 ⟨by simp;exact Wp m⟩;refine⟨_,p1,p2,λx hx=>?_⟩
 have hx':x=0 \/ ∃y∈xs,x=push a b n (y+(1-xs.getD i 0)):=by
  unfold dN at hx;rcases QF hx with q | q
  ·obtain⟨y,hy,rfl⟩:=wV.mp q
   exact .inr ⟨y,hy,rfl⟩
  ·exact .inl q
 rcases hx' with rfl | ⟨y,hy,rfl⟩
 ·exact⟨0,by simp,⟨by simp;exact Wp _⟩⟩
 ·obtain⟨t,rfl,ht⟩:=h2 y hy
  obtain⟨_,_,T,e,hT⟩:=key t ht
  have e2:wx t B+(1-xs.getD i 0)=wx (t+B-z) B:=by
   rw[ez]
   symm
   refine fG (by lia) ?_;have q1:=c7 t (show B≠0 by lia);have q2:=c7 z (show B≠0 by lia);have q3:((t+B-z:Int):Rat)=(t:Rat)+(B:Rat)-(z:Rat):=by push_cast;rfl
   rw[q3,<- q1,<- q2]
   grind
  rw[e2];exact⟨T,e,hT⟩
theorem Cm.snoc(h:Cm m xs):Cm m (xs++[0]):=by
 obtain⟨B,h0,h1,h2⟩:=h;refine⟨B,h0,h1,λx hx=>?_⟩;rcases Wn.mp hx with q | q
 ·exact h2 x q
 ·rw[wX.mp q]
  exact⟨0,by simp,⟨by simp;exact Wp m⟩⟩
def upTo(ns:List Int)(k:Nat):Nat:=((ns.take k).map Q3).sum
theorem rE(h:k<ns.length):upTo ns (k+1)=upTo ns k+(ns.getD k 0).toNat:=by
 unfold upTo;rw[qL,wc h,wb,wc h,w6,List.sum_append]
 show _+([ns[k].toNat]:List Nat).sum=_
 rw[List.sum_singleton]
 rfl
theorem Cm.rows{m:Nat}{xs:List Rat}{a b:Rat}{ns:List Int}(h:Cm m xs)(ba:ag 10 a)(bb:ag 10 b):∀k,k<=ns.length->Cm (m+2*k+21*upTo ns k) (aN a b ns xs k)
 | 0,_=>h.mono (by lia)
 | k+1,hk=>by
  have:=(Cm.rows h ba bb (ns:=ns) k (by lia)).mT ba bb (ns.getD k 0).toNat k;rw[aN];refine this.mono ?_;rw[rE (by lia)]
  lia
theorem UR(a:Rat)(m:Nat):∀n:Nat,a^(m+n)=a^m*a^n
 | 0=>by rw[QL,V2,Rat.mul_one]
 | n+1=>by rw[<- Vt,WQ,UR a m n,WQ,uw]
theorem zw7(a b:Rat)(n:Nat)(xs ys:List Rat)(i j:Nat)(hx:xs.length=ys.length)(hj:j<xs.length) :
  (dN a b n xs i).getD j 0-(dN a b n ys i).getD j 0=a^n*((xs.getD j 0-ys.getD j 0)-(xs.getD i 0-ys.getD i 0)):=by
 rw[gr a b n xs i j hj,gr a b n ys i j (by lia)]
 by_cases h:j=i
 ·subst h
  rw[if_pos rfl,if_pos rfl]
  grind
 ·rw[if_neg h,if_neg h,Ma]
  grind
theorem F7(a b:Rat)(ns:List Int)(xs ys:List Rat)(hx:xs.length=ys.length)(hn:ns.length=xs.length)(l:Nat)(hl:l+1=xs.length)(h0:xs.getD l 0=ys.getD l 0) :
  ∀k,k<=ns.length->∀j,j<xs.length->(aN a b ns xs k).getD j 0-(aN a b ns ys k).getD j 0=a^upTo ns k*((xs.getD j 0-ys.getD j 0)-(if k=0 then 0 else xs.getD (k-1) 0-ys.getD (k-1) 0))
 | 0,_,j,hj=>by simp[aN,upTo];grind
 | k+1,hk,j,hj=>by
  rw[aN,aN,zw7 _ _ _ _ _ _ _ (by rw[du,du,hx]) (by rw[du];exact hj),F7 a b ns xs ys hx hn l hl h0 k (by lia) j hj,F7 a b ns xs ys hx hn l hl h0 k (by lia) k (by lia),rE (by lia),UR];simp only[VR];rw[if_neg (show ¬ k+1=0 by lia)]
  grind
def lX(a b:Rat)(n:Nat)(xs:List Rat):List Rat:=(xs.tail.map λy=>push a b n (y+(1-xs.headD 0)))++[0]
def turned(a b:Rat)(ns:List Int)(xs:List Rat):Nat->List Rat
 | 0=>xs
 | k+1=>lX a b (ns.getD k 0).toNat (turned a b ns xs k)
theorem oJ(a b:Rat)(ns:List Int)(xs:List Rat):∀k,k<=xs.length->turned a b ns xs k=(aN a b ns xs k).drop k++(aN a b ns xs k).take k
 | 0,_=>by simp[turned,aN]
 | k+1,hk=>by
  have hl:(aN a b ns xs k).length=xs.length:=du a b ns xs k;have hk':k<(aN a b ns xs k).length:=by lia
  rw[turned,oJ a b ns xs k (by lia),aN];generalize aN a b ns xs k=r at *;generalize (ns.getD k 0).toNat=n;have e1:r.drop k=r[k]::r.drop (k+1):=VC hk';have e2:r.getD k 0=r[k]:=by rw[wb,wc hk'];rfl
  unfold lX dN;rw[e1,e2,XJ,uk,List.headD_cons,List.drop_set_of_lt (by lia),w6,uz,W4]
  congr 1
  have hm:k<(r.map λx=>push a b n (x+(1-r[k]))).length:=by rw[wm];exact hk'
  rw[List.map_take];generalize (r.map λx=>push a b n (x+(1-r[k])))=s at hm ⊢;rw[List.take_set,qL,wc hm]
  show _=(s.take k++[s[k]]).set k 0
  have hlk:(s.take k).length=k:=by rw[Wr];lia
  rw[List.set_append_right _ _ (by lia),hlk,V3]
  rfl
theorem zu5(a b:Rat)(ns:List Int)(xs:List Rat)(h:ns.length=xs.length):turned a b ns xs ns.length=aN a b ns xs ns.length:=by
 rw[oJ a b ns xs _ (by lia)];have hl:(aN a b ns xs ns.length).length=xs.length:=du a b ns xs _;rw[xh (by lia),WR (by lia),qm]
def nP(xs:List Rat):Nat->Int
 | 0=>1
 | k+1=>nP xs k*((xs.getD k 0).den:Int)
theorem Px(xs:List Rat):∀k,0<nP xs k
 | 0=>by show(0:Int)<1;decide
 | k+1=>vU (Px xs k) (den_pos _)
theorem Kt(xs:List Rat):∀k j,j<k->((xs.getD j 0).den:Int) ∣ nP xs k
 | 0,j,h=>by lia
 | k+1,j,h=>by
  rcases wG j k with z | z
  ·exact qd (Kt xs k j z) (Vy ..)
  ·have:j=k:=by lia
   subst this;exact XM ..
theorem Tc{xs:List Rat}{m:Nat}(h:∀i,ag m (xs.getD i 0)):∀k,Bd (m*k+1) (nP xs k)
 | 0=>⟨by show(1:Int).natAbs<_;simp⟩
 | k+1=>by
  rw[nP];refine((Tc h k).mul (h k).b).mono ?_;rw[Ql];lia
theorem zun(hB:0<B)(h:(x.den:Int) ∣ B):wx (x.num*B.fdiv x.den) B=x:=by
 obtain⟨c,rfl⟩:=h;rw[fF (Vy ..) (gy x),VG _ (gy x)];refine fG (by lia) ?_;have:=jS x;rw[vP,vP,<- this]
 grind
theorem zAF(hd:0<d)(hB:0<B)(h:Bd m B):Bd m (B.fdiv d):=by
 refine h.le ?_;rw[Vu _ (by lia)];have h1:0<=B / d:=Int.ediv_nonneg (by lia) (by lia);have h2:B / d<=B:=XN _ (by lia)
 lia
theorem FY(a b:Rat)(ns:List Int)(xs:List Rat)(hk:k<xs.length):(turned a b ns xs k).headD 0=(aN a b ns xs k).getD k 0:=by
 have hl:=du a b ns xs k;rw[oJ a b ns xs k (by lia),VC (by lia),wb,wc (by lia)]
 rfl
theorem DK(a b:Rat)(ns:List Int)(xs:List Rat)(hx:0<xs.length):∀k,(turned a b ns xs k).length=xs.length
 | 0=>rfl
 | k+1=>by
  have:=DK a b ns xs hx k;rw[turned,lX,wQ,wm,XO,this];simp;lia
theorem Lb(x y:Rat):((x*y).num=x.num / (x.num.natAbs.gcd y.den:Nat)*(y.num / (y.num.natAbs.gcd x.den:Nat)))/\((x*y).den=x.den / (y.num.natAbs.gcd x.den)*(y.den / (x.num.natAbs.gcd y.den))):=by
 show(Rat.mul x y).num=_/\(Rat.mul x y).den=_
 unfold Rat.mul;simp only[Int.divExact_eq_ediv,Nat.divExact_eq_div]
 constructor<;>trivial
theorem Nw(x y:Rat):((x+y).num=(x.num*((y.den / x.den.gcd y.den:Nat):Int)+y.num*((x.den / x.den.gcd y.den:Nat):Int)) / (((x.num*((y.den / x.den.gcd y.den:Nat):Int)+y.num*((x.den / x.den.gcd y.den:Nat):Int)).natAbs.gcd (x.den.gcd y.den):Nat):Int))/\((x+y).den=x.den / (x.den.gcd y.den)*(y.den / ((x.num*((y.den / x.den.gcd y.den:Nat):Int)+y.num*((x.den / x.den.gcd y.den:Nat):Int)).natAbs.gcd (x.den.gcd y.den)))):=by
 show(Rat.add x y).num=_/\(Rat.add x y).den=_
 unfold Rat.add
 by_cases hg:x.den.gcd y.den=1
 ·simp[hg]
 ·simp only[hg,dite_false,Rat.maybeNormalize_eq]
  refine⟨by simp,?_⟩;simp;have:(x.num*((y.den / x.den.gcd y.den:Nat):Int)+y.num*((x.den / x.den.gcd y.den:Nat):Int)).natAbs.gcd (x.den.gcd y.den) ∣ y.den:=Nat.dvd_trans (Xi _ _) (Xi _ _);simp at this;rw[Nat.mul_div_assoc _ this]
def fq(x y:Rat):Int:=((vE (x.den:Int) (y.den:Int):Nat):Int)
def kZ(x y:Rat):Int:=x.num*(y.den:Int).fdiv (fq x y)+y.num*(x.den:Int).fdiv (fq x y)
def jx(x y:Rat):Int:=((vE (kZ x y) (fq x y):Nat):Int)
theorem zo(x y:Rat):0<fq x y:=by
 have:0<vE (x.den:Int) (y.den:Int):=Int.gcd_pos_of_ne_zero_left _ (by have:=x.den_pos;lia);unfold fq;lia
theorem CG(x y:Rat):0<jx x y:=by
 have:0<vE (kZ x y) (fq x y):=V1 _ (by have:=zo x y;lia);unfold jx;lia
theorem C_(x y:Rat):fq x y=((x.den.gcd y.den:Nat):Int):=by simp[fq,vE]
theorem pC(x y:Rat):fq x y ∣ (x.den:Int):=V9 ..
theorem Am(x y:Rat):fq x y ∣ (y.den:Int):=qK ..
theorem zCu(x y:Rat):jx x y ∣ kZ x y:=V9 ..
theorem F9(x y:Rat):jx x y ∣ fq x y:=qK ..
theorem Rx(x y:Rat):kZ x y=x.num*((y.den / x.den.gcd y.den:Nat):Int)+y.num*((x.den / x.den.gcd y.den:Nat):Int):=by
 have h:=zo x y;rw[kZ,fF (Am x y) (by lia),fF (pC x y) (by lia),C_,VH,VH]
theorem MV(x y:Rat):jx x y=(((x.num*((y.den / x.den.gcd y.den:Nat):Int)+y.num*((x.den / x.den.gcd y.den:Nat):Int)).natAbs.gcd (x.den.gcd y.den):Nat):Int):=by
 rw[jx,Rx,C_];simp[vE]
theorem zAC(x y:Rat):(kZ x y).fdiv (jx x y)=(x+y).num:=by
 have h:=CG x y;rw[fF (zCu x y) (by lia),(Nw x y).1,MV,Rx]
theorem zAv(x y:Rat):(x.den:Int).fdiv (fq x y)*(y.den:Int).fdiv (jx x y)=((x+y).den:Int):=by
 have h:=CG x y;have h2:=zo x y;rw[fF (qd (F9 x y) (Am x y)) (by lia),fF (pC x y) (by lia),(Nw x y).2,MV,C_];simp only[Vq,VH]
def gF(x y:Rat):Int:=((vE x.num (y.den:Int):Nat):Int)
theorem oo(x y:Rat):0<gF x y:=by
 have:0<vE x.num (y.den:Int):=V1 _ (by have:=y.den_pos;lia);unfold gF;lia
theorem uP(x y:Rat):gF x y ∣ x.num:=V9 ..
theorem nv(x y:Rat):gF x y ∣ (y.den:Int):=qK ..
theorem u7(x y:Rat):gF x y=((x.num.natAbs.gcd y.den:Nat):Int):=by simp[gF,vE]
theorem zAz(x y:Rat):x.num.fdiv (gF x y)*y.num.fdiv (gF y x)=(x*y).num:=by
 have h:=oo x y;have h2:=oo y x;rw[fF (uP x y) (by lia),fF (uP y x) (by lia),(Lb x y).1,u7,u7]
theorem zA7(x y:Rat):(x.den:Int).fdiv (gF y x)*(y.den:Int).fdiv (gF x y)=((x*y).den:Int):=by
 have h:=oo x y;have h2:=oo y x;rw[fF (nv x y) (by lia),fF (nv y x) (by lia),(Lb x y).2,u7,u7];simp only[Vq,VH]
theorem mq{a:Int}(h:Bd n a)(hd:d ∣ a)(hp:0<d):Bd n (a.fdiv d):=by
 rw[fF hd (by lia)];exact h.le (QE a d)
theorem sG{a:Int}(h:Bd n a)(hd:d ∣ a)(ha:0<a):Bd n d :=
 h.le (uA (by lia) (Int.natAbs_dvd_natAbs.mpr hd))
theorem yE(t b:Int):vE (if t<0 then -t else t) b=vE t b:=by split<;>simp
theorem zAJ(h:ag n y):ag n (-y):=⟨by simpa using h.t.neg,by simpa using h.b⟩
theorem zu2(x y:Rat):x + -y=x-y:=(Rat.sub_eq_add_neg x y).symm
theorem yD(h:0<y.num):(y⁻¹).num=(y.den:Int)/\((y⁻¹).den:Int)=y.num:=by
 have:¬ y.num<0:=by lia
 constructor
 ·rw[Rat.num_inv,Q9 h,xa]
 ·rw[Rat.den_inv];split<;>lia
theorem zf(h:y.num<0):(y⁻¹).num = -(y.den:Int)/\((y⁻¹).den:Int) = -y.num:=by
 constructor
 ·rw[Rat.num_inv,Qv h,X2]
 ·rw[Rat.den_inv];split<;>lia
theorem Uy(h:ag n y)(hy:y≠0):ag n y⁻¹:=by
 have:=zG hy
 by_cases p:0<y.num
 ·exact⟨by rw[(yD p).1];exact h.b,by rw[(yD p).2];exact h.t⟩
 ·have p:y.num<0:=by lia
  exact⟨by rw[(zf p).1];exact h.b.neg,by rw[(zf p).2];exact h.t.neg⟩
theorem NY(x y:Rat):0<(x.den:Int)*(y.den:Int):=vU (den_pos x) (den_pos y)
theorem getD_mem{α : Type}{xs:List α}{d : α}(h:i<xs.length):xs.getD i d∈xs:=by
 rw[wb,wc h];exact Wi h
def kh(x:Rat):Bool:=(!decide (x<0))&&(decide (x<1)&&decide ((x.den:Int)<=60))
structure eJ(x:Rat):Prop where
 nn:0<=x
 lt:x<1
 den:x.den<=60
theorem eJ.is(h:eJ x):kh x=true:=by
 have h1:=h.nn;have h2:=h.lt;have h3:=h.den;have h4:¬ x<0:=Vl.mpr h1;have h5:(x.den:Int)<=60:=by lia
 simp[kh,h4,h2,h5]
theorem eJ.fk(h:eJ x):ag 6 x:=by
 have h1:=h.nn;have h2:=h.lt;have h3:=h.den;have n0:0<=x.num:=qF.mpr h1
 have n1:x.num<x.den:=by
   have:=X4 x 1 |>.mp h2
   simpa using this
 exact ⟨⟨by have : (2 : Nat) ^ 6 = 64 := by decide
            omega⟩, ⟨by have : (2 : Nat) ^ 6 = 64 := by decide
                        omega⟩⟩
def mx(m:Rat)(l:List Rat):Rat:=l.foldl (λm x=>if m<x then x else m) m
theorem Ld:∀(l:List Rat)(m:Rat),m<=mx m l /\ ∀y∈l,y<=mx m l
 | [],m=>⟨WS,λy h=>by cases h⟩
 | x::l,m=>by
  have h:=Ld l (if m<x then x else m);have e:mx m (x::l)=mx (if m<x then x else m) l:=rfl;rw[e]
  have h1:m<=(if m<x then x else m)/\x<=(if m<x then x else m):=by
   split
   ·rename_i z;exact⟨Wg z,WS⟩
   ·rename_i z;exact⟨WS,Vl.mp z⟩
  refine⟨QM h1.1 h.1,λy hy=>?_⟩;rcases wR.mp hy with rfl | hy
  ·exact QM h1.2 h.1
  ·exact h.2 y hy
theorem FR:∀(l:List Rat)(m:Rat),mx m l=m\/mx m l∈l
 | [],m=>.inl rfl
 | x::l,m=>by
  have e:mx m (x::l)=mx (if m<x then x else m) l:=rfl;rw[e];rcases FR l (if m<x then x else m)with h | h
  ·rw[h]
   split
   ·exact .inr (wJ ..)
   ·exact .inl rfl
  ·exact .inr (wB _ h)
theorem k8(m x:Rat)(l:List Rat):mx m (l++[x])=if mx m l<x then x else mx m l:=by
 unfold mx;rw[Xj];rfl
def a_(xs:List Rat):Rat:=mx (xs.getD 0 0) xs
theorem BP : ∀y∈xs,y<=a_ xs:=(Ld xs _).2
theorem fR(h:1<=xs.length):a_ xs∈xs:=by
 rcases FR xs (xs.getD 0 0)with e | e
 ·unfold a_
  rw[e,wb,wc (by lia)];exact Wi _
 ·exact e
theorem fO(h:i<xs.length):xs.take (i+1)=xs.take i++[xs.getD i 0]:=by
 rw[qL,wb,wc h];rfl
theorem zr(b:∀i,ag n (xs.getD i 0))(h1:1<=xs.length)(i:Nat):ag n (mx (xs.getD 0 0) (xs.take i)):=by
 rcases FR (xs.take i) (xs.getD 0 0)with e | e
 ·rw[e];exact b 0
 ·have e:=XQ _ _ e
  obtain⟨j,hj,ej⟩:=vj e;rw[<- ej];have:=b j;rw[wb,wc hj]at this;exact this
theorem O4{r:Int}(h0:0<=r)(h1:r<u)(h2:u<=60):eJ (wx r u):=by
 refine⟨Xh h0 (by lia),ztW (c:=1) (by lia) (by lia),?_⟩;have:=Gh r u (by lia)
 lia
def aA(ps:List Rat)(left:List Nat):List Nat:=left.filter λw=>!decide (ps.getD w 0<1)
def bR(left wave:List Nat):List Nat:=left.filter λw=>!decide (w∈wave)
def cD(f g:Rat)(ps:List Rat)(l:List Nat):List Rat:=l.foldl (λps w=>ps.set w (f*ps.getD w 0+g)) ps
def cP(a b:Rat):Nat->List Rat->List Nat->List (List Nat) × (List Nat × List Rat)
 | 0,ps,left=>([],left,ps)
 | n+1,ps,left=>match aA ps left with
  | []=>([],left,ps)
  | w::ws=>((w::ws)::(cP a b n (cD (a^(w::ws).length) (aC a b (w::ws).length) ps (bR left (w::ws))) (bR left (w::ws))).1,(cP a b n (cD (a^(w::ws).length) (aC a b (w::ws).length) ps (bR left (w::ws))) (bR left (w::ws))).2)
def gS(left:List Nat)(ps:List Rat):List Rat:=(wo ps.length).map λi=>if i∈left then ps.getD i 0 else 0
def bQ(xs:List Rat):List Rat:=xs.map (· + (1-a_ xs))
def dU(a b:Rat)(xs:List Rat):List (List Nat) × (List Nat × List Rat):=cP a b xs.length (bQ xs) (wo xs.length)
def cH(a b:Rat)(xs:List Rat):List (List Nat):=(dU a b xs).1
def cZ(a b:Rat)(xs:List Rat):List Rat:=gS (dU a b xs).2.1 (dU a b xs).2.2
theorem mH(h:aA ps left=[]):cP a b n ps left=([],left,ps):=by
 cases n with
 | zero=>rfl
 | succ n=>rw[cP,h]
theorem iX(h:aA ps left≠[]):cP a b (n+1) ps left=(aA ps left::(cP a b n (cD (a^(aA ps left).length) (aC a b (aA ps left).length) ps (bR left (aA ps left))) (bR left (aA ps left))).1,(cP a b n (cD (a^(aA ps left).length) (aC a b (aA ps left).length) ps (bR left (aA ps left))) (bR left (aA ps left))).2):=by
 rw[cP];cases e:aA ps left with
 | nil=>exact absurd e h
 | cons w ws=>rfl
theorem U1(f g:Rat)(ps:List Rat)(l:List Nat)(w:Nat):cD f g ps (l++[w])=(cD f g ps l).set w (f*(cD f g ps l).getD w 0+g):=by
 unfold cD;rw[Xj];rfl
theorem gT(f g:Rat):∀(l:List Nat)(ps:List Rat),(cD f g ps l).length=ps.length
 | [],ps=>rfl
 | w::l,ps=>by
  show(cD f g (ps.set w _) l).length=_
  rw[gT f g l,Wo]
theorem sv(h:w≠j):(ps.set w y).getD j 0=ps.getD j 0:=by
 rw[wb,WH,if_neg h,wb]
theorem pL(h:w<ps.length):(ps.set w y).getD w 0=y:=by
 rw[wb,WH,if_pos rfl,if_pos h];rfl
theorem iN(f g:Rat):∀(l:List Nat)(ps:List Rat),l.Nodup->(∀w∈l,w<ps.length)->∀j,(cD f g ps l).getD j 0=if j∈l then f*ps.getD j 0+g else ps.getD j 0
 | [],ps,_,_,j=>by simp[cD]
 | w::l,ps,nd,hl,j=>by
  have nd':=VQ.mp nd
  show(cD f g (ps.set w _) l).getD j 0=_
  rw[iN f g l _ nd'.2 (λv hv=>by rw[Wo];exact hl v (wB _ hv)) j]
  by_cases hj:j=w
  ·subst hj
   rw[if_neg nd'.1,if_pos (wJ ..),pL (hl j (wJ ..))]
  ·rw[sv (Wt hj)]
   by_cases hm:j∈l
   ·rw[if_pos hm,if_pos (wB _ hm)]
   ·rw[if_neg hm,if_neg (λz=>by rcases wR.mp z with z | z;(exact hj z);exact hm z)]
theorem ztR(ps:List Rat)(left:List Nat):bR left (aA ps left)=left.filter λw=>decide (ps.getD w 0<1):=by
 unfold bR;refine vA λw hw=>?_
 have e:(w∈aA ps left)=(¬ ps.getD w 0<1):=by
  unfold aA;rw[wW];simp[hw]
 simp only[e];simp
theorem z6(ps:List Rat)(left:List Nat):(aA ps left).length+(bR left (aA ps left)).length=left.length:=by
 rw[ztR];unfold aA
 induction left with
 | nil=>rfl
 | cons w l ih=>by_cases h:ps.getD w 0<1<;>simp only[Ws,h,decide_true,decide_false,qg,xt,if_true,if_false,Wu,Wa]<;>lia
theorem ng{wave:List Nat}(h:left.Nodup):(bR left wave).Nodup:=h.filter _
theorem oA{wave:List Nat}(h:∀w∈left,w<n):∀w∈bR left wave,w<n:=λw hw=>h w (wW.mp hw).1
theorem Fu(left:List Nat)(ps:List Rat):(gS left ps).length=ps.length:=by simp[gS]
theorem kE(h:j<ps.length):(gS left ps).getD j 0=if j∈left then ps.getD j 0 else 0:=by
 unfold gS;rw[wb,wu,vH h]
 rfl
theorem eX(xs:List Rat):(bQ xs).length=xs.length:=by simp[bQ]
theorem rN{a b:Rat} : ∀(n:Nat)(ps:List Rat)(left:List Nat),(cP a b n ps left).2.2.length=ps.length
 | 0,ps,left=>rfl
 | n+1,ps,left=>by
  by_cases h:aA ps left=[]
  ·rw[mH h]
  ·rw[iX h]
   show(cP a b n _ _).2.2.length=_
   rw[rN n,gT]
theorem jE(a b:Rat)(xs:List Rat):(cZ a b xs).length=xs.length:=by
 unfold cZ dU;rw[Fu,rN,eX]
theorem Cm.J9(h0:0<B)(h1:Bd m B)(h:∀j,j<ps.length->∃t:Int,ps.getD j 0=wx t B/\Bd m t):∀x∈ps,∃t:Int,x=wx t B/\Bd m t:=λx hx=>by
 obtain⟨j,hj,e⟩:=vj hx;have:=h j hj;rw[wb,wc hj]at this;rw[<- e];exact this
theorem zi{a b:Rat}(ba:ag 10 a)(bb:ag 10 b){m:Nat}{t:Int}(h:Bd m t):∀n:Nat,Bd (m+21*n) (t*((a.den:Int)*(b.den:Int))^n)
 | 0=>by simpa using h
 | n+1=>by
  rw[VI,<- VO];exact((zi ba bb h n).mul (ba.b.mul bb.b)).mono (by lia)
theorem rn(h0:0<B)(hd:0<d):wx t B=wx (t*d) (B*d):=by
 symm
 refine fG (by have:=vU h0 hd;lia) ?_;have q1:=c7 t (show B≠0 by lia);rw[vP,vP,<- uw,q1]
theorem Cm.wave(c:Cm m (h::ps))(ba:ag 10 a)(bb:ag 10 b)(n:Nat){l:List Nat}(nd:l.Nodup)(hl:∀w∈l,w<ps.length):Cm (m+21*n) (h::cD (a^n) (aC a b n) ps l):=by
 obtain⟨B,h0,h1,h2⟩:=c;have hz:Bd m (0:Int):=⟨by simp;exact Wp m⟩;obtain⟨p1,p2,_⟩:=rM ba bb h0 hz h1 n;have hd:0<((a.den:Int)*(b.den:Int))^n:=Xz (vU (den_pos a) (den_pos b));refine⟨_,p1,p2,λx hx=>?_⟩;rcases wR.mp hx with rfl | hx
 ·obtain⟨t,rfl,ht⟩:=h2 x (wJ ..)
  exact⟨_,rn h0 hd,zi ba bb ht n⟩
 ·refine Cm.J9 p1 p2 (λj hj=>?_) x hx
  rw[gT]at hj;obtain⟨t,e,ht⟩:=h2 (ps.getD j 0) (wB _ (getD_mem hj));rw[iN _ _ _ _ nd hl]
  split
  ·obtain⟨_,_,T,e2,hT⟩:=rM ba bb h0 ht h1 n
   exact⟨T,by rw[<- h_,e,e2],hT⟩
  ·exact⟨_,by rw[e];exact rn h0 hd,zi ba bb ht n⟩
theorem Cm.rise{M:Rat}(c:Cm m (h::xs))(hM:M∈xs):Cm (m+2) ((h+(1-M))::xs.map (· + (1-M))):=by
 obtain⟨B,h0,h1,h2⟩:=c;obtain⟨z,ez,hz⟩:=h2 M (wB _ hM)
 have key:∀t:Int,Bd m t->wx t B+(1-M)=wx (t+B-z) B/\Bd (m+2) (t+B-z):=λt ht=>by
  refine⟨?_,((ht.add h1).sub hz).mono (by lia)⟩;rw[ez]
  symm
  refine fG (by lia) ?_;have q1:=c7 t (show B≠0 by lia);have q2:=c7 z (show B≠0 by lia);have q3:((t+B-z:Int):Rat)=(t:Rat)+(B:Rat)-(z:Rat):=by push_cast;rfl
  rw[q3,<- q1,<- q2]
  grind
 refine⟨B,h0,h1.mono (by lia),λx hx=>?_⟩;rcases wR.mp hx with rfl | hx
 ·obtain⟨t,e,ht⟩:=h2 h (wJ ..)
  rw[e];exact⟨_,(key t ht).1,(key t ht).2⟩
 ·obtain⟨y,hy,rfl⟩:=wV.mp hx
  obtain⟨t,e,ht⟩:=h2 y (wB _ hy)
  show ∃t:Int,y+(1-M)=_/\_
  rw[e];exact⟨_,(key t ht).1,(key t ht).2⟩
theorem Cm.g9(c:Cm m xs)(h:∀y∈ys,y∈xs\/y=0):Cm m ys:=by
 obtain⟨B,h0,h1,h2⟩:=c;refine⟨B,h0,h1,λy hy=>?_⟩;rcases h y hy with z | rfl
 ·exact h2 y z
 ·exact⟨0,by simp,⟨by simp;exact Wp m⟩⟩
theorem zyU : ∀y∈gS left ps,y∈ps\/y=0:=λy hy=>by
 unfold gS at hy;obtain⟨i,hi,e⟩:=wV.mp hy;rw[<- e]
 split
 ·exact .inl (getD_mem (wF.mp hi))
 ·exact .inr rfl
theorem Cm.YY(h:∀i,ag k (xs.getD i 0)):Cm (k*xs.length+1+k) xs:=by
 have h0:=Px xs xs.length;have h1:=Tc h xs.length;refine⟨nP xs xs.length,h0,h1.mono (by lia),Cm.J9 h0 (h1.mono (by lia)) λj hj=>?_⟩;exact⟨_,(zun h0 (Kt xs _ j hj)).symm,((h j).t.mul (zAF (den_pos _) h0 h1)).mono (by lia)⟩
def ai(a b:Rat)(xs:List Rat):Nat->List Rat
 | 0=>xs
 | k+1=>cZ a b (ai a b xs k)
def bC(a b:Rat)(xs:List Rat):Nat->Rat
 | 0=>0
 | k+1=>bC a b xs k+(1-a_ (ai a b xs k))
theorem bS(a b:Rat)(xs:List Rat):∀k,(ai a b xs k).length=xs.length
 | 0=>rfl
 | k+1=>by rw[ai,jE,bS a b xs k]
def Rg(n:Nat)(left:List Nat):Prop:=left=(wo n).filter λw=>decide (w∈left)
theorem Rg.range(n:Nat):Rg n (wo n):=by
 unfold Rg;rw[xK.mpr];intro w hw;exact decide_eq_true hw
theorem Rg.filter(h:Rg n left)(p:Nat->Bool):Rg n (left.filter p):=by
 have e:((wo n).filter λw=>decide (w∈left.filter p))=((wo n).filter λw=>decide (w∈left)).filter p:=by
  rw[Vo];refine vA λw _=>?_
  by_cases h1:w∈left<;>cases h2:p w<;>simp[h1,h2]
 unfold Rg;rw[e];exact congrArg (List.filter p) h
theorem Rg.bR(h:Rg n left)(wave:List Nat):Rg n (bR left wave):=h.filter _
theorem Rg.lt(h:Rg n left):∀w∈left,w<n:=λw hw=>by
 rw[h]at hw;exact wF.mp (wW.mp hw).1
theorem Rg.nodup(h:Rg n left):left.Nodup:=by
 rw[h];exact WK.filter _
theorem Rg.ends(h:Rg n left)(ps:List Rat):aA ps left=(wo n).filter λw=>decide (w∈left) && !decide (ps.getD w 0<1):=by
 have e:aA ps left=((wo n).filter λw=>decide (w∈left)).filter λw=>!decide (ps.getD w 0<1):=congrArg (List.filter λw=>!decide (ps.getD w 0<1)) h
 rw[e,Vo];refine vA λw _=>?_
 rw[Bool.and_comm]
theorem yq{f:Rat->Rat}(h:w<xs.length):(xs.map f).getD w 0=f (xs.getD w 0):=by
 rw[wb,wu,wc h,wb,wc h];rfl
def iF(d:Int)(m:Nat)(xs:List Rat):Prop:=∃B:Int,0<B/\d ∣ B/\Bd m B /\ ∀x∈xs,∃t:Int,x=wx t B/\Bd m t
theorem iF.cm(h:iF d m xs):Cm m xs:=let ⟨B,h0,_,h1,h2⟩:=h;⟨B,h0,h1,h2⟩
theorem iF.of(h:Cm m xs)(hd:0<d)(b:Bd 4 d):iF d (m+4) xs:=by
 obtain⟨B,h0,h1,h2⟩:=h;refine⟨B*d,vU h0 hd,XM ..,(h1.mul b),λx hx=>?_⟩;obtain⟨t,e,ht⟩:=h2 x hx;exact⟨t*d,by rw[e];exact rn h0 hd,ht.mul b⟩
theorem LP{a b:Rat}(ta:Bd 6 a.num)(da:Bd 4 (a.den:Int))(tb:Bd 4 b.num){m:Nat}{t u:Int}(hu:0<u)(hd:(b.den:Int) ∣ u)(bt:Bd m t)(bu:Bd m u):∀n:Nat,0<u*(a.den:Int)^n/\(b.den:Int) ∣ u*(a.den:Int)^n/\Bd (m+9*n) (u*(a.den:Int)^n) /\
  ∃T:Int,push a b n (wx t u)=wx T (u*(a.den:Int)^n)/\Bd (m+9*n) T
 | 0=>⟨by simpa using hu,by simpa using hd,by simpa using bu,t,by simp[push],by simpa using bt⟩
 | n+1=>by
  obtain⟨h1,hdv,h2,T,e,hT⟩:=LP ta da tb hu hd bt bu n;have eb:u*(a.den:Int)^(n+1)=u*(a.den:Int)^n*(a.den:Int):=by rw[VI,<- VO]
  rw[eb];generalize u*(a.den:Int)^n=U at *;obtain⟨c,rfl⟩:=hdv
  have hc:0<c:=by
   have hb:=den_pos b;rcases Int.lt_or_le 0 c with z | z
   ·exact z
   ·have:=Int.mul_nonpos_of_nonneg_of_nonpos (Int.le_of_lt hb) z
    lia
  have bc:Bd (m+9*n) c:=h2.le (by
   rw[xq];exact Nat.le_mul_of_pos_left _ (by have:=den_pos b;lia))
  refine⟨vU h1 (den_pos a),qd (Vy ..) (Vy ..),(h2.mul da).mono (by lia),a.num*T+b.num*(a.den:Int)*c,?_,((ta.mul hT).add ((tb.mul da).mul bc)).mono (by lia)⟩;rw[push,e]
  symm
  have hU:((b.den:Int)*c)*(a.den:Int)≠0:=by have:=vU h1 (den_pos a);lia
  refine fG hU ?_;have q1:=c7 T (show(b.den:Int)*c≠0 by lia);have q2:=jS a;have q3:=jS b;have q4:((a.num*T+b.num*(a.den:Int)*c:Int):Rat)=(a.num:Rat)*(T:Rat)+(b.num:Rat)*((a.den:Int):Rat)*(c:Rat):=by push_cast;rfl
  have q5:(((b.den:Int)*c*(a.den:Int):Int):Rat)=((b.den:Int):Rat)*(c:Rat)*((a.den:Int):Rat):=by push_cast;rfl
  have q6:(((b.den:Int)*c:Int):Rat)=((b.den:Int):Rat)*(c:Rat):=by push_cast;rfl
  rw[q6]at q1;rw[q4,q5,<- q1,<- q2,<- q3]
  grind
theorem d5(a b:Rat)(xs:List Rat)(m:Nat):∀k,ai a b (ai a b xs m) k=ai a b xs (m+k)
 | 0=>rfl
 | k+1=>by rw[ai,d5 a b xs m k];rfl
theorem m8(a b:Rat)(xs:List Rat)(m:Nat):∀k,bC a b xs m+bC a b (ai a b xs m) k=bC a b xs (m+k)
 | 0=>by show bC a b xs m+0=bC a b xs m;grind
 | k+1=>by
  have:=m8 a b xs m k
  show bC a b xs m+(bC a b (ai a b xs m) k+(1-a_ (ai a b (ai a b xs m) k)))=bC a b xs (m+k)+(1-a_ (ai a b xs (m+k)))
  rw[d5,<- this]
  grind
theorem SE{a b:Rat}(a0:0<a)(b0:0<=b){x:Rat}(h:0<x):∀n:Nat,0<push a b n x
 | 0=>h
 | n+1=>by
  have h1:=SE a0 b0 h n;have h2:=VU a0 h1
  show 0<a*push a b n x+b
  grind
structure iA(l:List Rat):Prop where
 pw:l.Pairwise (· > ·)
 nn:∀y∈l,0<=y
theorem iA.step(a0:0<a)(b0:0<=b)(h:iA (x::l))(x1:x<1):iA (lX a b n (x::l)):=by
 have hp:=W0.mp h.pw;have pos:∀y∈l,0<push a b n (y+(1-x)):=λy hy=>SE a0 b0 (by have:=h.nn y (wB _ hy);grind) n
 unfold lX;refine⟨qa.mpr ⟨?_,QU _ _,?_⟩,λy hy=>?_⟩
 ·show(l.map λy=>push a b n (y+(1-x))).Pairwise (· > ·)
  rw[Qz];refine hp.2.imp λ{y z} hyz=>?_
  show push a b n (z+(1-x))<push a b n (y+(1-x))
  have hyz:z<y:=hyz;exact(zAN a0 n _ _).mpr (by grind)
 ·intro y hy z hz
  obtain⟨w,hw,rfl⟩:=wV.mp hy;rw[wX.mp hz];exact pos w hw
 ·rcases Wn.mp hy with hy | hy
  ·obtain⟨w,hw,rfl⟩:=wV.mp hy
   exact Wg (pos w hw)
  ·rw[wX.mp hy];exact WS
structure gR(xs row:List Rat)(fl:Nat->Nat):Prop where
 at':∀w,w<xs.length->xs.getD w 0=row.getD (fl w) 0
 lt:∀w,w<xs.length->fl w<row.length
def bV(n:Nat)(fl:Nat->Nat)(c:Nat):List Nat:=(wo n).filter λw=>decide (fl w=c)
theorem p9{row:List Rat}(h:gR xs row fl)(some:∃w,w<xs.length/\fl w=c)(top:∀j,j<row.length->j≠c->row.getD j 0<row.getD c 0):a_ xs=row.getD c 0:=by
 obtain⟨w,hw,rfl⟩:=some;have h1:1<=xs.length:=by lia
 refine Rat.le_antisymm ?_ ?_
 ·obtain⟨j,hj,e⟩:=vj (fR h1)
  have ea:=h.at' j hj;rw[wb,wc hj]at ea;have ea:xs[j]=row.getD (fl j) 0:=ea;rw[<- e,ea]
  by_cases z:fl j=fl w
  ·rw[z];exact WS
  ·exact Wg (top _ (h.lt j hj) z)
 ·rw[<- h.at' w hw]
  exact BP _ (getD_mem hw)
theorem Gj{row:List Rat}(h:gR xs row fl)(some:∃w,w<xs.length/\fl w=c)(top:∀j,j<row.length->j≠c->row.getD j 0<row.getD c 0):aA (bQ xs) (wo xs.length)=bV xs.length fl c:=by
 unfold aA bV;refine vA λw hw=>?_
 have hw:=wF.mp hw;have hm:=p9 h some top
 have e:(bQ xs).getD w 0=row.getD (fl w) 0+(1-row.getD c 0):=by
  unfold bQ;rw[wb,wu,wc hw,hm];have ea:=h.at' w hw;rw[wb,wc hw]at ea;have ea:xs[w]=row.getD (fl w) 0:=ea
  show xs[w]+(1-row.getD c 0)=_
  rw[ea]
 rw[e]
 by_cases z:fl w=c
 ·rw[z,decide_eq_true rfl,decide_eq_false (by grind)];rfl
 ·have:=top _ (h.lt w hw) z
  rw[decide_eq_false z,decide_eq_true (by grind)];rfl
theorem Mw{row:List Rat}(h:gR xs row fl)(hm:a_ xs=row.getD c 0)(hw:w<xs.length):(bQ xs).getD w 0=row.getD (fl w) 0+(1-row.getD c 0):=by
 unfold bQ;rw[wb,wu,wc hw,hm];have ea:=h.at' w hw;rw[wb,wc hw]at ea;have ea:xs[w]=row.getD (fl w) 0:=ea
 show xs[w]+(1-row.getD c 0)=_
 rw[ea]
theorem zs0{row:List Rat}(h:gR xs row fl)(some:∃w,w<xs.length/\fl w=c)(top:∀j,j<row.length->j≠c->row.getD j 0<row.getD c 0)
  (low:∀j,j<row.length->j≠c->(∃w,w<xs.length/\fl w=j)->push a b (bV xs.length fl c).length (row.getD j 0+(1-row.getD c 0))<1) :
  cH a b xs=[bV xs.length fl c]/\gR (cZ a b xs) (dN a b (bV xs.length fl c).length row c) fl:=by
 have hm:=p9 h some top;have he:=Gj h some top;obtain⟨w0,hw0,hf0⟩:=some
 have hne:bV xs.length fl c≠[]:=λe=>by
  have:w0∈bV xs.length fl c:=wW.mpr ⟨wF.mpr hw0,decide_eq_true hf0⟩;rw[e]at this;cases this
 have hlen:xs.length=(xs.length-1)+1:=by lia
 have hcl:c<row.length:=by rw[<- hf0];exact h.lt w0 hw0
 have nd:=WK (n:=xs.length)
 have hmemL:∀w,w∈bR (wo xs.length) (bV xs.length fl c) ↔ w<xs.length/\fl w≠c:=λw=>by
  unfold bR bV;rw[wW,wF]
  constructor
  ·rintro ⟨h1,h2⟩
   refine⟨h1,λz=>?_⟩;have:w∈(wo xs.length).filter λw=>decide (fl w=c):=wW.mpr ⟨wF.mpr h1,decide_eq_true z⟩
   simp[this]at h2
  ·rintro ⟨h1,h2⟩
   exact⟨h1,by simp[h2]⟩
 have hps:∀w,w<xs.length->fl w≠c->(cD (a^(bV xs.length fl c).length) (aC a b (bV xs.length fl c).length) (bQ xs) (bR (wo xs.length) (bV xs.length fl c))).getD w 0=push a b (bV xs.length fl c).length (row.getD (fl w) 0+(1-row.getD c 0)):=λw hw hf=>by
  rw[iN _ _ _ _ (ng nd) (λv hv=>by rw[eX];exact((hmemL v).mp hv).1),if_pos ((hmemL w).mpr ⟨hw,hf⟩),Mw h hm hw,h_]
 have hend:aA (cD (a^(bV xs.length fl c).length) (aC a b (bV xs.length fl c).length) (bQ xs) (bR (wo xs.length) (bV xs.length fl c))) (bR (wo xs.length) (bV xs.length fl c))=[]:=by
  unfold aA;rw[xi];intro w hw;have hw':=(hmemL w).mp hw;rw[hps w hw'.1 hw'.2];have:=low (fl w) (h.lt w hw'.1) hw'.2 ⟨w,hw'.1,rfl⟩;rw[decide_eq_true this]
  decide
 have hR:dU a b xs=([bV xs.length fl c],bR (wo xs.length) (bV xs.length fl c),cD (a^(bV xs.length fl c).length) (aC a b (bV xs.length fl c).length) (bQ xs) (bR (wo xs.length) (bV xs.length fl c))):=by
  unfold dU;generalize hN:cP a b xs.length (bQ xs) (wo xs.length)=r;rw[show cP a b xs.length (bQ xs) (wo xs.length)=cP a b ((xs.length-1)+1) (bQ xs) (wo xs.length) by rw[<- hlen],iX (by rw[he];exact hne),he,mH hend]at hN;exact hN.symm
 refine⟨by unfold cH;rw[hR],λw hw=>?_,λw hw=>by rw[iG];exact h.lt w (by rw[jE]at hw;exact hw)⟩;rw[jE]at hw;have hfw:=h.lt w hw;unfold cZ;rw[hR,kE (by rw[gT,eX];exact hw),gr _ _ _ _ _ _ hfw]
 by_cases z:fl w=c
 ·rw[if_neg (λy=>((hmemL w).mp y).2 z),if_pos z]
 ·rw[if_pos ((hmemL w).mpr ⟨hw,z⟩),if_neg z,hps w hw z]
theorem Z6{row:List Rat}(h:gR xs row fl)(some:∃w,w<xs.length/\fl w=c)(top:∀j,j<row.length->j≠c->row.getD j 0<row.getD c 0)
  {w1:Nat} (hw1:w1<xs.length) (hf1:fl w1≠c) (up:¬ push a b (bV xs.length fl c).length (row.getD (fl w1) 0+(1-row.getD c 0))<1):1<(cH a b xs).length:=by
 have hm:=p9 h some top;have he:=Gj h some top;obtain⟨w0,hw0,hf0⟩:=some
 have hne:bV xs.length fl c≠[]:=λe=>by
  have:w0∈bV xs.length fl c:=wW.mpr ⟨wF.mpr hw0,decide_eq_true hf0⟩;rw[e]at this;cases this
 have hw01:w0≠w1:=λe=>hf1 (by rw[<- e];exact hf0)
 have hlen:xs.length=(xs.length-2)+1+1:=by lia
 have nd:=WK (n:=xs.length)
 have hmem:w1∈bR (wo xs.length) (bV xs.length fl c):=by
  unfold bR bV;rw[wW,wF];exact⟨hw1,by simp[hf1]⟩
 have hend:aA (cD (a^(bV xs.length fl c).length) (aC a b (bV xs.length fl c).length) (bQ xs) (bR (wo xs.length) (bV xs.length fl c))) (bR (wo xs.length) (bV xs.length fl c))≠[]:=λe=>by
  have:w1∈aA (cD (a^(bV xs.length fl c).length) (aC a b (bV xs.length fl c).length) (bQ xs) (bR (wo xs.length) (bV xs.length fl c))) (bR (wo xs.length) (bV xs.length fl c)):=by
   unfold aA;refine wW.mpr ⟨hmem,?_⟩;rw[iN _ _ _ _ (ng nd) (λv hv=>by rw[eX];exact wF.mp (wW.mp hv).1),if_pos hmem,Mw h hm hw1,<- h_,decide_eq_false up]
   rfl
  rw[e]at this;cases this
 unfold cH dU;rw[show cP a b xs.length (bQ xs) (wo xs.length)=cP a b ((xs.length-2)+1+1) (bQ xs) (wo xs.length) by rw[<- hlen],iX (by rw[he];exact hne),he,iX hend]
 show 1<(_::_::_:List (List Nat)).length
 simp
theorem N5{row:List Rat}(hi:i<=row.length)(hj:j<row.length):(aN a b ns row i).getD j 0∈turned a b ns row i:=by
 have hl:=du a b ns row i;rw[oJ a b ns row i hi];have hm:(aN a b ns row i).getD j 0∈aN a b ns row i:=getD_mem (by lia);generalize (aN a b ns row i).getD j 0=y at hm;have hm2:y∈(aN a b ns row i).take i++(aN a b ns row i).drop i:=by rw[List.take_append_drop];exact hm
 rcases Wn.mp hm2 with z | z
 ·exact Wn.mpr (.inr z)
 ·exact Wn.mpr (.inl z)
theorem Fb{row:List Rat}(h:iA (turned a b ns row i))(hi:i<row.length)(hj:j<row.length)(hne:j≠i):(aN a b ns row i).getD j 0<(aN a b ns row i).getD i 0:=by
 have hl:=du a b ns row i;have hpw:=h.pw;rw[oJ a b ns row i (by lia),VC (by lia),XJ]at hpw;have hp:=(W0.mp hpw).1;have e:(aN a b ns row i).getD i 0=(aN a b ns row i)[i]'(by lia):=by rw[wb,wc (by lia)];rfl
 rw[e];refine hp _ ?_;rw[Wn];have ej:(aN a b ns row i).getD j 0=(aN a b ns row i)[j]'(by lia):=by rw[wb,wc (by lia)];rfl
 rw[ej];rcases wG j i with z | z
 ·refine .inr (xB.mpr ⟨j,by rw[Wr];lia,?_⟩)
  rw[Xk]
 ·refine .inl (xB.mpr ⟨j-(i+1),by rw[vZ];lia,?_⟩)
  rw[Xl]
  congr 1
  lia
def eI(a b:Rat)(ns:List Int)(row:List Rat)(i:Nat):Rat:=(aN a b ns row (i+1)).getD ((i+1) % row.length) 0
structure fL(xs row:List Rat)(fl:Nat->Nat)(ns:List Int):Prop where
 pl:gR xs row fl
 Bh:iA row
 one:row.getD 0 0<1
 len:ns.length=row.length
 some:∀c,c<row.length->∃w,w<xs.length/\fl w=c
 size:∀c,c<row.length->(ns.getD c 0).toNat=(bV xs.length fl c).length
theorem yl{a b:Rat}(a0:0<a)(b0:0<=b){xs row:List Rat}{fl:Nat->Nat}{ns:List Int}(h:fL xs row fl ns):∀i,i<=row.length->(∀t,t<i->eI a b ns row t<1)->gR (ai a b xs i) (aN a b ns row i) fl/\iA (turned a b ns row i)/\(i<row.length->(aN a b ns row i).getD i 0<1) /\ ∀t,t<i->cH a b (ai a b xs t)=[bV xs.length fl t]
 | 0,_,_=>⟨h.pl,h.Bh,λ_=>h.one,λt ht=>by lia⟩
 | i+1,hi,ht=>by
  obtain⟨P,F,o,W⟩:=yl a0 b0 h i (by lia) (λt ht'=>ht t (by lia));have hl:=du a b ns row i;have hpl:=bS a b xs i;have hi':i<row.length:=by lia
  have oi:=o hi';have ti:=ht i (by lia)
  have hne:turned a b ns row i≠[]:=λe=>by
   have:=DK a b ns row (by lia) i;rw[e]at this;simp at this;lia
  obtain⟨x,l,ex⟩:∃x l,turned a b ns row i=x::l:=by
   cases e:turned a b ns row i with
   | nil=>exact absurd e hne
   | cons x l=>exact⟨x,l,rfl⟩
  have hx:x=(aN a b ns row i).getD i 0:=by
   have:=FY a b ns row hi';rw[ex]at this;exact this
  have F1:iA (turned a b ns row (i+1)):=by
   show iA (lX a b (ns.getD i 0).toNat (turned a b ns row i))
   rw[ex]at F ⊢;exact F.step a0 b0 (by rw[hx];exact oi)
  have hsz:(ns.getD i 0).toNat=(bV (ai a b xs i).length fl i).length:=by rw[hpl];exact h.size i hi'
  have hrow:aN a b ns row (i+1)=dN a b (bV (ai a b xs i).length fl i).length (aN a b ns row i) i:=by rw[<- hsz];rfl
  have headTop:(turned a b ns row (i+1)).headD 0=eI a b ns row i:=by
   unfold eI;rcases wG (i+1) row.length with z | z
   ·rw[FY a b ns row z,QN z]
   ·have e:i+1=row.length:=by lia
    rw[e,Nat.mod_self,oJ a b ns row _ (wp _)];have hl1:=du a b ns row row.length;rw[xh (by lia),WR (by lia),qm];cases e2:aN a b ns row row.length with
    | nil=>rw[e2]at hl1;simp at hl1;lia
    | cons y m=>rfl
  have below:∀y∈turned a b ns row (i+1),y<1:=λy hy=>by
   have hpw:=F1.pw;cases e2:turned a b ns row (i+1)with
   | nil=>rw[e2]at hy;cases hy
   | cons z m =>
    rw[e2]at hy hpw headTop
    have hz:z<1:=by
     have:z=eI a b ns row i:=headTop;rw[this];exact ti
    rcases wR.mp hy with rfl | hy
    ·exact hz
    ·have:=(W0.mp hpw).1 y hy
     have:y<z:=this
     grind
  have G:=zs0 (a:=a) (b:=b) (c:=i) P (by obtain⟨w,h1,h2⟩:=h.some i hi';exact⟨w,by lia,h2⟩) (λj hj hji=>Fb F hi' (by lia) hji) (λj hj hji _=>by
   have hm:=N5 (a:=a) (b:=b) (ns:=ns) (row:=row) (i:=i+1) (j:=j) hi (by lia);have:=below _ hm;rw[hrow,gr _ _ _ _ _ _ hj,if_neg hji]at this;exact this)
  refine⟨by rw[hrow];exact G.2,F1,λhlt=>?_,λt ht'=>?_⟩
  ·have:=below _ (N5 (a:=a) (b:=b) (ns:=ns) (row:=row) (i:=i+1) (j:=i+1) hi hlt)
   exact this
  ·rcases wG t i with z | z
   ·exact W t z
   ·have:t=i:=by lia
    subst this;have:=G.1;rw[hpl]at this;exact this
def eH(xs:List Rat)(v:Rat):List Nat:=(wo xs.length).filter λw=>decide (xs.getD w 0=v)
def fJ:Nat->List Rat->List Rat
 | 0,_=>[]
 | _+1,[]=>[]
 | n+1,x::l=>a_ (x::l)::fJ n ((x::l).filter λy=>!decide (y=a_ (x::l)))
def ak(xs:List Rat):List Rat:=fJ xs.length xs
theorem rG(n:Nat):fJ n []=[]:=by cases n<;>rfl
theorem lC(h:l≠[]):fJ (n+1) l=a_ l::fJ n (l.filter λy=>!decide (y=a_ l)):=by
 cases l with
 | nil=>exact absurd rfl h
 | cons x l=>rfl
theorem tS(h:l≠[]):(l.filter λy=>!decide (y=a_ l)).length<l.length:=by
 have hm:a_ l∈l:=fR (Wy.mpr h);rcases wG (l.filter λy=>!decide (y=a_ l)).length l.length with z | z
 ·exact z
 ·have:=List.length_filter_eq_length_iff.mp (Nat.le_antisymm (vT _ _) z) (a_ l) hm
  simp at this
theorem C6:∀(n:Nat)(l:List Rat),∀y∈fJ n l,y∈l
 | 0,l,y,h=>by cases h
 | n+1,[],y,h=>by cases h
 | n+1,x::l,y,h=>by
  rw[lC (by simp)]at h;rcases wR.mp h with rfl | h
  ·exact fR (by simp)
  ·exact(wW.mp (C6 n _ y h)).1
theorem jO:∀(n:Nat)(l:List Rat),(fJ n l).Pairwise (· > ·)
 | 0,l=>xH.nil
 | n+1,[]=>xH.nil
 | n+1,x::l=>by
  rw[lC (by simp)];refine W0.mpr ⟨λy hy=>?_,jO n _⟩;have hf:=wW.mp (C6 n _ y hy);have h1:=BP y hf.1;have h2:¬ y=a_ (x::l):=by simpa using hf.2
  show y<a_ (x::l)
  exact qy h1 h2
theorem O2:∀(n:Nat)(l:List Rat),l.length<=n->∀y∈l,y∈fJ n l
 | 0,l,h,y,hy=>by
  have:l=[]:=qI.mp (by lia);rw[this]at hy;cases hy
 | n+1,[],h,y,hy=>by cases hy
 | n+1,x::l,h,y,hy=>by
  rw[lC (by simp)]
  by_cases z:y=a_ (x::l)
  ·rw[z];exact wJ ..
  ·have hl:=tS (l:=x::l) (by simp)
   refine wB _ (O2 n _ (by lia) y (wW.mpr ⟨hy,by simp[z]⟩))
def aI(xs:List Rat)(w:Nat):Nat:=(ak xs).idxOf (xs.getD w 0)
theorem AB(h:y∈xs):y∈ak xs:=O2 _ _ (wp _) y h
theorem kT(h:y∈ak xs):y∈xs:=C6 _ _ y h
theorem j6(xs:List Rat):gR xs (ak xs) (aI xs):=by
 have key:∀w,w<xs.length->aI xs w<(ak xs).length:=λw hw=>List.idxOf_lt_length_of_mem (AB (getD_mem hw))
 refine⟨λw hw=>?_,key⟩;rw[wb (l:=ak xs),wc (key w hw)];exact(List.getElem_idxOf (key w hw)).symm
theorem u3(hw:w<xs.length)(hc:c<(ak xs).length):aI xs w=c ↔ xs.getD w 0=(ak xs).getD c 0:=by
 have P:=j6 xs;have e:=P.at' w hw;have hl:=P.lt w hw
 constructor
 ·rintro rfl;exact e
 ·intro h
  rw[e]at h;rcases Vz (aI xs w) c with z | z | z
  ·have:=(Wx.mp (jO xs.length xs)) (aI xs w) c hl hc z
   rw[wb,wc hl,wb,wc hc]at h;have h:(ak xs)[aI xs w]=(ak xs)[c]:=h;have this:(ak xs)[c]<(ak xs)[aI xs w]:=this;rw[h]at this;exact absurd this (by grind)
  ·exact z
  ·have:=(Wx.mp (jO xs.length xs)) c (aI xs w) hc hl z
   rw[wb,wc hl,wb,wc hc]at h;have h:(ak xs)[aI xs w]=(ak xs)[c]:=h;have this:(ak xs)[aI xs w]<(ak xs)[c]:=this;rw[h]at this;exact absurd this (by grind)
theorem zxa(hc:c<(ak xs).length):bV xs.length (aI xs) c=eH xs ((ak xs).getD c 0):=by
 unfold bV eH;refine vA λw hw=>?_
 exact decide_eq_decide.mpr (u3 (wF.mp hw) hc)
def aX(xs:List Rat):List Int:=(ak xs).map λv=>((eH xs v).length:Int)
theorem Sd(nn:∀x∈xs,0<=x)(lt:∀x∈xs,x<1):fL xs (ak xs) (aI xs) (aX xs) where
 pl:=j6 xs
 Bh:=⟨jO _ _,λy hy=>nn y (kT hy)⟩
 one:=by
  rcases wG 0 (ak xs).length with z | z
  ·exact lt _ (kT (getD_mem z))
  ·rw[wb,wL z];decide
 len:=by unfold aX;rw[wm]
 some:=λc hc=>by
  obtain⟨w,hw,e⟩:=vj (kT (getD_mem (d:=0) hc));refine⟨w,hw,(u3 hw hc).mpr ?_⟩;rw[wb,wc hw];exact e
 size:=λc hc=>by
  rw[zxa hc];unfold aX;rw[wb,wu,wc hc,wb,wc hc]
  rfl
theorem KO:∀{l m:List Rat},l.Pairwise (· > ·)->m.Pairwise (· > ·)->(∀y,y∈l ↔ y∈m)->l=m
 | [],[],_,_,_=>rfl
 | [],y::m,_,_,h=>by have:=(h y).mpr (wJ ..);cases this
 | x::l,[],_,_,h=>by have:=(h x).mp (wJ ..);cases this
 | x::l,y::m,hl,hm,h=>by
  have pl:=W0.mp hl;have pm:=W0.mp hm
  have e:x=y:=by
   rcases wR.mp ((h x).mp (wJ ..))with z | z
   ·exact z
   ·rcases wR.mp ((h y).mpr (wJ ..))with z2 | z2
    ·exact z2.symm
    ·have a1:x<y:=pm.1 x z
     have a2:y<x:=pl.1 y z2
     grind
  subst e;rw[KO pl.2 pm.2 λz=>⟨λhz=>?_,λhz=>?_⟩]
  ·rcases wR.mp ((h z).mp (wB _ hz))with e | e
   ·have:z<x:=pl.1 z hz
    rw[e]at this;exact absurd this (by grind)
   ·exact e
  ·rcases wR.mp ((h z).mpr (wB _ hz))with e | e
   ·have:z<x:=pm.1 z hz
    rw[e]at this;exact absurd this (by grind)
   ·exact e
theorem ztk{row:List Rat}(P:gR ys row fl)(F:row.Pairwise (· > ·))(some:∀c,c<row.length->∃w,w<ys.length/\fl w=c):ak ys=row:=by
 refine KO (jO _ _) F λy=>⟨λh=>?_,λh=>?_⟩
 ·obtain⟨w,hw,e⟩:=vj (kT h)
  have ea:=P.at' w hw;rw[wb,wc hw]at ea;have ea:ys[w]=row.getD (fl w) 0:=ea;rw[<- e,ea];exact getD_mem (P.lt w hw)
 ·obtain⟨c,hc,e⟩:=vj h
  obtain⟨w,hw,hf⟩:=some c hc;have ea:=P.at' w hw;rw[hf,wb (l:=row),wc hc]at ea;have ea:ys.getD w 0=row[c]:=ea;rw[<- e,<- ea];exact AB (getD_mem hw)
def eS(a b:Rat)(ns:List Int)(row:List Rat):Nat->Rat
 | 0=>0
 | k+1=>eS a b ns row k+(1-(aN a b ns row k).getD k 0)
theorem Ky{a b:Rat}(a0:0<a)(b0:0<=b){xs row:List Rat}{fl:Nat->Nat}{ns:List Int}(h:fL xs row fl ns):∀i,i<=row.length->(∀t,t<i->eI a b ns row t<1)->bC a b xs i=eS a b ns row i
 | 0,_,_=>rfl
 | i+1,hi,ht=>by
  have ht':∀t,t<i->eI a b ns row t<1:=λt z=>ht t (by lia)
  obtain⟨P,F,_,_⟩:=yl a0 b0 h i (by lia) ht';have hpl:=bS a b xs i;have hl:=du a b ns row i;have hm:=p9 (c:=i) P (by obtain⟨w,h1,h2⟩:=h.some i (by lia);exact⟨w,by lia,h2⟩) (λj hj hji=>Fb F (by lia) (by lia) hji);rw[bC,eS,Ky a0 b0 h i (by lia) ht',hm]
theorem zxo(a0:0<a)(b0:0<=b){row:List Rat}(h:fL xs row fl ns){t:Nat}(ht:t<row.length)(free:∀s,s<t->eI a b ns row s<1)(up:¬ eI a b ns row t<1):1<(cH a b (ai a b xs t)).length:=by
 obtain⟨P,F,o,_⟩:=yl a0 b0 h t (by lia) free;have hpl:=bS a b xs t;have hl:=du a b ns row t;have hsz:(ns.getD t 0).toNat=(bV (ai a b xs t).length fl t).length:=by rw[hpl];exact h.size t ht
 have hrow:aN a b ns row (t+1)=dN a b (bV (ai a b xs t).length fl t).length (aN a b ns row t) t:=by rw[<- hsz];rfl
 have hj:(t+1) % row.length<row.length:=X6 _ (by lia)
 have hne:(t+1) % row.length≠t:=λe=>by
  apply up
  unfold eI;rw[hrow,e,gr _ _ _ _ _ _ (by lia),if_pos rfl]
  decide
 obtain⟨w1,hw1,hf1⟩:=h.some _ hj;refine Z6 (c:=t) P (by obtain⟨w,h1,h2⟩:=h.some t ht;exact⟨w,by lia,h2⟩) (λj hj hji=>Fb F ht (by lia) hji) (w1:=w1) (by lia) (by rw[hf1];exact hne) ?_;intro z
 apply up
 unfold eI;rw[hrow,gr _ _ _ _ _ _ (by lia),if_neg hne,<- hf1];exact z
theorem rD{a b:Rat}(a0:0<a)(b0:0<=b):∀n:Nat,0<=aC a b n
 | 0=>WS
 | n+1=>by
  have h1:=rD a0 b0 n;have h2:=Qf (Wg a0) h1
  show 0<=a*aC a b n+b
  grind
theorem C3{a b:Rat}(a0:0<a)(b0:0<=b):∀(n:Nat)(ps:List Rat)(left:List Nat),left.length<=n->left.Nodup->(∀w∈left,w<ps.length)->(∀w∈left,0<=ps.getD w 0) ->
  ∀w∈(cP a b n ps left).2.1,w∈left/\0<=(cP a b n ps left).2.2.getD w 0/\(cP a b n ps left).2.2.getD w 0<1
 | 0,ps,left,hn,_,_,_=>by
  have:left=[]:=qI.mp (by lia);subst this;intro w hw;cases (show w∈([]:List Nat)from hw)
 | n+1,ps,left,hn,nd,hlt,nn=>by
  by_cases e:aA ps left=[]
  ·rw[mH e]
   intro w hw;have hw:w∈left:=hw;refine⟨hw,nn w hw,?_⟩;have:¬ w∈aA ps left:=by rw[e];simp
   unfold aA at this;rw[wW]at this
   show ps.getD w 0<1
   by_cases z:ps.getD w 0<1
   ·exact z
   ·exact absurd ⟨hw,by simp only[z,decide_false,xt]⟩ this
  ·rw[iX e]
   have hl:=z6 ps left;have hp:=Wy.mpr e;have nd':(bR left (aA ps left)).Nodup:=ng nd;have lt':∀w∈bR left (aA ps left),w<(cD (a^(aA ps left).length) (aC a b (aA ps left).length) ps (bR left (aA ps left))).length:=λw hw=>by rw[gT];exact oA hlt w hw
   have ih:=C3 a0 b0 n (cD (a^(aA ps left).length) (aC a b (aA ps left).length) ps (bR left (aA ps left))) (bR left (aA ps left)) (by lia) nd' lt' (λw hw=>by
    rw[iN _ _ _ _ nd' (oA hlt),if_pos hw];have h1:=nn w (wW.mp hw).1;have h2:=Qf (Wg (pU a0 (aA ps left).length)) h1;have h3:=rD a0 b0 (aA ps left).length
    grind)
   intro w hw;have:=ih w hw;exact⟨(wW.mp this.1).1,this.2⟩
theorem KJ(nn:∀x∈xs,0<=x)(lt:∀x∈xs,x<1)(hw:w<xs.length):0<=(bQ xs).getD w 0:=by
 have h1:=fR (xs:=xs) (by lia);have h2:=lt _ h1;have h3:=nn _ (getD_mem (d:=0) hw);unfold bQ;rw[yq hw]
 grind
theorem Kr(a0:0<a)(b0:0<=b)(nn:∀x∈xs,0<=x)(lt:∀x∈xs,x<1):∀y∈cZ a b xs,0<=y/\y<1:=λy hy=>by
 obtain⟨j,hj,e⟩:=vj hy;have hlen:=jE a b xs;have hjx:j<xs.length:=by lia
 have hpl:(dU a b xs).2.2.length=xs.length:=by
  unfold dU;rw[rN,eX]
 have e2:(cZ a b xs).getD j 0=y:=by rw[wb,wc hj];exact e
 unfold cZ at e2;rw[kE (by lia)]at e2
 split at e2
 ·rename_i hm
  have:=C3 a0 b0 xs.length (bQ xs) (wo xs.length) (by simp) WK (λw hw=>by rw[eX];exact wF.mp hw) (λw hw=>KJ nn lt (wF.mp hw)) j hm;rw[<- e2];exact this.2
 ·rw[<- e2];exact⟨WS,by decide⟩
theorem zsK(a0:0<a)(b0:0<=b)(h1:1<=xs.length)(nn:∀x∈xs,0<=x)(lt:∀x∈xs,x<1):0∈cZ a b xs:=by
 obtain⟨j,hj,e⟩:=vj (fR h1)
 have hr:(bQ xs).getD j 0=1:=by
  unfold bQ;rw[yq hj,wb,wc hj]
  show xs[j]+(1-a_ xs)=1
  rw[e];grind
 have hend:j∈aA (bQ xs) (wo xs.length):=by
  unfold aA;rw[wW];refine⟨wF.mpr hj,?_⟩;rw[hr];decide
 have hne:aA (bQ xs) (wo xs.length)≠[]:=λz=>by rw[z]at hend;cases hend
 have hpl:(dU a b xs).2.2.length=xs.length:=by
  unfold dU;rw[rN,eX]
 have hnot:¬ j∈(dU a b xs).2.1:=λz=>by
  unfold dU at z;obtain⟨n,hn⟩:∃n,xs.length=n+1:=⟨xs.length-1,by lia⟩;have hl:=z6 (bQ xs) (wo xs.length);rw[vi]at hl;have hp:=Wy.mpr hne;have z':j∈(cP a b (n+1) (bQ xs) (wo xs.length)).2.1:=by rw[<- hn];exact z
  rw[iX hne]at z';have nd':(bR (wo xs.length) (aA (bQ xs) (wo xs.length))).Nodup:=ng WK;have ltr:∀w∈wo xs.length,w<(bQ xs).length:=λw hw=>by rw[eX];exact wF.mp hw
  have:=C3 a0 b0 n _ _ (by lia) nd' (λw hw=>by rw[gT];exact oA ltr w hw) (λw hw=>by
   rw[iN _ _ _ _ nd' (oA ltr),if_pos hw];have h1:=KJ nn lt (wF.mp (wW.mp hw).1);have h2:=Qf (Wg (pU a0 (aA (bQ xs) (wo xs.length)).length)) h1;have h3:=rD a0 b0 (aA (bQ xs) (wo xs.length)).length
   grind) j z'
  have:=(wW.mp this.1).2;simp only[hend,decide_true,qg]at this;cases this
 have hlen:=jE a b xs
 have hg:(cZ a b xs).getD j 0=0:=by
  unfold cZ;rw[kE (by lia),if_neg hnot]
 rw[<- hg];exact getD_mem (by lia)
structure dk(xs:List Rat):Prop where
 nn:∀x∈xs,0<=x
 lt:∀x∈xs,x<1
theorem dk.mT(a0:0<a)(b0:0<=b)(h:dk xs):dk (cZ a b xs):=⟨λy hy=>(Kr a0 b0 h.nn h.lt y hy).1,λy hy=>(Kr a0 b0 h.nn h.lt y hy).2⟩
theorem dk.at{a b:Rat}(a0:0<a)(b0:0<=b){xs:List Rat}(h:dk xs):∀k,dk (ai a b xs k)
 | 0=>h
 | k+1=>(dk.at a0 b0 h k).mT a0 b0
theorem dk.zero(a0:0<a)(b0:0<=b)(h:dk xs)(h1:1<=xs.length)(hk:1<=k):0∈ai a b xs k:=by
 obtain⟨j,rfl⟩:∃j,k=j+1:=⟨k-1,by lia⟩;have:=h.at a0 b0 j;exact zsK a0 b0 (by rw[bS];exact h1) this.nn this.lt
theorem yk(h:dk xs)(h0:0∈xs):(ak xs).dropLast++[0]=ak xs:=by
 have hm:=AB h0;have hne:ak xs≠[]:=λe=>by rw[e]at hm;cases hm
 have hpw:(ak xs).Pairwise (· > ·):=jO _ _
 have hl:(ak xs).getLast hne=0:=by
  have h1:=h.nn _ (kT (List.getLast_mem hne))
  have h2:(ak xs).getLast hne<=0:=by
   have e:=Qg hne;rw[<- e]at hm hpw;rcases Wn.mp hm with z | z
   ·have:=(qa.mp hpw).2.2 0 z _ (wX.mpr rfl)
    exact Wg this
   ·rw[<- wX.mp z];exact WS
  grind
 have:=Qg hne;rw[hl]at this;exact this
theorem tD(h1:1<=xs.length):1<=(ak xs).length:=by
 have:=AB (getD_mem (d:=0) (show 0<xs.length by lia));exact xj this
theorem jC(xs:List Rat):(aX xs).length=(ak xs).length:=by unfold aX;rw[wm]
theorem m5(xs:List Rat):∀n∈aX xs,0<=n:=λn hn=>by
 obtain⟨v,_,rfl⟩:=wV.mp hn
 lia
theorem OH{α : Type}(g h : α -> Nat):∀l:List α,(l.map λv=>g v+h v).sum=(l.map g).sum+(l.map h).sum
 | []=>rfl
 | x::l=>by
  simp only[ve,W6,OH g h l]
  lia
theorem KH(x:Rat):∀vs:List Rat,vs.Nodup->(vs.map λv=>if x=v then 1 else 0).sum<=1
 | [],_=>by simp
 | v::vs,nd=>by
  have⟨h1,h2⟩:=VQ.mp nd;rw[ve,W6]
  by_cases e:x=v
  ·have z:(vs.map λv=>if x=v then 1 else 0).sum=0:=by
    have:∀ws:List Rat,(∀y∈ws,x≠y)->(ws.map λv=>if x=v then 1 else 0).sum=0:=by
     intro ws
     induction ws with
     | nil=>intro _;rfl
     | cons y ws ih =>
      intro hy;rw[ve,W6,if_neg (hy y (wJ ..)),ih λz hz=>hy z (wB _ hz)]
    exact this vs λy hy z=>h1 (by rw[<- e,z];exact hy)
   rw[z,if_pos e]
   lia
  ·have:=KH x vs h2
   rw[if_neg e];lia
theorem NW(f:Nat->Rat)(vs:List Rat)(nd:vs.Nodup):∀l:List Nat,(vs.map λv=>(l.filter λw=>decide (f w=v)).length).sum<=l.length
 | []=>by
  have:∀ws:List Rat,(ws.map λv=>(([]:List Nat).filter λw=>decide (f w=v)).length).sum=0:=by
   intro ws
   induction ws with
   | nil=>rfl
   | cons y ws ih=>rw[ve,W6,ih];rfl
  rw[this];exact wp _
 | w::l=>by
  have ih:=NW f vs nd l
  have e:(vs.map λv=>((w::l).filter λw=>decide (f w=v)).length)=vs.map λv=>(if f w=v then 1 else 0)+(l.filter λw=>decide (f w=v)).length:=by
   refine Vb λv _=>?_
   rw[Ws]
   by_cases z:f w=v
   ·rw[if_pos (by simp[z]),if_pos z,Wa];lia
   ·rw[if_neg (by simp[z]),if_neg z];lia
  rw[e,OH,Wa];have:=KH (f w) vs nd
  lia
theorem UY(xs:List Rat):(ak xs).Nodup:=(jO xs.length xs).imp λ{x y} h=>by
 have h:y<x:=h;intro e;rw[e]at h;exact absurd h (by grind)
theorem NJ(xs:List Rat):((aX xs).map Q3).sum<=xs.length:=by
 have:=NW (λw=>xs.getD w 0) (ak xs) (UY xs) (wo xs.length);rw[vi]at this
 have e:(aX xs).map Q3=(ak xs).map λv=>((wo xs.length).filter λw=>decide (xs.getD w 0=v)).length:=by
  unfold aX;rw[V4];refine Vb λv _=>?_
  show((eH xs v).length:Int).toNat=_
  rw[wD];rfl
 rw[e];exact this
theorem EJ(xs:List Rat):upTo (aX xs) (aX xs).length<=xs.length:=by
 unfold upTo;rw[Wb];exact NJ xs
theorem ztV(xs:List Rat):∀n∈aX xs,0<=n/\n<=xs.length:=λn hn=>by
 obtain⟨v,_,rfl⟩:=wV.mp hn
 have:(eH xs v).length<=xs.length:=by
  have:=vT (λw=>decide (xs.getD w 0=v)) (wo xs.length);rw[vi]at this;exact this
 lia
theorem hW(xs:List Rat):(ak xs).length<=xs.length:=by
 have h:∀(n:Nat)(l:List Rat),(fJ n l).length<=n:=by
  intro n
  induction n with
  | zero=>intro l;exact wp _
  | succ n ih =>
   intro l
   by_cases e:l=[]
   ·rw[e,rG];simp
   ·rw[lC e,Wa]
    have:=ih (l.filter λy=>!decide (y=a_ l))
    lia
 exact h _ _
theorem lD(c:Cm m xs)(h:∀y∈ys,y∈xs):Cm m ys:=c.g9 λy hy=>.inl (h y hy)
theorem oq(c:Cm m xs):Cm m (ak xs).dropLast:=lD c λy hy=>kT (by rw[xu]at hy;exact List.mem_of_mem_take hy)
theorem zwD(xs:List Rat):(wo xs.length).map (λw=>xs.getD w 0)=xs:=by
 refine Vd (by simp) λi h1 h2=>?_
 rw[Ve,List.getElem_range,wb,wc h2]
 rfl
theorem RF(xs:List Rat)(v:Rat):(eH xs v).length=xs.countP λy=>decide (y=v):=by
 unfold eH;rw[<- Qh]
 conv=>rhs;rw[<- zwD xs,X7]
 rfl
def seg(n:Nat)(fl:Nat->Nat)(s t:Nat):List Nat:=(wo n).filter λw=>decide (s<=fl w)&&decide (fl w<t)
theorem hJ{s t:Nat} : w∈seg n fl s t ↔ w<n/\s<=fl w/\fl w<t:=by
 unfold seg;rw[wW,wF,wY,decide_eq_true_eq,decide_eq_true_eq]
theorem Mu(n:Nat)(fl:Nat->Nat)(s t:Nat):(seg n fl s t).Nodup:=WK.filter _
theorem zw0{s t u:Nat}(h1:s<=t)(h2:t<=u):(seg n fl s t++seg n fl t u).Perm (seg n fl s u):=by
 have e1:(seg n fl s u).filter (λw=>decide (fl w<t))=seg n fl s t:=by
  unfold seg;rw[Vo];refine vA λw _=>?_
  rw[vy];simp only[wY,decide_eq_true_eq]
  lia
 have e2:(seg n fl s u).filter (λw=>!decide (fl w<t))=seg n fl t u:=by
  unfold seg;rw[Vo];refine vA λw _=>?_
  rw[vy];simp only[wY,WO,decide_eq_true_eq,decide_eq_false_iff_not]
  lia
 have:=List.filter_append_perm (λw=>decide (fl w<t)) (seg n fl s u);rw[e1,e2]at this;exact this
theorem PC(n:Nat)(fl:Nat->Nat)(s:Nat):seg n fl s s=[]:=by
 unfold seg;rw[xi];intro w _;simp only[wY,decide_eq_true_eq]
 lia
inductive jW(n:Nat)(fl:Nat->Nat):Nat->List (List Nat)->Nat->Prop
 | nil (t:Nat):jW n fl t [] t
 | cons {t u v:Nat} {ws:List (List Nat)} : t<u->jW n fl u ws v->jW n fl t (seg n fl t u::ws) v
theorem jW.le{t:Nat}{ws:List (List Nat)}(h:jW n fl t ws v):t<=v:=by
 induction h with
 | nil t=>exact wp t
 | cons h _ ih=>lia
theorem jW.perm{t:Nat}{ws:List (List Nat)}(h:jW n fl t ws v):ws.flatten.Perm (seg n fl t v):=by
 induction h with
 | nil t=>rw[PC];exact List.Perm.refl _
 | cons h k ih =>
  rw[Vx];exact(List.Perm.append_left _ ih).trans (zw0 (by lia) k.le)
theorem N6(p:Nat->Prop)[DecidablePred p](t:Nat):∀m:Nat,t<=m->(∀c d,t<=c->c<=d->d<m->p d->p c)->∃u,t<=u/\u<=m /\ ∀c,t<=c->c<m->(p c ↔ c<u)
 | 0,h,_=>⟨0,h,wp 0,λc _ hc=>absurd hc (by lia)⟩
 | m+1,h,mono=>by
  rcases wG m t with z | z
  ·exact⟨m+1,h,wp _,λc h1 h2=>absurd h2 (by lia)⟩
  ·by_cases q:p m
   ·exact⟨m+1,h,wp _,λc h1 h2=>⟨λ_=>h2,λ_=>mono c m h1 (by lia) (by lia) q⟩⟩
   ·obtain⟨u,u1,u2,hu⟩:=N6 p t m z (λc d h1 h2 h3=>mono c d h1 h2 (by lia))
    refine⟨u,u1,by lia,λc h1 h2=>?_⟩;rcases wG c m with y | y
    ·exact hu c h1 y
    ·have:c=m:=by lia
     subst this;exact⟨λk=>absurd k q,λk=>absurd k (by lia)⟩
theorem AL{row:List Rat}(F:row.Pairwise (· > ·)){d:Nat}(h:c<d)(hd:d<row.length):row.getD d 0<row.getD c 0:=by
 have:=Wx.mp F c d (by lia) hd h;rw[wb,wc hd,wb,wc (by lia)];exact this
theorem zBm{row:List Rat}(F:row.Pairwise (· > ·)){d:Nat}(h:c<=d)(hd:d<row.length):row.getD d 0<=row.getD c 0:=by
 rcases wG c d with z | z
 ·exact Wg (AL F z hd)
 ·rw[show c=d by lia];exact WS
theorem O3{a b:Rat}(a0:0<a)(b0:0<=b){row:List Rat}{fl:Nat->Nat}{N:Nat}(F:row.Pairwise (· > ·)):∀(n:Nat)(ps:List Rat)(t:Nat)(A B:Rat),t<=row.length->ps.length=N->0<A->(∀w∈seg N fl t row.length,ps.getD w 0=A*row.getD (fl w) 0+B/\0<ps.getD w 0) ->
  ∃(v:Nat)(A' B':Rat),v<=row.length/\0<A'/\jW N fl t (cP a b n ps (seg N fl t row.length)).1 v/\(cP a b n ps (seg N fl t row.length)).2.1=seg N fl v row.length /\
   ∀w∈seg N fl v row.length,(cP a b n ps (seg N fl t row.length)).2.2.getD w 0=A'*row.getD (fl w) 0+B'/\0<A'*row.getD (fl w) 0+B'
 | 0,ps,t,A,B,ht,hl,hA,hw=>⟨t,A,B,ht,hA,.nil t,rfl,λw h=>⟨(hw w h).1,by rw[<- (hw w h).1];exact(hw w h).2⟩⟩
 | n+1,ps,t,A,B,ht,hl,hA,hw=>by
  by_cases e:aA ps (seg N fl t row.length)=[]
  ·rw[mH e]
   exact⟨t,A,B,ht,hA,.nil t,rfl,λw h=>⟨(hw w h).1,by rw[<- (hw w h).1];exact(hw w h).2⟩⟩
  ·obtain⟨u,u1,u2,hu⟩:=N6 (λc=>¬ A*row.getD c 0+B<1) t row.length ht (λc d h1 h2 h3 hp=>by
    have:=Rat.mul_le_mul_of_nonneg_left (zBm F h2 h3) (Wg hA);have hp:¬ A*row.getD d 0+B<1:=hp
    show ¬ A*row.getD c 0+B<1
    grind)
   have eE:aA ps (seg N fl t row.length)=seg N fl t u:=by
    unfold aA
    have:(seg N fl t row.length).filter (λw=>!decide (ps.getD w 0<1))=(seg N fl t row.length).filter (λw=>decide (fl w<u)):=by
     refine vA λw h=>?_
     have h1:=hw w h;have h2:=hJ.mp h;rw[vy,WO,decide_eq_false_iff_not,decide_eq_true_eq,h1.1];exact hu (fl w) h2.2.1 h2.2.2
    rw[this];unfold seg;rw[Vo];refine vA λw _=>?_
    rw[vy];simp only[wY,decide_eq_true_eq]
    lia
   have eL:bR (seg N fl t row.length) (seg N fl t u)=seg N fl u row.length:=by
    unfold bR
    have:(seg N fl t row.length).filter (λw=>!decide (w∈seg N fl t u))=(seg N fl t row.length).filter (λw=>!decide (fl w<u)):=by
     refine vA λw h=>?_
     have h2:=hJ.mp h;rw[vy,WO,WO,decide_eq_false_iff_not,decide_eq_false_iff_not,hJ]
     constructor
     ·intro k y;exact k ⟨h2.1,h2.2.1,y⟩
     ·intro k y;exact k y.2.2
    rw[this];unfold seg;rw[Vo];refine vA λw _=>?_
    rw[vy];simp only[wY,WO,decide_eq_true_eq,decide_eq_false_iff_not]
    lia
   have htu:t<u:=by
    rcases wG t u with z | z
    ·exact z
    ·have:u=t:=by lia
     rw[eE,this,PC]at e;exact absurd rfl e
   rw[iX e,eE,eL];have hf:=pU a0 (seg N fl t u).length;have hg:=rD a0 b0 (seg N fl t u).length;generalize a^(seg N fl t u).length=f at *;generalize aC a b (seg N fl t u).length=g at *;have hA':0<f*A:=VU hf hA
   obtain⟨v,A',B',hv,hA2,hs,hl2,hw2⟩:=O3 (fl:=fl) (N:=N) a0 b0 F n (cD f g ps (seg N fl u row.length)) u (f*A) (f*B+g) u2 (by rw[gT];exact hl) hA' (λw h=>by
    have hm:=hJ.mp h;have h1:=hw w (hJ.mpr ⟨hm.1,by lia,hm.2.2⟩);have h3:=VU hf h1.2;rw[iN _ _ _ _ (Mu ..) (λw h=>by rw[hl];exact(hJ.mp h).1),if_pos h];refine⟨by rw[h1.1];grind,by grind⟩)
   exact⟨v,A',B',hv,hA2,.cons htu hs,hl2,hw2⟩
structure lZ(xs ys:List Rat)(waves:List (List Nat))(v:Nat):Prop where
 v1:1<=v
 vm:v<=(ak xs).length
 first:∃ws,waves=seg xs.length (aI xs) 0 1::ws/\jW xs.length (aI xs) 1 ws v
 vals:∃(A B:Rat),0<A/\ak ys=((ak xs).drop v).map (λx=>A*x+B)++[0]/\(∀x∈(ak xs).drop v,0<A*x+B)
 at':gR ys (ak ys) (λw=>if aI xs w<v then(ak xs).length-v else aI xs w-v)
 len:ys.length=xs.length
theorem KI : (l.drop v).getD c 0=l.getD (v+c) 0:=by
 rw[wb,xZ,wb]
theorem nz(hc:c<(ak xs).length):∃w,w<xs.length/\aI xs w=c:=by
 have hm:(ak xs).getD c 0∈xs:=kT (getD_mem hc);obtain⟨w,hw,e⟩:=vj hm;refine⟨w,hw,(u3 hw hc).mpr ?_⟩;rw[wb,wc hw];exact e
theorem yB(a0:0<a)(b0:0<=b)(h1:1<=xs.length)(nn:∀x∈xs,0<=x)(lt:∀x∈xs,x<1):∃v,lZ xs (cZ a b xs) (cH a b xs) v:=by
 have P:=j6 xs;have F:(ak xs).Pairwise (· > ·):=jO xs.length xs;have m1:=tD h1;have top:∀j,j<(ak xs).length->j≠0->(ak xs).getD j 0<(ak xs).getD 0 0:=λj hj h0=>AL F (by lia) hj
 have he:=Gj P (nz m1) top;have hmax:=p9 P (nz m1) top;have hmx1:a_ xs<1:=lt _ (fR h1)
 have e01:bV xs.length (aI xs) 0=seg xs.length (aI xs) 0 1:=by
  unfold bV seg;refine vA λw _=>?_
  rw[vy];simp only[wY,decide_eq_true_eq]
  lia
 rw[e01]at he
 have hr:wo xs.length=seg xs.length (aI xs) 0 (ak xs).length:=by
  unfold seg
  symm
  rw[xK];intro w hw;have:=P.lt w (wF.mp hw);simp only[wY,decide_eq_true_eq]
  lia
 have hne:aA (bQ xs) (wo xs.length)≠[]:=λe=>by
  obtain⟨w,hw,hf⟩:=nz m1;rw[he]at e;have:w∈seg xs.length (aI xs) 0 1:=hJ.mpr ⟨hw,by lia,by lia⟩;rw[e]at this;cases this
 obtain⟨n,hn⟩:∃n,xs.length=n+1:=⟨xs.length-1,by lia⟩
 have eL:bR (wo xs.length) (seg xs.length (aI xs) 0 1)=seg xs.length (aI xs) 1 (ak xs).length:=by
  unfold bR seg;refine vA λw hw=>?_
  have h2:=P.lt w (wF.mp hw);rw[vy,WO,decide_eq_false_iff_not]
  have:w∈(wo xs.length).filter (λw=>decide (0<=aI xs w)&&decide (aI xs w<1)) ↔ aI xs w<1:=by
   rw[wW,wY,decide_eq_true_eq,decide_eq_true_eq];exact⟨λh=>h.2.2,λh=>⟨hw,by lia,h⟩⟩
  rw[this];simp only[wY,decide_eq_true_eq]
  lia
 have hf:=pU a0 (seg xs.length (aI xs) 0 1).length;have hg:=rD a0 b0 (seg xs.length (aI xs) 0 1).length
 have eR:dU a b xs=(seg xs.length (aI xs) 0 1::(cP a b n (cD (a^(seg xs.length (aI xs) 0 1).length) (aC a b (seg xs.length (aI xs) 0 1).length) (bQ xs) (seg xs.length (aI xs) 1 (ak xs).length)) (seg xs.length (aI xs) 1 (ak xs).length)).1,(cP a b n (cD (a^(seg xs.length (aI xs) 0 1).length) (aC a b (seg xs.length (aI xs) 0 1).length) (bQ xs) (seg xs.length (aI xs) 1 (ak xs).length)) (seg xs.length (aI xs) 1 (ak xs).length)).2):=by
  unfold dU;have e:cP a b xs.length (bQ xs) (wo xs.length)=cP a b (n+1) (bQ xs) (wo xs.length):=by rw[<- hn]
  rw[e,iX hne,he,eL]
 generalize a^(seg xs.length (aI xs) 0 1).length=f at *;generalize aC a b (seg xs.length (aI xs) 0 1).length=g at *
 obtain⟨v,A,B,hv,hA,hs,hl2,hw2⟩:=O3 (fl:=aI xs) (N:=xs.length) a0 b0 F n (cD f g (bQ xs) (seg xs.length (aI xs) 1 (ak xs).length)) 1 f (f*(1-a_ xs)+g) m1 (by rw[gT,eX]) hf (λw h=>by
  have hm:=hJ.mp h;rw[iN _ _ _ _ (Mu ..) (λw h=>by rw[eX];exact(hJ.mp h).1),if_pos h]
  have e:(bQ xs).getD w 0=(ak xs).getD (aI xs w) 0+(1-a_ xs):=by
   unfold bQ;rw[yq hm.1,P.at' w hm.1]
  have hx:=nn _ (getD_mem (d:=0) hm.1);rw[P.at' w hm.1]at hx;have h3:=VU hf (show 0<(ak xs).getD (aI xs w) 0+(1-a_ xs) by grind);rw[e];exact⟨by grind,by grind⟩)
 have v1:=hs.le
 have ePh:∀w,w<xs.length->(cZ a b xs).getD w 0=if aI xs w<v then 0 else A*(ak xs).getD (aI xs w) 0+B:=λw hw=>by
  have hpl:(dU a b xs).2.2.length=xs.length:=by unfold dU;rw[rN,eX]
  unfold cZ;rw[kE (by lia),eR]
  show(if w∈(cP a b n _ _).2.1 then _ else _)=_
  rw[hl2]
  by_cases z:aI xs w<v
  ·rw[if_neg (λh=>by have:=(hJ.mp h).2.1;lia),if_pos z]
  ·have hmem:w∈seg xs.length (aI xs) v (ak xs).length:=hJ.mpr ⟨hw,by lia,P.lt w hw⟩
   rw[if_pos hmem,if_neg z];exact(hw2 w hmem).1
 have posd:∀x∈(ak xs).drop v,0<A*x+B:=λx hx=>by
  obtain⟨c,hc,e⟩:=vj hx;rw[vZ]at hc;obtain⟨w,hw,hfw⟩:=nz (xs:=xs) (c:=v+c) (by lia);have:=(hw2 w (hJ.mpr ⟨hw,by lia,P.lt w hw⟩)).2;rw[hfw,<- KI,wb,wc (by rw[vZ];lia)]at this;rw[<- e];exact this
 have rlen:(((ak xs).drop v).map (λx=>A*x+B)++[0]).length=(ak xs).length-v+1:=by simp
 have rget:∀c,c<(ak xs).length-v->(((ak xs).drop v).map (λx=>A*x+B)++[0]).getD c 0=A*(ak xs).getD (v+c) 0+B:=λc hc=>by
  rw[wb,Ww (by simp;lia),<- wb,yq (by rw[vZ];lia),KI]
 have rlast:(((ak xs).drop v).map (λx=>A*x+B)++[0]).getD ((ak xs).length-v) 0=0:=by
  rw[wb,Wh (by simp)];simp
 have P2:gR (cZ a b xs) (((ak xs).drop v).map (λx=>A*x+B)++[0]) (λw=>if aI xs w<v then(ak xs).length-v else aI xs w-v):=by
  refine⟨λw hw=>?_,λw hw=>?_⟩
  ·rw[jE]at hw
   rw[ePh w hw];have:=P.lt w hw
   by_cases z:aI xs w<v
   ·simp only[z,if_true]
    exact rlast.symm
   ·simp only[z,if_false]
    rw[rget _ (by lia),show v+(aI xs w-v)=aI xs w by lia]
  ·rw[jE]at hw
   have:=P.lt w hw;rw[rlen]
   show(if aI xs w<v then _ else _)<_
   split<;>lia
 have F2:(((ak xs).drop v).map (λx=>A*x+B)++[0]).Pairwise (· > ·):=by
  rw[qa];refine⟨?_,QU _ _,λx hx y hy=>?_⟩
  ·rw[Qz]
   refine(uL F).imp λ{x y} h=>?_
   have:=Rat.mul_lt_mul_of_pos_left (show y<x from h) hA
   show A*y+B<A*x+B
   grind
  ·obtain⟨z,hz,rfl⟩:=wV.mp hx
   rw[wX.mp hy];exact posd z hz
 have eV:ak (cZ a b xs)=((ak xs).drop v).map (λx=>A*x+B)++[0]:=ztk P2 F2 λc hc=>by
  rw[rlen]at hc;rcases wG c ((ak xs).length-v)with z | z
  ·obtain⟨w,hw,hfw⟩:=nz (xs:=xs) (c:=v+c) (by lia)
   refine⟨w,by rw[jE];exact hw,?_⟩
   show(if aI xs w<v then _ else _)=_
   rw[hfw,if_neg (by lia)]
   lia
  ·obtain⟨w,hw,hfw⟩:=nz m1
   refine⟨w,by rw[jE];exact hw,?_⟩
   show(if aI xs w<v then _ else _)=_
   rw[hfw,if_pos (by lia)]
   lia
 refine⟨v,v1,hv,⟨_,by unfold cH;rw[eR],hs⟩,⟨A,B,hA,eV,posd⟩,by rw[eV];exact P2,jE ..⟩
def kH(xs:List Rat):List (List Nat):=(ak xs).map (eH xs)
theorem iB(xs:List Rat):(kH xs).length=(ak xs).length:=wm ..
theorem Py{row:List Rat}(P:gR ys row fl)(F:row.Pairwise (· > ·))(hc:c<row.length):eH ys (row.getD c 0)=bV ys.length fl c:=by
 unfold eH bV;refine vA λw hw=>?_
 have hw:=wF.mp hw;rw[vy,decide_eq_true_eq,decide_eq_true_eq,P.at' w hw]
 constructor
 ·intro h
  rcases Vz (fl w) c with z | z | z
  ·have:=AL F z hc;rw[h]at this;exact absurd this (by grind)
  ·exact z
  ·have:=AL F z (P.lt w hw);rw[h]at this;exact absurd this (by grind)
 ·rintro rfl;rfl
theorem Zu(hc:c<(ak xs).length):(kH xs).getD c []=seg xs.length (aI xs) c (c+1):=by
 have h:=Py (j6 xs) (jO xs.length xs) hc;unfold kH;rw[wb,wu,wc hc]
 show eH xs (ak xs)[c]=_
 rw[wb,wc hc]at h;have h:eH xs (ak xs)[c]=_:=h;rw[h];unfold bV seg;refine vA λw _=>?_
 rw[vy];simp only[wY,decide_eq_true_eq]
 lia
theorem lZ.new{waves:List (List Nat)}(J:lZ xs ys waves v):kH ys=(kH xs).drop v++[seg xs.length (aI xs) 0 v]:=by
 obtain⟨A,B,hA,eV,pos⟩:=J.vals;have F2:(ak ys).Pairwise (· > ·):=jO ys.length ys;have hlen:(ak ys).length=(ak xs).length-v+1:=by rw[eV];simp
 have v1:=J.v1;have vm:=J.vm;refine Vd (by rw[iB,hlen,wQ,vZ,iB];rfl) λc h1 h2=>?_
 rw[iB,hlen]at h1
 have e1:(kH ys)[c]'(by rw[iB];lia)=bV xs.length (λw=>if aI xs w<v then(ak xs).length-v else aI xs w-v) c:=by
  have:=Py J.at' F2 (c:=c) (by lia);rw[J.len]at this;rw[<- this];unfold kH;rw[Ve,wb,wc (by lia)]
  rfl
 rw[e1];rcases wG c ((ak xs).length-v)with z | z
 ·rw[List.getElem_append_left (by rw[vZ,iB];lia),Xl]
  have hg:=Zu (xs:=xs) (c:=v+c) (by lia);rw[wb,wc (by rw[iB];lia)]at hg;have hg:(kH xs)[v+c]'(by rw[iB];lia)=_:=hg;rw[hg];unfold bV seg;refine vA λw hw=>?_
  have:=(j6 xs).lt w (wF.mp hw);rw[vy];simp only[wY,decide_eq_true_eq]
  split<;>lia
 ·rw[List.getElem_append_right (by rw[vZ,iB];lia)]
  have hc:c=(ak xs).length-v:=by lia
  simp only[List.getElem_singleton];unfold bV seg;refine vA λw hw=>?_
  have:=(j6 xs).lt w (wF.mp hw);rw[vy];simp only[wY,decide_eq_true_eq]
  split<;>lia
theorem lZ.perm{waves:List (List Nat)}(J:lZ xs ys waves v):waves.flatten.Perm (seg xs.length (aI xs) 0 v):=by
 obtain⟨ws,e,s⟩:=J.first;rw[e];exact(jW.cons (by decide) s).perm
theorem lZ.more{waves:List (List Nat)}(J:lZ xs ys waves v):1<waves.length ↔ 1<v:=by
 obtain⟨ws,e,s⟩:=J.first;rw[e];cases s with
 | nil=>simp
 | cons h k=>have:=k.le;simp;lia
theorem BK(F s:Rat):∀n:Nat,aC F s n=aC F 1 n*s
 | 0=>by show(0:Rat)=0*s;rw[Rat.zero_mul]
 | n+1=>by
  show F*aC F s n+s=(F*aC F 1 n+1)*s
  rw[BK F s n]
  grind
theorem u5{k:Nat}{F:Rat}(h:ag k F):∀i:Nat,∃T:Int,aC F 1 i=wx T ((F.den:Int)^i)/\Bd ((k+1)*i+1) T/\Bd (k*i+1) ((F.den:Int)^i)
 | 0=>⟨0,by simp[aC],⟨by simp⟩,⟨by simp⟩⟩
 | i+1=>by
  obtain⟨T,e,bT,bd⟩:=u5 h i;have hd:(F.den:Int)^i≠0:=VS (gy F);have hd1:(F.den:Int)^(i+1)≠0:=VS (gy F);have ed:(F.den:Int)^(i+1)=(F.den:Int)^i*(F.den:Int):=VI ..
  have bd1:Bd (k*(i+1)+1) ((F.den:Int)^(i+1)):=by
   rw[ed];exact(bd.mul h.b).mono (by rw[qx];lia)
  refine⟨F.num*T+(F.den:Int)^(i+1),?_,?_,bd1⟩
  ·symm
   refine fG hd1 ?_
   show(F*aC F 1 i+1)*_=_
   rw[e];have k1:=c7 T hd;have k2:=jS F
   have e1:((F.num*T+(F.den:Int)^(i+1):Int):Rat)=(F.num:Rat)*(T:Rat)+(((F.den:Int)^(i+1):Int):Rat):=by
    rw[qo,vP]
   rw[e1,<- k1,<- k2,ed,vP];generalize (((F.den:Int)^i:Int):Rat)=D;generalize ((F.den:Int):Rat)=d;generalize wx T ((F.den:Int)^i)=y
   grind
  ·have h1:(k+1)*(i+1)=(k+1)*i+(k+1):=qx ..
   have h2:k*(i+1)<=(k+1)*i+k:=by rw[qx];have:=Wf i (show k<=k+1 by lia);lia
   exact((h.t.mul bT).add bd1).mono (by lia)
theorem Nv{F:Rat}(h:ag k F)(i:Nat):ag ((k+1)*i+1) (aC F 1 i):=by
 obtain⟨T,e,bT,bd⟩:=u5 h i;rw[e];exact ag.divInt (VS (gy F)) bT (bd.mono (by have:=Wf i (show k<=k+1 by lia);lia))
def ff(F s:Rat)(n:Nat)(x:Rat):Rat:=F^n*x+aC F 1 n*s
theorem rX(F s:Rat)(n:Nat)(x:Rat):ff F s n x=push F s n x:=by
 unfold ff;rw[h_,<- BK]
theorem zzx(F s:Rat)(m n:Nat)(x:Rat):ff F s (m+n) x=ff F s n (ff F s m x):=by
 rw[rX,rX,rX,zyb]
theorem Zz(F s x:Rat):ff F s 0 x=x:=by rw[rX];rfl
theorem FG(F s x:Rat):ff F s 1 x=F*x+s:=by rw[rX];rfl
theorem zyT(n:Nat):aC 1 1 n=((n:Int):Rat):=by
 induction n with
 | zero=>rfl
 | succ n ih =>
  have e:(((n+1:Nat):Int):Rat)=((n:Int):Rat)+1:=by push_cast;rfl
  show 1*aC 1 1 n+1=_
  rw[ih,e];grind
theorem zw5(s:Rat)(n:Nat)(x:Rat):ff 1 s n x=x+wx ((n:Int)*s.num) (s.den:Int):=by
 unfold ff;rw[one_pow',zyT]
 have:wx ((n:Int)*s.num) (s.den:Int)=((n:Int):Rat)*s:=by
  refine fG (gy s) ?_;have:=jS s;rw[vP,<- this]
  grind
 rw[this];grind
theorem OI{F s r:Rat}(h:r*(1-F)=s):∀k:Nat,aC F s k=r-F^k*r
 | 0=>by rw[V2,xf];show(0:Rat)=r-r;grind
 | k+1=>by
  show F*aC F s k+s=_
  rw[OI h k,WQ]
  grind
theorem Rh{F s r:Rat}(h:r*(1-F)=s)(n:Nat)(x:Rat):ff F s n x=r+F^n*(x-r):=by
 unfold ff;rw[<- BK,OI h]
 grind
theorem Cm.Y1(c:Cm m (h::xs))(ba:ag 10 a)(bb:ag 10 b)(n i:Nat):Cm (m+2+21*n) ((h+(1-xs.getD i 0))::dN a b n xs i):=by
 obtain⟨B,h0,h1,h2⟩:=c
 have hz:∃z:Int,xs.getD i 0=wx z B/\Bd m z:=by
  rcases wG i xs.length with q | q
  ·rw[wb,wc q]
   exact h2 _ (wB _ (Wi q))
  ·rw[wb,wL q]
   exact⟨0,by simp,⟨by simp;exact Wp m⟩⟩
 obtain⟨z,ez,hz⟩:=hz;have key:=λ(t:Int)(ht:Bd m t)=>rM ba bb h0 (show Bd (m+2) (t+B-z)from((ht.add h1).sub hz).mono (by lia)) (h1.mono (by lia)) n
 have e2:∀t:Int,wx t B+(1-xs.getD i 0)=wx (t+B-z) B:=λt=>by
  rw[ez]
  symm
  refine fG (by lia) ?_;have q1:=c7 t (show B≠0 by lia);have q2:=c7 z (show B≠0 by lia);have q3:((t+B-z:Int):Rat)=(t:Rat)+(B:Rat)-(z:Rat):=by push_cast;rfl
  rw[q3,<- q1,<- q2]
  grind
 obtain⟨p1,p2,_⟩:=key 0 ⟨by simp;exact Wp m⟩;refine⟨_,p1,p2,λx hx=>?_⟩;rcases wR.mp hx with rfl | hx
 ·obtain⟨t,et,ht⟩:=h2 h (wJ ..)
  have hd:(0:Int)<((a.den:Int)*(b.den:Int))^n:=Xz (vU (den_pos a) (den_pos b));refine⟨(t+B-z)*((a.den:Int)*(b.den:Int))^n,?_,zi ba bb (((ht.add h1).sub hz).mono (by lia)) n⟩;rw[et,e2 t];exact rn h0 hd
 ·have hx':x=0 \/ ∃y∈xs,x=push a b n (y+(1-xs.getD i 0)):=by
   unfold dN at hx;rcases QF hx with q | q
   ·obtain⟨y,hy,rfl⟩:=wV.mp q
    exact .inr ⟨y,hy,rfl⟩
   ·exact .inl q
  rcases hx' with rfl | ⟨y,hy,rfl⟩
  ·exact⟨0,by simp,⟨by simp;exact Wp _⟩⟩
  ·obtain⟨t,rfl,ht⟩:=h2 y (wB _ hy)
   obtain⟨_,_,T,e,hT⟩:=key t ht;rw[e2 t];exact⟨T,e,hT⟩
theorem Cm.Be{m:Nat}{xs:List Rat}{a b:Rat}{ns:List Int}(c:Cm m xs)(ba:ag 10 a)(bb:ag 10 b):∀k,k<=ns.length->Cm (m+2*k+21*upTo ns k) (eS a b ns xs k::aN a b ns xs k)
 | 0,_=>(c.mono (by lia)).g9 λy hy=>by
  rcases wR.mp hy with rfl | hy
  ·exact .inr rfl
  ·exact .inl hy
 | k+1,hk=>by
  have:=(Cm.Be c ba bb (ns:=ns) k (by lia)).Y1 ba bb (ns.getD k 0).toNat k;rw[aN,eS];refine this.mono ?_;rw[rE (by lia)]
  lia
def fH(c:Rat)(xs ys:List Rat):List Rat:=List.zipWith (λx y=>x+c*(y-x)) xs ys
theorem ny{c:Rat}(h:xs.length=ys.length):(fH c xs ys).length=xs.length:=by unfold fH;rw[xL];lia
theorem mI{c:Rat}(h:xs.length=ys.length)(hi:i<xs.length):(fH c xs ys).getD i 0=xs.getD i 0+c*(ys.getD i 0-xs.getD i 0):=by
 unfold fH;rw[wb,wc (by rw[xL];lia),List.getElem_zipWith,wb,wc hi,wb,wc (by lia)]
 rfl
theorem iC(hl:xs.length=ys.length)(h:∀i,i<xs.length->xs.getD i 0=ys.getD i 0):xs=ys:=Vd hl λi h1 h2=>by
 have:=h i h1;rw[wb,wb,wc h1,wc h2]at this;exact this
theorem zyH(a b:Rat)(n:Nat)(c:Rat)(h:xs.length=ys.length)(hi:i<xs.length):dN a b n (fH c xs ys) i=fH c (dN a b n xs i) (dN a b n ys i):=by
 have hl:=ny (c:=c) h;refine iC (by rw[iG,hl,ny (by rw[iG,iG];exact h),iG]) λj hj=>?_
 rw[iG,hl]at hj;have hg:=mI (c:=c) (xs:=dN a b n xs i) (ys:=dN a b n ys i) (by rw[iG,iG];exact h) (i:=j) (by rw[iG];exact hj);rw[hg,gr _ _ _ _ _ _ (by lia),gr _ _ _ _ _ _ hj,gr _ _ _ _ _ _ (show j<ys.length by lia)]
 by_cases z:j=i
 ·rw[if_pos z,if_pos z,if_pos z];grind
 ·rw[if_neg z,if_neg z,if_neg z,mI h hj,mI h hi,h_,h_,h_]
  grind
theorem UH(a b:Rat)(ns:List Int)(c:Rat){xs ys:List Rat}(h:xs.length=ys.length):∀k,k<=xs.length->aN a b ns (fH c xs ys) k=fH c (aN a b ns xs k) (aN a b ns ys k)
 | 0,_=>rfl
 | k+1,hk=>by
  have ih:=UH a b ns c h k (by lia);rw[aN,ih,aN,aN];exact zyH a b _ c (by rw[du,du];exact h) (by rw[du];lia)
theorem RW(a b:Rat)(ns:List Int)(c:Rat){xs ys:List Rat}(h:xs.length=ys.length):∀k,k<=xs.length->eS a b ns (fH c xs ys) k=eS a b ns xs k+c*(eS a b ns ys k-eS a b ns xs k)
 | 0,_=>by show(0:Rat)=0+c*(0-0);grind
 | k+1,hk=>by
  rw[eS,eS,eS,RW a b ns c h k (by lia),UH a b ns c h k (by lia),mI (by rw[du,du];exact h) (by rw[du];lia)]
  grind
theorem zzl(c:Rat)(h:xs.length=ys.length):fH c (xs++[0]) (ys++[0])=fH c xs ys++[0]:=by
 unfold fH;rw[List.zipWith_append h]
 show _++[0+c*(0-0)]=_
 congr 2
 grind
def fo(a b:Rat)(ns:List Int)(xs:List Rat):Rat:=eS a b ns (xs++[0]) ns.length
theorem zyD(c:Rat)(hn:ns.length=xs.length+1)(h:xs.length=ys.length):fo a b ns (fH c xs ys)=fo a b ns xs+c*(fo a b ns ys-fo a b ns xs):=by
 unfold fo;rw[<- zzl c h];exact RW a b ns c (by simp[h]) _ (by simp;lia)
def sumTo(f:Nat->Rat):Nat->Rat
 | 0=>0
 | n+1=>sumTo f n+f n
theorem zw{f g:Nat->Rat} : ∀n,(∀k,k<n->f k=g k)->sumTo f n=sumTo g n
 | 0,_=>rfl
 | n+1,h=>by rw[sumTo,sumTo,zw n λk hk=>h k (by lia),h n (by lia)]
theorem C1(c:Rat)(f:Nat->Rat):∀n,sumTo (λk=>c*f k) n=c*sumTo f n
 | 0=>by show(0:Rat)=c*0;grind
 | n+1=>by rw[sumTo,sumTo,C1 c f n];grind
theorem Og(f g:Nat->Rat):∀n,sumTo (λk=>f k+g k) n=sumTo f n+sumTo g n
 | 0=>by show(0:Rat)=0+0;grind
 | n+1=>by rw[sumTo,sumTo,sumTo,Og f g n];grind
theorem Ml(F:Rat):∀n,sumTo (λk=>F^k) n=aC F 1 n
 | 0=>rfl
 | n+1=>by
  rw[sumTo,Ml F n]
  have:∀m,aC F 1 m*F+1=aC F 1 m+F^m:=λm=>by
   induction m with
   | zero=>rw[V2];show(0:Rat)*F+1=0+1;grind
   | succ m ih =>
    show(F*aC F 1 m+1)*F+1=(F*aC F 1 m+1)+F^(m+1)
    rw[WQ]
    grind
  have:=this n
  show aC F 1 n+F^n=F*aC F 1 n+1
  grind
theorem Uw{a b:Rat}{ns:List Int}{L:Nat}(hn:ns.length=L+1)(X:Nat->List Rat)(hX:∀k,(X k).length=L):∀(n:Nat)(M:List Rat),1<=n->M.length=L->(∀i,i<L->M.getD i 0*((n:Int):Rat)=sumTo (λk=>(X k).getD i 0) n)->((n:Int):Rat)*fo a b ns M=sumTo (λk=>fo a b ns (X k)) n
 | 0,M,h,_,_=>by lia
 | n+1,M,_,hM,hs=>by
  have en:(((n+1:Nat):Int):Rat)=((n:Int):Rat)+1:=by push_cast;rfl
  by_cases z:n=0
  ·subst z
   have e1:(((0+1:Nat):Int):Rat)=1:=by decide
   have:M=X 0:=iC (by rw[hM,hX]) λi hi=>by
    have:=hs i (by lia);rw[e1]at this;have e2:sumTo (λk=>(X k).getD i 0) (0+1)=(X 0).getD i 0:=by rw[sumTo,sumTo];grind
    rw[e2]at this
    grind
   rw[this,e1]
   show 1*fo a b ns (X 0)=0+fo a b ns (X 0)
   grind
  ·have hn0:((n:Int):Rat)≠0:=λe=>z (by have:=W8.mp e;lia)
   have hn1:((n:Int):Rat)+1≠0:=λe=>by
    rw[<- en]at e;have:=W8.mp e
    lia
   let M':List Rat:=(wo L).map λi=>sumTo (λk=>(X k).getD i 0) n / ((n:Int):Rat)
   have hl':M'.length=L:=by simp[M']
   have g':∀i,i<L->M'.getD i 0=sumTo (λk=>(X k).getD i 0) n / ((n:Int):Rat):=λi hi=>by
    show((wo L).map λi=>sumTo (λk=>(X k).getD i 0) n / ((n:Int):Rat)).getD i 0=_
    rw[wb,wu,vH hi];rfl
   have ih:=Uw (a:=a) (b:=b) hn X hX n M' (by lia) hl' λi hi=>by rw[g' i hi];exact WZ hn0
   have eM:M=fH (1 / (((n:Int):Rat)+1)) M' (X n):=iC (by rw[hM,ny (by rw[hl',hX]),hl']) λi hi=>by
    rw[mI (by rw[hl',hX]) (by lia),g' i (by lia)];have h1:=hs i (by lia);rw[en,sumTo]at h1;generalize sumTo (λk=>(X k).getD i 0) n=S at *;generalize (X n).getD i 0=y at *;generalize M.getD i 0=m at *;generalize ((n:Int):Rat)=N at *;have k1:S / N*N=S:=WZ hn0;have k2:1 / (N+1)*(N+1)=1:=WZ hn1;generalize S / N=q at *;generalize 1 / (N+1)=r at *;have:(m-(q+r*(y-q)))*(N+1)=0:=by grind
    rcases Q2.mp this with h | h
    ·grind
    ·exact absurd h hn1
   rw[eM,zyD _ (by lia) (by rw[hl',hX]),sumTo,<- ih,en];generalize fo a b ns M'=A;generalize fo a b ns (X n)=B;generalize ((n:Int):Rat)=N at *;have k2:1 / (N+1)*(N+1)=1:=WZ hn1;generalize 1 / (N+1)=r at *
   grind
end GM
namespace L2
open PySem PySem.Spec PyProof.Rows GM
section
variable{K:wa}{H H' H2:Hp}{a p:we}{xs ys:List V}{o:HO}
theorem ah.upd(h:H p=none):ah H (upd H p o):=λb u e=>by
 rw[dh (iV e h)];exact e
theorem ah.jG(s:ah H H')(h:aV K H a xs):aV K H' a xs:=by
 rcases h with(h | ⟨o,h⟩) | h
 ·exact .inl (.inl (s _ _ h))
 ·exact .inl (.inr ⟨o,s _ _ h⟩)
 ·exact .inr h
structure bK(H H':Hp):Prop where
 t:∀b xs,H b=some (.tup xs)->H' b=some (.tup xs)
 f:∀b o u,H b=some (.gz o u)->H' b=some (.gz o u)
theorem ah.keep(s:ah H H'):bK H H':=⟨λb xs h=>s _ _ h,λb o u h=>s _ _ h⟩
theorem bK.refl(H:Hp):bK H H:=(ah.refl H).keep
theorem bK.trans(a:bK H H')(b:bK H' H2):bK H H2:=⟨λc xs h=>b.t _ _ (a.t _ _ h),λc o u h=>b.f _ _ _ (a.f _ _ _ h)⟩
theorem bK.jG(k:bK H H')(h:aV K H a xs):aV K H' a xs:=by
 rcases h with(h | ⟨o,h⟩) | h
 ·exact .inl (.inl (k.t _ _ h))
 ·exact .inl (.inr ⟨o,k.f _ _ _ h⟩)
 ·exact .inr h
def iM(K:wa)(H:Hp)(a:we)(xs:List V):Prop :=
 (∃o,H a=some (.gz o (.lst xs))) \/
  ∃(o:Obj)(its:Array wf)(n:Nat),K.lookup a=some o/\o.cls=.type "list"/\o.dict=none/\o.data=.seq its n/\its.size<=vc/\aT xs its.toList
theorem iM.sq(h:iM K H a xs):aG K H a xs:=by
 rcases h with⟨o,h⟩ | h
 ·exact .inl (.inr ⟨o,h⟩)
 ·exact .inr h
theorem bK.Cf(k:bK H H')(h:iM K H a xs):iM K H' a xs:=by
 rcases h with⟨o,h⟩ | h
 ·exact .inl ⟨o,k.f _ _ _ h⟩
 ·exact .inr h
def Exc(p:we)(H H':Hp):Prop:=∀b o,b≠p->H b=some o->H' b=some o
theorem Exc.keep(e:Exc p H H')(h:H p=some (.lst xs)):bK H H' :=
 ⟨λb ys hb=>e b _ (Ui hb h (by intro z;cases z)) hb,λb o u hb=>e b _ (Ui hb h (by intro z;cases z)) hb⟩
theorem ah.exc(s:ah H H'):Exc p H H':=λb o _ h=>s b o h
theorem Exc.refl(p:we)(H:Hp):Exc p H H:=λ_ _ _ h=>h
theorem Exc.trans(a:Exc p H H')(b:Exc p H' H2):Exc p H H2:=λc o n h=>b c o n (a c o n h)
theorem Exc.upd(p:we)(H:Hp)(o:HO):Exc p H (upd H p o):=λb u n h=>by
 rw[dh n];exact h
theorem Exc.at(e:Exc p H H'){q:we}{u:HO}(n:q≠p)(h:H q=some u):H' q=some u:=e q u n h
end
mutual
def Is(K:wa)(H:Hp):V->wC->Prop
 | v,.none=>v=.bY
 | v,.bool b=>v=.bl b
 | v,.int i=>v=.int i
 | v,.str x=>v=.str x
 | v,.tuple ds=>∃a xs,v=.ref a/\aV K H a xs/\aj K H xs ds
 | v,.list ds=>∃a xs,v=.ref a/\aG K H a xs/\aj K H xs ds
 | v,.dict _=>∃a kvs,v=.ref a/\H a=some (.dK kvs)
def aj(K:wa)(H:Hp):List V->List wC->Prop
 | xs,[]=>xs=[]
 | xs,d::ds=>∃x r,xs=x::r/\Is K H x d/\aj K H r ds
end
section
variable{K:wa}{H H':Hp}{v:V}{xs:List V}{ds:List wC}{d:wC}
theorem cw{i:Int} : Is K H v (.int i) ↔ v=.int i:=by rw[Is]
theorem m_{b:Bool} : Is K H v (.bool b) ↔ v=.bl b:=by rw[Is]
theorem fg{x:Str} : Is K H v (.str x) ↔ v=.str x:=by rw[Is]
theorem l_:Is K H v .none ↔ v=.bY:=by rw[Is]
theorem bZ:Is K H v (.tuple ds) ↔ ∃a xs,v=.ref a/\aV K H a xs/\aj K H xs ds:=by rw[Is]
theorem cb:Is K H v (.list ds) ↔ ∃a xs,v=.ref a/\aG K H a xs/\aj K H xs ds:=by rw[Is]
theorem zD{kv:List (wC × wC)} : Is K H v (.dict kv) ↔ ∃a kvs,v=.ref a/\H a=some (.dK kvs):=by rw[Is]
theorem gH:aj K H xs [] ↔ xs=[]:=by rw[aj]
theorem dZ:aj K H xs (d::ds) ↔ ∃x r,xs=x::r/\Is K H x d/\aj K H r ds:=by rw[aj]
theorem aj.cons(h:Is K H v d)(t:aj K H xs ds):aj K H (v::xs) (d::ds):=dZ.mpr ⟨v,xs,rfl,h,t⟩
theorem aj.nil:aj K H [] []:=gH.mpr rfl
theorem aj.length:∀{ds:List wC}{xs:List V},aj K H xs ds->xs.length=ds.length
 | [],_,h=>by rw[gH.mp h];rfl
 | d::ds,_,h=>by
  obtain⟨x,r,rfl,_,t⟩:=dZ.mp h;rw[Wa,Wa,aj.length t]
theorem aj.get:∀{ds:List wC}{xs:List V}{i:Nat}{d:wC},aj K H xs ds->ds[i]? = some d->∃x,xs[i]? = some x/\Is K H x d
 | [],_,_,_,_,e=>by simp at e
 | d::ds,_,0,_,h,e=>by
  obtain⟨x,r,rfl,q,_⟩:=dZ.mp h;simp at e;subst e;exact⟨x,rfl,q⟩
 | d::ds,_,i+1,d',h,e=>by
  obtain⟨x,r,rfl,_,t⟩:=dZ.mp h;obtain⟨y,h1,h2⟩:=aj.get (i:=i) t (by simpa using e);exact⟨y,by simpa using h1,h2⟩
theorem aj.append:∀{ds es:List wC}{xs ys:List V},aj K H xs ds->aj K H ys es->aj K H (xs++ys) (ds++es)
 | [],_,_,_,h,t=>by rw[gH.mp h];exact t
 | d::ds,_,_,_,h,t=>by
  obtain⟨x,r,rfl,q,u⟩:=dZ.mp h;exact .cons q (aj.append u t)
mutual
theorem Is.same(s:ah H H'):∀(d:wC)(v:V),Is K H v d->Is K H' v d
 | .none,v,h=>by rw[l_]at h ⊢;exact h
 | .bool _,v,h=>by rw[m_]at h ⊢;exact h
 | .int _,v,h=>by rw[cw]at h ⊢;exact h
 | .str _,v,h=>by rw[fg]at h ⊢;exact h
 | .tuple ds,v,h=>by
  obtain⟨a,xs,e,q,t⟩:=bZ.mp h;exact bZ.mpr ⟨a,xs,e,s.jG q,aj.same s ds xs t⟩
 | .list ds,v,h=>by
  obtain⟨a,xs,e,q,t⟩:=cb.mp h;exact cb.mpr ⟨a,xs,e,s.seq q,aj.same s ds xs t⟩
 | .dict _,v,h=>by
  obtain⟨a,kvs,e,q⟩:=zD.mp h;exact zD.mpr ⟨a,kvs,e,s _ _ q⟩
theorem aj.same(s:ah H H'):∀(ds:List wC)(xs:List V),aj K H xs ds->aj K H' xs ds
 | [],xs,h=>by rw[gH]at h ⊢;exact h
 | d::ds,xs,h=>by
  obtain⟨x,r,e,q,t⟩:=dZ.mp h;exact dZ.mpr ⟨x,r,e,Is.same s d x q,aj.same s ds r t⟩
end
end
mutual
def dq:wC->Bool
 | .none=>true
 | .bool _=>true
 | .int _=>true
 | .str _=>true
 | .tuple ds=>cz ds
 | .list _=>false
 | .dict _=>false
def cz:List wC->Bool
 | []=>true
 | d::ds=>dq d&&cz ds
end
section
variable{K:wa}{H H':Hp}
mutual
theorem Is.keep(k:bK H H'):∀(d:wC)(v:V),dq d=true->Is K H v d->Is K H' v d
 | .none,v,_,h=>by rw[l_]at h ⊢;exact h
 | .bool _,v,_,h=>by rw[m_]at h ⊢;exact h
 | .int _,v,_,h=>by rw[cw]at h ⊢;exact h
 | .str _,v,_,h=>by rw[fg]at h ⊢;exact h
 | .tuple ds,v,i,h=>by
  obtain⟨a,xs,e,q,t⟩:=bZ.mp h;exact bZ.mpr ⟨a,xs,e,k.jG q,aj.keep k ds xs (by rw[dq]at i;exact i) t⟩
 | .list ds,v,i,h=>by rw[dq]at i;cases i
 | .dict _,v,i,h=>by rw[dq]at i;cases i
theorem aj.keep(k:bK H H'):∀(ds:List wC)(xs:List V),cz ds=true->aj K H xs ds->aj K H' xs ds
 | [],xs,_,h=>by rw[gH]at h ⊢;exact h
 | d::ds,xs,i,h=>by
  obtain⟨x,r,e,q,t⟩:=dZ.mp h;rw[cz,wY]at i;exact dZ.mpr ⟨x,r,e,Is.keep k d x i.1 q,aj.keep k ds r i.2 t⟩
end
end
def N(r:Rat):wC:=.tuple [.int r.num,.int (r.den:Int)]
theorem kM(r:Rat):dq (N r)=true:=by simp[N,dq,cz]
section
variable{K:wa}{H H':Hp}{v:V}{r:Rat}
theorem oE:Is K H v (N r) ↔ ∃a,v=.ref a/\aV K H a [.int r.num,.int (r.den:Int)]:=by
 unfold N;rw[bZ]
 constructor
 ·rintro ⟨a,xs,e,q,t⟩
  obtain⟨x,r1,rfl,q1,t⟩:=dZ.mp t;obtain⟨y,r2,rfl,q2,t⟩:=dZ.mp t;rw[gH.mp t,cw.mp q1,cw.mp q2]at q;exact⟨a,e,q⟩
 ·rintro ⟨a,e,q⟩
  exact⟨a,_,e,q,.cons (cw.mpr rfl) (.cons (cw.mpr rfl) .nil)⟩
end
section
variable{X:Cx}{pins:List (we × Obj)}{σ : St}{H:Hp}{s:wl}
mutual
theorem Inv.reads(I:Inv X pins σ H s):∀(d:wC)(v:V)(u:wf),d.canLay0=true->Is X.K H v d->bE v u->∃as,Reads s.heap u d as
 | .none,v,u,_,h,r=>by
  cases l_.mp h;cases (show u=Value.none from r);exact⟨_,.none⟩
 | .bool b,v,u,_,h,r=>by
  cases m_.mp h;cases (show u=Value.bool b from r);exact⟨_,.bool b⟩
 | .int i,v,u,_,h,r=>by
  cases cw.mp h;obtain⟨t,e⟩:=(show ∃t,u=Value.int i t from r);cases e;exact⟨_,.int i t⟩
 | .str x,v,u,_,h,r=>by
  cases fg.mp h;obtain⟨t,e⟩:=(show ∃t,u=Value.str x t from r);cases e;exact⟨_,.str x t⟩
 | .tuple ds,v,u,c,h,r=>by
  obtain⟨a,xs,e,q,t⟩:=bZ.mp h;subst e;cases (show u=Value.ref a from r);obtain⟨its,rv,⟨o,e1,e2,n,e3⟩,_⟩:=I.tuple q;obtain⟨as,ra⟩:=Inv.readsAll I ds xs its (by rw[vF]at c;exact c) t rv;exact⟨_,.tuple e1 e2 e3 (by simpa using ra)⟩
 | .list ds,v,u,c,h,r=>by
  obtain⟨a,xs,e,q,t⟩:=cb.mp h;subst e;cases (show u=Value.ref a from r);obtain⟨its,rv,⟨o,n,e1,e2,_,e3⟩,_⟩:=I.list q;obtain⟨as,ra⟩:=Inv.readsAll I ds xs its (by rw[vF]at c;exact c) t rv;exact⟨_,.list e1 e2 e3 (by simpa using ra)⟩
 | .dict _,v,u,c,h,r=>by rw[vF]at c;cases c
theorem Inv.readsAll(I:Inv X pins σ H s):∀(ds:List wC)(xs:List V)(us:List wf),Wd ds=true->aj X.K H xs ds->aT xs us->∃as,ReadsAll s.heap us ds as
 | [],xs,us,_,h,r=>by
  rw[gH.mp h]at r;cases r;exact⟨_,.nil⟩
 | d::ds,xs,us,c,h,r=>by
  obtain⟨x,l,e,q,t⟩:=dZ.mp h;subst e;rw[Wd,wY]at c;cases r with
  | cons r1 r2 =>
   obtain⟨as,h1⟩:=Inv.reads I d x _ c.1 q r1;obtain⟨bs,h2⟩:=Inv.readsAll I ds l _ c.2 t r2;exact⟨_,.cons h1 h2⟩
end
end
section
variable{X:Cx}
open PySem.SeqAt (shaped)
variable{K:wa}
def cn(K:wa):R2:=λx y H Q=>∃d e,Is K H x d/\Is K H y e/\shaped d=true/\shaped e=true/\Q (.bl (wP d e)) H
def eC(K:wa):R2:=λx y H Q=>∃d e,Is K H x d/\Is K H y e/\shaped d=true/\shaped e=true/\Q (.bl (!PyData.eqv d e)) H
theorem cV(hu:X.A.units+64<WN):aH X (wH .Eq) (cn X.K):=by
 intro pins s σ H x y v u Q I rx ry h;obtain⟨d,e,hd,he,sd,se,q⟩:=h;obtain⟨as,h1⟩:=I.reads d x v (Vf sd) hd rx;obtain⟨bs,h2⟩:=I.reads e y u (Vf se) he ry;exact eq_dataH h1 h2 sd se hu ⟨.bl _,H,I,rfl,q⟩
theorem iE(hu:X.A.units+64<WN):aH X (wH .NotEq) (eC X.K):=by
 intro pins s σ H x y v u Q I rx ry h;obtain⟨d,e,hd,he,sd,se,q⟩:=h;obtain⟨as,h1⟩:=I.reads d x v (Vf sd) hd rx;obtain⟨bs,h2⟩:=I.reads e y u (Vf se) he ry;exact ne_dataH h1 h2 sd se hu ⟨.bl _,H,I,rfl,q⟩
theorem bE.YQ{x:V}{v:wf}(r:bE x v)(c:Bool):(v == Value.bool c)=decide (x=.bl c):=by
 cases x with
 | bY=>cases (show v=Value.none from r);rfl
 | bl b=>cases (show v=Value.bool b from r);cases b<;>cases c<;>rfl
 | int _=>obtain⟨t,rfl⟩:=r;rfl
 | str _=>obtain⟨t,rfl⟩:=r;rfl
 | byt _=>obtain⟨t,rfl⟩:=r;rfl
 | flt _=>obtain⟨t,rfl⟩:=r;rfl
 | ref _=>cases r;rfl
 | ty _=>cases r;rfl
theorem bE.YA{x:V}{v:wf}(r:bE x v)(c:Bool):plainIs v (Value.bool c)=true:=by
 cases x with
 | bY=>cases (show v=Value.none from r);rfl
 | bl b=>cases (show v=Value.bool b from r);rfl
 | int _=>obtain⟨t,rfl⟩:=r;rfl
 | str _=>obtain⟨t,rfl⟩:=r;rfl
 | byt _=>obtain⟨t,rfl⟩:=r;rfl
 | flt _=>obtain⟨t,rfl⟩:=r;rfl
 | ref _=>cases r;rfl
 | ty _=>cases r;rfl
def O7:R2:=λx y H Q=>(∃c,y=.bl c/\Q (.bl (decide (x=.bl c))) H)\/(y=.bY/\Q (.bl (decide (x=.bY))) H)
theorem pM :aH X (wH .Is) O7:=by
 intro pins s σ H x y v u Q I rx ry h;rcases h with⟨c,e,q⟩ | h
 ·subst e
  cases (show u=Value.bool c from ry);exact wpAny_is_plain (rx.YA c) (Mr I q (rx.YQ c).symm)
 ·exact zC5 pins s σ H x y v u Q I rx ry h
def kindOf:wC->String
 | .none=>"NoneType"
 | .bool _=>"bool"
 | .int _=>"int"
 | .str _=>"str"
 | .tuple _=>"tuple"
 | .list _=>"list"
 | .dict _=>"dict"
def fX(K:wa):List V->Hp->VK->Prop:=λxs H Q=>∃x T d b,xs=[x,.ty T]/\Is K H x d/\wE K (.type (kindOf d)) (.type T)=some b/\Q (.bl b) H
theorem lE :aE X (.builtin "isinstance") (fX X.K):=by
 intro pins s σ H xs us Q I r h;obtain⟨x,T,d,b,rfl,hd,e,q⟩:=h;obtain⟨u,w',rfl,rx,rt⟩:=jI r;cases (show w'=Value.type T from rt);have fin:∀tk,EP X pins σ Q (.bool b) {s with toks:=tk}:=λtk=>⟨.bl b,H,I.tok _,rfl,q⟩
 cases d with
 | none =>
  cases l_.mp hd;cases (show u=Value.none from rx);exact WP Xm I.dG True.intro e (λz=>nomatch z) fin
 | bool y =>
  cases m_.mp hd;cases (show u=Value.bool y from rx);exact WP Xn I.dG True.intro e (λz=>nomatch z) fin
 | int i =>
  cases cw.mp hd;obtain⟨t,q⟩:=(show ∃t,u=Value.int i t from rx);cases q;exact WP XR I.dG True.intro e (λz=>nomatch z) fin
 | str y =>
  cases fg.mp hd;obtain⟨t,q⟩:=(show ∃t,u=Value.str y t from rx);cases q;exact WP XS I.dG True.intro e (λz=>nomatch z) fin
 | tuple ds =>
  obtain⟨a,xs,e1,hq,_⟩:=bZ.mp hd;subst e1;cases (show u=Value.ref a from rx);obtain⟨its,_,⟨o,h1,h2,_⟩,_⟩:=I.tuple hq;exact WP x5 I.dG ⟨o,h1,h2⟩ e (λz=>nomatch z) fin
 | list ds =>
  obtain⟨a,xs,e1,hq,_⟩:=cb.mp hd;subst e1;cases (show u=Value.ref a from rx);obtain⟨its,_,⟨o,n,h1,h2,_⟩,_⟩:=I.list hq;exact WP Xo I.dG ⟨o,h1,h2⟩ e (λz=>nomatch z) fin
 | dict kv =>
  obtain⟨a,kvs,e1,hq⟩:=zD.mp hd;subst e1;cases (show u=Value.ref a from rx);obtain⟨_,_,vs,_,o,es,ep,h1,h2,_⟩:=(show dS X.prog X.w H s.heap a (.dK kvs)from I.aM a _ hq);exact WP Xp I.dG ⟨o,h1,h2.1⟩ e (λz=>nomatch z) fin
def isA(T:String)(d:wC):Bool:=(kindOf d == T) || (kindOf d == "bool"&&T == "int")
theorem zBo(d:wC):wE K (.type (kindOf d)) (.type "int")=some (isA "int" d):=by cases d<;>rfl
theorem zzD(d:wC):wE K (.type (kindOf d)) (.type "bool")=some (isA "bool" d):=by cases d<;>rfl
theorem zwH(d:wC):wE K (.type (kindOf d)) (.type "tuple")=some (isA "tuple" d):=by cases d<;>rfl
theorem zAt(d:wC):wE K (.type (kindOf d)) (.type "str")=some (isA "str" d):=by cases d<;>rfl
theorem Y5{m n:Nat}{i j:Int}(h:Bd m i)(k:Bd n j)(hm:m<=1000000)(hn:n<=1000000):IntMulOk i j:=by
 have f:∀{m:Nat}{i:Int},Bd m i->m<=1000000->xM i<=2^20:=by
  intro m i h hm;have e:(2:Nat)^20=1048576:=by decide
  have l:=(h.mono (Nat.le_succ m)).log (Nat.succ_pos m);unfold xM
  split<;>lia
 exact .of_bits (f h hm) (f k hn)
theorem cK :aH X (WG .Mult) (rI IntMulOk λi j=>.int (i*j)):=yJ λ_ _ _ _ _ _ _ hc q=>mul_int q hc
def oN(_ j:Int):Prop:=j≠0/\Bd 8999 j
theorem fj :aH X (WG .FloorDiv) (rI oN λi j=>.int (i.fdiv j)):=yJ λ_ _ _ _ _ _ _ hc q =>
 floordiv_int hc.1 q (.inl (PyProof.noPylong_of_log2 (qM (hc.2.log (by decide)))))
theorem zAj :aH X (WG .Add) (λx y H Q=>(i_ λi j=>.int (i+j)) x y H Q\/(B8 x y H Q \/ ∃i j,x=.str i/\y=.str j/\i.length+j.length<=vc/\Q (.str (i++j)) H)):=zDp.or (zCk.or zum)
end
theorem cY:vO "len"=some (.builtin "len"):=by decide +kernel
theorem mB:vO "abs"=some (.builtin "abs"):=by decide +kernel
theorem gQ:vO "isinstance"=some (.builtin "isinstance"):=by decide +kernel
theorem M_:vO "int"=some (.type "int"):=by decide +kernel
theorem Sk:vO "bool"=some (.type "bool"):=by decide +kernel
theorem zCl:vO "str"=some (.type "str"):=by decide +kernel
theorem dY:vO "tuple"=some (.type "tuple"):=by decide +kernel
theorem g_:vO "list"=some (.type "list"):=by decide +kernel
def mE(K:wa)(xs:List V)(H:Hp)(Q:VK):Prop:=xs.length<=vc /\ ∀p,H p=none->Q (.ref p) (upd H p (.tup xs))
def By(K:wa)(xs:List V)(H:Hp)(Q:VK):Prop:=xs.length<=vc /\ ∀p,H p=none->Q (.ref p) (upd H p (.lst xs))
def kU(K:wa)(t:TA):TE:=λσ H Q=>t σ H λxs H1=>mE K xs H1 Q
def tV(K:wa)(t:TA):TE:=λσ H Q=>t σ H λxs H1=>By K xs H1 Q
def FU:R2:=λx y H Q=>(i_ λi j=>.int (i+j)) x y H Q\/(B8 x y H Q \/ ∃i j,x=.str i/\y=.str j/\i.length+j.length<=vc/\Q (.str (i++j)) H)
def NI:List V->Hp->VK->Prop:=λxs H Q=>∃i:Int,xs=[.int i]/\Q (.int (if i<0 then -i else i)) H
def cj(K:wa):List V->Hp->VK->Prop:=λxs H Q=>∃p ys,xs=[.ref p]/\(aG K H p ys\/aV K H p ys)/\Q (.int ys.length) H
section
variable{X:Cx}{e:Expr}{es:List Expr}{te:TE}{t:TA}{pos:Pos}
theorem aW{x1}(h:PA X es t):PE X (.Tuple es x1 pos) (kU X.K t):=ZE h
theorem cJ(h:PA X es t):PE X (.List es pos) (tV X.K t):=zDi h
theorem cB:aH X (WG .Add) FU:=zAj
theorem md:aE X (.builtin "abs") NI:=zye
theorem cX:aE X (.builtin "len") (cj X.K):=zrt
theorem rk{x:Str}{i:Int}{pos:Pos}(hg:Gl X x)(hm:∃t,X.mg x=some (.int i t))(hd:(x == ("__debug__" : Str))=false:=by decide):PE X (.Name x pos) (tC (.int i)):=by
 obtain⟨t,hm⟩:=hm;exact bW hg hm ⟨t,rfl⟩ hd
end
section
variable{K:wa}{σ : St}{H H':Hp}{Q:VK}{QA:List V->Hp->Prop}{QB:Bool->Hp->Prop}{QS:St->Hp->Prop}{QH:Hp->Prop}{D:cN}{ta tb te:TE}{tt tu:TT}{t tr:TA}{s1 s2:TS}{g:TG}{gs:kf}{r:R2}{v w:V}{xs ys:List V}{i:Nat}{m n:Int}
variable{j:Nat}{p:we}{d:wC}{ds:List wC}{A B:Prop}
theorem zCR(h : σ[i]? = some (some v))(q:Q v H):lQ i σ H Q:=⟨v,h,q⟩
theorem zEu(q:Q v H):tC v σ H Q:=q
theorem zD1(h:ta σ H λx H1=>tb σ H1 λy H2=>r x y H2 Q):lA r ta tb σ H Q:=h
theorem ZQ{u:V->Hp->VK->Prop}(h:ta σ H λx H1=>u x H1 Q):RU u ta σ H Q:=h
theorem zDq(h:t σ H λxs H1=>mE K xs H1 Q):kU K t σ H Q:=h
theorem zCW(h:t σ H λxs H1=>By K xs H1 Q):tV K t σ H Q:=h
theorem zCJ(q:QA [] H):og σ H QA:=q
theorem zzX(h:te σ H λx H1=>tr σ H1 λxs H2=>QA (x::xs) H2):oI te tr σ H QA:=h
theorem zAg{sp:Sp}{E:XK}(h:t σ H λvs H1=>sp vs H1 Q E):rL sp [] E t σ H Q:=by
 simpa only[rL,vM] using h
theorem zEn{u:List V->Hp->VK->Prop}(h:t σ H λvs H1=>u vs H1 Q):FZ u t σ H Q:=h
theorem zzJ(h:te σ H λx H'=>∃k,x=.bl k/\QB k H'):Ao te σ H QB:=h
theorem Zm(h:te σ H λx H'=>∃k,x=.bl k/\QB k H'):tB te σ H QB:=h
theorem zCF(h:tt σ H λc H1=>if c=true then tu σ H1 QB else QB false H1):Tj tt tu σ H QB:=h
theorem Z9(h:tt σ H λc H1=>if c=true then QB true H1 else tu σ H1 QB):MM tt tu σ H QB:=h
theorem zCb(h:tt σ H λc H1=>QB (!c) H1):M0 tt σ H QB:=h
theorem zAi(h:ta σ H λx H1=>∃c,x=.bl c/\if c=true then tb σ H1 Q else Q (.bl false) H1):NB ta tb σ H Q:=h
theorem zzS(h:ta σ H λx H1=>∃c,x=.bl c/\Q (.bl (!c)) H1):NU ta σ H Q:=h
theorem zCs(h:tt σ H λc H1=>if c=true then ta σ H1 Q else tb σ H1 Q):Oj tt ta tb σ H Q:=h
theorem zDj(h:s1 {D with nx:=s2 D} σ H):Dj s1 s2 D σ H:=h
theorem zAP(h:D.nx σ H):Na D σ H:=h
theorem zCT(h:te σ H D.rt):N2 te D σ H:=h
theorem zDn(h:tt σ H λb H1=>if b=true then s1 D σ H1 else s2 D σ H1):Dv tt s1 s2 D σ H:=h
theorem zCI(h:te σ H λx H1=>g x σ H1 D.nx):lG te g D σ H:=h
theorem zBk(h:te σ H λ_ H1=>D.nx σ H1):Sn te D σ H:=h
theorem zCc(h:t σ H λvs H1=>∃v w,vs=[v,w]/\D.nx ((σ.set i (some v)).set j (some w)) H1):RP i j t D σ H:=h
theorem zAB(q:QS ((σ.set i (some v)).set j (some w)) H):∃v' w',[v,w]=[v',w']/\QS ((σ.set i (some v')).set j (some w')) H:=⟨v,w,rfl,q⟩
theorem zza(q:QS (σ.set i (some v)) H):iZ i v σ H QS:=q
theorem zBc(q:QS σ H):Tx [] σ H QS:=⟨rfl,q⟩
theorem zyG(q:g v σ H λσ' H'=>gs xs σ' H' QS):Ss g gs (v::xs) σ H QS:=⟨v,xs,rfl,q⟩
theorem ly{a:we}{n:Nat}(h:aV K H a xs)(e:xs.length=n)(q:gs xs σ H QS):kW K n gs (.ref a) σ H QS:=⟨a,xs,rfl,h,e,q⟩
theorem zAI{tset:yO}(h:ta σ H λo H1=>tb σ H1 λi H2=>tset o i v H2 λH3=>QS σ H3):KW ta tb tset v σ H QS:=h
theorem oK{k:Int}(h:H p=some (.lst xs))(e:gD xs.length k=some j)(q:∀H',Exc p H H'->H' p=some (.lst (xs.set j v))->QH H'):SA (.ref p) (.int k) v H QH :=
 ⟨p,xs,k,j,rfl,rfl,h,e,q _ (Exc.upd p H _) cW⟩
theorem zC4{f:Int->Int->V}(q:Q (f m n) H):i_ f (.int m) (.int n) H Q:=⟨m,n,rfl,rfl,q⟩
theorem pB{C:Int->Int->Prop}{f:Int->Int->V}(c:C m n)(q:Q (f m n) H):rI C f (.int m) (.int n) H Q:=⟨m,n,rfl,rfl,c,q⟩
theorem zEe{f:Int->V}(q:Q (f m) H):rU f (.int m) H Q:=⟨m,rfl,q⟩
theorem zBg(q:Q (.int (m+n)) H):FU (.int m) (.int n) H Q:=.inl ⟨m,n,rfl,rfl,q⟩
theorem jH{b:we}(h:H p=some (.lst xs))(k:H b=some (.lst ys))(z:xs.length+ys.length<=vc)
  (q:∀c H',H c=none->ah H H'->H' c=some (.lst (xs++ys))->Q (.ref c) H'):FU (.ref p) (.ref b) H Q :=
 .inr (.inl ⟨p,b,xs,ys,rfl,rfl,h,k,z,λc hc=>q c _ hc (ah.upd hc) cW⟩)
theorem zDm(q:Q (.int (if m<0 then -m else m)) H):NI [.int m] H Q:=⟨m,rfl,q⟩
theorem MT(h:aV K H p xs)(q:Q (.int xs.length) H):cj K [.ref p] H Q:=⟨p,xs,rfl,.inr h,q⟩
theorem eQ(h:aG K H p xs)(q:Q (.int xs.length) H):cj K [.ref p] H Q:=⟨p,xs,rfl,.inl h,q⟩
theorem ZO(q:Q (.bl (decide (v=.bY))) H):O7 v .bY H Q:=.inr ⟨rfl,q⟩
theorem zCg(q:Q (.bl (decide (m=n))) H):cn K (.int m) (.int n) H Q :=
 ⟨.int m,.int n,cw.mpr rfl,cw.mpr rfl,rfl,rfl,by
  have e:wP (.int m) (.int n)=decide (m=n):=by
   rw[wP,qV]
  rw[e];exact q⟩
theorem zCe(q:Q (.bl (!decide (m=n))) H):eC K (.int m) (.int n) H Q :=
 ⟨.int m,.int n,cw.mpr rfl,cw.mpr rfl,rfl,rfl,by
  have e:wP (.int m) (.int n)=decide (m=n):=by
   rw[wP,qV]
  rw[e];exact q⟩
theorem kR{e:wC}(h:Is K H v d)(k:Is K H w e)(sd:vN d=true)(se:vN e=true)(q:Q (.bl (wP d e)) H):cn K v w H Q:=⟨d,e,h,k,sd,se,q⟩
theorem mz{e:wC}(h:Is K H v d)(k:Is K H w e)(sd:vN d=true)(se:vN e=true)(q:Q (.bl (!PyData.eqv d e)) H):eC K v w H Q:=⟨d,e,h,k,sd,se,q⟩
theorem yZ{T:String}(h:Is K H v d)(e:wE K (.type (kindOf d)) (.type T)=some (isA T d))(q:Q (.bl (isA T d)) H):fX K [v,.ty T] H Q:=⟨v,T,d,_,rfl,h,e,q⟩
def jd:wC->Bool
 | .tuple _=>true
 | _=>false
def ze:wC->Bool
 | .int _=>true
 | .bool _=>true
 | _=>false
def z5:wC->Bool
 | .bool _=>true
 | _=>false
def pD:wC->Bool
 | .list _=>true
 | _=>false
def BB:wC->Bool
 | .str _=>true
 | _=>false
theorem Sw : jd d=true ↔ ∃ds,d=.tuple ds:=by cases d<;>simp[jd]
theorem To(h:Is K H v d)(q:Q (.bl (jd d)) H):fX K [v,.ty "tuple"] H Q:=yZ h (zwH d) (by have e:isA "tuple" d=jd d:=(by cases d<;>rfl);rw[e];exact q)
theorem zzB(h:Is K H v d)(q:Q (.bl (ze d)) H):fX K [v,.ty "int"] H Q:=yZ h (zBo d) (by have e:isA "int" d=ze d:=(by cases d<;>rfl);rw[e];exact q)
theorem zy2(h:Is K H v d)(q:Q (.bl (z5 d)) H):fX K [v,.ty "bool"] H Q:=yZ h (zzD d) (by have e:isA "bool" d=z5 d:=(by cases d<;>rfl);rw[e];exact q)
theorem zyo(h:Is K H v d)(q:Q (.bl (BB d)) H):fX K [v,.ty "str"] H Q:=yZ h (zAt d) (by have e:isA "str" d=BB d:=(by cases d<;>rfl);rw[e];exact q)
theorem Ae(h:aV K H p xs)(e:ie xs m=some v)(q:Q v H):c9 K (.ref p) (.int m) H Q:=.inr (.inl ⟨p,xs,m,v,rfl,rfl,h,e,q⟩)
theorem jc(h:aG K H p xs)(e:ie xs m=some v)(q:Q v H):c9 K (.ref p) (.int m) H Q:=.inl ⟨p,xs,m,v,rfl,rfl,h,e,q⟩
theorem zCv{α : Type}{xs:List α}(h0:0<=m)(h1:m<xs.length):∃v,ie xs m=some v/\v∈xs:=by
 obtain⟨k,rfl⟩:∃k:Nat,m=(k:Int):=⟨m.toNat,by lia⟩;have l:k<xs.length:=by lia
 exact⟨xs[k],kQ (by simp[l]),Wi l⟩
theorem M6(P:V->Prop)(h:aG K H p xs)(h0:0<=m)(h1:m<xs.length)(hP:∀x∈xs,P x)(q:∀x,P x->Q x H):c9 K (.ref p) (.int m) H Q:=by
 obtain⟨x,e,hx⟩:=zCv h0 h1;exact jc h e (q x (hP x hx))
theorem zA8{r:Rat}(h:Is K H v (N r))(q:Q (.int r.num) H):c9 K v (.int 0) H Q:=by
 obtain⟨a,rfl,h'⟩:=oE.mp h;exact Ae h' rfl q
theorem ZT{r:Rat}(h:Is K H v (N r))(q:Q (.int (r.den:Int)) H):c9 K v (.int 1) H Q:=by
 obtain⟨a,rfl,h'⟩:=oE.mp h;exact Ae h' rfl q
theorem aF(h:Is K H v (.tuple ds))(e:ds[j]? = some d)(q:∀x,Is K H x d->Q x H):c9 K v (.int (j:Int)) H Q:=by
 obtain⟨a,xs,rfl,h,t⟩:=bZ.mp h;obtain⟨x,e1,hx⟩:=t.get e;exact Ae h (kQ e1) (q x hx)
theorem mm(h:Is K H v (.tuple ds))(q:Q (.int ds.length) H):cj K [v] H Q:=by
 obtain⟨a,xs,rfl,h,t⟩:=bZ.mp h;exact MT h (by rw[t.length];exact q)
theorem My{n:Nat}(h:Is K H v (.tuple ds))(e:ds.length=n)(q:∀xs,aj K H xs ds->gs xs σ H QS):kW K n gs v σ H QS:=by
 obtain⟨a,xs,rfl,h,t⟩:=bZ.mp h;exact ly h (by rw[t.length];exact e) (q xs t)
theorem mW{α : Type}{l:List α}(h:l.length<=1000):l.length<=vc:=WB (gj h)
theorem lF(z:xs.length<=1000)(q:∀p H',H p=none->ah H H'->H' p=some (.tup xs)->Q (.ref p) H'):mE K xs H Q:=⟨mW z,λp hp=>q p _ hp (ah.upd hp) cW⟩
theorem de(z:xs.length<=1000)(q:∀p H',H p=none->ah H H'->H' p=some (.lst xs)->Q (.ref p) H'):By K xs H Q:=⟨mW z,λp hp=>q p _ hp (ah.upd hp) cW⟩
theorem cR(z:xs.length<=1000)(h:aj K H xs ds)(q:∀v H',ah H H'->Is K H' v (.tuple ds)->Q v H'):mE K xs H Q :=
 lF z λp H' _ s e=>q _ H' s (bZ.mpr ⟨p,xs,rfl,.of e,aj.same s ds xs h⟩)
theorem dm{r:Rat}(e1:m=r.num)(e2:n=(r.den:Int))(q:∀v H',ah H H'->Is K H' v (N r)->Q v H'):mE K [.int m,.int n] H Q:=by
 subst e1 e2;exact lF (by show 2<=1000;decide) λp H' _ s e=>q _ H' s (oE.mpr ⟨p,rfl,.of e⟩)
theorem zBa{p:Prop}[Decidable p](h1:p->A)(h2:¬ p->B):if decide p=true then A else B:=by
 by_cases h:p
 ·rw[decide_eq_true h,if_pos rfl];exact h1 h
 ·rw[decide_eq_false h,if_neg vG];exact h2 h
theorem zzn{p:Prop}[Decidable p](h1:¬ p->A)(h2:p->B):if(!decide p)=true then A else B:=by
 by_cases h:p
 ·rw[decide_eq_true h];exact nN (h2 h)
 ·rw[decide_eq_false h];exact mZ (h1 h)
theorem zAq{b:Bool}(h1:b=true->A)(h2:b=false->B):if b=true then A else B:=by
 cases b
 ·exact nN (h2 rfl)
 ·exact mZ (h1 rfl)
theorem zya{b:Bool}(h1:b=false->A)(h2:b=true->B):if(!b)=true then A else B:=by
 cases b
 ·exact mZ (h1 rfl)
 ·exact nN (h2 rfl)
end
section
variable{c:TT}{tb:TS}{D:cN}{σ : St}{H:Hp}
def TF(σ : St)(i:Nat):Int:=match σ[i]? with
 | some (some (.int y))=>y
 | _=>0
def Ru(Pv:St->Hp->Prop)(μ : St->Nat)(tb:TS)(D:cN)(σ':St)(H1:Hp):Prop :=
 ∃M:St->Hp->Prop,(∀σ2 H2,M σ2 H2->∃m',m' < μ σ'/\(m' = μ σ2/\Pv σ2 H2))/\tb {D with nx:=M,ct:=M,bk:=D.nx} σ' H1
theorem Nb(Pv:St->Hp->Prop)(μ : St->Nat)(h0:Pv σ H)
  (hs:∀σ' H',Pv σ' H'->c σ' H' λb H1=>if b=true then Ru Pv μ tb D σ' H1 else D.nx σ' H1):DC c tb D σ H:=by
 refine⟨λm σ H=>m = μ σ /\ Pv σ H,⟨_,rfl,h0⟩,?_⟩;rintro m σ H ⟨rfl,p⟩;exact hs σ H p
theorem NT{Pv:St->Hp->Prop}{μ : St->Nat}{σ':St}{H1:Hp}(h:tb {D with nx:=λσ2 H2=>μ σ2 < μ σ'/\Pv σ2 H2,ct:=λσ2 H2=>μ σ2 < μ σ'/\Pv σ2 H2,bk:=D.nx} σ' H1):Ru Pv μ tb D σ' H1 :=
 ⟨_,λσ2 H2 q=>⟨_,q.1,rfl,q.2⟩,h⟩
def Pw(g:TG)(tb:TS)(D:cN)(σ : St)(vs:List V)(H1:Hp):Prop:=∃j:Int,vs=[.int j] /\ -(2^62)<=j/\j<2^62 /\
 ∃W:Nat->Nat->St->Hp->Prop,(∃m,W 0 m σ H1) /\ ∀i m σ H,W i m σ H ->
  ((gG 0 j.toNat).stop i H/\D.nx σ H)\/((gG 0 j.toNat).go i H /\ ∃M:St->Hp->Prop,(∀σ' H',M σ' H'->∃m',m'<m/\W (i+1) m' σ' H') /\ ∀x H',(gG 0 j.toNat).fC i H x H'->g x σ H' λσ2 H2=>tb {D with nx:=M,ct:=M,bk:=D.nx} σ2 H2)
theorem zAm{ta:TA}{g:TG}(h:ta σ H λvs H1=>Pw g tb D σ vs H1):mv (DX ta) g tb D σ H:=h
theorem jY{g:TG}{n:Int}(h0 : -1000000000<=n)(h1:n<1000000000)(Pv:Nat->St->Hp->Prop)(p:Pv 0 σ H)
  (hs:∀(i:Nat) σ H,i<n.toNat->Pv i σ H->g (.int (i:Int)) σ H λσ2 H2=>tb {D with nx:=Pv (i+1),ct:=Pv (i+1),bk:=D.nx} σ2 H2)
  (hd:∀σ H,Pv n.toNat σ H->D.nx σ H):Pw g tb D σ [.int n] H:=by
 refine⟨n,rfl,by lia,by lia,Mf (lo:=0) Pv p (λi σ H hi q=>?_) hd⟩;have e:(0:Int)+(i:Int)=(i:Int):=by lia
 rw[e];exact hs i σ H hi q
end
def EU(K:wa)(g:TG)(tb:TS)(D:cN)(σ : St)(x:V)(H1:Hp):Prop:=∃a,x=.ref a/\(∃xs,aG K H1 a xs) /\
 ∃W:Nat->Nat->St->Hp->Prop,(∃m,W 0 m σ H1) /\ ∀i m σ H,W i m σ H ->
  ((jw K a).stop i H/\D.nx σ H)\/((jw K a).go i H /\ ∃M:St->Hp->Prop,(∀σ' H',M σ' H'->∃m',m'<m/\W (i+1) m' σ' H') /\ ∀x H',(jw K a).fC i H x H'->g x σ H' λσ2 H2=>tb {D with nx:=M,ct:=M,bk:=D.nx} σ2 H2)
def M7(K:wa)(g:TG)(tb:TS)(D:cN)(σ : St)(x:V)(H1:Hp):Prop:=∃a,x=.ref a/\(∃xs,aV K H1 a xs) /\
 ∃W:Nat->Nat->St->Hp->Prop,(∃m,W 0 m σ H1) /\ ∀i m σ H,W i m σ H ->
  ((ju K a).stop i H/\D.nx σ H)\/((ju K a).go i H /\ ∃M:St->Hp->Prop,(∀σ' H',M σ' H'->∃m',m'<m/\W (i+1) m' σ' H') /\ ∀x H',(ju K a).fC i H x H'->g x σ H' λσ2 H2=>tb {D with nx:=M,ct:=M,bk:=D.nx} σ2 H2)
section
variable{K:wa}{te:TE}{g:TG}{tb:TS}{D:cN}{σ : St}{H:Hp}{a:we}{xs:List V}
theorem zAl(h:te σ H λx H1=>EU K g tb D σ x H1):mv (EV K te) g tb D σ H:=h
theorem rJ(hx:aG K H a xs)(Pv:Nat->St->Hp->Prop)(h0:Pv 0 σ H)(hl:∀i σ H,i<=xs.length->Pv i σ H->aG K H a xs)
  (hs:∀i x σ H,xs[i]? = some x->Pv i σ H->g x σ H λσ2 H2=>tb {D with nx:=Pv (i+1),ct:=Pv (i+1),bk:=D.nx} σ2 H2) (hd:∀σ H,Pv xs.length σ H->D.nx σ H):EU K g tb D σ (.ref a) H :=
 ⟨a,rfl,⟨xs,hx⟩,ZY Pv h0 hl hs hd⟩
theorem Mz(hx:aV K H a xs)(Pv:Nat->St->Hp->Prop)(h0:Pv 0 σ H)(hl:∀i σ H,i<=xs.length->Pv i σ H->aV K H a xs)
  (hs:∀i x σ H,xs[i]? = some x->Pv i σ H->g x σ H λσ2 H2=>tb {D with nx:=Pv (i+1),ct:=Pv (i+1),bk:=D.nx} σ2 H2) (hd:∀σ H,Pv xs.length σ H->D.nx σ H):M7 K g tb D σ (.ref a) H :=
 ⟨a,rfl,⟨xs,hx⟩,zA9 Pv h0 hl hs hd⟩
end
theorem zCH{K:wa}{H:Hp}{a:we}{xs:List V}(hO:zq H)(h:aG K H a xs):iM K H a xs:=by
 rcases h with(h | ⟨o,h⟩) | h
 ·rcases hO a with z | ⟨ob,ys,z⟩
  ·rw[h]at z;cases z
  ·rw[h]at z;cases z
 ·exact .inl ⟨o,h⟩
 ·exact .inr h
theorem Sm{K:wa}{H:Hp}{Q:VK}{a:we}{ns:List Int}{m:Int}(h:iM K H a (ns.map V.int))(h0:0<=m)(h1:m<((ns.map V.int).length:Int))(q:∀z,Q (.int z) H):c9 K (.ref a) (.int m) H Q:=by
 refine M6 (λv=>∃z,v=.int z) h.sq h0 h1 (λx hx=>?_) (λx hx=>?_)
 ·obtain⟨z,_,rfl⟩:=wV.mp hx
  exact⟨z,rfl⟩
 ·obtain⟨z,rfl⟩:=hx
  exact q z
section
variable{K:wa}{H H':Hp}{v:V}{d:wC}{a:we}{xs:List V}{o:HO}
theorem ah.back{H2:Hp}(b:ah H' H2)(s:ah H H'):ah H H2:=s.trans b
theorem bK.back{H2:Hp}(b:bK H' H2)(s:bK H H'):bK H H2:=s.trans b
theorem Is.by(s:ah H H')(h:Is K H v d):Is K H' v d:=Is.same s d v h
theorem Is.Y_(h:Is K H v d)(s:ah H H'):Is K H' v d:=Is.same s d v h
theorem Is.Y7{r:Rat}(h:Is K H v (N r))(s:bK H H'):Is K H' v (N r):=Is.keep s _ v (kM r) h
theorem Is.c8{r:Rat}(s:bK H H')(h:Is K H v (N r)):Is K H' v (N r):=Is.keep s _ v (kM r) h
theorem Is.g6(s:bK H H')(i:dq d=true)(h:Is K H v d):Is K H' v d:=Is.keep s _ v i h
end
def fu(X:Cx)(N':List Str)(scope:Scope)(cl:List (Str × we))(C:we)(s₀ : wl)(H₀ : Hp)(fp:List we)(pins:List (we × Obj)):Cx where
 prog:=X.prog
 w:=X.w
 K:=X.K
 mg:=X.mg
 base:=X.base
 A:=X.A
 N:=N'
 s₀:=s₀
 H₀:=H₀
 env:=compEnvC scope cl C X.env
 outer:=X.stack
 stack:=X.stack
 ex:=fp
 fn:=λ_=>false
 calm:=X.calm
 pn:=X.pn++pins
 xe:=λ_ _=>False
structure SX(X:Cx)(scope:Scope)(cl:List (Str × we)):Prop where
 lI:closureFor scope X.env=pure cl
 sub:∀x c,cl.lookup x=some c->X.env.cells.lookup x=some c
 has:∀x,((relabel scope X.env).names.lookup x=some .cell\/(relabel scope X.env).names.lookup x=some .free)->∃c,cl.lookup x=some c
def dP(src:List (Option Nat))(σ : St):St:=src.map λo=>match o with
 | none=>none
 | some j=>(σ[j]?).join
def TJ(X:Cx)(N':List Str)(src:List (Option Nat)):Prop :=
 N'.length=src.length /\ ∀(i j:Nat)(x:Str),N'[i]? = some x->src[i]? = some (some j)->X.N[j]? = some x/\X.env.scope.names.lookup x=some .cell
section
variable{X:Cx}{pins:List (we × Obj)}{σ : St}{H:Hp}{s:wl}{N':List Str}{scope:Scope}{cl:List (Str × we)}{src:List (Option Nat)}{fp:List we}
theorem Inv.block{h₁ : wM}{tk:Nat}(I:Inv X pins σ H s)(hk:scope.kind=.function)(cok:SX X scope cl)(sok:TJ X N' src)(hf:∀b∈fp,eP X pins H b)(hlt:∀b∈fp,b<s.heap.objs.size)
  (hns:h₁.Ns s.heap.objs.size λ_=>none) (old:∀b o,s.heap.get? b=some o->h₁.get? b=some o)
  (hvis:∀(i:Nat) x,N'[i]? = some x->src[i]? ≠ some none->(relabel scope X.env).names.lookup x=some .cell\/(relabel scope X.env).names.lookup x=some .free) :
  Inv (fu X N' scope cl s.heap.objs.size s H fp pins) [] (dP src σ) H {s with heap:=h₁,toks:=tk}:=by
 have hfr:H s.heap.objs.size=none:=I.aM.fresh (wp _)
 have jP:∀x c,cl.lookup x=some c->c<s.heap.objs.size:=λx c e=>by
  obtain⟨v,q⟩:=I.cell x c (cok.sub x c e);exact q.lt
 have fplt:∀b∈fp,b ∉ dB X.stack:=λb hb z=>by
  obtain⟨_,f1,f2,_⟩:=hf b hb;exact(wR.mp (I.mQ b z)).elim f1 f2
 refine⟨⟨I.ok.mod,?_,I.ok.glob,I.ok.blt,wp _,λx y c h1 h2=>?_,λx hx=>?_,λx c hx=>?_,I.ok.hd,I.ok.frames,.inl rfl,λb hb=>⟨?_,λx c e=>?_⟩,I.bs,Wl I.ok.jl I.sz,λb o e=>?_,fplt,I.stack,I.sU⟩,
  rfl,I.bare,Un.kept old,⟨_,hns,λi x v h1 h2 h3=>?_⟩,λx c e=>?_,hfr,λx c e=>?_,λp hp=>?_,I.aM.kept old,?_⟩
 ·show(relabel scope X.env).kind=.function
  exact hk
 ·exact I.ok.inj x y c (cok.sub x c h1) (cok.sub y c h2)
 ·exact cok.has x hx
 ·exact absurd (show false=true from hx) vG
 ·exact wT (hlt b hb)
 ·exact(hf b hb).2.2.2.2.1 x c (cok.sub x c e)
 ·intro hb
  obtain⟨_,_,_,f3,_⟩:=hf b hb;rcases f3 with z | z
  ·exact I.ok.kD b o e z
  ·exact absurd (wU (wA e) (Wl I.ok.jl z)) (W5 _)
 ·-- a name of the frame around
  have hsrc:∃j,src[i]? = some (some j) /\ σ[j]? = some (some v):=by
   unfold dP at h2;rw[wu]at h2;cases q:src[i]? with
   | none=>rw[q]at h2;cases h2
   | some o =>
    rw[q]at h2;cases o with
    | none=>cases h2
    | some j =>
     refine⟨j,rfl,?_⟩;have h2':(σ[j]?).join=some v:=w5 h2;cases q2 : σ[j]? with
     | none=>rw[q2]at h2';cases h2'
     | some z=>rw[q2]at h2';exact congrArg some h2'
  obtain⟨j,hj,hv⟩:=hsrc;obtain⟨hN,hc⟩:=sok.2 i j x h1 hj;obtain⟨m,_,hl⟩:=I.loc;obtain⟨u,ru,lk⟩:=hl j x v hN hv (.inr (.inl hc));refine⟨u,ru,.inr ⟨hvis i x h1 (by rw[hj];intro z;cases z),?_⟩⟩;rcases lk with⟨k,_⟩ | ⟨_,c,ec,hcell⟩
  ·have k':X.env.scope.names.lookup x=some .local:=k
   rw[hc]at k';cases k'
  ·obtain⟨c',ec'⟩:=cok.has x (hvis i x h1 (by rw[hj];intro z;cases z))
   have:=cok.sub x c' ec';rw[ec]at this;cases this;obtain⟨o,ho,hd⟩:=hcell;exact⟨c,ec',o,old c o ho,hd⟩
 ·obtain⟨v,o,ho,hd⟩:=I.cell x c (cok.sub x c e)
  exact⟨v,o,old c o ho,hd⟩
 ·exact I.fv x c (cok.sub x c e)
 ·have hp':p∈(X.pn++pins)++[]:=hp
  rw[vM]at hp';obtain⟨e,n,ne,nf,d⟩:=I.pin p hp';refine⟨old _ _ e,n,wT (wA e),λz=>?_,d⟩;exact(wR.mp (I.mQ p.1 z)).elim ne nf
 ·show(dP src σ).length=N'.length
  unfold dP;rw[wm,sok.1]
end
def RA:TT:=λ_ H Q=>Q true H
def sy(X:Cx)(ifs:List Expr)(t:TT):Prop :=
 ∀(pins:List (we × Obj))(s:wl)(σ : St)(H:Hp)(Q:Bool->Hp->Prop),Inv X pins σ H s->t σ H Q ->
  wq (model X.prog X.w) X.A (forIn ifs true λc r=>if r=true then do let ok <- isTrue c X.env (eval c X.env);pure (ForInStep.yield ok)else pure (ForInStep.yield r)) (TP X pins σ Q) X.xe s
theorem dH{X:Cx} : sy X [] RA:=λ_ _ _ H _ I h=>wpAny_tests_nil ⟨H,I,h⟩
theorem kK{X:Cx}{c:Expr}{t:TT}(hc:PT X c t):sy X [c] t:=λpins s σ H Q I h=>wpAny_tests_one (hc pins s σ H Q I h)
section
variable{prog:wI}{w:wO}{A:w9}{R:Result->wl->Prop}{s:wl}
theorem zre{elt target iter:Expr}{ifs:List Expr}{scope:Scope}{pos:Pos}{it acc:wf}{env:Env}(I:Nat->wl->Prop)
   (turn:∀n s,I n s->wq (model prog w) A (pyNext it) (λr s₁=>match r with
     | none=>R (.ok .next) s₁
     | some v=>wq (model prog w) A (qr target it v) (λ_ s₁'=>wq (model prog w) A (assign target env v) (λ_ s₂ =>
         wq (model prog w) A (forIn ifs true λc r=>if r=true then do let ok <- isTrue c env (eval c env);pure (ForInStep.yield ok)else pure (ForInStep.yield r)) (λok s₃ =>
           if ok=true then wq (model prog w) A (eval elt env) (λx s₄ =>
             wq (model prog w) A (call (.builtin "list.append") [acc,x]) (λ_ s₅=>∃m,m<n/\I m s₅) (λ_ _=>False) s₄) (λ_ _=>False) s₃
           else ∃m,m<n/\I m s₃) (λ_ _=>False) s₂) (λ_ _=>False) s₁') (λ_ _=>False) s₁) (λ_ _=>False) s)
   (n:Nat) (h:I n s):codeAny (model prog w) A (.compLoop (.ListComp elt [⟨target,iter,ifs,0⟩] scope pos) 0 it acc env) R s:=by
 refine codeAny_loop rfl I (λn s hI=>?_) n h
 show wq _ A ((compTurn (.ListComp elt [⟨target,iter,ifs,0⟩] scope pos) 0 it acc env).onRaise (λx=>do noteFrame x env;theTreesLotGoes x)) _ _ s
 refine wpAny_noted ?_;rw[compTurn_list];refine wg (wpAny_standAt (wg (WF (turn n s hI) (λr s₁ h₁=>?_) λ_ _ h'=>h'.elim)));cases r with
 | none=>exact wt h₁
 | some v =>
   refine wg (WF h₁ (λ_ s₁' h₁'=>?_) λ_ _ h'=>h'.elim);refine wg (WF h₁' (λ_ s₂ h₂=>wg (WF h₂ (λok s₃ h₃=>?_) λ_ _ h'=>h'.elim)) λ_ _ h'=>h'.elim);cases ok with
   | false=>exact wt ⟨rfl,h₃⟩
   | true=>exact wg (wg (WF h₃ (λx s₄ h₄=>wg (WF h₄ (λ_ s₅ h₅=>wt (wt ⟨rfl,h₅⟩)) λ_ _ h'=>h'.elim)) λ_ _ h'=>h'.elim))
end
def j8(g:TG)(tt:TT)(te:TE)(J:It)(D:we)(σ0:St)(H0:Hp)(Q:Hp->Prop):Prop :=
 ∃W:Nat->Nat->St->Hp->Prop,(∃m,W 0 m σ0 H0) /\ ∀i m σ' H',W i m σ' H' ->
  (J.stop i H'/\Q H')\/(J.go i H' /\ ∃M:St->Hp->Prop,(∀σ2 H2,M σ2 H2->∃m',m'<m/\W (i+1) m' σ2 H2) /\
   ∀x H2,J.fC i H' x H2->g x σ' H2 λσ3 H3=>tt σ3 H3 λok H4=>if ok=true then te σ3 H4 λy H5=>∃ys,H5 D=some (.lst ys)/\ys.length<vc/\M σ3 (upd H5 D (.lst (ys++[y])))else M σ3 H4)
def km(src:List (Option Nat))(wi:TI)(g:TG)(tt:TT)(te:TE):TE:=λσ H Q=>wi σ H λJ H1=>∀D,H1 D=none->j8 g tt te J D (dP src σ) (upd H1 D (.lst [])) (λH'=>Q (.ref D) H')
structure Ln(Y:Cx)(tg:Expr)(J:It)(fp:List we)(it:we)(tn:Nat->wM->Prop):Prop where
 item:∀(i:Nat)(pins:List (we × Obj))(s:wl)(σ : St)(H:Hp)(E:wf->wl->Prop),Inv Y pins σ H s->(∀b∈fp,eP Y pins H b)->tn i s.heap->J.go i H ->
   wq (model Y.prog Y.w) Y.A (pyNext (.ref it)) (λr s1=>∃u,r=some u/\wq (model Y.prog Y.w) Y.A (qr tg (.ref it) u) (λ_ s2=>∃x H',Inv Y pins σ H' s2/\bE x u/\J.fC i H x H'/\tn (i+1) s2.heap /\ ∀b∈fp,H' b=none) E s1) E s
 done:∀(i:Nat)(pins:List (we × Obj))(s:wl)(σ : St)(H:Hp)(E:wf->wl->Prop),Inv Y pins σ H s->(∀b∈fp,eP Y pins H b)->tn i s.heap->J.stop i H ->
   wq (model Y.prog Y.w) Y.A (pyNext (.ref it)) (λr s1=>r=none/\Inv Y pins σ H s1) E s
theorem jF.Mm{P:wI}{w:wO}{K:wa}{tg:Expr}{J:It}{fp:List we}{it:we}{tn:Nat->wM->Prop}(T:jF P w K tg J fp it tn){Y:Cx}(h1:Y.prog=P)(h2:Y.w=w)(h3:Y.K=K)(hc:Y.calm=true):Ln Y tg J fp it tn:=by
 subst h1 h2 h3;exact⟨T.item Y rfl rfl rfl hc,T.done Y rfl rfl rfl hc⟩
section
variable{X:Cx}{pins:List (we × Obj)}{σ : St}{H:Hp}{s:wl}{N':List Str}{scope:Scope}{cl:List (Str × we)}{src:List (Option Nat)}{elt tgt iter:Expr}{ifs:List Expr}{pos:Pos}{wi:TI}{g:TG}{tt:TT}{te:TE}
structure cv(X:Cx)(N':List Str)(scope:Scope)(cl:List (Str × we))(src:List (Option Nat)):Prop where
 kind:scope.kind=.function
 cell:∀y∈scope.names,y.2≠.cell
 names:∀y∈scope.names,y.2=.local->scope.names.lookup y.1=some .local
 lI:SX X scope cl
 Ze:TJ X N' src
 CS:∀(i:Nat) x,N'[i]? = some x->src[i]? ≠ some none->(relabel scope X.env).names.lookup x=some .cell\/(relabel scope X.env).names.lookup x=some .free
theorem KZ{it:we}{fp:List we}{tn:Nat->wM->Prop}{J:It}{RQ:we->Hp->Prop}{E:wf->wl->Prop}{RR:wf->we->Result->wl->Prop}
   (TC:∀C s₀ H₀,Ln (fu X N' scope cl C s₀ H₀ fp pins) tgt J fp it tn) (ok:cv X N' scope cl src)
   (hg:∀C s₀ H₀ fp pins,PG (fu X N' scope cl C s₀ H₀ fp pins) tgt g) (ht:∀C s₀ H₀ fp pins,sy (fu X N' scope cl C s₀ H₀ fp pins) ifs tt) (he:∀C s₀ H₀ fp pins,PE (fu X N' scope cl C s₀ H₀ fp pins) elt te)
   (I:Inv X pins σ H s) (T:jF X.prog X.w X.K tgt J fp it tn) (st:tn 0 s.heap) (hf:∀b∈fp,eP X pins H b)
   (rd:∀D,H D=none->j8 g tt te J D (dP src σ) (upd H D (.lst [])) (λH'=>RQ D H'))
   (hRR:∀D C H' s' m,Inv X pins σ H' s'->s'.heap.Ns C m->eP X pins H' C->RQ D H'->RR (.ref D) C (.ok .next) s') :
   wq (model X.prog X.w) X.A (newList []) (λacc s₃=>wq (model X.prog X.w) X.A (newFunctionEnv scope X.env.globals cl [] X.env.qual none .none (some X.env)) (λcenv s₄ =>
     codeAny (model X.prog X.w) X.A (.compStart (.ListComp elt [⟨tgt,iter,ifs,0⟩] scope pos) 0 (.ref it) acc {cenv with scope:=relabel scope X.env}) (RR acc cenv.locals) s₄) E s₃) E s:=by
 refine WI ?_ (by show 0<=vc;exact qi _);have hD:H s.heap.objs.size=none:=I.aM.fresh (wp _)
 have I3:Inv X pins σ (upd H s.heap.objs.size (.lst [])) {s with heap:=s.heap.push {cls:=.type "list",data:=.seq ([]:List wf).toArray}} :=
   I.Bg (ys:=[]) (its:=[]) (t':=s.toks) .nil (qi _)
 have old3:∀b o,s.heap.get? b=some o->(s.heap.push {cls:=.type "list",data:=.seq ([]:List wf).toArray}).get? b=some o:=λb o e=>wn _ e
 have lt0:∀b∈fp,b<s.heap.objs.size:=λb hb=>by
   obtain⟨o,e,_⟩:=T.obj 0 _ st b hb;exact wA e
 have hf3:∀b∈fp,eP X pins (upd H s.heap.objs.size (.lst [])) b:=λb hb=>⟨by rw[dh (wT (lt0 b hb))];exact(hf b hb).1,(hf b hb).2⟩
 have lt3:∀b∈fp,b<(s.heap.push {cls:=.type "list",data:=.seq ([]:List wf).toArray}).objs.size:=λb hb=>by
   rw[V5];exact qM (lt0 b hb)
 have st3:tn 0 (s.heap.push {cls:=.type "list",data:=.seq ([]:List wf).toArray}):=T.keep _ _ _ st λb _ o e=>old3 b o e
 obtain⟨W,⟨m0,w0⟩,turn⟩:=rd _ hD;generalize hs3:({s with heap:=s.heap.push {cls:=.type "list",data:=.seq ([]:List wf).toArray}} : wl)=s3 at I3 ⊢;have hh3:s3.heap=s.heap.push {cls:=.type "list",data:=.seq ([]:List wf).toArray}:=by rw[<- hs3]
 rw[<- hh3]at lt3 st3;clear old3 hs3 hh3;generalize hD':s.heap.objs.size=D at *
 refine wpAny_newFunctionEnv ok.cell (by intro y hy;cases hy) (λh₁ hns₁ hsb₁=>?_) ok.kind;have old:∀b o,s3.heap.get? b=some o->h₁.get? b=some o:=λb o e=>hsb₁.extBut b o (wT (wA e)) (wn _ e)
 have hC:eP X pins (upd H D (.lst [])) s3.heap.objs.size:=I3.j5 (wp _) (I3.aM.fresh (wp _))
 have IB:∀tk,Inv (fu X N' scope cl s3.heap.objs.size s3 (upd H D (.lst [])) fp pins) [] (dP src σ) (upd H D (.lst [])) {s3 with heap:=h₁,toks:=tk}:=λtk =>
   I3.block ok.kind ok.lI ok.Ze hf3 lt3 hns₁ old ok.CS
 have stB:tn 0 h₁:=T.keep _ _ _ st3 λb _ o e=>old b o e
 have stat:∀{H':Hp} ,(∀b∈fp,H' b=none)->∀b∈fp,eP (fu X N' scope cl s3.heap.objs.size s3 (upd H D (.lst [])) fp pins) [] H' b:=λhn b hb=>by
   obtain⟨_,f1,f2,f3,f4,f5⟩:=hf3 b hb;refine⟨hn b hb,wT (lt3 b hb),λz=>(wR.mp (I3.mQ b z)).elim f1 f2,.inl hb,λx c e=>f4 x c (ok.lI.sub x c e),λp hp=>?_⟩;have hp':p∈(X.pn++pins)++[]:=hp;rw[vM]at hp';exact f5 p hp'
 have back:∀{σ':St}{H':Hp}{s':wl},Inv (fu X N' scope cl s3.heap.objs.size s3 (upd H D (.lst [])) fp pins) [] σ' H' s'->Inv X pins σ H' s'/\(∃m,s'.heap.Ns s3.heap.objs.size m)/\eP X pins H' s3.heap.objs.size:=λ{σ' H' s'} J=>by
   obtain⟨m,hn,_⟩:=J.loc;refine⟨I3.Kg (ch:=fp) J.os J.base J.aM J.bare (λb hb=>?_),⟨m,hn⟩,⟨J.free,hC.2⟩⟩;obtain⟨_,f1,_,f3,f4,f5⟩:=hf3 b hb;exact⟨f3,f1,f4,f5⟩
 have loop:∀tk,codeAny (model X.prog X.w) X.A (.compLoop (.ListComp elt [⟨tgt,iter,ifs,0⟩] scope pos) 0 (.ref it) (.ref D) (compEnvC scope cl s3.heap.objs.size X.env)) (RR (.ref D) s3.heap.objs.size) {s3 with heap:=h₁,toks:=tk}:=by
   intro tk
   refine zre (λn s'=>∃i σ' H',Inv (fu X N' scope cl s3.heap.objs.size s3 (upd H D (.lst [])) fp pins) [] σ' H' s'/\tn i s'.heap/\(∀b∈fp,H' b=none)/\W i n σ' H') ?_ m0
     ⟨0,_,_,IB tk,stB,λb hb=>(hf3 b hb).1,w0⟩
   rintro n s4 ⟨i,σ4,H4,I4,st4,fr4,w4⟩;rcases turn i n σ4 H4 w4 with⟨stop,q⟩ | ⟨go,M,hM,step⟩
   . refine aQ ((TC _ _ _).done i [] s4 σ4 H4 (λ_ _=>False) I4 (stat fr4) st4 stop) λr s5 ⟨hr,I5⟩=>?_
     subst hr;obtain⟨J,⟨m,hn⟩,hCf⟩:=back I5;exact hRR D _ H4 s5 m J hn hCf q
   . refine aQ ((TC _ _ _).item i [] s4 σ4 H4 (λ_ _=>False) I4 (stat fr4) st4 go) λr s5 ⟨u,hr,h5⟩=>?_
     subst hr;refine aQ h5 λ_ s6 ⟨x,H6,I6,r6,y6,st6,fr6⟩=>?_
     have I6':=I6.pinned (stat fr6) (T.obj _ _ st6)
     have again:∀{σ7:St}{H7:Hp}{s7:wl},Inv (fu X N' scope cl s3.heap.objs.size s3 (upd H D (.lst [])) fp pins) ([]++rq fp s6.heap) σ7 H7 s7->M σ7 H7 ->
         ∃m,m<n /\ ∃i σ' H',Inv (fu X N' scope cl s3.heap.objs.size s3 (upd H D (.lst [])) fp pins) [] σ' H' s7/\tn i s7.heap/\(∀b∈fp,H' b=none)/\W i m σ' H':=λ{σ7 H7 s7} I7 n7=>by
       obtain⟨m',hm,w7⟩:=hM σ7 H7 n7;refine⟨m',hm,i+1,σ7,H7,I7.sR,T.keep _ _ _ st6 λb hb o e=>(I7.pin (b,o) (vR _ (vR _ (ya hb e)))).1,λb hb=>?_,w7⟩;obtain⟨o,e,d⟩:=T.obj _ _ st6 b hb;exact(I7.pin (b,o) (vR _ (vR _ (ya hb e)))).2.1
     refine aQ (hg _ _ _ _ _ _ s6 σ4 H6 x u _ I6' r6 (step x H6 y6)) λ_ s7 ⟨σ7,H7,I7,q7⟩=>?_
     refine aQ (ht _ _ _ _ _ _ s7 σ7 H7 _ I7 q7) λk s8 ⟨H8,I8,q8⟩=>?_
     cases k with
     | false=>exact again I8 q8
     | true =>
       rw[if_pos rfl]at q8 ⊢;refine aQ (he _ _ _ _ _ _ s8 σ7 H8 _ I8 q8) λy s9 ⟨yv,H9,I9,r9,ys,hys,hz,q9⟩=>?_
       exact aQ (iS _ s9 σ7 H9 (.ref D) [yv] (.ref D) [y] (λ_ H'=>M σ7 H') I9 rfl (.cons r9 .nil) ⟨D,ys,yv,rfl,rfl,hys,hz,q9⟩) λ_ s10 ⟨_,H10,I10,_,q10⟩=>again I10 q10
 exact codeAny_compStart_list (loop _) (T.self _ _ _ _ _ stB (loop _))
theorem dR(hc:X.calm=true)(ok:cv X N' scope cl src)(hi:PI X tgt iter wi)
  (hg:∀C s₀ H₀ fp pins,PG (fu X N' scope cl C s₀ H₀ fp pins) tgt g) (ht:∀C s₀ H₀ fp pins,sy (fu X N' scope cl C s₀ H₀ fp pins) ifs tt) (he:∀C s₀ H₀ fp pins,PE (fu X N' scope cl C s₀ H₀ fp pins) elt te)
  (hs:∀x,foldedSetIterable iter X.env x=pure x:=by intro _;rfl):PE X (.ListComp elt [⟨tgt,iter,ifs,0⟩] scope pos) (km src wi g tt te):=by
 intro pins s σ H Q I h;rw[eval_ListComp];refine wpAny_comprehension_free (use:=none) rfl hs ok.lI.lI ok.kind ok.names (aQ (hi pins s σ H _ I h) λv s1 h1=>aQ h1 λitv s2 h2=>?_);obtain⟨it,fp,tn,J,H2,e,I2,T,st2,f2,rd⟩:=h2;subst e;refine KZ (RQ:=λD H'=>Q (.ref D) H') (RR:=λacc C=>compPost (model X.prog X.w) X.A X.xe none (EP X pins σ Q) acc C) (λ_ _ _=>T.Mm rfl rfl rfl hc) ok hg ht he I2 T st2 f2 rd ?_;intro D C H' s' m J hn hC q;obtain⟨c0,c1,_,c3,c4,c5⟩:=hC;exact⟨m,hn,λh' sb=>⟨.ref D,H',J.turned (t':=s'.toks) (λb o hb e=>(sb.2 b hb).trans e) c0 c1 c3 c4 c5,rfl,q⟩⟩
theorem jA{i:Nat}{y:Str}{py spos:Pos}(hN:X.N.Nodup)(hy:X.N[i]? = some y)(hly:Loc X.env.scope y)(hc:X.calm=true)(ok:cv X N' scope cl src)(hi:PI X tgt iter wi)
  (hg:∀C s₀ H₀ fp pins,PG (fu X N' scope cl C s₀ H₀ fp pins) tgt g) (ht:∀C s₀ H₀ fp pins,sy (fu X N' scope cl C s₀ H₀ fp pins) ifs tt) (he:∀C s₀ H₀ fp pins,PE (fu X N' scope cl C s₀ H₀ fp pins) elt te)
  (hsw:swapsWith (.ListComp elt [⟨tgt,iter,ifs,0⟩] scope pos) (some (.Name y py)) spos.line X.env=pure true:=by rfl)
  (hs:∀x,foldedSetIterable iter X.env x=pure x:=by intro _;rfl) (hf:X.fn y=true\/X.env.scope.names.lookup y=some .local:=by first | exact .inl rfl | exact .inr rfl | assumption) :
  PS X (.Assign [.Name y py] (.ListComp elt [⟨tgt,iter,ifs,0⟩] scope pos) spos) (lG (km src wi g tt te) (iZ i)):=by
 intro pins s σ H D0 I h;rw[exec_Assign_Name_used _ _ _ _ hsw];refine wg (wpAny_standAt (wg ?_))
 show wq _ X.A (do let _ <- comprehension (.ListComp elt [⟨tgt,iter,ifs,0⟩] scope pos) scope X.env _ (newList []) false (eval iter X.env) (some (assign (.Name y py) X.env))) _ _ s
 refine wg (WF (wpAny_comprehension_free (Q:=λ_ s'=>SP X pins D0 .next s') rfl hs ok.lI.lI ok.kind ok.names (aQ (hi pins s σ H _ I h) λv s1 h1=>aQ h1 λitv s2 h2=>?_))
  (λ_ s' hq=>wt (wt hq)) λ_ _ e=>e)
 obtain⟨it,fp,tn,J,H2,e,I2,T,st2,f2,rd⟩:=h2;subst e;refine KZ (RQ:=λD H'=>iZ i (.ref D) σ H' D0.nx) (RR:=λacc C=>compPost (model X.prog X.w) X.A X.xe (some (assign (.Name y py) X.env)) (λ_ s'=>SP X pins D0 .next s') acc C) (λ_ _ _=>T.Mm rfl rfl rfl hc) ok hg ht he I2 T st2 f2 rd ?_;intro D C H' s' m J hn hC q;obtain⟨c0,c1,_,c3,c4,c5⟩:=hC
 show wq _ _ (assign (.Name y py) X.env (.ref D)) _ _ s'
 refine wpAny_assign_Name (O1 J hN hy hly (v:=.ref D) rfl (λs'' J2 ⟨a,sb,ha⟩=>?_) hf)
 have hCa:C≠a:=by
  rcases ha with z | z
  ·rw[z];exact c1
  ·exact(c4 y a z).symm
 exact⟨m,hn.sameBut sb hCa,λh' sb'=>⟨_,H',J2.turned (t':=s''.toks) (λb o hb e=>(sb'.2 b hb).trans e) c0 c1 c3 c4 c5,q⟩⟩
end
variable{T b:we}
abbrev Uj(h B:wM)(e:we)(cls:wf):Prop :=
 ∃oe vs,h.get? e=some oe/\oe.cls=cls/\oe.data=.fields vs/\vs[1]? = some .none/\vs[2]? = some .none/\oe.dict=none/\B.get? e=none
abbrev R6(h B:wM)(e:we)(cls fl:wf):Prop :=
 ∃oe vs T oT ts,h.get? e=some oe/\oe.cls=cls/\oe.data=.fields vs/\vs[1]? = some (.ref T)/\vs[2]? = some .none/\oe.dict=none/\B.get? e=none/\B.get? T=none/\T≠e/\h.get? T=some oT/\oT.data=.fields ts/\ts[3]? = some fl
structure fm(B:wM)(l:List Env)(e:we)(cls fl:wf)(h:wM):Prop where
 st:B.StaysIn h
 fr:h.FunFrames B l
 tr:R6 h B e cls fl
theorem zst{f:Array wf->Array wf}(o:Obj):(qS f o).dict=o.dict:=by
 obtain⟨c,d,dt,sl⟩:=o;cases dt<;>rfl
theorem lK{h:wM}{f:Obj->Obj}(n:b≠T):(h.update T f).get? b=h.get? b:=qR _ _ (Wt n)
theorem nq{h:wM}{oT o:Obj}{ts:Array wf}(hT:h.get? T=some oT)(dT:oT.data=.fields ts)(hb:h.get? b=some o)(hn:∀vs,o.data≠.fields vs):b≠T:=by
 rintro rfl;rw[hT]at hb;cases hb;exact hn _ dT
theorem Bq{B:wM}{o:Obj}(n:B.get? T=none)(q:B.get? b=some o):b≠T:=by
 rintro rfl;rw[n]at q;cases q
section
variable{M:Model}{A:w9}{E:wf->wl->Prop}{s:wl}{B:wM}{l outer:List Env}{env:Env}{L e:we}{cls fl:wf}{Q:Unit->wl->Prop}
theorem fm.land(F:fm B l e cls fl s.heap)(k:∀h',fm B l e cls .none h'->s.heap.UpToSlots h'->Q () {s with heap:=h'}):wq M A (setFlight (.ref e) none) Q E s:=by
 obtain⟨st,fr,oe,vs,T,oT,ts,he,hc,hd,h1,h2,hdi,be,bT,ne,hT,dT,h3⟩:=F;have sz:3<ts.size:=(WU.mp h3).1;unfold setFlight;refine wg (vD he hd h1 ?_);rw[if_pos (by simp)];have at3:∀b,b≠T->(s.heap.update T (qS (·.setIfInBounds 3 Value.none))).get? b=s.heap.get? b:=λb n=>lK n
 have tr:R6 (s.heap.update T (qS (·.setIfInBounds 3 Value.none))) B e cls .none :=
  ⟨oe,vs,T,qS (·.setIfInBounds 3 Value.none) oT,ts.setIfInBounds 3 Value.none,(at3 e ne.symm).trans he,hc,hd,h1,h2,hdi,be,bT,ne,
   V0 _ hT (V6 (VT dT _)),VT dT _,by simp[sz]⟩
 refine wpAny_setField hT dT sz (k _ ⟨λb o q=>(at3 b (Bq bT q)).trans (st b o q),fr.of_keeps λb o hb hn=>⟨o,(at3 b (nq hT dT hb hn)).trans hb,rfl⟩,tr⟩ λb o hb hn=>⟨o.slots,(at3 b (nq hT dT hb hn)).trans hb⟩)
theorem O9{oe:Obj}{vs:Array wf}{head:wf}{had:Bool}(hfr:A.frames=some (env::outer))(hf:env.frame=some L)(st:B.StaysIn s.heap)(fr:s.heap.FunFrames B (env::outer))(he:s.heap.get? e=some oe)
  (hd:oe.data=.fields vs) (sz:1<vs.size) (h2:vs[2]? = some .none) (hdi:oe.dict=none) (be:B.get? e=none) (k:∀h',fm B (env::outer) e oe.cls (Vc L) h'->s.heap.UpToSlots h'->Q () {s with heap:=h'}) :
  wq M A (do let a <- frameOf env;let pl <- entryPlaceOf L had;let b <- xN head a .none (Vc L) .none pl;setField (.ref e) 1 b) Q E s:=by
 have nfr:e ∉ (env::outer).filterMap (·.frame):=λz=>by
  obtain⟨_,o,ho,hnf⟩:=fr.mem z;rw[he]at ho;cases ho;exact hnf vs hd
 refine wg (wpAny_frameOf_fun hfr fr hf λg sg=>wg (wpAny_entryPlaceOf λpl hpl=>?_));unfold xN newFields;refine wg (WI ?_ (hpl.sizeOk5 _ _ _ _ _));have eg:g.get? e=some oe:=(sg.2.1 e nfr).trans he
 have stg:B.StaysIn g:=λb o q=>by
  rw[sg.2.1 b λz=>?_]
  ·exact st b o q
  ·rw[(fr.mem z).1]at q;cases q
 generalize hob:({cls:=.type "traceback",data:=.fields ([head,.ref L,.none,Vc L,.none]++(if pl.isEmpty then vn 6 Value.none else pl)).toArray} : Obj)=tb;have dtb:tb.data=.fields ([head,.ref L,.none,Vc L,.none]++(if pl.isEmpty then vn 6 Value.none else pl)).toArray:=by rw[<- hob]
 have ftb:tb.isFreed=false:=V6 dtb;have e2:=wn (h:=g) tb eg;have neT:g.objs.size≠e:=vv (wA eg)
 have at3:∀b o,b≠e->g.get? b=some o->((g.push tb).update e (qS (·.setIfInBounds 1 (.ref g.objs.size)))).get? b=some o:=λb o n q=>by
  rw[lK n];exact wn _ q
 refine wpAny_setField e2 hd sz (k _ ?_ ?_)
 ·have d3:=VT hd (·.setIfInBounds 1 (Value.ref g.objs.size))
  refine⟨λb o q=>at3 b o (Bq be q) (stg b o q),fr.of_keeps λb o hb hn=>?_,_,_,g.objs.size,tb,_,V0 _ e2 (V6 d3),Xq _ _,d3,by simp[sz],?_,?_,be,stg.fresh,neT,?_,dtb,?_⟩
  ·obtain⟨sl,q⟩:=sg.2.2 b o hb
   exact⟨_,at3 b _ (nq he hd hb hn) q,rfl⟩
  ·rw[Array.getElem?_setIfInBounds_ne (by decide)];exact h2
  ·exact(zst oe).trans hdi
  ·rw[lK neT];exact wS _ ftb
  ·first | (simp;done) | (rcases hpl with rfl | ⟨_,_,_,_,_,_,_,rfl⟩<;>simp)
 ·exact λb o hb hn=>by
   obtain⟨sl,q⟩:=sg.2.2 b o hb;exact⟨sl,at3 b _ (nq he hd hb hn) q⟩
theorem zwO(hfr:A.frames=some (env::outer))(hf:env.frame=some L)(st:B.StaysIn s.heap)(fr:s.heap.FunFrames B (env::outer))(t:Uj s.heap B e cls)
  (k:∀h',fm B (env::outer) e cls (Vc L) h'->s.heap.UpToSlots h'->Q () {s with heap:=h'}):wq M A (noteFrame (.ref e) env) Q E s:=by
 obtain⟨oe,vs,he,hc,hd,h1,h2,hdi,be⟩:=t;subst hc;unfold noteFrame;simp only[hf];refine wg (vD he hd h1 ?_);rw[if_neg (by decide)];exact O9 hfr hf st fr he hd (WU.mp h1).1 h2 hdi be k
theorem fm.note(F:fm B (env::outer) e cls .none s.heap)(hfr:A.frames=some (env::outer))(hf:env.frame=some L)
  (k:∀h',fm B (env::outer) e cls (Vc L) h'->s.heap.UpToSlots h'->Q () {s with heap:=h'}):wq M A (noteFrame (.ref e) env) Q E s:=by
 obtain⟨st,fr,oe,vs,T,oT,ts,he,hc,hd,h1,h2,hdi,be,bT,ne,hT,dT,h3⟩:=F;subst hc;unfold noteFrame;simp only[hf];refine wg (vD he hd h1 ?_);rw[if_pos (by simp)];refine wg (vD hT dT h3 ?_);rw[if_neg (by simp[Vc])];refine wg (wpAny_setField hT dT (WU.mp h3).1 ?_);refine O9 hfr hf (λb o q=>?_) (fr.of_keeps λb o hb hn=>⟨o,?_,rfl⟩) ?_ hd (WU.mp h1).1 h2 hdi be λh' F' sm=>k h' F' λb o hb hn=>sm b o ?_ hn
 ·show(xk _ _ _).get? b=_
  rw[lK (Bq bT q)];exact st b o q
 ·show(xk _ _ _).get? b=_
  rw[lK (nq hT dT hb hn)];exact hb
 ·show(xk _ _ _).get? e=_
  rw[lK ne.symm];exact he
 ·show(xk _ _ _).get? b=_
  rw[lK (nq hT dT hb hn)];exact hb
theorem zvb(hfr:A.frames=some (env::outer))(hf:env.frame=some L)(st:B.StaysIn s.heap)(fr:s.heap.FunFrames B (env::outer))(t:Uj s.heap B e cls)
  (k:∀h',fm B outer e cls .none h'->s.heap.UpToSlots h'->Q () {s with heap:=h'}):wq M A (leaving env (.ref e)) Q E s:=by
 unfold leaving;refine wg (zwO hfr hf st fr t λh1 F1 s1=>fm.land F1 λh2 F2 s2=>k h2 ⟨F2.st,F2.fr.2.2,F2.tr⟩ (s1.trans s2))
theorem fm.leave(F:fm B (env::outer) e cls .none s.heap)(hfr:A.frames=some (env::outer))(hf:env.frame=some L)
  (k:∀h',fm B outer e cls .none h'->s.heap.UpToSlots h'->Q () {s with heap:=h'}):wq M A (leaving env (.ref e)) Q E s:=by
 unfold leaving;refine wg (F.note hfr hf λh1 F1 s1=>fm.land F1 λh2 F2 s2=>k h2 ⟨F2.st,F2.fr.2.2,F2.tr⟩ (s1.trans s2))
end
theorem dS.there{P:wI}{w:wO}{H:Hp}{h:wM}{a:we}{o:HO}(x:dS P w H h a o):∃u,h.get? a=some u:=by
 cases o with
 | lst xs=>obtain⟨_,_,_,_,e⟩:=x;exact⟨_,e⟩
 | tup xs=>obtain⟨_,_,_,_,e,_⟩:=x;exact⟨_,e⟩
 | dK kvs=>obtain⟨_,_,_,_,o,_,_,e,_⟩:=x;exact⟨_,e⟩
 | dT kvs=>obtain⟨_,_,_,_,o,_,_,e,_⟩:=x;exact⟨_,e⟩
 | set S n=>obtain⟨o,_,_,_,e,_⟩:=x;exact⟨_,e⟩
 | ins C dx fs=>obtain⟨_,_,_,e,_⟩:=x;exact⟨_,e⟩
 | own y=>exact x
 | xd fs=>obtain⟨_,⟨_,_,_,e,_⟩,_⟩:=x;exact⟨_,e⟩
 | y8 lo hi=>obtain⟨_,_,_,e⟩:=x;exact⟨_,e⟩
 | gz ob u=>obtain⟨e,_⟩:=x;exact⟨_,e⟩
 | kF ps=>exact⟨_,x⟩
 | met f y=>exact⟨_,x⟩
 | ext φ=>obtain⟨_,e,_⟩:=x;exact e
structure oH(B:wM)(fs:List we)(H H':Hp)(h:wM):Prop where
 jb:∀a o,H' a=some o->∃u,B.get? a=some u
 old:∀b o,h.get? b=some o->H b=none->b ∉ fs->B.get? b=some o
 pT:∀b o,h.get? b=some o->b ∉ fs->∃u,B.get? b=some u
def fe(P:wI)(w:wO):fW:=λouter H s E e s'=>∃(ex:we)(C:wf)(H':Hp)(B:wM),e=.ref ex/\s'.os=s.os/\AllBare s'.gens/\Un (dB outer) [] H H' s.heap s'.heap/\dE P w H' s'.heap /\
 fm B outer ex C .none s'.heap/\oH B (dB outer) H H' s.heap/\E C none H'
section
variable{B h h1 h':wM}{fs:List we}{H H':Hp}{P:wI}{w:wO}
theorem oH.un(ov:oH B fs H H' h)(un:Un fs [] H H' h h1)(hfs:∀b∈fs,H b=none /\ ∃o,h.get? b=some o /\ ∀vs,o.data≠.fields vs)(st:B.StaysIn h')(sm:h1.UpToSlots h'):Un fs [] H H' h h':=by
 have slot:∀b o,h.get? b=some o->b∈fs->∃sl,h'.get? b=some {o with slots:=sl}:=λb o e hb=>by
  obtain⟨n,o',ho',nr⟩:=hfs b hb;rw[e]at ho';cases ho';obtain⟨sl,e1⟩:=un.any e n (by simp);obtain⟨sl2,e2⟩:=sm b _ e1 nr;exact⟨sl2,e2⟩
 refine⟨λb o e n nf _=>st b o (ov.old b o e n nf),λb o e _ hb _=>slot b o e hb,un.free,λb o e _=>?_,un.gJ,un.gf,un.gK⟩
 by_cases hb:b∈fs
 ·obtain⟨sl,e1⟩:=slot b o e hb
  exact⟨_,e1⟩
 ·obtain⟨u,e1⟩:=ov.pT b o e hb
  exact⟨u,st b u e1⟩
theorem oH.aM(ov:oH B fs H H' h)(aM:dE P w H' h1)(st1:B.StaysIn h1)(st:B.StaysIn h'):dE P w H' h':=λa o e=>by
 refine(aM a o e).jq (λb u hb r=>?_) (λ_ z=>z) λ_ _ z=>z
 have:∃v,B.get? b=some v:=by
  rcases hb with rfl | hb
  ·exact ov.jb _ _ e
  ·exact ov.jb _ _ hb
 obtain⟨v,ev⟩:=this;have e2:=st1 b v ev;rw[r]at e2;cases e2;exact st b u ev
end
section
variable{X:Cx}{pins:List (we × Obj)}{σ : St}{H H':Hp}{s s':wl}{B:wM}{ex:we}{C:wf}{E:XK}{E':wf->wl->Prop}
theorem RH(I:Inv X pins σ H s)(hx:X.ex=[])(os:s'.os=s.os)(bare:AllBare s'.gens)(un:Un (dB X.stack) [] H H' s.heap s'.heap)(aM:dE X.prog X.w H' s'.heap)(stB:B.StaysIn s'.heap)(ov:oH B (dB X.stack) H H' s.heap)
  (q:E C none H') (fly:∀(Q:Unit->wl->Prop),(∀h',fm B X.outer ex C .none h'->s'.heap.UpToSlots h'->Q () {s' with heap:=h'})->wq (model X.prog X.w) X.A (leaving X.env (.ref ex)) Q E' s') :
  wq (model X.prog X.w) X.A (leaving X.env (.ref ex)) (λ_ s''=>fe X.prog X.w X.outer X.H₀ X.s₀ E (.ref ex) s'') E' s':=by
 have base:Un X.fs [] X.H₀ H X.s₀.heap s.heap:=by have:=I.base;rwa[hx]at this
 have nL:∀b o,X.s₀.heap.get? b=some o->b ∉ X.fs->b ∉ dB X.stack:=λb o e n z=>by
  rcases wR.mp (I.mQ b z)with r | r
  ·exact wT (wU (wA e) I.ok.above) r
  ·exact n r
 have old:∀b o,X.s₀.heap.get? b=some o->X.H₀ b=none->b ∉ X.fs->B.get? b=some o:=λb o e n nf =>
  ov.old b o (base.keep b o e n nf (by simp)) (base.free b o e n (by simp)) (nL b o e nf)
 have pT:∀b o,X.s₀.heap.get? b=some o->b ∉ X.fs->∃u,B.get? b=some u:=λb o e nf=>by
  obtain⟨o',e1⟩:=base.there b o e (by simp);exact ov.pT b o' e1 (nL b o e nf)
 refine fly _ λh' F sm=>⟨ex,C,H',B,rfl,os.trans I.os,bare,⟨λb o e n nf _=>F.st b o (old b o e n nf),λb o e n hb _=>?_,λb o e n _=>?_,λb o e _=>?_,λb xs e=>un.gJ b xs (base.gJ b xs e),
  λb o u e=>un.gf b o u (base.gf b o u e),λb ps e=>?_⟩,λa o e=>?_,F,⟨ov.jb,old,pT⟩,q⟩
 ·obtain⟨sl,e1⟩:=base.slot b o e n hb (by simp)
  obtain⟨sl',e2⟩:=un.any e1 (base.free b o e n (by simp)) (by simp);obtain⟨_,o',ho',nr⟩:=I.ok.fi.mem hb;rw[e]at ho';cases ho';obtain⟨sl2,e3⟩:=sm b _ e2 nr;exact⟨sl2,e3⟩
 ·obtain⟨o',e1⟩:=base.there b o e (by simp)
  exact un.free b o' e1 (base.free b o e n (by simp)) (by simp)
 ·by_cases hb:b∈X.fs
  ·obtain⟨_,o',ho',nr⟩:=I.ok.fi.mem hb
   rw[e]at ho';cases ho';have n:X.H₀ b=none:=I.ok.jt b hb;obtain⟨sl,e1⟩:=base.slot b o e n hb (by simp);obtain⟨sl',e2⟩:=un.any e1 (base.free b o e n (by simp)) (by simp);obtain⟨sl2,e3⟩:=sm b _ e2 nr;exact⟨_,e3⟩
  ·obtain⟨u,e1⟩:=pT b o e hb
   exact⟨u,F.st b u e1⟩
 ·obtain⟨m1,e1⟩:=base.gK b ps e
  obtain⟨m2,e2⟩:=un.gK b _ e1;exact⟨m1++m2,by rw[e2,xV]⟩
 ·refine(aM a o e).jq (λb u hb r=>?_) (λ_ z=>z) λ_ _ z=>z
  have:∃v,B.get? b=some v:=by
   rcases hb with rfl | hb
   ·exact ov.jb _ _ e
   ·exact ov.jb _ _ hb
  obtain⟨v,ev⟩:=this;have e2:=stB b v ev;rw[r]at e2;cases e2;exact F.st b u ev
theorem zwE{e:wf}(I:Inv X pins σ H s)(hx:X.ex=[])(hs:X.stack=X.env::X.outer)(hf:X.env.frame=some X.env.locals)(h:fe X.prog X.w X.stack H s E e s') :
  wq (model X.prog X.w) X.A (leaving X.env e) (λ_ s''=>fe X.prog X.w X.outer X.H₀ X.s₀ E e s'') E' s':=by
 obtain⟨ex,C,H',B,rfl,os,bare,un,aM,F,ov,q⟩:=h;rw[hs]at F;exact RH I hx os bare un aM F.st ov q λQ k=>F.leave (I.ok.frames.trans (congrArg some hs)) hf k
theorem zuU{h':wM}{vs:List wf}(I:Inv X pins σ H s)(hx:X.ex=[])(hs:X.stack=X.env::X.outer)(hf:X.env.frame=some X.env.locals)(m:ul s.heap h' ex C vs)(q:E C none H) :
  wq (model X.prog X.w) X.A (leaving X.env (.ref ex)) (λ_ s''=>fe X.prog X.w X.outer X.H₀ X.s₀ E (.ref ex) s'') E' {s with heap:=h'}:=by
 obtain⟨B,hB⟩:∃B,B=XY s.heap (dB X.stack):=⟨_,rfl⟩;have hin:∀env∈X.stack,∀b,env.frame=some b->b∈dB X.stack:=λenv he b hb=>Qm.mpr ⟨env,he,hb⟩
 have frB:s.heap.FunFrames B X.stack:=by rw[hB];exact PySem.W.funFrames_hide I.stack hin
 have getB:∀{b o},s.heap.get? b=some o->b ∉ dB X.stack->B.get? b=some o:=λe n=>by rw[hB];exact xJ _ e n
 have ofB:∀{b o},B.get? b=some o->s.heap.get? b=some o:=λr=>by rw[hB]at r;exact xU _ r
 have nfr:∀a o,H a=some o->a ∉ dB X.stack:=λa o e z=>by
  have:=I.sU a z;rw[e]at this;cases this
 obtain⟨t,he,_,_⟩:=m.there
 refine RH (B:=B) (s':={s with heap:=h'}) I hx rfl I.bare (Un.kept m.keeps) (I.aM.kept m.keeps) (λb o r=>m.keeps b o (ofB r))
  ⟨λa o e=>?_,λb o e _ nf=>getB e nf,λb o e nf=>⟨o,getB e nf⟩⟩ q λQ k=>?_
 ·obtain⟨u,e1⟩:=(I.aM a o e).there
  exact⟨u,getB e1 (nfr a o e)⟩
 ·rw[hs]at frB
  refine zvb (s:={s with heap:=h'}) (I.ok.frames.trans (congrArg some hs)) hf (λb o r=>m.keeps b o (ofB r)) (frB.of_keeps λb o hb _=>⟨o,m.keeps b o hb,rfl⟩) ⟨_,_,he,rfl,rfl,rfl,rfl,rfl,?_⟩ k;cases z:B.get? ex with
  | none=>rfl
  | some o =>
   have:=ofB z;rw[m.new]at this;cases this
end
variable{K:wa}{base:wM}{qual:Str}
theorem zN{P:wI}{w:wO}{mg:Str->Option wf}{N:List Str}{scope:Scope}{f:we}{cd:wf}{A:w9}{outer:List Env}{s:wl}{H:Hp}{E:XK} :
  nE (fe P w) (iP (fe P w) P w K mg base N qual scope f cd A outer s H E) E:=λpins σ H1 s1 e s' I h=>zwE I rfl rfl rfl h
def SO(X:Cx)(C:wf)(E:XK):Prop:=∀(pins:List (we × Obj))(σ : St)(H:Hp)(s:wl)(h':wM)(ex:we)(vs:List wf),Inv X pins σ H s->ul s.heap h' ex C vs->E C none H->X.xe (.ref ex) {s with heap:=h'}
theorem LO{P:wI}{w:wO}{mg:Str->Option wf}{N:List Str}{scope:Scope}{f:we}{cd C:wf}{A:w9}{outer:List Env}{s:wl}{H:Hp}{E:XK} :
  SO (iP (fe P w) P w K mg base N qual scope f cd A outer s H E) C E:=λpins σ H1 s1 h' ex vs I m q=>zuU I rfl rfl rfl m q
def pI:List wf:=[.type "ValueError",.type "Exception",.type "BaseException",.type "object"]
theorem zzV{h:wM}{C:we}{bmB:List wf}{newId:String}(X:K.In h)(q:VP K C bmB newId=true) :
  ∃bm N nm qn bs hd sn sub ab col dd k0 k1 k2 k3 k5 mN,h.get? C=some (excClassObj nm qn C N bs bm hd sn sub ab col dd k0 k1 k2 k3 k5 newId)/\h.Ns N mN/\mN "__init__"=none/\OwnTail h bmB bm:=by
 unfold VP at q
 split at q
 case h_2=>cases q
 rename_i dd cd sl ho
 split at q
 case h_2=>cases q
 rename_i C' bm k0 k1 k2 k3 n k5 hm hs;simp only[wY,beq_iff_eq,WO]at q;obtain⟨⟨⟨⟨⟨rfl,rfl⟩,hdel⟩,ht⟩,aM⟩,hni⟩:=q;obtain⟨nm,bs,mro,ns,qn,hd,sn,sub,ab,col,del⟩:=cd;dsimp only at hm hdel aM hni;subst hm hdel
 have e:sl = #[k0,k1,k2,k3,some (.builtin n),k5]:=by
  cases sl;simp only at hs;rw[hs]
 subst e;exact⟨bm,ns,nm,qn,bs,hd,sn,sub,ab,col,dd,k0,k1,k2,k3,k5,_,X _ _ ho,.of_isNs (PySem.W.isNs_of_in X aM),PySem.W.nsMap_none_of_in X aM hni,PySem.W.tail_of_in X ht⟩
section
variable{X:Cx}{x:Str}{C:we}{E:XK}{e:Expr}{es:List Expr}{t:TA}{np cpos pos:Pos}
def U2(C:wf)(E:XK)(t:TA):TS:=λ_ σ H=>t σ H λvs H1=>vs.length<=vc/\E C none H1
theorem Sl(q:VP X.K C pI "ValueError.__new__"=true)(hc:X.calm=true)(hg:Gl X x)(hm:X.mg x=some (.ref C))(Z:SO X (.ref C) E)(ha:PA X (e::es) t)(hdb:(x == ("__debug__" : Str))=false:=by decide)
  (he:vf (e::es) X.env=(false,eval e X.env)::vf es X.env:=by rfl) (hpl:(backTo cpos (vf es X.env)).any (·.1)=false:=by rfl) :
  PS X (.Raise (some (.Call (.Name x np) (e::es) [] cpos)) none pos) (U2 (.ref C) E t):=by
 intro pins s σ H D I h;obtain⟨bm,N,nm,qn,bs,hd,sn,sub,ab,col,dd,k0,k1,k2,k3,k5,mN,hC,hN,hni,T⟩:=zzV I.ok.mod.rS q
 refine wpAny_Raise_call_subU (C:=C) (nm:=nm) (q:=qn) (N:=N) (bs:=bs) (bm:=bm) (hdct:=hd) (sn:=sn) (sub:=sub) (ab:=ab) (col:=col) (dd:=dd) (k0:=k0) (k1:=k1) (k2:=k2) (k3:=k3) (k5:=k5)
  xC (by decide) xC (mN:=mN) (T.hasType (by decide)) (I.ok.hd hc) (by rw[he];show(false || (backTo cpos (vf es X.env)).any (·.1))=false;rw[hpl];rfl) hni (p8 I hg hm ⟨rfl,?_⟩ hdb)
 have ha':=ha cpos pins s σ H _ I h;rw[he]at ha' ⊢;refine xz (WF ha' (λus s2 ⟨vs,H2,I2,r,z,q2⟩=>⟨rfl,by rw[<- r.length];exact z,I2.bk _ _ hC,hN.keeps I2.bk,T.keeps I2.bk,λh' ex m=>Z pins σ H2 s2 h' ex us I2 m q2⟩) λ_ _ y=>y)
end
abbrev Cx.at(X:Cx)(pn:List (we × Obj))(E:wf->wl->Prop):Cx:={X with pn:=pn,xe:=E}
abbrev Cx.mS(X:Cx)(pn:List (we × Obj))(ex:we)(oe:Obj):Cx:={X with pn:=pn++[(ex,oe)],xe:=λ_ _=>False,A:=X.A.mark (some (.ref ex)),calm:=false}
section
variable{X:Cx}{pins pins':List (we × Obj)}{σ : St}{H:Hp}{s:wl}{ex:we}{oe:Obj}
theorem Inv.Zf(I:Inv X pins σ H s)(E:wf->wl->Prop):Inv (X.at (X.pn++pins) E) [] σ H s :=
 ⟨⟨I.ok.mod,I.ok.kind,I.ok.glob,I.ok.blt,I.ok.above,I.ok.inj,I.ok.has,I.ok.lq,I.ok.hd,I.ok.frames,I.ok.lT,I.ok.pV,I.ok.bs,I.ok.jl,I.ok.kD,I.ok.lJ,I.ok.fi,I.ok.jt⟩,I.os,I.bare,I.base,I.loc,I.cell,I.free,I.fv,
  λp hp=>I.pin p (by rw[vM]at hp;exact hp),I.aM,I.len⟩
theorem Inv.pj{E:wf->wl->Prop}(I:Inv (X.at (X.pn++pins) E) pins' σ H s):Inv X pins σ H s :=
 ⟨⟨I.ok.mod,I.ok.kind,I.ok.glob,I.ok.blt,I.ok.above,I.ok.inj,I.ok.has,I.ok.lq,I.ok.hd,I.ok.frames,I.ok.lT,I.ok.pV,I.ok.bs,I.ok.jl,I.ok.kD,I.ok.lJ,I.ok.fi,I.ok.jt⟩,I.os,I.bare,I.base,I.loc,I.cell,I.free,I.fv,
  λp hp=>I.pin p (WM _ hp),I.aM,I.len⟩
theorem Inv.Y2(I:Inv X pins σ H s)(he:s.heap.get? ex=some oe)(hn:H ex=none)(nl:ex≠X.env.locals)(nf:ex ∉ X.fs)(nc:∀v,oe.data≠.cell v):Inv (X.mS (X.pn++pins) ex oe) [] σ H s :=
 ⟨⟨I.ok.mod,I.ok.kind,I.ok.glob,I.ok.blt,I.ok.above,I.ok.inj,I.ok.has,I.ok.lq,λz=>Bool.noConfusion z,I.ok.frames,I.ok.lT,I.ok.pV,I.ok.bs,I.ok.jl,I.ok.kD,I.ok.lJ,I.ok.fi,I.ok.jt⟩,I.os,I.bare,I.base,I.loc,I.cell,I.free,I.fv,
  λp hp=>by
   rw[vM]at hp;rcases Wn.mp hp with z | z
   ·exact I.pin p z
   ·cases wX.mp z
    exact⟨he,hn,nl,nf,nc⟩,I.aM,I.len⟩
theorem Inv.tm(ok:X.Ok)(I:Inv (X.mS (X.pn++pins) ex oe) pins' σ H s):Inv X pins σ H s :=
 ⟨ok,I.os,I.bare,I.base,I.loc,I.cell,I.free,I.fv,λp hp=>I.pin p (WM _ (WM _ hp)),I.aM,I.len⟩
theorem Inv.gone{M:Model}{A:w9}{E:wf->wl->Prop}{Q:Unit->wl->Prop}{i:Nat}{n:Str}{hp:Pos}(I:Inv X pins σ H s)(hN:X.N.Nodup)(hi:X.N[i]? = some n)(hl:X.env.scope.names.lookup n=some .local)
  (k:∀s',Inv X pins (σ.set i none) H s'->Q () s'):wq M A (do bindName X.env n .none;unbindBehindTheSuite X.env n hp) Q E s:=by
 obtain⟨m,hn,hl'⟩:=id I.loc;have hcls:(X.env.scope.kind == .class || (X.env.scope.kind == .module&&X.env.locals != X.env.globals))=false:=by rw[I.ok.kind];rfl
 have lt:∀b o,X.s₀.heap.get? b=some o->b≠X.env.locals:=λb o e=>wT (wU (wA e) I.ok.above)
 refine wpAny_nameGoes_keeps hl hn hcls λh' v hn' hs=>k _ ⟨I.ok,I.os,I.bare,⟨λb o e z hb hx=>?_,λb o e z hb hx=>?_,I.base.free,λb o e hx=>?_,I.base.gJ,I.base.gf,I.base.gK⟩,⟨_,hn',λj y v' e1 e2 e3=>?_⟩,λy c e=>?_,I.free,I.fv,λp hp=>?_,λb ob e=>?_,?_⟩
 ·exact(hs.2 b (lt b o e)).trans (I.base.keep b o e z hb hx)
 ·obtain⟨sl,e1⟩:=I.base.slot b o e z hb hx
  exact⟨sl,(hs.2 b (lt b o e)).trans e1⟩
 ·obtain⟨o',e1⟩:=I.base.there b o e hx
  exact⟨o',(hs.2 b (lt b o e)).trans e1⟩
 ·have hj:j≠i:=λz=>by
   subst z;rw[WH]at e2
   split at e2
   ·split at e2<;>cases e2
   ·exact absurd rfl ‹_›
  rw[qW (Wt hj)]at e2;obtain⟨u',r',q⟩:=hl' j y v' e1 e2 e3;refine⟨u',r',?_⟩;rcases q with⟨k,e⟩ | ⟨k,c,e,z⟩
  ·refine .inl ⟨k,?_⟩
   have ne:y≠n:=λe=>hj (Gv hN e1 (e ▸ hi))
   simp[ne,e]
  ·exact .inr ⟨k,c,e,z.sameBut hs (I.jP y c e)⟩
 ·obtain⟨w',z⟩:=I.cell y c e
  exact⟨w',z.sameBut hs (I.jP y c e)⟩
 ·obtain⟨e,z,ne,nf,d⟩:=I.pin p hp
  exact⟨(hs.2 p.1 ne).trans e,z,ne,nf,d⟩
 ·refine(I.aM b ob e).jq (λc w' hc q=>(hs.2 c ?_).trans q) (λ_ q=>q) λ_ _ q=>q
  rintro rfl;have f:=I.free;rcases hc with hc | hc
  ·rw[hc,e]at f;cases f
  ·rw[hc]at f;cases f
 ·rw[Wo];exact I.len
end
def Pf(CX:fW)(X:Cx)(W:St->XK):Prop:=∀(pins:List (we × Obj))(σ : St)(H:Hp)(s:wl)(e:wf)(s':wl),Inv X pins σ H s->CX X.stack H s (W σ) e s'->X.xe e s'
def zp(sp:Sp)(W:St->XK)(t:TA):TE:=λσ H Q=>t σ H λvs H1=>sp vs H1 Q (W σ)
section
variable{X:Cx}{CX:fW}{k:Nat}{f:we}{fd:wy}{ps:List Str}{sp:Sp}{W:St->XK}{x:Str}{p pos:Pos}{e:Expr}{es:List Expr}{t:TA}
theorem Pg(F:aK X.prog X.w X.K X.mg X.base CX k f fd ps sp)(hr:eF k X.A)(hg:Gl X x)(hm:X.mg x=some (.ref f))(hk:qE X.K (.ref f)=true)(hb:ma X.K fd ps [])(hx:Pf CX X W)
  (ha:PA X (e::es) t) (hdb:(x == ("__debug__" : Str))=false:=by decide) (he:vf (e::es) X.env=(false,eval e X.env)::vf es X.env:=by rfl) (hpl:(backTo pos (vf es X.env)).any (·.1)=false:=by rfl) :
  PE X (.Call (.Name x p) (e::es) [] pos) (zp sp W t):=by
 intro pins s σ H Q I h;refine qD (p8 I hg hm ?_ hdb);refine xW (h₀:=X.base) I.ok.mod.rS hk (aQ (ha pos pins s σ H _ I h) λus s1 ⟨vs,H1,I1,r,q⟩=>⟨I1.dG,?_⟩) he hpl;have hl:us.length=ps.length:=by rw[<- r.length];exact F.len _ _ _ _ q
 have hbd:BindsTo s1 fd ⟨us,[]⟩ (ps.zip us):=by simpa using hb s1 us I1.dG (by simpa using hl)
 refine wpAny_call (codeAny_mono (F.run X.A X.stack s1 H1 ⟨us,[]⟩ us vs Q (W σ) hr I1.Ki hbd r q) λr s' hq=>?_);cases r with
 | error e=>exact hx pins σ H1 s1 e s' I1 hq
 | ok fl =>
  cases fl with
  | ret u=>exact I1.after hq
  | next=>exact WT hq
  | brk=>exact WT hq
  | cont=>exact WT hq
end
structure pH(C:wf)(oe:Obj):Prop where
 cls:oe.cls=C
 fld:∃vs,oe.data=.fields vs/\vs[2]? = some .none
 dict:oe.dict=none
section
variable{X:Cx}{x n:Str}{G:wf}{i:Nat}{b₀ : wZ}{body suite:List wZ}{np hpos pos:Pos}{tb:(St->XK)->TS}{th:we->wf->TS}
end
structure Hd(X:Cx)(ex:we)(C:wf)(oe:Obj):Prop where
 hd:X.A.handled=some (.ref ex)
 pn:(ex,oe)∈X.pn
 ob:pH C oe
section
variable{P:wI}{w:wO}{K:wa}{mg:Str->Option wf}{base:wM}
end
section
variable{X:Cx}{k:Nat}{f:we}{fd:wy}{ps:List Str}{sp:we->wf->Sp}{x:Str}{p pos:Pos}{e:Expr}{es:List Expr}{t:TA}{ex:we}{C:wf}{oe:Obj}
end
variable{scope:Scope}
def iH(cells:List (Str × we)):List (Str × WW)->List (Str × we)->List (Str × we)
 | [],acc=>acc
 | (n,k)::r,acc=>iH cells r (if(k == NameKind.free)=true then(n,(cells.lookup n).getD 0)::acc else acc)
theorem zl5{env:Env}(h:∀y∈scope.names,y.2=.free->∃c,env.cells.lookup y.1=some c):closureFor scope env=pure (iH env.cells scope.names []):=by
 unfold closureFor;generalize scope.names=names at h
 suffices g:∀(names:List (Str × WW))(acc:List (Str × we)),(∀y∈names,y.2=.free->∃c,env.cells.lookup y.1=some c) ->
     (forIn names acc λ(x:Str × WW)(r:List (Str × we))=>if(x.2 == NameKind.free)=true then do let c <- cellOf env x.1;pure (ForInStep.yield ((x.1,c)::r))else pure (ForInStep.yield r):Sem (List (Str × we)))=pure (iH env.cells names acc) by
   have:=g names [] h
   show(_ >>= pure)=_
   rw[bind_pure];exact this
 intro names
 induction names with
 | nil=>intro acc _;rfl
 | cons y r ih =>
   intro acc hy;obtain⟨n,k⟩:=y;rw[qp]
   by_cases e:(k == NameKind.free)=true
   . obtain⟨c,hc⟩:=hy (n,k) wJ (beq_iff_eq.mp e)
     have hcell:cellOf env n=pure c:=by
       unfold cellOf;rw[hc]
     simp only[e,if_true,hcell,pure_bind];rw[ih _ λz hz=>hy z (wB _ hz)]
     show _=pure (iH env.cells r _)
     simp only[e,if_true,hc,QP]
   . simp only[e,pure_bind]
     rw[if_neg (by simp),pure_bind];dsimp only;rw[ih _ λz hz=>hy z (wB _ hz)]
     show _=pure (iH env.cells r _)
     rw[if_neg e]
theorem RC{cells:List (Str × we)} : ∀(names:List (Str × WW))(acc:List (Str × we))(x:Str)(c:we),(∀y∈names,y.2=.free->∃c,cells.lookup y.1=some c)->(∀x c,acc.lookup x=some c->cells.lookup x=some c) ->
  (iH cells names acc).lookup x=some c->cells.lookup x=some c
 | [],acc,x,c,_,ha,h=>ha x c h
 | (n,k)::r,acc,x,c,hy,ha,h=>by
  unfold iH at h;refine RC r _ x c (λz hz=>hy z (wB _ hz)) (λx' c' h'=>?_) h
  split at h'
  ·rename_i e
   obtain⟨c0,hc0⟩:=hy (n,k) wJ (beq_iff_eq.mp e);rw[qb]at h'
   split at h'
   ·rename_i e2
    rw[beq_iff_eq.mp e2,hc0];rw[hc0]at h';exact h'
   ·exact ha x' c' h'
  ·exact ha x' c' h'
theorem OX{cells:List (Str × we)} : ∀(names:List (Str × WW))(acc:List (Str × we))(x:Str),(∃c,acc.lookup x=some c)->∃c,(iH cells names acc).lookup x=some c
 | [],acc,x,h=>h
 | (n,k)::r,acc,x,h=>by
  unfold iH;refine OX r _ x ?_
  split
  ·rw[qb]
   split
   ·exact⟨_,rfl⟩
   ·exact h
  ·exact h
theorem UC{cells:List (Str × we)} : ∀(names:List (Str × WW))(acc:List (Str × we))(x:Str),(x,NameKind.free)∈names->∃c,(iH cells names acc).lookup x=some c
 | [],acc,x,h=>nomatch h
 | (n,k)::r,acc,x,h=>by
  unfold iH;rcases wR.mp h with e | e
  ·cases e
   rw[if_pos (by decide)];refine OX r _ _ ?_;rw[qb];simp
  ·exact UC r _ x e
theorem TR(g:Str->WW->WW):∀(names:List (Str × WW))(x:Str),(names.map λy=>(y.1,g y.1 y.2)).lookup x=(names.lookup x).map (g x)
 | [],x=>rfl
 | (n,k)::r,x=>by
  rw[ve,qb,qb];dsimp only
  by_cases e:(x == n)=true
  ·have e':=beq_iff_eq.mp e
   subst e';simp
  ·rw[XT]at e
   simp only[e];exact TR g r x
def Az(env:Env)(x:Str)(k:WW):WW:=if(k == .free&&env.scope.kind == .function&&env.kindOf x == some .cell)=true then .cell else k
theorem MZ{env:Env}(x:Str):(relabel scope env).names.lookup x=(scope.names.lookup x).map (Az env x):=by
 rw[<- TR]
 show(scope.names.map _).lookup x=_
 congr 2
 funext ⟨n,k⟩
 dsimp only[Az]
 split<;>rfl
def RD(inner outer:List (Str × WW))(N N':List Str)(src:List (Option Nat)):Bool :=
 (inner.all λy=>(y.2 != .cell)&&(y.2 != .local || inner.lookup y.1 == some .local)&&(y.2 != .free || outer.lookup y.1 == some .cell)) &&
 (N'.length == src.length)&&((N'.zip src).all λp=>match p.2 with
  | none=>true
  | some j=>N[j]? == some p.1&&outer.lookup p.1 == some .cell&&inner.lookup p.1 == some .free)
theorem cv.by{X:Cx}{N':List Str}{src:List (Option Nat)}(hk:scope.kind=.function)(hc:RD scope.names X.env.scope.names X.N N' src=true)(hf:∀x,X.env.scope.names.lookup x=some .cell->∃c,X.env.cells.lookup x=some c:=by exact λx h=>DS h) :
  cv X N' scope (iH X.env.cells scope.names []) src:=by
 unfold RD at hc;simp only[wY,Wc,beq_iff_eq,Bool.or_eq_true,bne_iff_ne,ne_eq]at hc;obtain⟨⟨h1,h2⟩,h3⟩:=hc;have fr:∀y∈scope.names,y.2=.free->∃c,X.env.cells.lookup y.1=some c:=λy hy e=>hf _ (((h1 y hy).2).elim (λz=>absurd e z) id)
 have at3:∀(i:Nat)(x:Str)(j:Nat),N'[i]? = some x->src[i]? = some (some j)->X.N[j]? = some x/\X.env.scope.names.lookup x=some .cell/\scope.names.lookup x=some .free:=λi x j e1 e2=>by
  have m:(x,some j)∈N'.zip src:=by
   rw[List.mem_iff_getElem?];exact⟨i,by rw[List.getElem?_zip_eq_some];exact⟨e1,e2⟩⟩
  have:=h3 _ m;simp only[wY,beq_iff_eq]at this;exact⟨this.1.1,this.1.2,this.2⟩
 refine⟨hk,λy hy=>((h1 y hy).1).1,λy hy e=>(((h1 y hy).1).2).elim (λz=>absurd e z) id,⟨zl5 fr,λx c e=>RC _ _ x c fr (λ_ _ z=>by simp at z) e,λx e=>?_⟩,⟨h2,λi j x e1 e2=>⟨(at3 i x j e1 e2).1,(at3 i x j e1 e2).2.1⟩⟩,λi x e1 e2=>?_⟩
 ·rw[MZ]at e
  cases q:scope.names.lookup x with
  | none=>rw[q]at e;simp at e
  | some k =>
   have hm:=Va q
   have hk:k=.free:=by
    rw[q]at e;simp only[X8,qN,Az]at e;have nc:k≠.cell:=((h1 _ hm).1).1;rcases e with e | e
    ·split at e
     ·rename_i z;simp only[wY,beq_iff_eq]at z;exact z.1.1
     ·exact absurd e nc
    ·split at e
     ·cases e
     ·exact e
   subst hk;exact UC _ _ x hm
 ·obtain⟨o,ho⟩:∃o,src[i]? = some o:=by
   have:i<src.length:=by rw[<- h2];exact(W2.mp e1).1
   exact⟨src[i],by simp[this]⟩
  cases o with
  | none=>exact absurd ho e2
  | some j =>
   have:=(at3 i x j e1 ho).2.2;rw[MZ,this];simp only[X8,qN,Az]
   split
   ·exact .inl rfl
   ·exact .inr rfl
section
variable{prog:wI}{w:wO}{A:w9}{E:wf->wl->Prop}{s:wl}
end
section
variable{X:Cx}{ex:we}{C:wf}{oe:Obj}{pins:List (we × Obj)}{σ : St}{H:Hp}{s:wl}{pos:Pos}
variable{tg l:Expr}{tl:TE}
variable{N':List Str}{scope:Scope}{cl:List (Str × we)}{src:List (Option Nat)}{elt tgt iter:Expr}{ifs:List Expr}{wi:TI}{g:TG}{tt:TT}{te:TE}
end
variable{K:wa}{C x:we}
structure gI(K:wa)(C:we):Prop where
 ga:xv K (.ref C) "__getattribute__"=some (some (.builtin "BaseException.__getattribute__"))
 gh:xv K (.ref C) "__getattr__"=some none
 cl:(xI K C).isSome=true
 at_:xv K (.ref C) "__class__"=some (some (.builtin "object.__class__"))
 gt:PySem.W.specialIn K (.builtin "object.__class__") "__get__"=some (some (.builtin "getset_descriptor.__get__"))
 tk:PySem.W.takesIn K (.builtin "object.__class__")=some true
 mr:uB K C (.type "object")=some true
 be:uB K C (.type "BaseException")=some true
theorem zra(c:gI K C):X9 K C none "__class__"=some (.bind (.builtin "getset_descriptor.__get__") (.builtin "object.__class__")):=by
 obtain⟨cd,hc⟩:=VD.mp c.cl;unfold X9;rw[hc,XU,c.at_,XU];simp[c.gt,c.tk]
theorem zw6{M:Model}{A:w9}{E:wf->wl->Prop}{s:wl}{nm:wf}{Q:Unit->wl->Prop}(L0:Qw M s.heap (typeOf (.ref x)) (.ref C))(L1:Qw M s.heap (isSubtype (.ref C) (.type "BaseException")) true)
  (hq:Q () s):wq M A (checkBuiltinCall "BaseException.__getattribute__" ⟨[.ref x,nm],[]⟩) Q E s:=by
 have hk:builtinKind "BaseException.__getattribute__"=some .slot:=by decide +kernel
 have hp:splitId "BaseException.__getattribute__"=some ("BaseException","__getattribute__"):=by decide +kernel
 have ha:=F.args_bexc_ga (.ref x) nm;have LI:Qw M s.heap (isInstance (.ref x) (.type "BaseException")) true:=L0.andThen L1;simp only[checkBuiltinCall,hk,hp];refine wg (LI.at ?_)
 repeat(first | exact hq | assumption | wp_step)
theorem zw3{prog:wI}{w:wO}{A:w9}{E:wf->wl->Prop}{s:wl}{ox:Obj}{Q:Option wf->wl->Prop}(c:gI K C)(X:K.In s.heap)(I:xw s.heap x ox C none)
  (k:Q (some (.ref C)) {s with toks:=s.toks+1}):wq (model prog w) A (getAttr? (.ref x) "__class__") Q E s:=by
 obtain⟨hh,g,d,t,os⟩:=s;have L0:=I.type (M:=model prog w);have L1:=xD (M:=model prog w) X c.ga;have L2:=xD (M:=model prog w) X c.gh;have L3:=PySem.W.looks_mroIn (M:=model prog w) X c.be;have LF:=PySem.W.looks_find (M:=model prog w) X I (zra c);unfold getAttr? getAttrBy? getAttrBy;refine wg (wpAny_mkText (wg (WV (WA (wg (L0.at (wg (L1.at ?_))))))))
 show wq _ _ (getAttrByItsOwn _ _ _ _ _ _) _ _ _
 unfold getAttrByItsOwn
 show wq _ _ (typeLookup (.ref C) "__getattr__" >>= _) _ _ _
 refine wg (L2.at ?_);refine wg (WV (WA ?_))
 show wq _ _ (boundAndCalled _ _ _) _ _ _
 unfold boundAndCalled;rw[Qp.ga.bind];refine wg (wt ?_)
 show wq _ _ (call (.builtin "BaseException.__getattribute__") [.ref x,.str "__class__" t]) _ _ _
 refine wpAny_call (codeAny_call_builtin Qp.ga.plain F.entry_bexc_ga (zw6 L0 L3 ?_));unfold Builtin.«object.__getattribute__»;refine wg (wt ?_);refine wg (wt ?_);refine wg (L0.at (wg (LF.at ?_)))
 show wq _ _ (holding [_] (call (.builtin "getset_descriptor.__get__") [.builtin "object.__class__",.ref x,.ref C]) >>= ret) _ _ _
 refine wg (WA (wpAny_call (PySem.W.class_get (ox:=ox) (od:=none) X I c.mr ?_)));exact wt (wt (wt k))
theorem BE{ox:Obj}(c:gI K C):PySem.W.KitX K (.ref x) (.ref C) (λh=>xw h x ox C none) where
 ty:=λ_ _ _ I=>I.type
 it:=λ_ _ X _=>by
  obtain⟨cd,hc⟩:=VD.mp c.cl;unfold xI at hc
  split at hc
  ·rename_i ho
   intro A' Q' E' s' k q;unfold isType loadHead;exact wg (wpAny_loadPart (k _ _ (X _ _ ho)) (wt q))
  ·cases hc
 ne:=λh tp dd its n sl X htp=>by
  obtain⟨cd,hc⟩:=VD.mp c.cl;refine VY.mpr λq=>?_
  have e:C=tp:=Value.ref.inj (beq_iff_eq.mp q);subst e;unfold xI at hc
  split at hc
  ·rename_i ho
   have z:=(X _ _ ho).symm.trans htp;cases z
  ·cases hc
 ca:=λ{_ _ _ _ _ s} X I k=>zw3 c X I k
def zc(K:wa)(g:TG)(tt:TT)(te:TE)(src:List (Option Nat))(σ : St)(x:V)(H1:Hp)(Q:VK):Prop :=
 ∃a,x=.ref a/\(∃xs,aG K H1 a xs) /\ ∀D,H1 D=none->j8 g tt te (jw K a) D (dP src σ) (upd H1 D (.lst [])) (λH'=>Q (.ref D) H')
def uQ(K:wa)(g:TG)(tt:TT)(te:TE)(src:List (Option Nat))(σ : St)(x:V)(H1:Hp)(Q:VK):Prop :=
 ∃a,x=.ref a/\(∃xs,aV K H1 a xs) /\ ∀D,H1 D=none->j8 g tt te (ju K a) D (dP src σ) (upd H1 D (.lst [])) (λH'=>Q (.ref D) H')
def DR(g:TG)(tt:TT)(te:TE)(src:List (Option Nat))(σ : St)(vs:List V)(H1:Hp)(Q:VK):Prop :=
 ∃j:Int,vs=[.int j] /\ -(2^62)<=j/\j<2^62 /\ ∀D,H1 D=none->j8 g tt te (gG 0 j.toNat) D (dP src σ) (upd H1 D (.lst [])) (λH'=>Q (.ref D) H')
section
variable{K:wa}{g:TG}{tt:TT}{te ta:TE}{tA:TA}{src:List (Option Nat)}{σ : St}{H:Hp}{Q:VK}{a:we}{xs:List V}{n:Int}
theorem zxN(h:ta σ H λx H1=>zc K g tt te src σ x H1 Q):km src (EV K ta) g tt te σ H Q:=h
theorem zyj(h:ta σ H λx H1=>uQ K g tt te src σ x H1 Q):km src (LR K ta) g tt te σ H Q:=h
theorem zzj(h:tA σ H λvs H1=>DR g tt te src σ vs H1 Q):km src (DX tA) g tt te σ H Q:=h
def rf(Pv:we->Nat->List V->St->Hp->Prop)(D:we)(i:Nat)(σ3:St)(y:V)(H5:Hp):Prop :=
 ∃ys,H5 D=some (.lst ys)/\ys.length<vc /\ ∃ys',Pv D (i+1) ys' σ3 (upd H5 D (.lst (ys++[y])))
def iu(Pv:we->Nat->List V->St->Hp->Prop)(g:TG)(tt:TT)(te:TE)(D:we)(i:Nat)(x:V)(σ':St)(H':Hp):Prop :=
 g x σ' H' λσ3 H3=>tt σ3 H3 λok H4=>if ok=true then te σ3 H4 λy H5=>rf Pv D i σ3 y H5 else ∃ys',Pv D (i+1) ys' σ3 H4
theorem iO{Pv:we->Nat->List V->St->Hp->Prop}{D:we}{i:Nat}{σ3:St}{y:V}{H5:Hp}{ys:List V}(h:H5 D=some (.lst ys))(z:ys.length<=1000)(q:∀H6,Exc D H5 H6->H6 D=some (.lst (ys++[y]))->Pv D (i+1) (ys++[y]) σ3 H6):rf Pv D i σ3 y H5 :=
 ⟨ys,h,gj z,_,q _ (Exc.upd D H5 _) cW⟩
theorem Es{J:It}{N:Nat}{D:we}{σ0:St}{H0:Hp}{R:Hp->Prop}(Pv:we->Nat->List V->St->Hp->Prop)(item:Nat->V->Prop)(h0:Pv D 0 [] σ0 H0)
  (stop:∀i ys σ' H',Pv D i ys σ' H'->N<=i->J.stop i H') (go:∀i ys σ' H',Pv D i ys σ' H'->i<N->J.go i H') (fC:∀i ys σ' H' x H2,Pv D i ys σ' H'->J.fC i H' x H2->H2=H'/\item i x)
  (hs:∀i x ys σ' H',i<N->item i x->Pv D i ys σ' H'->iu Pv g tt te D i x σ' H') (hd:∀ys σ' H',Pv D N ys σ' H'->R H'):j8 g tt te J D σ0 H0 R:=by
 refine⟨λi m σ' H'=>i+m=N /\ ∃ys,Pv D i ys σ' H',⟨N,by lia,[],h0⟩,?_⟩;rintro i m σ' H' ⟨him,ys,hp⟩
 by_cases hm:m=0
 ·subst hm
  have e:i=N:=by lia
  subst e;exact .inl ⟨stop _ _ _ _ hp (wp _),hd _ _ _ hp⟩
 ·refine .inr ⟨go _ _ _ _ hp (by lia),λσ2 H2=>∃ys,Pv D (i+1) ys σ2 H2,λσ2 H2 h=>⟨m-1,by lia,by lia,h⟩,λx H2 hy2=>?_⟩
  obtain⟨e,hit⟩:=fC _ _ _ _ _ _ hp hy2;subst e;exact hs i x ys σ' H2 (by lia) hit hp
theorem nu(hx:aG K H a xs)(Pv:we->Nat->List V->St->Hp->Prop)(h0:∀D H',H D=none->ah H H'->H' D=some (.lst [])->Pv D 0 [] (dP src σ) H')(hl:∀D i ys σ' H',Pv D i ys σ' H'->aG K H' a xs)
  (hs:∀D i x ys σ' H',xs[i]? = some x->Pv D i ys σ' H'->iu Pv g tt te D i x σ' H') (hd:∀D ys σ' H',Pv D xs.length ys σ' H'->Q (.ref D) H'):zc K g tt te src σ (.ref a) H Q:=by
 refine⟨a,rfl,⟨xs,hx⟩,λD hD=>Es (N:=xs.length) Pv (λi x=>xs[i]? = some x) (h0 D _ hD (ah.upd hD) cW) (λi ys σ' H' hp hi=>⟨xs,hl _ _ _ _ _ hp,hi⟩) (λi ys σ' H' hp hi=>?_) (λi ys σ' H' x H2 hp hy=>?_)
  (λi x ys σ' H' _ hit hp=>hs D i x ys σ' H' hit hp) (hd D)⟩
 ·exact⟨xs,xs[i],hl _ _ _ _ _ hp,by simp[hi]⟩
 ·obtain⟨e,hy⟩:=hy
  exact⟨e,hy xs (hl _ _ _ _ _ hp)⟩
theorem Zi(hx:aV K H a xs)(Pv:we->Nat->List V->St->Hp->Prop)(h0:∀D H',H D=none->ah H H'->H' D=some (.lst [])->Pv D 0 [] (dP src σ) H')(hl:∀D i ys σ' H',Pv D i ys σ' H'->aV K H' a xs)
  (hs:∀D i x ys σ' H',xs[i]? = some x->Pv D i ys σ' H'->iu Pv g tt te D i x σ' H') (hd:∀D ys σ' H',Pv D xs.length ys σ' H'->Q (.ref D) H'):uQ K g tt te src σ (.ref a) H Q:=by
 refine⟨a,rfl,⟨xs,hx⟩,λD hD=>Es (N:=xs.length) Pv (λi x=>xs[i]? = some x) (h0 D _ hD (ah.upd hD) cW) (λi ys σ' H' hp hi=>⟨xs,hl _ _ _ _ _ hp,hi⟩) (λi ys σ' H' hp hi=>?_) (λi ys σ' H' x H2 hp hy=>?_)
  (λi x ys σ' H' _ hit hp=>hs D i x ys σ' H' hit hp) (hd D)⟩
 ·exact⟨xs,xs[i],hl _ _ _ _ _ hp,by simp[hi]⟩
 ·obtain⟨e,hy⟩:=hy
  exact⟨e,hy xs (hl _ _ _ _ _ hp)⟩
theorem uY(h0' : -1000000000<=n)(h1:n<1000000000)(Pv:we->Nat->List V->St->Hp->Prop)(h0:∀D H',H D=none->ah H H'->H' D=some (.lst [])->Pv D 0 [] (dP src σ) H')
  (hs:∀D (i:Nat) ys σ' H',i<n.toNat->Pv D i ys σ' H'->iu Pv g tt te D i (.int (i:Int)) σ' H') (hd:∀D ys σ' H',Pv D n.toNat ys σ' H'->Q (.ref D) H'):DR g tt te src σ [.int n] H Q:=by
 refine⟨n,rfl,by lia,by lia,λD hD=>Es (N:=n.toNat) Pv (λi x=>x=.int (i:Int)) (h0 D _ hD (ah.upd hD) cW) (λi ys σ' H' hp hi=>hi) (λi ys σ' H' hp hi=>hi) (λi ys σ' H' x H2 hp hy=>?_)
  (λi x ys σ' H' hi hit hp=>?_) (hd D)⟩
 ·obtain⟨e,hy⟩:=hy
  exact⟨e,by rw[hy,Int.zero_add]⟩
 ·subst hit
  exact hs D i ys σ' H' hi hp
end
structure yi(u' u:TS):Prop where
 e:u'=u
theorem zzQ{t u:TS}{D:cN}{σ : St}{H:Hp}(h:∀u',yi u' u->t {D with nx:=u' D} σ H):Dj t u D σ H:=h u ⟨rfl⟩
theorem yi.go{u' u:TS}{D:cN}{σ : St}{H:Hp}(e:yi u' u)(h:u D σ H):u' D σ H:=by rw[e.e];exact h
theorem Zo:vO "ValueError"=some (.type "ValueError"):=by decide +kernel
theorem Ou{P:wI}{w:wO}{X:Cx} : nE (fe P w) X E0:=λ_ _ _ _ _ _ _ h=>by
 obtain⟨_,_,_,_,_,_,_,_,_,_,_,q⟩:=h;exact q.elim
theorem k9.rC{P:wI}{w:wO}{K:wa}{mg:Str->Option wf}{base:wM}{x qual:Str}{st:wZ}{f:we}{fd:wy}{N ps:List Str}{k:Nat}{sp:Sp}(F:k9 K x qual st f fd)(S:aP N ps (aJ st))(len:∀vs H Q E,sp vs H Q E->vs.length=ps.length)
  (hbody:∀(cdv:wf)(A:w9)(outer:List Env)(s:wl)(H:Hp)(vs:List V)(Q:VK)(E:XK),eF k (A.deeper (envOfC qual (aJ st) s.heap.objs.size f cdv))->sp vs H Q E ->
   ∃t,fD (iP (fe P w) P w K mg base N qual (aJ st) f cdv A outer s H E) (kS st) t/\t {nx:=λ_ H'=>Q .bY H',rt:=Q} (start N vs) H):aK P w K mg base (fe P w) (k+1) f fd ps sp:=by
 obtain⟨oc,od,kV,doc,pm,an,cdv,ct,osl,rfl,lk,hcd⟩:=F.ex;exact Mi lk hcd S len λA outer s H vs Q E hr hsp=>hbody cdv A outer s H vs Q E hr hsp
theorem Exc.back{p:we}{H H' H2:Hp}(b:Exc p H' H2)(s:Exc p H H'):Exc p H H2:=s.trans b
theorem PQ{X:Cx}{i j v:Int}{k1 k2:Nat}{p1 p2 pos:Pos}(hc:KS i j)(hv:i^j.toNat=v):PE X (.BinOp (.Constant (.int i) k1 p1) .Pow (.Constant (.int j) k2 p2) pos) (tC (.int v)):=by
 subst hv;exact λpins s σ H Q I h=>(aD Z4 ay ay:PE X _ _) pins s σ H Q I ⟨i,j,rfl,rfl,hc,h⟩
theorem zxz{α : Type}[DecidableEq α]{x : α}{A B:Prop}(h:A):if decide (x=x)=true then A else B:=by simpa using h
section
variable{K:wa}{σ : St}{H H':Hp}{Q:VK}{QB:Bool->Hp->Prop}{D:cN}{t:TA}{v w:V}{xs ys:List V}{m n:Int}{r:Rat}{p:we}
variable{x y:Rat}
theorem zEf{A B:Prop}(h:B):if(!true)=true then A else B:=by simpa using h
theorem zDt{A B:Prop}(h:A):if(!false)=true then A else B:=by simpa using h
theorem zAk{a b:V}(h:H p=some (.lst [a,b]))(h0:0<=m)(h1:m<2)(q:∀z,z=a\/z=b->Q z H):c9 K (.ref p) (.int m) H Q :=
 M6 (λz=>z=a\/z=b) (aG.of h) h0 (by simpa using h1) (by simp) q
theorem Zx{a b:Int}(h:H p=some (.lst [.int a,.int b]))(h0:0<=m)(h1:m<2)(q:∀z,z=a\/z=b->Q (.int z) H):c9 K (.ref p) (.int m) H Q :=
 zAk h h0 h1 λz hz=>by rcases hz with rfl | rfl;exact q _ (.inl rfl);exact q _ (.inr rfl)
theorem zq0(h1:x.num=y.num)(h2:(x.den:Int)=y.den):x=y:=by
 have h2':x.den=y.den:=by lia
 exact um h1 h2'
theorem pY(x y:Rat):wP (N x) (N y)=decide (x=y):=by
 have e:wP (N x) (N y)=(decide (x.num=y.num)&&decide ((x.den:Int)=y.den)):=by
  simp only[N,wP,Wj,uC,qV]
 rw[e,vy,wY,decide_eq_true_eq,decide_eq_true_eq,decide_eq_true_eq]
 constructor
 ·rintro ⟨h1,h2⟩;exact zq0 h1 h2
 ·rintro rfl;exact⟨rfl,rfl⟩
theorem Ag(x:Rat):vN (N x)=true:=by simp[N,vN,vF,Wd,WL,Wq]
theorem C7(h:Is K H v (N x))(k:Is K H w (N y))(q:Q (.bl (decide (x=y))) H):cn K v w H Q:=kR h k (Ag x) (Ag y) (by rw[pY];exact q)
theorem zCr(h:Is K H v (N x))(k:Is K H w (N y))(q:Q (.bl (!decide (x=y))) H):eC K v w H Q:=mz h k (Ag x) (Ag y) (by rw[pY];exact q)
end
def CI:wC->Bool
 | .int _=>true
 | _=>false
theorem Ol{X:Cx} : aH X (wH .In) (fY X.K false):=zwM
theorem sf{X:Cx} : aH X (wH .NotIn) (fY X.K true):=zqv
def R(a b:Rat):wC:=.tuple [N a,N b]
theorem yw(a b:Rat):dq (R a b)=true:=by simp[R,dq,cz,kM]
structure aS(a b:Rat):Prop where
 a0:0<a
 a4:a<=4
 ad:a.den<=8
 b0:0<=b
 b1:b<=1
 bd:b.den<=12
 ab:1<=a+b
theorem aS.ba{a b:Rat}(h:aS a b):ag 10 a:=ag.small (c:=4) (d:=8) (Wg h.a0) h.a4 h.ad (by decide) (by decide)
theorem aS.bb{a b:Rat}(h:aS a b):ag 10 b:=ag.small (c:=1) (d:=12) h.b0 h.b1 h.bd (by decide) (by decide)
section
variable{K:wa}{H:Hp}{Q:VK}{v:V}{a b:Rat}{σ : St}{gs:kf}{QS:St->Hp->Prop}
theorem ZR(h:Is K H v (R a b))(q:∀x,Is K H x (N a)->Q x H):c9 K v (.int 0) H Q:=aF (j:=0) h rfl q
theorem zz9(h:Is K H v (R a b))(q:∀x,Is K H x (N b)->Q x H):c9 K v (.int 1) H Q:=aF (j:=1) h rfl q
theorem Is.mR{H':Hp}(h:Is K H v (R a b))(s:bK H H'):Is K H' v (R a b):=Is.keep s _ v (yw a b) h
theorem Cw{x y:V}(h1:Is K H x (N a))(h2:Is K H y (N b))(q:∀v H',ah H H'->Is K H' v (R a b)->Q v H'):mE K [x,y] H Q :=
 cR (by show 2<=1000;decide) (.cons h1 (.cons h2 .nil)) q
theorem zDZ(a b c d:Rat):wP (R a b) (R c d)=(decide (a=c)&&decide (b=d)):=by
 simp only[R,wP,Wj,uC,pY]
end
section
variable{K:wa}{H H' H2:Hp}{Q:VK}{v w:V}{a b c d:Rat}{D:we}
theorem zwr(h:Is K H v (R a b))(q:Q (.bl true) H):fX K [v,.ty "tuple"] H Q:=To h q
theorem zzZ(h:Is K H v (R a b))(q:Q (.int 2) H):cj K [v] H Q:=mm h q
theorem ah.grow(s:ah H H')(n:H D=none)(e:Exc D H' H2):ah H H2:=λb o h=>e b o (iV h n) (s b o h)
end
theorem zxY{σ : St}{H:Hp}{Q:Bool->Hp->Prop}(q:Q true H):RA σ H Q:=q
theorem Mt{Pv:we->Nat->List V->St->Hp->Prop}{g:TG}{tt:TT}{te:TE}{D:we}{i:Nat}{x:V}{σ':St}{H':Hp}(h:g x σ' H' λσ3 H3=>tt σ3 H3 λok H4=>if ok=true then te σ3 H4 λy H5=>rf Pv D i σ3 y H5 else ∃ys',Pv D (i+1) ys' σ3 H4) :
  iu Pv g tt te D i x σ' H':=h
section
variable{K:wa}{σ : St}{H:Hp}{Q:VK}{E:XK}{D:cN}{t:TA}{C G:wf}{i:Nat}{tb:(St->XK)->TS}{th:we->wf->TS}{sp:Sp}{W:St->XK}{ex C':we}{b:Bool}
theorem zy6(h:t σ H λvs H1=>vs.length<=vc/\E C none H1):U2 C E t D σ H:=h
theorem zyW(h:t σ H λvs H1=>sp vs H1 Q (W σ)):zp sp W t σ H Q:=h
end
variable{p:Pos}{env:Env}
theorem C5(s:String):uH (vX s)=true:=by
 rw[Str.ofString_eq_toList,uH];simp only[List.all_toArray,x6,Wc,Function.comp,decide_eq_true_eq];intro c _;have:=c.valid;simp only[Char.toNat];rcases this with h | h
 ·have:c.val.toNat<0xd800:=h
  lia
 ·exact h.2
theorem d_{K:wa}{H:Hp}{c:we}{p q:Int}(r:Rat)(h:aV K H c [.int p,.int q])(e1:r.num=p)(e2:(r.den:Int)=q):Is K H (.ref c) (N r):=by
 subst e1 e2;exact bZ.mpr ⟨c,_,rfl,h,dZ.mpr ⟨_,_,rfl,cw.mpr rfl,dZ.mpr ⟨_,_,rfl,cw.mpr rfl,gH.mpr rfl⟩⟩⟩
theorem lU(s:String):vN (.str (vX s))=true:=by
 simp[vN,vF,WL,C5]
theorem Pk{c:Const}{k:Nat}{es:List Expr} : vf ((.Constant c k p)::es) env=(false,eval (.Constant c k p) env)::vf es env:=rfl
theorem dA{x:Str}{es:List Expr} : vf ((.Name x p)::es) env=(false,eval (.Name x p) env)::vf es env:=rfl
theorem jh{x y:Expr}{es:List Expr} : vf ((.Subscript x y p)::es) env=(false,eval (.Subscript x y p) env)::vf es env:=rfl
section
variable{K:wa}{H H' H2:Hp}{Q:VK}{R:Prop}{v w y:V}{p l:we}{xs ys zs:List V}{ns:List Int}{m:Int}{σ : St}
end
section
variable{K:wa}{H H' H2:Hp}{Q:VK}{R:Prop}{v w y:V}{p l:we}{xs ys zs:List V}{ns:List Int}{m:Int}{σ : St}{to:TE}{t:TA}{T:String}{r:V->List V->Hp->VK->Prop}
theorem zDI(h:to σ H λx H1=>tN K T x H1/\t σ H1 λxs H2=>r x xs H2 Q):M3 K T r to t σ H Q:=h
theorem iI(h:aG K H p xs)(q:R):tN K "list" (.ref p) H/\R:=⟨.inl ⟨rfl,xs,h⟩,q⟩
theorem je(h:H l=some (.lst xs))(z:xs.length<=1000)(q:∀H',Exc l H H'->H' l=some (.lst (xs++[y]))->Q .bY H'):N8 (.ref l) [y] H Q:=⟨l,xs,y,rfl,rfl,h,gj z,q _ (Exc.upd l H _) cW⟩
end
variable{X:Cx}
def dQ(K:wa):List V->Hp->VK->Prop:=λxs H Q=>∃p ys,xs=[.ref p]/\((aG K H p ys /\ ∀l,H l=none->Q (.ref l) (upd H l (.tup ys)))\/(aV K H p ys/\Q (.ref p) H))
def fQ(K:wa):List V->Hp->VK->Prop:=λxs H Q=>∃p ys,xs=[.ref p]/\(aG K H p ys\/aV K H p ys) /\ ∀l,H l=none->Q (.ref l) (upd H l (.lst ys))
theorem eZ : aE X (.type "tuple") (dQ X.K):=zoP
theorem jU : aE X (.type "list") (fQ X.K):=zqC
def yu(K:wa):V->Option Int->Option Int->Hp->VK->Prop:=λx lo hi H Q=>KG K x lo hi H Q\/U_ K x lo hi H Q
theorem n_ : kG X (yu X.K):=zzN.or ZH
section
variable{K:wa}{H H' H2:Hp}{Q:VK}{QO:Option Int->Hp->Prop}{R:Prop}{v w y:V}{p l:we}{xs ys zs:List V}{ds es:List wC}{m:Int}{σ : St}{te:TE}{tl th:TO}{r:V->Option Int->Option Int->Hp->VK->Prop}{lo hi:Option Int}
theorem rO(h:aG K H p ys)(q:∀l H',H l=none->ah H H'->H' l=some (.tup ys)->Q (.ref l) H'):dQ K [.ref p] H Q:=⟨p,ys,rfl,.inl ⟨h,λl hl=>q l _ hl (ah.upd hl) cW⟩⟩
theorem gE(h:Is K H v (.list ds))(q:∀w H',ah H H'->Is K H' w (.tuple ds)->Q w H'):dQ K [v] H Q:=by
 obtain⟨a,xs,rfl,hs,t⟩:=cb.mp h;exact rO hs λl H' _ s e=>q _ H' s (bZ.mpr ⟨l,xs,rfl,.of e,aj.same s ds xs t⟩)
theorem R3(h:Is K H v (.tuple ds))(q:Q v H):dQ K [v] H Q:=by
 obtain⟨a,xs,rfl,hs,t⟩:=bZ.mp h;exact⟨a,xs,rfl,.inr ⟨hs,q⟩⟩
theorem rh(h:Is K H v (.tuple ds))(q:∀l H' ys,H l=none->ah H H'->H' l=some (.lst ys)->aj K H' ys ds->Q (.ref l) H'):fQ K [v] H Q:=by
 obtain⟨a,xs,rfl,hs,t⟩:=bZ.mp h;exact⟨a,xs,rfl,.inr hs,λl hl=>q l _ xs hl (ah.upd hl) cW (aj.same (ah.upd hl) ds xs t)⟩
theorem MS(h:Is K H v (.list ds))(q:∀l H' ys,H l=none->ah H H'->H' l=some (.lst ys)->aj K H' ys ds->Q (.ref l) H'):fQ K [v] H Q:=by
 obtain⟨a,xs,rfl,hs,t⟩:=cb.mp h;exact⟨a,xs,rfl,.inl hs,λl hl=>q l _ xs hl (ah.upd hl) cW (aj.same (ah.upd hl) ds xs t)⟩
theorem zyh(h:te σ H λx H1=>tl σ H1 λl H2=>th σ H2 λu H3=>r x l u H3 Q):TY r te tl th σ H Q:=h
theorem zwG(q:QO none H):ON σ H QO:=q
theorem zAy(h:te σ H λx H1=>∃i,x=.int i/\QO (some i) H1):L6 te σ H QO:=h
theorem zyF{RI:Int->Prop}(q:RI m):∃i,V.int m=V.int i/\RI i:=⟨m,rfl,q⟩
def jy{α : Type}(xs:List α)(lo hi:Option Int):List α:=(xs.drop (HT.bG xs.length 0 lo)).take (HT.bG xs.length xs.length hi-HT.bG xs.length 0 lo)
theorem aj.take:∀{ds:List wC}{xs:List V}(n:Nat),aj K H xs ds->aj K H (xs.take n) (ds.take n)
 | _,_,0,h=>by simp[aj.nil]
 | [],_,n+1,h=>by rw[gH.mp h];simp[aj.nil]
 | d::ds,_,n+1,h=>by
  obtain⟨x,r,rfl,q,t⟩:=dZ.mp h;rw[xO,xO];exact .cons q (aj.take n t)
theorem aj.drop:∀{ds:List wC}{xs:List V}(n:Nat),aj K H xs ds->aj K H (xs.drop n) (ds.drop n)
 | _,_,0,h=>by simpa using h
 | [],_,n+1,h=>by rw[gH.mp h];simp[aj.nil]
 | d::ds,_,n+1,h=>by
  obtain⟨x,r,rfl,q,t⟩:=dZ.mp h;rw[Qc,Qc];exact aj.drop n t
theorem aj.cut(h:aj K H xs ds):aj K H (j9 xs lo hi) (jy ds lo hi):=by
 unfold j9 jy;rw[h.length];exact(h.drop _).take _
theorem zDc(h:aG K H p xs)(q:∀l H',H l=none->ah H H'->H' l=some (.lst (j9 xs lo hi))->Q (.ref l) H'):yu K (.ref p) lo hi H Q:=.inl ⟨p,xs,rfl,h,λl hl=>q l _ hl (ah.upd hl) cW⟩
theorem pZ(h:Is K H v (.list ds))(q:∀l H' ys,H l=none->ah H H'->H' l=some (.lst ys)->aj K H' ys (jy ds lo hi)->Q (.ref l) H'):yu K v lo hi H Q:=by
 obtain⟨a,xs,rfl,hs,t⟩:=cb.mp h;exact zDc hs λl H' hl s e=>q l H' _ hl s e (aj.same s _ _ t.cut)
theorem zAK(h:Is K H v (.tuple ds))(hw:¬ (HT.bG ds.length 0 lo=0/\HT.bG ds.length ds.length hi=ds.length))(q:∀w H',ah H H'->Is K H' w (.tuple (jy ds lo hi))->Q w H'):yu K v lo hi H Q:=by
 obtain⟨a,xs,rfl,hs,t⟩:=bZ.mp h;refine .inr ⟨a,xs,rfl,hs,by rw[t.length];exact hw,λl hl=>q _ _ (ah.upd hl) (bZ.mpr ⟨l,_,rfl,.of cW,aj.same (ah.upd hl) _ _ t.cut⟩)⟩
theorem AD{α : Type}(xs:List α):jy xs none (some (-1))=xs.dropLast:=by
 unfold jy
 show(xs.drop 0).take (((-1:Int)+(xs.length:Int)).toNat-0)=_
 rw[uo,xu]
 congr 1
 lia
theorem zwy{α : Type}(xs:List α):jy xs (some 1) none=xs.tail:=by
 unfold jy
 show(xs.drop (min 1 xs.length)).take (xs.length-min 1 xs.length)=_
 cases xs with
 | nil=>rfl
 | cons x xs =>
  have e:min 1 (x::xs).length=1:=by rw[Wa];lia
  rw[e,Qc,uo,Wa,VR,Wb,uk]
end
def TN(xs:List Rat):wC:=.tuple (xs.map N)
def LN(xs:List Rat):wC:=.list (xs.map N)
theorem d4:∀xs:List Rat,cz (xs.map N)=true
 | []=>by simp[cz]
 | x::xs=>by rw[ve,cz,kM,d4 xs];rfl
theorem lP(xs:List Rat):dq (TN xs)=true:=by rw[TN,dq];exact d4 xs
theorem zy8(x:Rat):(N x).canLay0=true:=by simp[N,vF,Wd]
theorem zAQ(x:Rat):(N x).depth=1:=by simp[N,WL,Wq]
theorem sx:∀xs:List Rat,Wd (xs.map N)=true
 | []=>by simp[Wd]
 | x::xs=>by rw[ve,Wd,zy8,sx xs];rfl
theorem CY:∀xs:List Rat,Wq (xs.map N)<=1
 | []=>by simp[Wq]
 | x::xs=>by
  have:=CY xs;rw[ve,Wq,zAQ];lia
theorem M1(xs:List Rat):vN (TN xs)=true:=by
 unfold vN TN;rw[vF,sx,WL,qh];have:=CY xs;exact decide_eq_true (by lia)
theorem Ux(xs:List Rat):vN (LN xs)=true:=by
 unfold vN LN;rw[vF,sx,WL,qh];have:=CY xs;exact decide_eq_true (by lia)
theorem FI:∀xs ys:List Rat,Wj (xs.map N) (ys.map N)=decide (xs=ys)
 | [],[]=>by simp[Wj]
 | [],y::ys=>by simp[Wj]
 | x::xs,[]=>by simp[Wj]
 | x::xs,y::ys=>by
  rw[ve,ve,Wj,pY,FI xs ys,vy,wY,decide_eq_true_eq,decide_eq_true_eq,decide_eq_true_eq,ua]
theorem Nn(xs ys:List Rat):wP (TN xs) (TN ys)=decide (xs=ys):=by
 unfold TN;rw[wP,FI]
theorem zCC(xs ys:List Rat):wP (LN xs) (LN ys)=decide (xs=ys):=by
 unfold LN;rw[wP,FI]
section
variable{K:wa}{H H' H2:Hp}{Q:VK}{v w y:V}{p l:we}{vs:List V}{xs ys:List Rat}{m:Int}{σ : St}
theorem N7(h:Is K H v (TN xs))(k:Is K H w (TN ys))(q:Q (.bl (decide (xs=ys))) H):cn K v w H Q:=kR h k (M1 xs) (M1 ys) (by rw[Nn];exact q)
theorem OT(h:Is K H v (LN xs))(k:Is K H w (LN ys))(q:Q (.bl (decide (xs=ys))) H):cn K v w H Q:=kR h k (Ux xs) (Ux ys) (by rw[zCC];exact q)
theorem BW{i:Nat}(t:aj K H vs (xs.map N))(h:i<xs.length):∃x,vs[i]? = some x/\Is K H x (N (xs.getD i 0)):=by
 refine t.get ?_;rw[wu,wb,wc h]
 rfl
theorem cq{i:Nat}{x:V}(t:aj K H vs (xs.map N))(h:vs[i]? = some x):i<xs.length/\Is K H x (N (xs.getD i 0)):=by
 have hl:=t.length;rw[wm]at hl
 have hi:i<xs.length:=by
  rcases wG i vs.length with z | z
  ·lia
  ·rw[wL z]at h;cases h
 obtain⟨x',e,hx⟩:=BW t hi;rw[h]at e;cases e;exact⟨hi,hx⟩
theorem y_(h:Is K H v (TN xs))(h0:0<=m)(h1:m<xs.length)(q:∀x,Is K H x (N (xs.getD m.toNat 0))->Q x H):c9 K v (.int m) H Q:=by
 obtain⟨a,vs,rfl,hs,t⟩:=bZ.mp h;obtain⟨n,rfl⟩:∃n:Nat,m=(n:Int):=⟨m.toNat,by lia⟩;obtain⟨x,e,hx⟩:=BW (i:=n) t (by lia);exact Ae hs (kQ e) (q x hx)
theorem gu(h:Is K H v (LN xs))(h0:0<=m)(h1:m<xs.length)(q:∀x,Is K H x (N (xs.getD m.toNat 0))->Q x H):c9 K v (.int m) H Q:=by
 obtain⟨a,vs,rfl,hs,t⟩:=cb.mp h;obtain⟨n,rfl⟩:∃n:Nat,m=(n:Int):=⟨m.toNat,by lia⟩;obtain⟨x,e,hx⟩:=BW (i:=n) t (by lia);exact jc hs (kQ e) (q x hx)
theorem Ta(h:Is K H v (TN xs))(q:Q (.int xs.length) H):cj K [v] H Q:=mm h (by rw[wm];exact q)
theorem tO(h:Is K H v (LN xs))(q:Q (.int xs.length) H):cj K [v] H Q:=by
 obtain⟨a,vs,rfl,hs,t⟩:=cb.mp h;have:=t.length;rw[wm]at this;exact eQ hs (by rw[this];exact q)
theorem b_(h:H l=some (.lst vs))(t:aj K H vs (xs.map N)):Is K H (.ref l) (LN xs):=cb.mpr ⟨l,vs,rfl,.of h,t⟩
theorem eO:∀{xs:List Rat}{vs:List V},vs.length=xs.length->(∀i x,vs[i]? = some x->Is K H x (N (xs.getD i 0)))->aj K H vs (xs.map N)
 | [],vs,hl,_=>by
  have:vs=[]:=W7 hl;subst this;exact .nil
 | x::xs,[],hl,_=>by cases hl
 | x::xs,u::vs,hl,h=>by
  rw[ve];exact .cons (h 0 u rfl) (eO (by simpa using hl) λi y e=>h (i+1) y e)
end
section
variable{K:wa}{g:TG}{tt:TT}{te:TE}{src:List (Option Nat)}{σ : St}{H:Hp}{Q:VK}{a:we}{vs:List V}{n:Int}{tl:St}{o0:Option V}
def gO(H:Hp)(tl:St)(Rel:Nat->V->Hp->Prop)(D:we)(i:Nat)(ys:List V)(σ':St)(H':Hp):Prop :=
 (∃o,σ'=o::tl)/\H D=none/\ah H H'/\H' D=some (.lst ys)/\ys.length=i /\ ∀j y,ys[j]? = some y->Rel j y H'
theorem gO.same{Rel:Nat->V->Hp->Prop}{D:we}{i:Nat}{ys:List V}{σ':St}{H':Hp}(h:gO H tl Rel D i ys σ' H'):ah H H':=h.2.2.1
theorem d7{Rel:Nat->V->Hp->Prop}{D:we}{i:Nat}{ys:List V}{σ' σ3:St}{H1 H5:Hp}{y:V}(inv:gO H tl Rel D i ys σ' H1)(hi:i<=1000)(hk:∀i v H1 H2,bK H1 H2->Rel i v H1->Rel i v H2)(hσ : ∃o,σ3=o::tl)(s:ah H1 H5)(r:Rel i y H5):rf (gO H tl Rel) D i σ3 y H5:=by
 obtain⟨_,hn,s1,hD,hl,hr⟩:=inv;have hD5:=s _ _ hD;refine iO hD5 (by lia) λH6 E6 e6=>⟨hσ,hn,(s1.trans s).grow hn E6,e6,by simp[hl],λj z hz=>?_⟩
 have k6:bK H5 H6:=E6.keep hD5;rcases wG j ys.length with hj | hj
 ·rw[Ww hj]at hz
  exact hk _ _ _ _ (s.keep.trans k6) (hr j z hz)
 ·have hj':j=ys.length:=by
   rcases wG ys.length j with q | q
   ·rw[wL (by simp;lia)]at hz;cases hz
   ·lia
  subst hj';rw[Wh (wp _),V3]at hz;cases hz;rw[hl];exact hk _ _ _ _ k6 r
theorem ki(hx:aG K H a vs)(hsrc:dP src σ = o0::tl)(Rel:Nat->V->Hp->Prop)(hs:∀D i x ys o H1,vs[i]? = some x->gO H tl Rel D i ys (o::tl) H1->iu (gO H tl Rel) g tt te D i x (o::tl) H1)
  (hd:∀D ys H',H D=none->ah H H'->H' D=some (.lst ys)->ys.length=vs.length->(∀j y,ys[j]? = some y->Rel j y H')->Q (.ref D) H'):zc K g tt te src σ (.ref a) H Q:=by
 refine nu hx (gO H tl Rel) (λD H' n s e=>⟨⟨o0,hsrc⟩,n,s,e,rfl,λj y z=>by simp at z⟩) (λD i ys σ' H' h=>h.same.seq hx) ?_ λD ys σ' H' ⟨_,n,s,e,hl,r⟩=>hd D ys H' n s e hl r
 rintro D i x ys σ' H' hx' h;obtain⟨⟨o,rfl⟩,_⟩:=id h;exact hs D i x ys o H' hx' h
theorem jz(hx:aV K H a vs)(hsrc:dP src σ = o0::tl)(Rel:Nat->V->Hp->Prop)(hs:∀D i x ys o H1,vs[i]? = some x->gO H tl Rel D i ys (o::tl) H1->iu (gO H tl Rel) g tt te D i x (o::tl) H1)
  (hd:∀D ys H',H D=none->ah H H'->H' D=some (.lst ys)->ys.length=vs.length->(∀j y,ys[j]? = some y->Rel j y H')->Q (.ref D) H'):uQ K g tt te src σ (.ref a) H Q:=by
 refine Zi hx (gO H tl Rel) (λD H' n s e=>⟨⟨o0,hsrc⟩,n,s,e,rfl,λj y z=>by simp at z⟩) (λD i ys σ' H' h=>h.same.jG hx) ?_ λD ys σ' H' ⟨_,n,s,e,hl,r⟩=>hd D ys H' n s e hl r
 rintro D i x ys σ' H' hx' h;obtain⟨⟨o,rfl⟩,_⟩:=id h;exact hs D i x ys o H' hx' h
theorem Ox(h0:0<=n)(h1:n<1000000000)(hsrc:dP src σ = o0::tl)(Rel:Nat->V->Hp->Prop)(hs:∀D (i:Nat) ys o H1,i<n.toNat->gO H tl Rel D i ys (o::tl) H1->iu (gO H tl Rel) g tt te D i (.int (i:Int)) (o::tl) H1)
  (hd:∀D ys H',H D=none->ah H H'->H' D=some (.lst ys)->ys.length=n.toNat->(∀j y,ys[j]? = some y->Rel j y H')->Q (.ref D) H'):DR g tt te src σ [.int n] H Q:=by
 refine uY (by lia) h1 (gO H tl Rel) (λD H' n s e=>⟨⟨o0,hsrc⟩,n,s,e,rfl,λj y z=>by simp at z⟩) ?_ λD ys σ' H' ⟨_,n,s,e,hl,r⟩=>hd D ys H' n s e hl r
 rintro D i ys σ' H' hi h;obtain⟨⟨o,rfl⟩,_⟩:=id h;exact hs D i ys o H' hi h
theorem eA{xs:List Rat} : ∀(i:Nat)(v:V)(H1 H2:Hp),bK H1 H2->Is K H1 v (N (xs.getD i 0))->Is K H2 v (N (xs.getD i 0)):=λi v H1 H2 k h=>h.c8 k
end
theorem ft{H H':Hp}{l:we}(s:ah H H')(h:H' l=none):H l=none:=by
 cases e:H l with
 | none=>rfl
 | some o=>rw[s _ _ e]at h;cases h
def TZ(ns:List Int):wC:=.tuple (ns.map PyData.int)
def LL(rss:List (List Rat)):wC:=.list (rss.map LN)
theorem Oa:∀ns:List Int,cz (ns.map PyData.int)=true
 | []=>by simp[cz]
 | n::ns=>by rw[ve,cz,Oa ns];rfl
theorem zCq(ns:List Int):dq (TZ ns)=true:=by rw[TZ,dq];exact Oa ns
section
variable{K:wa}{H H' H2:Hp}{Q:VK}{v w y:V}{p l:we}{vs:List V}{ns:List Int}{rss:List (List Rat)}{m:Int}{σ : St}
theorem lV:∀{ns:List Int}{vs:List V},aj K H vs (ns.map PyData.int) ↔ vs=ns.map V.int
 | [],vs=>by rw[QJ,gH];rfl
 | n::ns,vs=>by
  rw[ve,dZ,ve]
  constructor
  ·rintro ⟨x,r,rfl,h,t⟩
   rw[cw.mp h,lV.mp t]
  ·rintro rfl
   exact⟨_,_,rfl,cw.mpr rfl,lV.mpr rfl⟩
theorem pO:Is K H v (TZ ns) ↔ ∃a,v=.ref a/\aV K H a (ns.map V.int):=by
 unfold TZ;rw[bZ]
 constructor
 ·rintro ⟨a,xs,e,h,t⟩
  rw[lV.mp t]at h;exact⟨a,e,h⟩
 ·rintro ⟨a,e,h⟩
  exact⟨a,_,e,h,lV.mpr rfl⟩
theorem Ec(h:Is K H v (TZ ns))(q:Q (.int ns.length) H):cj K [v] H Q:=mm h (by rw[wm];exact q)
theorem Oq{i:Nat}(t:aj K H vs (rss.map LN))(h:i<rss.length):∃x,vs[i]? = some x/\Is K H x (LN (rss.getD i [])):=by
 refine t.get ?_;rw[wu,wb,wc h]
 rfl
theorem U3(h:Is K H v (LL rss))(h0:0<=m)(h1:m<rss.length)(q:∀x,Is K H x (LN (rss.getD m.toNat []))->Q x H):c9 K v (.int m) H Q:=by
 obtain⟨a,vs,rfl,hs,t⟩:=cb.mp h;obtain⟨n,rfl⟩:∃n:Nat,m=(n:Int):=⟨m.toNat,by lia⟩;obtain⟨x,e,hx⟩:=Oq (i:=n) t (by lia);exact jc hs (kQ e) (q x hx)
theorem CD{α : Type}{xs:List α}{x : α}(h:xs[xs.length-1]? = some x):ie xs (-1)=some x:=by
 have hl:0<xs.length:=by
  cases xs with
  | nil=>cases h
  | cons _ _=>simp
 unfold ie gD;rw[if_neg (by lia),if_pos (by lia)]
 show xs[((-1:Int)+(xs.length:Int)).toNat]? = some x
 rw[show((-1:Int)+(xs.length:Int)).toNat=xs.length-1 by lia];exact h
theorem zxk(h:Is K H v (LL rss))(h0:0<rss.length)(q:∀x,Is K H x (LN (rss.getD (rss.length-1) []))->Q x H):c9 K v (.int (-1)) H Q:=by
 obtain⟨a,vs,rfl,hs,t⟩:=cb.mp h;have hl:=t.length;rw[wm]at hl;obtain⟨x,e,hx⟩:=Oq (i:=rss.length-1) t (by lia);rw[<- hl]at e;exact jc hs (CD e) (q x hx)
theorem Lp:∀{rss:List (List Rat)}{vs:List V},vs.length=rss.length->(∀i x,vs[i]? = some x->Is K H x (LN (rss.getD i [])))->aj K H vs (rss.map LN)
 | [],vs,hl,_=>by
  have:vs=[]:=W7 hl;subst this;exact .nil
 | x::xs,[],hl,_=>by cases hl
 | x::xs,u::vs,hl,h=>by
  rw[ve];exact .cons (h 0 u rfl) (Lp (by simpa using hl) λi y e=>h (i+1) y e)
end
def AI(K:wa):R2:=λx y H Q=>Pt K x y H Q \/ ∃a b ys,x=.ref a/\y=.ref b/\aV K H a []/\aV K H b ys/\Q (.ref b) H
theorem RB{X:Cx} : aH X (WG .Add) (AI X.K):=by
 intro pins s σ H x y v u Q I rx ry h;rcases h with h | ⟨a,b,ys,rfl,rfl,ha,hb,q⟩
 ·exact zA3 pins s σ H x y v u Q I rx ry h
 ·cases rx
  cases ry;obtain⟨its,r1,p1,_⟩:=I.tuple ha;cases r1;obtain⟨its2,r2,p2,_⟩:=I.tuple hb;obtain⟨⟨cls,dd,data,sl⟩,ho,hc,n,hd⟩:=id p1;obtain⟨⟨cls2,dd2,data2,sl2⟩,ho2,hc2,n2,hd2⟩:=id p2;simp only at hc hd hc2 hd2;subst hc hd hc2 hd2;exact concat_meets ⟨_,ho,rfl⟩ ⟨_,ho2,rfl⟩ noFill_tuple_add seq_tuple_add qQ qH (qt _ _) (tuple_addW0 a b _ its2.toArray n n2 dd dd2 sl sl2 rfl) ⟨ho,ho2,⟨.ref b,H,I,rfl,q⟩⟩
theorem Oc{K:wa}{H:Hp}{Q:VK}{v w:V}{ds es:List wC}(h1:Is K H v (.tuple ds))(h2:Is K H w (.tuple es))(z:ds.length+es.length<=1000)(q:∀u H',ah H H'->Is K H' u (.tuple (ds++es))->Q u H'):AI K v w H Q:=by
 obtain⟨a,xs,rfl,ha,ta⟩:=bZ.mp h1;obtain⟨b,ys,rfl,hb,tb⟩:=bZ.mp h2;have la:=ta.length;have lb:=tb.length;cases xs with
 | nil =>
  obtain rfl:ds=[]:=W7 (by simpa using la.symm);exact .inr ⟨a,b,ys,rfl,rfl,ha,hb,q _ H (ah.refl _) h2⟩
 | cons x xs =>
  refine .inl ⟨a,b,x::xs,ys,rfl,rfl,ha,hb,by simp,WB (gj (by lia)),λhy=>?_,λhy p hp=>?_⟩
  ·obtain rfl:es=[]:=W7 (by rw[hy]at lb;simpa using lb.symm)
   exact q _ H (ah.refl _) (by rw[vM];exact h1)
  ·exact q _ _ (ah.upd hp) (bZ.mpr ⟨p,_,rfl,.of cW,(aj.same (ah.upd hp) _ _ ta).append (aj.same (ah.upd hp) _ _ tb)⟩)
theorem Inv.sV{X:Cx}{pins:List (we × Obj)}{σ : St}{H:Hp}{s:wl}{h':wM}{t':Nat}{ch:List we}(I:Inv X pins σ H s)(k:∀b o,b ∉ ch->s.heap.get? b=some o->h'.get? b=some o)(hf:∀b∈ch,eP X pins H b):Inv X pins σ H {s with heap:=h',toks:=t'}:=by
 have nit:∀b u,H b=some u->b ∉ ch:=λb u e z=>by rw[(hf b z).1]at e;cases e
 refine I.step (g':=s.gens) (d':=s.drawn) (ch:=ch) (λb hb=>⟨(hf b hb).2.2.2.1,(hf b hb).2.1,(hf b hb).2.2.2.2.1,(hf b hb).2.2.2.2.2⟩) (λb o _ _ hc e _=>k b o hc e)
  (λb o _ _ hc e _=>⟨o.slots,k b o hc e⟩) (λ_ _ _ _ n=>n) (λb o hc e=>⟨o,k b o hc e⟩) (λ_ _ e=>e) (λ_ _ _ e=>e) (λb ps e=>⟨#[],by rw[e];simp⟩) (λm hm=>?_) (λb u e=>?_) I.bare
 ·obtain⟨o,es,ep,ho,r⟩:=hm
  exact⟨o,es,ep,k _ o (λz=>(hf _ z).2.1 rfl) ho,r⟩
 ·refine(I.aM b u e).jq (λc v hc q=>k c v ?_ q) (λ_ q=>q) λ_ _ q=>q
  rcases hc with z | z
  ·rw[z];exact nit b u e
  ·exact nit c _ z
section
variable{prog:wI}{w:wO}{A:w9}{E:wf->wl->Prop}{s:wl}
theorem Z8{it tu:we}{i:Nat}{its:Array wf}{x:wf}{Q:wf->wl->Prop}(ei:s.heap.IsTupleIter it tu i)(et:s.heap.IsTuple tu its)(ex:its[i]? = some x)
  (fin:∀h',h'.IsTupleIter it tu (i+1)->vJ it s.heap h'->Q x {s with heap:=h'}):wq (model prog w) A (vK (.ref it)) Q E s:=by
 obtain⟨ob,eo,ec,ed⟩:=id ei;obtain⟨ot,eot,_,nt,edt⟩:=et;unfold vK;refine wg (wpAny_callSpecial?_slot (name:=vX "__next__") ei.typeIs Vv (Wk Vv ei.typeIs Qq ?_ (Qi _)))
 show wq _ _ (field (.ref it) 0 >>= _) _ _ s;refine wg (vD eo ed (x:=.ref tu) rfl ?_)
 show wq _ _ (if(Value.ref tu == Value.none)=true then _ else _) _ _ s;rw[if_neg (show ¬ ((Value.ref tu == Value.none)=true)from vG)]
 show wq _ _ (field (.ref it) 1 >>= _) _ _ s;refine wg (vD eo ed (x:=.int i 0) rfl ?_)
 show wq _ _ (seqItems? (.ref tu) >>= _) _ _ s;refine wg (WD eot edt ?_)
 simp only[wD,ex];refine wg (wpAny_setField eo ed (by simp) (wt ⟨x,rfl,wt (fin _ ?_ (xP ..))⟩));exact⟨_,V0 _ eo (V6 (VT ed _)),(Xq ..).trans ec,by rw[VT ed];simp[Vc]⟩
theorem R_{it tu:we}{i:Nat}{its:Array wf}{Q:wf->wl->Prop}(hh:A.handled=none)(ei:s.heap.IsTupleIter it tu i)(et:s.heap.IsTuple tu its)(ex:its[i]? = none)
  (fin:∀h' e,Heap.ExtBut it s.heap h'->(∃o,h'.get? e=some o/\o.cls=.type "StopIteration")->E (.ref e) {s with heap:=h'}):wq (model prog w) A (vK (.ref it)) Q E s:=by
 obtain⟨ob,eo,ec,ed⟩:=id ei;obtain⟨ot,eot,_,nt,edt⟩:=et;unfold vK;refine wg (wpAny_callSpecial?_slot (name:=vX "__next__") ei.typeIs Vv (Wk Vv ei.typeIs Qq ?_ (Qi _)))
 show wq _ _ (field (.ref it) 0 >>= _) _ _ s;refine wg (vD eo ed (x:=.ref tu) rfl ?_)
 show wq _ _ (if(Value.ref tu == Value.none)=true then _ else _) _ _ s;rw[if_neg (show ¬ ((Value.ref tu == Value.none)=true)from vG)]
 show wq _ _ (field (.ref it) 1 >>= _) _ _ s;refine wg (vD eo ed (x:=.int i 0) rfl ?_)
 show wq _ _ (seqItems? (.ref tu) >>= _) _ _ s;refine wg (WD eot edt ?_)
 simp only[wD,ex];refine wg (wpAny_rule (wg (wpAny_setField eo ed (by simp) ?_)))
 show wq _ _ (newExc (.type "StopIteration") [] >>= _) _ _ _;refine wg ?_;simp only[newExc,newTuple]
 refine wg (WI ?_ (by size_fits));refine wg (m:=firstArgMember _ _) (wpAny_of_eq (a:=Value.none) (by first | rfl | (simp only[firstArgMember];rfl)) ?_);refine WI ?_ (by size_fits);simp only[raiseNew];refine wg (wpAny_handled ?_)
 first | rw[hh] | rw[show A.in1.handled=none from hh]
 exact wg (wt (wpAny_throw (fin _ _ (((xP ..).extBut.push _).push _) ⟨_,wS _ rfl,rfl⟩)))
theorem jJ(hh:A.handled=none)(it tu:we)(hne:tu≠it)(its:Array wf):Draws prog w A it [it,tu] its.size (λi v=>its[i]? = some v) (λi h=>h.IsTupleIter it tu i/\h.IsTuple tu its) where
 live:=λ_ _ st=>let ⟨o,ho,_⟩:=st.1;⟨o,ho⟩
 frame:=λ_ _ _ st hk=>⟨st.1.at λo e=>hk it (by simp) o e,st.2.at λo e=>hk tu (by simp) o e⟩
 item:=λi s Q E hi st hQ=>Z8 st.1 st.2 (x:=its[i]) (by simp[hi]) λh' hit' hs'=>hQ _ h' s.toks (by simp[hi]) ⟨hit',st.2.extBut hs'.extBut hne⟩ hs'
 done:=λs Q E st hE=>R_ hh st.1 st.2 (by simp) hE
open AutoSeq1 (wpAny_loadPart') in
theorem zsU(tu:we)(its:Array wf)(n:Nat)(dct:Option we)(sl:Array (Option wf)):Meets (Builtin.«enumerate.__new__» ⟨[.type "enumerate",.ref tu],[]⟩) (λ_ R s=>s.heap.get? tu=some {cls:=.type "tuple",dict:=dct,data:=.seq its n,slots:=sl} /\
  R (.ok (.ret (.ref (s.heap.push {cls:=.type "tuple_iterator",data:=.fields #[.ref tu,.int 0 0]}).objs.size))) {s with heap:=(s.heap.push {cls:=.type "tuple_iterator",data:=.fields #[.ref tu,.int 0 0]}).push {cls:=.type "enumerate",data:=.fields #[.none,.bool false,.ref s.heap.objs.size,Vc 0,.none,.none]}}) :=
 .of_wp λprog w A R s h=>by
  obtain⟨hp,g,d,tk,os⟩:=s;obtain⟨et,h⟩:=h;have hsub:=sub_enumerate;have hT:Xa (XA ⟨hp,g,d,tk,os⟩) tu its:=⟨_,et,rfl,n,rfl⟩
  wp_walk using wpAny_loadPart' et
  refine wpAny_stack_any λst=>wt ?_
  split
  ·rename_i c _ _ _ _ _
   cases (c == Value.type "enumerate")<;>(wp_walk using wpAny_loadPart' et,Vp hT;exact⟨_,rfl,h⟩)
  ·wp_walk using wpAny_loadPart' et,Vp hT
   exact⟨_,rfl,h⟩
theorem ztU{tu:we}{its:Array wf}{Q:wf->wl->Prop}(hT:s.heap.IsTuple tu its)(fin:∀h',IsEnum h' (s.heap.objs.size+1) s.heap.objs.size 0 .none->h'.IsTupleIter s.heap.objs.size tu 0->(∀b o,s.heap.get? b=some o->h'.get? b=some o)->Q (.ref (s.heap.objs.size+1)) {s with heap:=h'}) :
  wq (model prog w) A (call (.type "enumerate") [.ref tu]) Q E s:=by
 obtain⟨⟨c,dct,dt,sl⟩,et,hc,n,hd⟩:=hT;obtain rfl:c=.type "tuple":=hc;obtain rfl:dt=.seq its n:=hd;refine callType_new F.called_enumerate (by decide) (F.typeCall_enumerate_1 _) (F.newCall_enumerate_1 _) (λobj=>F.args_object_init_2 obj _) F.entry_enumerate_new (zsU tu its n dct sl) ⟨et,?_⟩;have hz:(s.heap.push {cls:=.type "tuple_iterator",data:=.fields #[.ref tu,.int 0 0]}).objs.size=s.heap.objs.size+1:=V5 ..
 show _/\_
 rw[hz]
 have he:IsEnum ((s.heap.push {cls:=.type "tuple_iterator",data:=.fields #[.ref tu,.int 0 0]}).push {cls:=.type "enumerate",data:=.fields #[.none,.bool false,.ref s.heap.objs.size,Vc 0,.none,.none]}) (s.heap.objs.size+1) s.heap.objs.size 0 .none:=by
  rw[<- hz];exact wS _ rfl
 exact⟨⟨_,he,rfl⟩,fin _ he ⟨_,wn _ (wS _ rfl),rfl,rfl⟩ λb o x=>wn _ (wn _ x)⟩
end
def nX(K:wa)(a:we):It :=
 ⟨λi H=>∃xs x,aV K H a xs/\xs[i]? = some x,λi H y H'=>∃t x,y=.ref t/\H t=none/\(∀xs,aV K H a xs->xs[i]? = some x)/\H'=upd H t (.tup [.int (i:Int),x]),λi H=>∃xs,aV K H a xs/\xs.length<=i⟩
theorem zuc{P:wI}{w:wO}{K:wa}{elts:List Expr}{k1}{tpos:Pos}(a e it:we)(hne:e≠it):jF P w K (.Tuple elts k1 tpos) (nX K a) [e,it] e (λi h=>(∃old,IsEnum h e it (i:Int) old)/\h.IsTupleIter it a i) where
 mem:=by simp
 obj:=λi h st b hb=>by
  obtain⟨⟨old,he⟩,o,eo,c,d⟩:=st;rcases wR.mp hb with rfl | hb
  ·exact⟨_,he,λv z=>by cases (show Data.fields _=Data.cell v from z)⟩
  ·rw[wX.mp hb]
   exact⟨o,eo,λv z=>by rw[d]at z;cases z⟩
 keep:=λi h h' st k=>⟨let ⟨old,he⟩:=st.1;⟨old,k e (by simp) _ he⟩,st.2.at λo eo=>k it (by simp) o eo⟩
 item:=by
  intro X hP hw hK hc i pins s σ H E I hf st hg;subst hP hw hK;obtain⟨⟨old,he⟩,st⟩:=st;obtain⟨xs,x,hq,hx⟩:=hg;obtain⟨its,rv,p,hz⟩:=I.tuple hq;obtain⟨u,hu,ru⟩:=rv.get hx;have p':s.heap.IsTuple a its.toArray:=p
  have hai:a≠it:=λz=>by
   subst z;obtain⟨o,e1,c1,_⟩:=st;obtain⟨o',e2,c2,_⟩:=p';rw[e1]at e2;cases e2;rw[c1]at c2;exact absurd c2 (by decide)
  have hae:e≠a:=λz=>by
   subst z;obtain⟨o',e2,c2,_⟩:=p';rw[he]at e2;cases e2;exact absurd (show Value.type "enumerate"=Value.type "tuple" from c2) (by decide)
  have hlt:i<its.toArray.size:=by
   rcases wG i its.length with z | z
   ·simpa using z
   ·rw[wL z]at hu;cases hu
  refine wpAny_pyNext_enum_itemD (jJ (A:=X.A.in1) (I.ok.hd hc) it a hai its.toArray) he ⟨st,p'⟩ hlt hne (by simp[hne,hae]) λv h1 tk hv ho hs1 hT hsz hk=>?_
  have hvu:v=u:=by
   have hv':its[i]? = some v:=by simpa using hv
   rw[hu]at hv';exact(w5 hv').symm
  subst hvu
  have I1:Inv X pins σ (upd H s.heap.objs.size (.tup [.int (i:Int),x])) {s with heap:=s.heap.push {cls:=.type "tuple",data:=.seq ([.int (i:Int) tk,v]:List wf).toArray},toks:=tk+1} :=
   I.laid (λb o q=>wn _ q) (wp _) (show dS X.prog X.w _ _ _ (.tup [.int (i:Int),x])from⟨mW (by simp),_,.cons ⟨_,rfl⟩ (.cons ru .nil),qU _ _⟩)
  have lt1:∀b∈[e,it],b<s.heap.objs.size:=λb hb=>by
   rcases wR.mp hb with rfl | hb
   ·exact wA he
   ·rw[wX.mp hb]
    obtain⟨o,eo,_⟩:=st;exact wA eo
  have hf1:∀b∈[e,it],eP X pins (upd H s.heap.objs.size (.tup [.int (i:Int),x])) b:=λb hb=>⟨by rw[dh (wT (lt1 b hb))];exact(hf b hb).1,(hf b hb).2⟩
  refine⟨_,rfl,wpAny_letOwnedTupleGo_enum ho λh2 he2 hs2=>?_⟩;refine⟨.ref s.heap.objs.size,_,Inv.sV (s:={s with heap:=s.heap.push {cls:=.type "tuple",data:=.seq ([.int (i:Int) tk,v]:List wf).toArray},toks:=tk+1}) (ch:=[e,it]) I1 (λb o hb q=>?_) hf1,rfl,⟨_,x,rfl,I.aM.fresh (wp _),λys hy=>by rw[I.A4 hy hq];exact hx,rfl⟩,⟨⟨_,by simpa using he2⟩,hs1.1.at λo eo=>(hs2.2 it (Wt hne)).trans eo⟩,λb hb=>(hf1 b hb).1⟩;have hbe:b≠e:=λz=>hb (by simp[z])
  have hbi:b≠it:=λz=>hb (by simp[z])
  refine(hs2.2 b hbe).trans ?_
  by_cases hb2:b=s.heap.objs.size
  ·subst hb2
   rw[wS _ rfl]at q;cases q;exact hT
  ·exact hk b o hbe hbi (by rw[QC _ _ _ hb2]at q;exact q)
 done:=by
  intro X hP hw hK hc i pins s σ H E I hf st hg;subst hP hw hK;obtain⟨⟨old,he⟩,st⟩:=st;obtain⟨xs,hq,hx⟩:=hg;obtain⟨its,rv,p,hz⟩:=I.tuple hq;have p':s.heap.IsTuple a its.toArray:=p
  have hai:a≠it:=λz=>by
   subst z;obtain⟨o,e1,c1,_⟩:=st;obtain⟨o',e2,c2,_⟩:=p';rw[e1]at e2;cases e2;rw[c1]at c2;exact absurd c2 (by decide)
  have hl:=rv.length;have hT:s.TypeIs (.ref e) "enumerate":=⟨_,he,rfl⟩;unfold pyNext;refine wg (WV (wpAny_callSpecial?_slot (name:=vX "__next__") hT V7 (Wk V7 hT xl ?_ (QV _))))
  show wq _ _ (field (.ref e) 2 >>= _) _ _ _;refine wg (vD he rfl (x:=.ref it) rfl ?_)
  refine wg (R_ (A:=X.A.in1) (I.ok.hd hc) st p' (by simp;lia) λh' y he' hx'=>?_);obtain⟨o,ho,hcl⟩:=hx';refine wg (Vi (T:="StopIteration") (b:=true) ⟨o,ho,hcl⟩ isSubtype_stop (wt ⟨rfl,?_⟩));obtain⟨f0,f1,f2,f3,f4,f5⟩:=hf it (by simp);exact I.turned (t':=s.toks) (λb o hb e=>he' b o hb e) f0 f1 f3 f4 f5
 self:=λ_ _ _ _ _ st h=>let ⟨_,he⟩:=st.1;wpAny_pyIter_enum he h
def EX(K:wa)(ta:TA):TI:=λσ H R=>ta σ H λvs H1=>∃a,vs=[.ref a]/\(∃xs,aV K H1 a xs)/\R (nX K a) H1
theorem Ot:vO "enumerate"=some (.type "enumerate"):=by decide +kernel
theorem Lj{X:Cx}{elts:List Expr}{k1}{tpos p pos:Pos}{l:Expr}{ta:TA}(hg:Gl X "enumerate")(hm:X.mg "enumerate"=none)(ha:PA X [l] ta)(hs:vf [l] X.env=[(false,eval l X.env)]:=by rfl) :
  PI X (.Tuple elts k1 tpos) (.Call (.Name "enumerate" p) [l] [] pos) (EX X.K ta):=by
 intro pins s σ H R I h;refine Call_ (gW I hg hm Ot (vC (aQ (ha pos pins s σ H _ I h) λus s1 ⟨vs,H1,I1,r1,q1⟩=>?_) hs rfl));obtain⟨a,rfl,⟨xs,hq⟩,q⟩:=q1;obtain⟨u,rfl,ru⟩:=jg r1;cases ru;obtain⟨its,rv,p,hz⟩:=I1.tuple hq;refine ztU (show s1.heap.IsTuple a its.toArray from p) λh' he hit kp=>?_
 refine wpAny_pyIter_enum he ?_;refine⟨s1.heap.objs.size+1,[s1.heap.objs.size+1,s1.heap.objs.size],_,_,H1,rfl,I1.kept (t':=s1.toks) kp,zuc a (s1.heap.objs.size+1) s1.heap.objs.size (XV _),⟨⟨_,he⟩,hit⟩,λb hb=>?_,q⟩
 have hb':s1.heap.objs.size<=b:=by
  rcases wR.mp hb with rfl | hb
  ·lia
  ·rw[wX.mp hb];exact wp _
 exact I1.j5 hb' (I1.aM.fresh hb')
def UI(K:wa)(g:TG)(tb:TS)(D:cN)(σ : St)(vs:List V)(H1:Hp):Prop:=∃a,vs=[.ref a]/\(∃xs,aV K H1 a xs) /\
 ∃W:Nat->Nat->St->Hp->Prop,(∃m,W 0 m σ H1) /\ ∀i m σ H,W i m σ H ->
  ((nX K a).stop i H/\D.nx σ H)\/((nX K a).go i H /\ ∃M:St->Hp->Prop,(∀σ' H',M σ' H'->∃m',m'<m/\W (i+1) m' σ' H') /\ ∀x H',(nX K a).fC i H x H'->g x σ H' λσ2 H2=>tb {D with nx:=M,ct:=M,bk:=D.nx} σ2 H2)
section
variable{K:wa}{ta:TA}{g:TG}{tb:TS}{D:cN}{σ : St}{H:Hp}{a:we}{xs:List V}
theorem zzL(h:ta σ H λvs H1=>UI K g tb D σ vs H1):mv (EX K ta) g tb D σ H:=h
theorem ZW(hx:aV K H a xs)(Pv:Nat->St->Hp->Prop)(h0:Pv 0 σ H)(hl:∀i σ H,i<=xs.length->Pv i σ H->aV K H a xs)
  (hs:∀i x σ H t H',xs[i]? = some x->Pv i σ H->H t=none->ah H H'->H' t=some (.tup [.int (i:Int),x])->g (.ref t) σ H' λσ2 H2=>tb {D with nx:=Pv (i+1),ct:=Pv (i+1),bk:=D.nx} σ2 H2) (hd:∀σ H,Pv xs.length σ H->D.nx σ H):UI K g tb D σ [.ref a] H:=by
 refine⟨a,rfl,⟨xs,hx⟩,λi m σ H=>i+m=xs.length/\Pv i σ H,⟨xs.length,by lia,h0⟩,?_⟩;rintro i m σ H ⟨him,hp⟩;have hq:=hl i σ H (by lia) hp
 by_cases hm:m=0
 ·have e:i=xs.length:=by lia
  subst e;exact .inl ⟨⟨xs,hq,wp _⟩,hd _ _ hp⟩
 ·have hi:i<xs.length:=by lia
  refine .inr ⟨⟨xs,xs[i],hq,by simp[hi]⟩,λσ' H'=>Pv (i+1) σ' H',λσ' H' h=>⟨m-1,by lia,by lia,h⟩,?_⟩;rintro y H' ⟨t,x,rfl,hn,hx',rfl⟩;exact hs i x σ H t _ (hx' xs hq) hp hn (ah.upd hn) cW
end
structure ZA(z TI TO i1 i2:we)(f1 f2:List we):Prop where
 a1:TI≠z
 a2:TO≠z
 a3:i1≠z
 a4:i2≠z
 a5:TI≠TO
 a6:TI≠i1
 a7:TI≠i2
 a8:TO≠i1
 a9:TO≠i2
 b0:i1≠i2
 b1:z ∉ f1
 b2:z ∉ f2
 b3:TO ∉ f1
 b4:TO ∉ f2
 b5:i1 ∉ f2
 b6:i2 ∉ f1
section
variable{prog:wI}{w:wO}{A:w9}{E:wf->wl->Prop}{s:wl}{z TI TO i1 i2:we}{f1 f2:List we}{n1 n2 k:Nat}{P1 P2:Nat->wf->Prop}{S1 S2:Nat->wM->Prop}{a b:wf}
theorem Kk{Q:wf->wl->Prop}(D1:Draws prog w A i1 f1 n1 P1 S1)(D2:Draws prog w A i2 f2 n2 P2 S2)(ap:ZA z TI TO i1 i2 f1 f2)(hz:IsZip s.heap z TI TO .none)(hi:WE s.heap TI (.ref i1) (.ref i2))(ho:WE s.heap TO a b)
  (h1:S1 k s.heap) (h2:S2 k s.heap) (l1:k<n1) (l2:k<n2)
  (fin:∀x y h' tk,P1 k x->P2 k y->IsZip h' z TI TO (Vc s.heap.objs.size)->WE h' TO x y->S1 (k+1) h'->S2 (k+1) h'->WE h' s.heap.objs.size x y ->
   (∀c o,c≠z->c≠TO->c≠i1->c≠i2->s.heap.get? c=some o->h'.get? c=some o)->Q (.ref s.heap.objs.size) {s with heap:=h',toks:=tk}) :
  wq (model prog w) A (Builtin.«zip.__next__» ⟨[.ref z],[]⟩) (λr s'=>∃v,r=.done (.ret v)/\Q v s') E s:=by
 show wq _ _ (field (.ref z) 2 >>= _) _ _ _;refine wg (vD hz rfl (x:=.bool false) rfl ?_)
 show wq _ _ (field (.ref z) 3 >>= _) _ _ _;refine wg (vD hz rfl (x:=.ref TI) rfl ?_)
 refine wg (WD hi rfl ?_);show wq _ _ (vI (.ref z) >>= _) _ _ _
 refine wg ?_;unfold vI;refine wg (vD hz rfl (x:=.none) rfl (wt ?_));simp only[if_true];refine wg (wpAny_rule ?_);refine wg (vD hz rfl (x:=.ref TO) rfl ?_);refine wg (W1 hz (by simp) λg1 zz1 sb1=>?_);have zz1:IsZip g1 z TI TO .ellipsis:=zz1;refine wg ?_;simp only[XW,ub,qp,Qj];refine wg (wg (wpAny_onRaise ?_));show wq _ _ (vK (.ref i1) >>= _) _ _ _
 have h1a:S1 k g1:=D1.frame _ _ _ h1 λc hc o e=>sb1.extBut c o (λq=>ap.b1 (q ▸ hc)) e
 have h2a:S2 k g1:=D2.frame _ _ _ h2 λc hc o e=>sb1.extBut c o (λq=>ap.b2 (q ▸ hc)) e
 refine wg (D1.item k _ _ _ l1 h1a λx g2 t2 px h1b sb2=>wt ?_);have ho2:WE g2 TO a b:=sb2.extBut _ _ ap.a8 (sb1.extBut _ _ ap.a2 ho);have h2b:S2 k g2:=D2.frame _ _ _ h2a λc hc o e=>sb2.extBut c o (λq=>ap.b5 (q ▸ hc)) e
 refine wg (WD ho2 rfl ?_);refine wg (wpAny_updateSeq_pair ho2 λg3 ho3 sb3=>?_);have ho3:WE g3 TO x b:=ho3;have sb3:vJ TO g2 g3:=sb3;have h1c:S1 (k+1) g3:=D1.frame _ _ _ h1b λc hc o e=>sb3.extBut c o (λq=>ap.b3 (q ▸ hc)) e
 have h2c:S2 k g3:=D2.frame _ _ _ h2b λc hc o e=>sb3.extBut c o (λq=>ap.b4 (q ▸ hc)) e
 refine wg (wpAny_letGo (wt ?_));refine wg (wg (wpAny_onRaise ?_))
 show wq _ _ (vK (.ref i2) >>= _) _ _ _;refine wg (D2.item k _ _ _ l2 h2c λy g4 t4 py h2d sb4=>wt ?_)
 have sb4:vJ i2 g3 g4:=sb4;have ho4:WE g4 TO x b:=sb4.extBut _ _ ap.a9 ho3;have h1d:S1 (k+1) g4:=D1.frame _ _ _ h1c λc hc o e=>sb4.extBut c o (λq=>ap.b6 (q ▸ hc)) e
 refine wg (WD ho4 rfl ?_);refine wg (wpAny_updateSeq_pair ho4 λg5 ho5 sb5=>?_);have ho5:WE g5 TO x y:=ho5;have sb5:vJ TO g4 g5:=sb5;have h1e:S1 (k+1) g5:=D1.frame _ _ _ h1d λc hc o e=>sb5.extBut c o (λq=>ap.b3 (q ▸ hc)) e
 have h2e:S2 (k+1) g5:=D2.frame _ _ _ h2d λc hc o e=>sb5.extBut c o (λq=>ap.b4 (q ▸ hc)) e
 refine wg (wpAny_letGo (wt (wt ?_)));refine wg (WD ho5 rfl ?_);refine wg (wpAny_newTuple ?_);have sb2:vJ i1 g1 g2:=sb2;have sb1:vJ z s.heap g1:=sb1;have hsz:g5.objs.size=s.heap.objs.size:=by rw[sb5.1,sb4.1,sb3.1,sb2.1,sb1.1]
 have zz5:IsZip g5 z TI TO .ellipsis:=sb5.extBut _ _ ap.a2.symm (sb4.extBut _ _ ap.a4.symm (sb3.extBut _ _ ap.a2.symm (sb2.extBut _ _ ap.a3.symm zz1)));have kept:∀c o,c≠z->c≠TO->c≠i1->c≠i2->s.heap.get? c=some o->g5.get? c=some o:=λc o c1 c2 c3 c4 e=>sb5.extBut _ _ c2 (sb4.extBut _ _ c4 (sb3.extBut _ _ c2 (sb2.extBut _ _ c3 (sb1.extBut _ _ c1 e))))
 have zlt:z<g5.objs.size:=wA zz5
 show wq _ _ (qz (.ref z) (.ref g5.objs.size) >>= _) _ _ _;refine wg ?_;unfold qz
 have zz6:IsZip (g5.push {cls:=.type "tuple",data:=.seq #[x,y]}) z TI TO .ellipsis:=wn _ zz5;refine wg (W1 zz6 (by simp) λg7 zz7 sb7=>?_);have zz7:IsZip g7 z TI TO (Vc g5.objs.size):=zz7;refine W1 zz7 (by simp) λg8 zz8 sb8=>?_
 have zz8:IsZip g8 z TI TO (Vc g5.objs.size):=zz8;have sb7:vJ z (g5.push {cls:=.type "tuple",data:=.seq #[x,y]}) g7:=sb7;have sb8:vJ z g7 g8:=sb8;have up:∀c o,c≠z->g5.get? c=some o->g8.get? c=some o:=λc o c1 e=>sb8.extBut _ _ c1 (sb7.extBut _ _ c1 (wn _ e))
 have new8:WE g8 g5.objs.size x y:=sb8.extBut _ _ (vv zlt) (sb7.extBut _ _ (vv zlt) (wS _ rfl));rw[hsz]at zz8 new8;refine wt ⟨_,rfl,?_⟩
 show Q (.ref g5.objs.size) _
 rw[hsz];exact fin x y g8 _ px py zz8 (up _ _ ap.a2 ho5) (D1.frame _ _ _ h1e λc hc o e=>up c o (λq=>ap.b1 (q ▸ hc)) e) (D2.frame _ _ _ h2e λc hc o e=>up c o (λq=>ap.b2 (q ▸ hc)) e) new8 λc o c1 c2 c3 c4 e=>up c o c1 (kept c o c1 c2 c3 c4 e)
theorem Ko{Q:Fin->wl->Prop}(D1:Draws prog w A i1 f1 n1 P1 S1)(D2:Draws prog w A i2 f2 n2 P2 S2)(ap:ZA z TI TO i1 i2 f1 f2)(hz:IsZip s.heap z TI TO .none)(hi:WE s.heap TI (.ref i1) (.ref i2))(ho:WE s.heap TO a b)
  (h1:S1 k s.heap) (h2:S2 k s.heap) (hk:k=n1\/(k<n1/\k=n2))
  (fin:∀h' e tk,(∀c o,c≠z->c≠TO->c≠i1->c≠i2->s.heap.get? c=some o->h'.get? c=some o)->(∃o,h'.get? e=some o/\o.cls=.type "StopIteration")->E (.ref e) {s with heap:=h',toks:=tk}) :
  wq (model prog w) A (Builtin.«zip.__next__» ⟨[.ref z],[]⟩) Q E s:=by
 show wq _ _ (field (.ref z) 2 >>= _) _ _ _;refine wg (vD hz rfl (x:=.bool false) rfl ?_)
 show wq _ _ (field (.ref z) 3 >>= _) _ _ _;refine wg (vD hz rfl (x:=.ref TI) rfl ?_)
 refine wg (WD hi rfl ?_);show wq _ _ (vI (.ref z) >>= _) _ _ _
 refine wg ?_;unfold vI;refine wg (vD hz rfl (x:=.none) rfl (wt ?_));simp only[if_true];refine wg (wpAny_rule ?_);refine wg (vD hz rfl (x:=.ref TO) rfl ?_);refine wg (W1 hz (by simp) λg1 zz1 sb1=>?_);have zz1:IsZip g1 z TI TO .ellipsis:=zz1;have sb1:vJ z s.heap g1:=sb1;refine wg ?_;simp only[XW,ub,qp,Qj];refine wg (wg (wpAny_onRaise ?_));show wq _ _ (vK (.ref i1) >>= _) _ _ _
 have h1a:S1 k g1:=D1.frame _ _ _ h1 λc hc o e=>sb1.extBut c o (λq=>ap.b1 (q ▸ hc)) e
 have h2a:S2 k g1:=D2.frame _ _ _ h2 λc hc o e=>sb1.extBut c o (λq=>ap.b2 (q ▸ hc)) e
 rcases hk with rfl | ⟨l1,rfl⟩
 ·refine wg (D1.done _ _ _ h1a λg2 e sb2 he=>?_)
  obtain⟨oe,hoe,hce⟩:=he;have zz2:IsZip g2 z TI TO .ellipsis:=sb2 _ _ ap.a3.symm zz1;have hez:e≠z:=λq=>by subst q;rw[zz2]at hoe;cases hoe;simp at hce
  exact W1 zz2 (by simp) λg3 _ sb3=>fin g3 e _ (λc o c1 _ c3 _ q=>sb3.extBut _ _ c1 (sb2 _ _ c3 (sb1.extBut _ _ c1 q))) ⟨oe,sb3.extBut _ _ hez hoe,hce⟩
 ·refine wg (D1.item k _ _ _ l1 h1a λx g2 t2 px h1b sb2=>wt ?_)
  have sb2:vJ i1 g1 g2:=sb2;have ho2:WE g2 TO a b:=sb2.extBut _ _ ap.a8 (sb1.extBut _ _ ap.a2 ho);have h2b:S2 k g2:=D2.frame _ _ _ h2a λc hc o e=>sb2.extBut c o (λq=>ap.b5 (q ▸ hc)) e
  refine wg (WD ho2 rfl ?_);refine wg (wpAny_updateSeq_pair ho2 λg3 ho3 sb3=>?_);have sb3:vJ TO g2 g3:=sb3;have h2c:S2 k g3:=D2.frame _ _ _ h2b λc hc o e=>sb3.extBut c o (λq=>ap.b4 (q ▸ hc)) e
  refine wg (wpAny_letGo (wt ?_));refine wg (wg (wpAny_onRaise ?_))
  show wq _ _ (vK (.ref i2) >>= _) _ _ _;refine wg (D2.done _ _ _ h2c λg4 e sb4 he=>?_)
  obtain⟨oe,hoe,hce⟩:=he;have zz4:IsZip g4 z TI TO .ellipsis:=sb4 _ _ ap.a4.symm (sb3.extBut _ _ ap.a2.symm (sb2.extBut _ _ ap.a3.symm zz1));have hez:e≠z:=λq=>by subst q;rw[zz4]at hoe;cases hoe;simp at hce
  exact W1 zz4 (by simp) λg5 _ sb5=>fin g5 e _ (λc o c1 c2 c3 c4 q=>sb5.extBut _ _ c1 (sb4 _ _ c4 (sb3.extBut _ _ c2 (sb2.extBut _ _ c3 (sb1.extBut _ _ c1 q))))) ⟨oe,sb5.extBut _ _ hez hoe,hce⟩
end
variable{t:Bool}{a:we}
def dg(t:Bool)(K:wa)(H:Hp)(a:we)(xs:List V):Prop:=match t with
 | true=>aV K H a xs
 | false=>aG K H a xs
def jQ(t:Bool)(h:wM)(it a:we)(i:Nat):Prop:=match t with
 | true=>h.IsTupleIter it a i
 | false=>h.IsListIter it a i
def SF(t:Bool)(h:wM)(a:we)(its:Array wf):Prop:=match t with
 | true=>h.IsTuple a its
 | false=>h.IsList a its
theorem pf{prog:wI}{w:wO}{A:w9}(t:Bool)(hh:A.handled=none)(it a:we)(hne:a≠it)(its:Array wf):Draws prog w A it [it,a] its.size (λi v=>its[i]? = some v) (λi h=>jQ t h it a i/\SF t h a its):=by
 cases t
 ·exact Draws.list hh it a hne its
 ·exact jJ hh it a hne its
theorem Inv.jo{X:Cx}{pins:List (we × Obj)}{σ : L2.St}{H:Hp}{s:wl}{xs:List V}(I:Inv X pins σ H s)(h:dg t X.K H a xs):∃its:List wf,aT xs its/\SF t s.heap a its.toArray:=by
 cases t
 ·obtain⟨its,r,p,_⟩:=I.list h
  exact⟨its,r,p.isList⟩
 ·obtain⟨its,r,p,_⟩:=I.tuple h
  exact⟨its,r,p⟩
theorem Inv.Jy{X:Cx}{pins:List (we × Obj)}{σ : L2.St}{H:Hp}{s:wl}{xs ys:List V}(I:Inv X pins σ H s)(h:dg t X.K H a xs)(k:dg t X.K H a ys):xs=ys:=by
 cases t
 ·exact I.A8 h k
 ·exact I.A4 h k
theorem jQ.obj{h:wM}{it:we}{i:Nat}(st:jQ t h it a i):∃o,h.get? it=some o /\ ∀v,o.data≠.cell v:=by
 cases t
 ·obtain⟨o,e,_,d⟩:=st
  exact⟨o,e,λv z=>by rw[d]at z;cases z⟩
 ·obtain⟨o,e,_,d⟩:=st
  exact⟨o,e,λv z=>by rw[d]at z;cases z⟩
theorem jQ.at{h h':wM}{it:we}{i:Nat}(st:jQ t h it a i)(k:∀o,h.get? it=some o->h'.get? it=some o):jQ t h' it a i:=by
 cases t
 ·exact Heap.IsListIter.at st k
 ·exact Heap.IsTupleIter.at st k
def mF(t u:Bool)(K:wa)(a b:we):It :=
 ⟨λi H=>∃xs x ys y,dg t K H a xs/\xs[i]? = some x/\dg u K H b ys/\ys[i]? = some y,
  λi H v H'=>∃(c:we)(x y:V),v=.ref c/\H c=none/\(∀xs,dg t K H a xs->xs[i]? = some x)/\(∀ys,dg u K H b ys->ys[i]? = some y)/\H'=upd H c (.tup [x,y]),
  λi H=>∃xs ys,dg t K H a xs/\dg u K H b ys/\(xs.length=i\/(i<xs.length/\ys.length=i))⟩
theorem zyQ{P:wI}{w:wO}{K:wa}{elts:List Expr}{k1}{tpos:Pos}{u:Bool}(a b z TI TO i1 i2:we)(ap:ZA z TI TO i1 i2 [i1,a] [i2,b])(na:a≠i1)(nb:b≠i2) :
  jF P w K (.Tuple elts k1 tpos) (mF t u K a b) [z,TI,TO,i1,i2] z (λi h=>IsZip h z TI TO .none/\WE h TI (.ref i1) (.ref i2)/\(∃p q,WE h TO p q)/\jQ t h i1 a i/\jQ u h i2 b i) where
 mem:=by simp
 obj:=λi h st c hc=>by
  obtain⟨hz,hi,⟨p,q,ho⟩,s1,s2⟩:=st;simp only[wR,VJ,or_false]at hc;rcases hc with rfl | rfl | rfl | rfl | rfl
  ·exact⟨_,hz,λv z=>by cases (show Data.fields _=Data.cell v from z)⟩
  ·exact⟨_,hi,λv z=>by cases (show Data.seq _ _=Data.cell v from z)⟩
  ·exact⟨_,ho,λv z=>by cases (show Data.seq _ _=Data.cell v from z)⟩
  ·exact s1.obj
  ·exact s2.obj
 keep:=λi h h' st k=>by
  obtain⟨hz,hi,⟨p,q,ho⟩,s1,s2⟩:=st;exact⟨k z (by simp) _ hz,k TI (by simp) _ hi,⟨p,q,k TO (by simp) _ ho⟩,s1.at λo e=>k i1 (by simp) o e,s2.at λo e=>k i2 (by simp) o e⟩
 item:=by
  intro X hP hw hK hc i pins s σ H E I hf st hg;subst hP hw hK;obtain⟨hz,hi,⟨p,q,ho⟩,s1,s2⟩:=st;obtain⟨xs,x,ys,y,hq1,hx,hq2,hy⟩:=hg;obtain⟨its,r1,p1⟩:=I.jo hq1;obtain⟨jts,r2,p2⟩:=I.jo hq2;obtain⟨ux,hux,rux⟩:=r1.get hx;obtain⟨uy,huy,ruy⟩:=r2.get hy
  have lt1:i<its.toArray.size:=by
   rcases wG i its.length with q | q
   ·simpa using q
   ·rw[wL q]at hux;cases hux
  have lt2:i<jts.toArray.size:=by
   rcases wG i jts.length with q | q
   ·simpa using q
   ·rw[wL q]at huy;cases huy
  have hT:s.TypeIs (.ref z) "zip":=⟨_,hz,rfl⟩;unfold pyNext
  refine wg (WV (wpAny_callSpecial?_slot (name:=vX "__next__") hT Wv (Wk Wv hT VL
   (Kk (pf (A:=X.A.in1) t (I.ok.hd hc) i1 a na its.toArray) (pf (A:=X.A.in1) u (I.ok.hd hc) i2 b nb jts.toArray) ap hz hi ho ⟨s1,p1⟩ ⟨s2,p2⟩ lt1 lt2 λv1 v2 h1 tk e1 e2 hz1 ho1 st1 st2 hT1 hk=>wt ?_) (VA _))))
  have ev1:v1=ux:=by
   have e1':its[i]? = some v1:=by simpa using e1
   rw[hux]at e1';exact(w5 e1').symm
  have ev2:v2=uy:=by
   have e2':jts[i]? = some v2:=by simpa using e2
   rw[huy]at e2';exact(w5 e2').symm
  subst ev1 ev2
  have I1:Inv X pins σ (upd H s.heap.objs.size (.tup [x,y])) {s with heap:=s.heap.push {cls:=.type "tuple",data:=.seq ([v1,v2]:List wf).toArray},toks:=tk} :=
   I.laid (λc o q=>wn _ q) (wp _) (show dS X.prog X.w _ _ _ (.tup [x,y])from⟨mW (by simp),_,.cons rux (.cons ruy .nil),qU _ _⟩)
  have ltf:∀c∈[z,TI,TO,i1,i2],c<s.heap.objs.size:=λc hc=>by
   simp only[wR,VJ,or_false]at hc;rcases hc with rfl | rfl | rfl | rfl | rfl
   ·exact wA hz
   ·exact wA hi
   ·exact wA ho
   ·obtain⟨o,e,_⟩:=s1.obj;exact wA e
   ·obtain⟨o,e,_⟩:=s2.obj;exact wA e
  have hf1:∀c∈[z,TI,TO,i1,i2],eP X pins (upd H s.heap.objs.size (.tup [x,y])) c:=λc hc=>⟨by rw[dh (wT (ltf c hc))];exact(hf c hc).1,(hf c hc).2⟩
  refine⟨_,rfl,wpAny_letOwnedTupleGo_zip hz1 λh2 hz2 hs2=>?_⟩;have hs2:vJ z h1 h2:=hs2
  refine⟨.ref s.heap.objs.size,_,Inv.sV (s:={s with heap:=s.heap.push {cls:=.type "tuple",data:=.seq ([v1,v2]:List wf).toArray},toks:=tk}) (ch:=[z,TI,TO,i1,i2]) I1 (λc o hc q=>?_) hf1,rfl,
   ⟨_,x,y,rfl,I.aM.fresh (wp _),λzs hzs=>by rw[I.Jy hzs hq1];exact hx,λzs hzs=>by rw[I.Jy hzs hq2];exact hy,rfl⟩,
   ⟨hz2,hs2.extBut _ _ ap.a1 (hk _ _ ap.a1 ap.a5 ap.a6 ap.a7 hi),⟨_,_,hs2.extBut _ _ ap.a2 ho1⟩,st1.1.at λo e=>hs2.extBut _ _ ap.a3 e,st2.1.at λo e=>hs2.extBut _ _ ap.a4 e⟩,λc hc=>(hf1 c hc).1⟩
  have c1:c≠z:=λq=>hc (by simp[q])
  have c2:c≠TO:=λq=>hc (by simp[q])
  have c3:c≠i1:=λq=>hc (by simp[q])
  have c4:c≠i2:=λq=>hc (by simp[q])
  refine hs2.extBut _ _ c1 ?_
  by_cases hcs:c=s.heap.objs.size
  ·subst hcs
   rw[wS _ rfl]at q;cases q;exact hT1
  ·exact hk c o c1 c2 c3 c4 (by rw[QC _ _ _ hcs]at q;exact q)
 done:=by
  intro X hP hw hK hc i pins s σ H E I hf st hg;subst hP hw hK;obtain⟨hz,hi,⟨p,q,ho⟩,s1,s2⟩:=st;obtain⟨xs,ys,hq1,hq2,hend⟩:=hg;obtain⟨its,r1,p1⟩:=I.jo hq1;obtain⟨jts,r2,p2⟩:=I.jo hq2;have e1:=r1.length;have e2:=r2.length;have hT:s.TypeIs (.ref z) "zip":=⟨_,hz,rfl⟩;unfold pyNext
  refine wg (WV (wpAny_callSpecial?_slot (name:=vX "__next__") hT Wv (Wk Wv hT VL
   (Ko (k:=i) (pf (A:=X.A.in1) t (I.ok.hd hc) i1 a na its.toArray) (pf (A:=X.A.in1) u (I.ok.hd hc) i2 b nb jts.toArray) ap hz hi ho ⟨s1,p1⟩ ⟨s2,p2⟩ (by simp only[wN];lia) λh' y tk hk hx'=>?_) (VA _))))
  obtain⟨o,ho',hcl⟩:=hx';refine wg (Vi (T:="StopIteration") (b:=true) ⟨o,ho',hcl⟩ isSubtype_stop (wt ⟨rfl,?_⟩));exact Inv.sV (ch:=[z,TI,TO,i1,i2]) I (λc o hc e=>hk c o (λq=>hc (by simp[q])) (λq=>hc (by simp[q])) (λq=>hc (by simp[q])) (λq=>hc (by simp[q])) e) hf
 self:=λ_ _ _ _ _ st h=>wpAny_pyIter_zip st.1 h
abbrev AK(h:wM)(a:we):wM:=h.push {cls:=.type "tuple_iterator",data:=.fields #[.ref a,.int 0 0]}
abbrev tU(h:wM)(a b:we):wM:=(AK h a).push {cls:=.type "tuple_iterator",data:=.fields #[.ref b,.int 0 0]}
abbrev uS(h:wM)(a b:we):wM:=(tU h a b).push {cls:=.type "tuple",data:=.seq #[.ref h.objs.size,.ref (AK h a).objs.size]}
abbrev tL(h:wM)(a b:we):wM:=(uS h a b).push {cls:=.type "tuple",data:=.seq #[.none,.none]}
abbrev nD(h:wM)(a b:we):wM:=(tL h a b).push {cls:=.type "zip",data:=.fields #[.none,.bool false,.bool false,.ref (tU h a b).objs.size,.ref (uS h a b).objs.size]}
theorem zuD(a b:we)(xs ys:Array wf):Meets (Builtin.«zip.__new__» ⟨[.type "zip",.ref a,.ref b],[]⟩) (λ_ R s=>s.heap.IsTuple a xs/\s.heap.IsTuple b ys/\R (.ok (.ret (.ref (tL s.heap a b).objs.size))) {s with heap:=nD s.heap a b}) :=
 .of_wp λprog w A R s h=>by
  obtain⟨hp,g,d,tk,os⟩:=s;obtain⟨ha,hb,h⟩:=h;have hsub:=sub_zip;have hA:Xa (XA ⟨hp,g,d,tk,os⟩) a xs:=ha;have hB:Xa (XA ⟨hp.push {cls:=.type "tuple_iterator",data:=.fields #[.ref a,.int 0 0]},g,d,tk,os⟩) b ys:=hb.at λo e=>wn _ e
  wp_walk using Vp hA,Vp hB
  exact⟨_,rfl,h⟩
section
variable{prog:wI}{w:wO}{A:w9}{E:wf->wl->Prop}{s:wl}
theorem Nt{a b:we}{xs ys:Array wf}{Q:wf->wl->Prop}(ha:s.heap.IsTuple a xs)(hb:s.heap.IsTuple b ys)
  (fin:∀h',IsZip h' (s.heap.objs.size+4) (s.heap.objs.size+2) (s.heap.objs.size+3) .none->WE h' (s.heap.objs.size+2) (.ref s.heap.objs.size) (.ref (s.heap.objs.size+1))->WE h' (s.heap.objs.size+3) .none .none ->
   h'.IsTupleIter s.heap.objs.size a 0->h'.IsTupleIter (s.heap.objs.size+1) b 0->(∀c o,s.heap.get? c=some o->h'.get? c=some o)->Q (.ref (s.heap.objs.size+4)) {s with heap:=h'}):wq (model prog w) A (call (.type "zip") [.ref a,.ref b]) Q E s:=by
 refine callType_new F.called_zip (by decide) (F.typeCall_zip_2 _ _) (F.newCall_zip_2 _ _) (λobj=>F.args_object_init_3 obj _ _) F.entry_zip_new (zuD a b xs ys) ⟨ha,hb,?_⟩;have z1:(AK s.heap a).objs.size=s.heap.objs.size+1:=V5 ..;have z2:(tU s.heap a b).objs.size=s.heap.objs.size+2:=by rw[V5,z1]
 have z3:(uS s.heap a b).objs.size=s.heap.objs.size+3:=by rw[V5,z2]
 have z4:(tL s.heap a b).objs.size=s.heap.objs.size+4:=by rw[V5,z3]
 have g5:(nD s.heap a b).get? (tL s.heap a b).objs.size=some _:=wS _ rfl;have g4:(nD s.heap a b).get? (uS s.heap a b).objs.size=some _:=wn _ (wS _ rfl);have g3:(nD s.heap a b).get? (tU s.heap a b).objs.size=some _:=wn _ (wn _ (wS _ rfl));have g2:(nD s.heap a b).get? (AK s.heap a).objs.size=some _:=wn _ (wn _ (wn _ (wS _ rfl)));have g1:(nD s.heap a b).get? s.heap.objs.size=some _:=wn _ (wn _ (wn _ (wn _ (wS _ rfl))))
 show _/\_
 rw[z2,z3,z4]at g5;rw[z1,z2]at g3;rw[z3]at g4;rw[z1]at g2;rw[z4];exact⟨⟨_,g5,rfl⟩,fin _ g5 g3 g4 ⟨_,g1,rfl,rfl⟩ ⟨_,g2,rfl,rfl⟩ λc o x=>wn _ (wn _ (wn _ (wn _ (wn _ x))))⟩
end
variable{a:we}{X:Cx}{elts:List Expr}{tpos:Pos}
def zV(t u:Bool)(K:wa)(ta:TA):TI:=λσ H R=>ta σ H λvs H1=>∃a b,vs=[.ref a,.ref b]/\(∃xs,dg t K H1 a xs)/\(∃ys,dg u K H1 b ys)/\R (mF t u K a b) H1
theorem FK :vO "zip"=some (.type "zip"):=by decide +kernel
theorem nQ{x b:we}(h:x≠a)(k:x≠b):x ∉ [a,b]:=by simp[h,k]
theorem Mg{n a b:Nat}(la:a<n)(lb:b<n):ZA (n+4) (n+2) (n+3) n (n+1) [n,a] [n+1,b] where
 a1:=wT (by lia)
 a2:=wT (by lia)
 a3:=wT (by lia)
 a4:=wT (by lia)
 a5:=wT (by lia)
 a6:=vv (by lia)
 a7:=vv (by lia)
 a8:=vv (by lia)
 a9:=vv (by lia)
 b0:=wT (by lia)
 b1:=nQ (vv (by lia)) (vv (by lia))
 b2:=nQ (vv (by lia)) (vv (by lia))
 b3:=nQ (vv (by lia)) (vv (by lia))
 b4:=nQ (vv (by lia)) (vv (by lia))
 b5:=nQ (wT (by lia)) (vv (by lia))
 b6:=nQ (vv (by lia)) (vv (by lia))
theorem Md{k1}{pins:List (we × Obj)}{σ : L2.St}{H:Hp}{s:wl}{R:It->Hp->Prop}{h':wM}{E:wf->wl->Prop}{t u:Bool}{b:we}(I:Inv X pins σ H s)(la:a<s.heap.objs.size)(lb:b<s.heap.objs.size)
  (hz:IsZip h' (s.heap.objs.size+4) (s.heap.objs.size+2) (s.heap.objs.size+3) .none) (hi:WE h' (s.heap.objs.size+2) (.ref s.heap.objs.size) (.ref (s.heap.objs.size+1))) (ho:WE h' (s.heap.objs.size+3) .none .none)
  (s1:jQ t h' s.heap.objs.size a 0) (s2:jQ u h' (s.heap.objs.size+1) b 0) (kp:∀c o,s.heap.get? c=some o->h'.get? c=some o) (q:R (mF t u X.K a b) H):wq (model X.prog X.w) X.A (pyIter (.ref (s.heap.objs.size+4))) (Dp X pins σ (.Tuple elts k1 tpos) R) E {s with heap:=h'}:=by
 refine wpAny_pyIter_zip hz ?_;refine⟨s.heap.objs.size+4,[s.heap.objs.size+4,s.heap.objs.size+2,s.heap.objs.size+3,s.heap.objs.size,s.heap.objs.size+1],_,_,H,rfl,I.kept (t':=s.toks) kp,zyQ a b _ (s.heap.objs.size+2) (s.heap.objs.size+3) s.heap.objs.size (s.heap.objs.size+1) (Mg la lb) (wT la) (wT (qM lb)),⟨hz,hi,⟨_,_,ho⟩,s1,s2⟩,λc hc=>?_,q⟩
 ·have hb':s.heap.objs.size<=c:=by
   simp only[wR,VJ,or_false]at hc;rcases hc with rfl | rfl | rfl | rfl | rfl
   ·exact Vg _ 4
   ·exact Vg _ 2
   ·exact Vg _ 3
   ·exact wp _
   ·exact Vg _ 1
  exact I.j5 hb' (I.aM.fresh hb')
theorem zz3{k1}{p pos:Pos}{l m:Expr}{ta:TA}(hg:Gl X "zip")(hm:X.mg "zip"=none)(ha:PA X [l,m] ta)(hs:vf [l,m] X.env=[(false,eval l X.env),(false,eval m X.env)]:=by rfl)(hs2:vf [m] X.env=[(false,eval m X.env)]:=by rfl) :
  PI X (.Tuple elts k1 tpos) (.Call (.Name "zip" p) [l,m] [] pos) (zV true true X.K ta):=by
 intro pins s σ H R I h;refine Call_ (gW I hg hm FK (vC (aQ (ha pos pins s σ H _ I h) λus s1 ⟨vs,H1,I1,r1,q1⟩=>?_) (by rw[hs,hs2]) (by rw[hs2];rfl)));obtain⟨a,b,rfl,⟨xs,hq1⟩,⟨ys,hq2⟩,q⟩:=q1;obtain⟨u,v,rfl,ru,rv⟩:=jI r1;cases ru;cases rv;obtain⟨its,_,p1⟩:=I1.jo hq1;obtain⟨jts,_,p2⟩:=I1.jo hq2;have la:a<s1.heap.objs.size:=by obtain⟨o,e,_⟩:=(show s1.heap.IsTuple a its.toArray from p1);exact wA e
 have lb:b<s1.heap.objs.size:=by obtain⟨o,e,_⟩:=(show s1.heap.IsTuple b jts.toArray from p2);exact wA e
 exact Nt p1 p2 λh' hz hi ho t1 t2 kp=>Md (t:=true) (u:=true) I1 la lb hz hi ho t1 t2 kp q
theorem FO{k1}{p pos:Pos}{l m:Expr}{ta:TA}(hg:Gl X "zip")(hm:X.mg "zip"=none)(ha:PA X [l,m] ta)(hs:vf [l,m] X.env=[(false,eval l X.env),(false,eval m X.env)]:=by rfl)(hs2:vf [m] X.env=[(false,eval m X.env)]:=by rfl) :
  PI X (.Tuple elts k1 tpos) (.Call (.Name "zip" p) [l,m] [] pos) (zV false false X.K ta):=by
 intro pins s σ H R I h;refine Call_ (gW I hg hm FK (vC (aQ (ha pos pins s σ H _ I h) λus s1 ⟨vs,H1,I1,r1,q1⟩=>?_) (by rw[hs,hs2]) (by rw[hs2];rfl)));obtain⟨a,b,rfl,⟨xs,hq1⟩,⟨ys,hq2⟩,q⟩:=q1;obtain⟨u,v,rfl,ru,rv⟩:=jI r1;cases ru;cases rv;obtain⟨its,_,p1⟩:=I1.jo hq1;obtain⟨jts,_,p2⟩:=I1.jo hq2;have la:a<s1.heap.objs.size:=by obtain⟨o,e,_⟩:=(show s1.heap.IsList a its.toArray from p1);exact wA e
 have lb:b<s1.heap.objs.size:=by obtain⟨o,e,_⟩:=(show s1.heap.IsList b jts.toArray from p2);exact wA e
 exact call_zip_2 p1 p2 λh' hz hi ho t1 t2 _ kp=>Md (t:=false) (u:=false) I1 la lb hz hi ho t1 t2 kp q
theorem dg.same{t:Bool}{K:wa}{H H':Hp}{xs:List V}(s:ah H H')(h:dg t K H a xs):dg t K H' a xs:=by
 cases t
 ·exact s.seq h
 ·exact s.jG h
def L8(t u:Bool)(K:wa)(g:TG)(tb:TS)(D:cN)(σ : L2.St)(vs:List V)(H1:Hp):Prop:=∃a b,vs=[.ref a,.ref b]/\(∃xs,dg t K H1 a xs)/\(∃ys,dg u K H1 b ys) /\
 ∃W:Nat->Nat->L2.St->Hp->Prop,(∃m,W 0 m σ H1) /\ ∀i m σ H,W i m σ H ->
  ((mF t u K a b).stop i H/\D.nx σ H)\/((mF t u K a b).go i H /\ ∃M:L2.St->Hp->Prop,(∀σ' H',M σ' H'->∃m',m'<m/\W (i+1) m' σ' H') /\ ∀x H',(mF t u K a b).fC i H x H'->g x σ H' λσ2 H2=>tb {D with nx:=M,ct:=M,bk:=D.nx} σ2 H2)
def F0(t u:Bool)(K:wa)(g:TG)(tt:TT)(te:TE)(src:List (Option Nat))(σ : L2.St)(vs:List V)(H1:Hp)(Q:VK):Prop:=∃a b,vs=[.ref a,.ref b]/\(∃xs,dg t K H1 a xs)/\(∃ys,dg u K H1 b ys) /\
 ∀D,H1 D=none->j8 g tt te (mF t u K a b) D (dP src σ) (upd H1 D (.lst [])) (λH'=>Q (.ref D) H')
section
variable{t u:Bool}{K:wa}{ta:TA}{g:TG}{tb:TS}{tt:TT}{te:TE}{D:cN}{σ : L2.St}{H:Hp}{Q:VK}{a b:we}{xs ys:List V}{src:List (Option Nat)}{o0 o0':Option V}{tl:L2.St}
theorem zAL(h:ta σ H λvs H1=>L8 t u K g tb D σ vs H1):mv (zV t u K ta) g tb D σ H:=h
theorem zxU(h:ta σ H λvs H1=>F0 t u K g tt te src σ vs H1 Q):km src (zV t u K ta) g tt te σ H Q:=h
theorem ZL(hx:dg t K H a xs)(hy:dg u K H b ys)(hxy:xs.length=ys.length)(Pv:Nat->L2.St->Hp->Prop)(h0:Pv 0 σ H)(hl:∀i σ H,i<=xs.length->Pv i σ H->dg t K H a xs/\dg u K H b ys)
  (hs:∀i x y σ H c H',xs[i]? = some x->ys[i]? = some y->Pv i σ H->H c=none->ah H H'->H' c=some (.tup [x,y])->g (.ref c) σ H' λσ2 H2=>tb {D with nx:=Pv (i+1),ct:=Pv (i+1),bk:=D.nx} σ2 H2) (hd:∀σ H,Pv xs.length σ H->D.nx σ H):L8 t u K g tb D σ [.ref a,.ref b] H:=by
 refine⟨a,b,rfl,⟨xs,hx⟩,⟨ys,hy⟩,λi m σ H=>i+m=xs.length/\Pv i σ H,⟨xs.length,by lia,h0⟩,?_⟩;rintro i m σ H ⟨him,hp⟩;obtain⟨hq1,hq2⟩:=hl i σ H (by lia) hp
 by_cases hm:m=0
 ·have e:i=xs.length:=by lia
  subst e;exact .inl ⟨⟨xs,ys,hq1,hq2,.inl rfl⟩,hd _ _ hp⟩
 ·have hi:i<xs.length:=by lia
  have hj:i<ys.length:=by lia
  refine .inr ⟨⟨xs,xs[i],ys,ys[i],hq1,by simp[hi],hq2,by simp[hj]⟩,λσ' H'=>Pv (i+1) σ' H',λσ' H' h=>⟨m-1,by lia,by lia,h⟩,?_⟩;rintro v H' ⟨c,x,y,rfl,hn,hx',hy',rfl⟩;exact hs i x y σ H c _ (hx' xs hq1) (hy' ys hq2) hp hn (ah.upd hn) cW
def gA(H:Hp)(tl:L2.St)(Rel:Nat->V->Hp->Prop)(D:we)(i:Nat)(zs:List V)(σ':L2.St)(H':Hp):Prop :=
 (∃o1 o2,σ'=o1::o2::tl)/\H D=none/\ah H H'/\H' D=some (.lst zs)/\zs.length=i /\ ∀j y,zs[j]? = some y->Rel j y H'
theorem pS{Rel:Nat->V->Hp->Prop}{D:we}{i:Nat}{zs:List V}{σ' σ3:L2.St}{H1 H5:Hp}{y:V}(inv:gA H tl Rel D i zs σ' H1)(hi:i<=1000)(hk:∀i v H1 H2,bK H1 H2->Rel i v H1->Rel i v H2)(hσ : ∃o1 o2,σ3=o1::o2::tl)(s:ah H1 H5)(r:Rel i y H5):rf (gA H tl Rel) D i σ3 y H5:=by
 obtain⟨_,hn,s1,hD,hl,hr⟩:=inv;have hD5:=s _ _ hD;refine iO hD5 (by lia) λH6 E6 e6=>⟨hσ,hn,(s1.trans s).grow hn E6,e6,by simp[hl],λj z hz=>?_⟩
 have k6:bK H5 H6:=E6.keep hD5;rcases wG j zs.length with hj | hj
 ·rw[Ww hj]at hz
  exact hk _ _ _ _ (s.keep.trans k6) (hr j z hz)
 ·have hj':j=zs.length:=by
   rcases wG zs.length j with q | q
   ·rw[wL (by simp;lia)]at hz;cases hz
   ·lia
  subst hj';rw[Wh (wp _),V3]at hz;cases hz;rw[hl];exact hk _ _ _ _ k6 r
theorem M9(hx:dg t K H a xs)(hy:dg u K H b ys)(hxy:xs.length=ys.length)(hsrc:dP src σ = o0::o0'::tl)(Rel:Nat->V->Hp->Prop)(hk:∀i v H1 H2,bK H1 H2->Rel i v H1->Rel i v H2)
  (hs:∀D i x y zs o1 o2 H1 c,xs[i]? = some x->ys[i]? = some y->gA H tl Rel D i zs (o1::o2::tl) H1->H1 c=some (.tup [x,y])->iu (gA H tl Rel) g tt te D i (.ref c) (o1::o2::tl) H1)
  (hd:∀D zs H',H D=none->ah H H'->H' D=some (.lst zs)->zs.length=xs.length->(∀j y,zs[j]? = some y->Rel j y H')->Q (.ref D) H'):F0 t u K g tt te src σ [.ref a,.ref b] H Q:=by
 refine⟨a,b,rfl,⟨xs,hx⟩,⟨ys,hy⟩,λD hD=>⟨λi m σ' H'=>i+m=xs.length /\ ∃zs,gA H tl Rel D i zs σ' H',⟨xs.length,by lia,[],⟨o0,o0',hsrc⟩,hD,ah.upd hD,cW,rfl,λj y z=>by simp at z⟩,?_⟩⟩;rintro i m σ' H' ⟨him,zs,inv⟩;have hq1:=dg.same inv.2.2.1 hx;have hq2:=dg.same inv.2.2.1 hy
 by_cases hm:m=0
 ·have e:i=xs.length:=by lia
  subst e;obtain⟨_,n,s,e,hl,r⟩:=inv;exact .inl ⟨⟨xs,ys,hq1,hq2,.inl rfl⟩,hd D zs H' n s e hl r⟩
 ·have hi:i<xs.length:=by lia
  have hj:i<ys.length:=by lia
  refine .inr ⟨⟨xs,xs[i],ys,ys[i],hq1,by simp[hi],hq2,by simp[hj]⟩,λσ2 H2=>∃zs,gA H tl Rel D (i+1) zs σ2 H2,λσ2 H2 h=>⟨m-1,by lia,by lia,h⟩,?_⟩;rintro v H2 ⟨c,x,y,rfl,hn,hx',hy',rfl⟩;obtain⟨⟨o1,o2,rfl⟩,n,s,e,hl,r⟩:=inv;have su:=ah.upd (o:=.tup [x,y]) hn;exact hs D i x y zs o1 o2 _ c (hx' xs hq1) (hy' ys hq2) ⟨⟨o1,o2,rfl⟩,n,s.trans su,su _ _ e,hl,λj y hy=>hk _ _ _ _ su.keep (r j y hy)⟩ cW
end
def BM(K:wa):List V->Hp->VK->Prop:=λxs H Q=>∃(p:we)(ns:List Int),xs=[.ref p]/\aV K H p (ns.map V.int)/\Q (.int ns.sum) H
theorem EY:vO "sum"=some (.builtin "sum"):=by decide +kernel
open PyProof.V PySem.Calls in
theorem zxs{X:Cx}(hc:X.calm=true):aE X (.builtin "sum") (BM X.K):=by
 intro pins s σ H xs us Q I r h;obtain⟨p,ns,rfl,hq,q⟩:=h;obtain⟨u,rfl,rx⟩:=jg r;cases rx;obtain⟨its,r',pl,hz⟩:=I.tuple hq;have hI:=w_ r';have hT:s.heap.IsTuple p its.toArray:=pl;obtain⟨zs,hx⟩:=hI.allInts.items;have hn:numsOf its.toArray.toList=ns:=by rw[show its.toArray.toList=its from rfl,hI.numsOf]
 rw[hx]at hT hn;rw[nums_intItems]at hn;refine PySem.W.ktm_sumG (I.ok.hd hc) hT λh' tk t' hk=>?_
 rw[preSum_eq,WR (by simp),hn];exact⟨.int ns.sum,H,I.kept (t':=tk) hk,⟨_,rfl⟩,q⟩
theorem zzG{K:wa}{H:Hp}{Q:VK}{v:V}{ns:List Int}(h:Is K H v (TZ ns))(q:Q (.int ns.sum) H):BM K [v] H Q:=by
 obtain⟨a,rfl,hs⟩:=pO.mp h;exact⟨a,ns,rfl,hs,q⟩
theorem zyA{α : Type}(xs:List α)(k:Nat)(h:k<=xs.length):jy xs (some (k:Int)) none=xs.drop k:=by
 unfold jy;rw[HT.YN,HT.YT,Nat.min_eq_left h];exact WR (by rw[vZ];lia)
def oz(K:wa):List V->Hp->VK->Prop:=λxs H Q=>∃(p:we)(bs:List Bool),xs=[.ref p]/\aG K H p (bs.map V.bl)/\Q (.bl (bs.all id)) H
theorem z9:vO "all"=some (.builtin "all"):=by decide +kernel
theorem UP{bs:List Bool} : ∀{us:List wf},aT (bs.map V.bl) us->us=bs.map Value.bool:=by
 induction bs with
 | nil=>intro us r;rw[QJ]at r;cases r;rfl
 | cons b bs ih =>
  intro us r;rw[ve]at r;cases r with
  | cons r1 r2 =>
   cases r1;rw[ve,ih r2]
theorem zuu(bs:List Bool):((wo bs.length).all λi=>(bs[i]?).getD true)=bs.all id:=by
 rw[vy,Wc,Wc]
 constructor
 ·intro h b hb
  obtain⟨i,hi,rfl⟩:=vj hb;have:=h i (wF.mpr hi);rw[wc hi]at this;exact this
 ·intro h i hi
  rw[wF]at hi;rw[wc hi];exact h _ (Wi hi)
open PyProof.V PySem.Calls in
theorem zX{X:Cx}(hc:X.calm=true):aE X (.builtin "all") (oz X.K):=by
 intro pins s σ H xs us Q I r h;obtain⟨p,bs,rfl,hq,q⟩:=h;obtain⟨u,rfl,rx⟩:=jg r;cases rx;obtain⟨its,r',pl,hz⟩:=I.list hq;have hi:its=bs.map Value.bool:=UP r';have hl:s.heap.IsList p its.toArray:=pl.isList;have hlt:p<s.heap.objs.size:=by obtain⟨_,e,_⟩:=hl;exact wA e
 refine call_all_walk (VZ hl ?_)
 refine⟨s.heap.objs.size,[s.heap.objs.size,p],[s.heap.objs.size],its.toArray.size,_,_,λi=>(bs[i]?).getD true,rfl,uc (A:=X.A.in1) (I.ok.hd hc) _ p (wT hlt) its.toArray,
  ⟨⟨_,wS _ rfl,rfl,rfl⟩,hl.push _⟩,λi v s' Q' E' hP hQ=>?_,λh' tk hk=>?_⟩
 ·have hP:its.toArray[i]? = some v:=hP
  rw[hi]at hP;simp only[xx,wu,Vj]at hP;obtain⟨b,e,rfl⟩:=hP;simp only[e,QP]at hQ;exact Wz hQ
 ·have e:((wo its.toArray.size).all λi=>(bs[i]?).getD true)=bs.all id:=by
   rw[wN,hi,wm];exact zuu bs
  rw[e];exact⟨.bl (bs.all id),H,I.kept (t':=tk) (λb x e=>hk b x (λhm=>by rw[wX.mp hm]at e;exact W5 _ (wA e)) (wn _ e)),rfl,q⟩
theorem p_{K:wa}{H:Hp}{Q:VK}{p:we}{bs:List Bool}(h:aG K H p (bs.map V.bl))(q:Q (.bl (bs.all id)) H):oz K [.ref p] H Q:=⟨p,bs,rfl,h,q⟩
section
variable{t u:Bool}{K:wa}{g:TG}{tt:TT}{te:TE}{σ : L2.St}{H:Hp}{Q:VK}{a b:we}{xs ys:List V}{src:List (Option Nat)}{o0 o0':Option V}{tl:L2.St}
theorem zxV(hx:dg t K H a xs)(hy:dg u K H b ys)(hxy:ys.length<xs.length)(hsrc:dP src σ = o0::o0'::tl)(Rel:Nat->V->Hp->Prop)(hk:∀i v H1 H2,bK H1 H2->Rel i v H1->Rel i v H2)
  (hs:∀D i x y zs o1 o2 H1 c,xs[i]? = some x->ys[i]? = some y->gA H tl Rel D i zs (o1::o2::tl) H1->H1 c=some (.tup [x,y])->iu (gA H tl Rel) g tt te D i (.ref c) (o1::o2::tl) H1)
  (hd:∀D zs H',H D=none->ah H H'->H' D=some (.lst zs)->zs.length=ys.length->(∀j y,zs[j]? = some y->Rel j y H')->Q (.ref D) H'):F0 t u K g tt te src σ [.ref a,.ref b] H Q:=by
 refine⟨a,b,rfl,⟨xs,hx⟩,⟨ys,hy⟩,λD hD=>⟨λi m σ' H'=>i+m=ys.length /\ ∃zs,gA H tl Rel D i zs σ' H',⟨ys.length,by lia,[],⟨o0,o0',hsrc⟩,hD,ah.upd hD,cW,rfl,λj y z=>by simp at z⟩,?_⟩⟩;rintro i m σ' H' ⟨him,zs,inv⟩;have hq1:=dg.same inv.2.2.1 hx;have hq2:=dg.same inv.2.2.1 hy
 by_cases hm:m=0
 ·have e:i=ys.length:=by lia
  subst e;obtain⟨_,n,s,e,hl,r⟩:=inv;exact .inl ⟨⟨xs,ys,hq1,hq2,.inr ⟨hxy,rfl⟩⟩,hd D zs H' n s e hl r⟩
 ·have hi:i<xs.length:=by lia
  have hj:i<ys.length:=by lia
  refine .inr ⟨⟨xs,xs[i],ys,ys[i],hq1,by simp[hi],hq2,by simp[hj]⟩,λσ2 H2=>∃zs,gA H tl Rel D (i+1) zs σ2 H2,λσ2 H2 h=>⟨m-1,by lia,by lia,h⟩,?_⟩;rintro v H2 ⟨c,x,y,rfl,hn,hx',hy',rfl⟩;obtain⟨⟨o1,o2,rfl⟩,n,s,e,hl,r⟩:=inv;have su:=ah.upd (o:=.tup [x,y]) hn;exact hs D i x y zs o1 o2 _ c (hx' xs hq1) (hy' ys hq2) ⟨⟨o1,o2,rfl⟩,n,s.trans su,su _ _ e,hl,λj y hy=>hk _ _ _ _ su.keep (r j y hy)⟩ cW
end
variable{H:Hp}
def R5(g:TG)(tb:TS)(D:cN)(σ : L2.St)(vs:List V)(H1:Hp):Prop:=∃i j:Int,vs=[.int i,.int j]/\(-(2^62)<=i/\i<2^62 /\ -(2^62)<=j/\j<2^62) /\
 ∃W:Nat->Nat->L2.St->Hp->Prop,(∃m,W 0 m σ H1) /\ ∀k m σ H,W k m σ H ->
  ((gG i (j-i).toNat).stop k H/\D.nx σ H)\/((gG i (j-i).toNat).go k H /\ ∃M:L2.St->Hp->Prop,(∀σ' H',M σ' H'->∃m',m'<m/\W (k+1) m' σ' H') /\ ∀x H',(gG i (j-i).toNat).fC k H x H'->g x σ H' λσ2 H2=>tb {D with nx:=M,ct:=M,bk:=D.nx} σ2 H2)
theorem Zg{ta:TA}{g:TG}{tb:TS}{D:cN}{σ : L2.St}(h:ta σ H λvs H1=>R5 g tb D σ vs H1):mv (N4 ta) g tb D σ H:=h
theorem zu7{g:TG}{tb:TS}{D:cN}{σ : L2.St}{lo hi:Int}(h0 : -1000000000<=lo)(h1:lo<1000000000)(h2 : -1000000000<=hi)(h3:hi<1000000000)(Pv:Nat->L2.St->Hp->Prop)(p:Pv 0 σ H)
  (hs:∀(i:Nat) σ H,i<(hi-lo).toNat->Pv i σ H->g (.int (lo+(i:Int))) σ H λσ2 H2=>tb {D with nx:=Pv (i+1),ct:=Pv (i+1),bk:=D.nx} σ2 H2)
  (hd:∀σ H,Pv (hi-lo).toNat σ H->D.nx σ H):R5 g tb D σ [.int lo,.int hi] H :=
 ⟨lo,hi,rfl,⟨by lia,by lia,by lia,by lia⟩,Mf (lo:=lo) Pv p hs hd⟩
def CH(K:wa):List V->Hp->VK->Prop:=λxs H Q=>∃x tp S T d b,xs=[x,.ref tp]/\aV K H tp [.ty S,.ty T]/\Is K H x d/\qG K (.type (kindOf d)) [.type S,.type T]=some b/\Q (.bl b) H
theorem ztL{X:Cx} : aE X (.builtin "isinstance") (CH X.K):=by
 intro pins s σ H xs us Q I r h;obtain⟨x,tp,S,T,d,b,rfl,ht,hd,e,q⟩:=h;obtain⟨u,w',rfl,rx,rt⟩:=jI r;cases (show w'=Value.ref tp from rt);obtain⟨tts,rv,⟨ot,ht1,ht2,n,ht3⟩,_⟩:=I.tuple ht;obtain⟨t1,t2,rfl,r1,r2⟩:=jI rv;cases (show t1=Value.type S from r1);cases (show t2=Value.type T from r2);obtain⟨c,dd,da,sl⟩:=ot;cases ht2;cases ht3;have fin:∀tk,EP X pins σ Q (.bool b) {s with toks:=tk}:=λtk=>⟨.bl b,H,I.tok _,rfl,q⟩
 cases d with
 | none =>
  cases l_.mp hd;cases (show u=Value.none from rx);exact W3 Xm I.dG True.intro ht1 e (λz=>nomatch z) fin
 | bool y =>
  cases m_.mp hd;cases (show u=Value.bool y from rx);exact W3 Xn I.dG True.intro ht1 e (λz=>nomatch z) fin
 | int i =>
  cases cw.mp hd;obtain⟨t,q⟩:=(show ∃t,u=Value.int i t from rx);cases q;exact W3 XR I.dG True.intro ht1 e (λz=>nomatch z) fin
 | str y =>
  cases fg.mp hd;obtain⟨t,q⟩:=(show ∃t,u=Value.str y t from rx);cases q;exact W3 XS I.dG True.intro ht1 e (λz=>nomatch z) fin
 | tuple ds =>
  obtain⟨a,xs,e1,hq,_⟩:=bZ.mp hd;subst e1;cases (show u=Value.ref a from rx);obtain⟨its,_,⟨o,h1,h2,_⟩,_⟩:=I.tuple hq;exact W3 x5 I.dG ⟨o,h1,h2⟩ ht1 e (λz=>nomatch z) fin
 | list ds =>
  obtain⟨a,xs,e1,hq,_⟩:=cb.mp hd;subst e1;cases (show u=Value.ref a from rx);obtain⟨its,_,⟨o,n,h1,h2,_⟩,_⟩:=I.list hq;exact W3 Xo I.dG ⟨o,h1,h2⟩ ht1 e (λz=>nomatch z) fin
 | dict kv =>
  obtain⟨a,kvs,e1,hq⟩:=zD.mp hd;subst e1;cases (show u=Value.ref a from rx);obtain⟨_,_,vs,_,o,es,ep,h1,h2,_⟩:=(show dS X.prog X.w H s.heap a (.dK kvs)from I.aM a _ hq);exact W3 Xp I.dG ⟨o,h1,h2.1⟩ ht1 e (λz=>nomatch z) fin
theorem zAV{K:wa}(d:wC):qG K (.type (kindOf d)) [.type "list",.type "tuple"]=some (pD d || jd d):=by cases d<;>rfl
theorem FP{K:wa}{Q:VK}{v:V}{tp:we}{d:wC}(h:Is K H v d)(t:H tp=some (.tup [.ty "list",.ty "tuple"]))(q:Q (.bl (pD d || jd d)) H):CH K [v,.ref tp] H Q :=
 ⟨v,tp,"list","tuple",d,_,rfl,.of t,h,zAV d,q⟩
section
variable{X:Cx}{tg:Expr}
def B1(K:wa)(tl:TE):TI:=λσ H R=>tl σ H λx H1=>(∃a,x=.ref a/\(∃xs,aG K H1 a xs)/\R (jw K a) H1)\/(∃a,x=.ref a/\(∃xs,aV K H1 a xs)/\R (ju K a) H1)
theorem Cj{l:Expr}{tl:TE}(hl:PE X l tl):PI X tg l (B1 X.K tl):=by
 intro pins s σ H R I h;refine aQ (hl pins s σ H _ I h) λv s1 ⟨x,H1,I1,r1,q1⟩=>?_
 rcases q1 with⟨a,e,⟨xs,hq⟩,q⟩ | ⟨a,e,⟨xs,hq⟩,q⟩
 ·subst e
  cases r1;obtain⟨its,rv,p,hz⟩:=I1.list hq;refine VZ p.isList ?_;refine⟨s1.heap.objs.size,[s1.heap.objs.size],_,_,H1,rfl,I1.kept (t':=s1.toks) λb o e=>wn _ e,Po a _,⟨_,wS _ rfl,rfl,rfl⟩,λb hb=>?_,q⟩;have e:b=s1.heap.objs.size:=by simpa using hb
  subst e;exact I1.j5 (wp _) (I1.aM.fresh (wp _))
 ·subst e
  cases r1;obtain⟨its,rv,p,hz⟩:=I1.tuple hq;refine Vp (show s1.heap.IsTuple a its.toArray from p) ?_;refine⟨s1.heap.objs.size,[s1.heap.objs.size],_,_,H1,rfl,I1.kept (t':=s1.toks) λb o e=>wn _ e,Kw a _,⟨_,wS _ rfl,rfl,rfl⟩,λb hb=>?_,q⟩;have e:b=s1.heap.objs.size:=by simpa using hb
  subst e;exact I1.j5 (wp _) (I1.aM.fresh (wp _))
end
section
variable{K:wa}{g:TG}{tt:TT}{te ta tb' tc:TE}{tb:TS}{D:cN}{src:List (Option Nat)}{σ : St}{H:Hp}{Q:VK}{r r':R2}
theorem zzz(h:ta σ H λx H1=>zc K g tt te src σ x H1 Q\/uQ K g tt te src σ x H1 Q):km src (B1 K ta) g tt te σ H Q:=h
theorem zAw(h:te σ H λx H1=>EU K g tb D σ x H1\/M7 K g tb D σ x H1):mv (B1 K te) g tb D σ H:=h
theorem zyp(h:ta σ H λx H1=>tb' σ H1 λy H2=>r x y H2 λz H3=>∃k,z=.bl k/\(if k=true then tc σ H3 λw' H4=>r' y w' H4 Q else Q (.bl false) H3)):RS r r' ta tb' tc σ H Q:=h
theorem zDf{b:Bool}{P:Bool->Prop}(h:P b):∃k,V.bl b=.bl k/\P k:=⟨b,rfl,h⟩
end
def bM(a b:Rat)(xs:List Rat):wC:=.tuple [R a b,TN xs]
theorem LG(a b:Rat)(xs:List Rat):dq (bM a b xs)=true:=by rw[bM,dq,cz,cz,cz,yw,lP];rfl
theorem zDy{x y:Rat}(h:N x=N y):x=y:=by
 have h':PyData.tuple [.int x.num,.int (x.den:Int)]=PyData.tuple [.int y.num,.int (y.den:Int)]:=h
 injection h' with h1
 injection h1 with h2 h3
 injection h2 with h4
 injection h3 with h5 _
 injection h5 with h6
 exact um h4 (by lia)
theorem sE{K:wa}{H:Hp}{us:List V}{ds:List wC}{i:Nat}{x:V}(t:aj K H us ds)(h:us[i]? = some x):i<ds.length/\Is K H x (ds.getD i .none):=by
 have hl:=t.length
 have hi:i<ds.length:=by
  rcases wG i ds.length with z | z
  ·exact z
  ·rw[wL (by lia)]at h;cases h
 obtain⟨y,e,k⟩:=t.get (i:=i) (d:=ds.getD i .none) (by rw[wb,wc hi];rfl);rw[e]at h;cases h;exact⟨hi,k⟩
theorem zDH(a b c d:Rat)(xs ys:List Rat):wP (bM a b xs) (bM c d ys)=(decide (a=c)&&decide (b=d)&&decide (xs=ys)):=by
 unfold bM;rw[wP,Wj,Wj,Wj,zDZ,Nn];simp
def Dc:List V->Hp->VK->Prop:=λxs H Q=>∃i j,xs=[.int i,.int j]/\Q (.int (if j<i then j else i)) H
theorem zxb{X:Cx}(hc:X.calm=true):aE X (.builtin "min") Dc:=zwT hc
theorem zC2:vO "min"=some (.builtin "min"):=by decide +kernel
theorem zBl{i j:Int}{H:Hp}{Q:VK}(q:∀m:Int,m<=i->m<=j->(m=i\/m=j)->Q (.int m) H):Dc [.int i,.int j] H Q:=⟨i,j,rfl,by
 split
 ·exact q j (by lia) (by lia) (.inr rfl)
 ·exact q i (by lia) (by lia) (.inl rfl)⟩
def ED(K:wa)(a:we):It :=
 ⟨λi H=>∃xs x,aG K H a xs/\xs[i]? = some x,λi H y H'=>∃t x,y=.ref t/\H t=none/\(∀xs,aG K H a xs->xs[i]? = some x)/\H'=upd H t (.tup [.int (i:Int),x]),λi H=>∃xs,aG K H a xs/\xs.length<=i⟩
theorem zt0{P:wI}{w:wO}{K:wa}{elts:List Expr}{k1}{tpos:Pos}(a e it:we)(hne:e≠it):jF P w K (.Tuple elts k1 tpos) (ED K a) [e,it] e (λi h=>(∃old,IsEnum h e it (i:Int) old)/\h.IsListIter it a i) where
 mem:=by simp
 obj:=λi h st b hb=>by
  obtain⟨⟨old,he⟩,o,eo,c,d⟩:=st;rcases wR.mp hb with rfl | hb
  ·exact⟨_,he,λv z=>by cases (show Data.fields _=Data.cell v from z)⟩
  ·rw[wX.mp hb]
   exact⟨o,eo,λv z=>by rw[d]at z;cases z⟩
 keep:=λi h h' st k=>⟨let ⟨old,he⟩:=st.1;⟨old,k e (by simp) _ he⟩,st.2.at λo eo=>k it (by simp) o eo⟩
 item:=by
  intro X hP hw hK hc i pins s σ H E I hf st hg;subst hP hw hK;obtain⟨⟨old,he⟩,st⟩:=st;obtain⟨xs,x,hq,hx⟩:=hg;obtain⟨its,rv,p,hz⟩:=I.list hq;obtain⟨u,hu,ru⟩:=rv.get hx;have p':s.heap.IsList a its.toArray:=p.isList
  have hai:a≠it:=λz=>by
   subst z;obtain⟨o,e1,c1,_⟩:=st;obtain⟨o',e2,c2,_⟩:=p';rw[e1]at e2;cases e2;rw[c1]at c2;exact absurd c2 (by decide)
  have hae:e≠a:=λz=>by
   subst z;obtain⟨o',e2,c2,_⟩:=p';rw[he]at e2;cases e2;exact absurd (show Value.type "enumerate"=Value.type "list" from c2) (by decide)
  have hlt:i<its.toArray.size:=by
   rcases wG i its.length with z | z
   ·simpa using z
   ·rw[wL z]at hu;cases hu
  refine wpAny_pyNext_enum_itemD (Draws.list (A:=X.A.in1) (I.ok.hd hc) it a hai its.toArray) he ⟨st,p'⟩ hlt hne (by simp[hne,hae]) λv h1 tk hv ho hs1 hT hsz hk=>?_
  have hvu:v=u:=by
   have hv':its[i]? = some v:=by simpa using hv
   rw[hu]at hv';exact(w5 hv').symm
  subst hvu
  have I1:Inv X pins σ (upd H s.heap.objs.size (.tup [.int (i:Int),x])) {s with heap:=s.heap.push {cls:=.type "tuple",data:=.seq ([.int (i:Int) tk,v]:List wf).toArray},toks:=tk+1} :=
   I.laid (λb o q=>wn _ q) (wp _) (show dS X.prog X.w _ _ _ (.tup [.int (i:Int),x])from⟨mW (by simp),_,.cons ⟨_,rfl⟩ (.cons ru .nil),qU _ _⟩)
  have lt1:∀b∈[e,it],b<s.heap.objs.size:=λb hb=>by
   rcases wR.mp hb with rfl | hb
   ·exact wA he
   ·rw[wX.mp hb]
    obtain⟨o,eo,_⟩:=st;exact wA eo
  have hf1:∀b∈[e,it],eP X pins (upd H s.heap.objs.size (.tup [.int (i:Int),x])) b:=λb hb=>⟨by rw[dh (wT (lt1 b hb))];exact(hf b hb).1,(hf b hb).2⟩
  refine⟨_,rfl,wpAny_letOwnedTupleGo_enum ho λh2 he2 hs2=>?_⟩;refine⟨.ref s.heap.objs.size,_,Inv.sV (s:={s with heap:=s.heap.push {cls:=.type "tuple",data:=.seq ([.int (i:Int) tk,v]:List wf).toArray},toks:=tk+1}) (ch:=[e,it]) I1 (λb o hb q=>?_) hf1,rfl,⟨_,x,rfl,I.aM.fresh (wp _),λys hy=>by rw[I.A8 hy hq];exact hx,rfl⟩,⟨⟨_,by simpa using he2⟩,hs1.1.at λo eo=>(hs2.2 it (Wt hne)).trans eo⟩,λb hb=>(hf1 b hb).1⟩;have hbe:b≠e:=λz=>hb (by simp[z])
  have hbi:b≠it:=λz=>hb (by simp[z])
  refine(hs2.2 b hbe).trans ?_
  by_cases hb2:b=s.heap.objs.size
  ·subst hb2
   rw[wS _ rfl]at q;cases q;exact hT
  ·exact hk b o hbe hbi (by rw[QC _ _ _ hb2]at q;exact q)
 done:=by
  intro X hP hw hK hc i pins s σ H E I hf st hg;subst hP hw hK;obtain⟨⟨old,he⟩,st⟩:=st;obtain⟨xs,hq,hx⟩:=hg;obtain⟨its,rv,p,hz⟩:=I.list hq;have p':s.heap.IsList a its.toArray:=p.isList;have hl:=rv.length;have hT:s.TypeIs (.ref e) "enumerate":=⟨_,he,rfl⟩;unfold pyNext;refine wg (WV (wpAny_callSpecial?_slot (name:=vX "__next__") hT V7 (Wk V7 hT xl ?_ (QV _))))
  show wq _ _ (field (.ref e) 2 >>= _) _ _ _;refine wg (vD he rfl (x:=.ref it) rfl ?_)
  refine wg (wpAny_nextOf_list_end (A:=X.A.in1) (I.ok.hd hc) st p' (by simp;lia) λh' y he' hx'=>?_);obtain⟨o,ho,hcl⟩:=hx';refine wg (Vi (T:="StopIteration") (b:=true) ⟨o,ho,hcl⟩ isSubtype_stop (wt ⟨rfl,?_⟩));obtain⟨f0,f1,f2,f3,f4,f5⟩:=hf it (by simp);exact I.turned (t':=s.toks) (λb o hb e=>he' b o hb e) f0 f1 f3 f4 f5
 self:=λ_ _ _ _ _ st h=>let ⟨_,he⟩:=st.1;wpAny_pyIter_enum he h
def NH(K:wa)(ta:TA):TI:=λσ H R=>ta σ H λvs H1=>∃a,vs=[.ref a]/\(∃xs,aG K H1 a xs)/\R (ED K a) H1
theorem zys{X:Cx}{elts:List Expr}{k1}{tpos p pos:Pos}{l:Expr}{ta:TA}(hg:Gl X "enumerate")(hm:X.mg "enumerate"=none)(ha:PA X [l] ta)(hs:vf [l] X.env=[(false,eval l X.env)]:=by rfl) :
  PI X (.Tuple elts k1 tpos) (.Call (.Name "enumerate" p) [l] [] pos) (NH X.K ta):=by
 intro pins s σ H R I h;refine Call_ (gW I hg hm Ot (vC (aQ (ha pos pins s σ H _ I h) λus s1 ⟨vs,H1,I1,r1,q1⟩=>?_) hs rfl));obtain⟨a,rfl,⟨xs,hq⟩,q⟩:=q1;obtain⟨u,rfl,ru⟩:=jg r1;cases ru;obtain⟨its,rv,p,hz⟩:=I1.list hq;refine call_enumerate_list p.isList λh' he hit _ kp=>?_
 refine wpAny_pyIter_enum he ?_;refine⟨s1.heap.objs.size+1,[s1.heap.objs.size+1,s1.heap.objs.size],_,_,H1,rfl,I1.kept (t':=s1.toks) kp,zt0 a (s1.heap.objs.size+1) s1.heap.objs.size (XV _),⟨⟨_,he⟩,hit⟩,λb hb=>?_,q⟩
 have hb':s1.heap.objs.size<=b:=by
  rcases wR.mp hb with rfl | hb
  ·lia
  ·rw[wX.mp hb];exact wp _
 exact I1.j5 hb' (I1.aM.fresh hb')
def SI(K:wa)(g:TG)(tt:TT)(te:TE)(src:List (Option Nat))(σ : St)(vs:List V)(H1:Hp)(Q:VK):Prop:=∃a,vs=[.ref a]/\(∃xs,aG K H1 a xs) /\
 ∀D,H1 D=none->j8 g tt te (ED K a) D (dP src σ) (upd H1 D (.lst [])) (λH'=>Q (.ref D) H')
section
variable{K:wa}{ta:TA}{g:TG}{tb:TS}{tt c:TT}{te:TE}{D:cN}{σ : St}{H:Hp}{Q:VK}{a:we}{xs:List V}{src:List (Option Nat)}{o0 o0':Option V}{tl:St}
theorem zwz(h:ta σ H λvs H1=>SI K g tt te src σ vs H1 Q):km src (NH K ta) g tt te σ H Q:=h
theorem zyP(hx:aG K H a xs)(hsrc:dP src σ = o0::o0'::tl)(Rel:Nat->V->Hp->Prop)(hk:∀i v H1 H2,bK H1 H2->Rel i v H1->Rel i v H2)
  (hs:∀D i x zs o1 o2 H1 c,xs[i]? = some x->gA H tl Rel D i zs (o1::o2::tl) H1->H1 c=some (.tup [.int (i:Int),x])->iu (gA H tl Rel) g tt te D i (.ref c) (o1::o2::tl) H1)
  (hd:∀D zs H',H D=none->ah H H'->H' D=some (.lst zs)->zs.length=xs.length->(∀j y,zs[j]? = some y->Rel j y H')->Q (.ref D) H'):SI K g tt te src σ [.ref a] H Q:=by
 refine⟨a,rfl,⟨xs,hx⟩,λD hD=>⟨λi m σ' H'=>i+m=xs.length /\ ∃zs,gA H tl Rel D i zs σ' H',⟨xs.length,by lia,[],⟨o0,o0',hsrc⟩,hD,ah.upd hD,cW,rfl,λj y z=>by simp at z⟩,?_⟩⟩;rintro i m σ' H' ⟨him,zs,inv⟩;have hq1:=inv.2.2.1.seq hx
 by_cases hm:m=0
 ·have e:i=xs.length:=by lia
  subst e;obtain⟨_,n,s,e,hl,r⟩:=inv;exact .inl ⟨⟨xs,hq1,wp _⟩,hd D zs H' n s e hl r⟩
 ·have hi:i<xs.length:=by lia
  refine .inr ⟨⟨xs,xs[i],hq1,by simp[hi]⟩,λσ2 H2=>∃zs,gA H tl Rel D (i+1) zs σ2 H2,λσ2 H2 h=>⟨m-1,by lia,by lia,h⟩,?_⟩;rintro v H2 ⟨c,x,rfl,hn,hx',rfl⟩;obtain⟨⟨o1,o2,rfl⟩,n,s,e,hl,r⟩:=inv;have su:=ah.upd (o:=.tup [.int (i:Int),x]) hn;exact hs D i x zs o1 o2 _ c (hx' xs hq1) ⟨⟨o1,o2,rfl⟩,n,s.trans su,su _ _ e,hl,λj y hy=>hk _ _ _ _ su.keep (r j y hy)⟩ cW
def UQ(Pv:Nat->St->Hp->Prop)(m:Nat)(tb:TS)(D:cN)(σ':St)(H1:Hp):Prop :=
 ∃M:St->Hp->Prop,(∀σ2 H2,M σ2 H2->∃m',m'<m/\Pv m' σ2 H2)/\tb {D with nx:=M,ct:=M,bk:=D.nx} σ' H1
theorem jN(Pv:Nat->St->Hp->Prop)(m0:Nat)(h0:Pv m0 σ H)(hs:∀m σ' H',Pv m σ' H'->c σ' H' λb H1=>if b=true then UQ Pv m tb D σ' H1 else D.nx σ' H1):DC c tb D σ H:=⟨Pv,⟨m0,h0⟩,hs⟩
theorem ky{Pv:Nat->St->Hp->Prop}{m:Nat}{σ':St}{H1:Hp}(h:tb {D with nx:=λσ2 H2=>∃m',m'<m/\Pv m' σ2 H2,ct:=λσ2 H2=>∃m',m'<m/\Pv m' σ2 H2,bk:=D.nx} σ' H1):UQ Pv m tb D σ' H1:=⟨_,λ_ _ q=>q,h⟩
def zx(K:wa)(x:V)(H:Hp)(Q:Bool->Hp->Prop):Prop:=∃k,DL K x H k/\Q k H
def Np(K:wa)(te:TE):TT:=λσ H Q=>te σ H λx H'=>zx K x H' Q
theorem EC{X:Cx}{e:Expr}{t:TE}(h:PE X e t)(he:∀whole,isTrue e X.env whole=(do let v <- whole;standAt e.pos;holding [v] (truthy v)):=by intro _;rfl):PT X e (Np X.K t):=zxT h he
theorem zDe{QB:Bool->Hp->Prop}(h:te σ H λx H'=>zx K x H' QB):Np K te σ H QB:=h
theorem zzR{QB:Bool->Hp->Prop}{v:V}{ds:List wC}(h:Is K H v (.tuple ds))(q:QB (!ds.isEmpty) H):zx K v H QB:=by
 obtain⟨p,us,rfl,hs,t⟩:=bZ.mp h;have hl:=t.length;refine⟨_,.inr (.inl ⟨us,hs,rfl⟩),?_⟩
 have e:us.isEmpty=ds.isEmpty:=by
  cases us<;>cases ds<;>simp_all
 rw[e];exact q
theorem PU{QB:Bool->Hp->Prop}{v:V}{ds:List wC}(h:Is K H v (.list ds))(q:QB (!ds.isEmpty) H):zx K v H QB:=by
 obtain⟨p,us,rfl,hs,t⟩:=cb.mp h;have hl:=t.length;refine⟨_,.inl ⟨us,hs,rfl⟩,?_⟩
 have e:us.isEmpty=ds.isEmpty:=by
  cases us<;>cases ds<;>simp_all
 rw[e];exact q
end
theorem Se:∀(ys:List V)(us:List wf),ys.length=us.length->(∀(i:Nat) y u,ys[i]? = some y->us[i]? = some u->bE y u)->aT ys us
 | [],[],_,_=>.nil
 | [],_::_,h,_=>by simp at h
 | _::_,[],h,_=>by simp at h
 | y::ys,u::us,h,r=>.cons (r 0 y u rfl rfl) (Se ys us (by simpa using h) λi y u h1 h2=>r (i+1) y u h1 h2)
def vz(l:List Nat):List V:=l.map λ(w:Nat)=>V.int (w:Int)
theorem gk(l:List Nat):(vz l).length=l.length:=wm ..
def Ew(vs:List V)(H1:Hp)(Q:VK):Prop:=∃j:Int,vs=[.int j]/\0<=j/\j<=1000 /\ ∀l,H1 l=none->Q (.ref l) (upd H1 l (.lst (vz (wo j.toNat))))
def Mh(ta:TA):TE:=λσ H Q=>ta σ H λvs H1=>Ew vs H1 Q
theorem zq8{X:Cx}{a:Expr}{ta:TA}{p p2 pos pos2:Pos}(hc:X.calm=true)(hg:Gl X "list")(hm:X.mg "list"=none)(hg2:Gl X "range")(hm2:X.mg "range"=none)(ha:PA X [a] ta)(hs:vf [a] X.env=[(false,eval a X.env)]:=by rfl)
  (hs2:vf [Expr.Call (.Name "range" p2) [a] [] pos2] X.env=[(false,eval (.Call (.Name "range" p2) [a] [] pos2) X.env)]:=by rfl):PE X (.Call (.Name "list" p) [.Call (.Name "range" p2) [a] [] pos2] [] pos) (Mh ta):=by
 intro pins s σ H Q I h;refine Call_ (gW I hg hm g_ ?_);refine vC ?_ hs2 rfl;rw[hs2]
 show wq _ _ (spliced ((false,eval _ X.env)::backTo pos [])) _ _ s
 refine Qn ?_;refine Call_ (gW I hg2 hm2 boot_range (vC (aQ (ha pos2 pins s σ H _ I h) λus s1 ⟨vs,H1,I1,r1,q1⟩=>?_) hs rfl));obtain⟨j,e,j0,j1,q⟩:=q1;subst e;obtain⟨u,rfl,ru⟩:=jg r1;obtain⟨t,rfl⟩:=ru;refine call_range_1 ?_;refine Qy ?_;have I2:Inv X pins σ H1 {s1 with heap:=s1.heap.push {cls:=.type "range",data:=.fields #[.int 0 s1.toks,.int j t,.int 1 (s1.toks+1)]},toks:=s1.toks+1+1}:=I1.kept λb o e=>wn _ e
 refine call_list_range (n:=j.toNat) (I1.ok.hd hc) (uJ ..) (small_one (by lia) (by lia) (by lia) (by lia)) (by rw[rangeSize_one];split<;>lia) (by lia) λh' tk acc c hk hD hI=>?_
 refine⟨.ref _,_,I2.laid (t':=tk) hk (wp _) ?_,rfl,q _ (I2.aM.fresh (wp _))⟩;refine⟨mW (by rw[gk,vi];lia),acc.toList,c,Se _ _ (by rw[gk,vi,W9,hI.1]) λi y u hy hu=>?_,by simpa using hD⟩;have hu':acc[i]? = some u:=by simpa using hu
 obtain⟨t',e'⟩:=hI.2 i u hu'
 have hi:i<j.toNat:=by
  have:=(WU.mp hu').1;rw[hI.1]at this;exact this
 have hy':y=V.int (i:Int):=by
  unfold vz at hy;rw[wu,vH hi]at hy;exact(w5 hy).symm
 subst hy';exact⟨t',by rw[e'];congr 1;lia⟩
theorem zrj{ta:TA}{σ : St}{H:Hp}{Q:VK}(h:ta σ H λvs H1=>Ew vs H1 Q):Mh ta σ H Q:=h
theorem zxD{n:Nat}{H:Hp}{Q:VK}(hn:n<=1000)(q:∀l H',H l=none->ah H H'->H' l=some (.lst (vz (wo n)))->Q (.ref l) H'):Ew [V.int (n:Int)] H Q :=
 ⟨_,rfl,by lia,by lia,λl hl=>q l _ hl (ah.upd hl) (by rw[wD];exact cW)⟩
theorem Gd(w:Nat)(l:List Nat):m3 (.int (w:Int)) (vz l)=decide (w∈l):=by
 unfold m3 vz
 induction l with
 | nil=>rfl
 | cons x l ih =>
  rw[ve,Qu,ih]
  show((x:Int) == (w:Int) || _)=_
  by_cases h:w=x
  ·subst h;simp
  ·have h':¬ (x:Int)=(w:Int):=λz=>h (by lia)
   simp[h,h']
theorem Dg(l:List Nat):(vz l).all jL=true:=by
 unfold vz;rw[Wc];intro y hy;obtain⟨w,_,rfl⟩:=wV.mp hy
 rfl
section
variable{K:wa}{H H':Hp}{Q:VK}{v:V}{p:we}{l:List Nat}{w:Nat}
variable{ds:List wC}
theorem zul(h:aV K H p (vz l))(q:Q (.bl (!decide (w∈l))) H):fY K true (.int (w:Int)) (.ref p) H Q:=⟨p,vz l,rfl,.inr h,rfl,Dg l,by rw[Gd];exact q⟩
theorem Pm(h:aG K H p (vz l))(q:Q (.bl (decide (w∈l))) H):fY K false (.int (w:Int)) (.ref p) H Q:=⟨p,vz l,rfl,.inl h,rfl,Dg l,by rw[Gd];exact q⟩
theorem MY(h:aG K H p (vz l))(q:Q (.bl (!decide (w∈l))) H):fY K true (.int (w:Int)) (.ref p) H Q:=⟨p,vz l,rfl,.inl h,rfl,Dg l,by rw[Gd];exact q⟩
def TW(l:List Nat):wC:=TZ (l.map λ(w:Nat)=>(w:Int))
theorem yW :Is K H v (TW l) ↔ ∃a,v=.ref a/\aV K H a (vz l):=by
 unfold TW vz;rw[pO,V4];exact Iff.rfl
theorem u4(l:List Nat):dq (TW l)=true:=zCq _
def m9(ws:List (List Nat)):wC:=.tuple (ws.map TW)
theorem nM:∀ws:List (List Nat),cz (ws.map TW)=true
 | []=>rfl
 | w::ws=>by rw[ve,cz,u4,nM ws];rfl
theorem zA0(ws:List (List Nat)):dq (m9 ws)=true:=by rw[m9,dq];exact nM ws
theorem Bz{i:Nat}{x:V}(h:(vz l)[i]? = some x):∃hi:i<l.length,x=.int ((l[i]:Nat):Int):=by
 have hi:i<l.length:=by
  rcases wG i l.length with z | z
  ·exact z
  ·rw[wL (by rw[gk];exact z)]at h;cases h
 refine⟨hi,?_⟩;unfold vz at h;rw[wu,wc hi]at h;exact(w5 h).symm
def GD(a b:Rat)(xs:List Rat):wC:=.tuple [N (1-a_ xs),m9 (cH a b xs),bM a b (cZ a b xs)]
def Aj(h:Rat)(ws:List (List Nat))(xs:List Rat):wC:=.tuple [N h,m9 ws,TN xs]
theorem Lx(h:Rat)(ws:List (List Nat))(xs:List Rat):dq (Aj h ws xs)=true:=by rw[Aj,dq,cz,cz,cz,cz,kM,zA0,lP];rfl
def MD(a b:Rat)(xs:List Rat)(k:Nat):wC:=Aj (bC a b xs (k+1)) (cH a b (ai a b xs k)) (ai a b xs (k+1))
def h9(a b:Rat)(xs:List Rat)(n:Nat):List wC:=(wo n).map (MD a b xs)
theorem rm{α : Type}(f : α -> wC)(hf:∀x,dq (f x)=true):∀l:List α,cz (l.map f)=true
 | []=>rfl
 | x::l=>by rw[ve,cz,hf,rm f hf l];rfl
theorem aj.snoc{vs:List V}{d:wC}(h:aj K H vs ds)(k:Is K H v d):aj K H (vs++[v]) (ds++[d]):=h.append (.cons k .nil)
theorem pG{i:Nat}(h:i<l.length):l.take (i+1)=l.take i++[l[i]]:=by
 rw[qL,wc h];rfl
theorem nG{d:wC}{j:Nat}(h:Is K H v (.list ds))(e:ds[j]? = some d)(q:∀x,Is K H x d->Q x H):c9 K v (.int (j:Int)) H Q:=by
 obtain⟨a,xs,rfl,h,t⟩:=cb.mp h;obtain⟨x,e1,hx⟩:=t.get e;exact jc h (kQ e1) (q x hx)
theorem Ti{n:Nat}(h:Is K H v (.list ds))(e:ds.length=n)(q:Q (.int (n:Int)) H):cj K [v] H Q:=by
 obtain⟨a,xs,rfl,h,t⟩:=cb.mp h;exact eQ h (by rw[t.length,e];exact q)
theorem KR(h:Is K H v (TW l))(q:Q (.int (l.length:Int)) H):cj K [v] H Q:=Ec h (by rw[wm];exact q)
end
variable{l:List Nat}{n w:Nat}{ds:List wC}{d:wC}
theorem Oe:∀ns:List Int,Wd (ns.map PyData.int)=true
 | []=>by simp[Wd]
 | n::ns=>by rw[ve,Wd,Oe ns];simp[vF]
theorem Ll:∀ns:List Int,Wq (ns.map PyData.int)<=1
 | []=>by simp[Wq]
 | n::ns=>by
  have:=Ll ns;rw[ve,Wq];simp[WL]
  lia
theorem zxn(a b:Rat)(xs:List Rat)(n:Nat):(h9 a b xs n).length=n:=by simp[h9]
theorem BO(a b:Rat)(xs:List Rat)(n:Nat):h9 a b xs (n+1)=h9 a b xs n++[MD a b xs n]:=by
 unfold h9;rw[qX,w6];rfl
theorem zqP(a b:Rat)(xs:List Rat)(n:Nat):cz (h9 a b xs n)=true:=rm _ (λk=>Lx _ _ _) _
theorem zxG{ps:List Rat}(h:¬ ps.getD w 0<1):aA ps (l++[w])=aA ps l++[w]:=by
 unfold aA;rw[Wm,Ws,decide_eq_false h];rfl
theorem zw1{ps:List Rat}(h:ps.getD w 0<1):aA ps (l++[w])=aA ps l:=by
 unfold aA;rw[Wm,Ws,decide_eq_true h];exact vM _
theorem zwX{wave:List Nat}(h:¬ w∈wave):bR (l++[w]) wave=bR l wave++[w]:=by
 unfold bR;rw[Wm];simp[Ws,h]
theorem zug{wave:List Nat}(h:w∈wave):bR (l++[w]) wave=bR l wave:=by
 unfold bR;rw[Wm];simp[Ws,h]
theorem rQ(l:List Nat)(w:Nat):vz (l++[w])=vz l++[V.int (w:Int)]:=by unfold vz;rw[w6];rfl
theorem DY{xs:List Rat}{j:Nat}(h:j<xs.length):(bQ xs).getD j 0=xs.getD j 0+(1-a_ xs):=by
 unfold bQ;rw[wb,wu,wc h,wb,wc h];rfl
theorem DD:∀ds:List wC,(∀d∈ds,wP d d=true)->Wj ds ds=true
 | [],_=>by simp[Wj]
 | d::ds,h=>by rw[Wj,h d (wJ ..),DD ds λe he=>h e (wB _ he)];rfl
theorem zCZ(h:∀d∈ds,wP d d=true):wP (.tuple ds) (.tuple ds)=true:=by rw[wP];exact DD ds h
theorem OQ(h:∀d∈ds,wP d d=true):wP (.list ds) (.list ds)=true:=by rw[wP];exact DD ds h
theorem UU(a b:Rat)(xs:List Rat):wP (bM a b xs) (bM a b xs)=true:=by rw[zDH];simp
theorem pF{P:wC->Prop}{a b:wC}(ha:P a)(hb:P b):∀d∈[a,b],P d:=λd hd=>by
 simp only[wR,VJ,or_false]at hd;rcases hd with rfl | rfl
 ·exact ha
 ·exact hb
def Sh(n:Nat)(d:wC):Prop:=d.canLay0=true/\d.depth<=n
theorem CN{n:Nat} : ∀ds:List wC,(∀d∈ds,Sh n d)->Wd ds=true/\Wq ds<=n
 | [],_=>by simp[Wd,Wq]
 | d::ds,h=>by
  have h1:=h d (wJ ..);have h2:=CN ds λe he=>h e (wB _ he)
  rw[Wd,Wq,h1.1,h2.1];exact⟨rfl,by have:=h1.2;have:=h2.2;lia⟩
theorem sC(h:∀d∈ds,Sh n d):Sh (n+1) (.tuple ds):=by
 have:=CN ds h;unfold Sh;rw[vF,WL];exact⟨this.1,by have:=this.2;lia⟩
theorem C2(h:∀d∈ds,Sh n d):Sh (n+1) (.list ds):=by
 have:=CN ds h;unfold Sh;rw[vF,WL];exact⟨this.1,by have:=this.2;lia⟩
theorem Sh.mono{m:Nat}(h:Sh m d)(e:m<=n):Sh n d:=⟨h.1,Wl h.2 e⟩
theorem Sh.shaped(h:Sh n d)(e:n<=64):vN d=true:=by
 unfold vN;rw[h.1,qh];exact decide_eq_true (Wl h.2 e)
theorem F5(i:Int):Sh 1 (.int i):=⟨by simp[vF],by simp[WL]⟩
theorem oC(x:Rat):Sh 2 (N x):=sC (pF (F5 _) (F5 _))
theorem zEh(xs:List Rat):Sh 3 (TN xs):=sC λd hd=>by
 obtain⟨x,_,rfl⟩:=wV.mp hd;exact oC x
theorem Nj(a b:Rat)(xs:List Rat):Sh 5 (bM a b xs):=sC (pF ((sC (pF (oC a) (oC b))).mono (by decide)) ((zEh xs).mono (by decide)))
theorem zAn{K:wa}{H:Hp}{Q:VK}{v w:V}(h:Is K H v d)(k:Is K H w d)(s:Sh n d)(e:n<=64)(r:wP d d=true)(q:Q (.bl false) H):eC K v w H Q:=mz h k (s.shaped e) (s.shaped e) (by rw[r];exact q)
section
variable{K:wa}{H H':Hp}{Q:VK}{D:cN}{σ : St}{td ty tv:TE}{a:we}{kvs:List (Key × V)}{k:Int}{v:V}
theorem Zn{p r:we}{l:List Nat}(h:H p=some (.lst (vz l)))(e:H r=some (.lst []))(q:Q (.bl (decide (l≠[]))) H):eC K (.ref p) (.ref r) H Q:=by
 have i1:Is K H (.ref p) (.list ((l.map λ(w:Nat)=>(w:Int)).map PyData.int)):=cb.mpr ⟨p,vz l,rfl,.of h,by
  have e1:vz l=(l.map λ(w:Nat)=>(w:Int)).map V.int:=by unfold vz;rw[V4];rfl
  rw[e1];exact lV.mpr rfl⟩
 have i2:Is K H (.ref r) (.list []):=cb.mpr ⟨r,[],rfl,.of e,.nil⟩;refine mz i1 i2 ?_ rfl ?_
 ·unfold vN
  rw[vF,Oe,WL,qh];have:=Ll (l.map λ(w:Nat)=>(w:Int));exact decide_eq_true (by lia)
 ·cases l with
  | nil=>simpa [wP,Wj] using q
  | cons x l=>simpa [wP,Wj] using q
end
theorem Lv:∀{ts:List Int}{ys:List V},ys.length=ts.length->(∀(j:Nat)(y:V),ys[j]? = some y->y=V.int (ts.getD j 0))->ys=ts.map V.int
 | [],[],_,_=>rfl
 | [],_::_,h,_=>by simp at h
 | _::_,[],h,_=>by simp at h
 | t::ts,y::ys,h,e=>by
  rw[ve,e 0 y rfl,Lv (ts:=ts) (ys:=ys) (by simpa using h) λj z hz=>e (j+1) z hz]
  rfl
theorem kr{n:Nat}(p:Nat->Bool)(i:Nat):(wo (i+1)).filter p=(wo i).filter p++(if p i then [i]else []):=by
 rw[qX,Wm];cases h:p i<;>simp[h]
def Rp(K:wa)(g:TG)(tt:TT)(te:TE)(src:List (Option Nat))(σ : St)(vs:List V)(H1:Hp)(Q:VK):Prop:=∃a,vs=[.ref a]/\(∃xs,aV K H1 a xs) /\
 ∀D,H1 D=none->j8 g tt te (nX K a) D (dP src σ) (upd H1 D (.lst [])) (λH'=>Q (.ref D) H')
section
variable{K:wa}{ta:TA}{g:TG}{tt:TT}{te:TE}{σ : St}{H:Hp}{Q:VK}{a:we}{xs:List V}{src:List (Option Nat)}
theorem zxg(h:ta σ H λvs H1=>Rp K g tt te src σ vs H1 Q):km src (EX K ta) g tt te σ H Q:=h
theorem ztA(hx:aV K H a xs)(Pv:we->Nat->List V->St->Hp->Prop)(h0:∀D H',H D=none->ah H H'->H' D=some (.lst [])->Pv D 0 [] (dP src σ) H')(hl:∀D i ys σ' H',Pv D i ys σ' H'->aV K H' a xs)
  (hs:∀D i x ys σ' H1 c H2,xs[i]? = some x->Pv D i ys σ' H1->H1 c=none->ah H1 H2->H2 c=some (.tup [.int (i:Int),x])->iu Pv g tt te D i (.ref c) σ' H2) (hd:∀D ys σ' H',Pv D xs.length ys σ' H'->Q (.ref D) H'):Rp K g tt te src σ [.ref a] H Q:=by
 refine⟨a,rfl,⟨xs,hx⟩,λD hD=>⟨λi m σ' H'=>i+m=xs.length /\ ∃ys,Pv D i ys σ' H',⟨xs.length,by lia,[],h0 D _ hD (ah.upd hD) cW⟩,?_⟩⟩;rintro i m σ' H' ⟨him,ys,inv⟩;have hq:=hl _ _ _ _ _ inv
 by_cases hm:m=0
 ·have e:i=xs.length:=by lia
  subst e;exact .inl ⟨⟨xs,hq,wp _⟩,hd _ _ _ _ inv⟩
 ·have hi:i<xs.length:=by lia
  refine .inr ⟨⟨xs,xs[i],hq,by simp[hi]⟩,λσ2 H2=>∃ys,Pv D (i+1) ys σ2 H2,λσ2 H2 h=>⟨m-1,by lia,by lia,h⟩,?_⟩;rintro v H2 ⟨c,x,rfl,hn,hx',rfl⟩;exact hs D i x ys σ' H' c _ (hx' xs hq) inv hn (ah.upd hn) cW
end
def DV(K:wa):R2:=λx y H Q=>∃d ds,Is K H x d/\Is K H y (.tuple ds)/\Sh 60 d/\vF (.tuple ds)=true/\Q (.bl (ds.any λe=>wP e d)) H
theorem zDl{X:Cx}(hu:X.A.units+64<WN):aH X (wH .In) (DV X.K):=by
 intro pins s σ H x y v u Q I rx ry h;obtain⟨d,ds,hd,he,sd,se,q⟩:=h;obtain⟨as,h1⟩:=I.reads d x v sd.1 hd rx;obtain⟨bs,h2⟩:=I.reads (.tuple ds) y u se he ry;have sd2:=sd.2;have hm:=QI (Wq ds) d.depth;exact SeqAt.in_tuple_reads h2 h1 (by rw[vF]at se;exact se) sd.1 (by lia) ⟨.bl _,H,I,rfl,q⟩
theorem NM(xs:List Rat)(x:Rat):((xs.map N).any λe=>wP e (N x))=decide (x∈xs):=by
 induction xs with
 | nil=>rfl
 | cons y xs ih =>
  rw[ve,Qu,ih,pY]
  by_cases h:x=y
  ·subst h;simp
  ·have h':¬ y=x:=λz=>h z.symm
   simp[h,h']
theorem zAs{K:wa}{H:Hp}{Q:VK}{v w:V}{xs:List Rat}{x:Rat}(h:Is K H v (N x))(k:Is K H w (TN xs))(q:Q (.bl (decide (x∈xs))) H):DV K v w H Q :=
 ⟨N x,xs.map N,h,k,(oC x).mono (by decide),by rw[vF];exact sx xs,by rw[NM];exact q⟩
def kA(xs:List Rat)(v:Rat):wC:=.tuple [N v,TW (eH xs v)]
theorem N1(xs:List Rat)(v:Rat):dq (kA xs v)=true:=by rw[kA,dq,cz,cz,cz,kM,u4];rfl
theorem zwu(xs:List Rat)(l:List Rat):cz (l.map (kA xs))=true:=rm _ (N1 xs) l
theorem zyY(ds:List wC):wP (.list ds) (.list [])=ds.isEmpty:=by cases ds<;>simp[wP,Wj]
section
variable{K:wa}{H:Hp}{Q:VK}{v w:V}{ds:List wC}{n:Nat}{l b:we}{xs zs:List V}
theorem zxK(h:Is K H v (.list ds))(k:Is K H w (.list []))(s:Sh n (.list ds))(e:n<=64)(q:Q (.bl (!ds.isEmpty)) H):eC K v w H Q :=
 mz h k (s.shaped e) ((C2 (n:=1) (ds:=[]) (by simp)).shaped (by decide)) (by rw[zyY];exact q)
theorem zJ{d:wC}(h:Is K H v d)(k:Is K H w d)(s:Sh n d)(e:n<=64)(r:wP d d=true)(q:Q (.bl true) H):cn K v w H Q:=kR h k (s.shaped e) (s.shaped e) (by rw[r];exact q)
theorem zCO{k:Int}(h:H l=some (.lst xs))(h0 : -1000<=k)(h1:k<=1000)(z:xs.length*k.toNat<=1000)(q:∀p H',H p=none->ah H H'->H' p=some (.lst (vn k.toNat xs).flatten)->Q (.ref p) H'):mV (.ref l) (.int k) H Q :=
 ⟨l,k,xs,rfl,rfl,h,by lia,by lia,by have:=gj z;lia,λp hp=>q p _ hp (ah.upd hp) cW⟩
theorem aj.Kh{d:wC}(h:Is K H v d):∀n:Nat,aj K H (vn n v) (vn n d)
 | 0=>.nil
 | n+1=>.cons h (aj.Kh h n)
end
theorem rK{K:wa}{H:Hp}{Q:VK}{v:V}{ds:List wC}{d:wC}(h:Is K H v (.list (ds++[d])))(q:∀x,Is K H x d->Q x H):c9 K v (.int (-1)) H Q:=by
 obtain⟨a,xs,rfl,hs,t⟩:=cb.mp h;have hl:=t.length;rw[wQ,vS]at hl;obtain⟨x,e1,hx⟩:=t.get (i:=ds.length) (d:=d) (by rw[Wh (wp _),V3];rfl);exact jc hs (CD (by rw[hl];exact e1)) (q x hx)
def Gw(K:wa):List V->Hp->VK->Prop:=λxs H Q=>∃(p:we)(bs:List Bool),xs=[.ref p]/\aG K H p (bs.map V.bl)/\Q (.bl (bs.any id)) H
theorem zCP:vO "any"=some (.builtin "any"):=by decide +kernel
theorem zup(bs:List Bool):((wo bs.length).any λi=>(bs[i]?).getD true)=bs.any id:=by
 rw[vy,qT,qT]
 constructor
 ·rintro ⟨i,hi,h⟩
  rw[wF]at hi;rw[wc hi]at h;exact⟨bs[i],Wi hi,h⟩
 ·rintro ⟨b,hb,h⟩
  obtain⟨i,hi,rfl⟩:=vj hb;exact⟨i,wF.mpr hi,by rw[wc hi];exact h⟩
open PyProof.V PySem.Calls in
theorem zwU{X:Cx}(hc:X.calm=true):aE X (.builtin "any") (Gw X.K):=by
 intro pins s σ H xs us Q I r h;obtain⟨p,bs,rfl,hq,q⟩:=h;obtain⟨u,rfl,rx⟩:=jg r;cases rx;obtain⟨its,r',pl,hz⟩:=I.list hq;have hi:its=bs.map Value.bool:=UP r';have hl:s.heap.IsList p its.toArray:=pl.isList;have hlt:p<s.heap.objs.size:=by obtain⟨_,e,_⟩:=hl;exact wA e
 refine call_any_walk (VZ hl ?_)
 refine⟨s.heap.objs.size,[s.heap.objs.size,p],[s.heap.objs.size],its.toArray.size,_,_,λi=>(bs[i]?).getD true,rfl,uc (A:=X.A.in1) (I.ok.hd hc) _ p (wT hlt) its.toArray,
  ⟨⟨_,wS _ rfl,rfl,rfl⟩,hl.push _⟩,λi v s' Q' E' hP hQ=>?_,λh' tk hk=>?_⟩
 ·have hP:its.toArray[i]? = some v:=hP
  rw[hi]at hP;simp only[xx,wu,Vj]at hP;obtain⟨b,e,rfl⟩:=hP;simp only[e,QP]at hQ;exact Wz hQ
 ·have e:((wo its.toArray.size).any λi=>(bs[i]?).getD true)=bs.any id:=by
   rw[wN,hi,wm];exact zup bs
  rw[e];exact⟨.bl (bs.any id),H,I.kept (t':=tk) (λb x e=>hk b x (λhm=>by rw[wX.mp hm]at e;exact W5 _ (wA e)) (wn _ e)),rfl,q⟩
theorem zA2{K:wa}{H:Hp}{Q:VK}{p:we}{bs:List Bool}(h:aG K H p (bs.map V.bl))(q:Q (.bl (bs.any id)) H):Gw K [.ref p] H Q:=⟨p,bs,rfl,h,q⟩
def zy(K:wa):List V->Hp->VK->Prop:=λxs H Q=>∃(p:we)(ns:List Int),xs=[.ref p]/\aG K H p (ns.map V.int)/\Q (.int ns.sum) H
section
open PyProof.V PySem.Calls PySem.W
variable{prog:wI}{w:wO}{A:w9}{E:wf->wl->Prop}{s:wl}
theorem zzP{t:we}{xs:Array (Int × Tok)}{Q:wf->wl->Prop}(hh:A.handled=none)(ht:s.heap.IsList t (intItems xs))
  (h:∀h' tk t',(∀b o,s.heap.get? b=some o->h'.get? b=some o)->Q (.int (preSum (numAt xs) xs.size) t') {s with heap:=h',toks:=tk}) :
  wq (model prog w) A (call (.builtin "sum") [.ref t]) Q E s:=by
 obtain⟨o,ho,hc,n,hd⟩:=id ht;have hne:t≠s.heap.objs.size:=wT (wA ho);have hsz:(intItems xs).size=xs.size:=by simp[intItems]
 have W:=(uc (prog:=prog) (w:=w) (A:=A.in1) hh s.heap.objs.size t hne (intItems xs)).toS;rw[hsz]at W;refine call_sum_walkAnyS (VZ ht ?_);refine⟨s.heap.objs.size,_,_,_,_,_,_,numAt xs,rfl,W,⟨⟨_,wS _ rfl,rfl,rfl⟩,ht.at λo e=>wn _ e⟩,λb hb=>?_,λi v hP=>intItems_at hP,λs' t' hm=>?_⟩
 ·rcases wR.mp hb with rfl | hb
  ·exact wA (wS _ rfl)
  ·obtain rfl:=wX.mp hb
   exact wA (wn _ ho)
 ·obtain⟨h',g',d',tk',os'⟩:=s'
  have e1:g'=s.gens:=hm.gens;have e2:d'=s.drawn:=hm.drawn;have e3:os'=s.os:=hm.os;subst e1 e2 e3;exact h h' tk' t' λb o e=>hm.heap b o (λhb=>absurd (wA e) ((wX.mp hb) ▸ W5 _)) (wn _ e)
theorem Tq{X:Cx}(hc:X.calm=true):aE X (.builtin "sum") (zy X.K):=by
 intro pins s σ H xs us Q I r h;obtain⟨p,ns,rfl,hq,q⟩:=h;obtain⟨u,rfl,rx⟩:=jg r;cases rx;obtain⟨its,r',pl,hz⟩:=I.list hq;have hI:=w_ r';have hT:s.heap.IsList p its.toArray:=pl.isList;obtain⟨zs,hx⟩:=hI.allInts.items;have hn:numsOf its.toArray.toList=ns:=by rw[show its.toArray.toList=its from rfl,hI.numsOf]
 rw[hx]at hT hn;rw[nums_intItems]at hn;refine zzP (I.ok.hd hc) hT λh' tk t' hk=>?_
 rw[preSum_eq,WR (by simp),hn];exact⟨.int ns.sum,H,I.kept (t':=tk) hk,⟨_,rfl⟩,q⟩
end
theorem M5{K:wa}{H:Hp}{Q:VK}{p:we}{ns:List Int}(h:aG K H p (ns.map V.int))(q:Q (.int ns.sum) H):zy K [.ref p] H Q:=⟨p,ns,rfl,h,q⟩
abbrev Q_(h:wM)(a:we):wM:=h.push {cls:=.type "tuple_iterator",data:=.fields #[.ref a,.int 0 0]}
abbrev Ng(h:wM)(a b:we):wM:=(Q_ h a).push {cls:=.type "list_iterator",data:=.fields #[.ref b,.int 0 0]}
abbrev PR(h:wM)(a b:we):wM:=(Ng h a b).push {cls:=.type "tuple",data:=.seq #[.ref h.objs.size,.ref (Q_ h a).objs.size]}
abbrev zM4(h:wM)(a b:we):wM:=(PR h a b).push {cls:=.type "tuple",data:=.seq #[.none,.none]}
abbrev zM5(h:wM)(a b:we):wM:=(zM4 h a b).push {cls:=.type "zip",data:=.fields #[.none,.bool false,.bool false,.ref (Ng h a b).objs.size,.ref (PR h a b).objs.size]}
section
variable{prog:wI}{w:wO}{A:w9}{E:wf->wl->Prop}{s:wl}
end
theorem oD{K:wa}{H:Hp}{Q:VK}{v:V}{ds:List wC}(h:Is K H v (.list ds)\/Is K H v (.tuple ds))(q:∀l H' ys,H l=none->ah H H'->H' l=some (.lst ys)->aj K H' ys ds->Q (.ref l) H'):fQ K [v] H Q:=by
 rcases h with h | h
 ·exact MS h q
 ·exact rh h q
section
variable{X:Cx}{x:Str}{G:wf}{b₀ : wZ}{body suite:List wZ}{np hpos pos:Pos}{tb:(St->XK)->TS}{th:TS}
end
theorem jT{K:wa}{H:Hp}{Q:VK}(s t:String)(r:Bool)(e:wP (.str (vX s)) (.str (vX t))=r)(q:Q (.bl r) H):cn K (.str (vX s)) (.str (vX t)) H Q :=
 kR (d:=.str (vX s)) (e:=.str (vX t)) (fg.mpr rfl) (fg.mpr rfl) (lU s) (lU t) (by rw[e];exact q)
section
variable{K:wa}{H:Hp}{Q:VK}{p:we}{ns:List Int}
end
def LZ(ns:List Int):wC:=.list (ns.map .int)
theorem zEd{K:wa}{H:Hp}{l:we}{ns:List Int}(h:H l=some (.lst (ns.map V.int))):Is K H (.ref l) (LZ ns):=cb.mpr ⟨l,_,rfl,.of h,lV.mpr rfl⟩
abbrev NO(h:wM)(a:we):wM:=h.push {cls:=.type "list_iterator",data:=.fields #[.ref a,.int 0 0]}
abbrev Uk(h:wM)(a b:we):wM:=(NO h a).push {cls:=.type "tuple_iterator",data:=.fields #[.ref b,.int 0 0]}
abbrev Rz(h:wM)(a b:we):wM:=(Uk h a b).push {cls:=.type "tuple",data:=.seq #[.ref h.objs.size,.ref (NO h a).objs.size]}
abbrev zN4(h:wM)(a b:we):wM:=(Rz h a b).push {cls:=.type "tuple",data:=.seq #[.none,.none]}
abbrev zN5(h:wM)(a b:we):wM:=(zN4 h a b).push {cls:=.type "zip",data:=.fields #[.none,.bool false,.bool false,.ref (Uk h a b).objs.size,.ref (Rz h a b).objs.size]}
section
variable{prog:wI}{w:wO}{A:w9}{E:wf->wl->Prop}{s:wl}
end
end L2
namespace TB
open PySem
def Oi(xs:Array Nat):Prop:=∀i j,i<j->j<xs.size->xs.getD i 0<xs.getD j 0
def g(x:Nat):Nat:=x*5+1
def it(n x:Nat):Nat:=match n with | 0=>x | n+1=>g (it n x)
def s:Nat->Nat | 0=>0 | n+1=>5*s n+1
theorem OO(n:Nat):5^n=4*s n+1:=by
 induction n with
 | zero=>rfl
 | succ n ih=>rw[Vm,ih];show _=4*(5*s n+1)+1;lia
theorem zDQ(n x:Nat):it n x=5^n*x+s n:=by
 induction n with
 | zero=>show x=5^0*x+0;simp
 | succ n ih =>
  show g (it n x)=5^(n+1)*x+(5*s n+1)
  rw[ih,Vm];unfold g;rw[Vw,Xr (5^n) 5 x];lia
theorem zCV(m n x:Nat):it (m+n) x=it m (it n x):=by
 induction m with
 | zero=>rw[qY];rfl
 | succ m ih=>rw[Nat.succ_add];show g (it (m+n) x)=g (it m (it n x));rw[ih]
theorem zEg(m n:Nat):s (m+n)=5^m*s n+s m:=by
 induction m with
 | zero=>simp[s]
 | succ m ih =>
  rw[Nat.succ_add]
  show 5*s (m+n)+1=5^(m+1)*s n+(5*s m+1)
  rw[ih,Vm,Vw,Xr (5^m) 5];lia
theorem ZG(k:Nat):∃o,s (2^k)=2^k*(2*o+1):=by
 induction k with
 | zero=>exact⟨0,rfl⟩
 | succ k ih =>
  obtain⟨o,ho⟩:=ih
  have e:s (2^(k+1))=2^(k+1)*((2*o+1)*(2*s (2^k)+1)):=by
   have:2^(k+1)=2^k+2^k:=by rw[Vm];lia
   rw[this,zEg,OO];generalize hs:s (2^k)=S at *
   have h2:(2^k+2^k)*((2*o+1)*(2*S+1))=2*(2^k*(2*o+1))*(2*S+1):=by
    rw[<- Nat.two_mul,<- Vw,Vw 2]
   rw[h2,<- ho];generalize S*S=z at *;have:(4*S+1)*S=4*(S*S)+S:=by rw[XB,Vw,XC]
   rw[this]
   have:2*S*(2*S+1)=4*(S*S)+2*S:=by
    rw[Ql,Nat.mul_one,Nat.mul_mul_mul_comm]
   rw[this];lia
  refine⟨o*(2*s (2^k)+1)+s (2^k),?_⟩;rw[e]
  congr 1
  rw[XB,XC,Vw]
  lia
theorem ZM(M c a:Nat):(4*(M*c)+1)*a+M*c=a+M*(c*(4*a+1)):=by
 rw[XB,XC,Ql c,Nat.mul_one,Ql M];have:4*(M*c)*a=M*(c*(4*a)):=by rw[xX 4,Vw,Vw]
 lia
theorem zDL(k:Nat):∀x y:Nat,∃n,n<2^k/\it n x % 2^k=y % 2^k:=by
 induction k with
 | zero=>intro x y;exact⟨0,by decide,by simp[Nat.mod_one]⟩
 | succ k ih =>
  intro x y;obtain⟨n,hn,e⟩:=ih x y;have hp:0<2^k:=Nat.pow_pos (by decide);have h2:2^(k+1)=2^k*2:=Vm ..;obtain⟨o,ho⟩:=ZG k;generalize hM:2^k=M at *;rw[h2]
  by_cases c:it n x / M % 2=y / M % 2
  ·refine⟨n,by lia,?_⟩
   rw[xm,xm,e,c]
  ·refine⟨M+n,by lia,?_⟩
   rw[zCV,zDQ,OO,ho];generalize it n x=a at *;rw[ZM,xm,xm,Nat.add_mul_mod_self_left,e,Nat.add_mul_div_left _ _ hp]
   have:(2*o+1)*(4*a+1) % 2=1:=by
    rw[XD];have h1:(2*o+1) % 2=1:=by lia
    have h2:(4*a+1) % 2=1:=by lia
    rw[h1,h2]
   congr 2
   lia
open SetTable (Probe leap runEnd bits turns)
def adv(mask:Nat)(p:Probe):Probe :=
 if p.more > 0 then {p with j:=p.j+1,more:=p.more-1}else
 {p with j:=(leap mask p.i p.perturb).1,more:=runEnd mask (leap mask p.i p.perturb).1-(leap mask p.i p.perturb).1,i:=(leap mask p.i p.perturb).1,perturb:=(leap mask p.i p.perturb).2}
def way(mask:Nat)(p:Probe):Nat->Probe | 0=>p | n+1=>adv mask (way mask p n)
def zDz(mask i b:Nat):Probe:={j:=i,more:=runEnd mask i-i,i:=i,perturb:=b,dummy:=none}
def start(mask:Nat)(h:Int):Probe:=zDz mask (bits h % (mask+1)) (bits h)
def lp(mask i b:Nat):Nat->Nat × Nat | 0=>(i,b) | n+1=>leap mask (lp mask i b n).1 (lp mask i b n).2
theorem Li(mask i b:Nat):∀n,(lp mask i b n).2=b / 32^n
 | 0=>by simp[lp]
 | n+1=>by
  show(lp mask i b n).2 / 32=_
  rw[Li mask i b n,Vm,xn]
theorem MW(mask i b c:Nat)(h:b / 32^c=0):∀n,(lp mask i b (c+1+n)).1=it n (lp mask i b (c+1)).1 % (mask+1)
 | 0=>by
  show(lp mask i b (c+1)).1=(lp mask i b (c+1)).1 % (mask+1)
  show _ % _=_ % _ % _
  rw[Nat.mod_mod]
 | n+1=>by
  show((lp mask i b (c+1+n)).1*5+1+(lp mask i b (c+1+n)).2 / 32) % (mask+1)=g (it n _) % _
  have:(lp mask i b (c+1+n)).2 / 32=0:=by
   rw[Li]
   have:b / 32^(c+1+n)=0:=by
    rw[Vt,xb,<- xn,h,Nat.zero_div]
   rw[this]
  rw[this,MW mask i b c h n];unfold g;rw[QL,Nat.add_mod,XD,Nat.mod_mod,<- XD,<- Nat.add_mod]
theorem zEI{mask k:Nat}(hm:mask+1=2^k){i b:Nat}(hb:b<2^64){j:Nat}(hj:j<=mask):∃m,m<=mask+14/\(lp mask i b m).1=j:=by
 have h0:b / 32^13=0:=Nat.div_eq_of_lt (wU hb (by decide));obtain⟨n,hn,e⟩:=zDL k (lp mask i b 14).1 j;refine⟨13+1+n,by lia,?_⟩;rw[MW mask i b 13 h0,hm,e,QN (by lia)]
def In(t:SetTable)(j:Nat):Prop:=∃i,i<t.place.size/\t.place.getD i 0=j
structure Tb(t:SetTable)(hs:List Int):Prop where
 ris:Oi t.place
 size:t.place.size=hs.length
 dum:t.dummies = #[]
 two:∃k,3<=k/\t.mask+1=2^k
 le:∀i,i<t.place.size->t.place.getD i 0<=t.mask
 room:t.place.size<=t.mask
 path:∀i,i<t.place.size->∃n,(way t.mask (start t.mask (hs.getD i 0)) n).j=t.place.getD i 0 /\ ∀m,m<n->In t (way t.mask (start t.mask (hs.getD i 0)) m).j
theorem zEH{P:Nat->Prop}{n:Nat}(h:P n):∃m,m<=n/\P m /\ ∀k,k<m->¬ P k:=by
 induction n using Nat.strongRecOn with
 | _ n ih =>
  by_cases c:∃k,k<n/\P k
  ·obtain⟨k,hk,hp⟩:=c
   obtain⟨m,h1,h2,h3⟩:=ih k hk hp;exact⟨m,by lia,h2,h3⟩
  ·exact⟨n,wp _,h,λk hk hp=>c ⟨k,hk,hp⟩⟩
def live(mask:Nat)(ow:Array (Option Nat)):List (Nat × Nat):=(wo (mask+1)).filterMap λj=>(ow.getD j none).map (j,·)
section
variable{prog:wI}{w:wO}{K:Type}[DecidableEq K]{knd:KeyKind prog w K}{U:we->List K->Prop}{A:w9}{E:wf->wl->Prop}{s:wl}
def Ent(knd:KeyKind prog w K)(U:we->List K->Prop)(h:wM)(e:Int × wf)(k:List K):Prop:=∃a,e.2=.ref a/\IsTupleKey knd h k a/\e.1=tupleKeyHash knd k/\U a k
def zz0(knd:KeyKind prog w K)(U:we->List K->Prop)(h:wM)(es:List (Int × wf))(ks:List (List K)):Prop:=es.length=ks.length /\ ∀(i:Nat)(e:Int × wf)(k:List K),es[i]? = some e->ks[i]? = some k->Ent knd U h e k
def TS(knd:KeyKind prog w K)(U:we->List K->Prop)(h:wM)(a:we)(led:Bool)(ks:List (List K)):Prop :=
 ∃o es ep t,h.get? a=some o/\o.ExactSet/\o.data=.set es ep t/\Tb t (es.toList.map (·.1))/\es.size*5<t.mask*3/\(t.mask<=7\/t.mask<=8*es.size)/\t.led=led/\t.plain=true/\zz0 knd U h es.toList ks/\ks.Nodup
end
section
variable{prog:wI}{w:wO}{K:Type}[DecidableEq K]{knd:KeyKind prog w K}{U:we->List K->Prop}
variable{A:w9}{R:Result->wl->Prop}{I:we}{fp wr:List we}{G:Array GenState->Array GenState->Prop}{n:Nat}{P:Nat->wf->Prop}{St:Nat->wl->Prop}
end
def zDu(w:wO):Bool:=!(w.params.followText "set-order")
section
variable{prog:wI}{w:wO}{K:Type}[DecidableEq K]{knd:KeyKind prog w K}{U:we->List K->Prop}{A:w9}{E:wf->wl->Prop}{s:wl}
end
end TB
namespace TB
open PySem PySem.W PyProof.Rows
section
variable{n:Nat}(h1:1<=n)
include h1
end
section
variable{prog:wI}{w:wO}{A:w9}{E:wf->wl->Prop}{s:wl}
end
structure YX(w:wO)(h:wM)(a:we)(es:Array (Int × wf))(ep:Nat)(t:SetTable):Prop where
 at':∃o,h.get? a=some o/\o.ExactSet/\o.data=.set es ep t
 fits:t.fits es.size=true
 size:t.place.size=es.size
 ris:Oi t.place
 plain:t.plain=true
 led:t.led=zDu w
 cg:es.size<=4000
section
variable{prog:wI}{w:wO}{A:w9}{E:wf->wl->Prop}{s:wl}{a:we}{es:Array (Int × wf)}{ep:Nat}{t:SetTable}
end
section
variable{prog:wI}{w:wO}{A:w9}{E:wf->wl->Prop}{s:wl}{a it:we}{es:Array (Int × wf)}{ep:Nat}{t:SetTable}{i:Nat}
end
section
variable{prog:wI}{w:wO}{A:w9}{E:wf->wl->Prop}{s:wl}
end
end TB
namespace L2
open PySem PySem.Spec PyProof.Rows GM
def Za(w:wO)(a:we)(ws:List V):HO:=.ext λh=>∃es ep t,TB.YX w h a es ep t/\aT ws (es.toList.map (·.2))
def Em(K:wa)(H:Hp)(v:V)(k:List Int):Prop:=∃q,v=.ref q/\aV K H q (k.map V.int)
theorem items_int{P:wI}{w:wO} : ∀{us:List wf}{ns:List Int},IntsAre us ns->ItemsAre (intKind P w) ns us
 | _,_,.nil=>.nil
 | _,_,.cons n t r=>.cons (by show Xv n (Value.int n t)=true;simp[Xv]) (items_int r)
theorem Inv.key{X:Cx}{pins:List (we × Obj)}{σ : List (Option V)}{H:Hp}{s:wl}(I:Inv X pins σ H s){q:we}{k:List Int}(h:aV X.K H q (k.map V.int)):IsTupleKey (intKind X.prog X.w) s.heap k q:=by
 obtain⟨its,r,⟨o,e,hc,n,hd⟩,_⟩:=I.tuple h;exact⟨o,its.toArray,n,e,hc,hd,items_int (w_ r)⟩
theorem OL:∀{ws:List V}{us:List wf},aT ws us->∀{i:Nat}{q:we},ws[i]? = some (.ref q)->us[i]? = some (.ref q)
 | _,_,.nil,i,q,h=>by simp at h
 | _,_,.cons r1 r2,0,q,h=>by
  simp only[QW,qN]at h ⊢;subst h;exact r1
 | _,_,.cons r1 r2,i+1,q,h=>by
  simp only[QX]at h ⊢;exact OL r2 h
end L2
namespace TB
open PySem PySem.W PyProof.Rows MeetsSeq
section
variable{prog:wI}{w:wO}{A:w9}{s:wl}{R:Result->wl->Prop}
end
end TB
namespace L2
open PySem PySem.Spec PyProof.Rows GM
section
variable{K:wa}{w:wO}{H H':Hp}{Q:VK}{v:V}{p l:we}{xs ys:List Rat}{us ws:List V}
theorem SD{r:Rat} : Is K H v (N r) ↔ Em K H v [r.num,(r.den:Int)]:=oE
theorem zBh{r s:Rat}(h:([r.num,(r.den:Int)]:List Int)=[s.num,(s.den:Int)]):r=s:=by
 simp only[ua,and_true]at h;exact um h.1 (by lia)
end
def ji(ex:we)(C:wf):HO:=.ext λh=>∃oe,h.get? ex=some oe/\pH C oe
def PD(K:wa)(G:wf)(i:Nat)(tb:(St->XK)->TS)(th:we->wf->TS):TS:=λD σ H=>∃W:St->XK,tb W D σ H /\ ∀σ' C o H',W σ' C o H'->V8 K C G=some true /\
 ∀ex,H' ex=none->th ex C {nx:=λσ2 H2=>H2 ex=none->D.nx (σ2.set i none) (upd H2 ex (ji ex C)),rt:=D.rt,bk:=λσ2 H2=>D.bk (σ2.set i none) H2,ct:=λσ2 H2=>D.ct (σ2.set i none) H2} (σ'.set i (some (.ref ex))) H'
theorem Inv.adopt{X:Cx}{pins pins':List (we × Obj)}{σ σ1:St}{H H1:Hp}{s s0:wl}{ex:we}{oe:Obj}{C:wf}(I:Inv (X.mS (X.pn++pins) ex oe) pins' σ H s)(I1:Inv X pins σ1 H1 s0)(c:pH C oe)(hs:X.stack=X.env::X.outer)(hf:X.env.frame=some X.env.locals)
  (fresh:∀b o,s0.heap.get? b=some o->H1 b=none->b ∉ dB X.stack->b≠ex):Inv X pins σ (upd H ex (ji ex C)) s:=by
 obtain⟨he,hn,nl,nf,nc⟩:=I.pin (ex,oe) (WM _ (vR _ (wX.mpr rfl)));have J:=Inv.tm I1.ok I;have ne:∀b u,H b=some u->b≠ex:=λb u e z=>by subst z;rw[hn]at e;cases e
 have nfr:∀b,b∈dB X.stack->b≠ex:=λb hb z=>by
  subst z;rw[hs]at hb;unfold dB at hb;rw[qk,hf]at hb;rcases wR.mp hb with z | z
  ·exact nl z
  ·exact nf z
 refine⟨I1.ok,J.os,J.bare,⟨J.base.keep,J.base.slot,λb u e z hx=>?_,J.base.there,λb xs q=>?_,λb o xs q=>?_,λb ps q=>?_⟩,J.loc,J.cell,?_,λx c' e=>?_,λp hp=>?_,λb o e=>?_,J.len⟩
 ·obtain⟨o',e1⟩:=I1.base.there b u e hx
  have z1:=I1.base.free b u e z hx
  have:b≠ex:=by
   by_cases hb:b∈dB X.stack
   ·exact nfr b hb
   ·exact fresh b o' e1 z1 hb
  rw[dh this];exact J.base.free b u e z hx
 ·have:=J.base.gJ b xs q
  rw[dh (ne b _ this)];exact this
 ·have:=J.base.gf b o xs q
  rw[dh (ne b _ this)];exact this
 ·obtain⟨ms,this⟩:=J.base.gK b ps q
  exact⟨ms,by rw[dh (ne b _ this)];exact this⟩
 ·rw[dh (Wt nl)];exact J.free
 ·have:c'≠ex:=λz=>by
   subst z;obtain⟨v,o,e1,e2⟩:=J.cell x _ e;have:(some oe:Option Obj)=some o:=he.symm.trans e1;cases this;exact nc v e2
  rw[dh this];exact J.fv x c' e
 ·obtain⟨a1,a2,a3,a4,a5⟩:=J.pin p hp
  obtain⟨b1,b2,b3,b4,b5⟩:=I1.pin p hp
  have:p.1≠ex:=by
   by_cases hb:p.1∈dB X.stack
   ·exact nfr _ hb
   ·exact fresh _ _ b1 b2 hb
  exact⟨a1,by rw[dh this];exact a2,a3,a4,a5⟩
 ·by_cases hb:b=ex
  ·subst hb
   rw[cW]at e;cases e;exact⟨⟨oe,he,c⟩,⟨oe,he⟩,λh1 h2 ⟨o1,z1,z2⟩ k=>⟨o1,k o1 z1,z2⟩⟩
  ·rw[dh hb]at e
   exact(J.aM b o e).jq (λ_ _ _ q=>q) (λc q=>by rw[dh (iV q hn)];exact q) λc xs q=>by rw[dh (iV q hn)];exact q
section
variable{X:Cx}{x n:Str}{G:wf}{i:Nat}{b₀ : wZ}{body suite:List wZ}{np hpos pos:Pos}{tb:(St->XK)->TS}{th:we->wf->TS}
theorem zAr(hs:X.stack=X.env::X.outer)(hf:X.env.frame=some X.env.locals)(hN:X.N.Nodup)(hi:X.N[i]? = some n)(hl:X.env.scope.names.lookup n=some .local)(hg:Gl X x)(hG:X.mg x=some G)
  (hb:∀(W:St->XK)(pn:List (we × Obj))(E':wf->wl->Prop),Pf (fe X.prog X.w) (X.at pn E') W->fD (X.at pn E') body (tb W))
  (hh:∀(pn:List (we × Obj))(ex:we)(C:wf)(oe:Obj),pH C oe->fD (X.mS pn ex oe) (b₀ :: suite) (th ex C)) (hdb:(x == ("__debug__" : Str))=false:=by decide) :
  PS X (.Try body [.ExceptHandler (some (.Name x np)) (some n) (b₀ :: suite) hpos] [] [] pos) (PD X.K G i tb th):=by
 intro pins s σ H D I h;obtain⟨W,hB,hH⟩:=h;refine wpAny_Try_except ?_;have I':=I.Zf λe s1=>∃σ1 H1 s0,Inv X pins σ1 H1 s0/\fe X.prog X.w X.stack H1 s0 (W σ1) e s1
 have key:=hb W (X.pn++pins) (λe s1=>∃σ1 H1 s0,Inv X pins σ1 H1 s0/\fe X.prog X.w X.stack H1 s0 (W σ1) e s1) (λpins1 σ1 H1 s0 e s1 I1 q=>⟨σ1,H1,s0,I1.pj,q⟩) [] s σ H D I' hB;refine WF key (λf s1 hq=>?_) λe s1 he=>?_
 ·cases f with
  | next=>obtain⟨σ',H',J,q⟩:=hq;exact qq ⟨σ',H',J.pj,q⟩
  | brk=>obtain⟨σ',H',J,q⟩:=hq;exact⟨σ',H',J.pj,q⟩
  | cont=>obtain⟨σ',H',J,q⟩:=hq;exact⟨σ',H',J.pj,q⟩
  | ret u=>obtain⟨v,σ',H',J,r,q⟩:=hq;exact⟨v,σ',H',J.pj,r,q⟩
 obtain⟨σ1,H1,s0,I1,ex,C,H',B,rfl,os,bare,un,aM,F,ov,q⟩:=he;obtain⟨hm,hS⟩:=hH σ1 C none H' q;have hfs:∀b∈dB X.stack,H1 b=none /\ ∃o,s0.heap.get? b=some o /\ ∀vs,o.data≠.fields vs:=λb hb=>⟨I1.sU b hb,(I1.stack.mem hb).2⟩
 have hfr:=I.ok.frames.trans (congrArg some hs)
 have hex:H' ex=none:=by
  obtain⟨_,_,_,_,_,_,_,_,_,_,_,_,_,be,_⟩:=F;cases z:H' ex with
  | none=>rfl
  | some o =>
   obtain⟨u,e1⟩:=ov.jb ex o z;rw[be]at e1;cases e1
 have fresh:∀b o,s0.heap.get? b=some o->H1 b=none->b ∉ dB X.stack->b≠ex:=λb o e z nf q=>by
  obtain⟨_,_,_,_,_,_,_,_,_,_,_,_,_,be,_⟩:=F;subst q;rw[ov.old b o e z nf]at be;cases be
 have st1:=F.st;rw[hs]at F
 have exc:∀{h4:wM},fm B (X.env::X.outer) ex C .none h4->s1.heap.UpToSlots h4->∃oe,h4.get? ex=some oe/\pH C oe/\Inv (X.mS (X.pn++pins) ex oe) [] σ1 H' {s1 with heap:=h4}:=λ{h4} F4 sm=>by
  have J:Inv X pins σ1 H' {s1 with heap:=h4}:=I1.Kg (s':={s1 with heap:=h4}) (ch:=[]) os (ov.un un hfs F4.st sm) (ov.aM aM st1 F4.st) bare (λ_ z=>nomatch z);obtain⟨_,_,oe,vs,T,oT,ts,he,hc,hd,h1,h2,hdi,_⟩:=F4;refine⟨oe,he,⟨hc,⟨vs,hd,h2⟩,hdi⟩,J.Y2 he hex (λz=>?_) (λz=>?_) λv z=>?_⟩
  ·obtain⟨m,⟨o,es,ep,ho,hdd,_⟩,_⟩:=J.loc
   rw[<- z]at ho;have:(some oe:Option Obj)=some o:=he.symm.trans ho;cases this;rw[hd]at hdd;cases hdd
  ·obtain⟨_,o,ho,nr⟩:=J.fi.mem z
   have:(some oe:Option Obj)=some o:=he.symm.trans ho;cases this;exact nr vs hd
  ·rw[hd]at z;cases z
 refine F.note hfr hf λh2 F2 sm2=>F2.land λh3 F3 sm3=>?_
 obtain⟨oe3,g3,x3,K3⟩:=exc F3 (sm2.trans sm3);refine wpAny_handleBy_cons (codeAny_handlers_test (p8 K3 hg hG ?_ hdb)) (by intro z;cases z);have LT:Qw (model X.prog X.w) h3 (typeOf (.ref ex)) C:=x3.cls ▸ (uM g3).andThen .now;refine(PySem.W.exm_one (h:=h3) K3.dG LT hm).here ?_;refine codeAny_handlers_suite_as ?_;refine F3.land λh4 F4 sm4=>?_
 obtain⟨oe,g4,x4,K4⟩:=exc F4 ((sm2.trans sm3).trans sm4);refine oh (X:=X.mS (X.pn++pins) ex oe) K4 hN hi (.inl hl) (v:=.ref ex) rfl (λs5 K5=>?_) (.inr hl);refine WF (hh _ ex C oe x4 [] s5 _ H' _ K5 (hS ex hex)) (λf s6 h6=>?_) λ_ _ z=>z.elim
 show wq (model X.prog X.w) X.A (do bindName X.env n .none;unbindBehindTheSuite X.env n hpos) _ _ _
 cases f with
 | next=>obtain⟨σ',H6,J,q6⟩:=h6;exact(J.adopt I1 x4 hs hf fresh).gone hN hi hl λs7 J7=>⟨_,_,J7,q6 (J.pin (ex,oe) (WM _ (vR _ (wX.mpr rfl)))).2.1⟩
 | brk=>obtain⟨σ',H6,J,q6⟩:=h6;exact(J.tm I.ok).gone hN hi hl λs7 J7=>⟨_,H6,J7,q6⟩
 | cont=>obtain⟨σ',H6,J,q6⟩:=h6;exact(J.tm I.ok).gone hN hi hl λs7 J7=>⟨_,H6,J7,q6⟩
 | ret u=>obtain⟨v,σ',H6,J,r,q6⟩:=h6;exact(J.tm I.ok).gone hN hi hl λs7 J7=>⟨v,_,H6,J7,r,q6⟩
end
def lu(K:wa):List V->Hp->VK->Prop:=λxs H Q=>∃(ex C':we)(b:Bool),H ex=some (ji ex (.ref C'))/\gI K C' /\
 ((∃D,xs=[.ref ex,.ref D]/\wE K (.ref C') (.ref D)=some b)\/(∃T,xs=[.ref ex,.ty T]/\wE K (.ref C') (.type T)=some b) \/
  ∃(tp:we)(cs:List we),xs=[.ref ex,.ref tp]/\aV K H tp (cs.map V.ref)/\qG K (.ref C') (cs.map Value.ref)=some b)/\Q (.bl b) H
theorem Ro:∀{cs:List we}{us:List wf},aT (cs.map V.ref) us->us=cs.map Value.ref
 | [],_,.nil=>rfl
 | c::cs,_,.cons r1 r2=>by rw[Ro r2,ve,show _=Value.ref c from r1]
theorem yz{X:Cx} : aE X (.builtin "isinstance") (lu X.K):=by
 intro pins s σ H xs us Q I r h;obtain⟨ex,C',b,hx,c,h,q⟩:=h;obtain⟨⟨oe,e,oc⟩,_,_⟩:=I.aM ex _ hx;obtain⟨vs,d,_⟩:=oc.fld;have J:xw s.heap ex oe C' none:=⟨e,oc.cls,by unfold PySem.W.notCls;rw[d],by rw[oc.dict];trivial⟩;have fin:∀tk,EP X pins σ Q (.bool b) {s with toks:=tk}:=λtk=>⟨.bl b,H,I.tok _,rfl,q⟩
 rcases h with⟨D,rfl,k⟩ | ⟨T,rfl,k⟩ | ⟨tp,cs,rfl,ht,k⟩
 ·obtain⟨u,w',rfl,rx,rt⟩:=jI r
  cases (show u=Value.ref ex from rx);cases (show w'=Value.ref D from rt);exact WP (BE c) I.dG J k (λz=>nomatch z) fin
 ·obtain⟨u,w',rfl,rx,rt⟩:=jI r
  cases (show u=Value.ref ex from rx);cases (show w'=Value.type T from rt);exact WP (BE c) I.dG J k (λz=>nomatch z) fin
 ·obtain⟨u,w',rfl,rx,rt⟩:=jI r
  cases (show u=Value.ref ex from rx);cases (show w'=Value.ref tp from rt);obtain⟨its,rv,⟨ot,ht1,ht2,n,ht3⟩,_⟩:=I.tuple ht;have:=Ro rv;subst this;obtain⟨cl,dd,da,sl⟩:=ot;cases ht2;cases ht3;exact W3 (BE c) I.dG J ht1 k (λz=>nomatch z) fin
section
variable{K:wa}{G:wf}{i:Nat}{tb:(St->XK)->TS}{th:we->wf->TS}{D:cN}{σ : St}{H:Hp}{Q:VK}{ex C' tp:we}{b:Bool}{cs:List we}
theorem zAY(W:St->XK)(h:tb W D σ H) (k:∀σ' C o H',W σ' C o H'->V8 K C G=some true /\
  ∀ex,H' ex=none->th ex C {nx:=λσ2 H2=>H2 ex=none->D.nx (σ2.set i none) (upd H2 ex (ji ex C)),rt:=D.rt,bk:=λσ2 H2=>D.bk (σ2.set i none) H2,ct:=λσ2 H2=>D.ct (σ2.set i none) H2} (σ'.set i (some (.ref ex))) H'):PD K G i tb th D σ H:=⟨W,h,k⟩
theorem zw9{D':we}(h:H ex=some (ji ex (.ref C')))(c:gI K C')(k:wE K (.ref C') (.ref D')=some b)(q:Q (.bl b) H):lu K [.ref ex,.ref D'] H Q:=⟨ex,C',b,h,c,.inl ⟨D',rfl,k⟩,q⟩
theorem ZK{T:String}(h:H ex=some (ji ex (.ref C')))(c:gI K C')(k:wE K (.ref C') (.type T)=some b)(q:Q (.bl b) H):lu K [.ref ex,.ty T] H Q:=⟨ex,C',b,h,c,.inr (.inl ⟨T,rfl,k⟩),q⟩
theorem NX:∀{cs:List we},(∀c∈cs,wE K (.ref C') (.ref c)=some false)->qG K (.ref C') (cs.map Value.ref)=some false
 | [],_=>rfl
 | c::cs,h=>by
  rw[ve,qG,h c (wJ ..)];exact NX λc hc=>h c (wB _ hc)
theorem Uu(h:H ex=some (ji ex (.ref C')))(c:gI K C')(t:aV K H tp (cs.map V.ref))(k:∀c∈cs,wE K (.ref C') (.ref c)=some false)(q:Q (.bl false) H):lu K [.ref ex,.ref tp] H Q:=⟨ex,C',false,h,c,.inr (.inr ⟨tp,cs,rfl,t,NX k⟩),q⟩
end
end L2
namespace GM
def L9(c:Int)(u:List Int):Nat->Int->Int
 | 0,p=>p
 | k+1,p=>if c<=p then p else L9 c u k (p+u.getD p.toNat 0)
def zED(g:List Nat)(w d:Nat)(t:List Int):Bool:=decide ((t.getD 0 0).toNat∈g)&&(decide (t.getD 1 0=(w:Int))&&decide (t.getD 2 0=(d:Int)))
def zEx(ts:List (List Int))(g:List Nat)(w d:Nat):Nat:=(ts.filter (zED g w d)).length
section
variable(rs:List Int)(us ts:List (List Int))(ps cs:List Int)
def phG(g:List Nat)(w:Nat):Int:=L9 (rs.getD w 0) (us.getD w []) ((cs.getD w 0).toNat+zEx ts g w 0) (ps.getD w 0+1)
def fresh(g:List Nat):List Nat:=(wo rs.length).filter λw=>!decide (w∈g)&&decide (rs.getD w 0<=phG rs us ts ps cs g w)
end
section
variable{rs:List Int}{us ts:List (List Int)}{ps cs:List Int}
end
section
variable(rs:List Int)(us ts:List (List Int))(ps cs:List Int)
end
section
variable{rs:List Int}{us ts:List (List Int)}{ps cs:List Int}{f:Nat}{g:List Nat}{acc:List (List Nat)}
end
section
variable(rs:List Int)(us ts:List (List Int))(ps:List Int)(cm:List (List Int))
end
section
variable{rs:List Int}{us ts:List (List Int)}{ps:List Int}{cm:List (List Int)}
end
end GM
namespace L2
open PySem PySem.Spec PyProof.Rows GM
section
variable{K:wa}{H H':Hp}{Q:VK}{v:V}{rs ps:List Int}{us ts cm rows:List (List Int)}{m:Int}{ws:List (List Nat)}
end
theorem ZV{i:Nat}{te:TE}{ti:sr}{D:cN}{σ : L2.St}{H:Hp}(h:∃x,σ[i]? = some (some x)/\te σ H λy H1=>ti x y H1 λz H2=>D.nx (σ.set i (some z)) H2):RM i te ti D σ H:=h
theorem zAc{v:V}{P:V->Prop}{o:Option (Option V)}(h:o=some (some v))(q:P v):∃x,o=some (some x)/\P x:=⟨v,h,q⟩
theorem zC1{f:Int->Int->Int}{m n:Int}{H:Hp}{Q:VK}(q:Q (.int (f m n)) H):LU f (.int m) (.int n) H Q:=⟨m,n,rfl,rfl,q⟩
end L2
namespace TB
open PySem PySem.W PyProof.Rows
inductive eD{α β : Type}(R : α -> β -> Prop):List α -> List β -> Prop
 | nil:eD R [] []
 | cons {a : α} {b : β} {l:List α} {m:List β} : R a b->eD R l m->eD R (a::l) (b::m)
structure HV(prog:wI)(w:wO)(K:Type)[DecidableEq K] where
 is:wM->K->wf->Prop
 hash:K->Int
 draws:K->Nat
 deep:Nat
 inj:∀{h:wM}{v:wf}{x y:K},is h x v->is h y v->x=y
 keeps:∀{h h':wM}{k:K}{v:wf}{d:we}{o:Obj}{es ep},is h k v->h.get? d=some o->o.data=.dict es ep->vJ d h h'->is h' k v
 pyHash:∀{A:w9}{E:wf->wl->Prop}{s:wl}{k:K}{v:wf}{Q:Int->wl->Prop},A.units+deep<WN->is s.heap k v->Q (hash k) {s with toks:=s.toks+draws k}->wq (model prog w) A (PySem.pyHash v) Q E s
 eqBool:∀{A:w9}{E:wf->wl->Prop}{s:wl}{x y:K}{u v:wf}{Q:Bool->wl->Prop},A.units+deep<WN->is s.heap x u->is s.heap y v->Q (decide (x=y)) s->wq (model prog w) A (PySem.eqBool u v) Q E s
 quiet:∀{A:w9}{E:wf->wl->Prop}{s:wl}{k:K}{v:wf}{Q:Bool->wl->Prop}(n:Nat),deep<=n->is s.heap k v->Q true s->wq (model prog w) A (eqIsQuiet n v) Q E s
section
variable{prog:wI}{w:wO}{A:w9}{E:wf->wl->Prop}{s:wl}
variable{a:we}
theorem Lg{o:Obj}{items:Array wf}{n:Nat}{hs:List (Int × Nat)}{Q:Int->wl->Prop}(hu:A.units<WN)(ho:s.heap.get? a=some o)(hc:o.cls=.type "tuple")(hd:o.data=.seq items n)
  (hi:eD (λv (x:Int × Nat)=>∀(E:wf->wl->Prop)(Q:Int->wl->Prop)(s':wl),s'.heap=s.heap->Q x.1 {s' with toks:=s'.toks+x.2}->wq (model prog w) A.in1 (pyHash v) Q E s') items.toList hs)
  (h:Q (reduceHash (vY (hs.map (·.1)))) {s with toks:=s.toks+((hs.map (·.2)).sum+1)}) :
  wq (model prog w) A (pyHash (.ref a)) Q E s:=by
 have hT:s.TypeIs (.ref a) "tuple":=⟨o,ho,hc⟩;unfold pyHash
 first | unfold pyHashByItsType | skip
 first | refine wg (wpAny_cRoomFor_or (.inr hu) ?_) | skip
 refine wg (wpAny_specialOf hT qO.lookup ?_)
 show wq _ _ (if(some (Value.builtin "tuple.__hash__") == some Value.none)=true then _ else _) Q E s
 rw[if_neg (by rw[beq_builtin_none];exact vG)];refine wg (wpAny_specialOf hT qO.lookup ?_)
 show wq _ _ (callSpecialIfBoundUnlessNone? (.ref a) "__hash__" _ >>= _) Q E s
 refine wg (wpAny_callSpecialIfBoundUnlessNone?_slot hT qO (Wk qO hT F.entry_tuple_hash ?_ (F.args_tuple_hash_1 _)))
 show wq _ _ (Qt (.ref a) >>= _) _ _ s
 refine wg (wpAny_tupleItemsOf ho hd ?_);refine wg ?_;rw[<- qA]
 refine wpAny_forIn_list _
  (λeY (b:Array Int) s'=>∃done left,hs=done++left/\eD (λv (x:Int × Nat)=>∀(E:wf->wl->Prop)(Q:Int->wl->Prop)(s':wl),s'.heap=s.heap->Q x.1 {s' with toks:=s'.toks+x.2}->wq (model prog w) A.in1 (pyHash v) Q E s') eY left/\b.toList=done.map (·.1)/\s' = {s with toks:=s.toks+(done.map (·.2)).sum})
  _ ?_ ?_ _ _ ⟨[],hs,rfl,hi,rfl,rfl⟩
 ·rintro x eY b s' ⟨done,left,rfl,hl,hb,rfl⟩
  cases hl with
  | @cons _ k _ ks' h1 hl' =>
   refine wg (h1 _ _ _ rfl ?_)
   first
    | exact wt ⟨done++[k],ks',by simp,hl',by simp[hb],by simp[Vt]⟩
    | exact wg (wt (wt ⟨done++[k],ks',by simp,hl',by simp[hb],by simp[Vt]⟩))
 ·rintro b s' ⟨done,left,rfl,hl,hb,rfl⟩
  cases hl;rw[vM]at h
  show wq _ _ (retInt (vY b.toList)) _ _ _
  rw[hb];refine wpAny_ret_mkInt ?_
  show wq _ _ (if(decide (-(2:Int)^63<=vY (done.map (·.1)))&&decide (vY (done.map (·.1))<2^63))=true then _ else _) Q E _
  unfold reduceHash at h
  by_cases hr:(decide (-(2:Int)^63<=vY (done.map (·.1)))&&decide (vY (done.map (·.1))<2^63))=true
  ·rw[if_pos hr]
   rw[if_pos hr]at h;exact wt (by simpa [Vt] using h)
  ·rw[if_neg hr]
   rw[if_neg hr]at h;exact wg (wpAny_rule (wt (by simpa [Vt] using h)))
theorem zC6{b:we}{oa ob:Obj}{xs ys:Array wf}{na nb:Nat}{bs:List Bool}{P:PySem.Fin->wl->Prop}(hoa:s.heap.get? a=some oa)(hda:oa.data=.seq xs na)(hob:s.heap.get? b=some ob)(hcb:ob.cls=.type "tuple")(hdb:ob.data=.seq ys nb)
  (hi:eD (λ(p:wf × wf)(c:Bool)=>∀(E:wf->wl->Prop)(Q:Bool->wl->Prop),Q c s->wq (model prog w) A (eqBool p.1 p.2) Q E s) (xs.toList.zip ys.toList) bs)
  (h:P (.done (.ret (.bool (bs.all id&&xs.size == ys.size)))) s) :
  wq (model prog w) A (Builtin.«tuple.__eq__» ⟨[.ref a,.ref b],[]⟩) P E s:=by
 have hTb:s.TypeIs (.ref b) "tuple":=⟨ob,hob,hcb⟩
 show wq _ _ (isInstance (.ref b) (.type "tuple") >>= _) _ _ s
 refine wg (Vi hTb isSubtype_tuple_tuple ?_);simp only[qg,Wu,if_false];refine wg (wpAny_tupleItemsOf hoa hda ?_);refine wg (wpAny_tupleItemsOf hob hdb ?_);refine wg ?_
 refine wpAny_forIn_list _
  (λeY r s'=>r.1=none/\s'=s /\ ∃cs,eD (λ(p:wf × wf)(c:Bool)=>∀(E:wf->wl->Prop)(Q:Bool->wl->Prop),Q c s->wq (model prog w) A (eqBool p.1 p.2) Q E s) eY cs/\bs.all id=cs.all id)
  _ ?_ ?_ _ _ ⟨rfl,rfl,bs,hi,rfl⟩
 ·rintro ⟨u,v⟩ eY r s' ⟨hr,rfl,cs,hcs,hall⟩
  cases hcs with
  | @cons _ c _ cs' h1 h2 =>
   refine wg (h1 _ _ ?_);cases c with
   | true =>
    simp only[qg,Wu,if_false];exact wt ⟨rfl,rfl,cs',h2,by rw[hall];simp⟩
   | false =>
    simp only[xt,if_true];have hf:bs.all id=false:=by rw[hall];simp
    rw[hf,WX]at h;exact wg (wt (wt (wt h)))
 ·rintro ⟨r1,r2⟩ s' ⟨hr,rfl,cs,hcs,hall⟩
  simp only at hr;subst hr;refine wt ?_;cases hcs;rw[hall]at h;have h':P (.done (.ret (.bool (xs.size == ys.size)))) s':=by simpa using h
  exact h'
theorem Tw{o:Obj}{items:Array wf}{n m:Nat}{Q:Bool->wl->Prop}(ho:s.heap.get? a=some o)(hc:o.cls=.type "tuple")(hd:o.data=.seq items n)
  (hi:∀v∈items.toList,∀(E:wf->wl->Prop)(Q:Bool->wl->Prop),Q true s->wq (model prog w) A (eqIsQuiet m v) Q E s) (h:Q true s):wq (model prog w) A (eqIsQuiet (m+1) (.ref a)) Q E s:=by
 have hT:s.TypeIs (.ref a) "tuple":=⟨o,ho,hc⟩;unfold eqIsQuiet;refine wg (wpAny_specialOf hT Q4.lookup ?_)
 show wq _ _ (isInstance (.ref a) (.type "tuple") >>= _) _ _ s
 refine wg (Vi hT isSubtype_tuple_tuple ?_);simp only[qg,Wu,if_false];refine wg (WD ho hd ?_);refine wg ?_
 show wq _ _ (forIn items _ _) _ _ s
 rw[<- qA];refine wpAny_forIn_list _ (λeY r s'=>r.1=none/\s'=s /\ ∀v∈eY,v∈items.toList) _ ?_ ?_ _ _ ⟨rfl,rfl,λ_ h=>h⟩
 ·rintro v eY r s' ⟨hr,rfl,hall⟩
  refine wg (hi v (hall v wJ) _ _ ?_);simp only[qg,Wu,if_false];exact wt ⟨rfl,rfl,λu hu'=>hall u (wB _ hu')⟩
 ·rintro ⟨r1,r2⟩ s' ⟨hr,rfl,_⟩
  simp only at hr;subst hr;exact wt h
theorem SS{b:we}{oa ob:Obj}{xs ys:Array wf}{na nb:Nat}{bs:List Bool}{Q:Bool->wl->Prop}(hu:A.units<WN)(hoa:s.heap.get? a=some oa)(hca:oa.cls=.type "tuple")(hda:oa.data=.seq xs na)(hob:s.heap.get? b=some ob)(hcb:ob.cls=.type "tuple")(hdb:ob.data=.seq ys nb)
  (he:a=b->(bs.all id&&xs.size == ys.size)=true)
  (hi:eD (λ(p:wf × wf)(c:Bool)=>∀(E:wf->wl->Prop)(Q:Bool->wl->Prop),Q c s->wq (model prog w) A.in1 (eqBool p.1 p.2) Q E s) (xs.toList.zip ys.toList) bs)
  (h:Q (bs.all id&&xs.size == ys.size) s):wq (model prog w) A (eqBool (.ref a) (.ref b)) Q E s:=by
 unfold eqBool
 try with_reducible refine WA ?_
 show wq _ _ (if(Value.ref a == Value.ref b)=true then _ else _) Q E s
 by_cases hab:(Value.ref a == Value.ref b)=true
 ·rw[if_pos hab]
  have e:a=b:=by have:=eq_of_beq hab;injection this
  rw[he e]at h;exact wg (wpAny_rule (wt h))
 ·rw[if_neg hab]
  have ta:s.TypeIs (.ref a) "tuple":=⟨oa,hoa,hca⟩;have tb:s.TypeIs (.ref b) "tuple":=⟨ob,hob,hcb⟩
  exact wg (wpAny_richCompare_same_room (op:=.Eq) ta tb Q4
   (Wk Q4 ta F.entry_tuple_eq (zC6 hoa hda hob hcb hdb hi ⟨_,rfl,(λe=>nomatch e),Wz h⟩) (F.args_tuple_eq_2 _ _)) hu)
end
def kX(R:List wf->Prop)(h:wM)(v:wf):Prop:=∃a o items n,v=.ref a/\h.get? a=some o/\o.cls=.type "tuple"/\o.data=.seq items n/\R items.toList
theorem kX.inj{R S:List wf->Prop}{h:wM}{v:wf}(x:kX R h v)(y:kX S h v):∃l,R l/\S l:=by
 obtain⟨a,o,items,n,rfl,ho,_,hd,hi⟩:=x;obtain⟨a',o',items',n',e,ho',_,hd',hi'⟩:=y;cases e;obtain rfl:o=o':=w5 (ho.symm.trans ho');rw[hd]at hd'
 injection hd' with h1 _
 subst h1;exact⟨_,hi,hi'⟩
theorem kX.keeps{R S:List wf->Prop}{h h':wM}{v:wf}{d:we}{o:Obj}{es ep}(x:kX R h v)(ho:h.get? d=some o)(hd:o.data=.dict es ep)(hs:vJ d h h')(r:∀l,R l->S l):kX S h' v:=by
 obtain⟨a,o',items,n,rfl,ho',hc,hd',hi⟩:=x
 have hne:a≠d:=by
  rintro rfl;obtain rfl:o'=o:=w5 (ho'.symm.trans ho);rw[hd]at hd';exact nomatch hd'
 exact⟨a,o',items,n,rfl,(hs.2 a hne).trans ho',hc,hd',r _ hi⟩
def fM(prog:wI)(w:wO):HV prog w Int where
 is:=λ_ k v=>∃t,v=.int k t
 hash:=hashInt
 draws:=λ_=>1
 deep:=0
 inj:=λ⟨t,e⟩ ⟨u,f⟩=>by subst e;injection f
 keeps:=λh _ _ _=>h
 pyHash:=λ_ ⟨t,e⟩ h=>by subst e;exact wpAny_pyHash_int h
 eqBool:=λ_ ⟨t,e⟩ ⟨u,f⟩ h=>by subst e f;exact wpAny_eqBool_int h
 quiet:=λn _ ⟨t,e⟩ h=>by subst e;rw[eqIsQuiet_byValue n rfl];exact wt h
section
variable{prog:wI}{w:wO}{K:Type}[DecidableEq K](e:HV prog w K)
theorem RK{A:w9}{s:wl}(hu:A.in1.units+e.deep<WN):∀{ks:List K}{vs:List wf},eD (e.is s.heap) ks vs ->
  eD (λv (x:Int × Nat)=>∀(E:wf->wl->Prop)(Q:Int->wl->Prop)(s':wl),s'.heap=s.heap->Q x.1 {s' with toks:=s'.toks+x.2}->wq (model prog w) A.in1 (pyHash v) Q E s') vs (ks.map λk=>(e.hash k,e.draws k))
 | _,_,.nil=>.nil
 | _,_,.cons h t=>.cons (λE Q s' he q=>e.pyHash hu (he ▸ h) q) (RK hu t)
theorem NV{A:w9}{s:wl}(hu:A.in1.units+e.deep<WN):∀{ks js:List K}{us vs:List wf},eD (e.is s.heap) ks us->eD (e.is s.heap) js vs ->
  ∃bs,eD (λ(p:wf × wf)(c:Bool)=>∀(E:wf->wl->Prop)(Q:Bool->wl->Prop),Q c s->wq (model prog w) A.in1 (eqBool p.1 p.2) Q E s) (us.zip vs) bs/\(bs.all id&&us.length == vs.length)=decide (ks=js)
 | _,_,_,_,.nil,.nil=>⟨[],.nil,by simp⟩
 | _,_,_,_,.nil,.cons _ _=>⟨[],.nil,by simp⟩
 | _,_,_,_,.cons _ _,.nil=>⟨[],.nil,by simp⟩
 | k::ks,j::js,_,_,.cons h t,.cons h' t'=>by
  obtain⟨bs,b1,b2⟩:=NV hu t t';refine⟨decide (k=j)::bs,.cons (λE Q q=>e.eqBool hu h h' q) b1,?_⟩;rw[xG,Bool.and_assoc,Wa,Wa,show ∀a b:Nat,(a+1 == b+1)=(a == b)from λa b=>by simp,b2]
  by_cases h1:k=j<;>by_cases h2:ks=js<;>simp[h1,h2]
theorem Eo{h:wM} : ∀{ks js:List K}{vs:List wf},eD (e.is h) ks vs->eD (e.is h) js vs->ks=js
 | _,_,_,.nil,.nil=>rfl
 | _,_,_,.cons h t,.cons h' t'=>by rw[e.inj h h',Eo t t']
theorem SN{α β : Type}{R S : α -> β -> Prop}(f:∀a b,R a b->S a b):∀{l:List α}{m:List β},eD R l m->eD S l m
 | _,_,.nil=>.nil
 | _,_,.cons h t=>.cons (f _ _ h) (SN f t)
theorem SH{α β : Type}{R : α -> β -> Prop} : ∀{l:List α}{m:List β},eD R l m->∀y∈m,∃x,R x y
 | _,_,.nil,y,hy=>by cases hy
 | _,_,.cons h t,y,hy=>by
  rcases wR.mp hy with rfl | hy
  ·exact⟨_,h⟩
  ·exact SH t y hy
def fP:HV prog w (List K) where
 is:=λh ks v=>kX (eD (e.is h) ks) h v
 hash:=λks=>reduceHash (vY ((ks.map λk=>(e.hash k,e.draws k)).map (·.1)))
 draws:=λks=>((ks.map λk=>(e.hash k,e.draws k)).map (·.2)).sum+1
 deep:=e.deep+1
 inj:=λx y=>by
  obtain⟨l,h1,h2⟩:=x.inj y;exact Eo e h1 h2
 keeps:=λx ho hd hs=>x.keeps ho hd hs λl h=>SN (λa b r=>e.keeps r ho hd hs) h
 pyHash:=λ{A E s k v Q} hu x h=>by
  obtain⟨a,o,items,n,rfl,ho,hc,hd,hi⟩:=x;exact Lg (by lia) ho hc hd (RK e (show A.units+1+e.deep<WN by lia) hi) h
 eqBool:=λ{A E s x y u v Q} hu hx hy h=>by
  have hj:u=v->x=y:=λev=>by
   subst ev;obtain⟨l,h1,h2⟩:=hx.inj hy;exact Eo e h1 h2
  obtain⟨a,o,items,n,rfl,ho,hc,hd,hi⟩:=hx;obtain⟨a',o',items',n',rfl,ho',hc',hd',hi'⟩:=hy;obtain⟨bs,b1,b2⟩:=NV e (A:=A) (show A.units+1+e.deep<WN by lia) hi hi';have b3:(bs.all id&&items.size == items'.size)=decide (x=y):=by rw[<- b2];rfl
  refine SS (by lia) ho hc hd ho' hc' hd' (λea=>?_) b1 (by rw[b3];exact h);rw[b3];exact decide_eq_true (hj (by rw[ea]))
 quiet:=λ{A E s k v Q} n hn x h=>by
  obtain⟨a,o,items,m,rfl,ho,hc,hd,hi⟩:=x;obtain⟨j,rfl⟩:∃j,n=j+1:=⟨n-1,by lia⟩
  exact Tw ho hc hd (λu hu E Q q=>by
   obtain⟨x,hx⟩:=SH hi u hu;exact e.quiet j (by lia) hx q) h
end
section
variable{prog:wI}{w:wO}{J K:Type}[DecidableEq J][DecidableEq K](d:HV prog w J)(e:HV prog w K)
def Zp(h:wM)(k:J × K)(l:List wf):Prop:=∃u v,l=[u,v]/\d.is h k.1 u/\e.is h k.2 v
def NZ:HV prog w (J × K) where
 is:=λh k v=>kX (Zp d e h k) h v
 hash:=λk=>reduceHash (vY ([(d.hash k.1,d.draws k.1),(e.hash k.2,e.draws k.2)].map (·.1)))
 draws:=λk=>([(d.hash k.1,d.draws k.1),(e.hash k.2,e.draws k.2)].map (·.2)).sum+1
 deep:=max d.deep e.deep+1
 inj:=λ{h v x y} hx hy=>by
  obtain⟨l,⟨u,v,rfl,h1,h2⟩,u',v',e',h3,h4⟩:=hx.inj hy;cases e';exact Vs (d.inj h1 h3) (e.inj h2 h4)
 keeps:=λx ho hd hs=>x.keeps ho hd hs λl ⟨u,v,r,h1,h2⟩=>⟨u,v,r,d.keeps h1 ho hd hs,e.keeps h2 ho hd hs⟩
 pyHash:=λ{A E s k v Q} hu x h=>by
  obtain⟨a,o,items,n,rfl,ho,hc,hd,u,v,hl,h1,h2⟩:=x
  exact Lg (by lia) ho hc hd (by
   rw[hl];exact .cons (λE Q s' he q=>d.pyHash (show A.units+1+d.deep<WN by lia) (he ▸ h1) q) (.cons (λE Q s' he q=>e.pyHash (show A.units+1+e.deep<WN by lia) (he ▸ h2) q) .nil)) h
 eqBool:=λ{A E s x y u v Q} hu hx hy h=>by
  have hj:u=v->x=y:=λev=>by
   subst ev;obtain⟨l,⟨u,v,rfl,h1,h2⟩,u',v',e',h3,h4⟩:=hx.inj hy;cases e';exact Vs (d.inj h1 h3) (e.inj h2 h4)
  obtain⟨a,o,items,n,rfl,ho,hc,hd,u,v,hl,h1,h2⟩:=hx;obtain⟨a',o',items',n',rfl,ho',hc',hd',u',v',hl',h1',h2'⟩:=hy
  have b3:([decide (x.1=y.1),decide (x.2=y.2)].all id&&items.size == items'.size)=decide (x=y):=by
   rw[<- W9,<- W9,hl,hl'];obtain⟨x1,x2⟩:=x;obtain⟨y1,y2⟩:=y
   by_cases h1:x1=y1<;>by_cases h2:x2=y2<;>simp[h1,h2]
  refine SS (bs:=[decide (x.1=y.1),decide (x.2=y.2)]) (by lia) ho hc hd ho' hc' hd' (λea=>?_) ?_ (by rw[b3];exact h)
  ·rw[b3]
   exact decide_eq_true (hj (by rw[ea]))
  ·rw[hl,hl']
   exact .cons (λE Q q=>d.eqBool (show A.units+1+d.deep<WN by lia) h1 h1' q) (.cons (λE Q q=>e.eqBool (show A.units+1+e.deep<WN by lia) h2 h2' q) .nil)
 quiet:=λ{A E s k v Q} n hn x h=>by
  obtain⟨a,o,items,m,rfl,ho,hc,hd,u,v,hl,h1,h2⟩:=x;obtain⟨j,rfl⟩:∃j,n=j+1:=⟨n-1,by lia⟩
  exact Tw ho hc hd (λu hu E Q q=>by
   rw[hl]at hu;rcases wR.mp hu with rfl | hu
   ·exact d.quiet j (by lia) h1 q
   ·rw[wX]at hu
    subst hu;exact e.quiet j (by lia) h2 q) h
end
abbrev SK:=List Int × List (List Int)
def kg(prog:wI)(w:wO):HV prog w SK:=NZ (fP (fM prog w)) (fP (fP (fM prog w)))
def Zt(prog:wI)(w:wO):HeapKind prog w SK where
 is:=λh k a=>(kg prog w).is h k (.ref a)
 hash:=(kg prog w).hash
 draws:=(kg prog w).draws
 room:=λA=>A.units+3<WN
 inj:=λx y=>(kg prog w).inj x y
 keeps:=λx ho hd hs=>(kg prog w).keeps x ho hd hs
 pyHash:=λhu hk h=>(kg prog w).pyHash hu hk h
 eqBool:=λhu hx hy h=>(kg prog w).eqBool hu hx hy h
 quiet:=λhk h=>(kg prog w).quiet 8 (by show 3<=8;decide) hk h
end TB
namespace L2
open PySem PySem.Spec PyProof.Rows GM
open TB (SK Zt kg fP fM NZ eD)
theorem Pz{P:wI}{w:wO}{h:wM} : ∀{us:List wf}{ns:List Int},IntsAre us ns->eD ((fM P w).is h) ns us
 | _,_,.nil=>.nil
 | _,_,.cons n t r=>.cons ⟨t,rfl⟩ (Pz r)
section
variable{X:Cx}{pins:List (we × Obj)}{σ : St}{H:Hp}{s:wl}
theorem Inv.Zd(I:Inv X pins σ H s){v:V}{u:wf}{k:List Int}(h:Is X.K H v (TZ k))(r:bE v u):(fP (fM X.prog X.w)).is s.heap k u:=by
 obtain⟨q,rfl,hs⟩:=pO.mp h;obtain⟨its,r',⟨o,e,hc,n,hd⟩,_⟩:=I.tuple hs;cases (show u=Value.ref q from r);exact⟨q,o,its.toArray,n,rfl,e,hc,hd,Pz (w_ r')⟩
end
def Zs(l:List (Int × Nat)):Int:=reduceHash (vY (l.map (·.1)))
def zD0(ks:List Int):Int:=Zs (ks.map λk=>(hashInt k,1))
section
variable{X:Cx}{pins:List (we × Obj)}{σ : St}{H:Hp}{s:wl}{a b:we}{xs:List (SK × we × Int)}{ps:List Int}{cm:List (List Int)}{A:w9}{E:wf->wl->Prop}
end
section
variable{X:Cx}{pos pos':Pos}{i o value:Expr}{ty td tv:TE}
end
section
variable{K:wa}{H H':Hp}{Q:VK}{D:cN}{σ : St}{td ty tv:TE}{a b:we}{xs:List (SK × we × Int)}{ps:List Int}{cm:List (List Int)}{n:Int}
end
section
variable{X:Cx}{N':List Str}{scope:Scope}{cl:List (Str × we)}{src:List (Option Nat)}{elt tgt iter:Expr}{ifs:List Expr}{pos:Pos}{wi:TI}{g:TG}{tt:TT}{te:TE}
end
end L2
namespace TB
open PySem PySem.Spec PyProof.Rows
def dJ(prog:wI)(w:wO):HeapKind prog w (List Int) where
 is:=λh k a=>(fP (fM prog w)).is h k (.ref a)
 hash:=(fP (fM prog w)).hash
 draws:=(fP (fM prog w)).draws
 room:=λA=>A.units+1<WN
 inj:=λx y=>(fP (fM prog w)).inj x y
 keeps:=λx ho hd hs=>(fP (fM prog w)).keeps x ho hd hs
 pyHash:=λhu hk h=>(fP (fM prog w)).pyHash hu hk h
 eqBool:=λhu hx hy h=>(fP (fM prog w)).eqBool hu hx hy h
 quiet:=λhk h=>(fP (fM prog w)).quiet 8 (by show 1<=8;decide) hk h
section
variable{prog:wI}{w:wO}{K:Type}[DecidableEq K]{knd:HeapKind prog w K}{A:w9}{E:wf->wl->Prop}{s:wl}
end
end TB
namespace L2
open PySem PySem.Spec PyProof.Rows GM
open TB (dJ fP fM)
abbrev NE:=List Int × we × we
def sA(x:NE)(e:DictEntry):Prop:=e=⟨zD0 x.1,.ref x.2.1,.ref x.2.2⟩
def hV(a:we)(ep:Nat)(xs:List NE):HO:=.ext λh=>xs.length<=1000/\(a == sysModules)=false/\(xs.map (·.1)).Nodup /\ ∃o es,h.get? a=some o/\o.ExactDict/\o.data=.dict es ep/\Paired sA xs es.toList
def Ab(K:wa)(H:Hp)(xs:List NE):Prop:=∀x∈xs,Is K H (.ref x.2.1) (TZ x.1)
def lY(xs:List NE)(k:List Int):Option we:=(xs.find? λx=>decide (x.1=k)).map (·.2.2)
theorem Zy{P:wI}{w:wO}{H:Hp}{h:wM}{a:we}{ep:Nat}{xs:List NE}(z:xs.length<=1000)(hd:(a == sysModules)=false)(nd:(xs.map (·.1)).Nodup){o:Obj}{es:Array DictEntry}(ho:h.get? a=some o)(hx:o.ExactDict)(hda:o.data=.dict es ep)(r:Paired sA xs es.toList) :
  dS P w H h a (hV a ep xs):=⟨⟨z,hd,nd,o,es,ho,hx,hda,r⟩,⟨o,ho⟩,λh1 h2 ⟨z,hd,nd,o,es,ho,q⟩ k=>⟨z,hd,nd,o,es,k _ ho,q⟩⟩
def iQ(xs:List NE):List (List Int × we × wf):=xs.map λx=>(x.1,x.2.1,.ref x.2.2)
theorem zD3{P:wI}{w:wO}{xs:List NE}{es:List DictEntry}(r:Paired sA xs es):es=(iQ xs).map (entryOfKey (dJ P w)):=by
 induction r with
 | nil=>rfl
 | @cons x e xs es hx r ih =>
  show e::es=_::(iQ xs).map (entryOfKey (dJ P w))
  rw[<- ih,show e=_ from hx]
  rfl
theorem Tu{P:wI}{w:wO} : ∀xs:List NE,Paired sA xs ((iQ xs).map (entryOfKey (dJ P w)))
 | []=>.nil
 | x::xs=>.cons rfl (Tu xs)
theorem zB8(xs:List NE)(k:List Int):(atKey (iQ xs) k).map (·.2)=(lY xs k).map Value.ref:=by
 induction xs with
 | nil=>rfl
 | cons x xs ih =>
  unfold atKey lY iQ at *;rw[ve,ud,ud]
  by_cases e:x.1=k
  ·simp[e]
  ·simp only[e,decide_false]
   exact ih
section
variable{X:Cx}{pins:List (we × Obj)}{σ : St}{H:Hp}{s:wl}{a b q:we}{ep:Nat}{xs:List NE}{k:List Int}{A:w9}{E:wf->wl->Prop}
theorem Inv.nK(I:Inv X pins σ H s)(h:Is X.K H (.ref b) (TZ k)):(dJ X.prog X.w).is s.heap k b:=I.Zd h rfl
theorem Inv.Kq(I:Inv X pins σ H s)(e:H a=some (hV a ep xs)):xs.length<=1000/\(a == sysModules)=false/\(xs.map (·.1)).Nodup /\ ∃o es,s.heap.get? a=some o/\o.ExactDict/\o.data=.dict es ep/\Paired sA xs es.toList :=
 (show dS X.prog X.w H s.heap a (hV a ep xs)from I.aM a _ e).1
end
section
variable{X:Cx}{o e f:Expr}{apos cpos pos:Pos}{td ty tx:TE}{tg:Expr}
end
section
variable{K:wa}{H H':Hp}{Q:VK}{D:cN}{σ : St}{td ty tx te:TE}{g:TG}{tt:TT}{a b q:we}{ep:Nat}{xs:List NE}{k:List Int}{src:List (Option Nat)}
end
section
variable{X:Cx}{N':List Str}{scope:Scope}{cl:List (Str × we)}{src:List (Option Nat)}{elt tgt iter:Expr}{ifs:List Expr}{pos:Pos}{wi:TI}{g:TG}{tt:TT}{te:TE}
end
end L2
namespace TB
open PySem PySem.W PyProof.Rows
theorem PJ:entryFor table "dict.update.loop"=some Builtin.«dict.update.loop»:=entryFor_of_tree (by kernel_rfl)
theorem zC:plainId "dict.update.loop"=true:=by decide +kernel
theorem zt3:typeLookup (.type "zip") "keys"=pure none:=am_miss_of_fast (by decide +kernel)
theorem zlS:typeLookup (.type "zip") "__getattr__"=pure none:=by rw[typeLookup_type,builtinLookup_eq_fast];kernel_rfl
theorem zhG:entryFor table "zip.__getattribute__"=some Builtin.«object.__getattribute__» :=
 entryFor_alias (id':="object.__getattribute__") (by kernel_rfl) (by decide +kernel) (by decide +kernel) (by kernel_rfl)
theorem ztl(a:we)(fs:Array wf)(sl:Array (Option wf))(name:Str)(u:Tok)(hmiss:typeLookup (.type "zip") name=pure none)(hname:(["__module__","__name__","__qualname__","__doc__","__annotations__"]:List Str).contains name=false)(hsz:name.length+100<=vc:=by size_fits) :
  Meets (Builtin.«object.__getattribute__» ⟨[.ref a,.str name u],[]⟩) (λA R s=>s.heap.get? a=some {cls:=.type "zip",dict:=none,data:=.fields fs,slots:=sl}/\raisesAttr (.ref a) name A R s) :=
 Meets.of_wp λprog w A R s hs=>by
  obtain⟨hp,g,d,tk,os⟩:=s;obtain⟨hx,hs⟩:=hs;have hT:(⟨hp,g,d,tk,os⟩:wl).TypeIs (.ref a) "zip":=⟨_,hx,rfl⟩;unfold Builtin.«object.__getattribute__»
  repeat(any_goals(first | assumption | wp_step))
  simp only[hname,Wu,if_false]
  repeat(any_goals(first | assumption | wp_step))
  exact wpAny_raiseAttrError hs.1 hs.2 (attrMsg_fits (by decide +kernel) hsz)
section
variable{prog:wI}{w:wO}{A:w9}{E:wf->wl->Prop}{s:wl}
theorem zAA{a:we}{fs:Array wf}{sl:Array (Option wf)}{Q:Option wf->wl->Prop}
  (hx:s.heap.get? a=some {cls:=.type "zip",dict:=none,data:=.fields fs,slots:=sl}) (hA:A.handled=none)
  (q:∀h' tk,(∀b ob,s.heap.get? b=some ob->h'.get? b=some ob)->Q none {s with heap:=h',toks:=tk}) :
  wq (model prog w) A (getAttr? (.ref a) "keys") Q E s:=by
 obtain⟨hp,g,d,tk,os⟩:=s;have hT:∀tk',(⟨hp,g,d,tk',os⟩:wl).TypeIs (.ref a) "zip":=λ_=>⟨_,hx,rfl⟩
 have f1:=sub_AttributeError;have f3:=VW.lookup;have f4:=VW.bind (.ref a);have f5:=zlS;unfold getAttr? getAttrBy? getAttrBy
 repeat(any_goals(first | assumption | exact hT _ | ((with_reducible show wq _ _ (call (Value.builtin "zip.__getattribute__") _ _) _ _ _);refine call_meets VW (hT _) zhG (PySem.F.args_zip_getattribute_2 _ _) (ztl a fs sl "keys" _ zt3 (by decide +kernel)) ⟨hx,hA,λh' tk' e hx'=>?_⟩) | wp_step))
 obtain⟨t',u',he⟩:=hx'.there
 show wq _ _ (getattributeRaised _ _ _ _ _ _ _) _ _ _
 unfold getattributeRaised
 repeat(any_goals(first | assumption | wp_step))
 exact q _ _ hx'.keeps
theorem zzC{p:we}{x y:wf}(h:WE s.heap p x y){Q:List wf->wl->Prop}(q:Q [x,y] s):wq (model prog w) A (xo (.ref p)) Q E s:=by
 have hT:s.TypeIs (.ref p) "tuple":=⟨_,h,rfl⟩;unfold xo;refine wg (wpAny_typeOf hT ?_);rw[if_pos (by decide)];refine wg (WD h rfl ?_);exact wt q
abbrev mh(h:wM)(z TI TO p:we)(f:Bool):Prop :=
 h.get? z=some {cls:=.type "zip",dict:=none,data:=.fields #[Vc p,.bool f,.bool false,.ref TI,.ref TO],slots:=#[]}
end
section
variable{prog:wI}{w:wO}{A:w9}{E:wf->wl->Prop}{s:wl}{z TI TO i1 i2 p:we}{f:Bool}{f1 f2:List we}{n1 n2 k:Nat}{P1 P2:Nat->wf->Prop}{S1 S2:Nat->wM->Prop}{a b:wf}
variable{op:Obj}
theorem U4{Q:Bool->wl->Prop}(hz:mh s.heap z TI TO p f)(hp:s.heap.get? p=some op)
  (q:∀g,mh g z TI TO p true->vJ z s.heap g->Q false {s with heap:=g}):wq (model prog w) A (vI (.ref z)) Q E s:=by
 unfold vI;refine wg (vD hz rfl (x:=Vc p) rfl ?_)
 show wq _ _ (loadIfAlive ((p:Int).toNat) >>= _) _ _ _
 rw[wD];refine wg (kdx_alive hp ?_);simp only[Option.isNone_some,Wu,if_false];refine wg (vD hz rfl (x:=.bool f) rfl ?_);cases f with
 | true =>
  rw[if_neg (show ¬ ((Value.bool true != Value.bool true)=true)from vG)];exact wt (q _ hz (Heap.SameBut.refl _ _))
 | false =>
  rw[if_pos (show(Value.bool false != Value.bool true)=true from rfl)];refine wg (W1 hz (by simp) λg hg sb=>?_);exact wt (q g hg sb)
theorem zEw{Q:wf->wl->Prop}(D1:Draws prog w A i1 f1 n1 P1 S1)(D2:Draws prog w A i2 f2 n2 P2 S2)(ap:L2.ZA z TI TO i1 i2 f1 f2)(hz:mh s.heap z TI TO p f)(hi:WE s.heap TI (.ref i1) (.ref i2))(hp:s.heap.get? p=some op)
  (h1:S1 k s.heap) (h2:S2 k s.heap) (l1:k<n1) (l2:k<n2)
  (fin:∀x y h' tk,P1 k x->P2 k y->mh h' z TI TO p true->S1 (k+1) h'->S2 (k+1) h'->WE h' s.heap.objs.size x y ->
   (∀c o,c≠z->c≠i1->c≠i2->s.heap.get? c=some o->h'.get? c=some o)->Q (.ref s.heap.objs.size) {s with heap:=h',toks:=tk}) :
  wq (model prog w) A (Builtin.«zip.__next__» ⟨[.ref z],[]⟩) (λr s'=>∃v,r=.done (.ret v)/\Q v s') E s:=by
 show wq _ _ (field (.ref z) 2 >>= _) _ _ _;refine wg (vD hz rfl (x:=.bool false) rfl ?_)
 show wq _ _ (field (.ref z) 3 >>= _) _ _ _;refine wg (vD hz rfl (x:=.ref TI) rfl ?_)
 refine wg (WD hi rfl ?_);show wq _ _ (vI (.ref z) >>= _) _ _ _
 refine wg (U4 hz hp λg0 hz0 sb0=>?_);have sb0:vJ z s.heap g0:=sb0;simp only[Wu,if_false];refine wg ?_;rw[<- qA];simp only[qp,Qj];have h1a:S1 k g0:=D1.frame _ _ _ h1 λc hc o e=>sb0.extBut c o (λq=>ap.b1 (q ▸ hc)) e
 have h2a:S2 k g0:=D2.frame _ _ _ h2 λc hc o e=>sb0.extBut c o (λq=>ap.b2 (q ▸ hc)) e
 refine wg (wg (WA ?_))
 show wq _ _ (vK (.ref i1) >>= _) _ _ _
 refine wg (D1.item k _ _ _ l1 h1a λx g1 t1 px h1b sb1=>wt ?_);have sb1:vJ i1 g0 g1:=sb1;have h2b:S2 k g1:=D2.frame _ _ _ h2a λc hc o e=>sb1.extBut c o (λq=>ap.b5 (q ▸ hc)) e
 refine wt ?_;refine wg (wg (WA ?_))
 show wq _ _ (vK (.ref i2) >>= _) _ _ _
 refine wg (D2.item k _ _ _ l2 h2b λy g2 t2 py h2c sb2=>wt ?_);have sb2:vJ i2 g1 g2:=sb2;have h1c:S1 (k+1) g2:=D1.frame _ _ _ h1b λc hc o e=>sb2.extBut c o (λq=>ap.b6 (q ▸ hc)) e
 refine wt (wt ?_);refine wg (wpAny_newTuple (hsz:=by show 2<=vc;rw[sizeLine_eq];decide) ?_);have hsz:g2.objs.size=s.heap.objs.size:=by rw[sb2.1,sb1.1,sb0.1]
 have kept:∀c o,c≠z->c≠i1->c≠i2->s.heap.get? c=some o->g2.get? c=some o:=λc o c1 c3 c4 e=>sb2.extBut _ _ c4 (sb1.extBut _ _ c3 (sb0.extBut _ _ c1 e))
 have zz:mh g2 z TI TO p true:=sb2.extBut _ _ ap.a4.symm (sb1.extBut _ _ ap.a3.symm hz0);refine wt ⟨_,rfl,?_⟩
 show Q (.ref g2.objs.size) _
 have new:WE (g2.push {cls:=.type "tuple",data:=.seq #[x,y]}) g2.objs.size x y:=wS _ rfl;rw[hsz]at new ⊢;exact fin x y _ _ px py (wn _ zz) (D1.frame _ _ _ h1c λc hc o e=>wn _ e) (D2.frame _ _ _ h2c λc hc o e=>wn _ e) new λc o c1 c3 c4 e=>wn _ (kept c o c1 c3 c4 e)
theorem ZF{Q:Fin->wl->Prop}(D1:Draws prog w A i1 f1 n1 P1 S1)(ap:L2.ZA z TI TO i1 i2 f1 f2)(hz:mh s.heap z TI TO p f)(hi:WE s.heap TI (.ref i1) (.ref i2))(hp:s.heap.get? p=some op)(h1:S1 n1 s.heap)
  (fin:∀h' e tk,(∀c o,c≠z->c≠i1->s.heap.get? c=some o->h'.get? c=some o)->(∃o,h'.get? e=some o/\o.cls=.type "StopIteration")->E (.ref e) {s with heap:=h',toks:=tk}) :
  wq (model prog w) A (Builtin.«zip.__next__» ⟨[.ref z],[]⟩) Q E s:=by
 show wq _ _ (field (.ref z) 2 >>= _) _ _ _;refine wg (vD hz rfl (x:=.bool false) rfl ?_)
 show wq _ _ (field (.ref z) 3 >>= _) _ _ _;refine wg (vD hz rfl (x:=.ref TI) rfl ?_)
 refine wg (WD hi rfl ?_);show wq _ _ (vI (.ref z) >>= _) _ _ _
 refine wg (U4 hz hp λg0 hz0 sb0=>?_);have sb0:vJ z s.heap g0:=sb0;simp only[Wu,if_false];refine wg ?_;rw[<- qA];simp only[qp,Qj];have h1a:S1 n1 g0:=D1.frame _ _ _ h1 λc hc o e=>sb0.extBut c o (λq=>ap.b1 (q ▸ hc)) e
 refine wg (wg (WA ?_))
 show wq _ _ (vK (.ref i1) >>= _) _ _ _
 exact wg (D1.done _ _ _ h1a λg1 e sb1 he=>fin g1 e _ (λc o c1 c3 q=>sb1 _ _ c3 (sb0.extBut _ _ c1 q)) he)
end
theorem pg{prog:wI}{w:wO}{h h':wM}{k:List Int}{a:we}(x:(dJ prog w).is h k a)(e:∀o,h.get? a=some o->h'.get? a=some o):(dJ prog w).is h' k a:=by
 obtain⟨a',o,items,n,ea,ho,hc,hd,r⟩:=x;cases ea;exact⟨a,o,items,n,rfl,e o ho,hc,hd,r⟩
def kq(base:we)(h h':wM):Prop:=∀b o,b<base->h.get? b=some o->h'.get? b=some o
theorem kq.trans{base:we}{h h' h'':wM}(x:kq base h h')(y:kq base h' h''):kq base h h'':=λb o hb e=>y b o hb (x b o hb e)
structure ZB(base z TI TO i1 i2 d a b:we):Prop where
 ap:L2.ZA z TI TO i1 i2 [i1,a] [i2,b]
 na:a≠i1
 nb:b≠i2
 bz:base<=z
 bO:base<=TO
 b1:base<=i1
 b2:base<=i2
 bd:base<=d
 dz:d≠z
 dI:d≠TI
 dO:d≠TO
 d1:d≠i1
 d2:d≠i2
 la:a<base
 lb:b<base
def mw(z TI TO i1 i2 d a b:we)(its jts:Array wf)(i:Nat)(h:wM):Prop:=WE h TI (.ref i1) (.ref i2)/\(h.IsTupleIter i1 a i/\h.IsTuple a its)/\(h.IsTupleIter i2 b i/\h.IsTuple b jts) /\
 ((∃x y,IsZip h z TI TO .none/\WE h TO x y) \/ ∃p f op,mh h z TI TO p f/\h.get? p=some op/\p≠z/\p≠i1/\p≠i2/\p≠d)
section
variable{prog:wI}{w:wO}{A:w9}{E:wf->wl->Prop}{s:wl}{base z TI TO i1 i2 d a b:we}{its jts:Array wf}{i:Nat}
theorem jJ(hh:A.handled=none)(it l:we)(hne:l≠it)(items:Array wf):Draws prog w A it [it,l] items.size (λi v=>items[i]? = some v) (λi h=>h.IsTupleIter it l i/\h.IsTuple l items):=L2.pf true hh it l hne items
theorem zEm(B:ZB base z TI TO i1 i2 d a b)(hh:A.in1.handled=none)(st:mw z TI TO i1 i2 d a b its jts i s.heap)(hd:d<s.heap.objs.size){x y:wf}(hx:its[i]? = some x)(hy:jts[i]? = some y){Q:Option wf->wl->Prop}
  (q:∀(h':wM) tk,WE h' s.heap.objs.size x y->mw z TI TO i1 i2 d a b its jts (i+1) h'->(∀c o,c≠z->c≠TO->c≠i1->c≠i2->s.heap.get? c=some o->h'.get? c=some o)->Q (some (.ref s.heap.objs.size)) {s with heap:=h',toks:=tk}) :
  wq (model prog w) A (pyNext (.ref z)) Q E s:=by
 obtain⟨hi,s1,s2,hz⟩:=st
 have lt1:i<its.size:=by
  rcases wG i its.size with z | z
  ·exact z
  ·rw[xp z]at hx;cases hx
 have lt2:i<jts.size:=by
  rcases wG i jts.size with z | z
  ·exact z
  ·rw[xp z]at hy;cases hy
 have ap:=B.ap;unfold pyNext;rcases hz with⟨x0,y0,hz,ho⟩ | ⟨p,f,op,hz,hp,p1,p2,p3,p4⟩
 ·have hT:s.TypeIs (.ref z) "zip":=⟨_,hz,rfl⟩
  have ltz:=wA hz
  refine wg (WV (wpAny_callSpecial?_slot (name:=vX "__next__") hT Wv (Wk Wv hT VL
   (L2.Kk (jJ (A:=A.in1) hh i1 a B.na its) (jJ (A:=A.in1) hh i2 b B.nb jts) ap hz hi ho s1 s2 lt1 lt2 λv1 v2 h1 tk e1 e2 hz1 ho1 st1 st2 hT1 hk=>wt ?_) (VA _))))
  rw[hx]at e1;cases e1;rw[hy]at e2;cases e2;have l1:i1<s.heap.objs.size:=by obtain⟨o,e,_⟩:=s1.1;exact wA e
  have l2:i2<s.heap.objs.size:=by obtain⟨o,e,_⟩:=s2.1;exact wA e
  exact q h1 tk hT1 ⟨hk _ _ ap.a1 ap.a5 ap.a6 ap.a7 hi,st1,st2,.inr ⟨s.heap.objs.size,false,_,hz1,hT1,vv ltz,vv l1,vv l2,vv hd⟩⟩ hk
 ·have hT:s.TypeIs (.ref z) "zip":=⟨_,hz,rfl⟩
  refine wg (WV (wpAny_callSpecial?_slot (name:=vX "__next__") hT Wv (Wk Wv hT VL
   (zEw (jJ (A:=A.in1) hh i1 a B.na its) (jJ (A:=A.in1) hh i2 b B.nb jts) ap hz hi hp s1 s2 lt1 lt2 λv1 v2 h1 tk e1 e2 hz1 st1 st2 hT1 hk=>wt ?_) (VA _))))
  rw[hx]at e1;cases e1;rw[hy]at e2;cases e2;exact q h1 tk hT1 ⟨hk _ _ ap.a1 ap.a6 ap.a7 hi,st1,st2,.inr ⟨p,true,op,hz1,hk _ _ p1 p2 p3 hp,p1,p2,p3,p4⟩⟩ λc o c1 _ c3 c4 e=>hk c o c1 c3 c4 e
theorem zEA(B:ZB base z TI TO i1 i2 d a b)(hh:A.in1.handled=none)(st:mw z TI TO i1 i2 d a b its jts its.size s.heap){Q:Option wf->wl->Prop}
  (q:∀(h':wM) tk,(∀c o,c≠z->c≠TO->c≠i1->c≠i2->s.heap.get? c=some o->h'.get? c=some o)->Q none {s with heap:=h',toks:=tk}) :
  wq (model prog w) A (pyNext (.ref z)) Q E s:=by
 obtain⟨hi,s1,s2,hz⟩:=st;have ap:=B.ap;unfold pyNext;rcases hz with⟨x0,y0,hz,ho⟩ | ⟨p,f,op,hz,hp,p1,p2,p3,p4⟩
 ·have hT:s.TypeIs (.ref z) "zip":=⟨_,hz,rfl⟩
  refine wg (WV (wpAny_callSpecial?_slot (name:=vX "__next__") hT Wv (Wk Wv hT VL
   (L2.Ko (k:=its.size) (jJ (A:=A.in1) hh i1 a B.na its) (jJ (A:=A.in1) hh i2 b B.nb jts) ap hz hi ho s1 s2 (.inl rfl) λh' y tk hk hx'=>?_) (VA _))))
  obtain⟨o,ho',hcl⟩:=hx';exact wg (Vi (T:="StopIteration") (b:=true) ⟨o,ho',hcl⟩ isSubtype_stop (wt (q h' tk hk)))
 ·have hT:s.TypeIs (.ref z) "zip":=⟨_,hz,rfl⟩
  refine wg (WV (wpAny_callSpecial?_slot (name:=vX "__next__") hT Wv (Wk Wv hT VL
   (ZF (jJ (A:=A.in1) hh i1 a B.na its) ap hz hi hp s1 λh' y tk hk hx'=>?_) (VA _))))
  obtain⟨o,ho',hcl⟩:=hx';exact wg (Vi (T:="StopIteration") (b:=true) ⟨o,ho',hcl⟩ isSubtype_stop (wt (q h' tk λc o c1 _ c3 _ e=>hk c o c1 c3 e)))
end
theorem mw.but{base z TI TO i1 i2 d a b:we}{its jts:Array wf}{i:Nat}{h g:wM}(st:mw z TI TO i1 i2 d a b its jts i h)(B:ZB base z TI TO i1 i2 d a b)(sb:vJ d h g):mw z TI TO i1 i2 d a b its jts i g:=by
 obtain⟨hi,s1,s2,hz⟩:=st;have da:a≠d:=wT (wU B.la B.bd);have db:b≠d:=wT (wU B.lb B.bd);refine⟨sb.extBut _ _ B.dI.symm hi,⟨s1.1.at λo e=>sb.extBut _ _ B.d1.symm e,s1.2.at λo e=>sb.extBut _ _ da e⟩,⟨s2.1.at λo e=>sb.extBut _ _ B.d2.symm e,s2.2.at λo e=>sb.extBut _ _ db e⟩,?_⟩;rcases hz with⟨x0,y0,hz,ho⟩ | ⟨p,f,op,hz,hp,p1,p2,p3,p4⟩
 ·exact .inl ⟨x0,y0,sb.extBut _ _ B.dz.symm hz,sb.extBut _ _ B.dO.symm ho⟩
 ·exact .inr ⟨p,f,op,sb.extBut _ _ B.dz.symm hz,sb.extBut _ _ p4 hp,p1,p2,p3,p4⟩
section
variable{prog:wI}{w:wO}{A:w9}{R:Result->wl->Prop}{base z TI TO i1 i2 d a b:we}{its jts:Array wf}{key:Nat->List Int}{ka:Nat->we}{val:Nat->wf}
theorem zDE(B:ZB base z TI TO i1 i2 d a b)(hh:A.in1.in1.handled=none)(hu:A.in1.units+1<WN)(hl:jts.size=its.size)(hn:its.size<=999)(hx:∀i,i<its.size->its[i]? = some (.ref (ka i)))(hy:∀i,i<its.size->jts[i]? = some (val i))
  (lk:∀i,i<its.size->ka i<base) (hk:∀i j,i<its.size->j<its.size->key i=key j->i=j) :
  ∀(c i:Nat)(s:wl),its.size-i=c->i<=its.size->mw z TI TO i1 i2 d a b its jts i s.heap->(∀j,j<its.size->(dJ prog w).is s.heap (key j) (ka j))->s.heap.DictOfH (dJ prog w) d ((wo i).map λj=>(key j,ka j,val j)) ->
   (∀(g:wM)(tk:Nat),kq base s.heap g->g.DictOfH (dJ prog w) d ((wo its.size).map λj=>(key j,ka j,val j))->R (.ok (.ret .none)) {s with heap:=g,toks:=tk}) ->
   codeAny (model prog w) A (.builtin "dict.update.loop" ⟨[.ref d,.ref z,Vc i,.none],[]⟩) R s:=by
 have lift:∀{h h':wM}{xs:List (List Int × we × wf)},h.DictOfH (dJ prog w) d xs->(∀x∈xs,x.2.1<base)->kq base h h'->(∀o,h.get? d=some o->h'.get? d=some o)->h'.DictOfH (dJ prog w) d xs:=λx hb bl hd=>by
  obtain⟨o,es,ep,ho,hc,hda,he,his,hn⟩:=x;exact⟨o,es,ep,hd o ho,hc,hda,he,λx hx=>pg (his x hx) λo e=>bl _ o (hb x hx) e,hn⟩
 have lo:∀{h h':wM},(∀c o,c≠z->c≠TO->c≠i1->c≠i2->h.get? c=some o->h'.get? c=some o)->kq base h h':=λhk c o hc e=>hk c o (wT (wU hc B.bz)) (wT (wU hc B.bO)) (wT (wU hc B.b1)) (wT (wU hc B.b2)) e
 intro c
 induction c with
 | zero =>
  intro i s ec ei st ht hs r;obtain rfl:i=its.size:=by omega
  refine codeAny_builtin PJ ?_;rw[qc zC _];refine wg (m:=pyNext (.ref z)) (zEA B hh st λh' tk hk'=>?_);refine wg (wt ?_);refine wt (r h' tk (lo hk') (lift hs (λx hx=>?_) (lo hk') λo e=>hk' d o B.dz B.dO B.d1 B.d2 e));obtain⟨j,hj,rfl⟩:=wV.mp hx;exact lk j (wF.mp hj)
 | succ c ih =>
  intro i s ec ei st ht hs r;have lt:i<its.size:=by omega
  have hdl:d<s.heap.objs.size:=by obtain⟨o,_,_,ho,_⟩:=hs;exact wA ho
  refine codeAny_builtin PJ ?_;rw[qc zC _];refine wg (m:=pyNext (.ref z)) (zEm B hh st hdl (hx i lt) (hy i lt) λh' tk hp st' hk'=>?_);have bl:=lo hk'
  have hs':h'.DictOfH (dJ prog w) d ((wo i).map λj=>(key j,ka j,val j)):=lift hs (λx hx=>by
   obtain⟨j,hj,rfl⟩:=wV.mp hx;have:=wF.mp hj;exact lk j (by omega)) bl λo e=>hk' d o B.dz B.dO B.d1 B.d2 e
  have ht':∀j,j<its.size->(dJ prog w).is h' (key j) (ka j):=λj hj=>pg (ht j hj) λo e=>bl _ o (lk j hj) e
  refine wg (WA (wg (wpAny_tryCatch (zzC hp ?_))));refine WA (wpAny_dictSet_heap (knd:=dJ prog w) (k:=key i) hu (ht' i lt) hs' (λh2 hd2 sb=>?_) (by rw[wm,vi,sizeLine_eq];omega))
  have e2:storedH ((wo i).map λj=>(key j,ka j,val j)) (key i) (ka i) (val i)=(wo (i+1)).map λj=>(key j,ka j,val j):=by
   rw[storedH_new,qX,w6]
   ·rfl
   ·cases e:atKey ((wo i).map λj=>(key j,ka j,val j)) (key i)with
    | none=>rfl
    | some p =>
     unfold atKey at e;rw[Vj]at e;obtain⟨y,hy',_⟩:=e;have hm:=QG hy';have hp':=ue hy';obtain⟨j,hj,rfl⟩:=wV.mp hm;have hj:=wF.mp hj;have:=hk j i (by omega) lt (of_decide_eq_true hp');omega
  rw[e2]at hd2;have sb:vJ d h' h2:=sb;refine wt ⟨plainId_quiet zC _,?_⟩;have bl2:kq base h' h2:=λc o hc e=>sb.extBut c o (wT (wU hc B.bd)) e
  have:=ih (i+1) {s with heap:=h2,toks:=tk+(dJ prog w).draws (key i)} (by omega) lt (st'.but B sb) (λj hj=>pg (ht' j hj) λo e=>bl2 _ o (lk j hj) e) hd2 λg tk' bl3 dd=>r g tk' (bl.trans (bl2.trans bl3)) dd
  exact this
end
section
variable{prog:wI}{w:wO}{A:w9}{E:wf->wl->Prop}{s:wl}{base z TI TO i1 i2 a b:we}{its jts:Array wf}{key:Nat->List Int}{ka:Nat->we}{val:Nat->wf}{x0 y0:wf}
theorem YB(B:ZB base z TI TO i1 i2 s.heap.objs.size a b)(hh:A.handled=none)(hu:A.units+3<WN)(hl:jts.size=its.size)(hn:its.size<=999)(hx:∀i,i<its.size->its[i]? = some (.ref (ka i)))(hy:∀i,i<its.size->jts[i]? = some (val i))
  (lk:∀i,i<its.size->ka i<base) (hk:∀i j,i<its.size->j<its.size->key i=key j->i=j) (hz:IsZip s.heap z TI TO .none) (hi:WE s.heap TI (.ref i1) (.ref i2)) (ho:WE s.heap TO x0 y0) (s1:s.heap.IsTupleIter i1 a 0) (t1:s.heap.IsTuple a its) (s2:s.heap.IsTupleIter i2 b 0) (t2:s.heap.IsTuple b jts)
  (hK:∀j,j<its.size->(dJ prog w).is s.heap (key j) (ka j)) {Q:wf->wl->Prop}
  (q:∀(g:wM)(tk:Nat),kq base s.heap g->g.DictOfH (dJ prog w) s.heap.objs.size ((wo its.size).map λj=>(key j,ka j,val j))->Q (.ref s.heap.objs.size) {s with heap:=g,toks:=tk}) :
  wq (model prog w) A (call (.type "dict") [.ref z]) Q E s:=by
 refine callType_codes (Q₁:=λobj s₁=>obj=.ref s.heap.objs.size/\s₁ = {s with heap:=s.heap.push {cls:=.type "dict",data:=.dict #[]}}) PySem.F.kt_called_dict (PySem.F.kt_typeCall_dict_1 _) PySem.F.entry_dict_init (kt_code_dict_new _ ⟨rfl,rfl⟩) ?_;rintro obj s₁ ⟨rfl,rfl⟩;have hnew:(s.heap.push {cls:=.type "dict",data:=.dict #[]}).DictOfH (dJ prog w) s.heap.objs.size []:=Heap.DictOfH.new s.heap;have hz':IsZip (s.heap.push {cls:=.type "dict",data:=.dict #[]}) z TI TO .none:=wn _ hz;refine⟨hnew.typeIs,PySem.F.args_dict_init_2 _ _,?_⟩;unfold Builtin.«dict.__init__»;refine wg ?_;unfold Builtin.Dict.selfAndRest;refine wg (wpAny_notOrdered_dict hnew.typeIs ?_)
 show wq _ _ (pure (s.heap.objs.size,[Value.ref z])) _ _ _
 refine wt ?_
 show wq _ _ (QY "dict.__init__" s.heap.objs.size (.ref z) [] .none) _ _ _
 unfold QY;refine wg (wpAny_typeOf (T:="zip") ⟨_,hz',rfl⟩ ?_);rw[if_pos (by decide)];refine wg (zAA hz' (by exact hh) λh1 tk1 kp1=>?_);simp only[Option.isNone_none,if_true];refine wg (wpAny_rule ?_);have kp0:∀b o,s.heap.get? b=some o->h1.get? b=some o:=λb o e=>kp1 b o (wn _ e)
 have dn:h1.DictOfH (dJ prog w) s.heap.objs.size []:=by
  obtain⟨o,es,ep,ho,hc,hda,he,his,hn⟩:=hnew;exact⟨o,es,ep,kp1 _ _ ho,hc,hda,he,(λx hx=>by cases hx),hn⟩
 refine wg (wpAny_pyIter_zip (kp0 _ _ hz) ?_);refine wt ⟨plainId_quiet zC _,?_⟩;refine zDE B (by exact hh) (show A.units+1+1+1<WN by omega) hl hn hx hy lk hk (its.size-0) 0 _ rfl (qi _) ⟨kp0 _ _ hi,⟨s1.at λo e=>kp0 _ o e,t1.at λo e=>kp0 _ o e⟩,⟨s2.at λo e=>kp0 _ o e,t2.at λo e=>kp0 _ o e⟩,.inl ⟨x0,y0,kp0 _ _ hz,kp0 _ _ ho⟩⟩ (λj hj=>pg (hK j hj) λo e=>kp0 _ o e) dn λg tk bl dd=>?_
 exact⟨rfl,q g tk (λc o hc e=>bl c o hc (kp0 c o e)) dd⟩
end
end TB
namespace L2
open PySem PySem.Spec PyProof.Rows GM
open TB (dJ fP fM)
theorem zzA:vO "dict"=some (.type "dict"):=by decide +kernel
def gm(ks:List (List Int))(us ws:List we):List NE:=(wo us.length).map λj=>(ks.getD j [],us.getD j 0,ws.getD j 0)
def Ri(K:wa)(vs:List V)(H1:Hp)(Q:VK):Prop:=∃(a b:we)(ks:List (List Int))(us ws:List we),vs=[.ref a,.ref b]/\aV K H1 a (us.map V.ref)/\aV K H1 b (ws.map V.ref)/\us.length=ws.length/\us.length<=999/\aj K H1 (us.map V.ref) (ks.map TZ)/\ks.Nodup /\
 ∀D ep,H1 D=none->Q (.ref D) (upd H1 D (hV D ep (gm ks us ws)))
def RG(K:wa)(ta:TA):TE:=λσ H Q=>ta σ H λvs H1=>Ri K vs H1 Q
theorem zDx{n d a b:Nat}(la:a<n)(lb:b<n)(hd:n+5<=d):TB.ZB n (n+4) (n+2) (n+3) n (n+1) d a b where
 ap:=Mg la lb
 na:=wT la
 nb:=wT (qM lb)
 bz:=Vg _ 4
 bO:=Vg _ 3
 b1:=wp _
 b2:=Vg _ 1
 bd:=by show n<=d;omega
 dz:=vv (by omega)
 dI:=vv (by omega)
 dO:=vv (by omega)
 d1:=vv (by omega)
 d2:=vv (by omega)
 la:=la
 lb:=lb
theorem zxf{ks:List (List Int)}{us ws:List we}(h:ks.length=us.length):(gm ks us ws).map (·.1)=ks:=by
 unfold gm;rw[V4];refine List.ext_getElem? λj=>?_
 rw[wu];rcases wG j us.length with z | z
 ·rw[vH z,wc (by omega:j<ks.length)]
  show some (ks.getD j [])=_
  rw[wb,wc (by omega:j<ks.length)]
  rfl
 ·rw[wL (by simpa using z),wL (by omega)]
  rfl
section
variable{X:Cx}{o i:Expr}{pos:Pos}{td ty:TE}
theorem Dx:∀{ws:List V}{us:List wf},aT ws us->∀{i:Nat}{q:we},ws[i]? = some (.ref q)->us[i]? = some (.ref q)
 | _,_,.nil,i,q,h=>by simp at h
 | _,_,.cons r1 r2,0,q,h=>by
  simp only[QW,qN]at h ⊢;subst h;exact r1
 | _,_,.cons r1 r2,i+1,q,h=>by
  simp only[QX]at h ⊢;exact Dx r2 h
theorem zy3{l m:Expr}{ta:TA}{p p2 pos2:Pos}(hc:X.calm=true)(hu:X.A.units+4<WN)(hg:Gl X "dict")(hm:X.mg "dict"=none)(hg2:Gl X "zip")(hm2:X.mg "zip"=none)(ha:PA X [l,m] ta)(hs:vf [l,m] X.env=[(false,eval l X.env),(false,eval m X.env)]:=by rfl)(hs2:vf [m] X.env=[(false,eval m X.env)]:=by rfl)
   (hs3:vf [Expr.Call (.Name "zip" p2) [l,m] [] pos2] X.env=[(false,eval (.Call (.Name "zip" p2) [l,m] [] pos2) X.env)]:=by rfl):PE X (.Call (.Name "dict" p) [.Call (.Name "zip" p2) [l,m] [] pos2] [] pos) (RG X.K ta):=by
 intro pins s σ H Q I h;refine Call_ (gW I hg hm zzA ?_);refine vC ?_ hs3 rfl;rw[hs3]
 show wq _ _ (spliced ((false,eval _ X.env)::backTo pos [])) _ _ s
 refine Qn ?_;refine Call_ (gW I hg2 hm2 FK (vC (aQ (ha pos2 pins s σ H _ I h) λus s1 ⟨vs,H1,I1,r1,q1⟩=>?_) (by rw[hs,hs2]) (by rw[hs2];rfl)));obtain⟨a,b,ks,us',ws,rfl,hq1,hq2,hl,hn,hk,nd,q⟩:=q1;obtain⟨u,v,rfl,ru,rv⟩:=jI r1;cases ru;cases rv;obtain⟨its,ri,p1⟩:=I1.jo (t:=true) hq1;obtain⟨jts,rj,p2⟩:=I1.jo (t:=true) hq2;have p1:s1.heap.IsTuple a its.toArray:=p1;have p2:s1.heap.IsTuple b jts.toArray:=p2;have la:a<s1.heap.objs.size:=by obtain⟨o,e,_⟩:=p1;exact wA e
 have lb:b<s1.heap.objs.size:=by obtain⟨o,e,_⟩:=p2;exact wA e
 have li:=ri.length;have lj:=rj.length;have lk:=hk.length;simp only[wm]at li lj lk;refine Nt p1 p2 λh' hz hi ho t1 t2 kp=>?_
 refine Qy ?_;have hd:s1.heap.objs.size+5<=h'.objs.size:=wA hz
 have hx:∀j,j<its.toArray.size->its.toArray[j]? = some (Value.ref (us'.getD j 0)):=λj hj=>by
   have hj:j<us'.length:=by simpa [li] using hj
   have:=Dx ri (show(us'.map V.ref)[j]? = some (V.ref (us'.getD j 0)) by rw[wu,wb,wc hj];rfl)
   simpa using this
 have hy:∀j,j<its.toArray.size->jts.toArray[j]? = some (Value.ref (ws.getD j 0)):=λj hj=>by
   have hj : j < ws.length := by have : j < us'.length := by simpa [li] using hj
                                 omega
   have:=Dx rj (show(ws.map V.ref)[j]? = some (V.ref (ws.getD j 0)) by rw[wu,wb,wc hj];rfl)
   simpa using this
 have hK:∀j,j<its.toArray.size->(dJ X.prog X.w).is s1.heap (ks.getD j []) (us'.getD j 0):=λj hj=>by
   have hj:j<us'.length:=by simpa [li] using hj
   have:=(sE hk (i:=j) (x:=.ref (us'.getD j 0)) (by rw[wu,wb,wc hj];rfl)).2
   have ek:(ks.map TZ).getD j .none=TZ (ks.getD j []):=by
     rw[wb,wu,wb,wc (by omega:j<ks.length)]
     rfl
   rw[ek]at this;exact I1.nK this
 refine TB.YB (zDx la lb hd) (I1.ok.hd hc) (by omega) (by simp only[wN];omega) (by simp only[wN];omega) hx hy (λj hj=>?_) (λi j hi' hj e=>?_) hz hi ho t1 (p1.at λo e=>kp _ o e) t2 (p2.at λo e=>kp _ o e) (λj hj=>TB.pg (hK j hj) λo e=>kp _ o e) λg tk bl dd=>?_
 . obtain⟨a',o,items,n,ea,ho',_⟩:=hK j hj
   cases ea;exact wA ho'
 . have hi' : i < ks.length := by have : i < its.length := by simpa using hi'
                                  omega
   have hj : j < ks.length := by have : j < its.length := by simpa using hj
                                 omega
   rw[wb,wb,wc hi',wc hj]at e;have pw:=Wx.mp nd;rcases Vz i j with z | z | z
   . exact absurd e (pw i j hi' hj z)
   . exact z
   . exact absurd e.symm (pw j i hj hi' z)
 . obtain⟨o,es,ep,ho',hxd,hda,he,his,hnd⟩:=dd
   refine⟨.ref h'.objs.size,_,I1.laid (t':=tk) (a:=h'.objs.size) (o:=hV h'.objs.size ep (gm ks us' ws)) (λc o e=>bl c o (wA e) (kp c o e)) (by omega) (Zy ?_ (beq_eq_false_iff_ne.mpr (Wt (wT ?_))) ?_ ho' hxd hda ?_),rfl,q _ ep (I1.aM.fresh (by omega))⟩
   . unfold gm;rw[wm,vi];omega
   . exact wU I1.big (by omega)
   . rw[zxf (by omega)];exact nd
   . rw[he]
     have:((wo its.toArray.size).map λj=>(ks.getD j [],us'.getD j 0,Value.ref (ws.getD j 0)))=iQ (gm ks us' ws):=by
       unfold iQ gm;rw[V4,wN,<- li]
       rfl
     rw[this];exact Tu _
def C9(K:wa)(td ty:TE):TE:=λσ H Q=>td σ H λx H1=>ty σ H1 λy H2=>∃a b ep xs k l,x=.ref a/\y=.ref b/\H2 a=some (hV a ep xs)/\Ab K H2 xs/\Is K H2 (.ref b) (TZ k)/\lY xs k=some l/\Q (.ref l) H2
theorem zDk{pins:List (we × Obj)}{σ : St}{H:Hp}{s:wl}{a b l:we}{ep:Nat}{xs:List NE}{k:List Int}{A:w9}{E:wf->wl->Prop}{Q:wf->wl->Prop}(hu:A.units+4<WN)(I:Inv X pins σ H s)(e:H a=some (hV a ep xs))(hk:Ab X.K H xs)(hb:Is X.K H (.ref b) (TZ k))(hl:lY xs k=some l)(h:∀s',Inv X pins σ H s'->Q (.ref l) s') :
  wq (model X.prog X.w) A (getItem (.ref a) (.ref b)) Q E s:=by
 obtain⟨z,hd,nd,o,es,ho,hx,hda,r⟩:=I.Kq e;have zk:(iQ xs).map (·.1)=xs.map (·.1):=by unfold iQ;rw[V4];rfl
 have dd:s.heap.DictOfH (dJ X.prog X.w) a (iQ xs):=⟨o,es,ep,ho,hx,hda,zD3 r,λx hx=>by
  obtain⟨y,hy,rfl⟩:=wV.mp hx;exact I.nK (hk y hy),by rw[zk];exact nd⟩
 have lk:=zB8 xs k;rw[hl]at lk;cases e2:atKey (iQ xs) k with
 | none=>rw[e2]at lk;cases lk
 | some p =>
  rw[e2]at lk;have:p.2=Value.ref l:=w5 lk;obtain⟨p1,p2⟩:=p;have:p2=Value.ref l:=this;subst this;exact wpAny_getItem_heap (knd:=dJ X.prog X.w) (show A.units+1+1<WN by omega) (I.nK hb) dd e2 (h _ (I.tok _))
theorem zzr(hu:X.A.units+4<WN)(ho:PE X o td)(hi:PE X i ty)(hs:PL i):PE X (.Subscript o i pos) (C9 X.K td ty):=by
 intro pins s σ H Q I h;refine zBb PySem.F.slot_dict_getitem.lookup hs (aQ (ho pins s σ H _ I h) λu s1 ⟨x,H1,I1,rx,q1⟩=>aQ (hi pins s1 σ H1 _ I1 q1) λiv s2 ⟨y,H2,I2,ry,a,b,ep,xs,k,l,ex,ey,e,hk,hb,hl,q2⟩=>?_);subst ex ey;obtain rfl:u=Value.ref a:=rx;obtain rfl:iv=Value.ref b:=ry;obtain⟨_,_,_,od,es,g1,g2,_,_⟩:=I2.Kq e;exact⟨⟨od,g1,g2.1⟩,zDk hu I2 e hk hb hl λs3 I3=>⟨.ref l,H2,I3,rfl,q2⟩⟩
end
section
variable{K:wa}{σ : St}{H:Hp}{Q:VK}{td ty:TE}{ta:TA}
theorem zyc(h:ta σ H λvs H1=>Ri K vs H1 Q):RG K ta σ H Q:=h
theorem ZJ(h:td σ H λx H1=>ty σ H1 λy H2=>∃a b ep xs k l,x=.ref a/\y=.ref b/\H2 a=some (hV a ep xs)/\Ab K H2 xs/\Is K H2 (.ref b) (TZ k)/\lY xs k=some l/\Q (.ref l) H2):C9 K td ty σ H Q:=h
end
end L2
namespace TB
open PySem PySem.W PyProof.Rows MeetsSeq PySem.SeqAt
section
variable{prog:wI}{w:wO}{A:w9}{s:wl}{R:Result->wl->Prop}
def iK(b:Nat->Bool):Nat->Nat->Nat
 | _,0=>0
 | i,k+1=>(if b i=true then 1 else 0)+iK b (i+1) k
theorem Pj{l:we}{items:Array wf}{n:Nat}{dd:Option we}{sl:Array (Option wf)}{x:wf}{b:Nat->Bool}(hl:s.heap.get? l=some {cls:=.type "list",dict:=dd,data:=.seq items n,slots:=sl})
  (he:∀m (hm:m<items.size) (E:wf->wl->Prop) (Q:Bool->wl->Prop),Q (b m) s->wq (model prog w) A.in1 (eqBool items[m] x) Q E s) :
  ∀(k i:Nat)(found:Int),items.size-i=k->R (.ok (.ret (.int (found+(iK b i k:Nat)) s.toks))) {s with toks:=s.toks+1}->codeAny (model prog w) A (.builtin "list.count.loop" ⟨[.ref l,x,Vc i,Vc found],[]⟩) R s
 | 0,i,found,hk,h=>by
  refine codeAny_builtin entry_count_loop ?_;rw[qc plain_count_loop _];obtain⟨hp,g,d,tk,os⟩:=s
  wp_walk using wpAny_loadPart' hl
  have hi:items[((i:Nat):Int).toNat]? = none:=by simp;omega
  rw[hi]
  wp_walk
  simpa [iK] using h
 | k+1,i,found,hk,h=>by
  have hlt:i<items.size:=by omega
  refine codeAny_builtin entry_count_loop ?_;rw[qc plain_count_loop _];have ih:=λfound' h'=>Pj hl he k (i+1) found' (by omega) h'
  obtain⟨hp,g,d,tk,os⟩:=s
  wp_walk using wpAny_loadPart' hl
  have hi:items[((i:Nat):Int).toNat]? = some items[i]:=by simp[hlt]
  have hc:((i:Int)+1)=((i+1:Nat):Int):=by push_cast;rfl
  rw[hi];refine wg (he i hlt _ _ ?_)
  wp_walk
  rw[hc];refine⟨plainId_quiet plain_count_loop _,ih _ ?_⟩;cases hb:b i with
  | false =>
   simp only[iK,hb,Wu,if_false,qY]at h ⊢;exact h
  | true =>
   simp only[iK,hb,if_true]at h ⊢;have e1:found+1+((iK b (i+1) k:Nat):Int)=found+((1+iK b (i+1) k:Nat):Int):=by push_cast;omega
   rw[e1];exact h
theorem YM{l:we}{items:Array wf}{n:Nat}{x:wf}{b:Nat->Bool}{Q:wf->wl->Prop}{E:wf->wl->Prop}(hl:s.heap.get? l=some {cls:=.type "list",dict:=none,data:=.seq items n,slots:=#[]})
  (he:∀m (hm:m<items.size) (E:wf->wl->Prop) (Q:Bool->wl->Prop),Q (b m) s->wq (model prog w) A.in1 (eqBool items[m] x) Q E s)
  (h:Q (.int (iK b 0 items.size:Nat) s.toks) {s with toks:=s.toks+1}):wq (model prog w) A (call (.builtin "list.count") [.ref l,x]) Q E s:=by
 refine wpAny_call (codeAny_call_builtin qJ.plain PySem.F.entry_list_count (qJ.check _ _ _ _ _ _ _ _ ⟨_,hl,rfl⟩ (PySem.F.args_list_count_2 _ _) ?_));have ih:=Pj (R:=wants Q E) hl he items.size 0 0 (by omega) (by rw[Int.zero_add];exact h);obtain⟨hp,g,d,tk,os⟩:=s
 wp_walk using wpAny_loadPart' hl
 exact⟨plainId_quiet plain_count_loop _,ih⟩
end
end TB
namespace L2
open PySem PySem.Spec PyProof.Rows GM
def Dd(K:wa):V->List V->Hp->VK->Prop:=λx vs H Q=>∃(l:we)(us:List V)(v:V)(key:Nat->List Int)(k:List Int),x=.ref l/\vs=[v]/\H l=some (.lst us)/\(∀i u,us[i]? = some u->Em K H u (key i))/\Em K H v k/\Q (.int (TB.iK (λm=>decide (key m=k)) 0 us.length:Nat)) H
theorem zxE{X:Cx}(hu:X.A.units+64<WN):CW X "list.count" (Dd X.K):=by
 intro pins s σ H x vs v us Q I rx rv h;obtain⟨l,ws,y,key,k,rfl,rfl,hH,hk,⟨p,rfl,hp⟩,q⟩:=h;cases rx;obtain⟨u,rfl,ru⟩:=rv.one;cases ru;obtain⟨z,its,n,r,hl,e⟩:=I.pk hH;have hlen:=r.length;refine TB.YM (b:=λm=>decide (key m=k)) e (λm hm E Q' q'=>?_) ?_
 ·have hm2:m<its.length:=by rw[wN]at hm;exact hm
  have hm':m<ws.length:=by omega
  obtain⟨a,ea,sa⟩:=hk m _ (wc hm');have hv:=OL r (show ws[m]? = some (.ref a) by rw[wc hm',ea])
  have he:its.toArray[m]=.ref a:=by
   rw[wc hm2]at hv
   simpa using w5 hv
  rw[he];exact wpAny_eqBool_tuple (by show X.A.units+1<_;lia) (I.key sa) (I.key hp) q'
 ·rw[wN,show its.length=ws.length by omega]
  exact⟨.int _,H,I.tok _,⟨_,rfl⟩,q⟩
theorem LM{x:Rat}{b:Nat->Bool} : ∀(ys:List Rat)(i:Nat),(∀j,j<ys.length->b (i+j)=decide (ys.getD j 0=x))->TB.iK b i ys.length=ys.count x
 | [],_,_=>rfl
 | y::ys,i,h=>by
  have h0:=h 0 (by simp);rw[QL]at h0
  have ih:=LM (x:=x) (b:=b) ys (i+1) λj hj=>by
   have:=h (j+1) (by simp;omega);rw[show i+(j+1)=i+1+j by omega]at this;exact this
  have e:(y::ys).getD 0 0=y:=rfl;rw[e]at h0
  show(if b i=true then 1 else 0)+TB.iK b (i+1) ys.length=_
  rw[ih,List.count_cons,h0]
  by_cases z:y=x<;>simp[z]
  omega
theorem zxA{K:wa}{H:Hp}{Q:VK}{l:we}{us:List V}{xs:List Rat}{x:Rat}{v:V}(h:H l=some (.lst us))(t:aj K H us (xs.map N))(hv:Is K H v (N x))(q:Q (.int (xs.count x:Nat)) H):Dd K (.ref l) [v] H Q:=by
 have hl:=t.length;rw[wm]at hl;refine⟨l,us,v,λj=>[(xs.getD j 0).num,((xs.getD j 0).den:Int)],_,rfl,rfl,h,λj v hv=>SD.mp (cq t hv).2,SD.mp hv,?_⟩
 rw[hl,LM xs 0 λj hj=>by
  rw[qY]
  show decide ([(xs.getD j 0).num,((xs.getD j 0).den:Int)]=[x.num,(x.den:Int)])=decide (xs.getD j 0=x)
  by_cases z:xs.getD j 0=x
  ·rw[decide_eq_true z,decide_eq_true (by rw[z])]
  ·rw[decide_eq_false z,decide_eq_false λe=>z (zBh e)]]
 exact q
end L2
namespace G
open PySem PySem.Spec PyProof.Rows L2 GM
local macro_rules | `(tactic| wtm_at "sc")=>`(tactic| exact ⟨rfl,rfl,rfl,by decide +kernel,rfl,by decide +kernel,by decide +kernel⟩)
def top(i:Nat):wZ:=VX.main.body.getD i (.Pass ⟨0,0,0,0⟩)
abbrev C8:wZ:=top 14
abbrev El:List Str:=["thing"]
abbrev zd:=El
theorem ztv:aP El zd (aJ C8):=by wtm_at "sc"
abbrev Ds:wZ:=top 15
abbrev OV:List Str:=["one","other","rest"]
abbrev Ak:List Str:=["one","other"]
theorem yR:aP OV Ak (aJ Ds):=by wtm_at "sc"
abbrev CA:wZ:=top 16
abbrev BQ:List Str:=["thing"]
abbrev yI:=BQ
theorem zrx:aP BQ yI (aJ CA):=by wtm_at "sc"
abbrev Bu:wZ:=top 17
abbrev UL:List Str:=["one","other","shared","top","divisor"]
abbrev AG:List Str:=["one","other"]
theorem yC:aP UL AG (aJ Bu):=by wtm_at "sc"
abbrev BH:wZ:=top 18
abbrev EG:List Str:=["one","other"]
abbrev tY:=EG
theorem zyM:aP EG tY (aJ BH):=by wtm_at "sc"
abbrev FC:wZ:=top 19
abbrev R0:List Str:=["one","other","first","second"]
abbrev tI:List Str:=["one","other"]
theorem DA:aP R0 tI (aJ FC):=by wtm_at "sc"
abbrev F_:wZ:=top 20
abbrev MH:List Str:=["one","other","turned"]
abbrev v_:List Str:=["one","other"]
theorem SW:aP MH v_ (aJ F_):=by wtm_at "sc"
abbrev FE:wZ:=top 21
abbrev Gs:List Str:=["one","other"]
abbrev zg:=Gs
theorem zBj:aP Gs zg (aJ FE):=by wtm_at "sc"
abbrev Bt:wZ:=top 26
abbrev DN:List Str:=["a"]
abbrev zP:=DN
theorem zqU:aP DN zP (aJ Bt):=by wtm_at "sc"
abbrev CZ:wZ:=top 27
abbrev CB:List Str:=["b"]
abbrev Ar:=CB
theorem ztG:aP CB Ar (aJ CZ):=by wtm_at "sc"
abbrev Gk:wZ:=top 28
abbrev Bj:List Str:=["a","b"]
abbrev yA:=Bj
theorem zrc:aP Bj yA (aJ Gk):=by wtm_at "sc"
abbrev Bn:wZ:=top 29
abbrev E_:List Str:=["thing"]
abbrev yb:=E_
theorem ztJ:aP E_ yb (aJ Bn):=by wtm_at "sc"
abbrev Cn:wZ:=top 30
abbrev Bs:List Str:=["rule"]
abbrev ym:=Bs
theorem zAh:aP Bs ym (aJ Cn):=by wtm_at "sc"
abbrev Ge:wZ:=top 31
abbrev OZ:List Str:=["rule","many","factor","shift","done"]
abbrev Au:List Str:=["rule","many"]
theorem nI:aP OZ Au (aJ Ge):=by wtm_at "sc"
abbrev BZ:wZ:=top 32
abbrev Cd:List Str:=["push","x"]
abbrev z_:=Cd
theorem zqr:aP Cd z_ (aJ BZ):=by wtm_at "sc"
abbrev Fw:wZ:=top 36
abbrev Fd:List Str:=["thing"]
abbrev u0:=Fd
theorem zr9:aP Fd u0 (aJ Fw):=by wtm_at "sc"
abbrev Cc:wZ:=top 37
abbrev DI:List Str:=["thing"]
abbrev zK:=DI
theorem zoW:aP DI zK (aJ Cc):=by wtm_at "sc"
abbrev De:wZ:=top 38
abbrev Gq:List Str:=["rule","phases"]
abbrev tR:=Gq
theorem ztc:aP Gq tR (aJ De):=by wtm_at "sc"
abbrev D_:wZ:=top 39
abbrev SR:List Str:=["phases","told","phase"]
abbrev AH:List Str:=["phases"]
theorem An:aP SR AH (aJ D_):=by wtm_at "sc"
abbrev Fh:wZ:=top 40
abbrev BS:List Str:=["phases","phase"]
abbrev yP:=BS
theorem zrQ:aP BS yP (aJ Fh):=by wtm_at "sc"
abbrev Ee:wZ:=top 41
abbrev LH:List Str:=["swarm","told","left","phase"]
abbrev yp:List Str:=["swarm"]
theorem rW:aP LH yp (aJ Ee):=by wtm_at "sc"
abbrev Ej:wZ:=top 42
abbrev Fs:List Str:=["worms","phases"]
abbrev tQ:=Fs
theorem zpc:aP Fs tQ (aJ Ej):=by wtm_at "sc"
abbrev Ey:wZ:=top 43
abbrev Nm:List Str:=["swarm","wait","phases","left","waves","wave","push","worm","anew"]
abbrev Al:List Str:=["swarm"]
theorem jj:aP Nm Al (aJ Ey):=by wtm_at "sc"
abbrev Du:wZ:=top 45
abbrev Od:List Str:=["swarm","many","rows","hour","stand","done","told"]
abbrev yY:List Str:=["swarm","many"]
theorem kN:aP Od yY (aJ Du):=by wtm_at "sc"
abbrev Gm:wZ:=top 46
abbrev R9:List Str:=["swarm","many","rows","last"]
abbrev yT:List Str:=["swarm","many"]
theorem B6:aP R9 yT (aJ Gm):=by wtm_at "sc"
abbrev Bo:wZ:=top 48
abbrev Ga:List Str:=["swarm"]
abbrev zm:=Ga
theorem ztY:aP Ga zm (aJ Bo):=by wtm_at "sc"
abbrev B3:wZ:=top 49
abbrev La:List Str:=["swarm","rows","sizes","places"]
abbrev Ay:List Str:=["swarm"]
theorem Ah:aP La Ay (aJ B3):=by wtm_at "sc"
abbrev Eg:wZ:=top 50
abbrev R7:List Str:=["rule","size","phases","turn","wait","push","told"]
abbrev zt:List Str:=["rule","size","phases","turn"]
theorem uN:aP R7 zt (aJ Eg):=by wtm_at "sc"
abbrev Cq:wZ:=top 51
abbrev KQ:List Str:=["rule","sizes","places","told","turn","size"]
abbrev y7:List Str:=["rule","sizes","places"]
theorem uX:aP KQ y7 (aJ Cq):=by wtm_at "sc"
abbrev Gb:wZ:=top 52
abbrev EM:List Str:=["rule","sizes","places"]
abbrev yj:=EM
theorem zm5:aP EM yj (aJ Gb):=by wtm_at "sc"
abbrev EF:wZ:=top 53
abbrev SY:List Str:=["rule","sizes","places","told","rows","turn"]
abbrev zQ:List Str:=["rule","sizes","places"]
theorem rP:aP SY zQ (aJ EF):=by wtm_at "sc"
abbrev Ca:wZ:=top 54
abbrev P0:List Str:=["rule","sizes","places","rows","count"]
abbrev AJ:List Str:=["rule","sizes","places"]
theorem Gg:aP P0 AJ (aJ Ca):=by wtm_at "sc"
abbrev DW:wZ:=top 55
abbrev TU:List Str:=["rule","sizes","places","steps"]
abbrev yt:List Str:=["rule","sizes","places"]
theorem Rv:aP TU yt (aJ DW):=by wtm_at "sc"
abbrev Dw:wZ:=top 56
abbrev Oy:List Str:=["rule","sizes","factor","noughts"]
abbrev u9:List Str:=["rule","sizes"]
theorem Bx:aP Oy u9 (aJ Dw):=by wtm_at "sc"
abbrev B7:wZ:=top 59
abbrev Sb:List Str:=["rule","sizes","both","gap"]
abbrev yo:List Str:=["rule","sizes"]
theorem CO:aP Sb yo (aJ B7):=by wtm_at "sc"
abbrev BI:wZ:=top 60
abbrev CC:List Str:=["both","places","of_place","of_shift"]
abbrev yQ:=CC
theorem zuk:aP CC yQ (aJ BI):=by wtm_at "sc"
abbrev Fz:wZ:=top 61
abbrev U6:List Str:=["both","places","many","push"]
abbrev zS:List Str:=["both","places","many"]
theorem Sg:aP U6 zS (aJ Fz):=by wtm_at "sc"
abbrev FX:wZ:=top 62
abbrev Dz:List Str:=["rule","sizes","places","many"]
abbrev Ap:=Dz
theorem zlM:aP Dz Ap (aJ FX):=by wtm_at "sc"
abbrev DP:wZ:=top 63
abbrev Rt:List Str:=["both","places","many","of_place","of_shift","done"]
abbrev Aq:List Str:=["both","places","many"]
theorem nW:aP Rt Aq (aJ DP):=by wtm_at "sc"
abbrev BN:wZ:=top 64
abbrev Sv:List Str:=["rule","sizes","places","many","count","mean"]
abbrev tM:List Str:=["rule","sizes","places","many"]
theorem Ez:aP Sv tM (aJ BN):=by wtm_at "sc"
abbrev EK:wZ:=top 65
abbrev ET:List Str:=["rule","sizes"]
abbrev Av:=ET
theorem zm6:aP ET Av (aJ EK):=by wtm_at "sc"
abbrev Dk:wZ:=top 66
abbrev SQ:List Str:=["rule","sizes","places","way"]
abbrev Aw:List Str:=["rule","sizes","places"]
theorem LV:aP SQ Aw (aJ Dk):=by wtm_at "sc"
abbrev Fo:wZ:=top 67
abbrev Tz:List Str:=["rule","sizes","places","both","ahead","count"]
abbrev yV:List Str:=["rule","sizes","places"]
theorem sk:aP Tz yV (aJ Fo):=by wtm_at "sc"
abbrev Bp:wZ:=top 69
abbrev So:List Str:=["swarm","rounds","both","later","now","phases"]
abbrev yd:List Str:=["swarm","rounds"]
theorem pR:aP So yd (aJ Bp):=by wtm_at "sc"
abbrev BX:wZ:=top 70
abbrev RZ:List Str:=["swarm","rounds","glows","first","then"]
abbrev AE:List Str:=["swarm","rounds","glows"]
theorem Cu:aP RZ AE (aJ BX):=by wtm_at "sc"
abbrev FA:wZ:=top 71
abbrev MO:List Str:=["swarm","both"]
abbrev zE:List Str:=["swarm"]
theorem UO:aP MO zE (aJ FA):=by wtm_at "sc"
abbrev Bl:wZ:=top 72
abbrev KP:List Str:=["swarm","count","told"]
abbrev zH:List Str:=["swarm"]
theorem pz:aP KP zH (aJ Bl):=by wtm_at "sc"
abbrev Ex:wZ:=top 73
abbrev NA:List Str:=["hour","swarm","both","rounds","glows"]
abbrev yh:List Str:=["hour","swarm"]
theorem zl:aP NA yh (aJ Ex):=by wtm_at "sc"
abbrev CF:wZ:=top 74
abbrev Sa:List Str:=["swarm","rows","word","row","told","hour"]
abbrev AA:List Str:=["swarm"]
theorem lS:aP Sa AA (aJ CF):=by wtm_at "sc"
abbrev C4:wZ:=top 75
abbrev SV:List Str:=["swarm","last"]
abbrev yy:List Str:=["swarm"]
theorem O0:aP SV yy (aJ C4):=by wtm_at "sc"
abbrev CV:wZ:=top 77
abbrev Eh:List Str:=["_law_script","_law_k"]
abbrev uT:=Eh
theorem zr4:aP Eh uT (aJ CV):=by wtm_at "sc"
abbrev Cv:wZ:=top 78
abbrev UW:List Str:=["_law_script","_law_k","_law_cell_here"]
abbrev tP:List Str:=["_law_script","_law_k"]
theorem Um:aP UW tP (aJ Cv):=by wtm_at "sc"
abbrev Fv:wZ:=top 79
abbrev OE:List Str:=["_law_pen_here","_law_most","_law_found","_law_mixed"]
abbrev yf:List Str:=["_law_pen_here","_law_most"]
theorem uV:aP OE yf (aJ Fv):=by wtm_at "sc"
abbrev Fe:wZ:=top 80
abbrev S_:List Str:=["_law_top","_law_bottom","_law_one","_law_other"]
abbrev zM:List Str:=["_law_top","_law_bottom"]
theorem yN:aP S_ zM (aJ Fe):=by wtm_at "sc"
abbrev DF:wZ:=top 81
abbrev Er:List Str:=["_law_one","_law_other"]
abbrev yS:=Er
theorem zuf:aP Er yS (aJ DF):=by wtm_at "sc"
abbrev Dt:wZ:=top 82
abbrev Ce:List Str:=["_law_one","_law_other"]
abbrev yX:=Ce
theorem zs2:aP Ce yX (aJ Dt):=by wtm_at "sc"
abbrev ER:wZ:=top 83
abbrev EH:List Str:=["_law_one","_law_other"]
abbrev tH:=EH
theorem zox:aP EH tH (aJ ER):=by wtm_at "sc"
abbrev Gp:wZ:=top 84
abbrev BF:List Str:=["_law_one","_law_other"]
abbrev Af:=BF
theorem ztB:aP BF Af (aJ Gp):=by wtm_at "sc"
abbrev Dy:wZ:=top 85
abbrev Gn:List Str:=["_law_one","_law_other"]
abbrev zY:=Gn
theorem zqH:aP Gn zY (aJ Dy):=by wtm_at "sc"
abbrev Cr:wZ:=top 86
abbrev EW:List Str:=["_law_thing"]
abbrev uW:=EW
theorem zqt:aP EW uW (aJ Cr):=by wtm_at "sc"
abbrev DJ:wZ:=top 87
abbrev Sf:List Str:=["_law_pen_here","_law_way","_law_bottom","_law_deep","_law_more","_law_top","_law_need"]
abbrev AM:List Str:=["_law_pen_here"]
theorem kc:aP Sf AM (aJ DJ):=by wtm_at "sc"
abbrev Df:wZ:=top 88
abbrev Rr:List Str:=["_law_rule","_law_many","_law_found","_law_k"]
abbrev yn:List Str:=["_law_rule","_law_many"]
theorem zu:aP Rr yn (aJ Df):=by wtm_at "sc"
abbrev FD:wZ:=top 89
abbrev OK:List Str:=["_law_rule","_law_sizes","_law_places","_law_phases","_law_time","_law_heights","_law_at","_law_wait","_law_often","_law_risen"]
abbrev tG:List Str:=["_law_rule","_law_sizes","_law_places"]
theorem jV:aP OK tG (aJ FD):=by wtm_at "sc"
abbrev Fg:wZ:=top 90
abbrev Mj:List Str:=["_law_one","_law_many","_law_top","_law_bottom","_law_k"]
abbrev uU:List Str:=["_law_one","_law_many"]
theorem ou:aP Mj uU (aJ Fg):=by wtm_at "sc"
abbrev Fq:wZ:=top 91
abbrev L5:List Str:=["_law_rule","_law_sizes","_law_factor","_law_shifts"]
abbrev zI:List Str:=["_law_rule","_law_sizes"]
theorem BC:aP L5 zI (aJ Fq):=by wtm_at "sc"
abbrev B_:wZ:=top 92
abbrev Uv:List Str:=["_law_rule","_law_sizes","_law_places","_law_many","_law_shifts","_law_factor","_law_found","_law_place","_law_rest_here"]
abbrev tE:List Str:=["_law_rule","_law_sizes","_law_places","_law_many"]
theorem nO:aP Uv tE (aJ B_):=by wtm_at "sc"
abbrev Fc:wZ:=top 93
abbrev Oh:List Str:=["_law_rule","_law_sizes","_law_places","_law_row","_law_k"]
abbrev yH:List Str:=["_law_rule","_law_sizes","_law_places"]
theorem DZ:aP Oh yH (aJ Fc):=by wtm_at "sc"
abbrev CQ:wZ:=top 94
abbrev LA:List Str:=["_law_rule","_law_sizes","_law_places","_law_heights"]
abbrev yU:List Str:=["_law_rule","_law_sizes","_law_places"]
theorem K_:aP LA yU (aJ CQ):=by wtm_at "sc"
abbrev Di:wZ:=top 95
abbrev Om:List Str:=["_law_pen_here","_law_most","_law_many","_law_bottom","_law_few","_law_apart"]
abbrev zL:List Str:=["_law_pen_here","_law_most"]
theorem rR:aP Om zL (aJ Di):=by wtm_at "sc"
abbrev Gi:wZ:=top 97
abbrev Pn:List Str:=["_law_some","_law_found","_law_one"]
abbrev yM:List Str:=["_law_some"]
theorem tT:aP Pn yM (aJ Gi):=by wtm_at "sc"
abbrev Cs:wZ:=top 96
abbrev Ly:List Str:=["_law_phases","_law_places","_law_found","_law_left","_law_place","_law_high_here","_law_k"]
abbrev yg:List Str:=["_law_phases","_law_places"]
theorem mG:aP Ly yg (aJ Cs):=by wtm_at "sc"
abbrev DU:wZ:=top 98
abbrev LJ:List Str:=["_law_rule","_law_phases","_law_high_here","_law_wait","_law_now","_law_wave","_law_waves","_law_gone","_law_often","_law_k"]
abbrev y9:List Str:=["_law_rule","_law_phases"]
theorem iR:aP LJ y9 (aJ DU):=by wtm_at "sc"
abbrev C0:wZ:=top 99
abbrev Sz:List Str:=["_law_phases","_law_left","_law_sizes","_law_found","_law_high_here"]
abbrev uO:List Str:=["_law_phases"]
theorem mU:aP Sz uO (aJ C0):=by wtm_at "sc"
abbrev FQ:wZ:=top 100
abbrev OM:List Str:=["_law_rule","_law_phases","_law_sizes","_law_places"]
abbrev zZ:List Str:=["_law_rule","_law_phases"]
theorem BG:aP OM zZ (aJ FQ):=by wtm_at "sc"
abbrev DE:wZ:=top 101
abbrev NL:List Str:=["_law_rule","_law_phases","_law_many"]
abbrev yF:List Str:=["_law_rule","_law_phases"]
theorem DO:aP NL yF (aJ DE):=by wtm_at "sc"
abbrev En:wZ:=top 102
abbrev Tp:List Str:=["_law_rule","_law_phases","_law_sizes","_law_places","_law_many"]
abbrev zT:List Str:=["_law_rule","_law_phases"]
theorem my:aP Tp zT (aJ En):=by wtm_at "sc"
abbrev BA:wZ:=top 103
abbrev Lm:List Str:=["_law_asked","_law_swarm","_law_told","_law_caught","e"]
abbrev tW:List Str:=["_law_asked","_law_swarm"]
theorem mi:aP Lm tW (aJ BA):=by wtm_at "sc"
abbrev Fj:wZ:=top 104
abbrev Rj:List Str:=["_law_pen_here","_law_rule","_law_most","_law_found","_law_some","_law_one"]
abbrev x_:List Str:=["_law_pen_here","_law_rule","_law_most"]
theorem tJ:aP Rj x_ (aJ Fj):=by wtm_at "sc"
abbrev Ft:wZ:=top 105
abbrev Ph:List Str:=["_law_rule","_law_phases","_law_swarm","_law_due_here","_law_heard_here","_law_rows"]
abbrev z7:List Str:=["_law_rule","_law_phases"]
theorem p0:aP Ph z7 (aJ Ft):=by wtm_at "sc"
abbrev zh:wZ:=top 106
abbrev Us:List Str:=["_law_script","_law_rule","_law_phases","_law_swarm","_law_second","_law_other","_law_early"]
abbrev zA:List Str:=["_law_script"]
theorem mj:aP Us zA (aJ zh):=by wtm_at "sc"
set_option genInjectivity false in
structure Ad where
 JC:we
 HU:wy
 GP:we
 Gx:wy
 IT:we
 Hy:wy
 plus:we
 J0:wy
 minus:we
 JE:wy
 times:we
 Jx:wy
 over:we
 JO:wy
 less:we
 J6:wy
 Jg:we
 Hw:wy
 Jq:we
 HQ:wy
 Ji:we
 Ht:wy
 JP:we
 Iz:wy
 Kp:we
 J3:wy
 Kc:we
 IW:wy
 Jf:we
 HA:wy
 JH:we
 HX:wy
 IE:we
 G4:wy
 JG:we
 HI:wy
 JL:we
 HN:wy
 Jw:we
 HL:wy
 J_:we
 I0:wy
 Ip:we
 G5:wy
 mT:we
 JZ:wy
 JW:we
 IP:wy
 behind:we
 IV:wy
 JM:we
 IG:wy
 laid:we
 JU:wy
 He:we
 GK:wy
 sY:we
 Jd:wy
 Hs:we
 GU:wy
 IQ:we
 Hj:wy
 iL:we
 JX:wy
 J5:we
 Iy:wy
 Ja:we
 Hz:wy
 Kf:we
 JF:wy
 JN:we
 II:wy
 J8:we
 Jl:wy
 G7:we
 GJ:wy
 GX:we
 GC:wy
 Ig:we
 GW:wy
 HE:we
 GQ:wy
 Iq:we
 Hg:wy
 H_:we
 GZ:wy
 Hl:we
 GI:wy
 IJ:we
 Hh:wy
 JS:we
 IK:wy
 G8:we
 GO:wy
 Ju:we
 Ie:wy
 JA:we
 HW:wy
 Kl:we
 JY:wy
 JB:we
 HJ:wy
 J1:we
 IS:wy
 Jr:we
 Ih:wy
 JV:we
 IH:wy
 JT:we
 Il:wy
 JI:we
 HS:wy
 Ia:we
 GY:wy
 JJ:we
 Ii:wy
 Jb:we
 HC:wy
 Je:we
 Hx:wy
 G1:we
 GA:wy
 IM:we
 G6:wy
 Jp:we
 HB:wy
 IY:we
 HD:wy
 Jh:we
 Hq:wy
 IC:we
 Hf:wy
 Jt:we
 HR:wy
 J4:we
 IF:wy
 GF:we
 Gy:wy
 Js:we
 Ib:wy
 Iw:we
 G3:wy
 JD:we
 HK:wy
 Jz:we
 HM:wy
 JK:we
 HZ:wy
 Iv:we
 G9:wy
 JR:we
 Ir:wy
 IZ:we
 Hm:wy
 I_:we
 HF:wy
 HP:we
 G2:wy
 law:we
 Ke:wy
 eG:we
 c6:we
 pb:we
 oY:we
 oU:we
 oX:we
 pe:we
 oS:we
 oZ:we
 AZ:we
 dF:we
 d9:we
 AN:we
structure Dn(K:wa)(mg:Str->Option wf)(n:Str)(st:wZ)(ps:List Str)(f:we)(fd:wy):Prop where
 F:k9 K n n st f fd
 g:mg n=some (.ref f)
 b:ma K fd ps []
section
variable{X:Cx}{x:Str}{f:we}{fd:wy}{ps:List Str}{sp:Sp}{j k:Nat}{e:Expr}{es:List Expr}{t:TA}{pos pp:Pos}{st:wZ}{CX:fW}
theorem oj{E:XK}(F:aK X.prog X.w X.K X.mg X.base CX k f fd ps sp)(hr:eF j X.A)(D:Dn X.K X.mg x st ps f fd)(hx:nE CX X E)(ha:PA X (e::es) t)(hj:k<=j:=by decide)(hg:Gl X x:=by exact rfl)
  (hdb:(x == ("__debug__" : Str))=false:=by decide) (he:vf (e::es) X.env=(false,eval e X.env)::vf es X.env:=by rfl) (hpl:(backTo pos (vf es X.env)).any (·.1)=false:=by rfl) :
  PE X (.Call (.Name x pp) (e::es) [] pos) (rL sp [] E t):=KU F (hr.mono hj) hg D.g D.F.kp D.b .nil hx ha hdb he hpl
theorem ar(F:aK X.prog X.w X.K X.mg X.base aR k f fd ps sp)(hr:eF j X.A)(D:Dn X.K X.mg x st ps f fd)(ha:PA X (e::es) t)(hj:k<=j:=by decide)(hg:Gl X x:=by exact rfl)
  (hdb:(x == ("__debug__" : Str))=false:=by decide) (he:vf (e::es) X.env=(false,eval e X.env)::vf es X.env:=by rfl) (hpl:(backTo pos (vf es X.env)).any (·.1)=false:=by rfl) :
  PE X (.Call (.Name x pp) (e::es) [] pos) (rL sp [] E0 t):=KU F (hr.mono hj) hg D.g D.F.kp D.b .nil zEb ha hdb he hpl
theorem au{ta:TE}{i:Int}{kd}(ha:PE X e ta):PE X (.Subscript e (.Constant (.int i) kd pp) pos) (lA (c9 X.K) ta (tC (.int i))):=dw cU ha ay (λ_ _=>rfl)
theorem nZ{K:wa}{ta:TE}{i:Int}{kd}(hr:fB X (c9 K))(ha:PE X e ta):PE X (.Subscript e (.Constant (.int i) kd pp) pos) (lA (c9 K) ta (tC (.int i))):=dw hr ha ay (λ_ _=>rfl)
theorem az(i:Nat){te:TE}(hN:X.N.Nodup)(he:PE X e te)(hi:X.N[i]? = some x:=by exact rfl)(hx:Loc X.env.scope x:=by first | exact Or.inl rfl | exact Or.inr rfl)(hs:swapsWith e (some (.Name x pp)) pos.line X.env=pure false:=by rfl)(hf:X.fn x=true\/X.env.scope.names.lookup x=some .local:=by first | exact .inl rfl | exact .inr rfl | assumption) :
  PS X (.Assign [.Name x pp] e pos) (lG te (iZ i)):=zCf hN hi hx he hs hf
end
structure Txt(K:wa)(mg:Str->Option wf)(a:Ad):Prop where
 A1:Dn K mg "is_whole" C8 zd a.JC a.HU
 mK:Dn K mg "greatest_divisor" Ds Ak a.GP a.Gx
 sI:Dn K mg "is_number" CA yI a.IT a.Hy
 gc:Dn K mg "plus" Bu AG a.plus a.J0
 o_:Dn K mg "minus" BH tY a.minus a.JE
 j4:Dn K mg "times" FC tI a.times a.Jx
 Bc:Dn K mg "over" F_ v_ a.over a.JO
 f_:Dn K mg "less" FE zg a.less a.J6
 Ij:Dn K mg "is_factor" Bt zP a.Jg a.Hw
 IA:Dn K mg "is_shift" CZ Ar a.Jq a.HQ
 Ik:Dn K mg "make_rule" Gk yA a.Ji a.Ht
 IX:Dn K mg "is_rule" Bn yb a.JP a.Iz
 Ba:Dn K mg "bend" Cn ym a.Kp a.J3
 oW:Dn K mg "pushes" Ge Au a.Kc a.IW
 AY:Dn K mg "pushed_by" BZ z_ a.Jf a.HA
 Iu:Dn K mg "is_phase" Fw u0 a.JH a.HX
 Hu:Dn K mg "are_phases" Cc zK a.IE a.G4
 sN:Dn K mg "swarm_of" De tR a.JG a.HI
 A0:Dn K mg "greatest" D_ AH a.JL a.HN
 Im:Dn K mg "worms_at" Fh yP a.Jw a.HL
 sS:Dn K mg "flocks" Ee yp a.J_ a.I0
 AX:Dn K mg "at_the_end" Ej tQ a.Ip a.G5
 sZ:Dn K mg "glow" Ey Al a.mT a.JZ
 IU:Dn K mg "history" Du yY a.JW a.IP
 Jv:Dn K mg "behind" Gm yT a.behind a.IV
 A5:Dn K mg "is_laid" Bo zm a.JM a.IG
 sW:Dn K mg "laid" B3 Ay a.laid a.JU
 GV:Dn K mg "phases_behind" Eg zt a.He a.GK
 sT:Dn K mg "stands" Cq y7 a.sY a.Jd
 AR:Dn K mg "round_behind" Gb yj a.Hs a.GU
 HG:Dn K mg "round_time" EF zQ a.IQ a.Hj
 Bb:Dn K mg "tops" Ca AJ a.iL a.JX
 sQ:Dn K mg "is_free" DW yt a.J5 a.Iy
 mM:Dn K mg "round_map" Dw u9 a.Ja a.Hz
 A9:Dn K mg "still" B7 yo a.Kf a.JF
 A6:Dn K mg "weighed" BI yQ a.JN a.II
 A7:Dn K mg "led_on" Fz zS a.J8 a.Jl
 GS:Dn K mg "rounds_behind" FX Ap a.G7 a.GJ
 GL:Dn K mg "sums_of_places" DP Aq a.GX a.GC
 G_:Dn K mg "rounds_time" BN tM a.Ig a.GW
 AS:Dn K mg "draws_freely" EK Av a.HE a.GQ
 Ho:Dn K mg "stays_free" Dk Aw a.Iq a.Hg
 Hi:Dn K mg "free_rounds" Fo yV a.H_ a.GZ
 AQ:Dn K mg "behind_rounds" Bp yd a.Hl a.GI
 HH:Dn K mg "behind_row" BX AE a.IJ a.Hh
 Jo:Dn K mg "word_of" FA zE a.JS a.IK
 GR:Dn K mg "glows_to_join" Bl zH a.G8 a.GO
 Io:Dn K mg "next_row" Ex yh a.Ju a.Ie
 oR:Dn K mg "paper_of" CF AA a.JA a.HW
 sX:Dn K mg "fate" C4 yy a.Kl a.JY
 IL:Dn K mg "_law_cell" CV uT a.JB a.HJ
 sP:Dn K mg "_law_pen" Cv tP a.J1 a.IS
 fI:Dn K mg "_law_draw" Fv yf a.Jr a.Ih
 fZ:Dn K mg "_law_low" Fe zM a.JV a.IH
 j3:Dn K mg "_law_sum" DF yS a.JT a.Il
 oQ:Dn K mg "_law_rest" Dt yX a.JI a.HS
 mL:Dn K mg "_law_product" ER tH a.Ia a.GY
 ID:Dn K mg "_law_part" Gp Af a.JJ a.Ii
 mO:Dn K mg "_law_below" Dy zY a.Jb a.HC
 HY:Dn K mg "_law_whole" Cr uW a.Je a.Hx
 AO:Dn K mg "_law_drawn_rule" DJ AM a.G1 a.GA
 AV:Dn K mg "_law_pushes" Df yn a.IM a.G6
 lH:Dn K mg "_law_round" FD tG a.Jp a.HB
 sJ:Dn K mg "_law_power" Fg uU a.IY a.HD
 sL:Dn K mg "_law_rests" Fq zI a.Jh a.Hq
 AW:Dn K mg "_law_behind" B_ tE a.IC a.Hf
 A3:Dn K mg "_law_free" Fc yH a.Jt a.HR
 Jj:Dn K mg "_law_all" CQ yU a.J4 a.IF
 Gz:Dn K mg "_law_drawn_phases" Di zL a.GF a.Gy
 sM:Dn K mg "_law_high" Gi yM a.Js a.Ib
 Hv:Dn K mg "_law_placed" Cs yg a.Iw a.G3
 A2:Dn K mg "_law_glow" DU y9 a.JD a.HK
 mP:Dn K mg "_law_laid" C0 uO a.Jz a.HM
 sO:Dn K mg "_law_word" FQ zZ a.JK a.HZ
 Hn:Dn K mg "_law_joined" DE yF a.Iv a.G9
 Jn:Dn K mg "_law_due" En zT a.JR a.Ir
 oP:Dn K mg "_law_heard" BA tW a.IZ a.Hm
 Ic:Dn K mg "_law_start" Fj x_ a.I_ a.HF
 AU:Dn K mg "_law_told_so" Ft z7 a.HP a.G2
 Y6:Dn K mg "law" zh zA a.law a.Ke
 h0t:mg "ValueError"=none
 h1g:mg "abs"=none
 h0X:mg "all"=none
 h0U:mg "any"=none
 h0R:mg "bool"=none
 h0S:mg "dict"=none
 h0w:mg "enumerate"=none
 h0T:mg "int"=none
 h0u:mg "isinstance"=none
 h0Y:mg "len"=none
 h0Q:mg "list"=none
 h0W:mg "min"=none
 h0P:mg "range"=none
 h1f:mg "str"=none
 h0V:mg "sum"=none
 h0N:mg "tuple"=none
 h0Z:mg "zip"=none
 Jm:mg "NoStand"=some (.ref a.eG)
 Jk:mg "TooLong"=some (.ref a.c6)
 YV:mg "NoWeb"=some (.ref a.pb)
 YO:mg "NoText"=some (.ref a.oY)
 YH:mg "NoSwarm"=some (.ref a.oU)
 YL:mg "NoRule"=some (.ref a.oX)
 YS:mg "NoRow"=some (.ref a.pe)
 YC:mg "NoNumber"=some (.ref a.oS)
 YK:mg "NoBack"=some (.ref a.oZ)
 Yx:mg "GlowError"=some (.ref a.AZ)
 YI:VP K a.eG pI "ValueError.__new__"=true
 aaa:V8 K (.ref a.eG) (.ref a.AZ)=some true
 YE:gI K a.eG
 Yd:wE K (.ref a.eG) (.ref a.eG)=some true
 Yi:wE K (.ref a.eG) (.ref a.c6)=some false
 Yq:wE K (.ref a.eG) (.ref a.pb)=some false
 Yl:wE K (.ref a.eG) (.ref a.oY)=some false
 X_:wE K (.ref a.eG) (.ref a.oU)=some false
 Yk:wE K (.ref a.eG) (.ref a.oX)=some false
 Yp:wE K (.ref a.eG) (.ref a.pe)=some false
 W_:wE K (.ref a.eG) (.ref a.oS)=some false
 Yj:wE K (.ref a.eG) (.ref a.oZ)=some false
 YG:wE K (.ref a.eG) (.type "ValueError")=some true
 YF:VP K a.c6 pI "ValueError.__new__"=true
 YJ:V8 K (.ref a.c6) (.ref a.AZ)=some true
 oV:gI K a.c6
 Yb:wE K (.ref a.c6) (.ref a.eG)=some false
 GB:wE K (.ref a.c6) (.ref a.c6)=some true
 Yt:wE K (.ref a.c6) (.ref a.pb)=some false
 Yn:wE K (.ref a.c6) (.ref a.oY)=some false
 Yc:wE K (.ref a.c6) (.ref a.oU)=some false
 Yo:wE K (.ref a.c6) (.ref a.oX)=some false
 Yr:wE K (.ref a.c6) (.ref a.pe)=some false
 V_:wE K (.ref a.c6) (.ref a.oS)=some false
 Ym:wE K (.ref a.c6) (.ref a.oZ)=some false
 Jc:wE K (.ref a.c6) (.type "ValueError")=some true
 d8:mg "NOUGHT"=some (.ref a.dF)
 e_:∀H:Hp,aV K H a.dF [.int 0,.int 1]
 fh:mg "ONE"=some (.ref a.d9)
 s_:∀H:Hp,aV K H a.d9 [.int 1,.int 1]
 Yg:mg "GREATEST_FACTOR"=some (.ref a.AN)
 Yh:∀H:Hp,aV K H a.AN [.int 4,.int 1]
 Ys:∃t,mg "FACTOR_BOTTOM"=some (.int 8 t)
 Yv:∃t,mg "SHIFT_BOTTOM"=some (.int 12 t)
 Yw:∃t,mg "MOST_WORMS"=some (.int 8 t)
 Yu:∃t,mg "PHASE_BOTTOM"=some (.int 60 t)
 Yz:∃t,mg "MOST_FREE"=some (.int 30 t)
end G
open L2 GM in
local macro_rules | `(tactic| wtm_at "is")=>`(tactic| first
 | assumption
 | exact cw.mpr rfl
 | exact m_.mpr rfl
 | exact l_.mpr rfl
 | exact fg.mpr rfl
 | exact Is.Y_ (by assumption) (by wtm_at "same")
 | exact Is.Y7 (by assumption) (by wtm_at "keep")
 | exact Is.mR (by assumption) (by wtm_at "keep")
 | ((with_reducible apply is_tupAt);(focus assumption);(focus wtm_at "isall");wtm_at "same")
 | ((with_reducible apply is_lstAt);(focus assumption);(focus wtm_at "isall");wtm_at "same")
 | ((with_reducible apply is_dctAt);(focus assumption);wtm_at "same")
 | exact d_ 0 (G.Txt.e_ (by assumption) _) rfl rfl | exact d_ 1 (G.Txt.s_ (by assumption) _) rfl rfl | exact d_ 4 (G.Txt.Yh (by assumption) _) rfl rfl
 | fail "is")
open L2 GM in
local macro_rules | `(tactic| wtm_at "isall")=>`(tactic| first
 | exact aj.nil
 | exact aj.cons (by wtm_at "is") (by wtm_at "isall")
 | fail "isall")
open L2 GM in
local macro_rules | `(tactic| wtm_at "ne")=>`(tactic| first
 | assumption
 | (apply Wt;assumption))
open L2 GM in
local macro_rules | `(tactic| wtm_at "lst")=>`(tactic| first
 | assumption
 | exact ah.at (by assumption) (by wtm_at "lst")
 | exact Exc.at (by assumption) (by wtm_at "ne") (by wtm_at "lst")
 | fail "lst")
open L2 GM in
local macro_rules | `(tactic| wtm_at "same")=>`(tactic| first
 | assumption
 | exact ah.refl _
 | exact ah.back (by assumption) (by wtm_at "same")
 | fail "same")
open L2 GM in
local macro_rules | `(tactic| wtm_at "keep")=>`(tactic| first
 | assumption
 | exact bK.refl _
 | exact ah.keep (by assumption)
 | exact bK.back (by assumption) (by wtm_at "keep")
 | exact bK.back (ah.keep (by assumption)) (by wtm_at "keep")
 | fail "keep")
open L2 GM in
local macro_rules | `(tactic| wtm_at "exc")=>`(tactic| first
 | assumption
 | exact Exc.refl _ _
 | exact Exc.back (by assumption) (by wtm_at "exc")
 | exact Exc.back (ah.exc (by assumption)) (by wtm_at "exc")
 | fail "exc")
open L2 GM in
local macro_rules | `(tactic| wtm_at "sqf")=>`(tactic| first
 | assumption
 | exact bK.Cf (by wtm_at "keep") (by assumption)
 | fail "sqf")
open L2 GM in
local macro_rules | `(tactic| wtm_at "bd")=>`(tactic| first
 | assumption
 | exact Bd.mk (n:=128) (by decide)
 | exact Bd.mono (m:=128) ⟨by decide⟩ (by decide)
 | exact ag.t (by assumption)
 | exact ag.b (by assumption)
 | exact Bd.kC (by lia) (by lia)
 | (apply Bd.neg;wtm_at "bd")
 | (apply Bd.mul;(focus wtm_at "bd");wtm_at "bd")
 | (apply Bd.add;(focus wtm_at "bd");wtm_at "bd")
 | (apply Bd.sub;(focus wtm_at "bd");wtm_at "bd"))
open L2 GM PySem in
local macro_rules | `(tactic| wtm_at "mulok")=>`(tactic| first
 | exact Xs (by decide)
 | exact XX (by decide)
 | exact Xs (intBits_le_64 (by lia) (by lia))
 | exact XX (intBits_le_64 (by lia) (by lia))
 | (apply L2.Y5;(focus wtm_at "bd");(focus wtm_at "bd");(focus decide);decide))
open L2 GM PySem in
local macro_rules | `(tactic| wtm_at "side")=>`(tactic| first
 | assumption
 | decide
 | lia
 | wtm_at "mulok"
 | (refine And.intro ?_ ?_<;>wtm_at "side")
 | wtm_at "bd")
open L2 GM in
local macro_rules | `(tactic| wtm_at "gs")=>`(tactic| first
 | wtm_at "sq"
 | with_reducible (first | refine zCI ?_ | refine zCT ?_ | refine zDn ?_ | refine zD1 ?_)
 | ((with_reducible apply zCR);(focus rfl))
 | with_reducible (first | refine zEu ?_ | refine zzX ?_ | refine zCJ ?_ | refine zzJ ?_ | refine Zm ?_ | refine zAg ?_ | refine zEn ?_ | refine zDq ?_ | refine zCW ?_ | refine zC4 ?_ | refine zBg ?_)
 | ((with_reducible apply pB);(focus wtm_at "side"))
 | with_reducible (first | refine zEe ?_ | refine ZQ ?_ | refine zDm ?_ | refine zCg ?_ | refine zCe ?_ | refine ZO ?_ | refine mZ ?_ | refine nN ?_)
 | with_reducible refine zBa (λ_=>?_) (λ_=>?_)
 | with_reducible refine zzn (λ_=>?_) (λ_=>?_)
 | with_reducible refine zya (λ_=>?_) (λ_=>?_)
 | with_reducible refine zAq (λ_=>?_) (λ_=>?_)
 | with_reducible (first | refine zCF ?_ | refine Z9 ?_ | refine zCb ?_ | refine zAi ?_ | refine zzS ?_ | refine zCs ?_ | refine zAP ?_ | refine zBk ?_ | refine zAm ?_ | refine zAl ?_ | refine zCc ?_ | refine zAB ?_ | refine zza ?_ | refine zyG ?_ | refine zBc ?_ | refine zAI ?_)
 | ((with_reducible apply zA8);(focus wtm_at "is"))
 | ((with_reducible apply ZT);(focus wtm_at "is"))
 | ((with_reducible apply jc);(focus(apply aG.of;wtm_at "lst"));(focus rfl))
 | ((with_reducible apply oK);(focus assumption);(focus rfl);intro hN eN lN;dsimp only[Int.reduceToNat,Xb,Xc]at lN)
 | ((with_reducible apply To);(focus wtm_at "is"))
 | ((with_reducible apply zzB);(focus wtm_at "is"))
 | ((with_reducible apply zy2);(focus wtm_at "is"))
 | dsimp only[Xb,Xc])
set_option hygiene false in
open L2 GM in
local macro_rules | `(tactic| wtm_at "sq")=>`(tactic| with_reducible refine zzQ (λ tl_ htl_=>?_))
set_option hygiene false in
open L2 GM in
local macro_rules | `(tactic| wtm_at "tl")=>`(tactic| ((with_reducible refine yi.go (by assumption) ?_); (try clear htl_ tl_)))
open L2 GM in
local macro_rules | `(tactic| wtm_at "bdr0")=>`(tactic| first
 | assumption
 | exact ag.zero
 | exact ag.one
 | exact ag.four
 | (apply ag.add;(focus wtm_at "bdr0");wtm_at "bdr0")
 | (apply ag.sub;(focus wtm_at "bdr0");wtm_at "bdr0")
 | (apply ag.mul;(focus wtm_at "bdr0");wtm_at "bdr0"))
open L2 GM in
local macro_rules | `(tactic| wtm_at "bdr")=>`(tactic| first
 | assumption
 | (apply ag.mono;(focus wtm_at "bdr0");(first | decide | lia)))
open L2 GM in
local macro_rules | `(tactic| wtm_at "ga1")=>`(tactic| first
 | wtm_at "gs"
 | ((with_reducible apply cR);(focus(simp only[Wa,Q5];decide));(focus wtm_at "isall");intro _ _ _ _)
 | ((with_reducible apply de);(focus(simp only[Wa,Q5];decide));intro _ _ _ _ _)
 | ((with_reducible apply jH);(focus wtm_at "lst");(focus wtm_at "lst");(focus(simp only[wQ,Wa,Q5];decide));intro _ _ _ _ _))
local macro_rules | `(tactic| wtm_at "ga")=>`(tactic| repeat' (first | wtm_at "ga1" | wtm_at "tl"))
local macro_rules | `(tactic| wtm_at "gg")=>`(tactic| repeat' (first | wtm_at "gs" | wtm_at "tl"))
local macro_rules | `(tactic| wtm_at "gt")=>`(tactic| repeat' (wtm_at "gs"))
open L2 GM in
local macro_rules | `(tactic| wtm_at "bd128")=>`(tactic| first
 | exact Bd.mono (m:=128) ⟨by decide⟩ (by decide)
 | exact(Bd.kC (by lia) (by lia)).mono (by decide))
open L2 GM in
local macro_rules | `(tactic| wtm_at "gs")=>`(tactic| first
 | with_reducible (first | refine zEf ?_ | refine zxz ?_ | refine zDt ?_ | refine zxN ?_ | refine zy6 ?_ | refine zyW ?_ | refine zxY ?_ | refine Mt ?_ | refine zyj ?_ | refine zzj ?_ | refine zDI ?_ | refine zzL ?_ | refine zAL ?_ | refine zzz ?_ | refine zwz ?_ | refine zxg ?_ | refine zDe ?_ | refine zrj ?_ | refine zyc ?_ | refine ZJ ?_)
 | with_reducible refine zBl (λ_ _ _ _=>?_)
 | with_reducible (first | refine zAw ?_ | refine zyp ?_ | refine zDf ?_ | refine zxU ?_ | refine ZV ?_ | refine zyh ?_ | refine zwG ?_ | refine zAy ?_ | refine zyF ?_)
 | ((with_reducible apply zwr);(focus wtm_at "is"))
 | ((with_reducible apply zzZ);(focus wtm_at "is"))
 | ((with_reducible apply ZR);(focus wtm_at "is");intro _ _)
 | ((with_reducible apply zz9);(focus wtm_at "is");intro _ _)
 | ((with_reducible apply jc);(focus(apply aG.of;wtm_at "lst"));(focus rfl))
 | ((with_reducible apply Zx);(focus wtm_at "lst");(focus lia);(focus lia);intro _ _)
 | ((with_reducible apply C7);(focus wtm_at "is");(focus wtm_at "is"))
 | ((with_reducible apply zCr);(focus wtm_at "is");(focus wtm_at "is")))
set_option hygiene false in
local macro_rules | `(tactic| wtm_at "b1")=>`(tactic| (focus (intro vs H Q E h; obtain ⟨_,rfl,_⟩:=h; rfl)); (intro cdv A outer s H vs Q E hr h; obtain ⟨x0,rfl,h⟩:=h; have hu:=hr.units))
set_option hygiene false in
local macro_rules | `(tactic| wtm_at "b2")=>`(tactic| (focus (intro vs H Q E h; obtain ⟨_,_,rfl,_⟩:=h; rfl)); (intro cdv A outer s H vs Q E hr h; obtain ⟨x0,x1,rfl,h⟩:=h; have hu:=hr.units))
set_option hygiene false in
local macro_rules | `(tactic| wtm_at "b3")=>`(tactic| (focus (intro vs H Q E h; obtain ⟨_,_,_,rfl,_⟩:=h; rfl)); (intro cdv A outer s H vs Q E hr h; obtain ⟨x0,x1,x2,rfl,h⟩:=h; have hu:=hr.units))
set_option hygiene false in
local macro_rules | `(tactic| wtm_at "b4")=>`(tactic| (focus (intro vs H Q E h; obtain ⟨_,_,_,_,rfl,_⟩:=h; rfl)); (intro cdv A outer s H vs Q E hr h; obtain ⟨x0,x1,x2,x3,rfl,h⟩:=h; have hu:=hr.units))
set_option hygiene false in
local macro_rules | `(tactic| wtm_at "cl")=>`(tactic| ((clear hu); (try clear hgd); (first | dsimp only [iP,cxOfH] | dsimp only [iP] | skip)))
local macro_rules | `(tactic| k_few)=>`(tactic| wtm_at "gg")
local macro_rules | `(tactic| o_head $e)=>`(tactic| (wtm_at "gg"; refine $e))
open L2 GM G in
local macro_rules | `(tactic| wtm_at "ecls")=>`(tactic| first | exact Txt.YE (by assumption) | exact Txt.oV (by assumption))
open L2 GM G in
local macro_rules | `(tactic| wtm_at "kit")=>`(tactic| first | exact Txt.Yd (by assumption) | exact Txt.Yi (by assumption) | exact Txt.Yq (by assumption) | exact Txt.Yl (by assumption) | exact Txt.X_ (by assumption) | exact Txt.Yk (by assumption) | exact Txt.Yp (by assumption) | exact Txt.W_ (by assumption) | exact Txt.Yj (by assumption) | exact Txt.YG (by assumption) | exact Txt.Yb (by assumption) | exact Txt.GB (by assumption) | exact Txt.Yt (by assumption) | exact Txt.Yn (by assumption) | exact Txt.Yc (by assumption) | exact Txt.Yo (by assumption) | exact Txt.Yr (by assumption) | exact Txt.V_ (by assumption) | exact Txt.Ym (by assumption) | exact Txt.Jc (by assumption))
namespace G
open PySem PySem.Spec PyProof.Rows L2 GM
section
variable{P:wI}{w:wO}{K:wa}{mg:Str->Option wf}{base:wM}{a:Ad}
variable{H:Hp}{Q:VK}{E:XK}{u v:V}{d e:wC}{b ra rb x y:Rat}{ds:List wC}{i j k m n r:Nat}{ps ss xs:List Rat}{α:Type}{left:List Nat}{p p1 q:we}{ns:List Int}{us:List V}{B t:Int}
def isInt:wC->Bool
 | .int _=>true
 | _=>false
def Kv(K:wa):Sp:=λvs H Q _=>∃x0,vs=[x0] /\ ∃d,Is K H x0 d/\Q (.bl (isInt d)) H
theorem ztF(h:Is K H v d)(q:Q (.bl (isInt d)) H):Kv K [v] H Q E:=⟨v,rfl,d,h,q⟩
local macro_rules | `(tactic| wtm_at "gs")=>`(tactic| ((with_reducible apply ztF); (focus wtm_at "is")))
theorem MN(T:Txt K mg a):aK P w K mg base aR 1 a.JC a.HU zd (Kv K):=by
 refine T.A1.F.ok ztv ?_ ?_;wtm_at "b1";refine⟨_,(av (aB (gB (bA (show aE _ (.builtin "isinstance") (fX K)from lE) rfl T.h0u gQ (ae (pv 0) (ae (jk (v:=.ty "int") rfl T.h0T M_ rfl) af))) (jB (mD (bA (show aE _ (.builtin "isinstance") (fX K)from lE) rfl T.h0u gQ (ae (pv 0) (ae (jk (v:=.ty "bool") rfl T.h0R Sk rfl) af)))))))),?_⟩;wtm_at "cl";rw[show start El [x0]=[some x0]from rfl];obtain⟨d,hd,q⟩:=h;k_few
 all_goals(cases d<;>simp_all [isInt,ze,z5])
def LX(K:wa):Sp:=λvs H Q _=>∃x0 x1,vs=[x0,x1] /\ ∃a b:Int,x0=.int a/\x1=.int b/\0<=a/\0<=b/\Q (.int (vE a b:Nat)) H
theorem r8{a b:Int}(ha:0<=a)(hb:0<=b)(q:Q (.int (vE a b:Nat)) H):LX K [.int a,.int b] H Q E:=⟨_,_,rfl,a,b,rfl,rfl,ha,hb,q⟩
theorem pW(T:Txt K mg a):aK P w K mg base aR 1 a.GP a.Gx Ak (LX K):=by
 refine T.mK.F.ok yR ?_ ?_;wtm_at "b2"
 refine⟨_,(ao (iW vg (bD (show aH _ (wH .NotEq) (eC K)from iE hu) (pv 1) ay (aU _)) (ao (az 2 yR.nd (aD gL (pv 0) (pv 1)))
     (ao (az 0 yR.nd (pv 1))
     (av (az 1 yR.nd (pv 2))))))
     (av (aB (pv 0)))),?_⟩
 wtm_at "cl";rw[show start OV [x0,x1]=[some x0,some x1,none]from rfl];obtain⟨a',b',rfl,rfl,ha,hb,q⟩:=h;refine zDj ?_;refine Nb (λσ H'=>∃(x y:Int)(r:Option V),σ = [some (.int x),some (.int y),r]/\0<=x/\0<=y/\vE x y=vE a' b'/\H'=H) (λσ=>(TF σ 1).toNat) ⟨a',b',none,rfl,ha,hb,rfl,rfl⟩ ?_;rintro σ H' ⟨x,y,r,rfl,hx,hy,hg,rfl⟩;k_few
 . refine NT ?_
   k_few;have h1:=qZ x (show y≠0 by assumption);have h2:=qB x (show 0<y by lia);refine⟨?_,_,_,_,rfl,hy,h1,?_,rfl⟩
   . show(x % y).toNat<y.toNat
     lia
   . rw[<- hg];exact T_ (by lia) hx
 . rename_i h0
   subst h0
   have e:((vE a' b':Nat):Int)=x:=by
     rw[<- hg,Xd];lia
   rw[e]at q;exact q
def bX:wC->Bool
 | .tuple [.int p,.int q]=>gZ p q
 | _=>false
theorem BY(r:Rat):bX (N r)=true:=RN r
theorem zus(h:jd d=false):bX d=false:=by
 cases d<;>first | rfl | (simp[jd]at h)
theorem zu4(h:¬ ds.length=2):bX (.tuple ds)=false:=by
 match ds with
 | []=>rfl
 | [_]=>simp[bX]
 | [_,_]=>exact absurd rfl h
 | _::_::_::_=>simp[bX]
theorem zqu(h:isInt d=false):bX (.tuple [d,e])=false:=by
 cases d<;>first | rfl | (simp[isInt]at h)
theorem zo7(h:isInt e=false):bX (.tuple [d,e])=false:=by
 cases d<;>cases e<;>first | rfl | (simp[isInt]at h)
theorem Lc : isInt d=true ↔ ∃i,d=.int i:=by cases d<;>simp[isInt]
def MG(K:wa):Sp:=λvs H Q _=>∃x0,vs=[x0] /\ ∃d,Is K H x0 d/\Q (.bl (bX d)) H
theorem zrD(h:Is K H v d)(q:Q (.bl (bX d)) H):MG K [v] H Q E:=⟨v,rfl,d,h,q⟩
local macro_rules | `(tactic| wtm_at "gs")=>`(tactic| ((with_reducible apply zrD); (focus wtm_at "is")))
theorem BU(T:Txt K mg a):aK P w K mg base aR 2 a.IT a.Hy yI (MG K):=by
 refine T.sI.F.ok zrx ?_ ?_;wtm_at "b1"
 refine⟨_,(ao (bL (PW.pt (fz (dy (cA (bA (show aE _ (.builtin "isinstance") (fX K)from lE) rfl T.h0u gQ (ae (pv 0) (ae (jk (v:=.ty "tuple") rfl T.h0N dY rfl) af))))) (ig (bD (show aH _ (wH .NotEq) (eC K)from iE hu) (bA (show aE _ (.builtin "len") (cj K)from cX) rfl T.h0Y cY (ae (pv 0) af)) ay (aU _))))) (av (aB hZ)) bN)
     (ao (bL (PW.pt (fz (dy (cA (ar (MN T) hr T.A1 (ae (au (pv 0)) af)))) (ig (dy (cA (ar (MN T) hr T.A1 (ae (au (pv 0)) af))))))) (av (aB hZ)) bN)
     (av (aB (gB (eK ye (au (pv 0)) ay (aU _)) (jB (eK (show aH _ (wH .Eq) (cn K)from cV hu) (ar (pW T) hr T.mK (ae (bA md rfl T.h1g mB (ae (au (pv 0)) af)) (ae (au (pv 0)) af))) ay (aU _)))))))),?_⟩
 wtm_at "cl";rw[show start BQ [x0]=[some x0]from rfl];obtain⟨d,hd,q⟩:=h;k_few
 . rename_i e
   rw[zus e]at q;exact q
 . rename_i e
   obtain⟨ds,rfl⟩:=Sw.mp e;refine mm hd ?_;k_few
   . rename_i e
     rw[zu4 (by lia)]at q;exact q
   . rename_i e
     obtain⟨d0,d1,rfl⟩:∃d0 d1,ds=[d0,d1]:=by
       match ds,e with
       | [d0,d1],_=>exact⟨d0,d1,rfl⟩
       | [],e=>simp at e
       | [_],e=>simp at e
       | _::_::_::_,e=>simp at e;lia
     refine aF (j:=0) hd rfl (λy0 h0=>?_);k_few
     . rename_i e
       rw[zqu e]at q;exact q
     . rename_i e0
       obtain⟨i,rfl⟩:=Lc.mp e0;refine aF (j:=1) hd rfl (λy1 h1=>?_);k_few
       . rename_i e
         rw[zo7 e]at q;exact q
       . rename_i e1
         obtain⟨j,rfl⟩:=Lc.mp e1;refine aF (j:=1) hd rfl (λy2 h2=>?_);cases cw.mp h2;k_few
         . refine aF (j:=0) hd rfl (λy3 h3=>?_)
           cases cw.mp h3;o_head aF (j:=1) hd rfl (λy4 h4=>?_);cases cw.mp h4;o_head r8 (by split<;>lia) (by lia) ?_;k_few
           have e3:bX (.tuple [.int i,.int j])=decide ((vE (if i<0 then -i else i) j:Nat)=(1:Int)):=by
             have e4:vE (if i<0 then -i else i) j=vE i j:=by
               split<;>simp
             rw[e4]
             show gZ i j=_
             rename_i e5;simp only[gZ,e5,decide_true,qh];rw[vy,decide_eq_true_eq,decide_eq_true_eq];lia
           rw[e3]at q;exact q
         . rename_i e5
           have e3:bX (.tuple [.int i,.int j])=false:=by
             show gZ i j=false
             simp only[gZ,e5,decide_false,WX]
           rw[e3]at q;exact q
def ML(K:wa):Sp:=λvs H Q _=>∃x0 x1,vs=[x0,x1] /\ ∃(x y:Rat),Is K H x0 (N x)/\Is K H x1 (N y)/\ag 8999 x/\ag 8999 y /\ ∀v H',ah H H'->Is K H' v (N (x+y))->Q v H'
theorem Le{w:V}(h1:Is K H v (N x))(h2:Is K H w (N y))(b1:ag 8999 x)(b2:ag 8999 y)(q:∀v H',ah H H'->Is K H' v (N (x+y))->Q v H'):ML K [v,w] H Q E:=⟨_,_,rfl,x,y,h1,h2,b1,b2,q⟩
local macro_rules | `(tactic| wtm_at "gs")=>`(tactic| ((with_reducible apply Le); (focus wtm_at "is"); (focus wtm_at "is"); (focus wtm_at "bdr"); (focus wtm_at "bdr"); intro _ _ _ _))
theorem gM(T:Txt K mg a):aK P w K mg base aR 2 a.plus a.J0 AG (ML K):=by
 refine T.gc.F.ok yC ?_ ?_;wtm_at "b2"
 refine⟨_,(ao (az 2 yC.nd (ar (pW T) hr T.mK (ae (au (pv 0)) (ae (au (pv 1)) af))))
     (ao (az 3 yC.nd (aD cB (aD cK (au (pv 0)) (aD fj (au (pv 1)) (pv 2))) (aD cK (au (pv 1)) (aD fj (au (pv 0)) (pv 2)))))
     (ao (az 4 yC.nd (ar (pW T) hr T.mK (ae (bA md rfl T.h1g mB (ae (pv 3) af)) (ae (pv 2) af))))
     (av (aB (aW (ae (aD fj (pv 3) (pv 4)) (ae (aD cK (aD fj (au (pv 0)) (pv 2)) (aD fj (au (pv 1)) (pv 4))) af)))))))),?_⟩
 wtm_at "cl";rw[show start UL [x0,x1]=[some x0,some x1,none,none,none]from rfl];obtain⟨x,y,hx,hy,⟨bx1,bx2⟩,⟨by1,by2⟩,q⟩:=h;have px:=den_pos x;have py:=den_pos y;have ps:=zo x y;have pd:=CG x y;have c1:oN 0 (fq x y):=⟨by lia,sG bx2 (pC x y) px⟩;have c2:oN 0 (jx x y):=⟨by lia,sG (sG bx2 (pC x y) px) (F9 x y) ps⟩;have f1:=mq by2 (Am x y) ps;have f2:=mq bx2 (pC x y) ps;have f3:=mq by2 (qd (F9 x y) (Am x y)) pd;o_head r8 (by lia) (by lia) ?_;rw[show((vE (x.den:Int) (y.den:Int):Nat):Int)=fq x y from rfl];k_few;rw[show x.num*(y.den:Int).fdiv (fq x y)+y.num*(x.den:Int).fdiv (fq x y)=kZ x y from rfl];o_head r8 (by split<;>lia) (by lia) ?_;rw[yE,show((vE (kZ x y) (fq x y):Nat):Int)=jx x y from rfl];k_few;exact dm (zAC x y) (zAv x y) q
def N9(K:wa):Sp:=λvs H Q _=>∃x0 x1,vs=[x0,x1] /\ ∃(x y:Rat),Is K H x0 (N x)/\Is K H x1 (N y)/\ag 8999 x/\ag 8999 y /\ ∀v H',ah H H'->Is K H' v (N (x-y))->Q v H'
theorem zy9{w:V}(h1:Is K H v (N x))(h2:Is K H w (N y))(b1:ag 8999 x)(b2:ag 8999 y)(q:∀v H',ah H H'->Is K H' v (N (x-y))->Q v H'):N9 K [v,w] H Q E:=⟨_,_,rfl,x,y,h1,h2,b1,b2,q⟩
local macro_rules | `(tactic| wtm_at "gs")=>`(tactic| ((with_reducible apply zy9); (focus wtm_at "is"); (focus wtm_at "is"); (focus wtm_at "bdr"); (focus wtm_at "bdr"); intro _ _ _ _))
theorem zW(T:Txt K mg a):aK P w K mg base aR 3 a.minus a.JE tY (N9 K):=by
 refine T.o_.F.ok zyM ?_ ?_;wtm_at "b2";refine⟨_,(av (aB (ar (gM T) hr T.gc (ae (pv 0) (ae (aW (ae (iD ic (au (pv 1))) (ae (au (pv 1)) af))) af))))),?_⟩;wtm_at "cl";rw[show start EG [x0,x1]=[some x0,some x1]from rfl];obtain⟨x,y,hx,hy,bx,by',q⟩:=h;o_head dm (r:=-y) (by simp) (by simp) (λv H' s hv=>?_);o_head Le (by wtm_at "is") hv bx (zAJ by') (λw H'' s2 hw=>?_);rw[zu2]at hw;k_few;exact q w H'' (s.trans s2) hw
def R4(K:wa):Sp:=λvs H Q _=>∃x0 x1,vs=[x0,x1] /\ ∃(x y:Rat),Is K H x0 (N x)/\Is K H x1 (N y)/\ag 8999 x/\ag 8999 y /\ ∀v H',ah H H'->Is K H' v (N (x*y))->Q v H'
theorem BR{w:V}(h1:Is K H v (N x))(h2:Is K H w (N y))(b1:ag 8999 x)(b2:ag 8999 y)(q:∀v H',ah H H'->Is K H' v (N (x*y))->Q v H'):R4 K [v,w] H Q E:=⟨_,_,rfl,x,y,h1,h2,b1,b2,q⟩
local macro_rules | `(tactic| wtm_at "gs")=>`(tactic| ((with_reducible apply BR); (focus wtm_at "is"); (focus wtm_at "is"); (focus wtm_at "bdr"); (focus wtm_at "bdr"); intro _ _ _ _))
theorem kO(T:Txt K mg a):aK P w K mg base aR 2 a.times a.Jx tI (R4 K):=by
 refine T.j4.F.ok DA ?_ ?_;wtm_at "b2"
 refine⟨_,(ao (az 2 DA.nd (ar (pW T) hr T.mK (ae (bA md rfl T.h1g mB (ae (au (pv 0)) af)) (ae (au (pv 1)) af))))
     (ao (az 3 DA.nd (ar (pW T) hr T.mK (ae (bA md rfl T.h1g mB (ae (au (pv 1)) af)) (ae (au (pv 0)) af))))
     (av (aB (aW (ae (aD cK (aD fj (au (pv 0)) (pv 2)) (aD fj (au (pv 1)) (pv 3))) (ae (aD cK (aD fj (au (pv 0)) (pv 3)) (aD fj (au (pv 1)) (pv 2))) af))))))),?_⟩
 wtm_at "cl";rw[show start R0 [x0,x1]=[some x0,some x1,none,none]from rfl];obtain⟨x,y,hx,hy,⟨bx1,bx2⟩,⟨by1,by2⟩,q⟩:=h;have px:=den_pos x;have py:=den_pos y;have p1:=oo x y;have p2:=oo y x;have c1:oN 0 (gF x y):=⟨by lia,sG by2 (nv x y) py⟩;have c2:oN 0 (gF y x):=⟨by lia,sG bx2 (nv y x) px⟩;have f1:=mq bx1 (uP x y) p1;have f2:=mq by1 (uP y x) p2;have f3:=mq bx2 (nv y x) p2;have f4:=mq by2 (nv x y) p1;o_head r8 (by split<;>lia) (by lia) ?_;rw[yE,show((vE x.num (y.den:Int):Nat):Int)=gF x y from rfl];o_head r8 (by split<;>lia) (by lia) ?_;rw[yE,show((vE y.num (x.den:Int):Nat):Int)=gF y x from rfl];k_few;exact dm (zAz x y) (zA7 x y) q
def Pq(K:wa):Sp:=λvs H Q _=>∃x0 x1,vs=[x0,x1] /\ ∃(x y:Rat),Is K H x0 (N x)/\Is K H x1 (N y)/\ag 8999 x/\ag 8999 y/\y≠0 /\ ∀v H',ah H H'->Is K H' v (N (x / y))->Q v H'
theorem TQ{w:V}(h1:Is K H v (N x))(h2:Is K H w (N y))(b1:ag 8999 x)(b2:ag 8999 y)(hy:y≠0)(q:∀v H',ah H H'->Is K H' v (N (x / y))->Q v H'):Pq K [v,w] H Q E:=⟨_,_,rfl,x,y,h1,h2,b1,b2,hy,q⟩
theorem Si(T:Txt K mg a):aK P w K mg base aR 3 a.over a.JO v_ (Pq K):=by
 refine T.Bc.F.ok SW ?_ ?_;wtm_at "b2"
 refine⟨_,(ao (bL (bD (show aH _ (wH .Eq) (cn K)from cV hu) (au (pv 1)) ay (aU _)) (av Ei) bN)
     (ao (az 2 SW.nd (p5 (bD nJ (au (pv 1)) ay (aU _)) (aW (ae (au (pv 1)) (ae (au (pv 1)) af))) (aW (ae (iD ic (au (pv 1))) (ae (iD ic (au (pv 1))) af)))))
     (av (aB (ar (kO T) hr T.j4 (ae (pv 0) (ae (pv 2) af))))))),?_⟩
 wtm_at "cl";rw[show start MH [x0,x1]=[some x0,some x1,none]from rfl];obtain⟨x,y,hx,hy,bx,by',hn,q⟩:=h;k_few
 . rename_i z
   exact absurd z (zG hn)
 . rename_i z0 z
   refine dm (r:=y⁻¹) (yD z).1.symm (yD z).2.symm (λv1 H1 S1 i1=>?_);o_head BR (hx.by S1) i1 bx (Uy by' hn) (λv2 H2 S2 i2=>?_);rw[<- xc]at i2;k_few;exact q v2 H2 (S1.trans S2) i2
 . rename_i z0 z
   have z:y.num<0:=by lia
   refine dm (r:=y⁻¹) (zf z).1.symm (zf z).2.symm (λv1 H1 S1 i1=>?_);o_head BR (hx.by S1) i1 bx (Uy by' hn) (λv2 H2 S2 i2=>?_);rw[<- xc]at i2;k_few;exact q v2 H2 (S1.trans S2) i2
def Nf(K:wa):Sp:=λvs H Q _=>∃x0 x1,vs=[x0,x1] /\ ∃(x y:Rat),Is K H x0 (N x)/\Is K H x1 (N y)/\ag 8999 x/\ag 8999 y/\Q (.bl (decide (x<y))) H
theorem zBn{w:V}(h1:Is K H v (N x))(h2:Is K H w (N y))(b1:ag 8999 x)(b2:ag 8999 y)(q:Q (.bl (decide (x<y))) H):Nf K [v,w] H Q E:=⟨_,_,rfl,x,y,h1,h2,b1,b2,q⟩
local macro_rules | `(tactic| wtm_at "gs")=>`(tactic| ((with_reducible apply zBn); (focus wtm_at "is"); (focus wtm_at "is"); (focus wtm_at "bdr"); (focus wtm_at "bdr")))
theorem gY(T:Txt K mg a):aK P w K mg base aR 1 a.less a.J6 zg (Nf K):=by
 refine T.f_.F.ok zBj ?_ ?_;wtm_at "b2";refine⟨_,(av (aB (eK ku (aD cK (au (pv 0)) (au (pv 1))) (aD cK (au (pv 1)) (au (pv 0))) (aU _)))),?_⟩;wtm_at "cl";rw[show start Gs [x0,x1]=[some x0,some x1]from rfl];obtain⟨x,y,hx,hy,⟨bx1,bx2⟩,⟨by1,by2⟩,q⟩:=h;k_few;rw[R1];exact q
def rZ(x:Rat):Bool:=decide (0<x)&&(!decide (4<x))&&decide ((x.den:Int)<=8)
def Ni(K:wa):Sp:=λvs H Q _=>∃x0,vs=[x0] /\ ∃x:Rat,Is K H x0 (N x)/\ag 4000 x/\Q (.bl (rZ x)) H
theorem Zv(h:Is K H v (N x))(b:ag 4000 x)(q:Q (.bl (rZ x)) H):Ni K [v] H Q E:=⟨_,rfl,x,h,b,q⟩
local macro_rules | `(tactic| wtm_at "gs")=>`(tactic| ((with_reducible apply Zv); (focus wtm_at "is"); (focus wtm_at "bdr")))
theorem zqS(T:Txt K mg a):aK P w K mg base aR 2 a.Jg a.Hw zP (Ni K):=by
 refine T.Ij.F.ok zqU ?_ ?_;wtm_at "b1";refine⟨_,(av (aB (gB (ar (gY T) hr T.f_ (ae (bW (v:=.ref a.dF) rfl T.d8 rfl) (ae (pv 0) af))) (gB (mD (ar (gY T) hr T.f_ (ae (bW (v:=.ref a.AN) rfl T.Yg rfl) (ae (pv 0) af)))) (jB (eK sh (au (pv 0)) (rk rfl T.Ys) (aU _))))))),?_⟩;wtm_at "cl";rw[show start DN [x0]=[some x0]from rfl];obtain⟨x,hx,bx,q⟩:=h;unfold rZ at q;k_few
 ·rename_i h1 h2
  rw[decide_eq_true h1,decide_eq_false h2]at q;exact q
 ·rename_i h1 h2
  rw[decide_eq_true h1,decide_eq_true h2]at q;exact q
 ·rename_i h1
  rw[decide_eq_false h1]at q;exact q
def pJ(x:Rat):Bool:=(!decide (x<0))&&(!decide (1<x))&&decide ((x.den:Int)<=12)
def TL(K:wa):Sp:=λvs H Q _=>∃x0,vs=[x0] /\ ∃x:Rat,Is K H x0 (N x)/\ag 4000 x/\Q (.bl (pJ x)) H
theorem zsE(h:Is K H v (N x))(b:ag 4000 x)(q:Q (.bl (pJ x)) H):TL K [v] H Q E:=⟨_,rfl,x,h,b,q⟩
local macro_rules | `(tactic| wtm_at "gs")=>`(tactic| ((with_reducible apply zsE); (focus wtm_at "is"); (focus wtm_at "bdr")))
theorem Z0(T:Txt K mg a):aK P w K mg base aR 2 a.Jq a.HQ Ar (TL K):=by
 refine T.IA.F.ok ztG ?_ ?_;wtm_at "b1";refine⟨_,(av (aB (gB (mD (ar (gY T) hr T.f_ (ae (pv 0) (ae (bW (v:=.ref a.dF) rfl T.d8 rfl) af)))) (gB (mD (ar (gY T) hr T.f_ (ae (bW (v:=.ref a.d9) rfl T.fh rfl) (ae (pv 0) af)))) (jB (eK sh (au (pv 0)) (rk rfl T.Yv) (aU _))))))),?_⟩;wtm_at "cl";rw[show start CB [x0]=[some x0]from rfl];obtain⟨x,hx,bx,q⟩:=h;unfold pJ at q;k_few
 ·rename_i h1 h2
  rw[decide_eq_false h1,decide_eq_false h2]at q;exact q
 ·rename_i h1 h2
  rw[decide_eq_false h1,decide_eq_true h2]at q;exact q
 ·rename_i h1
  rw[decide_eq_true h1]at q;exact q
def lM(x y:Rat):Bool:=rZ x&&pJ y && !decide (x+y<1)
def Ek(K:wa):Sp:=λvs H Q _=>∃x0 x1,vs=[x0,x1]/\((∃d e,Is K H x0 d/\Is K H x1 e/\(bX d&&bX e)=false /\ ∀H',ah H H'->Q (.bl false) H')\/(∃x y:Rat,Is K H x0 (N x)/\Is K H x1 (N y)/\ag 1000 x/\ag 1000 y /\ ∀H',ah H H'->Q (.bl (lM x y)) H'))
theorem zo5{w:V}(h1:Is K H v d)(h2:Is K H w e)(n:(bX d&&bX e)=false)(q:∀H',ah H H'->Q (.bl false) H'):Ek K [v,w] H Q E:=⟨_,_,rfl,.inl ⟨d,e,h1,h2,n,q⟩⟩
theorem zq1{w:V}(h1:Is K H v (N x))(h2:Is K H w (N y))(b1:ag 1000 x)(b2:ag 1000 y)(q:∀H',ah H H'->Q (.bl (lM x y)) H'):Ek K [v,w] H Q E:=⟨_,_,rfl,.inr ⟨x,y,h1,h2,b1,b2,q⟩⟩
theorem zqM(T:Txt K mg a):aK P w K mg base aR 3 a.Ji a.Ht yA (Ek K):=by
 refine T.Ik.F.ok zrc ?_ ?_;wtm_at "b2"
 refine⟨_,(ao (bL (PW.pt (fz (dy (cA (ar (BU T) hr T.sI (ae (pv 0) af)))) (ig (dy (cA (ar (BU T) hr T.sI (ae (pv 1) af))))))) (av (aB hZ)) bN)
     (av (aB (gB (ar (zqS T) hr T.Ij (ae (pv 0) af)) (gB (ar (Z0 T) hr T.IA (ae (pv 1) af)) (jB (mD (ar (gY T) hr T.f_ (ae (ar (gM T) hr T.gc (ae (pv 0) (ae (pv 1) af))) (ae (bW (v:=.ref a.d9) rfl T.fh rfl) af)))))))))),?_⟩
 wtm_at "cl";rw[show start Bj [x0,x1]=[some x0,some x1]from rfl];rcases h with⟨d,e,hd,he,hn,q⟩ | ⟨x,y,hx,hy,bx,by',q⟩
 . k_few
   . exact q _ (ah.refl _)
   . exact q _ (ah.refl _)
   . rename_i h1 h2
     exact absurd hn (by rw[h1,h2];decide)
 . unfold lM at q
   k_few
   . rename_i z;rw[BY]at z;cases z
   . rename_i z;rw[BY]at z;cases z
   . rename_i h1 h2 v H' S hv
     rw[h1,h2]at q;exact q _ S
   . rename_i h1 h2
     rw[h1,h2]at q;exact q _ (ah.refl _)
   . rename_i h1
     rw[h1]at q;exact q _ (ah.refl _)
def Tg:wC->Bool
 | .tuple [d,e]=>!(bX d&&bX e)
 | _=>true
theorem ztz(h:Tg (.tuple [d,e])=true):(bX d&&bX e)=false:=by
 have h:(!(bX d&&bX e))=true:=h;cases z:(bX d&&bX e)with
 | false=>rfl
 | true=>rw[z]at h;exact absurd h (by decide)
def P_(K:wa):Sp:=λvs H Q _=>∃x0,vs=[x0]/\((∃d,Is K H x0 d/\Tg d=true /\ ∀H',ah H H'->Q (.bl false) H')\/(∃x y:Rat,Is K H x0 (R x y)/\ag 1000 x/\ag 1000 y /\ ∀H',ah H H'->Q (.bl (lM x y)) H'))
theorem ztZ(h:Is K H v (R x y))(b1:ag 1000 x)(b2:ag 1000 y)(q:∀H',ah H H'->Q (.bl (lM x y)) H'):P_ K [v] H Q E:=⟨_,rfl,.inr ⟨x,y,h,b1,b2,q⟩⟩
theorem zuJ(T:Txt K mg a):aK P w K mg base aR 4 a.JP a.Iz yb (P_ K):=by
 refine T.IX.F.ok ztJ ?_ ?_;wtm_at "b1";refine⟨_,(av (aB (gB (bA (show aE _ (.builtin "isinstance") (fX K)from lE) rfl T.h0u gQ (ae (pv 0) (ae (jk (v:=.ty "tuple") rfl T.h0N dY rfl) af))) (gB (eK (show aH _ (wH .Eq) (cn K)from cV hu) (bA (show aE _ (.builtin "len") (cj K)from cX) rfl T.h0Y cY (ae (pv 0) af)) ay (aU _)) (jB (ar (zqM T) hr T.Ik (ae (au (pv 0)) (ae (au (pv 0)) af)))))))),?_⟩;wtm_at "cl";rw[show start E_ [x0]=[some x0]from rfl];rcases h with⟨d,hd,hn,q⟩ | ⟨x,y,hr,bx,by',q⟩
 ·k_few
  ·rename_i e
   obtain⟨ds,rfl⟩:=Sw.mp e;refine mm hd ?_;k_few
   ·rename_i e
    obtain⟨d0,d1,rfl⟩:∃d0 d1,ds=[d0,d1]:=by
     match ds,e with
     | [d0,d1],_=>exact⟨d0,d1,rfl⟩
     | [],e=>simp at e
     | [_],e=>simp at e
     | _::_::_::_,e=>simp at e;lia
    refine aF (j:=0) hd rfl (λy0 h0=>?_);o_head aF (j:=1) hd rfl (λy1 h1=>?_);o_head zo5 h0 h1 (ztz hn) (λH' S=>?_);k_few;exact q _ S
   ·exact q _ (ah.refl _)
  ·exact q _ (ah.refl _)
 ·k_few
  refine zq1 (by assumption) (by assumption) bx by' (λH' S=>?_);k_few;exact q _ S
def rA(x:Rat):Str:=if 1<x then "rising" else if x=1 then "even" else "falling"
def Ry(K:wa):Sp:=λvs H Q _=>∃x0,vs=[x0] /\ ∃x y:Rat,Is K H x0 (R x y)/\ag 4000 x/\Q (.str (rA x)) H
theorem PB(h:Is K H v (R x y))(b:ag 4000 x)(q:Q (.str (rA x)) H):Ry K [v] H Q E:=⟨_,rfl,x,y,h,b,q⟩
theorem M4(T:Txt K mg a):aK P w K mg base aR 2 a.Kp a.J3 ym (Ry K):=by
 refine T.Ba.F.ok zAh ?_ ?_;wtm_at "b1"
 refine⟨_,(ao (bL (cA (ar (gY T) hr T.f_ (ae (bW (v:=.ref a.d9) rfl T.fh rfl) (ae (au (pv 0)) af)))) (av (aB dX)) bN)
     (ao (bL (bD (show aH _ (wH .Eq) (cn K)from cV hu) (au (pv 0)) (bW (v:=.ref a.d9) rfl T.fh rfl) (aU _)) (av (aB dX)) bN)
     (av (aB dX)))),?_⟩
 wtm_at "cl";rw[show start Bs [x0]=[some x0]from rfl];obtain⟨x,y,hx,bx,q⟩:=h;unfold rA at q;k_few
 . rename_i h1
   rw[if_pos h1]at q;exact q
 . rename_i h1 _ _ h2
   rw[if_neg h1,if_pos h2]at q;exact q
 . rename_i h1 _ _ h2
   rw[if_neg h1,if_neg h2]at q;exact q
def Cz(K:wa):Sp:=λvs H Q _=>∃x0 x1,vs=[x0,x1] /\ ∃(a b:Rat)(n:Int),x1=.int n/\Is K H x0 (R a b)/\ag 4000 a/\ag 4000 b/\0<=n/\n<=64/\(∀i,i<=n.toNat->ag 4000 (a^i))/\(∀i,i<=n.toNat->ag 4000 (aC a b i)) /\ ∀v H',ah H H'->Is K H' v (R (a^n.toNat) (aC a b n.toNat))->Q v H'
theorem U9{a:Rat}{n:Int}(h1:Is K H v (R a b))(b1:ag 4000 a)(b2:ag 4000 b)(h0:0<=n)(h64:n<=64)(f1:∀i,i<=n.toNat->ag 4000 (a^i))(f2:∀i,i<=n.toNat->ag 4000 (aC a b i))(q:∀v H',ah H H'->Is K H' v (R (a^n.toNat) (aC a b n.toNat))->Q v H'):Cz K [v,.int n] H Q E:=⟨_,_,rfl,a,b,n,rfl,h1,b1,b2,h0,h64,f1,f2,q⟩
theorem Bm{a:Rat}{n:Int}(h1:Is K H v (R a b))(b1:ag 10 a)(b2:ag 10 b)(h0:0<=n)(h64:n<=64)(q:∀v H',ah H H'->Is K H' v (R (a^n.toNat) (aC a b n.toNat))->Q v H'):Cz K [v,.int n] H Q E :=
 U9 h1 (b1.mono (by decide)) (b2.mono (by decide)) h0 h64 (λi hi=>(b1.pow i).mono (by lia)) (λi hi=>(b1.aC b2 i).mono (by lia)) q
theorem u_(T:Txt K mg a):aK P w K mg base aR 3 a.Kc a.IW Au (Cz K):=by
 refine T.oW.F.ok nI ?_ ?_;wtm_at "b2"
 refine⟨_,(ao (az 2 nI.nd (bW (v:=.ref a.d9) rfl T.fh rfl))
     (ao (az 3 nI.nd (bW (v:=.ref a.dF) rfl T.d8 rfl))
     (ao (fc vg rfl (fK rfl T.h0P (ae (pv 1) af)) (aZ (i:=4) nI.nd rfl (Or.inl rfl)) (ao (az 2 nI.nd (ar (kO T) hr T.j4 (ae (au (pv 0)) (ae (pv 2) af))))
     (av (az 3 nI.nd (ar (gM T) hr T.gc (ae (ar (kO T) hr T.j4 (ae (au (pv 0)) (ae (pv 3) af))) (ae (au (pv 0)) af)))))))
     (av (aB (aW (ae (pv 2) (ae (pv 3) af)))))))),?_⟩
 wtm_at "cl";rw[show start OZ [x0,x1]=[some x0,some x1,none,none,none]from rfl];obtain⟨r,s',n,rfl,hr',ba,bb,h0,h64,f1,f2,q⟩:=h;o_head jY (n:=n) (by lia) (by lia) (λi σ H'=>∃(f g:V)(o:Option V),σ = [some x0,some (.int n),some f,some g,o]/\ah H H'/\Is K H' f (N (r^i))/\Is K H' g (N (aC r s' i))) ⟨_,_,_,rfl,ah.refl H,by rw[V2];exact oE.mpr ⟨_,rfl,T.s_ H⟩,oE.mpr ⟨_,rfl,T.e_ H⟩⟩ ?_ ?_
 . rintro i σ H' hi ⟨f,g,o,rfl,S1,hf,hg⟩
   have hr1:=hr'.by S1;have bf:ag 4000 (r^i):=f1 i (by lia);have bg:ag 4000 (aC r s' i):=f2 i (by lia);have bg2:ag 8999 (r*aC r s' i):=(ba.mul bg).mono (by decide);o_head ⟨_,_,_,rfl,S1.trans (ah.trans (by assumption) (ah.trans (by assumption) (by assumption))),?_,?_⟩
   . rw[WQ,qC]
     wtm_at "is"
   . wtm_at "is"
 . rintro σ H' ⟨f,g,o,rfl,S1,hf,hg⟩
   wtm_at "ga";exact q _ _ (S1.trans (by assumption)) (by assumption)
def Rc(K:wa):Sp:=λvs H Q _=>∃x0 x1,vs=[x0,x1] /\ ∃(f g x:Rat),Is K H x0 (R f g)/\Is K H x1 (N x)/\ag 700 f/\ag 1500 g/\ag 8100 x /\ ∀v H',ah H H'->Is K H' v (N (f*x+g))->Q v H'
theorem Tn{f g:Rat}{w:V}(h1:Is K H v (R f g))(h2:Is K H w (N x))(b1:ag 700 f)(b2:ag 1500 g)(b3:ag 8100 x)(q:∀v H',ah H H'->Is K H' v (N (f*x+g))->Q v H'):Rc K [v,w] H Q E:=⟨_,_,rfl,f,g,x,h1,h2,b1,b2,b3,q⟩
theorem OA(T:Txt K mg a):aK P w K mg base aR 3 a.Jf a.HA z_ (Rc K):=by
 refine T.AY.F.ok zqr ?_ ?_;wtm_at "b2";refine⟨_,(av (aB (ar (gM T) hr T.gc (ae (ar (kO T) hr T.j4 (ae (au (pv 0)) (ae (pv 1) af))) (ae (au (pv 0)) af))))),?_⟩;wtm_at "cl";rw[show start Cd [x0,x1]=[some x0,some x1]from rfl];obtain⟨f,g,x,hp,hx,bf,bg,bx,q⟩:=h;k_few;rename_i hz;exact q _ _ (ah.trans (by assumption) (by assumption)) hz
def uR(K:wa):Sp:=λvs H Q _=>∃x0,vs=[x0]/\((∃d,Is K H x0 d/\bX d=false/\Q (.bl false) H)\/(∃x:Rat,Is K H x0 (N x)/\ag 4000 x/\Q (.bl (kh x)) H))
theorem zqE(h:Is K H v d)(n:bX d=false)(q:Q (.bl false) H):uR K [v] H Q E:=⟨_,rfl,.inl ⟨d,h,n,q⟩⟩
theorem zsP(h:Is K H v (N x))(b:ag 4000 x)(q:Q (.bl (kh x)) H):uR K [v] H Q E:=⟨_,rfl,.inr ⟨x,h,b,q⟩⟩
theorem zrZ(T:Txt K mg a):aK P w K mg base aR 3 a.JH a.HX u0 (uR K):=by
 refine T.Iu.F.ok zr9 ?_ ?_;wtm_at "b1"
 refine⟨_,(ao (bL (PW.pt (fz (dy (cA (ar (BU T) hr T.sI (ae (pv 0) af)))) (ig (cA (ar (gY T) hr T.f_ (ae (pv 0) (ae (bW (v:=.ref a.dF) rfl T.d8 rfl) af))))))) (av (aB hZ)) bN)
     (av (aB (gB (ar (gY T) hr T.f_ (ae (pv 0) (ae (bW (v:=.ref a.d9) rfl T.fh rfl) af))) (jB (eK sh (au (pv 0)) (rk rfl T.Yu) (aU _))))))),?_⟩
 wtm_at "cl";rw[show start Fd [x0]=[some x0]from rfl];rcases h with⟨d,hd,hn,q⟩ | ⟨x,hx,bx,q⟩
 . k_few
   . exact q
   . rename_i e;rw[hn]at e;cases e
 . unfold kh at q
   k_few
   . rename_i z;rw[BY]at z;cases z
   . rename_i h1
     rw[decide_eq_true h1]at q;exact q
   . rename_i h1 h2
     rw[decide_eq_false h1,decide_eq_true h2]at q;exact q
   . rename_i h1 h2
     rw[decide_eq_false h1,decide_eq_false h2]at q;exact q
def fV:wC->Bool
 | .tuple [.int p,.int q]=>gZ p q&&kh (wx p q)
 | _=>false
theorem NK(x:Rat):fV (N x)=kh x:=by
 show(gZ x.num x.den&&kh (wx x.num x.den))=kh x
 rw[RN,Vn,qh]
theorem zva(h:bX d=true):∃x:Rat,d=N x:=by
 match d with
 | .tuple [.int p,.int q] =>
  obtain⟨r,e1,e2⟩:=zqV (show gZ p q=true from h);exact⟨r,by rw[e1,e2];rfl⟩
 | .none=>simp[bX]at h
 | .bool _=>simp[bX]at h
 | .int _=>simp[bX]at h
 | .str _=>simp[bX]at h
 | .list _=>simp[bX]at h
 | .dict _=>simp[bX]at h
 | .tuple []=>simp[bX]at h
 | .tuple [_]=>simp[bX]at h
 | .tuple (_::_::_::_)=>simp[bX]at h
 | .tuple [.none,_]=>simp[bX]at h
 | .tuple [.bool _,_]=>simp[bX]at h
 | .tuple [.str _,_]=>simp[bX]at h
 | .tuple [.tuple _,_]=>simp[bX]at h
 | .tuple [.list _,_]=>simp[bX]at h
 | .tuple [.dict _,_]=>simp[bX]at h
 | .tuple [.int _,.none]=>simp[bX]at h
 | .tuple [.int _,.bool _]=>simp[bX]at h
 | .tuple [.int _,.str _]=>simp[bX]at h
 | .tuple [.int _,.tuple _]=>simp[bX]at h
 | .tuple [.int _,.list _]=>simp[bX]at h
 | .tuple [.int _,.dict _]=>simp[bX]at h
theorem Z2(h:bX d=false):fV d=false:=by
 unfold fV
 split
 ·rename_i p q
  rw[show gZ p q=false from h];rfl
 ·rfl
theorem SM(h:Is K H v d)(b:∀x,d=N x->ag 4000 x)(q:Q (.bl (fV d)) H):uR K [v] H Q E:=by
 cases e:bX d with
 | false=>rw[Z2 e]at q;exact zqE h e q
 | true =>
  obtain⟨x,rfl⟩:=zva e;rw[NK]at q;exact zsP h (b x rfl) q
def Lz(K:wa):Sp:=λvs H Q _=>∃x0,vs=[x0]/\((∃d,Is K H x0 d/\(pD d || jd d)=false /\ ∀H',ah H H'->Q (.bl false) H')\/(∃ds,(Is K H x0 (.list ds)\/Is K H x0 (.tuple ds))/\(∀e∈ds,∀x,e=N x->ag 4000 x) /\ ∀H',ah H H'->Q (.bl (decide (1<=ds.length)&&decide (ds.length<=8)&&ds.all fV)) H'))
theorem zo0(h:Is K H v (.list ds)\/Is K H v (.tuple ds))(b:∀e∈ds,∀x,e=N x->ag 4000 x)(q:∀H',ah H H'->Q (.bl (decide (1<=ds.length)&&decide (ds.length<=8)&&ds.all fV)) H'):Lz K [v] H Q E:=⟨_,rfl,.inr ⟨ds,h,b,q⟩⟩
theorem zoS(T:Txt K mg a):aK P w K mg base aR 4 a.IE a.G4 zK (Lz K):=by
 refine T.Hu.F.ok zoW ?_ ?_;wtm_at "b1"
 refine⟨_,(ao (bL (PW.pt (fz (dy (cA (bA (show aE _ (.builtin "isinstance") (CH K)from ztL) rfl T.h0u gQ (ae (pv 0) (ae (aW (ae (jk (v:=.ty "list") rfl T.h0Q g_ rfl) (ae (jk (v:=.ty "tuple") rfl T.h0N dY rfl) af))) af))))) (ig (dy (zyx sh sh ay (bA (show aE _ (.builtin "len") (cj K)from cX) rfl T.h0Y cY (ae (pv 0) af)) (rk rfl T.Yw)))))) (av (aB hZ)) bN)
     (av (aB (bA (show aE _ (.builtin "all") (oz K)from zX rfl) rfl T.h0X z9 (ae (dR rfl (cv.by (N':=["one"]) (src:=[none]) rfl (by kernel_rfl)) (Cj (pv 0)) (λ_ _ _ _ _=>(aZ (i:=0) (of_decide_eq_true (by kernel_rfl)) rfl (Or.inl rfl))) (λ_ _ _ _ _=>dH) (λ_ _ _ _ _=>(ar (zrZ (K:=K) (mg:=mg) (a:=a) T) hr T.Iu (ae (pv 0) af)))) af))))),?_⟩
 wtm_at "cl";rw[show start DI [x0]=[some x0]from rfl];rcases h with⟨d,hd,hn,q⟩ | ⟨ds,hd,bd,q⟩
 . k_few
   refine lF (by simp) (λtp H1 _ S1 e1=>?_);o_head FP (hd.by S1) e1 ?_;rw[hn];k_few;exact q H1 S1
 . rcases hd with hd | hd
   . k_few
     refine lF (by simp) (λtp H1 _ S1 e1=>?_);o_head FP (hd.by S1) e1 ?_;rw[show(pD (.list ds) || jd (.list ds))=true from rfl];obtain⟨ap,us,rfl,hs,tu⟩:=cb.mp (hd.by S1);have hul:=tu.length;o_head eQ hs ?_;rw[hul];k_few
     . rename_i z0 z
       have:=q H1 S1;rw[decide_eq_false (show ¬ ds.length<=8 by lia),ur,WX]at this;exact this
     . rename_i z0 z
       have h1:1<=ds.length:=by lia
       have h8:ds.length<=8:=by lia
       refine .inl (ki (o0:=none) (tl:=[]) hs rfl (λj y H'=>y=.bl (fV (ds.getD j .none))) ?_ ?_)
       . intro D i x ys o H2 hx inv
         obtain⟨hi,ix⟩:=sE tu hx;o_head SM (ix.by inv.same) (λx e=>bd _ (getD_mem hi) x e) ?_;k_few;exact d7 inv (by lia) (λ_ _ _ _ _ z=>z) ⟨_,rfl⟩ (ah.refl _) rfl
       . intro D ys H2 hn S2 hD hl hr
         have hys:ys=(ds.map fV).map V.bl:=by
           refine Vd (by rw[hl,hul,wm,wm]) λj h1 h2=>?_
           have:=hr j ys[j] (wc h1);rw[this,Ve,Ve,wb,wc]
           rfl
         subst hys;o_head p_ (.of hD) ?_;k_few;have e:(ds.map fV).all id=ds.all fV:=by rw[x6];rfl
         have:=q H2 (S1.trans S2);rw[decide_eq_true h1,decide_eq_true h8,<- e]at this;exact this
     . rename_i z
       have:=q H1 S1;rw[decide_eq_false (show ¬ 1<=ds.length by lia),WX,WX]at this;exact this
   . k_few
     refine lF (by simp) (λtp H1 _ S1 e1=>?_);o_head FP (hd.by S1) e1 ?_;rw[show(pD (.tuple ds) || jd (.tuple ds))=true from rfl];obtain⟨ap,us,rfl,hs,tu⟩:=bZ.mp (hd.by S1);have hul:=tu.length;o_head MT hs ?_;rw[hul];k_few
     . rename_i z0 z
       have:=q H1 S1;rw[decide_eq_false (show ¬ ds.length<=8 by lia),ur,WX]at this;exact this
     . rename_i z0 z
       have h1:1<=ds.length:=by lia
       have h8:ds.length<=8:=by lia
       refine .inr (jz (o0:=none) (tl:=[]) hs rfl (λj y H'=>y=.bl (fV (ds.getD j .none))) ?_ ?_)
       . intro D i x ys o H2 hx inv
         obtain⟨hi,ix⟩:=sE tu hx;o_head SM (ix.by inv.same) (λx e=>bd _ (getD_mem hi) x e) ?_;k_few;exact d7 inv (by lia) (λ_ _ _ _ _ z=>z) ⟨_,rfl⟩ (ah.refl _) rfl
       . intro D ys H2 hn S2 hD hl hr
         have hys:ys=(ds.map fV).map V.bl:=by
           refine Vd (by rw[hl,hul,wm,wm]) λj h1 h2=>?_
           have:=hr j ys[j] (wc h1);rw[this,Ve,Ve,wb,wc]
           rfl
         subst hys;o_head p_ (.of hD) ?_;k_few;have e:(ds.map fV).all id=ds.all fV:=by rw[x6];rfl
         have:=q H2 (S1.trans S2);rw[decide_eq_true h1,decide_eq_true h8,<- e]at this;exact this
     . rename_i z
       have:=q H1 S1;rw[decide_eq_false (show ¬ 1<=ds.length by lia),WX,WX]at this;exact this
theorem zww{a:Rat}(h:aS a b):lM a b=true:=by
 obtain⟨h1,h2,h3,h4,h5,h6,h7⟩:=h;have k2:¬ (4:Rat)<a:=Vl.mpr h2;have k4:¬ b<0:=Vl.mpr h4;have k5:¬ (1:Rat)<b:=Vl.mpr h5;have k7:¬ a+b<1:=Vl.mpr h7;have k3:(a.den:Int)<=8:=by lia
 have k6:(b.den:Int)<=12:=by lia
 simp[lM,rZ,pJ,h1,k2,k3,k4,k5,k6,k7]
theorem Z3(h:∀x∈xs,eJ x):(xs.map N).all fV=true:=by
 rw[Wc];intro d hd;obtain⟨x,hx,rfl⟩:=wV.mp hd;rw[NK];exact(h x hx).is
theorem zBp(h:∀x∈xs,eJ x):∀e∈xs.map N,∀x,e=N x->ag 4000 x:=by
 intro e he x hx;obtain⟨y,hy,rfl⟩:=wV.mp he;rw[<- zDy hx];exact(h y hy).fk.mono (by decide)
def Lf(K:wa):Sp:=λvs H Q _=>∃x0 x1,vs=[x0,x1] /\ ∃(a b:Rat)(xs:List Rat),Is K H x0 (R a b)/\aS a b/\(Is K H x1 (LN xs)\/Is K H x1 (TN xs))/\1<=xs.length/\xs.length<=8/\(∀x∈xs,eJ x) /\ ∀v H',ah H H'->Is K H' v (bM a b xs)->Q v H'
theorem CP{a:Rat}{w:V}(h1:Is K H v (R a b))(ok:aS a b)(h2:Is K H w (LN xs)\/Is K H w (TN xs))(h3:1<=xs.length)(h4:xs.length<=8)(h5:∀x∈xs,eJ x)(q:∀v H',ah H H'->Is K H' v (bM a b xs)->Q v H'):Lf K [v,w] H Q E:=⟨_,_,rfl,a,b,xs,h1,ok,h2,h3,h4,h5,q⟩
theorem EN(T:Txt K mg a):aK P w K mg base aR 5 a.JG a.HI tR (Lf K):=by
 refine T.sN.F.ok ztc ?_ ?_;wtm_at "b2"
 refine⟨_,(ao (bL (dy (cA (ar (zuJ T) hr T.IX (ae (pv 0) af)))) (av Ei) bN)
     (ao (bL (dy (cA (ar (zoS T) hr T.Hu (ae (pv 1) af)))) (av Ei) bN)
     (av (aB (aW (ae (pv 0) (ae (di (show aE _ (.type "tuple") (dQ K)from eZ) rfl T.h0N dY (ae (pv 1) af)) af))))))),?_⟩
 wtm_at "cl";rw[show start Gq [x0,x1]=[some x0,some x1]from rfl];obtain⟨ra,rb,xs,hr,ok,hp,h1,h8,hph,q⟩:=h;o_head ztZ hr (ok.ba.mono (by decide)) (ok.bb.mono (by decide)) (λH1 S1=>?_);rw[zww ok];k_few;have hp1:Is K H1 x1 (LN xs)\/Is K H1 x1 (TN xs):=hp.imp (λz=>z.by S1) (λz=>z.by S1);refine zo0 (ds:=xs.map N) hp1 (zBp hph) (λH2 S2=>?_);rw[Z3 hph,wm,decide_eq_true h1,decide_eq_true h8,show(true&&true&&true)=true from rfl];have hp2:Is K H2 x1 (LN xs)\/Is K H2 x1 (TN xs):=hp1.imp (λz=>z.by S2) (λz=>z.by S2);have hr2:Is K H2 x0 (R ra rb):=(hr.by S1).by S2;k_few;rcases hp2 with z | z
 . refine gE z (λw H3 S3 i3=>?_)
   o_head cR (ds:=[R ra rb,TN xs]) (by simp) (.cons (hr2.by S3) (.cons i3 .nil)) (λv H4 S4 i4=>?_);exact q v H4 (S1.trans (S2.trans (S3.trans S4))) i4
 . refine R3 z ?_
   o_head cR (ds:=[R ra rb,TN xs]) (by simp) (.cons hr2 (.cons z .nil)) (λv H4 S4 i4=>?_);exact q v H4 (S1.trans (S2.trans S4)) i4
def ND(K:wa):Sp:=λvs H Q _=>∃x0,vs=[x0] /\ ∃xs:List Rat,(Is K H x0 (LN xs)\/Is K H x0 (TN xs))/\1<=xs.length/\(∀i,ag 4000 (xs.getD i 0)) /\ ∀v,Is K H v (N (a_ xs))->Q v H
theorem Ut(h:Is K H v (LN xs)\/Is K H v (TN xs))(h1:1<=xs.length)(b:∀i,ag 4000 (xs.getD i 0))(q:∀v,Is K H v (N (a_ xs))->Q v H):ND K [v] H Q E:=⟨_,rfl,xs,h,h1,b,q⟩
theorem R8(T:Txt K mg a):aK P w K mg base aR 2 a.JL a.HN AH (ND K):=by
 refine T.A0.F.ok An ?_ ?_;wtm_at "b1"
 refine⟨_,(ao (az 1 An.nd (au (pv 0)))
     (ao (fc vg rfl (Cj (pv 0)) (aZ (i:=2) An.nd rfl (Or.inl rfl)) (av (bL (cA (ar (gY T) hr T.f_ (ae (pv 1) (ae (pv 2) af)))) (av (az 1 An.nd (pv 2))) bN)))
     (av (aB (pv 1))))),?_⟩
 wtm_at "cl";rw[show start SR [x0]=[some x0,none,none]from rfl];obtain⟨xs,hx,h1,bx,q⟩:=h;rcases hx with hx | hx
 . obtain⟨ap,us,rfl,hs,tu⟩:=cb.mp hx
   have hul:us.length=xs.length:=by rw[tu.length,wm]
   o_head gu hx (by decide) (by lia) (λv0 i0=>?_);have i0:Is K H v0 (N (mx (xs.getD 0 0) [])):=i0;o_head .inl (rJ hs (λi σ H'=>∃o v,σ = [some (.ref ap),some v,o]/\H'=H/\Is K H v (N (mx (xs.getD 0 0) (xs.take i)))) ⟨_,v0,rfl,rfl,by rw[Qk];exact i0⟩ (λi σ H' _ h=>by obtain⟨_,_,_,rfl,_⟩:=h;exact hs) ?_ ?_)
   . rintro i x σ H' hx' ⟨o,v,rfl,rfl,iv⟩
     obtain⟨hi,ix⟩:=cq tu hx';have b1:=zr bx h1 i;have b2:=bx i;k_few
     . rename_i z
       exact⟨_,x,rfl,rfl,by rw[fO hi,k8,if_pos z];exact ix⟩
     . rename_i z
       exact⟨_,v,rfl,rfl,by rw[fO hi,k8,if_neg z];exact iv⟩
   . rintro σ H' ⟨o,v,rfl,rfl,iv⟩
     rw[hul,Wb]at iv;k_few;exact q v iv
 . obtain⟨ap,us,rfl,hs,tu⟩:=bZ.mp hx
   have hul:us.length=xs.length:=by rw[tu.length,wm]
   o_head y_ hx (by decide) (by lia) (λv0 i0=>?_);have i0:Is K H v0 (N (mx (xs.getD 0 0) [])):=i0;o_head .inr (Mz hs (λi σ H'=>∃o v,σ = [some (.ref ap),some v,o]/\H'=H/\Is K H v (N (mx (xs.getD 0 0) (xs.take i)))) ⟨_,v0,rfl,rfl,by rw[Qk];exact i0⟩ (λi σ H' _ h=>by obtain⟨_,_,_,rfl,_⟩:=h;exact hs) ?_ ?_)
   . rintro i x σ H' hx' ⟨o,v,rfl,rfl,iv⟩
     obtain⟨hi,ix⟩:=cq tu hx';have b1:=zr bx h1 i;have b2:=bx i;k_few
     . rename_i z
       exact⟨_,x,rfl,rfl,by rw[fO hi,k8,if_pos z];exact ix⟩
     . rename_i z
       exact⟨_,v,rfl,rfl,by rw[fO hi,k8,if_neg z];exact iv⟩
   . rintro σ H' ⟨o,v,rfl,rfl,iv⟩
     rw[hul,Wb]at iv;k_few;exact q v iv
def Tt(K:wa):Sp:=λvs H Q _=>∃x0 x1,vs=[x0,x1] /\ ∃(xs:List Rat)(v:Rat),Is K H x0 (TN xs)/\Is K H x1 (N v)/\xs.length<=900 /\ ∀u H',ah H H'->Is K H' u (TW (eH xs v))->Q u H'
theorem ztg{v:Rat}{w:V}(h1:Is K H w (TN xs))(h2:Is K H u (N v))(hl:xs.length<=900)(q:∀u H',ah H H'->Is K H' u (TW (eH xs v))->Q u H'):Tt K [w,u] H Q E:=⟨_,_,rfl,xs,v,h1,h2,hl,q⟩
theorem zsZ(T:Txt K mg a):aK P w K mg base aR 1 a.Jw a.HL yP (Tt K):=by
 refine T.Im.F.ok zrQ ?_ ?_;wtm_at "b2";refine⟨_,(av (aB (di (show aE _ (.type "tuple") (dQ K)from eZ) rfl T.h0N dY (ae (dR rfl (cv.by (N':=["worm","own","phase"]) (src:=[none,none,some 1]) rfl (by kernel_rfl)) (Lj rfl T.h0w (ae (pv 0) af)) (λ_ _ _ _ _=>by exact(show PG _ _ (kW K 2 _)from j_ (n:=2) rfl (fb (aZ (i:=0) (of_decide_eq_true (by kernel_rfl)) rfl (Or.inl rfl)) (fb (aZ (i:=1) (of_decide_eq_true (by kernel_rfl)) rfl (Or.inl rfl)) j7)))) (λ_ _ _ _ _=>(kK (bD (show aH _ (wH .Eq) (cn K)from cV hu) (pv 1) (pv 2) (aU _)))) (λ_ _ _ _ _=>(pv 0))) af)))),?_⟩;wtm_at "cl";rw[show start BS [x0,x1]=[some x0,some x1]from rfl];obtain⟨xs,v,hx,hv,hl,q⟩:=h;obtain⟨ap,us,rfl,hu',tu⟩:=bZ.mp hx;have hul:us.length=xs.length:=by rw[tu.length,wm]
 o_head ztA hu' (λD i ys σ' H'=>(∃o1 o2,σ'=[o1,o2,some x1])/\H D=none/\ah H H'/\H' D=some (.lst (vz ((wo i).filter λw=>decide (xs.getD w 0=v))))) (λD H' n s e=>⟨⟨_,_,rfl⟩,n,s,e⟩) (λD i ys σ' H' h=>h.2.2.1.jG hu') ?_ ?_
 ·rintro D i x ys σ' H1 c H2 hx' ⟨⟨o1,o2,rfl⟩,n,S1,e1⟩ hc S2 e2
  obtain⟨hi,ix⟩:=cq tu hx';have T2:=S1.trans S2;have ix2:=ix.by T2;have hv2:=hv.by T2;have e12:=S2 _ _ e1
  have hfl:((wo i).filter λw=>decide (xs.getD w 0=v)).length<=i:=by
   have:=vT (λw=>decide (xs.getD w 0=v)) (wo i);rw[vi]at this;exact this
  refine ly (.of e2) rfl ?_;k_few
  ·rename_i z
   refine iO e12 (by rw[gk];lia) (λH6 E6 e6=>⟨⟨_,_,rfl⟩,n,T2.grow n E6,?_⟩);rw[kr (n:=i),decide_eq_true z,if_pos rfl,rQ];exact e6
  ·rename_i z
   refine⟨[],⟨_,_,rfl⟩,n,T2,?_⟩;rw[kr (n:=i),decide_eq_false z,if_neg (by decide),vM];exact e12
 ·rintro D ys σ' H1 ⟨_,n,S1,e1⟩
  rw[hul]at e1;o_head rO (.of e1) (λl H2 n2 S2 e3=>?_);exact q _ H2 (S1.trans S2) (yW.mpr ⟨l,rfl,.of e3⟩)
def Rm(K:wa):Sp:=λvs H Q _=>∃x0,vs=[x0] /\ ∃(a b:Rat)(xs:List Rat),Is K H x0 (bM a b xs)/\xs.length<=8/\(∀i,ag 4000 (xs.getD i 0)) /\ ∀l H' us,H l=none->ah H H'->H' l=some (.lst us)->aj K H' us ((ak xs).map (kA xs))->Q (.ref l) H'
theorem BJ{a:Rat}(h:Is K H v (bM a b xs))(h8:xs.length<=8)(bx:∀i,ag 4000 (xs.getD i 0))(q:∀l H' us,H l=none->ah H H'->H' l=some (.lst us)->aj K H' us ((ak xs).map (kA xs))->Q (.ref l) H'):Rm K [v] H Q E:=⟨_,rfl,a,b,xs,h,h8,bx,q⟩
theorem Fy(b:∀i,ag m (xs.getD i 0))(h:x∈xs):ag m x:=by
 obtain⟨j,hj,rfl⟩:=vj h;have:=b j;rw[wb,wc hj]at this;exact this
theorem zwP{β:Type}(f : α -> β)(l:List α):(!(l.map f).isEmpty) = !l.isEmpty:=by cases l<;>rfl
theorem Fn(T:Txt K mg a):aK P w K mg base aR 3 a.J_ a.I0 yp (Rm K):=by
 refine T.sS.F.ok rW ?_ ?_;wtm_at "b1"
 refine⟨_,(ao (az 1 rW.nd (cJ af))
     (ao (az 2 rW.nd (di (show aE _ (.type "list") (fQ K)from jU) rfl T.h0Q g_ (ae (au (pv 0)) af)))
     (ao (iW vg (EC (pv 2)) (ao (az 3 rW.nd (ar (R8 T) hr T.A0 (ae (pv 2) af)))
     (ao (jR (jn vQ vV vW iS (pv 1) (ae (aW (ae (pv 3) (ae (ar (zsZ T) hr T.Im (ae (au (pv 0)) (ae (pv 3) af))) af))) af)))
     (av (jA (i:=2) rW.nd rfl (Or.inl rfl) rfl (cv.by (N':=["other","phase"]) (src:=[none,some 3]) rfl (by kernel_rfl)) (fA (pv 2)) (λ_ _ _ _ _=>(aZ (i:=0) (of_decide_eq_true (by kernel_rfl)) rfl (Or.inl rfl))) (λ_ _ _ _ _=>(kK (bD (show aH _ (wH .NotEq) (eC K)from iE hu) (pv 0) (pv 1) (aU _)))) (λ_ _ _ _ _=>(pv 0)))))))
     (av (aB (pv 1)))))),?_⟩
 wtm_at "cl";rw[show start LH [x0]=[some x0,none,none,none]from rfl];obtain⟨ra,rb,xs,hw,h8,bx,q⟩:=h;o_head de (by simp) (λlt H1 n1 S1 e1=>?_);o_head aF (j:=1) (hw.by S1) rfl (λvp ip=>?_);o_head rh ip (λll H2 us n2 S2 e2 t2=>?_);have nlt:ll≠lt:=λz=>by subst z;rw[e1]at n2;cases n2
 o_head jN (λm σ' H'=>∃(ll:we)(left done:List Rat)(us ws:List V)(f:Nat)(o3:Option V),σ'=[some x0,some (.ref lt),some (.ref ll),o3]/\m=left.length/\ah H H'/\ll≠lt/\H' lt=some (.lst ws)/\aj K H' ws (done.map (kA xs))/\H' ll=some (.lst us)/\aj K H' us (left.map N)/\(∀y∈left,y∈xs)/\left.length<=f/\done.length+left.length<=xs.length/\done++fJ f left=ak xs) _ ⟨ll,xs,[],us,[],xs.length,_,rfl,rfl,S1.trans S2,nlt,S2 _ _ e1,.nil,e2,t2,λy h=>h,wp _,by simp,rfl⟩ ?_;rintro m σ' H3 ⟨ll,left,done,us,ws,f,o3,rfl,rfl,S3,nl,et,tt',el,tl',sub,hf,hdl,heq⟩;o_head PU (b_ el tl') ?_;rw[zwP]
 by_cases he:left=[]
 . rw[show(!left.isEmpty)=false by rw[he];rfl]
   refine nN ?_;rw[he,rG,vM]at heq;rw[heq]at tt';k_few;exact q lt H3 ws n1 S3 et tt'
 . rw [show (!left.isEmpty) = true by cases left with
       | nil=>exact absurd rfl he
       | cons y l=>rfl]
   refine mZ ?_;refine ky ?_;have hpos:=Wy.mpr he
   have bl:∀i,ag 4000 (left.getD i 0):=λi=>by
     rcases wG i left.length with z | z
     . exact Fy bx (sub _ (getD_mem z))
     . rw[wb,wL z];exact ag.zero.mono (by decide)
   obtain⟨f',rfl⟩:∃f',f=f'+1:=⟨f-1,by lia⟩;rw[lC he]at heq;have hless:=tS he;have hwl:=tt'.length;rw[wm]at hwl;o_head Ut (.inl (b_ el tl')) hpos bl (λvm im=>?_);o_head iI (aG.of et) ?_;o_head aF (j:=1) (hw.by S3) rfl (λvq iq=>?_);o_head ztg iq im (by lia) (λv4 H4 S4 i4=>?_);o_head cR (ds:=[N (a_ left),TW (eH xs (a_ left))]) (by simp) (.cons (im.by S4) (.cons i4 .nil)) (λv5 H5 S5 i5=>?_);k_few;have T5:=S4.trans S5;refine je (T5 _ _ et) (by lia) (λH6 E6 e6=>?_);have K6:=E6.keep (T5 _ _ et);have el6:=E6 _ _ nl (T5 _ _ el);have tl6:aj K H6 us (left.map N):=aj.keep (T5.keep.trans K6) _ _ (d4 _) tl'
   have tt6:aj K H6 (ws++[v5]) ((done++[a_ left]).map (kA xs)):=by
     rw[w6];exact(aj.keep (T5.keep.trans K6) _ _ (zwu ..) tt').snoc (i5.g6 K6 (N1 ..))
   have im6:=(im.by T5).c8 K6;have S6:ah H H6:=(S3.trans T5).grow n1 E6;generalize hmx:a_ left=mxx at *;o_head nu (.of el6) (λD i ys σ' H'=>(∃o,σ'=[o,some vm])/\H6 D=none/\ah H6 H'/\H' D=some (.lst ys)/\aj K H' ys (((left.take i).filter λy=>!decide (y=mxx)).map N)) (λD H' n s e=>⟨⟨_,rfl⟩,n,s,e,.nil⟩) (λD i ys σ' H' h=>h.2.2.1.seq (.of el6)) ?_ ?_
   . rintro D i x ys σ' H7 hx ⟨⟨o,rfl⟩,n7,S7,e7,t7⟩
     obtain⟨hi,ix⟩:=cq tl6 hx;have ix7:=ix.by S7;have im7:=im6.by S7;have hyl:=t7.length;rw[wm]at hyl;have hfl:=vT (λy=>!decide (y=mxx)) (left.take i);rw[Wr]at hfl;k_few
     . rename_i z
       refine iO e7 (by lia) (λH8 E8 e8=>⟨⟨_,rfl⟩,n7,S7.grow n7 E8,e8,?_⟩);have K8:=E8.keep e7;rw[fO hi,Wm,Ws,decide_eq_false z,w6];exact(aj.keep K8 _ _ (d4 _) t7).append (.cons (ix7.c8 K8) .nil)
     . rename_i z
       refine⟨ys,⟨_,rfl⟩,n7,S7,e7,?_⟩;rw[fO hi,Wm,Ws,decide_eq_true (by first | exact z | exact We.mp z)];have:([]:List Rat).filter (λy=>!decide (y=mxx))=[]:=rfl
       simpa using t7
   . rintro D ys σ' H7 ⟨_,n7,S7,e7,t7⟩
     have hul:=tl6.length;rw[wm]at hul;rw[hul,Wb]at t7;k_few;exact⟨(left.filter λy=>!decide (y=mxx)).length,by lia,D,_,done++[mxx],ys,ws++[v5],f',_,rfl,rfl,S6.trans S7,(λz=>by subst z;rw[e6]at n7;cases n7),S7 _ _ e6,aj.same S7 _ _ tt6,e7,t7,λy hy=>sub y (wW.mp hy).1,by lia,by rw[wQ];simp only[vS];lia,by rw[W4];exact heq⟩
def Nd(K:wa):Sp:=λvs H Q _=>∃x0 x1,vs=[x0,x1] /\ ∃(lw:we)(left:List Nat)(ps:List Rat),x0=.ref lw/\H lw=some (.lst (vz left))/\Is K H x1 (LN ps)/\(∀w∈left,w<ps.length)/\left.length<=900/\(∀i,ag 4000 (ps.getD i 0)) /\ ∀v H',ah H H'->Is K H' v (TW (aA ps left))->Q v H'
theorem Ub{lw:we}(e:H lw=some (.lst (vz left)))(h:Is K H v (LN ps))(hw:∀w∈left,w<ps.length)(hl:left.length<=900)(b:∀i,ag 4000 (ps.getD i 0))(q:∀v H',ah H H'->Is K H' v (TW (aA ps left))->Q v H'):Nd K [.ref lw,v] H Q E:=⟨_,_,rfl,lw,left,ps,rfl,e,h,hw,hl,b,q⟩
theorem ZI(ps:List Rat)(l:List Nat):(aA ps l).length<=l.length:=vT _ _
theorem Uz(T:Txt K mg a):aK P w K mg base aR 2 a.Ip a.G5 tQ (Nd K):=by
 refine T.AX.F.ok zpc ?_ ?_;wtm_at "b2";refine⟨_,(av (aB (di (show aE _ (.type "tuple") (dQ K)from eZ) rfl T.h0N dY (ae (dR rfl (cv.by (N':=["worm","phases"]) (src:=[none,some 1]) rfl (by kernel_rfl)) (fA (pv 0)) (λ_ _ _ _ _=>(aZ (i:=0) (of_decide_eq_true (by kernel_rfl)) rfl (Or.inl rfl))) (λ_ _ _ _ _=>(kK (dy (cA (ar (gY (K:=K) (mg:=mg) (a:=a) T) hr T.f_ (ae (dw (show fB _ (c9 K)from cU) (pv 1) (pv 0) (λ_ _=>rfl)) (ae (bW (v:=.ref a.d9) rfl T.fh rfl) af))))))) (λ_ _ _ _ _=>(pv 0))) af)))),?_⟩;wtm_at "cl";rw[show start Fs [x0,x1]=[some x0,some x1]from rfl];obtain⟨lw,left,ps,rfl,e1,hx,hw,hl,bp,q⟩:=h;o_head nu (.of e1) (λD i ys σ' H'=>(∃o,σ'=[o,some x1])/\H D=none/\ah H H'/\H' D=some (.lst (vz (aA ps (left.take i))))) (λD H' n s e=>⟨⟨_,rfl⟩,n,s,e⟩) (λD i ys σ' H' h=>h.2.2.1.seq (.of e1)) ?_ ?_
 ·rintro D i x ys σ' H1 hx' ⟨⟨o,rfl⟩,n,S1,e2⟩
  obtain⟨hi,rfl⟩:=Bz hx';have hx1:=hx.by S1;have hlt:=hw _ (Wi hi);have bw:=bp left[i];have hle:=ZI ps (left.take i);have htl:(left.take i).length<=900:=by rw[Wr];lia
  o_head gu hx1 (by lia) (by lia) (λv iv=>?_);rw[wD]at iv;generalize hww:left[i]=ww at *;k_few
  ·rename_i z
   refine iO e2 (by rw[gk];lia) (λH6 E6 e6=>⟨⟨_,rfl⟩,n,S1.grow n E6,?_⟩);rw[pG hi,hww,zxG z,rQ];exact e6
  ·rename_i z
   refine⟨[],⟨_,rfl⟩,n,S1,?_⟩;rw[pG hi,hww,zw1 (by first | exact z | exact We.mp z)];exact e2
 ·rintro D ys σ' H1 ⟨_,n,S1,e2⟩
  rw[gk,Wb]at e2;o_head rO (.of e2) (λl H2 n2 S2 e3=>?_);exact q _ H2 (S1.trans S2) (yW.mpr ⟨l,rfl,.of e3⟩)
def Lo(K:wa):Sp:=λvs H Q _=>∃x0,vs=[x0] /\ ∃(a b:Rat)(xs:List Rat)(m:Nat),Is K H x0 (bM a b xs)/\ag 10 a/\ag 10 b/\1<=xs.length/\xs.length<=8/\Cm m xs/\m+2+21*xs.length<=3950 /\ ∀v H',ah H H'->Is K H' v (GD a b xs)->Q v H'
theorem CT{a:Rat}(h:Is K H v (bM a b xs))(ba:ag 10 a)(bb:ag 10 b)(h1:1<=xs.length)(h8:xs.length<=8)(c:Cm m xs)(hm:m+2+21*xs.length<=3950)(q:∀v H',ah H H'->Is K H' v (GD a b xs)->Q v H'):Lo K [v] H Q E:=⟨_,rfl,a,b,xs,m,h,ba,bb,h1,h8,c,hm,q⟩
structure zCy(K:wa)(a b:Rat)(xs:List Rat)(m:Nat)(H H':Hp)(vw:V)(lp lv ll:we)(left:List Nat)(ps:List Rat)(done:List (List Nat))(f:Nat)(pv wv:List V)(vwave:V):Prop where
 same:ah H H'
 hp:H lp=none
 hv:H lv=none
 iw:Is K H' vw (N (1-a_ xs))
 jX:lp≠lv
 Fp:ll≠lp
 u6:ll≠lv
 ep:H' lp=some (.lst pv)
 tp:aj K H' pv (ps.map N)
 el:H' ll=some (.lst (vz left))
 ev:H' lv=some (.lst wv)
 tv:aj K H' wv (done.map TW)
 iv:Is K H' vwave (TW (aA ps left))
 nd:left.Nodup
 lt:∀w∈left,w<xs.length
 len:ps.length=xs.length
 fl:left.length<=f
 dl:done.length+left.length<=xs.length
 cm:Cm (m+2+21*(xs.length-left.length)) ps
 w1:done++(cP a b f ps left).1=cH a b xs
 w2:(cP a b f ps left).2=(dU a b xs).2
def Nc(K:wa)(a b:Rat)(xs:List Rat)(m:Nat)(H:Hp)(x0 vw:V)(lp lv:we)(k:Nat)(σ':L2.St)(H':Hp):Prop:=∃(ll:we)(left:List Nat)(ps:List Rat)(done:List (List Nat))(f:Nat)(pv wv:List V)(vwave:V)(o6 o7:Option V),σ'=[some x0,some vw,some (.ref lp),some (.ref ll),some (.ref lv),some vwave,o6,o7,none]/\k=left.length/\zCy K a b xs m H H' vw lp lv ll left ps done f pv wv vwave
theorem rp{o:HO}(h:H p=none)(k:H q=some o):p≠q:=λe=>by rw[e,k]at h;cases h
theorem Zk{β γ:Type}(f : α -> β)(g : β -> γ)(l:List α):(!((l.map f).map g).isEmpty) = !l.isEmpty:=by cases l<;>rfl
theorem zyk{l:List α}(h:l≠[]):(!l.isEmpty)=true:=by cases l with
 | nil=>exact absurd rfl h
 | cons x l=>rfl
theorem Ep(T:Txt K mg a):aK P w K mg base aR 4 a.mT a.JZ Al (Lo K):=by
 refine T.sZ.F.ok jj ?_ ?_;wtm_at "b1"
 refine⟨_,(ao (az 1 jj.nd (ar (zW T) hr T.o_ (ae (bW (v:=.ref a.d9) rfl T.fh rfl) (ae (ar (R8 T) hr T.A0 (ae (au (pv 0)) af)) af))))
     (ao (jA (i:=2) jj.nd rfl (Or.inl rfl) rfl (cv.by (N':=["phase","wait"]) (src:=[none,some 1]) rfl (by kernel_rfl)) (kb (au (pv 0))) (λ_ _ _ _ _=>(aZ (i:=0) (of_decide_eq_true (by kernel_rfl)) rfl (Or.inl rfl))) (λ_ _ _ _ _=>dH) (λ_ _ _ _ _=>(ar (gM (K:=K) (mg:=mg) (a:=a) T) hr T.gc (ae (pv 0) (ae (pv 1) af)))))
     (ao (az 3 jj.nd (zq8 rfl rfl T.h0Q rfl T.h0P (ae (bA (show aE _ (.builtin "len") (cj K)from cX) rfl T.h0Y cY (ae (pv 2) af)) af)))
     (ao (az 4 jj.nd (cJ af))
     (ao (az 5 jj.nd (ar (Uz T) hr T.AX (ae (pv 3) (ae (pv 2) af))))
     (ao (iW vg (EC (pv 5)) (ao (jR (jn vQ vV vW iS (pv 4) (ae (pv 5) af)))
     (ao (az 3 jj.nd (dR rfl (cv.by (N':=["worm","wave"]) (src:=[none,some 5]) rfl (by kernel_rfl)) (fA (pv 3)) (λ_ _ _ _ _=>(aZ (i:=0) (of_decide_eq_true (by kernel_rfl)) rfl (Or.inl rfl))) (λ_ _ _ _ _=>(kK (bD (show aH _ (wH .NotIn) (fY K true)from sf) (pv 0) (pv 1) (by with_unfolding_all rfl)))) (λ_ _ _ _ _=>(pv 0))))
     (ao (az 6 jj.nd (ar (u_ T) hr T.oW (ae (au (pv 0)) (ae (bA (show aE _ (.builtin "len") (cj K)from cX) rfl T.h0Y cY (ae (pv 5) af)) af))))
     (ao (fc vg rfl (fA (pv 3)) (aZ (i:=7) jj.nd rfl (Or.inl rfl)) (av (kz (ar (OA T) hr T.AY (ae (pv 6) (ae (dw cU (pv 2) (pv 7) (λ_ _=>rfl)) af))) (ml (pv 2) (pv 7) me))))
     (av (az 5 jj.nd (ar (Uz T) hr T.AX (ae (pv 3) (ae (pv 2) af))))))))))
     (ao (jA (i:=8) jj.nd rfl (Or.inl rfl) rfl (cv.by (N':=["worm","phase","left"]) (src:=[none,none,some 3]) rfl (by kernel_rfl)) (zys rfl T.h0w (ae (pv 2) af)) (λ_ _ _ _ _=>by exact(show PG _ _ (kW K 2 _)from j_ (n:=2) rfl (fb (aZ (i:=0) (of_decide_eq_true (by kernel_rfl)) rfl (Or.inl rfl)) (fb (aZ (i:=1) (of_decide_eq_true (by kernel_rfl)) rfl (Or.inl rfl)) j7)))) (λ_ _ _ _ _=>dH) (λ_ _ _ _ _=>(p5 (bD (show aH _ (wH .In) (fY K false)from Ol) (pv 0) (pv 2) (by with_unfolding_all rfl)) (pv 1) (bW (v:=.ref a.dF) rfl T.d8 rfl))))
     (av (aB (aW (ae (pv 1) (ae (di (show aE _ (.type "tuple") (dQ K)from eZ) rfl T.h0N dY (ae (pv 4) af)) (ae (aW (ae (au (pv 0)) (ae (di (show aE _ (.type "tuple") (dQ K)from eZ) rfl T.h0N dY (ae (pv 8) af)) af))) af))))))))))))),?_⟩
 wtm_at "cl";rw[show start Nm [x0]=[some x0,none,none,none,none,none,none,none,none]from rfl];obtain⟨ra,rb,xs,m,hw,ba,bb,h1,h8,cm,hm,q⟩:=h;have bx:∀i,ag 4000 (xs.getD i 0):=λi=>(cm.get i).mono (by lia)
 have bm:ag 3950 (a_ xs):=(cm.fk (fR h1)).mono (by lia);o_head aF (j:=1) hw rfl (λvp ip=>?_);o_head Ut (.inr ip) h1 bx (λvm im=>?_);k_few;rename_i vw H1 S1 iw;refine aF (j:=1) (hw.by S1) rfl (λvp1 ip1=>?_);obtain⟨ap,us,rfl,hu,tu⟩:=bZ.mp ip1;refine jz (o0:=none) (tl:=[some vw]) hu rfl (λj y H'=>Is K H' y (N ((bQ xs).getD j 0))) ?_ ?_
 . intro D i x ys o H2 hx inv
   obtain⟨hi,ix⟩:=cq tu hx;have S2:=inv.same;have ix2:=ix.by S2;have iw2:=iw.by S2;have bi:=bx i;have bw:ag 3952 (1-a_ xs):=(ag.one.sub bm).mono (by decide);k_few;rename_i v3 H3 S3 i3;exact d7 inv (by lia) eA ⟨_,rfl⟩ S3 (by rw[DY hi];exact i3)
 . intro lp ys H2 hnp S2 hD hl hr
   have hl':ys.length=(bQ xs).length:=by rw[hl,tu.length,wm,eX]
   have tp:aj K H2 ys ((bQ xs).map N):=eO hl' hr;have iw2:=iw.by S2;have T2:=S1.trans S2;have hpH:H lp=none:=ft S1 hnp;clear hl hr hu tu ip1 ip im iw S1 S2 hnp;o_head tO (b_ hD tp) ?_;rw[eX];o_head zxD (n:=xs.length) (by lia) (λll H3 n3 S3 e3=>?_);o_head de (by simp) (λlv H4 n4 S4 e4=>?_);k_few;have hD4:=S4 _ _ (S3 _ _ hD);have tp4:aj K H4 ys ((bQ xs).map N):=aj.same (S3.trans S4) _ _ tp;have jm:Cm (m+2) (bQ xs):=(Cm.rise (h:=0) (cm.g9 (ys:=0::xs) λy hy=>by rcases wR.mp hy with rfl | hy;(exact .inr rfl);exact .inl hy) (fR h1)).g9 λy hy=>.inl (wB _ hy)
   have b3:∀i,ag 4000 ((bQ xs).getD i 0):=λi=>(jm.get i).mono (by lia)
   refine Ub (S4 _ _ e3) (b_ hD4 tp4) (λw hw'=>by rw[eX];exact wF.mp hw') (by rw[vi];lia) b3 (λvwave H5 S5 i5=>?_);have T5:=T2.trans (S3.trans (S4.trans S5));have hvH:H lv=none:=ft (T2.trans S3) n4;have jX:lp≠lv:=(rp n4 (S3 _ _ hD)).symm;have Fp:ll≠lp:=rp n3 hD;have u6:ll≠lv:=(rp n4 e3).symm
   have G0:Nc K ra rb xs m H x0 vw lp lv xs.length [some x0,some vw,some (.ref lp),some (.ref ll),some (.ref lv),some vwave,none,none,none] H5:=by
     refine⟨ll,wo xs.length,bQ xs,[],xs.length,ys,[],vwave,none,none,rfl,by rw[vi],T5,hpH,hvH,iw2.by (S3.trans (S4.trans S5)),jX,Fp,u6,S5 _ _ hD4,aj.same S5 _ _ tp4,S5 _ _ (S4 _ _ e3),S5 _ _ e4,.nil,i5,WK,λw hw'=>wF.mp hw',eX xs,by rw[vi];exact wp _,by rw[vi];simp,jm.mono (by lia),?_,rfl⟩;rw[qm];rfl
   clear T5 S5 S4 S3 T2 hD hD4 tp tp4 b3 jm n3 n4 e3 e4 iw2 i5 hl';o_head jN (Nc K ra rb xs m H x0 vw lp lv) _ G0 ?_;clear G0 jX Fp u6;rintro k σ' H6 ⟨ll,left,ps,done,f,pv,wv,vwave,o6,o7,rfl,hk,G⟩;have bp:∀i,ag 4000 (ps.getD i 0):=λi=>(G.cm.get i).mono (by have:=G.dl;lia)
   o_head zzR (show Is K H6 vwave (.tuple (((aA ps left).map λ(w:Nat)=>(w:Int)).map PyData.int))from G.iv) ?_;rw[Zk]
   by_cases he:aA ps left=[]
   . rw[show(!(aA ps left).isEmpty)=false by rw[he];rfl]
     refine nN ?_;have w1:=G.w1;have w2:=G.w2;rw[mH he]at w1 w2;rw[vM]at w1;have eps:ps=(dU ra rb xs).2.2:=congrArg XG w2;have elf:left=(dU ra rb xs).2.1:=congrArg XF w2;have hph:gS left ps=cZ ra rb xs:=by rw[cZ,<- eps,<- elf]
     o_head zyP (.of G.ep) (o0:=none) (o0':=none) (tl:=[some (.ref ll)]) rfl (λj y H'=>Is K H' y (N ((gS left ps).getD j 0))) eA ?_ ?_
     . intro D i x zs o1 o2 H7 c hx inv hc
       obtain⟨hi,ix⟩:=cq G.tp hx;have S7:=inv.2.2.1;refine ly (.of hc) rfl ?_;o_head Pm (aG.of (S7 _ _ G.el)) ?_;k_few
       . rename_i z
         exact pS inv (by have:=G.len;lia) eA ⟨_,_,rfl⟩ (ah.refl _) (by rw[kE hi,if_pos z];exact ix.by S7)
       . rename_i z
         exact pS inv (by have:=G.len;lia) eA ⟨_,_,rfl⟩ (ah.refl _) (by rw[kE hi,if_neg z];exact d_ 0 (T.e_ _) rfl rfl)
     . intro D zs H7 hn S7 hD hl hr
       have hpl:=G.tp.length;rw[wm]at hpl;have tz:aj K H7 zs ((gS left ps).map N):=eO (by rw[hl,Fu,hpl]) hr;rw[hph]at tz;have tv:=aj.same S7 _ _ G.tv;have ev:=S7 _ _ G.ev;have iw7:=G.iw.by S7;have T7:=G.same.trans S7;rw[w1]at tv;o_head gE (cb.mpr ⟨lv,wv,rfl,.of ev,tv⟩) (λv8 H8 S8 i8=>?_);o_head aF (j:=0) (hw.by (T7.trans S8)) rfl (λv9 i9=>?_);o_head gE (b_ (S8 _ _ hD) (aj.same S8 _ _ tz)) (λv10 H10 S10 i10=>?_);o_head cR (ds:=[R ra rb,TN (cZ ra rb xs)]) (by simp) (.cons (i9.by S10) (.cons i10 .nil)) (λv11 H11 S11 i11=>?_);o_head cR (ds:=[N (1-a_ xs),m9 (cH ra rb xs),bM ra rb (cZ ra rb xs)]) (by simp) (.cons (iw7.by (S8.trans (S10.trans S11))) (.cons (i8.by (S10.trans S11)) (.cons i11 .nil))) (λv12 H12 S12 i12=>?_);exact q v12 H12 (T7.trans (S8.trans (S10.trans (S11.trans S12)))) i12
   . rw[zyk he]
     refine mZ ?_;refine ky ?_;have hwl:=G.tv.length;rw[wm]at hwl;have hdl:=G.dl;have hlen:=z6 ps left;have hpos:0<(aA ps left).length:=Wy.mpr he;o_head iI (aG.of G.ev) ?_;o_head je G.ev (by lia) (λH7 E7 e7=>?_);have K7:bK H6 H7:=E7.keep G.ev;have S7:ah H H7:=G.same.grow G.hv E7;have el7:=E7 _ _ G.u6 G.el;have ep7:=E7 _ _ G.jX G.ep;have tp7:=aj.keep K7 _ _ (d4 _) G.tp;have iv7:=G.iv.g6 K7 (u4 _);have iw7:=G.iw.c8 K7
     have tv7:aj K H7 (wv++[vwave]) ((done++[aA ps left]).map TW):=by
       rw[w6];exact(aj.keep K7 _ _ (nM _) G.tv).snoc iv7
     obtain⟨aw,rfl,hsw⟩:=yW.mp iv7;o_head nu (.of el7) (λD i ys σ' H'=>(∃o,σ'=[o,some (.ref aw)])/\H7 D=none/\ah H7 H'/\H' D=some (.lst (vz (bR (left.take i) (aA ps left))))) (λD H' n s e=>⟨⟨_,rfl⟩,n,s,e⟩) (λD i ys σ' H' h=>h.2.2.1.seq (.of el7)) ?_ ?_
     . rintro D i x ys σ' H8 hx' ⟨⟨o,rfl⟩,n,S8,e8⟩
       obtain⟨hi,rfl⟩:=Bz hx';have hle:(bR (left.take i) (aA ps left)).length<=(left.take i).length:=vT _ _;rw[Wr]at hle;o_head zul (S8.jG hsw) ?_;generalize hww:left[i]=ww at *;k_few
       . rename_i z
         refine iO e8 (by rw[gk];lia) (λH9 E9 e9=>⟨⟨_,rfl⟩,n,S8.grow n E9,?_⟩);rw[pG hi,hww,zwX z,rQ];exact e9
       . rename_i z
         refine⟨[],⟨_,rfl⟩,n,S8,?_⟩;rw[pG hi,hww,zug (by first | exact z | exact We.mp z)];exact e8
     . rintro D ys σ' H8 ⟨_,n8,S8,e8⟩
       rw[gk,Wb]at e8;have nD1:D≠lp:=rp n8 ep7;have nD2:D≠lv:=rp n8 e7;have T8:=S7.trans S8;have iv8:=iv7.by S8;o_head aF (j:=0) (hw.by T8) rfl (λvr ir=>?_);o_head KR iv8 ?_;o_head Bm ir ba bb (by lia) (by lia) (λvpush H9 S9 ipush=>?_);rw[wD]at ipush;have bf:ag 700 (ra^(aA ps left).length):=(ba.pow _).mono (by lia);have bg:ag 1500 (aC ra rb (aA ps left).length):=(ba.aC bb _).mono (by lia);have T9:=S8.trans S9;have ep9:=T9 _ _ ep7;have tp9:aj K H9 pv (ps.map N):=aj.same T9 _ _ tp7;have e9:=S9 _ _ e8;have ev9:=T9 _ _ e7;have ndl:=ng (wave:=aA ps left) G.nd;have ltl:=oA (wave:=aA ps left) G.lt;generalize hL:bR left (aA ps left)=left' at *;o_head rJ (.of e9) (λi σ'' H''=>∃o pv',σ''=[some x0,some vw,some (.ref lp),some (.ref D),some (.ref lv),some (.ref aw),some vpush,o,none]/\Exc lp H9 H''/\H'' lp=some (.lst pv')/\aj K H'' pv' ((cD (ra^(aA ps left).length) (aC ra rb (aA ps left).length) ps (left'.take i)).map N)) ⟨_,pv,rfl,Exc.refl _ _,ep9,tp9⟩ (λi σ'' H'' _ ⟨_,_,_,e,_⟩=>.of (e _ _ nD1 e9)) ?_ ?_
       . rintro i x σ'' H10 hx' ⟨o,pv',rfl,E10,e10,t10⟩
         obtain⟨hi,rfl⟩:=Bz hx';have K10:bK H9 H10:=E10.keep ep9;have hlt:=ltl _ (Wi hi);have hpl:=gT (ra^(aA ps left).length) (aC ra rb (aA ps left).length) (left'.take i) ps;have hps:=G.len
         have bq:ag 4000 ((cD (ra^(aA ps left).length) (aC ra rb (aA ps left).length) ps (left'.take i)).getD left'[i] 0):=by
           have nt:(left'.take i).Nodup:=ndl.sublist (Xg ..);rw[iN _ _ _ _ nt (λw hw'=>by rw[hps];exact ltl w (XQ _ _ hw'))];rw[if_neg]
           . exact bp _
           . intro hm
             obtain⟨j,hj,ej⟩:=vj hm;rw[Wr]at hj;rw[Xk]at ej;exact absurd ej ((Wx.mp ndl) j i (by lia) hi (by lia))
         have ip10:=ipush.g6 K10 (yw _ _);generalize hww:left'[i]=ww at *;generalize hqs:cD (ra^(aA ps left).length) (aC ra rb (aA ps left).length) ps (left'.take i)=qs at *;o_head gu (b_ e10 t10) (by lia) (by lia) (λv11 i11=>?_);rw[wD]at i11;o_head Tn ip10 i11 bf bg (bq.mono (by decide)) (λv12 H12 S12 i12=>?_);have e12:=S12 _ _ e10;have hvl:=t10.length;rw[wm]at hvl;o_head oK (j:=ww) e12 (by unfold gD;rw[if_pos (by lia),if_pos (by lia)];simp) (λH13 E13 e13=>?_);refine⟨_,_,rfl,E10.trans (S12.exc.trans E13),e13,?_⟩;have K13:=E13.keep e12;rw[pG hi,hww,U1,hqs];refine eO (by rw[Wo,Wo];exact hvl) (λj v hj=>?_);rw[WH]at hj
         by_cases hjw:ww=j
         . subst hjw
           rw[if_pos rfl,if_pos (by lia)]at hj;cases hj;rw[pL (by lia)];exact i12.c8 K13
         . rw[if_neg hjw]at hj
           rw[sv hjw];obtain⟨_,ij⟩:=cq t10 hj;exact(ij.by S12).c8 K13
       . rintro σ'' H10 ⟨o,pv',rfl,E10,e10,t10⟩
         rw[gk,Wb]at t10;have K10:bK H9 H10:=E10.keep ep9;have hps:=G.len
         have cm10:Cm (m+2+21*(xs.length-left'.length)) (cD (ra^(aA ps left).length) (aC ra rb (aA ps left).length) ps left'):=by
           have c0:Cm (m+2+21*(xs.length-left.length)) (0::ps):=G.cm.g9 λy hy=>by rcases wR.mp hy with rfl | hy;(exact .inr rfl);exact .inl hy
           exact((c0.wave ba bb (aA ps left).length ndl (λw hw'=>by rw[hps];exact ltl w hw')).g9 λy hy=>.inl (wB _ hy)).mono (by lia)
         have hpl:=gT (ra^(aA ps left).length) (aC ra rb (aA ps left).length) left' ps;have w1:=G.w1;have w2:=G.w2;have hfl:=G.fl;obtain⟨f',rfl⟩:∃f',f=f'+1:=⟨f-1,by lia⟩;rw[iX he,hL]at w1 w2;generalize hqs:cD (ra^(aA ps left).length) (aC ra rb (aA ps left).length) ps left'=qs at *;k_few;have e10':=E10 _ _ nD1 e9;refine Ub e10' (b_ e10 t10) (λw hw'=>by rw[hpl,hps];exact ltl w hw') (by lia) (λi=>(cm10.get i).mono (by lia)) (λvwave2 H11 S11 i11=>?_);k_few;have KA:=T9.keep.trans K10;refine⟨left'.length,by lia,D,left',qs,done++[aA ps left],f',pv',wv++[V.ref aw],vwave2,_,_,rfl,rfl,?_⟩;exact⟨((S7.trans T9).grow G.hp E10).trans S11,G.hp,G.hv,(iw7.c8 KA).by S11,G.jX,nD1,nD2,S11 _ _ e10,aj.same S11 _ _ t10,S11 _ _ e10',S11 _ _ (E10 _ _ G.jX.symm ev9),aj.same S11 _ _ (aj.keep KA _ _ (nM _) tv7),i11,ndl,ltl,by rw[hpl];exact hps,by lia,by rw[wQ];simp;lia,cm10,by rw[W4];exact w1,w2⟩
def Nh(K:wa):Sp:=λvs H Q _=>∃x0 x1,vs=[x0,x1] /\ ∃(a b:Rat)(xs:List Rat)(n:Int),x1=.int n/\Is K H x0 (bM a b xs)/\ag 10 a/\ag 10 b/\1<=xs.length/\xs.length<=8/\0<=n/\n<=40/\(∀i,i<=n.toNat->Cm 3700 (bC a b xs i::ai a b xs i)) /\ ∀l H',H l=none->ah H H'->Is K H' (.ref l) (.list (h9 a b xs n.toNat))->Q (.ref l) H'
theorem ztD{a:Rat}{n:Int}(h:Is K H v (bM a b xs))(ba:ag 10 a)(bb:ag 10 b)(h1:1<=xs.length)(h8:xs.length<=8)(n0:0<=n)(n1:n<=40)(c:∀i,i<=n.toNat->Cm 3700 (bC a b xs i::ai a b xs i))(q:∀l H',H l=none->ah H H'->Is K H' (.ref l) (.list (h9 a b xs n.toNat))->Q (.ref l) H'):Nh K [v,.int n] H Q E:=⟨_,_,rfl,a,b,xs,n,rfl,h,ba,bb,h1,h8,n0,n1,c,q⟩
theorem zuO(T:Txt K mg a):aK P w K mg base aR 5 a.JW a.IP yY (Nh K):=by
 refine T.IU.F.ok kN ?_ ?_;wtm_at "b2"
 refine⟨_,(ao (az 2 kN.nd (cJ af))
     (ao (az 3 kN.nd (bW (v:=.ref a.dF) rfl T.d8 rfl))
     (ao (az 4 kN.nd (pv 0))
     (ao (fc vg rfl (fK rfl T.h0P (ae (pv 1) af)) (aZ (i:=5) kN.nd rfl (Or.inl rfl)) (ao (az 6 kN.nd (ar (Ep T) hr T.sZ (ae (pv 4) af)))
     (ao (az 3 kN.nd (ar (gM T) hr T.gc (ae (pv 3) (ae (au (pv 6)) af))))
     (ao (az 4 kN.nd (au (pv 6)))
     (av (jR (jn vQ vV vW iS (pv 2) (ae (aW (ae (pv 3) (ae (au (pv 6)) (ae (au (pv 4)) af)))) af))))))))
     (av (aB (pv 2))))))),?_⟩
 wtm_at "cl";rw[show start Od [x0,x1]=[some x0,some x1,none,none,none,none,none]from rfl];obtain⟨ra,rb,xs,n,rfl,hw,ba,bb,h1,h8,n0,n1,cm,q⟩:=h;o_head de (by simp) (λlr H1 nr S1 e1=>?_);o_head jY (n:=n) (by lia) (by lia) (λi σ H'=>∃vh vs o5 o6 us,σ = [some x0,some (.int n),some (.ref lr),some vh,some vs,o5,o6]/\ah H H'/\H' lr=some (.lst us)/\aj K H' us (h9 ra rb xs i)/\Is K H' vh (N (bC ra rb xs i))/\Is K H' vs (bM ra rb (ai ra rb xs i))) ⟨_,_,_,_,[],rfl,S1,e1,.nil,d_ 0 (T.e_ _) rfl rfl,hw.by S1⟩ ?_ ?_
 . rintro i σ H2 hi ⟨vh,vs,o5,o6,us,rfl,S2,e2,t2,ih,iw⟩
   have hc:=cm i (by lia);have hpl:=bS ra rb xs i;have bh:ag 3700 (bC ra rb xs i):=hc.fk (wJ ..);have hc':Cm 3700 (ai ra rb xs i):=hc.g9 λy hy=>.inl (wB _ hy)
   have bw:ag 3702 (1-a_ (ai ra rb xs i)):=(ag.one.sub (hc'.fk (fR (by lia)))).mono (by decide);o_head CT iw ba bb (by lia) (by lia) hc' (by rw[hpl];lia) (λv3 H3 S3 i3=>?_);o_head aF (j:=0) i3 rfl (λv4 i4=>?_);have ih3:=ih.by S3;k_few;rename_i v5 H5 S5 i5;refine aF (j:=2) (i3.by S5) rfl (λv6 i6=>?_);have T5:=S3.trans S5;o_head iI (aG.of (T5 _ _ e2)) ?_;o_head aF (j:=1) (i3.by S5) rfl (λv7 i7=>?_);o_head aF (j:=1) i6 rfl (λv8 i8=>?_);o_head cR (ds:=[N (bC ra rb xs (i+1)),m9 (cH ra rb (ai ra rb xs i)),TN (ai ra rb xs (i+1))]) (by simp) (.cons i5 (.cons i7 (.cons i8 .nil))) (λv9 H9 S9 i9=>?_);k_few;have T9:=T5.trans S9;have e9:=T9 _ _ e2;have hul:=t2.length;rw[zxn]at hul;refine je e9 (by lia) (λH10 E10 e10=>?_);have K10:=E10.keep e9;have i10:=i9.g6 K10 (Lx _ _ _)
   have t10:aj K H10 (us++[v9]) (h9 ra rb xs (i+1)):=by
     rw[BO];exact(aj.keep K10 _ _ (zqP ..) (aj.same T9 _ _ t2)).snoc i10
   exact⟨_,_,_,_,_,rfl,(S2.trans T9).grow nr E10,e10,t10,(i5.by S9).c8 K10,(i6.by S9).g6 K10 (LG _ _ _)⟩
 . rintro σ H2 ⟨vh,vs,o5,o6,us,rfl,S2,e2,t2,ih,iw⟩
   k_few;exact q lr H2 nr S2 (cb.mpr ⟨lr,us,rfl,.of e2,t2⟩)
def BD(a b:Rat)(xs:List Rat)(n:Nat):wC:=.tuple [N (bC a b xs n),bM a b (ai a b xs n)]
def Ur(K:wa):Sp:=λvs H Q _=>∃x0 x1,vs=[x0,x1] /\ ∃(a b:Rat)(xs:List Rat)(n:Int),x1=.int n/\Is K H x0 (bM a b xs)/\ag 10 a/\ag 10 b/\1<=xs.length/\xs.length<=8/\0<=n/\n<=40/\(∀i,i<=n.toNat->Cm 3700 (bC a b xs i::ai a b xs i)) /\ ∀v H',ah H H'->Is K H' v (BD a b xs n.toNat)->Q v H'
theorem Up{a:Rat}{n:Int}(h:Is K H v (bM a b xs))(ba:ag 10 a)(bb:ag 10 b)(h1:1<=xs.length)(h8:xs.length<=8)(n0:0<=n)(n1:n<=40)(c:∀i,i<=n.toNat->Cm 3700 (bC a b xs i::ai a b xs i))(q:∀v H',ah H H'->Is K H' v (BD a b xs n.toNat)->Q v H'):Ur K [v,.int n] H Q E:=⟨_,_,rfl,a,b,xs,n,rfl,h,ba,bb,h1,h8,n0,n1,c,q⟩
theorem rK(h:Is K H v (.list (ds++[d])))(q:∀x,Is K H x d->Q x H):c9 K v (.int (-1)) H Q:=by
 obtain⟨a,xs,rfl,hs,t⟩:=cb.mp h;have hl:=t.length;rw[wQ,vS]at hl;obtain⟨x,e1,hx⟩:=t.get (i:=ds.length) (d:=d) (by rw[Wh (wp _),V3];rfl);exact jc hs (CD (by rw[hl];exact e1)) (q x hx)
theorem zwL(T:Txt K mg a):aK P w K mg base aR 6 a.behind a.IV yT (Ur K):=by
 refine T.Jv.F.ok B6 ?_ ?_;wtm_at "b2"
 refine⟨_,(ao (az 2 B6.nd (ar (zuO T) hr T.IU (ae (pv 0) (ae (pv 1) af))))
     (ao (bL (dy (EC (pv 2))) (av (aB (aW (ae (bW (v:=.ref a.dF) rfl T.d8 rfl) (ae (pv 0) af))))) bN)
     (ao (az 3 B6.nd (dw cU (pv 2) (iD ic ay) (λ_ _=>rfl)))
     (av (aB (aW (ae (au (pv 3)) (ae (aW (ae (au (pv 0)) (ae (au (pv 3)) af))) af)))))))),?_⟩
 wtm_at "cl";rw[show start R9 [x0,x1]=[some x0,some x1,none,none]from rfl];obtain⟨ra,rb,xs,n,rfl,hw,ba,bb,h1,h8,n0,n1,cm,q⟩:=h;o_head ztD hw ba bb h1 h8 n0 n1 cm (λlr H1 nr S1 i1=>?_);o_head PU i1 ?_;generalize n.toNat=k at *;cases k with
 | zero =>
   rw[show(!(h9 ra rb xs 0).isEmpty)=false from rfl];o_head cR (ds:=[N 0,bM ra rb xs]) (by simp) (.cons (d_ 0 (T.e_ _) rfl rfl) (.cons (hw.by S1) .nil)) (λv H2 S2 i2=>?_);exact q v H2 (S1.trans S2) i2
 | succ k =>
   rw[BO]at i1;rw[show(!(h9 ra rb xs (k+1)).isEmpty)=true by rw[BO];simp];o_head rK i1 (λv2 i2=>?_);have i2:Is K H1 v2 (Aj (bC ra rb xs (k+1)) (cH ra rb (ai ra rb xs k)) (ai ra rb xs (k+1))):=i2;o_head aF (j:=0) i2 rfl (λv3 i3=>?_);o_head aF (j:=0) (hw.by S1) rfl (λv4 i4=>?_);o_head aF (j:=2) i2 rfl (λv5 i5=>?_);o_head cR (ds:=[R ra rb,TN (ai ra rb xs (k+1))]) (by simp) (.cons i4 (.cons i5 .nil)) (λv6 H6 S6 i6=>?_);o_head cR (ds:=[N (bC ra rb xs (k+1)),bM ra rb (ai ra rb xs (k+1))]) (by simp) (.cons (i3.by S6) (.cons i6 .nil)) (λv7 H7 S7 i7=>?_);exact q v7 H7 (S1.trans (S6.trans S7)) i7
def NG(K:wa):Sp:=λvs H Q _=>∃x0,vs=[x0] /\ ∃(a b:Rat)(xs:List Rat),Is K H x0 (bM a b xs)/\Q (.bl (decide (0∈xs))) H
theorem Ue{a:Rat}(h:Is K H v (bM a b xs))(q:Q (.bl (decide (0∈xs))) H):NG K [v] H Q E:=⟨_,rfl,a,b,xs,h,q⟩
theorem PF(T:Txt K mg a):aK P w K mg base aR 1 a.JM a.IG zm (NG K):=by
 refine T.A5.F.ok ztY ?_ ?_;wtm_at "b1";refine⟨_,(av (aB (eK (show aH _ (wH .In) (DV K)from zDl hu) (bW (v:=.ref a.dF) rfl T.d8 rfl) (au (pv 0)) (by with_unfolding_all rfl)))),?_⟩;wtm_at "cl";rw[show start Ga [x0]=[some x0]from rfl];obtain⟨ra,rb,xs,hw,q⟩:=h;o_head aF (j:=1) hw rfl (λvp ip=>?_);exact zAs (d_ 0 (T.e_ _) rfl rfl) ip q
def aY(xs:List Rat):List Rat:=(ak xs).dropLast
def Lw(xs:List Rat):wC:=.tuple [TZ (aX xs),TN (aY xs)]
def OF(K:wa)(a:Ad):Sp:=λvs H Q E=>∃x0,vs=[x0] /\ ∃(ra rb:Rat)(xs:List Rat),Is K H x0 (bM ra rb xs)/\xs.length<=8/\(∀i,ag 4000 (xs.getD i 0))/\(¬ 0∈xs->∀H',ah H H'->E (.ref a.eG) none H')/\(0∈xs->∀v H',ah H H'->Is K H' v (Lw xs)->Q v H')
theorem DM(h:Is K H v (bM ra rb xs))(h8:xs.length<=8)(bx:∀i,ag 4000 (xs.getD i 0))(qe:¬ 0∈xs->∀H',ah H H'->E (.ref a.eG) none H')(q:0∈xs->∀v H',ah H H'->Is K H' v (Lw xs)->Q v H'):OF K a [v] H Q E:=⟨_,rfl,ra,rb,xs,h,h8,bx,qe,q⟩
theorem UX:∀(n:Nat)(l:List Rat),(fJ n l).length<=n
 | 0,l=>wp _
 | n+1,[]=>by rw[rG];simp
 | n+1,x::l=>by
  rw[lC (by simp),Wa];have:=UX n ((x::l).filter λy=>!decide (y=a_ (x::l)));lia
theorem CM(T:Txt K mg a):aK P w K mg base (fe P w) 4 a.laid a.JU Ay (OF K a):=by
 refine T.sW.F.rC Ah ?_ ?_;wtm_at "b1"
 refine⟨_,(ao (bL (dy (cA (ar (PF T) hr T.A5 (ae (pv 0) af)))) (av (Sl T.YI rfl rfl T.Jm LO (ae dX af))) bN)
     (ao (az 1 Ah.nd (ar (Fn T) hr T.sS (ae (pv 0) af)))
     (ao (az 2 Ah.nd (di (show aE _ (.type "tuple") (dQ K)from eZ) rfl T.h0N dY (ae (dR rfl (cv.by (N':=["row"]) (src:=[none]) rfl (by kernel_rfl)) (fA (pv 1)) (λ_ _ _ _ _=>(aZ (i:=0) (of_decide_eq_true (by kernel_rfl)) rfl (Or.inl rfl))) (λ_ _ _ _ _=>dH) (λ_ _ _ _ _=>(bA (show aE _ (.builtin "len") (cj K)from cX) rfl T.h0Y cY (ae (nZ (K:=K) cU (pv 0)) af)))) af)))
     (ao (az 3 Ah.nd (di (show aE _ (.type "tuple") (dQ K)from eZ) rfl T.h0N dY (ae (dR rfl (cv.by (N':=["row"]) (src:=[none]) rfl (by kernel_rfl)) (fA (oO n_ (pv 1) m6 (m7 (iD ic ay)))) (λ_ _ _ _ _=>(aZ (i:=0) (of_decide_eq_true (by kernel_rfl)) rfl (Or.inl rfl))) (λ_ _ _ _ _=>dH) (λ_ _ _ _ _=>(nZ (K:=K) cU (pv 0)))) af)))
     (av (aB (aW (ae (pv 2) (ae (pv 3) af))))))))),?_⟩
 wtm_at "cl";rw[show start La [x0]=[some x0,none,none,none]from rfl];obtain⟨ra,rb,xs,hw,h8,bx,qe,q⟩:=h;have hvl:(ak xs).length<=8:=Wl (UX _ _) h8;o_head Ue hw ?_;k_few
 . rename_i z
   exact⟨by simp;decide,qe z H (ah.refl _)⟩
 . rename_i z
   have z:=(by first | exact z | exact We.mp z:0∈xs);refine BJ hw h8 bx (λlr H1 us n1 S1 e1 t1=>?_);have hul:=t1.length;rw[wm]at hul;o_head ki (.of e1) (o0:=none) (tl:=[]) rfl (λj y _=>y=.int ((aX xs).getD j 0)) ?_ ?_
   . intro D j x ys o H2 hx inv
     obtain⟨hj,ix⟩:=sE t1 hx;rw[wm]at hj;rw[wb,wu,wc hj]at ix;have ix2:Is K H2 x (kA xs (ak xs)[j]):=ix.by inv.same;o_head aF (j:=1) ix2 rfl (λv3 i3=>?_);o_head KR i3 ?_;o_head d7 inv (by lia) (λ_ _ _ _ _ h=>h) ⟨_,rfl⟩ (ah.refl _) ?_;unfold aX;rw[wb,wu,wc hj]
     rfl
   . intro D ys H2 hn S2 hD hl hr
     have hys:ys=(aX xs).map V.int:=Lv (by rw[hl,hul];unfold aX;rw[wm]) hr;subst hys;o_head rO (.of hD) (λl3 H3 n3 S3 e3=>?_);have i3:Is K H3 (.ref l3) (TZ (aX xs)):=pO.mpr ⟨l3,rfl,.of e3⟩;have T3:=S2.trans S3;o_head pZ (cb.mpr ⟨lr,us,rfl,.of (T3 _ _ e1),aj.same T3 _ _ t1⟩) (λl4 H4 us4 n4 S4 e4 t4=>?_);rw[AD,<- qP]at t4;o_head ki (.of e4) (o0:=none) (tl:=[]) rfl (λj y H'=>Is K H' y (N ((aY xs).getD j 0))) ?_ ?_
     . intro D' j x ys o H5 hx inv
       obtain⟨hj,ix⟩:=sE t4 hx;have hj2:j<(aY xs).length:=by rw[wm]at hj;exact hj
       have hj8:(aY xs).length<=8:=by unfold aY;rw[xE];lia
       rw[wb,wu,wc (show j<(ak xs).dropLast.length from hj2)]at ix;have ix5:Is K H5 x (kA xs (aY xs)[j]):=ix.by inv.same;o_head aF (j:=0) ix5 rfl (λv6 i6=>?_);o_head d7 inv (by lia) eA ⟨_,rfl⟩ (ah.refl _) ?_;rw[wb,wc hj2];exact i6
     . intro D' zs H5 hn5 S5 hD5 hl5 hr5
       have hu4:=t4.length;rw[wm]at hu4;have tz:aj K H5 zs ((aY xs).map N):=eO (by rw[hl5,hu4];rfl) hr5;o_head gE (b_ hD5 tz) (λv6 H6 S6 i6=>?_);o_head cR (ds:=[TZ (aX xs),TN (aY xs)]) (by simp) (.cons (i3.by (S4.trans (S5.trans S6))) (.cons i6 .nil)) (λv7 H7 S7 i7=>?_);exact q z v7 H7 (S1.trans (T3.trans (S4.trans (S5.trans (S6.trans S7))))) i7
theorem zx4(h:Cm m xs)(i j:Nat):ag (m+2) (xs.getD i 0+(1-xs.getD j 0)):=by
 obtain⟨B,h0,h1,h2⟩:=h
 have key:∀i,∃t:Int,xs.getD i 0=wx t B/\Bd m t:=λi=>by
  rcases wG i xs.length with q | q
  ·rw[wb,wc q]
   exact h2 _ (Wi q)
  ·rw[wb,wL q]
   exact⟨0,by simp,⟨by simp;exact Wp m⟩⟩
 obtain⟨t,et,bt⟩:=key i;obtain⟨z,ez,bz⟩:=key j
 have e2:wx t B+(1-wx z B)=wx (t+B-z) B:=by
  symm
  refine fG (by lia) ?_;have q1:=c7 t (show B≠0 by lia);have q2:=c7 z (show B≠0 by lia);have q3:((t+B-z:Int):Rat)=(t:Rat)+(B:Rat)-(z:Rat):=by push_cast;rfl
  rw[q3,<- q1,<- q2]
  grind
 rw[et,ez,e2];exact ag.divInt (by lia) (((bt.add h1).sub bz).mono (by lia)) (h1.mono (by lia))
def Ts(K:wa):Sp:=λvs H Q _=>∃x0 x1 x2 x3,vs=[x0,x1,x2,x3] /\ ∃(a b:Rat)(n i:Int)(xs:List Rat)(m:Nat),x1=.int n/\x3=.int i/\Is K H x0 (R a b)/\Is K H x2 (LN xs)/\ag 10 a/\ag 10 b/\0<=n/\n<=64/\0<=i/\i<xs.length/\xs.length<=100/\Cm m xs/\m<=8000 /\
 ∀l H' us,H l=none->ah H H'->H' l=some (.lst us)->aj K H' us ((dN a b n.toNat xs i.toNat).map N)->Q (.ref l) H'
theorem zlX{a:Rat}{n i:Int}{w:V}(h1:Is K H v (R a b))(h2:Is K H w (LN xs))(b1:ag 10 a)(b2:ag 10 b)(h0:0<=n)(h64:n<=64)(i0:0<=i)(i1:i<xs.length)(hl:xs.length<=100)(hm:Cm m xs)(hm2:m<=8000)
  (q:∀l H' us,H l=none->ah H H'->H' l=some (.lst us)->aj K H' us ((dN a b n.toNat xs i.toNat).map N)->Q (.ref l) H'):Ts K [v,.int n,w,.int i] H Q E:=⟨_,_,_,_,rfl,a,b,n,i,xs,m,rfl,rfl,h1,h2,b1,b2,h0,h64,i0,i1,hl,hm,hm2,q⟩
theorem zmc(T:Txt K mg a):aK P w K mg base aR 4 a.He a.GK zt (Ts K):=by
 refine T.GV.F.ok uN ?_ ?_;wtm_at "b4"
 refine⟨_,(ao (az 4 uN.nd (ar (zW T) hr T.o_ (ae (bW (v:=.ref a.d9) rfl T.fh rfl) (ae (dw cU (pv 2) (pv 3) (λ_ _=>rfl)) af))))
     (ao (az 5 uN.nd (ar (u_ T) hr T.oW (ae (pv 0) (ae (pv 1) af))))
     (ao (jA (i:=6) uN.nd rfl (Or.inl rfl) rfl (cv.by (N':=["phase","push","wait"]) (src:=[none,some 5,some 4]) rfl (by kernel_rfl)) (fA (pv 2)) (λ_ _ _ _ _=>(aZ (i:=0) (of_decide_eq_true (by kernel_rfl)) rfl (Or.inl rfl))) (λ_ _ _ _ _=>dH) (λ_ _ _ _ _=>(ar (OA (K:=K) (mg:=mg) (a:=a) T) hr T.AY (ae (pv 1) (ae (ar (gM (K:=K) (mg:=mg) (a:=a) T) hr T.gc (ae (pv 0) (ae (pv 2) af))) af)))))
     (ao (kz (bW (v:=.ref a.dF) rfl T.d8 rfl) (ml (pv 6) (pv 3) me))
     (av (aB (pv 6))))))),?_⟩
 wtm_at "cl";rw[show start R7 [x0,x1,x2,x3]=[some x0,some x1,some x2,some x3,none,none,none]from rfl];obtain⟨a',b',n,i,xs,m,rfl,rfl,hr',hx,ba,bb,h0,h64,i0,i1,hl,hm,hm2,q⟩:=h;have bi:ag 8000 (xs.getD i.toNat 0):=(hm.get _).mono hm2;have bw:ag 8002 (1-xs.getD i.toNat 0):=(ag.one.sub bi).mono (by decide);have bf:ag 700 (a'^n.toNat):=(ba.pow n.toNat).mono (by lia);have bg:ag 1500 (aC a' b' n.toNat):=(ba.aC bb n.toNat).mono (by lia);o_head gu hx i0 i1 (λv1 iv1=>?_);k_few;rename_i v2 H2 S2 iv2;refine Bm (hr'.by S2) ba bb h0 h64 (λv3 H3 S3 iv3=>?_);have T3:=S2.trans S3;have iv2':=iv2.by S3;have hx3:=hx.by T3;clear iv1 iv2 S2 S3 hx hr';k_few;obtain⟨lx,vs,rfl,hs,t⟩:=cb.mp hx3;refine ki hs (o0:=none) (tl:=[some v3,some v2]) rfl (λj v H=>Is K H v (N ((xs.map λx=>push a' b' n.toNat (x+(1-xs.getD i.toNat 0))).getD j 0))) ?_ ?_
 . rintro D j x ys o H1 hx' inv
   obtain⟨hj,ix⟩:=cq t hx';have ix1:=ix.by inv.same;have jv2:=iv2'.by inv.same;have jv3:=iv3.by inv.same;have bx:ag 8000 (xs.getD j 0):=(hm.get j).mono hm2;k_few;rename_i v4 H4 S4 iv4;refine Tn (jv3.by S4) iv4 bf bg ((zx4 hm j i.toNat).mono (by lia)) (λv5 H5 S5 iv5=>?_);exact d7 inv (by lia) eA ⟨_,rfl⟩ (S4.trans S5) (by rw[oG hj,h_];exact iv5)
 . rintro D ys H4 hn S4 e4 hl4 hr4
   have hvl:=t.length;rw[wm]at hvl;have hyl:ys.length=xs.length:=by lia
   clear hs t hx3 iv2' iv3;o_head oK (j:=i.toNat) e4 (by unfold gD;rw[if_pos i0,if_pos (by lia)]) (λH5 E5 e5=>?_);k_few;have hD:=ft T3 hn;refine q D H5 _ hD ((T3.trans S4).grow hD E5) e5 (eO (by rw[Wo,iG];exact hyl) λj v hv=>?_);rw[WH]at hv
   by_cases hij:i.toNat=j
   . subst hij
     rw[if_pos rfl,if_pos (by lia)]at hv;cases hv;rw[gr _ _ _ _ _ _ (by lia),if_pos rfl];exact d_ 0 (T.e_ _) rfl rfl
   . rw[if_neg hij]at hv
     have hj:j<xs.length:=by
       rcases wG j ys.length with z | z
       . lia
       . rw[wL z]at hv;cases hv
     have hz:=hr4 j v hv;rw[oG hj]at hz;rw[gr _ _ _ _ _ _ hj,if_neg (Wt hij)];exact hz.c8 (E5.keep e4)
structure cT(a b:Rat)(ns:List Int)(xs:List Rat):Prop where
 ba:ag 10 a
 bb:ag 10 b
 n0:∀n∈ns,0<=n/\n<=64
 len:ns.length=xs.length+1
 cg:ns.length<=50
 cm:∃m,Cm m xs/\m+2*ns.length+21*upTo ns ns.length<=8000
theorem Dh : ∀{k j:Nat},k<=j->j<=ns.length->upTo ns k<=upTo ns j:=by
 intro k j hk
 induction j with
 | zero => intro _; have : k = 0 := by lia
           subst this;exact wp _
 | succ j ih =>
   intro hj;rcases wG k (j+1)with z | z
   . rw[rE (by lia)]
     have:=ih (by lia) (by lia);lia
   . have:k=j+1:=by lia
     subst this;exact wp _
theorem cT.row{a:Rat}(h:cT a b ns xs)(hk:k<=ns.length):∃m,Cm m (aN a b ns (xs++[0]) k)/\m<=8000:=by
 obtain⟨m,hm,hm2⟩:=h.cm;refine⟨_,(hm.snoc).rows h.ba h.bb k hk,?_⟩;have:=Dh (ns:=ns) hk (wp _);lia
def nS(a b:Rat)(ns:List Int)(xs:List Rat):List (List Rat):=(wo (ns.length+1)).map (aN a b ns (xs++[0]))
theorem pP(a b:Rat)(ns:List Int)(xs:List Rat):(nS a b ns xs).length=ns.length+1:=by simp[nS]
theorem zO{a:Rat}(h:k<=ns.length):(nS a b ns xs).getD k []=aN a b ns (xs++[0]) k:=by
 unfold nS;rw[wb,wu,vH (by lia)]
 rfl
def NC(K:wa):Sp:=λvs H Q _=>∃x0 x1 x2,vs=[x0,x1,x2] /\ ∃(a b:Rat)(ns:List Int)(xs:List Rat),Is K H x0 (R a b)/\Is K H x1 (TZ ns)/\Is K H x2 (TN xs)/\cT a b ns xs /\ ∀l H',ah H H'->Is K H' (.ref l) (LL (nS a b ns xs))->Q (.ref l) H'
theorem CK{a:Rat}{w:V}(h1:Is K H v (R a b))(h2:Is K H w (TZ ns))(h3:Is K H u (TN xs))(ok:cT a b ns xs)(q:∀l H',ah H H'->Is K H' (.ref l) (LL (nS a b ns xs))->Q (.ref l) H'):NC K [v,w,u] H Q E:=⟨_,_,_,rfl,a,b,ns,xs,h1,h2,h3,ok,q⟩
theorem F8(T:Txt K mg a):aK P w K mg base aR 5 a.sY a.Jd y7 (NC K):=by
 refine T.sT.F.ok uX ?_ ?_;wtm_at "b3"
 refine⟨_,(ao (az 3 uX.nd (cJ (ae (aD cB (di (show aE _ (.type "list") (fQ K)from jU) rfl T.h0Q g_ (ae (pv 2) af)) (cJ (ae (bW (v:=.ref a.dF) rfl T.d8 rfl) af))) af)))
     (ao (fc vg rfl (Lj rfl T.h0w (ae (pv 1) af)) (j_ (n:=2) rfl (fb (aZ (i:=4) uX.nd rfl (Or.inl rfl)) (fb (aZ (i:=5) uX.nd rfl (Or.inl rfl)) j7))) (av (jR (jn vQ vV vW iS (pv 3) (ae (ar (zmc T) hr T.GV (by exact(@ae _ _ _ _ _ (pv 0) (@ae _ _ _ _ _ (pv 5) (@ae _ _ _ _ _ (dw cU (pv 3) (pv 4) (λ_ _=>rfl)) (@ae _ _ _ _ _ (pv 4) af dA) jh) dA) dA))) af)))))
     (av (aB (pv 3))))),?_⟩
 wtm_at "cl";rw[show start KQ [x0,x1,x2]=[some x0,some x1,some x2,none,none,none]from rfl];obtain⟨a',b',ns,xs,hr',hn',hp',ok,q⟩:=h;have hlen:=ok.len;have hfew:=ok.cg;o_head rh hp' (λl1 H1 us hl1 S1 e1 t1=>?_);have hul:=t1.length;rw[wm]at hul;o_head de (by simp) (λl2 H2 hl2 S2 e2=>?_);refine jH (S2 _ _ e1) e2 (WB (gj (by simp;lia))) (λl3 H3 hl3 S3 e3=>?_);o_head de (by simp) (λlt H4 hlt S4 e4=>?_);have T4:ah H H4:=S1.trans (S2.trans (S3.trans S4));have e3':=S4 _ _ e3;have ne43:l3≠lt:=λz=>by subst z;rw[e3]at hlt;cases hlt
 have t3:aj K H4 (us++[V.ref a.dF]) ((xs++[0]).map N):=by
   rw[w6];exact(aj.same (S2.trans (S3.trans S4)) _ _ t1).append (.cons (d_ 0 (T.e_ _) rfl rfl) .nil)
 have hD:=ft (S1.trans (S2.trans S3)) hlt;clear hl1 hl2 hl3 S1 S2 S3 S4 e1 e2 e3 t1 hlt;k_few;obtain⟨an,rfl,hsn⟩:=pO.mp hn'
 refine ZW (T4.jG hsn) (λk σ H'=>∃o1 o2 vs,σ = [some x0,some (.ref an),some x2,some (.ref lt),o1,o2]/\ah H H'/\H' lt=some (.lst vs)/\vs.length=k+1 /\ ∀j v,vs[j]? = some v->∃lj ws,v=.ref lj/\lj≠lt/\H' lj=some (.lst ws)/\aj K H' ws ((aN a' b' ns (xs++[0]) j).map N))
   ⟨_,_,_,rfl,T4,e4,rfl,λj v hv=>?_⟩ (λk σ H' _ ⟨_,_,_,_,s,_⟩=>s.jG hsn) ?_ ?_
 . match j,hv with
   | 0,e=>cases w5 e;exact⟨l3,_,rfl,ne43,e3',t3⟩
   | j+1,e=>simp at e
 . rintro k x σ H5 t H6 hx ⟨o1,o2,vs,rfl,S5,e5,hl5,hr5⟩ ht S6 e6
   have hk:k<ns.length:=by
     rcases wG k ns.length with z | z
     . exact z
     . rw[wL (by simpa using z)]at hx;cases hx
   have hxv:x=.int (ns.getD k 0):=by
     rw[wu,wc hk]at hx;rw[wb,wc hk];exact(w5 hx).symm
   subst hxv;have hnk:=ok.n0 (ns.getD k 0) (by rw[wb,wc hk];exact Wi hk);refine ly (.of e6) rfl ?_;k_few;have e5':=S6 _ _ e5;refine iI (aG.of e5') ?_;k_few;have hkv:∃v,vs[k]? = some v:=⟨vs[k]'(by lia),wc (by lia)⟩;obtain⟨v,hv⟩:=hkv;obtain⟨lk,ws,rfl,nek,ek,tk⟩:=hr5 k v hv;refine jc (aG.of e5') (kQ hv) ?_;k_few;obtain⟨m,hm,hm2⟩:=ok.row (k:=k) (by lia);have hrl:=du a' b' ns (xs++[0]) k;rw[wQ]at hrl;have T6:=S5.trans S6;refine zlX (hr'.by T6) (b_ (S6 _ _ ek) (aj.same S6 _ _ tk)) ok.ba ok.bb hnk.1 hnk.2 (by lia) (by rw[hrl];simp;lia) (by rw[hrl];simp;lia) hm hm2 (λl7 H7 us7 hl7 S7 e7 t7=>?_);have e5'':=S7 _ _ e5';have ne7:l7≠lt:=λz=>by subst z;rw[e5']at hl7;cases hl7
   o_head je e5'' (by lia) (λH8 E8 e8=>?_);have K8:bK H7 H8:=E8.keep e5'';refine⟨_,_,_,rfl,(T6.trans S7).grow hD E8,e8,by simp[hl5],λj v hv=>?_⟩;rcases wG j vs.length with z | z
   . rw[Ww z]at hv
     obtain⟨lj,wj,rfl,nej,ej,tj⟩:=hr5 j v hv;exact⟨lj,wj,rfl,nej,E8 _ _ nej (S7 _ _ (S6 _ _ ej)),aj.keep (S6.keep.trans (S7.keep.trans K8)) _ _ (d4 _) tj⟩
   . have hj:j=vs.length:=by
       rcases wG vs.length j with q | q
       . rw[wL (by simp;lia)]at hv;cases hv
       . lia
     subst hj;rw[Wh (wp _),V3]at hv;cases w5 hv;rw[hl5];refine⟨l7,us7,rfl,ne7,E8 _ _ ne7 e7,aj.keep K8 _ _ (d4 _) ?_⟩;rw[aN]
     simpa using t7
 . rintro σ H5 ⟨o1,o2,vs,rfl,S5,e5,hl5,hr5⟩
   o_head q lt H5 S5 (cb.mpr ⟨lt,vs,rfl,.of e5,Lp (by rw[hl5,pP];simp) λj v hv=>?_⟩)
   have hj:j<vs.length:=by
     rcases wG j vs.length with z | z
     . exact z
     . rw[wL z]at hv;cases hv
   obtain⟨lj,wj,rfl,nej,ej,tj⟩:=hr5 j v hv;rw[zO (by simp at hl5;lia)];exact b_ ej tj
def cO(a b:Rat)(ns:List Int)(xs:List Rat):List Rat:=(aN a b ns (xs++[0]) ns.length).dropLast
def Ks(K:wa):Sp:=λvs H Q _=>∃x0 x1 x2,vs=[x0,x1,x2] /\ ∃(a b:Rat)(ns:List Int)(xs:List Rat),Is K H x0 (R a b)/\Is K H x1 (TZ ns)/\Is K H x2 (TN xs)/\cT a b ns xs /\ ∀v H',ah H H'->Is K H' v (TN (cO a b ns xs))->Q v H'
theorem OY{a:Rat}{w:V}(h1:Is K H v (R a b))(h2:Is K H w (TZ ns))(h3:Is K H u (TN xs))(ok:cT a b ns xs)(q:∀v H',ah H H'->Is K H' v (TN (cO a b ns xs))->Q v H'):Ks K [v,w,u] H Q E:=⟨_,_,_,rfl,a,b,ns,xs,h1,h2,h3,ok,q⟩
theorem L_(T:Txt K mg a):aK P w K mg base aR 6 a.Hs a.GU yj (Ks K):=by
 refine T.AR.F.ok zm5 ?_ ?_;wtm_at "b3";refine⟨_,(av (aB (di (show aE _ (.type "tuple") (dQ K)from eZ) rfl T.h0N dY (ae (oO n_ (dw cU (ar (F8 T) hr T.sT (ae (pv 0) (ae (pv 1) (ae (pv 2) af)))) (iD ic ay) (λ_ _=>rfl)) m6 (m7 (iD ic ay))) af)))),?_⟩;wtm_at "cl";rw[show start EM [x0,x1,x2]=[some x0,some x1,some x2]from rfl];obtain⟨a',b',ns,xs,hr',hn',hp',ok,q⟩:=h;o_head CK hr' hn' hp' ok (λl H1 S1 i1=>?_);o_head zxk i1 (by rw[pP];lia) (λv2 i2=>?_);rw[pP,VR,zO (wp _)]at i2;o_head pZ i2 (λl3 H3 ys hn3 S3 e3 t3=>?_);rw[AD,<- qP]at t3;o_head gE (b_ e3 t3) (λw H4 S4 i4=>?_);exact q w H4 (S1.trans (S3.trans S4)) i4
theorem Mb{a:Rat}(ok:cT a b ns xs)(c:Cm m xs)(hm:m+2*ns.length+21*upTo ns ns.length<=8000)(hk:k<=ns.length):Cm 8000 (eS a b ns (xs++[0]) k::aN a b ns (xs++[0]) k):=by
 have h1:=Dh (ns:=ns) hk (wp _);exact(c.snoc.Be ok.ba ok.bb (ns:=ns) k hk).mono (by lia)
def Ra(K:wa):Sp:=λvs H Q _=>∃x0 x1 x2,vs=[x0,x1,x2] /\ ∃(a b:Rat)(ns:List Int)(xs:List Rat)(m:Nat),Is K H x0 (R a b)/\Is K H x1 (TZ ns)/\Is K H x2 (TN xs)/\cT a b ns xs/\Cm m xs/\m+2*ns.length+21*upTo ns ns.length<=8000 /\ ∀v H',ah H H'->Is K H' v (N (fo a b ns xs))->Q v H'
theorem zoU{a:Rat}{w:V}(h1:Is K H v (R a b))(h2:Is K H w (TZ ns))(h3:Is K H u (TN xs))(ok:cT a b ns xs)(hm:Cm m xs)(hm2:m+2*ns.length+21*upTo ns ns.length<=8000)(q:∀v H',ah H H'->Is K H' v (N (fo a b ns xs))->Q v H'):Ra K [v,w,u] H Q E:=⟨_,_,_,rfl,a,b,ns,xs,m,h1,h2,h3,ok,hm,hm2,q⟩
theorem zo4(T:Txt K mg a):aK P w K mg base aR 6 a.IQ a.Hj zQ (Ra K):=by
 refine T.HG.F.ok rP ?_ ?_;wtm_at "b3"
 refine⟨_,(ao (az 3 rP.nd (bW (v:=.ref a.dF) rfl T.d8 rfl))
     (ao (az 4 rP.nd (ar (F8 T) hr T.sT (ae (pv 0) (ae (pv 1) (ae (pv 2) af)))))
     (ao (fc vg rfl (fK rfl T.h0P (ae (bA (show aE _ (.builtin "len") (cj K)from cX) rfl T.h0Y cY (ae (pv 1) af)) af)) (aZ (i:=5) rP.nd rfl (Or.inl rfl)) (av (az 3 rP.nd (ar (gM T) hr T.gc (ae (pv 3) (ae (ar (zW T) hr T.o_ (ae (bW (v:=.ref a.d9) rfl T.fh rfl) (ae (dw cU (dw cU (pv 4) (pv 5) (λ_ _=>rfl)) (pv 5) (λ_ _=>rfl)) af))) af))))))
     (av (aB (pv 3)))))),?_⟩
 wtm_at "cl";rw[show start SY [x0,x1,x2]=[some x0,some x1,some x2,none,none,none]from rfl];obtain⟨a',b',ns,xs,m,hr',hn',hp',ok,hm,hm2,q⟩:=h;o_head CK hr' hn' hp' ok (λl H1 S1 i1=>?_);o_head Ec (hn'.by S1) ?_;have hlen:=ok.len;have hfew:=ok.cg;refine jY (n:=(ns.length:Int)) (by lia) (by lia) (λk σ H'=>∃v o,σ = [some x0,some x1,some x2,some v,some (.ref l),o]/\ah H1 H'/\Is K H' v (N (eS a' b' ns (xs++[0]) k))) ⟨_,_,rfl,ah.refl _,d_ 0 (T.e_ _) rfl rfl⟩ ?_ ?_
 . rintro k σ H2 hk ⟨v,o,rfl,S2,iv⟩
   have hk':k<ns.length:=by simpa using hk
   have c:=Mb ok hm hm2 (k:=k) (by lia);have b1:ag 8000 (eS a' b' ns (xs++[0]) k):=c.fk (wJ ..);have b2:ag 8000 ((aN a' b' ns (xs++[0]) k).getD k 0):=(lD c λy hy=>wB _ hy).get k;have b4:ag 8002 (1-(aN a' b' ns (xs++[0]) k).getD k 0):=(ag.one.sub b2).mono (by decide);have i2:=i1.by S2;o_head U3 i2 (by lia) (by rw[pP];lia) (λv3 i3=>?_);rw[wD,zO (by lia)]at i3;o_head gu i3 (by lia) (by rw[du,wQ];simp;lia) (λv4 i4=>?_);rw[wD]at i4;k_few;exact⟨_,_,rfl,S2.trans (ah.trans (by assumption) (by assumption)),by assumption⟩
 . rintro σ H2 ⟨v,o,rfl,S2,iv⟩
   k_few;exact q _ _ (S1.trans S2) iv
def dC(a b:Rat)(ns:List Int)(xs:List Rat):List Rat:=(wo ns.length).map λk=>(aN a b ns (xs++[0]) (k+1)).getD ((k+1) % ns.length) 0
theorem eT(a b:Rat)(ns:List Int)(xs:List Rat):(dC a b ns xs).length=ns.length:=by simp[dC]
theorem mY{a:Rat}(h:k<ns.length):(dC a b ns xs).getD k 0=(aN a b ns (xs++[0]) (k+1)).getD ((k+1) % ns.length) 0:=by
 unfold dC;rw[wb,wu,vH h]
 rfl
def LB(K:wa):Sp:=λvs H Q _=>∃x0 x1 x2,vs=[x0,x1,x2] /\ ∃(a b:Rat)(ns:List Int)(xs:List Rat),Is K H x0 (R a b)/\Is K H x1 (TZ ns)/\Is K H x2 (TN xs)/\cT a b ns xs /\ ∀v H',ah H H'->Is K H' v (TN (dC a b ns xs))->Q v H'
theorem LY{a:Rat}{w:V}(h1:Is K H v (R a b))(h2:Is K H w (TZ ns))(h3:Is K H u (TN xs))(ok:cT a b ns xs)(q:∀v H',ah H H'->Is K H' v (TN (dC a b ns xs))->Q v H'):LB K [v,w,u] H Q E:=⟨_,_,_,rfl,a,b,ns,xs,h1,h2,h3,ok,q⟩
theorem TK(T:Txt K mg a):aK P w K mg base aR 6 a.iL a.JX AJ (LB K):=by
 refine T.Bb.F.ok Gg ?_ ?_;wtm_at "b3"
 refine⟨_,(ao (az 3 Gg.nd (ar (F8 T) hr T.sT (ae (pv 0) (ae (pv 1) (ae (pv 2) af)))))
     (ao (az 4 Gg.nd (bA (show aE _ (.builtin "len") (cj K)from cX) rfl T.h0Y cY (ae (pv 1) af)))
     (av (aB (di (show aE _ (.type "tuple") (dQ K)from eZ) rfl T.h0N dY (ae (dR rfl (cv.by (N':=["turn","rows","count"]) (src:=[none,some 3,some 4]) rfl (by kernel_rfl)) (fK rfl T.h0P (ae (pv 4) af)) (λ_ _ _ _ _=>(aZ (i:=0) (of_decide_eq_true (by kernel_rfl)) rfl (Or.inl rfl))) (λ_ _ _ _ _=>dH) (λ_ _ _ _ _=>(dw (show fB _ (c9 K)from cU) (dw (show fB _ (c9 K)from cU) (pv 1) (aD cB (pv 0) ay) (λ_ _=>rfl)) (aD gL (aD cB (pv 0) ay) (pv 2)) (λ_ _=>rfl)))) af)))))),?_⟩
 wtm_at "cl";rw[show start P0 [x0,x1,x2]=[some x0,some x1,some x2,none,none]from rfl];obtain⟨a',b',ns,xs,hr',hn',hp',ok,q⟩:=h;have hlen:=ok.len;have hfew:=ok.cg;o_head CK hr' hn' hp' ok (λl H1 S1 i1=>?_);o_head Ec (hn'.by S1) ?_;o_head Ox (n:=(ns.length:Int)) (by lia) (by lia) (o0:=none) (tl:=[some (.ref l),some (.int (ns.length:Int))]) rfl (λi v H=>Is K H v (N ((dC a' b' ns xs).getD i 0))) ?_ ?_
 . rintro D i ys o H2 hi inv
   have hi':i<ns.length:=by simpa using hi
   have i2:=i1.by inv.same;have hn0:(0:Int)<(ns.length:Int):=by lia
   o_head U3 i2 (by lia) (by rw[pP];lia) (λv3 i3=>?_);rw[show((i:Int)+1).toNat=i+1 by lia,zO (by lia)]at i3;k_few;have e:((i:Int)+1) % (ns.length:Int)=(((i+1) % ns.length:Nat):Int):=by push_cast;rfl
   have hm:(i+1) % ns.length<ns.length:=X6 _ (by lia);rw[e];refine gu i3 (by lia) (by rw[du,wQ];simp;lia) (λv4 i4=>?_);rw[wD,<- mY hi']at i4;exact d7 inv (by lia) eA ⟨_,rfl⟩ (ah.refl _) i4
 . rintro D ys H2 hn S2 e2 hl2 hr2
   o_head gE (b_ e2 (eO (by rw[hl2,eT];simp) hr2)) (λw H3 S3 i3=>?_);exact q w H3 (S1.trans (S2.trans S3)) i3
theorem nV{bs:List Bool}{zs:List V}(hl:zs.length=bs.length)(h:∀j z,zs[j]? = some z->z=V.bl (bs.getD j true)):zs=bs.map V.bl:=by
 refine Vd (by rw[wm];exact hl) λi h1 h2=>?_
 rw[h i _ (wc h1),Ve,wb,wc (by lia)]
 rfl
def cC(xs:List Rat):List Rat:=[1]++xs++[0]
theorem mJ(xs:List Rat):(cC xs).length=xs.length+2:=by simp[cC]
def lz(xs:List Rat):List Bool:=(wo (xs.length+1)).map λi=>decide ((cC xs).getD (i+1) 0<(cC xs).getD i 0)
def kj(ts:List Rat):List Bool:=ts.map λx=>decide (x<1)
def dW(a b:Rat)(ns:List Int)(xs:List Rat):Bool:=(lz xs).all id&&(kj (dC a b ns xs)).all id
theorem zu8(h:i<xs.length+1):(lz xs).getD i true=decide ((cC xs).getD (i+1) 0<(cC xs).getD i 0):=by
 unfold lz;rw[wb,wu,vH h]
 rfl
theorem Zw{ts:List Rat}(h:i<ts.length):(kj ts).getD i true=decide (ts.getD i 0<1):=by
 unfold kj;rw[wb,wu,wb,wc h]
 rfl
theorem yG(h:Cm m xs)(i:Nat):ag m ((cC xs).getD i 0):=by
 unfold cC;rcases Nat.eq_zero_or_pos i with rfl | hi
 ·exact ag.one.mono h.pos
 ·obtain⟨j,rfl⟩:∃j,i=j+1:=⟨i-1,by lia⟩
  exact h.snoc.get j
theorem yc{a:Rat}(ok:cT a b ns xs)(hi:i<ns.length):ag 8000 ((dC a b ns xs).getD i 0):=by
 rw[mY hi];obtain⟨m,hm,hm2⟩:=ok.row (k:=i+1) (by lia);exact(hm.get _).mono hm2
def Oz(K:wa):Sp:=λvs H Q _=>∃x0 x1 x2,vs=[x0,x1,x2] /\ ∃(a b:Rat)(ns:List Int)(xs:List Rat),Is K H x0 (R a b)/\Is K H x1 (TZ ns)/\Is K H x2 (TN xs)/\cT a b ns xs /\ ∀H',ah H H'->Q (.bl (dW a b ns xs)) H'
theorem Cp{a:Rat}{w:V}(h1:Is K H v (R a b))(h2:Is K H w (TZ ns))(h3:Is K H u (TN xs))(ok:cT a b ns xs)(q:∀H',ah H H'->Q (.bl (dW a b ns xs)) H'):Oz K [v,w,u] H Q E:=⟨_,_,_,rfl,a,b,ns,xs,h1,h2,h3,ok,q⟩
theorem FH(T:Txt K mg a):aK P w K mg base aR 7 a.J5 a.Iy yt (Oz K):=by
 refine T.sQ.F.ok Rv ?_ ?_;wtm_at "b3"
 refine⟨_,(ao (az 3 Rv.nd (aD cB (aD cB (cJ (ae (bW (v:=.ref a.d9) rfl T.fh rfl) af)) (di (show aE _ (.type "list") (fQ K)from jU) rfl T.h0Q g_ (ae (pv 2) af))) (cJ (ae (bW (v:=.ref a.dF) rfl T.d8 rfl) af))))
     (ao (bL (dy (cA (bA (show aE _ (.builtin "all") (oz K)from zX rfl) rfl T.h0X z9 (ae (dR rfl (cv.by (N':=["upper","lower"]) (src:=[none,none]) rfl (by kernel_rfl)) (FO rfl T.h0Z (ae (pv 3) (ae (oO n_ (pv 3) (m7 ay) m6) af))) (λ_ _ _ _ _=>by exact(show PG _ _ (kW K 2 _)from j_ (n:=2) rfl (fb (aZ (i:=0) (of_decide_eq_true (by kernel_rfl)) rfl (Or.inl rfl)) (fb (aZ (i:=1) (of_decide_eq_true (by kernel_rfl)) rfl (Or.inl rfl)) j7)))) (λ_ _ _ _ _=>dH) (λ_ _ _ _ _=>(ar (gY (K:=K) (mg:=mg) (a:=a) T) hr T.f_ (ae (pv 1) (ae (pv 0) af))))) af)))) (av (aB hZ)) bN)
     (av (aB (bA (show aE _ (.builtin "all") (oz K)from zX rfl) rfl T.h0X z9 (ae (dR rfl (cv.by (N':=["top"]) (src:=[none]) rfl (by kernel_rfl)) (kb (ar (TK T) hr T.Bb (ae (pv 0) (ae (pv 1) (ae (pv 2) af))))) (λ_ _ _ _ _=>(aZ (i:=0) (of_decide_eq_true (by kernel_rfl)) rfl (Or.inl rfl))) (λ_ _ _ _ _=>dH) (λ_ _ _ _ _=>(ar (gY (K:=K) (mg:=mg) (a:=a) T) hr T.f_ (ae (pv 0) (ae (bW (v:=.ref a.d9) rfl T.fh rfl) af))))) af)))))),?_⟩
 wtm_at "cl";rw[show start TU [x0,x1,x2]=[some x0,some x1,some x2,none]from rfl];obtain⟨a',b',ns,xs,hr',hn',hp',ok,q⟩:=h;have hlen:=ok.len;have hfew:=ok.cg;obtain⟨m,hcm,hcm2⟩:=ok.cm;o_head de (by simp) (λl0 H1 n1 S1 e1=>?_);o_head rh (hp'.by S1) (λl1 H2 us n2 S2 e2 t2=>?_);have hul:=t2.length;rw[wm]at hul;refine jH (S2 _ _ e1) e2 (WB (gj (by simp;lia))) (λl2 H3 n3 S3 e3=>?_);o_head de (by simp) (λl3 H4 n4 S4 e4=>?_);refine jH (S4 _ _ e3) e4 (WB (gj (by simp;lia))) (λl5 H5 n5 S5 e5=>?_);have T5:ah H H5:=S1.trans (S2.trans (S3.trans (S4.trans S5)))
 have t5:aj K H5 ([V.ref a.d9]++us++[V.ref a.dF]) ((cC xs).map N):=by
   unfold cC;rw[w6,w6];exact(aj.append (.cons (d_ 1 (T.s_ _) rfl rfl) .nil) (aj.same (S3.trans (S4.trans S5)) _ _ t2)).append (.cons (d_ 0 (T.e_ _) rfl rfl) .nil)
 have ir5:=hr'.by T5;have in5:=hn'.by T5;have ip5:=hp'.by T5;clear n1 n2 n3 n4 n5 S1 S2 S3 S4 S5 e1 e2 e3 e4 t2 hr' hn' hp';generalize [V.ref a.d9]++us++[V.ref a.dF]=ws at e5 t5;have hws:=t5.length;rw[wm,mJ]at hws;o_head pZ (b_ e5 t5) (λl6 H6 ys n6 S6 e6 t6=>?_);rw[show(1:Int)=((1:Nat):Int)from rfl,zyA _ _ (by rw[wm,mJ];lia),<- uz]at t6;have hys:=t6.length;rw[wm,vZ,mJ]at hys;have e56:=S6 _ _ e5;have t56:=aj.same S6 _ _ t5;have T6:=T5.trans S6;have ir6:=ir5.by S6;have in6:=in5.by S6;have ip6:=ip5.by S6;clear ir5 in5 ip5 T5 S6 e5 t5 n6;o_head zxV (t:=false) (u:=false) (aG.of e56) (aG.of e6) (by lia) (o0:=none) (o0':=none) (tl:=[]) rfl (λi v H=>v=V.bl ((lz xs).getD i true)) (λ_ _ _ _ _ h=>h) ?_ ?_
 . rintro D i x y zs o1 o2 H7 c hx hy inv e7
   obtain⟨hi,ix⟩:=cq t56 hx;obtain⟨hj,iy⟩:=cq t6 hy;rw[vZ,mJ]at hj
   have ed:((cC xs).drop 1).getD i 0=(cC xs).getD (i+1) 0:=by
     rw[wb,xZ,wb,Nat.add_comm]
   rw[ed]at iy;have S7:=inv.2.2.1;have b1:ag 8000 ((cC xs).getD i 0):=(yG hcm i).mono (by lia);have b2:ag 8000 ((cC xs).getD (i+1) 0):=(yG hcm (i+1)).mono (by lia);refine Mt (ly (.of e7) rfl ?_);have ix7:=ix.by S7;have iy7:=iy.by S7;k_few;exact pS inv (by lia) (λ_ _ _ _ _ h=>h) ⟨_,_,rfl⟩ (ah.refl _) (by rw[zu8 (by lia)])
 . rintro D zs H7 hn S7 e7 hl7 hr7
   have hz:=nV (bs:=lz xs) (by unfold lz;rw[wm,vi];lia) hr7;rw[hz]at e7;o_head p_ (.of e7) ?_;k_few
   . rename_i z
     have ef:dW a' b' ns xs=false:=by unfold dW;rw[z];rfl
     rw[<- ef];exact q _ (T6.trans S7)
   . rename_i z
     have ef:dW a' b' ns xs=(kj (dC a' b' ns xs)).all id:=by unfold dW;rw[z];rfl
     rw[ef]at q;refine LY (ir6.by S7) (in6.by S7) (ip6.by S7) ok (λv8 H8 S8 i8=>?_);have T8:=T6.trans (S7.trans S8);obtain⟨a8,us8,rfl,hs8,t8⟩:=bZ.mp i8;have hl8:=t8.length;rw[wm,eT]at hl8;refine jz hs8 (o0:=none) (tl:=[]) rfl (λi v H=>v=V.bl ((kj (dC a' b' ns xs)).getD i true)) ?_ ?_
     . rintro D i x ys' o H9 hx inv
       obtain⟨hi,ix⟩:=cq t8 hx;rw[eT]at hi;have ix9:=ix.by inv.same;have b1:ag 8000 ((dC a' b' ns xs).getD i 0):=yc ok hi;have b2:ag 8000 1:=ag.one.mono (by decide);k_few;exact d7 inv (by lia) (λ_ _ _ _ _ h=>h) ⟨_,rfl⟩ (ah.refl _) (by rw[Zw (by rw[eT];exact hi)])
     . rintro D ys' H9 hn9 S9 e9 hl9 hr9
       have hz':=nV (bs:=kj (dC a' b' ns xs)) (by unfold kj;rw[wm,eT];lia) hr9;rw[hz']at e9;o_head p_ (.of e9) ?_;exact q _ (T8.trans S9)
def cE(n:Nat):List Rat:=vn n 0
theorem Rn(n i:Nat):(cE n).getD i 0=0:=by
 unfold cE;rw[wb,QT]
 split<;>rfl
theorem oF(n:Nat):Cm 1 (cE n):=by
 refine⟨1,by decide,⟨by decide⟩,λx hx=>⟨0,?_,⟨by decide⟩⟩⟩;rw[List.eq_of_mem_replicate hx]
 rfl
def RV(K:wa):Sp:=λvs H Q _=>∃x0 x1,vs=[x0,x1] /\ ∃(a b:Rat)(ns:List Int),Is K H x0 (R a b)/\Is K H x1 (TZ ns)/\cT a b ns (cE (ns.length-1))/\0<=ns.sum/\ns.sum<=64 /\ ∀v H',ah H H'->Is K H' v (.tuple [N (a^ns.sum.toNat),TN (cO a b ns (cE (ns.length-1)))])->Q v H'
theorem q_{a:Rat}{w:V}(h1:Is K H v (R a b))(h2:Is K H w (TZ ns))(ok:cT a b ns (cE (ns.length-1)))(h0:0<=ns.sum)(h64:ns.sum<=64)(q:∀v H',ah H H'->Is K H' v (.tuple [N (a^ns.sum.toNat),TN (cO a b ns (cE (ns.length-1)))])->Q v H'):RV K [v,w] H Q E:=⟨_,_,rfl,a,b,ns,h1,h2,ok,h0,h64,q⟩
theorem sH(T:Txt K mg a):aK P w K mg base aR 7 a.Ja a.Hz u9 (RV K):=by
 refine T.mM.F.ok Bx ?_ ?_;wtm_at "b2"
 refine⟨_,(ao (az 2 Bx.nd (au (ar (u_ T) hr T.oW (ae (pv 0) (ae (bA (show aE _ (.builtin "sum") (BM K)from zxs rfl) rfl T.h0V EY (ae (pv 1) af)) af)))))
     (ao (az 3 Bx.nd (di (show aE _ (.type "tuple") (dQ K)from eZ) rfl T.h0N dY (ae (dR rfl (cv.by (N':=["size"]) (src:=[none]) rfl (by kernel_rfl)) (kb (oO n_ (pv 1) (m7 ay) m6)) (λ_ _ _ _ _=>(aZ (i:=0) (of_decide_eq_true (by kernel_rfl)) rfl (Or.inl rfl))) (λ_ _ _ _ _=>dH) (λ_ _ _ _ _=>(bW (v:=.ref a.dF) rfl T.d8 rfl))) af)))
     (av (aB (aW (ae (pv 2) (ae (ar (L_ T) hr T.AR (ae (pv 0) (ae (pv 1) (ae (pv 3) af)))) af))))))),?_⟩
 wtm_at "cl";rw[show start Oy [x0,x1]=[some x0,some x1,none,none]from rfl];obtain⟨a',b',ns,hr',hn',ok,h0,h64,q⟩:=h;have hlen:=ok.len;have hfew:=ok.cg;o_head zzG hn' ?_;o_head Bm hr' ok.ba ok.bb h0 h64 (λv1 H1 S1 i1=>?_);k_few;rename_i v2 i2;have hn1:Is K H1 x1 (.tuple (ns.map PyData.int)):=hn'.by S1;refine zAK hn1 ?_ (λv3 H3 S3 i3=>?_)
 . rintro ⟨e,_⟩
   have e':min 1 (ns.map PyData.int).length=0:=e;rw[wm]at e';lia
 rw[zwy]at i3;obtain⟨a3,vs3,rfl,hs3,t3⟩:=bZ.mp i3;have hl3:=t3.length;rw[XO,wm]at hl3;have hzl:(cE (ns.length-1)).length=ns.length-1:=WC ..;o_head jz hs3 (o0:=none) (tl:=[]) rfl (λi v H=>Is K H v (N ((cE (ns.length-1)).getD i 0))) ?_ ?_
 . rintro D i x ys o H4 hx inv
   have hi:i<vs3.length:=by
     rcases wG i vs3.length with z | z
     . exact z
     . rw[wL z]at hx;cases hx
   k_few;exact d7 inv (by lia) eA ⟨_,rfl⟩ (ah.refl _) (by rw[Rn];exact d_ 0 (T.e_ _) rfl rfl)
 . rintro D ys H4 hn4 S4 e4 hl4 hr4
   o_head gE (b_ (xs:=cE (ns.length-1)) e4 (eO (by lia) hr4)) (λv5 H5 S5 i5=>?_);have T5:ah H1 H5:=S3.trans (S4.trans S5);o_head OY ((hr'.by S1).by T5) ((hn'.by S1).by T5) i5 ok (λv6 H6 S6 i6=>?_);k_few;exact cR (by simp) (.cons (i2.by (T5.trans S6)) (.cons i6 .nil)) (λv H' S h=>q v H' (S1.trans (T5.trans (S6.trans S))) h)
def cc(a b:Rat)(ns:List Int):List Rat:=(cO a b ns (cE (ns.length-1))).map (λs=>s / (1-a^ns.sum.toNat))
theorem nH{a:Rat}(h:ns.length=xs.length+1):(cO a b ns xs).length=xs.length:=by
 unfold cO;rw[xE,du];simp
theorem DH{a:Rat}(h:ns.length=xs.length+1)(hi:i<xs.length):(cO a b ns xs).getD i 0=(aN a b ns (xs++[0]) ns.length).getD i 0:=by
 unfold cO;have hl:(aN a b ns (xs++[0]) ns.length).length=xs.length+1:=by rw[du];simp
 rw[wb,wb,List.getElem?_dropLast,if_pos (by lia)]
theorem Ci(h:i<xs.length):(xs++[0]).getD i 0=xs.getD i 0:=by
 rw[wb,wb,Ww h]
theorem pA : (xs++[0]).getD xs.length 0=0:=by
 rw[wb,Wh (wp _),V3]
 rfl
theorem Rk:∀{ns:List Int},(∀n∈ns,0<=n)->((ns.map Q3).sum:Int)=ns.sum
 | [],_=>rfl
 | n::ns,h=>by
  have h1:=Rk (ns:=ns) λm hm=>h m (wB _ hm)
  have h2:=h n (wJ ..);rw[ve,W6,W6];lia
theorem Ny(h:∀n∈ns,0<=n):upTo ns ns.length=ns.sum.toNat:=by
 have:=Rk h;unfold GM.upTo;rw[Wb];lia
theorem zpe{a:Rat}(h:ns.length=xs.length+1)(hn:∀n∈ns,0<=n)(hi:i<xs.length):(cO a b ns xs).getD i 0=a^ns.sum.toNat*xs.getD i 0+(cO a b ns (cE (ns.length-1))).getD i 0:=by
 have hz:(cE (ns.length-1)).length=xs.length:=by unfold cE;rw[WC];lia
 have hu:=Ny hn;rw[DH h hi,DH (by lia) (by lia)];have hr:=F7 a b ns (xs++[0]) (cE (ns.length-1)++[0]) (by simp[hz]) (by simp[h]) xs.length (by simp) (by rw[pA];rw[<- hz,pA]) ns.length (wp _) i (by simp;lia);rw[if_neg (by lia),show ns.length-1=xs.length by lia]at hr;rw[show ns.length-1=xs.length by lia]at hz ⊢;rw[pA,Ci hi,Ci (by lia),Rn,hu]at hr
 have hl0:(cE xs.length++[0]).getD xs.length 0=0:=by
  have:=pA (xs:=cE xs.length);rw[hz]at this;exact this
 rw[hl0]at hr
 grind
theorem lO{a:Rat}(h:1<=ns.length):(cc a b ns).length=ns.length-1:=by
 unfold cc;rw[wm,nH (by unfold cE;rw[WC];lia)];unfold cE;rw[WC]
theorem UK{a:Rat}(h:i<(cc a b ns).length):(cc a b ns).getD i 0=(cO a b ns (cE (ns.length-1))).getD i 0 / (1-a^ns.sum.toNat):=by
 unfold cc at *;rw[wm]at h;rw[wb,wu,wb,wc h];rfl
theorem PX{g:Rat}(h:Cm m xs)(bg:ag n g)(hg:g≠0):Cm (m+n) (xs.map (λs=>s / g)):=by
 obtain⟨B,h0,bB,hx⟩:=h;have hgn:=zG hg
 have key:∀(t:Int),wx t B / g=wx (t*(g.den:Int)) (B*g.num):=by
  intro t
  conv=>lhs;rw[<- Vn g]
  rw[xc,Rat.inv_divInt,xr]
 rcases Int.lt_or_gt_of_ne hgn with z | z
 ·refine⟨B * -g.num,vU h0 (by lia),bB.mul bg.t.neg,λx hxm=>?_⟩
  obtain⟨s,hs,rfl⟩:=wV.mp hxm;obtain⟨t,rfl,bt⟩:=hx s hs;refine⟨-(t*(g.den:Int)),?_,(bt.mul bg.b).neg⟩
  show wx t B / g=_
  rw[key t,Xy,Rat.divInt_neg',Int.neg_neg]
 ·refine⟨B*g.num,vU h0 (by lia),bB.mul bg.t,λx hxm=>?_⟩
  obtain⟨s,hs,rfl⟩:=wV.mp hxm;obtain⟨t,rfl,bt⟩:=hx s hs;exact⟨t*(g.den:Int),key t,bt.mul bg.b⟩
theorem EL{a:Rat}(ba:ag 10 a)(bb:ag 10 b)(hm:Cm m xs):Cm (m+2*ns.length+21*upTo ns ns.length) (cO a b ns xs):=by
 obtain⟨B,h0,h1,h2⟩:=(hm.snoc).rows ba bb (ns:=ns) ns.length (wp _);exact⟨B,h0,h1,λx hx=>h2 x (List.dropLast_subset _ hx)⟩
theorem ES{a:Rat}(ba:ag 10 a)(bb:ag 10 b)(h8:ns.length<=8)(hu:upTo ns ns.length<=8)(hs:ns.sum.toNat<=8)(hF:a^ns.sum.toNat≠1):Cm 268 (cc a b ns):=by
 have bF:ag 81 (a^ns.sum.toNat):=(ba.pow ns.sum.toNat).mono (by lia);have bg:ag 83 (1-a^ns.sum.toNat):=(ag.one.sub bF).mono (by decide);have hg:1-a^ns.sum.toNat≠0:=λe=>hF (by grind)
 exact(PX (EL (ns:=ns) ba bb (oF (ns.length-1))) bg hg).mono (by lia)
theorem zrJ{a:Rat}(ok:cT a b ns (cE (ns.length-1)))(h8:ns.sum<=8)(i:Nat):ag 400 ((cO a b ns (cE (ns.length-1))).getD i 0):=((EL ok.ba ok.bb (oF _)).get i).mono (by
 have h1:=Ny (λn hn=>(ok.n0 n hn).1);have h2:=ok.cg;lia)
def UG(K:wa):Sp:=λvs H Q _=>∃x0 x1,vs=[x0,x1] /\ ∃(a b:Rat)(ns:List Int),Is K H x0 (R a b)/\Is K H x1 (TZ ns)/\cT a b ns (cE (ns.length-1))/\0<=ns.sum/\ns.sum<=8/\(a^ns.sum.toNat=1->∀H',ah H H'->Q .bY H')/\(a^ns.sum.toNat≠1->∀v H',ah H H'->Is K H' v (TN (cc a b ns))->Q v H')
theorem U8{a:Rat}{w:V}(h1:Is K H v (R a b))(h2:Is K H w (TZ ns))(ok:cT a b ns (cE (ns.length-1)))(h0:0<=ns.sum)(h8:ns.sum<=8)(q1:a^ns.sum.toNat=1->∀H',ah H H'->Q .bY H')(q2:a^ns.sum.toNat≠1->∀v H',ah H H'->Is K H' v (TN (cc a b ns))->Q v H'):UG K [v,w] H Q E:=⟨_,_,rfl,a,b,ns,h1,h2,ok,h0,h8,q1,q2⟩
theorem ME(T:Txt K mg a):aK P w K mg base aR 8 a.Kf a.JF yo (UG K):=by
 refine T.A9.F.ok CO ?_ ?_;wtm_at "b2"
 refine⟨_,(ao (az 2 CO.nd (ar (sH T) hr T.mM (ae (pv 0) (ae (pv 1) af))))
     (ao (bL (bD (show aH _ (wH .Eq) (cn K)from cV hu) (au (pv 2)) (bW (v:=.ref a.d9) rfl T.fh rfl) (aU _)) (av (aB fS)) bN)
     (ao (az 3 CO.nd (ar (zW T) hr T.o_ (ae (bW (v:=.ref a.d9) rfl T.fh rfl) (ae (au (pv 2)) af))))
     (av (aB (di (show aE _ (.type "tuple") (dQ K)from eZ) rfl T.h0N dY (ae (dR rfl (cv.by (N':=["shift","gap"]) (src:=[none,some 3]) rfl (by kernel_rfl)) (kb (au (pv 2))) (λ_ _ _ _ _=>(aZ (i:=0) (of_decide_eq_true (by kernel_rfl)) rfl (Or.inl rfl))) (λ_ _ _ _ _=>dH) (λ_ _ _ _ _=>(ar (Si (K:=K) (mg:=mg) (a:=a) T) hr T.Bc (ae (pv 0) (ae (pv 1) af))))) af))))))),?_⟩
 wtm_at "cl";rw[show start Sb [x0,x1]=[some x0,some x1,none,none]from rfl];obtain⟨ra,rb,ns,hr',hn',ok,h0,h8,q1,q2⟩:=h;have bF:ag 100 (ra^ns.sum.toNat):=(ok.ba.pow ns.sum.toNat).mono (by lia);o_head q_ hr' hn' ok h0 (by lia) (λv1 H1 S1 i1=>?_);o_head aF (j:=0) i1 rfl (λv2 i2=>?_);k_few
 . rename_i z
   exact q1 z H1 S1
 . rename_i z
   refine aF (j:=0) i1 rfl (λv3 i3=>?_);k_few;rename_i v4 H4 S4 i4;have hg:(1-ra^ns.sum.toNat)≠0:=λe=>z (by grind)
   have bg:ag 102 (1-ra^ns.sum.toNat):=(ag.one.sub bF).mono (by decide);refine aF (j:=1) (i1.by S4) rfl (λv5 i5=>?_);obtain⟨ap,us,rfl,hu,tu⟩:=bZ.mp i5;refine jz (o0:=none) (tl:=[some v4]) hu rfl (λj y H'=>Is K H' y (N ((cc ra rb ns).getD j 0))) ?_ ?_
   . intro D i x ys o H5 hx inv
     obtain⟨hi,ix⟩:=cq tu hx;have ix5:=ix.by inv.same;have i45:=i4.by inv.same
     have hi1000:i<=1000:=by
       have h1:=ok.len;have h2:=ok.cg;have h3:=nH (a:=ra) (b:=rb) (show ns.length=(cE (ns.length-1)).length+1 from ok.len);lia
     o_head TQ ix5 i45 ((zrJ ok h8 i).mono (by decide)) (bg.mono (by decide)) hg (λv6 H6 S6 i6=>?_);k_few
     have e:(cc ra rb ns).getD i 0=(cO ra rb ns (cE (ns.length-1))).getD i 0 / (1-ra^ns.sum.toNat):=by
       unfold cc;rw[wb,wu,wb,wc hi];rfl
     exact d7 inv hi1000 eA ⟨_,rfl⟩ S6 (by rw[e];exact i6)
   . intro D ys H5 hn S5 hD hl hr5
     have hl':ys.length=(cc ra rb ns).length:=by
       unfold cc;rw[hl,tu.length,wm,wm]
     refine gE (b_ hD (eO hl' hr5)) (λw H6 S6 i6=>?_);k_few;exact q2 z w H6 (S1.trans (S4.trans (S5.trans S6))) i6
def fU(p q:Rat)(xs ss:List Rat):List Rat:=(wo xs.length).map λi=>p*xs.getD i 0+q*ss.getD i 0
theorem oB(p q:Rat)(xs ss:List Rat):(fU p q xs ss).length=xs.length:=by unfold fU;rw[wm,vi]
theorem P9{p q:Rat}(h:i<xs.length):(fU p q xs ss).getD i 0=p*xs.getD i 0+q*ss.getD i 0:=by
 unfold fU;rw[wb,wu,vH h];rfl
def UZ(K:wa):Sp:=λvs H Q _=>∃x0 x1 x2 x3,vs=[x0,x1,x2,x3] /\ ∃(d:wC)(p q:Rat)(xs ss:List Rat),Is K H x0 (.tuple [d,TN ss])/\Is K H x1 (TN xs)/\Is K H x2 (N p)/\Is K H x3 (N q)/\ss.length=xs.length/\xs.length<=50/\ag 2000 p/\ag 2000 q/\(∀i,ag 6900 (xs.getD i 0))/\(∀i,ag 6900 (ss.getD i 0)) /\ ∀v H',ah H H'->Is K H' v (TN (fU p q xs ss))->Q v H'
theorem Mq{p q':Rat}{w z:V}(h0:Is K H v (.tuple [d,TN ss]))(h1:Is K H w (TN xs))(h2:Is K H u (N p))(h3:Is K H z (N q'))(hl:ss.length=xs.length)(hf:xs.length<=50)(b1:ag 2000 p)(b2:ag 2000 q')(b3:∀i,ag 6900 (xs.getD i 0))(b4:∀i,ag 6900 (ss.getD i 0))(q:∀v H',ah H H'->Is K H' v (TN (fU p q' xs ss))->Q v H'):UZ K [v,w,u,z] H Q E:=⟨_,_,_,_,rfl,d,p,q',xs,ss,h0,h1,h2,h3,hl,hf,b1,b2,b3,b4,q⟩
theorem PH(T:Txt K mg a):aK P w K mg base aR 3 a.JN a.II yQ (UZ K):=by
 refine T.A6.F.ok zuk ?_ ?_;wtm_at "b4";refine⟨_,(av (aB (di (show aE _ (.type "tuple") (dQ K)from eZ) rfl T.h0N dY (ae (dR rfl (cv.by (N':=["place","shift","of_place","of_shift"]) (src:=[none,none,some 2,some 3]) rfl (by kernel_rfl)) (zz3 rfl T.h0Z (ae (pv 1) (ae (au (pv 0)) af))) (λ_ _ _ _ _=>by exact(show PG _ _ (kW K 2 _)from j_ (n:=2) rfl (fb (aZ (i:=0) (of_decide_eq_true (by kernel_rfl)) rfl (Or.inl rfl)) (fb (aZ (i:=1) (of_decide_eq_true (by kernel_rfl)) rfl (Or.inl rfl)) j7)))) (λ_ _ _ _ _=>dH) (λ_ _ _ _ _=>(ar (gM (K:=K) (mg:=mg) (a:=a) T) hr T.gc (ae (ar (kO (K:=K) (mg:=mg) (a:=a) T) hr T.j4 (ae (pv 2) (ae (pv 0) af))) (ae (ar (kO (K:=K) (mg:=mg) (a:=a) T) hr T.j4 (ae (pv 3) (ae (pv 1) af))) af))))) af)))),?_⟩;wtm_at "cl";rw[show start CC [x0,x1,x2,x3]=[some x0,some x1,some x2,some x3]from rfl];obtain⟨d,p,q',xs,ss,h0,h1,h2,h3,hl,hf,b1,b2,b3,b4,q⟩:=h;obtain⟨a1,us,rfl,hs1,t1⟩:=bZ.mp h1;o_head aF (j:=1) h0 rfl (λv5 i5=>?_);obtain⟨a2,ws,rfl,hs2,t2⟩:=bZ.mp i5;have l1:=t1.length;have l2:=t2.length;rw[wm]at l1 l2;o_head M9 (t:=true) (u:=true) hs1 hs2 (by lia) (o0:=none) (o0':=none) (tl:=[some x2,some x3]) rfl (λj y H'=>Is K H' y (N ((fU p q' xs ss).getD j 0))) eA ?_ ?_
 ·intro D j y z zs o1 o2 H7 c hy hz inv hc
  obtain⟨hj,iy⟩:=cq t1 hy;obtain⟨_,iz⟩:=cq t2 hz;have S7:=inv.2.2.1;have iy7:=iy.by S7;have iz7:=iz.by S7;have ip7:=h2.by S7;have iq7:=h3.by S7;have c1:=b3 j;have c2:=b4 j;have m1:ag 8999 (p*xs.getD j 0):=(b1.mul c1).mono (by decide);have m2:ag 8999 (q'*ss.getD j 0):=(b2.mul c2).mono (by decide);refine ly (.of hc) rfl ?_;k_few;rename_i v8 H8 S8 i8 v9 H9 S9 i9 v10 H10 S10 i10;rw[<- P9 hj]at i10;exact pS inv (by lia) eA ⟨_,_,rfl⟩ (S8.trans (S9.trans S10)) i10
 ·intro D zs H7 hn S7 hD hl7 hr7
  have tz:aj K H7 zs ((fU p q' xs ss).map N):=eO (by rw[hl7,oB];lia) hr7;o_head gE (b_ hD tz) (λv8 H8 S8 i8=>?_);exact q v8 H8 (S7.trans S8) i8
structure cS(ns:List Int):Prop where
 some:1<=ns.length
 cg:ns.length<=8
 each:∀n∈ns,1<=n/\n<=8
 sum:ns.sum<=8
theorem Ax:∀{ns:List Int},(∀n∈ns,0<=n)->((ns.map Q3).sum:Int)=ns.sum
 | [],_=>rfl
 | n::ns,h=>by
  have h1:=Ax (ns:=ns) λm hm=>h m (wB _ hm)
  have h2:=h n (wJ ..);rw[ve,W6,W6];lia
theorem cS.upTo(h:cS ns):upTo ns ns.length<=8:=by
 have h1:=Ax (ns:=ns) λn hn=>by have:=h.each n hn;lia
 have h2:=h.sum;unfold GM.upTo;rw[Wb];lia
def ck(a b:Rat)(ns:List Int):List Rat:=cO a b ns (cE (ns.length-1))
def cf(a b:Rat)(ns:List Int)(n:Nat)(xs:List Rat):List Rat:=(wo xs.length).map λi=>ff (a^ns.sum.toNat) ((ck a b ns).getD i 0) n (xs.getD i 0)
theorem pN(n:Nat):(cE n).length=n:=WC ..
theorem kP{a:Rat}(h:1<=ns.length):(ck a b ns).length=ns.length-1:=by
 unfold ck;rw[nH (by rw[pN];lia),pN]
theorem df(a b:Rat)(ns:List Int)(n:Nat)(xs:List Rat):(cf a b ns n xs).length=xs.length:=by unfold cf;rw[wm,vi]
theorem iJ{a:Rat}(h:i<xs.length):(cf a b ns n xs).getD i 0=ff (a^ns.sum.toNat) ((ck a b ns).getD i 0) n (xs.getD i 0):=by
 unfold cf;rw[wb,wu,vH h];rfl
theorem r_{ys:List Rat}(hl:xs.length=ys.length)(h:∀i,i<xs.length->xs.getD i 0=ys.getD i 0):xs=ys:=Vd hl λi h1 h2=>by
 have:=h i h1;rw[wb,wb,wc h1,wc h2]at this;exact this
theorem p6(a b:Rat)(ns:List Int)(xs:List Rat):cf a b ns 0 xs=xs:=r_ (df ..) λi hi=>by
 rw[df]at hi;rw[iJ hi,Zz]
theorem Rl(a b:Rat)(ns:List Int)(m n:Nat)(xs:List Rat):cf a b ns n (cf a b ns m xs)=cf a b ns (m+n) xs:=r_ (by rw[df,df,df]) λi hi=>by
 rw[df,df]at hi;rw[iJ (by rw[df];exact hi),iJ hi,iJ hi,zzx]
theorem yr{a:Rat}(h:ns.length=xs.length+1)(hn:∀n∈ns,0<=n):cf a b ns 1 xs=cO a b ns xs:=r_ (by rw[df,nH h]) λi hi=>by
 rw[df]at hi;rw[iJ hi,FG,zpe h hn hi]
 rfl
structure d6(a b:Rat)(ns:List Int)(n:Nat):Prop where
 ok:aS a b
 sz:cS ns
 cg:n<=60
 k:(6*ns.sum.toNat+1+1)*n<=1600
theorem EI{a:Rat}(h:aS a b):ag 6 a:=by
 have h1:=h.a0;have h2:=h.a4;have h3:=h.ad;have n0:0<=a.num:=qF.mpr (Wg h1)
 have n1:a.num<=4*a.den:=by
  have:=(xA a 4).mp h2
  simpa using this
 have e:(2:Nat)^6=64:=by decide
 exact⟨⟨by rw[e];lia⟩,⟨by rw[e];lia⟩⟩
theorem iT{a:Rat}(h:aS a b)(S:Nat):ag (6*S+1) (a^S):=(EI h).pow S
theorem d6.le{a:Rat}(h:d6 a b ns n)(e:m<=n):d6 a b ns m:=⟨h.ok,h.sz,Wl e h.cg,Wl (Qd _ e) h.k⟩
theorem d6.pow{a:Rat}(h:d6 a b ns n)(hi:i<=n):ag 1601 ((a^ns.sum.toNat)^i):=((iT h.ok _).pow i).mono (by
 have h1:=(h.le hi).k;have h2:=Wf i (show 6*ns.sum.toNat+1<=6*ns.sum.toNat+1+1 by lia);lia)
theorem d6.aC{a:Rat}(h:d6 a b ns n)(hi:i<=n):ag 1601 (aC (a^ns.sum.toNat) 1 i):=(Nv (iT h.ok _) i).mono (by have:=(h.le hi).k;lia)
theorem nh{a:Rat}(h:aS a b)(k:cS ns):cT a b ns (cE (ns.length-1)):=⟨h.ba,h.bb,λn hn=>by have:=k.each n hn;lia,by rw[pN];have:=k.some;lia,by have:=k.cg;lia,⟨1,oF _,by have:=k.cg;have:=k.upTo;lia⟩⟩
theorem Co{a:Rat}(h:aS a b)(k:cS ns):Cm 185 (ck a b ns):=(EL (ns:=ns) h.ba h.bb (oF (ns.length-1))).mono (by have:=k.cg;have:=k.upTo;lia)
theorem sj{a:Rat}(h:aS a b)(k:cS ns)(i:Nat):ag 185 ((ck a b ns).getD i 0):=(Co h k).get i
theorem cS.nn(k:cS ns):∀n∈ns,0<=n:=λn hn=>by have:=k.each n hn;lia
theorem cS.pos(k:cS ns):1<=ns.sum/\ns.sum<=8:=by
 refine⟨?_,k.sum⟩;have h1:=Ax k.nn;have h2:=k.some
 match ns,h2,k.each with
 | n::ns,_,he =>
  have:=he n (wJ ..);rw[ve,W6]at h1;lia
theorem lB{a:Rat}(h:aS a b){S:Nat}(hS:1<=S):a^S=1 ↔ a=1:=by
 obtain⟨m,rfl⟩:∃m,S=m+1:=⟨S-1,by lia⟩
 constructor
 ·intro e
  by_cases z:a<1
  ·have:=zur h.a0 z m
   rw[e]at this;exact absurd this (by grind)
  ·by_cases y:a=1
   ·exact y
   ·have z3:1<a:=qy (Vl.mp z) (Wt y)
    have:=zuZ z3 m;rw[e]at this;exact absurd this (by grind)
 ·intro e
  rw[e,GM.one_pow']
theorem Aa{a:Rat}(hF:a^ns.sum.toNat≠1)(hi:i<(cc a b ns).length):(cc a b ns).getD i 0*(1-a^ns.sum.toNat)=(ck a b ns).getD i 0:=by
 rw[UK hi];exact WZ (λe=>hF (by grind))
theorem zAp{a:Rat}(h:aS a b)(S n:Nat):ag ((6*S+3)*n+1) ((a^S)^n):=((iT h S).pow n).mono (by have:=Wf n (show 6*S+1<=6*S+3 by lia);lia)
theorem RT{a:Rat}(h:aS a b)(S n:Nat):ag ((6*S+3)*n+1) (aC (a^S) 1 n):=(Nv (iT h S) n).mono (by have:=Wf n (show 6*S+1+1<=6*S+3 by lia);lia)
def Mv(K:wa):Sp:=λvs H Q _=>∃x0 x1 x2,vs=[x0,x1,x2] /\ ∃(F:Rat)(n:Int)(xs ss:List Rat),x2=.int n/\Is K H x0 (.tuple [N F,TN ss])/\Is K H x1 (TN xs)/\0<=n/\n<=64/\ss.length=xs.length/\xs.length<=50/\ag 2000 F/\(∀i,i<=n.toNat->ag 2000 (F^i))/\(∀i,i<=n.toNat->ag 2000 (aC F 1 i))/\(∀i,ag 6900 (xs.getD i 0))/\(∀i,ag 6900 (ss.getD i 0)) /\ ∀v H',ah H H'->Is K H' v (TN ((wo xs.length).map λi=>ff F (ss.getD i 0) n.toNat (xs.getD i 0)))->Q v H'
theorem PM{F:Rat}{n:Int}{w:V}(h0:Is K H v (.tuple [N F,TN ss]))(h1:Is K H w (TN xs))(n0:0<=n)(n1:n<=64)(hl:ss.length=xs.length)(hf:xs.length<=50)(b0:ag 2000 F)(b1:∀i,i<=n.toNat->ag 2000 (F^i))(b2:∀i,i<=n.toNat->ag 2000 (aC F 1 i))(b3:∀i,ag 6900 (xs.getD i 0))(b4:∀i,ag 6900 (ss.getD i 0))(q:∀v H',ah H H'->Is K H' v (TN ((wo xs.length).map λi=>ff F (ss.getD i 0) n.toNat (xs.getD i 0)))->Q v H'):Mv K [v,w,.int n] H Q E:=⟨_,_,_,rfl,F,n,xs,ss,rfl,h0,h1,n0,n1,hl,hf,b0,b1,b2,b3,b4,q⟩
theorem NR(T:Txt K mg a):aK P w K mg base aR 4 a.J8 a.Jl zS (Mv K):=by
 refine T.A7.F.ok Sg ?_ ?_;wtm_at "b3"
 refine⟨_,(ao (az 3 Sg.nd (ar (u_ T) hr T.oW (ae (aW (ae (au (pv 0)) (ae (bW (v:=.ref a.d9) rfl T.fh rfl) af))) (ae (pv 2) af))))
     (av (aB (ar (PH T) hr T.A6 (by exact(@ae _ _ _ _ _ (pv 0) (@ae _ _ _ _ _ (pv 1) (@ae _ _ _ _ _ (au (pv 3)) (@ae _ _ _ _ _ (au (pv 3)) af jh) jh) dA) dA)))))),?_⟩
 wtm_at "cl";rw[show start U6 [x0,x1,x2]=[some x0,some x1,some x2,none]from rfl];obtain⟨F,n,xs,ss,rfl,h0,h1,n0,n1,hl,hf,b0,b1,b2,b3,b4,q⟩:=h;o_head aF (j:=0) h0 rfl (λv1 i1=>?_);o_head Cw i1 (d_ 1 (T.s_ _) rfl rfl) (λv2 H2 S2 i2=>?_);o_head U9 i2 (b0.mono (by decide)) (ag.one.mono (by decide)) n0 n1 (λi hi=>(b1 i hi).mono (by decide)) (λi hi=>(b2 i hi).mono (by decide)) (λv3 H3 S3 i3=>?_);k_few;rename_i v4 i4 v5 i5;have T3:=S2.trans S3;refine Mq (h0.by T3) (h1.by T3) i4 i5 hl hf (b1 _ (wp _)) (b2 _ (wp _)) b3 b4 (λv6 H6 S6 i6=>?_);exact q v6 H6 (T3.trans S6) i6
def M8(K:wa):Sp:=λvs H Q _=>∃x0 x1 x2 x3,vs=[x0,x1,x2,x3] /\ ∃(ra rb:Rat)(ns:List Int)(xs:List Rat)(n:Int),x3=.int n/\Is K H x0 (R ra rb)/\Is K H x1 (TZ ns)/\Is K H x2 (TN xs)/\ns.length=xs.length+1/\0<=n/\d6 ra rb ns n.toNat/\(∀i,ag 6900 (xs.getD i 0)) /\ ∀v H',ah H H'->Is K H' v (TN (cf ra rb ns n.toNat xs))->Q v H'
theorem zlW{n:Int}{w:V}(h0:Is K H v (R ra rb))(h1:Is K H w (TZ ns))(h2:Is K H u (TN xs))(hl:ns.length=xs.length+1)(n0:0<=n)(ok:d6 ra rb ns n.toNat)(b:∀i,ag 6900 (xs.getD i 0))(q:∀v H',ah H H'->Is K H' v (TN (cf ra rb ns n.toNat xs))->Q v H'):M8 K [v,w,u,.int n] H Q E:=⟨_,_,_,_,rfl,ra,rb,ns,xs,n,rfl,h0,h1,h2,hl,n0,ok,b,q⟩
theorem zlE(T:Txt K mg a):aK P w K mg base aR 8 a.G7 a.GJ Ap (M8 K):=by
 refine T.GS.F.ok zlM ?_ ?_;wtm_at "b4";refine⟨_,(av (aB (ar (NR T) hr T.A7 (ae (ar (sH T) hr T.mM (ae (pv 0) (ae (pv 1) af))) (ae (pv 2) (ae (pv 3) af)))))),?_⟩;wtm_at "cl";rw[show start Dz [x0,x1,x2,x3]=[some x0,some x1,some x2,some x3]from rfl];obtain⟨ra,rb,ns,xs,n,rfl,hr',hn',hx',hl,n0,ok,bx,q⟩:=h;have h8:=ok.sz.cg;have hp:=ok.sz.pos;have hn60:=ok.cg;o_head q_ hr' hn' (nh ok.ok ok.sz) (by lia) (by lia) (λv1 H1 S1 i1=>?_);o_head PM (ss:=ck ra rb ns) i1 (hx'.by S1) n0 (by lia) (by rw[kP (by lia)];lia) (by lia) (by have:=ok.sz.sum;exact(iT ok.ok _).mono (by lia)) (λi hi=>(ok.pow hi).mono (by decide)) (λi hi=>(ok.aC hi).mono (by decide)) bx (λi=>(sj ok.ok ok.sz i).mono (by decide)) (λv2 H2 S2 i2=>?_);exact q v2 H2 (S1.trans S2) i2
theorem Kz{k:Nat}{F:Rat}(h:ag k F):∀i:Nat,∃U:Int,GM.sumTo (aC F 1) i=wx U ((F.den:Int)^i)/\Bd ((k+2)*i+2) U
 | 0=>⟨0,by simp[GM.sumTo],⟨by simp⟩⟩
 | i+1=>by
  obtain⟨U,e,bU⟩:=Kz h i;obtain⟨T,e2,bT,bd⟩:=u5 h i;have hd:(F.den:Int)^i≠0:=VS (gy F);have hd1:(F.den:Int)^(i+1)≠0:=VS (gy F);have ed:(F.den:Int)^(i+1)=(F.den:Int)^i*(F.den:Int):=VI ..;have h1:(k+2)*(i+1)=(k+2)*i+(k+2):=qx ..;have h2:(k+1)*i<=(k+2)*i:=Wf i (by lia);refine⟨(U+T)*(F.den:Int),?_,((bU.add bT).mul h.b).mono (by lia)⟩
  symm
  refine fG hd1 ?_;have k1:=c7 U hd;have k2:=c7 T hd;have e3:(((U+T)*(F.den:Int):Int):Rat)=((U:Rat)+(T:Rat))*((F.den:Int):Rat):=by rw[vP,qo]
  rw[GM.sumTo,e,e2,ed,vP,e3,<- k1,<- k2]
  grind
theorem Nu{F:Rat}(h:ag k F)(i:Nat):ag ((k+2)*i+2) (GM.sumTo (aC F 1) i):=by
 obtain⟨U,e,bU⟩:=Kz h i;obtain⟨T,e2,bT,bd⟩:=u5 h i;rw[e];exact ag.divInt (VS (gy F)) bU (bd.mono (by have:=Wf i (show k<=k+2 by lia);lia))
theorem d6.sums{a:Rat}(h:d6 a b ns n)(hi:i<=n):ag 1662 (GM.sumTo (GM.aC (a^ns.sum.toNat) 1) i):=(Nu (iT h.ok _) i).mono (by
 have h1:=(h.le hi).k;have h2:=(h.le hi).cg;have e:(6*ns.sum.toNat+1+2)*i=(6*ns.sum.toNat+1+1)*i+i:=by rw[<- qw]
 lia)
theorem zBe(F s x:Rat)(n:Nat):GM.sumTo (λk=>ff F s k x) n=aC F 1 n*x+GM.sumTo (aC F 1) n*s:=by
 unfold ff;rw[Og]
 have e1:GM.sumTo (λk=>F^k*x) n=aC F 1 n*x:=by
  rw[<- Ml F n,qC,<- C1];exact zw n λk _=>qC ..
 have e2:GM.sumTo (λk=>aC F 1 k*s) n=GM.sumTo (aC F 1) n*s:=by
  rw[qC (GM.sumTo (aC F 1) n) s,<- C1];exact zw n λk _=>qC ..
 rw[e1,e2]
def Nq(K:wa):Sp:=λvs H Q _=>∃x0 x1 x2,vs=[x0,x1,x2] /\ ∃(a b:Rat)(ns:List Int)(n:Int)(xs:List Rat),x2=.int n/\Is K H x0 (.tuple [N (a^ns.sum.toNat),TN (ck a b ns)])/\Is K H x1 (TN xs)/\0<=n/\d6 a b ns n.toNat/\ns.length=xs.length+1/\(∀i,ag 6900 (xs.getD i 0)) /\ ∀v H',ah H H'->Is K H' v (TN (fU (aC (a^ns.sum.toNat) 1 n.toNat) (GM.sumTo (aC (a^ns.sum.toNat) 1) n.toNat) xs (ck a b ns)))->Q v H'
theorem zkE{a:Rat}{n:Int}{w:V}(h0:Is K H v (.tuple [N (a^ns.sum.toNat),TN (ck a b ns)]))(h1:Is K H w (TN xs))(n0:0<=n)(ok:d6 a b ns n.toNat)(hl:ns.length=xs.length+1)(bx:∀i,ag 6900 (xs.getD i 0))(q:∀v H',ah H H'->Is K H' v (TN (fU (aC (a^ns.sum.toNat) 1 n.toNat) (GM.sumTo (aC (a^ns.sum.toNat) 1) n.toNat) xs (ck a b ns)))->Q v H'):Nq K [v,w,.int n] H Q E:=⟨_,_,_,rfl,a,b,ns,n,xs,rfl,h0,h1,n0,ok,hl,bx,q⟩
theorem zk5(T:Txt K mg a):aK P w K mg base aR 4 a.GX a.GC Aq (Nq K):=by
 refine T.GL.F.ok nW ?_ ?_;wtm_at "b3"
 refine⟨_,(ao (az 3 nW.nd (bW (v:=.ref a.dF) rfl T.d8 rfl))
     (ao (az 4 nW.nd (bW (v:=.ref a.dF) rfl T.d8 rfl))
     (ao (fc vg rfl (fK rfl T.h0P (ae (pv 2) af)) (aZ (i:=5) nW.nd rfl (Or.inl rfl)) (ao (az 4 nW.nd (ar (gM T) hr T.gc (ae (pv 4) (ae (pv 3) af))))
     (av (az 3 nW.nd (ar (gM T) hr T.gc (ae (ar (kO T) hr T.j4 (ae (au (pv 0)) (ae (pv 3) af))) (ae (bW (v:=.ref a.d9) rfl T.fh rfl) af)))))))
     (av (aB (ar (PH T) hr T.A6 (by exact(@ae _ _ _ _ _ (pv 0) (@ae _ _ _ _ _ (pv 1) (@ae _ _ _ _ _ (pv 3) (@ae _ _ _ _ _ (pv 4) af dA) dA) dA) dA)))))))),?_⟩
 wtm_at "cl";rw[show start Rt [x0,x1,x2]=[some x0,some x1,some x2,none,none,none]from rfl];obtain⟨ra,rb,ns,n,xs,rfl,h0,h1,n0,ok,hl,bx,q⟩:=h;have h8:=ok.sz.cg;have h60:=ok.cg;have bF:ag 49 (ra^ns.sum.toNat):=(iT ok.ok _).mono (by have:=ok.sz.sum;lia);generalize hF:ra^ns.sum.toNat=F at *;o_head jY (n:=n) (by lia) (by lia) (λi σ H'=>∃(f g:V)(o:Option V),σ = [some x0,some x1,some (.int n),some f,some g,o]/\ah H H'/\Is K H' f (N (aC F 1 i))/\Is K H' g (N (GM.sumTo (aC F 1) i))) ⟨_,_,_,rfl,ah.refl H,d_ 0 (T.e_ _) rfl rfl,d_ 0 (T.e_ _) rfl rfl⟩ ?_ ?_
 . rintro i σ H' hi ⟨f,g,o,rfl,S1,hf,hg⟩
   have h01:=h0.by S1;have bf:ag 1601 (aC F 1 i):=by rw[<- hF];exact ok.aC (by lia)
   have bg:ag 1662 (GM.sumTo (aC F 1) i):=by rw[<- hF];exact ok.sums (by lia)
   have bm:ag 1700 (F*aC F 1 i):=(bF.mul bf).mono (by decide);k_few;rename_i v2 H2 S2 i2;refine aF (j:=0) (h01.by S2) rfl (λv3 i3=>?_);have hf2:=hf.by S2;k_few;rename_i v4 H4 S4 i4 v5 H5 S5 i5;exact⟨_,_,_,rfl,S1.trans (S2.trans (S4.trans S5)),i5,i2.by (S4.trans S5)⟩
 . rintro σ H' ⟨f,g,o,rfl,S1,hf,hg⟩
   have bf:ag 2000 (aC F 1 n.toNat):=by rw[<- hF];exact(ok.aC (wp _)).mono (by decide)
   have bg:ag 2000 (GM.sumTo (aC F 1) n.toNat):=by rw[<- hF];exact(ok.sums (wp _)).mono (by decide)
   o_head Mq (h0.by S1) (h1.by S1) hf hg (by rw[kP (by lia)];lia) (by lia) bf bg bx (λi=>(sj ok.ok ok.sz i).mono (by decide)) (λv2 H2 S2 i2=>?_);exact q v2 H2 (S1.trans S2) i2
theorem L7{c d:Nat}{p q:Rat}(hx:Cm m xs)(hs:Cm j ss)(bp:ag c p)(bq:ag d q):Cm (m+j+c+d+1) (fU p q xs ss):=by
 obtain⟨B,h0,h1,h2⟩:=hx;obtain⟨D,g0,g1,g2⟩:=hs;have hb:0<B*(p.den:Int)*(D*(q.den:Int)):=vU (vU h0 (den_pos p)) (vU g0 (den_pos q));refine⟨_,hb,((h1.mul bp.b).mul (g1.mul bq.b)).mono (by lia),λx hx=>?_⟩;obtain⟨i,hi,rfl⟩:=wV.mp hx;have hi:=wF.mp hi;obtain⟨u,eu,bu⟩:=h2 _ (getD_mem (d:=0) hi)
 have hv:∃v:Int,ss.getD i 0=wx v D/\Bd j v:=by
  rcases wG i ss.length with z | z
  ·exact g2 _ (getD_mem z)
  ·rw[wb,wL z]
   exact⟨0,by simp,⟨by simp;exact Wp j⟩⟩
 obtain⟨v,ev,bv⟩:=hv;refine⟨p.num*u*(D*(q.den:Int))+q.num*v*(B*(p.den:Int)),?_,(((bp.t.mul bu).mul (g1.mul bq.b)).add ((bq.t.mul bv).mul (h1.mul bp.b))).mono (by lia)⟩
 symm
 show wx _ _=p*xs.getD i 0+q*ss.getD i 0
 refine fG (by lia) ?_;have k1:=c7 u (show B≠0 by lia);have k2:=c7 v (show D≠0 by lia);have k3:=jS p;have k4:=jS q;rw[eu,ev];simp only[qo,vP];rw[<- k1,<- k2,<- k3,<- k4];generalize wx u B=y;generalize wx v D=z;generalize (B:Rat)=B';generalize (D:Rat)=D';generalize ((p.den:Int):Rat)=P';generalize ((q.den:Int):Rat)=Q'
 grind
theorem zCS{a:Rat}(ok:d6 a b ns n)(c:Cm m xs):Cm (m+188+2*((6*ns.sum.toNat+3)*n)) (cf a b ns n xs):=(L7 c (Co ok.ok ok.sz) (zAp ok.ok _ n) (RT ok.ok _ n)).mono (by lia)
def pq(a b:Rat)(ns:List Int)(xs:List Rat)(n:Nat):Rat:=GM.sumTo (λk=>fo a b ns (cf a b ns k xs)) n
def ja(a b:Rat)(ns:List Int)(xs:List Rat)(n:Nat):List Rat:=(fU (aC (a^ns.sum.toNat) 1 n) (GM.sumTo (aC (a^ns.sum.toNat) 1) n) xs (ck a b ns)).map λt=>t / ((n:Int):Rat)
theorem NS(a b:Rat)(ns:List Int)(xs:List Rat)(n:Nat):(ja a b ns xs n).length=xs.length:=by unfold ja;rw[wm,oB]
theorem BV(h:1<=n):((n:Int):Rat)≠0:=λe=>by
 have:=W8.mp e;lia
theorem LQ{a:Rat}(hi:i<xs.length):(ja a b ns xs n).getD i 0=(fU (aC (a^ns.sum.toNat) 1 n) (GM.sumTo (aC (a^ns.sum.toNat) 1) n) xs (ck a b ns)).getD i 0 / ((n:Int):Rat):=by
 unfold ja;rw[wb,wu,wc (by rw[oB];exact hi),wb,wc (by rw[oB];exact hi)]
 rfl
theorem ztw{a:Rat}(hl:ns.length=xs.length+1)(h1:1<=n):((n:Int):Rat)*fo a b ns (ja a b ns xs n)=pq a b ns xs n:=by
 unfold pq;refine Uw hl (λk=>cf a b ns k xs) (λk=>df ..) n _ h1 (NS ..) λi hi=>?_
 rw[LQ hi,WZ (BV h1),P9 hi,<- zBe];exact zw n λk _=>(iJ hi).symm
theorem OS(h:n<=60):ag 6 ((n:Int):Rat):=by
 have e:(2:Nat)^6=64:=by decide
 exact⟨⟨by rw[uf,e];lia⟩,⟨by rw[ug];decide⟩⟩
theorem zyV{a:Rat}(h:aS a b)(S n:Nat):ag ((6*S+3)*n+2) (GM.sumTo (aC (a^S) 1) n):=Nu (iT h S) n
theorem O_{a:Rat}(ok:d6 a b ns n)(c:Cm m xs):Cm (m+189+2*((6*ns.sum.toNat+3)*n)) (fU (aC (a^ns.sum.toNat) 1 n) (GM.sumTo (aC (a^ns.sum.toNat) 1) n) xs (ck a b ns)):=(L7 c (Co ok.ok ok.sz) (RT ok.ok _ n) (zyV ok.ok _ n)).mono (by lia)
theorem zzo{a:Rat}(ok:d6 a b ns n)(h1:1<=n)(c:Cm m xs):Cm (m+195+2*((6*ns.sum.toNat+3)*n)) (ja a b ns xs n):=by
 unfold ja;exact(PX (O_ ok c) (OS ok.cg) (BV h1)).mono (by lia)
def K0(K:wa):Sp:=λvs H Q _=>∃x0 x1 x2 x3,vs=[x0,x1,x2,x3] /\ ∃(ra rb:Rat)(ns:List Int)(xs:List Rat)(n:Int)(m:Nat),x3=.int n/\Is K H x0 (R ra rb)/\Is K H x1 (TZ ns)/\Is K H x2 (TN xs)/\ns.length=xs.length+1/\0<=n/\d6 ra rb ns n.toNat/\Cm m xs/\m+2*((6*ns.sum.toNat+3)*n.toNat)<=6700 /\ ∀v H',ah H H'->Is K H' v (N (pq ra rb ns xs n.toNat))->Q v H'
theorem znq{n:Int}{w:V}(h0:Is K H v (R ra rb))(h1:Is K H w (TZ ns))(h2:Is K H u (TN xs))(hl:ns.length=xs.length+1)(n0:0<=n)(ok:d6 ra rb ns n.toNat)(c:Cm m xs)(hm:m+2*((6*ns.sum.toNat+3)*n.toNat)<=6700)(q:∀v H',ah H H'->Is K H' v (N (pq ra rb ns xs n.toNat))->Q v H'):K0 K [v,w,u,.int n] H Q E:=⟨_,_,_,_,rfl,ra,rb,ns,xs,n,m,rfl,h0,h1,h2,hl,n0,ok,c,hm,q⟩
theorem zAa{n:Int}(q:∀v H',ah H H'->Is K H' v (N (n:Rat))->Q v H'):mE K [.int n,.int 1] H Q:=dm (r:=(n:Rat)) (uf n).symm (by rw[ug];rfl) q
theorem zoc(T:Txt K mg a):aK P w K mg base aR 8 a.Ig a.GW tM (K0 K):=by
 refine T.G_.F.ok Ez ?_ ?_;wtm_at "b4"
 refine⟨_,(ao (bL (bD ku (pv 3) ay (aU _)) (av (aB (bW (v:=.ref a.dF) rfl T.d8 rfl))) bN)
     (ao (az 4 Ez.nd (aW (ae (pv 3) (ae ay af))))
     (ao (az 5 Ez.nd (di (show aE _ (.type "tuple") (dQ K)from eZ) rfl T.h0N dY (ae (dR rfl (cv.by (N':=["total","count"]) (src:=[none,some 4]) rfl (by kernel_rfl)) (kb (ar (zk5 T) hr T.GL (ae (ar (sH T) hr T.mM (ae (pv 0) (ae (pv 1) af))) (ae (pv 2) (ae (pv 3) af))))) (λ_ _ _ _ _=>(aZ (i:=0) (of_decide_eq_true (by kernel_rfl)) rfl (Or.inl rfl))) (λ_ _ _ _ _=>dH) (λ_ _ _ _ _=>(ar (Si (K:=K) (mg:=mg) (a:=a) T) hr T.Bc (ae (pv 0) (ae (pv 1) af))))) af)))
     (av (aB (ar (kO T) hr T.j4 (ae (pv 4) (ae (ar (zo4 T) hr T.HG (ae (pv 0) (ae (pv 1) (ae (pv 5) af)))) af)))))))),?_⟩
 wtm_at "cl";rw[show start Sv [x0,x1,x2,x3]=[some x0,some x1,some x2,some x3,none,none]from rfl];obtain⟨ra,rb,ns,xs,n,m,rfl,hr',hn',hx',hl,n0,ok,c,hm,q⟩:=h;have h8:=ok.sz.cg;have hp:=ok.sz.pos;have h60:=ok.cg;have hu:=ok.sz.upTo;obtain⟨n,rfl⟩:∃j:Nat,n=(j:Int):=⟨n.toNat,by lia⟩;rw[wD]at q ok h60 hm;k_few
 . rename_i z
   have hz:n=0:=by lia
   subst hz;exact q _ H (ah.refl _) (d_ 0 (T.e_ _) rfl rfl)
 . rename_i z
   have h1n:1<=n:=by lia
   have cM:=zzo ok h1n c;have hml:=NS ra rb ns xs n;have hne:=BV h1n;have bn:ag 6 ((n:Int):Rat):=OS h60;refine zAa (λv1 H1 S1 i1=>?_);o_head q_ (hr'.by S1) (hn'.by S1) (nh ok.ok ok.sz) (by lia) (by lia) (λv2 H2 S2 i2=>?_);have T2:=S1.trans S2;o_head zkE (a:=ra) (b:=rb) (ns:=ns) i2 (hx'.by T2) (by lia) (by rw[wD];exact ok) hl (λi=>(c.get i).mono (by lia)) (λv3 H3 S3 i3=>?_);rw[wD]at i3;have i13:=i1.by (S2.trans S3);obtain⟨a3,us,rfl,hs3,t3⟩:=bZ.mp i3;have hul:=t3.length;rw[wm,oB]at hul;have bw:∀i,ag 8100 ((fU (aC (ra^ns.sum.toNat) 1 n) (GM.sumTo (aC (ra^ns.sum.toNat) 1) n) xs (ck ra rb ns)).getD i 0):=λi=>((O_ ok c).get i).mono (by lia)
   o_head jz hs3 (o0:=none) (tl:=[some v1]) rfl (λj y H'=>Is K H' y (N ((ja ra rb ns xs n).getD j 0))) ?_ ?_
   . intro D j x ys o H4 hx inv
     obtain⟨hj,ix⟩:=cq t3 hx;rw[oB]at hj;o_head TQ (ix.by inv.same) (i13.by inv.same) ((bw j).mono (by decide)) (bn.mono (by decide)) hne (λv5 H5 S5 i5=>?_);rw[<- LQ hj]at i5;exact d7 inv (by lia) eA ⟨_,rfl⟩ S5 i5
   . intro D ys H4 hn4 S4 e4 hl4 hr4
     have tz:aj K H4 ys ((ja ra rb ns xs n).map N):=eO (by rw[hl4,hul,hml]) hr4;o_head gE (b_ e4 tz) (λv5 H5 S5 i5=>?_);have T5:=T2.trans (S3.trans (S4.trans S5));have rok:cT ra rb ns (ja ra rb ns xs n):=⟨ok.ok.ba,ok.ok.bb,λk hk=>by have:=ok.sz.each k hk;lia,by rw[hml];exact hl,by lia,⟨_,cM,by lia⟩⟩;o_head zoU (hr'.by T5) (hn'.by T5) i5 rok cM (by lia) (λv6 H6 S6 i6=>?_);have bt:ag 8000 (fo ra rb ns (ja ra rb ns xs n)):=(Mb rok cM (by lia) (wp _)).fk (wJ ..);have i16:=i13.by (S4.trans (S5.trans S6));k_few;rename_i v7 H7 S7 i7;rw[ztw hl h1n]at i7;exact q v7 H7 (T5.trans (S6.trans S7)) i7
def jM(ts:List Rat):List Bool:=ts.map λx=>decide (1<x)
theorem Ul{ts:List Rat}(h:i<ts.length):(jM ts).getD i true=decide (1<ts.getD i 0):=by
 unfold jM;rw[wb,wu,wb,wc h]
 rfl
def kJ(a b:Rat)(ns:List Int):Bool:=!((jM (dC a b ns (cc a b ns))).any id)
theorem zsz{a:Rat}(h:aS a b)(k:cS ns)(hF:a^ns.sum.toNat≠1):cT a b ns (cc a b ns):=⟨h.ba,h.bb,λn hn=>by have:=k.each n hn;lia,by rw[lO k.some];have:=k.some;lia,by have:=k.cg;lia,⟨268,ES h.ba h.bb k.cg k.upTo (by have:=k.sum;lia) hF,by have:=k.cg;have:=k.upTo;lia⟩⟩
def PZ(K:wa):Sp:=λvs H Q _=>∃x0 x1,vs=[x0,x1] /\ ∃(a b:Rat)(ns:List Int),Is K H x0 (R a b)/\Is K H x1 (TZ ns)/\aS a b/\cS ns/\a≠1 /\ ∀H',ah H H'->Q (.bl (kJ a b ns)) H'
theorem OW{a:Rat}{w:V}(h1:Is K H v (R a b))(h2:Is K H w (TZ ns))(ok:aS a b)(sz:cS ns)(ha:a≠1)(q:∀H',ah H H'->Q (.bl (kJ a b ns)) H'):PZ K [v,w] H Q E:=⟨_,_,rfl,a,b,ns,h1,h2,ok,sz,ha,q⟩
theorem Mp(T:Txt K mg a):aK P w K mg base aR 9 a.HE a.GQ Av (PZ K):=by
 refine T.AS.F.ok zm6 ?_ ?_;wtm_at "b2";refine⟨_,(av (aB (mD (bA (show aE _ (.builtin "any") (Gw K)from zwU rfl) rfl T.h0U zCP (ae (dR rfl (cv.by (N':=["top"]) (src:=[none]) rfl (by kernel_rfl)) (kb (ar (TK T) hr T.Bb (ae (pv 0) (ae (pv 1) (ae (ar (ME T) hr T.A9 (ae (pv 0) (ae (pv 1) af))) af))))) (λ_ _ _ _ _=>(aZ (i:=0) (of_decide_eq_true (by kernel_rfl)) rfl (Or.inl rfl))) (λ_ _ _ _ _=>dH) (λ_ _ _ _ _=>(ar (gY (K:=K) (mg:=mg) (a:=a) T) hr T.f_ (ae (bW (v:=.ref a.d9) rfl T.fh rfl) (ae (pv 0) af))))) af))))),?_⟩;wtm_at "cl";rw[show start ET [x0,x1]=[some x0,some x1]from rfl];obtain⟨ra,rb,ns,hr',hn',ok,sz,ha,q⟩:=h;have h8:=sz.cg;have hps:=sz.pos;have hF:ra^ns.sum.toNat≠1:=λe=>ha ((lB ok (by lia)).mp e)
 have rok:=zsz ok sz hF;o_head U8 hr' hn' (nh ok sz) (by lia) (by lia) (λe=>absurd e hF) (λ_ v1 H1 S1 i1=>?_);o_head LY (hr'.by S1) (hn'.by S1) i1 rok (λv2 H2 S2 i2=>?_);obtain⟨a2,us,rfl,hs2,t2⟩:=bZ.mp i2;have hl2:=t2.length;rw[wm,eT]at hl2;refine jz hs2 (o0:=none) (tl:=[]) rfl (λi v H=>v=V.bl ((jM (dC ra rb ns (cc ra rb ns))).getD i true)) ?_ ?_
 ·rintro D i x ys o H3 hx inv
  obtain⟨hi,ix⟩:=cq t2 hx;rw[eT]at hi;have ix3:=ix.by inv.same;have b1:=yc rok hi;have b2:ag 1 1:=ag.one;k_few;exact d7 inv (by lia) (λ_ _ _ _ _ h=>h) ⟨_,rfl⟩ (ah.refl _) (by rw[Ul (by rw[eT];exact hi)])
 ·rintro D ys H3 hn3 S3 e3 hl3 hr3
  have hz:=nV (bs:=jM (dC ra rb ns (cc ra rb ns))) (by unfold jM;rw[wm,eT];lia) hr3;rw[hz]at e3;o_head zA2 (.of e3) ?_;k_few;exact q _ (S1.trans (S2.trans S3))
def oy(ss:List Rat):List Bool:=ss.map λs=>decide (s=0)
theorem zws{ts:List Rat}(h:i<ts.length):(oy ts).getD i true=decide (ts.getD i 0=0):=by
 unfold oy;rw[wb,wu,wb,wc h]
 rfl
def dD(a b:Rat)(ns:List Int)(xs:List Rat):Bool:=if 1<a then decide (xs=cc a b ns)else if a=1 then(oy (ck a b ns)).all id else kJ a b ns
def PK(K:wa):Sp:=λvs H Q _=>∃x0 x1 x2,vs=[x0,x1,x2] /\ ∃(a b:Rat)(ns:List Int)(xs:List Rat),Is K H x0 (R a b)/\Is K H x1 (TZ ns)/\Is K H x2 (TN xs)/\aS a b/\cS ns /\ ∀H',ah H H'->Q (.bl (dD a b ns xs)) H'
theorem zoO{a:Rat}{w:V}(h1:Is K H v (R a b))(h2:Is K H w (TZ ns))(h3:Is K H u (TN xs))(ok:aS a b)(sz:cS ns)(q:∀H',ah H H'->Q (.bl (dD a b ns xs)) H'):PK K [v,w,u] H Q E:=⟨_,_,_,rfl,a,b,ns,xs,h1,h2,h3,ok,sz,q⟩
theorem zpd(T:Txt K mg a):aK P w K mg base aR 10 a.Iq a.Hg Aw (PK K):=by
 refine T.Ho.F.ok LV ?_ ?_;wtm_at "b3"
 refine⟨_,(ao (az 3 LV.nd (ar (M4 T) hr T.Ba (ae (pv 0) af)))
     (ao (bL (bD (show aH _ (wH .Eq) (cn K)from cV hu) (pv 3) dX (aU _)) (av (aB (eK (show aH _ (wH .Eq) (cn K)from cV hu) (di (show aE _ (.type "tuple") (dQ K)from eZ) rfl T.h0N dY (ae (pv 2) af)) (ar (ME T) hr T.A9 (ae (pv 0) (ae (pv 1) af))) (aU _)))) bN)
     (ao (bL (bD (show aH _ (wH .Eq) (cn K)from cV hu) (pv 3) dX (aU _)) (av (aB (bA (show aE _ (.builtin "all") (oz K)from zX rfl) rfl T.h0X z9 (ae (dR rfl (cv.by (N':=["shift"]) (src:=[none]) rfl (by kernel_rfl)) (kb (au (ar (sH T) hr T.mM (ae (pv 0) (ae (pv 1) af))))) (λ_ _ _ _ _=>(aZ (i:=0) (of_decide_eq_true (by kernel_rfl)) rfl (Or.inl rfl))) (λ_ _ _ _ _=>dH) (λ_ _ _ _ _=>(eK (show aH _ (wH .Eq) (cn K)from cV hu) (pv 0) (bW (v:=.ref a.dF) rfl T.d8 rfl) (aU _)))) af)))) bN)
     (av (aB (ar (Mp T) hr T.AS (ae (pv 0) (ae (pv 1) af)))))))),?_⟩
 wtm_at "cl";rw[show start SQ [x0,x1,x2]=[some x0,some x1,some x2,none]from rfl];obtain⟨ra,rb,ns,xs,hr',hn',hx',ok,sz,q⟩:=h;have h8:=sz.cg;have h1:=sz.some;have hps:=sz.pos;o_head PB hr' (ok.ba.mono (by decide)) ?_;unfold rA;unfold dD at q
 by_cases z1:1<ra
 . rw[if_pos z1]at q ⊢
   have hF:ra^ns.sum.toNat≠1:=λe=>absurd ((lB ok (by lia)).mp e) (by grind)
   o_head jT _ _ true (by rw[wP];decide) ?_;o_head R3 hx' ?_;o_head U8 hr' hn' (nh ok sz) (by lia) (by lia) (λe=>absurd e hF) (λ_ v1 H1 S1 i1=>?_);o_head N7 (hx'.by S1) i1 ?_;exact q _ S1
 . rw[if_neg z1]at q ⊢
   by_cases z2:ra=1
   . rw[if_pos z2]at q ⊢
     o_head jT _ _ false (by rw[wP];decide) ?_;o_head jT _ _ true (by rw[wP];decide) ?_;o_head q_ hr' hn' (nh ok sz) (by lia) (by lia) (λv1 H1 S1 i1=>?_);o_head aF (j:=1) i1 rfl (λv2 i2=>?_);obtain⟨a2,us,rfl,hs2,t2⟩:=bZ.mp i2;have hl2:=t2.length;rw[wm]at hl2;have hsl:(ck ra rb ns).length=ns.length-1:=kP h1;have t2:aj K H1 us ((ck ra rb ns).map N):=t2;have hl2:us.length=(ck ra rb ns).length:=hl2;refine jz hs2 (o0:=none) (tl:=[]) rfl (λi v H=>v=V.bl ((oy (ck ra rb ns)).getD i true)) ?_ ?_
     . rintro D i x ys o H3 hx inv
       obtain⟨hi,ix⟩:=cq t2 hx;have ix3:=ix.by inv.same;k_few;exact d7 inv (by lia) (λ_ _ _ _ _ h=>h) ⟨_,rfl⟩ (ah.refl _) (by rw[zws hi])
     . rintro D ys H3 hn3 S3 e3 hl3 hr3
       have hz:=nV (bs:=oy (ck ra rb ns)) (by unfold oy;rw[wm];lia) hr3;rw[hz]at e3;o_head p_ (.of e3) ?_;exact q _ (S1.trans S3)
   . rw[if_neg z2]at q ⊢
     o_head jT _ _ false (by rw[wP];decide) ?_;o_head jT _ _ false (by rw[wP];decide) ?_;k_few;exact OW hr' hn' ok sz z2 q
theorem zAO{a:Rat}(hF:a^ns.sum.toNat≠1)(hl:ns.length=xs.length+1)(k:Nat):cf a b ns k xs=fH ((a^ns.sum.toNat)^k) (cc a b ns) xs:=by
 have hs:(cc a b ns).length=xs.length:=by rw[lO (by lia)];lia
 refine iC (by rw[df,ny hs,hs]) λi hi=>?_
 rw[df]at hi;rw[mI hs (by lia),iJ hi,Rh (Aa hF (by lia))]
theorem Bw{a:Rat} : dW a b ns xs=true ↔ (∀i,i<xs.length+1->(cC xs).getD (i+1) 0<(cC xs).getD i 0) /\ ∀i,i<ns.length->(dC a b ns xs).getD i 0<1:=by
 unfold dW;rw[wY,Wc,Wc]
 constructor
 ·rintro ⟨h1,h2⟩
  refine⟨λi hi=>?_,λi hi=>?_⟩
  ·have:=h1 _ (wV.mpr ⟨i,wF.mpr hi,rfl⟩)
   exact of_decide_eq_true this
  ·have:=h2 _ (wV.mpr ⟨_,getD_mem (d:=0) (show i<(dC a b ns xs).length by rw[eT];exact hi),rfl⟩)
   exact of_decide_eq_true this
 ·rintro ⟨h1,h2⟩
  refine⟨λx hx=>?_,λx hx=>?_⟩
  ·obtain⟨i,hi,rfl⟩:=wV.mp hx
   exact decide_eq_true (h1 i (wF.mp hi))
  ·obtain⟨t,ht,rfl⟩:=wV.mp hx
   obtain⟨i,hi,rfl⟩:=wV.mp ht;have:=h2 i (wF.mp hi);rw[mY (wF.mp hi)]at this;exact decide_eq_true this
theorem Kx:∀l:List Rat,(∀i,i+1<l.length->l.getD (i+1) 0<l.getD i 0)->l.Pairwise (· > ·)
 | [],_=>.nil
 | x::l,h=>by
  have h':∀i,i+1<l.length->l.getD (i+1) 0<l.getD i 0:=λi hi=>by
   have:=h (i+1) (by simp;lia)
   simpa using this
  have hd:∀j,j<l.length->l.getD j 0<x:=λj=>by
   induction j with
   | zero=>intro hj;have:=h 0 (by simp;lia);simpa using this
   | succ j ih=>intro hj;have h3:=h' j hj;have h4:=ih (by lia);grind
  refine W0.mpr ⟨λy hy=>?_,Kx l h'⟩;obtain⟨j,hj,e⟩:=vj hy;have:=hd j hj;rw[wb,wc hj]at this
  show y<x
  rw[<- e];exact this
theorem zxQ{l:List Rat}(h:l.Pairwise (· > ·))(hi:i+1<l.length):l.getD (i+1) 0<l.getD i 0:=by
 rw[wb,wb,wc hi,wc (show i<l.length by lia)];exact(Wx.mp h) i (i+1) (by lia) hi (by lia)
theorem om(xs:List Rat)(i:Nat):(cC xs).getD (i+1) 0=(xs++[0]).getD i 0:=by
 unfold cC;rw[W4]
 rfl
theorem U0(h:∀i,i<xs.length+1->(cC xs).getD (i+1) 0<(cC xs).getD i 0):iA (xs++[0])/\(xs++[0]).getD 0 0<1:=by
 have pw:(xs++[0]).Pairwise (· > ·):=Kx _ λi hi=>by
  have:=h (i+1) (by simp at hi;lia);rw[om,om]at this;exact this
 refine⟨⟨pw,λy hy=>?_⟩,?_⟩
 ·rcases Wn.mp hy with z | z
  ·exact Wg ((qa.mp pw).2.2 y z 0 (wX.mpr rfl))
  ·rw[wX.mp z];exact WS
 ·have:=h 0 (by lia)
  rw[om]at this;exact this
theorem Lq(pw:(xs++[0]).Pairwise (· > ·))(one:(xs++[0]).getD 0 0<1):∀i,i<xs.length+1->(cC xs).getD (i+1) 0<(cC xs).getD i 0
 | 0,_=>by rw[om];exact one
 | i+1,hi=>by rw[om,om];exact zxQ pw (by simp;lia)
theorem B9{a:Rat}(h:ns.length=xs.length+1):cO a b ns xs++[0]=aN a b ns (xs++[0]) ns.length:=by
 have hl:=nH (a:=a) (b:=b) h;have hr:(aN a b ns (xs++[0]) ns.length).length=xs.length+1:=by rw[du];simp
 refine iC (by rw[hr,wQ,hl];rfl) λi hi=>?_
 rw[wQ,hl]at hi;have hi:i<xs.length+1:=hi;rcases wG i xs.length with z | z
 ·rw[Ci (by lia),DH h z]
 ·have e:i=xs.length:=by lia
  have e2:(cO a b ns xs++[0]).getD i 0=0:=by rw[e,<- hl];exact pA
  rw[e2,e,h,aN,gr _ _ _ _ _ _ (by rw[du];simp),if_pos rfl]
theorem US{a b:Rat}(a0:0<a)(b0:0<=b){ns:List Int}{row:List Rat}(F:iA row)(one:row.getD 0 0<1)(iL:∀t,t<row.length->eI a b ns row t<1):∀i,i<=row.length->iA (turned a b ns row i)
 | 0,_=>F
 | i+1,hi=>by
  have ih:=US a0 b0 F one iL i (by lia)
  have oi:(aN a b ns row i).getD i 0<1:=by
   cases i with
   | zero=>exact one
   | succ j =>
    have:=iL j (by lia);unfold eI at this;rw[QN (by lia)]at this;exact this
  obtain⟨x,l,ex⟩:∃x l,turned a b ns row i=x::l:=by
   cases e:turned a b ns row i with
   | nil =>
    have:=DK a b ns row (by lia) i;rw[e]at this;simp at this;lia
   | cons x l=>exact⟨x,l,rfl⟩
  have hx:x=(aN a b ns row i).getD i 0:=by
   have:=FY a b ns row (show i<row.length by lia);rw[ex]at this;exact this
  show iA (lX a b (ns.getD i 0).toNat (turned a b ns row i))
  rw[ex]at ih ⊢;exact ih.step a0 b0 (by rw[hx];exact oi)
theorem zt1{a:Rat}(ok:aS a b)(hn:ns.length=xs.length+1)(f:dW a b ns xs=true):∀i,i<(cO a b ns xs).length+1->(cC (cO a b ns xs)).getD (i+1) 0<(cC (cO a b ns xs)).getD i 0:=by
 obtain⟨h1,h2⟩:=Bw.mp f;obtain⟨F,one⟩:=U0 h1;have hl:(xs++[0]).length=ns.length:=by simp[hn]
 have iL:∀t,t<(xs++[0]).length->eI a b ns (xs++[0]) t<1:=λt ht=>by
  have:=h2 t (by lia);rw[mY (by lia)]at this;unfold eI;rw[hl];exact this
 have Fl:=US ok.a0 ok.b0 F one iL (xs++[0]).length (wp _);rw[hl,zu5 a b ns _ hl.symm,<- B9 hn]at Fl;have t:=iL (ns.length-1) (by lia);unfold eI at t;rw[hl,show ns.length-1+1=ns.length by lia,Nat.mod_self,<- B9 hn]at t;exact Lq Fl.pw t
theorem zyC(c:Rat)(xs:List Rat):fH c xs xs=xs:=iC (ny rfl) λi hi=>by
 rw[ny rfl]at hi;rw[mI rfl hi]
 grind
def cF(a b:Rat)(ns:List Int)(xs:List Rat)(k:Nat):Bool:=dW a b ns (cf a b ns k xs)
theorem nB{a:Rat}(ok:aS a b)(sz:cS ns)(hk:k<=31):d6 a b ns k:=⟨ok,sz,by lia,by
 have h1:=sz.sum;have h2:(6*ns.sum.toNat+1+1)*k<=50*k:=Wf k (by lia);lia⟩
theorem UE{a:Rat}(ok:aS a b)(sz:cS ns)(c:Cm m xs)(hk:k<=31):Cm (m+188+102*k) (cf a b ns k xs):=(zCS (nB ok sz hk) c).mono (by
 have h1:=sz.sum;have h2:(6*ns.sum.toNat+3)*k<=51*k:=Wf k (by lia);lia)
theorem Ku{a:Rat}(ok:aS a b)(sz:cS ns)(hn:ns.length=xs.length+1)(c:Cm m xs)(hm:m<=3700)(hk:k<=30):cT a b ns (cf a b ns k xs):=⟨ok.ba,ok.bb,λn hn=>by have:=sz.each n hn;lia,by rw[df];exact hn,by have:=sz.cg;lia,⟨_,UE ok sz c (by lia),by have:=sz.cg;have:=sz.upTo;lia⟩⟩
def Ff(K:wa)(a:Ad):Sp:=λvs H Q E=>∃x0 x1 x2,vs=[x0,x1,x2] /\ ∃(ra rb:Rat)(ns:List Int)(xs:List Rat),Is K H x0 (R ra rb)/\Is K H x1 (TZ ns)/\Is K H x2 (TN xs)/\aS ra rb/\cS ns/\ns.length=xs.length+1/\cT ra rb ns xs/\(dD ra rb ns xs=false->∃n:Nat,n<=30/\(n=30\/cF ra rb ns xs n=false)/\(∀k,k<=n->cT ra rb ns (cf ra rb ns k xs))/\(∀k,k<n->∀j,ag 6900 ((cf ra rb ns k xs).getD j 0))) /\
 (cF ra rb ns xs 0=false->∀H',ah H H'->Q (.int 0) H') /\
 (cF ra rb ns xs 0=true->dD ra rb ns xs=true->∀H',ah H H'->Q .bY H') /\
 (∀c:Nat,1<=c->c<=30->dD ra rb ns xs=false->(∀k,k<c->cF ra rb ns xs k=true)->cF ra rb ns xs c=false->∀H',ah H H'->Q (.int (c:Int)) H') /\
 (dD ra rb ns xs=false->(∀k,k<=30->cF ra rb ns xs k=true)->∀H',ah H H'->E (.ref a.c6) none H')
theorem zm2{w:V}(h1:Is K H v (R ra rb))(h2:Is K H w (TZ ns))(h3:Is K H u (TN xs))(ok:aS ra rb)(sz:cS ns)(hn:ns.length=xs.length+1)(r0:cT ra rb ns xs)(hb:dD ra rb ns xs=false->∃n:Nat,n<=30/\(n=30\/cF ra rb ns xs n=false)/\(∀k,k<=n->cT ra rb ns (cf ra rb ns k xs))/\(∀k,k<n->∀j,ag 6900 ((cf ra rb ns k xs).getD j 0)))
  (q0:cF ra rb ns xs 0=false->∀H',ah H H'->Q (.int 0) H')
  (q1:cF ra rb ns xs 0=true->dD ra rb ns xs=true->∀H',ah H H'->Q .bY H')
  (q2:∀c:Nat,1<=c->c<=30->dD ra rb ns xs=false->(∀k,k<c->cF ra rb ns xs k=true)->cF ra rb ns xs c=false->∀H',ah H H'->Q (.int (c:Int)) H')
  (q3:dD ra rb ns xs=false->(∀k,k<=30->cF ra rb ns xs k=true)->∀H',ah H H'->E (.ref a.c6) none H'):Ff K a [v,w,u] H Q E:=⟨_,_,_,rfl,ra,rb,ns,xs,h1,h2,h3,ok,sz,hn,r0,hb,q0,q1,q2,q3⟩
theorem zok{w:V}(h1:Is K H v (R ra rb))(h2:Is K H w (TZ ns))(h3:Is K H u (TN xs))(ok:aS ra rb)(sz:cS ns)(hn:ns.length=xs.length+1)(c:Cm m xs)(hm:m<=3700)
  (q0:cF ra rb ns xs 0=false->∀H',ah H H'->Q (.int 0) H')
  (q1:cF ra rb ns xs 0=true->dD ra rb ns xs=true->∀H',ah H H'->Q .bY H')
  (q2:∀c:Nat,1<=c->c<=30->dD ra rb ns xs=false->(∀k,k<c->cF ra rb ns xs k=true)->cF ra rb ns xs c=false->∀H',ah H H'->Q (.int (c:Int)) H')
  (q3:dD ra rb ns xs=false->(∀k,k<=30->cF ra rb ns xs k=true)->∀H',ah H H'->E (.ref a.c6) none H'):Ff K a [v,w,u] H Q E :=
 zm2 h1 h2 h3 ok sz hn (by have:=Ku ok sz hn c hm (k:=0) (by decide);rw[p6]at this;exact this) (λ_=>⟨30,wp 30,.inl rfl,λk hk=>Ku ok sz hn c hm hk,λk hk j=>((UE ok sz c (k:=k) (by lia)).get j).mono (by lia)⟩) q0 q1 q2 q3
theorem zov(T:Txt K mg a):aK P w K mg base (fe P w) 11 a.H_ a.GZ yV (Ff K a):=by
 refine T.Hi.F.rC sk ?_ ?_;wtm_at "b3"
 refine⟨_,(ao (bL (dy (cA (ar (FH T) hr T.sQ (ae (pv 0) (ae (pv 1) (ae (pv 2) af)))))) (av (aB ay)) bN)
     (ao (bL (cA (ar (zpd T) hr T.Ho (ae (pv 0) (ae (pv 1) (ae (pv 2) af))))) (av (aB fS)) bN)
     (ao (az 3 sk.nd (ar (sH T) hr T.mM (ae (pv 0) (ae (pv 1) af))))
     (ao (az 4 sk.nd (pv 2))
     (ao (fc Xu rfl (zwS rfl T.h0P (ae ay (ae (aD cB (rk rfl T.Yz) ay) af))) (aZ (i:=5) sk.nd rfl (Or.inl rfl)) (ao (az 4 sk.nd (ar (NR T) hr T.A7 (ae (pv 3) (ae (pv 4) (ae ay af)))))
     (av (bL (dy (cA (ar (FH T) hr T.sQ (ae (pv 0) (ae (pv 1) (ae (pv 4) af)))))) (av (aB (pv 5))) bN))))
     (av (Sl T.YF rfl rfl T.Jk LO (ae dX af)))))))),?_⟩
 wtm_at "cl";rw[show start Tz [x0,x1,x2]=[some x0,some x1,some x2,none,none,none]from rfl];obtain⟨ra,rb,ns,xs,hr',hn',hx',ok,sz,hn,r0,hb,q0,q1,q2,q3⟩:=h;have h8:=sz.cg;have h1:=sz.some;have hps:=sz.pos;have e0:cF ra rb ns xs 0=dW ra rb ns xs:=by unfold cF;rw[p6]
 o_head Cp hr' hn' hx' r0 (λH1 S1=>?_);k_few
 . rename_i z
   exact q0 (by rw[e0];exact z) H1 S1
 . rename_i z
   have hr1:=hr'.by S1;have hn1:=hn'.by S1;have hx1:=hx'.by S1;refine zoO hr1 hn1 hx1 ok sz (λH2 S2=>?_);k_few
   . rename_i y
     exact q1 (by rw[e0];exact z) y H2 (S1.trans S2)
   . rename_i y
     have y:dD ra rb ns xs=false:=by first | exact y | exact XT _ ▸ y
     obtain⟨n,n30,stop,rd,bd⟩:=hb y;refine q_ (hr1.by S2) (hn1.by S2) (nh ok sz) (by lia) (by lia) (λv3 H3 S3 i3=>?_);have T3:ah H H3:=S1.trans (S2.trans S3);have hr3:=hr'.by T3;have hn3:=hn'.by T3;have hx3:=hx'.by T3;clear hr1 hn1 hx1 S1 S2 S3;o_head Zg ?_;o_head zu7 (lo:=1) (hi:=31) (by decide) (by decide) (by decide) (by decide) (λi σ H'=>∃(v:V)(o:Option V),σ = [some x0,some x1,some x2,some v3,some v,o]/\ah H3 H'/\Is K H' v (TN (cf ra rb ns i xs)) /\ ∀k,k<=i->cF ra rb ns xs k=true) ⟨_,_,rfl,ah.refl _,by rw[p6];exact hx3,λk hk=>by rw[show k=0 by lia,e0];exact z⟩ ?_ ?_
     . rintro i σ H4 hi ⟨v,o,rfl,S4,iv,fr⟩
       have hi:i<30:=hi;have i34:=i3.by S4
       have hin:i<n:=by
         rcases stop with e | e
         . lia
         . rcases wG i n with u | u
           . exact u
           . rw[fr n u]at e;cases e
       o_head PM (ss:=ck ra rb ns) i34 iv (by decide) (by decide) (by rw[kP h1,df];lia) (by rw[df];lia) ((iT ok _).mono (by have:=sz.sum;lia)) (λj hj=>((nB ok sz (k:=1) (by decide)).pow hj).mono (by decide)) (λj hj=>((nB ok sz (k:=1) (by decide)).aC hj).mono (by decide)) (λj=>bd i hin j) (λj=>(sj ok sz j).mono (by decide)) (λv5 H5 S5 i5=>?_);have i5:Is K H5 v5 (TN (cf ra rb ns 1 (cf ra rb ns i xs))):=i5;rw[Rl]at i5;have T5:=S4.trans S5;o_head Cp (hr3.by T5) (hn3.by T5) i5 (rd (i+1) (by lia)) (λH6 S6=>?_);have T6:=T5.trans S6;k_few
       . rename_i w
         have q:=q2 (i+1) (by lia) (by lia) y (λk hk=>fr k (by lia)) (by unfold cF;exact w) H6 (T3.trans T6);rw[show((i+1:Nat):Int)=1+(i:Int) by lia]at q;exact q
       . rename_i w
         refine⟨_,_,rfl,T6,i5.by S6,λk hk=>?_⟩;rcases wG k (i+1)with u | u
         . exact fr k (by lia)
         . have:k=i+1:=by lia
           subst this;unfold cF
           first | exact w | exact Bool.not_eq_false _ ▸ w
     . rintro σ H4 ⟨v,o,rfl,S4,iv,fr⟩
       k_few;exact⟨by simp;decide,q3 y (λk hk=>fr k hk) H4 (T3.trans S4)⟩
theorem O8{a:Rat}(ok:aS a b){fl:Nat->Nat}(L:fL xs (ps++[0]) fl ns)(hn:ns.length=ps.length+1)(f:dW a b ns ps=true) :
  fL (ai a b xs ns.length) (cO a b ns ps++[0]) fl ns/\(∀t,t<ns.length->cH a b (ai a b xs t)=[bV xs.length fl t])/\bC a b xs ns.length=fo a b ns ps:=by
 have hl:(ps++[0]).length=ns.length:=by simp[hn]
 have iL:∀t,t<(ps++[0]).length->eI a b ns (ps++[0]) t<1:=λt ht=>by
  have:=(Bw.mp f).2 t (by lia);rw[mY (by lia)]at this;unfold eI;rw[hl];exact this
 obtain⟨P,F,_,W⟩:=yl ok.a0 ok.b0 L _ (wp _) iL;have ht:=Ky ok.a0 ok.b0 L _ (wp _) iL;rw[hl]at P W ht;rw[<- B9 hn]at P;have st:=U0 (zt1 ok hn f);have hbl:=nH (a:=a) (b:=b) hn;have hbl2:(cO a b ns ps++[0]).length=(ps++[0]).length:=by simp[hbl]
 have hpl:=bS a b xs ns.length;refine⟨⟨P,st.1,st.2,by rw[hbl2];exact L.len,λc hc=>?_,λc hc=>?_⟩,W,?_⟩
 ·rw[hpl];exact L.some c (by lia)
 ·rw[hpl];exact L.size c (by lia)
 ·rw[ht];rfl
theorem pK{a b:Rat}(ok:aS a b){xs ps:List Rat}{fl:Nat->Nat}{ns:List Int}(L:fL xs (ps++[0]) fl ns)(hn:ns.length=ps.length+1)(n0:∀n∈ns,0<=n):∀k,(∀j,j<k->cF a b ns ps j=true) ->
  fL (ai a b xs (k*ns.length)) (cf a b ns k ps++[0]) fl ns/\bC a b xs (k*ns.length)=pq a b ns ps k
 | 0,_=>by
  rw[QQ,p6];exact⟨L,rfl⟩
 | k+1,h=>by
  obtain⟨Lk,Hk⟩:=pK ok L hn n0 k λj hj=>h j (by lia)
  have hl:ns.length=(cf a b ns k ps).length+1:=by rw[df];exact hn
  obtain⟨L1,_,H1⟩:=O8 ok Lk hl (h k (by lia));rw[d5,<- yr hl n0,Rl]at L1;have e:(k+1)*ns.length=k*ns.length+ns.length:=qw ..;rw[e];refine⟨L1,?_⟩;rw[<- m8,Hk,H1]
  rfl
theorem MA{a b:Rat}(a0:0<a)(b0:0<=b){xs row:List Rat}{fl:Nat->Nat}{ns:List Int}(L:fL xs row fl ns):∀n,n<=row.length->(¬ ∀t,t<n->eI a b ns row t<1)->∃t,t<n/\1<(cH a b (ai a b xs t)).length
 | 0,_,z=>absurd (λt ht=>by lia) z
 | n+1,hn,z=>by
  by_cases y:∀t,t<n->eI a b ns row t<1
  ·refine⟨n,by lia,zxo a0 b0 L (by lia) y (λu=>z λt ht=>?_)⟩
   rcases wG t n with k | k
   ·exact y t k
   ·have:t=n:=by lia
    rw[this];exact u
  ·obtain⟨t,h1,h2⟩:=MA a0 b0 L n (by lia) y
   exact⟨t,by lia,h2⟩
theorem zxt{a:Rat}(ok:aS a b){fl:Nat->Nat}(L:fL xs (ps++[0]) fl ns)(hn:ns.length=ps.length+1)(f:dW a b ns ps=false):∃t,t<ns.length/\1<(cH a b (ai a b xs t)).length:=by
 have hl:(ps++[0]).length=ns.length:=by simp[hn]
 refine MA ok.a0 ok.b0 L ns.length (by lia) λz=>?_
 have:dW a b ns ps=true:=Bw.mpr ⟨Lq L.Bh.pw L.one,λi hi=>by
  have:=z i hi;unfold eI at this;rw[hl]at this;rw[mY hi];exact this⟩
 rw[f]at this;cases this
theorem zzO{row:List Rat}{fl:Nat->Nat}(L:fL xs row fl ns)(hn:xs.length=n):((wo n).map λw=>row.getD (fl w) 0)=xs:=by
 refine iC (by simp[hn]) λw hw=>?_
 have hw:w<n:=by simpa using hw
 rw[L.pl.at' w (by lia),wb,wu,vH hw]
 rfl
theorem zj(h1:1<=xs.length)(h8:xs.length<=8):cS (aX xs):=by
 have hs:=jC xs;have hv:=hW xs;have hp:=tD h1;refine⟨by lia,by lia,λn hn=>?_,?_⟩
 ·have h2:=ztV xs n hn
  refine⟨?_,by lia⟩;obtain⟨v,hv,rfl⟩:=wV.mp hn;have hm:=kT hv;obtain⟨j,hj,e⟩:=vj hm;have:j∈eH xs v:=wW.mpr ⟨wF.mpr hj,decide_eq_true (by rw[wb,wc hj];exact e)⟩;have:=xj this;lia
 ·have h3:=NJ xs
  have:=Ax (m5 xs);lia
def gX(a b:Rat)(xs:List Rat)(r:Nat):Prop:=∀k,k<r->cF a b (aX xs) (aY xs) k=true
structure gP(a b:Rat)(xs:List Rat):Prop where
 ok:aS a b
 h1:1<=xs.length
 h8:xs.length<=8
 hp:dk xs
 h0:0∈xs
 cm:Cm 3600 xs
theorem gP.round{a:Rat}(h:gP a b xs):cT a b (aX xs) (aY xs)/\cS (aX xs)/\(aX xs).length=(aY xs).length+1:=by
 have hz:aY xs++[0]=ak xs:=yk h.hp h.h0;have h8:=h.h8;have sz:=zj h.h1 h8;have hsl:=jC xs;have hvl:=hW xs;have hsu:=EJ xs;have hpl:(aY xs).length+1=(ak xs).length:=by rw[<- hz];simp
 refine⟨⟨h.ok.ba,h.ok.bb,λn hn=>by have:=sz.each n hn;lia,by lia,by lia,⟨3600,oq h.cm,by lia⟩⟩,sz,by lia⟩
def OD(K:wa):Sp:=λvs H Q _=>∃x0 x1,vs=[x0,x1] /\ ∃(a b:Rat)(xs:List Rat)(r:Nat),x1=.int (r:Int)/\Is K H x0 (bM a b xs)/\gP a b xs/\r<=30/\gX a b xs r /\ ∀v H',ah H H'->Is K H' v (BD a b xs (r*(ak xs).length))->Q v H'
theorem Cg{a:Rat}(h:Is K H v (bM a b xs))(ok:gP a b xs)(h30:r<=30)(f:gX a b xs r)(q:∀v H',ah H H'->Is K H' v (BD a b xs (r*(ak xs).length))->Q v H'):OD K [v,.int (r:Int)] H Q E:=⟨_,_,rfl,a,b,xs,r,rfl,h,ok,h30,f,q⟩
theorem FJ{K:wa}{H:Hp} : ∀{xs:List Rat}{us:List V},aj K H us (xs.map N)->∃cs:List we,us=cs.map V.ref
 | [],us,h=>⟨[],gH.mp h⟩
 | x::xs,us,h=>by
  obtain⟨v,r,rfl,iv,t⟩:=dZ.mp h;obtain⟨a,_,rfl,_,_⟩:=bZ.mp (show Is K H v (.tuple _)from iv);obtain⟨cs,rfl⟩:=FJ t;exact⟨a::cs,rfl⟩
def fN(x:Rat):List Int:=[x.num,(x.den:Int)]
theorem zyX(h:fN x=fN y):x=y:=by
 unfold fN at h
 injection h with h1 h2
 injection h2 with h2 _
 exact um h1 (by lia)
theorem zuM(h:xs.Nodup):(xs.map fN).Nodup:=by
 unfold List.Nodup at *;rw[Qz];exact h.imp λ{a b} n e=>n (zyX e)
theorem PY(h:j<xs.length):(xs.map fN).getD j []=fN (xs.getD j 0):=by
 rw[wb,wu,wb,wc h]
 rfl
theorem Zh{ks:List (List Int)}{us ws:List we}(nd:ks.Nodup)(hl:ks.length=us.length)(hj:j<us.length):lY (gm ks us ws) (ks.getD j [])=some (ws.getD j 0):=by
 unfold lY gm;rw[List.find?_map];have pw:=Wx.mp nd;cases e:(wo us.length).find? ((λx:NE=>decide (x.1=ks.getD j [])) ∘ λj=>(ks.getD j [],us.getD j 0,ws.getD j 0))with
 | none =>
  have:=List.find?_eq_none.mp e j (wF.mpr hj);simp at this
 | some i =>
  have hm:=wF.mp (QG e);have hp:=ue e;have hp:ks.getD i []=ks.getD j []:=of_decide_eq_true hp;have hi:i<ks.length:=by lia
  have hj':j<ks.length:=by lia
  rw[wb,wb,wc hi,wc hj']at hp
  have hij:i=j:=by
   rcases Vz i j with z | z | z
   ·exact absurd hp (pw i j hi hj' z)
   ·exact z
   ·exact absurd hp.symm (pw j i hj' hi z)
  rw[hij];rfl
theorem zwF{cs ws:List we}(t:aj K H (cs.map V.ref) (xs.map N)):Ab K H (gm (xs.map fN) cs ws):=by
 intro x hx;obtain⟨j,hj,rfl⟩:=wV.mp hx;have hj:=wF.mp hj;have hl:=t.length;simp only[wm]at hl;have:=(cq t (i:=j) (x:=.ref (cs.getD j 0)) (by rw[wu,wb,wc hj];rfl)).2
 show Is K H (.ref (cs.getD j 0)) (TZ ((xs.map fN).getD j []))
 rw[PY (by lia)];exact this
theorem Pc(T:Txt K mg a):aK P w K mg base aR 9 a.Hl a.GI yd (OD K):=by
 refine T.AQ.F.ok pR ?_ ?_;wtm_at "b2"
 refine⟨_,(ao (az 2 pR.nd (oj (CM T) hr T.sW Ou (ae (pv 0) af)))
     (ao (az 3 pR.nd (ar (zlE T) hr T.GS (by exact(@ae _ _ _ _ _ (au (pv 0)) (@ae _ _ _ _ _ (au (pv 2)) (@ae _ _ _ _ _ (au (pv 2)) (@ae _ _ _ _ _ (pv 1) af dA) jh) jh) jh))))
     (ao (az 4 pR.nd (zy3 rfl (WY (xQ (by decide) _) hu) rfl T.h0S rfl T.h0Z (ae (aD (show aH _ (WG .Add) (AI K)from RB) (au (pv 2)) (aW (ae (bW (v:=.ref a.dF) rfl T.d8 rfl) af))) (ae (aD (show aH _ (WG .Add) (AI K)from RB) (pv 3) (aW (ae (bW (v:=.ref a.dF) rfl T.d8 rfl) af))) af))))
     (ao (az 5 pR.nd (di (show aE _ (.type "tuple") (dQ K)from eZ) rfl T.h0N dY (ae (dR rfl (cv.by (N':=["phase","now"]) (src:=[none,some 4]) rfl (by kernel_rfl)) (kb (au (pv 0))) (λ_ _ _ _ _=>(aZ (i:=0) (of_decide_eq_true (by kernel_rfl)) rfl (Or.inl rfl))) (λ_ _ _ _ _=>dH) (λ_ _ _ _ _=>(show PE _ _ (C9 K _ _)from(zzr (by exact(WY (xQ (by decide) _) hu)) (pv 1) (pv 0) (λ_ _=>rfl))))) af)))
     (av (aB (aW (ae (ar (zoc T) hr T.G_ (by exact(@ae _ _ _ _ _ (au (pv 0)) (@ae _ _ _ _ _ (au (pv 2)) (@ae _ _ _ _ _ (au (pv 2)) (@ae _ _ _ _ _ (pv 1) af dA) jh) jh) jh))) (ae (aW (ae (au (pv 0)) (ae (pv 5) af))) af))))))))),?_⟩
 wtm_at "cl";rw[show start So [x0,x1]=[some x0,some x1,none,none,none,none]from rfl];obtain⟨ra,rb,xs,r,rfl,hw,ok,h30,fr,q⟩:=h;have hz:aY xs++[0]=ak xs:=yk ok.hp ok.h0;have h1:=ok.h1;have h8:=ok.h8;have sz:=zj h1 h8;have hsl:=jC xs;have hvl:=hW xs;have hvp:=tD h1;have hpl:(aY xs).length+1=(ak xs).length:=by rw[<- hz];simp
 have hn:(aX xs).length=(aY xs).length+1:=by lia
 have L:fL xs (aY xs++[0]) (aI xs) (aX xs):=by rw[hz];exact Sd ok.hp.nn ok.hp.lt
 obtain⟨Lr,Hr⟩:=pK ok.ok L hn (m5 xs) r fr;rw[hsl]at Lr Hr;have hel:=zzO Lr (bS ra rb xs _);have bx:∀i,ag 4000 (xs.getD i 0):=λi=>(ok.cm.get i).mono (by decide)
 have cp:Cm 3600 (aY xs):=oq ok.cm;have hlk:d6 ra rb (aX xs) ((r:Int)).toNat:=by rw[wD];exact nB ok.ok sz (by lia)
 have hbp:∀i,ag 6900 ((aY xs).getD i 0):=λi=>(cp.get i).mono (by decide)
 o_head DM hw h8 bx (λz=>absurd ok.h0 z) (λ_ vl H1 S1 il=>?_);have hw1:=hw.by S1;o_head aF (j:=0) hw1 rfl (λvr ir=>?_);o_head aF (j:=0) il rfl (λvz iz=>?_);o_head aF (j:=1) il rfl (λvp ip=>?_);o_head zlW ir iz ip hn (by lia) hlk hbp (λv2 H2 S2 i2=>?_);rw[wD]at i2;o_head aF (j:=1) (il.by S2) rfl (λvp2 ip2=>?_);o_head cR (ds:=[N 0]) (by simp) (.cons (d_ 0 (T.e_ _) rfl rfl) .nil) (λv3 H3 S3 i3=>?_);refine Oc (ip2.by S3) i3 (by rw[wm];simp;lia) (λv4 H4 S4 i4=>?_);o_head cR (ds:=[N 0]) (by simp) (.cons (d_ 0 (T.e_ _) rfl rfl) .nil) (λv5 H5 S5 i5=>?_);have S25:=S3.trans (S4.trans S5);refine Oc (i2.by S25) i5 (by rw[wm,df];simp;lia) (λv6 H6 S6 i6=>?_)
 have i46:Is K H6 v4 (TN (ak xs)):=by
   have:=i4.by (S5.trans S6);rw[<- hz];unfold TN;rw[w6];exact this
 have i66:Is K H6 v6 (TN (cf ra rb (aX xs) r (aY xs)++[0])):=by
   unfold TN;rw[w6];exact i6
 have S16:=S2.trans (S25.trans S6);have hw6:=hw1.by S16;have il6:=il.by S16;have T6:=S1.trans S16;clear hw hw1 il ir iz ip i2 ip2 i3 i4 i5 i6 S1 S2 S3 S4 S5 S6 S25 S16;have hrl:(cf ra rb (aX xs) r (aY xs)++[0]).length=(ak xs).length:=by rw[wQ,df];simp;lia
 generalize cf ra rb (aX xs) r (aY xs)++[0]=row at *;obtain⟨aa,us,rfl,hs1,tu⟩:=bZ.mp i46;obtain⟨ab,ws,rfl,hs2,tw⟩:=bZ.mp i66;obtain⟨cs,rfl⟩:=FJ tu;obtain⟨ds,rfl⟩:=FJ tw;have hcl:=tu.length;have hdl:=tw.length;simp only[wm]at hcl hdl;have nd:=zuM (UY xs);have hkl:((ak xs).map fN).length=cs.length:=by rw[wm];lia
 o_head ⟨aa,ab,(ak xs).map fN,cs,ds,rfl,hs1,hs2,by lia,by lia,?_,nd,λD ep hD=>?_⟩
 . rw[V4]
   exact tu
 . have S7:ah H6 (upd H6 D (hV D ep (gm ((ak xs).map fN) cs ds))):=ah.upd hD
   have e7:upd H6 D (hV D ep (gm ((ak xs).map fN) cs ds)) D=some (hV D ep (gm ((ak xs).map fN) cs ds)):=cW;generalize upd H6 D (hV D ep (gm ((ak xs).map fN) cs ds))=H7 at *;have tu7:aj K H7 (cs.map V.ref) ((ak xs).map N):=aj.same S7 _ _ tu;have tw7:aj K H7 (ds.map V.ref) (row.map N):=aj.same S7 _ _ tw;have hw7:=hw6.by S7;o_head aF (j:=1) hw7 rfl (λvq iq=>?_);obtain⟨aq,uq,rfl,hsq,tq⟩:=bZ.mp iq;have hql:=tq.length;rw[wm]at hql;refine jz hsq (o0:=none) (tl:=[some (.ref D)]) rfl (λj y H'=>Is K H' y (N (((wo xs.length).map λw=>row.getD (aI xs w) 0).getD j 0))) ?_ ?_
   . intro D' j x ys o H8 hx inv
     obtain⟨hj,ix⟩:=cq tq hx;have S8:=inv.same;obtain⟨ax,_,rfl,_,_⟩:=bZ.mp (show Is K H7 x (.tuple _)from ix);have hfl:=(j6 xs).lt j hj;have hxe:xs.getD j 0=(ak xs).getD (aI xs j) 0:=(j6 xs).at' j hj;o_head ⟨D,ax,ep,_,fN (xs.getD j 0),ds.getD (aI xs j) 0,rfl,rfl,S8 _ _ e7,zwF (aj.same S8 _ _ tu7),ix.by S8,?_,?_⟩
     . rw[hxe,<- PY hfl]
       exact Zh nd hkl (by lia)
     . refine d7 inv (by lia) eA ⟨_,rfl⟩ (ah.refl _) ?_
       have hr:((wo xs.length).map λw=>row.getD (aI xs w) 0).getD j 0=row.getD (aI xs j) 0:=by
         rw[wb,wu,vH hj];rfl
       rw[hr];exact(cq tw7 (i:=aI xs j) (x:=.ref (ds.getD (aI xs j) 0)) (by rw[wu,wb,wc (by lia)];rfl)).2.by S8
   . intro D' ys H8 n8 S8 e8 hl8 hr8
     have t8:aj K H8 ys (((wo xs.length).map λw=>row.getD (aI xs w) 0).map N):=eO (by rw[hl8,hql];simp) hr8;rw[hel]at t8;o_head gE (b_ e8 t8) (λv9 H9 S9 i9=>?_);have S69:=S7.trans (S8.trans S9);o_head aF (j:=0) (hw6.by S69) rfl (λvr9 ir9=>?_);o_head aF (j:=0) (il6.by S69) rfl (λvz9 iz9=>?_);o_head aF (j:=1) (il6.by S69) rfl (λvp9 ip9=>?_);k_few
     refine znq ir9 iz9 ip9 hn (by lia) hlk cp (by
       have h5:=sz.sum;rw[wD];have:(6*(aX xs).sum.toNat+3)*r<=51*30:=Vh (by lia) h30;lia) (λv10 H10 S10 i10=>?_)
     rw[wD,<- Hr]at i10;o_head aF (j:=0) (hw6.by (S69.trans S10)) rfl (λvr10 ir10=>?_);o_head cR (ds:=[R ra rb,TN (ai ra rb xs (r*(ak xs).length))]) (by simp) (.cons ir10 (.cons (i9.by S10) .nil)) (λv11 H11 S11 i11=>?_);o_head cR (ds:=[N (bC ra rb xs (r*(ak xs).length)),bM ra rb (ai ra rb xs (r*(ak xs).length))]) (by simp) (.cons (i10.by S11) (.cons i11 .nil)) (λv12 H12 S12 i12=>?_);exact q v12 H12 (T6.trans (S69.trans (S10.trans (S11.trans S12)))) i12
def Ud(K:wa):Sp:=λvs H Q _=>∃x0 x1 x2,vs=[x0,x1,x2] /\ ∃(a b:Rat)(xs:List Rat)(r g:Nat),x1=.int (r:Int)/\x2=.int (g:Int)/\Is K H x0 (bM a b xs)/\aS a b/\1<=xs.length/\xs.length<=8/\(1<=r->gP a b xs/\r<=30/\gX a b xs r)/\g<=40/\ag 8000 (bC a b xs (r*(ak xs).length))/\(∀i,i<=g->Cm 3700 (bC a b (ai a b xs (r*(ak xs).length)) i::ai a b (ai a b xs (r*(ak xs).length)) i)) /\ ∀v H',ah H H'->Is K H' v (BD a b xs (r*(ak xs).length+g))->Q v H'
theorem ZU{a:Rat}{g:Nat}(h:Is K H v (bM a b xs))(ok:aS a b)(h1:1<=xs.length)(h8:xs.length<=8)(f:1<=r->gP a b xs/\r<=30/\gX a b xs r)(hg:g<=40)(c:ag 8000 (bC a b xs (r*(ak xs).length)))(c2:∀i,i<=g->Cm 3700 (bC a b (ai a b xs (r*(ak xs).length)) i::ai a b (ai a b xs (r*(ak xs).length)) i))(q:∀v H',ah H H'->Is K H' v (BD a b xs (r*(ak xs).length+g))->Q v H'):Ud K [v,.int (r:Int),.int (g:Int)] H Q E:=⟨_,_,_,rfl,a,b,xs,r,g,rfl,rfl,h,ok,h1,h8,f,hg,c,c2,q⟩
theorem zoZ(T:Txt K mg a):aK P w K mg base aR 10 a.IJ a.Hh AE (Ud K):=by
 refine T.HH.F.ok Cu ?_ ?_;wtm_at "b3"
 refine⟨_,(ao (az 3 Cu.nd (p5 (bD nJ (pv 1) ay (aU _)) (ar (Pc T) hr T.AQ (ae (pv 0) (ae (pv 1) af))) (aW (ae (bW (v:=.ref a.dF) rfl T.d8 rfl) (ae (pv 0) af)))))
     (ao (az 4 Cu.nd (ar (zwL T) hr T.Jv (ae (au (pv 3)) (ae (pv 2) af))))
     (av (aB (aW (ae (ar (gM T) hr T.gc (ae (au (pv 3)) (ae (au (pv 4)) af))) (ae (au (pv 4)) af))))))),?_⟩
 wtm_at "cl";rw[show start RZ [x0,x1,x2]=[some x0,some x1,some x2,none,none]from rfl];obtain⟨ra,rb,xs,r,g,rfl,rfl,hw,ok,h1,h8,f,hg,c,c2,q⟩:=h;k_few
 . rename_i z
   obtain⟨sw,h30,fr⟩:=f (by lia);refine Cg hw sw h30 fr (λv1 H1 S1 i1=>?_);o_head aF (j:=1) i1 rfl (λv2 i2=>?_);o_head Up i2 ok.ba ok.bb (by rw[bS];exact h1) (by rw[bS];exact h8) (by lia) (by lia) (by rw[wD];exact c2) (λv3 H3 S3 i3=>?_);rw[wD]at i3;have i13:=i1.by S3;o_head aF (j:=0) i13 rfl (λv4 i4=>?_);o_head aF (j:=0) i3 rfl (λv5 i5=>?_);have b5:ag 3700 (bC ra rb (ai ra rb xs (r*(ak xs).length)) g):=(c2 g (wp _)).fk (wJ ..);k_few;rename_i v6 H6 S6 i6;refine aF (j:=1) (i3.by S6) rfl (λv7 i7=>?_);k_few;rw[m8]at i6;rw[d5]at i7;refine cR (ds:=[N (bC ra rb xs (r*(ak xs).length+g)),bM ra rb (ai ra rb xs (r*(ak xs).length+g))]) (by simp) (.cons i6 (.cons i7 .nil)) (λv8 H8 S8 i8=>?_);exact q v8 H8 (S1.trans (S3.trans (S6.trans S8))) i8
 . rename_i z
   have hr0:r=0:=by lia
   refine cR (ds:=[N 0,bM ra rb xs]) (by simp) (.cons (d_ 0 (T.e_ _) rfl rfl) (.cons hw .nil)) (λv1 H1 S1 i1=>?_);have i1:Is K H1 v1 (BD ra rb xs (r*(ak xs).length)):=by rw[hr0,QQ];exact i1
   o_head aF (j:=1) i1 rfl (λv2 i2=>?_);o_head Up i2 ok.ba ok.bb (by rw[bS];exact h1) (by rw[bS];exact h8) (by lia) (by lia) (by rw[wD];exact c2) (λv3 H3 S3 i3=>?_);rw[wD]at i3;have i13:=i1.by S3;o_head aF (j:=0) i13 rfl (λv4 i4=>?_);o_head aF (j:=0) i3 rfl (λv5 i5=>?_);have b5:ag 3700 (bC ra rb (ai ra rb xs (r*(ak xs).length)) g):=(c2 g (wp _)).fk (wJ ..);k_few;rename_i v6 H6 S6 i6;refine aF (j:=1) (i3.by S6) rfl (λv7 i7=>?_);k_few;rw[m8]at i6;rw[d5]at i7;refine cR (ds:=[N (bC ra rb xs (r*(ak xs).length+g)),bM ra rb (ai ra rb xs (r*(ak xs).length+g))]) (by simp) (.cons i6 (.cons i7 .nil)) (λv8 H8 S8 i8=>?_);exact q v8 H8 (S1.trans (S3.trans (S6.trans S8))) i8
def dM(a b:Rat)(xs:List Rat):Option String :=
 if(ak xs).length=1 then some "one"
 else if dW a b (aX xs) (aY xs)=true then
  if cO a b (aX xs) (aY xs)=aY xs then some "rests"
  else if a<1/\kJ a b (aX xs)=true then some "drawn" else none
 else none
def k_:Option String->V
 | none=>.bY
 | some s=>.str (vk s)
def U7(K:wa):Sp:=λvs H Q _=>∃x0,vs=[x0] /\ ∃(a b:Rat)(xs:List Rat),Is K H x0 (bM a b xs)/\gP a b xs /\ ∀H',ah H H'->Q (k_ (dM a b xs)) H'
theorem zuj{a:Rat}(h:Is K H v (bM a b xs))(ok:gP a b xs)(q:∀H',ah H H'->Q (k_ (dM a b xs)) H'):U7 K [v] H Q E:=⟨_,rfl,a,b,xs,h,ok,q⟩
theorem zt5(T:Txt K mg a):aK P w K mg base aR 10 a.JS a.IK zE (U7 K):=by
 refine T.Jo.F.ok UO ?_ ?_;wtm_at "b1"
 refine⟨_,(ao (bL (bD (show aH _ (wH .Eq) (cn K)from cV hu) (bA (show aE _ (.builtin "len") (cj K)from cX) rfl T.h0Y cY (ae (ar (Fn T) hr T.sS (ae (pv 0) af)) af)) ay (aU _)) (av (aB dX)) bN)
     (ao (bL (dy (cA (ar (PF T) hr T.A5 (ae (pv 0) af)))) (av (aB fS)) bN)
     (ao (az 1 UO.nd (oj (CM T) hr T.sW Ou (ae (pv 0) af)))
     (ao (bL (dy (cA (ar (FH T) hr T.sQ (ae (au (pv 0)) (ae (au (pv 1)) (ae (au (pv 1)) af)))))) (av (aB fS)) bN)
     (ao (bL (bD (show aH _ (wH .Eq) (cn K)from cV hu) (ar (L_ T) hr T.AR (ae (au (pv 0)) (ae (au (pv 1)) (ae (au (pv 1)) af)))) (au (pv 1)) (aU _)) (av (aB dX)) bN)
     (ao (bL (PW.pt (As (bD (show aH _ (wH .Eq) (cn K)from cV hu) (ar (M4 T) hr T.Ba (ae (au (pv 0)) af)) dX (aU _)) (Ai (cA (ar (Mp T) hr T.AS (ae (au (pv 0)) (ae (au (pv 1)) af))))))) (av (aB dX)) bN)
     (av (aB fS)))))))),?_⟩
 wtm_at "cl";rw[show start MO [x0]=[some x0,none]from rfl];obtain⟨ra,rb,xs,hw,ok,q⟩:=h;obtain⟨rok,sz,hn⟩:=ok.round;have h8:=ok.h8;have bx:∀i,ag 4000 (xs.getD i 0):=λi=>(ok.cm.get i).mono (by decide)
 have bp:∀i,ag 4000 ((aY xs).getD i 0):=λi=>((oq ok.cm).get i).mono (by decide)
 unfold dM at q;o_head BJ hw h8 bx (λlf H1 us1 n1 S1 e1 t1=>?_);have hul:=t1.length;rw[wm]at hul;have hw1:=hw.by S1;o_head eQ (.of e1) ?_;rw[hul];k_few
 . rename_i z
   have z:(ak xs).length=1:=by lia
   rw[if_pos z]at q;exact q _ S1
 . rename_i z
   have z:¬ (ak xs).length=1:=by lia
   rw[if_neg z]at q;refine Ue hw1 ?_;rw[decide_eq_true ok.h0];o_head DM hw1 h8 bx (λz=>absurd ok.h0 z) (λ_ vl H2 S2 il=>?_);have hw2:=hw1.by S2;o_head aF (j:=0) hw2 rfl (λvr ir=>?_);o_head aF (j:=0) il rfl (λvz iz=>?_);o_head aF (j:=1) il rfl (λvp ip=>?_);o_head Cp ir iz ip rok (λH3 S3=>?_);have T3:=S1.trans (S2.trans S3);have hw3:=hw2.by S3;have il3:=il.by S3;clear hw hw1 hw2 il ir iz ip S1 S2 S3 e1 t1 n1;k_few
   . rename_i y
     rw[if_neg (by rw[y];decide)]at q;exact q _ T3
   . rename_i y
     rw[if_pos y]at q;refine aF (j:=0) hw3 rfl (λvr ir=>?_);o_head aF (j:=0) il3 rfl (λvz iz=>?_);o_head aF (j:=1) il3 rfl (λvp ip=>?_);o_head OY ir iz ip rok (λv4 H4 S4 i4=>?_);o_head aF (j:=1) (il3.by S4) rfl (λvp4 ip4=>?_);refine N7 i4 ip4 ?_;k_few
     . rename_i u
       rw[if_pos u]at q;exact q _ (T3.trans S4)
     . rename_i u
       rw[if_neg u]at q;refine aF (j:=0) (hw3.by S4) rfl (λvr4 ir4=>?_);o_head PB ir4 (ok.ok.ba.mono (by decide)) ?_;unfold rA
       by_cases z1:1<ra
       . rw[if_pos z1]
         o_head jT _ _ false (by rw[wP];decide) ?_;k_few;rw[if_neg (λh=>absurd h.1 (by grind))]at q;exact q _ (T3.trans S4)
       . rw[if_neg z1]
         by_cases z2:ra=1
         . rw[if_pos z2]
           o_head jT _ _ false (by rw[wP];decide) ?_;k_few;rw[if_neg (λh=>absurd h.1 (by grind))]at q;exact q _ (T3.trans S4)
         . rw[if_neg z2]
           have ha:ra<1:=by
             by_cases h:ra<1
             . exact h
             . exact absurd (qy (Vl.mp h) (Wt z2)) z1
           o_head jT _ _ true (by rw[wP];decide) ?_;o_head aF (j:=0) (hw3.by S4) rfl (λvr5 ir5=>?_);o_head aF (j:=0) (il3.by S4) rfl (λvz5 iz5=>?_);o_head OW ir5 iz5 ok.ok sz z2 (λH5 S5=>?_);k_few
           . rename_i d
             rw[if_pos ⟨ha,d⟩]at q;exact q _ (T3.trans (S4.trans S5))
           . rename_i d
             rw[if_neg (λh=>by rw[h.2]at d;cases d)]at q;exact q _ (T3.trans (S4.trans S5))
def MX(K:wa):Sp:=λvs H Q _=>∃x0,vs=[x0] /\ ∃(a b:Rat)(xs:List Rat)(g:Nat),Is K H x0 (bM a b xs)/\aS a b/\1<=xs.length/\xs.length<=8/\g<=8/\(∀t,t<=g->Cm 3700 (ai a b xs t))/\(∀t,t<g->(cH a b (ai a b xs t)).length=1)/\(cH a b (ai a b xs g)).length≠1 /\ ∀H',ah H H'->Q (.int ((g+1:Nat):Int)) H'
theorem SJ{a:Rat}{g:Nat}(h:Is K H v (bM a b xs))(ok:aS a b)(h1:1<=xs.length)(h8:xs.length<=8)(hg:g<=8)(c:∀t,t<=g->Cm 3700 (ai a b xs t))(w1:∀t,t<g->(cH a b (ai a b xs t)).length=1)(w2:(cH a b (ai a b xs g)).length≠1)(q:∀H',ah H H'->Q (.int ((g+1:Nat):Int)) H'):MX K [v] H Q E:=⟨_,rfl,a,b,xs,g,h,ok,h1,h8,hg,c,w1,w2,q⟩
theorem zlI(T:Txt K mg a):aK P w K mg base aR 5 a.G8 a.GO zH (MX K):=by
 refine T.GR.F.ok pz ?_ ?_;wtm_at "b1"
 refine⟨_,(ao (az 1 pz.nd ay)
     (ao (az 2 pz.nd (ar (Ep T) hr T.sZ (ae (pv 0) af)))
     (ao (iW vg (bD (show aH _ (wH .Eq) (cn K)from cV hu) (bA (show aE _ (.builtin "len") (cj K)from cX) rfl T.h0Y cY (ae (au (pv 2)) af)) ay (aU _)) (ao (zCh (i:=1) pz.nd rfl (Or.inl rfl) ay zCm)
     (av (az 2 pz.nd (ar (Ep T) hr T.sZ (ae (au (pv 2)) af))))))
     (av (aB (pv 1)))))),?_⟩
 wtm_at "cl";rw[show start KP [x0]=[some x0,none,none]from rfl];obtain⟨ra,rb,xs,g,hw,ok,h1,h8,hg,c,w1,w2,q⟩:=h;o_head CT hw ok.ba ok.bb h1 h8 (c 0 (by lia)) (by lia) (λv2 H2 S2 i2=>?_);o_head jN (λm σ' H'=>∃(t:Nat)(v:V),σ'=[some x0,some (.int ((t+1:Nat):Int)),some v]/\m=g-t/\t<=g/\ah H H'/\Is K H' v (GD ra rb (ai ra rb xs t))) _ ⟨0,v2,rfl,rfl,by lia,S2,i2⟩ ?_;rintro m σ' H3 ⟨t,v,rfl,rfl,ht,S3,iv⟩;o_head aF (j:=1) iv rfl (λv4 i4=>?_);o_head mm i4 ?_;rw[wm];k_few
 . rename_i z
   have z:(cH ra rb (ai ra rb xs t)).length=1:=by lia
   have htg:t<g:=by
     rcases wG t g with y | y
     . exact y
     . have:t=g:=by lia
       subst this;exact absurd z w2
   have hpl:=bS ra rb xs t;have hpl2:=bS ra rb xs (t+1);refine ky ?_;o_head zAc rfl ?_;o_head zC1 ?_;o_head aF (j:=2) iv rfl (λv5 i5=>?_);o_head CT (show Is K H3 v5 (bM ra rb (ai ra rb xs (t+1)))from i5) ok.ba ok.bb (by lia) (by lia) (c (t+1) (by lia)) (by lia) (λv6 H6 S6 i6=>?_);k_few;exact⟨g-(t+1),by lia,t+1,v6,by push_cast;rfl,rfl,by lia,S3.trans S6,i6⟩
 . rename_i z
   have htg:t=g:=by
     rcases wG t g with y | y
     . exact absurd (by rw[w1 t y];rfl) z
     . lia
   subst htg;exact q H3 S3
def Ov(B:Int)(x:Rat):Prop:=∃t:Int,x=wx t B
theorem Ov.zero(B:Int):Ov B 0:=⟨0,by simp⟩
theorem Ov.more{d:Int}(h:Ov B x)(hB:0<B)(hd:0<d):Ov (B*d) x:=by
 obtain⟨t,rfl⟩:=h;exact⟨t*d,rn hB hd⟩
theorem zzK(t u:Int):∃m,Bd m t/\Bd m u:=⟨t.natAbs+u.natAbs,⟨WY (by lia:t.natAbs<=t.natAbs+u.natAbs) xR⟩,⟨WY (by lia:u.natAbs<=t.natAbs+u.natAbs) xR⟩⟩
theorem zDD{a:Rat}(h:aS a b):Bd 6 a.num:=by
 have h1:=h.a0;have h2:=h.a4;have h3:=h.ad;have n0:0<=a.num:=qF.mpr (Wg h1)
 have n1:a.num<=4*a.den:=by
   have:=(xA a 4).mp h2
   simpa using this
 exact ⟨by have : (2 : Nat) ^ 6 = 64 := by decide
           lia⟩
theorem zEa{a:Rat}(h:aS a b):Bd 4 (a.den:Int):=by
 have h3:=h.ad
 exact ⟨by have : (2 : Nat) ^ 4 = 16 := by decide
           lia⟩
theorem zDN{a:Rat}(h:aS a b):Bd 4 b.num:=by
 have h1:=h.b0;have h2:=h.b1;have h3:=h.bd;have n0:0<=b.num:=qF.mpr h1
 have n1:b.num<=b.den:=by
   have:=(xA b 1).mp h2
   simpa using this
 exact ⟨by have : (2 : Nat) ^ 4 = 16 := by decide
           lia⟩
theorem Ov.push{a:Rat}(ok:aS a b)(hB:0<B)(hd:(b.den:Int) ∣ B)(h:Ov B x)(n:Nat):Ov (B*(a.den:Int)^n) (push a b n x):=by
 obtain⟨t,rfl⟩:=h;obtain⟨m,h1,h2⟩:=zzK t B;obtain⟨_,_,_,T,e,_⟩:=LP (zDD ok) (zEa ok) (zDN ok) hB hd h1 h2 n;exact⟨T,e⟩
theorem rV(a:Rat)(n:Nat):0<(a.den:Int)^n:=Xz (den_pos a)
theorem Ov.up{a:Rat}(h:Ov B x)(hB:0<B)(n:Nat):Ov (B*(a.den:Int)^n) x:=h.more hB (rV a n)
theorem MB(h:∀x∈xs,Ov B x)(i:Nat):Ov B (xs.getD i 0):=by
 rcases wG i xs.length with z | z
 ·exact h _ (getD_mem z)
 ·rw[wb,wL z];exact Ov.zero B
theorem zwZ(h:∀i,i<xs.length->Ov B (xs.getD i 0)):∀x∈xs,Ov B x:=λx hx=>by
 obtain⟨j,hj,rfl⟩:=vj hx;have:=h j hj;rw[wb,wc hj]at this;exact this
theorem Sr{a b:Rat}(ok:aS a b):∀(n:Nat)(B:Int)(ps:List Rat)(left:List Nat),0<B->(b.den:Int) ∣ B->left.Nodup->(∀w∈left,w<ps.length)->(∀x∈ps,Ov B x)->∀x∈(cP a b n ps left).2.2,Ov (B*(a.den:Int)^(cP a b n ps left).1.flatten.length) x
 | 0,B,ps,left,hB,_,_,_,h=>λx hx=>by
  have:Ov (B*(a.den:Int)^0) x:=by rw[Qa,Q7];exact h x hx
  exact this
 | n+1,B,ps,left,hB,hd,nd,lt,h=>by
  by_cases e:aA ps left=[]
  ·rw[mH e]
   intro x hx;have:Ov (B*(a.den:Int)^0) x:=by rw[Qa,Q7];exact h x hx
   exact this
  ·rw[iX e]
   have nd':(bR left (aA ps left)).Nodup:=ng nd;have lt':=oA (wave:=aA ps left) lt
   have ih:=Sr ok n (B*(a.den:Int)^(aA ps left).length) (cD (a^(aA ps left).length) (aC a b (aA ps left).length) ps (bR left (aA ps left))) (bR left (aA ps left)) (vU hB (rV a _)) (qd hd (Vy ..)) nd' (λw hw=>by rw[gT];exact lt' w hw) (zwZ λi hi=>by
    rw[iN _ _ _ _ nd' lt']
    split
    ·rw[<- h_];exact(MB h i).push ok hB hd _
    ·exact(MB h i).up hB _)
   intro x hx;have:=ih x hx
   show Ov (B*(a.den:Int)^(aA ps left::_).flatten.length) x
   rw[Vx,wQ,XE,<- VO];exact this
theorem Ov.rise(hx:Ov B x)(hy:Ov B y)(hB:0<B):Ov B (x+(1-y)):=by
 obtain⟨t,rfl⟩:=hx;obtain⟨z,rfl⟩:=hy;refine⟨t+B-z,?_⟩
 symm
 refine fG (by lia) ?_;have q1:=c7 t (show B≠0 by lia);have q2:=c7 z (show B≠0 by lia);have q3:((t+B-z:Int):Rat)=(t:Rat)+(B:Rat)-(z:Rat):=by push_cast;rfl
 rw[q3,<- q1,<- q2]
 grind
def jZ(a b:Rat)(xs:List Rat):Nat:=(cH a b xs).flatten.length
theorem zzI{a:Rat}(ok:aS a b)(hB:0<B)(hd:(b.den:Int) ∣ B)(h1:1<=xs.length)(h:∀x∈xs,Ov B x):∀y∈cZ a b xs,Ov (B*(a.den:Int)^jZ a b xs) y:=by
 have hr:∀x∈bQ xs,Ov B x:=λx hx=>by
  obtain⟨y,hy,rfl⟩:=wV.mp hx;exact(h y hy).rise (h _ (fR h1)) hB
 have:=Sr ok xs.length B (bQ xs) (wo xs.length) hB hd WK (λw hw=>by rw[eX];exact wF.mp hw) hr;intro y hy;rcases zyU y hy with z | z
 ·exact this y z
 ·rw[z];exact Ov.zero _
def cu(a b:Rat)(xs:List Rat):Nat->Nat
 | 0=>0
 | k+1=>cu a b xs k+jZ a b (ai a b xs k)
theorem nk(a b:Rat)(xs:List Rat)(m:Nat):∀k,cu a b xs (m+k)=cu a b xs m+cu a b (ai a b xs m) k
 | 0=>rfl
 | k+1=>by
  show cu a b xs (m+k)+jZ a b (ai a b xs (m+k))=cu a b xs m+(cu a b (ai a b xs m) k+jZ a b (ai a b (ai a b xs m) k))
  rw[nk a b xs m k,d5];lia
theorem Td{a b:Rat}(ok:aS a b){B:Int}(hB:0<B)(hd:(b.den:Int) ∣ B){xs:List Rat}(h1:1<=xs.length)(h:∀x∈xs,Ov B x):∀k,(∀y∈ai a b xs k,Ov (B*(a.den:Int)^cu a b xs k) y)/\Ov (B*(a.den:Int)^cu a b xs k) (bC a b xs k)
 | 0=>by
  show(∀y∈xs,Ov (B*(a.den:Int)^0) y)/\Ov (B*(a.den:Int)^0) 0
  rw[Qa,Q7];exact⟨h,Ov.zero B⟩
 | k+1=>by
  obtain⟨hp,hh⟩:=Td ok hB hd h1 h k;have hBk:=vU hB (rV a (cu a b xs k));have hpl:=bS a b xs k
  have e:B*(a.den:Int)^cu a b xs (k+1)=B*(a.den:Int)^cu a b xs k*(a.den:Int)^jZ a b (ai a b xs k):=by
   rw[VO,<- XE];rfl
  rw[e];refine⟨zzI ok hBk (qd hd (Vy ..)) (by lia) hp,?_⟩;exact(Ov.rise hh (hp _ (fR (by lia))) hBk).up hBk _
theorem Of{a b:Rat}(a0:0<a)(b0:0<=b){xs:List Rat}(h1:1<=xs.length)(hp:dk xs):∀k:Nat,0<=bC a b xs k/\bC a b xs k<=((k:Int):Rat)
 | 0=>⟨WS,WS⟩
 | k+1=>by
  obtain⟨l,u⟩:=Of a0 b0 h1 hp k;have hk:=hp.at a0 b0 k;have hm:=fR (xs:=ai a b xs k) (by rw[bS];exact h1);have m0:=hk.nn _ hm;have m1:=hk.lt _ hm;have e:bC a b xs (k+1)=bC a b xs k+(1-a_ (ai a b xs k)):=rfl;have ek:(((k+1:Nat):Int):Rat)=((k:Int):Rat)+1:=by push_cast;rfl
  rw[e,ek];exact⟨by grind,by grind⟩
theorem Pu{l:Nat}(hB:0<B)(bB:Bd m B)(h:Ov B x)(x0:0<=x)(x1:x<=(((2^l:Nat):Int):Rat)):∃t:Int,x=wx t B/\Bd (m+l+1) t:=by
 obtain⟨t,rfl⟩:=h;refine⟨t,rfl,?_⟩;have q1:=c7 t (show B≠0 by lia);have hBr:(0:Rat)<(B:Rat):=X5.mpr hB;have t0:(0:Rat)<=(t:Rat):=by rw[<- q1];exact Qf x0 (Wg hBr)
 have t1:(t:Rat)<=(((2^l:Nat):Int):Rat)*(B:Rat):=by
  rw[<- q1];exact Qb x1 (Wg hBr)
 have t0':0<=t:=Rat.intCast_nonneg.mp t0
 have t1':t<=((2^l:Nat):Int)*B:=by
  rw[<- vP]at t1;exact Vk.mp t1
 have b:=bB.lt;refine⟨?_⟩
 have hb:t.natAbs<=2^l*B.natAbs:=by
  have e:((2^l*B.natAbs:Nat):Int)=((2^l:Nat):Int)*B:=by
   rw[Vq]
   congr 1
   lia
  lia
 have:2^l*B.natAbs<2^l*2^m:=Nat.mul_lt_mul_of_pos_left b (Wp l);have e2:2^(m+l+1)=2^l*2^m*2:=by rw[Vm,xb,xX (2^m)]
 lia
theorem zAM{a:Rat}(ok:aS a b)(h:Bd m B)(n:Nat):Bd (m+3*n) (B*(a.den:Int)^n):=by
 refine⟨?_⟩;have h1:=h.lt;have h8:=ok.ad;rw[xq,Int.natAbs_pow,Int.natAbs_natCast,xb,Nat.pow_mul];have e:(2:Nat)^3=8:=by decide
 rw[e];have h2:a.den^n<=8^n:=Nat.pow_le_pow_left h8 n;have hp:0<8^n:=Nat.pow_pos (by decide);exact WY (Qd _ h2) (Nat.mul_lt_mul_of_pos_right h1 hp)
theorem Ov.sub(hx:Ov B x)(hy:Ov B y)(hB:0<B):Ov B (x-y):=by
 obtain⟨t,rfl⟩:=hx;obtain⟨z,rfl⟩:=hy;refine⟨t-z,?_⟩
 symm
 refine fG (by lia) ?_;have q1:=c7 t (show B≠0 by lia);have q2:=c7 z (show B≠0 by lia);have q3:((t-z:Int):Rat)=(t:Rat)-(z:Rat):=by push_cast;rfl
 rw[q3,<- q1,<- q2]
 grind
theorem Nz{a:Rat}(ok:aS a b)(c:iF b.den m xs)(h1:1<=xs.length)(hp:dk xs){l:Nat}(hk:k<=2^l):Cm (m+3*cu a b xs (i+k)+l+1) (bC a b (ai a b xs i) k::ai a b (ai a b xs i) k):=by
 obtain⟨B,hB,hd,bB,hx⟩:=c;have hov:=Td ok hB hd h1 (λx hx'=>let ⟨t,e,_⟩:=hx x hx';⟨t,e⟩);obtain⟨hph,hh⟩:=hov (i+k);have hBk:=vU hB (rV a (cu a b xs (i+k)))
 have hi:Ov (B*(a.den:Int)^cu a b xs (i+k)) (bC a b xs i):=by
  have:=((hov i).2).up (a:=a) (vU hB (rV a (cu a b xs i))) (cu a b (ai a b xs i) k);rw[VO,<- XE,<- nk]at this;exact this
 have hhk:Ov (B*(a.den:Int)^cu a b xs (i+k)) (bC a b (ai a b xs i) k):=by
  have e:bC a b (ai a b xs i) k=bC a b xs (i+k)-bC a b xs i:=by
   have:=m8 a b xs i k
   grind
  rw[e];exact hh.sub hi hBk
 have bb:=zAM ok bB (cu a b xs (i+k));have hpi:=hp.at ok.a0 ok.b0 i;have hpk:=hpi.at ok.a0 ok.b0 k;have hl:(((k:Nat):Int):Rat)<=(((2^l:Nat):Int):Rat):=Vk.mpr (by lia)
 have h1l:(1:Rat)<=(((2^l:Nat):Int):Rat):=by
  have:((1:Int):Rat)<=(((2^l:Nat):Int):Rat):=Vk.mpr (by have:=Wp l;lia);exact this
 refine⟨_,hBk,bb.mono (by lia),λx hx'=>?_⟩;rcases wR.mp hx' with rfl | hx'
 ·have hb:=Of ok.a0 ok.b0 (xs:=ai a b xs i) (by rw[bS];exact h1) hpi k
  exact Pu hBk bb hhk hb.1 (QM hb.2 hl)
 ·have:=hph x (by rw[<- d5];exact hx')
  exact Pu hBk bb this (hpk.nn x hx') (QM (Wg (hpk.lt x hx')) h1l)
theorem zzF{a:Rat}(a0:0<a)(b0:0<=b)(h1:1<=xs.length)(hp:dk xs):jZ a b xs<=xs.length:=by
 obtain⟨v,J⟩:=yB a0 b0 h1 hp.nn hp.lt;unfold jZ;rw[J.perm.length_eq];unfold seg;have:=vT (λw=>decide (0<=aI xs w)&&decide (aI xs w<v)) (wo xs.length);rw[vi]at this;exact this
theorem tX{a b:Rat}(a0:0<a)(b0:0<=b){xs:List Rat}(h1:1<=xs.length)(hp:dk xs):∀k,cu a b xs k<=k*xs.length
 | 0=>qi _
 | k+1=>by
  have ih:=tX a0 b0 h1 hp k;have hl:=bS a b xs k;have:=zzF a0 b0 (xs:=ai a b xs k) (by lia) (hp.at a0 b0 k);rw[qw]
  show cu a b xs k+jZ a b (ai a b xs k)<=_
  lia
theorem ztS{a:Rat}(a0:0<a)(b0:0<=b)(h1:1<=xs.length)(hp:dk xs):1<=(cH a b xs).length:=by
 obtain⟨v,J⟩:=yB a0 b0 h1 hp.nn hp.lt;obtain⟨ws,e,_⟩:=J.first;rw[e];simp
theorem Dl{a:Rat}(a0:0<a)(b0:0<=b)(h1:1<=xs.length)(hp:dk xs):(ak (cZ a b xs)).length<=(ak xs).length/\(1<(cH a b xs).length->(ak (cZ a b xs)).length<(ak xs).length):=by
 obtain⟨v,J⟩:=yB a0 b0 h1 hp.nn hp.lt;have e:=congrArg Xw J.new;rw[iB,wQ,vZ,iB,vS]at e;have v1:=J.v1;have vm:=J.vm;exact⟨by lia,λh=>by have:=J.more.mp h;lia⟩
theorem BL{a b:Rat}(a0:0<a)(b0:0<=b){xs:List Rat}(h1:1<=xs.length)(hp:dk xs):∀k,(ak (ai a b xs k)).length<=(ak xs).length
 | 0=>wp _
 | k+1=>Wl (Dl a0 b0 (xs:=ai a b xs k) (by rw[bS];exact h1) (hp.at a0 b0 k)).1 (BL a0 b0 h1 hp k)
theorem Ug{a b:Rat}(ok:aS a b){xs ps:List Rat}{fl:Nat->Nat}{ns:List Int}(L:fL xs (ps++[0]) fl ns)(hn:ns.length=ps.length+1)(f:dW a b ns ps=true):∀t,t<=ns.length->cu a b xs t=upTo ns t
 | 0,_=>rfl
 | t+1,ht=>by
  have ih:=Ug ok L hn f t (by lia);have hw:=(O8 ok L hn f).2.1 t (by lia);have hl:(ps++[0]).length=ns.length:=by simp[hn]
  have hs:=L.size t (by lia)
  show cu a b xs t+jZ a b (ai a b xs t)=_
  unfold jZ;rw[hw,ih,rE (by lia),hs];simp
theorem Dr{a b:Rat}(ok:aS a b){xs ps:List Rat}{fl:Nat->Nat}{ns:List Int}(L:fL xs (ps++[0]) fl ns)(hn:ns.length=ps.length+1)(n0:∀n∈ns,0<=n):∀k,(∀j,j<k->cF a b ns ps j=true)->cu a b xs (k*ns.length)=k*upTo ns ns.length
 | 0,_=>by rw[QQ,QQ];rfl
 | k+1,h=>by
  have ih:=Dr ok L hn n0 k λj hj=>h j (by lia)
  obtain⟨Lk,_⟩:=pK ok L hn n0 k λj hj=>h j (by lia)
  have hl:ns.length=(cf a b ns k ps).length+1:=by rw[df];exact hn
  rw[qw,nk,ih,Ug ok Lk hl (h k (by lia)) _ (wp _),qw]
structure eU(a b:Rat)(xs:List Rat)(r g:Nat):Prop where
 lR:r<=30
 free:gX a b xs r
 ends:cF a b (aX xs) (aY xs) r=false
 g1:1<=g
 gN:g<=(ak xs).length
 one:∀t,t+1<g->(cH a b (ai a b (ai a b xs (r*(ak xs).length)) t)).length=1
 join:1<(cH a b (ai a b (ai a b xs (r*(ak xs).length)) (g-1))).length
theorem Th{p:Nat->Prop} : ∀n,(∃t,t<n /\ ¬ p t)->∃g,g<n/\(∀t,t<g->p t) /\ ¬ p g
 | 0,h=>by obtain⟨t,ht,_⟩:=h;lia
 | n+1,h=>by
  by_cases z:∃t,t<n /\ ¬ p t
  ·obtain⟨g,h1,h2,h3⟩:=Th n z
   exact⟨g,by lia,h2,h3⟩
  ·obtain⟨t,ht,hp⟩:=h
   have htn:t=n:=by
    rcases wG t n with y | y
    ·exact absurd ⟨t,y,hp⟩ z
    ·lia
   subst htn;exact⟨t,by lia,λs hs=>We.mp λy=>z ⟨s,hs,y⟩,hp⟩
structure zCn(a b:Rat)(xs:List Rat):Prop where
 hz:aY xs++[0]=ak xs
 hn:(aX xs).length=(aY xs).length+1
 hs:(aX xs).length=(ak xs).length
 L:fL xs (aY xs++[0]) (aI xs) (aX xs)
theorem pX{a:Rat}(hp:dk xs)(h0:0∈xs):zCn a b xs:=by
 have hz:aY xs++[0]=ak xs:=yk hp h0;have hsl:=jC xs;have hpl:(aY xs).length+1=(ak xs).length:=by rw[<- hz];simp
 exact⟨hz,by lia,hsl,by rw[hz];exact Sd hp.nn hp.lt⟩
theorem Bk{a:Rat}(ok:aS a b)(h1:1<=xs.length)(hp:dk xs)(h0:0∈xs)(h30:r<=30)(f:gX a b xs r)(e:cF a b (aX xs) (aY xs) r=false):∃g,eU a b xs r g:=by
 obtain⟨hz,hn,hs,L⟩:=pX (a:=a) (b:=b) hp h0;obtain⟨Lr,_⟩:=pK ok L hn (m5 xs) r f;obtain⟨t,ht,hj⟩:=zxt ok Lr (by rw[df];exact hn) e;rw[hs]at ht hj;obtain⟨g,g1,g2,g3⟩:=Th (p:=λt=>(cH a b (ai a b (ai a b xs (r*(ak xs).length)) t)).length=1) (ak xs).length ⟨t,ht,λz=>by rw[z]at hj;lia⟩;refine⟨g+1,h30,f,e,by lia,by lia,λt ht=>g2 t (by lia),?_⟩;have:=ztS (a:=a) (b:=b) ok.a0 ok.b0 (xs:=ai a b (ai a b xs (r*(ak xs).length)) g) (by rw[bS,bS];exact h1) ((hp.at ok.a0 ok.b0 _).at ok.a0 ok.b0 _);rw[VR];have g3:¬ (cH a b (ai a b (ai a b xs (r*(ak xs).length)) g)).length=1:=g3;lia
theorem eU.cu{a:Rat}{g:Nat}(R:eU a b xs r g)(ok:aS a b)(h1:1<=xs.length)(hp:dk xs)(h0:0∈xs){t:Nat}(ht:t<=g):cu a b xs (r*(ak xs).length+t)<=30*xs.length+xs.length*xs.length:=by
 obtain⟨hz,hn,hs,L⟩:=pX (a:=a) (b:=b) hp h0;have h2:=Dr ok L hn (m5 xs) r R.free;rw[hs]at h2;have h3:=EJ xs;rw[hs]at h3;have h4:=tX ok.a0 ok.b0 (xs:=ai a b xs (r*(ak xs).length)) (by rw[bS];exact h1) (hp.at ok.a0 ok.b0 _) t;rw[bS]at h4;rw[nk,h2];have h5:r*upTo (aX xs) (ak xs).length<=30*xs.length:=Vh R.lR h3;have h6:t*xs.length<=xs.length*xs.length:=Wf _ (by have:=R.gN;have:=hW xs;lia);lia
theorem eU.Bf{a:Rat}{g:Nat}(R:eU a b xs r g)(ok:aS a b)(h1:1<=xs.length)(hp:dk xs):(ak (ai a b xs (r*(ak xs).length+g))).length<(ak xs).length:=by
 have g1:=R.g1
 have e:ai a b xs (r*(ak xs).length+g)=cZ a b (ai a b (ai a b xs (r*(ak xs).length)) (g-1)):=by
  rw[<- d5];obtain⟨k,rfl⟩:∃k,g=k+1:=⟨g-1,by lia⟩
  rfl
 have h2:dk (ai a b (ai a b xs (r*(ak xs).length)) (g-1)):=(hp.at ok.a0 ok.b0 _).at ok.a0 ok.b0 _;have hl:(ai a b (ai a b xs (r*(ak xs).length)) (g-1)).length=xs.length:=by rw[bS,bS]
 have h3:=(Dl ok.a0 ok.b0 (xs:=ai a b (ai a b xs (r*(ak xs).length)) (g-1)) (by lia) h2).2 R.join;have h4:=BL ok.a0 ok.b0 (xs:=xs) h1 hp (r*(ak xs).length+(g-1));rw[d5]at h3;rw[d5]at e;rw[e];lia
theorem zrU{a:Rat}(ok:aS a b)(sz:cS ns)(hn:ns.length=xs.length+1)(st:dD a b ns xs=true):cO a b ns xs=xs\/(a<1/\kJ a b ns=true):=by
 have hps:=sz.pos;unfold dD at st
 by_cases z1:1<a
 ·rw[if_pos z1]at st
  have e:=of_decide_eq_true st;have hF:a^ns.sum.toNat≠1:=λe=>absurd ((lB ok (by lia)).mp e) (by grind)
  refine .inl ?_;rw[<- yr hn sz.nn,zAO hF hn 1];rw[<- e,zyC]
 ·rw[if_neg z1]at st
  by_cases z2:a=1
  ·rw[if_pos z2]at st
   refine .inl ?_;rw[<- yr hn sz.nn]
   exact iC (df ..) λi hi=>by
    rw[df]at hi;have hi':i<(ck a b ns).length:=by rw[kP (by lia)];lia
    have hz:(ck a b ns).getD i 0=0:=by
     rw[Wc]at st;have:=st _ (wV.mpr ⟨_,getD_mem (d:=0) hi',rfl⟩);exact of_decide_eq_true this
    rw[iJ hi,hz];unfold ff;rw[z2,GM.one_pow',GM.one_pow']
    grind
  ·rw[if_neg z2]at st
   refine .inr ⟨?_,st⟩
   by_cases h:a<1
   ·exact h
   ·exact absurd (qy (Vl.mp h) (Wt z2)) z1
def mX(h:Rat)(xs:List Rat)(r g:Nat):wC:=.tuple [N h,TN xs,.int (r:Int),.int (g:Int)]
def dj(a b:Rat)(xs:List Rat)(i r g:Nat):Nat:=i+(r*(ak (ai a b xs i)).length+g)
def pE(a b:Rat)(xs:List Rat)(e:Nat × Nat × Nat):wC:=mX (bC a b xs e.1) (ai a b xs e.1) e.2.1 e.2.2
def DT(a b:Rat)(xs:List Rat)(n:Nat)(w:String):wC:=.tuple [N (bC a b xs n),TN (ai a b xs n),.str (vk w)]
def rH(a b:Rat)(xs:List Rat)(es:List (Nat × Nat × Nat))(n:Nat)(w:String):List wC:=es.map (pE a b xs)++[DT a b xs n w]
theorem zAf{a:Rat}(ok:gP a b xs)(h:dM a b xs=none)(f:cF a b (aX xs) (aY xs) 0=true):dD a b (aX xs) (aY xs)=false:=by
 obtain⟨_,sz,hn⟩:=ok.round;unfold cF at f;rw[p6]at f;cases e:dD a b (aX xs) (aY xs)with
 | false=>rfl
 | true =>
  unfold dM at h;rw[if_pos f]at h
  split at h
  ·cases h
  ·split at h
   ·cases h
   ·rename_i y
    rcases zrU ok.ok sz hn e with z | z
    ·exact absurd z y
    ·rw[if_pos z]at h;cases h
def MU(K:wa)(a:Ad):Sp:=λvs H Q E=>∃x0 x1,vs=[x0,x1] /\ ∃(ra rb h:Rat)(xs:List Rat),Is K H x0 (N h)/\Is K H x1 (bM ra rb xs)/\gP ra rb xs/\dM ra rb xs=none/\(∀r g t,eU ra rb xs r g->t<=g->Cm 3600 (ai ra rb xs (r*(ak xs).length+t))) /\
 ((∀k,k<=30->cF ra rb (aX xs) (aY xs) k=true)->∀H',ah H H'->E (.ref a.c6) none H') /\ ∀r g v H',eU ra rb xs r g->ah H H'->Is K H' v (mX h xs r g)->Q v H'
theorem zrO{h:Rat}{w:V}(h1:Is K H v (N h))(h2:Is K H w (bM ra rb xs))(ok:gP ra rb xs)(hw:dM ra rb xs=none)(c:∀r g t,eU ra rb xs r g->t<=g->Cm 3600 (ai ra rb xs (r*(ak xs).length+t)))(qe:(∀k,k<=30->cF ra rb (aX xs) (aY xs) k=true)->∀H',ah H H'->E (.ref a.c6) none H')(q:∀r g v H',eU ra rb xs r g->ah H H'->Is K H' v (mX h xs r g)->Q v H'):MU K a [v,w] H Q E:=⟨_,_,rfl,ra,rb,h,xs,h1,h2,ok,hw,c,qe,q⟩
theorem zs9(T:Txt K mg a):aK P w K mg base (fe P w) 12 a.Ju a.Ie yh (MU K a):=by
 refine T.Io.F.rC zl ?_ ?_;wtm_at "b2"
 refine⟨_,(ao (az 2 zl.nd (oj (CM T) hr T.sW zN (ae (pv 1) af)))
     (ao (az 3 zl.nd (oj (zov T) hr T.Hi zN (ae (au (pv 1)) (ae (au (pv 2)) (ae (au (pv 2)) af)))))
     (ao (az 4 zl.nd (ar (zlI T) hr T.GR (ae (au (ar (Pc T) hr T.AQ (ae (pv 1) (ae (pv 3) af)))) af)))
     (av (aB (aW (by exact(@ae _ _ _ _ _ (pv 0) (@ae _ _ _ _ _ (au (pv 1)) (@ae _ _ _ _ _ (pv 3) (@ae _ _ _ _ _ (pv 4) af dA) dA) jh) dA)))))))),?_⟩
 wtm_at "cl";rw[show start NA [x0,x1]=[some x0,some x1,none,none,none]from rfl];obtain⟨ra,rb,hr',xs,ih,hw,ok,hno,hc,qe,q⟩:=h;obtain⟨rok,sz,hn⟩:=ok.round;have h8:=ok.h8;have bx:∀i,ag 4000 (xs.getD i 0):=λi=>(ok.cm.get i).mono (by decide)
 o_head DM hw h8 bx (λz=>absurd ok.h0 z) (λ_ vl H1 S1 il=>?_);have hw1:=hw.by S1;o_head aF (j:=0) hw1 rfl (λvr ir=>?_);o_head aF (j:=0) il rfl (λvz iz=>?_);o_head aF (j:=1) il rfl (λvp ip=>?_);o_head zok ir iz ip ok.ok sz hn (oq ok.cm) (by decide) (λz H2 S2=>?_) (λz y H2 S2=>?_) (λc c1 c2 y z w H2 S2=>?_) (λy z H2 S2=>?_)
 . have RR:(0:Nat)<=30:=by decide
   have FF:gX ra rb xs 0:=λk hk=>by lia
   have EE:=z;k_few;obtain⟨g,R⟩:=Bk ok.ok ok.h1 ok.hp ok.h0 RR FF EE;have g1:=R.g1;have gN:=R.gN;have hvl:=hW xs;refine Cg (r:=0) (hw1.by S2) ok RR FF (λv3 H3 S3 i3=>?_);o_head aF (j:=1) i3 rfl (λv4 i4=>?_);k_few;have hj:=R.join;refine SJ (g:=g-1) i4 ok.ok (by rw[bS];exact ok.h1) (by rw[bS];exact h8) (by lia) (λt ht=>by rw[d5];exact(hc _ g t R (by lia)).mono (by decide)) (λt ht=>R.one t (by lia)) (by lia) (λH5 S5=>?_);rw[show g-1+1=g by lia];have S15:=S2.trans (S3.trans S5);o_head aF (j:=1) (hw1.by S15) rfl (λv6 i6=>?_);o_head cR (ds:=[N hr',TN xs,.int ((0:Nat):Int),.int (g:Int)]) (by simp) (.cons (ih.by (S1.trans S15)) (.cons i6 (.cons (cw.mpr rfl) (.cons (cw.mpr rfl) .nil)))) (λv7 H7 S7 i7=>?_);exact q 0 g v7 H7 R (S1.trans (S15.trans S7)) i7
 . rw[zAf ok hno z]at y
   cases y
 . have RR:=c2
   have FF:gX ra rb xs c:=z;have EE:=w;k_few;obtain⟨g,R⟩:=Bk ok.ok ok.h1 ok.hp ok.h0 RR FF EE;have g1:=R.g1;have gN:=R.gN;have hvl:=hW xs;refine Cg (r:=c) (hw1.by S2) ok RR FF (λv3 H3 S3 i3=>?_);o_head aF (j:=1) i3 rfl (λv4 i4=>?_);k_few;have hj:=R.join;refine SJ (g:=g-1) i4 ok.ok (by rw[bS];exact ok.h1) (by rw[bS];exact h8) (by lia) (λt ht=>by rw[d5];exact(hc _ g t R (by lia)).mono (by decide)) (λt ht=>R.one t (by lia)) (by lia) (λH5 S5=>?_);rw[show g-1+1=g by lia];have S15:=S2.trans (S3.trans S5);o_head aF (j:=1) (hw1.by S15) rfl (λv6 i6=>?_);o_head cR (ds:=[N hr',TN xs,.int (c:Int),.int (g:Int)]) (by simp) (.cons (ih.by (S1.trans S15)) (.cons i6 (.cons (cw.mpr rfl) (.cons (cw.mpr rfl) .nil)))) (λv7 H7 S7 i7=>?_);exact q c g v7 H7 R (S1.trans (S15.trans S7)) i7
 . exact qe z H2 (S1.trans S2)
def sD(a b:Rat)(xs:List Rat)(i r g:Nat):Prop:=(i=0/\r=0/\g=1)\/(1<=i/\dM a b (ai a b xs i)=none/\eU a b (ai a b xs i) r g)
def gq(a b:Rat)(xs:List Rat):Nat->List (Nat × Nat × Nat)->Nat->Prop
 | i,[],n=>i=n
 | i,e::es,n=>e.1=i/\sD a b xs i e.2.1 e.2.2/\gq a b xs (dj a b xs i e.2.1 e.2.2) es n
theorem gq.snoc{a b:Rat}{xs:List Rat} : ∀{es:List (Nat × Nat × Nat)}{i n r g:Nat},gq a b xs i es n->sD a b xs n r g->gq a b xs i (es++[(n,r,g)]) (dj a b xs n r g)
 | [],i,n,r,g,h,k=>by
  have e:i=n:=h;subst e;exact⟨rfl,k,rfl⟩
 | e::es,i,n,r,g,h,k=>⟨h.1,h.2.1,gq.snoc h.2.2 k⟩
theorem Fx(h:Rat)(xs:List Rat)(r g:Nat):dq (mX h xs r g)=true:=by rw[mX,dq,cz,cz,cz,cz,cz,kM,lP];rfl
theorem zw2(a b:Rat)(xs:List Rat)(n:Nat)(w:String):dq (DT a b xs n w)=true:=by rw[DT,dq,cz,cz,cz,cz,kM,lP];rfl
structure c_(a b:Rat)(xs:List Rat):Prop where
 ok:aS a b
 h1:1<=xs.length
 h6:xs.length<=6
 hp:dk xs
 sz:∃m,iF b.den m xs/\m+648*xs.length<=3935
theorem c_.of{a:Rat}(ok:aS a b)(h1:1<=xs.length)(h6:xs.length<=6)(ph:∀x∈xs,eJ x):c_ a b xs/\iF b.den 47 xs:=by
 have b6:∀j,ag 6 (xs.getD j 0):=λj=>by
  rcases wG j xs.length with z | z
  ·exact(ph _ (getD_mem z)).fk
  ·rw[wb,wL z];exact ag.zero.mono (by decide)
 have c0:Cm 43 xs:=(Cm.YY b6).mono (by lia);have c1:iF b.den 47 xs:=iF.of c0 (den_pos b) ⟨by have:=ok.bd;have:(2:Nat)^4=16:=(by decide);lia⟩;exact⟨⟨ok,h1,h6,⟨λx hx=>(ph x hx).nn,λx hx=>(ph x hx).lt⟩,47,c1,by lia⟩,c1⟩
def jf(a b:Rat)(xs:List Rat)(i:Nat):Prop:=cu a b xs i+216*(ak (ai a b xs i)).length<=6+216*xs.length/\i+186*(ak (ai a b xs i)).length<=1+186*6
structure fE(a b:Rat)(xs:List Rat)(es:List (Nat × Nat × Nat))(n:Nat)(w:String):Prop where
 walk:gq a b xs 0 es n
 e1:1<=es.length
 cg:es.length<=9
 n1:1<=n
 word:dM a b (ai a b xs n)=some w
 sp:jf a b xs n
theorem c_.jm{a:Rat}(h:c_ a b xs)(hg:cu a b xs (i+k)+216<=20+216*xs.length)(hk:k<=1024):Cm 3500 (bC a b (ai a b xs i) k::ai a b (ai a b xs i) k):=by
 obtain⟨m,c,hm⟩:=h.sz;exact(Nz h.ok c h.h1 h.hp (i:=i) (k:=k) (l:=10) (by rw[show(2:Nat)^10=1024 by decide];exact hk)).mono (by lia)
theorem c_.cm{a:Rat}(h:c_ a b xs)(hg:cu a b xs i+216<=20+216*xs.length)(hi:i<=1024):Cm 3500 (bC a b xs i::ai a b xs i):=h.jm (i:=0) (k:=i) (by rw[qY];exact hg) hi
theorem c_.Km{a:Rat}(h:c_ a b xs)(h1:1<=i)(c:Cm 3500 (bC a b xs i::ai a b xs i)):gP a b (ai a b xs i) :=
 ⟨h.ok,by rw[bS];exact h.h1,by rw[bS];have:=h.h6;lia,h.hp.at h.ok.a0 h.ok.b0 i,h.hp.zero h.ok.a0 h.ok.b0 h.h1 h1,(lD c λy hy=>wB _ hy).mono (by decide)⟩
theorem c_.nf{a:Rat}(h:c_ a b xs)(i:Nat):1<=(ak (ai a b xs i)).length/\(ak (ai a b xs i)).length<=6:=by
 have:=hW (ai a b xs i);rw[bS]at this;have h6:=h.h6;exact⟨tD (by rw[bS];exact h.h1),by lia⟩
theorem c_.nl{a:Rat}(i:Nat):(ak (ai a b xs i)).length<=xs.length:=by
 have:=hW (ai a b xs i);rw[bS]at this;exact this
theorem c_.one{a:Rat}(h:c_ a b xs):jf a b xs 1:=by
 have h6:=h.h6;have h1:=h.h1;have:=tX h.ok.a0 h.ok.b0 h.h1 h.hp 1;have:=(h.nf 1).2;have:=c_.nl (a:=a) (b:=b) (xs:=xs) 1;exact⟨by lia,by lia⟩
theorem c_.within{a:Rat}(h:c_ a b xs){g t:Nat}(i1:1<=i)(sp:jf a b xs i)(n2:2<=(ak (ai a b xs i)).length)(R:eU a b (ai a b xs i) r g)(ht:t<=g):cu a b xs (i+(r*(ak (ai a b xs i)).length+t))+216<=20+216*xs.length/\i+(r*(ak (ai a b xs i)).length+t)<=1024/\cu a b xs (i+(r*(ak (ai a b xs i)).length+t))<=cu a b xs i+216/\r*(ak (ai a b xs i)).length+t<=186:=by
 have h6:=h.h6;have nf:=(h.nf i).2;have hl:=bS a b xs i;have g1:=R.cu h.ok (by rw[hl];exact h.h1) (h.hp.at h.ok.a0 h.ok.b0 i) (h.hp.zero h.ok.a0 h.ok.b0 h.h1 i1) ht;rw[hl]at g1
 have g2:30*xs.length+xs.length*xs.length<=216:=by
  have:xs.length*xs.length<=6*6:=Vh h6 h6;lia
 have g3:r*(ak (ai a b xs i)).length<=30*6:=Vh R.lR nf;have g4:=R.gN;obtain⟨s1,s2⟩:=sp;rw[nk];exact⟨by lia,by lia,by lia,by lia⟩
theorem c_.next{a:Rat}(h:c_ a b xs){g:Nat}(i1:1<=i)(sp:jf a b xs i)(n2:2<=(ak (ai a b xs i)).length)(R:eU a b (ai a b xs i) r g):jf a b xs (dj a b xs i r g):=by
 obtain⟨_,_,w1,w2⟩:=h.within i1 sp n2 R (wp g);have f:=R.Bf h.ok (by rw[bS];exact h.h1) (h.hp.at h.ok.a0 h.ok.b0 i);rw[d5]at f;obtain⟨s1,s2⟩:=sp;unfold jf dj;exact⟨by lia,by lia⟩
theorem DB{a:Rat}(h:dM a b xs=none)(h1:1<=(ak xs).length):2<=(ak xs).length:=by
 unfold dM at h
 split at h
 ·cases h
 ·lia
def iU(a b:Rat)(xs:List Rat):Prop:=∃es i,gq a b xs 0 es i/\1<=i/\dM a b (ai a b xs i)=none /\ ∀k,k<=30->cF a b (aX (ai a b xs i)) (aY (ai a b xs i)) k=true
def Cy(K:wa)(a:Ad):Sp:=λvs H Q E=>∃x0,vs=[x0] /\ ∃(ra rb:Rat)(xs:List Rat),Is K H x0 (bM ra rb xs)/\c_ ra rb xs /\
 (iU ra rb xs->∀H',ah H H'->E (.ref a.c6) none H') /\ ∀l H' es n w,fE ra rb xs es n w->H l=none->ah H H'->Is K H' (.ref l) (.list (rH ra rb xs es n w))->Q (.ref l) H'
theorem OU(h:Is K H v (bM ra rb xs))(ok:c_ ra rb xs)(qe:iU ra rb xs->∀H',ah H H'->E (.ref a.c6) none H')(q:∀l H' es n w,fE ra rb xs es n w->H l=none->ah H H'->Is K H' (.ref l) (.list (rH ra rb xs es n w))->Q (.ref l) H'):Cy K a [v] H Q E:=⟨_,rfl,ra,rb,xs,h,ok,qe,q⟩
theorem OB(T:Txt K mg a):aK P w K mg base (fe P w) 13 a.JA a.HW AA (Cy K a):=by
 refine T.oR.F.rC lS ?_ ?_;wtm_at "b1"
 refine⟨_,(ao (az 1 lS.nd (cJ (ae (aW (by exact(@ae _ _ _ _ _ (bW (v:=.ref a.dF) rfl T.d8 rfl) (@ae _ _ _ _ _ (au (pv 0)) (@ae _ _ _ _ _ ay (@ae _ _ _ _ _ ay af Pk) Pk) jh) dA))) af)))
     (ao (az 2 lS.nd fS)
     (ao (iW Xu (bD pM (pv 2) fS (aU _)) (ao (az 3 lS.nd (dw cU (pv 1) (iD ic ay) (λ_ _=>rfl)))
     (ao (az 4 lS.nd (ar (zoZ T) hr T.HH (ae (aW (ae (au (pv 0)) (ae (au (pv 3)) af))) (ae (au (pv 3)) (ae (au (pv 3)) af)))))
     (ao (az 5 lS.nd (ar (gM T) hr T.gc (ae (au (pv 3)) (ae (au (pv 4)) af))))
     (ao (az 2 lS.nd (ar (zt5 T) hr T.Jo (ae (au (pv 4)) af)))
     (av (jR (jn vQ vV vW iS (pv 1) (ae (p5 (bD pM (pv 2) fS (aU _)) (oj (zs9 T) hr T.Io zN (ae (pv 5) (ae (au (pv 4)) af))) (aW (ae (pv 5) (ae (au (au (pv 4))) (ae (pv 2) af))))) af)))))))))
     (av (aB (pv 1)))))),?_⟩
 wtm_at "cl";rw[show start Sa [x0]=[some x0,none,none,none,none,none]from rfl];obtain⟨ra,rb,xs,hw,ok,qe,q⟩:=h;o_head aF (j:=1) hw rfl (λv1 i1=>?_);o_head cR (ds:=[N 0,TN xs,.int 0,.int 1]) (by simp) (.cons (d_ 0 (T.e_ _) rfl rfl) (.cons i1 (.cons (cw.mpr rfl) (.cons (cw.mpr rfl) .nil)))) (λv2 H2 S2 i2=>?_);o_head de (by simp) (λlr H3 n3 S3 e3=>?_);have hlr:H lr=none:=ft S2 n3;k_few
 refine jN (λm σ' H'=>∃(us:List V)(es:List (Nat × Nat × Nat))(vw:V)(o3 o4 o5:Option V),σ'=[some x0,some (.ref lr),some vw,o3,o4,o5]/\ah H H'/\H' lr=some (.lst us) /\
   ((vw=.bY /\ ∃i r g,gq ra rb xs 0 es i/\sD ra rb xs i r g/\aj K H' us ((es++[(i,r,g)]).map (pE ra rb xs))/\(1<=i->jf ra rb xs i)/\es.length+(ak (ai ra rb xs (dj ra rb xs i r g))).length<=6/\m=(ak (ai ra rb xs (dj ra rb xs i r g))).length) \/
     ∃n w,vw=.str (vk w)/\fE ra rb xs es n w/\aj K H' us (rH ra rb xs es n w)/\m=0)) _ ⟨[v2],[],.bY,_,_,_,rfl,S2.trans S3,e3,.inl ⟨rfl,0,0,1,rfl,.inl ⟨rfl,rfl,rfl⟩,.cons (i2.by S3) .nil,λh=>by lia,by have:=(ok.nf (dj ra rb xs 0 0 1)).2;simpa using this,rfl⟩⟩ ?_
 rintro m σ' H4 ⟨us,es,vw,o3,o4,o5,rfl,S4,e4,C⟩;rcases C with⟨rfl,i,r,g,wk,ro,t4,sp,cg,rfl⟩ | ⟨n,w',rfl,P,t4,rfl⟩
 . have hN:=(ok.nf i).2
   have h6:=ok.h6;have h1L:=ok.h1
   have facts:g<=40/\(1<=r->gP ra rb (ai ra rb xs i)/\r<=30/\gX ra rb (ai ra rb xs i) r)/\cu ra rb xs (dj ra rb xs i r g)+216<=20+216*xs.length/\dj ra rb xs i r g<=1024/\cu ra rb xs i+216<=20+216*xs.length/\i<=1024/\(∀t,t<=g->cu ra rb xs (i+(r*(ak (ai ra rb xs i)).length+t))+216<=20+216*xs.length)/\jf ra rb xs (dj ra rb xs i r g)/\r<=30:=by
     rcases ro with⟨rfl,rfl,rfl⟩ | ⟨i1,hno,R⟩
     . have e:dj ra rb xs 0 0 1=1:=by unfold dj;lia
       have h2:=tX ok.ok.a0 ok.ok.b0 ok.h1 ok.hp;refine⟨by lia,λz=>by lia,by rw[e];have:=h2 1;lia,by lia,by have:=h2 0;lia,by lia,λt ht=>?_,by rw[e];exact ok.one,by lia⟩;have h3:=h2 (0+(0*(ak (ai ra rb xs 0)).length+t));have h4:(0+(0*(ak (ai ra rb xs 0)).length+t))*xs.length<=1*6:=Vh (by lia) h6;lia
     . have n2:=DB hno (ok.nf i).1
       have sp:=sp i1;have w:=λ{t:Nat}(ht:t<=g)=>ok.within i1 sp n2 R ht
       have w0:=w (wp g);have g4:=R.gN;have si:=sp.1;have si2:=sp.2;have c:Cm 3500 (bC ra rb xs i::ai ra rb xs i):=ok.cm (by lia) (by lia);exact⟨by lia,λ_=>⟨ok.Km i1 c,R.lR,R.free⟩,w0.1,w0.2.1,by lia,by lia,λt ht=>(w ht).1,ok.next i1 sp n2 R,R.lR⟩
   obtain⟨g40,fr,gl,nl,gi,ni,gw,sl,lR⟩:=facts;have cI:=ok.cm gi ni;have cL:=ok.cm gl nl
   have n1:1<=dj ra rb xs i r g:=by
     unfold dj;rcases ro with⟨rfl,rfl,rfl⟩ | ⟨i1,hno,R⟩
     . lia
     . lia
   have swL:=ok.Km n1 cL;have hrN:r*(ak (ai ra rb xs i)).length<=30*6:=Vh lR hN;have hul:=t4.length;rw[wm,wQ,vS]at hul;have hnf:=(ok.nf (dj ra rb xs i r g)).1;o_head ky ?_;k_few
   have il:Is K H4 (.ref lr) (.list (es.map (pE ra rb xs)++[pE ra rb xs (i,r,g)])):=by
     rw[w6]at t4;exact cb.mpr ⟨lr,us,rfl,.of e4,t4⟩
   refine rK il (λv5 i5=>?_);have i5:Is K H4 v5 (mX (bC ra rb xs i) (ai ra rb xs i) r g):=i5;have hw4:=hw.by S4;o_head aF (j:=0) hw4 rfl (λv6 i6=>?_);o_head aF (j:=1) i5 rfl (λv7 i7=>?_);o_head cR (ds:=[R ra rb,TN (ai ra rb xs i)]) (by simp) (.cons i6 (.cons i7 .nil)) (λv8 H8 S8 i8=>?_);have i58:=i5.by S8;o_head aF (j:=2) i58 rfl (λv9 i9=>?_);rw[cw.mp i9];o_head aF (j:=3) i58 rfl (λv10 i10=>?_);rw[cw.mp i10];k_few;have bH:ag 8000 (bC ra rb (ai ra rb xs i) (r*(ak (ai ra rb xs i)).length)):=((ok.jm (i:=i) (k:=r*(ak (ai ra rb xs i)).length) (by have:=gw 0 (by lia);rw[QL]at this;exact this) (by lia)).fk (wJ ..)).mono (by decide)
   have cG:∀t,t<=g->Cm 3700 (bC ra rb (ai ra rb (ai ra rb xs i) (r*(ak (ai ra rb xs i)).length)) t::ai ra rb (ai ra rb (ai ra rb xs i) (r*(ak (ai ra rb xs i)).length)) t):=λt ht=>by
     rw[d5 ra rb xs];exact(ok.jm (i:=i+r*(ak (ai ra rb xs i)).length) (k:=t) (by have:=gw t ht;rw[<- Vt]at this;exact this) (by lia)).mono (by decide)
   refine ZU (show Is K H8 v8 (bM ra rb (ai ra rb xs i))from i8) ok.ok (by rw[bS];exact ok.h1) (by rw[bS];lia) fr g40 bH cG (λv11 H11 S11 i11=>?_);have i11:Is K H11 v11 (.tuple [N (bC ra rb (ai ra rb xs i) (r*(ak (ai ra rb xs i)).length+g)),bM ra rb (ai ra rb (ai ra rb xs i) (r*(ak (ai ra rb xs i)).length+g))]):=i11;rw[d5]at i11;have i11:Is K H11 v11 (.tuple [N (bC ra rb (ai ra rb xs i) (r*(ak (ai ra rb xs i)).length+g)),bM ra rb (ai ra rb xs (dj ra rb xs i r g))]):=i11;have i511:=i58.by S11;have bI:ag 3500 (bC ra rb xs i):=cI.fk (wJ ..);have bJ:ag 3500 (bC ra rb (ai ra rb xs i) (r*(ak (ai ra rb xs i)).length+g)):=(ok.jm (i:=i) (k:=r*(ak (ai ra rb xs i)).length+g) gl (by lia)).fk (wJ ..);o_head aF (j:=0) i511 rfl (λv12 i12=>?_);o_head aF (j:=0) i11 rfl (λv13 i13=>?_);k_few;rename_i v14 H14 S14 i14;rw[m8]at i14;have i14:Is K H14 v14 (N (bC ra rb xs (dj ra rb xs i r g))):=i14;have i1114:=i11.by S14;refine aF (j:=1) i1114 rfl (λv15 i15=>?_);have i15:Is K H14 v15 (bM ra rb (ai ra rb xs (dj ra rb xs i r g))):=i15;o_head zuj i15 swL (λH16 S16=>?_);have S816:=S8.trans (S11.trans (S14.trans S16));have e16:=S816 _ _ e4;have t16:aj K H16 us ((es++[(i,r,g)]).map (pE ra rb xs)):=aj.same S816 _ _ t4;have S416:=S4.trans S816;have i1116:=i1114.by S16;have i1416:=i14.by S16;have i1516:=i15.by S16;have wk':=wk.snoc ro;generalize hlead:dj ra rb xs i r g=n at *;cases hwd:dM ra rb (ai ra rb xs n)with
   | none =>
     show iZ 2 V.bY _ _ _
     o_head iI (aG.of e16) ?_;o_head aF (j:=1) i1116 rfl (λv17 i17=>?_);k_few;have n2:=DB hwd hnf;refine zrO i1416 (show Is K H16 v17 (bM ra rb (ai ra rb xs n))from i17) swL hwd (λr' g' t R ht=>?_) (λz H' S=>qe ⟨_,n,wk',n1,hwd,z⟩ H' (S416.trans S)) (λr' g' v18 H18 R S18 i18=>?_)
     . have w:=ok.within n1 sl n2 R ht
       rw[d5];exact(lD (ok.cm w.1 w.2.1) λy hy=>wB _ hy).mono (by decide)
     . k_few
       have e18:=S18 _ _ e16;refine je e18 (by lia) (λH19 E19 e19=>?_);have K19:=E19.keep e18;have fw:=R.Bf ok.ok (by rw[bS];exact ok.h1) (ok.hp.at ok.ok.a0 ok.ok.b0 n);rw[d5]at fw;have fw:(ak (ai ra rb xs (dj ra rb xs n r' g'))).length<(ak (ai ra rb xs n)).length:=fw;o_head ⟨_,fw,us++[v18],es++[(i,r,g)],.bY,_,_,_,rfl,(S416.trans S18).grow hlr E19,e19,.inl ⟨rfl,n,r',g',wk',.inr ⟨n1,hwd,R⟩,?_,λ_=>sl,?_,rfl⟩⟩
       . rw[w6]
         exact(aj.keep K19 _ _ (rm _ (λe=>Fx _ _ _ _) _) (aj.same S18 _ _ t16)).append (.cons (i18.g6 K19 (Fx _ _ _ _)) .nil)
       . rw[wQ,vS]
         lia
   | some wd =>
     show iZ 2 (V.str (vk wd)) _ _ _
     o_head iI (aG.of e16) ?_;k_few
     . rename_i z;cases z
     . refine aF (j:=1) i1116 rfl (λv17 i17=>?_)
       o_head aF (j:=1) i17 rfl (λv18 i18=>?_);o_head cR (ds:=[N (bC ra rb xs n),TN (ai ra rb xs n),.str (vk wd)]) (by simp) (.cons i1416 (.cons i18 (.cons (fg.mpr rfl) .nil))) (λv19 H19 S19 i19=>?_);k_few;have e19:=S19 _ _ e16;refine je e19 (by lia) (λH20 E20 e20=>?_);have K20:=E20.keep e19;o_head ⟨0,by lia,us++[v19],es++[(i,r,g)],_,_,_,_,rfl,(S416.trans S19).grow hlr E20,e20,.inr ⟨n,wd,rfl,⟨wk',by simp,by rw[wQ,vS];lia,n1,hwd,sl⟩,?_,rfl⟩⟩;exact(aj.keep K20 _ _ (rm _ (λe=>Fx _ _ _ _) _) (aj.same S19 _ _ t16)).append (.cons (i19.g6 K20 (zw2 _ _ _ _ _)) .nil)
 . k_few
   . rename_i z;cases z
   . exact q lr H4 es n w' P hlr S4 (cb.mpr ⟨lr,us,rfl,.of e4,t4⟩)
theorem ZX{a:Rat}{g r' g':Nat}(R:eU a b xs r g)(S:eU a b xs r' g'):r=r'/\g=g':=by
 have er:r=r':=by
  rcases Vz r r' with z | z | z
  ·have:=S.free r z;rw[R.ends]at this;cases this
  ·exact z
  ·have:=R.free r' z;rw[S.ends]at this;cases this
 subst er;refine⟨rfl,?_⟩;have g1:=R.g1;have g2:=S.g1;have j1:=R.join;have j2:=S.join;rcases Vz g g' with z | z | z
 ·have:=S.one (g-1) (by lia);lia
 ·exact z
 ·have:=R.one (g'-1) (by lia);lia
theorem OJ{a:Rat}{g r' g':Nat}(R:sD a b xs i r g)(S:sD a b xs i r' g'):r=r'/\g=g':=by
 rcases R with⟨e,rfl,rfl⟩ | ⟨i1,_,R⟩<;>rcases S with⟨e',rfl,rfl⟩ | ⟨i1',_,S⟩
 ·exact⟨rfl,rfl⟩
 ·lia
 ·lia
 ·exact ZX R S
theorem O6{a b:Rat}{xs:List Rat} : ∀{es es':List (Nat × Nat × Nat)}{i n n':Nat},gq a b xs i es n->gq a b xs i es' n'->1<=n->dM a b (ai a b xs n)≠none->1<=n'->dM a b (ai a b xs n')=none->(∀k,k<=30->cF a b (aX (ai a b xs n')) (aY (ai a b xs n')) k=true)->False
 | [],[],i,n,n',h,k,n1,w,_,w',_=>by
  have e:i=n:=h;have e':i=n':=k;subst e;subst e';exact w w'
 | [],f::fs,i,n,n',h,k,n1,w,_,_,_=>by
  have e:i=n:=h;subst e;rcases k.2.1 with⟨z,_,_⟩ | ⟨_,z,_⟩
  ·lia
  ·exact w z
 | e::es,[],i,n,n',h,k,_,_,n1',_,all=>by
  have e':i=n':=k;subst e';rcases h.2.1 with⟨z,_,_⟩ | ⟨_,_,R⟩
  ·lia
  ·have:=R.ends
   rw[all _ R.lR]at this;cases this
 | e::es,f::fs,i,n,n',h,k,n1,w,n1',w',all=>by
  obtain⟨e1,e2⟩:=OJ h.2.1 k.2.1;have k2:=k.2.2;rw[<- e1,<- e2]at k2;exact O6 h.2.2 k2 n1 w n1' w' all
theorem RL{a b:Rat}{xs:List Rat} : ∀{es es':List (Nat × Nat × Nat)}{i n n':Nat},gq a b xs i es n->gq a b xs i es' n'->1<=n->dM a b (ai a b xs n)≠none->1<=n'->dM a b (ai a b xs n')≠none->es=es'/\n=n'
 | [],[],i,n,n',h,k,_,_,_,_=>⟨rfl,(show i=n from h).symm.trans k⟩
 | [],f::fs,i,n,n',h,k,n1,w,_,_=>by
  have e:i=n:=h;subst e;rcases k.2.1 with⟨z,_,_⟩ | ⟨_,z,_⟩
  ·lia
  ·exact absurd z w
 | e::es,[],i,n,n',h,k,_,_,n1',w'=>by
  have e':i=n':=k;subst e';rcases h.2.1 with⟨z,_,_⟩ | ⟨_,z,_⟩
  ·lia
  ·exact absurd z w'
 | e::es,f::fs,i,n,n',h,k,n1,w,n1',w'=>by
  obtain⟨e1,e2⟩:=OJ h.2.1 k.2.1;have k2:=k.2.2;rw[<- e1,<- e2]at k2;obtain⟨q1,q2⟩:=RL h.2.2 k2 n1 w n1' w';refine⟨?_,q2⟩;rw[q1]
  congr 1
  exact Vs (h.1.trans k.1.symm) (Vs e1 e2)
theorem FV{a:Rat}{es es':List (Nat × Nat × Nat)}{n':Nat}{w w':String}(P:fE a b xs es n w)(S:fE a b xs es' n' w'):es=es'/\n=n'/\w=w':=by
 have hw:=P.word;have hw':=S.word;obtain⟨e1,e2⟩:=RL P.walk S.walk P.n1 (by rw[hw];simp) S.n1 (by rw[hw'];simp);subst e2;rw[hw]at hw';exact⟨e1,rfl,w5 hw'⟩
theorem nY{a:Rat}{es:List (Nat × Nat × Nat)}{w:String}(P:fE a b xs es n w)(F:iU a b xs):False:=by
 obtain⟨es',i,h,i1,hw,all⟩:=F;exact O6 P.walk h P.n1 (by rw[P.word];simp) i1 hw all
def kn(w:String)(n:Nat):wC:=.tuple [.str (vk w),.int (n:Int)]
def Ef(K:wa)(a:Ad):Sp:=λvs H Q E=>∃x0,vs=[x0] /\ ∃(ra rb:Rat)(xs:List Rat),Is K H x0 (bM ra rb xs)/\c_ ra rb xs /\
 (iU ra rb xs->∀H',ah H H'->E (.ref a.c6) none H') /\ ∀es n w v H',fE ra rb xs es n w->ah H H'->Is K H' v (kn w (ak (ai ra rb xs n)).length)->Q v H'
theorem zAS(h:Is K H v (bM ra rb xs))(ok:c_ ra rb xs)(qe:iU ra rb xs->∀H',ah H H'->E (.ref a.c6) none H')(q:∀es n w v H',fE ra rb xs es n w->ah H H'->Is K H' v (kn w (ak (ai ra rb xs n)).length)->Q v H'):Ef K a [v] H Q E:=⟨_,rfl,ra,rb,xs,h,ok,qe,q⟩
theorem fE.cm{a:Rat}{es:List (Nat × Nat × Nat)}{w:String}(P:fE a b xs es n w)(ok:c_ a b xs):Cm 3500 (bC a b xs n::ai a b xs n):=by
 have hnf:=ok.nf n;have s1:=P.sp.1;have s2:=P.sp.2;exact ok.cm (by lia) (by lia)
theorem zzT(T:Txt K mg a):aK P w K mg base (fe P w) 14 a.Kl a.JY yy (Ef K a):=by
 refine T.sX.F.rC O0 ?_ ?_;wtm_at "b1"
 refine⟨_,(ao (az 1 O0.nd (dw cU (oj (OB T) hr T.oR zN (ae (pv 0) af)) (iD ic ay) (λ_ _=>rfl)))
     (av (aB (aW (ae (au (pv 1)) (ae (bA (show aE _ (.builtin "len") (cj K)from cX) rfl T.h0Y cY (ae (ar (Fn T) hr T.sS (ae (aW (ae (au (pv 0)) (ae (au (pv 1)) af))) af)) af)) af)))))),?_⟩
 wtm_at "cl";rw[show start SV [x0]=[some x0,none]from rfl];obtain⟨ra,rb,xs,hw,ok,qe,q⟩:=h;have h6:=ok.h6;o_head OU hw ok qe (λl H1 es n wd P hl S1 i1=>?_);have c:=P.cm ok;have bx:∀i,ag 4000 ((ai ra rb xs n).getD i 0):=λi=>((lD c λy hy=>wB _ hy).get i).mono (by decide)
 have hw1:=hw.by S1;o_head rK i1 (λv2 i2=>?_);have i2:Is K H1 v2 (.tuple [N (bC ra rb xs n),TN (ai ra rb xs n),.str (vk wd)]):=i2;o_head aF (j:=2) i2 rfl (λv3 i3=>?_);rw[fg.mp i3];o_head aF (j:=0) hw1 rfl (λv4 i4=>?_);o_head aF (j:=1) i2 rfl (λv5 i5=>?_);o_head cR (ds:=[R ra rb,TN (ai ra rb xs n)]) (by simp) (.cons i4 (.cons i5 .nil)) (λv6 H6 S6 i6=>?_);o_head BJ (show Is K H6 v6 (bM ra rb (ai ra rb xs n))from i6) (by rw[bS];lia) bx (λlf H7 us7 n7 S7 e7 t7=>?_);have hul:=t7.length;rw[wm]at hul;o_head eQ (.of e7) ?_;rw[hul];o_head cR (ds:=[.str (vk wd),.int ((ak (ai ra rb xs n)).length:Int)]) (by simp) (.cons (fg.mpr rfl) (.cons (cw.mpr rfl) .nil)) (λv8 H8 S8 i8=>?_);exact q es n wd v8 H8 P (S1.trans (S6.trans (S7.trans S8))) i8
def Mk(K:wa):Sp:=λvs H Q _=>∃x0 x1,vs=[x0,x1] /\ ∃(a:we)(ns:List Int)(k:Int),x0=.ref a/\x1=.int k/\iM K H a (ns.map V.int)/\ns.length<=63/\0<=k/\k<=1000 /\ ∀c:Int,Q (.int c) H
theorem zto{a:we}{k:Int}(h:iM K H a (ns.map V.int))(hl:ns.length<=63)(h0:0<=k)(h1:k<=1000)(q:∀c:Int,Q (.int c) H):Mk K [.ref a,.int k] H Q E:=⟨_,_,rfl,a,ns,k,rfl,rfl,h,hl,h0,h1,q⟩
theorem ztm(T:Txt K mg a):aK P w K mg base aR 1 a.JB a.HJ uT (Mk K):=by
 refine T.IL.F.ok zr4 ?_ ?_;wtm_at "b2"
 refine⟨_,(ao (bL (bD ku (pv 1) (bA (show aE _ (.builtin "len") (cj K)from cX) rfl T.h0Y cY (ae (pv 0) af)) (aU _)) (av (aB (bA md rfl T.h1g mB (ae (dw cU (pv 0) (pv 1) (λ_ _=>rfl)) af)))) bN)
     (ao (bL (bD (show aH _ (wH .Eq) (cn K)from cV hu) (bA (show aE _ (.builtin "len") (cj K)from cX) rfl T.h0Y cY (ae (pv 0) af)) ay (aU _)) (av (aB (aD cB (aD cK ay (pv 1)) ay))) bN)
     (av (aB (aD cB (aD gL (bA md rfl T.h1g mB (ae (dw cU (pv 0) (aD gL (pv 1) (bA (show aE _ (.builtin "len") (cj K)from cX) rfl T.h0Y cY (ae (pv 0) af))) (λ_ _=>rfl)) af)) (PQ (v:=100000000000000000) ⟨by decide,by decide,by decide⟩ (by decide +kernel))) (aD cK ay (pv 1))))))),?_⟩
 wtm_at "cl";rw[show start Eh [x0,x1]=[some x0,some x1]from rfl];obtain⟨a',ns,k,rfl,rfl,hs,hl,h0,h1,q⟩:=h;o_head eQ hs.sq ?_;k_few
 . refine Sm hs h0 (by assumption) (λz=>?_)
   k_few;exact q _
 . refine eQ hs.sq ?_
   k_few
   . exact q _
   . refine eQ hs.sq ?_
     o_head Sm hs (qZ _ (by lia)) (qB _ (by lia)) (λz=>?_);k_few;exact q _
def cQ(H:Hp)(p:we)(k:Int):Prop:=∃(a:Int)(b:Bool)(n:Int),H p=some (.lst [.int a,.bl b,.int n])/\0<=n/\n<=k
theorem cQ.same{H':Hp}{k:Int}(s:ah H H')(h:cQ H p k):cQ H' p k:=by
 obtain⟨x,y,n,e,h1,h2⟩:=h;exact⟨x,y,n,s _ _ e,h1,h2⟩
theorem cQ.le{j k:Int}(h:cQ H p j)(e:j<=k):cQ H p k:=by
 obtain⟨x,y,n,z,h1,h2⟩:=h;exact⟨x,y,n,z,h1,Int.le_trans h2 e⟩
theorem cQ.ne{k:Int}(e:H q=none)(h:cQ H p k):q≠p:=by
 obtain⟨x,y,n,z,_⟩:=h;exact(iV z e).symm
def MK(K:wa):Sp:=λvs H Q _=>∃x0 x1,vs=[x0,x1] /\ ∃(a:we)(ns:List Int)(k:Int),x0=.ref a/\x1=.int k/\iM K H a (ns.map V.int)/\ns.length<=63/\0<=k/\k<=1000 /\
 ∀p H',H p=none->ah H H'->cQ H' p 0->Q (.ref p) H'
theorem Dq{a:we}{k:Int}(h:iM K H a (ns.map V.int))(hl:ns.length<=63)(h0:0<=k)(h1:k<=1000)
  (q:∀p H',H p=none->ah H H'->cQ H' p 0->Q (.ref p) H'):MK K [.ref a,.int k] H Q E:=⟨_,_,rfl,a,ns,k,rfl,rfl,h,hl,h0,h1,q⟩
local macro_rules | `(tactic| wtm_at "pen")=>`(tactic| first
 | assumption
 | (apply cQ.same;(focus assumption);wtm_at "pen"))
local macro_rules | `(tactic| wtm_at "ne")=>`(tactic| ((with_reducible apply cQ.ne); (focus assumption); wtm_at "pen"))
local macro_rules | `(tactic| wtm_at "penle")=>`(tactic| exact cQ.le (by wtm_at "pen") (by lia))
theorem EZ(T:Txt K mg a):aK P w K mg base aR 2 a.J1 a.IS tP (MK K):=by
 refine T.sP.F.ok Um ?_ ?_;wtm_at "b2"
 refine⟨_,(ao (az 2 Um.nd (ar (ztm T) hr T.IL (ae (pv 0) (ae (pv 1) af))))
     (av (aB (cJ (ae (pv 2) (ae (eK ye (pv 2) (PQ (v:=1000000000000000000) ⟨by decide,by decide,by decide⟩ (by decide +kernel)) (aU _)) (ae ay af))))))),?_⟩
 wtm_at "cl";rw[show start UW [x0,x1]=[some x0,some x1,none]from rfl];obtain⟨a',ns,k,rfl,rfl,hs,hl,h0,h1,q⟩:=h;o_head zto hs hl h0 h1 (λc=>?_);k_few;exact de (by show 3<=1000;decide) λp H' hp s e=>q p H' hp s ⟨_,_,0,e,by decide,by decide⟩
def UT(K:wa):Sp:=λvs H Q _=>∃x0 x1,vs=[x0,x1] /\ ∃(p:we)(k m:Int),x0=.ref p/\x1=.int m/\cQ H p k/\k<=1000000/\0<m/\Bd 8999 m /\
 ∀(r:Int)(H':Hp),0<=r->r<m->Exc p H H'->bK H H'->cQ H' p (k+1)->Q (.int r) H'
theorem ztC{k m:Int}(h:cQ H p k)(hk:k<=1000000)(hm:0<m)(hb:Bd 8999 m)
  (q:∀(r:Int)(H':Hp),0<=r->r<m->Exc p H H'->bK H H'->cQ H' p (k+1)->Q (.int r) H'):UT K [.ref p,.int m] H Q E:=⟨_,_,rfl,p,k,m,rfl,rfl,h,hk,hm,hb,q⟩
local macro_rules | `(tactic| wtm_at "gs")=>`(tactic| ((with_reducible apply ztC); (focus wtm_at "pen"); (focus lia); (focus lia); (focus wtm_at "bd128"); intro _ _ _ _ _ _ _))
theorem gv(T:Txt K mg a):aK P w K mg base aR 1 a.Jr a.Ih yf (UT K):=by
 refine T.fI.F.ok uV ?_ ?_;wtm_at "b2"
 refine⟨_,(ao (kz (aD cB (au (pv 0)) ay) (ml (pv 0) ay me))
     (ao (bL (cA (au (pv 0))) (ao (az 2 uV.nd (aD gL (au (pv 0)) (pv 1)))
     (ao (kz (aD fj (au (pv 0)) (pv 1)) (ml (pv 0) ay me))
     (av (aB (pv 2))))) bN)
     (ao (az 3 uV.nd (aD gL (aD cK (aD cB (aD gL (au (pv 0)) ay) ay) (aD cB ay (aD cK (au (pv 0)) (au (pv 0))))) ay))
     (ao (az 3 uV.nd (aD gL (aD cK (pv 3) (aD cB (pv 3) (aD cK ay (au (pv 0))))) ay))
     (av (aB (aD gL (aD fj (aD gL (aD cK (pv 3) (aD cB (aD fj (pv 3) ay) ay)) ay) ay) (pv 1)))))))),?_⟩
 wtm_at "cl";rw[show start OE [x0,x1]=[some x0,some x1,none,none]from rfl];obtain⟨p,k,m,rfl,rfl,⟨x,y,n,hp,hn0,hn1⟩,hk,hm,hbm,q⟩:=h;k_few
 all_goals
   exact q _ _ (qZ _ (by lia)) (qB _ hm) (by wtm_at "exc") (Exc.keep (p:=p) (by wtm_at "exc") hp) ⟨_,_,_,by assumption,by lia,by lia⟩
def FW(K:wa):Sp:=λvs H Q _=>∃x0 x1,vs=[x0,x1] /\ ∃(t b:Int),x0=.int t/\x1=.int b/\0<b/\Bd 8999 b /\ ∀v H',ah H H'->Is K H' v (N (wx t b))->Q v H'
theorem nj{b:Int}(hb:0<b)(hB:Bd 8999 b)(q:∀v H',ah H H'->Is K H' v (N (wx t b))->Q v H'):FW K [.int t,.int b] H Q E:=⟨_,_,rfl,t,b,rfl,rfl,hb,hB,q⟩
theorem zwQ{b:Int}(hb:0<b)(h1 : -100000000000000000000000000000000000000<=t)(h2:t<=100000000000000000000000000000000000000)(h3 : -100000000000000000000000000000000000000<=b)(h4:b<=100000000000000000000000000000000000000)
  (q:∀v H' (x:Rat),ah H H'->Is K H' v (N x)->x=wx t b->ag 128 x->Q v H'):FW K [.int t,.int b] H Q E :=
 nj hb ((Bd.kC h3 h4).mono (by decide)) λv H' s h=>q v H' _ s h rfl (ag.divInt (show b≠0 by lia) (Bd.kC h1 h2) (Bd.kC h3 h4))
local macro_rules | `(tactic| wtm_at "gs")=>`(tactic| ((with_reducible apply zwQ); (focus lia); (focus lia); (focus lia); (focus lia); (focus lia); intro _ _ _ _ _ _ _))
theorem gU(T:Txt K mg a):aK P w K mg base aR 1 a.JV a.IH zM (FW K):=by
 refine T.fZ.F.ok yN ?_ ?_;wtm_at "b2"
 refine⟨_,(ao (az 2 yN.nd (bA md rfl T.h1g mB (ae (pv 0) af)))
     (ao (az 3 yN.nd (pv 1))
     (ao (iW vg (bD nJ (pv 3) ay (aU _)) (av (Zj (i:=2) (j:=3) rfl yN.nd rfl rfl (by decide) rfl rfl (ae (pv 3) (ae (aD gL (pv 2) (pv 3)) af)) rfl)))
     (av (aB (aW (ae (aD fj (pv 0) (pv 2)) (ae (aD fj (pv 1) (pv 2)) af)))))))),?_⟩
 wtm_at "cl";rw[show start S_ [x0,x1]=[some x0,some x1,none,none]from rfl];obtain⟨t,b,rfl,rfl,hp,hB,q⟩:=h;have hb:b≠0:=by lia
 o_head Nb (λσ H'=>∃(x y:Int),σ = [some (.int t),some (.int b),some (.int x),some (.int y)]/\0<=x/\0<=y/\vE x y=vE t b/\H'=H) (λσ=>(TF σ 3).toNat) ⟨_,_,rfl,by split<;>lia,by lia,yE t b,rfl⟩ ?_;rintro σ H' ⟨x,y,rfl,hx,hy,hg,rfl⟩
 have hgb:Bd 8999 ((vE t b:Nat):Int):=hB.le (by
   have:vE t b ∣ b.natAbs:=Int.gcd_dvd_natAbs_right t b;have:=uA (by lia) this
   simpa using this)
 k_few
 . refine NT ?_
   k_few;have h1:=qZ x (show y≠0 by lia);have h2:=qB x (show 0<y by lia);refine⟨?_,_,_,rfl,hy,h1,?_,rfl⟩
   . show(x % y).toNat<y.toNat
     lia
   . rw[<- hg];exact T_ (by lia) hx
 . rename_i h0
   have e0:y=0:=by lia
   subst e0
   have e:x=((vE t b:Nat):Int):=by
     rw[<- hg,Xd];lia
   have e1:x=dv t b:=by unfold dv;rw[if_neg (by lia),<- e]
   rw[e1];have hd:oN t (dv t b):=⟨LC hb,by unfold dv;rw[if_neg (by lia)];exact hgb⟩;refine pB hd ?_;k_few;exact dm (UM hb) (zCz hb) q
def Cb(K:wa):Sp:=λvs H Q _=>∃x0 x1,vs=[x0,x1] /\ ∃(x:Rat)(t u:Int)(n:Nat),Is K H x0 (N x)/\Is K H x1 (.tuple [.int t,.int u])/\0<u/\ag n x/\n<=4400/\Bd 4400 t/\Bd 4400 u /\ ∀v H',ah H H'->Is K H' v (N (x+wx t u))->Q v H'
theorem Pe{u:Int}{w:V}(h1:Is K H v (N x))(h2:Is K H w (.tuple [.int t,.int u]))(hu:0<u)(b1:ag 4400 x)(b2:Bd 4400 t)(b3:Bd 4400 u)(q:∀v H',ah H H'->Is K H' v (N (x+wx t u))->Q v H'):Cb K [v,w] H Q E:=⟨_,_,rfl,x,t,u,4400,h1,h2,hu,b1,wp _,b2,b3,q⟩
theorem zuF{w:V}(h1:Is K H v (N x))(h2:Is K H w (N y))(b1:ag 4400 x)(b2:ag 4400 y)(q:∀v H',ah H H'->Is K H' v (N (x+y))->Q v H'):Cb K [v,w] H Q E :=
 Pe h1 h2 (den_pos y) b1 b2.t b2.b (λv H' s i=>q v H' s (by rw[Vn]at i;exact i))
local macro_rules | `(tactic| wtm_at "gs")=>`(tactic| ((with_reducible apply zuF); (focus wtm_at "is"); (focus wtm_at "is"); (focus wtm_at "bdr"); (focus wtm_at "bdr"); intro _ _ _ _))
theorem zA6{u:Int}(h:Is K H v (.tuple [.int t,.int u]))(q:Q (.int t) H):c9 K v (.int 0) H Q:=aF (j:=0) h rfl (λx i=>by rw[cw.mp i];exact q)
theorem NQ{u:Int}(h:Is K H v (.tuple [.int t,.int u]))(q:Q (.int u) H):c9 K v (.int 1) H Q:=aF (j:=1) h rfl (λx i=>by rw[cw.mp i];exact q)
theorem zzg(x:Rat){u:Int}(hu:0<u):wx (x.num*u+t*(x.den:Int)) ((x.den:Int)*u)=x+wx t u:=by
 have hp:=vU (den_pos x) hu;refine fG (by lia) ?_;have k1:=jS x;have k2:=c7 t (show u≠0 by lia);have e1:((x.num*u+t*(x.den:Int):Int):Rat)=(x.num:Rat)*(u:Rat)+(t:Rat)*((x.den:Int):Rat):=by push_cast;rfl
 have e2:(((x.den:Int)*u:Int):Rat)=((x.den:Int):Rat)*(u:Rat):=by push_cast;rfl
 rw[e1,e2,<- k1,<- k2]
 grind
theorem kY(T:Txt K mg a):aK P w K mg base aR 2 a.JT a.Il yS (Cb K):=by
 refine T.j3.F.ok zuf ?_ ?_;wtm_at "b2";refine⟨_,(av (aB (ar (gU T) hr T.fZ (ae (aD cB (aD cK (au (pv 0)) (au (pv 1))) (aD cK (au (pv 1)) (au (pv 0)))) (ae (aD cK (au (pv 0)) (au (pv 1))) af))))),?_⟩;wtm_at "cl";rw[show start Er [x0,x1]=[some x0,some x1]from rfl];obtain⟨x,t,u,n,hx,hy,hu,bx,hn,bt,bu,q⟩:=h;obtain⟨bx1,bx2⟩:=bx.mono hn;have hp:=vU (den_pos x) hu;o_head NQ hy ?_;o_head zA6 hy ?_;o_head NQ hy ?_;o_head nj hp ((bx2.mul bu).mono (by decide)) (λv H' s hv=>?_);rw[zzg x hu]at hv;exact q v H' s hv
def Uo(K:wa):Sp:=λvs H Q _=>∃x0 x1,vs=[x0,x1] /\ ∃(x y:Rat)(m n:Nat),Is K H x0 (N x)/\Is K H x1 (N y)/\ag m x/\ag n y/\m+n<=8999 /\ ∀v H',ah H H'->Is K H' v (N (x-y))->Q v H'
theorem Ac{w:V}(h1:Is K H v (N x))(h2:Is K H w (N y))(b1:ag m x)(b2:ag n y)(hmn:m+n<=8999)(q:∀v H',ah H H'->Is K H' v (N (x-y))->Q v H'):Uo K [v,w] H Q E:=⟨_,_,rfl,x,y,m,n,h1,h2,b1,b2,hmn,q⟩
theorem tF(T:Txt K mg a):aK P w K mg base aR 2 a.JI a.HS yX (Uo K):=by
 refine T.oQ.F.ok zs2 ?_ ?_;wtm_at "b2";refine⟨_,(av (aB (ar (gU T) hr T.fZ (ae (aD iY (aD cK (au (pv 0)) (au (pv 1))) (aD cK (au (pv 1)) (au (pv 0)))) (ae (aD cK (au (pv 0)) (au (pv 1))) af))))),?_⟩;wtm_at "cl";rw[show start Ce [x0,x1]=[some x0,some x1]from rfl];obtain⟨x,y,m,n,hx,hy,bx,by',hmn,q⟩:=h;have cx:=bx.mono (show m<=8999 by lia);have cy:=by'.mono (show n<=8999 by lia);o_head nj (NY x y) ((bx.b.mul by'.b).mono hmn) (λv H' s hv=>?_);rw[Oo]at hv;exact q v H' s hv
def SU(K:wa):Sp:=λvs H Q _=>∃x0 x1,vs=[x0,x1] /\ ∃(x y:Rat),Is K H x0 (N x)/\Is K H x1 (N y)/\ag 4000 x/\ag 4000 y /\ ∀v H',ah H H'->Is K H' v (N (x*y))->Q v H'
theorem zoq{w:V}(h1:Is K H v (N x))(h2:Is K H w (N y))(b1:ag 4000 x)(b2:ag 4000 y)(q:∀v H',ah H H'->Is K H' v (N (x*y))->Q v H'):SU K [v,w] H Q E:=⟨_,_,rfl,x,y,h1,h2,b1,b2,q⟩
local macro_rules | `(tactic| wtm_at "gs")=>`(tactic| ((with_reducible apply zoq); (focus wtm_at "is"); (focus wtm_at "is"); (focus wtm_at "bdr"); (focus wtm_at "bdr"); intro _ _ _ _))
theorem rz(T:Txt K mg a):aK P w K mg base aR 2 a.Ia a.GY tH (SU K):=by
 refine T.mL.F.ok zox ?_ ?_;wtm_at "b2";refine⟨_,(av (aB (ar (gU T) hr T.fZ (ae (aD cK (au (pv 0)) (au (pv 1))) (ae (aD cK (au (pv 0)) (au (pv 1))) af))))),?_⟩;wtm_at "cl";rw[show start EH [x0,x1]=[some x0,some x1]from rfl];obtain⟨x,y,hx,hy,⟨bx1,bx2⟩,⟨by1,by2⟩,q⟩:=h;o_head nj (NY x y) ((bx2.mul by2).mono (by decide)) (λv H' s hv=>?_);rw[NP]at hv;exact q v H' s hv
def Ow(K:wa):Sp:=λvs H Q _=>∃x0 x1,vs=[x0,x1] /\ ∃(x y:Rat)(m n:Nat),Is K H x0 (N x)/\Is K H x1 (N y)/\ag m x/\ag n y/\m+n<=8998/\y≠0 /\ ∀v H',ah H H'->Is K H' v (N (x / y))->Q v H'
theorem zs4{w:V}(h1:Is K H v (N x))(h2:Is K H w (N y))(b1:ag m x)(b2:ag n y)(hmn:m+n<=8998)(hy:y≠0)(q:∀v H',ah H H'->Is K H' v (N (x / y))->Q v H'):Ow K [v,w] H Q E:=⟨_,_,rfl,x,y,m,n,h1,h2,b1,b2,hmn,hy,q⟩
theorem zsJ{p q:Int}(h:q≠0):wx (0-p) (0-q)=wx p q:=by
 refine fG (by lia) ?_;have k:=c7 p h;have e1:((0-p:Int):Rat) = -(p:Rat):=by rw[Xe];push_cast;rfl
 have e2:((0-q:Int):Rat) = -(q:Rat):=by rw[Xe];push_cast;rfl
 rw[e1,e2,<- k]
 grind
theorem zsX(T:Txt K mg a):aK P w K mg base aR 2 a.JJ a.Ii Af (Ow K):=by
 refine T.ID.F.ok ztB ?_ ?_;wtm_at "b2"
 refine⟨_,(ao (bL (bD ku (au (pv 1)) ay (aU _)) (av (aB (ar (gU T) hr T.fZ (ae (aD iY ay (aD cK (au (pv 0)) (au (pv 1)))) (ae (aD iY ay (aD cK (au (pv 0)) (au (pv 1)))) af))))) bN)
     (av (aB (ar (gU T) hr T.fZ (ae (aD cK (au (pv 0)) (au (pv 1))) (ae (aD cK (au (pv 0)) (au (pv 1))) af)))))),?_⟩
 wtm_at "cl";rw[show start BF [x0,x1]=[some x0,some x1]from rfl];obtain⟨x,y,m,n,hx,hy,bx,by',hmn,h0,q⟩:=h;have cx:=bx.mono (show m<=8999 by lia);have cy:=by'.mono (show n<=8999 by lia);have hn:=zG h0;have bb:=bx.b.mul by'.t;have hd:=den_pos x;have bo:Bd 8999 (0-(x.den:Int)*y.num):=by rw[Xe];exact bb.neg.mono (by lia)
 k_few
 . rename_i z
   have hp:0<0-(x.den:Int)*y.num:=by
     have:=Int.mul_neg_of_pos_of_neg hd z;lia
   refine nj hp bo (λv H' s hv=>?_);rw[zsJ (by lia),Pp]at hv;exact q v H' s hv
 . rename_i z
   refine nj (vU hd (by lia)) (bb.mono (by lia)) (λv H' s hv=>?_);rw[Pp]at hv;exact q v H' s hv
def Nk(K:wa):Sp:=λvs H Q _=>∃x0 x1,vs=[x0,x1] /\ ∃(x y:Rat),Is K H x0 (N x)/\Is K H x1 (N y)/\ag 8999 x/\ag 8999 y/\Q (.bl (decide (x<y))) H
theorem zq5{w:V}(h1:Is K H v (N x))(h2:Is K H w (N y))(b1:ag 8999 x)(b2:ag 8999 y)(q:Q (.bl (decide (x<y))) H):Nk K [v,w] H Q E:=⟨_,_,rfl,x,y,h1,h2,b1,b2,q⟩
local macro_rules | `(tactic| wtm_at "gs")=>`(tactic| ((with_reducible apply zq5); (focus wtm_at "is"); (focus wtm_at "is"); (focus wtm_at "bdr"); (focus wtm_at "bdr")))
theorem rF(T:Txt K mg a):aK P w K mg base aR 1 a.Jb a.HC zY (Nk K):=by
 refine T.mO.F.ok zqH ?_ ?_;wtm_at "b2";refine⟨_,(av (aB (eK ku (aD cK (au (pv 0)) (au (pv 1))) (aD cK (au (pv 1)) (au (pv 0))) (aU _)))),?_⟩;wtm_at "cl";rw[show start Gn [x0,x1]=[some x0,some x1]from rfl];obtain⟨x,y,hx,hy,⟨bx1,bx2⟩,⟨by1,by2⟩,q⟩:=h;k_few;rw[R1];exact q
def FN(K:wa):Sp:=λvs H Q _=>∃x0,vs=[x0] /\ ∃d,Is K H x0 d/\Q (.bl (CI d)) H
theorem zrz(h:Is K H v d)(q:Q (.bl (CI d)) H):FN K [v] H Q E:=⟨v,rfl,d,h,q⟩
theorem zo2{m:Int}(q:Q (.bl true) H):FN K [.int m] H Q E:=zrz (cw.mpr rfl) q
local macro_rules | `(tactic| wtm_at "gs")=>`(tactic| with_reducible refine zo2 ?_)
theorem zrG(T:Txt K mg a):aK P w K mg base aR 1 a.Je a.Hx uW (FN K):=by
 refine T.HY.F.ok zqt ?_ ?_;wtm_at "b1";refine⟨_,(av (aB (gB (bA (show aE _ (.builtin "isinstance") (fX K)from lE) rfl T.h0u gQ (ae (pv 0) (ae (jk (v:=.ty "int") rfl T.h0T M_ rfl) af))) (jB (mD (bA (show aE _ (.builtin "isinstance") (fX K)from lE) rfl T.h0u gQ (ae (pv 0) (ae (jk (v:=.ty "bool") rfl T.h0R Sk rfl) af)))))))),?_⟩;wtm_at "cl";rw[show start EW [x0]=[some x0]from rfl];obtain⟨d,hd,q⟩:=h;k_few
 all_goals(cases d<;>simp_all [CI,ze,z5])
theorem zb{w z n d:Int}(hw:1<=w)(hw8:w<=8)(hz:w<z)(hz4:z<=4*w)(hn:0<=n)(hd:1<=d)(hnd:n<=d)(hd12:d<=12):aS (wx z w) (wx n d):=by
 obtain⟨a1,a2,a3⟩:=SG (x:=wx z w) rfl hw hw8 (by lia) hz4;obtain⟨b1,b2,b3⟩:=CJ (y:=wx n d) rfl hd hd12 hn hnd
 have h1:(1:Rat)<wx z w:=by
  have:=c7 z (show w≠0 by lia);refine xF.mp λk=>?_
  have h2:=Qb k (Wg (mf (show 0<w by lia)));rw[this,xf]at h2;have:=Vk.mp h2;lia
 exact⟨a1,a2,a3,b1,b2,b3,by grind⟩
theorem Sj{n d:Int}(hn:0<=n)(hd:1<=d)(hnd:n<=d)(hd12:d<=12):aS 1 (wx n d):=by
 obtain⟨b1,b2,b3⟩:=CJ (y:=wx n d) rfl hd hd12 hn hnd;exact⟨by decide,by decide,by decide,b1,b2,b3,by grind⟩
theorem t_{w n d:Int}(hw:2<=w)(hw8:w<=8)(ht:1<=t)(htw:t<w)(hn:0<=n)(hd:1<=d)(hnd:n<=d)(hd12:d<=12)(h:(w-t)*d<=n*w):aS (wx t w) (wx n d):=by
 obtain⟨a1,a2,a3⟩:=SG (x:=wx t w) rfl (by lia) hw8 ht (by lia);obtain⟨b1,b2,b3⟩:=CJ (y:=wx n d) rfl hd hd12 hn hnd;refine⟨a1,a2,a3,b1,b2,b3,?_⟩;have e1:=c7 t (show w≠0 by lia);have e2:=c7 n (show d≠0 by lia);have pw:(0:Rat)<(w:Rat):=mf (show 0<w by lia);have pd:(0:Rat)<(d:Rat):=mf (show 0<d by lia);refine Vl.mp λk=>?_
 have k1:=Rat.mul_lt_mul_of_pos_right k (VU pw pd)
 have e3:(wx t w+wx n d)*((w:Rat)*(d:Rat))=(t:Rat)*(d:Rat)+(n:Rat)*(w:Rat):=by
  rw[<- e1,<- e2];grind
 rw[e3,xf]at k1
 have k2:((t*d+n*w:Int):Rat)<((w*d:Int):Rat):=by
  rw[qo,vP,vP,vP];exact k1
 have k3:=xg.mp k2;rw[Int.sub_mul]at h;lia
theorem N3{w d:Int}(hw:2<=w)(ht:1<=t)(htw:t<w)(hd:1<=d):1<=0-((t-w)*d).fdiv w/\0-((t-w)*d).fdiv w<=d/\(w-t)*d<=(0-((t-w)*d).fdiv w)*w:=by
 rw[Vu _ (by lia)];have e:(t-w)*d = -((w-t)*d):=by rw[<- Int.neg_mul];congr 1;lia
 have p:1<=(w-t)*d:=by
  have:=Int.mul_le_mul (show(1:Int)<=w-t by lia) hd (by lia) (by lia);lia
 have hle:(w-t)*d<=w*d:=WJ (by lia) (by lia);rw[e];generalize (w-t)*d=m at *;have h1:=uh (-m) (show w≠0 by lia);have h2:=Int.lt_ediv_add_one_mul_self (-m) (show 0<w by lia);generalize -m / w=q at *;have e2:(0-q)*w = -(q*w):=by rw[Int.sub_mul,Int.zero_mul];lia
 have e3:(q+1)*w=q*w+w:=by rw[Int.add_mul,xa]
 rw[e3]at h2;refine⟨?_,?_,by rw[e2];lia⟩
 ·refine Int.not_lt.mp λk=>?_
  have:0<=q*w:=ut (by lia) (by lia);lia
 ·refine Int.not_lt.mp λk=>?_
  have:(q+1)*w<=(-d)*w:=WJ (by lia) (by lia);rw[e3,Int.neg_mul,Int.mul_comm d w]at this;lia
def TV(K:wa):Sp:=λvs H Q _=>∃x0,vs=[x0] /\ ∃(p:we)(k:Int),x0=.ref p/\cQ H p k/\k<=1000 /\ ∀v H' (a b:Rat),Exc p H H'->bK H H'->cQ H' p (k+8)->Is K H' v (R a b)->aS a b->Q v H'
theorem Nr{k:Int}(h:cQ H p k)(hk:k<=1000)(q:∀v H' (a b:Rat),Exc p H H'->bK H H'->cQ H' p (k+8)->Is K H' v (R a b)->aS a b->Q v H'):TV K [.ref p] H Q E:=⟨_,rfl,p,k,rfl,h,hk,q⟩
theorem Rb(T:Txt K mg a):aK P w K mg base aR 2 a.G1 a.GA AM (TV K):=by
 refine T.AO.F.ok kc ?_ ?_;wtm_at "b1"
 refine⟨_,(ao (az 1 kc.nd (ar (gv T) hr T.fI (ae (pv 0) (ae ay af))))
     (ao (az 2 kc.nd (aD cB ay (ar (gv T) hr T.fI (ae (pv 0) (ae ay af)))))
     (ao (az 3 kc.nd (aD cB ay (ar (gv T) hr T.fI (ae (pv 0) (ae ay af)))))
     (ao (az 4 kc.nd (ar (gv T) hr T.fI (ae (pv 0) (ae (aD cB (pv 3) ay) af))))
     (ao (bL (bD (show aH _ (wH .Eq) (cn K)from cV hu) (ar (gv T) hr T.fI (ae (pv 0) (ae ay af))) ay (aU _)) (av (az 4 kc.nd (bA (show aE _ (.builtin "min") Dc from zxb rfl) rfl T.h0W zC2 (ae (pv 4) (ae ay af))))) bN)
     (ao (bL (bD ku (pv 1) ay (aU _)) (av (aB (aW (ae (ar (gU T) hr T.fZ (ae (aD cB (aD cB (pv 2) ay) (aD cK (pv 1) (ar (gv T) hr T.fI (ae (pv 0) (ae (aD cK ay (pv 2)) af))))) (ae (pv 2) af))) (ae (ar (gU T) hr T.fZ (ae (pv 4) (ae (pv 3) af))) af))))) bN)
     (ao (bL (bD (show aH _ (wH .Eq) (cn K)from cV hu) (pv 1) ay (aU _)) (av (aB (aW (ae (aW (ae ay (ae ay af))) (ae (ar (gU T) hr T.fZ (ae (pv 4) (ae (pv 3) af))) af))))) bN)
     (ao (az 2 kc.nd (aD cB ay (aD gL (pv 2) ay)))
     (ao (az 5 kc.nd (aD cB ay (ar (gv T) hr T.fI (ae (pv 0) (ae (aD iY (pv 2) ay) af)))))
     (ao (bL (bD (show aH _ (wH .Eq) (cn K)from cV hu) (pv 1) ay (aU _)) (av (aB (aW (ae (ar (gU T) hr T.fZ (ae (pv 5) (ae (pv 2) af))) (ae (ar (gU T) hr T.fZ (ae (aD iY (pv 2) (pv 5)) (ae (pv 2) af))) af))))) bN)
     (ao (az 6 kc.nd (aD iY ay (aD fj (aD cK (aD iY (pv 5) (pv 2)) (pv 3)) (pv 2))))
     (av (aB (aW (ae (ar (gU T) hr T.fZ (ae (pv 5) (ae (pv 2) af))) (ae (ar (gU T) hr T.fZ (ae (aD cB (pv 6) (ar (gv T) hr T.fI (ae (pv 0) (ae (aD cB (aD iY (pv 3) (pv 6)) ay) af)))) (ae (pv 3) af))) af)))))))))))))))),?_⟩
 wtm_at "cl";rw[show start Sf [x0]=[some x0,none,none,none,none,none,none]from rfl];obtain⟨p,k,rfl,hp,hk,q⟩:=h;wtm_at "ga"
 . rename_i way H1 w0 w1 E1 K1 P1 bt H2 b0 b1 E2 K2 P2 dr H3 d0 d1 E3 K3 P3 mo H4 m0 m1 E4 K4 P4 tw H5 t0 t1 E5 K5 P5 z mn mn0 mn1 mn2 hw rr H6 r0 r1 E6 K6 P6
   have hw2:way=0\/way=1:=by lia
   rcases hw2 with rfl | rfl
   . wtm_at "ga"
     rename_i v7 H7 x7 S7 i7 e7 b7 v8 H8 x8 S8 i8 e8 b8 v9 H9 S9 i9;exact q _ _ x7 x8 (by wtm_at "exc") (by wtm_at "keep") (by wtm_at "penle") i9 (by rw[e7,e8];exact zb (by lia) (by lia) (by lia) (by lia) (by lia) (by lia) (by lia) (by lia))
   . wtm_at "ga"
     rename_i v7 H7 x7 S7 i7 e7 b7 v8 H8 x8 S8 i8 e8 b8 v9 H9 S9 i9;exact q _ _ x7 x8 (by wtm_at "exc") (by wtm_at "keep") (by wtm_at "penle") i9 (by rw[e7,e8];exact zb (by lia) (by lia) (by lia) (by lia) (by lia) (by lia) (by lia) (by lia))
 . rename_i way H1 w0 w1 E1 K1 P1 bt H2 b0 b1 E2 K2 P2 dr H3 d0 d1 E3 K3 P3 mo H4 m0 m1 E4 K4 P4 tw H5 t0 t1 E5 K5 P5 z mn mn0 mn1 mn2 hw hw2 v7 H7 S7 i7 v8 H8 x8 S8 i8 e8 b8 v9 H9 S9 i9
   exact q _ _ 1 x8 (by wtm_at "exc") (by wtm_at "keep") (by wtm_at "penle") i9 (by rw[e8];exact Sj (by lia) (by lia) (by lia) (by lia))
 . rename_i way H1 w0 w1 E1 K1 P1 bt H2 b0 b1 E2 K2 P2 dr H3 d0 d1 E3 K3 P3 mo H4 m0 m1 E4 K4 P4 tw H5 t0 t1 E5 K5 P5 z mn mn0 mn1 mn2 hw hw2 rr H6 r0 r1 E6 K6 P6 hw3 v7 H7 x7 S7 i7 e7 b7 v8 H8 x8 S8 i8 e8 b8 v9 H9 S9 i9
   exact q _ _ x7 x8 (by wtm_at "exc") (by wtm_at "keep") (by wtm_at "penle") i9 (by rw[e7,e8];exact t_ (by lia) (by lia) (by lia) (by lia) (by lia) (by lia) (by lia) (by lia) (Int.le_refl _))
 . rename_i way H1 w0 w1 E1 K1 P1 bt H2 b0 b1 E2 K2 P2 dr H3 d0 d1 E3 K3 P3 mo H4 m0 m1 E4 K4 P4 tw H5 t0 t1 E5 K5 P5 z mn mn0 mn1 mn2 hw hw2 rr H6 r0 r1 E6 K6 P6 hw3
   have nd:=N3 (t:=1+rr) (w:=2+(1+bt) % 7) (d:=1+dr) (by lia) (by lia) (by lia) (by lia);refine pB ⟨by lia,(Bd.kC (by lia) (by lia)).mono (by decide)⟩ ?_;generalize ((1+rr-(2+(1+bt) % 7))*(1+dr)).fdiv (2+(1+bt) % 7)=fd at nd ⊢;obtain⟨n1,n2,n3⟩:=nd;wtm_at "ga";rename_i v7 H7 x7 S7 i7 e7 b7 s8 H8 s0 s1 E8 K8 P8 v9 H9 x9 S9 i9 e9 b9 v10 H10 S10 i10
   exact q _ _ x7 x9 (by wtm_at "exc") (by wtm_at "keep") (by wtm_at "penle") i10 (by
     rw[e7,e9];refine t_ (by lia) (by lia) (by lia) (by lia) (by lia) (by lia) (by lia) (by lia) ?_;have:(0-fd)*(2+(1+bt) % 7)<=(0-fd+s8)*(2+(1+bt) % 7):=WJ (by lia) (by lia);lia)
 . rename_i way H1 w0 w1 E1 K1 P1 bt H2 b0 b1 E2 K2 P2 dr H3 d0 d1 E3 K3 P3 mo H4 m0 m1 E4 K4 P4 tw H5 t0 t1 E5 K5 P5 z hw rr H6 r0 r1 E6 K6 P6
   have hw2:way=0\/way=1:=by lia
   rcases hw2 with rfl | rfl
   . wtm_at "ga"
     rename_i v7 H7 x7 S7 i7 e7 b7 v8 H8 x8 S8 i8 e8 b8 v9 H9 S9 i9;exact q _ _ x7 x8 (by wtm_at "exc") (by wtm_at "keep") (by wtm_at "penle") i9 (by rw[e7,e8];exact zb (by lia) (by lia) (by lia) (by lia) (by lia) (by lia) (by lia) (by lia))
   . wtm_at "ga"
     rename_i v7 H7 x7 S7 i7 e7 b7 v8 H8 x8 S8 i8 e8 b8 v9 H9 S9 i9;exact q _ _ x7 x8 (by wtm_at "exc") (by wtm_at "keep") (by wtm_at "penle") i9 (by rw[e7,e8];exact zb (by lia) (by lia) (by lia) (by lia) (by lia) (by lia) (by lia) (by lia))
 . rename_i way H1 w0 w1 E1 K1 P1 bt H2 b0 b1 E2 K2 P2 dr H3 d0 d1 E3 K3 P3 mo H4 m0 m1 E4 K4 P4 tw H5 t0 t1 E5 K5 P5 z hw hw2 v7 H7 S7 i7 v8 H8 x8 S8 i8 e8 b8 v9 H9 S9 i9
   exact q _ _ 1 x8 (by wtm_at "exc") (by wtm_at "keep") (by wtm_at "penle") i9 (by rw[e8];exact Sj (by lia) (by lia) (by lia) (by lia))
 . rename_i way H1 w0 w1 E1 K1 P1 bt H2 b0 b1 E2 K2 P2 dr H3 d0 d1 E3 K3 P3 mo H4 m0 m1 E4 K4 P4 tw H5 t0 t1 E5 K5 P5 z hw hw2 rr H6 r0 r1 E6 K6 P6 hw3 v7 H7 x7 S7 i7 e7 b7 v8 H8 x8 S8 i8 e8 b8 v9 H9 S9 i9
   exact q _ _ x7 x8 (by wtm_at "exc") (by wtm_at "keep") (by wtm_at "penle") i9 (by rw[e7,e8];exact t_ (by lia) (by lia) (by lia) (by lia) (by lia) (by lia) (by lia) (by lia) (Int.le_refl _))
 . rename_i way H1 w0 w1 E1 K1 P1 bt H2 b0 b1 E2 K2 P2 dr H3 d0 d1 E3 K3 P3 mo H4 m0 m1 E4 K4 P4 tw H5 t0 t1 E5 K5 P5 z hw hw2 rr H6 r0 r1 E6 K6 P6 hw3
   have nd:=N3 (t:=1+rr) (w:=2+(1+bt) % 7) (d:=1+dr) (by lia) (by lia) (by lia) (by lia);refine pB ⟨by lia,(Bd.kC (by lia) (by lia)).mono (by decide)⟩ ?_;generalize ((1+rr-(2+(1+bt) % 7))*(1+dr)).fdiv (2+(1+bt) % 7)=fd at nd ⊢;obtain⟨n1,n2,n3⟩:=nd;wtm_at "ga";rename_i v7 H7 x7 S7 i7 e7 b7 s8 H8 s0 s1 E8 K8 P8 v9 H9 x9 S9 i9 e9 b9 v10 H10 S10 i10
   exact q _ _ x7 x9 (by wtm_at "exc") (by wtm_at "keep") (by wtm_at "penle") i10 (by
     rw[e7,e9];refine t_ (by lia) (by lia) (by lia) (by lia) (by lia) (by lia) (by lia) (by lia) ?_;have:(0-fd)*(2+(1+bt) % 7)<=(0-fd+s8)*(2+(1+bt) % 7):=WJ (by lia) (by lia);lia)
def Ms(K:wa):Sp:=λvs H Q _=>∃x0 x1,vs=[x0,x1] /\ ∃(a b:Rat)(n:Int),x1=.int n/\Is K H x0 (R a b)/\ag 10 a/\ag 10 b/\0<=n/\n<=64 /\ ∀v H',ah H H'->Is K H' v (R (a^n.toNat) (aC a b n.toNat))->Q v H'
theorem Ls{a:Rat}{n:Int}(h1:Is K H v (R a b))(b1:ag 10 a)(b2:ag 10 b)(h0:0<=n)(h64:n<=64)(q:∀v H',ah H H'->Is K H' v (R (a^n.toNat) (aC a b n.toNat))->Q v H'):Ms K [v,.int n] H Q E:=⟨_,_,rfl,a,b,n,rfl,h1,b1,b2,h0,h64,q⟩
theorem MJ(T:Txt K mg a):aK P w K mg base aR 3 a.IM a.G6 yn (Ms K):=by
 refine T.AV.F.ok zu ?_ ?_;wtm_at "b2"
 refine⟨_,(ao (az 2 zu.nd (aW (ae (aW (ae ay (ae ay af))) (ae (aW (ae ay (ae ay af))) af))))
     (ao (fc vg rfl (fK rfl T.h0P (ae (pv 1) af)) (aZ (i:=3) zu.nd rfl (Or.inl rfl)) (av (az 2 zu.nd (aW (ae (ar (rz T) hr T.mL (ae (au (pv 0)) (ae (au (pv 2)) af))) (ae (ar (kY T) hr T.j3 (ae (ar (rz T) hr T.mL (ae (au (pv 0)) (ae (au (pv 2)) af))) (ae (au (pv 0)) af))) af))))))
     (av (aB (pv 2))))),?_⟩
 wtm_at "cl";rw[show start Rr [x0,x1]=[some x0,some x1,none,none]from rfl];obtain⟨r,s',n,rfl,hr',ba,bb,h0,h64,q⟩:=h;o_head dm (r:=1) rfl rfl (λv1 H1 S1 i1=>?_);o_head dm (r:=0) rfl rfl (λv2 H2 S2 i2=>?_);o_head Cw (i1.by S2) i2 (λv3 H3 S3 i3=>?_);o_head jY (n:=n) (by lia) (by lia) (λi σ H'=>∃(f:V)(o:Option V),σ = [some x0,some (.int n),some f,o]/\ah H H'/\Is K H' f (R (r^i) (aC r s' i))) ⟨_,_,rfl,S1.trans (S2.trans S3),by rw[V2];exact i3⟩ ?_ ?_
 . rintro i σ H' hi ⟨f,o,rfl,S,hf⟩
   have hr1:=hr'.by S;have bf:ag 650 (r^i):=(ba.pow i).mono (by lia);have bg:ag 1400 (aC r s' i):=(ba.aC bb i).mono (by lia);o_head Cw (a:=r*r^i) (b:=r*aC r s' i+s') (by wtm_at "is") (by wtm_at "is") (λv4 H4 S4 i4=>?_);o_head ⟨_,_,rfl,ah.back S4 (by wtm_at "same"),?_⟩;rw[WQ,qC];exact i4
 . rintro σ H' ⟨f,o,rfl,S,hf⟩
   k_few;exact q _ _ S hf
def gC(a b:Rat)(ns:List Int)(xs:List Rat):Nat->Rat
 | 0=>0
 | k+1=>gC a b ns xs k+(1-(aN a b ns (xs++[0]) k).getD k 0)
def jK(a b:Rat)(ns:List Int)(xs:List Rat)(k:Nat):List Rat:=(wo k).map λj=>(aN a b ns (xs++[0]) (j+1)).getD ((j+1) % ns.length) 0
theorem zwN(a b:Rat)(ns:List Int)(xs:List Rat)(k:Nat):jK a b ns xs (k+1)=jK a b ns xs k++[(aN a b ns (xs++[0]) (k+1)).getD ((k+1) % ns.length) 0]:=by
 unfold jK;rw[qX,w6];rfl
theorem CL(h:aj K H us (xs.map N))(k:Is K H u (N x)):aj K H (us++[u]) ((xs++[x]).map N):=by
 rw[w6];exact h.append (.cons k .nil)
theorem zAb{m:Int}(h:aG K H p (ns.map V.int))(h0:0<=m)(h1:m<ns.length)(q:Q (.int (ns.getD m.toNat 0)) H):c9 K (.ref p) (.int m) H Q:=by
 obtain⟨n,rfl⟩:∃n:Nat,m=(n:Int):=⟨m.toNat,by lia⟩;refine jc h (kQ (j:=n) (v:=.int (ns.getD n 0)) ?_) q;rw[wu,wb,wc (by lia)]
 rfl
def Gr(K:wa):Sp:=λvs H Q _=>∃x0 x1 x2,vs=[x0,x1,x2] /\ ∃(a b:Rat)(ns:List Int)(xs:List Rat)(p1:we),x1=.ref p1/\Is K H x0 (R a b)/\aG K H p1 (ns.map V.int)/\(Is K H x2 (LN xs)\/Is K H x2 (TN xs))/\cT a b ns xs/\(∀k,k<=ns.length->Cm 3500 (aN a b ns (xs++[0]) k))/\(∀k,k<ns.length->ag 4300 (gC a b ns xs k)) /\ ∀t lb vt lh us hs H',ah H H'->H' t=some (.tup [.ref lb,vt,.ref lh])->H' lb=some (.lst us)->aj K H' us ((cO a b ns xs).map N)->Is K H' vt (N (gC a b ns xs ns.length))->H lh=none->H' lh=some (.lst hs)->aj K H' hs ((jK a b ns xs ns.length).map N)->Q (.ref t) H'
theorem zo8{a:Rat}(h1:Is K H v (R a b))(h2:aG K H p1 (ns.map V.int))(h3:Is K H u (LN xs)\/Is K H u (TN xs))(ok:cT a b ns xs)(hrow:∀k,k<=ns.length->Cm 3500 (aN a b ns (xs++[0]) k))(htm:∀k,k<ns.length->ag 4300 (gC a b ns xs k))(q:∀t lb vt lh us hs H',ah H H'->H' t=some (.tup [.ref lb,vt,.ref lh])->H' lb=some (.lst us)->aj K H' us ((cO a b ns xs).map N)->Is K H' vt (N (gC a b ns xs ns.length))->H lh=none->H' lh=some (.lst hs)->aj K H' hs ((jK a b ns xs ns.length).map N)->Q (.ref t) H'):Gr K [v,.ref p1,u] H Q E:=⟨_,_,_,rfl,a,b,ns,xs,p1,rfl,h1,h2,h3,ok,hrow,htm,q⟩
theorem m4{a:Rat}(h1:Is K H v (R a b))(h2:aG K H p1 (ns.map V.int))(h3:Is K H u (LN xs)\/Is K H u (TN xs))(ok:cT a b ns xs)(hrow:∀k,k<=ns.length->Cm 3500 (aN a b ns (xs++[0]) k))(htm:∀k,k<ns.length->ag 4300 (gC a b ns xs k))(q:∀v H',ah H H'->Is K H' v (.tuple [LN (cO a b ns xs),N (gC a b ns xs ns.length),LN (jK a b ns xs ns.length)])->Q v H'):Gr K [v,.ref p1,u] H Q E :=
 zo8 h1 h2 h3 ok hrow htm (λt lb vt lh us hs H' S et eb tb it _ eh th=>q (.ref t) H' S (bZ.mpr ⟨t,_,rfl,.of et,.cons (b_ eb tb) (.cons it (.cons (b_ eh th) .nil))⟩))
theorem zDX{row:List Rat}(c:Cm m row)(hj:j<row.length)(hk:k<row.length):ag (m+2) (row.getD j 0+(1-row.getD k 0)):=by
 have c0:Cm m (0::row):=c.g9 λy hy=>by rcases wR.mp hy with rfl | hy;(exact .inr rfl);exact .inl hy
 exact(c0.rise (GM.getD_mem hk)).fk (wB _ (wV.mpr ⟨_,GM.getD_mem hj,rfl⟩))
theorem nF(T:Txt K mg a):aK P w K mg base aR 4 a.Jp a.HB tG (Gr K):=by
 refine T.lH.F.ok jV ?_ ?_;wtm_at "b3"
 refine⟨_,(ao (az 3 jV.nd (aD cB (di (show aE _ (.type "list") (fQ K)from jU) rfl T.h0Q g_ (ae (pv 2) af)) (cJ (ae (aW (ae ay (ae ay af))) af))))
     (ao (az 4 jV.nd (aW (ae ay (ae ay af))))
     (ao (az 5 jV.nd (cJ af))
     (ao (fc vg rfl (fK rfl T.h0P (ae (bA (show aE _ (.builtin "len") (cj K)from cX) rfl T.h0Y cY (ae (pv 1) af)) af)) (aZ (i:=6) jV.nd rfl (Or.inl rfl)) (ao (az 7 jV.nd (ar (tF T) hr T.oQ (ae (aW (ae ay (ae ay af))) (ae (dw cU (pv 3) (pv 6) (λ_ _=>rfl)) af))))
     (ao (az 4 jV.nd (ar (kY T) hr T.j3 (ae (pv 4) (ae (pv 7) af))))
     (ao (az 8 jV.nd (ar (MJ T) hr T.AV (ae (pv 0) (ae (dw cU (pv 1) (pv 6) (λ_ _=>rfl)) af))))
     (ao (jA (i:=9) jV.nd rfl (Or.inl rfl) rfl (cv.by (N':=["_law_phase","_law_wait"]) (src:=[none,some 7]) rfl (by kernel_rfl)) (fA (pv 3)) (λ_ _ _ _ _=>(aZ (i:=0) (of_decide_eq_true (by kernel_rfl)) rfl (Or.inl rfl))) (λ_ _ _ _ _=>dH) (λ_ _ _ _ _=>(ar (kY (K:=K) (mg:=mg) (a:=a) T) hr T.j3 (ae (pv 0) (ae (pv 1) af)))))
     (ao (jA (i:=3) jV.nd rfl (Or.inl rfl) rfl (cv.by (N':=["_law_phase","_law_often"]) (src:=[none,some 8]) rfl (by kernel_rfl)) (fA (pv 9)) (λ_ _ _ _ _=>(aZ (i:=0) (of_decide_eq_true (by kernel_rfl)) rfl (Or.inl rfl))) (λ_ _ _ _ _=>dH) (λ_ _ _ _ _=>(ar (kY (K:=K) (mg:=mg) (a:=a) T) hr T.j3 (ae (ar (rz (K:=K) (mg:=mg) (a:=a) T) hr T.mL (ae (nZ (K:=K) cU (pv 1)) (ae (pv 0) af))) (ae (nZ (K:=K) cU (pv 1)) af)))))
     (ao (kz (aW (ae ay (ae ay af))) (ml (pv 3) (pv 6) me))
     (av (jR (jn vQ vV vW iS (pv 5) (ae (dw cU (pv 3) (aD gL (aD cB (pv 6) ay) (bA (show aE _ (.builtin "len") (cj K)from cX) rfl T.h0Y cY (ae (pv 1) af))) (λ_ _=>rfl)) af)))))))))))
     (av (aB (aW (ae (oO n_ (pv 3) m6 (m7 (iD ic ay))) (ae (pv 4) (ae (pv 5) af)))))))))),?_⟩
 wtm_at "cl";rw[show start OK [x0,x1,x2]=[some x0,some x1,some x2,none,none,none,none,none,none,none]from rfl];obtain⟨ra,rb,ns,xs,p1,rfl,hr',hn',hp',ok,hrow,htm,q⟩:=h;have hlen:=ok.len;have hfew:=ok.cg;o_head oD hp' (λl1 H1 us hl1 S1 e1 t1=>?_);have hul:=t1.length;rw[wm]at hul;o_head dm (r:=0) rfl rfl (λv2 H2 S2 i2=>?_);o_head de (by simp) (λl3 H3 hl3 S3 e3=>?_);refine jH (S3 _ _ (S2 _ _ e1)) e3 (WB (gj (by simp;lia))) (λlp H4 hl4 S4 e4=>?_);o_head dm (r:=0) rfl rfl (λv5 H5 S5 i5=>?_);o_head de (by simp) (λlh H6 hlh S6 e6=>?_);have T4:ah H H4:=S1.trans (S2.trans (S3.trans S4));have T6:ah H H6:=T4.trans (S5.trans S6);have t6:aj K H6 (us++[v2]) ((xs++[0]).map N):=CL (aj.same (S2.trans (S3.trans (S4.trans (S5.trans S6)))) _ _ t1) (i2.by (S3.trans (S4.trans (S5.trans S6))));have e46:=S6 _ _ (S5 _ _ e4);have hD:=ft (T4.trans S5) hlh;have neph:lp≠lh:=λz=>by subst z;rw[S5 _ _ e4]at hlh;cases hlh
 have i56:=i5.by S6;clear S1 S2 S3 S4 S5 S6 e1 e3 e4 t1 i2 i5 hl1 hl3 hl4 hlh T4;o_head eQ (T6.seq hn') ?_;rw[wm];refine jY (n:=(ns.length:Int)) (by lia) (by lia) (λk σ H'=>∃lp vt o6 o7 o8 o9 us hs,σ = [some x0,some (.ref p1),some x2,some (.ref lp),some vt,some (.ref lh),o6,o7,o8,o9]/\ah H H'/\lp≠lh/\H' lp=some (.lst us)/\aj K H' us ((aN ra rb ns (xs++[0]) k).map N)/\Is K H' vt (N (gC ra rb ns xs k))/\H' lh=some (.lst hs)/\aj K H' hs ((jK ra rb ns xs k).map N)) ⟨lp,v5,_,_,_,_,_,[],rfl,T6,neph,e46,t6,i56,e6,.nil⟩ ?_ ?_
 . rintro k σ H7 hk ⟨lp,vt,o6,o7,o8,o9,us,hs,rfl,S7,neph,e7,t7,it7,h7,th7⟩
   have hk':k<ns.length:=by simpa using hk
   have b1:=htm k hk';have hmk:=hrow k (by lia);have hrl:(aN ra rb ns (xs++[0]) k).length=ns.length:=by rw[du,wQ];simp;lia
   have e8:aN ra rb ns (xs++[0]) (k+1)=dN ra rb (ns.getD k 0).toNat (aN ra rb ns (xs++[0]) k) k:=rfl;have et:gC ra rb ns xs (k+1)=gC ra rb ns xs k+(1-(aN ra rb ns (xs++[0]) k).getD k 0):=rfl;have eh:=zwN ra rb ns xs k;have bb:∀j,ag 3500 ((aN ra rb ns (xs++[0]) k).getD j 0):=λj=>hmk.get j
   have hnk:=ok.n0 (ns.getD k 0) (by rw[wb,wc hk'];exact Wi _);generalize aN ra rb ns (xs++[0]) k=row at *;have bw:ag 3502 (1-row.getD k 0):=(ag.one.sub (bb k)).mono (by decide);have bk:=bb k;o_head dm (r:=1) rfl rfl (λv8 H8 S8 i8=>?_);o_head gu (b_ (S8 _ _ e7) (aj.same S8 _ _ t7)) (by lia) (by lia) (λv9 i9=>?_);rw[wD]at i9;have it8:=it7.by S8;o_head Ac i8 i9 ag.one bk (by decide) (λv10 H10 S10 i10=>?_);have it10:=it8.by S10;k_few;rename_i v11 H11 S11 i11;have T11:=S8.trans (S10.trans S11);refine zAb (T11.seq (S7.seq hn')) (by lia) (by lia) ?_;rw[wD];o_head Ls ((hr'.by S7).by T11) ok.ba ok.bb hnk.1 hnk.2 (λv12 H12 S12 i12=>?_);have T12:=T11.trans S12;have bf:ag 700 (ra^(ns.getD k 0).toNat):=(ok.ba.pow _).mono (by lia);have bg:ag 1500 (aC ra rb (ns.getD k 0).toNat):=(ok.ba.aC ok.bb _).mono (by lia);have i1012:=i10.by (S11.trans S12);have i1112:=i11.by S12;have e12:=T12 _ _ e7;have t12:aj K H12 us (row.map N):=aj.same T12 _ _ t7;have h12:=T12 _ _ h7;have th12:aj K H12 hs ((jK ra rb ns xs k).map N):=aj.same T12 _ _ th7;have X12:=S7.trans T12;have hul:us.length=row.length:=by rw[t12.length,wm]
   rw[<- et]at i1112;clear S8 S10 S11 S12 T11 T12 i8 i9 i10 i11 e7 t7 h7 th7 it7 it8;o_head ki (.of e12) (o0:=none) (tl:=[some v10]) rfl (λj v H=>Is K H v (N ((row.map λx=>x+(1-row.getD k 0)).getD j 0))) ?_ ?_
   . rintro D j x ys o H1 hx' inv
     obtain⟨hj,ix⟩:=cq t12 hx';have ix1:=ix.by inv.same;have jv:=i1012.by inv.same;have bx:=bb j;k_few;rename_i v4 H4 S4 iv4;exact d7 inv (by lia) eA ⟨_,rfl⟩ S4 (by rw[oG hj];exact iv4)
   . rintro D ys H13 hn13 S13 e13 hl13 hr13
     have hyl:ys.length=row.length:=by lia
     have t13:aj K H13 ys ((row.map λx=>x+(1-row.getD k 0)).map N):=eO (by rw[wm];exact hyl) hr13;have hn0:H12 D=none:=hn13;o_head ki (.of e13) (o0:=none) (tl:=[some v12]) rfl (λj v H=>Is K H v (N ((row.map λx=>push ra rb (ns.getD k 0).toNat (x+(1-row.getD k 0))).getD j 0))) ?_ ?_
     . rintro D2 j x zs o H1 hx' inv
       obtain⟨hj,ix⟩:=cq t13 hx';rw[wm]at hj;rw[oG hj]at ix;have ix1:=ix.by inv.same;have jv:=(i12.by S13).by inv.same;have bx:ag 3502 (row.getD j 0+(1-row.getD k 0)):=zDX hmk hj (by lia);k_few;rename_i v4 H4 S4 iv4 v5 iv5 v6 H6 S6 iv6;exact d7 inv (by lia) eA ⟨_,rfl⟩ (S4.trans S6) (by rw[oG hj,h_];exact iv6)
     . rintro D2 zs H14 hn14 S14 e14 hl14 hr14
       have hzl:zs.length=row.length:=by lia
       have T14:=S13.trans S14;o_head dm (r:=0) rfl rfl (λv15 H15 S15 i15=>?_);o_head oK (j:=k) (S15 _ _ e14) (by unfold gD;rw[if_pos (by lia),if_pos (by lia)];simp) (λH16 E16 e16=>?_);have hD2:H12 D2=none:=ft S13 hn14;have ne2:lh≠D2:=λz=>by subst z;rw[h12]at hD2;cases hD2
       have hDH:=ft X12 hD2;have T15:=T14.trans S15;have h16:=E16 lh _ ne2 (T15 _ _ h12);have K16:bK H15 H16:=E16.keep (S15 _ _ e14)
       have t16:aj K H16 (zs.set k v15) ((dN ra rb (ns.getD k 0).toNat row k).map N):=by
         refine eO (by rw[Wo,iG];exact hzl) λj v hv=>?_
         rw[WH]at hv
         by_cases hij:k=j
         . subst hij
           rw[if_pos rfl,if_pos (by lia)]at hv;cases hv;rw[gr _ _ _ _ _ _ (by lia),if_pos rfl];exact i15.c8 K16
         . rw[if_neg hij]at hv
           have hj:j<row.length:=by
             rcases wG j zs.length with z | z
             . lia
             . rw[wL z]at hv;cases hv
           have hz:=hr14 j v hv;rw[oG hj]at hz;rw[gr _ _ _ _ _ _ hj,if_neg (Wt hij)];exact(hz.by S15).c8 K16
       rw[<- e8]at t16;have th16:aj K H16 hs ((jK ra rb ns xs k).map N):=aj.keep (T15.keep.trans K16) _ _ (d4 _) th12;have i1116:=(i1112.by T15).c8 K16;have X16:ah H H16:=(X12.trans T15).grow hDH E16;have hrl2:(aN ra rb ns (xs++[0]) (k+1)).length=ns.length:=by rw[du,wQ];simp;lia
       have hhl:hs.length=k:=by
         have:=th16.length;rw[wm]at this;unfold jK at this
         simpa using this
       clear hr14 e14 hn14 S14 S15 T14 T15 S13 e13 t13 hr13 hn13 i12 i1012 i1112 e12 t12 h12 th12 i15;o_head iI (aG.of h16) ?_;o_head eQ (X16.seq hn') ?_;rw[wm];have hn0':(0:Int)<(ns.length:Int):=by lia
       k_few;have em:((k:Int)+1) % (ns.length:Int)=(((k+1) % ns.length:Nat):Int):=by push_cast;rfl
       have hmd:(k+1) % ns.length<ns.length:=X6 _ (by lia);rw[em];refine gu (b_ e16 t16) (by lia) (by lia) (λv17 i17=>?_);rw[wD]at i17;o_head je h16 (by lia) (λH18 E18 e18=>?_);have K18:=E18.keep h16;o_head ⟨D2,_,_,_,_,_,_,hs++[v17],rfl,X16.grow hD E18,Wt ne2,E18 D2 _ (Wt ne2) e16,aj.keep K18 _ _ (d4 _) t16,i1116.c8 K18,e18,?_⟩;rw[eh];exact CL (aj.keep K18 _ _ (d4 _) th16) (i17.c8 K18)
 . rintro σ H7 ⟨lp,vt,o6,o7,o8,o9,us,hs,rfl,S7,neph,e7,t7,it7,h7,th7⟩
   o_head pZ (b_ e7 t7) (λl20 H20 ys20 n20 S20 e20 t20=>?_);rw[AD,<- qP]at t20;o_head lF (by simp) (λt21 H21 n21 S21 e21=>?_);exact q t21 l20 vt lh ys20 hs H21 (S7.trans (S20.trans S21)) e21 (S21 _ _ e20) (aj.same S21 _ _ t20) (it7.by (S20.trans S21)) hD ((S20.trans S21) _ _ h7) (aj.same (S20.trans S21) _ _ th7)
def KL(K:wa):Sp:=λvs H Q _=>∃x0 x1,vs=[x0,x1] /\ ∃(a:Rat)(n:Int)(k:Nat),x1=.int n/\Is K H x0 (N a)/\ag k a/\k<=4000/\0<=n/\n<=100/\k*n.toNat<=4000 /\ ∀v H',ah H H'->Is K H' v (N (a^n.toNat))->Q v H'
theorem Bv{a:Rat}{n:Int}(h:Is K H v (N a))(b:ag k a)(hk:k<=4000)(n0:0<=n)(n1:n<=100)(hkn:k*n.toNat<=4000)(q:∀v H',ah H H'->Is K H' v (N (a^n.toNat))->Q v H'):KL K [v,.int n] H Q E:=⟨_,_,rfl,a,n,k,rfl,h,b,hk,n0,n1,hkn,q⟩
theorem B5{k:Nat}{x:Int}(h:Bd k x):∀n:Nat,Bd (k*n+1) (x^n)
 | 0=>⟨by simp⟩
 | n+1=>by
  rw[VI];exact((B5 h n).mul h).mono (by rw[Ql];lia)
theorem Et(T:Txt K mg a):aK P w K mg base aR 1 a.IY a.HD uU (KL K):=by
 refine T.sJ.F.ok ou ?_ ?_;wtm_at "b2"
 refine⟨_,(ao (az 2 ou.nd ay)
     (ao (az 3 ou.nd ay)
     (ao (fc vg rfl (fK rfl T.h0P (ae (pv 1) af)) (aZ (i:=4) ou.nd rfl (Or.inl rfl)) (ao (az 2 ou.nd (aD cK (pv 2) (au (pv 0))))
     (av (az 3 ou.nd (aD cK (pv 3) (au (pv 0)))))))
     (av (aB (aW (ae (pv 2) (ae (pv 3) af)))))))),?_⟩
 wtm_at "cl";rw[show start Mj [x0,x1]=[some x0,some x1,none,none,none]from rfl];obtain⟨ra,n,kk,rfl,hx,ba,hk4,n0,n1,hkn,q⟩:=h;have bt:Bd 4000 ra.num:=ba.t.mono hk4;have bd:Bd 4000 (ra.den:Int):=ba.b.mono hk4;o_head jY (n:=n) (by lia) (by lia) (λi σ H'=>∃o,σ = [some x0,some (.int n),some (.int (ra.num^i)),some (.int ((ra.den:Int)^i)),o]/\H'=H) ⟨none,by rw[Qa,Qa],rfl⟩ ?_ ?_
 . rintro i σ H' hi ⟨o,rfl,rfl⟩
   have hki:kk*i<=kk*n.toNat:=Qd _ (by lia);have b1:Bd 4001 (ra.num^i):=(B5 ba.t i).mono (by lia);have b2:Bd 4001 ((ra.den:Int)^i):=(B5 ba.b i).mono (by lia);have e1:ra.num^(i+1)=ra.num^i*ra.num:=VI ..;have e2:(ra.den:Int)^(i+1)=(ra.den:Int)^i*(ra.den:Int):=VI ..;generalize ra.num^i=t at *;generalize (ra.den:Int)^i=u at *;k_few;exact⟨_,by rw[e1,e2],rfl⟩
 . rintro σ H' ⟨o,rfl,rfl⟩
   k_few;exact dm (r:=ra^n.toNat) (Rat.num_pow ..).symm (by rw[Rat.den_pow];push_cast;rfl) q
def Tr(K:wa):Sp:=λvs H Q _=>∃x0 x1,vs=[x0,x1] /\ ∃(a b:Rat)(ns:List Int)(p1:we),x1=.ref p1/\Is K H x0 (R a b)/\aG K H p1 (ns.map V.int)/\aS a b/\cS ns/\a≠1 /\ ∀l H' us,H l=none->ah H H'->H' l=some (.lst us)->aj K H' us ((cc a b ns).map N)->Q (.ref l) H'
theorem B0{a:Rat}(h1:Is K H v (R a b))(h2:aG K H p1 (ns.map V.int))(ok:aS a b)(sz:cS ns)(ha:a≠1)(q:∀l H' us,H l=none->ah H H'->H' l=some (.lst us)->aj K H' us ((cc a b ns).map N)->Q (.ref l) H'):Tr K [v,.ref p1] H Q E:=⟨_,_,rfl,a,b,ns,p1,rfl,h1,h2,ok,sz,ha,q⟩
theorem nA{a:Rat}(h:aS a b)(k:cS ns)(hl:ns.length=xs.length+1)(c:Cm m xs)(hm:m<=3290):cT a b ns xs/\(∀j,j<=ns.length->Cm 3500 (aN a b ns (xs++[0]) j)) /\ ∀j,j<ns.length->ag 4300 (gC a b ns xs j):=by
 have h8:=k.cg;have hu:=k.upTo
 have ht:∀j,gC a b ns xs j=eS a b ns (xs++[0]) j:=λj=>by
  induction j with
  | zero=>rfl
  | succ j ih=>rw[gC,eS,ih]
 have hc:∀j,j<=ns.length->Cm 3500 (eS a b ns (xs++[0]) j::aN a b ns (xs++[0]) j):=λj hj=>by
  have h1:=Dh (ns:=ns) hj (wp _);exact(c.snoc.Be h.ba h.bb (ns:=ns) j hj).mono (by lia)
 refine⟨⟨h.ba,h.bb,λn hn=>by have:=k.each n hn;lia,hl,by lia,⟨m,c,by lia⟩⟩,λj hj=>lD (hc j hj) λy hy=>wB _ hy,λj hj=>?_⟩;rw[ht];exact((hc j (by lia)).fk (wJ ..)).mono (by decide)
theorem Gu{l:we}{k:Int}(e:H l=some (.lst [v]))(h0:0<=k)(h1:k<=1000)(q:∀p H',H p=none->ah H H'->H' p=some (.lst (vn k.toNat v))->Q (.ref p) H'):mV (.ref l) (.int k) H Q :=
 zCO e (by lia) h1 (by rw[vS];lia) (λp H' n s e'=>q p H' n s (by rw[e',List.flatten_replicate_singleton]))
theorem N0(h:Is K H v (N 0))(n:Nat):aj K H (vn n v) ((cE n).map N):=by
 unfold cE;rw[Xf];exact aj.Kh h n
theorem Bi(T:Txt K mg a):aK P w K mg base aR 5 a.Jh a.Hq zI (Tr K):=by
 refine T.sL.F.ok BC ?_ ?_;wtm_at "b2"
 refine⟨_,(ao (az 2 BC.nd (ar (Et T) hr T.sJ (ae (au (pv 0)) (ae (bA (show aE _ (.builtin "sum") (zy K)from Tq rfl) rfl T.h0V EY (ae (pv 1) af)) af))))
     (ao (az 3 BC.nd (au (ar (nF T) hr T.lH (ae (pv 0) (ae (pv 1) (ae (aD (show aH _ (WG .Mult) mV from Fi) (cJ (ae (aW (ae ay (ae ay af))) af)) (aD iY (bA (show aE _ (.builtin "len") (cj K)from cX) rfl T.h0Y cY (ae (pv 1) af)) ay)) af))))))
     (av (aB (dR rfl (cv.by (N':=["_law_shift","_law_factor"]) (src:=[none,some 2]) rfl (by kernel_rfl)) (fA (pv 3)) (λ_ _ _ _ _=>(aZ (i:=0) (of_decide_eq_true (by kernel_rfl)) rfl (Or.inl rfl))) (λ_ _ _ _ _=>dH) (λ_ _ _ _ _=>by exact(ar (zsX (K:=K) (mg:=mg) (a:=a) T) hr T.ID (ae (pv 0) (ae (ar (tF (K:=K) (mg:=mg) (a:=a) T) hr T.oQ (ae (show PE _ _ (kU K _)from aW (ae ay (ae ay af))) (ae (pv 1) af))) af))))))))),?_⟩
 wtm_at "cl";rw[show start L5 [x0,x1]=[some x0,some x1,none,none]from rfl];obtain⟨ra,rb,ns,p1,rfl,hr',hn',ok,sz,ha,q⟩:=h;have h8:=sz.cg;have h1:=sz.some;have hp:=sz.pos;have hF:ra^ns.sum.toNat≠1:=λe=>ha ((lB ok (by lia)).mp e)
 have bF:ag 49 (ra^ns.sum.toNat):=(iT ok _).mono (by lia);have hne:1-ra^ns.sum.toNat≠0:=λe=>hF (by grind)
 have rc:=nA ok sz (xs:=cE (ns.length-1)) (by rw[pN];lia) (oF _) (by decide);k_few;rename_i va ia;refine M5 hn' ?_;o_head Bv ia (EI ok) (by decide) (by lia) (by lia) (by lia) (λv1 H1 S1 i1=>?_);o_head dm (r:=0) rfl rfl (λv2 H2 S2 i2=>?_);o_head de (by simp) (λl3 H3 n3 S3 e3=>?_);o_head eQ ((S1.trans (S2.trans S3)).seq hn') ?_;rw[wm];o_head Gu e3 (by lia) (by lia) (λl4 H4 n4 S4 e4=>?_);have T4:=S1.trans (S2.trans (S3.trans S4));have hk:((ns.length:Int)-1).toNat=ns.length-1:=by lia
 rw[hk]at e4;have i4:Is K H4 (.ref l4) (LN (cE (ns.length-1))):=b_ e4 (N0 (i2.by (S3.trans S4)) _);o_head m4 (hr'.by T4) (T4.seq hn') (.inl i4) rc.1 rc.2.1 rc.2.2 (λv5 H5 S5 i5=>?_);o_head aF (j:=0) i5 rfl (λv6 i6=>?_);have T5:=T4.trans S5;have i15:=i1.by (S2.trans (S3.trans (S4.trans S5)));obtain⟨l6,us,rfl,hs6,t6⟩:=cb.mp i6;have hul:=t6.length;rw[wm]at hul;have hsl:(ck ra rb ns).length=ns.length-1:=kP h1;have hul:us.length=ns.length-1:=by rw[hul];exact hsl
 have hstl:(cc ra rb ns).length=ns.length-1:=lO h1;o_head ki hs6 (o0:=none) (tl:=[some v1]) rfl (λj y H'=>Is K H' y (N ((cc ra rb ns).getD j 0))) ?_ ?_
 . intro D j x ys o H7 hx inv
   obtain⟨hj,ix⟩:=cq (xs:=ck ra rb ns) t6 hx;have S7:=inv.same;have ix7:=ix.by S7;o_head dm (r:=1) rfl rfl (λv8 H8 S8 i8=>?_);o_head Ac i8 (i15.by (S7.trans S8)) ag.one bF (by decide) (λv9 H9 S9 i9=>?_);o_head zs4 (ix7.by (S8.trans S9)) i9 (sj ok sz j) (ag.one.sub bF) (by decide) hne (λv10 H10 S10 i10=>?_);have e:(cc ra rb ns).getD j 0=(ck ra rb ns).getD j 0 / (1-ra^ns.sum.toNat):=UK (by lia);rw[<- e]at i10;exact d7 inv (by lia) eA ⟨_,rfl⟩ (S8.trans (S9.trans S10)) i10
 . intro D ys H7 hn S7 hD hl hr
   exact q D H7 ys (ft T5 hn) (T5.trans S7) hD (eO (by rw[hl,hul,hstl]) hr)
def OR(K:wa):Sp:=λvs H Q _=>∃x0 x1 x2 x3,vs=[x0,x1,x2,x3] /\ ∃(a b:Rat)(ns:List Int)(xs:List Rat)(k:Int)(p1:we),x3=.int k/\x1=.ref p1/\Is K H x0 (R a b)/\aG K H p1 (ns.map V.int)/\Is K H x2 (LN xs)/\ns.length=xs.length+1/\0<=k/\d6 a b ns k.toNat/\(∀i,ag 2500 (xs.getD i 0)) /\ ∀l H' us,H l=none->ah H H'->H' l=some (.lst us)->aj K H' us ((cf a b ns k.toNat xs).map N)->Q (.ref l) H'
theorem Uc{a:Rat}{k:Int}(h1:Is K H v (R a b))(h2:aG K H p1 (ns.map V.int))(h3:Is K H u (LN xs))(hl:ns.length=xs.length+1)(k0:0<=k)(ok:d6 a b ns k.toNat)(bx:∀i,ag 2500 (xs.getD i 0))(q:∀l H' us,H l=none->ah H H'->H' l=some (.lst us)->aj K H' us ((cf a b ns k.toNat xs).map N)->Q (.ref l) H'):OR K [v,.ref p1,u,.int k] H Q E:=⟨_,_,_,_,rfl,a,b,ns,xs,k,p1,rfl,rfl,h1,h2,h3,hl,k0,ok,bx,q⟩
theorem Z5{a:Rat}(ok:aS a b)(sz:cS ns)(hF:a^ns.sum.toNat≠1)(i:Nat):ag 268 ((cc a b ns).getD i 0):=(ES ok.ba ok.bb sz.cg sz.upTo (by have:=sz.sum;lia) hF).get i
theorem Mx(T:Txt K mg a):aK P w K mg base aR 6 a.IC a.Hf tE (OR K):=by
 refine T.AW.F.ok nO ?_ ?_;wtm_at "b4"
 refine⟨_,(ao (bL (bD (show aH _ (wH .Eq) (cn K)from cV hu) (au (pv 0)) (aW (ae ay (ae ay af))) (aU _)) (ao (az 4 nO.nd (au (ar (nF T) hr T.lH (ae (pv 0) (ae (pv 1) (ae (aD (show aH _ (WG .Mult) mV from Fi) (cJ (ae (aW (ae ay (ae ay af))) af)) (aD iY (bA (show aE _ (.builtin "len") (cj K)from cX) rfl T.h0Y cY (ae (pv 1) af)) ay)) af))))))
     (av (aB (dR rfl (cv.by (N':=["_law_place","_law_shift","_law_many"]) (src:=[none,none,some 3]) rfl (by kernel_rfl)) (FO rfl T.h0Z (ae (pv 2) (ae (pv 4) af))) (λ_ _ _ _ _=>by exact(show PG _ _ (kW K 2 _)from j_ (n:=2) rfl (fb (aZ (i:=0) (of_decide_eq_true (by kernel_rfl)) rfl (Or.inl rfl)) (fb (aZ (i:=1) (of_decide_eq_true (by kernel_rfl)) rfl (Or.inl rfl)) j7)))) (λ_ _ _ _ _=>dH) (λ_ _ _ _ _=>by exact(ar (kY (K:=K) (mg:=mg) (a:=a) T) hr T.j3 (ae (pv 0) (ae (show PE _ _ (kU K _)from aW (ae (aD cK (pv 2) (nZ (K:=K) cU (pv 1))) (ae (nZ (K:=K) cU (pv 1)) af))) af)))))))) bN)
     (ao (az 5 nO.nd (ar (Et T) hr T.sJ (ae (ar (Et T) hr T.sJ (ae (au (pv 0)) (ae (bA (show aE _ (.builtin "sum") (zy K)from Tq rfl) rfl T.h0V EY (ae (pv 1) af)) af))) (ae (pv 3) af))))
     (ao (az 6 nO.nd (cJ af))
     (ao (fc vg rfl (FO rfl T.h0Z (ae (pv 2) (ae (ar (Bi T) hr T.sL (ae (pv 0) (ae (pv 1) af))) af))) (j_ (n:=2) rfl (fb (aZ (i:=7) nO.nd rfl (Or.inl rfl)) (fb (aZ (i:=8) nO.nd rfl (Or.inl rfl)) j7))) (av (jR (jn vQ vV vW iS (pv 6) (ae (ar (kY T) hr T.j3 (ae (pv 8) (ae (ar (rz T) hr T.mL (ae (pv 5) (ae (ar (tF T) hr T.oQ (ae (pv 7) (ae (pv 8) af))) af))) af))) af)))))
     (av (aB (pv 6))))))),?_⟩
 wtm_at "cl";rw[show start Uv [x0,x1,x2,x3]=[some x0,some x1,some x2,some x3,none,none,none,none,none]from rfl];obtain⟨ra,rb,ns,xs,k,p1,rfl,rfl,hr',hn',hp',hl,k0,ok,bx,q⟩:=h;have h8:=ok.sz.cg;have h1:=ok.sz.some;have hps:=ok.sz.pos;have hk60:=ok.cg;have hkk:=ok.k;obtain⟨k,rfl⟩:∃j:Nat,k=(j:Int):=⟨k.toNat,by lia⟩;rw[wD]at q ok hk60 hkk;obtain⟨lp,ps,rfl,hsp0,tp0⟩:=cb.mp hp';have hpl:=tp0.length;rw[wm]at hpl;have hsl:(ck ra rb ns).length=ns.length-1:=kP h1;have bs:=sj ok.ok ok.sz;k_few;rename_i va ia;refine dm (r:=1) rfl rfl (λv1 H1 S1 i1=>?_);refine C7 (ia.by S1) i1 ?_;k_few
 . rename_i ha
   have hF:ra^ns.sum.toNat=1:=by rw[ha,GM.one_pow']
   have rc:=nA ok.ok ok.sz (xs:=cE (ns.length-1)) (by rw[pN];lia) (oF _) (by decide);refine dm (r:=0) rfl rfl (λv2 H2 S2 i2=>?_);o_head de (by simp) (λl3 H3 n3 S3 e3=>?_);o_head eQ ((S1.trans (S2.trans S3)).seq hn') ?_;rw[wm];o_head Gu e3 (by lia) (by lia) (λl4 H4 n4 S4 e4=>?_);have T4:=S1.trans (S2.trans (S3.trans S4));have hk1:((ns.length:Int)-1).toNat=ns.length-1:=by lia
   rw[hk1]at e4;have i4:Is K H4 (.ref l4) (LN (cE (ns.length-1))):=b_ e4 (N0 (i2.by (S3.trans S4)) _);o_head m4 (hr'.by T4) (T4.seq hn') (.inl i4) rc.1 rc.2.1 rc.2.2 (λv5 H5 S5 i5=>?_);o_head aF (j:=0) i5 rfl (λv6 i6=>?_);have T5:=T4.trans S5;obtain⟨l6,us,rfl,hs6,t6⟩:=cb.mp i6;have hul:=t6.length;rw[wm]at hul;have hul:us.length=ns.length-1:=by rw[hul];exact hsl
   have hsp:=T5.seq hsp0;have tp:aj K H5 ps (xs.map N):=aj.same T5 _ _ tp0;o_head M9 (t:=false) (u:=false) hsp hs6 (by lia) (o0:=none) (o0':=none) (tl:=[some (.int (k:Int))]) rfl (λj y H'=>Is K H' y (N ((cf ra rb ns k xs).getD j 0))) eA ?_ ?_
   . intro D j y z zs o1 o2 H7 c hy hz inv hc
     obtain⟨hj,iy⟩:=cq tp hy;obtain⟨_,iz⟩:=cq (xs:=ck ra rb ns) t6 hz;have S7:=inv.2.2.1;have iy7:=iy.by S7;have iz7:=iz.by S7;have h64:(2:Nat)^6=64:=by decide
     have bk:Bd 6 (k:Int):=⟨by rw[h64];lia⟩;have bj:=bs j;have bkt:Bd 191 ((k:Int)*((ck ra rb ns).getD j 0).num):=(bk.mul bj.t).mono (by decide);refine ly (.of hc) rfl ?_;o_head cR (ds:=[.int ((k:Int)*((ck ra rb ns).getD j 0).num),.int (((ck ra rb ns).getD j 0).den:Int)]) (by simp) (.cons (cw.mpr rfl) (.cons (cw.mpr rfl) .nil)) (λv8 H8 S8 i8=>?_);o_head Pe (iy7.by S8) i8 (den_pos _) ((bx j).mono (by decide)) (bkt.mono (by decide)) (bj.b.mono (by decide)) (λv9 H9 S9 i9=>?_);have e:(cf ra rb ns k xs).getD j 0=xs.getD j 0+wx ((k:Int)*((ck ra rb ns).getD j 0).num) (((ck ra rb ns).getD j 0).den:Int):=by rw[iJ hj,hF,zw5]
     rw[<- e]at i9;exact pS inv (by lia) eA ⟨_,_,rfl⟩ (S8.trans S9) i9
   . intro D zs H7 hn S7 hD hl7 hr
     exact q D H7 zs (ft T5 hn) (T5.trans S7) hD (eO (by rw[hl7,hpl,df]) hr)
 . rename_i ha vb ib
   have hF:ra^ns.sum.toNat≠1:=λe=>ha ((lB ok.ok (by lia)).mp e)
   have br:=Z5 ok.ok ok.sz hF;have hstl:(cc ra rb ns).length=ns.length-1:=lO h1;refine M5 (S1.seq hn') ?_;o_head Bv ib (EI ok.ok) (by decide) (by lia) (by lia) (by lia) (λv2 H2 S2 i2=>?_);k_few;have hkn:(6*ns.sum.toNat+1)*k<=1600:=Wl (Wf _ (by lia)) hkk;refine Bv i2 (iT ok.ok _) (by lia) (by lia) (by lia) (by rw[wD];lia) (λv3 H3 S3 i3=>?_);rw[wD]at i3;have bP:ag 1601 ((ra^ns.sum.toNat)^k):=ok.pow (wp _);o_head de (by simp) (λlf H4 n4 S4 e4=>?_);have T4:=S1.trans (S2.trans (S3.trans S4));o_head B0 (hr'.by T4) (T4.seq hn') ok.ok ok.sz ha (λl5 H5 us n5 S5 e5 t5=>?_);have T5:=T4.trans S5;have ef5:=S5 _ _ e4;have i35:=i3.by (S4.trans S5);have hfH:H lf=none:=ft (S1.trans (S2.trans S3)) n4;have n5f:l5≠lf:=λz=>by subst z;rw[e4]at n5;cases n5
   have hsp:=T5.seq hsp0;have tp:aj K H5 ps (xs.map N):=aj.same T5 _ _ tp0;have hul:=t5.length;rw[wm]at hul;generalize hpow:(ra^ns.sum.toNat)^k=Fk at *;refine ZL (t:=false) (u:=false) hsp (aG.of e5) (by lia) (λi σ H'=>∃o7 o8 ws,σ = [some x0,some (.ref p1),some (.ref lp),some (.int (k:Int)),none,some v3,some (.ref lf),o7,o8]/\Exc lf H5 H'/\H' lf=some (.lst ws)/\aj K H' ws (((cf ra rb ns k xs).take i).map N)) ⟨_,_,[],rfl,Exc.refl _ _,ef5,.nil⟩ (λi σ H' _ ⟨_,_,_,_,E,_⟩=>⟨(T5.grow hfH E).seq hsp0,aG.of (E _ _ n5f e5)⟩) ?_ ?_
   . rintro i y z σ H6 c H7 hy hz ⟨o7,o8,ws,rfl,E6,e6,t6⟩ hc S7 e7
     obtain⟨hj,iy⟩:=cq tp hy;obtain⟨hj2,iz⟩:=cq t5 hz;have K7:=(E6.keep ef5).trans S7.keep;have iy7:=iy.c8 K7;have iz7:=iz.c8 K7;have i37:=i35.c8 K7;have hwl:=t6.length;rw[wm,Wr,df]at hwl;have bri:=br i;have bxi:=bx i;have e:(cf ra rb ns k xs).getD i 0=(cc ra rb ns).getD i 0+Fk*(xs.getD i 0-(cc ra rb ns).getD i 0):=by rw[iJ hj,Rh (Aa hF hj2),hpow]
     have hlj:i<(cf ra rb ns k xs).length:=by rw[df];exact hj
     have b8:ag 2769 (xs.getD i 0-(cc ra rb ns).getD i 0):=(bxi.sub bri).mono (by decide);have bPx:ag 4370 (Fk*(xs.getD i 0-(cc ra rb ns).getD i 0)):=(bP.mul b8).mono (by decide);refine ly (.of e7) rfl ?_;o_head iI (aG.of (S7 _ _ e6)) ?_;o_head Ac iy7 iz7 bxi bri (by decide) (λv8 H8 S8 i8=>?_);have i38:=i37.by S8;have iz8:=iz7.by S8;k_few;rename_i v9 H9 S9 i9 v10 H10 S10 i10;rw[<- e]at i10;have T10:=S7.trans (S8.trans (S9.trans S10));have e10:=T10 _ _ e6;refine je e10 (by lia) (λH11 E11 e11=>?_);have K11:=E11.keep e10;refine⟨_,_,_,rfl,E6.trans (T10.exc.trans E11),e11,?_⟩;rw[fO hlj,w6];exact(aj.keep (T10.keep.trans K11) _ _ (d4 _) t6).append (.cons (i10.c8 K11) .nil)
   . rintro σ H6 ⟨o7,o8,ws,rfl,E6,e6,t6⟩
     rw[hpl,WR (by rw[df];lia)]at t6;k_few;exact q lf H6 ws hfH (T5.grow hfH E6) e6 t6
theorem zzt(bs:List Bool):(bs.map V.bl).all jL=true:=by
 rw[Wc];intro y hy;obtain⟨b,_,rfl⟩:=wV.mp hy
 rfl
theorem zDo(c:Bool)(bs:List Bool):m3 (.bl c) (bs.map V.bl)=decide (c∈bs):=by
 unfold m3;rw[vy,qT,decide_eq_true_eq]
 constructor
 ·rintro ⟨y,hy,e⟩
  obtain⟨b,hb,rfl⟩:=wV.mp hy;have:b=c:=by revert e;cases b<;>cases c<;>decide
  rw[<- this];exact hb
 ·intro h
  exact⟨.bl c,wV.mpr ⟨c,h,rfl⟩,by cases c<;>decide⟩
theorem UN{bs:List Bool}{c:Bool}(h:aG K H p (bs.map V.bl))(q:Q (.bl (!decide (c∈bs))) H):fY K true (.bl c) (.ref p) H Q:=⟨p,_,rfl,.inl h,rfl,zzt bs,by rw[zDo];exact q⟩
theorem zqY(h:∀i,i<xs.length+1->(cC xs).getD (i+1) 0<(cC xs).getD i 0):(lz xs).all id=true:=by
 rw[Wc];intro b hb;obtain⟨i,hi,rfl⟩:=wV.mp hb;exact decide_eq_true (h i (wF.mp hi))
theorem zuG(hi:i<xs.length+1)(h:¬ (cC xs).getD (i+1) 0<(cC xs).getD i 0):(lz xs).all id=false:=by
 rw[VY];intro e;have:=Wc.mp e _ (wV.mpr ⟨i,wF.mpr hi,rfl⟩);exact h (of_decide_eq_true this)
theorem Z1(ts:List Rat):(!decide (false∈ts.map λx=>decide (x<1)))=(kj ts).all id:=by
 rw[vy,WO,decide_eq_false_iff_not,Wc]
 constructor
 ·intro h b hb
  cases b with
  | true=>rfl
  | false=>exact absurd hb h
 ·intro h hb
  have:=h _ hb;cases this
def Mn(K:wa):Sp:=λvs H Q _=>∃x0 x1 x2,vs=[x0,x1,x2] /\ ∃(a b:Rat)(ns:List Int)(xs:List Rat)(p1:we),x1=.ref p1/\Is K H x0 (R a b)/\aG K H p1 (ns.map V.int)/\(Is K H x2 (LN xs)\/Is K H x2 (TN xs))/\cT a b ns xs/\(∀k,k<=ns.length->Cm 3500 (aN a b ns (xs++[0]) k))/\(∀k,k<ns.length->ag 4300 (gC a b ns xs k)) /\ ∀H',ah H H'->Q (.bl (dW a b ns xs)) H'
theorem LW{a:Rat}(h1:Is K H v (R a b))(h2:aG K H p1 (ns.map V.int))(h3:Is K H u (LN xs)\/Is K H u (TN xs))(ok:aS a b)(sz:cS ns)(hl:ns.length=xs.length+1)(c:Cm m xs)(hm:m<=3290)(q:∀H',ah H H'->Q (.bl (dW a b ns xs)) H'):Mn K [v,.ref p1,u] H Q E :=
 have rc:=nA ok sz hl c hm
 ⟨_,_,_,rfl,a,b,ns,xs,p1,rfl,h1,h2,h3,rc.1,rc.2.1,rc.2.2,q⟩
theorem RE(T:Txt K mg a):aK P w K mg base aR 5 a.Jt a.HR yH (Mn K):=by
 refine T.A3.F.ok DZ ?_ ?_;wtm_at "b3"
 refine⟨_,(ao (az 3 DZ.nd (aD cB (aD cB (cJ (ae (aW (ae ay (ae ay af))) af)) (di (show aE _ (.type "list") (fQ K)from jU) rfl T.h0Q g_ (ae (pv 2) af))) (cJ (ae (aW (ae ay (ae ay af))) af))))
     (ao (fc vg rfl (fK rfl T.h0P (ae (aD iY (bA (show aE _ (.builtin "len") (cj K)from cX) rfl T.h0Y cY (ae (pv 3) af)) ay) af)) (aZ (i:=4) DZ.nd rfl (Or.inl rfl)) (av (bL (dy (cA (ar (rF T) hr T.mO (ae (dw cU (pv 3) (aD cB (pv 4) ay) (λ_ _=>rfl)) (ae (dw cU (pv 3) (pv 4) (λ_ _=>rfl)) af))))) (av (aB hZ)) bN)))
     (av (aB (eK (show aH _ (wH .NotIn) (fY K true)from sf) hZ (dR rfl (cv.by (N':=["_law_one"]) (src:=[none]) rfl (by kernel_rfl)) (fA (au (ar (nF T) hr T.lH (ae (pv 0) (ae (pv 1) (ae (pv 2) af)))))) (λ_ _ _ _ _=>(aZ (i:=0) (of_decide_eq_true (by kernel_rfl)) rfl (Or.inl rfl))) (λ_ _ _ _ _=>dH) (λ_ _ _ _ _=>by exact(ar (rF (K:=K) (mg:=mg) (a:=a) T) hr T.mO (ae (pv 0) (ae (show PE _ _ (kU K _)from aW (ae ay (ae ay af))) af))))) (by with_unfolding_all rfl)))))),?_⟩
 wtm_at "cl";rw[show start Oh [x0,x1,x2]=[some x0,some x1,some x2,none,none]from rfl];obtain⟨ra,rb,ns,xs,p1,rfl,hr',hn',hp',ok,hrow,htm,q⟩:=h;have hlen:=ok.len;have hfew:=ok.cg;obtain⟨m,hcm,hm⟩:=ok.cm;o_head dm (r:=1) rfl rfl (λv1 H1 S1 i1=>?_);o_head de (by simp) (λl2 H2 n2 S2 e2=>?_);k_few
 have hp2:Is K H2 x2 (.list (xs.map N))\/Is K H2 x2 (.tuple (xs.map N)):=by
   rcases hp' with z | z
   . exact .inl (z.by (S1.trans S2))
   . exact .inr (z.by (S1.trans S2))
 refine oD hp2 (λl3 H3 us n3 S3 e3 t3=>?_);have hul:=t3.length;rw[wm]at hul;o_head jH (S3 _ _ e2) e3 (WB (gj (by simp;lia))) (λl4 H4 n4 S4 e4=>?_);o_head dm (r:=0) rfl rfl (λv5 H5 S5 i5=>?_);o_head de (by simp) (λl6 H6 n6 S6 e6=>?_);refine jH (S6 _ _ (S5 _ _ e4)) e6 (WB (gj (by simp;lia))) (λl7 H7 n7 S7 e7=>?_);have S37:=S4.trans (S5.trans (S6.trans S7));have T7:ah H H7:=S1.trans (S2.trans (S3.trans S37))
 have t7:aj K H7 ([v1]++us++[v5]) ((cC xs).map N):=by
   unfold cC;rw[w6,w6];exact(aj.append (.cons (i1.by (S2.trans (S3.trans S37))) .nil) (aj.same S37 _ _ t3)).append (.cons (i5.by (S6.trans S7)) .nil)
 have ir7:=hr'.by T7;have in7:=T7.seq hn'
 have ip7:Is K H7 x2 (LN xs)\/Is K H7 x2 (TN xs):=by
   rcases hp' with z | z
   . exact .inl (z.by T7)
   . exact .inr (z.by T7)
 clear n2 n3 n4 n6 n7 S1 S2 S3 S4 S5 S6 S7 S37 e2 e3 e4 e6 t3 hr' hn' hp' hp2 i1 i5;generalize [v1]++us++[v5]=ws at e7 t7;have hws:=t7.length;rw[wm,mJ]at hws;o_head eQ (.of e7) ?_;rw[hws];o_head jY (n:=((xs.length+2:Nat):Int)-1) (by lia) (by lia) (λk σ H'=>∃o4,σ = [some x0,some (.ref p1),some x2,some (.ref l7),o4]/\H'=H7 /\ ∀i,i<k->(cC xs).getD (i+1) 0<(cC xs).getD i 0) ⟨_,rfl,rfl,λi hi=>by lia⟩ ?_ ?_
 . rintro k σ H' hk ⟨o4,rfl,rfl,hf⟩
   have hk:k<xs.length+1:=by lia
   have b1:ag 8000 ((cC xs).getD k 0):=(yG hcm k).mono (by lia);have b2:ag 8000 ((cC xs).getD (k+1) 0):=(yG hcm (k+1)).mono (by lia);o_head gu (b_ e7 t7) (by lia) (by rw[mJ];lia) (λv8 i8=>?_);rw[show((k:Int)+1).toNat=k+1 by lia]at i8;o_head gu (b_ e7 t7) (by lia) (by rw[mJ];lia) (λv9 i9=>?_);rw[wD]at i9;k_few
   . rename_i z
     have e:dW ra rb ns xs=false:=by unfold dW;rw[zuG hk z];rfl
     have:=q H' T7;rw[e]at this;exact this
   . rename_i z
     refine⟨_,rfl,rfl,λi hi=>?_⟩;rcases wG i k with y | y
     . exact hf i y
     . have:i=k:=by lia
       subst this;exact z
 . rintro σ H' ⟨o4,rfl,rfl,hf⟩
   have hf:∀i,i<xs.length+1->(cC xs).getD (i+1) 0<(cC xs).getD i 0:=λi hi=>hf i (by lia)
   have hfa:=zqY hf;o_head m4 ir7 in7 ip7 ok hrow htm (λv8 H8 S8 i8=>?_);o_head aF (j:=2) i8 rfl (λv9 i9=>?_);obtain⟨l9,hs9,rfl,s9,t9⟩:=cb.mp (show Is K H8 v9 (.list ((dC ra rb ns xs).map N))from i9);have hl9:hs9.length=ns.length:=by rw[t9.length,wm,eT]
   refine ki s9 (o0:=none) (tl:=[]) rfl (λj y _=>y=V.bl (((dC ra rb ns xs).map λx=>decide (x<1)).getD j true)) ?_ ?_
   . intro D i x ys o H10 hx inv
     obtain⟨hi,ix⟩:=cq t9 hx;rw[eT]at hi;have ix:=ix.by inv.same;have b1:ag 8000 ((dC ra rb ns xs).getD i 0):=yc ok hi;o_head dm (r:=1) rfl rfl (λv11 H11 S11 i11=>?_);have ix:=ix.by S11;o_head d7 inv (by lia) (λ_ _ _ _ _ h=>h) ⟨_,rfl⟩ S11 ?_;rw[wb (l:=List.map _ _),wu,wc (by rw[eT];exact hi),wb,wc (by rw[eT];exact hi)]
     rfl
   . intro D zs H10 n10 S10 e10 hl10 hr10
     have hz:=nV (bs:=(dC ra rb ns xs).map λx=>decide (x<1)) (by rw[wm,eT];lia) hr10;rw[hz]at e10;o_head UN (.of e10) ?_;rw[Z1];have e:dW ra rb ns xs=(kj (dC ra rb ns xs)).all id:=by unfold dW;rw[hfa];rfl
     have:=q H10 (T7.trans (S8.trans S10));rw[e]at this;exact this
theorem NF{a:Rat}(sz:cS ns)(hl:ns.length=xs.length+1):cO a b ns xs=xs ↔ ∀i,i<xs.length->a^ns.sum.toNat*xs.getD i 0+(ck a b ns).getD i 0=xs.getD i 0:=by
 rw[<- yr (a:=a) (b:=b) hl sz.nn]
 constructor
 ·intro e i hi
  have h:=iJ (a:=a) (b:=b) (ns:=ns) (n:=1) hi;rw[e,FG]at h;exact h.symm
 ·intro h
  refine r_ (df ..) λi hi=>?_
  rw[df]at hi;rw[iJ hi,FG,h i hi]
theorem Zl{a:Rat}(ok:aS a b)(sz:cS ns)(hl:ns.length=xs.length+1)(h1:1<=a):dD a b ns xs=decide (cO a b ns xs=xs):=by
 have hps:=sz.pos;have hsl:(ck a b ns).length=xs.length:=by rw[kP sz.some];lia
 have hst:(cc a b ns).length=xs.length:=by rw[lO sz.some];lia
 unfold dD
 by_cases h:1<a
 ·have ha:a≠1:=by intro e;rw[e]at h;exact absurd h (by decide)
  have hF:a^ns.sum.toNat≠1:=λe=>ha ((lB ok (by lia)).mp e)
  rw[if_pos h];refine decide_eq_decide.mpr ?_;rw[NF sz hl]
  constructor
  ·rintro rfl i hi
   have:=Aa hF hi
   grind
  ·intro e
   refine r_ hst.symm λi hi=>?_
   have h1:=e i hi;have h2:=Aa (b:=b) hF (i:=i) (by lia);have h3:(xs.getD i 0-(cc a b ns).getD i 0)*(1-a^ns.sum.toNat)=0:=by grind
   rcases Q2.mp h3 with z | z
   ·grind
   ·exact absurd (by grind) hF
 ·have ha:a=1:=by
   rcases Rat.le_iff_lt_or_eq.mp h1 with z | z
   ·exact absurd z h
   ·exact z.symm
  have hF:a^ns.sum.toNat=1:=(lB ok (by lia)).mpr ha;rw[if_neg h,if_pos ha,vy,decide_eq_true_eq,NF sz hl,Wc]
  constructor
  ·intro e i hi
   have:=e _ (wV.mpr ⟨(ck a b ns).getD i 0,getD_mem (by lia),rfl⟩);have:=of_decide_eq_true this;rw[hF,this]
   grind
  ·intro e c hc
   obtain⟨s,hs,rfl⟩:=wV.mp hc;obtain⟨i,hi,rfl⟩:=vj hs;have h2:=e i (by lia);rw[hF,wb (l:=ck a b ns),wc hi]at h2;refine decide_eq_true ?_
   show(ck a b ns)[i]=0
   have h3:1*xs.getD i 0+(ck a b ns)[i]=xs.getD i 0:=h2
   grind
theorem zB(a:Rat):(a.den:Int)<=a.num ↔ 1<=a:=by
 rw[<- Vl,X4]
 show _ ↔ ¬ (a.num*((1:Rat).den:Int)<(1:Rat).num*(a.den:Int))
 rw[show((1:Rat).den:Int)=1 from rfl,show(1:Rat).num=1 from rfl];lia
def TM(K:wa):Sp:=λvs H Q _=>∃x0 x1 x2,vs=[x0,x1,x2] /\ ∃(a b:Rat)(ns:List Int)(xs:List Rat)(m:Nat)(p1:we),x1=.ref p1/\Is K H x0 (R a b)/\aG K H p1 (ns.map V.int)/\Is K H x2 (LN xs)/\aS a b/\cS ns/\ns.length=xs.length+1/\Cm m xs/\m<=3290 /\ ∀H',ah H H'->Q (.bl (dD a b ns xs)) H'
theorem ztX{a:Rat}(h1:Is K H v (R a b))(h2:aG K H p1 (ns.map V.int))(h3:Is K H u (LN xs))(ok:aS a b)(sz:cS ns)(hl:ns.length=xs.length+1)(c:Cm m xs)(hm:m<=3290)(q:∀H',ah H H'->Q (.bl (dD a b ns xs)) H'):TM K [v,.ref p1,u] H Q E:=⟨_,_,_,rfl,a,b,ns,xs,m,p1,rfl,h1,h2,h3,ok,sz,hl,c,hm,q⟩
theorem zt4(T:Txt K mg a):aK P w K mg base aR 6 a.J4 a.IF yU (TM K):=by
 refine T.Jj.F.ok K_ ?_ ?_;wtm_at "b3"
 refine⟨_,(ao (bL (bD ye (au (au (pv 0))) (au (au (pv 0))) (aU _)) (av (aB (eK (show aH _ (wH .Eq) (cn K)from cV hu) (au (ar (nF T) hr T.lH (ae (pv 0) (ae (pv 1) (ae (pv 2) af))))) (di (show aE _ (.type "list") (fQ K)from jU) rfl T.h0Q g_ (ae (pv 2) af)) (aU _)))) bN)
     (ao (az 3 K_.nd (au (ar (nF T) hr T.lH (ae (pv 0) (ae (pv 1) (ae (ar (Bi T) hr T.sL (ae (pv 0) (ae (pv 1) af))) af))))))
     (av (aB (eK (show aH _ (wH .NotIn) (fY K true)from sf) hZ (dR rfl (cv.by (N':=["_law_one"]) (src:=[none]) rfl (by kernel_rfl)) (fA (pv 3)) (λ_ _ _ _ _=>(aZ (i:=0) (of_decide_eq_true (by kernel_rfl)) rfl (Or.inl rfl))) (λ_ _ _ _ _=>dH) (λ_ _ _ _ _=>by exact(ar (rF (K:=K) (mg:=mg) (a:=a) T) hr T.mO (ae (show PE _ _ (kU K _)from aW (ae ay (ae ay af))) (ae (pv 0) af))))) (by with_unfolding_all rfl)))))),?_⟩
 wtm_at "cl";rw[show start LA [x0,x1,x2]=[some x0,some x1,some x2,none]from rfl];obtain⟨ra,rb,ns,xs,m,p1,rfl,hr',hn',hx',ok,sz,hl,c,hm,q⟩:=h;have rc:=nA ok sz hl c hm;have h8:=sz.cg;have hps:=sz.pos;k_few
 . rename_i v1 i1 v2 i2 z
   have ha:1<=ra:=(zB ra).mp z;refine m4 hr' hn' (.inl hx') rc.1 rc.2.1 rc.2.2 (λv3 H3 S3 i3=>?_);o_head aF (j:=0) i3 rfl (λv4 i4=>?_);o_head oD (ds:=xs.map N) (.inl (hx'.by S3)) (λl5 H5 us n5 S5 e5 t5=>?_);o_head OT (show Is K H5 v4 (LN (cO ra rb ns xs))from(show Is K H3 v4 (LN (cO ra rb ns xs))from i4).by S5) (b_ e5 t5) ?_;have:=q H5 (S3.trans S5);rw[Zl ok sz hl ha]at this;exact this
 . rename_i v1 i1 v2 i2 z
   have ha:ra<1:=by
     rw[<- xF];exact λh=>z ((zB ra).mpr h)
   have ha1:ra≠1:=by intro e;rw[e]at ha;exact absurd ha (by decide)
   have hn1:¬ 1<ra:=by grind
   have hF:ra^ns.sum.toNat≠1:=λe=>ha1 ((lB ok (by lia)).mp e)
   have hst:ns.length=(cc ra rb ns).length+1:=by rw[lO sz.some];lia
   have rs:=nA ok sz hst (ES ok.ba ok.bb h8 sz.upTo (by lia) hF) (by decide);refine B0 hr' hn' ok sz ha1 (λl3 H3 us n3 S3 e3 t3=>?_);o_head m4 (hr'.by S3) (S3.seq hn') (.inl (b_ e3 t3)) rs.1 rs.2.1 rs.2.2 (λv4 H4 S4 i4=>?_);o_head aF (j:=2) i4 rfl (λv5 i5=>?_);obtain⟨l5,hs5,rfl,s5,t5⟩:=cb.mp (show Is K H4 v5 (.list ((dC ra rb ns (cc ra rb ns)).map N))from i5);have hl5:hs5.length=ns.length:=by rw[t5.length,wm,eT]
   o_head ki s5 (o0:=none) (tl:=[]) rfl (λj y _=>y=V.bl ((jM (dC ra rb ns (cc ra rb ns))).getD j true)) ?_ ?_
   . intro D i x ys o H6 hx inv
     obtain⟨hi,ix⟩:=cq t5 hx;rw[eT]at hi;have ix:=ix.by inv.same;have b1:ag 8000 ((dC ra rb ns (cc ra rb ns)).getD i 0):=yc rs.1 hi;o_head dm (r:=1) rfl rfl (λv7 H7 S7 i7=>?_);have ix:=ix.by S7;k_few;exact d7 inv (by lia) (λ_ _ _ _ _ h=>h) ⟨_,rfl⟩ S7 (by rw[Ul (by rw[eT];exact hi)])
   . intro D zs H6 n6 S6 e6 hl6 hr6
     have hz:=nV (bs:=jM (dC ra rb ns (cc ra rb ns))) (by unfold jM;rw[wm,eT];lia) hr6;rw[hz]at e6;o_head UN (.of e6) ?_
     have e:dD ra rb ns xs = !decide (true∈jM (dC ra rb ns (cc ra rb ns))):=by
       unfold dD kJ;rw[if_neg hn1,if_neg ha1]
       congr 1
       rw[vy,qT,decide_eq_true_eq]
       constructor
       . rintro ⟨b,hb,e⟩
         rw[show b=true from e]at hb;exact hb
       . intro h;exact⟨true,h,rfl⟩
     have:=q H6 (S3.trans (S4.trans S6));rw[e]at this;exact this
def Me(K:wa):Sp:=λvs H Q _=>∃x0 x1,vs=[x0,x1] /\ ∃(p:we)(k m:Int),x0=.ref p/\x1=.int m/\cQ H p k/\k<=1000/\1<=m/\m<=8 /\ ∀(l:we)(H':Hp)(us:List V)(xs:List Rat),H l=none->Exc p H H'->bK H H'->cQ H' p (k+11)->H' l=some (.lst us)->aj K H' us (xs.map N)->1<=xs.length->(xs.length:Int)<=m->(∀x∈xs,eJ x)->Q (.ref l) H'
theorem zjj{k m:Int}(h:cQ H p k)(hk:k<=1000)(h1:1<=m)(h8:m<=8)(q:∀(l:we)(H':Hp)(us:List V)(xs:List Rat),H l=none->Exc p H H'->bK H H'->cQ H' p (k+11)->H' l=some (.lst us)->aj K H' us (xs.map N)->1<=xs.length->(xs.length:Int)<=m->(∀x∈xs,eJ x)->Q (.ref l) H'):Me K [.ref p,.int m] H Q E:=⟨_,_,rfl,p,k,m,rfl,rfl,h,hk,h1,h8,q⟩
theorem zji(T:Txt K mg a):aK P w K mg base aR 2 a.GF a.Gy zL (Me K):=by
 refine T.Gz.F.ok rR ?_ ?_;wtm_at "b2"
 refine⟨_,(ao (az 2 rR.nd (aD cB ay (ar (gv T) hr T.fI (ae (pv 0) (ae (pv 1) af)))))
     (ao (az 3 rR.nd (aD cB ay (ar (gv T) hr T.fI (ae (pv 0) (ae ay af)))))
     (ao (az 4 rR.nd (dw cU (cJ (ae (pv 3) (ae (aD cB ay (aD fj (pv 3) ay)) af))) (ar (gv T) hr T.fI (ae (pv 0) (ae ay af))) (λ_ _=>rfl)))
     (ao (az 5 rR.nd (aD fj (pv 3) (pv 4)))
     (av (aB (dR rfl (cv.by (N':=["_law_k","_law_bottom","_law_apart","_law_pen_here","_law_few"]) (src:=[none,some 3,some 5,some 0,some 4]) rfl (by kernel_rfl)) (fK rfl T.h0P (ae (pv 2) af)) (λ_ _ _ _ _=>(aZ (i:=0) (of_decide_eq_true (by kernel_rfl)) rfl (Or.inl rfl))) (λ_ _ _ _ _=>dH) (λ_ _ _ _ _=>(ar (gU (K:=K) (mg:=mg) (a:=a) T) hr T.fZ (ae (aD cK (ar (gv (K:=K) (mg:=mg) (a:=a) T) hr T.fI (ae (pv 3) (ae (pv 4) af))) (pv 2)) (ae (pv 1) af))))))))))),?_⟩
 wtm_at "cl";rw[show start Om [x0,x1]=[some x0,some x1,none,none,none,none]from rfl];obtain⟨p,k,m,rfl,rfl,hp,hk,h1,h8,q⟩:=h;wtm_at "ga";rename_i ra Ha ra0 ra1 Ea Ka Pa rb Hb rb0 rb1 Eb Kb Pb lc Hc nc Sc ec rd Hd rd0 rd1 Ed Kd Pd z hz;have E1:Exc p H Hd:=Ea.trans (Eb.trans (Sc.exc.trans Ed));have K1:bK H Hd:=Ka.trans (Kb.trans (Sc.keep.trans Kd));clear Ea Ka Pa Eb Kb Pb Sc ec nc Ed Kd hp;generalize hB:2+rb=B at *;have B2:2<=B/\B<=60:=by lia
 have hz1:1<=z/\z<=B:=by
   rcases hz with rfl | rfl
   . lia
   . rw[Vu _ (by decide)];lia
 refine pB ⟨by lia,(Bd.kC (by lia) (by lia)).mono (by decide)⟩ ?_
 have ha:1<=B.fdiv z/\B.fdiv z*z<=B/\B.fdiv z<=B:=by
   rw[Vu _ (by lia)];refine⟨?_,uh _ (by lia),XN _ (by lia)⟩;exact(Int.le_ediv_iff_mul_le (by lia)).mpr (by lia)
 generalize B.fdiv z=a at *;obtain⟨a1,a2,a3⟩:=ha;k_few;obtain⟨n,hn⟩:∃n:Nat,1+ra=(n:Int):=⟨(1+ra).toNat,by lia⟩;rw[hn];refine uY (n:=(n:Int)) (by lia) (by lia) (λD i ys σ' H'=>(∃o,σ'=[o,some (.int B),some (.int a),some (.ref p),some (.int z)])/\Hd D=none/\D≠p/\Exc p Hd H'/\bK Hd H'/\cQ H' p (k+1+1+1+(i:Int)) /\ ∃(us:List V)(xs:List Rat),H' D=some (.lst us)/\xs.length=i/\aj K H' us (xs.map N) /\ ∀x∈xs,eJ x) ?_ ?_ ?_
 . intro D H' n s e
   exact⟨⟨_,rfl⟩,n,cQ.ne n Pd,s.exc,s.keep,(Pd.same s).le (by lia),[],[],e,rfl,.nil,by simp⟩
 . rintro D i ys σ' H' hi ⟨⟨o,rfl⟩,hn',hne,hE,hK,hP,us,xs,hD,hl,ht,hm⟩
   k_few;rename_i r H6 r0 r1 E6 K6 P6;have t0:0<=r*a:=ut r0 (by lia)
   have t1:r*a<B:=by
     have h1:(r+1)*a<=z*a:=WJ (by lia) (by lia);rw[Int.add_mul,xa]at h1;have h2:z*a=a*z:=Int.mul_comm _ _;lia
   generalize r*a=t at *;k_few;rename_i v7 H7 x7 S7 i7 e7 b7;have hul:=ht.length;simp only[wm]at hul;have hD7:=S7 _ _ (E6.at hne hD);have px:eJ x7:=by rw[e7];exact O4 (by lia) (by lia) (by lia)
   refine iO hD7 (by lia) (λH8 E8 e8=>?_);have K8:bK H7 H8:=E8.keep hD7;refine⟨⟨_,rfl⟩,hn',hne,λb o hb h=>E8 b o (iV h hn') (S7 b o ((hE.trans E6) b o hb h)),(hK.trans K6).trans (S7.keep.trans K8),?_,us++[v7],xs++[x7],e8,by simp[hl],?_,?_⟩
   . obtain⟨x,y,z,e,h1,h2⟩:=P6
     exact⟨x,y,z,E8 p _ (Wt hne) (S7 _ _ e),h1,by lia⟩
   . rw[w6]
     exact(aj.keep (K6.trans (S7.keep.trans K8)) _ _ (d4 _) ht).append (.cons (i7.c8 K8) .nil)
   . intro y hy
     rcases Wn.mp hy with h | h
     . exact hm y h
     . rw[wX.mp h];exact px
 . rintro D ys σ' H' ⟨_,hn',hne,hE,hK,hP,us,xs,hD,hl,ht,hm⟩
   rw[wD]at hl hP;k_few
   have hfr:H D=none:=by
     cases e:H D with
     | none=>rfl
     | some o=>rw[E1 D o hne e]at hn';cases hn'
   exact q D H' us xs hfr (E1.trans hE) (K1.trans hK) (hP.le (by lia)) hD ht (by lia) (by lia) hm
def RY(K:wa):Sp:=λvs H Q _=>∃x0,vs=[x0] /\ ∃xs:List Rat,(Is K H x0 (LN xs)\/Is K H x0 (TN xs))/\1<=xs.length/\(∀i,ag 4000 (xs.getD i 0)) /\ ∀v,Is K H v (N (a_ xs))->Q v H
theorem Ct(h:Is K H v (LN xs)\/Is K H v (TN xs))(h1:1<=xs.length)(b:∀i,ag 4000 (xs.getD i 0))(q:∀v,Is K H v (N (a_ xs))->Q v H):RY K [v] H Q E:=⟨_,rfl,xs,h,h1,b,q⟩
theorem CU(T:Txt K mg a):aK P w K mg base aR 2 a.Js a.Ib yM (RY K):=by
 refine T.sM.F.ok tT ?_ ?_;wtm_at "b1"
 refine⟨_,(ao (az 1 tT.nd (au (pv 0)))
     (ao (fc vg rfl (Cj (pv 0)) (aZ (i:=2) tT.nd rfl (Or.inl rfl)) (av (bL (cA (ar (rF T) hr T.mO (ae (pv 1) (ae (pv 2) af)))) (av (az 1 tT.nd (pv 2))) bN)))
     (av (aB (pv 1))))),?_⟩
 wtm_at "cl";rw[show start Pn [x0]=[some x0,none,none]from rfl];obtain⟨xs,hx,h1,bx,q⟩:=h;rcases hx with hx | hx
 . obtain⟨ap,us,rfl,hs,tu⟩:=cb.mp hx
   have hul:us.length=xs.length:=by rw[tu.length,wm]
   o_head gu hx (by decide) (by lia) (λv0 i0=>?_);have i0:Is K H v0 (N (mx (xs.getD 0 0) [])):=i0;o_head .inl (rJ hs (λi σ H'=>∃o v,σ = [some (.ref ap),some v,o]/\H'=H/\Is K H v (N (mx (xs.getD 0 0) (xs.take i)))) ⟨_,v0,rfl,rfl,by rw[Qk];exact i0⟩ (λi σ H' _ h=>by obtain⟨_,_,_,rfl,_⟩:=h;exact hs) ?_ ?_)
   . rintro i x σ H' hx' ⟨o,v,rfl,rfl,iv⟩
     obtain⟨hi,ix⟩:=cq tu hx';have b1:=zr bx h1 i;have b2:=bx i;k_few
     . rename_i z
       exact⟨_,x,rfl,rfl,by rw[fO hi,k8,if_pos z];exact ix⟩
     . rename_i z
       exact⟨_,v,rfl,rfl,by rw[fO hi,k8,if_neg z];exact iv⟩
   . rintro σ H' ⟨o,v,rfl,rfl,iv⟩
     rw[hul,Wb]at iv;k_few;exact q v iv
 . obtain⟨ap,us,rfl,hs,tu⟩:=bZ.mp hx
   have hul:us.length=xs.length:=by rw[tu.length,wm]
   o_head y_ hx (by decide) (by lia) (λv0 i0=>?_);have i0:Is K H v0 (N (mx (xs.getD 0 0) [])):=i0;o_head .inr (Mz hs (λi σ H'=>∃o v,σ = [some (.ref ap),some v,o]/\H'=H/\Is K H v (N (mx (xs.getD 0 0) (xs.take i)))) ⟨_,v0,rfl,rfl,by rw[Qk];exact i0⟩ (λi σ H' _ h=>by obtain⟨_,_,_,rfl,_⟩:=h;exact hs) ?_ ?_)
   . rintro i x σ H' hx' ⟨o,v,rfl,rfl,iv⟩
     obtain⟨hi,ix⟩:=cq tu hx';have b1:=zr bx h1 i;have b2:=bx i;k_few
     . rename_i z
       exact⟨_,x,rfl,rfl,by rw[fO hi,k8,if_pos z];exact ix⟩
     . rename_i z
       exact⟨_,v,rfl,rfl,by rw[fO hi,k8,if_neg z];exact iv⟩
   . rintro σ H' ⟨o,v,rfl,rfl,iv⟩
     rw[hul,Wb]at iv;k_few;exact q v iv
def kl(xs row:List Rat)(i:Nat):List Rat:=(wo xs.length).map λw=>if aI xs w<i then row.getD (aI xs w) 0 else xs.getD w 0
def L4(K:wa):Sp:=λvs H Q _=>∃x0 x1,vs=[x0,x1] /\ ∃(xs ps:List Rat),Is K H x0 (TN xs)/\Is K H x1 (LN ps)/\xs.length<=8/\(ak xs).length=ps.length+1/\(∀i,ag 4000 (xs.getD i 0)) /\ ∀v H',ah H H'->Is K H' v (TN ((wo xs.length).map λw=>(ps++[0]).getD (aI xs w) 0))->Q v H'
theorem zoX{w:V}(h1:Is K H v (TN xs))(h2:Is K H w (LN ps))(h8:xs.length<=8)(hl:(ak xs).length=ps.length+1)(b:∀i,ag 4000 (xs.getD i 0))(q:∀v H',ah H H'->Is K H' v (TN ((wo xs.length).map λw=>(ps++[0]).getD (aI xs w) 0))->Q v H'):L4 K [v,w] H Q E:=⟨_,_,rfl,xs,ps,h1,h2,h8,hl,b,q⟩
theorem zuL(xs row:List Rat):kl xs row 0=xs:=by
 unfold kl;refine iC (by simp) λw hw=>?_
 have hw:w<xs.length:=by simpa using hw
 rw[wb,wu,vH hw]
 rfl
def gx(xs row:List Rat)(i k:Nat):List Rat:=(wo xs.length).map λw=>if aI xs w<i then row.getD (aI xs w) 0 else if aI xs w=i/\w<k then row.getD i 0 else xs.getD w 0
theorem zt6(xs row:List Rat)(i:Nat):gx xs row i 0=kl xs row i:=by
 unfold gx kl;refine Vb λw _=>?_
 by_cases z:aI xs w<i
 ·rw[if_pos z,if_pos z]
 ·rw[if_neg z,if_neg z,if_neg (by lia)]
theorem zw8(xs row:List Rat)(i:Nat):gx xs row i xs.length=kl xs row (i+1):=by
 unfold gx kl;refine Vb λw hw=>?_
 have hw:=wF.mp hw
 by_cases z:aI xs w<i
 ·rw[if_pos z,if_pos (by lia)]
 ·rw[if_neg z]
  by_cases y:aI xs w=i
  ·rw[if_pos ⟨y,hw⟩,if_pos (by lia),y]
  ·rw[if_neg (by lia),if_neg (by lia)]
theorem pQ(xs row:List Rat)(i k:Nat):(gx xs row i k).length=xs.length:=by simp[gx]
theorem Rq{row:List Rat}{w:Nat}(hw:w<xs.length):(gx xs row i k).getD w 0=if aI xs w<i then row.getD (aI xs w) 0 else if aI xs w=i/\w<k then row.getD i 0 else xs.getD w 0:=by
 unfold gx;rw[wb,wu,vH hw]
 rfl
theorem zxx{row:List Rat}(hk:k<xs.length)(h:aI xs k=i):gx xs row i (k+1)=(gx xs row i k).set k (row.getD i 0):=by
 refine iC (by rw[Wo,pQ,pQ]) λw hw=>?_
 rw[pQ]at hw;rw[Rq hw]
 by_cases e:w=k
 ·subst e
  rw[pL (by rw[pQ];exact hw),if_neg (by lia),if_pos ⟨h,by lia⟩]
 ·rw[sv (Wt e),Rq hw]
  by_cases z:aI xs w<i
  ·rw[if_pos z,if_pos z]
  ·rw[if_neg z,if_neg z]
   by_cases y:aI xs w=i/\w<k
   ·rw[if_pos y,if_pos ⟨y.1,by lia⟩]
   ·rw[if_neg y,if_neg (by lia)]
theorem zyz{row:List Rat}(h:aI xs k≠i):gx xs row i (k+1)=gx xs row i k:=by
 unfold gx;refine Vb λw _=>?_
 by_cases z:aI xs w<i
 ·rw[if_pos z,if_pos z]
 ·rw[if_neg z,if_neg z]
  by_cases y:aI xs w=i/\w<k
  ·rw[if_pos y,if_pos ⟨y.1,by lia⟩]
  ·rw[if_neg y,if_neg (λu=>y ⟨u.1,by
    have:=u.2;have:w≠k:=λe=>h (by rw[<- e];exact u.1)
    lia⟩)]
theorem zwt{row:List Rat}(h:(ak xs).length=n):kl xs row n=(wo xs.length).map λw=>row.getD (aI xs w) 0:=by
 unfold kl;refine Vb λw hw=>?_
 have:=(j6 xs).lt w (wF.mp hw);rw[if_pos (by lia)]
theorem zt7{f:Nat}{left vs:List Rat}(h:fJ f left=vs.drop i)(hi:i<vs.length)(hl:left.length<=f):left≠[]/\a_ left=vs.getD i 0 /\ ∃f',(left.filter λy=>!decide (y=a_ left)).length<=f'/\fJ f' (left.filter λy=>!decide (y=a_ left))=vs.drop (i+1):=by
 have hd:vs.drop i=vs[i]::vs.drop (i+1):=VC hi;have ne:left≠[]:=λe=>by rw[e,rG,hd]at h;cases h
 have hp:=Wy.mpr ne;obtain⟨f',rfl⟩:∃f',f=f'+1:=⟨f-1,by lia⟩;rw[lC ne,hd]at h
 injection h with h1 h2
 refine⟨ne,by rw[h1,wb,wc hi];rfl,f',?_,h2⟩;have:=tS ne;lia
theorem zrW(h:aj K H us (xs.map N))(k:Is K H u (N x)):aj K H (us++[u]) ((xs++[x]).map N):=by
 rw[w6];exact h.append (.cons k .nil)
theorem zuI(h:aj K H us (xs.map N))(i:Is K H u (N x)):aj K H (us.set k u) ((xs.set k x).map N):=by
 have hl:=h.length;rw[wm]at hl;refine eO (by rw[Wo,Wo];exact hl) λj v hv=>?_
 rw[WH]at hv
 by_cases e:k=j
 ·subst e
  rw[if_pos rfl]at hv
  by_cases z:k<us.length
  ·rw[if_pos z]at hv
   cases hv;rw[pL (by lia)];exact i
  ·rw[if_neg z]at hv;cases hv
 ·rw[if_neg e]at hv
  rw[sv e];exact(cq h hv).2
theorem zo6(T:Txt K mg a):aK P w K mg base aR 3 a.Iw a.G3 yg (L4 K):=by
 refine T.Hv.F.ok mG ?_ ?_;wtm_at "b2"
 refine⟨_,(ao (az 2 mG.nd (di (show aE _ (.type "list") (fQ K)from jU) rfl T.h0Q g_ (ae (pv 0) af)))
     (ao (az 3 mG.nd (di (show aE _ (.type "list") (fQ K)from jU) rfl T.h0Q g_ (ae (pv 0) af)))
     (ao (fc vg rfl (fA (aD cB (di (show aE _ (.type "list") (fQ K)from jU) rfl T.h0Q g_ (ae (pv 1) af)) (cJ (ae (aW (ae ay (ae ay af))) af)))) (aZ (i:=4) mG.nd rfl (Or.inl rfl)) (ao (az 5 mG.nd (ar (CU T) hr T.sM (ae (pv 3) af)))
     (ao (fc vg rfl (fK rfl T.h0P (ae (bA (show aE _ (.builtin "len") (cj K)from cX) rfl T.h0Y cY (ae (pv 0) af)) af)) (aZ (i:=6) mG.nd rfl (Or.inl rfl)) (av (bL (bD (show aH _ (wH .Eq) (cn K)from cV hu) (dw cU (pv 0) (pv 6) (λ_ _=>rfl)) (pv 5) (aU _)) (av (kz (pv 4) (ml (pv 2) (pv 6) me))) bN)))
     (av (jA (i:=3) mG.nd rfl (Or.inl rfl) rfl (cv.by (N':=["_law_one","_law_high_here"]) (src:=[none,some 5]) rfl (by kernel_rfl)) (fA (pv 3)) (λ_ _ _ _ _=>(aZ (i:=0) (of_decide_eq_true (by kernel_rfl)) rfl (Or.inl rfl))) (λ_ _ _ _ _=>(kK (bD (show aH _ (wH .NotEq) (eC K)from iE hu) (pv 0) (pv 1) (aU _)))) (λ_ _ _ _ _=>(pv 0)))))))
     (av (aB (di (show aE _ (.type "tuple") (dQ K)from eZ) rfl T.h0N dY (ae (pv 2) af))))))),?_⟩
 wtm_at "cl";rw[show start Ly [x0,x1]=[some x0,some x1,none,none,none,none,none]from rfl];obtain⟨xs,ps,hx',hp',h8,hvl,bx,q⟩:=h;o_head oD (.inr hx') (λlf H1 us1 n1 S1 e1 t1=>?_);o_head oD (.inr (hx'.by S1)) (λl2 H2 us2 n2 S2 e2 t2=>?_);o_head oD (.inl (hp'.by (S1.trans S2))) (λl3 H3 us3 n3 S3 e3 t3=>?_);o_head dm (r:=0) rfl rfl (λv4 H4 S4 i4=>?_);o_head de (by simp) (λl5 H5 n5 S5 e5=>?_);have hul3:=t3.length;rw[wm]at hul3;have hvx:=hW xs;refine jH (S5 _ _ (S4 _ _ e3)) e5 (WB (gj (by simp;lia))) (λl6 H6 n6 S6 e6=>?_);have S36:=S4.trans (S5.trans S6);have t6:aj K H6 (us3++[v4]) ((ps++[0]).map N):=zrW (aj.same S36 _ _ t3) (i4.by (S5.trans S6));have S26:=S3.trans S36;have S16:=S2.trans S26;have ne2:l2≠lf:=λz=>by subst z;rw[e1]at n2;cases n2
 have ne6:l6≠lf:=λz=>by subst z;rw[(S2.trans (S3.trans (S4.trans S5))) _ _ e1]at n6;cases n6
 have T6:=S1.trans S16;have ef6:=S16 _ _ e1;have tf6:aj K H6 us1 (xs.map N):=aj.same S16 _ _ t1;have el6:=S26 _ _ e2;have tl6:aj K H6 us2 (xs.map N):=aj.same S26 _ _ t2;clear S1 S2 S3 S4 S5 S6 S36 S26 S16 e1 t1 e2 t2 e3 t3 i4 e5 n2 n3 n5 n6;have hrl:(ps++[0]).length=(ak xs).length:=by simp[hvl]
 generalize hrow:ps++[0]=row at *;o_head rJ (.of e6) (λi σ H'=>∃(ll:we)(us ws:List V)(left:List Rat)(f:Nat)(o4 o5 o6:Option V),σ = [some x0,some x1,some (.ref lf),some (.ref ll),o4,o5,o6]/\Exc lf H6 H'/\bK H6 H'/\ll≠lf/\H' lf=some (.lst ws)/\aj K H' ws ((kl xs row i).map N)/\H' ll=some (.lst us)/\aj K H' us (left.map N)/\(∀y∈left,y∈xs)/\left.length<=xs.length/\left.length<=f/\fJ f left=(ak xs).drop i) ⟨l2,us2,us1,xs,xs.length,_,_,_,rfl,Exc.refl _ _,bK.refl _,ne2,ef6,by rw[zuL];exact tf6,el6,tl6,λy h=>h,wp _,wp _,rfl⟩ (λi σ H' _ h=>by obtain⟨_,_,_,_,_,_,_,_,_,E,_⟩:=h;exact .of (E _ _ ne6 e6)) ?_ ?_
 . rintro i x σ H7 hx ⟨ll,us,ws,left,f,o4,o5,o6,rfl,E7,K7,nl,ef,tf,el,tl',sub,hlx,hf,heq⟩
   obtain⟨hi,ix⟩:=cq t6 hx;have ix7:Is K H7 x (N (row.getD i 0)):=ix.c8 K7;obtain⟨he,hmx,f',hf',heq'⟩:=zt7 heq (by lia) hf;have hpos:=Wy.mpr he
   have bl:∀i,ag 4000 (left.getD i 0):=λi=>by
     rcases wG i left.length with z | z
     . exact Fy bx (sub _ (getD_mem z))
     . rw[wb,wL z];exact ag.zero.mono (by decide)
   have hul:us.length=left.length:=by rw[tl'.length,wm]
   o_head Ct (.inl (b_ el tl')) hpos bl (λvm im=>?_)
   . skip
     rw[<- zt6]at tf;o_head Ta ((hx'.by T6).g6 K7 (lP _)) ?_;refine jY (n:=(xs.length:Int)) (by lia) (by lia) (λk σ H8=>∃(ws:List V)(o7:Option V),σ = [some x0,some x1,some (.ref lf),some (.ref ll),some x,some vm,o7]/\Exc lf H7 H8/\bK H7 H8/\H8 lf=some (.lst ws)/\aj K H8 ws ((gx xs row i k).map N)) ⟨ws,_,rfl,Exc.refl _ _,bK.refl _,ef,tf⟩ ?_ ?_
     . rintro k σ H8 hk ⟨ws,o7,rfl,E8,K8,ef8,tf8⟩
       have hk':k<xs.length:=by simpa using hk
       have hwl:=tf8.length;rw[wm,pQ]at hwl;have KX:=K7.trans K8;o_head y_ ((hx'.by T6).g6 KX (lP _)) (by lia) (by lia) (λv9 i9=>?_);rw[wD]at i9;have im8:=im.c8 K8;have hfl:=u3 (xs:=xs) (w:=k) (c:=i) hk' (by lia);k_few
       . rename_i z
         refine oK (j:=k) ef8 (by unfold gD;rw[if_pos (by lia),if_pos (by lia)];simp) (λH9 E9 e9=>?_);have K9:=E9.keep ef8;o_head ⟨_,_,rfl,E8.trans E9,K8.trans K9,e9,?_⟩;rw[zxx hk' (hfl.mpr (by rw[z,hmx]))];exact zuI (aj.keep K9 _ _ (d4 _) tf8) (ix7.c8 (K8.trans K9))
       . rename_i z
         refine⟨_,_,rfl,E8,K8,ef8,?_⟩;rw[zyz (λy=>z (by rw[hmx];exact hfl.mp y))];exact tf8
     . rintro σ H8 ⟨ws8,o8,rfl,E8,K8,ef8,tf8⟩
       rw[wD,zw8]at tf8;have el8:=E8 _ _ nl el;have tl8:aj K H8 us (left.map N):=aj.keep K8 _ _ (d4 _) tl';have im8:=im.c8 K8;have E68:=E7.trans E8;have K68:=K7.trans K8;clear tf ef E7 K7 E8 K8 el tl' im ix7;generalize a_ left=mxx at *;o_head nu (.of el8) (λD i ys σ' H'=>(∃o,σ'=[o,some vm])/\H8 D=none/\ah H8 H'/\H' D=some (.lst ys)/\aj K H' ys (((left.take i).filter λy=>!decide (y=mxx)).map N)) (λD H' n s e=>⟨⟨_,rfl⟩,n,s,e,.nil⟩) (λD i ys σ' H' h=>h.2.2.1.seq (.of el8)) ?_ ?_
       . rintro D j y ys σ' H9 hy ⟨⟨o,rfl⟩,n9,S9,e9,t9⟩
         obtain⟨hj,iy⟩:=cq tl8 hy;have iy9:=iy.by S9;have im9:=im8.by S9;have hyl:=t9.length;rw[wm]at hyl;have hfl:=vT (λy=>!decide (y=mxx)) (left.take j);rw[Wr]at hfl;k_few
         . rename_i z
           refine iO e9 (by lia) (λH10 E10 e10=>⟨⟨_,rfl⟩,n9,S9.grow n9 E10,e10,?_⟩);have K10:=E10.keep e9;rw[fO hj,Wm,Ws,decide_eq_false z,w6];exact(aj.keep K10 _ _ (d4 _) t9).append (.cons (iy9.c8 K10) .nil)
         . rename_i z
           refine⟨ys,⟨_,rfl⟩,n9,S9,e9,?_⟩;rw[fO hj,Wm,Ws,decide_eq_true (by first | exact z | exact We.mp z)];have:([]:List Rat).filter (λy=>!decide (y=mxx))=[]:=rfl
           simpa using t9
       . rintro D ys σ' H9 ⟨_,n9,S9,e9,t9⟩
         rw[hul,Wb]at t9;o_head ⟨D,ys,ws8,_,f',_,_,_,rfl,E68.trans S9.exc,K68.trans S9.keep,(λz=>by subst z;rw[ef8]at n9;cases n9),S9 _ _ ef8,aj.same S9 _ _ tf8,e9,t9,λy hy=>sub y (wW.mp hy).1,?_,hf',heq'⟩;have:=vT (λy=>!decide (y=mxx)) left;lia
 . rintro σ H7 ⟨ll,us,ws,left,f,o4,o5,o6,rfl,E7,K7,nl,ef,tf,el,tl',sub,hlx,hf,heq⟩
   rw[show(us3++[v4]).length=row.length by rw[t6.length,wm],zwt hrl.symm]at tf;o_head gE (b_ ef tf) (λv H8 S8 i8=>?_);refine q v H8 ((T6.grow n1 E7).trans S8) i8
def Pr(a b:Rat)(xs:List Rat):wC:=.tuple [N (1-a_ xs),.list ((cH a b xs).map TW),TN (cZ a b xs)]
def Sq(K:wa):Sp:=λvs H Q _=>∃x0 x1,vs=[x0,x1] /\ ∃(a b:Rat)(xs:List Rat)(m:Nat),Is K H x0 (R a b)/\Is K H x1 (TN xs)/\ag 10 a/\ag 10 b/\1<=xs.length/\xs.length<=8/\Cm m xs/\m+2+21*xs.length<=3950 /\ ∀v H',ah H H'->Is K H' v (Pr a b xs)->Q v H'
theorem LS{a:Rat}{w:V}(h:Is K H v (R a b))(k:Is K H w (TN xs))(ba:ag 10 a)(bb:ag 10 b)(h1:1<=xs.length)(h8:xs.length<=8)(c:Cm m xs)(hm:m+2+21*xs.length<=3950)(q:∀v H',ah H H'->Is K H' v (Pr a b xs)->Q v H'):Sq K [v,w] H Q E:=⟨_,_,rfl,a,b,xs,m,h,k,ba,bb,h1,h8,c,hm,q⟩
theorem ztP : aA (bQ xs) (wo xs.length)=(wo xs.length).filter λw=>decide (xs.getD w 0=a_ xs):=by
 unfold aA;refine vA λw hw=>?_
 have hw:=wF.mp hw;rw[DY hw];have hle:=BP (xs:=xs) (xs.getD w 0) (getD_mem hw);generalize xs.getD w 0=x at *;generalize a_ xs=m at *
 by_cases h:x=m
 ·rw[decide_eq_true h,decide_eq_false (by grind)];rfl
 ·rw[decide_eq_false h,decide_eq_true (by grind)];rfl
structure zEC(K:wa)(a b:Rat)(xs:List Rat)(m:Nat)(H H':Hp)(vw:V)(lp lW lv lg:we)(left:List Nat)(ps:List Rat)(done:List (List Nat))(f:Nat)(pv wv:List V)(gone:List Nat):Prop where
 same:ah H H'
 hp:H lp=none
 hv:H lv=none
 iw:Is K H' vw (N (1-a_ xs))
 jX:lp≠lv
 nWp:lW≠lp
 nWv:lW≠lv
 ngp:lg≠lp
 ngv:lg≠lv
 ep:H' lp=some (.lst pv)
 tp:aj K H' pv (ps.map N)
 eW:H' lW=some (.lst (vz (aA ps left)))
 ev:H' lv=some (.lst wv)
 tv:aj K H' wv (done.map TW)
 eg:H' lg=some (.lst (vz gone))
 gn:∀w,w<xs.length->(w∈gone ↔ w ∉ left)
 gl:gone.length+left.length<=xs.length
 rg:Rg xs.length left
 len:ps.length=xs.length
 fl:left.length<=f
 dl:done.length+left.length<=xs.length
 cm:Cm (m+2+21*(xs.length-left.length)) ps
 w1:done++(cP a b f ps left).1=cH a b xs
 w2:(cP a b f ps left).2=(dU a b xs).2
def Sy(K:wa)(a b:Rat)(xs:List Rat)(m:Nat)(H:Hp)(x0 x1 vm vw:V)(lp lv:we)(k:Nat)(σ':L2.St)(H':Hp):Prop:=∃(lW lg:we)(left:List Nat)(ps:List Rat)(done:List (List Nat))(f:Nat)(pv wv:List V)(gone:List Nat)(o8 o9:Option V),σ'=[some x0,some x1,some vm,some vw,some (.ref lp),some (.ref lW),some (.ref lv),some (.ref lg),o8,o9]/\k=left.length/\zEC K a b xs m H H' vw lp lW lv lg left ps done f pv wv gone
theorem ke{o:HO}(h:H p=none)(k:H q=some o):p≠q:=λe=>by rw[e,k]at h;cases h
theorem zA4(h:i∈left):(wo (i+1)).filter (λw=>decide (w∈left))=(wo i).filter (λw=>decide (w∈left))++[i]:=by
 rw[kr (n:=i),if_pos (decide_eq_true h)]
theorem zAU(h:i ∉ left):(wo (i+1)).filter (λw=>decide (w∈left))=(wo i).filter (λw=>decide (w∈left)):=by
 rw[kr (n:=i),if_neg (by simpa using h),vM]
theorem Lu(T:Txt K mg a):aK P w K mg base aR 4 a.JD a.HK y9 (Sq K):=by
 refine T.A2.F.ok iR ?_ ?_;wtm_at "b2"
 refine⟨_,(ao (az 2 iR.nd (ar (CU T) hr T.sM (ae (pv 1) af)))
     (ao (az 3 iR.nd (ar (tF T) hr T.oQ (ae (aW (ae ay (ae ay af))) (ae (pv 2) af))))
     (ao (az 4 iR.nd (dR rfl (cv.by (N':=["_law_one","_law_wait"]) (src:=[none,some 3]) rfl (by kernel_rfl)) (kb (pv 1)) (λ_ _ _ _ _=>(aZ (i:=0) (of_decide_eq_true (by kernel_rfl)) rfl (Or.inl rfl))) (λ_ _ _ _ _=>dH) (λ_ _ _ _ _=>(ar (kY (K:=K) (mg:=mg) (a:=a) T) hr T.j3 (ae (pv 0) (ae (pv 1) af))))))
     (ao (jA (i:=5) iR.nd rfl (Or.inl rfl) rfl (cv.by (N':=["_law_k","_law_high_here","_law_phases"]) (src:=[none,some 2,some 1]) rfl (by kernel_rfl)) (fK rfl T.h0P (ae (bA (show aE _ (.builtin "len") (cj K)from cX) rfl T.h0Y cY (ae (pv 4) af)) af)) (λ_ _ _ _ _=>(aZ (i:=0) (of_decide_eq_true (by kernel_rfl)) rfl (Or.inl rfl))) (λ_ _ _ _ _=>(kK (bD (show aH _ (wH .Eq) (cn K)from cV hu) (dw (show fB _ (c9 K)from cU) (pv 2) (pv 0) (λ_ _=>rfl)) (pv 1) (aU _)))) (λ_ _ _ _ _=>(pv 0)))
     (ao (az 6 iR.nd (cJ af))
     (ao (az 7 iR.nd (cJ af))
     (ao (iW vg (bD (show aH _ (wH .NotEq) (eC K)from iE hu) (pv 5) (cJ af) (aU _)) (ao (jR (jn vQ vV vW iS (pv 6) (ae (di (show aE _ (.type "tuple") (dQ K)from eZ) rfl T.h0N dY (ae (pv 5) af)) af)))
     (ao (az 7 iR.nd (aD cB (pv 7) (pv 5)))
     (ao (az 8 iR.nd (ar (MJ T) hr T.AV (ae (pv 0) (ae (bA (show aE _ (.builtin "len") (cj K)from cX) rfl T.h0Y cY (ae (pv 5) af)) af))))
     (ao (fc vg rfl (fK rfl T.h0P (ae (bA (show aE _ (.builtin "len") (cj K)from cX) rfl T.h0Y cY (ae (pv 1) af)) af)) (aZ (i:=9) iR.nd rfl (Or.inl rfl)) (av (bL (bD (show aH _ (wH .NotIn) (fY K true)from sf) (pv 9) (pv 7) (by with_unfolding_all rfl)) (av (kz (ar (kY T) hr T.j3 (ae (ar (rz T) hr T.mL (ae (au (pv 8)) (ae (dw cU (pv 4) (pv 9) (λ_ _=>rfl)) af))) (ae (au (pv 8)) af))) (ml (pv 4) (pv 9) me))) bN)))
     (av (jA (i:=5) iR.nd rfl (Or.inl rfl) rfl (cv.by (N':=["_law_k","_law_gone","_law_now"]) (src:=[none,some 7,some 4]) rfl (by kernel_rfl)) (fK rfl T.h0P (ae (bA (show aE _ (.builtin "len") (cj K)from cX) rfl T.h0Y cY (ae (pv 4) af)) af)) (λ_ _ _ _ _=>(aZ (i:=0) (of_decide_eq_true (by kernel_rfl)) rfl (Or.inl rfl))) (λ_ _ _ _ _=>(kK (PW.pt (As (bD (show aH _ (wH .NotIn) (fY K true)from sf) (pv 0) (pv 1) (by with_unfolding_all rfl)) (Ai (dy (cA (ar (rF (K:=K) (mg:=mg) (a:=a) T) hr T.mO (ae (dw (show fB _ (c9 K)from cU) (pv 2) (pv 0) (λ_ _=>rfl)) (ae (show PE _ _ (kU K _)from aW (ae ay (ae ay af))) af)))))))))) (λ_ _ _ _ _=>(pv 0)))))))))
     (av (aB (aW (ae (pv 3) (ae (pv 6) (ae (di (show aE _ (.type "tuple") (dQ K)from eZ) rfl T.h0N dY (ae (dR rfl (cv.by (N':=["_law_k","_law_gone","_law_now"]) (src:=[none,some 7,some 4]) rfl (by kernel_rfl)) (fK rfl T.h0P (ae (bA (show aE _ (.builtin "len") (cj K)from cX) rfl T.h0Y cY (ae (pv 4) af)) af)) (λ_ _ _ _ _=>(aZ (i:=0) (of_decide_eq_true (by kernel_rfl)) rfl (Or.inl rfl))) (λ_ _ _ _ _=>dH) (λ_ _ _ _ _=>by exact(p5 (bD (show aH _ (wH .In) (fY K false)from Ol) (pv 0) (pv 1) (by with_unfolding_all rfl)) (show PE _ _ (kU K _)from aW (ae ay (ae ay af))) (dw (show fB _ (c9 K)from cU) (pv 2) (pv 0) (λ_ _=>rfl))))) af)) af))))))))))))),?_⟩
 wtm_at "cl";rw[show start LJ [x0,x1]=[some x0,some x1,none,none,none,none,none,none,none,none]from rfl];obtain⟨ra,rb,xs,m,hr',hx',ba,bb,h1,h8,cm,hm,q⟩:=h;have bx:∀i,ag 4000 (xs.getD i 0):=λi=>(cm.get i).mono (by lia)
 have bm:ag 3950 (a_ xs):=(cm.fk (fR h1)).mono (by lia);o_head Ct (.inr hx') h1 bx (λvm im=>?_);o_head dm (r:=1) rfl rfl (λv1 H1 S1 i1=>?_);o_head Ac i1 (im.by S1) ag.one bm (by decide) (λvw H2 S2 iw=>?_);have T2:=S1.trans S2;have im2:=im.by T2;obtain⟨ap,us,rfl,hu0,tu0⟩:=bZ.mp hx';have hu:=T2.jG hu0;have tu:aj K H2 us (xs.map N):=aj.same T2 _ _ tu0;o_head jz (o0:=none) (tl:=[some vw]) hu rfl (λj y H'=>Is K H' y (N ((bQ xs).getD j 0))) ?_ ?_
 . intro D i x ys o H3 hx inv
   obtain⟨hi,ix⟩:=cq tu hx;have S3:=inv.same;have ix2:=ix.by S3;have iw2:=iw.by S3;have bi:=bx i;have bw:ag 3952 (1-a_ xs):=(ag.one.sub bm).mono (by decide);k_few;rename_i v4 H4 S4 i4;exact d7 inv (by lia) eA ⟨_,rfl⟩ S4 (by rw[DY hi];exact i4)
 . intro lp ys H3 hnp S3 hD hl hr
   have hl':ys.length=(bQ xs).length:=by rw[hl,tu.length,wm,eX]
   have tp:aj K H3 ys ((bQ xs).map N):=eO hl' hr;have iw3:=iw.by S3;have im3:=im2.by S3;have T3:=T2.trans S3;have hpH:H lp=none:=ft T2 hnp;have hx3:=hx'.by T3;clear hl hr hu tu iw S1 S2 S3 hnp i1 im2 im T2;have jm:Cm (m+2) (bQ xs):=(Cm.rise (h:=0) (cm.g9 (ys:=0::xs) λy hy=>by rcases wR.mp hy with rfl | hy;(exact .inr rfl);exact .inl hy) (fR h1)).g9 λy hy=>.inl (wB _ hy)
   o_head tO (b_ hD tp) ?_;rw[eX];o_head uY (n:=(xs.length:Int)) (by lia) (by lia) (λD i ys σ' H'=>(∃o,σ'=[o,some vm,some (.ref ap)])/\H3 D=none/\ah H3 H'/\H' D=some (.lst (vz ((wo i).filter λw=>decide (xs.getD w 0=a_ xs))))) (λD H' n s e=>⟨⟨_,rfl⟩,n,s,e⟩) ?_ ?_
   . rintro D i zs σ' H4 hi ⟨⟨o,rfl⟩,n4,S4,e4⟩
     have hi':i<xs.length:=by simpa using hi
     have hfl:((wo i).filter λw=>decide (xs.getD w 0=a_ xs)).length<=i:=by
       have:=vT (λw=>decide (xs.getD w 0=a_ xs)) (wo i);rw[vi]at this;exact this
     have hx4:=hx3.by S4;have im4:=im3.by S4;o_head y_ hx4 (by lia) (by lia) (λv5 i5=>?_);rw[wD]at i5;generalize hmx:a_ xs=mxx at *;k_few
     . rename_i z
       refine iO e4 (by rw[gk];lia) (λH8 E8 e8=>⟨⟨_,rfl⟩,n4,S4.grow n4 E8,?_⟩);rw[kr (n:=i),if_pos (decide_eq_true z),rQ];exact e8
     . rename_i z
       refine⟨[],⟨_,rfl⟩,n4,S4,?_⟩;rw[kr (n:=i),if_neg (by simpa using z),vM];exact e4
   . rintro lW zs σ' H4 ⟨_,n4,S4,e4⟩
     rw[wD,<- ztP]at e4;o_head de (by simp) (λlv H5 n5 S5 e5=>?_);o_head de (by simp) (λlg H6 n6 S6 e6=>?_);have S46:=S4.trans (S5.trans S6)
     have G0:Sy K ra rb xs m H x0 (.ref ap) vm vw lp lv xs.length [some x0,some (.ref ap),some vm,some vw,some (.ref lp),some (.ref lW),some (.ref lv),some (.ref lg),none,none] H6:=by
       refine⟨lW,lg,wo xs.length,bQ xs,[],xs.length,ys,[],[],none,none,rfl,by rw[vi],T3.trans S46,hpH,ft (T3.trans S4) n5,iw3.by S46,(ke n5 (S4 _ _ hD)).symm,ke n4 hD,(ke n5 e4).symm,ke n6 (S5 _ _ (S4 _ _ hD)),ke n6 e5,S46 _ _ hD,aj.same S46 _ _ tp,S6 _ _ (S5 _ _ e4),S6 _ _ e5,.nil,e6,λw hw=>⟨λz=>(by cases z),λz=>absurd (wF.mpr hw) z⟩,by rw[vi];simp,Rg.range _,eX xs,by rw[vi];exact wp _,by rw[vi];simp,jm.mono (by lia),?_,rfl⟩;rw[qm];rfl
     clear S46 S6 S5 S4 e6 e5 e4 n4 n5 n6 hD tp iw3 im3 hx3 jm hpH T3 hl';o_head jN (Sy K ra rb xs m H x0 (.ref ap) vm vw lp lv) _ G0 ?_;clear G0;rintro k σ' H6 ⟨lW,lg,left,ps,done,f,pv,wv,gone,o8,o9,rfl,hk,G⟩;have bp:∀i,ag 3950 (ps.getD i 0):=λi=>(G.cm.get i).mono (by have:=G.dl;lia)
     have hdl:=G.dl;o_head de (by simp) (λle H7 n7 S7 e7=>?_);refine Zn (S7 _ _ G.eW) e7 ?_;have T7:=G.same.trans S7;have ep7:=S7 _ _ G.ep;have ev7:=S7 _ _ G.ev;have eg7:=S7 _ _ G.eg;have eW7:=S7 _ _ G.eW;have iw7:=G.iw.by S7;have tp7:aj K H7 pv (ps.map N):=aj.same S7 _ _ G.tp;have tv7:aj K H7 wv (done.map TW):=aj.same S7 _ _ G.tv;have hps:=G.len;have hpvl:=tp7.length;rw[wm]at hpvl;clear n7 e7 S7
     by_cases he:aA ps left=[]
     . rw[decide_eq_false (by simpa using he)]
       have w1:=G.w1;have w2:=G.w2;rw[mH he]at w1 w2;rw[vM]at w1;have eps:ps=(dU ra rb xs).2.2:=congrArg XG w2;have elf:left=(dU ra rb xs).2.1:=congrArg XF w2;have hph:gS left ps=cZ ra rb xs:=by rw[cZ,<- eps,<- elf]
       o_head tO (b_ ep7 tp7) ?_;rw[hps];o_head Ox (n:=(xs.length:Int)) (by lia) (by lia) (o0:=none) (tl:=[some (.ref lg),some (.ref lp)]) rfl (λj y H'=>Is K H' y (N ((gS left ps).getD j 0))) ?_ ?_
       . intro D i zs o H8 hi inv
         have hi':i<xs.length:=by simpa using hi
         have S8:=inv.same;o_head Pm (aG.of (S8 _ _ eg7)) ?_;have hg:=G.gn i hi';k_few
         . rename_i z
           refine dm (r:=0) rfl rfl (λv9 H9 S9 i9=>?_);exact d7 inv (by lia) eA ⟨_,rfl⟩ S9 (by rw[kE (by lia),if_neg (hg.mp z)];exact i9)
         . rename_i z
           refine gu (b_ (S8 _ _ ep7) (aj.same S8 _ _ tp7)) (by lia) (by lia) (λv9 i9=>?_);rw[wD]at i9;exact d7 inv (by lia) eA ⟨_,rfl⟩ (ah.refl _) (by rw[kE (by lia),if_pos (by exact We.mp λy=>z (hg.mpr y))];exact i9)
       . intro D zs H8 hn8 S8 hD8 hl8 hr8
         have tz:aj K H8 zs ((gS left ps).map N):=eO (by rw[hl8,Fu];lia) hr8;rw[hph]at tz;have tv8:=aj.same S8 _ _ tv7;have ev8:=S8 _ _ ev7;rw[w1]at tv8;o_head gE (b_ hD8 tz) (λv9 H9 S9 i9=>?_);o_head cR (ds:=[N (1-a_ xs),.list ((cH ra rb xs).map TW),TN (cZ ra rb xs)]) (by simp) (.cons (iw7.by (S8.trans S9)) (.cons (cb.mpr ⟨lv,wv,rfl,.of (S9 _ _ ev8),aj.same S9 _ _ tv8⟩) (.cons i9 .nil))) (λv10 H10 S10 i10=>?_);exact q v10 H10 (T7.trans (S8.trans (S9.trans S10))) i10
     . rw[decide_eq_true he]
       o_head ky ?_;have hwl:=tv7.length;rw[wm]at hwl;have hlen:=z6 ps left;have hgl:=G.gl;have hpos:0<(aA ps left).length:=Wy.mpr he;o_head iI (aG.of ev7) ?_;o_head rO (.of eW7) (λlt H8 n8 S8 e8=>?_);have it8:Is K H8 (.ref lt) (TW (aA ps left)):=yW.mpr ⟨lt,rfl,.of e8⟩;k_few;have ev8:=S8 _ _ ev7;refine je ev8 (by lia) (λH9 E9 e9=>?_);have K9:bK H8 H9:=E9.keep ev8;have T9:ah H H9:=(T7.trans S8).grow G.hv E9;have ep9:=E9 _ _ G.jX (S8 _ _ ep7);have eg9:=E9 _ _ G.ngv (S8 _ _ eg7);have eW9:=E9 _ _ G.nWv (S8 _ _ eW7);have KK:=S8.keep.trans K9;have tp9:aj K H9 pv (ps.map N):=aj.keep KK _ _ (d4 _) tp7;have iw9:=iw7.c8 KK
       have tv9:aj K H9 (wv++[.ref lt]) ((done++[aA ps left]).map TW):=by
         rw[w6];exact(aj.keep KK _ _ (nM _) tv7).snoc (it8.g6 K9 (u4 _))
       clear ep7 ev7 eg7 eW7 iw7 tp7 tv7 T7 it8 ev8 e8 KK;o_head jH eg9 eW9 (WB (gj (by rw[gk,gk];lia))) (λlg2 H10 n10 S10 e10=>?_);rw[show vz gone++vz (aA ps left)=vz (gone++aA ps left) by unfold vz;rw[w6]]at e10;o_head eQ (aG.of (S10 _ _ eW9)) ?_;rw[gk];o_head Ls (hr'.by (T9.trans S10)) ba bb (by lia) (by lia) (λvpush H11 S11 ipush=>?_);rw[wD]at ipush;have bf:ag 90 (ra^(aA ps left).length):=(ba.pow _).mono (by lia);have bg:ag 1500 (aC ra rb (aA ps left).length):=(ba.aC bb _).mono (by lia);have T11:=S10.trans S11;have ep11:=T11 _ _ ep9;have tp11:aj K H11 pv (ps.map N):=aj.same T11 _ _ tp9;have eg11:=S11 _ _ e10;have ev11:=T11 _ _ e9;have iw11:=iw9.by T11;have tv11:aj K H11 (wv++[.ref lt]) ((done++[aA ps left]).map TW):=aj.same T11 _ _ tv9;have rg':=G.rg.bR (aA ps left);have ndl:=rg'.nodup;have ltl:=rg'.lt;have nGp:lg2≠lp:=ke n10 ep9;have nGv:lg2≠lv:=ke n10 e9
       have gn':∀w,w<xs.length->(w∈gone++aA ps left ↔ w ∉ bR left (aA ps left)):=λw hw=>by
         have:=G.gn w hw;rw[Wn,this];unfold bR;rw[wW]
         by_cases z1:w∈left<;>by_cases z2:w∈aA ps left<;>simp[z1,z2]
       have TT:=T9.trans T11;have hx11:=hx'.by TT;generalize hL:bR left (aA ps left)=left' at *;clear S10 S11 T9 T11 ep9 tp9 e10 e9 iw9 tv9 eg9 eW9 n10;o_head Ta hx11 ?_;refine jY (n:=(xs.length:Int)) (by lia) (by lia) (λi σ'' H''=>∃o pv',σ''=[some x0,some (.ref ap),some vm,some vw,some (.ref lp),some (.ref lW),some (.ref lv),some (.ref lg2),some vpush,o]/\Exc lp H11 H''/\H'' lp=some (.lst pv')/\aj K H'' pv' ((cD (ra^(aA ps left).length) (aC ra rb (aA ps left).length) ps ((wo i).filter λw=>decide (w∈left'))).map N)) ⟨_,pv,rfl,Exc.refl _ _,ep11,tp11⟩ ?_ ?_
       . rintro i σ'' H12 hi ⟨o,pv',rfl,E12,e12,t12⟩
         have hi':i<xs.length:=by simpa using hi
         have K12:bK H11 H12:=E12.keep ep11;have hpl:=gT (ra^(aA ps left).length) (aC ra rb (aA ps left).length) ((wo i).filter λw=>decide (w∈left')) ps;have hgi:=gn' i hi';o_head MY (aG.of (E12 _ _ nGp eg11)) ?_;k_few
         . rename_i z v13 i13
           have hin:i∈left':=We.mp λy=>z (hgi.mpr y)
           have bq:ag 3950 ((cD (ra^(aA ps left).length) (aC ra rb (aA ps left).length) ps ((wo i).filter λw=>decide (w∈left'))).getD i 0):=by
             rw[iN _ _ _ _ (WK.filter _) (λw hw'=>by rw[hps];exact ltl w (of_decide_eq_true (wW.mp hw').2)),if_neg]
             . exact bp _
             . intro hm
               have:=wF.mp (wW.mp hm).1;lia
           have ip12:=ipush.g6 K12 (yw _ _);generalize hqs:cD (ra^(aA ps left).length) (aC ra rb (aA ps left).length) ps ((wo i).filter λw=>decide (w∈left'))=qs at *;generalize hfa:ra^(aA ps left).length=fa at *;generalize hgb:aC ra rb (aA ps left).length=gb at *;have bpr:ag 4040 (fa*qs.getD i 0):=(bf.mul bq).mono (by decide);refine gu (b_ e12 t12) (by lia) (by lia) (λv14 i14=>?_);rw[wD]at i14;k_few;rename_i v15 H15 S15 i15 v16 i16 v17 H17 S17 i17;have S17':=S15.trans S17;have e17:=S17' _ _ e12;have hvl:=t12.length;rw[wm]at hvl;refine oK (j:=i) e17 (by unfold gD;rw[if_pos (by lia),if_pos (by lia)];simp) (λH18 E18 e18=>?_);refine⟨_,_,rfl,E12.trans (S17'.exc.trans E18),e18,?_⟩;have K18:=E18.keep e17;rw[zA4 hin,U1,hqs];refine eO (by rw[Wo,Wo];exact hvl) (λj v hj=>?_);rw[WH]at hj
           by_cases hjw:i=j
           . subst hjw
             rw[if_pos rfl,if_pos (by lia)]at hj;cases hj;rw[pL (by lia)];exact i17.c8 K18
           . rw[if_neg hjw]at hj
             rw[sv hjw];obtain⟨_,ij⟩:=cq t12 hj;exact(ij.by S17').c8 K18
         . rename_i z
           have hout:i ∉ left':=hgi.mp (by first | exact z | exact We.mp z);refine⟨_,pv',rfl,E12,e12,?_⟩;rw[zAU hout];exact t12
       . rintro σ'' H12 ⟨o,pv',rfl,E12,e12,t12⟩
         rw[wD,<- show left'=(wo xs.length).filter (λw=>decide (w∈left'))from rg']at t12;have K12:bK H11 H12:=E12.keep ep11
         have cm12:Cm (m+2+21*(xs.length-left'.length)) (cD (ra^(aA ps left).length) (aC ra rb (aA ps left).length) ps left'):=by
           have c0:Cm (m+2+21*(xs.length-left.length)) (0::ps):=G.cm.g9 λy hy=>by rcases wR.mp hy with rfl | hy;(exact .inr rfl);exact .inl hy
           exact((c0.wave ba bb (aA ps left).length ndl (λw hw'=>by rw[hps];exact ltl w hw')).g9 λy hy=>.inl (wB _ hy)).mono (by lia)
         have hpl:=gT (ra^(aA ps left).length) (aC ra rb (aA ps left).length) left' ps;have w1:=G.w1;have w2:=G.w2;have hfl:=G.fl;obtain⟨f',rfl⟩:∃f',f=f'+1:=⟨f-1,by lia⟩;rw[iX he,hL]at w1 w2;generalize hqs:cD (ra^(aA ps left).length) (aC ra rb (aA ps left).length) ps left'=qs at *;have hends:=rg'.ends qs;have bq:∀i,ag 3950 (qs.getD i 0):=λi=>(cm12.get i).mono (by lia)
         have eg12:=E12 _ _ nGp eg11;have ev12:=E12 _ _ G.jX.symm ev11;have TX:=TT.grow G.hp E12;have hvl:=t12.length;rw[wm]at hvl;o_head tO (b_ e12 t12) ?_;rw[hpl,hps];o_head uY (n:=(xs.length:Int)) (by lia) (by lia) (λD i ys σ' H'=>(∃o,σ'=[o,some (.ref lg2),some (.ref lp)])/\H12 D=none/\ah H12 H'/\H' D=some (.lst (vz ((wo i).filter λw=>decide (w∈left') && !decide (qs.getD w 0<1))))) (λD H' n s e=>⟨⟨_,rfl⟩,n,s,e⟩) ?_ ?_
         . rintro D i zs σ' H13 hi ⟨⟨o,rfl⟩,n13,S13,e13⟩
           have hi':i<xs.length:=by simpa using hi
           have hfl2:((wo i).filter λw=>decide (w∈left') && !decide (qs.getD w 0<1)).length<=i:=by
             have:=vT (λw=>decide (w∈left') && !decide (qs.getD w 0<1)) (wo i);rw[vi]at this;exact this
           have hgi:=gn' i hi';have bqi:=bq i;o_head MY (aG.of (S13 _ _ eg12)) ?_;k_few
           . rename_i z
             have hin:i∈left':=We.mp λy=>z (hgi.mpr y)
             refine gu (b_ (S13 _ _ e12) (aj.same S13 _ _ t12)) (by lia) (by lia) (λv14 i14=>?_);rw[wD]at i14;o_head dm (r:=1) rfl rfl (λv15 H15 S15 i15=>?_);have i14:=i14.by S15;have e15:=S15 _ _ e13;k_few
             . rename_i z2
               refine iO e15 (by rw[gk];lia) (λH16 E16 e16=>⟨⟨_,rfl⟩,n13,(S13.trans S15).grow n13 E16,?_⟩);rw[kr (n:=i),if_pos,rQ]
               . exact e16
               . rw[decide_eq_true hin,decide_eq_false z2];rfl
             . rename_i z2
               refine⟨[],⟨_,rfl⟩,n13,S13.trans S15,?_⟩;rw[kr (n:=i),if_neg,vM]
               . exact e15
               . rw[decide_eq_true hin,decide_eq_true (show qs.getD i 0<1 by first | exact z2 | exact We.mp z2)];simp
           . rename_i z
             have hout:i ∉ left':=hgi.mp (by first | exact z | exact We.mp z);refine⟨[],⟨_,rfl⟩,n13,S13,?_⟩;rw[kr (n:=i),if_neg,vM]
             . exact e13
             . rw[decide_eq_false hout];simp
         . rintro lW2 zs σ' H13 ⟨_,n13,S13,e13⟩
           rw[wD,<- hends]at e13;o_head ⟨left'.length,by lia,lW2,lg2,left',qs,done++[aA ps left],f',pv',wv++[V.ref lt],gone++aA ps left,_,_,rfl,rfl,?_⟩;have KA:=K12.trans S13.keep;exact⟨TX.trans S13,G.hp,G.hv,iw11.c8 KA,G.jX,ke n13 e12,ke n13 ev12,nGp,nGv,S13 _ _ e12,aj.same S13 _ _ t12,e13,S13 _ _ ev12,aj.keep KA _ _ (nM _) tv11,S13 _ _ eg12,gn',by rw[wQ];lia,rg',by rw[hpl];exact hps,by lia,by rw[wQ];simp;lia,cm12,by rw[W4];exact w1,w2⟩
def PV(xs:List Rat):wC:=.tuple [LZ (aX xs),LN (aY xs)]
theorem RF(xs:List Rat)(v:Rat):(eH xs v).length=xs.count v:=by
 have e:(wo xs.length).map (λw=>xs.getD w 0)=xs:=by
  refine iC (by simp) λi hi=>?_
  rw[wm,vi]at hi;rw[wb,wu,vH hi]
  rfl
 have:xs.count v=((wo xs.length).map (λw=>xs.getD w 0)).count v:=by rw[e]
 rw[this];unfold eH List.count;rw[X7,<- Qh];refine List.countP_congr λw _=>?_
 simp
def DQ(xs ds:List Rat):List Int:=ds.map λv=>((eH xs v).length:Int)
def RJ(K:wa):Sp:=λvs H Q _=>∃x0,vs=[x0] /\ ∃(xs:List Rat),(Is K H x0 (LN xs)\/Is K H x0 (TN xs))/\1<=xs.length/\xs.length<=8/\(∀i,ag 4000 (xs.getD i 0)) /\ ∀v H',ah H H'->Is K H' v (PV xs)->Q v H'
theorem oM(h:Is K H v (LN xs)\/Is K H v (TN xs))(h1:1<=xs.length)(h8:xs.length<=8)(b:∀i,ag 4000 (xs.getD i 0))(q:∀v H',ah H H'->Is K H' v (PV xs)->Q v H'):RJ K [v] H Q E:=⟨_,rfl,xs,h,h1,h8,b,q⟩
theorem zev(T:Txt K mg a):aK P w K mg base aR 3 a.Jz a.HM uO (RJ K):=by
 refine T.mP.F.ok mU ?_ ?_;wtm_at "b1"
 refine⟨_,(ao (az 1 mU.nd (di (show aE _ (.type "list") (fQ K)from jU) rfl T.h0Q g_ (ae (pv 0) af)))
     (ao (az 2 mU.nd (cJ af))
     (ao (az 3 mU.nd (cJ af))
     (ao (iW vg (bD (show aH _ (wH .NotEq) (eC K)from iE hu) (pv 1) (cJ af) (aU _)) (ao (az 4 mU.nd (ar (CU T) hr T.sM (ae (pv 1) af)))
     (ao (jR (jn vQ vV vW iS (pv 2) (ae (jn vQ qJ PySem.F.type_list_count (show CW _ "list.count" (Dd K)from zxE hu) (pv 1) (ae (pv 4) af)) af)))
     (ao (jR (jn vQ vV vW iS (pv 3) (ae (pv 4) af)))
     (av (jA (i:=1) mU.nd rfl (Or.inl rfl) rfl (cv.by (N':=["_law_one","_law_high_here"]) (src:=[none,some 4]) rfl (by kernel_rfl)) (fA (pv 1)) (λ_ _ _ _ _=>(aZ (i:=0) (of_decide_eq_true (by kernel_rfl)) rfl (Or.inl rfl))) (λ_ _ _ _ _=>(kK (bD (show aH _ (wH .NotEq) (eC K)from iE hu) (pv 0) (pv 1) (aU _)))) (λ_ _ _ _ _=>(pv 0))))))))
     (av (aB (aW (ae (pv 2) (ae (oO n_ (pv 3) m6 (m7 (iD ic ay))) af))))))))),?_⟩
 wtm_at "cl";rw[show start Sz [x0]=[some x0,none,none,none,none]from rfl];obtain⟨xs,hx,h1,h8,bx,q⟩:=h;k_few
 have fstL:∀{Q':VK},(∀ll H' us,H ll=none->ah H H'->H' ll=some (.lst us)->aj K H' us (xs.map N)->Q' (.ref ll) H')->fQ K [x0] H Q':=λq'=>by
   rcases hx with h | h
   . exact MS h (λl H' ys n S e t=>q' l H' ys n S e t)
   . exact rh h (λl H' ys n S e t=>q' l H' ys n S e t)
 refine fstL (λll H1 us n1 S1 e1 t1=>?_);o_head de (by simp) (λls H2 n2 S2 e2=>?_);have nls:ll≠ls:=λz=>by subst z;rw[e1]at n2;cases n2
 o_head de (by simp) (λlf H3 n3 S3 e3=>?_);have e23:=S3 _ _ e2;have nlf:ll≠lf:=λz=>by subst z;rw[S2 _ _ e1]at n3;cases n3
 have nsf:ls≠lf:=λz=>by subst z;rw[e2]at n3;cases n3
 have ns0:H ls=none:=ft S1 n2;have nf0:H lf=none:=ft S1 (ft S2 n3);have S03:=S1.trans (S2.trans S3);o_head jN (λm σ' H'=>∃(ll:we)(left done:List Rat)(us ws:List V)(f:Nat)(o4:Option V),σ'=[some x0,some (.ref ll),some (.ref ls),some (.ref lf),o4]/\m=left.length/\ah H H'/\ll≠ls/\ll≠lf/\H' ls=some (.lst ((DQ xs done).map V.int))/\H' lf=some (.lst ws)/\aj K H' ws (done.map N)/\H' ll=some (.lst us)/\aj K H' us (left.map N)/\(∀y∈left,y∈xs/\left.count y=xs.count y)/\left.length<=f/\done.length+left.length<=xs.length/\done++fJ f left=ak xs) _ ⟨ll,xs,[],us,[],xs.length,_,rfl,rfl,S03,nls,nlf,e23,e3,.nil,(S2.trans S3) _ _ e1,aj.same (S2.trans S3) _ _ t1,λy h=>⟨h,rfl⟩,wp _,by simp,rfl⟩ ?_;rintro m σ' H4 ⟨ll,left,done,us,ws,f,o4,rfl,rfl,S4,nls,nlf,es,et,tt',el,tl',sub,hf,hdl,heq⟩;o_head de (by simp) (λl5 H5 n5 S5 e5=>?_);have el5:=S5 _ _ el;have et5:=S5 _ _ et;have es5:=S5 _ _ es;have tl5:aj K H5 us (left.map N):=aj.same S5 _ _ tl';have tt5:aj K H5 ws (done.map N):=aj.same S5 _ _ tt'
 refine zxK (b_ el5 tl5) (cb.mpr ⟨l5,[],rfl,.of e5,.nil⟩) (n:=4) (C2 λd hd=>by
   obtain⟨x,_,rfl⟩:=wV.mp hd;exact(oC x).mono (by decide)) (by decide) ?_
 have hwl:=tt5.length;rw[wm]at hwl;rw[show(!(left.map N).isEmpty) = !left.isEmpty by cases left<;>rfl]
 by_cases he:left=[]
 . rw[show(!left.isEmpty)=false by rw[he];rfl]
   rw[he,rG,vM]at heq;subst heq;o_head pZ (b_ et5 tt5) (λl6 H6 us6 n6 S6 e6 t6=>?_);rw[AD,<- qP]at t6;o_head cR (ds:=[LZ (aX xs),LN (aY xs)]) (by simp) (.cons (zEd (S6 _ _ es5)) (.cons (b_ e6 t6) .nil)) (λv7 H7 S7 i7=>?_);exact q v7 H7 (S4.trans (S5.trans (S6.trans S7))) i7
 . rw [show (!left.isEmpty) = true by cases left with
       | nil=>exact absurd rfl he
       | cons y l=>rfl]
   have hpos:=Wy.mpr he
   have bl:∀i,ag 4000 (left.getD i 0):=λi=>by
     rcases wG i left.length with z | z
     . exact Fy bx (sub _ (getD_mem z)).1
     . rw[wb,wL z];exact ag.zero.mono (by decide)
   obtain⟨f',rfl⟩:∃f',f=f'+1:=⟨f-1,by lia⟩;rw[lC he]at heq;have hless:=tS he;have hcx:=(sub _ (fR hpos)).2;o_head ky ?_;o_head Ct (.inl (b_ el5 tl5)) hpos bl (λvm im=>?_);o_head iI (aG.of es5) ?_;o_head iI (aG.of el5) ?_;o_head zxA el5 tl5 im ?_;rw[hcx,<- RF];o_head je es5 (by rw[wm,DQ,wm];lia) (λH6 E6 e6=>?_);have K6:=E6.keep es5;have el6:=E6 _ _ nls el5;have et6:=E6 _ _ (Wt nsf) et5;have im6:=im.c8 K6;o_head iI (aG.of et6) ?_;o_head je et6 (by lia) (λH7 E7 e7=>?_);have K7:=E7.keep et6;have el7:=E7 _ _ nlf el6;have es7:=E7 _ _ nsf e6;have im7:=im6.c8 K7;have tl7:aj K H7 us (left.map N):=aj.keep (K6.trans K7) _ _ (d4 _) tl5
   have tt7:aj K H7 (ws++[vm]) ((done++[a_ left]).map N):=by
     rw[w6];exact(aj.keep (K6.trans K7) _ _ (d4 _) tt5).snoc im7
   have S7:ah H H7:=((S4.trans S5).grow ns0 E6).grow nf0 E7;generalize hmx:a_ left=mxx at *;o_head nu (.of el7) (λD i ys σ' H'=>(∃o,σ'=[o,some vm])/\H7 D=none/\ah H7 H'/\H' D=some (.lst ys)/\aj K H' ys (((left.take i).filter λy=>!decide (y=mxx)).map N)) (λD H' n s e=>⟨⟨_,rfl⟩,n,s,e,.nil⟩) (λD i ys σ' H' h=>h.2.2.1.seq (.of el7)) ?_ ?_
   . rintro D i x ys σ' H8 hx ⟨⟨o,rfl⟩,n8,S8,e8,t8⟩
     obtain⟨hi,ix⟩:=cq tl7 hx;have ix8:=ix.by S8;have im8:=im7.by S8;have hyl:=t8.length;rw[wm]at hyl;have hfl:=vT (λy=>!decide (y=mxx)) (left.take i);rw[Wr]at hfl;k_few
     . rename_i z
       refine iO e8 (by lia) (λH9 E9 e9=>⟨⟨_,rfl⟩,n8,S8.grow n8 E9,e9,?_⟩);have K9:=E9.keep e8;rw[fO hi,Wm,Ws,decide_eq_false z,w6];exact(aj.keep K9 _ _ (d4 _) t8).append (.cons (ix8.c8 K9) .nil)
     . rename_i z
       refine⟨ys,⟨_,rfl⟩,n8,S8,e8,?_⟩;rw[fO hi,Wm,Ws,decide_eq_true (by first | exact z | exact We.mp z)];have:([]:List Rat).filter (λy=>!decide (y=mxx))=[]:=rfl
       simpa using t8
   . rintro D ys σ' H8 ⟨_,n8,S8,e8,t8⟩
     have hul:=tl7.length;rw[wm]at hul;rw[hul,Wb]at t8;o_head ⟨(left.filter λy=>!decide (y=mxx)).length,by lia,D,_,done++[mxx],ys,ws++[vm],f',_,rfl,rfl,S7.trans S8,(λz=>by subst z;rw[es7]at n8;cases n8),(λz=>by subst z;rw[e7]at n8;cases n8),?_,S8 _ _ e7,aj.same S8 _ _ tt7,e8,t8,λy hy=>?_,by lia,by rw[wQ];simp only[vS];lia,by rw[W4];exact heq⟩
     . have e:=S8 _ _ es7
       unfold DQ at e ⊢;rw[w6,w6];exact e
     . obtain⟨hy1,hy2⟩:=wW.mp hy
       have:=sub y hy1;exact⟨this.1,by rw[List.count_filter (p:=λy=>!decide (y=mxx)) hy2];exact this.2⟩
def Gf(K:wa):R2:=λx y H Q=>∃d ds,Is K H x d/\Is K H y (.tuple ds)/\Sh 60 d/\vF (.tuple ds)=true/\Q (.bl (!ds.any λe=>wP e d)) H
theorem zxu{X:Cx}(hu:X.A.units+64<WN):aH X (wH .NotIn) (Gf X.K):=by
 intro pins s σ H x y v u Q I rx ry h;obtain⟨d,ds,hd,he,sd,se,q⟩:=h;obtain⟨as,h1⟩:=I.reads d x v sd.1 hd rx;obtain⟨bs,h2⟩:=I.reads (.tuple ds) y u se he ry;have sd2:=sd.2;have hm:=QI (Wq ds) d.depth;exact PySem.SeqAt.notIn_tuple_reads h2 h1 (by rw[vF]at se;exact se) sd.1 (by lia) ⟨.bl _,H,I,rfl,q⟩
theorem zt8{w:V}(h:Is K H v (N x))(k:Is K H w (TN xs))(q:Q (.bl (!decide (x∈xs))) H):Gf K v w H Q :=
 ⟨N x,xs.map N,h,k,(oC x).mono (by decide),by rw[vF];exact sx xs,by rw[NM];exact q⟩
theorem nR(h:Is K H v (LZ ns)):∃p,v=.ref p/\aG K H p (ns.map V.int):=by
 obtain⟨p,us,rfl,s,t⟩:=cb.mp h;rw[lV.mp t]at s;exact⟨p,rfl,s⟩
def ik(a b:Rat)(xs:List Rat):Option String:=if(ak xs).length=1 then some "one" else if 0∈xs then dM a b xs else none
theorem Rw{a:Rat}(h:0∈xs):ik a b xs=dM a b xs:=by
 unfold ik
 by_cases z:(ak xs).length=1
 ·rw[if_pos z];unfold dM;rw[if_pos z]
 ·rw[if_neg z,if_pos h]
def Pl(K:wa):Sp:=λvs H Q _=>∃x0 x1,vs=[x0,x1] /\ ∃(a b:Rat)(xs:List Rat)(m:Nat),Is K H x0 (R a b)/\Is K H x1 (TN xs)/\aS a b/\1<=xs.length/\xs.length<=8/\dk xs/\Cm m xs/\m<=3290 /\ ∀H',ah H H'->Q (k_ (ik a b xs)) H'
theorem rl{a:Rat}{w:V}(h:Is K H v (R a b))(k:Is K H w (TN xs))(ok:aS a b)(h1:1<=xs.length)(h8:xs.length<=8)(hp:dk xs)(c:Cm m xs)(hm:m<=3290)(q:∀H',ah H H'->Q (k_ (ik a b xs)) H'):Pl K [v,w] H Q E:=⟨_,_,rfl,a,b,xs,m,h,k,ok,h1,h8,hp,c,hm,q⟩
theorem F6(T:Txt K mg a):aK P w K mg base aR 7 a.JK a.HZ zZ (Pl K):=by
 refine T.sO.F.ok BG ?_ ?_;wtm_at "b2"
 refine⟨_,(ao (kz (ar (zev T) hr T.mP (ae (pv 1) af)) (j_ (n:=2) rfl (fb (aZ (i:=2) BG.nd rfl (Or.inl rfl)) (fb (aZ (i:=3) BG.nd rfl (Or.inl rfl)) j7))))
     (ao (bL (bD (show aH _ (wH .Eq) (cn K)from cV hu) (bA (show aE _ (.builtin "len") (cj K)from cX) rfl T.h0Y cY (ae (pv 2) af)) ay (aU _)) (av (aB dX)) bN)
     (ao (bL (PW.pt (fz (bD (show aH _ (wH .NotIn) (Gf K)from zxu hu) (aW (ae ay (ae ay af))) (pv 1) (by with_unfolding_all rfl)) (ig (dy (cA (ar (RE T) hr T.A3 (ae (pv 0) (ae (pv 2) (ae (pv 3) af))))))))) (av (aB fS)) bN)
     (ao (bL (bD (show aH _ (wH .Eq) (cn K)from cV hu) (au (ar (nF T) hr T.lH (ae (pv 0) (ae (pv 2) (ae (pv 3) af))))) (pv 3) (aU _)) (av (aB dX)) bN)
     (ao (bL (PW.pt (As (bD ku (au (au (pv 0))) (au (au (pv 0))) (aU _)) (Ai (cA (ar (zt4 T) hr T.Jj (ae (pv 0) (ae (pv 2) (ae (pv 3) af)))))))) (av (aB dX)) bN)
     (av (aB fS))))))),?_⟩
 wtm_at "cl";rw[show start OM [x0,x1]=[some x0,some x1,none,none]from rfl];obtain⟨ra,rb,xs,m,hr',hx',ok,h1,h8,hp,c,hm,q⟩:=h;have bx:∀i,ag 4000 (xs.getD i 0):=λi=>(c.get i).mono (by lia)
 have sz:=zj h1 h8;have hvl:=hW xs;unfold ik at q;o_head oM (.inr hx') h1 h8 bx (λv1 H1 S1 i1=>?_);o_head My (show Is K H1 v1 (.tuple [LZ (aX xs),LN (aY xs)])from i1) rfl (λys t=>?_);obtain⟨v2,r1,rfl,iz,t⟩:=dZ.mp t;obtain⟨vp,r2,rfl,ip,t⟩:=dZ.mp t;rw[gH.mp t];obtain⟨p1,rfl,hz⟩:=nR iz;o_head eQ hz ?_;rw[wm,jC];k_few
 . rename_i z
   have z:(ak xs).length=1:=by lia
   rw[if_pos z]at q;exact q _ S1
 . rename_i z
   have z:¬ (ak xs).length=1:=by lia
   rw[if_neg z]at q;refine dm (r:=0) rfl rfl (λv3 H3 S3 i3=>?_);have T3:=S1.trans S3;have hx3:=hx'.by T3;have hr3:=hr'.by T3;have hz3:=S3.seq hz;have ip3:=ip.by S3;clear hx' hr' hz ip S1 S3 i1 iz t;o_head zt8 i3 hx3 ⟨_,rfl,?_⟩
   by_cases h0:0∈xs
   . rw[decide_eq_true h0,if_neg (by decide)]
     rw[if_pos h0]at q;unfold dM at q;rw[if_neg z]at q;have hzv:aY xs++[0]=ak xs:=yk hp h0;have hpl:(aY xs).length+1=(ak xs).length:=by rw[<- hzv];simp
     have hn:(aX xs).length=(aY xs).length+1:=by rw[jC];lia
     have cp:Cm m (aY xs):=oq c;have rc:=nA ok sz hn cp hm;generalize aX xs=ns at *;generalize aY xs=ps at *;o_head LW hr3 hz3 (.inl ip3) ok sz hn cp hm (λH4 S4=>?_);have T4:=T3.trans S4;have hr4:=hr3.by S4;have hz4:=S4.seq hz3;have ip4:=ip3.by S4;clear hr3 hz3 ip3 T3 S4 hx3 i3;k_few
     . rename_i y
       rw[if_neg (by rw[y];decide)]at q;exact q _ T4
     . rename_i y
       rw[if_pos y]at q;refine m4 hr4 hz4 (.inl ip4) rc.1 rc.2.1 rc.2.2 (λv5 H5 S5 i5=>?_);have T5:=T4.trans S5;have hr5:=hr4.by S5;have hz5:=S5.seq hz4;have ip5:=ip4.by S5;clear hr4 hz4 ip4 T4 S5;o_head aF (j:=0) i5 rfl (λv6 i6=>?_);o_head OT (show Is K H5 v6 (LN (cO ra rb ns ps))from i6) ip5 ?_;k_few
       . rename_i w
         rw[if_pos w]at q;exact q _ T5
       . rename_i w v7 i7 v8 i8 y2
         have ha:ra<1:=by
           rw[<- xF];intro h;have:=(zB ra).mpr h;lia
         rw[if_neg w]at q
         have es:dD ra rb ns ps=kJ ra rb ns:=by
           unfold dD;rw[if_neg (by grind),if_neg (by grind)]
         refine ztX hr5 hz5 ip5 ok sz hn cp hm (λH6 S6=>⟨_,rfl,?_⟩);rw[es]
         by_cases y3:kJ ra rb ns=true
         . rw[if_pos ⟨ha,y3⟩]at q
           rw[y3];k_few;exact q _ (T5.trans S6)
         . rw[if_neg (λh=>y3 h.2)]at q
           rw[VY.mpr y3];k_few;exact q _ (T5.trans S6)
       . rename_i w v7 i7 v8 i8 y2
         rw[if_neg w,if_neg (λh=>y2 (by
           have:=mt (zB ra).mp (xF.mpr h.1);lia))]at q
         exact q _ T5
   . rw[decide_eq_false h0]
     rw[if_neg h0]at q;k_few;exact q _ T3
def KN(K:wa):Sp:=λvs H Q _=>∃x0 x1,vs=[x0,x1] /\ ∃(a b:Rat)(xs:List Rat)(g:Nat),Is K H x0 (R a b)/\Is K H x1 (TN xs)/\aS a b/\1<=xs.length/\xs.length<=8/\(∀t,t<g->(ak (ai a b xs t)).length=(ak xs).length)/\(ak (ai a b xs g)).length≠(ak xs).length/\(∀t,t<=g->Cm 3500 (ai a b xs t)) /\ ∀v H',ah H H'->Is K H' v (TN (ai a b xs g))->Q v H'
theorem zpa{a:Rat}{g:Nat}{w:V}(h:Is K H v (R a b))(k:Is K H w (TN xs))(ok:aS a b)(h1:1<=xs.length)(h8:xs.length<=8)(same:∀t,t<g->(ak (ai a b xs t)).length=(ak xs).length)(diff:(ak (ai a b xs g)).length≠(ak xs).length)(hc:∀t,t<=g->Cm 3500 (ai a b xs t))(q:∀v H',ah H H'->Is K H' v (TN (ai a b xs g))->Q v H'):KN K [v,w] H Q E:=⟨_,_,rfl,a,b,xs,g,h,k,ok,h1,h8,same,diff,hc,q⟩
theorem zoT(T:Txt K mg a):aK P w K mg base aR 5 a.Iv a.G9 yF (KN K):=by
 refine T.Hn.F.ok DO ?_ ?_;wtm_at "b2"
 refine⟨_,(ao (az 2 DO.nd (bA (show aE _ (.builtin "len") (cj K)from cX) rfl T.h0Y cY (ae (au (ar (zev T) hr T.mP (ae (pv 1) af))) af)))
     (ao (iW vg (bD (show aH _ (wH .Eq) (cn K)from cV hu) (bA (show aE _ (.builtin "len") (cj K)from cX) rfl T.h0Y cY (ae (au (ar (zev T) hr T.mP (ae (pv 1) af))) af)) (pv 2) (aU _)) (av (az 1 DO.nd (au (ar (Lu T) hr T.A2 (ae (pv 0) (ae (pv 1) af)))))))
     (av (aB (pv 1))))),?_⟩
 wtm_at "cl";rw[show start NL [x0,x1]=[some x0,some x1,none]from rfl];obtain⟨ra,rb,xs,g,hr',hx',ok,h1,h8,same,diff,hc,q⟩:=h;have bt:∀t,t<=g->∀i,ag 4000 ((ai ra rb xs t).getD i 0):=λt ht i=>((hc t ht).get i).mono (by decide)
 have h1t:∀t,1<=(ai ra rb xs t).length:=λt=>by rw[bS];exact h1
 have h8t:∀t,(ai ra rb xs t).length<=8:=λt=>by rw[bS];exact h8
 o_head oM (.inr hx') h1 h8 (bt 0 (by lia)) (λv1 H1 S1 i1=>?_);o_head aF (j:=0) (show Is K H1 v1 (.tuple [LZ (aX xs),LN (aY xs)])from i1) rfl (λv2 i2=>?_);obtain⟨p1,rfl,hz⟩:=nR i2;o_head eQ hz ?_;rw[wm,jC];o_head jN (λm σ' H'=>∃t v,m=g-t/\t<=g /\ σ'=[some x0,some v,some (.int ((ak xs).length:Int))]/\ah H H'/\Is K H' v (TN (ai ra rb xs t))) _ ⟨0,x1,rfl,by lia,rfl,S1,hx'.by S1⟩ ?_;rintro m σ' H2 ⟨t,v,rfl,ht,rfl,S2,iv⟩;o_head oM (.inr iv) (h1t t) (h8t t) (bt t ht) (λv3 H3 S3 i3=>?_);o_head aF (j:=0) (show Is K H3 v3 (.tuple [LZ (aX (ai ra rb xs t)),LN (aY (ai ra rb xs t))])from i3) rfl (λv4 i4=>?_);obtain⟨p2,rfl,hz2⟩:=nR i4;o_head eQ hz2 ?_;rw[wm,jC];have T3:=S2.trans S3;k_few
 . rename_i z
   have htg:t<g:=by
     rcases wG t g with y | y
     . exact y
     . have:t=g:=by lia
       subst this;exact absurd (by lia) diff
   refine ky ?_;o_head LS (hr'.by T3) (iv.by S3) ok.ba ok.bb (h1t t) (h8t t) (hc t ht) (by have:=h8t t;lia) (λv5 H5 S5 i5=>?_);o_head aF (j:=2) (show Is K H5 v5 (.tuple [N (1-a_ (ai ra rb xs t)),.list ((cH ra rb (ai ra rb xs t)).map TW),TN (ai ra rb xs (t+1))])from i5) rfl (λv6 i6=>?_);k_few;exact⟨g-(t+1),by lia,t+1,v6,rfl,htg,rfl,T3.trans S5,i6⟩
 . rename_i z
   have htg:t=g:=by
     rcases wG t g with y | y
     . exact absurd (by have:=same t y;lia) z
     . lia
   subst htg;exact q v H3 T3 (iv.by S3)
theorem zuy{a:Rat}(a0:0<a)(b0:0<=b)(h1:1<=xs.length)(hp:dk xs)(w:(cH a b xs).length=1):(ak (cZ a b xs)).length=(ak xs).length:=by
 obtain⟨v,J⟩:=yB a0 b0 h1 hp.nn hp.lt;have e:=congrArg Xw J.new;rw[iB,wQ,vZ,iB,vS]at e;have v1:=J.v1;have vm:=J.vm;have:¬ 1<v:=λz=>by have:=J.more.mpr z;lia
 lia
theorem EO{a:Rat}(h:c_ a b xs)(c:iF b.den 47 xs)(h4:xs.length<=4)(hg:cu a b xs j+216<=20+216*xs.length)(hj:j<=1024):Cm 2100 (ai a b xs j):=by
 have:=Nz h.ok c h.h1 h.hp (i:=0) (k:=j) (l:=10) (by rw[show(2:Nat)^10=1024 by decide];exact hj);rw[qY]at this;exact(lD this λy hy=>wB _ hy).mono (by lia)
theorem zzd{a:Rat}(h:c_ a b xs)(h4:xs.length<=4)(i1:1<=i)(sp:jf a b xs i)(n2:2<=(ak (ai a b xs i)).length)(k31:k<=31)(f:gX a b (ai a b xs i) k):cu a b xs (i+k*(ak (ai a b xs i)).length)+216<=20+216*xs.length/\i+k*(ak (ai a b xs i)).length<=1024:=by
 have hp:=h.hp.at h.ok.a0 h.ok.b0 i;have h0:=h.hp.zero h.ok.a0 h.ok.b0 h.h1 i1;obtain⟨hz,hn,hs,L⟩:=pX (a:=a) (b:=b) hp h0;have h2:=Dr h.ok L hn (m5 _) k f;rw[hs]at h2;have h3:=EJ (ai a b xs i);rw[hs,bS]at h3;have hv:=hW (ai a b xs i);rw[bS]at hv;have g1:k*upTo (aX (ai a b xs i)) (ak (ai a b xs i)).length<=31*4:=Vh k31 (by lia);have g2:k*(ak (ai a b xs i)).length<=31*4:=Vh k31 (by lia);obtain⟨s1,s2⟩:=sp;rw[nk,h2];exact⟨by lia,by lia⟩
theorem zB6{a:Rat}(ok:aS a b){ys:List Rat}(hp:dk ys)(h0:0∈ys)(f:gX a b ys k):(∀y∈cf a b (aX ys) k (aY ys),y∈ai a b ys (k*(ak ys).length))/\((wo ys.length).map λw=>(cf a b (aX ys) k (aY ys)++[0]).getD (aI ys w) 0)=ai a b ys (k*(ak ys).length):=by
 obtain⟨hz,hn,hs,L⟩:=pX (a:=a) (b:=b) hp h0;obtain⟨Lr,_⟩:=pK ok L hn (m5 ys) k f;rw[hs]at Lr
 constructor
 ·intro y hy
  obtain⟨j,hj,rfl⟩:=vj hy;obtain⟨w,hw,hf⟩:=Lr.some j (by rw[wQ];lia);have e:=Lr.pl.at' w hw;rw[hf,wb (l:=_++_),Ww hj,wc hj]at e;have e:(ai a b ys (k*(ak ys).length)).getD w 0=(cf a b (aX ys) k (aY ys))[j]:=e;rw[<- e];exact getD_mem hw
 ·refine iC (by simp[bS]) λw hw=>?_
  have hw:w<ys.length:=by simpa using hw
  rw[Lr.pl.at' w (by rw[bS];exact hw),wb (l:=List.map _ _),wu,vH hw]
  rfl
theorem Ua{a b:Rat}{ys:List Rat}{r g:Nat}(ok:aS a b)(h1:1<=ys.length)(hp:dk ys)(R:eU a b ys r g):∀t,t<g->(ak (ai a b (ai a b ys (r*(ak ys).length)) t)).length=(ak (ai a b ys (r*(ak ys).length))).length
 | 0,_=>rfl
 | t+1,ht=>by
  have ih:=Ua ok h1 hp R t (by lia);have hw:=R.one t ht;have:=zuy ok.a0 ok.b0 (xs:=ai a b (ai a b ys (r*(ak ys).length)) t) (by rw[bS,bS];exact h1) ((hp.at ok.a0 ok.b0 _).at ok.a0 ok.b0 _) hw;exact this.trans ih
theorem zxh{a:Rat}(h:¬ (ak xs).length=1):ik a b xs=none\/ik a b xs=some "rests"\/ik a b xs=some "drawn":=by
 unfold ik dM;rw[if_neg h,if_neg h]
 split
 ·split
  ·split
   ·exact .inr (.inl rfl)
   ·split
    ·exact .inr (.inr rfl)
    ·exact .inl rfl
  ·exact .inl rfl
 ·exact .inl rfl
theorem sF{w:String} : k_ (some w)=.str (vk w):=rfl
theorem zD8 :k_ none=.bY:=rfl
theorem Tf(s:String)(e:wP (.str (vk s)) (.str (vk "one"))=false)(h:Q (.bl true) H):eC K (k_ (some s)) (.str (vk "one")) H Q:=mz (fg.mpr rfl) (fg.mpr rfl) (lU s) (lU "one") (by rw[e];exact h)
def MP(K:wa):Sp:=λvs H Q _=>∃x0 x1,vs=[x0,x1] /\ ∃(a b:Rat)(xs:List Rat),Is K H x0 (R a b)/\Is K H x1 (TN xs)/\c_ a b xs/\iF b.den 47 xs/\xs.length<=4/\(iU a b xs->∀H',ah H H'->Q .bY H') /\ ∀es n w v H',fE a b xs es n w->ah H H'->Is K H' v (kn w (ak (ai a b xs n)).length)->Q v H'
theorem ztI{a:Rat}{w:V}(h:Is K H v (R a b))(k:Is K H w (TN xs))(ok:c_ a b xs)(c:iF b.den 47 xs)(h4:xs.length<=4)(qe:iU a b xs->∀H',ah H H'->Q .bY H')(q:∀es n w v H',fE a b xs es n w->ah H H'->Is K H' v (kn w (ak (ai a b xs n)).length)->Q v H'):MP K [v,w] H Q E:=⟨_,_,rfl,a,b,xs,h,k,ok,c,h4,qe,q⟩
theorem ztM(T:Txt K mg a):aK P w K mg base aR 8 a.JR a.Ir zT (MP K):=by
 refine T.Jn.F.ok my ?_ ?_;wtm_at "b2"
 refine⟨_,(ao (bL (bD (show aH _ (wH .NotEq) (eC K)from iE hu) (ar (F6 T) hr T.sO (ae (pv 0) (ae (pv 1) af))) dX (aU _)) (av (az 1 my.nd (au (ar (Lu T) hr T.A2 (ae (pv 0) (ae (pv 1) af)))))) bN)
     (ao (iW vg (bD pM (ar (F6 T) hr T.sO (ae (pv 0) (ae (pv 1) af))) fS (aU _)) (ao (kz (ar (zev T) hr T.mP (ae (pv 1) af)) (j_ (n:=2) rfl (fb (aZ (i:=2) my.nd rfl (Or.inl rfl)) (fb (aZ (i:=3) my.nd rfl (Or.inl rfl)) j7))))
     (ao (az 4 my.nd ay)
     (ao (iW vg (PW.pt (As (bD ku (pv 4) ay (aU _)) (Ai (cA (ar (RE T) hr T.A3 (ae (pv 0) (ae (pv 2) (ae (ar (Mx T) hr T.AW (by exact(@ae _ _ _ _ _ (pv 0) (@ae _ _ _ _ _ (pv 2) (@ae _ _ _ _ _ (pv 3) (@ae _ _ _ _ _ (pv 4) af dA) dA) dA) dA))) af)))))))) (av (az 4 my.nd (aD cB (pv 4) ay))))
     (ao (bL (bD nJ (pv 4) ay (aU _)) (av (aB fS)) bN)
     (av (az 1 my.nd (ar (zoT T) hr T.Hn (ae (pv 0) (ae (ar (zo6 T) hr T.Hv (ae (pv 1) (ae (ar (Mx T) hr T.AW (by exact(@ae _ _ _ _ _ (pv 0) (@ae _ _ _ _ _ (pv 2) (@ae _ _ _ _ _ (pv 3) (@ae _ _ _ _ _ (pv 4) af dA) dA) dA) dA))) af))) af))))))))))
     (av (aB (aW (ae (ar (F6 T) hr T.sO (ae (pv 0) (ae (pv 1) af))) (ae (bA (show aE _ (.builtin "len") (cj K)from cX) rfl T.h0Y cY (ae (au (ar (zev T) hr T.mP (ae (pv 1) af))) af)) af))))))),?_⟩
 wtm_at "cl";rw[show start Tp [x0,x1]=[some x0,some x1,none,none,none]from rfl];obtain⟨ra,rb,xs,hr',hx',ok,c47,h4,qe,q⟩:=h;have h1:=ok.h1;have hp:=ok.hp;have rok:=ok.ok;have c0:Cm 47 xs:=c47.cm;o_head rl hr' hx' rok h1 (by lia) hp c0 (by decide) (λH1 S1=>?_);have hr1:=hr'.by S1;have hx1:=hx'.by S1
 by_cases z1:(ak xs).length=1
 . have lw:ik ra rb xs=some "one":=by unfold ik;rw[if_pos z1]
   have nf1:(ak (ai ra rb xs 1)).length=1:=by
     have g1:=BL rok.a0 rok.b0 h1 hp 1;have g2:=(ok.nf 1).1;lia
   have P:fE ra rb xs [(0,0,1)] 1 "one":=⟨⟨rfl,.inl ⟨rfl,rfl,rfl⟩,by show dj ra rb xs 0 0 1=1;unfold dj;lia⟩,by decide,by decide,by decide,by unfold dM;rw[if_pos nf1],ok.one⟩;rw[lw,sF];o_head mz (fg.mpr rfl) (fg.mpr rfl) (lU "one") (lU "one") ?_;rw[show wP (.str (vk "one")) (.str (vk "one"))=true by rw[wP];decide];o_head jN (λm σ' H'=>m=0 /\ σ'=[some x0,some x1,none,none,none]/\ah H H') 0 ⟨rfl,rfl,S1⟩ ?_;rintro m σ' H2 ⟨rfl,rfl,S2⟩;o_head rl (hr'.by S2) (hx'.by S2) rok h1 (by lia) hp c0 (by decide) (λH3 S3=>?_);rw[lw,sF];have T3:=S2.trans S3;k_few
   . rename_i z
     cases z
   refine rl (hr'.by T3) (hx'.by T3) rok h1 (by lia) hp c0 (by decide) (λH4 S4=>?_);rw[lw,sF];have T4:=T3.trans S4;o_head oM (.inr (hx'.by T4)) h1 (by lia) (λi=>(c0.get i).mono (by decide)) (λv5 H5 S5 i5=>?_);o_head aF (j:=0) (show Is K H5 v5 (.tuple [LZ (aX xs),LN (aY xs)])from i5) rfl (λv6 i6=>?_);obtain⟨p1,rfl,hz⟩:=nR i6;o_head eQ hz ?_;rw[wm,jC,z1];o_head cR (ds:=[.str (vk "one"),.int ((1:Nat):Int)]) (by simp) (.cons (fg.mpr rfl) (.cons (cw.mpr rfl) .nil)) (λv7 H7 S7 i7=>?_);exact q _ 1 "one" v7 H7 P (T4.trans (S5.trans S7)) (by rw[nf1];exact i7)
 . have test:∀{Q':VK},Q' (.bl true) H1->eC K (k_ (ik ra rb xs)) (.str (vk "one")) H1 Q':=λ{Q'} h=>by
     rcases zxh (a:=ra) (b:=rb) z1 with e | e | e
     . rw[e]
       exact mz (d:=.none) (l_.mpr rfl) (fg.mpr rfl) (by decide) (lU "one") (by rw[wP];exact h)
     . rw[e]
       exact Tf "rests" (by rw[wP];decide) h
     . rw[e]
       exact Tf "drawn" (by rw[wP];decide) h
   o_head test ?_;o_head LS hr1 hx1 rok.ba rok.bb h1 (by lia) c0 (by lia) (λv2 H2 S2 i2=>?_);o_head aF (j:=2) (show Is K H2 v2 (.tuple [N (1-a_ xs),.list ((cH ra rb xs).map TW),TN (ai ra rb xs 1)])from i2) rfl (λv3 i3=>?_);have T2:=S1.trans S2;clear test hr1 hx1 S1 S2 i2;o_head jN (λm σ' H'=>∃(v:V)(o2 o3 o4:Option V)(es:List (Nat × Nat × Nat))(i:Nat),m=(ak (ai ra rb xs i)).length /\ σ'=[some x0,some v,o2,o3,o4]/\ah H H'/\Is K H' v (TN (ai ra rb xs i))/\gq ra rb xs 0 es i/\1<=i/\1<=es.length/\jf ra rb xs i/\es.length+(ak (ai ra rb xs i)).length<=7) _ ⟨v3,_,_,_,[(0,0,1)],1,rfl,rfl,T2,i3,⟨rfl,.inl ⟨rfl,rfl,rfl⟩,by show dj ra rb xs 0 0 1=1;unfold dj;lia⟩,by lia,by decide,ok.one,by have:=(ok.nf 1).2;simp;lia⟩ ?_;clear T2 i3;rintro m σ' H4 ⟨v,o2,o3,o4,es,i,rfl,rfl,S4,iv,wk,i1,e1,sp,cg⟩;have l4:=bS ra rb xs i;have hpi:=hp.at rok.a0 rok.b0 i;have h0i:=hp.zero rok.a0 rok.b0 h1 i1;have nfi:=ok.nf i;have gi:=sp.1;have gi2:=sp.2;have ci:Cm 2100 (ai ra rb xs i):=EO ok c47 h4 (by lia) (by lia);have hr4:=hr'.by S4;o_head rl hr4 iv rok (by lia) (by lia) hpi ci (by decide) (λH5 S5=>?_);rw[Rw h0i];have T5:=S4.trans S5;have iv5:=iv.by S5;have hr5:=hr4.by S5;cases hw:dM ra rb (ai ra rb xs i)with
   | some w =>
     have P:fE ra rb xs es i w:=⟨wk,e1,by lia,i1,hw,sp⟩;rw[sF];k_few
     . rename_i z
       cases z
     refine rl hr5 iv5 rok (by lia) (by lia) hpi ci (by decide) (λH6 S6=>?_);rw[Rw h0i,hw,sF];o_head oM (.inr (iv5.by S6)) (by lia) (by lia) (λi=>(ci.get i).mono (by decide)) (λv7 H7 S7 i7=>?_);o_head aF (j:=0) (show Is K H7 v7 (.tuple [LZ (aX (ai ra rb xs i)),LN (aY (ai ra rb xs i))])from i7) rfl (λv8 i8=>?_);obtain⟨p1,rfl,hz⟩:=nR i8;o_head eQ hz ?_;rw[wm,jC];o_head cR (ds:=[.str (vk w),.int ((ak (ai ra rb xs i)).length:Int)]) (by simp) (.cons (fg.mpr rfl) (.cons (cw.mpr rfl) .nil)) (λv9 H9 S9 i9=>?_);exact q es i w v9 H9 P (T5.trans (S6.trans (S7.trans S9))) i9
   | none =>
     have n2:=DB hw nfi.1;obtain⟨hzv,hn,hs,L⟩:=pX (a:=ra) (b:=rb) hpi h0i;have sz:=zj (xs:=ai ra rb xs i) (by lia) (by lia);have hvl:=hW (ai ra rb xs i)
     have cmk:∀k,k<=31->gX ra rb (ai ra rb xs i) k->Cm 2100 (ai ra rb xs (i+k*(ak (ai ra rb xs i)).length)):=λk hk f=>by
       obtain⟨g1,g2⟩:=zzd ok h4 i1 sp n2 hk f;exact EO ok c47 h4 g1 g2
     have cmr:∀r g t,eU ra rb (ai ra rb xs i) r g->t<=g->Cm 3500 (ai ra rb (ai ra rb (ai ra rb xs i) (r*(ak (ai ra rb xs i)).length)) t):=λr g t R ht=>by
       obtain⟨g1,g2,_,_⟩:=ok.within i1 sp n2 R ht;rw[d5,d5];exact(EO ok c47 h4 g1 g2).mono (by decide)
     have nxt:∀r g,eU ra rb (ai ra rb xs i) r g->jf ra rb xs (dj ra rb xs i r g):=λr g R=>ok.next i1 sp n2 R
     have ro:∀r g,eU ra rb (ai ra rb xs i) r g->gq ra rb xs 0 (es++[(i,r,g)]) (dj ra rb xs i r g):=λr g R=>wk.snoc (.inr ⟨i1,hw,R⟩)
     have fw:∀r g,eU ra rb (ai ra rb xs i) r g->(ak (ai ra rb xs (dj ra rb xs i r g))).length<(ak (ai ra rb xs i)).length:=λr g R=>by
       have:=R.Bf rok (by lia) hpi;rw[d5]at this;exact this
     have qf:(∀k,k<=30->cF ra rb (aX (ai ra rb xs i)) (aY (ai ra rb xs i)) k=true)->iU ra rb xs:=λf=>⟨es,i,wk,i1,hw,f⟩
     have eqi:∀k,ai ra rb (ai ra rb xs i) k=ai ra rb xs (i+k):=λk=>d5 ra rb xs i k
     have hli:∀r g,dj ra rb xs i r g=i+(r*(ak (ai ra rb xs i)).length+g):=λ_ _=>rfl
     have l1:1<=(ai ra rb xs i).length:=by lia
     have l8:(ai ra rb xs i).length<=8:=by lia
     have fewN:=cg;clear wk sp gi gi2 hw;generalize hys:ai ra rb xs i=ys at *;have bx:∀j,ag 4000 (ys.getD j 0):=λj=>(ci.get j).mono (by decide)
     have cp:Cm 2100 (aY ys):=oq ci;have bp:∀j,ag 2500 ((aY ys).getD j 0):=λj=>(cp.get j).mono (by decide)
     rw[zD8];o_head ky ?_;o_head oM (.inr iv5) l1 l8 bx (λv6 H6 S6 i6=>?_);o_head My (show Is K H6 v6 (.tuple [LZ (aX ys),LN (aY ys)])from i6) rfl (λus t=>?_);obtain⟨v7,r1,rfl,iz,t⟩:=dZ.mp t;obtain⟨vp,r2,rfl,ip,t⟩:=dZ.mp t;rw[gH.mp t];obtain⟨p1,rfl,hz⟩:=nR iz;have T6:=T5.trans S6;have iv6:=iv5.by S6;have hr6:=hr5.by S6;clear iv5 hr5 S6 i6 iz t T5 hr4 iv S4 S5;o_head jN (λm σ' H'=>∃k:Nat,m=31-k/\k<=31/\gX ra rb ys k /\ σ'=[some x0,some v,some (.ref p1),some vp,some (.int (k:Int))]/\ah H6 H') _ ⟨0,rfl,by lia,λk hk=>by lia,rfl,ah.refl _⟩ ?_;rintro m σ' H7 ⟨k,rfl,k31,fr,rfl,S7⟩;have T7:=T6.trans S7;have iv7:=iv6.by S7;have hr7:=hr6.by S7;have ip7:=ip.by S7;have hz7:=S7.seq hz;have lo:=zB6 rok hpi h0i fr;have cl:Cm 2100 (cf ra rb (aX ys) k (aY ys)):=lD (by have:=cmk k k31 fr;rw[<- eqi]at this;exact this) lo.1;k_few
     . rename_i y
       have k30:k<=30:=by lia
       refine Uc hr7 hz7 ip7 hn (by lia) (nB rok sz (by lia)) bp (λl8' H8 us8 n8 S8 e8 t8=>?_);rw[wD]at t8;o_head LW (hr7.by S8) (S8.seq hz7) (.inl (b_ e8 t8)) rok sz (by rw[df];exact hn) cl (by decide) (λH9 S9=>⟨_,rfl,?_⟩);have S79:=S8.trans S9;clear e8 t8 n8 S8 S9
       by_cases f:dW ra rb (aX ys) (cf ra rb (aX ys) k (aY ys))=true
       . rw[f]
         o_head ky ?_;o_head ⟨31-(k+1),by lia,k+1,rfl,by lia,λj hj=>?_,rfl,S7.trans S79⟩;rcases wG j k with u | u
         . exact fr j u
         . have:j=k:=by lia
           subst this;exact f
       . rw[VY.mpr f]
         have EE:cF ra rb (aX ys) (aY ys) k=false:=VY.mpr f;obtain⟨g,R⟩:=Bk rok l1 hpi h0i k30 fr EE;have g1:=R.g1;have T9:=T7.trans S79;have iv9:=iv7.by S79;have hr9:=hr7.by S79;have ip9:=ip7.by S79;have hz9:=S79.seq hz7;clear iv7 hr7 ip7 hz7 S79 S7 T7 iv6 hr6 T6;k_few
         . exfalso
           lia
         . refine Uc hr9 hz9 ip9 hn (by lia) (nB rok sz (by lia)) bp (λl10 H10 us10 n10 S10 e10 t10=>?_)
           rw[wD]at t10;o_head zoX (iv9.by S10) (b_ e10 t10) l8 (by rw[df];lia) bx (λv11 H11 S11 i11=>?_);rw[lo.2]at i11;have S911:=S10.trans S11;have same:=Ua rok l1 hpi R
           have diff:(ak (ai ra rb (ai ra rb ys (k*(ak ys).length)) g)).length≠(ak (ai ra rb ys (k*(ak ys).length))).length:=by
             have e1:=same (g-1) (by lia);have e2:=(Dl rok.a0 rok.b0 (xs:=ai ra rb (ai ra rb ys (k*(ak ys).length)) (g-1)) (by rw[bS,bS];exact l1) ((hpi.at rok.a0 rok.b0 _).at rok.a0 rok.b0 _)).2 R.join;obtain⟨j,rfl⟩:∃j,g=j+1:=⟨g-1,by lia⟩;rw[VR]at e1 e2;have e3:ai ra rb (ai ra rb ys (k*(ak ys).length)) (j+1)=cZ ra rb (ai ra rb (ai ra rb ys (k*(ak ys).length)) j):=rfl;rw[e3];lia
           o_head zpa (g:=g) (hr9.by S911) i11 rok (by rw[bS];exact l1) (by rw[bS];exact l8) same diff (λt ht=>cmr k g t R ht) (λv12 H12 S12 i12=>?_);rw[d5,eqi,<- hli]at i12;have f1:=fw k g R;k_few;exact⟨_,f1,v12,_,_,_,es++[(i,k,g)],dj ra rb xs i k g,rfl,rfl,T9.trans (S911.trans S12),i12,ro k g R,by rw[hli];lia,by simp,nxt k g R,by rw[wQ,vS];lia⟩
     . have k31':k=31:=by lia
       subst k31';exact qe (qf λj hj=>fr j (by lia)) H7 T7
     . exfalso
       lia
def rY(a b:Rat)(xs:List Rat)(s:String)(es:List (Nat × Nat × Nat))(n:Nat)(w:String):wC:=.list [if s="fate" then kn w (ak (ai a b xs n)).length else .list (rH a b xs es n w)]
def TH(K:wa):Sp:=λvs H Q _=>∃x0 x1,vs=[x0,x1] /\ ∃(s:String)(ra rb:Rat)(xs:List Rat),x0=.str (vk s)/\(s="fate"\/s="paper")/\Is K H x1 (bM ra rb xs)/\c_ ra rb xs/\(iU ra rb xs->∀v H',ah H H'->Is K H' v (.list [])->Q v H') /\ ∀es n w v H',fE ra rb xs es n w->ah H H'->Is K H' v (rY ra rb xs s es n w)->Q v H'
theorem mC(s:String)(hs:s="fate"\/s="paper")(h:Is K H v (bM ra rb xs))(ok:c_ ra rb xs)(qe:iU ra rb xs->∀v H',ah H H'->Is K H' v (.list [])->Q v H')(q:∀es n w v H',fE ra rb xs es n w->ah H H'->Is K H' v (rY ra rb xs s es n w)->Q v H'):TH K [.str (vk s),v] H Q E:=⟨_,_,rfl,s,ra,rb,xs,rfl,hs,h,ok,qe,q⟩
theorem yL(T:Txt K mg a):aK P w K mg base aR 15 a.IZ a.Hm tW (TH K):=by
 refine T.oP.F.ok mi ?_ ?_;wtm_at "b2"
 refine⟨_,(ao (az 2 mi.nd (cJ af))
     (ao (az 3 mi.nd fS)
     (ao (zAr (i:=4) (tb:=λW=>Dv (Ao (lA (cn K) (lQ 0) (tC (.str "fate")))) (lG (tV K (oI (zp (Ef K a) W (oI (lQ 1) og)) og)) (iZ 2)) (lG (tV K (oI (zp (Cy K a) W (oI (lQ 1) og)) og)) (iZ 2))) (th:=λex C=>lG (lQ 4) (iZ 3)) rfl rfl mi.nd rfl rfl rfl T.Yx (λW pn E' hx=>by exact(av (bL (bD (show aH _ (wH .Eq) (cn K)from cV hu) (pv 0) dX (aU _)) (av (az 2 mi.nd (cJ (ae (Pg (zzT T) (hr.mono (by decide)) rfl T.sX.g T.sX.F.kp T.sX.b hx (ae (pv 1) af)) af)))) (av (az 2 mi.nd (cJ (ae (Pg (OB T) (hr.mono (by decide)) rfl T.oR.g T.oR.F.kp T.oR.b hx (ae (pv 1) af)) af))))))) (λpn ex C oe hob=>by exact(av (az 3 mi.nd (pv 4)))))
     (ao (bL (bD pM (pv 3) fS (aU _)) (av (aB (pv 2))) bN)
     (ao (bL (cA (bA (show aE _ (.builtin "isinstance") (lu K)from yz) rfl T.h0u gQ (ae (pv 3) (ae (aW (by exact(@ae _ _ _ _ _ (bW (v:=.ref a.oZ) rfl T.YK rfl) (@ae _ _ _ _ _ (bW (v:=.ref a.oS) rfl T.YC rfl) (@ae _ _ _ _ _ (bW (v:=.ref a.pe) rfl T.YS rfl) (@ae _ _ _ _ _ (bW (v:=.ref a.oX) rfl T.YL rfl) (@ae _ _ _ _ _ (bW (v:=.ref a.eG) rfl T.Jm rfl) af dA) dA) dA) dA) dA))) af)))) (av (aB (cJ (ae dX (ae ay af))))) bN)
     (ao (bL (PW.pt (fz (cA (bA (show aE _ (.builtin "isinstance") (lu K)from yz) rfl T.h0u gQ (ae (pv 3) (ae (aW (ae (bW (v:=.ref a.oU) rfl T.YH rfl) (ae (bW (v:=.ref a.oY) rfl T.YO rfl) (ae (bW (v:=.ref a.pb) rfl T.YV rfl) af)))) af)))) (ig (dy (cA (bA (show aE _ (.builtin "isinstance") (lu K)from yz) rfl T.h0u gQ (ae (pv 3) (ae (bW (v:=.ref a.c6) rfl T.Jk rfl) af)))))))) (av (aB (cJ (ae dX (ae ay af))))) bN)
     (ao (bL (dy (cA (bA (show aE _ (.builtin "isinstance") (lu K)from yz) rfl T.h0u gQ (ae (pv 3) (ae (jk (v:=.ty "ValueError") rfl T.h0t Zo rfl) af))))) (av (aB (cJ (ae dX (ae ay af))))) bN)
     (av (aB (cJ af)))))))))),?_⟩
 wtm_at "cl";rw[show start Lm [x0,x1]=[some x0,some x1,none,none,none]from rfl];obtain⟨s0,ra,rb,xs,rfl,hs,hw,ok,qe,q⟩:=h;wtm_at "ga";rename_i l0 H0 n0 S0 e0;refine zAY (λσ' C o H'=>σ'=[some (.str (vk s0)),some x1,some (.ref l0),some .bY,none]/\C=.ref a.c6/\ah H H'/\iU ra rb xs) ?_ ?_
 . rcases hs with rfl | rfl
   . k_few
     refine jT _ _ true (by rw[wP];decide) ?_;o_head zAS (hw.by S0) ok (λz H' S=>⟨rfl,rfl,S0.trans S,z⟩) (λes n w v H' P S hv=>?_);o_head de (by simp) (λl2 H2 n2 S2 e2=>?_);k_few;exact q es n w (.ref l2) H2 P (S0.trans (S.trans S2)) (cb.mpr ⟨l2,_,rfl,.of e2,.cons (hv.by S2) .nil⟩)
   . k_few
     refine jT _ _ false (by rw[wP];decide) ?_;o_head OU (hw.by S0) ok (λz H' S=>⟨rfl,rfl,S0.trans S,z⟩) (λl H' es n w P hn S hv=>?_);o_head de (by simp) (λl2 H2 n2 S2 e2=>?_);k_few;exact q es n w (.ref l2) H2 P (S0.trans (S.trans S2)) (cb.mpr ⟨l2,_,rfl,.of e2,.cons (hv.by S2) .nil⟩)
 . rintro σ' C o H' ⟨rfl,rfl,S1,z⟩
   refine⟨T.YJ,λex hex=>?_⟩;k_few;intro hex2;have Sx:ah H' (upd H' ex (ji ex (.ref a.c6))):=ah.upd hex2;have ee:(upd H' ex (ji ex (.ref a.c6))) ex=some (ji ex (.ref a.c6)):=cW;generalize upd H' ex (ji ex (.ref a.c6))=H1 at *;k_few
   . rename_i z
     exact absurd z (by simp)
   refine lF (by simp) (λtp H2 n2 S2 e2=>?_);k_few
   refine Uu (cs:=[a.oZ,a.oS,a.pe,a.oX,a.eG]) (S2 _ _ ee) T.oV (.of e2) (λc hc=>by
     simp only[wR,VJ,or_false]at hc;rcases hc with rfl | rfl | rfl | rfl | rfl<;>wtm_at "kit") ?_
   o_head lF (by simp) (λtq H3 n3 S3 e3=>?_);have ee3:=S3 _ _ (S2 _ _ ee);k_few
   refine Uu (cs:=[a.oU,a.oY,a.pb]) ee3 T.oV (.of e3) (λc hc=>by
     simp only[wR,VJ,or_false]at hc;rcases hc with rfl | rfl | rfl<;>wtm_at "kit") ?_
   o_head zw9 ee3 T.oV T.GB ?_;o_head ZK ee3 T.oV T.Jc ?_;o_head de (by simp) (λl4 H4 n4 S4 e4=>?_);exact qe z (.ref l4) H4 (S1.trans (Sx.trans (S2.trans (S3.trans S4)))) (cb.mpr ⟨l4,[],rfl,.of e4,.nil⟩)
def Lh(K:wa):Sp:=λvs H Q _=>∃x0 x1 x2,vs=[x0,x1,x2] /\ ∃(p:we)(k m:Int)(ra rb:Rat),x0=.ref p/\x2=.int m/\Is K H x1 (R ra rb)/\aS ra rb/\cQ H p k/\k<=900/\3<=m/\m<=8 /\ ∀(l:we)(H':Hp)(us:List V)(xs:List Rat),H l=none->Exc p H H'->bK H H'->cQ H' p (k+13)->H' l=some (.lst us)->aj K H' us (xs.map N)->1<=xs.length->(xs.length:Int)<=m->(∀x∈xs,eJ x)->Q (.ref l) H'
theorem zq3{k m:Int}(ir:Is K H v (R ra rb))(ok:aS ra rb)(h:cQ H p k)(hk:k<=900)(h1:3<=m)(h8:m<=8)(q:∀(l:we)(H':Hp)(us:List V)(xs:List Rat),H l=none->Exc p H H'->bK H H'->cQ H' p (k+13)->H' l=some (.lst us)->aj K H' us (xs.map N)->1<=xs.length->(xs.length:Int)<=m->(∀x∈xs,eJ x)->Q (.ref l) H'):Lh K [.ref p,v,.int m] H Q E:=⟨_,_,_,rfl,p,k,m,ra,rb,rfl,rfl,ir,ok,h,hk,h1,h8,q⟩
theorem zAR(h1:1<=n)(h3:n<=3):cS (vn n (1:Int)):=by
 have:n=1\/n=2\/n=3:=by lia
 rcases this with rfl | rfl | rfl
 ·exact⟨by decide,by decide,by decide,by decide⟩
 ·exact⟨by decide,by decide,by decide,by decide⟩
 ·exact⟨by decide,by decide,by decide,by decide⟩
theorem zxO(h0:¬ x.num<0)(h1:¬ (x.den:Int)<=x.num)(h2:¬ (60:Int)<(x.den:Int)):eJ x:=by
 have:=O4 (r:=x.num) (u:=(x.den:Int)) (by lia) (by lia) (by lia);rw[Vn]at this;exact this
theorem zrg(T:Txt K mg a):aK P w K mg base aR 6 a.I_ a.HF x_ (Lh K):=by
 refine T.Ic.F.ok tJ ?_ ?_;wtm_at "b3"
 refine⟨_,(ao (az 3 tJ.nd (ar (zji T) hr T.Gz (ae (pv 0) (ae (pv 2) af))))
     (ao (bL (PW.pt (fz (bD nJ (ar (gv T) hr T.fI (ae (pv 0) (ae ay af))) ay (aU _)) (ig (bD (show aH _ (wH .Eq) (cn K)from cV hu) (au (pv 1)) (aW (ae ay (ae ay af))) (aU _))))) (av (aB (pv 3))) bN)
     (ao (az 4 tJ.nd (aD cB (ar (Bi T) hr T.sL (ae (pv 1) (ae (aD (show aH _ (WG .Mult) mV from Fi) (cJ (ae ay af)) (aD cB ay (ar (gv T) hr T.fI (ae (pv 0) (ae ay af))))) af))) (cJ (ae (aW (ae ay (ae ay af))) af))))
     (ao (fc vg rfl (fA (pv 4)) (aZ (i:=5) tJ.nd rfl (Or.inl rfl)) (av (bL (PW.pt (fz (bD ku (au (pv 5)) ay (aU _)) (fz (bD ye (au (pv 5)) (au (pv 5)) (aU _)) (ig (bD nJ (au (pv 5)) ay (aU _)))))) (av (aB (pv 3))) bN)))
     (av (aB (pv 4))))))),?_⟩
 wtm_at "cl";rw[show start Rj [x0,x1,x2]=[some x0,some x1,some x2,none,none,none]from rfl];obtain⟨p,k,m,ra,rb,rfl,rfl,ir,ok,hp,hk,h3,h8,q⟩:=h;o_head zjj hp (by lia) (by lia) (by lia) (λl1 H1 us1 xs1 n1 E1 K1 P1 e1 t1 a1 b1 ph1=>?_);have ne1:l1≠p:=cQ.ne n1 hp;k_few
 . rename_i d H2 d0 d1 E2 K2 P2 z
   exact q l1 H2 us1 xs1 n1 (E1.trans E2) (K1.trans K2) (P2.le (by lia)) (E2.at ne1 e1) (aj.keep K2 _ _ (d4 _) t1) a1 b1 ph1
 . rename_i d H2 d0 d1 E2 K2 P2 z va ia
   have e2:=E2.at ne1 e1;have t2:aj K H2 us1 (xs1.map N):=aj.keep K2 _ _ (d4 _) t1;have ir2:=(ir.mR K1).mR K2;have EA:=E1.trans E2;have KA:=K1.trans K2;clear E1 K1 P1 e1 t1 E2 K2 ir;refine dm (r:=1) rfl rfl (λv3 H3 S3 i3=>?_);refine C7 (ia.by S3) i3 ⟨_,rfl,?_⟩
   by_cases za:ra=1
   . rw[decide_eq_true za,if_pos rfl]
     k_few;exact q l1 H3 us1 xs1 n1 (EA.trans S3.exc) (KA.trans S3.keep) ((P2.same S3).le (by lia)) (S3 _ _ e2) (aj.same S3 _ _ t2) a1 b1 ph1
   . rw[decide_eq_false za,if_neg (by decide)]
     o_head de (by simp) (λl4 H4 n4 S4 e4=>?_);have P4:=(P2.same S3).same S4;k_few;rename_i r H5 r0 r1 E5 K5 P5;have ne4:l4≠p:=cQ.ne n4 (P2.same S3);refine Gu (E5.at ne4 e4) (by lia) (by lia) (λl6 H6 n6 S6 e6=>?_);obtain⟨n,hn⟩:∃n:Nat,2+r=(n:Int):=⟨(2+r).toNat,by lia⟩;rw[hn,wD]at e6;have e6:H6 l6=some (.lst ((vn n (1:Int)).map V.int)):=by rw[Xf];exact e6
     have S34:=S3.trans S4;have KB:=KA.trans (S34.keep.trans (K5.trans S6.keep));have EB:=EA.trans (S34.exc.trans (E5.trans S6.exc));have P6:=P5.same S6;have eB:H6 l1=some (.lst us1):=S6 _ _ (E5.at ne1 (S34 _ _ e2));have tB:aj K H6 us1 (xs1.map N):=aj.keep (S34.keep.trans (K5.trans S6.keep)) _ _ (d4 _) t2;have irB:=ir2.mR (S34.keep.trans (K5.trans S6.keep));clear S3 S4 S34 E5 K5 S6 e2 t2 ir2 EA KA P2 P4 P5 e4 i3 ia n4 ne4 n6;o_head B0 irB (.of e6) ok (zAR (by lia) (by lia)) za (λl7 H7 us7 n7 S7 e7 t7=>?_);have hsl:(cc ra rb (vn n (1:Int))).length=n-1:=by rw[lO (by rw[WC];lia),WC]
     have hul:=t7.length;rw[wm,hsl]at hul;generalize cc ra rb (vn n (1:Int))=ys at *;o_head dm (r:=0) rfl rfl (λv8 H8 S8 i8=>?_);o_head de (by simp) (λl9 H9 n9 S9 e9=>?_);refine jH (S9 _ _ (S8 _ _ e7)) e9 (WB (gj (by simp;lia))) (λl10 H10 n10 S10 e10=>?_);have S710:=S8.trans (S9.trans S10);have t10:aj K H10 (us7++[v8]) ((ys++[0]).map N):=CL (aj.same S710 _ _ t7) (i8.by (S9.trans S10));have SC:=S7.trans S710;have hn10:H6 l10=none:=ft (S7.trans (S8.trans S9)) n10
     have hnl:H l10=none:=by
       have ne:l10≠p:=cQ.ne hn10 P6;cases e:H l10 with
       | none=>rfl
       | some o=>rw[EB l10 o ne e]at hn10;cases hn10
     clear S7 S8 S9 S10 S710 t7 i8 n7 n9 n10 e7 e9;o_head rJ (.of e10) (λi σ H'=>∃o,σ = [some (.ref p),some x1,some (.int m),some (.ref l1),some (.ref l10),o]/\H'=H10 /\ ∀j,j<i->eJ ((ys++[0]).getD j 0)) ⟨_,rfl,rfl,λj hj=>by lia⟩ (λi σ H' _ h=>by obtain⟨_,_,rfl,_⟩:=h;exact .of e10) ?_ ?_
     . rintro i x σ H' hx ⟨o,rfl,rfl,hj⟩
       obtain⟨hi,ix⟩:=cq t10 hx;k_few
       . exact q l1 H' us1 xs1 n1 (EB.trans SC.exc) (KB.trans SC.keep) ((P6.same SC).le (by lia)) (SC _ _ eB) (aj.same SC _ _ tB) a1 b1 ph1
       . exact q l1 H' us1 xs1 n1 (EB.trans SC.exc) (KB.trans SC.keep) ((P6.same SC).le (by lia)) (SC _ _ eB) (aj.same SC _ _ tB) a1 b1 ph1
       . exact q l1 H' us1 xs1 n1 (EB.trans SC.exc) (KB.trans SC.keep) ((P6.same SC).le (by lia)) (SC _ _ eB) (aj.same SC _ _ tB) a1 b1 ph1
       . rename_i z1 z2 z3
         refine⟨_,rfl,rfl,λj hj'=>?_⟩;rcases wG j i with y | y
         . exact hj j y
         . have:j=i:=by lia
           subst this;exact zxO z1 z2 z3
     . rintro σ H' ⟨o,rfl,rfl,hj⟩
       k_few;have hyl:(ys++[0]).length=n:=by simp[hsl];lia
       refine q l10 H' _ (ys++[0]) hnl (EB.trans SC.exc) (KB.trans SC.keep) ((P6.same SC).le (by lia)) e10 t10 (by lia) (by lia) (λy hy=>?_);obtain⟨j,hj',e⟩:=vj hy;have:=hj j (by simp;lia);rw[wb,wc hj']at this;rw[<- e];exact this
theorem PN(w:PySem.Str):wP (.str w) (.str w)=true:=by rw[wP];simp
theorem Mc(w:String)(n:Nat):Sh 2 (kn w n):=sC (pF ⟨by simp[vF,C5],by simp[WL]⟩ (F5 _))
theorem Nx(w:String)(n:Nat):wP (kn w n) (kn w n)=true:=zCZ (pF (PN _) (by rw[wP];simp))
theorem Br :wP (.list []) (.list [])=true:=OQ λd hd=>by cases hd
def OC(K:wa):Sp:=λvs H Q _=>∃x0 x1,vs=[x0,x1] /\ ∃(a b:Rat)(xs:List Rat),Is K H x0 (R a b)/\Is K H x1 (TN xs)/\aS a b/\1<=xs.length/\xs.length<=4/\(∀x∈xs,eJ x) /\ ∀H',ah H H'->Q (.bl true) H'
theorem zF{a:Rat}{w:V}(h:Is K H v (R a b))(k:Is K H w (TN xs))(ok:aS a b)(h1:1<=xs.length)(h4:xs.length<=4)(ph:∀x∈xs,eJ x)(q:∀H',ah H H'->Q (.bl true) H'):OC K [v,w] H Q E:=⟨_,_,rfl,a,b,xs,h,k,ok,h1,h4,ph,q⟩
theorem Uh(T:Txt K mg a):aK P w K mg base aR 16 a.HP a.G2 z7 (OC K):=by
 refine T.AU.F.ok p0 ?_ ?_;wtm_at "b2";have hgd:=hr.gd
 refine⟨_,(ao (az 2 p0.nd (ar (EN T) hr T.sN (ae (pv 0) (ae (pv 1) af))))
     (ao (az 3 p0.nd (ar (ztM T) hr T.Jn (ae (pv 0) (ae (pv 1) af))))
     (ao (az 4 p0.nd (ar (yL T) hr T.oP (ae dX (ae (pv 2) af))))
     (ao (az 5 p0.nd (ar (yL T) hr T.oP (ae dX (ae (pv 2) af))))
     (ao (bL (bD pM (pv 3) fS (aU _)) (av (aB (gB (eK (show aH _ (wH .Eq) (cn K)from cV hu) (pv 4) (cJ af) (aU _)) (jB (eK (show aH _ (wH .Eq) (cn K)from cV hu) (pv 5) (cJ af) (aU _)))))) bN)
     (ao (bL (PW.pt (fz (bD (show aH _ (wH .NotEq) (eC K)from iE hu) (bA (show aE _ (.builtin "len") (cj K)from cX) rfl T.h0Y cY (ae (pv 4) af)) ay (aU _)) (fz (bD (show aH _ (wH .NotEq) (eC K)from iE hu) (bA (show aE _ (.builtin "len") (cj K)from cX) rfl T.h0Y cY (ae (pv 5) af)) ay (aU _)) (fz (dy (cA (bA (show aE _ (.builtin "isinstance") (fX K)from lE) rfl T.h0u gQ (ae (au (pv 4)) (ae (jk (v:=.ty "tuple") rfl T.h0N dY rfl) af))))) (ig (bD (show aH _ (wH .NotEq) (eC K)from iE hu) (bA (show aE _ (.builtin "len") (cj K)from cX) rfl T.h0Y cY (ae (au (pv 4)) af)) ay (aU _))))))) (av (aB hZ)) bN)
     (ao (bL (PW.pt (fz (dy (cA (bA (show aE _ (.builtin "isinstance") (fX K)from lE) rfl T.h0u gQ (ae (au (au (pv 4))) (ae (jk (v:=.ty "str") rfl T.h1f zCl rfl) af))))) (fz (dy (cA (ar (zrG T) hr T.HY (ae (au (au (pv 4))) af)))) (ig (bD (show aH _ (wH .NotEq) (eC K)from iE hu) (au (pv 4)) (pv 3) (aU _)))))) (av (aB hZ)) bN)
     (av (aB (eK (show aH _ (wH .Eq) (cn K)from cV hu) (au (dw cU (au (pv 5)) (iD ic ay) (λ_ _=>rfl))) (au (pv 3)) (aU _))))))))))),?_⟩
 wtm_at "cl";rw[show start Ph [x0,x1]=[some x0,some x1,none,none,none,none]from rfl];obtain⟨ra,rb,xs,hr',hx',rok,h1,h4,ph,q⟩:=h;obtain⟨ok,c47⟩:=c_.of rok h1 (by lia) ph;o_head CP hr' rok (.inr hx') h1 (by lia) ph (λvw H1 S1 iw=>?_);o_head ztI (hr'.by S1) (hx'.by S1) ok c47 h4 (λF H2 S2=>?_) (λes n w vd H2 P S2 id2=>?_)
 . k_few
   refine mC "fate" (.inl rfl) (iw.by S2) ok (λ_ v3 H3 S3 i3=>?_) (λes n w _ _ P _ _=>(nY P F).elim);have T3:=S2.trans S3;o_head mC "paper" (.inr rfl) (iw.by T3) ok (λ_ v4 H4 S4 i4=>?_) (λes n w _ _ P _ _=>(nY P F).elim);o_head de (by simp) (λl5 H5 n5 S5 e5=>?_);o_head kR (i3.by (S4.trans S5)) (cb.mpr ⟨l5,[],rfl,.of e5,.nil⟩) (by decide) (by decide) ?_;rw[Br];o_head de (by simp) (λl6 H6 n6 S6 e6=>?_);refine kR (i4.by (S5.trans S6)) (cb.mpr ⟨l6,[],rfl,.of e6,.nil⟩) (by decide) (by decide) ?_;rw[Br];exact q H6 (S1.trans (T3.trans (S4.trans (S5.trans S6))))
 . k_few
   refine mC "fate" (.inl rfl) (iw.by S2) ok (λF=>(nY P F).elim) (λes' n' w' v3 H3 P' S3 i3=>?_);obtain⟨rfl,rfl,rfl⟩:=FV P P';have i3:Is K H3 v3 (.list [kn w (ak (ai ra rb xs n)).length]):=i3;have T3:=S2.trans S3;o_head mC "paper" (.inr rfl) (iw.by T3) ok (λF=>(nY P F).elim) (λes' n' w' v4 H4 P' S4 i4=>?_);obtain⟨rfl,rfl,rfl⟩:=FV P P';have i4:Is K H4 v4 (.list [.list (rH ra rb xs es n w)]):=i4;have i34:=i3.by S4;have id4:=id2.by (S3.trans S4);have T4:=S1.trans (T3.trans S4);obtain⟨ad,us,rfl,sd,td⟩:=bZ.mp (show Is K H4 vd (.tuple _)from id4);clear S1 S2 S3 S4 T3 i3 id2 iw;k_few
   . rename_i z
     cases z
   refine Ti (n:=1) i34 rfl ?_;k_few
   . rename_i z
     exact absurd rfl z
   refine Ti (n:=1) i4 rfl ?_;k_few
   . rename_i z
     exact absurd rfl z
   refine nG (j:=0) i34 rfl (λv5 i5=>?_);k_few
   . rename_i z
     exact absurd (show true=false from z) (by decide)
   refine nG (j:=0) i34 rfl (λv6 i6=>?_);o_head mm (show Is K H4 v6 (.tuple _)from i6) ?_;k_few
   . rename_i z
     exact absurd rfl z
   refine nG (j:=0) i34 rfl (λv7 i7=>?_);o_head aF (j:=0) (show Is K H4 v7 (.tuple _)from i7) rfl (λv8 i8=>?_);o_head zyo i8 ⟨_,rfl,?_⟩;rw[show BB (.str (vk w))=true from rfl];o_head nG (j:=0) i34 rfl (λv9 i9=>?_);o_head aF (j:=1) (show Is K H4 v9 (.tuple _)from i9) rfl (λv10 i10=>?_);rw[cw.mp i10];o_head nG (j:=0) i34 rfl (λv11 i11=>?_);o_head zAn i11 id4 (Mc _ _) (by decide) (Nx _ _) ?_;o_head nG (j:=0) i4 rfl (λv12 i12=>?_);o_head rK (show Is K H4 v12 (.list (_++[_]))from i12) (λv13 i13=>?_);o_head aF (j:=2) (show Is K H4 v13 (.tuple _)from i13) rfl (λv14 i14=>?_);o_head aF (j:=0) (show Is K H4 (.ref ad) (.tuple _)from id4) rfl (λv15 i15=>?_);o_head zJ i14 i15 (n:=1) ⟨by simp[vF,C5],by simp[WL]⟩ (by decide) (PN _) ?_;exact q H4 T4
def uZ(K:wa):Sp:=λvs H Q _=>∃x0,vs=[x0] /\ ∃(a:we)(ns:List Int),x0=.ref a/\iM K H a (ns.map V.int)/\ns.length<=63 /\ ∀H',Q (.bl true) H'
theorem ZD(a b:Rat)(xs:List Rat)(es:List (Nat × Nat × Nat))(n:Nat)(w:String):wP (rY a b xs "fate" es n w) (rY a b xs "fate" es n w)=true:=OQ λd hd=>by
 rw[wX.mp hd,if_pos rfl];exact Nx _ _
theorem zxd(a b:Rat)(xs:List Rat)(es:List (Nat × Nat × Nat))(n:Nat)(w:String):Sh 3 (rY a b xs "fate" es n w):=C2 λd hd=>by
 rw[wX.mp hd,if_pos rfl];exact Mc _ _
theorem zCN(T:Txt K mg a):aK P w K mg base aR 17 a.law a.Ke zA (uZ K):=by
 refine T.Y6.F.ok mj ?_ ?_;wtm_at "b1"
 refine⟨_,(ao (az 1 mj.nd (ar (Rb T) hr T.AO (ae (ar (EZ T) hr T.sP (ae (pv 0) (ae ay af))) af)))
     (ao (az 2 mj.nd (di (show aE _ (.type "tuple") (dQ K)from eZ) rfl T.h0N dY (ae (ar (zrg T) hr T.Ic (ae (ar (EZ T) hr T.sP (ae (pv 0) (ae ay af))) (ae (pv 1) (ae ay af)))) af)))
     (ao (az 3 mj.nd (ar (EN T) hr T.sN (ae (pv 1) (ae (pv 2) af))))
     (ao (az 4 mj.nd (ar (Rb T) hr T.AO (ae (ar (EZ T) hr T.sP (ae (pv 0) (ae ay af))) af)))
     (ao (az 5 mj.nd (ar (EN T) hr T.sN (ae (pv 4) (ae (pv 2) af))))
     (ao (az 6 mj.nd (ar (yL T) hr T.oP (ae dX (ae (pv 5) af))))
     (ao (bL (PW.pt (fz (dy (cA (ar (Uh T) hr T.AU (ae (pv 1) (ae (pv 2) af))))) (ig (dy (cA (ar (Uh T) hr T.AU (ae (pv 4) (ae (pv 2) af)))))))) (av (aB hZ)) bN)
     (av (aB (gB (eK (show aH _ (wH .Eq) (cn K)from cV hu) (ar (yL T) hr T.oP (ae dX (ae (pv 5) af))) (pv 6) (aU _)) (jB (eK (show aH _ (wH .Eq) (cn K)from cV hu) (pv 3) (aW (ae (pv 1) (ae (pv 2) af))) (aU _))))))))))))),?_⟩
 wtm_at "cl";rw[show start Us [x0]=[some x0,none,none,none,none,none,none]from rfl];obtain⟨a',ns0,rfl,hs,hl,q⟩:=h;o_head Dq hs hl (by decide) (by decide) (λp1 H1 hp1 S1 P1=>?_);o_head Nr P1 (by decide) (λv2 H2 ra rb E2 K2 P2 i2 ok=>?_);have KA:bK H H2:=S1.keep.trans K2;o_head Dq (KA.Cf hs) hl (by decide) (by decide) (λp3 H3 hp3 S3 P3=>?_);o_head zq3 (i2.by S3) ok P3 (by decide) (by decide) (by decide) (λl4 H4 us4 xs n4 E4 K4 P4 e4 t4 a4 b4 ph4=>?_);have i4:=i2.mR (S3.keep.trans K4);have KB:=KA.trans (S3.keep.trans K4);o_head gE (b_ e4 t4) (λvx H5 S5 ix=>?_);have i5:=i4.by S5;have KC:=KB.trans S5.keep;have h4:xs.length<=4:=by lia
 clear i2 i4 S1 S3 P1 P2 P3 P4 E2 K2 E4 K4 e4 t4 n4 hp1 hp3 KA KB S5;o_head CP i5 ok (.inr ix) a4 (by lia) ph4 (λvw H6 S6 iw=>?_);have i6:=i5.by S6;have ix6:=ix.by S6;have KD:=KC.trans S6.keep;clear i5 ix S6 KC;o_head Dq (KD.Cf hs) hl (by decide) (by decide) (λp7 H7 hp7 S7 P7=>?_);o_head Nr P7 (by decide) (λv8 H8 ra2 rb2 E8 K8 P8 i8 ok2=>?_);have KE:=S7.keep.trans K8;have i68:=i6.mR KE;have ix8:=ix6.g6 KE (lP _);have iw8:=iw.g6 KE (LG _ _ _);clear i6 ix6 iw S7 K8 E8 P7 P8 hp7 KE KD;o_head CP i8 ok2 (.inr ix8) a4 (by lia) ph4 (λvo H9 S9 io=>?_);obtain⟨bg2,_⟩:=c_.of ok2 a4 (by lia) ph4;o_head mC "fate" (.inl rfl) io bg2 (λF v10 H10 S10 i10=>?_) (λes n w v10 H10 P S10 i10=>?_)
 . have T10:=S9.trans S10
   o_head zF (i68.by T10) (ix8.by T10) ok a4 h4 ph4 (λH11 S11=>⟨_,rfl,?_⟩);have T11:=T10.trans S11;o_head zF (i8.by T11) (ix8.by T11) ok2 a4 h4 ph4 (λH12 S12=>⟨_,rfl,?_⟩);have T12:=T11.trans S12;o_head mC "fate" (.inl rfl) (io.by (S10.trans (S11.trans S12))) bg2 (λ_ v13 H13 S13 i13=>?_) (λes n w _ _ P _ _=>(nY P F).elim);o_head kR i13 (i10.by (S11.trans (S12.trans S13))) (by decide) (by decide) ?_;rw[Br];o_head cR (ds:=[R ra rb,TN xs]) (by simp) (.cons (i68.by (T12.trans S13)) (.cons (ix8.by (T12.trans S13)) .nil)) (λv14 H14 S14 i14=>?_);refine zJ (iw8.by (T12.trans (S13.trans S14))) (show Is K H14 v14 (bM ra rb xs)from i14) (Nj _ _ _) (by decide) (UU _ _ _) ?_;exact q _
 . have T10:=S9.trans S10
   o_head zF (i68.by T10) (ix8.by T10) ok a4 h4 ph4 (λH11 S11=>⟨_,rfl,?_⟩);have T11:=T10.trans S11;o_head zF (i8.by T11) (ix8.by T11) ok2 a4 h4 ph4 (λH12 S12=>⟨_,rfl,?_⟩);have T12:=T11.trans S12;o_head mC "fate" (.inl rfl) (io.by (S10.trans (S11.trans S12))) bg2 (λF=>(nY P F).elim) (λes' n' w' v13 H13 P' S13 i13=>?_);obtain⟨rfl,rfl,rfl⟩:=FV P P';o_head zJ i13 (i10.by (S11.trans (S12.trans S13))) (zxd _ _ _ _ _ _) (by decide) (ZD _ _ _ _ _ _) ?_;o_head cR (ds:=[R ra rb,TN xs]) (by simp) (.cons (i68.by (T12.trans S13)) (.cons (ix8.by (T12.trans S13)) .nil)) (λv14 H14 S14 i14=>?_);refine zJ (iw8.by (T12.trans (S13.trans S14))) (show Is K H14 v14 (bM ra rb xs)from i14) (Nj _ _ _) (by decide) (UU _ _ _) ?_;exact q _
end
variable{us:List wf}
theorem MC(h:us.length=1):∃a,us=[a]:=by
 cases us with
 | nil=>cases h
 | cons a t=>exact⟨a,by rw[qI.mp (QR h)]⟩
theorem KY(h:us.length=2):∃a0 a1,us=[a0,a1]:=by
 cases us with
 | nil=>cases h
 | cons a0 t =>
  obtain⟨a1,e⟩:=MC (QR h);exact⟨a0,a1,by rw[e]⟩
theorem UJ(h:us.length=3):∃a0 a1 a2,us=[a0,a1,a2]:=by
 cases us with
 | nil=>cases h
 | cons a0 t =>
  obtain⟨a1,a2,e⟩:=KY (QR h);exact⟨a0,a1,a2,by rw[e]⟩
theorem zDA(h:us.length=4):∃a0 a1 a2 a3,us=[a0,a1,a2,a3]:=by
 cases us with
 | nil=>cases h
 | cons a0 t =>
  obtain⟨a1,a2,a3,e⟩:=UJ (QR h);exact⟨a0,a1,a2,a3,by rw[e]⟩
inductive aO(K:wa)(n:Str)(st:wZ)(f:we):Prop
 | mk {od an:Option we} {sl:Array (Option wf)} {oc kV dc pm cd ct:wf} (a:w8 K wK n=some (some (.ref f))) (l:K.lookup f=some ⟨oc,od,.func (VE n n (nC st) (kS st) (aJ st) .none kV dc pm an cd ct),sl⟩) (c:Qe K cd n=true) (k:qE K (.ref f)=true):aO K n st f
theorem aO.dn{K:wa}{h:wM}{mg:Str->Option wf}{n:Str}{st:wZ}{f:we}{ps:List Str}(A:aO K n st f)(X:K.In h)(GN:h.Ns wK mg)
  (b:∀(kV doc pm:wf)(an:Option we)(cdv ct:wf)(us:List wf),us.length=ps.length->bindArgs (VE n n (nC st) (kS st) (aJ st) .none kV doc pm an cdv ct) ⟨us,[]⟩=pure (ps.zip us):=by wtm_at "bd"):∃fd,Dn K mg n st ps f fd:=by
 obtain⟨a,l,c,k⟩:=A;have F:=U5 (st:=st) l c k;exact⟨_,F,vL X GN a,F.binds b⟩
set_option hygiene false in
local macro_rules | `(tactic| wtm_at "bd")=>`(tactic| (intro _ _ _ _ _ _ us hl; first | (obtain ⟨_,rfl⟩:=MC hl; rfl) | (obtain ⟨_,_,rfl⟩:=KY hl; rfl) | (obtain ⟨_,_,_,rfl⟩:=UJ hl; rfl) | (obtain ⟨_,_,_,_,rfl⟩:=zDA hl; rfl)))
set_option maxHeartbeats 8000000 in
theorem all_mk{l:Q0}{w:wO}{K:wa}{h:wM}{mg:Str->Option wf}{fa:we}(X:K.In h)(G:h.Ns wK mg)(hfa:mg "law"=some (.ref fa))
  {f0 f1 f2 f3 f4 f5 f6 f7 f8 f9 f10 f11 f12 f13 f14 f15 f16 f17 f18 f19 f20 f21 f22 f23 f24 f25 f26 f27 f28 f29 f30 f31 f32 f33 f34 f35 f36 f37 f38 f39 f40 f41 f42 f43 f44 f45 f46 f47 f48 f49 f50 f51 f52 f53 f54 f55 f56 f57 f58 f59 f60 f61 f62 f63 f64 f65 f66 f67 f68 f69 f70 f71 f72 f73 f74 f75 f76 f77 f78 f79:we}
  {e0:we}
  {e1:we}
  {e2:we}
  {e3:we}
  {e4:we}
  {e5:we}
  {e6:we}
  {e7:we}
  {e8:we}
  {e9:we}
  {g0:we} {gn0:Nat} {gd0:Option we} {gs0:Array (Option wf)} {tk0_0 tk0_1:Tok}
  {g1:we} {gn1:Nat} {gd1:Option we} {gs1:Array (Option wf)} {tk1_0 tk1_1:Tok}
  {g2:we} {gn2:Nat} {gd2:Option we} {gs2:Array (Option wf)} {tk2_0 tk2_1:Tok}
  {tk3:Tok}
  {tk4:Tok}
  {tk5:Tok}
  {tk6:Tok}
  {tk7:Tok}
  (a0:aO K "is_whole" C8 f0)
  (a1:aO K "greatest_divisor" Ds f1)
  (a2:aO K "is_number" CA f2)
  (a3:aO K "plus" Bu f3)
  (a4:aO K "minus" BH f4)
  (a5:aO K "times" FC f5)
  (a6:aO K "over" F_ f6)
  (a7:aO K "less" FE f7)
  (a8:aO K "is_factor" Bt f8)
  (a9:aO K "is_shift" CZ f9)
  (a10:aO K "make_rule" Gk f10)
  (a11:aO K "is_rule" Bn f11)
  (a12:aO K "bend" Cn f12)
  (a13:aO K "pushes" Ge f13)
  (a14:aO K "pushed_by" BZ f14)
  (a15:aO K "is_phase" Fw f15)
  (a16:aO K "are_phases" Cc f16)
  (a17:aO K "swarm_of" De f17)
  (a18:aO K "greatest" D_ f18)
  (a19:aO K "worms_at" Fh f19)
  (a20:aO K "flocks" Ee f20)
  (a21:aO K "at_the_end" Ej f21)
  (a22:aO K "glow" Ey f22)
  (a23:aO K "history" Du f23)
  (a24:aO K "behind" Gm f24)
  (a25:aO K "is_laid" Bo f25)
  (a26:aO K "laid" B3 f26)
  (a27:aO K "phases_behind" Eg f27)
  (a28:aO K "stands" Cq f28)
  (a29:aO K "round_behind" Gb f29)
  (a30:aO K "round_time" EF f30)
  (a31:aO K "tops" Ca f31)
  (a32:aO K "is_free" DW f32)
  (a33:aO K "round_map" Dw f33)
  (a34:aO K "still" B7 f34)
  (a35:aO K "weighed" BI f35)
  (a36:aO K "led_on" Fz f36)
  (a37:aO K "rounds_behind" FX f37)
  (a38:aO K "sums_of_places" DP f38)
  (a39:aO K "rounds_time" BN f39)
  (a40:aO K "draws_freely" EK f40)
  (a41:aO K "stays_free" Dk f41)
  (a42:aO K "free_rounds" Fo f42)
  (a43:aO K "behind_rounds" Bp f43)
  (a44:aO K "behind_row" BX f44)
  (a45:aO K "word_of" FA f45)
  (a46:aO K "glows_to_join" Bl f46)
  (a47:aO K "next_row" Ex f47)
  (a48:aO K "paper_of" CF f48)
  (a49:aO K "fate" C4 f49)
  (a50:aO K "_law_cell" CV f50)
  (a51:aO K "_law_pen" Cv f51)
  (a52:aO K "_law_draw" Fv f52)
  (a53:aO K "_law_low" Fe f53)
  (a54:aO K "_law_sum" DF f54)
  (a55:aO K "_law_rest" Dt f55)
  (a56:aO K "_law_product" ER f56)
  (a57:aO K "_law_part" Gp f57)
  (a58:aO K "_law_below" Dy f58)
  (a59:aO K "_law_whole" Cr f59)
  (a60:aO K "_law_drawn_rule" DJ f60)
  (a61:aO K "_law_pushes" Df f61)
  (a62:aO K "_law_round" FD f62)
  (a63:aO K "_law_power" Fg f63)
  (a64:aO K "_law_rests" Fq f64)
  (a65:aO K "_law_behind" B_ f65)
  (a66:aO K "_law_free" Fc f66)
  (a67:aO K "_law_all" CQ f67)
  (a68:aO K "_law_drawn_phases" Di f68)
  (a69:aO K "_law_high" Gi f69)
  (a70:aO K "_law_placed" Cs f70)
  (a71:aO K "_law_glow" DU f71)
  (a72:aO K "_law_laid" C0 f72)
  (a73:aO K "_law_word" FQ f73)
  (a74:aO K "_law_joined" DE f74)
  (a75:aO K "_law_due" En f75)
  (a76:aO K "_law_heard" BA f76)
  (a77:aO K "_law_start" Fj f77)
  (a78:aO K "_law_told_so" Ft f78)
  (a79:aO K "law" zh f79)
  (h0I:w8 K wK "NoStand"=some (some (.ref e0)))
  (h0H:w8 K wK "TooLong"=some (some (.ref e1)))
  (h0O:w8 K wK "NoWeb"=some (some (.ref e2)))
  (h0K:w8 K wK "NoText"=some (some (.ref e3)))
  (h0G:w8 K wK "NoSwarm"=some (some (.ref e4)))
  (h0J:w8 K wK "NoRule"=some (some (.ref e5)))
  (h0M:w8 K wK "NoRow"=some (some (.ref e6)))
  (h0F:w8 K wK "NoNumber"=some (some (.ref e7)))
  (h0L:w8 K wK "NoBack"=some (some (.ref e8)))
  (h0z:w8 K wK "GlowError"=some (some (.ref e9)))
  (h0t:w8 K wK "ValueError"=some none)
  (h1g:w8 K wK "abs"=some none)
  (h0X:w8 K wK "all"=some none)
  (h0U:w8 K wK "any"=some none)
  (h0R:w8 K wK "bool"=some none)
  (h0S:w8 K wK "dict"=some none)
  (h0w:w8 K wK "enumerate"=some none)
  (h0T:w8 K wK "int"=some none)
  (h0u:w8 K wK "isinstance"=some none)
  (h0Y:w8 K wK "len"=some none)
  (h0Q:w8 K wK "list"=some none)
  (h0W:w8 K wK "min"=some none)
  (h0P:w8 K wK "range"=some none)
  (h1f:w8 K wK "str"=some none)
  (h0V:w8 K wK "sum"=some none)
  (h0N:w8 K wK "tuple"=some none)
  (h0Z:w8 K wK "zip"=some none)
  (h0C:VP K e0 pI "ValueError.__new__"=true)
  (h0E:V8 K (.ref e0) (.ref e9)=some true)
  (h0D:gI K e0)
  (h0g:wE K (.ref e0) (.ref e0)=some true)
  (h0f:wE K (.ref e0) (.ref e1)=some false)
  (h0p:wE K (.ref e0) (.ref e2)=some false)
  (h0o:wE K (.ref e0) (.ref e3)=some false)
  (h0d:wE K (.ref e0) (.ref e4)=some false)
  (h0k:wE K (.ref e0) (.ref e5)=some false)
  (h0r:wE K (.ref e0) (.ref e6)=some false)
  (h0b:wE K (.ref e0) (.ref e7)=some false)
  (h0l:wE K (.ref e0) (.ref e8)=some false)
  (h0A:wE K (.ref e0) (.type "ValueError")=some true)
  (h0B:VP K e1 pI "ValueError.__new__"=true)
  (h0v:V8 K (.ref e1) (.ref e9)=some true)
  (h0x:gI K e1)
  (h0c:wE K (.ref e1) (.ref e0)=some false)
  (h0e:wE K (.ref e1) (.ref e1)=some true)
  (h0q:wE K (.ref e1) (.ref e2)=some false)
  (h0n:wE K (.ref e1) (.ref e3)=some false)
  (h0h:wE K (.ref e1) (.ref e4)=some false)
  (h0m:wE K (.ref e1) (.ref e5)=some false)
  (h0s:wE K (.ref e1) (.ref e6)=some false)
  (h0a:wE K (.ref e1) (.ref e7)=some false)
  (h0j:wE K (.ref e1) (.ref e8)=some false)
  (h0y:wE K (.ref e1) (.type "ValueError")=some true)
  (q0:w8 K wK "NOUGHT"=some (some (.ref g0)))
  (r0:K.lookup g0=some ⟨.type "tuple",gd0,.seq #[.int 0 tk0_0,.int 1 tk0_1] gn0,gs0⟩)
  (q1:w8 K wK "ONE"=some (some (.ref g1)))
  (r1:K.lookup g1=some ⟨.type "tuple",gd1,.seq #[.int 1 tk1_0,.int 1 tk1_1] gn1,gs1⟩)
  (q2:w8 K wK "GREATEST_FACTOR"=some (some (.ref g2)))
  (r2:K.lookup g2=some ⟨.type "tuple",gd2,.seq #[.int 4 tk2_0,.int 1 tk2_1] gn2,gs2⟩)
  (q3:w8 K wK "FACTOR_BOTTOM"=some (some (.int 8 tk3)))
  (q4:w8 K wK "SHIFT_BOTTOM"=some (some (.int 12 tk4)))
  (q5:w8 K wK "MOST_WORMS"=some (some (.int 8 tk5)))
  (q6:w8 K wK "PHASE_BOTTOM"=some (some (.int 60 tk6)))
  (q7:w8 K wK "MOST_FREE"=some (some (.int 30 tk7)))
  : ∃fd:wy,(∀(s:wl)(v:wf),BindsTo s fd ⟨[v],[]⟩ [("_law_script",v)]) /\ ∀base:wM,K.In base->base.Ns wK mg->aK l.prog w K mg base aR 17 fa fd ["_law_script"] (uZ K):=by
 obtain⟨aL,lL,cL,kL⟩:=a79;cases hfa.symm.trans (vL X G aL);have FL:=U5 (st:=zh) lL cL kL;have D79:Dn K mg _ _ zA _ _:=⟨FL,vL X G aL,FL.binds (by wtm_at "bd")⟩;have⟨_,D0⟩:=a0.dn (ps:=zd) X G;have⟨_,D1⟩:=a1.dn (ps:=Ak) X G;have⟨_,D2⟩:=a2.dn (ps:=yI) X G;have⟨_,D3⟩:=a3.dn (ps:=AG) X G;have⟨_,D4⟩:=a4.dn (ps:=tY) X G;have⟨_,D5⟩:=a5.dn (ps:=tI) X G;have⟨_,D6⟩:=a6.dn (ps:=v_) X G;have⟨_,D7⟩:=a7.dn (ps:=zg) X G;have⟨_,D8⟩:=a8.dn (ps:=zP) X G;have⟨_,D9⟩:=a9.dn (ps:=Ar) X G;have⟨_,D10⟩:=a10.dn (ps:=yA) X G;have⟨_,D11⟩:=a11.dn (ps:=yb) X G;have⟨_,D12⟩:=a12.dn (ps:=ym) X G;have⟨_,D13⟩:=a13.dn (ps:=Au) X G;have⟨_,D14⟩:=a14.dn (ps:=z_) X G;have⟨_,D15⟩:=a15.dn (ps:=u0) X G;have⟨_,D16⟩:=a16.dn (ps:=zK) X G;have⟨_,D17⟩:=a17.dn (ps:=tR) X G;have⟨_,D18⟩:=a18.dn (ps:=AH) X G;have⟨_,D19⟩:=a19.dn (ps:=yP) X G;have⟨_,D20⟩:=a20.dn (ps:=yp) X G;have⟨_,D21⟩:=a21.dn (ps:=tQ) X G;have⟨_,D22⟩:=a22.dn (ps:=Al) X G;have⟨_,D23⟩:=a23.dn (ps:=yY) X G;have⟨_,D24⟩:=a24.dn (ps:=yT) X G;have⟨_,D25⟩:=a25.dn (ps:=zm) X G;have⟨_,D26⟩:=a26.dn (ps:=Ay) X G;have⟨_,D27⟩:=a27.dn (ps:=zt) X G;have⟨_,D28⟩:=a28.dn (ps:=y7) X G;have⟨_,D29⟩:=a29.dn (ps:=yj) X G;have⟨_,D30⟩:=a30.dn (ps:=zQ) X G;have⟨_,D31⟩:=a31.dn (ps:=AJ) X G;have⟨_,D32⟩:=a32.dn (ps:=yt) X G;have⟨_,D33⟩:=a33.dn (ps:=u9) X G;have⟨_,D34⟩:=a34.dn (ps:=yo) X G;have⟨_,D35⟩:=a35.dn (ps:=yQ) X G;have⟨_,D36⟩:=a36.dn (ps:=zS) X G;have⟨_,D37⟩:=a37.dn (ps:=Ap) X G;have⟨_,D38⟩:=a38.dn (ps:=Aq) X G
 have⟨_,D39⟩:=a39.dn (ps:=tM) X G;have⟨_,D40⟩:=a40.dn (ps:=Av) X G;have⟨_,D41⟩:=a41.dn (ps:=Aw) X G;have⟨_,D42⟩:=a42.dn (ps:=yV) X G;have⟨_,D43⟩:=a43.dn (ps:=yd) X G;have⟨_,D44⟩:=a44.dn (ps:=AE) X G;have⟨_,D45⟩:=a45.dn (ps:=zE) X G;have⟨_,D46⟩:=a46.dn (ps:=zH) X G;have⟨_,D47⟩:=a47.dn (ps:=yh) X G;have⟨_,D48⟩:=a48.dn (ps:=AA) X G;have⟨_,D49⟩:=a49.dn (ps:=yy) X G;have⟨_,D50⟩:=a50.dn (ps:=uT) X G;have⟨_,D51⟩:=a51.dn (ps:=tP) X G;have⟨_,D52⟩:=a52.dn (ps:=yf) X G;have⟨_,D53⟩:=a53.dn (ps:=zM) X G;have⟨_,D54⟩:=a54.dn (ps:=yS) X G;have⟨_,D55⟩:=a55.dn (ps:=yX) X G;have⟨_,D56⟩:=a56.dn (ps:=tH) X G;have⟨_,D57⟩:=a57.dn (ps:=Af) X G;have⟨_,D58⟩:=a58.dn (ps:=zY) X G;have⟨_,D59⟩:=a59.dn (ps:=uW) X G;have⟨_,D60⟩:=a60.dn (ps:=AM) X G;have⟨_,D61⟩:=a61.dn (ps:=yn) X G;have⟨_,D62⟩:=a62.dn (ps:=tG) X G;have⟨_,D63⟩:=a63.dn (ps:=uU) X G;have⟨_,D64⟩:=a64.dn (ps:=zI) X G;have⟨_,D65⟩:=a65.dn (ps:=tE) X G;have⟨_,D66⟩:=a66.dn (ps:=yH) X G;have⟨_,D67⟩:=a67.dn (ps:=yU) X G;have⟨_,D68⟩:=a68.dn (ps:=zL) X G;have⟨_,D69⟩:=a69.dn (ps:=yM) X G;have⟨_,D70⟩:=a70.dn (ps:=yg) X G;have⟨_,D71⟩:=a71.dn (ps:=y9) X G;have⟨_,D72⟩:=a72.dn (ps:=uO) X G;have⟨_,D73⟩:=a73.dn (ps:=zZ) X G;have⟨_,D74⟩:=a74.dn (ps:=yF) X G;have⟨_,D75⟩:=a75.dn (ps:=zT) X G;have⟨_,D76⟩:=a76.dn (ps:=tW) X G;have⟨_,D77⟩:=a77.dn (ps:=x_) X G;have⟨_,D78⟩:=a78.dn (ps:=z7) X G
 have T:Txt K mg ⟨f0,_,f1,_,f2,_,f3,_,f4,_,f5,_,f6,_,f7,_,f8,_,f9,_,f10,_,f11,_,f12,_,f13,_,f14,_,f15,_,f16,_,f17,_,f18,_,f19,_,f20,_,f21,_,f22,_,f23,_,f24,_,f25,_,f26,_,f27,_,f28,_,f29,_,f30,_,f31,_,f32,_,f33,_,f34,_,f35,_,f36,_,f37,_,f38,_,f39,_,f40,_,f41,_,f42,_,f43,_,f44,_,f45,_,f46,_,f47,_,f48,_,f49,_,f50,_,f51,_,f52,_,f53,_,f54,_,f55,_,f56,_,f57,_,f58,_,f59,_,f60,_,f61,_,f62,_,f63,_,f64,_,f65,_,f66,_,f67,_,f68,_,f69,_,f70,_,f71,_,f72,_,f73,_,f74,_,f75,_,f76,_,f77,_,f78,_,_,_,e0,e1,e2,e3,e4,e5,e6,e7,e8,e9,g0,g1,g2⟩:=⟨D0,
  D1,
  D2,
  D3,
  D4,
  D5,
  D6,
  D7,
  D8,
  D9,
  D10,
  D11,
  D12,
  D13,
  D14,
  D15,
  D16,
  D17,
  D18,
  D19,
  D20,
  D21,
  D22,
  D23,
  D24,
  D25,
  D26,
  D27,
  D28,
  D29,
  D30,
  D31,
  D32,
  D33,
  D34,
  D35,
  D36,
  D37,
  D38,
  D39,
  D40,
  D41,
  D42,
  D43,
  D44,
  D45,
  D46,
  D47,
  D48,
  D49,
  D50,
  D51,
  D52,
  D53,
  D54,
  D55,
  D56,
  D57,
  D58,
  D59,
  D60,
  D61,
  D62,
  D63,
  D64,
  D65,
  D66,
  D67,
  D68,
  D69,
  D70,
  D71,
  D72,
  D73,
  D74,
  D75,
  D76,
  D77,
  D78,
  D79,
  vB X G h0t,
  vB X G h1g,
  vB X G h0X,
  vB X G h0U,
  vB X G h0R,
  vB X G h0S,
  vB X G h0w,
  vB X G h0T,
  vB X G h0u,
  vB X G h0Y,
  vB X G h0Q,
  vB X G h0W,
  vB X G h0P,
  vB X G h1f,
  vB X G h0V,
  vB X G h0N,
  vB X G h0Z,
  vL X G h0I,
  vL X G h0H,
  vL X G h0O,
  vL X G h0K,
  vL X G h0G,
  vL X G h0J,
  vL X G h0M,
  vL X G h0F,
  vL X G h0L,
  vL X G h0z,
  h0C,
  h0E,
  h0D,
  h0g,
  h0f,
  h0p,
  h0o,
  h0d,
  h0k,
  h0r,
  h0b,
  h0l,
  h0A,
  h0B,
  h0v,
  h0x,
  h0c,
  h0e,
  h0q,
  h0n,
  h0h,
  h0m,
  h0s,
  h0a,
  h0j,
  h0y,
  vL X G q0,
  λH=>.inr ⟨_,_,_,r0,rfl,rfl,by simp;decide,(.cons ⟨_,rfl⟩ (.cons ⟨_,rfl⟩ .nil))⟩,
  vL X G q1,
  λH=>.inr ⟨_,_,_,r1,rfl,rfl,by simp;decide,(.cons ⟨_,rfl⟩ (.cons ⟨_,rfl⟩ .nil))⟩,
  vL X G q2,
  λH=>.inr ⟨_,_,_,r2,rfl,rfl,by simp;decide,(.cons ⟨_,rfl⟩ (.cons ⟨_,rfl⟩ .nil))⟩,
  ⟨_,vL X G q3⟩,
  ⟨_,vL X G q4⟩,
  ⟨_,vL X G q5⟩,
  ⟨_,vL X G q6⟩,
  ⟨_,vL X G q7⟩⟩
 exact⟨_,λs v=>.of_eq rfl,λbase _ _=>zCN T⟩
theorem walk{l:Q0}{q:wI}{loose:List Str}{XP:(Str->Option wf)->wM->Prop}{YP:wO->wM->Prop}{d:DefRec}{K:Params->wa}(hn:l.most=some 63)(hdf:d.params.defaults=[])
  (hY:∀(w:wO)(h:wM),YP w h->(K w.params).In h)
  (F:∀(w:wO)(mg:Str->Option wf)(fa:we)(h:wM),(K w.params).In h->h.Ns wK mg->mg d.name=some (.ref fa) ->
   ∃fd:wy,(∀(s:wl)(u:wf),BindsTo s fd ⟨[u],[]⟩ [("_law_script",u)]) /\ ∀base:wM,(K w.params).In base->base.Ns wK mg->aK l.prog w (K w.params) mg base aR 17 fa fd ["_law_script"] (uZ (K w.params))) :
  uv q loose XP YP l.row.toRowW d [] (λf vs=>X1 f vs) :=
 L2.YU (n:=63) (k:=17) (x:="_law_script") (CX:=λ_=>aR) (sp:=λw=>uZ (K w.params)) hn (by decide) hdf ⟨rfl,by decide,by decide,rfl⟩ hY F (λ_ H a ns hl hO hS=>⟨.ref a,rfl,a,ns,rfl,zCH hO hS,hl,λ_=>rfl⟩) λ_ _ _ _ _ z=>z
end G
local macro_rules | `(tactic| wtm_at "fk")=>`(tactic| (refine' G.aO.mk ?a ?l ?c ?k; (case a=>k_is); (case l=>k_is); (case c=>k_is); (case k=>k_is)))
open PySem PySem.W PyProof.Rows
set_option maxRecDepth 100000 in
set_option maxHeartbeats 0 in
theorem PySem.Challenge.cw_glowflock_k31_fates_told_holds : PySem.Challenge.rw_glowflock_k31_fates_told.Holds := by
 w_on; refine GH.head ?_
 k_fill
 refine G.walk (l:=PySem.Challenge.rw_glowflock_k31_fates_told) rfl rfl (fun w h Y=>PySem.W.kIn_of Y) ?F
 case F =>
   intro w mg fa h KX GG hmg;refine' G.all_mk KX GG hmg ?a0 ?a1 ?a2 ?a3 ?a4 ?a5 ?a6 ?a7 ?a8 ?a9 ?a10 ?a11 ?a12 ?a13 ?a14 ?a15 ?a16 ?a17 ?a18 ?a19 ?a20 ?a21 ?a22 ?a23 ?a24 ?a25 ?a26 ?a27 ?a28 ?a29 ?a30 ?a31 ?a32 ?a33 ?a34 ?a35 ?a36 ?a37 ?a38 ?a39 ?a40 ?a41 ?a42 ?a43 ?a44 ?a45 ?a46 ?a47 ?a48 ?a49 ?a50 ?a51 ?a52 ?a53 ?a54 ?a55 ?a56 ?a57 ?a58 ?a59 ?a60 ?a61 ?a62 ?a63 ?a64 ?a65 ?a66 ?a67 ?a68 ?a69 ?a70 ?a71 ?a72 ?a73 ?a74 ?a75 ?a76 ?a77 ?a78 ?a79 ?h0I ?h0H ?h0O ?h0K ?h0G ?h0J ?h0M ?h0F ?h0L ?h0z ?h0t ?h1g ?h0X ?h0U ?h0R ?h0S ?h0w ?h0T ?h0u ?h0Y ?h0Q ?h0W ?h0P ?h1f ?h0V ?h0N ?h0Z ?h0C ?h0E ?h0D ?h0g ?h0f ?h0p ?h0o ?h0d ?h0k ?h0r ?h0b ?h0l ?h0A ?h0B ?h0v ?h0x ?h0c ?h0e ?h0q ?h0n ?h0h ?h0m ?h0s ?h0a ?h0j ?h0y ?q0 ?r0 ?q1 ?r1 ?q2 ?r2 ?q3 ?q4 ?q5 ?q6 ?q7
   (case a0=>wtm_at "fk")
   (case a1=>wtm_at "fk")
   (case a2=>wtm_at "fk")
   (case a3=>wtm_at "fk")
   (case a4=>wtm_at "fk")
   (case a5=>wtm_at "fk")
   (case a6=>wtm_at "fk")
   (case a7=>wtm_at "fk")
   (case a8=>wtm_at "fk")
   (case a9=>wtm_at "fk")
   (case a10=>wtm_at "fk")
   (case a11=>wtm_at "fk")
   (case a12=>wtm_at "fk")
   (case a13=>wtm_at "fk")
   (case a14=>wtm_at "fk")
   (case a15=>wtm_at "fk")
   (case a16=>wtm_at "fk")
   (case a17=>wtm_at "fk")
   (case a18=>wtm_at "fk")
   (case a19=>wtm_at "fk")
   (case a20=>wtm_at "fk")
   (case a21=>wtm_at "fk")
   (case a22=>wtm_at "fk")
   (case a23=>wtm_at "fk")
   (case a24=>wtm_at "fk")
   (case a25=>wtm_at "fk")
   (case a26=>wtm_at "fk")
   (case a27=>wtm_at "fk")
   (case a28=>wtm_at "fk")
   (case a29=>wtm_at "fk")
   (case a30=>wtm_at "fk")
   (case a31=>wtm_at "fk")
   (case a32=>wtm_at "fk")
   (case a33=>wtm_at "fk")
   (case a34=>wtm_at "fk")
   (case a35=>wtm_at "fk")
   (case a36=>wtm_at "fk")
   (case a37=>wtm_at "fk")
   (case a38=>wtm_at "fk")
   (case a39=>wtm_at "fk")
   (case a40=>wtm_at "fk")
   (case a41=>wtm_at "fk")
   (case a42=>wtm_at "fk")
   (case a43=>wtm_at "fk")
   (case a44=>wtm_at "fk")
   (case a45=>wtm_at "fk")
   (case a46=>wtm_at "fk")
   (case a47=>wtm_at "fk")
   (case a48=>wtm_at "fk")
   (case a49=>wtm_at "fk")
   (case a50=>wtm_at "fk")
   (case a51=>wtm_at "fk")
   (case a52=>wtm_at "fk")
   (case a53=>wtm_at "fk")
   (case a54=>wtm_at "fk")
   (case a55=>wtm_at "fk")
   (case a56=>wtm_at "fk")
   (case a57=>wtm_at "fk")
   (case a58=>wtm_at "fk")
   (case a59=>wtm_at "fk")
   (case a60=>wtm_at "fk")
   (case a61=>wtm_at "fk")
   (case a62=>wtm_at "fk")
   (case a63=>wtm_at "fk")
   (case a64=>wtm_at "fk")
   (case a65=>wtm_at "fk")
   (case a66=>wtm_at "fk")
   (case a67=>wtm_at "fk")
   (case a68=>wtm_at "fk")
   (case a69=>wtm_at "fk")
   (case a70=>wtm_at "fk")
   (case a71=>wtm_at "fk")
   (case a72=>wtm_at "fk")
   (case a73=>wtm_at "fk")
   (case a74=>wtm_at "fk")
   (case a75=>wtm_at "fk")
   (case a76=>wtm_at "fk")
   (case a77=>wtm_at "fk")
   (case a78=>wtm_at "fk")
   (case a79=>wtm_at "fk")
   (case h0I=>k_is)
   (case h0H=>k_is)
   (case h0O=>k_is)
   (case h0K=>k_is)
   (case h0G=>k_is)
   (case h0J=>k_is)
   (case h0M=>k_is)
   (case h0F=>k_is)
   (case h0L=>k_is)
   (case h0z=>k_is)
   (case h0t=>k_is)
   (case h1g=>k_is)
   (case h0X=>k_is)
   (case h0U=>k_is)
   (case h0R=>k_is)
   (case h0S=>k_is)
   (case h0w=>k_is)
   (case h0T=>k_is)
   (case h0u=>k_is)
   (case h0Y=>k_is)
   (case h0Q=>k_is)
   (case h0W=>k_is)
   (case h0P=>k_is)
   (case h1f=>k_is)
   (case h0V=>k_is)
   (case h0N=>k_is)
   (case h0Z=>k_is)
   (case h0C=>k_exc)
   (case h0E=>kts_exm)
   (case h0D=>(refine L2.gI.mk ?_ ?_ ?_ ?_ ?_ ?_ ?_ ?_ <;> first | k_is | (show PySem.W.isClsIn _ _ = true; k_is)))
   (case h0g=>kit_is)
   (case h0f=>kit_is)
   (case h0p=>kit_is)
   (case h0o=>kit_is)
   (case h0d=>kit_is)
   (case h0k=>kit_is)
   (case h0r=>kit_is)
   (case h0b=>kit_is)
   (case h0l=>kit_is)
   (case h0A=>kit_is)
   (case h0B=>k_exc)
   (case h0v=>kts_exm)
   (case h0x=>(refine L2.gI.mk ?_ ?_ ?_ ?_ ?_ ?_ ?_ ?_ <;> first | k_is | (show PySem.W.isClsIn _ _ = true; k_is)))
   (case h0c=>kit_is)
   (case h0e=>kit_is)
   (case h0q=>kit_is)
   (case h0n=>kit_is)
   (case h0h=>kit_is)
   (case h0m=>kit_is)
   (case h0s=>kit_is)
   (case h0a=>kit_is)
   (case h0j=>kit_is)
   (case h0y=>kit_is)
   (case q0=>k_is)
   (case r0=>k_is)
   (case q1=>k_is)
   (case r1=>k_is)
   (case q2=>k_is)
   (case r2=>k_is)
   (case q3=>k_is)
   (case q4=>k_is)
   (case q5=>k_is)
   (case q6=>k_is)
   (case q7=>k_is)
#print axioms PySem.Challenge.cw_glowflock_k31_fates_told_holds
