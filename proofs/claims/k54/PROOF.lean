import PyProof.Rows.All
import Wide.All
import OpenK.AllK
import Wide.FinOn
import Lean
import PyProof.EqAt
import PyProof.EqKinds
import PyProof.TupleCall
import PyProof.P3In
import PyProof.ReprRoads
import PyProof.MaxThree
import PyProof.Rows.SetFrom
import PyProof.SetRoads
import PyProof.Rows.TupDisplay
import PySem.SetTable
import PyProof.TupleKey
import PyProof.SetKind
import PyProof.IsRules
import KE.KSortTup
import PyProof.FactsAll.set_1
import KE.KDictList
import PyProof.ReprLen
import PyProof.ReprRoads
import PyProof.ListMulRoad
import PyProof.FactsAll.tuple
import PyProof.Rows.CallKwBuiltin
import PySem.Challenge.RW_glowflock_k54_whole_exchanged_and_steppe
set_option compiler.extract_closed false
set_option Elab.async false
set_option linter.all false
set_option maxRecDepth 100000
open Array renaming append_assoc->XW,forIn_toList->Qj,getD->Um,getD_eq_getD_getElem?->wM,getElem?_eq_getElem->vH,getElem?_eq_none->QF,getElem?_eq_some_iff->Vh,getElem?_toList->Wh,length_toList->wD,perm_iff_toList_perm->xw,replicate->Uo,size_map->UC,toList->UW
open Bool renaming and_comm->US,and_eq_true->vf,and_eq_true_iff->Xw,and_false->VT,and_true->XN,beq_eq_decide_eq->qG,eq_iff_iff->WS,false_and->WI,false_eq_true->vq,false_ne_true->vL,not_eq_true'->W0,not_false->Qn,not_true->WX,or_eq_true->Ui,or_false->UI,or_true->U2,true_and->W6
open Classical renaming byContradiction->VQ,not_not->uK
open Decidable renaming of_not_not->XD
open False renaming elim->Vg
open Int renaming dvd_mul_right->uu,dvd_trans->XM,ediv_eq_of_eq_mul_right->xj,emod_lt_of_pos->Ql,emod_nonneg->Q0,eq_ofNat_of_zero_le->qf,fdiv_eq_ediv_of_nonneg->VH,gcd->vK,gcd_comm->X0,gcd_dvd_left->qM,gcd_dvd_right->Qu,gcd_pos_of_ne_zero_right->qC,gcd_zero_right->uh,le_refl->Xl,mul_assoc->XJ,mul_ediv_cancel_left->V1,mul_le_mul_of_nonneg_left->Q2,mul_ne_zero->xY,mul_nonneg->Qo,mul_pos->xh,natAbs_dvd_natAbs->Xn,natAbs_ediv_le_natAbs->xE,natCast_ediv->V2,natCast_mul->VC,natCast_nonneg->uk,neg_dvd->uN,toNat->UG,toNat_natCast->wH
open List renaming Nodup->Q1,Pairwise->UJ,Perm->Xd,all_cons->XH,all_eq_true->WB,all_map->V3,any_cons->XI,append_assoc->Vo,append_nil->vT,drop_succ_cons->Q4,drop_zero->Ux,eq_nil_of_length_eq_zero->WP,eq_of_mem_replicate->xP,eraseIdx_cons_succ->Qs,ext_getElem->vQ,filterMap_cons->qU,filter_append->WU,filter_congr->Wo,filter_cons->Vi,filter_eq_nil_iff->qw,filter_eq_self->qV,filter_filter->WT,filter_map->Ur,find?_cons->Uq,find?_eq_none->xm,flatten_cons->Va,flatten_replicate_singleton->V6,foldl->Xz,foldl_append->xB,foldl_cons->Ua,forIn_cons->xZ,forIn_nil->Uz,getD_eq_getElem?_getD->wa,getElem?_append->XF,getElem?_append_left->Wu,getElem?_append_right->Wr,getElem?_cons_succ->qd,getElem?_cons_zero->xS,getElem?_eq_getElem->wc,getElem?_eq_none->wX,getElem?_eq_some_iff->vk,getElem?_map->wz,getElem?_range->Q3,getElem?_replicate->vO,getElem?_set->qx,getElem?_set_ne->Xx,getElem?_set_self->Xf,getElem?_take_of_lt->xI,getElem_cons_succ->Wx,getElem_cons_zero->qt,getElem_idxOf->Vy,getElem_inj->xH,getElem_map->vJ,getElem_mem->vc,getElem_of_mem->Wj,getElem_range->Vm,getElem_replicate->qu,getElem_take->uL,getElem_toArray->XC,idxOf_lt_length_iff->Wc,length->uM,length_append->wS,length_cons->vA,length_drop->qL,length_eq_zero_iff->Vq,length_eraseIdx->XE,length_filter_le->Wq,length_map->wd,length_nil->qY,length_pos_iff->qb,length_range->vi,length_replicate->wO,length_set->VB,length_singleton->Vj,length_tail->QK,length_take->vP,lookup_cons->qN,map->Q9,map_append->wL,map_congr_left->vU,map_cons->wZ,map_drop->UQ,map_map->W3,map_nil->Qf,map_replicate->Qm,map_set->U3,map_take->UP,mem_append->vR,mem_append_left->WJ,mem_append_right->vX,mem_cons->wE,mem_cons_of_mem->wI,mem_cons_self->wN,mem_filter->vG,mem_filterMap->Qd,mem_iff_getElem?->Xo,mem_map->wQ,mem_of_getElem?->qK,mem_range->wB,mem_singleton->vv,nil_append->xW,nil_perm->UL,nodup_append->Qy,nodup_cons->Wp,nodup_nil->VU,nodup_range->Wn,not_mem_nil->WM,of_mem_zip->xV,pairwise_cons->xl,pairwise_iff_getElem->qX,pairwise_lt_range->Vv,pairwise_map->WF,perm_ext_iff_of_nodup->xv,range->wo,range_succ->Vb,replicate->wm,replicate_succ->WQ,set_cons_succ->uf,set_cons_zero->ug,size_toArray->wG,tail_cons->Uy,take_add_one->xC,take_length->Wt,take_of_length_le->Vd,take_sublist->uq,take_subset->uX,take_succ->xc,take_succ_cons->XS,take_zero->UF,toArray->QZ,zipIdx_cons->u0,zipIdx_nil->Ul
open List.Pairwise renaming and_mem->QL,imp_of_mem->U1
open List.Perm renaming append_left->Xv,refl->UB
open List.cons renaming injEq->Uk
open Nat renaming add_assoc->qQ,add_le_add_left->Q5,add_mul->uP,add_sub_cancel->X4,div_div_eq_div_mul->Xk,div_dvd_of_dvd->uj,div_le_self->QP,dvd_trans->xt,eq_or_lt_of_le->Vl,eq_zero_or_pos->um,gcd->xG,gcd_dvd_left->xO,gcd_dvd_right->xA,lcm->xb,le_add_right->V4,le_max_left->Ud,le_max_right->uW,le_of_dvd->xu,le_of_lt->VX,le_of_lt_succ->VL,le_refl->wu,le_succ->Xh,le_trans->Wi,lt_irrefl->qg,lt_of_le_of_lt->qj,lt_of_lt_of_le->vF,lt_of_succ_lt_succ->Ww,lt_or_ge->wT,lt_succ_of_lt->qy,lt_succ_self->u4,lt_trans->XZ,lt_trichotomy->qz,min_eq_left->Xc,mod_lt->XB,mod_mul->Xj,mul_add->qS,mul_assoc->W7,mul_comm->Vw,mul_div_assoc->uv,mul_div_cancel_left->Qr,mul_le_mul->VW,mul_left_comm->uE,mul_mod->uS,mul_one->uR,ne_of_gt->Wb,ne_of_lt->ve,not_lt_zero->Wl,one_mul->uQ,pow_add->uO,pow_le_pow_right->QN,pow_succ->Vc,sub_self->xL,succ_ne_self->xM,succ_pos->QU,two_pow_pos->Uh,zero_le->Wg
open Nat.succ renaming inj->xQ
open Ne renaming symm->Wz
open Option renaming getD_none->uT,getD_some->QI,isSome->UM,map->U7,map_eq_none_iff->Xm,map_eq_some_iff->Qz,map_some->Uj
open Option.some renaming inj->wV,injEq->Qv
open Prod renaming ext->Qc,fst->UU,snd->UV
open PyProof.Rows renaming IntsAre->qi,callWith_type1->vS,seqObj->vV,slot_tuple_getitem->qc
open PyProof.Rows.F renaming entry_set_update_loop->Qk,plain_set_update_loop->Vx
open PyProof.Rows.IsTup renaming new->qJ
open PySem renaming Addr->wf,Around->vj,Fin->ud,FuncData->wJ,Heap->wK,IsPair->Vf,IsTupleKey->vN,NameKind->W4,Program->wP,PyData->wq,SetTable->WO,Shared->wk,Stmt->vD,Value->we,World->wR,backTo->Vn,behindInMarks->qh,binaryOp->WH,bootBuiltins->Wk,cLine->WV,call->Uc,call_meets->qo,codeAny_builtin->VG,codeAny_mono->V8,compareOp->wW,letOwnedTupleGo->Qa,mainGlobals->wU,mem_of_lookup->Vr,ofAClassStatement->qB,rawInt->V7,seqSlot_of->u5,sizeLine->wY,sizeLine_eq->Wy,sliceBounds->qT,starEach->vg,sysModules->qO,tupleKeyHash->vx,wpAny->wA,wpAny_Call_Name_kw->qm,wpAny_bind->wg,wpAny_call_entry->WN,wpAny_execs_nil->qZ,wpAny_field->Wa,wpAny_forIn_list->qa,wpAny_holding->WA,wpAny_isInstance->V9,wpAny_letOwnedTupleGo_enum->qR,wpAny_mono->WC,wpAny_newObj_type->W1,wpAny_passesOwn->VF,wpAny_pure->wp,wpAny_pyIter_enum->VN,wpAny_pyIter_list->VM,wpAny_pyIter_tuple->WL,wpAny_pyNext_enum_itemD->Qt,wpAny_seqItems->WZ,wpAny_setField_rec->Vz,wpAny_setState_of->VO,wpAny_specialOf->Qb,wpAny_truthy_bool->WG
open PySem.Around renaming under->UY,under_plain->uc,under_plainId->VR
open PySem.Builtin.Frozenset renaming newClass->UR,updateFrom->UD
open PySem.Builtin.Int renaming intBits->XQ
open PySem.Builtin.List renaming listExtendWith->xn,listTooLong->V0
open PySem.Builtin.Range renaming rangeSize->U4
open PySem.Builtin.Slice renaming sliceAdjust->qW,sliceApplied->xq,sliceFields->UT,slicePartIndex->Uu,slicePlaces->VP
open PySem.Builtin.SmallTypes renaming nextOf->Wv,ownedTupleHandOut->Qi,ownedTupleIsFree->W8
open PySem.Builtin.Tuple renaming tupleExact->VZ,tupleHashOf->Wm,tupleItemsOf->xr,tupleTooMany->xx
open PySem.Calls renaming Name_function_global->xp,evalArgs_plain->Xy,spliced_cons->XX,spliced_nil->uo
open PySem.Challenge renaming pw_glowflock_k54_whole_exchanged_and_steppe->Vp,rw_glowflock_k54_whole_exchanged_and_steppe->wx
open PySem.Code renaming isGuard->UZ,quiet_builtin->ub
open PySem.EntryCells renaming newEntry->XR
open PySem.F renaming args_enumerate_next_1->Qq,args_int_rmul_2->ur,args_object_init_3->QY,args_tuple_add_2->Qe,args_tuple_iterator_next_1->Q8,args_tuple_mul_2->ue,args_zip_next_1->uD,called_enumerate->Qh,called_set->V5,called_zip->X5,entry_enumerate_new->Xp,entry_enumerate_next->QE,entry_int_rmul->uV,entry_tuple_add->Qp,entry_tuple_iterator_next->xk,entry_tuple_mul->uI,entry_type_call->uG,entry_zip_new->Xb,entry_zip_next->u3,excBase_ValueError->XA,fills_int_mul->Ub,newCall_zip_2->Xa,plainAttrs_list->vI,plain_list_iadd->xU,plain_set_new->Up,slot_enumerate_next->Vk,slot_int_index->uU,slot_int_rmul->QM,slot_list_append->Wd,slot_list_index->xT,slot_list_pop->Xs,slot_tuple_add->QC,slot_tuple_eq->Xe,slot_tuple_hash->qA,slot_tuple_iterator_next->VI,slot_tuple_mul->QJ,slot_tuple_rmul->uH,slot_zip_next->QX,typeCall_zip_2->xN,type_list_append->We,type_list_pop->Xu
open PySem.Heap renaming IsTuple->qI,MadeExcOf->Uw,SameBut->vW,get?_push_ne->Qw,get?_push_of_some->wj,get?_push_size->wC,get?_update_other->QD,get?_update_self->VA,lt_size->wF,size_push->Wf,update->Xi
open PySem.Heap.IsSliceOf renaming new->U8
open PySem.Heap.SameBut renaming update->WR
open PySem.IntMulOk renaming of_left->u6,of_right->uJ
open PySem.IsRange renaming new->U5
open PySem.Obj renaming cls_mapFields->uC,data_mapFields->qk,isFreed_of_fields->qH,mapFields->QG,mapSeq->vM,putSet->xF
open PySem.Paired renaming length->UH
open PySem.PassesOwn renaming never->vE
open PySem.PyData renaming canLay0->Vt,canLayAll0->VJ,depth->QV,depthAll->QW,eqv->vn,eqvAll->Ws,strOk->U0
open PySem.SeqAt renaming canLay_of_shaped->Vu,shaped->WK
open PySem.SeqAt.EqAt renaming int_str->XT,str_int->XU
open PySem.SetTable renaming below->WY,fill->UO,grown->Xr,has->ua,insertAt->WE,laid->UN,layClean->uF,sizeAbove->ql,turns->Xq
open PySem.SetTable.below renaming go->Qx
open PySem.SetTable.layClean renaming free->Ve
open PySem.SetTable.probe renaming go->xD
open PySem.SetTable.sizeAbove renaming go->WD
open PySem.Shared renaming heap->qr
open PySem.Str renaming ofString->WW
open PySem.StrLaws renaming seqIndex_nonneg->Ut
open PySem.Value renaming isInt->xf
open PySem.Value.type renaming inj->UE
open PySem.W renaming Frag->wb,OpenLaw->xX,WalkO->UK,callWith_K->XY,cellsFrom_some->Xg,codeIn->Q6,excIn->W5,exmOne->W9,findIn->Vs,fnOf->VY,hideAll->u8,hideAll_get->XO,instObj->u7,isFn->UX,keepIn->VS,kia_one->VD,kia_tup->VE,kitAny->UA,kitOne->qF,kitx_bool->uz,kitx_dict->uB,kitx_int->uY,kitx_list->uA,kitx_none->uw,kitx_str->uZ,kitx_tuple->X1,methodObj->xy,mg_none_of->vY,mg_of->vZ,mroIn->XG,nsIn->vB,of_hideAll->XV,specialIn->xz,takesIn->u9
open PySem.W.Looks renaming ld->U9
open Rat renaming den_divInt->Q7,divInt->vC,divInt_nonneg->ut,divInt_ofNat->xJ,intCast_add->QR,intCast_eq_zero_iff->xR,intCast_inj->Us,intCast_lt_intCast->qp,intCast_mul->W2,le_antisymm->Ug,le_of_lt->qD,le_refl->xi,lt_iff->Ue,lt_of_mul_lt_mul_right->qP,mul_comm->ui,mul_eq_zero->Uf,mul_lt_mul_of_pos_right->xo,mul_nonneg->Uv,not_lt->QT,num_divInt_den->Qg,num_nonneg->qE,one_mul->xg,pow_succ->QQ,pow_zero->xK
namespace GH
open PySem PySem.W PyProof.Rows
noncomputable def zP (p:wP) (w:wR) (m:Nat) (an:Option we) (N:Nat) (s0:wk):Option wk :=
 Option.bind (Fast.tw14082659384304107361 Fast.tw14364793385576792824 p w m an N s0 (topStub p)) λs1=>match staticsOk (Fast.tw5923862056798008813 p.main.body) s0.heap s1.heap&&namesBound p s1.heap&&gensDone s1&&laidKept s0.heap s1.heap with | true=>some s1 | false=>none
noncomputable def gg (w:wR) (os:OsState):wk:=⟨boot_heap w.params,#[],boot_drawn,boot_toks,os⟩
theorem Td{p q:wP}{loose:List Str}{Xt:wk->Bool}{A:Type}{Yf:wk->A}{Ya:wR->A}{N:Nat}(e:opening p=plainProg p.main.scope.names)(hN:Nat.ble 600 N=true)(f:∀s,fenceModules? p s=some s){m:Nat}{an:Option we}
  (size:∀w:wR,((boot_heap w.params).isNs wU,(boot_heap w.params).objs.size,(boot_heap w.params).nsMap wU "__annotations__")=(true,m,an))
  (h:∀w:wR,(λos=>(zP p w m an N (gg w os)).map (λs=>(Fast.tw4187177175401517315 q loose (Fast.tw5923862056798008813 p.main.body) Xt true s,Yf s)))=λ_=>some (openGood q loose,Ya w)):LeftO p q loose Xt Yf Ya N:=λw=>by
 obtain⟨⟨h',gs,d,k,os⟩,e',e2⟩:=Qz.mp (boot_open e hN f (w:=w));obtain⟨rfl,rfl,rfl,rfl⟩:h'=boot_heap w.params/\gs = #[]/\d=boot_drawn/\k=boot_toks:=by simpa using e2
 obtain⟨z1,z2,z3⟩:_/\_/\_:=by simpa only[Prod.mk.injEq] using size w
 have r:=congrFun (h w) os;unfold openEnds;rw[e']
 show U7 _ (topFrom treeTable p w N _)=_
 rw[<- r];unfold topFrom zP gg;rw[<- Fast.te14082659384304107361,<- Fast.te14364793385576792824,<- Fast.te5923862056798008813,<- Fast.te4187177175401517315];dsimp only;rw[z1,z2,z3]
 rfl
noncomputable def jz (p:wP) (w:wR) (m:Nat) (an:Option we) (N:Nat) (s0:wk):Option wk:=Fast.tw14082659384304107361 Fast.tw14364793385576792824 p w m an N s0 (topStub p)
noncomputable def Bv (p:wP) (w:wR) (m:Nat) (an:Option we) (N:Nat) (os:OsState):Option Bool:=(jz p w m an N (gg w os)).map λs1=>staticsOk (Fast.tw5923862056798008813 p.main.body) (gg w os).heap s1.heap&&namesBound p s1.heap&&gensDone s1&&laidKept (gg w os).heap s1.heap
theorem Sr{p q:wP}{loose:List Str}{Xt:wk->Bool}{A:Type}{Yf:wk->A}{Ya:wR->A}{N:Nat}(e:opening p=plainProg p.main.scope.names)(hN:Nat.ble 600 N=true)(f:∀s,fenceModules? p s=some s){m:Nat}{an:Option we}
  (size:∀w:wR,((boot_heap w.params).isNs wU,(boot_heap w.params).objs.size,(boot_heap w.params).nsMap wU "__annotations__")=(true,m,an))
  (hA:∀w:wR,(λos=>Bv p w m an N os)=λ_=>some true)
  (hB0:∀w:wR,(λos=>(jz p w m an N (gg w os)).map (λs=>((Fast.tw4187177175401517315 q loose (Fast.tw5923862056798008813 p.main.body) Xt true s).1,(Fast.tw4187177175401517315 q loose (Fast.tw5923862056798008813 p.main.body) Xt true s).2.1)))=λ_=>some (expectedOf q,bltViewBooted))
  (hB1:∀w:wR,(λos=>(jz p w m an N (gg w os)).map (λs=>((Fast.tw4187177175401517315 q loose (Fast.tw5923862056798008813 p.main.body) Xt true s).2.2.1,(Fast.tw4187177175401517315 q loose (Fast.tw5923862056798008813 p.main.body) Xt true s).2.2.2.1)))=λ_=>some (true,true))
  (hB2:∀w:wR,(λos=>(jz p w m an N (gg w os)).map (λs=>(Fast.tw4187177175401517315 q loose (Fast.tw5923862056798008813 p.main.body) Xt true s).2.2.2.2))=λ_=>some (pinGoodD (drecsOf q),plainGoodE q (looseW q loose),plainGoodD q loose,wideGood q,clsGoodW q loose))
  (hC:∀w:wR,(λos=>(jz p w m an N (gg w os)).map (λs=>Yf s))=λ_=>some (Ya w)):LeftO p q loose Xt Yf Ya N:=by
 refine Td e hN f size λw=>?_
 funext os
 have h1:=congrFun (hA w) os;unfold Bv at h1;obtain⟨s1,e1,e2⟩:=Qz.mp h1;have g0:=congrFun (hB0 w) os;have g1:=congrFun (hB1 w) os;have g2:=congrFun (hB2 w) os;have k:=congrFun (hC w) os;rw[e1]at g0 g1 g2 k;have g0:=wV g0;have g1:=wV g1;have g2:=wV g2;have a0:=congrArg UU g0;have b0:=congrArg UV g0;have a1:=congrArg UU g1;have b1:=congrArg UV g1;have g:Fast.tw4187177175401517315 q loose (Fast.tw5923862056798008813 p.main.body) Xt true s1=openGood q loose:=Qc a0 (Qc b0 (Qc a1 (Qc b1 g2)));have k:=wV k
 have ez:zP p w m an N (gg w os)=some s1:=by
  unfold zP;unfold jz at e1;rw[e1]
  show(match _ with | true=>some s1 | false=>none)=some s1
  rw[e2]
 rw[ez];exact congrArg some (Qc g k)
def qv:wP:=view Vp [1,2,3,4,5,6,8,9,10,11,12,13,14,15,16,17,19,20,21,22,23,24,25,26,27,28,30,31,32,33,34,35,36,37,38,39,40,41,42,43,44,46,47,48,49,50,51,52,53,54,56,57,58,59,60,61,62,63,65,67,68,69,70,71,72,73,74,75,77,79,80,81,82,83,84,85,86,87,88,89,90]
theorem IE:wx.wellSaid=true:=by kernel_rfl
theorem size(w:wR):((boot_heap w.params).isNs wU,(boot_heap w.params).objs.size,(boot_heap w.params).nsMap wU "__annotations__")=(true,11,some (.ref 6)):=by kernel_rfl
theorem SV(w:wR):(λos=>Bv wx.row.prog w 11 (some (.ref 6)) 6684 os)=λ_=>some true:=by kernel_rfl
theorem SQ(w:wR):(λos=>(jz wx.row.prog w 11 (some (.ref 6)) 6684 (gg w os)).map (λs=>((Fast.tw4187177175401517315 qv [] (Fast.tw5923862056798008813 wx.row.prog.main.body) (λs=>xlAt GH.qv [] s&&recOk (RowW.records (OpenRow.toRowW (OpenLaw.row wx))) s) true s).1,(Fast.tw4187177175401517315 qv [] (Fast.tw5923862056798008813 wx.row.prog.main.body) (λs=>xlAt GH.qv [] s&&recOk (RowW.records (OpenRow.toRowW (OpenLaw.row wx))) s) true s).2.1)))=λ_=>some (expectedOf qv,bltViewBooted):=by kernel_rfl
theorem SO(w:wR):(λos=>(jz wx.row.prog w 11 (some (.ref 6)) 6684 (gg w os)).map (λs=>((Fast.tw4187177175401517315 qv [] (Fast.tw5923862056798008813 wx.row.prog.main.body) (λs=>xlAt GH.qv [] s&&recOk (RowW.records (OpenRow.toRowW (OpenLaw.row wx))) s) true s).2.2.1,(Fast.tw4187177175401517315 qv [] (Fast.tw5923862056798008813 wx.row.prog.main.body) (λs=>xlAt GH.qv [] s&&recOk (RowW.records (OpenRow.toRowW (OpenLaw.row wx))) s) true s).2.2.2.1)))=λ_=>some (true,true):=by kernel_rfl
theorem SN(w:wR):(λos=>(jz wx.row.prog w 11 (some (.ref 6)) 6684 (gg w os)).map (λs=>(Fast.tw4187177175401517315 qv [] (Fast.tw5923862056798008813 wx.row.prog.main.body) (λs=>xlAt GH.qv [] s&&recOk (RowW.records (OpenRow.toRowW (OpenLaw.row wx))) s) true s).2.2.2.2))=λ_=>some (pinGoodD (drecsOf qv),plainGoodE qv (looseW qv []),plainGoodD qv [],wideGood qv,clsGoodW qv []):=by kernel_rfl
local macro_rules | `(tactic| o_head $H)=>`(tactic| (refine holds_open (q:=GH.qv) (loose:=[]) (Xt:=λ s=>xlAt GH.qv [] s && recOk (RowW.records (OpenRow.toRowW (OpenLaw.row wx))) s) (XP:=XL GH.qv []) (Yf:=Hook.obs $H) (Ya:=Hook.val $H) (YP:=Hook.says $H) (N:=6684) ?hl (Hook.of $H) (Hook.keeps $H) (λ s e=>xl_of s (Xw.mp e).1) XL.keeps (by rfl) (by rfl) (by rfl) (λ s e=>recFacts_of (Xw.mp e).2) (by rfl) (by first | assumption | decide +kernel) (by decide +kernel) ⟨rfl,rfl,rfl,rfl,rfl,by decide +kernel⟩ ?hw ?hc; (case hl=>refine GH.Sr (by kernel_rfl) rfl (λ s=>by kernel_rfl) GH.size GH.SV GH.SQ GH.SO GH.SN ?_; intro w; kernel_rfl)))
local macro_rules | `(tactic| o_law)=>`(tactic| refine holds_law GH.IE λ IE=>?_)
set_option maxHeartbeats 0
open_top head for wx
end GH
set_option maxHeartbeats 4000000
namespace L2
open PySem PySem.Spec PyProof.Rows
abbrev Key:=Sum Int Str
def PU:Key->we->Bool
 | .inl k,v=>xf k v
 | .inr x,v=>Value.isStrOf x v
def zCT(w:wR):Key->Int
 | .inl k=>hashInt k
 | .inr x=>hashStr w x
theorem jD:∀{k:Key}{v:we},PU k v=true->(∃i t,k=Sum.inl i/\v=Value.int i t)\/(∃x t,k=Sum.inr x/\v=Value.str x t)
 | .inl i,v,h=>by
  obtain⟨t,e⟩:=Value.isInt_shape (k:=i) (v:=v) h;exact .inl ⟨i,t,rfl,e⟩
 | .inr x,v,h=>by
  obtain⟨t,e⟩:=Value.isStrOf_shape (x:=x) (v:=v) h;exact .inr ⟨x,t,rfl,e⟩
theorem Z0(a b:Int):decide ((Sum.inl a:Key)=Sum.inl b)=(a == b):=by
 by_cases e:a=b
 ·subst e;simp
 ·have h:¬ (Sum.inl a:Key)=Sum.inl b:=λq=>e (Sum.inl.inj q)
  rw[decide_eq_false h];exact(beq_eq_false_iff_ne.mpr e).symm
theorem Y0(a b:Str):decide ((Sum.inr a:Key)=Sum.inr b)=decide (a=b):=by
 by_cases e:a=b
 ·subst e;simp
 ·have h:¬ (Sum.inr a:Key)=Sum.inr b:=λq=>e (Sum.inr.inj q)
  rw[decide_eq_false h,decide_eq_false e]
theorem zBN(a:Int)(b:Str):decide ((Sum.inl a:Key)=Sum.inr b)=false:=decide_eq_false (λq=>nomatch q)
theorem Y9(a:Str)(b:Int):decide ((Sum.inr a:Key)=Sum.inl b)=false:=decide_eq_false (λq=>nomatch q)
def DH(prog:wP)(w:wR):PySem.KeyKind prog w Key where
 is:=PU
 hash:=zCT w
 inj:=λv a b ha hb=>by
  rcases jD ha with⟨i,t,rfl,rfl⟩ | ⟨x,t,rfl,rfl⟩
  ·rcases jD hb with⟨j,u,rfl,e⟩ | ⟨y,u,rfl,e⟩
   ·injection e with e1 _;rw[e1]
   ·exact nomatch e
  ·rcases jD hb with⟨j,u,rfl,e⟩ | ⟨y,u,rfl,e⟩
   ·exact nomatch e
   ·injection e with e1 _;rw[e1]
 byValue:=λk v h=>by
  rcases jD h with⟨i,t,rfl,rfl⟩ | ⟨x,t,rfl,rfl⟩<;>rfl
 pyHash:=λhv h=>by
  rcases jD hv with⟨i,t,rfl,rfl⟩ | ⟨x,t,rfl,rfl⟩
  ·exact wpAny_pyHash_int h
  ·exact wpAny_pyHash_str h
 eqBool:=λhu hv h=>by
  rcases jD hu with⟨i,t,rfl,rfl⟩ | ⟨x,t,rfl,rfl⟩
  ·rcases jD hv with⟨j,u,rfl,rfl⟩ | ⟨y,u,rfl,rfl⟩
   ·rw[Z0]at h;exact wpAny_eqBool_int h
   ·rw[zBN]at h;exact XT i t y u _ _ _ _ h
  ·rcases jD hv with⟨j,u,rfl,rfl⟩ | ⟨y,u,rfl,rfl⟩
   ·rw[Y9]at h;exact XU x t j u _ _ _ _ h
   ·rw[Y0]at h;exact wpAny_eqBool_str h
 «strs»:=λk x t v h=>by
  rcases jD h with⟨i,u,rfl,e⟩ | ⟨y,u,rfl,e⟩
  ·exact nomatch e
  ·injection e with e1 _
   subst e1;cases v<;>rfl
inductive V where
 | aZ | bl (b:Bool) | int (i:Int) | str (x:Str) | byt (b:Array UInt8) | lE (b:UInt64) | ref (a:wf) | ty (n:String)
 deriving DecidableEq
def aT:V->we->Prop
 | .aZ,u=>u=Value.none
 | .bl b,u=>u=Value.bool b
 | .int i,u=>∃t,u=Value.int i t
 | .str x,u=>∃t,u=Value.str x t
 | .byt b,u=>∃t,u=Value.bytes b t
 | .lE b,u=>∃t,u=Value.float b t
 | .ref a,u=>u=Value.ref a
 | .ty n,u=>u=Value.type n
abbrev aI:List V->List we->Prop:=Paired aT
theorem aI.length{xs:List V}{us:List we}(r:aI xs us):xs.length=us.length:=UH r
theorem aI.get:∀{xs:List V}{us:List we}{i:Nat}{x:V},aI xs us->xs[i]? = some x->∃u,us[i]? = some u/\aT x u
 | _,_,_,_,.nil,e=>by simp at e
 | _,_,0,_,.cons r _,e=>by simp at e;subst e;exact⟨_,rfl,r⟩
 | _,_,i+1,x,.cons _ t,e=>by
  obtain⟨u,h1,h2⟩:=aI.get (i:=i) (x:=x) t (by simpa using e);exact⟨u,by simpa using h1,h2⟩
theorem aI.set{x:V}{u:we}(r:aT x u):∀{xs:List V}{us:List we}(i:Nat),aI xs us->aI (xs.set i x) (us.set i u)
 | _,_,_,.nil=>.nil
 | _,_,0,.cons _ t=>.cons r t
 | _,_,i+1,.cons q t=>.cons q (aI.set r i t)
theorem aI.append:∀{xs ys:List V}{us ws:List we},aI xs us->aI ys ws->aI (xs++ys) (us++ws)
 | _,_,_,_,.nil,s=>s
 | _,_,_,_,.cons r t,s=>.cons r (aI.append t s)
theorem aI.take:∀{xs:List V}{us:List we}(n:Nat),aI xs us->aI (xs.take n) (us.take n)
 | _,_,0,_=>.nil
 | _,_,_+1,.nil=>.nil
 | _,_,n+1,.cons r t=>.cons r (aI.take n t)
theorem aI.drop:∀{xs:List V}{us:List we}(n:Nat),aI xs us->aI (xs.drop n) (us.drop n)
 | _,_,0,r=>r
 | _,_,_+1,.nil=>.nil
 | _,_,n+1,.cons _ t=>aI.drop n t
def RS:Option V->Option we->Prop
 | some v,some u=>aT v u
 | none,none=>True
 | _,_=>False
def KV{κ : Type} : List (κ × V)->List (κ × we)->Prop:=Paired λ(p : κ × V)(q : κ × we)=>p.1=q.1/\aT p.2 q.2
def kV:Key->V
 | .inl i=>.int i
 | .inr x=>.str x
inductive HO where
 /-- a list -/
 | lst (xs:List V)
 /-- a tuple (never changes) -/
 | tup (xs:List V)
 /-- a dict whose keys are ints and texts;one whose keys are tuples of ints and texts (the empty one is both) -/
 | dK (kvs:List (Key × V)) | dT (kvs:List (List Key × V))
 /-- a set of ints: its members,its size -/
 | set (S:Int->Bool) (n:Nat)
 /-- an instance of the class at C,its dict at dx,its attributes -/
 | ins (C dx:wf) (fs:List (Str × V))
 /-- the dict of the instance at x -/
 | own (x:wf)
 /-- the dict of an exception -/
 | xd (fs:List (Str × V))
 /-- a bound method,f of x -/
 | met (f x:wf)
 /-- a range object lo,lo+1,.. below hi -/
 | rM (lo hi:Int)
 /-- a thing that is known to the object (the script;a dict while a loop walks it): read,never written while it is so -/
 | fc (o:Obj) (u:HO)
 /-- a code object's table -/
 | j5 (ps:Array we)
 /-- any other thing,by what is true of its one object (a def of one's own: nB a S n:=HO.ext λh=>..) -/
 | ext (φ : wK->Prop)
abbrev Hp:=wf->Option HO
def upd(H:Hp)(a:wf)(o:HO):Hp:=λb=>if b=a then some o else H b
theorem bW{H:Hp}{a:wf}{o:HO} : upd H a o a=some o:=by unfold upd;rw[if_pos rfl]
theorem cX{H:Hp}{a b:wf}{o:HO}(h:b≠a):upd H a o b=H b:=by unfold upd;rw[if_neg h]
theorem Ll{H:Hp}{a b:wf}{o u:HO}(h:H a=some o)(h':H b=some u)(d:o≠u):a≠b:=by
 intro e;subst e;rw[h]at h';exact d (wV h')
theorem cW{H:Hp}{a b:wf}{o:HO}(h:H a=some o)(h':H b=none):a≠b:=by
 intro e;subst e;rw[h]at h';cases h'
section
variable(P:wP)(w:wR)
def cz(H:Hp)(h:wK)(a:wf):HO->Prop
 | .lst xs=>xs.length<=wY /\ ∃(its:List we)(n:Nat),aI xs its/\h.get? a=some {cls:=.type "list",data:=.seq its.toArray n}
 | .tup xs=>xs.length<=wY /\ ∃its:List we,aI xs its/\IsTup h a its.toArray
 | .dK kvs=>kvs.length<=wY/\(a == qO)=false /\ ∃vs,KV kvs vs/\h.DictOf (DH P w) a vs
 | .dT kvs=>kvs.length<=wY/\(a == qO)=false /\ ∃xs:List (List Key × wf × we),
     Paired (λ(p:List Key × V)(q:List Key × wf × we)=>p.1=q.1/\H q.2.1=some (.tup (p.1.map kV))/\aT p.2 q.2.2) kvs xs /\
     ∃o es ep,h.get? a=some o/\o.ExactDict/\o.data=.dict es ep/\es.toList=xs.map (entryOfKey (tupleKind (DH P w)))/\(xs.map (·.1)).Nodup
 | .set S n=>h.SetOf (intKind P w) a S n
 | .ins C dx fs=>H dx=some (.own a)/\fs.length<=1000/\dx≠a/\h.get? a=some (u7 C dx) /\
     ∃mA,h.Ns1 dx mA/\(∀f,RS (fs.lookup f) (mA f))/\PySem.Within mA (fs.map (·.1))
 | .own _=>∃o,h.get? a=some o
 | .xd fs=>∃mA,h.Ns1 a mA /\ ∀f,RS (fs.lookup f) (mA f)
 | .rM lo hi=>∃t u v,h.get? a=some {cls:=.type "range",data:=.fields #[.int lo t,.int hi u,.int 1 v]}
 | .fc o u=>h.get? a=some o/\cz H h a u
 | .j5 ps=>h.get? a=some {cls:=.none,data:=.fields ps}
 | .met f x=>h.get? a=some (xy (.ref f) (.ref x))
 | .ext φ=>φ h/\(∃o,h.get? a=some o) /\ ∀h1 h2:wK,φ h1->(∀o,h1.get? a=some o->h2.get? a=some o) -> φ h2
def cH(H:Hp)(h:wK):Prop:=∀a o,H a=some o->cz P w H h a o
end
section
variable{P:wP}{w:wR}{H H':Hp}{h h':wK}{a:wf}{o:HO}
theorem cz.lt(x:cz P w H h a o):a<h.objs.size:=by
 cases o with
 | lst xs=>obtain⟨_,_,_,_,e⟩:=x;exact wF e
 | tup xs=>obtain⟨_,_,_,p⟩:=x;exact p.lt
 | dK kvs=>obtain⟨_,_,_,_,o,_,_,e,_⟩:=x;exact wF e
 | dT kvs=>obtain⟨_,_,_,_,o,_,_,e,_⟩:=x;exact wF e
 | set S n=>obtain⟨o,_,_,_,e,_⟩:=x;exact wF e
 | ins C dx fs=>obtain⟨_,_,_,e,_⟩:=x;exact wF e
 | own y=>obtain⟨_,e⟩:=x;exact wF e
 | xd fs=>obtain⟨_,⟨_,_,_,e,_⟩,_⟩:=x;exact wF e
 | rM lo hi=>obtain⟨_,_,_,e⟩:=x;exact wF e
 | fc ob u=>obtain⟨e,_⟩:=x;exact wF e
 | j5 ps=>exact wF (show h.get? a=some _ from x)
 | met f y=>exact wF (show h.get? a=some _ from x)
 | ext φ=>obtain⟨_,⟨_,e⟩,_⟩:=x;exact wF e
theorem Paired.IC{α β : Type}{F G : α -> β -> Prop} : ∀{l₁ : List α}{l₂ : List β},Paired F l₁ l₂ -> (∀a b,F a b->G a b)->Paired G l₁ l₂
 | _,_,.nil,_=>.nil
 | _,_,.cons r t,f=>.cons (f _ _ r) (Paired.IC t f)
theorem cz.jR(x:cz P w H h a o)(k:∀b u,(b=a\/H b=some (.own a))->h.get? b=some u->h'.get? b=some u)
  (ho:∀b,H b=some (.own a)->H' b=some (.own a)) (ht:∀b xs,H b=some (.tup xs)->H' b=some (.tup xs)):cz P w H' h' a o:=by
 induction o with
 | lst xs=>obtain⟨z,its,n,r,e⟩:=x;exact⟨z,its,n,r,k _ _ (.inl rfl) e⟩
 | tup xs=>obtain⟨z,its,r,ob,e,c⟩:=x;exact⟨z,its,r,ob,k _ _ (.inl rfl) e,c⟩
 | dK kvs=>obtain⟨z,y,vs,r,ob,es,ep,e,c⟩:=x;exact⟨z,y,vs,r,ob,es,ep,k _ _ (.inl rfl) e,c⟩
 | dT kvs =>
  obtain⟨z,y,xs,r,ob,es,ep,e,c⟩:=x;exact⟨z,y,xs,Paired.IC r λp q z=>⟨z.1,ht _ _ z.2.1,z.2.2⟩,ob,es,ep,k _ _ (.inl rfl) e,c⟩
 | set S n=>obtain⟨ob,es,ep,t,e,c⟩:=x;exact⟨ob,es,ep,t,k _ _ (.inl rfl) e,c⟩
 | ins C dx fs =>
  obtain⟨d,z,ne,e,mA,⟨od,es,ep,e2,c⟩,r⟩:=x;exact⟨ho _ d,z,ne,k _ _ (.inl rfl) e,mA,⟨od,es,ep,k _ _ (.inr d) e2,c⟩,r⟩
 | own y=>obtain⟨ob,e⟩:=x;exact⟨ob,k _ _ (.inl rfl) e⟩
 | xd fs=>obtain⟨mA,⟨od,es,ep,e,c⟩,r⟩:=x;exact⟨mA,⟨od,es,ep,k _ _ (.inl rfl) e,c⟩,r⟩
 | rM lo hi=>obtain⟨t,u,v,e⟩:=x;exact⟨t,u,v,k _ _ (.inl rfl) e⟩
 | fc ob u ih=>obtain⟨e,q⟩:=x;exact⟨k _ _ (.inl rfl) e,ih q⟩
 | j5 ps =>
  have e:h.get? a=some {cls:=.none,data:=.fields ps}:=x
  show h'.get? a=some {cls:=.none,data:=.fields ps}
  exact k a _ (.inl rfl) e
 | met f y =>
  have e:h.get? a=some (xy (.ref f) (.ref y)):=x
  show h'.get? a=some (xy (.ref f) (.ref y))
  exact k a _ (.inl rfl) e
 | ext φ=>obtain⟨p,⟨o,e⟩,st⟩:=x;exact⟨st _ _ p λo q=>k _ _ (.inl rfl) q,⟨o,k _ _ (.inl rfl) e⟩,st⟩
theorem cH.lt(x:cH P w H h)(e:H a=some o):a<h.objs.size:=(x a o e).lt
theorem cH.fresh(x:cH P w H h)(e:h.objs.size<=a):H a=none:=by
 cases q:H a with
 | none=>rfl
 | some u=>exact absurd (vF (x.lt q) e) (qg _)
theorem cH.kept(x:cH P w H h)(k:∀b u,h.get? b=some u->h'.get? b=some u):cH P w H h':=λa o e =>
 (x a o e).jR (λb u _ q=>k b u q) (λ_ q=>q) λ_ _ q=>q
theorem cH.laid(x:cH P w H h)(k:∀b u,h.get? b=some u->h'.get? b=some u)(hp:h.objs.size<=a)(new:cz P w (upd H a o) h' a o):cH P w (upd H a o) h':=λb u e=>by
 have hn:=x.fresh hp
 by_cases hb:b=a
 ·subst hb;rw[bW]at e;cases e;exact new
 ·rw[cX hb]at e
  exact(x b u e).jR (λc v _ q=>k c v q) (λc q=>by rw[cX (cW q hn)];exact q) λc xs q=>by rw[cX (cW q hn)];exact q
end
def Rd(H:Hp)(a:wf)(u:HO):Prop:=H a=some u \/ ∃o,H a=some (.fc o u)
theorem Rd.ok{P:wP}{w:wR}{H:Hp}{h:wK}{a:wf}{u:HO}(r:Rd H a u)(x:cH P w H h):cz P w H h a u:=by
 rcases r with r | ⟨o,r⟩
 ·exact x a u r
 ·obtain⟨_,q⟩:=x a _ r
  exact q
def om:Option HO->Prop
 | some (.lst _)=>True
 | some (.dK _)=>True
 | some (.dT _)=>True
 | some (.set _ _)=>True
 | some (.ins _ _ _)=>True
 | some (.ext _)=>True
 | _=>False
section
variable{P:wP}{w:wR}{H:Hp}{h h':wK}{x e:wf}{o':HO}
theorem cH.write(ok:cH P w H h)(mu:om (H x))(he:e=x\/H e=some (.own x))(k:∀b u,b≠e->h.get? b=some u->h'.get? b=some u)(heo:∃u,h'.get? e=some u)
  (new:cz P w (upd H x o') h' x o'):cH P w (upd H x o') h':=λb u q=>by
 have nown:∀c y,H c=some (.own y)->c≠x:=λc y r z=>by subst z;rw[r]at mu;exact mu
 have ntup:∀c xs,H c=some (.tup xs)->c≠x:=λc xs r z=>by subst z;rw[r]at mu;exact mu
 by_cases hb:b=x
 ·subst hb;rw[bW]at q;cases q;exact new
 ·rw[cX hb]at q
  by_cases hbe:b=e
  ·have q':H b=some (.own x):=by
    rcases he with z | z
    ·exact absurd (hbe.trans z) hb
    ·rw[hbe];exact z
   rw[q]at q';cases q';obtain⟨v,hv⟩:=heo;exact⟨v,by rw[hbe];exact hv⟩
  ·refine(ok b u q).jR (λc v hc r=>k c v ?_ r) (λc r=>by rw[cX (nown c b r)];exact r) λc xs r=>by rw[cX (ntup c xs r)];exact r
   rcases hc with rfl | hc
   ·exact hbe
   ·rintro rfl
    rcases he with z | z
    ·exact nown c b hc z
    ·rw[hc]at z;cases z;exact hb rfl
end
structure Un(fs ex:List wf)(H H':Hp)(h h':wK):Prop where
 keep:∀b o,h.get? b=some o->H b=none->b ∉ fs->b ∉ ex->h'.get? b=some o
 slot:∀b o,h.get? b=some o->H b=none->b∈fs->b ∉ ex->∃sl,h'.get? b=some {o with slots:=sl}
 free:∀b o,h.get? b=some o->H b=none->b ∉ ex->H' b=none
 there:∀b o,h.get? b=some o->b ∉ ex->∃o',h'.get? b=some o'
 gE:∀b xs,H b=some (.tup xs)->H' b=some (.tup xs)
 gk:∀b o u,H b=some (.fc o u)->H' b=some (.fc o u)
 gF:∀b ps,H b=some (.j5 ps)->∃more,H' b=some (.j5 (ps++more))
section
variable{fs fs' ex ex':List wf}{H H1 H2:Hp}{h h1 h2 h':wK}{a x e:wf}{o:HO}
theorem Un.any(u:Un fs ex H H1 h h1){b:wf}{ob:Obj}(q:h.get? b=some ob)(n:H b=none)(hx:b ∉ ex):∃sl,h1.get? b=some {ob with slots:=sl}:=by
 by_cases hb:b∈fs
 ·exact u.slot b ob q n hb hx
 ·exact⟨ob.slots,u.keep b ob q n hb hx⟩
theorem Un.kept(k:∀b u,h.get? b=some u->h'.get? b=some u):Un fs ex H H h h' :=
 ⟨λb ob q _ _ _=>k b ob q,λb ob q _ _ _=>⟨ob.slots,k b ob q⟩,λ_ _ _ n _=>n,λb ob q _=>⟨ob,k b ob q⟩,λ_ _ q=>q,λ_ _ _ q=>q,λ_ ps q=>⟨#[],by rw[q];simp⟩⟩
theorem Un.refl:Un fs ex H H h h:=Un.kept λ_ _ q=>q
theorem Un.laid(k:∀b u,h.get? b=some u->h'.get? b=some u)(hp:h.objs.size<=a)(hn:H a=none):Un fs ex H (upd H a o) h h' where
 keep:=λb u q _ _ _=>k b u q
 slot:=λb u q _ _ _=>⟨u.slots,k b u q⟩
 free:=λb u q n _=>by rw[cX (ve (vF (wF q) hp))];exact n
 there:=λb u q _=>⟨u,k b u q⟩
 gE:=λb xs q=>by rw[cX (cW q hn)];exact q
 gk:=λb u xs q=>by rw[cX (cW q hn)];exact q
 gF:=λb ps q=>⟨#[],by rw[cX (cW q hn),q];simp⟩
theorem Un.write(mu:om (H x))(he:e=x\/H e=some (.own x))(k:∀b u,b≠e->h.get? b=some u->h'.get? b=some u)(heo:∃u,h'.get? e=some u):Un fs ex H (upd H x o) h h':=by
 have hx:∀b,H b=none->b≠x:=λb n z=>by subst z;rw[n]at mu;exact mu
 have hb:∀b,H b=none->b≠e:=λb n z=>by
  subst z;rcases he with r | r
  ·exact hx b n r
  ·rw[n]at r;cases r
 have hm:∀b u,H b=some u->¬ om (some u)->b≠x:=λb u q nm z=>by subst z;rw[q]at mu;exact nm mu
 refine⟨λb u q n _ _=>k b u (hb b n) q,λb u q n _ _=>⟨u.slots,k b u (hb b n) q⟩,λb u q n _=>by rw[cX (hx b n)];exact n,λb u q _=>?_,
  λb xs q=>by rw[cX (hm b _ q λz=>z)];exact q,λb u xs q=>by rw[cX (hm b _ q λz=>z)];exact q,λb ps q=>⟨#[],by rw[cX (hm b _ q λz=>z),q];simp⟩⟩
 by_cases hbe:b=e
 ·subst hbe;exact heo
 ·exact⟨u,k b u hbe q⟩
end
def gN(h:wK)(H:Hp):List wf:=(wo h.objs.size).filter λa=>(H a).isSome
def jn(h:wK)(H:Hp):wK:=u8 h (gN h H)
theorem zuP(h:wK)(H:Hp):(jn h H).objs.size=h.objs.size:=PySem.W.hideAll_size _ _
theorem zxp{h:wK}{H:Hp}{b:wf}{o:Obj}(e:h.get? b=some o)(n:H b=none):(jn h H).get? b=some o :=
 XO _ e λhm=>by
  have q:(H b).isSome=true:=(vG.mp hm).2;rw[n]at q;simp at q
theorem Y1{h:wK}{H:Hp}{b:wf}{o:Obj}(e:(jn h H).get? b=some o):h.get? b=some o/\H b=none:=by
 have e':h.get? b=some o:=XV (gN h H) e;refine⟨e',?_⟩;cases q:H b with
 | none=>rfl
 | some x =>
  have hm:b∈gN h H:=vG.mpr ⟨wB.mpr (wF e'),by simp[q]⟩;have z:(jn h H).get? b=none:=PySem.W.hideAll_none (gN h H) hm;rw[z]at e;cases e
def zye(g h:wK)(L:wf):List (wf × Obj):=(wo h.objs.size).filterMap λa=>if a=L\/(g.get? a).isSome=true then none else(h.get? a).map λo=>(a,o)
def rest(g h:wK)(L d:wf):List (wf × Obj):=(zye g h L).filter λp=>decide (p.1≠d)
structure Mod(K:wb)(mg:Str->Option we)(base:wK):Prop where
 pO:K.In base
 glob:base.Ns wU mg
 blt:∃mb,base.Ns builtinsNs mb /\ ∀x:Str,x≠"__name__" -> mb x=Wk x
 nolimit:base.NoLimit
structure Cx where
 prog:wP
 w:wR
 K:wb
 mg:Str->Option we
 base:wK
 A:vj
 N:List Str
 s₀ : wk
 H₀ : Hp
 env:Env
 outer:List Env
 stack:List Env
 ex:List wf
 fn:Str->Bool
 calm:Bool
 pn:List (wf × Obj)
 xe:we->wk->Prop
def cZ(l:List Env):List wf:=l.filterMap (·.frame)
abbrev Cx.fs(X:Cx):List wf:=cZ X.outer
def sQ(sc:Scope)(x:Str):Prop:=sc.names.lookup x=some .local\/sc.names.lookup x=some .cell\/sc.names.lookup x=some .free
def Loc(sc:Scope)(x:Str):Prop:=sc.names.lookup x=some .local\/sc.names.lookup x=some .cell
def zCO(env:Env)(h:wK)(m:Str->Option we)(x:Str)(u:we):Prop :=
 (env.kindOf x=some .local/\m x=some u)\/((env.kindOf x=some .cell\/env.kindOf x=some .free) /\ ∃c,env.cells.lookup x=some c/\h.IsCell c (some u))
structure Cx.Ok(X:Cx):Prop where
 mod:Mod X.K X.mg X.base
 kind:X.env.scope.kind=.function
 glob:X.env.globals=wU
 blt:X.env.builtins=builtinsNs
 above:X.s₀.heap.objs.size<=X.env.locals
 inj:∀x y c,X.env.cells.lookup x=some c->X.env.cells.lookup y=some c->x=y
 has:∀x,(X.env.kindOf x=some .cell\/X.env.kindOf x=some .free)->∃c,X.env.cells.lookup x=some c
 j_:∀x c,X.fn x=true->X.env.cells.lookup x=some c->X.s₀.heap.objs.size<=c
 hd:X.calm=true->X.A.handled=none
 frames:X.A.frames=some X.stack
 kE:X.stack=X.outer\/(X.stack=X.env::X.outer/\X.env.frame=some X.env.locals)
 oo:∀b∈X.ex,b≠X.env.locals /\ ∀x c,X.env.cells.lookup x=some c->c≠b
 bs:∀b o,X.base.get? b=some o->X.s₀.heap.get? b=some o/\X.H₀ b=none
 gW:X.base.objs.size<=X.s₀.heap.objs.size
 jT:∀b o,X.base.get? b=some o->b ∉ X.ex
 kr:∀b∈X.ex,b ∉ X.fs
 eC:X.s₀.heap.FunFrames X.base X.outer
 jc:∀b∈X.fs,X.H₀ b=none
structure Inv(X:Cx)(pins:List (wf × Obj))(σ : List (Option V))(H:Hp)(s:wk):Prop where
 ok:X.Ok
 os:s.os=X.s₀.os
 bare:AllBare s.gens
 base:Un X.fs X.ex X.H₀ H X.s₀.heap s.heap
 loc:∃m,s.heap.Ns X.env.locals m /\ ∀(i:Nat)(x:Str)(v:V),X.N[i]? = some x -> σ[i]? = some (some v)->sQ X.env.scope x->∃u,aT v u/\zCO X.env s.heap m x u
 cell:∀x c,X.env.cells.lookup x=some c->∃v,s.heap.IsCell c v
 free:H X.env.locals=none
 fD:∀x c,X.env.cells.lookup x=some c->H c=none
 pin:∀p∈X.pn++pins,s.heap.get? p.1=some p.2/\H p.1=none/\p.1≠X.env.locals/\p.1 ∉ X.fs /\ ∀v,p.2.data≠.cell v
 aB:cH X.prog X.w H s.heap
 len : σ.length=X.N.length
section
variable{X:Cx}{pins:List (wf × Obj)}{σ : List (Option V)}{H H':Hp}{s:wk}{h':wK}
theorem Cx.Ok.SW(ok:X.Ok){b:wf}{o:Obj}(e:X.base.get? b=some o):b ∉ X.fs:=λhb=>by
 have:=(ok.eC.mem hb).1;rw[e]at this;cases this
theorem Inv.bs(I:Inv X pins σ H s):∀b o,X.base.get? b=some o->s.heap.get? b=some o/\H b=none:=λb o e =>
 ⟨I.base.keep b o (I.ok.bs b o e).1 (I.ok.bs b o e).2 (I.ok.SW e) (I.ok.jT b o e),I.base.free b o (I.ok.bs b o e).1 (I.ok.bs b o e).2 (I.ok.jT b o e)⟩
theorem Inv.bk(I:Inv X pins σ H s):∀b o,X.base.get? b=some o->s.heap.get? b=some o:=λb o e=>(I.bs b o e).1
theorem Inv.mod(I:Inv X pins σ H s):Mod X.K X.mg X.base:=I.ok.mod
theorem Inv.de(I:Inv X pins σ H s):X.K.In s.heap:=I.ok.mod.pO.keeps I.bk
theorem Inv.lt(I:Inv X pins σ H s):X.env.locals<s.heap.objs.size:=let ⟨_,hn,_⟩:=I.loc;hn.lt
theorem Inv.sz(I:Inv X pins σ H s):X.s₀.heap.objs.size<=s.heap.objs.size:=Wi I.ok.above (VX I.lt)
theorem Inv.SX(I:Inv X pins σ H s){a:wf}(h:s.heap.objs.size<=a):a ∉ X.fs:=λhb=>by
 obtain⟨_,o,ho,_⟩:=I.ok.eC.mem hb;exact absurd (vF (wF ho) (Wi I.sz h)) (qg _)
theorem Inv.j6(I:Inv X pins σ H s):∀x c,X.env.cells.lookup x=some c->c≠X.env.locals:=λx c e z=>by
 obtain⟨v,o,ho,hd⟩:=I.cell x c e;obtain⟨m,⟨o',es,ep,ho',hd',_⟩,_⟩:=I.loc;rw[z,ho']at ho;cases ho;rw[hd']at hd;cases hd
theorem Inv.eC(I:Inv X pins σ H s):s.heap.FunFrames X.base X.outer:=by
 have all:∀(l:List Env),(∀b∈cZ l,b∈X.fs)->X.s₀.heap.FunFrames X.base l->s.heap.FunFrames X.base l:=by
  intro l
  induction l with
  | nil=>intro _ _;trivial
  | cons env r ih =>
   intro hs hl;obtain⟨hk,⟨L,o,hf,hn,ho,hd⟩,hr⟩:=hl;have hL:L∈X.fs:=hs L (by unfold cZ;rw[qU,hf];exact wN);obtain⟨sl,e⟩:=I.base.slot L o ho (I.ok.jc L hL) hL λz=>I.ok.kr L z hL
   exact⟨hk,⟨L,_,hf,hn,e,hd⟩,ih (λb hb=>hs b (by unfold cZ;rw[qU,hf];exact wI _ hb)) hr⟩
 exact all X.outer (λ_ hb=>hb) I.ok.eC
theorem Inv.stack(I:Inv X pins σ H s):s.heap.FunFrames X.base X.stack:=by
 rcases I.ok.kE with e | ⟨e,hf⟩
 ·rw[e];exact I.eC
 ·rw[e]
  obtain⟨m,hn,_⟩:=I.loc;refine .cons (by rw[I.ok.kind];decide) hf hn ?_ I.eC;exact Heap.get?_none_of_le (Wi I.ok.gW I.ok.above)
theorem Inv.lP(I:Inv X pins σ H s):∀b∈cZ X.stack,b∈X.env.locals::X.fs:=λb hb=>by
 rcases I.ok.kE with e | ⟨e,hf⟩
 ·rw[e]at hb;exact wI _ hb
 ·rw[e]at hb
  unfold cZ at hb;rw[qU,hf]at hb;exact hb
theorem Inv.p5(I:Inv X pins σ H s):∀b∈cZ X.stack,H b=none:=λb hb=>by
 rcases wE.mp (I.lP b hb)with e | hb
 ·rw[e];exact I.free
 ·obtain⟨_,o,ho,_⟩:=I.ok.eC.mem hb
  exact I.base.free b o ho (I.ok.jc b hb) λz=>I.ok.kr b z hb
theorem Inv.step{g':Array GenState}{t':Nat}{d':Drawn}{ch:List wf}(I:Inv X pins σ H s)
  (hch:∀b∈ch,(b∈X.ex\/X.s₀.heap.objs.size<=b)/\b≠X.env.locals/\(∀x c,X.env.cells.lookup x=some c->c≠b) /\ ∀p∈X.pn++pins,p.1≠b)
  (keep:∀b o,b≠X.env.locals->b ∉ X.fs->b ∉ ch->s.heap.get? b=some o->H b=none->h'.get? b=some o)
  (slot:∀b o,b≠X.env.locals->b∈X.fs->b ∉ ch->s.heap.get? b=some o->H b=none->∃sl,h'.get? b=some {o with slots:=sl}) (free:∀b o,b ∉ ch->s.heap.get? b=some o->H b=none->H' b=none)
  (there:∀b o,b ∉ ch->s.heap.get? b=some o->∃o',h'.get? b=some o')
  (gE:∀b xs,H b=some (.tup xs)->H' b=some (.tup xs)) (gk:∀b o u,H b=some (.fc o u)->H' b=some (.fc o u)) (gF:∀b ps,H b=some (.j5 ps)->∃more,H' b=some (.j5 (ps++more)))
  (ns:∀m,s.heap.Ns X.env.locals m->h'.Ns X.env.locals m) (aB:cH X.prog X.w H' h') (hg:AllBare g') :
  Inv X pins σ H' {s with heap:=h',gens:=g',drawn:=d',toks:=t'}:=by
 have neL:∀b o,X.s₀.heap.get? b=some o->b≠X.env.locals:=λb o e=>ve (vF (wF e) I.ok.above)
 have neC:∀b o,X.s₀.heap.get? b=some o->b ∉ X.ex->b ∉ ch:=λb o e hx hb=>by
  rcases (hch b hb).1 with z | z
  ·exact hx z
  ·exact absurd (vF (wF e) z) (qg _)
 have cellK:∀x c,X.env.cells.lookup x=some c->∀v,s.heap.IsCell c v->h'.IsCell c v:=λx c e v ⟨o,ho,hd⟩=>by
  have nch:c ∉ ch:=λz=>(hch c z).2.2.1 x c e rfl
  by_cases hc:c∈X.fs
  ·obtain⟨sl,q⟩:=slot c o (I.j6 x c e) hc nch ho (I.fD x c e)
   exact⟨_,q,hd⟩
  ·exact⟨o,keep c o (I.j6 x c e) hc nch ho (I.fD x c e),hd⟩
 refine⟨I.ok,I.os,hg,⟨λb o e n hb hx=>?_,λb o e n hb hx=>?_,λb o e n hx=>?_,λb o e hx=>?_,λb xs e=>gE b xs (I.base.gE b xs e),λb o xs e=>gk b o xs (I.base.gk b o xs e),λb ps e=>?_⟩,?_,λx c e=>?_,?_,λx c e=>?_,λp hp=>?_,aB,I.len⟩
 ·exact keep b o (neL b o e) hb (neC b o e hx) (I.base.keep b o e n hb hx) (I.base.free b o e n hx)
 ·obtain⟨sl,e1⟩:=I.base.slot b o e n hb hx
  obtain⟨sl',e2⟩:=slot b _ (neL b o e) hb (neC b o e hx) e1 (I.base.free b o e n hx);exact⟨sl',e2⟩
 ·obtain⟨o',e1⟩:=I.base.there b o e hx
  exact free b o' (neC b o e hx) e1 (I.base.free b o e n hx)
 ·obtain⟨o',e1⟩:=I.base.there b o e hx
  exact there b o' (neC b o e hx) e1
 ·obtain⟨m1,e1⟩:=I.base.gF b ps e
  obtain⟨m2,e2⟩:=gF b _ e1;exact⟨m1++m2,by rw[e2,XW]⟩
 ·obtain⟨m,hn,hl⟩:=I.loc
  refine⟨m,ns m hn,λi x v e1 e2 e3=>?_⟩;obtain⟨u,r,l⟩:=hl i x v e1 e2 e3;refine⟨u,r,?_⟩;rcases l with l | ⟨k,c,e,z⟩
  ·exact .inl l
  ·exact .inr ⟨k,c,e,cellK x c e _ z⟩
 ·obtain⟨v,z⟩:=I.cell x c e
  exact⟨v,cellK x c e v z⟩
 ·obtain⟨m,⟨o,_,_,ho,_⟩,_⟩:=I.loc
  exact free _ o (λz=>(hch _ z).2.1 rfl) ho I.free
 ·obtain⟨v,o,ho,hd⟩:=I.cell x c e
  exact free c o (λz=>(hch c z).2.2.1 x c e rfl) ho (I.fD x c e)
 ·obtain⟨e,n,ne,nf,d⟩:=I.pin p hp
  have nch:p.1 ∉ ch:=λz=>(hch p.1 z).2.2.2 p hp rfl
  exact⟨keep p.1 p.2 ne nf nch e n,free p.1 p.2 nch e n,ne,nf,d⟩
theorem Inv.un{t':Nat}(I:Inv X pins σ H s)(u:Un X.fs [] H H' s.heap h')(aB:cH X.prog X.w H' h'):Inv X pins σ H' {s with heap:=h',toks:=t'}:=by
 obtain⟨m,⟨o,es,ep,ho,r⟩,_⟩:=id I.loc;obtain⟨sl,hL⟩:=u.any ho I.free (by simp)
 exact I.step (g':=s.gens) (d':=s.drawn) (ch:=[]) (λ_ z=>nomatch z) (λb o _ hb _ e n=>u.keep b o e n hb (by simp)) (λb o _ hb _ e n=>u.slot b o e n hb (by simp)) (λb o _ e n=>u.free b o e n (by simp)) (λb o _ e=>u.there b o e (by simp)) u.gE u.gk u.gF (λm' hm=>by
  obtain⟨o',es',ep',ho',r'⟩:=hm;rw[ho]at ho';cases ho';exact⟨_,es',ep',hL,r'⟩) aB I.bare
theorem Inv.call{g':Array GenState}{t':Nat}{d':Drawn}{ch:List wf}(I:Inv X pins σ H s)(u:Un (cZ X.stack) ch H H' s.heap h')(aB:cH X.prog X.w H' h')(hg:AllBare g')
  (hch:∀b∈ch,(b∈X.ex\/X.s₀.heap.objs.size<=b)/\b≠X.env.locals/\(∀x c,X.env.cells.lookup x=some c->c≠b) /\ ∀p∈X.pn++pins,p.1≠b) :
  Inv X pins σ H' {s with heap:=h',gens:=g',drawn:=d',toks:=t'}:=by
 obtain⟨m,⟨o,es,ep,ho,r⟩,_⟩:=id I.loc;obtain⟨sl,hL⟩:=u.any ho I.free λz=>(hch _ z).2.1 rfl
 exact I.step (ch:=ch) hch (λb o hL hb hc e n=>u.keep b o e n (λz=>(wE.mp (I.lP b z)).elim hL hb) hc) (λb o _ _ hc e n=>u.any e n hc) (λb o hc e n=>u.free b o e n hc) (λb o hc e=>u.there b o e hc) u.gE u.gk u.gF (λm' hm=>by
  obtain⟨o',es',ep',ho',r'⟩:=hm;rw[ho]at ho';cases ho';exact⟨_,es',ep',hL,r'⟩) aB hg
theorem Inv.turned{t':Nat}{it:wf}(I:Inv X pins σ H s)(k:∀b o,b≠it->s.heap.get? b=some o->h'.get? b=some o)(hn:H it=none)(hL:it≠X.env.locals)
  (h1:it∈X.ex\/X.s₀.heap.objs.size<=it) (h2:∀x c,X.env.cells.lookup x=some c->c≠it) (h3:∀p∈X.pn++pins,p.1≠it):Inv X pins σ H {s with heap:=h',toks:=t'}:=by
 have nit:∀b u,H b=some u->b≠it:=λb u e z=>by rw[z,hn]at e;cases e
 refine I.step (g':=s.gens) (d':=s.drawn) (ch:=[it]) (λb hb=>?_) (λb o _ _ hc e _=>k b o (λz=>hc (by simp[z])) e) (λb o _ _ hc e _=>⟨o.slots,k b o (λz=>hc (by simp[z])) e⟩) (λ_ _ _ _ n=>n)
  (λb o hc e=>⟨o,k b o (λz=>hc (by simp[z])) e⟩) (λ_ _ e=>e) (λ_ _ _ e=>e) (λb ps e=>⟨#[],by rw[e];simp⟩) (λm hm=>?_) (λb u e=>?_) I.bare
 ·have e:b=it:=by simpa using hb
  subst e;exact⟨h1,hL,h2,h3⟩
 ·obtain⟨o,es,ep,ho,r⟩:=hm
  exact⟨o,es,ep,k _ o (Wz hL) ho,r⟩
 ·refine(I.aB b u e).jR (λc v hc q=>k c v ?_ q) (λ_ q=>q) λ_ _ q=>q
  rcases hc with z | z
  ·rw[z];exact nit b u e
  ·exact nit c _ z
theorem Inv.tok(I:Inv X pins σ H s)(t:Nat):Inv X pins σ H {s with toks:=t}:=I.un (h':=s.heap) (t':=t) Un.refl I.aB
theorem Inv.kept{t':Nat}(I:Inv X pins σ H s)(k:∀b u,s.heap.get? b=some u->h'.get? b=some u):Inv X pins σ H {s with heap:=h',toks:=t'}:=I.un (Un.kept k) (I.aB.kept k)
theorem Inv.laid{a:wf}{o:HO}{t':Nat}(I:Inv X pins σ H s)(k:∀b u,s.heap.get? b=some u->h'.get? b=some u)(hp:s.heap.objs.size<=a)(new:cz X.prog X.w (upd H a o) h' a o) :
  Inv X pins σ (upd H a o) {s with heap:=h',toks:=t'}:=I.un (Un.laid k hp (I.aB.fresh hp)) (I.aB.laid k hp new)
theorem Inv.write{x e:wf}{o:HO}{t':Nat}(I:Inv X pins σ H s)(mu:om (H x))(he:e=x\/H e=some (.own x))(k:∀b u,b≠e->s.heap.get? b=some u->h'.get? b=some u)(heo:∃u,h'.get? e=some u)
  (new:cz X.prog X.w (upd H x o) h' x o):Inv X pins σ (upd H x o) {s with heap:=h',toks:=t'}:=I.un (Un.write mu he k heo) (I.aB.write mu he k heo new)
theorem Inv.Ie{pins':List (wf × Obj)}(I:Inv X pins σ H s)(h:∀p∈pins',s.heap.get? p.1=some p.2/\H p.1=none/\p.1≠X.env.locals/\p.1 ∉ X.fs /\ ∀v,p.2.data≠.cell v):Inv X pins' σ H s :=
 ⟨I.ok,I.os,I.bare,I.base,I.loc,I.cell,I.free,I.fD,λp hp=>(vR.mp hp).elim (λz=>I.pin p (WJ _ z)) (h p),I.aB,I.len⟩
theorem PK{N:List Str}(hN:N.Nodup){i j:Nat}{x:Str}(a:N[i]? = some x)(b:N[j]? = some x):i=j:=by
 obtain⟨h1,e1⟩:=vk.mp a;obtain⟨h2,e2⟩:=vk.mp b;exact(xH hN).mp (e1.trans e2.symm)
theorem Mz{M:Model}{A:vj}{E:we->wk->Prop}{i:Nat}{x:Str}{v:V}{u:we}{Q:Unit->wk->Prop}(I:Inv X pins σ H s)(hN:X.N.Nodup)(hi:X.N[i]? = some x)(hx:Loc X.env.scope x)(r:aT v u)
  (h:∀s',Inv X pins (σ.set i (some v)) H s'->(∃a,vW a s.heap s'.heap/\(a=X.env.locals\/X.env.cells.lookup x=some a))->Q () s') (hf:X.fn x=true\/X.env.scope.names.lookup x=some .local:=by first | exact .inl rfl | exact .inr rfl | assumption):wA M A (storeName X.env x u) Q E s:=by
 obtain⟨m,hn,hl⟩:=id I.loc;have hcls:(X.env.scope.kind == .class || (X.env.scope.kind == .module&&X.env.locals != X.env.globals))=false:=by rw[I.ok.kind];rfl
 have hiσ : i < σ.length:=by rw[I.len];exact(vk.mp hi).1
 have j6:=I.j6
 have tracked:∀{a:wf}{h':wK},(∃o,s.heap.get? a=some o/\H a=none)->vW a s.heap h'->cH X.prog X.w H h':=λ{a h'} ha hs b ob e=>by
  obtain⟨_,_,hfree⟩:=ha;refine(I.aB b ob e).jR (λc w' hc q=>(hs.2 c ?_).trans q) (λ_ q=>q) λ_ _ q=>q
  rintro rfl;rcases hc with rfl | hc
  ·rw[hfree]at e;cases e
  ·rw[hfree]at hc;cases hc
 rcases hx with hk | hk
 ·refine wpAny_storeName_local hk hn (λh' hn' hs=>?_) hcls
  obtain⟨oL,_,_,hoL,_⟩:=id hn;refine h _ ⟨I.ok,I.os,I.bare,⟨λb o e n hb hx=>?_,λb o e n hb hx=>?_,I.base.free,λb o e hx=>?_,I.base.gE,I.base.gk,I.base.gF⟩,⟨_,hn',λj y v' e1 e2 e3=>?_⟩,λy c e=>?_,I.free,I.fD,λp hp=>?_,tracked ⟨oL,hoL,I.free⟩ hs,by simpa using I.len⟩ ⟨_,hs,.inl rfl⟩
  ·exact(hs.2 b (ve (vF (wF e) I.ok.above))).trans (I.base.keep b o e n hb hx)
  ·obtain⟨sl,e1⟩:=I.base.slot b o e n hb hx
   exact⟨sl,(hs.2 b (ve (vF (wF e) I.ok.above))).trans e1⟩
  ·obtain⟨o',e1⟩:=I.base.there b o e hx
   exact⟨o',(hs.2 b (ve (vF (wF e) I.ok.above))).trans e1⟩
  ·by_cases hj:j=i
   ·subst hj
    rw[hi]at e1;cases e1;rw[Xf hiσ]at e2;cases e2;exact⟨u,r,.inl ⟨hk,by simp⟩⟩
   ·rw[Xx (Wz hj)]at e2
    obtain⟨u',r',q⟩:=hl j y v' e1 e2 e3;refine⟨u',r',?_⟩;rcases q with⟨k,e⟩ | ⟨k,c,e,z⟩
    ·refine .inl ⟨k,?_⟩
     have:y≠x:=λe=>hj (PK hN e1 (e ▸ hi))
     simp[this,e]
    ·exact .inr ⟨k,c,e,z.sameBut hs (j6 y c e)⟩
  ·obtain⟨w',z⟩:=I.cell y c e
   exact⟨w',z.sameBut hs (j6 y c e)⟩
  ·obtain⟨e,n,ne,nf,d⟩:=I.pin p hp
   exact⟨(hs.2 p.1 ne).trans e,n,ne,nf,d⟩
 ·have hfn:X.fn x=true:=by
   rcases hf with z | z
   ·exact z
   ·rw[z]at hk;cases hk
  obtain⟨c,hc⟩:=I.ok.has x (.inl hk);obtain⟨w',z⟩:=I.cell x c hc;refine wpAny_storeName_cell I.ok.kind hk hc z (λh' hc' hs=>?_);obtain⟨oc,hoc,hocd⟩:=id z;refine h {s with heap:=h'} ⟨I.ok,I.os,I.bare,⟨λb o e n hb hx=>?_,λb o e n hb hx=>?_,I.base.free,λb o e hx=>?_,I.base.gE,I.base.gk,I.base.gF⟩,⟨m,hn.sameBut hs (Wz (j6 x c hc)),λj y v' e1 e2 e3=>?_⟩,λy c' e=>?_,I.free,I.fD,λp hp=>?_,tracked ⟨oc,hoc,I.fD x c hc⟩ hs,by simpa using I.len⟩ ⟨c,hs,.inr hc⟩
  ·exact(hs.2 b (ve (vF (wF e) (I.ok.j_ x c hfn hc)))).trans (I.base.keep b o e n hb hx)
  ·obtain⟨sl,e1⟩:=I.base.slot b o e n hb hx
   exact⟨sl,(hs.2 b (ve (vF (wF e) (I.ok.j_ x c hfn hc)))).trans e1⟩
  ·obtain⟨o',e1⟩:=I.base.there b o e hx
   exact⟨o',(hs.2 b (ve (vF (wF e) (I.ok.j_ x c hfn hc)))).trans e1⟩
  ·by_cases hj:j=i
   ·subst hj
    rw[hi]at e1;cases e1;rw[Xf hiσ]at e2;cases e2;exact⟨u,r,.inr ⟨.inl hk,c,hc,hc'⟩⟩
   ·rw[Xx (Wz hj)]at e2
    obtain⟨u',r',q⟩:=hl j y v' e1 e2 e3;refine⟨u',r',?_⟩;rcases q with q | ⟨k,c',e,z'⟩
    ·exact .inl q
    ·refine .inr ⟨k,c',e,z'.sameBut hs ?_⟩
     rintro rfl;exact hj (PK hN e1 (I.ok.inj _ _ _ e hc ▸ hi))
  ·by_cases hcc:c'=c
   ·subst hcc;exact⟨_,hc'⟩
   ·obtain⟨w2,z2⟩:=I.cell y c' e
    exact⟨w2,z2.sameBut hs hcc⟩
  ·obtain⟨e,n,ne,nf,d⟩:=I.pin p hp
   refine⟨(hs.2 p.1 ?_).trans e,n,ne,nf,d⟩;intro q;rw[q,hoc]at e;have q':oc=p.2:=wV e;exact d w' (by rw[<- q'];exact hocd)
theorem oj{M:Model}{A:vj}{E:we->wk->Prop}{i:Nat}{x:Str}{v:V}{u:we}{Q:Unit->wk->Prop}(I:Inv X pins σ H s)(hN:X.N.Nodup)(hi:X.N[i]? = some x)(hx:Loc X.env.scope x)(r:aT v u)
  (h:∀s',Inv X pins (σ.set i (some v)) H s'->Q () s') (hf:X.fn x=true\/X.env.scope.names.lookup x=some .local:=by first | exact .inl rfl | exact .inr rfl | assumption):wA M A (storeName X.env x u) Q E s :=
 Mz I hN hi hx r (λs' I' _=>h s' I') hf
theorem Inv.Iu{s':wk}{ch:List wf}(I:Inv X pins σ H s)(ho:s'.os=s.os)(u:Un (cZ X.stack) ch H H' s.heap s'.heap)(aB:cH X.prog X.w H' s'.heap)(hg:AllBare s'.gens)
  (hch:∀b∈ch,(b∈X.ex\/X.s₀.heap.objs.size<=b)/\b≠X.env.locals/\(∀x c,X.env.cells.lookup x=some c->c≠b) /\ ∀p∈X.pn++pins,p.1≠b):Inv X pins σ H' s':=by
 obtain⟨h',g',d',t',o'⟩:=s';have e:o'=s.os:=ho;subst e;exact I.call (g':=g') (t':=t') (d':=d') u aB hg hch
end
abbrev XK:=we->Option wf->Hp->Prop
abbrev St:=List (Option V)
abbrev VK:=V->Hp->Prop
abbrev TE:=St->Hp->VK->Prop
abbrev TT:=St->Hp->(Bool->Hp->Prop)->Prop
abbrev TA:=St->Hp->(List V->Hp->Prop)->Prop
structure bY where
 nx:St->Hp->Prop
 rt:VK
 bk:St->Hp->Prop:=λ_ _=>False
 ct:St->Hp->Prop:=λ_ _=>False
abbrev TS:=bY->St->Hp->Prop
def EP(X:Cx)(pins:List (wf × Obj))(σ : St)(Q:VK)(u:we)(s':wk):Prop:=∃v H',Inv X pins σ H' s'/\aT v u/\Q v H'
def TP(X:Cx)(pins:List (wf × Obj))(σ : St)(Q:Bool->Hp->Prop)(b:Bool)(s':wk):Prop:=∃H',Inv X pins σ H' s'/\Q b H'
def AP(X:Cx)(pins:List (wf × Obj))(σ : St)(Q:List V->Hp->Prop)(us:List we)(s':wk):Prop:=∃vs H',Inv X pins σ H' s'/\aI vs us/\Q vs H'
def SP(X:Cx)(pins:List (wf × Obj))(D:bY)(f:Flow)(s':wk):Prop :=
 match f with
 | .next=>∃σ' H',Inv X pins σ' H' s'/\D.nx σ' H'
 | .brk=>∃σ' H',Inv X pins σ' H' s'/\D.bk σ' H'
 | .cont=>∃σ' H',Inv X pins σ' H' s'/\D.ct σ' H'
 | .ret u=>∃v σ' H',Inv X pins σ' H' s'/\aT v u/\D.rt v H'
def PE(X:Cx)(e:Expr)(t:TE):Prop :=
 ∀(pins:List (wf × Obj))(s:wk)(σ : St)(H:Hp)(Q:VK),Inv X pins σ H s->t σ H Q->wA (model X.prog X.w) X.A (eval e X.env) (EP X pins σ Q) X.xe s
def PT(X:Cx)(e:Expr)(t:TT):Prop :=
 ∀(pins:List (wf × Obj))(s:wk)(σ : St)(H:Hp)(Q:Bool->Hp->Prop),Inv X pins σ H s->t σ H Q->wA (model X.prog X.w) X.A (isTrue e X.env (eval e X.env)) (TP X pins σ Q) X.xe s
def PW(X:Cx)(e:Expr)(t:TT):Prop :=
 ∀(whole:Sem we)(pins:List (wf × Obj))(s:wk)(σ : St)(H:Hp)(Q:Bool->Hp->Prop),Inv X pins σ H s->t σ H Q->wA (model X.prog X.w) X.A (isTrue e X.env whole) (TP X pins σ Q) X.xe s
theorem PW.pt{X:Cx}{e:Expr}{t:TT}(h:PW X e t):PT X e t:=h _
def PA(X:Cx)(es:List Expr)(t:TA):Prop :=
 ∀(pos:Pos)(pins:List (wf × Obj))(s:wk)(σ : St)(H:Hp)(Q:List V->Hp->Prop),Inv X pins σ H s->t σ H Q->wA (model X.prog X.w) X.A (spliced (Vn pos (vg es X.env))) (AP X pins σ Q) X.xe s
def PS(X:Cx)(st:vD)(t:TS):Prop :=
 ∀(pins:List (wf × Obj))(s:wk)(σ : St)(H:Hp)(D:bY),Inv X pins σ H s->t D σ H->wA (model X.prog X.w) X.A (exec st X.env) (SP X pins D) X.xe s
def fh(X:Cx)(st:List vD)(t:TS):Prop :=
 ∀(pins:List (wf × Obj))(s:wk)(σ : St)(H:Hp)(D:bY),Inv X pins σ H s->t D σ H->wA (model X.prog X.w) X.A (execs st X.env) (SP X pins D) X.xe s
theorem aE{α : Type}{t:Sem α}{Q Q' : α -> wk->Prop}{M:Model}{A:vj}{E:we->wk->Prop}{s:wk}(h:wA M A t Q E s)(hQ:∀a s,Q a s->Q' a s):wA M A t Q' E s:=WC h hQ λ_ _ x=>x
section
variable{X:Cx}
def gY(i:Nat):TE:=λσ H Q=>∃v,σ[i]? = some (some v)/\Q v H
def tC(v:V):TE:=λ_ H Q=>Q v H
theorem zBA{i:Nat}{x:Str}{pos:Pos}(hN:X.N[i]? = some x)(hv:sQ X.env.scope x)(hd:(x == ("__debug__" : Str))=false:=by decide)(hcd:(x == ("__classdict__" : Str))=false:=by decide):PE X (.Name x pos) (gY i):=by
 intro pins s σ H Q I h;obtain⟨v,e,h⟩:=h;obtain⟨m,hn,hl⟩:=I.loc;obtain⟨u,r,l⟩:=hl i x v hN e hv;have fin:EP X pins σ Q u s:=⟨v,H,I,r,h⟩;rcases l with⟨hk,hm⟩ | ⟨hk,c,hc,hcell⟩
 ·exact wpAny_Name (wpAny_loadName_local I.ok.kind hk hn hm fin) hd
 ·rcases hk with hk | hk
  ·exact wpAny_Name (wpAny_loadName_cell I.ok.kind hk hc hcell fin) hd
  ·exact wpAny_Name (wpAny_loadName_free I.ok.kind hk hc hcell fin hcd) hd
theorem aC{i j pos} : PE X (.Constant (.int i) j pos) (tC (.int i)):=λ_ _ _ H _ I h=>wpAny_Constant_int ⟨.int i,H,I.tok _,⟨_,rfl⟩,h⟩
theorem dY{b j pos} : PE X (.Constant (.bool b) j pos) (tC (.bl b)):=λ_ _ _ H _ I h=>Constant_bool ⟨.bl b,H,I,rfl,h⟩
theorem oJ{j pos} : PE X (.Constant .none j pos) (tC .aZ):=λ_ _ _ H _ I h=>Constant_none ⟨.aZ,H,I,rfl,h⟩
theorem fJ{x j pos} : PE X (.Constant (.str x) j pos) (tC (.str x)):=λ_ _ _ H _ I h=>Calls.Constant_str ⟨.str x,H,I.tok _,⟨_,rfl⟩,h⟩
def Gl(X:Cx)(x:Str):Prop:=X.env.kindOf x=some .globalImplicit
theorem nF{E:we->wk->Prop}{pins:List (wf × Obj)}{s:wk}{σ : St}{H:Hp}{x:Str}{u:we}{pos:Pos}{Q:we->wk->Prop}(I:Inv X pins σ H s)(hg:Gl X x)(hm:X.mg x=some u)(h:Q u s)
  (hd:(x == ("__debug__" : Str))=false:=by decide):wA (model X.prog X.w) X.A (eval (.Name x pos) X.env) Q E s :=
 xp I.ok.kind hg (Calls.loadGlobal_global (by rw[I.ok.glob];exact I.mod.glob.keeps I.bk) hm h) hd
theorem gb{E:we->wk->Prop}{pins:List (wf × Obj)}{s:wk}{σ : St}{H:Hp}{x:Str}{u:we}{pos:Pos}{Q:we->wk->Prop}(I:Inv X pins σ H s)(hg:Gl X x)(hm:X.mg x=none)(hv:Wk x=some u)(h:Q u s)
  (hn:x≠"__name__":=by decide) (hd:(x == ("__debug__" : Str))=false:=by decide):wA (model X.prog X.w) X.A (eval (.Name x pos) X.env) Q E s:=by
 obtain⟨mb,h1,h2⟩:=I.mod.blt;exact xp I.ok.kind hg (Calls.loadGlobal_builtin (by rw[I.ok.glob];exact I.mod.glob.keeps I.bk) hm (by rw[I.ok.blt];exact h1.keeps I.bk) ((h2 x hn).trans hv) h) hd
theorem fk{x:Str}{v:V}{u:we}{pos:Pos}(hg:Gl X x)(hm:X.mg x=some u)(r:aT v u)(hd:(x == ("__debug__" : Str))=false:=by decide):PE X (.Name x pos) (tC v) :=
 λ_ _ _ H _ I h=>nF I hg hm ⟨v,H,I,r,h⟩ hd
theorem jF{x:Str}{v:V}{u:we}{pos:Pos}(hg:Gl X x)(hm:X.mg x=none)(hv:Wk x=some u)(r:aT v u)(hn:x≠"__name__":=by decide)(hd:(x == ("__debug__" : Str))=false:=by decide):PE X (.Name x pos) (tC v) :=
 λ_ _ _ H _ I h=>gb I hg hm hv ⟨v,H,I,r,h⟩ hn hd
def t2I(ta tb:TE)(k:Int->Int->Hp->Prop):St->Hp->Prop:=λσ H=>ta σ H λx H1=>tb σ H1 λy H2=>∃i j,x=.int i/\y=.int j/\k i j H2
variable{a b:Expr}{ta tb:TE}{pos:Pos}
def PC(X:Cx)(op:CmpOp)(a b:Expr)(t:TE):Prop :=
 ∀(pins:List (wf × Obj))(s:wk)(σ : St)(H:Hp)(Q:VK),Inv X pins σ H s->t σ H Q ->
  wA (model X.prog X.w) X.A (eval a X.env) (λv s₁=>wA (model X.prog X.w) X.A (eval b X.env) (λu s₂=>wA (model X.prog X.w) X.A (wW op v u) (EP X pins σ Q) X.xe s₂) X.xe s₁) X.xe s
theorem zxF(b:Expr){op:CmpOp}(h:op≠.In)(h2:op≠.NotIn):qh op b=false:=by
 have e1:(op == CmpOp.In)=false:=by cases op<;>first | rfl | exact absurd rfl h
 have e2:(op == CmpOp.NotIn)=false:=by cases op<;>first | rfl | exact absurd rfl h2
 cases b<;>simp[qh,e1,e2]
def mE(p:Int->Int->Bool)(ta tb:TE):TE:=λσ H Q=>t2I ta tb (λi j H2=>Q (.bl (p i j)) H2) σ H
abbrev tLt:TE->TE->TE:=mE λi j=>decide (i<j)
abbrev tLe:TE->TE->TE:=mE λi j=>decide (i<=j)
abbrev tGt:TE->TE->TE:=mE λi j=>decide (j<i)
abbrev tGe:TE->TE->TE:=mE λi j=>decide (j<=i)
abbrev zDc:TE->TE->TE:=mE λi j=>decide (i=j)
abbrev zDb:TE->TE->TE:=mE λi j=>!decide (i=j)
def tB(t:TE):TT:=λσ H Q=>t σ H λx H1=>∃c,x=.bl c/\Q c H1
theorem YW{op:CmpOp}{t:TE}(h:PC X op a b t)(h1:qh op b=false:=by first | exact zxF _ (by decide) (by decide) | rfl):PT X (.Compare a [op] [b] pos) (tB t):=by
 intro pins s σ H Q I hw;refine wpAny_isTrue_Compare1 (aE (h pins s σ H _ I hw) λv s1 h1=>aE h1 λu s2 h2=>aE h2 λc s3 ⟨x,H1,I1,r1,q1⟩=>?_) h1;obtain⟨d,rfl,q⟩:=q1;cases r1;exact WG ⟨H1,I1,q⟩
theorem cw{e:Expr}{t:TE}(h:PE X e t)(he:∀whole,isTrue e X.env whole=(do let v <- whole;standAt e.pos;holding [v] (truthy v)):=by intro _;rfl):PT X e (tB t):=by
 intro pins s σ H Q I hw;refine isTrue_plain (aE (h pins s σ H _ I hw) λv s1 ⟨x,H1,I1,r1,q1⟩=>?_) (he _);obtain⟨d,rfl,q⟩:=q1;cases r1;exact WG ⟨H1,I1,q⟩
variable{tA tB':TT}{rest:List Expr}
def IY(t u:TT):TT:=λσ H Q=>t σ H λc H1=>if c=true then u σ H1 Q else Q false H1
def Kp(t u:TT):TT:=λσ H Q=>t σ H λc H1=>if c=true then Q true H1 else u σ H1 Q
def RU(t:TT):TT:=λσ H Q=>t σ H λc H1=>Q (!c) H1
theorem M6(ha:PT X a tA):PW X (.BoolOp .And [a] pos) tA:=by
 intro wh pins s σ H Q I h;refine isTrue_and (aE (ha pins s σ H Q I h) λc s1 e=>?_);cases c with
 | true=>exact isTrue_and_nil e
 | false=>exact e
theorem hW(ha:PT X a tA):PW X (.BoolOp .Or [a] pos) tA:=by
 intro wh pins s σ H Q I h;refine isTrue_or (aE (ha pins s σ H Q I h) λc s1 e=>?_);cases c with
 | false=>exact isTrue_or_nil e
 | true=>exact e
theorem Mg(ha:PT X a tA)(hb:PW X (.BoolOp .And (b::rest) pos) tB'):PW X (.BoolOp .And (a::b::rest) pos) (IY tA tB'):=by
 intro wh pins s σ H Q I h;refine isTrue_and (aE (ha pins s σ H _ I h) λc s1 ⟨H1,I1,q1⟩=>?_);cases c with
 | true=>exact hb wh pins s1 σ H1 Q I1 q1
 | false=>exact⟨H1,I1,q1⟩
theorem f_(ha:PT X a tA)(hb:PW X (.BoolOp .Or (b::rest) pos) tB'):PW X (.BoolOp .Or (a::b::rest) pos) (Kp tA tB'):=by
 intro wh pins s σ H Q I h;refine isTrue_or (aE (ha pins s σ H _ I h) λc s1 ⟨H1,I1,q1⟩=>?_);cases c with
 | true=>exact⟨H1,I1,q1⟩
 | false=>exact hb wh pins s1 σ H1 Q I1 q1
theorem cE(ha:PT X a tA):PT X (.UnaryOp .Not a pos) (RU tA):=by
 intro pins s σ H Q I h;exact isTrue_not (ha pins s σ H (λc H1=>Q (!c) H1) I h)
def MZ(ta tb:TE):TE:=λσ H Q=>ta σ H λx H1=>∃c,x=.bl c/\if c=true then tb σ H1 Q else Q (.bl false) H1
def I0(ta:TE):TE:=λσ H Q=>ta σ H λx H1=>∃c,x=.bl c/\Q (.bl (!c)) H1
theorem fY{op}{t:TE}(h:PE X a t):PE X (.BoolOp op [a] pos) t:=λpins s σ H Q I hw=>BoolOp_one (h pins s σ H Q I hw)
theorem eS(ha:PE X a ta)(hb:PE X (.BoolOp .And (b::rest) pos) tb):PE X (.BoolOp .And (a::b::rest) pos) (MZ ta tb):=by
 intro pins s σ H Q I h;refine BoolOp_and (aE (ha pins s σ H _ I h) λv s1 ⟨x,H1,I1,r1,q1⟩=>?_);obtain⟨c,rfl,q1⟩:=q1;cases r1;refine WG ?_;cases c with
 | true=>exact hb pins s1 σ H1 Q I1 q1
 | false=>exact⟨.bl false,H1,I1,rfl,q1⟩
theorem pP(ha:PE X a ta):PE X (.UnaryOp .Not a pos) (I0 ta):=by
 intro pins s σ H Q I h;refine UnaryOp_ (aE (ha pins s σ H _ I h) λv s1 ⟨x,H1,I1,r1,q1⟩=>?_);obtain⟨c,rfl,q1⟩:=q1;cases r1;exact not_of (WG ⟨.bl (!c),H1,I1,rfl,q1⟩)
def O6(t:TT)(ta tb:TE):TE:=λσ H Q=>t σ H λc H1=>if c=true then ta σ H1 Q else tb σ H1 Q
theorem Lg{c:Expr}(hc:PT X c tA)(ha:PE X a ta)(hb:PE X b tb):PE X (.IfExp c a b pos) (O6 tA ta tb):=by
 intro pins s σ H Q I h;refine wpAny_IfExp (aE (hc pins s σ H _ I h) λd s1 ⟨H1,I1,q1⟩=>?_);cases d with
 | true=>exact ha pins s1 σ H1 Q I1 q1
 | false=>exact hb pins s1 σ H1 Q I1 q1
end
def aG(K:wb)(H:Hp)(a:wf)(xs:List V):Prop :=
 Rd H a (.lst xs) \/
  ∃(o:Obj)(its:Array we)(n:Nat),K.lookup a=some o/\o.cls=.type "list"/\o.dict=none/\o.data=.seq its n/\its.size<=wY/\aI xs its.toList
def aF(K:wb)(H:Hp)(a:wf)(xs:List V):Prop :=
 Rd H a (.tup xs) \/
  ∃(o:Obj)(its:Array we)(n:Nat),K.lookup a=some o/\o.cls=.type "tuple"/\o.data=.seq its n/\its.size<=wY/\aI xs its.toList
def zC5:we->Option V
 | .none=>some .aZ
 | .bool b=>some (.bl b)
 | .int i _=>some (.int i)
 | .str x _=>some (.str x)
 | .bytes b _=>some (.byt b)
 | .float b _=>some (.lE b)
 | .ref a=>some (.ref a)
 | .type n=>some (.ty n)
 | _=>none
theorem aT.abs{x:V}{u:we}(r:aT x u):zC5 u=some x:=by
 cases x with
 | aZ=>cases r;rfl
 | bl _=>cases r;rfl
 | int _=>obtain⟨t,rfl⟩:=r;rfl
 | str _=>obtain⟨t,rfl⟩:=r;rfl
 | byt _=>obtain⟨t,rfl⟩:=r;rfl
 | lE _=>obtain⟨t,rfl⟩:=r;rfl
 | ref _=>cases r;rfl
 | ty _=>cases r;rfl
theorem aT.inj{x y:V}{u:we}(r:aT x u)(q:aT y u):x=y:=wV (r.abs.symm.trans q.abs)
theorem aI.inj:∀{xs ys:List V}{us:List we},aI xs us->aI ys us->xs=ys
 | _,_,_,.nil,.nil=>rfl
 | _,_,_,.cons r t,.cons r' t'=>by rw[r.inj r',aI.inj t t']
section
variable{X:Cx}{pins:List (wf × Obj)}{σ : St}{H:Hp}{s:wk}{a:wf}{xs ys:List V}
theorem aG.of{K:wb}(h:H a=some (.lst xs)):aG K H a xs:=.inl (.inl h)
theorem aF.of{K:wb}(h:H a=some (.tup xs)):aF K H a xs:=.inl (.inl h)
theorem Inv.list(I:Inv X pins σ H s)(h:aG X.K H a xs):∃its:List we,aI xs its/\PlainL s.heap a its.toArray/\xs.length<=wY:=by
 rcases h with h | ⟨o,its,n,hk,hc,hd,hs,hz,r⟩
 ·obtain⟨z,its,n,r,e⟩:=h.ok I.aB
  exact⟨its,r,⟨_,n,e,rfl,rfl,rfl⟩,z⟩
 ·refine⟨its.toList,r,⟨o,n,I.de a o hk,hc,hd,by simpa using hs⟩,?_⟩
  have e:=r.length;simp only[wD]at e
  lia
theorem Inv.tuple(I:Inv X pins σ H s)(h:aF X.K H a xs):∃its:List we,aI xs its/\IsTup s.heap a its.toArray/\xs.length<=wY:=by
 rcases h with h | ⟨o,its,n,hk,hc,hs,hz,r⟩
 ·obtain⟨z,its,r,p⟩:=h.ok I.aB
  exact⟨its,r,p,z⟩
 ·refine⟨its.toList,r,⟨o,I.de a o hk,hc,n,by simpa using hs⟩,?_⟩
  have e:=r.length;simp only[wD]at e
  lia
theorem Inv.A0(I:Inv X pins σ H s)(h:aG X.K H a xs)(h':aG X.K H a ys):xs=ys:=by
 obtain⟨its,r,⟨o,n,e,_,_,d⟩,_⟩:=I.list h;obtain⟨its',r',⟨o',n',e',_,_,d'⟩,_⟩:=I.list h';rw[e]at e';cases e';rw[d]at d'
 injection d' with d1 _
 have:its=its':=by simpa using congrArg UW d1
 subst this;exact r.inj r'
theorem Inv.pY(I:Inv X pins σ H s)(h:aF X.K H a xs)(h':aF X.K H a ys):xs=ys:=by
 obtain⟨its,r,⟨o,e,_,n,d⟩,_⟩:=I.tuple h;obtain⟨its',r',⟨o',e',_,n',d'⟩,_⟩:=I.tuple h';rw[e]at e';cases e';rw[d]at d'
 injection d' with d1 _
 have:its=its':=by simpa using congrArg UW d1
 subst this;exact r.inj r'
end
abbrev Cx.iA(X:Cx)(E:we->wk->Prop):Cx:={X with xe:=E}
abbrev Cx.Ag(X:Cx):Cx:=X.iA λ_ _=>False
theorem Cx.Ok.iA{X:Cx}(ok:X.Ok)(E:we->wk->Prop):(X.iA E).Ok :=
 ⟨ok.mod,ok.kind,ok.glob,ok.blt,ok.above,ok.inj,ok.has,ok.j_,ok.hd,ok.frames,ok.kE,ok.oo,ok.bs,ok.gW,ok.jT,ok.kr,ok.eC,ok.jc⟩
theorem Cx.Ok.jO{X:Cx}{E:we->wk->Prop}(ok:(X.iA E).Ok):X.Ok :=
 ⟨ok.mod,ok.kind,ok.glob,ok.blt,ok.above,ok.inj,ok.has,ok.j_,ok.hd,ok.frames,ok.kE,ok.oo,ok.bs,ok.gW,ok.jT,ok.kr,ok.eC,ok.jc⟩
section
variable{X:Cx}{pins:List (wf × Obj)}{σ : St}{H:Hp}{s:wk}{E:we->wk->Prop}
theorem Inv.iA(I:Inv X pins σ H s)(E:we->wk->Prop):Inv (X.iA E) pins σ H s:=⟨I.ok.iA E,I.os,I.bare,I.base,I.loc,I.cell,I.free,I.fD,I.pin,I.aB,I.len⟩
theorem Inv.jO(I:Inv (X.iA E) pins σ H s):Inv X pins σ H s:=⟨I.ok.jO,I.os,I.bare,I.base,I.loc,I.cell,I.free,I.fD,I.pin,I.aB,I.len⟩
theorem SP.jO{D:bY}{f:Flow}{s':wk}(h:SP (X.iA E) pins D f s'):SP X pins D f s':=by
 cases f with
 | next=>obtain⟨σ',H',I,q⟩:=h;exact⟨σ',H',I.jO,q⟩
 | brk=>obtain⟨σ',H',I,q⟩:=h;exact⟨σ',H',I.jO,q⟩
 | cont=>obtain⟨σ',H',I,q⟩:=h;exact⟨σ',H',I.jO,q⟩
 | ret u=>obtain⟨v,σ',H',I,r,q⟩:=h;exact⟨v,σ',H',I.jO,r,q⟩
theorem fh.Ag{st:List vD}{t:TS}(h:fh X.Ag st t):fh X st t:=λpins s σ H D I hw =>
 WC (h pins s σ H D (I.iA _) hw) (λ_ _ q=>q.jO) λ_ _ z=>Vg z
end
section
variable{X:Cx}{st:vD}{rest:List vD}{t u:TS}{e:Expr}{te:TE}{pos:Pos}
def PX:TS:=λD σ H=>D.nx σ H
def Cu(t u:TS):TS:=λD σ H=>t {D with nx:=u D} σ H
theorem b7:fh X [] PX:=λ_ _ σ H _ I h=>qZ ⟨σ,H,I,h⟩
theorem ah(h1:PS X st t)(h2:fh X rest u):fh X (st::rest) (Cu t u):=by
 intro pins s σ H D I h;refine wpAny_execs_cons (aE (h1 pins s σ H {D with nx:=u D} I h) λf s1 q=>?_);cases f with
 | next =>
  obtain⟨σ',H',I',q⟩:=q;exact h2 pins s1 σ' H' D I' q
 | ret v=>exact q
 | brk=>exact q
 | cont=>exact q
theorem aq(h1:PS X st t):fh X [st] t:=by
 intro pins s σ H D I h;refine wpAny_execs_cons (aE (h1 pins s σ H D I h) λf s1 q=>?_);cases f with
 | next=>exact qZ q
 | ret v=>exact q
 | brk=>exact q
 | cont=>exact q
theorem Inv.quiet{pins:List (wf × Obj)}{σ : St}{H:Hp}{s:wk}(I:Inv X pins σ H s):interactive X.env=false:=by simp[interactive,I.ok.kind]
def OW(te:TE):TS:=λD σ H=>te σ H λ_ H1=>D.nx σ H1
theorem h_(he:PE X e te)(hs:swapsWith e none pos.line X.env=pure false:=by rfl):PS X (.Expr e pos) (OW te):=by
 intro pins s σ H D I h;exact wpAny_Expr_any (aE (he pins s σ H _ I h) λv s1 ⟨x,H1,I1,r1,q1⟩=>⟨σ,H1,I1,q1⟩) I.quiet hs
def Ac(te:TE):TS:=λD σ H=>te σ H D.rt
theorem aH(he:PE X e te):PS X (.Return (some e) pos) (Ac te):=by
 intro pins s σ H D I h;exact wpAny_Return_some (aE (he pins s σ H _ I h) λv s1 ⟨x,H1,I1,r1,q1⟩=>⟨x,σ,H1,I1,r1,q1⟩)
def Kd(c:TT)(t u:TS):TS:=λD σ H=>c σ H λb H1=>if b=true then t D σ H1 else u D σ H1
theorem bZ{c:Expr}{a b:List vD}{tc:TT}(hc:PT X c tc)(ha:fh X a t)(hb:fh X b u):PS X (.If c a b pos) (Kd tc t u):=by
 intro pins s σ H D I h;refine wpAny_If (aE (hc pins s σ H _ I h) λd s1 ⟨H1,I1,q1⟩=>?_);cases d with
 | true=>exact ha pins s1 σ H1 D I1 q1
 | false=>exact hb pins s1 σ H1 D I1 q1
def zBr:TS:=λ_ _ _=>False
theorem N4:PS X st zBr:=λ_ _ _ _ _ _ h=>h.elim
end
abbrev TG:=V->St->Hp->(St->Hp->Prop)->Prop
abbrev jK:=List V->St->Hp->(St->Hp->Prop)->Prop
def PG(X:Cx)(target:Expr)(t:TG):Prop :=
 ∀(pins:List (wf × Obj))(s:wk)(σ : St)(H:Hp)(v:V)(u:we)(Q:St->Hp->Prop),Inv X pins σ H s->aT v u->t v σ H Q ->
  wA (model X.prog X.w) X.A (assign target X.env u) (λ_ s'=>∃σ' H',Inv X pins σ' H' s'/\Q σ' H') X.xe s
def sA(X:Cx)(ts:List Expr)(t:jK):Prop :=
 ∀(pins:List (wf × Obj))(s:wk)(σ : St)(H:Hp)(vs:List V)(us:List we)(Q:St->Hp->Prop),Inv X pins σ H s->aI vs us->t vs σ H Q ->
  wA (model X.prog X.w) X.A (assignInOrder ((assignEach ts X.env).map (·.2)) us) (λ_ s'=>∃σ' H',Inv X pins σ' H' s'/\Q σ' H') X.xe s
abbrev yo:=V->V->V->Hp->(Hp->Prop)->Prop
def IP(X:Cx)(t:yo):Prop :=
 ∀(pins:List (wf × Obj))(s:wk)(σ : St)(H:Hp)(o i v:V)(ov iv u:we)(Q:Hp->Prop),Inv X pins σ H s->aT o ov->aT i iv->aT v u->t o i v H Q ->
  wA (model X.prog X.w) X.A (setItem ov iv u) (λ_ s'=>∃H',Inv X pins σ H' s'/\Q H') X.xe s
abbrev nJ:=V->V->Hp->VK->Prop
def My(X:Cx)(op:Operator)(t:nJ):Prop :=
 ∀(pins:List (wf × Obj))(s:wk)(σ : St)(H:Hp)(x y:V)(v u:we)(Q:VK),Inv X pins σ H s->aT x v->aT y u->t x y H Q ->
  wA (model X.prog X.w) X.A (inplaceOp op v u) (EP X pins σ Q) X.xe s
section
variable{X:Cx}{pos:Pos}
def iH(i:Nat):TG:=λv σ H Q=>Q (σ.set i (some v)) H
theorem aN{i:Nat}{x:Str}(hN:X.N.Nodup)(hi:X.N[i]? = some x)(hx:Loc X.env.scope x)(hf:X.fn x=true\/X.env.scope.names.lookup x=some .local:=by first | exact .inl rfl | exact .inr rfl | assumption):PG X (.Name x pos) (iH i):=by
 intro pins s σ H v u Q I r h;exact wpAny_assign_Name (oj I hN hi hx r (λs' I'=>⟨_,H,I',h⟩) hf)
def MT:jK:=λvs σ H Q=>vs=[]/\Q σ H
def RW(t:TG)(u:jK):jK:=λvs σ H Q=>∃v r,vs=v::r/\t v σ H λσ' H'=>u r σ' H' Q
theorem gB:sA X [] MT:=by
 intro pins s σ H vs us Q I r h;obtain⟨e,h⟩:=h;subst e;cases r;exact assignInOrder_nil ⟨σ,H,I,h⟩
theorem cV{e:Expr}{es:List Expr}{t:TG}{u:jK}(h1:PG X e t)(h2:sA X es u)
  (hs:(assignEach (e::es) X.env).map (·.2)=assign e X.env::(assignEach es X.env).map (·.2):=by rfl):sA X (e::es) (RW t u):=by
 intro pins s σ H vs us Q I r h;obtain⟨v,vr,e1,h⟩:=h;subst e1;cases r with
 | cons r rr =>
  rw[hs];refine assignInOrder_cons (aE (h1 pins s σ H _ _ _ I r h) λ_ s1 ⟨σ1,H1,I1,q1⟩=>?_);exact h2 pins s1 σ1 H1 _ _ Q I1 rr q1
def je(K:wb)(n:Nat)(t:jK):TG:=λv σ H Q=>∃a xs,v=.ref a/\aF K H a xs/\xs.length=n/\t xs σ H Q
theorem gz{es:List Expr}{k:Nat}{t:jK}{n:Nat}(hc:X.calm=true)(h:sA X es t)
  (hn:(assignEach es X.env).length=n:=by rfl) (hst:(assignEach es X.env).findIdx? (·.1)=none:=by rfl):PG X (.Tuple es k pos) (je X.K n t):=by
 intro pins s σ H v u Q I r hw;obtain⟨a,xs,e1,hq,hl,hw⟩:=hw;subst e1;cases r;obtain⟨its,rv,ht,hz⟩:=I.tuple hq;refine assign_Tuple_tuple (I.ok.hd hc) ht (by simp[hn,<- hl,rv.length]) hst λh' hx=>?_
 have I1:Inv X pins σ H {s with heap:=h'}:=I.kept (t':=s.toks) λb o e=>hx b o (ve (wF e)) e
 exact h pins _ σ H xs _ Q I1 (by simpa using rv) hw
def Rz(to ti:TE)(t:yo):TG:=λv σ H Q=>to σ H λo H1=>ti σ H1 λi H2=>t o i v H2 λH3=>Q σ H3
theorem oC{o i:Expr}{to ti:TE}{t:yo}(ho:PE X o to)(hi:PE X i ti)(hs:IP X t)
  (ha:∀v,assign (.Subscript o i pos) X.env v=(do
   let ov <- holding [v] (eval o X.env)
   let iv <- holding [v,ov] (eval i X.env)
   standAt pos
   holding [v,ov,iv] (setItem ov iv v)
   release [v,ov,iv] []):=by intro _;rfl):PG X (.Subscript o i pos) (Rz to ti t):=by
 intro pins s σ H v u Q I r h;rw[ha];refine wg (WA (aE (ho pins s σ H _ I h) λov s1 ⟨x,H1,I1,r1,q1⟩=>?_));refine wg (WA (aE (hi pins s1 σ H1 _ I1 q1) λiv s2 ⟨y,H2,I2,r2,q2⟩=>?_));refine wg (wpAny_standAt (wg (WA (aE (hs pins s2 σ H2 x y v ov iv u _ I2 r1 r2 r q2) λ_ s3 ⟨H3,I3,q3⟩=>?_))));exact wpAny_release ⟨σ,H3,I3,q3⟩
def oY(te:TE)(g:TG):TS:=λD σ H=>te σ H λx H1=>g x σ H1 D.nx
theorem ni{tg e:Expr}{te:TE}{g:TG}(he:PE X e te)(hg:PG X tg g)(hs:swapsWithSole [tg] e pos.line X.env=pure false:=by rfl)(hw:swappedStores [tg] e X.env=pure none:=by rfl)
  (h1:(assignEach [tg] X.env).map (·.2)=[assign tg X.env]:=by rfl):PS X (.Assign [tg] e pos) (oY te g):=by
 intro pins s σ H D I h;refine wpAny_Assign_stores (aE (he pins s σ H _ I h) λv s1 ⟨x,H1,I1,r1,q1⟩=>?_) hs hw;rw[h1];exact aE (hg pins s1 σ H1 x v _ I1 r1 q1) λ_ s2 q=>q
theorem zA7{i:Nat}{x:Str}{e:Expr}{te:TE}{pos':Pos}(hN:X.N.Nodup)(hi:X.N[i]? = some x)(hx:Loc X.env.scope x)(he:PE X e te)(hs:swapsWith e (some (.Name x pos')) pos.line X.env=pure false:=by rfl)(hf:X.fn x=true\/X.env.scope.names.lookup x=some .local:=by first | exact .inl rfl | exact .inr rfl | assumption) :
  PS X (.Assign [.Name x pos'] e pos) (oY te (iH i)):=by
 intro pins s σ H D I h;refine wpAny_Assign_Name (aE (he pins s σ H _ I h) λv s1 ⟨y,H1,I1,r1,q1⟩=>?_) hs;exact oj I1 hN hi hx r1 (λs2 I2=>⟨_,H1,I2,q1⟩) hf
def Lv(i j:Nat)(ta:TA):TS:=λD σ H=>ta σ H λvs H1=>∃v w,vs=[v,w]/\D.nx ((σ.set i (some v)).set j (some w)) H1
theorem Jo{i j:Nat}{x y:Str}{a b:Expr}{ta:TA}{px py pt:Pos}{kt k2 pt2}(hc:X.calm=true)(hN:X.N.Nodup)(hi:X.N[i]? = some x)(hj:X.N[j]? = some y)(hij:i≠j)
  (hx:X.env.scope.names.lookup x=some .local) (hy:X.env.scope.names.lookup y=some .local) (ha:PA X [a,b] ta)
  (hw:swappedStores [.Tuple [.Name x px,.Name y py] kt pt] (.Tuple [a,b] k2 pt2) X.env=pure (some [x,y]))
  (hs:swapsWithSole [.Tuple [.Name x px,.Name y py] kt pt] (.Tuple [a,b] k2 pt2) pos.line X.env=pure false:=by rfl) :
  PS X (.Assign [.Tuple [.Name x px,.Name y py] kt pt] (.Tuple [a,b] k2 pt2) pos) (Lv i j ta):=by
 intro pins s σ H D I h;rw[exec_Assign_arm];refine wg (wpAny_standAt ?_);rw[hs];refine wg (wp ?_);rw[if_neg (by decide)];refine wg (Tuple_ (aE (ha _ pins s σ H _ I h) λus s1 ⟨vs,H1,I1,r1,q1⟩=>?_));obtain⟨v,w,e1,q1⟩:=q1;subst e1
 obtain⟨u1,u2,rfl,rv,rw'⟩:∃u1 u2,us=[u1,u2]/\aT v u1/\aT w u2:=by
  cases r1 with
  | cons p q =>
   cases q with
   | cons p' q' =>
    cases q';exact⟨_,_,rfl,p,p'⟩
 refine W1 ?_ (by show 2<=wY;decide);have I2:Inv X pins σ H1 {s1 with heap:=s1.heap.push {cls:=.type "tuple",data:=.seq [u1,u2].toArray}}:=I1.kept (t':=s1.toks) λb o e=>wj _ e
 rw[hw];refine wg (wp ?_)
 show wA (model X.prog X.w) X.A (do rule "assign.swapped-stores";let items <- unpackItems (.ref s1.heap.objs.size) 2 none;assignInOrder [λv=>bindName X.env y v,λv=>bindName X.env x v] items.reverse;pure Flow.next) _ _ _
 refine wg (wpAny_rule (wg (unpackItems_tuple (items:=#[u1,u2]) (I.ok.hd hc) (qJ s1.heap _) λh' hx'=>?_)));have I3:=I2.kept (h':=h') (t':=s1.toks) λb o e=>hx' b o (ve (wF e)) e
 show wA _ _ (assignInOrder [λv=>bindName X.env y v,λv=>bindName X.env x v] [u2,u1] >>= λ_=>pure Flow.next) _ _ _
 refine wg (assignInOrder_cons (wpAny_bindName (oj I3 hN hj (.inl hy) rw' (λs2 I4=>?_) (.inr hy))));refine assignInOrder_cons (wpAny_bindName (oj I4 hN hi (.inl hx) rv (λs3 I5=>assignInOrder_nil (wp ?_)) (.inr hx)));rw[List.set_comm _ _ (Wz hij)]at I5;exact⟨_,H1,I5,q1⟩
def IK(i:Nat)(te:TE)(ti:nJ):TS:=λD σ H=>∃x,σ[i]? = some (some x)/\te σ H λy H1=>ti x y H1 λz H2=>D.nx (σ.set i (some z)) H2
theorem zAy{i:Nat}{x:Str}{e:Expr}{te:TE}{op:Operator}{ti:nJ}{pos':Pos}(hN:X.N.Nodup)(hi:X.N[i]? = some x)(hx:Loc X.env.scope x)(he:PE X e te)(ho:My X op ti)(hf:X.fn x=true\/X.env.scope.names.lookup x=some .local:=by first | exact .inl rfl | exact .inr rfl | assumption) :
  PS X (.AugAssign (.Name x pos') op e pos) (IK i te ti):=by
 intro pins s σ H D I h;obtain⟨v,e1,h⟩:=h;obtain⟨m,hn,hl⟩:=I.loc;have CT:sQ X.env.scope x:=by rcases hx with k | k;exact .inl k;exact .inr (.inl k)
 obtain⟨u,r,l⟩:=hl i x v hi e1 CT;refine wpAny_AugAssign_Name ?_
 have go:wA (model X.prog X.w) X.A (eval e X.env) (λw s₂=>wA (model X.prog X.w) X.A (inplaceOp op u w) (λr s₃=>wA (model X.prog X.w) X.A (storeName X.env x r) (λ_=>SP X pins D .next) X.xe s₃) X.xe s₂) X.xe s:=by
  refine aE (he pins s σ H _ I h) λw s1 ⟨y,H1,I1,r1,q1⟩=>?_
  refine aE (ho pins s1 σ H1 v y u w _ I1 r r1 q1) λz s2 ⟨zv,H2,I2,r2,q2⟩=>?_
  exact oj I2 hN hi hx r2 (λs3 I3=>⟨_,H2,I3,q2⟩) hf
 rcases l with⟨hk,hm⟩ | ⟨hk,c,hc,hcell⟩
 ·exact wpAny_loadName_local I.ok.kind hk hn hm go
 ·rcases hk with hk | hk
  ·exact wpAny_loadName_cell I.ok.kind hk hc hcell go
  ·rcases hx with k | k
   ·have:X.env.scope.names.lookup x=some .free:=hk
    rw[k]at this;cases this
   ·have:X.env.scope.names.lookup x=some .free:=hk
    rw[k]at this;cases this
def MB(f:Int->Int->Int):nJ:=λx y H Q=>∃i j,x=.int i/\y=.int j/\Q (.int (f i j)) H
theorem ZC:My X .Add (MB λi j=>i+j):=by
 intro pins s σ H x y v u Q I r1 r2 h;obtain⟨i,j,e1,e2,q⟩:=h;subst e1;subst e2;obtain⟨t,rfl⟩:=r1;obtain⟨t',rfl⟩:=r2;exact iadd_int ⟨.int _,H,I.tok _,⟨_,rfl⟩,q⟩
end
section
variable{X:Cx}{pos:Pos}
def B2(c:TT)(tb:TS):TS:=λD σ H=>∃W:Nat->St->Hp->Prop,(∃m,W m σ H) /\ ∀m σ H,W m σ H ->
 c σ H λb H1=>if b=true then ∃N:St->Hp->Prop,(∀σ' H',N σ' H'->∃m',m'<m/\W m' σ' H')/\tb {D with nx:=N,ct:=N,bk:=D.nx} σ H1 else D.nx σ H1
theorem nV{c:Expr}{body:List vD}{tc:TT}{tb:TS}(hp:PassesOwn (model X.prog X.w) X.A X.env X.xe)(hc:PT X c tc)(hb:fh X body tb):PS X (.While c body [] pos) (B2 tc tb):=by
 intro pins s σ H D I h;obtain⟨W,⟨m0,w0⟩,turn⟩:=h;refine wpAny_While (codeAny_whileLoop (λn s'=>∃σ' H',Inv X pins σ' H' s'/\W n σ' H') ?_ m0 ⟨σ,H,I,w0⟩);rintro n s1 ⟨σ1,H1,I1,w1⟩;refine VF hp (aE (hc pins s1 σ1 H1 _ I1 (turn n σ1 H1 w1)) λb s2 ⟨H2,I2,q2⟩=>?_);cases b with
 | true =>
  obtain⟨N,hN,q2⟩:=q2;rw[if_pos rfl];refine VF hp (aE (hb pins s2 σ1 H2 _ I2 q2) λf s3 q3=>?_);cases f with
  | next =>
   obtain⟨σ3,H3,I3,n3⟩:=q3;obtain⟨m',hm,w3⟩:=hN σ3 H3 n3;exact⟨m',hm,σ3,H3,I3,w3⟩
  | cont =>
   obtain⟨σ3,H3,I3,n3⟩:=q3;obtain⟨m',hm,w3⟩:=hN σ3 H3 n3;exact⟨m',hm,σ3,H3,I3,w3⟩
  | brk=>exact q3
  | ret v=>exact q3
 | false =>
  rw[if_neg vL];exact qZ ⟨σ1,H2,I2,q2⟩
end
structure It where
 go:Nat->Hp->Prop
 eI:Nat->Hp->V->Hp->Prop
 stop:Nat->Hp->Prop
def dE(X:Cx)(pins:List (wf × Obj))(H:Hp)(b:wf):Prop :=
 H b=none/\b≠X.env.locals/\b ∉ X.fs/\(b∈X.ex\/X.s₀.heap.objs.size<=b)/\(∀x c,X.env.cells.lookup x=some c->c≠b) /\ ∀p∈X.pn++pins,p.1≠b
theorem Inv.iq{X:Cx}{pins:List (wf × Obj)}{σ : St}{H H':Hp}{s:wk}{b:wf}(I:Inv X pins σ H s)(hb:s.heap.objs.size<=b)(hn:H' b=none):dE X pins H' b:=by
 refine⟨hn,Wb (vF I.lt hb),I.SX hb,.inr (Wi I.sz hb),λx c e z=>?_,λp hp z=>?_⟩
 ·obtain⟨v,q⟩:=I.cell x c e
  exact absurd (vF q.lt (by rw[z];exact hb)) (qg _)
 ·exact absurd (vF (wF (I.pin p hp).1) (by rw[z];exact hb)) (qg _)
structure gX(P:wP)(w:wR)(K:wb)(tg:Expr)(J:It)(fp:List wf)(it:wf)(tn:Nat->wK->Prop):Prop where
 mem:it∈fp
 obj:∀i h,tn i h->∀b∈fp,∃o,h.get? b=some o /\ ∀v,o.data≠.cell v
 keep:∀i h h',tn i h->(∀b∈fp,∀o,h.get? b=some o->h'.get? b=some o)->tn i h'
 item:∀(X:Cx),X.prog=P->X.w=w->X.K=K->X.calm=true->∀(i:Nat)(pins:List (wf × Obj))(s:wk)(σ : St)(H:Hp)(E:we->wk->Prop),Inv X pins σ H s->(∀b∈fp,dE X pins H b)->tn i s.heap->J.go i H ->
   wA (model P w) X.A (pyNext (.ref it)) (λr s1=>∃u,r=some u /\
     wA (model P w) X.A (Qa tg (.ref it) u) (λ_ s2=>∃x H',Inv X pins σ H' s2/\aT x u/\J.eI i H x H'/\tn (i+1) s2.heap /\ ∀b∈fp,H' b=none) E s1) E s
 done:∀(X:Cx),X.prog=P->X.w=w->X.K=K->X.calm=true->∀(i:Nat)(pins:List (wf × Obj))(s:wk)(σ : St)(H:Hp)(E:we->wk->Prop),Inv X pins σ H s->(∀b∈fp,dE X pins H b)->tn i s.heap->J.stop i H ->
   wA (model P w) X.A (pyNext (.ref it)) (λr s1=>r=none/\Inv X pins σ H s1) E s
 self:∀(A:vj)(i:Nat)(s:wk)(Q:we->wk->Prop)(E:we->wk->Prop),tn i s.heap->Q (.ref it) s->wA (model P w) A (pyIter (.ref it)) Q E s
abbrev TI:=St->Hp->(It->Hp->Prop)->Prop
def Dq(X:Cx)(pins:List (wf × Obj))(σ : St)(tg:Expr)(R:It->Hp->Prop)(itv:we)(s2:wk):Prop :=
 ∃(it:wf)(fp:List wf)(tn:Nat->wK->Prop)(J:It)(H':Hp),itv=.ref it/\Inv X pins σ H' s2/\gX X.prog X.w X.K tg J fp it tn/\tn 0 s2.heap/\(∀b∈fp,dE X pins H' b)/\R J H'
def PI(X:Cx)(tg iter:Expr)(wi:TI):Prop :=
 ∀(pins:List (wf × Obj))(s:wk)(σ : St)(H:Hp)(R:It->Hp->Prop),Inv X pins σ H s->wi σ H R ->
  wA (model X.prog X.w) X.A (eval iter X.env) (λv s1=>wA (model X.prog X.w) X.A (pyIter v) (Dq X pins σ tg R) X.xe s1) X.xe s
theorem EZ{M:Model}{A:vj}{E:we->wk->Prop}{s:wk}{tg:Expr}{it:wf}{u:we}{o:Obj}{n:String}{vs:Array we}{Q:Unit->wk->Prop}(ho:s.heap.get? it=some o)(hc:o.cls=.type n)(hd:o.data=.fields vs)
   (hn:["enumerate","zip","dict_itemiterator","dict_reverseitemiterator","odict_iterator","itertools.zip_longest","itertools.pairwise"].contains n=false) (hQ:Q () s):wA M A (Qa tg (.ref it) u) Q E s:=by
 unfold Qa
 cases tg<;>first
   | exact wp hQ
   | (cases u<;>first
       | exact wp hQ
       | (refine wg (wpAny_load ho ?_)
          rw[hc,hd]
          show wA M A (if(["enumerate","zip","dict_itemiterator","dict_reverseitemiterator","odict_iterator","itertools.zip_longest","itertools.pairwise"].contains n&&vs[0]? == some (V7 _))=true then _ else _) Q E s
          rw[if_neg (by intro h;rw[hn,WI]at h;cases h)];exact wp hQ))
def iE(K:wb)(a:wf):It :=
 ⟨λi H=>∃xs x,aG K H a xs/\xs[i]? = some x,λi H x H'=>H'=H /\ ∀xs,aG K H a xs->xs[i]? = some x,λi H=>∃xs,aG K H a xs/\xs.length<=i⟩
def iK(K:wb)(a:wf):It :=
 ⟨λi H=>∃xs x,aF K H a xs/\xs[i]? = some x,λi H x H'=>H'=H /\ ∀xs,aF K H a xs->xs[i]? = some x,λi H=>∃xs,aF K H a xs/\xs.length<=i⟩
def fB(lo:Int)(n:Nat):It:=⟨λi _=>i<n,λi H x H'=>H'=H/\x=.int (lo+i),λi _=>n<=i⟩
theorem Pf{P:wP}{w:wR}{K:wb}{tg:Expr}(a it:wf):gX P w K tg (iE K a) [it] it (λi h=>h.IsListIter it a i) where
 mem:=by simp
 obj:=λi h st b hb=>by
  have e:b=it:=by simpa using hb
  subst e;obtain⟨o,e,c,d⟩:=st;exact⟨o,e,λv z=>by rw[d]at z;cases z⟩
 keep:=λi h h' st k=>st.at λo e=>k it (by simp) o e
 item:=by
  intro X hP hw hK hc i pins s σ H E I hf st hg;subst hP hw hK;obtain⟨xs,x,hq,hx⟩:=hg;obtain⟨its,rv,p,hz⟩:=I.list hq;obtain⟨u,hu,ru⟩:=rv.get hx;obtain⟨f0,f1,f2,f3,f4,f5⟩:=hf it (by simp);refine wpAny_pyNext_list_item st p.isList (x:=u) (by simpa using hu) λh' st' sb=>?_
  have I1:Inv X pins σ H {s with heap:=h'}:=I.turned (t':=s.toks) (λb o hb e=>(sb.2 b hb).trans e) f0 f1 f3 f4 f5;obtain⟨o,e,c,d⟩:=id st';exact⟨u,rfl,EZ (s:={s with heap:=h'}) e c d (by decide) ⟨x,H,I1,ru,⟨rfl,λys hy=>by rw[I.A0 hy hq];exact hx⟩,st',λb hb=>(hf b hb).1⟩⟩
 done:=by
  intro X hP hw hK hc i pins s σ H E I hf st hg;subst hP hw hK;obtain⟨xs,hq,hx⟩:=hg;obtain⟨its,rv,p,hz⟩:=I.list hq;obtain⟨f0,f1,f2,f3,f4,f5⟩:=hf it (by simp);have hl:=rv.length;exact wpAny_pyNext_list_end (I.ok.hd hc) st p.isList (by simp;lia) λh' eb=>⟨rfl,I.turned (t':=s.toks) (λb o hb e=>eb b o hb e) f0 f1 f3 f4 f5⟩
 self:=λ_ _ _ _ _ st h=>wpAny_pyIter_listiter st h
theorem PQ{P:wP}{w:wR}{K:wb}{tg:Expr}(a it:wf):gX P w K tg (iK K a) [it] it (λi h=>h.IsTupleIter it a i) where
 mem:=by simp
 obj:=λi h st b hb=>by
  have e:b=it:=by simpa using hb
  subst e;obtain⟨o,e,c,d⟩:=st;exact⟨o,e,λv z=>by rw[d]at z;cases z⟩
 keep:=λi h h' st k=>st.at λo e=>k it (by simp) o e
 item:=by
  intro X hP hw hK hc i pins s σ H E I hf st hg;subst hP hw hK;obtain⟨xs,x,hq,hx⟩:=hg;obtain⟨its,rv,p,hz⟩:=I.tuple hq;obtain⟨u,hu,ru⟩:=rv.get hx;obtain⟨f0,f1,f2,f3,f4,f5⟩:=hf it (by simp);refine wpAny_pyNext_tuple_item st (show s.heap.IsTuple a its.toArray from p) (x:=u) (by simpa using hu) λh' st' sb=>?_
  have I1:Inv X pins σ H {s with heap:=h'}:=I.turned (t':=s.toks) (λb o hb e=>(sb.2 b hb).trans e) f0 f1 f3 f4 f5;obtain⟨o,e,c,d⟩:=id st';exact⟨u,rfl,EZ (s:={s with heap:=h'}) e c d (by decide) ⟨x,H,I1,ru,⟨rfl,λys hy=>by rw[I.pY hy hq];exact hx⟩,st',λb hb=>(hf b hb).1⟩⟩
 done:=by
  intro X hP hw hK hc i pins s σ H E I hf st hg;subst hP hw hK;obtain⟨xs,hq,hx⟩:=hg;obtain⟨its,rv,p,hz⟩:=I.tuple hq;obtain⟨f0,f1,f2,f3,f4,f5⟩:=hf it (by simp);have hl:=rv.length;exact wpAny_pyNext_tuple_end (I.ok.hd hc) st (show s.heap.IsTuple a its.toArray from p) (by simp;lia) λh' eb=>⟨rfl,I.turned (t':=s.toks) (λb o hb e=>eb b o hb e) f0 f1 f3 f4 f5⟩
 self:=λ_ _ _ _ _ st h=>wpAny_pyIter_tupleiter st h
theorem zro{P:wP}{w:wR}{K:wb}{tg:Expr}(it:wf)(lo:Int)(n:Nat):gX P w K tg (fB lo n) [it] it (λi h=>IsRangeIter h it (lo+(i:Nat)*1) ((n:Int)-(i:Nat)) 1) where
 mem:=by simp
 obj:=λi h st b hb=>by
  have e:b=it:=by simpa using hb
  subst e
  exact⟨_,st,λv z=>by
   have z':Data.fields _=Data.cell v:=z;cases z'⟩
 keep:=λi h h' st k=>k it (by simp) _ st
 item:=by
  intro X hP hw hK hc i pins s σ H E I hf st hg;subst hP hw hK;obtain⟨f0,f1,f2,f3,f4,f5⟩:=hf it (by simp);have W:=Walks.range (prog:=X.prog) (w:=X.w) (I.ok.hd hc) it lo 1 n;refine W.item i s _ _ hg st λv h' tk hv st' kk=>?_
  obtain⟨t,rfl⟩:=hv;have I1:Inv X pins σ H {s with heap:=h',toks:=tk}:=I.turned (λb o hb e=>kk b o (by simpa using hb) e) f0 f1 f3 f4 f5;refine⟨_,rfl,EZ (s:={s with heap:=h',toks:=tk}) (n:="range_iterator") st' rfl rfl (by decide) ⟨.int (lo+i),H,I1,⟨t,?_⟩,⟨rfl,rfl⟩,st',λb hb=>(hf b hb).1⟩⟩;rw[Int.mul_one]
 done:=by
  intro X hP hw hK hc i pins s σ H E I hf st hg;subst hP hw hK;obtain⟨f0,f1,f2,f3,f4,f5⟩:=hf it (by simp);exact wpAny_pyNext_range_end (I.ok.hd hc) st (by have:n<=i:=hg;lia) λh' eb=>⟨rfl,I.turned (t':=s.toks) (λb o hb e=>eb b o hb e) f0 f1 f3 f4 f5⟩
 self:=λ_ _ _ _ _ st h=>wpAny_pyIter_rangeiter st h
section
variable{X:Cx}{tg:Expr}
def zK(K:wb)(tl:TE):TI:=λσ H R=>tl σ H λx H1=>∃a,x=.ref a/\(∃xs,aG K H1 a xs)/\R (iE K a) H1
def rn(K:wb)(tl:TE):TI:=λσ H R=>tl σ H λx H1=>∃a,x=.ref a/\(∃xs,aF K H1 a xs)/\R (iK K a) H1
theorem e_{l:Expr}{tl:TE}(hl:PE X l tl):PI X tg l (zK X.K tl):=by
 intro pins s σ H R I h;refine aE (hl pins s σ H _ I h) λv s1 ⟨x,H1,I1,r1,q1⟩=>?_
 obtain⟨a,e,⟨xs,hq⟩,q⟩:=q1;subst e;cases r1;obtain⟨its,rv,p,hz⟩:=I1.list hq;refine VM p.isList ?_;refine⟨s1.heap.objs.size,[s1.heap.objs.size],_,_,H1,rfl,I1.kept (t':=s1.toks) λb o e=>wj _ e,Pf a _,⟨_,wC _ rfl,rfl,rfl⟩,λb hb=>?_,q⟩;have e:b=s1.heap.objs.size:=by simpa using hb
 subst e;exact I1.iq (wu _) (I1.aB.fresh (wu _))
theorem gQ{l:Expr}{tl:TE}(hl:PE X l tl):PI X tg l (rn X.K tl):=by
 intro pins s σ H R I h;refine aE (hl pins s σ H _ I h) λv s1 ⟨x,H1,I1,r1,q1⟩=>?_
 obtain⟨a,e,⟨xs,hq⟩,q⟩:=q1;subst e;cases r1;obtain⟨its,rv,p,hz⟩:=I1.tuple hq;refine WL (show s1.heap.IsTuple a its.toArray from p) ?_;refine⟨s1.heap.objs.size,[s1.heap.objs.size],_,_,H1,rfl,I1.kept (t':=s1.toks) λb o e=>wj _ e,PQ a _,⟨_,wC _ rfl,rfl,rfl⟩,λb hb=>?_,q⟩;have e:b=s1.heap.objs.size:=by simpa using hb
 subst e;exact I1.iq (wu _) (I1.aB.fresh (wu _))
theorem RF{pins:List (wf × Obj)}{σ : St}{H:Hp}{s:wk}{R:It->Hp->Prop}{E:we->wk->Prop}{lo hi:Int}{t u v:Tok}{tk:Nat}(I:Inv X pins σ H s)(h1 : -(2^62)<=lo)(h2:lo<2^62)(h3 : -(2^62)<=hi)(h4:hi<2^62)
  (q:R (fB lo (hi-lo).toNat) H):wA (model X.prog X.w) X.A (pyIter (.ref s.heap.objs.size)) (Dq X pins σ tg R) E {s with heap:=s.heap.push {cls:=.type "range",data:=.fields #[.int lo t,.int hi u,.int 1 v]},toks:=tk}:=by
 refine wpAny_pyIter_range (U5 ..) (small_one h1 h2 h3 h4) ?_;have I1:Inv X pins σ H {s with heap:=s.heap.push {cls:=.type "range",data:=.fields #[.int lo t,.int hi u,.int 1 v]},toks:=tk}:=I.kept λb o e=>wj _ e
 refine⟨(s.heap.push {cls:=.type "range",data:=.fields #[.int lo t,.int hi u,.int 1 v]}).objs.size,[(s.heap.push {cls:=.type "range",data:=.fields #[.int lo t,.int hi u,.int 1 v]}).objs.size],_,_,H,rfl,
  I1.kept (t':=tk) λb o e=>wj _ e,zro _ lo (hi-lo).toNat,?_,λb hb=>?_,q⟩
 ·have e1:lo+((0:Nat):Int)*1=lo:=by simp
  have e2:(((hi-lo).toNat:Nat):Int)-((0:Nat):Int)=U4 lo hi 1:=by rw[rangeSize_one];split<;>lia
  show IsRangeIter _ _ (lo+((0:Nat):Int)*1) ((((hi-lo).toNat:Nat):Int)-((0:Nat):Int)) 1
  rw[e1,e2];exact wC _ rfl
 ·have e:b=(s.heap.push {cls:=.type "range",data:=.fields #[.int lo t,.int hi u,.int 1 v]}).objs.size:=by simpa using hb
  subst e;exact I1.iq (wu _) (I1.aB.fresh (wu _))
def C4(ta:TA):TI:=λσ H R=>ta σ H λvs H1=>∃j:Int,vs=[.int j] /\ -(2^62)<=j/\j<2^62/\R (fB 0 j.toNat) H1
def BI(ta:TA):TI:=λσ H R=>ta σ H λvs H1=>∃i j:Int,vs=[.int i,.int j]/\(-(2^62)<=i/\i<2^62 /\ -(2^62)<=j/\j<2^62)/\R (fB i (j-i).toNat) H1
theorem fb{a:Expr}{ta:TA}{p pos:Pos}(hg:Gl X "range")(hm:X.mg "range"=none)(ha:PA X [a] ta)(hs:vg [a] X.env=[(false,eval a X.env)]:=by rfl):PI X tg (.Call (.Name "range" p) [a] [] pos) (C4 ta):=by
 intro pins s σ H R I h;refine Call_ (gb I hg hm boot_range (vS (aE (ha pos pins s σ H _ I h) λus s1 ⟨vs,H1,I1,r1,q1⟩=>?_) hs rfl));obtain⟨j,e,q1,q2,q⟩:=q1;subst e;cases r1 with
 | cons r rr =>
  cases rr;obtain⟨t,rfl⟩:=r;exact call_range_1 (RF I1 (by lia) (by lia) q1 q2 (by simpa using q))
theorem Oe{a b:Expr}{ta:TA}{p pos:Pos}(hg:Gl X "range")(hm:X.mg "range"=none)(ha:PA X [a,b] ta)(hs:vg [a,b] X.env=[(false,eval a X.env),(false,eval b X.env)]:=by rfl)(hs2:vg [b] X.env=[(false,eval b X.env)]:=by rfl) :
  PI X tg (.Call (.Name "range" p) [a,b] [] pos) (BI ta):=by
 intro pins s σ H R I h;refine Call_ (gb I hg hm boot_range (vS (aE (ha pos pins s σ H _ I h) λus s1 ⟨vs,H1,I1,r1,q1⟩=>?_) (by rw[hs,hs2]) (by rw[hs2];rfl)));obtain⟨i,j,e,⟨q1,q2,q3,q4⟩,q⟩:=q1;subst e;cases r1 with
 | cons r rr =>
  cases rr with
  | cons r' rr =>
   cases rr;obtain⟨t,rfl⟩:=r;obtain⟨t',rfl⟩:=r';exact call_range_2 (RF I1 q1 q2 q3 q4 q)
def jq(wi:TI)(g:TG)(tb:TS):TS:=λD σ H=>wi σ H λJ H1=>∃W:Nat->Nat->St->Hp->Prop,(∃m,W 0 m σ H1) /\ ∀i m σ H,W i m σ H ->
 (J.stop i H/\D.nx σ H)\/(J.go i H /\ ∃N:St->Hp->Prop,(∀σ' H',N σ' H'->∃m',m'<m/\W (i+1) m' σ' H') /\ ∀x H',J.eI i H x H'->g x σ H' λσ2 H2=>tb {D with nx:=N,ct:=N,bk:=D.nx} σ2 H2)
def oQ(fp:List wf)(h:wK):List (wf × Obj):=fp.filterMap λb=>(h.get? b).map λo=>(b,o)
theorem Ap{fp:List wf}{h:wK}{b:wf}{o:Obj}(hb:b∈fp)(e:h.get? b=some o):(b,o)∈oQ fp h:=Qd.mpr ⟨b,hb,by rw[e];rfl⟩
theorem zuN{fp:List wf}{h:wK}{p:wf × Obj}(hp:p∈oQ fp h):p.1∈fp/\h.get? p.1=some p.2:=by
 obtain⟨b,hb,e⟩:=Qd.mp hp;cases q:h.get? b with
 | none=>rw[q]at e;cases e
 | some o =>
  rw[q]at e;have e':(b,o)=p:=wV e;subst e';exact⟨hb,q⟩
theorem Inv.pinned{pins:List (wf × Obj)}{σ : St}{H:Hp}{s:wk}{fp:List wf}(I:Inv X pins σ H s)(hf:∀b∈fp,dE X pins H b)(ho:∀b∈fp,∃o,s.heap.get? b=some o /\ ∀v,o.data≠.cell v):Inv X (pins++oQ fp s.heap) σ H s :=
 I.Ie λp hp=>(vR.mp hp).elim (λz=>I.pin p (vX _ z)) λz=>by
  obtain⟨hb,e⟩:=zuN z;obtain⟨f0,f1,f2,_⟩:=hf p.1 hb;obtain⟨o,e',d⟩:=ho p.1 hb;rw[e]at e';cases e';exact⟨e,f0,f1,f2,d⟩
theorem Inv.p4{pins pl:List (wf × Obj)}{σ : St}{H:Hp}{s:wk}(I:Inv X (pins++pl) σ H s):Inv X pins σ H s:=I.Ie λp hp=>I.pin p (vX _ (WJ _ hp))
theorem dG{iter:Expr}{body:List vD}{wi:TI}{g:TG}{tb:TS}{pos:Pos}(hp:PassesOwn (model X.prog X.w) X.A X.env X.xe)(hc:X.calm=true)(hi:PI X tg iter wi)(hg:PG X tg g)(hb:fh X body tb)
  (hs:∀x,foldedSetIterable iter X.env x=pure x:=by intro _;rfl):PS X (.For tg iter body [] pos) (jq wi g tb):=by
 intro pins s σ H D I h;refine wpAny_For (aE (hi pins s σ H _ I h) λv s1 h1=>aE h1 λitv s2 h2=>?_) hs;obtain⟨it,fp,tn,J,H2,e,I2,T,st2,f2,W,⟨m0,w0⟩,turn⟩:=h2;subst e
 -- what stays true of the iterator's objects through the loop
 have stat:∀{H':Hp},(∀b∈fp,H' b=none)->∀b∈fp,dE X pins H' b:=λhn b hb=>⟨hn b hb,(f2 b hb).2⟩
 refine codeAny_forLoop_any (λn s'=>∃i σ' H',Inv X pins σ' H' s'/\tn i s'.heap/\(∀b∈fp,H' b=none)/\W i n σ' H') ?_ m0 ⟨0,σ,H2,I2,st2,λb hb=>(f2 b hb).1,w0⟩;rintro n s3 ⟨i,σ3,H3,I3,st3,fr3,w3⟩;rcases turn i n σ3 H3 w3 with⟨stop,qn⟩ | ⟨go,N,hN,step⟩
 ·refine VF hp (aE (T.done X rfl rfl rfl hc i pins s3 σ3 H3 X.xe I3 (stat fr3) st3 stop) λr s4 ⟨hr,I4⟩=>?_)
  subst hr;exact qZ ⟨σ3,H3,I4,qn⟩
 ·refine VF hp (aE (T.item X rfl rfl rfl hc i pins s3 σ3 H3 X.xe I3 (stat fr3) st3 go) λr s4 ⟨u,hr,h4⟩=>?_)
  subst hr;refine VF hp (aE h4 λ_ s5 ⟨x,H5,I5,r5,y5,st5,fr5⟩=>?_);have I5':=I5.pinned (stat fr5) (T.obj _ _ st5);refine VF hp (aE (hg _ s5 σ3 H5 x u _ I5' r5 (step x H5 y5)) λ_ s6 ⟨σ6,H6,I6,q6⟩=>?_);refine VF hp (aE (hb _ s6 σ6 H6 _ I6 q6) λf s7 q7=>?_)
  have again:∀{σ7:St}{H7:Hp},Inv X (pins++oQ fp s5.heap) σ7 H7 s7->N σ7 H7->∃m,m<n /\ ∃i σ' H',Inv X pins σ' H' s7/\tn i s7.heap/\(∀b∈fp,H' b=none)/\W i m σ' H':=λ{σ7 H7} I7 n7=>by
   obtain⟨m',hm,w7⟩:=hN σ7 H7 n7;refine⟨m',hm,i+1,σ7,H7,I7.p4,T.keep _ _ _ st5 λb hb o e=>(I7.pin (b,o) (vX _ (vX _ (Ap hb e)))).1,λb hb=>?_,w7⟩;obtain⟨o,e,d⟩:=T.obj _ _ st5 b hb;exact(I7.pin (b,o) (vX _ (vX _ (Ap hb e)))).2.1
  cases f with
  | next=>obtain⟨σ7,H7,I7,n7⟩:=q7;exact again I7 n7
  | cont=>obtain⟨σ7,H7,I7,n7⟩:=q7;exact again I7 n7
  | brk=>obtain⟨σ7,H7,I7,q7⟩:=q7;exact⟨σ7,H7,I7.p4,q7⟩
  | ret v=>obtain⟨x7,σ7,H7,I7,r7,q7⟩:=q7;exact⟨x7,σ7,H7,I7.p4,r7,q7⟩
end
theorem Zd{K:wb}{a:wf}{xs:List V}{g:TG}{tb:TS}{D:bY}{σ : St}{H:Hp}(Pv:Nat->St->Hp->Prop)(h0:Pv 0 σ H)(hl:∀i σ H,i<=xs.length->Pv i σ H->aG K H a xs)
  (hs:∀i x σ H,xs[i]? = some x->Pv i σ H->g x σ H λσ2 H2=>tb {D with nx:=Pv (i+1),ct:=Pv (i+1),bk:=D.nx} σ2 H2) (hd:∀σ H,Pv xs.length σ H->D.nx σ H) :
  ∃W:Nat->Nat->St->Hp->Prop,(∃m,W 0 m σ H) /\ ∀i m σ H,W i m σ H ->
   ((iE K a).stop i H/\D.nx σ H)\/((iE K a).go i H /\ ∃N:St->Hp->Prop,(∀σ' H',N σ' H'->∃m',m'<m/\W (i+1) m' σ' H') /\ ∀x H',(iE K a).eI i H x H'->g x σ H' λσ2 H2=>tb {D with nx:=N,ct:=N,bk:=D.nx} σ2 H2):=by
 refine⟨λi m σ H=>m=xs.length-i/\i<=xs.length/\Pv i σ H,⟨xs.length,by simp,Wg _,h0⟩,?_⟩;rintro i m σ H ⟨rfl,hi,p⟩;have q:=hl i σ H hi p
 by_cases hlt:i<xs.length
 ·refine .inr ⟨⟨xs,xs[i],q,by simp[hlt]⟩,Pv (i+1),λσ' H' p'=>⟨xs.length-(i+1),by lia,rfl,hlt,p'⟩,λx H' y=>?_⟩
  obtain⟨e,y⟩:=y;subst e;exact hs i x σ _ (y xs q) p
 ·have e:i=xs.length:=by lia
  subst e;exact .inl ⟨⟨xs,q,wu _⟩,hd σ H p⟩
theorem zza{K:wb}{a:wf}{xs:List V}{g:TG}{tb:TS}{D:bY}{σ : St}{H:Hp}(Pv:Nat->St->Hp->Prop)(h0:Pv 0 σ H)(hl:∀i σ H,i<=xs.length->Pv i σ H->aF K H a xs)
  (hs:∀i x σ H,xs[i]? = some x->Pv i σ H->g x σ H λσ2 H2=>tb {D with nx:=Pv (i+1),ct:=Pv (i+1),bk:=D.nx} σ2 H2) (hd:∀σ H,Pv xs.length σ H->D.nx σ H) :
  ∃W:Nat->Nat->St->Hp->Prop,(∃m,W 0 m σ H) /\ ∀i m σ H,W i m σ H ->
   ((iK K a).stop i H/\D.nx σ H)\/((iK K a).go i H /\ ∃N:St->Hp->Prop,(∀σ' H',N σ' H'->∃m',m'<m/\W (i+1) m' σ' H') /\ ∀x H',(iK K a).eI i H x H'->g x σ H' λσ2 H2=>tb {D with nx:=N,ct:=N,bk:=D.nx} σ2 H2):=by
 refine⟨λi m σ H=>m=xs.length-i/\i<=xs.length/\Pv i σ H,⟨xs.length,by simp,Wg _,h0⟩,?_⟩;rintro i m σ H ⟨rfl,hi,p⟩;have q:=hl i σ H hi p
 by_cases hlt:i<xs.length
 ·refine .inr ⟨⟨xs,xs[i],q,by simp[hlt]⟩,Pv (i+1),λσ' H' p'=>⟨xs.length-(i+1),by lia,rfl,hlt,p'⟩,λx H' y=>?_⟩
  obtain⟨e,y⟩:=y;subst e;exact hs i x σ _ (y xs q) p
 ·have e:i=xs.length:=by lia
  subst e;exact .inl ⟨⟨xs,q,wu _⟩,hd σ H p⟩
theorem Km{lo:Int}{n:Nat}{g:TG}{tb:TS}{D:bY}{σ : St}{H:Hp}(Pv:Nat->St->Hp->Prop)(h0:Pv 0 σ H)
  (hs:∀i σ H,i<n->Pv i σ H->g (.int (lo+i)) σ H λσ2 H2=>tb {D with nx:=Pv (i+1),ct:=Pv (i+1),bk:=D.nx} σ2 H2) (hd:∀σ H,Pv n σ H->D.nx σ H) :
  ∃W:Nat->Nat->St->Hp->Prop,(∃m,W 0 m σ H) /\ ∀i m σ H,W i m σ H ->
   ((fB lo n).stop i H/\D.nx σ H)\/((fB lo n).go i H /\ ∃N:St->Hp->Prop,(∀σ' H',N σ' H'->∃m',m'<m/\W (i+1) m' σ' H') /\ ∀x H',(fB lo n).eI i H x H'->g x σ H' λσ2 H2=>tb {D with nx:=N,ct:=N,bk:=D.nx} σ2 H2):=by
 refine⟨λi m σ H=>m=n-i/\i<=n/\Pv i σ H,⟨n,by simp,Wg _,h0⟩,?_⟩;rintro i m σ H ⟨rfl,hi,p⟩
 by_cases hlt:i<n
 ·refine .inr ⟨hlt,Pv (i+1),λσ' H' p'=>⟨n-(i+1),by lia,rfl,hlt,p'⟩,λx H' y=>?_⟩
  obtain⟨e,y⟩:=y;subst e y;exact hs i σ _ hlt p
 ·have e:i=n:=by lia
  subst e;exact .inl ⟨wu _,hd σ H p⟩
abbrev R2:=V->V->Hp->VK->Prop
def aJ(X:Cx)(f:we->we->Sem we)(r:R2):Prop :=
 ∀(pins:List (wf × Obj))(s:wk)(σ : St)(H:Hp)(x y:V)(v u:we)(Q:VK),Inv X pins σ H s->aT x v->aT y u->r x y H Q ->
  wA (model X.prog X.w) X.A (f v u) (EP X pins σ Q) X.xe s
def DL(X:Cx)(f:we->Sem we)(r:V->Hp->VK->Prop):Prop :=
 ∀(pins:List (wf × Obj))(s:wk)(σ : St)(H:Hp)(x:V)(v:we)(Q:VK),Inv X pins σ H s->aT x v->r x H Q ->
  wA (model X.prog X.w) X.A (f v) (EP X pins σ Q) X.xe s
def ay(X:Cx)(f:we)(r:List V->Hp->VK->Prop):Prop :=
 ∀(pins:List (wf × Obj))(s:wk)(σ : St)(H:Hp)(xs:List V)(us:List we)(Q:VK),Inv X pins σ H s->aI xs us->r xs H Q ->
  wA (model X.prog X.w) X.A (call f us) (EP X pins σ Q) X.xe s
def Z_(X:Cx)(r:V->Hp->(Bool->Hp->Prop)->Prop):Prop :=
 ∀(pins:List (wf × Obj))(s:wk)(σ : St)(H:Hp)(x:V)(v:we)(Q:Bool->Hp->Prop),Inv X pins σ H s->aT x v->r x H Q ->
  wA (model X.prog X.w) X.A (truthy v) (TP X pins σ Q) X.xe s
def j7(r:R2)(ta tb:TE):TE:=λσ H Q=>ta σ H λx H1=>tb σ H1 λy H2=>r x y H2 Q
def Jw(r:V->Hp->VK->Prop)(ta:TE):TE:=λσ H Q=>ta σ H λx H1=>r x H1 Q
def rI(C:Int->Int->Prop)(g:Int->Int->V):R2:=λx y H Q=>∃i j,x=.int i/\y=.int j/\C i j/\Q (g i j) H
def gH(g:Int->Int->V):R2:=λx y H Q=>∃i j,x=.int i/\y=.int j/\Q (g i j) H
def rU(g:Int->V):V->Hp->VK->Prop:=λx H Q=>∃i,x=.int i/\Q (g i) H
section
variable{X:Cx}{a b c:Expr}{ta tb tc:TE}{pos:Pos}
theorem Cq(ha:PE X a ta)(hb:PE X b tb){pins:List (wf × Obj)}{s:wk}{σ : St}{H:Hp}{R:V->V->Hp->Prop}(I:Inv X pins σ H s)
  (h:ta σ H λx H1=>tb σ H1 λy H2=>R x y H2) {Q:we->wk->Prop} {f:we->we->Sem we}
  (hf:∀v u s2 x y H2,Inv X pins σ H2 s2->aT x v->aT y u->R x y H2->wA (model X.prog X.w) X.A (f v u) Q X.xe s2) :
  wA (model X.prog X.w) X.A (eval a X.env) (λv s₁=>wA (model X.prog X.w) X.A (eval b X.env) (λu s₂=>wA (model X.prog X.w) X.A (f v u) Q X.xe s₂) X.xe s₁) X.xe s:=by
 refine aE (ha pins s σ H _ I h) λv s1 ⟨x,H1,I1,r1,q1⟩=>?_
 refine aE (hb pins s1 σ H1 _ I1 q1) λu s2 ⟨y,H2,I2,r2,q2⟩=>?_
 exact hf v u s2 x y H2 I2 r1 r2 q2
theorem aK{op:Operator}{r:R2}(ho:aJ X (WH op) r)(ha:PE X a ta)(hb:PE X b tb):PE X (.BinOp a op b pos) (j7 r ta tb):=by
 intro pins s σ H Q I h;exact wpAny_BinOp (Cq ha hb I h λv u s2 x y H2 I2 rx ry q=>ho pins s2 σ H2 x y v u Q I2 rx ry q)
theorem Md{op:UnaryOp}{r:V->Hp->VK->Prop}(ho:DL X (unaryOp op) r)(ha:PE X a ta):PE X (.UnaryOp op a pos) (Jw r ta):=by
 intro pins s σ H Q I h;exact UnaryOp_ (aE (ha pins s σ H _ I h) λv s1 ⟨x,H1,I1,r1,q1⟩=>ho pins s1 σ H1 x v Q I1 r1 q1)
theorem rK{f:we->we->Sem we}{C:Int->Int->Prop}{g:Int->Int->Int}
  (rule:∀(i j:Int)(t u:Tok)(s:wk)(Q:we->wk->Prop)(E:we->wk->Prop),C i j->Q (.int (g i j) s.toks) {s with toks:=s.toks+1}->wA (model X.prog X.w) X.A (f (.int i t) (.int j u)) Q E s) :
  aJ X f (rI C λi j=>.int (g i j)):=by
 intro pins s σ H x y v u Q I rx ry h;obtain⟨i,j,rfl,rfl,hc,q⟩:=h;obtain⟨t,rfl⟩:=rx;obtain⟨t',rfl⟩:=ry;exact rule i j t t' s _ _ hc ⟨.int (g i j),H,I.tok _,⟨_,rfl⟩,q⟩
theorem LI{f:we->we->Sem we}{g:Int->Int->Int}
  (rule:∀(i j:Int)(t u:Tok)(s:wk)(Q:we->wk->Prop)(E:we->wk->Prop),Q (.int (g i j) s.toks) {s with toks:=s.toks+1}->wA (model X.prog X.w) X.A (f (.int i t) (.int j u)) Q E s) :
  aJ X f (gH λi j=>.int (g i j)):=by
 intro pins s σ H x y v u Q I rx ry h;obtain⟨i,j,rfl,rfl,q⟩:=h;obtain⟨t,rfl⟩:=rx;obtain⟨t',rfl⟩:=ry;exact rule i j t t' s _ _ ⟨.int (g i j),H,I.tok _,⟨_,rfl⟩,q⟩
theorem yw{f:we->we->Sem we}{g:Int->Int->Bool}
  (rule:∀(i j:Int)(t u:Tok)(s:wk)(Q:we->wk->Prop)(E:we->wk->Prop),Q (.bool (g i j)) s->wA (model X.prog X.w) X.A (f (.int i t) (.int j u)) Q E s) :
  aJ X f (gH λi j=>.bl (g i j)):=by
 intro pins s σ H x y v u Q I rx ry h;obtain⟨i,j,rfl,rfl,q⟩:=h;obtain⟨t,rfl⟩:=rx;obtain⟨t',rfl⟩:=ry;exact rule i j t t' s _ _ ⟨.bl (g i j),H,I,rfl,q⟩
def PJ(i j:Int):Prop:=0<=j/\j<=1000000/\i.natAbs<2^64
theorem zAE:aJ X (WH .Add) (gH λi j=>.int (i+j)):=LI λ_ _ _ _ _ _ _ q=>add_int q
theorem AA:aJ X (WH .Sub) (gH λi j=>.int (i-j)):=LI λ_ _ _ _ _ _ _ q=>sub_int q
theorem gu:aJ X (WH .Mod) (rI (λ_ j=>0<j) λi j=>.int (i % j)):=rK λi j _ _ _ _ _ hc q=>by
 have h1:(0:Int)<j:=hc;exact mod_int' (by lia) (by rw[Int.fmod_eq_emod_of_nonneg i (by lia)];exact q)
theorem YO:aJ X (WH .Pow) (rI PJ λi j=>.int (i^j.toNat)):=rK λ_ _ _ _ _ _ _ hc q=>pow_int_small hc.1 hc.2.1 hc.2.2 q
theorem unI{f:we->Sem we}{g:Int->Int}
  (rule:∀(i:Int)(t:Tok)(s:wk)(Q:we->wk->Prop)(E:we->wk->Prop),Q (.int (g i) s.toks) {s with toks:=s.toks+1}->wA (model X.prog X.w) X.A (f (.int i t)) Q E s) :
  DL X f (rU λi=>.int (g i)):=by
 intro pins s σ H x v Q I rx h;obtain⟨i,rfl,q⟩:=h;obtain⟨t,rfl⟩:=rx;exact rule i t s _ _ ⟨.int (g i),H,I.tok _,⟨_,rfl⟩,q⟩
theorem LA:DL X (unaryOp .USub) (rU λi=>.int (-i)):=unI λ_ _ _ _ _ q=>neg_int q
end
section
variable{X:Cx}{a b c:Expr}{ta tb tc:TE}{pos:Pos}
theorem NP{pins:List (wf × Obj)}{σ : St}{H:Hp}{s:wk}{Q:VK}{k k':Bool}(I:Inv X pins σ H s)(q:Q (.bl k) H)(e:k=k'):EP X pins σ Q (.bool k') s:=by
 subst e;exact⟨.bl k,H,I,rfl,q⟩
theorem Ms:aJ X (wW .Lt) (gH λi j=>.bl (decide (i<j))):=yw λ_ _ _ _ _ _ _ q=>lt_int q
theorem jy:aJ X (wW .LtE) (gH λi j=>.bl (decide (i<=j))):=yw λ_ _ _ _ _ _ _ q=>le_int q
theorem zc:aJ X (wW .Gt) (gH λi j=>.bl (decide (j<i))):=yw λ_ _ _ _ _ _ _ q=>gt_int q
theorem rB:aJ X (wW .GtE) (gH λi j=>.bl (decide (j<=i))):=yw λ_ _ _ _ _ _ _ q=>ge_int q
theorem zAv:aJ X (wW .Is) (λx y H Q=>y=.aZ/\Q (.bl (decide (x=.aZ))) H):=by
 intro pins s σ H x y v u Q I rx ry h;obtain⟨rfl,q⟩:=h;cases ry;refine is_none_gen (NP I q ?_)
 cases x<;>first
  | (cases rx;rfl)
  | (obtain⟨t,rfl⟩:=rx;rfl)
theorem aJ.or{f:we->we->Sem we}{r r':R2}(h:aJ X f r)(h':aJ X f r'):aJ X f (λx y H Q=>r x y H Q\/r' x y H Q):=by
 intro pins s σ H x y v u Q I rx ry q;rcases q with q | q
 ·exact h pins s σ H x y v u Q I rx ry q
 ·exact h' pins s σ H x y v u Q I rx ry q
theorem bD(b:Expr){op:CmpOp}(h:op≠.In:=by decide)(h2:op≠.NotIn:=by decide):qh op b=false:=by
 have e1:(op == CmpOp.In)=false:=by cases op<;>first | rfl | exact absurd rfl h
 have e2:(op == CmpOp.NotIn)=false:=by cases op<;>first | rfl | exact absurd rfl h2
 cases b<;>simp[qh,e1,e2]
theorem eW{op:CmpOp}{r:R2}(ho:aJ X (wW op) r)(ha:PE X a ta)(hb:PE X b tb)(hm:qh op b=false):PE X (.Compare a [op] [b] pos) (j7 r ta tb):=by
 intro pins s σ H Q I h;exact wpAny_Compare1 (Cq ha hb I h λv u s2 x y H2 I2 rx ry q=>ho pins s2 σ H2 x y v u Q I2 rx ry q) hm
def tG(t:TE):TT:=λσ H Q=>t σ H λx H'=>∃k,x=.bl k/\Q k H'
theorem cb{op:CmpOp}{r:R2}(ho:aJ X (wW op) r)(ha:PE X a ta)(hb:PE X b tb)(hm:qh op b=false):PT X (.Compare a [op] [b] pos) (tG (j7 r ta tb)):=by
 intro pins s σ H Q I h
 refine wpAny_isTrue_Compare1 (aE (ha pins s σ H _ I h) λv s1 ⟨x,H1,I1,r1,q1⟩=>aE (hb pins s1 σ H1 _ I1 q1) λu s2 ⟨y,H2,I2,r2,q2⟩ =>
  aE (ho pins s2 σ H2 x y v u _ I2 r1 r2 q2) λc s3 ⟨z,H3,I3,r3,k,e,q3⟩=>?_) hm
 subst e;cases r3;exact WG ⟨H3,I3,q3⟩
def Ba(r r':R2)(ta tb tc:TE):TE:=λσ H Q=>ta σ H λx H1=>tb σ H1 λy H2=>r x y H2 λz H3=>∃k,z=.bl k /\
 (if k=true then tc σ H3 λw' H4=>r' y w' H4 Q else Q (.bl false) H3)
theorem L7{op op':CmpOp}{r r':R2}(ho:aJ X (wW op) r)(ho':aJ X (wW op') r')(ha:PE X a ta)(hb:PE X b tb)(hc:PE X c tc)
  (hm:lastMarks [op,op'] [b,c]=false:=by with_unfolding_all rfl):PE X (.Compare a [op,op'] [b,c] pos) (Ba r r' ta tb tc):=by
 intro pins s σ H Q I h
 refine Compare_chain (aE (ha pins s σ H _ I h) λv s1 ⟨x,H1,I1,r1,q1⟩=>chain_link (aE (hb pins s1 σ H1 _ I1 q1) λu s2 ⟨y,H2,I2,r2,q2⟩ =>
  aE (ho pins s2 σ H2 x y v u _ I2 r1 r2 q2) λd s3 ⟨z,H3,I3,r3,k,e,q3⟩=>?_)) hm
 subst e;cases r3;refine WG ?_;cases k with
 | false=>exact ite_ff ⟨.bl false,H3,I3,rfl,q3⟩
 | true=>exact ite_tt (chain_last (aE (hc pins s3 σ H3 _ I3 q3) λw' s4 ⟨z',H4,I4,r4,q4⟩=>ho' pins s4 σ H4 y z' u w' Q I4 r2 r4 q4))
theorem Tf{op op':CmpOp}{r r':R2}(ho:aJ X (wW op) r)(ho':aJ X (wW op') r')(ha:PE X a ta)(hb:PE X b tb)(hc:PE X c tc)
  (hm:lastMarks [op,op'] [b,c]=false:=by with_unfolding_all rfl):PT X (.Compare a [op,op'] [b,c] pos) (tG (Ba r r' ta tb tc)):=by
 intro pins s σ H Q I h
 refine isTrue_chain (aE (ha pins s σ H _ I h) λv s1 ⟨x,H1,I1,r1,q1⟩=>test_link (aE (hb pins s1 σ H1 _ I1 q1) λu s2 ⟨y,H2,I2,r2,q2⟩ =>
  aE (ho pins s2 σ H2 x y v u _ I2 r1 r2 q2) λd s3 ⟨z,H3,I3,r3,k,e,q3⟩=>?_)) hm
 subst e;cases r3;refine WG ?_;cases k with
 | false =>
  obtain⟨k',e',q'⟩:=q3;cases e';exact ite_ff ⟨H3,I3,q'⟩
 | true =>
  refine ite_tt (test_last (aE (hc pins s3 σ H3 _ I3 q3) λw' s4 ⟨z',H4,I4,r4,q4⟩=>aE (ho' pins s4 σ H4 y z' u w' _ I4 r2 r4 q4) λd' s5 ⟨z2,H5,I5,r5,k2,e2,q5⟩=>?_));subst e2;cases r5;exact WG ⟨H5,I5,q5⟩
def Fj(K:wb)(x:V)(H:Hp)(k:Bool):Prop :=
 match x with
 | .aZ=>k=false
 | .bl b=>k=b
 | .int i=>k=(i != 0)
 | .str y=>y.length<=wY/\k=((y.length:Int) != 0)
 | .byt y=>y.size<=wY/\k=((y.size:Int) != 0)
 | .ref p=>(∃xs,aG K H p xs/\k = !xs.isEmpty)\/(∃xs,aF K H p xs/\k = !xs.isEmpty) \/ ∃kvs,H p=some (.dK kvs)/\k = !kvs.isEmpty
 | _=>False
theorem zrS{κ : Type}{kvs:List (κ × V)}{vs:List (κ × we)}(r:KV kvs vs):(!vs.isEmpty) = !kvs.isEmpty:=by
 cases r<;>rfl
theorem J4{xs:List V}{its:List we}(r:aI xs its):(!its.toArray.isEmpty) = !xs.isEmpty:=by
 cases r<;>simp
theorem mj:(wY:Nat)<2^63:=by rw[Wy];decide
theorem Zk:Z_ X (λx H Q=>∃k,Fj X.K x H k/\Q k H):=by
 intro pins s σ H x v Q I rx h;obtain⟨k,e,q⟩:=h;have hl:=mj;have hs:wY=16777216:=Wy;cases x with
 | aZ =>
  cases rx;have e':k=false:=e;subst e';exact truthy_none ⟨H,I,q⟩
 | bl b =>
  cases rx;have e':k=b:=e;subst e';exact WG ⟨H,I,q⟩
 | int i =>
  obtain⟨t,rfl⟩:=rx;have e':k=(i != 0):=e;subst e';exact PySem.P.truthy_int ⟨H,I,q⟩
 | str y =>
  obtain⟨t,rfl⟩:=rx;obtain⟨hy,e'⟩:y.length<=wY/\k=((y.length:Int) != 0):=e;subst e';exact PySem.P.truthy_str (by lia) ⟨H,I.tok _,q⟩
 | byt y =>
  obtain⟨t,rfl⟩:=rx;obtain⟨hy,e'⟩:y.size<=wY/\k=((y.size:Int) != 0):=e;subst e';exact PySem.W.truthy_bytes (by lia) ⟨H,I.tok _,q⟩
 | ref p =>
  cases rx;have e':(∃xs,aG X.K H p xs/\k = !xs.isEmpty)\/(∃xs,aF X.K H p xs/\k = !xs.isEmpty) \/ ∃kvs,H p=some (.dK kvs)/\k = !kvs.isEmpty:=e;rcases e' with⟨xs,hx,e'⟩ | ⟨xs,hx,e'⟩ | ⟨kvs,hx,e'⟩
  ·subst e'
   obtain⟨its,r,pl,hz⟩:=I.list hx;have hlen:=r.length;exact wpAny_truthy_list pl.isList (by simp only[wG];lia) ⟨H,I.tok _,by rw[J4 r];exact q⟩
  ·subst e'
   obtain⟨its,r,pl,hz⟩:=I.tuple hx;have hlen:=r.length;exact truthy_tuple pl (by simp only[wG];lia) ⟨H,I.tok _,by rw[J4 r];exact q⟩
  ·subst e'
   obtain⟨hz,hS,vs,r,m⟩:kvs.length<=wY/\(p == qO)=false /\ ∃vs,KV kvs vs/\s.heap.DictOf (DH X.prog X.w) p vs:=I.aB p _ hx;have hlen:kvs.length=vs.length:=UH r;exact wpAny_truthy_dict hS m (by lia) ⟨H,I.tok _,by rw[zrS r];exact q⟩
 | _=>exact(show False from e).elim
theorem Za(ha:PE X a ta)(he:∀whole,isTrue a X.env whole=(do let v <- whole;standAt a.pos;holding [v] (truthy v))) :
  PT X a (λσ H Q=>ta σ H λx H'=>∃k,Fj X.K x H' k/\Q k H'):=by
 intro pins s σ H Q I h;exact isTrue_plain (aE (ha pins s σ H _ I h) λv s1 ⟨x,H1,I1,r1,q1⟩=>Zk pins s1 σ H1 x v Q I1 r1 q1) (he _)
theorem Zj:aJ X (WH .Add) (λx y H Q=>∃i j,x=.str i/\y=.str j/\i.length+j.length<=wY/\Q (.str (i++j)) H):=by
 intro pins s σ H x y v u Q I rx ry h;obtain⟨i,j,rfl,rfl,hz,q⟩:=h;obtain⟨t,rfl⟩:=rx;obtain⟨t',rfl⟩:=ry;exact add_str (λt' tk=>⟨.str (i++j),H,I.tok _,⟨_,rfl⟩,q⟩) hz
theorem fC{x:V}{us:List we}(r:aI [x] us):∃u,us=[u]/\aT x u:=by
 cases r with
 | cons r1 r2=>cases r2;exact⟨_,rfl,r1⟩
theorem kN{x y:V}{us:List we}(r:aI [x,y] us):∃u w',us=[u,w']/\aT x u/\aT y w':=by
 cases r with
 | cons r1 r2 =>
  cases r2 with
  | cons r3 r4=>cases r4;exact⟨_,_,rfl,r1,r3⟩
theorem zvS:ay X (.builtin "abs") (λxs H Q=>∃i,xs=[.int i]/\Q (.int (if i<0 then -i else i)) H):=by
 intro pins s σ H xs us Q I r h;obtain⟨i,rfl,q⟩:=h;obtain⟨u,rfl,t,rfl⟩:=fC r;exact call_abs_int λu tk=>⟨.int (if i<0 then -i else i),H,I.tok _,⟨_,rfl⟩,q⟩
theorem zuf(hc:X.calm=true):ay X (.builtin "min") (λxs H Q=>∃i j,xs=[.int i,.int j]/\Q (.int (if j<i then j else i)) H):=by
 intro pins s σ H xs us Q I r h;obtain⟨i,j,rfl,q⟩:=h;obtain⟨u,w',rfl,⟨t,rfl⟩,⟨t',rfl⟩⟩:=kN r;refine min_two_ints (I.ok.hd hc) λh' tk k=>⟨_,H,I.kept k,?_,q⟩
 by_cases hj:j<i
 ·rw[if_pos hj,if_pos hj];exact⟨_,rfl⟩
 ·rw[if_neg hj,if_neg hj];exact⟨_,rfl⟩
theorem Zv:ay X (.type "int") (λxs H Q=>(∃i,xs=[.int i]/\Q (.int i) H) \/ ∃k,xs=[.bl k]/\Q (.int (if k then 1 else 0)) H):=by
 intro pins s σ H xs us Q I r h;rcases h with⟨i,rfl,q⟩ | ⟨k,rfl,q⟩
 ·obtain⟨u,rfl,t,rfl⟩:=fC r
  exact call_int_int ⟨.int i,H,I,⟨_,rfl⟩,q⟩
 ·obtain⟨u,rfl,r1⟩:=fC r
  cases r1;exact call_int_bool ⟨.int (if k then 1 else 0),H,I.tok _,⟨_,rfl⟩,q⟩
end
structure zC9(h:wK)(x dx C:wf)(mA:Str->Option we):Prop where
 obj:h.get? x=some (u7 C dx)
 ns:h.Ns1 dx mA
 ne:dx≠x
section
variable{prog:wP}{w:wR}{A:vj}{E:we->wk->Prop}{s:wk}{K:wb}{x dx C f:wf}{mA:Str->Option we}{name:Str}{v:we}
end
section
variable{P:wP}{w:wR}{H H':Hp}{h h':wK}{a C dx:wf}{fs fs':List (Str × V)}
end
structure Cls(K:wb)(C:wf):Prop where
 pg:PySem.W.plainGet K C Str.empty=true
 hd:PySem.W.hasDictIn K C=true
 po:PySem.W.plainOver K C=true
 sa:Vs K (.ref C) "__setattr__"=some (some (.builtin "object.__setattr__"))
structure Con(K:wb)(C:wf)(f:Str)(v:V)(u:we):Prop where
 at_:Vs K (.ref C) f=some (some u)
 rel:aT v u
 get:xz K u "__get__"=some none
 cp:PySem.W.copiedNames.contains f=false
structure zDd(K:wb)(C:wf)(m:Str)(f:wf):Prop where
 at_:Vs K (.ref C) m=some (some (.ref f))
 fn:UX K (.ref f)=true
 kp:VS K (.ref f)=true
section
variable{X:Cx}{pins:List (wf × Obj)}{σ : St}{H:Hp}{s:wk}{a C dx:wf}{fs:List (Str × V)}{f:Str}{v:V}{A:vj}{E:we->wk->Prop}
end
section
variable{X:Cx}{o e value:Expr}{f:Str}{pos pos' tpos:Pos}{ta tv:TE}
end
section
variable{X:Cx}{pins:List (wf × Obj)}{σ : St}{H:Hp}{s:wk}{A:vj}{E:we->wk->Prop}{Q:we->wk->Prop}{c:we}{b:Bool}
inductive gZ(K:wb)(H:Hp):V->we->Prop where
 | aZ:gZ K H .aZ (.type "NoneType")
 | bl (x:Bool):gZ K H (.bl x) (.type "bool")
 | int (i:Int):gZ K H (.int i) (.type "int")
 | str (x:Str):gZ K H (.str x) (.type "str")
 | lE (x:UInt64):gZ K H (.lE x) (.type "float")
 | lst {a:wf} {xs:List V} (e:H a=some (.lst xs)):gZ K H (.ref a) (.type "list")
 | fc {a:wf} {o:Obj} {xs:List V} (e:H a=some (.fc o (.lst xs))):gZ K H (.ref a) (.type "list")
 | tup {a:wf} {xs:List V} (e:H a=some (.tup xs)):gZ K H (.ref a) (.type "tuple")
 | dK {a:wf} {kvs:List (Key × V)} (e:H a=some (.dK kvs)):gZ K H (.ref a) (.type "dict")
 | dT {a:wf} {kvs:List (List Key × V)} (e:H a=some (.dT kvs)):gZ K H (.ref a) (.type "dict")
 | ins {a C dx:wf} {fs:List (Str × V)} (e:H a=some (.ins C dx fs)) (cl:Cls K C) (ha:Vs K (.ref C) "__class__"=some (some (.builtin "object.__class__")))
     (hn:xz K (.builtin "object.__class__") "__get__"=some (some (.builtin "getset_descriptor.__get__"))) (htk:u9 K (.builtin "object.__class__")=some true)
     (hm:XG K C (.type "object")=some true):gZ K H (.ref a) (.ref C)
end
structure dw(k:Nat)(A:vj):Prop where
 hd:A.handled=none
 dp:A.depth+3*k+5<recursionLimit
 un:A.units+16*k+200<WV
 gd:A.guards=some []
theorem dw.mono{j k:Nat}{A:vj}(r:dw k A)(h:j<=k):dw j A:=⟨r.hd,by have:=r.dp;lia,by have:=r.un;lia,by first | exact r.gd | (simp[UY,Code.guards,UZ,guardIds];exact r.gd)⟩
theorem dw.deeper{k:Nat}{A:vj}(r:dw (k+1) A)(env:Env):dw k (A.deeper env) :=
 ⟨r.hd,by have:=r.dp;show A.depth+1+3*k+5<_;lia,by have:=r.un;show A.units+3+16*k+200<_;lia,by first | exact r.gd | (simp[UY,Code.guards,UZ,guardIds];exact r.gd)⟩
theorem dw.depth{k:Nat}{A:vj}(r:dw k A):A.depth<recursionLimit:=by have:=r.dp;lia
theorem dw.units{k:Nat}{A:vj}(r:dw k A):A.units+64<WV:=by have:=r.un;lia
def mJ:TA:=λ_ H Q=>Q [] H
def jV(ta:TE)(tr:TA):TA:=λσ H Q=>ta σ H λx H1=>tr σ H1 λxs H2=>Q (x::xs) H2
section
variable{X:Cx}{e:Expr}{es:List Expr}{te:TE}{t:TA}{pos:Pos}
theorem ae:PA X [] mJ:=λ_ _ _ _ H Q I h=>uo ⟨[],H,I,.nil,h⟩
theorem aa(ha:PE X e te)(hr:PA X es t)(hs:vg (e::es) X.env=(false,eval e X.env)::vg es X.env:=by rfl):PA X (e::es) (jV te t):=by
 intro pos pins s σ H Q I h;rw[hs]
 show wA _ _ (spliced ((false,eval e X.env)::Vn pos (vg es X.env))) _ _ s
 refine XX (aE (ha pins s σ H _ I h) λu s1 ⟨x,H1,I1,r1,q1⟩=>?_);exact aE (hr pos pins s1 σ H1 _ I1 q1) λus s2 ⟨xs,H2,I2,r2,q2⟩=>⟨x::xs,H2,I2,.cons r1 r2,q2⟩
def zC0(t:TA):TE:=λσ H Q=>t σ H λxs H1=>xs.length<=wY /\ ∀p,H1 p=none->Q (.ref p) (upd H1 p (.tup xs))
def zCP(t:TA):TE:=λσ H Q=>t σ H λxs H1=>xs.length<=wY /\ ∀p,H1 p=none->Q (.ref p) (upd H1 p (.lst xs))
theorem zBy{x1}(h:PA X es t):PE X (.Tuple es x1 pos) (zC0 t):=by
 intro pins s σ H Q I hq;refine wpAny_Tuple_spliced (aE (h pos pins s σ H _ I hq) λus s1 ⟨xs,H1,I1,r,z,q⟩=>⟨by rw[<- r.length];exact z,?_⟩);have hf:H1 s1.heap.objs.size=none:=I1.aB.fresh (wu _);refine⟨.ref s1.heap.objs.size,upd H1 s1.heap.objs.size (.tup xs),I1.laid (t':=s1.toks) (λb u e=>wj _ e) (wu _) ?_,rfl,q _ hf⟩;exact⟨z,us,r,⟨_,wC _ rfl,rfl,_,rfl⟩⟩
theorem YR(h:PA X es t):PE X (.List es pos) (zCP t):=by
 intro pins s σ H Q I hq;refine wpAny_List_spliced (aE (h pos pins s σ H _ I hq) λus s1 ⟨xs,H1,I1,r,z,q⟩=>⟨by rw[<- r.length];exact z,?_⟩);have hf:H1 s1.heap.objs.size=none:=I1.aB.fresh (wu _);refine⟨.ref s1.heap.objs.size,upd H1 s1.heap.objs.size (.lst xs),I1.laid (t':=s1.toks) (λb u e=>wj _ e) (wu _) ?_,rfl,q _ hf⟩;exact⟨z,us,0,r,wC _ rfl⟩
end
abbrev Sp:=List V->Hp->VK->XK->Prop
abbrev fm:=List Env->Hp->wk->XK->we->wk->Prop
structure pJ(P:wP)(w:wR)(K:wb)(mg:Str->Option we)(base:wK)(A:vj)(outer:List Env)(s:wk)(H:Hp):Prop where
 frames:A.frames=some outer
 mod:Mod K mg base
 bs:∀b o,base.get? b=some o->s.heap.get? b=some o/\H b=none
 gW:base.objs.size<=s.heap.objs.size
 eC:s.heap.FunFrames base outer
 jc:∀b∈cZ outer,H b=none
 aB:cH P w H s.heap
 bare:AllBare s.gens
def CE(outer:List Env)(P:wP)(w:wR)(H:Hp)(s:wk)(Q:VK)(u:we)(s':wk):Prop :=
 ∃v H',s'.os=s.os/\AllBare s'.gens/\Un (cZ outer) [] H H' s.heap s'.heap/\cH P w H' s'.heap/\aT v u/\Q v H'
def CR(CX:fm)(outer:List Env)(P:wP)(w:wR)(H:Hp)(s:wk)(Q:VK)(E:XK)(r:Result)(s':wk):Prop :=
 match r with
 | .ok (.ret u)=>CE outer P w H s Q u s'
 | .ok _=>False
 | .error e=>CX outer H s E e s'
structure aM(P:wP)(w:wR)(K:wb)(mg:Str->Option we)(base:wK)(CX:fm)(k:Nat)(f:wf)(fd:wJ)(ps:List Str)(sp:Sp):Prop where
 len:∀vs H Q E,sp vs H Q E->vs.length=ps.length
 run:∀(A:vj)(outer:List Env)(s:wk)(H:Hp)(args:Args)(us:List we)(vs:List V)(Q:VK)(E:XK),dw k A->pJ P w K mg base A outer s H->BindsTo s fd args (ps.zip us)->aI vs us->sp vs H Q E ->
   codeAny (model P w) A (.call (.ref f) args) (CR CX outer P w H s Q E) s
section
variable{X:Cx}{pins:List (wf × Obj)}{σ : St}{H:Hp}{s s':wk}
theorem Inv.Iz(I:Inv X pins σ H s):pJ X.prog X.w X.K X.mg X.base X.A X.stack s H :=
 ⟨I.ok.frames,I.ok.mod,I.bs,Wi I.ok.gW I.sz,I.stack,I.p5,I.aB,I.bare⟩
theorem Inv.after{Q:VK}{u:we}(I:Inv X pins σ H s)(h:CE X.stack X.prog X.w H s Q u s'):EP X pins σ Q u s':=by
 obtain⟨v,H',os,bare,un,aB,r,q⟩:=h;obtain⟨hh,g,d,t,os'⟩:=s';obtain rfl:os'=s.os:=os;exact⟨v,H',I.call (h':=hh) (g':=g) (d':=d) (t':=t) (ch:=[]) un aB bare (λb z=>absurd z (by simp)),r,q⟩
end
def nO(sp:Sp)(dvs:List V)(E:XK)(t:TA):TE:=λσ H Q=>t σ H λvs H1=>sp (vs++dvs) H1 Q E
def kK(K:wb)(fd:wJ)(ps:List Str)(ds:List we):Prop :=
 ∀(s:wk)(us:List we),K.In s.heap->(us++ds).length=ps.length->BindsTo s fd ⟨us,[]⟩ (ps.zip (us++ds))
theorem kK.all{K:wb}{fd:wJ}{ps:List Str}(h:∀us:List we,us.length=ps.length->bindArgs fd ⟨us,[]⟩=pure (ps.zip us)):kK K fd ps []:=λs us _ hl=>by
 rw[vT]at hl ⊢;exact .of_eq (h us hl)
def mX(CX:fm)(X:Cx)(E:XK):Prop:=∀(pins:List (wf × Obj))(σ : St)(H:Hp)(s:wk)(e:we)(s':wk),Inv X pins σ H s->CX X.stack H s E e s'->X.xe e s'
section
variable{X:Cx}{CX:fm}{k:Nat}{f C:wf}{fd:wJ}{ps:List Str}{sp:Sp}{dvs:List V}{ds:List we}{E:XK}{x m:Str}{p pos apos:Pos}{e o:Expr}{es:List Expr}{ta:TE}{t:TA}
theorem ZD{pins:List (wf × Obj)}{σ : St}{H:Hp}{s:wk}{Q:VK}{us:List we}{vs:List V}(F:aM X.prog X.w X.K X.mg X.base CX k f fd ps sp)(hr:dw k X.A)(hb:kK X.K fd ps ds)(hd:aI dvs ds)(hx:mX CX X E)
  (I:Inv X pins σ H s) (r:aI vs us) (h:sp (vs++dvs) H Q E):wA (model X.prog X.w) X.A (call (.ref f) us) (EP X pins σ Q) X.xe s:=by
 have r2:aI (vs++dvs) (us++ds):=r.append hd;have hl:(us++ds).length=ps.length:=by rw[<- r2.length];exact F.len _ _ _ _ h
 refine wpAny_call (V8 (F.run X.A X.stack s H ⟨us,[]⟩ (us++ds) (vs++dvs) Q E hr I.Iz (hb s us I.de hl) r2 h) λr s' hq=>?_);cases r with
 | error e=>exact hx pins σ H s e s' I hq
 | ok fl =>
  cases fl with
  | ret u=>exact I.after hq
  | next=>exact Vg hq
  | brk=>exact Vg hq
  | cont=>exact Vg hq
theorem JU(F:aM X.prog X.w X.K X.mg X.base CX k f fd ps sp)(hr:dw k X.A)(hg:Gl X x)(hm:X.mg x=some (.ref f))(hk:VS X.K (.ref f)=true)(hb:kK X.K fd ps ds)(hd:aI dvs ds)(hx:mX CX X E)
  (ha:PA X (e::es) t) (hdb:(x == ("__debug__" : Str))=false:=by decide) (he:vg (e::es) X.env=(false,eval e X.env)::vg es X.env:=by rfl) (hpl:(Vn pos (vg es X.env)).any (·.1)=false:=by rfl) :
  PE X (.Call (.Name x p) (e::es) [] pos) (nO sp dvs E t):=by
 intro pins s σ H Q I h;refine qm (nF I hg hm ?_ hdb);refine XY (h₀:=X.base) I.ok.mod.pO hk (aE (ha pos pins s σ H _ I h) λus s1 ⟨vs,H1,I1,r,q⟩=>⟨I1.de,?_⟩) he hpl;exact ZD F hr hb hd hx I1 r q
structure Mk(K:wb)(C f:wf):Prop where
 makes:PySem.W.makesIn K C=true
 init:Vs K (.ref C) "__init__"=some (some (.ref f))
 fn:UX K (.ref f)=true
 kp:VS K (.ref C)=true
end
section
variable{X:Cx}{CX:fm}{k:Nat}{f C:wf}{fd:wJ}{ps ks:List Str}{sp:Sp}{E:XK}{x m:Str}{p pos apos kpos:Pos}{e o:Expr}{es:List Expr}{kws:List Keyword}{te ta:TE}{t tk:TA}{nm:Option Str}
structure zCU(K:wb)(fd:wJ)(ps ks:List Str)(g:List we->List we->List we)(gV:List V->List V->List V):Prop where
 to:∀(s:wk)(us ws:List we),K.In s.heap->(g us ws).length=ps.length->BindsTo s fd ⟨us,ks.zip ws⟩ (ps.zip (g us ws))
 rel:∀{vs:List V}{us:List we}{zs:List V}{ws:List we},aI vs us->aI zs ws->aI (gV vs zs) (g us ws)
variable{g:List we->List we->List we}{gV:List V->List V->List V}
end
structure aQ(N P:List Str)(sc:Scope):Prop where
 kind:sc.kind=.function
 co:sc.isCoroutine=false
 gen:sc.isGenerator=false
 nd:N.Nodup
 pre:N.take P.length=P
 par:∀x∈P,sc.names.lookup x=some .local\/sc.names.lookup x=some .cell
 SG:∀y∈sc.names,y.2≠.free
theorem Rc{kindOf:Str->Option W4}{x:Str} : ∀{binds:List (Str × we)}{m:Str->Option we},(∀v,(x,v) ∉ binds)->bindL kindOf binds m x=m x
 | [],_,_=>rfl
 | (n,v)::r,m,h=>by
  unfold bindL;rw[Rc λw hw=>h w (wI _ hw)]
  split
  ·have:x≠n:=by rintro rfl;exact h v wN
   simp[this]
  ·rfl
theorem Kg{kindOf:Str->Option W4}{x:Str} : ∀{binds:List (Str × we)}{m:Str->Option we},(∀v,(x,v) ∉ binds)->bindC kindOf binds m x=m x
 | [],_,_=>rfl
 | (n,v)::r,m,h=>by
  unfold bindC;rw[Kg λw hw=>h w (wI _ hw)]
  split
  ·rfl
  ·have:x≠n:=by rintro rfl;exact h v wN
   simp[this]
theorem IJ{kindOf:Str->Option W4}{x:Str}{v:we} : ∀{P:List Str}{vs:List we}{i:Nat}{m:Str->Option we},P.Nodup->P[i]? = some x->vs[i]? = some v->kindOf x=some .local ->
  bindL kindOf (P.zip vs) m x=some v
 | [],_,_,_,_,h,_,_=>by simp at h
 | _::_,[],_,_,_,_,h,_=>by simp at h
 | p::P,w::vs,0,m,nd,h1,h2,hk=>by
  simp at h1 h2;subst h1;subst h2
  show bindL kindOf ((p,w)::P.zip vs) m p=_
  unfold bindL;rw[Rc λv hv=>(Wp.mp nd).1 (xV hv).1,if_pos hk];simp
 | p::P,w::vs,i+1,m,nd,h1,h2,hk=>by
  show bindL kindOf ((p,w)::P.zip vs) m x=_
  unfold bindL;exact IJ (i:=i) (Wp.mp nd).2 (by simpa using h1) (by simpa using h2) hk
theorem Pg{kindOf:Str->Option W4}{x:Str}{v:we} : ∀{P:List Str}{vs:List we}{i:Nat}{m:Str->Option we},P.Nodup->P[i]? = some x->vs[i]? = some v->kindOf x≠some .local ->
  bindC kindOf (P.zip vs) m x=some v
 | [],_,_,_,_,h,_,_=>by simp at h
 | _::_,[],_,_,_,_,h,_=>by simp at h
 | p::P,w::vs,0,m,nd,h1,h2,hk=>by
  simp at h1 h2;subst h1;subst h2
  show bindC kindOf ((p,w)::P.zip vs) m p=_
  unfold bindC;rw[Kg λv hv=>(Wp.mp nd).1 (xV hv).1,if_neg hk];simp
 | p::P,w::vs,i+1,m,nd,h1,h2,hk=>by
  show bindC kindOf ((p,w)::P.zip vs) m x=_
  unfold bindC;exact Pg (i:=i) (Wp.mp nd).2 (by simpa using h1) (by simpa using h2) hk
def start(N:List Str)(vs:List V):St:=vs.map some++wm (N.length-vs.length) none
def gO(CX:fm)(P:wP)(w:wR)(K:wb)(mg:Str->Option we)(base:wK)(N:List Str)(qual:Str)(scope:Scope)(f:wf)(cd:we)(A:vj)(outer:List Env)(s:wk)(H:Hp)(E:XK):Cx where
 prog:=P
 w:=w
 K:=K
 mg:=mg
 base:=base
 A:=A.deeper (envOfC qual scope s.heap.objs.size f cd)
 N:=N
 s₀:=s
 H₀:=H
 env:=envOfC qual scope s.heap.objs.size f cd
 outer:=outer
 stack:=envOfC qual scope s.heap.objs.size f cd::outer
 ex:=[]
 calm:=true
 fn:=λ_=>true
 pn:=[]
 xe:=λe s'=>wA (model P w) (A.deeper (envOfC qual scope s.heap.objs.size f cd)) (leaving (envOfC qual scope s.heap.objs.size f cd) e) (λ_ s''=>CX outer H s E e s'') (λe' s''=>CX outer H s E e' s'') s'
theorem Ex{sc:Scope}{n:Nat}{x:Str}(h:sc.names.lookup x=some .cell):∃c,(cellsFrom n sc.names []).lookup x=some c:=by
 have q:=Xg sc.names n [] (.inl h);exact Option.isSome_iff_exists.mp q
theorem ztY{CX:fm}{P:wP}{w:wR}{K:wb}{mg:Str->Option we}{base:wK}{N ps:List Str}{qual:Str}{scope:Scope}{f:wf}{cd:we}{A:vj}{outer:List Env}{s s1:wk}{H:Hp}{E:XK}{us:List we}{vs:List V}
  (S:aQ N ps scope) (hd:A.handled=none) (e0:pJ P w K mg base A outer s H) (hl:vs.length=ps.length) (r:aI vs us)
  (x:InCallC s s.heap.objs.size (bindL (envOfC qual scope s.heap.objs.size f cd).kindOf (ps.zip us) λ_=>none) (cellsFrom (s.heap.objs.size+1) scope.names []) (bindC (envOfC qual scope s.heap.objs.size f cd).kindOf (ps.zip us) λ_=>none) s1) :
  Inv (gO CX P w K mg base N qual scope f cd A outer s H E) [] (start N vs) H s1:=by
 have hpl:ps.length<=N.length:=by have:=congrArg uM S.pre;rw[vP]at this;lia
 obtain⟨h1,tk,rfl,hk⟩:=x.done;have noA:∀b:wf,b ∉ (gO CX P w K mg base N qual scope f cd A outer s H E).ex:=λb z=>absurd (show b∈([]:List wf)from z) (by simp)
 refine⟨⟨e0.mod,S.kind,rfl,rfl,wu _,λy z c h1 h2=>?_,λy hy=>?_,λy c _ h=>?_,λ_=>hd,Around.frames_deeper e0.frames,.inr ⟨rfl,rfl⟩,λb z=>absurd z (noA b),e0.bs,e0.gW,λb _ _=>noA b,λb z=>absurd z (noA b),e0.eC,e0.jc⟩,
  rfl,e0.bare,Un.kept hk,⟨_,x.toInCall.ns,λi y v h1 h2 h3=>?_⟩,λy c h=>⟨_,x.cell y c h⟩,e0.aB.fresh (wu _),λy c h=>?_,λp hp=>absurd (show p∈([]:List (wf × Obj))from hp) (by simp),e0.aB.kept hk,?_⟩
 ·exact name_of_addr x.apart (Vr h1) (Vr h2)
 ·have hy:scope.names.lookup y=some .cell\/scope.names.lookup y=some .free:=hy
  rcases hy with hy | hy
  ·exact Ex hy
  ·exact absurd rfl (S.SG _ (Vr hy))
 ·exact VX (x.above y c (Vr h))
 ·have hi:i<vs.length:=by
   unfold start at h2
   by_cases hi:i<vs.length
   ·exact hi
   ·rw[Wr (by simpa using hi)]at h2
    rw[vO]at h2
    split at h2<;>cases h2
  have ha:vs[i]? = some v:=by
   unfold start at h2;rw[Wu (by simpa using hi),wz]at h2;cases e:vs[i]? with
   | none=>rw[e]at h2;cases h2
   | some a=>rw[e]at h2;cases h2;rfl
  obtain⟨u,hu,rv⟩:=r.get ha
  have hp:ps[i]? = some y:=by
   rw[<- S.pre,xI (by lia)];exact h1
  have ndP:ps.Nodup:=by rw[<- S.pre];exact S.nd.sublist (uq _ _)
  refine⟨u,rv,?_⟩;rcases S.par y (qK hp)with k | k
  ·exact .inl ⟨k,IJ ndP hp hu k⟩
  ·obtain⟨c,e⟩:=Ex (n:=s.heap.objs.size+1) k
   refine .inr ⟨.inl k,c,e,?_⟩;have q:=x.cell y c e;rw[Pg ndP hp hu (by show scope.names.lookup y≠_;rw[k];decide)]at q;exact q
 ·exact e0.aB.fresh (VX (x.above y c (Vr h)))
 ·unfold start
  show _=N.length
  rw[wS,wd,wO]
  lia
theorem NQ{CX:fm}{P:wP}{w:wR}{K:wb}{mg:Str->Option we}{base:wK}{k:Nat}{f:wf}{name qual:Str}{params:Arguments}{body:List vD}{scope:Scope}{dV kV doc pm cdv ct oc:we}{an od:Option wf}
  {osl:Array (Option we)} {N ps:List Str} {sp:Sp} (lk:K.lookup f=some ⟨oc,od,.func (VY name qual params body scope dV kV doc pm an cdv ct),osl⟩) (hcd:Q6 K cdv qual=true) (S:aQ N ps scope)
  (len:∀vs H Q E,sp vs H Q E->vs.length=ps.length)
  (hbody:∀(A:vj)(outer:List Env)(s:wk)(H:Hp)(vs:List V)(Q:VK)(E:XK),dw k (A.deeper (envOfC qual scope s.heap.objs.size f cdv))->sp vs H Q E ->
   ∃t,fh (gO CX P w K mg base N qual scope f cdv A outer s H E) body t/\t {nx:=λ_ H'=>Q .aZ H',rt:=Q} (start N vs) H) :
  aM P w K mg base CX (k+1) f (VY name qual params body scope dV kV doc pm an cdv ct) ps sp:=by
 refine⟨len,λA outer s H args us vs Q E hr e0 hb r hsp=>?_⟩;have hl:=len _ _ _ _ hsp;have KX:K.In s.heap:=e0.mod.pO.keeps λb o e=>(e0.bs b o e).1
 have lim:s.heap.NoLimit:=e0.mod.nolimit.keeps λb o e=>(e0.bs b o e).1
 have hkind:∀y∈ps.zip us,scope.names.lookup y.1=some .local\/(scope.names.lookup y.1=some .cell/\((cellsFrom (s.heap.objs.size+1) scope.names []).lookup y.1).isSome=true):=λ⟨n,v⟩ hy=>by
  rcases S.par n (xV hy).1 with q | q
  ·exact .inl q
  ·exact .inr ⟨q,Xg _ _ _ (.inl q)⟩
 refine codeAny_call_function hr.depth (KX _ _ lk) rfl S.co S.gen rfl (PySem.W.codeRec_of KX hcd) (hb _ _ _ _ ?_);refine wpAny_newFunctionEnv_cells S.kind hkind λenv he s1 x=>?_
 subst he;refine⟨lim.keeps x.toInCall.keep,codeAny_func ?_⟩;obtain⟨t,ht,hq⟩:=hbody A outer s H vs Q E (hr.deeper _) hsp;have I:Inv (gO CX P w K mg base N qual scope f cdv A outer s H E) [] (start N vs) H s1:=ztY S hr.hd e0 hl r x;refine WC (ht [] s1 (start N vs) H _ I hq) (λfl s' hs=>?_) λe s' hs=>hs
 have fin:∀{σ':St}{H':Hp}{v:V}{u:we},Inv (gO CX P w K mg base N qual scope f cdv A outer s H E) [] σ' H' s'->aT v u->Q v H'->CE outer P w H s Q u s' :=
  λ{σ' H' v u} J rv q=>⟨v,H',J.os,J.bare,J.base,J.aB,rv,q⟩
 cases fl with
 | ret u =>
  obtain⟨v,σ',H',J,rv,q⟩:=hs;exact fin J rv q
 | next =>
  obtain⟨σ',H',J,q⟩:=hs;exact fin (v:=V.aZ) (u:=Value.none) J rfl q
 | brk =>
  obtain⟨_,_,_,q⟩:=hs;exact Vg q
 | cont =>
  obtain⟨_,_,_,q⟩:=hs;exact Vg q
section
variable{X:Cx}{x:Str}{p pos:Pos}{e:Expr}{es:List Expr}{t:TA}{id T:String}{r:List V->Hp->VK->Prop}
def mS(r:List V->Hp->VK->Prop)(t:TA):TE:=λσ H Q=>t σ H λvs H1=>r vs H1 Q
theorem aU(hc:ay X (.builtin id) r)(hg:Gl X x)(hm:X.mg x=none)(hv:Wk x=some (.builtin id))(ha:PA X (e::es) t)(hn:x≠"__name__":=by decide)(hdb:(x == ("__debug__" : Str))=false:=by decide)
  (he:vg (e::es) X.env=(false,eval e X.env)::vg es X.env:=by rfl) (hpl:(Vn pos (vg es X.env)).any (·.1)=false:=by rfl):PE X (.Call (.Name x p) (e::es) [] pos) (mS r t):=by
 intro pins s σ H Q I h;refine qm (gb I hg hm hv ?_ hn hdb);exact PyProof.Rows.callWith_builtin1 (aE (ha pos pins s σ H _ I h) λus s1 ⟨vs,H1,I1,r1,q1⟩=>hc pins s1 σ H1 vs us Q I1 r1 q1) he hpl
theorem b_(hc:ay X (.type T) r)(hg:Gl X x)(hm:X.mg x=none)(hv:Wk x=some (.type T))(ha:PA X (e::es) t)(hn:x≠"__name__":=by decide)(hdb:(x == ("__debug__" : Str))=false:=by decide)
  (he:vg (e::es) X.env=(false,eval e X.env)::vg es X.env:=by rfl) (hpl:(Vn pos (vg es X.env)).any (·.1)=false:=by rfl):PE X (.Call (.Name x p) (e::es) [] pos) (mS r t):=by
 intro pins s σ H Q I h;refine qm (gb I hg hm hv ?_ hn hdb);exact vS (aE (ha pos pins s σ H _ I h) λus s1 ⟨vs,H1,I1,r1,q1⟩=>hc pins s1 σ H1 vs us Q I1 r1 q1) he hpl
end
section
variable{κ : Type}[DecidableEq κ]
end
abbrev KT(H:Hp):List (List Key × V)->List (List Key × wf × we)->Prop:=Paired λp q=>p.1=q.1/\H q.2.1=some (.tup (p.1.map kV))/\aT p.2 q.2.2
section
variable{P:wP}{w:wR}{H:Hp}{h:wK}{a:wf}
end
section
variable{X:Cx}{pins:List (wf × Obj)}{σ : St}{H:Hp}{s:wk}{a:wf}{y v:V}{u r:we}{o:Option V}{A:vj}{E:we->wk->Prop}
theorem Inv.big(I:Inv X pins σ H s):qO<s.heap.objs.size:=by
 have h:wU<s.heap.objs.size:=(I.mod.glob.keeps I.bk).lt;exact XZ (by decide) h
theorem zym{h':wK}{t':Nat}{ob:HO}(I:Inv X pins σ H s)(mu:om (H a))(hs:vW a s.heap h')(he:∃q,h'.get? a=some q)(new:cz X.prog X.w (upd H a ob) h' a ob) :
  Inv X pins σ (upd H a ob) {s with heap:=h',toks:=t'} :=
 I.write (x:=a) (e:=a) mu (.inl rfl) (λb q hb z=>(hs.2 b hb).trans z) he new
end
section
variable{X:Cx}{pins:List (wf × Obj)}{σ : St}{H:Hp}{s:wk}{a:wf}{kvs:List (Key × V)}{k:Key}{u:we}{A:vj}{E:we->wk->Prop}
end
def JB(i:Expr):Prop:=∀ov iv,subscripted i false ov iv=operate [ov,iv] (getItem ov iv)
theorem zxO{prog:wP}{w:wR}{A:vj}{E:we->wk->Prop}{s:wk}{env:Env}{value slice:Expr}{pos:Pos}{T id:String}{Q:we->wk->Prop}
  (hl:typeLookup (.type T) "__getitem__"=pure (some (.builtin id))) (hs:JB slice)
  (h:wA (model prog w) A (eval value env) (λo s₁=>wA (model prog w) A (eval slice env) (λi s₂=>s₂.TypeIs o T/\wA (model prog w) A (getItem o i) Q E s₂) E s₁) E s) :
  wA (model prog w) A (eval (.Subscript value slice pos) env) Q E s:=by
 refine Subscript_ (WC h (λo s₁ h₁=>WC h₁ (λi s₂ h₂=>?_) λ_ _ x=>x) λ_ _ x=>x);obtain⟨hT,h₂⟩:=h₂;unfold subscriptTail;refine wg ?_;rw[getitemInPython_of_ne hT.not_modules];refine wg (Qb hT hl ?_)
 have fin:wA (model prog w) A (subscripted slice false o i) (λr s₃=>wA (model prog w) A (letTemporaryGo value o r >>= λ_=>pure r) Q E s₃) E s₂:=by
  rw[hs o i];exact wpAny_operating (WC h₂ (λr s₃ h₃=>wg (wpAny_letTemporaryGo (wp h₃))) λ_ _ x=>x)
 first
  | exact wp (wg fin)
  | exact wg (wp (wg fin))
  | exact wg fin
section
variable{X:Cx}{o i e value:Expr}{pos pos' tpos:Pos}{td ty tv:TE}
end
section
variable{X:Cx}{pos:Pos}
end
abbrev VV:List (V × V)->List (we × we)->Prop:=Paired λp q=>aT p.1 q.1/\aT p.2 q.2
structure M1(X:Cx)(o:Expr)(m:Str)(apos:Pos)(e:Expr)(cpos:Pos):Prop where
 base:attributeBase o m X.env (eval o X.env)=eval o X.env
 tY:((Vn cpos (vg [e] X.env)).all (λx=>!x.1)&&(backToKw cpos (keywordEach [] X.env)).all (λx=>x.1.isSome)
   && decide (([e]:List Expr).length+([]:List Keyword).length+(if([]:List Keyword).isEmpty then 0 else 1)<30))=true
 line:(apos.endLine == cpos.line)=true
 trees:Vn cpos (vg [e] X.env)=[(false,eval e X.env)]
structure M2(X:Cx)(o:Expr)(m:Str)(apos:Pos)(e f:Expr)(cpos:Pos):Prop where
 base:attributeBase o m X.env (eval o X.env)=eval o X.env
 tY:((Vn cpos (vg [e,f] X.env)).all (λx=>!x.1)&&(backToKw cpos (keywordEach [] X.env)).all (λx=>x.1.isSome)
   && decide (([e,f]:List Expr).length+([]:List Keyword).length+(if([]:List Keyword).isEmpty then 0 else 1)<30))=true
 line:(apos.endLine == cpos.line)=true
 trees:Vn cpos (vg [e,f] X.env)=[(false,eval e X.env),(false,eval f X.env)]
section
variable{X:Cx}{pins:List (wf × Obj)}{σ : St}{H:Hp}{s:wk}{a:wf}{y d:V}{u r:we}{o:Option V}{A:vj}{E:we->wk->Prop}
end
section
variable{X:Cx}{o e f:Expr}{apos cpos:Pos}{td ty tx:TE}
end
section
variable{X:Cx}{pins:List (wf × Obj)}{σ : St}{H:Hp}{s:wk}{a:wf}{kvs:List (Key × V)}{A:vj}{E:we->wk->Prop}
end
section
variable{X:Cx}{pins:List (wf × Obj)}{σ : St}{H:Hp}{s:wk}{a:wf}{y:V}{u:we}{A:vj}{E:we->wk->Prop}
end
end L2
namespace HT
open PySem PyProof.Rows
section
open PySem.SeqAt
open PySem.AutoSeq1 (wpAny_loadPart')
open PySem.MeetsSeq PySem.MeetsSeq2 PySem.MeetsSeq3
end
section
variable{prog:wP}{w:wR}{A:vj}{E:we->wk->Prop}{s:wk}
theorem SD{t b:wf}{vs ws:List we}{Q:we->wk->Prop}(ht:IsTup s.heap t vs.toArray)(hb:IsTup s.heap b ws.toArray)(hv:vs≠[])
  (h1:ws=[]->Q (.ref t) s) (h2:ws≠[]->Q (.ref s.heap.objs.size) {s with heap:=s.heap.push {cls:=.type "tuple",data:=.seq (vs++ws).toArray}})
  (hsz:vs.length+ws.length<=wY):wA (model prog w) A (WH .Add (.ref t) (.ref b)) Q E s:=by
 obtain⟨⟨cls,dd,data,sl⟩,ho,hc,n,hd⟩:=id ht;obtain⟨⟨cls2,dd2,data2,sl2⟩,ho2,hc2,n2,hd2⟩:=id hb;simp only at hc hd hc2 hd2;subst hc hd hc2 hd2;have e:vs.toArray++ws.toArray=(vs++ws).toArray:=by simp
 by_cases hw:ws=[]
 ·exact concat_meets ⟨_,ho,rfl⟩ ⟨_,ho2,rfl⟩ noFill_tuple_add seq_tuple_add QC Qp (Qe _ _)
   (tuple_addW1 t b vs.toArray ws.toArray n n2 dd dd2 sl sl2 (by simpa using hv) (by simp[hw])) ⟨ho,ho2,h1 hw⟩
 ·refine concat_meets ⟨_,ho,rfl⟩ ⟨_,ho2,rfl⟩ noFill_tuple_add seq_tuple_add QC Qp (Qe _ _)
   (tuple_addW2 t b vs.toArray ws.toArray n n2 dd dd2 sl sl2 (by simpa using hv) (by simpa using hw) (by rw[wG,wG];exact hsz)) ⟨ho,ho2,?_⟩
  rw[e];exact h2 hw
def aV(n d:Nat):Option Int->Nat
 | none=>d
 | some v=>if v<0 then(v+(n:Int)).toNat else min v.toNat n
theorem HB(n d:Nat):aV n d none=d:=rfl
theorem HR(n d k:Nat):aV n d (some (k:Int))=min k n:=by
 show(if(k:Int)<0 then((k:Int)+(n:Int)).toNat else min (k:Int).toNat n)=min k n
 rw[if_neg (by lia),wH]
theorem Yo(n d:Nat)(hd:d<=n)(o:Option Int):aV n d o<=n:=by
 cases o with
 | none=>exact hd
 | some v =>
  show(if v<0 then(v+(n:Int)).toNat else min v.toNat n)<=n
  by_cases hv:v<0
  ·rw[if_pos hv];lia
  ·rw[if_neg hv];exact Nat.min_le_right _ _
theorem NW(v:Int)(n d:Nat):(if v<0 then max (v+(n:Int)) 0 else min v (n:Int))=((aV n d (some v):Nat):Int):=by
 show(if v<0 then max (v+(n:Int)) 0 else min v (n:Int))=(((if v<0 then(v+(n:Int)).toNat else min v.toNat n):Nat):Int)
 by_cases hv:v<0
 ·simp only[if_pos hv];lia
 ·simp only[if_neg hv];lia
theorem zrp(lo hi:Option Int)(n:Nat):qW lo hi 1 (n:Int)=(((aV n 0 lo:Nat):Int),((aV n n hi:Nat):Int)):=by
 have h1:¬ ((1:Int)<0):=by lia
 unfold qW;simp only[h1,if_false];refine Qc ?_ ?_
 ·cases lo with
  | none=>rfl
  | some v=>exact NW v n 0
 ·cases hi with
  | none=>rfl
  | some v=>exact NW v n n
theorem Zm(i j:Nat):VP (i:Int) (j:Int) 1=j-i:=by
 unfold VP;have h1:(1:Int) > 0:=by lia
 simp only[h1,if_true,Int.ediv_one]
 split<;>lia
theorem O7{v:we}{o:Option Int}{Q:Option Int->wk->Prop}(p:IsPart v o)(h:Q o s):wA (model prog w) A (Uu v) Q E s:=by
 cases p with
 | none=>exact slicePart_none h
 | int i t=>exact slicePart_int h
theorem Zb{sl:wf}{vl vu:we}{lo hi:Option Int}{n:Nat}{Q:Int × Int × Nat->wk->Prop}(hs:s.heap.IsSliceOf sl vl vu .none)(pl:IsPart vl lo)(pu:IsPart vu hi)
  (h:Q (((aV n 0 lo:Nat):Int),1,aV n n hi-aV n 0 lo) s):wA (model prog w) A (xq (.ref sl) (pure (n:Int))) Q E s:=by
 obtain⟨os,hos,hcs,hds⟩:=id hs;unfold xq UT;refine wg (wg (Wa hos hds (x:=vl) rfl (wg (Wa hos hds (x:=vu) rfl (wg (Wa hos hds (x:=.none) rfl (wp ?_)))))));refine wg (slicePart_none ?_)
 show wA _ _ (if((1:Int) == 0)=true then _ else _) _ _ s
 rw[if_neg (by decide)];refine wg (O7 pl (wg (O7 pu (wg (wp ?_)))))
 show wA _ _ (match qW lo hi 1 (n:Int)with | (lo,hi)=>pure (lo,(1:Int),VP lo hi 1)) _ _ s
 rw[zrp lo hi n]
 show wA _ _ (pure (((aV n 0 lo:Nat):Int),(1:Int),VP ((aV n 0 lo:Nat):Int) ((aV n n hi:Nat):Int) 1)) _ _ s
 rw[Zm];exact wp h
theorem Tx(xs:Array we)(i k:Nat):((wo k).filterMap λ(m:Nat)=>xs[((i:Int)+(m:Int)*1).toNat]?).toArray=((xs.toList.drop i).take k).toArray:=by
 have e:(λ(m:Nat)=>xs[((i:Int)+(m:Int)*1).toNat]?)=λm=>xs[i+m]?:=by
  funext m
  have:((i:Int)+(m:Int)*1).toNat=i+m:=by lia
  rw[this]
 rw[e];have:=pick_run xs i k;rw[List.filterMap_map]at this;have e2:((λx=>xs[x]?) ∘ λx=>i+x)=λm=>xs[i+m]?:=rfl
 rw[e2]at this;rw[this]
theorem R7{t sl:wf}{items:Array we}{vl vu:we}{lo hi:Option Int}{Q:we->wk->Prop}(ht:IsTup s.heap t items)(hs:s.heap.IsSliceOf sl vl vu .none)(pl:IsPart vl lo)(pu:IsPart vu hi)
  (hw:¬ (aV items.size 0 lo=0/\aV items.size items.size hi=items.size))
  (h:Q (.ref s.heap.objs.size) {s with heap:=s.heap.push {cls:=.type "tuple",data:=.seq ((items.toList.drop (aV items.size 0 lo)).take (aV items.size items.size hi-aV items.size 0 lo)).toArray}})
  (hsz:items.size<=wY):wA (model prog w) A (getItem (.ref t) (.ref sl)) Q E s:=by
 have htake:sizeOk (.seq ((items.toList.drop (aV items.size 0 lo)).take (aV items.size items.size hi-aV items.size 0 lo)).toArray):=by
  show((items.toList.drop (aV items.size 0 lo)).take (aV items.size items.size hi-aV items.size 0 lo)).toArray.size<=wY
  rw[wG,vP,qL,wD]
  lia
 have hj:aV items.size items.size hi<=items.size:=Yo _ _ (wu _) hi;obtain⟨os,hos,hcs,hds⟩:=id hs;have hTs:s.TypeIs (.ref sl) "slice":=⟨os,hos,hcs⟩;unfold getItem
 try with_reducible refine WA ?_
 first | refine wg (wp ?_) | skip
 refine wg (wpAny_sequenceKey ht.typeIs (by decide) ?_)
 refine wg (wpAny_callSpecial?_slot (name:=WW "__getitem__") ht.typeIs qc
  (WN qc ht.typeIs entry_tuple_getitem ?_ (args_tuple_getitem _ _)))
 show wA _ _ (xr (.ref t) >>= _) _ _ s
 refine wg (tupleItemsOf_ ht ?_);refine wg (wpAny_typeOf hTs ?_);rw[if_pos (by decide)];refine wg (Zb hs pl pu ?_)
 have hno:¬ ((((aV items.size 0 lo:Nat):Int) == 0&&(1:Int) == 1&&(aV items.size items.size hi-aV items.size 0 lo) == items.size)=true):=by
  intro q;rw[vf,vf]at q;have q1:((aV items.size 0 lo:Nat):Int)=0:=eq_of_beq q.1.1;have q2:aV items.size items.size hi-aV items.size 0 lo=items.size:=eq_of_beq q.2;exact hw ⟨by lia,by lia⟩
 show wA _ _ (if(((aV items.size 0 lo:Nat):Int) == 0&&(1:Int) == 1&&(aV items.size items.size hi-aV items.size 0 lo) == items.size)=true then _ else _) _ _ s
 rw[if_neg hno,Tx]
 first
  | exact wg (m:=VZ _) (W1 (wp ⟨_,rfl,wp h⟩) htake)
  | exact wg (m:=VZ _) (W1 (wg (wp (wp ⟨_,rfl,wp h⟩))) htake)
  | exact wg (wg (m:=VZ _) (W1 (wp (wp ⟨_,rfl,wp h⟩)) htake))
  | exact wg (wg (m:=VZ _) (W1 (wp ⟨_,rfl,wp h⟩) htake))
end
end HT
namespace L2
open PySem PySem.Spec PyProof.Rows
abbrev TO:=St->Hp->(Option Int->Hp->Prop)->Prop
def PO(X:Cx)(e:Option Expr)(t:TO):Prop :=
 ∀(pins:List (wf × Obj))(s:wk)(σ : St)(H:Hp)(Q:Option Int->Hp->Prop),Inv X pins σ H s->t σ H Q ->
  wA (model X.prog X.w) X.A (evalPart e X.env) (λu s'=>∃o H',Inv X pins σ H' s'/\IsPart u o/\Q o H') X.xe s
def LV:TO:=λ_ H Q=>Q none H
def MU(t:TE):TO:=λσ H Q=>t σ H λx H1=>∃i,x=.int i/\Q (some i) H1
theorem yh{ns:List Int} : ∀{us:List we},aI (ns.map V.int) us->qi us ns:=by
 induction ns with
 | nil=>intro us r;rw[Qf]at r;cases r;exact .nil
 | cons n ns ih =>
  intro us r;rw[wZ]at r;cases r with
  | cons r1 r2 =>
   obtain⟨t,e⟩:=r1;subst e;exact .cons n t (ih r2)
section
variable{X:Cx}{e:Expr}{te:TE}{lo hi:Option Expr}{tl th:TO}{pos p2:Pos}
theorem Ay:PO X none LV:=by
 intro pins s σ H Q I h;rw[evalPart_none];exact wp ⟨none,H,I,.none,h⟩
theorem rN(h:PE X e te):PO X (some e) (MU te):=by
 intro pins s σ H Q I hw;rw[evalPart_some];refine aE (h pins s σ H _ I hw) λu s1 ⟨x,H1,I1,r1,q1⟩=>?_
 obtain⟨i,rfl,q⟩:=q1;obtain⟨t,rfl⟩:=r1;exact⟨some i,H1,I1,.int i t,q⟩
def j4(X:Cx)(r:V->Option Int->Option Int->Hp->VK->Prop):Prop :=
 ∀(pins:List (wf × Obj))(s:wk)(σ : St)(H:Hp)(x:V)(v vl vu:we)(lo hi:Option Int)(sl:wf)(Q:VK),Inv X pins σ H s->aT x v->s.heap.IsSliceOf sl vl vu .none->IsPart vl lo->IsPart vu hi->r x lo hi H Q ->
  ∃T id,typeLookup (.type T) "__getitem__"=pure (some (.builtin id))/\s.TypeIs v T/\wA (model X.prog X.w) X.A (getItem v (.ref sl)) (EP X pins σ Q) X.xe s
theorem j4.or{r r':V->Option Int->Option Int->Hp->VK->Prop}(h:j4 X r)(h':j4 X r'):j4 X (λx lo hi H Q=>r x lo hi H Q\/r' x lo hi H Q):=by
 intro pins s σ H x v vl vu lo hi sl Q I rx hs pl pu q;rcases q with q | q
 ·exact h pins s σ H x v vl vu lo hi sl Q I rx hs pl pu q
 ·exact h' pins s σ H x v vl vu lo hi sl Q I rx hs pl pu q
def NC(r:V->Option Int->Option Int->Hp->VK->Prop)(te:TE)(tl th:TO):TE:=λσ H Q=>te σ H λx H1=>tl σ H1 λl H2=>th σ H2 λu H3=>r x l u H3 Q
theorem rV{r:V->Option Int->Option Int->Hp->VK->Prop}(hr:j4 X r)(he:PE X e te)(hl:PO X lo tl)(hu:PO X hi th):PE X (.Subscript e (.Slice lo hi none p2) pos) (NC r te tl th):=by
 intro pins s σ H Q I h;refine Subscript_ (aE (he pins s σ H _ I h) λv s1 ⟨x,H1,I1,r1,q1⟩=>?_);refine wpAny_Slice (aE (hl pins s1 σ H1 _ I1 q1) λvl s2 ⟨l,H2,I2,pl,q2⟩=>aE (hu pins s2 σ H2 _ I2 q2) λvu s3 ⟨u,H3,I3,pu,q3⟩=>?_);rw[evalPart_none];refine wp ?_;have I4:Inv X pins σ H3 {s3 with heap:=s3.heap.push {cls:=.type "slice",data:=.fields #[vl,vu,.none]}}:=I3.kept (t':=s3.toks) λb ob q=>wj _ q
 obtain⟨T,id,hT,ht,hg⟩:=hr pins {s3 with heap:=s3.heap.push {cls:=.type "slice",data:=.fields #[vl,vu,.none]}} σ H3 x v vl vu l u s3.heap.objs.size Q I4 r1 (U8 ..) pl pu q3
 show wA (model X.prog X.w) X.A (subscriptTail e (.Slice lo hi none p2) v (.ref s3.heap.objs.size)) (EP X pins σ Q) X.xe {s3 with heap:=s3.heap.push {cls:=.type "slice",data:=.fields #[vl,vu,.none]}}
 exact tail_any (ops:=[.ref s3.heap.objs.size,v]) ht hT hg (by with_unfolding_all rfl)
def gK(xs:List V)(lo hi:Option Int):List V:=(xs.drop (HT.aV xs.length 0 lo)).take (HT.aV xs.length xs.length hi-HT.aV xs.length 0 lo)
theorem Nl(xs:List V)(lo hi:Option Int):(gK xs lo hi).length<=xs.length:=by
 unfold gK;rw[vP,qL]
 lia
def KR(K:wb):V->Option Int->Option Int->Hp->VK->Prop:=λx lo hi H Q=>∃a xs,x=.ref a/\aF K H a xs /\
 ¬ (HT.aV xs.length 0 lo=0/\HT.aV xs.length xs.length hi=xs.length) /\ ∀p,H p=none->Q (.ref p) (upd H p (.tup (gK xs lo hi)))
theorem zBs:j4 X (KR X.K):=by
 intro pins s σ H x v vl vu lo hi sl Q I rx hs pl pu h;obtain⟨a,xs,rfl,hx,hw,q⟩:=h;cases rx;obtain⟨its,r,ht,hz⟩:=I.tuple hx;have hlen:its.toArray.size=xs.length:=by rw[wG];exact r.length.symm
 refine⟨"tuple",_,qc.lookup,ht.typeIs,?_⟩;refine HT.R7 ht hs pl pu (by rw[hlen];exact hw) ?_ (by rw[hlen];exact hz);rw[hlen];refine⟨.ref s.heap.objs.size,_,I.laid (t':=s.toks) (o:=.tup (gK xs lo hi)) (λb ob q=>wj _ q) (wu _) ?_,rfl,q _ (I.aB.fresh (wu _))⟩;exact⟨Wi (Nl xs lo hi) hz,_,(r.drop (HT.aV xs.length 0 lo)).take (HT.aV xs.length xs.length hi-HT.aV xs.length 0 lo),qJ _ _⟩
def KQ(K:wb):R2:=λx y H Q=>∃a b xs ys,x=.ref a/\y=.ref b/\aF K H a xs/\aF K H b ys/\xs≠[]/\xs.length+ys.length<=wY /\
 (ys=[]->Q (.ref a) H)/\(ys≠[]->∀p,H p=none->Q (.ref p) (upd H p (.tup (xs++ys))))
theorem aI.A4{xs:List V}{us:List we}(r:aI xs us):us=[] ↔ xs=[]:=by
 cases r with
 | nil=>simp
 | cons _ _=>simp
theorem zxU:aJ X (WH .Add) (KQ X.K):=by
 intro pins s σ H x y v u Q I rx ry h;obtain⟨a,b,xs,ys,rfl,rfl,ha,hb,hx,hz,q1,q2⟩:=h;cases rx;cases ry;obtain⟨its,r1,p1,_⟩:=I.tuple ha;obtain⟨its2,r2,p2,_⟩:=I.tuple hb;refine HT.SD p1 p2 (λz=>hx (r1.A4.mp z)) (λz=>⟨.ref a,H,I,rfl,q1 (r2.A4.mp z)⟩) (λz=>?_) (by rw[<- r1.length,<- r2.length];exact hz);refine⟨.ref s.heap.objs.size,_,I.laid (t':=s.toks) (o:=.tup (xs++ys)) (λb ob q=>wj _ q) (wu _) ?_,rfl,q2 (λw=>z (r2.A4.mpr w)) _ (I.aB.fresh (wu _))⟩;exact⟨by rw[wS];exact hz,_,r1.append r2,qJ _ _⟩
end
def fR(n:Nat)(i:Int):Option Nat:=if 0<=i then(if i<n then some i.toNat else none)else if -(n:Int)<=i then some (i+n).toNat else none
def fL{α : Type}(xs:List α)(i:Int):Option α:=(fR xs.length i).bind λj=>xs[j]?
theorem J9{n:Nat}{i:Int}{j:Nat}(h:fR n i=some j):seqIndex? i n=some j/\j<n /\ -(n:Int)<=i/\i<n:=by
 unfold fR at h
 by_cases h0:0<=i
 ·rw[if_pos h0]at h
  by_cases h1:i<n
  ·rw[if_pos h1]at h
   have e:i.toNat=j:=wV h;exact⟨by rw[seqIndex_of h0 h1,e],by lia,by lia,h1⟩
  ·rw[if_neg h1]at h;cases h
 ·rw[if_neg h0]at h
  by_cases h1 : -(n:Int)<=i
  ·rw[if_pos h1]at h
   have e:(i+n).toNat=j:=wV h;exact⟨by rw[seqIndex_neg (by lia) h1,e],by lia,h1,by lia⟩
  ·rw[if_neg h1]at h;cases h
theorem BM{α : Type}{xs:List α}{i:Int}{v : α}(h:fL xs i=some v):∃j,seqIndex? i xs.length=some j/\xs[j]? = some v/\j<xs.length /\ -(xs.length:Int)<=i/\i<xs.length:=by
 unfold fL at h;cases e:fR xs.length i with
 | none=>rw[e]at h;cases h
 | some j =>
  rw[e]at h;obtain⟨h1,h2,h3,h4⟩:=J9 e;exact⟨j,h1,h,h2,h3,h4⟩
theorem jZ{α : Type}{xs:List α}{j:Nat}{v : α}(h:xs[j]? = some v):fL xs (j:Int)=some v:=by
 have hj:j<xs.length:=(vk.mp h).1
 have e:fR xs.length (j:Int)=some j:=by
  unfold fR;rw[if_pos (by lia),if_pos (by lia)];simp
 unfold fL;rw[e];exact h
def zyi(b:Expr):Prop:=∀o i,subscripted b false o i=operate [o,i] (getItem o i)
def dP(X:Cx)(r:R2):Prop :=
 ∀(value slice:Expr)(pins:List (wf × Obj))(s:wk)(σ : St)(H:Hp)(x y:V)(v u:we)(Q:VK),Inv X pins σ H s->aT x v->aT y u->r x y H Q ->
  subscripted slice false v u=operate [v,u] (getItem v u)->wA (model X.prog X.w) X.A (subscriptTail value slice v u) (EP X pins σ Q) X.xe s
def JD(X:Cx)(id:String)(r:V->List V->Hp->VK->Prop):Prop :=
 ∀(pins:List (wf × Obj))(s:wk)(σ : St)(H:Hp)(x:V)(xs:List V)(v:we)(us:List we)(Q:VK),Inv X pins σ H s->aT x v->aI xs us->r x xs H Q ->
  wA (model X.prog X.w) X.A (call (.builtin id) (v::us)) (EP X pins σ Q) X.xe s
section
variable{X:Cx}{a b:Expr}{ta tb:TE}{pos:Pos}
theorem dP.or{r r':R2}(h:dP X r)(h':dP X r'):dP X (λx y H Q=>r x y H Q\/r' x y H Q):=by
 intro value slice pins s σ H x y v u Q I rx ry q hs;rcases q with q | q
 ·exact h value slice pins s σ H x y v u Q I rx ry q hs
 ·exact h' value slice pins s σ H x y v u Q I rx ry q hs
theorem cG{r:R2}(hr:dP X r)(ha:PE X a ta)(hb:PE X b tb)(hs:zyi b):PE X (.Subscript a b pos) (j7 r ta tb):=by
 intro pins s σ H Q I h;exact Subscript_ (Cq ha hb I h λv u s2 x y H2 I2 rx ry q=>hr a b pins s2 σ H2 x y v u Q I2 rx ry q (hs _ _))
def LY(K:wb):R2:=λx y H Q=>∃p xs i v,x=.ref p/\y=.int i/\aG K H p xs/\fL xs i=some v/\Q v H
def Nw(K:wb):R2:=λx y H Q=>∃p xs i v,x=.ref p/\y=.int i/\aF K H p xs/\fL xs i=some v/\Q v H
def J7:R2:=λx y H Q=>∃z i c,x=.str z/\y=.int i/\z.length<=wY/\fL z.cps.toList i=some c/\Q (.str ⟨#[c]⟩) H
theorem zyU:dP X (LY X.K):=by
 intro value slice pins s σ H x y v u Q I rx ry h hs;obtain⟨p,xs,i,z,rfl,rfl,hq,he,q⟩:=h;cases rx;obtain⟨t,rfl⟩:=ry;obtain⟨its,r,pl,hz⟩:=I.list hq;obtain⟨j,h1,h2,h3,h4,h5⟩:=BM he;obtain⟨w,ew,rw'⟩:=r.get h2;have hl:=r.length;have hn:=mj;have fin:EP X pins σ Q w s:=⟨z,H,I,rw',q⟩
 by_cases h0:0<=i
 ·have hj:i.toNat=j:=by
   rw[seqIndex_of h0 h5]at h1;exact wV h1
  exact item_listR pl.isList h0 (by lia) (by rw[hj];simpa using ew) fin hs
 ·have hj:(i+(its.toArray.size:Int)).toNat=j:=by
   rw[seqIndex_neg (by lia) h4]at h1;rw[wG,<- hl];exact wV h1
  exact subscriptTail_builtinR (x:=w) pl.isList.typeIs slot_list_getitem.lookup
   (wpAny_getItem_list_neg (Q:=λr s'=>r=w/\EP X pins σ Q r s') pl.isList (by lia) (by rw[wG]<;>lia) (by lia) (by rw[hj];simpa using ew) ⟨rfl,fin⟩) hs
theorem zBu:dP X (Nw X.K):=by
 intro value slice pins s σ H x y v u Q I rx ry h hs;obtain⟨p,xs,i,z,rfl,rfl,hq,he,q⟩:=h;cases rx;obtain⟨t,rfl⟩:=ry;obtain⟨its,r,pl,hz⟩:=I.tuple hq;obtain⟨j,h1,h2,h3,h4,h5⟩:=BM he;obtain⟨w,ew,rw'⟩:=r.get h2;have hl:=r.length;have hn:=mj;have fin:EP X pins σ Q w s:=⟨z,H,I,rw',q⟩
 exact subscriptTail_builtinR (x:=w) pl.typeIs slot_tuple_getitem.lookup
  (getItem_tuple (j:=j) (Q:=λr s'=>r=w/\EP X pins σ Q r s') pl (by lia) (by lia) (by rw[wG,<- hl];exact h1) (by simpa using ew) ⟨rfl,fin⟩) hs
theorem zAn:dP X J7:=by
 intro value slice pins s σ H x y v u Q I rx ry h hs;obtain⟨z,i,c,rfl,rfl,hz,he,q⟩:=h;obtain⟨t,rfl⟩:=rx;obtain⟨t',rfl⟩:=ry;obtain⟨j,h1,h2,h3,h4,h5⟩:=BM he;have hl:z.cps.toList.length=z.length:=by simp[Str.length]
 rw[hl]at h1 h4 h5;have hn:=mj
 exact tail_any (typeIs_str s z t) slot_str_getitem.lookup (getItem_str (c:=c) (by
  have e1:decide (i < -(2^63:Int))=false:=decide_eq_false (by lia);have e2:decide (i ≥ 2^63)=false:=decide_eq_false (by lia);rw[e1,e2,UI]) (by rw[h1];simpa using h2) ⟨.str ⟨#[c]⟩,H,I.tok _,⟨_,rfl⟩,q⟩) hs
def bL(K:wb):R2:=λx y H Q=>LY K x y H Q\/Nw K x y H Q\/J7 x y H Q
theorem bM:dP X (bL X.K):=zyU.or (zBu.or zAn)
theorem zrM(its:List we)(n j:Nat)(u:we):vM (·.setIfInBounds j u) {cls:=.type "list",data:=.seq its.toArray n} = {cls:=.type "list",data:=.seq (its.set j u).toArray n}:=by
 simp[vM]
theorem Inv.lst{pins:List (wf × Obj)}{σ : St}{H:Hp}{s:wk}{p:wf}{xs:List V}(I:Inv X pins σ H s)(h:H p=some (.lst xs)) :
  ∃(its:List we)(n:Nat),aI xs its/\s.heap.get? p=some {cls:=.type "list",data:=.seq its.toArray n}/\xs.length<=wY:=by
 obtain⟨z,its,n,r,e⟩:=I.aB p _ h;exact⟨its,n,r,e,z⟩
theorem Inv.SH{pins:List (wf × Obj)}{σ : St}{H:Hp}{s:wk}{p:wf}{xs ys:List V}{its its':List we}{n n':Nat}{f:Obj->Obj}(I:Inv X pins σ H s)(h:H p=some (.lst xs))
  (ho:s.heap.get? p=some {cls:=.type "list",data:=.seq its.toArray n}) (hf:f {cls:=.type "list",data:=.seq its.toArray n} = {cls:=.type "list",data:=.seq its'.toArray n'}) (r:aI ys its') (hz:ys.length<=wY) (t:Nat) :
  Inv X pins σ (upd H p (.lst ys)) {s with heap:=s.heap.update p f,toks:=t}:=by
 have e:(s.heap.update p f).get? p=some {cls:=.type "list",data:=.seq its'.toArray n'}:=by
  rw[VA f ho (by rw[hf]<;>rfl),hf]
 refine I.write (x:=p) (e:=p) (by rw[h];trivial) (.inl rfl) (λb u hb q=>(QD _ _ (Wz hb)).trans q) ⟨_,e⟩ ?_;exact⟨hz,its',n',r,e⟩
def Rw:V->V->V->Hp->(Hp->Prop)->Prop:=λo i v H Q=>∃p xs k j,o=.ref p/\i=.int k/\H p=some (.lst xs)/\fR xs.length k=some j/\Q (upd H p (.lst (xs.set j v)))
theorem pq:IP X Rw:=by
 intro pins s σ H o i v ov iv u Q I ro ri rv h;obtain⟨p,xs,k,j,rfl,rfl,hp,hj,q⟩:=h;cases ro;obtain⟨t,rfl⟩:=ri;obtain⟨its,n,r,ho,hz⟩:=I.lst hp;obtain⟨h1,h2,h3,h4⟩:=J9 hj;have hl:=r.length;have hn:=mj
 have I':Inv X pins σ (upd H p (.lst (xs.set j v))) {s with heap:=s.heap.update p (vM (·.setIfInBounds j u))} :=
  I.SH hp ho (zrM its n j u) (r.set rv j) (by rw[VB];exact hz) s.toks
 by_cases h0:0<=k
 ·have hk:k.toNat=j:=by
   rw[seqIndex_of h0 h4]at h1;exact wV h1
  exact PySem.W.ki_setAt ho h0 (by lia) (by rw[wG,<- hl];exact h4) (by rw[hk];exact⟨_,I',q⟩)
 ·have hk:(k+(its.toArray.size:Int)).toNat=j:=by
   rw[seqIndex_neg (by lia) h3]at h1;rw[wG,<- hl];exact wV h1
  exact PySem.W.ki_setBack ho (by lia) (by rw[wG,<- hl];exact h3) (by lia) (by rw[hk];exact⟨_,I',q⟩)
theorem Yv(lo hi:Option Int)(n:Nat):(qT lo hi none n).1=((HT.aV n 0 lo:Nat):Int)/\(qT lo hi none n).2.1=((HT.aV n n hi:Nat):Int)/\(qT lo hi none n).2.2=1:=by
 refine⟨?_,?_,rfl⟩
 ·cases lo with
  | none=>simp[qT,HT.aV]
  | some i =>
   simp only[qT,HT.aV,uT,show(1:Int) > 0 by decide,if_true]
   by_cases h:i<0
   ·simp only[h,if_true]<;>lia
   ·simp only[h,if_false]<;>lia
 ·cases hi with
  | none=>simp[qT,HT.aV]
  | some i =>
   simp only[qT,HT.aV,uT,show(1:Int) > 0 by decide,if_true]
   by_cases h:i<0
   ·simp only[h,if_true]<;>lia
   ·simp only[h,if_false]<;>lia
theorem W_(its:List we)(lo hi:Option Int):slicePick its.toArray lo hi none=((its.drop (HT.aV its.length 0 lo)).take (HT.aV its.length its.length hi-HT.aV its.length 0 lo)).toArray:=by
 obtain⟨h1,h2,h3⟩:=Yv lo hi its.toArray.size;unfold slicePick;rw[h1,h2,h3];simp only[sliceRange_one,pick_run,wG]<;>rfl
def Pb(K:wb):V->Option Int->Option Int->Hp->VK->Prop:=λx lo hi H Q=>∃a xs,x=.ref a/\aG K H a xs /\ ∀p,H p=none->Q (.ref p) (upd H p (.lst (gK xs lo hi)))
theorem Zu:j4 X (Pb X.K):=by
 intro pins s σ H x v vl vu lo hi sl Q I rx hs pl pu h;obtain⟨a,xs,rfl,hx,q⟩:=h;cases rx;obtain⟨its,r,ht,hz⟩:=I.list hx;have hlen:=r.length;refine⟨"list",_,slot_list_getitem.lookup,ht.isList.typeIs,?_⟩;refine wpAny_getItem_list_slice ht.isList hs pl pu .none (by simp) ?_ (by rw[wG]<;>lia);rw[W_,<- hlen];refine⟨.ref s.heap.objs.size,_,I.laid (t':=s.toks) (o:=.lst (gK xs lo hi)) (λb ob q=>wj _ q) (wu _) ?_,rfl,q _ (I.aB.fresh (wu _))⟩;exact⟨Wi (Nl xs lo hi) hz,_,0,(r.drop (HT.aV xs.length 0 lo)).take (HT.aV xs.length xs.length hi-HT.aV xs.length 0 lo),wC _ rfl⟩
def iX:V->Bool
 | .aZ=>true
 | .bl _=>true
 | .int _=>true
 | .str _=>true
 | _=>false
def ka:V->V->Bool
 | .aZ,.aZ=>true
 | .bl a,.bl b=>a == b
 | .bl a,.int b=>(if a then 1 else 0) == b
 | .int a,.bl b=>a == (if b then 1 else 0)
 | .int a,.int b=>a == b
 | .str a,.str b=>a == b
 | _,_=>false
theorem zBa{A:vj}{s:wk}{y x:V}{u v:we}(ry:aT y u)(rx:aT x v)(fy:iX y=true)(fx:iX x=true):SeqAt.EqAt A s u v (ka y x):=by
 cases y with
 | aZ =>
  cases ry;cases x with
  | aZ=>cases rx;exact SeqAt.EqAt.same _
  | bl b=>cases rx;exact SeqAt.EqAt.none_bool b
  | int b=>obtain⟨t,rfl⟩:=rx;exact SeqAt.EqAt.none_int b t
  | str b=>obtain⟨t,rfl⟩:=rx;exact SeqAt.EqAt.none_str b t
  | _=>exact absurd (show false=true from fx) vL
 | bl a =>
  cases ry;cases x with
  | aZ=>cases rx;exact SeqAt.EqAt.bool_none a
  | bl b=>cases rx;exact SeqAt.EqAt.bool_bool a b
  | int b=>obtain⟨t,rfl⟩:=rx;exact SeqAt.EqAt.bool_int a b t
  | str b=>obtain⟨t,rfl⟩:=rx;exact SeqAt.EqAt.bool_str a b t
  | _=>exact absurd (show false=true from fx) vL
 | int a =>
  obtain⟨t',rfl⟩:=ry;cases x with
  | aZ=>cases rx;exact SeqAt.EqAt.int_none a t'
  | bl b=>cases rx;exact SeqAt.EqAt.int_bool a t' b
  | int b=>obtain⟨t,rfl⟩:=rx;exact SeqAt.EqAt.int_int a t' b t
  | str b=>obtain⟨t,rfl⟩:=rx;exact XT a t' b t
  | _=>exact absurd (show false=true from fx) vL
 | str a =>
  obtain⟨t',rfl⟩:=ry;cases x with
  | aZ=>cases rx;exact SeqAt.EqAt.str_none a t'
  | bl b=>cases rx;exact SeqAt.EqAt.str_bool a t' b
  | int b=>obtain⟨t,rfl⟩:=rx;exact XU a t' b t
  | str b=>obtain⟨t,rfl⟩:=rx;exact SeqAt.EqAt.str_str a t' b t
  | _=>exact absurd (show false=true from fx) vL
 | _=>exact absurd (show false=true from fy) vL
def eE(x:V)(u:we):Bool:=match u with
 | .none=>ka .aZ x
 | .bool b=>ka (.bl b) x
 | .int i _=>ka (.int i) x
 | .str z _=>ka (.str z) x
 | _=>false
theorem BU{x y:V}{u:we}(r:aT y u)(f:iX y=true):eE x u=ka y x:=by
 cases y with
 | aZ=>cases r;rfl
 | bl b=>cases r;rfl
 | int i=>obtain⟨t,rfl⟩:=r;rfl
 | str z=>obtain⟨t,rfl⟩:=r;rfl
 | _=>exact absurd (show false=true from f) vL
theorem pN{x:V} : ∀{xs:List V}{us:List we},aI xs us->xs.all iX=true->us.any (eE x)=xs.any λy=>ka y x
 | _,_,.nil,_=>rfl
 | y::xs,u::us,.cons r t,f=>by
  rw[XH,vf]at f;rw[XI,XI,BU r f.1,pN t f.2]
theorem mU{A:vj}{s:wk}{x:V}{v:we}(rx:aT x v)(fx:iX x=true):∀{xs:List V}{us:List we},aI xs us->xs.all iX=true->∀u∈us,SeqAt.EqAt A s u v (eE x u)
 | _,_,.nil,_=>λu hu=>by cases hu
 | y::xs,u::us,.cons r t,f=>λu' hu=>by
  rw[XH,vf]at f;rcases wE.mp hu with rfl | hu
  ·rw[BU r f.1];exact zBa r rx f.1 fx
  ·exact mU rx fx t f.2 u' hu
def sj(x:V)(xs:List V):Bool:=xs.any λy=>ka y x
def eL(K:wb)(neg:Bool):R2:=λx y H Q=>∃p xs,y=.ref p/\(aG K H p xs\/aF K H p xs)/\iX x=true/\xs.all iX=true/\Q (.bl (if neg then !sj x xs else sj x xs)) H
theorem Y4:aJ X (wW .In) (eL X.K false):=by
 intro pins s σ H x y v u Q I rx ry h;obtain⟨p,xs,rfl,hq,fx,fs,q⟩:=h;cases ry;rcases hq with hq | hq
 ·obtain⟨its,r,pl,hz⟩:=I.list hq
  refine SeqAt.in_listAt (eE x) pl.isList (λw hw=>mU rx fx r fs w (by simpa using hw)) ⟨.bl _,H,I,rfl,?_⟩;rw[show its.toArray.any (eE x)=its.any (eE x) by simp,pN r fs];exact q
 ·obtain⟨its,r,pl,hz⟩:=I.tuple hq
  refine SeqAt.in_tupleAt (eE x) pl (λw hw=>mU rx fx r fs w (by simpa using hw)) ⟨.bl _,H,I,rfl,?_⟩;rw[show its.toArray.any (eE x)=its.any (eE x) by simp,pN r fs];exact q
theorem YI:aJ X (wW .NotIn) (eL X.K true):=by
 intro pins s σ H x y v u Q I rx ry h;obtain⟨p,xs,rfl,hq,fx,fs,q⟩:=h;cases ry;rcases hq with hq | hq
 ·obtain⟨its,r,pl,hz⟩:=I.list hq
  refine SeqAt.notIn_listAt (eE x) pl.isList (λw hw=>mU rx fx r fs w (by simpa using hw)) ⟨.bl _,H,I,rfl,?_⟩;rw[show its.toArray.any (eE x)=its.any (eE x) by simp,pN r fs];exact q
 ·obtain⟨its,r,pl,hz⟩:=I.tuple hq
  refine SeqAt.notIn_tupleAt (eE x) pl (λw hw=>mU rx fx r fs w (by simpa using hw)) ⟨.bl _,H,I,rfl,?_⟩;rw[show its.toArray.any (eE x)=its.any (eE x) by simp,pN r fs];exact q
theorem znS:ay X (.builtin "len") (λxs H Q=>∃p ys,xs=[.ref p]/\(aG X.K H p ys\/aF X.K H p ys)/\Q (.int ys.length) H):=by
 intro pins s σ H xs us Q I r h;obtain⟨p,ys,rfl,hq,q⟩:=h;obtain⟨u,rfl,rx⟩:=fC r;cases rx;have hn:=mj;rcases hq with hq | hq
 ·obtain⟨its,r',pl,hz⟩:=I.list hq
  have hlen:=r'.length;exact Calls.call_len_list pl.isList (by simp only[wG]<;>lia) ⟨.int ys.length,H,I.tok _,⟨s.toks+1,by rw[wG,hlen]⟩,q⟩
 ·obtain⟨its,r',pl,hz⟩:=I.tuple hq
  have hlen:=r'.length;exact len_tuple pl (by simp only[wG]<;>lia) ⟨.int ys.length,H,I.tok _,⟨s.toks+1,by rw[wG,hlen]⟩,q⟩
theorem Tg:ay X (.type "list") (λxs H Q=>∃p ys,xs=[.ref p]/\(aG X.K H p ys\/aF X.K H p ys) /\ ∀l,H l=none->Q (.ref l) (upd H l (.lst ys))):=by
 intro pins s σ H xs us Q I r h;obtain⟨p,ys,rfl,hq,q⟩:=h;obtain⟨u,rfl,rx⟩:=fC r;cases rx
 have fin:∀(its:List we),aI ys its->ys.length<=wY->∀(h':wK)(c':Nat),(∀b o',s.heap.get? b=some o'->h'.get? b=some o') ->
     h'.get? s.heap.objs.size=some {cls:=.type "list",dict:=none,data:=.seq its.toArray c',slots:=#[]}->EP X pins σ Q (.ref s.heap.objs.size) {s with heap:=h'}:=λits r' hz h' c' kp e =>
   ⟨.ref s.heap.objs.size,_,I.laid (t':=s.toks) kp (wu _) (show cz X.prog X.w _ h' _ (.lst ys)from⟨hz,its,c',r',e⟩),rfl,q _ (I.aB.fresh (wu _))⟩
 rcases hq with hq | hq
 . obtain⟨its,r',pl,hz⟩:=I.list hq
   have hlen:=r'.length;obtain⟨o,ho,hc,n,hd⟩:=pl.isList;exact call_list_seq p (.inl rfl) ho hc hd (λh' c' kp e=>fin its r' hz h' c' kp e) (by simp only[wG]<;>lia)
 . obtain⟨its,r',pl,hz⟩:=I.tuple hq
   have hlen:=r'.length;obtain⟨o,ho,hc,n,hd⟩:=pl;exact call_list_seq p (.inr rfl) ho hc hd (λh' c' kp e=>fin its r' hz h' c' kp e) (by simp only[wG]<;>lia)
theorem ZH:ay X (.type "tuple") (λxs H Q=>∃p ys,xs=[.ref p]/\((aG X.K H p ys /\ ∀l,H l=none->Q (.ref l) (upd H l (.tup ys)))\/(aF X.K H p ys/\Q (.ref p) H))):=by
 intro pins s σ H xs us Q I r h;obtain⟨p,ys,rfl,h⟩:=h;obtain⟨u,rfl,rx⟩:=fC r;cases rx;rcases h with⟨hq,q⟩ | ⟨hq,q⟩
 ·obtain⟨its,r',pl,hz⟩:=I.list hq
  have hlen:=r'.length;refine call_tuple_list pl.isList (λh' kp=>?_) (by simp only[wG]<;>lia);have I1:Inv X pins σ H {s with heap:=h'}:=I.kept (t':=s.toks) kp
  have I2:Inv X pins σ (upd H h'.objs.size (.tup ys)) {s with heap:=h'.push {cls:=.type "tuple",data:=.seq its.toArray}} :=
   I1.laid (t':=s.toks) (λb o e=>wj _ e) (wu _) (show cz X.prog X.w _ _ _ (.tup ys)from⟨hz,its,r',qJ _ _⟩)
  exact⟨.ref h'.objs.size,_,I2,rfl,q _ (I1.aB.fresh (wu _))⟩
 ·obtain⟨its,r',pl,hz⟩:=I.tuple hq
  exact call_tuple_same pl ⟨.ref p,H,I,rfl,q⟩
def yT(K:wb)(T:String)(x:V)(H:Hp):Prop:=match x with
 | .str _=>T="str"
 | .int _=>T="int"
 | .ref p=>(T="list" /\ ∃xs,aG K H p xs)\/(T="tuple" /\ ∃o,K.lookup p=some o/\o.cls=.type "tuple"/\o.dict=none) \/
     (T="dict"/\((∃kvs,H p=some (.dK kvs)) \/ ∃kvs,H p=some (.dT kvs)))\/(T="set" /\ ∃S n,H p=some (.set S n))
 | _=>False
theorem YE{pins:List (wf × Obj)}{σ : St}{H:Hp}{s:wk}{T:String}{x:V}{v:we}(I:Inv X pins σ H s)(r:aT x v)(ty:yT X.K T x H) :
  s.TypeIs v T /\ ∀a,v=.ref a->∃ob,s.heap.get? a=some ob/\ob.dict=none:=by
 cases x with
 | str z =>
  obtain⟨t,rfl⟩:=r;cases (show T="str" from ty);exact⟨typeIs_str s z t,λ_ e=>nomatch e⟩
 | int i =>
  obtain⟨t,rfl⟩:=r;cases (show T="int" from ty);exact⟨typeIs_int s i t,λ_ e=>nomatch e⟩
 | ref p =>
  cases r;rcases ty with⟨rfl,xs,hq⟩ | ⟨rfl,o,hk,hc,hd⟩ | ⟨rfl,hk⟩ | ⟨rfl,S,n,hk⟩
  ·obtain⟨its,_,pl,_⟩:=I.list hq
   refine⟨pl.isList.typeIs,λa e=>?_⟩;cases e;obtain⟨o,n,e,c,hd,_⟩:=pl;exact⟨o,e,hd⟩
  ·refine⟨⟨o,I.de p o hk,hc⟩,λa e=>?_⟩
   cases e;exact⟨o,I.de _ o hk,hd⟩
  ·have z:∃o,s.heap.get? p=some o/\o.ExactDict:=by
    rcases hk with⟨kvs,hk⟩ | ⟨kvs,hk⟩
    ·obtain⟨_,_,_,_,o,_,_,e,ex,_⟩:=I.aB p _ hk
     exact⟨o,e,ex⟩
    ·obtain⟨_,_,_,_,o,_,_,e,ex,_⟩:=I.aB p _ hk
     exact⟨o,e,ex⟩
   obtain⟨o,e,ex⟩:=z;refine⟨⟨o,e,ex.1⟩,λa e2=>?_⟩;cases e2;exact⟨o,e,ex.2.1⟩
  ·obtain⟨o,_,_,_,e,ex,_⟩:=I.aB p _ hk
   refine⟨⟨o,e,ex.1⟩,λa e2=>?_⟩;cases e2;exact⟨o,e,ex.2.1⟩
 | _=>exact Vg ty
def yq(K:wb)(T:String)(r:V->List V->Hp->VK->Prop)(to:TE)(t:TA):TE:=λσ H Q=>to σ H λx H1=>yT K T x H1/\t σ H1 λxs H2=>r x xs H2 Q
variable{o e:Expr}{es:List Expr}{to:TE}{t:TA}{name:Str}{apos cpos:Pos}{T id:String}{r:V->List V->Hp->VK->Prop}
theorem fS(pa:PlainAttrs T)(slot:Slot T name id)(hty:typeOf (.builtin id)=pure (.type "method_descriptor"))(hm:JD X id r)(ho:PE X o to)(ha:PA X (e::es) t)
  (hbase:attributeBase o name X.env (eval o X.env)=eval o X.env:=by rfl)
  (hfew:((Vn cpos (vg (e::es) X.env)).all (λx=>!x.1)&&(backToKw cpos (keywordEach [] X.env)).all (λx=>x.1.isSome)
   && decide ((e::es).length+([]:List Keyword).length+(if([]:List Keyword).isEmpty then 0 else 1)<30))=true:=by rfl)
  (hline:(apos.endLine == cpos.line)=true:=by rfl) (hs:vg (e::es) X.env=(false,eval e X.env)::vg es X.env:=by rfl) (hplain:(Vn cpos (vg es X.env)).any (·.1)=false:=by rfl) :
  PE X (.Call (.Attribute o name apos) (e::es) [] cpos) (yq X.K T r to t):=by
 intro pins s σ H Q I h;refine wpAny_Call_method_late hbase hfew hline rfl (aE (ho pins s σ H _ I h) λv s1 ⟨x,H1,I1,r1,ty,q1⟩=>?_);obtain⟨h1,h2⟩:=YE I1 r1 ty;refine⟨T,id,pa,slot,hty,h1,h2,?_⟩;have hA:=ha cpos pins s1 σ H1 _ I1 q1;rw[hs]at hA ⊢;refine Calls.callWith_builtin (by show(false || (Vn cpos (vg es X.env)).any (·.1))=false;rw[hplain]<;>rfl) (Xy ?_);exact aE hA λus s2 ⟨vs,H2,I2,r2,q2⟩=>hm pins s2 σ H2 x vs v us Q I2 r1 r2 q2
/- xs.append(e),list.index on a module's tuple .. are JD facts of 06m -/
end
def oi(X:Cx)(id:String)(r:V->List V->Hp->VK->Prop):Prop :=
 ∀(pins:List (wf × Obj))(s:wk)(σ : St)(H:Hp)(x:V)(xs:List V)(v:we)(us:List we)(Q:VK),Inv X pins σ H s->aT x v->aI xs us->r x xs H Q ->
  wA (model X.prog X.w) X.A (call (.builtin id) (v::us)) (EP X pins σ Q) X.xe s
theorem aI.one:∀{x:V}{us:List we},aI [x] us->∃u,us=[u]/\aT x u
 | _,_,.cons r .nil=>⟨_,rfl,r⟩
theorem aI.eraseIdx:∀{xs:List V}{us:List we}(i:Nat),aI xs us->aI (xs.eraseIdx i) (us.eraseIdx i)
 | _,_,_,.nil=>.nil
 | _,_,0,.cons _ t=>t
 | _,_,i+1,.cons r t=>.cons r (aI.eraseIdx i t)
theorem aI.rep{xs:List V}{us:List we}(h:aI xs us):∀k:Nat,aI (wm k xs).flatten (wm k us).flatten
 | 0=>.nil
 | k+1=>by
  rw[WQ,WQ,Va,Va];exact aI.append h (aI.rep h k)
theorem JT{α : Type} : ∀(l:List α)(i:Nat),(l.eraseIdx i).length<=l.length
 | [],_=>wu _
 | _::_,0=>Xh _
 | _::r,i+1=>Nat.succ_le_succ (JT r i)
theorem BF(its:List we):∀(k:Nat)(acc:List we),
  Xz (λx1 x2=>x1++x2) acc.toArray (wm k its.toArray)=(acc++(wm k its).flatten).toArray
 | 0,acc=>by simp
 | k+1,acc=>by
  have e:acc.toArray++its.toArray=(acc++its).toArray:=by simp
  have e2:(acc++its)++(wm k its).flatten=acc++(wm (k+1) its).flatten:=by
   rw[WQ,Va,Vo]
  rw[<- e2,<- BF its k (acc++its),<- e,WQ,Ua]
section
variable{X:Cx}{pins:List (wf × Obj)}{σ : St}{H:Hp}{s:wk}{l b:wf}{xs ys zs:List V}
theorem Inv.A7{its its':List we}{n:Nat}{f:Array we->Array we}{t':Nat}(I:Inv X pins σ H s)(hH:H l=some (.lst xs))
  (e:s.heap.get? l=some {cls:=.type "list",data:=.seq its.toArray n}) (hf:f its.toArray=its'.toArray) (hv:aI ys its') (hz:ys.length<=wY) :
  Inv X pins σ (upd H l (.lst ys)) {s with heap:=s.heap.update l (vM f),toks:=t'}:=by
 have q:=PySem.IsL.update e f;rw[hf]at q;refine I.write (x:=l) (e:=l) (by rw[hH];exact trivial) (.inl rfl) (λb' u hb hu=>(QD s.heap (vM f) (Wz hb)).trans hu) ⟨_,q⟩ ?_;exact⟨hz,its',_,hv,q⟩
theorem Inv.A8{its:List we}{t':Nat}(I:Inv X pins σ H s)(hv:aI ys its)(hz:ys.length<=wY) :
  Inv X pins σ (upd H s.heap.objs.size (.lst ys)) {s with heap:=s.heap.push {cls:=.type "list",data:=.seq its.toArray},toks:=t'} :=
 I.laid (λ_ _ q=>wj _ q) (wu _) ⟨hz,its,0,hv,wC _ rfl⟩
theorem Inv.fresh(I:Inv X pins σ H s):H s.heap.objs.size=none:=I.aB.fresh (wu _)
theorem Inv.kq(I:Inv X pins σ H s)(hH:H l=some (.lst xs)):xs.length<=wY /\ ∃(its:List we)(n:Nat),aI xs its/\xs.length=its.length/\s.heap.get? l=some {cls:=.type "list",data:=.seq its.toArray n}:=by
 obtain⟨z,its,n,r,e⟩:=I.aB l _ hH;exact⟨z,its,n,r,r.length,e⟩
theorem Nz{n:Nat}(h:n<=wY):V0 n=false:=by
 unfold V0;exact decide_eq_false (by lia)
end
section
variable{X:Cx}
def Bo:V->List V->Hp->VK->Prop:=λx vs H Q=>∃l xs y,x=.ref l/\vs=[y]/\H l=some (.lst xs)/\xs.length<wY/\Q .aZ (upd H l (.lst (xs++[y])))
theorem hV:oi X "list.append" Bo:=by
 intro pins s σ H x vs v us Q I rx rv h;obtain⟨l,xs,y,rfl,rfl,hH,hz,q⟩:=h;cases rx;obtain⟨u,rfl,ru⟩:=rv.one;obtain⟨z,its,n,r,hl,e⟩:=I.kq hH;refine qo F.slot_list_append ⟨_,e,rfl⟩ F.entry_list_append (F.args_list_append_2 _ _) (PySem.list_append l its.toArray n u (by rw[wG];lia)) ⟨e,?_⟩;refine⟨.aZ,_,I.A7 (its':=its++[u]) hH e (by simp) (r.append (.cons ru .nil)) ?_,rfl,q⟩;rw[wS,Vj]
 lia
def Om:V->List V->Hp->VK->Prop:=λx vs H Q=>∃l b xs zs,x=.ref l/\vs=[.ref b]/\H l=some (.lst xs)/\H b=some (.lst zs)/\xs.length+zs.length<=wY/\Q .aZ (upd H l (.lst (xs++zs)))
theorem Zi:oi X "list.extend" Om:=by
 intro pins s σ H x vs v us Q I rx rv h;obtain⟨l,b,xs,zs,rfl,rfl,hH,hB,hz,q⟩:=h;cases rx;obtain⟨u,rfl,ru⟩:=rv.one;cases ru;obtain⟨z,its,n,r,hl,e⟩:=I.kq hH;obtain⟨z2,its2,n2,r2,hl2,e2⟩:=I.kq hB;have hsz:its.toArray.size+its2.toArray.size<=wY:=by rw[wG,wG];lia
 have hlong:¬ (!its.toArray.isEmpty&&V0 (its.toArray.size+its2.toArray.size))=true:=by
  rw[Nz hsz,VT];exact vL
 refine qo F.slot_list_extend ⟨_,e,rfl⟩ F.entry_list_extend (F.args_list_extend_2 _ _)
  (AutoSeq1.list_extend_list_list_0 l its.toArray n b its2.toArray n2 hlong (by rw[wG];lia) (by lia)) ⟨e,e2,?_⟩
 refine⟨.aZ,_,I.A7 (its':=its++its2) hH e (by simp) (r.append r2) ?_,rfl,q⟩;rw[wS]
 lia
def ER:V->List V->Hp->VK->Prop:=λx vs H Q=>∃l xs i k y,x=.ref l/\vs=[.int i]/\H l=some (.lst xs) /\ -(2^63)<=i/\i<2^63/\seqIndex? i xs.length=some k/\xs[k]? = some y/\Q y (upd H l (.lst (xs.eraseIdx k)))
theorem Jy:oi X "list.pop" ER:=by
 intro pins s σ H x vs v us Q I rx rv h;obtain⟨l,xs,i,k,y,rfl,rfl,hH,h1,h2,hk,hy,q⟩:=h;cases rx;obtain⟨u,rfl,ru⟩:=rv.one;obtain⟨t,rfl⟩:=ru;obtain⟨z,its,n,r,hl,e⟩:=I.kq hH;obtain⟨w,hw,rw'⟩:=r.get hy
 refine qo F.slot_list_pop ⟨_,e,rfl⟩ F.entry_list_pop (F.args_list_pop_2 _ _)
  (MeetsSeq.list_pop_at l its.toArray n i t k w (fitsIndex_both h1 h2) (by rw[wG,<- hl];exact hk) (by rw[<- Wh];exact hw) (by rw[wG];lia)) ⟨e,?_⟩
 refine⟨y,_,I.A7 (its':=its.eraseIdx k) hH e ?_ (r.eraseIdx k) ?_,rw',q⟩
 ·show its.toArray.eraseIdxIfInBounds k=(its.eraseIdx k).toArray
  rw[List.eraseIdxIfInBounds_toArray]
 ·have:=JT xs k
  lia
def C9:R2:=λx y H Q=>∃l b xs zs,x=.ref l/\y=.ref b/\H l=some (.lst xs)/\H b=some (.lst zs)/\xs.length+zs.length<=wY /\ ∀p,H p=none->Q (.ref p) (upd H p (.lst (xs++zs)))
theorem TJ:aJ X (WH .Add) C9:=by
 intro pins s σ H x y v u Q I rx ry h;obtain⟨l,b,xs,zs,rfl,rfl,hH,hB,hz,q⟩:=h;cases rx;cases ry;obtain⟨z,its,n,r,hl,e⟩:=I.kq hH;obtain⟨z2,its2,n2,r2,hl2,e2⟩:=I.kq hB;refine PySem.P.add_list e e2 ?_ (by rw[wG,wG];lia);have ea:its.toArray++its2.toArray=(its++its2).toArray:=by simp
 rw[ea];exact⟨.ref _,_,I.A8 (t':=s.toks) (r.append r2) (by rw[wS];lia),rfl,q _ I.fresh⟩
def pH:R2:=λx y H Q=>∃l k xs,x=.ref l/\y=.int k/\H l=some (.lst xs) /\ -(2^63)<=k/\k<2^63/\xs.length*k.toNat<=wY /\
 ∀p,H p=none->Q (.ref p) (upd H p (.lst (wm k.toNat xs).flatten))
theorem sM{α : Type}(xs:List α)(k:Nat):(wm k xs).flatten.length=k*xs.length:=by
 induction k with
 | zero=>simp
 | succ k ih=>rw[WQ,Va,wS,ih,Nat.succ_mul,Nat.add_comm]
theorem CF:aJ X (WH .Mult) pH:=by
 intro pins s σ H x y v u Q I rx ry h;obtain⟨l,k,xs,rfl,rfl,hH,h1,h2,hz,q⟩:=h;cases rx;obtain⟨t,rfl⟩:=ry;obtain⟨z,its,n,r,hl,e⟩:=I.kq hH;have hlen:its.toArray.size*k.toNat<=wY:=by rw[wG,<- hl];exact hz
 have hcap:¬ its.toArray.size*k.toNat > (2^63-1) / 8:=by
  have:(wY:Nat)<=(2^63-1) / 8:=by decide
  lia
 have hfit:¬ (!Builtin.List.listFitsIndex k)=true:=by
  rw[fitsIndex_both h1 h2];exact vL
 have hlong:¬ V0 (its.toArray.size*k.toNat)=true:=by
  rw[Nz hlen];exact vL
 have hnew:Xz (λx1 x2=>x1++x2) #[] (wm (if its.toArray.isEmpty=true then 0 else k.toNat) its.toArray)=(wm k.toNat its).flatten.toArray:=by
  have f0:∀m:Nat,Xz (λx1 x2=>x1++x2) #[] (wm m its.toArray)=(wm m its).flatten.toArray:=λm=>by
   have:=BF its m [];rw[xW]at this;exact this
  rw[f0];cases its with
  | nil=>simp
  | cons a r'=>rw[if_neg (by simp)]
 refine wpAny_binaryOp_repeat_ref (T:="list") (U:="int") (by decide) ⟨_,e,rfl⟩ (λs'=>typeIs_int s' k t) noFill_list_mul Ub QM repeat_list uU.lookup
  (qo QM (typeIs_int s k t) uV (ur _ _) (int___rmul___int_list k t l its.toArray n)
   ⟨e,rfl,⟨_,e,rfl⟩,qo F.slot_list_mul ⟨_,e,rfl⟩ F.entry_list_mul (F.args_list_mul_2 _ _) (AutoListH.list___mul___list_int_3 l its.toArray n k t hfit hcap hlong) ⟨e,?_⟩⟩)
 rw[hnew];exact⟨.ref _,_,I.A8 (t':=s.toks) (r.rep k.toNat) (by rw[sM,Vw];exact hz),rfl,q _ I.fresh⟩
end
section
variable{prog:wP}{w:wR}{A:vj}{E:we->wk->Prop}{s:wk}
end
section
variable{X:Cx}
end
end L2
namespace Att
open PySem PySem.W PySem.Calls PyProof.Rows
theorem Y7{P:Params}{h:wK} : ∀(ns:List Int)(vs:List we),WellAll P h vs (ns.map WData.int)->qi vs ns:=by
 intro ns
 induction ns with
 | nil =>
  intro vs w;rw[Qf]at w;cases w;exact .nil
 | cons n ns ih =>
  intro vs w;rw[wZ]at w;cases w with
  | cons a b =>
   cases a;exact .cons _ _ (ih _ b)
theorem zus{l:OpenLaw}{n:Nat}(hn:l.most=some n){P:Params}{h:wK}{args:List WData}{vals:List we}
  (hpre:l.row.toRowW.claim.pre args=true) (hwl:WellAll P h vals args) :
  ∃a vs ns,vals=[Value.ref a]/\args=[WData.list (ns.map WData.int)]/\h.get? a=some {cls:=.type "list",data:=.seq vs.toArray}/\qi vs ns/\ns.length<=n:=by
 have hsh:WShape.hasAll [] args [.list .int]=true:=(pre_splitW hpre).1;have hc:l.pre.holds [] {args:=args}=true:=(pre_splitW hpre).2;obtain⟨d,r,rfl,h1,h2⟩:=hasAllW_cons hsh;obtain rfl:=hasAllW_nil h2;obtain⟨xs,rfl,h3⟩:=hasW_list h1;obtain⟨ns,rfl⟩:=items_int h3
 have hlen:ns.length<=n:=by
  unfold OpenLaw.pre at hc
  have h4:(WTm.not (.lt (.lit (.int (n:Int))) (.len (.arg 0)))).holds [] {args:=[.list (ns.map .int)]}=true:=by
   have h4:=(holds_andW hc).1;rw[hn]at h4;exact h4
  have h5:=condW_of h4 (w_not (w_lt w_lit (w_len_list (w_arg rfl))));rw[wd]at h5;refine Nat.le_of_not_lt λq=>?_
  have q':(n:Int)<((ns.length:Nat):Int):=by lia
  first
   | (rw[decide_eq_true q']at h5;exact absurd h5 (by decide))
   | (simp at h5;lia)
 cases hwl with
 | cons w1 w2 =>
  cases w2;cases w1 with
  | list ho hall=>exact⟨_,_,ns,rfl,rfl,ho,Y7 ns _ hall,hlen⟩
theorem zua(l:OpenLaw)(args:List WData):l.row.toRowW.claim.post args (.bool true) args=true :=
 postW_of (r:=l.row.toRowW) (X:=(true == true))
  (show WShape.has [] (.bool true) .bool=true by first | rfl | decide | simp[WShape.has,WShape.arms,WShape.armsAll])
  (show(WTm.eq .res (.lit (.bool true))).value [] {args:=args,res:=some (.bool true),after:=args}=some (.bool (true == true))from w_eq_bool (w_res rfl) w_lit) rfl
theorem Sq{l:OpenLaw}{n:Nat}{q:wP}{loose:List Str}{XP:(Str->Option we)->wK->Prop}{YP:wR->wK->Prop}{d:DefRec}
  (hn:l.most=some n) (hdf:d.params.defaults=[])
  (call:∀(w:wR)(s₀ s₁ : wk)(mg mb:Str->Option we)(fa:wf)(o:Obj)(pm cd doc:we)(a:wf)(vs:List we)(ns:List Int),
   Ground q loose [] XP w s₀ mg mb s₁.heap->YP w s₁.heap ->
   s₁.heap.get? fa=some o->o.data=.func (docDef d.name d.params d.body d.scope pm cd doc)->s₁.heap.CodeRec cd d.name->mg d.name=some (.ref fa) ->
   s₁.heap.get? a=some {cls:=.type "list",data:=.seq vs.toArray}->qi vs ns->ns.length<=n->s₁.gens = #[] ->
   codeAny (model l.prog w) callerA (.call (.ref fa) ⟨[.ref a],[]⟩) (λr s'=>r=.ok (.ret (.bool true))/\OldK s₁.heap s'.heap/\s'.os=s₁.os/\AllBare s'.gens) s₁) :
  WalkO q loose XP YP l.row.toRowW d [] (λf vs=>Uc f vs):=by
 intro w s₀ s₁ mg mb G Y fa o pm cd doc dV kV ho hd hcd hD hmg hg args vals as hpre hlay hrd hwl hlo;obtain rfl:dV=.none:=Dflts.none hD hdf;obtain rfl:kV=.none:=Dflts.noKw hD;obtain⟨a,vs,ns,rfl,rfl,hobj,hints,hlen⟩:=zus hn hpre hwl;refine enter_call (V8 (call w s₀ s₁ mg mb fa o pm cd doc a vs ns G Y ho (fd_plain hd) hcd hmg hobj hints hlen hg) λr s' hq=>?_);obtain⟨rfl,h2,h3,h4⟩:=hq;exact⟨.inl ⟨.bool true,.bool true,[],rfl,λ_=>rfl,.bool true,zua l _,λ_=>⟨UJ.nil,λ_ hm=>(nomatch hm)⟩⟩,h2,h3,h4⟩
section
variable{prog:wP}{w:wR}{A:vj}{E:we->wk->Prop}{s:wk}{K:Frag}
def zC1(h:wK)(L d:wf):List (wf × Obj):=(wo h.objs.size).filterMap λa=>if a=L\/a=d then none else(h.get? a).map λo=>(a,o)
end
end Att
namespace L2
open PySem PySem.Spec PyProof.Rows
theorem Mb:∀{vs:List we}{ns:List Int},qi vs ns->aI (ns.map V.int) vs
 | _,_,.nil=>.nil
 | _,_,.cons n t h=>.cons ⟨t,rfl⟩ (Mb h)
def zH(H:Hp):Prop:=∀b,H b=none \/ ∃o xs,H b=some (.fc o (.lst xs))
theorem zwf{P:wP}{w:wR}{K:wb}{mg mb:Str->Option we}{CX:fm}{k:Nat}{fa a:wf}{fd:wJ}{x:Str}{sp:Sp}{s₁ : wk}{vs:List we}{ns:List Int}
   (KX:K.In s₁.heap) (hns:s₁.heap.Ns wU mg) (hb:s₁.heap.Ns builtinsNs mb) (hbb:∀x:Str,x≠"__name__" -> mb x=Wk x) (hlim:s₁.heap.NoLimit) (hg:s₁.gens = #[])
   (ha:s₁.heap.get? a=some {cls:=.type "list",data:=.seq vs.toArray}) (hi:qi vs ns) (hl:ns.length<=wY) (hr:dw k callerA)
   (F:∀base:wK,K.In base->base.Ns wU mg->aM P w K mg base CX k fa fd [x] sp) (hbind:∀(s:wk)(u:we),BindsTo s fd ⟨[u],[]⟩ [(x,u)])
   (hsp:∀H:Hp,zH H->aG K H a (ns.map V.int)->sp [.ref a] H (λv _=>v=.bl true) λ_ _ _=>False)
   (hCX:∀H e s',CX [] H s₁ (λ_ _ _=>False) e s'->False) :
   codeAny (model P w) callerA (.call (.ref fa) ⟨[.ref a],[]⟩) (λr s'=>r=.ok (.ret (.bool true))/\OldK s₁.heap s'.heap/\s'.os=s₁.os/\AllBare s'.gens) s₁:=by
 have rv:=Mb hi;have lenV:=hi.length
 -- from an abstract heap in which nothing but the script may be tracked
 have core:∀H:Hp,zH H->aG K H a (ns.map V.int)->cH P w H s₁.heap->(∀b,H b≠none->b=a)->(H a≠none->K.lookup a=none) ->
     codeAny (model P w) callerA (.call (.ref fa) ⟨[.ref a],[]⟩) (λr s'=>r=.ok (.ret (.bool true))/\OldK s₁.heap s'.heap/\s'.os=s₁.os/\AllBare s'.gens) s₁:=by
   intro H hO hS aB hA hK;have base_of:∀{b:wf}{o:Obj},s₁.heap.get? b=some o->H b=none->(jn s₁.heap H).get? b=some o:=λe n=>zxp e n
   have noA:∀{b:wf}{o:Obj}{es:Array DictEntry}{ep:Nat},s₁.heap.get? b=some o->o.data=.dict es ep->H b=none:=λ{b o es ep} e d=>by
     cases q:H b with
     | none=>rfl
     | some u =>
       have e':b=a:=hA b (by rw[q];simp);subst e';rw[ha]at e;cases e;have d':Data.seq vs.toArray _=Data.dict es ep:=d;cases d'
   have nsK:∀{b:wf}{m:Str->Option we},s₁.heap.Ns b m->(jn s₁.heap H).Ns b m:=λ{b m} ⟨o,es,ep,e,d,r⟩=>⟨o,es,ep,base_of e (noA e d),d,r⟩
   have hKb:K.In (jn s₁.heap H):=λb o e=>base_of (KX b o e) (by
     cases q:H b with
     | none=>rfl
     | some u =>
       have e':b=a:=hA b (by rw[q];simp);subst e';rw[hK (by rw[q];simp)]at e;cases e)
   have hM:Mod K mg (jn s₁.heap H):=⟨hKb,nsK hns,⟨mb,nsK hb,hbb⟩,let ⟨mc,h1,h2⟩:=hlim;⟨mc,nsK h1,h2⟩⟩;have e0:pJ P w K mg (jn s₁.heap H) callerA [] s₁ H:=⟨rfl,hM,λb o e=>Y1 e,Nat.le_of_eq (zuP _ _),trivial,λb hb=>absurd (show b∈([]:List wf)from hb) (by simp),aB,.of_eq hg⟩;refine V8 ((F _ hKb (nsK hns)).run callerA [] s₁ H ⟨[.ref a],[]⟩ [.ref a] [.ref a] _ _ hr e0 (hbind s₁ (.ref a)) (.cons rfl .nil) (hsp H hO hS)) λr s' h=>?_
   cases r with
   | error e=>exact(hCX H e s' h).elim
   | ok fl =>
     cases fl with
     | next=>exact Vg h
     | brk=>exact Vg h
     | cont=>exact Vg h
     | ret u =>
       obtain⟨v,H',os,bare,un,hok',r',q⟩:=h;have q':v=.bl true:=q;subst q';obtain rfl:u=Value.bool true:=r';refine⟨rfl,OldK.of_keep λb o e=>?_,os,bare⟩;cases q:H b with
       | none=>exact un.keep b o e q (by intro z;exact absurd (show b∈([]:List wf)from z) (by simp)) (by simp)
       | some u =>
         rcases hO b with z | ⟨ob,xs,z⟩
         . rw[q]at z;cases z
         . have z2:=un.gk b ob _ z
           obtain⟨e1,_⟩:=aB b _ z;obtain⟨e2,_⟩:=hok' b _ z2;rw[e]at e1;cases e1;exact e2
 cases hk:K.lookup a with
 | some o =>
   -- the script is one of the module's own objects
   have e:=KX a o hk;rw[ha]at e;cases e;refine core (λ_=>none) (λ_=>.inl rfl) (.inr ⟨_,vs.toArray,_,hk,rfl,rfl,rfl,by rw[wG,lenV];exact hl,by simpa using rv⟩) (λb u z=>by have z':(none:Option HO)=some u:=z;cases z') (λb z=>absurd rfl z) λz=>absurd rfl z
 | none =>
   refine core (λb=>if b=a then some (.fc {cls:=.type "list",data:=.seq vs.toArray} (.lst (ns.map V.int)))else none) (λb=>?_) (.inl (.inr ⟨{cls:=.type "list",data:=.seq vs.toArray},if_pos rfl⟩)) (λb u z=>?_) (λb z=>?_) λ_=>hk
   . by_cases hb:b=a
     . exact .inr ⟨_,_,if_pos hb⟩
     . exact .inl (if_neg hb)
   . by_cases hb:b=a
     . have z':=(if_pos hb).symm.trans z
       cases z';subst hb;exact⟨ha,by rw[wd];exact hl,vs,_,rv,ha⟩
     . have z':=(if_neg hb).symm.trans z
       cases z'
   . by_cases hb:b=a
     . exact hb
     . exact absurd (if_neg hb) z
abbrev KOf{K:wb}{h:wK}(_:K.In h):wb:=K
theorem SA{l:xX}{n k:Nat}{q:wP}{loose:List Str}{XP:(Str->Option we)->wK->Prop}{YP:wR->wK->Prop}{d:DefRec}{K:Params->wb}{CX:wR->fm}{sp:wR->Sp}{x:Str}
  (hn:l.most=some n) (hn2:n<=wY) (hdf:d.params.defaults=[]) (hr:dw k callerA)
  (hY:∀(w:wR)(h:wK),YP w h->(K w.params).In h)
  (F:∀(w:wR)(mg:Str->Option we)(fa:wf)(h:wK),(K w.params).In h->h.Ns wU mg->mg d.name=some (.ref fa) ->
   ∃fd:wJ,(∀(s:wk)(u:we),BindsTo s fd ⟨[u],[]⟩ [(x,u)]) /\
    ∀base:wK,(K w.params).In base->base.Ns wU mg->aM l.prog w (K w.params) mg base (CX w) k fa fd [x] (sp w))
  (hsp:∀(w:wR)(H:Hp)(a:wf)(ns:List Int),ns.length<=n->zH H->aG (K w.params) H a (ns.map V.int)->sp w [.ref a] H (λv _=>v=.bl true) λ_ _ _=>False)
  (hCX:∀(w:wR)(H:Hp)(s:wk)(e:we)(s':wk),CX w [] H s (λ_ _ _=>False) e s'->False) :
  UK q loose XP YP l.row.toRowW d [] (λf vs=>Uc f vs):=by
 refine Att.Sq hn hdf λw s₀ s₁ mg mb fa o pm cd doc a vs ns G Y ho hd hcd hmg hobj hints hlen hg=>?_
 have KX:=hY w _ Y;obtain⟨fd,hb,hF⟩:=F w mg fa _ KX G.T.g hmg;exact zwf KX G.T.g G.T.b G.T.builtins G.T.nolimit hg hobj hints (Wi hlen hn2) hr hF hb (λH hO hS=>hsp w H a ns hlen hO hS) λH e s'=>hCX w H s₁ e s'
def mq(s:vD):Arguments:=match s with
 | .FunctionDef _ a _ _ _ _ _ _ _ _=>a
 | _=>{posonlyargs:=[],args:=[],vararg:=none,kwonlyargs:=[],kw_defaults:=[],kwarg:=none,defaults:=[]}
def kf(s:vD):List vD:=match s with
 | .FunctionDef _ _ b _ _ _ _ _ _ _=>b
 | _=>[]
def au(s:vD):Scope:=match s with
 | .FunctionDef _ _ _ _ _ _ sc _ _ _=>sc
 | _=>{kind:=.function,names:=[],isGenerator:=false,isCoroutine:=false}
abbrev aR:fm:=λ_ _ _ _ _ _=>False
abbrev E0:XK:=λ_ _ _=>False
theorem zCb{X:Cx} : mX aR X E0:=λ_ _ _ _ _ _ _ h=>h.elim
structure kg(K:wb)(x qual:Str)(st:vD)(f:wf)(fd:wJ):Prop where
 ex:∃(oc:we)(od:Option wf)(kV doc pm:we)(an:Option wf)(cdv ct:we)(osl:Array (Option we)),
   fd=VY x qual (mq st) (kf st) (au st) .none kV doc pm an cdv ct/\K.lookup f=some ⟨oc,od,.func fd,osl⟩/\Q6 K cdv qual=true
 kp:VS K (.ref f)=true
section
variable{P:wP}{w:wR}{K:wb}{mg:Str->Option we}{base:wK}
theorem kg.ok{x qual:Str}{st:vD}{f:wf}{fd:wJ}{N ps:List Str}{k:Nat}{sp:Sp}(F:kg K x qual st f fd)(S:aQ N ps (au st))(len:∀vs H Q E,sp vs H Q E->vs.length=ps.length)
  (hbody:∀(cdv:we)(A:vj)(outer:List Env)(s:wk)(H:Hp)(vs:List V)(Q:VK)(E:XK),dw k (A.deeper (envOfC qual (au st) s.heap.objs.size f cdv))->sp vs H Q E ->
   ∃t,fh (gO aR P w K mg base N qual (au st) f cdv A outer s H E).Ag (kf st) t/\t {nx:=λ_ H'=>Q .aZ H',rt:=Q} (start N vs) H):aM P w K mg base aR (k+1) f fd ps sp:=by
 obtain⟨oc,od,kV,doc,pm,an,cdv,ct,osl,rfl,lk,hcd⟩:=F.ex;refine NQ lk hcd S len λA outer s H vs Q E hr hsp=>?_
 obtain⟨t,h,q⟩:=hbody cdv A outer s H vs Q E hr hsp;exact⟨t,h.Ag,q⟩
theorem kg.binds{x qual:Str}{st:vD}{f:wf}{fd:wJ}{ps:List Str}(F:kg K x qual st f fd)
  (h:∀(kV doc pm:we)(an:Option wf)(cdv ct:we)(us:List we),us.length=ps.length->bindArgs (VY x qual (mq st) (kf st) (au st) .none kV doc pm an cdv ct) ⟨us,[]⟩=pure (ps.zip us)):kK K fd ps []:=by
 obtain⟨oc,od,kV,doc,pm,an,cdv,ct,osl,rfl,lk,hcd⟩:=F.ex;exact .all (h kV doc pm an cdv ct)
theorem Jg{x qual:Str}{st:vD}{f:wf}{oc:we}{od an:Option wf}{osl:Array (Option we)}{kV doc pm cdv ct:we}(l:K.lookup f=some ⟨oc,od,.func (VY x qual (mq st) (kf st) (au st) .none kV doc pm an cdv ct),osl⟩)
  (c:Q6 K cdv qual=true) (k:VS K (.ref f)=true):kg K x qual st f (VY x qual (mq st) (kf st) (au st) .none kV doc pm an cdv ct):=⟨⟨oc,od,kV,doc,pm,an,cdv,ct,osl,rfl,l,c⟩,k⟩
end
theorem jG{n:Nat}(h:n<=1000):n<wY:=qj h (by decide)
section
variable{X:Cx}
theorem pv(i:Nat){x:Str}{pos:Pos}(hN:X.N[i]? = some x:=by rfl)(hv:sQ X.env.scope x:=by first | exact Or.inl rfl | exact Or.inr (Or.inl rfl) | exact Or.inr (Or.inr rfl))(hd:(x == ("__debug__" : Str))=false:=by decide)
  (hcd:(x == ("__classdict__" : Str))=false:=by decide):PE X (.Name x pos) (gY i):=zBA hN hv hd hcd
end
theorem mI{A B:Prop}(h:B):if false=true then A else B:=by
 rw[if_neg vL];exact h
theorem j3{A B:Prop}(h:A):if true=true then A else B:=by
 rw[if_pos rfl];exact h
def af(H H':Hp):Prop:=∀b o,H b=some o->H' b=some o
theorem af.refl(H:Hp):af H H:=λ_ _ h=>h
theorem af.trans{H H1 H2:Hp}(a:af H H1)(b:af H1 H2):af H H2:=λc o h=>b c o (a c o h)
theorem af.seq{K:wb}{H H':Hp}{a:wf}{xs:List V}(e:af H H')(h:aG K H a xs):aG K H' a xs:=by
 rcases h with(h | ⟨o,h⟩) | h
 ·exact .inl (.inl (e _ _ h))
 ·exact .inl (.inr ⟨o,e _ _ h⟩)
 ·exact .inr h
end L2
namespace GM
def dv(t b:Int):Int:=if b<0 then -((vK t b:Nat):Int)else((vK t b:Nat):Int)
theorem DT{t b:Int}(hb:b≠0):0<vK t b:=qC t hb
theorem OA{t b:Int}(hb:b≠0):dv t b≠0:=by
 have:=DT (t:=t) hb;unfold dv
 split<;>lia
theorem fi{a d:Int}(h:d ∣ a)(hd:d≠0):a.fdiv d=a / d:=by
 obtain⟨k,rfl⟩:=h;rw[Int.mul_fdiv_cancel_left _ hd,V1 _ hd]
theorem LD{t b:Int}(hb:b≠0):t.fdiv (dv t b)=(vC t b).num:=by
 have hg:=DT (t:=t) hb;have h1:((vK t b:Nat):Int) ∣ t:=qM ..;rw[Rat.num_divInt,X0 b t];unfold dv
 by_cases h:b<0
 ·rw[if_pos h,Int.sign_eq_neg_one_of_neg h,fi (uN.mpr h1) (by lia),Int.ediv_neg]
  obtain⟨k,hk⟩:=h1;have:(-1:Int)*t=((vK t b:Nat):Int)*(-k):=by rw[Int.neg_one_mul,Int.mul_neg,<- hk]
  rw[this,V1 _ (by lia)];have e:t / ((vK t b:Nat):Int)=k:=xj (by lia) hk;rw[e]
 ·rw[if_neg h,Int.sign_eq_one_of_pos (by lia),Int.one_mul,fi h1 (by lia)]
theorem zAw{t b:Int}(hb:b≠0):b.fdiv (dv t b)=((vC t b).den:Int):=by
 have hg:=DT (t:=t) hb;have h1:((vK t b:Nat):Int) ∣ b:=Qu ..;rw[Q7,if_neg hb,X0 b t];unfold dv
 by_cases h:b<0
 ·rw[if_pos h,fi (uN.mpr h1) (by lia),Int.ediv_neg,V2]
  obtain⟨k,hk⟩:=h1;have:(b.natAbs:Int)=((vK t b:Nat):Int)*(-k):=by rw[Int.mul_neg,<- hk];lia
  rw[this,V1 _ (by lia)];have e:b / ((vK t b:Nat):Int)=k:=xj (by lia) hk;rw[e]
 ·rw[if_neg h,fi h1 (by lia),V2]
  have:(b.natAbs:Int)=b:=by lia
  rw[this]
def gj(p q:Int):Bool:=decide (1<=q)&&decide (vK p q=1)
theorem Ni(r:Rat):gj r.num r.den=true:=by
 have h:=r.reduced;have hd:=r.den_pos;simp only[gj,vf,decide_eq_true_eq];refine⟨by lia,?_⟩;have:xG r.num.natAbs r.den=1:=h
 simpa [vK] using this
theorem zn4{p q:Int}(h:gj p q=true):∃r:Rat,p=r.num/\q=(r.den:Int):=by
 simp only[gj,vf,decide_eq_true_eq]at h;obtain⟨h1,h2⟩:=h;refine⟨⟨p,q.toNat,by lia,?_⟩,rfl,by show q=((q.toNat:Nat):Int);lia⟩;have e:q.toNat=q.natAbs:=by lia
 rw[e];exact h2
theorem Nb{a b:Int}(hb:0<b)(ha:0<=a):vK b (a % b)=vK a b:=by
 rw[X0 a b];have e:a=a % b+b*(a / b):=(Int.emod_add_mul_ediv a b).symm
 conv=>rhs;rw[e]
 rw[Int.gcd_add_mul_left_right]
structure Bd(n:Nat)(x:Int):Prop where
 lt:x.natAbs<2^n
theorem Bd.mono{m n:Nat}{x:Int}(h:Bd m x)(e:m<=n):Bd n x:=⟨vF h.lt (QN (by decide) e)⟩
theorem Bd.mul{m n:Nat}{x y:Int}(h:Bd m x)(k:Bd n y):Bd (m+n) (x*y):=by
 refine⟨?_⟩;rw[Int.natAbs_mul,uO];exact Nat.mul_lt_mul'' h.lt k.lt
theorem Bd.add{m n:Nat}{x y:Int}(h:Bd m x)(k:Bd n y):Bd (max m n+1) (x+y):=by
 have h1:=(h.mono (Ud m n)).lt;have h2:=(k.mono (uW m n)).lt;refine⟨?_⟩;rw[Vc]
 lia
theorem Bd.sub{m n:Nat}{x y:Int}(h:Bd m x)(k:Bd n y):Bd (max m n+1) (x-y):=by
 have h1:=(h.mono (Ud m n)).lt;have h2:=(k.mono (uW m n)).lt;refine⟨?_⟩;rw[Vc]
 lia
theorem Bd.neg{n:Nat}{x:Int}(h:Bd n x):Bd n (-x):=⟨by rw[Int.natAbs_neg];exact h.lt⟩
theorem Bd.le{n:Nat}{x y:Int}(h:Bd n x)(e:y.natAbs<=x.natAbs):Bd n y:=⟨qj e h.lt⟩
theorem Bd.log{n:Nat}{x:Int}(h:Bd n x)(hn:0<n):x.natAbs.log2<n:=by
 by_cases e:x.natAbs=0
 ·rw[e];exact hn
 ·exact(Nat.log2_lt e).mpr h.lt
theorem YZ(t b:Int)(hb:b≠0):(vC t b).num.natAbs<=t.natAbs:=by
 rw[<- LD hb]
 have h1:dv t b ∣ t:=by
  have:((vK t b:Nat):Int) ∣ t:=qM ..;unfold dv;split
  ·exact uN.mpr this
  ·exact this
 rw[fi h1 (OA hb)];exact xE t _
theorem EG(t b:Int)(hb:b≠0):(vC t b).den<=b.natAbs:=by
 rw[Q7,if_neg hb];exact QP _ _
structure ai(n:Nat)(x:Rat):Prop where
 t:Bd n x.num
 b:Bd n (x.den:Int)
theorem ai.mono{m n:Nat}{x:Rat}(h:ai m x)(e:m<=n):ai n x:=⟨h.t.mono e,h.b.mono e⟩
theorem ai.divInt{n:Nat}{t b:Int}(hb:b≠0)(h1:Bd n t)(h2:Bd n b):ai n (vC t b) :=
 ⟨h1.le (YZ t b hb),h2.le (by have:=EG t b hb;simpa using this)⟩
theorem Bd.jP{m:Int}(h1 : -100000000000000000000000000000000000000<=m)(h2:m<=100000000000000000000000000000000000000):Bd 128 m:=⟨by
 have e:(2:Nat)^128=340282366920938463463374607431768211456:=by decide
 rw[e]
 lia⟩
theorem kQ(x:Rat):(x.den:Int)≠0:=by have:=x.den_pos;lia
theorem den_pos(x:Rat):(0:Int)<(x.den:Int):=by have:=x.den_pos;lia
theorem Dl(x y:Rat):(x.den:Int)*(y.den:Int)≠0:=xY (kQ x) (kQ y)
theorem zBb(x y:Rat):vC (x.num*(y.den:Int)+y.num*(x.den:Int)) ((x.den:Int)*(y.den:Int))=x+y:=by
 rw[<- VC,xJ,Rat.add_def']
theorem zAH(x y:Rat):vC (x.num*(y.den:Int)-y.num*(x.den:Int)) ((x.den:Int)*(y.den:Int))=x-y:=by
 rw[<- VC,xJ,Rat.sub_def']
theorem zBm(x y:Rat):vC (x.num*y.num) ((x.den:Int)*(y.den:Int))=x*y:=by
 rw[<- VC,xJ,Rat.mul_def']
theorem zCl(x y:Rat):decide (x.num*(y.den:Int)<y.num*(x.den:Int))=decide (x<y):=by
 rw[WS,decide_eq_true_eq,decide_eq_true_eq,Ue]
theorem ai.add{m n:Nat}{x y:Rat}(h:ai m x)(k:ai n y):ai (m+n+1) (x+y):=by
 rw[<- zBb];refine ai.divInt (Dl x y) ?_ ((h.b.mul k.b).mono (by lia));exact((h.t.mul k.b).add (k.t.mul h.b)).mono (by lia)
theorem ai.sub{m n:Nat}{x y:Rat}(h:ai m x)(k:ai n y):ai (m+n+1) (x-y):=by
 rw[<- zAH];refine ai.divInt (Dl x y) ?_ ((h.b.mul k.b).mono (by lia));exact((h.t.mul k.b).sub (k.t.mul h.b)).mono (by lia)
theorem ai.mul{m n:Nat}{x y:Rat}(h:ai m x)(k:ai n y):ai (m+n) (x*y):=by
 rw[<- zBm];exact ai.divInt (Dl x y) (h.t.mul k.t) (h.b.mul k.b)
theorem ai.zero:ai 1 0:=⟨⟨by decide⟩,⟨by decide⟩⟩
theorem ai.one:ai 1 1:=⟨⟨by decide⟩,⟨by decide⟩⟩
def bO(a b:Rat):Nat->Rat
 | 0=>0
 | n+1=>a*bO a b n+b
def push(a b:Rat):Nat->Rat->Rat
 | 0,x=>x
 | n+1,x=>a*push a b n x+b
theorem zx3(a b:Rat)(n:Nat)(x:Rat):push a b n x=a^n*x+bO a b n:=by
 induction n with
 | zero=>simp[push,bO,Rat.add_zero,xK]
 | succ n ih=>rw[push,ih,bO,QQ];grind
theorem ai.pow{k:Nat}{a:Rat}(h:ai k a)(n:Nat):ai (k*n+1) (a^n):=by
 induction n with
 | zero=>rw[xK];exact ai.one.mono (by lia)
 | succ n ih=>rw[QQ];exact(ih.mul h).mono (by rw[Nat.mul_succ];lia)
theorem ai.bO{k:Nat}{a b:Rat}(h:ai k a)(hb:ai k b)(n:Nat):ai ((2*k+1)*n+1) (bO a b n):=by
 induction n with
 | zero=>exact ai.zero.mono (by lia)
 | succ n ih=>exact((h.mul ih).add hb).mono (by rw[Nat.mul_succ];lia)
theorem gr(t:Int){u:Int}(hu:u≠0):(vC t u)*(u:Rat)=(t:Rat):=by
 rw[Rat.divInt_eq_div];exact Rat.div_mul_cancel λz=>hu (xR.mp z)
theorem EU(x:Rat):x*((x.den:Int):Rat)=(x.num:Rat):=by
 have:=gr x.num (kQ x)
 rwa[Qg]at this
theorem AH{t u:Int}{x:Rat}(hu:u≠0)(h:x*(u:Rat)=(t:Rat)):vC t u=x:=by
 have h1:=gr t hu;have h2:(vC t u-x)*(u:Rat)=0:=by grind
 have h3:(u:Rat)≠0:=by
  intro z;exact hu (xR.mp z)
 have:=Uf.mp h2
 grind
theorem Yk(a b:Rat)(t u:Int)(hu:u≠0):vC (a.num*b.den*t+b.num*a.den*u) (u*a.den*b.den)=a*vC t u+b:=by
 refine AH (xY (xY hu (kQ a)) (kQ b)) ?_;have h1:=gr t hu;have h2:=EU a;have h3:=EU b;simp only[W2,QR]
 grind
theorem TH{a:Rat}(h:0<a)(n:Nat):0<a^n:=Rat.pow_pos h
theorem DJ(n:Nat):(1:Rat)^n=1:=by
 induction n with
 | zero=>rfl
 | succ n ih=>rw[QQ,ih,xg]
theorem sI{u:Int}(h:0<u):(0:Rat)<(u:Rat):=Rat.intCast_pos.mpr h
theorem zrz{t u c:Int}(hu:0<u)(h:t<=c*u):vC t u<=(c:Rat):=by
 have e:=gr t (show u≠0 by lia);refine Rat.le_of_mul_le_mul_right (c:=(u:Rat)) ?_ (sI hu);rw[e,<- W2];exact Rat.intCast_le_intCast.mpr h
theorem zrl{t u c:Int}(hu:0<u)(h:t<c*u):vC t u<(c:Rat):=by
 have e:=gr t (show u≠0 by lia);refine qP (c:=(u:Rat)) ?_ (qD (sI hu));rw[e,<- W2];exact qp.mpr h
theorem ZF{t u:Int}(hu:0<u):((vC t u).den:Int)<=u:=by
 have:=EG t u (by lia)
 lia
theorem ZG{x:Rat}{c:Int}(h:x<=(c:Rat)):x.num<=c*x.den:=by
 have:=(Rat.le_iff x c).mp h
 simpa using this
theorem Zf{x:Rat}(h:0<=x):0<=x.num:=qE.mpr h
theorem ai.small{x:Rat}{c d:Nat}(h0:0<=x)(hc:x<=((c:Int):Rat))(hd:x.den<=d)(z:c*d<1024)(hd2:d<1024):ai 10 x:=by
 have h1:=ZG hc;have h2:=Zf h0;have h3:(c:Int)*(x.den:Int)<=(c:Int)*(d:Int):=Q2 (by lia) (by lia);have h4:(c:Int)*(d:Int)<1024:=by rw[<- VC];lia
 refine⟨⟨?_⟩,⟨?_⟩⟩
 ·show _<1024
  lia
 ·show _<1024
  lia
theorem zCr{y:Rat}{r u:Int}(e:y=vC r u)(h1:1<=u)(h2:u<=12)(h3:0<=r)(h4:r<=u):0<=y/\y<=1/\y.den<=12:=by
 subst e;refine⟨ut h3 (by lia),zrz (c:=1) (by lia) (by lia),?_⟩;have:=ZF (t:=r) (show 0<u by lia)
 lia
theorem ai.four:ai 3 4:=⟨⟨by decide +kernel⟩,⟨by decide +kernel⟩⟩
def ZP(a b:Rat)(n:Nat)(xs:List Rat)(i:Nat):List Rat:=(xs.map λx=>push a b n (x+(1-xs.getD i 0))).set i 0
def CD(a b:Rat)(ns:List Int)(xs:List Rat):Nat->List Rat
 | 0=>xs
 | k+1=>ZP a b (ns.getD k 0).toNat (CD a b ns xs k) k
def Cm(m:Nat)(xs:List Rat):Prop:=∃B:Int,0<B/\Bd m B /\ ∀x∈xs,∃t:Int,x=vC t B/\Bd m t
theorem Cm.mono{m n:Nat}{xs:List Rat}(h:Cm m xs)(e:m<=n):Cm n xs:=by
 obtain⟨B,h0,h1,h2⟩:=h;exact⟨B,h0,h1.mono e,λx hx=>let ⟨t,e1,e2⟩:=h2 x hx;⟨t,e1,e2.mono e⟩⟩
theorem Cm.jb{m:Nat}{xs:List Rat}{x:Rat}(h:Cm m xs)(hx:x∈xs):ai m x:=by
 obtain⟨B,h0,h1,h2⟩:=h;obtain⟨t,rfl,ht⟩:=h2 x hx;exact ai.divInt (by lia) ht h1
theorem Cm.pos{m:Nat}{xs:List Rat}(h:Cm m xs):1<=m:=by
 obtain⟨B,h0,h1,_⟩:=h;cases m with
 | zero=>have:=h1.lt;simp at this;lia
 | succ m=>lia
theorem Cm.get{m:Nat}{xs:List Rat}(h:Cm m xs)(i:Nat):ai m (xs.getD i 0):=by
 rcases wT i xs.length with z | z
 ·rw[wa,wc z]
  exact h.jb (vc z)
 ·rw[wa,wX z]
  exact ai.zero.mono h.pos
theorem A_{a b:Rat}(ba:ai 10 a)(bb:ai 10 b){m:Nat}{t u:Int}(hu:0<u)(bt:Bd m t)(bu:Bd m u):∀n:Nat,0<u*((a.den:Int)*(b.den:Int))^n/\Bd (m+21*n) (u*((a.den:Int)*(b.den:Int))^n) /\
  ∃T:Int,push a b n (vC t u)=vC T (u*((a.den:Int)*(b.den:Int))^n)/\Bd (m+21*n) T
 | 0=>⟨by simpa using hu,by simpa using bu,t,by simp[push],by simpa using bt⟩
 | n+1=>by
  obtain⟨h1,h2,T,e,hT⟩:=A_ ba bb hu bt bu n;have eb:u*((a.den:Int)*(b.den:Int))^(n+1)=u*((a.den:Int)*(b.den:Int))^n*(a.den:Int)*(b.den:Int):=by rw[Int.pow_succ,<- XJ,XJ (u*_)]
  rw[eb];refine⟨xh (xh h1 (den_pos a)) (den_pos b),((h2.mul ba.b).mul bb.b).mono (by lia),a.num*(b.den:Int)*T+b.num*(a.den:Int)*(u*((a.den:Int)*(b.den:Int))^n),?_,(((ba.t.mul bb.b).mul hT).add ((bb.t.mul ba.b).mul h2)).mono (by lia)⟩;rw[push,e];exact(Yk a b T _ (by lia)).symm
def zCK(a b:Rat)(n:Nat)(xs:List Rat):List Rat:=(xs.tail.map λy=>push a b n (y+(1-xs.headD 0)))++[0]
def turned(a b:Rat)(ns:List Int)(xs:List Rat):Nat->List Rat
 | 0=>xs
 | k+1=>zCK a b (ns.getD k 0).toNat (turned a b ns xs k)
def mM(xs:List Rat):Nat->Int
 | 0=>1
 | k+1=>mM xs k*((xs.getD k 0).den:Int)
theorem Kf(xs:List Rat):∀k,0<mM xs k
 | 0=>by show(0:Int)<1;decide
 | k+1=>xh (Kf xs k) (den_pos _)
theorem Rn(xs:List Rat):∀k j,j<k->((xs.getD j 0).den:Int) ∣ mM xs k
 | 0,j,h=>by lia
 | k+1,j,h=>by
  rcases wT j k with z | z
  ·exact XM (Rn xs k j z) (uu ..)
  ·have:j=k:=by lia
   subst this;exact Int.dvd_mul_left ..
theorem Ny{xs:List Rat}{m:Nat}(h:∀i,ai m (xs.getD i 0)):∀k,Bd (m*k+1) (mM xs k)
 | 0=>⟨by show(1:Int).natAbs<_;simp⟩
 | k+1=>by
  rw[mM];refine((Ny h k).mul (h k).b).mono ?_;rw[qS];lia
theorem YH{x:Rat}{B:Int}(hB:0<B)(h:(x.den:Int) ∣ B):vC (x.num*B.fdiv x.den) B=x:=by
 obtain⟨c,rfl⟩:=h;rw[fi (uu ..) (kQ x),V1 _ (kQ x)];refine AH (by lia) ?_;have:=EU x;rw[W2,W2,<- this]
 grind
theorem zxK{B d:Int}{m:Nat}(hd:0<d)(hB:0<B)(h:Bd m B):Bd m (B.fdiv d):=by
 refine h.le ?_;rw[VH _ (by lia)];have h1:0<=B / d:=Int.ediv_nonneg (by lia) (by lia);have h2:B / d<=B:=Int.ediv_le_self _ (by lia)
 lia
theorem IQ(x y:Rat):((x*y).num=x.num / (x.num.natAbs.gcd y.den:Nat)*(y.num / (y.num.natAbs.gcd x.den:Nat)))/\((x*y).den=x.den / (y.num.natAbs.gcd x.den)*(y.den / (x.num.natAbs.gcd y.den))):=by
 show(Rat.mul x y).num=_/\(Rat.mul x y).den=_
 unfold Rat.mul;simp only[Int.divExact_eq_ediv,Nat.divExact_eq_div]
 constructor<;>trivial
theorem IH(x y:Rat):((x+y).num=(x.num*((y.den / x.den.gcd y.den:Nat):Int)+y.num*((x.den / x.den.gcd y.den:Nat):Int)) / (((x.num*((y.den / x.den.gcd y.den:Nat):Int)+y.num*((x.den / x.den.gcd y.den:Nat):Int)).natAbs.gcd (x.den.gcd y.den):Nat):Int))/\((x+y).den=x.den / (x.den.gcd y.den)*(y.den / ((x.num*((y.den / x.den.gcd y.den:Nat):Int)+y.num*((x.den / x.den.gcd y.den:Nat):Int)).natAbs.gcd (x.den.gcd y.den)))):=by
 show(Rat.add x y).num=_/\(Rat.add x y).den=_
 unfold Rat.add
 by_cases hg:x.den.gcd y.den=1
 ·simp[hg]
 ·simp only[hg,dite_false,Rat.maybeNormalize_eq]
  refine⟨by simp,?_⟩;simp;have:(x.num*((y.den / x.den.gcd y.den:Nat):Int)+y.num*((x.den / x.den.gcd y.den:Nat):Int)).natAbs.gcd (x.den.gcd y.den) ∣ y.den:=xt (xA _ _) (xA _ _);simp at this;rw[uv _ this]
def eH(x y:Rat):Int:=((vK (x.den:Int) (y.den:Int):Nat):Int)
def jU(x y:Rat):Int:=x.num*(y.den:Int).fdiv (eH x y)+y.num*(x.den:Int).fdiv (eH x y)
def iW(x y:Rat):Int:=((vK (jU x y) (eH x y):Nat):Int)
theorem y8(x y:Rat):0<eH x y:=by
 have:0<vK (x.den:Int) (y.den:Int):=Int.gcd_pos_of_ne_zero_left _ (by have:=x.den_pos;lia);unfold eH;lia
theorem Cp(x y:Rat):0<iW x y:=by
 have:0<vK (jU x y) (eH x y):=qC _ (by have:=y8 x y;lia);unfold iW;lia
theorem Fg(x y:Rat):eH x y=((x.den.gcd y.den:Nat):Int):=by simp[eH,vK]
theorem nW(x y:Rat):eH x y ∣ (x.den:Int):=qM ..
theorem zy(x y:Rat):eH x y ∣ (y.den:Int):=Qu ..
theorem zAq(x y:Rat):iW x y ∣ jU x y:=qM ..
theorem Ci(x y:Rat):iW x y ∣ eH x y:=Qu ..
theorem Nf(x y:Rat):jU x y=x.num*((y.den / x.den.gcd y.den:Nat):Int)+y.num*((x.den / x.den.gcd y.den:Nat):Int):=by
 have h:=y8 x y;rw[jU,fi (zy x y) (by lia),fi (nW x y) (by lia),Fg,V2,V2]
theorem Jz(x y:Rat):iW x y=(((x.num*((y.den / x.den.gcd y.den:Nat):Int)+y.num*((x.den / x.den.gcd y.den:Nat):Int)).natAbs.gcd (x.den.gcd y.den):Nat):Int):=by
 rw[iW,Nf,Fg];simp[vK]
theorem zyL(x y:Rat):(jU x y).fdiv (iW x y)=(x+y).num:=by
 have h:=Cp x y;rw[fi (zAq x y) (by lia),(IH x y).1,Jz,Nf]
theorem ZT(x y:Rat):(x.den:Int).fdiv (eH x y)*(y.den:Int).fdiv (iW x y)=((x+y).den:Int):=by
 have h:=Cp x y;have h2:=y8 x y;rw[fi (XM (Ci x y) (zy x y)) (by lia),fi (nW x y) (by lia),(IH x y).2,Jz,Fg];simp only[VC,V2]
def fH(x y:Rat):Int:=((vK x.num (y.den:Int):Nat):Int)
theorem m_(x y:Rat):0<fH x y:=by
 have:0<vK x.num (y.den:Int):=qC _ (by have:=y.den_pos;lia);unfold fH;lia
theorem tj(x y:Rat):fH x y ∣ x.num:=qM ..
theorem mG(x y:Rat):fH x y ∣ (y.den:Int):=Qu ..
theorem yC(x y:Rat):fH x y=((x.num.natAbs.gcd y.den:Nat):Int):=by simp[fH,vK]
theorem zyv(x y:Rat):x.num.fdiv (fH x y)*y.num.fdiv (fH y x)=(x*y).num:=by
 have h:=m_ x y;have h2:=m_ y x;rw[fi (tj x y) (by lia),fi (tj y x) (by lia),(IQ x y).1,yC,yC]
theorem Zh(x y:Rat):(x.den:Int).fdiv (fH y x)*(y.den:Int).fdiv (fH x y)=((x*y).den:Int):=by
 have h:=m_ x y;have h2:=m_ y x;rw[fi (mG x y) (by lia),fi (mG y x) (by lia),(IQ x y).2,yC,yC];simp only[VC,V2]
theorem k_{n:Nat}{a d:Int}(h:Bd n a)(hd:d ∣ a)(hp:0<d):Bd n (a.fdiv d):=by
 rw[fi hd (by lia)];exact h.le (xE a d)
theorem oD{n:Nat}{a d:Int}(h:Bd n a)(hd:d ∣ a)(ha:0<a):Bd n d :=
 h.le (xu (by lia) (Xn.mpr hd))
theorem CV(t b:Int):vK (if t<0 then -t else t) b=vK t b:=by split<;>simp
theorem zxX{n:Nat}{y:Rat}(h:ai n y):ai n (-y):=⟨by simpa using h.t.neg,by simpa using h.b⟩
theorem zsi(x y:Rat):x + -y=x-y:=(Rat.sub_eq_add_neg x y).symm
theorem getD_mem{α : Type}{xs:List α}{d : α}{i:Nat}(h:i<xs.length):xs.getD i d∈xs:=by
 rw[wa,wc h];exact vc h
def jL(x:Rat):Bool:=(!decide (x<0))&&(decide (x<1)&&decide ((x.den:Int)<=60))
structure fg(x:Rat):Prop where
 nn:0<=x
 lt:x<1
 den:x.den<=60
theorem fg.is{x:Rat}(h:fg x):jL x=true:=by
 have h1:=h.nn;have h2:=h.lt;have h3:=h.den;have h4:¬ x<0:=QT.mpr h1;have h5:(x.den:Int)<=60:=by lia
 simp[jL,h4,h2,h5]
theorem fg.jb{x:Rat}(h:fg x):ai 6 x:=by
 have h1:=h.nn;have h2:=h.lt;have h3:=h.den;have n0:0<=x.num:=qE.mpr h1
 have n1:x.num<x.den:=by
   have:=Ue x 1 |>.mp h2
   simpa using this
 exact ⟨⟨by have : (2 : Nat) ^ 6 = 64 := by decide
            omega⟩, ⟨by have : (2 : Nat) ^ 6 = 64 := by decide
                        omega⟩⟩
def mx(m:Rat)(l:List Rat):Rat:=l.foldl (λm x=>if m<x then x else m) m
theorem NS:∀(l:List Rat)(m:Rat),m<=mx m l /\ ∀y∈l,y<=mx m l
 | [],m=>⟨xi,λy h=>by cases h⟩
 | x::l,m=>by
  have h:=NS l (if m<x then x else m);have e:mx m (x::l)=mx (if m<x then x else m) l:=rfl;rw[e]
  have h1:m<=(if m<x then x else m)/\x<=(if m<x then x else m):=by
   split
   ·rename_i z;exact⟨qD z,xi⟩
   ·rename_i z;exact⟨xi,QT.mp z⟩
  refine⟨Rat.le_trans h1.1 h.1,λy hy=>?_⟩;rcases wE.mp hy with rfl | hy
  ·exact Rat.le_trans h1.2 h.1
  ·exact h.2 y hy
theorem BA:∀(l:List Rat)(m:Rat),mx m l=m\/mx m l∈l
 | [],m=>.inl rfl
 | x::l,m=>by
  have e:mx m (x::l)=mx (if m<x then x else m) l:=rfl;rw[e];rcases BA l (if m<x then x else m)with h | h
  ·rw[h]
   split
   ·exact .inr (wN ..)
   ·exact .inl rfl
  ·exact .inr (wI _ h)
theorem zb(m x:Rat)(l:List Rat):mx m (l++[x])=if mx m l<x then x else mx m l:=by
 unfold mx;rw[xB];rfl
def bE(xs:List Rat):Rat:=mx (xs.getD 0 0) xs
theorem nY{xs:List Rat} : ∀y∈xs,y<=bE xs:=(NS xs _).2
theorem gJ{xs:List Rat}(h:1<=xs.length):bE xs∈xs:=by
 rcases BA xs (xs.getD 0 0)with e | e
 ·unfold bE
  rw[e,wa,wc (by lia)];exact vc _
 ·exact e
theorem zB{xs:List Rat}{i:Nat}(h:i<xs.length):xs.take (i+1)=xs.take i++[xs.getD i 0]:=by
 rw[xC,wa,wc h];rfl
theorem OF{n:Nat}{xs:List Rat}(b:∀i,ai n (xs.getD i 0))(h1:1<=xs.length)(i:Nat):ai n (mx (xs.getD 0 0) (xs.take i)):=by
 rcases BA (xs.take i) (xs.getD 0 0)with e | e
 ·rw[e];exact b 0
 ·have e:=uX _ _ e
  obtain⟨j,hj,ej⟩:=Wj e;rw[<- ej];have:=b j;rw[wa,wc hj]at this;exact this
theorem zvP{r u:Int}(h0:0<=r)(h1:r<u)(h2:u<=60):fg (vC r u):=by
 refine⟨ut h0 (by lia),zrl (c:=1) (by lia) (by lia),?_⟩;have:=EG r u (by lia)
 lia
theorem EW{xs:List Rat}(h:1<=xs.length)(c:Rat):bE (xs.map (· + c))=bE xs+c:=by
 have h':1<=(xs.map (· + c)).length:=by rw[wd];exact h
 refine Ug ?_ ?_
 ·obtain⟨x,hx,e⟩:=wQ.mp (gJ h')
  rw[<- e];have:=nY x hx;exact(Rat.add_le_add_right).mpr this
 ·exact nY _ (wQ.mpr ⟨_,gJ h,rfl⟩)
def az(ps:List Rat)(left:List Nat):List Nat:=left.filter λw=>!decide (ps.getD w 0<1)
def bP(left wave:List Nat):List Nat:=left.filter λw=>!decide (w∈wave)
def cT(f g:Rat)(ps:List Rat)(l:List Nat):List Rat:=l.foldl (λps w=>ps.set w (f*ps.getD w 0+g)) ps
def bU(a b:Rat):Nat->List Rat->List Nat->List (List Nat) × (List Nat × List Rat)
 | 0,ps,left=>([],left,ps)
 | n+1,ps,left=>match az ps left with
  | []=>([],left,ps)
  | w::ws=>((w::ws)::(bU a b n (cT (a^(w::ws).length) (bO a b (w::ws).length) ps (bP left (w::ws))) (bP left (w::ws))).1,(bU a b n (cT (a^(w::ws).length) (bO a b (w::ws).length) ps (bP left (w::ws))) (bP left (w::ws))).2)
def fM(left:List Nat)(ps:List Rat):List Rat:=(wo ps.length).map λi=>if i∈left then ps.getD i 0 else 0
def cB(xs:List Rat):List Rat:=xs.map (· + (1-bE xs))
def eJ(a b:Rat)(xs:List Rat):List (List Nat) × (List Nat × List Rat):=bU a b xs.length (cB xs) (wo xs.length)
def cD(a b:Rat)(xs:List Rat):List (List Nat):=(eJ a b xs).1
def cU(a b:Rat)(xs:List Rat):List Rat:=fM (eJ a b xs).2.1 (eJ a b xs).2.2
theorem jE{a b:Rat}{n:Nat}{ps:List Rat}{left:List Nat}(h:az ps left=[]):bU a b n ps left=([],left,ps):=by
 cases n with
 | zero=>rfl
 | succ n=>rw[bU,h]
theorem jC{a b:Rat}{n:Nat}{ps:List Rat}{left:List Nat}(h:az ps left≠[]):bU a b (n+1) ps left=(az ps left::(bU a b n (cT (a^(az ps left).length) (bO a b (az ps left).length) ps (bP left (az ps left))) (bP left (az ps left))).1,(bU a b n (cT (a^(az ps left).length) (bO a b (az ps left).length) ps (bP left (az ps left))) (bP left (az ps left))).2):=by
 rw[bU];cases e:az ps left with
 | nil=>exact absurd e h
 | cons w ws=>rfl
theorem zpT(f g:Rat)(ps:List Rat)(l:List Nat)(w:Nat):cT f g ps (l++[w])=(cT f g ps l).set w (f*(cT f g ps l).getD w 0+g):=by
 unfold cT;rw[xB];rfl
theorem ja(f g:Rat):∀(l:List Nat)(ps:List Rat),(cT f g ps l).length=ps.length
 | [],ps=>rfl
 | w::l,ps=>by
  show(cT f g (ps.set w _) l).length=_
  rw[ja f g l,VB]
theorem OS{ps:List Rat}{w j:Nat}{y:Rat}(h:w≠j):(ps.set w y).getD j 0=ps.getD j 0:=by
 rw[wa,qx,if_neg h,wa]
theorem N_{ps:List Rat}{w:Nat}{y:Rat}(h:w<ps.length):(ps.set w y).getD w 0=y:=by
 rw[wa,qx,if_pos rfl,if_pos h];rfl
theorem lA(f g:Rat):∀(l:List Nat)(ps:List Rat),l.Nodup->(∀w∈l,w<ps.length)->∀j,(cT f g ps l).getD j 0=if j∈l then f*ps.getD j 0+g else ps.getD j 0
 | [],ps,_,_,j=>by simp[cT]
 | w::l,ps,nd,hl,j=>by
  have nd':=Wp.mp nd
  show(cT f g (ps.set w _) l).getD j 0=_
  rw[lA f g l _ nd'.2 (λv hv=>by rw[VB];exact hl v (wI _ hv)) j]
  by_cases hj:j=w
  ·subst hj
   rw[if_neg nd'.1,if_pos (wN ..),N_ (hl j (wN ..))]
  ·rw[OS (Wz hj)]
   by_cases hm:j∈l
   ·rw[if_pos hm,if_pos (wI _ hm)]
   ·rw[if_neg hm,if_neg (λz=>by rcases wE.mp z with z | z;(exact hj z);exact hm z)]
theorem zrB(ps:List Rat)(left:List Nat):bP left (az ps left)=left.filter λw=>decide (ps.getD w 0<1):=by
 unfold bP;refine Wo λw hw=>?_
 have e:(w∈az ps left)=(¬ ps.getD w 0<1):=by
  unfold az;rw[vG];simp[hw]
 simp only[e];simp
theorem zY(ps:List Rat)(left:List Nat):(az ps left).length+(bP left (az ps left)).length=left.length:=by
 rw[zrB];unfold az
 induction left with
 | nil=>rfl
 | cons w l ih=>by_cases h:ps.getD w 0<1<;>simp only[Vi,h,decide_true,decide_false,WX,Qn,if_true,if_false,vq,vA]<;>lia
theorem zq{left wave:List Nat}(h:left.Nodup):(bP left wave).Nodup:=h.filter _
theorem pf{left wave:List Nat}{n:Nat}(h:∀w∈left,w<n):∀w∈bP left wave,w<n:=λw hw=>h w (vG.mp hw).1
theorem DU(left:List Nat)(ps:List Rat):(fM left ps).length=ps.length:=by simp[fM]
theorem mV{left:List Nat}{ps:List Rat}{j:Nat}(h:j<ps.length):(fM left ps).getD j 0=if j∈left then ps.getD j 0 else 0:=by
 unfold fM;rw[wa,wz,Q3 h]
 rfl
theorem iO(xs:List Rat):(cB xs).length=xs.length:=by simp[cB]
theorem B3{a b:Rat} : ∀(n:Nat)(ps:List Rat)(left:List Nat),(bU a b n ps left).2.2.length=ps.length
 | 0,ps,left=>rfl
 | n+1,ps,left=>by
  by_cases h:az ps left=[]
  ·rw[jE h]
  ·rw[jC h]
   show(bU a b n _ _).2.2.length=_
   rw[B3 n,ja]
theorem nQ(a b:Rat)(xs:List Rat):(cU a b xs).length=xs.length:=by
 unfold cU eJ;rw[DU,B3,iO]
theorem Cm.Ii{m:Nat}{ps:List Rat}{B:Int}(h0:0<B)(h1:Bd m B)(h:∀j,j<ps.length->∃t:Int,ps.getD j 0=vC t B/\Bd m t):∀x∈ps,∃t:Int,x=vC t B/\Bd m t:=λx hx=>by
 obtain⟨j,hj,e⟩:=Wj hx;have:=h j hj;rw[wa,wc hj]at this;rw[<- e];exact this
theorem Ca{a b:Rat}(ba:ai 10 a)(bb:ai 10 b){m:Nat}{t:Int}(h:Bd m t):∀n:Nat,Bd (m+21*n) (t*((a.den:Int)*(b.den:Int))^n)
 | 0=>by simpa using h
 | n+1=>by
  rw[Int.pow_succ,<- XJ];exact((Ca ba bb h n).mul (ba.b.mul bb.b)).mono (by lia)
theorem RE{t B d:Int}(h0:0<B)(hd:0<d):vC t B=vC (t*d) (B*d):=by
 symm
 refine AH (by have:=xh h0 hd;lia) ?_;have q1:=gr t (show B≠0 by lia);rw[W2,W2,<- Rat.mul_assoc,q1]
theorem Cm.wave{m:Nat}{h:Rat}{ps:List Rat}{a b:Rat}(c:Cm m (h::ps))(ba:ai 10 a)(bb:ai 10 b)(n:Nat){l:List Nat}(nd:l.Nodup)(hl:∀w∈l,w<ps.length):Cm (m+21*n) (h::cT (a^n) (bO a b n) ps l):=by
 obtain⟨B,h0,h1,h2⟩:=c;have hz:Bd m (0:Int):=⟨by simp;exact Uh m⟩;obtain⟨p1,p2,_⟩:=A_ ba bb h0 hz h1 n;have hd:0<((a.den:Int)*(b.den:Int))^n:=Int.pow_pos (xh (den_pos a) (den_pos b));refine⟨_,p1,p2,λx hx=>?_⟩;rcases wE.mp hx with rfl | hx
 ·obtain⟨t,rfl,ht⟩:=h2 x (wN ..)
  exact⟨_,RE h0 hd,Ca ba bb ht n⟩
 ·refine Cm.Ii p1 p2 (λj hj=>?_) x hx
  rw[ja]at hj;obtain⟨t,e,ht⟩:=h2 (ps.getD j 0) (wI _ (getD_mem hj));rw[lA _ _ _ _ nd hl]
  split
  ·obtain⟨_,_,T,e2,hT⟩:=A_ ba bb h0 ht h1 n
   exact⟨T,by rw[<- zx3,e,e2],hT⟩
  ·exact⟨_,by rw[e];exact RE h0 hd,Ca ba bb ht n⟩
theorem Cm.rise{m:Nat}{h M:Rat}{xs:List Rat}(c:Cm m (h::xs))(hM:M∈xs):Cm (m+2) ((h+(1-M))::xs.map (· + (1-M))):=by
 obtain⟨B,h0,h1,h2⟩:=c;obtain⟨z,ez,hz⟩:=h2 M (wI _ hM)
 have key:∀t:Int,Bd m t->vC t B+(1-M)=vC (t+B-z) B/\Bd (m+2) (t+B-z):=λt ht=>by
  refine⟨?_,((ht.add h1).sub hz).mono (by lia)⟩;rw[ez]
  symm
  refine AH (by lia) ?_;have q1:=gr t (show B≠0 by lia);have q2:=gr z (show B≠0 by lia);have q3:((t+B-z:Int):Rat)=(t:Rat)+(B:Rat)-(z:Rat):=by push_cast;rfl
  rw[q3,<- q1,<- q2]
  grind
 refine⟨B,h0,h1.mono (by lia),λx hx=>?_⟩;rcases wE.mp hx with rfl | hx
 ·obtain⟨t,e,ht⟩:=h2 h (wN ..)
  rw[e];exact⟨_,(key t ht).1,(key t ht).2⟩
 ·obtain⟨y,hy,rfl⟩:=wQ.mp hx
  obtain⟨t,e,ht⟩:=h2 y (wI _ hy)
  show ∃t:Int,y+(1-M)=_/\_
  rw[e];exact⟨_,(key t ht).1,(key t ht).2⟩
theorem Cm.kn{m:Nat}{xs:List Rat}{ys:List Rat}(c:Cm m xs)(h:∀y∈ys,y∈xs\/y=0):Cm m ys:=by
 obtain⟨B,h0,h1,h2⟩:=c;refine⟨B,h0,h1,λy hy=>?_⟩;rcases h y hy with z | rfl
 ·exact h2 y z
 ·exact⟨0,by simp,⟨by simp;exact Uh m⟩⟩
theorem Yh{left:List Nat}{ps:List Rat} : ∀y∈fM left ps,y∈ps\/y=0:=λy hy=>by
 unfold fM at hy;obtain⟨i,hi,e⟩:=wQ.mp hy;rw[<- e]
 split
 ·exact .inl (getD_mem (wB.mp hi))
 ·exact .inr rfl
theorem Cm.nv{a b:Rat}(ba:ai 10 a)(bb:ai 10 b){h:Rat} : ∀(n m:Nat)(ps:List Rat)(left:List Nat),Cm m (h::ps)->left.Nodup->(∀w∈left,w<ps.length)->Cm (m+21*left.length) (h::(bU a b n ps left).2.2)
 | 0,m,ps,left,c,_,_=>c.mono (by lia)
 | n+1,m,ps,left,c,nd,hl=>by
  by_cases he:az ps left=[]
  ·rw[jE he];exact c.mono (by lia)
  ·rw[jC he]
   have hn:=zY ps left;have c1:=c.wave ba bb (az ps left).length (zq (wave:=az ps left) nd) (pf (wave:=az ps left) hl);have:=Cm.nv ba bb n _ _ (bP left (az ps left)) c1 (zq nd) (by rw[ja];exact pf hl);exact this.mono (by lia)
theorem Cm.SF{a b:Rat}(ba:ai 10 a)(bb:ai 10 b){m:Nat}{h:Rat}{xs:List Rat}(c:Cm m (h::xs))(h1:1<=xs.length):Cm (m+2+21*xs.length) ((h+(1-bE xs))::cU a b xs):=by
 have c1:=c.rise (gJ h1);have c2:=Cm.nv ba bb xs.length _ (cB xs) (wo xs.length) c1 Wn (λw hw=>by rw[iO];exact wB.mp hw);rw[vi]at c2;refine c2.kn λy hy=>?_
 rcases wE.mp hy with rfl | hy
 ·exact .inl (wN ..)
 ·rcases Yh y hy with z | z
  ·exact .inl (wI _ z)
  ·exact .inr z
theorem Cm.Ir{k:Nat}{xs:List Rat}(h:∀i,ai k (xs.getD i 0)):Cm (k*xs.length+1+k) xs:=by
 have h0:=Kf xs xs.length;have h1:=Ny h xs.length;refine⟨mM xs xs.length,h0,h1.mono (by lia),Cm.Ii h0 (h1.mono (by lia)) λj hj=>?_⟩;exact⟨_,(YH h0 (Rn xs _ j hj)).symm,((h j).t.mul (zxK (den_pos _) h0 h1)).mono (by lia)⟩
def bC(a b:Rat)(xs:List Rat):Nat->List Rat
 | 0=>xs
 | k+1=>cU a b (bC a b xs k)
def dr(a b:Rat)(xs:List Rat):Nat->Rat
 | 0=>0
 | k+1=>dr a b xs k+(1-bE (bC a b xs k))
theorem ky(a b:Rat)(xs:List Rat):∀k,(bC a b xs k).length=xs.length
 | 0=>rfl
 | k+1=>by rw[bC,nQ,ky a b xs k]
theorem Cm.A6{a b:Rat}(ba:ai 10 a)(bb:ai 10 b){m:Nat}{xs:List Rat}(c:Cm m xs)(h1:1<=xs.length):∀k,Cm (m+(2+21*xs.length)*k) (dr a b xs k::bC a b xs k)
 | 0=>(c.mono (by lia)).kn λy hy=>by
  rcases wE.mp hy with rfl | hy
  ·exact .inr rfl
  ·exact .inl hy
 | k+1=>by
  have:=(Cm.A6 ba bb c h1 k).SF ba bb (by rw[ky];exact h1);rw[ky]at this;exact this.mono (by rw[qS];lia)
theorem zuA{xs:List Rat}(h:1<=xs.length)(c:Rat):cB (xs.map (· + c))=cB xs:=by
 unfold cB;rw[EW h,W3];refine vU λx _=>?_
 show x+c+(1-(bE xs+c))=x+(1-bE xs)
 grind
theorem LQ{a b:Rat}{xs:List Rat}(h:1<=xs.length)(c:Rat):eJ a b (xs.map (· + c))=eJ a b xs:=by
 unfold eJ;rw[zuA h,wd]
def Rg(n:Nat)(left:List Nat):Prop:=left=(wo n).filter λw=>decide (w∈left)
theorem Rg.range(n:Nat):Rg n (wo n):=by
 unfold Rg;rw[qV.mpr];intro w hw;exact decide_eq_true hw
theorem Rg.filter{n:Nat}{left:List Nat}(h:Rg n left)(p:Nat->Bool):Rg n (left.filter p):=by
 have e:((wo n).filter λw=>decide (w∈left.filter p))=((wo n).filter λw=>decide (w∈left)).filter p:=by
  rw[WT];refine Wo λw _=>?_
  by_cases h1:w∈left<;>cases h2:p w<;>simp[h1,h2]
 unfold Rg;rw[e];exact congrArg (List.filter p) h
theorem Rg.bP{n:Nat}{left:List Nat}(h:Rg n left)(wave:List Nat):Rg n (bP left wave):=h.filter _
theorem Rg.lt{n:Nat}{left:List Nat}(h:Rg n left):∀w∈left,w<n:=λw hw=>by
 rw[h]at hw;exact wB.mp (vG.mp hw).1
theorem Rg.nodup{n:Nat}{left:List Nat}(h:Rg n left):left.Nodup:=by
 rw[h];exact Wn.filter _
theorem nM{f:Rat->Rat}{xs:List Rat}{w:Nat}(h:w<xs.length):(xs.map f).getD w 0=f (xs.getD w 0):=by
 rw[wa,wz,wc h,wa,wc h];rfl
structure zCS(l:List Rat):Prop where
 pw:l.Pairwise (· > ·)
 nn:∀y∈l,0<=y
structure PZ(xs row:List Rat)(fl:Nat->Nat):Prop where
 at':∀w,w<xs.length->xs.getD w 0=row.getD (fl w) 0
 lt:∀w,w<xs.length->fl w<row.length
def zCV(n:Nat)(fl:Nat->Nat)(c:Nat):List Nat:=(wo n).filter λw=>decide (fl w=c)
structure zDa(xs row:List Rat)(fl:Nat->Nat)(ns:List Int):Prop where
 pl:PZ xs row fl
 SS:zCS row
 one:row.getD 0 0<1
 len:ns.length=row.length
 some:∀c,c<row.length->∃w,w<xs.length/\fl w=c
 size:∀c,c<row.length->(ns.getD c 0).toNat=(zCV xs.length fl c).length
def Rf(xs:List Rat)(v:Rat):List Nat:=(wo xs.length).filter λw=>decide (xs.getD w 0=v)
def RO:Nat->List Rat->List Rat
 | 0,_=>[]
 | _+1,[]=>[]
 | n+1,x::l=>bE (x::l)::RO n ((x::l).filter λy=>!decide (y=bE (x::l)))
def eB(xs:List Rat):List Rat:=RO xs.length xs
def z6(xs:List Rat)(w:Nat):Nat:=(eB xs).idxOf (xs.getD w 0)
def t_(xs:List Rat):List Int:=(eB xs).map λv=>((Rf xs v).length:Int)
def MA(a b:Rat)(ns:List Int)(row:List Rat):Nat->Rat
 | 0=>0
 | k+1=>MA a b ns row k+(1-(CD a b ns row k).getD k 0)
theorem Ma{a b:Rat}(a0:0<a)(b0:0<=b):∀n:Nat,0<=bO a b n
 | 0=>xi
 | n+1=>by
  have h1:=Ma a0 b0 n;have h2:=Uv (qD a0) h1
  show 0<=a*bO a b n+b
  grind
theorem Nu{a b:Rat}(a0:0<a)(b0:0<=b):∀(n:Nat)(ps:List Rat)(left:List Nat),left.length<=n->left.Nodup->(∀w∈left,w<ps.length)->(∀w∈left,0<=ps.getD w 0) ->
  ∀w∈(bU a b n ps left).2.1,w∈left/\0<=(bU a b n ps left).2.2.getD w 0/\(bU a b n ps left).2.2.getD w 0<1
 | 0,ps,left,hn,_,_,_=>by
  have:left=[]:=Vq.mp (by lia);subst this;intro w hw;cases (show w∈([]:List Nat)from hw)
 | n+1,ps,left,hn,nd,hlt,nn=>by
  by_cases e:az ps left=[]
  ·rw[jE e]
   intro w hw;have hw:w∈left:=hw;refine⟨hw,nn w hw,?_⟩;have:¬ w∈az ps left:=by rw[e];simp
   unfold az at this;rw[vG]at this
   show ps.getD w 0<1
   by_cases z:ps.getD w 0<1
   ·exact z
   ·exact absurd ⟨hw,by simp only[z,decide_false,Qn]⟩ this
  ·rw[jC e]
   have hl:=zY ps left;have hp:=qb.mpr e;have nd':(bP left (az ps left)).Nodup:=zq nd;have lt':∀w∈bP left (az ps left),w<(cT (a^(az ps left).length) (bO a b (az ps left).length) ps (bP left (az ps left))).length:=λw hw=>by rw[ja];exact pf hlt w hw
   have ih:=Nu a0 b0 n (cT (a^(az ps left).length) (bO a b (az ps left).length) ps (bP left (az ps left))) (bP left (az ps left)) (by lia) nd' lt' (λw hw=>by
    rw[lA _ _ _ _ nd' (pf hlt),if_pos hw];have h1:=nn w (vG.mp hw).1;have h2:=Uv (qD (TH a0 (az ps left).length)) h1;have h3:=Ma a0 b0 (az ps left).length
    grind)
   intro w hw;have:=ih w hw;exact⟨(vG.mp this.1).1,this.2⟩
theorem zwL{xs:List Rat}(nn:∀x∈xs,0<=x)(lt:∀x∈xs,x<1){w:Nat}(hw:w<xs.length):0<=(cB xs).getD w 0:=by
 have h1:=gJ (xs:=xs) (by lia);have h2:=lt _ h1;have h3:=nn _ (getD_mem (d:=0) hw);unfold cB;rw[nM hw]
 grind
theorem MD{a b:Rat}(a0:0<a)(b0:0<=b){xs:List Rat}(nn:∀x∈xs,0<=x)(lt:∀x∈xs,x<1):∀y∈cU a b xs,0<=y/\y<1:=λy hy=>by
 obtain⟨j,hj,e⟩:=Wj hy;have hlen:=nQ a b xs;have hjx:j<xs.length:=by lia
 have hpl:(eJ a b xs).2.2.length=xs.length:=by
  unfold eJ;rw[B3,iO]
 have e2:(cU a b xs).getD j 0=y:=by rw[wa,wc hj];exact e
 unfold cU at e2;rw[mV (by lia)]at e2
 split at e2
 ·rename_i hm
  have:=Nu a0 b0 xs.length (cB xs) (wo xs.length) (by simp) Wn (λw hw=>by rw[iO];exact wB.mp hw) (λw hw=>zwL nn lt (wB.mp hw)) j hm;rw[<- e2];exact this.2
 ·rw[<- e2];exact⟨xi,by decide⟩
structure tP(xs:List Rat):Prop where
 nn:∀x∈xs,0<=x
 lt:∀x∈xs,x<1
theorem tP.rj{a b:Rat}(a0:0<a)(b0:0<=b){xs:List Rat}(h:tP xs):tP (cU a b xs):=⟨λy hy=>(MD a0 b0 h.nn h.lt y hy).1,λy hy=>(MD a0 b0 h.nn h.lt y hy).2⟩
structure zDe(a b:Rat)(xs:List Rat):Prop where
 nv:∀t,t<(eB xs).length->cD a b (bC a b xs t)=[Rf xs ((eB xs).getD t 0)]
 vals:eB (bC a b xs (eB xs).length)=CD a b (t_ xs) (eB xs) (eB xs).length
 aad:t_ (bC a b xs (eB xs).length)=t_ xs
 hour:dr a b xs (eB xs).length=MA a b (t_ xs) (eB xs) (eB xs).length
def JW:List Int->List Rat->List Rat
 | n::ns,x::xs=>wm n.toNat x++JW ns xs
 | _,_=>[]
structure zC8(zs:List Rat)(ns:List Int)(row:List Rat):Prop where
 perm:zs.Perm (JW ns row)
 len:ns.length=row.length
 pos:∀n∈ns,1<=n
 SS:row.Pairwise (· > ·)
def seg(n:Nat)(fl:Nat->Nat)(s t:Nat):List Nat:=(wo n).filter λw=>decide (s<=fl w)&&decide (fl w<t)
inductive tM(n:Nat)(fl:Nat->Nat):Nat->List (List Nat)->Nat->Prop
 | nil (t:Nat):tM n fl t [] t
 | cons {t u v:Nat} {ws:List (List Nat)} : t<u->tM n fl u ws v->tM n fl t (seg n fl t u::ws) v
structure zCR(xs ys:List Rat)(nv:List (List Nat))(v:Nat):Prop where
 v1:1<=v
 vm:v<=(eB xs).length
 first:∃ws,nv=seg xs.length (z6 xs) 0 1::ws/\tM xs.length (z6 xs) 1 ws v
 vals:∃(A B:Rat),0<A/\eB ys=((eB xs).drop v).map (λx=>A*x+B)++[0]/\(∀x∈(eB xs).drop v,0<A*x+B)
 at':PZ ys (eB ys) (λw=>if z6 xs w<v then(eB xs).length-v else z6 xs w-v)
 len:ys.length=xs.length
theorem LB(F s:Rat):∀n:Nat,bO F s n=bO F 1 n*s
 | 0=>by show(0:Rat)=0*s;rw[Rat.zero_mul]
 | n+1=>by
  show F*bO F s n+s=(F*bO F 1 n+1)*s
  rw[LB F s n]
  grind
theorem zwx(n:Nat):bO 1 1 n=((n:Int):Rat):=by
 induction n with
 | zero=>rfl
 | succ n ih =>
  have e:(((n+1:Nat):Int):Rat)=((n:Int):Rat)+1:=by push_cast;rfl
  show 1*bO 1 1 n+1=_
  rw[ih,e];grind
end GM
namespace L2
open PySem PySem.Spec PyProof.Rows GM
section
variable{K:wb}{H H' H2:Hp}{a p:wf}{xs ys:List V}{o:HO}
theorem af.upd(h:H p=none):af H (upd H p o):=λb u e=>by
 rw[cX (cW e h)];exact e
theorem af.d9(s:af H H')(h:aF K H a xs):aF K H' a xs:=by
 rcases h with(h | ⟨o,h⟩) | h
 ·exact .inl (.inl (s _ _ h))
 ·exact .inl (.inr ⟨o,s _ _ h⟩)
 ·exact .inr h
structure aO(H H':Hp):Prop where
 t:∀b xs,H b=some (.tup xs)->H' b=some (.tup xs)
 f:∀b o u,H b=some (.fc o u)->H' b=some (.fc o u)
theorem af.keep(s:af H H'):aO H H':=⟨λb xs h=>s _ _ h,λb o u h=>s _ _ h⟩
theorem aO.refl(H:Hp):aO H H:=(af.refl H).keep
theorem aO.trans(a:aO H H')(b:aO H' H2):aO H H2:=⟨λc xs h=>b.t _ _ (a.t _ _ h),λc o u h=>b.f _ _ _ (a.f _ _ _ h)⟩
theorem aO.d9(k:aO H H')(h:aF K H a xs):aF K H' a xs:=by
 rcases h with(h | ⟨o,h⟩) | h
 ·exact .inl (.inl (k.t _ _ h))
 ·exact .inl (.inr ⟨o,k.f _ _ _ h⟩)
 ·exact .inr h
def gG(K:wb)(H:Hp)(a:wf)(xs:List V):Prop :=
 (∃o,H a=some (.fc o (.lst xs))) \/
  ∃(o:Obj)(its:Array we)(n:Nat),K.lookup a=some o/\o.cls=.type "list"/\o.dict=none/\o.data=.seq its n/\its.size<=wY/\aI xs its.toList
theorem gG.sq(h:gG K H a xs):aG K H a xs:=by
 rcases h with⟨o,h⟩ | h
 ·exact .inl (.inr ⟨o,h⟩)
 ·exact .inr h
theorem aO.CN(k:aO H H')(h:gG K H a xs):gG K H' a xs:=by
 rcases h with⟨o,h⟩ | h
 ·exact .inl ⟨o,k.f _ _ _ h⟩
 ·exact .inr h
def Exc(p:wf)(H H':Hp):Prop:=∀b o,b≠p->H b=some o->H' b=some o
theorem Exc.keep(e:Exc p H H')(h:H p=some (.lst xs)):aO H H' :=
 ⟨λb ys hb=>e b _ (Ll hb h (by intro z;cases z)) hb,λb o u hb=>e b _ (Ll hb h (by intro z;cases z)) hb⟩
theorem af.exc(s:af H H'):Exc p H H':=λb o _ h=>s b o h
theorem Exc.refl(p:wf)(H:Hp):Exc p H H:=λ_ _ _ h=>h
theorem Exc.trans(a:Exc p H H')(b:Exc p H' H2):Exc p H H2:=λc o n h=>b c o n (a c o n h)
theorem Exc.upd(p:wf)(H:Hp)(o:HO):Exc p H (upd H p o):=λb u n h=>by
 rw[cX n];exact h
theorem Exc.at(e:Exc p H H'){q:wf}{u:HO}(n:q≠p)(h:H q=some u):H' q=some u:=e q u n h
end
mutual
def Is(K:wb)(H:Hp):V->wq->Prop
 | v,.none=>v=.aZ
 | v,.bool b=>v=.bl b
 | v,.int i=>v=.int i
 | v,.str x=>v=.str x
 | v,.tuple ds=>∃a xs,v=.ref a/\aF K H a xs/\ag K H xs ds
 | v,.list ds=>∃a xs,v=.ref a/\aG K H a xs/\ag K H xs ds
 | v,.dict _=>∃a kvs,v=.ref a/\H a=some (.dK kvs)
def ag(K:wb)(H:Hp):List V->List wq->Prop
 | xs,[]=>xs=[]
 | xs,d::ds=>∃x r,xs=x::r/\Is K H x d/\ag K H r ds
end
section
variable{K:wb}{H H':Hp}{v:V}{xs:List V}{ds:List wq}{d:wq}
theorem bN{i:Int} : Is K H v (.int i) ↔ v=.int i:=by rw[Is]
theorem lT{b:Bool} : Is K H v (.bool b) ↔ v=.bl b:=by rw[Is]
theorem kj{x:Str} : Is K H v (.str x) ↔ v=.str x:=by rw[Is]
theorem mC:Is K H v .none ↔ v=.aZ:=by rw[Is]
theorem bz:Is K H v (.tuple ds) ↔ ∃a xs,v=.ref a/\aF K H a xs/\ag K H xs ds:=by rw[Is]
theorem aW:Is K H v (.list ds) ↔ ∃a xs,v=.ref a/\aG K H a xs/\ag K H xs ds:=by rw[Is]
theorem s_{kv:List (wq × wq)} : Is K H v (.dict kv) ↔ ∃a kvs,v=.ref a/\H a=some (.dK kvs):=by rw[Is]
theorem dM:ag K H xs [] ↔ xs=[]:=by rw[ag]
theorem ck:ag K H xs (d::ds) ↔ ∃x r,xs=x::r/\Is K H x d/\ag K H r ds:=by rw[ag]
theorem ag.cons(h:Is K H v d)(t:ag K H xs ds):ag K H (v::xs) (d::ds):=ck.mpr ⟨v,xs,rfl,h,t⟩
theorem ag.nil:ag K H [] []:=dM.mpr rfl
theorem ag.length:∀{ds:List wq}{xs:List V},ag K H xs ds->xs.length=ds.length
 | [],_,h=>by rw[dM.mp h];rfl
 | d::ds,_,h=>by
  obtain⟨x,r,rfl,_,t⟩:=ck.mp h;rw[vA,vA,ag.length t]
theorem ag.get:∀{ds:List wq}{xs:List V}{i:Nat}{d:wq},ag K H xs ds->ds[i]? = some d->∃x,xs[i]? = some x/\Is K H x d
 | [],_,_,_,_,e=>by simp at e
 | d::ds,_,0,_,h,e=>by
  obtain⟨x,r,rfl,q,_⟩:=ck.mp h;simp at e;subst e;exact⟨x,rfl,q⟩
 | d::ds,_,i+1,d',h,e=>by
  obtain⟨x,r,rfl,_,t⟩:=ck.mp h;obtain⟨y,h1,h2⟩:=ag.get (i:=i) t (by simpa using e);exact⟨y,by simpa using h1,h2⟩
theorem ag.append:∀{ds es:List wq}{xs ys:List V},ag K H xs ds->ag K H ys es->ag K H (xs++ys) (ds++es)
 | [],_,_,_,h,t=>by rw[dM.mp h];exact t
 | d::ds,_,_,_,h,t=>by
  obtain⟨x,r,rfl,q,u⟩:=ck.mp h;exact .cons q (ag.append u t)
mutual
theorem Is.same(s:af H H'):∀(d:wq)(v:V),Is K H v d->Is K H' v d
 | .none,v,h=>by rw[mC]at h ⊢;exact h
 | .bool _,v,h=>by rw[lT]at h ⊢;exact h
 | .int _,v,h=>by rw[bN]at h ⊢;exact h
 | .str _,v,h=>by rw[kj]at h ⊢;exact h
 | .tuple ds,v,h=>by
  obtain⟨a,xs,e,q,t⟩:=bz.mp h;exact bz.mpr ⟨a,xs,e,s.d9 q,ag.same s ds xs t⟩
 | .list ds,v,h=>by
  obtain⟨a,xs,e,q,t⟩:=aW.mp h;exact aW.mpr ⟨a,xs,e,s.seq q,ag.same s ds xs t⟩
 | .dict _,v,h=>by
  obtain⟨a,kvs,e,q⟩:=s_.mp h;exact s_.mpr ⟨a,kvs,e,s _ _ q⟩
theorem ag.same(s:af H H'):∀(ds:List wq)(xs:List V),ag K H xs ds->ag K H' xs ds
 | [],xs,h=>by rw[dM]at h ⊢;exact h
 | d::ds,xs,h=>by
  obtain⟨x,r,e,q,t⟩:=ck.mp h;exact ck.mpr ⟨x,r,e,Is.same s d x q,ag.same s ds r t⟩
end
end
/- no list and no dict within -/
mutual
def bV:wq->Bool
 | .none=>true
 | .bool _=>true
 | .int _=>true
 | .str _=>true
 | .tuple ds=>a_ ds
 | .list _=>false
 | .dict _=>false
def a_:List wq->Bool
 | []=>true
 | d::ds=>bV d&&a_ ds
end
section
variable{K:wb}{H H':Hp}
mutual
theorem Is.keep(k:aO H H'):∀(d:wq)(v:V),bV d=true->Is K H v d->Is K H' v d
 | .none,v,_,h=>by rw[mC]at h ⊢;exact h
 | .bool _,v,_,h=>by rw[lT]at h ⊢;exact h
 | .int _,v,_,h=>by rw[bN]at h ⊢;exact h
 | .str _,v,_,h=>by rw[kj]at h ⊢;exact h
 | .tuple ds,v,i,h=>by
  obtain⟨a,xs,e,q,t⟩:=bz.mp h;exact bz.mpr ⟨a,xs,e,k.d9 q,ag.keep k ds xs (by rw[bV]at i;exact i) t⟩
 | .list ds,v,i,h=>by rw[bV]at i;cases i
 | .dict _,v,i,h=>by rw[bV]at i;cases i
theorem ag.keep(k:aO H H'):∀(ds:List wq)(xs:List V),a_ ds=true->ag K H xs ds->ag K H' xs ds
 | [],xs,_,h=>by rw[dM]at h ⊢;exact h
 | d::ds,xs,i,h=>by
  obtain⟨x,r,e,q,t⟩:=ck.mp h;rw[a_,vf]at i;exact ck.mpr ⟨x,r,e,Is.keep k d x i.1 q,ag.keep k ds r i.2 t⟩
end
end
def N(r:Rat):wq:=.tuple [.int r.num,.int (r.den:Int)]
theorem yA(r:Rat):bV (N r)=true:=by simp[N,bV,a_]
section
variable{K:wb}{H H':Hp}{v:V}{r:Rat}
theorem o_:Is K H v (N r) ↔ ∃a,v=.ref a/\aF K H a [.int r.num,.int (r.den:Int)]:=by
 unfold N;rw[bz]
 constructor
 ·rintro ⟨a,xs,e,q,t⟩
  obtain⟨x,r1,rfl,q1,t⟩:=ck.mp t;obtain⟨y,r2,rfl,q2,t⟩:=ck.mp t;rw[dM.mp t,bN.mp q1,bN.mp q2]at q;exact⟨a,e,q⟩
 ·rintro ⟨a,e,q⟩
  exact⟨a,_,e,q,.cons (bN.mpr rfl) (.cons (bN.mpr rfl) .nil)⟩
end
section
variable{X:Cx}{pins:List (wf × Obj)}{σ : St}{H:Hp}{s:wk}
mutual
theorem Inv.reads(I:Inv X pins σ H s):∀(d:wq)(v:V)(u:we),d.canLay0=true->Is X.K H v d->aT v u->∃as,Reads s.heap u d as
 | .none,v,u,_,h,r=>by
  cases mC.mp h;cases (show u=Value.none from r);exact⟨_,.none⟩
 | .bool b,v,u,_,h,r=>by
  cases lT.mp h;cases (show u=Value.bool b from r);exact⟨_,.bool b⟩
 | .int i,v,u,_,h,r=>by
  cases bN.mp h;obtain⟨t,e⟩:=(show ∃t,u=Value.int i t from r);cases e;exact⟨_,.int i t⟩
 | .str x,v,u,_,h,r=>by
  cases kj.mp h;obtain⟨t,e⟩:=(show ∃t,u=Value.str x t from r);cases e;exact⟨_,.str x t⟩
 | .tuple ds,v,u,c,h,r=>by
  obtain⟨a,xs,e,q,t⟩:=bz.mp h;subst e;cases (show u=Value.ref a from r);obtain⟨its,rv,⟨o,e1,e2,n,e3⟩,_⟩:=I.tuple q;obtain⟨as,ra⟩:=Inv.readsAll I ds xs its (by rw[Vt]at c;exact c) t rv;exact⟨_,.tuple e1 e2 e3 (by simpa using ra)⟩
 | .list ds,v,u,c,h,r=>by
  obtain⟨a,xs,e,q,t⟩:=aW.mp h;subst e;cases (show u=Value.ref a from r);obtain⟨its,rv,⟨o,n,e1,e2,_,e3⟩,_⟩:=I.list q;obtain⟨as,ra⟩:=Inv.readsAll I ds xs its (by rw[Vt]at c;exact c) t rv;exact⟨_,.list e1 e2 e3 (by simpa using ra)⟩
 | .dict _,v,u,c,h,r=>by rw[Vt]at c;cases c
theorem Inv.readsAll(I:Inv X pins σ H s):∀(ds:List wq)(xs:List V)(us:List we),VJ ds=true->ag X.K H xs ds->aI xs us->∃as,ReadsAll s.heap us ds as
 | [],xs,us,_,h,r=>by
  rw[dM.mp h]at r;cases r;exact⟨_,.nil⟩
 | d::ds,xs,us,c,h,r=>by
  obtain⟨x,l,e,q,t⟩:=ck.mp h;subst e;rw[VJ,vf]at c;cases r with
  | cons r1 r2 =>
   obtain⟨as,h1⟩:=Inv.reads I d x _ c.1 q r1;obtain⟨bs,h2⟩:=Inv.readsAll I ds l _ c.2 t r2;exact⟨_,.cons h1 h2⟩
end
end
section
variable{X:Cx}
open PySem.SeqAt (shaped)
def dW(K:wb):R2:=λx y H Q=>∃d e,Is K H x d/\Is K H y e/\shaped d=true/\shaped e=true/\Q (.bl (vn d e)) H
def eA(K:wb):R2:=λx y H Q=>∃d e,Is K H x d/\Is K H y e/\shaped d=true/\shaped e=true/\Q (.bl (!PyData.eqv d e)) H
theorem fN(hu:X.A.units+64<WV):aJ X (wW .Eq) (dW X.K):=by
 intro pins s σ H x y v u Q I rx ry h;obtain⟨d,e,hd,he,sd,se,q⟩:=h;obtain⟨as,h1⟩:=I.reads d x v (Vu sd) hd rx;obtain⟨bs,h2⟩:=I.reads e y u (Vu se) he ry;exact eq_dataH h1 h2 sd se hu ⟨.bl _,H,I,rfl,q⟩
theorem fF(hu:X.A.units+64<WV):aJ X (wW .NotEq) (eA X.K):=by
 intro pins s σ H x y v u Q I rx ry h;obtain⟨d,e,hd,he,sd,se,q⟩:=h;obtain⟨as,h1⟩:=I.reads d x v (Vu sd) hd rx;obtain⟨bs,h2⟩:=I.reads e y u (Vu se) he ry;exact ne_dataH h1 h2 sd se hu ⟨.bl _,H,I,rfl,q⟩
theorem aT.Sz{x:V}{v:we}(r:aT x v)(c:Bool):(v == Value.bool c)=decide (x=.bl c):=by
 cases x with
 | aZ=>cases (show v=Value.none from r);rfl
 | bl b=>cases (show v=Value.bool b from r);cases b<;>cases c<;>rfl
 | int _=>obtain⟨t,rfl⟩:=r;rfl
 | str _=>obtain⟨t,rfl⟩:=r;rfl
 | byt _=>obtain⟨t,rfl⟩:=r;rfl
 | lE _=>obtain⟨t,rfl⟩:=r;rfl
 | ref _=>cases r;rfl
 | ty _=>cases r;rfl
theorem aT.Ss{x:V}{v:we}(r:aT x v)(c:Bool):plainIs v (Value.bool c)=true:=by
 cases x with
 | aZ=>cases (show v=Value.none from r);rfl
 | bl b=>cases (show v=Value.bool b from r);rfl
 | int _=>obtain⟨t,rfl⟩:=r;rfl
 | str _=>obtain⟨t,rfl⟩:=r;rfl
 | byt _=>obtain⟨t,rfl⟩:=r;rfl
 | lE _=>obtain⟨t,rfl⟩:=r;rfl
 | ref _=>cases r;rfl
 | ty _=>cases r;rfl
def M_:R2:=λx y H Q=>(∃c,y=.bl c/\Q (.bl (decide (x=.bl c))) H)\/(y=.aZ/\Q (.bl (decide (x=.aZ))) H)
theorem y7:aJ X (wW .Is) M_:=by
 intro pins s σ H x y v u Q I rx ry h;rcases h with⟨c,e,q⟩ | h
 ·subst e
  cases (show u=Value.bool c from ry);exact wpAny_is_plain (rx.Ss c) (NP I q (rx.Sz c).symm)
 ·exact zAv pins s σ H x y v u Q I rx ry h
def kindOf:wq->String
 | .none=>"NoneType"
 | .bool _=>"bool"
 | .int _=>"int"
 | .str _=>"str"
 | .tuple _=>"tuple"
 | .list _=>"list"
 | .dict _=>"dict"
def gC(K:wb):List V->Hp->VK->Prop:=λxs H Q=>∃x T d b,xs=[x,.ty T]/\Is K H x d/\qF K (.type (kindOf d)) (.type T)=some b/\Q (.bl b) H
theorem oF:ay X (.builtin "isinstance") (gC X.K):=by
 intro pins s σ H xs us Q I r h;obtain⟨x,T,d,b,rfl,hd,e,q⟩:=h;obtain⟨u,w',rfl,rx,rt⟩:=kN r;cases (show w'=Value.type T from rt);have fin:∀tk,EP X pins σ Q (.bool b) {s with toks:=tk}:=λtk=>⟨.bl b,H,I.tok _,rfl,q⟩
 cases d with
 | none =>
  cases mC.mp hd;cases (show u=Value.none from rx);exact VD uw I.de True.intro e (λz=>nomatch z) fin
 | bool y =>
  cases lT.mp hd;cases (show u=Value.bool y from rx);exact VD uz I.de True.intro e (λz=>nomatch z) fin
 | int i =>
  cases bN.mp hd;obtain⟨t,q⟩:=(show ∃t,u=Value.int i t from rx);cases q;exact VD uY I.de True.intro e (λz=>nomatch z) fin
 | str y =>
  cases kj.mp hd;obtain⟨t,q⟩:=(show ∃t,u=Value.str y t from rx);cases q;exact VD uZ I.de True.intro e (λz=>nomatch z) fin
 | tuple ds =>
  obtain⟨a,xs,e1,hq,_⟩:=bz.mp hd;subst e1;cases (show u=Value.ref a from rx);obtain⟨its,_,⟨o,h1,h2,_⟩,_⟩:=I.tuple hq;exact VD X1 I.de ⟨o,h1,h2⟩ e (λz=>nomatch z) fin
 | list ds =>
  obtain⟨a,xs,e1,hq,_⟩:=aW.mp hd;subst e1;cases (show u=Value.ref a from rx);obtain⟨its,_,⟨o,n,h1,h2,_⟩,_⟩:=I.list hq;exact VD uA I.de ⟨o,h1,h2⟩ e (λz=>nomatch z) fin
 | dict kv =>
  obtain⟨a,kvs,e1,hq⟩:=s_.mp hd;subst e1;cases (show u=Value.ref a from rx);obtain⟨_,_,vs,_,o,es,ep,h1,h2,_⟩:=(show cz X.prog X.w H s.heap a (.dK kvs)from I.aB a _ hq);exact VD uB I.de ⟨o,h1,h2.1⟩ e (λz=>nomatch z) fin
def isA(T:String)(d:wq):Bool:=(kindOf d == T) || (kindOf d == "bool"&&T == "int")
theorem zy6{K:wb}(d:wq):qF K (.type (kindOf d)) (.type "int")=some (isA "int" d):=by cases d<;>rfl
theorem zwQ{K:wb}(d:wq):qF K (.type (kindOf d)) (.type "bool")=some (isA "bool" d):=by cases d<;>rfl
theorem Zt{K:wb}(d:wq):qF K (.type (kindOf d)) (.type "tuple")=some (isA "tuple" d):=by cases d<;>rfl
theorem T_{K:wb}(d:wq):qF K (.type (kindOf d)) (.type "list")=some (isA "list" d):=by cases d<;>rfl
theorem SI{m n:Nat}{i j:Int}(h:Bd m i)(k:Bd n j)(hm:m<=1000000)(hn:n<=1000000):IntMulOk i j:=by
 have f:∀{m:Nat}{i:Int},Bd m i->m<=1000000->XQ i<=2^20:=by
  intro m i h hm;have e:(2:Nat)^20=1048576:=by decide
  have l:=(h.mono (Xh m)).log (QU m);unfold XQ
  split<;>lia
 exact .of_bits (f h hm) (f k hn)
theorem dZ:aJ X (WH .Mult) (rI IntMulOk λi j=>.int (i*j)):=rK λ_ _ _ _ _ _ _ hc q=>mul_int q hc
def l_(_ j:Int):Prop:=j≠0/\Bd 8999 j
theorem dJ:aJ X (WH .FloorDiv) (rI l_ λi j=>.int (i.fdiv j)):=rK λ_ _ _ _ _ _ _ hc q =>
 floordiv_int hc.1 q (.inl (PyProof.noPylong_of_log2 (qy (hc.2.log (by decide)))))
theorem zyn:aJ X (WH .Add) (λx y H Q=>(gH λi j=>.int (i+j)) x y H Q\/(C9 x y H Q \/ ∃i j,x=.str i/\y=.str j/\i.length+j.length<=wY/\Q (.str (i++j)) H)):=zAE.or (TJ.or Zj)
end
theorem bR:Wk "len"=some (.builtin "len"):=by decide +kernel
theorem yO:Wk "abs"=some (.builtin "abs"):=by decide +kernel
theorem kG:Wk "isinstance"=some (.builtin "isinstance"):=by decide +kernel
theorem tJ:Wk "int"=some (.type "int"):=by decide +kernel
theorem zyy:Wk "bool"=some (.type "bool"):=by decide +kernel
theorem cf:Wk "tuple"=some (.type "tuple"):=by decide +kernel
theorem oz:Wk "list"=some (.type "list"):=by decide +kernel
def ou(K:wb)(xs:List V)(H:Hp)(Q:VK):Prop:=xs.length<=wY /\ ∀p,H p=none->Q (.ref p) (upd H p (.tup xs))
def zS(K:wb)(xs:List V)(H:Hp)(Q:VK):Prop:=xs.length<=wY /\ ∀p,H p=none->Q (.ref p) (upd H p (.lst xs))
def lj(K:wb)(t:TA):TE:=λσ H Q=>t σ H λxs H1=>ou K xs H1 Q
def EB(K:wb)(t:TA):TE:=λσ H Q=>t σ H λxs H1=>zS K xs H1 Q
def BL:R2:=λx y H Q=>(gH λi j=>.int (i+j)) x y H Q\/(C9 x y H Q \/ ∃i j,x=.str i/\y=.str j/\i.length+j.length<=wY/\Q (.str (i++j)) H)
def Pa:List V->Hp->VK->Prop:=λxs H Q=>∃i:Int,xs=[.int i]/\Q (.int (if i<0 then -i else i)) H
def bB(K:wb):List V->Hp->VK->Prop:=λxs H Q=>∃p ys,xs=[.ref p]/\(aG K H p ys\/aF K H p ys)/\Q (.int ys.length) H
def Lr:List V->Hp->VK->Prop:=λxs H Q=>(∃i,xs=[.int i]/\Q (.int i) H) \/ ∃k,xs=[.bl k]/\Q (.int (if k then 1 else 0)) H
section
variable{X:Cx}{e:Expr}{es:List Expr}{te:TE}{t:TA}{pos:Pos}
theorem b9{x1}(h:PA X es t):PE X (.Tuple es x1 pos) (lj X.K t):=zBy h
theorem cS(h:PA X es t):PE X (.List es pos) (EB X.K t):=YR h
theorem dD:aJ X (WH .Add) BL:=zyn
theorem tq:ay X (.builtin "abs") Pa:=zvS
theorem bX:ay X (.builtin "len") (bB X.K):=znS
theorem B4:ay X (.type "int") Lr:=Zv
theorem ib{x:Str}{i:Int}{pos:Pos}(hg:Gl X x)(hm:∃t,X.mg x=some (.int i t))(hd:(x == ("__debug__" : Str))=false:=by decide):PE X (.Name x pos) (tC (.int i)):=by
 obtain⟨t,hm⟩:=hm;exact fk hg hm ⟨t,rfl⟩ hd
end
section
variable{K:wb}{σ : St}{H H':Hp}{Q:VK}{QA:List V->Hp->Prop}{QB:Bool->Hp->Prop}{QS:St->Hp->Prop}{QH:Hp->Prop}{D:bY}{ta tb te:TE}{tt tu:TT}{t tr:TA}{s1 s2:TS}{g:TG}{gs:jK}{r:R2}{v w:V}{xs ys:List V}{i:Nat}{m n:Int}
theorem oS(h : σ[i]? = some (some v))(q:Q v H):gY i σ H Q:=⟨v,h,q⟩
theorem Zr(q:Q v H):tC v σ H Q:=q
theorem Mo(h:ta σ H λx H1=>tb σ H1 λy H2=>r x y H2 Q):j7 r ta tb σ H Q:=h
theorem zBW{u:V->Hp->VK->Prop}(h:ta σ H λx H1=>u x H1 Q):Jw u ta σ H Q:=h
theorem zAr(h:t σ H λxs H1=>ou K xs H1 Q):lj K t σ H Q:=h
theorem ZU(h:t σ H λxs H1=>zS K xs H1 Q):EB K t σ H Q:=h
theorem Nn(q:QA [] H):mJ σ H QA:=q
theorem Pd(h:te σ H λx H1=>tr σ H1 λxs H2=>QA (x::xs) H2):jV te tr σ H QA:=h
theorem zyb{sp:Sp}{E:XK}(h:t σ H λvs H1=>sp vs H1 Q E):nO sp [] E t σ H Q:=by
 simpa only[nO,vT] using h
theorem Kw{u:List V->Hp->VK->Prop}(h:t σ H λvs H1=>u vs H1 Q):mS u t σ H Q:=h
theorem Lh(h:te σ H λx H'=>∃k,x=.bl k/\QB k H'):tG te σ H QB:=h
theorem YB(h:te σ H λx H'=>∃k,x=.bl k/\QB k H'):tB te σ H QB:=h
theorem KU{R:Bool->Prop}{k:Bool}(q:R k):∃k',V.bl k=V.bl k'/\R k':=⟨k,rfl,q⟩
theorem zBj(h:tt σ H λc H1=>if c=true then tu σ H1 QB else QB false H1):IY tt tu σ H QB:=h
theorem Tp(h:tt σ H λc H1=>if c=true then QB true H1 else tu σ H1 QB):Kp tt tu σ H QB:=h
theorem zBQ(h:tt σ H λc H1=>QB (!c) H1):RU tt σ H QB:=h
theorem Yp(h:ta σ H λx H1=>∃c,x=.bl c/\if c=true then tb σ H1 Q else Q (.bl false) H1):MZ ta tb σ H Q:=h
theorem ZY(h:ta σ H λx H1=>∃c,x=.bl c/\Q (.bl (!c)) H1):I0 ta σ H Q:=h
theorem Zq(h:tt σ H λc H1=>if c=true then ta σ H1 Q else tb σ H1 Q):O6 tt ta tb σ H Q:=h
-- statements
theorem zBI(h:s1 {D with nx:=s2 D} σ H):Cu s1 s2 D σ H:=h
theorem zxT(h:D.nx σ H):PX D σ H:=h
theorem zAj(h:te σ H D.rt):Ac te D σ H:=h
theorem zA6(h:tt σ H λb H1=>if b=true then s1 D σ H1 else s2 D σ H1):Kd tt s1 s2 D σ H:=h
theorem zBO(h:te σ H λx H1=>g x σ H1 D.nx):oY te g D σ H:=h
theorem Y5(h:te σ H λ_ H1=>D.nx σ H1):OW te D σ H:=h
theorem zAs{i j:Nat}(h:t σ H λvs H1=>∃v w,vs=[v,w]/\D.nx ((σ.set i (some v)).set j (some w)) H1):Lv i j t D σ H:=h
theorem zxJ{i j:Nat}(q:QS ((σ.set i (some v)).set j (some w)) H):∃v' w',[v,w]=[v',w']/\QS ((σ.set i (some v')).set j (some w')) H:=⟨v,w,rfl,q⟩
-- targets
theorem Ee(q:QS (σ.set i (some v)) H):iH i v σ H QS:=q
theorem zyk(q:QS σ H):MT [] σ H QS:=⟨rfl,q⟩
theorem T1(q:g v σ H λσ' H'=>gs xs σ' H' QS):RW g gs (v::xs) σ H QS:=⟨v,xs,rfl,q⟩
theorem jj{a:wf}{n:Nat}(h:aF K H a xs)(e:xs.length=n)(q:gs xs σ H QS):je K n gs (.ref a) σ H QS:=⟨a,xs,rfl,h,e,q⟩
theorem zyT{tset:yo}(h:ta σ H λo H1=>tb σ H1 λi H2=>tset o i v H2 λH3=>QS σ H3):Rz ta tb tset v σ H QS:=h
theorem rE{p:wf}{k:Int}{j:Nat}(h:H p=some (.lst xs))(e:fR xs.length k=some j)(q:∀H',Exc p H H'->H' p=some (.lst (xs.set j v))->QH H'):Rw (.ref p) (.int k) v H QH :=
 ⟨p,xs,k,j,rfl,rfl,h,e,q _ (Exc.upd p H _) bW⟩
-- ints
theorem zBo{f:Int->Int->V}(q:Q (f m n) H):gH f (.int m) (.int n) H Q:=⟨m,n,rfl,rfl,q⟩
theorem kz{C:Int->Int->Prop}{f:Int->Int->V}(c:C m n)(q:Q (f m n) H):rI C f (.int m) (.int n) H Q:=⟨m,n,rfl,rfl,c,q⟩
theorem zCf{f:Int->V}(q:Q (f m) H):rU f (.int m) H Q:=⟨m,rfl,q⟩
theorem YA(q:Q (.int (m+n)) H):BL (.int m) (.int n) H Q:=.inl ⟨m,n,rfl,rfl,q⟩
theorem Mq{p b:wf}(h:H p=some (.lst xs))(k:H b=some (.lst ys))(z:xs.length+ys.length<=wY)
  (q:∀c H',H c=none->af H H'->H' c=some (.lst (xs++ys))->Q (.ref c) H'):BL (.ref p) (.ref b) H Q :=
 .inr (.inl ⟨p,b,xs,ys,rfl,rfl,h,k,z,λc hc=>q c _ hc (af.upd hc) bW⟩)
theorem zBR(q:Q (.int (if m<0 then -m else m)) H):Pa [.int m] H Q:=⟨m,rfl,q⟩
theorem LL{p:wf}(h:aF K H p xs)(q:Q (.int xs.length) H):bB K [.ref p] H Q:=⟨p,xs,rfl,.inr h,q⟩
theorem dU{p:wf}(h:aG K H p xs)(q:Q (.int xs.length) H):bB K [.ref p] H Q:=⟨p,xs,rfl,.inl h,q⟩
theorem Yw{b:Bool}(q:Q (.int (if b then 1 else 0)) H):Lr [.bl b] H Q:=.inr ⟨b,rfl,q⟩
-- comparisons
theorem zAL(q:Q (.bl (decide (v=.aZ))) H):M_ v .aZ H Q:=.inr ⟨rfl,q⟩
theorem zBe(q:Q (.bl (decide (m=n))) H):dW K (.int m) (.int n) H Q :=
 ⟨.int m,.int n,bN.mpr rfl,bN.mpr rfl,rfl,rfl,by
  have e:vn (.int m) (.int n)=decide (m=n):=by
   rw[vn,qG]
  rw[e];exact q⟩
theorem Yb(q:Q (.bl (!decide (m=n))) H):eA K (.int m) (.int n) H Q :=
 ⟨.int m,.int n,bN.mpr rfl,bN.mpr rfl,rfl,rfl,by
  have e:vn (.int m) (.int n)=decide (m=n):=by
   rw[vn,qG]
  rw[e];exact q⟩
theorem zi{d e:wq}(h:Is K H v d)(k:Is K H w e)(sd:WK d=true)(se:WK e=true)(q:Q (.bl (vn d e)) H):dW K v w H Q:=⟨d,e,h,k,sd,se,q⟩
theorem Nj{d e:wq}(h:Is K H v d)(k:Is K H w e)(sd:WK d=true)(se:WK e=true)(q:Q (.bl (!PyData.eqv d e)) H):eA K v w H Q:=⟨d,e,h,k,sd,se,q⟩
theorem zU{T:String}{d:wq}(h:Is K H v d)(e:qF K (.type (kindOf d)) (.type T)=some (isA T d))(q:Q (.bl (isA T d)) H):gC K [v,.ty T] H Q:=⟨v,T,d,_,rfl,h,e,q⟩
def gn:wq->Bool
 | .tuple _=>true
 | _=>false
def Dh:wq->Bool
 | .int _=>true
 | .bool _=>true
 | _=>false
def By:wq->Bool
 | .bool _=>true
 | _=>false
def fZ:wq->Bool
 | .list _=>true
 | _=>false
theorem RM{d:wq} : gn d=true ↔ ∃ds,d=.tuple ds:=by cases d<;>simp[gn]
theorem Lf{d:wq}(h:Is K H v d)(q:Q (.bl (gn d)) H):gC K [v,.ty "tuple"] H Q:=zU h (Zt d) (by have e:isA "tuple" d=gn d:=(by cases d<;>rfl);rw[e];exact q)
theorem zwU{d:wq}(h:Is K H v d)(q:Q (.bl (Dh d)) H):gC K [v,.ty "int"] H Q:=zU h (zy6 d) (by have e:isA "int" d=Dh d:=(by cases d<;>rfl);rw[e];exact q)
theorem Y3{d:wq}(h:Is K H v d)(q:Q (.bl (By d)) H):gC K [v,.ty "bool"] H Q:=zU h (zwQ d) (by have e:isA "bool" d=By d:=(by cases d<;>rfl);rw[e];exact q)
theorem Ea{d:wq}(h:Is K H v d)(q:Q (.bl (fZ d)) H):gC K [v,.ty "list"] H Q:=zU h (T_ d) (by have e:isA "list" d=fZ d:=(by cases d<;>rfl);rw[e];exact q)
theorem pB{p:wf}{m:Int}(h:aF K H p xs)(e:fL xs m=some v)(q:Q v H):bL K (.ref p) (.int m) H Q:=.inr (.inl ⟨p,xs,m,v,rfl,rfl,h,e,q⟩)
theorem iR{p:wf}{m:Int}(h:aG K H p xs)(e:fL xs m=some v)(q:Q v H):bL K (.ref p) (.int m) H Q:=.inl ⟨p,xs,m,v,rfl,rfl,h,e,q⟩
theorem KP{α : Type}{xs:List α}{m:Int}(h0:0<=m)(h1:m<xs.length):∃v,fL xs m=some v/\v∈xs:=by
 obtain⟨k,rfl⟩:∃k:Nat,m=(k:Int):=⟨m.toNat,by lia⟩;have l:k<xs.length:=by lia
 exact⟨xs[k],jZ (by simp[l]),vc l⟩
theorem yB{p:wf}{m:Int}(P:V->Prop)(h:aG K H p xs)(h0:0<=m)(h1:m<xs.length)(hP:∀x∈xs,P x)(q:∀x,P x->Q x H):bL K (.ref p) (.int m) H Q:=by
 obtain⟨x,e,hx⟩:=KP h0 h1;exact iR h e (q x (hP x hx))
theorem zyo{r:Rat}(h:Is K H v (N r))(q:Q (.int r.num) H):bL K v (.int 0) H Q:=by
 obtain⟨a,rfl,h'⟩:=o_.mp h;exact pB h' rfl q
theorem zyG{r:Rat}(h:Is K H v (N r))(q:Q (.int (r.den:Int)) H):bL K v (.int 1) H Q:=by
 obtain⟨a,rfl,h'⟩:=o_.mp h;exact pB h' rfl q
theorem bo{ds:List wq}{d:wq}{j:Nat}(h:Is K H v (.tuple ds))(e:ds[j]? = some d)(q:∀x,Is K H x d->Q x H):bL K v (.int (j:Int)) H Q:=by
 obtain⟨a,xs,rfl,h,t⟩:=bz.mp h;obtain⟨x,e1,hx⟩:=t.get e;exact pB h (jZ e1) (q x hx)
theorem mz{ds:List wq}(h:Is K H v (.tuple ds))(q:Q (.int ds.length) H):bB K [v] H Q:=by
 obtain⟨a,xs,rfl,h,t⟩:=bz.mp h;exact LL h (by rw[t.length];exact q)
theorem r_{ds:List wq}{n:Nat}(h:Is K H v (.tuple ds))(e:ds.length=n)(q:∀xs,ag K H xs ds->gs xs σ H QS):je K n gs v σ H QS:=by
 obtain⟨a,xs,rfl,h,t⟩:=bz.mp h;exact jj h (by rw[t.length];exact e) (q xs t)
theorem ku{α : Type}{l:List α}(h:l.length<=1000):l.length<=wY:=VX (jG h)
theorem kF(z:xs.length<=1000)(q:∀p H',H p=none->af H H'->H' p=some (.tup xs)->Q (.ref p) H'):ou K xs H Q:=⟨ku z,λp hp=>q p _ hp (af.upd hp) bW⟩
theorem iG(z:xs.length<=1000)(q:∀p H',H p=none->af H H'->H' p=some (.lst xs)->Q (.ref p) H'):zS K xs H Q:=⟨ku z,λp hp=>q p _ hp (af.upd hp) bW⟩
theorem cC{ds:List wq}(z:xs.length<=1000)(h:ag K H xs ds)(q:∀v H',af H H'->Is K H' v (.tuple ds)->Q v H'):ou K xs H Q :=
 kF z λp H' _ s e=>q _ H' s (bz.mpr ⟨p,xs,rfl,.of e,ag.same s ds xs h⟩)
theorem oR{r:Rat}(e1:m=r.num)(e2:n=(r.den:Int))(q:∀v H',af H H'->Is K H' v (N r)->Q v H'):ou K [.int m,.int n] H Q:=by
 subst e1 e2;exact kF (by show 2<=1000;decide) λp H' _ s e=>q _ H' s (o_.mpr ⟨p,rfl,.of e⟩)
-- tests
theorem zyl{p:Prop}[Decidable p]{A B:Prop}(h1:p->A)(h2:¬ p->B):if decide p=true then A else B:=by
 by_cases h:p
 ·rw[decide_eq_true h,if_pos rfl];exact h1 h
 ·rw[decide_eq_false h,if_neg vL];exact h2 h
theorem Tj{p:Prop}[Decidable p]{A B:Prop}(h1:¬ p->A)(h2:p->B):if(!decide p)=true then A else B:=by
 by_cases h:p
 ·rw[decide_eq_true h];exact mI (h2 h)
 ·rw[decide_eq_false h];exact j3 (h1 h)
theorem zyp{b:Bool}{A B:Prop}(h1:b=true->A)(h2:b=false->B):if b=true then A else B:=by
 cases b
 ·exact mI (h2 rfl)
 ·exact j3 (h1 rfl)
theorem zvQ{b:Bool}{A B:Prop}(h1:b=false->A)(h2:b=true->B):if(!b)=true then A else B:=by
 cases b
 ·exact j3 (h1 rfl)
 ·exact mI (h2 rfl)
end
section
variable{c:TT}{tb:TS}{D:bY}{σ : St}{H:Hp}
def JV(σ : St)(i:Nat):Int:=match σ[i]? with
 | some (some (.int y))=>y
 | _=>0
def OI(Pv:St->Hp->Prop)(μ : St->Nat)(tb:TS)(D:bY)(σ':St)(H1:Hp):Prop :=
 ∃M:St->Hp->Prop,(∀σ2 H2,M σ2 H2->∃m',m' < μ σ'/\(m' = μ σ2/\Pv σ2 H2))/\tb {D with nx:=M,ct:=M,bk:=D.nx} σ' H1
theorem Pz(Pv:St->Hp->Prop)(μ : St->Nat)(h0:Pv σ H)
  (hs:∀σ' H',Pv σ' H'->c σ' H' λb H1=>if b=true then OI Pv μ tb D σ' H1 else D.nx σ' H1):B2 c tb D σ H:=by
 refine⟨λm σ H=>m = μ σ /\ Pv σ H,⟨_,rfl,h0⟩,?_⟩;rintro m σ H ⟨rfl,p⟩;exact hs σ H p
theorem Kx{Pv:St->Hp->Prop}{μ : St->Nat}{σ':St}{H1:Hp}(h:tb {D with nx:=λσ2 H2=>μ σ2 < μ σ'/\Pv σ2 H2,ct:=λσ2 H2=>μ σ2 < μ σ'/\Pv σ2 H2,bk:=D.nx} σ' H1):OI Pv μ tb D σ' H1 :=
 ⟨_,λσ2 H2 q=>⟨_,q.1,rfl,q.2⟩,h⟩
def Oy(g:TG)(tb:TS)(D:bY)(σ : St)(vs:List V)(H1:Hp):Prop:=∃j:Int,vs=[.int j] /\ -(2^62)<=j/\j<2^62 /\
 ∃W:Nat->Nat->St->Hp->Prop,(∃m,W 0 m σ H1) /\ ∀i m σ H,W i m σ H ->
  ((fB 0 j.toNat).stop i H/\D.nx σ H)\/((fB 0 j.toNat).go i H /\ ∃M:St->Hp->Prop,(∀σ' H',M σ' H'->∃m',m'<m/\W (i+1) m' σ' H') /\ ∀x H',(fB 0 j.toNat).eI i H x H'->g x σ H' λσ2 H2=>tb {D with nx:=M,ct:=M,bk:=D.nx} σ2 H2)
theorem zx9{ta:TA}{g:TG}(h:ta σ H λvs H1=>Oy g tb D σ vs H1):jq (C4 ta) g tb D σ H:=h
theorem ki{g:TG}{n:Int}(h0 : -1000000000<=n)(h1:n<1000000000)(Pv:Nat->St->Hp->Prop)(p:Pv 0 σ H)
  (hs:∀(i:Nat) σ H,i<n.toNat->Pv i σ H->g (.int (i:Int)) σ H λσ2 H2=>tb {D with nx:=Pv (i+1),ct:=Pv (i+1),bk:=D.nx} σ2 H2)
  (hd:∀σ H,Pv n.toNat σ H->D.nx σ H):Oy g tb D σ [.int n] H:=by
 refine⟨n,rfl,by lia,by lia,Km (lo:=0) Pv p (λi σ H hi q=>?_) hd⟩;have e:(0:Int)+(i:Int)=(i:Int):=by lia
 rw[e];exact hs i σ H hi q
end
def Cc(K:wb)(g:TG)(tb:TS)(D:bY)(σ : St)(x:V)(H1:Hp):Prop:=∃a,x=.ref a/\(∃xs,aG K H1 a xs) /\
 ∃W:Nat->Nat->St->Hp->Prop,(∃m,W 0 m σ H1) /\ ∀i m σ H,W i m σ H ->
  ((iE K a).stop i H/\D.nx σ H)\/((iE K a).go i H /\ ∃M:St->Hp->Prop,(∀σ' H',M σ' H'->∃m',m'<m/\W (i+1) m' σ' H') /\ ∀x H',(iE K a).eI i H x H'->g x σ H' λσ2 H2=>tb {D with nx:=M,ct:=M,bk:=D.nx} σ2 H2)
def CO(K:wb)(g:TG)(tb:TS)(D:bY)(σ : St)(x:V)(H1:Hp):Prop:=∃a,x=.ref a/\(∃xs,aF K H1 a xs) /\
 ∃W:Nat->Nat->St->Hp->Prop,(∃m,W 0 m σ H1) /\ ∀i m σ H,W i m σ H ->
  ((iK K a).stop i H/\D.nx σ H)\/((iK K a).go i H /\ ∃M:St->Hp->Prop,(∀σ' H',M σ' H'->∃m',m'<m/\W (i+1) m' σ' H') /\ ∀x H',(iK K a).eI i H x H'->g x σ H' λσ2 H2=>tb {D with nx:=M,ct:=M,bk:=D.nx} σ2 H2)
section
variable{K:wb}{te:TE}{g:TG}{tb:TS}{D:bY}{σ : St}{H:Hp}{a:wf}{xs:List V}
theorem zyA(h:te σ H λx H1=>Cc K g tb D σ x H1):jq (zK K te) g tb D σ H:=h
theorem zxQ(h:te σ H λx H1=>CO K g tb D σ x H1):jq (rn K te) g tb D σ H:=h
theorem Am(hx:aG K H a xs)(Pv:Nat->St->Hp->Prop)(h0:Pv 0 σ H)(hl:∀i σ H,i<=xs.length->Pv i σ H->aG K H a xs)
  (hs:∀i x σ H,xs[i]? = some x->Pv i σ H->g x σ H λσ2 H2=>tb {D with nx:=Pv (i+1),ct:=Pv (i+1),bk:=D.nx} σ2 H2) (hd:∀σ H,Pv xs.length σ H->D.nx σ H):Cc K g tb D σ (.ref a) H :=
 ⟨a,rfl,⟨xs,hx⟩,Zd Pv h0 hl hs hd⟩
theorem CS(hx:aF K H a xs)(Pv:Nat->St->Hp->Prop)(h0:Pv 0 σ H)(hl:∀i σ H,i<=xs.length->Pv i σ H->aF K H a xs)
  (hs:∀i x σ H,xs[i]? = some x->Pv i σ H->g x σ H λσ2 H2=>tb {D with nx:=Pv (i+1),ct:=Pv (i+1),bk:=D.nx} σ2 H2) (hd:∀σ H,Pv xs.length σ H->D.nx σ H):CO K g tb D σ (.ref a) H :=
 ⟨a,rfl,⟨xs,hx⟩,zza Pv h0 hl hs hd⟩
end
theorem zBx{K:wb}{H:Hp}{a:wf}{xs:List V}(hO:zH H)(h:aG K H a xs):gG K H a xs:=by
 rcases h with(h | ⟨o,h⟩) | h
 ·rcases hO a with z | ⟨ob,ys,z⟩
  ·rw[h]at z;cases z
  ·rw[h]at z;cases z
 ·exact .inl ⟨o,h⟩
 ·exact .inr h
theorem zAA{K:wb}{H:Hp}{Q:VK}{a:wf}{ns:List Int}{m:Int}(h:gG K H a (ns.map V.int))(h0:0<=m)(h1:m<((ns.map V.int).length:Int))(q:∀z,Q (.int z) H):bL K (.ref a) (.int m) H Q:=by
 refine yB (λv=>∃z,v=.int z) h.sq h0 h1 (λx hx=>?_) (λx hx=>?_)
 ·obtain⟨z,_,rfl⟩:=wQ.mp hx
  exact⟨z,rfl⟩
 ·obtain⟨z,rfl⟩:=hx
  exact q z
section
variable{K:wb}{H H':Hp}{v:V}{d:wq}{a:wf}{xs:List V}{o:HO}
theorem af.back{H2:Hp}(b:af H' H2)(s:af H H'):af H H2:=s.trans b
theorem Is.by(s:af H H')(h:Is K H v d):Is K H' v d:=Is.same s d v h
theorem Is.nA(h:Is K H v d)(s:af H H'):Is K H' v d:=Is.same s d v h
theorem Is.ji{r:Rat}(s:aO H H')(h:Is K H v (N r)):Is K H' v (N r):=Is.keep s _ v (yA r) h
theorem Is.eX(s:aO H H')(i:bV d=true)(h:Is K H v d):Is K H' v d:=Is.keep s _ v i h
end
def dj(X:Cx)(N':List Str)(scope:Scope)(cl:List (Str × wf))(C:wf)(s₀ : wk)(H₀ : Hp)(fp:List wf)(pins:List (wf × Obj)):Cx where
 prog:=X.prog
 w:=X.w
 K:=X.K
 mg:=X.mg
 base:=X.base
 A:=X.A
 N:=N'
 s₀:=s₀
 H₀:=H₀
 env:=compEnvC scope cl C X.env
 outer:=X.stack
 stack:=X.stack
 ex:=fp
 fn:=λ_=>false
 calm:=X.calm
 pn:=X.pn++pins
 xe:=λ_ _=>False
structure L0(X:Cx)(scope:Scope)(cl:List (Str × wf)):Prop where
 jS:closureFor scope X.env=pure cl
 sub:∀x c,cl.lookup x=some c->X.env.cells.lookup x=some c
 has:∀x,((relabel scope X.env).names.lookup x=some .cell\/(relabel scope X.env).names.lookup x=some .free)->∃c,cl.lookup x=some c
def cF(src:List (Option Nat))(σ : St):St:=src.map λo=>match o with
 | none=>none
 | some j=>(σ[j]?).join
def Pe(X:Cx)(N':List Str)(src:List (Option Nat)):Prop :=
 N'.length=src.length /\ ∀(i j:Nat)(x:Str),N'[i]? = some x->src[i]? = some (some j)->X.N[j]? = some x/\X.env.scope.names.lookup x=some .cell
section
variable{X:Cx}{pins:List (wf × Obj)}{σ : St}{H:Hp}{s:wk}{N':List Str}{scope:Scope}{cl:List (Str × wf)}{src:List (Option Nat)}{fp:List wf}
theorem Inv.block{h₁ : wK}{tk:Nat}(I:Inv X pins σ H s)(hk:scope.kind=.function)(cok:L0 X scope cl)(sok:Pe X N' src)(hf:∀b∈fp,dE X pins H b)(hlt:∀b∈fp,b<s.heap.objs.size)
  (hns:h₁.Ns s.heap.objs.size λ_=>none) (old:∀b o,s.heap.get? b=some o->h₁.get? b=some o)
  (hvis:∀(i:Nat) x,N'[i]? = some x->src[i]? ≠ some none->(relabel scope X.env).names.lookup x=some .cell\/(relabel scope X.env).names.lookup x=some .free) :
  Inv (dj X N' scope cl s.heap.objs.size s H fp pins) [] (cF src σ) H {s with heap:=h₁,toks:=tk}:=by
 have hfr:H s.heap.objs.size=none:=I.aB.fresh (wu _)
 have j6:∀x c,cl.lookup x=some c->c<s.heap.objs.size:=λx c e=>by
  obtain⟨v,q⟩:=I.cell x c (cok.sub x c e);exact q.lt
 have fplt:∀b∈fp,b ∉ cZ X.stack:=λb hb z=>by
  obtain⟨_,f1,f2,_⟩:=hf b hb;exact(wE.mp (I.lP b z)).elim f1 f2
 refine⟨⟨I.ok.mod,?_,I.ok.glob,I.ok.blt,wu _,λx y c h1 h2=>?_,λx hx=>?_,λx c hx=>?_,I.ok.hd,I.ok.frames,.inl rfl,λb hb=>⟨?_,λx c e=>?_⟩,I.bs,Wi I.ok.gW I.sz,λb o e=>?_,fplt,I.stack,I.p5⟩,
  rfl,I.bare,Un.kept old,⟨_,hns,λi x v h1 h2 h3=>?_⟩,λx c e=>?_,hfr,λx c e=>?_,λp hp=>?_,I.aB.kept old,?_⟩
 ·show(relabel scope X.env).kind=.function
  exact hk
 ·exact I.ok.inj x y c (cok.sub x c h1) (cok.sub y c h2)
 ·exact cok.has x hx
 ·exact absurd (show false=true from hx) vL
 ·exact ve (hlt b hb)
 ·exact(hf b hb).2.2.2.2.1 x c (cok.sub x c e)
 ·intro hb
  obtain⟨_,_,_,f3,_⟩:=hf b hb;rcases f3 with z | z
  ·exact I.ok.jT b o e z
  ·exact absurd (vF (wF e) (Wi I.ok.gW z)) (qg _)
 ·-- a name of the frame around
  have hsrc:∃j,src[i]? = some (some j) /\ σ[j]? = some (some v):=by
   unfold cF at h2;rw[wz]at h2;cases q:src[i]? with
   | none=>rw[q]at h2;cases h2
   | some o =>
    rw[q]at h2;cases o with
    | none=>cases h2
    | some j =>
     refine⟨j,rfl,?_⟩;have h2':(σ[j]?).join=some v:=wV h2;cases q2 : σ[j]? with
     | none=>rw[q2]at h2';cases h2'
     | some z=>rw[q2]at h2';exact congrArg some h2'
  obtain⟨j,hj,hv⟩:=hsrc;obtain⟨hN,hc⟩:=sok.2 i j x h1 hj;obtain⟨m,_,hl⟩:=I.loc;obtain⟨u,ru,lk⟩:=hl j x v hN hv (.inr (.inl hc));refine⟨u,ru,.inr ⟨hvis i x h1 (by rw[hj];intro z;cases z),?_⟩⟩;rcases lk with⟨k,_⟩ | ⟨_,c,ec,hcell⟩
  ·have k':X.env.scope.names.lookup x=some .local:=k
   rw[hc]at k';cases k'
  ·obtain⟨c',ec'⟩:=cok.has x (hvis i x h1 (by rw[hj];intro z;cases z))
   have:=cok.sub x c' ec';rw[ec]at this;cases this;obtain⟨o,ho,hd⟩:=hcell;exact⟨c,ec',o,old c o ho,hd⟩
 ·obtain⟨v,o,ho,hd⟩:=I.cell x c (cok.sub x c e)
  exact⟨v,o,old c o ho,hd⟩
 ·exact I.fD x c (cok.sub x c e)
 ·have hp':p∈(X.pn++pins)++[]:=hp
  rw[vT]at hp';obtain⟨e,n,ne,nf,d⟩:=I.pin p hp';refine⟨old _ _ e,n,ve (wF e),λz=>?_,d⟩;exact(wE.mp (I.lP p.1 z)).elim ne nf
 ·show(cF src σ).length=N'.length
  unfold cF;rw[wd,sok.1]
end
def pE:TT:=λ_ H Q=>Q true H
def mP(X:Cx)(ifs:List Expr)(t:TT):Prop :=
 ∀(pins:List (wf × Obj))(s:wk)(σ : St)(H:Hp)(Q:Bool->Hp->Prop),Inv X pins σ H s->t σ H Q ->
  wA (model X.prog X.w) X.A (forIn ifs true λc r=>if r=true then do let ok <- isTrue c X.env (eval c X.env);pure (ForInStep.yield ok)else pure (ForInStep.yield r)) (TP X pins σ Q) X.xe s
theorem cy{X:Cx} : mP X [] pE:=λ_ _ _ H _ I h=>wpAny_tests_nil ⟨H,I,h⟩
theorem gM{X:Cx}{c:Expr}{t:TT}(hc:PT X c t):mP X [c] t:=λpins s σ H Q I h=>wpAny_tests_one (hc pins s σ H Q I h)
section
variable{prog:wP}{w:wR}{A:vj}{R:Result->wk->Prop}{s:wk}
theorem zpb{elt target iter:Expr}{ifs:List Expr}{scope:Scope}{pos:Pos}{it acc:we}{env:Env}(I:Nat->wk->Prop)
   (turn:∀n s,I n s->wA (model prog w) A (pyNext it) (λr s₁=>match r with
     | none=>R (.ok .next) s₁
     | some v=>wA (model prog w) A (Qa target it v) (λ_ s₁'=>wA (model prog w) A (assign target env v) (λ_ s₂ =>
         wA (model prog w) A (forIn ifs true λc r=>if r=true then do let ok <- isTrue c env (eval c env);pure (ForInStep.yield ok)else pure (ForInStep.yield r)) (λok s₃ =>
           if ok=true then wA (model prog w) A (eval elt env) (λx s₄ =>
             wA (model prog w) A (call (.builtin "list.append") [acc,x]) (λ_ s₅=>∃m,m<n/\I m s₅) (λ_ _=>False) s₄) (λ_ _=>False) s₃
           else ∃m,m<n/\I m s₃) (λ_ _=>False) s₂) (λ_ _=>False) s₁') (λ_ _=>False) s₁) (λ_ _=>False) s)
   (n:Nat) (h:I n s):codeAny (model prog w) A (.compLoop (.ListComp elt [⟨target,iter,ifs,0⟩] scope pos) 0 it acc env) R s:=by
 refine codeAny_loop rfl I (λn s hI=>?_) n h
 show wA _ A ((compTurn (.ListComp elt [⟨target,iter,ifs,0⟩] scope pos) 0 it acc env).onRaise (λx=>do noteFrame x env;theTreesLotGoes x)) _ _ s
 refine wpAny_noted ?_;rw[compTurn_list];refine wg (wpAny_standAt (wg (WC (turn n s hI) (λr s₁ h₁=>?_) λ_ _ h'=>h'.elim)));cases r with
 | none=>exact wp h₁
 | some v =>
   refine wg (WC h₁ (λ_ s₁' h₁'=>?_) λ_ _ h'=>h'.elim);refine wg (WC h₁' (λ_ s₂ h₂=>wg (WC h₂ (λok s₃ h₃=>?_) λ_ _ h'=>h'.elim)) λ_ _ h'=>h'.elim);cases ok with
   | false=>exact wp ⟨rfl,h₃⟩
   | true=>exact wg (wg (WC h₃ (λx s₄ h₄=>wg (WC h₄ (λ_ s₅ h₅=>wp (wp ⟨rfl,h₅⟩)) λ_ _ h'=>h'.elim)) λ_ _ h'=>h'.elim))
end
def g9(g:TG)(tt:TT)(te:TE)(J:It)(D:wf)(σ0:St)(H0:Hp)(Q:Hp->Prop):Prop :=
 ∃W:Nat->Nat->St->Hp->Prop,(∃m,W 0 m σ0 H0) /\ ∀i m σ' H',W i m σ' H' ->
  (J.stop i H'/\Q H')\/(J.go i H' /\ ∃M:St->Hp->Prop,(∀σ2 H2,M σ2 H2->∃m',m'<m/\W (i+1) m' σ2 H2) /\
   ∀x H2,J.eI i H' x H2->g x σ' H2 λσ3 H3=>tt σ3 H3 λok H4=>if ok=true then te σ3 H4 λy H5=>∃ys,H5 D=some (.lst ys)/\ys.length<wY/\M σ3 (upd H5 D (.lst (ys++[y])))else M σ3 H4)
def hJ(src:List (Option Nat))(wi:TI)(g:TG)(tt:TT)(te:TE):TE:=λσ H Q=>wi σ H λJ H1=>∀D,H1 D=none->g9 g tt te J D (cF src σ) (upd H1 D (.lst [])) (λH'=>Q (.ref D) H')
structure MO(Y:Cx)(tg:Expr)(J:It)(fp:List wf)(it:wf)(tn:Nat->wK->Prop):Prop where
 item:∀(i:Nat)(pins:List (wf × Obj))(s:wk)(σ : St)(H:Hp)(E:we->wk->Prop),Inv Y pins σ H s->(∀b∈fp,dE Y pins H b)->tn i s.heap->J.go i H ->
   wA (model Y.prog Y.w) Y.A (pyNext (.ref it)) (λr s1=>∃u,r=some u/\wA (model Y.prog Y.w) Y.A (Qa tg (.ref it) u) (λ_ s2=>∃x H',Inv Y pins σ H' s2/\aT x u/\J.eI i H x H'/\tn (i+1) s2.heap /\ ∀b∈fp,H' b=none) E s1) E s
 done:∀(i:Nat)(pins:List (wf × Obj))(s:wk)(σ : St)(H:Hp)(E:we->wk->Prop),Inv Y pins σ H s->(∀b∈fp,dE Y pins H b)->tn i s.heap->J.stop i H ->
   wA (model Y.prog Y.w) Y.A (pyNext (.ref it)) (λr s1=>r=none/\Inv Y pins σ H s1) E s
theorem gX.Lm{P:wP}{w:wR}{K:wb}{tg:Expr}{J:It}{fp:List wf}{it:wf}{tn:Nat->wK->Prop}(T:gX P w K tg J fp it tn){Y:Cx}(h1:Y.prog=P)(h2:Y.w=w)(h3:Y.K=K)(hc:Y.calm=true):MO Y tg J fp it tn:=by
 subst h1 h2 h3;exact⟨T.item Y rfl rfl rfl hc,T.done Y rfl rfl rfl hc⟩
section
variable{X:Cx}{pins:List (wf × Obj)}{σ : St}{H:Hp}{s:wk}{N':List Str}{scope:Scope}{cl:List (Str × wf)}{src:List (Option Nat)}{elt tgt iter:Expr}{ifs:List Expr}{pos:Pos}{wi:TI}{g:TG}{tt:TT}{te:TE}
structure bc(X:Cx)(N':List Str)(scope:Scope)(cl:List (Str × wf))(src:List (Option Nat)):Prop where
 kind:scope.kind=.function
 cell:∀y∈scope.names,y.2≠.cell
 names:∀y∈scope.names,y.2=.local->scope.names.lookup y.1=some .local
 jS:L0 X scope cl
 SU:Pe X N' src
 CT:∀(i:Nat) x,N'[i]? = some x->src[i]? ≠ some none->(relabel scope X.env).names.lookup x=some .cell\/(relabel scope X.env).names.lookup x=some .free
theorem Jl{it:wf}{fp:List wf}{tn:Nat->wK->Prop}{J:It}{RQ:wf->Hp->Prop}{E:we->wk->Prop}{RR:we->wf->Result->wk->Prop}
   (TC:∀C s₀ H₀,MO (dj X N' scope cl C s₀ H₀ fp pins) tgt J fp it tn) (ok:bc X N' scope cl src)
   (hg:∀C s₀ H₀ fp pins,PG (dj X N' scope cl C s₀ H₀ fp pins) tgt g) (ht:∀C s₀ H₀ fp pins,mP (dj X N' scope cl C s₀ H₀ fp pins) ifs tt) (he:∀C s₀ H₀ fp pins,PE (dj X N' scope cl C s₀ H₀ fp pins) elt te)
   (I:Inv X pins σ H s) (T:gX X.prog X.w X.K tgt J fp it tn) (st:tn 0 s.heap) (hf:∀b∈fp,dE X pins H b)
   (rd:∀D,H D=none->g9 g tt te J D (cF src σ) (upd H D (.lst [])) (λH'=>RQ D H'))
   (hRR:∀D C H' s' m,Inv X pins σ H' s'->s'.heap.Ns C m->dE X pins H' C->RQ D H'->RR (.ref D) C (.ok .next) s') :
   wA (model X.prog X.w) X.A (newList []) (λacc s₃=>wA (model X.prog X.w) X.A (newFunctionEnv scope X.env.globals cl [] X.env.qual none .none (some X.env)) (λcenv s₄ =>
     codeAny (model X.prog X.w) X.A (.compStart (.ListComp elt [⟨tgt,iter,ifs,0⟩] scope pos) 0 (.ref it) acc {cenv with scope:=relabel scope X.env}) (RR acc cenv.locals) s₄) E s₃) E s:=by
 -- the list
 refine W1 ?_ (by show 0<=wY;exact Wg _);have hD:H s.heap.objs.size=none:=I.aB.fresh (wu _)
 have I3:Inv X pins σ (upd H s.heap.objs.size (.lst [])) {s with heap:=s.heap.push {cls:=.type "list",data:=.seq ([]:List we).toArray}} :=
   I.A8 (ys:=[]) (its:=[]) (t':=s.toks) .nil (Wg _)
 have old3:∀b o,s.heap.get? b=some o->(s.heap.push {cls:=.type "list",data:=.seq ([]:List we).toArray}).get? b=some o:=λb o e=>wj _ e
 have lt0:∀b∈fp,b<s.heap.objs.size:=λb hb=>by
   obtain⟨o,e,_⟩:=T.obj 0 _ st b hb;exact wF e
 have hf3:∀b∈fp,dE X pins (upd H s.heap.objs.size (.lst [])) b:=λb hb=>⟨by rw[cX (ve (lt0 b hb))];exact(hf b hb).1,(hf b hb).2⟩
 have lt3:∀b∈fp,b<(s.heap.push {cls:=.type "list",data:=.seq ([]:List we).toArray}).objs.size:=λb hb=>by
   rw[Wf];exact qy (lt0 b hb)
 have st3:tn 0 (s.heap.push {cls:=.type "list",data:=.seq ([]:List we).toArray}):=T.keep _ _ _ st λb _ o e=>old3 b o e
 obtain⟨W,⟨m0,w0⟩,turn⟩:=rd _ hD;generalize hs3:({s with heap:=s.heap.push {cls:=.type "list",data:=.seq ([]:List we).toArray}} : wk)=s3 at I3 ⊢;have hh3:s3.heap=s.heap.push {cls:=.type "list",data:=.seq ([]:List we).toArray}:=by rw[<- hs3]
 rw[<- hh3]at lt3 st3;clear old3 hs3 hh3;generalize hD':s.heap.objs.size=D at *
 -- the block's dict
 refine wpAny_newFunctionEnv ok.cell (by intro y hy;cases hy) (λh₁ hns₁ hsb₁=>?_) ok.kind;have old:∀b o,s3.heap.get? b=some o->h₁.get? b=some o:=λb o e=>hsb₁.extBut b o (ve (wF e)) (wj _ e)
 have hC:dE X pins (upd H D (.lst [])) s3.heap.objs.size:=I3.iq (wu _) (I3.aB.fresh (wu _))
 have IB:∀tk,Inv (dj X N' scope cl s3.heap.objs.size s3 (upd H D (.lst [])) fp pins) [] (cF src σ) (upd H D (.lst [])) {s3 with heap:=h₁,toks:=tk}:=λtk =>
   I3.block ok.kind ok.jS ok.SU hf3 lt3 hns₁ old ok.CT
 have stB:tn 0 h₁:=T.keep _ _ _ st3 λb _ o e=>old b o e
 -- what is true of the iterator's records within
 have stat:∀{H':Hp} ,(∀b∈fp,H' b=none)->∀b∈fp,dE (dj X N' scope cl s3.heap.objs.size s3 (upd H D (.lst [])) fp pins) [] H' b:=λhn b hb=>by
   obtain⟨_,f1,f2,f3,f4,f5⟩:=hf3 b hb;refine⟨hn b hb,ve (lt3 b hb),λz=>(wE.mp (I3.lP b z)).elim f1 f2,.inl hb,λx c e=>f4 x c (ok.jS.sub x c e),λp hp=>?_⟩;have hp':p∈(X.pn++pins)++[]:=hp;rw[vT]at hp';exact f5 p hp'
 -- from within back to the frame around
 have back:∀{σ':St}{H':Hp}{s':wk},Inv (dj X N' scope cl s3.heap.objs.size s3 (upd H D (.lst [])) fp pins) [] σ' H' s'->Inv X pins σ H' s'/\(∃m,s'.heap.Ns s3.heap.objs.size m)/\dE X pins H' s3.heap.objs.size:=λ{σ' H' s'} J=>by
   obtain⟨m,hn,_⟩:=J.loc;refine⟨I3.Iu (ch:=fp) J.os J.base J.aB J.bare (λb hb=>?_),⟨m,hn⟩,⟨J.free,hC.2⟩⟩;obtain⟨_,f1,_,f3,f4,f5⟩:=hf3 b hb;exact⟨f3,f1,f4,f5⟩
 have loop:∀tk,codeAny (model X.prog X.w) X.A (.compLoop (.ListComp elt [⟨tgt,iter,ifs,0⟩] scope pos) 0 (.ref it) (.ref D) (compEnvC scope cl s3.heap.objs.size X.env)) (RR (.ref D) s3.heap.objs.size) {s3 with heap:=h₁,toks:=tk}:=by
   intro tk
   refine zpb (λn s'=>∃i σ' H',Inv (dj X N' scope cl s3.heap.objs.size s3 (upd H D (.lst [])) fp pins) [] σ' H' s'/\tn i s'.heap/\(∀b∈fp,H' b=none)/\W i n σ' H') ?_ m0
     ⟨0,_,_,IB tk,stB,λb hb=>(hf3 b hb).1,w0⟩
   rintro n s4 ⟨i,σ4,H4,I4,st4,fr4,w4⟩;rcases turn i n σ4 H4 w4 with⟨stop,q⟩ | ⟨go,M,hM,step⟩
   . refine aE ((TC _ _ _).done i [] s4 σ4 H4 (λ_ _=>False) I4 (stat fr4) st4 stop) λr s5 ⟨hr,I5⟩=>?_
     subst hr;obtain⟨J,⟨m,hn⟩,hCf⟩:=back I5;exact hRR D _ H4 s5 m J hn hCf q
   . refine aE ((TC _ _ _).item i [] s4 σ4 H4 (λ_ _=>False) I4 (stat fr4) st4 go) λr s5 ⟨u,hr,h5⟩=>?_
     subst hr;refine aE h5 λ_ s6 ⟨x,H6,I6,r6,y6,st6,fr6⟩=>?_
     have I6':=I6.pinned (stat fr6) (T.obj _ _ st6)
     have again:∀{σ7:St}{H7:Hp}{s7:wk},Inv (dj X N' scope cl s3.heap.objs.size s3 (upd H D (.lst [])) fp pins) ([]++oQ fp s6.heap) σ7 H7 s7->M σ7 H7 ->
         ∃m,m<n /\ ∃i σ' H',Inv (dj X N' scope cl s3.heap.objs.size s3 (upd H D (.lst [])) fp pins) [] σ' H' s7/\tn i s7.heap/\(∀b∈fp,H' b=none)/\W i m σ' H':=λ{σ7 H7 s7} I7 n7=>by
       obtain⟨m',hm,w7⟩:=hM σ7 H7 n7;refine⟨m',hm,i+1,σ7,H7,I7.p4,T.keep _ _ _ st6 λb hb o e=>(I7.pin (b,o) (vX _ (vX _ (Ap hb e)))).1,λb hb=>?_,w7⟩;obtain⟨o,e,d⟩:=T.obj _ _ st6 b hb;exact(I7.pin (b,o) (vX _ (vX _ (Ap hb e)))).2.1
     refine aE (hg _ _ _ _ _ _ s6 σ4 H6 x u _ I6' r6 (step x H6 y6)) λ_ s7 ⟨σ7,H7,I7,q7⟩=>?_
     refine aE (ht _ _ _ _ _ _ s7 σ7 H7 _ I7 q7) λk s8 ⟨H8,I8,q8⟩=>?_
     cases k with
     | false=>exact again I8 q8
     | true =>
       rw[if_pos rfl]at q8 ⊢;refine aE (he _ _ _ _ _ _ s8 σ7 H8 _ I8 q8) λy s9 ⟨yv,H9,I9,r9,ys,hys,hz,q9⟩=>?_
       exact aE (hV _ s9 σ7 H9 (.ref D) [yv] (.ref D) [y] (λ_ H'=>M σ7 H') I9 rfl (.cons r9 .nil) ⟨D,ys,yv,rfl,rfl,hys,hz,q9⟩) λ_ s10 ⟨_,H10,I10,_,q10⟩=>again I10 q10
 exact codeAny_compStart_list (loop _) (T.self _ _ _ _ _ stB (loop _))
theorem cn(hc:X.calm=true)(ok:bc X N' scope cl src)(hi:PI X tgt iter wi)
  (hg:∀C s₀ H₀ fp pins,PG (dj X N' scope cl C s₀ H₀ fp pins) tgt g) (ht:∀C s₀ H₀ fp pins,mP (dj X N' scope cl C s₀ H₀ fp pins) ifs tt) (he:∀C s₀ H₀ fp pins,PE (dj X N' scope cl C s₀ H₀ fp pins) elt te)
  (hs:∀x,foldedSetIterable iter X.env x=pure x:=by intro _;rfl):PE X (.ListComp elt [⟨tgt,iter,ifs,0⟩] scope pos) (hJ src wi g tt te):=by
 intro pins s σ H Q I h;rw[eval_ListComp];refine wpAny_comprehension_free (use:=none) rfl hs ok.jS.jS ok.kind ok.names (aE (hi pins s σ H _ I h) λv s1 h1=>aE h1 λitv s2 h2=>?_);obtain⟨it,fp,tn,J,H2,e,I2,T,st2,f2,rd⟩:=h2;subst e;refine Jl (RQ:=λD H'=>Q (.ref D) H') (RR:=λacc C=>compPost (model X.prog X.w) X.A X.xe none (EP X pins σ Q) acc C) (λ_ _ _=>T.Lm rfl rfl rfl hc) ok hg ht he I2 T st2 f2 rd ?_;intro D C H' s' m J hn hC q;obtain⟨c0,c1,_,c3,c4,c5⟩:=hC;exact⟨m,hn,λh' sb=>⟨.ref D,H',J.turned (t':=s'.toks) (λb o hb e=>(sb.2 b hb).trans e) c0 c1 c3 c4 c5,rfl,q⟩⟩
theorem lh{i:Nat}{y:Str}{py spos:Pos}(hN:X.N.Nodup)(hy:X.N[i]? = some y)(hly:Loc X.env.scope y)(hc:X.calm=true)(ok:bc X N' scope cl src)(hi:PI X tgt iter wi)
  (hg:∀C s₀ H₀ fp pins,PG (dj X N' scope cl C s₀ H₀ fp pins) tgt g) (ht:∀C s₀ H₀ fp pins,mP (dj X N' scope cl C s₀ H₀ fp pins) ifs tt) (he:∀C s₀ H₀ fp pins,PE (dj X N' scope cl C s₀ H₀ fp pins) elt te)
  (hsw:swapsWith (.ListComp elt [⟨tgt,iter,ifs,0⟩] scope pos) (some (.Name y py)) spos.line X.env=pure true:=by rfl)
  (hs:∀x,foldedSetIterable iter X.env x=pure x:=by intro _;rfl) (hf:X.fn y=true\/X.env.scope.names.lookup y=some .local:=by first | exact .inl rfl | exact .inr rfl | assumption) :
  PS X (.Assign [.Name y py] (.ListComp elt [⟨tgt,iter,ifs,0⟩] scope pos) spos) (oY (hJ src wi g tt te) (iH i)):=by
 intro pins s σ H D0 I h;rw[exec_Assign_Name_used _ _ _ _ hsw];refine wg (wpAny_standAt (wg ?_))
 show wA _ X.A (do let _ <- comprehension (.ListComp elt [⟨tgt,iter,ifs,0⟩] scope pos) scope X.env _ (newList []) false (eval iter X.env) (some (assign (.Name y py) X.env))) _ _ s
 refine wg (WC (wpAny_comprehension_free (Q:=λ_ s'=>SP X pins D0 .next s') rfl hs ok.jS.jS ok.kind ok.names (aE (hi pins s σ H _ I h) λv s1 h1=>aE h1 λitv s2 h2=>?_))
  (λ_ s' hq=>wp (wp hq)) λ_ _ e=>e)
 obtain⟨it,fp,tn,J,H2,e,I2,T,st2,f2,rd⟩:=h2;subst e;refine Jl (RQ:=λD H'=>iH i (.ref D) σ H' D0.nx) (RR:=λacc C=>compPost (model X.prog X.w) X.A X.xe (some (assign (.Name y py) X.env)) (λ_ s'=>SP X pins D0 .next s') acc C) (λ_ _ _=>T.Lm rfl rfl rfl hc) ok hg ht he I2 T st2 f2 rd ?_;intro D C H' s' m J hn hC q;obtain⟨c0,c1,_,c3,c4,c5⟩:=hC
 show wA _ _ (assign (.Name y py) X.env (.ref D)) _ _ s'
 refine wpAny_assign_Name (Mz J hN hy hly (v:=.ref D) rfl (λs'' J2 ⟨a,sb,ha⟩=>?_) hf)
 have hCa:C≠a:=by
  rcases ha with z | z
  ·rw[z];exact c1
  ·exact(c4 y a z).symm
 exact⟨m,hn.sameBut sb hCa,λh' sb'=>⟨_,H',J2.turned (t':=s''.toks) (λb o hb e=>(sb'.2 b hb).trans e) c0 c1 c3 c4 c5,q⟩⟩
end
abbrev Nm(h B:wK)(e:wf)(cls:we):Prop :=
 ∃oe vs,h.get? e=some oe/\oe.cls=cls/\oe.data=.fields vs/\vs[1]? = some .none/\vs[2]? = some .none/\oe.dict=none/\B.get? e=none
abbrev Lx(h B:wK)(e:wf)(cls fl:we):Prop :=
 ∃oe vs T oT ts,h.get? e=some oe/\oe.cls=cls/\oe.data=.fields vs/\vs[1]? = some (.ref T)/\vs[2]? = some .none/\oe.dict=none/\B.get? e=none/\B.get? T=none/\T≠e/\h.get? T=some oT/\oT.data=.fields ts/\ts[3]? = some fl
structure eK(B:wK)(l:List Env)(e:wf)(cls fl:we)(h:wK):Prop where
 st:B.StaysIn h
 fr:h.FunFrames B l
 tr:Lx h B e cls fl
theorem zqk{f:Array we->Array we}(o:Obj):(QG f o).dict=o.dict:=by
 obtain⟨c,d,dt,sl⟩:=o;cases dt<;>rfl
theorem kY{h:wK}{T:wf}{f:Obj->Obj}{b:wf}(n:b≠T):(h.update T f).get? b=h.get? b:=QD _ _ (Wz n)
theorem mh{h:wK}{T b:wf}{oT o:Obj}{ts:Array we}(hT:h.get? T=some oT)(dT:oT.data=.fields ts)(hb:h.get? b=some o)(hn:∀vs,o.data≠.fields vs):b≠T:=by
 rintro rfl;rw[hT]at hb;cases hb;exact hn _ dT
theorem DC{B:wK}{T b:wf}{o:Obj}(n:B.get? T=none)(q:B.get? b=some o):b≠T:=by
 rintro rfl;rw[n]at q;cases q
section
variable{M:Model}{A:vj}{E:we->wk->Prop}{s:wk}{B:wK}{l outer:List Env}{env:Env}{L e:wf}{cls fl:we}{Q:Unit->wk->Prop}
theorem eK.land(F:eK B l e cls fl s.heap)(k:∀h',eK B l e cls .none h'->s.heap.UpToSlots h'->Q () {s with heap:=h'}):wA M A (setFlight (.ref e) none) Q E s:=by
 obtain⟨st,fr,oe,vs,T,oT,ts,he,hc,hd,h1,h2,hdi,be,bT,ne,hT,dT,h3⟩:=F;have sz:3<ts.size:=(Vh.mp h3).1;unfold setFlight;refine wg (Wa he hd h1 ?_);rw[if_pos (by simp)];have at3:∀b,b≠T->(s.heap.update T (QG (·.setIfInBounds 3 Value.none))).get? b=s.heap.get? b:=λb n=>kY n
 have tr:Lx (s.heap.update T (QG (·.setIfInBounds 3 Value.none))) B e cls .none :=
  ⟨oe,vs,T,QG (·.setIfInBounds 3 Value.none) oT,ts.setIfInBounds 3 Value.none,(at3 e ne.symm).trans he,hc,hd,h1,h2,hdi,be,bT,ne,
   VA _ hT (qH (qk dT _)),qk dT _,by simp[sz]⟩
 refine wpAny_setField hT dT sz (k _ ⟨λb o q=>(at3 b (DC bT q)).trans (st b o q),fr.of_keeps λb o hb hn=>⟨o,(at3 b (mh hT dT hb hn)).trans hb,rfl⟩,tr⟩ λb o hb hn=>⟨o.slots,(at3 b (mh hT dT hb hn)).trans hb⟩)
theorem KD{oe:Obj}{vs:Array we}{head:we}{had:Bool}(hfr:A.frames=some (env::outer))(hf:env.frame=some L)(st:B.StaysIn s.heap)(fr:s.heap.FunFrames B (env::outer))(he:s.heap.get? e=some oe)
  (hd:oe.data=.fields vs) (sz:1<vs.size) (h2:vs[2]? = some .none) (hdi:oe.dict=none) (be:B.get? e=none) (k:∀h',eK B (env::outer) e oe.cls (V7 L) h'->s.heap.UpToSlots h'->Q () {s with heap:=h'}) :
  wA M A (do let a <- frameOf env;let pl <- entryPlaceOf L had;let b <- XR head a .none (V7 L) .none pl;setField (.ref e) 1 b) Q E s:=by
 have nfr:e ∉ (env::outer).filterMap (·.frame):=λz=>by
  obtain⟨_,o,ho,hnf⟩:=fr.mem z;rw[he]at ho;cases ho;exact hnf vs hd
 refine wg (wpAny_frameOf_fun hfr fr hf λg sg=>wg (wpAny_entryPlaceOf λpl hpl=>?_));unfold XR newFields;refine wg (W1 ?_ (hpl.sizeOk5 _ _ _ _ _));have eg:g.get? e=some oe:=(sg.2.1 e nfr).trans he
 have stg:B.StaysIn g:=λb o q=>by
  rw[sg.2.1 b λz=>?_]
  ·exact st b o q
  ·rw[(fr.mem z).1]at q;cases q
 generalize hob:({cls:=.type "traceback",data:=.fields ([head,.ref L,.none,V7 L,.none]++(if pl.isEmpty then wm 6 Value.none else pl)).toArray} : Obj)=tb;have dtb:tb.data=.fields ([head,.ref L,.none,V7 L,.none]++(if pl.isEmpty then wm 6 Value.none else pl)).toArray:=by rw[<- hob]
 have ftb:tb.isFreed=false:=qH dtb;have e2:=wj (h:=g) tb eg;have neT:g.objs.size≠e:=Wb (wF eg)
 have at3:∀b o,b≠e->g.get? b=some o->((g.push tb).update e (QG (·.setIfInBounds 1 (.ref g.objs.size)))).get? b=some o:=λb o n q=>by
  rw[kY n];exact wj _ q
 refine wpAny_setField e2 hd sz (k _ ?_ ?_)
 ·have d3:=qk hd (·.setIfInBounds 1 (Value.ref g.objs.size))
  refine⟨λb o q=>at3 b o (DC be q) (stg b o q),fr.of_keeps λb o hb hn=>?_,_,_,g.objs.size,tb,_,VA _ e2 (qH d3),uC _ _,d3,by simp[sz],?_,?_,be,stg.fresh,neT,?_,dtb,?_⟩
  ·obtain⟨sl,q⟩:=sg.2.2 b o hb
   exact⟨_,at3 b _ (mh he hd hb hn) q,rfl⟩
  ·rw[Array.getElem?_setIfInBounds_ne (by decide)];exact h2
  ·exact(zqk oe).trans hdi
  ·rw[kY neT];exact wC _ ftb
  ·first | (simp;done) | (rcases hpl with rfl | ⟨_,_,_,_,_,_,_,rfl⟩<;>simp)
 ·exact λb o hb hn=>by
   obtain⟨sl,q⟩:=sg.2.2 b o hb;exact⟨sl,at3 b _ (mh he hd hb hn) q⟩
theorem zuz(hfr:A.frames=some (env::outer))(hf:env.frame=some L)(st:B.StaysIn s.heap)(fr:s.heap.FunFrames B (env::outer))(t:Nm s.heap B e cls)
  (k:∀h',eK B (env::outer) e cls (V7 L) h'->s.heap.UpToSlots h'->Q () {s with heap:=h'}):wA M A (noteFrame (.ref e) env) Q E s:=by
 obtain⟨oe,vs,he,hc,hd,h1,h2,hdi,be⟩:=t;subst hc;unfold noteFrame;simp only[hf];refine wg (Wa he hd h1 ?_);rw[if_neg (by decide)];exact KD hfr hf st fr he hd (Vh.mp h1).1 h2 hdi be k
theorem eK.note(F:eK B (env::outer) e cls .none s.heap)(hfr:A.frames=some (env::outer))(hf:env.frame=some L)
  (k:∀h',eK B (env::outer) e cls (V7 L) h'->s.heap.UpToSlots h'->Q () {s with heap:=h'}):wA M A (noteFrame (.ref e) env) Q E s:=by
 obtain⟨st,fr,oe,vs,T,oT,ts,he,hc,hd,h1,h2,hdi,be,bT,ne,hT,dT,h3⟩:=F;subst hc;unfold noteFrame;simp only[hf];refine wg (Wa he hd h1 ?_);rw[if_pos (by simp)];refine wg (Wa hT dT h3 ?_);rw[if_neg (by simp[V7])];refine wg (wpAny_setField hT dT (Vh.mp h3).1 ?_);refine KD hfr hf (λb o q=>?_) (fr.of_keeps λb o hb hn=>⟨o,?_,rfl⟩) ?_ hd (Vh.mp h1).1 h2 hdi be λh' F' sm=>k h' F' λb o hb hn=>sm b o ?_ hn
 ·show(Xi _ _ _).get? b=_
  rw[kY (DC bT q)];exact st b o q
 ·show(Xi _ _ _).get? b=_
  rw[kY (mh hT dT hb hn)];exact hb
 ·show(Xi _ _ _).get? e=_
  rw[kY ne.symm];exact he
 ·show(Xi _ _ _).get? b=_
  rw[kY (mh hT dT hb hn)];exact hb
theorem zr3(hfr:A.frames=some (env::outer))(hf:env.frame=some L)(st:B.StaysIn s.heap)(fr:s.heap.FunFrames B (env::outer))(t:Nm s.heap B e cls)
  (k:∀h',eK B outer e cls .none h'->s.heap.UpToSlots h'->Q () {s with heap:=h'}):wA M A (leaving env (.ref e)) Q E s:=by
 unfold leaving;refine wg (zuz hfr hf st fr t λh1 F1 s1=>eK.land F1 λh2 F2 s2=>k h2 ⟨F2.st,F2.fr.2.2,F2.tr⟩ (s1.trans s2))
theorem eK.leave(F:eK B (env::outer) e cls .none s.heap)(hfr:A.frames=some (env::outer))(hf:env.frame=some L)
  (k:∀h',eK B outer e cls .none h'->s.heap.UpToSlots h'->Q () {s with heap:=h'}):wA M A (leaving env (.ref e)) Q E s:=by
 unfold leaving;refine wg (F.note hfr hf λh1 F1 s1=>eK.land F1 λh2 F2 s2=>k h2 ⟨F2.st,F2.fr.2.2,F2.tr⟩ (s1.trans s2))
end
theorem cz.there{P:wP}{w:wR}{H:Hp}{h:wK}{a:wf}{o:HO}(x:cz P w H h a o):∃u,h.get? a=some u:=by
 cases o with
 | lst xs=>obtain⟨_,_,_,_,e⟩:=x;exact⟨_,e⟩
 | tup xs=>obtain⟨_,_,_,_,e,_⟩:=x;exact⟨_,e⟩
 | dK kvs=>obtain⟨_,_,_,_,o,_,_,e,_⟩:=x;exact⟨_,e⟩
 | dT kvs=>obtain⟨_,_,_,_,o,_,_,e,_⟩:=x;exact⟨_,e⟩
 | set S n=>obtain⟨o,_,_,_,e,_⟩:=x;exact⟨_,e⟩
 | ins C dx fs=>obtain⟨_,_,_,e,_⟩:=x;exact⟨_,e⟩
 | own y=>exact x
 | xd fs=>obtain⟨_,⟨_,_,_,e,_⟩,_⟩:=x;exact⟨_,e⟩
 | rM lo hi=>obtain⟨_,_,_,e⟩:=x;exact⟨_,e⟩
 | fc ob u=>obtain⟨e,_⟩:=x;exact⟨_,e⟩
 | j5 ps=>exact⟨_,x⟩
 | met f y=>exact⟨_,x⟩
 | ext φ=>obtain⟨_,e,_⟩:=x;exact e
structure lU(B:wK)(fs:List wf)(H H':Hp)(h:wK):Prop where
 gN:∀a o,H' a=some o->∃u,B.get? a=some u
 old:∀b o,h.get? b=some o->H b=none->b ∉ fs->B.get? b=some o
 oM:∀b o,h.get? b=some o->b ∉ fs->∃u,B.get? b=some u
def dy(P:wP)(w:wR):fm:=λouter H s E e s'=>∃(ex:wf)(C:we)(H':Hp)(B:wK),e=.ref ex/\s'.os=s.os/\AllBare s'.gens/\Un (cZ outer) [] H H' s.heap s'.heap/\cH P w H' s'.heap /\
 eK B outer ex C .none s'.heap/\lU B (cZ outer) H H' s.heap/\E C none H'
section
variable{B h h1 h':wK}{fs:List wf}{H H':Hp}{P:wP}{w:wR}
theorem lU.un(ov:lU B fs H H' h)(un:Un fs [] H H' h h1)(hfs:∀b∈fs,H b=none /\ ∃o,h.get? b=some o /\ ∀vs,o.data≠.fields vs)(st:B.StaysIn h')(sm:h1.UpToSlots h'):Un fs [] H H' h h':=by
 have slot:∀b o,h.get? b=some o->b∈fs->∃sl,h'.get? b=some {o with slots:=sl}:=λb o e hb=>by
  obtain⟨n,o',ho',nr⟩:=hfs b hb;rw[e]at ho';cases ho';obtain⟨sl,e1⟩:=un.any e n (by simp);obtain⟨sl2,e2⟩:=sm b _ e1 nr;exact⟨sl2,e2⟩
 refine⟨λb o e n nf _=>st b o (ov.old b o e n nf),λb o e _ hb _=>slot b o e hb,un.free,λb o e _=>?_,un.gE,un.gk,un.gF⟩
 by_cases hb:b∈fs
 ·obtain⟨sl,e1⟩:=slot b o e hb
  exact⟨_,e1⟩
 ·obtain⟨u,e1⟩:=ov.oM b o e hb
  exact⟨u,st b u e1⟩
theorem lU.aB(ov:lU B fs H H' h)(aB:cH P w H' h1)(st1:B.StaysIn h1)(st:B.StaysIn h'):cH P w H' h':=λa o e=>by
 refine(aB a o e).jR (λb u hb r=>?_) (λ_ z=>z) λ_ _ z=>z
 have:∃v,B.get? b=some v:=by
  rcases hb with rfl | hb
  ·exact ov.gN _ _ e
  ·exact ov.gN _ _ hb
 obtain⟨v,ev⟩:=this;have e2:=st1 b v ev;rw[r]at e2;cases e2;exact st b u ev
end
section
variable{X:Cx}{pins:List (wf × Obj)}{σ : St}{H H':Hp}{s s':wk}{B:wK}{ex:wf}{C:we}{E:XK}{E':we->wk->Prop}
theorem Js(I:Inv X pins σ H s)(hx:X.ex=[])(os:s'.os=s.os)(bare:AllBare s'.gens)(un:Un (cZ X.stack) [] H H' s.heap s'.heap)(aB:cH X.prog X.w H' s'.heap)(stB:B.StaysIn s'.heap)(ov:lU B (cZ X.stack) H H' s.heap)
  (q:E C none H') (fly:∀(Q:Unit->wk->Prop),(∀h',eK B X.outer ex C .none h'->s'.heap.UpToSlots h'->Q () {s' with heap:=h'})->wA (model X.prog X.w) X.A (leaving X.env (.ref ex)) Q E' s') :
  wA (model X.prog X.w) X.A (leaving X.env (.ref ex)) (λ_ s''=>dy X.prog X.w X.outer X.H₀ X.s₀ E (.ref ex) s'') E' s':=by
 have base:Un X.fs [] X.H₀ H X.s₀.heap s.heap:=by have:=I.base;rwa[hx]at this
 have nL:∀b o,X.s₀.heap.get? b=some o->b ∉ X.fs->b ∉ cZ X.stack:=λb o e n z=>by
  rcases wE.mp (I.lP b z)with r | r
  ·exact ve (vF (wF e) I.ok.above) r
  ·exact n r
 have old:∀b o,X.s₀.heap.get? b=some o->X.H₀ b=none->b ∉ X.fs->B.get? b=some o:=λb o e n nf =>
  ov.old b o (base.keep b o e n nf (by simp)) (base.free b o e n (by simp)) (nL b o e nf)
 have oM:∀b o,X.s₀.heap.get? b=some o->b ∉ X.fs->∃u,B.get? b=some u:=λb o e nf=>by
  obtain⟨o',e1⟩:=base.there b o e (by simp);exact ov.oM b o' e1 (nL b o e nf)
 refine fly _ λh' F sm=>⟨ex,C,H',B,rfl,os.trans I.os,bare,⟨λb o e n nf _=>F.st b o (old b o e n nf),λb o e n hb _=>?_,λb o e n _=>?_,λb o e _=>?_,λb xs e=>un.gE b xs (base.gE b xs e),
  λb o u e=>un.gk b o u (base.gk b o u e),λb ps e=>?_⟩,λa o e=>?_,F,⟨ov.gN,old,oM⟩,q⟩
 ·obtain⟨sl,e1⟩:=base.slot b o e n hb (by simp)
  obtain⟨sl',e2⟩:=un.any e1 (base.free b o e n (by simp)) (by simp);obtain⟨_,o',ho',nr⟩:=I.ok.eC.mem hb;rw[e]at ho';cases ho';obtain⟨sl2,e3⟩:=sm b _ e2 nr;exact⟨sl2,e3⟩
 ·obtain⟨o',e1⟩:=base.there b o e (by simp)
  exact un.free b o' e1 (base.free b o e n (by simp)) (by simp)
 ·by_cases hb:b∈X.fs
  ·obtain⟨_,o',ho',nr⟩:=I.ok.eC.mem hb
   rw[e]at ho';cases ho';have n:X.H₀ b=none:=I.ok.jc b hb;obtain⟨sl,e1⟩:=base.slot b o e n hb (by simp);obtain⟨sl',e2⟩:=un.any e1 (base.free b o e n (by simp)) (by simp);obtain⟨sl2,e3⟩:=sm b _ e2 nr;exact⟨_,e3⟩
  ·obtain⟨u,e1⟩:=oM b o e hb
   exact⟨u,F.st b u e1⟩
 ·obtain⟨m1,e1⟩:=base.gF b ps e
  obtain⟨m2,e2⟩:=un.gF b _ e1;exact⟨m1++m2,by rw[e2,XW]⟩
 ·refine(aB a o e).jR (λb u hb r=>?_) (λ_ z=>z) λ_ _ z=>z
  have:∃v,B.get? b=some v:=by
   rcases hb with rfl | hb
   ·exact ov.gN _ _ e
   ·exact ov.gN _ _ hb
  obtain⟨v,ev⟩:=this;have e2:=stB b v ev;rw[r]at e2;cases e2;exact F.st b u ev
theorem zuL{e:we}(I:Inv X pins σ H s)(hx:X.ex=[])(hs:X.stack=X.env::X.outer)(hf:X.env.frame=some X.env.locals)(h:dy X.prog X.w X.stack H s E e s') :
  wA (model X.prog X.w) X.A (leaving X.env e) (λ_ s''=>dy X.prog X.w X.outer X.H₀ X.s₀ E e s'') E' s':=by
 obtain⟨ex,C,H',B,rfl,os,bare,un,aB,F,ov,q⟩:=h;rw[hs]at F;exact Js I hx os bare un aB F.st ov q λQ k=>F.leave (I.ok.frames.trans (congrArg some hs)) hf k
theorem zrU{h':wK}{vs:List we}(I:Inv X pins σ H s)(hx:X.ex=[])(hs:X.stack=X.env::X.outer)(hf:X.env.frame=some X.env.locals)(m:Uw s.heap h' ex C vs)(q:E C none H) :
  wA (model X.prog X.w) X.A (leaving X.env (.ref ex)) (λ_ s''=>dy X.prog X.w X.outer X.H₀ X.s₀ E (.ref ex) s'') E' {s with heap:=h'}:=by
 obtain⟨B,hB⟩:∃B,B=u8 s.heap (cZ X.stack):=⟨_,rfl⟩;have hin:∀env∈X.stack,∀b,env.frame=some b->b∈cZ X.stack:=λenv he b hb=>Qd.mpr ⟨env,he,hb⟩
 have frB:s.heap.FunFrames B X.stack:=by rw[hB];exact PySem.W.funFrames_hide I.stack hin
 have getB:∀{b o},s.heap.get? b=some o->b ∉ cZ X.stack->B.get? b=some o:=λe n=>by rw[hB];exact XO _ e n
 have ofB:∀{b o},B.get? b=some o->s.heap.get? b=some o:=λr=>by rw[hB]at r;exact XV _ r
 have nfr:∀a o,H a=some o->a ∉ cZ X.stack:=λa o e z=>by
  have:=I.p5 a z;rw[e]at this;cases this
 obtain⟨t,he,_,_⟩:=m.there
 refine Js (B:=B) (s':={s with heap:=h'}) I hx rfl I.bare (Un.kept m.keeps) (I.aB.kept m.keeps) (λb o r=>m.keeps b o (ofB r))
  ⟨λa o e=>?_,λb o e _ nf=>getB e nf,λb o e nf=>⟨o,getB e nf⟩⟩ q λQ k=>?_
 ·obtain⟨u,e1⟩:=(I.aB a o e).there
  exact⟨u,getB e1 (nfr a o e)⟩
 ·rw[hs]at frB
  refine zr3 (s:={s with heap:=h'}) (I.ok.frames.trans (congrArg some hs)) hf (λb o r=>m.keeps b o (ofB r)) (frB.of_keeps λb o hb _=>⟨o,m.keeps b o hb,rfl⟩) ⟨_,_,he,rfl,rfl,rfl,rfl,rfl,?_⟩ k;cases z:B.get? ex with
  | none=>rfl
  | some o =>
   have:=ofB z;rw[m.new]at this;cases this
end
theorem IU{P:wP}{w:wR}{K:wb}{mg:Str->Option we}{base:wK}{N:List Str}{qual:Str}{scope:Scope}{f:wf}{cd:we}{A:vj}{outer:List Env}{s:wk}{H:Hp}{E:XK} :
  mX (dy P w) (gO (dy P w) P w K mg base N qual scope f cd A outer s H E) E:=λpins σ H1 s1 e s' I h=>zuL I rfl rfl rfl h
def Jh(X:Cx)(C:we)(E:XK):Prop:=∀(pins:List (wf × Obj))(σ : St)(H:Hp)(s:wk)(h':wK)(ex:wf)(vs:List we),Inv X pins σ H s->Uw s.heap h' ex C vs->E C none H->X.xe (.ref ex) {s with heap:=h'}
theorem iU{P:wP}{w:wR}{K:wb}{mg:Str->Option we}{base:wK}{N:List Str}{qual:Str}{scope:Scope}{f:wf}{cd C:we}{A:vj}{outer:List Env}{s:wk}{H:Hp}{E:XK} :
  Jh (gO (dy P w) P w K mg base N qual scope f cd A outer s H E) C E:=λpins σ H1 s1 h' ex vs I m q=>zrU I rfl rfl rfl m q
def jo:List we:=[.type "ValueError",.type "Exception",.type "BaseException",.type "object"]
theorem zy9{K:wb}{h:wK}{C:wf}{bmB:List we}{newId:String}(X:K.In h)(q:W5 K C bmB newId=true) :
  ∃bm N nm qn bs hd sn sub ab col dd k0 k1 k2 k3 k5 mN,h.get? C=some (excClassObj nm qn C N bs bm hd sn sub ab col dd k0 k1 k2 k3 k5 newId)/\h.Ns N mN/\mN "__init__"=none/\OwnTail h bmB bm:=by
 unfold W5 at q
 split at q
 case h_2=>cases q
 rename_i dd cd sl ho
 split at q
 case h_2=>cases q
 rename_i C' bm k0 k1 k2 k3 n k5 hm hs;simp only[vf,beq_iff_eq,W0]at q;obtain⟨⟨⟨⟨⟨rfl,rfl⟩,hdel⟩,ht⟩,aB⟩,hni⟩:=q;obtain⟨nm,bs,mro,ns,qn,hd,sn,sub,ab,col,del⟩:=cd;dsimp only at hm hdel aB hni;subst hm hdel
 have e:sl = #[k0,k1,k2,k3,some (.builtin n),k5]:=by
  cases sl;simp only at hs;rw[hs]
 subst e;exact⟨bm,ns,nm,qn,bs,hd,sn,sub,ab,col,dd,k0,k1,k2,k3,k5,_,X _ _ ho,.of_isNs (PySem.W.isNs_of_in X aB),PySem.W.nsMap_none_of_in X aB hni,PySem.W.tail_of_in X ht⟩
section
variable{X:Cx}{x:Str}{C:wf}{E:XK}{e:Expr}{es:List Expr}{t:TA}{np cpos pos:Pos}
def LF(C:we)(E:XK)(t:TA):TS:=λ_ σ H=>t σ H λvs H1=>vs.length<=wY/\E C none H1
theorem iY(q:W5 X.K C jo "ValueError.__new__"=true)(hc:X.calm=true)(hg:Gl X x)(hm:X.mg x=some (.ref C))(Z:Jh X (.ref C) E)(ha:PA X (e::es) t)(hdb:(x == ("__debug__" : Str))=false:=by decide)
  (he:vg (e::es) X.env=(false,eval e X.env)::vg es X.env:=by rfl) (hpl:(Vn cpos (vg es X.env)).any (·.1)=false:=by rfl) :
  PS X (.Raise (some (.Call (.Name x np) (e::es) [] cpos)) none pos) (LF (.ref C) E t):=by
 intro pins s σ H D I h;obtain⟨bm,N,nm,qn,bs,hd,sn,sub,ab,col,dd,k0,k1,k2,k3,k5,mN,hC,hN,hni,T⟩:=zy9 I.ok.mod.pO q
 refine wpAny_Raise_call_subU (C:=C) (nm:=nm) (q:=qn) (N:=N) (bs:=bs) (bm:=bm) (hdct:=hd) (sn:=sn) (sub:=sub) (ab:=ab) (col:=col) (dd:=dd) (k0:=k0) (k1:=k1) (k2:=k2) (k3:=k3) (k5:=k5)
  XA (by decide) XA (mN:=mN) (T.hasType (by decide)) (I.ok.hd hc) (by rw[he];show(false || (Vn cpos (vg es X.env)).any (·.1))=false;rw[hpl];rfl) hni (nF I hg hm ⟨rfl,?_⟩ hdb)
 have ha':=ha cpos pins s σ H _ I h;rw[he]at ha' ⊢;refine Xy (WC ha' (λus s2 ⟨vs,H2,I2,r,z,q2⟩=>⟨rfl,by rw[<- r.length];exact z,I2.bk _ _ hC,hN.keeps I2.bk,T.keeps I2.bk,λh' ex m=>Z pins σ H2 s2 h' ex us I2 m q2⟩) λ_ _ y=>y)
end
abbrev Cx.at(X:Cx)(pn:List (wf × Obj))(E:we->wk->Prop):Cx:={X with pn:=pn,xe:=E}
abbrev Cx.rg(X:Cx)(pn:List (wf × Obj))(ex:wf)(oe:Obj):Cx:={X with pn:=pn++[(ex,oe)],xe:=λ_ _=>False,A:=X.A.mark (some (.ref ex)),calm:=false}
section
variable{X:Cx}{pins pins':List (wf × Obj)}{σ : St}{H:Hp}{s:wk}{ex:wf}{oe:Obj}
theorem Inv.SR(I:Inv X pins σ H s)(E:we->wk->Prop):Inv (X.at (X.pn++pins) E) [] σ H s :=
 ⟨⟨I.ok.mod,I.ok.kind,I.ok.glob,I.ok.blt,I.ok.above,I.ok.inj,I.ok.has,I.ok.j_,I.ok.hd,I.ok.frames,I.ok.kE,I.ok.oo,I.ok.bs,I.ok.gW,I.ok.jT,I.ok.kr,I.ok.eC,I.ok.jc⟩,I.os,I.bare,I.base,I.loc,I.cell,I.free,I.fD,
  λp hp=>I.pin p (by rw[vT]at hp;exact hp),I.aB,I.len⟩
theorem Inv.nC{E:we->wk->Prop}(I:Inv (X.at (X.pn++pins) E) pins' σ H s):Inv X pins σ H s :=
 ⟨⟨I.ok.mod,I.ok.kind,I.ok.glob,I.ok.blt,I.ok.above,I.ok.inj,I.ok.has,I.ok.j_,I.ok.hd,I.ok.frames,I.ok.kE,I.ok.oo,I.ok.bs,I.ok.gW,I.ok.jT,I.ok.kr,I.ok.eC,I.ok.jc⟩,I.os,I.bare,I.base,I.loc,I.cell,I.free,I.fD,
  λp hp=>I.pin p (WJ _ hp),I.aB,I.len⟩
theorem Inv.SM(I:Inv X pins σ H s)(he:s.heap.get? ex=some oe)(hn:H ex=none)(nl:ex≠X.env.locals)(nf:ex ∉ X.fs)(nc:∀v,oe.data≠.cell v):Inv (X.rg (X.pn++pins) ex oe) [] σ H s :=
 ⟨⟨I.ok.mod,I.ok.kind,I.ok.glob,I.ok.blt,I.ok.above,I.ok.inj,I.ok.has,I.ok.j_,λz=>Bool.noConfusion z,I.ok.frames,I.ok.kE,I.ok.oo,I.ok.bs,I.ok.gW,I.ok.jT,I.ok.kr,I.ok.eC,I.ok.jc⟩,I.os,I.bare,I.base,I.loc,I.cell,I.free,I.fD,
  λp hp=>by
   rw[vT]at hp;rcases vR.mp hp with z | z
   ·exact I.pin p z
   ·cases vv.mp z
    exact⟨he,hn,nl,nf,nc⟩,I.aB,I.len⟩
theorem Inv.q_(ok:X.Ok)(I:Inv (X.rg (X.pn++pins) ex oe) pins' σ H s):Inv X pins σ H s :=
 ⟨ok,I.os,I.bare,I.base,I.loc,I.cell,I.free,I.fD,λp hp=>I.pin p (WJ _ (WJ _ hp)),I.aB,I.len⟩
end
def M3(CX:fm)(X:Cx)(W:St->XK):Prop:=∀(pins:List (wf × Obj))(σ : St)(H:Hp)(s:wk)(e:we)(s':wk),Inv X pins σ H s->CX X.stack H s (W σ) e s'->X.xe e s'
def Eb(sp:Sp)(W:St->XK)(t:TA):TE:=λσ H Q=>t σ H λvs H1=>sp vs H1 Q (W σ)
section
variable{X:Cx}{CX:fm}{k:Nat}{f:wf}{fd:wJ}{ps:List Str}{sp:Sp}{W:St->XK}{x:Str}{p pos:Pos}{e:Expr}{es:List Expr}{t:TA}
theorem zw0(F:aM X.prog X.w X.K X.mg X.base CX k f fd ps sp)(hr:dw k X.A)(hg:Gl X x)(hm:X.mg x=some (.ref f))(hk:VS X.K (.ref f)=true)(hb:kK X.K fd ps [])(hx:M3 CX X W)
  (ha:PA X (e::es) t) (hdb:(x == ("__debug__" : Str))=false:=by decide) (he:vg (e::es) X.env=(false,eval e X.env)::vg es X.env:=by rfl) (hpl:(Vn pos (vg es X.env)).any (·.1)=false:=by rfl) :
  PE X (.Call (.Name x p) (e::es) [] pos) (Eb sp W t):=by
 intro pins s σ H Q I h;refine qm (nF I hg hm ?_ hdb);refine XY (h₀:=X.base) I.ok.mod.pO hk (aE (ha pos pins s σ H _ I h) λus s1 ⟨vs,H1,I1,r,q⟩=>⟨I1.de,?_⟩) he hpl;have hl:us.length=ps.length:=by rw[<- r.length];exact F.len _ _ _ _ q
 have hbd:BindsTo s1 fd ⟨us,[]⟩ (ps.zip us):=by simpa using hb s1 us I1.de (by simpa using hl)
 refine wpAny_call (V8 (F.run X.A X.stack s1 H1 ⟨us,[]⟩ us vs Q (W σ) hr I1.Iz hbd r q) λr s' hq=>?_);cases r with
 | error e=>exact hx pins σ H1 s1 e s' I1 hq
 | ok fl =>
  cases fl with
  | ret u=>exact I1.after hq
  | next=>exact Vg hq
  | brk=>exact Vg hq
  | cont=>exact Vg hq
end
structure CK(C:we)(oe:Obj):Prop where
 cls:oe.cls=C
 fld:∃vs,oe.data=.fields vs/\vs[2]? = some .none
 dict:oe.dict=none
section
variable{X:Cx}{x n:Str}{G:we}{i:Nat}{b₀ : vD}{body suite:List vD}{np hpos pos:Pos}{tb:(St->XK)->TS}{th:wf->we->TS}
end
structure zB9(k:Nat)(A:vj):Prop where
 dp:A.depth+3*k+5<recursionLimit
 un:A.units+16*k+200<WV
structure zC7(P:wP)(w:wR)(K:wb)(mg:Str->Option we)(base:wK)(k:Nat)(f:wf)(fd:wJ)(ps:List Str)(sp:wf->we->Sp):Prop where
 len:∀ex C vs H Q E,sp ex C vs H Q E->vs.length=ps.length
 run:∀(A:vj)(outer:List Env)(s:wk)(H:Hp)(args:Args)(us:List we)(vs:List V)(Q:VK)(E:XK)(ex:wf)(C:we)(oe:Obj),zB9 k A->A.handled=some (.ref ex)->s.heap.get? ex=some oe->CK C oe->H ex=none->ex ∉ cZ outer ->
   pJ P w K mg base A outer s H->BindsTo s fd args (ps.zip us)->aI vs us->sp ex C vs H Q E->codeAny (model P w) A (.call (.ref f) args) (CR aR outer P w H s Q E) s
structure Hd(X:Cx)(ex:wf)(C:we)(oe:Obj):Prop where
 hd:X.A.handled=some (.ref ex)
 pn:(ex,oe)∈X.pn
 ob:CK C oe
section
variable{P:wP}{w:wR}{K:wb}{mg:Str->Option we}{base:wK}
end
section
variable{X:Cx}{k:Nat}{f:wf}{fd:wJ}{ps:List Str}{sp:wf->we->Sp}{x:Str}{p pos:Pos}{e:Expr}{es:List Expr}{t:TA}{ex:wf}{C:we}{oe:Obj}
end
def gc(cells:List (Str × wf)):List (Str × W4)->List (Str × wf)->List (Str × wf)
 | [],acc=>acc
 | (n,k)::r,acc=>gc cells r (if(k == NameKind.free)=true then(n,(cells.lookup n).getD 0)::acc else acc)
theorem Z8{scope:Scope}{env:Env}(h:∀y∈scope.names,y.2=.free->∃c,env.cells.lookup y.1=some c):closureFor scope env=pure (gc env.cells scope.names []):=by
 unfold closureFor;generalize scope.names=names at h
 suffices g:∀(names:List (Str × W4))(acc:List (Str × wf)),(∀y∈names,y.2=.free->∃c,env.cells.lookup y.1=some c) ->
     (forIn names acc λ(x:Str × W4)(r:List (Str × wf))=>if(x.2 == NameKind.free)=true then do let c <- cellOf env x.1;pure (ForInStep.yield ((x.1,c)::r))else pure (ForInStep.yield r):Sem (List (Str × wf)))=pure (gc env.cells names acc) by
   have:=g names [] h
   show(_ >>= pure)=_
   rw[bind_pure];exact this
 intro names
 induction names with
 | nil=>intro acc _;rfl
 | cons y r ih =>
   intro acc hy;obtain⟨n,k⟩:=y;rw[xZ]
   by_cases e:(k == NameKind.free)=true
   . obtain⟨c,hc⟩:=hy (n,k) wN (beq_iff_eq.mp e)
     have hcell:cellOf env n=pure c:=by
       unfold cellOf;rw[hc]
     simp only[e,if_true,hcell,pure_bind];rw[ih _ λz hz=>hy z (wI _ hz)]
     show _=pure (gc env.cells r _)
     simp only[e,if_true,hc,QI]
   . simp only[e,pure_bind]
     rw[if_neg (by simp),pure_bind];dsimp only;rw[ih _ λz hz=>hy z (wI _ hz)]
     show _=pure (gc env.cells r _)
     rw[if_neg e]
theorem Mv{cells:List (Str × wf)} : ∀(names:List (Str × W4))(acc:List (Str × wf))(x:Str)(c:wf),(∀y∈names,y.2=.free->∃c,cells.lookup y.1=some c)->(∀x c,acc.lookup x=some c->cells.lookup x=some c) ->
  (gc cells names acc).lookup x=some c->cells.lookup x=some c
 | [],acc,x,c,_,ha,h=>ha x c h
 | (n,k)::r,acc,x,c,hy,ha,h=>by
  unfold gc at h;refine Mv r _ x c (λz hz=>hy z (wI _ hz)) (λx' c' h'=>?_) h
  split at h'
  ·rename_i e
   obtain⟨c0,hc0⟩:=hy (n,k) wN (beq_iff_eq.mp e);rw[qN]at h'
   split at h'
   ·rename_i e2
    rw[beq_iff_eq.mp e2,hc0];rw[hc0]at h';exact h'
   ·exact ha x' c' h'
  ·exact ha x' c' h'
theorem Le{cells:List (Str × wf)} : ∀(names:List (Str × W4))(acc:List (Str × wf))(x:Str),(∃c,acc.lookup x=some c)->∃c,(gc cells names acc).lookup x=some c
 | [],acc,x,h=>h
 | (n,k)::r,acc,x,h=>by
  unfold gc;refine Le r _ x ?_
  split
  ·rw[qN]
   split
   ·exact⟨_,rfl⟩
   ·exact h
  ·exact h
theorem JK{cells:List (Str × wf)} : ∀(names:List (Str × W4))(acc:List (Str × wf))(x:Str),(x,NameKind.free)∈names->∃c,(gc cells names acc).lookup x=some c
 | [],acc,x,h=>nomatch h
 | (n,k)::r,acc,x,h=>by
  unfold gc;rcases wE.mp h with e | e
  ·cases e
   rw[if_pos (by decide)];refine Le r _ _ ?_;rw[qN];simp
  ·exact JK r _ x e
theorem NM(g:Str->W4->W4):∀(names:List (Str × W4))(x:Str),(names.map λy=>(y.1,g y.1 y.2)).lookup x=(names.lookup x).map (g x)
 | [],x=>rfl
 | (n,k)::r,x=>by
  rw[wZ,qN,qN];dsimp only
  by_cases e:(x == n)=true
  ·have e':=beq_iff_eq.mp e
   subst e';simp
  ·rw[Bool.not_eq_true]at e
   simp only[e];exact NM g r x
def sH(env:Env)(x:Str)(k:W4):W4:=if(k == .free&&env.scope.kind == .function&&env.kindOf x == some .cell)=true then .cell else k
theorem LX{scope:Scope}{env:Env}(x:Str):(relabel scope env).names.lookup x=(scope.names.lookup x).map (sH env x):=by
 rw[<- NM]
 show(scope.names.map _).lookup x=_
 congr 2
 funext ⟨n,k⟩
 dsimp only[sH]
 split<;>rfl
def bG(inner outer:List (Str × W4))(N N':List Str)(src:List (Option Nat)):Bool :=
 (inner.all λy=>(y.2 != .cell)&&(y.2 != .local || inner.lookup y.1 == some .local)&&(y.2 != .free || outer.lookup y.1 == some .cell)) &&
 (N'.length == src.length)&&((N'.zip src).all λp=>match p.2 with
  | none=>true
  | some j=>N[j]? == some p.1&&outer.lookup p.1 == some .cell&&inner.lookup p.1 == some .free)
theorem bc.by{X:Cx}{N':List Str}{scope:Scope}{src:List (Option Nat)}(hk:scope.kind=.function)(hc:bG scope.names X.env.scope.names X.N N' src=true)(hf:∀x,X.env.scope.names.lookup x=some .cell->∃c,X.env.cells.lookup x=some c:=by exact λx h=>Ex h) :
  bc X N' scope (gc X.env.cells scope.names []) src:=by
 unfold bG at hc;simp only[vf,WB,beq_iff_eq,Ui,bne_iff_ne,ne_eq]at hc;obtain⟨⟨h1,h2⟩,h3⟩:=hc;have fr:∀y∈scope.names,y.2=.free->∃c,X.env.cells.lookup y.1=some c:=λy hy e=>hf _ (((h1 y hy).2).elim (λz=>absurd e z) id)
 have at3:∀(i:Nat)(x:Str)(j:Nat),N'[i]? = some x->src[i]? = some (some j)->X.N[j]? = some x/\X.env.scope.names.lookup x=some .cell/\scope.names.lookup x=some .free:=λi x j e1 e2=>by
  have m:(x,some j)∈N'.zip src:=by
   rw[Xo];exact⟨i,by rw[List.getElem?_zip_eq_some];exact⟨e1,e2⟩⟩
  have:=h3 _ m;simp only[vf,beq_iff_eq]at this;exact⟨this.1.1,this.1.2,this.2⟩
 refine⟨hk,λy hy=>((h1 y hy).1).1,λy hy e=>(((h1 y hy).1).2).elim (λz=>absurd e z) id,⟨Z8 fr,λx c e=>Mv _ _ x c fr (λ_ _ z=>by simp at z) e,λx e=>?_⟩,⟨h2,λi j x e1 e2=>⟨(at3 i x j e1 e2).1,(at3 i x j e1 e2).2.1⟩⟩,λi x e1 e2=>?_⟩
 ·rw[LX]at e
  cases q:scope.names.lookup x with
  | none=>rw[q]at e;simp at e
  | some k =>
   have hm:=Vr q
   have hk:k=.free:=by
    rw[q]at e;simp only[Uj,Qv,sH]at e;have nc:k≠.cell:=((h1 _ hm).1).1;rcases e with e | e
    ·split at e
     ·rename_i z;simp only[vf,beq_iff_eq]at z;exact z.1.1
     ·exact absurd e nc
    ·split at e
     ·cases e
     ·exact e
   subst hk;exact JK _ _ x hm
 ·obtain⟨o,ho⟩:∃o,src[i]? = some o:=by
   have:i<src.length:=by rw[<- h2];exact(vk.mp e1).1
   exact⟨src[i],by simp[this]⟩
  cases o with
  | none=>exact absurd ho e2
  | some j =>
   have:=(at3 i x j e1 ho).2.2;rw[LX,this];simp only[Uj,Qv,sH]
   split
   ·exact .inl rfl
   ·exact .inr rfl
section
variable{prog:wP}{w:wR}{A:vj}{E:we->wk->Prop}{s:wk}
structure zC6(A:vj)(h:wK)(ex:wf):Prop where
 hd:A.handled=some (.ref ex)
 ob:∃oe vs,h.get? ex=some oe/\oe.data=.fields vs/\vs[2]? = some .none
end
section
variable{X:Cx}{ex:wf}{C:we}{oe:Obj}{pins:List (wf × Obj)}{σ : St}{H:Hp}{s:wk}{pos:Pos}
variable{tg l:Expr}{tl:TE}
variable{N':List Str}{scope:Scope}{cl:List (Str × wf)}{src:List (Option Nat)}{elt tgt iter:Expr}{ifs:List Expr}{wi:TI}{g:TG}{tt:TT}{te:TE}
end
structure zCZ(K:wb)(C:wf):Prop where
 ga:Vs K (.ref C) "__getattribute__"=some (some (.builtin "BaseException.__getattribute__"))
 gh:Vs K (.ref C) "__getattr__"=some none
 cl:(PySem.W.clsIn K C).isSome=true
 at_:Vs K (.ref C) "__class__"=some (some (.builtin "object.__class__"))
 gt:xz K (.builtin "object.__class__") "__get__"=some (some (.builtin "getset_descriptor.__get__"))
 tk:u9 K (.builtin "object.__class__")=some true
 mr:XG K C (.type "object")=some true
 be:XG K C (.type "BaseException")=some true
def lF(K:wb)(g:TG)(tt:TT)(te:TE)(src:List (Option Nat))(σ : St)(x:V)(H1:Hp)(Q:VK):Prop :=
 ∃a,x=.ref a/\(∃xs,aG K H1 a xs) /\ ∀D,H1 D=none->g9 g tt te (iE K a) D (cF src σ) (upd H1 D (.lst [])) (λH'=>Q (.ref D) H')
def m6(K:wb)(g:TG)(tt:TT)(te:TE)(src:List (Option Nat))(σ : St)(x:V)(H1:Hp)(Q:VK):Prop :=
 ∃a,x=.ref a/\(∃xs,aF K H1 a xs) /\ ∀D,H1 D=none->g9 g tt te (iK K a) D (cF src σ) (upd H1 D (.lst [])) (λH'=>Q (.ref D) H')
def BC(g:TG)(tt:TT)(te:TE)(src:List (Option Nat))(σ : St)(vs:List V)(H1:Hp)(Q:VK):Prop :=
 ∃j:Int,vs=[.int j] /\ -(2^62)<=j/\j<2^62 /\ ∀D,H1 D=none->g9 g tt te (fB 0 j.toNat) D (cF src σ) (upd H1 D (.lst [])) (λH'=>Q (.ref D) H')
section
variable{K:wb}{g:TG}{tt:TT}{te ta:TE}{tA:TA}{src:List (Option Nat)}{σ : St}{H:Hp}{Q:VK}{a:wf}{xs:List V}{n:Int}
theorem zu7(h:ta σ H λx H1=>lF K g tt te src σ x H1 Q):hJ src (zK K ta) g tt te σ H Q:=h
theorem zwM(h:ta σ H λx H1=>m6 K g tt te src σ x H1 Q):hJ src (rn K ta) g tt te σ H Q:=h
theorem zv4(h:tA σ H λvs H1=>BC g tt te src σ vs H1 Q):hJ src (C4 tA) g tt te σ H Q:=h
def nG(Pv:wf->Nat->List V->St->Hp->Prop)(D:wf)(i:Nat)(σ3:St)(y:V)(H5:Hp):Prop :=
 ∃ys,H5 D=some (.lst ys)/\ys.length<wY /\ ∃ys',Pv D (i+1) ys' σ3 (upd H5 D (.lst (ys++[y])))
def fG(Pv:wf->Nat->List V->St->Hp->Prop)(g:TG)(tt:TT)(te:TE)(D:wf)(i:Nat)(x:V)(σ':St)(H':Hp):Prop :=
 g x σ' H' λσ3 H3=>tt σ3 H3 λok H4=>if ok=true then te σ3 H4 λy H5=>nG Pv D i σ3 y H5 else ∃ys',Pv D (i+1) ys' σ3 H4
theorem dC{Pv:wf->Nat->List V->St->Hp->Prop}{D:wf}{i:Nat}{σ3:St}{y:V}{H5:Hp}{ys:List V}(h:H5 D=some (.lst ys))(z:ys.length<=1000)(q:∀H6,Exc D H5 H6->H6 D=some (.lst (ys++[y]))->Pv D (i+1) (ys++[y]) σ3 H6):nG Pv D i σ3 y H5 :=
 ⟨ys,h,jG z,_,q _ (Exc.upd D H5 _) bW⟩
theorem yD{J:It}{N:Nat}{D:wf}{σ0:St}{H0:Hp}{R:Hp->Prop}(Pv:wf->Nat->List V->St->Hp->Prop)(item:Nat->V->Prop)(h0:Pv D 0 [] σ0 H0)
  (stop:∀i ys σ' H',Pv D i ys σ' H'->N<=i->J.stop i H') (go:∀i ys σ' H',Pv D i ys σ' H'->i<N->J.go i H') (eI:∀i ys σ' H' x H2,Pv D i ys σ' H'->J.eI i H' x H2->H2=H'/\item i x)
  (hs:∀i x ys σ' H',i<N->item i x->Pv D i ys σ' H'->fG Pv g tt te D i x σ' H') (hd:∀ys σ' H',Pv D N ys σ' H'->R H'):g9 g tt te J D σ0 H0 R:=by
 refine⟨λi m σ' H'=>i+m=N /\ ∃ys,Pv D i ys σ' H',⟨N,by lia,[],h0⟩,?_⟩;rintro i m σ' H' ⟨him,ys,hp⟩
 by_cases hm:m=0
 ·subst hm
  have e:i=N:=by lia
  subst e;exact .inl ⟨stop _ _ _ _ hp (wu _),hd _ _ _ hp⟩
 ·refine .inr ⟨go _ _ _ _ hp (by lia),λσ2 H2=>∃ys,Pv D (i+1) ys σ2 H2,λσ2 H2 h=>⟨m-1,by lia,by lia,h⟩,λx H2 hy2=>?_⟩
  obtain⟨e,hit⟩:=eI _ _ _ _ _ _ hp hy2;subst e;exact hs i x ys σ' H2 (by lia) hit hp
theorem iF(hx:aG K H a xs)(Pv:wf->Nat->List V->St->Hp->Prop)(h0:∀D H',H D=none->af H H'->H' D=some (.lst [])->Pv D 0 [] (cF src σ) H')(hl:∀D i ys σ' H',Pv D i ys σ' H'->aG K H' a xs)
  (hs:∀D i x ys σ' H',xs[i]? = some x->Pv D i ys σ' H'->fG Pv g tt te D i x σ' H') (hd:∀D ys σ' H',Pv D xs.length ys σ' H'->Q (.ref D) H'):lF K g tt te src σ (.ref a) H Q:=by
 refine⟨a,rfl,⟨xs,hx⟩,λD hD=>yD (N:=xs.length) Pv (λi x=>xs[i]? = some x) (h0 D _ hD (af.upd hD) bW) (λi ys σ' H' hp hi=>⟨xs,hl _ _ _ _ _ hp,hi⟩) (λi ys σ' H' hp hi=>?_) (λi ys σ' H' x H2 hp hy=>?_)
  (λi x ys σ' H' _ hit hp=>hs D i x ys σ' H' hit hp) (hd D)⟩
 ·exact⟨xs,xs[i],hl _ _ _ _ _ hp,by simp[hi]⟩
 ·obtain⟨e,hy⟩:=hy
  exact⟨e,hy xs (hl _ _ _ _ _ hp)⟩
theorem CW(hx:aF K H a xs)(Pv:wf->Nat->List V->St->Hp->Prop)(h0:∀D H',H D=none->af H H'->H' D=some (.lst [])->Pv D 0 [] (cF src σ) H')(hl:∀D i ys σ' H',Pv D i ys σ' H'->aF K H' a xs)
  (hs:∀D i x ys σ' H',xs[i]? = some x->Pv D i ys σ' H'->fG Pv g tt te D i x σ' H') (hd:∀D ys σ' H',Pv D xs.length ys σ' H'->Q (.ref D) H'):m6 K g tt te src σ (.ref a) H Q:=by
 refine⟨a,rfl,⟨xs,hx⟩,λD hD=>yD (N:=xs.length) Pv (λi x=>xs[i]? = some x) (h0 D _ hD (af.upd hD) bW) (λi ys σ' H' hp hi=>⟨xs,hl _ _ _ _ _ hp,hi⟩) (λi ys σ' H' hp hi=>?_) (λi ys σ' H' x H2 hp hy=>?_)
  (λi x ys σ' H' _ hit hp=>hs D i x ys σ' H' hit hp) (hd D)⟩
 ·exact⟨xs,xs[i],hl _ _ _ _ _ hp,by simp[hi]⟩
 ·obtain⟨e,hy⟩:=hy
  exact⟨e,hy xs (hl _ _ _ _ _ hp)⟩
theorem kW(h0' : -1000000000<=n)(h1:n<1000000000)(Pv:wf->Nat->List V->St->Hp->Prop)(h0:∀D H',H D=none->af H H'->H' D=some (.lst [])->Pv D 0 [] (cF src σ) H')
  (hs:∀D (i:Nat) ys σ' H',i<n.toNat->Pv D i ys σ' H'->fG Pv g tt te D i (.int (i:Int)) σ' H') (hd:∀D ys σ' H',Pv D n.toNat ys σ' H'->Q (.ref D) H'):BC g tt te src σ [.int n] H Q:=by
 refine⟨n,rfl,by lia,by lia,λD hD=>yD (N:=n.toNat) Pv (λi x=>x=.int (i:Int)) (h0 D _ hD (af.upd hD) bW) (λi ys σ' H' hp hi=>hi) (λi ys σ' H' hp hi=>hi) (λi ys σ' H' x H2 hp hy=>?_)
  (λi x ys σ' H' hi hit hp=>?_) (hd D)⟩
 ·obtain⟨e,hy⟩:=hy
  exact⟨e,by rw[hy,Int.zero_add]⟩
 ·subst hit
  exact hs D i ys σ' H' hi hp
end
structure rq(u' u:TS):Prop where
 e:u'=u
theorem zxP{t u:TS}{D:bY}{σ : St}{H:Hp}(h:∀u',rq u' u->t {D with nx:=u' D} σ H):Cu t u D σ H:=h u ⟨rfl⟩
theorem rq.go{u' u:TS}{D:bY}{σ : St}{H:Hp}(e:rq u' u)(h:u D σ H):u' D σ H:=by rw[e.e];exact h
theorem kX{P:wP}{w:wR}{X:Cx} : mX (dy P w) X E0:=λ_ _ _ _ _ _ _ h=>by
 obtain⟨_,_,_,_,_,_,_,_,_,_,_,q⟩:=h;exact q.elim
theorem kg.lq{P:wP}{w:wR}{K:wb}{mg:Str->Option we}{base:wK}{x qual:Str}{st:vD}{f:wf}{fd:wJ}{N ps:List Str}{k:Nat}{sp:Sp}(F:kg K x qual st f fd)(S:aQ N ps (au st))(len:∀vs H Q E,sp vs H Q E->vs.length=ps.length)
  (hbody:∀(cdv:we)(A:vj)(outer:List Env)(s:wk)(H:Hp)(vs:List V)(Q:VK)(E:XK),dw k (A.deeper (envOfC qual (au st) s.heap.objs.size f cdv))->sp vs H Q E ->
   ∃t,fh (gO (dy P w) P w K mg base N qual (au st) f cdv A outer s H E) (kf st) t/\t {nx:=λ_ H'=>Q .aZ H',rt:=Q} (start N vs) H):aM P w K mg base (dy P w) (k+1) f fd ps sp:=by
 obtain⟨oc,od,kV,doc,pm,an,cdv,ct,osl,rfl,lk,hcd⟩:=F.ex;exact NQ lk hcd S len λA outer s H vs Q E hr hsp=>hbody cdv A outer s H vs Q E hr hsp
theorem zy8{X:Cx}{i j v:Int}{k1 k2:Nat}{p1 p2 pos:Pos}(hc:PJ i j)(hv:i^j.toNat=v):PE X (.BinOp (.Constant (.int i) k1 p1) .Pow (.Constant (.int j) k2 p2) pos) (tC (.int v)):=by
 subst hv;exact λpins s σ H Q I h=>(aK YO aC aC:PE X _ _) pins s σ H Q I ⟨i,j,rfl,rfl,hc,h⟩
theorem YT{α : Type}[DecidableEq α]{x : α}{A B:Prop}(h:B):if(!decide (x=x))=true then A else B:=by simpa using h
theorem zuY{α : Type}[DecidableEq α]{x : α}{A B:Prop}(h:A):if decide (x=x)=true then A else B:=by simpa using h
section
variable{K:wb}{σ : St}{H H':Hp}{Q:VK}{QB:Bool->Hp->Prop}{D:bY}{t:TA}{v w:V}{xs ys:List V}{m n:Int}{r:Rat}{p:wf}
theorem zB2{A B:Prop}(h:B):if(!true)=true then A else B:=by simpa using h
theorem zCv{A B:Prop}(h:A):if(!false)=true then A else B:=by simpa using h
theorem zyr{a b:V}(h:H p=some (.lst [a,b]))(h0:0<=m)(h1:m<2)(q:∀z,z=a\/z=b->Q z H):bL K (.ref p) (.int m) H Q :=
 yB (λz=>z=a\/z=b) (aG.of h) h0 (by simpa using h1) (by simp) q
theorem ZQ{a b:Int}(h:H p=some (.lst [.int a,.int b]))(h0:0<=m)(h1:m<2)(q:∀z,z=a\/z=b->Q (.int z) H):bL K (.ref p) (.int m) H Q :=
 zyr h h0 h1 λz hz=>by rcases hz with rfl | rfl;exact q _ (.inl rfl);exact q _ (.inr rfl)
theorem YX{a b c d:Int}(h:H p=some (.lst [.int a,.int b,.int c,.int d]))(h0:0<=m)(h1:m<4)(q:∀z,z=a\/z=b\/z=c\/z=d->Q (.int z) H):bL K (.ref p) (.int m) H Q:=by
 refine yB (λv=>∃z,v=.int z/\(z=a\/z=b\/z=c\/z=d)) (aG.of h) h0 (by simpa using h1) (λx hx=>?_) λx hx=>?_
 ·simp only[wE,WM,or_false]at hx
  rcases hx with rfl | rfl | rfl | rfl
  ·exact⟨_,rfl,by simp⟩
  ·exact⟨_,rfl,by simp⟩
  ·exact⟨_,rfl,by simp⟩
  ·exact⟨_,rfl,by simp⟩
 ·obtain⟨z,rfl,hz⟩:=hx
  exact q z hz
theorem zzg{a b c d e f:Int}(h:H p=some (.lst [.int a,.int b,.int c,.int d,.int e,.int f]))(h0:0<=m)(h1:m<6)(q:∀z,z=a\/z=b\/z=c\/z=d\/z=e\/z=f->Q (.int z) H):bL K (.ref p) (.int m) H Q:=by
 refine yB (λv=>∃z,v=.int z/\(z=a\/z=b\/z=c\/z=d\/z=e\/z=f)) (aG.of h) h0 (by simpa using h1) (λx hx=>?_) λx hx=>?_
 ·simp only[wE,WM,or_false]at hx
  rcases hx with rfl | rfl | rfl | rfl | rfl | rfl
  all_goals exact⟨_,rfl,by simp⟩
 ·obtain⟨z,rfl,hz⟩:=hx
  exact q z hz
theorem Dj(a b:Int):vn (.int a) (.int b)=decide (a=b):=by rw[vn,qG]
theorem zoa{x y:Rat}(h1:x.num=y.num)(h2:(x.den:Int)=y.den):x=y:=by
 have h2':x.den=y.den:=by lia
 exact Rat.ext h1 h2'
theorem CZ(x y:Rat):vn (N x) (N y)=decide (x=y):=by
 have e:vn (N x) (N y)=(decide (x.num=y.num)&&decide ((x.den:Int)=y.den)):=by
  simp only[N,vn,Ws,XN,qG]
 rw[e,WS,vf,decide_eq_true_eq,decide_eq_true_eq,decide_eq_true_eq]
 constructor
 ·rintro ⟨h1,h2⟩;exact zoa h1 h2
 ·rintro rfl;exact⟨rfl,rfl⟩
theorem Ly(x:Rat):WK (N x)=true:=by simp[N,WK,Vt,VJ,QV,QW]
theorem zAm{x y:Rat}(h:Is K H v (N x))(k:Is K H w (N y))(q:Q (.bl (decide (x=y))) H):dW K v w H Q:=zi h k (Ly x) (Ly y) (by rw[CZ];exact q)
end
theorem Br{X:Cx} : aJ X (wW .In) (eL X.K false):=Y4
theorem Eo{X:Cx} : aJ X (wW .NotIn) (eL X.K true):=YI
def R(a b:Rat):wq:=.tuple [N a,N b]
theorem Eg(a b:Rat):bV (R a b)=true:=by simp[R,bV,a_,yA]
structure gx(a b:Rat):Prop where
 a0:0<a
 a4:a<=4
 ad:a.den<=8
 b0:0<=b
 b1:b<=1
 bd:b.den<=12
 ab:1<=a+b
theorem gx.ba{a b:Rat}(h:gx a b):ai 10 a:=ai.small (c:=4) (d:=8) (qD h.a0) h.a4 h.ad (by decide) (by decide)
theorem gx.bb{a b:Rat}(h:gx a b):ai 10 b:=ai.small (c:=1) (d:=12) h.b0 h.b1 h.bd (by decide) (by decide)
section
variable{K:wb}{H:Hp}{Q:VK}{v:V}{a b:Rat}{σ : St}{gs:jK}{QS:St->Hp->Prop}
theorem ZO(h:Is K H v (R a b))(q:∀x,Is K H x (N a)->Q x H):bL K v (.int 0) H Q:=bo (j:=0) h rfl q
theorem zxR(h:Is K H v (R a b))(q:∀x,Is K H x (N b)->Q x H):bL K v (.int 1) H Q:=bo (j:=1) h rfl q
theorem Is.Iy{H':Hp}(h:Is K H v (R a b))(s:aO H H'):Is K H' v (R a b):=Is.keep s _ v (Eg a b) h
end
section
variable{K:wb}{H H' H2:Hp}{Q:VK}{v w:V}{a b c d:Rat}{D:wf}
theorem zu2(h:Is K H v (R a b))(q:Q (.bl true) H):gC K [v,.ty "tuple"] H Q:=Lf h q
theorem TX(h:Is K H v (R a b))(q:Q (.int 2) H):bB K [v] H Q:=mz h q
theorem af.grow(s:af H H')(n:H D=none)(e:Exc D H' H2):af H H2:=λb o h=>e b o (cW h n) (s b o h)
end
theorem NG{σ : St}{H:Hp}{Q:Bool->Hp->Prop}(q:Q true H):pE σ H Q:=q
theorem jJ{Pv:wf->Nat->List V->St->Hp->Prop}{g:TG}{tt:TT}{te:TE}{D:wf}{i:Nat}{x:V}{σ':St}{H':Hp}(h:g x σ' H' λσ3 H3=>tt σ3 H3 λok H4=>if ok=true then te σ3 H4 λy H5=>nG Pv D i σ3 y H5 else ∃ys',Pv D (i+1) ys' σ3 H4) :
  fG Pv g tt te D i x σ' H':=h
section
variable{K:wb}{σ : St}{H:Hp}{Q:VK}{E:XK}{D:bY}{t:TA}{C G:we}{i:Nat}{tb:(St->XK)->TS}{th:wf->we->TS}{sp:Sp}{W:St->XK}{ex C':wf}{b:Bool}
theorem zwS(h:t σ H λvs H1=>vs.length<=wY/\E C none H1):LF C E t D σ H:=h
theorem V_(h:t σ H λvs H1=>sp vs H1 Q (W σ)):Eb sp W t σ H Q:=h
end
theorem zt7(s:String):U0 (WW s)=true:=by
 rw[Str.ofString_eq_toList,U0];simp only[List.all_toArray,V3,WB,Function.comp,decide_eq_true_eq];intro c _;have:=c.valid;simp only[Char.toNat];rcases this with h | h
 ·have:c.val.toNat<0xd800:=h
  lia
 ·exact h.2
inductive Cw(K:wb)(H:Hp):List V->List (Str × Bool)->Prop
 | nil:Cw K H [] []
 | cons {x:V} {xs:List V} {w:Str} {b:Bool} {ws:List (Str × Bool)} : Is K H x (.tuple [.str w,.bool b])->Cw K H xs ws->Cw K H (x::xs) ((w,b)::ws)
theorem pF{K:wb}{H:Hp}{c:wf}{p q:Int}(r:Rat)(h:aF K H c [.int p,.int q])(e1:r.num=p)(e2:(r.den:Int)=q):Is K H (.ref c) (N r):=by
 subst e1 e2;exact bz.mpr ⟨c,_,rfl,h,ck.mpr ⟨_,_,rfl,bN.mpr rfl,ck.mpr ⟨_,_,rfl,bN.mpr rfl,dM.mpr rfl⟩⟩⟩
theorem NO(s:String):WK (.str (WW s))=true:=by
 simp[WK,Vt,QV,zt7]
theorem Pl(w:Str):vn (.str w) (.str w)=true:=by simp[vn]
inductive Bf(X:Cx):List Expr->List TE->Prop
 | nil:Bf X [] []
 | cons {e:Expr} {es:List Expr} {te:TE} {ts:List TE} : (∀env,vg (e::es) env=(false,eval e env)::vg es env)->PE X e te->Bf X es ts->Bf X (e::es) (te::ts)
theorem M0:∀{us:List we}{ns:List Int},qi us ns->aI (ns.map V.int) us
 | _,_,.nil=>.nil
 | _,_,.cons n t r=>.cons ⟨t,rfl⟩ (M0 r)
theorem yF:Wk "sorted"=some (.builtin "sorted"):=by decide +kernel
def rS(K:wb):List V->Hp->VK->Prop:=λxs H Q=>∃(p:wf)(ns:List Int),xs=[.ref p]/\aG K H p (ns.map V.int)/\ns.length<64 /\
 ∀(l:wf)(ms:List Int),H l=none->ms.Perm ns->ms.Pairwise (· <= ·)->Q (.ref l) (upd H l (.lst (ms.map V.int)))
theorem Nk{X:Cx} : ay X (.builtin "sorted") (rS X.K):=by
 intro pins s σ H xs us Q I r h;obtain⟨p,ns,rfl,hq,h64,q⟩:=h;obtain⟨u,rfl,rx⟩:=fC r;cases rx;obtain⟨its,r',pl,hz⟩:=I.list hq;have hlen:=r'.length;rw[wd]at hlen;refine sorted_ints pl.isList (yh r') (by lia) λout ns' a1 a2 a3=>?_
 obtain⟨e,he⟩:=sortedAll_at s.heap its out;have hl:=a2.length_eq
 have hsz:(ns'.map V.int).length<=wY:=by
  rw[wd];exact VX (jG (by lia))
 exact⟨.ref (s.heap.objs.size+1),_,I.laid (t':=s.toks) (λ_ _=>sortedAll_old) (Xh _) (show cz X.prog X.w _ _ _ (.lst (ns'.map V.int))from⟨hsz,out.toList,e,M0 a1,he⟩),rfl,q _ ns' (I.aB.fresh (Xh _)) a2 a3⟩
section
variable{K:wb}{H H' H2:Hp}{Q:VK}{R:Prop}{v w y:V}{p l:wf}{xs ys zs:List V}{ns:List Int}{m:Int}{σ : St}
theorem Lu(h:aG K H p (ns.map V.int))(h64:ns.length<64)(q:∀(l:wf)(H':Hp)(ms:List Int),H l=none->af H H'->H' l=some (.lst (ms.map V.int))->ms.Perm ns->ms.Pairwise (· <= ·)->Q (.ref l) H'):rS K [.ref p] H Q :=
 ⟨p,ns,rfl,h,h64,λl ms hl a b=>q l _ ms hl (af.upd hl) bW a b⟩
end
section
variable{K:wb}{H H' H2:Hp}{Q:VK}{R:Prop}{v w y:V}{p l:wf}{xs ys zs:List V}{ns:List Int}{m:Int}{σ : St}{to:TE}{t:TA}{T:String}{r:V->List V->Hp->VK->Prop}
theorem zCg(h:to σ H λx H1=>yT K T x H1/\t σ H1 λxs H2=>r x xs H2 Q):yq K T r to t σ H Q:=h
theorem fK(h:aG K H p xs)(q:R):yT K "list" (.ref p) H/\R:=⟨.inl ⟨rfl,xs,h⟩,q⟩
theorem jv(h:H l=some (.lst xs))(z:xs.length<=1000)(q:∀H',Exc l H H'->H' l=some (.lst (xs++[y]))->Q .aZ H'):Bo (.ref l) [y] H Q:=⟨l,xs,y,rfl,rfl,h,jG z,q _ (Exc.upd l H _) bW⟩
end
def bQ(K:wb):List V->Hp->VK->Prop:=λxs H Q=>∃p ys,xs=[.ref p]/\((aG K H p ys /\ ∀l,H l=none->Q (.ref l) (upd H l (.tup ys)))\/(aF K H p ys/\Q (.ref p) H))
def DG(K:wb):List V->Hp->VK->Prop:=λxs H Q=>∃p ys,xs=[.ref p]/\(aG K H p ys\/aF K H p ys) /\ ∀l,H l=none->Q (.ref l) (upd H l (.lst ys))
theorem cA{X:Cx} : ay X (.type "tuple") (bQ X.K):=ZH
theorem zri{X:Cx} : ay X (.type "list") (DG X.K):=Tg
def nE(K:wb):V->Option Int->Option Int->Hp->VK->Prop:=λx lo hi H Q=>Pb K x lo hi H Q\/KR K x lo hi H Q
theorem zZ{X:Cx} : j4 X (nE X.K):=Zu.or zBs
section
variable{K:wb}{H H' H2:Hp}{Q:VK}{QO:Option Int->Hp->Prop}{R:Prop}{v w y:V}{p l:wf}{xs ys zs:List V}{ds es:List wq}{m:Int}{σ : St}{te:TE}{tl th:TO}{r:V->Option Int->Option Int->Hp->VK->Prop}{lo hi:Option Int}
theorem gm(h:aG K H p ys)(q:∀l H',H l=none->af H H'->H' l=some (.tup ys)->Q (.ref l) H'):bQ K [.ref p] H Q:=⟨p,ys,rfl,.inl ⟨h,λl hl=>q l _ hl (af.upd hl) bW⟩⟩
theorem fj(h:Is K H v (.list ds))(q:∀w H',af H H'->Is K H' w (.tuple ds)->Q w H'):bQ K [v] H Q:=by
 obtain⟨a,xs,rfl,hs,t⟩:=aW.mp h;exact gm hs λl H' _ s e=>q _ H' s (bz.mpr ⟨l,xs,rfl,.of e,ag.same s ds xs t⟩)
theorem Ep(h:Is K H v (.tuple ds))(q:Q v H):bQ K [v] H Q:=by
 obtain⟨a,xs,rfl,hs,t⟩:=bz.mp h;exact⟨a,xs,rfl,.inr ⟨hs,q⟩⟩
theorem zuQ(h:Is K H v (.tuple ds))(q:∀l H' ys,H l=none->af H H'->H' l=some (.lst ys)->ag K H' ys ds->Q (.ref l) H'):DG K [v] H Q:=by
 obtain⟨a,xs,rfl,hs,t⟩:=bz.mp h;exact⟨a,xs,rfl,.inr hs,λl hl=>q l _ xs hl (af.upd hl) bW (ag.same (af.upd hl) ds xs t)⟩
theorem zvD(h:te σ H λx H1=>tl σ H1 λl H2=>th σ H2 λu H3=>r x l u H3 Q):NC r te tl th σ H Q:=h
theorem zuT(q:QO none H):LV σ H QO:=q
theorem Z2(h:te σ H λx H1=>∃i,x=.int i/\QO (some i) H1):MU te σ H QO:=h
theorem zvN{RI:Int->Prop}(q:RI m):∃i,V.int m=V.int i/\RI i:=⟨m,rfl,q⟩
def gf{α : Type}(xs:List α)(lo hi:Option Int):List α:=(xs.drop (HT.aV xs.length 0 lo)).take (HT.aV xs.length xs.length hi-HT.aV xs.length 0 lo)
theorem ag.take:∀{ds:List wq}{xs:List V}(n:Nat),ag K H xs ds->ag K H (xs.take n) (ds.take n)
 | _,_,0,h=>by simp[ag.nil]
 | [],_,n+1,h=>by rw[dM.mp h];simp[ag.nil]
 | d::ds,_,n+1,h=>by
  obtain⟨x,r,rfl,q,t⟩:=ck.mp h;rw[XS,XS];exact .cons q (ag.take n t)
theorem ag.drop:∀{ds:List wq}{xs:List V}(n:Nat),ag K H xs ds->ag K H (xs.drop n) (ds.drop n)
 | _,_,0,h=>by simpa using h
 | [],_,n+1,h=>by rw[dM.mp h];simp[ag.nil]
 | d::ds,_,n+1,h=>by
  obtain⟨x,r,rfl,q,t⟩:=ck.mp h;rw[Q4,Q4];exact ag.drop n t
theorem ag.cut(h:ag K H xs ds):ag K H (gK xs lo hi) (gf ds lo hi):=by
 unfold gK gf;rw[h.length];exact(h.drop _).take _
theorem El(h:aG K H p xs)(q:∀l H',H l=none->af H H'->H' l=some (.lst (gK xs lo hi))->Q (.ref l) H'):nE K (.ref p) lo hi H Q:=.inl ⟨p,xs,rfl,h,λl hl=>q l _ hl (af.upd hl) bW⟩
theorem TF(h:Is K H v (.list ds))(q:∀l H' ys,H l=none->af H H'->H' l=some (.lst ys)->ag K H' ys (gf ds lo hi)->Q (.ref l) H'):nE K v lo hi H Q:=by
 obtain⟨a,xs,rfl,hs,t⟩:=aW.mp h;exact El hs λl H' hl s e=>q l H' _ hl s e (ag.same s _ _ t.cut)
theorem Ki(h:Is K H v (.tuple ds))(hw:¬ (HT.aV ds.length 0 lo=0/\HT.aV ds.length ds.length hi=ds.length))(q:∀w H',af H H'->Is K H' w (.tuple (gf ds lo hi))->Q w H'):nE K v lo hi H Q:=by
 obtain⟨a,xs,rfl,hs,t⟩:=bz.mp h;refine .inr ⟨a,xs,rfl,hs,by rw[t.length];exact hw,λl hl=>q _ _ (af.upd hl) (bz.mpr ⟨l,_,rfl,.of bW,ag.same (af.upd hl) _ _ t.cut⟩)⟩
theorem Tt{α : Type}(xs:List α):gf xs (some 1) none=xs.tail:=by
 unfold gf
 show(xs.drop (min 1 xs.length)).take (xs.length-min 1 xs.length)=_
 cases xs with
 | nil=>rfl
 | cons x xs =>
  have e:min 1 (x::xs).length=1:=by rw[vA];lia
  rw[e,Q4,Ux,vA,X4,Wt,Uy]
end
def TN(xs:List Rat):wq:=.tuple (xs.map N)
def LN(xs:List Rat):wq:=.list (xs.map N)
theorem oH:∀xs:List Rat,a_ (xs.map N)=true
 | []=>by simp[a_]
 | x::xs=>by rw[wZ,a_,yA,oH xs];rfl
theorem II(xs:List Rat):bV (TN xs)=true:=by rw[TN,bV];exact oH xs
theorem MM:∀xs ys:List Rat,Ws (xs.map N) (ys.map N)=decide (xs=ys)
 | [],[]=>by simp[Ws]
 | [],y::ys=>by simp[Ws]
 | x::xs,[]=>by simp[Ws]
 | x::xs,y::ys=>by
  rw[wZ,wZ,Ws,CZ,MM xs ys,WS,vf,decide_eq_true_eq,decide_eq_true_eq,decide_eq_true_eq,Uk]
theorem zAX(xs ys:List Rat):vn (TN xs) (TN ys)=decide (xs=ys):=by
 unfold TN;rw[vn,MM]
section
variable{K:wb}{H H' H2:Hp}{Q:VK}{v w y:V}{p l:wf}{vs:List V}{xs ys:List Rat}{m:Int}{σ : St}
theorem Cs{i:Nat}(t:ag K H vs (xs.map N))(h:i<xs.length):∃x,vs[i]? = some x/\Is K H x (N (xs.getD i 0)):=by
 refine t.get ?_;rw[wz,wa,wc h]
 rfl
theorem kA{i:Nat}{x:V}(t:ag K H vs (xs.map N))(h:vs[i]? = some x):i<xs.length/\Is K H x (N (xs.getD i 0)):=by
 have hl:=t.length;rw[wd]at hl
 have hi:i<xs.length:=by
  rcases wT i vs.length with z | z
  ·lia
  ·rw[wX z]at h;cases h
 obtain⟨x',e,hx⟩:=Cs t hi;rw[h]at e;cases e;exact⟨hi,hx⟩
theorem OJ(h:Is K H v (TN xs))(h0:0<=m)(h1:m<xs.length)(q:∀x,Is K H x (N (xs.getD m.toNat 0))->Q x H):bL K v (.int m) H Q:=by
 obtain⟨a,vs,rfl,hs,t⟩:=bz.mp h;obtain⟨n,rfl⟩:∃n:Nat,m=(n:Int):=⟨m.toNat,by lia⟩;obtain⟨x,e,hx⟩:=Cs (i:=n) t (by lia);exact pB hs (jZ e) (q x hx)
theorem DA(h:Is K H v (LN xs))(h0:0<=m)(h1:m<xs.length)(q:∀x,Is K H x (N (xs.getD m.toNat 0))->Q x H):bL K v (.int m) H Q:=by
 obtain⟨a,vs,rfl,hs,t⟩:=aW.mp h;obtain⟨n,rfl⟩:∃n:Nat,m=(n:Int):=⟨m.toNat,by lia⟩;obtain⟨x,e,hx⟩:=Cs (i:=n) t (by lia);exact iR hs (jZ e) (q x hx)
theorem Cz(h:Is K H v (TN xs))(q:Q (.int xs.length) H):bB K [v] H Q:=mz h (by rw[wd];exact q)
theorem zwn(h:Is K H v (LN xs))(q:Q (.int xs.length) H):bB K [v] H Q:=by
 obtain⟨a,vs,rfl,hs,t⟩:=aW.mp h;have:=t.length;rw[wd]at this;exact dU hs (by rw[this];exact q)
theorem lG(h:H l=some (.lst vs))(t:ag K H vs (xs.map N)):Is K H (.ref l) (LN xs):=aW.mpr ⟨l,vs,rfl,.of h,t⟩
theorem nU:∀{xs:List Rat}{vs:List V},vs.length=xs.length->(∀i x,vs[i]? = some x->Is K H x (N (xs.getD i 0)))->ag K H vs (xs.map N)
 | [],vs,hl,_=>by
  have:vs=[]:=WP hl;subst this;exact .nil
 | x::xs,[],hl,_=>by cases hl
 | x::xs,u::vs,hl,h=>by
  rw[wZ];exact .cons (h 0 u rfl) (nU (by simpa using hl) λi y e=>h (i+1) y e)
end
section
variable{K:wb}{g:TG}{tt:TT}{te:TE}{src:List (Option Nat)}{σ : St}{H:Hp}{Q:VK}{a:wf}{vs:List V}{n:Int}{tl:St}{o0:Option V}
def eO(H:Hp)(tl:St)(Rel:Nat->V->Hp->Prop)(D:wf)(i:Nat)(ys:List V)(σ':St)(H':Hp):Prop :=
 (∃o,σ'=o::tl)/\H D=none/\af H H'/\H' D=some (.lst ys)/\ys.length=i /\ ∀j y,ys[j]? = some y->Rel j y H'
theorem eO.same{Rel:Nat->V->Hp->Prop}{D:wf}{i:Nat}{ys:List V}{σ':St}{H':Hp}(h:eO H tl Rel D i ys σ' H'):af H H':=h.2.2.1
theorem dB{Rel:Nat->V->Hp->Prop}{D:wf}{i:Nat}{ys:List V}{σ' σ3:St}{H1 H5:Hp}{y:V}(inv:eO H tl Rel D i ys σ' H1)(hi:i<=1000)(hk:∀i v H1 H2,aO H1 H2->Rel i v H1->Rel i v H2)(hσ : ∃o,σ3=o::tl)(s:af H1 H5)(r:Rel i y H5):nG (eO H tl Rel) D i σ3 y H5:=by
 obtain⟨_,hn,s1,hD,hl,hr⟩:=inv;have hD5:=s _ _ hD;refine dC hD5 (by lia) λH6 E6 e6=>⟨hσ,hn,(s1.trans s).grow hn E6,e6,by simp[hl],λj z hz=>?_⟩
 have k6:aO H5 H6:=E6.keep hD5;rcases wT j ys.length with hj | hj
 ·rw[Wu hj]at hz
  exact hk _ _ _ _ (s.keep.trans k6) (hr j z hz)
 ·have hj':j=ys.length:=by
   rcases wT ys.length j with q | q
   ·rw[wX (by simp;lia)]at hz;cases hz
   ·lia
  subst hj';rw[Wr (wu _),xL]at hz;cases hz;rw[hl];exact hk _ _ _ _ k6 r
theorem kZ(hx:aG K H a vs)(hsrc:cF src σ = o0::tl)(Rel:Nat->V->Hp->Prop)(hs:∀D i x ys o H1,vs[i]? = some x->eO H tl Rel D i ys (o::tl) H1->fG (eO H tl Rel) g tt te D i x (o::tl) H1)
  (hd:∀D ys H',H D=none->af H H'->H' D=some (.lst ys)->ys.length=vs.length->(∀j y,ys[j]? = some y->Rel j y H')->Q (.ref D) H'):lF K g tt te src σ (.ref a) H Q:=by
 refine iF hx (eO H tl Rel) (λD H' n s e=>⟨⟨o0,hsrc⟩,n,s,e,rfl,λj y z=>by simp at z⟩) (λD i ys σ' H' h=>h.same.seq hx) ?_ λD ys σ' H' ⟨_,n,s,e,hl,r⟩=>hd D ys H' n s e hl r
 rintro D i x ys σ' H' hx' h;obtain⟨⟨o,rfl⟩,_⟩:=id h;exact hs D i x ys o H' hx' h
theorem iN(hx:aF K H a vs)(hsrc:cF src σ = o0::tl)(Rel:Nat->V->Hp->Prop)(hs:∀D i x ys o H1,vs[i]? = some x->eO H tl Rel D i ys (o::tl) H1->fG (eO H tl Rel) g tt te D i x (o::tl) H1)
  (hd:∀D ys H',H D=none->af H H'->H' D=some (.lst ys)->ys.length=vs.length->(∀j y,ys[j]? = some y->Rel j y H')->Q (.ref D) H'):m6 K g tt te src σ (.ref a) H Q:=by
 refine CW hx (eO H tl Rel) (λD H' n s e=>⟨⟨o0,hsrc⟩,n,s,e,rfl,λj y z=>by simp at z⟩) (λD i ys σ' H' h=>h.same.d9 hx) ?_ λD ys σ' H' ⟨_,n,s,e,hl,r⟩=>hd D ys H' n s e hl r
 rintro D i x ys σ' H' hx' h;obtain⟨⟨o,rfl⟩,_⟩:=id h;exact hs D i x ys o H' hx' h
theorem Jk(h0:0<=n)(h1:n<1000000000)(hsrc:cF src σ = o0::tl)(Rel:Nat->V->Hp->Prop)(hs:∀D (i:Nat) ys o H1,i<n.toNat->eO H tl Rel D i ys (o::tl) H1->fG (eO H tl Rel) g tt te D i (.int (i:Int)) (o::tl) H1)
  (hd:∀D ys H',H D=none->af H H'->H' D=some (.lst ys)->ys.length=n.toNat->(∀j y,ys[j]? = some y->Rel j y H')->Q (.ref D) H'):BC g tt te src σ [.int n] H Q:=by
 refine kW (by lia) h1 (eO H tl Rel) (λD H' n s e=>⟨⟨o0,hsrc⟩,n,s,e,rfl,λj y z=>by simp at z⟩) ?_ λD ys σ' H' ⟨_,n,s,e,hl,r⟩=>hd D ys H' n s e hl r
 rintro D i ys σ' H' hi h;obtain⟨⟨o,rfl⟩,_⟩:=id h;exact hs D i ys o H' hi h
theorem sX{xs:List Rat} : ∀(i:Nat)(v:V)(H1 H2:Hp),aO H1 H2->Is K H1 v (N (xs.getD i 0))->Is K H2 v (N (xs.getD i 0)):=λi v H1 H2 k h=>h.ji k
end
theorem oB{H H':Hp}{l:wf}(s:af H H')(h:H' l=none):H l=none:=by
 cases e:H l with
 | none=>rfl
 | some o=>rw[s _ _ e]at h;cases h
def TZ(ns:List Int):wq:=.tuple (ns.map PyData.int)
theorem LS:∀ns:List Int,a_ (ns.map PyData.int)=true
 | []=>by simp[a_]
 | n::ns=>by rw[wZ,a_,LS ns];rfl
theorem mT(ns:List Int):bV (TZ ns)=true:=by rw[TZ,bV];exact LS ns
section
variable{K:wb}{H H' H2:Hp}{Q:VK}{v w y:V}{p l:wf}{vs:List V}{ns:List Int}{rss:List (List Rat)}{m:Int}{σ : St}
theorem jA:∀{ns:List Int}{vs:List V},ag K H vs (ns.map PyData.int) ↔ vs=ns.map V.int
 | [],vs=>by rw[Qf,dM];rfl
 | n::ns,vs=>by
  rw[wZ,ck,wZ]
  constructor
  ·rintro ⟨x,r,rfl,h,t⟩
   rw[bN.mp h,jA.mp t]
  ·rintro rfl
   exact⟨_,_,rfl,bN.mpr rfl,jA.mpr rfl⟩
theorem eY:Is K H v (TZ ns) ↔ ∃a,v=.ref a/\aF K H a (ns.map V.int):=by
 unfold TZ;rw[bz]
 constructor
 ·rintro ⟨a,xs,e,h,t⟩
  rw[jA.mp t]at h;exact⟨a,e,h⟩
 ·rintro ⟨a,e,h⟩
  exact⟨a,_,e,h,jA.mpr rfl⟩
theorem Is.fU(h:Is K H v (TZ ns))(s:aO H H'):Is K H' v (TZ ns):=Is.keep s _ v (mT ns) h
theorem kR(h:Is K H v (TZ ns))(q:Q (.int ns.length) H):bB K [v] H Q:=mz h (by rw[wd];exact q)
theorem fW(h:Is K H v (TZ ns))(h0:0<=m)(h1:m<ns.length)(q:Q (.int (ns.getD m.toNat 0)) H):bL K v (.int m) H Q:=by
 obtain⟨a,rfl,hs⟩:=eY.mp h;obtain⟨n,rfl⟩:∃n:Nat,m=(n:Int):=⟨m.toNat,by lia⟩;refine pB hs (jZ (j:=n) (v:=.int (ns.getD n 0)) ?_) q;rw[wz,wa,wc (by lia)]
 rfl
theorem TL{α : Type}{xs:List α}{x : α}(h:xs[xs.length-1]? = some x):fL xs (-1)=some x:=by
 have hl:0<xs.length:=by
  cases xs with
  | nil=>cases h
  | cons _ _=>simp
 unfold fL fR;rw[if_neg (by lia),if_pos (by lia)]
 show xs[((-1:Int)+(xs.length:Int)).toNat]? = some x
 rw[show((-1:Int)+(xs.length:Int)).toNat=xs.length-1 by lia];exact h
end
def y9(K:wb):R2:=λx y H Q=>KQ K x y H Q \/ ∃a b ys,x=.ref a/\y=.ref b/\aF K H a []/\aF K H b ys/\Q (.ref b) H
theorem MN{X:Cx} : aJ X (WH .Add) (y9 X.K):=by
 intro pins s σ H x y v u Q I rx ry h;rcases h with h | ⟨a,b,ys,rfl,rfl,ha,hb,q⟩
 ·exact zxU pins s σ H x y v u Q I rx ry h
 ·cases rx
  cases ry;obtain⟨its,r1,p1,_⟩:=I.tuple ha;cases r1;obtain⟨its2,r2,p2,_⟩:=I.tuple hb;obtain⟨⟨cls,dd,data,sl⟩,ho,hc,n,hd⟩:=id p1;obtain⟨⟨cls2,dd2,data2,sl2⟩,ho2,hc2,n2,hd2⟩:=id p2;simp only at hc hd hc2 hd2;subst hc hd hc2 hd2;exact concat_meets ⟨_,ho,rfl⟩ ⟨_,ho2,rfl⟩ noFill_tuple_add seq_tuple_add QC Qp (Qe _ _) (tuple_addW0 a b _ its2.toArray n n2 dd dd2 sl sl2 rfl) ⟨ho,ho2,⟨.ref b,H,I,rfl,q⟩⟩
theorem Ro{K:wb}{H:Hp}{Q:VK}{v w:V}{ds es:List wq}(h1:Is K H v (.tuple ds))(h2:Is K H w (.tuple es))(z:ds.length+es.length<=1000)(q:∀u H',af H H'->Is K H' u (.tuple (ds++es))->Q u H'):y9 K v w H Q:=by
 obtain⟨a,xs,rfl,ha,ta⟩:=bz.mp h1;obtain⟨b,ys,rfl,hb,tb⟩:=bz.mp h2;have la:=ta.length;have lb:=tb.length;cases xs with
 | nil =>
  obtain rfl:ds=[]:=WP (by simpa using la.symm);exact .inr ⟨a,b,ys,rfl,rfl,ha,hb,q _ H (af.refl _) h2⟩
 | cons x xs =>
  refine .inl ⟨a,b,x::xs,ys,rfl,rfl,ha,hb,by simp,VX (jG (by lia)),λhy=>?_,λhy p hp=>?_⟩
  ·obtain rfl:es=[]:=WP (by rw[hy]at lb;simpa using lb.symm)
   exact q _ H (af.refl _) (by rw[vT];exact h1)
  ·exact q _ _ (af.upd hp) (bz.mpr ⟨p,_,rfl,.of bW,(ag.same (af.upd hp) _ _ ta).append (ag.same (af.upd hp) _ _ tb)⟩)
theorem Inv.nu{X:Cx}{pins:List (wf × Obj)}{σ : St}{H:Hp}{s:wk}{h':wK}{t':Nat}{ch:List wf}(I:Inv X pins σ H s)(k:∀b o,b ∉ ch->s.heap.get? b=some o->h'.get? b=some o)(hf:∀b∈ch,dE X pins H b):Inv X pins σ H {s with heap:=h',toks:=t'}:=by
 have nit:∀b u,H b=some u->b ∉ ch:=λb u e z=>by rw[(hf b z).1]at e;cases e
 refine I.step (g':=s.gens) (d':=s.drawn) (ch:=ch) (λb hb=>⟨(hf b hb).2.2.2.1,(hf b hb).2.1,(hf b hb).2.2.2.2.1,(hf b hb).2.2.2.2.2⟩) (λb o _ _ hc e _=>k b o hc e)
  (λb o _ _ hc e _=>⟨o.slots,k b o hc e⟩) (λ_ _ _ _ n=>n) (λb o hc e=>⟨o,k b o hc e⟩) (λ_ _ e=>e) (λ_ _ _ e=>e) (λb ps e=>⟨#[],by rw[e];simp⟩) (λm hm=>?_) (λb u e=>?_) I.bare
 ·obtain⟨o,es,ep,ho,r⟩:=hm
  exact⟨o,es,ep,k _ o (λz=>(hf _ z).2.1 rfl) ho,r⟩
 ·refine(I.aB b u e).jR (λc v hc q=>k c v ?_ q) (λ_ q=>q) λ_ _ q=>q
  rcases hc with z | z
  ·rw[z];exact nit b u e
  ·exact nit c _ z
section
variable{prog:wP}{w:wR}{A:vj}{E:we->wk->Prop}{s:wk}
theorem MC{it tu:wf}{i:Nat}{its:Array we}{x:we}{Q:we->wk->Prop}(ei:s.heap.IsTupleIter it tu i)(et:s.heap.IsTuple tu its)(ex:its[i]? = some x)
  (fin:∀h',h'.IsTupleIter it tu (i+1)->vW it s.heap h'->Q x {s with heap:=h'}):wA (model prog w) A (Wv (.ref it)) Q E s:=by
 obtain⟨ob,eo,ec,ed⟩:=id ei;obtain⟨ot,eot,_,nt,edt⟩:=et;unfold Wv;refine wg (wpAny_callSpecial?_slot (name:=WW "__next__") ei.typeIs VI (WN VI ei.typeIs xk ?_ (Q8 _)))
 show wA _ _ (field (.ref it) 0 >>= _) _ _ s;refine wg (Wa eo ed (x:=.ref tu) rfl ?_)
 show wA _ _ (if(Value.ref tu == Value.none)=true then _ else _) _ _ s;rw[if_neg (show ¬ ((Value.ref tu == Value.none)=true)from vL)]
 show wA _ _ (field (.ref it) 1 >>= _) _ _ s;refine wg (Wa eo ed (x:=.int i 0) rfl ?_)
 show wA _ _ (seqItems? (.ref tu) >>= _) _ _ s;refine wg (WZ eot edt ?_)
 simp only[wH,ex];refine wg (wpAny_setField eo ed (by simp) (wp ⟨x,rfl,wp (fin _ ?_ (WR ..))⟩));exact⟨_,VA _ eo (qH (qk ed _)),(uC ..).trans ec,by rw[qk ed];simp[V7]⟩
theorem zA{it tu:wf}{i:Nat}{its:Array we}{Q:we->wk->Prop}(hh:A.handled=none)(ei:s.heap.IsTupleIter it tu i)(et:s.heap.IsTuple tu its)(ex:its[i]? = none)
  (fin:∀h' e,Heap.ExtBut it s.heap h'->(∃o,h'.get? e=some o/\o.cls=.type "StopIteration")->E (.ref e) {s with heap:=h'}):wA (model prog w) A (Wv (.ref it)) Q E s:=by
 obtain⟨ob,eo,ec,ed⟩:=id ei;obtain⟨ot,eot,_,nt,edt⟩:=et;unfold Wv;refine wg (wpAny_callSpecial?_slot (name:=WW "__next__") ei.typeIs VI (WN VI ei.typeIs xk ?_ (Q8 _)))
 show wA _ _ (field (.ref it) 0 >>= _) _ _ s;refine wg (Wa eo ed (x:=.ref tu) rfl ?_)
 show wA _ _ (if(Value.ref tu == Value.none)=true then _ else _) _ _ s;rw[if_neg (show ¬ ((Value.ref tu == Value.none)=true)from vL)]
 show wA _ _ (field (.ref it) 1 >>= _) _ _ s;refine wg (Wa eo ed (x:=.int i 0) rfl ?_)
 show wA _ _ (seqItems? (.ref tu) >>= _) _ _ s;refine wg (WZ eot edt ?_)
 simp only[wH,ex];refine wg (wpAny_rule (wg (wpAny_setField eo ed (by simp) ?_)))
 show wA _ _ (newExc (.type "StopIteration") [] >>= _) _ _ _;refine wg ?_;simp only[newExc,newTuple]
 refine wg (W1 ?_ (by size_fits));refine wg (m:=firstArgMember _ _) (wpAny_of_eq (a:=Value.none) (by first | rfl | (simp only[firstArgMember];rfl)) ?_);refine W1 ?_ (by size_fits);simp only[raiseNew];refine wg (wpAny_handled ?_)
 first | rw[hh] | rw[show A.in1.handled=none from hh]
 exact wg (wp (wpAny_throw (fin _ _ (((WR ..).extBut.push _).push _) ⟨_,wC _ rfl,rfl⟩)))
theorem Lz(hh:A.handled=none)(it tu:wf)(hne:tu≠it)(its:Array we):Draws prog w A it [it,tu] its.size (λi v=>its[i]? = some v) (λi h=>h.IsTupleIter it tu i/\h.IsTuple tu its) where
 live:=λ_ _ st=>let ⟨o,ho,_⟩:=st.1;⟨o,ho⟩
 frame:=λ_ _ _ st hk=>⟨st.1.at λo e=>hk it (by simp) o e,st.2.at λo e=>hk tu (by simp) o e⟩
 item:=λi s Q E hi st hQ=>MC st.1 st.2 (x:=its[i]) (by simp[hi]) λh' hit' hs'=>hQ _ h' s.toks (by simp[hi]) ⟨hit',st.2.extBut hs'.extBut hne⟩ hs'
 done:=λs Q E st hE=>zA hh st.1 st.2 (by simp) hE
open AutoSeq1 (wpAny_loadPart') in
theorem zpy(tu:wf)(its:Array we)(n:Nat)(dct:Option wf)(sl:Array (Option we)):Meets (Builtin.«enumerate.__new__» ⟨[.type "enumerate",.ref tu],[]⟩) (λ_ R s=>s.heap.get? tu=some {cls:=.type "tuple",dict:=dct,data:=.seq its n,slots:=sl} /\
  R (.ok (.ret (.ref (s.heap.push {cls:=.type "tuple_iterator",data:=.fields #[.ref tu,.int 0 0]}).objs.size))) {s with heap:=(s.heap.push {cls:=.type "tuple_iterator",data:=.fields #[.ref tu,.int 0 0]}).push {cls:=.type "enumerate",data:=.fields #[.none,.bool false,.ref s.heap.objs.size,V7 0,.none,.none]}}) :=
 .of_wp λprog w A R s h=>by
  obtain⟨hp,g,d,tk,os⟩:=s;obtain⟨et,h⟩:=h;have hsub:=sub_enumerate;have hT:qI (qr ⟨hp,g,d,tk,os⟩) tu its:=⟨_,et,rfl,n,rfl⟩
  wp_walk using wpAny_loadPart' et
  refine wpAny_stack_any λst=>wp ?_
  split
  ·rename_i c _ _ _ _ _
   cases (c == Value.type "enumerate")<;>(wp_walk using wpAny_loadPart' et,WL hT;exact⟨_,rfl,h⟩)
  ·wp_walk using wpAny_loadPart' et,WL hT
   exact⟨_,rfl,h⟩
theorem zqZ{tu:wf}{its:Array we}{Q:we->wk->Prop}(hT:s.heap.IsTuple tu its)(fin:∀h',IsEnum h' (s.heap.objs.size+1) s.heap.objs.size 0 .none->h'.IsTupleIter s.heap.objs.size tu 0->(∀b o,s.heap.get? b=some o->h'.get? b=some o)->Q (.ref (s.heap.objs.size+1)) {s with heap:=h'}) :
  wA (model prog w) A (call (.type "enumerate") [.ref tu]) Q E s:=by
 obtain⟨⟨c,dct,dt,sl⟩,et,hc,n,hd⟩:=hT;obtain rfl:c=.type "tuple":=hc;obtain rfl:dt=.seq its n:=hd;refine callType_new Qh (by decide) (F.typeCall_enumerate_1 _) (F.newCall_enumerate_1 _) (λobj=>F.args_object_init_2 obj _) Xp (zpy tu its n dct sl) ⟨et,?_⟩;have hz:(s.heap.push {cls:=.type "tuple_iterator",data:=.fields #[.ref tu,.int 0 0]}).objs.size=s.heap.objs.size+1:=Wf ..
 show _/\_
 rw[hz]
 have he:IsEnum ((s.heap.push {cls:=.type "tuple_iterator",data:=.fields #[.ref tu,.int 0 0]}).push {cls:=.type "enumerate",data:=.fields #[.none,.bool false,.ref s.heap.objs.size,V7 0,.none,.none]}) (s.heap.objs.size+1) s.heap.objs.size 0 .none:=by
  rw[<- hz];exact wC _ rfl
 exact⟨⟨_,he,rfl⟩,fin _ he ⟨_,wj _ (wC _ rfl),rfl,rfl⟩ λb o x=>wj _ (wj _ x)⟩
end
def ma(K:wb)(a:wf):It :=
 ⟨λi H=>∃xs x,aF K H a xs/\xs[i]? = some x,λi H y H'=>∃t x,y=.ref t/\H t=none/\(∀xs,aF K H a xs->xs[i]? = some x)/\H'=upd H t (.tup [.int (i:Int),x]),λi H=>∃xs,aF K H a xs/\xs.length<=i⟩
theorem zq8{P:wP}{w:wR}{K:wb}{elts:List Expr}{k1}{tpos:Pos}(a e it:wf)(hne:e≠it):gX P w K (.Tuple elts k1 tpos) (ma K a) [e,it] e (λi h=>(∃old,IsEnum h e it (i:Int) old)/\h.IsTupleIter it a i) where
 mem:=by simp
 obj:=λi h st b hb=>by
  obtain⟨⟨old,he⟩,o,eo,c,d⟩:=st;rcases wE.mp hb with rfl | hb
  ·exact⟨_,he,λv z=>by cases (show Data.fields _=Data.cell v from z)⟩
  ·rw[vv.mp hb]
   exact⟨o,eo,λv z=>by rw[d]at z;cases z⟩
 keep:=λi h h' st k=>⟨let ⟨old,he⟩:=st.1;⟨old,k e (by simp) _ he⟩,st.2.at λo eo=>k it (by simp) o eo⟩
 item:=by
  intro X hP hw hK hc i pins s σ H E I hf st hg;subst hP hw hK;obtain⟨⟨old,he⟩,st⟩:=st;obtain⟨xs,x,hq,hx⟩:=hg;obtain⟨its,rv,p,hz⟩:=I.tuple hq;obtain⟨u,hu,ru⟩:=rv.get hx;have p':s.heap.IsTuple a its.toArray:=p
  have hai:a≠it:=λz=>by
   subst z;obtain⟨o,e1,c1,_⟩:=st;obtain⟨o',e2,c2,_⟩:=p';rw[e1]at e2;cases e2;rw[c1]at c2;exact absurd c2 (by decide)
  have hae:e≠a:=λz=>by
   subst z;obtain⟨o',e2,c2,_⟩:=p';rw[he]at e2;cases e2;exact absurd (show Value.type "enumerate"=Value.type "tuple" from c2) (by decide)
  have hlt:i<its.toArray.size:=by
   rcases wT i its.length with z | z
   ·simpa using z
   ·rw[wX z]at hu;cases hu
  refine Qt (Lz (A:=X.A.in1) (I.ok.hd hc) it a hai its.toArray) he ⟨st,p'⟩ hlt hne (by simp[hne,hae]) λv h1 tk hv ho hs1 hT hsz hk=>?_
  have hvu:v=u:=by
   have hv':its[i]? = some v:=by simpa using hv
   rw[hu]at hv';exact(wV hv').symm
  subst hvu
  have I1:Inv X pins σ (upd H s.heap.objs.size (.tup [.int (i:Int),x])) {s with heap:=s.heap.push {cls:=.type "tuple",data:=.seq ([.int (i:Int) tk,v]:List we).toArray},toks:=tk+1} :=
   I.laid (λb o q=>wj _ q) (wu _) (show cz X.prog X.w _ _ _ (.tup [.int (i:Int),x])from⟨ku (by simp),_,.cons ⟨_,rfl⟩ (.cons ru .nil),qJ _ _⟩)
  have lt1:∀b∈[e,it],b<s.heap.objs.size:=λb hb=>by
   rcases wE.mp hb with rfl | hb
   ·exact wF he
   ·rw[vv.mp hb]
    obtain⟨o,eo,_⟩:=st;exact wF eo
  have hf1:∀b∈[e,it],dE X pins (upd H s.heap.objs.size (.tup [.int (i:Int),x])) b:=λb hb=>⟨by rw[cX (ve (lt1 b hb))];exact(hf b hb).1,(hf b hb).2⟩
  refine⟨_,rfl,qR ho λh2 he2 hs2=>?_⟩;refine⟨.ref s.heap.objs.size,_,Inv.nu (s:={s with heap:=s.heap.push {cls:=.type "tuple",data:=.seq ([.int (i:Int) tk,v]:List we).toArray},toks:=tk+1}) (ch:=[e,it]) I1 (λb o hb q=>?_) hf1,rfl,⟨_,x,rfl,I.aB.fresh (wu _),λys hy=>by rw[I.pY hy hq];exact hx,rfl⟩,⟨⟨_,by simpa using he2⟩,hs1.1.at λo eo=>(hs2.2 it (Wz hne)).trans eo⟩,λb hb=>(hf1 b hb).1⟩;have hbe:b≠e:=λz=>hb (by simp[z])
  have hbi:b≠it:=λz=>hb (by simp[z])
  refine(hs2.2 b hbe).trans ?_
  by_cases hb2:b=s.heap.objs.size
  ·subst hb2
   rw[wC _ rfl]at q;cases q;exact hT
  ·exact hk b o hbe hbi (by rw[Qw _ _ _ hb2]at q;exact q)
 done:=by
  intro X hP hw hK hc i pins s σ H E I hf st hg;subst hP hw hK;obtain⟨⟨old,he⟩,st⟩:=st;obtain⟨xs,hq,hx⟩:=hg;obtain⟨its,rv,p,hz⟩:=I.tuple hq;have p':s.heap.IsTuple a its.toArray:=p
  have hai:a≠it:=λz=>by
   subst z;obtain⟨o,e1,c1,_⟩:=st;obtain⟨o',e2,c2,_⟩:=p';rw[e1]at e2;cases e2;rw[c1]at c2;exact absurd c2 (by decide)
  have hl:=rv.length;have hT:s.TypeIs (.ref e) "enumerate":=⟨_,he,rfl⟩;unfold pyNext;refine wg (wpAny_attempt (wpAny_callSpecial?_slot (name:=WW "__next__") hT Vk (WN Vk hT QE ?_ (Qq _))))
  show wA _ _ (field (.ref e) 2 >>= _) _ _ _;refine wg (Wa he rfl (x:=.ref it) rfl ?_)
  refine wg (zA (A:=X.A.in1) (I.ok.hd hc) st p' (by simp;lia) λh' y he' hx'=>?_);obtain⟨o,ho,hcl⟩:=hx';refine wg (V9 (T:="StopIteration") (b:=true) ⟨o,ho,hcl⟩ isSubtype_stop (wp ⟨rfl,?_⟩));obtain⟨f0,f1,f2,f3,f4,f5⟩:=hf it (by simp);exact I.turned (t':=s.toks) (λb o hb e=>he' b o hb e) f0 f1 f3 f4 f5
 self:=λ_ _ _ _ _ st h=>let ⟨_,he⟩:=st.1;VN he h
def B9(K:wb)(ta:TA):TI:=λσ H R=>ta σ H λvs H1=>∃a,vs=[.ref a]/\(∃xs,aF K H1 a xs)/\R (ma K a) H1
theorem Bj:Wk "enumerate"=some (.type "enumerate"):=by decide +kernel
theorem KC{X:Cx}{elts:List Expr}{k1}{tpos p pos:Pos}{l:Expr}{ta:TA}(hg:Gl X "enumerate")(hm:X.mg "enumerate"=none)(ha:PA X [l] ta)(hs:vg [l] X.env=[(false,eval l X.env)]:=by rfl) :
  PI X (.Tuple elts k1 tpos) (.Call (.Name "enumerate" p) [l] [] pos) (B9 X.K ta):=by
 intro pins s σ H R I h;refine Call_ (gb I hg hm Bj (vS (aE (ha pos pins s σ H _ I h) λus s1 ⟨vs,H1,I1,r1,q1⟩=>?_) hs rfl));obtain⟨a,rfl,⟨xs,hq⟩,q⟩:=q1;obtain⟨u,rfl,ru⟩:=fC r1;cases ru;obtain⟨its,rv,p,hz⟩:=I1.tuple hq;refine zqZ (show s1.heap.IsTuple a its.toArray from p) λh' he hit kp=>?_
 refine VN he ?_;refine⟨s1.heap.objs.size+1,[s1.heap.objs.size+1,s1.heap.objs.size],_,_,H1,rfl,I1.kept (t':=s1.toks) kp,zq8 a (s1.heap.objs.size+1) s1.heap.objs.size (xM _),⟨⟨_,he⟩,hit⟩,λb hb=>?_,q⟩
 have hb':s1.heap.objs.size<=b:=by
  rcases wE.mp hb with rfl | hb
  ·lia
  ·rw[vv.mp hb];exact wu _
 exact I1.iq hb' (I1.aB.fresh hb')
def JL(K:wb)(g:TG)(tb:TS)(D:bY)(σ : St)(vs:List V)(H1:Hp):Prop:=∃a,vs=[.ref a]/\(∃xs,aF K H1 a xs) /\
 ∃W:Nat->Nat->St->Hp->Prop,(∃m,W 0 m σ H1) /\ ∀i m σ H,W i m σ H ->
  ((ma K a).stop i H/\D.nx σ H)\/((ma K a).go i H /\ ∃M:St->Hp->Prop,(∀σ' H',M σ' H'->∃m',m'<m/\W (i+1) m' σ' H') /\ ∀x H',(ma K a).eI i H x H'->g x σ H' λσ2 H2=>tb {D with nx:=M,ct:=M,bk:=D.nx} σ2 H2)
section
variable{K:wb}{ta:TA}{g:TG}{tb:TS}{D:bY}{σ : St}{H:Hp}{a:wf}{xs:List V}
theorem zzh(h:ta σ H λvs H1=>JL K g tb D σ vs H1):jq (B9 K ta) g tb D σ H:=h
theorem ztQ(hx:aF K H a xs)(Pv:Nat->St->Hp->Prop)(h0:Pv 0 σ H)(hl:∀i σ H,i<=xs.length->Pv i σ H->aF K H a xs)
  (hs:∀i x σ H t H',xs[i]? = some x->Pv i σ H->H t=none->af H H'->H' t=some (.tup [.int (i:Int),x])->g (.ref t) σ H' λσ2 H2=>tb {D with nx:=Pv (i+1),ct:=Pv (i+1),bk:=D.nx} σ2 H2) (hd:∀σ H,Pv xs.length σ H->D.nx σ H):JL K g tb D σ [.ref a] H:=by
 refine⟨a,rfl,⟨xs,hx⟩,λi m σ H=>i+m=xs.length/\Pv i σ H,⟨xs.length,by lia,h0⟩,?_⟩;rintro i m σ H ⟨him,hp⟩;have hq:=hl i σ H (by lia) hp
 by_cases hm:m=0
 ·have e:i=xs.length:=by lia
  subst e;exact .inl ⟨⟨xs,hq,wu _⟩,hd _ _ hp⟩
 ·have hi:i<xs.length:=by lia
  refine .inr ⟨⟨xs,xs[i],hq,by simp[hi]⟩,λσ' H'=>Pv (i+1) σ' H',λσ' H' h=>⟨m-1,by lia,by lia,h⟩,?_⟩;rintro y H' ⟨t,x,rfl,hn,hx',rfl⟩;exact hs i x σ H t _ (hx' xs hq) hp hn (af.upd hn) bW
end
structure ZA(z TI TO i1 i2:wf)(f1 f2:List wf):Prop where
 a1:TI≠z
 a2:TO≠z
 a3:i1≠z
 a4:i2≠z
 a5:TI≠TO
 a6:TI≠i1
 a7:TI≠i2
 a8:TO≠i1
 a9:TO≠i2
 b0:i1≠i2
 b1:z ∉ f1
 b2:z ∉ f2
 b3:TO ∉ f1
 b4:TO ∉ f2
 b5:i1 ∉ f2
 b6:i2 ∉ f1
section
variable{prog:wP}{w:wR}{A:vj}{E:we->wk->Prop}{s:wk}{z TI TO i1 i2:wf}{f1 f2:List wf}{n1 n2 k:Nat}{P1 P2:Nat->we->Prop}{S1 S2:Nat->wK->Prop}{a b:we}
theorem zCX{Q:we->wk->Prop}(D1:Draws prog w A i1 f1 n1 P1 S1)(D2:Draws prog w A i2 f2 n2 P2 S2)(ap:ZA z TI TO i1 i2 f1 f2)(hz:IsZip s.heap z TI TO .none)(hi:Vf s.heap TI (.ref i1) (.ref i2))(ho:Vf s.heap TO a b)
  (h1:S1 k s.heap) (h2:S2 k s.heap) (l1:k<n1) (l2:k<n2)
  (fin:∀x y h' tk,P1 k x->P2 k y->IsZip h' z TI TO (V7 s.heap.objs.size)->Vf h' TO x y->S1 (k+1) h'->S2 (k+1) h'->Vf h' s.heap.objs.size x y ->
   (∀c o,c≠z->c≠TO->c≠i1->c≠i2->s.heap.get? c=some o->h'.get? c=some o)->Q (.ref s.heap.objs.size) {s with heap:=h',toks:=tk}) :
  wA (model prog w) A (Builtin.«zip.__next__» ⟨[.ref z],[]⟩) (λr s'=>∃v,r=.done (.ret v)/\Q v s') E s:=by
 show wA _ _ (field (.ref z) 2 >>= _) _ _ _;refine wg (Wa hz rfl (x:=.bool false) rfl ?_)
 show wA _ _ (field (.ref z) 3 >>= _) _ _ _;refine wg (Wa hz rfl (x:=.ref TI) rfl ?_)
 refine wg (WZ hi rfl ?_);show wA _ _ (W8 (.ref z) >>= _) _ _ _
 refine wg ?_;unfold W8;refine wg (Wa hz rfl (x:=.none) rfl (wp ?_));simp only[if_true];refine wg (wpAny_rule ?_);refine wg (Wa hz rfl (x:=.ref TO) rfl ?_);refine wg (Vz hz (by simp) λg1 zz1 sb1=>?_);have zz1:IsZip g1 z TI TO .ellipsis:=zz1;refine wg ?_;simp only[u0,Ul,xZ,Uz];refine wg (wg (wpAny_onRaise ?_));show wA _ _ (Wv (.ref i1) >>= _) _ _ _
 have h1a:S1 k g1:=D1.frame _ _ _ h1 λc hc o e=>sb1.extBut c o (λq=>ap.b1 (q ▸ hc)) e
 have h2a:S2 k g1:=D2.frame _ _ _ h2 λc hc o e=>sb1.extBut c o (λq=>ap.b2 (q ▸ hc)) e
 refine wg (D1.item k _ _ _ l1 h1a λx g2 t2 px h1b sb2=>wp ?_);have ho2:Vf g2 TO a b:=sb2.extBut _ _ ap.a8 (sb1.extBut _ _ ap.a2 ho);have h2b:S2 k g2:=D2.frame _ _ _ h2a λc hc o e=>sb2.extBut c o (λq=>ap.b5 (q ▸ hc)) e
 refine wg (WZ ho2 rfl ?_);refine wg (wpAny_updateSeq_pair ho2 λg3 ho3 sb3=>?_);have ho3:Vf g3 TO x b:=ho3;have sb3:vW TO g2 g3:=sb3;have h1c:S1 (k+1) g3:=D1.frame _ _ _ h1b λc hc o e=>sb3.extBut c o (λq=>ap.b3 (q ▸ hc)) e
 have h2c:S2 k g3:=D2.frame _ _ _ h2b λc hc o e=>sb3.extBut c o (λq=>ap.b4 (q ▸ hc)) e
 refine wg (wpAny_letGo (wp ?_));refine wg (wg (wpAny_onRaise ?_))
 show wA _ _ (Wv (.ref i2) >>= _) _ _ _;refine wg (D2.item k _ _ _ l2 h2c λy g4 t4 py h2d sb4=>wp ?_)
 have sb4:vW i2 g3 g4:=sb4;have ho4:Vf g4 TO x b:=sb4.extBut _ _ ap.a9 ho3;have h1d:S1 (k+1) g4:=D1.frame _ _ _ h1c λc hc o e=>sb4.extBut c o (λq=>ap.b6 (q ▸ hc)) e
 refine wg (WZ ho4 rfl ?_);refine wg (wpAny_updateSeq_pair ho4 λg5 ho5 sb5=>?_);have ho5:Vf g5 TO x y:=ho5;have sb5:vW TO g4 g5:=sb5;have h1e:S1 (k+1) g5:=D1.frame _ _ _ h1d λc hc o e=>sb5.extBut c o (λq=>ap.b3 (q ▸ hc)) e
 have h2e:S2 (k+1) g5:=D2.frame _ _ _ h2d λc hc o e=>sb5.extBut c o (λq=>ap.b4 (q ▸ hc)) e
 refine wg (wpAny_letGo (wp (wp ?_)));refine wg (WZ ho5 rfl ?_);refine wg (wpAny_newTuple ?_);have sb2:vW i1 g1 g2:=sb2;have sb1:vW z s.heap g1:=sb1;have hsz:g5.objs.size=s.heap.objs.size:=by rw[sb5.1,sb4.1,sb3.1,sb2.1,sb1.1]
 have zz5:IsZip g5 z TI TO .ellipsis:=sb5.extBut _ _ ap.a2.symm (sb4.extBut _ _ ap.a4.symm (sb3.extBut _ _ ap.a2.symm (sb2.extBut _ _ ap.a3.symm zz1)));have kept:∀c o,c≠z->c≠TO->c≠i1->c≠i2->s.heap.get? c=some o->g5.get? c=some o:=λc o c1 c2 c3 c4 e=>sb5.extBut _ _ c2 (sb4.extBut _ _ c4 (sb3.extBut _ _ c2 (sb2.extBut _ _ c3 (sb1.extBut _ _ c1 e))))
 have zlt:z<g5.objs.size:=wF zz5
 show wA _ _ (Qi (.ref z) (.ref g5.objs.size) >>= _) _ _ _;refine wg ?_;unfold Qi
 have zz6:IsZip (g5.push {cls:=.type "tuple",data:=.seq #[x,y]}) z TI TO .ellipsis:=wj _ zz5;refine wg (Vz zz6 (by simp) λg7 zz7 sb7=>?_);have zz7:IsZip g7 z TI TO (V7 g5.objs.size):=zz7;refine Vz zz7 (by simp) λg8 zz8 sb8=>?_
 have zz8:IsZip g8 z TI TO (V7 g5.objs.size):=zz8;have sb7:vW z (g5.push {cls:=.type "tuple",data:=.seq #[x,y]}) g7:=sb7;have sb8:vW z g7 g8:=sb8;have up:∀c o,c≠z->g5.get? c=some o->g8.get? c=some o:=λc o c1 e=>sb8.extBut _ _ c1 (sb7.extBut _ _ c1 (wj _ e))
 have new8:Vf g8 g5.objs.size x y:=sb8.extBut _ _ (Wb zlt) (sb7.extBut _ _ (Wb zlt) (wC _ rfl));rw[hsz]at zz8 new8;refine wp ⟨_,rfl,?_⟩
 show Q (.ref g5.objs.size) _
 rw[hsz];exact fin x y g8 _ px py zz8 (up _ _ ap.a2 ho5) (D1.frame _ _ _ h1e λc hc o e=>up c o (λq=>ap.b1 (q ▸ hc)) e) (D2.frame _ _ _ h2e λc hc o e=>up c o (λq=>ap.b2 (q ▸ hc)) e) new8 λc o c1 c2 c3 c4 e=>up c o c1 (kept c o c1 c2 c3 c4 e)
theorem zC3{Q:Fin->wk->Prop}(D1:Draws prog w A i1 f1 n1 P1 S1)(D2:Draws prog w A i2 f2 n2 P2 S2)(ap:ZA z TI TO i1 i2 f1 f2)(hz:IsZip s.heap z TI TO .none)(hi:Vf s.heap TI (.ref i1) (.ref i2))(ho:Vf s.heap TO a b)
  (h1:S1 k s.heap) (h2:S2 k s.heap) (hk:k=n1\/(k<n1/\k=n2))
  (fin:∀h' e tk,(∀c o,c≠z->c≠TO->c≠i1->c≠i2->s.heap.get? c=some o->h'.get? c=some o)->(∃o,h'.get? e=some o/\o.cls=.type "StopIteration")->E (.ref e) {s with heap:=h',toks:=tk}) :
  wA (model prog w) A (Builtin.«zip.__next__» ⟨[.ref z],[]⟩) Q E s:=by
 show wA _ _ (field (.ref z) 2 >>= _) _ _ _;refine wg (Wa hz rfl (x:=.bool false) rfl ?_)
 show wA _ _ (field (.ref z) 3 >>= _) _ _ _;refine wg (Wa hz rfl (x:=.ref TI) rfl ?_)
 refine wg (WZ hi rfl ?_);show wA _ _ (W8 (.ref z) >>= _) _ _ _
 refine wg ?_;unfold W8;refine wg (Wa hz rfl (x:=.none) rfl (wp ?_));simp only[if_true];refine wg (wpAny_rule ?_);refine wg (Wa hz rfl (x:=.ref TO) rfl ?_);refine wg (Vz hz (by simp) λg1 zz1 sb1=>?_);have zz1:IsZip g1 z TI TO .ellipsis:=zz1;have sb1:vW z s.heap g1:=sb1;refine wg ?_;simp only[u0,Ul,xZ,Uz];refine wg (wg (wpAny_onRaise ?_));show wA _ _ (Wv (.ref i1) >>= _) _ _ _
 have h1a:S1 k g1:=D1.frame _ _ _ h1 λc hc o e=>sb1.extBut c o (λq=>ap.b1 (q ▸ hc)) e
 have h2a:S2 k g1:=D2.frame _ _ _ h2 λc hc o e=>sb1.extBut c o (λq=>ap.b2 (q ▸ hc)) e
 rcases hk with rfl | ⟨l1,rfl⟩
 ·refine wg (D1.done _ _ _ h1a λg2 e sb2 he=>?_)
  obtain⟨oe,hoe,hce⟩:=he;have zz2:IsZip g2 z TI TO .ellipsis:=sb2 _ _ ap.a3.symm zz1;have hez:e≠z:=λq=>by subst q;rw[zz2]at hoe;cases hoe;simp at hce
  exact Vz zz2 (by simp) λg3 _ sb3=>fin g3 e _ (λc o c1 _ c3 _ q=>sb3.extBut _ _ c1 (sb2 _ _ c3 (sb1.extBut _ _ c1 q))) ⟨oe,sb3.extBut _ _ hez hoe,hce⟩
 ·refine wg (D1.item k _ _ _ l1 h1a λx g2 t2 px h1b sb2=>wp ?_)
  have sb2:vW i1 g1 g2:=sb2;have ho2:Vf g2 TO a b:=sb2.extBut _ _ ap.a8 (sb1.extBut _ _ ap.a2 ho);have h2b:S2 k g2:=D2.frame _ _ _ h2a λc hc o e=>sb2.extBut c o (λq=>ap.b5 (q ▸ hc)) e
  refine wg (WZ ho2 rfl ?_);refine wg (wpAny_updateSeq_pair ho2 λg3 ho3 sb3=>?_);have sb3:vW TO g2 g3:=sb3;have h2c:S2 k g3:=D2.frame _ _ _ h2b λc hc o e=>sb3.extBut c o (λq=>ap.b4 (q ▸ hc)) e
  refine wg (wpAny_letGo (wp ?_));refine wg (wg (wpAny_onRaise ?_))
  show wA _ _ (Wv (.ref i2) >>= _) _ _ _;refine wg (D2.done _ _ _ h2c λg4 e sb4 he=>?_)
  obtain⟨oe,hoe,hce⟩:=he;have zz4:IsZip g4 z TI TO .ellipsis:=sb4 _ _ ap.a4.symm (sb3.extBut _ _ ap.a2.symm (sb2.extBut _ _ ap.a3.symm zz1));have hez:e≠z:=λq=>by subst q;rw[zz4]at hoe;cases hoe;simp at hce
  exact Vz zz4 (by simp) λg5 _ sb5=>fin g5 e _ (λc o c1 c2 c3 c4 q=>sb5.extBut _ _ c1 (sb4 _ _ c4 (sb3.extBut _ _ c2 (sb2.extBut _ _ c3 (sb1.extBut _ _ c1 q))))) ⟨oe,sb5.extBut _ _ hez hoe,hce⟩
end
def cg(t:Bool)(K:wb)(H:Hp)(a:wf)(xs:List V):Prop:=match t with
 | true=>aF K H a xs
 | false=>aG K H a xs
def iB(t:Bool)(h:wK)(it a:wf)(i:Nat):Prop:=match t with
 | true=>h.IsTupleIter it a i
 | false=>h.IsListIter it a i
def Lc(t:Bool)(h:wK)(a:wf)(its:Array we):Prop:=match t with
 | true=>h.IsTuple a its
 | false=>h.IsList a its
theorem yV{prog:wP}{w:wR}{A:vj}(t:Bool)(hh:A.handled=none)(it a:wf)(hne:a≠it)(its:Array we):Draws prog w A it [it,a] its.size (λi v=>its[i]? = some v) (λi h=>iB t h it a i/\Lc t h a its):=by
 cases t
 ·exact Draws.list hh it a hne its
 ·exact Lz hh it a hne its
theorem Inv.ik{X:Cx}{pins:List (wf × Obj)}{σ : L2.St}{H:Hp}{s:wk}{t:Bool}{a:wf}{xs:List V}(I:Inv X pins σ H s)(h:cg t X.K H a xs):∃its:List we,aI xs its/\Lc t s.heap a its.toArray:=by
 cases t
 ·obtain⟨its,r,p,_⟩:=I.list h
  exact⟨its,r,p.isList⟩
 ·obtain⟨its,r,p,_⟩:=I.tuple h
  exact⟨its,r,p⟩
theorem Inv.Hw{X:Cx}{pins:List (wf × Obj)}{σ : L2.St}{H:Hp}{s:wk}{t:Bool}{a:wf}{xs ys:List V}(I:Inv X pins σ H s)(h:cg t X.K H a xs)(k:cg t X.K H a ys):xs=ys:=by
 cases t
 ·exact I.A0 h k
 ·exact I.pY h k
theorem iB.obj{t:Bool}{h:wK}{it a:wf}{i:Nat}(st:iB t h it a i):∃o,h.get? it=some o /\ ∀v,o.data≠.cell v:=by
 cases t
 ·obtain⟨o,e,_,d⟩:=st
  exact⟨o,e,λv z=>by rw[d]at z;cases z⟩
 ·obtain⟨o,e,_,d⟩:=st
  exact⟨o,e,λv z=>by rw[d]at z;cases z⟩
theorem iB.at{t:Bool}{h h':wK}{it a:wf}{i:Nat}(st:iB t h it a i)(k:∀o,h.get? it=some o->h'.get? it=some o):iB t h' it a i:=by
 cases t
 ·exact Heap.IsListIter.at st k
 ·exact Heap.IsTupleIter.at st k
def jH(t u:Bool)(K:wb)(a b:wf):It :=
 ⟨λi H=>∃xs x ys y,cg t K H a xs/\xs[i]? = some x/\cg u K H b ys/\ys[i]? = some y,
  λi H v H'=>∃(c:wf)(x y:V),v=.ref c/\H c=none/\(∀xs,cg t K H a xs->xs[i]? = some x)/\(∀ys,cg u K H b ys->ys[i]? = some y)/\H'=upd H c (.tup [x,y]),
  λi H=>∃xs ys,cg t K H a xs/\cg u K H b ys/\(xs.length=i\/(i<xs.length/\ys.length=i))⟩
theorem zwJ{P:wP}{w:wR}{K:wb}{elts:List Expr}{k1}{tpos:Pos}{t u:Bool}(a b z TI TO i1 i2:wf)(ap:ZA z TI TO i1 i2 [i1,a] [i2,b])(na:a≠i1)(nb:b≠i2) :
  gX P w K (.Tuple elts k1 tpos) (jH t u K a b) [z,TI,TO,i1,i2] z (λi h=>IsZip h z TI TO .none/\Vf h TI (.ref i1) (.ref i2)/\(∃p q,Vf h TO p q)/\iB t h i1 a i/\iB u h i2 b i) where
 mem:=by simp
 obj:=λi h st c hc=>by
  obtain⟨hz,hi,⟨p,q,ho⟩,s1,s2⟩:=st;simp only[wE,WM,or_false]at hc;rcases hc with rfl | rfl | rfl | rfl | rfl
  ·exact⟨_,hz,λv z=>by cases (show Data.fields _=Data.cell v from z)⟩
  ·exact⟨_,hi,λv z=>by cases (show Data.seq _ _=Data.cell v from z)⟩
  ·exact⟨_,ho,λv z=>by cases (show Data.seq _ _=Data.cell v from z)⟩
  ·exact s1.obj
  ·exact s2.obj
 keep:=λi h h' st k=>by
  obtain⟨hz,hi,⟨p,q,ho⟩,s1,s2⟩:=st;exact⟨k z (by simp) _ hz,k TI (by simp) _ hi,⟨p,q,k TO (by simp) _ ho⟩,s1.at λo e=>k i1 (by simp) o e,s2.at λo e=>k i2 (by simp) o e⟩
 item:=by
  intro X hP hw hK hc i pins s σ H E I hf st hg;subst hP hw hK;obtain⟨hz,hi,⟨p,q,ho⟩,s1,s2⟩:=st;obtain⟨xs,x,ys,y,hq1,hx,hq2,hy⟩:=hg;obtain⟨its,r1,p1⟩:=I.ik hq1;obtain⟨jts,r2,p2⟩:=I.ik hq2;obtain⟨ux,hux,rux⟩:=r1.get hx;obtain⟨uy,huy,ruy⟩:=r2.get hy
  have lt1:i<its.toArray.size:=by
   rcases wT i its.length with q | q
   ·simpa using q
   ·rw[wX q]at hux;cases hux
  have lt2:i<jts.toArray.size:=by
   rcases wT i jts.length with q | q
   ·simpa using q
   ·rw[wX q]at huy;cases huy
  have hT:s.TypeIs (.ref z) "zip":=⟨_,hz,rfl⟩;unfold pyNext
  refine wg (wpAny_attempt (wpAny_callSpecial?_slot (name:=WW "__next__") hT QX (WN QX hT u3
   (zCX (yV (A:=X.A.in1) t (I.ok.hd hc) i1 a na its.toArray) (yV (A:=X.A.in1) u (I.ok.hd hc) i2 b nb jts.toArray) ap hz hi ho ⟨s1,p1⟩ ⟨s2,p2⟩ lt1 lt2 λv1 v2 h1 tk e1 e2 hz1 ho1 st1 st2 hT1 hk=>wp ?_) (uD _))))
  have ev1:v1=ux:=by
   have e1':its[i]? = some v1:=by simpa using e1
   rw[hux]at e1';exact(wV e1').symm
  have ev2:v2=uy:=by
   have e2':jts[i]? = some v2:=by simpa using e2
   rw[huy]at e2';exact(wV e2').symm
  subst ev1 ev2
  have I1:Inv X pins σ (upd H s.heap.objs.size (.tup [x,y])) {s with heap:=s.heap.push {cls:=.type "tuple",data:=.seq ([v1,v2]:List we).toArray},toks:=tk} :=
   I.laid (λc o q=>wj _ q) (wu _) (show cz X.prog X.w _ _ _ (.tup [x,y])from⟨ku (by simp),_,.cons rux (.cons ruy .nil),qJ _ _⟩)
  have ltf:∀c∈[z,TI,TO,i1,i2],c<s.heap.objs.size:=λc hc=>by
   simp only[wE,WM,or_false]at hc;rcases hc with rfl | rfl | rfl | rfl | rfl
   ·exact wF hz
   ·exact wF hi
   ·exact wF ho
   ·obtain⟨o,e,_⟩:=s1.obj;exact wF e
   ·obtain⟨o,e,_⟩:=s2.obj;exact wF e
  have hf1:∀c∈[z,TI,TO,i1,i2],dE X pins (upd H s.heap.objs.size (.tup [x,y])) c:=λc hc=>⟨by rw[cX (ve (ltf c hc))];exact(hf c hc).1,(hf c hc).2⟩
  refine⟨_,rfl,wpAny_letOwnedTupleGo_zip hz1 λh2 hz2 hs2=>?_⟩;have hs2:vW z h1 h2:=hs2
  refine⟨.ref s.heap.objs.size,_,Inv.nu (s:={s with heap:=s.heap.push {cls:=.type "tuple",data:=.seq ([v1,v2]:List we).toArray},toks:=tk}) (ch:=[z,TI,TO,i1,i2]) I1 (λc o hc q=>?_) hf1,rfl,
   ⟨_,x,y,rfl,I.aB.fresh (wu _),λzs hzs=>by rw[I.Hw hzs hq1];exact hx,λzs hzs=>by rw[I.Hw hzs hq2];exact hy,rfl⟩,
   ⟨hz2,hs2.extBut _ _ ap.a1 (hk _ _ ap.a1 ap.a5 ap.a6 ap.a7 hi),⟨_,_,hs2.extBut _ _ ap.a2 ho1⟩,st1.1.at λo e=>hs2.extBut _ _ ap.a3 e,st2.1.at λo e=>hs2.extBut _ _ ap.a4 e⟩,λc hc=>(hf1 c hc).1⟩
  have c1:c≠z:=λq=>hc (by simp[q])
  have c2:c≠TO:=λq=>hc (by simp[q])
  have c3:c≠i1:=λq=>hc (by simp[q])
  have c4:c≠i2:=λq=>hc (by simp[q])
  refine hs2.extBut _ _ c1 ?_
  by_cases hcs:c=s.heap.objs.size
  ·subst hcs
   rw[wC _ rfl]at q;cases q;exact hT1
  ·exact hk c o c1 c2 c3 c4 (by rw[Qw _ _ _ hcs]at q;exact q)
 done:=by
  intro X hP hw hK hc i pins s σ H E I hf st hg;subst hP hw hK;obtain⟨hz,hi,⟨p,q,ho⟩,s1,s2⟩:=st;obtain⟨xs,ys,hq1,hq2,hend⟩:=hg;obtain⟨its,r1,p1⟩:=I.ik hq1;obtain⟨jts,r2,p2⟩:=I.ik hq2;have e1:=r1.length;have e2:=r2.length;have hT:s.TypeIs (.ref z) "zip":=⟨_,hz,rfl⟩;unfold pyNext
  refine wg (wpAny_attempt (wpAny_callSpecial?_slot (name:=WW "__next__") hT QX (WN QX hT u3
   (zC3 (k:=i) (yV (A:=X.A.in1) t (I.ok.hd hc) i1 a na its.toArray) (yV (A:=X.A.in1) u (I.ok.hd hc) i2 b nb jts.toArray) ap hz hi ho ⟨s1,p1⟩ ⟨s2,p2⟩ (by simp only[wG];lia) λh' y tk hk hx'=>?_) (uD _))))
  obtain⟨o,ho',hcl⟩:=hx';refine wg (V9 (T:="StopIteration") (b:=true) ⟨o,ho',hcl⟩ isSubtype_stop (wp ⟨rfl,?_⟩));exact Inv.nu (ch:=[z,TI,TO,i1,i2]) I (λc o hc e=>hk c o (λq=>hc (by simp[q])) (λq=>hc (by simp[q])) (λq=>hc (by simp[q])) (λq=>hc (by simp[q])) e) hf
 self:=λ_ _ _ _ _ st h=>wpAny_pyIter_zip st.1 h
abbrev yY(h:wK)(a:wf):wK:=h.push {cls:=.type "tuple_iterator",data:=.fields #[.ref a,.int 0 0]}
abbrev tV(h:wK)(a b:wf):wK:=(yY h a).push {cls:=.type "tuple_iterator",data:=.fields #[.ref b,.int 0 0]}
abbrev zw(h:wK)(a b:wf):wK:=(tV h a b).push {cls:=.type "tuple",data:=.seq #[.ref h.objs.size,.ref (yY h a).objs.size]}
abbrev rR(h:wK)(a b:wf):wK:=(zw h a b).push {cls:=.type "tuple",data:=.seq #[.none,.none]}
abbrev mH(h:wK)(a b:wf):wK:=(rR h a b).push {cls:=.type "zip",data:=.fields #[.none,.bool false,.bool false,.ref (tV h a b).objs.size,.ref (zw h a b).objs.size]}
theorem zr9(a b:wf)(xs ys:Array we):Meets (Builtin.«zip.__new__» ⟨[.type "zip",.ref a,.ref b],[]⟩) (λ_ R s=>s.heap.IsTuple a xs/\s.heap.IsTuple b ys/\R (.ok (.ret (.ref (rR s.heap a b).objs.size))) {s with heap:=mH s.heap a b}) :=
 .of_wp λprog w A R s h=>by
  obtain⟨hp,g,d,tk,os⟩:=s;obtain⟨ha,hb,h⟩:=h;have hsub:=sub_zip;have hA:qI (qr ⟨hp,g,d,tk,os⟩) a xs:=ha;have hB:qI (qr ⟨hp.push {cls:=.type "tuple_iterator",data:=.fields #[.ref a,.int 0 0]},g,d,tk,os⟩) b ys:=hb.at λo e=>wj _ e
  wp_walk using WL hA,WL hB
  exact⟨_,rfl,h⟩
section
variable{prog:wP}{w:wR}{A:vj}{E:we->wk->Prop}{s:wk}
theorem Z6{a b:wf}{xs ys:Array we}{Q:we->wk->Prop}(ha:s.heap.IsTuple a xs)(hb:s.heap.IsTuple b ys)
  (fin:∀h',IsZip h' (s.heap.objs.size+4) (s.heap.objs.size+2) (s.heap.objs.size+3) .none->Vf h' (s.heap.objs.size+2) (.ref s.heap.objs.size) (.ref (s.heap.objs.size+1))->Vf h' (s.heap.objs.size+3) .none .none ->
   h'.IsTupleIter s.heap.objs.size a 0->h'.IsTupleIter (s.heap.objs.size+1) b 0->(∀c o,s.heap.get? c=some o->h'.get? c=some o)->Q (.ref (s.heap.objs.size+4)) {s with heap:=h'}):wA (model prog w) A (call (.type "zip") [.ref a,.ref b]) Q E s:=by
 refine callType_new X5 (by decide) (xN _ _) (Xa _ _) (λobj=>QY obj _ _) Xb (zr9 a b xs ys) ⟨ha,hb,?_⟩;have z1:(yY s.heap a).objs.size=s.heap.objs.size+1:=Wf ..;have z2:(tV s.heap a b).objs.size=s.heap.objs.size+2:=by rw[Wf,z1]
 have z3:(zw s.heap a b).objs.size=s.heap.objs.size+3:=by rw[Wf,z2]
 have z4:(rR s.heap a b).objs.size=s.heap.objs.size+4:=by rw[Wf,z3]
 have g5:(mH s.heap a b).get? (rR s.heap a b).objs.size=some _:=wC _ rfl;have g4:(mH s.heap a b).get? (zw s.heap a b).objs.size=some _:=wj _ (wC _ rfl);have g3:(mH s.heap a b).get? (tV s.heap a b).objs.size=some _:=wj _ (wj _ (wC _ rfl));have g2:(mH s.heap a b).get? (yY s.heap a).objs.size=some _:=wj _ (wj _ (wj _ (wC _ rfl)));have g1:(mH s.heap a b).get? s.heap.objs.size=some _:=wj _ (wj _ (wj _ (wj _ (wC _ rfl))))
 show _/\_
 rw[z2,z3,z4]at g5;rw[z1,z2]at g3;rw[z3]at g4;rw[z1]at g2;rw[z4];exact⟨⟨_,g5,rfl⟩,fin _ g5 g3 g4 ⟨_,g1,rfl,rfl⟩ ⟨_,g2,rfl,rfl⟩ λc o x=>wj _ (wj _ (wj _ (wj _ (wj _ x))))⟩
end
def De(t u:Bool)(K:wb)(ta:TA):TI:=λσ H R=>ta σ H λvs H1=>∃a b,vs=[.ref a,.ref b]/\(∃xs,cg t K H1 a xs)/\(∃ys,cg u K H1 b ys)/\R (jH t u K a b) H1
theorem Be:Wk "zip"=some (.type "zip"):=by decide +kernel
theorem m5{x a b:wf}(h:x≠a)(k:x≠b):x ∉ [a,b]:=by simp[h,k]
theorem YD{n a b:Nat}(la:a<n)(lb:b<n):ZA (n+4) (n+2) (n+3) n (n+1) [n,a] [n+1,b] where
 a1:=ve (by lia)
 a2:=ve (by lia)
 a3:=ve (by lia)
 a4:=ve (by lia)
 a5:=ve (by lia)
 a6:=Wb (by lia)
 a7:=Wb (by lia)
 a8:=Wb (by lia)
 a9:=Wb (by lia)
 b0:=ve (by lia)
 b1:=m5 (Wb (by lia)) (Wb (by lia))
 b2:=m5 (Wb (by lia)) (Wb (by lia))
 b3:=m5 (Wb (by lia)) (Wb (by lia))
 b4:=m5 (Wb (by lia)) (Wb (by lia))
 b5:=m5 (ve (by lia)) (Wb (by lia))
 b6:=m5 (Wb (by lia)) (Wb (by lia))
theorem me{X:Cx}{elts:List Expr}{k1}{tpos:Pos}{pins:List (wf × Obj)}{σ : L2.St}{H:Hp}{s:wk}{R:It->Hp->Prop}{h':wK}{E:we->wk->Prop}{t u:Bool}{a b:wf}(I:Inv X pins σ H s)(la:a<s.heap.objs.size)(lb:b<s.heap.objs.size)
  (hz:IsZip h' (s.heap.objs.size+4) (s.heap.objs.size+2) (s.heap.objs.size+3) .none) (hi:Vf h' (s.heap.objs.size+2) (.ref s.heap.objs.size) (.ref (s.heap.objs.size+1))) (ho:Vf h' (s.heap.objs.size+3) .none .none)
  (s1:iB t h' s.heap.objs.size a 0) (s2:iB u h' (s.heap.objs.size+1) b 0) (kp:∀c o,s.heap.get? c=some o->h'.get? c=some o) (q:R (jH t u X.K a b) H):wA (model X.prog X.w) X.A (pyIter (.ref (s.heap.objs.size+4))) (Dq X pins σ (.Tuple elts k1 tpos) R) E {s with heap:=h'}:=by
 refine wpAny_pyIter_zip hz ?_;refine⟨s.heap.objs.size+4,[s.heap.objs.size+4,s.heap.objs.size+2,s.heap.objs.size+3,s.heap.objs.size,s.heap.objs.size+1],_,_,H,rfl,I.kept (t':=s.toks) kp,zwJ a b _ (s.heap.objs.size+2) (s.heap.objs.size+3) s.heap.objs.size (s.heap.objs.size+1) (YD la lb) (ve la) (ve (qy lb)),⟨hz,hi,⟨_,_,ho⟩,s1,s2⟩,λc hc=>?_,q⟩
 ·have hb':s.heap.objs.size<=c:=by
   simp only[wE,WM,or_false]at hc;rcases hc with rfl | rfl | rfl | rfl | rfl
   ·exact V4 _ 4
   ·exact V4 _ 2
   ·exact V4 _ 3
   ·exact wu _
   ·exact V4 _ 1
  exact I.iq hb' (I.aB.fresh hb')
theorem zyf{X:Cx}{elts:List Expr}{k1}{tpos p pos:Pos}{l m:Expr}{ta:TA}(hg:Gl X "zip")(hm:X.mg "zip"=none)(ha:PA X [l,m] ta)(hs:vg [l,m] X.env=[(false,eval l X.env),(false,eval m X.env)]:=by rfl)(hs2:vg [m] X.env=[(false,eval m X.env)]:=by rfl) :
  PI X (.Tuple elts k1 tpos) (.Call (.Name "zip" p) [l,m] [] pos) (De false false X.K ta):=by
 intro pins s σ H R I h;refine Call_ (gb I hg hm Be (vS (aE (ha pos pins s σ H _ I h) λus s1 ⟨vs,H1,I1,r1,q1⟩=>?_) (by rw[hs,hs2]) (by rw[hs2];rfl)));obtain⟨a,b,rfl,⟨xs,hq1⟩,⟨ys,hq2⟩,q⟩:=q1;obtain⟨u,v,rfl,ru,rv⟩:=kN r1;cases ru;cases rv;obtain⟨its,_,p1⟩:=I1.ik hq1;obtain⟨jts,_,p2⟩:=I1.ik hq2;have la:a<s1.heap.objs.size:=by obtain⟨o,e,_⟩:=(show s1.heap.IsList a its.toArray from p1);exact wF e
 have lb:b<s1.heap.objs.size:=by obtain⟨o,e,_⟩:=(show s1.heap.IsList b jts.toArray from p2);exact wF e
 exact call_zip_2 p1 p2 λh' hz hi ho t1 t2 _ kp=>me (t:=false) (u:=false) I1 la lb hz hi ho t1 t2 kp q
theorem cg.same{t:Bool}{K:wb}{H H':Hp}{a:wf}{xs:List V}(s:af H H')(h:cg t K H a xs):cg t K H' a xs:=by
 cases t
 ·exact s.seq h
 ·exact s.d9 h
def Nc(t u:Bool)(K:wb)(g:TG)(tb:TS)(D:bY)(σ : L2.St)(vs:List V)(H1:Hp):Prop:=∃a b,vs=[.ref a,.ref b]/\(∃xs,cg t K H1 a xs)/\(∃ys,cg u K H1 b ys) /\
 ∃W:Nat->Nat->L2.St->Hp->Prop,(∃m,W 0 m σ H1) /\ ∀i m σ H,W i m σ H ->
  ((jH t u K a b).stop i H/\D.nx σ H)\/((jH t u K a b).go i H /\ ∃M:L2.St->Hp->Prop,(∀σ' H',M σ' H'->∃m',m'<m/\W (i+1) m' σ' H') /\ ∀x H',(jH t u K a b).eI i H x H'->g x σ H' λσ2 H2=>tb {D with nx:=M,ct:=M,bk:=D.nx} σ2 H2)
def BS(t u:Bool)(K:wb)(g:TG)(tt:TT)(te:TE)(src:List (Option Nat))(σ : L2.St)(vs:List V)(H1:Hp)(Q:VK):Prop:=∃a b,vs=[.ref a,.ref b]/\(∃xs,cg t K H1 a xs)/\(∃ys,cg u K H1 b ys) /\
 ∀D,H1 D=none->g9 g tt te (jH t u K a b) D (cF src σ) (upd H1 D (.lst [])) (λH'=>Q (.ref D) H')
section
variable{t u:Bool}{K:wb}{ta:TA}{g:TG}{tb:TS}{tt:TT}{te:TE}{D:bY}{σ : L2.St}{H:Hp}{Q:VK}{a b:wf}{xs ys:List V}{src:List (Option Nat)}{o0 o0':Option V}{tl:L2.St}
theorem Zc(h:ta σ H λvs H1=>Nc t u K g tb D σ vs H1):jq (De t u K ta) g tb D σ H:=h
theorem N9(hx:cg t K H a xs)(hy:cg u K H b ys)(hxy:xs.length=ys.length)(Pv:Nat->L2.St->Hp->Prop)(h0:Pv 0 σ H)(hl:∀i σ H,i<=xs.length->Pv i σ H->cg t K H a xs/\cg u K H b ys)
  (hs:∀i x y σ H c H',xs[i]? = some x->ys[i]? = some y->Pv i σ H->H c=none->af H H'->H' c=some (.tup [x,y])->g (.ref c) σ H' λσ2 H2=>tb {D with nx:=Pv (i+1),ct:=Pv (i+1),bk:=D.nx} σ2 H2) (hd:∀σ H,Pv xs.length σ H->D.nx σ H):Nc t u K g tb D σ [.ref a,.ref b] H:=by
 refine⟨a,b,rfl,⟨xs,hx⟩,⟨ys,hy⟩,λi m σ H=>i+m=xs.length/\Pv i σ H,⟨xs.length,by lia,h0⟩,?_⟩;rintro i m σ H ⟨him,hp⟩;obtain⟨hq1,hq2⟩:=hl i σ H (by lia) hp
 by_cases hm:m=0
 ·have e:i=xs.length:=by lia
  subst e;exact .inl ⟨⟨xs,ys,hq1,hq2,.inl rfl⟩,hd _ _ hp⟩
 ·have hi:i<xs.length:=by lia
  have hj:i<ys.length:=by lia
  refine .inr ⟨⟨xs,xs[i],ys,ys[i],hq1,by simp[hi],hq2,by simp[hj]⟩,λσ' H'=>Pv (i+1) σ' H',λσ' H' h=>⟨m-1,by lia,by lia,h⟩,?_⟩;rintro v H' ⟨c,x,y,rfl,hn,hx',hy',rfl⟩;exact hs i x y σ H c _ (hx' xs hq1) (hy' ys hq2) hp hn (af.upd hn) bW
def jh(H:Hp)(tl:L2.St)(Rel:Nat->V->Hp->Prop)(D:wf)(i:Nat)(zs:List V)(σ':L2.St)(H':Hp):Prop :=
 (∃o1 o2,σ'=o1::o2::tl)/\H D=none/\af H H'/\H' D=some (.lst zs)/\zs.length=i /\ ∀j y,zs[j]? = some y->Rel j y H'
theorem rO{Rel:Nat->V->Hp->Prop}{D:wf}{i:Nat}{zs:List V}{σ' σ3:L2.St}{H1 H5:Hp}{y:V}(inv:jh H tl Rel D i zs σ' H1)(hi:i<=1000)(hk:∀i v H1 H2,aO H1 H2->Rel i v H1->Rel i v H2)(hσ : ∃o1 o2,σ3=o1::o2::tl)(s:af H1 H5)(r:Rel i y H5):nG (jh H tl Rel) D i σ3 y H5:=by
 obtain⟨_,hn,s1,hD,hl,hr⟩:=inv;have hD5:=s _ _ hD;refine dC hD5 (by lia) λH6 E6 e6=>⟨hσ,hn,(s1.trans s).grow hn E6,e6,by simp[hl],λj z hz=>?_⟩
 have k6:aO H5 H6:=E6.keep hD5;rcases wT j zs.length with hj | hj
 ·rw[Wu hj]at hz
  exact hk _ _ _ _ (s.keep.trans k6) (hr j z hz)
 ·have hj':j=zs.length:=by
   rcases wT zs.length j with q | q
   ·rw[wX (by simp;lia)]at hz;cases hz
   ·lia
  subst hj';rw[Wr (wu _),xL]at hz;cases hz;rw[hl];exact hk _ _ _ _ k6 r
theorem LH(hx:cg t K H a xs)(hy:cg u K H b ys)(hxy:xs.length=ys.length)(hsrc:cF src σ = o0::o0'::tl)(Rel:Nat->V->Hp->Prop)(hk:∀i v H1 H2,aO H1 H2->Rel i v H1->Rel i v H2)
  (hs:∀D i x y zs o1 o2 H1 c,xs[i]? = some x->ys[i]? = some y->jh H tl Rel D i zs (o1::o2::tl) H1->H1 c=some (.tup [x,y])->fG (jh H tl Rel) g tt te D i (.ref c) (o1::o2::tl) H1)
  (hd:∀D zs H',H D=none->af H H'->H' D=some (.lst zs)->zs.length=xs.length->(∀j y,zs[j]? = some y->Rel j y H')->Q (.ref D) H'):BS t u K g tt te src σ [.ref a,.ref b] H Q:=by
 refine⟨a,b,rfl,⟨xs,hx⟩,⟨ys,hy⟩,λD hD=>⟨λi m σ' H'=>i+m=xs.length /\ ∃zs,jh H tl Rel D i zs σ' H',⟨xs.length,by lia,[],⟨o0,o0',hsrc⟩,hD,af.upd hD,bW,rfl,λj y z=>by simp at z⟩,?_⟩⟩;rintro i m σ' H' ⟨him,zs,inv⟩;have hq1:=cg.same inv.2.2.1 hx;have hq2:=cg.same inv.2.2.1 hy
 by_cases hm:m=0
 ·have e:i=xs.length:=by lia
  subst e;obtain⟨_,n,s,e,hl,r⟩:=inv;exact .inl ⟨⟨xs,ys,hq1,hq2,.inl rfl⟩,hd D zs H' n s e hl r⟩
 ·have hi:i<xs.length:=by lia
  have hj:i<ys.length:=by lia
  refine .inr ⟨⟨xs,xs[i],ys,ys[i],hq1,by simp[hi],hq2,by simp[hj]⟩,λσ2 H2=>∃zs,jh H tl Rel D (i+1) zs σ2 H2,λσ2 H2 h=>⟨m-1,by lia,by lia,h⟩,?_⟩;rintro v H2 ⟨c,x,y,rfl,hn,hx',hy',rfl⟩;obtain⟨⟨o1,o2,rfl⟩,n,s,e,hl,r⟩:=inv;have su:=af.upd (o:=.tup [x,y]) hn;exact hs D i x y zs o1 o2 _ c (hx' xs hq1) (hy' ys hq2) ⟨⟨o1,o2,rfl⟩,n,s.trans su,su _ _ e,hl,λj y hy=>hk _ _ _ _ su.keep (r j y hy)⟩ bW
end
theorem zBg{α : Type}(xs:List α)(k:Nat):gf xs none (some (k:Int))=xs.take k:=by
 unfold gf;rw[HT.HB,HT.HR,Ux,Nat.sub_zero];rcases Nat.le_total k xs.length with h | h
 ·rw[Xc h]
 ·rw[Nat.min_eq_right h,Wt,Vd h]
theorem zw3{α : Type}(xs:List α)(k:Nat)(h:k<=xs.length):gf xs (some (k:Int)) none=xs.drop k:=by
 unfold gf;rw[HT.HB,HT.HR,Xc h];exact Vd (by rw[qL];lia)
def kc(K:wb):List V->Hp->VK->Prop:=λxs H Q=>∃(p:wf)(bs:List Bool),xs=[.ref p]/\aG K H p (bs.map V.bl)/\Q (.bl (bs.all id)) H
theorem lW:Wk "all"=some (.builtin "all"):=by decide +kernel
theorem Tv{bs:List Bool} : ∀{us:List we},aI (bs.map V.bl) us->us=bs.map Value.bool:=by
 induction bs with
 | nil=>intro us r;rw[Qf]at r;cases r;rfl
 | cons b bs ih =>
  intro us r;rw[wZ]at r;cases r with
  | cons r1 r2 =>
   cases r1;rw[wZ,ih r2]
theorem zq5(bs:List Bool):((wo bs.length).all λi=>(bs[i]?).getD true)=bs.all id:=by
 rw[WS,WB,WB]
 constructor
 ·intro h b hb
  obtain⟨i,hi,rfl⟩:=Wj hb;have:=h i (wB.mpr hi);rw[wc hi]at this;exact this
 ·intro h i hi
  rw[wB]at hi;rw[wc hi];exact h _ (vc hi)
open PyProof.V PySem.Calls in
theorem mB{X:Cx}(hc:X.calm=true):ay X (.builtin "all") (kc X.K):=by
 intro pins s σ H xs us Q I r h;obtain⟨p,bs,rfl,hq,q⟩:=h;obtain⟨u,rfl,rx⟩:=fC r;cases rx;obtain⟨its,r',pl,hz⟩:=I.list hq;have hi:its=bs.map Value.bool:=Tv r';have hl:s.heap.IsList p its.toArray:=pl.isList;have hlt:p<s.heap.objs.size:=by obtain⟨_,e,_⟩:=hl;exact wF e
 refine call_all_walk (VM hl ?_)
 refine⟨s.heap.objs.size,[s.heap.objs.size,p],[s.heap.objs.size],its.toArray.size,_,_,λi=>(bs[i]?).getD true,rfl,Walks.list (A:=X.A.in1) (I.ok.hd hc) _ p (ve hlt) its.toArray,
  ⟨⟨_,wC _ rfl,rfl,rfl⟩,hl.push _⟩,λi v s' Q' E' hP hQ=>?_,λh' tk hk=>?_⟩
 ·have hP:its.toArray[i]? = some v:=hP
  rw[hi]at hP;simp only[List.getElem?_toArray,wz,Qz]at hP;obtain⟨b,e,rfl⟩:=hP;simp only[e,QI]at hQ;exact WG hQ
 ·have e:((wo its.toArray.size).all λi=>(bs[i]?).getD true)=bs.all id:=by
   rw[wG,hi,wd];exact zq5 bs
  rw[e];exact⟨.bl (bs.all id),H,I.kept (t':=tk) (λb x e=>hk b x (λhm=>by rw[vv.mp hm]at e;exact qg _ (wF e)) (wj _ e)),rfl,q⟩
theorem kh{K:wb}{H:Hp}{Q:VK}{p:wf}{bs:List Bool}(h:aG K H p (bs.map V.bl))(q:Q (.bl (bs.all id)) H):kc K [.ref p] H Q:=⟨p,bs,rfl,h,q⟩
section
variable{t u:Bool}{K:wb}{g:TG}{tt:TT}{te:TE}{σ : L2.St}{H:Hp}{Q:VK}{a b:wf}{xs ys:List V}{src:List (Option Nat)}{o0 o0':Option V}{tl:L2.St}
end
def O3(g:TG)(tb:TS)(D:bY)(σ : L2.St)(vs:List V)(H1:Hp):Prop:=∃i j:Int,vs=[.int i,.int j]/\(-(2^62)<=i/\i<2^62 /\ -(2^62)<=j/\j<2^62) /\
 ∃W:Nat->Nat->L2.St->Hp->Prop,(∃m,W 0 m σ H1) /\ ∀k m σ H,W k m σ H ->
  ((fB i (j-i).toNat).stop k H/\D.nx σ H)\/((fB i (j-i).toNat).go k H /\ ∃M:L2.St->Hp->Prop,(∀σ' H',M σ' H'->∃m',m'<m/\W (k+1) m' σ' H') /\ ∀x H',(fB i (j-i).toNat).eI k H x H'->g x σ H' λσ2 H2=>tb {D with nx:=M,ct:=M,bk:=D.nx} σ2 H2)
theorem YG{ta:TA}{g:TG}{tb:TS}{D:bY}{σ : L2.St}{H:Hp}(h:ta σ H λvs H1=>O3 g tb D σ vs H1):jq (BI ta) g tb D σ H:=h
theorem zsb{g:TG}{tb:TS}{D:bY}{σ : L2.St}{H:Hp}{lo hi:Int}(h0 : -1000000000<=lo)(h1:lo<1000000000)(h2 : -1000000000<=hi)(h3:hi<1000000000)(Pv:Nat->L2.St->Hp->Prop)(p:Pv 0 σ H)
  (hs:∀(i:Nat) σ H,i<(hi-lo).toNat->Pv i σ H->g (.int (lo+(i:Int))) σ H λσ2 H2=>tb {D with nx:=Pv (i+1),ct:=Pv (i+1),bk:=D.nx} σ2 H2)
  (hd:∀σ H,Pv (hi-lo).toNat σ H->D.nx σ H):O3 g tb D σ [.int lo,.int hi] H :=
 ⟨lo,hi,rfl,⟨by lia,by lia,by lia,by lia⟩,Km (lo:=lo) Pv p hs hd⟩
def rZ(K:wb):List V->Hp->VK->Prop:=λxs H Q=>∃x tp S T d b,xs=[x,.ref tp]/\aF K H tp [.ty S,.ty T]/\Is K H x d/\UA K (.type (kindOf d)) [.type S,.type T]=some b/\Q (.bl b) H
theorem KI{X:Cx} : ay X (.builtin "isinstance") (rZ X.K):=by
 intro pins s σ H xs us Q I r h;obtain⟨x,tp,S,T,d,b,rfl,ht,hd,e,q⟩:=h;obtain⟨u,w',rfl,rx,rt⟩:=kN r;cases (show w'=Value.ref tp from rt);obtain⟨tts,rv,⟨ot,ht1,ht2,n,ht3⟩,_⟩:=I.tuple ht;obtain⟨t1,t2,rfl,r1,r2⟩:=kN rv;cases (show t1=Value.type S from r1);cases (show t2=Value.type T from r2);obtain⟨c,dd,da,sl⟩:=ot;cases ht2;cases ht3;have fin:∀tk,EP X pins σ Q (.bool b) {s with toks:=tk}:=λtk=>⟨.bl b,H,I.tok _,rfl,q⟩
 cases d with
 | none =>
  cases mC.mp hd;cases (show u=Value.none from rx);exact VE uw I.de True.intro ht1 e (λz=>nomatch z) fin
 | bool y =>
  cases lT.mp hd;cases (show u=Value.bool y from rx);exact VE uz I.de True.intro ht1 e (λz=>nomatch z) fin
 | int i =>
  cases bN.mp hd;obtain⟨t,q⟩:=(show ∃t,u=Value.int i t from rx);cases q;exact VE uY I.de True.intro ht1 e (λz=>nomatch z) fin
 | str y =>
  cases kj.mp hd;obtain⟨t,q⟩:=(show ∃t,u=Value.str y t from rx);cases q;exact VE uZ I.de True.intro ht1 e (λz=>nomatch z) fin
 | tuple ds =>
  obtain⟨a,xs,e1,hq,_⟩:=bz.mp hd;subst e1;cases (show u=Value.ref a from rx);obtain⟨its,_,⟨o,h1,h2,_⟩,_⟩:=I.tuple hq;exact VE X1 I.de ⟨o,h1,h2⟩ ht1 e (λz=>nomatch z) fin
 | list ds =>
  obtain⟨a,xs,e1,hq,_⟩:=aW.mp hd;subst e1;cases (show u=Value.ref a from rx);obtain⟨its,_,⟨o,n,h1,h2,_⟩,_⟩:=I.list hq;exact VE uA I.de ⟨o,h1,h2⟩ ht1 e (λz=>nomatch z) fin
 | dict kv =>
  obtain⟨a,kvs,e1,hq⟩:=s_.mp hd;subst e1;cases (show u=Value.ref a from rx);obtain⟨_,_,vs,_,o,es,ep,h1,h2,_⟩:=(show cz X.prog X.w H s.heap a (.dK kvs)from I.aB a _ hq);exact VE uB I.de ⟨o,h1,h2.1⟩ ht1 e (λz=>nomatch z) fin
theorem YJ{K:wb}(d:wq):UA K (.type (kindOf d)) [.type "list",.type "tuple"]=some (fZ d || gn d):=by cases d<;>rfl
theorem rL{K:wb}{H:Hp}{Q:VK}{v:V}{tp:wf}{d:wq}(h:Is K H v d)(t:H tp=some (.tup [.ty "list",.ty "tuple"]))(q:Q (.bl (fZ d || gn d)) H):rZ K [v,.ref tp] H Q :=
 ⟨v,tp,"list","tuple",d,_,rfl,.of t,h,YJ d,q⟩
section
variable{X:Cx}{tg:Expr}
def Ct(K:wb)(tl:TE):TI:=λσ H R=>tl σ H λx H1=>(∃a,x=.ref a/\(∃xs,aG K H1 a xs)/\R (iE K a) H1)\/(∃a,x=.ref a/\(∃xs,aF K H1 a xs)/\R (iK K a) H1)
theorem kH{l:Expr}{tl:TE}(hl:PE X l tl):PI X tg l (Ct X.K tl):=by
 intro pins s σ H R I h;refine aE (hl pins s σ H _ I h) λv s1 ⟨x,H1,I1,r1,q1⟩=>?_
 rcases q1 with⟨a,e,⟨xs,hq⟩,q⟩ | ⟨a,e,⟨xs,hq⟩,q⟩
 ·subst e
  cases r1;obtain⟨its,rv,p,hz⟩:=I1.list hq;refine VM p.isList ?_;refine⟨s1.heap.objs.size,[s1.heap.objs.size],_,_,H1,rfl,I1.kept (t':=s1.toks) λb o e=>wj _ e,Pf a _,⟨_,wC _ rfl,rfl,rfl⟩,λb hb=>?_,q⟩;have e:b=s1.heap.objs.size:=by simpa using hb
  subst e;exact I1.iq (wu _) (I1.aB.fresh (wu _))
 ·subst e
  cases r1;obtain⟨its,rv,p,hz⟩:=I1.tuple hq;refine WL (show s1.heap.IsTuple a its.toArray from p) ?_;refine⟨s1.heap.objs.size,[s1.heap.objs.size],_,_,H1,rfl,I1.kept (t':=s1.toks) λb o e=>wj _ e,PQ a _,⟨_,wC _ rfl,rfl,rfl⟩,λb hb=>?_,q⟩;have e:b=s1.heap.objs.size:=by simpa using hb
  subst e;exact I1.iq (wu _) (I1.aB.fresh (wu _))
end
section
variable{K:wb}{g:TG}{tt:TT}{te ta tb' tc:TE}{tb:TS}{D:bY}{src:List (Option Nat)}{σ : St}{H:Hp}{Q:VK}{r r':R2}
theorem zva(h:ta σ H λx H1=>lF K g tt te src σ x H1 Q\/m6 K g tt te src σ x H1 Q):hJ src (Ct K ta) g tt te σ H Q:=h
theorem Te(h:te σ H λx H1=>Cc K g tb D σ x H1\/CO K g tb D σ x H1):jq (Ct K te) g tb D σ H:=h
theorem YS(h:ta σ H λx H1=>tb' σ H1 λy H2=>r x y H2 λz H3=>∃k,z=.bl k/\(if k=true then tc σ H3 λw' H4=>r' y w' H4 Q else Q (.bl false) H3)):Ba r r' ta tb' tc σ H Q:=h
theorem zA4{b:Bool}{P:Bool->Prop}(h:P b):∃k,V.bl b=.bl k/\P k:=⟨b,rfl,h⟩
end
def dO(a b:Rat)(xs:List Rat):wq:=.tuple [R a b,TN xs]
theorem C0(a b:Rat)(xs:List Rat):bV (dO a b xs)=true:=by rw[dO,bV,a_,a_,a_,Eg,II];rfl
theorem zBT{x y:Rat}(h:N x=N y):x=y:=by
 have h':PyData.tuple [.int x.num,.int (x.den:Int)]=PyData.tuple [.int y.num,.int (y.den:Int)]:=h
 injection h' with h1
 injection h1 with h2 h3
 injection h2 with h4
 injection h3 with h5 _
 injection h5 with h6
 exact Rat.ext h4 (by lia)
theorem cQ{K:wb}{H:Hp}{us:List V}{ds:List wq}{i:Nat}{x:V}(t:ag K H us ds)(h:us[i]? = some x):i<ds.length/\Is K H x (ds.getD i .none):=by
 have hl:=t.length
 have hi:i<ds.length:=by
  rcases wT i ds.length with z | z
  ·exact z
  ·rw[wX (by lia)]at h;cases h
 obtain⟨y,e,k⟩:=t.get (i:=i) (d:=ds.getD i .none) (by rw[wa,wc hi];rfl);rw[e]at h;cases h;exact⟨hi,k⟩
def Aj:List V->Hp->VK->Prop:=λxs H Q=>∃i j,xs=[.int i,.int j]/\Q (.int (if j<i then j else i)) H
theorem Nt{X:Cx}(hc:X.calm=true):ay X (.builtin "min") Aj:=zuf hc
theorem IS:Wk "min"=some (.builtin "min"):=by decide +kernel
theorem zyW{i j:Int}{H:Hp}{Q:VK}(q:∀m:Int,m<=i->m<=j->(m=i\/m=j)->Q (.int m) H):Aj [.int i,.int j] H Q:=⟨i,j,rfl,by
 split
 ·exact q j (by lia) (by lia) (.inr rfl)
 ·exact q i (by lia) (by lia) (.inl rfl)⟩
def Cb(K:wb)(a:wf):It :=
 ⟨λi H=>∃xs x,aG K H a xs/\xs[i]? = some x,λi H y H'=>∃t x,y=.ref t/\H t=none/\(∀xs,aG K H a xs->xs[i]? = some x)/\H'=upd H t (.tup [.int (i:Int),x]),λi H=>∃xs,aG K H a xs/\xs.length<=i⟩
theorem TM{P:wP}{w:wR}{K:wb}{elts:List Expr}{k1}{tpos:Pos}(a e it:wf)(hne:e≠it):gX P w K (.Tuple elts k1 tpos) (Cb K a) [e,it] e (λi h=>(∃old,IsEnum h e it (i:Int) old)/\h.IsListIter it a i) where
 mem:=by simp
 obj:=λi h st b hb=>by
  obtain⟨⟨old,he⟩,o,eo,c,d⟩:=st;rcases wE.mp hb with rfl | hb
  ·exact⟨_,he,λv z=>by cases (show Data.fields _=Data.cell v from z)⟩
  ·rw[vv.mp hb]
   exact⟨o,eo,λv z=>by rw[d]at z;cases z⟩
 keep:=λi h h' st k=>⟨let ⟨old,he⟩:=st.1;⟨old,k e (by simp) _ he⟩,st.2.at λo eo=>k it (by simp) o eo⟩
 item:=by
  intro X hP hw hK hc i pins s σ H E I hf st hg;subst hP hw hK;obtain⟨⟨old,he⟩,st⟩:=st;obtain⟨xs,x,hq,hx⟩:=hg;obtain⟨its,rv,p,hz⟩:=I.list hq;obtain⟨u,hu,ru⟩:=rv.get hx;have p':s.heap.IsList a its.toArray:=p.isList
  have hai:a≠it:=λz=>by
   subst z;obtain⟨o,e1,c1,_⟩:=st;obtain⟨o',e2,c2,_⟩:=p';rw[e1]at e2;cases e2;rw[c1]at c2;exact absurd c2 (by decide)
  have hae:e≠a:=λz=>by
   subst z;obtain⟨o',e2,c2,_⟩:=p';rw[he]at e2;cases e2;exact absurd (show Value.type "enumerate"=Value.type "list" from c2) (by decide)
  have hlt:i<its.toArray.size:=by
   rcases wT i its.length with z | z
   ·simpa using z
   ·rw[wX z]at hu;cases hu
  refine Qt (Draws.list (A:=X.A.in1) (I.ok.hd hc) it a hai its.toArray) he ⟨st,p'⟩ hlt hne (by simp[hne,hae]) λv h1 tk hv ho hs1 hT hsz hk=>?_
  have hvu:v=u:=by
   have hv':its[i]? = some v:=by simpa using hv
   rw[hu]at hv';exact(wV hv').symm
  subst hvu
  have I1:Inv X pins σ (upd H s.heap.objs.size (.tup [.int (i:Int),x])) {s with heap:=s.heap.push {cls:=.type "tuple",data:=.seq ([.int (i:Int) tk,v]:List we).toArray},toks:=tk+1} :=
   I.laid (λb o q=>wj _ q) (wu _) (show cz X.prog X.w _ _ _ (.tup [.int (i:Int),x])from⟨ku (by simp),_,.cons ⟨_,rfl⟩ (.cons ru .nil),qJ _ _⟩)
  have lt1:∀b∈[e,it],b<s.heap.objs.size:=λb hb=>by
   rcases wE.mp hb with rfl | hb
   ·exact wF he
   ·rw[vv.mp hb]
    obtain⟨o,eo,_⟩:=st;exact wF eo
  have hf1:∀b∈[e,it],dE X pins (upd H s.heap.objs.size (.tup [.int (i:Int),x])) b:=λb hb=>⟨by rw[cX (ve (lt1 b hb))];exact(hf b hb).1,(hf b hb).2⟩
  refine⟨_,rfl,qR ho λh2 he2 hs2=>?_⟩;refine⟨.ref s.heap.objs.size,_,Inv.nu (s:={s with heap:=s.heap.push {cls:=.type "tuple",data:=.seq ([.int (i:Int) tk,v]:List we).toArray},toks:=tk+1}) (ch:=[e,it]) I1 (λb o hb q=>?_) hf1,rfl,⟨_,x,rfl,I.aB.fresh (wu _),λys hy=>by rw[I.A0 hy hq];exact hx,rfl⟩,⟨⟨_,by simpa using he2⟩,hs1.1.at λo eo=>(hs2.2 it (Wz hne)).trans eo⟩,λb hb=>(hf1 b hb).1⟩;have hbe:b≠e:=λz=>hb (by simp[z])
  have hbi:b≠it:=λz=>hb (by simp[z])
  refine(hs2.2 b hbe).trans ?_
  by_cases hb2:b=s.heap.objs.size
  ·subst hb2
   rw[wC _ rfl]at q;cases q;exact hT
  ·exact hk b o hbe hbi (by rw[Qw _ _ _ hb2]at q;exact q)
 done:=by
  intro X hP hw hK hc i pins s σ H E I hf st hg;subst hP hw hK;obtain⟨⟨old,he⟩,st⟩:=st;obtain⟨xs,hq,hx⟩:=hg;obtain⟨its,rv,p,hz⟩:=I.list hq;have p':s.heap.IsList a its.toArray:=p.isList;have hl:=rv.length;have hT:s.TypeIs (.ref e) "enumerate":=⟨_,he,rfl⟩;unfold pyNext;refine wg (wpAny_attempt (wpAny_callSpecial?_slot (name:=WW "__next__") hT Vk (WN Vk hT QE ?_ (Qq _))))
  show wA _ _ (field (.ref e) 2 >>= _) _ _ _;refine wg (Wa he rfl (x:=.ref it) rfl ?_)
  refine wg (wpAny_nextOf_list_end (A:=X.A.in1) (I.ok.hd hc) st p' (by simp;lia) λh' y he' hx'=>?_);obtain⟨o,ho,hcl⟩:=hx';refine wg (V9 (T:="StopIteration") (b:=true) ⟨o,ho,hcl⟩ isSubtype_stop (wp ⟨rfl,?_⟩));obtain⟨f0,f1,f2,f3,f4,f5⟩:=hf it (by simp);exact I.turned (t':=s.toks) (λb o hb e=>he' b o hb e) f0 f1 f3 f4 f5
 self:=λ_ _ _ _ _ st h=>let ⟨_,he⟩:=st.1;VN he h
def O4(K:wb)(ta:TA):TI:=λσ H R=>ta σ H λvs H1=>∃a,vs=[.ref a]/\(∃xs,aG K H1 a xs)/\R (Cb K a) H1
theorem zww{X:Cx}{elts:List Expr}{k1}{tpos p pos:Pos}{l:Expr}{ta:TA}(hg:Gl X "enumerate")(hm:X.mg "enumerate"=none)(ha:PA X [l] ta)(hs:vg [l] X.env=[(false,eval l X.env)]:=by rfl) :
  PI X (.Tuple elts k1 tpos) (.Call (.Name "enumerate" p) [l] [] pos) (O4 X.K ta):=by
 intro pins s σ H R I h;refine Call_ (gb I hg hm Bj (vS (aE (ha pos pins s σ H _ I h) λus s1 ⟨vs,H1,I1,r1,q1⟩=>?_) hs rfl));obtain⟨a,rfl,⟨xs,hq⟩,q⟩:=q1;obtain⟨u,rfl,ru⟩:=fC r1;cases ru;obtain⟨its,rv,p,hz⟩:=I1.list hq;refine call_enumerate_list p.isList λh' he hit _ kp=>?_
 refine VN he ?_;refine⟨s1.heap.objs.size+1,[s1.heap.objs.size+1,s1.heap.objs.size],_,_,H1,rfl,I1.kept (t':=s1.toks) kp,TM a (s1.heap.objs.size+1) s1.heap.objs.size (xM _),⟨⟨_,he⟩,hit⟩,λb hb=>?_,q⟩
 have hb':s1.heap.objs.size<=b:=by
  rcases wE.mp hb with rfl | hb
  ·lia
  ·rw[vv.mp hb];exact wu _
 exact I1.iq hb' (I1.aB.fresh hb')
def Mc(K:wb)(g:TG)(tt:TT)(te:TE)(src:List (Option Nat))(σ : St)(vs:List V)(H1:Hp)(Q:VK):Prop:=∃a,vs=[.ref a]/\(∃xs,aG K H1 a xs) /\
 ∀D,H1 D=none->g9 g tt te (Cb K a) D (cF src σ) (upd H1 D (.lst [])) (λH'=>Q (.ref D) H')
section
variable{K:wb}{ta:TA}{g:TG}{tb:TS}{tt c:TT}{te:TE}{D:bY}{σ : St}{H:Hp}{Q:VK}{a:wf}{xs:List V}{src:List (Option Nat)}{o0 o0':Option V}{tl:St}
theorem ZI(h:ta σ H λvs H1=>Mc K g tt te src σ vs H1 Q):hJ src (O4 K ta) g tt te σ H Q:=h
theorem zvx(hx:aG K H a xs)(hsrc:cF src σ = o0::o0'::tl)(Rel:Nat->V->Hp->Prop)(hk:∀i v H1 H2,aO H1 H2->Rel i v H1->Rel i v H2)
  (hs:∀D i x zs o1 o2 H1 c,xs[i]? = some x->jh H tl Rel D i zs (o1::o2::tl) H1->H1 c=some (.tup [.int (i:Int),x])->fG (jh H tl Rel) g tt te D i (.ref c) (o1::o2::tl) H1)
  (hd:∀D zs H',H D=none->af H H'->H' D=some (.lst zs)->zs.length=xs.length->(∀j y,zs[j]? = some y->Rel j y H')->Q (.ref D) H'):Mc K g tt te src σ [.ref a] H Q:=by
 refine⟨a,rfl,⟨xs,hx⟩,λD hD=>⟨λi m σ' H'=>i+m=xs.length /\ ∃zs,jh H tl Rel D i zs σ' H',⟨xs.length,by lia,[],⟨o0,o0',hsrc⟩,hD,af.upd hD,bW,rfl,λj y z=>by simp at z⟩,?_⟩⟩;rintro i m σ' H' ⟨him,zs,inv⟩;have hq1:=inv.2.2.1.seq hx
 by_cases hm:m=0
 ·have e:i=xs.length:=by lia
  subst e;obtain⟨_,n,s,e,hl,r⟩:=inv;exact .inl ⟨⟨xs,hq1,wu _⟩,hd D zs H' n s e hl r⟩
 ·have hi:i<xs.length:=by lia
  refine .inr ⟨⟨xs,xs[i],hq1,by simp[hi]⟩,λσ2 H2=>∃zs,jh H tl Rel D (i+1) zs σ2 H2,λσ2 H2 h=>⟨m-1,by lia,by lia,h⟩,?_⟩;rintro v H2 ⟨c,x,rfl,hn,hx',rfl⟩;obtain⟨⟨o1,o2,rfl⟩,n,s,e,hl,r⟩:=inv;have su:=af.upd (o:=.tup [.int (i:Int),x]) hn;exact hs D i x zs o1 o2 _ c (hx' xs hq1) ⟨⟨o1,o2,rfl⟩,n,s.trans su,su _ _ e,hl,λj y hy=>hk _ _ _ _ su.keep (r j y hy)⟩ bW
def NK(Pv:Nat->St->Hp->Prop)(m:Nat)(tb:TS)(D:bY)(σ':St)(H1:Hp):Prop :=
 ∃M:St->Hp->Prop,(∀σ2 H2,M σ2 H2->∃m',m'<m/\Pv m' σ2 H2)/\tb {D with nx:=M,ct:=M,bk:=D.nx} σ' H1
theorem Dt(Pv:Nat->St->Hp->Prop)(m0:Nat)(h0:Pv m0 σ H)(hs:∀m σ' H',Pv m σ' H'->c σ' H' λb H1=>if b=true then NK Pv m tb D σ' H1 else D.nx σ' H1):B2 c tb D σ H:=⟨Pv,⟨m0,h0⟩,hs⟩
theorem Cy{Pv:Nat->St->Hp->Prop}{m:Nat}{σ':St}{H1:Hp}(h:tb {D with nx:=λσ2 H2=>∃m',m'<m/\Pv m' σ2 H2,ct:=λσ2 H2=>∃m',m'<m/\Pv m' σ2 H2,bk:=D.nx} σ' H1):NK Pv m tb D σ' H1:=⟨_,λ_ _ q=>q,h⟩
def Bl(K:wb)(x:V)(H:Hp)(Q:Bool->Hp->Prop):Prop:=∃k,Fj K x H k/\Q k H
def J6(K:wb)(te:TE):TT:=λσ H Q=>te σ H λx H'=>Bl K x H' Q
theorem EY{X:Cx}{e:Expr}{t:TE}(h:PE X e t)(he:∀whole,isTrue e X.env whole=(do let v <- whole;standAt e.pos;holding [v] (truthy v)):=by intro _;rfl):PT X e (J6 X.K t):=Za h he
theorem Ts{QB:Bool->Hp->Prop}(h:te σ H λx H'=>Bl K x H' QB):J6 K te σ H QB:=h
theorem B0{QB:Bool->Hp->Prop}{v:V}{ds:List wq}(h:Is K H v (.tuple ds))(q:QB (!ds.isEmpty) H):Bl K v H QB:=by
 obtain⟨p,us,rfl,hs,t⟩:=bz.mp h;have hl:=t.length;refine⟨_,.inr (.inl ⟨us,hs,rfl⟩),?_⟩
 have e:us.isEmpty=ds.isEmpty:=by
  cases us<;>cases ds<;>simp_all
 rw[e];exact q
end
theorem NV:∀(ys:List V)(us:List we),ys.length=us.length->(∀(i:Nat) y u,ys[i]? = some y->us[i]? = some u->aT y u)->aI ys us
 | [],[],_,_=>.nil
 | [],_::_,h,_=>by simp at h
 | _::_,[],h,_=>by simp at h
 | y::ys,u::us,h,r=>.cons (r 0 y u rfl rfl) (NV ys us (by simpa using h) λi y u h1 h2=>r (i+1) y u h1 h2)
def vz(l:List Nat):List V:=l.map λ(w:Nat)=>V.int (w:Int)
theorem fu(l:List Nat):(vz l).length=l.length:=wd ..
def DI(vs:List V)(H1:Hp)(Q:VK):Prop:=∃j:Int,vs=[.int j]/\0<=j/\j<=1000 /\ ∀l,H1 l=none->Q (.ref l) (upd H1 l (.lst (vz (wo j.toNat))))
def Jm(ta:TA):TE:=λσ H Q=>ta σ H λvs H1=>DI vs H1 Q
theorem tR{X:Cx}{a:Expr}{ta:TA}{p p2 pos pos2:Pos}(hc:X.calm=true)(hg:Gl X "list")(hm:X.mg "list"=none)(hg2:Gl X "range")(hm2:X.mg "range"=none)(ha:PA X [a] ta)(hs:vg [a] X.env=[(false,eval a X.env)]:=by rfl)
  (hs2:vg [Expr.Call (.Name "range" p2) [a] [] pos2] X.env=[(false,eval (.Call (.Name "range" p2) [a] [] pos2) X.env)]:=by rfl):PE X (.Call (.Name "list" p) [.Call (.Name "range" p2) [a] [] pos2] [] pos) (Jm ta):=by
 intro pins s σ H Q I h;refine Call_ (gb I hg hm oz ?_);refine vS ?_ hs2 rfl;rw[hs2]
 show wA _ _ (spliced ((false,eval _ X.env)::Vn pos [])) _ _ s
 refine XX ?_;refine Call_ (gb I hg2 hm2 boot_range (vS (aE (ha pos2 pins s σ H _ I h) λus s1 ⟨vs,H1,I1,r1,q1⟩=>?_) hs rfl));obtain⟨j,e,j0,j1,q⟩:=q1;subst e;obtain⟨u,rfl,ru⟩:=fC r1;obtain⟨t,rfl⟩:=ru;refine call_range_1 ?_;refine uo ?_;have I2:Inv X pins σ H1 {s1 with heap:=s1.heap.push {cls:=.type "range",data:=.fields #[.int 0 s1.toks,.int j t,.int 1 (s1.toks+1)]},toks:=s1.toks+1+1}:=I1.kept λb o e=>wj _ e
 refine call_list_range (n:=j.toNat) (I1.ok.hd hc) (U5 ..) (small_one (by lia) (by lia) (by lia) (by lia)) (by rw[rangeSize_one];split<;>lia) (by lia) λh' tk acc c hk hD hI=>?_
 refine⟨.ref _,_,I2.laid (t':=tk) hk (wu _) ?_,rfl,q _ (I2.aB.fresh (wu _))⟩;refine⟨ku (by rw[fu,vi];lia),acc.toList,c,NV _ _ (by rw[fu,vi,wD,hI.1]) λi y u hy hu=>?_,by simpa using hD⟩;have hu':acc[i]? = some u:=by simpa using hu
 obtain⟨t',e'⟩:=hI.2 i u hu'
 have hi:i<j.toNat:=by
  have:=(Vh.mp hu').1;rw[hI.1]at this;exact this
 have hy':y=V.int (i:Int):=by
  unfold vz at hy;rw[wz,Q3 hi]at hy;exact(wV hy).symm
 subst hy';exact⟨t',by rw[e'];congr 1;lia⟩
theorem zot{ta:TA}{σ : St}{H:Hp}{Q:VK}(h:ta σ H λvs H1=>DI vs H1 Q):Jm ta σ H Q:=h
theorem sL{n:Nat}{H:Hp}{Q:VK}(hn:n<=1000)(q:∀l H',H l=none->af H H'->H' l=some (.lst (vz (wo n)))->Q (.ref l) H'):DI [V.int (n:Int)] H Q :=
 ⟨_,rfl,by lia,by lia,λl hl=>q l _ hl (af.upd hl) (by rw[wH];exact bW)⟩
theorem yG(w:Nat)(l:List Nat):sj (.int (w:Int)) (vz l)=decide (w∈l):=by
 unfold sj vz
 induction l with
 | nil=>rfl
 | cons x l ih =>
  rw[wZ,XI,ih]
  show((x:Int) == (w:Int) || _)=_
  by_cases h:w=x
  ·subst h;simp
  ·have h':¬ (x:Int)=(w:Int):=λz=>h (by lia)
   simp[h,h']
theorem yN(l:List Nat):(vz l).all iX=true:=by
 unfold vz;rw[WB];intro y hy;obtain⟨w,_,rfl⟩:=wQ.mp hy
 rfl
section
variable{K:wb}{H H':Hp}{Q:VK}{v:V}{p:wf}{l:List Nat}{w:Nat}
theorem zy5(h:aF K H p (vz l))(q:Q (.bl (decide (w∈l))) H):eL K false (.int (w:Int)) (.ref p) H Q:=⟨p,vz l,rfl,.inr h,rfl,yN l,by rw[yG];exact q⟩
theorem Rl(h:aF K H p (vz l))(q:Q (.bl (!decide (w∈l))) H):eL K true (.int (w:Int)) (.ref p) H Q:=⟨p,vz l,rfl,.inr h,rfl,yN l,by rw[yG];exact q⟩
theorem Ob(h:aG K H p (vz l))(q:Q (.bl (decide (w∈l))) H):eL K false (.int (w:Int)) (.ref p) H Q:=⟨p,vz l,rfl,.inl h,rfl,yN l,by rw[yG];exact q⟩
theorem zrV(h:aG K H p (vz l))(q:Q (.bl (!decide (w∈l))) H):eL K true (.int (w:Int)) (.ref p) H Q:=⟨p,vz l,rfl,.inl h,rfl,yN l,by rw[yG];exact q⟩
def TW(l:List Nat):wq:=TZ (l.map λ(w:Nat)=>(w:Int))
theorem AB:Is K H v (TW l) ↔ ∃a,v=.ref a/\aF K H a (vz l):=by
 unfold TW vz;rw[eY,W3];exact Iff.rfl
theorem Ey(l:List Nat):bV (TW l)=true:=mT _
def cR(ws:List (List Nat)):wq:=.tuple (ws.map TW)
theorem mQ:∀ws:List (List Nat),a_ (ws.map TW)=true
 | []=>rfl
 | w::ws=>by rw[wZ,a_,Ey,mQ ws];rfl
theorem LP(ws:List (List Nat)):bV (cR ws)=true:=by rw[cR,bV];exact mQ ws
theorem kT{i:Nat}{x:V}(h:(vz l)[i]? = some x):∃hi:i<l.length,x=.int ((l[i]:Nat):Int):=by
 have hi:i<l.length:=by
  rcases wT i l.length with z | z
  ·exact z
  ·rw[wX (by rw[fu];exact z)]at h;cases h
 refine⟨hi,?_⟩;unfold vz at h;rw[wz,wc hi]at h;exact(wV h).symm
def GD(a b:Rat)(xs:List Rat):wq:=.tuple [N (1-bE xs),cR (cD a b xs),dO a b (cU a b xs)]
def jx(h:Rat)(ws:List (List Nat))(xs:List Rat):wq:=.tuple [N h,cR ws,TN xs]
theorem Ml(h:Rat)(ws:List (List Nat))(xs:List Rat):bV (jx h ws xs)=true:=by rw[jx,bV,a_,a_,a_,a_,yA,LP,II];rfl
def OX(a b:Rat)(xs:List Rat)(k:Nat):wq:=jx (dr a b xs (k+1)) (cD a b (bC a b xs k)) (bC a b xs (k+1))
def c_(a b:Rat)(xs:List Rat)(n:Nat):List wq:=(wo n).map (OX a b xs)
theorem yL{α : Type}(f : α -> wq)(hf:∀x,bV (f x)=true):∀l:List α,a_ (l.map f)=true
 | []=>rfl
 | x::l=>by rw[wZ,a_,hf,yL f hf l];rfl
theorem ag.snoc{vs:List V}{ds:List wq}{d:wq}(h:ag K H vs ds)(k:Is K H v d):ag K H (vs++[v]) (ds++[d]):=h.append (.cons k .nil)
theorem kS{l:List Nat}{i:Nat}(h:i<l.length):l.take (i+1)=l.take i++[l[i]]:=by
 rw[xC,wc h];rfl
theorem Tz{ds:List wq}{n:Nat}(h:Is K H v (.list ds))(e:ds.length=n)(q:Q (.int (n:Int)) H):bB K [v] H Q:=by
 obtain⟨a,xs,rfl,h,t⟩:=aW.mp h;exact dU h (by rw[t.length,e];exact q)
theorem zvi(h:Is K H v (TW l))(q:Q (.int (l.length:Int)) H):bB K [v] H Q:=kR h (by rw[wd];exact q)
end
theorem N0:∀ns:List Int,Ws (ns.map PyData.int) (ns.map PyData.int)=true
 | []=>by simp[Ws]
 | n::ns=>by rw[wZ,Ws,Dj,N0 ns];simp
theorem zAZ(l:List Nat):vn (TW l) (TW l)=true:=by unfold TW TZ;rw[vn,N0]
theorem ztX(a b:Rat)(xs:List Rat)(n:Nat):(c_ a b xs n).length=n:=by simp[c_]
theorem zrI(a b:Rat)(xs:List Rat)(n:Nat):c_ a b xs (n+1)=c_ a b xs n++[OX a b xs n]:=by
 unfold c_;rw[Vb,wL];rfl
theorem JX(a b:Rat)(xs:List Rat)(n:Nat):a_ (c_ a b xs n)=true:=yL _ (λk=>Ml _ _ _) _
theorem zwC{ps:List Rat}{l:List Nat}{w:Nat}(h:¬ ps.getD w 0<1):az ps (l++[w])=az ps l++[w]:=by
 unfold az;rw[WU,Vi,decide_eq_false h];rfl
theorem zui{ps:List Rat}{l:List Nat}{w:Nat}(h:ps.getD w 0<1):az ps (l++[w])=az ps l:=by
 unfold az;rw[WU,Vi,decide_eq_true h];exact vT _
theorem zuU{wave l:List Nat}{w:Nat}(h:¬ w∈wave):bP (l++[w]) wave=bP l wave++[w]:=by
 unfold bP;rw[WU];simp[Vi,h]
theorem zrK{wave l:List Nat}{w:Nat}(h:w∈wave):bP (l++[w]) wave=bP l wave:=by
 unfold bP;rw[WU];simp[Vi,h]
theorem OG(l:List Nat)(w:Nat):vz (l++[w])=vz l++[V.int (w:Int)]:=by unfold vz;rw[wL];rfl
theorem Zs{xs:List Rat}{j:Nat}(h:j<xs.length):(cB xs).getD j 0=xs.getD j 0+(1-bE xs):=by
 unfold cB;rw[wa,wz,wc h,wa,wc h];rfl
theorem Fl:∀ds:List wq,(∀d∈ds,vn d d=true)->Ws ds ds=true
 | [],_=>by simp[Ws]
 | d::ds,h=>by rw[Ws,h d (wN ..),Fl ds λe he=>h e (wI _ he)];rfl
theorem kJ{ds:List wq}(h:∀d∈ds,vn d d=true):vn (.tuple ds) (.tuple ds)=true:=by rw[vn];exact Fl ds h
theorem BG{ds:List wq}(h:∀d∈ds,vn d d=true):vn (.list ds) (.list ds)=true:=by rw[vn];exact Fl ds h
theorem TU(x:Rat):vn (N x) (N x)=true:=by rw[CZ];exact decide_eq_true rfl
theorem zCs(xs:List Rat):vn (TN xs) (TN xs)=true:=by rw[zAX];exact decide_eq_true rfl
theorem Kc(ws:List (List Nat)):vn (cR ws) (cR ws)=true:=kJ λd hd=>by
 obtain⟨w,_,rfl⟩:=wQ.mp hd;exact zAZ w
theorem IG{P:wq->Prop}{a b c:wq}(ha:P a)(hb:P b)(hc:P c):∀d∈[a,b,c],P d:=λd hd=>by
 simp only[wE,WM,or_false]at hd;rcases hd with rfl | rfl | rfl
 ·exact ha
 ·exact hb
 ·exact hc
theorem jW{P:wq->Prop}{a b:wq}(ha:P a)(hb:P b):∀d∈[a,b],P d:=λd hd=>by
 simp only[wE,WM,or_false]at hd;rcases hd with rfl | rfl
 ·exact ha
 ·exact hb
theorem Z3(h:Rat)(ws:List (List Nat))(xs:List Rat):vn (jx h ws xs) (jx h ws xs)=true:=kJ (IG (TU h) (Kc ws) (zCs xs))
def Sh(n:Nat)(d:wq):Prop:=d.canLay0=true/\d.depth<=n
theorem CA{n:Nat} : ∀ds:List wq,(∀d∈ds,Sh n d)->VJ ds=true/\QW ds<=n
 | [],_=>by simp[VJ,QW]
 | d::ds,h=>by
  have h1:=h d (wN ..);have h2:=CA ds λe he=>h e (wI _ he)
  rw[VJ,QW,h1.1,h2.1];exact⟨rfl,by have:=h1.2;have:=h2.2;lia⟩
theorem iQ{n:Nat}{ds:List wq}(h:∀d∈ds,Sh n d):Sh (n+1) (.tuple ds):=by
 have:=CA ds h;unfold Sh;rw[Vt,QV];exact⟨this.1,by have:=this.2;lia⟩
theorem v_{n:Nat}{ds:List wq}(h:∀d∈ds,Sh n d):Sh (n+1) (.list ds):=by
 have:=CA ds h;unfold Sh;rw[Vt,QV];exact⟨this.1,by have:=this.2;lia⟩
theorem Sh.mono{m n:Nat}{d:wq}(h:Sh m d)(e:m<=n):Sh n d:=⟨h.1,Wi h.2 e⟩
theorem Sh.shaped{n:Nat}{d:wq}(h:Sh n d)(e:n<=64):WK d=true:=by
 unfold WK;rw[h.1,W6];exact decide_eq_true (Wi h.2 e)
theorem lV(i:Int):Sh 1 (.int i):=⟨by simp[Vt],by simp[QV]⟩
theorem MF(x:Rat):Sh 2 (N x):=iQ (jW (lV _) (lV _))
theorem zCa(xs:List Rat):Sh 3 (TN xs):=iQ λd hd=>by
 obtain⟨x,_,rfl⟩:=wQ.mp hd;exact MF x
theorem Pr(ws:List (List Nat)):Sh 4 (cR ws):=iQ λd hd=>by
 obtain⟨w,_,rfl⟩:=wQ.mp hd;refine(iQ λe he=>?_:Sh 2 _).mono (by decide);obtain⟨i,_,rfl⟩:=wQ.mp he;exact lV i
theorem zAP(h:Rat)(ws:List (List Nat))(xs:List Rat):Sh 6 (jx h ws xs):=iQ (IG ((MF h).mono (by decide)) ((Pr ws).mono (by decide)) ((zCa xs).mono (by decide)))
theorem w_{K:wb}{H:Hp}{Q:VK}{v w:V}{d:wq}{n:Nat}(h:Is K H v d)(k:Is K H w d)(s:Sh n d)(e:n<=64)(r:vn d d=true)(q:Q (.bl false) H):eA K v w H Q:=Nj h k (s.shaped e) (s.shaped e) (by rw[r];exact q)
theorem kM{K:wb}{H:Hp} : ∀{ds:List wq}{vs:List V},vs.length=ds.length->(∀i x,vs[i]? = some x->Is K H x (ds.getD i .none))->ag K H vs ds
 | [],[],_,_=>.nil
 | [],_::_,h,_=>by simp at h
 | _::_,[],h,_=>by simp at h
 | d::ds,v::vs,h,e=>.cons (e 0 v rfl) (kM (by simpa using h) λi x hx=>e (i+1) x hx)
section
variable{K:wb}{H H':Hp}{Q:VK}{D:bY}{σ : St}{td ty tv:TE}{a:wf}{kvs:List (Key × V)}{k:Int}{v:V}
end
theorem L4:∀{ts:List Int}{ys:List V},ys.length=ts.length->(∀(j:Nat)(y:V),ys[j]? = some y->y=V.int (ts.getD j 0))->ys=ts.map V.int
 | [],[],_,_=>rfl
 | [],_::_,h,_=>by simp at h
 | _::_,[],h,_=>by simp at h
 | t::ts,y::ys,h,e=>by
  rw[wZ,e 0 y rfl,L4 (ts:=ts) (ys:=ys) (by simpa using h) λj z hz=>e (j+1) z hz]
  rfl
theorem gI{α : Type}{ys:List α}{j:Nat}{y : α}(h:ys[j]? = some y):j<ys.length:=by
 rcases wT j ys.length with z | z
 ·exact z
 ·rw[wX z]at h;cases h
theorem int_at{ts:List Int}{i:Nat}{x:V}(h:(ts.map V.int)[i]? = some x):i<ts.length/\x=.int (ts.getD i 0):=by
 have hi:=gI h;rw[wd]at hi;rw[wz,wc hi]at h;refine⟨hi,?_⟩;rw[wa,wc hi];exact(wV h).symm
theorem Tq{X:Cx}{K:wb}{es:List Expr}{t:TA}{pos:Pos}(hK:X.K=K)(h:PA X es t):PE X (.List es pos) (EB K t):=by
 subst hK;exact cS h
def NN(K:wb)(g:TG)(tt:TT)(te:TE)(src:List (Option Nat))(σ : St)(vs:List V)(H1:Hp)(Q:VK):Prop:=∃a,vs=[.ref a]/\(∃xs,aF K H1 a xs) /\
 ∀D,H1 D=none->g9 g tt te (ma K a) D (cF src σ) (upd H1 D (.lst [])) (λH'=>Q (.ref D) H')
section
variable{K:wb}{ta:TA}{g:TG}{tt:TT}{te:TE}{σ : St}{H:Hp}{Q:VK}{a:wf}{xs:List V}{src:List (Option Nat)}
theorem zuR(h:ta σ H λvs H1=>NN K g tt te src σ vs H1 Q):hJ src (B9 K ta) g tt te σ H Q:=h
theorem zqh(hx:aF K H a xs)(Pv:wf->Nat->List V->St->Hp->Prop)(h0:∀D H',H D=none->af H H'->H' D=some (.lst [])->Pv D 0 [] (cF src σ) H')(hl:∀D i ys σ' H',Pv D i ys σ' H'->aF K H' a xs)
  (hs:∀D i x ys σ' H1 c H2,xs[i]? = some x->Pv D i ys σ' H1->H1 c=none->af H1 H2->H2 c=some (.tup [.int (i:Int),x])->fG Pv g tt te D i (.ref c) σ' H2) (hd:∀D ys σ' H',Pv D xs.length ys σ' H'->Q (.ref D) H'):NN K g tt te src σ [.ref a] H Q:=by
 refine⟨a,rfl,⟨xs,hx⟩,λD hD=>⟨λi m σ' H'=>i+m=xs.length /\ ∃ys,Pv D i ys σ' H',⟨xs.length,by lia,[],h0 D _ hD (af.upd hD) bW⟩,?_⟩⟩;rintro i m σ' H' ⟨him,ys,inv⟩;have hq:=hl _ _ _ _ _ inv
 by_cases hm:m=0
 ·have e:i=xs.length:=by lia
  subst e;exact .inl ⟨⟨xs,hq,wu _⟩,hd _ _ _ _ inv⟩
 ·have hi:i<xs.length:=by lia
  refine .inr ⟨⟨xs,xs[i],hq,by simp[hi]⟩,λσ2 H2=>∃ys,Pv D (i+1) ys σ2 H2,λσ2 H2 h=>⟨m-1,by lia,by lia,h⟩,?_⟩;rintro v H2 ⟨c,x,rfl,hn,hx',rfl⟩;exact hs D i x ys σ' H' c _ (hx' xs hq) inv hn (af.upd hn) bW
end
theorem Rx(ns:List Int):Sh 2 (TZ ns):=iQ λd hd=>by
 obtain⟨n,_,rfl⟩:=wQ.mp hd;exact lV n
theorem RD(ns:List Int):vn (TZ ns) (TZ ns)=true:=kJ λd hd=>by
 obtain⟨n,_,rfl⟩:=wQ.mp hd;rw[Dj];exact decide_eq_true rfl
section
variable{K:wb}{H:Hp}{Q:VK}{v w:V}{ds:List wq}{n:Nat}{l b:wf}{xs zs:List V}
theorem Yg(h:H l=some (.lst xs))(k:H b=some (.lst zs))(z:xs.length+zs.length<=1000)(q:∀H',Exc l H H'->H' l=some (.lst (xs++zs))->Q .aZ H'):Om (.ref l) [.ref b] H Q :=
 ⟨l,b,xs,zs,rfl,rfl,h,k,by have:=jG z;lia,q _ (Exc.upd l H _) bW⟩
theorem Lj{i:Int}(h:H l=some (.lst xs))(h0:0<=i)(h1:i<xs.length)(hz:xs.length<=1000)(q:∀y H',xs[i.toNat]? = some y->Exc l H H'->H' l=some (.lst (xs.eraseIdx i.toNat))->Q y H'):ER (.ref l) [.int i] H Q:=by
 have hi:i.toNat<xs.length:=by lia
 exact⟨l,xs,i,i.toNat,xs[i.toNat],rfl,rfl,h,by lia,by lia,Ut h0 h1,wc hi,q _ _ (wc hi) (Exc.upd l H _) bW⟩
theorem Dr{k:Int}(h:H l=some (.lst xs))(h0 : -1000<=k)(h1:k<=1000)(z:xs.length*k.toNat<=1000)(q:∀p H',H p=none->af H H'->H' p=some (.lst (wm k.toNat xs).flatten)->Q (.ref p) H'):pH (.ref l) (.int k) H Q :=
 ⟨l,k,xs,rfl,rfl,h,by lia,by lia,by have:=jG z;lia,λp hp=>q p _ hp (af.upd hp) bW⟩
theorem ag.erase:∀{ds:List wq}{vs:List V}(k:Nat),ag K H vs ds->ag K H (vs.eraseIdx k) (ds.eraseIdx k)
 | [],_,k,h=>by rw[dM.mp h];exact .nil
 | d::ds,_,0,h=>by
  obtain⟨x,r,rfl,_,t⟩:=ck.mp h;exact t
 | d::ds,_,k+1,h=>by
  obtain⟨x,r,rfl,q,t⟩:=ck.mp h;exact .cons q (ag.erase k t)
end
theorem mi{α β : Type}(f : α -> β):∀(l:List α)(k:Nat),(l.map f).eraseIdx k=(l.eraseIdx k).map f
 | [],_=>rfl
 | _::_,0=>rfl
 | x::l,k+1=>by
  show f x::(l.map f).eraseIdx k=f x::(l.eraseIdx k).map f
  rw[mi f l k]
theorem pW{α : Type} : ∀(l:List α)(k:Nat)(h:k<l.length),(l[k]::l.eraseIdx k).Perm l
 | x::l,0,_=>UB _
 | x::l,k+1,h=>(Xd.swap _ _ _).trans (Xd.cons x (pW l k (by simpa using h)))
section
open PyProof.V PySem.Calls PySem.W
variable{prog:wP}{w:wR}{A:vj}{E:we->wk->Prop}{s:wk}
end
abbrev yc(h:wK)(a:wf):wK:=h.push {cls:=.type "tuple_iterator",data:=.fields #[.ref a,.int 0 0]}
abbrev rW(h:wK)(a b:wf):wK:=(yc h a).push {cls:=.type "list_iterator",data:=.fields #[.ref b,.int 0 0]}
abbrev sU(h:wK)(a b:wf):wK:=(rW h a b).push {cls:=.type "tuple",data:=.seq #[.ref h.objs.size,.ref (yc h a).objs.size]}
abbrev yr(h:wK)(a b:wf):wK:=(sU h a b).push {cls:=.type "tuple",data:=.seq #[.none,.none]}
abbrev ng(h:wK)(a b:wf):wK:=(yr h a b).push {cls:=.type "zip",data:=.fields #[.none,.bool false,.bool false,.ref (rW h a b).objs.size,.ref (sU h a b).objs.size]}
theorem ZK(a b:wf)(xs ys:Array we):Meets (Builtin.«zip.__new__» ⟨[.type "zip",.ref a,.ref b],[]⟩) (λ_ R s=>s.heap.IsTuple a xs/\s.heap.IsList b ys/\R (.ok (.ret (.ref (yr s.heap a b).objs.size))) {s with heap:=ng s.heap a b}) :=
 .of_wp λprog w A R s h=>by
  obtain⟨hp,g,d,tk,os⟩:=s;obtain⟨ha,hb,h⟩:=h;have hsub:=sub_zip;have hA:qI (qr ⟨hp,g,d,tk,os⟩) a xs:=ha;have hB:Heap.IsList (qr ⟨hp.push {cls:=.type "tuple_iterator",data:=.fields #[.ref a,.int 0 0]},g,d,tk,os⟩) b ys:=Heap.IsList.push hb _
  wp_walk using WL hA,VM hB
  exact⟨_,rfl,h⟩
section
variable{prog:wP}{w:wR}{A:vj}{E:we->wk->Prop}{s:wk}
theorem Yi{a b:wf}{xs ys:Array we}{Q:we->wk->Prop}(ha:s.heap.IsTuple a xs)(hb:s.heap.IsList b ys)
  (fin:∀h',IsZip h' (s.heap.objs.size+4) (s.heap.objs.size+2) (s.heap.objs.size+3) .none->Vf h' (s.heap.objs.size+2) (.ref s.heap.objs.size) (.ref (s.heap.objs.size+1))->Vf h' (s.heap.objs.size+3) .none .none ->
   h'.IsTupleIter s.heap.objs.size a 0->h'.IsListIter (s.heap.objs.size+1) b 0->(∀c o,s.heap.get? c=some o->h'.get? c=some o)->Q (.ref (s.heap.objs.size+4)) {s with heap:=h'}):wA (model prog w) A (call (.type "zip") [.ref a,.ref b]) Q E s:=by
 refine callType_new X5 (by decide) (xN _ _) (Xa _ _) (λobj=>QY obj _ _) Xb (ZK a b xs ys) ⟨ha,hb,?_⟩;have z1:(yc s.heap a).objs.size=s.heap.objs.size+1:=Wf ..;have z2:(rW s.heap a b).objs.size=s.heap.objs.size+2:=by rw[Wf,z1]
 have z3:(sU s.heap a b).objs.size=s.heap.objs.size+3:=by rw[Wf,z2]
 have z4:(yr s.heap a b).objs.size=s.heap.objs.size+4:=by rw[Wf,z3]
 have g5:(ng s.heap a b).get? (yr s.heap a b).objs.size=some _:=wC _ rfl;have g4:(ng s.heap a b).get? (sU s.heap a b).objs.size=some _:=wj _ (wC _ rfl);have g3:(ng s.heap a b).get? (rW s.heap a b).objs.size=some _:=wj _ (wj _ (wC _ rfl));have g2:(ng s.heap a b).get? (yc s.heap a).objs.size=some _:=wj _ (wj _ (wj _ (wC _ rfl)));have g1:(ng s.heap a b).get? s.heap.objs.size=some _:=wj _ (wj _ (wj _ (wj _ (wC _ rfl))))
 show _/\_
 rw[z2,z3,z4]at g5;rw[z1,z2]at g3;rw[z3]at g4;rw[z1]at g2;rw[z4];exact⟨⟨_,g5,rfl⟩,fin _ g5 g3 g4 ⟨_,g1,rfl,rfl⟩ ⟨_,g2,rfl,rfl⟩ λc o x=>wj _ (wj _ (wj _ (wj _ (wj _ x))))⟩
end
def Kr(K:wb)(G:we)(tb:(St->XK)->TS)(th:TS):TS:=λD σ H=>∃W:St->XK,tb W D σ H /\ ∀σ' C o H',W σ' C o H'->W9 K C G=some true/\th D σ' H'
section
variable{X:Cx}{x:Str}{G:we}{b₀ : vD}{body suite:List vD}{np hpos pos:Pos}{tb:(St->XK)->TS}{th:TS}
theorem zxS(hs:X.stack=X.env::X.outer)(hf:X.env.frame=some X.env.locals)(hg:Gl X x)(hG:X.mg x=some G)
  (hb:∀(W:St->XK)(pn:List (wf × Obj))(E':we->wk->Prop),M3 (dy X.prog X.w) (X.at pn E') W->fh (X.at pn E') body (tb W))
  (hh:∀(pn:List (wf × Obj))(ex:wf)(oe:Obj),fh (X.rg pn ex oe) (b₀ :: suite) th) (hdb:(x == ("__debug__" : Str))=false:=by decide) :
  PS X (.Try body [.ExceptHandler (some (.Name x np)) none (b₀ :: suite) hpos] [] [] pos) (Kr X.K G tb th):=by
 intro pins s σ H D I h;obtain⟨W,hB,hH⟩:=h;refine wpAny_Try_except ?_;have I':=I.SR λe s1=>∃σ1 H1 s0,Inv X pins σ1 H1 s0/\dy X.prog X.w X.stack H1 s0 (W σ1) e s1
 have key:=hb W (X.pn++pins) (λe s1=>∃σ1 H1 s0,Inv X pins σ1 H1 s0/\dy X.prog X.w X.stack H1 s0 (W σ1) e s1) (λpins1 σ1 H1 s0 e s1 I1 q=>⟨σ1,H1,s0,I1.nC,q⟩) [] s σ H D I' hB;refine WC key (λf s1 hq=>?_) λe s1 he=>?_
 ·cases f with
  | next=>obtain⟨σ',H',J,q⟩:=hq;exact qZ ⟨σ',H',J.nC,q⟩
  | brk=>obtain⟨σ',H',J,q⟩:=hq;exact⟨σ',H',J.nC,q⟩
  | cont=>obtain⟨σ',H',J,q⟩:=hq;exact⟨σ',H',J.nC,q⟩
  | ret u=>obtain⟨v,σ',H',J,r,q⟩:=hq;exact⟨v,σ',H',J.nC,r,q⟩
 obtain⟨σ1,H1,s0,I1,ex,C,H',B,rfl,os,bare,un,aB,F,ov,q⟩:=he;obtain⟨hm,hS⟩:=hH σ1 C none H' q;have hfs:∀b∈cZ X.stack,H1 b=none /\ ∃o,s0.heap.get? b=some o /\ ∀vs,o.data≠.fields vs:=λb hb=>⟨I1.p5 b hb,(I1.stack.mem hb).2⟩
 have hfr:=I.ok.frames.trans (congrArg some hs)
 have hex:H' ex=none:=by
  obtain⟨_,_,_,_,_,_,_,_,_,_,_,_,_,be,_⟩:=F;cases z:H' ex with
  | none=>rfl
  | some o =>
   obtain⟨u,e1⟩:=ov.gN ex o z;rw[be]at e1;cases e1
 have st1:=F.st;rw[hs]at F
 have exc:∀{h4:wK},eK B (X.env::X.outer) ex C .none h4->s1.heap.UpToSlots h4->∃oe,h4.get? ex=some oe/\CK C oe/\Inv (X.rg (X.pn++pins) ex oe) [] σ1 H' {s1 with heap:=h4}:=λ{h4} F4 sm=>by
  have J:Inv X pins σ1 H' {s1 with heap:=h4}:=I1.Iu (s':={s1 with heap:=h4}) (ch:=[]) os (ov.un un hfs F4.st sm) (ov.aB aB st1 F4.st) bare (λ_ z=>nomatch z);obtain⟨_,_,oe,vs,T,oT,ts,he,hc,hd,h1,h2,hdi,_⟩:=F4;refine⟨oe,he,⟨hc,⟨vs,hd,h2⟩,hdi⟩,J.SM he hex (λz=>?_) (λz=>?_) λv z=>?_⟩
  ·obtain⟨m,⟨o,es,ep,ho,hdd,_⟩,_⟩:=J.loc
   rw[<- z]at ho;have:(some oe:Option Obj)=some o:=he.symm.trans ho;cases this;rw[hd]at hdd;cases hdd
  ·obtain⟨_,o,ho,nr⟩:=J.eC.mem z
   have:(some oe:Option Obj)=some o:=he.symm.trans ho;cases this;exact nr vs hd
  ·rw[hd]at z;cases z
 refine F.note hfr hf λh2 F2 sm2=>F2.land λh3 F3 sm3=>?_
 obtain⟨oe3,g3,x3,K3⟩:=exc F3 (sm2.trans sm3);refine wpAny_handleBy_cons (codeAny_handlers_test (nF K3 hg hG ?_ hdb)) (by intro z;cases z);have LT:PySem.W.Looks (model X.prog X.w) h3 (typeOf (.ref ex)) C:=x3.cls ▸ (U9 g3).andThen .now;refine(PySem.W.exm_one (h:=h3) K3.de LT hm).here ?_;refine codeAny_handlers_suite ?_;refine F3.land λh4 F4 sm4=>?_
 obtain⟨oe,g4,x4,K4⟩:=exc F4 ((sm2.trans sm3).trans sm4);refine WC (hh _ ex oe [] _ _ H' _ K4 hS) (λf s6 h6=>?_) λ_ _ z=>z.elim
 cases f with
 | next=>obtain⟨σ',H6,J,q6⟩:=h6;exact⟨_,H6,J.q_ I.ok,q6⟩
 | brk=>obtain⟨σ',H6,J,q6⟩:=h6;exact⟨_,H6,J.q_ I.ok,q6⟩
 | cont=>obtain⟨σ',H6,J,q6⟩:=h6;exact⟨_,H6,J.q_ I.ok,q6⟩
 | ret u=>obtain⟨v,σ',H6,J,r,q6⟩:=h6;exact⟨v,_,H6,J.q_ I.ok,r,q6⟩
end
theorem zxZ{K:wb}{σ : St}{H:Hp}{D:bY}{G:we}{tb:(St->XK)->TS}{th:TS}(W:St->XK)(h:tb W D σ H)(k:∀σ' C o H',W σ' C o H'->W9 K C G=some true/\th D σ' H'):Kr K G tb th D σ H:=⟨W,h,k⟩
theorem zBP:Wk "set"=some (.type "set"):=by decide +kernel
section
variable{K:wb}{H:Hp}{Q:VK}{p:wf}{ns:List Int}
end
theorem Bu:∀{ms ks:List Int},ms.Perm ks->ms.Pairwise (· <= ·)->ks.Pairwise (· <= ·)->ms=ks
 | [],ks,p,_,_=>(UL.mp p).symm
 | m::ms,[],p,_,_=>absurd p.length_eq (by simp)
 | m::ms,k::ks,p,hm,hk=>by
  rw[xl]at hm hk
  have e:m=k:=by
   have h1:m∈k::ks:=p.mem_iff.mp (wN ..);have h2:k∈m::ms:=p.mem_iff.mpr (wN ..);rcases wE.mp h1 with e | e
   ·exact e
   ·rcases wE.mp h2 with e' | e'
    ·exact e'.symm
    ·have:=hk.1 m e
     have:=hm.1 k e'
     lia
  subst e;rw[Bu (List.Perm.cons_inv p) hm.2 hk.2]
def zl(l:List Nat):List Int:=l.map λ(w:Nat)=>(w:Int)
theorem EE(l m:List Nat):vz l++vz m=vz (l++m):=by unfold vz;rw[wL]
def LZ(ns:List Int):wq:=.list (ns.map .int)
theorem mZ{K:wb}{H:Hp}{l:wf}{ns:List Int}(h:H l=some (.lst (ns.map V.int))):Is K H (.ref l) (LZ ns):=aW.mpr ⟨l,_,rfl,.of h,jA.mpr rfl⟩
theorem PD(ns:List Int):Sh 2 (LZ ns):=v_ λd hd=>by
 obtain⟨n,_,rfl⟩:=wQ.mp hd;exact lV n
abbrev AG(h:wK)(a:wf):wK:=h.push {cls:=.type "list_iterator",data:=.fields #[.ref a,.int 0 0]}
abbrev yb(h:wK)(a b:wf):wK:=(AG h a).push {cls:=.type "tuple_iterator",data:=.fields #[.ref b,.int 0 0]}
abbrev zV(h:wK)(a b:wf):wK:=(yb h a b).push {cls:=.type "tuple",data:=.seq #[.ref h.objs.size,.ref (AG h a).objs.size]}
abbrev sk(h:wK)(a b:wf):wK:=(zV h a b).push {cls:=.type "tuple",data:=.seq #[.none,.none]}
abbrev mD(h:wK)(a b:wf):wK:=(sk h a b).push {cls:=.type "zip",data:=.fields #[.none,.bool false,.bool false,.ref (yb h a b).objs.size,.ref (zV h a b).objs.size]}
theorem zrc(a b:wf)(xs ys:Array we):Meets (Builtin.«zip.__new__» ⟨[.type "zip",.ref a,.ref b],[]⟩) (λ_ R s=>s.heap.IsList a xs/\s.heap.IsTuple b ys/\R (.ok (.ret (.ref (sk s.heap a b).objs.size))) {s with heap:=mD s.heap a b}) :=
 .of_wp λprog w A R s h=>by
  obtain⟨hp,g,d,tk,os⟩:=s;obtain⟨ha,hb,h⟩:=h;have hsub:=sub_zip;have hA:Heap.IsList (qr ⟨hp,g,d,tk,os⟩) a xs:=ha;have hB:qI (qr ⟨hp.push {cls:=.type "list_iterator",data:=.fields #[.ref a,.int 0 0]},g,d,tk,os⟩) b ys:=Heap.IsTuple.push hb _
  wp_walk using VM hA,WL hB
  exact⟨_,rfl,h⟩
section
variable{prog:wP}{w:wR}{A:vj}{E:we->wk->Prop}{s:wk}
theorem RZ{a b:wf}{xs ys:Array we}{Q:we->wk->Prop}(ha:s.heap.IsList a xs)(hb:s.heap.IsTuple b ys)
  (fin:∀h',IsZip h' (s.heap.objs.size+4) (s.heap.objs.size+2) (s.heap.objs.size+3) .none->Vf h' (s.heap.objs.size+2) (.ref s.heap.objs.size) (.ref (s.heap.objs.size+1))->Vf h' (s.heap.objs.size+3) .none .none ->
   h'.IsListIter s.heap.objs.size a 0->h'.IsTupleIter (s.heap.objs.size+1) b 0->(∀c o,s.heap.get? c=some o->h'.get? c=some o)->Q (.ref (s.heap.objs.size+4)) {s with heap:=h'}):wA (model prog w) A (call (.type "zip") [.ref a,.ref b]) Q E s:=by
 refine callType_new X5 (by decide) (xN _ _) (Xa _ _) (λobj=>QY obj _ _) Xb (zrc a b xs ys) ⟨ha,hb,?_⟩;have z1:(AG s.heap a).objs.size=s.heap.objs.size+1:=Wf ..;have z2:(yb s.heap a b).objs.size=s.heap.objs.size+2:=by rw[Wf,z1]
 have z3:(zV s.heap a b).objs.size=s.heap.objs.size+3:=by rw[Wf,z2]
 have z4:(sk s.heap a b).objs.size=s.heap.objs.size+4:=by rw[Wf,z3]
 have g5:(mD s.heap a b).get? (sk s.heap a b).objs.size=some _:=wC _ rfl;have g4:(mD s.heap a b).get? (zV s.heap a b).objs.size=some _:=wj _ (wC _ rfl);have g3:(mD s.heap a b).get? (yb s.heap a b).objs.size=some _:=wj _ (wj _ (wC _ rfl));have g2:(mD s.heap a b).get? (AG s.heap a).objs.size=some _:=wj _ (wj _ (wj _ (wC _ rfl)));have g1:(mD s.heap a b).get? s.heap.objs.size=some _:=wj _ (wj _ (wj _ (wj _ (wC _ rfl))))
 show _/\_
 rw[z2,z3,z4]at g5;rw[z1,z2]at g3;rw[z3]at g4;rw[z1]at g2;rw[z4];exact⟨⟨_,g5,rfl⟩,fin _ g5 g3 g4 ⟨_,g1,rfl,rfl⟩ ⟨_,g2,rfl,rfl⟩ λc o x=>wj _ (wj _ (wj _ (wj _ (wj _ x))))⟩
end
theorem zyI{X:Cx}{elts:List Expr}{k1}{tpos p pos:Pos}{l m:Expr}{ta:TA}(hg:Gl X "zip")(hm:X.mg "zip"=none)(ha:PA X [l,m] ta)(hs:vg [l,m] X.env=[(false,eval l X.env),(false,eval m X.env)]:=by rfl)(hs2:vg [m] X.env=[(false,eval m X.env)]:=by rfl) :
  PI X (.Tuple elts k1 tpos) (.Call (.Name "zip" p) [l,m] [] pos) (De false true X.K ta):=by
 intro pins s σ H R I h;refine Call_ (gb I hg hm Be (vS (aE (ha pos pins s σ H _ I h) λus s1 ⟨vs,H1,I1,r1,q1⟩=>?_) (by rw[hs,hs2]) (by rw[hs2];rfl)));obtain⟨a,b,rfl,⟨xs,hq1⟩,⟨ys,hq2⟩,q⟩:=q1;obtain⟨u,v,rfl,ru,rv⟩:=kN r1;cases ru;cases rv;obtain⟨its,_,p1⟩:=I1.ik hq1;obtain⟨jts,_,p2⟩:=I1.ik hq2;have la:a<s1.heap.objs.size:=by obtain⟨o,e,_⟩:=(show s1.heap.IsList a its.toArray from p1);exact wF e
 have lb:b<s1.heap.objs.size:=by obtain⟨o,e,_⟩:=(show s1.heap.IsTuple b jts.toArray from p2);exact wF e
 exact RZ p1 p2 λh' hz hi ho t1 t2 kp=>me (t:=false) (u:=true) I1 la lb hz hi ho t1 t2 kp q
end L2
namespace TB
open PySem
def jB(xs:Array Nat):Prop:=∀i j,i<j->j<xs.size->xs.getD i 0<xs.getD j 0
theorem Zl{xs:Array Nat}{i:Nat}(h:i<xs.size)(d e:Nat):xs.getD i d=xs.getD i e:=by
 simp[Um,h]
theorem Em(xs:Array Nat)(j:Nat)(R:jB xs):∀(fuel lo hi:Nat),hi<=xs.size->lo<=hi->hi-lo<=fuel->(∀k,k<lo->xs.getD k 0<j)->(∀k,hi<=k->k<xs.size->j<=xs.getD k 0) ->
  (Qx xs j fuel lo hi<=xs.size/\(∀k,k<Qx xs j fuel lo hi->xs.getD k 0<j)/\(∀k,Qx xs j fuel lo hi<=k->k<xs.size->j<=xs.getD k 0))
 | 0,lo,hi,h1,h2,h3,a,b=>by
  have:lo=hi:=by lia
  subst this;exact⟨h1,a,b⟩
 | fuel+1,lo,hi,h1,h2,h3,a,b=>by
  unfold Qx
  by_cases c:lo<hi
  ·rw[if_pos c]
   have m1:(lo+hi) / 2<hi:=by lia
   have m2:lo<=(lo+hi) / 2:=by lia
   dsimp only;rw[Zl (vF m1 h1) j 0]
   by_cases d:xs.getD ((lo+hi) / 2) 0<j
   ·rw[if_pos d]
    refine Em xs j R fuel _ hi h1 m1 (by lia) (λk hk=>?_) b;rcases wT k ((lo+hi) / 2)with q | q
    ·exact XZ (R k _ q (by lia)) d
    ·have:k=(lo+hi) / 2:=by lia
     rw[this];exact d
   ·rw[if_neg d]
    refine Em xs j R fuel lo _ (by lia) m2 (by lia) a (λk hk hk'=>?_);rcases Vl hk with q | q
    ·rw[<- q];lia
    ·have:=R _ k q hk';lia
  ·rw[if_neg c]
   have:lo=hi:=by lia
   subst this;exact⟨h1,a,b⟩
theorem LG{xs:Array Nat}(R:jB xs)(j:Nat):WY xs j<=xs.size/\(∀k,k<WY xs j->xs.getD k 0<j)/\(∀k,WY xs j<=k->k<xs.size->j<=xs.getD k 0) :=
 Em xs j R xs.size 0 xs.size (wu _) (Wg _) (by lia) (λk h=>absurd h (Wl k)) (λk h h'=>absurd h' (by lia))
theorem zCY{xs:Array Nat}{i:Nat}(h:i<xs.size):xs[i]? = some (xs.getD i 0):=by simp[Um,h]
theorem JY{t:WO}(R:jB t.place)(D:t.dummies = #[])(j:Nat) :
  (∃i,i<t.place.size/\t.place.getD i 0=j/\t.slot j=.live i)\/((∀i,i<t.place.size->t.place.getD i 0≠j)/\t.slot j=.empty):=by
 obtain⟨h1,h2,h3⟩:=LG R j;unfold SetTable.slot;dsimp only;have hd:ua t.dummies j=false:=by rw[D];rfl
 rw[hd];rcases wT (WY t.place j) t.place.size with q | q
 ·rw[zCY q]
  by_cases e:t.place.getD (WY t.place j) 0=j
  ·exact .inl ⟨_,q,e,by simp[e]⟩
  ·refine .inr ⟨λi hi he=>?_,by generalize t.place.getD (WY t.place j) 0=z at e;simp[e]⟩
   rcases wT i (WY t.place j)with a | a
   ·have:=h2 i a;lia
   ·rcases Vl a with b | b
    ·rw[<- b]at he;exact e he
    ·have:=R _ i b hi
     have:=h3 _ (wu _) q
     lia
 ·have:t.place[WY t.place j]? = none:=QF q
  rw[this];refine .inr ⟨λi hi he=>?_,by simp⟩;have:=h2 i (by lia);lia
def g(x:Nat):Nat:=x*5+1
def it(n x:Nat):Nat:=match n with | 0=>x | n+1=>g (it n x)
def s:Nat->Nat | 0=>0 | n+1=>5*s n+1
theorem Py(n:Nat):5^n=4*s n+1:=by
 induction n with
 | zero=>rfl
 | succ n ih=>rw[Vc,ih];show _=4*(5*s n+1)+1;lia
theorem YM(n x:Nat):it n x=5^n*x+s n:=by
 induction n with
 | zero=>show x=5^0*x+0;simp
 | succ n ih =>
  show g (it n x)=5^(n+1)*x+(5*s n+1)
  rw[ih,Vc];unfold g;rw[W7,uE (5^n) 5 x];lia
theorem zBG(m n x:Nat):it (m+n) x=it m (it n x):=by
 induction m with
 | zero=>rw[Nat.zero_add];rfl
 | succ m ih=>rw[Nat.succ_add];show g (it (m+n) x)=g (it m (it n x));rw[ih]
theorem Yd(m n:Nat):s (m+n)=5^m*s n+s m:=by
 induction m with
 | zero=>simp[s]
 | succ m ih =>
  rw[Nat.succ_add]
  show 5*s (m+n)+1=5^(m+1)*s n+(5*s m+1)
  rw[ih,Vc,W7,uE (5^m) 5];lia
theorem ZJ(k:Nat):∃o,s (2^k)=2^k*(2*o+1):=by
 induction k with
 | zero=>exact⟨0,rfl⟩
 | succ k ih =>
  obtain⟨o,ho⟩:=ih
  have e:s (2^(k+1))=2^(k+1)*((2*o+1)*(2*s (2^k)+1)):=by
   have:2^(k+1)=2^k+2^k:=by rw[Vc];lia
   rw[this,Yd,Py];generalize hs:s (2^k)=S at *
   have h2:(2^k+2^k)*((2*o+1)*(2*S+1))=2*(2^k*(2*o+1))*(2*S+1):=by
    rw[<- Nat.two_mul,<- W7,W7 2]
   rw[h2,<- ho];generalize S*S=z at *;have:(4*S+1)*S=4*(S*S)+S:=by rw[uP,W7,uQ]
   rw[this]
   have:2*S*(2*S+1)=4*(S*S)+2*S:=by
    rw[qS,uR,Nat.mul_mul_mul_comm]
   rw[this];lia
  refine⟨o*(2*s (2^k)+1)+s (2^k),?_⟩;rw[e]
  congr 1
  rw[uP,uQ,W7]
  lia
theorem zB0(M c a:Nat):(4*(M*c)+1)*a+M*c=a+M*(c*(4*a+1)):=by
 rw[uP,uQ,qS c,uR,qS M];have:4*(M*c)*a=M*(c*(4*a)):=by rw[Vw 4,W7,W7]
 lia
theorem zB4(k:Nat):∀x y:Nat,∃n,n<2^k/\it n x % 2^k=y % 2^k:=by
 induction k with
 | zero=>intro x y;exact⟨0,by decide,by simp[Nat.mod_one]⟩
 | succ k ih =>
  intro x y;obtain⟨n,hn,e⟩:=ih x y;have hp:0<2^k:=Nat.pow_pos (by decide);have h2:2^(k+1)=2^k*2:=Vc ..;obtain⟨o,ho⟩:=ZJ k;generalize hM:2^k=M at *;rw[h2]
  by_cases c:it n x / M % 2=y / M % 2
  ·refine⟨n,by lia,?_⟩
   rw[Xj,Xj,e,c]
  ·refine⟨M+n,by lia,?_⟩
   rw[zBG,YM,Py,ho];generalize it n x=a at *;rw[zB0,Xj,Xj,Nat.add_mul_mod_self_left,e,Nat.add_mul_div_left _ _ hp]
   have:(2*o+1)*(4*a+1) % 2=1:=by
    rw[uS];have h1:(2*o+1) % 2=1:=by lia
    have h2:(4*a+1) % 2=1:=by lia
    rw[h1,h2]
   congr 2
   lia
open SetTable (Probe leap runEnd bits turns)
def gv(mask:Nat)(p:Probe):Probe :=
 if p.more > 0 then {p with j:=p.j+1,more:=p.more-1}else
 {p with j:=(leap mask p.i p.perturb).1,more:=runEnd mask (leap mask p.i p.perturb).1-(leap mask p.i p.perturb).1,i:=(leap mask p.i p.perturb).1,perturb:=(leap mask p.i p.perturb).2}
def way(mask:Nat)(p:Probe):Nat->Probe | 0=>p | n+1=>gv mask (way mask p n)
def gA(mask i b:Nat):Probe:={j:=i,more:=runEnd mask i-i,i:=i,perturb:=b,dummy:=none}
def start(mask:Nat)(h:Int):Probe:=gA mask (bits h % (mask+1)) (bits h)
def lp(mask i b:Nat):Nat->Nat × Nat | 0=>(i,b) | n+1=>leap mask (lp mask i b n).1 (lp mask i b n).2
theorem yz(mask:Nat)(p:Probe)(m:Nat):∀n,way mask p (m+n)=way mask (way mask p m) n
 | 0=>rfl
 | n+1=>by show gv mask (way mask p (m+n))=gv mask (way mask (way mask p m) n);rw[yz mask p m n]
theorem Me(mask:Nat)(p:Probe):∀n,(way mask p n).dummy=p.dummy
 | 0=>rfl
 | n+1=>by
  show(gv mask (way mask p n)).dummy=p.dummy
  rw[<- Me mask p n];unfold gv;split<;>rfl
theorem nR(mask i b:Nat):∀n,n<=runEnd mask i-i->way mask (gA mask i b) n = {j:=i+n,more:=runEnd mask i-i-n,i:=i,perturb:=b,dummy:=none}
 | 0,_=>rfl
 | n+1,h=>by
  show gv mask (way mask (gA mask i b) n)=_
  rw[nR mask i b n (by lia)];unfold gv;dsimp only;rw[if_pos (by lia)]
  congr 1
theorem Dz(mask i b:Nat):way mask (gA mask i b) (runEnd mask i-i+1)=gA mask (leap mask i b).1 (leap mask i b).2:=by
 show gv mask (way mask (gA mask i b) (runEnd mask i-i))=_
 rw[nR mask i b _ (wu _)];unfold gv;dsimp only;rw[if_neg (by lia)]
 rfl
theorem YL(mask i:Nat):runEnd mask i-i<=9:=by unfold runEnd;split<;>lia
theorem I_(mask i b:Nat):∀m,∃n,n<=10*m/\way mask (gA mask i b) n=gA mask (lp mask i b m).1 (lp mask i b m).2
 | 0=>⟨0,wu _,rfl⟩
 | m+1=>by
  obtain⟨n,hn,e⟩:=I_ mask i b m;have:=YL mask (lp mask i b m).1;refine⟨n+(runEnd mask (lp mask i b m).1-(lp mask i b m).1+1),by lia,?_⟩;rw[yz,e,Dz];rfl
theorem MJ(mask i b:Nat):∀n,(lp mask i b n).2=b / 32^n
 | 0=>by simp[lp]
 | n+1=>by
  show(lp mask i b n).2 / 32=_
  rw[MJ mask i b n,Vc,Xk]
theorem J_(mask i b c:Nat)(h:b / 32^c=0):∀n,(lp mask i b (c+1+n)).1=it n (lp mask i b (c+1)).1 % (mask+1)
 | 0=>by
  show(lp mask i b (c+1)).1=(lp mask i b (c+1)).1 % (mask+1)
  show _ % _=_ % _ % _
  rw[Nat.mod_mod]
 | n+1=>by
  show((lp mask i b (c+1+n)).1*5+1+(lp mask i b (c+1+n)).2 / 32) % (mask+1)=g (it n _) % _
  have:(lp mask i b (c+1+n)).2 / 32=0:=by
   rw[MJ]
   have:b / 32^(c+1+n)=0:=by
    rw[qQ,uO,<- Xk,h,Nat.zero_div]
   rw[this]
  rw[this,J_ mask i b c h n];unfold g;rw[Nat.add_zero,Nat.add_mod,uS,Nat.mod_mod,<- uS,<- Nat.add_mod]
theorem Pj(h:Int):bits h<2^64:=by unfold bits;lia
theorem KG{mask k:Nat}(hm:mask+1=2^k){i b:Nat}(hb:b<2^64){j:Nat}(hj:j<=mask):∃m,m<=mask+14/\(lp mask i b m).1=j:=by
 have h0:b / 32^13=0:=Nat.div_eq_of_lt (vF hb (by decide));obtain⟨n,hn,e⟩:=zB4 k (lp mask i b 14).1 j;refine⟨13+1+n,by lia,?_⟩;rw[J_ mask i b 13 h0,hm,e,Nat.mod_eq_of_lt (by lia)]
theorem ztU{mask k:Nat}(hm:mask+1=2^k){i b:Nat}(hb:b<2^64){j:Nat}(hj:j<=mask):∃n,n<10*turns mask/\(way mask (gA mask i b) n).j=j:=by
 obtain⟨m,hm',e⟩:=KG hm (i:=i) hb hj;obtain⟨n,hn,e'⟩:=I_ mask i b m;refine⟨n,by unfold turns;lia,?_⟩;rw[e'];exact e
theorem Bq{mask i:Nat}(h:i<=mask):i<=runEnd mask i/\runEnd mask i<=mask:=by unfold runEnd;split<;>lia
theorem Mf{mask:Nat}{p:Probe}(h:p.j+p.more<=mask):∀n,(way mask p n).j+(way mask p n).more<=mask
 | 0=>h
 | n+1=>by
  have ih:=Mf h n
  show(gv mask (way mask p n)).j+(gv mask (way mask p n)).more<=mask
  unfold gv
  split
  ·dsimp only;lia
  ·dsimp only
   have:(leap mask (way mask p n).i (way mask p n).perturb).1<=mask:=by
    unfold leap;dsimp only;exact VL (XB _ (QU _))
   have:=Bq this
   lia
theorem zu6(mask:Nat)(h:Int)(n:Nat):(way mask (start mask h) n).j<=mask:=by
 have h1:bits h % (mask+1)<=mask:=VL (XB _ (QU _));have h2:=Bq h1;have:=Mf (mask:=mask) (p:=start mask h) (by unfold start gA;dsimp only;lia) n
 lia
def In(t:WO)(j:Nat):Prop:=∃i,i<t.place.size/\t.place.getD i 0=j
structure Tb(t:WO)(hs:List Int):Prop where
 jg:jB t.place
 size:t.place.size=hs.length
 mO:t.dummies = #[]
 two:∃k,3<=k/\t.mask+1=2^k
 le:∀i,i<t.place.size->t.place.getD i 0<=t.mask
 room:t.place.size<=t.mask
 path:∀i,i<t.place.size->∃n,(way t.mask (start t.mask (hs.getD i 0)) n).j=t.place.getD i 0 /\ ∀m,m<n->In t (way t.mask (start t.mask (hs.getD i 0)) m).j
theorem S_{P:Nat->Prop}{n:Nat}(h:P n):∃m,m<=n/\P m /\ ∀k,k<m->¬ P k:=by
 induction n using Nat.strongRecOn with
 | _ n ih =>
  by_cases c:∃k,k<n/\P k
  ·obtain⟨k,hk,hp⟩:=c
   obtain⟨m,h1,h2,h3⟩:=ih k hk hp;exact⟨m,by lia,h2,h3⟩
  ·exact⟨n,wu _,h,λk hk hp=>c ⟨k,hk,hp⟩⟩
theorem DQ{xs:Array Nat}(R:jB xs){i j:Nat}(hi:i<xs.size)(hj:j<xs.size)(e:xs.getD i 0=xs.getD j 0):i=j:=by
 rcases qz i j with q | q | q
 ·have:=R i j q hj;lia
 ·exact q
 ·have:=R j i q hi;lia
theorem OQ{t:WO}(R:jB t.place):∀j,(∀j',j'<=j->In t j')->∃i,i<t.place.size/\t.place.getD i 0=j/\j<=i
 | 0,h=>by obtain⟨i,hi,e⟩:=h 0 (wu _);exact⟨i,hi,e,Wg _⟩
 | j+1,h=>by
  obtain⟨i,hi,e,hle⟩:=OQ R j λj' hj'=>h j' (by lia)
  obtain⟨i',hi',e'⟩:=h (j+1) (wu _);refine⟨i',hi',e',?_⟩;rcases qz i i' with q | q | q
  ·lia
  ·subst q;lia
  ·have:=R i' i q hi;lia
theorem Tb.gap{t:WO}{hs:List Int}(b:Tb t hs):∃j,j<=t.mask /\ ¬ In t j:=by
 refine VQ λc=>?_
 obtain⟨i,hi,e,hle⟩:=OQ b.jg t.place.size λj' hj'=>VQ λd=>c ⟨j',Wi hj' b.room,d⟩
 lia
theorem Tb.free{t:WO}{hs:List Int}(b:Tb t hs)(h:Int):∃n,n<10*turns t.mask /\ ¬ In t (way t.mask (start t.mask h) n).j /\ ∀m,m<n->In t (way t.mask (start t.mask h) m).j:=by
 obtain⟨j,hj,hn⟩:=b.gap;obtain⟨k,_,hk⟩:=b.two;obtain⟨n,hn',e⟩:=ztU hk (i:=bits h % (t.mask+1)) (Pj h) hj;obtain⟨m,h1,h2,h3⟩:=S_ (P:=λn=>¬ In t (way t.mask (start t.mask h) n).j) (n:=n) (by show ¬ In t _;unfold start;rw[e];exact hn);exact⟨m,by lia,h2,λk hk=>VQ (h3 k hk)⟩
theorem Ke{t:WO}(R:jB t.place)(D:t.dummies = #[])(hashAt:Nat->Int)(h:Int){p:Probe}(dm:p.dummy=none){n0:Nat}(hE:¬ In t (way t.mask p n0).j)(hF:∀m,m<n0->In t (way t.mask p m).j) :
  ∀fuel n,n<=n0->n0-n<fuel ->
   (∃m i,n<=m/\m<n0/\i<t.place.size/\t.place.getD i 0=(way t.mask p m).j/\hashAt i=h/\(∀k,n<=k->k<m->∀i',i'<t.place.size->t.place.getD i' 0=(way t.mask p k).j->hashAt i'≠h) /\
    xD t hashAt h fuel (way t.mask p n)=some (.candidate (way t.mask p m).j i (way t.mask p (m+1)))) \/
   ((∀k,n<=k->k<n0->∀i',i'<t.place.size->t.place.getD i' 0=(way t.mask p k).j->hashAt i'≠h) /\
    xD t hashAt h fuel (way t.mask p n)=some (.empty (way t.mask p n0).j none))
 | 0,n,_,hf=>absurd hf (Wl _)
 | fuel+1,n,hn,hf=>by
  unfold xD;rcases JY R D (way t.mask p n).j with⟨i,hi,e,es⟩ | ⟨no,es⟩
  ·rw[es]
   dsimp only
   have hlt:n<n0:=by
    rcases wT n n0 with q | q
    ·exact q
    ·have:n=n0:=by lia
     subst this;exact absurd ⟨i,hi,e⟩ hE
   by_cases c:hashAt i=h
   ·rw[if_pos (by simpa using c)]
    exact .inl ⟨n,i,wu _,hlt,hi,e,c,λk h1 h2=>absurd h1 (by lia),rfl⟩
   ·rw[if_neg (by simpa using c)]
    have here:∀i',i'<t.place.size->t.place.getD i' 0=(way t.mask p n).j->hashAt i'≠h:=λi' hi' e'=>by
     rw[DQ R hi' hi (e'.trans e.symm)];exact c
    rcases Ke R D hashAt h dm hE hF fuel (n+1) hlt (by lia)with⟨m,i2,a1,a2,a3,a4,a5,a6,a7⟩ | ⟨a1,a2⟩
    ·refine .inl ⟨m,i2,by lia,a2,a3,a4,a5,λk h1 h2 i' hi' e'=>?_,a7⟩
     rcases Vl h1 with q | q
     ·subst q;exact here i' hi' e'
     ·exact a6 k q h2 i' hi' e'
    ·refine .inr ⟨λk h1 h2 i' hi' e'=>?_,a2⟩
     rcases Vl h1 with q | q
     ·subst q;exact here i' hi' e'
     ·exact a1 k q h2 i' hi' e'
  ·rw[es]
   dsimp only
   have:n=n0:=by
    rcases wT n n0 with q | q
    ·obtain⟨i,hi,e⟩:=hF n q
     exact absurd e (no i hi)
    ·lia
   subst this;refine .inr ⟨λk h1 h2=>absurd h1 (by lia),?_⟩;rw[Me,dm]
def dA{α : Type}(l:List α)(p:Nat)(x : α):List α:=l.take p++x::l.drop p
theorem sO{α : Type}{l:List α}{p:Nat}(x : α)(hp:p<=l.length)(i:Nat):(dA l p x)[i]? = if i<p then l[i]? else if i=p then some x else l[i-1]?:=by
 unfold dA;have hl:(l.take p).length=p:=by rw[vP];lia
 by_cases a:i<p
 ·rw[if_pos a,Wu (by lia),xI a]
 ·rw[if_neg a,Wr (by lia),hl]
  by_cases b:i=p
  ·rw[if_pos b,b,xL];rfl
  ·rw[if_neg b]
   have:i-p=(i-1-p)+1:=by lia
   rw[this,qd,List.getElem?_drop]
   congr 1;lia
theorem pM{α : Type}{l:List α}{p:Nat}(x : α)(hp:p<=l.length):(dA l p x).length=l.length+1:=by
 unfold dA;rw[wS,vP,vA,qL];lia
theorem oE{α : Type}(xs:Array α)(p:Nat)(x : α):(WE xs p x).toList=dA xs.toList p x:=by
 unfold WE dA;simp;exact Vd (by simp)
theorem mY{xs:Array Nat}{p:Nat}(x:Nat)(hp:p<=xs.size)(i:Nat):(WE xs p x).getD i 0=if i<p then xs.getD i 0 else if i=p then x else xs.getD (i-1) 0:=by
 rw[wM,<- Wh,oE,sO x (by simpa using hp)]
 split
 ·rw[wM,<- Wh]
 ·split
  ·rfl
  ·rw[wM,<- Wh]
theorem Oq{xs:Array Nat}{p:Nat}(x:Nat)(hp:p<=xs.size):(WE xs p x).size=xs.size+1:=by
 rw[<- wD,oE,pM x (by simpa using hp),wD]
theorem Tc{l:List Int}{p:Nat}(x:Int)(hp:p<=l.length)(i:Nat):(dA l p x).getD i 0=if i<p then l.getD i 0 else if i=p then x else l.getD (i-1) 0:=by
 rw[wa,sO x hp]
 split
 ·rw[wa]
 ·split
  ·rfl
  ·rw[wa]
theorem Tb.put{t:WO}{hs:List Int}(b:Tb t hs){h:Int}{n:Nat}(hE:¬ In t (way t.mask (start t.mask h) n).j)(hF:∀m,m<n->In t (way t.mask (start t.mask h) m).j)(hr:t.place.size+1<=t.mask) :
  (t.put (way t.mask (start t.mask h) n).j).2<=hs.length/\Tb (t.put (way t.mask (start t.mask h) n).j).1 (dA hs (t.put (way t.mask (start t.mask h) n).j).2 h):=by
 generalize hj:(way t.mask (start t.mask h) n).j=j at *;have hjm:j<=t.mask:=by rw[<- hj];exact zu6 t.mask h n
 obtain⟨q1,q2,q3⟩:=LG b.jg j;have hd:ua t.dummies j=false:=by rw[b.mO];rfl
 have e2:(t.put j).2=WY t.place j:=rfl;have ep:(t.put j).1.place=WE t.place (WY t.place j) j:=rfl;have em:(t.put j).1.mask=t.mask:=rfl
 have edm:(t.put j).1.dummies = #[]:=by
  show(if ua t.dummies j=true then _ else t.dummies)=_
  rw[hd];exact b.mO
 rw[e2];generalize WY t.place j=p at *;have hp:p<=hs.length:=by rw[<- b.size];exact q1
 have inn:∀x,In t x->In (t.put j).1 x:=λx ⟨i,hi,e⟩=>by
  unfold In;rw[ep,Oq j q1];rcases wT i p with a | a
  ·exact⟨i,by lia,by rw[mY j q1,if_pos a];exact e⟩
  ·exact⟨i+1,by lia,by rw[mY j q1,if_neg (by lia),if_neg (by lia)];exact e⟩
 have ns:(t.put j).1.place.size=t.place.size+1:=by rw[ep,Oq j q1]
 have gt:∀k,p<=k->k<t.place.size->j<t.place.getD k 0:=λk h1 h2=>by
  have:=q3 k h1 h2;have:t.place.getD k 0≠j:=λe=>hE ⟨k,h2,e⟩
  lia
 refine⟨hp,⟨?_,?_,edm,em ▸ b.two,?_,?_,?_⟩⟩
 ·intro i k hik hk
  rw[ns]at hk;rw[ep,mY j q1,mY j q1]
  by_cases a:k<p
  ·rw[if_pos (by lia),if_pos a];exact b.jg i k hik (by lia)
  ·rw[if_neg a]
   by_cases c:k=p
   ·rw[if_pos c,if_pos (by lia)];exact q2 i (by lia)
   ·rw[if_neg c]
    by_cases d:i<p
    ·rw[if_pos d];exact XZ (q2 i d) (gt (k-1) (by lia) (by lia))
    ·rw[if_neg d]
     by_cases f:i=p
     ·rw[if_pos f];exact gt (k-1) (by lia) (by lia)
     ·rw[if_neg f];exact b.jg (i-1) (k-1) (by lia) (by lia)
 ·rw[ns,pM h hp,b.size]
 ·intro i hi
  rw[ns]at hi;rw[ep,mY j q1,em]
  split
  ·exact b.le i (by lia)
  ·split
   ·exact hjm
   ·exact b.le (i-1) (by lia)
 ·rw[ns,em];exact hr
 ·intro i hi
  rw[ns]at hi;rw[ep,mY j q1,em,Tc h hp]
  split
  ·obtain⟨m,h1,h2⟩:=b.path i (by lia)
   exact⟨m,h1,λk hk=>inn _ (h2 k hk)⟩
  ·split
   ·exact⟨n,hj,λk hk=>inn _ (hF k hk)⟩
   ·obtain⟨m,h1,h2⟩:=b.path (i-1) (by lia)
    exact⟨m,h1,λk hk=>inn _ (h2 k hk)⟩
structure Ow(mask:Nat)(ow:Array (Option Nat))(hs:List Int):Prop where
 size:ow.size=mask+1
 cnt:ow.toList.countP UM=hs.length
 inj:∀j j' k,ow.getD j none=some k->ow.getD j' none=some k->j=j'
 lt:∀j k,ow.getD j none=some k->k<hs.length
 has:∀k,k<hs.length->∃j,ow.getD j none=some k
 path:∀k j,ow.getD j none=some k->∃n,(way mask (start mask (hs.getD k 0)) n).j=j /\ ∀m,m<n->ow.getD (way mask (start mask (hs.getD k 0)) m).j none≠none
theorem MH(mask i b:Nat):∀m,lp mask i b (m+1)=lp mask (leap mask i b).1 (leap mask i b).2 m
 | 0=>rfl
 | m+1=>by
  show leap mask (lp mask i b (m+1)).1 (lp mask i b (m+1)).2=leap mask (lp mask (leap mask i b).1 (leap mask i b).2 m).1 _
  rw[MH mask i b m]
theorem C_{ow:Array (Option Nat)}{j:Nat}(h:j<ow.size)(d e:Option Nat):ow.getD j d=ow.getD j e:=by simp[Um,h]
theorem R1{mask:Nat}{ow:Array (Option Nat)}(hz:ow.size=mask+1):∀fuel i b,i<=mask->(∃m,m<fuel/\ow.getD (lp mask i b m).1 none=none/\(lp mask i b m).1<=mask) ->
  ∃j n,Ve mask ow fuel i b=some j/\(way mask (gA mask i b) n).j=j/\j<=mask/\ow.getD j none=none /\ ∀m,m<n->ow.getD (way mask (gA mask i b) m).j none≠none
 | 0,i,b,_,⟨m,h,_⟩=>absurd h (Wl _)
 | fuel+1,i,b,hi,⟨m,hm,hn,hle⟩=>by
  unfold Ve;have hr:=Bq hi;cases hf:(wo (runEnd mask i+1-i)).find? λk=>(ow.getD (i+k) (some 0)).isNone with
  | some k =>
   rw[List.find?_range_eq_some]at hf;obtain⟨h1,h2,h3⟩:=hf;have h2:k<runEnd mask i+1-i:=by simpa using h2
   refine⟨i+k,k,rfl,?_,by lia,?_,λm hm=>?_⟩
   ·rw[nR mask i b k (by lia)]
   ·rw[C_ (by lia) none (some 0)];simpa using h1
   ·rw[nR mask i b m (by lia)]
    have:=h3 m hm
    show ow.getD (i+m) none≠none
    rw[C_ (by lia) none (some 0)];intro e;rw[e]at this;exact absurd this (by decide)
  | none =>
   rw[List.find?_range_eq_none]at hf
   have all:∀k,k<=runEnd mask i-i->ow.getD (i+k) none≠none:=λk hk e=>by
    have:=hf k (by lia);rw[C_ (by lia) (some 0) none,e]at this;exact absurd this (by decide)
   cases m with
   | zero=>exact absurd hn (all 0 (Wg _))
   | succ m =>
    rw[MH]at hn hle;have hi':(leap mask i b).1<=mask:=by unfold leap;dsimp only;exact VL (XB _ (QU _))
    obtain⟨j,n,e1,e2,e3,e4,e5⟩:=R1 hz fuel (leap mask i b).1 (leap mask i b).2 hi' ⟨m,by lia,hn,hle⟩;refine⟨j,runEnd mask i-i+1+n,e1,by rw[yz,Dz];exact e2,e3,e4,λm' hm'=>?_⟩;rcases wT m' (runEnd mask i-i+1)with q | q
    ·rw[nR mask i b m' (by lia)];exact all m' (by lia)
    ·have:m'=runEnd mask i-i+1+(m'-(runEnd mask i-i+1)):=by lia
     rw[this,yz,Dz];exact e5 _ (by lia)
theorem Ow.gap{mask:Nat}{ow:Array (Option Nat)}{hs:List Int}(o:Ow mask ow hs)(h:hs.length<=mask):∃j,j<=mask/\ow.getD j none=none:=by
 refine VQ λc=>?_
 have:ow.toList.countP UM=ow.toList.length:=List.countP_eq_length.mpr λa ha=>by
  obtain⟨j,hj,e⟩:=Wj ha;rw[wD,o.size]at hj;cases a with
  | some _=>rfl
  | none =>
   refine absurd ⟨j,by lia,?_⟩ c;rw[wM,<- Wh,wc (by rw[wD,o.size];exact hj),e]
   rfl
 have h2:ow.toList.length=mask+1:=by rw[wD,o.size]
 have:=o.cnt
 lia
theorem Y6{ow:Array (Option Nat)}{j:Nat}(h:j<ow.size)(v:Option Nat)(x:Nat):(ow.setIfInBounds j v).getD x none=if x=j then v else ow.getD x none:=by
 rw[wM,Array.getElem?_setIfInBounds]
 by_cases e:j=x
 ·subst e;rw[if_pos rfl,if_pos rfl,if_pos h];rfl
 ·rw[if_neg e,if_neg (λq=>e q.symm),wM]
theorem Ow.step{mask k:Nat}(hm:mask+1=2^k){ow:Array (Option Nat)}{hs:List Int}(o:Ow mask ow hs)(hl:hs.length<=mask)(h:Int) :
  ∃j,Ve mask ow (turns mask) (bits h % (mask+1)) (bits h)=some j/\Ow mask (ow.setIfInBounds j (some hs.length)) (hs++[h]):=by
 obtain⟨j0,hj0,e0⟩:=o.gap hl;obtain⟨m,hm',em⟩:=KG hm (i:=bits h % (mask+1)) (Pj h) hj0;obtain⟨j,n,e1,e2,e3,e4,e5⟩:=R1 o.size (turns mask) (bits h % (mask+1)) (bits h) (VL (XB _ (QU _))) ⟨m,by unfold turns;lia,by rw[em];exact e0,by rw[em];exact hj0⟩;have hjs:j<ow.size:=by rw[o.size];lia
 have G:=Y6 hjs (some hs.length);have hlen:(hs++[h]).length=hs.length+1:=by simp
 have old:∀k,k<hs.length->(hs++[h]).getD k 0=hs.getD k 0:=λk hk=>by
  rw[wa,wa,Wu hk]
 refine⟨j,e1,⟨by simpa using o.size,?_,?_,?_,?_,?_⟩⟩
 ·rw[Array.toList_setIfInBounds,List.countP_set (by simpa using hjs),o.cnt,hlen]
  have:ow.toList[j]'(by simpa using hjs)=none:=by
   rw[wM,vH hjs]at e4
   simpa using e4
  simp[this]
 ·intro x x' k h1 h2
  rw[G]at h1 h2
  split at h1
  ·split at h2
   ·rename_i a b;rw[a,b]
   ·have:=o.lt _ _ h2;have:=wV h1;lia
  ·split at h2
   ·have:=o.lt _ _ h1;have:=wV h2;lia
   ·exact o.inj _ _ _ h1 h2
 ·intro x k h1
  rw[G]at h1;rw[hlen]
  split at h1
  ·have:=wV h1;lia
  ·have:=o.lt _ _ h1;lia
 ·intro k hk
  rw[hlen]at hk;rcases wT k hs.length with q | q
  ·obtain⟨x,hx⟩:=o.has k q
   refine⟨x,?_⟩;rw[G,if_neg]
   ·exact hx
   ·intro e;rw[e,e4]at hx;cases hx
  ·refine⟨j,?_⟩
   rw[G,if_pos rfl];congr 1;lia
 ·intro k x h1
  rw[G]at h1
  have keep:∀y,ow.getD y none≠none->(ow.setIfInBounds j (some hs.length)).getD y none≠none:=λy hy=>by
   rw[G];split
   ·exact λz=>nomatch z
   ·exact hy
  split at h1
  ·rename_i ex
   have ek:k=hs.length:=(wV h1).symm;have:(hs++[h]).getD k 0=h:=by rw[ek,wa,Wr (wu _),xL];rfl
   rw[this,ex];exact⟨n,e2,λm hm=>keep _ (e5 m hm)⟩
  ·rw[old k (o.lt _ _ h1)]
   obtain⟨n',a1,a2⟩:=o.path k x h1;exact⟨n',a1,λm hm=>keep _ (a2 m hm)⟩
theorem Ow.nil(mask:Nat):Ow mask (Uo (mask+1) none) []:=by
 have G:∀j,(Uo (mask+1) (none:Option Nat)).getD j none=none:=λj=>by
  rw[wM,Array.getElem?_replicate];split<;>rfl
 refine⟨by simp,?_,λj j' k h=>?_,λj k h=>?_,λk h=>absurd h (Wl _),λk j h=>?_⟩
 ·rw[Array.toList_replicate,List.countP_replicate];rfl
 all_goals(rw[G]at h;cases h)
theorem N3{mask k:Nat}(hm:mask+1=2^k):∀(l:List Int)(ow:Array (Option Nat))(hs:List Int),Ow mask ow hs->hs.length+l.length<=mask+1 ->
  ∃ow',(l.foldl (init:=some (ow,hs.length)) λ(acc:Option (Array (Option Nat) × Nat)) h=>do
   let (owner,k) <- acc
   let j <- Ve mask owner (turns mask) (bits h % (mask+1)) (bits h)
   pure (owner.setIfInBounds j (some k),k+1))=some (ow',hs.length+l.length)/\Ow mask ow' (hs++l)
 | [],ow,hs,o,_=>⟨ow,rfl,by rw[vT];exact o⟩
 | h::l,ow,hs,o,hl=>by
  rw[vA]at hl;obtain⟨j,e,o'⟩:=o.step hm (by lia) h;have hlen:(hs++[h]).length=hs.length+1:=by simp
  obtain⟨ow',e',o''⟩:=N3 hm l _ _ o' (by lia);refine⟨ow',?_,by rw[Vo]at o'';exact o''⟩;rw[Ua]
  have:(do
   let (owner,k) <- some (ow,hs.length)
   let j <- Ve mask owner (turns mask) (bits h % (mask+1)) (bits h)
   pure (owner.setIfInBounds j (some k),k+1):Option (Array (Option Nat) × Nat))=some (ow.setIfInBounds j (some hs.length),hs.length+1):=by
   show(Ve mask ow (turns mask) (bits h % (mask+1)) (bits h) >>= _)=_
   rw[e];rfl
  rw[this,<- hlen,e',hlen,vA]
  congr 2;lia
theorem zBL{mask k:Nat}(hm:mask+1=2^k){hs:Array Int}(hl:hs.size<=mask+1):∃ow,uF mask hs=some ow/\Ow mask ow hs.toList:=by
 obtain⟨ow,e,o⟩:=N3 hm hs.toList _ [] (Ow.nil mask) (by simpa using hl);refine⟨ow,?_,by simpa using o⟩;unfold uF;rw[<- Array.foldl_toList];have:=congrArg (U7 (·.1)) e;exact this
def live(mask:Nat)(ow:Array (Option Nat)):List (Nat × Nat):=(wo (mask+1)).filterMap λj=>(ow.getD j none).map (j,·)
theorem oN{mask:Nat}{ow:Array (Option Nat)}(hz:ow.size=mask+1){j k:Nat} : (j,k)∈live mask ow ↔ ow.getD j none=some k:=by
 unfold live;rw[Qd]
 constructor
 ·rintro ⟨x,_,e⟩
  cases h:ow.getD x none with
  | none=>rw[h]at e;cases e
  | some y=>rw[h]at e;cases e;exact h
 ·intro h
  refine⟨j,?_,by rw[h];rfl⟩;rw[wB];rcases wT j (mask+1)with q | q
  ·exact q
  ·rw[wM,QF (by lia)]at h;cases h
theorem Of{mask:Nat}{ow:Array (Option Nat)}{hs:List Int}(o:Ow mask ow hs):(live mask ow).Pairwise λx y=>x.1<y.1/\x.2≠y.2:=by
 unfold live;rw[List.pairwise_filterMap];refine U1 ?_ Vv;intro a b _ _ hab x hx y hy;cases h1:ow.getD a none with
 | none=>rw[h1]at hx;cases hx
 | some u =>
  cases h2:ow.getD b none with
  | none=>rw[h2]at hy;cases hy
  | some v =>
   rw[h1]at hx;rw[h2]at hy;cases hx;cases hy;refine⟨hab,λe=>?_⟩;have:u=v:=e;subst this;have:=o.inj _ _ _ h1 h2
   lia
theorem zrY{mask:Nat}{ow:Array (Option Nat)}{hs:List Int}(o:Ow mask ow hs):((live mask ow).map (·.2)).Perm (wo hs.length):=by
 refine(xv ?_ Wn).mpr λk=>?_
 ·show UJ _ _
  rw[WF];exact(Of o).imp λh=>h.2
 ·rw[wB,wQ]
  constructor
  ·rintro ⟨⟨j,k'⟩,h,rfl⟩
   exact o.lt _ _ ((oN o.size).mp h)
  ·intro h
   obtain⟨j,hj⟩:=o.has k h;exact⟨(j,k),(oN o.size).mpr hj,rfl⟩
theorem zya{mask k:Nat}(k3:3<=k)(hm:mask+1=2^k)(finger moves:Nat)(led plain:Bool){hs:Array Int}(hl:hs.size<=mask) :
  ∃(t:WO)(ord:Array Nat),UN mask finger moves led plain hs=some (t,ord)/\t.mask=mask/\t.led=led/\t.plain=plain/\t.moves=moves/\ord.toList.Perm (wo hs.size)/\Tb t (ord.toList.map λk=>hs.toList.getD k 0):=by
 obtain⟨ow,e,o⟩:=zBL hm (hs:=hs) (by lia);have op:=zrY o;rw[wD]at op;have ll:(live mask ow).length=hs.size:=by have:=op.length_eq;simpa using this
 refine⟨{mask,place:=((live mask ow).map (·.1)).toArray,dummies:=#[],finger,led,moves,plain},((live mask ow).map (·.2)).toArray,?_,rfl,rfl,rfl,rfl,by simpa using op,?_⟩
 ·unfold UN
  rw[e];rfl
 ·have pz:(((live mask ow).map (·.1)).toArray).size=(live mask ow).length:=by simp
  have pg:∀i (h:i<(live mask ow).length),(((live mask ow).map (·.1)).toArray).getD i 0=((live mask ow)[i]).1:=λi h=>by
   rw[wM];simp[h]
  have inn:∀x,ow.getD x none≠none->In {mask,place:=((live mask ow).map (·.1)).toArray,dummies:=#[],finger,led,moves,plain} x:=λx hx=>by
   cases hy:ow.getD x none with
   | none=>exact absurd hy hx
   | some y =>
    obtain⟨i,hi,ei⟩:=Wj ((oN o.size).mpr hy);exact⟨i,by show i<(((live mask ow).map (·.1)).toArray).size;rw[pz];exact hi,by show(((live mask ow).map (·.1)).toArray).getD i 0=x;rw[pg i hi,ei]⟩
  refine⟨?_,?_,rfl,⟨k,k3,hm⟩,?_,?_,?_⟩
  ·intro i j hij hj
   have hj:j<(live mask ow).length:=by rw[<- pz];exact hj
   show(((live mask ow).map (·.1)).toArray).getD i 0<(((live mask ow).map (·.1)).toArray).getD j 0
   rw[pg i (by lia),pg j hj];exact(qX.mp (Of o) i j (by lia) hj hij).1
  ·show(((live mask ow).map (·.1)).toArray).size=_
   rw[pz];simp
  ·intro i hi
   have hi:i<(live mask ow).length:=by rw[<- pz];exact hi
   show(((live mask ow).map (·.1)).toArray).getD i 0<=mask
   rw[pg i hi];have:=(oN o.size).mp (show(((live mask ow)[i]).1,((live mask ow)[i]).2)∈live mask ow from vc hi);rcases wT ((live mask ow)[i]).1 (mask+1)with q | q
   ·lia
   ·rw[wM,QF (by rw[o.size];lia)]at this;cases this
  ·show(((live mask ow).map (·.1)).toArray).size<=mask
   rw[pz,ll];exact hl
  ·intro i hi
   have hi:i<(live mask ow).length:=by rw[<- pz];exact hi
   have hm':=(oN o.size).mp (show(((live mask ow)[i]).1,((live mask ow)[i]).2)∈live mask ow from vc hi)
   have eh:(((live mask ow).map (·.2)).toArray.toList.map λk=>hs.toList.getD k 0).getD i 0=hs.toList.getD ((live mask ow)[i]).2 0:=by
    rw[wa];simp[hi]
   obtain⟨n,a1,a2⟩:=o.path _ _ hm'
   show ∃n,(way mask (start mask (_)) n).j=(((live mask ow).map (·.1)).toArray).getD i 0/\_
   rw[pg i hi,eh];exact⟨n,a1,λm hm=>inn _ (a2 m hm)⟩
theorem LM(n:Nat):∀(fuel size:Nat),∃m,WD n fuel size=size*2^m/\(n<size*2^fuel->n<WD n fuel size)/\(WD n fuel size<=size\/WD n fuel size<=2*n)
 | 0,size=>⟨0,by simp[WD],λh=>by simpa [WD] using h,.inl (by simp[WD])⟩
 | fuel+1,size=>by
  unfold WD
  by_cases c:size<=n
  ·rw[if_pos c]
   obtain⟨m,h1,h2,h3⟩:=LM n fuel (size*2);refine⟨m+1,?_,λh=>h2 ?_,?_⟩
   ·rw[h1,Vc,Vw (2^m) 2,W7]
   ·rw[Vc,Vw (2^fuel) 2,<- W7]at h;exact h
   ·rcases h3 with h3 | h3<;>right<;>lia
  ·rw[if_neg c]
   exact⟨0,by simp,λ_=>by lia,.inl (wu _)⟩
theorem zCM{n:Nat}(h1:1<=n)(h:n<=4000):∃k,3<=k/\ql (4*n)-1+1=2^k/\4*n<=ql (4*n)-1/\ql (4*n)<=8*n:=by
 obtain⟨m,e1,e2,e3⟩:=LM (4*n) 64 8;have e0:ql (4*n)=WD (4*n) 64 8:=rfl
 have lt := e2 (by have : (8 * 2 ^ 64 : Nat) = 147573952589676412928 := by decide
                   lia)
 rw[e0];refine⟨m+3,by lia,?_,by lia,by lia⟩;rw[Nat.sub_add_cancel (by lia),e1,uO,Vw]
section
variable{prog:wP}{w:wR}{K:Type}[DecidableEq K]{knd:KeyKind prog w K}{U:wf->List K->Prop}{A:vj}{E:we->wk->Prop}{s:wk}
def Ent(knd:KeyKind prog w K)(U:wf->List K->Prop)(h:wK)(e:Int × we)(k:List K):Prop:=∃a,e.2=.ref a/\vN knd h k a/\e.1=vx knd k/\U a k
theorem TK(n:Nat){v:we}(h:carriedByValue v=true):qB n v=pure false:=by
 cases v with
 | ref a=>simp[carriedByValue]at h
 | _=>first | rfl | simp[qB] | (unfold qB;rfl)
theorem NY{x:wf}{k:List K}(hx:vN knd s.heap k x){Q:Bool->wk->Prop}(q:Q false s):wA (model prog w) A (qB 8 (.ref x)) Q E s:=by
 have hT:=hx.typeIs;obtain⟨o,items,n,ho,hc,hd,hi⟩:=hx;unfold qB;refine wg (wpAny_typeOf hT ?_);dsimp only;rw[if_pos (by decide)];refine wg (wp ?_);simp only[WX,vq,if_false];refine wg (WZ ho hd ?_);refine wg ?_
 show wA _ _ (forIn items _ _) _ _ s
 rw[<- Qj];refine qa _ (λrest r s'=>r.1=none/\s'=s /\ ∀v∈rest,carriedByValue v=true) _ ?_ ?_ _ _ ⟨rfl,rfl,hi.byValue⟩
 ·rintro v rest r s' ⟨hr,rfl,hall⟩
  rw[TK _ (hall v wN)];refine wg (wp ?_);simp only[vq,if_false];exact wp ⟨rfl,rfl,λu hu'=>hall u (wI _ hu')⟩
 ·rintro ⟨r1,r2⟩ s' ⟨hr,rfl,_⟩
  simp only at hr;subst hr;exact wp q
theorem TR{x:wf}{k:List K}(hx:vN knd s.heap k x):∀(l:List we),(∀v∈l,∃y k',v=.ref y/\vN knd s.heap k' y)->∀{Q:Bool->wk->Prop},Q false s->wA (model prog w) A (searchCouldBeSeen (.ref x) l) Q E s:=by
 intro l hl Q q;unfold searchCouldBeSeen;refine wg ?_;refine qa _ (λrest r s'=>r.1=none/\s'=s /\ ∀v∈rest,∃y k',v=.ref y/\vN knd s.heap k' y) _ ?_ ?_ _ _ ⟨rfl,rfl,hl⟩
 ·rintro v rest r s' ⟨hr,rfl,hall⟩
  obtain⟨y,k',rfl,hy⟩:=hall v wN;have rst:∀v∈rest,∃y k',v=.ref y/\vN knd s'.heap k' y:=λu hu'=>hall u (wI _ hu')
  dsimp only
  split
  ·exact wp ⟨rfl,rfl,rst⟩
  ·refine wg (wpAny_eqIsQuiet_tuple hx ?_)
   simp only[WX,vq,if_false];refine wg (wpAny_eqIsQuiet_tuple hy ?_);simp only[WX,vq,if_false];refine wg (NY hx ?_);simp only[WX,vq,if_false];refine wg (NY hy ?_);simp only[WX,vq,if_false];exact wp ⟨rfl,rfl,rst⟩
 ·rintro ⟨r1,r2⟩ s' ⟨hr,rfl,_⟩
  simp only at hr;subst hr;exact wp q
theorem zyt{t:WO}(R:jB t.place)(D:t.dummies = #[]){i j:Nat}(hi:i<t.place.size)(e:t.place.getD i 0=j):t.slot j=.live i:=by
 rcases JY R D j with⟨i',h1,h2,h3⟩ | ⟨no,_⟩
 ·rw[h3,DQ R h1 hi (h2.trans e.symm)]
 ·exact absurd e (no i hi)
theorem Ent.inj{h:wK}{e:Int × we}{k k':List K}(a:Ent knd U h e k)(b:Ent knd U h e k'):k=k':=by
 obtain⟨x,h1,h2,_⟩:=a;obtain⟨y,h3,h4,_⟩:=b;rw[h1]at h3;cases h3;exact h2.inj h4
theorem Tb.fits{t:WO}{hs:List Int}(b:Tb t hs):t.fits hs.length=true:=by
 unfold SetTable.fits UO;rw[b.mO,b.size];have:=b.room;rw[b.size]at this
 simpa using this
theorem Tb.SE{t:WO}{hs:List Int}(b:Tb t hs):t.gaveWay=false:=by
 obtain⟨k',h3,e⟩:=b.two;unfold SetTable.gaveWay;have:2^k'=2*2^(k'-1):=by rw[<- Nat.pow_succ'];congr 1;lia
 have:t.mask % 2=1:=by lia
 rw[this];rfl
theorem Ln{a xa:wf}{k:List K}{o:Obj}{es:Array (Int × we)}{ep:Nat}{t:WO}(hu:A.units<WV)(hx:vN knd s.heap k xa)
  (ho:s.heap.get? a=some o) (hd:o.data=.set es ep t) (b:Tb t (es.toList.map (·.1))) (he:∀i (h:i<es.size),∃k',Ent knd U s.heap es[i] k') (n0:Nat) (hE:¬ In t (way t.mask (start t.mask (vx knd k)) n0).j) (hF:∀m,m<n0->In t (way t.mask (start t.mask (vx knd k)) m).j) (hf0:n0<10*Xq t.mask)
  {Q:SetFound->wk->Prop} (yes:(∃i,∃h:i<es.size,Ent knd U s.heap es[i] k)->Q (.there none) s) (no:(∀i (h:i<es.size),¬ Ent knd U s.heap es[i] k)->Q (.free (way t.mask (start t.mask (vx knd k)) n0).j false) s) :
  ∀(fuel n:Nat)(st:Option SetTable.Probe),n<=n0->n0-n<fuel->st.getD (t.probeStart (vx knd k))=way t.mask (start t.mask (vx knd k)) n ->
   (∀m,m<n->∀i (h:i<es.size),t.place.getD i 0=(way t.mask (start t.mask (vx knd k)) m).j->¬ Ent knd U s.heap es[i] k) ->
   wA (model prog w) A (setSearchFrom a (.ref xa) (vx knd k) true fuel st) Q E s
 | 0,n,st,_,hlt,_,_=>absurd hlt (Wl _)
 | fuel+1,n,st,hn,hlt,hst,hno=>by
  have hsz:t.place.size=es.size:=by rw[b.size,wd,wD]
  have hfit:t.fits es.size=true:=by have:=b.fits;rwa[wd,wD]at this
  unfold setSearchFrom;refine wg (VO ho hd hfit ?_);dsimp only;rw[b.SE,hst];simp only[vq,if_false];have hp:=Ke b.jg b.mO (λi=>(es[i]?.map (·.1)).getD 0) (vx knd k) (p:=start t.mask (vx knd k)) rfl hE hF (10*Xq t.mask) n hn (by lia);rcases hp with⟨m,i,m1,m2,i1,i2,i3,i4,e⟩ | ⟨a1,e⟩
  ·generalize hP:t.probe _ (vx knd k) (way t.mask (start t.mask (vx knd k)) n)=P
   have eP:=hP.symm.trans e;rw[eP];clear eP hP P e;dsimp only;have ies:i<es.size:=by rw[<- hsz];exact i1
   obtain⟨k',a',e1,e2,e3,e4⟩:=he i ies;have eg:es[i]? = some es[i]:=vH ies;have hent:Ent knd U s.heap es[i] k':=⟨a',e1,e2,e3,e4⟩
   have next:k'≠k->wA (model prog w) A (setSearchFrom a (.ref xa) (vx knd k) true fuel (some (way t.mask (start t.mask (vx knd k)) (m+1)))) Q E s:=λc=>by
    refine Ln hu hx ho hd b he n0 hE hF hf0 yes no fuel (m+1) _ m2 (by lia) rfl λm' hm' i' hi' ep' hent'=>?_
    rcases wT m' n with q | q
    ·exact hno m' q i' hi' ep' hent'
    ·rcases Vl (VL hm')with q' | q'
     ·subst q'
      have:i'=i:=DQ b.jg (by rw[hsz];exact hi') i1 (ep'.trans i2.symm);subst this;exact c (hent.inj hent')
     ·refine i4 m' q q' i' (by rw[hsz];exact hi') ep' ?_
      show(es[i']?.map (·.1)).getD 0=_
      rw[vH hi'];obtain⟨_,_,_,e5,_⟩:=hent';exact e5
   have hsl:t.slot (way t.mask (start t.mask (vx knd k)) m).j=.live i:=zyt b.jg b.mO i1 i2;have hsm:t.sameMemory t.moves t.mask=some true:=by unfold SetTable.sameMemory;rw[if_pos (by simp)]
   have unseen:∀v∈(es.filter λx=>x.1 == vx knd k).toList.map (λx=>x.2),∃y k',v=.ref y/\vN knd s.heap k' y:=λv hv=>by
    obtain⟨e0,h0,rfl⟩:=wQ.mp hv;rw[Array.toList_filter,vG]at h0;obtain⟨j,hj,ej⟩:=Wj h0.1;obtain⟨k2,y2,f1,f2,_⟩:=he j (by simpa using hj);refine⟨y2,k2,?_,f2⟩;rw[<- ej,<- f1,Array.getElem_toList]
   have eg':es[i]? = some (es[i].1,.ref a'):=by rw[eg,<- e1]
   clear eg;generalize es[i].1=h' at *;have tail:k'=k->Q (.there none) s:=λc=>yes ⟨i,ies,c ▸ hent⟩
   cases hl:t.led
   ·simp only[Qn,if_true]
    refine wg (TR hx _ unseen ?_);simp only[vq,if_false];rw[eg'];dsimp only;refine wg (WA (wpAny_eqBool_tuple hu e2 hx ?_));refine wg (VO ho hd hfit ?_);dsimp only
    by_cases c:k'=k
    ·rw[decide_eq_true c]
     exact wp (tail c)
    ·rw[decide_eq_false c,hsm]
     simp only[VT,vq,if_false,if_true];rw[hsl];dsimp only;rw[eg'];dsimp only;refine wg (wpAny_isSame_ref_self ?_);refine wg (wp ?_);simp only[if_true];exact next c
   ·simp only[WX,vq,if_false]
    rw[eg'];dsimp only;refine wg (WA (wpAny_eqBool_tuple hu e2 hx ?_));refine wg (VO ho hd hfit ?_);dsimp only
    by_cases c:k'=k
    ·rw[decide_eq_true c]
     exact wp (tail c)
    ·rw[decide_eq_false c,hsm]
     simp only[VT,vq,if_false,if_true];rw[hsl];dsimp only;rw[eg'];dsimp only;refine wg (wpAny_isSame_ref_self ?_);refine wg (wp ?_);simp only[if_true];exact next c
  ·generalize hP:t.probe _ (vx knd k) (way t.mask (start t.mask (vx knd k)) n)=P
   have eP:=hP.symm.trans e;rw[eP];dsimp only;refine wp (no λi hi hent=>?_);have hi':i<t.place.size:=by rw[hsz];exact hi
   obtain⟨m,p1,p2⟩:=b.path i hi'
   have hh:(es.toList.map (·.1)).getD i 0=vx knd k:=by
    obtain⟨_,_,_,e3,_⟩:=hent;rw[wa,wz,Wh,vH hi];exact e3
   rw[hh]at p1 p2;rcases wT m n0 with q | q
   ·rcases wT m n with q' | q'
    ·exact hno m q' i hi p1.symm hent
    ·refine a1 m q' q i hi' p1.symm ?_
     show(es[i]?.map (·.1)).getD 0=_
     rw[vH hi];obtain⟨_,_,_,e3,_⟩:=hent;exact e3
   ·rcases Vl q with q' | q'
    ·subst q';exact hE ⟨i,hi',p1.symm⟩
    ·exact hE (p2 n0 q')
theorem zun{α : Type}(l:List α)(p:Nat)(x : α):(dA l p x).Perm (x::l):=by
 unfold dA;refine List.perm_middle.trans (Xd.cons x ?_);rw[List.take_append_drop]
theorem zW{h g:wK}{k:List K}{a:wf}(x:vN knd h k a)(e:∀o,h.get? a=some o->g.get? a=some o):vN knd g k a:=by
 obtain⟨o,its,n,h1,r⟩:=x;exact⟨o,its,n,e o h1,r⟩
theorem O_{h g:wK}{k:List K}{a d:wf}{o:Obj}{es:Array (Int × we)}{ep:Nat}{t:WO}(x:vN knd h k a)(ho:h.get? d=some o)(hd:o.data=.set es ep t)(hs:vW d h g):vN knd g k a:=by
 refine zW x λu eu=>(hs.2 a λad=>?_).trans eu
 obtain⟨u',_,_,e1,_,e2,_⟩:=x;rw[ad,ho]at e1;cases e1;rw[hd]at e2;cases e2
def fE(knd:KeyKind prog w K)(U:wf->List K->Prop)(h:wK)(es:List (Int × we))(ks:List (List K)):Prop:=es.length=ks.length /\ ∀(i:Nat)(e:Int × we)(k:List K),es[i]? = some e->ks[i]? = some k->Ent knd U h e k
def TS(knd:KeyKind prog w K)(U:wf->List K->Prop)(h:wK)(a:wf)(led:Bool)(ks:List (List K)):Prop :=
 ∃o es ep t,h.get? a=some o/\o.ExactSet/\o.data=.set es ep t/\Tb t (es.toList.map (·.1))/\es.size*5<t.mask*3/\(t.mask<=7\/t.mask<=8*es.size)/\t.led=led/\t.plain=true/\fE knd U h es.toList ks/\ks.Nodup
theorem Z9(hv:∀k v,knd.is k v=true->∃i t,v=.int i t){x:wf}{k:List K}(hx:vN knd s.heap k x){Q:Bool->wk->Prop}(q:Q true s):wA (model prog w) A (hashByValue 8 (.ref x)) Q E s:=by
 have hT:=hx.typeIs;obtain⟨o,items,n,ho,hc,hd,hi⟩:=hx
 have hints:∀{ks:List K}{vs:List we},ItemsAre knd ks vs->∀v∈vs,∃i t,v=.int i t:=λh=>by
  induction h with
  | nil=>intro v hv;simp at hv
  | cons h1 _ ih =>
   intro v hm;rcases wE.mp hm with rfl | hm
   ·exact hv _ _ h1
   ·exact ih v hm
 unfold hashByValue;refine wg (Qb hT qA.lookup ?_);dsimp only;refine wg (WZ ho hd ?_);refine wg ?_
 show wA _ _ (forIn items _ _) _ _ s
 rw[<- Qj];refine qa _ (λrest r s'=>r.1=none/\s'=s /\ ∀v∈rest,∃i t,v=.int i t) _ ?_ ?_ _ _ ⟨rfl,rfl,hints hi⟩
 ·rintro v rest r s' ⟨hr,rfl,hall⟩
  obtain⟨i,t,rfl⟩:=hall v wN
  show wA _ _ (pure true >>= _) _ _ _
  refine wg (wp ?_);simp only[WX,vq,if_false];exact wp ⟨rfl,rfl,λu hu'=>hall u (wI _ hu')⟩
 ·rintro ⟨r1,r2⟩ s' ⟨hr,rfl,_⟩
  simp only at hr;subst hr;exact wp q
theorem ZL{α β : Type}(f : α -> β)(l:List α)(p:Nat)(x : α):(dA l p x).map f=dA (l.map f) p (f x):=by
 unfold dA;rw[wL,wZ,UP,UQ]
theorem L_{α : Type}(d : α)(es:Array α):∀l:List Nat,(∀i∈l,i<es.size)->l.filterMap (λi=>es[i]?)=l.map λi=>es.toList.getD i d
 | [],_=>rfl
 | i::l,h=>by
  have hi:=h i (wN ..);rw[qU,vH hi,wZ,L_ d es l λj hj=>h j (wI _ hj)];dsimp only;rw[wa,Wh,vH hi]
  rfl
theorem OC{α : Type}(d : α)(l:List α):(wo l.length).map (λi=>l.getD i d)=l:=by
 refine vQ (by simp) λi h1 h2=>?_
 rw[vJ,Vm,wa,wc h2]
 rfl
theorem fE.keeps{h h':wK}{es:List (Int × we)}{ks:List (List K)}{d:wf}{o:Obj}{es0:Array (Int × we)}{ep:Nat}{t:WO}(x:fE knd U h es ks)(ho:h.get? d=some o)(hd:o.data=.set es0 ep t)(hs:vW d h h'):fE knd U h' es ks :=
 ⟨x.1,λi e k h1 h2=>by obtain⟨a,e1,e2,e3⟩:=x.2 i e k h1 h2;exact⟨a,e1,O_ e2 ho hd hs,e3⟩⟩
theorem fE.ins{h:wK}{es:List (Int × we)}{ks:List (List K)}(x:fE knd U h es ks){p:Nat}(hp:p<=ks.length){e:Int × we}{k:List K}(c:Ent knd U h e k):fE knd U h (dA es p e) (dA ks p k):=by
 have hp':p<=es.length:=by rw[x.1];exact hp
 refine⟨by rw[pM e hp',pM k hp,x.1],λi e' k' h1 h2=>?_⟩;rw[sO e hp']at h1;rw[sO k hp]at h2
 split at h1
 ·rename_i a;rw[if_pos a]at h2;exact x.2 i e' k' h1 h2
 ·rename_i a;rw[if_neg a]at h2
  split at h1
  ·rename_i b;rw[if_pos b]at h2
   cases h1;cases h2;exact c
  ·rename_i b;rw[if_neg b]at h2;exact x.2 (i-1) e' k' h1 h2
theorem fE.ord{h:wK}{es:List (Int × we)}{ks:List (List K)}(x:fE knd U h es ks){l:List Nat}(hl:∀i∈l,i<es.length):fE knd U h (l.map λi=>es.getD i (0,.none)) (l.map λi=>ks.getD i []):=by
 refine⟨by simp,λi e' k' h1 h2=>?_⟩;rw[wz]at h1 h2;cases hi:l[i]? with
 | none=>rw[hi]at h1;cases h1
 | some j =>
  rw[hi]at h1 h2;cases h1;cases h2;have hj:j<es.length:=hl j (qK hi);have hj':j<ks.length:=by rw[<- x.1];exact hj
  refine x.2 j _ _ ?_ ?_
  ·dsimp only;rw[wa,wc hj];rfl
  ·dsimp only;rw[wa,wc hj'];rfl
theorem Jq{h:wK}{a:wf}{o:Obj}{es:Array (Int × we)}{ep:Nat}{t:WO}(ho:h.get? a=some o)(hd:o.data=.set es ep t)(es':Array (Int × we))(t':WO) :
  (h.update a (xF es' t')).get? a=some {o with data:=.set es' (ep+1) t'}:=by
 have:=VA (xF es' t') ho (by rw[putSet_of es' t' hd];rfl);rw[putSet_of es' t' hd]at this;exact this
theorem zvY{a:wf}{o:Obj}{es:Array (Int × we)}{ep:Nat}{t:WO}{ks:List (List K)}(ho:s.heap.get? a=some o)(hex:o.ExactSet)(hd:o.data=.set es ep t)(b:Tb t (es.toList.map (·.1)))(hpl:t.plain=true)
  (hk:fE knd U s.heap es.toList ks) (hnd:ks.Nodup) (h1:1<=es.size) (hz:es.size<=1000) {Q:Unit->wk->Prop} (q:∀h' ks',vW a s.heap h'->TS knd U h' a t.led ks'->ks'.Perm ks->Q () {s with heap:=h'}) :
  wA (model prog w) A (setRelay a (Xr es.size)) Q E s:=by
 have hfit:t.fits es.size=true:=by have:=b.fits;rwa[wd,wD]at this
 have hg:Xr es.size=4*es.size:=by unfold Xr;rw[if_neg (by lia),Vw]
 obtain⟨k2,k3,s1,s2,s3⟩:=zCM (n:=es.size) h1 (by lia);unfold setRelay;rw[hg];refine wg (VO ho hd hfit ?_);dsimp only;rw[if_neg (by rw[Wy];lia)];obtain⟨t2,ord,e2,m2,l2,p2,_,op,b2⟩:=zya k3 s1 t.finger (t.movedTo (ql (4*es.size)-1)) t.led t.plain (hs:=es.map (·.1)) (by rw[UC];lia);rw[UC]at op;have olt:∀i∈ord.toList,i<es.size:=λi hi=>wB.mp (op.mem_iff.mp hi)
 have e2':t.relaid (es.map (·.1)) (4*es.size)=some (t2,ord):=e2;rw[e2']
 have fe:(ord.filterMap (λi=>es[i]?)).toList=ord.toList.map λi=>es.toList.getD i (0,.none):=by
  rw[Array.toList_filterMap];exact L_ _ es _ olt
 have fz:(ord.filterMap (λi=>es[i]?)).size=es.size:=by
  rw[<- wD,fe,wd,op.length_eq,vi]
 refine wg ?_
 show wA _ _ (if((ord.filterMap (λi=>es[i]?)).size != es.size)=true then(unsupported "internal:set-table-lost-an-element" >>= λ_=>pure (ord.filterMap (λi=>es[i]?),t2))else pure (ord.filterMap (λi=>es[i]?),t2)) _ _ _
 rw[if_neg (by rw[fz];simp)];refine wp ?_;refine wpAny_storeSet_of ho hd ?_ (by rw[fz,Wy];lia);have hsb:=WR s.heap a (xF (ord.filterMap (λi=>es[i]?)) t2);have hkk:fE knd U s.heap (ord.filterMap (λi=>es[i]?)).toList (ord.toList.map λi=>ks.getD i []):=by rw[fe];exact hk.ord λi hi=>by rw[wD];exact olt i hi
 have pm:(ord.toList.map λi=>ks.getD i []).Perm ks:=by
  have:=op.map (λi=>ks.getD i []);have hl:es.size=ks.length:=by rw[<- wD];exact hk.1
  rw[hl,OC]at this;exact this
 refine q _ (ord.toList.map λi=>ks.getD i []) hsb ⟨_,_,_,t2,Jq ho hd _ t2,hex,rfl,?_,?_,?_,l2,p2.trans hpl,hkk.keeps ho hd hsb,pm.nodup_iff.mpr hnd⟩ pm
 ·rw[fe,W3]
  have:(ord.toList.map ((λx:Int × we=>x.1) ∘ λi=>es.toList.getD i (0,.none)))=ord.toList.map λk=>(es.map (·.1)).toList.getD k 0:=by
   refine vU λi hi=>?_
   have:=olt i hi
   show(es.toList.getD i (0,.none)).1=_
   rw[wa,wa,Array.toList_map,wz,Wh,vH this]
   rfl
  rw[this];exact b2
 ·rw[fz,m2];lia
 ·right;rw[fz,m2];lia
theorem Zn(hv:∀k v,knd.is k v=true->∃i t,v=.int i t){a xa:wf}{k:List K}{led:Bool}{ks:List (List K)}(hu:A.units<WV)(hS:TS knd U s.heap a led ks)(hx:vN knd s.heap k xa)(hU:U xa k)(hz:ks.length+1<=1000)
  {Q:Bool->wk->Prop} (q:∀h' ks',vW a s.heap h'->TS knd U h' a led ks'->(k∈ks->ks'=ks)->(k ∉ ks->ks'.Perm (k::ks))->∀b,Q b {s with heap:=h'}) :
  wA (model prog w) A (setAddHashed a (.ref xa) (vx knd k)) Q E s:=by
 obtain⟨o,es,ep,t,ho,hex,hd,b,hfew,hmask,hled,hpl,⟨hkl,hke⟩,hnd⟩:=hS;rw[wD]at hkl;have hfit:t.fits es.size=true:=by have:=b.fits;rwa[wd,wD]at this
 have hsz:t.place.size=es.size:=by rw[b.size,wd,wD]
 have hent:∀i (h:i<es.size),Ent knd U s.heap es[i] (ks[i]'(by lia)):=λi h=>hke i _ _ (by rw[Wh,vH h]) (wc _)
 unfold setAddHashed setAddHashedIn;refine WA (wg (VO ho hd hfit ?_));dsimp only;rw[show byScan (.ref xa) es=false from rfl];simp only[vq,if_false];obtain⟨n0,hf0,hE,hF⟩:=b.free (vx knd k);have hmm:t.mask<=8000:=by lia
 refine wg (Ln hu hx ho hd b (λi h=>⟨_,hent i h⟩) n0 hE hF hf0 (λhy=>?yes) (λhn=>?no) 100000 0 none (Wg _) (by unfold Xq at hf0;lia) rfl (λm hm=>absurd hm (Wl _)))
 case yes =>
  dsimp only;obtain⟨i,hi,he⟩:=hy;have hk:k∈ks:=by rw[he.inj (hent i hi)];exact vc _
  exact wp (q s.heap ks (Heap.SameBut.refl a s.heap) ⟨o,es,ep,t,ho,hex,hd,b,hfew,hmask,hled,hpl,⟨by rw[wD];exact hkl,hke⟩,hnd⟩ (λ_=>rfl) (λh=>absurd hk h) _)
 case no =>
  dsimp only
  have hk:k ∉ ks:=λhm=>by
   obtain⟨i,hi,e⟩:=Wj hm;exact hn i (by lia) (e ▸ hent i (by lia))
  refine wg (VO ho hd hfit ?_);dsimp only;obtain⟨k8,k3,kk⟩:=b.two
  have m7:7<=t.mask:=by
   have:2^3<=2^k8:=QN (by decide) k3
   lia
  obtain⟨hp,tb⟩:=b.put hE hF (by rw[hsz];lia);rw[wd,wD,hkl]at hp;have q1:(t.put (way t.mask (start t.mask (vx knd k)) n0).j).1.plain=t.plain:=rfl;have q2:(t.put (way t.mask (start t.mask (vx knd k)) n0).j).1.led=t.led:=rfl;have q3:(t.put (way t.mask (start t.mask (vx knd k)) n0).j).1.mask=t.mask:=rfl;generalize (t.put (way t.mask (start t.mask (vx knd k)) n0).j).2=p at *;generalize (t.put (way t.mask (start t.mask (vx knd k)) n0).j).1=t1 at *;rw[if_pos (q1.trans hpl)];refine wg (Z9 hv hx ?_);simp only[if_true];have en:Ent knd U s.heap (vx knd k,.ref xa) k:=⟨xa,rfl,hx,rfl,hU⟩
  have hkk:fE knd U s.heap (WE es p (vx knd k,.ref xa)).toList (dA ks p k):=by
   rw[oE];exact fE.ins ⟨by rw[wD];exact hkl,hke⟩ hp en
  have tb':Tb t1 ((WE es p (vx knd k,.ref xa)).toList.map (·.1)):=by
   rw[oE,ZL];exact tb
  have z1:(WE es p (vx knd k,.ref xa)).size=es.size+1:=by
   rw[<- wD,oE,pM _ (by rw[wD,hkl];exact hp),wD]
  have pm:(dA ks p k).Perm (k::ks):=zun ks p k;have nd:(dA ks p k).Nodup:=pm.nodup_iff.mpr (Wp.mpr ⟨hk,hnd⟩);refine wg (wpAny_storeSet_of ho hd ?_ (by rw[z1,Wy];lia));have hsb:=WR s.heap a (xF (WE es p (vx knd k,.ref xa)) t1);have ho1:=Jq ho hd (WE es p (vx knd k,.ref xa)) t1
  have pz:t1.fill=es.size+1:=by
   unfold UO;rw[tb'.mO,tb'.size,wd,wD,z1];rfl
  split
  ·refine wg ?_
   have:=zvY (A:=A) (E:=E) (knd:=knd) (s:={s with heap:=s.heap.update a (xF (WE es p (vx knd k,.ref xa)) t1)}) (ks:=dA ks p k) ho1 hex rfl tb' (q1.trans hpl) (hkk.keeps ho hd hsb) nd (by rw[z1];lia) (by rw[z1];lia)
    (Q:=λ_ s'=>wA (model prog w) A (pure true) Q E s') λh' ks' sb ts pm'=>wp (q h' ks' (hsb.trans sb) (by rw[q2,hled]at ts;exact ts) (λh=>absurd h hk) (λ_=>pm'.trans pm) _)
   rw[z1]at this;exact this
  ·rename_i c
   have c:¬ t1.tooFull=true:=by simpa using c
   unfold SetTable.tooFull at c;rw[pz]at c;refine wp (q _ (dA ks p k) hsb ⟨_,_,_,t1,ho1,hex,rfl,tb',?_,?_,q2.trans hled,q1.trans hpl,hkk.keeps ho hd hsb,nd⟩ (λh=>absurd h hk) (λ_=>pm) _)
   ·rw[z1]
    have:¬ t1.mask*3<=(es.size+1)*5:=by simpa using c
    lia
   ·rw[z1,q3];lia
end
section
variable{prog:wP}{w:wR}{K:Type}[DecidableEq K]{knd:KeyKind prog w K}{U:wf->List K->Prop}
theorem TS.same{h g:wK}{S:wf}{led:Bool}{ks:List (List K)}(x:TS knd U h S led ks)(e:∀o,h.get? S=some o->g.get? S=some o)(f:∀k a,vN knd h k a->vN knd g k a):TS knd U g S led ks:=by
 obtain⟨o,es,ep,t,c1,c2,c3,c4,c5,c6,c7,c8,⟨d1,d2⟩,c9⟩:=x;refine⟨o,es,ep,t,e o c1,c2,c3,c4,c5,c6,c7,c8,⟨d1,λi y k y1 y2=>?_⟩,c9⟩;obtain⟨a,z1,z2,z3⟩:=d2 i y k y1 y2;exact⟨a,z1,f k a z2,z3⟩
theorem TS.new{h:wK}{S:wf}{led:Bool}(e:h.get? S=some {cls:=.type "set",dict:=none,data:=.set #[] 0 (.fresh 0 0 led)}):TS knd U h S led [] :=
 ⟨_,#[],0,_,e,⟨rfl,rfl,rfl⟩,rfl,⟨λi j _ hj=>absurd hj (Wl _),rfl,rfl,⟨3,wu _,rfl⟩,λi hi=>absurd hi (Wl _),Wg _,λi hi=>absurd hi (Wl _)⟩,(by show 0*5<7*3;decide),.inl (wu _),rfl,rfl,⟨rfl,λi y k y1=>by simp at y1⟩,VU⟩
variable{A:vj}{R:Result->wk->Prop}{I:wf}{fp wr:List wf}{G:Array GenState->Array GenState->Prop}{n:Nat}{P:Nat->we->Prop}{St:Nat->wk->Prop}
theorem zCt(hv:∀k v,knd.is k v=true->∃i t,v=.int i t)(W:WalksS prog w A.in1 I fp wr G n P St){S:wf}(hSf:S ∉ fp)(hu:A.units+1<WV){led:Bool}{key:Nat->List K}{ad:Nat->wf}
  (hval:∀i v,P i v->v=.ref (ad i)) (hI:∀i s a k,St i s->vN knd s.heap k a->a ∉ wr) (hn:n<=999) (hU:∀j,j<n->U (ad j) (key j)) :
  ∀(c i:Nat)(s:wk)(ks:List (List K)),n-i=c->i<=n->St i s->(∀j,j<n->vN knd s.heap (key j) (ad j))->TS knd U s.heap S led ks->(∀x,x∈ks ↔ ∃j,j<i/\key j=x)->ks.length<=i ->
   (∀s' ks',Moved (S::wr) G s s'->(∀k a,vN knd s.heap k a->vN knd s'.heap k a)->TS knd U s'.heap S led ks'->(∀x,x∈ks' ↔ ∃j,j<n/\key j=x)->R (.ok (.ret .none)) s') ->
   codeAny (model prog w) A (.builtin "set.update.loop" ⟨[.ref S,.ref I],[]⟩) R s:=by
 have nw:S ∉ wr:=λx=>hSf (W.sub _ x)
 intro c
 induction c with
 | zero =>
  intro i s ks ec ei st ht hs hx hl r;obtain rfl:i=n:=by lia
  refine VG Qk ?_;rw[VR Vx _];refine wg (m:=pyNext (.ref I)) (W.done s _ _ st λs' mv=>?_);have f:∀k a,vN knd s.heap k a->vN knd s'.heap k a:=λk a x=>zW x λo eo=>mv.heap a o (hI i s a k st x) eo
  exact wp (r s' ks (mv.mono λ_ q=>.tail _ q) f (hs.same (λo eo=>mv.heap S o nw eo) f) hx)
 | succ c ih =>
  intro i s ks ec ei st ht hs hx hl r;have lt:i<n:=by lia
  refine VG Qk ?_;rw[VR Vx _];refine wg (m:=pyNext (.ref I)) (W.item i s _ _ lt st λv s' pv st' mv=>?_);obtain rfl:=hval i v pv;have f:∀k a,vN knd s.heap k a->vN knd s'.heap k a:=λk a x=>zW x λo eo=>mv.heap a o (hI i s a k st x) eo
  have hs':=hs.same (λo eo=>mv.heap S o nw eo) f;refine wg (m:=holding [Value.ref (ad i)] (setAdd S (.ref (ad i)))) (WA ?_);unfold setAdd;refine WA (wg (wpAny_pyHash_tuple (by exact hu) (f _ _ (ht i lt)) ?_));refine Zn hv (s:={s' with toks:=s'.toks+((key i).length+1)}) (by exact hu) hs' (f _ _ (ht i lt)) (hU i lt) (by lia) λh2 ks2 sb ts2 y1 y2 b=>?_
  have so:=hs';obtain⟨o9,_,_,_,g1,_,g2,_⟩:=so;have f2:∀k a,vN knd s'.heap k a->vN knd h2 k a:=λk a x=>O_ x g1 g2 sb
  have jW:∀x,x∈ks2 ↔ ∃j,j<i+1/\key j=x:=λx=>by
   have old:x∈ks2 ↔ x=key i\/x∈ks:=by
    by_cases d:key i∈ks
    ·rw[y1 d];exact⟨.inr,λq=>q.elim (λe=>e ▸ d) id⟩
    ·rw[(y2 d).mem_iff,wE]
   rw[old,hx]
   constructor
   ·rintro (rfl | ⟨j,j1,j2⟩)
    ·exact⟨i,by lia,rfl⟩
    ·exact⟨j,by lia,j2⟩
   ·rintro ⟨j,j1,j2⟩
    rcases Vl (VL j1)with e | e
    ·subst e;exact .inl j2.symm
    ·exact .inr ⟨j,e,j2⟩
  have len2:ks2.length<=i+1:=by
   by_cases d:key i∈ks
   ·rw[y1 d];lia
   ·rw[(y2 d).length_eq,vA];lia
  refine wp ⟨plainId_quiet Vx _,ih (i+1) _ ks2 (by lia) lt (W.frame _ s' _ _ st' (V4 _ _) λz hz o e=>?_) (λj hj=>f2 _ _ (f _ _ (ht j hj))) ts2 jW len2 λs3 ks3 mv3 f3 ts3 m3=>?_⟩
  ·rw[sb.2 z (λq=>hSf (q ▸ hz))];exact e
  ·refine r s3 ks3 (Moved.trans W.gtrans ((mv.mono λ_ q=>.tail _ q).then_heap (V4 _ _) λz o hz e=>?_) mv3) (λk a x=>f3 k a (f2 k a (f k a x))) ts3 m3
   rw[sb.2 z (λq=>hz (q ▸ .head _))];exact e
end
def hX(led:Bool):Obj:={cls:=.type "set",dict:=none,data:=.set #[] 0 (.fresh 0 0 led)}
def fw(w:wR):Bool:=!(w.params.followText "set-order")
section
variable{prog:wP}{w:wR}{K:Type}[DecidableEq K]{knd:KeyKind prog w K}{U:wf->List K->Prop}{A:vj}{E:we->wk->Prop}{s:wk}
theorem Zg(x:we){Q:we->wk->Prop}(q:Q (.ref s.heap.objs.size) {s with heap:=s.heap.push (hX (fw w))}) :
  codeAny (model prog w) A (.call (.builtin "set.__new__") ⟨[.type "set",x],[]⟩) (wants Q E) s:=by
 refine codeAny_of_tree ?_;refine wg (m:=checkBuiltinCall "set.__new__" ⟨[.type "set",x],[]⟩) (wpAny_of_eq (F.newCall_set_1 x) (wp ?_));refine⟨plainId_quiet Up _,VG F.entry_set_new ?_⟩;rw[VR Up _];unfold Builtin.«set.__new__» UR;have sub:=sub_set_self;obtain⟨z1,z2,z3,z4,z5⟩:=s;dsimp only
 wp_walk
 refine wpAny_askSetting (wp ?_);dsimp only;simp only[newObj];exact wg (wpAny_alloc (wp (wp q)))
set_option maxHeartbeats 3200000 in
theorem Su(hv:∀k v,knd.is k v=true->∃i t,v=.int i t){l:wf}{its:List we}{key:Nat->List K}{ad:Nat->wf}(hh:A.handled=none)(hu:A.units+64<WV)(hl:s.heap.IsList l its.toArray)
  (hi:∀(i:Nat) v,its[i]? = some v->v=.ref (ad i)) (hk:∀i,i<its.length->vN knd s.heap (key i) (ad i)) (hn:its.length<=999) (hU:∀j,j<its.length->U (ad j) (key j)) {Q:we->wk->Prop}
  (q:∀(g:wK)(tk:Nat)(ks:List (List K)),TS knd U g s.heap.objs.size (fw w) ks->(∀x,x∈ks ↔ ∃j,j<its.length/\key j=x)->(∀b o,s.heap.get? b=some o->g.get? b=some o)->Q (.ref s.heap.objs.size) {s with heap:=g,toks:=tk}) :
  wA (model prog w) A (call (.type "set") [.ref l]) Q E s:=by
 obtain⟨c1,c2,mro⟩:=V5.mro;have f1:=V5.made;have f2:=V5.sub;have f3:=V5.notType;have f4:=V5.canCreate;have f5:=F.typeCall_set_1 (.ref l);refine wpAny_call (codeAny_of_tree (show wA _ _ (callAny (.type "set") _) _ _ _ from ?_));refine wp ⟨ub _ (by decide +kernel),VG uG ?_⟩;rw[uc (weight_type_call_type "set" [.ref l] []) rfl]
 repeat(any_goals(first | assumption | wp_step))
 have nd:=Zg (prog:=prog) (w:=w) (A:=A.in1) (E:=E) (s:=s) (.ref l) (Q:=λv s1=>v=.ref s.heap.objs.size/\s1 = {s with heap:=s.heap.push (hX (fw w))}) ⟨rfl,rfl⟩;refine V8 nd λr s1 hr=>?_
 cases r with
 | error e=>exact hr
 | ok fl =>
  cases fl with
  | ret obj =>
   obtain⟨rfl,rfl⟩:=hr;have gS:(s.heap.push (hX (fw w))).get? s.heap.objs.size=some (hX (fw w)):=wC _ rfl;have tS:Shared.TypeIs {s with heap:=s.heap.push (hX (fw w))} (.ref s.heap.objs.size) "set":=⟨_,gS,rfl⟩;have g1:=V5.init.lookup;have g2:=V5.init.bind (.ref s.heap.objs.size)
   repeat(any_goals(first | assumption | wp_step))
   refine V8 (codeAny_call_builtin (R:=wants (λv s2=>v=.none /\ ∃g tk ks,s2 = {s with heap:=g,toks:=tk}/\TS knd U g s.heap.objs.size (fw w) ks/\(∀x,x∈ks ↔ ∃j,j<its.length/\key j=x) /\ ∀b o,s.heap.get? b=some o->g.get? b=some o) E)
    V5.init.plain F.entry_set_init (check_set_init_1 tS ?_)) λr2 s2 hr2=>?_
   ·obtain⟨ol,e1,e2,nl,e3⟩:=hl
    obtain⟨y1,y2,y3,y4⟩:=ol;dsimp only at e2 e3;subst e2;subst e3;have gl:(s.heap.push (hX (fw w))).get? l=some {cls:=.type "list",dict:=y2,data:=.seq its.toArray nl,slots:=y4}:=wj _ e1;have n1:=F.sub_list_set;have n2:=F.sub_list_frozenset;have n3:(Value.type "list" == Value.type "dict")=false:=by decide
    have il:(s.heap.push (hX (fw w))).IsList l its.toArray:=⟨_,gl,rfl,nl,rfl⟩;unfold Builtin.«set.__init__» noKeywords UD;generalize hPI:pyIter=PI
    wp_walk
    subst hPI;refine VM il ?_;refine wg (wpAny_runValue ?_);have ls:l<s.heap.objs.size:=wF e1;have zs:(s.heap.push (hX (fw w))).objs.size=s.heap.objs.size+1:=Wf ..;have ne:l≠(s.heap.push (hX (fw w))).objs.size:=by rw[zs];exact ve (qy ls)
    have nf:s.heap.objs.size ∉ [(s.heap.push (hX (fw w))).objs.size,l]:=by
     rw[zs];intro hm;rcases wE.mp hm with e | hm
     ·exact absurd e (ve (u4 _))
     ·rcases wE.mp hm with e | hm
      ·exact absurd e (Wb ls)
      ·cases hm
    have kp:∀b o,s.heap.get? b=some o->((s.heap.push (hX (fw w))).push {cls:=.type "list_iterator",data:=.fields #[.ref l,.int 0 0]}).get? b=some o:=λb o e=>wj _ (wj _ e)
    refine zCt hv ((Walks.list (by simp[hh]) _ l ne its.toArray).toS) (S:=s.heap.objs.size) nf (by show A.units+1+1+1<_;lia) (led:=fw w) (key:=key) (ad:=ad)
     (λi v hp=>hi i v (by simpa using hp)) ?hI (by simpa using hn) (λj hj=>hU j (by simpa using hj)) (its.toArray.size-0) 0 _ [] rfl (Wg _) ⟨⟨_,wC _ rfl,rfl,rfl⟩,il.push _⟩
     (λj hj=>zW (hk j (by simpa using hj)) λo eo=>kp _ o eo) (TS.new (wj _ gS)) (λx=>⟨λh=>absurd h WM,λ⟨j,j1,_⟩=>absurd j1 (Wl _)⟩) (wu _) ?fin
    case hI =>
     intro i s9 a9 k9 st9 x9 hm;obtain⟨⟨o8,u1,u2,_⟩,_⟩:=st9;obtain⟨o9,_,_,v1,v2,_⟩:=x9;rcases wE.mp hm with e | hm
     ·subst e
      rw[u1]at v1;cases v1;rw[u2]at v2;exact absurd (UE v2) (by decide)
     ·cases hm
    case fin =>
     intro s9 ks9 mv f9 ts9 m9;obtain⟨g,x1,x2,x3,x4⟩:=s9;obtain rfl:x1=s.gens:=mv.gens;obtain rfl:x2=s.drawn:=mv.drawn;obtain rfl:x4=s.os:=mv.os;refine wp (wp ⟨rfl,g,x3,ks9,rfl,ts9,by simpa using m9,λb o e=>?_⟩);have lb:b<s.heap.objs.size:=wF e;refine mv.heap b o (λhm=>?_) (kp b o e);rcases wE.mp hm with e' | hm
     ·exact absurd e' (ve lb)
     ·rcases wE.mp hm with e' | hm
      ·rw[zs]at e';exact absurd e' (ve (qy lb))
      ·cases hm
   ·cases r2 with
    | error e=>exact hr2
    | ok fl2 =>
     cases fl2 with
     | ret v =>
      obtain⟨rfl,g,tk,ks,rfl,a1,a2,a3⟩:=hr2
      repeat(any_goals(first | assumption | wp_step))
      exact q g tk ks a1 a2 a3
     | _=>exact hr2.elim
  | _=>exact hr.elim
end
end TB
namespace TB
open PySem PySem.W PyProof.Rows
inductive eT{α : Type}(n:Nat)(φ : α -> Prop):KasT α -> Prop
 | ret {a : α} : φ a->eT n φ (.ret a)
 | ask {i j:Nat} {k:Bool->KasT α} : i<n->j<n->(∀b,eT n φ (k b))->eT n φ (.ask i j k)
theorem eT.bind{α β : Type}{n:Nat}{φ : α -> Prop}{ψ : β -> Prop}{t:KasT α}{f : α -> KasT β}(h:eT n φ t)(hf:∀a,φ a->eT n ψ (f a)):eT n ψ (t.bind f):=by
 induction h with
 | ret h=>exact hf _ h
 | ask h1 h2 _ ih=>exact .ask h1 h2 ih
def Pm(n:Nat)(p:Array Nat):Prop:=p.toList.Perm (wo n)
theorem Pm.get{n:Nat}{p:Array Nat}(h:Pm n p)(h1:1<=n)(i:Nat):p.getD i 0<n:=by
 rw[wM,<- Wh];cases e:p.toList[i]? with
 | none=>exact h1
 | some x=>exact wB.mp (h.mem_iff.mp (qK e))
theorem Pm.rev{n:Nat}{p:Array Nat}(h:Pm n p)(i j:Nat):Pm n (kas_rev p i j):=(xw.mp (mirror_perm p i j _)).trans h
theorem Pm.Ls{n:Nat}{p:Array Nat}(h:Pm n p)(i j:Nat):Pm n (bubble p i j):=(xw.mp (bubble_perm p i j)).trans h
section
variable{n:Nat}(h1:1<=n)
include h1
theorem Fe{p:Array Nat}(h:Pm n p):∀f m,eT n (λ_=>True) (kas_asc p f m)
 | 0,_=>.ret trivial
 | f+1,m=>.ask (h.get h1 _) (h.get h1 _) λb=>by
  split
  ·exact .ret trivial
  ·exact Fe h f (m+1)
theorem yt:∀f (p:Array Nat) m q,Pm n p->eT n (λr=>Pm n r.1) (kas_desc f p m q)
 | 0,_,_,_,h=>.ret h
 | f+1,p,m,q,h=>.ask (h.get h1 _) (h.get h1 _) λb=>by
  split
  ·split
   ·exact yt f _ _ _ (h.rev _ _)
   ·exact yt f _ _ _ h
  ·refine .ask (h.get h1 _) (h.get h1 _) λc=>?_
   split
   ·exact .ret h
   ·exact yt f _ _ _ h
theorem NL{p:Array Nat}(h:Pm n p)(m r:Nat):eT n (λx=>Pm n x.2) (kas_tail3 m r p):=(Fe h1 (h.rev 0 m) _ _).bind λ_ _=>.ret (h.rev 0 m)
theorem NZ{p:Array Nat}(h:Pm n p)(m r:Nat):eT n (λx=>Pm n x.2) (kas_descPart m r p):=(yt h1 _ _ _ _ h).bind λx hx=>by
 split
 ·exact NL h1 (hx.rev _ _) _ _
 ·exact NL h1 hx _ _
theorem zr1{p:Array Nat}(h:Pm n p)(r:Nat):eT n (λx=>Pm n x.2) (kas_count r p):=(Fe h1 h _ _).bind λm _=>by
 split
 ·exact .ret h
 ·split
  ·refine .ask (h.get h1 _) (h.get h1 _) λb=>?_
   split
   ·exact .ret h
   ·exact NZ h1 (h.rev _ _) _ _
  ·exact NZ h1 h _ _
theorem Bk{p:Array Nat}(h:Pm n p)(k:Nat):∀f l r,eT n (λ_=>True) (kas_place p k f l r)
 | 0,_,_=>.ret trivial
 | f+1,l,r=>by
  unfold kas_place
  split
  ·exact .ret trivial
  ·refine .ask (h.get h1 _) (h.get h1 _) λb=>?_
   split
   ·exact Bk h k f _ _
   ·exact Bk h k f _ _
theorem Rk:∀f (p:Array Nat) k,Pm n p->eT n (Pm n) (kas_bin f p k)
 | 0,_,_,h=>.ret h
 | f+1,p,k,h=>(Bk h1 h k _ _ _).bind λl _=>Rk f _ _ (h.Ls _ _)
theorem zuJ:eT n (Pm n) (kas_sort n):=(zr1 h1 (p:=(wo n).toArray) (by unfold Pm;simp) n).bind λx hx=>by
 split
 ·exact Rk h1 _ _ _ hx
 ·exact .ret hx
end
section
variable{prog:wP}{w:wR}{A:vj}{E:we->wk->Prop}{s:wk}
def Tw(h:wK)(v:we):Prop:=∃a o its n x t ys,v=.ref a/\h.get? a=some o/\o.cls=.type "tuple"/\o.data=.seq its n/\its.toList=.int x t::ys /\ ∀y∈ys,∃i u,y=.int i u
theorem Tw.ints{h:wK}{v:we}(x:Tw h v):∃a o its n,v=.ref a/\h.get? a=some o/\o.cls=.type "tuple"/\o.data=.seq its n/\(∃i t,its[0]? = some (.int i t)) /\ ∀y∈its.toList,∃i u,y=.int i u:=by
 obtain⟨a,o,its,n,i,t,ys,h1,h2,h3,h4,h5,h6⟩:=x;refine⟨a,o,its,n,h1,h2,h3,h4,⟨i,t,?_⟩,λy hy=>?_⟩
 ·rw[<- Wh,h5];rfl
 ·rw[h5]at hy
  rcases wE.mp hy with e | hy
  ·exact⟨i,t,e⟩
  ·exact h6 y hy
theorem NH{h:wK} : ∀(vs:List we),(∀v∈vs,Tw h v)->∃fs,KatTups h vs fs/\fs.length=vs.length /\ ∀f∈fs,∃i t,f=.int i t
 | [],_=>⟨[],.nil,rfl,λf hf=>by simp at hf⟩
 | v::vs,hv=>by
  obtain⟨fs,h1,h2,h3⟩:=NH vs λu hu=>hv u (.tail _ hu)
  obtain⟨a,o,its,n,rfl,e1,e2,e3,⟨i,t,e4⟩,_⟩:=(hv v (.head _)).ints;refine⟨.int i t::fs,.cons e1 e2 e3 e4 h1,by simp[h2],λf hf=>?_⟩;rcases wE.mp hf with e | hf
  ·exact⟨i,t,e⟩
  ·exact h3 f hf
end
structure p7(w:wR)(h:wK)(a:wf)(es:Array (Int × we))(ep:Nat)(t:WO):Prop where
 at':∃o,h.get? a=some o/\o.ExactSet/\o.data=.set es ep t
 fits:t.fits es.size=true
 size:t.place.size=es.size
 jg:jB t.place
 plain:t.plain=true
 led:t.led=fw w
 tY:es.size<=4000
theorem p7.same{w:wR}{h g:wK}{a:wf}{es:Array (Int × we)}{ep:Nat}{t:WO}(x:p7 w h a es ep t)(e:∀o,h.get? a=some o->g.get? a=some o):p7 w g a es ep t :=
 ⟨let ⟨o,h1,r⟩:=x.at';⟨o,e o h1,r⟩,x.fits,x.size,x.jg,x.plain,x.led,x.tY⟩
section
variable{prog:wP}{w:wR}{A:vj}{E:we->wk->Prop}{s:wk}{a:wf}{es:Array (Int × we)}{ep:Nat}{t:WO}
end
section
variable{prog:wP}{w:wR}{A:vj}{E:we->wk->Prop}{s:wk}{a it:wf}{es:Array (Int × we)}{ep:Nat}{t:WO}{i:Nat}
end
section
variable{prog:wP}{w:wR}{A:vj}{E:we->wk->Prop}{s:wk}
theorem zve{a:wf}{vs:List we}{n:Nat}{P:ud->wk->Prop}(ho:s.heap.get? a=some (vV "list" vs.toArray n))(h2:vs.length<2)
  (q:∀(g:wK)(c:Nat),g.get? a=some (vV "list" vs.toArray c)->(∀b o,b≠a->s.heap.get? b=some o->g.get? b=some o)->P (.done (.ret .none)) {s with heap:=g}) :
  wA (model prog w) A (Builtin.«list.sort» ⟨[.ref a],[]⟩) P E s:=by
 have sb:=WR s.heap a (vM λ_=>(#[]:Array we));obtain⟨e1,ho1⟩:∃e1,(s.heap.update a (vM λ_=>(#[]:Array we))).get? a=some (vV "list" #[] e1):=⟨_,get?_update_seq ho λ_=>#[]⟩
 have kp:∀b o,b≠a->s.heap.get? b=some o->(((s.heap.update a (vM λ_=>(#[]:Array we))).push (vV "tuple" vs.toArray 0)).push (vV "list" #[] 0)).get? b=some o:=λb o hb e =>
  wj _ (wj _ ((sb.2 b hb).trans e))
 have ho3:(((s.heap.update a (vM λ_=>(#[]:Array we))).push (vV "tuple" vs.toArray 0)).push (vV "list" #[] 0)).get? a=some (vV "list" #[] e1):=wj _ (wj _ ho1);have nz:vs.toArray.size<2:=by rw[wG];lia
 rw[list_sort_plain];refine wg (listItems_at ho rfl ?_);refine wg (listUpdate_at ho rfl ?_ (by rw[wG,Wy];lia) (Wg _));refine wg (seqEpoch_at ho1 rfl ?_);refine wg (wpAny_newTuple ?_ (by show vs.length<=_;rw[Wy];lia));refine wg (wpAny_newList ?_ (Wg _));refine WA ?_
 show wA (model prog w) A _ P E {s with heap:=((s.heap.update a (vM λ_=>(#[]:Array we))).push (vV "tuple" vs.toArray 0)).push (vV "list" #[] 0)}
 dsimp only;rw[if_pos nz,if_pos nz];generalize ((s.heap.update a (vM λ_=>(#[]:Array we))).push (vV "tuple" vs.toArray 0)).push (vV "list" #[] 0)=g at *;refine wg (wp ?_);rw[StateT.run_pure];refine wg (wp ?_);dsimp only
 have es:(arrOf (SortSt.mk' general' (vs.toArray.zip vs.toArray) #[] 7 none)).map (·.2)=vs.toArray:=by
  show(vs.toArray.zip vs.toArray).map (·.2)=vs.toArray
  apply Array.ext'
  simp[List.map_snd_zip]
 rw[es];refine wg (seqEpoch_at (s:={s with heap:=g}) ho3 rfl ?_);refine wg (listUpdate_at (s:={s with heap:=g}) ho3 rfl ?_ (Wg _) (by rw[wG,Wy];lia));simp only[bne_self_eq_false,vq,if_false];have sb2:=WR g a (vM λ_=>vs.toArray);refine wp (q _ _ (get?_update_seq ho3 λ_=>vs.toArray) λb o hb e=>(sb2.2 b hb).trans (kp b o hb e))
end
end TB
namespace L2
open PySem PySem.Spec PyProof.Rows GM
def nB(w:wR)(a:wf)(ws:List V):HO:=.ext λh=>∃es ep t,TB.p7 w h a es ep t/\aI ws (es.toList.map (·.2))
def B5(K:wb)(H:Hp)(v:V)(k:List Int):Prop:=∃q,v=.ref q/\aF K H q (k.map V.int)
theorem items_int{P:wP}{w:wR} : ∀{us:List we}{ns:List Int},qi us ns->ItemsAre (intKind P w) ns us
 | _,_,.nil=>.nil
 | _,_,.cons n t r=>.cons (by show xf n (Value.int n t)=true;simp[xf]) (items_int r)
theorem zt2{P:wP}{w:wR}(k:Int)(v:we)(h:(intKind P w).is k v=true):∃i t,v=.int i t:=by
 have h:xf k v=true:=h;cases v with
 | int i t=>exact⟨i,t,rfl⟩
 | _=>exact absurd h (by simp[xf])
theorem Inv.key{X:Cx}{pins:List (wf × Obj)}{σ : List (Option V)}{H:Hp}{s:wk}(I:Inv X pins σ H s){q:wf}{k:List Int}(h:aF X.K H q (k.map V.int)):vN (intKind X.prog X.w) s.heap k q:=by
 obtain⟨its,r,⟨o,e,hc,n,hd⟩,_⟩:=I.tuple h;exact⟨o,its.toArray,n,e,hc,hd,items_int (yh r)⟩
def BH(K:wb)(w:wR):List V->Hp->VK->Prop:=λxs H Q=>∃(p:wf)(vs:List V)(key:Nat->List Int),xs=[.ref p]/\aG K H p vs/\vs.length<=999/\(∀j v,vs[j]? = some v->B5 K H v (key j)) /\
 ∀(l:wf)(ws:List V)(ks:List (List Int)),H l=none->ws.length=ks.length->(∀(i:Nat)(v:V)(k:List Int),ws[i]? = some v->ks[i]? = some k->B5 K H v k)->ks.Nodup->(∀x,x∈ks ↔ ∃j,j<vs.length/\key j=x) ->
  Q (.ref l) (upd H l (nB w l ws))
theorem Kt:∀{ws:List V}{us:List we},aI ws us->∀{i:Nat}{q:wf},ws[i]? = some (.ref q)->us[i]? = some (.ref q)
 | _,_,.nil,i,q,h=>by simp at h
 | _,_,.cons r1 r2,0,q,h=>by
  simp only[xS,Qv]at h ⊢;subst h;exact r1
 | _,_,.cons r1 r2,i+1,q,h=>by
  simp only[qd]at h ⊢;exact Kt r2 h
def my:we->V
 | .ref a=>.ref a
 | _=>.aZ
theorem CI:∀(us:List we),(∀u∈us,∃a,u=.ref a)->aI (us.map my) us
 | [],_=>.nil
 | u::us,h=>by
  obtain⟨a,rfl⟩:=h u (wN ..);exact .cons rfl (CI us λu hu=>h u (wI _ hu))
theorem zog(es:List (Int × we))(h:∀e∈es,∃a,e.2=.ref a):aI (es.map λe=>my e.2) (es.map (·.2)):=by
 have:=CI (es.map (·.2)) λu hu=>by
  obtain⟨e,he,rfl⟩:=wQ.mp hu;exact h e he
 rwa[W3]at this
theorem IT{α : Type}[DecidableEq α]:∀{ks l:List α},ks.Nodup->(∀x∈ks,x∈l)->ks.length<=l.length
 | [],l,_,_=>Wg _
 | k::ks,l,h,hs=>by
  rw[Wp]at h;have hk:=hs k (wN ..);have:=IT (l:=l.erase k) h.2 λx hx=>(List.mem_erase_of_ne (λe=>h.1 (by rw[<- e];exact hx))).mpr (hs x (wI _ hx))
  rw[List.length_erase_of_mem hk]at this;have:=List.length_pos_of_mem hk;rw[vA]
  lia
theorem Paired.back{α β : Type}{R : α -> β -> Prop} : ∀{xs:List α}{us:List β},Paired R xs us->∀{i:Nat}{u : β},us[i]? = some u->∃x,xs[i]? = some x/\R x u
 | _,_,.nil,i,u,h=>by simp at h
 | _,_,.cons r1 r2,0,u,h=>by
  simp only[xS,Qv]at h ⊢;subst h;exact⟨_,rfl,r1⟩
 | _,_,.cons r1 r2,i+1,u,h=>by
  simp only[qd]at h ⊢;exact Paired.back r2 h
theorem zrW{X:Cx}(hu:X.A.units+64<WV)(hc:X.calm=true):ay X (.type "set") (BH X.K X.w):=by
 intro pins s σ H xs us Q I r h;obtain⟨p,vs,key,rfl,hq,hn,hk,q⟩:=h;obtain⟨u,rfl,rx⟩:=fC r;cases rx;obtain⟨its,r',pl,hz⟩:=I.list hq;have hlen:=r'.length
 have hx:∀j:Nat,∃ad:wf,∀v,vs[j]? = some v->v=.ref ad/\aF X.K H ad ((key j).map V.int):=λj=>by
  cases e:vs[j]? with
  | none=>exact⟨0,λv h=>by cases h⟩
  | some v =>
   obtain⟨ad,h1,h2⟩:=hk j v e;exact⟨ad,λv' h=>by cases h;exact⟨h1,h2⟩⟩
 obtain⟨ad,had⟩:∃ad:Nat->wf,∀j v,vs[j]? = some v->v=.ref (ad j)/\aF X.K H (ad j) ((key j).map V.int):=⟨λj=>(hx j).choose,λj=>(hx j).choose_spec⟩;have hg:∀j,j<its.length->∃v,vs[j]? = some v:=λj hj=>⟨vs[j]'(by lia),wc _⟩
 refine TB.Su (knd:=intKind X.prog X.w) (U:=λa k=>aF X.K H a (k.map V.int)) zt2 (key:=key) (ad:=ad) (I.ok.hd hc) hu pl.isList (λj v hv=>?_) (λj hj=>?_) (by lia) (λj hj=>?_) λg tk ks hS hm kp=>?_
 ·obtain⟨v',hv'⟩:=hg j (by rcases wT j its.length with h | h;exact h;rw[wX h]at hv;cases hv)
  obtain⟨rfl,_⟩:=had j v' hv';have:=Kt r' hv';rw[hv]at this;exact wV this
 ·obtain⟨v',hv'⟩:=hg j hj
  exact I.key (had j v' hv').2
 ·obtain⟨v',hv'⟩:=hg j hj
  exact(had j v' hv').2
 ·obtain⟨o,es,ep,t,e1,e2,e3,e4,e5,e6,e7,e8,e9,e10⟩:=hS
  obtain⟨f1,f2⟩:=e9
  have kl:ks.length<=999:=Wi (IT e10 (l:=(wo its.length).map key) λx hx=>by
   obtain⟨j,h1,h2⟩:=(hm x).mp hx;exact wQ.mpr ⟨j,wB.mpr h1,h2⟩) (by rw[wd,vi];lia)
  have hz':es.size=ks.length:=by rw[<- f1,wD]
  have hr:∀e∈es.toList,∃a,e.2=.ref a:=λe he=>by
   obtain⟨i,hi⟩:=Xo.mp he;obtain⟨k,hk'⟩:∃k,ks[i]? = some k:=⟨_,wc (by rw[<- f1];exact(vk.mp hi).1)⟩;obtain⟨a,h1,_⟩:=f2 i e k hi hk';exact⟨a,h1⟩
  refine⟨.ref s.heap.objs.size,_,I.laid (t':=tk) kp (wu _) (show cz X.prog X.w _ _ _ (nB X.w s.heap.objs.size (es.toList.map λe=>my e.2))from⟨⟨es,ep,t,⟨⟨o,e1,e2,e3⟩,?_,?_,e4.jg,e8,e7,by lia⟩,?_⟩,⟨o,e1⟩,?_⟩),rfl,
   q _ _ ks (I.aB.fresh (wu _)) (by rw[wd];exact f1) (λi v k hv hk'=>?_) e10 λx=>by rw[hlen];exact hm x⟩
  ·have:=e4.fits
   rwa[wd,wD]at this
  ·rw[e4.size,wd,wD]
  ·exact zog _ hr
  ·rintro h1 h2 ⟨es',ep',t',a1,a2⟩ hh
   exact⟨es',ep',t',a1.same hh,a2⟩
  ·rw[wz]at hv
   cases e:es.toList[i]? with
   | none=>rw[e]at hv;cases hv
   | some x =>
    rw[e]at hv;cases hv;obtain⟨a,h1,_,_,h2⟩:=f2 i x k e hk';exact⟨a,by show my x.2=_;rw[h1];rfl,h2⟩
def PB(w:wR):List V->Hp->VK->Prop:=λxs H Q=>∃(p:wf)(ws:List V),xs=[.ref p]/\H p=some (nB w p ws)/\Q (.int (ws.length:Int)) H
theorem zuX{X:Cx} : ay X (.builtin "len") (PB X.w):=by
 intro pins s σ H xs us Q I r h;obtain⟨p,ws,rfl,hp,q⟩:=h;obtain⟨u,rfl,rx⟩:=fC r;cases rx;obtain⟨⟨es,ep,t,y,r'⟩,_,_⟩:=I.aB p _ hp;obtain⟨o,h1,h2,h3⟩:=y.at';have hl:ws.length=es.size:=by have:=r'.length;simpa using this
 have:=y.tY;exact PySem.call_len_set h1 h2 h3 y.fits (by lia) ⟨.int (ws.length:Int),H,I.tok _,⟨s.toks+1,by rw[hl]⟩,q⟩
end L2
namespace TB
open PySem PySem.W PyProof.Rows MeetsSeq
section
variable{prog:wP}{w:wR}{A:vj}{s:wk}{R:Result->wk->Prop}
end
end TB
namespace L2
open PySem PySem.Spec PyProof.Rows GM
section
variable{K:wb}{w:wR}{H H':Hp}{Q:VK}{v:V}{p l:wf}{xs ys:List Rat}{us ws:List V}
theorem N5{α : Type} : ∀{ys:List α},ys.Nodup->∀{i j:Nat}(hi:i<ys.length)(hj:j<ys.length),ys[i]=ys[j]->i=j
 | [],_,_,_,hi,_,_=>absurd hi (Wl _)
 | y::ys,h,0,0,_,_,_=>rfl
 | y::ys,h,0,j+1,hi,hj,e=>by
  rw[Wp]at h;exact absurd (vc (Ww hj)) (by rw[qt,Wx]at e;rw[<- e];exact h.1)
 | y::ys,h,i+1,0,hi,hj,e=>by
  rw[Wp]at h;exact absurd (vc (Ww hi)) (by rw[qt,Wx]at e;rw[e];exact h.1)
 | y::ys,h,i+1,j+1,hi,hj,e=>by
  rw[Wp]at h;rw[Wx,Wx]at e;rw[N5 h.2 (Ww hi) (Ww hj) e]
end
section
variable{X:Cx}{x n:Str}{G:we}{i:Nat}{b₀ : vD}{body suite:List vD}{np hpos pos:Pos}{tb:(St->XK)->TS}{th:wf->we->TS}
end
section
variable{K:wb}{G:we}{i:Nat}{tb:(St->XK)->TS}{th:wf->we->TS}{D:bY}{σ : St}{H:Hp}{Q:VK}{ex C' tp:wf}{b:Bool}{cs:List wf}
end
def tZ(K:wb):V->List V->Hp->VK->Prop:=λx vs H Q=>∃(l:wf)(ns:List Int)(z:Int)(j:Nat),x=.ref l/\vs=[.int z]/\aG K H l (ns.map V.int)/\ns.length<=1000/\ns[j]? = some z/\(∀m,m<j->ns[m]? ≠ some z)/\Q (.int (j:Int)) H
theorem zuc{X:Cx} : oi X "list.index" (tZ X.K):=by
 intro pins s σ H x vs v us Q I rx rv h;obtain⟨l,ns,z,j,rfl,rfl,hq,hn,hj,hm,q⟩:=h;cases rx;obtain⟨u,rfl,ru⟩:=rv.one;obtain⟨tz,rfl⟩:=(show ∃t,u=Value.int z t from ru);obtain⟨its,r,pl,hz⟩:=I.list hq;have hlen:=r.length;rw[wd]at hlen;obtain⟨⟨cls,dd,data,sl⟩,ho,hc,n,hd⟩:=id pl.isList;simp only at hc hd;subst hc hd
 have hjl:j<ns.length:=by
  rcases wT j ns.length with z | z
  ·exact z
  ·rw[wX z]at hj;cases hj
 have fs:(ns.map V.int).all iX=true:=by
  rw[WB];intro y hy;obtain⟨b,_,rfl⟩:=wQ.mp hy
  rfl
 have at':∀(i:Nat)(hi:i<its.length)(hi':i<ns.length),eE (.int z) its[i]=decide (ns[i]=z):=λi hi hi'=>by
  obtain⟨u,e,ru⟩:=r.get (show(ns.map V.int)[i]? = some (.int ns[i]) by rw[wz,wc hi'];rfl);rw[wc hi]at e;cases e;rw[BU ru rfl]
  rfl
 refine qo xT ⟨_,ho,rfl⟩ PySem.F.entry_list_index (PySem.F.args_list_index_2 _ _)
  (SeqAt.list_indexAt l its.toArray n dd sl (.int z tz) (eE (.int z)) j (by rw[wG];omega) (by omega) ?_ ?_) ⟨ho,λy hy=>mU (x:=.int z) ⟨tz,rfl⟩ rfl r fs y (by simpa using hy),⟨.int (j:Int),H,I.tok _,⟨_,rfl⟩,q⟩⟩
 ·have e:ns[j]=z:=by rw[wc hjl]at hj;exact wV hj
  rw[XC,at' j (by omega) hjl,e];exact decide_eq_true rfl
 ·intro i hi hlt
  have hi':i<ns.length:=by omega
  have e:ns[i]≠z:=λe=>hm i hlt (by rw[wc hi',e])
  rw[XC,at' i (by omega) hi'];exact decide_eq_false e
theorem ztS{K:wb}{H:Hp}{Q:VK}{p:wf}{ns:List Int}{z:Int}(h:aG K H p (ns.map V.int))(hn:ns.length<=1000)(hz:z∈ns)(q:Q (.int (ns.idxOf z:Nat)) H):tZ K (.ref p) [.int z] H Q:=by
 have hl:=Wc.mpr hz;refine⟨p,ns,z,ns.idxOf z,rfl,rfl,h,hn,by rw[wc hl,Vy hl],λm hm e=>?_,q⟩;have hml:m<ns.length:=by omega
 rw[wc hml]at e;have:=List.not_of_lt_findIdx (p:=(· == z)) hm;simp[wV e]at this
structure Rp(n m:Nat)(d:wq):Prop where
 sh:Sh n d
 si:d.showable=true
 is:d.intsShort 13=true
 wt:d.weight<=m
section
variable{K:wb}{H:Hp}{Q:VK}{v:V}{d:wq}{x y:Str}
end
theorem zjD:fillsNumberSlot (.type "tuple") "mul"=pure false :=
 PySem.fillsNumberSlot_seq (id:="tuple.__mul__") (r:=some (.builtin "tuple.__rmul__")) QJ.lookup (by decide +kernel) uH.lookup (by decide +kernel)
theorem Y_:seqRepeat? (.type "tuple")=pure (some (.builtin "tuple.__mul__")):=by
 unfold seqRepeat?;rw[u5 (T:="tuple") (name:="__mul__") (id:="tuple.__mul__") QJ.lookup (by decide +kernel),u5 (T:="tuple") (name:="__rmul__") (id:="tuple.__rmul__") uH.lookup (by decide +kernel)]
 rfl
theorem zlh(a:Int)(t:Tok)(l:wf)(items:Array we)(n:Nat)(dd:Option wf)(sl:Array (Option we)) :
  Meets (Builtin.«int.__rmul__» ⟨[.int a t,.ref l],[]⟩) (λ_ R s=>s.heap.get? l=some {cls:=.type "tuple",dict:=dd,data:=.seq items n,slots:=sl}/\R (.ok (.ret Value.notImplemented)) s) :=
 .of_wp λprog w A R s h=>by obtain⟨hp,g,d,tk,os⟩:=s;obtain⟨hl,h⟩:=h;wp_walk;exact⟨_,rfl,h⟩
theorem zrR(l:wf)(items:Array we)(n:Nat)(dd:Option wf)(sl:Array (Option we))(u:Tok)(hne:items.isEmpty=false) :
  Meets (Builtin.«tuple.__mul__» ⟨[.ref l,.int 1 u],[]⟩) (λ_ R s=>s.heap.get? l=some {cls:=.type "tuple",dict:=dd,data:=.seq items n,slots:=sl}/\R (.ok (.ret (.ref l))) s) :=
 .of_wp λprog w A R s h=>by
  obtain⟨hp,g,d,tk,os⟩:=s;obtain⟨hl,h⟩:=h
  wp_walk
  exact⟨_,rfl,h⟩
theorem zr6(l:wf)(items:Array we)(n:Nat)(dd:Option wf)(sl:Array (Option we))(k:Int)(u:Tok)(hne:items.isEmpty=false)(h1:1<k)(h2:k<=1000)(h3:items.size<=1000)(hz:((wm k.toNat items).foldl (· ++ ·) #[]).size<=wY) :
  Meets (Builtin.«tuple.__mul__» ⟨[.ref l,.int k u],[]⟩) (λ_ R s=>s.heap.get? l=some {cls:=.type "tuple",dict:=dd,data:=.seq items n,slots:=sl} /\
   R (.ok (.ret (.ref s.heap.objs.size))) {s with heap:=s.heap.push {cls:=.type "tuple",data:=.seq ((wm k.toNat items).foldl (· ++ ·) #[])}}) :=
 .of_wp λprog w A R s h=>by
  obtain⟨hp,g,d,tk,os⟩:=s;obtain⟨hl,h⟩:=h;have c1:(k == 1)=false:=by simp;omega
  have c2:(decide (k < -(2^63)) || decide (k ≥ 2^63))=false:=by simp;omega
  have c3:(decide (k<=0) || items.isEmpty)=false:=by rw[hne];simp;omega
  have c4:(items.isEmpty || k == 1)=false:=by rw[hne,c1];rfl
  have c7:items.size*k.toNat<=1000000:=Wi (VW h3 (show k.toNat<=1000 by omega)) (by decide);have c8:(items.size:Int)*k=((items.size*k.toNat:Nat):Int):=by rw[VC];congr 1;omega
  have c5:¬ ((items.size:Int)*k > (2^63-1) / 8):=by rw[c8];omega
  have c6:xx ((items.size:Int)*k)=false:=by
   rw[c8];unfold xx;simp only[decide_eq_false_iff_not,Wy];omega
  have ff:∀{b:Bool},b=false->decide (b=true)=false:=λ{b} e=>by subst e;rfl
  wp_walk
  refine wpAny_ite_false (ff c2) ?_
  wp_walk
  refine wpAny_ite_false (ff c3) ?_
  wp_walk
  refine wpAny_ite_false (decide_eq_false c5) ?_
  wp_walk
  refine wpAny_ite_false (ff c6) ?_
  wp_walk
  exact⟨_,rfl,h⟩
def pK(K:wb):R2:=λx y H Q=>∃l k xs,x=.ref l/\y=.int k/\aF K H l xs/\xs≠[]/\1<=k/\k<=1000/\xs.length<=1000/\(k=1->Q (.ref l) H) /\
 ∀p,H p=none->Q (.ref p) (upd H p (.tup (wm k.toNat xs).flatten))
theorem Ld{X:Cx} : aJ X (WH .Mult) (pK X.K):=by
 intro pins s σ H x y v u Q I rx ry h;obtain⟨l,k,xs,rfl,rfl,hH,hne,h1,h2,h3,q1,q⟩:=h;cases rx;obtain⟨t,rfl⟩:=ry;obtain⟨its,r,p1,hz⟩:=I.tuple hH;obtain⟨⟨cls,dd,data,sl⟩,ho,hc,n,hd⟩:=id p1;simp only at hc hd;subst hc hd;have hl:=r.length
 have hne':its.toArray.isEmpty=false:=by
  cases its with
  | nil=>exact absurd (WP (by simpa using hl)) hne
  | cons a b=>rfl
 have f0:∀m:Nat,Xz (λx1 x2=>x1++x2) #[] (wm m its.toArray)=(wm m its).flatten.toArray:=λm=>by
  have:=BF its m [];rw[xW]at this;exact this
 refine wpAny_binaryOp_repeat_ref (T:="tuple") (U:="int") (by decide) ⟨_,ho,rfl⟩ (λs'=>typeIs_int s' k t) zjD Ub QM Y_ uU.lookup
  (qo QM (typeIs_int s k t) uV (ur _ _) (zlh k t l its.toArray n dd sl)
   ⟨ho,rfl,⟨_,ho,rfl⟩,?_⟩)
 by_cases e1:k=1
 ·subst e1
  exact qo QJ ⟨_,ho,rfl⟩ uI (ue _ _) (zrR l its.toArray n dd sl t hne') ⟨ho,⟨.ref l,H,I,rfl,q1 rfl⟩⟩
 ·have hlen:(wm k.toNat its).flatten.length<=1000000:=by
   rw[sM];exact Wi (VW (show k.toNat<=1000 by omega) (show its.length<=1000 by omega)) (by decide)
  refine qo QJ ⟨_,ho,rfl⟩ uI (ue _ _) (zr6 l its.toArray n dd sl k t hne' (by omega) h2 (by rw[wG];omega) (by rw[f0,wG,Wy];omega)) ⟨ho,?_⟩;rw[f0];have hlen':(wm k.toNat xs).flatten.length=(wm k.toNat its).flatten.length:=by rw[sM,sM,hl]
  exact⟨.ref _,_,I.laid (t':=s.toks) (λb o e=>wj _ e) (wu _) (show cz X.prog X.w _ _ _ (.tup (wm k.toNat xs).flatten)from⟨by rw[hlen',Wy];omega,_,r.rep k.toNat,qJ _ _⟩),rfl,q _ (I.aB.fresh (wu _))⟩
section
variable{K:wb}{H:Hp}{Q:VK}{v:V}{ds:List wq}{k:Int}
theorem ag.rep{xs:List V}{ds:List wq}(h:ag K H xs ds):∀n:Nat,ag K H (wm n xs).flatten (wm n ds).flatten
 | 0=>.nil
 | n+1=>by
  rw[WQ,WQ,Va,Va];exact h.append (ag.rep h n)
theorem zv9(h:Is K H v (.tuple ds))(hne:ds≠[])(h1:1<=k)(h2:k<=1000)(h3:ds.length<=1000)(q:∀w H',af H H'->Is K H' w (.tuple (wm k.toNat ds).flatten)->Q w H'):pK K v (.int k) H Q:=by
 obtain⟨a,xs,rfl,hs,t⟩:=bz.mp h;have hl:=t.length;refine⟨a,k,xs,rfl,rfl,hs,λz=>?_,h1,h2,by omega,λz=>?_,λp hp=>q _ _ (af.upd hp) (bz.mpr ⟨p,_,rfl,.of bW,ag.same (af.upd hp) _ _ (t.rep _)⟩)⟩
 ·rw[z]at hl;exact hne (WP (by simpa using hl.symm))
 ·subst z
  refine q _ H (af.refl _) ?_;rw[show(1:Int).toNat=1 from rfl,List.replicate_one,Va,List.flatten_nil,vT];exact h
theorem LK{α : Type}(d : α):∀n:Nat,(wm n [d]).flatten=wm n d
 | 0=>rfl
 | n+1=>by rw[WQ,Va,LK d n,WQ];rfl
theorem Oa{d:wq}(h:Is K H v (.tuple [d]))(h1:1<=k)(h2:k<=1000)(q:∀w H',af H H'->Is K H' w (.tuple (wm k.toNat d))->Q w H'):pK K v (.int k) H Q :=
 zv9 h (by simp) h1 h2 (by simp) λw H' s i=>q w H' s (by rw[LK]at i;exact i)
end
end L2
namespace TB
open PySem PySem.W PyProof.Rows
section
variable{prog:wP}{w:wR}{A:vj}{E:we->wk->Prop}{s:wk}
end
end TB
namespace L2
open PySem PySem.Spec PyProof.Rows GM
def O1(K:wb)(ta:TA):TI:=λσ H R=>ta σ H λvs H1=>∃t u a b,vs=[.ref a,.ref b]/\(∃xs,cg t K H1 a xs)/\(∃ys,cg u K H1 b ys)/\R (jH t u K a b) H1
theorem IM{X:Cx}{elts:List Expr}{k1}{tpos p pos:Pos}{l m:Expr}{ta:TA}(hg:Gl X "zip")(hm:X.mg "zip"=none)(ha:PA X [l,m] ta)(hs:vg [l,m] X.env=[(false,eval l X.env),(false,eval m X.env)]:=by rfl)(hs2:vg [m] X.env=[(false,eval m X.env)]:=by rfl) :
  PI X (.Tuple elts k1 tpos) (.Call (.Name "zip" p) [l,m] [] pos) (O1 X.K ta):=by
 intro pins s σ H R I h;refine Call_ (gb I hg hm Be (vS (aE (ha pos pins s σ H _ I h) λus s1 ⟨vs,H1,I1,r1,q1⟩=>?_) (by rw[hs,hs2]) (by rw[hs2];rfl)));obtain⟨t,u,a,b,rfl,⟨xs,hq1⟩,⟨ys,hq2⟩,q⟩:=q1;obtain⟨u',v,rfl,ru,rv⟩:=kN r1;cases ru;cases rv;obtain⟨its,_,p1⟩:=I1.ik hq1;obtain⟨jts,_,p2⟩:=I1.ik hq2;cases t with
 | true =>
  have la:a<s1.heap.objs.size:=by obtain⟨o,e,_⟩:=(show s1.heap.IsTuple a its.toArray from p1);exact wF e
  cases u with
  | true =>
   have lb:b<s1.heap.objs.size:=by obtain⟨o,e,_⟩:=(show s1.heap.IsTuple b jts.toArray from p2);exact wF e
   exact Z6 p1 p2 λh' hz hi ho t1 t2 kp=>me (t:=true) (u:=true) I1 la lb hz hi ho t1 t2 kp q
  | false =>
   have lb:b<s1.heap.objs.size:=by obtain⟨o,e,_⟩:=(show s1.heap.IsList b jts.toArray from p2);exact wF e
   exact Yi p1 p2 λh' hz hi ho t1 t2 kp=>me (t:=true) (u:=false) I1 la lb hz hi ho t1 t2 kp q
 | false =>
  have la:a<s1.heap.objs.size:=by obtain⟨o,e,_⟩:=(show s1.heap.IsList a its.toArray from p1);exact wF e
  cases u with
  | true =>
   have lb:b<s1.heap.objs.size:=by obtain⟨o,e,_⟩:=(show s1.heap.IsTuple b jts.toArray from p2);exact wF e
   exact RZ p1 p2 λh' hz hi ho t1 t2 kp=>me (t:=false) (u:=true) I1 la lb hz hi ho t1 t2 kp q
  | false =>
   have lb:b<s1.heap.objs.size:=by obtain⟨o,e,_⟩:=(show s1.heap.IsList b jts.toArray from p2);exact wF e
   exact call_zip_2 p1 p2 λh' hz hi ho t1 t2 _ kp=>me (t:=false) (u:=false) I1 la lb hz hi ho t1 t2 kp q
section
variable{K:wb}{g:TG}{tt:TT}{te:TE}{tb:TS}{ta:TA}{D:bY}{src:List (Option Nat)}{σ : L2.St}{H:Hp}{Q:VK}
theorem zuB(h:ta σ H λvs H1=>∃t u,BS t u K g tt te src σ vs H1 Q):hJ src (O1 K ta) g tt te σ H Q:=by
 refine(show ta σ H _ from ?_);have e:(λvs H1=>∃t u,BS t u K g tt te src σ vs H1 Q)=λvs H1=>∃t u a b,vs=[.ref a,.ref b]/\(∃xs,cg t K H1 a xs)/\(∃ys,cg u K H1 b ys) /\ ∀D,H1 D=none->g9 g tt te (jH t u K a b) D (cF src σ) (upd H1 D (.lst [])) (λH'=>Q (.ref D) H'):=rfl
 rw[e]at h;exact h
theorem Du{v:V}{ds:List wq}(h:Is K H v (.list ds)\/Is K H v (.tuple ds)):∃t a us,v=.ref a/\cg t K H a us/\ag K H us ds:=by
 rcases h with h | h
 ·obtain⟨a,xs,e,hs,t⟩:=aW.mp h
  exact⟨false,a,xs,e,hs,t⟩
 ·obtain⟨a,xs,e,hs,t⟩:=bz.mp h
  exact⟨true,a,xs,e,hs,t⟩
end
end L2
namespace TB
open PySem PySem.W PyProof.Rows
section
variable{prog:wP}{w:wR}{A:vj}{E:we->wk->Prop}{s:wk}
theorem Sf(a:we)(t:Tok):checkTypeCall "enumerate" ⟨[a],[("start",.int 1 t)]⟩=pure ():=by kernel_rfl
theorem Sk(a:we)(t:Tok):checkBuiltinCall "enumerate.__new__" ⟨[.type "enumerate",a],[("start",.int 1 t)]⟩=pure ():=by kernel_rfl
theorem Sg(o a:we)(t:Tok):argsOk "object.__init__" ⟨[o,a],[("start",.int 1 t)]⟩:=by
 unfold argsOk;rw[signature?_of (id:="object.__init__") (n:=['_','_','t','i','n','i','_','_']) (o:=['t','c','e','j','b','o']) (by kernel_rfl) F.owner_object];kernel_rfl
theorem Sb{T newId initId:String}{Bn Bi:Builtin}{args:List we}{kw:List (Str × we)}{S:PySem.Spec}{Q Q₁ : we->wk->Prop}(ft:TypeCalled T newId initId)
  (hct:checkTypeCall T ⟨args,kw⟩=pure ()) (hcn:checkBuiltinCall newId ⟨.type T::args,kw⟩=pure ())
  (entryN:entryFor table newId=some Bn) (entryI:entryFor table initId=some Bi) (g:Meets (Bn ⟨.type T::args,kw⟩) S)
  (h:S A.in1 (wants Q₁ E) s)
  (hnext:∀obj s₁,Q₁ obj s₁ -> s₁.TypeIs obj T/\argsOk initId ⟨obj::args,kw⟩ /\ ∃Si,Meets (Bi ⟨obj::args,kw⟩) Si/\Si A.in1 (wants (λr s₂=>r=.none/\Q obj s₂) E) s₁) :
  wA (model prog w) A (call (.type T) args kw) Q E s:=by
 obtain⟨c,tl,hmro⟩:=ft.mro;have hmade:=ft.made;have hsub:=ft.sub;refine wpAny_call (codeAny_of_tree ?_)
 show wA _ _ (callAny (.type T) _) _ _ _
 refine wp ⟨ub _ (by decide +kernel),VG uG ?_⟩;rw[uc (weight_type_call_type T args kw) (units_type_call_type T args kw)];have h1:=ft.notType;have h2:=ft.canCreate
 repeat(any_goals(first | assumption | wp_step))
 refine V8 (codeAny_call_builtin ft.plain entryN (wpAny_of_eq hcn (g prog w A.in1 _ s h))) λr s₁ hr=>?_
 cases r with
 | error e=>exact hr
 | ok fl =>
  cases fl with
  | ret obj =>
   obtain⟨hT,aB,Si,gi,hsi⟩:=hnext _ _ hr;have hli:=ft.init.lookup;have hbi:=ft.init.bind obj
   repeat(any_goals(first | assumption | wp_step))
   refine V8 (codeAny_call_builtin ft.init.plain entryI (ft.init.check _ _ _ _ _ _ _ _ hT aB (gi prog w A.in1 _ s₁ hsi))) λr₂ s₂ hr₂=>?_
   cases r₂ with
   | error e=>exact hr₂
   | ok fl₂ =>
    cases fl₂ with
    | ret r =>
     obtain⟨rfl,hq⟩:=hr₂
     repeat(any_goals(first | assumption | wp_step))
    | _=>exact hr₂.elim
  | _=>exact hr.elim
theorem Sl{T newId:String}{self:we}{rest:List we}{kw:List (Str × we)}(hl:typeLookup (.type T) "__init__"=pure (some (.builtin "object.__init__")))
  (hm:Bind.madeBy (.type T)=pure (some newId)) (hne:(some newId != some "object.__new__")=true) (hk:rest≠[]) :
  Meets (Builtin.«object.__init__» ⟨self::rest,kw⟩) (λ_ R s=>s.TypeIs self T/\R (.ok (.ret .none)) s):=by
 refine Meets.of_wp λprog w A R s hs=>?_
 obtain⟨hT,hq⟩:=hs;cases rest with
 | nil=>exact absurd rfl hk
 | cons a rest =>
  repeat(any_goals(first | assumption | wp_step))
  exact⟨_,rfl,hq⟩
open AutoSeq1 (wpAny_loadPart') in
set_option maxHeartbeats 1000000 in
theorem Sn(tu:wf)(its:Array we)(n:Nat)(dct:Option wf)(sl:Array (Option we))(t:Tok):Meets (Builtin.«enumerate.__new__» ⟨[.type "enumerate",.ref tu],[("start",.int 1 t)]⟩) (λ_ R s=>s.heap.get? tu=some {cls:=.type "tuple",dict:=dct,data:=.seq its n,slots:=sl} /\
  R (.ok (.ret (.ref (s.heap.push {cls:=.type "tuple_iterator",data:=.fields #[.ref tu,.int 0 0]}).objs.size))) {s with heap:=(s.heap.push {cls:=.type "tuple_iterator",data:=.fields #[.ref tu,.int 0 0]}).push {cls:=.type "enumerate",data:=.fields #[.none,.bool false,.ref s.heap.objs.size,V7 1,.none,.none]}}) :=
 .of_wp λprog w A R s h=>by
  obtain⟨hp,g,d,tk,os⟩:=s;obtain⟨et,h⟩:=h;have hsub:=sub_enumerate;have hT:qI (qr ⟨hp,g,d,tk,os⟩) tu its:=⟨_,et,rfl,n,rfl⟩
  wp_walk using wpAny_loadPart' et
  refine wpAny_stack_any λst=>wp ?_
  split
  ·rename_i c _ _ _ _ _
   cases (c == Value.type "enumerate")<;>(wp_walk using wpAny_loadPart' et,WL hT;exact⟨_,rfl,h⟩)
  ·wp_walk using wpAny_loadPart' et,WL hT
   exact⟨_,rfl,h⟩
end
end TB
namespace L2
open PySem PySem.Spec PyProof.Rows GM
theorem zBc{prog:wP}{w:wR}{A:vj}(hh:A.handled=none)(it tu:wf)(hne:tu≠it)(its:Array we):Draws prog w A it [it,tu] (its.size+1) (λi v=>1<=i/\its[i-1]? = some v) (λi h=>1<=i/\h.IsTupleIter it tu (i-1)/\h.IsTuple tu its) where
 live:=λ_ _ st=>let ⟨o,ho,_⟩:=st.2.1;⟨o,ho⟩
 frame:=λ_ _ _ st hk=>⟨st.1,st.2.1.at λo e=>hk it (by simp) o e,st.2.2.at λo e=>hk tu (by simp) o e⟩
 item:=λi s Q E hi st hQ=>by
  obtain⟨h1,h2,h3⟩:=st;obtain⟨j,rfl⟩:∃j,i=j+1:=⟨i-1,by omega⟩;have hj:j<its.size:=by omega
  exact MC h2 h3 (x:=its[j]) (by simp[hj]) λh' hit' hs'=>hQ _ h' s.toks ⟨by omega,by simp[hj]⟩ ⟨by omega,hit',h3.extBut hs'.extBut hne⟩ hs'
 done:=λs Q E st hE=>zA hh st.2.1 st.2.2 (by simp) hE
def pb(K:wb)(a:wf):It :=
 ⟨λi H=>∃xs x,aF K H a xs/\xs[i]? = some x,λi H y H'=>∃t x,y=.ref t/\H t=none/\(∀xs,aF K H a xs->xs[i]? = some x)/\H'=upd H t (.tup [.int ((i:Int)+1),x]),λi H=>∃xs,aF K H a xs/\xs.length<=i⟩
theorem zq3{P:wP}{w:wR}{K:wb}{elts:List Expr}{k1}{tpos:Pos}(a e it:wf)(hne:e≠it):gX P w K (.Tuple elts k1 tpos) (pb K a) [e,it] e (λi h=>(∃old,IsEnum h e it ((i:Int)+1) old)/\h.IsTupleIter it a i) where
 mem:=by simp
 obj:=λi h st b hb=>by
  obtain⟨⟨old,he⟩,o,eo,c,d⟩:=st;rcases wE.mp hb with rfl | hb
  ·exact⟨_,he,λv z=>by cases (show Data.fields _=Data.cell v from z)⟩
  ·rw[vv.mp hb]
   exact⟨o,eo,λv z=>by rw[d]at z;cases z⟩
 keep:=λi h h' st k=>⟨let ⟨old,he⟩:=st.1;⟨old,k e (by simp) _ he⟩,st.2.at λo eo=>k it (by simp) o eo⟩
 item:=by
  intro X hP hw hK hc i pins s σ H E I hf st hg;subst hP hw hK;obtain⟨⟨old,he⟩,st⟩:=st;obtain⟨xs,x,hq,hx⟩:=hg;obtain⟨its,rv,p,hz⟩:=I.tuple hq;obtain⟨u,hu,ru⟩:=rv.get hx;have p':s.heap.IsTuple a its.toArray:=p
  have hai:a≠it:=λz=>by
   subst z;obtain⟨o,e1,c1,_⟩:=st;obtain⟨o',e2,c2,_⟩:=p';rw[e1]at e2;cases e2;rw[c1]at c2;exact absurd c2 (by decide)
  have hae:e≠a:=λz=>by
   subst z;obtain⟨o',e2,c2,_⟩:=p';rw[he]at e2;cases e2;exact absurd (show Value.type "enumerate"=Value.type "tuple" from c2) (by decide)
  have hlt:i<its.toArray.size:=by
   rcases wT i its.length with z | z
   ·simpa using z
   ·rw[wX z]at hu;cases hu
  refine Qt (i:=i+1) (zBc (A:=X.A.in1) (I.ok.hd hc) it a hai its.toArray) he ⟨by omega,st,p'⟩ (by omega) hne (by simp[hne,hae]) λv h1 tk hv ho hs1 hT hsz hk=>?_
  have hvu:v=u:=by
   have hv':its[i]? = some v:=by simpa using hv.2
   rw[hu]at hv';exact(wV hv').symm
  subst hvu
  have I1:Inv X pins σ (upd H s.heap.objs.size (.tup [.int ((i:Int)+1),x])) {s with heap:=s.heap.push {cls:=.type "tuple",data:=.seq ([.int ((i:Int)+1) tk,v]:List we).toArray},toks:=tk+1} :=
   I.laid (λb o q=>wj _ q) (wu _) (show cz X.prog X.w _ _ _ (.tup [.int ((i:Int)+1),x])from⟨ku (by simp),_,.cons ⟨_,rfl⟩ (.cons ru .nil),qJ _ _⟩)
  have lt1:∀b∈[e,it],b<s.heap.objs.size:=λb hb=>by
   rcases wE.mp hb with rfl | hb
   ·exact wF he
   ·rw[vv.mp hb]
    obtain⟨o,eo,_⟩:=st;exact wF eo
  have hf1:∀b∈[e,it],dE X pins (upd H s.heap.objs.size (.tup [.int ((i:Int)+1),x])) b:=λb hb=>⟨by rw[cX (ve (lt1 b hb))];exact(hf b hb).1,(hf b hb).2⟩
  refine⟨_,rfl,qR ho λh2 he2 hs2=>?_⟩;refine⟨.ref s.heap.objs.size,_,Inv.nu (s:={s with heap:=s.heap.push {cls:=.type "tuple",data:=.seq ([.int ((i:Int)+1) tk,v]:List we).toArray},toks:=tk+1}) (ch:=[e,it]) I1 (λb o hb q=>?_) hf1,rfl,⟨_,x,rfl,I.aB.fresh (wu _),λys hy=>by rw[I.pY hy hq];exact hx,rfl⟩,⟨⟨_,by rw[show((i+1:Nat):Int)+1=(i:Int)+1+1 from by omega];exact he2⟩,hs1.2.1.at λo eo=>(hs2.2 it (Wz hne)).trans eo⟩,λb hb=>(hf1 b hb).1⟩;have hbe:b≠e:=λz=>hb (by simp[z])
  have hbi:b≠it:=λz=>hb (by simp[z])
  refine(hs2.2 b hbe).trans ?_
  by_cases hb2:b=s.heap.objs.size
  ·subst hb2
   rw[wC _ rfl]at q;cases q;exact hT
  ·exact hk b o hbe hbi (by rw[Qw _ _ _ hb2]at q;exact q)
 done:=by
  intro X hP hw hK hc i pins s σ H E I hf st hg;subst hP hw hK;obtain⟨⟨old,he⟩,st⟩:=st;obtain⟨xs,hq,hx⟩:=hg;obtain⟨its,rv,p,hz⟩:=I.tuple hq;have p':s.heap.IsTuple a its.toArray:=p
  have hai:a≠it:=λz=>by
   subst z;obtain⟨o,e1,c1,_⟩:=st;obtain⟨o',e2,c2,_⟩:=p';rw[e1]at e2;cases e2;rw[c1]at c2;exact absurd c2 (by decide)
  have hl:=rv.length;have hT:s.TypeIs (.ref e) "enumerate":=⟨_,he,rfl⟩;unfold pyNext;refine wg (wpAny_attempt (wpAny_callSpecial?_slot (name:=WW "__next__") hT Vk (WN Vk hT QE ?_ (Qq _))))
  show wA _ _ (field (.ref e) 2 >>= _) _ _ _;refine wg (Wa he rfl (x:=.ref it) rfl ?_)
  refine wg (zA (A:=X.A.in1) (I.ok.hd hc) st p' (by simp;omega) λh' y he' hx'=>?_);obtain⟨o,ho,hcl⟩:=hx';refine wg (V9 (T:="StopIteration") (b:=true) ⟨o,ho,hcl⟩ isSubtype_stop (wp ⟨rfl,?_⟩));obtain⟨f0,f1,f2,f3,f4,f5⟩:=hf it (by simp);exact I.turned (t':=s.toks) (λb o hb e=>he' b o hb e) f0 f1 f3 f4 f5
 self:=λ_ _ _ _ _ st h=>let ⟨_,he⟩:=st.1;VN he h
def Jp(K:wb)(ta:TA):TI:=λσ H R=>ta σ H λvs H1=>∃a,vs=[.ref a]/\(∃xs,aF K H1 a xs)/\R (pb K a) H1
open PySem.W in
theorem zsg{prog:wP}{w:wR}{A:vj}{E:we->wk->Prop}{s:wk}{tu:wf}{its:Array we}{t:Tok}{Q:we->wk->Prop}(hT:s.heap.IsTuple tu its)(fin:∀h',IsEnum h' (s.heap.objs.size+1) s.heap.objs.size 1 .none->h'.IsTupleIter s.heap.objs.size tu 0->(∀b o,s.heap.get? b=some o->h'.get? b=some o)->Q (.ref (s.heap.objs.size+1)) {s with heap:=h'}) :
  wA (model prog w) A (call (.type "enumerate") [.ref tu] [("start",.int 1 t)]) Q E s:=by
 obtain⟨⟨c,dct,dt,sl⟩,et,hc,n,hd⟩:=hT;obtain rfl:c=.type "tuple":=hc;obtain rfl:dt=.seq its n:=hd;refine TB.Sb Qh (TB.Sf _ t) (TB.Sk _ t) Xp F.entry_object_init (TB.Sn tu its n dct sl t) (Q₁:=λobj s₁=>s₁.TypeIs obj "enumerate"/\Q obj s₁) ⟨et,?_⟩ λobj s₁ hq=>⟨hq.1,TB.Sg obj _ t,_,TB.Sl Qh.init.lookup Qh.made (by decide) (by simp),hq.1,rfl,hq.2⟩
 have hz:(s.heap.push {cls:=.type "tuple_iterator",data:=.fields #[.ref tu,.int 0 0]}).objs.size=s.heap.objs.size+1:=Wf ..
 show _/\_
 rw[hz]
 have he:IsEnum ((s.heap.push {cls:=.type "tuple_iterator",data:=.fields #[.ref tu,.int 0 0]}).push {cls:=.type "enumerate",data:=.fields #[.none,.bool false,.ref s.heap.objs.size,V7 1,.none,.none]}) (s.heap.objs.size+1) s.heap.objs.size 1 .none:=by
  rw[<- hz];exact wC _ rfl
 exact⟨⟨_,he,rfl⟩,fin _ he ⟨_,wj _ (wC _ rfl),rfl,rfl⟩ λb o x=>wj _ (wj _ x)⟩
theorem TY{M:Model}{A:vj}{E:we->wk->Prop}{s:wk}{pos:Pos}{T:String}{first:List we}{args:List (Bool × Sem we)}{keywords:List (Option Str × Sem we)}{Q:we->wk->Prop}
  (hplain:args.any (·.1)=false) (hkw:keywords.any (·.1.isNone)=false)
  (h:wA M A (evalArgs (.type T) true args keywords) (λa s₁=>wA M A (call (.type T) (first++a.pos) a.kw) Q E s₁) E s) :
  wA M A (callWith pos (.type T) first args keywords) Q E s:=by
 unfold callWith;refine wg (WA (WC h (λa s₁ h₁=>wg (wpAny_standAt ?_)) λ_ _ x=>x));simp only[hplain,hkw,UI];refine wg (wp ?_);exact wg (WC h₁ (λr s₂ hr=>wg (WA (wpAny_point (wp hr)))) λ_ _ x=>x)
theorem zvy{X:Cx}{elts:List Expr}{k1:Nat}{c1:Nat}{tpos p pos kp cp:Pos}{l:Expr}{ta:TA}(hg:Gl X "enumerate")(hm:X.mg "enumerate"=none)(ha:PA X [l] ta)(hs:vg [l] X.env=[(false,eval l X.env)]:=by rfl) :
  PI X (.Tuple elts k1 tpos) (.Call (.Name "enumerate" p) [l] [⟨some "start",.Constant (.int 1) c1 cp,kp⟩] pos) (Jp X.K ta):=by
 intro pins s σ H R I h;refine qm (gb I hg hm Bj ?_);refine TY (by rw[hs];rfl) (by rfl) ?_;rw[show Vn pos (vg [l] X.env)=(false,eval l X.env)::Vn pos []from by rw[hs];rfl];refine evalArgs_kwB (by rfl) ?_;have ha':=ha pos pins s σ H _ I h;rw[hs]at ha';refine aE ha' λus s1 ⟨vs,H1,I1,r1,q1⟩=>?_
 refine kws_cons (rest:=[]) ?_;refine wpAny_Constant_int ?_;refine kws_nil ?_;obtain⟨a,rfl,⟨xs,hq⟩,q⟩:=q1;obtain⟨u,rfl,ru⟩:=fC r1;cases ru;have I1:=I1.tok (s1.toks+1);obtain⟨its,rv,pt,hz⟩:=I1.tuple hq;refine zsg (show qI _ a its.toArray from pt) λh' he hit kp=>?_
 refine VN he ?_;refine⟨s1.heap.objs.size+1,[s1.heap.objs.size+1,s1.heap.objs.size],_,_,H1,rfl,I1.kept (t':=s1.toks+1) kp,zq3 a (s1.heap.objs.size+1) s1.heap.objs.size (xM _),⟨⟨_,he⟩,hit⟩,λb hb=>?_,q⟩
 have hb':s1.heap.objs.size<=b:=by
  rcases wE.mp hb with rfl | hb
  ·omega
  ·rw[vv.mp hb];exact wu _
 exact I1.iq hb' (I1.aB.fresh hb')
def KS(K:wb)(g:TG)(tb:TS)(D:bY)(σ : St)(vs:List V)(H1:Hp):Prop:=∃a,vs=[.ref a]/\(∃xs,aF K H1 a xs) /\
 ∃W:Nat->Nat->St->Hp->Prop,(∃m,W 0 m σ H1) /\ ∀i m σ H,W i m σ H ->
  ((pb K a).stop i H/\D.nx σ H)\/((pb K a).go i H /\ ∃M:St->Hp->Prop,(∀σ' H',M σ' H'->∃m',m'<m/\W (i+1) m' σ' H') /\ ∀x H',(pb K a).eI i H x H'->g x σ H' λσ2 H2=>tb {D with nx:=M,ct:=M,bk:=D.nx} σ2 H2)
section
variable{K:wb}{ta:TA}{g:TG}{tb:TS}{D:bY}{σ : St}{H:Hp}{a:wf}{xs:List V}
theorem zwG(h:ta σ H λvs H1=>KS K g tb D σ vs H1):jq (Jp K ta) g tb D σ H:=h
theorem zrO(hx:aF K H a xs)(Pv:Nat->St->Hp->Prop)(h0:Pv 0 σ H)(hl:∀i σ H,i<=xs.length->Pv i σ H->aF K H a xs)
  (hs:∀i x σ H t H',xs[i]? = some x->Pv i σ H->H t=none->af H H'->H' t=some (.tup [.int ((i:Int)+1),x])->g (.ref t) σ H' λσ2 H2=>tb {D with nx:=Pv (i+1),ct:=Pv (i+1),bk:=D.nx} σ2 H2) (hd:∀σ H,Pv xs.length σ H->D.nx σ H):KS K g tb D σ [.ref a] H:=by
 refine⟨a,rfl,⟨xs,hx⟩,λi m σ H=>i+m=xs.length/\Pv i σ H,⟨xs.length,by omega,h0⟩,?_⟩;rintro i m σ H ⟨him,hp⟩;have hq:=hl i σ H (by omega) hp
 by_cases hm:m=0
 ·have e:i=xs.length:=by omega
  subst e;exact .inl ⟨⟨xs,hq,wu _⟩,hd _ _ hp⟩
 ·have hi:i<xs.length:=by omega
  refine .inr ⟨⟨xs,xs[i],hq,by simp[hi]⟩,λσ' H'=>Pv (i+1) σ' H',λσ' H' h=>⟨m-1,by omega,by omega,h⟩,?_⟩;rintro y H' ⟨t,x,rfl,hn,hx',rfl⟩;exact hs i x σ H t _ (hx' xs hq) hp hn (af.upd hn) bW
end
end L2
namespace GM
def cu(c:Int)(u:List Int):Nat->Int->Int
 | 0,p=>p
 | k+1,p=>if c<=p then p else cu c u k (p+u.getD p.toNat 0)
theorem MS{c p:Int}{u:List Int}(h:c<=p):∀k,cu c u k p=p
 | 0=>rfl
 | k+1=>by rw[cu,if_pos h]
theorem AE(c:Int)(u:List Int)(b:Nat):∀(a:Nat)(p:Int),cu c u b (cu c u a p)=cu c u (a+b) p
 | 0,p=>by rw[cu,Nat.zero_add]
 | a+1,p=>by
  rw[Nat.add_right_comm,cu,cu]
  split
  ·rename_i h;exact MS h b
  ·exact AE c u b a _
theorem zuw{c:Int}{u:List Int}(k:Nat)(p:Int):cu c u (k+1) p=if c<=cu c u k p then cu c u k p else cu c u k p+u.getD (cu c u k p).toNat 0:=by
 rw[<- AE]
 rfl
theorem YN{α : Type}{P : α -> Prop}{l:List α}{d : α}(h:∀x∈l,P x)(hd:P d)(i:Nat):P (l.getD i d):=by
 rw[wa];cases e:l[i]? with
 | none=>exact hd
 | some x=>exact h x (qK e)
theorem Bg{c:Int}{u:List Int}(hu:∀x∈u,0<=x/\x<=60):∀(k:Nat)(p:Int),p<=cu c u k p/\(cu c u k p<=p\/cu c u k p<=c+60)
 | 0,p=>⟨Xl _,.inl (Xl _)⟩
 | k+1,p=>by
  rw[cu]
  split
  ·exact⟨Xl _,.inl (Xl _)⟩
  ·have h0:=YN (P:=λx=>0<=x/\x<=60) (d:=0) hu (by decide) p.toNat
   have:=Bg (c:=c) hu k (p+u.getD p.toNat 0)
   lia
def dN(n:Nat)(t:List Int):Prop:=∃a b d:Nat,t=[(a:Int),(b:Int),(d:Int)]/\a<n/\b<n/\a≠b/\d<=4
structure bF(rs:List Int)(us ts:List (List Int)):Prop where
 n1:1<=rs.length
 n8:rs.length<=8
 r:∀r∈rs,1<=r/\r<=60
 ul:us.length=rs.length
 u:∀i,i<rs.length->((us.getD i []).length:Int)=rs.getD i 0 /\ ∀x∈us.getD i [],0<=x/\x<=60
 tl:ts.length<=60
 t:∀t∈ts,dN rs.length t
 nd:ts.Nodup
theorem bF.perm{rs:List Int}{us ts ts':List (List Int)}(w:bF rs us ts)(p:ts'.Perm ts):bF rs us ts' :=
 ⟨w.n1,w.n8,w.r,w.ul,w.u,by rw[p.length_eq];exact w.tl,λt ht=>w.t t (p.mem_iff.mp ht),p.nodup_iff.mpr w.nd⟩
theorem bF.ri{rs:List Int}{us ts:List (List Int)}(w:bF rs us ts){i:Nat}(h:i<rs.length):1<=rs.getD i 0/\rs.getD i 0<=60:=by
 rw[wa,wc h];exact w.r _ (vc h)
def eU(g:List Nat)(w d:Nat)(t:List Int):Bool:=decide ((t.getD 0 0).toNat∈g)&&(decide (t.getD 1 0=(w:Int))&&decide (t.getD 2 0=(d:Int)))
def cj(ts:List (List Int))(g:List Nat)(w d:Nat):Nat:=(ts.filter (eU g w d)).length
theorem NT(ts:List (List Int))(g:List Nat)(w d:Nat):cj ts g w d<=ts.length:=Wq ..
theorem La{g f:List Nat}(h:∀x∈f,x ∉ g)(w d:Nat):∀ts:List (List Int),cj ts (g++f) w d=cj ts g w d+cj ts f w d
 | []=>rfl
 | t::ts=>by
  have ih:=La h w d ts;unfold cj at ih ⊢;rw[Vi,Vi,Vi]
  have e:eU (g++f) w d t=(eU g w d t || eU f w d t):=by
   unfold eU
   rw[show decide ((t.getD 0 0).toNat∈g++f)=(decide ((t.getD 0 0).toNat∈g) || decide ((t.getD 0 0).toNat∈f)) by
    rw[WS,Ui,decide_eq_true_eq,decide_eq_true_eq,decide_eq_true_eq,vR]]
   cases decide ((t.getD 0 0).toNat∈g)<;>cases decide ((t.getD 0 0).toNat∈f)<;>cases (decide (t.getD 1 0=(w:Int))&&decide (t.getD 2 0=(d:Int)))<;>rfl
  have nb:¬ (eU g w d t=true/\eU f w d t=true):=by
   rintro ⟨h1,h2⟩;unfold eU at h1 h2;rw[vf,decide_eq_true_eq]at h1 h2;exact h _ h2.1 h1.1
  rw[e];cases h1:eU g w d t<;>cases h2:eU f w d t
  ·simpa using ih
  ·simp only[U2,if_true,vq,if_false,vA,ih];lia
  ·simp only[Bool.true_or,if_true,vq,if_false,vA,ih];lia
  ·exact absurd ⟨h1,h2⟩ nb
theorem zvo{g f:List Nat}{ts:List (List Int)}{n:Nat}(ht:∀t∈ts,dN n t)(h:∀x,x<n->(x∈g ↔ x∈f))(w d:Nat):cj ts g w d=cj ts f w d:=by
 unfold cj
 congr 1
 refine Wo λt hm=>?_
 obtain⟨a,b,c,rfl,ha,_⟩:=ht t hm;unfold eU;have:(([(a:Int),(b:Int),(c:Int)]:List Int).getD 0 0).toNat=a:=by simp
 rw[this]
 by_cases h1:a∈g
 ·rw[decide_eq_true h1,decide_eq_true ((h a ha).mp h1)]
 ·rw[decide_eq_false h1,decide_eq_false λz=>h1 ((h a ha).mpr z)]
section
variable(rs:List Int)(us ts:List (List Int))(ps cs:List Int)
def cN(g:List Nat)(w:Nat):Int:=cu (rs.getD w 0) (us.getD w []) ((cs.getD w 0).toNat+cj ts g w 0) (ps.getD w 0+1)
def fresh(g:List Nat):List Nat:=(wo rs.length).filter λw=>!decide (w∈g)&&decide (rs.getD w 0<=cN rs us ts ps cs g w)
def fv:Nat->List Nat->List (List Nat)
 | 0,_=>[]
 | f+1,g=>if fresh rs us ts ps cs g=[]then []else fresh rs us ts ps cs g::fv f (g++fresh rs us ts ps cs g)
def dQ:Nat->List Nat->List Nat
 | 0,g=>g
 | f+1,g=>if fresh rs us ts ps cs g=[]then g else dQ f (g++fresh rs us ts ps cs g)
end
section
variable{rs:List Int}{us ts:List (List Int)}{ps cs:List Int}
theorem pI{g:List Nat}{w:Nat}(h:w∈fresh rs us ts ps cs g):w<rs.length/\w ∉ g:=by
 unfold fresh at h;rw[vG,wB,vf,W0,decide_eq_false_iff_not]at h;exact⟨h.1,h.2.1⟩
theorem AW:∀(n:Nat)(g:List Nat),g.Nodup->(∀w∈g,w<n)->g.length<=n
 | 0,[],_,_=>wu _
 | 0,w::g,_,h=>absurd (h w (wN ..)) (Wl _)
 | n+1,g,nd,h=>by
  have h1:=AW n (g.erase n) (nd.erase n) λw hw=>by
   have hm:=nd.mem_erase_iff.mp hw;have:=h w hm.2;have:w≠n:=hm.1
   lia
  have h2:g.length<=(g.erase n).length+1:=by
   rw[List.length_erase]
   split<;>lia
  lia
structure fO(n:Nat)(g:List Nat):Prop where
 nd:g.Nodup
 lt:∀w∈g,w<n
theorem fO.len{n:Nat}{g:List Nat}(h:fO n g):g.length<=n:=by
 exact AW n g h.nd h.lt
theorem fO.app{g:List Nat}(h:fO rs.length g):fO rs.length (g++fresh rs us ts ps cs g):=by
 refine⟨Qy.mpr ⟨h.nd,(Wn).filter _,λa ha b hb e=>?_⟩,λw hw=>?_⟩
 ·subst e;exact(pI hb).2 ha
 ·rcases vR.mp hw with z | z
  ·exact h.lt w z
  ·exact(pI z).1
theorem ju{g:List Nat}(h:fresh rs us ts ps cs g=[]):∀f,fv rs us ts ps cs f g=[]/\dQ rs us ts ps cs f g=g
 | 0=>⟨rfl,rfl⟩
 | f+1=>⟨by rw[fv,if_pos h],by rw[dQ,if_pos h]⟩
theorem iD{g:List Nat}(h:fresh rs us ts ps cs g≠[])(f:Nat):fv rs us ts ps cs (f+1) g=fresh rs us ts ps cs g::fv rs us ts ps cs f (g++fresh rs us ts ps cs g)/\dQ rs us ts ps cs (f+1) g=dQ rs us ts ps cs f (g++fresh rs us ts ps cs g) :=
 ⟨by rw[fv,if_neg h],by rw[dQ,if_neg h]⟩
end
section
variable(rs:List Int)(us ts:List (List Int))(ps cs:List Int)
structure Run(f:Nat)(g:List Nat)(acc:List (List Nat)):Prop where
 go:fO rs.length g
 fl:rs.length<f+g.length
 ws:acc++fv rs us ts ps cs f g=fv rs us ts ps cs 9 []
 ge:dQ rs us ts ps cs f g=dQ rs us ts ps cs 9 []
end
section
variable{rs:List Int}{us ts:List (List Int)}{ps cs:List Int}{f:Nat}{g:List Nat}{acc:List (List Nat)}
theorem Run.start(h:rs.length<=8):Run rs us ts ps cs 9 [] []:=⟨⟨VU,λw hw=>by cases hw⟩,by simp;lia,rfl,rfl⟩
theorem Run.step(R:Run rs us ts ps cs f g acc)(h:fresh rs us ts ps cs g≠[]):∃f',f=f'+1/\Run rs us ts ps cs f' (g++fresh rs us ts ps cs g) (acc++[fresh rs us ts ps cs g]):=by
 have hl:=R.go.len;have hf:=R.fl;obtain⟨f',rfl⟩:∃f',f=f'+1:=⟨f-1,by lia⟩;have hp:0<(fresh rs us ts ps cs g).length:=qb.mpr h;refine⟨f',rfl,R.go.app,by rw[wS];lia,?_,?_⟩
 ·rw[<- R.ws,(iD h f').1,Vo];rfl
 ·rw[<- R.ge,(iD h f').2]
theorem Run.stop(R:Run rs us ts ps cs f g acc)(h:fresh rs us ts ps cs g=[]):acc=fv rs us ts ps cs 9 []/\g=dQ rs us ts ps cs 9 []:=by
 obtain⟨h1,h2⟩:=ju h f;have:=R.ws;have hg:=R.ge;rw[h1,vT]at this;rw[h2]at hg;exact⟨this,hg⟩
theorem OD:∀(f:Nat)(g:List Nat),fO rs.length g->rs.length<f+g.length->fO rs.length (dQ rs us ts ps cs f g)/\fresh rs us ts ps cs (dQ rs us ts ps cs f g)=[]
 | 0,g,h,k=>by have:=h.len;lia
 | f+1,g,h,k=>by
  by_cases e:fresh rs us ts ps cs g=[]
  ·rw[(ju e _).2];exact⟨h,e⟩
  ·rw[(iD e f).2]
   have hp:0<(fresh rs us ts ps cs g).length:=qb.mpr e;exact OD f _ h.app (by rw[wS];lia)
end
section
variable(rs:List Int)(us ts:List (List Int))(ps:List Int)(cm:List (List Int))
def fq:List (List Nat):=fv rs us ts ps (cm.getD 0 []) 9 []
def eQ:List Nat:=dQ rs us ts ps (cm.getD 0 []) 9 []
def cI:List Int:=(wo rs.length).map λw=>if w∈eQ rs us ts ps cm then 0 else cN rs us ts ps (cm.getD 0 []) (eQ rs us ts ps cm) w
def hZ(ts:List (List Int))(cm:List (List Int))(g:List Nat)(n:Nat):List (List Int):=(wo 4).map λd=>(wo n).map λw=>(cm.getD (d+1) []).getD w 0+(cj ts g w (d+1):Int)
def d7:List (List Int):=hZ ts cm (eQ rs us ts ps cm) rs.length
end
structure cq(rs:List Int)(ps:List Int)(cm:List (List Int)):Prop where
 pl:ps.length=rs.length
 p:∀i,i<rs.length->0<=ps.getD i 0/\ps.getD i 0<rs.getD i 0
 cl:cm.length=4
 c:∀d,d<4->(cm.getD d []).length=rs.length /\ ∀i,i<rs.length->0<=(cm.getD d []).getD i 0/\(cm.getD d []).getD i 0<=240-60*(d:Int)
theorem gT{α : Type}{f:Nat -> α}{n i:Nat}{d : α}(h:i<n):((wo n).map f).getD i d=f i:=by
 rw[wa,wz,Q3 h];rfl
section
variable{rs:List Int}{us ts:List (List Int)}{ps:List Int}{cm:List (List Int)}
theorem Mx(w:bF rs us ts):fO rs.length (eQ rs us ts ps cm)/\fresh rs us ts ps (cm.getD 0 []) (eQ rs us ts ps cm)=[] :=
 OD 9 [] ⟨VU,λw hw=>by cases hw⟩ (by have:=w.n8;simp;lia)
theorem N6{cs:List Int}{g:List Nat}(h:fresh rs us ts ps cs g=[]){w:Nat}(hw:w<rs.length)(hg:w ∉ g):cN rs us ts ps cs g w<rs.getD w 0:=by
 apply Int.not_le.mp
 intro z
 have:w∈fresh rs us ts ps cs g:=by
  unfold fresh;rw[vG,wB,vf,W0,decide_eq_false_iff_not,decide_eq_true_eq];exact⟨hw,hg,z⟩
 rw[h]at this;cases this
theorem NU(w:bF rs us ts)(s:cq rs ps cm)(g:List Nat){i:Nat}(h:i<rs.length):1<=cN rs us ts ps (cm.getD 0 []) g i/\cN rs us ts ps (cm.getD 0 []) g i<=rs.getD i 0+60:=by
 have h1:=Bg (c:=rs.getD i 0) (w.u i h).2 (((cm.getD 0 []).getD i 0).toNat+cj ts g i 0) (ps.getD i 0+1);have h2:=s.p i h;unfold cN
 lia
theorem cq.next(w:bF rs us ts)(s:cq rs ps cm):cq rs (cI rs us ts ps cm) (d7 rs us ts ps cm):=by
 obtain⟨g1,g2⟩:=Mx (ps:=ps) (cm:=cm) w;refine⟨by simp[cI],λi h=>?_,by simp[d7,hZ],λd hd=>?_⟩
 ·unfold cI
  rw[gT h];have:=w.ri h
  split
  ·lia
  ·rename_i hn
   have h1:=N6 g2 h hn;have h2:=NU w s (eQ rs us ts ps cm) h
   lia
 ·unfold d7 hZ
  rw[gT hd];refine⟨by simp,λi h=>?_⟩;rw[gT h];have h1:=NT ts (eQ rs us ts ps cm) i (d+1);have h2:=w.tl;rcases wT (d+1) 4 with z | z
  ·have:=(s.c (d+1) z).2 i h
   lia
  ·have e:cm.getD (d+1) []=[]:=by
    rw[wa,wX (by rw[s.cl];lia)];rfl
   rw[e];simp
   lia
end
end GM
namespace L2
open PySem PySem.Spec PyProof.Rows GM
def cv(rows:List (List Int)):wq:=.tuple (rows.map TZ)
def bI(rs:List Int)(us ts:List (List Int)):wq:=.tuple [TZ rs,cv us,cv ts]
def aY(ps:List Int)(cm:List (List Int)):wq:=.tuple [TZ ps,cv cm]
def Ae(ws:List (List Nat))(ps:List Int)(cm:List (List Int)):wq:=.tuple [cR ws,aY ps cm]
theorem eM:∀rows:List (List Int),a_ (rows.map TZ)=true
 | []=>by simp[a_]
 | x::xs=>by rw[wZ,a_,mT,eM xs];rfl
theorem sT(rows:List (List Int)):bV (cv rows)=true:=by rw[cv,bV];exact eM rows
theorem zwD(rs:List Int)(us ts:List (List Int)):bV (bI rs us ts)=true:=by rw[bI,bV,a_,a_,a_,a_,mT,sT,sT];rfl
theorem Dd(ps:List Int)(cm:List (List Int)):bV (aY ps cm)=true:=by rw[aY,bV,a_,a_,a_,mT,sT];rfl
section
variable{K:wb}{H H':Hp}{Q:VK}{v:V}{rs ps:List Int}{us ts cm rows:List (List Int)}{m:Int}{ws:List (List Nat)}
theorem Is.lS(h:Is K H v (bI rs us ts))(k:aO H H'):Is K H' v (bI rs us ts):=h.eX k (zwD _ _ _)
theorem Is.lQ(h:Is K H v (aY ps cm))(k:aO H H'):Is K H' v (aY ps cm):=h.eX k (Dd _ _)
theorem iP(h:Is K H v (bI rs us ts))(q:∀x,Is K H x (TZ rs)->Q x H):bL K v (.int 0) H Q:=bo (j:=0) h rfl q
theorem DM(h:Is K H v (bI rs us ts))(q:∀x,Is K H x (cv us)->Q x H):bL K v (.int 1) H Q:=bo (j:=1) h rfl q
theorem Jt(h:Is K H v (bI rs us ts))(q:∀x,Is K H x (cv ts)->Q x H):bL K v (.int 2) H Q:=bo (j:=2) h rfl q
theorem zBt(h:Is K H v (aY ps cm))(q:∀x,Is K H x (TZ ps)->Q x H):bL K v (.int 0) H Q:=bo (j:=0) h rfl q
theorem Jn(h:Is K H v (aY ps cm))(q:∀x,Is K H x (cv cm)->Q x H):bL K v (.int 1) H Q:=bo (j:=1) h rfl q
theorem JN(h:Is K H v (Ae ws ps cm))(q:∀x,Is K H x (cR ws)->Q x H):bL K v (.int 0) H Q:=bo (j:=0) h rfl q
theorem Fc(h:Is K H v (Ae ws ps cm))(q:∀x,Is K H x (aY ps cm)->Q x H):bL K v (.int 1) H Q:=bo (j:=1) h rfl q
theorem DO(h:Is K H v (cv rows))(h0:0<=m)(h1:m<rows.length)(q:∀x,Is K H x (TZ (rows.getD m.toNat []))->Q x H):bL K v (.int m) H Q:=by
 obtain⟨j,rfl⟩:=qf h0;have hj:j<rows.length:=by lia
 refine bo (j:=j) h (d:=TZ (rows.getD j [])) ?_ q;rw[wz,wa,wc hj];rfl
end
theorem zBC(rows:List (List Int)):vn (cv rows) (cv rows)=true:=kJ λd hd=>by
 obtain⟨r,_,rfl⟩:=wQ.mp hd;exact RD r
theorem Pw(ps:List Int)(cm:List (List Int)):vn (aY ps cm) (aY ps cm)=true:=kJ λd hd=>by
 simp only[wE,WM,or_false]at hd;rcases hd with rfl | rfl
 ·exact RD _
 ·exact zBC _
theorem mf{α : Type}{l:List α}{x : α}(d : α)(h:x∈l):∃i,i<l.length/\l.getD i d=x:=by
 obtain⟨i,hi,e⟩:=Wj h;exact⟨i,hi,by rw[wa,wc hi];exact e⟩
theorem zAD{i:Nat}{te:TE}{ti:nJ}{D:bY}{σ : L2.St}{H:Hp}(h:∃x,σ[i]? = some (some x)/\te σ H λy H1=>ti x y H1 λz H2=>D.nx (σ.set i (some z)) H2):IK i te ti D σ H:=h
theorem zzc{v:V}{P:V->Prop}{o:Option (Option V)}(h:o=some (some v))(q:P v):∃x,o=some (some x)/\P x:=⟨v,h,q⟩
theorem Ym{f:Int->Int->Int}{m n:Int}{H:Hp}{Q:VK}(q:Q (.int (f m n)) H):MB f (.int m) (.int n) H Q:=⟨m,n,rfl,rfl,q⟩
end L2
namespace TB
open PySem PySem.W PyProof.Rows
inductive dh{α β : Type}(R : α -> β -> Prop):List α -> List β -> Prop
 | nil:dh R [] []
 | cons {a : α} {b : β} {l:List α} {m:List β} : R a b->dh R l m->dh R (a::l) (b::m)
structure HV(prog:wP)(w:wR)(K:Type)[DecidableEq K] where
 is:wK->K->we->Prop
 hash:K->Int
 draws:K->Nat
 deep:Nat
 inj:∀{h:wK}{v:we}{x y:K},is h x v->is h y v->x=y
 keeps:∀{h h':wK}{k:K}{v:we}{d:wf}{o:Obj}{es ep},is h k v->h.get? d=some o->o.data=.dict es ep->vW d h h'->is h' k v
 pyHash:∀{A:vj}{E:we->wk->Prop}{s:wk}{k:K}{v:we}{Q:Int->wk->Prop},A.units+deep<WV->is s.heap k v->Q (hash k) {s with toks:=s.toks+draws k}->wA (model prog w) A (PySem.pyHash v) Q E s
 eqBool:∀{A:vj}{E:we->wk->Prop}{s:wk}{x y:K}{u v:we}{Q:Bool->wk->Prop},A.units+deep<WV->is s.heap x u->is s.heap y v->Q (decide (x=y)) s->wA (model prog w) A (PySem.eqBool u v) Q E s
 quiet:∀{A:vj}{E:we->wk->Prop}{s:wk}{k:K}{v:we}{Q:Bool->wk->Prop}(n:Nat),deep<=n->is s.heap k v->Q true s->wA (model prog w) A (eqIsQuiet n v) Q E s
section
variable{prog:wP}{w:wR}{A:vj}{E:we->wk->Prop}{s:wk}
theorem JR{a:wf}{o:Obj}{items:Array we}{n:Nat}{hs:List (Int × Nat)}{Q:Int->wk->Prop}(hu:A.units<WV)(ho:s.heap.get? a=some o)(hc:o.cls=.type "tuple")(hd:o.data=.seq items n)
  (hi:dh (λv (x:Int × Nat)=>∀(E:we->wk->Prop)(Q:Int->wk->Prop)(s':wk),s'.heap=s.heap->Q x.1 {s' with toks:=s'.toks+x.2}->wA (model prog w) A.in1 (pyHash v) Q E s') items.toList hs)
  (h:Q (reduceHash (Wm (hs.map (·.1)))) {s with toks:=s.toks+((hs.map (·.2)).sum+1)}) :
  wA (model prog w) A (pyHash (.ref a)) Q E s:=by
 have hT:s.TypeIs (.ref a) "tuple":=⟨o,ho,hc⟩;unfold pyHash
 first | unfold pyHashByItsType | skip
 first | refine wg (wpAny_cRoomFor_or (.inr hu) ?_) | skip
 refine wg (Qb hT qA.lookup ?_)
 show wA _ _ (if(some (Value.builtin "tuple.__hash__") == some Value.none)=true then _ else _) Q E s
 rw[if_neg (by rw[beq_builtin_none];exact vL)];refine wg (Qb hT qA.lookup ?_)
 show wA _ _ (callSpecialIfBoundUnlessNone? (.ref a) "__hash__" _ >>= _) Q E s
 refine wg (wpAny_callSpecialIfBoundUnlessNone?_slot hT qA (WN qA hT F.entry_tuple_hash ?_ (F.args_tuple_hash_1 _)))
 show wA _ _ (xr (.ref a) >>= _) _ _ s
 refine wg (wpAny_tupleItemsOf ho hd ?_);refine wg ?_;rw[<- Qj]
 refine qa _
  (λrest (b:Array Int) s'=>∃done left,hs=done++left/\dh (λv (x:Int × Nat)=>∀(E:we->wk->Prop)(Q:Int->wk->Prop)(s':wk),s'.heap=s.heap->Q x.1 {s' with toks:=s'.toks+x.2}->wA (model prog w) A.in1 (pyHash v) Q E s') rest left/\b.toList=done.map (·.1)/\s' = {s with toks:=s.toks+(done.map (·.2)).sum})
  _ ?_ ?_ _ _ ⟨[],hs,rfl,hi,rfl,rfl⟩
 ·rintro x rest b s' ⟨done,left,rfl,hl,hb,rfl⟩
  cases hl with
  | @cons _ k _ ks' h1 hl' =>
   refine wg (h1 _ _ _ rfl ?_)
   first
    | exact wp ⟨done++[k],ks',by simp,hl',by simp[hb],by simp[qQ]⟩
    | exact wg (wp (wp ⟨done++[k],ks',by simp,hl',by simp[hb],by simp[qQ]⟩))
 ·rintro b s' ⟨done,left,rfl,hl,hb,rfl⟩
  cases hl;rw[vT]at h
  show wA _ _ (retInt (Wm b.toList)) _ _ _
  rw[hb];refine wpAny_ret_mkInt ?_
  show wA _ _ (if(decide (-(2:Int)^63<=Wm (done.map (·.1)))&&decide (Wm (done.map (·.1))<2^63))=true then _ else _) Q E _
  unfold reduceHash at h
  by_cases hr:(decide (-(2:Int)^63<=Wm (done.map (·.1)))&&decide (Wm (done.map (·.1))<2^63))=true
  ·rw[if_pos hr]
   rw[if_pos hr]at h;exact wp (by simpa [qQ] using h)
  ·rw[if_neg hr]
   rw[if_neg hr]at h;exact wg (wpAny_rule (wp (by simpa [qQ] using h)))
theorem zAz{a b:wf}{oa ob:Obj}{xs ys:Array we}{na nb:Nat}{bs:List Bool}{P:ud->wk->Prop}(hoa:s.heap.get? a=some oa)(hda:oa.data=.seq xs na)(hob:s.heap.get? b=some ob)(hcb:ob.cls=.type "tuple")(hdb:ob.data=.seq ys nb)
  (hi:dh (λ(p:we × we)(c:Bool)=>∀(E:we->wk->Prop)(Q:Bool->wk->Prop),Q c s->wA (model prog w) A (eqBool p.1 p.2) Q E s) (xs.toList.zip ys.toList) bs)
  (h:P (.done (.ret (.bool (bs.all id&&xs.size == ys.size)))) s) :
  wA (model prog w) A (Builtin.«tuple.__eq__» ⟨[.ref a,.ref b],[]⟩) P E s:=by
 have hTb:s.TypeIs (.ref b) "tuple":=⟨ob,hob,hcb⟩
 show wA _ _ (isInstance (.ref b) (.type "tuple") >>= _) _ _ s
 refine wg (V9 hTb isSubtype_tuple_tuple ?_);simp only[WX,vq,if_false];refine wg (wpAny_tupleItemsOf hoa hda ?_);refine wg (wpAny_tupleItemsOf hob hdb ?_);refine wg ?_
 refine qa _
  (λrest r s'=>r.1=none/\s'=s /\ ∃cs,dh (λ(p:we × we)(c:Bool)=>∀(E:we->wk->Prop)(Q:Bool->wk->Prop),Q c s->wA (model prog w) A (eqBool p.1 p.2) Q E s) rest cs/\bs.all id=cs.all id)
  _ ?_ ?_ _ _ ⟨rfl,rfl,bs,hi,rfl⟩
 ·rintro ⟨u,v⟩ rest r s' ⟨hr,rfl,cs,hcs,hall⟩
  cases hcs with
  | @cons _ c _ cs' h1 h2 =>
   refine wg (h1 _ _ ?_);cases c with
   | true =>
    simp only[WX,vq,if_false];exact wp ⟨rfl,rfl,cs',h2,by rw[hall];simp⟩
   | false =>
    simp only[Qn,if_true];have hf:bs.all id=false:=by rw[hall];simp
    rw[hf,WI]at h;exact wg (wp (wp (wp h)))
 ·rintro ⟨r1,r2⟩ s' ⟨hr,rfl,cs,hcs,hall⟩
  simp only at hr;subst hr;refine wp ?_;cases hcs;rw[hall]at h;have h':P (.done (.ret (.bool (xs.size == ys.size)))) s':=by simpa using h
  exact h'
theorem Pc{a:wf}{o:Obj}{items:Array we}{n m:Nat}{Q:Bool->wk->Prop}(ho:s.heap.get? a=some o)(hc:o.cls=.type "tuple")(hd:o.data=.seq items n)
  (hi:∀v∈items.toList,∀(E:we->wk->Prop)(Q:Bool->wk->Prop),Q true s->wA (model prog w) A (eqIsQuiet m v) Q E s) (h:Q true s):wA (model prog w) A (eqIsQuiet (m+1) (.ref a)) Q E s:=by
 have hT:s.TypeIs (.ref a) "tuple":=⟨o,ho,hc⟩;unfold eqIsQuiet;refine wg (Qb hT Xe.lookup ?_)
 show wA _ _ (isInstance (.ref a) (.type "tuple") >>= _) _ _ s
 refine wg (V9 hT isSubtype_tuple_tuple ?_);simp only[WX,vq,if_false];refine wg (WZ ho hd ?_);refine wg ?_
 show wA _ _ (forIn items _ _) _ _ s
 rw[<- Qj];refine qa _ (λrest r s'=>r.1=none/\s'=s /\ ∀v∈rest,v∈items.toList) _ ?_ ?_ _ _ ⟨rfl,rfl,λ_ h=>h⟩
 ·rintro v rest r s' ⟨hr,rfl,hall⟩
  refine wg (hi v (hall v wN) _ _ ?_);simp only[WX,vq,if_false];exact wp ⟨rfl,rfl,λu hu'=>hall u (wI _ hu')⟩
 ·rintro ⟨r1,r2⟩ s' ⟨hr,rfl,_⟩
  simp only at hr;subst hr;exact wp h
theorem JS{a b:wf}{oa ob:Obj}{xs ys:Array we}{na nb:Nat}{bs:List Bool}{Q:Bool->wk->Prop}(hu:A.units<WV)(hoa:s.heap.get? a=some oa)(hca:oa.cls=.type "tuple")(hda:oa.data=.seq xs na)(hob:s.heap.get? b=some ob)(hcb:ob.cls=.type "tuple")(hdb:ob.data=.seq ys nb)
  (he:a=b->(bs.all id&&xs.size == ys.size)=true)
  (hi:dh (λ(p:we × we)(c:Bool)=>∀(E:we->wk->Prop)(Q:Bool->wk->Prop),Q c s->wA (model prog w) A.in1 (eqBool p.1 p.2) Q E s) (xs.toList.zip ys.toList) bs)
  (h:Q (bs.all id&&xs.size == ys.size) s):wA (model prog w) A (eqBool (.ref a) (.ref b)) Q E s:=by
 unfold eqBool
 try with_reducible refine WA ?_
 show wA _ _ (if(Value.ref a == Value.ref b)=true then _ else _) Q E s
 by_cases hab:(Value.ref a == Value.ref b)=true
 ·rw[if_pos hab]
  have e:a=b:=by have:=eq_of_beq hab;injection this
  rw[he e]at h;exact wg (wpAny_rule (wp h))
 ·rw[if_neg hab]
  have ta:s.TypeIs (.ref a) "tuple":=⟨oa,hoa,hca⟩;have tb:s.TypeIs (.ref b) "tuple":=⟨ob,hob,hcb⟩
  exact wg (wpAny_richCompare_same_room (op:=.Eq) ta tb Xe
   (WN Xe ta F.entry_tuple_eq (zAz hoa hda hob hcb hdb hi ⟨_,rfl,(λe=>nomatch e),WG h⟩) (F.args_tuple_eq_2 _ _)) hu)
end
def jY(R:List we->Prop)(h:wK)(v:we):Prop:=∃a o items n,v=.ref a/\h.get? a=some o/\o.cls=.type "tuple"/\o.data=.seq items n/\R items.toList
theorem jY.inj{R S:List we->Prop}{h:wK}{v:we}(x:jY R h v)(y:jY S h v):∃l,R l/\S l:=by
 obtain⟨a,o,items,n,rfl,ho,_,hd,hi⟩:=x;obtain⟨a',o',items',n',e,ho',_,hd',hi'⟩:=y;cases e;obtain rfl:o=o':=wV (ho.symm.trans ho');rw[hd]at hd'
 injection hd' with h1 _
 subst h1;exact⟨_,hi,hi'⟩
theorem jY.keeps{R S:List we->Prop}{h h':wK}{v:we}{d:wf}{o:Obj}{es ep}(x:jY R h v)(ho:h.get? d=some o)(hd:o.data=.dict es ep)(hs:vW d h h')(r:∀l,R l->S l):jY S h' v:=by
 obtain⟨a,o',items,n,rfl,ho',hc,hd',hi⟩:=x
 have hne:a≠d:=by
  rintro rfl;obtain rfl:o'=o:=wV (ho'.symm.trans ho);rw[hd]at hd';exact nomatch hd'
 exact⟨a,o',items,n,rfl,(hs.2 a hne).trans ho',hc,hd',r _ hi⟩
def mL(prog:wP)(w:wR):HV prog w Int where
 is:=λ_ k v=>∃t,v=.int k t
 hash:=hashInt
 draws:=λ_=>1
 deep:=0
 inj:=λ⟨t,e⟩ ⟨u,f⟩=>by subst e;injection f
 keeps:=λh _ _ _=>h
 pyHash:=λ_ ⟨t,e⟩ h=>by subst e;exact wpAny_pyHash_int h
 eqBool:=λ_ ⟨t,e⟩ ⟨u,f⟩ h=>by subst e f;exact wpAny_eqBool_int h
 quiet:=λn _ ⟨t,e⟩ h=>by subst e;rw[eqIsQuiet_byValue n rfl];exact wp h
section
variable{prog:wP}{w:wR}{K:Type}[DecidableEq K](e:HV prog w K)
theorem PL{A:vj}{s:wk}(hu:A.in1.units+e.deep<WV):∀{ks:List K}{vs:List we},dh (e.is s.heap) ks vs ->
  dh (λv (x:Int × Nat)=>∀(E:we->wk->Prop)(Q:Int->wk->Prop)(s':wk),s'.heap=s.heap->Q x.1 {s' with toks:=s'.toks+x.2}->wA (model prog w) A.in1 (pyHash v) Q E s') vs (ks.map λk=>(e.hash k,e.draws k))
 | _,_,.nil=>.nil
 | _,_,.cons h t=>.cons (λE Q s' he q=>e.pyHash hu (he ▸ h) q) (PL hu t)
theorem PV{A:vj}{s:wk}(hu:A.in1.units+e.deep<WV):∀{ks js:List K}{us vs:List we},dh (e.is s.heap) ks us->dh (e.is s.heap) js vs ->
  ∃bs,dh (λ(p:we × we)(c:Bool)=>∀(E:we->wk->Prop)(Q:Bool->wk->Prop),Q c s->wA (model prog w) A.in1 (eqBool p.1 p.2) Q E s) (us.zip vs) bs/\(bs.all id&&us.length == vs.length)=decide (ks=js)
 | _,_,_,_,.nil,.nil=>⟨[],.nil,by simp⟩
 | _,_,_,_,.nil,.cons _ _=>⟨[],.nil,by simp⟩
 | _,_,_,_,.cons _ _,.nil=>⟨[],.nil,by simp⟩
 | k::ks,j::js,_,_,.cons h t,.cons h' t'=>by
  obtain⟨bs,b1,b2⟩:=PV hu t t';refine⟨decide (k=j)::bs,.cons (λE Q q=>e.eqBool hu h h' q) b1,?_⟩;rw[XH,Bool.and_assoc,vA,vA,show ∀a b:Nat,(a+1 == b+1)=(a == b)from λa b=>by simp,b2]
  by_cases h1:k=j<;>by_cases h2:ks=js<;>simp[h1,h2]
theorem Eh{h:wK} : ∀{ks js:List K}{vs:List we},dh (e.is h) ks vs->dh (e.is h) js vs->ks=js
 | _,_,_,.nil,.nil=>rfl
 | _,_,_,.cons h t,.cons h' t'=>by rw[e.inj h h',Eh t t']
theorem RC{α β : Type}{R S : α -> β -> Prop}(f:∀a b,R a b->S a b):∀{l:List α}{m:List β},dh R l m->dh S l m
 | _,_,.nil=>.nil
 | _,_,.cons h t=>.cons (f _ _ h) (RC f t)
theorem Mj{α β : Type}{R : α -> β -> Prop} : ∀{l:List α}{m:List β},dh R l m->∀y∈m,∃x,R x y
 | _,_,.nil,y,hy=>by cases hy
 | _,_,.cons h t,y,hy=>by
  rcases wE.mp hy with rfl | hy
  ·exact⟨_,h⟩
  ·exact Mj t y hy
def lY:HV prog w (List K) where
 is:=λh ks v=>jY (dh (e.is h) ks) h v
 hash:=λks=>reduceHash (Wm ((ks.map λk=>(e.hash k,e.draws k)).map (·.1)))
 draws:=λks=>((ks.map λk=>(e.hash k,e.draws k)).map (·.2)).sum+1
 deep:=e.deep+1
 inj:=λx y=>by
  obtain⟨l,h1,h2⟩:=x.inj y;exact Eh e h1 h2
 keeps:=λx ho hd hs=>x.keeps ho hd hs λl h=>RC (λa b r=>e.keeps r ho hd hs) h
 pyHash:=λ{A E s k v Q} hu x h=>by
  obtain⟨a,o,items,n,rfl,ho,hc,hd,hi⟩:=x;exact JR (by lia) ho hc hd (PL e (show A.units+1+e.deep<WV by lia) hi) h
 eqBool:=λ{A E s x y u v Q} hu hx hy h=>by
  have hj:u=v->x=y:=λev=>by
   subst ev;obtain⟨l,h1,h2⟩:=hx.inj hy;exact Eh e h1 h2
  obtain⟨a,o,items,n,rfl,ho,hc,hd,hi⟩:=hx;obtain⟨a',o',items',n',rfl,ho',hc',hd',hi'⟩:=hy;obtain⟨bs,b1,b2⟩:=PV e (A:=A) (show A.units+1+e.deep<WV by lia) hi hi';have b3:(bs.all id&&items.size == items'.size)=decide (x=y):=by rw[<- b2];rfl
  refine JS (by lia) ho hc hd ho' hc' hd' (λea=>?_) b1 (by rw[b3];exact h);rw[b3];exact decide_eq_true (hj (by rw[ea]))
 quiet:=λ{A E s k v Q} n hn x h=>by
  obtain⟨a,o,items,m,rfl,ho,hc,hd,hi⟩:=x;obtain⟨j,rfl⟩:∃j,n=j+1:=⟨n-1,by lia⟩
  exact Pc ho hc hd (λu hu E Q q=>by
   obtain⟨x,hx⟩:=Mj hi u hu;exact e.quiet j (by lia) hx q) h
end
section
variable{prog:wP}{w:wR}{J K:Type}[DecidableEq J][DecidableEq K](d:HV prog w J)(e:HV prog w K)
def Yu(h:wK)(k:J × K)(l:List we):Prop:=∃u v,l=[u,v]/\d.is h k.1 u/\e.is h k.2 v
def NR:HV prog w (J × K) where
 is:=λh k v=>jY (Yu d e h k) h v
 hash:=λk=>reduceHash (Wm ([(d.hash k.1,d.draws k.1),(e.hash k.2,e.draws k.2)].map (·.1)))
 draws:=λk=>([(d.hash k.1,d.draws k.1),(e.hash k.2,e.draws k.2)].map (·.2)).sum+1
 deep:=max d.deep e.deep+1
 inj:=λ{h v x y} hx hy=>by
  obtain⟨l,⟨u,v,rfl,h1,h2⟩,u',v',e',h3,h4⟩:=hx.inj hy;cases e';exact Qc (d.inj h1 h3) (e.inj h2 h4)
 keeps:=λx ho hd hs=>x.keeps ho hd hs λl ⟨u,v,r,h1,h2⟩=>⟨u,v,r,d.keeps h1 ho hd hs,e.keeps h2 ho hd hs⟩
 pyHash:=λ{A E s k v Q} hu x h=>by
  obtain⟨a,o,items,n,rfl,ho,hc,hd,u,v,hl,h1,h2⟩:=x
  exact JR (by lia) ho hc hd (by
   rw[hl];exact .cons (λE Q s' he q=>d.pyHash (show A.units+1+d.deep<WV by lia) (he ▸ h1) q) (.cons (λE Q s' he q=>e.pyHash (show A.units+1+e.deep<WV by lia) (he ▸ h2) q) .nil)) h
 eqBool:=λ{A E s x y u v Q} hu hx hy h=>by
  have hj:u=v->x=y:=λev=>by
   subst ev;obtain⟨l,⟨u,v,rfl,h1,h2⟩,u',v',e',h3,h4⟩:=hx.inj hy;cases e';exact Qc (d.inj h1 h3) (e.inj h2 h4)
  obtain⟨a,o,items,n,rfl,ho,hc,hd,u,v,hl,h1,h2⟩:=hx;obtain⟨a',o',items',n',rfl,ho',hc',hd',u',v',hl',h1',h2'⟩:=hy
  have b3:([decide (x.1=y.1),decide (x.2=y.2)].all id&&items.size == items'.size)=decide (x=y):=by
   rw[<- wD,<- wD,hl,hl'];obtain⟨x1,x2⟩:=x;obtain⟨y1,y2⟩:=y
   by_cases h1:x1=y1<;>by_cases h2:x2=y2<;>simp[h1,h2]
  refine JS (bs:=[decide (x.1=y.1),decide (x.2=y.2)]) (by lia) ho hc hd ho' hc' hd' (λea=>?_) ?_ (by rw[b3];exact h)
  ·rw[b3]
   exact decide_eq_true (hj (by rw[ea]))
  ·rw[hl,hl']
   exact .cons (λE Q q=>d.eqBool (show A.units+1+d.deep<WV by lia) h1 h1' q) (.cons (λE Q q=>e.eqBool (show A.units+1+e.deep<WV by lia) h2 h2' q) .nil)
 quiet:=λ{A E s k v Q} n hn x h=>by
  obtain⟨a,o,items,m,rfl,ho,hc,hd,u,v,hl,h1,h2⟩:=x;obtain⟨j,rfl⟩:∃j,n=j+1:=⟨n-1,by lia⟩
  exact Pc ho hc hd (λu hu E Q q=>by
   rw[hl]at hu;rcases wE.mp hu with rfl | hu
   ·exact d.quiet j (by lia) h1 q
   ·rw[vv]at hu
    subst hu;exact e.quiet j (by lia) h2 q) h
end
abbrev SK:=List Int × List (List Int)
def jl(prog:wP)(w:wR):HV prog w SK:=NR (lY (mL prog w)) (lY (lY (mL prog w)))
def iV(prog:wP)(w:wR):HeapKind prog w SK where
 is:=λh k a=>(jl prog w).is h k (.ref a)
 hash:=(jl prog w).hash
 draws:=(jl prog w).draws
 room:=λA=>A.units+3<WV
 inj:=λx y=>(jl prog w).inj x y
 keeps:=λx ho hd hs=>(jl prog w).keeps x ho hd hs
 pyHash:=λhu hk h=>(jl prog w).pyHash hu hk h
 eqBool:=λhu hx hy h=>(jl prog w).eqBool hu hx hy h
 quiet:=λhk h=>(jl prog w).quiet 8 (by show 3<=8;decide) hk h
end TB
namespace L2
open PySem PySem.Spec PyProof.Rows GM
open TB (SK iV jl lY mL NR dh)
theorem RT{P:wP}{w:wR}{h:wK} : ∀{us:List we}{ns:List Int},qi us ns->dh ((mL P w).is h) ns us
 | _,_,.nil=>.nil
 | _,_,.cons n t r=>.cons ⟨t,rfl⟩ (RT r)
section
variable{X:Cx}{pins:List (wf × Obj)}{σ : St}{H:Hp}{s:wk}
theorem Inv.IA(I:Inv X pins σ H s){v:V}{u:we}{k:List Int}(h:Is X.K H v (TZ k))(r:aT v u):(lY (mL X.prog X.w)).is s.heap k u:=by
 obtain⟨q,rfl,hs⟩:=eY.mp h;obtain⟨its,r',⟨o,e,hc,n,hd⟩,_⟩:=I.tuple hs;cases (show u=Value.ref q from r);exact⟨q,o,its.toArray,n,rfl,e,hc,hd,RT (yh r')⟩
theorem Inv.Iw(I:Inv X pins σ H s):∀{ks:List (List Int)}{ws:List V}{us:List we},ag X.K H ws (ks.map TZ)->aI ws us->dh ((lY (mL X.prog X.w)).is s.heap) ks us
 | [],ws,us,h,r=>by
  rw[dM.mp h]at r;cases r;exact .nil
 | k::ks,ws,us,h,r=>by
  rw[wZ]at h;obtain⟨x,t,rfl,q,g⟩:=ck.mp h;cases r with
  | cons r1 r2=>exact .cons (I.IA q r1) (I.Iw g r2)
theorem Inv.stK(I:Inv X pins σ H s){a:wf}{ps:List Int}{cm:List (List Int)}(h:Is X.K H (.ref a) (aY ps cm)):(iV X.prog X.w).is s.heap (ps,cm) a:=by
 obtain⟨q,ws,e,hs,t⟩:=bz.mp h;cases e;obtain⟨x,t1,rfl,h1,g1⟩:=ck.mp t;obtain⟨y,t2,rfl,h2,g2⟩:=ck.mp g1;rw[dM.mp g2]at hs;obtain⟨its,r',⟨o,e,hc,n,hd⟩,_⟩:=I.tuple hs;cases r' with
 | @cons _ u _ r0 rx r' =>
  cases r' with
  | @cons _ v _ _ ry r' =>
   cases r';refine⟨a,o,#[u,v],n,rfl,e,hc,hd,u,v,rfl,I.IA h1 rx,?_⟩;obtain⟨q2,ws2,rfl,hs2,t2⟩:=bz.mp h2;obtain⟨its2,r2,⟨o2,e2,hc2,n2,hd2⟩,_⟩:=I.tuple hs2;cases (show v=Value.ref q2 from ry);exact⟨q2,o2,its2.toArray,n2,rfl,e2,hc2,hd2,I.Iw t2 r2⟩
end
def DP(l:List (Int × Nat)):Int:=reduceHash (Wm (l.map (·.1)))
def Bh(ks:List Int):Int:=DP (ks.map λk=>(hashInt k,1))
def B7(ks:List Int):Nat:=((ks.map λk=>(hashInt k,1)).map (·.2)).sum+1
def DR(k:SK):Int:=DP [(Bh k.1,B7 k.1),(DP (k.2.map λk=>(Bh k,B7 k)),((k.2.map λk=>(Bh k,B7 k)).map (·.2)).sum+1)]
theorem zwk(P:wP)(w:wR)(k:SK):(iV P w).hash k=DR k:=rfl
def Av(x:SK × wf × Int)(e:DictEntry):Prop:=∃t,e=⟨DR x.1,.ref x.2.1,.int x.2.2 t⟩
def cP(a:wf)(xs:List (SK × wf × Int)):HO:=.ext λh=>xs.length<=100000/\(a == qO)=false/\(xs.map (·.1)).Nodup /\ ∃o es ep,h.get? a=some o/\o.ExactDict/\o.data=.dict es ep/\Paired Av xs es.toList
def df(K:wb)(H:Hp)(xs:List (SK × wf × Int)):Prop:=∀x∈xs,Is K H (.ref x.2.1) (aY x.1.1 x.1.2)
def cO(xs:List (SK × wf × Int))(k:SK):Option Int:=(xs.find? λx=>decide (x.1=k)).map (·.2.2)
theorem Nx(P:wP)(w:wR)(k:SK)(b:wf)(v:we):entryOfKey (iV P w) (k,b,v)=⟨DR k,.ref b,v⟩:=by
 unfold entryOfKey;rw[zwk]
theorem zxN{P:wP}{w:wR}{xs:List (SK × wf × Int)}{es:List DictEntry}(r:Paired Av xs es):∃zs:List (SK × wf × we),es=zs.map (entryOfKey (iV P w))/\zs.map (·.1)=xs.map (·.1)/\zs.map (·.2.1)=xs.map (·.2.1) /\ ∀k,((cO xs k)=none/\atKey zs k=none) \/ ∃n p t,cO xs k=some n/\atKey zs k=some (p,.int n t):=by
 induction r with
 | nil=>exact⟨[],rfl,rfl,rfl,λk=>.inl ⟨rfl,rfl⟩⟩
 | @cons x e xs es hx r ih =>
  obtain⟨t,e⟩:=hx;obtain⟨zs,h1,h2,h3,h4⟩:=ih;refine⟨(x.1,x.2.1,.int x.2.2 t)::zs,by rw[wZ,<- h1,e,Nx],by rw[wZ,wZ,h2],by rw[wZ,wZ,h3],λk=>?_⟩
  by_cases hk:x.1=k
  ·exact .inr ⟨x.2.2,x.2.1,t,by simp[cO,hk],by simp[atKey,hk]⟩
  ·have e1:cO (x::xs) k=cO xs k:=by simp[cO,Uq,hk]
   have e2:atKey ((x.1,x.2.1,Value.int x.2.2 t)::zs) k=atKey zs k:=by simp[atKey,Uq,hk]
   rw[e1,e2];exact h4 k
theorem OY{α β γ : Type} : ∀{zs:List (α × β × γ)}{xs:List (α × β × Int)},zs.map (·.1)=xs.map (·.1)->zs.map (·.2.1)=xs.map (·.2.1)->∀z∈zs,∃x∈xs,x.1=z.1/\x.2.1=z.2.1
 | [],_,_,_,z,hz=>by cases hz
 | _::_,[],h,_,_,_=>by simp at h
 | y::zs,x::xs,h1,h2,z,hz=>by
  rw[wZ,wZ,Uk]at h1 h2;rcases wE.mp hz with rfl | hz
  ·exact⟨x,wN ..,h1.1.symm,h2.1.symm⟩
  ·obtain⟨x',m,r⟩:=OY h1.2 h2.2 z hz
   exact⟨x',wI _ m,r⟩
theorem J1{P:wP}{w:wR}{H:Hp}{h:wK}{a:wf}{xs:List (SK × wf × Int)}(z:xs.length<=100000)(hd:(a == qO)=false)(nd:(xs.map (·.1)).Nodup){o:Obj}{es:Array DictEntry}{ep}(ho:h.get? a=some o)(hx:o.ExactDict)(hda:o.data=.dict es ep)(r:Paired Av xs es.toList) :
  cz P w H h a (cP a xs):=⟨⟨z,hd,nd,o,es,ep,ho,hx,hda,r⟩,⟨o,ho⟩,λh1 h2 ⟨z,hd,nd,o,es,ep,ho,q⟩ k=>⟨z,hd,nd,o,es,ep,k _ ho,q⟩⟩
section
variable{X:Cx}{pins:List (wf × Obj)}{σ : St}{H:Hp}{s:wk}{a b:wf}{xs:List (SK × wf × Int)}{ps:List Int}{cm:List (List Int)}{A:vj}{E:we->wk->Prop}
theorem Inv.rh(I:Inv X pins σ H s)(e:H a=some (cP a xs))(hk:df X.K H xs):xs.length<=100000/\(a == qO)=false/\(xs.map (·.1)).Nodup /\ ∃zs:List (SK × wf × we),s.heap.DictOfH (iV X.prog X.w) a zs/\zs.length=xs.length /\
  Paired Av xs (zs.map (entryOfKey (iV X.prog X.w))) /\ ∀k,((cO xs k)=none/\atKey zs k=none) \/ ∃n p t,cO xs k=some n/\atKey zs k=some (p,.int n t):=by
 obtain⟨⟨z,hd,nd,o,es,ep,ho,hx,hda,r⟩,_,_⟩:=(show cz X.prog X.w H s.heap a (cP a xs)from I.aB a _ e);obtain⟨zs,h1,h2,h3,h4⟩:=zxN (P:=X.prog) (w:=X.w) r;refine⟨z,hd,nd,zs,⟨o,es,ep,ho,hx,hda,h1,λx hx=>?_,by rw[h2];exact nd⟩,by rw[<- wd (f:=λz:SK × wf × we=>z.1),h2,wd],h1 ▸ r,h4⟩;obtain⟨y,hy,e1,e2⟩:=OY h2 h3 x hx;have:=I.stK (hk y hy);rw[<- e1,<- e2];exact this
theorem YV{Q:we->wk->Prop}(hu:A.units+4<WV)(I:Inv X pins σ H s)(e:H a=some (cP a xs))(hk:df X.K H xs)(hb:Is X.K H (.ref b) (aY ps cm))(h:∀s',Inv X pins σ H s'->Q (.bool (!(cO xs (ps,cm)).isSome)) s') :
  wA (model X.prog X.w) A (wW .NotIn (.ref b) (.ref a)) Q E s:=by
 obtain⟨z,hd,nd,zs,dd,_,_,l⟩:=I.rh e hk;refine wpAny_notIn_heap (knd:=iV X.prog X.w) (show A.units+1+3<WV by lia) (I.stK hb) hd dd ?_;rcases l (ps,cm)with⟨l1,l2⟩ | ⟨n,p,t,l1,l2⟩
 ·rw[l2];rw[l1]at h;exact h _ (I.tok _)
 ·rw[l2];rw[l1]at h;exact h _ (I.tok _)
theorem zBK{n:Int}{Q:we->wk->Prop}(hu:A.units+4<WV)(I:Inv X pins σ H s)(e:H a=some (cP a xs))(hk:df X.K H xs)(hb:Is X.K H (.ref b) (aY ps cm))(hl:cO xs (ps,cm)=some n)(h:∀t s',Inv X pins σ H s'->Q (.int n t) s') :
  wA (model X.prog X.w) A (getItem (.ref a) (.ref b)) Q E s:=by
 obtain⟨z,hd,nd,zs,dd,_,_,l⟩:=I.rh e hk;rcases l (ps,cm)with⟨l1,l2⟩ | ⟨n',p,t,l1,l2⟩
 ·rw[hl]at l1;cases l1
 ·rw[hl]at l1
  cases l1;exact wpAny_getItem_heap (knd:=iV X.prog X.w) (show A.units+1+3<WV by lia) (I.stK hb) dd l2 (h t _ (I.tok _))
theorem zBd{n:Int}{r:we}{Q:Unit->wk->Prop}(hu:A.units+4<WV)(I:Inv X pins σ H s)(e:H a=some (cP a xs))(hk:df X.K H xs)(hb:Is X.K H (.ref b) (aY ps cm))(hl:cO xs (ps,cm)=none)(hz:xs.length<100000)(rv:aT (.int n) r)
  (h:∀s',Inv X pins σ (upd H a (cP a (xs++[((ps,cm),b,n)]))) s'->Q () s'):wA (model X.prog X.w) A (setItem (.ref a) (.ref b) r) Q E s:=by
 obtain⟨z,hd,nd,zs,dd,zl,rr,l⟩:=I.rh e hk
 have l2:atKey zs (ps,cm)=none:=by
  rcases l (ps,cm)with⟨l1,l2⟩ | ⟨n',p,t,l1,l2⟩
  ·exact l2
  ·rw[hl]at l1;cases l1
 have hsz:zs.length<=wY:=by rw[zl,Wy];lia
 refine wpAny_setItem_heap (knd:=iV X.prog X.w) (show A.units+1+3<WV by lia) (I.stK hb) dd (λh' dd' hs=>h _ ?_) hsz;rw[storedH_new l2]at dd';obtain⟨o',es',ep',ho',hx',hda',he',_,_⟩:=dd'
 have nn:((xs++[((ps,cm),b,n)]).map (·.1)).Nodup:=by
  rw[wL,Qy];refine⟨nd,by simp,λc hc d hd'=>?_⟩;rw[wZ,Qf,vv]at hd';subst hd';rintro rfl;obtain⟨x,hx,e1⟩:=wQ.mp hc;unfold cO at hl;rw[Xm,xm]at hl;exact hl x hx (decide_eq_true e1)
 refine zym I (by rw[e];exact True.intro) hs ⟨o',ho'⟩ (J1 (by rw[wS,Vj];lia) hd nn ho' hx' hda' ?_);rw[he',wL,wZ,Qf,Nx];obtain⟨t,rfl⟩:=rv;exact Paired.snoc rr ⟨t,rfl⟩
end
def IF:TE:=λ_ H Q=>∀p,H p=none->Q (.ref p) (upd H p (cP p []))
def Oh(K:wb)(ty td:TE):TE:=λσ H Q=>ty σ H λy H1=>td σ H1 λx H2=>∃a b xs ps cm,x=.ref a/\y=.ref b/\H2 a=some (cP a xs)/\df K H2 xs/\Is K H2 (.ref b) (aY ps cm)/\Q (.bl (!(cO xs (ps,cm)).isSome)) H2
def LJ(K:wb)(td ty:TE):TE:=λσ H Q=>td σ H λx H1=>ty σ H1 λy H2=>∃a b xs ps cm n,x=.ref a/\y=.ref b/\H2 a=some (cP a xs)/\df K H2 xs/\Is K H2 (.ref b) (aY ps cm)/\cO xs (ps,cm)=some n/\Q (.int n) H2
def RJ(K:wb)(td ty tv:TE):TS:=λD σ H=>tv σ H λv H1=>td σ H1 λx H2=>ty σ H2 λy H3=>∃a b xs ps cm n,x=.ref a/\y=.ref b/\v=.int n/\H3 a=some (cP a xs)/\df K H3 xs/\Is K H3 (.ref b) (aY ps cm)/\cO xs (ps,cm)=none/\xs.length<100000/\D.nx σ (upd H3 a (cP a (xs++[((ps,cm),b,n)])))
section
variable{X:Cx}{pos pos':Pos}{i o value:Expr}{ty td tv:TE}
theorem zrE{P:wP}{w:wR}{H:Hp}(h:wK)(hb:qO<h.objs.size):cz P w H (h.push {cls:=.type "dict",data:=.dict #[]}) h.objs.size (cP h.objs.size []) :=
 J1 (Wg _) (beq_eq_false_iff_ne.mpr (Wz (ve hb))) VU (wC _ rfl) ⟨rfl,rfl,rfl⟩ rfl .nil
theorem zvt:PE X (.Dict [] [] pos) IF:=λpins s σ H Q I h =>
 wpAny_Dict_empty ⟨.ref s.heap.objs.size,_,I.laid (a:=s.heap.objs.size) (o:=cP s.heap.objs.size []) (t':=s.toks) (λ_ _ q=>wj _ q) (wu _) (zrE s.heap I.big),rfl,h _ (I.aB.fresh (wu _))⟩
theorem zrh(hu:X.A.units+4<WV)(hi:PE X i ty)(ho:PE X o td):PC X .NotIn i o (Oh X.K ty td):=by
 intro pins s σ H Q I h;refine aE (hi pins s σ H _ I h) λiv s1 ⟨y,H1,I1,ry,q1⟩=>aE (ho pins s1 σ H1 _ I1 q1) λu s2 ⟨x,H2,I2,rx,a,b,xs,ps,cm,ex,ey,e,hk,hb,q2⟩=>?_
 subst ex ey;obtain rfl:u=Value.ref a:=rx;obtain rfl:iv=Value.ref b:=ry;exact YV hu I2 e hk hb λs3 I3=>⟨.bl (!(cO xs (ps,cm)).isSome),H2,I3,rfl,q2⟩
theorem zxg(hu:X.A.units+4<WV)(ho:PE X o td)(hi:PE X i ty)(hs:JB i):PE X (.Subscript o i pos) (LJ X.K td ty):=by
 intro pins s σ H Q I h;refine zxO PySem.F.slot_dict_getitem.lookup hs (aE (ho pins s σ H _ I h) λu s1 ⟨x,H1,I1,rx,q1⟩=>aE (hi pins s1 σ H1 _ I1 q1) λiv s2 ⟨y,H2,I2,ry,a,b,xs,ps,cm,n,ex,ey,e,hk,hb,hl,q2⟩=>?_);subst ex ey;obtain rfl:u=Value.ref a:=rx;obtain rfl:iv=Value.ref b:=ry;exact⟨(I2.rh e hk).2.2.2.elim λ_ d=>d.1.typeIs,zBK hu I2 e hk hb hl λt s3 I3=>⟨.int n,H2,I3,⟨t,rfl⟩,q2⟩⟩
theorem zxj(hu:X.A.units+4<WV)(ho:PE X o td)(hi:PE X i ty)(hv:PE X value tv)(hs:swapsWith value (some (.Subscript o i pos')) pos.line X.env=pure false) :
  PS X (.Assign [.Subscript o i pos'] value pos) (RJ X.K td ty tv):=by
 intro pins s σ H D I h;refine wpAny_Assign_Subscript (aE (hv pins s σ H _ I h) λr s1 ⟨v,H1,I1,rv,q1⟩=>aE (ho pins s1 σ H1 _ I1 q1) λu s2 ⟨x,H2,I2,rx,q2⟩=>aE (hi pins s2 σ H2 _ I2 q2) λiv s3 ⟨y,H3,I3,ry,a,b,xs,ps,cm,n,ex,ey,ev,e,hk,hb,hl,hz,q3⟩=>?_) hs;subst ex ey ev;obtain rfl:u=Value.ref a:=rx;obtain rfl:iv=Value.ref b:=ry;exact zBd hu I3 e hk hb hl hz rv λs4 I4=>⟨σ,_,I4,q3⟩
end
section
variable{K:wb}{H H':Hp}{Q:VK}{D:bY}{σ : St}{td ty tv:TE}{a b:wf}{xs:List (SK × wf × Int)}{ps:List Int}{cm:List (List Int)}{n:Int}
theorem zwZ(q:∀p H',H p=none->af H H'->H' p=some (cP p [])->Q (.ref p) H'):IF σ H Q:=λp hp=>q p _ hp (af.upd hp) bW
theorem Ze(h:ty σ H λy H1=>td σ H1 λx H2=>∃a b xs ps cm,x=.ref a/\y=.ref b/\H2 a=some (cP a xs)/\df K H2 xs/\Is K H2 (.ref b) (aY ps cm)/\Q (.bl (!(cO xs (ps,cm)).isSome)) H2):Oh K ty td σ H Q:=h
theorem YC(h:td σ H λx H1=>ty σ H1 λy H2=>∃a b xs ps cm n,x=.ref a/\y=.ref b/\H2 a=some (cP a xs)/\df K H2 xs/\Is K H2 (.ref b) (aY ps cm)/\cO xs (ps,cm)=some n/\Q (.int n) H2):LJ K td ty σ H Q:=h
theorem zxn(h:tv σ H λv H1=>td σ H1 λx H2=>ty σ H2 λy H3=>∃a b xs ps cm n,x=.ref a/\y=.ref b/\v=.int n/\H3 a=some (cP a xs)/\df K H3 xs/\Is K H3 (.ref b) (aY ps cm)/\cO xs (ps,cm)=none/\xs.length<100000/\D.nx σ (upd H3 a (cP a (xs++[((ps,cm),b,n)])))):RJ K td ty tv D σ H:=h
theorem df.nil:df K H []:=λ_ h=>by cases h
theorem df.nA(h:df K H xs)(k:aO H H'):df K H' xs:=λx hx=>(h x hx).lQ k
theorem df.snoc(h:df K H xs)(i:Is K H (.ref b) (aY ps cm)):df K H (xs++[((ps,cm),b,n)]):=λx hx=>by
 rcases vR.mp hx with hx | hx
 ·exact h x hx
 ·rw[vv]at hx
  subst hx;exact i
theorem LW(e:H a=some (cP a xs))(o:HO):aO H (upd H a o) :=
 ⟨λb ys hb=>by rw[cX (λz=>by subst z;rw[e]at hb;cases hb)];exact hb,λb o' u hb=>by rw[cX (λz=>by subst z;rw[e]at hb;cases hb)];exact hb⟩
theorem zyz{R:Hp->Prop}(e:H a=some (cP a xs))(hk:df K H xs)(hb:Is K H (.ref b) (aY ps cm))(hl:cO xs (ps,cm)=none)(hz:xs.length<100000)
  (q:∀H',Exc a H H'->aO H H'->H' a=some (cP a (xs++[((ps,cm),b,n)]))->df K H' (xs++[((ps,cm),b,n)])->R H') :
  ∃a' b' xs' ps' cm' n',V.ref a=.ref a'/\V.ref b=.ref b'/\V.int n=.int n'/\H a'=some (cP a' xs')/\df K H xs'/\Is K H (.ref b') (aY ps' cm')/\cO xs' (ps',cm')=none/\xs'.length<100000/\R (upd H a' (cP a' (xs'++[((ps',cm'),b',n')]))) :=
 ⟨a,b,xs,ps,cm,n,rfl,rfl,rfl,e,hk,hb,hl,hz,q _ (Exc.upd a H _) (LW e _) bW ((hk.snoc hb).nA (LW e _))⟩
theorem Zz{l:wf}{ws:List V}{y:V}(h:H l=some (.lst ws))(z:ws.length<=100000)(q:∀H',Exc l H H'->H' l=some (.lst (ws++[y]))->Q .aZ H'):Bo (.ref l) [y] H Q:=⟨l,ws,y,rfl,rfl,h,by rw[Wy];lia,q _ (Exc.upd l H _) bW⟩
end
def yJ(kind:ScopeKind)(inner outer:List (Str × W4)):List (Str × W4):=inner.map λ(n,k)=>if(k == .free&&kind == .function&&outer.lookup n == some .cell)then(n,.cell)else(n,k)
section
variable{X:Cx}{N':List Str}{scope:Scope}{cl:List (Str × wf)}{src:List (Option Nat)}{elt tgt iter:Expr}{ifs:List Expr}{pos:Pos}{wi:TI}{g:TG}{tt:TT}{te:TE}
theorem Mw(hc:X.calm=true)(ok:bc X N' scope cl src)(hi:PI X tgt iter wi)
  (hg:∀C s₀ H₀ fp pins,PG (dj X N' scope cl C s₀ H₀ fp pins) tgt g) (ht:∀C s₀ H₀ fp pins,mP (dj X N' scope cl C s₀ H₀ fp pins) ifs tt)
  (he:(∀x,(relabel scope X.env).names.lookup x=some .cell->∃c,cl.lookup x=some c)->∀C s₀ H₀ fp pins,PE (dj X N' scope cl C s₀ H₀ fp pins) elt te)
  (hs:∀x,foldedSetIterable iter X.env x=pure x:=by intro _;rfl):PE X (.ListComp elt [⟨tgt,iter,ifs,0⟩] scope pos) (hJ src wi g tt te) :=
 cn hc ok hi hg ht (he λx h=>ok.jS.has x (.inl h)) hs
theorem ztZ{scope:Scope}{env:Env} : (relabel scope env).names=yJ env.scope.kind scope.names env.scope.names:=rfl
theorem bc.jm{N2:List Str}{scope2:Scope}{src2:List (Option Nat)}{C:wf}{s₀ : wk}{H₀ : Hp}{fp:List wf}{pins:List (wf × Obj)}(hk:scope2.kind=.function)(hc:bG scope2.names (yJ X.env.scope.kind scope.names X.env.scope.names) N' N2 src2=true)
  (hf:∀x,(relabel scope X.env).names.lookup x=some .cell->∃c,cl.lookup x=some c):bc (dj X N' scope cl C s₀ H₀ fp pins) N2 scope2 (gc cl scope2.names []) src2 :=
 bc.by (X:=dj X N' scope cl C s₀ H₀ fp pins) hk (by rw[<- ztZ]at hc;exact hc) hf
end
end L2
namespace TB
open PySem PySem.W PyProof.Rows
def bS{α : Type}(o:Nat->Nat->Bool):KasT α -> α
 | .ret a=>a
 | .ask i j k=>bS o (k (o i j))
theorem md{α β : Type}(o:Nat->Nat->Bool)(f : α -> KasT β):∀t:KasT α,bS o (t.bind f)=bS o (f (bS o t))
 | .ret _=>rfl
 | .ask i j k=>md o f (k (o i j))
theorem eT.To{α : Type}{n:Nat}{φ : α -> Prop}{t:KasT α}(h:eT n φ t){o:Nat->Nat->Bool}{cmp:Nat->Nat->(Bool->wk->Prop)->wk->Prop}{s:wk}(hc:∀i j C,i<n->j<n->C (o i j) s->cmp i j C s){Q : α -> wk->Prop}(q:Q (bS o t) s):t.kasWp cmp Q s:=by
 induction h with
 | ret h=>exact q
 | ask h1 h2 _ ih=>exact hc _ _ _ h1 h2 (ih _ q)
structure iC(n:Nat)(o:Nat->Nat->Bool):Prop where
 rP:∀i j,i<n->j<n->i≠j->o i j=false->o j i=true
 tr:∀i j k,i<n->j<n->k<n->o i j=true->o j k=true->o i k=true
section
variable{n:Nat}{o:Nat->Nat->Bool}{p:Array Nat}
theorem Pm.size(h:Pm n p):p.size=n:=by rw[<- wD,h.length_eq,vi]
theorem Pm.lt(h:Pm n p){i:Nat}(hi:i<n):p.getD i 0<n:=h.get (by omega) i
theorem Pm.ne(h:Pm n p){i j:Nat}(hi:i<n)(hj:j<n)(e:i≠j):p.getD i 0≠p.getD j 0:=by
 have hs:=h.size;have nd:p.toList.Nodup:=h.nodup_iff.mpr Wn;intro z;rw[wM,wM,vH (by omega),vH (by omega)]at z;have z:p.toList[i]'(by rw[wD];omega)=p.toList[j]'(by rw[wD];omega):=z;exact e ((xH nd).mp z)
def fP(o:Nat->Nat->Bool)(p:Array Nat)(m:Nat):Prop:=∀i j,i<j->j<m->o (p.getD i 0) (p.getD j 0)=true
theorem LU(T:iC n o)(h:Pm n p){m:Nat}(hm:m<=n)(a:∀i,i+1<m->o (p.getD i 0) (p.getD (i+1) 0)=true):fP o p m:=by
 intro i j hij hj
 induction j with
 | zero=>omega
 | succ j ih =>
  rcases wT i j with z | z
  ·exact T.tr _ _ _ (h.lt (by omega)) (h.lt (by omega)) (h.lt (by omega)) (ih z (by omega)) (a j hj)
  ·have:i=j:=by omega
   subst this;exact a i hj
theorem A9(T:iC n o)(h:Pm n p):∀f m,1<=m->m+f<=n->m<=bS o (kas_asc p f m)/\bS o (kas_asc p f m)<=m+f/\(∀i,m<=i+1->i+1<bS o (kas_asc p f m)->o (p.getD i 0) (p.getD (i+1) 0)=true)/\(bS o (kas_asc p f m)<m+f->o (p.getD (bS o (kas_asc p f m)) 0) (p.getD (bS o (kas_asc p f m)-1) 0)=true)
 | 0,m,h1,hm=>⟨wu _,wu _,λi a b=>by(have:i+1<m:=b);omega,λa=>by(have:m<m+0:=a);omega⟩
 | f+1,m,h1,hm=>by
  have e:bS o (kas_asc p (f+1) m)=if o (p.getD m 0) (p.getD (m-1) 0)=true then m else bS o (kas_asc p f (m+1)):=by
   show bS o (if o (p.getD m 0) (p.getD (m-1) 0)=true then .ret m else kas_asc p f (m+1))=_
   split<;>rfl
  rw[e]
  split
  ·rename_i c
   exact⟨wu _,by omega,λi a b=>by omega,λ_=>c⟩
  ·rename_i c
   obtain⟨i1,i2,i3,i4⟩:=A9 T h f (m+1) (by omega) (by omega);refine⟨by omega,by omega,λi a b=>?_,λa=>i4 (by omega)⟩;rcases wT m (i+1)with z | z
   ·exact i3 i (by omega) b
   ·have:m=i+1:=by omega
    subst this;have:=T.rP _ _ (h.lt (i:=i+1) (by omega)) (h.lt (i:=i) (by omega)) (h.ne (by omega) (by omega) (by omega)) (by simpa using c);exact this
theorem Ot(T:iC n o)(h:Pm n p):∀f m,1<=m->m+f<=n->∃r,bS o (kas_desc f p m 0)=(p,r,0)/\m<=r/\r<=m+f /\ ∀i,m<=i+1->i+1<r->o (p.getD (i+1) 0) (p.getD i 0)=true
 | 0,m,h1,hm=>⟨m,rfl,wu _,wu _,λi a b=>by omega⟩
 | f+1,m,h1,hm=>by
  by_cases c:o (p.getD m 0) (p.getD (m-1) 0)=true
  ·obtain⟨r,e,a,b,d⟩:=Ot T h f (m+1) (by omega) (by omega)
   refine⟨r,?_,by omega,by omega,λi x y=>?_⟩
   ·rw[<- e]
    show bS o (if o (p.getD m 0) (p.getD (m-1) 0)=true then(if 0 > 0 then _ else kas_desc f p (m+1) 0)else _)=_
    rw[if_pos c,if_neg (by omega)]
   ·rcases wT m (i+1)with z | z
    ·exact d i (by omega) y
    ·have:m=i+1:=by omega
     subst this;exact c
  ·refine⟨m,?_,wu _,by omega,λi a b=>by omega⟩
   have d:=T.rP _ _ (h.lt (i:=m) (by omega)) (h.lt (i:=m-1) (by omega)) (h.ne (by omega) (by omega) (by omega)) (by simpa using c)
   show bS o (if o (p.getD m 0) (p.getD (m-1) 0)=true then _ else .ask (p.getD (m-1) 0) (p.getD m 0) λd=>if d=true then .ret (p,m,0)else kas_desc f p (m+1) (0+1))=_
   rw[if_neg c]
   show bS o (if o (p.getD (m-1) 0) (p.getD m 0)=true then .ret (p,m,0)else kas_desc f p (m+1) (0+1))=_
   rw[if_pos d]
   rfl
theorem Ji(h:Pm n p){m:Nat}(hm:m<=n)(k:Nat):(kas_rev p 0 m).getD k 0=if k<m then p.getD (m-1-k) 0 else p.getD k 0:=by
 unfold kas_rev;rw[wM,getElem?_mirror_all (by rw[h.size];exact hm)]
 split
 ·rename_i z
  rw[if_pos z.2,wM]
  congr 2
  omega
 ·rename_i z
  rw[if_neg (by omega),wM]
theorem Ta(T:iC n o)(h:Pm n p){m:Nat}(h1:1<=m)(hm:m<=n)(a:∀i,i+1<m->o (p.getD (i+1) 0) (p.getD i 0)=true):∃r q,bS o (kas_tail3 m n p)=(r,q)/\1<=r/\r<=n/\fP o q r/\Pm n q:=by
 have hq:=h.rev 0 m;obtain⟨i1,i2,i3,_⟩:=A9 T hq (n-m) m h1 (by omega);refine⟨_,_,by unfold kas_tail3;rw[md];rfl,by omega,by omega,LU T hq (by omega) λi hi=>?_,hq⟩;rcases wT (i+1) m with z | z
 ·rw[Ji h hm,Ji h hm,if_pos (by omega),if_pos z]
  have:=a (m-1-(i+1)) (by omega);rw[show m-1-(i+1)+1=m-1-i by omega]at this;exact this
 ·exact i3 i z hi
theorem Z1(T:iC n o)(h:Pm n p)(hn:2<=n)(a:o (p.getD 1 0) (p.getD 0 0)=true):∃r q,bS o (kas_descPart 1 n p)=(r,q)/\1<=r/\r<=n/\fP o q r/\Pm n q:=by
 obtain⟨m,e,m1,m2,d⟩:=Ot T h (n-2) 2 (by omega) (by omega)
 obtain⟨r,q,e2,rest⟩:=Ta T h (m:=m) (by omega) (by omega) λi hi=>by
  rcases wT i 1 with z | z
  ·have:i=0:=by omega
   subst this;exact a
  ·exact d i (by omega) hi
 refine⟨r,q,?_,rest⟩;unfold kas_descPart;rw[md,show n-(1+1)=n-2 from rfl,e];exact e2
theorem zuO(T:iC n o)(h:Pm n p)(hn:2<=n):∃r q,bS o (kas_count n p)=(r,q)/\1<=r/\r<=n/\fP o q r/\Pm n q:=by
 obtain⟨i1,i2,i3,i4⟩:=A9 T h (n-1) 1 (wu 1) (by omega);unfold kas_count;rw[md];generalize bS o (kas_asc p (n-1) 1)=m at *;have hs:fP o p m:=LU T h (by omega) λi hi=>i3 i (by omega) hi
 by_cases c:m=n
 ·refine⟨m,p,?_,by omega,by omega,hs,h⟩
  rw[if_pos (by simpa using c)];rfl
 ·rw[if_neg (by simpa using c)]
  by_cases c1:m > 1
  ·refine⟨m,p,?_,by omega,by omega,hs,h⟩
   rw[if_pos c1]
   show bS o (if o (p.getD 0 0) (p.getD (m-1) 0)=true then .ret (m,p)else _)=_
   rw[if_pos (hs 0 (m-1) (by omega) (by omega))]
   rfl
  ·rw[if_neg c1]
   have:m=1:=by omega
   subst this;exact Z1 T h hn (i4 (by omega))
theorem C1(T:iC n o)(h:Pm n p){k:Nat}(hk:k<n)(hs:fP o p k):∀f l r,l<=r->r<=k->r-l<=f->(∀i,i<l->o (p.getD i 0) (p.getD k 0)=true)->(∀i,r<=i->i<k->o (p.getD k 0) (p.getD i 0)=true) ->
  bS o (kas_place p k f l r)<=k/\(∀i,i<bS o (kas_place p k f l r)->o (p.getD i 0) (p.getD k 0)=true)/\(∀i,bS o (kas_place p k f l r)<=i->i<k->o (p.getD k 0) (p.getD i 0)=true)
 | 0,l,r,lr,rk,hf,a,b=>⟨by show l<=k;omega,a,λi hi=>b i (by have:l<=i:=hi;omega)⟩
 | f+1,l,r,lr,rk,hf,a,b=>by
  unfold kas_place
  split
  ·exact⟨by show l<=k;omega,a,λi hi=>b i (by have:l<=i:=hi;omega)⟩
  ·rename_i z
   have hm:(l+r) / 2<r/\l<=(l+r) / 2:=by omega
   generalize (l+r) / 2=m at *
   show bS o (if o (p.getD k 0) (p.getD m 0)=true then kas_place p k f l m else kas_place p k f (m+1) r)<=k/\(∀i,i<bS o (if o (p.getD k 0) (p.getD m 0)=true then kas_place p k f l m else kas_place p k f (m+1) r)->_)/\(∀i,bS o (if o (p.getD k 0) (p.getD m 0)=true then kas_place p k f l m else kas_place p k f (m+1) r)<=i->_)
   split
   ·rename_i c
    refine C1 T h hk hs f l m (by omega) (by omega) (by omega) a λi hi hik=>?_
    rcases wT m i with y | y
    ·exact T.tr _ _ _ (h.lt hk) (h.lt (by omega)) (h.lt (by omega)) c (hs m i y hik)
    ·have:i=m:=by omega
     subst this;exact c
   ·rename_i c
    have d:=T.rP _ _ (h.lt (i:=k) hk) (h.lt (i:=m) (by omega)) (h.ne hk (by omega) (by omega)) (by simpa using c);refine C1 T h hk hs f (m+1) r (by omega) rk (by omega) (λi hi=>?_) b;rcases wT i m with y | y
    ·exact T.tr _ _ _ (h.lt (by omega)) (h.lt (by omega)) (h.lt hk) (hs i m y (by omega)) d
    ·have:i=m:=by omega
     subst this;exact d
theorem OM(h:Pm n p){k l:Nat}(hk:k<n)(hl:l<=k)(i:Nat):(bubble p k (k-l)).getD i 0=if i=l then p.getD k 0 else if l<i/\i<=k then p.getD (i-1) 0 else p.getD i 0:=by
 rw[wM,getElem?_bubble (by rw[h.size];exact hk) _ (by omega),show k-(k-l)=l by omega]
 split
 ·rw[wM]
 ·split
  ·rw[wM]
  ·rw[wM]
theorem ML(T:iC n o):∀f (p:Array Nat) k,Pm n p->1<=k->k+f=n->fP o p k->fP o (bS o (kas_bin f p k)) n/\Pm n (bS o (kas_bin f p k))
 | 0,p,k,h,_,e,hs=>by
  have:k=n:=by omega
  subst this;exact⟨hs,h⟩
 | f+1,p,k,h,h1,e,hs=>by
  have hk:k<n:=by omega
  obtain⟨a,b,c⟩:=C1 T h hk hs k 0 k (by omega) (wu _) (by omega) (λi hi=>by omega) (λi hi hik=>by omega)
  show fP o (bS o ((kas_place p k k 0 k).bind λl=>kas_bin f (bubble p k (k-l)) (k+1))) n/\Pm n (bS o ((kas_place p k k 0 k).bind λl=>kas_bin f (bubble p k (k-l)) (k+1)))
  rw[md];generalize bS o (kas_place p k k 0 k)=l at *;refine ML T f _ (k+1) (h.Ls _ _) (by omega) (by omega) λi j hij hj=>?_
  rw[OM h hk a,OM h hk a]
  by_cases i1:i=l
  ·rw[if_pos i1,if_neg (by omega),if_pos (by omega)]
   exact c (j-1) (by omega) (by omega)
  ·rw[if_neg i1]
   by_cases i2:l<i/\i<=k
   ·rw[if_pos i2,if_neg (by omega),if_pos (by omega)]
    exact hs _ _ (by omega) (by omega)
   ·rw[if_neg i2]
    have hil:i<l:=by omega
    by_cases j1:j=l
    ·rw[if_pos j1]
     exact b i hil
    ·rw[if_neg j1]
     by_cases j2:l<j/\j<=k
     ·rw[if_pos j2]
      exact hs _ _ (by omega) (by omega)
     ·rw[if_neg j2]
      exact hs _ _ hij (by omega)
theorem Yl(T:iC n o)(hn:2<=n):fP o (bS o (kas_sort n)) n/\Pm n (bS o (kas_sort n)):=by
 obtain⟨r,q,e,r1,r2,hs,hq⟩:=zuO (p:=(wo n).toArray) T (by unfold Pm;simp) hn;unfold kas_sort;rw[md,e]
 show fP o (bS o (if r<n then kas_bin (n-max r 1) q (max r 1)else .ret q)) n/\Pm n (bS o (if r<n then kas_bin (n-max r 1) q (max r 1)else .ret q))
 rw[show max r 1=r by omega]
 split
 ·exact ML T _ q r hq r1 (by omega) hs
 ·have:r=n:=by omega
  subst this;exact⟨hs,hq⟩
end
def cM:List Int->List Int->Bool
 | [],[]=>false
 | [],_::_=>true
 | _::_,[]=>false
 | a::as,b::bs=>if a=b then cM as bs else decide (a<b)
theorem Rt:∀{as bs:List Int},as≠bs->cM as bs=false->cM bs as=true
 | [],[],h,_=>absurd rfl h
 | [],_::_,_,e=>by cases e
 | _::_,[],_,_=>rfl
 | a::as,b::bs,h,e=>by
  unfold cM at e ⊢
  by_cases z:a=b
  ·subst z
   rw[if_pos rfl]at e ⊢;exact Rt (λy=>h (by rw[y])) e
  ·rw[if_neg z]at e
   rw[if_neg (λy=>z y.symm)];have:=of_decide_eq_false e;exact decide_eq_true (by omega)
theorem A2:∀{as bs cs:List Int},cM as bs=true->cM bs cs=true->cM as cs=true
 | [],[],_,e,_=>by cases e
 | _::_,[],_,e,_=>by cases e
 | [],_::_,[],_,e=>by cases e
 | [],_::_,_::_,_,_=>rfl
 | _::_,_::_,[],_,e=>by cases e
 | a::as,b::bs,c::cs,e,f=>by
  unfold cM at e f ⊢
  by_cases z:a=b
  ·subst z
   rw[if_pos rfl]at e
   by_cases y:a=c
   ·subst y
    rw[if_pos rfl]at f ⊢;exact A2 e f
   ·rw[if_neg y]at f ⊢
    exact f
  ·rw[if_neg z]at e
   have e:=of_decide_eq_true e
   by_cases y:b=c
   ·subst y
    rw[if_neg z];exact decide_eq_true e
   ·rw[if_neg y]at f
    have f:=of_decide_eq_true f;rw[if_neg (by omega)];exact decide_eq_true (by omega)
theorem zzi{ks:List (List Int)}(nd:ks.Nodup):iC ks.length λi j=>cM (ks.getD i []) (ks.getD j []) where
 rP i j hi hj e h:=Rt (λz=>e (by
  rw[wa,wa,wc hi,wc hj]at z;exact(xH nd).mp z)) h
 tr _ _ _ _ _ _ h k:=A2 h k
section
variable{prog:wP}{w:wR}{A:vj}{E:we->wk->Prop}{s:wk}
def gP(h:wK)(v:we)(k:List Int):Prop:=∃a o its n,v=.ref a/\h.get? a=some o/\o.cls=.type "tuple"/\o.data=.seq its n/\qi its.toList k/\k≠[]
theorem gP.grow{h g:wK}{v:we}{k:List Int}(x:gP h v k)(e:∀b o,o.cls=.type "tuple" -> h.get? b=some o->g.get? b=some o):gP g v k:=by
 obtain⟨a,o,its,n,h1,h2,h3,r⟩:=x;exact⟨a,o,its,n,h1,e a o h3 h2,h3,r⟩
theorem YY{us:List we}{ns:List Int}(h:qi us ns):∀y∈us,∃i u,y=Value.int i u:=by
 induction h with
 | nil=>intro y hy;cases hy
 | cons n t _ ih =>
  intro y hy;rcases wE.mp hy with e | hy
  ·exact⟨n,t,e⟩
  ·exact ih y hy
theorem gP.tw{h:wK}{v:we}{k:List Int}(x:gP h v k):Tw h v:=by
 obtain⟨a,o,its,n,h1,h2,h3,h4,h5,h6⟩:=x;generalize e:its.toList=l at h5;cases h5 with
 | nil=>exact absurd rfl h6
 | cons x t r=>exact⟨a,o,its,n,x,t,_,h1,h2,h3,h4,e,YY r⟩
theorem Kz{b fin:Bool}{Q:Bool->wk->Prop} : ∀{xs ys:List we}{ks js:List Int},qi xs ks->qi ys js->fin=decide (ks.length<js.length)->∀i,Q (cM ks js) s->KatLex prog w A b fin Q (xs.zip ys) i s
 | _,_,_,_,.nil,.nil,e,_,q=>by subst e;exact q
 | _,_,_,_,.nil,.cons _ _ _,e,_,q=>by
  subst e
  show Q (decide (0<_+1)) s
  rw[decide_eq_true (by omega)];exact q
 | _,_,_,_,.cons _ _ _,.nil,e,_,q=>by
  subst e
  show Q (decide (_+1<0)) s
  rw[decide_eq_false (by omega)];exact q
 | _,_,_,_,.cons x t (ns:=ks) r,.cons y u (ns:=js) r',e,i,q=>by
  rw[List.zip_cons_cons];refine kat_cons (wpAny_eqBool_int ?_);refine kat_go (λz=>kat_yes (Kz r r' (by rw[e,vA,vA];exact decide_eq_decide.mpr (by omega)) (i+1) ?_)) λz=>kat_no ?_
  ·have z:x=y:=by simpa using z
   subst z;rw[cM,if_pos rfl]at q;exact q
  ·have z:¬ x=y:=by simpa using z
   rw[cM,if_neg z]at q;cases b&&i == 0
   ·exact kat_one _ _ (wpAny_lt_int q)
   ·exact oneLt_int q
theorem Yj{ks:List (List Int)}{a:wf}{vs:List we}{n:Nat}{P:ud->wk->Prop}(ho:s.heap.get? a=some (vV "list" vs.toArray n))(h2:2<=vs.length)(h64:vs.length<64)(hkl:ks.length=vs.length)(nd:ks.Nodup)(ht:∀i,i<vs.length->gP s.heap (vs.getD i Value.none) (ks.getD i []))
  (q:∀(g:wK)(p:Array Nat)(c:Nat),Pm vs.length p->fP (λi j=>cM (ks.getD i []) (ks.getD j [])) p vs.length->g.get? a=some (vV "list" (QZ (p.toList.map λi=>vs.getD i Value.none)) c)->(∀b o,b≠a->s.heap.get? b=some o->g.get? b=some o)->P (.done (.ret .none)) {s with heap:=g}) :
  wA (model prog w) A (Builtin.«list.sort» ⟨[.ref a],[]⟩) P E s:=by
 have al:a<s.heap.objs.size:=wF ho;have sb:=WR s.heap a (vM λ_=>(#[]:Array we));obtain⟨e1,ho1⟩:∃e1,(s.heap.update a (vM λ_=>(#[]:Array we))).get? a=some (vV "list" #[] e1):=⟨_,get?_update_seq ho λ_=>#[]⟩
 have kp:∀b o,b≠a->s.heap.get? b=some o->(((s.heap.update a (vM λ_=>(#[]:Array we))).push (vV "tuple" vs.toArray 0)).push (vV "list" #[] 0)).get? b=some o:=λb o hb e =>
  wj _ (wj _ ((sb.2 b hb).trans e))
 have ho3:(((s.heap.update a (vM λ_=>(#[]:Array we))).push (vV "tuple" vs.toArray 0)).push (vV "list" #[] 0)).get? a=some (vV "list" #[] e1):=wj _ (wj _ ho1)
 have kt:∀b o,o.cls=.type "tuple" -> s.heap.get? b=some o->(((s.heap.update a (vM λ_=>(#[]:Array we))).push (vV "tuple" vs.toArray 0)).push (vV "list" #[] 0)).get? b=some o:=λb o hc e=>by
  refine kp b o (λz=>?_) e;subst z;rw[ho]at e;cases e;exact absurd (UE hc) (by decide)
 have ht3:∀i,i<vs.length->gP (((s.heap.update a (vM λ_=>(#[]:Array we))).push (vV "tuple" vs.toArray 0)).push (vV "list" #[] 0)) (vs.getD i Value.none) (ks.getD i []):=λi hi=>(ht i hi).grow kt
 have nz:¬ vs.toArray.size<2:=by rw[wG];omega
 rw[list_sort_plain];refine wg (listItems_at ho rfl ?_);refine wg (listUpdate_at ho rfl ?_ (by rw[wG,Wy];omega) (Wg _));refine wg (seqEpoch_at ho1 rfl ?_);refine wg (wpAny_newTuple ?_ (by show vs.length<=_;rw[Wy];omega));refine wg (wpAny_newList ?_ (Wg _));refine WA ?_
 show wA (model prog w) A _ P E {s with heap:=((s.heap.update a (vM λ_=>(#[]:Array we))).push (vV "tuple" vs.toArray 0)).push (vV "list" #[] 0)}
 dsimp only;rw[if_neg nz,if_neg nz];generalize ((s.heap.update a (vM λ_=>(#[]:Array we))).push (vV "tuple" vs.toArray 0)).push (vV "list" #[] 0)=g at *
 obtain⟨fs,f1,f2,f3⟩:=NH vs λv hv=>by
  obtain⟨i,hi,rfl⟩:=Wj hv;have:=(ht3 i hi).tw;rw[wa,wc hi]at this;exact this
 refine wg (kat_kind (s:={s with heap:=g}) (T:=.type "int") f1 (by omega) (λv hv=>?_) (by decide) ?_)
 ·obtain⟨i,t,rfl⟩:=f3 v hv
  exact .now
 ·refine wg (WC (kat_run (s:={s with heap:=g}) (Q:=λst' s'=>∃p:Array Nat,s' = {s with heap:=g}/\(fP (λi j=>cM (ks.getD i []) (ks.getD j [])) p vs.length/\Pm vs.length p)/\arrOf st'=p.map (kas_item (vs.toArray.zip vs.toArray))/\failedOf st'=none)
   rfl h2 h64 (λp st' s' a1 a2 a3 a4=>⟨p,a4.1,a4.2,a2,a3⟩) (G:=λp s'=>s' = {s with heap:=g}/\(fP (λi j=>cM (ks.getD i []) (ks.getD j [])) p vs.length/\Pm vs.length p)) ?_) ?_ λ_ _ e=>e)
  ·refine(zuJ (n:=vs.length) (by omega)).To (o:=λi j=>cM (ks.getD i []) (ks.getD j [])) (λi j C hi hj hc=>?_) ⟨rfl,by rw[<- hkl];exact Yl (zzi nd) (by omega)⟩
   obtain⟨x,ox,xs,nx,x1,x2,_,x3,x4,_⟩:=ht3 i hi;obtain⟨y,oy,ys,ny,y1,y2,_,y3,y4,_⟩:=ht3 j hj;unfold kas_ask;rw[x1,y1];refine kat_lt (s:={s with heap:=g}) x2 x3 y2 y3 (Kz x4 y4 ?_ 0 hc);rw[<- wD,<- wD,x4.length,y4.length]
  ·rintro ⟨⟨⟩,st'⟩ s' ⟨p,rfl,⟨hso,hp⟩,har,hf⟩
   dsimp only;have ps:p.size=vs.length:=by rw[<- wD,hp.length_eq,vi]
   rw[kat_snds rfl har];refine wg (seqEpoch_at (s:={s with heap:=g}) ho3 rfl ?_);refine wg (listUpdate_at (s:={s with heap:=g}) ho3 rfl ?_ (Wg _) (by rw[wG,wd,wD,ps,Wy];omega));rw[hf];simp only[bne_self_eq_false,vq,if_false];have sb2:=WR g a (vM λ_=>QZ (p.toList.map λi=>vs.getD i Value.none));refine wp (q _ p _ hp hso (get?_update_seq ho3 λ_=>QZ (p.toList.map λi=>vs.getD i Value.none)) λb o hb e=>(sb2.2 b hb).trans (kp b o hb e))
theorem zq6{ks:List (List Int)}{a:wf}{vs:List we}{n:Nat}{P:ud->wk->Prop}(ho:s.heap.get? a=some (vV "list" vs.toArray n))(h64:vs.length<64)(hkl:ks.length=vs.length)(nd:ks.Nodup)(ht:∀i,i<vs.length->gP s.heap (vs.getD i Value.none) (ks.getD i []))
  (q:∀(g:wK)(ps:List Nat)(c:Nat),ps.Perm (wo vs.length)->(ps.map λi=>ks.getD i []).Pairwise (λx y=>cM x y=true)->g.get? a=some (vV "list" (QZ (ps.map λi=>vs.getD i Value.none)) c)->(∀b o,b≠a->s.heap.get? b=some o->g.get? b=some o)->P (.done (.ret .none)) {s with heap:=g}) :
  wA (model prog w) A (Builtin.«list.sort» ⟨[.ref a],[]⟩) P E s:=by
 rcases wT vs.length 2 with h | h
 ·refine zve ho h λg c h1 h2=>q g (wo vs.length) c (.refl _) ?_ (by rw[OC];exact h1) h2
  match ks,hkl with
  | [],e=>rw[<- e];exact .nil
  | [k],e=>rw[<- e];exact List.pairwise_singleton _ _
  | _::_::_,e=>rw[vA,vA]at e;omega
 ·refine Yj ho h h64 hkl nd ht λg p c h1 hs h2 h3=>q g p.toList c h1 ?_ h2 h3
  rw[WF,qX];intro i j hi hj hij;have sz:=h1.size;have:=hs i j hij (by rw[wD]at hj;omega);rw[wM,wM,vH (by rw[wD]at hi;omega),vH (by rw[wD]at hj;omega)]at this;exact this
theorem zqK{l:wf}{o:Obj}{T:String}{n:Nat}{vs:List we}{Q:List we->wk->Prop}(hT:T="list"\/T="tuple")(ho:s.heap.get? l=some o)(hc:o.cls=.type T)(hd:o.data=.seq vs.toArray n)
  (h:Q vs {s with heap:=(s.heap.push (vV "list" #[] 0)).update s.heap.objs.size (vM (· ++ vs.toArray))}) (hsz:vs.length<=wY) :
  wA (model prog w) A (collect (.ref l)) Q E s:=by
 unfold collect;refine wg (wpAny_runValue (VG PySem.F.entry_proto_collect ?_));rw[VR PySem.F.plain_proto_collect _]
 show wA _ A.in1 (newList [] >>= λx=>again (.builtin "list.__iadd__" ⟨[x,.ref l],[]⟩)) _ _ s
 refine wg (wpAny_newList (wp ⟨plainId_quiet xU _,VG PySem.F.entry_list_iadd ?_⟩));rw[VR xU _]
 show wA _ A.in1 (xn (.ref s.heap.objs.size) (.ref l) (.ref s.heap.objs.size)) _ _ {s with heap:=s.heap.push (vV "list" #[] 0)}
 unfold xn;have ho':(s.heap.push (vV "list" #[] 0)).get? l=some o:=wj _ ho;refine wg (wpAny_typeOf (T:=T) ⟨o,ho',hc⟩ ?_);have hT2:(Value.type T == Value.type "list" || Value.type T == Value.type "tuple")=true:=by rcases hT with rfl | rfl<;>rfl
 rw[if_pos (by rw[Bool.or_assoc,hT2,U2])];refine wg (listItems_at ho' hd ?_);refine wg (listItems_at (xs:=#[]) (n:=0) (wC _ rfl) rfl ?_);rw[if_neg (by simp)];refine wg (listUpdate_at (xs:=#[]) (n:=0) (wC _ rfl) rfl ?_ (Wg _) (by show(#[]++vs.toArray).size<=wY+1;simp only[Array.size_append,wG,qY];omega));refine wp ?_
 show wA (model prog w) A (load s.heap.objs.size >>= _) Q E {s with heap:=(s.heap.push (vV "list" #[] 0)).update s.heap.objs.size (vM (· ++ vs.toArray))}
 refine wg (wpAny_load (get?_update_seq (wC _ rfl) _) ?_)
 show wA _ _ (pure ((#[]:Array we)++vs.toArray).toList) Q E _
 rw[show((#[]:Array we)++vs.toArray).toList=vs by simp];exact wp h
theorem Sm{ks:List (List Int)}{a:wf}{o:Obj}{T:String}{m:Nat}{vs:List we}(hT:T="list"\/T="tuple")(ho:s.heap.get? a=some o)(hc:o.cls=.type T)(hd:o.data=.seq vs.toArray m)(h64:vs.length<64)(hkl:ks.length=vs.length)(nd:ks.Nodup)(ht:∀i,i<vs.length->gP s.heap (vs.getD i Value.none) (ks.getD i [])){Q:we->wk->Prop}
  (q:∀(l:wf)(g:wK)(ps:List Nat)(c:Nat),ps.Perm (wo vs.length)->(ps.map λi=>ks.getD i []).Pairwise (λx y=>cM x y=true)->s.heap.objs.size<=l->g.get? l=some (vV "list" (QZ (ps.map λi=>vs.getD i Value.none)) c)->(∀b o,s.heap.get? b=some o->g.get? b=some o)->Q (.ref l) {s with heap:=g}) :
  wA (model prog w) A (call (.builtin "sorted") [.ref a]) Q E s:=by
 refine Calls.call_function_entry kind_sorted plain_sorted entry_sorted (args_sorted1 _) ?_;unfold Builtin.«sorted»;refine wg (m:=checkCount "sorted" 1 1 _) (wp ?_);refine wg (zqK hT ho hc hd ?_ (by rw[Wy];omega))
 have kp:∀b o,s.heap.get? b=some o->((s.heap.push (vV "list" #[] 0)).update s.heap.objs.size (vM (· ++ vs.toArray))).get? b=some o:=λb o e =>
  ((WR (s.heap.push (vV "list" #[] 0)) s.heap.objs.size (vM (· ++ vs.toArray))).2 b (ve (wF e))).trans (wj _ e)
 have sz:((s.heap.push (vV "list" #[] 0)).update s.heap.objs.size (vM (· ++ vs.toArray))).objs.size=s.heap.objs.size+1:=by
  rw[Heap.size_update,Wf]
 show wA (model prog w) A.in1 _ _ E {s with heap:=(s.heap.push (vV "list" #[] 0)).update s.heap.objs.size (vM (· ++ vs.toArray))}
 generalize (s.heap.push (vV "list" #[] 0)).update s.heap.objs.size (vM (· ++ vs.toArray))=h' at *;have tw:∀i,i<vs.length->gP (h'.push (vV "list" vs.toArray 0)) (vs.getD i Value.none) (ks.getD i []):=λi hi=>(ht i hi).grow λb o _ ho=>wj _ (kp b o ho)
 refine wg (wpAny_newList ?_ (by rw[Wy];omega));have hoL:(h'.push (vV "list" vs.toArray 0)).get? h'.objs.size=some (vV "list" vs.toArray 0):=wC _ rfl;refine wg (WA (WN slot_list_sort ⟨_,hoL,rfl⟩ entry_list_sort (zq6 (s:={s with heap:=h'.push (vV "list" vs.toArray 0)}) hoL h64 hkl nd tw λg ps c h1 hs h2 h3=>⟨_,rfl,?_⟩) (args_list_sort _)));exact wp ⟨_,rfl,q _ g ps c h1 hs (by show s.heap.objs.size<=h'.objs.size;omega) h2 λb o e=>h3 b o (ve (wF (kp b o e))) (wj _ (kp b o e))⟩
end
end TB
namespace L2
open PySem PySem.Spec PyProof.Rows GM
def yK(K:wb):List V->Hp->VK->Prop:=λxs H Q=>∃(p:wf)(ws:List V)(ks:List (List Int)),xs=[.ref p]/\(aG K H p ws\/aF K H p ws)/\ws.length<64/\ks.Nodup/\(∀k∈ks,k≠[])/\ag K H ws (ks.map TZ) /\ ∀(l:wf)(ps:List Nat),H l=none->ps.Perm (wo ws.length)->(ps.map λi=>ks.getD i []).Pairwise (λx y=>TB.cM x y=true)->Q (.ref l) (upd H l (.lst (ps.map λi=>ws.getD i .aZ)))
theorem Inv.twK{X:Cx}{pins:List (wf × Obj)}{σ : List (Option V)}{H:Hp}{s:wk}(I:Inv X pins σ H s){q:wf}{k:List Int}(h:aF X.K H q (k.map V.int))(hk:k≠[]):TB.gP s.heap (.ref q) k:=by
 obtain⟨its,r,⟨o,e,hc,n,hd⟩,_⟩:=I.tuple h;exact⟨q,o,its.toArray,n,rfl,e,hc,hd,by simpa using yh r,hk⟩
theorem Jd{X:Cx} : ay X (.builtin "sorted") (yK X.K):=by
 intro pins s σ H xs us Q I r h;obtain⟨p,ws,ks,rfl,hp,h64,nd,hk,t,q⟩:=h;obtain⟨u,rfl,rx⟩:=fC r;cases rx;have hkl:ks.length=ws.length:=by rw[t.length,wd]
 obtain⟨its,r',o,T,m,hT,ho,hc,hd⟩:∃(its:List we),aI ws its /\ ∃(o:Obj)(T:String)(m:Nat),(T="list"\/T="tuple")/\s.heap.get? p=some o/\o.cls=.type T/\o.data=.seq its.toArray m:=by
  rcases hp with hp | hp
  ·obtain⟨its,r',pl,_⟩:=I.list hp
   obtain⟨o,ho,hc,n,hd⟩:=pl.isList;exact⟨its,r',o,"list",n,.inl rfl,ho,hc,hd⟩
  ·obtain⟨its,r',⟨o,ho,hc,n,hd⟩,_⟩:=I.tuple hp
   exact⟨its,r',o,"tuple",n,.inr rfl,ho,hc,hd⟩
 have hl:=r'.length
 have at_:∀i,i<its.length->∃a,its.getD i Value.none=.ref a/\ws.getD i .aZ=.ref a/\aF X.K H a ((ks.getD i []).map V.int)/\ks.getD i []≠[]:=λi hi=>by
  obtain⟨x,hx,hxr⟩:=Paired.back r' (wc hi);obtain⟨hj,ix⟩:=cQ t hx;rw[wd]at hj;have ek:ks.getD i []=ks[i]:=by rw[wa,wc hj];rfl
  rw[wa,wz,wc hj]at ix;obtain⟨a,rfl,hs⟩:=eY.mp (show Is X.K H x (TZ ks[i])from ix);refine⟨a,?_,?_,by rw[ek];exact hs,by rw[ek];exact hk _ (vc hj)⟩
  ·rw[wa,wc hi]
   exact hxr
  ·rw[wa,hx];rfl
 refine TB.Sm hT ho hc hd (by omega) (by omega) nd (λi hi=>?_) λl g ps c pm so hle hg kp=>?_
 ·obtain⟨a,e1,_,hs,h0⟩:=at_ i hi
  rw[e1];exact I.twK hs h0
 ·have hm:∀i∈ps,i<its.length:=λi hi=>wB.mp (pm.mem_iff.mp hi)
  have hu:∀u∈ps.map (λi=>its.getD i Value.none),∃a,u=.ref a:=λu hu=>by
   obtain⟨i,hi,rfl⟩:=wQ.mp hu;obtain⟨a,e1,_⟩:=at_ i (hm i hi);exact⟨a,e1⟩
  have ew:(ps.map λi=>its.getD i Value.none).map my=ps.map λi=>ws.getD i .aZ:=by
   rw[W3];refine vU λi hi=>?_
   obtain⟨a,e1,e2,_⟩:=at_ i (hm i hi)
   show my (its.getD i Value.none)=ws.getD i .aZ
   rw[e1,e2];rfl
  have hpl:ps.length=its.length:=by rw[pm.length_eq,vi]
  refine⟨.ref l,_,I.laid (t':=s.toks) kp hle (show cz X.prog X.w _ _ _ (.lst (ps.map λi=>ws.getD i .aZ))from⟨?_,_,c,?_,hg⟩),rfl,q l ps (I.aB.fresh hle) (by rw[hl];exact pm) so⟩
  ·rw[wd,hpl]
   exact VX (jG (by omega))
  ·rw[<- ew]
   exact CI _ hu
def fV(ks:List (List Int)):Prop:=ks.Pairwise λx y=>TB.cM x y=true
theorem MX:∀x:List Int,TB.cM x x=false
 | []=>rfl
 | a::as=>by rw[TB.cM,if_pos rfl];exact MX as
theorem fV.uniq:∀{xs ys:List (List Int)},fV xs->fV ys->xs.Perm ys->xs=ys
 | [],ys,_,_,p=>by rw[UL.mp p]
 | x::xs,[],_,_,p=>absurd p.length_eq (by simp)
 | x::xs,y::ys,hx,hy,p=>by
  obtain⟨x1,x2⟩:=xl.mp hx;obtain⟨y1,y2⟩:=xl.mp hy
  have e:x=y:=by
   rcases wE.mp (p.mem_iff.mp (wN ..):x∈y::ys)with z | z
   ·exact z
   ·rcases wE.mp (p.mem_iff.mpr (wN ..):y∈x::xs)with w | w
    ·exact w.symm
    ·have:=TB.A2 (x1 y w) (y1 x z)
     rw[MX]at this;cases this
  subst e;rw[fV.uniq x2 y2 (List.perm_cons x |>.mp p)]
theorem zuq{α : Type}{ks:List α}{d : α}{ps:List Nat}{n:Nat}(h:ps.Perm (wo n))(hn:ks.length=n):(ps.map λi=>ks.getD i d).Perm ks:=by
 have:=h.map λi=>ks.getD i d
 rw[show(wo n).map (λi=>ks.getD i d)=ks from vQ (by rw[wd,vi,hn]) λi h1 h2=>by
  rw[vJ,Vm,wa,wc h2];rfl]at this
 exact this
theorem Mi{K:wb}{H:Hp}{Q:VK}{v:V}{ks:List (List Int)}(h:Is K H v (.list (ks.map TZ))\/Is K H v (.tuple (ks.map TZ)))(z:ks.length<64)(nd:ks.Nodup)(hk:∀k∈ks,k≠[])(q:∀(l:wf)(H':Hp)(us:List V)(js:List (List Int)),H l=none->af H H'->H' l=some (.lst us)->js.Perm ks->fV js->ag K H' us (js.map TZ)->Q (.ref l) H'):yK K [v] H Q:=by
 have h:∃p ws,v=.ref p/\(aG K H p ws\/aF K H p ws)/\ag K H ws (ks.map TZ):=by
  rcases h with h | h
  ·obtain⟨p,ws,rfl,hs,t⟩:=aW.mp h
   exact⟨p,ws,rfl,.inl hs,t⟩
  ·obtain⟨p,ws,rfl,hs,t⟩:=bz.mp h
   exact⟨p,ws,rfl,.inr hs,t⟩
 obtain⟨p,ws,rfl,hs,t⟩:=h;have hl:=t.length;rw[wd]at hl;refine⟨p,ws,ks,rfl,hs,by omega,nd,hk,t,λl ps hn pm so=>?_⟩;refine q l _ _ (ps.map λi=>ks.getD i []) hn (af.upd hn) bW (zuq pm hl.symm) so (ag.same (af.upd hn) _ _ ?_);rw[W3];have hm:∀i∈ps,i<ks.length:=λi hi=>by have:=wB.mp (pm.mem_iff.mp hi);omega
 clear pm so
 induction ps with
 | nil=>exact .nil
 | cons i ps ih =>
  refine .cons ?_ (ih λj hj=>hm j (wI _ hj));have hi:=hm i (wN ..);obtain⟨_,ix⟩:=cQ t (show ws[i]? = some (ws.getD i .aZ) by rw[wa,wc (by omega)];rfl);rw[wa (l:=Q9 _ _),wz,wc hi]at ix
  show Is K H _ (TZ (ks.getD i []))
  rw[wa (l:=ks),wc hi];exact ix
end L2
namespace G
open PySem PySem.Spec PyProof.Rows L2 GM
local macro_rules | `(tactic| wtm_at "sc")=>`(tactic| exact ⟨rfl,rfl,rfl,by decide +kernel,rfl,by decide +kernel,by decide +kernel⟩)
def top(i:Nat):vD:=Vp.main.body.getD i (.Pass ⟨0,0,0,0⟩)
abbrev B1:vD:=top 10
abbrev EK:List Str:=["thing"]
abbrev sS:=EK
theorem zqv:aQ EK sS (au B1):=by wtm_at "sc"
abbrev DY:vD:=top 11
abbrev Dx:List Str:=["least","most","thing"]
abbrev yH:=Dx
theorem ZV:aQ Dx yH (au DY):=by wtm_at "sc"
abbrev Ez:vD:=top 12
abbrev MW:List Str:=["one","other","rest"]
abbrev Ao:List Str:=["one","other"]
theorem tT:aQ MW Ao (au Ez):=by wtm_at "sc"
abbrev Cf:vD:=top 13
abbrev Es:List Str:=["thing"]
abbrev Ar:=Es
theorem zom:aQ Es Ar (au Cf):=by wtm_at "sc"
abbrev Ec:vD:=top 14
abbrev Ky:List Str:=["one","other","shared","top","divisor"]
abbrev Ai:List Str:=["one","other"]
theorem As:aQ Ky Ai (au Ec):=by wtm_at "sc"
abbrev Cg:vD:=top 15
abbrev Eu:List Str:=["one","other"]
abbrev zk:=Eu
theorem Yy:aQ Eu zk (au Cg):=by wtm_at "sc"
abbrev C6:vD:=top 16
abbrev K_:List Str:=["one","other","first","second"]
abbrev zF:List Str:=["one","other"]
theorem Ei:aQ K_ zF (au C6):=by wtm_at "sc"
abbrev EF:vD:=top 17
abbrev Bz:List Str:=["one","other"]
abbrev zI:=Bz
theorem zx7:aQ Bz zI (au EF):=by wtm_at "sc"
abbrev Dg:vD:=top 22
abbrev EH:List Str:=["a"]
abbrev Ax:=EH
theorem zoI:aQ EH Ax (au Dg):=by wtm_at "sc"
abbrev EC:vD:=top 23
abbrev BE:List Str:=["b"]
abbrev sG:=BE
theorem zqE:aQ BE sG (au EC):=by wtm_at "sc"
abbrev D_:vD:=top 24
abbrev DS:List Str:=["a","b"]
abbrev y_:=DS
theorem zok:aQ DS y_ (au D_):=by wtm_at "sc"
abbrev ED:vD:=top 25
abbrev Dk:List Str:=["thing"]
abbrev AD:=Dk
theorem zrs:aQ Dk AD (au ED):=by wtm_at "sc"
abbrev Ff:vD:=top 26
abbrev BJ:List Str:=["rule"]
abbrev yf:=BJ
theorem YK:aQ BJ yf (au Ff):=by wtm_at "sc"
abbrev Ek:vD:=top 27
abbrev Q_:List Str:=["rule","many","factor","shift","done"]
abbrev rF:List Str:=["rule","many"]
theorem mm:aQ Q_ rF (au Ek):=by wtm_at "sc"
abbrev Et:vD:=top 28
abbrev Ew:List Str:=["push","x"]
abbrev yi:=Ew
theorem Y8:aQ Ew yi (au Et):=by wtm_at "sc"
abbrev Fi:vD:=top 35
abbrev Ck:List Str:=["thing"]
abbrev rA:=Ck
theorem Yr:aQ Ck rA (au Fi):=by wtm_at "sc"
abbrev Af:vD:=top 36
abbrev tf:List Str:=["least","most","thing"]
abbrev Az:=tf
theorem Tr:aQ tf Az (au Af):=by wtm_at "sc"
abbrev Fb:vD:=top 37
abbrev BO:List Str:=["thing"]
abbrev sR:=BO
theorem zmx:aQ BO sR (au Fb):=by wtm_at "sc"
abbrev z8:vD:=top 38
abbrev zM:List Str:=["thing","rounds"]
abbrev sC:=zM
theorem ZZ:aQ zM sC (au z8):=by wtm_at "sc"
abbrev B_:vD:=top 39
abbrev Ed:List Str:=["thing","worms"]
abbrev yW:=Ed
theorem zuS:aQ Ed yW (au B_):=by wtm_at "sc"
abbrev zev:vD:=top 40
abbrev pA:List Str:=["thing","worms"]
abbrev zm:=pA
theorem zpH:aQ pA zm (au zev):=by wtm_at "sc"
abbrev pe:vD:=top 41
abbrev oG:List Str:=["rounds","ups","ties"]
abbrev sZ:=oG
theorem zt1:aQ oG sZ (au pe):=by wtm_at "sc"
abbrev tL:vD:=top 42
abbrev ya:List Str:=["thing","rounds"]
abbrev sf:=ya
theorem zjj:aQ ya sf (au tL):=by wtm_at "sc"
abbrev rC:vD:=top 43
abbrev x_:List Str:=["web"]
abbrev zN:=x_
theorem zl9:aQ x_ zN (au rC):=by wtm_at "sc"
abbrev zO:vD:=top 44
abbrev yx:List Str:=["web","phases"]
abbrev zd:=yx
theorem zqm:aQ yx zd (au zO):=by wtm_at "sc"
abbrev zX:vD:=top 46
abbrev An:List Str:=["thing","worms"]
abbrev tH:=An
theorem zqt:aQ An tH (au zX):=by wtm_at "sc"
abbrev Bb:vD:=top 47
abbrev Nq:List Str:=["order","things","told","worm","thing"]
abbrev zx:List Str:=["order","things"]
theorem AI:aQ Nq zx (au Bb):=by wtm_at "sc"
abbrev Bc:vD:=top 48
abbrev C2:List Str:=["swarm","order"]
abbrev sr:=C2
theorem zor:aQ C2 sr (au Bc):=by wtm_at "sc"
abbrev yR:vD:=top 49
abbrev BK:List Str:=["web","order","ties"]
abbrev u_:List Str:=["web","order"]
theorem KJ:aQ BK u_ (au yR):=by wtm_at "sc"
abbrev tU:vD:=top 50
abbrev yP:List Str:=["stand","order"]
abbrev rD:=yP
theorem zik:aQ yP rD (au tU):=by wtm_at "sc"
abbrev BX:vD:=top 51
abbrev RH:List Str:=["numbers","count","one"]
abbrev z_:List Str:=["numbers"]
theorem tI:aQ RH z_ (au BX):=by wtm_at "sc"
abbrev En:vD:=top 52
abbrev Er:List Str:=["count","one"]
abbrev rH:=Er
theorem zmc:aQ Er rH (au En):=by wtm_at "sc"
abbrev z9:vD:=top 53
abbrev C3:List Str:=["worms","told","worm"]
abbrev zg:List Str:=["worms"]
theorem Cj:aQ C3 zg (au z9):=by wtm_at "sc"
abbrev zR:vD:=top 54
abbrev DF:List Str:=["swarm","count","ups","worms","web"]
abbrev rG:List Str:=["swarm"]
theorem nH:aQ DF rG (au zR):=by wtm_at "sc"
abbrev Cn:vD:=top 58
abbrev EI:List Str:=["thing"]
abbrev tQ:=EI
theorem ZS:aQ EI tQ (au Cn):=by wtm_at "sc"
abbrev Au:vD:=top 59
abbrev rJ:List Str:=["thing"]
abbrev yg:=rJ
theorem Ti:aQ rJ yg (au Au):=by wtm_at "sc"
abbrev C7:vD:=top 60
abbrev EM:List Str:=["rule","phases"]
abbrev zD:=EM
theorem zpu:aQ EM zD (au C7):=by wtm_at "sc"
abbrev DX:vD:=top 61
abbrev M5:List Str:=["phases","told","phase"]
abbrev yu:List Str:=["phases"]
theorem zt:aQ M5 yu (au DX):=by wtm_at "sc"
abbrev yQ:vD:=top 62
abbrev tO:List Str:=["worms","phases"]
abbrev za:=tO
theorem zmH:aQ tO za (au yQ):=by wtm_at "sc"
abbrev mR:vD:=top 63
abbrev n_:List Str:=["swarm","wait","phases","left","waves","wave","push","worm","anew"]
abbrev zh:List Str:=["swarm"]
theorem gL:aQ n_ zh (au mR):=by wtm_at "sc"
abbrev BD:vD:=top 65
abbrev Kq:List Str:=["swarm","many","rows","hour","stand","done","told"]
abbrev rT:List Str:=["swarm","many"]
theorem ke:aQ Kq rT (au BD):=by wtm_at "sc"
abbrev ET:vD:=top 67
abbrev Lq:List Str:=["count","ups","phase","many","done"]
abbrev yp:List Str:=["count","ups","phase","many"]
theorem Bm:aQ Lq yp (au ET):=by wtm_at "sc"
abbrev sF:vD:=top 68
abbrev yS:List Str:=["web","worms","phases"]
abbrev sN:=yS
theorem zxq:aQ yS sN (au sF):=by wtm_at "sc"
abbrev Al:vD:=top 69
abbrev ze:List Str:=["web","worms"]
abbrev yZ:=ze
theorem zoN:aQ ze yZ (au Al):=by wtm_at "sc"
abbrev tW:vD:=top 70
abbrev yI:List Str:=["ties","worm","delay"]
abbrev zu:=yI
theorem zp5:aQ yI zu (au tW):=by wtm_at "sc"
abbrev zT:vD:=top 71
abbrev Cv:List Str:=["web","coming","glowed","ties","told","delay","row"]
abbrev Ab:List Str:=["web","coming","glowed"]
theorem nT:aQ Cv Ab (au zT):=by wtm_at "sc"
abbrev DB:vD:=top 72
abbrev O0:List Str:=["web","stand","told","worm","many"]
abbrev z7:List Str:=["web","stand"]
theorem tN:aQ O0 z7 (au DB):=by wtm_at "sc"
abbrev mK:vD:=top 73
abbrev oq:List Str:=["web","stand","phases","worms","left","waves","wave","ties","worm","anew","glowed"]
abbrev sP:List Str:=["web","stand"]
theorem gy:aQ oq sP (au mK):=by wtm_at "sc"
abbrev DW:vD:=top 74
abbrev RA:List Str:=["web","stand","many","told","ahead","count","both"]
abbrev zG:List Str:=["web","stand","many"]
theorem mn:aQ RA zG (au DW):=by wtm_at "sc"
abbrev CQ:vD:=top 75
abbrev Jr:List Str:=["web","stand","many","told","done"]
abbrev zQ:List Str:=["web","stand","many"]
theorem yn:aQ Jr zQ (au CQ):=by wtm_at "sc"
abbrev BZ:vD:=top 77
abbrev Nv:List Str:=["web","stand","most","stands","turns","ahead","first"]
abbrev tE:List Str:=["web","stand","most"]
theorem ml:aQ Nv tE (au BZ):=by wtm_at "sc"
abbrev EN:vD:=top 79
abbrev Od:List Str:=["_law_script","_law_k","_law_cell"]
abbrev rQ:List Str:=["_law_script","_law_k"]
theorem Dc:aQ Od rQ (au EN):=by wtm_at "sc"
abbrev EA:vD:=top 80
abbrev Lp:List Str:=["_law_pen_here","_law_many","_law_digit","_law_mixed"]
abbrev AF:List Str:=["_law_pen_here","_law_many"]
theorem EV:aQ Lp AF (au EA):=by wtm_at "sc"
abbrev zj:vD:=top 81
abbrev Di:List Str:=["_law_pen_here","_law_many","_law_great","_law_left","_law_delay","_law_a","_law_near","_law_ties_here","_law_k"]
abbrev sE:List Str:=["_law_pen_here","_law_many","_law_great"]
theorem kb:aQ Di sE (au zj):=by wtm_at "sc"
abbrev oK:vD:=top 82
abbrev tF:List Str:=["_law_pen_here","_law_most","_law_great","_law_many","_law_sizes","_law_ups","_law_size","_law_high"]
abbrev Ak:List Str:=["_law_pen_here","_law_most"]
theorem kB:aQ tF Ak (au oK):=by wtm_at "sc"
abbrev BB:vD:=top 83
abbrev L8:List Str:=["_law_pen_here","_law_web_here","_law_way","_law_found","_law_size","_law_drawn"]
abbrev rX:List Str:=["_law_pen_here","_law_web_here"]
theorem oX:aQ L8 rX (au BB):=by wtm_at "sc"
abbrev rY:vD:=top 84
abbrev CU:List Str:=["_law_pen_here","_law_many","_law_left"]
abbrev Ah:List Str:=["_law_pen_here","_law_many"]
theorem M8:aQ CU Ah (au rY):=by wtm_at "sc"
abbrev CJ:vD:=top 85
abbrev Pu:List Str:=["_law_top","_law_bottom","_law_one","_law_other"]
abbrev sJ:List Str:=["_law_top","_law_bottom"]
theorem Ce:aQ Pu sJ (au CJ):=by wtm_at "sc"
abbrev lX:vD:=top 86
abbrev sx:List Str:=["_law_waves","_law_order_here"]
abbrev zo:=sx
theorem zrn:aQ sx zo (au lX):=by wtm_at "sc"
abbrev Dp:vD:=top 87
abbrev C8:List Str:=["_law_web_here","_law_stand"]
abbrev sW:=C8
theorem zoG:aQ C8 sW (au Dp):=by wtm_at "sc"
abbrev kD:vD:=top 88
abbrev yy:List Str:=["_law_script","_law_drawn","_law_web_here","_law_pen_here","_law_stand","_law_order_here","_law_many","_law_other","_law_there","_law_due","_law_mine","_law_yours"]
abbrev zE:List Str:=["_law_script"]
theorem gw:aQ yy zE (au kD):=by wtm_at "sc"
abbrev tK:vD:=top 89
abbrev Fh:List Str:=["_law_swarm","_law_order_here","_law_rows","_law_found","_law_row","_law_other","_law_moved_phases"]
abbrev AJ:List Str:=["_law_swarm","_law_order_here","_law_rows"]
theorem oZ:aQ Fh AJ (au tK):=by wtm_at "sc"
abbrev jt:vD:=top 90
abbrev kx:List Str:=["_law_script","_law_pen_here","_law_many","_law_count","_law_parts","_law_bottom","_law_rule","_law_swarm","_law_rows","_law_web_here","_law_stand","_law_size","_law_due","_law_last"]
abbrev zJ:List Str:=["_law_script"]
theorem fQ:aQ kx zJ (au jt):=by wtm_at "sc"
set_option genInjectivity false in
structure Ad where
 HE:wf
 Gy:wJ
 FR:wf
 Fy:wJ
 Fx:wf
 Fo:wJ
 Hf:wf
 FZ:wJ
 plus:wf
 HN:wJ
 minus:wf
 Hu:wJ
 times:wf
 Ht:wJ
 less:wf
 HW:wJ
 Hc:wf
 F6:wJ
 Hv:wf
 Gu:wJ
 Hg:wf
 F8:wJ
 HQ:wf
 GP:wJ
 ID:wf
 HX:wJ
 Ig:wf
 Hb:wJ
 Hk:wf
 Gd:wJ
 Hj:wf
 F5:wJ
 FP:wf
 Fw:wJ
 GK:wf
 FU:wJ
 HP:wf
 G2:wJ
 Im:wf
 Hh:wJ
 HG:wf
 Gq:wJ
 Ij:wf
 G_:wJ
 FO:wf
 Fs:wJ
 GB:wf
 FQ:wJ
 HF:wf
 Gm:wJ
 HI:wf
 Gj:wJ
 Iq:wf
 Ho:wJ
 G5:wf
 Ga:wJ
 FW:wf
 Fz:wJ
 FI:wf
 Fp:wJ
 Gk:wf
 FJ:wJ
 Gx:wf
 FN:wJ
 Hz:wf
 Gr:wJ
 Il:wf
 G7:wJ
 HL:wf
 Gw:wJ
 G1:wf
 FT:wJ
 Hy:wf
 Gi:wJ
 HD:wf
 Gp:wJ
 GY:wf
 FV:wJ
 rj:wf
 HZ:wJ
 Ia:wf
 GX:wJ
 Hx:wf
 Gz:wJ
 ended:wf
 Hr:wJ
 He:wf
 Ge:wJ
 HA:wf
 GC:wJ
 FY:wf
 FD:wJ
 FF:wf
 Fq:wJ
 tick:wf
 HS:wJ
 run:wf
 Ih:wJ
 Gf:wf
 FG:wJ
 ring:wf
 Ic:wJ
 Ib:wf
 GL:wJ
 HJ:wf
 GI:wJ
 HH:wf
 GA:wJ
 H_:wf
 GU:wJ
 G8:wf
 F7:wJ
 Hm:wf
 F9:wJ
 HM:wf
 GQ:wJ
 HU:wf
 G4:wJ
 Hl:wf
 Gg:wJ
 FK:wf
 Fv:wJ
 Fu:wf
 Fm:wJ
 law:wf
 Io:wJ
 lK:wf
 nq:wf
 pZ:wf
 ic:wf
 jN:wf
 ig:wf
 AK:wf
structure Dn(K:wb)(mg:Str->Option we)(n:Str)(st:vD)(ps:List Str)(f:wf)(fd:wJ):Prop where
 F:kg K n n st f fd
 g:mg n=some (.ref f)
 b:kK K fd ps []
section
variable{X:Cx}{x:Str}{f:wf}{fd:wJ}{ps:List Str}{sp:Sp}{j k:Nat}{e:Expr}{es:List Expr}{t:TA}{pos pp:Pos}{st:vD}{CX:fm}
theorem jI{E:XK}(F:aM X.prog X.w X.K X.mg X.base CX k f fd ps sp)(hr:dw j X.A)(D:Dn X.K X.mg x st ps f fd)(hx:mX CX X E)(ha:PA X (e::es) t)(hj:k<=j:=by decide)(hg:Gl X x:=by exact rfl)
  (hdb:(x == ("__debug__" : Str))=false:=by decide) (he:vg (e::es) X.env=(false,eval e X.env)::vg es X.env:=by rfl) (hpl:(Vn pos (vg es X.env)).any (·.1)=false:=by rfl) :
  PE X (.Call (.Name x pp) (e::es) [] pos) (nO sp [] E t):=JU F (hr.mono hj) hg D.g D.F.kp D.b .nil hx ha hdb he hpl
theorem ak(F:aM X.prog X.w X.K X.mg X.base aR k f fd ps sp)(hr:dw j X.A)(D:Dn X.K X.mg x st ps f fd)(ha:PA X (e::es) t)(hj:k<=j:=by decide)(hg:Gl X x:=by exact rfl)
  (hdb:(x == ("__debug__" : Str))=false:=by decide) (he:vg (e::es) X.env=(false,eval e X.env)::vg es X.env:=by rfl) (hpl:(Vn pos (vg es X.env)).any (·.1)=false:=by rfl) :
  PE X (.Call (.Name x pp) (e::es) [] pos) (nO sp [] E0 t):=JU F (hr.mono hj) hg D.g D.F.kp D.b .nil zCb ha hdb he hpl
theorem aA{ta:TE}{i:Int}{kd}(ha:PE X e ta):PE X (.Subscript e (.Constant (.int i) kd pp) pos) (j7 (bL X.K) ta (tC (.int i))):=cG bM ha aC (λ_ _=>rfl)
theorem fT{K:wb}{ta:TE}{i:Int}{kd}(hr:dP X (bL K))(ha:PE X e ta):PE X (.Subscript e (.Constant (.int i) kd pp) pos) (j7 (bL K) ta (tC (.int i))):=cG hr ha aC (λ_ _=>rfl)
theorem aD(i:Nat){te:TE}(hN:X.N.Nodup)(he:PE X e te)(hi:X.N[i]? = some x:=by exact rfl)(hx:Loc X.env.scope x:=by first | exact Or.inl rfl | exact Or.inr rfl)(hs:swapsWith e (some (.Name x pp)) pos.line X.env=pure false:=by rfl)(hf:X.fn x=true\/X.env.scope.names.lookup x=some .local:=by first | exact .inl rfl | exact .inr rfl | assumption) :
  PS X (.Assign [.Name x pp] e pos) (oY te (iH i)):=zA7 hN hi hx he hs hf
end
structure Txt(K:wb)(mg:Str->Option we)(a:Ad):Prop where
 nk:Dn K mg "is_whole" B1 sS a.HE a.Gy
 pT:Dn K mg "is_whole_from" DY yH a.FR a.Fy
 km:Dn K mg "greatest_divisor" Ez Ao a.Fx a.Fo
 pU:Dn K mg "is_number" Cf Ar a.Hf a.FZ
 ko:Dn K mg "plus" Ec Ai a.plus a.HN
 HY:Dn K mg "minus" Cg zk a.minus a.Hu
 p6:Dn K mg "times" C6 zF a.times a.Ht
 gD:Dn K mg "less" EF zI a.less a.HW
 GJ:Dn K mg "is_factor" Dg Ax a.Hc a.F6
 GZ:Dn K mg "is_shift" EC sG a.Hv a.Gu
 Gn:Dn K mg "make_rule" D_ y_ a.Hg a.F8
 Hq:Dn K mg "is_rule" ED AD a.HQ a.GP
 Ip:Dn K mg "bend" Ff yf a.ID a.HX
 HK:Dn K mg "pushes" Ek rF a.Ig a.Hb
 Gv:Dn K mg "pushed_by" Et yi a.Hk a.Gd
 lH:Dn K mg "is_listed" Fi rA a.Hj a.F5
 pS:Dn K mg "are_whole_from" Af Az a.FP a.Fw
 Gb:Dn K mg "are_rounds" Fb sR a.GK a.FU
 G9:Dn K mg "are_ups" z8 sC a.HP a.G2
 Hs:Dn K mg "is_tie" B_ yW a.Im a.Hh
 GN:Dn K mg "are_ties" zev zm a.HG a.Gq
 A1:Dn K mg "web_of" pe sZ a.Ij a.G_
 FA:Dn K mg "are_web_phases" tL sf a.FO a.Fs
 AN:Dn K mg "none_coming" rC zN a.GB a.FQ
 G3:Dn K mg "stand_of" zO zd a.HF a.Gm
 pV:Dn K mg "is_order" zX tH a.HI a.Gj
 lI:Dn K mg "set_by" Bb zx a.Iq a.Ho
 GF:Dn K mg "exchanged" Bc sr a.G5 a.Ga
 FE:Dn K mg "exchanged_web" yR u_ a.FW a.Fz
 pR:Dn K mg "exchanged_stand" tU rD a.FI a.Fp
 FX:Dn K mg "least_count" BX z_ a.Gk a.FJ
 AM:Dn K mg "whole_steps" En rH a.Gx a.FN
 GW:Dn K mg "all_ties" z9 zg a.Hz a.Gr
 HC:Dn K mg "as_web" zR rG a.Il a.G7
 GO:Dn K mg "is_phase" Cn tQ a.HL a.Gw
 F0:Dn K mg "are_phases" Au yg a.G1 a.FT
 GR:Dn K mg "swarm_of" C7 zD a.Hy a.Gi
 GV:Dn K mg "greatest" DX yu a.HD a.Gp
 AO:Dn K mg "at_the_end" yQ za a.GY a.FV
 Ik:Dn K mg "glow" mR zh a.rj a.HZ
 AX:Dn K mg "history" BD rT a.Ia a.GX
 AV:Dn K mg "moved_up" ET yp a.Hx a.Gz
 A3:Dn K mg "ended" sF sN a.ended a.Hr
 AQ:Dn K mg "ties_from" Al yZ a.He a.Ge
 AU:Dn K mg "count_to" tW zu a.HA a.GC
 FH:Dn K mg "coming_behind" zT Ab a.FY a.FD
 Ft:Dn K mg "phases_at_first" DB z7 a.FF a.Fq
 p9:Dn K mg "tick" mK sP a.tick a.HS
 p_:Dn K mg "run" DW zG a.run a.Ih
 AL:Dn K mg "stand_behind" CQ zQ a.Gf a.FG
 p8:Dn K mg "ring" BZ tE a.ring a.Ic
 pX:Dn K mg "_law_pen" EN rQ a.Ib a.GL
 dF:Dn K mg "_law_draw" EA AF a.HJ a.GI
 GS:Dn K mg "_law_ties" zj sE a.HH a.GA
 Ha:Dn K mg "_law_web" oK Ak a.H_ a.GU
 Gs:Dn K mg "_law_begin" BB rX a.G8 a.F7
 AR:Dn K mg "_law_order" rY Ah a.Hm a.F9
 AZ:Dn K mg "_law_low" CJ sJ a.HM a.GQ
 AY:Dn K mg "_law_led" lX zo a.HU a.G4
 AS:Dn K mg "_law_round" Dp sW a.Hl a.Gg
 FC:Dn K mg "_law_webs_alike" kD zE a.FK a.Fv
 Fn:Dn K mg "_law_history_right" tK AJ a.Fu a.Fm
 SJ:Dn K mg "law" jt zJ a.law a.Io
 z_abs:mg "abs"=none
 z_all:mg "all"=none
 z_bool:mg "bool"=none
 z_enumerate:mg "enumerate"=none
 z_int:mg "int"=none
 z_isinstance:mg "isinstance"=none
 z_len:mg "len"=none
 z_list:mg "list"=none
 z_min:mg "min"=none
 z_range:mg "range"=none
 z_set:mg "set"=none
 z_sorted:mg "sorted"=none
 z_tuple:mg "tuple"=none
 z_zip:mg "zip"=none
 lM:mg "NoWeb"=some (.ref a.lK)
 Hn:mg "NoStand"=some (.ref a.nq)
 Sv:mg "NoSwarm"=some (.ref a.pZ)
 G6:mg "TooLong"=some (.ref a.ic)
 lO:W5 K a.lK jo "ValueError.__new__"=true
 aac:W9 K (.ref a.lK) (.ref a.ic)=some false
 Hi:W5 K a.nq jo "ValueError.__new__"=true
 aaa:W9 K (.ref a.nq) (.ref a.ic)=some false
 Sx:W5 K a.pZ jo "ValueError.__new__"=true
 aab:W9 K (.ref a.pZ) (.ref a.ic)=some false
 Sw:W5 K a.ic jo "ValueError.__new__"=true
 Sa:W9 K (.ref a.ic) (.ref a.ic)=some true
 lJ:mg "NOUGHT"=some (.ref a.jN)
 p3:∀H:Hp,aF K H a.jN [.int 0,.int 1]
 jQ:mg "ONE"=some (.ref a.ig)
 Iv:∀H:Hp,aF K H a.ig [.int 1,.int 1]
 R9:mg "GREATEST_FACTOR"=some (.ref a.AK)
 R8:∀H:Hp,aF K H a.AK [.int 4,.int 1]
 Sd:∃t,mg "FACTOR_BOTTOM"=some (.int 8 t)
 Se:∃t,mg "SHIFT_BOTTOM"=some (.int 12 t)
 R_:∃t,mg "MOST_WORMS_webs"=some (.int 8 t)
 Gh:∃t,mg "MOST_ROUND"=some (.int 60 t)
 Sy:∃t,mg "MOST_UP"=some (.int 60 t)
 So:∃t,mg "MOST_TIES"=some (.int 60 t)
 F_:∃t,mg "MOST_DELAY"=some (.int 4 t)
 R4:∃t,mg "MOST_WORMS_swarms"=some (.int 8 t)
 Sj:∃t,mg "PHASE_BOTTOM"=some (.int 60 t)
end G
open L2 GM in
local macro_rules | `(tactic| wtm_at "is")=>`(tactic| first
 | assumption
 | exact bN.mpr rfl
 | exact lT.mpr rfl
 | exact mC.mpr rfl
 | exact kj.mpr rfl
 | exact Is.nA (by assumption) (by wtm_at "same")
 | exact Is.thruN (by assumption) (by wtm_at "keep")
 | exact Is.Iy (by assumption) (by wtm_at "keep")
 | ((with_reducible apply is_tupAt);(focus assumption);(focus wtm_at "isall");wtm_at "same")
 | ((with_reducible apply is_lstAt);(focus assumption);(focus wtm_at "isall");wtm_at "same")
 | ((with_reducible apply is_dctAt);(focus assumption);wtm_at "same")
 | exact pF 0 (G.Txt.p3 (by assumption) _) rfl rfl | exact pF 1 (G.Txt.Iv (by assumption) _) rfl rfl | exact pF 4 (G.Txt.R8 (by assumption) _) rfl rfl
 | fail "is")
open L2 GM in
local macro_rules | `(tactic| wtm_at "isall")=>`(tactic| first
 | exact ag.nil
 | exact ag.cons (by wtm_at "is") (by wtm_at "isall")
 | fail "isall")
open L2 GM in
local macro_rules | `(tactic| wtm_at "ne")=>`(tactic| first
 | assumption
 | (apply Wz;assumption))
/- a list that stands at an address -/
open L2 GM in
local macro_rules | `(tactic| wtm_at "lst")=>`(tactic| first
 | assumption
 | exact af.at (by assumption) (by wtm_at "lst")
 | exact Exc.at (by assumption) (by wtm_at "ne") (by wtm_at "lst")
 | fail "lst")
open L2 GM in
local macro_rules | `(tactic| wtm_at "same")=>`(tactic| first
 | assumption
 | exact af.refl _
 | exact af.back (by assumption) (by wtm_at "same")
 | fail "same")
open L2 GM in
local macro_rules | `(tactic| wtm_at "keep")=>`(tactic| first
 | assumption
 | exact aO.refl _
 | exact af.keep (by assumption)
 | exact aO.back (by assumption) (by wtm_at "keep")
 | exact aO.back (af.keep (by assumption)) (by wtm_at "keep")
 | fail "keep")
open L2 GM in
local macro_rules | `(tactic| wtm_at "exc")=>`(tactic| first
 | assumption
 | exact Exc.refl _ _
 | exact Exc.back (by assumption) (by wtm_at "exc")
 | exact Exc.back (af.exc (by assumption)) (by wtm_at "exc")
 | fail "exc")
open L2 GM in
local macro_rules | `(tactic| wtm_at "sqf")=>`(tactic| first
 | assumption
 | exact aO.CN (by wtm_at "keep") (by assumption)
 | fail "sqf")
/- how great -/
open L2 GM in
local macro_rules | `(tactic| wtm_at "bd")=>`(tactic| first
 | assumption
 | exact Bd.mk (n:=128) (by decide)
 | exact Bd.mono (m:=128) ⟨by decide⟩ (by decide)
 | exact ai.t (by assumption)
 | exact ai.b (by assumption)
 | exact Bd.jP (by omega) (by omega)
 | (apply Bd.neg;wtm_at "bd")
 | (apply Bd.mul;(focus wtm_at "bd");wtm_at "bd")
 | (apply Bd.add;(focus wtm_at "bd");wtm_at "bd")
 | (apply Bd.sub;(focus wtm_at "bd");wtm_at "bd"))
open L2 GM PySem in
local macro_rules | `(tactic| wtm_at "mulok")=>`(tactic| first
 | exact uJ (by decide)
 | exact u6 (by decide)
 | exact uJ (intBits_le_64 (by omega) (by omega))
 | exact u6 (intBits_le_64 (by omega) (by omega))
 | (apply L2.SI;(focus wtm_at "bd");(focus wtm_at "bd");(focus decide);decide))
open L2 GM PySem in
local macro_rules | `(tactic| wtm_at "side")=>`(tactic| first
 | assumption
 | decide
 | omega
 | wtm_at "mulok"
 | (refine And.intro ?_ ?_<;>wtm_at "side")
 | wtm_at "bd")
open L2 GM in
local macro_rules | `(tactic| wtm_at "gs")=>`(tactic| first
 | wtm_at "sq"
 | with_reducible (first | refine zBO ?_ | refine zAj ?_ | refine zA6 ?_ | refine Mo ?_)
 | ((with_reducible apply oS);(focus rfl))
 | with_reducible (first | refine Zr ?_ | refine Pd ?_ | refine Nn ?_ | refine Lh ?_ | refine YB ?_ | refine KU ?_ | refine zyb ?_ | refine Kw ?_ | refine zAr ?_ | refine ZU ?_ | refine zBo ?_ | refine YA ?_)
 | ((with_reducible apply kz);(focus wtm_at "side"))
 | with_reducible (first | refine zCf ?_ | refine zBW ?_ | refine zBR ?_ | refine Yw ?_ | refine zBe ?_ | refine Yb ?_ | refine zAL ?_ | refine j3 ?_ | refine mI ?_)
 | with_reducible refine zyl (λ_=>?_) (λ_=>?_)
 | with_reducible refine Tj (λ_=>?_) (λ_=>?_)
 | with_reducible refine zvQ (λ_=>?_) (λ_=>?_)
 | with_reducible refine zyp (λ_=>?_) (λ_=>?_)
 | with_reducible (first | refine zBj ?_ | refine Tp ?_ | refine zBQ ?_ | refine Yp ?_ | refine ZY ?_ | refine Zq ?_ | refine zxT ?_ | refine Y5 ?_ | refine zx9 ?_ | refine zyA ?_ | refine zxQ ?_ | refine zAs ?_ | refine zxJ ?_ | refine Ee ?_ | refine T1 ?_ | refine zyk ?_ | refine zyT ?_)
 | ((with_reducible apply zyo);(focus wtm_at "is"))
 | ((with_reducible apply zyG);(focus wtm_at "is"))
 | ((with_reducible apply iR);(focus(apply aG.of;wtm_at "lst"));(focus rfl))
 | ((with_reducible apply rE);(focus assumption);(focus rfl);intro hN eN lN;dsimp only[Int.reduceToNat,uf,ug]at lN)
 | ((with_reducible apply Lf);(focus wtm_at "is"))
 | ((with_reducible apply zwU);(focus wtm_at "is"))
 | ((with_reducible apply Y3);(focus wtm_at "is"))
 | dsimp only[uf,ug])
/- one statement behind another: what follows stands behind a name -/
set_option hygiene false in
open L2 GM in
local macro_rules | `(tactic| wtm_at "sq")=>`(tactic| with_reducible refine zxP (λ tl_ htl_=>?_))
set_option hygiene false in
open L2 GM in
local macro_rules | `(tactic| wtm_at "tl")=>`(tactic| ((with_reducible refine rq.go (by assumption) ?_); (try clear htl_ tl_)))
/- how great a number is -/
open L2 GM in
local macro_rules | `(tactic| wtm_at "bdr0")=>`(tactic| first
 | assumption
 | exact ai.zero
 | exact ai.one
 | exact ai.four
 | (apply ai.add;(focus wtm_at "bdr0");wtm_at "bdr0")
 | (apply ai.sub;(focus wtm_at "bdr0");wtm_at "bdr0")
 | (apply ai.mul;(focus wtm_at "bdr0");wtm_at "bdr0"))
open L2 GM in
local macro_rules | `(tactic| wtm_at "bdr")=>`(tactic| first
 | assumption
 | (apply ai.mono;(focus wtm_at "bdr0");(first | decide | omega)))
/- .. with new tuples,lists,dicts -/
open L2 GM in
local macro_rules | `(tactic| wtm_at "ga1")=>`(tactic| first
 | wtm_at "gs"
 | ((with_reducible apply cC);(focus(simp only[vA,qY];decide));(focus wtm_at "isall");intro _ _ _ _)
 | ((with_reducible apply iG);(focus(simp only[vA,qY];decide));intro _ _ _ _ _)
 | ((with_reducible apply Mq);(focus wtm_at "lst");(focus wtm_at "lst");(focus(simp only[wS,vA,qY];decide));intro _ _ _ _ _))
local macro_rules | `(tactic| wtm_at "ga")=>`(tactic| repeat' (first | wtm_at "ga1" | wtm_at "tl"))
local macro_rules | `(tactic| wtm_at "gg")=>`(tactic| repeat' (first | wtm_at "gs" | wtm_at "tl"))
local macro_rules | `(tactic| wtm_at "gt")=>`(tactic| repeat' (wtm_at "gs"))
open L2 GM in
local macro_rules | `(tactic| wtm_at "bd128")=>`(tactic| first
 | exact Bd.mono (m:=128) ⟨by decide⟩ (by decide)
 | exact(Bd.jP (by omega) (by omega)).mono (by decide))
open L2 GM in
local macro_rules | `(tactic| wtm_at "gs")=>`(tactic| first
 | with_reducible (first | refine zB2 ?_ | refine YT ?_ | refine zuY ?_ | refine zCv ?_ | refine zu7 ?_ | refine zwS ?_ | refine V_ ?_ | refine NG ?_ | refine jJ ?_ | refine zwM ?_ | refine zv4 ?_ | refine zCg ?_ | refine zzh ?_ | refine Zc ?_ | refine zva ?_ | refine ZI ?_ | refine zuR ?_ | refine Ts ?_ | refine zot ?_)
 | with_reducible refine zyW (λ_ _ _ _=>?_)
 | with_reducible (first | refine Te ?_ | refine YS ?_ | refine zA4 ?_ | refine zuB ?_ | refine zwG ?_ | refine zAD ?_ | refine zvD ?_ | refine zuT ?_ | refine Z2 ?_ | refine zvN ?_)
 | ((with_reducible apply zu2);(focus wtm_at "is"))
 | ((with_reducible apply TX);(focus wtm_at "is"))
 | ((with_reducible apply ZO);(focus wtm_at "is");intro _ _)
 | ((with_reducible apply zxR);(focus wtm_at "is");intro _ _)
 | ((with_reducible apply iR);(focus(apply aG.of;wtm_at "lst"));(focus rfl))
 | ((with_reducible apply ZQ);(focus wtm_at "lst");(focus omega);(focus omega);intro _ _)
 | ((with_reducible apply YX);(focus wtm_at "lst");(focus omega);(focus omega);intro _ _)
 | ((with_reducible apply zzg);(focus wtm_at "lst");(focus omega);(focus omega);intro _ _)
 | ((with_reducible apply zAm);(focus wtm_at "is");(focus wtm_at "is")))
set_option hygiene false in
local macro_rules | `(tactic| wtm_at "b1")=>`(tactic| (focus (intro vs H Q E h; obtain ⟨_,rfl,_⟩:=h; rfl)); (intro cdv A outer s H vs Q E hr h; obtain ⟨x0,rfl,h⟩:=h; have hu:=hr.units))
set_option hygiene false in
local macro_rules | `(tactic| wtm_at "b2")=>`(tactic| (focus (intro vs H Q E h; obtain ⟨_,_,rfl,_⟩:=h; rfl)); (intro cdv A outer s H vs Q E hr h; obtain ⟨x0,x1,rfl,h⟩:=h; have hu:=hr.units))
set_option hygiene false in
local macro_rules | `(tactic| wtm_at "b3")=>`(tactic| (focus (intro vs H Q E h; obtain ⟨_,_,_,rfl,_⟩:=h; rfl)); (intro cdv A outer s H vs Q E hr h; obtain ⟨x0,x1,x2,rfl,h⟩:=h; have hu:=hr.units))
set_option hygiene false in
local macro_rules | `(tactic| wtm_at "b4")=>`(tactic| (focus (intro vs H Q E h; obtain ⟨_,_,_,_,rfl,_⟩:=h; rfl)); (intro cdv A outer s H vs Q E hr h; obtain ⟨x0,x1,x2,x3,rfl,h⟩:=h; have hu:=hr.units))
set_option hygiene false in
local macro_rules | `(tactic| wtm_at "cl")=>`(tactic| ((clear hu); (try clear hgd); (first | dsimp only [gO,cxOfH] | dsimp only [gO] | skip)))
local macro_rules | `(tactic| k_few)=>`(tactic| wtm_at "gg")
local macro_rules | `(tactic| o_head $e)=>`(tactic| (wtm_at "gg"; refine $e))
namespace G
open PySem PySem.Spec PyProof.Rows L2 GM
section
variable{P:wP}{w:wR}{K:wb}{mg:Str->Option we}{base:wK}{a:Ad}
def isInt:wq->Bool
 | .int _=>true
 | _=>false
def Kn(K:wb):Sp:=λvs H Q _=>∃x0,vs=[x0] /\ ∃d,Is K H x0 d/\Q (.bl (isInt d)) H
theorem DD{K:wb}{H:Hp}{Q:VK}{E:XK}{v:V}{d:wq}(h:Is K H v d)(q:Q (.bl (isInt d)) H):Kn K [v] H Q E:=⟨v,rfl,d,h,q⟩
local macro_rules | `(tactic| wtm_at "gs")=>`(tactic| ((with_reducible apply DD); (focus wtm_at "is")))
theorem yk(T:Txt K mg a):aM P w K mg base aR 1 a.HE a.Gy sS (Kn K):=by
 refine T.nk.F.ok zqv ?_ ?_;wtm_at "b1";refine⟨_,(aq (aH (eS (aU (show ay _ (.builtin "isinstance") (gC K)from oF) rfl T.z_isinstance kG (aa (pv 0) (aa (jF (v:=.ty "int") rfl T.z_int tJ rfl) ae))) (fY (pP (aU (show ay _ (.builtin "isinstance") (gC K)from oF) rfl T.z_isinstance kG (aa (pv 0) (aa (jF (v:=.ty "bool") rfl T.z_bool zyy rfl) ae)))))))),?_⟩;wtm_at "cl";rw[show start EK [x0]=[some x0]from rfl];obtain⟨d,hd,q⟩:=h;k_few
 all_goals(cases d<;>simp_all [isInt,Dh,By])
def iJ(l m:Int):wq->Bool
 | .int i=>decide (l<=i)&&decide (i<=m)
 | _=>false
theorem zru{l m:Int}{d:wq}(h:isInt d=false):iJ l m d=false:=by cases d<;>first | rfl | cases h
def Ov(K:wb):Sp:=λvs H Q _=>∃x0 x1 x2,vs=[x0,x1,x2] /\ ∃(l m:Int)(d:wq),x0=.int l/\x1=.int m/\Is K H x2 d/\Q (.bl (iJ l m d)) H
theorem C5{K:wb}{H:Hp}{Q:VK}{E:XK}{l m:Int}{v:V}{d:wq}(h:Is K H v d)(q:Q (.bl (iJ l m d)) H):Ov K [.int l,.int m,v] H Q E:=⟨_,_,_,rfl,l,m,d,rfl,rfl,h,q⟩
theorem Dw(T:Txt K mg a):aM P w K mg base aR 2 a.FR a.Fy yH (Ov K):=by
 refine T.pT.F.ok ZV ?_ ?_;wtm_at "b3";refine⟨_,(aq (aH (eS (ak (yk T) hr T.nk (aa (pv 2) ae)) (fY (L7 jy jy (pv 0) (pv 2) (pv 1)))))),?_⟩;wtm_at "cl";rw[show start Dx [x0,x1,x2]=[some x0,some x1,some x2]from rfl];obtain⟨l,m,d,rfl,rfl,hd,q⟩:=h;have hc:(∃i,d=.int i)\/isInt d=false:=by cases d<;>simp[isInt]
 rcases hc with⟨i,rfl⟩ | hn
 ·cases bN.mp hd
  have q:Q (.bl (decide (l<=i)&&decide (i<=m))) H:=q;k_few
  ·rename_i z
   rw[decide_eq_true z,W6]at q;exact q
  ·rename_i z
   rw[decide_eq_false z,WI]at q;exact q
  ·rename_i z;cases (show true=false from z)
 ·rw[zru hn]at q
  k_few
  ·rename_i z1;rw[hn]at z1;cases z1
  ·exact q
def MP(K:wb):Sp:=λvs H Q _=>∃x0 x1,vs=[x0,x1] /\ ∃a b:Int,x0=.int a/\x1=.int b/\0<=a/\0<=b/\Q (.int (vK a b:Nat)) H
theorem lZ{K:wb}{H:Hp}{Q:VK}{E:XK}{a b:Int}(ha:0<=a)(hb:0<=b)(q:Q (.int (vK a b:Nat)) H):MP K [.int a,.int b] H Q E:=⟨_,_,rfl,a,b,rfl,rfl,ha,hb,q⟩
theorem mw(T:Txt K mg a):aM P w K mg base aR 1 a.Fx a.Fo Ao (MP K):=by
 refine T.km.F.ok tT ?_ ?_;wtm_at "b2"
 refine⟨_,(ah (nV vE (cb (show aJ _ (wW .NotEq) (eA K)from fF hu) (pv 1) aC (bD _)) (ah (aD 2 tT.nd (aK gu (pv 0) (pv 1)))
     (ah (aD 0 tT.nd (pv 1))
     (aq (aD 1 tT.nd (pv 2))))))
     (aq (aH (pv 0)))),?_⟩
 wtm_at "cl";rw[show start MW [x0,x1]=[some x0,some x1,none]from rfl];obtain⟨a',b',rfl,rfl,ha,hb,q⟩:=h;refine zBI ?_;refine Pz (λσ H'=>∃(x y:Int)(r:Option V),σ = [some (.int x),some (.int y),r]/\0<=x/\0<=y/\vK x y=vK a' b'/\H'=H) (λσ=>(JV σ 1).toNat) ⟨a',b',none,rfl,ha,hb,rfl,rfl⟩ ?_;rintro σ H' ⟨x,y,r,rfl,hx,hy,hg,rfl⟩;k_few
 . refine Kx ?_
   k_few;have h1:=Q0 x (show y≠0 by assumption);have h2:=Ql x (show 0<y by omega);refine⟨?_,_,_,_,rfl,hy,h1,?_,rfl⟩
   . show(x % y).toNat<y.toNat
     omega
   . rw[<- hg];exact Nb (by omega) hx
 . rename_i h0
   subst h0
   have e:((vK a' b':Nat):Int)=x:=by
     rw[<- hg,uh];omega
   rw[e]at q;exact q
def bA:wq->Bool
 | .tuple [.int p,.int q]=>gj p q
 | _=>false
theorem Fd(r:Rat):bA (N r)=true:=Ni r
theorem Y2{d:wq}(h:gn d=false):bA d=false:=by
 cases d<;>first | rfl | (simp[gn]at h)
theorem Yt{ds:List wq}(h:¬ ds.length=2):bA (.tuple ds)=false:=by
 match ds with
 | []=>rfl
 | [_]=>simp[bA]
 | [_,_]=>exact absurd rfl h
 | _::_::_::_=>simp[bA]
theorem zol{d e:wq}(h:isInt d=false):bA (.tuple [d,e])=false:=by
 cases d<;>first | rfl | (simp[isInt]at h)
theorem zmE{d e:wq}(h:isInt e=false):bA (.tuple [d,e])=false:=by
 cases d<;>cases e<;>first | rfl | (simp[isInt]at h)
theorem NI{d:wq} : isInt d=true ↔ ∃i,d=.int i:=by cases d<;>simp[isInt]
def NA(K:wb):Sp:=λvs H Q _=>∃x0,vs=[x0] /\ ∃d,Is K H x0 d/\Q (.bl (bA d)) H
theorem zoY{K:wb}{H:Hp}{Q:VK}{E:XK}{v:V}{d:wq}(h:Is K H v d)(q:Q (.bl (bA d)) H):NA K [v] H Q E:=⟨v,rfl,d,h,q⟩
local macro_rules | `(tactic| wtm_at "gs")=>`(tactic| ((with_reducible apply zoY); (focus wtm_at "is")))
theorem DK(T:Txt K mg a):aM P w K mg base aR 2 a.Hf a.FZ Ar (NA K):=by
 refine T.pU.F.ok zom ?_ ?_;wtm_at "b1"
 refine⟨_,(ah (bZ (PW.pt (f_ (cE (cw (aU (show ay _ (.builtin "isinstance") (gC K)from oF) rfl T.z_isinstance kG (aa (pv 0) (aa (jF (v:=.ty "tuple") rfl T.z_tuple cf rfl) ae))))) (hW (cb (show aJ _ (wW .NotEq) (eA K)from fF hu) (aU (show ay _ (.builtin "len") (bB K)from bX) rfl T.z_len bR (aa (pv 0) ae)) aC (bD _))))) (aq (aH dY)) b7)
     (ah (bZ (PW.pt (f_ (cE (cw (ak (yk T) hr T.nk (aa (aA (pv 0)) ae)))) (hW (cE (cw (ak (yk T) hr T.nk (aa (aA (pv 0)) ae))))))) (aq (aH dY)) b7)
     (aq (aH (eS (eW rB (aA (pv 0)) aC (bD _)) (fY (eW (show aJ _ (wW .Eq) (dW K)from fN hu) (ak (mw T) hr T.km (aa (aU tq rfl T.z_abs yO (aa (aA (pv 0)) ae)) (aa (aA (pv 0)) ae))) aC (bD _)))))))),?_⟩
 wtm_at "cl";rw[show start Es [x0]=[some x0]from rfl];obtain⟨d,hd,q⟩:=h;k_few
 . rename_i e
   rw[Y2 e]at q;exact q
 . rename_i e
   obtain⟨ds,rfl⟩:=RM.mp e;refine mz hd ?_;k_few
   . rename_i e
     rw[Yt (by omega)]at q;exact q
   . rename_i e
     obtain⟨d0,d1,rfl⟩:∃d0 d1,ds=[d0,d1]:=by
       match ds,e with
       | [d0,d1],_=>exact⟨d0,d1,rfl⟩
       | [],e=>simp at e
       | [_],e=>simp at e
       | _::_::_::_,e=>simp at e;omega
     refine bo (j:=0) hd rfl (λy0 h0=>?_);k_few
     . rename_i e
       rw[zol e]at q;exact q
     . rename_i e0
       obtain⟨i,rfl⟩:=NI.mp e0;refine bo (j:=1) hd rfl (λy1 h1=>?_);k_few
       . rename_i e
         rw[zmE e]at q;exact q
       . rename_i e1
         obtain⟨j,rfl⟩:=NI.mp e1;refine bo (j:=1) hd rfl (λy2 h2=>?_);cases bN.mp h2;k_few
         . refine bo (j:=0) hd rfl (λy3 h3=>?_)
           cases bN.mp h3;o_head bo (j:=1) hd rfl (λy4 h4=>?_);cases bN.mp h4;o_head lZ (by split<;>omega) (by omega) ?_;k_few
           have e3:bA (.tuple [.int i,.int j])=decide ((vK (if i<0 then -i else i) j:Nat)=(1:Int)):=by
             have e4:vK (if i<0 then -i else i) j=vK i j:=by
               split<;>simp
             rw[e4]
             show gj i j=_
             rename_i e5;simp only[gj,e5,decide_true,W6];rw[WS,decide_eq_true_eq,decide_eq_true_eq];omega
           rw[e3]at q;exact q
         . rename_i e5
           have e3:bA (.tuple [.int i,.int j])=false:=by
             show gj i j=false
             simp only[gj,e5,decide_false,WI]
           rw[e3]at q;exact q
def Ja(K:wb):Sp:=λvs H Q _=>∃x0 x1,vs=[x0,x1] /\ ∃(x y:Rat),Is K H x0 (N x)/\Is K H x1 (N y)/\ai 8999 x/\ai 8999 y /\ ∀v H',af H H'->Is K H' v (N (x+y))->Q v H'
theorem Ox{K:wb}{H:Hp}{Q:VK}{E:XK}{x y:Rat}{v w:V}(h1:Is K H v (N x))(h2:Is K H w (N y))(b1:ai 8999 x)(b2:ai 8999 y)(q:∀v H',af H H'->Is K H' v (N (x+y))->Q v H'):Ja K [v,w] H Q E:=⟨_,_,rfl,x,y,h1,h2,b1,b2,q⟩
local macro_rules | `(tactic| wtm_at "gs")=>`(tactic| ((with_reducible apply Ox); (focus wtm_at "is"); (focus wtm_at "is"); (focus wtm_at "bdr"); (focus wtm_at "bdr"); intro _ _ _ _))
theorem nj(T:Txt K mg a):aM P w K mg base aR 2 a.plus a.HN Ai (Ja K):=by
 refine T.ko.F.ok As ?_ ?_;wtm_at "b2"
 refine⟨_,(ah (aD 2 As.nd (ak (mw T) hr T.km (aa (aA (pv 0)) (aa (aA (pv 1)) ae))))
     (ah (aD 3 As.nd (aK dD (aK dZ (aA (pv 0)) (aK dJ (aA (pv 1)) (pv 2))) (aK dZ (aA (pv 1)) (aK dJ (aA (pv 0)) (pv 2)))))
     (ah (aD 4 As.nd (ak (mw T) hr T.km (aa (aU tq rfl T.z_abs yO (aa (pv 3) ae)) (aa (pv 2) ae))))
     (aq (aH (b9 (aa (aK dJ (pv 3) (pv 4)) (aa (aK dZ (aK dJ (aA (pv 0)) (pv 2)) (aK dJ (aA (pv 1)) (pv 4))) ae)))))))),?_⟩
 wtm_at "cl";rw[show start Ky [x0,x1]=[some x0,some x1,none,none,none]from rfl];obtain⟨x,y,hx,hy,⟨bx1,bx2⟩,⟨by1,jm⟩,q⟩:=h;have px:=den_pos x;have py:=den_pos y;have ps:=y8 x y;have pd:=Cp x y;have c1:l_ 0 (eH x y):=⟨by omega,oD bx2 (nW x y) px⟩;have c2:l_ 0 (iW x y):=⟨by omega,oD (oD bx2 (nW x y) px) (Ci x y) ps⟩;have f1:=k_ jm (zy x y) ps;have f2:=k_ bx2 (nW x y) ps;have f3:=k_ jm (XM (Ci x y) (zy x y)) pd;o_head lZ (by omega) (by omega) ?_;rw[show((vK (x.den:Int) (y.den:Int):Nat):Int)=eH x y from rfl];k_few;rw[show x.num*(y.den:Int).fdiv (eH x y)+y.num*(x.den:Int).fdiv (eH x y)=jU x y from rfl];o_head lZ (by split<;>omega) (by omega) ?_;rw[CV,show((vK (jU x y) (eH x y):Nat):Int)=iW x y from rfl];k_few;exact oR (zyL x y) (ZT x y) q
def R0(K:wb):Sp:=λvs H Q _=>∃x0 x1,vs=[x0,x1] /\ ∃(x y:Rat),Is K H x0 (N x)/\Is K H x1 (N y)/\ai 8999 x/\ai 8999 y /\ ∀v H',af H H'->Is K H' v (N (x-y))->Q v H'
theorem zvc{K:wb}{H:Hp}{Q:VK}{E:XK}{x y:Rat}{v w:V}(h1:Is K H v (N x))(h2:Is K H w (N y))(b1:ai 8999 x)(b2:ai 8999 y)(q:∀v H',af H H'->Is K H' v (N (x-y))->Q v H'):R0 K [v,w] H Q E:=⟨_,_,rfl,x,y,h1,h2,b1,b2,q⟩
local macro_rules | `(tactic| wtm_at "gs")=>`(tactic| ((with_reducible apply zvc); (focus wtm_at "is"); (focus wtm_at "is"); (focus wtm_at "bdr"); (focus wtm_at "bdr"); intro _ _ _ _))
theorem zxI(T:Txt K mg a):aM P w K mg base aR 3 a.minus a.Hu zk (R0 K):=by
 refine T.HY.F.ok Yy ?_ ?_;wtm_at "b2";refine⟨_,(aq (aH (ak (nj T) hr T.ko (aa (pv 0) (aa (b9 (aa (Md LA (aA (pv 1))) (aa (aA (pv 1)) ae))) ae))))),?_⟩;wtm_at "cl";rw[show start Eu [x0,x1]=[some x0,some x1]from rfl];obtain⟨x,y,hx,hy,bx,by',q⟩:=h;o_head oR (r:=-y) (by simp) (by simp) (λv H' s hv=>?_);o_head Ox (by wtm_at "is") hv bx (zxX by') (λw H'' s2 hw=>?_);rw[zsi]at hw;k_few;exact q w H'' (s.trans s2) hw
def Jc(K:wb):Sp:=λvs H Q _=>∃x0 x1,vs=[x0,x1] /\ ∃(x y:Rat),Is K H x0 (N x)/\Is K H x1 (N y)/\ai 8999 x/\ai 8999 y /\ ∀v H',af H H'->Is K H' v (N (x*y))->Q v H'
theorem zwO{K:wb}{H:Hp}{Q:VK}{E:XK}{x y:Rat}{v w:V}(h1:Is K H v (N x))(h2:Is K H w (N y))(b1:ai 8999 x)(b2:ai 8999 y)(q:∀v H',af H H'->Is K H' v (N (x*y))->Q v H'):Jc K [v,w] H Q E:=⟨_,_,rfl,x,y,h1,h2,b1,b2,q⟩
local macro_rules | `(tactic| wtm_at "gs")=>`(tactic| ((with_reducible apply zwO); (focus wtm_at "is"); (focus wtm_at "is"); (focus wtm_at "bdr"); (focus wtm_at "bdr"); intro _ _ _ _))
theorem Dv(T:Txt K mg a):aM P w K mg base aR 2 a.times a.Ht zF (Jc K):=by
 refine T.p6.F.ok Ei ?_ ?_;wtm_at "b2"
 refine⟨_,(ah (aD 2 Ei.nd (ak (mw T) hr T.km (aa (aU tq rfl T.z_abs yO (aa (aA (pv 0)) ae)) (aa (aA (pv 1)) ae))))
     (ah (aD 3 Ei.nd (ak (mw T) hr T.km (aa (aU tq rfl T.z_abs yO (aa (aA (pv 1)) ae)) (aa (aA (pv 0)) ae))))
     (aq (aH (b9 (aa (aK dZ (aK dJ (aA (pv 0)) (pv 2)) (aK dJ (aA (pv 1)) (pv 3))) (aa (aK dZ (aK dJ (aA (pv 0)) (pv 3)) (aK dJ (aA (pv 1)) (pv 2))) ae))))))),?_⟩
 wtm_at "cl";rw[show start K_ [x0,x1]=[some x0,some x1,none,none]from rfl];obtain⟨x,y,hx,hy,⟨bx1,bx2⟩,⟨by1,jm⟩,q⟩:=h;have px:=den_pos x;have py:=den_pos y;have p1:=m_ x y;have p2:=m_ y x;have c1:l_ 0 (fH x y):=⟨by omega,oD jm (mG x y) py⟩;have c2:l_ 0 (fH y x):=⟨by omega,oD bx2 (mG y x) px⟩;have f1:=k_ bx1 (tj x y) p1;have f2:=k_ by1 (tj y x) p2;have f3:=k_ bx2 (mG y x) p2;have f4:=k_ jm (mG x y) p1;o_head lZ (by split<;>omega) (by omega) ?_;rw[CV,show((vK x.num (y.den:Int):Nat):Int)=fH x y from rfl];o_head lZ (by split<;>omega) (by omega) ?_;rw[CV,show((vK y.num (x.den:Int):Nat):Int)=fH y x from rfl];k_few;exact oR (zyv x y) (Zh x y) q
def Kk(K:wb):Sp:=λvs H Q _=>∃x0 x1,vs=[x0,x1] /\ ∃(x y:Rat),Is K H x0 (N x)/\Is K H x1 (N y)/\ai 4000 x/\ai 4000 y/\Q (.bl (decide (x<y))) H
theorem zyD{K:wb}{H:Hp}{Q:VK}{E:XK}{x y:Rat}{v w:V}(h1:Is K H v (N x))(h2:Is K H w (N y))(b1:ai 4000 x)(b2:ai 4000 y)(q:Q (.bl (decide (x<y))) H):Kk K [v,w] H Q E:=⟨_,_,rfl,x,y,h1,h2,b1,b2,q⟩
local macro_rules | `(tactic| wtm_at "gs")=>`(tactic| ((with_reducible apply zyD); (focus wtm_at "is"); (focus wtm_at "is"); (focus wtm_at "bdr"); (focus wtm_at "bdr")))
theorem iM(T:Txt K mg a):aM P w K mg base aR 1 a.less a.HW zI (Kk K):=by
 refine T.gD.F.ok zx7 ?_ ?_;wtm_at "b2";refine⟨_,(aq (aH (eW Ms (aK dZ (aA (pv 0)) (aA (pv 1))) (aK dZ (aA (pv 1)) (aA (pv 0))) (bD _)))),?_⟩;wtm_at "cl";rw[show start Bz [x0,x1]=[some x0,some x1]from rfl];obtain⟨x,y,hx,hy,⟨bx1,bx2⟩,⟨by1,jm⟩,q⟩:=h;k_few;rw[zCl];exact q
def oV(x:Rat):Bool:=decide (0<x)&&(!decide (4<x))&&decide ((x.den:Int)<=8)
def Na(K:wb):Sp:=λvs H Q _=>∃x0,vs=[x0] /\ ∃x:Rat,Is K H x0 (N x)/\ai 4000 x/\Q (.bl (oV x)) H
theorem zo9{K:wb}{H:Hp}{Q:VK}{E:XK}{x:Rat}{v:V}(h:Is K H v (N x))(b:ai 4000 x)(q:Q (.bl (oV x)) H):Na K [v] H Q E:=⟨_,rfl,x,h,b,q⟩
local macro_rules | `(tactic| wtm_at "gs")=>`(tactic| ((with_reducible apply zo9); (focus wtm_at "is"); (focus wtm_at "bdr")))
theorem znW(T:Txt K mg a):aM P w K mg base aR 2 a.Hc a.F6 Ax (Na K):=by
 refine T.GJ.F.ok zoI ?_ ?_;wtm_at "b1";refine⟨_,(aq (aH (eS (ak (iM T) hr T.gD (aa (fk (v:=.ref a.jN) rfl T.lJ rfl) (aa (pv 0) ae))) (eS (pP (ak (iM T) hr T.gD (aa (fk (v:=.ref a.AK) rfl T.R9 rfl) (aa (pv 0) ae)))) (fY (eW jy (aA (pv 0)) (ib rfl T.Sd) (bD _))))))),?_⟩;wtm_at "cl";rw[show start EH [x0]=[some x0]from rfl];obtain⟨x,hx,bx,q⟩:=h;unfold oV at q;k_few
 ·rename_i h1 h2
  rw[decide_eq_true h1,decide_eq_false h2]at q;exact q
 ·rename_i h1 h2
  rw[decide_eq_true h1,decide_eq_true h2]at q;exact q
 ·rename_i h1
  rw[decide_eq_false h1]at q;exact q
def nI(x:Rat):Bool:=(!decide (x<0))&&(!decide (1<x))&&decide ((x.den:Int)<=12)
def O5(K:wb):Sp:=λvs H Q _=>∃x0,vs=[x0] /\ ∃x:Rat,Is K H x0 (N x)/\ai 4000 x/\Q (.bl (nI x)) H
theorem zqy{K:wb}{H:Hp}{Q:VK}{E:XK}{x:Rat}{v:V}(h:Is K H v (N x))(b:ai 4000 x)(q:Q (.bl (nI x)) H):O5 K [v] H Q E:=⟨_,rfl,x,h,b,q⟩
local macro_rules | `(tactic| wtm_at "gs")=>`(tactic| ((with_reducible apply zqy); (focus wtm_at "is"); (focus wtm_at "bdr")))
theorem zql(T:Txt K mg a):aM P w K mg base aR 2 a.Hv a.Gu sG (O5 K):=by
 refine T.GZ.F.ok zqE ?_ ?_;wtm_at "b1";refine⟨_,(aq (aH (eS (pP (ak (iM T) hr T.gD (aa (pv 0) (aa (fk (v:=.ref a.jN) rfl T.lJ rfl) ae)))) (eS (pP (ak (iM T) hr T.gD (aa (fk (v:=.ref a.ig) rfl T.jQ rfl) (aa (pv 0) ae)))) (fY (eW jy (aA (pv 0)) (ib rfl T.Se) (bD _))))))),?_⟩;wtm_at "cl";rw[show start BE [x0]=[some x0]from rfl];obtain⟨x,hx,bx,q⟩:=h;unfold nI at q;k_few
 ·rename_i h1 h2
  rw[decide_eq_false h1,decide_eq_false h2]at q;exact q
 ·rename_i h1 h2
  rw[decide_eq_false h1,decide_eq_true h2]at q;exact q
 ·rename_i h1
  rw[decide_eq_true h1]at q;exact q
def kC(x y:Rat):Bool:=oV x&&nI y && !decide (x+y<1)
def BV(K:wb):Sp:=λvs H Q _=>∃x0 x1,vs=[x0,x1]/\((∃d e,Is K H x0 d/\Is K H x1 e/\(bA d&&bA e)=false /\ ∀H',af H H'->Q (.bl false) H')\/(∃x y:Rat,Is K H x0 (N x)/\Is K H x1 (N y)/\ai 1000 x/\ai 1000 y /\ ∀H',af H H'->Q (.bl (kC x y)) H'))
theorem Zy{K:wb}{H:Hp}{Q:VK}{E:XK}{d e:wq}{v w:V}(h1:Is K H v d)(h2:Is K H w e)(n:(bA d&&bA e)=false)(q:∀H',af H H'->Q (.bl false) H'):BV K [v,w] H Q E:=⟨_,_,rfl,.inl ⟨d,e,h1,h2,n,q⟩⟩
theorem zov{K:wb}{H:Hp}{Q:VK}{E:XK}{x y:Rat}{v w:V}(h1:Is K H v (N x))(h2:Is K H w (N y))(b1:ai 1000 x)(b2:ai 1000 y)(q:∀H',af H H'->Q (.bl (kC x y)) H'):BV K [v,w] H Q E:=⟨_,_,rfl,.inr ⟨x,y,h1,h2,b1,b2,q⟩⟩
theorem zn6(T:Txt K mg a):aM P w K mg base aR 3 a.Hg a.F8 y_ (BV K):=by
 refine T.Gn.F.ok zok ?_ ?_;wtm_at "b2"
 refine⟨_,(ah (bZ (PW.pt (f_ (cE (cw (ak (DK T) hr T.pU (aa (pv 0) ae)))) (hW (cE (cw (ak (DK T) hr T.pU (aa (pv 1) ae))))))) (aq (aH dY)) b7)
     (aq (aH (eS (ak (znW T) hr T.GJ (aa (pv 0) ae)) (eS (ak (zql T) hr T.GZ (aa (pv 1) ae)) (fY (pP (ak (iM T) hr T.gD (aa (ak (nj T) hr T.ko (aa (pv 0) (aa (pv 1) ae))) (aa (fk (v:=.ref a.ig) rfl T.jQ rfl) ae)))))))))),?_⟩
 wtm_at "cl";rw[show start DS [x0,x1]=[some x0,some x1]from rfl];rcases h with⟨d,e,hd,he,hn,q⟩ | ⟨x,y,hx,hy,bx,by',q⟩
 . k_few
   . exact q _ (af.refl _)
   . exact q _ (af.refl _)
   . rename_i h1 h2
     exact absurd hn (by rw[h1,h2];decide)
 . unfold kC at q
   k_few
   . rename_i z;rw[Fd]at z;cases z
   . rename_i z;rw[Fd]at z;cases z
   . rename_i h1 h2 v H' S hv
     rw[h1,h2]at q;exact q _ S
   . rename_i h1 h2
     rw[h1,h2]at q;exact q _ (af.refl _)
   . rename_i h1
     rw[h1]at q;exact q _ (af.refl _)
def PY:wq->Bool
 | .tuple [d,e]=>!(bA d&&bA e)
 | _=>true
theorem zqO{d e:wq}(h:PY (.tuple [d,e])=true):(bA d&&bA e)=false:=by
 have h:(!(bA d&&bA e))=true:=h;cases z:(bA d&&bA e)with
 | false=>rfl
 | true=>rw[z]at h;exact absurd h (by decide)
def Rh(K:wb):Sp:=λvs H Q _=>∃x0,vs=[x0]/\((∃d,Is K H x0 d/\PY d=true /\ ∀H',af H H'->Q (.bl false) H')\/(∃x y:Rat,Is K H x0 (R x y)/\ai 1000 x/\ai 1000 y /\ ∀H',af H H'->Q (.bl (kC x y)) H'))
theorem zsj{K:wb}{H:Hp}{Q:VK}{E:XK}{x y:Rat}{v:V}(h:Is K H v (R x y))(b1:ai 1000 x)(b2:ai 1000 y)(q:∀H',af H H'->Q (.bl (kC x y)) H'):Rh K [v] H Q E:=⟨_,rfl,.inr ⟨x,y,h,b1,b2,q⟩⟩
theorem Z7(T:Txt K mg a):aM P w K mg base aR 4 a.HQ a.GP AD (Rh K):=by
 refine T.Hq.F.ok zrs ?_ ?_;wtm_at "b1";refine⟨_,(aq (aH (eS (aU (show ay _ (.builtin "isinstance") (gC K)from oF) rfl T.z_isinstance kG (aa (pv 0) (aa (jF (v:=.ty "tuple") rfl T.z_tuple cf rfl) ae))) (eS (eW (show aJ _ (wW .Eq) (dW K)from fN hu) (aU (show ay _ (.builtin "len") (bB K)from bX) rfl T.z_len bR (aa (pv 0) ae)) aC (bD _)) (fY (ak (zn6 T) hr T.Gn (aa (aA (pv 0)) (aa (aA (pv 0)) ae)))))))),?_⟩;wtm_at "cl";rw[show start Dk [x0]=[some x0]from rfl];rcases h with⟨d,hd,hn,q⟩ | ⟨x,y,hr,bx,by',q⟩
 ·k_few
  ·rename_i e
   obtain⟨ds,rfl⟩:=RM.mp e;refine mz hd ?_;k_few
   ·rename_i e
    obtain⟨d0,d1,rfl⟩:∃d0 d1,ds=[d0,d1]:=by
     match ds,e with
     | [d0,d1],_=>exact⟨d0,d1,rfl⟩
     | [],e=>simp at e
     | [_],e=>simp at e
     | _::_::_::_,e=>simp at e;omega
    refine bo (j:=0) hd rfl (λy0 h0=>?_);o_head bo (j:=1) hd rfl (λy1 h1=>?_);o_head Zy h0 h1 (zqO hn) (λH' S=>?_);k_few;exact q _ S
   ·exact q _ (af.refl _)
  ·exact q _ (af.refl _)
 ·k_few
  refine zov (by assumption) (by assumption) bx by' (λH' S=>?_);k_few;exact q _ S
def j9(x:Rat):Str:=if 1<x then "rising" else if x=1 then "even" else "falling"
def OK(K:wb):Sp:=λvs H Q _=>∃x0,vs=[x0] /\ ∃x y:Rat,Is K H x0 (R x y)/\ai 4000 x/\Q (.str (j9 x)) H
theorem zyM{K:wb}{H:Hp}{Q:VK}{E:XK}{x y:Rat}{v:V}(h:Is K H v (R x y))(b:ai 4000 x)(q:Q (.str (j9 x)) H):OK K [v] H Q E:=⟨_,rfl,x,y,h,b,q⟩
theorem zxM(T:Txt K mg a):aM P w K mg base aR 2 a.ID a.HX yf (OK K):=by
 refine T.Ip.F.ok YK ?_ ?_;wtm_at "b1"
 refine⟨_,(ah (bZ (cw (ak (iM T) hr T.gD (aa (fk (v:=.ref a.ig) rfl T.jQ rfl) (aa (aA (pv 0)) ae)))) (aq (aH fJ)) b7)
     (ah (bZ (cb (show aJ _ (wW .Eq) (dW K)from fN hu) (aA (pv 0)) (fk (v:=.ref a.ig) rfl T.jQ rfl) (bD _)) (aq (aH fJ)) b7)
     (aq (aH fJ)))),?_⟩
 wtm_at "cl";rw[show start BJ [x0]=[some x0]from rfl];obtain⟨x,y,hx,bx,q⟩:=h;unfold j9 at q;k_few
 . rename_i h1
   rw[if_pos h1]at q;exact q
 . rename_i h1 _ _ h2
   rw[if_neg h1,if_pos h2]at q;exact q
 . rename_i h1 _ _ h2
   rw[if_neg h1,if_neg h2]at q;exact q
def KO(K:wb):Sp:=λvs H Q _=>∃x0 x1,vs=[x0,x1] /\ ∃(a b:Rat)(n:Int),x1=.int n/\Is K H x0 (R a b)/\ai 10 a/\ai 10 b/\0<=n/\n<=64 /\ ∀v H',af H H'->Is K H' v (R (a^n.toNat) (bO a b n.toNat))->Q v H'
theorem zuv{K:wb}{H:Hp}{Q:VK}{E:XK}{a b:Rat}{n:Int}{v:V}(h1:Is K H v (R a b))(b1:ai 10 a)(b2:ai 10 b)(h0:0<=n)(h64:n<=64)(q:∀v H',af H H'->Is K H' v (R (a^n.toNat) (bO a b n.toNat))->Q v H'):KO K [v,.int n] H Q E:=⟨_,_,rfl,a,b,n,rfl,h1,b1,b2,h0,h64,q⟩
theorem U_(T:Txt K mg a):aM P w K mg base aR 3 a.Ig a.Hb rF (KO K):=by
 refine T.HK.F.ok mm ?_ ?_;wtm_at "b2"
 refine⟨_,(ah (aD 2 mm.nd (fk (v:=.ref a.ig) rfl T.jQ rfl))
     (ah (aD 3 mm.nd (fk (v:=.ref a.jN) rfl T.lJ rfl))
     (ah (dG vE rfl (fb rfl T.z_range (aa (pv 1) ae)) (aN (i:=4) mm.nd rfl (Or.inl rfl)) (ah (aD 2 mm.nd (ak (Dv T) hr T.p6 (aa (aA (pv 0)) (aa (pv 2) ae))))
     (aq (aD 3 mm.nd (ak (nj T) hr T.ko (aa (ak (Dv T) hr T.p6 (aa (aA (pv 0)) (aa (pv 3) ae))) (aa (aA (pv 0)) ae)))))))
     (aq (aH (b9 (aa (pv 2) (aa (pv 3) ae)))))))),?_⟩
 wtm_at "cl";rw[show start Q_ [x0,x1]=[some x0,some x1,none,none,none]from rfl];obtain⟨r,s',n,rfl,hr',ba,bb,h0,h64,q⟩:=h;o_head ki (n:=n) (by omega) (by omega) (λi σ H'=>∃(f g:V)(o:Option V),σ = [some x0,some (.int n),some f,some g,o]/\af H H'/\Is K H' f (N (r^i))/\Is K H' g (N (bO r s' i))) ⟨_,_,_,rfl,af.refl H,by rw[xK];exact o_.mpr ⟨_,rfl,T.Iv H⟩,o_.mpr ⟨_,rfl,T.p3 H⟩⟩ ?_ ?_
 . rintro i σ H' hi ⟨f,g,o,rfl,S1,hf,hg⟩
   have hr1:=hr'.by S1;have bf:ai 650 (r^i):=(ba.pow i).mono (by omega);have bg:ai 1400 (bO r s' i):=(ba.bO bb i).mono (by omega);o_head ⟨_,_,_,rfl,S1.trans (af.trans (by assumption) (af.trans (by assumption) (by assumption))),?_,?_⟩
   . rw[QQ,ui]
     wtm_at "is"
   . wtm_at "is"
 . rintro σ H' ⟨f,g,o,rfl,S1,hf,hg⟩
   wtm_at "ga";exact q _ _ (S1.trans (by assumption)) (by assumption)
def Ks(K:wb):Sp:=λvs H Q _=>∃x0 x1,vs=[x0,x1] /\ ∃(f g x:Rat),Is K H x0 (R f g)/\Is K H x1 (N x)/\ai 700 f/\ai 1500 g/\ai 3000 x /\ ∀v H',af H H'->Is K H' v (N (f*x+g))->Q v H'
theorem zpa{K:wb}{H:Hp}{Q:VK}{E:XK}{f g x:Rat}{v w:V}(h1:Is K H v (R f g))(h2:Is K H w (N x))(b1:ai 700 f)(b2:ai 1500 g)(b3:ai 3000 x)(q:∀v H',af H H'->Is K H' v (N (f*x+g))->Q v H'):Ks K [v,w] H Q E:=⟨_,_,rfl,f,g,x,h1,h2,b1,b2,b3,q⟩
theorem SY(T:Txt K mg a):aM P w K mg base aR 3 a.Hk a.Gd yi (Ks K):=by
 refine T.Gv.F.ok Y8 ?_ ?_;wtm_at "b2";refine⟨_,(aq (aH (ak (nj T) hr T.ko (aa (ak (Dv T) hr T.p6 (aa (aA (pv 0)) (aa (pv 1) ae))) (aa (aA (pv 0)) ae))))),?_⟩;wtm_at "cl";rw[show start Ew [x0,x1]=[some x0,some x1]from rfl];obtain⟨f,g,x,hp,hx,bf,bg,bx,q⟩:=h;k_few;rename_i hz;exact q _ _ (af.trans (by assumption) (by assumption)) hz
def i_(d:wq):Bool:=fZ d || gn d
def Kv(K:wb):Sp:=λvs H Q _=>∃x0,vs=[x0] /\ ∃(d:wq),Is K H x0 d /\ ∀H',af H H'->Q (.bl (i_ d)) H'
theorem oh{K:wb}{H:Hp}{Q:VK}{E:XK}{v:V}{d:wq}(h:Is K H v d)(q:∀H',af H H'->Q (.bl (i_ d)) H'):Kv K [v] H Q E:=⟨_,rfl,d,h,q⟩
theorem nN(T:Txt K mg a):aM P w K mg base aR 1 a.Hj a.F5 rA (Kv K):=by
 refine T.lH.F.ok Yr ?_ ?_;wtm_at "b1";refine⟨_,(aq (aH (aU (show ay _ (.builtin "isinstance") (rZ K)from KI) rfl T.z_isinstance kG (aa (pv 0) (aa (b9 (aa (jF (v:=.ty "list") rfl T.z_list oz rfl) (aa (jF (v:=.ty "tuple") rfl T.z_tuple cf rfl) ae))) ae))))),?_⟩;wtm_at "cl";rw[show start Ck [x0]=[some x0]from rfl];obtain⟨d,hd,q⟩:=h;o_head kF (by simp) (λtp H1 _ S1 e1=>?_);o_head rL (hd.by S1) e1 ?_;exact q H1 S1
def dk:wq->List wq
 | .list ds=>ds
 | .tuple ds=>ds
 | _=>[]
theorem Bp{K:wb}{H:Hp}{v:V}{d:wq}(h:Is K H v d)(e:i_ d=true):Is K H v (.list (dk d))\/Is K H v (.tuple (dk d)):=by
 cases d<;>first | exact .inl h | exact .inr h | cases e
theorem Ku{K:wb}{g:TG}{tt:TT}{te:TE}{src:List (Option Nat)}{σ : L2.St}{H:Hp}{Q:VK}{v:V}{ds:List wq}{o0:Option V}{tl:L2.St}(p:wq->Bool)(h:Is K H v (.list ds)\/Is K H v (.tuple ds))(hsrc:cF src σ = o0::tl)
  (hs:∀D i x ys o H1,i<ds.length->Is K H1 x (ds.getD i .none)->eO H tl (λ(j:Nat)(y:V)(_:Hp)=>y=V.bl (p (ds.getD j .none))) D i ys (o::tl) H1->fG (eO H tl (λ(j:Nat)(y:V)(_:Hp)=>y=V.bl (p (ds.getD j .none)))) g tt te D i x (o::tl) H1)
  (hd:∀D H',H D=none->af H H'->H' D=some (.lst ((ds.map p).map V.bl))->Q (.ref D) H'):lF K g tt te src σ v H Q\/m6 K g tt te src σ v H Q:=by
 have fin:∀(us:List V),us.length=ds.length->∀(D:wf)(ys:List V)(H':Hp),H D=none->af H H'->H' D=some (.lst ys)->ys.length=us.length->(∀(j:Nat)(y:V),ys[j]? = some y->y=V.bl (p (ds.getD j .none)))->Q (.ref D) H':=λus hul D ys H' hn S hD hl hr=>by
  have hys:ys=(ds.map p).map V.bl:=by
   refine vQ (by rw[hl,hul,wd,wd]) λj h1 h2=>?_
   have:=hr j ys[j] (wc h1);rw[this,vJ,vJ,wa,wc]
   rfl
  subst hys;exact hd D H' hn S hD
 rcases h with h | h
 ·obtain⟨ap,us,rfl,hs',tu⟩:=aW.mp h
  refine .inl (kZ hs' hsrc _ (λD i x ys o H1 hx inv=>?_) λD ys H' hn S hD hl hr=>fin us tu.length D ys H' hn S hD hl hr);obtain⟨hi,ix⟩:=cQ tu hx;exact hs D i x ys o H1 hi (ix.by inv.same) inv
 ·obtain⟨ap,us,rfl,hs',tu⟩:=bz.mp h
  refine .inr (iN hs' hsrc _ (λD i x ys o H1 hx inv=>?_) λD ys H' hn S hD hl hr=>fin us tu.length D ys H' hn S hD hl hr);obtain⟨hi,ix⟩:=cQ tu hx;exact hs D i x ys o H1 hi (ix.by inv.same) inv
theorem EO{α : Type}(ds:List α)(p : α -> Bool):(ds.map p).all id=ds.all p:=by rw[V3];rfl
def j8(l m:Int)(d:wq):Bool:=i_ d&&(dk d).all (iJ l m)
def JZ(K:wb):Sp:=λvs H Q _=>∃x0 x1 x2,vs=[x0,x1,x2] /\ ∃(l m:Int)(d:wq),x0=.int l/\x1=.int m/\Is K H x2 d/\(dk d).length<=1000 /\ ∀H',af H H'->Q (.bl (j8 l m d)) H'
theorem EX{K:wb}{H:Hp}{Q:VK}{E:XK}{l m:Int}{v:V}{d:wq}(h:Is K H v d)(z:(dk d).length<=1000)(q:∀H',af H H'->Q (.bl (j8 l m d)) H'):JZ K [.int l,.int m,v] H Q E:=⟨_,_,_,rfl,l,m,d,rfl,rfl,h,z,q⟩
theorem Cd(T:Txt K mg a):aM P w K mg base aR 3 a.FP a.Fw Az (JZ K):=by
 refine T.pS.F.ok Tr ?_ ?_;wtm_at "b3";refine⟨_,(aq (aH (eS (ak (nN T) hr T.lH (aa (pv 2) ae)) (fY (aU (show ay _ (.builtin "all") (kc K)from mB rfl) rfl T.z_all lW (aa (cn rfl (bc.by (N':=["one","least","most"]) (src:=[none,some 0,some 1]) rfl (show bG _ (au Af).names tf ["one","least","most"] [none,some 0,some 1]=true from by decide +kernel)) (kH (pv 2)) (λ_ _ _ _ _=>(aN (i:=0) (show(["one","least","most"]:List Str).Nodup from by decide) rfl (Or.inl rfl))) (λ_ _ _ _ _=>cy) (λ_ _ _ _ _=>(ak (Dw (K:=K) (mg:=mg) (a:=a) T) hr T.pT (aa (pv 1) (aa (pv 2) (aa (pv 0) ae)))))) ae)))))),?_⟩;wtm_at "cl";rw[show start tf [x0,x1,x2]=[some x0,some x1,some x2]from rfl];obtain⟨l,m,d,rfl,rfl,hd,hz,q⟩:=h;o_head oh hd (λH1 S1=>?_);unfold j8 at q;cases e:i_ d with
 | false =>
  rw[e]at q;k_few;exact q H1 S1
 | true =>
  rw[e]at q;o_head Ku (iJ l m) (o0:=none) (tl:=[some (.int l),some (.int m)]) (Bp (hd.by S1) e) rfl ?_ ?_
  ·intro D i x ys o H2 hi ix inv
   o_head C5 ix ?_;k_few;exact dB inv (by omega) (λ_ _ _ _ _ z=>z) ⟨_,rfl⟩ (af.refl _) rfl
  ·intro D H2 hn S2 hD
   o_head kh (.of hD) ?_;rw[EO];exact q H2 (S1.trans S2)
def oI(d:wq):Bool:=j8 1 60 d&&(decide (1<=(dk d).length)&&decide ((dk d).length<=8))
def PM(K:wb):Sp:=λvs H Q _=>∃x0,vs=[x0] /\ ∃(d:wq),Is K H x0 d/\(dk d).length<=1000 /\ ∀H',af H H'->Q (.bl (oI d)) H'
theorem TV{K:wb}{H:Hp}{Q:VK}{E:XK}{v:V}{d:wq}(h:Is K H v d)(z:(dk d).length<=1000)(q:∀H',af H H'->Q (.bl (oI d)) H'):PM K [v] H Q E:=⟨_,rfl,d,h,z,q⟩
theorem jM{K:wb}{H:Hp}{Q:VK}{v:V}{ds:List wq}(h:Is K H v (.list ds)\/Is K H v (.tuple ds))(q:Q (.int (ds.length:Int)) H):bB K [v] H Q:=by
 rcases h with h | h
 ·obtain⟨a,xs,rfl,hs,t⟩:=aW.mp h
  exact dU hs (by rw[t.length];exact q)
 ·exact mz h q
theorem YU(T:Txt K mg a):aM P w K mg base aR 4 a.GK a.FU sR (PM K):=by
 refine T.Gb.F.ok zmx ?_ ?_;wtm_at "b1";refine⟨_,(aq (aH (eS (ak (Cd T) hr T.pS (aa aC (aa (ib rfl T.Gh) (aa (pv 0) ae)))) (fY (L7 jy jy aC (aU (show ay _ (.builtin "len") (bB K)from bX) rfl T.z_len bR (aa (pv 0) ae)) (ib rfl T.R_)))))),?_⟩;wtm_at "cl";rw[show start BO [x0]=[some x0]from rfl];obtain⟨d,hd,hz,q⟩:=h;o_head EX hd hz (λH1 S1=>?_);unfold oI at q;cases e:j8 1 60 d with
 | false =>
  rw[e]at q;k_few;exact q H1 S1
 | true =>
  rw[e]at q
  have e1:i_ d=true:=by
   unfold j8 at e;rw[vf]at e;exact e.1
  have q1:=q H1 S1;o_head jM (Bp (hd.by S1) e1) ?_;k_few
  ·rename_i z1
   rw[decide_eq_true (show 1<=(dk d).length by omega),W6,W6,show decide ((dk d).length<=8)=decide (((dk d).length:Int)<=8)from decide_eq_decide.mpr (by omega)]at q1;exact q1
  ·rename_i z1
   rw[decide_eq_false (show ¬ 1<=(dk d).length by omega),WI,VT]at q1;exact q1
def eR(d:wq)(ns:List Int):Prop:=d=.list (ns.map .int)\/d=.tuple (ns.map .int)
theorem eR.listed{d:wq}{ns:List Int}(h:eR d ns):i_ d=true/\dk d=ns.map .int:=by rcases h with rfl | rfl<;>exact⟨rfl,rfl⟩
theorem eR.is{K:wb}{H:Hp}{v:V}{d:wq}{ns:List Int}(h:eR d ns)(i:Is K H v d):Is K H v (.list (ns.map .int))\/Is K H v (.tuple (ns.map .int)):=by rcases h with rfl | rfl;exact .inl i;exact .inr i
theorem zrC{l m:Int}{ns:List Int}(h:∀n∈ns,l<=n/\n<=m):(ns.map PyData.int).all (iJ l m)=true:=by
 rw[V3,WB];intro n hn
 show(decide (l<=n)&&decide (n<=m))=true
 rw[decide_eq_true (h n hn).1,decide_eq_true (h n hn).2];rfl
theorem eR.A5{d:wq}{ns:List Int}{l m:Int}(h:eR d ns)(hn:∀n∈ns,l<=n/\n<=m):j8 l m d=true:=by
 unfold j8;rw[h.listed.1,h.listed.2,zrC hn];rfl
def jf(ds:List wq)(rows:List (List Int)):Prop:=ds.length=rows.length /\ ∀i,i<rows.length->eR (ds.getD i .none) (rows.getD i [])
def iS(d:wq)(ds:List wq):Prop:=d=.list ds\/d=.tuple ds
theorem iS.is{K:wb}{H:Hp}{v:V}{d:wq}{ds:List wq}(h:iS d ds)(i:Is K H v d):Is K H v (.list ds)\/Is K H v (.tuple ds):=by rcases h with rfl | rfl;exact .inl i;exact .inr i
theorem iS.listed{d:wq}{ds:List wq}(h:iS d ds):i_ d=true/\dk d=ds:=by rcases h with rfl | rfl<;>exact⟨rfl,rfl⟩
def NB(K:wb):Sp:=λvs H Q _=>∃x0 x1,vs=[x0,x1] /\ ∃(d e:wq)(ds:List wq)(rs:List Int)(us:List (List Int)),Is K H x0 d/\iS d ds/\jf ds us/\Is K H x1 e/\eR e rs/\us.length=rs.length/\rs.length<=8/\(∀i,i<rs.length->((us.getD i []).length:Int)=rs.getD i 0/\(us.getD i []).length<=60 /\ ∀x∈us.getD i [],0<=x/\x<=60) /\ ∀H',af H H'->Q (.bl true) H'
theorem YQ{K:wb}{H:Hp}{Q:VK}{E:XK}{v w:V}{d e:wq}{ds:List wq}{rs:List Int}{us:List (List Int)}(h1:Is K H v d)(h2:iS d ds)(h3:jf ds us)(h4:Is K H w e)(h5:eR e rs)(h6:us.length=rs.length)(h7:rs.length<=8)(h8:∀i,i<rs.length->((us.getD i []).length:Int)=rs.getD i 0/\(us.getD i []).length<=60 /\ ∀x∈us.getD i [],0<=x/\x<=60)(q:∀H',af H H'->Q (.bl true) H'):NB K [v,w] H Q E:=⟨_,_,rfl,d,e,ds,rs,us,h1,h2,h3,h4,h5,h6,h7,h8,q⟩
theorem ZW{ys:List V}(h:∀(j:Nat)(y:V),ys[j]? = some y->y=.bl true):∃bs:List Bool,ys=bs.map V.bl/\bs.all id=true:=by
 refine⟨wm ys.length true,vQ (by simp) λj h1 h2=>?_,?_⟩
 ·rw[h j ys[j] (wc h1),vJ,qu]
 ·rw[WB]
  intro b hb;exact(List.mem_replicate.mp hb).2
theorem zrj(T:Txt K mg a):aM P w K mg base aR 4 a.HP a.G2 sC (NB K):=by
 refine T.G9.F.ok ZZ ?_ ?_;wtm_at "b2"
 refine⟨_,(ah (bZ (PW.pt (f_ (cE (cw (ak (nN T) hr T.lH (aa (pv 0) ae)))) (hW (cb (show aJ _ (wW .NotEq) (eA K)from fF hu) (aU (show ay _ (.builtin "len") (bB K)from bX) rfl T.z_len bR (aa (pv 0) ae)) (aU (show ay _ (.builtin "len") (bB K)from bX) rfl T.z_len bR (aa (pv 1) ae)) (bD _))))) (aq (aH dY)) b7)
     (aq (aH (aU (show ay _ (.builtin "all") (kc K)from mB rfl) rfl T.z_all lW (aa (cn rfl (bc.by (N':=["own","count"]) (src:=[none,none]) rfl (show bG _ (au z8).names zM ["own","count"] [none,none]=true from by decide +kernel)) (IM rfl T.z_zip (aa (pv 0) (aa (pv 1) ae))) (λ_ _ _ _ _=>by exact(show PG _ _ (je K 2 _)from gz (n:=2) rfl (cV (aN (i:=0) (show(["own","count"]:List Str).Nodup from by decide) rfl (Or.inl rfl)) (cV (aN (i:=1) (show(["own","count"]:List Str).Nodup from by decide) rfl (Or.inl rfl)) gB)))) (λ_ _ _ _ _=>cy) (λ_ _ _ _ _=>(eS (ak (Cd (K:=K) (mg:=mg) (a:=a) T) hr T.pS (aa aC (aa (ib rfl T.Sy) (aa (pv 0) ae)))) (fY (eW (show aJ _ (wW .Eq) (dW K)from fN hu) (aU (show ay _ (.builtin "len") (bB K)from bX) rfl T.z_len bR (aa (pv 0) ae)) (pv 1) (bD _)))))) ae))))),?_⟩
 wtm_at "cl";rw[show start zM [x0,x1]=[some x0,some x1]from rfl];obtain⟨d,e,ds,rs,us,i0,sd,rd,i1,ie,hl,h8,hu,q⟩:=h;o_head oh i0 (λH1 S1=>?_);rw[sd.listed.1];o_head jM (sd.is (i0.by S1)) ?_;o_head jM (ie.is (i1.by S1)) ?_;rw[wd,rd.1,hl];k_few
 . obtain⟨t,a,xs,rfl,hx,tx⟩:=Du (sd.is (i0.by S1))
   obtain⟨u,b,ys,rfl,hy,ty⟩:=Du (ie.is (i1.by S1));have lx:=tx.length;have ly:=ty.length;rw[wd]at ly;refine⟨t,u,LH hx hy (by rw[lx,ly,rd.1,hl]) (o0:=none) (o0':=none) (tl:=[]) rfl (λj y H'=>y=.bl true) (λ_ _ _ _ _ z=>z) ?_ ?_⟩
   . intro D i x y zs o1 o2 H2 c hx' hy' inv ec
     obtain⟨hi,ix⟩:=cQ tx hx';obtain⟨hj,iy⟩:=cQ ty hy';rw[wd]at hj
     have iyv:y=.int (rs.getD i 0):=by
       rw[wa,wz,wc hj]at iy;rw[wa,wc hj];exact bN.mp iy
     subst iyv;have S2:=inv.2.2.1;obtain⟨g1,g2,g3⟩:=hu i hj;have di:=rd.2 i (by omega);refine jJ (jj (.of ec) rfl ?_);o_head EX (ix.by S2) (by rw[di.listed.2,wd];omega) (λH3 S3=>?_);rw[di.A5 g3];o_head jM (di.is ((ix.by S2).by S3)) ?_;rw[wd,g1];k_few;exact rO inv (by omega) (λ_ _ _ _ _ z=>z) ⟨_,_,rfl⟩ S3 (by rw[decide_eq_true rfl])
   . intro D zs H2 hn S2 hD hl2 hr
     obtain⟨bs,rfl,hb⟩:=ZW hr;o_head kh (.of hD) ?_;rw[hb];exact q H2 (S1.trans S2)
def PF(K:wb):Sp:=λvs H Q _=>∃x0 x1,vs=[x0,x1] /\ ∃(d:wq)(t:List Int)(n:Nat),Is K H x0 d/\eR d t/\x1=.int (n:Int)/\dN n t /\ ∀H',af H H'->Q (.bl true) H'
theorem ztV{K:wb}{H:Hp}{Q:VK}{E:XK}{v:V}{d:wq}{t:List Int}{n:Nat}(h1:Is K H v d)(h2:eR d t)(h3:dN n t)(q:∀H',af H H'->Q (.bl true) H'):PF K [v,.int (n:Int)] H Q E:=⟨_,_,rfl,d,t,n,h1,h2,rfl,h3,q⟩
theorem CP{K:wb}{H:Hp}{Q:VK}{v:V}{ns:List Int}{m:Int}(h:Is K H v (.list (ns.map .int))\/Is K H v (.tuple (ns.map .int)))(h0:0<=m)(h1:m<ns.length)(q:Q (.int (ns.getD m.toNat 0)) H):bL K v (.int m) H Q:=by
 rcases h with h | h
 ·obtain⟨a,xs,rfl,hs,t⟩:=aW.mp h
  rw[jA.mp t]at hs;obtain⟨n,rfl⟩:∃n:Nat,m=(n:Int):=⟨m.toNat,by omega⟩;refine iR hs (jZ (j:=n) (v:=.int (ns.getD n 0)) ?_) q;rw[wz,wa,wc (by omega)]
  rfl
 ·exact fW h h0 h1 q
theorem zAF{K:wb}{H:Hp}{Q:VK}{v:V}{x y z:Int}(h:Is K H v (.list [.int x,.int y,.int z])\/Is K H v (.tuple [.int x,.int y,.int z]))(q:∀w e H',af H H'->Is K H' w e->eR e [x,y]->Q w H'):nE K v none (some 2) H Q:=by
 have ec:gf [PyData.int x,.int y,.int z] none (some 2)=[.int x,.int y]:=rfl;rcases h with h | h
 ·refine TF h λl H' ys hn S e t=>?_
  rw[ec]at t;exact q _ _ H' S (aW.mpr ⟨l,ys,rfl,.of e,t⟩) (.inl rfl)
 ·refine Ki h (show ¬ (HT.aV 3 0 none=0/\HT.aV 3 3 (some 2)=3)from by decide) λw H' S i=>?_
  rw[ec]at i;exact q _ _ H' S i (.inr rfl)
theorem Yn(T:Txt K mg a):aM P w K mg base aR 4 a.Im a.Hh yW (PF K):=by
 refine T.Hs.F.ok zuS ?_ ?_;wtm_at "b2"
 refine⟨_,(ah (bZ (PW.pt (f_ (cE (cw (ak (nN T) hr T.lH (aa (pv 0) ae)))) (f_ (cb (show aJ _ (wW .NotEq) (eA K)from fF hu) (aU (show ay _ (.builtin "len") (bB K)from bX) rfl T.z_len bR (aa (pv 0) ae)) aC (bD _)) (hW (cE (cw (ak (Cd T) hr T.pS (aa aC (aa (aK AA (pv 1) aC) (aa (rV zZ (pv 0) Ay (rN aC)) ae)))))))))) (aq (aH dY)) b7)
     (aq (aH (eS (eW (show aJ _ (wW .NotEq) (eA K)from fF hu) (aA (pv 0)) (aA (pv 0)) (bD _)) (fY (ak (Dw T) hr T.pT (aa aC (aa (ib rfl T.F_) (aa (aA (pv 0)) ae))))))))),?_⟩
 wtm_at "cl";rw[show start Ed [x0,x1]=[some x0,some x1]from rfl];obtain⟨d,t,n,hd,di,rfl,⟨ta,tb,td,rfl,ha,hb,hab,hdl⟩,q⟩:=h;o_head oh hd (λH1 S1=>?_);rw[di.listed.1];o_head jM (di.is (hd.by S1)) ?_;rw[wd];k_few
 . rename_i z;exact absurd rfl z
 . refine zAF (di.is (hd.by S1)) (λw e H2 S2 iw ie=>?_)
   o_head EX iw (by rw[ie.listed.2];simp) (λH3 S3=>?_)
   rw[ie.A5 (λx hx=>by
     simp only[wE,WM,or_false]at hx;rcases hx with rfl | rfl<;>omega)]
   have T3:=S1.trans (S2.trans S3);o_head CP (di.is (hd.by T3)) (by decide) (by simp) ?_;o_head CP (di.is (hd.by T3)) (by decide) (by simp) ?_;k_few
   . refine CP (di.is (hd.by T3)) (by decide) (by simp) ?_
     o_head C5 (d:=.int (td:Int)) (bN.mpr rfl) ?_
     rw[show iJ 0 4 (.int (td:Int))=true from by
       show(decide ((0:Int)<=(td:Int))&&decide ((td:Int)<=4))=true
       rw[decide_eq_true (by omega),decide_eq_true (by omega)];rfl]
     exact q H3 T3
   . rename_i z
     exact absurd z (by simp;omega)
theorem jf.at{ds:List wq}{rows:List (List Int)}(h:jf ds rows){i:Nat}(hi:i<ds.length):i<rows.length/\eR (ds.getD i .none) (rows.getD i []):=⟨by rw[<- h.1];exact hi,h.2 i (by rw[<- h.1];exact hi)⟩
theorem zzm{rows:List (List Int)}{P:List Int->Prop}(h:∀t∈rows,P t){i:Nat}(hi:i<rows.length):P (rows.getD i []):=by
 rw[wa,wc hi];exact h _ (vc hi)
theorem BY{K:wb}{src:List (Option Nat)}{σ : L2.St}{H:Hp}{Q:VK}{v:V}{ds:List wq}{rows:List (List Int)}(h:Is K H v (.list ds)\/Is K H v (.tuple ds))(rd:jf ds rows)(z:ds.length<=1000)(hsrc:cF src σ = [none])
  (hd:∀D us H',H D=none->af H H'->H' D=some (.lst us)->ag K H' us (rows.map TZ)->Q (.ref D) H'):lF K (iH 0) pE (mS (bQ K) (jV (gY 0) mJ)) src σ v H Q\/m6 K (iH 0) pE (mS (bQ K) (jV (gY 0) mJ)) src σ v H Q:=by
 have st:∀D i x ys o H1,i<ds.length->Is K H1 x (ds.getD i .none)->eO H [] (λ(j:Nat)(y:V)(H':Hp)=>Is K H' y (TZ (rows.getD j []))) D i ys (o::[]) H1->fG (eO H [] (λ(j:Nat)(y:V)(H':Hp)=>Is K H' y (TZ (rows.getD j [])))) (iH 0) pE (mS (bQ K) (jV (gY 0) mJ)) D i x (o::[]) H1:=λD i x ys o H1 hi ix inv=>by
  refine jJ (Ee (NG (j3 (Kw (Pd (oS rfl (Nn ?_)))))));rcases (rd.at hi).2 with e | e
  ·rw[e]at ix
   exact fj ix λw H2 S2 i2=>dB inv (by omega) (λ_ _ _ _ k z=>z.fU k) ⟨_,rfl⟩ S2 i2
  ·rw[e]at ix
   exact Ep ix (dB inv (by omega) (λ_ _ _ _ k z=>z.fU k) ⟨_,rfl⟩ (af.refl _) ix)
 have fin:∀(us:List V),us.length=ds.length->∀(D:wf)(ys:List V)(H':Hp),H D=none->af H H'->H' D=some (.lst ys)->ys.length=us.length->(∀(j:Nat)(y:V),ys[j]? = some y->Is K H' y (TZ (rows.getD j [])))->Q (.ref D) H':=λus hul D ys H' hn S hD hl hr=>by
  refine hd D ys H' hn S hD (kM (by rw[wd,hl,hul,rd.1]) λi x hx=>?_);have hi:i<rows.length:=by have:=gI hx;rw[hl,hul,rd.1]at this;exact this
  rw[wa,wz,wc hi];have:=hr i x hx;rw[wa,wc hi]at this;exact this
 rcases h with h | h
 ·obtain⟨ap,us,rfl,hs',tu⟩:=aW.mp h
  refine .inl (kZ hs' (o0:=none) (tl:=[]) hsrc _ (λD i x ys o H1 hx inv=>?_) λD ys H' hn S hD hl hr=>fin us tu.length D ys H' hn S hD hl hr);obtain⟨hi,ix⟩:=cQ tu hx;exact st D i x ys o H1 hi (ix.by inv.same) inv
 ·obtain⟨ap,us,rfl,hs',tu⟩:=bz.mp h
  refine .inr (iN hs' (o0:=none) (tl:=[]) hsrc _ (λD i x ys o H1 hx inv=>?_) λD ys H' hn S hD hl hr=>fin us tu.length D ys H' hn S hD hl hr);obtain⟨hi,ix⟩:=cQ tu hx;exact st D i x ys o H1 hi (ix.by inv.same) inv
theorem zys{K:wb}{w:wR}{H:Hp}{Q:VK}{v:V}{ks:List (List Int)}(h:Is K H v (.list (ks.map TZ)))(z:ks.length<=999)(nd:ks.Nodup)(q:∀(l:wf)(H':Hp)(ws:List V),H l=none->af H H'->H' l=some (nB w l ws)->ws.length=ks.length->Q (.ref l) H'):BH K w [v] H Q:=by
 obtain⟨p,vs,rfl,hs,t⟩:=aW.mp h;have hl:=t.length;rw[wd]at hl;refine⟨p,vs,λj=>ks.getD j [],rfl,hs,by omega,λj v hv=>?_,λl ws js h1 h2 h3 h4 h5=>?_⟩
 ·obtain⟨hj,ij⟩:=cQ t hv
  rw[wd]at hj;rw[wa,wz,wc hj]at ij
  show B5 K H v (ks.getD j [])
  rw[wa,wc hj];exact eY.mp ij
 ·refine q l _ ws h1 (af.upd h1) bW ?_
  rw[h2]
  have pm:js.Perm ks:=by
   refine(xv h4 nd).mpr λx=>(h5 x).trans ?_
   constructor
   ·rintro ⟨j,hj,rfl⟩;exact GM.getD_mem (by omega)
   ·intro hx
    obtain⟨j,hj,e⟩:=mf [] hx;exact⟨j,by omega,e⟩
  exact pm.length_eq
def O9(K:wb):Sp:=λvs H Q _=>∃x0 x1,vs=[x0,x1] /\ ∃(d:wq)(ds:List wq)(ts:List (List Int))(n:Nat),Is K H x0 d/\iS d ds/\jf ds ts/\x1=.int (n:Int)/\ts.length<=60/\(∀t∈ts,dN n t)/\ts.Nodup /\ ∀H',af H H'->Q (.bl true) H'
theorem zpk{K:wb}{H:Hp}{Q:VK}{E:XK}{v:V}{d:wq}{ds:List wq}{ts:List (List Int)}{n:Nat}(h1:Is K H v d)(h2:iS d ds)(h3:jf ds ts)(h4:ts.length<=60)(h5:∀t∈ts,dN n t)(h6:ts.Nodup)(q:∀H',af H H'->Q (.bl true) H'):O9 K [v,.int (n:Int)] H Q E:=⟨_,_,rfl,d,ds,ts,n,h1,h2,h3,rfl,h4,h5,h6,q⟩
theorem zpD(T:Txt K mg a):aM P w K mg base aR 5 a.HG a.Gq zm (O9 K):=by
 refine T.GN.F.ok zpH ?_ ?_;wtm_at "b2"
 refine⟨_,(ah (bZ (PW.pt (f_ (cE (cw (ak (nN T) hr T.lH (aa (pv 0) ae)))) (f_ (cb zc (aU (show ay _ (.builtin "len") (bB K)from bX) rfl T.z_len bR (aa (pv 0) ae)) (ib rfl T.So) (bD _)) (hW (cE (cw (aU (show ay _ (.builtin "all") (kc K)from mB rfl) rfl T.z_all lW (aa (cn rfl (bc.by (N':=["tie","worms"]) (src:=[none,some 1]) rfl (show bG _ (au zev).names pA ["tie","worms"] [none,some 1]=true from by decide +kernel)) (kH (pv 0)) (λ_ _ _ _ _=>(aN (i:=0) (show(["tie","worms"]:List Str).Nodup from by decide) rfl (Or.inl rfl))) (λ_ _ _ _ _=>cy) (λ_ _ _ _ _=>(ak (Yn (K:=K) (mg:=mg) (a:=a) T) hr T.Hs (aa (pv 0) (aa (pv 1) ae))))) ae)))))))) (aq (aH dY)) b7)
     (aq (aH (eW (show aJ _ (wW .Eq) (dW K)from fN hu) (aU (show ay _ (.builtin "len") (PB w)from zuX) rfl T.z_len bR (aa (b_ (show ay _ (.type "set") (BH K w)from zrW hu rfl) rfl T.z_set zBP (aa (cn rfl (bc.by (N':=["tie"]) (src:=[none]) rfl (show bG _ (au zev).names pA ["tie"] [none]=true from by decide +kernel)) (kH (pv 0)) (λ_ _ _ _ _=>(aN (i:=0) (show(["tie"]:List Str).Nodup from by decide) rfl (Or.inl rfl))) (λ_ _ _ _ _=>cy) (λ_ _ _ _ _=>(b_ (show ay _ (.type "tuple") (bQ K)from cA) rfl T.z_tuple cf (aa (pv 0) ae)))) ae)) ae)) (aU (show ay _ (.builtin "len") (bB K)from bX) rfl T.z_len bR (aa (pv 0) ae)) (bD _))))),?_⟩
 wtm_at "cl";rw[show start pA [x0,x1]=[some x0,some x1]from rfl];obtain⟨d,ds,ts,n,hd,sd,rd,rfl,hl,ht,nd,q⟩:=h;o_head oh hd (λH1 S1=>?_);rw[sd.listed.1];o_head jM (sd.is (hd.by S1)) ?_;rw[rd.1];k_few
 . rename_i z;exact absurd z (by omega)
 . refine Ku (λ_=>true) (o0:=none) (tl:=[some (.int (n:Int))]) (sd.is (hd.by S1)) rfl ?_ ?_
   . intro D i x ys o H2 hi ix inv
     obtain⟨hi',di⟩:=rd.at hi;o_head ztV ix di (zzm ht hi') (λH3 S3=>?_);k_few;exact dB inv (by omega) (λ_ _ _ _ _ z=>z) ⟨_,rfl⟩ S3 rfl
   . intro D H2 hn S2 hD
     have T2:=S1.trans S2;o_head kh (.of hD) ?_;rw[EO,show(ds.all λ_=>true)=true from by rw[WB];intros;rfl];o_head BY (sd.is (hd.by T2)) rd (by rw[rd.1];omega) rfl (λD3 us H3 n3 S3 e3 t3=>?_);have T3:=T2.trans S3;o_head zys (aW.mpr ⟨D3,us,rfl,.of e3,t3⟩) (by omega) nd (λl4 H4 ws n4 S4 e4 hw=>?_);o_head ⟨l4,ws,rfl,e4,?_⟩;o_head jM (sd.is (hd.by (T3.trans S4))) ?_;rw[hw,rd.1];k_few;rw[decide_eq_true rfl];exact q H4 (T3.trans S4)
structure B8(K:wb)(H:Hp)(v0 v1 v2:V)(rs:List Int)(us ts:List (List Int)):Prop where
 r:∃d,Is K H v0 d/\eR d rs
 u:∃d ds,Is K H v1 d/\iS d ds/\jf ds us
 t:∃d ds,Is K H v2 d/\iS d ds/\jf ds ts
 ok:bF rs us ts
def RX(K:wb)(a:Ad):Sp:=λvs H Q E=>∃x0 x1 x2,vs=[x0,x1,x2] /\ ∃(rs:List Int)(us ts:List (List Int)),B8 K H x0 x1 x2 rs us ts /\ ∀v H' ts',af H H'->ts'.Perm ts->fV ts'->Is K H' v (bI rs us ts')->Q v H'
theorem Jv{K:wb}{a:Ad}{H:Hp}{Q:VK}{E:XK}{x y z:V}{rs:List Int}{us ts:List (List Int)}(h:B8 K H x y z rs us ts)(q:∀v H' ts',af H H'->ts'.Perm ts->fV ts'->Is K H' v (bI rs us ts')->Q v H'):RX K a [x,y,z] H Q E:=⟨_,_,_,rfl,rs,us,ts,h,q⟩
theorem RN{K:wb}{H:Hp}{Q:VK}{v:V}{ds:List wq}(h:Is K H v (.list ds)\/Is K H v (.tuple ds))(q:∀w H',af H H'->Is K H' w (.tuple ds)->Q w H'):bQ K [v] H Q:=by
 rcases h with h | h
 ·exact fj h q
 ·exact Ep h (q v H (af.refl _) h)
theorem Cr(rows:List (List Int)):jf (rows.map TZ) rows:=⟨by rw[wd],λi hi=>.inr (by rw[wa,wz,wc hi,wa,wc hi];rfl)⟩
theorem Th{K:wb}{H:Hp}{x y z:V}{rs:List Int}{us ts:List (List Int)}(h0:Is K H x (TZ rs))(h1:Is K H y (cv us))(h2:Is K H z (cv ts))(ok:bF rs us ts):B8 K H x y z rs us ts :=
 ⟨⟨_,h0,.inr rfl⟩,⟨_,_,h1,.inr rfl,Cr us⟩,⟨_,_,h2,.inr rfl,Cr ts⟩,ok⟩
theorem JH(T:Txt K mg a):aM P w K mg base (dy P w) 6 a.Ij a.G_ sZ (RX K a):=by
 refine T.A1.F.lq zt1 ?_ ?_;wtm_at "b3"
 refine⟨_,(ah (bZ (cE (cw (ak (YU T) hr T.Gb (aa (pv 0) ae)))) (aq (iY T.lO rfl rfl T.lM iU (aa fJ ae))) b7)
     (ah (bZ (cE (cw (ak (zrj T) hr T.G9 (aa (pv 1) (aa (pv 0) ae))))) (aq (iY T.lO rfl rfl T.lM iU (aa fJ ae))) b7)
     (ah (bZ (cE (cw (ak (zpD T) hr T.GN (aa (pv 2) (aa (aU (show ay _ (.builtin "len") (bB K)from bX) rfl T.z_len bR (aa (pv 0) ae)) ae))))) (aq (iY T.lO rfl rfl T.lM iU (aa fJ ae))) b7)
     (aq (aH (b9 (aa (b_ (show ay _ (.type "tuple") (bQ K)from cA) rfl T.z_tuple cf (aa (pv 0) ae)) (aa (b_ (show ay _ (.type "tuple") (bQ K)from cA) rfl T.z_tuple cf (aa (cn rfl (bc.by (N':=["own"]) (src:=[none]) rfl (show bG _ (au pe).names oG ["own"] [none]=true from by decide +kernel)) (kH (pv 1)) (λ_ _ _ _ _=>(aN (i:=0) (show(["own"]:List Str).Nodup from by decide) rfl (Or.inl rfl))) (λ_ _ _ _ _=>cy) (λ_ _ _ _ _=>(b_ (show ay _ (.type "tuple") (bQ K)from cA) rfl T.z_tuple cf (aa (pv 0) ae)))) ae)) (aa (b_ (show ay _ (.type "tuple") (bQ K)from cA) rfl T.z_tuple cf (aa (aU (show ay _ (.builtin "sorted") (yK K)from Jd) rfl T.z_sorted yF (aa (cn rfl (bc.by (N':=["tie"]) (src:=[none]) rfl (show bG _ (au pe).names oG ["tie"] [none]=true from by decide +kernel)) (kH (pv 2)) (λ_ _ _ _ _=>(aN (i:=0) (show(["tie"]:List Str).Nodup from by decide) rfl (Or.inl rfl))) (λ_ _ _ _ _=>cy) (λ_ _ _ _ _=>(b_ (show ay _ (.type "tuple") (bQ K)from cA) rfl T.z_tuple cf (aa (pv 0) ae)))) ae)) ae)) ae))))))))),?_⟩
 wtm_at "cl";rw[show start oG [x0,x1,x2]=[some x0,some x1,some x2]from rfl];obtain⟨rs,us,ts,⟨⟨d0,i0,e0⟩,⟨d1,ds1,i1,s1,r1⟩,⟨d2,ds2,i2,s2,r2⟩,ok⟩,q⟩:=h;have n8:=ok.n8;have n1:=ok.n1;o_head TV i0 (by rw[e0.listed.2,wd];omega) (λH1 S1=>?_)
 rw[show oI d0=true from by
   unfold oI;rw[e0.A5 ok.r,e0.listed.2,wd,decide_eq_true n1,decide_eq_true n8];rfl]
 o_head YQ (i1.by S1) s1 r1 (i0.by S1) e0 ok.ul n8 (λi hi=>?_) (λH2 S2=>?_)
 . obtain⟨h1,h2⟩:=ok.u i hi
   have:=ok.ri hi;exact⟨h1,by omega,h2⟩
 have T2:=S1.trans S2;o_head jM (e0.is (i0.by T2)) ?_;rw[wd];o_head zpk (i2.by T2) s2 r2 ok.tl ok.t ok.nd (λH3 S3=>?_);have T3:=T2.trans S3;o_head RN (e0.is (i0.by T3)) (λw0 H4 S4 j0=>?_);have T4:=T3.trans S4;o_head BY (s1.is (i1.by T4)) r1 (by rw[r1.1,ok.ul];omega) rfl (λD5 us5 H5 n5 S5 e5 t5=>?_);have T5:=T4.trans S5;o_head fj (aW.mpr ⟨D5,us5,rfl,.of e5,t5⟩) (λw1 H6 S6 j1=>?_);have T6:=T5.trans S6;o_head BY (s2.is (i2.by T6)) r2 (by have:=ok.tl;rw[r2.1];omega) rfl (λD7 us7 H7 n7 S7 e7 t7=>?_);have T7:=T6.trans S7;o_head Mi (.inl (aW.mpr ⟨D7,us7,rfl,.of e7,t7⟩)) (by have:=ok.tl;omega) ok.nd (λk hk z=>?_) (λl8 H8 us8 js n8' S8 e8 pm so t8=>?_)
 . obtain⟨x,y,c,e,_⟩:=ok.t k hk
   rw[e]at z;cases z
 o_head fj (aW.mpr ⟨l8,us8,rfl,.of e8,t8⟩) (λw2 H9 S9 j2=>?_);o_head cC (ds:=[TZ rs,cv us,cv js]) (by simp) (.cons (((j0.by S5).by S6).by (S7.trans (S8.trans S9))) (.cons (j1.by (S7.trans (S8.trans S9))) (.cons j2 .nil))) (λv H10 S10 i10=>?_);exact q v H10 js (T7.trans (S8.trans (S9.trans S10))) pm so i10
def kI(rs:List Int)(d:wq):Bool:=i_ d&&(decide ((dk d).length=rs.length)&&(wo rs.length).all λi=>iJ 0 (rs.getD i 0-1) ((dk d).getD i .none))
def OL(K:wb):Sp:=λvs H Q _=>∃x0 x1,vs=[x0,x1] /\ ∃(d:wq)(rs:List Int),Is K H x0 d/\Is K H x1 (TZ rs)/\rs.length<=8 /\ ∀H',af H H'->Q (.bl (kI rs d)) H'
theorem Ko{K:wb}{H:Hp}{Q:VK}{E:XK}{v w:V}{d:wq}{rs:List Int}(h1:Is K H v d)(h2:Is K H w (TZ rs))(h8:rs.length<=8)(q:∀H',af H H'->Q (.bl (kI rs d)) H'):OL K [v,w] H Q E:=⟨_,_,rfl,d,rs,h1,h2,h8,q⟩
theorem zyP{K:wb}{H:Hp}{y:V}{rs:List Int}{i:Nat}(hj:i<rs.length)(iy:Is K H y ((rs.map PyData.int).getD i .none)):y=.int (rs.getD i 0):=by
 rw[wa,wz,wc hj]at iy;rw[wa,wc hj];exact bN.mp iy
theorem zi8(T:Txt K mg a):aM P w K mg base aR 3 a.FO a.Fs sf (OL K):=by
 refine T.FA.F.ok zjj ?_ ?_;wtm_at "b2"
 refine⟨_,(ah (bZ (PW.pt (f_ (cE (cw (ak (nN T) hr T.lH (aa (pv 0) ae)))) (hW (cb (show aJ _ (wW .NotEq) (eA K)from fF hu) (aU (show ay _ (.builtin "len") (bB K)from bX) rfl T.z_len bR (aa (pv 0) ae)) (aU (show ay _ (.builtin "len") (bB K)from bX) rfl T.z_len bR (aa (pv 1) ae)) (bD _))))) (aq (aH dY)) b7)
     (aq (aH (aU (show ay _ (.builtin "all") (kc K)from mB rfl) rfl T.z_all lW (aa (cn rfl (bc.by (N':=["phase","count"]) (src:=[none,none]) rfl (show bG _ (au tL).names ya ["phase","count"] [none,none]=true from by decide +kernel)) (IM rfl T.z_zip (aa (pv 0) (aa (pv 1) ae))) (λ_ _ _ _ _=>by exact(show PG _ _ (je K 2 _)from gz (n:=2) rfl (cV (aN (i:=0) (show(["phase","count"]:List Str).Nodup from by decide) rfl (Or.inl rfl)) (cV (aN (i:=1) (show(["phase","count"]:List Str).Nodup from by decide) rfl (Or.inl rfl)) gB)))) (λ_ _ _ _ _=>cy) (λ_ _ _ _ _=>(ak (Dw (K:=K) (mg:=mg) (a:=a) T) hr T.pT (aa aC (aa (aK AA (pv 1) aC) (aa (pv 0) ae)))))) ae))))),?_⟩
 wtm_at "cl";rw[show start ya [x0,x1]=[some x0,some x1]from rfl];obtain⟨d,rs,hd,hr',h8,q⟩:=h;unfold kI at q;o_head oh hd (λH1 S1=>?_);cases e:i_ d with
 | false =>
   rw[e]at q;k_few;exact q H1 S1
 | true =>
   rw[e]at q;have sd:=Bp (hd.by S1) e;o_head jM sd ?_;o_head kR (hr'.by S1) ?_;k_few
   . rename_i z
     have:=q H1 S1;rw[decide_eq_false (show ¬ (dk d).length=rs.length by omega)]at this;exact this
   . rename_i z
     have z:(dk d).length=rs.length:=by omega
     obtain⟨t,a1,xs,rfl,hx,tx⟩:=Du sd;obtain⟨b1,ys,rfl,hy,ty⟩:=bz.mp (hr'.by S1);have lx:=tx.length;have ly:=ty.length;rw[wd]at ly;refine⟨t,true,LH hx (show cg true K H1 b1 ys from hy) (by rw[lx,ly,z]) (o0:=none) (o0':=none) (tl:=[]) rfl (λj y H'=>y=.bl (iJ 0 (rs.getD j 0-1) ((dk d).getD j .none))) (λ_ _ _ _ _ z=>z) ?_ ?_⟩
     . intro D i x y zs o1 o2 H2 c hx' hy' inv ec
       obtain⟨hi,ix⟩:=cQ tx hx';obtain⟨hj,iy⟩:=cQ ty hy';rw[wd]at hj;have iyv:=zyP hj iy;subst iyv;have S2:=inv.2.2.1;refine jJ (jj (.of ec) rfl ?_);o_head C5 (ix.by S2) ?_;k_few;exact rO inv (by omega) (λ_ _ _ _ _ z=>z) ⟨_,_,rfl⟩ (af.refl _) rfl
     . intro D zs H2 hn S2 hD hl2 hr2
       have hzs:zs=((wo rs.length).map λi=>iJ 0 (rs.getD i 0-1) ((dk d).getD i .none)).map V.bl:=by
         refine vQ (by rw[hl2,lx,z,wd,wd,vi]) λj h1 h2=>?_
         have:=hr2 j zs[j] (wc h1);rw[this,vJ,vJ,Vm]
       subst hzs;o_head kh (.of hD) ?_;rw[EO];have:=q H2 (S1.trans S2);rw[decide_eq_true z]at this;exact this
def IV(K:wb):Sp:=λvs H Q _=>∃x0,vs=[x0] /\ ∃(rs:List Int)(us ts:List (List Int)),Is K H x0 (bI rs us ts)/\rs.length<=8 /\ ∀v H',af H H'->Is K H' v (TZ (wm rs.length 0))->Q v H'
theorem MG{K:wb}{H:Hp}{Q:VK}{E:XK}{v:V}{rs:List Int}{us ts:List (List Int)}(h1:Is K H v (bI rs us ts))(h8:rs.length<=8)(q:∀v H',af H H'->Is K H' v (TZ (wm rs.length 0))->Q v H'):IV K [v] H Q E:=⟨_,rfl,rs,us,ts,h1,h8,q⟩
theorem JM(T:Txt K mg a):aM P w K mg base aR 1 a.GB a.FQ zN (IV K):=by
 refine T.AN.F.ok zl9 ?_ ?_;wtm_at "b1";refine⟨_,(aq (aH (b_ (show ay _ (.type "tuple") (bQ K)from cA) rfl T.z_tuple cf (aa (cn rfl (bc.by (N':=["worm"]) (src:=[none]) rfl (show bG _ (au rC).names x_ ["worm"] [none]=true from by decide +kernel)) (gQ (aA (pv 0))) (λ_ _ _ _ _=>(aN (i:=0) (show(["worm"]:List Str).Nodup from by decide) rfl (Or.inl rfl))) (λ_ _ _ _ _=>cy) (λ_ _ _ _ _=>aC)) ae)))),?_⟩;wtm_at "cl";rw[show start x_ [x0]=[some x0]from rfl];obtain⟨rs,us,ts,hw,h8,q⟩:=h;o_head iP hw (λx ix=>?_);obtain⟨b1,ys,rfl,hy,ty⟩:=bz.mp ix;have ly:=ty.length;rw[wd]at ly;refine iN hy (o0:=none) (tl:=[]) rfl (λj y H'=>y=.int 0) ?_ ?_
 ·intro D i x ys' o H2 hx inv
  have:=gI hx;k_few;exact dB inv (by omega) (λ_ _ _ _ _ z=>z) ⟨_,rfl⟩ (af.refl _) rfl
 ·intro D zs H2 hn S2 hD hl hr
  have hzs:zs=(wm rs.length (0:Int)).map V.int:=by
   refine vQ (by rw[hl,ly,wd,wO]) λj h1 h2=>?_
   have:=hr j zs[j] (wc h1);rw[this,vJ,qu]
  subst hzs;o_head gm (.of hD) (λl3 H3 n3 S3 e3=>?_);exact q _ H3 (S2.trans S3) (eY.mpr ⟨l3,rfl,.of e3⟩)
def bj(n:Nat):List (List Int):=wm 4 (wm n 0)
theorem P_{rs ps:List Int}(hl:ps.length=rs.length)(hp:∀i,i<rs.length->0<=ps.getD i 0/\ps.getD i 0<rs.getD i 0):cq rs ps (bj rs.length):=by
 refine⟨hl,hp,by simp[bj],λd hd=>?_⟩
 have e:(bj rs.length).getD d []=wm rs.length 0:=by
  unfold bj;rw[wa,vO,if_pos hd];rfl
 rw[e];refine⟨by simp,λi hi=>?_⟩;rw[wa,vO,if_pos hi];simp;omega
def NX(K:wb)(a:Ad):Sp:=λvs H Q E=>∃x0 x1,vs=[x0,x1] /\ ∃(rs:List Int)(us ts:List (List Int))(d:wq),Is K H x0 (bI rs us ts)/\rs.length<=8/\Is K H x1 d/\((kI rs d=false /\ ∀H',af H H'->E (.ref a.nq) none H')\/(∃ps,kI rs d=true/\eR d ps /\ ∀v H',af H H'->Is K H' v (aY ps (bj rs.length))->Q v H'))
theorem zBz{rs ps:List Int}{d:wq}(h:eR d ps)(hl:ps.length=rs.length)(hp:∀i,i<rs.length->0<=ps.getD i 0/\ps.getD i 0<rs.getD i 0):kI rs d=true:=by
 unfold kI;rw[h.listed.1,h.listed.2,wd,decide_eq_true hl,W6,W6,WB];intro i hi;have hi:=wB.mp hi
 have e:(ps.map PyData.int).getD i .none=.int (ps.getD i 0):=by
  rw[wa,wz,wc (by omega),wa,wc (by omega)];rfl
 rw[e];have:=hp i hi
 show(decide (0<=ps.getD i 0)&&decide (ps.getD i 0<=rs.getD i 0-1))=true
 rw[decide_eq_true this.1,decide_eq_true (by omega)];rfl
theorem zqa{K:wb}{a:Ad}{H:Hp}{Q:VK}{E:XK}{v w:V}{rs ps:List Int}{us ts:List (List Int)}{d:wq}(h:Is K H v (bI rs us ts))(h8:rs.length<=8)(h2:Is K H w d)(di:eR d ps)(hl:ps.length=rs.length)(hp:∀i,i<rs.length->0<=ps.getD i 0/\ps.getD i 0<rs.getD i 0)(q:∀v H',af H H'->Is K H' v (aY ps (bj rs.length))->Q v H'):NX K a [v,w] H Q E:=⟨_,_,rfl,rs,us,ts,d,h,h8,h2,.inr ⟨ps,zBz di hl hp,di,q⟩⟩
theorem zp3(T:Txt K mg a):aM P w K mg base (dy P w) 4 a.HF a.Gm zd (NX K a):=by
 refine T.G3.F.lq zqm ?_ ?_;wtm_at "b2"
 refine⟨_,(ah (bZ (cE (cw (ak (zi8 T) hr T.FA (aa (pv 1) (aa (aA (pv 0)) ae))))) (aq (iY T.Hi rfl rfl T.Hn iU (aa fJ ae))) b7)
     (aq (aH (b9 (aa (b_ (show ay _ (.type "tuple") (bQ K)from cA) rfl T.z_tuple cf (aa (pv 1) ae)) (aa (b_ (show ay _ (.type "tuple") (bQ K)from cA) rfl T.z_tuple cf (aa (cn rfl (bc.by (N':=["delay","web"]) (src:=[none,some 0]) rfl (show bG _ (au zO).names yx ["delay","web"] [none,some 0]=true from by decide +kernel)) (fb rfl T.z_range (aa (ib rfl T.F_) ae)) (λ_ _ _ _ _=>(aN (i:=0) (show(["delay","web"]:List Str).Nodup from by decide) rfl (Or.inl rfl))) (λ_ _ _ _ _=>cy) (λ_ _ _ _ _=>(ak (JM (K:=K) (mg:=mg) (a:=a) T) hr T.AN (aa (pv 1) ae)))) ae)) ae)))))),?_⟩
 wtm_at "cl";rw[show start yx [x0,x1]=[some x0,some x1]from rfl];obtain⟨rs,us,ts,d,hw,h8,hd,h⟩:=h;rcases h with⟨hn,qe⟩ | ⟨ps,hn,di,q⟩
 . k_few
   refine iP hw (λx ix=>?_);o_head Ko hd ix h8 (λH1 S1=>?_);rw[hn];k_few;exact⟨by simp;decide,qe H1 S1⟩
 . k_few
   refine iP hw (λx ix=>?_);o_head Ko hd ix h8 (λH1 S1=>?_);rw[hn];o_head RN (di.is (hd.by S1)) (λw2 H2 S2 i2=>?_);have T2:=S1.trans S2;o_head Jk (n:=4) (by decide) (by decide) (o0:=none) (tl:=[some x0]) rfl (λj y H'=>Is K H' y (TZ (wm rs.length 0))) ?_ ?_
   . intro D i ys o H3 hi inv
     have hi4:i<4:=hi;o_head MG ((hw.by T2).by inv.same) h8 (λv H4 S4 i4=>?_);k_few;exact dB inv (by omega) (λ_ _ _ _ k z=>z.fU k) ⟨_,rfl⟩ S4 i4
   . intro D zs H3 hn3 S3 hD hl hr3
     have t3:ag K H3 zs ((bj rs.length).map TZ):=by
       refine kM (by rw[hl,wd];simp[bj]) λi x hx=>?_
       have hi:=gI hx;rw[hl]at hi;have hi4:i<4:=hi;have:=hr3 i x hx;rw[wa,wz,bj,vO,if_pos hi4];exact this
     o_head fj (aW.mpr ⟨D,zs,rfl,.of hD,t3⟩) (λw4 H4 S4 i4=>?_);o_head cC (ds:=[TZ ps,cv (bj rs.length)]) (by simp) (.cons (i2.by (S3.trans S4)) (.cons i4 .nil)) (λv5 H5 S5 i5=>?_);exact q v5 H5 (T2.trans (S3.trans (S4.trans S5))) i5
def aS(n:Nat):List Int:=(wo n).map λ(w:Nat)=>(w:Int)
def nK(K:wb):Sp:=λvs H Q _=>∃x0 x1,vs=[x0,x1] /\ ∃(n:Nat),x1=.int (n:Int)/\n<=8/\((∃d,Is K H x0 d/\fZ d=false /\ ∀H',af H H'->Q (.bl false) H')\/(∃ds,Is K H x0 (.list ds)/\ds.length<=60/\ds.all isInt=false /\ ∀H',af H H'->Q (.bl false) H')\/(∃ns,Is K H x0 (LZ ns)/\ns.length<=60 /\ ∀H',af H H'->Q (.bl (decide (ns.Perm (aS n)))) H'))
theorem znK{K:wb}{H:Hp}{Q:VK}{E:XK}{v:V}{n:Nat}{d:wq}(h8:n<=8)(h:Is K H v d)(e:fZ d=false)(q:∀H',af H H'->Q (.bl false) H'):nK K [v,.int (n:Int)] H Q E:=⟨_,_,rfl,n,rfl,h8,.inl ⟨d,h,e,q⟩⟩
theorem zo1{K:wb}{H:Hp}{Q:VK}{E:XK}{v:V}{n:Nat}{ds:List wq}(h8:n<=8)(h:Is K H v (.list ds))(hl:ds.length<=60)(e:ds.all isInt=false)(q:∀H',af H H'->Q (.bl false) H'):nK K [v,.int (n:Int)] H Q E:=⟨_,_,rfl,n,rfl,h8,.inr (.inl ⟨ds,h,hl,e,q⟩)⟩
theorem sV{K:wb}{H:Hp}{Q:VK}{E:XK}{v:V}{n:Nat}{ns:List Int}(h8:n<=8)(h:Is K H v (LZ ns))(hl:ns.length<=60)(q:∀H',af H H'->Q (.bl (decide (ns.Perm (aS n)))) H'):nK K [v,.int (n:Int)] H Q E:=⟨_,_,rfl,n,rfl,h8,.inr (.inr ⟨ns,h,hl,q⟩)⟩
theorem zvb(ns:List Int):(ns.map PyData.int).all isInt=true:=by rw[V3,WB];intro x _;rfl
theorem KH:∀ms ns:List Int,Ws (ms.map .int) (ns.map .int)=decide (ms=ns)
 | [],[]=>rfl
 | [],_::_=>by simp[Ws]
 | _::_,[]=>by simp[Ws]
 | m::ms,n::ns=>by
  rw[wZ,wZ,Ws,Dj,KH ms ns]
  by_cases h:m=n<;>by_cases k:ms=ns<;>simp[h,k]
theorem zAI(ms ns:List Int):vn (LZ ms) (LZ ns)=decide (ms=ns):=by
 unfold LZ;rw[vn];exact KH ms ns
theorem zBi(n:Nat):(aS n).Pairwise (· <= ·):=by
 unfold aS;rw[WF];exact Vv.imp λ{x y} k=>by omega
theorem Yx(n:Nat):vz (wo n)=(aS n).map V.int:=by unfold vz aS;rw[W3];rfl
theorem DE(T:Txt K mg a):aM P w K mg base aR 2 a.HI a.Gj tH (nK K):=by
 refine T.pV.F.ok zqt ?_ ?_;wtm_at "b2"
 refine⟨_,(ah (bZ (PW.pt (f_ (cE (cw (aU (show ay _ (.builtin "isinstance") (gC K)from oF) rfl T.z_isinstance kG (aa (pv 0) (aa (jF (v:=.ty "list") rfl T.z_list oz rfl) ae))))) (hW (cE (cw (aU (show ay _ (.builtin "all") (kc K)from mB rfl) rfl T.z_all lW (aa (cn rfl (bc.by (N':=["one"]) (src:=[none]) rfl (show bG _ (au zX).names An ["one"] [none]=true from by decide +kernel)) (e_ (pv 0)) (λ_ _ _ _ _=>(aN (i:=0) (show(["one"]:List Str).Nodup from by decide) rfl (Or.inl rfl))) (λ_ _ _ _ _=>cy) (λ_ _ _ _ _=>(ak (yk (K:=K) (mg:=mg) (a:=a) T) hr T.nk (aa (pv 0) ae)))) ae))))))) (aq (aH dY)) b7)
     (aq (aH (eW (show aJ _ (wW .Eq) (dW K)from fN hu) (aU (show ay _ (.builtin "sorted") (rS K)from Nk) rfl T.z_sorted yF (aa (pv 0) ae)) (tR rfl rfl T.z_list rfl T.z_range (aa (pv 1) ae)) (bD _))))),?_⟩
 wtm_at "cl";rw[show start An [x0,x1]=[some x0,some x1]from rfl];obtain⟨n,rfl,h8,h⟩:=h;rcases h with⟨d,hd,hn,q⟩ | ⟨ds,hd,hl,hn,q⟩ | ⟨ns,hd,hl,q⟩
 . k_few
   refine Ea hd ?_;rw[hn];k_few;exact q H (af.refl _)
 . k_few
   refine Ea hd ?_;rw[show fZ (.list ds)=true from rfl];obtain⟨ap,us,rfl,hs,tu⟩:=aW.mp hd;have hul:=tu.length;k_few
   . skip
     refine kZ (o0:=none) (tl:=[]) hs rfl (λj y H'=>y=.bl (isInt (ds.getD j .none))) ?_ ?_
     . intro D i x ys o H2 hx inv
       obtain⟨hi,ix⟩:=cQ tu hx;o_head DD (ix.by inv.same) ?_;k_few;exact dB inv (by omega) (λ_ _ _ _ _ z=>z) ⟨_,rfl⟩ (af.refl _) rfl
     . intro D ys H2 hn2 S2 hD hl2 hr
       have hys:ys=(ds.map isInt).map V.bl:=by
         refine vQ (by rw[hl2,hul,wd,wd]) λj h1 h2=>?_
         have:=hr j ys[j] (wc h1);rw[this,vJ,vJ,wa,wc]
         rfl
       subst hys;o_head kh (.of hD) ?_;have e:(ds.map isInt).all id=ds.all isInt:=by rw[V3];rfl
       rw[e,hn];k_few;exact q H2 S2
 . k_few
   refine Ea hd ?_;rw[show fZ (LZ ns)=true from rfl];obtain⟨ap,us,rfl,hs,tu⟩:=aW.mp hd;have hul:=tu.length;have hus:=jA.mp tu;rw[wd]at hul;k_few
   . skip
     refine kZ (o0:=none) (tl:=[]) hs rfl (λj y H'=>y=.bl (isInt ((ns.map PyData.int).getD j .none))) ?_ ?_
     . intro D i x ys o H2 hx inv
       obtain⟨hi,ix⟩:=cQ tu hx;o_head DD (ix.by inv.same) ?_;k_few;exact dB inv (by rw[wd]at hi;omega) (λ_ _ _ _ _ z=>z) ⟨_,rfl⟩ (af.refl _) rfl
     . intro D ys H2 hn2 S2 hD hl2 hr
       have hys:ys=((ns.map PyData.int).map isInt).map V.bl:=by
         refine vQ (by rw[hl2,hul,wd,wd,wd]) λj h1 h2=>?_
         have:=hr j ys[j] (wc h1);rw[this,vJ,vJ,wa,wc]
         rfl
       subst hys;o_head kh (.of hD) ?_;have e:((ns.map PyData.int).map isInt).all id=(ns.map PyData.int).all isInt:=by rw[V3];rfl
       rw[e,zvb];k_few;subst hus;refine Lu (S2.seq hs) (by omega) (λl3 H3 ms n3 S3 e3 pm so=>?_);o_head sL (by omega) (λl4 H4 n4 S4 e4=>?_);rw[Yx]at e4;refine zi (mZ (S4 _ _ e3)) (mZ e4) ((PD _).shaped (by decide)) ((PD _).shaped (by decide)) ?_;rw[zAI];have q':=q H4 (S2.trans (S3.trans S4))
       have ee:decide (ms=aS n)=decide (ns.Perm (aS n)):=by
         rw[decide_eq_decide]
         constructor
         . rintro rfl;exact pm.symm
         . intro z;exact Bu (pm.trans z) so (zBi n)
       rw[ee];exact q'
def d_{α : Type}(d : α)(ns:List Int)(xs:List α):Nat->List α
 | 0=>xs
 | k+1=>(d_ d ns xs k).set (ns.getD k 0).toNat (xs.getD k d)
theorem yX{α : Type}{d : α}(ns:List Int)(xs:List α):∀k,(d_ d ns xs k).length=xs.length
 | 0=>rfl
 | k+1=>by rw[d_,VB,yX]
theorem RP{α β : Type}(f : α -> β)(d : α)(ns:List Int)(xs:List α):∀k,(d_ d ns xs k).map f=d_ (f d) ns (xs.map f) k
 | 0=>rfl
 | k+1=>by
  rw[d_,d_,U3,RP f d ns xs k]
  congr 1
  rw[wa,wa,wz];cases xs[k]?<;>rfl
theorem Ka{α : Type}(d e : α)(ns:List Int)(xs:List α):∀k,k<=xs.length->d_ d ns xs k=d_ e ns xs k
 | 0,_=>rfl
 | k+1,h=>by
  rw[d_,d_,Ka d e ns xs k (by omega)]
  congr 1
  rw[wa,wa,wc (show k<xs.length by omega)]
  rfl
def aj{α : Type}(d : α)(ns:List Int)(xs:List α):List α:=d_ d ns xs xs.length
theorem cY{α : Type}{d : α}(ns:List Int)(xs:List α):(aj d ns xs).length=xs.length:=yX ns xs _
theorem nX{α β : Type}(f : α -> β)(d : α)(e : β)(ns:List Int)(xs:List α):(aj d ns xs).map f=aj e ns (xs.map f):=by
 unfold aj;rw[RP,wd];exact Ka _ _ _ _ _ (by rw[wd];exact wu _)
theorem Jj{ds:List wq}(h:a_ ds=true):∀{i:Nat},i<ds.length->bV (ds.getD i .none)=true:=by
 induction ds with
 | nil=>intro i hi;simp at hi
 | cons d ds ih =>
  have h:(bV d&&a_ ds)=true:=h;rw[vf]at h;intro i hi;cases i with
  | zero=>exact h.1
  | succ i=>exact ih h.2 (by simp at hi;omega)
theorem zqX{ds:List wq}{d:wq}(h:a_ ds=true)(k:bV d=true):∀i,a_ (ds.set i d)=true:=by
 induction ds with
 | nil=>intro i;exact h
 | cons e ds ih =>
  have h:(bV e&&a_ ds)=true:=h;rw[vf]at h;intro i;cases i with
  | zero=>show(bV d&&a_ ds)=true;rw[k,h.2];rfl
  | succ i=>show(bV e&&a_ (ds.set i d))=true;rw[h.1,ih h.2 i];rfl
theorem RG{ns:List Int}{ds:List wq}(h:a_ ds=true):∀k,k<=ds.length->a_ (d_ .none ns ds k)=true
 | 0,_=>h
 | k+1,hk=>by rw[d_];exact zqX (RG h k (by omega)) (Jj h (by omega)) _
theorem Oc{K:wb}{H:Hp} : ∀{us:List V}{ds:List wq}(i:Nat){v:V}{d:wq},ag K H us ds->Is K H v d->ag K H (us.set i v) (ds.set i d)
 | us,[],i,v,d,t,h=>by
  rw[dM.mp t];exact .nil
 | us,y::xs,0,v,d,t,h=>by
  obtain⟨u,r,rfl,_,t'⟩:=ck.mp t;exact .cons h t'
 | us,y::xs,i+1,v,d,t,h=>by
  obtain⟨u,r,rfl,hu,t'⟩:=ck.mp t;exact .cons hu (Oc i t' h)
theorem zL:∀ns:List Int,a_ (ns.map PyData.int)=true
 | []=>rfl
 | n::ns=>by
  show(bV (.int n)&&a_ (ns.map PyData.int))=true
  rw[zL ns];rfl
def Kj(K:wb):Sp:=λvs H Q _=>∃x0 x1,vs=[x0,x1] /\ ∃(ao:wf)(ns:List Int)(ds:List wq),x0=.ref ao/\H ao=some (.lst (ns.map V.int))/\Is K H x1 (.tuple ds)/\a_ ds=true/\ns.length=ds.length/\ds.length<=8/\(∀n∈ns,0<=n/\n<(ds.length:Int)) /\ ∀v H',af H H'->Is K H' v (.tuple (aj .none ns ds))->Q v H'
theorem nP{K:wb}{H:Hp}{Q:VK}{E:XK}{ao:wf}{w:V}{ns:List Int}{ds:List wq}(h1:H ao=some (.lst (ns.map V.int)))(h2:Is K H w (.tuple ds))(im:a_ ds=true)(hl:ns.length=ds.length)(h8:ds.length<=8)(hn:∀n∈ns,0<=n/\n<(ds.length:Int))(q:∀v H',af H H'->Is K H' v (.tuple (aj .none ns ds))->Q v H'):Kj K [.ref ao,w] H Q E:=⟨_,_,rfl,ao,ns,ds,rfl,h1,h2,im,hl,h8,hn,q⟩
theorem zAN{n:Nat}{k:Int}(h0:0<=k)(h1:k<(n:Int)):fR n k=some k.toNat:=by
 unfold fR;rw[if_pos h0,if_pos h1]
theorem pQ(T:Txt K mg a):aM P w K mg base aR 1 a.Iq a.Ho zx (Kj K):=by
 refine T.lI.F.ok AI ?_ ?_;wtm_at "b2"
 refine⟨_,(ah (aD 2 AI.nd (b_ (show ay _ (.type "list") (DG K)from zri) rfl T.z_list oz (aa (pv 1) ae)))
     (ah (dG vE rfl (zyI rfl T.z_zip (aa (pv 0) (aa (pv 1) ae))) (gz (n:=2) rfl (cV (aN (i:=3) AI.nd rfl (Or.inl rfl)) (cV (aN (i:=4) AI.nd rfl (Or.inl rfl)) gB))) (aq (ni (pv 4) (oC (pv 2) (pv 3) pq))))
     (aq (aH (b_ (show ay _ (.type "tuple") (bQ K)from cA) rfl T.z_tuple cf (aa (pv 2) ae)))))),?_⟩
 wtm_at "cl";rw[show start Nq [x0,x1]=[some x0,some x1,none,none,none]from rfl];obtain⟨ao,ns,ds,rfl,eo,hx',im,hl,h8,hin,q⟩:=h;o_head zuQ hx' (λlt H1 us n1 S1 e1 t1=>?_);obtain⟨ax,xus,rfl,hsx,tx⟩:=bz.mp (hx'.by S1);have hxl:=tx.length;have nao:ao≠lt:=λz=>by subst z;rw[eo]at n1;cases n1
 have eo1:=S1 _ _ eo;o_head N9 (t:=false) (u:=true) (show cg false K H1 ao (ns.map V.int)from .of eo1) (show cg true K H1 ax xus from hsx) (by rw[wd,hxl,hl]) (λk σ H'=>∃o3 o4 us',σ = [some (.ref ao),some (.ref ax),some (.ref lt),o3,o4]/\Exc lt H1 H'/\H' lt=some (.lst us')/\ag K H' us' (d_ .none ns ds k)) ⟨_,_,us,rfl,Exc.refl _ _,e1,t1⟩ (λi σ H' _ ⟨_,_,_,_,E,_⟩=>⟨.of (E.at nao eo1),(E.keep e1).d9 hsx⟩) ?_ ?_
 . rintro i x y σ H2 c H3 hx hy ⟨o3,o4,us',rfl,E2,e2,t2⟩ hc S3 e3
   have hi:i<ds.length:=by rw[<- hxl];exact gI hy
   have iy:Is K H1 y (ds.getD i .none):=by
     obtain⟨z,ez,iz⟩:=tx.get (show ds[i]? = some (ds.getD i .none) by rw[wa,wc hi];rfl);rw[hy]at ez;cases ez;exact iz
   have hin':i<ns.length:=by omega
   have hxv:x=.int (ns.getD i 0):=by
     rw[wz,wc hin']at hx;rw[wa,wc hin'];exact(wV hx).symm
   subst hxv;have hr:=hin (ns.getD i 0) (GM.getD_mem hin');have hlu:us'.length=ds.length:=by rw[t2.length,yX]
   refine jj (.of e3) rfl ?_;o_head rE (j:=(ns.getD i 0).toNat) (S3 _ _ e2) (by rw[hlu];exact zAN hr.1 hr.2) (λH4 E4 e4=>?_);have k4:=E4.keep (S3 _ _ e2);o_head ⟨_,_,_,rfl,E2.trans (S3.exc.trans E4),e4,?_⟩;rw[d_];exact Oc _ (ag.keep (S3.keep.trans k4) _ _ (RG im i (by omega)) t2) (iy.eX ((E2.keep e1).trans (S3.keep.trans k4)) (Jj im hi))
 . rintro σ H2 ⟨o3,o4,us',rfl,E2,e2,t2⟩
   rw[wd,hl]at t2;o_head fj (aW.mpr ⟨lt,us',rfl,.of e2,t2⟩) (λv H3 S3 i3=>?_);exact q v H3 ((S1.grow n1 E2).trans S3) i3
def yU(K:wb)(H:Hp)(v:V)(n:Nat):Prop:=(∃d,Is K H v d/\fZ d=false)\/(∃ds,Is K H v (.list ds)/\ds.length<=60/\ds.all isInt=false)\/(∃ns,Is K H v (LZ ns)/\ns.length<=60 /\ ¬ ns.Perm (aS n))
theorem BP{K:wb}{H:Hp}{Q:VK}{E:XK}{v:V}{n:Nat}(h8:n<=8)(h:yU K H v n)(q:∀H',af H H'->Q (.bl false) H'):nK K [v,.int (n:Int)] H Q E:=by
 rcases h with⟨d,i,e⟩ | ⟨ds,i,l,e⟩ | ⟨ns,i,l,e⟩
 ·exact znK h8 i e q
 ·exact zo1 h8 i l e q
 ·exact sV h8 i l (by rw[decide_eq_false e];exact q)
theorem fI{ns:List Int}{n:Nat}(h:ns.Perm (aS n)):ns.length=n /\ ∀m∈ns,0<=m/\m<(n:Int):=by
 refine⟨by rw[h.length_eq];simp[aS],λm hm=>?_⟩;obtain⟨w,hw,rfl⟩:=wQ.mp (h.mem_iff.mp hm);have:=wB.mp hw;omega
theorem nS{α : Type}[DecidableEq α]:∀{l m:List α},l.Nodup->m.Nodup->(∀x,x∈l ↔ x∈m)->l.Perm m
 | [],m,_,_,h=>by
  have:m=[]:=List.eq_nil_iff_forall_not_mem.mpr λx hx=>WM ((h x).mpr hx)
  rw[this]
 | x::l,m,hl,hm,h=>by
  have hx:=(h x).mp (wN ..);rw[Wp]at hl;refine(Xd.cons x (nS hl.2 (hm.erase x) λy=>?_)).trans (List.perm_cons_erase hx).symm;rw[List.Nodup.mem_erase_iff hm]
  constructor
  ·intro hy
   exact⟨λe=>hl.1 (by rw[<- e];exact hy),(h y).mp (wI _ hy)⟩
  ·rintro ⟨ne,hy⟩
   rcases wE.mp ((h y).mpr hy)with e | e
   ·exact absurd e ne
   ·exact e
theorem L1{α : Type} : ∀{ys:List α},ys.Nodup->∀{i j:Nat}(hi:i<ys.length)(hj:j<ys.length),ys[i]=ys[j]->i=j
 | [],_,_,_,hi,_,_=>absurd hi (Wl _)
 | y::ys,h,0,0,_,_,_=>rfl
 | y::ys,h,0,j+1,hi,hj,e=>by
  rw[Wp]at h;exact absurd (vc (Ww hj)) (by rw[qt,Wx]at e;rw[<- e];exact h.1)
 | y::ys,h,i+1,0,hi,hj,e=>by
  rw[Wp]at h;exact absurd (vc (Ww hi)) (by rw[qt,Wx]at e;rw[e];exact h.1)
 | y::ys,h,i+1,j+1,hi,hj,e=>by
  rw[Wp]at h;rw[Wx,Wx]at e;rw[L1 h.2 (Ww hi) (Ww hj) e]
theorem kP{ns:List Int}(h:ns.Nodup){i:Nat}(hi:i<ns.length):ns.idxOf ns[i]=i:=by
 have hl:=Wc.mpr (vc hi);exact L1 h hl hi (Vy hl)
section
variable{ns:List Int}{α : Type}{d : α}{xs:List α}{n:Nat}
theorem lB(pm:ns.Perm (aS n)):ns.Nodup:=pm.nodup_iff.mpr (by
 unfold aS Q1;rw[WF];exact Vv.imp λ{x y} k=>by omega)
theorem jw(pm:ns.Perm (aS n)){w:Nat}(hw:w<n):(w:Int)∈ns:=pm.mem_iff.mpr (wQ.mpr ⟨w,wB.mpr hw,rfl⟩)
theorem MI(pm:ns.Perm (aS n))(hx:xs.length=n){w:Nat}(hw:w<n):∀k,k<=n->(d_ d ns xs k).getD w d=if ns.idxOf (w:Int)<k then xs.getD (ns.idxOf (w:Int)) d else xs.getD w d
 | 0,_=>by rw[if_neg (Wl _)];rfl
 | k+1,hk=>by
  obtain⟨hl,hin⟩:=fI pm;have hkl:k<ns.length:=by omega
  have nd:=lB pm;have hb:=hin ns[k] (vc hkl);have hg:ns.getD k 0=ns[k]:=by rw[wa,wc hkl];rfl
  show((d_ d ns xs k).set (ns.getD k 0).toNat (xs.getD k d)).getD w d=_
  rw[hg,wa,qx,yX]
  by_cases e:ns[k].toNat=w
  ·have e':(w:Int)=ns[k]:=by omega
   rw[if_pos e,if_pos (by omega),e',kP nd hkl,if_pos (u4 _)]
   rfl
  ·rw[if_neg e,<- wa,MI pm hx hw k (by omega)]
   have ne:ns.idxOf (w:Int)≠k:=λz=>by
    have hi:=Wc.mpr (jw pm hw);have:=Vy hi;subst z;omega
   by_cases h:ns.idxOf (w:Int)<k
   ·rw[if_pos h,if_pos (by omega)]
   ·rw[if_neg h,if_neg (by omega)]
theorem eZ(pm:ns.Perm (aS n))(hx:xs.length=n){w:Nat}(hw:w<n):(aj d ns xs).getD w d=xs.getD (ns.idxOf (w:Int)) d:=by
 unfold aj;rw[MI pm hx hw _ (by omega),if_pos];have:=Wc.mpr (jw pm hw);rw[(fI pm).1]at this;omega
def dH(ns:List Int)(n:Nat):List Int:=(wo n).map λ(w:Nat)=>((ns.idxOf (w:Int):Nat):Int)
theorem oA(pm:ns.Perm (aS n))(hx:xs.length=n):aj d ns xs=(wo n).map λ(w:Nat)=>xs.getD (ns.idxOf (w:Int)) d:=by
 refine vQ (by rw[cY,hx];simp) λi h1 h2=>?_
 have hi:i<n:=by rw[cY,hx]at h1;exact h1
 have:=eZ (d:=d) pm hx hi;rw[wa,wc h1,QI]at this;rw[this,vJ,Vm]
theorem Ef(ns:List Int)(n:Nat):(dH ns n).length=n:=by simp[dH]
theorem Ru{w:Nat}(hw:w<n):(dH ns n)[w]'(by rw[Ef];exact hw)=((ns.idxOf (w:Int):Nat):Int):=by simp[dH]
theorem JI(pm:ns.Perm (aS n)):(dH ns n).Nodup:=by
 unfold dH Q1;rw[WF];refine(QL.mp Wn).imp λ{x y} h e=>?_
 obtain⟨hx,hy,ne⟩:=h;have hx:=wB.mp hx;have hy:=wB.mp hy;have h1:=Vy (Wc.mpr (jw pm hx));have h2:=Vy (Wc.mpr (jw pm hy));have e:ns.idxOf (x:Int)=ns.idxOf (y:Int):=by omega
 have:(x:Int)=(y:Int):=by rw[<- h1,<- h2];congr 1
 exact ne (by omega)
theorem zxa(pm:ns.Perm (aS n)):(dH ns n).Perm (aS n):=by
 obtain⟨hl,hin⟩:=fI pm;refine nS (JI pm) (lB (UB (aS n))) λz=>?_
 constructor
 ·intro hz
  obtain⟨w,hw,rfl⟩:=wQ.mp hz;have:=Wc.mpr (jw pm (wB.mp hw));exact wQ.mpr ⟨ns.idxOf (w:Int),wB.mpr (by omega),rfl⟩
 ·intro hz
  obtain⟨j,hj,rfl⟩:=wQ.mp hz;have hj:=wB.mp hj;have hjl:j<ns.length:=by omega
  have hb:=hin ns[j] (vc hjl);refine wQ.mpr ⟨ns[j].toNat,wB.mpr (by omega),?_⟩;rw[show((ns[j].toNat:Nat):Int)=ns[j] by omega,kP (lB pm) hjl]
theorem JO(pm:ns.Perm (aS n))(hx:xs.length=n):aj d (dH ns n) (aj d ns xs)=xs:=by
 obtain⟨hl,hin⟩:=fI pm;refine vQ (by rw[cY,cY]) λi h1 h2=>?_
 have hi:i<n:=by omega
 have hil:i<ns.length:=by omega
 have hb:=hin ns[i] (vc hil);have e1:=eZ (d:=d) (zxa pm) (by rw[cY];exact hx) (xs:=aj d ns xs) hi;rw[wa,wc h1,QI]at e1
 have hv:(dH ns n).idxOf (i:Int)=ns[i].toNat:=by
  have hw:ns[i].toNat<n:=by omega
  have:=Ru (ns:=ns) hw;rw[show((ns[i].toNat:Nat):Int)=ns[i] by omega,kP (lB pm) hil]at this;rw[<- this];exact kP (JI pm) (by rw[Ef];exact hw)
 rw[e1,hv,eZ (d:=d) pm hx (by omega),show((ns[i].toNat:Nat):Int)=ns[i] by omega,kP (lB pm) hil,wa,wc h2]
 rfl
end
def d6(ns:List Int)(t:List Int):List Int:=[ns.getD (t.getD 0 0).toNat 0,ns.getD (t.getD 1 0).toNat 0,t.getD 2 0]
theorem CM{ns:List Int}{n a:Nat}(pm:ns.Perm (aS n))(ha:a<n):∃b:Nat,ns.getD a 0=(b:Int)/\b<n:=by
 obtain⟨hl,hin⟩:=fI pm;have hal:a<ns.length:=by omega
 have hb:=hin ns[a] (vc hal);refine⟨ns[a].toNat,?_,by omega⟩;rw[wa,wc hal]
 show ns[a]=_
 omega
theorem Aa{ns:List Int}{n a:Nat}(pm:ns.Perm (aS n))(ha:a<n):(dH ns n).getD (ns.getD a 0).toNat 0=(a:Int):=by
 obtain⟨hl,hin⟩:=fI pm;have hal:a<ns.length:=by omega
 have hb:=hin ns[a] (vc hal);have hg:ns.getD a 0=ns[a]:=by rw[wa,wc hal];rfl
 have hw:ns[a].toNat<n:=by omega
 rw[hg,wa,wc (show ns[a].toNat<(dH ns n).length by rw[Ef];exact hw)]
 show(dH ns n)[ns[a].toNat]'_=_
 rw[Ru hw,show((ns[a].toNat:Nat):Int)=ns[a] by omega,kP (lB pm) hal]
theorem DN{ns:List Int}{n:Nat}{t:List Int}(pm:ns.Perm (aS n))(h:dN n t):d6 (dH ns n) (d6 ns t)=t:=by
 obtain⟨a,b,d,rfl,ha,hb,_,_⟩:=h
 show [(dH ns n).getD (ns.getD ((a:Int)).toNat 0).toNat 0,(dH ns n).getD (ns.getD ((b:Int)).toNat 0).toNat 0,(d:Int)]=_
 rw[wH,wH,Aa pm ha,Aa pm hb]
theorem TQ{ns:List Int}{n:Nat}{t:List Int}(pm:ns.Perm (aS n))(h:dN n t):dN n (d6 ns t):=by
 have back:=DN pm h;obtain⟨a,b,d,rfl,ha,hb,ab,hd⟩:=h;obtain⟨a',ea,ha'⟩:=CM pm ha;obtain⟨b',eb,hb'⟩:=CM pm hb;refine⟨a',b',d,?_,ha',hb',λe=>?_,hd⟩
 ·show [ns.getD ((a:Int)).toNat 0,ns.getD ((b:Int)).toNat 0,(d:Int)]=_
  rw[wH,wH,ea,eb]
 ·subst e
  have h1:=Aa pm ha;have h2:=Aa pm hb;rw[ea]at h1;rw[eb,h1]at h2;exact ab (by omega)
theorem RK{ns:List Int}{n:Nat}{ts:List (List Int)}(pm:ns.Perm (aS n))(h:∀t∈ts,dN n t)(nd:ts.Nodup):(ts.map (d6 ns)).Nodup:=by
 unfold Q1;rw[WF];refine(QL.mp nd).imp λ{x y} k e=>?_
 obtain⟨hx,hy,ne⟩:=k;refine ne ?_;rw[<- DN pm (h x hx),<- DN pm (h y hy),e]
def MY(K:wb)(a:Ad):Sp:=λvs H Q E=>∃x0 x1,vs=[x0,x1] /\ ∃(ra rb:Rat)(xs:List Rat),Is K H x0 (dO ra rb xs)/\xs.length<=8/\((yU K H x1 xs.length /\ ∀H',af H H'->E (.ref a.pZ) none H')\/(∃(ao:wf)(ns:List Int),x1=.ref ao/\H ao=some (.lst (ns.map V.int))/\ns.Perm (aS xs.length) /\ ∀v H',af H H'->Is K H' v (dO ra rb (aj 0 ns xs))->Q v H'))
theorem zoE{K:wb}{a:Ad}{H:Hp}{Q:VK}{E:XK}{v:V}{ao:wf}{ra rb:Rat}{xs:List Rat}{ns:List Int}(h:Is K H v (dO ra rb xs))(h8:xs.length<=8)(e:H ao=some (.lst (ns.map V.int)))(pm:ns.Perm (aS xs.length))(q:∀v H',af H H'->Is K H' v (dO ra rb (aj 0 ns xs))->Q v H'):MY K a [v,.ref ao] H Q E:=⟨_,_,rfl,ra,rb,xs,h,h8,.inr ⟨ao,ns,rfl,e,pm,q⟩⟩
theorem zoO(T:Txt K mg a):aM P w K mg base (dy P w) 3 a.G5 a.Ga sr (MY K a):=by
 refine T.GF.F.lq zor ?_ ?_;wtm_at "b2"
 refine⟨_,(ah (bZ (cE (cw (ak (DE T) hr T.pV (aa (pv 1) (aa (aU (show ay _ (.builtin "len") (bB K)from bX) rfl T.z_len bR (aa (aA (pv 0)) ae)) ae))))) (aq (iY T.Sx rfl rfl T.Sv iU (aa fJ ae))) b7)
     (aq (aH (b9 (aa (aA (pv 0)) (aa (ak (pQ T) hr T.lI (aa (pv 1) (aa (aA (pv 0)) ae))) ae)))))),?_⟩
 wtm_at "cl";rw[show start C2 [x0,x1]=[some x0,some x1]from rfl];obtain⟨ra,rb,xs,hw,h8,h⟩:=h;rcases h with⟨hn,qe⟩ | ⟨ao,ns,rfl,eo,pm,q⟩
 . k_few
   refine bo (j:=1) hw rfl (λv1 i1=>?_);o_head Cz i1 ?_;o_head BP h8 hn (λH1 S1=>?_);k_few;exact⟨by simp;decide,qe H1 S1⟩
 . obtain⟨hl,hin⟩:=fI pm
   o_head bo (j:=1) hw rfl (λv1 i1=>?_);o_head Cz i1 ?_;o_head sV h8 (mZ eo) (by omega) (λH1 S1=>?_);rw[decide_eq_true pm];o_head bo (j:=0) (hw.by S1) rfl (λv2 i2=>?_);o_head bo (j:=1) (hw.by S1) rfl (λv3 i3=>?_);o_head nP (ds:=xs.map N) (S1 _ _ eo) i3 (oH xs) (by rw[wd];exact hl) (by rw[wd];exact h8) (by rw[wd];exact hin) (λv4 H4 S4 i4=>?_);rw[<- nX N 0]at i4;o_head cC (ds:=[R ra rb,TN (aj 0 ns xs)]) (by simp) (.cons (i2.by S4) (.cons i4 .nil)) (λv5 H5 S5 i5=>?_);exact q v5 H5 (S1.trans (S4.trans S5)) i5
theorem zw7{α : Type}{xs:List α}{m:Nat}{x : α}(h:xs[m]? = some x):fL xs (m:Int)=some x:=by
 have hm:=(vk.mp h).1;unfold fL;simp only[fR,if_pos (show(0:Int)<=(m:Int) by omega)];simp[hm];exact(vk.mp h).2
def RB(K:wb)(a:Ad):Sp:=λvs H Q E=>∃x0 x1,vs=[x0,x1] /\ ∃(rs:List Int)(us ts:List (List Int)),Is K H x0 (bI rs us ts)/\bF rs us ts/\((yU K H x1 rs.length /\ ∀H',af H H'->E (.ref a.lK) none H')\/(∃(ao:wf)(ns:List Int),x1=.ref ao/\H ao=some (.lst (ns.map V.int))/\ns.Perm (aS rs.length) /\ ∀v H' ts',af H H'->ts'.Perm (ts.map (d6 ns))->fV ts'->Is K H' v (bI (aj 0 ns rs) (aj [] ns us) ts')->Q v H'))
theorem zjK{K:wb}{a:Ad}{H:Hp}{Q:VK}{E:XK}{v:V}{ao:wf}{rs ns:List Int}{us ts:List (List Int)}(h:Is K H v (bI rs us ts))(ok:bF rs us ts)(e:H ao=some (.lst (ns.map V.int)))(pm:ns.Perm (aS rs.length))(q:∀v H' ts',af H H'->ts'.Perm (ts.map (d6 ns))->fV ts'->Is K H' v (bI (aj 0 ns rs) (aj [] ns us) ts')->Q v H'):RB K a [v,.ref ao] H Q E:=⟨_,_,rfl,rs,us,ts,h,ok,.inr ⟨ao,ns,rfl,e,pm,q⟩⟩
theorem zjQ(T:Txt K mg a):aM P w K mg base (dy P w) 3 a.FW a.Fz u_ (RB K a):=by
 refine T.FE.F.lq KJ ?_ ?_;wtm_at "b2"
 refine⟨_,(ah (bZ (cE (cw (ak (DE T) hr T.pV (aa (pv 1) (aa (aU (show ay _ (.builtin "len") (bB K)from bX) rfl T.z_len bR (aa (aA (pv 0)) ae)) ae))))) (aq (iY T.lO rfl rfl T.lM iU (aa fJ ae))) b7)
     (ah (aD 2 KJ.nd (aU (show ay _ (.builtin "sorted") (yK K)from Jd) rfl T.z_sorted yF (aa (cn rfl (bc.by (N':=["tie","order"]) (src:=[none,some 1]) rfl (show bG _ (au yR).names BK ["tie","order"] [none,some 1]=true from by decide +kernel)) (gQ (aA (pv 0))) (λ_ _ _ _ _=>(aN (i:=0) (show(["tie","order"]:List Str).Nodup from by decide) rfl (Or.inl rfl))) (λ_ _ _ _ _=>cy) (λ_ _ _ _ _=>by exact(show PE _ _ (lj K _)from b9 (aa (cG (show dP _ (bL K)from bM) (pv 1) (fT (K:=K) bM (pv 0)) (λ_ _=>rfl)) (aa (cG (show dP _ (bL K)from bM) (pv 1) (fT (K:=K) bM (pv 0)) (λ_ _=>rfl)) (aa (fT (K:=K) bM (pv 0)) ae)))))) ae)))
     (aq (aH (b9 (aa (ak (pQ T) hr T.lI (aa (pv 1) (aa (aA (pv 0)) ae))) (aa (ak (pQ T) hr T.lI (aa (pv 1) (aa (aA (pv 0)) ae))) (aa (b_ (show ay _ (.type "tuple") (bQ K)from cA) rfl T.z_tuple cf (aa (pv 2) ae)) ae)))))))),?_⟩
 wtm_at "cl";rw[show start BK [x0,x1]=[some x0,some x1,none]from rfl];obtain⟨rs,us,ts,hw,ok,h⟩:=h;rcases h with⟨hn,qe⟩ | ⟨ao,ns,rfl,eo,pm,q⟩
 . k_few
   refine bo (j:=0) hw rfl (λv1 i1=>?_);o_head kR i1 ?_;o_head BP ok.n8 hn (λH1 S1=>?_);k_few;exact⟨by simp;decide,qe H1 S1⟩
 . obtain⟨hnl,hin⟩:=fI pm
   have n8:=ok.n8;have htl:=ok.tl;o_head bo (j:=0) hw rfl (λv1 i1=>?_);o_head kR i1 ?_;o_head sV n8 (mZ eo) (by omega) (λH1 S1=>?_);rw[decide_eq_true pm];o_head bo (j:=2) (hw.by S1) rfl (λv2 i2=>?_);obtain⟨l2,us2,rfl,hs2,t2⟩:=bz.mp i2;have hl2:us2.length=ts.length:=by rw[t2.length,wd]
   o_head iN hs2 (o0:=none) (tl:=[some (.ref ao)]) rfl (λj y H'=>Is K H' y (TZ (d6 ns (ts.getD j [])))) ?_ ?_
   . intro D i x ys o H3 hx inv
     have hi:i<ts.length:=by rw[<- hl2];exact gI hx
     have ix:Is K H3 x (TZ (ts.getD i [])):=by
       obtain⟨z,ez,iz⟩:=t2.get (show(ts.map TZ)[i]? = some (TZ (ts.getD i [])) by rw[wz,wc hi,wa,wc hi];rfl);rw[hx]at ez;cases ez;exact iz.by inv.same
     obtain⟨ta,tb,td,et,ha,hb,_,_⟩:=ok.t _ (getD_mem (d:=[]) hi);rw[et]at ix;have eo3:=inv.same _ _ (S1 _ _ eo)
     have go:∀(m:Nat)(Q':VK),m<rs.length->Q' (.int (ns.getD m 0)) H3->bL K (.ref ao) (.int (m:Int)) H3 Q':=λm Q' hm hq=>by
       have hml:m<ns.length:=by omega
       refine iR (v:=.int (ns.getD m 0)) (.of eo3) ?_ hq;exact zw7 (by rw[wz,wc hml,wa,wc hml];rfl)
     o_head fW ix (by decide) (by simp) ?_;refine go ta _ ha ?_;o_head fW ix (by decide) (by simp) ?_;refine go tb _ hb ?_;o_head fW ix (by decide) (by simp) ?_;o_head cC (ds:=[.int (ns.getD ta 0),.int (ns.getD tb 0),.int (td:Int)]) (by simp) (.cons (bN.mpr rfl) (.cons (bN.mpr rfl) (.cons (bN.mpr rfl) .nil))) (λv4 H4 S4 i4=>?_);refine dB inv (by omega) (λ_ _ _ _ k z=>z.fU k) ⟨_,rfl⟩ S4 ?_;rw[et];exact i4
   . intro D zs H3 n3 S3 e3 hl3 hr3
     have t3:ag K H3 zs ((ts.map (d6 ns)).map TZ):=by
       refine kM (by rw[hl3,hl2,wd,wd]) λi x hx=>?_
       have hi:i<ts.length:=by rw[<- hl2,<- hl3];exact gI hx
       have:=hr3 i x hx;rw[wa,wz,wz,wc hi];rw[wa,wc hi]at this;exact this
     o_head Mi (.inl (aW.mpr ⟨D,zs,rfl,.of e3,t3⟩)) (by rw[wd];omega) (RK pm ok.t ok.nd) (λk hk z=>?_) (λl4 H4 us4 js n4 S4 e4 pj so t4=>?_)
     . obtain⟨x,hx,rfl⟩:=wQ.mp hk
       cases z
     have T4:=S1.trans (S3.trans S4);o_head bo (j:=0) (hw.by T4) rfl (λv5 i5=>?_);o_head nP (ds:=rs.map .int) (T4 _ _ eo) i5 (zL rs) (by rw[wd];exact hnl) (by rw[wd];exact n8) (by rw[wd];exact hin) (λv6 H6 S6 i6=>?_);have T6:=T4.trans S6;o_head bo (j:=1) (hw.by T6) rfl (λv7 i7=>?_);o_head nP (ds:=us.map TZ) (T6 _ _ eo) i7 (eM us) (by rw[wd,ok.ul];exact hnl) (by rw[wd,ok.ul];exact n8) (by rw[wd,ok.ul];exact hin) (λv8 H8 S8 i8=>?_);have T8:=T6.trans S8;o_head fj (aW.mpr ⟨l4,us4,rfl,.of (S8 _ _ (S6 _ _ e4)),ag.same (S6.trans S8) _ _ t4⟩) (λv9 H9 S9 i9=>?_);k_few;rw[<- nX PyData.int 0]at i6;rw[<- nX TZ []]at i8;refine cC (ds:=[_,_,_]) (by simp) (.cons (i6.by (S8.trans S9)) (.cons (i8.by S9) (.cons i9 .nil))) (λv10 H10 S10 i10=>?_);exact q v10 H10 js (T8.trans (S9.trans S10)) pj so i10
def Pt(K:wb)(a:Ad):Sp:=λvs H Q E=>∃x0 x1,vs=[x0,x1] /\ ∃(ps:List Int)(cm:List (List Int)),Is K H x0 (aY ps cm)/\ps.length<=8/\cm.length<=8/\(∀r∈cm,r.length=ps.length)/\((yU K H x1 ps.length /\ ∀H',af H H'->E (.ref a.nq) none H')\/(∃(ao:wf)(ns:List Int),x1=.ref ao/\H ao=some (.lst (ns.map V.int))/\ns.Perm (aS ps.length) /\ ∀v H',af H H'->Is K H' v (aY (aj 0 ns ps) (cm.map (aj 0 ns)))->Q v H'))
theorem BR{K:wb}{a:Ad}{H:Hp}{Q:VK}{E:XK}{v:V}{ao:wf}{ps ns:List Int}{cm:List (List Int)}(h:Is K H v (aY ps cm))(h8:ps.length<=8)(hc:cm.length<=8)(hr:∀r∈cm,r.length=ps.length)(e:H ao=some (.lst (ns.map V.int)))(pm:ns.Perm (aS ps.length))(q:∀v H',af H H'->Is K H' v (aY (aj 0 ns ps) (cm.map (aj 0 ns)))->Q v H'):Pt K a [v,.ref ao] H Q E:=⟨_,_,rfl,ps,cm,h,h8,hc,hr,.inr ⟨ao,ns,rfl,e,pm,q⟩⟩
theorem Ej(T:Txt K mg a):aM P w K mg base (dy P w) 3 a.FI a.Fp rD (Pt K a):=by
 refine T.pR.F.lq zik ?_ ?_;wtm_at "b2"
 refine⟨_,(ah (bZ (cE (cw (ak (DE T) hr T.pV (aa (pv 1) (aa (aU (show ay _ (.builtin "len") (bB K)from bX) rfl T.z_len bR (aa (aA (pv 0)) ae)) ae))))) (aq (iY T.Hi rfl rfl T.Hn iU (aa fJ ae))) b7)
     (aq (aH (b9 (aa (ak (pQ T) hr T.lI (aa (pv 1) (aa (aA (pv 0)) ae))) (aa (b_ (show ay _ (.type "tuple") (bQ K)from cA) rfl T.z_tuple cf (aa (cn rfl (bc.by (N':=["row","order"]) (src:=[none,some 1]) rfl (show bG _ (au tU).names yP ["row","order"] [none,some 1]=true from by decide +kernel)) (gQ (aA (pv 0))) (λ_ _ _ _ _=>(aN (i:=0) (show(["row","order"]:List Str).Nodup from by decide) rfl (Or.inl rfl))) (λ_ _ _ _ _=>cy) (λ_ _ _ _ _=>(ak (pQ (K:=K) (mg:=mg) (a:=a) T) hr T.lI (aa (pv 1) (aa (pv 0) ae))))) ae)) ae)))))),?_⟩
 wtm_at "cl";rw[show start yP [x0,x1]=[some x0,some x1]from rfl];obtain⟨ps,cm,hw,h8,hc8,hrl,h⟩:=h;rcases h with⟨hn,qe⟩ | ⟨ao,ns,rfl,eo,pm,q⟩
 . k_few
   refine bo (j:=0) hw rfl (λv1 i1=>?_);o_head kR i1 ?_;o_head BP h8 hn (λH1 S1=>?_);k_few;exact⟨by simp;decide,qe H1 S1⟩
 . obtain⟨hnl,hin⟩:=fI pm
   o_head bo (j:=0) hw rfl (λv1 i1=>?_);o_head kR i1 ?_;o_head sV h8 (mZ eo) (by omega) (λH1 S1=>?_);rw[decide_eq_true pm];o_head bo (j:=0) (hw.by S1) rfl (λv5 i5=>?_);o_head nP (ds:=ps.map .int) (S1 _ _ eo) i5 (zL ps) (by rw[wd];exact hnl) (by rw[wd];exact h8) (by rw[wd];exact hin) (λv6 H6 S6 i6=>?_);rw[<- nX PyData.int 0]at i6;have T6:=S1.trans S6;o_head bo (j:=1) (hw.by T6) rfl (λv7 i7=>?_);obtain⟨l7,us7,rfl,hs7,t7⟩:=bz.mp i7;have hl7:us7.length=cm.length:=by rw[t7.length,wd]
   o_head iN hs7 (o0:=none) (tl:=[some (.ref ao)]) rfl (λj y H'=>Is K H' y (TZ (aj 0 ns (cm.getD j [])))) ?_ ?_
   . intro D i x ys o H8 hx inv
     have hi:i<cm.length:=by rw[<- hl7];exact gI hx
     have ix:Is K H8 x (TZ (cm.getD i [])):=by
       obtain⟨z,ez,iz⟩:=t7.get (show(cm.map TZ)[i]? = some (TZ (cm.getD i [])) by rw[wz,wc hi,wa,wc hi];rfl);rw[hx]at ez;cases ez;exact iz.by inv.same
     have hlr:=hrl _ (getD_mem (d:=[]) hi);o_head nP (ds:=(cm.getD i []).map .int) (inv.same _ _ (T6 _ _ eo)) ix (zL _) (by rw[wd,hlr];exact hnl) (by rw[wd,hlr];exact h8) (by rw[wd,hlr];exact hin) (λv9 H9 S9 i9=>?_);rw[<- nX PyData.int 0]at i9;k_few;exact dB inv (by omega) (λ_ _ _ _ k z=>z.fU k) ⟨_,rfl⟩ S9 i9
   . intro D zs H8 n8 S8 e8 hl8 hr8
     have t8:ag K H8 zs ((cm.map (aj 0 ns)).map TZ):=by
       refine kM (by rw[hl8,hl7,wd,wd]) λi x hx=>?_
       have hi:i<cm.length:=by rw[<- hl7,<- hl8];exact gI hx
       have:=hr8 i x hx;rw[wa,wz,wz,wc hi];rw[wa,wc hi]at this;exact this
     o_head fj (aW.mpr ⟨D,zs,rfl,.of e8,t8⟩) (λv9 H9 S9 i9=>?_);o_head cC (ds:=[_,_]) (by simp) (.cons (i6.by (S8.trans S9)) (.cons i9 .nil)) (λv10 H10 S10 i10=>?_);exact q v10 H10 (T6.trans (S8.trans (S9.trans S10))) i10
def bK(c:Nat)(xs:List Rat):Nat:=xs.foldl (λc x=>xb c x.den) c
theorem ND(c d:Nat):c / xG c d*d=xb c d:=by
 unfold xb;rw[Vw c d,uv d (xO c d),Vw]
theorem zuC(c:Nat)(xs:List Rat)(x:Rat):bK c (xs++[x])=xb (bK c xs) x.den:=by unfold bK;rw[xB];rfl
theorem Aq:∀(xs:List Rat)(c:Nat),0<c->0<bK c xs
 | [],_,h=>h
 | x::xs,c,h=>Aq xs _ (Nat.lcm_pos h x.den_pos)
theorem Ol:∀(xs:List Rat)(c:Nat),(∀x∈xs,x.den<=60)->bK c xs<=c*60^xs.length
 | [],c,_=>by simp[bK]
 | x::xs,c,h=>by
  have h1:=Ol xs (xb c x.den) λy hy=>h y (wI _ hy)
  have h2:xb c x.den<=c*60:=by
   rw[<- ND];exact VW (QP _ _) (h x (wN ..))
  show bK (xb c x.den) xs<=c*60^(xs.length+1)
  rw[Vc,Vw (60^xs.length) 60,<- W7];exact Wi h1 (Nat.mul_le_mul_right _ h2)
theorem zwc{xs:List Rat}(h:∀x∈xs,x.den<=60)(h9:xs.length<=9):bK 1 xs<=10077696000000000:=by
 have h1:=Ol xs 1 h;have h2:60^xs.length<=60^9:=QN (by decide) h9;have h3:(60:Nat)^9=10077696000000000:=by decide
 omega
theorem Oj{d:Nat} : ∀{xs:List Rat}{c:Nat},d ∣ c->d ∣ bK c xs
 | [],_,h=>h
 | x::xs,c,h=>Oj (xs:=xs) (xt h (Nat.dvd_lcm_left c x.den))
theorem pC{x:Rat} : ∀{xs:List Rat}{c:Nat},x∈xs->x.den ∣ bK c xs
 | [],_,h=>by cases h
 | y::xs,c,h=>by
  show x.den ∣ bK (xb c y.den) xs
  rcases wE.mp h with rfl | h
  ·exact Oj (Nat.dvd_lcm_right c x.den)
  ·exact pC h
theorem KZ{n:Nat} : ∀{xs:List Rat}{c:Nat},c ∣ n->(∀x∈xs,x.den ∣ n)->bK c xs ∣ n
 | [],_,h,_=>h
 | x::xs,c,h,k=>KZ (xs:=xs) (Nat.lcm_dvd h (k x (wN ..))) λy hy=>k y (wI _ hy)
def KW(K:wb):Sp:=λvs H Q _=>∃x0,vs=[x0] /\ ∃xs:List Rat,Is K H x0 (TN xs)/\(∀x∈xs,x.den<=60)/\xs.length<=9/\Q (.int (bK 1 xs:Int)) H
theorem ZN{K:wb}{H:Hp}{Q:VK}{E:XK}{v:V}{xs:List Rat}(h:Is K H v (TN xs))(hd:∀x∈xs,x.den<=60)(h9:xs.length<=9)(q:Q (.int (bK 1 xs:Int)) H):KW K [v] H Q E:=⟨_,rfl,xs,h,hd,h9,q⟩
theorem zmp(T:Txt K mg a):aM P w K mg base aR 2 a.Gk a.FJ z_ (KW K):=by
 refine T.FX.F.ok tI ?_ ?_;wtm_at "b1"
 refine⟨_,(ah (aD 1 tI.nd aC)
     (ah (dG vE rfl (gQ (pv 0)) (aN (i:=2) tI.nd rfl (Or.inl rfl)) (aq (aD 1 tI.nd (aK dZ (aK dJ (pv 1) (ak (mw T) hr T.km (aa (pv 1) (aa (aA (pv 2)) ae)))) (aA (pv 2))))))
     (aq (aH (pv 1))))),?_⟩
 wtm_at "cl";rw[show start RH [x0]=[some x0,none,none]from rfl];obtain⟨xs,h0,hd,h9,q⟩:=h;obtain⟨a0,us,rfl,hs,t⟩:=bz.mp h0;have hl:=t.length;rw[wd]at hl;o_head CS hs (λi σ H'=>∃o,σ = [some (.ref a0),some (.int (bK 1 (xs.take i):Int)),o]/\H'=H) ⟨_,rfl,rfl⟩ (λi σ H' _ ⟨_,_,e⟩=>by rw[e];exact hs) ?_ ?_
 . rintro i x σ H' hx ⟨o,rfl,rfl⟩
   obtain⟨hi,ix⟩:=kA t hx;have hm:=GM.getD_mem (d:=(0:Rat)) hi
   have htk:xs.take (i+1)=xs.take i++[xs.getD i 0]:=by
     rw[xc,wa,wc hi];rfl
   have hd1:=hd _ hm;have big:=zwc (xs:=xs.take i) (λy hy=>hd y (List.mem_of_mem_take hy)) (by rw[vP];omega);have pos:=Aq (xs.take i) 1 (by decide);have hp:=den_pos (xs.getD i 0);have e1:bK 1 (xs.take (i+1))=bK 1 (xs.take i) / xG (bK 1 (xs.take i)) (xs.getD i 0).den*(xs.getD i 0).den:=by rw[htk,zuC,ND]
   generalize xs.getD i 0=y at *;generalize bK 1 (xs.take i)=c at *;have g0:0<xG c y.den:=Nat.gcd_pos_of_pos_left _ pos;have g1:xG c y.den<=y.den:=xu (by omega) (xA _ _);have eg:vK (c:Int) (y.den:Int)=xG c y.den:=rfl;o_head lZ (by omega) (by omega) ?_;rw[eg];generalize hg:xG c y.den=g at *;refine kz ⟨by omega,(Bd.jP (by omega) (by omega)).mono (by decide)⟩ ?_;have ef:(c:Int).fdiv (g:Int)=((c / g:Nat):Int):=by rw[VH _ (by omega)];rfl
   have hle:=QP c g;rw[ef];generalize c / g=k at *;k_few;rw[e1,show(k:Int)*(y.den:Int)=((k*y.den:Nat):Int)from by push_cast;rfl];exact⟨_,rfl,rfl⟩
 . rintro σ H' ⟨o,rfl,rfl⟩
   rw[hl,Wt];k_few;exact q
def OP(K:wb):Sp:=λvs H Q _=>∃x0 x1,vs=[x0,x1] /\ ∃(c:Nat)(x:Rat),x0=.int (c:Int)/\Is K H x1 (N x)/\c<=60/\ai 100 x/\Q (.int (((c / x.den:Nat):Int)*x.num)) H
theorem Li{K:wb}{H:Hp}{Q:VK}{E:XK}{c:Nat}{v:V}{x:Rat}(h:Is K H v (N x))(h60:c<=60)(b:ai 100 x)(q:Q (.int (((c / x.den:Nat):Int)*x.num)) H):OP K [.int (c:Int),v] H Q E:=⟨_,_,rfl,c,x,rfl,h,h60,b,q⟩
theorem MV(T:Txt K mg a):aM P w K mg base aR 1 a.Gx a.FN rH (OP K):=by
 refine T.AM.F.ok zmc ?_ ?_;wtm_at "b2";refine⟨_,(aq (aH (aK dZ (aK dJ (pv 0) (aA (pv 1))) (aA (pv 1))))),?_⟩;wtm_at "cl";rw[show start Er [x0,x1]=[some x0,some x1]from rfl];obtain⟨c,x,rfl,hx,h60,⟨b1,b2⟩,q⟩:=h;have hp:=den_pos x;o_head kz ⟨by omega,b2.mono (by decide)⟩ ?_;have ef:(c:Int).fdiv (x.den:Int)=((c / x.den:Nat):Int):=by rw[VH _ (by omega)];rfl
 have hle:=QP c x.den;rw[ef];generalize c / x.den=k at *;k_few;exact q
def dq(a d j:Nat):List (List Int):=((wo j).filter λ(b:Nat)=>decide (b≠a)).map λ(b:Nat)=>[(a:Int),(b:Int),(d:Int)]
theorem rp(a d j:Nat):dq a d (j+1)=dq a d j++if j=a then []else [[(a:Int),(j:Int),(d:Int)]]:=by
 unfold dq;rw[Vb,WU,wL]
 congr 1
 by_cases h:j=a<;>simp[h]
theorem og(a d j:Nat):(dq a d j).length<=j:=by
 unfold dq;rw[wd];have:=Wq (λ(b:Nat)=>decide (b≠a)) (wo j);rw[vi]at this;exact this
theorem oU{a d j:Nat}{t:List Int}(h:t∈dq a d j):∃b,b<j/\b≠a/\t=[(a:Int),(b:Int),(d:Int)]:=by
 obtain⟨b,hb,rfl⟩:=wQ.mp h;obtain⟨h1,h2⟩:=vG.mp hb;exact⟨b,wB.mp h1,of_decide_eq_true h2,rfl⟩
theorem zoK(a d j:Nat):(dq a d j).Nodup:=by
 unfold dq Q1;rw[WF];exact(Wn.filter _).imp λ{x y} h e=>h (Int.ofNat.inj (by simpa using e))
structure jr(n d a:Nat)(L:List (List Int)):Prop where
 ok:∀t∈L,dN n t
 nd:L.Nodup
 lt:∀t∈L,t.getD 2 0*8+t.getD 0 0<(d:Int)*8+a
 len:L.length<=56*d+7*a
theorem jr.row{n d a:Nat}{L:List (List Int)}(h:jr n d a L)(n8:n<=8)(ha:a<n)(hd:d<=4):jr n d (a+1) (L++dq a d n):=by
 refine⟨λt ht=>?_,Qy.mpr ⟨h.nd,zoK a d n,λx hx y hy e=>?_⟩,λt ht=>?_,?_⟩
 ·rcases vR.mp ht with z | z
  ·exact h.ok t z
  ·obtain⟨b,h1,h2,rfl⟩:=oU z
   exact⟨a,b,d,rfl,ha,h1,λe=>h2 e.symm,hd⟩
 ·subst e
  obtain⟨b,h1,h2,rfl⟩:=oU hy;have:=h.lt _ hx;simp at this
 ·rcases vR.mp ht with z | z
  ·have:=h.lt t z;omega
  ·obtain⟨b,h1,h2,rfl⟩:=oU z
   simp;omega
 ·rw[wS]
  have h1:=h.len
  have:(dq a d n).length<=7:=by
   have h2:=og a d n;rcases wT n 8 with z | z
   ·omega
   ·have e:n=8:=by omega
    subst e;have:a=0\/a=1\/a=2\/a=3\/a=4\/a=5\/a=6\/a=7:=by omega
    rcases this with rfl | rfl | rfl | rfl | rfl | rfl | rfl | rfl<;>simp[dq]<;>decide
  omega
theorem jr.up{n d:Nat}{L:List (List Int)}(h:jr n d n L)(n8:n<=8):jr n (d+1) 0 L :=
 ⟨h.ok,h.nd,λt ht=>by have:=h.lt t ht;omega,by have:=h.len;omega⟩
def br(n:Nat):Nat->List (List Int)
 | 0=>[]
 | a+1=>br n a++dq a 0 n
theorem Bx{n:Nat}(n8:n<=8):∀a,a<=n->jr n 0 a (br n a)
 | 0,_=>⟨by simp[br],VU,by simp[br],by simp[br]⟩
 | a+1,h=>(Bx n8 a (by omega)).row n8 (by omega) (by decide)
def OU(K:wb):Sp:=λvs H Q _=>∃x0,vs=[x0] /\ ∃(n:Nat),x0=.int (n:Int)/\n<=8 /\ ∀(l:wf)(H':Hp)(us:List V),H l=none->af H H'->H' l=some (.lst us)->ag K H' us ((br n n).map TZ)->Q (.ref l) H'
theorem zp4{K:wb}{H:Hp}{Q:VK}{E:XK}{n:Nat}(h8:n<=8)(q:∀(l:wf)(H':Hp)(us:List V),H l=none->af H H'->H' l=some (.lst us)->ag K H' us ((br n n).map TZ)->Q (.ref l) H'):OU K [.int (n:Int)] H Q E:=⟨_,rfl,n,rfl,h8,q⟩
theorem zpX(T:Txt K mg a):aM P w K mg base aR 1 a.Hz a.Gr zg (OU K):=by
 refine T.GW.F.ok Cj ?_ ?_;wtm_at "b1"
 refine⟨_,(ah (aD 1 Cj.nd (cS ae))
     (ah (dG vE rfl (fb rfl T.z_range (aa (pv 0) ae)) (aN (i:=2) Cj.nd rfl (Or.inr rfl)) (aq (h_ (fS vI PySem.F.slot_list_extend PySem.F.type_list_extend Zi (pv 1) (aa (cn rfl (bc.by (N':=["other","worm"]) (src:=[none,some 2]) rfl (show bG _ (au z9).names C3 ["other","worm"] [none,some 2]=true from by decide +kernel)) (fb rfl T.z_range (aa (pv 0) ae)) (λ_ _ _ _ _=>(aN (i:=0) (show(["other","worm"]:List Str).Nodup from by decide) rfl (Or.inl rfl))) (λ_ _ _ _ _=>(gM (cb (show aJ _ (wW .NotEq) (eA K)from fF hu) (pv 0) (pv 1) (bD _)))) (λ_ _ _ _ _=>by exact(show PE _ _ (lj K _)from b9 (aa (pv 1) (aa (pv 0) (aa aC ae)))))) ae)))))
     (aq (aH (pv 1))))),?_⟩
 wtm_at "cl";rw[show start C3 [x0]=[some x0,none,none]from rfl];obtain⟨n,rfl,h8,q⟩:=h;wtm_at "ga";rename_i l0 H0 n0 S0 e0;refine ki (n:=(n:Int)) (by omega) (by omega) (λa σ H'=>∃(o:Option V)(us:List V),σ = [some (.int (n:Int)),some (.ref l0),o]/\af H H'/\H' l0=some (.lst us)/\ag K H' us ((br n a).map TZ)) ⟨_,[],rfl,S0,e0,.nil⟩ ?_ ?_
 . rintro a σ H1 ha ⟨o,us,rfl,S1,e1,t1⟩
   have ha:a<n:=by omega
   have hul:us.length=(br n a).length:=by rw[t1.length,wd]
   have hlen:=(Bx h8 a (by omega)).len;o_head fK (.of e1) ?_;o_head kW (n:=(n:Int)) (by omega) (by omega) (λD j ys σ' H'=>(∃o,σ'=[o,some (.int (a:Int))])/\H1 D=none/\af H1 H'/\H' D=some (.lst ys)/\ag K H' ys ((dq a 0 j).map TZ)) (λD H' n s e=>⟨⟨_,rfl⟩,n,s,e,.nil⟩) ?_ ?_
   . rintro D j ys σ' H8 hj ⟨⟨o,rfl⟩,nD,S8,eD,t8⟩
     have hj:j<n:=by omega
     have hyl:ys.length<=j:=by
       have:=t8.length;rw[wd]at this;have:=og a 0 j;omega
     k_few
     . rename_i z
       refine cC (ds:=[.int (a:Int),.int (j:Int),.int 0]) (by simp) (.cons (bN.mpr rfl) (.cons (bN.mpr rfl) (.cons (bN.mpr rfl) .nil))) (λv9 H9 S9 i9=>?_);refine dC (S9 _ _ eD) (by omega) (λH10 E10 e10=>⟨⟨_,rfl⟩,nD,(S8.trans S9).grow nD E10,e10,?_⟩);have k10:=E10.keep (S9 _ _ eD);rw[rp,if_neg (by intro e;exact z (by omega)),wL];exact(ag.keep (S9.keep.trans k10) _ _ (eM _) t8).append (.cons (Is.fU (ns:=[(a:Int),(j:Int),((0:Nat):Int)]) i9 k10) .nil)
     . rename_i z
       refine⟨ys,⟨_,rfl⟩,nD,S8,eD,?_⟩;rw[rp,if_pos (by omega),vT];exact t8
   . rintro D ys σ' H8 ⟨_,nD,S8,eD,t8⟩
     rw[wH]at t8
     have hyl:ys.length<=n:=by
       have:=t8.length;rw[wd]at this;have:=og a 0 n;omega
     o_head Yg (S8 _ _ e1) eD (by omega) (λH9 E9 e9=>?_);have k9:=E9.keep (S8 _ _ e1);o_head ⟨_,us++ys,rfl,λb o h=>E9 b o (cW h n0) (S8 b o (S1 b o h)),e9,?_⟩;rw[br,wL];exact(ag.keep (S8.keep.trans k9) _ _ (eM _) t1).append (ag.keep k9 _ _ (eM _) t8)
 . rintro σ H1 ⟨o,us,rfl,S1,e1,t1⟩
   rw[wH]at t1;k_few;exact q l0 H1 us n0 S1 e1 t1
def fX(c:Nat)(b:Rat):List Int:=wm c (((c / b.den:Nat):Int)*b.num)
def bJ(c:Nat)(xs:List Rat):List Int:=xs.map λx=>((c / x.den:Nat):Int)*x.num
def JE(c:Nat)(b:Rat)(xs:List Rat):wq:=.tuple [bI (wm xs.length (c:Int)) (wm xs.length (fX c b)) (br xs.length xs.length),aY (bJ c xs) (bj xs.length)]
theorem Pl(x y:Str):vn (.str x) (.str y)=decide (x=y):=by rw[vn];first | rfl | (rw[WS];simp)
theorem LR{x:Rat} : j9 x=WW "even" ↔ x=1:=by
 unfold j9
 split
 ·rename_i z
  constructor
  ·intro e;exact absurd e (by decide)
  ·intro e;rw[e]at z;exact absurd z (by decide)
 ·split
  ·rename_i z y;exact⟨λ_=>y,λ_=>rfl⟩
  ·rename_i z y
   exact⟨λe=>absurd e (by decide),λe=>absurd e y⟩
theorem zvh(x:Rat):∃s:String,j9 x=WW s:=by
 unfold j9
 split
 ·exact⟨_,rfl⟩
 ·split
  ·exact⟨_,rfl⟩
  ·exact⟨_,rfl⟩
theorem M7{c:Nat}{x:Rat}(hd:x.den ∣ c)(hc:0<c)(p:fg x):0<=((c / x.den:Nat):Int)*x.num/\((c / x.den:Nat):Int)*x.num<(c:Int):=by
 have h0:=p.nn;have h1:=p.lt;have hp:=den_pos x;obtain⟨k,rfl⟩:=hd;have hk:0<k:=Nat.pos_of_ne_zero λe=>by rw[e]at hc;simp at hc
 rw[Qr _ x.den_pos];have n0:0<=x.num:=qE.mpr h0
 have n1:x.num<(x.den:Int):=by
  have:=(Ue x 1).mp h1;rw[show((1:Rat).den:Int)=1 from rfl,show(1:Rat).num=1 from rfl]at this;omega
 refine⟨Qo (by omega) n0,?_⟩;rw[show((x.den*k:Nat):Int)=(k:Int)*(x.den:Int)from by push_cast;rw[Int.mul_comm]];exact Int.mul_lt_mul_of_pos_left n1 (by omega)
theorem KN{c:Nat}{x:Rat}(hd:x.den ∣ c)(h0:0<=x)(h1:x<=1):0<=((c / x.den:Nat):Int)*x.num/\((c / x.den:Nat):Int)*x.num<=(c:Int):=by
 have hp:=den_pos x;obtain⟨k,rfl⟩:=hd;rw[Qr _ x.den_pos];have n0:0<=x.num:=qE.mpr h0
 have n1:x.num<=(x.den:Int):=by
  have:=(Rat.le_iff x 1).mp h1;rw[show((1:Rat).den:Int)=1 from rfl,show(1:Rat).num=1 from rfl]at this;omega
 refine⟨Qo (by omega) n0,?_⟩;rw[show((x.den*k:Nat):Int)=(k:Int)*(x.den:Int)from by push_cast;rw[Int.mul_comm]];exact Q2 n1 (by omega)
theorem Co{c n:Nat}{b:Rat}(h1:1<=n)(h8:n<=8)(c1:1<=c)(jd:c<=60)(hd:b.den ∣ c)(b0:0<=b)(b1:b<=1):bF (wm n (c:Int)) (wm n (fX c b)) (br n n):=by
 have T:=Bx h8 n (wu n);have u:=KN hd b0 b1;refine⟨by rw[wO];exact h1,by rw[wO];exact h8,λr hr=>?_,by rw[wO,wO],λi hi=>?_,by have:=T.len;omega,by rw[wO];exact T.ok,T.nd⟩
 ·rw[xP hr];omega
 ·rw[wO]at hi
  rw[wa,vO,if_pos hi,wa,vO,if_pos hi];refine⟨?_,λx hx=>?_⟩
  ·show(((fX c b).length:Nat):Int)=(c:Int)
   unfold fX;rw[wO]
  ·have hx:x∈fX c b:=hx
   unfold fX at hx;rw[xP hx];omega
theorem Np{a b d a' b' d':Int}(h:a<a'\/(a=a'/\b<b')):TB.cM [a,b,d] [a',b',d']=true:=by
 unfold TB.cM;rcases h with h | ⟨rfl,h⟩
 ·rw[if_neg (by omega)];exact decide_eq_true h
 ·rw[if_pos rfl]
  unfold TB.cM;rw[if_neg (by omega)];exact decide_eq_true h
theorem Z4(a d:Nat)(n:Nat):fV (dq a d n):=by
 unfold dq fV;rw[WF];exact(Vv.filter _).imp λ{x y} h=>Np (.inr ⟨rfl,by omega⟩)
theorem CC(n:Nat):∀a,fV (br n a) /\ ∀t∈br n a,∃x y:Nat,x<a/\t=[(x:Int),(y:Int),0]
 | 0=>⟨.nil,λt h=>by cases h⟩
 | a+1=>by
  obtain⟨h1,h2⟩:=CC n a;refine⟨List.pairwise_append.mpr ⟨h1,Z4 a 0 n,λx hx y hy=>?_⟩,λt ht=>?_⟩
  ·obtain⟨u,v,hu,rfl⟩:=h2 x hx
   obtain⟨b,_,_,rfl⟩:=oU hy;exact Np (.inl (by omega))
  ·rcases vR.mp ht with h | h
   ·obtain⟨u,v,hu,e⟩:=h2 t h
    exact⟨u,v,by omega,e⟩
   ·obtain⟨b,_,_,rfl⟩:=oU h
    exact⟨a,b,by omega,rfl⟩
theorem mW{c:Nat}{xs:List Rat}{i:Nat}(h:i<xs.length):(bJ c xs).getD i 0=((c / (xs.getD i 0).den:Nat):Int)*(xs.getD i 0).num:=by
 unfold bJ;rw[wa,wz,wc h,wa,wc h]
 rfl
theorem Pp{K:wb}{H:Hp}{v:V}{d:wq}(h:Is K H v d):∀n,ag K H (wm n v) (wm n d)
 | 0=>.nil
 | n+1=>.cons h (Pp h n)
def Nd(K:wb)(a:Ad):Sp:=λvs H Q E=>∃x0,vs=[x0] /\ ∃(ra rb:Rat)(xs:List Rat),Is K H x0 (dO ra rb xs)/\gx ra rb/\1<=xs.length/\xs.length<=8/\(∀x∈xs,fg x) /\
 ((ra≠1\/60<bK 1 (rb::xs))->∀H',af H H'->E (.ref a.lK) none H')/\(ra=1->bK 1 (rb::xs)<=60->∀v H',af H H'->Is K H' v (JE (bK 1 (rb::xs)) rb xs)->Q v H')
theorem zuo{K:wb}{a:Ad}{H:Hp}{Q:VK}{E:XK}{v:V}{ra rb:Rat}{xs:List Rat}(h:Is K H v (dO ra rb xs))(ok:gx ra rb)(h1:1<=xs.length)(h8:xs.length<=8)(hp:∀x∈xs,fg x)
  (q1:(ra≠1\/60<bK 1 (rb::xs))->∀H',af H H'->E (.ref a.lK) none H') (q2:ra=1->bK 1 (rb::xs)<=60->∀v H',af H H'->Is K H' v (JE (bK 1 (rb::xs)) rb xs)->Q v H'):Nd K a [v] H Q E:=⟨_,rfl,ra,rb,xs,h,ok,h1,h8,hp,q1,q2⟩
theorem zt0(T:Txt K mg a):aM P w K mg base (dy P w) 7 a.Il a.G7 rG (Nd K a):=by
 refine T.HC.F.lq nH ?_ ?_;wtm_at "b1"
 refine⟨_,(ah (bZ (cb (show aJ _ (wW .NotEq) (eA K)from fF hu) (ak (zxM T) hr T.Ip (aa (aA (pv 0)) ae)) fJ (bD _)) (aq (iY T.lO rfl rfl T.lM iU (aa fJ ae))) b7)
     (ah (aD 1 nH.nd (ak (zmp T) hr T.FX (aa (aK (show aJ _ (WH .Add) (y9 K)from MN) (b9 (aa (aA (aA (pv 0))) ae)) (aA (pv 0))) ae)))
     (ah (bZ (cb zc (pv 1) (ib rfl T.Gh) (bD _)) (aq (iY T.lO rfl rfl T.lM iU (aa fJ ae))) b7)
     (ah (aD 2 nH.nd (aK (show aJ _ (WH .Mult) pH from CF) (cS (aa (ak (MV T) hr T.AM (aa (pv 1) (aa (aA (aA (pv 0))) ae))) ae)) (pv 1)))
     (ah (aD 3 nH.nd (aU (show ay _ (.builtin "len") (bB K)from bX) rfl T.z_len bR (aa (aA (pv 0)) ae)))
     (ah (aD 4 nH.nd (jI (JH T) hr T.A1 IU (aa (aK (show aJ _ (WH .Mult) pH from CF) (cS (aa (pv 1) ae)) (pv 3)) (aa (aK (show aJ _ (WH .Mult) pH from CF) (cS (aa (pv 2) ae)) (pv 3)) (aa (ak (zpX T) hr T.GW (aa (pv 3) ae)) ae)))))
     (aq (aH (b9 (aa (pv 4) (aa (jI (zp3 T) hr T.G3 IU (aa (pv 4) (aa (cn rfl (bc.by (N':=["phase","count"]) (src:=[none,some 1]) rfl (show bG _ (au zR).names DF ["phase","count"] [none,some 1]=true from by decide +kernel)) (gQ (aA (pv 0))) (λ_ _ _ _ _=>(aN (i:=0) (show(["phase","count"]:List Str).Nodup from by decide) rfl (Or.inl rfl))) (λ_ _ _ _ _=>cy) (λ_ _ _ _ _=>(ak (MV (K:=K) (mg:=mg) (a:=a) T) hr T.AM (aa (pv 1) (aa (pv 0) ae))))) ae))) ae))))))))))),?_⟩
 wtm_at "cl";rw[show start DF [x0]=[some x0,none,none,none,none]from rfl];obtain⟨ra,rb,xs,hw,ok,h1,h8,hp,q1,q2⟩:=h
 have hds:∀x∈rb::xs,x.den<=60:=λx hx=>by
   rcases wE.mp hx with rfl | hx
   . have:=ok.bd;omega
   . exact(hp x hx).den
 have ba:ai 4000 ra:=ok.ba.mono (by decide);o_head bo (j:=0) hw rfl (λv1 i1=>?_);o_head zyM i1 ba ?_;k_few;obtain⟨sb,hsb⟩:=zvh ra;refine Nj (d:=.str (j9 ra)) (e:=.str (WW "even")) (kj.mpr rfl) (kj.mpr rfl) (by rw[hsb];exact NO sb) (NO _) ?_;rw[Pl]
 by_cases ha:ra=1
 . rw[decide_eq_true (LR.mpr ha)]
   o_head bo (j:=0) hw rfl (λv2 i2=>?_);k_few;rename_i v3 i3;refine cC (ds:=[N rb]) (by simp) (.cons i3 .nil) (λv4 H4 S4 i4=>?_);o_head bo (j:=1) (hw.by S4) rfl (λv5 i5=>?_);o_head Ro i4 i5 (by simp;omega) (λv6 H6 S6 i6=>?_);have T6:=S4.trans S6;o_head ZN (xs:=rb::xs) i6 hds (by simp;omega) ?_;k_few
   . rename_i hc
     exact⟨by simp;decide,q1 (.inr (by omega)) H6 T6⟩
   rename_i hc;have h60:bK 1 (rb::xs)<=60:=by omega
   have bb:ai 100 rb:=ok.bb.mono (by decide);o_head bo (j:=0) (hw.by T6) rfl (λv7 i7=>?_);k_few;rename_i v8 i8;refine Li i8 h60 bb ?_;o_head iG (by simp) (λl9 H9 n9 S9 e9=>?_);o_head Dr e9 (by omega) (by omega) (by simp;omega) (λl10 H10 n10 S10 e10=>?_);have T10:=T6.trans (S9.trans S10);rw[wH,V6]at e10;o_head bo (j:=1) (hw.by T10) rfl (λv11 i11=>?_);o_head Cz i11 ?_;o_head iG (by simp) (λl12 H12 n12 S12 e12=>?_);o_head Dr e12 (by omega) (by omega) (by simp;omega) (λl13 H13 n13 S13 e13=>?_);rw[wH,V6]at e13;o_head iG (by simp) (λl14 H14 n14 S14 e14=>?_);o_head Dr e14 (by omega) (by omega) (by simp;omega) (λl15 H15 n15 S15 e15=>?_);rw[wH,V6]at e15;o_head zp4 h8 (λl16 H16 us16 n16 S16 e16 t16=>?_);have c1:1<=bK 1 (rb::xs):=Aq (rb::xs) 1 (by decide);have U15:=(S12.trans S13).trans (S14.trans S15);have T15:=T10.trans U15;have T16:=T15.trans S16;have iu:Is K H16 (.ref l10) (.list ((fX (bK 1 (rb::xs)) rb).map .int)):=aW.mpr ⟨l10,_,rfl,.of (S16 _ _ (U15 _ _ e10)),jA.mpr (by unfold fX;rw[Qm])⟩;o_head Jv (rs:=wm xs.length ((bK 1 (rb::xs):Nat):Int)) (us:=wm xs.length (fX (bK 1 (rb::xs)) rb)) (ts:=br xs.length xs.length) ⟨⟨_,aW.mpr ⟨l13,_,rfl,.of (S16 _ _ (S15 _ _ (S14 _ _ e13))),jA.mpr (by rw[Qm])⟩,.inl rfl⟩,⟨_,wm xs.length (.list ((fX (bK 1 (rb::xs)) rb).map .int)),aW.mpr ⟨l15,_,rfl,.of (S16 _ _ e15),Pp iu _⟩,.inl rfl,by rw[wO,wO],λi hi=>?_⟩,⟨_,_,aW.mpr ⟨l16,us16,rfl,.of e16,t16⟩,.inl rfl,Cr _⟩,Co h1 h8 c1 h60 (pC (wN ..)) ok.b0 ok.b1⟩ (λv17 H17 ts' S17 pm so i17=>?_)
   . rw[wO]at hi
     rw[wa,vO,if_pos hi,wa,vO,if_pos hi];exact .inl rfl
   have es:=fV.uniq so (CC xs.length xs.length).1 pm;subst es;have T17:=T16.trans S17;o_head bo (j:=1) (hw.by T17) rfl (λv18 i18=>?_);obtain⟨l18,us18,rfl,hs18,t18⟩:=bz.mp i18;have len18:us18.length=xs.length:=by rw[t18.length,wd]
   o_head iN hs18 (o0:=none) (tl:=[some (.int ((bK 1 (rb::xs):Nat):Int))]) rfl (λj y H'=>y=.int ((bJ (bK 1 (rb::xs)) xs).getD j 0)) ?_ ?_
   . intro D i x ys o H19 hx inv
     obtain⟨hi,ix⟩:=kA t18 hx;have ix:=ix.by inv.same;have px:=hp _ (getD_mem (d:=0) hi);o_head Li ix h60 (px.jb.mono (by decide)) ?_;o_head dB inv (by omega) (λ_ _ _ _ _ z=>z) ⟨_,rfl⟩ (af.refl _) ?_;rw[mW hi]
   . intro D zs H19 n19 S19 e19 hl19 hr19
     have ez:zs=(bJ (bK 1 (rb::xs)) xs).map V.int:=by
       refine List.ext_getElem? λj=>?_
       rw[wz]
       by_cases hj:j<zs.length
       . have hj':j<(bJ (bK 1 (rb::xs)) xs).length:=by unfold bJ;rw[wd];omega
         have e1:=wc hj;rw[e1,hr19 j _ e1,wc hj',wa,wc hj']
         rfl
       . rw[wX (by omega),wX (by unfold bJ;rw[wd];omega)]
         rfl
     subst ez;have T19:=T17.trans S19;o_head zqa (ps:=bJ (bK 1 (rb::xs)) xs) (i17.by S19) (by rw[wO];exact h8) (mZ e19) (.inl rfl) (by unfold bJ;rw[wd,wO]) (λi hi=>?_) (λv20 H20 S20 i20=>?_)
     . rw[wO]at hi
       have er:(wm xs.length ((bK 1 (rb::xs):Nat):Int)).getD i 0=((bK 1 (rb::xs):Nat):Int):=by rw[wa,vO,if_pos hi];rfl
       rw[mW hi,er];exact M7 (pC (wI _ (getD_mem hi))) c1 (hp _ (getD_mem hi))
     o_head cC (ds:=[_,_]) (by simp) (.cons (i17.by (S19.trans S20)) (.cons i20 .nil)) (λv21 H21 S21 i21=>?_);rw[wO]at i21;exact q2 ha h60 v21 H21 (T19.trans (S20.trans S21)) i21
 . rw[decide_eq_false (λe=>ha (LR.mp e))]
   k_few;exact⟨by simp;decide,q1 (.inl ha) H (af.refl _)⟩
def zC(K:wb):Sp:=λvs H Q _=>∃x0,vs=[x0]/\((∃d,Is K H x0 d/\bA d=false/\Q (.bl false) H)\/(∃x:Rat,Is K H x0 (N x)/\ai 4000 x/\Q (.bl (jL x)) H))
theorem zof{K:wb}{H:Hp}{Q:VK}{E:XK}{d:wq}{v:V}(h:Is K H v d)(n:bA d=false)(q:Q (.bl false) H):zC K [v] H Q E:=⟨_,rfl,.inl ⟨d,h,n,q⟩⟩
theorem zqS{K:wb}{H:Hp}{Q:VK}{E:XK}{x:Rat}{v:V}(h:Is K H v (N x))(b:ai 4000 x)(q:Q (.bl (jL x)) H):zC K [v] H Q E:=⟨_,rfl,.inr ⟨x,h,b,q⟩⟩
theorem zpJ(T:Txt K mg a):aM P w K mg base aR 3 a.HL a.Gw tQ (zC K):=by
 refine T.GO.F.ok ZS ?_ ?_;wtm_at "b1"
 refine⟨_,(ah (bZ (PW.pt (f_ (cE (cw (ak (DK T) hr T.pU (aa (pv 0) ae)))) (hW (cw (ak (iM T) hr T.gD (aa (pv 0) (aa (fk (v:=.ref a.jN) rfl T.lJ rfl) ae))))))) (aq (aH dY)) b7)
     (aq (aH (eS (ak (iM T) hr T.gD (aa (pv 0) (aa (fk (v:=.ref a.ig) rfl T.jQ rfl) ae))) (fY (eW jy (aA (pv 0)) (ib rfl T.Sj) (bD _))))))),?_⟩
 wtm_at "cl";rw[show start EI [x0]=[some x0]from rfl];rcases h with⟨d,hd,hn,q⟩ | ⟨x,hx,bx,q⟩
 . k_few
   . exact q
   . rename_i e;rw[hn]at e;cases e
 . unfold jL at q
   k_few
   . rename_i z;rw[Fd]at z;cases z
   . rename_i h1
     rw[decide_eq_true h1]at q;exact q
   . rename_i h1 h2
     rw[decide_eq_false h1,decide_eq_true h2]at q;exact q
   . rename_i h1 h2
     rw[decide_eq_false h1,decide_eq_false h2]at q;exact q
def fA:wq->Bool
 | .tuple [.int p,.int q]=>gj p q&&jL (vC p q)
 | _=>false
theorem L6(x:Rat):fA (N x)=jL x:=by
 show(gj x.num x.den&&jL (vC x.num x.den))=jL x
 rw[Ni,Qg,W6]
theorem Tn{d:wq}(h:bA d=true):∃x:Rat,d=N x:=by
 match d with
 | .tuple [.int p,.int q] =>
  obtain⟨r,e1,e2⟩:=zn4 (show gj p q=true from h);exact⟨r,by rw[e1,e2];rfl⟩
 | .none=>simp[bA]at h
 | .bool _=>simp[bA]at h
 | .int _=>simp[bA]at h
 | .str _=>simp[bA]at h
 | .list _=>simp[bA]at h
 | .dict _=>simp[bA]at h
 | .tuple []=>simp[bA]at h
 | .tuple [_]=>simp[bA]at h
 | .tuple (_::_::_::_)=>simp[bA]at h
 | .tuple [.none,_]=>simp[bA]at h
 | .tuple [.bool _,_]=>simp[bA]at h
 | .tuple [.str _,_]=>simp[bA]at h
 | .tuple [.tuple _,_]=>simp[bA]at h
 | .tuple [.list _,_]=>simp[bA]at h
 | .tuple [.dict _,_]=>simp[bA]at h
 | .tuple [.int _,.none]=>simp[bA]at h
 | .tuple [.int _,.bool _]=>simp[bA]at h
 | .tuple [.int _,.str _]=>simp[bA]at h
 | .tuple [.int _,.tuple _]=>simp[bA]at h
 | .tuple [.int _,.list _]=>simp[bA]at h
 | .tuple [.int _,.dict _]=>simp[bA]at h
theorem zyR{d:wq}(h:bA d=false):fA d=false:=by
 unfold fA
 split
 ·rename_i p q
  rw[show gj p q=false from h];rfl
 ·rfl
theorem Nh{K:wb}{H:Hp}{Q:VK}{E:XK}{d:wq}{v:V}(h:Is K H v d)(b:∀x,d=N x->ai 4000 x)(q:Q (.bl (fA d)) H):zC K [v] H Q E:=by
 cases e:bA d with
 | false=>rw[zyR e]at q;exact zof h e q
 | true =>
  obtain⟨x,rfl⟩:=Tn e;rw[L6]at q;exact zqS h (b x rfl) q
def KY(K:wb):Sp:=λvs H Q _=>∃x0,vs=[x0]/\((∃d,Is K H x0 d/\(fZ d || gn d)=false /\ ∀H',af H H'->Q (.bl false) H')\/(∃ds,(Is K H x0 (.list ds)\/Is K H x0 (.tuple ds))/\(∀e∈ds,∀x,e=N x->ai 4000 x) /\ ∀H',af H H'->Q (.bl (decide (1<=ds.length)&&decide (ds.length<=8)&&ds.all fA)) H'))
theorem zmI{K:wb}{H:Hp}{Q:VK}{E:XK}{ds:List wq}{v:V}(h:Is K H v (.list ds)\/Is K H v (.tuple ds))(b:∀e∈ds,∀x,e=N x->ai 4000 x)(q:∀H',af H H'->Q (.bl (decide (1<=ds.length)&&decide (ds.length<=8)&&ds.all fA)) H'):KY K [v] H Q E:=⟨_,rfl,.inr ⟨ds,h,b,q⟩⟩
theorem Z5(T:Txt K mg a):aM P w K mg base aR 4 a.G1 a.FT yg (KY K):=by
 refine T.F0.F.ok Ti ?_ ?_;wtm_at "b1"
 refine⟨_,(ah (bZ (PW.pt (f_ (cE (cw (aU (show ay _ (.builtin "isinstance") (rZ K)from KI) rfl T.z_isinstance kG (aa (pv 0) (aa (b9 (aa (jF (v:=.ty "list") rfl T.z_list oz rfl) (aa (jF (v:=.ty "tuple") rfl T.z_tuple cf rfl) ae))) ae))))) (hW (cE (Tf jy jy aC (aU (show ay _ (.builtin "len") (bB K)from bX) rfl T.z_len bR (aa (pv 0) ae)) (ib rfl T.R4)))))) (aq (aH dY)) b7)
     (aq (aH (aU (show ay _ (.builtin "all") (kc K)from mB rfl) rfl T.z_all lW (aa (cn rfl (bc.by (N':=["one"]) (src:=[none]) rfl (show bG _ (au Au).names rJ ["one"] [none]=true from by decide +kernel)) (kH (pv 0)) (λ_ _ _ _ _=>(aN (i:=0) (show(["one"]:List Str).Nodup from by decide) rfl (Or.inl rfl))) (λ_ _ _ _ _=>cy) (λ_ _ _ _ _=>(ak (zpJ (K:=K) (mg:=mg) (a:=a) T) hr T.GO (aa (pv 0) ae)))) ae))))),?_⟩
 wtm_at "cl";rw[show start rJ [x0]=[some x0]from rfl];rcases h with⟨d,hd,hn,q⟩ | ⟨ds,hd,bd,q⟩
 . k_few
   refine kF (by simp) (λtp H1 _ S1 e1=>?_);o_head rL (hd.by S1) e1 ?_;rw[hn];k_few;exact q H1 S1
 . rcases hd with hd | hd
   . k_few
     refine kF (by simp) (λtp H1 _ S1 e1=>?_);o_head rL (hd.by S1) e1 ?_;rw[show(fZ (.list ds) || gn (.list ds))=true from rfl];obtain⟨ap,us,rfl,hs,tu⟩:=aW.mp (hd.by S1);have hul:=tu.length;o_head dU hs ?_;rw[hul];k_few
     . rename_i z0 z
       have:=q H1 S1;rw[decide_eq_false (show ¬ ds.length<=8 by omega),VT,WI]at this;exact this
     . rename_i z0 z
       have h1:1<=ds.length:=by omega
       have h8:ds.length<=8:=by omega
       refine .inl (kZ (o0:=none) (tl:=[]) hs rfl (λj y H'=>y=.bl (fA (ds.getD j .none))) ?_ ?_)
       . intro D i x ys o H2 hx inv
         obtain⟨hi,ix⟩:=cQ tu hx;o_head Nh (ix.by inv.same) (λx e=>bd _ (getD_mem hi) x e) ?_;k_few;exact dB inv (by omega) (λ_ _ _ _ _ z=>z) ⟨_,rfl⟩ (af.refl _) rfl
       . intro D ys H2 hn S2 hD hl hr
         have hys:ys=(ds.map fA).map V.bl:=by
           refine vQ (by rw[hl,hul,wd,wd]) λj h1 h2=>?_
           have:=hr j ys[j] (wc h1);rw[this,vJ,vJ,wa,wc]
           rfl
         subst hys;o_head kh (.of hD) ?_;k_few;have e:(ds.map fA).all id=ds.all fA:=by rw[V3];rfl
         have:=q H2 (S1.trans S2);rw[decide_eq_true h1,decide_eq_true h8,<- e]at this;exact this
     . rename_i z
       have:=q H1 S1;rw[decide_eq_false (show ¬ 1<=ds.length by omega),WI,WI]at this;exact this
   . k_few
     refine kF (by simp) (λtp H1 _ S1 e1=>?_);o_head rL (hd.by S1) e1 ?_;rw[show(fZ (.tuple ds) || gn (.tuple ds))=true from rfl];obtain⟨ap,us,rfl,hs,tu⟩:=bz.mp (hd.by S1);have hul:=tu.length;o_head LL hs ?_;rw[hul];k_few
     . rename_i z0 z
       have:=q H1 S1;rw[decide_eq_false (show ¬ ds.length<=8 by omega),VT,WI]at this;exact this
     . rename_i z0 z
       have h1:1<=ds.length:=by omega
       have h8:ds.length<=8:=by omega
       refine .inr (iN (o0:=none) (tl:=[]) hs rfl (λj y H'=>y=.bl (fA (ds.getD j .none))) ?_ ?_)
       . intro D i x ys o H2 hx inv
         obtain⟨hi,ix⟩:=cQ tu hx;o_head Nh (ix.by inv.same) (λx e=>bd _ (getD_mem hi) x e) ?_;k_few;exact dB inv (by omega) (λ_ _ _ _ _ z=>z) ⟨_,rfl⟩ (af.refl _) rfl
       . intro D ys H2 hn S2 hD hl hr
         have hys:ys=(ds.map fA).map V.bl:=by
           refine vQ (by rw[hl,hul,wd,wd]) λj h1 h2=>?_
           have:=hr j ys[j] (wc h1);rw[this,vJ,vJ,wa,wc]
           rfl
         subst hys;o_head kh (.of hD) ?_;k_few;have e:(ds.map fA).all id=ds.all fA:=by rw[V3];rfl
         have:=q H2 (S1.trans S2);rw[decide_eq_true h1,decide_eq_true h8,<- e]at this;exact this
     . rename_i z
       have:=q H1 S1;rw[decide_eq_false (show ¬ 1<=ds.length by omega),WI,WI]at this;exact this
theorem zuV{a b:Rat}(h:gx a b):kC a b=true:=by
 obtain⟨h1,h2,h3,h4,h5,h6,h7⟩:=h;have k2:¬ (4:Rat)<a:=QT.mpr h2;have k4:¬ b<0:=QT.mpr h4;have k5:¬ (1:Rat)<b:=QT.mpr h5;have k7:¬ a+b<1:=QT.mpr h7;have k3:(a.den:Int)<=8:=by omega
 have k6:(b.den:Int)<=12:=by omega
 simp[kC,oV,nI,h1,k2,k3,k4,k5,k6,k7]
theorem zAo{xs:List Rat}(h:∀x∈xs,fg x):(xs.map N).all fA=true:=by
 rw[WB];intro d hd;obtain⟨x,hx,rfl⟩:=wQ.mp hd;rw[L6];exact(h x hx).is
theorem zyH{xs:List Rat}(h:∀x∈xs,fg x):∀e∈xs.map N,∀x,e=N x->ai 4000 x:=by
 intro e he x hx;obtain⟨y,hy,rfl⟩:=wQ.mp he;rw[<- zBT hx];exact(h y hy).jb.mono (by decide)
def Ju(K:wb):Sp:=λvs H Q _=>∃x0 x1,vs=[x0,x1] /\ ∃(a b:Rat)(xs:List Rat),Is K H x0 (R a b)/\gx a b/\(Is K H x1 (LN xs)\/Is K H x1 (TN xs))/\1<=xs.length/\xs.length<=8/\(∀x∈xs,fg x) /\ ∀v H',af H H'->Is K H' v (dO a b xs)->Q v H'
theorem zpC{K:wb}{H:Hp}{Q:VK}{E:XK}{a b:Rat}{xs:List Rat}{v w:V}(h1:Is K H v (R a b))(ok:gx a b)(h2:Is K H w (LN xs)\/Is K H w (TN xs))(h3:1<=xs.length)(h4:xs.length<=8)(h5:∀x∈xs,fg x)(q:∀v H',af H H'->Is K H' v (dO a b xs)->Q v H'):Ju K [v,w] H Q E:=⟨_,_,rfl,a,b,xs,h1,ok,h2,h3,h4,h5,q⟩
theorem zpl(T:Txt K mg a):aM P w K mg base aR 5 a.Hy a.Gi zD (Ju K):=by
 refine T.GR.F.ok zpu ?_ ?_;wtm_at "b2"
 refine⟨_,(ah (bZ (cE (cw (ak (Z7 T) hr T.Hq (aa (pv 0) ae)))) (aq N4) b7)
     (ah (bZ (cE (cw (ak (Z5 T) hr T.F0 (aa (pv 1) ae)))) (aq N4) b7)
     (aq (aH (b9 (aa (pv 0) (aa (b_ (show ay _ (.type "tuple") (bQ K)from cA) rfl T.z_tuple cf (aa (pv 1) ae)) ae))))))),?_⟩
 wtm_at "cl";rw[show start EM [x0,x1]=[some x0,some x1]from rfl];obtain⟨ra,rb,xs,hr,ok,hp,h1,h8,hph,q⟩:=h;o_head zsj hr (ok.ba.mono (by decide)) (ok.bb.mono (by decide)) (λH1 S1=>?_);rw[zuV ok];k_few;have hp1:Is K H1 x1 (LN xs)\/Is K H1 x1 (TN xs):=hp.imp (λz=>z.by S1) (λz=>z.by S1);refine zmI (ds:=xs.map N) hp1 (zyH hph) (λH2 S2=>?_);rw[zAo hph,wd,decide_eq_true h1,decide_eq_true h8,show(true&&true&&true)=true from rfl];have hp2:Is K H2 x1 (LN xs)\/Is K H2 x1 (TN xs):=hp1.imp (λz=>z.by S2) (λz=>z.by S2);have hr2:Is K H2 x0 (R ra rb):=(hr.by S1).by S2;k_few;rcases hp2 with z | z
 . refine fj z (λw H3 S3 i3=>?_)
   o_head cC (ds:=[R ra rb,TN xs]) (by simp) (.cons (hr2.by S3) (.cons i3 .nil)) (λv H4 S4 i4=>?_);exact q v H4 (S1.trans (S2.trans (S3.trans S4))) i4
 . refine Ep z ?_
   o_head cC (ds:=[R ra rb,TN xs]) (by simp) (.cons hr2 (.cons z .nil)) (λv H4 S4 i4=>?_);exact q v H4 (S1.trans (S2.trans S4)) i4
def LO(K:wb):Sp:=λvs H Q _=>∃x0,vs=[x0] /\ ∃xs:List Rat,(Is K H x0 (LN xs)\/Is K H x0 (TN xs))/\1<=xs.length/\(∀i,ai 4000 (xs.getD i 0)) /\ ∀v,Is K H v (N (bE xs))->Q v H
theorem zqH{K:wb}{H:Hp}{Q:VK}{E:XK}{xs:List Rat}{v:V}(h:Is K H v (LN xs)\/Is K H v (TN xs))(h1:1<=xs.length)(b:∀i,ai 4000 (xs.getD i 0))(q:∀v,Is K H v (N (bE xs))->Q v H):LO K [v] H Q E:=⟨_,rfl,xs,h,h1,b,q⟩
theorem zqn(T:Txt K mg a):aM P w K mg base aR 2 a.HD a.Gp yu (LO K):=by
 refine T.GV.F.ok zt ?_ ?_;wtm_at "b1"
 refine⟨_,(ah (aD 1 zt.nd (aA (pv 0)))
     (ah (dG vE rfl (kH (pv 0)) (aN (i:=2) zt.nd rfl (Or.inl rfl)) (aq (bZ (cw (ak (iM T) hr T.gD (aa (pv 1) (aa (pv 2) ae)))) (aq (aD 1 zt.nd (pv 2))) b7)))
     (aq (aH (pv 1))))),?_⟩
 wtm_at "cl";rw[show start M5 [x0]=[some x0,none,none]from rfl];obtain⟨xs,hx,h1,bx,q⟩:=h;rcases hx with hx | hx
 . obtain⟨ap,us,rfl,hs,tu⟩:=aW.mp hx
   have hul:us.length=xs.length:=by rw[tu.length,wd]
   o_head DA hx (by decide) (by omega) (λv0 i0=>?_);have i0:Is K H v0 (N (mx (xs.getD 0 0) [])):=i0;o_head .inl (Am hs (λi σ H'=>∃o v,σ = [some (.ref ap),some v,o]/\H'=H/\Is K H v (N (mx (xs.getD 0 0) (xs.take i)))) ⟨_,v0,rfl,rfl,by rw[UF];exact i0⟩ (λi σ H' _ h=>by obtain⟨_,_,_,rfl,_⟩:=h;exact hs) ?_ ?_)
   . rintro i x σ H' hx' ⟨o,v,rfl,rfl,iv⟩
     obtain⟨hi,ix⟩:=kA tu hx';have b1:=OF bx h1 i;have b2:=bx i;k_few
     . rename_i z
       exact⟨_,x,rfl,rfl,by rw[zB hi,zb,if_pos z];exact ix⟩
     . rename_i z
       exact⟨_,v,rfl,rfl,by rw[zB hi,zb,if_neg z];exact iv⟩
   . rintro σ H' ⟨o,v,rfl,rfl,iv⟩
     rw[hul,Wt]at iv;k_few;exact q v iv
 . obtain⟨ap,us,rfl,hs,tu⟩:=bz.mp hx
   have hul:us.length=xs.length:=by rw[tu.length,wd]
   o_head OJ hx (by decide) (by omega) (λv0 i0=>?_);have i0:Is K H v0 (N (mx (xs.getD 0 0) [])):=i0;o_head .inr (CS hs (λi σ H'=>∃o v,σ = [some (.ref ap),some v,o]/\H'=H/\Is K H v (N (mx (xs.getD 0 0) (xs.take i)))) ⟨_,v0,rfl,rfl,by rw[UF];exact i0⟩ (λi σ H' _ h=>by obtain⟨_,_,_,rfl,_⟩:=h;exact hs) ?_ ?_)
   . rintro i x σ H' hx' ⟨o,v,rfl,rfl,iv⟩
     obtain⟨hi,ix⟩:=kA tu hx';have b1:=OF bx h1 i;have b2:=bx i;k_few
     . rename_i z
       exact⟨_,x,rfl,rfl,by rw[zB hi,zb,if_pos z];exact ix⟩
     . rename_i z
       exact⟨_,v,rfl,rfl,by rw[zB hi,zb,if_neg z];exact iv⟩
   . rintro σ H' ⟨o,v,rfl,rfl,iv⟩
     rw[hul,Wt]at iv;k_few;exact q v iv
def Rb(K:wb):Sp:=λvs H Q _=>∃x0 x1,vs=[x0,x1] /\ ∃(lw:wf)(left:List Nat)(ps:List Rat),x0=.ref lw/\H lw=some (.lst (vz left))/\Is K H x1 (LN ps)/\(∀w∈left,w<ps.length)/\left.length<=900/\(∀i,ai 3000 (ps.getD i 0)) /\ ∀v H',af H H'->Is K H' v (TW (az ps left))->Q v H'
theorem Kh{K:wb}{H:Hp}{Q:VK}{E:XK}{lw:wf}{left:List Nat}{ps:List Rat}{v:V}(e:H lw=some (.lst (vz left)))(h:Is K H v (LN ps))(hw:∀w∈left,w<ps.length)(hl:left.length<=900)(b:∀i,ai 3000 (ps.getD i 0))(q:∀v H',af H H'->Is K H' v (TW (az ps left))->Q v H'):Rb K [.ref lw,v] H Q E:=⟨_,_,rfl,lw,left,ps,rfl,e,h,hw,hl,b,q⟩
theorem zt6(ps:List Rat)(l:List Nat):(az ps l).length<=l.length:=Wq _ _
theorem N8(T:Txt K mg a):aM P w K mg base aR 2 a.GY a.FV za (Rb K):=by
 refine T.AO.F.ok zmH ?_ ?_;wtm_at "b2";refine⟨_,(aq (aH (b_ (show ay _ (.type "tuple") (bQ K)from cA) rfl T.z_tuple cf (aa (cn rfl (bc.by (N':=["worm","phases"]) (src:=[none,some 1]) rfl (show bG _ (au yQ).names tO ["worm","phases"] [none,some 1]=true from by decide +kernel)) (e_ (pv 0)) (λ_ _ _ _ _=>(aN (i:=0) (show(["worm","phases"]:List Str).Nodup from by decide) rfl (Or.inl rfl))) (λ_ _ _ _ _=>(gM (cE (cw (ak (iM (K:=K) (mg:=mg) (a:=a) T) hr T.gD (aa (cG (show dP _ (bL K)from bM) (pv 1) (pv 0) (λ_ _=>rfl)) (aa (fk (v:=.ref a.ig) rfl T.jQ rfl) ae))))))) (λ_ _ _ _ _=>(pv 0))) ae)))),?_⟩;wtm_at "cl";rw[show start tO [x0,x1]=[some x0,some x1]from rfl];obtain⟨lw,left,ps,rfl,e1,hx,hw,hl,bp,q⟩:=h;o_head iF (.of e1) (λD i ys σ' H'=>(∃o,σ'=[o,some x1])/\H D=none/\af H H'/\H' D=some (.lst (vz (az ps (left.take i))))) (λD H' n s e=>⟨⟨_,rfl⟩,n,s,e⟩) (λD i ys σ' H' h=>h.2.2.1.seq (.of e1)) ?_ ?_
 ·rintro D i x ys σ' H1 hx' ⟨⟨o,rfl⟩,n,S1,e2⟩
  obtain⟨hi,rfl⟩:=kT hx';have hx1:=hx.by S1;have hlt:=hw _ (vc hi);have bw:=bp left[i];have hle:=zt6 ps (left.take i);have htl:(left.take i).length<=900:=by rw[vP];omega
  o_head DA hx1 (by omega) (by omega) (λv iv=>?_);rw[wH]at iv;generalize hww:left[i]=ww at *;k_few
  ·rename_i z
   refine dC e2 (by rw[fu];omega) (λH6 E6 e6=>⟨⟨_,rfl⟩,n,S1.grow n E6,?_⟩);rw[kS hi,hww,zwC z,OG];exact e6
  ·rename_i z
   refine⟨[],⟨_,rfl⟩,n,S1,?_⟩;rw[kS hi,hww,zui (by first | exact z | exact uK.mp z)];exact e2
 ·rintro D ys σ' H1 ⟨_,n,S1,e2⟩
  rw[fu,Wt]at e2;o_head gm (.of e2) (λl H2 n2 S2 e3=>?_);exact q _ H2 (S1.trans S2) (AB.mpr ⟨l,rfl,.of e3⟩)
def Pn(K:wb):Sp:=λvs H Q _=>∃x0,vs=[x0] /\ ∃(a b:Rat)(xs:List Rat)(m:Nat),Is K H x0 (dO a b xs)/\ai 10 a/\ai 10 b/\1<=xs.length/\xs.length<=8/\Cm m xs/\m+2+21*xs.length<=2900 /\ ∀v H',af H H'->Is K H' v (GD a b xs)->Q v H'
theorem zyB{K:wb}{H:Hp}{Q:VK}{E:XK}{a b:Rat}{xs:List Rat}{m:Nat}{v:V}(h:Is K H v (dO a b xs))(ba:ai 10 a)(bb:ai 10 b)(h1:1<=xs.length)(h8:xs.length<=8)(c:Cm m xs)(hm:m+2+21*xs.length<=2900)(q:∀v H',af H H'->Is K H' v (GD a b xs)->Q v H'):Pn K [v] H Q E:=⟨_,rfl,a,b,xs,m,h,ba,bb,h1,h8,c,hm,q⟩
structure X_(K:wb)(a b:Rat)(xs:List Rat)(m:Nat)(H H':Hp)(vw:V)(lp lv ll:wf)(left:List Nat)(ps:List Rat)(done:List (List Nat))(f:Nat)(pv wv:List V)(vwave:V):Prop where
 same:af H H'
 hp:H lp=none
 hv:H lv=none
 iw:Is K H' vw (N (1-bE xs))
 mF:lp≠lv
 dS:ll≠lp
 tX:ll≠lv
 ep:H' lp=some (.lst pv)
 tp:ag K H' pv (ps.map N)
 el:H' ll=some (.lst (vz left))
 ev:H' lv=some (.lst wv)
 tv:ag K H' wv (done.map TW)
 iv:Is K H' vwave (TW (az ps left))
 nd:left.Nodup
 lt:∀w∈left,w<xs.length
 len:ps.length=xs.length
 fl:left.length<=f
 dl:done.length+left.length<=xs.length
 cm:Cm (m+2+21*(xs.length-left.length)) ps
 w1:done++(bU a b f ps left).1=cD a b xs
 w2:(bU a b f ps left).2=(eJ a b xs).2
def Mh(K:wb)(a b:Rat)(xs:List Rat)(m:Nat)(H:Hp)(x0 vw:V)(lp lv:wf)(k:Nat)(σ':L2.St)(H':Hp):Prop:=∃(ll:wf)(left:List Nat)(ps:List Rat)(done:List (List Nat))(f:Nat)(pv wv:List V)(vwave:V)(o6 o7:Option V),σ'=[some x0,some vw,some (.ref lp),some (.ref ll),some (.ref lv),some vwave,o6,o7,none]/\k=left.length/\X_ K a b xs m H H' vw lp lv ll left ps done f pv wv vwave
theorem pD{H:Hp}{p q:wf}{o:HO}(h:H p=none)(k:H q=some o):p≠q:=λe=>by rw[e,k]at h;cases h
theorem zuu{α β γ : Type}(f : α -> β)(g : β -> γ)(l:List α):(!((l.map f).map g).isEmpty) = !l.isEmpty:=by cases l<;>rfl
theorem ZR{α : Type}{l:List α}(h:l≠[]):(!l.isEmpty)=true:=by cases l with
 | nil=>exact absurd rfl h
 | cons x l=>rfl
theorem zy0(T:Txt K mg a):aM P w K mg base aR 4 a.rj a.HZ zh (Pn K):=by
 refine T.Ik.F.ok gL ?_ ?_;wtm_at "b1"
 refine⟨_,(ah (aD 1 gL.nd (ak (zxI T) hr T.HY (aa (fk (v:=.ref a.ig) rfl T.jQ rfl) (aa (ak (zqn T) hr T.GV (aa (aA (pv 0)) ae)) ae))))
     (ah (lh (i:=2) gL.nd rfl (Or.inl rfl) rfl (bc.by (N':=["phase","wait"]) (src:=[none,some 1]) rfl (show bG _ (au mR).names n_ ["phase","wait"] [none,some 1]=true from by decide +kernel)) (gQ (aA (pv 0))) (λ_ _ _ _ _=>(aN (i:=0) (show(["phase","wait"]:List Str).Nodup from by decide) rfl (Or.inl rfl))) (λ_ _ _ _ _=>cy) (λ_ _ _ _ _=>(ak (nj (K:=K) (mg:=mg) (a:=a) T) hr T.ko (aa (pv 0) (aa (pv 1) ae)))))
     (ah (aD 3 gL.nd (tR rfl rfl T.z_list rfl T.z_range (aa (aU (show ay _ (.builtin "len") (bB K)from bX) rfl T.z_len bR (aa (pv 2) ae)) ae)))
     (ah (aD 4 gL.nd (cS ae))
     (ah (aD 5 gL.nd (ak (N8 T) hr T.AO (aa (pv 3) (aa (pv 2) ae))))
     (ah (nV vE (EY (pv 5)) (ah (h_ (fS vI Wd We hV (pv 4) (aa (pv 5) ae)))
     (ah (aD 3 gL.nd (cn rfl (bc.by (N':=["worm","wave"]) (src:=[none,some 5]) rfl (show bG _ (au mR).names n_ ["worm","wave"] [none,some 5]=true from by decide +kernel)) (e_ (pv 3)) (λ_ _ _ _ _=>(aN (i:=0) (show(["worm","wave"]:List Str).Nodup from by decide) rfl (Or.inl rfl))) (λ_ _ _ _ _=>(gM (cb (show aJ _ (wW .NotIn) (eL K true)from Eo) (pv 0) (pv 1) (by with_unfolding_all rfl)))) (λ_ _ _ _ _=>(pv 0))))
     (ah (aD 6 gL.nd (ak (U_ T) hr T.HK (aa (aA (pv 0)) (aa (aU (show ay _ (.builtin "len") (bB K)from bX) rfl T.z_len bR (aa (pv 5) ae)) ae))))
     (ah (dG vE rfl (e_ (pv 3)) (aN (i:=7) gL.nd rfl (Or.inl rfl)) (aq (ni (ak (SY T) hr T.Gv (aa (pv 6) (aa (cG bM (pv 2) (pv 7) (λ_ _=>rfl)) ae))) (oC (pv 2) (pv 7) pq))))
     (aq (aD 5 gL.nd (ak (N8 T) hr T.AO (aa (pv 3) (aa (pv 2) ae))))))))))
     (ah (lh (i:=8) gL.nd rfl (Or.inl rfl) rfl (bc.by (N':=["worm","phase","left"]) (src:=[none,none,some 3]) rfl (show bG _ (au mR).names n_ ["worm","phase","left"] [none,none,some 3]=true from by decide +kernel)) (zww rfl T.z_enumerate (aa (pv 2) ae)) (λ_ _ _ _ _=>by exact(show PG _ _ (je K 2 _)from gz (n:=2) rfl (cV (aN (i:=0) (show(["worm","phase","left"]:List Str).Nodup from by decide) rfl (Or.inl rfl)) (cV (aN (i:=1) (show(["worm","phase","left"]:List Str).Nodup from by decide) rfl (Or.inl rfl)) gB)))) (λ_ _ _ _ _=>cy) (λ_ _ _ _ _=>(Lg (cb (show aJ _ (wW .In) (eL K false)from Br) (pv 0) (pv 2) (by with_unfolding_all rfl)) (pv 1) (fk (v:=.ref a.jN) rfl T.lJ rfl))))
     (aq (aH (b9 (aa (pv 1) (aa (b_ (show ay _ (.type "tuple") (bQ K)from cA) rfl T.z_tuple cf (aa (pv 4) ae)) (aa (b9 (aa (aA (pv 0)) (aa (b_ (show ay _ (.type "tuple") (bQ K)from cA) rfl T.z_tuple cf (aa (pv 8) ae)) ae))) ae))))))))))))),?_⟩
 wtm_at "cl";rw[show start n_ [x0]=[some x0,none,none,none,none,none,none,none,none]from rfl];obtain⟨ra,rb,xs,m,hw,ba,bb,h1,h8,cm,hm,q⟩:=h;have bx:∀i,ai 4000 (xs.getD i 0):=λi=>(cm.get i).mono (by omega)
 have bm:ai 2900 (bE xs):=(cm.jb (gJ h1)).mono (by omega);o_head bo (j:=1) hw rfl (λvp ip=>?_);o_head zqH (.inr ip) h1 bx (λvm im=>?_);k_few;rename_i vw H1 S1 iw;refine bo (j:=1) (hw.by S1) rfl (λvp1 ip1=>?_);obtain⟨ap,us,rfl,hu,tu⟩:=bz.mp ip1;refine iN (o0:=none) (tl:=[some vw]) hu rfl (λj y H'=>Is K H' y (N ((cB xs).getD j 0))) ?_ ?_
 . intro D i x ys o H2 hx inv
   obtain⟨hi,ix⟩:=kA tu hx;have S2:=inv.same;have ix2:=ix.by S2;have iw2:=iw.by S2;have bi:=bx i;have bw:ai 2902 (1-bE xs):=(ai.one.sub bm).mono (by decide);k_few;rename_i v3 H3 S3 i3;exact dB inv (by omega) sX ⟨_,rfl⟩ S3 (by rw[Zs hi];exact i3)
 . intro lp ys H2 hnp S2 hD hl hr
   have hl':ys.length=(cB xs).length:=by rw[hl,tu.length,wd,iO]
   have tp:ag K H2 ys ((cB xs).map N):=nU hl' hr;have iw2:=iw.by S2;have T2:=S1.trans S2;have hpH:H lp=none:=oB S1 hnp;clear hl hr hu tu ip1 ip im iw S1 S2 hnp;o_head zwn (lG hD tp) ?_;rw[iO];o_head sL (n:=xs.length) (by omega) (λll H3 n3 S3 e3=>?_);o_head iG (by simp) (λlv H4 n4 S4 e4=>?_);k_few;have hD4:=S4 _ _ (S3 _ _ hD);have tp4:ag K H4 ys ((cB xs).map N):=ag.same (S3.trans S4) _ _ tp;have cm2:Cm (m+2) (cB xs):=(Cm.rise (h:=0) (cm.kn (ys:=0::xs) λy hy=>by rcases wE.mp hy with rfl | hy;(exact .inr rfl);exact .inl hy) (gJ h1)).kn λy hy=>.inl (wI _ hy)
   have b3:∀i,ai 3000 ((cB xs).getD i 0):=λi=>(cm2.get i).mono (by omega)
   refine Kh (S4 _ _ e3) (lG hD4 tp4) (λw hw'=>by rw[iO];exact wB.mp hw') (by rw[vi];omega) b3 (λvwave H5 S5 i5=>?_);have T5:=T2.trans (S3.trans (S4.trans S5));have hvH:H lv=none:=oB (T2.trans S3) n4;have mF:lp≠lv:=(pD n4 (S3 _ _ hD)).symm;have dS:ll≠lp:=pD n3 hD;have tX:ll≠lv:=(pD n4 e3).symm
   have G0:Mh K ra rb xs m H x0 vw lp lv xs.length [some x0,some vw,some (.ref lp),some (.ref ll),some (.ref lv),some vwave,none,none,none] H5:=by
     refine⟨ll,wo xs.length,cB xs,[],xs.length,ys,[],vwave,none,none,rfl,by rw[vi],T5,hpH,hvH,iw2.by (S3.trans (S4.trans S5)),mF,dS,tX,S5 _ _ hD4,ag.same S5 _ _ tp4,S5 _ _ (S4 _ _ e3),S5 _ _ e4,.nil,i5,Wn,λw hw'=>wB.mp hw',iO xs,by rw[vi];exact wu _,by rw[vi];simp,cm2.mono (by omega),?_,rfl⟩;rw[xW];rfl
   clear T5 S5 S4 S3 T2 hD hD4 tp tp4 b3 cm2 n3 n4 e3 e4 iw2 i5 hl';o_head Dt (Mh K ra rb xs m H x0 vw lp lv) _ G0 ?_;clear G0 mF dS tX;rintro k σ' H6 ⟨ll,left,ps,done,f,pv,wv,vwave,o6,o7,rfl,hk,G⟩;have bp:∀i,ai 3000 (ps.getD i 0):=λi=>(G.cm.get i).mono (by have:=G.dl;omega)
   o_head B0 (show Is K H6 vwave (.tuple (((az ps left).map λ(w:Nat)=>(w:Int)).map PyData.int))from G.iv) ?_;rw[zuu]
   by_cases he:az ps left=[]
   . rw[show(!(az ps left).isEmpty)=false by rw[he];rfl]
     refine mI ?_;have w1:=G.w1;have w2:=G.w2;rw[jE he]at w1 w2;rw[vT]at w1;have eps:ps=(eJ ra rb xs).2.2:=congrArg UV w2;have elf:left=(eJ ra rb xs).2.1:=congrArg UU w2;have hph:fM left ps=cU ra rb xs:=by rw[cU,<- eps,<- elf]
     o_head zvx (.of G.ep) (o0:=none) (o0':=none) (tl:=[some (.ref ll)]) rfl (λj y H'=>Is K H' y (N ((fM left ps).getD j 0))) sX ?_ ?_
     . intro D i x zs o1 o2 H7 c hx inv hc
       obtain⟨hi,ix⟩:=kA G.tp hx;have S7:=inv.2.2.1;refine jj (.of hc) rfl ?_;o_head Ob (aG.of (S7 _ _ G.el)) ?_;k_few
       . rename_i z
         exact rO inv (by have:=G.len;omega) sX ⟨_,_,rfl⟩ (af.refl _) (by rw[mV hi,if_pos z];exact ix.by S7)
       . rename_i z
         exact rO inv (by have:=G.len;omega) sX ⟨_,_,rfl⟩ (af.refl _) (by rw[mV hi,if_neg z];exact pF 0 (T.p3 _) rfl rfl)
     . intro D zs H7 hn S7 hD hl hr
       have hpl:=G.tp.length;rw[wd]at hpl;have tz:ag K H7 zs ((fM left ps).map N):=nU (by rw[hl,DU,hpl]) hr;rw[hph]at tz;have tv:=ag.same S7 _ _ G.tv;have ev:=S7 _ _ G.ev;have iw7:=G.iw.by S7;have T7:=G.same.trans S7;rw[w1]at tv;o_head fj (aW.mpr ⟨lv,wv,rfl,.of ev,tv⟩) (λv8 H8 S8 i8=>?_);o_head bo (j:=0) (hw.by (T7.trans S8)) rfl (λv9 i9=>?_);o_head fj (lG (S8 _ _ hD) (ag.same S8 _ _ tz)) (λv10 H10 S10 i10=>?_);o_head cC (ds:=[R ra rb,TN (cU ra rb xs)]) (by simp) (.cons (i9.by S10) (.cons i10 .nil)) (λv11 H11 S11 i11=>?_);o_head cC (ds:=[N (1-bE xs),cR (cD ra rb xs),dO ra rb (cU ra rb xs)]) (by simp) (.cons (iw7.by (S8.trans (S10.trans S11))) (.cons (i8.by (S10.trans S11)) (.cons i11 .nil))) (λv12 H12 S12 i12=>?_);exact q v12 H12 (T7.trans (S8.trans (S10.trans (S11.trans S12)))) i12
   . rw[ZR he]
     refine j3 ?_;refine Cy ?_;have hwl:=G.tv.length;rw[wd]at hwl;have hdl:=G.dl;have hlen:=zY ps left;have hpos:0<(az ps left).length:=qb.mpr he;o_head fK (aG.of G.ev) ?_;o_head jv G.ev (by omega) (λH7 E7 e7=>?_);have K7:aO H6 H7:=E7.keep G.ev;have S7:af H H7:=G.same.grow G.hv E7;have el7:=E7 _ _ G.tX G.el;have ep7:=E7 _ _ G.mF G.ep;have tp7:=ag.keep K7 _ _ (oH _) G.tp;have iv7:=G.iv.eX K7 (Ey _);have iw7:=G.iw.ji K7
     have tv7:ag K H7 (wv++[vwave]) ((done++[az ps left]).map TW):=by
       rw[wL];exact(ag.keep K7 _ _ (mQ _) G.tv).snoc iv7
     obtain⟨aw,rfl,hsw⟩:=AB.mp iv7;o_head iF (.of el7) (λD i ys σ' H'=>(∃o,σ'=[o,some (.ref aw)])/\H7 D=none/\af H7 H'/\H' D=some (.lst (vz (bP (left.take i) (az ps left))))) (λD H' n s e=>⟨⟨_,rfl⟩,n,s,e⟩) (λD i ys σ' H' h=>h.2.2.1.seq (.of el7)) ?_ ?_
     . rintro D i x ys σ' H8 hx' ⟨⟨o,rfl⟩,n,S8,e8⟩
       obtain⟨hi,rfl⟩:=kT hx';have hle:(bP (left.take i) (az ps left)).length<=(left.take i).length:=Wq _ _;rw[vP]at hle;o_head Rl (S8.d9 hsw) ?_;generalize hww:left[i]=ww at *;k_few
       . rename_i z
         refine dC e8 (by rw[fu];omega) (λH9 E9 e9=>⟨⟨_,rfl⟩,n,S8.grow n E9,?_⟩);rw[kS hi,hww,zuU z,OG];exact e9
       . rename_i z
         refine⟨[],⟨_,rfl⟩,n,S8,?_⟩;rw[kS hi,hww,zrK (by first | exact z | exact uK.mp z)];exact e8
     . rintro D ys σ' H8 ⟨_,n8,S8,e8⟩
       rw[fu,Wt]at e8;have nD1:D≠lp:=pD n8 ep7;have nD2:D≠lv:=pD n8 e7;have T8:=S7.trans S8;have iv8:=iv7.by S8;o_head bo (j:=0) (hw.by T8) rfl (λvr ir=>?_);o_head zvi iv8 ?_;o_head zuv ir ba bb (by omega) (by omega) (λvpush H9 S9 ipush=>?_);rw[wH]at ipush;have bf:ai 700 (ra^(az ps left).length):=(ba.pow _).mono (by omega);have bg:ai 1500 (bO ra rb (az ps left).length):=(ba.bO bb _).mono (by omega);have T9:=S8.trans S9;have ep9:=T9 _ _ ep7;have tp9:ag K H9 pv (ps.map N):=ag.same T9 _ _ tp7;have e9:=S9 _ _ e8;have ev9:=T9 _ _ e7;have ndl:=zq (wave:=az ps left) G.nd;have ltl:=pf (wave:=az ps left) G.lt;generalize hL:bP left (az ps left)=left' at *;o_head Am (.of e9) (λi σ'' H''=>∃o pv',σ''=[some x0,some vw,some (.ref lp),some (.ref D),some (.ref lv),some (.ref aw),some vpush,o,none]/\Exc lp H9 H''/\H'' lp=some (.lst pv')/\ag K H'' pv' ((cT (ra^(az ps left).length) (bO ra rb (az ps left).length) ps (left'.take i)).map N)) ⟨_,pv,rfl,Exc.refl _ _,ep9,tp9⟩ (λi σ'' H'' _ ⟨_,_,_,e,_⟩=>.of (e _ _ nD1 e9)) ?_ ?_
       . rintro i x σ'' H10 hx' ⟨o,pv',rfl,E10,e10,t10⟩
         obtain⟨hi,rfl⟩:=kT hx';have K10:aO H9 H10:=E10.keep ep9;have hlt:=ltl _ (vc hi);have hpl:=ja (ra^(az ps left).length) (bO ra rb (az ps left).length) (left'.take i) ps;have hps:=G.len
         have bq:ai 3000 ((cT (ra^(az ps left).length) (bO ra rb (az ps left).length) ps (left'.take i)).getD left'[i] 0):=by
           have nt:(left'.take i).Nodup:=ndl.sublist (uq ..);rw[lA _ _ _ _ nt (λw hw'=>by rw[hps];exact ltl w (uX _ _ hw'))];rw[if_neg]
           . exact bp _
           . intro hm
             obtain⟨j,hj,ej⟩:=Wj hm;rw[vP]at hj;rw[uL]at ej;exact absurd ej ((qX.mp ndl) j i (by omega) hi (by omega))
         have ip10:=ipush.eX K10 (Eg _ _);generalize hww:left'[i]=ww at *;generalize hqs:cT (ra^(az ps left).length) (bO ra rb (az ps left).length) ps (left'.take i)=qs at *;o_head DA (lG e10 t10) (by omega) (by omega) (λv11 i11=>?_);rw[wH]at i11;o_head zpa ip10 i11 bf bg (bq.mono (by decide)) (λv12 H12 S12 i12=>?_);have e12:=S12 _ _ e10;have hvl:=t10.length;rw[wd]at hvl;o_head rE (j:=ww) e12 (by unfold fR;rw[if_pos (by omega),if_pos (by omega)];simp) (λH13 E13 e13=>?_);refine⟨_,_,rfl,E10.trans (S12.exc.trans E13),e13,?_⟩;have K13:=E13.keep e12;rw[kS hi,hww,zpT,hqs];refine nU (by rw[VB,VB];exact hvl) (λj v hj=>?_);rw[qx]at hj
         by_cases hjw:ww=j
         . subst hjw
           rw[if_pos rfl,if_pos (by omega)]at hj;cases hj;rw[N_ (by omega)];exact i12.ji K13
         . rw[if_neg hjw]at hj
           rw[OS hjw];obtain⟨_,ij⟩:=kA t10 hj;exact(ij.by S12).ji K13
       . rintro σ'' H10 ⟨o,pv',rfl,E10,e10,t10⟩
         rw[fu,Wt]at t10;have K10:aO H9 H10:=E10.keep ep9;have hps:=G.len
         have cm10:Cm (m+2+21*(xs.length-left'.length)) (cT (ra^(az ps left).length) (bO ra rb (az ps left).length) ps left'):=by
           have c0:Cm (m+2+21*(xs.length-left.length)) (0::ps):=G.cm.kn λy hy=>by rcases wE.mp hy with rfl | hy;(exact .inr rfl);exact .inl hy
           exact((c0.wave ba bb (az ps left).length ndl (λw hw'=>by rw[hps];exact ltl w hw')).kn λy hy=>.inl (wI _ hy)).mono (by omega)
         have hpl:=ja (ra^(az ps left).length) (bO ra rb (az ps left).length) left' ps;have w1:=G.w1;have w2:=G.w2;have hfl:=G.fl;obtain⟨f',rfl⟩:∃f',f=f'+1:=⟨f-1,by omega⟩;rw[jC he,hL]at w1 w2;generalize hqs:cT (ra^(az ps left).length) (bO ra rb (az ps left).length) ps left'=qs at *;k_few;have e10':=E10 _ _ nD1 e9;refine Kh e10' (lG e10 t10) (λw hw'=>by rw[hpl,hps];exact ltl w hw') (by omega) (λi=>(cm10.get i).mono (by omega)) (λvwave2 H11 S11 i11=>?_);k_few;have KA:=T9.keep.trans K10;refine⟨left'.length,by omega,D,left',qs,done++[az ps left],f',pv',wv++[V.ref aw],vwave2,_,_,rfl,rfl,?_⟩;exact⟨((S7.trans T9).grow G.hp E10).trans S11,G.hp,G.hv,(iw7.ji KA).by S11,G.mF,nD1,nD2,S11 _ _ e10,ag.same S11 _ _ t10,S11 _ _ e10',S11 _ _ (E10 _ _ G.mF.symm ev9),ag.same S11 _ _ (ag.keep KA _ _ (mQ _) tv7),i11,ndl,ltl,by rw[hpl];exact hps,by omega,by rw[wS];simp;omega,cm10,by rw[Vo];exact w1,w2⟩
def Lw(K:wb):Sp:=λvs H Q _=>∃x0 x1,vs=[x0,x1] /\ ∃(a b:Rat)(xs:List Rat)(m:Nat)(n:Int),x1=.int n/\Is K H x0 (dO a b xs)/\ai 10 a/\ai 10 b/\1<=xs.length/\xs.length<=8/\0<=n/\n<=40/\Cm m xs/\m+(2+21*xs.length)*n.toNat<=2900 /\ ∀l H',H l=none->af H H'->Is K H' (.ref l) (.list (c_ a b xs n.toNat))->Q (.ref l) H'
theorem Nr{K:wb}{H:Hp}{Q:VK}{E:XK}{a b:Rat}{xs:List Rat}{m:Nat}{n:Int}{v:V}(h:Is K H v (dO a b xs))(ba:ai 10 a)(bb:ai 10 b)(h1:1<=xs.length)(h8:xs.length<=8)(n0:0<=n)(n1:n<=40)(c:Cm m xs)(hm:m+(2+21*xs.length)*n.toNat<=2900)(q:∀l H',H l=none->af H H'->Is K H' (.ref l) (.list (c_ a b xs n.toNat))->Q (.ref l) H'):Lw K [v,.int n] H Q E:=⟨_,_,rfl,a,b,xs,m,n,rfl,h,ba,bb,h1,h8,n0,n1,c,hm,q⟩
theorem Ou(T:Txt K mg a):aM P w K mg base aR 5 a.Ia a.GX rT (Lw K):=by
 refine T.AX.F.ok ke ?_ ?_;wtm_at "b2"
 refine⟨_,(ah (aD 2 ke.nd (cS ae))
     (ah (aD 3 ke.nd (fk (v:=.ref a.jN) rfl T.lJ rfl))
     (ah (aD 4 ke.nd (pv 0))
     (ah (dG vE rfl (fb rfl T.z_range (aa (pv 1) ae)) (aN (i:=5) ke.nd rfl (Or.inl rfl)) (ah (aD 6 ke.nd (ak (zy0 T) hr T.Ik (aa (pv 4) ae)))
     (ah (aD 3 ke.nd (ak (nj T) hr T.ko (aa (pv 3) (aa (aA (pv 6)) ae))))
     (ah (aD 4 ke.nd (aA (pv 6)))
     (aq (h_ (fS vI Wd We hV (pv 2) (aa (b9 (aa (pv 3) (aa (aA (pv 6)) (aa (aA (pv 4)) ae)))) ae))))))))
     (aq (aH (pv 2))))))),?_⟩
 wtm_at "cl";rw[show start Kq [x0,x1]=[some x0,some x1,none,none,none,none,none]from rfl];obtain⟨ra,rb,xs,m,n,rfl,hw,ba,bb,h1,h8,n0,n1,cm,hm,q⟩:=h;o_head iG (by simp) (λlr H1 nr S1 e1=>?_);o_head ki (n:=n) (by omega) (by omega) (λi σ H'=>∃vh vs o5 o6 us,σ = [some x0,some (.int n),some (.ref lr),some vh,some vs,o5,o6]/\af H H'/\H' lr=some (.lst us)/\ag K H' us (c_ ra rb xs i)/\Is K H' vh (N (dr ra rb xs i))/\Is K H' vs (dO ra rb (bC ra rb xs i))) ⟨_,_,_,_,[],rfl,S1,e1,.nil,pF 0 (T.p3 _) rfl rfl,hw.by S1⟩ ?_ ?_
 . rintro i σ H2 hi ⟨vh,vs,o5,o6,us,rfl,S2,e2,t2,ih,iw⟩
   have hc:=cm.A6 ba bb h1 i;have hpl:=ky ra rb xs i;have hmi:(2+21*xs.length)*(i+1)<=(2+21*xs.length)*n.toNat:=Nat.mul_le_mul_left _ (by omega);rw[qS]at hmi;have bh:ai 2900 (dr ra rb xs i):=(hc.jb (wN ..)).mono (by omega);have hc':Cm (m+(2+21*xs.length)*i) (bC ra rb xs i):=hc.kn λy hy=>.inl (wI _ hy)
   have bw:ai 2902 (1-bE (bC ra rb xs i)):=(ai.one.sub ((hc'.jb (gJ (by omega))).mono (n:=2900) (by omega))).mono (by decide);o_head zyB iw ba bb (by omega) (by omega) hc' (by rw[hpl];omega) (λv3 H3 S3 i3=>?_);o_head bo (j:=0) i3 rfl (λv4 i4=>?_);have ih3:=ih.by S3;k_few;rename_i v5 H5 S5 i5;refine bo (j:=2) (i3.by S5) rfl (λv6 i6=>?_);have T5:=S3.trans S5;o_head fK (aG.of (T5 _ _ e2)) ?_;o_head bo (j:=1) (i3.by S5) rfl (λv7 i7=>?_);o_head bo (j:=1) i6 rfl (λv8 i8=>?_);o_head cC (ds:=[N (dr ra rb xs (i+1)),cR (cD ra rb (bC ra rb xs i)),TN (bC ra rb xs (i+1))]) (by simp) (.cons i5 (.cons i7 (.cons i8 .nil))) (λv9 H9 S9 i9=>?_);k_few;have T9:=T5.trans S9;have e9:=T9 _ _ e2;have hul:=t2.length;rw[ztX]at hul;refine jv e9 (by omega) (λH10 E10 e10=>?_);have K10:=E10.keep e9;have i10:=i9.eX K10 (Ml _ _ _)
   have t10:ag K H10 (us++[v9]) (c_ ra rb xs (i+1)):=by
     rw[zrI];exact(ag.keep K10 _ _ (JX ..) (ag.same T9 _ _ t2)).snoc i10
   exact⟨_,_,_,_,_,rfl,(S2.trans T9).grow nr E10,e10,t10,(i5.by S9).ji K10,(i6.by S9).eX K10 (C0 _ _ _)⟩
 . rintro σ H2 ⟨vh,vs,o5,o6,us,rfl,S2,e2,t2,ih,iw⟩
   k_few;exact q lr H2 nr S2 (aW.mpr ⟨lr,us,rfl,.of e2,t2⟩)
def IW(K:wb):Sp:=λvs H Q _=>∃x0 x1 x2 x3,vs=[x0,x1,x2,x3] /\ ∃(u:List Int)(p m:Int),x0=.int (u.length:Int)/\Is K H x1 (TZ u)/\x2=.int p/\x3=.int m/\0<=p/\0<=m/\m<=1000/\(∀x∈u,0<=x/\x<=60)/\Q (.int (cu (u.length:Int) u m.toNat p)) H
theorem OZ{K:wb}{H:Hp}{Q:VK}{E:XK}{v:V}{u:List Int}{c p m:Int}(hc:c=(u.length:Int))(h:Is K H v (TZ u))(hp:0<=p)(h0:0<=m)(h1:m<=1000)(hu:∀x∈u,0<=x/\x<=60)(q:Q (.int (cu c u m.toNat p)) H):IW K [.int c,v,.int p,.int m] H Q E:=by
 subst hc;exact⟨_,_,_,_,rfl,u,p,m,rfl,h,rfl,rfl,hp,h0,h1,hu,q⟩
theorem ME(T:Txt K mg a):aM P w K mg base aR 1 a.Hx a.Gz yp (IW K):=by
 refine T.AV.F.ok Bm ?_ ?_;wtm_at "b4"
 refine⟨_,(ah (dG vE rfl (fb rfl T.z_range (aa (pv 3) ae)) (aN (i:=4) Bm.nd rfl (Or.inl rfl)) (ah (bZ (cb rB (pv 2) (pv 0) (bD _)) (aq (aH (pv 2))) b7)
     (aq (zAy (i:=2) Bm.nd rfl (Or.inl rfl) (cG bM (pv 1) (pv 2) (λ_ _=>rfl)) ZC))))
     (aq (aH (pv 2)))),?_⟩
 wtm_at "cl";rw[show start Lq [x0,x1,x2,x3]=[some x0,some x1,some x2,some x3,none]from rfl];obtain⟨u,p,m,rfl,hu',rfl,rfl,hp,h0,h1,hu,q⟩:=h;o_head ki (n:=m) (by omega) (by omega) (λi σ H'=>∃o4,σ = [some (.int (u.length:Int)),some x1,some (.int (cu (u.length:Int) u i p)),some (.int m),o4]/\H'=H) ⟨_,rfl,rfl⟩ ?_ ?_
 . rintro i σ H1 hi ⟨o4,rfl,rfl⟩
   have lo:=(Bg (c:=(u.length:Int)) hu i p).1;k_few
   . rename_i z
     have e:cu (u.length:Int) u m.toNat p=cu (u.length:Int) u i p:=by
       rw[show m.toNat=i+(m.toNat-i) by omega,<- AE,MS (by omega)]
     rw[e]at q;exact q
   . rename_i z
     refine zzc rfl ?_;o_head fW hu' (by omega) (by omega) ?_;refine Ym ?_;exact⟨some (.int (i:Int)),by rw[zuw,if_neg (by omega)],rfl⟩
 . rintro σ H1 ⟨o4,rfl,rfl⟩
   k_few;exact q
def Mt(K:wb):Sp:=λvs H Q _=>∃x0 x1 x2,vs=[x0,x1,x2] /\ ∃(rs ps:List Int)(us ts:List (List Int))(lw lp:wf)(l:List Nat),Is K H x0 (bI rs us ts)/\x1=.ref lw/\x2=.ref lp/\H lw=some (.lst (vz l))/\H lp=some (.lst (ps.map V.int))/\ps.length=rs.length/\(∀w∈l,w<rs.length)/\l.length<=8 /\ ∀v H',af H H'->Is K H' v (TW (l.filter λw=>decide (rs.getD w 0<=ps.getD w 0)))->Q v H'
theorem KL{K:wb}{H:Hp}{Q:VK}{E:XK}{v:V}{rs ps:List Int}{us ts:List (List Int)}{lw lp:wf}{l:List Nat}(h:Is K H v (bI rs us ts))(h1:H lw=some (.lst (vz l)))(h2:H lp=some (.lst (ps.map V.int)))(h3:ps.length=rs.length)(h4:∀w∈l,w<rs.length)(h5:l.length<=8)(q:∀v H',af H H'->Is K H' v (TW (l.filter λw=>decide (rs.getD w 0<=ps.getD w 0)))->Q v H'):Mt K [v,.ref lw,.ref lp] H Q E:=⟨_,_,_,rfl,rs,ps,us,ts,lw,lp,l,h,rfl,rfl,h1,h2,h3,h4,h5,q⟩
theorem yj{p:Nat->Bool}{l:List Nat}{i:Nat}(h:i<l.length):(l.take (i+1)).filter p=(l.take i).filter p++if p l[i]then [l[i]]else []:=by
 rw[kS h,WU];cases e:p l[i]<;>simp[e]
theorem EE(a b:List Nat):vz (a++b)=vz a++vz b:=wL ..
theorem B6{K:wb}{H:Hp}{Q:VK}{p:wf}{ns:List Int}{m:Int}(h:aG K H p (ns.map V.int))(h0:0<=m)(h1:m<ns.length)(q:Q (.int (ns.getD m.toNat 0)) H):bL K (.ref p) (.int m) H Q:=by
 obtain⟨n,rfl⟩:∃n:Nat,m=(n:Int):=⟨m.toNat,by omega⟩;refine iR h (jZ (j:=n) (v:=.int (ns.getD n 0)) ?_) q;rw[wz,wa,wc (by omega)]
 rfl
theorem MQ(T:Txt K mg a):aM P w K mg base aR 1 a.ended a.Hr sN (Mt K):=by
 refine T.A3.F.ok zxq ?_ ?_;wtm_at "b3";refine⟨_,(aq (aH (b_ (show ay _ (.type "tuple") (bQ K)from cA) rfl T.z_tuple cf (aa (cn rfl (bc.by (N':=["worm","phases","web"]) (src:=[none,some 2,some 0]) rfl (show bG _ (au sF).names yS ["worm","phases","web"] [none,some 2,some 0]=true from by decide +kernel)) (e_ (pv 1)) (λ_ _ _ _ _=>(aN (i:=0) (show(["worm","phases","web"]:List Str).Nodup from by decide) rfl (Or.inl rfl))) (λ_ _ _ _ _=>(gM (cb rB (cG (show dP _ (bL K)from bM) (pv 1) (pv 0) (λ_ _=>rfl)) (cG (show dP _ (bL K)from bM) (fT (K:=K) bM (pv 2)) (pv 0) (λ_ _=>rfl)) (bD _)))) (λ_ _ _ _ _=>(pv 0))) ae)))),?_⟩;wtm_at "cl";rw[show start yS [x0,x1,x2]=[some x0,some x1,some x2]from rfl];obtain⟨rs,ps,us,ts,lw,lp,l,hw,rfl,rfl,ew,ep,hpl,hlt,h8,q⟩:=h;o_head iF (.of ew) (λD i ys σ' H'=>(∃o,σ'=[o,some (.ref lp),some x0])/\H D=none/\af H H'/\H' D=some (.lst ys)/\ys=vz ((l.take i).filter λw=>decide (rs.getD w 0<=ps.getD w 0))) (λD H' n s e=>⟨⟨_,rfl⟩,n,s,e,by simp[vz]⟩) (λD i ys σ' H' h'=>.of (h'.2.2.1 _ _ ew)) ?_ ?_
 ·rintro D i x ys σ' H1 hx ⟨⟨o,rfl⟩,nD,S1,eD,rfl⟩
  obtain⟨hi,rfl⟩:=kT hx;have hwl:=hlt _ (vc hi)
  have hz:(vz ((l.take i).filter λw=>decide (rs.getD w 0<=ps.getD w 0))).length<=1000:=by
   have:=Wq (λw=>decide (rs.getD w 0<=ps.getD w 0)) (l.take i);rw[vP]at this;rw[fu];omega
  o_head B6 (.of (S1 _ _ ep)) (by omega) (by omega) ?_;o_head iP (hw.by S1) (λx2 i2=>?_);o_head fW i2 (by omega) (by omega) ?_;rw[wH];k_few
  ·rename_i z
   refine dC eD hz (λH6 E6 e6=>⟨⟨_,rfl⟩,nD,S1.grow nD E6,e6,?_⟩);rw[yj hi,decide_eq_true (show rs.getD l[i] 0<=ps.getD l[i] 0 by omega),EE];rfl
  ·rename_i z
   refine⟨_,⟨_,rfl⟩,nD,S1,eD,?_⟩;rw[yj hi,decide_eq_false (show ¬ rs.getD l[i] 0<=ps.getD l[i] 0 by omega)];simp
 ·rintro D ys σ' H1 ⟨_,nD,S1,eD,rfl⟩
  rw[fu,Wt]at eD;o_head gm (.of eD) (λl2 H2 n2 S2 e2=>?_);exact q _ H2 (S1.trans S2) (AB.mpr ⟨l2,rfl,.of e2⟩)
def gp(ts:List (List Int))(g:List Nat):List (List Int):=ts.filter λt=>decide ((t.getD 0 0).toNat∈g)
theorem EJ{p:List Int->Bool}{l:List (List Int)}{i:Nat}(h:i<l.length):(l.take (i+1)).filter p=(l.take i).filter p++if p l[i]then [l[i]]else []:=by
 rw[xC,wc h,WU];cases e:p l[i]<;>simp[e]
def Lk(K:wb):Sp:=λvs H Q _=>∃x0 x1,vs=[x0,x1] /\ ∃(rs:List Int)(us ts:List (List Int))(lw:wf)(g:List Nat),Is K H x0 (bI rs us ts)/\x1=.ref lw/\(aG K H lw (vz g)\/aF K H lw (vz g))/\bF rs us ts /\ ∀l ks H',H l=none->af H H'->H' l=some (.lst ks)->ag K H' ks ((gp ts g).map TZ)->Q (.ref l) H'
theorem Pq{K:wb}{H:Hp}{Q:VK}{E:XK}{v:V}{rs:List Int}{us ts:List (List Int)}{lw:wf}{g:List Nat}(h:Is K H v (bI rs us ts))(h1:aG K H lw (vz g)\/aF K H lw (vz g))(ok:bF rs us ts)(q:∀l ks H',H l=none->af H H'->H' l=some (.lst ks)->ag K H' ks ((gp ts g).map TZ)->Q (.ref l) H'):Lk K [v,.ref lw] H Q E:=⟨_,_,rfl,rs,us,ts,lw,g,h,rfl,h1,ok,q⟩
theorem ON{K:wb}{H:Hp}{Q:VK}{p:wf}{l:List Nat}{w:Nat}(h:aG K H p (vz l)\/aF K H p (vz l))(q:Q (.bl (decide (w∈l))) H):eL K false (.int (w:Int)) (.ref p) H Q:=by
 rcases h with h | h
 ·exact Ob h q
 ·exact zy5 h q
theorem zup{K:wb}{H:Hp}{Q:VK}{p:wf}{l:List Nat}{w:Nat}(h:aG K H p (vz l)\/aF K H p (vz l))(q:Q (.bl (!decide (w∈l))) H):eL K true (.int (w:Int)) (.ref p) H Q:=by
 rcases h with h | h
 ·exact zrV h q
 ·exact Rl h q
theorem PH{K:wb}{H H':Hp}{p:wf}{l:List Nat}(h:aG K H p (vz l)\/aF K H p (vz l))(s:af H H'):aG K H' p (vz l)\/aF K H' p (vz l):=h.imp (λz=>s.seq z) (λz=>s.d9 z)
theorem M4{K:wb}{H:Hp}{xs:List V}{ts:List (List Int)}{n i:Nat}{x:V}(t:ag K H xs (ts.map TZ))(ok:∀t∈ts,dN n t)(h:xs[i]? = some x):∃(hi:i<ts.length)(a b d:Nat),ts[i]=[(a:Int),(b:Int),(d:Int)]/\a<n/\b<n/\a≠b/\d<=4/\Is K H x (TZ [(a:Int),(b:Int),(d:Int)]):=by
 obtain⟨hi,ix⟩:=cQ t h;rw[wd]at hi;obtain⟨a,b,d,e,h1,h2,h3,h4⟩:=ok _ (vc hi);refine⟨hi,a,b,d,e,h1,h2,h3,h4,?_⟩;rw[wa,wz,wc hi,e]at ix;exact ix
theorem Oo(T:Txt K mg a):aM P w K mg base aR 1 a.He a.Ge yZ (Lk K):=by
 refine T.AQ.F.ok zoN ?_ ?_;wtm_at "b2";refine⟨_,(aq (aH (cn rfl (bc.by (N':=["tie","worms"]) (src:=[none,some 1]) rfl (show bG _ (au Al).names ze ["tie","worms"] [none,some 1]=true from by decide +kernel)) (gQ (aA (pv 0))) (λ_ _ _ _ _=>(aN (i:=0) (show(["tie","worms"]:List Str).Nodup from by decide) rfl (Or.inl rfl))) (λ_ _ _ _ _=>(gM (cb (show aJ _ (wW .In) (eL K false)from Br) (fT (K:=K) bM (pv 0)) (pv 1) (by with_unfolding_all rfl)))) (λ_ _ _ _ _=>(pv 0))))),?_⟩;wtm_at "cl";rw[show start ze [x0,x1]=[some x0,some x1]from rfl];obtain⟨rs,us,ts,lw,g,hw,rfl,hg,ok,q⟩:=h;have tl:=ok.tl;o_head Jt hw (λx2 i2=>?_);obtain⟨at2,xs,rfl,hs2,t2⟩:=bz.mp i2;have hxl:=t2.length;rw[wd]at hxl;refine CW hs2 (λD i ys σ' H'=>(∃o,σ'=[o,some (.ref lw)])/\H D=none/\af H H'/\H' D=some (.lst ys)/\ag K H' ys (((ts.take i).filter λt=>decide ((t.getD 0 0).toNat∈g)).map TZ)) (λD H' n s e=>⟨⟨_,rfl⟩,n,s,e,.nil⟩) (λD i ys σ' H' h'=>h'.2.2.1.d9 hs2) ?_ ?_
 ·rintro D i x ys σ' H1 hx ⟨⟨o,rfl⟩,nD,S1,eD,t1⟩
  obtain⟨hi,ta,tb,td,et,h1,h2,h3,h4,ix⟩:=M4 t2 ok.t hx
  have hz:ys.length<=1000:=by
   have:=Wq (λt:List Int=>decide ((t.getD 0 0).toNat∈g)) (ts.take i);rw[vP]at this;rw[t1.length,wd];omega
  have e0:(([(ta:Int),(tb:Int),(td:Int)]:List Int).getD 0 0).toNat=ta:=by simp
  o_head fW (ix.by S1) (by decide) (by simp) ?_;rw[show([(ta:Int),(tb:Int),(td:Int)]:List Int).getD (UG 0) 0=(ta:Int)from rfl];o_head ON (PH hg S1) ?_;k_few
  ·rename_i z
   refine dC eD hz (λH6 E6 e6=>⟨⟨_,rfl⟩,nD,S1.grow nD E6,e6,?_⟩);have k6:=E6.keep eD;rw[EJ hi,et,e0,decide_eq_true z,if_pos rfl,wL];exact(ag.keep k6 _ _ (eM _) t1).append (.cons ((ix.by S1).fU k6) .nil)
  ·rename_i z
   refine⟨_,⟨_,rfl⟩,nD,S1,eD,?_⟩;rw[EJ hi,et,e0,decide_eq_false z,if_neg (by decide),vT];exact t1
 ·rintro D ys σ' H1 ⟨_,nD,S1,eD,t1⟩
  rw[hxl,Wt]at t1;k_few;exact q D ys H1 nD S1 eD t1
def R3(K:wb):Sp:=λvs H Q _=>∃x0 x1 x2,vs=[x0,x1,x2] /\ ∃(lt:wf)(us:List V)(ts:List (List Int))(g:List Nat)(n w d:Nat),x0=.ref lt/\x1=.int (w:Int)/\x2=.int (d:Int)/\H lt=some (.lst us)/\ag K H us ((gp ts g).map TZ)/\(∀t∈ts,dN n t)/\ts.length<=60 /\ ∀H',af H H'->Q (.int (cj ts g w d:Int)) H'
theorem Ph{K:wb}{H:Hp}{Q:VK}{E:XK}{lt:wf}{us:List V}{ts:List (List Int)}{g:List Nat}{n w d:Nat}(e:H lt=some (.lst us))(t:ag K H us ((gp ts g).map TZ))(ok:∀t∈ts,dN n t)(hl:ts.length<=60)(q:∀H',af H H'->Q (.int (cj ts g w d:Int)) H'):R3 K [.ref lt,.int (w:Int),.int (d:Int)] H Q E:=⟨_,_,_,rfl,lt,us,ts,g,n,w,d,rfl,rfl,rfl,e,t,ok,hl,q⟩
theorem zAp(ts:List (List Int))(g:List Nat)(w d:Nat):((gp ts g).filter λt=>decide (t.getD 1 0=(w:Int))&&decide (t.getD 2 0=(d:Int))).length=cj ts g w d:=by
 unfold gp cj;rw[WT]
 congr 1
 refine Wo λt _=>?_
 unfold eU;rw[US]
theorem Ry(T:Txt K mg a):aM P w K mg base aR 1 a.HA a.GC zu (R3 K):=by
 refine T.AU.F.ok zp5 ?_ ?_;wtm_at "b3";refine⟨_,(aq (aH (aU (show ay _ (.builtin "len") (bB K)from bX) rfl T.z_len bR (aa (cn rfl (bc.by (N':=["tie","worm","delay"]) (src:=[none,some 1,some 2]) rfl (show bG _ (au tW).names yI ["tie","worm","delay"] [none,some 1,some 2]=true from by decide +kernel)) (e_ (pv 0)) (λ_ _ _ _ _=>(aN (i:=0) (show(["tie","worm","delay"]:List Str).Nodup from by decide) rfl (Or.inl rfl))) (λ_ _ _ _ _=>(gM (PW.pt (Mg (cb (show aJ _ (wW .Eq) (dW K)from fN hu) (fT (K:=K) bM (pv 0)) (pv 1) (bD _)) (M6 (cb (show aJ _ (wW .Eq) (dW K)from fN hu) (fT (K:=K) bM (pv 0)) (pv 2) (bD _))))))) (λ_ _ _ _ _=>(pv 0))) ae)))),?_⟩;wtm_at "cl";rw[show start yI [x0,x1,x2]=[some x0,some x1,some x2]from rfl];obtain⟨lt,us,ts,g,n,w,d,rfl,rfl,rfl,e0,t0,ok,hl,q⟩:=h;have ok':∀t∈gp ts g,dN n t:=λt ht=>ok t (vG.mp ht).1
 have hl':(gp ts g).length<=60:=Wi (Wq ..) hl;have hul:us.length=(gp ts g).length:=by rw[t0.length,wd]
 have hc:=zAp ts g w d;generalize gp ts g=ks at *;o_head iF (.of e0) (λD i ys σ' H'=>(∃o,σ'=[o,some (.int (w:Int)),some (.int (d:Int))])/\H D=none/\af H H'/\H' D=some (.lst ys)/\ys.length=((ks.take i).filter λt=>decide (t.getD 1 0=(w:Int))&&decide (t.getD 2 0=(d:Int))).length) (λD H' n s e=>⟨⟨_,rfl⟩,n,s,e,rfl⟩) (λD i ys σ' H' h'=>.of (h'.2.2.1 _ _ e0)) ?_ ?_
 ·rintro D i x ys σ' H1 hx ⟨⟨o,rfl⟩,nD,S1,eD,t1⟩
  obtain⟨hi,ta,tb,td,et,h1,h2,h3,h4,ix⟩:=M4 t0 ok' hx
  have hz:ys.length<=1000:=by
   have:=Wq (λt:List Int=>decide (t.getD 1 0=(w:Int))&&decide (t.getD 2 0=(d:Int))) (ks.take i);rw[vP]at this;omega
  have go:∀b:Bool,(decide ((tb:Int)=(w:Int))&&decide ((td:Int)=(d:Int)))=b->((ks.take (i+1)).filter λt=>decide (t.getD 1 0=(w:Int))&&decide (t.getD 2 0=(d:Int))).length=((ks.take i).filter λt=>decide (t.getD 1 0=(w:Int))&&decide (t.getD 2 0=(d:Int))).length+if b then 1 else 0:=λb hb=>by
   rw[EJ hi,wS,et]
   show _+uM (if(decide ((tb:Int)=(w:Int))&&decide ((td:Int)=(d:Int)))=true then [_]else [])=_
   rw[hb];cases b<;>rfl
  o_head fW (ix.by S1) (by decide) (by simp) ?_;rw[show([(ta:Int),(tb:Int),(td:Int)]:List Int).getD (UG 1) 0=(tb:Int)from rfl];k_few
  ·rename_i z
   refine fW (ix.by S1) (by decide) (by simp) ?_;rw[show([(ta:Int),(tb:Int),(td:Int)]:List Int).getD (UG 2) 0=(td:Int)from rfl];k_few
   ·rename_i z2
    refine dC eD hz (λH6 E6 e6=>⟨⟨_,rfl⟩,nD,S1.grow nD E6,e6,?_⟩);rw[go true (by rw[decide_eq_true z,decide_eq_true z2];rfl),wS,t1];rfl
   ·rename_i z2
    refine⟨_,⟨_,rfl⟩,nD,S1,eD,?_⟩;rw[go false (by rw[decide_eq_false z2,VT]),t1];rfl
  ·rename_i z
   refine⟨_,⟨_,rfl⟩,nD,S1,eD,?_⟩;rw[go false (by rw[decide_eq_false z,WI]),t1];rfl
 ·rintro D ys σ' H1 ⟨_,nD,S1,eD,t1⟩
  rw[hul,Wt,hc]at t1;o_head dU (.of eD) ?_;rw[t1];exact q H1 S1
def Rv(K:wb):Sp:=λvs H Q _=>∃x0 x1 x2,vs=[x0,x1,x2] /\ ∃(rs:List Int)(us ts cm:List (List Int))(lg:wf)(g:List Nat),Is K H x0 (bI rs us ts)/\bF rs us ts/\Is K H x1 (cv cm)/\cm.length=4/\(∀d,d<4->(cm.getD d []).length=rs.length)/\x2=.ref lg/\(aG K H lg (vz g)\/aF K H lg (vz g)) /\ ∀v H',af H H'->Is K H' v (cv (hZ ts cm g rs.length))->Q v H'
theorem zjS{K:wb}{H:Hp}{Q:VK}{E:XK}{v w:V}{rs:List Int}{us ts cm:List (List Int)}{lg:wf}{g:List Nat}(h:Is K H v (bI rs us ts))(ok:bF rs us ts)(h2:Is K H w (cv cm))(h3:cm.length=4)(h4:∀d,d<4->(cm.getD d []).length=rs.length)(h5:aG K H lg (vz g)\/aF K H lg (vz g))(q:∀v H',af H H'->Is K H' v (cv (hZ ts cm g rs.length))->Q v H'):Rv K [v,w,.ref lg] H Q E:=⟨_,_,_,rfl,rs,us,ts,cm,lg,g,h,ok,h2,h3,h4,rfl,h5,q⟩
def oW(ts:List (List Int))(g:List Nat)(row:List Int)(d n:Nat):List Int:=(wo n).map λw=>row.getD w 0+(cj ts g w d:Int)
theorem zy1{ts cm:List (List Int)}{g:List Nat}{n:Nat}(h4:cm.length=4):hZ ts cm g n=(wo 4).map λd=>oW ts g ((cm.tail++[wm n 0]).getD d []) (d+1) n:=by
 unfold hZ oW;refine vU λd hd=>vU λw hw=>?_
 have hd:=wB.mp hd;have hw:=wB.mp hw
 congr 1
 obtain⟨c0,cm,rfl⟩:∃c0 r,cm=c0::r:=by
  cases cm with
  | nil=>cases h4
  | cons a b=>exact⟨a,b,rfl⟩
 have h3:cm.length=3:=by simpa using h4
 rw[Uy,List.getD_cons_succ];rcases wT d 3 with z | z
 ·have e1:(cm++[wm n (0:Int)]).getD d []=cm.getD d []:=by rw[wa,Wu (by omega),wa]
  rw[e1]
 ·have e:d=3:=by omega
  subst e;have e1:(cm++[wm n (0:Int)]).getD 3 []=wm n 0:=by rw[wa,Wr (by omega),h3];rfl
  have e2:cm.getD 3 []=[]:=by rw[wa,wX (by omega)];rfl
  rw[e1,e2,wa,wa,vO,if_pos hw];rfl
theorem zjX(T:Txt K mg a):aM P w K mg base aR 2 a.FY a.FD Ab (Rv K):=by
 refine T.FH.F.ok nT ?_ ?_;wtm_at "b3"
 refine⟨_,(ah (aD 3 nT.nd (ak (Oo T) hr T.AQ (aa (pv 0) (aa (pv 2) ae))))
     (ah (aD 4 nT.nd (cS ae))
     (ah (dG vE rfl (zvy rfl T.z_enumerate (aa (aK (show aJ _ (WH .Add) (y9 K)from MN) (rV zZ (pv 1) (rN aC) Ay) (b9 (aa (ak (JM T) hr T.AN (aa (pv 0) ae)) ae))) ae)) (gz (n:=2) rfl (cV (aN (i:=5) nT.nd rfl (Or.inr rfl)) (cV (aN (i:=6) nT.nd rfl (Or.inl rfl)) gB))) (aq (h_ (fS vI Wd We hV (pv 4) (aa (b_ (show ay _ (.type "tuple") (bQ K)from cA) rfl T.z_tuple cf (aa (cn rfl (bc.by (N':=["worm","many","ties","delay"]) (src:=[none,none,some 3,some 5]) rfl (show bG _ (au zT).names Cv ["worm","many","ties","delay"] [none,none,some 3,some 5]=true from by decide +kernel)) (KC rfl T.z_enumerate (aa (pv 6) ae)) (λ_ _ _ _ _=>by exact(show PG _ _ (je K 2 _)from gz (n:=2) rfl (cV (aN (i:=0) (show(["worm","many","ties","delay"]:List Str).Nodup from by decide) rfl (Or.inl rfl)) (cV (aN (i:=1) (show(["worm","many","ties","delay"]:List Str).Nodup from by decide) rfl (Or.inl rfl)) gB)))) (λ_ _ _ _ _=>cy) (λ_ _ _ _ _=>(aK dD (pv 1) (ak (Ry (K:=K) (mg:=mg) (a:=a) T) hr T.AU (aa (pv 2) (aa (pv 0) (aa (pv 3) ae))))))) ae)) ae)))))
     (aq (aH (b_ (show ay _ (.type "tuple") (bQ K)from cA) rfl T.z_tuple cf (aa (pv 4) ae))))))),?_⟩
 wtm_at "cl";rw[show start Cv [x0,x1,x2]=[some x0,some x1,some x2,none,none,none,none]from rfl];obtain⟨rs,us,ts,cm,lg,g,hw,ok,hc,h4,hrow,rfl,hg,q⟩:=h;have n8:=ok.n8;o_head Pq hw hg ok (λlt ks H1 n1 S1 e1 t1=>?_);wtm_at "ga";rename_i lo H2 n2 S2 e2;have nlt:lt≠lo:=λz=>by subst z;rw[e1]at n2;cases n2
 have nlo0:H lo=none:=oB S1 n2;have T2:=S1.trans S2;refine Ki (hc.by T2) (by rw[wd,h4];decide) (λw3 H3 S3 i3=>?_);rw[Tt,<- List.map_tail]at i3;have T3:=T2.trans S3;o_head MG (hw.by T3) n8 (λw4 H4 S4 i4=>?_);have T4:=T3.trans S4;o_head cC (ds:=[TZ (wm rs.length 0)]) (by simp) (.cons i4 .nil) (λw5 H5 S5 i5=>?_);refine Ro ((i3.by S4).by S5) i5 (by simp;omega) (λw6 H6 S6 i6=>?_);have T6:=T4.trans (S5.trans S6)
 have i6:Is K H6 w6 (cv (cm.tail++[wm rs.length 0])):=by
   unfold cv;rw[wL];exact i6
 have S16:=S2.trans (S3.trans (S4.trans (S5.trans S6)));have e16:=S16 _ _ e1;have t16:ag K H6 ks ((gp ts g).map TZ):=ag.same S16 _ _ t1;have eo6:=(S3.trans (S4.trans (S5.trans S6))) _ _ e2
 have hCl:∀d,d<4->((cm.tail++[wm rs.length 0]).getD d []).length=rs.length:=λd hd=>by
   rcases wT d 3 with z | z
   . have:(cm.tail++[wm rs.length 0]).getD d []=cm.getD (d+1) []:=by
       rw[wa,Wu (by rw[QK];omega),List.getElem?_tail,wa]
     rw[this];exact hrow (d+1) (by omega)
   . have e:d=3:=by omega
     subst e;rw[wa,Wr (by rw[QK];omega),QK,h4];simp
 have hCt:(cm.tail++[wm rs.length 0]).length=4:=by rw[wS,QK,h4];rfl
 have hcg:=zy1 (ts:=ts) (g:=g) (n:=rs.length) h4;generalize cm.tail++[wm rs.length 0]=C at *;clear i3 i4 i5 S3 S4 S5 S6 T3 T4 T2 S16 S2 e1 t1 S1;obtain⟨ac,cus,rfl,hsc,tc⟩:=bz.mp i6;have hcl:=tc.length;rw[wd,hCt]at hcl;have hws:=hw.by T6;k_few
 refine zrO hsc (λi σ H'=>∃(o5 o6:Option V)(rows:List V),σ = [some x0,some x1,some (.ref lg),some (.ref lt),some (.ref lo),o5,o6]/\(∀b o,b≠lo->H6 b=some o->H' b=some o)/\aO H6 H'/\H' lo=some (.lst rows)/\ag K H' rows (((wo i).map λd=>oW ts g (C.getD d []) (d+1) rs.length).map TZ))
   ⟨_,_,[],rfl,λb o _ h=>h,aO.refl _,eo6,.nil⟩ (λi σ H' _ ⟨_,_,_,_,_,k,_⟩=>k.d9 hsc) ?_ ?_
 . rintro i x σ H7 c H8 hx ⟨o5,o6,rows,rfl,X7,K7,e7,t7⟩ hc8 S8 e8
   have hi:i<4:=by have:=gI hx;omega
   obtain⟨hi',ix⟩:=cQ tc hx;rw[wa,wz,wc (by omega)]at ix;have hrl:=hCl i hi;rw[wa,wc (by omega)]at hrl;have egd:C.getD i []=C[i]:=by rw[wa,wc (by omega)];rfl
   rw[show((i:Int)+1)=((i+1:Nat):Int)from rfl]at e8;have X8:∀b o,b≠lo->H6 b=some o->H8 b=some o:=λb o hb h=>S8 b o (X7 b o hb h)
   have K8:=K7.trans S8.keep;have elt8:=X8 _ _ nlt e16;have t8:ag K H8 ks ((gp ts g).map TZ):=ag.keep K8 _ _ (eM _) t16;have elo8:=S8 _ _ e7;have tr8:ag K H8 rows (((wo i).map λd=>oW ts g (C.getD d []) (d+1) rs.length).map TZ):=ag.same S8 _ _ t7;have hrl8:rows.length=i:=by rw[t7.length,wd,wd,vi]
   have ix8:Is K H8 x (TZ C[i]):=Is.fU ix K8;obtain⟨ar,rfl,hsr⟩:=eY.mp ix8;refine jj (.of e8) rfl ?_;o_head fK (.of elo8) ?_;k_few;have hrl:C[i].length=rs.length:=hrl;refine zqh hsr (λD j ys σ' H'=>(∃o1 o2,σ'=[o1,o2,some (.ref lt),some (.int ((i+1:Nat):Int))])/\H8 D=none/\af H8 H'/\H' D=some (.lst (((wo j).map λw=>C[i].getD w 0+(cj ts g w (i+1):Int)).map V.int))) (λD H' n s e=>⟨⟨_,_,rfl⟩,n,s,e⟩) (λD j ys σ' H' h'=>h'.2.2.1.d9 hsr) ?_ ?_
   . rintro D j y ys σ' H9 c9 H10 hy ⟨⟨o1,o2,rfl⟩,nD,S9,eD⟩ hc9 S10 e10
     obtain⟨hj,rfl⟩:=int_at hy;have T10:=S9.trans S10;refine jJ (jj (.of e10) rfl ?_);o_head Ph (T10 _ _ elt8) (ag.same T10 _ _ t8) ok.t ok.tl (λH11 S11=>?_);o_head dC (S11 _ _ (S10 _ _ eD)) (by simp;omega) (λH12 E12 e12=>⟨⟨_,_,rfl⟩,nD,(T10.trans S11).grow nD E12,?_⟩);rw[e12,Vb,wL,wL]
     rfl
   . rintro D ys σ' H9 ⟨_,nD,S9,eD⟩
     rw[wd,hrl]at eD;o_head gm (.of eD) (λl10 H10 n10 S10 e10=>?_);have elo10:=S10 _ _ (S9 _ _ elo8);o_head jv elo10 (by omega) (λH11 E11 e11=>?_);have K11:=E11.keep elo10;have K811:=S9.keep.trans (S10.keep.trans K11);o_head ⟨_,_,rows++[.ref l10],rfl,λb o hb h=>E11 b o hb (S10 b o (S9 b o (X8 b o hb h))),K8.trans K811,e11,?_⟩;rw[Vb,wL,wL];refine(ag.keep K811 _ _ (eM _) tr8).append (.cons ?_ .nil)
     show Is K H11 (.ref l10) (TZ (oW ts g (C.getD i []) (i+1) rs.length))
     rw[egd];exact Is.fU (eY.mpr ⟨l10,rfl,.of e10⟩) K11
 . rintro σ H7 ⟨o5,o6,rows,rfl,X7,K7,e7,t7⟩
   rw[hcl,<- hcg]at t7;o_head fj (aW.mpr ⟨lo,rows,rfl,.of e7,t7⟩) (λw8 H8 S8 i8=>?_);exact q w8 H8 (λb o h=>S8 b o (X7 b o (cW h nlo0) (T6 b o h))) i8
def jk(rs:List Int)(us:List (List Int))(ps cs:List Int)(n:Nat):List Int:=(wo n).map λw=>cu (rs.getD w 0) (us.getD w []) (cs.getD w 0).toNat (ps.getD w 0+1)
def J8(K:wb):Sp:=λvs H Q _=>∃x0 x1,vs=[x0,x1] /\ ∃(rs ps:List Int)(us ts cm:List (List Int)),Is K H x0 (bI rs us ts)/\bF rs us ts/\Is K H x1 (aY ps cm)/\cq rs ps cm /\ ∀l H',H l=none->af H H'->H' l=some (.lst ((jk rs us ps (cm.getD 0 []) rs.length).map V.int))->Q (.ref l) H'
theorem zil{K:wb}{H:Hp}{Q:VK}{E:XK}{v w:V}{rs ps:List Int}{us ts cm:List (List Int)}(h:Is K H v (bI rs us ts))(ok:bF rs us ts)(h2:Is K H w (aY ps cm))(so:cq rs ps cm)(q:∀l H',H l=none->af H H'->H' l=some (.lst ((jk rs us ps (cm.getD 0 []) rs.length).map V.int))->Q (.ref l) H'):J8 K [v,w] H Q E:=⟨_,_,rfl,rs,ps,us,ts,cm,h,ok,h2,so,q⟩
theorem Yc(T:Txt K mg a):aM P w K mg base aR 2 a.FF a.Fq z7 (J8 K):=by
 refine T.Ft.F.ok tN ?_ ?_;wtm_at "b2"
 refine⟨_,(ah (aD 2 tN.nd (cS ae))
     (ah (dG vE rfl (KC rfl T.z_enumerate (aa (aA (aA (pv 1))) ae)) (gz (n:=2) rfl (cV (aN (i:=3) tN.nd rfl (Or.inl rfl)) (cV (aN (i:=4) tN.nd rfl (Or.inl rfl)) gB))) (aq (h_ (fS vI Wd We hV (pv 2) (aa (ak (ME T) hr T.AV (aa (cG bM (aA (pv 0)) (pv 3) (λ_ _=>rfl)) (aa (cG bM (aA (pv 0)) (pv 3) (λ_ _=>rfl)) (aa (aK dD (cG bM (aA (pv 1)) (pv 3) (λ_ _=>rfl)) aC) (aa (pv 4) ae))))) ae)))))
     (aq (aH (pv 2))))),?_⟩
 wtm_at "cl";rw[show start O0 [x0,x1]=[some x0,some x1,none,none,none]from rfl];obtain⟨rs,ps,us,ts,cm,hw,ok,hs,so,q⟩:=h;have n8:=ok.n8;wtm_at "ga";rename_i lo H1 n1 S1 e1;refine Jn (hs.by S1) (λx2 i2=>?_);o_head DO i2 (by decide) (by rw[so.cl];decide) (λx3 i3=>?_);obtain⟨hcl,hcb⟩:=so.c 0 (by decide);have i3:Is K H1 x3 (TZ (cm.getD 0 [])):=i3;generalize cm.getD 0 []=cs at *;obtain⟨ac,rfl,hsc⟩:=eY.mp i3;have hw1:=hw.by S1;have hs1:=hs.by S1
 refine ztQ hsc (λi σ H'=>∃(o3 o4:Option V),σ = [some x0,some x1,some (.ref lo),o3,o4]/\af H H'/\H' lo=some (.lst ((jk rs us ps cs i).map V.int))/\Is K H' x0 (bI rs us ts)/\Is K H' x1 (aY ps cm)/\aF K H' ac (cs.map V.int))
   ⟨_,_,rfl,S1,e1,hw1,hs1,hsc⟩ (λi σ H' _ ⟨_,_,_,_,_,_,_,h⟩=>h) ?_ ?_
 . rintro i x σ H2 c H3 hx ⟨o3,o4,rfl,S2,e2,hw2,hs2,hsc2⟩ hc3 S3 e3
   obtain⟨hi,rfl⟩:=int_at hx;have hi':i<rs.length:=by omega
   have hcr:=hcb i hi';have hps:=so.p i hi';obtain⟨hul,hub⟩:=ok.u i hi';refine jj (.of e3) rfl ?_;o_head fK (.of (S3 _ _ e2)) ?_;o_head iP (hw2.by S3) (λx4 i4=>?_);o_head fW i4 (by omega) (by omega) ?_;rw[wH];o_head DM (hw2.by S3) (λx5 i5=>?_);o_head DO i5 (by omega) (by rw[ok.ul];omega) (λx6 i6=>?_);rw[wH]at i6;o_head zBt (hs2.by S3) (λx7 i7=>?_);o_head fW i7 (by omega) (by rw[so.pl];omega) ?_;rw[wH];o_head OZ hul.symm i6 (by omega) hcr.1 (by omega) hub ?_;k_few;have e2':=S3 _ _ e2;refine jv e2' (by simp[jk];omega) (λH4 E4 e4=>?_);have k4:=E4.keep e2';o_head ⟨_,_,rfl,λb o h=>E4 b o (cW h n1) (S3 b o (S2 b o h)),?_,(hw2.by S3).lS k4,(hs2.by S3).lQ k4,k4.d9 (S3.d9 hsc2)⟩;rw[e4];unfold jk;rw[Vb,wL,wL]
   rfl
 . rintro σ H2 ⟨o3,o4,rfl,S2,e2,hw2,hs2,hsc2⟩
   rw[wd,hcl]at e2;k_few;exact q lo H2 n1 S2 e2
def Ri(K:wb):Sp:=λvs H Q _=>∃x0 x1,vs=[x0,x1] /\ ∃(rs ps:List Int)(us ts cm:List (List Int)),Is K H x0 (bI rs us ts)/\bF rs us ts/\Is K H x1 (aY ps cm)/\cq rs ps cm /\ ∀v H',af H H'->Is K H' v (Ae (fq rs us ts ps cm) (cI rs us ts ps cm) (d7 rs us ts ps cm))->Q v H'
theorem EL{K:wb}{H:Hp}{Q:VK}{E:XK}{v w:V}{rs ps:List Int}{us ts cm:List (List Int)}(h:Is K H v (bI rs us ts))(ok:bF rs us ts)(h2:Is K H w (aY ps cm))(so:cq rs ps cm)(q:∀v H',af H H'->Is K H' v (Ae (fq rs us ts ps cm) (cI rs us ts ps cm) (d7 rs us ts ps cm))->Q v H'):Ri K [v,w] H Q E:=⟨_,_,rfl,rs,ps,us,ts,cm,h,ok,h2,so,q⟩
def dg(n:Nat)(g:List Nat):List Nat:=(wo n).filter λw=>!decide (w∈g)
theorem nh{n w:Nat}{g:List Nat} : w∈dg n g ↔ w<n/\w ∉ g:=by
 unfold dg;rw[vG,wB,W0,decide_eq_false_iff_not]
theorem O8(n:Nat)(g:List Nat):(dg n g).length<=n:=by
 have:=Wq (λw=>!decide (w∈g)) (wo n);rw[vi]at this;exact this
theorem zuF(n:Nat)(g f:List Nat):(dg n g).filter (λw=>!decide (w∈f))=dg n (g++f):=by
 unfold dg;rw[WT];refine Wo λw _=>?_
 rw[WS,vf,W0,W0,W0,decide_eq_false_iff_not,decide_eq_false_iff_not,decide_eq_false_iff_not,vR]
 constructor
 ·rintro ⟨h1,h2⟩ (z | z)
  ·exact h2 z
  ·exact h1 z
 ·intro h;exact⟨λz=>h (.inr z),λz=>h (.inl z)⟩
theorem JF{rs:List Int}{us ts:List (List Int)}{ps cs pw:List Int}{g:List Nat}(h:∀w,w<rs.length->w ∉ g->pw.getD w 0=cN rs us ts ps cs g w):(dg rs.length g).filter (λw=>decide (rs.getD w 0<=pw.getD w 0))=GM.fresh rs us ts ps cs g:=by
 unfold dg GM.fresh;rw[WT];refine Wo λw hw=>?_
 have hw:=wB.mp hw
 by_cases hg:w∈g
 ·rw[decide_eq_true hg];simp
 ·rw[h w hw hg,US]
theorem zvf(ts:List (List Int))(w d:Nat):cj ts [] w d=0:=by
 unfold cj eU;simp
theorem Rr{K:wb}{src:List (Option Nat)}{σ : L2.St}{H:Hp}{Q:VK}{la b:wf}{l m:List Nat}(hl:H la=some (.lst (vz l)))(hm:aG K H b (vz m)\/aF K H b (vz m))(hsrc:cF src σ = [none,some (.ref b)])(z:l.length<=1000)
  (q:∀D H',H D=none->af H H'->H' D=some (.lst (vz (l.filter λw=>!decide (w∈m))))->Q (.ref D) H'):lF K (iH 0) (tG (j7 (eL K true) (gY 0) (gY 1))) (gY 0) src σ (.ref la) H Q:=by
 refine iF (.of hl) (λD i ys σ' H'=>(∃o,σ'=[o,some (.ref b)])/\H D=none/\af H H'/\H' D=some (.lst ys)/\ys=vz ((l.take i).filter λw=>!decide (w∈m))) (λD H' n s e=>⟨⟨_,hsrc⟩,n,s,e,by simp[vz]⟩) (λD i ys σ' H' h'=>.of (h'.2.2.1 _ _ hl)) ?_ ?_
 ·rintro D i x ys σ' H1 hx ⟨⟨o,rfl⟩,nD,S1,eD,rfl⟩
  obtain⟨hi,rfl⟩:=kT hx
  have hz:(vz ((l.take i).filter λw=>!decide (w∈m))).length<=1000:=by
   have:=Wq (λw=>!decide (w∈m)) (l.take i);rw[vP]at this;rw[fu];omega
  refine jJ (Ee (Lh (Mo (oS rfl (oS rfl (zup (PH hm S1) (KU ?_)))))));cases e:decide (l[i]∈m)with
  | false =>
   refine j3 (oS rfl (dC eD hz (λH6 E6 e6=>⟨⟨_,rfl⟩,nD,S1.grow nD E6,e6,?_⟩)));rw[yj hi,e,EE];rfl
  | true =>
   refine mI ⟨_,⟨_,rfl⟩,nD,S1,eD,?_⟩;rw[yj hi,e];simp
 ·rintro D ys σ' H1 ⟨_,nD,S1,eD,rfl⟩
  rw[fu,Wt]at eD;exact q D H1 nD S1 eD
theorem zyq{rs:List Int}{us ts:List (List Int)}{ps cs:List Int}{g f:List Nat}(h:∀x∈f,x ∉ g)(w:Nat):cu (rs.getD w 0) (us.getD w []) (cj ts f w 0) (cN rs us ts ps cs g w)=cN rs us ts ps cs (g++f) w:=by
 unfold cN;rw[AE,La h,qQ]
theorem zxA{xs:List Int}{i j:Nat}{x:Int}(hi:i<xs.length):(xs.set i x).getD j 0=if i=j then x else xs.getD j 0:=by
 rw[wa,qx]
 split
 ·rename_i e
  subst e
  first | rfl | (rw[if_pos hi];rfl)
 ·rw[wa]
theorem map_set{xs:List Int}{i:Nat}{x:Int} : (xs.map V.int).set i (.int x)=(xs.set i x).map V.int:=by rw[U3]
theorem Bt(T:Txt K mg a):aM P w K mg base aR 3 a.tick a.HS sP (Ri K):=by
 refine T.p9.F.ok gy ?_ ?_;wtm_at "b2"
 refine⟨_,(ah (aD 2 gy.nd (ak (Yc T) hr T.Ft (aa (pv 0) (aa (pv 1) ae))))
     (ah (aD 3 gy.nd (tR rfl rfl T.z_list rfl T.z_range (aa (aU (show ay _ (.builtin "len") (bB K)from bX) rfl T.z_len bR (aa (pv 2) ae)) ae)))
     (ah (aD 4 gy.nd (pv 3))
     (ah (aD 5 gy.nd (cS ae))
     (ah (aD 6 gy.nd (ak (MQ T) hr T.A3 (aa (pv 0) (aa (pv 4) (aa (pv 2) ae)))))
     (ah (nV vE (EY (pv 6)) (ah (h_ (fS vI Wd We hV (pv 5) (aa (pv 6) ae)))
     (ah (aD 4 gy.nd (cn rfl (bc.by (N':=["worm","wave"]) (src:=[none,some 6]) rfl (show bG _ (au mK).names oq ["worm","wave"] [none,some 6]=true from by decide +kernel)) (e_ (pv 4)) (λ_ _ _ _ _=>(aN (i:=0) (show(["worm","wave"]:List Str).Nodup from by decide) rfl (Or.inl rfl))) (λ_ _ _ _ _=>(gM (cb (show aJ _ (wW .NotIn) (eL K true)from Eo) (pv 0) (pv 1) (by with_unfolding_all rfl)))) (λ_ _ _ _ _=>(pv 0))))
     (ah (aD 7 gy.nd (ak (Oo T) hr T.AQ (aa (pv 0) (aa (pv 6) ae))))
     (ah (dG vE rfl (e_ (pv 4)) (aN (i:=8) gy.nd rfl (Or.inl rfl)) (aq (ni (ak (ME T) hr T.AV (aa (cG bM (aA (pv 0)) (pv 8) (λ_ _=>rfl)) (aa (cG bM (aA (pv 0)) (pv 8) (λ_ _=>rfl)) (aa (cG bM (pv 2) (pv 8) (λ_ _=>rfl)) (aa (ak (Ry T) hr T.AU (aa (pv 7) (aa (pv 8) (aa aC ae)))) ae))))) (oC (pv 2) (pv 8) pq))))
     (aq (aD 6 gy.nd (ak (MQ T) hr T.A3 (aa (pv 0) (aa (pv 4) (aa (pv 2) ae)))))))))))
     (ah (aD 9 gy.nd (b_ (show ay _ (.type "tuple") (bQ K)from cA) rfl T.z_tuple cf (aa (cn rfl (bc.by (N':=["worm","left","phases"]) (src:=[none,some 4,some 2]) rfl (show bG _ (au mK).names oq ["worm","left","phases"] [none,some 4,some 2]=true from by decide +kernel)) (e_ (pv 3)) (λ_ _ _ _ _=>(aN (i:=0) (show(["worm","left","phases"]:List Str).Nodup from by decide) rfl (Or.inl rfl))) (λ_ _ _ _ _=>cy) (λ_ _ _ _ _=>(Lg (cb (show aJ _ (wW .In) (eL K false)from Br) (pv 0) (pv 1) (by with_unfolding_all rfl)) (cG (show dP _ (bL K)from bM) (pv 2) (pv 0) (λ_ _=>rfl)) aC))) ae)))
     (ah (lh (i:=10) gy.nd rfl (Or.inl rfl) rfl (bc.by (N':=["worm","left"]) (src:=[none,some 4]) rfl (show bG _ (au mK).names oq ["worm","left"] [none,some 4]=true from by decide +kernel)) (e_ (pv 3)) (λ_ _ _ _ _=>(aN (i:=0) (show(["worm","left"]:List Str).Nodup from by decide) rfl (Or.inl rfl))) (λ_ _ _ _ _=>(gM (cb (show aJ _ (wW .NotIn) (eL K true)from Eo) (pv 0) (pv 1) (by with_unfolding_all rfl)))) (λ_ _ _ _ _=>(pv 0)))
     (aq (aH (b9 (aa (b_ (show ay _ (.type "tuple") (bQ K)from cA) rfl T.z_tuple cf (aa (pv 5) ae)) (aa (b9 (aa (pv 9) (aa (ak (zjX T) hr T.FH (aa (pv 0) (aa (aA (pv 1)) (aa (pv 10) ae)))) ae))) ae))))))))))))),?_⟩
 wtm_at "cl";rw[show start oq [x0,x1]=[some x0,some x1,none,none,none,none,none,none,none,none,none]from rfl];obtain⟨rs,ps,us,ts,cm,hw,ok,hs,so,q⟩:=h;have n8:=ok.n8;have n1:=ok.n1;o_head zil hw ok hs so (λlp H1 np S1 ep=>?_);have hpl:(jk rs us ps (cm.getD 0 []) rs.length).length=rs.length:=by simp[jk]
 o_head dU (.of ep) ?_;rw[wd,hpl];o_head sL (by omega) (λlw H2 nw S2 ew=>?_);wtm_at "ga";rename_i la H3 na S3 ea;have T3:=S1.trans (S2.trans S3);have ep3:=S3 _ _ (S2 _ _ ep);have ew3:=S3 _ _ ew;have nlwp:lw≠lp:=λz=>by subst z;rw[ep]at nw;cases nw
 have nlap:la≠lp:=λz=>by subst z;rw[S2 _ _ ep]at na;cases na
 have nlaw:la≠lw:=λz=>by subst z;rw[ew]at na;cases na
 have np0:H lp=none:=np;have na0:H la=none:=oB (S1.trans S2) na;have w3:=hw.by T3;have s3:=hs.by T3;clear S2 S3 ew nw na
 have hf0:∀w,w<rs.length->w ∉ ([]:List Nat)->(jk rs us ps (cm.getD 0 []) rs.length).getD w 0=cN rs us ts ps (cm.getD 0 []) [] w:=λw hw _=>by
   unfold jk cN;rw[gT hw,zvf,Nat.add_zero]
 have hsl:=so.c 0 (by decide)
 have e0:dg rs.length []=wo rs.length:=by
   unfold dg;rw[qV];intro w _;rfl
 refine KL w3 ew3 ep3 hpl (λw hw=>wB.mp hw) (by simpa using n8) (λvw H4 S4 iw=>?_);rw[<- e0,JF hf0]at iw;rw[<- e0]at ew3;k_few
 refine Dt (λf σ H'=>∃(o7 o8:Option V)(g:List Nat)(acc:List (List Nat))(pw:List Int)(ll:wf)(vw:V)(av:List V),σ = [some x0,some x1,some (.ref lp),some (.ref lw),some (.ref ll),some (.ref la),some vw,o7,o8,none,none]/\Run rs us ts ps (cm.getD 0 []) f g acc/\af H H'/\H' lp=some (.lst (pw.map V.int))/\pw.length=rs.length/\(∀w,w<rs.length->w ∉ g->pw.getD w 0=cN rs us ts ps (cm.getD 0 []) g w)/\H' lw=some (.lst (vz (wo rs.length)))/\H' ll=some (.lst (vz (dg rs.length g)))/\ll≠lp/\ll≠la/\H' la=some (.lst av)/\ag K H' av (acc.map TW)/\Is K H' vw (TW (GM.fresh rs us ts ps (cm.getD 0 []) g))/\acc.length+f<=9)
   9 ⟨_,_,[],[],_,lw,vw,[],rfl,Run.start n8,T3.trans S4,S4 _ _ ep3,hpl,hf0,by rw[<- e0];exact S4 _ _ ew3,S4 _ _ ew3,nlwp,Wz nlaw,S4 _ _ ea,.nil,iw,by decide⟩ ?_
 clear S4 iw ep3 ew3 ea w3 s3 T3 hf0 hpl vw;rintro f σ H5 ⟨o7,o8,g,acc,pw,ll,vw,av,rfl,R5,S5,ep5,hpl,hph,ew5,el5,dS,nla,ea5,ta5,iw5,hf9⟩;have hal:av.length=acc.length:=by rw[ta5.length,wd]
 have w5:=hw.by S5;have s5:=hs.by S5;o_head B0 (show Is K H5 vw (.tuple _)from iw5) ?_
 by_cases hfr:GM.fresh rs us ts ps (cm.getD 0 []) g=[]
 . obtain⟨hacc,hg⟩:=R5.stop hfr
   rw[hfr,show(!(Q9 PyData.int (Q9 (λ(w:Nat)=>(w:Int)) ([]:List Nat))).isEmpty)=false from rfl];o_head kZ (.of ew5) (o0:=none) (tl:=[some (.ref ll),some (.ref lp)]) rfl (λj y H'=>y=.int (if j∈g then 0 else pw.getD j 0)) ?_ ?_
   . intro D i x ys o H6 hx inv
     obtain⟨hi,rfl⟩:=kT hx;rw[vi]at hi;rw[Vm];have S6:=inv.same;o_head ON (.inl (.of (S6 _ _ el5))) ?_;k_few
     . rename_i z
       have z:=(nh.mp z).2;refine B6 (.of (S6 _ _ ep5)) (by omega) (by omega) ?_;exact dB inv (by omega) (λ_ _ _ _ _ z=>z) ⟨_,rfl⟩ (af.refl _) (by rw[if_neg z];rfl)
     . rename_i z
       have z:i∈g:=XD λzz=>z (nh.mpr ⟨hi,zz⟩)
       exact dB inv (by omega) (λ_ _ _ _ _ z=>z) ⟨_,rfl⟩ (af.refl _) (by rw[if_pos z])
   . intro D zs H6 n6 S6 e6 hl6 hr6
     have hzs:zs=(cI rs us ts ps cm).map V.int:=by
       refine L4 (by rw[hl6,fu,vi];simp[cI]) λj y hy=>?_
       have hj:=gI hy;rw[hl6,fu,vi]at hj;rw[hr6 j y hy];unfold cI;rw[gT hj,show eQ rs us ts ps cm=g from hg.symm]
       split
       . rfl
       . rename_i z;rw[hph j hj z]
     subst hzs;o_head gm (.of e6) (λl7 H7 n7 S7 e7=>?_);have S57:=S6.trans S7;o_head Rr (S57 _ _ ew5) (.inl (.of (S57 _ _ el5))) rfl (by simpa using Wi n8 (by decide)) (λlg H8 n8' S8 e8=>?_);have S58:=S57.trans S8;o_head fj (aW.mpr ⟨la,av,rfl,.of (S58 _ _ ea5),ag.same S58 _ _ ta5⟩) (λv9 H9 S9 i9=>?_);have S59:=S58.trans S9;o_head Jn (s5.by S59) (λv10 i10=>?_);o_head zjS (w5.by S59) ok i10 so.cl (λd hd=>(so.c d hd).1) (.inl (.of (S9 _ _ e8))) (λv11 H11 S11 i11=>?_)
     have hmem:∀x,x<rs.length->(x∈(wo rs.length).filter (λw=>!decide (w∈dg rs.length g)) ↔ x∈g):=λx hx=>by
       rw[vG,wB,W0,decide_eq_false_iff_not,nh]
       constructor
       . rintro ⟨_,h⟩
         exact XD λz=>h ⟨hx,z⟩
       . intro h;exact⟨hx,λz=>z.2 h⟩
     have ecm:hZ ts cm ((wo rs.length).filter λw=>!decide (w∈dg rs.length g)) rs.length=d7 rs us ts ps cm:=by
       unfold d7 hZ;refine vU λd _=>vU λw _=>?_
       rw[show eQ rs us ts ps cm=g from hg.symm,zvo ok.t hmem]
     rw[ecm]at i11;k_few;have i7:Is K H11 (.ref l7) (TZ (cI rs us ts ps cm)):=eY.mpr ⟨l7,rfl,.of ((S8.trans (S9.trans S11)) _ _ e7)⟩;refine cC (ds:=[TZ (cI rs us ts ps cm),cv (d7 rs us ts ps cm)]) (by simp) (.cons i7 (.cons i11 .nil)) (λv12 H12 S12 i12=>?_);k_few
     have i9':Is K H12 v9 (cR (fq rs us ts ps cm)):=by
       rw[hacc]at i9;exact(i9.by S11).by S12
     refine cC (ds:=[cR (fq rs us ts ps cm),aY (cI rs us ts ps cm) (d7 rs us ts ps cm)]) (by simp) (.cons i9' (.cons i12 .nil)) (λv13 H13 S13 i13=>?_);exact q v13 H13 (S5.trans (S59.trans (S11.trans (S12.trans S13)))) i13
 . have hne:(!(Q9 PyData.int (Q9 (λ(w:Nat)=>(w:Int)) (GM.fresh rs us ts ps (cm.getD 0 []) g))).isEmpty)=true:=by
     cases e:GM.fresh rs us ts ps (cm.getD 0 []) g with
     | nil=>exact absurd e hfr
     | cons a b=>rfl
   rw[hne];obtain⟨f',rfl,R6⟩:=R5.step hfr;have hdis:∀x∈GM.fresh rs us ts ps (cm.getD 0 []) g,x ∉ g:=λx hx=>(pI hx).2
   generalize GM.fresh rs us ts ps (cm.getD 0 []) g=fr at *;refine j3 (Cy ?_);o_head fK (.of ea5) ?_;o_head jv ea5 (by omega) (λH6 E6 e6=>?_);have k6:=E6.keep ea5;have S6:af H H6:=λb o h=>E6 b o (cW h na0) (S5 b o h)
   have ep6:=E6.at (Wz nlap) ep5;have ew6:=E6.at (Wz nlaw) ew5;have el6:=E6.at nla el5;have iw6:Is K H6 vw (TW fr):=iw5.eX k6 (Ey _)
   have ta6:ag K H6 (av++[vw]) ((acc++[fr]).map TW):=by
     rw[wL];exact(ag.keep k6 _ _ (mQ _) ta5).append (.cons iw6 .nil)
   obtain⟨aw,rfl,hsw⟩:=AB.mp iw6;o_head Rr el6 (.inr hsw) rfl (by have:=O8 rs.length g;omega) (λln H7 n7 S7 e7=>?_);rw[zuF]at e7;have w7:=hw.by (S6.trans S7);o_head Pq w7 (.inr (S7.d9 hsw)) ok (λlt kv H8 n8t S8 e8 t8=>?_);have S68:=S7.trans S8;have ep8:=S68 _ _ ep6;have nltp:lt≠lp:=λz=>by subst z;rw[S7 _ _ ep6]at n8t;cases n8t
   have nlnp:ln≠lp:=λz=>by subst z;rw[ep6]at n7;cases n7
   have nlna:ln≠la:=λz=>by subst z;rw[e6]at n7;cases n7
   have el8:=S8 _ _ e7;have S08:=S6.trans S68;have w8:=hw.by S08;have ea8:=S68 _ _ e6;have ta8:ag K H8 (av++[.ref aw]) ((acc++[fr]).map TW):=ag.same S68 _ _ ta6;have ew8:=S68 _ _ ew6;clear S7 n7 e7 w7 S8 n8t ep6 ew6 el6 ta6 iw6 hsw e6 k6 E6 ep5 ew5 el5 ea5 ta5 iw5;k_few;have ndl:(dg rs.length (g++fr)).Nodup:=Wn.filter _
   refine Am (.of el8) (λi σ H'=>∃(o8:Option V)(pw':List Int),σ = [some x0,some x1,some (.ref lp),some (.ref lw),some (.ref ln),some (.ref la),some (.ref aw),some (.ref lt),o8,none,none]/\Exc lp H8 H'/\H' lp=some (.lst (pw'.map V.int))/\pw'.length=rs.length /\ ∀w,w<rs.length->pw'.getD w 0=if w∈(dg rs.length (g++fr)).take i then cN rs us ts ps (cm.getD 0 []) (g++fr) w else pw.getD w 0)
     ⟨_,pw,rfl,Exc.refl _ _,ep8,hpl,λw _=>by simp⟩ (λi σ H' _ ⟨_,_,_,X,_⟩=>.of (X.at nlnp el8)) ?_ ?_
   . rintro i x σ H9 hx ⟨o8,pw',rfl,X9,ep9,hpl9,hpw9⟩
     obtain⟨hi,rfl⟩:=kT hx;obtain⟨hwn,hwg⟩:=nh.mp (vc hi)
     have hnt:(dg rs.length (g++fr))[i] ∉ (dg rs.length (g++fr)).take i:=λz=>by
       obtain⟨j,hj,e⟩:=Wj z;rw[uL]at e;rw[vP]at hj;exact absurd (N5 ndl _ _ e) (by omega)
     have hti:(dg rs.length (g++fr)).take (i+1)=(dg rs.length (g++fr)).take i++[(dg rs.length (g++fr))[i]]:=kS hi;generalize hwv:(dg rs.length (g++fr))[i]=w at *;have hwg1:w ∉ g:=λz=>hwg (WJ _ z)
     obtain⟨hul,hub⟩:=ok.u w hwn;have K9:=X9.keep ep8;have w9:Is K H9 x0 (bI rs us ts):=w8.lS K9;have hpw:pw'.getD w 0=cN rs us ts ps (cm.getD 0 []) g w:=by rw[hpw9 w hwn,if_neg hnt,hph w hwn hwg1]
     have hlow:=NU ok so g hwn;o_head iP w9 (λx4 i4=>?_);o_head fW i4 (by omega) (by omega) ?_;rw[wH];o_head DM w9 (λx5 i5=>?_);o_head DO i5 (by omega) (by rw[ok.ul];omega) (λx6 i6=>?_);rw[wH]at i6;o_head B6 (.of ep9) (by omega) (by omega) ?_;rw[wH,hpw];o_head Ph (d:=0) (X9.at nltp e8) (ag.keep K9 _ _ (eM _) t8) ok.t ok.tl (λH10 S10=>?_);k_few;have hcl:=NT ts fr w 0;have htl:=ok.tl;refine OZ hul.symm (i6.by S10) (by omega) (by omega) (by omega) hub ?_;rw[wH,zyq hdis];o_head rE (j:=w) (S10 _ _ ep9) (by rw[wd,hpl9];unfold fR;rw[if_pos (by omega),if_pos (by omega)];simp) (λH11 E11 e11=>?_);rw[map_set]at e11;o_head ⟨_,_,rfl,X9.trans (S10.exc.trans E11),e11,by rw[VB,hpl9],λv hv=>?_⟩;rw[zxA (by omega),hti,hpw9 v hv]
     by_cases e:w=v
     . subst e;rw[if_pos rfl,if_pos (vX _ (vv.mpr rfl))]
     . rw[if_neg e]
       by_cases e2:v∈(dg rs.length (g++fr)).take i
       . rw[if_pos e2,if_pos (WJ _ e2)]
       . rw[if_neg e2,if_neg (λz=>(vR.mp z).elim e2 λz=>e (vv.mp z).symm)]
   . rintro σ H9 ⟨o8,pw',rfl,X9,ep9,hpl9,hpw9⟩
     rw[fu,Wt]at hpw9;have K9:=X9.keep ep8;have S09:af H H9:=λb o h=>X9 b o (cW h np0) (S08 b o h)
     have hpg:∀w,w<rs.length->w ∉ g++fr->pw'.getD w 0=cN rs us ts ps (cm.getD 0 []) (g++fr) w:=λw h1 h2=>by rw[hpw9 w h1,if_pos (nh.mpr ⟨h1,h2⟩)]
     o_head KL (hw.by S09) (X9.at nlnp el8) ep9 hpl9 (λw hw=>(nh.mp hw).1) (by have:=O8 rs.length (g++fr);omega) (λvw' H10 S10 iw10=>?_);rw[JF hpg]at iw10;o_head ⟨f',by omega,_,_,g++fr,acc++[fr],pw',ln,vw',av++[.ref aw],rfl,R6,S09.trans S10,S10 _ _ ep9,hpl9,hpg,S10 _ _ (X9.at nlwp ew8),S10 _ _ (X9.at nlnp el8),nlnp,nlna,S10 _ _ (X9.at nlap ea8),ag.same S10 _ _ (ag.keep K9 _ _ (mQ _) ta8),iw10,?_⟩;rw[wS,Vj];omega
def stN(rs:List Int)(us ts:List (List Int))(ps:List Int)(cm:List (List Int)):Nat->List Int × List (List Int)
 | 0=>(ps,cm)
 | k+1=>(cI rs us ts (stN rs us ts ps cm k).1 (stN rs us ts ps cm k).2,d7 rs us ts (stN rs us ts ps cm k).1 (stN rs us ts ps cm k).2)
theorem iL{rs ps:List Int}{us ts cm:List (List Int)}(ok:bF rs us ts)(so:cq rs ps cm):∀k,cq rs (stN rs us ts ps cm k).1 (stN rs us ts ps cm k).2
 | 0=>so
 | k+1=>(iL ok so k).next ok
def dX(rs:List Int)(us ts:List (List Int))(ps:List Int)(cm:List (List Int))(k:Nat):List (List Nat):=fq rs us ts (stN rs us ts ps cm k).1 (stN rs us ts ps cm k).2
def dI(r:Nat × List (List Nat)):wq:=.tuple [.int (r.1:Int),cR r.2]
def cx(rs:List Int)(us ts:List (List Int))(ps:List Int)(cm:List (List Int)):Nat->List (Nat × List (List Nat))
 | 0=>[]
 | k+1=>cx rs us ts ps cm k++if dX rs us ts ps cm k=[]then []else [(k+1,dX rs us ts ps cm k)]
theorem DZ(rs:List Int)(us ts:List (List Int))(ps:List Int)(cm:List (List Int)):∀k,(cx rs us ts ps cm k).length<=k
 | 0=>wu _
 | k+1=>by
  have:=DZ rs us ts ps cm k;rw[cx,wS]
  split
  ·rw[qY];omega
  ·rw[Vj];omega
theorem sY(r:Nat × List (List Nat)):bV (dI r)=true:=by rw[dI,bV,a_,a_,a_,LP];rfl
theorem Df(l:List (Nat × List (List Nat))):a_ (l.map dI)=true:=yL _ sY l
def Px(K:wb):Sp:=λvs H Q _=>∃x0 x1 x2,vs=[x0,x1,x2] /\ ∃(rs ps:List Int)(us ts cm:List (List Int))(n:Nat),Is K H x0 (bI rs us ts)/\bF rs us ts/\Is K H x1 (aY ps cm)/\cq rs ps cm/\x2=.int (n:Int)/\n<=900 /\ ∀l us' H',H l=none->af H H'->H' l=some (.lst us')->ag K H' us' ((cx rs us ts ps cm n).map dI)->Q (.ref l) H'
theorem Bw{K:wb}{H:Hp}{Q:VK}{E:XK}{v w:V}{rs ps:List Int}{us ts cm:List (List Int)}{n:Nat}(h:Is K H v (bI rs us ts))(ok:bF rs us ts)(h2:Is K H w (aY ps cm))(so:cq rs ps cm)(hn:n<=900)(q:∀l us' H',H l=none->af H H'->H' l=some (.lst us')->ag K H' us' ((cx rs us ts ps cm n).map dI)->Q (.ref l) H'):Px K [v,w,.int (n:Int)] H Q E:=⟨_,_,_,rfl,rs,ps,us,ts,cm,n,h,ok,h2,so,rfl,hn,q⟩
theorem CB(T:Txt K mg a):aM P w K mg base aR 4 a.run a.Ih zG (Px K):=by
 refine T.p_.F.ok mn ?_ ?_;wtm_at "b3"
 refine⟨_,(ah (aD 3 mn.nd (cS ae))
     (ah (aD 4 mn.nd (pv 1))
     (ah (dG vE rfl (Oe rfl T.z_range (aa aC (aa (aK dD (pv 2) aC) ae))) (aN (i:=5) mn.nd rfl (Or.inl rfl)) (ah (aD 6 mn.nd (ak (Bt T) hr T.p9 (aa (pv 0) (aa (pv 4) ae))))
     (ah (aD 4 mn.nd (aA (pv 6)))
     (aq (bZ (EY (aA (pv 6))) (aq (h_ (fS vI Wd We hV (pv 3) (aa (b9 (aa (pv 5) (aa (aA (pv 6)) ae))) ae)))) b7)))))
     (aq (aH (pv 3)))))),?_⟩
 wtm_at "cl";rw[show start RA [x0,x1,x2]=[some x0,some x1,some x2,none,none,none,none]from rfl];obtain⟨rs,ps,us,ts,cm,n,hw,ok,hs,so,rfl,hn,q⟩:=h;wtm_at "ga";rename_i lo H1 n1 S1 e1;refine YG ?_;o_head zsb (by decide) (by decide) (by omega) (by omega) (λi σ H'=>∃o5 o6 v rows,σ = [some x0,some x1,some (.int (n:Int)),some (.ref lo),some v,o5,o6]/\af H H'/\Is K H' v (aY (stN rs us ts ps cm i).1 (stN rs us ts ps cm i).2)/\H' lo=some (.lst rows)/\ag K H' rows ((cx rs us ts ps cm i).map dI)) ⟨_,_,_,[],rfl,S1,hs.by S1,e1,.nil⟩ ?_ ?_
 . rintro i σ H2 hi ⟨o5,o6,v,rows,rfl,S2,i2,e2,t2⟩
   have hrl:=DZ rs us ts ps cm i;have hrl2:rows.length=(cx rs us ts ps cm i).length:=by rw[t2.length,wd]
   o_head EL (hw.by S2) ok i2 (iL ok so i) (λv3 H3 S3 i3=>?_);have e3:=S3 _ _ e2;have t3:ag K H3 rows ((cx rs us ts ps cm i).map dI):=ag.same S3 _ _ t2;o_head Fc i3 (λv4 i4=>?_);o_head JN i3 (λv5 i5=>?_);o_head B0 (show Is K H3 v5 (.tuple _)from i5) ?_;have hw':dX rs us ts ps cm i=fq rs us ts (stN rs us ts ps cm i).1 (stN rs us ts ps cm i).2:=rfl;rw[<- hw']at i5 ⊢
   by_cases hz:dX rs us ts ps cm i=[]
   . rw[show(!(Q9 TW (dX rs us ts ps cm i)).isEmpty)=false from by rw[hz];rfl]
     o_head ⟨_,_,v4,rows,rfl,S2.trans S3,i4,e3,?_⟩;rw[cx,if_pos hz,vT];exact t3
   . rw[show(!(Q9 TW (dX rs us ts ps cm i)).isEmpty)=true from by
       cases e:dX rs us ts ps cm i with
       | nil=>exact absurd e hz
       | cons a b=>rfl]
     o_head fK (.of e3) ?_;o_head JN i3 (λv6 i6=>?_);rw[<- hw']at i6;k_few;rw[show(1:Int)+(i:Int)=((i+1:Nat):Int) by omega];refine cC (ds:=[.int ((i+1:Nat):Int),cR (dX rs us ts ps cm i)]) (by simp) (.cons (bN.mpr rfl) (.cons i6 .nil)) (λv7 H7 S7 i7=>?_);o_head jv (S7 _ _ e3) (by omega) (λH8 E8 e8=>?_);have k8:=E8.keep (S7 _ _ e3);o_head ⟨_,_,v4,rows++[v7],rfl,λb o h=>E8 b o (cW h n1) (S7 b o (S3 b o (S2 b o h))),(i4.by S7).lQ k8,e8,?_⟩;rw[cx,if_neg hz,wL];exact(ag.keep (S7.keep.trans k8) _ _ (Df _) t3).append (.cons ((show Is K H7 v7 (dI (i+1,dX rs us ts ps cm i))from i7).eX k8 (sY _)) .nil)
 . rintro σ H2 ⟨o5,o6,v,rows,rfl,S2,i2,e2,t2⟩
   rw[show((n:Int)+1-1).toNat=n by omega]at t2;k_few;exact q lo rows H2 n1 S2 e2 t2
def OH(K:wb):Sp:=λvs H Q _=>∃x0 x1 x2,vs=[x0,x1,x2] /\ ∃(rs ps:List Int)(us ts cm:List (List Int))(n:Nat),Is K H x0 (bI rs us ts)/\bF rs us ts/\Is K H x1 (aY ps cm)/\cq rs ps cm/\x2=.int (n:Int)/\n<=1000 /\ ∀v H',af H H'->Is K H' v (aY (stN rs us ts ps cm n).1 (stN rs us ts ps cm n).2)->Q v H'
theorem Mr{K:wb}{H:Hp}{Q:VK}{E:XK}{v w:V}{rs ps:List Int}{us ts cm:List (List Int)}{n:Nat}(h:Is K H v (bI rs us ts))(ok:bF rs us ts)(h2:Is K H w (aY ps cm))(so:cq rs ps cm)(hn:n<=1000)(q:∀v H',af H H'->Is K H' v (aY (stN rs us ts ps cm n).1 (stN rs us ts ps cm n).2)->Q v H'):OH K [v,w,.int (n:Int)] H Q E:=⟨_,_,_,rfl,rs,ps,us,ts,cm,n,h,ok,h2,so,rfl,hn,q⟩
theorem Ra(T:Txt K mg a):aM P w K mg base aR 4 a.Gf a.FG zQ (OH K):=by
 refine T.AL.F.ok yn ?_ ?_;wtm_at "b3"
 refine⟨_,(ah (aD 3 yn.nd (pv 1))
     (ah (dG vE rfl (fb rfl T.z_range (aa (pv 2) ae)) (aN (i:=4) yn.nd rfl (Or.inl rfl)) (aq (aD 3 yn.nd (aA (ak (Bt T) hr T.p9 (aa (pv 0) (aa (pv 3) ae)))))))
     (aq (aH (pv 3))))),?_⟩
 wtm_at "cl";rw[show start Jr [x0,x1,x2]=[some x0,some x1,some x2,none,none]from rfl];obtain⟨rs,ps,us,ts,cm,n,hw,ok,hs,so,rfl,hn,q⟩:=h;o_head ki (n:=(n:Int)) (by omega) (by omega) (λi σ H'=>∃o4 v,σ = [some x0,some x1,some (.int (n:Int)),some v,o4]/\af H H'/\Is K H' v (aY (stN rs us ts ps cm i).1 (stN rs us ts ps cm i).2)) ⟨_,_,rfl,af.refl _,hs⟩ ?_ ?_
 . rintro i σ H1 hi ⟨o4,v,rfl,S1,i1⟩
   o_head EL (hw.by S1) ok i1 (iL ok so i) (λv2 H2 S2 i2=>?_);o_head Fc i2 (λv3 i3=>?_);k_few;exact⟨_,v3,rfl,S1.trans S2,i3⟩
 . rintro σ H1 ⟨o4,v,rfl,S1,i1⟩
   rw[wH]at i1;k_few;exact q v H1 S1 i1
def gq(f:Nat->TB.SK)(n:Nat):Prop:=∀a b,a<b->b<n->f a≠f b
structure g6(f:Nat->TB.SK)(i j:Nat):Prop where
 d:gq f i
 lt:j<i
 eq:f i=f j
theorem g6.long{f:Nat->TB.SK}{i j m:Nat}(h:g6 f i j)(l:gq f (m+1)):m<i:=by
 rcases wT m i with z | z
 ·exact z
 ·exact absurd h.eq.symm (l j i h.lt (by omega))
theorem g6.uniq{f:Nat->TB.SK}{i j i' j':Nat}(h:g6 f i j)(h':g6 f i' j'):i=i'/\j=j':=by
 have e:i=i':=by
  rcases qz i i' with z | z | z
  ·exact absurd h.eq.symm (h'.d j i h.lt z)
  ·exact z
  ·exact absurd h'.eq.symm (h.d j' i' h'.lt z)
 subst e;refine⟨rfl,?_⟩;rcases qz j j' with z | z | z
 ·exact absurd (h.eq.symm.trans h'.eq) (h.d j j' z h'.lt)
 ·exact z
 ·exact absurd (h'.eq.symm.trans h.eq) (h.d j' j z h.lt)
def du(f:Nat->TB.SK)(k:Nat):wq:=aY (f k).1 (f k).2
def g_(f:Nat->TB.SK)(i:Nat)(xs:List (TB.SK × wf × Int)):Prop:=xs.map (λx=>(x.1,x.2.2))=(wo i).map λk=>(f k,(k:Int))
theorem g_.len{f:Nat->TB.SK}{i:Nat}{xs:List (TB.SK × wf × Int)}(h:g_ f i xs):xs.length=i:=by
 have:=congrArg uM h
 simpa using this
theorem g_.snoc{f:Nat->TB.SK}{i:Nat}{xs:List (TB.SK × wf × Int)}(h:g_ f i xs)(b:wf):g_ f (i+1) (xs++[(((f i).1,(f i).2),b,(i:Int))]):=by
 unfold g_ at h ⊢;rw[wL,h,Vb,wL]
 rfl
theorem ztO{f:Nat->TB.SK}{i:Nat}{xs:List (TB.SK × wf × Int)}(h:g_ f i xs){s:TB.SK}(n:∀k,k<i->f k≠s):cO xs s=none:=by
 unfold cO;rw[Xm,xm];intro x hx e;have e:=of_decide_eq_true e
 have m:(x.1,x.2.2)∈(wo i).map λk=>(f k,(k:Int)):=by
  unfold g_ at h;rw[<- h];exact wQ.mpr ⟨x,hx,rfl⟩
 obtain⟨k,hk,e2⟩:=wQ.mp m
 injection e2 with e3 e4
 exact n k (wB.mp hk) (e3.trans e)
theorem Kb{f:Nat->TB.SK}{i j:Nat}{xs:List (TB.SK × wf × Int)}(h:g_ f i xs)(d:gq f i)(hj:j<i){s:TB.SK}(e:f j=s):cO xs s=some (j:Int):=by
 unfold g_ at h;have m:(f j,(j:Int))∈xs.map (λx=>(x.1,x.2.2)):=by rw[h];exact wQ.mpr ⟨j,wB.mpr hj,rfl⟩
 obtain⟨x,hx,ex⟩:=wQ.mp m
 injection ex with e1 e2
 unfold cO;cases q:xs.find? λx=>decide (x.1=s)with
 | none =>
  rw[xm]at q;exact absurd (decide_eq_true (e1.trans e)) (q x hx)
 | some y =>
  have ye:y.1=s:=by simpa using List.find?_some q
  have ym:=List.mem_of_find?_eq_some q;have m2:(y.1,y.2.2)∈(wo i).map λk=>(f k,(k:Int)):=by rw[<- h];exact wQ.mpr ⟨y,ym,rfl⟩
  obtain⟨k,hk,e3⟩:=wQ.mp m2
  injection e3 with e4 e5
  have hk:=wB.mp hk
  have:k=j:=by
   rcases qz k j with z | z | z
   ·exact absurd (e4.trans (ye.trans e.symm)) (d k j z hj)
   ·exact z
   ·exact absurd (e.trans (ye.symm.trans e4.symm)) (d j k z hk)
  subst this
  show some y.2.2=_
  rw[<- e5]
theorem Zw(f:Nat->TB.SK)(k:Nat):bV (du f k)=true:=Dd _ _
theorem BW(f:Nat->TB.SK)(l:List Nat):a_ (l.map (du f))=true:=yL _ (Zw f) l
def yE(K:wb)(H H':Hp)(v:V)(f:Nat->TB.SK)(i j:Nat):Prop:=∃t l m xs ys,v=.ref t/\H t=none/\aF K H' t [.ref l,.ref m]/\H l=none/\H m=none/\l≠m/\H' l=some (.lst xs)/\H' m=some (.lst ys)/\ag K H' xs ((wo j).map (du f))/\ag K H' ys (((wo i).drop j).map (du f))
def Dy(K:wb)(a:Ad):Sp:=λvs H Q E=>∃x0 x1 x2,vs=[x0,x1,x2] /\ ∃(rs ps:List Int)(us ts cm:List (List Int))(n:Nat),Is K H x0 (bI rs us ts)/\bF rs us ts/\Is K H x1 (aY ps cm)/\cq rs ps cm/\x2=.int (n:Int)/\n<=3000 /\
 (∀i j,g6 (stN rs us ts ps cm) i j->i<=n->∀v H',af H H'->yE K H H' v (stN rs us ts ps cm) i j->Q v H')/\(gq (stN rs us ts ps cm) (n+1)->∀H',af H H'->E (.ref a.ic) none H')
theorem zyQ{K:wb}{a:Ad}{H:Hp}{Q:VK}{E:XK}{v w:V}{rs ps:List Int}{us ts cm:List (List Int)}{n:Nat}(h:Is K H v (bI rs us ts))(ok:bF rs us ts)(h2:Is K H w (aY ps cm))(so:cq rs ps cm)(hn:n<=3000)
  (q1:∀i j,g6 (stN rs us ts ps cm) i j->i<=n->∀v H',af H H'->yE K H H' v (stN rs us ts ps cm) i j->Q v H') (q2:gq (stN rs us ts ps cm) (n+1)->∀H',af H H'->E (.ref a.ic) none H'):Dy K a [v,w,.int (n:Int)] H Q E:=⟨_,_,_,rfl,rs,ps,us,ts,cm,n,h,ok,h2,so,rfl,hn,q1,q2⟩
theorem zzp(T:Txt K mg a):aM P w K mg base (dy P w) 4 a.ring a.Ic tE (Dy K a):=by
 refine T.p8.F.lq ml ?_ ?_;wtm_at "b3"
 refine⟨_,(ah (aD 3 ml.nd (cS ae))
     (ah (aD 4 ml.nd zvt)
     (ah (aD 5 ml.nd (pv 1))
     (ah (nV PassesOwn.leaving (YW (zrh (qj (Q5 (by decide) _) hu) (pv 5) (pv 4)) (by with_unfolding_all rfl)) (ah (bZ (cb (show aJ _ (wW .Eq) (dW K)from fN hu) (aU (show ay _ (.builtin "len") (bB K)from bX) rfl T.z_len bR (aa (pv 3) ae)) (pv 2) (bD _)) (aq (iY T.Sw rfl rfl T.G6 iU (aa fJ ae))) b7)
     (ah (zxj (qj (Q5 (by decide) _) hu) (pv 4) (pv 5) (aU (show ay _ (.builtin "len") (bB K)from bX) rfl T.z_len bR (aa (pv 3) ae)) rfl)
     (ah (h_ (fS vI Wd We hV (pv 3) (aa (pv 5) ae)))
     (aq (aD 5 ml.nd (aA (ak (Bt T) hr T.p9 (aa (pv 0) (aa (pv 5) ae))))))))))
     (ah (aD 6 ml.nd (zxg (qj (Q5 (by decide) _) hu) (pv 4) (pv 5) (λ_ _=>rfl)))
     (aq (aH (b9 (aa (rV zZ (pv 3) Ay (rN (pv 6))) (aa (rV zZ (pv 3) (rN (pv 6)) Ay) ae)))))))))),?_⟩
 wtm_at "cl";rw[show start Nv [x0,x1,x2]=[some x0,some x1,some x2,none,none,none,none]from rfl];obtain⟨rs,ps,us,ts,cm,n,hw,ok,hs,so,rfl,hn,q1,q2⟩:=h;generalize hf:stN rs us ts ps cm=f at q1 q2;wtm_at "ga";rename_i lo H1 nlo S1 e1;refine zwZ (λld H2 n2 S2 e2=>?_);k_few
 have n1:H ld=none:=by
   cases z:H ld with
   | none=>rfl
   | some o=>rw[S1 _ _ z]at n2;cases n2
 refine Dt (λm σ H'=>∃(i:Nat)(v:V)(sv:List V)(xs:List (TB.SK × wf × Int)),m=n-i/\i<=n /\ σ = [some x0,some x1,some (.int (n:Int)),some (.ref lo),some (.ref ld),some v,none]/\af H H'/\H' lo=some (.lst sv)/\ag K H' sv ((wo i).map (du f))/\H' ld=some (cP ld xs)/\df K H' xs/\g_ f i xs/\Is K H' v (du f i)/\gq f i)
   n ⟨0,x1,[],[],by omega,by omega,rfl,S1.trans S2,S2 _ _ e1,.nil,e2,df.nil,rfl,by rw[<- hf];exact hs.by (S1.trans S2),λa b h1 h2=>by omega⟩ ?_
 rintro m σ H3 ⟨i,v,sv,xs,rfl,hin,rfl,S3,e3,t3,d3,k3,di,i3,ds⟩;obtain⟨av,_,rfl,_⟩:=bz.mp i3;have hsl:sv.length=i:=by rw[t3.length,wd,vi]
 o_head Ze ?_;o_head ⟨ld,av,xs,(f i).1,(f i).2,rfl,rfl,d3,k3,i3,?_⟩
 by_cases hx:∃j,j<i/\f j=f i
 . obtain⟨j,hj,ej⟩:=hx
   rw[Kb di ds hj ej,show(!(some (j:Int)).isSome)=false from rfl];o_head YC ?_;o_head ⟨ld,av,xs,(f i).1,(f i).2,(j:Int),rfl,rfl,d3,k3,i3,Kb di ds hj ej,?_⟩;o_head El (.of e3) (λl4 H4 n4 S4 e4=>?_);rw[show gK sv none (some (j:Int))=gf sv none (some (j:Int))from rfl,zBg]at e4;o_head El (.of (S4 _ _ e3)) (λl5 H5 n5 S5 e5=>?_);rw[show gK sv (some (j:Int)) none=gf sv (some (j:Int)) none from rfl,zw3 _ _ (by omega)]at e5;o_head kF (by simp) (λt6 H6 n6 S6 e6=>?_);have S45:=S3.trans S4;have S456:=S45.trans S5
   have fr:∀{b:wf}{h:Hp},af H h->h b=none->H b=none:=λ{b h} s z=>by
     cases y:H b with
     | none=>rfl
     | some o=>rw[s _ _ y]at z;cases z
   refine q1 i j ⟨ds,hj,ej.symm⟩ hin _ H6 (S456.trans S6) ⟨t6,l4,l5,_,_,rfl,fr S456 n6,.of e6,fr S3 n4,fr S45 n5,λe=>?_,S6 _ _ (S5 _ _ e4),S6 _ _ e5,?_,?_⟩
   . rw[<- e,e4]at n5;cases n5
   . have:=ag.same (S4.trans (S5.trans S6)) _ _ (t3.take j)
     rw[<- UP,List.take_range,Xc (by omega)]at this;exact this
   . have:=ag.same (S4.trans (S5.trans S6)) _ _ (t3.drop j)
     rw[<- UQ]at this;exact this
 . have ds':gq f (i+1):=λa b h1 h2=>by
     rcases wT b i with z | z
     . exact ds a b h1 z
     . have:b=i:=by omega
       subst this;exact λe=>hx ⟨a,h1,e⟩
   have hl:=ztO di (λk hk e=>hx ⟨k,hk,e⟩);rw[hl,show(!(none:Option Int).isSome)=true from rfl];o_head Cy ?_;o_head dU (.of e3) ?_;rw[hsl];k_few
   . rename_i hi
     have hi:i=n:=by omega
     subst hi;exact⟨by simp;decide,q2 ds' H3 S3⟩
   . rename_i hi
     have hi:¬ i=n:=λe=>hi (by omega)
     refine zxn ?_;o_head dU (.of e3) ?_;rw[hsl];o_head zyz d3 k3 i3 hl (by rw[di.len];omega) (λH5 E5 K5 d5 k5=>?_);have nld:lo≠ld:=λe=>by rw[e,d3]at e3;cases e3
     have e5:=E5 _ _ nld e3;o_head fK (.of e5) ?_;o_head Zz e5 (by omega) (λH6 E6 e6=>?_);have K6:=E6.keep e5;have S6:af H H6:=λb o h=>E6 b o (cW h nlo) (E5 b o (cW h n1) (S3 b o h))
     have K56:=K5.trans K6;have i6:Is K H6 (.ref av) (du f i):=i3.lQ K56;k_few;have so':=iL ok so i;rw[hf]at so';refine EL (hw.by S6) ok i6 so' (λv7 H7 S7 i7=>?_);o_head Fc i7 (λv8 i8=>?_);o_head ⟨n-(i+1),by omega,i+1,v8,sv++[.ref av],xs++[(((f i).1,(f i).2),av,(i:Int))],rfl,by omega,rfl,S6.trans S7,S7 _ _ e6,?_,S7 _ _ (E6 _ _ (λe=>nld e.symm) d5),(k5.nA K6).nA S7.keep,di.snoc av,?_,ds'⟩
     . rw[Vb,wL]
       exact(ag.keep (K56.trans S7.keep) _ _ (BW f _) t3).append (.cons (i6.by S7) .nil)
     . rw[<- hf]at i8 ⊢
       exact i8
def aX(H:Hp)(p:wf)(k:Int):Prop:=0<=k /\ ∃(a:Int)(b:Bool),H p=some (.lst [.int a,.bl b])
theorem aX.same{H H':Hp}{p:wf}{k:Int}(s:af H H')(h:aX H p k):aX H' p k:=by
 obtain⟨k0,x,y,e⟩:=h;exact⟨k0,x,y,s _ _ e⟩
theorem aX.exc{H H':Hp}{p l:wf}{k:Int}(h:aX H p k)(s:Exc l H H')(n:p≠l):aX H' p k:=by
 obtain⟨k0,x,y,e⟩:=h;exact⟨k0,x,y,s _ _ n e⟩
theorem aX.ne{H:Hp}{p q:wf}{k:Int}(e:H q=none)(h:aX H p k):q≠p:=by
 obtain⟨_,x,y,z⟩:=h;exact(cW z e).symm
def Lo(K:wb):Sp:=λvs H Q _=>∃x0 x1,vs=[x0,x1] /\ ∃(a:wf)(ns:List Int)(k:Int),x0=.ref a/\x1=.int k/\gG K H a (ns.map V.int)/\ns.length<=63/\0<=k/\k<=1000 /\
 ∀p H',H p=none->af H H'->aX H' p 0->Q (.ref p) H'
theorem BQ{K:wb}{H:Hp}{Q:VK}{E:XK}{a:wf}{ns:List Int}{k:Int}(h:gG K H a (ns.map V.int))(hl:ns.length<=63)(h0:0<=k)(h1:k<=1000)
  (q:∀p H',H p=none->af H H'->aX H' p 0->Q (.ref p) H'):Lo K [.ref a,.int k] H Q E:=⟨_,_,rfl,a,ns,k,rfl,rfl,h,hl,h0,h1,q⟩
local macro_rules | `(tactic| wtm_at "pen")=>`(tactic| first
 | assumption
 | (apply aX.same;(focus assumption);wtm_at "pen"))
local macro_rules | `(tactic| wtm_at "ne")=>`(tactic| ((with_reducible apply aX.ne); (focus assumption); wtm_at "pen"))
local macro_rules | `(tactic| wtm_at "penle")=>`(tactic| exact aX.le (by wtm_at "pen") (by omega))
theorem CY(T:Txt K mg a):aM P w K mg base aR 1 a.Ib a.GL rQ (Lo K):=by
 refine T.pX.F.ok Dc ?_ ?_;wtm_at "b2"
 refine⟨_,(ah (aD 2 Dc.nd (aK dD (aK dZ aC (pv 1)) aC))
     (ah (bZ (cb zc (aU (show ay _ (.builtin "len") (bB K)from bX) rfl T.z_len bR (aa (pv 0) ae)) aC (bD _)) (aq (aD 2 Dc.nd (aK dD (cG bM (pv 0) (aK gu (pv 1) (aU (show ay _ (.builtin "len") (bB K)from bX) rfl T.z_len bR (aa (pv 0) ae))) (λ_ _=>rfl)) (aK dZ (aK dJ (pv 1) (aU (show ay _ (.builtin "len") (bB K)from bX) rfl T.z_len bR (aa (pv 0) ae))) aC)))) b7)
     (ah (bZ (PW.pt (Mg (cb Ms (pv 1) (aU (show ay _ (.builtin "len") (bB K)from bX) rfl T.z_len bR (aa (pv 0) ae)) (bD _)) (M6 (cb rB (pv 2) (zy8 (v:=1000000000000000000) ⟨by decide,by decide,by decide⟩ (by decide +kernel)) (bD _))))) (aq (aH (cS (aa (pv 2) (aa dY ae))))) b7)
     (aq (aH (cS (aa (aK gu (aK dZ (aK dD (aK dD (aK gu (pv 2) aC) (aK dZ aC (pv 1))) aC) aC) aC) (aa dY ae)))))))),?_⟩
 wtm_at "cl";rw[show start Od [x0,x1]=[some x0,some x1,none]from rfl];obtain⟨a',ns,k,rfl,rfl,hs,hl,h0,h1,q⟩:=h;have fin:∀(x:Int)(y:Bool),zS K [.int x,.bl y] H Q:=λx y=>iG (by show 2<=1000;decide) λp H' hp s e=>q p H' hp s ⟨by decide,x,y,e⟩
 o_head dU hs.sq ?_;k_few
 . rename_i hz
   rw[wd]at hz;refine dU hs.sq ?_;rw[wd];o_head zAA hs (Q0 _ (by omega)) (by rw[wd];exact Ql _ (by omega)) (λz=>?_);o_head dU hs.sq ?_;rw[wd];o_head kz ⟨by omega,(Bd.jP (by omega) (by omega)).mono (by decide)⟩ ?_;o_head dU hs.sq ?_;k_few
   all_goals exact fin _ _
 . refine dU hs.sq ?_
   k_few
   all_goals exact fin _ _
def OR(K:wb):Sp:=λvs H Q _=>∃x0 x1,vs=[x0,x1] /\ ∃(p:wf)(k m:Int),x0=.ref p/\x1=.int m/\aX H p k/\0<m/\Bd 8999 m /\
 ∀(r:Int)(H':Hp),0<=r->r<m->Exc p H H'->aO H H'->aX H' p k->Q (.int r) H'
theorem zqr{K:wb}{H:Hp}{Q:VK}{E:XK}{p:wf}{k m:Int}(h:aX H p k)(hm:0<m)(hb:Bd 8999 m)
  (q:∀(r:Int)(H':Hp),0<=r->r<m->Exc p H H'->aO H H'->aX H' p k->Q (.int r) H'):OR K [.ref p,.int m] H Q E:=⟨_,_,rfl,p,k,m,rfl,rfl,h,hm,hb,q⟩
local macro_rules | `(tactic| wtm_at "gs")=>`(tactic| ((with_reducible apply zqr); (focus wtm_at "pen"); (focus (first | decide | omega)); (focus wtm_at "bd128"); intro _ _ _ _ _ _ _))
theorem dR(T:Txt K mg a):aM P w K mg base aR 1 a.HJ a.GI AF (OR K):=by
 refine T.dF.F.ok EV ?_ ?_;wtm_at "b2"
 refine⟨_,(ah (bZ (cw (aA (pv 0))) (ah (aD 2 EV.nd (aK gu (aA (pv 0)) (pv 1)))
     (ah (ni (aK dJ (aA (pv 0)) (pv 1)) (oC (pv 0) aC pq))
     (aq (aH (pv 2))))) b7)
     (ah (ni (aK gu (aK dD (aK dZ (aA (pv 0)) aC) aC) aC) (oC (pv 0) aC pq))
     (ah (aD 3 EV.nd (aK gu (aK dZ (aK dD (aK dD (aK dZ (aK gu (aA (pv 0)) aC) aC) (aK dJ (aA (pv 0)) aC)) aC) aC) aC))
     (aq (aH (aK gu (aK dJ (pv 3) aC) (pv 1))))))),?_⟩
 wtm_at "cl";rw[show start Lp [x0,x1]=[some x0,some x1,none,none]from rfl];obtain⟨p,k,m,rfl,rfl,⟨hk0,x,y,hp⟩,hm,hbm,q⟩:=h;k_few
 all_goals
   exact q _ _ (Q0 _ (by omega)) (Ql _ hm) (by wtm_at "exc") (Exc.keep (p:=p) (by wtm_at "exc") hp) ⟨hk0,_,_,by assumption⟩
def JJ(K:wb):Sp:=λvs H Q _=>∃x0 x1 x2,vs=[x0,x1,x2] /\ ∃(p:wf)(k:Int)(n:Nat)(g:Bool),x0=.ref p/\x1=.int (n:Int)/\x2=.bl g/\aX H p k/\n<=8 /\ ∀(l:wf)(H':Hp)(us:List V)(ts:List (List Int)),Exc p H H'->aO H H'->aX H' p k->H' l=some (.lst us)->ag K H' us (ts.map TZ)->(∀t∈ts,dN n t)->ts.Nodup->ts.length<=60->Q (.ref l) H'
theorem zpg{K:wb}{H:Hp}{Q:VK}{E:XK}{p:wf}{k:Int}{n:Nat}{g:Bool}(h:aX H p k)(h8:n<=8)(q:∀(l:wf)(H':Hp)(us:List V)(ts:List (List Int)),Exc p H H'->aO H H'->aX H' p k->H' l=some (.lst us)->ag K H' us (ts.map TZ)->(∀t∈ts,dN n t)->ts.Nodup->ts.length<=60->Q (.ref l) H'):JJ K [.ref p,.int (n:Int),.bl g] H Q E:=⟨_,_,_,rfl,p,k,n,g,rfl,rfl,rfl,h,h8,q⟩
theorem zpK(T:Txt K mg a):aM P w K mg base aR 2 a.HH a.GA sE (JJ K):=by
 refine T.GS.F.ok kb ?_ ?_;wtm_at "b3"
 refine⟨_,(ah (aD 3 kb.nd (cS ae))
     (ah (dG vE rfl (fb rfl T.z_range (aa aC ae)) (aN (i:=4) kb.nd rfl (Or.inr rfl)) (aq (dG vE rfl (fb rfl T.z_range (aa (pv 1) ae)) (aN (i:=5) kb.nd rfl (Or.inr rfl)) (aq (aD 3 kb.nd (aK dD (pv 3) (cn rfl (bc.by (N':=["_law_b","_law_a","_law_delay"]) (src:=[none,some 5,some 4]) rfl (show bG _ (au zj).names Di ["_law_b","_law_a","_law_delay"] [none,some 5,some 4]=true from by decide +kernel)) (fb rfl T.z_range (aa (pv 1) ae)) (λ_ _ _ _ _=>(aN (i:=0) (show(["_law_b","_law_a","_law_delay"]:List Str).Nodup from by decide) rfl (Or.inl rfl))) (λ_ _ _ _ _=>(gM (cb (show aJ _ (wW .NotEq) (eA K)from fF hu) (pv 0) (pv 1) (bD _)))) (λ_ _ _ _ _=>by exact(show PE _ _ (lj K _)from b9 (aa (pv 1) (aa (pv 0) (aa (pv 2) ae))))))))))))
     (ah (aD 6 kb.nd (cG bM (cS (aa aC (aa aC ae))) (ak (dR T) hr T.dF (aa (pv 0) (aa aC ae))) (λ_ _=>rfl)))
     (ah (aD 7 kb.nd (cS ae))
     (ah (dG vE rfl (fb rfl T.z_range (aa (aU (show ay _ (.builtin "min") Aj from Nt rfl) rfl T.z_min IS (aa (aU (show ay _ (.builtin "len") (bB K)from bX) rfl T.z_len bR (aa (pv 3) ae)) (aa (ak (dR T) hr T.dF (aa (pv 0) (aa (cG bM (cS (aa aC (aa aC ae))) (b_ B4 rfl T.z_int tJ (aa (pv 2) ae)) (λ_ _=>rfl)) ae))) ae))) ae)) (aN (i:=8) kb.nd rfl (Or.inl rfl)) (aq (h_ (fS vI Wd We hV (pv 7) (aa (fS vI Xs Xu Jy (pv 3) (aa (ak (dR T) hr T.dF (aa (pv 0) (aa (aK dD aC (aK dJ (aK AA (aU (show ay _ (.builtin "len") (bB K)from bX) rfl T.z_len bR (aa (pv 3) ae)) aC) (pv 6))) ae))) ae)) ae)))))
     (aq (aH (pv 7)))))))),?_⟩
 wtm_at "cl";rw[show start Di [x0,x1,x2]=[some x0,some x1,some x2,none,none,none,none,none,none]from rfl];obtain⟨p,k,n,g,rfl,rfl,rfl,hp,h8,q⟩:=h;o_head iG (by simp) (λll0 H1 n1 S1 e1=>?_);k_few
 refine ki (n:=5) (by decide) (by decide) (λd σ H'=>∃(o4 o5:Option V)(ll:wf)(us:List V)(L:List (List Int)),σ = [some (.ref p),some (.int (n:Int)),some (.bl g),some (.ref ll),o4,o5,none,none,none]/\af H H'/\H ll=none/\H' ll=some (.lst us)/\ag K H' us (L.map TZ)/\jr n d 0 L)
   ⟨_,_,ll0,[],[],rfl,S1,n1,e1,.nil,⟨by simp,VU,by simp,by simp⟩⟩ ?_ ?_
 . rintro d σ H2 hd ⟨o4,o5,ll,us,L,rfl,S2,nl,e2,t2,T2⟩
   have hd5:d<5:=hd;k_few
   refine ki (n:=(n:Int)) (by omega) (by omega) (λa σ H'=>∃(o5:Option V)(ll:wf)(us:List V)(L:List (List Int)),σ = [some (.ref p),some (.int (n:Int)),some (.bl g),some (.ref ll),some (.int (d:Int)),o5,none,none,none]/\af H H'/\H ll=none/\H' ll=some (.lst us)/\ag K H' us (L.map TZ)/\jr n d a L)
     ⟨_,ll,us,L,rfl,S2,nl,e2,t2,T2⟩ ?_ ?_
   . rintro a σ H3 ha ⟨o5,ll,us,L,rfl,S3,nl,e3,t3,T3⟩
     have ha:a<n:=by omega
     o_head kW (n:=(n:Int)) (by omega) (by omega) (λD j ys σ' H'=>(∃o,σ'=[o,some (.int (a:Int)),some (.int (d:Int))])/\H3 D=none/\af H3 H'/\H' D=some (.lst ys)/\ag K H' ys ((dq a d j).map TZ)) (λD H' n s e=>⟨⟨_,rfl⟩,n,s,e,.nil⟩) ?_ ?_
     . rintro D j ys σ' H4 hj ⟨⟨o,rfl⟩,nD,S4,eD,t4⟩
       have hj:j<n:=by omega
       have hyl:ys.length<=j:=by
         have:=t4.length;rw[wd]at this;have:=og a d j;omega
       k_few
       . rename_i z
         refine cC (ds:=[.int (a:Int),.int (j:Int),.int (d:Int)]) (by simp) (.cons (bN.mpr rfl) (.cons (bN.mpr rfl) (.cons (bN.mpr rfl) .nil))) (λv5 H5 S5 i5=>?_);refine dC (S5 _ _ eD) (by omega) (λH6 E6 e6=>⟨⟨_,rfl⟩,nD,(S4.trans S5).grow nD E6,e6,?_⟩);have k6:=E6.keep (S5 _ _ eD);rw[rp,if_neg (by intro e;exact z (by omega)),wL];exact(ag.keep (S5.keep.trans k6) _ _ (eM _) t4).append (.cons (Is.fU (ns:=[(a:Int),(j:Int),(d:Int)]) i5 k6) .nil)
       . rename_i z
         refine⟨ys,⟨_,rfl⟩,nD,S4,eD,?_⟩;rw[rp,if_pos (by omega),vT];exact t4
     . rintro D ys σ' H4 ⟨_,nD,S4,eD,t4⟩
       rw[wH]at t4
       have hyl:ys.length<=n:=by
         have:=t4.length;rw[wd]at this;have:=og a d n;omega
       have hul:us.length=L.length:=by rw[t3.length,wd]
       have hLl:=T3.len;o_head Mq (S4 _ _ e3) eD (VX (jG (by omega))) (λl5 H5 n5 S5 e5=>?_);have S35:=S4.trans S5;o_head ⟨_,l5,us++ys,L++dq a d n,rfl,S3.trans S35,oB (S3.trans S4) n5,e5,?_,T3.row h8 ha (by omega)⟩;rw[wL];exact(ag.same S35 _ _ t3).append (ag.same S5 _ _ t4)
   . rintro σ H3 ⟨o5,ll,us,L,rfl,S3,nl,e3,t3,T3⟩
     refine⟨_,_,ll,us,L,rfl,S3,nl,e3,t3,?_⟩;exact T3.up h8
 . rintro σ H2 ⟨o4,o5,ll,us,L,rfl,S2,nl,e2,t2,T2⟩
   have hLl:=T2.len;have hul:us.length=L.length:=by rw[t2.length,wd]
   have P2:=hp.same S2;have dS:ll≠p:=aX.ne nl hp;wtm_at "ga";rename_i l3 H3 n3 S3 e3 r4 H4 r40 r41 E4 K4 P4 near hnear lt H5 n5 S5 e5;have nltp:lt≠p:=aX.ne n5 P4;have E25:Exc p H2 H5:=S3.exc.trans (E4.trans S5.exc);have K25:aO H2 H5:=S3.keep.trans (K4.trans S5.keep);have el5:=E25.at dS e2;have t5:ag K H5 us (L.map TZ):=ag.keep K25 _ _ (eM _) t2;have P5:=P4.same S5;have E05:Exc p H H5:=S2.exc.trans E25;have K05:aO H H5:=S2.keep.trans K25
   have nlt0:H lt=none:=by
     cases z:H lt with
     | none=>rfl
     | some o=>rw[(S2.exc.trans (S3.exc.trans E4)) lt o nltp z]at n5;cases n5
   have nll:ll≠lt:=λz=>by
     subst z;rw[(S3.exc.trans E4).at dS e2]at n5;cases n5
   clear S3 E4 K4 P4 S5 e3 n3 E25 K25 n5;refine dU (.of el5) ?_;wtm_at "ga";rename_i l6 H6 n6 S6 e6 m hm r7 H7 r70 r71 E7 K7 P7 c7 c71 c72 c73;have E57:Exc p H5 H7:=S6.exc.trans E7;have K57:aO H5 H7:=S6.keep.trans K7;have el7:=E57.at dS el5;have et7:=E57.at nltp e5;have t7:ag K H7 us (L.map TZ):=ag.keep K57 _ _ (eM _) t5;have E07:=E05.trans E57;have K07:=K05.trans K57;have hm61:m<=61:=by omega
   clear S6 E7 K7 e6 n6 E57 K57 el5 e5 t5 E05 K05 P5
   refine ki (n:=c7) (by omega) (by omega) (λi σ H'=>∃(o8:Option V)(us vs:List V)(L T:List (List Int)),σ = [some (.ref p),some (.int (n:Int)),some (.bl g),some (.ref ll),o4,o5,some (.int near),some (.ref lt),o8]/\(∀b o,b≠p->H b=some o->H' b=some o)/\aO H H'/\aX H' p k/\H' ll=some (.lst us)/\H' lt=some (.lst vs)/\ag K H' us (L.map TZ)/\ag K H' vs (T.map TZ)/\(∀t∈T++L,dN n t)/\(T++L).Nodup/\T.length=i/\c7<=(L.length:Int)+i/\L.length<=280)
     ⟨_,us,[],L,[],rfl,E07,K07,P7,el7,et7,t7,.nil,T2.ok,T2.nd,rfl,by omega,by omega⟩ ?_ ?_
   . rintro i σ H8 hi ⟨o8,us,vs,L,T,rfl,X8,K8,P8,el8,et8,tl8,tt8,ok8,nd8,hT8,hc8,hL8⟩
     have hul:us.length=L.length:=by rw[tl8.length,wd]
     have hvl:vs.length=T.length:=by rw[tt8.length,wd]
     have hi60:i<61:=by omega
     have hL1:1<=L.length:=by omega
     o_head fK (.of et8) ?_;o_head fK (.of el8) ?_;o_head dU (.of el8) ?_;rw[hul]
     have hq:0<=((L.length:Int)-1).fdiv near/\((L.length:Int)-1).fdiv near<=(L.length:Int)-1:=by
       rcases hnear with rfl | rfl
       . rw[Int.fdiv_one];omega
       . rw[VH _ (by decide)];omega
     generalize hqq:((L.length:Int)-1).fdiv near=qq at hq;o_head kz ⟨by omega,(Bd.jP (by omega) (by omega)).mono (by decide)⟩ ?_;rw[hqq];k_few;rename_i r9 H9 r90 r91 E9 K9 P9;have el9:=E9.at dS el8;have et9:=E9.at nltp et8;refine Lj el9 r90 (by omega) (by omega) (λy H10 hy E10 e10=>?_);have hr:r9.toNat<L.length:=by omega
     have K10:=E10.keep el9;have et10:=E10.at (Wz nll) et9;o_head jv et10 (by omega) (λH11 E11 e11=>?_);have K11:=E11.keep et10;have K811:=K9.trans (K10.trans K11);k_few;obtain⟨hj,iy⟩:=cQ tl8 hy
     have iy':Is K H8 y (TZ L[r9.toNat]):=by
       rw[wa,wz,wc hr]at iy;exact iy
     have pm:(L[r9.toNat]::L.eraseIdx r9.toNat).Perm L:=L2.pW L r9.toNat hr
     have pm2:((T++[L[r9.toNat]])++L.eraseIdx r9.toNat).Perm (T++L):=by
       rw[Vo];exact Xv T pm
     refine⟨_,us.eraseIdx r9.toNat,vs++[y],L.eraseIdx r9.toNat,T++[L[r9.toNat]],rfl,λb o hb h=>?_,K8.trans K811,?_,E11.at nll e10,e11,?_,?_,λt ht=>ok8 t (pm2.mem_iff.mp ht),pm2.nodup_iff.mpr nd8,by rw[wS,hT8];rfl,?_,?_⟩
     . exact E11 b o (cW h nlt0) (E10 b o (cW h nl) (E9 b o hb (X8 b o hb h)))
     . exact(P9.exc E10 (Wz dS)).exc E11 (Wz nltp)
     . rw[<- mi]
       exact ag.keep K811 _ _ (by rw[mi];exact eM _) (tl8.erase _)
     . rw[wL]
       exact(ag.keep K811 _ _ (eM _) tt8).append (.cons (iy'.fU K811) .nil)
     . rw[XE,if_pos hr];omega
     . rw[XE,if_pos hr];omega
   . rintro σ H8 ⟨o8,us,vs,L,T,rfl,X8,K8,P8,el8,et8,tl8,tt8,ok8,nd8,hT8,hc8,hL8⟩
     k_few;exact q lt H8 vs T X8 K8 P8 et8 tt8 (λt ht=>ok8 t (WJ _ ht)) (Qy.mp nd8).1 (by rw[hT8];omega)
def Po(K:wb):Sp:=λvs H Q _=>∃x0 x1,vs=[x0,x1] /\ ∃(p:wf)(k m:Int),x0=.ref p/\x1=.int m/\aX H p k/\1<=m/\m<=8 /\ ∀v H' rs us ts,Exc p H H'->aO H H'->aX H' p k->Is K H' v (bI rs us ts)->bF rs us ts->Q v H'
theorem Yz{K:wb}{H:Hp}{Q:VK}{E:XK}{p:wf}{k m:Int}(h:aX H p k)(h1:1<=m)(h8:m<=8)(q:∀v H' rs us ts,Exc p H H'->aO H H'->aX H' p k->Is K H' v (bI rs us ts)->bF rs us ts->Q v H'):Po K [.ref p,.int m] H Q E:=⟨_,_,rfl,p,k,m,rfl,rfl,h,h1,h8,q⟩
structure yM(rs:List Int)(us:List (List Int)):Prop where
 l:us.length<=rs.length
 u:∀i,i<us.length->((us.getD i []).length:Int)=rs.getD i 0 /\ ∀x∈us.getD i [],0<=x/\x<=60
theorem zw1{α : Type}{xs:List α}{x d : α}{i:Nat}(h:i<xs.length+1):(xs++[x]).getD i d=if i<xs.length then xs.getD i d else x:=by
 rw[wa,XF]
 split
 ·rw[wa]
 ·have:i-xs.length=0:=by omega
  rw[this];rfl
theorem yM.add{rs:List Int}{us:List (List Int)}{u:List Int}(h:yM rs us)(hl:us.length<rs.length)(h1:(u.length:Int)=rs.getD us.length 0)(h2:∀x∈u,0<=x/\x<=60):yM rs (us++[u]):=by
 refine⟨by rw[wS];exact hl,λi hi=>?_⟩;rw[wS,Vj]at hi;rw[zw1 hi]
 split
 ·rename_i z;exact h.u i z
 ·rename_i z
  have e:i=us.length:=by omega
  subst e;exact⟨h1,h2⟩
theorem Zx(T:Txt K mg a):aM P w K mg base aR 3 a.H_ a.GU Ak (Po K):=by
 refine T.Ha.F.ok kB ?_ ?_;wtm_at "b2"
 refine⟨_,(ah (aD 2 kB.nd (eW (show aJ _ (wW .Eq) (dW K)from fN hu) (ak (dR T) hr T.dF (aa (pv 0) (aa aC ae))) aC (bD _)))
     (ah (aD 3 kB.nd (aK dD aC (ak (dR T) hr T.dF (aa (pv 0) (aa (cG bM (cS (aa (pv 1) (aa aC ae))) (b_ B4 rfl T.z_int tJ (aa (pv 2) ae)) (λ_ _=>rfl)) ae)))))
     (ah (lh (i:=4) kB.nd rfl (Or.inl rfl) rfl (bc.by (N':=["_law_k","_law_pen_here","_law_great"]) (src:=[none,some 0,some 2]) rfl (show bG _ (au oK).names tF ["_law_k","_law_pen_here","_law_great"] [none,some 0,some 2]=true from by decide +kernel)) (fb rfl T.z_range (aa (pv 3) ae)) (λ_ _ _ _ _=>(aN (i:=0) (show(["_law_k","_law_pen_here","_law_great"]:List Str).Nodup from by decide) rfl (Or.inl rfl))) (λ_ _ _ _ _=>cy) (λ_ _ _ _ _=>by exact(aK dD aC (ak (dR (K:=K) (mg:=mg) (a:=a) T) hr T.dF (aa (pv 1) (aa (cG (show dP _ (bL K)from bM) (Tq (K:=K) rfl (aa aC (aa aC ae))) (b_ B4 rfl T.z_int tJ (aa (pv 2) ae)) (λ_ _=>rfl)) ae))))))
     (ah (aD 5 kB.nd (cS ae))
     (ah (dG vE rfl (e_ (pv 4)) (aN (i:=6) kB.nd rfl (Or.inl rfl)) (ah (aD 7 kB.nd (cG bM (cS (aa aC (aa (aU (show ay _ (.builtin "min") Aj from Nt rfl) rfl T.z_min IS (aa (aK dD (pv 6) aC) (aa aC ae))) (aa aC (aa aC ae))))) (ak (dR T) hr T.dF (aa (pv 0) (aa aC ae))) (λ_ _=>rfl)))
     (aq (h_ (fS vI Wd We hV (pv 5) (aa (b_ (show ay _ (.type "tuple") (bQ K)from cA) rfl T.z_tuple cf (aa (cn rfl (bc.by (N':=["_law_p","_law_pen_here","_law_high"]) (src:=[none,some 0,some 7]) rfl (show bG _ (au oK).names tF ["_law_p","_law_pen_here","_law_high"] [none,some 0,some 7]=true from by decide +kernel)) (fb rfl T.z_range (aa (pv 6) ae)) (λ_ _ _ _ _=>(aN (i:=0) (show(["_law_p","_law_pen_here","_law_high"]:List Str).Nodup from by decide) rfl (Or.inl rfl))) (λ_ _ _ _ _=>cy) (λ_ _ _ _ _=>by exact(ak (dR (K:=K) (mg:=mg) (a:=a) T) hr T.dF (aa (pv 1) (aa (pv 2) ae))))) ae)) ae))))))
     (aq (aH (b9 (aa (b_ (show ay _ (.type "tuple") (bQ K)from cA) rfl T.z_tuple cf (aa (pv 4) ae)) (aa (b_ (show ay _ (.type "tuple") (bQ K)from cA) rfl T.z_tuple cf (aa (pv 5) ae)) (aa (b_ (show ay _ (.type "tuple") (bQ K)from cA) rfl T.z_tuple cf (aa (ak (zpK T) hr T.GS (aa (pv 0) (aa (pv 3) (aa (pv 2) ae)))) ae)) ae))))))))))),?_⟩
 wtm_at "cl";rw[show start tF [x0,x1]=[some x0,some x1,none,none,none,none,none,none]from rfl];obtain⟨p,k,m,rfl,rfl,hp,m1,m8,q⟩:=h;wtm_at "ga";rename_i r1 H1 r10 r11 E1 K1 P1 l2 H2 n2 S2 e2 z hz r3 H3 r30 r31 E3 K3 P3;generalize decide (r1=5)=g at *;obtain⟨n,hn⟩:∃n:Nat,1+r3=(n:Int):=⟨(1+r3).toNat,by omega⟩;rw[hn];have n1:1<=n:=by omega
 have n8:n<=8:=by omega
 have E03:Exc p H H3:=E1.trans (S2.exc.trans E3);have K03:aO H H3:=K1.trans (S2.keep.trans K3);clear E1 K1 P1 S2 e2 n2 E3 K3 hz r10 r11 r30 r31 hn;refine kW (n:=(n:Int)) (by omega) (by omega) (λD i ys σ' H'=>(∃o,σ'=[o,some (.ref p),some (.bl g)])/\H3 D=none/\Exc p H3 H'/\aO H3 H'/\aX H' p k /\ ∃rs:List Int,H' D=some (.lst (rs.map V.int))/\rs.length=i /\ ∀r∈rs,1<=r/\r<=60) (λD H' n s e=>⟨⟨_,rfl⟩,n,s.exc,s.keep,P3.same s,[],e,rfl,by simp⟩) ?_ ?_
 . rintro D i ys σ' H4 hi ⟨⟨o,rfl⟩,nD,E4,K4,P4,rs,eD,hl,hr⟩
   have hi8:i<n:=by omega
   have nDp:D≠p:=aX.ne nD P3;wtm_at "ga";rename_i l5 H5 n5 S5 e5 z5 hz5 r6 H6 r60 r61 E6 K6 P6;have eD6:=E6.at nDp (S5 _ _ eD);refine dC eD6 (by rw[wd];omega) (λH7 E7 e7=>⟨⟨_,rfl⟩,nD,λb o hb h=>?_,K4.trans (S5.keep.trans (K6.trans (E7.keep eD6))),P6.exc E7 (Wz nDp),rs++[1+r6],by rw[wL];exact e7,by rw[wS,hl];rfl,λr hm=>?_⟩)
   . exact E7 b o (cW h nD) (E6 b o hb (S5 b o (E4 b o hb h)))
   . rcases vR.mp hm with h | h
     . exact hr r h
     . rw[vv.mp h];omega
 . rintro ls ys σ' H4 ⟨_,nls,E4,K4,P4,rs,els,hl,hr⟩
   rw[wH]at hl;have nlsp:ls≠p:=aX.ne nls P3;have E04:=E03.trans E4;have K04:=K03.trans K4
   have nls0:H ls=none:=by
     cases z:H ls with
     | none=>rfl
     | some o=>rw[E03 ls o nlsp z]at nls;cases nls
   clear E4 K4 P3 nls E03 K03;wtm_at "ga";rename_i lu H5 n5 S5 e5;have nlup:lu≠p:=aX.ne n5 P4;have nlu:ls≠lu:=λz=>by subst z;rw[els]at n5;cases n5
   have nlu0:H lu=none:=by
     cases z:H lu with
     | none=>rfl
     | some o=>rw[E04 lu o nlup z]at n5;cases n5
   have els5:=S5 _ _ els
   refine Am (aG.of els5) (λi σ H'=>∃(o6 o7:Option V)(us:List V)(u:List (List Int)),σ = [some (.ref p),some (.int m),some (.bl g),some (.int (n:Int)),some (.ref ls),some (.ref lu),o6,o7]/\(∀b o,b≠p->H b=some o->H' b=some o)/\aO H H'/\aX H' p k/\H' ls=some (.lst (rs.map V.int))/\H' lu=some (.lst us)/\ag K H' us (u.map TZ)/\u.length=i/\yM rs u)
     ⟨_,_,[],[],rfl,E04.trans S5.exc,K04.trans S5.keep,P4.same S5,els5,e5,.nil,rfl,⟨by simp,by simp⟩⟩ (λi σ H' _ ⟨_,_,_,_,_,_,_,_,e,_⟩=>.of e) ?_ ?_
   . rintro i x σ H6 hx ⟨o6,o7,us,u,rfl,X6,K6,P6,els6,elu6,t6,hu6,U6⟩
     obtain⟨hi,rfl⟩:=int_at hx;have hul:us.length=u.length:=by rw[t6.length,wd]
     have hri:=hr (rs.getD i 0) (GM.getD_mem hi);generalize hri':rs.getD i 0=r at *;obtain⟨c,rfl⟩:=qf (show 0<=r by omega);wtm_at "ga";rename_i b1 b2 b3 b4 l7 H7 n7 S7 e7 r8 H8 r80 r81 E8 K8 P8 hi9 hhi9;have h9:1<=hi9/\hi9<=61:=by omega
     have X8:∀b o,b≠p->H b=some o->H8 b=some o:=λb o hb h=>E8 b o hb (S7 b o (X6 b o hb h))
     have K68:=S7.keep.trans K8;have els8:=E8.at nlsp (S7 _ _ els6);have elu8:=E8.at nlup (S7 _ _ elu6);have t8:ag K H8 us (u.map TZ):=ag.keep K68 _ _ (eM _) t6;have K08:=K6.trans K68;clear S7 E8 K8 e7 n7 hhi9 r80 r81 t6 X6 K6 P6 els6 elu6 K68;refine fK (.of elu8) ?_;o_head kW (n:=(c:Int)) (by omega) (by omega) (λD j ys σ' H'=>(∃o,σ'=[o,some (.ref p),some (.int hi9)])/\H8 D=none/\Exc p H8 H'/\aO H8 H'/\aX H' p k /\ ∃ws:List Int,H' D=some (.lst (ws.map V.int))/\ws.length=j /\ ∀x∈ws,0<=x/\x<=60) (λD H' n s e=>⟨⟨_,rfl⟩,n,s.exc,s.keep,P8.same s,[],e,rfl,by simp⟩) ?_ ?_
     . rintro D j ys σ' H9 hj ⟨⟨o,rfl⟩,nD,E9,K9,P9,ws,eD,hwl,hw⟩
       have nDp:D≠p:=aX.ne nD P8;k_few;rename_i r10 H10 r100 r101 E10 K10 P10;have eD10:=E10.at nDp eD;refine dC eD10 (by rw[wd];omega) (λH11 E11 e11=>⟨⟨_,rfl⟩,nD,λb o hb h=>?_,K9.trans (K10.trans (E11.keep eD10)),P10.exc E11 (Wz nDp),ws++[r10],by rw[wL];exact e11,by rw[wS,hwl];rfl,λx hm=>?_⟩)
       . exact E11 b o (cW h nD) (E10 b o hb (E9 b o hb h))
       . rcases vR.mp hm with h | h
         . exact hw x h
         . rw[vv.mp h];omega
     . rintro D ys σ' H9 ⟨_,nD,E9,K9,P9,ws,eD,hwl,hw⟩
       rw[wH]at hwl;have nDp:D≠p:=aX.ne nD P8;o_head gm (.of eD) (λl10 H10 n10 S10 e10=>?_);have elu10:=S10 _ _ (E9.at nlup elu8);o_head jv elu10 (by omega) (λH11 E11 e11=>?_);have K11:=E11.keep elu10;have K811:=K9.trans (S10.keep.trans K11);o_head ⟨_,_,us++[.ref l10],u++[ws],rfl,λb o hb h=>?_,K08.trans K811,(P9.same S10).exc E11 (Wz nlup),E11.at nlu (S10 _ _ (E9.at nlsp els8)),e11,?_,by rw[wS,hu6];rfl,U6.add (by omega) (by rw[hwl,hu6,hri']) hw⟩
       . exact E11 b o (cW h nlu0) (S10 b o (E9 b o hb (X8 b o hb h)))
       . rw[wL]
         exact(ag.keep K811 _ _ (eM _) t8).append (.cons (Is.fU (eY.mpr ⟨l10,rfl,.of e10⟩) K11) .nil)
   . rintro σ H6 ⟨o6,o7,us,u,rfl,X6,K6,P6,els6,elu6,t6,hu6,U6⟩
     rw[wd]at hu6;o_head gm (.of els6) (λl7 H7 n7 S7 e7=>?_);have i7:Is K H7 (.ref l7) (TZ rs):=eY.mpr ⟨l7,rfl,.of e7⟩;o_head fj (aW.mpr ⟨lu,us,rfl,.of (S7 _ _ elu6),ag.same S7 _ _ t6⟩) (λw8 H8 S8 i8=>?_);o_head zpg ((P6.same S7).same S8) n8 (λl9 H9 vs ts E9 K9 P9 e9 t9 aB hnd h60=>?_);o_head fj (aW.mpr ⟨l9,vs,rfl,.of e9,t9⟩) (λw10 H10 S10 i10=>?_);k_few;have K810:=K9.trans S10.keep;have i8:Is K H8 w8 (cv u):=i8;have i10:Is K H10 w10 (cv ts):=i10;refine cC (ds:=[TZ rs,cv u,cv ts]) (by simp) (.cons ((i7.by S8).fU K810) (.cons (i8.eX K810 (sT _)) (.cons i10 .nil))) (λv11 H11 S11 i11=>?_);have X11:Exc p H H11:=λb o hb h=>S11 b o (S10 b o (E9 b o hb (S8 b o (S7 b o (X6 b o hb h)))))
     refine q v11 H11 rs u ts X11 (K6.trans (S7.keep.trans (S8.keep.trans (K810.trans S11.keep)))) ((P9.same S10).same S11) i11 ⟨by omega,by omega,hr,hu6,λi hi=>U6.u i (by omega),h60,?_,hnd⟩;rw[hl];exact aB
def IX(K:wb):Sp:=λvs H Q _=>∃x0 x1,vs=[x0,x1] /\ ∃(p:wf)(k:Int)(rs:List Int)(us ts:List (List Int)),x0=.ref p/\aX H p k/\Is K H x1 (bI rs us ts)/\bF rs us ts /\ ∀v H' ps,Exc p H H'->aO H H'->aX H' p k->Is K H' v (aY ps (bj rs.length))->ps.length=rs.length->(∀i,i<rs.length->0<=ps.getD i 0/\ps.getD i 0<rs.getD i 0)->Q v H'
theorem znT{K:wb}{H:Hp}{Q:VK}{E:XK}{p:wf}{k:Int}{v:V}{rs:List Int}{us ts:List (List Int)}(h:aX H p k)(h1:Is K H v (bI rs us ts))(ok:bF rs us ts)(q:∀v H' ps,Exc p H H'->aO H H'->aX H' p k->Is K H' v (aY ps (bj rs.length))->ps.length=rs.length->(∀i,i<rs.length->0<=ps.getD i 0/\ps.getD i 0<rs.getD i 0)->Q v H'):IX K [.ref p,v] H Q E:=⟨_,_,rfl,p,k,rs,us,ts,rfl,h,h1,ok,q⟩
theorem zuI{xs:List Int}{x:Int}{i:Nat}(h:i<xs.length+1):(xs++[x]).getD i 0=if i<xs.length then xs.getD i 0 else x:=by
 rw[wa,XF]
 split
 ·rw[wa]
 ·have:i-xs.length=0:=by omega
  rw[this];rfl
theorem znX(T:Txt K mg a):aM P w K mg base aR 2 a.G8 a.F7 rX (IX K):=by
 refine T.Gs.F.ok oX ?_ ?_;wtm_at "b2"
 refine⟨_,(ah (aD 2 oX.nd (ak (dR T) hr T.dF (aa (pv 0) (aa aC ae))))
     (ah (aD 3 oX.nd (cS ae))
     (ah (dG vE rfl (gQ (aA (pv 1))) (aN (i:=4) oX.nd rfl (Or.inl rfl)) (ah (aD 5 oX.nd (ak (dR T) hr T.dF (aa (pv 0) (aa (pv 4) ae))))
     (aq (h_ (fS vI Wd We hV (pv 3) (aa (cG bM (cS (aa (pv 5) (aa (pv 5) (aa (pv 5) (aa (pv 5) (aa aC (aa (aK AA (pv 4) aC) ae))))))) (pv 2) (λ_ _=>rfl)) ae))))))
     (aq (aH (b9 (aa (b_ (show ay _ (.type "tuple") (bQ K)from cA) rfl T.z_tuple cf (aa (pv 3) ae)) (aa (aK (show aJ _ (WH .Mult) (pK K)from Ld) (b9 (aa (aK (show aJ _ (WH .Mult) (pK K)from Ld) (b9 (aa aC ae)) (aU (show ay _ (.builtin "len") (bB K)from bX) rfl T.z_len bR (aa (pv 3) ae))) ae)) aC) ae)))))))),?_⟩
 wtm_at "cl";rw[show start L8 [x0,x1]=[some x0,some x1,none,none,none,none]from rfl];obtain⟨p,k,rs,us,ts,rfl,hp,hw,ok,q⟩:=h;have n8:=ok.n8;have n1:=ok.n1;wtm_at "ga";rename_i wy H1 w0 w1 E1 K1 P1 lf H2 n2 S2 e2;have dS:lf≠p:=aX.ne n2 P1
 have nlf0:H lf=none:=by
   cases z:H lf with
   | none=>rfl
   | some o=>rw[E1 lf o dS z]at n2;cases n2
 have K02:=K1.trans S2.keep;refine iP (hw.lS K02) (λx3 i3=>?_);obtain⟨ar,rfl,hsr⟩:=eY.mp i3
 refine CS hsr (λi σ H'=>∃(o4 o5:Option V)(ps:List Int),σ = [some (.ref p),some x1,some (.int wy),some (.ref lf),o4,o5]/\Exc p H H'/\aO H H'/\aO H2 H'/\aX H' p k/\H' lf=some (.lst (ps.map V.int))/\ps.length=i /\ ∀j,j<ps.length->0<=ps.getD j 0/\ps.getD j 0<rs.getD j 0)
   ⟨_,_,[],rfl,E1.trans S2.exc,K02,aO.refl _,P1.same S2,e2,rfl,by simp⟩ (λi σ H' _ ⟨_,_,_,_,_,_,k,_⟩=>k.d9 hsr) ?_ ?_
 . rintro i x σ H3 hx ⟨o4,o5,ps,rfl,X3,K3,L3,P3,e3,hpl,hps⟩
   obtain⟨hi,rfl⟩:=int_at hx;have hr:=ok.ri hi;k_few;rename_i d4 H4 d40 d41 E4 K4 P4;refine fK (.of (E4.at dS e3)) ?_;wtm_at "ga";rename_i l5 H5 n5 S5 e5 z5 hz5;have e35:=S5 _ _ (E4.at dS e3);refine jv e35 (by rw[wd];omega) (λH6 E6 e6=>?_);have k6:=E6.keep e35;o_head ⟨_,_,ps++[z5],rfl,λb o hb h=>E6 b o (cW h nlf0) (S5 b o (E4 b o hb (X3 b o hb h))),K3.trans (K4.trans (S5.keep.trans k6)),L3.trans (K4.trans (S5.keep.trans k6)),(P4.same S5).exc E6 (Wz dS),by rw[wL];exact e6,by rw[wS,hpl];rfl,λj hj=>?_⟩;rw[wS,Vj]at hj;rw[zuI hj]
   split
   . rename_i z;exact hps j z
   . have e:j=i:=by omega
     subst e;omega
 . rintro σ H3 ⟨o4,o5,ps,rfl,X3,K3,L3,P3,e3,hpl,hps⟩
   rw[wd]at hpl;o_head gm (.of e3) (λl4 H4 n4 S4 e4=>?_);o_head cC (ds:=[.int 0]) (by simp) (.cons (bN.mpr rfl) .nil) (λv5 H5 S5 i5=>?_);o_head dU (.of (S5 _ _ (S4 _ _ e3))) ?_;rw[wd,hpl];refine Oa i5 (by omega) (by omega) (λv6 H6 S6 i6=>?_);k_few;rw[wH]at i6;refine cC (ds:=[.tuple (wm rs.length (.int 0))]) (by simp) (.cons i6 .nil) (λv7 H7 S7 i7=>?_);o_head Oa i7 (by decide) (by decide) (λv8 H8 S8 i8=>?_);k_few;have T8:=S5.trans (S6.trans (S7.trans S8))
   have i8':Is K H8 v8 (cv (bj rs.length)):=by
     unfold cv bj TZ;rw[Qm,Qm];exact i8
   have i4:Is K H8 (.ref l4) (TZ ps):=eY.mpr ⟨l4,rfl,.of (T8 _ _ e4)⟩;refine cC (ds:=[TZ ps,cv (bj rs.length)]) (by simp) (.cons i4 (.cons i8' .nil)) (λv9 H9 S9 i9=>?_);have T9:=S4.trans (T8.trans S9);exact q v9 H9 ps (X3.trans T9.exc) (K3.trans T9.keep) (P3.same T9) i9 hpl (λi hi=>hps i (by omega))
def jX(n:Nat):List Int:=(wo n).map λ(w:Nat)=>(w:Int)
theorem zAx(n:Nat):vz (wo n)=(jX n).map V.int:=by unfold vz jX;rw[W3];rfl
theorem Mm(n:Nat):(jX n).length=n:=by simp[jX]
def Oz(K:wb):Sp:=λvs H Q _=>∃x0 x1,vs=[x0,x1] /\ ∃(p:wf)(k:Int)(n:Nat),x0=.ref p/\x1=.int (n:Int)/\aX H p k/\n<=8 /\ ∀(l:wf)(H':Hp)(ns:List Int),H l=none->Exc p H H'->aO H H'->aX H' p k->H' l=some (.lst (ns.map V.int))->ns.Perm (jX n)->Q (.ref l) H'
theorem RY{K:wb}{H:Hp}{Q:VK}{E:XK}{p:wf}{k:Int}{n:Nat}(h:aX H p k)(h8:n<=8)(q:∀(l:wf)(H':Hp)(ns:List Int),H l=none->Exc p H H'->aO H H'->aX H' p k->H' l=some (.lst (ns.map V.int))->ns.Perm (jX n)->Q (.ref l) H'):Oz K [.ref p,.int (n:Int)] H Q E:=⟨_,_,rfl,p,k,n,rfl,rfl,h,h8,q⟩
theorem mi:∀(ls:List Int)(j:Nat),(ls.map V.int).eraseIdx j=(ls.eraseIdx j).map V.int
 | [],_=>rfl
 | x::ls,0=>rfl
 | x::ls,j+1=>by rw[wZ,Qs,Qs,wZ,mi ls j]
theorem pW(ls:List Int){j:Nat}(hj:j<ls.length):(ls[j]::ls.eraseIdx j).Perm ls:=by
 induction ls generalizing j with
 | nil=>exact absurd hj (Wl _)
 | cons x ls ih =>
  cases j with
  | zero=>exact .refl _
  | succ j =>
   rw[Qs,Wx];exact(Xd.swap _ _ _).trans ((ih (Ww hj)).cons x)
theorem J0(T:Txt K mg a):aM P w K mg base aR 2 a.Hm a.F9 Ah (Oz K):=by
 refine T.AR.F.ok M8 ?_ ?_;wtm_at "b2"
 refine⟨_,(ah (aD 2 M8.nd (tR rfl rfl T.z_list rfl T.z_range (aa (pv 1) ae)))
     (aq (aH (cn rfl (bc.by (N':=["_law_k","_law_left","_law_pen_here"]) (src:=[none,some 2,some 0]) rfl (show bG _ (au rY).names CU ["_law_k","_law_left","_law_pen_here"] [none,some 2,some 0]=true from by decide +kernel)) (fb rfl T.z_range (aa (pv 1) ae)) (λ_ _ _ _ _=>(aN (i:=0) (show(["_law_k","_law_left","_law_pen_here"]:List Str).Nodup from by decide) rfl (Or.inl rfl))) (λ_ _ _ _ _=>cy) (λ_ _ _ _ _=>(show PE _ _ (yq K _ ER _ _)from(fS vI Xs Xu Jy (pv 1) (aa (ak (dR (K:=K) (mg:=mg) (a:=a) T) hr T.dF (aa (pv 2) (aa (aU (show ay _ (.builtin "len") (bB K)from bX) rfl T.z_len bR (aa (pv 1) ae)) ae))) ae)))))))),?_⟩
 wtm_at "cl";rw[show start CU [x0,x1]=[some x0,some x1,none]from rfl];obtain⟨p,k,n,rfl,rfl,hp,h8,q⟩:=h;o_head sL (by omega) (λll H1 n1 S1 e1=>?_);rw[zAx]at e1;have P1:=hp.same S1;have dS:ll≠p:=aX.ne n1 hp;o_head kW (n:=(n:Int)) (by omega) (by omega) (λD i ys σ' H'=>(∃o,σ'=[o,some (.ref ll),some (.ref p)])/\H1 D=none/\(∀b o,b≠p->b≠ll->H1 b=some o->H' b=some o)/\aO H1 H'/\aX H' p k /\ ∃ls ds:List Int,H' ll=some (.lst (ls.map V.int))/\H' D=some (.lst (ds.map V.int))/\ds.length=i/\(ds++ls).Perm (jX n)) ?_ ?_ ?_
 . intro D H' hn s e
   exact⟨⟨_,rfl⟩,hn,λb o _ _ h=>s b o h,s.keep,P1.same s,jX n,[],s _ _ e1,e,rfl,.refl _⟩
 . rintro D i ys σ' H2 hi ⟨⟨o,rfl⟩,nD,X2,K2,P2,ls,ds,el,ed,hdl,pm⟩
   have hi':i<n:=by omega
   have htl:ds.length+ls.length=n:=by
     have:=pm.length_eq;rw[wS,Mm]at this;exact this
   have nDp:D≠p:=aX.ne nD P1;have nDl:D≠ll:=λz=>by subst z;rw[e1]at nD;cases nD
   o_head fK (aG.of el) ?_;o_head dU (aG.of el) ?_;rw[wd];k_few;rename_i r H3 r0 r1 E3 K3 P3;have el3:=E3.at dS el;have ed3:=E3.at nDp ed;refine Lj el3 r0 (by rw[wd];exact r1) (by rw[wd];omega) (λy H4 hy E4 e4=>?_);have hr:r.toNat<ls.length:=by omega
   rw[wz,wc hr]at hy;cases hy;have K4:=E4.keep el3;have ed4:=E4 _ _ nDl ed3;have P4:aX H4 p k:=P3.exc E4 (Wz dS);rw[mi]at e4;refine dC ed4 (by rw[wd];omega) (λH5 E5 e5=>⟨⟨_,rfl⟩,nD,λb o h1 h2 h=>?_,K2.trans (K3.trans (K4.trans (E5.keep ed4))),?_,ls.eraseIdx r.toNat,ds++[ls[r.toNat]],E5 _ _ (Wz nDl) e4,by rw[wL];exact e5,by rw[wS,hdl];rfl,?_⟩)
   . have hb:b≠D:=λz=>by subst z;rw[nD]at h;cases h
     exact E5 b o hb (E4 b o h2 (E3 b o h1 (X2 b o h1 h2 h)))
   . exact P4.exc E5 (Wz nDp)
   . rw[Vo]
     exact(Xv ds (pW ls hr)).trans pm
 . rintro D ys σ' H2 ⟨_,nD,X2,K2,P2,ls,ds,el,ed,hdl,pm⟩
   have hls:ls=[]:=by
     have:=pm.length_eq;rw[wS,Mm,hdl]at this;exact WP (by omega)
   rw[hls,vT]at pm
   have nD0:H D=none:=by
     cases e:H D with
     | none=>rfl
     | some o=>rw[S1 _ _ e]at nD;cases nD
   o_head q D H2 ds nD0 (λb o h1 h=>X2 b o h1 (cW h n1) (S1 _ _ h)) (S1.keep.trans K2) P2 ed pm
def E_(K:wb):Sp:=λvs H Q _=>∃x0 x1,vs=[x0,x1] /\ ∃(t b:Int),x0=.int t/\x1=.int b/\0<=t/\0<b/\Bd 8999 b /\ ∀v H',af H H'->Is K H' v (N (vC t b))->Q v H'
theorem zr7{K:wb}{H:Hp}{Q:VK}{E:XK}{t b:Int}(ht:0<=t)(hb:0<b)(hB:Bd 8999 b)(q:∀v H',af H H'->Is K H' v (N (vC t b))->Q v H'):E_ K [.int t,.int b] H Q E:=⟨_,_,rfl,t,b,rfl,rfl,ht,hb,hB,q⟩
theorem Yq{K:wb}{H:Hp}{Q:VK}{E:XK}{t b:Int}(ht:0<=t)(hb:0<b)(h1 : -100000000000000000000000000000000000000<=t)(h2:t<=100000000000000000000000000000000000000)(h3 : -100000000000000000000000000000000000000<=b)(h4:b<=100000000000000000000000000000000000000)
  (q:∀v H' (x:Rat),af H H'->Is K H' v (N x)->x=vC t b->ai 128 x->Q v H'):E_ K [.int t,.int b] H Q E :=
 zr7 ht hb ((Bd.jP h3 h4).mono (by decide)) λv H' s h=>q v H' _ s h rfl (ai.divInt (show b≠0 by omega) (Bd.jP h1 h2) (Bd.jP h3 h4))
local macro_rules | `(tactic| wtm_at "gs")=>`(tactic| ((with_reducible apply Yq); (focus omega); (focus omega); (focus omega); (focus omega); (focus omega); (focus omega); intro _ _ _ _ _ _ _))
theorem LC(T:Txt K mg a):aM P w K mg base aR 1 a.HM a.GQ sJ (E_ K):=by
 refine T.AZ.F.ok Ce ?_ ?_;wtm_at "b2"
 refine⟨_,(ah (Jo (i:=2) (j:=3) rfl Ce.nd rfl rfl (by decide) rfl rfl (aa (pv 0) (aa (pv 1) ae)) rfl)
     (ah (nV vE (cb zc (pv 3) aC (bD _)) (aq (Jo (i:=2) (j:=3) rfl Ce.nd rfl rfl (by decide) rfl rfl (aa (pv 3) (aa (aK gu (pv 2) (pv 3)) ae)) rfl)))
     (aq (aH (b9 (aa (aK dJ (pv 0) (pv 2)) (aa (aK dJ (pv 1) (pv 2)) ae))))))),?_⟩
 wtm_at "cl";rw[show start Pu [x0,x1]=[some x0,some x1,none,none]from rfl];obtain⟨t,b,rfl,rfl,ht,hp,hB,q⟩:=h;have hb:b≠0:=by omega
 o_head Pz (λσ H'=>∃(x y:Int),σ = [some (.int t),some (.int b),some (.int x),some (.int y)]/\0<=x/\0<=y/\vK x y=vK t b/\H'=H) (λσ=>(JV σ 3).toNat) ⟨_,_,rfl,ht,by omega,rfl,rfl⟩ ?_;rintro σ H' ⟨x,y,rfl,hx,hy,hg,rfl⟩
 have hgb:Bd 8999 ((vK t b:Nat):Int):=hB.le (by
   have:vK t b ∣ b.natAbs:=Int.gcd_dvd_natAbs_right t b;have:=xu (by omega) this
   simpa using this)
 k_few
 . refine Kx ?_
   k_few;have h1:=Q0 x (show y≠0 by omega);have h2:=Ql x (show 0<y by omega);refine⟨?_,_,_,rfl,hy,h1,?_,rfl⟩
   . show(x % y).toNat<y.toNat
     omega
   . rw[<- hg];exact Nb (by omega) hx
 . rename_i h0
   have e0:y=0:=by omega
   subst e0
   have e:x=((vK t b:Nat):Int):=by
     rw[<- hg,uh];omega
   have e1:x=dv t b:=by unfold dv;rw[if_neg (by omega),<- e]
   rw[e1];have hd:l_ t (dv t b):=⟨OA hb,by unfold dv;rw[if_neg (by omega)];exact hgb⟩;refine kz hd ?_;k_few;exact oR (LD hb) (zAw hb) q
section
variable{ns:List Int}{n:Nat}
theorem iT(pm:ns.Perm (aS n)){w:Nat}(hw:w<n):ns.idxOf (w:Int)<n:=by
 have:=Wc.mpr (jw pm hw);rw[(fI pm).1]at this;exact this
theorem N7(pm:ns.Perm (aS n)){w:Nat}(hw:w<n):ns.getD (ns.idxOf (w:Int)) 0=(w:Int):=by
 have h:=Wc.mpr (jw pm hw);rw[wa,wc h];exact Vy h
theorem kO(pm:ns.Perm (aS n)){w:Nat}(hw:w<n):ns.idxOf (ns.getD w 0)=w:=by
 have h:w<ns.length:=by rw[(fI pm).1];exact hw
 rw[wa,wc h];exact kP (lB pm) h
theorem pL(pm:ns.Perm (aS n)){w:Nat}(hw:w<n):(ns.getD w 0).toNat<n/\((ns.getD w 0).toNat:Int)=ns.getD w 0:=by
 obtain⟨b,e,hb⟩:=CM pm hw;rw[e]
 simpa using hb
def bH(n:Nat)(ns:List Int)(wave:List Nat):List Nat:=(wo n).filter λw=>decide (ns.idxOf (w:Int)∈wave)
theorem oP{wave:List Nat}{w:Nat} : w∈bH n ns wave ↔ w<n/\ns.idxOf (w:Int)∈wave:=by
 unfold bH;rw[vG,wB,decide_eq_true_eq]
theorem Lb:bH n ns []=[]:=by
 unfold bH;rw[qw];intro w _;simp
theorem J5(pm:ns.Perm (aS n)){wave:List Nat}(h:wave≠[])(hl:∀w∈wave,w<n):bH n ns wave≠[]:=by
 obtain⟨x,hx⟩:=List.exists_mem_of_ne_nil _ h;have hx':=hl x hx;obtain⟨h1,h2⟩:=pL pm hx';have:(ns.getD x 0).toNat∈bH n ns wave:=oP.mpr ⟨h1,by rw[h2,kO pm hx'];exact hx⟩;intro e;rw[e]at this;cases this
def gU(n:Nat)(ns:List Int)(g g':List Nat):Prop:=∀w,w<n->(w∈g' ↔ ns.idxOf (w:Int)∈g)
theorem gU.app{g g' f f':List Nat}(h:gU n ns g g')(k:gU n ns f f'):gU n ns (g++f) (g'++f'):=λw hw=>by
 rw[vR,vR,h w hw,k w hw]
theorem nZ(wave:List Nat):gU n ns wave (bH n ns wave):=λw hw=>by
 rw[oP];exact⟨λh=>h.2,λh=>⟨hw,h⟩⟩
theorem JG{ts ts':List (List Int)}{g g':List Nat}{w d:Nat}(pm:ns.Perm (aS n))(pt:ts'.Perm (ts.map (d6 ns)))(ht:∀t∈ts,dN n t)(L:gU n ns g g')(hw:w<n):cj ts' g' w d=cj ts g (ns.idxOf (w:Int)) d:=by
 unfold cj;rw[(pt.filter _).length_eq,Ur,wd]
 congr 1
 refine Wo λt hm=>?_
 obtain⟨a,b,c,rfl,ha,hb,_⟩:=ht t hm;obtain⟨p1,p2⟩:=pL pm ha;obtain⟨r1,r2⟩:=pL pm hb
 show eU g' w d [ns.getD ((a:Int)).toNat 0,ns.getD ((b:Int)).toNat 0,(c:Int)]=eU g (ns.idxOf (w:Int)) d [(a:Int),(b:Int),(c:Int)]
 rw[wH,wH]
 have e1:decide ((ns.getD a 0).toNat∈g')=decide (a∈g):=by
  have:=L _ p1;rw[p2,kO pm ha]at this
  by_cases z:a∈g
  ·rw[decide_eq_true z,decide_eq_true (this.mpr z)]
  ·rw[decide_eq_false z,decide_eq_false λy=>z (this.mp y)]
 have e2:decide (ns.getD b 0=(w:Int))=decide ((b:Int)=((ns.idxOf (w:Int):Nat):Int)):=by
  by_cases z:ns.getD b 0=(w:Int)
  ·have:b=ns.idxOf (w:Int):=by rw[<- z,kO pm hb]
   rw[decide_eq_true z,decide_eq_true (by omega)]
  ·have:¬ (b:Int)=((ns.idxOf (w:Int):Nat):Int):=λy=>z (by
    have y:b=ns.idxOf (w:Int):=by omega
    rw[y];exact N7 pm hw)
   rw[decide_eq_false z,decide_eq_false this]
 show(decide ((ns.getD a 0).toNat∈g')&&(decide (ns.getD b 0=(w:Int))&&decide ((c:Int)=(d:Int))))=(decide (((a:Int)).toNat∈g)&&(decide ((b:Int)=((ns.idxOf (w:Int):Nat):Int))&&decide ((c:Int)=(d:Int))))
 rw[e1,e2,wH]
end
section
variable{rs ns ps cs:List Int}{us ts ts' cm:List (List Int)}
theorem OT(ok:bF rs us ts)(pm:ns.Perm (aS rs.length))(pt:ts'.Perm (ts.map (d6 ns)))(hp:ps.length=rs.length)(hc:cs.length=rs.length){g g':List Nat}(L:gU rs.length ns g g'){w:Nat}(hw:w<rs.length):cN (aj 0 ns rs) (aj [] ns us) ts' (aj 0 ns ps) (aj 0 ns cs) g' w=cN rs us ts ps cs g (ns.idxOf (w:Int)):=by
 unfold cN;rw[eZ pm rfl hw,eZ pm ok.ul hw,eZ pm hc hw,eZ pm hp hw,JG pm pt ok.t L hw]
theorem zwN(ok:bF rs us ts)(pm:ns.Perm (aS rs.length))(pt:ts'.Perm (ts.map (d6 ns)))(hp:ps.length=rs.length)(hc:cs.length=rs.length){g g':List Nat}(L:gU rs.length ns g g'):fresh (aj 0 ns rs) (aj [] ns us) ts' (aj 0 ns ps) (aj 0 ns cs) g'=bH rs.length ns (fresh rs us ts ps cs g):=by
 unfold GM.fresh bH;rw[cY];refine Wo λw hw=>?_
 have hw:=wB.mp hw;have hq:=iT pm hw;rw[OT ok pm pt hp hc L hw,eZ pm rfl hw]
 have e:(ns.idxOf (w:Int)∈(wo rs.length).filter λw=>!decide (w∈g)&&decide (rs.getD w 0<=cN rs us ts ps cs g w)) ↔ (!decide (w∈g')&&decide (rs.getD (ns.idxOf (w:Int)) 0<=cN rs us ts ps cs g (ns.idxOf (w:Int))))=true:=by
  rw[vG,wB]
  have:decide (ns.idxOf (w:Int)∈g)=decide (w∈g'):=by
   by_cases z:w∈g'
   ·rw[decide_eq_true z,decide_eq_true ((L w hw).mp z)]
   ·rw[decide_eq_false z,decide_eq_false λy=>z ((L w hw).mpr y)]
  rw[this];exact⟨λh=>h.2,λh=>⟨hq,h⟩⟩
 rw[WS,decide_eq_true_eq];exact e.symm
theorem JQ(ok:bF rs us ts)(pm:ns.Perm (aS rs.length))(pt:ts'.Perm (ts.map (d6 ns)))(hp:ps.length=rs.length)(hc:cs.length=rs.length):∀(f:Nat){g g':List Nat},gU rs.length ns g g'->fv (aj 0 ns rs) (aj [] ns us) ts' (aj 0 ns ps) (aj 0 ns cs) f g'=(fv rs us ts ps cs f g).map (bH rs.length ns)/\gU rs.length ns (dQ rs us ts ps cs f g) (dQ (aj 0 ns rs) (aj [] ns us) ts' (aj 0 ns ps) (aj 0 ns cs) f g')
 | 0,g,g',L=>⟨rfl,L⟩
 | f+1,g,g',L=>by
  have e:=zwN ok pm pt hp hc L
  by_cases z:fresh rs us ts ps cs g=[]
  ·have z':fresh (aj 0 ns rs) (aj [] ns us) ts' (aj 0 ns ps) (aj 0 ns cs) g'=[]:=by rw[e,z,Lb]
   rw[(ju z _).1,(ju z _).2,(ju z' _).1,(ju z' _).2];exact⟨rfl,L⟩
  ·have z':fresh (aj 0 ns rs) (aj [] ns us) ts' (aj 0 ns ps) (aj 0 ns cs) g'≠[]:=by rw[e];exact J5 pm z λw hw=>(pI hw).1
   have ih:=JQ ok pm pt hp hc f (g:=g++fresh rs us ts ps cs g) (g':=g'++fresh (aj 0 ns rs) (aj [] ns us) ts' (aj 0 ns ps) (aj 0 ns cs) g') (by rw[e];exact L.app (nZ _));rw[(iD z f).1,(iD z f).2,(iD z' f).1,(iD z' f).2,ih.1,wZ];exact⟨by rw[e],ih.2⟩
theorem Ds{d:Nat}(h:d<cm.length):(cm.map (aj 0 ns)).getD d []=aj 0 ns (cm.getD d []):=by
 rw[wa,wz,wc h,wa,wc h]
 rfl
theorem Ng(ok:bF rs us ts)(so:cq rs ps cm)(pm:ns.Perm (aS rs.length))(pt:ts'.Perm (ts.map (d6 ns))) :
  fq (aj 0 ns rs) (aj [] ns us) ts' (aj 0 ns ps) (cm.map (aj 0 ns))=(fq rs us ts ps cm).map (bH rs.length ns) /\
  cI (aj 0 ns rs) (aj [] ns us) ts' (aj 0 ns ps) (cm.map (aj 0 ns))=aj 0 ns (cI rs us ts ps cm) /\
  d7 (aj 0 ns rs) (aj [] ns us) ts' (aj 0 ns ps) (cm.map (aj 0 ns))=(d7 rs us ts ps cm).map (aj 0 ns):=by
 have hc:=(so.c 0 (by decide)).1;have c0:(cm.map (aj 0 ns)).getD 0 []=aj 0 ns (cm.getD 0 []):=Ds (by rw[so.cl];decide);obtain⟨h1,h2⟩:=JQ ok pm pt so.pl hc 9 (g:=[]) (g':=[]) (λw _=>by simp)
 have L:gU rs.length ns (eQ rs us ts ps cm) (eQ (aj 0 ns rs) (aj [] ns us) ts' (aj 0 ns ps) (cm.map (aj 0 ns))):=by
  unfold eQ;rw[c0];exact h2
 refine⟨by unfold fq;rw[c0];exact h1,?_,?_⟩
 ·rw[oA pm (xs:=cI rs us ts ps cm) (by simp[cI])]
  show(wo (aj 0 ns rs).length).map _=_
  rw[cY];refine vU λw hw=>?_
  have hw:=wB.mp hw;have hq:=iT pm hw;unfold cI;rw[gT hq,c0,OT ok pm pt so.pl hc L hw]
  by_cases z:ns.idxOf (w:Int)∈eQ rs us ts ps cm
  ·rw[if_pos z,if_pos ((L w hw).mpr z)]
  ·rw[if_neg z,if_neg λy=>z ((L w hw).mp y)]
 ·unfold d7 hZ
  rw[cY,W3];refine vU λd hd=>?_
  have hd:=wB.mp hd
  show _=aj 0 ns ((wo rs.length).map λw=>(cm.getD (d+1) []).getD w 0+(cj ts (eQ rs us ts ps cm) w (d+1):Int))
  refine Eq.trans ?_ (oA pm (by simp)).symm;refine vU λw hw=>?_
  have hw:=wB.mp hw;have hq:=iT pm hw;rw[gT hq,JG pm pt ok.t L hw]
  congr 1
  rcases wT (d+1) 4 with z | z
  ·rw[Ds (by rw[so.cl];exact z),eZ pm (so.c (d+1) z).1 hw]
  ·have e1:(cm.map (aj 0 ns)).getD (d+1) []=[]:=by
    rw[wa,wX (by rw[wd,so.cl];omega)];rfl
   have e2:cm.getD (d+1) []=[]:=by
    rw[wa,wX (by rw[so.cl];omega)];rfl
   rw[e1,e2];simp
theorem m4(ok:bF rs us ts)(so:cq rs ps cm)(pm:ns.Perm (aS rs.length))(pt:ts'.Perm (ts.map (d6 ns))):∀k,stN (aj 0 ns rs) (aj [] ns us) ts' (aj 0 ns ps) (cm.map (aj 0 ns)) k=(aj 0 ns (stN rs us ts ps cm k).1,(stN rs us ts ps cm k).2.map (aj 0 ns))
 | 0=>rfl
 | k+1=>by
  have ih:=m4 ok so pm pt k;have t:=Ng ok (iL ok so k) pm pt
  show(cI _ _ _ _ _,d7 _ _ _ _ _)=_
  rw[ih,t.2.1,t.2.2]
  rfl
theorem zA0(ok:bF rs us ts)(so:cq rs ps cm)(pm:ns.Perm (aS rs.length))(pt:ts'.Perm (ts.map (d6 ns)))(k:Nat):dX (aj 0 ns rs) (aj [] ns us) ts' (aj 0 ns ps) (cm.map (aj 0 ns)) k=(dX rs us ts ps cm k).map (bH rs.length ns):=by
 unfold dX;rw[m4 ok so pm pt k];exact(Ng ok (iL ok so k) pm pt).1
theorem Jx(ok:bF rs us ts)(so:cq rs ps cm)(pm:ns.Perm (aS rs.length))(pt:ts'.Perm (ts.map (d6 ns))):∀k,cx (aj 0 ns rs) (aj [] ns us) ts' (aj 0 ns ps) (cm.map (aj 0 ns)) k=(cx rs us ts ps cm k).map λr=>(r.1,r.2.map (bH rs.length ns))
 | 0=>rfl
 | k+1=>by
  rw[cx,cx,Jx ok so pm pt k,zA0 ok so pm pt k,wL]
  congr 1
  by_cases z:dX rs us ts ps cm k=[]
  ·rw[z];rfl
  ·rw[if_neg z,if_neg (by simpa using z)]
   rfl
theorem DV(ok:bF rs us ts)(so:cq rs ps cm)(pm:ns.Perm (aS rs.length))(pt:ts'.Perm (ts.map (d6 ns)))(a b:Nat):stN (aj 0 ns rs) (aj [] ns us) ts' (aj 0 ns ps) (cm.map (aj 0 ns)) a=stN (aj 0 ns rs) (aj [] ns us) ts' (aj 0 ns ps) (cm.map (aj 0 ns)) b ↔ stN rs us ts ps cm a=stN rs us ts ps cm b:=by
 rw[m4 ok so pm pt a,m4 ok so pm pt b]
 constructor
 ·intro h
  have ha:=iL ok so a;have hb:=iL ok so b;have h1:=congrArg (λx=>aj (0:Int) (dH ns rs.length) x.1) h;have h2:=congrArg (λx=>x.2.map (aj (0:Int) (dH ns rs.length))) h
  have f:∀{ps:List Int}{cm:List (List Int)},cq rs ps cm->(cm.map (aj 0 ns)).map (aj 0 (dH ns rs.length))=cm:=λ{ps cm} so=>by
   rw[W3]
   conv=>rhs;rw[<- List.map_id cm]
   refine vU λr hr=>?_
   obtain⟨d,hd,rfl⟩:=mf [] hr;exact JO pm (so.c d (by rw[<- so.cl];exact hd)).1
  simp only[f ha,f hb]at h2;have e1:∀{ps:List Int}{cm:List (List Int)},cq rs ps cm->aj (0:Int) (dH ns rs.length) (aj 0 ns ps)=ps:=λso=>JO pm so.pl
  simp only[e1 ha,e1 hb]at h1;exact Qc h1 h2
 ·intro h;rw[h]
theorem O2{f f':Nat->TB.SK}(h:∀a b,f' a=f' b ↔ f a=f b){m:Nat}(d:gq f' m):gq f m:=λa b h1 h2 e=>d a b h1 h2 ((h a b).mpr e)
theorem IL{f f':Nat->TB.SK}(h:∀a b,f' a=f' b ↔ f a=f b){i j:Nat}(r:g6 f' i j):g6 f i j:=⟨O2 h r.d,r.lt,(h i j).mp r.eq⟩
end
theorem zrw(n:Nat)(ns:List Int)(wave:List Nat):((bH n ns wave).map λ(w:Nat)=>(w:Int)).Pairwise (· <= ·):=by
 rw[WF];exact(Vv.filter _).imp λ{x y} h=>by omega
theorem Mp(n:Nat)(ns:List Int)(wave:List Nat):(bH n ns wave).Nodup:=Wn.filter _
theorem P0{n:Nat}{ns:List Int}{wave:List Nat}(pm:ns.Perm (aS n))(nd:wave.Nodup)(hl:∀w∈wave,w<n):((bH n ns wave).map λ(w:Nat)=>(w:Int)).Perm (wave.map λw=>ns.getD w 0):=by
 refine nS ?_ ?_ λz=>?_
 ·unfold Q1
  rw[WF];exact(Mp n ns wave).imp λ{x y} h e=>h (by omega)
 ·unfold Q1
  rw[WF];refine(QL.mp nd).imp λ{x y} h e=>?_
  obtain⟨hx,hy,ne⟩:=h;exact ne (by rw[<- kO pm (hl x hx),<- kO pm (hl y hy),e])
 ·rw[wQ,wQ]
  constructor
  ·rintro ⟨w,hw,rfl⟩
   obtain⟨h1,h2⟩:=oP.mp hw;exact⟨_,h2,N7 pm h1⟩
  ·rintro ⟨w,hw,rfl⟩
   obtain⟨h1,h2⟩:=pL pm (hl w hw);exact⟨_,oP.mpr ⟨h1,by rw[h2,kO pm (hl w hw)];exact hw⟩,h2⟩
theorem Rq{rs:List Int}{us ts:List (List Int)}{ps cs:List Int} : ∀(f:Nat)(g:List Nat),(fv rs us ts ps cs f g).length<=f /\ ∀w∈fv rs us ts ps cs f g,w.Nodup /\ ∀x∈w,x<rs.length
 | 0,g=>⟨wu _,λw hw=>by cases hw⟩
 | f+1,g=>by
  by_cases e:GM.fresh rs us ts ps cs g=[]
  ·rw[(ju e _).1]
   exact⟨by simp,λw hw=>by cases hw⟩
  ·rw[(iD e f).1]
   obtain⟨h1,h2⟩:=Rq (rs:=rs) (us:=us) (ts:=ts) (ps:=ps) (cs:=cs) f (g++GM.fresh rs us ts ps cs g);refine⟨by rw[vA];omega,λw hw=>?_⟩;rcases wE.mp hw with z | z
   ·subst z
    exact⟨Wn.filter _,λx hx=>(pI hx).1⟩
   ·exact h2 w z
theorem Mn{rs ps:List Int}{us ts cm:List (List Int)} : ∀k,∀r∈cx rs us ts ps cm k,r.2.length<=9 /\ ∀w∈r.2,w.Nodup /\ ∀x∈w,x<rs.length
 | 0=>λr hr=>by cases hr
 | k+1=>λr hr=>by
  rw[cx]at hr;rcases vR.mp hr with hr | hr
  ·exact Mn k r hr
  ·split at hr
   ·cases hr
   ·rw[vv.mp hr]
    exact Rq 9 []
theorem zze(r:Nat × List (List Nat)):Sh 5 (dI r):=iQ (jW ((lV _).mono (by decide)) (Pr _))
theorem zx8(r:Nat × List (List Nat)):vn (dI r) (dI r)=true:=kJ (jW (by simp[vn]) (Kc _))
theorem L5(l:List (Nat × List (List Nat))):Sh 6 (.list (l.map dI)):=v_ λd hd=>by
 obtain⟨r,_,rfl⟩:=wQ.mp hd;exact zze r
theorem OB(l:List (Nat × List (List Nat))):vn (.list (l.map dI)) (.list (l.map dI))=true:=BG λd hd=>by
 obtain⟨r,_,rfl⟩:=wQ.mp hd;exact zx8 r
theorem zAJ(rows:List (List Int)):Sh 3 (cv rows):=iQ λd hd=>by
 obtain⟨r,_,rfl⟩:=wQ.mp hd;exact Rx r
theorem OO(ps:List Int)(cm:List (List Int)):Sh 4 (aY ps cm):=iQ (jW ((Rx ps).mono (by decide)) (zAJ cm))
theorem zCp{rs ps ns:List Int}{cm:List (List Int)}(so:cq rs ps cm)(pm:ns.Perm (aS rs.length)):cq (aj 0 ns rs) (aj 0 ns ps) (cm.map (aj 0 ns)):=by
 refine⟨by rw[cY,cY];exact so.pl,λi hi=>?_,by rw[wd];exact so.cl,λd hd=>?_⟩
 ·rw[cY]at hi
  rw[eZ pm so.pl hi,eZ pm rfl hi];exact so.p _ (iT pm hi)
 ·rw[Ds (by rw[so.cl];exact hd),cY,cY]
  refine⟨(so.c d hd).1,λi hi=>?_⟩;rw[eZ pm (so.c d hd).1 hi];exact(so.c d hd).2 _ (iT pm hi)
theorem ES{rs ps:List Int}{cm:List (List Int)}(so:cq rs ps cm):∀r∈cm,r.length=ps.length:=λr hr=>by
 obtain⟨d,hd,rfl⟩:=mf [] hr;rw[so.pl];exact(so.c d (by rw[<- so.cl];exact hd)).1
def JA(K:wb):Sp:=λvs H Q _=>∃x0 x1,vs=[x0,x1] /\ ∃(ws:List (List Nat))(l:wf)(ns:List Int)(n:Nat),Is K H x0 (cR ws)/\x1=.ref l/\H l=some (.lst (ns.map V.int))/\ns.Perm (aS n)/\n<=8/\ws.length<=20/\(∀w∈ws,w.Nodup /\ ∀x∈w,x<n) /\ ∀v H',af H H'->Is K H' v (cR (ws.map (bH n ns)))->Q v H'
theorem OE{K:wb}{H:Hp}{Q:VK}{E:XK}{ws:List (List Nat)}{l:wf}{ns:List Int}{n:Nat}{v:V}(h:Is K H v (cR ws))(hl:H l=some (.lst (ns.map V.int)))(pm:ns.Perm (aS n))(h8:n<=8)(hk:ws.length<=20)(hw:∀w∈ws,w.Nodup /\ ∀x∈w,x<n)(q:∀v H',af H H'->Is K H' v (cR (ws.map (bH n ns)))->Q v H'):JA K [v,.ref l] H Q E:=⟨_,_,rfl,ws,l,ns,n,h,rfl,hl,pm,h8,hk,hw,q⟩
theorem Jb(T:Txt K mg a):aM P w K mg base aR 1 a.HU a.G4 zo (JA K):=by
 refine T.AY.F.ok zrn ?_ ?_;wtm_at "b2";refine⟨_,(aq (aH (b_ (show ay _ (.type "tuple") (bQ K)from cA) rfl T.z_tuple cf (aa (Mw rfl (bc.by (N':=["_law_wave","_law_order_here"]) (src:=[none,some 1]) rfl (show bG _ (au lX).names sx ["_law_wave","_law_order_here"] [none,some 1]=true from by decide +kernel)) (gQ (pv 0)) (λ_ _ _ _ _=>(aN (i:=0) (show(["_law_wave","_law_order_here"]:List Str).Nodup from by decide) rfl (Or.inl rfl))) (λ_ _ _ _ _=>cy) (λhcl _ _ _ _ _=>(b_ (show ay _ (.type "tuple") (bQ K)from cA) rfl T.z_tuple cf (aa (aU (show ay _ (.builtin "sorted") (rS K)from Nk) rfl T.z_sorted yF (aa (cn rfl (bc.jm (N2:=["_law_worm","_law_order_here"]) (src2:=[none,some 1]) rfl (show bG _ (yJ (au lX).kind _ (au lX).names) ["_law_wave","_law_order_here"] ["_law_worm","_law_order_here"] [none,some 1]=true from by decide +kernel) hcl) (show PI _ _ _ (rn K _)from gQ (pv 0)) (λ_ _ _ _ _=>(aN (i:=0) (show(["_law_worm","_law_order_here"]:List Str).Nodup from by decide) rfl (Or.inl rfl))) (λ_ _ _ _ _=>cy) (λ_ _ _ _ _=>(cG (show dP _ (bL K)from bM) (pv 1) (pv 0) (λ_ _=>rfl)))) ae)) ae)))) ae)))),?_⟩;wtm_at "cl";rw[show start sx [x0,x1]=[some x0,some x1]from rfl];obtain⟨ws,l,ns,n,hi,rfl,hl,pm,h8,hk,hw,q⟩:=h;have nl:=(fI pm).1;k_few;obtain⟨a1,vs,rfl,hs,tv⟩:=bz.mp hi;have lv:=tv.length;rw[wd]at lv;refine iN hs (o0:=none) (tl:=[some (.ref l)]) rfl (λj y H'=>Is K H' y (TW (bH n ns (ws.getD j [])))) ?_ ?_
 ·intro D j x ys o H1 hx inv
  obtain⟨hj,ix⟩:=cQ tv hx;rw[wd]at hj
  have ix:Is K H x (TW (ws.getD j [])):=by
   rw[wa,wz,wc hj]at ix;rw[wa,wc hj];exact ix
  obtain⟨nd,wl⟩:=hw (ws.getD j []) (by rw[wa,wc hj];exact vc hj);obtain⟨wave,ewv⟩:∃wave,wave=ws.getD j []:=⟨_,rfl⟩;rw[<- ewv]at ix nd wl;have S1:=inv.2.2.1;have wn:=GM.AW n wave nd wl;obtain⟨b1,rfl,sq⟩:=eY.mp (ix.by S1);o_head iN sq (o0:=none) (tl:=[some (.ref l)]) rfl (λm y _=>y=.int (ns.getD (wave.getD m 0) 0)) ?_ ?_
  ·intro D2 m x ys2 o2 H2 hx2 inv2
   obtain⟨hm,rfl⟩:=L2.int_at hx2;rw[wd]at hm
   have ew:(wave.map λ(w:Nat)=>(w:Int)).getD m 0=((wave.getD m 0:Nat):Int):=by
    rw[wa,wz,wc hm,wa,wc hm]
    rfl
   rw[ew];have hw2:wave.getD m 0<n:=wl _ (by rw[wa,wc hm];exact vc hm);o_head iR (v:=.int (ns.getD (wave.getD m 0) 0)) (.of (inv2.2.2.1 _ _ (S1 _ _ hl))) (jZ ?_) ?_
   ·rw[wz,wc (show wave.getD m 0<ns.length by omega),wa (l:=ns),wc (show wave.getD m 0<ns.length by omega)]
    rfl
   k_few;exact dB inv2 (by omega) (λ_ _ _ _ _ h=>h) ⟨_,rfl⟩ (af.refl _) rfl
  ·intro D2 ys2 H2 n2 S2 e2 l2 r2
   have ey:ys2=(wave.map λw=>ns.getD w 0).map V.int:=by
    refine vQ (by rw[l2];simp) λi h1 h2=>?_
    rw[r2 i ys2[i] (wc h1)];rw[wd,wd]at h2;simp[wa,wc h2]
   subst ey;o_head Lu (.of e2) (by rw[wd];omega) (λl3 H3 ms n3 S3 e3 pm3 so3=>?_);have em:=Bu (pm3.trans (P0 pm nd wl).symm) so3 (zrw n ns wave);subst em;o_head gm (.of e3) (λl4 H4 n4 S4 e4=>?_);k_few;exact dB inv (by omega) (λ_ _ _ _ s h=>h.eX s (mT _)) ⟨_,rfl⟩ (S2.trans (S3.trans S4)) (by rw[<- ewv];exact eY.mpr ⟨l4,rfl,.of e4⟩)
 ·intro D ys H1 n1 S1 e1 l1 r1
  o_head gm (.of e1) (λl4 H4 n4 S4 e4=>?_);refine q _ H4 (S1.trans S4) (bz.mpr ⟨l4,ys,rfl,.of e4,kM (by rw[l1];simp;omega) λi x hx=>?_⟩);have hi2:i<ws.length:=by rw[<- lv,<- l1];exact(vk.mp hx).1
  have:=(r1 i x hx).by S4;rw[W3,wa,wz,wc hi2];rw[wa,wc hi2]at this;exact this
def Rm(K:wb):Sp:=λvs H Q _=>∃x0 x1,vs=[x0,x1] /\ ∃(rs ps:List Int)(us ts cm:List (List Int)),Is K H x0 (bI rs us ts)/\bF rs us ts/\Is K H x1 (aY ps cm)/\cq rs ps cm /\
 (∀i j,g6 (stN rs us ts ps cm) i j->i<=80->∀v H',af H H'->yE K H H' v (stN rs us ts ps cm) i j->Q v H')/\(gq (stN rs us ts ps cm) 81->∀H',af H H'->Q .aZ H')
theorem Dm{K:wb}{H:Hp}{Q:VK}{E:XK}{v w:V}{rs ps:List Int}{us ts cm:List (List Int)}(h:Is K H v (bI rs us ts))(ok:bF rs us ts)(h2:Is K H w (aY ps cm))(so:cq rs ps cm)
  (q1:∀i j,g6 (stN rs us ts ps cm) i j->i<=80->∀v H',af H H'->yE K H H' v (stN rs us ts ps cm) i j->Q v H') (q2:gq (stN rs us ts ps cm) 81->∀H',af H H'->Q .aZ H'):Rm K [v,w] H Q E:=⟨_,_,rfl,rs,ps,us,ts,cm,h,ok,h2,so,q1,q2⟩
theorem Jf(T:Txt K mg a):aM P w K mg base aR 5 a.Hl a.Gg sW (Rm K):=by
 refine T.AS.F.ok zoG ?_ ?_;wtm_at "b2";refine⟨_,(aq (zxS (tb:=λW=>Ac (Eb (Dy K a) W (jV (gY 0) (jV (gY 1) (jV (tC (.int 80)) mJ))))) (th:=Ac (tC .aZ)) rfl rfl rfl T.G6 (λW pn E' hx=>by exact(aq (aH (zw0 (zzp T) (hr.mono (by decide)) rfl T.p8.g T.p8.F.kp T.p8.b hx (aa (pv 0) (aa (pv 1) (aa aC ae))))))) (λpn ex oe=>by exact(aq (aH oJ))))),?_⟩;wtm_at "cl";rw[show start C8 [x0,x1]=[some x0,some x1]from rfl];obtain⟨rs,ps,us,ts,cm,hw,ok,hs,so,q1,q2⟩:=h;o_head zxZ (λσ' C o H'=>σ'=[some x0,some x1]/\C=.ref a.ic/\af H H'/\gq (stN rs us ts ps cm) 81) ?_ ?_
 ·k_few
  exact zyQ hw ok hs so (by decide) (λi j rf hin v1 H1 S1 r1=>q1 i j rf hin v1 H1 S1 r1) (λdd H1 S1=>⟨rfl,rfl,S1,dd⟩)
 ·rintro σ' C o H' ⟨rfl,rfl,S,dd⟩
  refine⟨T.Sa,?_⟩;k_few;exact q2 dd H' S
theorem Zo{rs ns:List Int}{us ts ts':List (List Int)}(ok:bF rs us ts)(pm:ns.Perm (aS rs.length))(pt:ts'.Perm (ts.map (d6 ns))):bF (aj 0 ns rs) (aj [] ns us) ts':=by
 have idl:∀{w:Nat},w<rs.length->ns.idxOf (w:Int)<rs.length:=λ{w} hw=>by
  have:=Wc.mpr (jw pm hw);rw[(fI pm).1]at this;exact this
 refine⟨by rw[cY];exact ok.n1,by rw[cY];exact ok.n8,λr hr=>?_,by rw[cY,cY];exact ok.ul,λi hi=>?_,by rw[pt.length_eq,wd];exact ok.tl,λt ht=>?_,pt.nodup_iff.mpr (RK pm ok.t ok.nd)⟩
 ·rw[oA pm rfl]at hr
  obtain⟨w,hw,rfl⟩:=wQ.mp hr;exact ok.r _ (GM.getD_mem (idl (wB.mp hw)))
 ·rw[cY]at hi
  rw[eZ pm ok.ul hi,eZ pm rfl hi];exact ok.u _ (idl hi)
 ·rw[cY]
  obtain⟨x,hx,rfl⟩:=wQ.mp (pt.mem_iff.mp ht);exact TQ pm (ok.t x hx)
def MR(K:wb):Sp:=λvs H Q _=>∃x0,vs=[x0] /\ ∃(a:wf)(ns:List Int),x0=.ref a/\gG K H a (ns.map V.int)/\ns.length<=63 /\ ∀H',aO H H'->Q (.bl true) H'
theorem zi9{K:wb}{H:Hp}{Q:VK}{E:XK}{a:wf}{ns:List Int}(h:gG K H a (ns.map V.int))(hl:ns.length<=63)(q:∀H',aO H H'->Q (.bl true) H'):MR K [.ref a] H Q E:=⟨_,rfl,a,ns,rfl,h,hl,q⟩
theorem Zp(T:Txt K mg a):aM P w K mg base aR 7 a.FK a.Fv zE (MR K):=by
 refine T.FC.F.ok gw ?_ ?_;wtm_at "b1"
 refine⟨_,(ah (aD 1 gw.nd (ak (Zx T) hr T.Ha (aa (ak (CY T) hr T.pX (aa (pv 0) (aa aC ae))) (aa aC ae))))
     (ah (aD 2 gw.nd (jI (JH T) hr T.A1 kX (aa (aA (pv 1)) (aa (aA (pv 1)) (aa (aA (pv 1)) ae)))))
     (ah (aD 3 gw.nd (ak (CY T) hr T.pX (aa (pv 0) (aa aC ae))))
     (ah (aD 4 gw.nd (ak (znX T) hr T.Gs (aa (pv 3) (aa (pv 2) ae))))
     (ah (aD 5 gw.nd (ak (J0 T) hr T.AR (aa (pv 3) (aa (aU (show ay _ (.builtin "len") (bB K)from bX) rfl T.z_len bR (aa (aA (pv 2)) ae)) ae))))
     (ah (aD 6 gw.nd (ak (dR T) hr T.dF (aa (pv 3) (aa aC ae))))
     (ah (aD 7 gw.nd (jI (zjQ T) hr T.FE kX (aa (pv 2) (aa (pv 5) ae))))
     (ah (aD 8 gw.nd (jI (Ej T) hr T.pR kX (aa (pv 4) (aa (pv 5) ae))))
     (ah (lh (i:=9) gw.nd rfl (Or.inl rfl) rfl (bc.by (N':=["_law_at","_law_waves","_law_order_here"]) (src:=[none,none,some 5]) rfl (show bG _ (au kD).names yy ["_law_at","_law_waves","_law_order_here"] [none,none,some 5]=true from by decide +kernel)) (e_ (ak (CB T) hr T.p_ (aa (pv 2) (aa (pv 4) (aa (pv 6) ae))))) (λ_ _ _ _ _=>by exact(show PG _ _ (je K 2 _)from gz (n:=2) rfl (cV (aN (i:=0) (show(["_law_at","_law_waves","_law_order_here"]:List Str).Nodup from by decide) rfl (Or.inl rfl)) (cV (aN (i:=1) (show(["_law_at","_law_waves","_law_order_here"]:List Str).Nodup from by decide) rfl (Or.inl rfl)) gB)))) (λ_ _ _ _ _=>cy) (λ_ _ _ _ _=>by exact(show PE _ _ (lj K _)from b9 (aa (pv 0) (aa (ak (Jb (K:=K) (mg:=mg) (a:=a) T) hr T.AY (aa (pv 1) (aa (pv 2) ae))) ae)))))
     (ah (bZ (cb (show aJ _ (wW .NotEq) (eA K)from fF hu) (ak (CB T) hr T.p_ (aa (pv 7) (aa (pv 8) (aa (pv 6) ae)))) (pv 9) (bD _)) (aq (aH dY)) b7)
     (ah (bZ (cb (show aJ _ (wW .NotEq) (eA K)from fF hu) (ak (Ra T) hr T.AL (aa (pv 7) (aa (pv 8) (aa (pv 6) ae)))) (jI (Ej T) hr T.pR kX (aa (ak (Ra T) hr T.AL (aa (pv 2) (aa (pv 4) (aa (pv 6) ae)))) (aa (pv 5) ae))) (bD _)) (aq (aH dY)) b7)
     (ah (aD 10 gw.nd (ak (Jf T) hr T.AS (aa (pv 2) (aa (pv 4) ae))))
     (ah (aD 11 gw.nd (ak (Jf T) hr T.AS (aa (pv 7) (aa (pv 8) ae))))
     (ah (bZ (PW.pt (f_ (cb y7 (pv 10) oJ (bD _)) (hW (cb y7 (pv 11) oJ (bD _))))) (aq (aH (eS (eW y7 (pv 10) oJ (bD _)) (fY (eW y7 (pv 11) oJ (bD _)))))) b7)
     (aq (aH (eW (show aJ _ (wW .Eq) (dW K)from fN hu) (pv 11) (b_ (show ay _ (.type "tuple") (bQ K)from cA) rfl T.z_tuple cf (aa (Mw rfl (bc.by (N':=["_law_part","_law_order_here"]) (src:=[none,some 5]) rfl (show bG _ (au kD).names yy ["_law_part","_law_order_here"] [none,some 5]=true from by decide +kernel)) (gQ (pv 10)) (λ_ _ _ _ _=>(aN (i:=0) (show(["_law_part","_law_order_here"]:List Str).Nodup from by decide) rfl (Or.inl rfl))) (λ_ _ _ _ _=>cy) (λhcl _ _ _ _ _=>(cn rfl (bc.jm (N2:=["_law_one","_law_order_here"]) (src2:=[none,some 1]) rfl (show bG _ (yJ (au kD).kind _ (au kD).names) ["_law_part","_law_order_here"] ["_law_one","_law_order_here"] [none,some 1]=true from by decide +kernel) hcl) (show PI _ _ _ (zK K _)from e_ (pv 0)) (λ_ _ _ _ _=>(aN (i:=0) (show(["_law_one","_law_order_here"]:List Str).Nodup from by decide) rfl (Or.inl rfl))) (λ_ _ _ _ _=>cy) (λ_ _ _ _ _=>(jI (Ej (K:=K) (mg:=mg) (a:=a) T) hr T.pR kX (aa (pv 0) (aa (pv 1) ae))))))) ae)) (bD _)))))))))))))))))),?_⟩
 wtm_at "cl";rw[show start yy [x0]=[some x0,none,none,none,none,none,none,none,none,none,none,none]from rfl];obtain⟨a',ns0,rfl,hs,hl,q⟩:=h;o_head BQ hs hl (by decide) (by decide) (λp H1 hp1 S1 p1=>?_);o_head Yz p1 (by decide) (by decide) (λvd H2 rs us ts0 E2 K2 P2 id2 ok0=>?_);o_head iP id2 (λy0 j0=>?_);o_head DM id2 (λy1 j1=>?_);o_head Jt id2 (λy2 j2=>?_);o_head Jv (Th j0 j1 j2 ok0) (λvw H3 ts S3 pm0 so0 iw=>?_);have ok:=ok0.perm pm0;have n8:=ok.n8;have K03:aO H H3:=S1.keep.trans (K2.trans S3.keep);o_head BQ (K03.CN hs) hl (by decide) (by decide) (λp H4 hp4 S4 P4=>?_);o_head znT P4 (iw.by S4) ok (λvb H5 ps E5 K5 P5 is5 hpl hpp=>?_);have so:=P_ hpl hpp;have iw5:=(iw.by S4).lS K5;have K05:=K03.trans (S4.keep.trans K5);o_head iP iw5 (λy0 j0=>?_);o_head kR j0 ?_;o_head RY P5 (by omega) (λlo H6 ns n6 E6 K6 P6 e6 pm=>?_);have pm:ns.Perm (aS rs.length):=pm;have iw6:=iw5.lS K6;have is6:=is5.lQ K6;have K06:=K05.trans K6;have npo:lo≠p:=aX.ne n6 P5;k_few;rename_i m H7 m0 m1 E7 K7 P7;obtain⟨m,rfl⟩:=qf m0;have e7:=E7.at npo e6;have iw7:=iw6.lS K7;have is7:=is6.lQ K7;have K07:=K06.trans K7;refine zjK iw7 ok e7 pm (λvo H8 ts' S8 pt so' io=>?_);have ok':=Zo ok pm pt;o_head BR (is7.by S8) (by rw[so.pl];omega) (by rw[so.cl];decide) (ES so) (S8 _ _ e7) (by rw[so.pl];exact pm) (λvt H9 S9 it=>?_)
 have T9:=S8.trans S9;have io9:=io.by S9;have e9:=T9 _ _ e7;have iw9:=iw7.by T9;have is9:=is7.by T9;have K09:=K07.trans T9.keep;have sot:=zCp so pm;generalize bj rs.length=cm at *;o_head Bw iw9 ok is9 so (by omega) (λlr us' H10 n10 S10 e10 t10=>?_);k_few;have rin:=Mn (rs:=rs) (us:=us) (ts:=ts) (ps:=ps) (cm:=cm) m;have rl:=DZ rs us ts ps cm m;have rex:=Jx ok so pm pt m;obtain⟨R,hR⟩:∃R,R=cx rs us ts ps cm m:=⟨_,rfl⟩;rw[<- hR]at t10 rin rl rex;have lu:=t10.length;rw[wd]at lu;have e10o:=S10 _ _ e9;refine iF (.of e10) (λD i ys σ' H'=>(∃o1 o2,σ'=[o1,o2,some (.ref lo)])/\H10 D=none/\af H10 H'/\H' D=some (.lst ys)/\ag K H' ys (((R.take i).map λr=>(r.1,r.2.map (bH rs.length ns))).map dI)) ?_ ?_ ?_ ?_
 . exact λD H' n s e=>⟨⟨_,_,rfl⟩,n,s,e,.nil⟩
 . exact λD i ys σ' H' h=>.of (h.2.2.1 _ _ e10)
 . rintro D i x ys σ' H' hx ⟨⟨o1,o2,rfl⟩,nD,sD,eD,tD⟩
   obtain⟨hj,ix⟩:=cQ t10 hx;rw[wd]at hj
   have ix:Is K H10 x (dI R[i]):=by
     rw[wa,wz,wc hj]at ix;exact ix
   obtain⟨r1,r2⟩:=rin R[i] (vc hj);have lD:=tD.length;rw[wd,wd,vP]at lD;refine jJ (r_ (ds:=[.int (R[i].1:Int),cR R[i].2]) (ix.by sD) rfl λzs tz=>?_);obtain⟨z1,zr,rfl,i1,tz⟩:=ck.mp tz;obtain⟨z2,zr,rfl,i2,tz⟩:=ck.mp tz;cases dM.mp tz;cases bN.mp i1;o_head OE i2 (sD _ _ e10o) pm n8 (by omega) r2 (λv3 H3 S3 i3=>?_);o_head cC (ds:=[.int (R[i].1:Int),cR (R[i].2.map (bH rs.length ns))]) (by simp) (.cons (bN.mpr rfl) (.cons i3 .nil)) (λv4 H4 S4 i4=>?_);have T4:=S3.trans S4;refine dC (T4 _ _ eD) (by omega) (λH5 E5 e5=>⟨⟨_,_,rfl⟩,nD,(sD.trans T4).grow nD E5,e5,?_⟩);have K5:=E5.keep (T4 _ _ eD);rw[xc,wc hj,wL,wL];exact(ag.keep (T4.keep.trans K5) _ _ (Df _) tD).append (.cons (Is.eX K5 (sY (R[i].1,R[i].2.map (bH rs.length ns))) i4) .nil)
 . rintro D ys σ' H11 ⟨_,nD,S11,e11,t11⟩
   rw[Vd (by omega),<- rex]at t11;have U11:=S10.trans S11;have iw11:=iw9.by U11;have is11:=is9.by U11;have io11:=io9.by U11;have it11:=it.by U11;have eo11:=U11 _ _ e9;have K11:=K09.trans U11.keep;o_head Bw io11 ok' it11 sot (by omega) (λl2 us2 H12 n12 S12 e12 t12=>?_);o_head w_ (aW.mpr ⟨l2,us2,rfl,.of e12,t12⟩) (aW.mpr ⟨D,ys,rfl,.of (S12 _ _ e11),ag.same S12 _ _ t11⟩) (L5 _) (by decide) (OB _) ?_;o_head Mr (io11.by S12) ok' (it11.by S12) sot (by omega) (λv13 H13 S13 i13=>?_);have T13:=S12.trans S13;o_head Mr (iw11.by T13) ok (is11.by T13) so (by omega) (λv14 H14 S14 i14=>?_);have T14:=T13.trans S14;have som:=iL ok so m;o_head BR i14 (by rw[som.pl];omega) (by rw[som.cl];decide) (ES som) (T14 _ _ eo11) (by rw[som.pl];exact pm) (λv15 H15 S15 i15=>?_);have T15:=T14.trans S15;rw[m4 ok so pm pt m]at i13;o_head w_ ((i13.by S14).by S15) i15 (OO _ _) (by decide) (Pw _ _) ?_;have iw15:=iw11.by T15;have is15:=is11.by T15;have io15:=io11.by T15;have it15:=it11.by T15;have eo15:=T15 _ _ eo11;have K15:=K11.trans T15.keep;o_head Dm iw15 ok is15 so (λi j rf h80 vm H16 S16 rm=>?_) (λdd H16 S16=>?_)
   . k_few
     refine Dm (io15.by S16) ok' (it15.by S16) sot (λi' j' rf' h80' vy H17 S17 ry=>?_) (λdd' H17 S17=>?_)
     . obtain⟨rfl,rfl⟩:=(IL (DV ok so pm pt) rf').uniq rf
       obtain⟨tm,lm1,lm2,xs,ys,rfl,_,sm,_,_,_,em1,em2,tm1,tm2⟩:=rm;obtain⟨ty,ly1,ly2,xs',ys',rfl,_,sy,_,_,_,ey1,ey2,ty1,ty2⟩:=ry;have nm:¬ V.ref tm=V.aZ:=λe=>by cases e
       have ny:¬ V.ref ty=V.aZ:=λe=>by cases e
       k_few
       all_goals first | exact absurd (by assumption) nm | exact absurd (by assumption) ny | skip
       have sm17:=S17.d9 sm;have em1:=S17 _ _ em1;have em2:=S17 _ _ em2;have tm1:=ag.same S17 _ _ tm1;have tm2:=ag.same S17 _ _ tm2;have eo17:=S17 _ _ (S16 _ _ eo15);have K17:=K15.trans (S16.trans S17).keep;have hji:=rf.lt;obtain⟨f,hf⟩:∃f,f=stN rs us ts ps cm:=⟨_,rfl⟩;obtain⟨f',hf'⟩:∃f',f'=stN (aj 0 ns rs) (aj [] ns us) ts' (aj 0 ns ps) (cm.map (aj 0 ns)):=⟨_,rfl⟩;rw[<- hf]at tm1 tm2;rw[<- hf']at ty1 ty2;have fex:∀k,f' k=(aj 0 ns (f k).1,(f k).2.map (aj 0 ns)):=λk=>by rw[hf,hf'];exact m4 ok so pm pt k
       have fok:∀k,cq rs (f k).1 (f k).2:=λk=>by rw[hf];exact iL ok so k
       obtain⟨P,hP⟩:∃P:Nat->List Nat,P=λk=>if k=0 then wo j' else(wo i').drop j':=⟨_,rfl⟩
       have P80:∀k,(P k).length<=80:=λk=>by
         rw[hP]
         show(if k=0 then _ else _:List Nat).length<=80
         split
         . rw[vi];omega
         . rw[qL,vi];omega
       refine CW sm17 (λD2 k zs σ' H'=>(∃o,σ'=[o,some (.ref lo)])/\H17 D2=none/\af H17 H'/\H' D2=some (.lst zs)/\zs.length=k /\ ∀r z,zs[r]? = some z->∃b ws,z=.ref b/\b≠D2/\H' b=some (.lst ws)/\ag K H' ws ((P r).map (du f'))) ?_ ?_ ?_ ?_
       . exact λD2 H' n s e=>⟨⟨_,rfl⟩,n,s,e,rfl,λr z hz=>by simp at hz⟩
       . exact λD2 k zs σ' H' h=>h.2.2.1.d9 sm17
       . rintro D2 k x zs σ' H' hx ⟨⟨o,rfl⟩,nD,sD,eD,lz,rz⟩
         have hk:k<2:=(vk.mp hx).1
         obtain⟨lm,vs,rfl,elm,tlm⟩:∃lm vs,x=.ref lm/\H17 lm=some (.lst vs)/\ag K H17 vs ((P k).map (du f)):=by
           have:k=0\/k=1:=by omega
           rcases this with rfl | rfl
           . exact⟨lm1,xs,by simpa using hx.symm,em1,by rw[hP];exact tm1⟩
           . exact⟨lm2,ys,by simpa using hx.symm,em2,by rw[hP];exact tm2⟩
         have lvs:=tlm.length;rw[wd]at lvs;have pk:=P80 k;o_head kZ (.of (sD _ _ elm)) (o0:=none) (tl:=[some (.ref lo)]) rfl (λr y H'=>Is K H' y (du f' ((P k).getD r 0))) ?_ ?_
         . intro D3 r x2 ys2 o2 H3 hx2 inv2
           obtain⟨hr,ix⟩:=cQ tlm hx2;rw[wd]at hr
           have ix:Is K H17 x2 (du f ((P k).getD r 0)):=by
             rw[wa,wz,wc hr]at ix;rw[wa,wc hr];exact ix
           have fo:=fok ((P k).getD r 0);have s3:=sD.trans inv2.2.2.1;o_head BR (ix.by s3) (by rw[fo.pl];omega) (by rw[fo.cl];decide) (ES fo) (s3 _ _ eo17) (by rw[fo.pl];exact pm) (λv4 H4 S4 i4=>?_);k_few;exact dB inv2 (by omega) (λ_ _ _ _ s h=>h.eX s (Dd _ _)) ⟨_,rfl⟩ S4 (by unfold du;rw[fex];exact i4)
         . intro D3 ys2 H3 n3 S3 e3 l3 r3
           have eD3:=S3 _ _ eD;have n3D:D3≠D2:=λe=>by rw[e,eD]at n3;cases n3
           refine dC eD3 (by omega) (λH4 E4 e4=>⟨⟨_,rfl⟩,nD,(sD.trans S3).grow nD E4,e4,by simp[lz],λr z hz=>?_⟩);have K4:=E4.keep eD3;rcases wT r zs.length with hl2 | hl2
           . rw[Wu hl2]at hz
             obtain⟨b,ws,rfl,nb,eb,tb⟩:=rz r z hz;exact⟨b,ws,rfl,nb,E4 _ _ nb (S3 _ _ eb),ag.keep (S3.keep.trans K4) _ _ (BW f' _) tb⟩
           . rw[Wr hl2]at hz
             obtain⟨hk2,hz⟩:=vk.mp hz;have hk0:r-zs.length=0:=by simp at hk2;omega
             have hrk:r=k:=by omega
             subst hrk;have hz:z=.ref D3:=by rw[<- hz];simp[hk0]
             refine⟨D3,ys2,hz,n3D,E4 _ _ n3D e3,ag.keep K4 _ _ (BW f' _) (kM (by rw[l3,lvs];simp) λq' x' hx'=>?_)⟩;have hq:q'<(P r).length:=by rw[<- lvs,<- l3];exact(vk.mp hx').1
             have:=r3 q' x' hx';rw[wa,wc hq]at this;rw[wa,wz,wc hq];exact this
       . rintro D2 zs σ' H18 ⟨_,nD,S18,e18,lz,rz⟩
         have lz:zs.length=2:=lz
         obtain⟨z1,z2,rfl⟩:∃z1 z2,zs=[z1,z2]:=by
           match zs,lz with
           | [z1,z2],_=>exact⟨z1,z2,rfl⟩
         obtain⟨b1,w1,rfl,_,eb1,tb1⟩:=rz 0 _ rfl;obtain⟨b2,w2,rfl,_,eb2,tb2⟩:=rz 1 _ rfl;rw[hP]at tb1 tb2;have tb1:ag K H18 w1 ((wo j').map (du f')):=tb1;have tb2:ag K H18 w2 (((wo i').drop j').map (du f')):=tb2;o_head gm (.of e18) (λl19 H19 n19 S19 e19=>?_);have T19:=S18.trans S19;have iy:Is K H19 (.ref ty) (.tuple [.list ((wo j').map (du f')),.list (((wo i').drop j').map (du f'))]):=bz.mpr ⟨ty,_,rfl,T19.d9 sy,.cons (aW.mpr ⟨ly1,xs',rfl,.of (T19 _ _ ey1),ag.same T19 _ _ ty1⟩) (.cons (aW.mpr ⟨ly2,ys',rfl,.of (T19 _ _ ey2),ag.same T19 _ _ ty2⟩) .nil)⟩;have iz:Is K H19 (.ref l19) (.tuple [.list ((wo j').map (du f')),.list (((wo i').drop j').map (du f'))]):=bz.mpr ⟨l19,_,rfl,.of e19,.cons (aW.mpr ⟨b1,w1,rfl,.of (S19 _ _ eb1),ag.same S19 _ _ tb1⟩) (.cons (aW.mpr ⟨b2,w2,rfl,.of (S19 _ _ eb2),ag.same S19 _ _ tb2⟩) .nil)⟩
         have sh1:∀l:List Nat,Sh 5 (.list (l.map (du f'))):=λl=>v_ λd hd=>by
           obtain⟨r,_,rfl⟩:=wQ.mp hd;exact OO _ _
         have rf1:∀l:List Nat,vn (.list (l.map (du f'))) (.list (l.map (du f')))=true:=λl=>BG λd hd=>by
           obtain⟨r,_,rfl⟩:=wQ.mp hd;exact Pw _ _
         have sh2:=(iQ (jW (sh1 (wo j')) (sh1 ((wo i').drop j')))).shaped (show 6<=64 by decide);refine zi iy iz sh2 sh2 ?_;rw[kJ (jW (rf1 _) (rf1 _))];exact q _ (K17.trans T19.keep)
     . have:=rf.long (O2 (DV ok so pm pt) dd')
       omega
   . k_few
     refine Dm (io15.by S16) ok' (it15.by S16) sot (λi' j' rf' h80' vy H17 S17 ry=>?_) (λdd' H17 S17=>?_)
     . have:=(IL (DV ok so pm pt) rf').long dd
       omega
     . k_few
       rw[show decide (V.aZ=V.aZ)=true from rfl];exact q _ (K15.trans (S16.trans S17).keep)
section
variable{ns:List Int}{n:Nat}
structure PR(n:Nat)(ns:List Int)(ps ps':List Rat):Prop where
 l:ps.length=n
 l':ps'.length=n
 g:∀w,w<n->ps'.getD w 0=ps.getD (ns.idxOf (w:Int)) 0
theorem zug(pm:ns.Perm (aS n)):bH n ns (wo n)=wo n:=by
 unfold bH;rw[qV];intro w hw;exact decide_eq_true (wB.mpr (iT pm (wB.mp hw)))
theorem zxW{ps ps':List Rat}{left:List Nat}(r:PR n ns ps ps'):az ps' (bH n ns left)=bH n ns (az ps left):=by
 unfold az bH;rw[WT];refine Wo λw hw=>?_
 rw[r.g w (wB.mp hw)]
 by_cases h1:ns.idxOf (w:Int)∈left<;>by_cases h2:ps.getD (ns.idxOf (w:Int)) 0<1<;>simp[h1,h2]
theorem ZM{left wave:List Nat} : bP (bH n ns left) (bH n ns wave)=bH n ns (bP left wave):=by
 unfold bP;have e:bH n ns (left.filter λw=>!decide (w∈wave))=(wo n).filter λ(w:Nat)=>decide (ns.idxOf (w:Int)∈left.filter λv=>!decide (v∈wave)):=rfl
 rw[e]
 conv=>lhs;arg 2;unfold bH
 rw[WT];refine Wo λw hw=>?_
 have h3:w∈bH n ns wave ↔ ns.idxOf (w:Int)∈wave:=nZ wave w (wB.mp hw)
 by_cases h1:ns.idxOf (w:Int)∈left<;>by_cases h2:ns.idxOf (w:Int)∈wave<;>simp[h1,h2,h3]
theorem zxV(pm:ns.Perm (aS n)){wave:List Nat}(nd:wave.Nodup)(hl:∀w∈wave,w<n):(bH n ns wave).length=wave.length:=by
 have:=(P0 pm nd hl).length_eq
 simpa using this
theorem PR.push{ps ps':List Rat}{l:List Nat}(pm:ns.Perm (aS n))(r:PR n ns ps ps')(nd:l.Nodup)(hl:∀w∈l,w<n)(f g:Rat):PR n ns (cT f g ps l) (cT f g ps' (bH n ns l)):=by
 refine⟨by rw[ja];exact r.l,by rw[ja];exact r.l',λw hw=>?_⟩;rw[lA f g _ _ (Mp n ns l) (λv hv=>by rw[r.l'];exact(oP.mp hv).1),lA f g _ _ nd (λv hv=>by rw[r.l];exact hl v hv),r.g w hw]
 by_cases h:ns.idxOf (w:Int)∈l
 ·rw[if_pos h,if_pos ((nZ l w hw).mpr h)]
 ·rw[if_neg h,if_neg λy=>h ((nZ l w hw).mp y)]
theorem OV(pm:ns.Perm (aS n)){a b:Rat} : ∀(m:Nat){ps ps':List Rat}{left:List Nat},Rg n left->PR n ns ps ps' ->
  (bU a b m ps' (bH n ns left)).1=(bU a b m ps left).1.map (bH n ns)/\(bU a b m ps' (bH n ns left)).2.1=bH n ns (bU a b m ps left).2.1/\PR n ns (bU a b m ps left).2.2 (bU a b m ps' (bH n ns left)).2.2
 | 0,ps,ps',left,_,r=>⟨rfl,rfl,r⟩
 | m+1,ps,ps',left,h,r=>by
  have e:=zxW (left:=left) r
  by_cases z:az ps left=[]
  ·rw[jE z,jE (by rw[e,z,Lb])]
   exact⟨rfl,rfl,r⟩
  ·have hw:Rg n (az ps left):=h.filter _
   have hl:=zxV pm hw.nodup hw.lt;have hf:=h.bP (az ps left);rw[jC z,jC (by rw[e];exact J5 pm z hw.lt),e,hl,ZM];have ih:=OV pm m (a:=a) (b:=b) hf (r.push pm hf.nodup hf.lt (a^(az ps left).length) (bO a b (az ps left).length));refine⟨?_,ih.2.1,ih.2.2⟩;rw[wZ,ih.1]
theorem BN(pm:ns.Perm (aS n)){xs:List Rat}(hx:xs.length=n){x:Rat} : x∈aj 0 ns xs ↔ x∈xs:=by
 rw[oA pm hx,wQ]
 constructor
 ·rintro ⟨w,hw,rfl⟩
  exact GM.getD_mem (by rw[hx];exact iT pm (wB.mp hw))
 ·intro h
  obtain⟨i,hi,rfl⟩:=mf (0:Rat) h;have hi:i<n:=by omega
  obtain⟨h1,h2⟩:=pL pm hi;exact⟨_,wB.mpr h1,by rw[h2,kO pm hi]⟩
theorem Kl(pm:ns.Perm (aS n)){xs:List Rat}(hx:xs.length=n)(h1:1<=n):bE (aj 0 ns xs)=bE xs:=by
 refine Ug ?_ ?_
 ·exact nY _ ((BN pm hx).mp (gJ (by rw[cY,hx];exact h1)))
 ·exact nY _ ((BN pm hx).mpr (gJ (by rw[hx];exact h1)))
theorem Pk(pm:ns.Perm (aS n)){a b:Rat}{xs:List Rat}(hx:xs.length=n)(h1:1<=n):cD a b (aj 0 ns xs)=(cD a b xs).map (bH n ns)/\cU a b (aj 0 ns xs)=aj 0 ns (cU a b xs):=by
 have lp:(aj 0 ns xs).length=n:=by rw[cY];exact hx
 have r:PR n ns (cB xs) (cB (aj 0 ns xs)):=by
  refine⟨by rw[iO];exact hx,by rw[iO];exact lp,λw hw=>?_⟩;unfold cB;rw[nM (by rw[lp];exact hw),nM (by rw[hx];exact iT pm hw),Kl pm hx h1,eZ pm hx hw]
 obtain⟨e1,e2,r2⟩:=OV pm (a:=a) (b:=b) n (Rg.range n) r;rw[zug pm]at e1 e2 r2;refine⟨?_,?_⟩
 ·unfold cD eJ
  rw[lp,hx];exact e1
 ·rw[oA pm (xs:=cU a b xs) (by rw[nQ];exact hx)]
  unfold cU eJ;rw[lp,hx]
  conv=>lhs;unfold fM
  rw[r2.l'];refine vU λw hw=>?_
  have hw:=wB.mp hw;have hq:=iT pm hw;rw[mV (by rw[r2.l];exact hq),r2.g w hw,e2];have h3:=nZ (n:=n) (ns:=ns) (bU a b n (cB xs) (wo n)).2.1 w hw
  by_cases h:ns.idxOf (w:Int)∈(bU a b n (cB xs) (wo n)).2.1
  ·rw[if_pos h,if_pos (h3.mpr h)]
  ·rw[if_neg h,if_neg λy=>h (h3.mp y)]
theorem RV(pm:ns.Perm (aS n)){a b:Rat}{xs:List Rat}(hx:xs.length=n)(h1:1<=n):∀k,bC a b (aj 0 ns xs) k=aj 0 ns (bC a b xs k)/\dr a b (aj 0 ns xs) k=dr a b xs k
 | 0=>⟨rfl,rfl⟩
 | k+1=>by
  obtain⟨i1,i2⟩:=RV pm (a:=a) (b:=b) hx h1 k;have hk:(bC a b xs k).length=n:=by rw[ky];exact hx
  refine⟨?_,?_⟩
  ·rw[bC,i1]
   exact(Pk pm hk h1).2
  ·rw[dr,i1,i2,Kl pm hk h1]
   rfl
end
theorem PN{n:Nat}{a b:Rat} : ∀(m:Nat){ps:List Rat}{left:List Nat},Rg n left->(bU a b m ps left).1.length<=m /\ ∀w∈(bU a b m ps left).1,w.Nodup /\ ∀x∈w,x<n
 | 0,ps,left,_=>⟨wu _,λw hw=>by cases hw⟩
 | m+1,ps,left,h=>by
  by_cases z:az ps left=[]
  ·rw[jE z]
   exact⟨by simp,λw hw=>by cases hw⟩
  ·rw[jC z]
   have hw:Rg n (az ps left):=h.filter _;obtain⟨i1,i2⟩:=PN m (a:=a) (b:=b) (ps:=cT (a^(az ps left).length) (bO a b (az ps left).length) ps (bP left (az ps left))) (h.bP (az ps left));refine⟨by rw[vA];omega,λw hw'=>?_⟩;rcases wE.mp hw' with rfl | hw'
   ·exact⟨hw.nodup,hw.lt⟩
   ·exact i2 w hw'
theorem YF(a b:Rat)(xs:List Rat):(cD a b xs).length<=xs.length /\ ∀w∈cD a b xs,w.Nodup /\ ∀x∈w,x<xs.length:=PN _ (Rg.range _)
def Je(K:wb):Sp:=λvs H Q _=>∃x0 x1 x2,vs=[x0,x1,x2] /\ ∃(a b:Rat)(xs:List Rat)(lo:wf)(ns:List Int)(k:Nat),Is K H x0 (dO a b xs)/\gx a b/\1<=xs.length/\xs.length<=8/\(∀x∈xs,fg x)/\x1=.ref lo/\H lo=some (.lst (ns.map V.int))/\ns.Perm (aS xs.length)/\Is K H x2 (.list (c_ a b xs k))/\k<=8 /\ ∀H',af H H'->Q (.bl true) H'
theorem zhf{K:wb}{H:Hp}{Q:VK}{E:XK}{a b:Rat}{xs:List Rat}{lo:wf}{ns:List Int}{k:Nat}{v w:V}(h:Is K H v (dO a b xs))(ok:gx a b)(h1:1<=xs.length)(h8:xs.length<=8)(hp:∀x∈xs,fg x)(e:H lo=some (.lst (ns.map V.int)))(pm:ns.Perm (aS xs.length))(hr:Is K H w (.list (c_ a b xs k)))(hk:k<=8)(q:∀H',af H H'->Q (.bl true) H'):Je K [v,.ref lo,w] H Q E:=⟨_,_,_,rfl,a,b,xs,lo,ns,k,h,ok,h1,h8,hp,rfl,e,pm,hr,hk,q⟩
theorem zg4(T:Txt K mg a):aM P w K mg base aR 6 a.Fu a.Fm AJ (Je K):=by
 refine T.Fn.F.ok oZ ?_ ?_;wtm_at "b3"
 refine⟨_,(ah (aD 3 oZ.nd (ak (Ou T) hr T.AX (aa (jI (zoO T) hr T.GF kX (aa (pv 0) (aa (pv 1) ae))) (aa (aU (show ay _ (.builtin "len") (bB K)from bX) rfl T.z_len bR (aa (pv 2) ae)) ae))))
     (ah (dG vE rfl (zyf rfl T.z_zip (aa (pv 2) (aa (pv 3) ae))) (gz (n:=2) rfl (cV (aN (i:=4) oZ.nd rfl (Or.inr rfl)) (cV (aN (i:=5) oZ.nd rfl (Or.inl rfl)) gB))) (ah (aD 6 oZ.nd (b_ (show ay _ (.type "tuple") (bQ K)from cA) rfl T.z_tuple cf (aa (cn rfl (bc.by (N':=["_law_worm","_law_row","_law_order_here"]) (src:=[none,some 4,some 1]) rfl (show bG _ (au tK).names Fh ["_law_worm","_law_row","_law_order_here"] [none,some 4,some 1]=true from by decide +kernel)) (fb rfl T.z_range (aa (aU (show ay _ (.builtin "len") (bB K)from bX) rfl T.z_len bR (aa (pv 1) ae)) ae)) (λ_ _ _ _ _=>(aN (i:=0) (show(["_law_worm","_law_row","_law_order_here"]:List Str).Nodup from by decide) rfl (Or.inl rfl))) (λ_ _ _ _ _=>cy) (λ_ _ _ _ _=>(cG (show dP _ (bL K)from bM) (fT (K:=K) bM (pv 1)) (show PE _ _ (yq K _ (tZ K) _ _)from(fS vI xT PySem.F.type_list_index (show oi _ "list.index" (tZ K)from zuc) (pv 2) (aa (pv 0) ae))) (λ_ _=>rfl)))) ae)))
     (aq (bZ (cb (show aJ _ (wW .NotEq) (eA K)from fF hu) (pv 5) (b9 (aa (aA (pv 4)) (aa (ak (Jb T) hr T.AY (aa (aA (pv 4)) (aa (pv 1) ae))) (aa (pv 6) ae)))) (bD _)) (aq (aH dY)) b7))))
     (aq (aH (eW (show aJ _ (wW .Eq) (dW K)from fN hu) (aU (show ay _ (.builtin "len") (bB K)from bX) rfl T.z_len bR (aa (pv 3) ae)) (aU (show ay _ (.builtin "len") (bB K)from bX) rfl T.z_len bR (aa (pv 2) ae)) (bD _)))))),?_⟩
 wtm_at "cl";rw[show start Fh [x0,x1,x2]=[some x0,some x1,some x2,none,none,none,none]from rfl];obtain⟨ra,rb,xs,lo,ns,k,hw,ok,h1,h8,hp,rfl,eo,pm,hr,hk,q⟩:=h;o_head zoE hw h8 eo pm (λv1 H1 S1 i1=>?_);k_few;have hx:(aj 0 ns xs).length=xs.length:=cY ..;have hr1:=hr.by S1;refine Tz hr1 (show(c_ ra rb xs k).length=k by simp[c_]) ?_;k_few
 have b6:∀j,ai 6 ((aj 0 ns xs).getD j 0):=λj=>by
   rcases wT j (aj 0 ns xs).length with z | z
   . exact(hp _ ((BN pm rfl).mp (GM.getD_mem z))).jb
   . rw[wa,wX z];exact ai.zero.mono (by decide)
 have cm:Cm 55 (aj 0 ns xs):=(Cm.Ir b6).mono (by omega);have hm:(2+21*(aj 0 ns xs).length)*k<=170*8:=VW (by omega) hk;refine Nr i1 (ok.ba.mono (by decide)) (ok.bb.mono (by decide)) (by omega) (by omega) (by omega) (by omega) cm (by rw[wH];omega) (λlf H2 nf S2 i2=>?_);rw[wH]at i2;have T2:=S1.trans S2;have eo2:=T2 _ _ eo;have hr2:=hr.by T2;have exk:=λj=>RV pm (a:=ra) (b:=rb) rfl h1 j
 k_few;obtain⟨a2,vs2,rfl,s2,t2⟩:=aW.mp hr2;obtain⟨a3,vs3,e3,s3,t3⟩:=aW.mp i2;cases e3;have l2:=t2.length;have l3:=t3.length;have lr:∀xs,(c_ ra rb xs k).length=k:=λxs=>by simp[c_]
 rw[lr]at l2 l3;have nl:=(fI pm).1;refine N9 (t:=false) (u:=false) s2 s3 (by omega) (λi σ H'=>(∃o4 o5 o6,σ = [some x0,some (.ref lo),some (.ref a2),some (.ref lf),o4,o5,o6])/\af H2 H') ⟨⟨_,_,_,rfl⟩,af.refl _⟩ ?_ ?_ ?_
 . rintro i σ H3 _ ⟨_,S3⟩
   exact⟨S3.seq s2,S3.seq s3⟩
 . rintro i x y σ H3 c H4 hx' hy' ⟨⟨o4,o5,o6,rfl⟩,S3⟩ nc S4 ec
   have S34:=S3.trans S4;obtain⟨hj,ix⟩:=cQ t2 hx';obtain⟨_,iy⟩:=cQ t3 hy';rw[lr]at hj
   have ix:Is K H2 x (jx (dr ra rb xs (i+1)) (cD ra rb (bC ra rb xs i)) (bC ra rb xs (i+1))):=by
     rw[c_,gT hj]at ix;exact ix
   have pl:(bC ra rb xs i).length=xs.length:=ky ..
   have iy:Is K H2 y (jx (dr ra rb xs (i+1)) ((cD ra rb (bC ra rb xs i)).map (bH xs.length ns)) (aj 0 ns (bC ra rb xs (i+1)))):=by
     rw[c_,gT hj]at iy;have iy:Is K H2 y (jx (dr ra rb (aj 0 ns xs) (i+1)) (cD ra rb (bC ra rb (aj 0 ns xs) i)) (bC ra rb (aj 0 ns xs) (i+1))):=iy;rw[(exk (i+1)).1,(exk (i+1)).2,(exk i).1,(Pk pm pl h1).1]at iy;exact iy
   have gi:=YF ra rb (bC ra rb xs i);rw[pl]at gi;have pl1:(bC ra rb xs (i+1)).length=xs.length:=ky ..;obtain⟨ws,hws⟩:∃ws,ws=cD ra rb (bC ra rb xs i):=⟨_,rfl⟩;obtain⟨zs,hzs⟩:∃zs,zs=bC ra rb xs (i+1):=⟨_,rfl⟩;obtain⟨hh,hhh⟩:∃hh,hh=dr ra rb xs (i+1):=⟨_,rfl⟩;rw[<- hws]at gi;rw[<- hzs]at pl1;rw[<- hws,<- hzs,<- hhh]at ix iy;have ix4:=ix.by S34;have iy4:=iy.by S34;have eo4:=S34 _ _ eo2;refine jj (.of ec) rfl ?_;o_head ⟨lo,_,rfl,.inl (.of eo4),?_⟩;rw[wd,nl];o_head Jk (n:=(xs.length:Int)) (by omega) (by omega) (o0:=none) (tl:=[some x,some (.ref lo)]) rfl (λj y H'=>Is K H' y (N (zs.getD (ns.idxOf (j:Int)) 0))) ?_ ?_
   . intro D j ys o H5 hj5 inv
     have hj6:j<xs.length:=by omega
     have S5:=inv.2.2.1;have hq:=iT pm hj6;o_head bo (j:=2) (ix4.by S5) rfl (λv6 i6=>?_);o_head fK (aG.of (S5 _ _ eo4)) ?_;o_head ztS (.of (S5 _ _ eo4)) (by omega) (jw pm hj6) ?_;o_head OJ i6 (by omega) (by omega) (λv7 i7=>?_);rw[wH]at i7;k_few;exact dB inv (by omega) (λ_ _ _ _ s h=>h.ji s) ⟨_,rfl⟩ (af.refl _) i7
   . intro D ys H5 n5 S5 e5 l5 r5
     rw[wH]at l5
     have ty:ag K H5 ys ((aj 0 ns zs).map N):=nU (by rw[l5,cY,pl1]) λj x' hx5=>by
       have hj5:j<xs.length:=by rw[<- l5];exact(vk.mp hx5).1
       rw[eZ pm pl1 hj5];exact r5 j x' hx5
     o_head fj (lG e5 ty) (λv6 H6 S6 i6=>?_);have S46:=S5.trans S6;have ix6:=ix4.by S46;o_head bo (j:=0) ix6 rfl (λv7 i7=>?_);o_head bo (j:=1) ix6 rfl (λv8 i8=>?_);o_head OE i8 (S46 _ _ eo4) pm h8 (by omega) gi.2 (λv9 H9 S9 i9=>?_);o_head cC (ds:=[N hh,cR (ws.map (bH xs.length ns)),TN (aj 0 ns zs)]) (by simp) (.cons (i7.by S9) (.cons i9 (.cons (i6.by S9) .nil))) (λv10 H10 S10 i10=>?_);have T10:=S46.trans (S9.trans S10);refine w_ (iy4.by T10) i10 (zAP _ _ _) (by decide) (Z3 _ _ _) ?_;k_few;exact⟨⟨_,_,_,rfl⟩,S34.trans T10⟩
 . rintro σ H3 ⟨⟨o4,o5,o6,rfl⟩,S3⟩
   o_head ⟨lf,vs3,rfl,.inl (S3.seq s3),?_⟩;rw[l3];o_head ⟨a2,vs2,rfl,.inl (S3.seq s2),?_⟩;rw[l2];k_few;rw[decide_eq_true rfl];exact q _ (T2.trans S3)
theorem Bs(rs:List Int)(us ts:List (List Int))(ps:List Int)(cm:List (List Int))(m:Nat):∀k,stN rs us ts (stN rs us ts ps cm m).1 (stN rs us ts ps cm m).2 k=stN rs us ts ps cm (m+k)
 | 0=>rfl
 | k+1=>by
  rw[stN,Bs rs us ts ps cm m k]
  rfl
@[reducible] def cK (c n:Nat):List Int:=wm n (c:Int)
@[reducible] def cJ (c n:Nat) (b:Rat):List (List Int):=wm n (fX c b)
@[reducible] def iZ (n:Nat):List Int:=wm n 0
theorem zyF{n w:Nat}(h:w<n):((wo n).filter λb=>decide (b=w)).length=1:=by
 have:((wo n).filter λb=>decide (b=w)).Perm [w]:=nS (Wn.filter _) (by simp) λx=>by
  rw[vG,wB,decide_eq_true_eq,vv];exact⟨λz=>z.2,λz=>⟨by omega,z⟩⟩
 rw[this.length_eq];rfl
theorem zy4{a n w:Nat}{g:List Nat}(hw:w<n):cj (dq a 0 n) g w 0=if a∈g/\a≠w then 1 else 0:=by
 unfold cj dq;rw[Ur,wd,WT]
 have e:∀b:Nat,(eU g w 0 ∘ λ(b:Nat)=>[(a:Int),(b:Int),((0:Nat):Int)]) b=(decide (a∈g)&&decide (b=w)):=λb=>by
  show(decide (((a:Int)).toNat∈g)&&(decide ((b:Int)=(w:Int))&&decide (((0:Nat):Int)=((0:Nat):Int))))=_
  rw[wH,decide_eq_true (rfl:((0:Nat):Int)=((0:Nat):Int)),XN]
  congr 1
  rw[WS,decide_eq_true_eq,decide_eq_true_eq];omega
 by_cases h:a∈g/\a≠w
 ·rw[if_pos h,<- zyF hw]
  congr 1
  refine Wo λb _=>?_
  rw[e,decide_eq_true h.1,W6]
  by_cases z:b=w
  ·rw[decide_eq_true z,decide_eq_true (show b≠a from λy=>h.2 (by omega)),W6]
  ·rw[decide_eq_false z,WI]
 ·rw[if_neg h,Vq,qw]
  intro b _ z;rw[e,vf,vf,decide_eq_true_eq,decide_eq_true_eq,decide_eq_true_eq]at z;exact h ⟨z.1.1,λy=>z.2 (by omega)⟩
theorem L9{n w:Nat}{g:List Nat}(hw:w<n):∀a,cj (br n a) g w 0=((wo a).filter λx=>decide (x∈g)&&decide (x≠w)).length
 | 0=>rfl
 | a+1=>by
  have ih:=L9 hw (g:=g) a
  have e:cj (br n (a+1)) g w 0=cj (br n a) g w 0+cj (dq a 0 n) g w 0:=by
   show((br n a++dq a 0 n).filter _).length=_
   rw[WU,wS];rfl
  rw[e,ih,zy4 hw,Vb,WU,wS]
  congr 1
  by_cases h1:a∈g<;>by_cases h2:a=w<;>simp[h1,h2]
theorem zvZ{n w:Nat}{g:List Nat}(hw:w<n)(hg:fO n g)(hn:w ∉ g):cj (br n n) g w 0=g.length:=by
 rw[L9 hw];refine(nS (Wn.filter _) hg.nd λx=>?_).length_eq;rw[vG,wB,vf,decide_eq_true_eq,decide_eq_true_eq];exact⟨λz=>z.2.1,λz=>⟨hg.lt x z,z,λe=>hn (by rw[<- e];exact z)⟩⟩
theorem ztW{n w d:Nat}{g:List Nat} : cj (br n n) g w (d+1)=0:=by
 unfold cj;rw[Vq,qw];intro t ht z;obtain⟨x,y,_,rfl⟩:=(CC n n).2 t ht;unfold eU at z;rw[vf,vf,decide_eq_true_eq,decide_eq_true_eq,decide_eq_true_eq]at z;have:=z.2.2;simp at this;omega
theorem NJ{c:Nat}{U:Int}(hU:0<=U):∀(k:Nat)(p:Int),0<=p->((c:Int)<=cu c (wm c U) k p ↔ (c:Int)<=p+k*U)/\(p+k*U<c->cu c (wm c U) k p=p+k*U)
 | 0,p,h=>by rw[cu];simp
 | k+1,p,h=>by
  rw[cu];have e:((k+1:Nat):Int)*U=U+(k:Int)*U:=by push_cast;rw[Int.add_mul,Int.one_mul,Int.add_comm]
  have kU:0<=(k:Int)*U:=Qo (by omega) hU;rw[e]
  split
  ·exact⟨⟨λ_=>by omega,λ_=>by assumption⟩,λ_=>by omega⟩
  ·rename_i hp
   have eu:(wm c U).getD p.toNat 0=U:=by
    rw[wa,vO,if_pos (by omega)];rfl
   rw[eu];obtain⟨i1,i2⟩:=NJ hU k (p+U) (by omega);rw[<- Int.add_assoc];exact⟨i1,i2⟩
def pG(c:Nat)(x:Rat):Int:=((c / x.den:Nat):Int)*x.num
theorem Aw{c:Nat}{x:Rat}(h:x.den ∣ c):((pG c x:Int):Rat)=(c:Rat)*x:=by
 obtain⟨k,rfl⟩:=h;unfold pG;rw[Qr _ x.den_pos]
 have hx:(x.num:Rat)=x*((x.den:Int):Rat):=by
  have:=gr x.num (show(x.den:Int)≠0 by have:=den_pos x;omega);rw[Qg]at this;exact this.symm
 push_cast
 rw[hx]
 push_cast
 grind
theorem zBD{c:Nat}{x:Rat}{t:Int}(hc:0<c)(h:(t:Rat)=(c:Rat)*x):x.den ∣ c:=by
 have hb:(c:Int)≠0:=by omega
 have hx:x=vC t (c:Int):=by
  have q1:=gr t hb;have hB:((c:Int):Rat)≠0:=λz=>hb (by exact_mod_cast z)
  have e:((c:Int):Rat)=(c:Rat):=rfl;rw[h,<- e]at q1;have q2:(vC t (c:Int)-x)*((c:Int):Rat)=0:=by grind
  rcases Uf.mp q2 with z | z
  ·grind
  ·exact absurd z hB
 rw[hx,Q7,if_neg hb];exact uj (xO ..)
theorem NF{c:Nat}(hc:0<c){X:Int}{y:Rat}(h:(X:Rat)=(c:Rat)*y):X<(c:Int) ↔ y<1:=by
 have hB:(0:Rat)<((c:Int):Rat):=sI (by omega);have e:((c:Int):Rat)=(c:Rat):=rfl;have h':(X:Rat)=y*((c:Int):Rat):=by rw[h,e,ui]
 constructor
 ·intro z
  have z:=qp.mpr z;refine qP (c:=((c:Int):Rat)) ?_ (qD hB);rw[<- h',xg];exact z
 ·intro z
  have:=xo z hB;rw[<- h',xg]at this;exact qp.mp this
structure Ev(c n:Nat)(b:Rat)(ps:List Int)(zs:List Rat):Prop where
 c1:0<c
 bd:b.den ∣ c
 b0:0<=b
 b1:b<=1
 pl:ps.length=n
 p0:∀w,w<n->0<=ps.getD w 0
 zl:zs.length=n
 z:∀w,w<n->((ps.getD w 0+1:Int):Rat)=(c:Rat)*zs.getD w 0
section
variable{c n:Nat}{b:Rat}{ps:List Int}{zs:List Rat}
theorem iI{α : Type}{x d : α}{n w:Nat}(h:w<n):(wm n x).getD w d=x:=by
 rw[wa,vO,if_pos h];rfl
theorem J3(E:Ev c n b ps zs){g:List Nat}(hg:fO n g){w:Nat}(hw:w<n)(hn:w ∉ g):((c:Int)<=cN (cK c n) (cJ c n b) (br n n) ps (iZ n) g w ↔ ¬ zs.getD w 0+((g.length:Int):Rat)*b<1)/\(zs.getD w 0+((g.length:Int):Rat)*b<1->((cN (cK c n) (cJ c n b) (br n n) ps (iZ n) g w:Int):Rat)=(c:Rat)*(zs.getD w 0+((g.length:Int):Rat)*b)):=by
 have hU:=(KN E.bd E.b0 E.b1).1;have m:=NJ (c:=c) hU g.length (ps.getD w 0+1) (by have:=E.p0 w hw;omega)
 have e:cN (cK c n) (cJ c n b) (br n n) ps (iZ n) g w=cu c (wm c (((c / b.den:Nat):Int)*b.num)) g.length (ps.getD w 0+1):=by
  unfold cN;rw[iI hw,iI hw,iI hw,zvZ hw hg hn,show((0:Int).toNat+g.length)=g.length by simp]
  rfl
 have key:((ps.getD w 0+1+(g.length:Int)*(((c / b.den:Nat):Int)*b.num):Int):Rat)=(c:Rat)*(zs.getD w 0+((g.length:Int):Rat)*b):=by
  have k1:=E.z w hw;have k2:=Aw E.bd;unfold pG at k2;rw[QR,W2,k1,k2]
  grind
 have l:=NF E.c1 key;rw[e];refine⟨?_,λz=>?_⟩
 ·rw[m.1,<- l]
  omega
 ·rw[m.2 (l.mpr z),key]
@[reducible] def dz (n:Nat) (g:List Nat):List Nat:=(wo n).filter λw=>!decide (w∈g)
theorem CL(g:List Nat):Rg n (dz n g):=(Rg.range n).filter _
theorem zxD(E:Ev c n b ps zs){g:List Nat}(hg:fO n g){pz:List Rat}(hz:∀w,w<n->w ∉ g->pz.getD w 0=zs.getD w 0+((g.length:Int):Rat)*b):GM.fresh (cK c n) (cJ c n b) (br n n) ps (iZ n) g=az pz (dz n g):=by
 unfold GM.fresh az;rw[wO,WT];refine Wo λw hw=>?_
 have hw:=wB.mp hw
 by_cases h:w∈g
 ·simp[h]
 ·rw[iI hw,hz w hw h,decide_eq_false h,Qn,W6,XN]
  have:=(J3 E hg hw h).1;rw[WS,decide_eq_true_eq,this,W0,decide_eq_false_iff_not]
theorem zx5(b:Rat)(m:Nat):bO 1 b m=((m:Int):Rat)*b:=by rw[LB,zwx]
theorem DJ:∀m:Nat,(1:Rat)^m=1
 | 0=>xK _
 | m+1=>by rw[QQ,DJ m,Rat.mul_one]
theorem MK(E:Ev c n b ps zs):∀(m f:Nat)(g:List Nat)(pz:List Rat),fO n g->n<f+g.length->(dz n g).length<=m->pz.length=n->(∀w,w<n->w ∉ g->pz.getD w 0=zs.getD w 0+((g.length:Int):Rat)*b) ->
  fv (cK c n) (cJ c n b) (br n n) ps (iZ n) f g=(bU 1 b m pz (dz n g)).1 /\
  (bU 1 b m pz (dz n g)).2.1=dz n (dQ (cK c n) (cJ c n b) (br n n) ps (iZ n) f g) /\
  (bU 1 b m pz (dz n g)).2.2.length=n /\
  ∀w,w<n->w ∉ dQ (cK c n) (cJ c n b) (br n n) ps (iZ n) f g->(bU 1 b m pz (dz n g)).2.2.getD w 0=zs.getD w 0+(((dQ (cK c n) (cJ c n b) (br n n) ps (iZ n) f g).length:Int):Rat)*b
 | m,f,g,pz,hg,hf,hm,hl,hz=>by
  have e:=zxD E hg hz
  by_cases z:az pz (dz n g)=[]
  ·have z':=e.trans z
   rw[jE z,(ju z' f).1,(ju z' f).2];exact⟨rfl,rfl,hl,hz⟩
  ·have z':GM.fresh (cK c n) (cJ c n b) (br n n) ps (iZ n) g≠[]:=by rw[e];exact z
   have gl:=hg.len;obtain⟨f',rfl⟩:∃f',f=f'+1:=⟨f-1,by omega⟩;have ll:=zY pz (dz n g);have zp:0<(az pz (dz n g)).length:=qb.mpr z;obtain⟨m',rfl⟩:∃m',m=m'+1:=⟨m-1,by omega⟩;have hg':=fO.app (us:=wm n (fX c b)) (ts:=br n n) (ps:=ps) (cs:=wm n 0) (rs:=wm n (c:Int)) (g:=g) (by rw[wO];exact hg);rw[wO]at hg';rw[(iD z' f').1,(iD z' f').2,jC z,e];rw[e]at hg';have hR:Rg n (az pz (dz n g)):=(CL g).filter _
   have el:bP (dz n g) (az pz (dz n g))=dz n (g++az pz (dz n g)):=by
    generalize az pz (dz n g)=wave;unfold bP;rw[WT];refine Wo λw _=>?_
    by_cases h1:w∈g<;>by_cases h2:w∈wave<;>simp[h1,h2]
   rw[el]at ll ⊢;generalize az pz (dz n g)=wave at *;have ih:=MK E m' f' (g++wave) (cT (1^wave.length) (bO 1 b wave.length) pz (dz n (g++wave))) hg' (by rw[wS];omega) (by omega) (by rw[ja];exact hl) (λw hw hn=>?_)
   ·exact⟨by rw[ih.1],ih.2.1,ih.2.2.1,ih.2.2.2⟩
   ·have hn1:w ∉ g:=λy=>hn (WJ _ y)
    have hn2:w ∉ wave:=λy=>hn (vX _ y)
    rw[lA _ _ _ _ (CL (g++wave)).nodup (λv hv=>by rw[hl];exact(CL (g++wave)).lt v hv),if_pos (vG.mpr ⟨wB.mpr hw,by simp[hn1,hn2]⟩),hz w hw hn1,zx5,DJ,wS];have:((((g.length+wave.length:Nat):Int)):Rat)=((g.length:Int):Rat)+((wave.length:Int):Rat):=by push_cast;rfl
    rw[this]
    grind
 termination_by m=>m
end
theorem RL(n:Nat):dz n []=wo n:=qV.mpr λw _=>by simp
theorem zub{n d:Nat}(h:d<4):(bj n).getD d []=wm n 0:=iI h
section
variable{c n:Nat}{b:Rat}{ps:List Int}{zs:List Rat}
theorem oO(E:Ev c n b ps zs)(n1:1<=n)(n8:n<=8)(jd:c<=60) :
  fq (cK c n) (cJ c n b) (br n n) ps (bj n)=(bU 1 b n zs (wo n)).1 /\
  (∀w,w<n->(((cI (cK c n) (cJ c n b) (br n n) ps (bj n)).getD w 0:Int):Rat)=(c:Rat)*(fM (bU 1 b n zs (wo n)).2.1 (bU 1 b n zs (wo n)).2.2).getD w 0) /\
  d7 (cK c n) (cJ c n b) (br n n) ps (bj n)=bj n:=by
 have ok:=Co n1 n8 E.c1 jd E.bd E.b0 E.b1;have h:=MK E n 9 [] zs ⟨VU,λw hw=>by cases hw⟩ (by simp;omega) (by rw[RL,vi];exact wu _) E.zl (λw hw _=>by simp[Rat.add_zero]);rw[RL]at h;obtain⟨h1,h2,h3,h4⟩:=h;obtain⟨g1,g2⟩:=Mx (ps:=ps) (cm:=bj n) ok;rw[wO]at g1;have c0:(bj n).getD 0 []=wm n 0:=zub (by decide);have eG:eQ (cK c n) (cJ c n b) (br n n) ps (bj n)=dQ (cK c n) (cJ c n b) (br n n) ps (iZ n) 9 []:=by unfold eQ;rw[c0]
 rw[<- eG]at h2 h4;rw[c0]at g2;refine⟨by unfold fq;rw[c0];exact h1,λw hw=>?_,?_⟩
 ·unfold cI
  rw[gT (by rw[wO];exact hw),mV (by rw[h3];exact hw),h2,c0];generalize eQ (cK c n) (cJ c n b) (br n n) ps (bj n)=G at *
  by_cases z:w∈G
  ·rw[if_pos z,if_neg (by simp[z])]
   simp
  ·rw[if_neg z,if_pos (vG.mpr ⟨wB.mpr hw,by simp[z]⟩),h4 w hw z]
   have nf:=N6 g2 (w:=w) (by rw[wO];exact hw) z;rw[iI hw]at nf;obtain⟨k1,k2⟩:=J3 E g1 hw z;refine k2 ?_;rcases Classical.em (zs.getD w 0+((G.length:Int):Rat)*b<1)with y | y
   ·exact y
   ·exact absurd nf (Int.not_lt.mpr (k1.mpr y))
 ·unfold d7 hZ bj
  rw[wO];refine vQ (by simp) λd h5 h6=>?_
  rw[vJ,Vm,qu];refine vQ (by simp) λw h7 h8=>?_
  rw[vJ,Vm,qu,ztW];rw[wO]at h8;rcases wT (d+1) 4 with y | y
  ·rw[iI y,iI h8];rfl
  ·rw[wa (l:=wm 4 _),wX (by rw[wO];exact y)]
   rfl
end
structure Ys(c n:Nat)(b s:Rat)(ys:List Rat):Prop where
 c1:0<c
 jd:c<=60
 hs:(c:Rat)*s=1
 s0:0<s
 bd:b.den ∣ c
 b0:0<=b
 b1:b<=1
 n1:1<=n
 n8:n<=8
 yl:ys.length=n
 yd:∀y∈ys,y.den ∣ c
 hp:tP ys
section
variable{c n:Nat}{b s:Rat}{ys:List Rat}
theorem zyX(h:Ys c n b s ys){w:Nat}(hw:w<n):(((bJ c ys).getD w 0:Int):Rat)=(c:Rat)*ys.getD w 0:=by
 have hw':w<ys.length:=by rw[h.yl];exact hw
 rw[mW hw'];exact Aw (h.yd _ (GM.getD_mem hw'))
theorem zCd{l:List Int}{zs:List Rat}(hl:l.length=n)(hz:zs.length=n)(hd:∀y∈zs,y.den ∣ c)(h:∀w,w<n->((l.getD w 0:Int):Rat)=(c:Rat)*zs.getD w 0):l=bJ c zs:=by
 refine vQ (by unfold bJ;rw[wd,hl,hz]) λw h1 h2=>?_
 have hw:w<n:=by omega
 have e:=h w hw;have hw':w<zs.length:=by omega
 have e2:=Aw (hd _ (GM.getD_mem (d:=0) hw'));rw[<- e2]at e;have e3:=Us.mp e;have e4:=mW (c:=c) hw';rw[wa,wc h2]at e4;rw[wa,wc h1]at e3;exact e3.trans e4.symm
theorem Ys.ev(h:Ys c n b s ys):Ev c n b (bJ c ys) (ys.map (· + s)):=by
 refine⟨h.c1,h.bd,h.b0,h.b1,by unfold bJ;rw[wd];exact h.yl,λw hw=>?_,by rw[wd];exact h.yl,λw hw=>?_⟩
 ·have hw':w<ys.length:=by rw[h.yl];exact hw
  rw[mW hw'];exact Qo (uk _) (qE.mpr (h.hp.nn _ (GM.getD_mem hw')))
 ·have hw':w<ys.length:=by rw[h.yl];exact hw
  rw[nM hw',QR,zyX h hw];have:=h.hs
  show(c:Rat)*ys.getD w 0+1=_
  grind
theorem JC(h:Ys c n b s ys){us:List Rat}(hu:us.length=n)(he:fM (bU 1 b n (ys.map (· + s)) (wo n)).2.1 (bU 1 b n (ys.map (· + s)) (wo n)).2.2=us):cI (cK c n) (cJ c n b) (br n n) (bJ c ys) (bj n)=bJ c us /\ ∀y∈us,y.den ∣ c:=by
 have t:=(oO h.ev h.n1 h.n8 h.jd).2.1;rw[he]at t
 have hd:∀y∈us,y.den ∣ c:=λy hy=>by
  obtain⟨w,hw,rfl⟩:=mf (0:Rat) hy;exact zBD h.c1 (t w (by omega))
 exact⟨zCd (by simp[cI]) hu hd t,hd⟩
theorem zyS(h:Ys c n b s ys)(hm:bE ys+s<1):fq (cK c n) (cJ c n b) (br n n) (bJ c ys) (bj n)=[]/\cI (cK c n) (cJ c n b) (br n n) (bJ c ys) (bj n)=bJ c (ys.map (· + s))/\Ys c n b s (ys.map (· + s)):=by
 have hl:∀y∈ys.map (· + s),y<1:=λy hy=>by
  obtain⟨x,hx,rfl⟩:=wQ.mp hy;have:=nY x hx
  show x+s<1
  grind
 have e0:az (ys.map (· + s)) (wo n)=[]:=by
  unfold az;rw[qw];intro w hw;have hw':w<(ys.map (· + s)).length:=by rw[wd,h.yl];exact wB.mp hw
  rw[decide_eq_true (hl _ (GM.getD_mem (d:=0) hw'))];simp
 have W:bU 1 b n (ys.map (· + s)) (wo n)=([],wo n,ys.map (· + s)):=jE e0
 have ea:fM (wo n) (ys.map (· + s))=ys.map (· + s):=by
  have hn:(ys.map (· + s)).length=n:=by rw[wd];exact h.yl
  refine vQ (by rw[DU]) λw h1 h2=>?_
  have:=mV (left:=wo n) h2;rw[if_pos (wB.mpr (by omega)),wa,wc h1,wa,wc h2]at this;exact this
 obtain⟨k1,k2⟩:=JC h (us:=ys.map (· + s)) (by rw[wd];exact h.yl) (by rw[W];exact ea);refine⟨by rw[(oO h.ev h.n1 h.n8 h.jd).1,W],k1,⟨h.c1,h.jd,h.hs,h.s0,h.bd,h.b0,h.b1,h.n1,h.n8,by rw[wd];exact h.yl,k2,λy hy=>?_,hl⟩⟩;obtain⟨x,hx,rfl⟩:=wQ.mp hy;have:=h.hp.nn x hx;have:=h.s0
 show 0<=x+s
 grind
theorem zum(h:Ys c n b s ys)(hm:bE ys+s=1):fq (cK c n) (cJ c n b) (br n n) (bJ c ys) (bj n)=cD 1 b ys/\cI (cK c n) (cJ c n b) (br n n) (bJ c ys) (bj n)=bJ c (cU 1 b ys)/\Ys c n b s (cU 1 b ys):=by
 have er:ys.map (· + s)=cB ys:=by
  unfold cB;rw[show 1-bE ys=s by grind]
 have W:bU 1 b n (ys.map (· + s)) (wo n)=eJ 1 b ys:=by
  unfold eJ;rw[er,h.yl]
 obtain⟨k1,k2⟩:=JC h (us:=cU 1 b ys) (by rw[nQ];exact h.yl) (by rw[W];rfl);exact⟨by rw[(oO h.ev h.n1 h.n8 h.jd).1,W];rfl,k1,⟨h.c1,h.jd,h.hs,h.s0,h.bd,h.b0,h.b1,h.n1,h.n8,by rw[nQ];exact h.yl,k2,h.hp.rj (by decide) h.b0⟩⟩
end
theorem ZX{a b:Rat}{xs:List Rat}(h1:1<=xs.length):cD a b xs≠[]:=by
 have ne:az (cB xs) (wo xs.length)≠[]:=by
  obtain⟨w,hw,e⟩:=mf (0:Rat) (gJ h1);intro z
  have e1:(cB xs).getD w 0=1:=by
   unfold cB;rw[nM hw,e]
   grind
  have:w∈az (cB xs) (wo xs.length):=vG.mpr ⟨wB.mpr hw,by rw[e1];decide⟩;rw[z]at this;cases this
 obtain⟨m,hm⟩:∃m,xs.length=m+1:=⟨xs.length-1,by omega⟩;unfold cD eJ;rw[hm]at ne ⊢;rw[jC ne];simp
section
variable{c n:Nat}{b s:Rat}{ys:List Rat}
def eV(c:Nat)(ys:List Rat):Nat:=((c:Int)-pG c (bE ys)).toNat
theorem CG(h:Ys c n b s ys):((eV c ys:Int):Rat)=(c:Rat)*(1-bE ys)/\1<=eV c ys/\eV c ys<=c:=by
 have hm:bE ys∈ys:=gJ (by rw[h.yl];exact h.n1);have e:=Aw (h.yd _ hm);have l:=(NF h.c1 e).mpr (h.hp.lt _ hm);have l0:0<=pG c (bE ys):=Qo (uk _) (qE.mpr (h.hp.nn _ hm));unfold eV;refine⟨?_,by omega,by omega⟩;rw[Int.toNat_of_nonneg (by omega),Rat.intCast_sub,e]
 show(c:Rat)-_=_
 grind
theorem JP(h:Ys c n b s ys):∀t,t<eV c ys->stN (cK c n) (cJ c n b) (br n n) (bJ c ys) (bj n) t=(bJ c (ys.map (· + ((t:Int):Rat)*s)),bj n)/\Ys c n b s (ys.map (· + ((t:Int):Rat)*s))/\cx (cK c n) (cJ c n b) (br n n) (bJ c ys) (bj n) t=[]
 | 0,_=>by
  have e:ys.map (· + (((0:Nat):Int):Rat)*s)=ys:=by
   conv=>rhs;rw[<- List.map_id ys]
   refine vU λx _=>?_
   show x+0*s=x
   grind
  rw[e];exact⟨rfl,h,rfl⟩
 | t+1,ht=>by
  obtain⟨i1,i2,i3⟩:=JP h t (by omega);have mx:bE (ys.map (· + ((t:Int):Rat)*s))=bE ys+((t:Int):Rat)*s:=EW (by rw[h.yl];exact h.n1) _;have et:(((t+1:Nat):Int):Rat)=((t:Int):Rat)+1:=by push_cast;rfl
  have hlt:bE (ys.map (· + ((t:Int):Rat)*s))+s<1:=by
   rw[mx];have k1:=(CG h).1;have k2:(((t+1:Nat):Int):Rat)<((eV c ys:Int):Rat):=qp.mpr (by omega);rw[k1,et]at k2;have k3:=xo k2 h.s0;have hs:=h.hs
   have k4:(c:Rat)*(1-bE ys)*s=1-bE ys:=by
    have:(c:Rat)*(1-bE ys)*s=((c:Rat)*s)*(1-bE ys):=by grind
    rw[this,hs,xg]
   rw[k4]at k3
   grind
  obtain⟨t1,t2,t3⟩:=zyS i2 hlt
  have em:(ys.map (· + ((t:Int):Rat)*s)).map (· + s)=ys.map (· + (((t+1:Nat):Int):Rat)*s):=by
   rw[W3];refine vU λx _=>?_
   show x+((t:Int):Rat)*s+s=x+(((t+1:Nat):Int):Rat)*s
   rw[et]
   grind
  rw[em]at t2 t3;refine⟨?_,t3,?_⟩
  ·rw[stN,i1]
   show(cI _ _ _ (bJ c _) (bj n),d7 _ _ _ (bJ c _) (bj n))=_
   rw[t2,(oO i2.ev h.n1 h.n8 h.jd).2.2]
  ·rw[cx,i3]
   unfold dX;rw[i1]
   show []++(if fq _ _ _ (bJ c _) (bj n)=[]then _ else _)=[]
   rw[if_pos t1]
   rfl
theorem zA9(h:Ys c n b s ys):stN (cK c n) (cJ c n b) (br n n) (bJ c ys) (bj n) (eV c ys)=(bJ c (cU 1 b ys),bj n)/\Ys c n b s (cU 1 b ys)/\cx (cK c n) (cJ c n b) (br n n) (bJ c ys) (bj n) (eV c ys)=[(eV c ys,cD 1 b ys)]:=by
 obtain⟨k1,k2,k3⟩:=CG h;obtain⟨t,ht⟩:∃t,eV c ys=t+1:=⟨eV c ys-1,by omega⟩;obtain⟨i1,i2,i3⟩:=JP h t (by omega);have h1:1<=ys.length:=by rw[h.yl];exact h.n1
 have mx:bE (ys.map (· + ((t:Int):Rat)*s))=bE ys+((t:Int):Rat)*s:=EW h1 _;have et:(((t+1:Nat):Int):Rat)=((t:Int):Rat)+1:=by push_cast;rfl
 have heq:bE (ys.map (· + ((t:Int):Rat)*s))+s=1:=by
  rw[mx];rw[ht,et]at k1;have hs:=h.hs
  have k4:(c:Rat)*(1-bE ys)*s=1-bE ys:=by
   have:(c:Rat)*(1-bE ys)*s=((c:Rat)*s)*(1-bE ys):=by grind
   rw[this,hs,xg]
  rw[<- k1]at k4
  grind
 obtain⟨t1,t2,t3⟩:=zum i2 heq;have ew:cD 1 b (ys.map (· + ((t:Int):Rat)*s))=cD 1 b ys:=by unfold cD;rw[LQ h1]
 have ep:cU 1 b (ys.map (· + ((t:Int):Rat)*s))=cU 1 b ys:=by unfold cU;rw[LQ h1]
 rw[ew]at t1;rw[ep]at t2 t3;rw[ht];refine⟨?_,t3,?_⟩
 ·rw[stN,i1]
  show(cI _ _ _ (bJ c _) (bj n),d7 _ _ _ (bJ c _) (bj n))=_
  rw[t2,(oO i2.ev h.n1 h.n8 h.jd).2.2]
 ·rw[cx,i3]
  unfold dX;rw[i1]
  show []++(if fq _ _ _ (bJ c _) (bj n)=[]then _ else _)=_
  rw[t1,if_neg (ZX h1)]
  rfl
end
theorem Rj(rs:List Int)(us ts:List (List Int))(ps:List Int)(cm:List (List Int))(m:Nat):∀k,cx rs us ts ps cm (m+k)=cx rs us ts ps cm m++(cx rs us ts (stN rs us ts ps cm m).1 (stN rs us ts ps cm m).2 k).map λr=>(m+r.1,r.2)
 | 0=>by rw[cx];simp
 | k+1=>by
  have ih:=Rj rs us ts ps cm m k;have e:dX rs us ts (stN rs us ts ps cm m).1 (stN rs us ts ps cm m).2 k=dX rs us ts ps cm (m+k):=by unfold dX;rw[Bs]
  show cx rs us ts ps cm (m+k+1)=_
  rw[cx,ih,cx,e,wL,Vo]
  congr 2
  split
  ·rfl
  ·rfl
def eF(c:Nat)(b:Rat)(xs:List Rat):Nat->Nat
 | 0=>0
 | k+1=>eF c b xs k+eV c (bC 1 b xs k)
theorem CH{c n:Nat}{b s:Rat}{xs:List Rat}(h:Ys c n b s xs):∀k,stN (cK c n) (cJ c n b) (br n n) (bJ c xs) (bj n) (eF c b xs k)=(bJ c (bC 1 b xs k),bj n)/\Ys c n b s (bC 1 b xs k)/\cx (cK c n) (cJ c n b) (br n n) (bJ c xs) (bj n) (eF c b xs k)=(wo k).map (λj=>(eF c b xs (j+1),cD 1 b (bC 1 b xs j)))/\((eF c b xs k:Int):Rat)=(c:Rat)*dr 1 b xs k/\eF c b xs k<=c*k
 | 0=>⟨rfl,h,rfl,by show(0:Rat)=(c:Rat)*0;rw[Rat.mul_zero],Wg _⟩
 | k+1=>by
  obtain⟨i1,i2,i3,i4,i5⟩:=CH h k;obtain⟨o1,o2,o3⟩:=zA9 i2;obtain⟨t1,t2,t3⟩:=CG i2;refine⟨?_,o2,?_,?_,?_⟩
  ·show stN _ _ _ _ _ (eF c b xs k+eV c (bC 1 b xs k))=_
   rw[<- Bs,i1];exact o1
  ·show cx _ _ _ _ _ (eF c b xs k+eV c (bC 1 b xs k))=_
   rw[Rj,i3,i1,Vb,wL]
   congr 1
   show(cx _ _ _ (bJ c (bC 1 b xs k)) (bj n) (eV c (bC 1 b xs k))).map _=_
   rw[o3]
   rfl
  ·show(((eF c b xs k+eV c (bC 1 b xs k):Nat):Int):Rat)=(c:Rat)*(dr 1 b xs k+(1-bE (bC 1 b xs k)))
   rw[Int.natCast_add,QR,i4,t1]
   grind
  ·show eF c b xs k+eV c (bC 1 b xs k)<=c*(k+1)
   rw[qS,uR];omega
def N1(g:TG)(tt:TT)(te:TE)(src:List (Option Nat))(σ : L2.St)(vs:List V)(H1:Hp)(Q:VK):Prop :=
 ∃i j:Int,vs=[.int i,.int j]/\(-(2^62)<=i/\i<2^62 /\ -(2^62)<=j/\j<2^62) /\ ∀D,H1 D=none->g9 g tt te (fB i (j-i).toNat) D (cF src σ) (upd H1 D (.lst [])) (λH'=>Q (.ref D) H')
theorem Ye{g:TG}{tt:TT}{te:TE}{tA:TA}{src:List (Option Nat)}{σ : L2.St}{H:Hp}{Q:VK}(h:tA σ H λvs H1=>N1 g tt te src σ vs H1 Q):hJ src (BI tA) g tt te σ H Q:=h
theorem zqQ{g:TG}{tt:TT}{te:TE}{src:List (Option Nat)}{σ : L2.St}{H:Hp}{Q:VK}{lo hi:Int}(h0' : -1000000000<=lo)(h1:lo<1000000000)(h2 : -1000000000<=hi)(h3:hi<1000000000)(Pv:wf->Nat->List V->L2.St->Hp->Prop)(h0:∀D H',H D=none->af H H'->H' D=some (.lst [])->Pv D 0 [] (cF src σ) H')
  (hs:∀D (i:Nat) ys σ' H',i<(hi-lo).toNat->Pv D i ys σ' H'->fG Pv g tt te D i (.int (lo+(i:Int))) σ' H') (hd:∀D ys σ' H',Pv D (hi-lo).toNat ys σ' H'->Q (.ref D) H'):N1 g tt te src σ [.int lo,.int hi] H Q:=by
 refine⟨lo,hi,rfl,⟨by omega,by omega,by omega,by omega⟩,λD hD=>yD (N:=(hi-lo).toNat) Pv (λi x=>x=.int (lo+(i:Int))) (h0 D _ hD (af.upd hD) bW) (λi ys σ' H' hp hi=>hi) (λi ys σ' H' hp hi=>hi) (λi ys σ' H' x H2 hp hy=>?_)
  (λi x ys σ' H' hi hit hp=>?_) (hd D)⟩
 ·obtain⟨e,hy⟩:=hy
  exact⟨e,hy⟩
 ·subst hit
  exact hs D i ys σ' H' hi hp
local macro_rules | `(tactic| wtm_at "gs")=>`(tactic| (with_reducible apply Ye))
theorem IZ{t b:Int}(hb:0<b):(vC t b).den ∣ b.natAbs:=by
 rw[Q7,if_neg (by omega)];exact uj (xO ..)
def zf(K:wb):Sp:=λvs H Q _=>∃x0,vs=[x0] /\ ∃(a:wf)(ns:List Int),x0=.ref a/\gG K H a (ns.map V.int)/\ns.length<=63 /\ ∀H',Q (.bl true) H'
theorem ZE{c:Nat}(hc:0<c):∃s:Rat,(c:Rat)*s=1/\0<s:=by
 have hB:(0:Rat)<((c:Int):Rat):=sI (by omega);have q:=gr 1 (show(c:Int)≠0 by omega);refine⟨vC 1 c,by rw[ui];exact q,?_⟩;refine qP (c:=((c:Int):Rat)) ?_ (qD hB);rw[q,Rat.zero_mul]
 decide
theorem M9{c H:Nat}{h:Rat}(e:((H:Int):Rat)=(c:Rat)*h):((c:Int)*h.num).fdiv (h.den:Int)=(H:Int)/\((c:Int)*h.num) % (h.den:Int)=0:=by
 have hd:=den_pos h
 have hx:(h.num:Rat)=h*((h.den:Int):Rat):=by
  have:=gr h.num (show(h.den:Int)≠0 by omega);rw[Qg]at this;exact this.symm
 have k:((((c:Int)*h.num:Int)):Rat)=(((H:Int)*(h.den:Int):Int):Rat):=by
  rw[W2,W2,e,hx]
  show(c:Rat)*_=_
  grind
 rw[Us.mp k];exact⟨Int.mul_fdiv_cancel _ (by omega),Int.mul_emod_left _ _⟩
theorem Tu(T:Txt K mg a):aM P w K mg base aR 8 a.law a.Io zJ (zf K):=by
 refine T.SJ.F.ok fQ ?_ ?_;wtm_at "b1"
 refine⟨_,(ah (bZ (cE (cw (ak (Zp T) hr T.FC (aa (pv 0) ae)))) (aq (aH dY)) b7)
     (ah (aD 1 fQ.nd (ak (CY T) hr T.pX (aa (pv 0) (aa aC ae))))
     (ah (aD 2 fQ.nd (aK dD aC (ak (dR T) hr T.dF (aa (pv 1) (aa aC ae)))))
     (ah (aD 3 fQ.nd (aK dD aC (ak (dR T) hr T.dF (aa (pv 1) (aa aC ae)))))
     (ah (lh (i:=4) fQ.nd rfl (Or.inl rfl) rfl (bc.by (N':=["_law_d","_law_count"]) (src:=[none,some 3]) rfl (show bG _ (au jt).names kx ["_law_d","_law_count"] [none,some 3]=true from by decide +kernel)) (Oe rfl T.z_range (aa aC (aa aC ae))) (λ_ _ _ _ _=>(aN (i:=0) (show(["_law_d","_law_count"]:List Str).Nodup from by decide) rfl (Or.inl rfl))) (λ_ _ _ _ _=>(gM (cb (show aJ _ (wW .Eq) (dW K)from fN hu) (aK gu (pv 1) (pv 0)) aC (bD _)))) (λ_ _ _ _ _=>(pv 0)))
     (ah (aD 5 fQ.nd (cG bM (pv 4) (ak (dR T) hr T.dF (aa (pv 1) (aa (aU (show ay _ (.builtin "len") (bB K)from bX) rfl T.z_len bR (aa (pv 4) ae)) ae))) (λ_ _=>rfl)))
     (ah (aD 6 fQ.nd (b9 (aa (b9 (aa aC (aa aC ae))) (aa (ak (LC T) hr T.AZ (aa (ak (dR T) hr T.dF (aa (pv 1) (aa (aK dD (pv 5) aC) ae))) (aa (pv 5) ae))) ae))))
     (ah (aD 7 fQ.nd (ak (zpl T) hr T.GR (aa (pv 6) (aa (cn rfl (bc.by (N':=["_law_k","_law_count","_law_pen_here"]) (src:=[none,some 3,some 1]) rfl (show bG _ (au jt).names kx ["_law_k","_law_count","_law_pen_here"] [none,some 3,some 1]=true from by decide +kernel)) (fb rfl T.z_range (aa (pv 2) ae)) (λ_ _ _ _ _=>(aN (i:=0) (show(["_law_k","_law_count","_law_pen_here"]:List Str).Nodup from by decide) rfl (Or.inl rfl))) (λ_ _ _ _ _=>cy) (λ_ _ _ _ _=>(ak (LC (K:=K) (mg:=mg) (a:=a) T) hr T.AZ (aa (ak (dR (K:=K) (mg:=mg) (a:=a) T) hr T.dF (aa (pv 2) (aa (pv 1) ae))) (aa (pv 1) ae))))) ae))))
     (ah (aD 8 fQ.nd (ak (Ou T) hr T.AX (aa (pv 7) (aa (ak (dR T) hr T.dF (aa (pv 1) (aa aC ae))) ae))))
     (ah (bZ (cE (cw (ak (zg4 T) hr T.Fn (aa (pv 7) (aa (ak (J0 T) hr T.AR (aa (pv 1) (aa (pv 2) ae))) (aa (pv 8) ae)))))) (aq (aH dY)) b7)
     (ah (ni (jI (zt0 T) hr T.HC kX (aa (pv 7) ae)) (gz (n:=2) rfl (cV (aN (i:=9) fQ.nd rfl (Or.inl rfl)) (cV (aN (i:=10) fQ.nd rfl (Or.inl rfl)) gB))))
     (ah (aD 11 fQ.nd (aA (aA (pv 9))))
     (ah (lh (i:=12) fQ.nd rfl (Or.inl rfl) rfl (bc.by (N':=["_law_hour","_law_waves","_law_phases","_law_size"]) (src:=[none,none,none,some 11]) rfl (show bG _ (au jt).names kx ["_law_hour","_law_waves","_law_phases","_law_size"] [none,none,none,some 11]=true from by decide +kernel)) (e_ (pv 8)) (λ_ _ _ _ _=>by exact(show PG _ _ (je K 3 _)from gz (n:=3) rfl (cV (aN (i:=0) (show(["_law_hour","_law_waves","_law_phases","_law_size"]:List Str).Nodup from by decide) rfl (Or.inl rfl)) (cV (aN (i:=1) (show(["_law_hour","_law_waves","_law_phases","_law_size"]:List Str).Nodup from by decide) rfl (Or.inl rfl)) (cV (aN (i:=2) (show(["_law_hour","_law_waves","_law_phases","_law_size"]:List Str).Nodup from by decide) rfl (Or.inl rfl)) gB))))) (λ_ _ _ _ _=>cy) (λ_ _ _ _ _=>by exact(show PE _ _ (lj K _)from b9 (aa (aK dJ (aK dZ (pv 3) (fT (K:=K) bM (pv 0))) (fT (K:=K) bM (pv 0))) (aa (pv 1) ae)))))
     (ah (bZ (cb (show aJ _ (wW .NotEq) (eA K)from fF hu) (cn rfl (bc.by (N':=["_law_row","_law_size"]) (src:=[none,some 11]) rfl (show bG _ (au jt).names kx ["_law_row","_law_size"] [none,some 11]=true from by decide +kernel)) (e_ (pv 8)) (λ_ _ _ _ _=>(aN (i:=0) (show(["_law_row","_law_size"]:List Str).Nodup from by decide) rfl (Or.inl rfl))) (λ_ _ _ _ _=>(gM (cb (show aJ _ (wW .NotEq) (eA K)from fF hu) (aK gu (aK dZ (pv 1) (fT (K:=K) bM (fT (K:=K) bM (pv 0)))) (fT (K:=K) bM (fT (K:=K) bM (pv 0)))) aC (bD _)))) (λ_ _ _ _ _=>(pv 0))) (cS ae) (bD _)) (aq (aH dY)) b7)
     (ah (aD 13 fQ.nd (aK dD (cS (aa aC ae)) (cn rfl (bc.by (N':=["_law_at","_law_waves"]) (src:=[none,none]) rfl (show bG _ (au jt).names kx ["_law_at","_law_waves"] [none,none]=true from by decide +kernel)) (e_ (pv 12)) (λ_ _ _ _ _=>by exact(show PG _ _ (je K 2 _)from gz (n:=2) rfl (cV (aN (i:=0) (show(["_law_at","_law_waves"]:List Str).Nodup from by decide) rfl (Or.inl rfl)) (cV (aN (i:=1) (show(["_law_at","_law_waves"]:List Str).Nodup from by decide) rfl (Or.inl rfl)) gB)))) (λ_ _ _ _ _=>cy) (λ_ _ _ _ _=>(pv 0)))))
     (aq (aH (eW (show aJ _ (wW .Eq) (dW K)from fN hu) (ak (CB T) hr T.p_ (aa (pv 9) (aa (pv 10) (aa (cG bM (pv 13) (Md LA aC) (λ_ _=>rfl)) ae)))) (pv 12) (bD _))))))))))))))))))),?_⟩
 wtm_at "cl";rw[show start kx [x0]=[some x0,none,none,none,none,none,none,none,none,none,none,none,none,none]from rfl];obtain⟨a',ns0,rfl,hs,hl,q⟩:=h;o_head zi9 hs hl (λH0 K0=>?_);o_head BQ (K0.CN hs) hl (by decide) (by decide) (λp H1 hp1 S1 P1=>?_);k_few;rename_i m H2 m0 m1 E2 K2 P2 c H3 c0 c1 E3 K3 P3;refine zqQ (by decide) (by decide) (by decide) (by decide) (λD i ys σ' H'=>(∃o,σ'=[o,some (.int (1+c))])/\H3 D=none/\af H3 H' /\ ∃ms:List Int,H' D=some (.lst (ms.map V.int))/\ms.length<=i/\(∀x∈ms,(1<=x/\x<=12)/\(1+c) % x=0)/\(1<=i->ms≠[])) (λD H' n s e=>⟨⟨_,rfl⟩,n,s,[],e,by simp,by simp,by simp⟩) ?_ ?_
 . rintro D i ys σ' H4 hi ⟨⟨o,rfl⟩,n4,S4,ms,e4,hl4,hm,hne⟩
   have hi':i<12:=hi;k_few
   . rename_i hc
     refine dC e4 (by rw[wd];omega) (λH5 E5 e5=>⟨⟨_,rfl⟩,n4,S4.grow n4 E5,ms++[1+(i:Int)],by rw[wL];exact e5,by simp;omega,λx hx=>?_,λ_ z=>by simp at z⟩);rcases vR.mp hx with h | h
     . exact hm x h
     . rw[vv.mp h];exact⟨by omega,hc⟩
   . rename_i hc
     refine⟨ys,⟨_,rfl⟩,n4,S4,ms,e4,by omega,hm,λ_=>hne ?_⟩;rcases um i with h | h
     . subst h
       exact absurd (by simp) hc
     . exact h
 . rintro D ys σ' H4 ⟨_,n4,S4,ms,e4,hl4,hm,hne⟩
   have hl12:ms.length<=12:=hl4
   have hlp:0<ms.length:=by
     rcases um ms.length with h | h
     . exact absurd (Vq.mp h) (hne (by decide))
     . exact h
   have P4:=P3.same S4;have K4:aO H H4:=K0.trans (S1.keep.trans (K2.trans (K3.trans S4.keep)));have nDp:D≠p:=aX.ne n4 P3;o_head dU (.of e4) ?_;rw[wd];k_few;rename_i j H5 j0 j1 E5 K5 P5;have e5:=E5.at nDp e4;obtain⟨b',eb,hbm⟩:=KP (xs:=ms.map V.int) j0 (by rw[wd];exact j1);obtain⟨b,hbn,rfl⟩:=wQ.mp hbm;have hb:=hm b hbn;refine iR (.of e5) eb ?_;o_head oR (r:=1) rfl rfl (λv6 H6 S6 i6=>?_);have K6:aO H H6:=K4.trans (K5.trans S6.keep);have P6:=P5.same S6;k_few;rename_i t H7 t0 t1 E7 K7 P7 v8 H8 x8 S8 i8 e8 b8;have i68:=i6.ji (K7.trans S8.keep);refine cC (ds:=[N 1,N x8]) (by simp) (.cons i68 (.cons i8 .nil)) (λv9 H9 S9 i9=>?_);have i9:Is K H9 v9 (R 1 x8):=i9;have K9:aO H H9:=K6.trans (K7.trans (S8.keep.trans S9.keep));have P9:=(P7.same S8).same S9
   have ok9:gx 1 x8:=by
     obtain⟨b1,b2,b3⟩:=zCr (y:=x8) e8 (show 1<=b by omega) (show b<=12 by omega) t0 (show t<=b by omega);exact⟨by decide,by decide,by decide,b1,b2,b3,by grind⟩
   obtain⟨C,hC⟩:∃C:Nat,1+c=(C:Int):=⟨(1+c).toNat,by omega⟩
   have d8:x8.den ∣ C:=by
     rw[e8];refine xt (IZ (by omega)) ?_;have:=Int.dvd_of_emod_eq_zero hb.2;rw[hC]at this;exact Xn.mpr this
   rw[hC];o_head kW (n:=1+m) (by omega) (by omega) (λD i ys σ' H'=>(∃o,σ'=[o,some (.int (C:Int)),some (.ref p)])/\H9 D=none/\D≠p/\Exc p H9 H'/\aO H9 H'/\aX H' p 0 /\ ∃(us:List V)(xs:List Rat),H' D=some (.lst us)/\xs.length=i/\ag K H' us (xs.map N) /\ ∀x∈xs,fg x/\x.den ∣ C) ?_ ?_ ?_
   . intro D H' n s e
     exact⟨⟨_,rfl⟩,n,aX.ne n P9,s.exc,s.keep,P9.same s,[],[],e,rfl,.nil,by simp⟩
   . rintro D i ys σ' H10 hi ⟨⟨o,rfl⟩,n10,ne10,E10,K10,P10,us,xs,e10,hl10,t10,hm10⟩
     k_few;rename_i r H11 r0 r1 E11 K11 P11 v12 H12 x12 S12 i12 e12 b12;have hul:=t10.length;rw[wd]at hul;have eD:=S12 _ _ (E11.at ne10 e10);refine dC eD (by omega) (λH13 E13 e13=>?_);have K13:aO H12 H13:=E13.keep eD;refine⟨⟨_,rfl⟩,n10,ne10,λb o hb h=>E13 b o (cW h n10) (S12 b o ((E10.trans E11) b o hb h)),(K10.trans K11).trans (S12.keep.trans K13),(P11.same S12).exc E13 (Wz ne10),us++[v12],xs++[x12],e13,by simp[hl10],?_,?_⟩
     . rw[wL]
       exact(ag.keep (K11.trans (S12.keep.trans K13)) _ _ (oH _) t10).append (.cons (i12.ji K13) .nil)
     . intro x hx
       rcases vR.mp hx with h | h
       . exact hm10 x h
       . rw[vv.mp h,e12]
         exact⟨zvP r0 r1 (by omega),xt (IZ (by omega)) (by rw[Int.natAbs_natCast];exact Nat.dvd_refl _)⟩
   . rintro D2 ys2 σ' H10 ⟨_,n10,ne10,E10,K10,P10,us,xs,e10,hl10,t10,hm10⟩
     have i10:=i9.Iy K10;have K010:=K9.trans K10;obtain⟨n,hn⟩:∃n:Nat,1+m=(n:Int):=⟨(1+m).toNat,by omega⟩;have hxn:xs.length=n:=by have:xs.length=(1+m).toNat:=hl10;omega
     rw[hn];have ph:∀x∈xs,fg x:=λx hx=>(hm10 x hx).1
     o_head zpC i10 ok9 (.inl (lG e10 t10)) (by omega) (by omega) ph (λvw H11 S11 iw=>?_);have P11:=P10.same S11;have K011:=K010.trans S11.keep;k_few;rename_i k H12 k0 k1 E12 K12 P12;obtain⟨k,rfl⟩:=qf k0;have iw12:=iw.eX K12 (C0 _ _ _);have K012:=K011.trans K12
     have b6:∀j,ai 6 (xs.getD j 0):=λj=>by
       rcases wT j xs.length with z | z
       . exact(ph _ (GM.getD_mem z)).jb
       . rw[wa,wX z];exact ai.zero.mono (by decide)
     have cm:Cm 55 xs:=(Cm.Ir b6).mono (by omega);have hm:(2+21*xs.length)*k<=107*7:=VW (by omega) (by omega);refine Nr iw12 (ok9.ba.mono (by decide)) (ok9.bb.mono (by decide)) (by omega) (by omega) (by omega) (by omega) cm (by rw[wH];omega) (λlr H13 n13 S13 ir=>?_);rw[wH]at ir;have npr:lr≠p:=aX.ne n13 P12;have P13:=P12.same S13;have K013:=K012.trans S13.keep;have iw13:=iw12.by S13;o_head RY P13 (by omega) (λlo H14 ns n14 E14 K14 P14 e14 pm=>?_);have pm:ns.Perm (aS xs.length):=by rw[hxn];exact pm
     obtain⟨al,vsr,elr,slr,tlr⟩:=aW.mp ir;have elr:al=lr:=by injection elr with e;exact e.symm
     subst elr
     have slr14:aG K H14 al vsr:=by
       rcases slr with(h | ⟨o,h⟩) | h
       . exact .inl (.inl (E14.at npr h))
       . exact .inl (.inr ⟨o,E14.at npr h⟩)
       . exact .inr h
     have tlr14:ag K H14 vsr (c_ 1 x8 xs k):=ag.keep K14 _ _ (JX 1 x8 xs k) tlr;have ir14:Is K H14 (.ref al) (.list (c_ 1 x8 xs k)):=aW.mpr ⟨al,vsr,rfl,slr14,tlr14⟩;have iw14:=iw13.eX K14 (C0 _ _ _);have K014:=K013.trans K14;o_head zhf iw14 ok9 (by omega) (by omega) ph e14 pm ir14 (by omega) (λH15 S15=>?_);have ir15:=ir14.by S15;have iw15:=iw14.by S15;have K015:=K014.trans S15.keep;k_few
     have hdv:∀x∈x8::xs,x.den ∣ C:=λx hx=>by
       rcases wE.mp hx with rfl | hx
       . exact d8
       . exact(hm10 x hx).2
     have lC:bK 1 (x8::xs) ∣ C:=KZ (Nat.one_dvd _) hdv;have l20:=xu (by omega) lC;refine zuo iw15 ok9 (by omega) (by omega) ph (λhn'=>?_) (λ_ _ va H16 S16 ia=>?_)
     . rcases hn' with hn' | hn'
       . exact absurd rfl hn'
       . omega
     have hY:∃s,Ys (bK 1 (x8::xs)) xs.length x8 s xs:=by
       have c1:0<bK 1 (x8::xs):=Aq (x8::xs) 1 (by decide);obtain⟨s,hs1,hs2⟩:=ZE c1;exact⟨s,c1,by omega,hs1,hs2,pC (wN ..),ok9.b0,ok9.b1,by omega,by omega,rfl,λy hy=>pC (wI _ hy),⟨λx hx=>(ph x hx).nn,λx hx=>(ph x hx).lt⟩⟩
     obtain⟨s,hY⟩:=hY;obtain⟨cc,hcc⟩:∃cc,cc=bK 1 (x8::xs):=⟨_,rfl⟩;rw[<- hcc]at hY ia l20;have ia:Is K H16 va (.tuple [bI (wm xs.length (cc:Int)) (wm xs.length (fX cc x8)) (br xs.length xs.length),aY (bJ cc xs) (bj xs.length)]):=ia;have ir16:=ir15.by S16;have K016:=K015.trans S16.keep;refine r_ ia rfl λzs tz=>?_
     obtain⟨z1,zr,rfl,iz1,tz⟩:=ck.mp tz;obtain⟨z2,zr,rfl,iz2,tz⟩:=ck.mp tz;cases dM.mp tz;o_head iP iz1 (λy0 j0=>?_);o_head fW j0 (by decide) (by rw[wO];omega) ?_;rw[show(wm xs.length (cc:Int)).getD (0:Int).toNat 0=(cc:Int)from iI (by show 0<xs.length;omega)];k_few;obtain⟨h1',h2',h3',h4',h5'⟩:=CH hY k;obtain⟨R,hR⟩:∃R,R=(wo k).map (λj=>(eF cc x8 xs (j+1),cD 1 x8 (bC 1 x8 xs j))):=⟨_,rfl⟩;rw[<- hR]at h3';have lR:R.length=k:=by rw[hR];simp
     have gR:∀j (hj:j<R.length),R[j]=(eF cc x8 xs (j+1),cD 1 x8 (bC 1 x8 xs j)):=λj hj=>by simp[hR]
     have hrs:∀j,((eF cc x8 xs j:Int):Rat)=(cc:Rat)*dr 1 x8 xs j:=λj=>(CH hY j).2.2.2.1
     have bh:∀j,j<k->ai 8999 (dr 1 x8 xs (j+1)):=λj hj=>by
       have:=(Cm.A6 (ok9.ba.mono (by decide)) (ok9.bb.mono (by decide)) cm (by omega) (j+1)).jb (wN ..);refine this.mono ?_;have:(2+21*xs.length)*(j+1)<=107*8:=VW (by omega) (by omega);omega
     obtain⟨al',vsr',elr',slr',tlr'⟩:=aW.mp ir16;have elr':al'=al:=by injection elr' with e;exact e.symm
     subst elr';have lvs:=tlr'.length;rw[show(c_ 1 x8 xs k).length=k by simp[c_]]at lvs;have c20:cc<=20:=by omega
     have rowI:∀{i x},i<k->vsr'[i]? = some x->Is K H16 x (.tuple [N (dr 1 x8 xs (i+1)),cR (cD 1 x8 (bC 1 x8 xs i)),TN (bC 1 x8 xs (i+1))]):=λhi hx=>by
       have ix:=(cQ tlr' hx).2;rw[c_,gT hi]at ix;exact ix
     refine iF slr' (λD3 i ys σ' H'=>(∃o1 o2 o3,σ'=[o1,o2,o3,some (.int (cc:Int))])/\H16 D3=none/\af H16 H'/\H' D3=some (.lst ys)/\ag K H' ys ((R.take i).map dI)) ?_ ?_ ?_ ?_
     . exact λD3 H' n s e=>⟨⟨_,_,_,rfl⟩,n,s,e,.nil⟩
     . exact λD3 i ys σ' H' h=>h.2.2.1.seq slr'
     . rintro D3 i x ys σ' H' hx ⟨⟨o1,o2,o3,rfl⟩,nD,sD,eD,tD⟩
       have hi:i<k:=by rw[<- lvs];exact(vk.mp hx).1
       have ix:=rowI hi hx;have bhi:=bh i hi;have hd:=M9 (hrs (i+1));have gi:=gR i (by omega);obtain⟨hh,ehh⟩:∃hh,hh=dr 1 x8 xs (i+1):=⟨_,rfl⟩;rw[<- ehh]at ix bhi hd;have lD:=tD.length;rw[wd,vP]at lD;refine jJ (r_ (ix.by sD) rfl λzs tz=>?_);obtain⟨z1,zr,rfl,i1,tz⟩:=ck.mp tz;obtain⟨z2,zr,rfl,i2,tz⟩:=ck.mp tz;obtain⟨z3,zr,rfl,i3,tz⟩:=ck.mp tz;cases dM.mp tz;o_head kz ⟨by have:=den_pos hh;omega,bhi.b⟩ ?_;rw[hd.1];o_head cC (ds:=[.int (eF cc x8 xs (i+1):Int),cR (cD 1 x8 (bC 1 x8 xs i))]) (by simp) (.cons (bN.mpr rfl) (.cons i2 .nil)) (λv4 H4 S4 i4=>?_);refine dC (S4 _ _ eD) (by omega) (λH5 E5 e5=>⟨⟨_,_,_,rfl⟩,nD,(sD.trans S4).grow nD E5,e5,?_⟩);have K5:=E5.keep (S4 _ _ eD);rw[xc,wc (show i<R.length by omega),wL,gi];exact(ag.keep (S4.keep.trans K5) _ _ (Df _) tD).append (.cons (Is.eX K5 (sY (eF cc x8 xs (i+1),cD 1 x8 (bC 1 x8 xs i))) i4) .nil)
     . rintro D3 ys σ' H17 ⟨_,nD,S17,e17,t17⟩
       rw[lvs,Vd (by omega)]at t17;o_head iF (S17.seq slr') (λD4 i ys σ' H'=>(∃o,σ'=[o,some (.int (cc:Int))])/\H17 D4=none/\af H17 H'/\H' D4=some (.lst [])/\ys=[]) ?_ ?_ ?_ ?_
       . exact λD4 H' n s e=>⟨⟨_,rfl⟩,n,s,e,rfl⟩
       . exact λD4 i ys σ' H' h=>h.2.2.1.seq (S17.seq slr')
       . rintro D4 i x ys σ' H' hx ⟨⟨o,rfl⟩,nD4,sD4,eD4,rfl⟩
         have hi:i<k:=by rw[<- lvs];exact(vk.mp hx).1
         have ix:=rowI hi hx;have ix:=(ix.by S17).by sD4;have hd:=(M9 (hrs (i+1))).2;obtain⟨hh,ehh⟩:∃hh,hh=dr 1 x8 xs (i+1):=⟨_,rfl⟩;rw[<- ehh]at ix hd;have hdp:=den_pos hh;o_head bo (j:=0) ix rfl (λv0 i0=>?_);o_head bo (j:=0) ix rfl (λv1 i1=>?_);k_few
         all_goals first | (rename_i z;exact absurd hd z) | skip
         exact⟨_,⟨_,rfl⟩,nD4,sD4,eD4,rfl⟩
       . rintro D4 ys4 σ' H18 ⟨_,nD4,S18,e18,rfl⟩
         o_head iG (by simp) (λl19 H19 n19 S19 e19=>?_);refine w_ (n:=1) (d:=.list []) (aW.mpr ⟨D4,[],rfl,.of (S19 _ _ e18),.nil⟩) (aW.mpr ⟨l19,[],rfl,.of e19,.nil⟩) ((v_ (n:=0) λd hd=>by cases hd)) (by decide) (BG λd hd=>by cases hd) ?_;have T19:=S18.trans S19;have e17b:=T19 _ _ e17;have t17b:ag K H19 ys (R.map dI):=ag.same T19 _ _ t17;o_head iG (by simp) (λl20 H20 n20 S20 e20=>?_);have e17c:=S20 _ _ e17b;have t17c:ag K H20 ys (R.map dI):=ag.same S20 _ _ t17b;have lys:=t17c.length;rw[wd]at lys;o_head iF (.of e17c) (λD5 i us σ' H'=>(∃o1 o2,σ'=[o1,o2])/\H20 D5=none/\af H20 H'/\H' D5=some (.lst us)/\us=((R.take i).map λr=>((r.1:Nat):Int)).map V.int) ?_ ?_ ?_ ?_
         . exact λD5 H' n s e=>⟨⟨_,_,rfl⟩,n,s,e,rfl⟩
         . exact λD5 i us σ' H' h=>.of (h.2.2.1 _ _ e17c)
         . rintro D5 i x us σ' H' hx ⟨⟨o1,o2,rfl⟩,nD5,sD5,eD5,eus⟩
           have hi:i<R.length:=by rw[<- lys];exact(vk.mp hx).1
           obtain⟨_,ix⟩:=cQ t17c hx;rw[wa,wz,wc hi]at ix;have ix:Is K H20 x (.tuple [.int (R[i].1:Int),cR R[i].2]):=ix;have lus:us.length<=100:=by rw[eus,wd,wd,vP];omega
           refine jJ (r_ (ix.by sD5) rfl λzs tz=>?_);obtain⟨z1,zr,rfl,i1,tz⟩:=ck.mp tz;obtain⟨z2,zr,rfl,i2,tz⟩:=ck.mp tz;cases dM.mp tz;cases bN.mp i1;o_head dC eD5 (by omega) (λH5 E5 e5=>⟨⟨_,_,rfl⟩,nD5,sD5.grow nD5 E5,e5,?_⟩);rw[eus,xc,wc hi,wL,wL]
           rfl
         . rintro D5 us σ' H21 ⟨_,nD5,S21,e21,eus⟩
           rw[lys,Vd (wu _)]at eus;subst eus;o_head .inr (.inl ⟨_,_,_,_,rfl,rfl,S21 _ _ e20,e21,(by have zz:1000<=wY:=(by decide);simp;omega),λl22 n22=>?_⟩);have S22:af H21 (upd H21 l22 (.lst ([V.int 0]++((R.map λr=>((r.1:Nat):Int)).map V.int)))):=af.upd n22;have e22:(upd H21 l22 (.lst ([V.int 0]++((R.map λr=>((r.1:Nat):Int)).map V.int)))) l22=some (.lst ((0::R.map λr=>((r.1:Nat):Int)).map V.int)):=bW;generalize upd H21 l22 (.lst ([V.int 0]++((R.map λr=>((r.1:Nat):Int)).map V.int)))=H22 at *;have T22:=T19.trans (S20.trans (S21.trans S22));have U22:=S17.trans T22;k_few
           have last:((0::R.map λr=>((r.1:Nat):Int)).map V.int)[((0::R.map λr=>((r.1:Nat):Int)).map V.int).length-1]? = some (.int (eF cc x8 xs k:Int)):=by
             rw[wd,vA,wd,lR,X4,wz];cases k with
             | zero=>rfl
             | succ k' =>
               rw[qd,wz,wc (show k'<R.length by omega),gR k' (by omega)]
               rfl
           refine iR (.of e22) (TL last) ?_;k_few;have okW:=Co (show 1<=xs.length by omega) (show xs.length<=8 by omega) hY.c1 (show cc<=60 by omega) hY.bd hY.b0 hY.b1
           have hr9:eF cc x8 xs k<=900:=by
             have:cc*k<=20*7:=VW c20 (by omega);omega
           have sok:cq (wm xs.length (cc:Int)) (bJ cc xs) (bj xs.length):=by
             have:=P_ (rs:=wm xs.length (cc:Int)) (ps:=bJ cc xs) (by unfold bJ;rw[wd,wO]) (λi hi=>by
               rw[wO]at hi;rw[iI hi,mW hi];exact M7 (hY.yd _ (GM.getD_mem hi)) hY.c1 (ph _ (GM.getD_mem hi)))
             rwa[wO]at this
           refine Bw (iz1.by U22) okW (iz2.by U22) sok hr9 (λl23 us23 H23 n23 S23 e23 t23=>?_);rw[h3']at t23;k_few;have sh2:=(L5 R).shaped (show 6<=64 by decide);refine zi (aW.mpr ⟨l23,us23,rfl,.of e23,t23⟩) (aW.mpr ⟨D3,ys,rfl,.of (S23 _ _ (T22 _ _ e17)),ag.same (T22.trans S23) _ _ t17⟩) sh2 sh2 ?_;rw[OB];exact q _
end
theorem Oi{us:List we}(h:us.length=1):∃a,us=[a]:=by
 cases us with
 | nil=>cases h
 | cons a t=>exact⟨a,by rw[Vq.mp (xQ h)]⟩
theorem Og{us:List we}(h:us.length=2):∃a0 a1,us=[a0,a1]:=by
 cases us with
 | nil=>cases h
 | cons a0 t =>
  obtain⟨a1,e⟩:=Oi (xQ h);exact⟨a0,a1,by rw[e]⟩
theorem Mu{us:List we}(h:us.length=3):∃a0 a1 a2,us=[a0,a1,a2]:=by
 cases us with
 | nil=>cases h
 | cons a0 t =>
  obtain⟨a1,a2,e⟩:=Og (xQ h);exact⟨a0,a1,a2,by rw[e]⟩
theorem zBX{us:List we}(h:us.length=4):∃a0 a1 a2 a3,us=[a0,a1,a2,a3]:=by
 cases us with
 | nil=>cases h
 | cons a0 t =>
  obtain⟨a1,a2,a3,e⟩:=Mu (xQ h);exact⟨a0,a1,a2,a3,by rw[e]⟩
inductive aP(K:wb)(n:Str)(st:vD)(f:wf):Prop
 | mk {od an:Option wf} {sl:Array (Option we)} {oc kV dc pm cd ct:we} (a:vB K wU n=some (some (.ref f))) (l:K.lookup f=some ⟨oc,od,.func (VY n n (mq st) (kf st) (au st) .none kV dc pm an cd ct),sl⟩) (c:Q6 K cd n=true) (k:VS K (.ref f)=true):aP K n st f
theorem aP.dn{K:wb}{h:wK}{mg:Str->Option we}{n:Str}{st:vD}{f:wf}{ps:List Str}(A:aP K n st f)(X:K.In h)(G:h.Ns wU mg)
  (b:∀(kV doc pm:we)(an:Option wf)(cdv ct:we)(us:List we),us.length=ps.length->bindArgs (VY n n (mq st) (kf st) (au st) .none kV doc pm an cdv ct) ⟨us,[]⟩=pure (ps.zip us)):∃fd,Dn K mg n st ps f fd:=by
 obtain⟨a,l,c,k⟩:=A;have F:=Jg (st:=st) l c k;exact⟨_,F,vZ X G a,F.binds b⟩
set_option hygiene false in
local macro_rules | `(tactic| wtm_at "bd")=>`(tactic| (intro _ _ _ _ _ _ us hl; first | (obtain ⟨_,rfl⟩:=Oi hl; rfl) | (obtain ⟨_,_,rfl⟩:=Og hl; rfl) | (obtain ⟨_,_,_,rfl⟩:=Mu hl; rfl) | (obtain ⟨_,_,_,_,rfl⟩:=zBX hl; rfl)))
set_option maxHeartbeats 8000000 in
theorem all_mk{l:xX}{w:wR}{K:wb}{h:wK}{mg:Str->Option we}{fa:wf}(X:K.In h)(G:h.Ns wU mg)(hfa:mg "law"=some (.ref fa))
  {f0 f1 f2 f3 f4 f5 f6 f7 f8 f9 f10 f11 f12 f13 f14 f15 f16 f17 f18 f19 f20 f21 f22 f23 f24 f25 f26 f27 f28 f29 f30 f31 f32 f33 f34 f35 f36 f37 f38 f39 f40 f41 f42 f43 f44 f45 f46 f47 f48 f49 f50 f51 f52 f53 f54 f55 f56 f57 f58 f59 f60 f61 f62:wf}
  {e0:wf}
  {e1:wf}
  {e2:wf}
  {e3:wf}
  {g0:wf} {gn0:Nat} {gd0:Option wf} {gs0:Array (Option we)} {tk0_0 tk0_1:Tok}
  {g1:wf} {gn1:Nat} {gd1:Option wf} {gs1:Array (Option we)} {tk1_0 tk1_1:Tok}
  {g2:wf} {gn2:Nat} {gd2:Option wf} {gs2:Array (Option we)} {tk2_0 tk2_1:Tok}
  {tk3:Tok}
  {tk4:Tok}
  {tk5:Tok}
  {tk6:Tok}
  {tk7:Tok}
  {tk8:Tok}
  {tk9:Tok}
  {tk10:Tok}
  {tk11:Tok}
  (a0:aP K "is_whole" B1 f0)
  (a1:aP K "is_whole_from" DY f1)
  (a2:aP K "greatest_divisor" Ez f2)
  (a3:aP K "is_number" Cf f3)
  (a4:aP K "plus" Ec f4)
  (a5:aP K "minus" Cg f5)
  (a6:aP K "times" C6 f6)
  (a7:aP K "less" EF f7)
  (a8:aP K "is_factor" Dg f8)
  (a9:aP K "is_shift" EC f9)
  (a10:aP K "make_rule" D_ f10)
  (a11:aP K "is_rule" ED f11)
  (a12:aP K "bend" Ff f12)
  (a13:aP K "pushes" Ek f13)
  (a14:aP K "pushed_by" Et f14)
  (a15:aP K "is_listed" Fi f15)
  (a16:aP K "are_whole_from" Af f16)
  (a17:aP K "are_rounds" Fb f17)
  (a18:aP K "are_ups" z8 f18)
  (a19:aP K "is_tie" B_ f19)
  (a20:aP K "are_ties" zev f20)
  (a21:aP K "web_of" pe f21)
  (a22:aP K "are_web_phases" tL f22)
  (a23:aP K "none_coming" rC f23)
  (a24:aP K "stand_of" zO f24)
  (a25:aP K "is_order" zX f25)
  (a26:aP K "set_by" Bb f26)
  (a27:aP K "exchanged" Bc f27)
  (a28:aP K "exchanged_web" yR f28)
  (a29:aP K "exchanged_stand" tU f29)
  (a30:aP K "least_count" BX f30)
  (a31:aP K "whole_steps" En f31)
  (a32:aP K "all_ties" z9 f32)
  (a33:aP K "as_web" zR f33)
  (a34:aP K "is_phase" Cn f34)
  (a35:aP K "are_phases" Au f35)
  (a36:aP K "swarm_of" C7 f36)
  (a37:aP K "greatest" DX f37)
  (a38:aP K "at_the_end" yQ f38)
  (a39:aP K "glow" mR f39)
  (a40:aP K "history" BD f40)
  (a41:aP K "moved_up" ET f41)
  (a42:aP K "ended" sF f42)
  (a43:aP K "ties_from" Al f43)
  (a44:aP K "count_to" tW f44)
  (a45:aP K "coming_behind" zT f45)
  (a46:aP K "phases_at_first" DB f46)
  (a47:aP K "tick" mK f47)
  (a48:aP K "run" DW f48)
  (a49:aP K "stand_behind" CQ f49)
  (a50:aP K "ring" BZ f50)
  (a51:aP K "_law_pen" EN f51)
  (a52:aP K "_law_draw" EA f52)
  (a53:aP K "_law_ties" zj f53)
  (a54:aP K "_law_web" oK f54)
  (a55:aP K "_law_begin" BB f55)
  (a56:aP K "_law_order" rY f56)
  (a57:aP K "_law_low" CJ f57)
  (a58:aP K "_law_led" lX f58)
  (a59:aP K "_law_round" Dp f59)
  (a60:aP K "_law_webs_alike" kD f60)
  (a61:aP K "_law_history_right" tK f61)
  (a62:aP K "law" jt f62)
  (n_NoWeb:vB K wU "NoWeb"=some (some (.ref e0)))
  (n_NoStand:vB K wU "NoStand"=some (some (.ref e1)))
  (n_NoSwarm:vB K wU "NoSwarm"=some (some (.ref e2)))
  (n_TooLong:vB K wU "TooLong"=some (some (.ref e3)))
  (z_abs:vB K wU "abs"=some none)
  (z_all:vB K wU "all"=some none)
  (z_bool:vB K wU "bool"=some none)
  (z_enumerate:vB K wU "enumerate"=some none)
  (z_int:vB K wU "int"=some none)
  (z_isinstance:vB K wU "isinstance"=some none)
  (z_len:vB K wU "len"=some none)
  (z_list:vB K wU "list"=some none)
  (z_min:vB K wU "min"=some none)
  (z_range:vB K wU "range"=some none)
  (z_set:vB K wU "set"=some none)
  (z_sorted:vB K wU "sorted"=some none)
  (z_tuple:vB K wU "tuple"=some none)
  (z_zip:vB K wU "zip"=some none)
  (h_x_NoWeb:W5 K e0 jo "ValueError.__new__"=true)
  (h_m_NoWeb_TooLong:W9 K (.ref e0) (.ref e3)=some false)
  (h_x_NoStand:W5 K e1 jo "ValueError.__new__"=true)
  (h_m_NoStand_TooLong:W9 K (.ref e1) (.ref e3)=some false)
  (h_x_NoSwarm:W5 K e2 jo "ValueError.__new__"=true)
  (h_m_NoSwarm_TooLong:W9 K (.ref e2) (.ref e3)=some false)
  (h_x_TooLong:W5 K e3 jo "ValueError.__new__"=true)
  (h_m_TooLong_TooLong:W9 K (.ref e3) (.ref e3)=some true)
  (q0:vB K wU "NOUGHT"=some (some (.ref g0)))
  (r0:K.lookup g0=some ⟨.type "tuple",gd0,.seq #[.int 0 tk0_0,.int 1 tk0_1] gn0,gs0⟩)
  (q1:vB K wU "ONE"=some (some (.ref g1)))
  (r1:K.lookup g1=some ⟨.type "tuple",gd1,.seq #[.int 1 tk1_0,.int 1 tk1_1] gn1,gs1⟩)
  (q2:vB K wU "GREATEST_FACTOR"=some (some (.ref g2)))
  (r2:K.lookup g2=some ⟨.type "tuple",gd2,.seq #[.int 4 tk2_0,.int 1 tk2_1] gn2,gs2⟩)
  (q3:vB K wU "FACTOR_BOTTOM"=some (some (.int 8 tk3)))
  (q4:vB K wU "SHIFT_BOTTOM"=some (some (.int 12 tk4)))
  (q5:vB K wU "MOST_WORMS_webs"=some (some (.int 8 tk5)))
  (q6:vB K wU "MOST_ROUND"=some (some (.int 60 tk6)))
  (q7:vB K wU "MOST_UP"=some (some (.int 60 tk7)))
  (q8:vB K wU "MOST_TIES"=some (some (.int 60 tk8)))
  (q9:vB K wU "MOST_DELAY"=some (some (.int 4 tk9)))
  (q10:vB K wU "MOST_WORMS_swarms"=some (some (.int 8 tk10)))
  (q11:vB K wU "PHASE_BOTTOM"=some (some (.int 60 tk11)))
  : ∃fd:wJ,(∀(s:wk)(v:we),BindsTo s fd ⟨[v],[]⟩ [("_law_script",v)]) /\ ∀base:wK,K.In base->base.Ns wU mg->aM l.prog w K mg base aR 8 fa fd ["_law_script"] (zf K):=by
 obtain⟨aL,lL,cL,kL⟩:=a62;cases hfa.symm.trans (vZ X G aL);have FL:=Jg (st:=jt) lL cL kL;have D62:Dn K mg _ _ zJ _ _:=⟨FL,vZ X G aL,FL.binds (by wtm_at "bd")⟩;have⟨_,D0⟩:=a0.dn (ps:=sS) X G (by wtm_at "bd");have⟨_,D1⟩:=a1.dn (ps:=yH) X G (by wtm_at "bd");have⟨_,D2⟩:=a2.dn (ps:=Ao) X G (by wtm_at "bd");have⟨_,D3⟩:=a3.dn (ps:=Ar) X G (by wtm_at "bd");have⟨_,D4⟩:=a4.dn (ps:=Ai) X G (by wtm_at "bd");have⟨_,D5⟩:=a5.dn (ps:=zk) X G (by wtm_at "bd");have⟨_,D6⟩:=a6.dn (ps:=zF) X G (by wtm_at "bd");have⟨_,D7⟩:=a7.dn (ps:=zI) X G (by wtm_at "bd");have⟨_,D8⟩:=a8.dn (ps:=Ax) X G (by wtm_at "bd");have⟨_,D9⟩:=a9.dn (ps:=sG) X G (by wtm_at "bd");have⟨_,D10⟩:=a10.dn (ps:=y_) X G (by wtm_at "bd");have⟨_,D11⟩:=a11.dn (ps:=AD) X G (by wtm_at "bd");have⟨_,D12⟩:=a12.dn (ps:=yf) X G (by wtm_at "bd");have⟨_,D13⟩:=a13.dn (ps:=rF) X G (by wtm_at "bd");have⟨_,D14⟩:=a14.dn (ps:=yi) X G (by wtm_at "bd");have⟨_,D15⟩:=a15.dn (ps:=rA) X G (by wtm_at "bd");have⟨_,D16⟩:=a16.dn (ps:=Az) X G (by wtm_at "bd");have⟨_,D17⟩:=a17.dn (ps:=sR) X G (by wtm_at "bd");have⟨_,D18⟩:=a18.dn (ps:=sC) X G (by wtm_at "bd");have⟨_,D19⟩:=a19.dn (ps:=yW) X G (by wtm_at "bd");have⟨_,D20⟩:=a20.dn (ps:=zm) X G (by wtm_at "bd");have⟨_,D21⟩:=a21.dn (ps:=sZ) X G (by wtm_at "bd");have⟨_,D22⟩:=a22.dn (ps:=sf) X G (by wtm_at "bd");have⟨_,D23⟩:=a23.dn (ps:=zN) X G (by wtm_at "bd");have⟨_,D24⟩:=a24.dn (ps:=zd) X G (by wtm_at "bd");have⟨_,D25⟩:=a25.dn (ps:=tH) X G (by wtm_at "bd")
 have⟨_,D26⟩:=a26.dn (ps:=zx) X G (by wtm_at "bd");have⟨_,D27⟩:=a27.dn (ps:=sr) X G (by wtm_at "bd");have⟨_,D28⟩:=a28.dn (ps:=u_) X G (by wtm_at "bd");have⟨_,D29⟩:=a29.dn (ps:=rD) X G (by wtm_at "bd");have⟨_,D30⟩:=a30.dn (ps:=z_) X G (by wtm_at "bd");have⟨_,D31⟩:=a31.dn (ps:=rH) X G (by wtm_at "bd");have⟨_,D32⟩:=a32.dn (ps:=zg) X G (by wtm_at "bd");have⟨_,D33⟩:=a33.dn (ps:=rG) X G (by wtm_at "bd");have⟨_,D34⟩:=a34.dn (ps:=tQ) X G (by wtm_at "bd");have⟨_,D35⟩:=a35.dn (ps:=yg) X G (by wtm_at "bd");have⟨_,D36⟩:=a36.dn (ps:=zD) X G (by wtm_at "bd");have⟨_,D37⟩:=a37.dn (ps:=yu) X G (by wtm_at "bd");have⟨_,D38⟩:=a38.dn (ps:=za) X G (by wtm_at "bd");have⟨_,D39⟩:=a39.dn (ps:=zh) X G (by wtm_at "bd");have⟨_,D40⟩:=a40.dn (ps:=rT) X G (by wtm_at "bd");have⟨_,D41⟩:=a41.dn (ps:=yp) X G (by wtm_at "bd");have⟨_,D42⟩:=a42.dn (ps:=sN) X G (by wtm_at "bd");have⟨_,D43⟩:=a43.dn (ps:=yZ) X G (by wtm_at "bd");have⟨_,D44⟩:=a44.dn (ps:=zu) X G (by wtm_at "bd");have⟨_,D45⟩:=a45.dn (ps:=Ab) X G (by wtm_at "bd");have⟨_,D46⟩:=a46.dn (ps:=z7) X G (by wtm_at "bd");have⟨_,D47⟩:=a47.dn (ps:=sP) X G (by wtm_at "bd");have⟨_,D48⟩:=a48.dn (ps:=zG) X G (by wtm_at "bd");have⟨_,D49⟩:=a49.dn (ps:=zQ) X G (by wtm_at "bd");have⟨_,D50⟩:=a50.dn (ps:=tE) X G (by wtm_at "bd");have⟨_,D51⟩:=a51.dn (ps:=rQ) X G (by wtm_at "bd");have⟨_,D52⟩:=a52.dn (ps:=AF) X G (by wtm_at "bd");have⟨_,D53⟩:=a53.dn (ps:=sE) X G (by wtm_at "bd");have⟨_,D54⟩:=a54.dn (ps:=Ak) X G (by wtm_at "bd")
 have⟨_,D55⟩:=a55.dn (ps:=rX) X G (by wtm_at "bd");have⟨_,D56⟩:=a56.dn (ps:=Ah) X G (by wtm_at "bd");have⟨_,D57⟩:=a57.dn (ps:=sJ) X G (by wtm_at "bd");have⟨_,D58⟩:=a58.dn (ps:=zo) X G (by wtm_at "bd");have⟨_,D59⟩:=a59.dn (ps:=sW) X G (by wtm_at "bd");have⟨_,D60⟩:=a60.dn (ps:=zE) X G (by wtm_at "bd");have⟨_,D61⟩:=a61.dn (ps:=AJ) X G (by wtm_at "bd")
 have T:Txt K mg ⟨f0,_,f1,_,f2,_,f3,_,f4,_,f5,_,f6,_,f7,_,f8,_,f9,_,f10,_,f11,_,f12,_,f13,_,f14,_,f15,_,f16,_,f17,_,f18,_,f19,_,f20,_,f21,_,f22,_,f23,_,f24,_,f25,_,f26,_,f27,_,f28,_,f29,_,f30,_,f31,_,f32,_,f33,_,f34,_,f35,_,f36,_,f37,_,f38,_,f39,_,f40,_,f41,_,f42,_,f43,_,f44,_,f45,_,f46,_,f47,_,f48,_,f49,_,f50,_,f51,_,f52,_,f53,_,f54,_,f55,_,f56,_,f57,_,f58,_,f59,_,f60,_,f61,_,_,_,e0,e1,e2,e3,g0,g1,g2⟩:=⟨D0,
  D1,
  D2,
  D3,
  D4,
  D5,
  D6,
  D7,
  D8,
  D9,
  D10,
  D11,
  D12,
  D13,
  D14,
  D15,
  D16,
  D17,
  D18,
  D19,
  D20,
  D21,
  D22,
  D23,
  D24,
  D25,
  D26,
  D27,
  D28,
  D29,
  D30,
  D31,
  D32,
  D33,
  D34,
  D35,
  D36,
  D37,
  D38,
  D39,
  D40,
  D41,
  D42,
  D43,
  D44,
  D45,
  D46,
  D47,
  D48,
  D49,
  D50,
  D51,
  D52,
  D53,
  D54,
  D55,
  D56,
  D57,
  D58,
  D59,
  D60,
  D61,
  D62,
  vY X G z_abs,
  vY X G z_all,
  vY X G z_bool,
  vY X G z_enumerate,
  vY X G z_int,
  vY X G z_isinstance,
  vY X G z_len,
  vY X G z_list,
  vY X G z_min,
  vY X G z_range,
  vY X G z_set,
  vY X G z_sorted,
  vY X G z_tuple,
  vY X G z_zip,
  vZ X G n_NoWeb,
  vZ X G n_NoStand,
  vZ X G n_NoSwarm,
  vZ X G n_TooLong,
  h_x_NoWeb,
  h_m_NoWeb_TooLong,
  h_x_NoStand,
  h_m_NoStand_TooLong,
  h_x_NoSwarm,
  h_m_NoSwarm_TooLong,
  h_x_TooLong,
  h_m_TooLong_TooLong,
  vZ X G q0,
  λH=>.inr ⟨_,_,_,r0,rfl,rfl,by simp;decide,(.cons ⟨_,rfl⟩ (.cons ⟨_,rfl⟩ .nil))⟩,
  vZ X G q1,
  λH=>.inr ⟨_,_,_,r1,rfl,rfl,by simp;decide,(.cons ⟨_,rfl⟩ (.cons ⟨_,rfl⟩ .nil))⟩,
  vZ X G q2,
  λH=>.inr ⟨_,_,_,r2,rfl,rfl,by simp;decide,(.cons ⟨_,rfl⟩ (.cons ⟨_,rfl⟩ .nil))⟩,
  ⟨_,vZ X G q3⟩,
  ⟨_,vZ X G q4⟩,
  ⟨_,vZ X G q5⟩,
  ⟨_,vZ X G q6⟩,
  ⟨_,vZ X G q7⟩,
  ⟨_,vZ X G q8⟩,
  ⟨_,vZ X G q9⟩,
  ⟨_,vZ X G q10⟩,
  ⟨_,vZ X G q11⟩⟩
 exact⟨_,λs v=>.of_eq rfl,λbase _ _=>Tu T⟩
theorem walk{l:xX}{q:wP}{loose:List Str}{XP:(Str->Option we)->wK->Prop}{YP:wR->wK->Prop}{d:DefRec}{K:Params->wb}(hn:l.most=some 63)(hdf:d.params.defaults=[])
  (hY:∀(w:wR)(h:wK),YP w h->(K w.params).In h)
  (F:∀(w:wR)(mg:Str->Option we)(fa:wf)(h:wK),(K w.params).In h->h.Ns wU mg->mg d.name=some (.ref fa) ->
   ∃fd:wJ,(∀(s:wk)(u:we),BindsTo s fd ⟨[u],[]⟩ [("_law_script",u)]) /\ ∀base:wK,(K w.params).In base->base.Ns wU mg->aM l.prog w (K w.params) mg base aR 8 fa fd ["_law_script"] (zf (K w.params))) :
  UK q loose XP YP l.row.toRowW d [] (λf vs=>Uc f vs) :=
 L2.SA (n:=63) (k:=8) (x:="_law_script") (CX:=λ_=>aR) (sp:=λw=>zf (K w.params)) hn (by decide) hdf ⟨rfl,by decide,by decide,rfl⟩ hY F (λ_ H a ns hl hO hS=>⟨.ref a,rfl,a,ns,rfl,zBx hO hS,hl,λ_=>rfl⟩) λ_ _ _ _ _ z=>z
end G
local macro_rules | `(tactic| wtm_at "fk")=>`(tactic| (refine' G.aP.mk ?a ?l ?c ?k; (case a=>k_is); (case l=>k_is); (case c=>k_is); (case k=>k_is)))
open PySem PySem.W PyProof.Rows
set_option maxRecDepth 100000 in
set_option maxHeartbeats 0 in
theorem PySem.Challenge.cw_glowflock_k54_whole_exchanged_and_steppe_holds : PySem.Challenge.rw_glowflock_k54_whole_exchanged_and_steppe.Holds := by
 w_on; refine GH.head ?_
 k_fill
 refine G.walk (l:=PySem.Challenge.rw_glowflock_k54_whole_exchanged_and_steppe) rfl rfl (fun w h Y=>PySem.W.kIn_of Y) ?F
 case F =>
   intro w mg fa h KX GG hmg;refine' G.all_mk KX GG hmg ?a0 ?a1 ?a2 ?a3 ?a4 ?a5 ?a6 ?a7 ?a8 ?a9 ?a10 ?a11 ?a12 ?a13 ?a14 ?a15 ?a16 ?a17 ?a18 ?a19 ?a20 ?a21 ?a22 ?a23 ?a24 ?a25 ?a26 ?a27 ?a28 ?a29 ?a30 ?a31 ?a32 ?a33 ?a34 ?a35 ?a36 ?a37 ?a38 ?a39 ?a40 ?a41 ?a42 ?a43 ?a44 ?a45 ?a46 ?a47 ?a48 ?a49 ?a50 ?a51 ?a52 ?a53 ?a54 ?a55 ?a56 ?a57 ?a58 ?a59 ?a60 ?a61 ?a62 ?n_NoWeb ?n_NoStand ?n_NoSwarm ?n_TooLong ?z_abs ?z_all ?z_bool ?z_enumerate ?z_int ?z_isinstance ?z_len ?z_list ?z_min ?z_range ?z_set ?z_sorted ?z_tuple ?z_zip ?h_x_NoWeb ?h_m_NoWeb_TooLong ?h_x_NoStand ?h_m_NoStand_TooLong ?h_x_NoSwarm ?h_m_NoSwarm_TooLong ?h_x_TooLong ?h_m_TooLong_TooLong ?q0 ?r0 ?q1 ?r1 ?q2 ?r2 ?q3 ?q4 ?q5 ?q6 ?q7 ?q8 ?q9 ?q10 ?q11
   (case a0=>wtm_at "fk")
   (case a1=>wtm_at "fk")
   (case a2=>wtm_at "fk")
   (case a3=>wtm_at "fk")
   (case a4=>wtm_at "fk")
   (case a5=>wtm_at "fk")
   (case a6=>wtm_at "fk")
   (case a7=>wtm_at "fk")
   (case a8=>wtm_at "fk")
   (case a9=>wtm_at "fk")
   (case a10=>wtm_at "fk")
   (case a11=>wtm_at "fk")
   (case a12=>wtm_at "fk")
   (case a13=>wtm_at "fk")
   (case a14=>wtm_at "fk")
   (case a15=>wtm_at "fk")
   (case a16=>wtm_at "fk")
   (case a17=>wtm_at "fk")
   (case a18=>wtm_at "fk")
   (case a19=>wtm_at "fk")
   (case a20=>wtm_at "fk")
   (case a21=>wtm_at "fk")
   (case a22=>wtm_at "fk")
   (case a23=>wtm_at "fk")
   (case a24=>wtm_at "fk")
   (case a25=>wtm_at "fk")
   (case a26=>wtm_at "fk")
   (case a27=>wtm_at "fk")
   (case a28=>wtm_at "fk")
   (case a29=>wtm_at "fk")
   (case a30=>wtm_at "fk")
   (case a31=>wtm_at "fk")
   (case a32=>wtm_at "fk")
   (case a33=>wtm_at "fk")
   (case a34=>wtm_at "fk")
   (case a35=>wtm_at "fk")
   (case a36=>wtm_at "fk")
   (case a37=>wtm_at "fk")
   (case a38=>wtm_at "fk")
   (case a39=>wtm_at "fk")
   (case a40=>wtm_at "fk")
   (case a41=>wtm_at "fk")
   (case a42=>wtm_at "fk")
   (case a43=>wtm_at "fk")
   (case a44=>wtm_at "fk")
   (case a45=>wtm_at "fk")
   (case a46=>wtm_at "fk")
   (case a47=>wtm_at "fk")
   (case a48=>wtm_at "fk")
   (case a49=>wtm_at "fk")
   (case a50=>wtm_at "fk")
   (case a51=>wtm_at "fk")
   (case a52=>wtm_at "fk")
   (case a53=>wtm_at "fk")
   (case a54=>wtm_at "fk")
   (case a55=>wtm_at "fk")
   (case a56=>wtm_at "fk")
   (case a57=>wtm_at "fk")
   (case a58=>wtm_at "fk")
   (case a59=>wtm_at "fk")
   (case a60=>wtm_at "fk")
   (case a61=>wtm_at "fk")
   (case a62=>wtm_at "fk")
   (case n_NoWeb=>k_is)
   (case n_NoStand=>k_is)
   (case n_NoSwarm=>k_is)
   (case n_TooLong=>k_is)
   (case z_abs=>k_is)
   (case z_all=>k_is)
   (case z_bool=>k_is)
   (case z_enumerate=>k_is)
   (case z_int=>k_is)
   (case z_isinstance=>k_is)
   (case z_len=>k_is)
   (case z_list=>k_is)
   (case z_min=>k_is)
   (case z_range=>k_is)
   (case z_set=>k_is)
   (case z_sorted=>k_is)
   (case z_tuple=>k_is)
   (case z_zip=>k_is)
   (case h_x_NoWeb=>k_exc)
   (case h_m_NoWeb_TooLong=>kts_exm)
   (case h_x_NoStand=>k_exc)
   (case h_m_NoStand_TooLong=>kts_exm)
   (case h_x_NoSwarm=>k_exc)
   (case h_m_NoSwarm_TooLong=>kts_exm)
   (case h_x_TooLong=>k_exc)
   (case h_m_TooLong_TooLong=>kts_exm)
   (case q0=>k_is)
   (case r0=>k_is)
   (case q1=>k_is)
   (case r1=>k_is)
   (case q2=>k_is)
   (case r2=>k_is)
   (case q3=>k_is)
   (case q4=>k_is)
   (case q5=>k_is)
   (case q6=>k_is)
   (case q7=>k_is)
   (case q8=>k_is)
   (case q9=>k_is)
   (case q10=>k_is)
   (case q11=>k_is)
#print axioms PySem.Challenge.cw_glowflock_k54_whole_exchanged_and_steppe_holds
