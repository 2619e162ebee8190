import PyProof.Rows.All
import Wide.All
import OpenK.AllK
import Wide.FinOn
import Lean
import PyProof.EqAt
import PyProof.EqKinds
import PyProof.TupleCall
import PyProof.P3In
import PyProof.ReprRoads
import PyProof.MaxThree
import PyProof.Rows.SetFrom
import PyProof.SetRoads
import PyProof.AttrMissHeap
import KE.KDictOf
import PyProof.Walks
import KE.KItemsList
import PyProof.DictValues
import PyProof.DictWalks
import PySem.Challenge.RW_glowflock_k36_whole_moved_alike
set_option compiler.extract_closed false
set_option Elab.async false
set_option linter.all false
set_option maxRecDepth 100000
open Array renaming append_assoc->xA,forIn_toList->qp,getElem?_eq_none->Q2,getElem?_eq_some_iff->WD,length_toList->WY,toList->ua
open Bool renaming and_eq_true->wW,and_eq_true_iff->Q9,and_false->XZ,and_true->xm,beq_eq_decide_eq->qK,eq_iff_iff->vC,false_and->Wh,false_eq_true->Wl,false_ne_true->vn,not_eq_true->Xq,not_eq_true'->WR,not_false->Q5,not_true->V6,or_eq_true->XG,or_false->X2,true_and->VJ
open Classical renaming not_not->VS
open False renaming elim->WC
open Int renaming dvd_mul_left->Xk,dvd_mul_right->Vm,dvd_trans->V5,ediv_eq_of_eq_mul_right->Qa,ediv_le_self->Xl,ediv_mul_le->XR,emod_lt_of_pos->qq,emod_nonneg->qN,fdiv_eq_ediv_of_nonneg->Vh,gcd->vk,gcd_comm->xD,gcd_dvd_left->V2,gcd_dvd_right->qA,gcd_pos_of_ne_zero_right->VW,gcd_zero_right->xM,mul_assoc->VI,mul_ediv_cancel_left->Vw,mul_le_mul_of_nonneg_right->Wq,mul_ne_zero->QK,mul_neg->Xb,mul_nonneg->X0,mul_one->QQ,mul_pos->vI,natAbs_ediv_le_natAbs->Qr,natAbs_mul->Q3,natAbs_neg->XU,natCast_ediv->Vx,natCast_mul->Vc,neg_dvd->Xa,neg_one_mul->XA,one_mul->QU,pow_add->Xf,pow_ne_zero->VM,pow_pos->Xd,pow_succ->Vy,pow_zero->qO,sign_eq_neg_one_of_neg->Qg,sign_eq_one_of_pos->QT,toNat->QL,toNat_natCast->wP,zero_sub->Qz
open List renaming Pairwise->xl,all_cons->xk,all_eq_true->Wt,all_map->xI,any_cons->qH,any_eq_true->Xu,append_assoc->VR,append_nil->Wd,cons_append->Xj,dropLast_concat_getLast->qV,dropLast_eq_take->Q6,drop_eq_getElem_cons->qb,drop_eq_nil_of_le->QW,drop_succ_cons->qS,drop_zero->XX,eq_nil_of_length_eq_zero->WW,ext_getElem->WH,filterMap_cons->qQ,filter_append->WN,filter_congr->vG,filter_cons->WG,filter_eq_nil_iff->QX,filter_filter->qm,find?_cons->XM,find?_some->XN,flatten_cons->Vk,foldl->Xx,foldl_append->xS,forIn_cons->qc,forIn_nil->qX,getD_eq_getElem?_getD->wb,getElem?_append_left->vY,getElem?_append_right->vg,getElem?_drop->xF,getElem?_eq_getElem->wc,getElem?_eq_none->wE,getElem?_eq_some_iff->WP,getElem?_map->wt,getElem?_range->vT,getElem?_replicate->QD,getElem?_set->Vl,getElem?_set_ne->xa,getElem?_set_self->QP,getElem?_tail->xO,getElem?_toArray->Q7,getElem_drop->xU,getElem_map->VC,getElem_mem->vO,getElem_of_mem->w9,getElem_take->xT,length_append->wR,length_cons->vP,length_drop->vU,length_dropLast->xj,length_eq_zero_iff->qz,length_filter_le->Wr,length_map->wm,length_nil->QN,length_pos_iff->VF,length_pos_of_mem->QY,length_range->vB,length_replicate->Wi,length_set->Vb,length_singleton->vS,length_tail->VA,length_take->Ws,length_zipWith->xo,lookup_cons->V4,map_append->vD,map_congr_left->qR,map_cons->w8,map_drop->X5,map_dropLast->Qp,map_map->VB,map_nil->Qu,map_replicate->xP,mem_append->vM,mem_append_left->Vr,mem_append_right->vR,mem_cons->wG,mem_cons_of_mem->wB,mem_cons_self->wC,mem_filter->vb,mem_filterMap->qY,mem_iff_getElem->xg,mem_map->wS,mem_of_find?_eq_some->Qt,mem_of_getElem?->xb,mem_or_eq_of_mem_set->Qs,mem_range->wF,mem_singleton->wY,nil_append->qL,nodup_cons->VL,nodup_range->W1,not_mem_nil->Wv,of_mem_zip->QI,pairwise_append->V3,pairwise_cons->WM,pairwise_iff_getElem->Wf,pairwise_map->Qm,pairwise_singleton->QE,range->wq,range_succ->qM,replicate->w6,replicate_succ->VE,set_cons_succ->xK,set_cons_zero->xL,size_toArray->wH,sum_cons->WT,tail_cons->XV,take_add_one->qB,take_length->Wc,take_of_length_le->W8,take_sublist->xQ,take_subset->Xm,take_succ_cons->xt,take_zero->Q8,zipIdx_cons->Xs,zipIdx_nil->XI
open List.Pairwise renaming drop->ug
open Nat renaming add_assoc->VH,add_le_add_left->xv,add_sub_cancel->qk,eq_zero_or_pos->xN,gcd_dvd_right->xR,le_add_right->W3,le_max_left->XB,le_max_right->Xi,le_of_dvd->X6,le_of_eq->xC,le_of_lt->WQ,le_refl->wo,le_trans->Wb,lt_irrefl->WS,lt_of_le_of_lt->WJ,lt_of_lt_of_le->wU,lt_or_ge->wD,lt_succ_of_lt->qC,lt_trichotomy->Vn,lt_two_pow_self->xw,min_le_right->Xg,mod_eq_of_lt->Xn,mod_lt->XF,mul_le_mul->V1,mul_le_mul_left->qT,mul_le_mul_right->vZ,mul_succ->qj,ne_of_gt->vf,ne_of_lt->wO,pow_add->Xc,pow_succ->xE,sub_self->Vz,succ_mul->qi,succ_ne_self->Xr,two_pow_pos->Wa,zero_le->V7,zero_mul->Qy
open Nat.succ renaming inj->QC
open Ne renaming symm->Wo
open Option renaming getD_none->Xh,getD_some->Qx,map_eq_some_iff->W6,map_some->XH
open Option.some renaming inj->wX,injEq->Qn
open Prod renaming ext->Vg,fst->X8,snd->X9
open PyProof.Rows renaming callWith_type1->vi,slot_tuple_getitem->VG
open PyProof.Rows.IsTup renaming new->qJ
open PySem renaming Addr->we,Around->ve,FuncData->wz,Heap->wI,IsPair->Wk,NameKind->WI,Program->wL,PyData->wy,Shared->wl,Stmt->wZ,Value->wf,World->wN,backTo->W0,binaryOp->Wn,bootBuiltins->vH,cLine->WF,call->Xz,compareOp->wJ,letOwnedTupleGo->qf,mainGlobals->wK,mem_of_lookup->WZ,rawInt->Vp,sizeLine->w5,sliceBounds->V8,starEach->wT,wpAny->wr,wpAny_Call_Name_kw->qt,wpAny_attempt->Vj,wpAny_bind->wg,wpAny_call_entry->vW,wpAny_execs_nil->qd,wpAny_field->vj,wpAny_holding->WE,wpAny_isInstance->W5,wpAny_mono->Wm,wpAny_newObj_type->Wp,wpAny_passesOwn->Vf,wpAny_pure->wx,wpAny_pyIter_list->VT,wpAny_pyIter_tuple->Va,wpAny_seqItems->Wj,wpAny_setField_rec->WO,wpAny_truthy_bool->vX
open PySem.Around renaming under->ub,under_plainId->xi
open PySem.Builtin.Dict renaming pairItems->Q1,updateFrom->QG
open PySem.Builtin.Int renaming intBits->xp
open PySem.Builtin.List renaming listTooLong->qh
open PySem.Builtin.Range renaming rangeSize->ud
open PySem.Builtin.Slice renaming sliceAdjust->V9,sliceApplied->Qe,sliceFields->X7,slicePartIndex->XS,slicePlaces->Vs
open PySem.Builtin.SmallTypes renaming nextOf->vA,ownedTupleHandOut->qo,ownedTupleIsFree->vx
open PySem.Builtin.Tuple renaming tupleExact->Vv,tupleHashOf->vN,tupleItemsOf->Qf
open PySem.Calls renaming Name_function_global->Qd,evalArgs_plain->xc,spliced_cons->qZ,spliced_nil->Qk
open PySem.Challenge renaming pw_glowflock_k36_whole_moved_alike->Vq,rw_glowflock_k36_whole_moved_alike->wp
open PySem.Code renaming isGuard->uc
open PySem.EntryCells renaming newEntry->xr
open PySem.F renaming args_enumerate_next_1->QF,args_tuple_add_2->qg,args_tuple_iterator_next_1->qW,args_zip_next_1->Vo,entry_enumerate_next->Q0,entry_tuple_add->qy,entry_tuple_iterator_next->Qc,entry_zip_next->VD,excBase_ValueError->xh,plainAttrs_list->Wy,slot_enumerate_next->V0,slot_int_rmul->Xy,slot_list_append->Ww,slot_tuple_add->qE,slot_tuple_eq->QM,slot_tuple_hash->qD,slot_tuple_iterator_next->Vi,slot_zip_getattribute->VQ,slot_zip_next->We,type_list_append->Wx
open PySem.Heap renaming IsTuple->xJ,MadeExcOf->XW,SameBut->vy,get?_push_ne->Qo,get?_push_of_some->wn,get?_push_size->wM,get?_update_other->qF,get?_update_self->VU,lt_size->wA,size_push->VY,update->QZ
open PySem.Heap.IsSliceOf renaming new->uf
open PySem.Heap.SameBut renaming update->xu
open PySem.IntMulOk renaming of_left->Xv,of_right->x5
open PySem.IsRange renaming new->ue
open PySem.Obj renaming cls_mapFields->xZ,data_mapFields->VN,isFreed_of_fields->VZ,mapFields->qI,mapSeq->Qq
open PySem.Paired renaming length->X1
open PySem.PassesOwn renaming leaving->x6,never->vE
open PySem.PyData renaming canLay0->vF,canLayAll0->Wg,depth->Wu,depthAll->Wz,eqv->wQ,eqvAll->WV,strOk->xH
open PySem.SeqAt renaming canLay_of_shaped->W2,shaped->vQ
open PySem.SeqAt.EqAt renaming int_str->xx,str_int->xy
open PySem.Shared renaming heap->Xe
open PySem.Str renaming ofString->vL,ofString->wV
open PySem.W renaming Frag->wa,OpenLaw->QJ,WalkO->X3,callWith_K->xB,cellsFrom_some->QR,codeIn->qU,excIn->WU,exmOne->W4,fnOf->Vu,hideAll->Xw,hideAll_get->xn,keepIn->qu,kia_one->Vd,kia_tup->Ve,kitAny->XY,kitOne->Vt,kitx_bool->xW,kitx_dict->xY,kitx_int->Xo,kitx_list->xX,kitx_none->xV,kitx_str->Xp,kitx_tuple->xG,methodObj->Qj,mg_none_of->vv,mg_of->vV,nsIn->vd,of_hideAll->xz
open PySem.W.Looks renaming ld->uh
open PySem.Walks renaming list->XJ
open Rat renaming den_divInt->XT,den_intCast->XQ,divInt->wu,divInt_mul_divInt->Q4,divInt_nonneg->Ql,divInt_ofNat->Qv,div_def->QV,div_mul_cancel->WL,intCast_add->qa,intCast_eq_zero_iff->WX,intCast_le_intCast->W7,intCast_lt_intCast->VP,intCast_mul->vJ,intCast_pos->XD,le_antisymm->XE,le_iff->xf,le_of_lt->vK,le_refl->WB,le_trans->Qw,lt_of_le_of_ne->ql,lt_of_mul_lt_mul_right->Qh,mul_assoc->X4,mul_comm->qr,mul_eq_zero->XC,mul_le_mul_of_nonneg_right->qP,mul_lt_mul_of_pos_left->Qi,mul_lt_mul_of_pos_right->Qb,mul_nonneg->qx,mul_pos->VO,not_lt->W9,num_divInt_den->WK,num_intCast->XO,num_nonneg->qw,one_mul->qG,pow_succ->WA,pow_zero->VX
namespace GH
open PySem PySem.W PyProof.Rows
noncomputable def uG (p:wL) (w:wN) (m:Nat) (an:Option wf) (N:Nat) (s0:wl):Option wl :=
 Option.bind (Fast.tw14082659384304107361 Fast.tw14364793385576792824 p w m an N s0 (topStub p)) λs1=>match staticsOk (Fast.tw5923862056798008813 p.main.body) s0.heap s1.heap&&namesBound p s1.heap&&gensDone s1&&laidKept s0.heap s1.heap with | true=>some s1 | false=>none
noncomputable def gj (w:wN) (os:OsState):wl:=⟨boot_heap w.params,#[],boot_drawn,boot_toks,os⟩
theorem zwz{p q:wL}{loose:List Str}{Xt:wl->Bool}{A:Type}{Yf:wl->A}{Ya:wN->A}{N:Nat}(e:opening p=plainProg p.main.scope.names)(hN:Nat.ble 600 N=true)(f:∀s,fenceModules? p s=some s){m:Nat}{an:Option wf}
  (size:∀w:wN,((boot_heap w.params).isNs wK,(boot_heap w.params).objs.size,(boot_heap w.params).nsMap wK "__annotations__")=(true,m,an))
  (h:∀w:wN,(λos=>(uG p w m an N (gj w os)).map (λs=>(Fast.tw4187177175401517315 q loose (Fast.tw5923862056798008813 p.main.body) Xt true s,Yf s)))=λ_=>some (openGood q loose,Ya w)):LeftO p q loose Xt Yf Ya N:=λw=>by
 obtain⟨⟨h',gs,d,k,os⟩,e',e2⟩:=W6.mp (boot_open e hN f (w:=w));obtain⟨rfl,rfl,rfl,rfl⟩:h'=boot_heap w.params/\gs = #[]/\d=boot_drawn/\k=boot_toks:=by simpa using e2
 obtain⟨z1,z2,z3⟩:_/\_/\_:=by simpa only[Prod.mk.injEq] using size w
 have r:=congrFun (h w) os;unfold openEnds;rw[e']
 show Option.map _ (topFrom treeTable p w N _)=_
 rw[<- r];unfold topFrom uG gj;rw[<- Fast.te14082659384304107361,<- Fast.te14364793385576792824,<- Fast.te5923862056798008813,<- Fast.te4187177175401517315];dsimp only;rw[z1,z2,z3]
 rfl
noncomputable def jq (p:wL) (w:wN) (m:Nat) (an:Option wf) (N:Nat) (s0:wl):Option wl:=Fast.tw14082659384304107361 Fast.tw14364793385576792824 p w m an N s0 (topStub p)
noncomputable def uV (p:wL) (w:wN) (os:OsState) (s1:wl):Bool:=staticsOk (Fast.tw5923862056798008813 p.main.body) (gj w os).heap s1.heap&&namesBound p s1.heap&&gensDone s1&&laidKept (gj w os).heap s1.heap
theorem Tt{p q:wL}{loose:List Str}{Xt:wl->Bool}{A:Type}{Yf:wl->A}{Ya:wN->A}{N:Nat}(e:opening p=plainProg p.main.scope.names)(hN:Nat.ble 600 N=true)(f:∀s,fenceModules? p s=some s){m:Nat}{an:Option wf}
  (size:∀w:wN,((boot_heap w.params).isNs wK,(boot_heap w.params).objs.size,(boot_heap w.params).nsMap wK "__annotations__")=(true,m,an)) (hp:drecsOf q=[]) (he:plainsOf q (looseW q loose)=[]) (hd:dclssOf q loose=[])
  (hB0:∀w:wN,(λos=>(jq p w m an N (gj w os)).map (λs=>(uV p w os s,(Fast.tw4187177175401517315 q loose (Fast.tw5923862056798008813 p.main.body) Xt true s).2.2.2.1)))=λ_=>some (true,true))
  (hB1:∀w:wN,(λos=>(jq p w m an N (gj w os)).map (λs=>((Fast.tw4187177175401517315 q loose (Fast.tw5923862056798008813 p.main.body) Xt true s).1,(Fast.tw4187177175401517315 q loose (Fast.tw5923862056798008813 p.main.body) Xt true s).2.1)))=λ_=>some (expectedOf q,bltViewBooted))
  (hB2:∀w:wN,(λos=>(jq p w m an N (gj w os)).map (λs=>(Fast.tw4187177175401517315 q loose (Fast.tw5923862056798008813 p.main.body) Xt true s).2.2.1))=λ_=>some true)
  (hB3:∀w:wN,(λos=>(jq p w m an N (gj w os)).map (λs=>(Fast.tw4187177175401517315 q loose (Fast.tw5923862056798008813 p.main.body) Xt true s).2.2.2.2.2.2.2))=λ_=>some (wideGood q,clsGoodW q loose))
  (hC:∀w:wN,(λos=>(jq p w m an N (gj w os)).map (λs=>Yf s))=λ_=>some (Ya w)):LeftO p q loose Xt Yf Ya N:=by
 refine zwz e hN f size λw=>?_
 funext os
 have h1:=congrFun (hB0 w) os;obtain⟨s1,e1,e2⟩:=W6.mp h1;have g1:=congrFun (hB1 w) os;have g2:=congrFun (hB2 w) os;have g3:=congrFun (hB3 w) os;have k:=congrFun (hC w) os;rw[e1]at g1 g2 g3 k;have g1:=wX g1;have g2:=wX g2;have g3:=wX g3;have a0:=congrArg X8 e2;have b0:=congrArg X9 e2;have a1:=congrArg X8 g1;have b1:=congrArg X9 g1
 have gp:(Fast.tw4187177175401517315 q loose (Fast.tw5923862056798008813 p.main.body) Xt true s1).2.2.2.2.1=pinGoodD (drecsOf q):=by
  rw[<- Fast.te4187177175401517315]
  show pinSeenD q (drecsOf q) s1=_
  rw[hp]
  rfl
 have ge:(Fast.tw4187177175401517315 q loose (Fast.tw5923862056798008813 p.main.body) Xt true s1).2.2.2.2.2.1=plainGoodE q (looseW q loose):=by
  rw[<- Fast.te4187177175401517315]
  show plainSeenE q (looseW q loose) s1=_
  unfold plainSeenE plainGoodE;rw[he]
  rfl
 have gd:(Fast.tw4187177175401517315 q loose (Fast.tw5923862056798008813 p.main.body) Xt true s1).2.2.2.2.2.2.1=plainGoodD q loose:=by
  rw[<- Fast.te4187177175401517315]
  show plainSeenD q loose s1=_
  unfold plainSeenD plainGoodD;rw[hd]
  rfl
 have g:Fast.tw4187177175401517315 q loose (Fast.tw5923862056798008813 p.main.body) Xt true s1=openGood q loose:=Vg a1 (Vg b1 (Vg g2 (Vg b0 (Vg gp (Vg ge (Vg gd g3))))));have k:=wX k
 have ez:uG p w m an N (gj w os)=some s1:=by
  unfold uG;unfold jq at e1;rw[e1]
  show(match uV p w os s1 with | true=>some s1 | false=>none)=some s1
  rw[show uV p w os s1=true from a0]
 rw[ez];exact congrArg some (Vg g k)
def qv:wL:=view Vq [1,2,3,4,5,6,8,9,10,11,12,13,14,15,16,17,18,20,21,22,23,24,25,26,27,28,29,31,32,33,34,35,36,37,38,39,40,41,43,44,46,47,48,49,50,51,52,53,54,56,57,58,59,60,61,62,63,64,65,67,68,69,70,71,72,73,74,75,76,77,78,79,80,81,82,84,85,86,87,88,89,90,91,92,93,94,95,96,97,98,99,100,101,102,103,104,105]
theorem NK{a b:Bool}(h:a=true)(k:b=true):(a&&b)=true:=by rw[h,k];rfl
set_option maxHeartbeats 0 in
theorem JB:wp.wellSaid=true:=by
 unfold OpenLaw.wellSaid OpenRow.wellSaid OpenRow.partSaid looksOpen
 repeat' with_reducible refine NK ?_ ?_
 all_goals decide +kernel
theorem size(w:wN):((boot_heap w.params).isNs wK,(boot_heap w.params).objs.size,(boot_heap w.params).nsMap wK "__annotations__")=(true,11,some (.ref 6)):=by kernel_rfl
theorem no1:drecsOf qv=[]:=by kernel_rfl
theorem no2:plainsOf qv (looseW qv [])=[]:=by kernel_rfl
theorem no3:dclssOf qv []=[]:=by kernel_rfl
theorem T_(w:wN):(λos=>(jq wp.row.prog w 11 (some (.ref 6)) 7836 (gj w os)).map (λs=>(uV wp.row.prog w os s,(Fast.tw4187177175401517315 qv [] (Fast.tw5923862056798008813 wp.row.prog.main.body) (λs=>xlAt GH.qv [] s&&recOk (RowW.records (OpenRow.toRowW (OpenLaw.row wp))) s) true s).2.2.2.1)))=λ_=>some (true,true):=by kernel_rfl
theorem TY(w:wN):(λos=>(jq wp.row.prog w 11 (some (.ref 6)) 7836 (gj w os)).map (λs=>((Fast.tw4187177175401517315 qv [] (Fast.tw5923862056798008813 wp.row.prog.main.body) (λs=>xlAt GH.qv [] s&&recOk (RowW.records (OpenRow.toRowW (OpenLaw.row wp))) s) true s).1,(Fast.tw4187177175401517315 qv [] (Fast.tw5923862056798008813 wp.row.prog.main.body) (λs=>xlAt GH.qv [] s&&recOk (RowW.records (OpenRow.toRowW (OpenLaw.row wp))) s) true s).2.1)))=λ_=>some (expectedOf qv,bltViewBooted):=by kernel_rfl
theorem TX(w:wN):(λos=>(jq wp.row.prog w 11 (some (.ref 6)) 7836 (gj w os)).map (λs=>(Fast.tw4187177175401517315 qv [] (Fast.tw5923862056798008813 wp.row.prog.main.body) (λs=>xlAt GH.qv [] s&&recOk (RowW.records (OpenRow.toRowW (OpenLaw.row wp))) s) true s).2.2.1))=λ_=>some true:=by kernel_rfl
theorem TR(w:wN):(λos=>(jq wp.row.prog w 11 (some (.ref 6)) 7836 (gj w os)).map (λs=>(Fast.tw4187177175401517315 qv [] (Fast.tw5923862056798008813 wp.row.prog.main.body) (λs=>xlAt GH.qv [] s&&recOk (RowW.records (OpenRow.toRowW (OpenLaw.row wp))) s) true s).2.2.2.2.2.2.2))=λ_=>some (wideGood qv,clsGoodW qv []):=by kernel_rfl
local macro_rules | `(tactic| o_head $H)=>`(tactic| (refine holds_open (q:=GH.qv) (loose:=[]) (Xt:=λ s=>xlAt GH.qv [] s && recOk (RowW.records (OpenRow.toRowW (OpenLaw.row wp))) s) (XP:=XL GH.qv []) (Yf:=Hook.obs $H) (Ya:=Hook.val $H) (YP:=Hook.says $H) (N:=7836) ?hl (Hook.of $H) (Hook.keeps $H) (λ s e=>xl_of s (Q9.mp e).1) XL.keeps (by rfl) (by rfl) (by rfl) (λ s e=>recFacts_of (Q9.mp e).2) (by rfl) (by first | assumption | decide +kernel) (by decide +kernel) ⟨rfl,rfl,rfl,rfl,rfl,by decide +kernel⟩ ?hw ?hc; (case hl=>refine GH.Tt (by kernel_rfl) rfl (λ s=>by kernel_rfl) GH.size GH.no1 GH.no2 GH.no3 GH.T_ GH.TY GH.TX GH.TR ?_; intro w; kernel_rfl)))
local macro_rules | `(tactic| o_law)=>`(tactic| refine holds_law GH.JB λ JB=>?_)
set_option maxHeartbeats 0
open_top head for wp
end GH
set_option maxHeartbeats 4000000
namespace L2
open PySem PySem.Spec PyProof.Rows
abbrev Key:=Sum Int Str
def Pc:Key->wf->Bool
 | .inl k,v=>Value.isInt k v
 | .inr x,v=>Value.isStrOf x v
def zDT(w:wN):Key->Int
 | .inl k=>hashInt k
 | .inr x=>hashStr w x
theorem jP:∀{k:Key}{v:wf},Pc k v=true->(∃i t,k=Sum.inl i/\v=Value.int i t)\/(∃x t,k=Sum.inr x/\v=Value.str x t)
 | .inl i,v,h=>by
  obtain⟨t,e⟩:=Value.isInt_shape (k:=i) (v:=v) h;exact .inl ⟨i,t,rfl,e⟩
 | .inr x,v,h=>by
  obtain⟨t,e⟩:=Value.isStrOf_shape (x:=x) (v:=v) h;exact .inr ⟨x,t,rfl,e⟩
theorem Yn(a b:Int):decide ((Sum.inl a:Key)=Sum.inl b)=(a == b):=by
 by_cases e:a=b
 ·subst e;simp
 ·have h:¬ (Sum.inl a:Key)=Sum.inl b:=λq=>e (Sum.inl.inj q)
  rw[decide_eq_false h];exact(beq_eq_false_iff_ne.mpr e).symm
theorem zBZ(a b:Str):decide ((Sum.inr a:Key)=Sum.inr b)=decide (a=b):=by
 by_cases e:a=b
 ·subst e;simp
 ·have h:¬ (Sum.inr a:Key)=Sum.inr b:=λq=>e (Sum.inr.inj q)
  rw[decide_eq_false h,decide_eq_false e]
theorem zCy(a:Int)(b:Str):decide ((Sum.inl a:Key)=Sum.inr b)=false:=decide_eq_false (λq=>nomatch q)
theorem UK(a:Str)(b:Int):decide ((Sum.inr a:Key)=Sum.inl b)=false:=decide_eq_false (λq=>nomatch q)
def AQ(prog:wL)(w:wN):PySem.KeyKind prog w Key where
 is:=Pc
 hash:=zDT w
 inj:=λv a b ha hb=>by
  rcases jP ha with⟨i,t,rfl,rfl⟩ | ⟨x,t,rfl,rfl⟩
  ·rcases jP hb with⟨j,u,rfl,e⟩ | ⟨y,u,rfl,e⟩
   ·injection e with e1 _;rw[e1]
   ·exact nomatch e
  ·rcases jP hb with⟨j,u,rfl,e⟩ | ⟨y,u,rfl,e⟩
   ·exact nomatch e
   ·injection e with e1 _;rw[e1]
 byValue:=λk v h=>by
  rcases jP h with⟨i,t,rfl,rfl⟩ | ⟨x,t,rfl,rfl⟩<;>rfl
 pyHash:=λhv h=>by
  rcases jP hv with⟨i,t,rfl,rfl⟩ | ⟨x,t,rfl,rfl⟩
  ·exact wpAny_pyHash_int h
  ·exact wpAny_pyHash_str h
 eqBool:=λhu hv h=>by
  rcases jP hu with⟨i,t,rfl,rfl⟩ | ⟨x,t,rfl,rfl⟩
  ·rcases jP hv with⟨j,u,rfl,rfl⟩ | ⟨y,u,rfl,rfl⟩
   ·rw[Yn]at h;exact wpAny_eqBool_int h
   ·rw[zCy]at h;exact xx i t y u _ _ _ _ h
  ·rcases jP hv with⟨j,u,rfl,rfl⟩ | ⟨y,u,rfl,rfl⟩
   ·rw[UK]at h;exact xy x t j u _ _ _ _ h
   ·rw[zBZ]at h;exact wpAny_eqBool_str h
 «strs»:=λk x t v h=>by
  rcases jP h with⟨i,u,rfl,e⟩ | ⟨y,u,rfl,e⟩
  ·exact nomatch e
  ·injection e with e1 _
   subst e1;cases v<;>rfl
inductive V where
 | bj | bl (b:Bool) | int (i:Int) | str (x:Str) | byt (b:Array UInt8) | flt (b:UInt64) | ref (a:we) | ty (n:String)
 deriving DecidableEq
def a_:V->wf->Prop
 | .bj,u=>u=Value.none
 | .bl b,u=>u=Value.bool b
 | .int i,u=>∃t,u=Value.int i t
 | .str x,u=>∃t,u=Value.str x t
 | .byt b,u=>∃t,u=Value.bytes b t
 | .flt b,u=>∃t,u=Value.float b t
 | .ref a,u=>u=Value.ref a
 | .ty n,u=>u=Value.type n
abbrev aT:List V->List wf->Prop:=Paired a_
theorem aT.length{xs:List V}{us:List wf}(r:aT xs us):xs.length=us.length:=X1 r
theorem aT.get:∀{xs:List V}{us:List wf}{i:Nat}{x:V},aT xs us->xs[i]? = some x->∃u,us[i]? = some u/\a_ x u
 | _,_,_,_,.nil,e=>by simp at e
 | _,_,0,_,.cons r _,e=>by simp at e;subst e;exact⟨_,rfl,r⟩
 | _,_,i+1,x,.cons _ t,e=>by
  obtain⟨u,h1,h2⟩:=aT.get (i:=i) (x:=x) t (by simpa using e);exact⟨u,by simpa using h1,h2⟩
theorem aT.set{x:V}{u:wf}(r:a_ x u):∀{xs:List V}{us:List wf}(i:Nat),aT xs us->aT (xs.set i x) (us.set i u)
 | _,_,_,.nil=>.nil
 | _,_,0,.cons _ t=>.cons r t
 | _,_,i+1,.cons q t=>.cons q (aT.set r i t)
theorem aT.append:∀{xs ys:List V}{us ws:List wf},aT xs us->aT ys ws->aT (xs++ys) (us++ws)
 | _,_,_,_,.nil,s=>s
 | _,_,_,_,.cons r t,s=>.cons r (aT.append t s)
theorem aT.take:∀{xs:List V}{us:List wf}(n:Nat),aT xs us->aT (xs.take n) (us.take n)
 | _,_,0,_=>.nil
 | _,_,_+1,.nil=>.nil
 | _,_,n+1,.cons r t=>.cons r (aT.take n t)
theorem aT.drop:∀{xs:List V}{us:List wf}(n:Nat),aT xs us->aT (xs.drop n) (us.drop n)
 | _,_,0,r=>r
 | _,_,_+1,.nil=>.nil
 | _,_,n+1,.cons _ t=>aT.drop n t
def LZ:Option V->Option wf->Prop
 | some v,some u=>a_ v u
 | none,none=>True
 | _,_=>False
def KV{κ : Type} : List (κ × V)->List (κ × wf)->Prop:=Paired λ(p : κ × V)(q : κ × wf)=>p.1=q.1/\a_ p.2 q.2
def kV:Key->V
 | .inl i=>.int i
 | .inr x=>.str x
inductive HO where
 /-- a list -/
 | lst (xs:List V)
 /-- a tuple (never changes) -/
 | tup (xs:List V)
 /-- a dict whose keys are ints and texts;one whose keys are tuples of ints and texts (the empty one is NK) -/
 | dK (kvs:List (Key × V)) | dT (kvs:List (List Key × V))
 /-- a set of ints: its members,its size -/
 | set (S:Int->Bool) (n:Nat)
 /-- an instance of the class at C,its dict at dx,its attributes -/
 | ins (C dx:we) (fs:List (Str × V))
 /-- the dict of the instance at x -/
 | own (x:we)
 /-- the dict of an exception -/
 | xd (fs:List (Str × V))
 /-- a bound method,f of x -/
 | met (f x:we)
 /-- a range object lo,lo+1,.. below hi -/
 | um (lo hi:Int)
 /-- a thing that is known to the object (the script;a dict while a loop walks it): read,never written while it is so -/
 | gq (o:Obj) (u:HO)
 /-- a code object's table -/
 | kj (ps:Array wf)
 /-- any other thing,by what is true of its one object (a def of one's own: SetO a S n:=HO.ext λh=>..) -/
 | ext (φ : wI->Prop)
abbrev Hp:=we->Option HO
def upd(H:Hp)(a:we)(o:HO):Hp:=λb=>if b=a then some o else H b
theorem cV{H:Hp}{a:we}{o:HO} : upd H a o a=some o:=by unfold upd;rw[if_pos rfl]
theorem ee{H:Hp}{a b:we}{o:HO}(h:b≠a):upd H a o b=H b:=by unfold upd;rw[if_neg h]
theorem K_{H:Hp}{a b:we}{o u:HO}(h:H a=some o)(h':H b=some u)(d:o≠u):a≠b:=by
 intro e;subst e;rw[h]at h';exact d (wX h')
theorem jM{H:Hp}{a b:we}{o:HO}(h:H a=some o)(h':H b=none):a≠b:=by
 intro e;subst e;rw[h]at h';cases h'
section
variable(P:wL)(w:wN)
def dM(H:Hp)(h:wI)(a:we):HO->Prop
 | .lst xs=>xs.length<=w5 /\ ∃(its:List wf)(n:Nat),aT xs its/\h.get? a=some {cls:=.type "list",data:=.seq its.toArray n}
 | .tup xs=>xs.length<=w5 /\ ∃its:List wf,aT xs its/\IsTup h a its.toArray
 | .dK kvs=>kvs.length<=w5/\(a == sysModules)=false /\ ∃vs,KV kvs vs/\h.DictOf (AQ P w) a vs
 | .dT kvs=>kvs.length<=w5/\(a == sysModules)=false /\ ∃xs:List (List Key × we × wf),
     Paired (λ(p:List Key × V)(q:List Key × we × wf)=>p.1=q.1/\H q.2.1=some (.tup (p.1.map kV))/\a_ p.2 q.2.2) kvs xs /\
     ∃o es ep,h.get? a=some o/\o.ExactDict/\o.data=.dict es ep/\es.toList=xs.map (entryOfKey (tupleKind (AQ P w)))/\(xs.map (·.1)).Nodup
 | .set S n=>h.SetOf (intKind P w) a S n
 | .ins C dx fs=>H dx=some (.own a)/\fs.length<=1000/\dx≠a/\h.get? a=some (PySem.W.instObj C dx) /\
     ∃mA,h.Ns1 dx mA/\(∀f,LZ (fs.lookup f) (mA f))/\PySem.Within mA (fs.map (·.1))
 | .own _=>∃o,h.get? a=some o
 | .xd fs=>∃mA,h.Ns1 a mA /\ ∀f,LZ (fs.lookup f) (mA f)
 | .um lo hi=>∃t u v,h.get? a=some {cls:=.type "range",data:=.fields #[.int lo t,.int hi u,.int 1 v]}
 | .gq o u=>h.get? a=some o/\dM H h a u
 | .kj ps=>h.get? a=some {cls:=.none,data:=.fields ps}
 | .met f x=>h.get? a=some (Qj (.ref f) (.ref x))
 | .ext φ=>φ h/\(∃o,h.get? a=some o) /\ ∀h1 h2:wI,φ h1->(∀o,h1.get? a=some o->h2.get? a=some o) -> φ h2
def dj(H:Hp)(h:wI):Prop:=∀a o,H a=some o->dM P w H h a o
end
section
variable{P:wL}{w:wN}{H H':Hp}{h h':wI}{a:we}{o:HO}
theorem dM.lt(x:dM P w H h a o):a<h.objs.size:=by
 cases o with
 | lst xs=>obtain⟨_,_,_,_,e⟩:=x;exact wA e
 | tup xs=>obtain⟨_,_,_,p⟩:=x;exact p.lt
 | dK kvs=>obtain⟨_,_,_,_,o,_,_,e,_⟩:=x;exact wA e
 | dT kvs=>obtain⟨_,_,_,_,o,_,_,e,_⟩:=x;exact wA e
 | set S n=>obtain⟨o,_,_,_,e,_⟩:=x;exact wA e
 | ins C dx fs=>obtain⟨_,_,_,e,_⟩:=x;exact wA e
 | own y=>obtain⟨_,e⟩:=x;exact wA e
 | xd fs=>obtain⟨_,⟨_,_,_,e,_⟩,_⟩:=x;exact wA e
 | um lo hi=>obtain⟨_,_,_,e⟩:=x;exact wA e
 | gq ob u=>obtain⟨e,_⟩:=x;exact wA e
 | kj ps=>exact wA (show h.get? a=some _ from x)
 | met f y=>exact wA (show h.get? a=some _ from x)
 | ext φ=>obtain⟨_,⟨_,e⟩,_⟩:=x;exact wA e
theorem Paired.Jy{α β : Type}{F G : α -> β -> Prop} : ∀{l₁ : List α}{l₂ : List β},Paired F l₁ l₂ -> (∀a b,F a b->G a b)->Paired G l₁ l₂
 | _,_,.nil,_=>.nil
 | _,_,.cons r t,f=>.cons (f _ _ r) (Paired.Jy t f)
theorem dM.kb(x:dM P w H h a o)(k:∀b u,(b=a\/H b=some (.own a))->h.get? b=some u->h'.get? b=some u)
  (ho:∀b,H b=some (.own a)->H' b=some (.own a)) (ht:∀b xs,H b=some (.tup xs)->H' b=some (.tup xs)):dM P w H' h' a o:=by
 induction o with
 | lst xs=>obtain⟨z,its,n,r,e⟩:=x;exact⟨z,its,n,r,k _ _ (.inl rfl) e⟩
 | tup xs=>obtain⟨z,its,r,ob,e,c⟩:=x;exact⟨z,its,r,ob,k _ _ (.inl rfl) e,c⟩
 | dK kvs=>obtain⟨z,y,vs,r,ob,es,ep,e,c⟩:=x;exact⟨z,y,vs,r,ob,es,ep,k _ _ (.inl rfl) e,c⟩
 | dT kvs =>
  obtain⟨z,y,xs,r,ob,es,ep,e,c⟩:=x;exact⟨z,y,xs,Paired.Jy r λp q z=>⟨z.1,ht _ _ z.2.1,z.2.2⟩,ob,es,ep,k _ _ (.inl rfl) e,c⟩
 | set S n=>obtain⟨ob,es,ep,t,e,c⟩:=x;exact⟨ob,es,ep,t,k _ _ (.inl rfl) e,c⟩
 | ins C dx fs =>
  obtain⟨d,z,ne,e,mA,⟨od,es,ep,e2,c⟩,r⟩:=x;exact⟨ho _ d,z,ne,k _ _ (.inl rfl) e,mA,⟨od,es,ep,k _ _ (.inr d) e2,c⟩,r⟩
 | own y=>obtain⟨ob,e⟩:=x;exact⟨ob,k _ _ (.inl rfl) e⟩
 | xd fs=>obtain⟨mA,⟨od,es,ep,e,c⟩,r⟩:=x;exact⟨mA,⟨od,es,ep,k _ _ (.inl rfl) e,c⟩,r⟩
 | um lo hi=>obtain⟨t,u,v,e⟩:=x;exact⟨t,u,v,k _ _ (.inl rfl) e⟩
 | gq ob u ih=>obtain⟨e,q⟩:=x;exact⟨k _ _ (.inl rfl) e,ih q⟩
 | kj ps =>
  have e:h.get? a=some {cls:=.none,data:=.fields ps}:=x
  show h'.get? a=some {cls:=.none,data:=.fields ps}
  exact k a _ (.inl rfl) e
 | met f y =>
  have e:h.get? a=some (Qj (.ref f) (.ref y)):=x
  show h'.get? a=some (Qj (.ref f) (.ref y))
  exact k a _ (.inl rfl) e
 | ext φ=>obtain⟨p,⟨o,e⟩,st⟩:=x;exact⟨st _ _ p λo q=>k _ _ (.inl rfl) q,⟨o,k _ _ (.inl rfl) e⟩,st⟩
theorem dj.lt(x:dj P w H h)(e:H a=some o):a<h.objs.size:=(x a o e).lt
theorem dj.fresh(x:dj P w H h)(e:h.objs.size<=a):H a=none:=by
 cases q:H a with
 | none=>rfl
 | some u=>exact absurd (wU (x.lt q) e) (WS _)
theorem dj.kept(x:dj P w H h)(k:∀b u,h.get? b=some u->h'.get? b=some u):dj P w H h':=λa o e =>
 (x a o e).kb (λb u _ q=>k b u q) (λ_ q=>q) λ_ _ q=>q
theorem dj.laid(x:dj P w H h)(k:∀b u,h.get? b=some u->h'.get? b=some u)(hp:h.objs.size<=a)(new:dM P w (upd H a o) h' a o):dj P w (upd H a o) h':=λb u e=>by
 have hn:=x.fresh hp
 by_cases hb:b=a
 ·subst hb;rw[cV]at e;cases e;exact new
 ·rw[ee hb]at e
  exact(x b u e).kb (λc v _ q=>k c v q) (λc q=>by rw[ee (jM q hn)];exact q) λc xs q=>by rw[ee (jM q hn)];exact q
end
def Rd(H:Hp)(a:we)(u:HO):Prop:=H a=some u \/ ∃o,H a=some (.gq o u)
theorem Rd.ok{P:wL}{w:wN}{H:Hp}{h:wI}{a:we}{u:HO}(r:Rd H a u)(x:dj P w H h):dM P w H h a u:=by
 rcases r with r | ⟨o,r⟩
 ·exact x a u r
 ·obtain⟨_,q⟩:=x a _ r
  exact q
def x_:Option HO->Prop
 | some (.lst _)=>True
 | some (.dK _)=>True
 | some (.dT _)=>True
 | some (.set _ _)=>True
 | some (.ins _ _ _)=>True
 | some (.ext _)=>True
 | _=>False
section
variable{P:wL}{w:wN}{H:Hp}{h h':wI}{x e:we}{o':HO}
theorem dj.write(ok:dj P w H h)(mu:x_ (H x))(he:e=x\/H e=some (.own x))(k:∀b u,b≠e->h.get? b=some u->h'.get? b=some u)(heo:∃u,h'.get? e=some u)
  (new:dM P w (upd H x o') h' x o'):dj P w (upd H x o') h':=λb u q=>by
 have nown:∀c y,H c=some (.own y)->c≠x:=λc y r z=>by subst z;rw[r]at mu;exact mu
 have ntup:∀c xs,H c=some (.tup xs)->c≠x:=λc xs r z=>by subst z;rw[r]at mu;exact mu
 by_cases hb:b=x
 ·subst hb;rw[cV]at q;cases q;exact new
 ·rw[ee hb]at q
  by_cases hbe:b=e
  ·have q':H b=some (.own x):=by
    rcases he with z | z
    ·exact absurd (hbe.trans z) hb
    ·rw[hbe];exact z
   rw[q]at q';cases q';obtain⟨v,hv⟩:=heo;exact⟨v,by rw[hbe];exact hv⟩
  ·refine(ok b u q).kb (λc v hc r=>k c v ?_ r) (λc r=>by rw[ee (nown c b r)];exact r) λc xs r=>by rw[ee (ntup c xs r)];exact r
   rcases hc with rfl | hc
   ·exact hbe
   ·rintro rfl
    rcases he with z | z
    ·exact nown c b hc z
    ·rw[hc]at z;cases z;exact hb rfl
end
structure Un(fs ex:List we)(H H':Hp)(h h':wI):Prop where
 keep:∀b o,h.get? b=some o->H b=none->b ∉ fs->b ∉ ex->h'.get? b=some o
 slot:∀b o,h.get? b=some o->H b=none->b∈fs->b ∉ ex->∃sl,h'.get? b=some {o with slots:=sl}
 free:∀b o,h.get? b=some o->H b=none->b ∉ ex->H' b=none
 there:∀b o,h.get? b=some o->b ∉ ex->∃o',h'.get? b=some o'
 hV:∀b xs,H b=some (.tup xs)->H' b=some (.tup xs)
 gL:∀b o u,H b=some (.gq o u)->H' b=some (.gq o u)
 hW:∀b ps,H b=some (.kj ps)->∃more,H' b=some (.kj (ps++more))
section
variable{fs fs' ex ex':List we}{H H1 H2:Hp}{h h1 h2 h':wI}{a x e:we}{o:HO}
theorem Un.any(u:Un fs ex H H1 h h1){b:we}{ob:Obj}(q:h.get? b=some ob)(n:H b=none)(hx:b ∉ ex):∃sl,h1.get? b=some {ob with slots:=sl}:=by
 by_cases hb:b∈fs
 ·exact u.slot b ob q n hb hx
 ·exact⟨ob.slots,u.keep b ob q n hb hx⟩
theorem Un.kept(k:∀b u,h.get? b=some u->h'.get? b=some u):Un fs ex H H h h' :=
 ⟨λb ob q _ _ _=>k b ob q,λb ob q _ _ _=>⟨ob.slots,k b ob q⟩,λ_ _ _ n _=>n,λb ob q _=>⟨ob,k b ob q⟩,λ_ _ q=>q,λ_ _ _ q=>q,λ_ ps q=>⟨#[],by rw[q];simp⟩⟩
theorem Un.refl:Un fs ex H H h h:=Un.kept λ_ _ q=>q
theorem Un.laid(k:∀b u,h.get? b=some u->h'.get? b=some u)(hp:h.objs.size<=a)(hn:H a=none):Un fs ex H (upd H a o) h h' where
 keep:=λb u q _ _ _=>k b u q
 slot:=λb u q _ _ _=>⟨u.slots,k b u q⟩
 free:=λb u q n _=>by rw[ee (wO (wU (wA q) hp))];exact n
 there:=λb u q _=>⟨u,k b u q⟩
 hV:=λb xs q=>by rw[ee (jM q hn)];exact q
 gL:=λb u xs q=>by rw[ee (jM q hn)];exact q
 hW:=λb ps q=>⟨#[],by rw[ee (jM q hn),q];simp⟩
theorem Un.write(mu:x_ (H x))(he:e=x\/H e=some (.own x))(k:∀b u,b≠e->h.get? b=some u->h'.get? b=some u)(heo:∃u,h'.get? e=some u):Un fs ex H (upd H x o) h h':=by
 have hx:∀b,H b=none->b≠x:=λb n z=>by subst z;rw[n]at mu;exact mu
 have hb:∀b,H b=none->b≠e:=λb n z=>by
  subst z;rcases he with r | r
  ·exact hx b n r
  ·rw[n]at r;cases r
 have hm:∀b u,H b=some u->¬ x_ (some u)->b≠x:=λb u q nm z=>by subst z;rw[q]at mu;exact nm mu
 refine⟨λb u q n _ _=>k b u (hb b n) q,λb u q n _ _=>⟨u.slots,k b u (hb b n) q⟩,λb u q n _=>by rw[ee (hx b n)];exact n,λb u q _=>?_,
  λb xs q=>by rw[ee (hm b _ q λz=>z)];exact q,λb u xs q=>by rw[ee (hm b _ q λz=>z)];exact q,λb ps q=>⟨#[],by rw[ee (hm b _ q λz=>z),q];simp⟩⟩
 by_cases hbe:b=e
 ·subst hbe;exact heo
 ·exact⟨u,k b u hbe q⟩
end
def iu(h:wI)(H:Hp):List we:=(wq h.objs.size).filter λa=>(H a).isSome
def j4(h:wI)(H:Hp):wI:=Xw h (iu h H)
theorem zv6(h:wI)(H:Hp):(j4 h H).objs.size=h.objs.size:=PySem.W.hideAll_size _ _
theorem zxI{h:wI}{H:Hp}{b:we}{o:Obj}(e:h.get? b=some o)(n:H b=none):(j4 h H).get? b=some o :=
 xn _ e λhm=>by
  have q:(H b).isSome=true:=(vb.mp hm).2;rw[n]at q;simp at q
theorem zzJ{h:wI}{H:Hp}{b:we}{o:Obj}(e:(j4 h H).get? b=some o):h.get? b=some o/\H b=none:=by
 have e':h.get? b=some o:=xz (iu h H) e;refine⟨e',?_⟩;cases q:H b with
 | none=>rfl
 | some x =>
  have hm:b∈iu h H:=vb.mpr ⟨wF.mpr (wA e'),by simp[q]⟩;have z:(j4 h H).get? b=none:=PySem.W.hideAll_none (iu h H) hm;rw[z]at e;cases e
def Yk(g h:wI)(L:we):List (we × Obj):=(wq h.objs.size).filterMap λa=>if a=L\/(g.get? a).isSome=true then none else(h.get? a).map λo=>(a,o)
def dX(g h:wI)(L d:we):List (we × Obj):=(Yk g h L).filter λp=>decide (p.1≠d)
structure Mod(K:wa)(mg:Str->Option wf)(base:wI):Prop where
 pJ:K.In base
 glob:base.Ns wK mg
 blt:∃mb,base.Ns builtinsNs mb /\ ∀x:Str,x≠"__name__" -> mb x=vH x
 nolimit:base.NoLimit
structure Cx where
 prog:wL
 w:wN
 K:wa
 mg:Str->Option wf
 base:wI
 A:ve
 N:List Str
 s₀ : wl
 H₀ : Hp
 env:Env
 outer:List Env
 stack:List Env
 ex:List we
 fn:Str->Bool
 calm:Bool
 pn:List (we × Obj)
 xe:wf->wl->Prop
def dQ(l:List Env):List we:=l.filterMap (·.frame)
abbrev Cx.fs(X:Cx):List we:=dQ X.outer
def zH(sc:Scope)(x:Str):Prop:=sc.names.lookup x=some .local\/sc.names.lookup x=some .cell\/sc.names.lookup x=some .free
def Loc(sc:Scope)(x:Str):Prop:=sc.names.lookup x=some .local\/sc.names.lookup x=some .cell
def zDX(env:Env)(h:wI)(m:Str->Option wf)(x:Str)(u:wf):Prop :=
 (env.kindOf x=some .local/\m x=some u)\/((env.kindOf x=some .cell\/env.kindOf x=some .free) /\ ∃c,env.cells.lookup x=some c/\h.IsCell c (some u))
structure Cx.Ok(X:Cx):Prop where
 mod:Mod X.K X.mg X.base
 kind:X.env.scope.kind=.function
 glob:X.env.globals=wK
 blt:X.env.builtins=builtinsNs
 above:X.s₀.heap.objs.size<=X.env.locals
 inj:∀x y c,X.env.cells.lookup x=some c->X.env.cells.lookup y=some c->x=y
 has:∀x,(X.env.kindOf x=some .cell\/X.env.kindOf x=some .free)->∃c,X.env.cells.lookup x=some c
 kl:∀x c,X.fn x=true->X.env.cells.lookup x=some c->X.s₀.heap.objs.size<=c
 hd:X.calm=true->X.A.handled=none
 frames:X.A.frames=some X.stack
 lg:X.stack=X.outer\/(X.stack=X.env::X.outer/\X.env.frame=some X.env.locals)
 nX:∀b∈X.ex,b≠X.env.locals /\ ∀x c,X.env.cells.lookup x=some c->c≠b
 bs:∀b o,X.base.get? b=some o->X.s₀.heap.get? b=some o/\X.H₀ b=none
 ie:X.base.objs.size<=X.s₀.heap.objs.size
 j_:∀b o,X.base.get? b=some o->b ∉ X.ex
 kO:∀b∈X.ex,b ∉ X.fs
 ff:X.s₀.heap.FunFrames X.base X.outer
 iS:∀b∈X.fs,X.H₀ b=none
structure Inv(X:Cx)(pins:List (we × Obj))(σ : List (Option V))(H:Hp)(s:wl):Prop where
 ok:X.Ok
 os:s.os=X.s₀.os
 bare:AllBare s.gens
 base:Un X.fs X.ex X.H₀ H X.s₀.heap s.heap
 loc:∃m,s.heap.Ns X.env.locals m /\ ∀(i:Nat)(x:Str)(v:V),X.N[i]? = some x -> σ[i]? = some (some v)->zH X.env.scope x->∃u,a_ v u/\zDX X.env s.heap m x u
 cell:∀x c,X.env.cells.lookup x=some c->∃v,s.heap.IsCell c v
 free:H X.env.locals=none
 gf:∀x c,X.env.cells.lookup x=some c->H c=none
 pin:∀p∈X.pn++pins,s.heap.get? p.1=some p.2/\H p.1=none/\p.1≠X.env.locals/\p.1 ∉ X.fs /\ ∀v,p.2.data≠.cell v
 aJ:dj X.prog X.w H s.heap
 len : σ.length=X.N.length
section
variable{X:Cx}{pins:List (we × Obj)}{σ : List (Option V)}{H H':Hp}{s:wl}{h':wI}
theorem Cx.Ok.Ue(ok:X.Ok){b:we}{o:Obj}(e:X.base.get? b=some o):b ∉ X.fs:=λhb=>by
 have:=(ok.ff.mem hb).1;rw[e]at this;cases this
theorem Inv.bs(I:Inv X pins σ H s):∀b o,X.base.get? b=some o->s.heap.get? b=some o/\H b=none:=λb o e =>
 ⟨I.base.keep b o (I.ok.bs b o e).1 (I.ok.bs b o e).2 (I.ok.Ue e) (I.ok.j_ b o e),I.base.free b o (I.ok.bs b o e).1 (I.ok.bs b o e).2 (I.ok.j_ b o e)⟩
theorem Inv.bk(I:Inv X pins σ H s):∀b o,X.base.get? b=some o->s.heap.get? b=some o:=λb o e=>(I.bs b o e).1
theorem Inv.mod(I:Inv X pins σ H s):Mod X.K X.mg X.base:=I.ok.mod
theorem Inv.dF(I:Inv X pins σ H s):X.K.In s.heap:=I.ok.mod.pJ.keeps I.bk
theorem Inv.lt(I:Inv X pins σ H s):X.env.locals<s.heap.objs.size:=let ⟨_,hn,_⟩:=I.loc;hn.lt
theorem Inv.sz(I:Inv X pins σ H s):X.s₀.heap.objs.size<=s.heap.objs.size:=Wb I.ok.above (WQ I.lt)
theorem Inv.Uh(I:Inv X pins σ H s){a:we}(h:s.heap.objs.size<=a):a ∉ X.fs:=λhb=>by
 obtain⟨_,o,ho,_⟩:=I.ok.ff.mem hb;exact absurd (wU (wA ho) (Wb I.sz h)) (WS _)
theorem Inv.kC(I:Inv X pins σ H s):∀x c,X.env.cells.lookup x=some c->c≠X.env.locals:=λx c e z=>by
 obtain⟨v,o,ho,hd⟩:=I.cell x c e;obtain⟨m,⟨o',es,ep,ho',hd',_⟩,_⟩:=I.loc;rw[z,ho']at ho;cases ho;rw[hd']at hd;cases hd
theorem Inv.ff(I:Inv X pins σ H s):s.heap.FunFrames X.base X.outer:=by
 have all:∀(l:List Env),(∀b∈dQ l,b∈X.fs)->X.s₀.heap.FunFrames X.base l->s.heap.FunFrames X.base l:=by
  intro l
  induction l with
  | nil=>intro _ _;trivial
  | cons env r ih =>
   intro hs hl;obtain⟨hk,⟨L,o,hf,hn,ho,hd⟩,hr⟩:=hl;have hL:L∈X.fs:=hs L (by unfold dQ;rw[qQ,hf];exact wC);obtain⟨sl,e⟩:=I.base.slot L o ho (I.ok.iS L hL) hL λz=>I.ok.kO L z hL
   exact⟨hk,⟨L,_,hf,hn,e,hd⟩,ih (λb hb=>hs b (by unfold dQ;rw[qQ,hf];exact wB _ hb)) hr⟩
 exact all X.outer (λ_ hb=>hb) I.ok.ff
theorem Inv.stack(I:Inv X pins σ H s):s.heap.FunFrames X.base X.stack:=by
 rcases I.ok.lg with e | ⟨e,hf⟩
 ·rw[e];exact I.ff
 ·rw[e]
  obtain⟨m,hn,_⟩:=I.loc;refine .cons (by rw[I.ok.kind];decide) hf hn ?_ I.ff;exact Heap.get?_none_of_le (Wb I.ok.ie I.ok.above)
theorem Inv.ma(I:Inv X pins σ H s):∀b∈dQ X.stack,b∈X.env.locals::X.fs:=λb hb=>by
 rcases I.ok.lg with e | ⟨e,hf⟩
 ·rw[e]at hb;exact wB _ hb
 ·rw[e]at hb
  unfold dQ at hb;rw[qQ,hf]at hb;exact hb
theorem Inv.rm(I:Inv X pins σ H s):∀b∈dQ X.stack,H b=none:=λb hb=>by
 rcases wG.mp (I.ma b hb)with e | hb
 ·rw[e];exact I.free
 ·obtain⟨_,o,ho,_⟩:=I.ok.ff.mem hb
  exact I.base.free b o ho (I.ok.iS b hb) λz=>I.ok.kO b z hb
theorem Inv.step{g':Array GenState}{t':Nat}{d':Drawn}{ch:List we}(I:Inv X pins σ H s)
  (hch:∀b∈ch,(b∈X.ex\/X.s₀.heap.objs.size<=b)/\b≠X.env.locals/\(∀x c,X.env.cells.lookup x=some c->c≠b) /\ ∀p∈X.pn++pins,p.1≠b)
  (keep:∀b o,b≠X.env.locals->b ∉ X.fs->b ∉ ch->s.heap.get? b=some o->H b=none->h'.get? b=some o)
  (slot:∀b o,b≠X.env.locals->b∈X.fs->b ∉ ch->s.heap.get? b=some o->H b=none->∃sl,h'.get? b=some {o with slots:=sl}) (free:∀b o,b ∉ ch->s.heap.get? b=some o->H b=none->H' b=none)
  (there:∀b o,b ∉ ch->s.heap.get? b=some o->∃o',h'.get? b=some o')
  (hV:∀b xs,H b=some (.tup xs)->H' b=some (.tup xs)) (gL:∀b o u,H b=some (.gq o u)->H' b=some (.gq o u)) (hW:∀b ps,H b=some (.kj ps)->∃more,H' b=some (.kj (ps++more)))
  (ns:∀m,s.heap.Ns X.env.locals m->h'.Ns X.env.locals m) (aJ:dj X.prog X.w H' h') (hg:AllBare g') :
  Inv X pins σ H' {s with heap:=h',gens:=g',drawn:=d',toks:=t'}:=by
 have neL:∀b o,X.s₀.heap.get? b=some o->b≠X.env.locals:=λb o e=>wO (wU (wA e) I.ok.above)
 have neC:∀b o,X.s₀.heap.get? b=some o->b ∉ X.ex->b ∉ ch:=λb o e hx hb=>by
  rcases (hch b hb).1 with z | z
  ·exact hx z
  ·exact absurd (wU (wA e) z) (WS _)
 have cellK:∀x c,X.env.cells.lookup x=some c->∀v,s.heap.IsCell c v->h'.IsCell c v:=λx c e v ⟨o,ho,hd⟩=>by
  have nch:c ∉ ch:=λz=>(hch c z).2.2.1 x c e rfl
  by_cases hc:c∈X.fs
  ·obtain⟨sl,q⟩:=slot c o (I.kC x c e) hc nch ho (I.gf x c e)
   exact⟨_,q,hd⟩
  ·exact⟨o,keep c o (I.kC x c e) hc nch ho (I.gf x c e),hd⟩
 refine⟨I.ok,I.os,hg,⟨λb o e n hb hx=>?_,λb o e n hb hx=>?_,λb o e n hx=>?_,λb o e hx=>?_,λb xs e=>hV b xs (I.base.hV b xs e),λb o xs e=>gL b o xs (I.base.gL b o xs e),λb ps e=>?_⟩,?_,λx c e=>?_,?_,λx c e=>?_,λp hp=>?_,aJ,I.len⟩
 ·exact keep b o (neL b o e) hb (neC b o e hx) (I.base.keep b o e n hb hx) (I.base.free b o e n hx)
 ·obtain⟨sl,e1⟩:=I.base.slot b o e n hb hx
  obtain⟨sl',e2⟩:=slot b _ (neL b o e) hb (neC b o e hx) e1 (I.base.free b o e n hx);exact⟨sl',e2⟩
 ·obtain⟨o',e1⟩:=I.base.there b o e hx
  exact free b o' (neC b o e hx) e1 (I.base.free b o e n hx)
 ·obtain⟨o',e1⟩:=I.base.there b o e hx
  exact there b o' (neC b o e hx) e1
 ·obtain⟨m1,e1⟩:=I.base.hW b ps e
  obtain⟨m2,e2⟩:=hW b _ e1;exact⟨m1++m2,by rw[e2,xA]⟩
 ·obtain⟨m,hn,hl⟩:=I.loc
  refine⟨m,ns m hn,λi x v e1 e2 e3=>?_⟩;obtain⟨u,r,l⟩:=hl i x v e1 e2 e3;refine⟨u,r,?_⟩;rcases l with l | ⟨k,c,e,z⟩
  ·exact .inl l
  ·exact .inr ⟨k,c,e,cellK x c e _ z⟩
 ·obtain⟨v,z⟩:=I.cell x c e
  exact⟨v,cellK x c e v z⟩
 ·obtain⟨m,⟨o,_,_,ho,_⟩,_⟩:=I.loc
  exact free _ o (λz=>(hch _ z).2.1 rfl) ho I.free
 ·obtain⟨v,o,ho,hd⟩:=I.cell x c e
  exact free c o (λz=>(hch c z).2.2.1 x c e rfl) ho (I.gf x c e)
 ·obtain⟨e,n,ne,nf,d⟩:=I.pin p hp
  have nch:p.1 ∉ ch:=λz=>(hch p.1 z).2.2.2 p hp rfl
  exact⟨keep p.1 p.2 ne nf nch e n,free p.1 p.2 nch e n,ne,nf,d⟩
theorem Inv.un{t':Nat}(I:Inv X pins σ H s)(u:Un X.fs [] H H' s.heap h')(aJ:dj X.prog X.w H' h'):Inv X pins σ H' {s with heap:=h',toks:=t'}:=by
 obtain⟨m,⟨o,es,ep,ho,r⟩,_⟩:=id I.loc;obtain⟨sl,hL⟩:=u.any ho I.free (by simp)
 exact I.step (g':=s.gens) (d':=s.drawn) (ch:=[]) (λ_ z=>nomatch z) (λb o _ hb _ e n=>u.keep b o e n hb (by simp)) (λb o _ hb _ e n=>u.slot b o e n hb (by simp)) (λb o _ e n=>u.free b o e n (by simp)) (λb o _ e=>u.there b o e (by simp)) u.hV u.gL u.hW (λm' hm=>by
  obtain⟨o',es',ep',ho',r'⟩:=hm;rw[ho]at ho';cases ho';exact⟨_,es',ep',hL,r'⟩) aJ I.bare
theorem Inv.call{g':Array GenState}{t':Nat}{d':Drawn}{ch:List we}(I:Inv X pins σ H s)(u:Un (dQ X.stack) ch H H' s.heap h')(aJ:dj X.prog X.w H' h')(hg:AllBare g')
  (hch:∀b∈ch,(b∈X.ex\/X.s₀.heap.objs.size<=b)/\b≠X.env.locals/\(∀x c,X.env.cells.lookup x=some c->c≠b) /\ ∀p∈X.pn++pins,p.1≠b) :
  Inv X pins σ H' {s with heap:=h',gens:=g',drawn:=d',toks:=t'}:=by
 obtain⟨m,⟨o,es,ep,ho,r⟩,_⟩:=id I.loc;obtain⟨sl,hL⟩:=u.any ho I.free λz=>(hch _ z).2.1 rfl
 exact I.step (ch:=ch) hch (λb o hL hb hc e n=>u.keep b o e n (λz=>(wG.mp (I.ma b z)).elim hL hb) hc) (λb o _ _ hc e n=>u.any e n hc) (λb o hc e n=>u.free b o e n hc) (λb o hc e=>u.there b o e hc) u.hV u.gL u.hW (λm' hm=>by
  obtain⟨o',es',ep',ho',r'⟩:=hm;rw[ho]at ho';cases ho';exact⟨_,es',ep',hL,r'⟩) aJ hg
theorem Inv.turned{t':Nat}{it:we}(I:Inv X pins σ H s)(k:∀b o,b≠it->s.heap.get? b=some o->h'.get? b=some o)(hn:H it=none)(hL:it≠X.env.locals)
  (h1:it∈X.ex\/X.s₀.heap.objs.size<=it) (h2:∀x c,X.env.cells.lookup x=some c->c≠it) (h3:∀p∈X.pn++pins,p.1≠it):Inv X pins σ H {s with heap:=h',toks:=t'}:=by
 have nit:∀b u,H b=some u->b≠it:=λb u e z=>by rw[z,hn]at e;cases e
 refine I.step (g':=s.gens) (d':=s.drawn) (ch:=[it]) (λb hb=>?_) (λb o _ _ hc e _=>k b o (λz=>hc (by simp[z])) e) (λb o _ _ hc e _=>⟨o.slots,k b o (λz=>hc (by simp[z])) e⟩) (λ_ _ _ _ n=>n)
  (λb o hc e=>⟨o,k b o (λz=>hc (by simp[z])) e⟩) (λ_ _ e=>e) (λ_ _ _ e=>e) (λb ps e=>⟨#[],by rw[e];simp⟩) (λm hm=>?_) (λb u e=>?_) I.bare
 ·have e:b=it:=by simpa using hb
  subst e;exact⟨h1,hL,h2,h3⟩
 ·obtain⟨o,es,ep,ho,r⟩:=hm
  exact⟨o,es,ep,k _ o (Wo hL) ho,r⟩
 ·refine(I.aJ b u e).kb (λc v hc q=>k c v ?_ q) (λ_ q=>q) λ_ _ q=>q
  rcases hc with z | z
  ·rw[z];exact nit b u e
  ·exact nit c _ z
theorem Inv.tok(I:Inv X pins σ H s)(t:Nat):Inv X pins σ H {s with toks:=t}:=I.un (h':=s.heap) (t':=t) Un.refl I.aJ
theorem Inv.kept{t':Nat}(I:Inv X pins σ H s)(k:∀b u,s.heap.get? b=some u->h'.get? b=some u):Inv X pins σ H {s with heap:=h',toks:=t'}:=I.un (Un.kept k) (I.aJ.kept k)
theorem Inv.laid{a:we}{o:HO}{t':Nat}(I:Inv X pins σ H s)(k:∀b u,s.heap.get? b=some u->h'.get? b=some u)(hp:s.heap.objs.size<=a)(new:dM X.prog X.w (upd H a o) h' a o) :
  Inv X pins σ (upd H a o) {s with heap:=h',toks:=t'}:=I.un (Un.laid k hp (I.aJ.fresh hp)) (I.aJ.laid k hp new)
theorem Inv.write{x e:we}{o:HO}{t':Nat}(I:Inv X pins σ H s)(mu:x_ (H x))(he:e=x\/H e=some (.own x))(k:∀b u,b≠e->s.heap.get? b=some u->h'.get? b=some u)(heo:∃u,h'.get? e=some u)
  (new:dM X.prog X.w (upd H x o) h' x o):Inv X pins σ (upd H x o) {s with heap:=h',toks:=t'}:=I.un (Un.write mu he k heo) (I.aJ.write mu he k heo new)
theorem Inv.IS{pins':List (we × Obj)}(I:Inv X pins σ H s)(h:∀p∈pins',s.heap.get? p.1=some p.2/\H p.1=none/\p.1≠X.env.locals/\p.1 ∉ X.fs /\ ∀v,p.2.data≠.cell v):Inv X pins' σ H s :=
 ⟨I.ok,I.os,I.bare,I.base,I.loc,I.cell,I.free,I.gf,λp hp=>(vM.mp hp).elim (λz=>I.pin p (Vr _ z)) (h p),I.aJ,I.len⟩
theorem JQ{N:List Str}(hN:N.Nodup){i j:Nat}{x:Str}(a:N[i]? = some x)(b:N[j]? = some x):i=j:=by
 obtain⟨h1,e1⟩:=WP.mp a;obtain⟨h2,e2⟩:=WP.mp b;exact(List.getElem_inj hN).mp (e1.trans e2.symm)
theorem Mu{M:Model}{A:ve}{E:wf->wl->Prop}{i:Nat}{x:Str}{v:V}{u:wf}{Q:Unit->wl->Prop}(I:Inv X pins σ H s)(hN:X.N.Nodup)(hi:X.N[i]? = some x)(hx:Loc X.env.scope x)(r:a_ v u)
  (h:∀s',Inv X pins (σ.set i (some v)) H s'->(∃a,vy a s.heap s'.heap/\(a=X.env.locals\/X.env.cells.lookup x=some a))->Q () s') (hf:X.fn x=true\/X.env.scope.names.lookup x=some .local:=by first | exact .inl rfl | exact .inr rfl | assumption):wr M A (storeName X.env x u) Q E s:=by
 obtain⟨m,hn,hl⟩:=id I.loc;have hcls:(X.env.scope.kind == .class || (X.env.scope.kind == .module&&X.env.locals != X.env.globals))=false:=by rw[I.ok.kind];rfl
 have hiσ : i < σ.length:=by rw[I.len];exact(WP.mp hi).1
 have kC:=I.kC
 have tracked:∀{a:we}{h':wI},(∃o,s.heap.get? a=some o/\H a=none)->vy a s.heap h'->dj X.prog X.w H h':=λ{a h'} ha hs b ob e=>by
  obtain⟨_,_,hfree⟩:=ha;refine(I.aJ b ob e).kb (λc w' hc q=>(hs.2 c ?_).trans q) (λ_ q=>q) λ_ _ q=>q
  rintro rfl;rcases hc with rfl | hc
  ·rw[hfree]at e;cases e
  ·rw[hfree]at hc;cases hc
 rcases hx with hk | hk
 ·refine wpAny_storeName_local hk hn (λh' hn' hs=>?_) hcls
  obtain⟨oL,_,_,hoL,_⟩:=id hn;refine h _ ⟨I.ok,I.os,I.bare,⟨λb o e n hb hx=>?_,λb o e n hb hx=>?_,I.base.free,λb o e hx=>?_,I.base.hV,I.base.gL,I.base.hW⟩,⟨_,hn',λj y v' e1 e2 e3=>?_⟩,λy c e=>?_,I.free,I.gf,λp hp=>?_,tracked ⟨oL,hoL,I.free⟩ hs,by simpa using I.len⟩ ⟨_,hs,.inl rfl⟩
  ·exact(hs.2 b (wO (wU (wA e) I.ok.above))).trans (I.base.keep b o e n hb hx)
  ·obtain⟨sl,e1⟩:=I.base.slot b o e n hb hx
   exact⟨sl,(hs.2 b (wO (wU (wA e) I.ok.above))).trans e1⟩
  ·obtain⟨o',e1⟩:=I.base.there b o e hx
   exact⟨o',(hs.2 b (wO (wU (wA e) I.ok.above))).trans e1⟩
  ·by_cases hj:j=i
   ·subst hj
    rw[hi]at e1;cases e1;rw[QP hiσ]at e2;cases e2;exact⟨u,r,.inl ⟨hk,by simp⟩⟩
   ·rw[xa (Wo hj)]at e2
    obtain⟨u',r',q⟩:=hl j y v' e1 e2 e3;refine⟨u',r',?_⟩;rcases q with⟨k,e⟩ | ⟨k,c,e,z⟩
    ·refine .inl ⟨k,?_⟩
     have:y≠x:=λe=>hj (JQ hN e1 (e ▸ hi))
     simp[this,e]
    ·exact .inr ⟨k,c,e,z.sameBut hs (kC y c e)⟩
  ·obtain⟨w',z⟩:=I.cell y c e
   exact⟨w',z.sameBut hs (kC y c e)⟩
  ·obtain⟨e,n,ne,nf,d⟩:=I.pin p hp
   exact⟨(hs.2 p.1 ne).trans e,n,ne,nf,d⟩
 ·have hfn:X.fn x=true:=by
   rcases hf with z | z
   ·exact z
   ·rw[z]at hk;cases hk
  obtain⟨c,hc⟩:=I.ok.has x (.inl hk);obtain⟨w',z⟩:=I.cell x c hc;refine wpAny_storeName_cell I.ok.kind hk hc z (λh' hc' hs=>?_);obtain⟨oc,hoc,hocd⟩:=id z;refine h {s with heap:=h'} ⟨I.ok,I.os,I.bare,⟨λb o e n hb hx=>?_,λb o e n hb hx=>?_,I.base.free,λb o e hx=>?_,I.base.hV,I.base.gL,I.base.hW⟩,⟨m,hn.sameBut hs (Wo (kC x c hc)),λj y v' e1 e2 e3=>?_⟩,λy c' e=>?_,I.free,I.gf,λp hp=>?_,tracked ⟨oc,hoc,I.gf x c hc⟩ hs,by simpa using I.len⟩ ⟨c,hs,.inr hc⟩
  ·exact(hs.2 b (wO (wU (wA e) (I.ok.kl x c hfn hc)))).trans (I.base.keep b o e n hb hx)
  ·obtain⟨sl,e1⟩:=I.base.slot b o e n hb hx
   exact⟨sl,(hs.2 b (wO (wU (wA e) (I.ok.kl x c hfn hc)))).trans e1⟩
  ·obtain⟨o',e1⟩:=I.base.there b o e hx
   exact⟨o',(hs.2 b (wO (wU (wA e) (I.ok.kl x c hfn hc)))).trans e1⟩
  ·by_cases hj:j=i
   ·subst hj
    rw[hi]at e1;cases e1;rw[QP hiσ]at e2;cases e2;exact⟨u,r,.inr ⟨.inl hk,c,hc,hc'⟩⟩
   ·rw[xa (Wo hj)]at e2
    obtain⟨u',r',q⟩:=hl j y v' e1 e2 e3;refine⟨u',r',?_⟩;rcases q with q | ⟨k,c',e,z'⟩
    ·exact .inl q
    ·refine .inr ⟨k,c',e,z'.sameBut hs ?_⟩
     rintro rfl;exact hj (JQ hN e1 (I.ok.inj _ _ _ e hc ▸ hi))
  ·by_cases hcc:c'=c
   ·subst hcc;exact⟨_,hc'⟩
   ·obtain⟨w2,z2⟩:=I.cell y c' e
    exact⟨w2,z2.sameBut hs hcc⟩
  ·obtain⟨e,n,ne,nf,d⟩:=I.pin p hp
   refine⟨(hs.2 p.1 ?_).trans e,n,ne,nf,d⟩;intro q;rw[q,hoc]at e;have q':oc=p.2:=wX e;exact d w' (by rw[<- q'];exact hocd)
theorem oh{M:Model}{A:ve}{E:wf->wl->Prop}{i:Nat}{x:Str}{v:V}{u:wf}{Q:Unit->wl->Prop}(I:Inv X pins σ H s)(hN:X.N.Nodup)(hi:X.N[i]? = some x)(hx:Loc X.env.scope x)(r:a_ v u)
  (h:∀s',Inv X pins (σ.set i (some v)) H s'->Q () s') (hf:X.fn x=true\/X.env.scope.names.lookup x=some .local:=by first | exact .inl rfl | exact .inr rfl | assumption):wr M A (storeName X.env x u) Q E s :=
 Mu I hN hi hx r (λs' I' _=>h s' I') hf
theorem Inv.Jp{s':wl}{ch:List we}(I:Inv X pins σ H s)(ho:s'.os=s.os)(u:Un (dQ X.stack) ch H H' s.heap s'.heap)(aJ:dj X.prog X.w H' s'.heap)(hg:AllBare s'.gens)
  (hch:∀b∈ch,(b∈X.ex\/X.s₀.heap.objs.size<=b)/\b≠X.env.locals/\(∀x c,X.env.cells.lookup x=some c->c≠b) /\ ∀p∈X.pn++pins,p.1≠b):Inv X pins σ H' s':=by
 obtain⟨h',g',d',t',o'⟩:=s';have e:o'=s.os:=ho;subst e;exact I.call (g':=g') (t':=t') (d':=d') u aJ hg hch
end
abbrev XK:=wf->Option we->Hp->Prop
abbrev St:=List (Option V)
abbrev VK:=V->Hp->Prop
abbrev TE:=St->Hp->VK->Prop
abbrev TT:=St->Hp->(Bool->Hp->Prop)->Prop
abbrev TA:=St->Hp->(List V->Hp->Prop)->Prop
structure ck where
 nx:St->Hp->Prop
 rt:VK
 bk:St->Hp->Prop:=λ_ _=>False
 ct:St->Hp->Prop:=λ_ _=>False
abbrev TS:=ck->St->Hp->Prop
def EP(X:Cx)(pins:List (we × Obj))(σ : St)(Q:VK)(u:wf)(s':wl):Prop:=∃v H',Inv X pins σ H' s'/\a_ v u/\Q v H'
def TP(X:Cx)(pins:List (we × Obj))(σ : St)(Q:Bool->Hp->Prop)(b:Bool)(s':wl):Prop:=∃H',Inv X pins σ H' s'/\Q b H'
def AP(X:Cx)(pins:List (we × Obj))(σ : St)(Q:List V->Hp->Prop)(us:List wf)(s':wl):Prop:=∃vs H',Inv X pins σ H' s'/\aT vs us/\Q vs H'
def SP(X:Cx)(pins:List (we × Obj))(D:ck)(f:Flow)(s':wl):Prop :=
 match f with
 | .next=>∃σ' H',Inv X pins σ' H' s'/\D.nx σ' H'
 | .brk=>∃σ' H',Inv X pins σ' H' s'/\D.bk σ' H'
 | .cont=>∃σ' H',Inv X pins σ' H' s'/\D.ct σ' H'
 | .ret u=>∃v σ' H',Inv X pins σ' H' s'/\a_ v u/\D.rt v H'
def PE(X:Cx)(e:Expr)(t:TE):Prop :=
 ∀(pins:List (we × Obj))(s:wl)(σ : St)(H:Hp)(Q:VK),Inv X pins σ H s->t σ H Q->wr (model X.prog X.w) X.A (eval e X.env) (EP X pins σ Q) X.xe s
def PT(X:Cx)(e:Expr)(t:TT):Prop :=
 ∀(pins:List (we × Obj))(s:wl)(σ : St)(H:Hp)(Q:Bool->Hp->Prop),Inv X pins σ H s->t σ H Q->wr (model X.prog X.w) X.A (isTrue e X.env (eval e X.env)) (TP X pins σ Q) X.xe s
def PW(X:Cx)(e:Expr)(t:TT):Prop :=
 ∀(whole:Sem wf)(pins:List (we × Obj))(s:wl)(σ : St)(H:Hp)(Q:Bool->Hp->Prop),Inv X pins σ H s->t σ H Q->wr (model X.prog X.w) X.A (isTrue e X.env whole) (TP X pins σ Q) X.xe s
theorem PW.pt{X:Cx}{e:Expr}{t:TT}(h:PW X e t):PT X e t:=h _
def PA(X:Cx)(es:List Expr)(t:TA):Prop :=
 ∀(pos:Pos)(pins:List (we × Obj))(s:wl)(σ : St)(H:Hp)(Q:List V->Hp->Prop),Inv X pins σ H s->t σ H Q->wr (model X.prog X.w) X.A (spliced (W0 pos (wT es X.env))) (AP X pins σ Q) X.xe s
def PS(X:Cx)(st:wZ)(t:TS):Prop :=
 ∀(pins:List (we × Obj))(s:wl)(σ : St)(H:Hp)(D:ck),Inv X pins σ H s->t D σ H->wr (model X.prog X.w) X.A (exec st X.env) (SP X pins D) X.xe s
def fM(X:Cx)(st:List wZ)(t:TS):Prop :=
 ∀(pins:List (we × Obj))(s:wl)(σ : St)(H:Hp)(D:ck),Inv X pins σ H s->t D σ H->wr (model X.prog X.w) X.A (execs st X.env) (SP X pins D) X.xe s
theorem aI{α : Type}{t:Sem α}{Q Q' : α -> wl->Prop}{M:Model}{A:ve}{E:wf->wl->Prop}{s:wl}(h:wr M A t Q E s)(hQ:∀a s,Q a s->Q' a s):wr M A t Q' E s:=Wm h hQ λ_ _ x=>x
section
variable{X:Cx}
def pM(i:Nat):TE:=λσ H Q=>∃v,σ[i]? = some (some v)/\Q v H
def tC(v:V):TE:=λ_ H Q=>Q v H
theorem US{i:Nat}{x:Str}{pos:Pos}(hN:X.N[i]? = some x)(hv:zH X.env.scope x)(hd:(x == ("__debug__" : Str))=false:=by decide)(hcd:(x == ("__classdict__" : Str))=false:=by decide):PE X (.Name x pos) (pM i):=by
 intro pins s σ H Q I h;obtain⟨v,e,h⟩:=h;obtain⟨m,hn,hl⟩:=I.loc;obtain⟨u,r,l⟩:=hl i x v hN e hv;have fin:EP X pins σ Q u s:=⟨v,H,I,r,h⟩;rcases l with⟨hk,hm⟩ | ⟨hk,c,hc,hcell⟩
 ·exact wpAny_Name (wpAny_loadName_local I.ok.kind hk hn hm fin) hd
 ·rcases hk with hk | hk
  ·exact wpAny_Name (wpAny_loadName_cell I.ok.kind hk hc hcell fin) hd
  ·exact wpAny_Name (wpAny_loadName_free I.ok.kind hk hc hcell fin hcd) hd
theorem ay{i j pos} : PE X (.Constant (.int i) j pos) (tC (.int i)):=λ_ _ _ H _ I h=>wpAny_Constant_int ⟨.int i,H,I.tok _,⟨_,rfl⟩,h⟩
theorem dP{b j pos} : PE X (.Constant (.bool b) j pos) (tC (.bl b)):=λ_ _ _ H _ I h=>Constant_bool ⟨.bl b,H,I,rfl,h⟩
theorem fh{j pos} : PE X (.Constant .none j pos) (tC .bj):=λ_ _ _ H _ I h=>Constant_none ⟨.bj,H,I,rfl,h⟩
theorem gE{x j pos} : PE X (.Constant (.str x) j pos) (tC (.str x)):=λ_ _ _ H _ I h=>Calls.Constant_str ⟨.str x,H,I.tok _,⟨_,rfl⟩,h⟩
def Gl(X:Cx)(x:Str):Prop:=X.env.kindOf x=some .globalImplicit
theorem pS{E:wf->wl->Prop}{pins:List (we × Obj)}{s:wl}{σ : St}{H:Hp}{x:Str}{u:wf}{pos:Pos}{Q:wf->wl->Prop}(I:Inv X pins σ H s)(hg:Gl X x)(hm:X.mg x=some u)(h:Q u s)
  (hd:(x == ("__debug__" : Str))=false:=by decide):wr (model X.prog X.w) X.A (eval (.Name x pos) X.env) Q E s :=
 Qd I.ok.kind hg (Calls.loadGlobal_global (by rw[I.ok.glob];exact I.mod.glob.keeps I.bk) hm h) hd
theorem gI{E:wf->wl->Prop}{pins:List (we × Obj)}{s:wl}{σ : St}{H:Hp}{x:Str}{u:wf}{pos:Pos}{Q:wf->wl->Prop}(I:Inv X pins σ H s)(hg:Gl X x)(hm:X.mg x=none)(hv:vH x=some u)(h:Q u s)
  (hn:x≠"__name__":=by decide) (hd:(x == ("__debug__" : Str))=false:=by decide):wr (model X.prog X.w) X.A (eval (.Name x pos) X.env) Q E s:=by
 obtain⟨mb,h1,h2⟩:=I.mod.blt;exact Qd I.ok.kind hg (Calls.loadGlobal_builtin (by rw[I.ok.glob];exact I.mod.glob.keeps I.bk) hm (by rw[I.ok.blt];exact h1.keeps I.bk) ((h2 x hn).trans hv) h) hd
theorem bZ{x:Str}{v:V}{u:wf}{pos:Pos}(hg:Gl X x)(hm:X.mg x=some u)(r:a_ v u)(hd:(x == ("__debug__" : Str))=false:=by decide):PE X (.Name x pos) (tC v) :=
 λ_ _ _ H _ I h=>pS I hg hm ⟨v,H,I,r,h⟩ hd
theorem gU{x:Str}{v:V}{u:wf}{pos:Pos}(hg:Gl X x)(hm:X.mg x=none)(hv:vH x=some u)(r:a_ v u)(hn:x≠"__name__":=by decide)(hd:(x == ("__debug__" : Str))=false:=by decide):PE X (.Name x pos) (tC v) :=
 λ_ _ _ H _ I h=>gI I hg hm hv ⟨v,H,I,r,h⟩ hn hd
def t2I(ta tb:TE)(k:Int->Int->Hp->Prop):St->Hp->Prop:=λσ H=>ta σ H λx H1=>tb σ H1 λy H2=>∃i j,x=.int i/\y=.int j/\k i j H2
variable{a b:Expr}{ta tb:TE}{pos:Pos}
def nC(p:Int->Int->Bool)(ta tb:TE):TE:=λσ H Q=>t2I ta tb (λi j H2=>Q (.bl (p i j)) H2) σ H
abbrev tLt:TE->TE->TE:=nC λi j=>decide (i<j)
abbrev tLe:TE->TE->TE:=nC λi j=>decide (i<=j)
abbrev tGt:TE->TE->TE:=nC λi j=>decide (j<i)
abbrev tGe:TE->TE->TE:=nC λi j=>decide (j<=i)
abbrev zDY:TE->TE->TE:=nC λi j=>decide (i=j)
abbrev zDZ:TE->TE->TE:=nC λi j=>!decide (i=j)
def tB(t:TE):TT:=λσ H Q=>t σ H λx H1=>∃c,x=.bl c/\Q c H1
theorem cb{e:Expr}{t:TE}(h:PE X e t)(he:∀whole,isTrue e X.env whole=(do let v <- whole;standAt e.pos;holding [v] (truthy v)):=by intro _;rfl):PT X e (tB t):=by
 intro pins s σ H Q I hw;refine isTrue_plain (aI (h pins s σ H _ I hw) λv s1 ⟨x,H1,I1,r1,q1⟩=>?_) (he _);obtain⟨d,rfl,q⟩:=q1;cases r1;exact vX ⟨H1,I1,q⟩
variable{tA tB':TT}{dX:List Expr}
def Sw(t u:TT):TT:=λσ H Q=>t σ H λc H1=>if c=true then u σ H1 Q else Q false H1
def Rx(t u:TT):TT:=λσ H Q=>t σ H λc H1=>if c=true then Q true H1 else u σ H1 Q
def Lv(t:TT):TT:=λσ H Q=>t σ H λc H1=>Q (!c) H1
theorem Bp(ha:PT X a tA):PW X (.BoolOp .And [a] pos) tA:=by
 intro wh pins s σ H Q I h;refine isTrue_and (aI (ha pins s σ H Q I h) λc s1 e=>?_);cases c with
 | true=>exact isTrue_and_nil e
 | false=>exact e
theorem fT(ha:PT X a tA):PW X (.BoolOp .Or [a] pos) tA:=by
 intro wh pins s σ H Q I h;refine isTrue_or (aI (ha pins s σ H Q I h) λc s1 e=>?_);cases c with
 | false=>exact isTrue_or_nil e
 | true=>exact e
theorem Ct(ha:PT X a tA)(hb:PW X (.BoolOp .And (b::dX) pos) tB'):PW X (.BoolOp .And (a::b::dX) pos) (Sw tA tB'):=by
 intro wh pins s σ H Q I h;refine isTrue_and (aI (ha pins s σ H _ I h) λc s1 ⟨H1,I1,q1⟩=>?_);cases c with
 | true=>exact hb wh pins s1 σ H1 Q I1 q1
 | false=>exact⟨H1,I1,q1⟩
theorem d_(ha:PT X a tA)(hb:PW X (.BoolOp .Or (b::dX) pos) tB'):PW X (.BoolOp .Or (a::b::dX) pos) (Rx tA tB'):=by
 intro wh pins s σ H Q I h;refine isTrue_or (aI (ha pins s σ H _ I h) λc s1 ⟨H1,I1,q1⟩=>?_);cases c with
 | true=>exact⟨H1,I1,q1⟩
 | false=>exact hb wh pins s1 σ H1 Q I1 q1
theorem cq(ha:PT X a tA):PT X (.UnaryOp .Not a pos) (Lv tA):=by
 intro pins s σ H Q I h;exact isTrue_not (ha pins s σ H (λc H1=>Q (!c) H1) I h)
def LI(ta tb:TE):TE:=λσ H Q=>ta σ H λx H1=>∃c,x=.bl c/\if c=true then tb σ H1 Q else Q (.bl false) H1
def R0(ta tb:TE):TE:=λσ H Q=>ta σ H λx H1=>∃c,x=.bl c/\if c=true then Q (.bl true) H1 else tb σ H1 Q
def Nk(ta:TE):TE:=λσ H Q=>ta σ H λx H1=>∃c,x=.bl c/\Q (.bl (!c)) H1
theorem fN{op}{t:TE}(h:PE X a t):PE X (.BoolOp op [a] pos) t:=λpins s σ H Q I hw=>BoolOp_one (h pins s σ H Q I hw)
theorem eQ(ha:PE X a ta)(hb:PE X (.BoolOp .And (b::dX) pos) tb):PE X (.BoolOp .And (a::b::dX) pos) (LI ta tb):=by
 intro pins s σ H Q I h;refine BoolOp_and (aI (ha pins s σ H _ I h) λv s1 ⟨x,H1,I1,r1,q1⟩=>?_);obtain⟨c,rfl,q1⟩:=q1;cases r1;refine vX ?_;cases c with
 | true=>exact hb pins s1 σ H1 Q I1 q1
 | false=>exact⟨.bl false,H1,I1,rfl,q1⟩
theorem Z2(ha:PE X a ta)(hb:PE X (.BoolOp .Or (b::dX) pos) tb):PE X (.BoolOp .Or (a::b::dX) pos) (R0 ta tb):=by
 intro pins s σ H Q I h;refine BoolOp_or (aI (ha pins s σ H _ I h) λv s1 ⟨x,H1,I1,r1,q1⟩=>?_);obtain⟨c,rfl,q1⟩:=q1;cases r1;refine vX ?_;cases c with
 | false=>exact hb pins s1 σ H1 Q I1 q1
 | true=>exact⟨.bl true,H1,I1,rfl,q1⟩
theorem mK(ha:PE X a ta):PE X (.UnaryOp .Not a pos) (Nk ta):=by
 intro pins s σ H Q I h;refine UnaryOp_ (aI (ha pins s σ H _ I h) λv s1 ⟨x,H1,I1,r1,q1⟩=>?_);obtain⟨c,rfl,q1⟩:=q1;cases r1;exact not_of (vX ⟨.bl (!c),H1,I1,rfl,q1⟩)
def O5(t:TT)(ta tb:TE):TE:=λσ H Q=>t σ H λc H1=>if c=true then ta σ H1 Q else tb σ H1 Q
theorem tH{c:Expr}(hc:PT X c tA)(ha:PE X a ta)(hb:PE X b tb):PE X (.IfExp c a b pos) (O5 tA ta tb):=by
 intro pins s σ H Q I h;refine wpAny_IfExp (aI (hc pins s σ H _ I h) λd s1 ⟨H1,I1,q1⟩=>?_);cases d with
 | true=>exact ha pins s1 σ H1 Q I1 q1
 | false=>exact hb pins s1 σ H1 Q I1 q1
end
def aR(K:wa)(H:Hp)(a:we)(xs:List V):Prop :=
 Rd H a (.lst xs) \/
  ∃(o:Obj)(its:Array wf)(n:Nat),K.lookup a=some o/\o.cls=.type "list"/\o.dict=none/\o.data=.seq its n/\its.size<=w5/\aT xs its.toList
def aV(K:wa)(H:Hp)(a:we)(xs:List V):Prop :=
 Rd H a (.tup xs) \/
  ∃(o:Obj)(its:Array wf)(n:Nat),K.lookup a=some o/\o.cls=.type "tuple"/\o.data=.seq its n/\its.size<=w5/\aT xs its.toList
def zDQ:wf->Option V
 | .none=>some .bj
 | .bool b=>some (.bl b)
 | .int i _=>some (.int i)
 | .str x _=>some (.str x)
 | .bytes b _=>some (.byt b)
 | .float b _=>some (.flt b)
 | .ref a=>some (.ref a)
 | .type n=>some (.ty n)
 | _=>none
theorem a_.abs{x:V}{u:wf}(r:a_ x u):zDQ u=some x:=by
 cases x with
 | bj=>cases r;rfl
 | bl _=>cases r;rfl
 | int _=>obtain⟨t,rfl⟩:=r;rfl
 | str _=>obtain⟨t,rfl⟩:=r;rfl
 | byt _=>obtain⟨t,rfl⟩:=r;rfl
 | flt _=>obtain⟨t,rfl⟩:=r;rfl
 | ref _=>cases r;rfl
 | ty _=>cases r;rfl
theorem a_.inj{x y:V}{u:wf}(r:a_ x u)(q:a_ y u):x=y:=wX (r.abs.symm.trans q.abs)
theorem aT.inj:∀{xs ys:List V}{us:List wf},aT xs us->aT ys us->xs=ys
 | _,_,_,.nil,.nil=>rfl
 | _,_,_,.cons r t,.cons r' t'=>by rw[r.inj r',aT.inj t t']
section
variable{X:Cx}{pins:List (we × Obj)}{σ : St}{H:Hp}{s:wl}{a:we}{xs ys:List V}
theorem aR.of{K:wa}(h:H a=some (.lst xs)):aR K H a xs:=.inl (.inl h)
theorem aV.of{K:wa}(h:H a=some (.tup xs)):aV K H a xs:=.inl (.inl h)
theorem Inv.list(I:Inv X pins σ H s)(h:aR X.K H a xs):∃its:List wf,aT xs its/\PlainL s.heap a its.toArray/\xs.length<=w5:=by
 rcases h with h | ⟨o,its,n,hk,hc,hd,hs,hz,r⟩
 ·obtain⟨z,its,n,r,e⟩:=h.ok I.aJ
  exact⟨its,r,⟨_,n,e,rfl,rfl,rfl⟩,z⟩
 ·refine⟨its.toList,r,⟨o,n,I.dF a o hk,hc,hd,by simpa using hs⟩,?_⟩
  have e:=r.length;simp only[WY]at e
  lia
theorem Inv.tuple(I:Inv X pins σ H s)(h:aV X.K H a xs):∃its:List wf,aT xs its/\IsTup s.heap a its.toArray/\xs.length<=w5:=by
 rcases h with h | ⟨o,its,n,hk,hc,hs,hz,r⟩
 ·obtain⟨z,its,r,p⟩:=h.ok I.aJ
  exact⟨its,r,p,z⟩
 ·refine⟨its.toList,r,⟨o,I.dF a o hk,hc,n,by simpa using hs⟩,?_⟩
  have e:=r.length;simp only[WY]at e
  lia
theorem Inv.Am(I:Inv X pins σ H s)(h:aR X.K H a xs)(h':aR X.K H a ys):xs=ys:=by
 obtain⟨its,r,⟨o,n,e,_,_,d⟩,_⟩:=I.list h;obtain⟨its',r',⟨o',n',e',_,_,d'⟩,_⟩:=I.list h';rw[e]at e';cases e';rw[d]at d'
 injection d' with d1 _
 have:its=its':=by simpa using congrArg ua d1
 subst this;exact r.inj r'
theorem Inv.Ai(I:Inv X pins σ H s)(h:aV X.K H a xs)(h':aV X.K H a ys):xs=ys:=by
 obtain⟨its,r,⟨o,e,_,n,d⟩,_⟩:=I.tuple h;obtain⟨its',r',⟨o',e',_,n',d'⟩,_⟩:=I.tuple h';rw[e]at e';cases e';rw[d]at d'
 injection d' with d1 _
 have:its=its':=by simpa using congrArg ua d1
 subst this;exact r.inj r'
end
abbrev Cx.iQ(X:Cx)(E:wf->wl->Prop):Cx:={X with xe:=E}
abbrev Cx.tS(X:Cx):Cx:=X.iQ λ_ _=>False
theorem Cx.Ok.iQ{X:Cx}(ok:X.Ok)(E:wf->wl->Prop):(X.iQ E).Ok :=
 ⟨ok.mod,ok.kind,ok.glob,ok.blt,ok.above,ok.inj,ok.has,ok.kl,ok.hd,ok.frames,ok.lg,ok.nX,ok.bs,ok.ie,ok.j_,ok.kO,ok.ff,ok.iS⟩
theorem Cx.Ok.j8{X:Cx}{E:wf->wl->Prop}(ok:(X.iQ E).Ok):X.Ok :=
 ⟨ok.mod,ok.kind,ok.glob,ok.blt,ok.above,ok.inj,ok.has,ok.kl,ok.hd,ok.frames,ok.lg,ok.nX,ok.bs,ok.ie,ok.j_,ok.kO,ok.ff,ok.iS⟩
section
variable{X:Cx}{pins:List (we × Obj)}{σ : St}{H:Hp}{s:wl}{E:wf->wl->Prop}
theorem Inv.iQ(I:Inv X pins σ H s)(E:wf->wl->Prop):Inv (X.iQ E) pins σ H s:=⟨I.ok.iQ E,I.os,I.bare,I.base,I.loc,I.cell,I.free,I.gf,I.pin,I.aJ,I.len⟩
theorem Inv.j8(I:Inv (X.iQ E) pins σ H s):Inv X pins σ H s:=⟨I.ok.j8,I.os,I.bare,I.base,I.loc,I.cell,I.free,I.gf,I.pin,I.aJ,I.len⟩
theorem SP.j8{D:ck}{f:Flow}{s':wl}(h:SP (X.iQ E) pins D f s'):SP X pins D f s':=by
 cases f with
 | next=>obtain⟨σ',H',I,q⟩:=h;exact⟨σ',H',I.j8,q⟩
 | brk=>obtain⟨σ',H',I,q⟩:=h;exact⟨σ',H',I.j8,q⟩
 | cont=>obtain⟨σ',H',I,q⟩:=h;exact⟨σ',H',I.j8,q⟩
 | ret u=>obtain⟨v,σ',H',I,r,q⟩:=h;exact⟨v,σ',H',I.j8,r,q⟩
theorem fM.tS{st:List wZ}{t:TS}(h:fM X.tS st t):fM X st t:=λpins s σ H D I hw =>
 Wm (h pins s σ H D (I.iQ _) hw) (λ_ _ q=>q.j8) λ_ _ z=>WC z
end
section
variable{X:Cx}{st:wZ}{dX:List wZ}{t u:TS}{e:Expr}{te:TE}{pos:Pos}
def Mj:TS:=λD σ H=>D.nx σ H
def DD(t u:TS):TS:=λD σ H=>t {D with nx:=u D} σ H
theorem bA:fM X [] Mj:=λ_ _ σ H _ I h=>qd ⟨σ,H,I,h⟩
theorem ar(h1:PS X st t)(h2:fM X dX u):fM X (st::dX) (DD t u):=by
 intro pins s σ H D I h;refine wpAny_execs_cons (aI (h1 pins s σ H {D with nx:=u D} I h) λf s1 q=>?_);cases f with
 | next =>
  obtain⟨σ',H',I',q⟩:=q;exact h2 pins s1 σ' H' D I' q
 | ret v=>exact q
 | brk=>exact q
 | cont=>exact q
theorem av(h1:PS X st t):fM X [st] t:=by
 intro pins s σ H D I h;refine wpAny_execs_cons (aI (h1 pins s σ H D I h) λf s1 q=>?_);cases f with
 | next=>exact qd q
 | ret v=>exact q
 | brk=>exact q
 | cont=>exact q
theorem Inv.quiet{pins:List (we × Obj)}{σ : St}{H:Hp}{s:wl}(I:Inv X pins σ H s):interactive X.env=false:=by simp[interactive,I.ok.kind]
def SN(te:TE):TS:=λD σ H=>te σ H λ_ H1=>D.nx σ H1
theorem mB(he:PE X e te)(hs:swapsWith e none pos.line X.env=pure false:=by rfl):PS X (.Expr e pos) (SN te):=by
 intro pins s σ H D I h;exact wpAny_Expr_any (aI (he pins s σ H _ I h) λv s1 ⟨x,H1,I1,r1,q1⟩=>⟨σ,H1,I1,q1⟩) I.quiet hs
def R_(te:TE):TS:=λD σ H=>te σ H D.rt
theorem aB(he:PE X e te):PS X (.Return (some e) pos) (R_ te):=by
 intro pins s σ H D I h;exact wpAny_Return_some (aI (he pins s σ H _ I h) λv s1 ⟨x,H1,I1,r1,q1⟩=>⟨x,σ,H1,I1,r1,q1⟩)
def PM(c:TT)(t u:TS):TS:=λD σ H=>c σ H λb H1=>if b=true then t D σ H1 else u D σ H1
theorem bD{c:Expr}{a b:List wZ}{tc:TT}(hc:PT X c tc)(ha:fM X a t)(hb:fM X b u):PS X (.If c a b pos) (PM tc t u):=by
 intro pins s σ H D I h;refine wpAny_If (aI (hc pins s σ H _ I h) λd s1 ⟨H1,I1,q1⟩=>?_);cases d with
 | true=>exact ha pins s1 σ H1 D I1 q1
 | false=>exact hb pins s1 σ H1 D I1 q1
def zCC:TS:=λ_ _ _=>False
theorem By:PS X st zCC:=λ_ _ _ _ _ _ h=>h.elim
end
abbrev TG:=V->St->Hp->(St->Hp->Prop)->Prop
abbrev jG:=List V->St->Hp->(St->Hp->Prop)->Prop
def PG(X:Cx)(target:Expr)(t:TG):Prop :=
 ∀(pins:List (we × Obj))(s:wl)(σ : St)(H:Hp)(v:V)(u:wf)(Q:St->Hp->Prop),Inv X pins σ H s->a_ v u->t v σ H Q ->
  wr (model X.prog X.w) X.A (assign target X.env u) (λ_ s'=>∃σ' H',Inv X pins σ' H' s'/\Q σ' H') X.xe s
def zY(X:Cx)(ts:List Expr)(t:jG):Prop :=
 ∀(pins:List (we × Obj))(s:wl)(σ : St)(H:Hp)(vs:List V)(us:List wf)(Q:St->Hp->Prop),Inv X pins σ H s->aT vs us->t vs σ H Q ->
  wr (model X.prog X.w) X.A (assignInOrder ((assignEach ts X.env).map (·.2)) us) (λ_ s'=>∃σ' H',Inv X pins σ' H' s'/\Q σ' H') X.xe s
abbrev rL:=V->V->V->Hp->(Hp->Prop)->Prop
def Sk(X:Cx)(t:rL):Prop :=
 ∀(pins:List (we × Obj))(s:wl)(σ : St)(H:Hp)(o i v:V)(ov iv u:wf)(Q:Hp->Prop),Inv X pins σ H s->a_ o ov->a_ i iv->a_ v u->t o i v H Q ->
  wr (model X.prog X.w) X.A (setItem ov iv u) (λ_ s'=>∃H',Inv X pins σ H' s'/\Q H') X.xe s
abbrev pC:=V->V->Hp->VK->Prop
def LA(X:Cx)(op:Operator)(t:pC):Prop :=
 ∀(pins:List (we × Obj))(s:wl)(σ : St)(H:Hp)(x y:V)(v u:wf)(Q:VK),Inv X pins σ H s->a_ x v->a_ y u->t x y H Q ->
  wr (model X.prog X.w) X.A (inplaceOp op v u) (EP X pins σ Q) X.xe s
section
variable{X:Cx}{pos:Pos}
def gX(i:Nat):TG:=λv σ H Q=>Q (σ.set i (some v)) H
theorem bR{i:Nat}{x:Str}(hN:X.N.Nodup)(hi:X.N[i]? = some x)(hx:Loc X.env.scope x)(hf:X.fn x=true\/X.env.scope.names.lookup x=some .local:=by first | exact .inl rfl | exact .inr rfl | assumption):PG X (.Name x pos) (gX i):=by
 intro pins s σ H v u Q I r h;exact wpAny_assign_Name (oh I hN hi hx r (λs' I'=>⟨_,H,I',h⟩) hf)
def Oq:jG:=λvs σ H Q=>vs=[]/\Q σ H
def Mn(t:TG)(u:jG):jG:=λvs σ H Q=>∃v r,vs=v::r/\t v σ H λσ' H'=>u r σ' H' Q
theorem mv:zY X [] Oq:=by
 intro pins s σ H vs us Q I r h;obtain⟨e,h⟩:=h;subst e;cases r;exact assignInOrder_nil ⟨σ,H,I,h⟩
theorem gW{e:Expr}{es:List Expr}{t:TG}{u:jG}(h1:PG X e t)(h2:zY X es u)
  (hs:(assignEach (e::es) X.env).map (·.2)=assign e X.env::(assignEach es X.env).map (·.2):=by rfl):zY X (e::es) (Mn t u):=by
 intro pins s σ H vs us Q I r h;obtain⟨v,vr,e1,h⟩:=h;subst e1;cases r with
 | cons r rr =>
  rw[hs];refine assignInOrder_cons (aI (h1 pins s σ H _ _ _ I r h) λ_ s1 ⟨σ1,H1,I1,q1⟩=>?_);exact h2 pins s1 σ1 H1 _ _ Q I1 rr q1
def nj(K:wa)(n:Nat)(t:jG):TG:=λv σ H Q=>∃a xs,v=.ref a/\aV K H a xs/\xs.length=n/\t xs σ H Q
theorem ml{es:List Expr}{k:Nat}{t:jG}{n:Nat}(hc:X.calm=true)(h:zY X es t)
  (hn:(assignEach es X.env).length=n:=by rfl) (hst:(assignEach es X.env).findIdx? (·.1)=none:=by rfl):PG X (.Tuple es k pos) (nj X.K n t):=by
 intro pins s σ H v u Q I r hw;obtain⟨a,xs,e1,hq,hl,hw⟩:=hw;subst e1;cases r;obtain⟨its,rv,ht,hz⟩:=I.tuple hq;refine assign_Tuple_tuple (I.ok.hd hc) ht (by simp[hn,<- hl,rv.length]) hst λh' hx=>?_
 have I1:Inv X pins σ H {s with heap:=h'}:=I.kept (t':=s.toks) λb o e=>hx b o (wO (wA e)) e
 exact h pins _ σ H xs _ Q I1 (by simpa using rv) hw
def Me(to ti:TE)(t:rL):TG:=λv σ H Q=>to σ H λo H1=>ti σ H1 λi H2=>t o i v H2 λH3=>Q σ H3
theorem pT{o i:Expr}{to ti:TE}{t:rL}(ho:PE X o to)(hi:PE X i ti)(hs:Sk X t)
  (ha:∀v,assign (.Subscript o i pos) X.env v=(do
   let ov <- holding [v] (eval o X.env)
   let iv <- holding [v,ov] (eval i X.env)
   standAt pos
   holding [v,ov,iv] (setItem ov iv v)
   release [v,ov,iv] []):=by intro _;rfl):PG X (.Subscript o i pos) (Me to ti t):=by
 intro pins s σ H v u Q I r h;rw[ha];refine wg (WE (aI (ho pins s σ H _ I h) λov s1 ⟨x,H1,I1,r1,q1⟩=>?_));refine wg (WE (aI (hi pins s1 σ H1 _ I1 q1) λiv s2 ⟨y,H2,I2,r2,q2⟩=>?_));refine wg (wpAny_standAt (wg (WE (aI (hs pins s2 σ H2 x y v ov iv u _ I2 r1 r2 r q2) λ_ s3 ⟨H3,I3,q3⟩=>?_))));exact wpAny_release ⟨σ,H3,I3,q3⟩
def jV(te:TE)(g:TG):TS:=λD σ H=>te σ H λx H1=>g x σ H1 D.nx
theorem pX{tg e:Expr}{te:TE}{g:TG}(he:PE X e te)(hg:PG X tg g)(hs:swapsWithSole [tg] e pos.line X.env=pure false:=by rfl)(hw:swappedStores [tg] e X.env=pure none:=by rfl)
  (h1:(assignEach [tg] X.env).map (·.2)=[assign tg X.env]:=by rfl):PS X (.Assign [tg] e pos) (jV te g):=by
 intro pins s σ H D I h;refine wpAny_Assign_stores (aI (he pins s σ H _ I h) λv s1 ⟨x,H1,I1,r1,q1⟩=>?_) hs hw;rw[h1];exact aI (hg pins s1 σ H1 x v _ I1 r1 q1) λ_ s2 q=>q
theorem Zb{i:Nat}{x:Str}{e:Expr}{te:TE}{pos':Pos}(hN:X.N.Nodup)(hi:X.N[i]? = some x)(hx:Loc X.env.scope x)(he:PE X e te)(hs:swapsWith e (some (.Name x pos')) pos.line X.env=pure false:=by rfl)(hf:X.fn x=true\/X.env.scope.names.lookup x=some .local:=by first | exact .inl rfl | exact .inr rfl | assumption) :
  PS X (.Assign [.Name x pos'] e pos) (jV te (gX i)):=by
 intro pins s σ H D I h;refine wpAny_Assign_Name (aI (he pins s σ H _ I h) λv s1 ⟨y,H1,I1,r1,q1⟩=>?_) hs;exact oh I1 hN hi hx r1 (λs2 I2=>⟨_,H1,I2,q1⟩) hf
def Po(i j:Nat)(ta:TA):TS:=λD σ H=>ta σ H λvs H1=>∃v w,vs=[v,w]/\D.nx ((σ.set i (some v)).set j (some w)) H1
theorem zCb{i j:Nat}{x y:Str}{a b:Expr}{ta:TA}{px py pt:Pos}{kt k2 pt2}(hc:X.calm=true)(hN:X.N.Nodup)(hi:X.N[i]? = some x)(hj:X.N[j]? = some y)(hij:i≠j)
  (hx:X.env.scope.names.lookup x=some .local) (hy:X.env.scope.names.lookup y=some .local) (ha:PA X [a,b] ta)
  (hw:swappedStores [.Tuple [.Name x px,.Name y py] kt pt] (.Tuple [a,b] k2 pt2) X.env=pure (some [x,y]))
  (hs:swapsWithSole [.Tuple [.Name x px,.Name y py] kt pt] (.Tuple [a,b] k2 pt2) pos.line X.env=pure false:=by rfl) :
  PS X (.Assign [.Tuple [.Name x px,.Name y py] kt pt] (.Tuple [a,b] k2 pt2) pos) (Po i j ta):=by
 intro pins s σ H D I h;rw[exec_Assign_arm];refine wg (wpAny_standAt ?_);rw[hs];refine wg (wx ?_);rw[if_neg (by decide)];refine wg (Tuple_ (aI (ha _ pins s σ H _ I h) λus s1 ⟨vs,H1,I1,r1,q1⟩=>?_));obtain⟨v,w,e1,q1⟩:=q1;subst e1
 obtain⟨u1,u2,rfl,rv,rw'⟩:∃u1 u2,us=[u1,u2]/\a_ v u1/\a_ w u2:=by
  cases r1 with
  | cons p q =>
   cases q with
   | cons p' q' =>
    cases q';exact⟨_,_,rfl,p,p'⟩
 refine Wp ?_ (by show 2<=w5;decide);have I2:Inv X pins σ H1 {s1 with heap:=s1.heap.push {cls:=.type "tuple",data:=.seq [u1,u2].toArray}}:=I1.kept (t':=s1.toks) λb o e=>wn _ e
 rw[hw];refine wg (wx ?_)
 show wr (model X.prog X.w) X.A (do rule "assign.swapped-stores";let items <- unpackItems (.ref s1.heap.objs.size) 2 none;assignInOrder [λv=>bindName X.env y v,λv=>bindName X.env x v] items.reverse;pure Flow.next) _ _ _
 refine wg (wpAny_rule (wg (unpackItems_tuple (items:=#[u1,u2]) (I.ok.hd hc) (qJ s1.heap _) λh' hx'=>?_)));have I3:=I2.kept (h':=h') (t':=s1.toks) λb o e=>hx' b o (wO (wA e)) e
 show wr _ _ (assignInOrder [λv=>bindName X.env y v,λv=>bindName X.env x v] [u2,u1] >>= λ_=>pure Flow.next) _ _ _
 refine wg (assignInOrder_cons (wpAny_bindName (oh I3 hN hj (.inl hy) rw' (λs2 I4=>?_) (.inr hy))));refine assignInOrder_cons (wpAny_bindName (oh I4 hN hi (.inl hx) rv (λs3 I5=>assignInOrder_nil (wx ?_)) (.inr hx)));rw[List.set_comm _ _ (Wo hij)]at I5;exact⟨_,H1,I5,q1⟩
def MF(i:Nat)(te:TE)(ti:pC):TS:=λD σ H=>∃x,σ[i]? = some (some x)/\te σ H λy H1=>ti x y H1 λz H2=>D.nx (σ.set i (some z)) H2
theorem zBE{i:Nat}{x:Str}{e:Expr}{te:TE}{op:Operator}{ti:pC}{pos':Pos}(hN:X.N.Nodup)(hi:X.N[i]? = some x)(hx:Loc X.env.scope x)(he:PE X e te)(ho:LA X op ti)(hf:X.fn x=true\/X.env.scope.names.lookup x=some .local:=by first | exact .inl rfl | exact .inr rfl | assumption) :
  PS X (.AugAssign (.Name x pos') op e pos) (MF i te ti):=by
 intro pins s σ H D I h;obtain⟨v,e1,h⟩:=h;obtain⟨m,hn,hl⟩:=I.loc;have BH:zH X.env.scope x:=by rcases hx with k | k;exact .inl k;exact .inr (.inl k)
 obtain⟨u,r,l⟩:=hl i x v hi e1 BH;refine wpAny_AugAssign_Name ?_
 have go:wr (model X.prog X.w) X.A (eval e X.env) (λw s₂=>wr (model X.prog X.w) X.A (inplaceOp op u w) (λr s₃=>wr (model X.prog X.w) X.A (storeName X.env x r) (λ_=>SP X pins D .next) X.xe s₃) X.xe s₂) X.xe s:=by
  refine aI (he pins s σ H _ I h) λw s1 ⟨y,H1,I1,r1,q1⟩=>?_
  refine aI (ho pins s1 σ H1 v y u w _ I1 r r1 q1) λz s2 ⟨zv,H2,I2,r2,q2⟩=>?_
  exact oh I2 hN hi hx r2 (λs3 I3=>⟨_,H2,I3,q2⟩) hf
 rcases l with⟨hk,hm⟩ | ⟨hk,c,hc,hcell⟩
 ·exact wpAny_loadName_local I.ok.kind hk hn hm go
 ·rcases hk with hk | hk
  ·exact wpAny_loadName_cell I.ok.kind hk hc hcell go
  ·rcases hx with k | k
   ·have:X.env.scope.names.lookup x=some .free:=hk
    rw[k]at this;cases this
   ·have:X.env.scope.names.lookup x=some .free:=hk
    rw[k]at this;cases this
def MN(f:Int->Int->Int):pC:=λx y H Q=>∃i j,x=.int i/\y=.int j/\Q (.int (f i j)) H
theorem Ut:LA X .Add (MN λi j=>i+j):=by
 intro pins s σ H x y v u Q I r1 r2 h;obtain⟨i,j,e1,e2,q⟩:=h;subst e1;subst e2;obtain⟨t,rfl⟩:=r1;obtain⟨t',rfl⟩:=r2;exact iadd_int ⟨.int _,H,I.tok _,⟨_,rfl⟩,q⟩
end
section
variable{X:Cx}{pos:Pos}
def DQ(c:TT)(tb:TS):TS:=λD σ H=>∃W:Nat->St->Hp->Prop,(∃m,W m σ H) /\ ∀m σ H,W m σ H ->
 c σ H λb H1=>if b=true then ∃N:St->Hp->Prop,(∀σ' H',N σ' H'->∃m',m'<m/\W m' σ' H')/\tb {D with nx:=N,ct:=N,bk:=D.nx} σ H1 else D.nx σ H1
theorem nF{c:Expr}{body:List wZ}{tc:TT}{tb:TS}(hp:PassesOwn (model X.prog X.w) X.A X.env X.xe)(hc:PT X c tc)(hb:fM X body tb):PS X (.While c body [] pos) (DQ tc tb):=by
 intro pins s σ H D I h;obtain⟨W,⟨m0,w0⟩,turn⟩:=h;refine wpAny_While (codeAny_whileLoop (λn s'=>∃σ' H',Inv X pins σ' H' s'/\W n σ' H') ?_ m0 ⟨σ,H,I,w0⟩);rintro n s1 ⟨σ1,H1,I1,w1⟩;refine Vf hp (aI (hc pins s1 σ1 H1 _ I1 (turn n σ1 H1 w1)) λb s2 ⟨H2,I2,q2⟩=>?_);cases b with
 | true =>
  obtain⟨N,hN,q2⟩:=q2;rw[if_pos rfl];refine Vf hp (aI (hb pins s2 σ1 H2 _ I2 q2) λf s3 q3=>?_);cases f with
  | next =>
   obtain⟨σ3,H3,I3,n3⟩:=q3;obtain⟨m',hm,w3⟩:=hN σ3 H3 n3;exact⟨m',hm,σ3,H3,I3,w3⟩
  | cont =>
   obtain⟨σ3,H3,I3,n3⟩:=q3;obtain⟨m',hm,w3⟩:=hN σ3 H3 n3;exact⟨m',hm,σ3,H3,I3,w3⟩
  | brk=>exact q3
  | ret v=>exact q3
 | false =>
  rw[if_neg vn];exact qd ⟨σ1,H2,I2,q2⟩
end
structure It where
 go:Nat->Hp->Prop
 fB:Nat->Hp->V->Hp->Prop
 stop:Nat->Hp->Prop
def eO(X:Cx)(pins:List (we × Obj))(H:Hp)(b:we):Prop :=
 H b=none/\b≠X.env.locals/\b ∉ X.fs/\(b∈X.ex\/X.s₀.heap.objs.size<=b)/\(∀x c,X.env.cells.lookup x=some c->c≠b) /\ ∀p∈X.pn++pins,p.1≠b
theorem Inv.ju{X:Cx}{pins:List (we × Obj)}{σ : St}{H H':Hp}{s:wl}{b:we}(I:Inv X pins σ H s)(hb:s.heap.objs.size<=b)(hn:H' b=none):eO X pins H' b:=by
 refine⟨hn,vf (wU I.lt hb),I.Uh hb,.inr (Wb I.sz hb),λx c e z=>?_,λp hp z=>?_⟩
 ·obtain⟨v,q⟩:=I.cell x c e
  exact absurd (wU q.lt (by rw[z];exact hb)) (WS _)
 ·exact absurd (wU (wA (I.pin p hp).1) (by rw[z];exact hb)) (WS _)
structure jr(P:wL)(w:wN)(K:wa)(tg:Expr)(J:It)(fp:List we)(it:we)(tn:Nat->wI->Prop):Prop where
 mem:it∈fp
 obj:∀i h,tn i h->∀b∈fp,∃o,h.get? b=some o /\ ∀v,o.data≠.cell v
 keep:∀i h h',tn i h->(∀b∈fp,∀o,h.get? b=some o->h'.get? b=some o)->tn i h'
 item:∀(X:Cx),X.prog=P->X.w=w->X.K=K->X.calm=true->∀(i:Nat)(pins:List (we × Obj))(s:wl)(σ : St)(H:Hp)(E:wf->wl->Prop),Inv X pins σ H s->(∀b∈fp,eO X pins H b)->tn i s.heap->J.go i H ->
   wr (model P w) X.A (pyNext (.ref it)) (λr s1=>∃u,r=some u /\
     wr (model P w) X.A (qf tg (.ref it) u) (λ_ s2=>∃x H',Inv X pins σ H' s2/\a_ x u/\J.fB i H x H'/\tn (i+1) s2.heap /\ ∀b∈fp,H' b=none) E s1) E s
 done:∀(X:Cx),X.prog=P->X.w=w->X.K=K->X.calm=true->∀(i:Nat)(pins:List (we × Obj))(s:wl)(σ : St)(H:Hp)(E:wf->wl->Prop),Inv X pins σ H s->(∀b∈fp,eO X pins H b)->tn i s.heap->J.stop i H ->
   wr (model P w) X.A (pyNext (.ref it)) (λr s1=>r=none/\Inv X pins σ H s1) E s
 self:∀(A:ve)(i:Nat)(s:wl)(Q:wf->wl->Prop)(E:wf->wl->Prop),tn i s.heap->Q (.ref it) s->wr (model P w) A (pyIter (.ref it)) Q E s
abbrev TI:=St->Hp->(It->Hp->Prop)->Prop
def Dd(X:Cx)(pins:List (we × Obj))(σ : St)(tg:Expr)(R:It->Hp->Prop)(itv:wf)(s2:wl):Prop :=
 ∃(it:we)(fp:List we)(tn:Nat->wI->Prop)(J:It)(H':Hp),itv=.ref it/\Inv X pins σ H' s2/\jr X.prog X.w X.K tg J fp it tn/\tn 0 s2.heap/\(∀b∈fp,eO X pins H' b)/\R J H'
def PI(X:Cx)(tg iter:Expr)(wi:TI):Prop :=
 ∀(pins:List (we × Obj))(s:wl)(σ : St)(H:Hp)(R:It->Hp->Prop),Inv X pins σ H s->wi σ H R ->
  wr (model X.prog X.w) X.A (eval iter X.env) (λv s1=>wr (model X.prog X.w) X.A (pyIter v) (Dd X pins σ tg R) X.xe s1) X.xe s
theorem AJ{M:Model}{A:ve}{E:wf->wl->Prop}{s:wl}{tg:Expr}{it:we}{u:wf}{o:Obj}{n:String}{vs:Array wf}{Q:Unit->wl->Prop}(ho:s.heap.get? it=some o)(hc:o.cls=.type n)(hd:o.data=.fields vs)
   (hn:["enumerate","zip","dict_itemiterator","dict_reverseitemiterator","odict_iterator","itertools.zip_longest","itertools.pairwise"].contains n=false) (hQ:Q () s):wr M A (qf tg (.ref it) u) Q E s:=by
 unfold qf
 cases tg<;>first
   | exact wx hQ
   | (cases u<;>first
       | exact wx hQ
       | (refine wg (wpAny_load ho ?_)
          rw[hc,hd]
          show wr M A (if(["enumerate","zip","dict_itemiterator","dict_reverseitemiterator","odict_iterator","itertools.zip_longest","itertools.pairwise"].contains n&&vs[0]? == some (Vp _))=true then _ else _) Q E s
          rw[if_neg (by intro h;rw[hn,Wh]at h;cases h)];exact wx hQ))
def iV(K:wa)(a:we):It :=
 ⟨λi H=>∃xs x,aR K H a xs/\xs[i]? = some x,λi H x H'=>H'=H /\ ∀xs,aR K H a xs->xs[i]? = some x,λi H=>∃xs,aR K H a xs/\xs.length<=i⟩
def jo(K:wa)(a:we):It :=
 ⟨λi H=>∃xs x,aV K H a xs/\xs[i]? = some x,λi H x H'=>H'=H /\ ∀xs,aV K H a xs->xs[i]? = some x,λi H=>∃xs,aV K H a xs/\xs.length<=i⟩
def gu(lo:Int)(n:Nat):It:=⟨λi _=>i<n,λi H x H'=>H'=H/\x=.int (lo+i),λi _=>n<=i⟩
theorem Rv{P:wL}{w:wN}{K:wa}{tg:Expr}(a it:we):jr P w K tg (iV K a) [it] it (λi h=>h.IsListIter it a i) where
 mem:=by simp
 obj:=λi h st b hb=>by
  have e:b=it:=by simpa using hb
  subst e;obtain⟨o,e,c,d⟩:=st;exact⟨o,e,λv z=>by rw[d]at z;cases z⟩
 keep:=λi h h' st k=>st.at λo e=>k it (by simp) o e
 item:=by
  intro X hP hw hK hc i pins s σ H E I hf st hg;subst hP hw hK;obtain⟨xs,x,hq,hx⟩:=hg;obtain⟨its,rv,p,hz⟩:=I.list hq;obtain⟨u,hu,ru⟩:=rv.get hx;obtain⟨f0,f1,f2,f3,f4,f5⟩:=hf it (by simp);refine wpAny_pyNext_list_item st p.isList (x:=u) (by simpa using hu) λh' st' sb=>?_
  have I1:Inv X pins σ H {s with heap:=h'}:=I.turned (t':=s.toks) (λb o hb e=>(sb.2 b hb).trans e) f0 f1 f3 f4 f5;obtain⟨o,e,c,d⟩:=id st';exact⟨u,rfl,AJ (s:={s with heap:=h'}) e c d (by decide) ⟨x,H,I1,ru,⟨rfl,λys hy=>by rw[I.Am hy hq];exact hx⟩,st',λb hb=>(hf b hb).1⟩⟩
 done:=by
  intro X hP hw hK hc i pins s σ H E I hf st hg;subst hP hw hK;obtain⟨xs,hq,hx⟩:=hg;obtain⟨its,rv,p,hz⟩:=I.list hq;obtain⟨f0,f1,f2,f3,f4,f5⟩:=hf it (by simp);have hl:=rv.length;exact wpAny_pyNext_list_end (I.ok.hd hc) st p.isList (by simp;lia) λh' eb=>⟨rfl,I.turned (t':=s.toks) (λb o hb e=>eb b o hb e) f0 f1 f3 f4 f5⟩
 self:=λ_ _ _ _ _ st h=>wpAny_pyIter_listiter st h
theorem JV{P:wL}{w:wN}{K:wa}{tg:Expr}(a it:we):jr P w K tg (jo K a) [it] it (λi h=>h.IsTupleIter it a i) where
 mem:=by simp
 obj:=λi h st b hb=>by
  have e:b=it:=by simpa using hb
  subst e;obtain⟨o,e,c,d⟩:=st;exact⟨o,e,λv z=>by rw[d]at z;cases z⟩
 keep:=λi h h' st k=>st.at λo e=>k it (by simp) o e
 item:=by
  intro X hP hw hK hc i pins s σ H E I hf st hg;subst hP hw hK;obtain⟨xs,x,hq,hx⟩:=hg;obtain⟨its,rv,p,hz⟩:=I.tuple hq;obtain⟨u,hu,ru⟩:=rv.get hx;obtain⟨f0,f1,f2,f3,f4,f5⟩:=hf it (by simp);refine wpAny_pyNext_tuple_item st (show s.heap.IsTuple a its.toArray from p) (x:=u) (by simpa using hu) λh' st' sb=>?_
  have I1:Inv X pins σ H {s with heap:=h'}:=I.turned (t':=s.toks) (λb o hb e=>(sb.2 b hb).trans e) f0 f1 f3 f4 f5;obtain⟨o,e,c,d⟩:=id st';exact⟨u,rfl,AJ (s:={s with heap:=h'}) e c d (by decide) ⟨x,H,I1,ru,⟨rfl,λys hy=>by rw[I.Ai hy hq];exact hx⟩,st',λb hb=>(hf b hb).1⟩⟩
 done:=by
  intro X hP hw hK hc i pins s σ H E I hf st hg;subst hP hw hK;obtain⟨xs,hq,hx⟩:=hg;obtain⟨its,rv,p,hz⟩:=I.tuple hq;obtain⟨f0,f1,f2,f3,f4,f5⟩:=hf it (by simp);have hl:=rv.length;exact wpAny_pyNext_tuple_end (I.ok.hd hc) st (show s.heap.IsTuple a its.toArray from p) (by simp;lia) λh' eb=>⟨rfl,I.turned (t':=s.toks) (λb o hb e=>eb b o hb e) f0 f1 f3 f4 f5⟩
 self:=λ_ _ _ _ _ st h=>wpAny_pyIter_tupleiter st h
theorem ztS{P:wL}{w:wN}{K:wa}{tg:Expr}(it:we)(lo:Int)(n:Nat):jr P w K tg (gu lo n) [it] it (λi h=>IsRangeIter h it (lo+(i:Nat)*1) ((n:Int)-(i:Nat)) 1) where
 mem:=by simp
 obj:=λi h st b hb=>by
  have e:b=it:=by simpa using hb
  subst e
  exact⟨_,st,λv z=>by
   have z':Data.fields _=Data.cell v:=z;cases z'⟩
 keep:=λi h h' st k=>k it (by simp) _ st
 item:=by
  intro X hP hw hK hc i pins s σ H E I hf st hg;subst hP hw hK;obtain⟨f0,f1,f2,f3,f4,f5⟩:=hf it (by simp);have W:=Walks.range (prog:=X.prog) (w:=X.w) (I.ok.hd hc) it lo 1 n;refine W.item i s _ _ hg st λv h' tk hv st' kk=>?_
  obtain⟨t,rfl⟩:=hv;have I1:Inv X pins σ H {s with heap:=h',toks:=tk}:=I.turned (λb o hb e=>kk b o (by simpa using hb) e) f0 f1 f3 f4 f5;refine⟨_,rfl,AJ (s:={s with heap:=h',toks:=tk}) (n:="range_iterator") st' rfl rfl (by decide) ⟨.int (lo+i),H,I1,⟨t,?_⟩,⟨rfl,rfl⟩,st',λb hb=>(hf b hb).1⟩⟩;rw[QQ]
 done:=by
  intro X hP hw hK hc i pins s σ H E I hf st hg;subst hP hw hK;obtain⟨f0,f1,f2,f3,f4,f5⟩:=hf it (by simp);exact wpAny_pyNext_range_end (I.ok.hd hc) st (by have:n<=i:=hg;lia) λh' eb=>⟨rfl,I.turned (t':=s.toks) (λb o hb e=>eb b o hb e) f0 f1 f3 f4 f5⟩
 self:=λ_ _ _ _ _ st h=>wpAny_pyIter_rangeiter st h
section
variable{X:Cx}{tg:Expr}
def EF(K:wa)(tl:TE):TI:=λσ H R=>tl σ H λx H1=>∃a,x=.ref a/\(∃xs,aR K H1 a xs)/\R (iV K a) H1
def Kh(K:wa)(tl:TE):TI:=λσ H R=>tl σ H λx H1=>∃a,x=.ref a/\(∃xs,aV K H1 a xs)/\R (jo K a) H1
theorem gr{l:Expr}{tl:TE}(hl:PE X l tl):PI X tg l (EF X.K tl):=by
 intro pins s σ H R I h;refine aI (hl pins s σ H _ I h) λv s1 ⟨x,H1,I1,r1,q1⟩=>?_
 obtain⟨a,e,⟨xs,hq⟩,q⟩:=q1;subst e;cases r1;obtain⟨its,rv,p,hz⟩:=I1.list hq;refine VT p.isList ?_;refine⟨s1.heap.objs.size,[s1.heap.objs.size],_,_,H1,rfl,I1.kept (t':=s1.toks) λb o e=>wn _ e,Rv a _,⟨_,wM _ rfl,rfl,rfl⟩,λb hb=>?_,q⟩;have e:b=s1.heap.objs.size:=by simpa using hb
 subst e;exact I1.ju (wo _) (I1.aJ.fresh (wo _))
theorem jd{l:Expr}{tl:TE}(hl:PE X l tl):PI X tg l (Kh X.K tl):=by
 intro pins s σ H R I h;refine aI (hl pins s σ H _ I h) λv s1 ⟨x,H1,I1,r1,q1⟩=>?_
 obtain⟨a,e,⟨xs,hq⟩,q⟩:=q1;subst e;cases r1;obtain⟨its,rv,p,hz⟩:=I1.tuple hq;refine Va (show s1.heap.IsTuple a its.toArray from p) ?_;refine⟨s1.heap.objs.size,[s1.heap.objs.size],_,_,H1,rfl,I1.kept (t':=s1.toks) λb o e=>wn _ e,JV a _,⟨_,wM _ rfl,rfl,rfl⟩,λb hb=>?_,q⟩;have e:b=s1.heap.objs.size:=by simpa using hb
 subst e;exact I1.ju (wo _) (I1.aJ.fresh (wo _))
theorem Lf{pins:List (we × Obj)}{σ : St}{H:Hp}{s:wl}{R:It->Hp->Prop}{E:wf->wl->Prop}{lo hi:Int}{t u v:Tok}{tk:Nat}(I:Inv X pins σ H s)(h1 : -(2^62)<=lo)(h2:lo<2^62)(h3 : -(2^62)<=hi)(h4:hi<2^62)
  (q:R (gu lo (hi-lo).toNat) H):wr (model X.prog X.w) X.A (pyIter (.ref s.heap.objs.size)) (Dd X pins σ tg R) E {s with heap:=s.heap.push {cls:=.type "range",data:=.fields #[.int lo t,.int hi u,.int 1 v]},toks:=tk}:=by
 refine wpAny_pyIter_range (ue ..) (small_one h1 h2 h3 h4) ?_;have I1:Inv X pins σ H {s with heap:=s.heap.push {cls:=.type "range",data:=.fields #[.int lo t,.int hi u,.int 1 v]},toks:=tk}:=I.kept λb o e=>wn _ e
 refine⟨(s.heap.push {cls:=.type "range",data:=.fields #[.int lo t,.int hi u,.int 1 v]}).objs.size,[(s.heap.push {cls:=.type "range",data:=.fields #[.int lo t,.int hi u,.int 1 v]}).objs.size],_,_,H,rfl,
  I1.kept (t':=tk) λb o e=>wn _ e,ztS _ lo (hi-lo).toNat,?_,λb hb=>?_,q⟩
 ·have e1:lo+((0:Nat):Int)*1=lo:=by simp
  have e2:(((hi-lo).toNat:Nat):Int)-((0:Nat):Int)=ud lo hi 1:=by rw[rangeSize_one];split<;>lia
  show IsRangeIter _ _ (lo+((0:Nat):Int)*1) ((((hi-lo).toNat:Nat):Int)-((0:Nat):Int)) 1
  rw[e1,e2];exact wM _ rfl
 ·have e:b=(s.heap.push {cls:=.type "range",data:=.fields #[.int lo t,.int hi u,.int 1 v]}).objs.size:=by simpa using hb
  subst e;exact I1.ju (wo _) (I1.aJ.fresh (wo _))
def Dc(ta:TA):TI:=λσ H R=>ta σ H λvs H1=>∃j:Int,vs=[.int j] /\ -(2^62)<=j/\j<2^62/\R (gu 0 j.toNat) H1
def O1(ta:TA):TI:=λσ H R=>ta σ H λvs H1=>∃i j:Int,vs=[.int i,.int j]/\(-(2^62)<=i/\i<2^62 /\ -(2^62)<=j/\j<2^62)/\R (gu i (j-i).toNat) H1
theorem j5{a:Expr}{ta:TA}{p pos:Pos}(hg:Gl X "range")(hm:X.mg "range"=none)(ha:PA X [a] ta)(hs:wT [a] X.env=[(false,eval a X.env)]:=by rfl):PI X tg (.Call (.Name "range" p) [a] [] pos) (Dc ta):=by
 intro pins s σ H R I h;refine Call_ (gI I hg hm boot_range (vi (aI (ha pos pins s σ H _ I h) λus s1 ⟨vs,H1,I1,r1,q1⟩=>?_) hs rfl));obtain⟨j,e,q1,q2,q⟩:=q1;subst e;cases r1 with
 | cons r rr =>
  cases rr;obtain⟨t,rfl⟩:=r;exact call_range_1 (Lf I1 (by lia) (by lia) q1 q2 (by simpa using q))
theorem Zc{a b:Expr}{ta:TA}{p pos:Pos}(hg:Gl X "range")(hm:X.mg "range"=none)(ha:PA X [a,b] ta)(hs:wT [a,b] X.env=[(false,eval a X.env),(false,eval b X.env)]:=by rfl)(hs2:wT [b] X.env=[(false,eval b X.env)]:=by rfl) :
  PI X tg (.Call (.Name "range" p) [a,b] [] pos) (O1 ta):=by
 intro pins s σ H R I h;refine Call_ (gI I hg hm boot_range (vi (aI (ha pos pins s σ H _ I h) λus s1 ⟨vs,H1,I1,r1,q1⟩=>?_) (by rw[hs,hs2]) (by rw[hs2];rfl)));obtain⟨i,j,e,⟨q1,q2,q3,q4⟩,q⟩:=q1;subst e;cases r1 with
 | cons r rr =>
  cases rr with
  | cons r' rr =>
   cases rr;obtain⟨t,rfl⟩:=r;obtain⟨t',rfl⟩:=r';exact call_range_2 (Lf I1 q1 q2 q3 q4 q)
def lu(wi:TI)(g:TG)(tb:TS):TS:=λD σ H=>wi σ H λJ H1=>∃W:Nat->Nat->St->Hp->Prop,(∃m,W 0 m σ H1) /\ ∀i m σ H,W i m σ H ->
 (J.stop i H/\D.nx σ H)\/(J.go i H /\ ∃N:St->Hp->Prop,(∀σ' H',N σ' H'->∃m',m'<m/\W (i+1) m' σ' H') /\ ∀x H',J.fB i H x H'->g x σ H' λσ2 H2=>tb {D with nx:=N,ct:=N,bk:=D.nx} σ2 H2)
def oW(fp:List we)(h:wI):List (we × Obj):=fp.filterMap λb=>(h.get? b).map λo=>(b,o)
theorem zD{fp:List we}{h:wI}{b:we}{o:Obj}(hb:b∈fp)(e:h.get? b=some o):(b,o)∈oW fp h:=qY.mpr ⟨b,hb,by rw[e];rfl⟩
theorem zvV{fp:List we}{h:wI}{p:we × Obj}(hp:p∈oW fp h):p.1∈fp/\h.get? p.1=some p.2:=by
 obtain⟨b,hb,e⟩:=qY.mp hp;cases q:h.get? b with
 | none=>rw[q]at e;cases e
 | some o =>
  rw[q]at e;have e':(b,o)=p:=wX e;subst e';exact⟨hb,q⟩
theorem Inv.pinned{pins:List (we × Obj)}{σ : St}{H:Hp}{s:wl}{fp:List we}(I:Inv X pins σ H s)(hf:∀b∈fp,eO X pins H b)(ho:∀b∈fp,∃o,s.heap.get? b=some o /\ ∀v,o.data≠.cell v):Inv X (pins++oW fp s.heap) σ H s :=
 I.IS λp hp=>(vM.mp hp).elim (λz=>I.pin p (vR _ z)) λz=>by
  obtain⟨hb,e⟩:=zvV z;obtain⟨f0,f1,f2,_⟩:=hf p.1 hb;obtain⟨o,e',d⟩:=ho p.1 hb;rw[e]at e';cases e';exact⟨e,f0,f1,f2,d⟩
theorem Inv.rh{pins pl:List (we × Obj)}{σ : St}{H:Hp}{s:wl}(I:Inv X (pins++pl) σ H s):Inv X pins σ H s:=I.IS λp hp=>I.pin p (vR _ (Vr _ hp))
theorem gz{iter:Expr}{body:List wZ}{wi:TI}{g:TG}{tb:TS}{pos:Pos}(hp:PassesOwn (model X.prog X.w) X.A X.env X.xe)(hc:X.calm=true)(hi:PI X tg iter wi)(hg:PG X tg g)(hb:fM X body tb)
  (hs:∀x,foldedSetIterable iter X.env x=pure x:=by intro _;rfl):PS X (.For tg iter body [] pos) (lu wi g tb):=by
 intro pins s σ H D I h;refine wpAny_For (aI (hi pins s σ H _ I h) λv s1 h1=>aI h1 λitv s2 h2=>?_) hs;obtain⟨it,fp,tn,J,H2,e,I2,T,st2,f2,W,⟨m0,w0⟩,turn⟩:=h2;subst e
 -- what stays true of the iterator's objects through the loop
 have stat:∀{H':Hp},(∀b∈fp,H' b=none)->∀b∈fp,eO X pins H' b:=λhn b hb=>⟨hn b hb,(f2 b hb).2⟩
 refine codeAny_forLoop_any (λn s'=>∃i σ' H',Inv X pins σ' H' s'/\tn i s'.heap/\(∀b∈fp,H' b=none)/\W i n σ' H') ?_ m0 ⟨0,σ,H2,I2,st2,λb hb=>(f2 b hb).1,w0⟩;rintro n s3 ⟨i,σ3,H3,I3,st3,fr3,w3⟩;rcases turn i n σ3 H3 w3 with⟨stop,qn⟩ | ⟨go,N,hN,step⟩
 ·refine Vf hp (aI (T.done X rfl rfl rfl hc i pins s3 σ3 H3 X.xe I3 (stat fr3) st3 stop) λr s4 ⟨hr,I4⟩=>?_)
  subst hr;exact qd ⟨σ3,H3,I4,qn⟩
 ·refine Vf hp (aI (T.item X rfl rfl rfl hc i pins s3 σ3 H3 X.xe I3 (stat fr3) st3 go) λr s4 ⟨u,hr,h4⟩=>?_)
  subst hr;refine Vf hp (aI h4 λ_ s5 ⟨x,H5,I5,r5,y5,st5,fr5⟩=>?_);have I5':=I5.pinned (stat fr5) (T.obj _ _ st5);refine Vf hp (aI (hg _ s5 σ3 H5 x u _ I5' r5 (step x H5 y5)) λ_ s6 ⟨σ6,H6,I6,q6⟩=>?_);refine Vf hp (aI (hb _ s6 σ6 H6 _ I6 q6) λf s7 q7=>?_)
  have again:∀{σ7:St}{H7:Hp},Inv X (pins++oW fp s5.heap) σ7 H7 s7->N σ7 H7->∃m,m<n /\ ∃i σ' H',Inv X pins σ' H' s7/\tn i s7.heap/\(∀b∈fp,H' b=none)/\W i m σ' H':=λ{σ7 H7} I7 n7=>by
   obtain⟨m',hm,w7⟩:=hN σ7 H7 n7;refine⟨m',hm,i+1,σ7,H7,I7.rh,T.keep _ _ _ st5 λb hb o e=>(I7.pin (b,o) (vR _ (vR _ (zD hb e)))).1,λb hb=>?_,w7⟩;obtain⟨o,e,d⟩:=T.obj _ _ st5 b hb;exact(I7.pin (b,o) (vR _ (vR _ (zD hb e)))).2.1
  cases f with
  | next=>obtain⟨σ7,H7,I7,n7⟩:=q7;exact again I7 n7
  | cont=>obtain⟨σ7,H7,I7,n7⟩:=q7;exact again I7 n7
  | brk=>obtain⟨σ7,H7,I7,q7⟩:=q7;exact⟨σ7,H7,I7.rh,q7⟩
  | ret v=>obtain⟨x7,σ7,H7,I7,r7,q7⟩:=q7;exact⟨x7,σ7,H7,I7.rh,r7,q7⟩
end
theorem U3{K:wa}{a:we}{xs:List V}{g:TG}{tb:TS}{D:ck}{σ : St}{H:Hp}(Pv:Nat->St->Hp->Prop)(h0:Pv 0 σ H)(hl:∀i σ H,i<=xs.length->Pv i σ H->aR K H a xs)
  (hs:∀i x σ H,xs[i]? = some x->Pv i σ H->g x σ H λσ2 H2=>tb {D with nx:=Pv (i+1),ct:=Pv (i+1),bk:=D.nx} σ2 H2) (hd:∀σ H,Pv xs.length σ H->D.nx σ H) :
  ∃W:Nat->Nat->St->Hp->Prop,(∃m,W 0 m σ H) /\ ∀i m σ H,W i m σ H ->
   ((iV K a).stop i H/\D.nx σ H)\/((iV K a).go i H /\ ∃N:St->Hp->Prop,(∀σ' H',N σ' H'->∃m',m'<m/\W (i+1) m' σ' H') /\ ∀x H',(iV K a).fB i H x H'->g x σ H' λσ2 H2=>tb {D with nx:=N,ct:=N,bk:=D.nx} σ2 H2):=by
 refine⟨λi m σ H=>m=xs.length-i/\i<=xs.length/\Pv i σ H,⟨xs.length,by simp,V7 _,h0⟩,?_⟩;rintro i m σ H ⟨rfl,hi,p⟩;have q:=hl i σ H hi p
 by_cases hlt:i<xs.length
 ·refine .inr ⟨⟨xs,xs[i],q,by simp[hlt]⟩,Pv (i+1),λσ' H' p'=>⟨xs.length-(i+1),by lia,rfl,hlt,p'⟩,λx H' y=>?_⟩
  obtain⟨e,y⟩:=y;subst e;exact hs i x σ _ (y xs q) p
 ·have e:i=xs.length:=by lia
  subst e;exact .inl ⟨⟨xs,q,wo _⟩,hd σ H p⟩
theorem zzK{K:wa}{a:we}{xs:List V}{g:TG}{tb:TS}{D:ck}{σ : St}{H:Hp}(Pv:Nat->St->Hp->Prop)(h0:Pv 0 σ H)(hl:∀i σ H,i<=xs.length->Pv i σ H->aV K H a xs)
  (hs:∀i x σ H,xs[i]? = some x->Pv i σ H->g x σ H λσ2 H2=>tb {D with nx:=Pv (i+1),ct:=Pv (i+1),bk:=D.nx} σ2 H2) (hd:∀σ H,Pv xs.length σ H->D.nx σ H) :
  ∃W:Nat->Nat->St->Hp->Prop,(∃m,W 0 m σ H) /\ ∀i m σ H,W i m σ H ->
   ((jo K a).stop i H/\D.nx σ H)\/((jo K a).go i H /\ ∃N:St->Hp->Prop,(∀σ' H',N σ' H'->∃m',m'<m/\W (i+1) m' σ' H') /\ ∀x H',(jo K a).fB i H x H'->g x σ H' λσ2 H2=>tb {D with nx:=N,ct:=N,bk:=D.nx} σ2 H2):=by
 refine⟨λi m σ H=>m=xs.length-i/\i<=xs.length/\Pv i σ H,⟨xs.length,by simp,V7 _,h0⟩,?_⟩;rintro i m σ H ⟨rfl,hi,p⟩;have q:=hl i σ H hi p
 by_cases hlt:i<xs.length
 ·refine .inr ⟨⟨xs,xs[i],q,by simp[hlt]⟩,Pv (i+1),λσ' H' p'=>⟨xs.length-(i+1),by lia,rfl,hlt,p'⟩,λx H' y=>?_⟩
  obtain⟨e,y⟩:=y;subst e;exact hs i x σ _ (y xs q) p
 ·have e:i=xs.length:=by lia
  subst e;exact .inl ⟨⟨xs,q,wo _⟩,hd σ H p⟩
theorem Ou{lo:Int}{n:Nat}{g:TG}{tb:TS}{D:ck}{σ : St}{H:Hp}(Pv:Nat->St->Hp->Prop)(h0:Pv 0 σ H)
  (hs:∀i σ H,i<n->Pv i σ H->g (.int (lo+i)) σ H λσ2 H2=>tb {D with nx:=Pv (i+1),ct:=Pv (i+1),bk:=D.nx} σ2 H2) (hd:∀σ H,Pv n σ H->D.nx σ H) :
  ∃W:Nat->Nat->St->Hp->Prop,(∃m,W 0 m σ H) /\ ∀i m σ H,W i m σ H ->
   ((gu lo n).stop i H/\D.nx σ H)\/((gu lo n).go i H /\ ∃N:St->Hp->Prop,(∀σ' H',N σ' H'->∃m',m'<m/\W (i+1) m' σ' H') /\ ∀x H',(gu lo n).fB i H x H'->g x σ H' λσ2 H2=>tb {D with nx:=N,ct:=N,bk:=D.nx} σ2 H2):=by
 refine⟨λi m σ H=>m=n-i/\i<=n/\Pv i σ H,⟨n,by simp,V7 _,h0⟩,?_⟩;rintro i m σ H ⟨rfl,hi,p⟩
 by_cases hlt:i<n
 ·refine .inr ⟨hlt,Pv (i+1),λσ' H' p'=>⟨n-(i+1),by lia,rfl,hlt,p'⟩,λx H' y=>?_⟩
  obtain⟨e,y⟩:=y;subst e y;exact hs i σ _ hlt p
 ·have e:i=n:=by lia
  subst e;exact .inl ⟨wo _,hd σ H p⟩
abbrev R2:=V->V->Hp->VK->Prop
def aK(X:Cx)(f:wf->wf->Sem wf)(r:R2):Prop :=
 ∀(pins:List (we × Obj))(s:wl)(σ : St)(H:Hp)(x y:V)(v u:wf)(Q:VK),Inv X pins σ H s->a_ x v->a_ y u->r x y H Q ->
  wr (model X.prog X.w) X.A (f v u) (EP X pins σ Q) X.xe s
def BI(X:Cx)(f:wf->Sem wf)(r:V->Hp->VK->Prop):Prop :=
 ∀(pins:List (we × Obj))(s:wl)(σ : St)(H:Hp)(x:V)(v:wf)(Q:VK),Inv X pins σ H s->a_ x v->r x H Q ->
  wr (model X.prog X.w) X.A (f v) (EP X pins σ Q) X.xe s
def aP(X:Cx)(f:wf)(r:List V->Hp->VK->Prop):Prop :=
 ∀(pins:List (we × Obj))(s:wl)(σ : St)(H:Hp)(xs:List V)(us:List wf)(Q:VK),Inv X pins σ H s->aT xs us->r xs H Q ->
  wr (model X.prog X.w) X.A (call f us) (EP X pins σ Q) X.xe s
def zDW(X:Cx)(r:V->Hp->(Bool->Hp->Prop)->Prop):Prop :=
 ∀(pins:List (we × Obj))(s:wl)(σ : St)(H:Hp)(x:V)(v:wf)(Q:Bool->Hp->Prop),Inv X pins σ H s->a_ x v->r x H Q ->
  wr (model X.prog X.w) X.A (truthy v) (TP X pins σ Q) X.xe s
def kU(r:R2)(ta tb:TE):TE:=λσ H Q=>ta σ H λx H1=>tb σ H1 λy H2=>r x y H2 Q
def J7(r:V->Hp->VK->Prop)(ta:TE):TE:=λσ H Q=>ta σ H λx H1=>r x H1 Q
def rI(C:Int->Int->Prop)(g:Int->Int->V):R2:=λx y H Q=>∃i j,x=.int i/\y=.int j/\C i j/\Q (g i j) H
def iG(g:Int->Int->V):R2:=λx y H Q=>∃i j,x=.int i/\y=.int j/\Q (g i j) H
def rU(g:Int->V):V->Hp->VK->Prop:=λx H Q=>∃i,x=.int i/\Q (g i) H
section
variable{X:Cx}{a b c:Expr}{ta tb tc:TE}{pos:Pos}
theorem Du(ha:PE X a ta)(hb:PE X b tb){pins:List (we × Obj)}{s:wl}{σ : St}{H:Hp}{R:V->V->Hp->Prop}(I:Inv X pins σ H s)
  (h:ta σ H λx H1=>tb σ H1 λy H2=>R x y H2) {Q:wf->wl->Prop} {f:wf->wf->Sem wf}
  (hf:∀v u s2 x y H2,Inv X pins σ H2 s2->a_ x v->a_ y u->R x y H2->wr (model X.prog X.w) X.A (f v u) Q X.xe s2) :
  wr (model X.prog X.w) X.A (eval a X.env) (λv s₁=>wr (model X.prog X.w) X.A (eval b X.env) (λu s₂=>wr (model X.prog X.w) X.A (f v u) Q X.xe s₂) X.xe s₁) X.xe s:=by
 refine aI (ha pins s σ H _ I h) λv s1 ⟨x,H1,I1,r1,q1⟩=>?_
 refine aI (hb pins s1 σ H1 _ I1 q1) λu s2 ⟨y,H2,I2,r2,q2⟩=>?_
 exact hf v u s2 x y H2 I2 r1 r2 q2
theorem aD{op:Operator}{r:R2}(ho:aK X (Wn op) r)(ha:PE X a ta)(hb:PE X b tb):PE X (.BinOp a op b pos) (kU r ta tb):=by
 intro pins s σ H Q I h;exact wpAny_BinOp (Du ha hb I h λv u s2 x y H2 I2 rx ry q=>ho pins s2 σ H2 x y v u Q I2 rx ry q)
theorem gA{op:UnaryOp}{r:V->Hp->VK->Prop}(ho:BI X (unaryOp op) r)(ha:PE X a ta):PE X (.UnaryOp op a pos) (J7 r ta):=by
 intro pins s σ H Q I h;exact UnaryOp_ (aI (ha pins s σ H _ I h) λv s1 ⟨x,H1,I1,r1,q1⟩=>ho pins s1 σ H1 x v Q I1 r1 q1)
theorem u5{f:wf->wf->Sem wf}{C:Int->Int->Prop}{g:Int->Int->Int}
  (rule:∀(i j:Int)(t u:Tok)(s:wl)(Q:wf->wl->Prop)(E:wf->wl->Prop),C i j->Q (.int (g i j) s.toks) {s with toks:=s.toks+1}->wr (model X.prog X.w) X.A (f (.int i t) (.int j u)) Q E s) :
  aK X f (rI C λi j=>.int (g i j)):=by
 intro pins s σ H x y v u Q I rx ry h;obtain⟨i,j,rfl,rfl,hc,q⟩:=h;obtain⟨t,rfl⟩:=rx;obtain⟨t',rfl⟩:=ry;exact rule i j t t' s _ _ hc ⟨.int (g i j),H,I.tok _,⟨_,rfl⟩,q⟩
theorem NB{f:wf->wf->Sem wf}{g:Int->Int->Int}
  (rule:∀(i j:Int)(t u:Tok)(s:wl)(Q:wf->wl->Prop)(E:wf->wl->Prop),Q (.int (g i j) s.toks) {s with toks:=s.toks+1}->wr (model X.prog X.w) X.A (f (.int i t) (.int j u)) Q E s) :
  aK X f (iG λi j=>.int (g i j)):=by
 intro pins s σ H x y v u Q I rx ry h;obtain⟨i,j,rfl,rfl,q⟩:=h;obtain⟨t,rfl⟩:=rx;obtain⟨t',rfl⟩:=ry;exact rule i j t t' s _ _ ⟨.int (g i j),H,I.tok _,⟨_,rfl⟩,q⟩
theorem zC{f:wf->wf->Sem wf}{g:Int->Int->Bool}
  (rule:∀(i j:Int)(t u:Tok)(s:wl)(Q:wf->wl->Prop)(E:wf->wl->Prop),Q (.bool (g i j)) s->wr (model X.prog X.w) X.A (f (.int i t) (.int j u)) Q E s) :
  aK X f (iG λi j=>.bl (g i j)):=by
 intro pins s σ H x y v u Q I rx ry h;obtain⟨i,j,rfl,rfl,q⟩:=h;obtain⟨t,rfl⟩:=rx;obtain⟨t',rfl⟩:=ry;exact rule i j t t' s _ _ ⟨.bl (g i j),H,I,rfl,q⟩
def J4(i j:Int):Prop:=0<=j/\j<=1000000/\i.natAbs<2^64
theorem zBW:aK X (Wn .Add) (iG λi j=>.int (i+j)):=NB λ_ _ _ _ _ _ _ q=>add_int q
theorem h_:aK X (Wn .Sub) (iG λi j=>.int (i-j)):=NB λ_ _ _ _ _ _ _ q=>sub_int q
theorem gB:aK X (Wn .Mod) (rI (λ_ j=>0<j) λi j=>.int (i % j)):=u5 λi j _ _ _ _ _ hc q=>by
 have h1:(0:Int)<j:=hc;exact mod_int' (by lia) (by rw[Int.fmod_eq_emod_of_nonneg i (by lia)];exact q)
theorem YN:aK X (Wn .Pow) (rI J4 λi j=>.int (i^j.toNat)):=u5 λ_ _ _ _ _ _ _ hc q=>pow_int_small hc.1 hc.2.1 hc.2.2 q
theorem U6{f:wf->Sem wf}{g:Int->Int}
  (rule:∀(i:Int)(t:Tok)(s:wl)(Q:wf->wl->Prop)(E:wf->wl->Prop),Q (.int (g i) s.toks) {s with toks:=s.toks+1}->wr (model X.prog X.w) X.A (f (.int i t)) Q E s) :
  BI X f (rU λi=>.int (g i)):=by
 intro pins s σ H x v Q I rx h;obtain⟨i,rfl,q⟩:=h;obtain⟨t,rfl⟩:=rx;exact rule i t s _ _ ⟨.int (g i),H,I.tok _,⟨_,rfl⟩,q⟩
theorem gg:BI X (unaryOp .USub) (rU λi=>.int (-i)):=U6 λ_ _ _ _ _ q=>neg_int q
end
section
variable{X:Cx}{a b c:Expr}{ta tb tc:TE}{pos:Pos}
theorem yD{pins:List (we × Obj)}{σ : St}{H:Hp}{s:wl}{Q:VK}{k k':Bool}(I:Inv X pins σ H s)(q:Q (.bl k) H)(e:k=k'):EP X pins σ Q (.bool k') s:=by
 subst e;exact⟨.bl k,H,I,rfl,q⟩
theorem jF:aK X (wJ .Lt) (iG λi j=>.bl (decide (i<j))):=zC λ_ _ _ _ _ _ _ q=>lt_int q
theorem lq:aK X (wJ .LtE) (iG λi j=>.bl (decide (i<=j))):=zC λ_ _ _ _ _ _ _ q=>le_int q
theorem lQ:aK X (wJ .Gt) (iG λi j=>.bl (decide (j<i))):=zC λ_ _ _ _ _ _ _ q=>gt_int q
theorem CI:aK X (wJ .GtE) (iG λi j=>.bl (decide (j<=i))):=zC λ_ _ _ _ _ _ _ q=>ge_int q
theorem Uv:aK X (wJ .Is) (λx y H Q=>y=.bj/\Q (.bl (decide (x=.bj))) H):=by
 intro pins s σ H x y v u Q I rx ry h;obtain⟨rfl,q⟩:=h;cases ry;refine is_none_gen (yD I q ?_)
 cases x<;>first
  | (cases rx;rfl)
  | (obtain⟨t,rfl⟩:=rx;rfl)
theorem zAg:aK X (wJ .IsNot) (λx y H Q=>y=.bj/\Q (.bl (!decide (x=.bj))) H):=by
 intro pins s σ H x y v u Q I rx ry h;obtain⟨rfl,q⟩:=h;cases ry;refine isnot_none_gen (yD I q ?_)
 cases x<;>first
  | (cases rx;rfl)
  | (obtain⟨t,rfl⟩:=rx;rfl)
theorem aK.or{f:wf->wf->Sem wf}{r r':R2}(h:aK X f r)(h':aK X f r'):aK X f (λx y H Q=>r x y H Q\/r' x y H Q):=by
 intro pins s σ H x y v u Q I rx ry q;rcases q with q | q
 ·exact h pins s σ H x y v u Q I rx ry q
 ·exact h' pins s σ H x y v u Q I rx ry q
theorem aZ(b:Expr){op:CmpOp}(h:op≠.In:=by decide)(h2:op≠.NotIn:=by decide):behindInMarks op b=false:=by
 have e1:(op == CmpOp.In)=false:=by cases op<;>first | rfl | exact absurd rfl h
 have e2:(op == CmpOp.NotIn)=false:=by cases op<;>first | rfl | exact absurd rfl h2
 cases b<;>simp[behindInMarks,e1,e2]
theorem d9{op:CmpOp}{r:R2}(ho:aK X (wJ op) r)(ha:PE X a ta)(hb:PE X b tb)(hm:behindInMarks op b=false):PE X (.Compare a [op] [b] pos) (kU r ta tb):=by
 intro pins s σ H Q I h;exact wpAny_Compare1 (Du ha hb I h λv u s2 x y H2 I2 rx ry q=>ho pins s2 σ H2 x y v u Q I2 rx ry q) hm
def C5(t:TE):TT:=λσ H Q=>t σ H λx H'=>∃k,x=.bl k/\Q k H'
theorem bW{op:CmpOp}{r:R2}(ho:aK X (wJ op) r)(ha:PE X a ta)(hb:PE X b tb)(hm:behindInMarks op b=false):PT X (.Compare a [op] [b] pos) (C5 (kU r ta tb)):=by
 intro pins s σ H Q I h
 refine wpAny_isTrue_Compare1 (aI (ha pins s σ H _ I h) λv s1 ⟨x,H1,I1,r1,q1⟩=>aI (hb pins s1 σ H1 _ I1 q1) λu s2 ⟨y,H2,I2,r2,q2⟩ =>
  aI (ho pins s2 σ H2 x y v u _ I2 r1 r2 q2) λc s3 ⟨z,H3,I3,r3,k,e,q3⟩=>?_) hm
 subst e;cases r3;exact vX ⟨H3,I3,q3⟩
def EN(r r':R2)(ta tb tc:TE):TE:=λσ H Q=>ta σ H λx H1=>tb σ H1 λy H2=>r x y H2 λz H3=>∃k,z=.bl k /\
 (if k=true then tc σ H3 λw' H4=>r' y w' H4 Q else Q (.bl false) H3)
theorem YI{op op':CmpOp}{r r':R2}(ho:aK X (wJ op) r)(ho':aK X (wJ op') r')(ha:PE X a ta)(hb:PE X b tb)(hc:PE X c tc)
  (hm:lastMarks [op,op'] [b,c]=false:=by with_unfolding_all rfl):PE X (.Compare a [op,op'] [b,c] pos) (EN r r' ta tb tc):=by
 intro pins s σ H Q I h
 refine Compare_chain (aI (ha pins s σ H _ I h) λv s1 ⟨x,H1,I1,r1,q1⟩=>chain_link (aI (hb pins s1 σ H1 _ I1 q1) λu s2 ⟨y,H2,I2,r2,q2⟩ =>
  aI (ho pins s2 σ H2 x y v u _ I2 r1 r2 q2) λd s3 ⟨z,H3,I3,r3,k,e,q3⟩=>?_)) hm
 subst e;cases r3;refine vX ?_;cases k with
 | false=>exact ite_ff ⟨.bl false,H3,I3,rfl,q3⟩
 | true=>exact ite_tt (chain_last (aI (hc pins s3 σ H3 _ I3 q3) λw' s4 ⟨z',H4,I4,r4,q4⟩=>ho' pins s4 σ H4 y z' u w' Q I4 r2 r4 q4))
theorem YO{op op':CmpOp}{r r':R2}(ho:aK X (wJ op) r)(ho':aK X (wJ op') r')(ha:PE X a ta)(hb:PE X b tb)(hc:PE X c tc)
  (hm:lastMarks [op,op'] [b,c]=false:=by with_unfolding_all rfl):PT X (.Compare a [op,op'] [b,c] pos) (C5 (EN r r' ta tb tc)):=by
 intro pins s σ H Q I h
 refine isTrue_chain (aI (ha pins s σ H _ I h) λv s1 ⟨x,H1,I1,r1,q1⟩=>test_link (aI (hb pins s1 σ H1 _ I1 q1) λu s2 ⟨y,H2,I2,r2,q2⟩ =>
  aI (ho pins s2 σ H2 x y v u _ I2 r1 r2 q2) λd s3 ⟨z,H3,I3,r3,k,e,q3⟩=>?_)) hm
 subst e;cases r3;refine vX ?_;cases k with
 | false =>
  obtain⟨k',e',q'⟩:=q3;cases e';exact ite_ff ⟨H3,I3,q'⟩
 | true =>
  refine ite_tt (test_last (aI (hc pins s3 σ H3 _ I3 q3) λw' s4 ⟨z',H4,I4,r4,q4⟩=>aI (ho' pins s4 σ H4 y z' u w' _ I4 r2 r4 q4) λd' s5 ⟨z2,H5,I5,r5,k2,e2,q5⟩=>?_));subst e2;cases r5;exact vX ⟨H5,I5,q5⟩
def C3(K:wa)(x:V)(H:Hp)(k:Bool):Prop :=
 match x with
 | .bj=>k=false
 | .bl b=>k=b
 | .int i=>k=(i != 0)
 | .str y=>y.length<=w5/\k=((y.length:Int) != 0)
 | .byt y=>y.size<=w5/\k=((y.size:Int) != 0)
 | .ref p=>(∃xs,aR K H p xs/\k = !xs.isEmpty)\/(∃xs,aV K H p xs/\k = !xs.isEmpty) \/ ∃kvs,H p=some (.dK kvs)/\k = !kvs.isEmpty
 | _=>False
theorem ztr{κ : Type}{kvs:List (κ × V)}{vs:List (κ × wf)}(r:KV kvs vs):(!vs.isEmpty) = !kvs.isEmpty:=by
 cases r<;>rfl
theorem KP{xs:List V}{its:List wf}(r:aT xs its):(!its.toArray.isEmpty) = !xs.isEmpty:=by
 cases r<;>simp
theorem ng:(w5:Nat)<2^63:=by rw[sizeLine_eq];decide
theorem zBu:zDW X (λx H Q=>∃k,C3 X.K x H k/\Q k H):=by
 intro pins s σ H x v Q I rx h;obtain⟨k,e,q⟩:=h;have hl:=ng;have hs:w5=16777216:=sizeLine_eq;cases x with
 | bj =>
  cases rx;have e':k=false:=e;subst e';exact truthy_none ⟨H,I,q⟩
 | bl b =>
  cases rx;have e':k=b:=e;subst e';exact vX ⟨H,I,q⟩
 | int i =>
  obtain⟨t,rfl⟩:=rx;have e':k=(i != 0):=e;subst e';exact PySem.P.truthy_int ⟨H,I,q⟩
 | str y =>
  obtain⟨t,rfl⟩:=rx;obtain⟨hy,e'⟩:y.length<=w5/\k=((y.length:Int) != 0):=e;subst e';exact PySem.P.truthy_str (by lia) ⟨H,I.tok _,q⟩
 | byt y =>
  obtain⟨t,rfl⟩:=rx;obtain⟨hy,e'⟩:y.size<=w5/\k=((y.size:Int) != 0):=e;subst e';exact PySem.W.truthy_bytes (by lia) ⟨H,I.tok _,q⟩
 | ref p =>
  cases rx;have e':(∃xs,aR X.K H p xs/\k = !xs.isEmpty)\/(∃xs,aV X.K H p xs/\k = !xs.isEmpty) \/ ∃kvs,H p=some (.dK kvs)/\k = !kvs.isEmpty:=e;rcases e' with⟨xs,hx,e'⟩ | ⟨xs,hx,e'⟩ | ⟨kvs,hx,e'⟩
  ·subst e'
   obtain⟨its,r,pl,hz⟩:=I.list hx;have hlen:=r.length;exact wpAny_truthy_list pl.isList (by simp only[wH];lia) ⟨H,I.tok _,by rw[KP r];exact q⟩
  ·subst e'
   obtain⟨its,r,pl,hz⟩:=I.tuple hx;have hlen:=r.length;exact truthy_tuple pl (by simp only[wH];lia) ⟨H,I.tok _,by rw[KP r];exact q⟩
  ·subst e'
   obtain⟨hz,hS,vs,r,m⟩:kvs.length<=w5/\(p == sysModules)=false /\ ∃vs,KV kvs vs/\s.heap.DictOf (AQ X.prog X.w) p vs:=I.aJ p _ hx;have hlen:kvs.length=vs.length:=X1 r;exact wpAny_truthy_dict hS m (by lia) ⟨H,I.tok _,by rw[ztr r];exact q⟩
 | _=>exact(show False from e).elim
theorem zxB(ha:PE X a ta)(he:∀whole,isTrue a X.env whole=(do let v <- whole;standAt a.pos;holding [v] (truthy v))) :
  PT X a (λσ H Q=>ta σ H λx H'=>∃k,C3 X.K x H' k/\Q k H'):=by
 intro pins s σ H Q I h;exact isTrue_plain (aI (ha pins s σ H _ I h) λv s1 ⟨x,H1,I1,r1,q1⟩=>zBu pins s1 σ H1 x v Q I1 r1 q1) (he _)
theorem zt7:aK X (Wn .Add) (λx y H Q=>∃i j,x=.str i/\y=.str j/\i.length+j.length<=w5/\Q (.str (i++j)) H):=by
 intro pins s σ H x y v u Q I rx ry h;obtain⟨i,j,rfl,rfl,hz,q⟩:=h;obtain⟨t,rfl⟩:=rx;obtain⟨t',rfl⟩:=ry;exact add_str (λt' tk=>⟨.str (i++j),H,I.tok _,⟨_,rfl⟩,q⟩) hz
theorem ib{x:V}{us:List wf}(r:aT [x] us):∃u,us=[u]/\a_ x u:=by
 cases r with
 | cons r1 r2=>cases r2;exact⟨_,rfl,r1⟩
theorem kQ{x y:V}{us:List wf}(r:aT [x,y] us):∃u w',us=[u,w']/\a_ x u/\a_ y w':=by
 cases r with
 | cons r1 r2 =>
  cases r2 with
  | cons r3 r4=>cases r4;exact⟨_,_,rfl,r1,r3⟩
theorem zxJ:aP X (.builtin "abs") (λxs H Q=>∃i,xs=[.int i]/\Q (.int (if i<0 then -i else i)) H):=by
 intro pins s σ H xs us Q I r h;obtain⟨i,rfl,q⟩:=h;obtain⟨u,rfl,t,rfl⟩:=ib r;exact call_abs_int λu tk=>⟨.int (if i<0 then -i else i),H,I.tok _,⟨_,rfl⟩,q⟩
theorem Yz(hc:X.calm=true):aP X (.builtin "min") (λxs H Q=>∃i j,xs=[.int i,.int j]/\Q (.int (if j<i then j else i)) H):=by
 intro pins s σ H xs us Q I r h;obtain⟨i,j,rfl,q⟩:=h;obtain⟨u,w',rfl,⟨t,rfl⟩,⟨t',rfl⟩⟩:=kQ r;refine min_two_ints (I.ok.hd hc) λh' tk k=>⟨_,H,I.kept k,?_,q⟩
 by_cases hj:j<i
 ·rw[if_pos hj,if_pos hj];exact⟨_,rfl⟩
 ·rw[if_neg hj,if_neg hj];exact⟨_,rfl⟩
end
section
variable{prog:wL}{w:wN}{A:ve}{E:wf->wl->Prop}{s:wl}{K:wa}{x dx C f:we}{mA:Str->Option wf}{name:Str}{v:wf}
end
section
variable{P:wL}{w:wN}{H H':Hp}{h h':wI}{a C dx:we}{fs fs':List (Str × V)}
end
section
variable{X:Cx}{pins:List (we × Obj)}{σ : St}{H:Hp}{s:wl}{a C dx:we}{fs:List (Str × V)}{f:Str}{v:V}{A:ve}{E:wf->wl->Prop}
end
section
variable{X:Cx}{o e value:Expr}{f:Str}{pos pos' tpos:Pos}{ta tv:TE}
end
section
variable{X:Cx}{pins:List (we × Obj)}{σ : St}{H:Hp}{s:wl}{A:ve}{E:wf->wl->Prop}{Q:wf->wl->Prop}{c:wf}{b:Bool}
end
structure d4(k:Nat)(A:ve):Prop where
 hd:A.handled=none
 dp:A.depth+3*k+5<recursionLimit
 un:A.units+16*k+200<WF
 gd:A.guards=some []
theorem d4.mono{j k:Nat}{A:ve}(r:d4 k A)(h:j<=k):d4 j A:=⟨r.hd,by have:=r.dp;lia,by have:=r.un;lia,by first | exact r.gd | (simp[ub,Code.guards,uc,guardIds];exact r.gd)⟩
theorem d4.deeper{k:Nat}{A:ve}(r:d4 (k+1) A)(env:Env):d4 k (A.deeper env) :=
 ⟨r.hd,by have:=r.dp;show A.depth+1+3*k+5<_;lia,by have:=r.un;show A.units+3+16*k+200<_;lia,by first | exact r.gd | (simp[ub,Code.guards,uc,guardIds];exact r.gd)⟩
theorem d4.depth{k:Nat}{A:ve}(r:d4 k A):A.depth<recursionLimit:=by have:=r.dp;lia
theorem d4.units{k:Nat}{A:ve}(r:d4 k A):A.units+64<WF:=by have:=r.un;lia
def yM:TA:=λ_ H Q=>Q [] H
def uZ(ta:TE)(tr:TA):TA:=λσ H Q=>ta σ H λx H1=>tr σ H1 λxs H2=>Q (x::xs) H2
section
variable{X:Cx}{e:Expr}{es:List Expr}{te:TE}{t:TA}{pos:Pos}
theorem af:PA X [] yM:=λ_ _ _ _ H Q I h=>Qk ⟨[],H,I,.nil,h⟩
theorem ae(ha:PE X e te)(hr:PA X es t)(hs:wT (e::es) X.env=(false,eval e X.env)::wT es X.env:=by rfl):PA X (e::es) (uZ te t):=by
 intro pos pins s σ H Q I h;rw[hs]
 show wr _ _ (spliced ((false,eval e X.env)::W0 pos (wT es X.env))) _ _ s
 refine qZ (aI (ha pins s σ H _ I h) λu s1 ⟨x,H1,I1,r1,q1⟩=>?_);exact aI (hr pos pins s1 σ H1 _ I1 q1) λus s2 ⟨xs,H2,I2,r2,q2⟩=>⟨x::xs,H2,I2,.cons r1 r2,q2⟩
def zDV(t:TA):TE:=λσ H Q=>t σ H λxs H1=>xs.length<=w5 /\ ∀p,H1 p=none->Q (.ref p) (upd H1 p (.tup xs))
def zDP(t:TA):TE:=λσ H Q=>t σ H λxs H1=>xs.length<=w5 /\ ∀p,H1 p=none->Q (.ref p) (upd H1 p (.lst xs))
theorem zCL{x1}(h:PA X es t):PE X (.Tuple es x1 pos) (zDV t):=by
 intro pins s σ H Q I hq;refine wpAny_Tuple_spliced (aI (h pos pins s σ H _ I hq) λus s1 ⟨xs,H1,I1,r,z,q⟩=>⟨by rw[<- r.length];exact z,?_⟩);have hf:H1 s1.heap.objs.size=none:=I1.aJ.fresh (wo _);refine⟨.ref s1.heap.objs.size,upd H1 s1.heap.objs.size (.tup xs),I1.laid (t':=s1.toks) (λb u e=>wn _ e) (wo _) ?_,rfl,q _ hf⟩;exact⟨z,us,r,⟨_,wM _ rfl,rfl,_,rfl⟩⟩
theorem zB5(h:PA X es t):PE X (.List es pos) (zDP t):=by
 intro pins s σ H Q I hq;refine wpAny_List_spliced (aI (h pos pins s σ H _ I hq) λus s1 ⟨xs,H1,I1,r,z,q⟩=>⟨by rw[<- r.length];exact z,?_⟩);have hf:H1 s1.heap.objs.size=none:=I1.aJ.fresh (wo _);refine⟨.ref s1.heap.objs.size,upd H1 s1.heap.objs.size (.lst xs),I1.laid (t':=s1.toks) (λb u e=>wn _ e) (wo _) ?_,rfl,q _ hf⟩;exact⟨z,us,0,r,wM _ rfl⟩
end
abbrev Sp:=List V->Hp->VK->XK->Prop
abbrev gb:=List Env->Hp->wl->XK->wf->wl->Prop
structure rF(P:wL)(w:wN)(K:wa)(mg:Str->Option wf)(base:wI)(A:ve)(outer:List Env)(s:wl)(H:Hp):Prop where
 frames:A.frames=some outer
 mod:Mod K mg base
 bs:∀b o,base.get? b=some o->s.heap.get? b=some o/\H b=none
 ie:base.objs.size<=s.heap.objs.size
 ff:s.heap.FunFrames base outer
 iS:∀b∈dQ outer,H b=none
 aJ:dj P w H s.heap
 bare:AllBare s.gens
def CE(outer:List Env)(P:wL)(w:wN)(H:Hp)(s:wl)(Q:VK)(u:wf)(s':wl):Prop :=
 ∃v H',s'.os=s.os/\AllBare s'.gens/\Un (dQ outer) [] H H' s.heap s'.heap/\dj P w H' s'.heap/\a_ v u/\Q v H'
def CR(CX:gb)(outer:List Env)(P:wL)(w:wN)(H:Hp)(s:wl)(Q:VK)(E:XK)(r:Result)(s':wl):Prop :=
 match r with
 | .ok (.ret u)=>CE outer P w H s Q u s'
 | .ok _=>False
 | .error e=>CX outer H s E e s'
structure aH(P:wL)(w:wN)(K:wa)(mg:Str->Option wf)(base:wI)(CX:gb)(k:Nat)(f:we)(fd:wz)(ps:List Str)(sp:Sp):Prop where
 len:∀vs H Q E,sp vs H Q E->vs.length=ps.length
 run:∀(A:ve)(outer:List Env)(s:wl)(H:Hp)(args:Args)(us:List wf)(vs:List V)(Q:VK)(E:XK),d4 k A->rF P w K mg base A outer s H->BindsTo s fd args (ps.zip us)->aT vs us->sp vs H Q E ->
   codeAny (model P w) A (.call (.ref f) args) (CR CX outer P w H s Q E) s
section
variable{X:Cx}{pins:List (we × Obj)}{σ : St}{H:Hp}{s s':wl}
theorem Inv.Jt(I:Inv X pins σ H s):rF X.prog X.w X.K X.mg X.base X.A X.stack s H :=
 ⟨I.ok.frames,I.ok.mod,I.bs,Wb I.ok.ie I.sz,I.stack,I.rm,I.aJ,I.bare⟩
theorem Inv.after{Q:VK}{u:wf}(I:Inv X pins σ H s)(h:CE X.stack X.prog X.w H s Q u s'):EP X pins σ Q u s':=by
 obtain⟨v,H',os,bare,un,aJ,r,q⟩:=h;obtain⟨hh,g,d,t,os'⟩:=s';obtain rfl:os'=s.os:=os;exact⟨v,H',I.call (h':=hh) (g':=g) (d':=d) (t':=t) (ch:=[]) un aJ bare (λb z=>absurd z (by simp)),r,q⟩
end
def pq(sp:Sp)(dvs:List V)(E:XK)(t:TA):TE:=λσ H Q=>t σ H λvs H1=>sp (vs++dvs) H1 Q E
def lD(K:wa)(fd:wz)(ps:List Str)(ds:List wf):Prop :=
 ∀(s:wl)(us:List wf),K.In s.heap->(us++ds).length=ps.length->BindsTo s fd ⟨us,[]⟩ (ps.zip (us++ds))
theorem lD.all{K:wa}{fd:wz}{ps:List Str}(h:∀us:List wf,us.length=ps.length->bindArgs fd ⟨us,[]⟩=pure (ps.zip us)):lD K fd ps []:=λs us _ hl=>by
 rw[Wd]at hl ⊢;exact .of_eq (h us hl)
def mE(CX:gb)(X:Cx)(E:XK):Prop:=∀(pins:List (we × Obj))(σ : St)(H:Hp)(s:wl)(e:wf)(s':wl),Inv X pins σ H s->CX X.stack H s E e s'->X.xe e s'
section
variable{X:Cx}{CX:gb}{k:Nat}{f C:we}{fd:wz}{ps:List Str}{sp:Sp}{dvs:List V}{ds:List wf}{E:XK}{x m:Str}{p pos apos:Pos}{e o:Expr}{es:List Expr}{ta:TE}{t:TA}
theorem zCz{pins:List (we × Obj)}{σ : St}{H:Hp}{s:wl}{Q:VK}{us:List wf}{vs:List V}(F:aH X.prog X.w X.K X.mg X.base CX k f fd ps sp)(hr:d4 k X.A)(hb:lD X.K fd ps ds)(hd:aT dvs ds)(hx:mE CX X E)
  (I:Inv X pins σ H s) (r:aT vs us) (h:sp (vs++dvs) H Q E):wr (model X.prog X.w) X.A (call (.ref f) us) (EP X pins σ Q) X.xe s:=by
 have r2:aT (vs++dvs) (us++ds):=r.append hd;have hl:(us++ds).length=ps.length:=by rw[<- r2.length];exact F.len _ _ _ _ h
 refine wpAny_call (codeAny_mono (F.run X.A X.stack s H ⟨us,[]⟩ (us++ds) (vs++dvs) Q E hr I.Jt (hb s us I.dF hl) r2 h) λr s' hq=>?_);cases r with
 | error e=>exact hx pins σ H s e s' I hq
 | ok fl =>
  cases fl with
  | ret u=>exact I.after hq
  | next=>exact WC hq
  | brk=>exact WC hq
  | cont=>exact WC hq
theorem PR(F:aH X.prog X.w X.K X.mg X.base CX k f fd ps sp)(hr:d4 k X.A)(hg:Gl X x)(hm:X.mg x=some (.ref f))(hk:qu X.K (.ref f)=true)(hb:lD X.K fd ps ds)(hd:aT dvs ds)(hx:mE CX X E)
  (ha:PA X (e::es) t) (hdb:(x == ("__debug__" : Str))=false:=by decide) (he:wT (e::es) X.env=(false,eval e X.env)::wT es X.env:=by rfl) (hpl:(W0 pos (wT es X.env)).any (·.1)=false:=by rfl) :
  PE X (.Call (.Name x p) (e::es) [] pos) (pq sp dvs E t):=by
 intro pins s σ H Q I h;refine qt (pS I hg hm ?_ hdb);refine xB (h₀:=X.base) I.ok.mod.pJ hk (aI (ha pos pins s σ H _ I h) λus s1 ⟨vs,H1,I1,r,q⟩=>⟨I1.dF,?_⟩) he hpl;exact zCz F hr hb hd hx I1 r q
end
section
variable{X:Cx}{CX:gb}{k:Nat}{f C:we}{fd:wz}{ps ks:List Str}{sp:Sp}{E:XK}{x m:Str}{p pos apos kpos:Pos}{e o:Expr}{es:List Expr}{kws:List Keyword}{te ta:TE}{t tk:TA}{nm:Option Str}
variable{g:List wf->List wf->List wf}{gV:List V->List V->List V}
end
structure aN(N P:List Str)(sc:Scope):Prop where
 kind:sc.kind=.function
 co:sc.isCoroutine=false
 gen:sc.isGenerator=false
 nd:N.Nodup
 pre:N.take P.length=P
 par:∀x∈P,sc.names.lookup x=some .local\/sc.names.lookup x=some .cell
 TM:∀y∈sc.names,y.2≠.free
theorem JE{kindOf:Str->Option WI}{x:Str} : ∀{binds:List (Str × wf)}{m:Str->Option wf},(∀v,(x,v) ∉ binds)->bindL kindOf binds m x=m x
 | [],_,_=>rfl
 | (n,v)::r,m,h=>by
  unfold bindL;rw[JE λw hw=>h w (wB _ hw)]
  split
  ·have:x≠n:=by rintro rfl;exact h v wC
   simp[this]
  ·rfl
theorem Pj{kindOf:Str->Option WI}{x:Str} : ∀{binds:List (Str × wf)}{m:Str->Option wf},(∀v,(x,v) ∉ binds)->bindC kindOf binds m x=m x
 | [],_,_=>rfl
 | (n,v)::r,m,h=>by
  unfold bindC;rw[Pj λw hw=>h w (wB _ hw)]
  split
  ·rfl
  ·have:x≠n:=by rintro rfl;exact h v wC
   simp[this]
theorem JG{kindOf:Str->Option WI}{x:Str}{v:wf} : ∀{P:List Str}{vs:List wf}{i:Nat}{m:Str->Option wf},P.Nodup->P[i]? = some x->vs[i]? = some v->kindOf x=some .local ->
  bindL kindOf (P.zip vs) m x=some v
 | [],_,_,_,_,h,_,_=>by simp at h
 | _::_,[],_,_,_,_,h,_=>by simp at h
 | p::P,w::vs,0,m,nd,h1,h2,hk=>by
  simp at h1 h2;subst h1;subst h2
  show bindL kindOf ((p,w)::P.zip vs) m p=_
  unfold bindL;rw[JE λv hv=>(VL.mp nd).1 (QI hv).1,if_pos hk];simp
 | p::P,w::vs,i+1,m,nd,h1,h2,hk=>by
  show bindL kindOf ((p,w)::P.zip vs) m x=_
  unfold bindL;exact JG (i:=i) (VL.mp nd).2 (by simpa using h1) (by simpa using h2) hk
theorem N2{kindOf:Str->Option WI}{x:Str}{v:wf} : ∀{P:List Str}{vs:List wf}{i:Nat}{m:Str->Option wf},P.Nodup->P[i]? = some x->vs[i]? = some v->kindOf x≠some .local ->
  bindC kindOf (P.zip vs) m x=some v
 | [],_,_,_,_,h,_,_=>by simp at h
 | _::_,[],_,_,_,_,h,_=>by simp at h
 | p::P,w::vs,0,m,nd,h1,h2,hk=>by
  simp at h1 h2;subst h1;subst h2
  show bindC kindOf ((p,w)::P.zip vs) m p=_
  unfold bindC;rw[Pj λv hv=>(VL.mp nd).1 (QI hv).1,if_neg hk];simp
 | p::P,w::vs,i+1,m,nd,h1,h2,hk=>by
  show bindC kindOf ((p,w)::P.zip vs) m x=_
  unfold bindC;exact N2 (i:=i) (VL.mp nd).2 (by simpa using h1) (by simpa using h2) hk
def start(N:List Str)(vs:List V):St:=vs.map some++w6 (N.length-vs.length) none
def iD(CX:gb)(P:wL)(w:wN)(K:wa)(mg:Str->Option wf)(base:wI)(N:List Str)(qual:Str)(scope:Scope)(f:we)(cd:wf)(A:ve)(outer:List Env)(s:wl)(H:Hp)(E:XK):Cx where
 prog:=P
 w:=w
 K:=K
 mg:=mg
 base:=base
 A:=A.deeper (envOfC qual scope s.heap.objs.size f cd)
 N:=N
 s₀:=s
 H₀:=H
 env:=envOfC qual scope s.heap.objs.size f cd
 outer:=outer
 stack:=envOfC qual scope s.heap.objs.size f cd::outer
 ex:=[]
 calm:=true
 fn:=λ_=>true
 pn:=[]
 xe:=λe s'=>wr (model P w) (A.deeper (envOfC qual scope s.heap.objs.size f cd)) (leaving (envOfC qual scope s.heap.objs.size f cd) e) (λ_ s''=>CX outer H s E e s'') (λe' s''=>CX outer H s E e' s'') s'
theorem Ez{sc:Scope}{n:Nat}{x:Str}(h:sc.names.lookup x=some .cell):∃c,(cellsFrom n sc.names []).lookup x=some c:=by
 have q:=QR sc.names n [] (.inl h);exact Option.isSome_iff_exists.mp q
theorem zvP{CX:gb}{P:wL}{w:wN}{K:wa}{mg:Str->Option wf}{base:wI}{N ps:List Str}{qual:Str}{scope:Scope}{f:we}{cd:wf}{A:ve}{outer:List Env}{s s1:wl}{H:Hp}{E:XK}{us:List wf}{vs:List V}
  (S:aN N ps scope) (hd:A.handled=none) (e0:rF P w K mg base A outer s H) (hl:vs.length=ps.length) (r:aT vs us)
  (x:InCallC s s.heap.objs.size (bindL (envOfC qual scope s.heap.objs.size f cd).kindOf (ps.zip us) λ_=>none) (cellsFrom (s.heap.objs.size+1) scope.names []) (bindC (envOfC qual scope s.heap.objs.size f cd).kindOf (ps.zip us) λ_=>none) s1) :
  Inv (iD CX P w K mg base N qual scope f cd A outer s H E) [] (start N vs) H s1:=by
 have hpl:ps.length<=N.length:=by have:=congrArg List.length S.pre;rw[Ws]at this;lia
 obtain⟨h1,tk,rfl,hk⟩:=x.done;have noA:∀b:we,b ∉ (iD CX P w K mg base N qual scope f cd A outer s H E).ex:=λb z=>absurd (show b∈([]:List we)from z) (by simp)
 refine⟨⟨e0.mod,S.kind,rfl,rfl,wo _,λy z c h1 h2=>?_,λy hy=>?_,λy c _ h=>?_,λ_=>hd,Around.frames_deeper e0.frames,.inr ⟨rfl,rfl⟩,λb z=>absurd z (noA b),e0.bs,e0.ie,λb _ _=>noA b,λb z=>absurd z (noA b),e0.ff,e0.iS⟩,
  rfl,e0.bare,Un.kept hk,⟨_,x.toInCall.ns,λi y v h1 h2 h3=>?_⟩,λy c h=>⟨_,x.cell y c h⟩,e0.aJ.fresh (wo _),λy c h=>?_,λp hp=>absurd (show p∈([]:List (we × Obj))from hp) (by simp),e0.aJ.kept hk,?_⟩
 ·exact name_of_addr x.apart (WZ h1) (WZ h2)
 ·have hy:scope.names.lookup y=some .cell\/scope.names.lookup y=some .free:=hy
  rcases hy with hy | hy
  ·exact Ez hy
  ·exact absurd rfl (S.TM _ (WZ hy))
 ·exact WQ (x.above y c (WZ h))
 ·have hi:i<vs.length:=by
   unfold start at h2
   by_cases hi:i<vs.length
   ·exact hi
   ·rw[vg (by simpa using hi)]at h2
    rw[QD]at h2
    split at h2<;>cases h2
  have ha:vs[i]? = some v:=by
   unfold start at h2;rw[vY (by simpa using hi),wt]at h2;cases e:vs[i]? with
   | none=>rw[e]at h2;cases h2
   | some a=>rw[e]at h2;cases h2;rfl
  obtain⟨u,hu,rv⟩:=r.get ha
  have hp:ps[i]? = some y:=by
   rw[<- S.pre,List.getElem?_take_of_lt (by lia)];exact h1
  have ndP:ps.Nodup:=by rw[<- S.pre];exact S.nd.sublist (xQ _ _)
  refine⟨u,rv,?_⟩;rcases S.par y (xb hp)with k | k
  ·exact .inl ⟨k,JG ndP hp hu k⟩
  ·obtain⟨c,e⟩:=Ez (n:=s.heap.objs.size+1) k
   refine .inr ⟨.inl k,c,e,?_⟩;have q:=x.cell y c e;rw[N2 ndP hp hu (by show scope.names.lookup y≠_;rw[k];decide)]at q;exact q
 ·exact e0.aJ.fresh (WQ (x.above y c (WZ h)))
 ·unfold start
  show _=N.length
  rw[wR,wm,Wi]
  lia
theorem KI{CX:gb}{P:wL}{w:wN}{K:wa}{mg:Str->Option wf}{base:wI}{k:Nat}{f:we}{name qual:Str}{params:Arguments}{body:List wZ}{scope:Scope}{dV kV doc pm cdv ct oc:wf}{an od:Option we}
  {osl:Array (Option wf)} {N ps:List Str} {sp:Sp} (lk:K.lookup f=some ⟨oc,od,.func (Vu name qual params body scope dV kV doc pm an cdv ct),osl⟩) (hcd:qU K cdv qual=true) (S:aN N ps scope)
  (len:∀vs H Q E,sp vs H Q E->vs.length=ps.length)
  (hbody:∀(A:ve)(outer:List Env)(s:wl)(H:Hp)(vs:List V)(Q:VK)(E:XK),d4 k (A.deeper (envOfC qual scope s.heap.objs.size f cdv))->sp vs H Q E ->
   ∃t,fM (iD CX P w K mg base N qual scope f cdv A outer s H E) body t/\t {nx:=λ_ H'=>Q .bj H',rt:=Q} (start N vs) H) :
  aH P w K mg base CX (k+1) f (Vu name qual params body scope dV kV doc pm an cdv ct) ps sp:=by
 refine⟨len,λA outer s H args us vs Q E hr e0 hb r hsp=>?_⟩;have hl:=len _ _ _ _ hsp;have KX:K.In s.heap:=e0.mod.pJ.keeps λb o e=>(e0.bs b o e).1
 have lim:s.heap.NoLimit:=e0.mod.nolimit.keeps λb o e=>(e0.bs b o e).1
 have hkind:∀y∈ps.zip us,scope.names.lookup y.1=some .local\/(scope.names.lookup y.1=some .cell/\((cellsFrom (s.heap.objs.size+1) scope.names []).lookup y.1).isSome=true):=λ⟨n,v⟩ hy=>by
  rcases S.par n (QI hy).1 with q | q
  ·exact .inl q
  ·exact .inr ⟨q,QR _ _ _ (.inl q)⟩
 refine codeAny_call_function hr.depth (KX _ _ lk) rfl S.co S.gen rfl (PySem.W.codeRec_of KX hcd) (hb _ _ _ _ ?_);refine wpAny_newFunctionEnv_cells S.kind hkind λenv he s1 x=>?_
 subst he;refine⟨lim.keeps x.toInCall.keep,codeAny_func ?_⟩;obtain⟨t,ht,hq⟩:=hbody A outer s H vs Q E (hr.deeper _) hsp;have I:Inv (iD CX P w K mg base N qual scope f cdv A outer s H E) [] (start N vs) H s1:=zvP S hr.hd e0 hl r x;refine Wm (ht [] s1 (start N vs) H _ I hq) (λfl s' hs=>?_) λe s' hs=>hs
 have fin:∀{σ':St}{H':Hp}{v:V}{u:wf},Inv (iD CX P w K mg base N qual scope f cdv A outer s H E) [] σ' H' s'->a_ v u->Q v H'->CE outer P w H s Q u s' :=
  λ{σ' H' v u} J rv q=>⟨v,H',J.os,J.bare,J.base,J.aJ,rv,q⟩
 cases fl with
 | ret u =>
  obtain⟨v,σ',H',J,rv,q⟩:=hs;exact fin J rv q
 | next =>
  obtain⟨σ',H',J,q⟩:=hs;exact fin (v:=V.bj) (u:=Value.none) J rfl q
 | brk =>
  obtain⟨_,_,_,q⟩:=hs;exact WC q
 | cont =>
  obtain⟨_,_,_,q⟩:=hs;exact WC q
section
variable{X:Cx}{x:Str}{p pos:Pos}{e:Expr}{es:List Expr}{t:TA}{id T:String}{r:List V->Hp->VK->Prop}
def CK(r:List V->Hp->VK->Prop)(t:TA):TE:=λσ H Q=>t σ H λvs H1=>r vs H1 Q
theorem bP(hc:aP X (.builtin id) r)(hg:Gl X x)(hm:X.mg x=none)(hv:vH x=some (.builtin id))(ha:PA X (e::es) t)(hn:x≠"__name__":=by decide)(hdb:(x == ("__debug__" : Str))=false:=by decide)
  (he:wT (e::es) X.env=(false,eval e X.env)::wT es X.env:=by rfl) (hpl:(W0 pos (wT es X.env)).any (·.1)=false:=by rfl):PE X (.Call (.Name x p) (e::es) [] pos) (CK r t):=by
 intro pins s σ H Q I h;refine qt (gI I hg hm hv ?_ hn hdb);exact PyProof.Rows.callWith_builtin1 (aI (ha pos pins s σ H _ I h) λus s1 ⟨vs,H1,I1,r1,q1⟩=>hc pins s1 σ H1 vs us Q I1 r1 q1) he hpl
theorem dY(hc:aP X (.type T) r)(hg:Gl X x)(hm:X.mg x=none)(hv:vH x=some (.type T))(ha:PA X (e::es) t)(hn:x≠"__name__":=by decide)(hdb:(x == ("__debug__" : Str))=false:=by decide)
  (he:wT (e::es) X.env=(false,eval e X.env)::wT es X.env:=by rfl) (hpl:(W0 pos (wT es X.env)).any (·.1)=false:=by rfl):PE X (.Call (.Name x p) (e::es) [] pos) (CK r t):=by
 intro pins s σ H Q I h;refine qt (gI I hg hm hv ?_ hn hdb);exact vi (aI (ha pos pins s σ H _ I h) λus s1 ⟨vs,H1,I1,r1,q1⟩=>hc pins s1 σ H1 vs us Q I1 r1 q1) he hpl
end
section
variable{κ : Type}[DecidableEq κ]
end
abbrev KT(H:Hp):List (List Key × V)->List (List Key × we × wf)->Prop:=Paired λp q=>p.1=q.1/\H q.2.1=some (.tup (p.1.map kV))/\a_ p.2 q.2.2
section
variable{P:wL}{w:wN}{H:Hp}{h:wI}{a:we}
end
section
variable{X:Cx}{pins:List (we × Obj)}{σ : St}{H:Hp}{s:wl}{a:we}{y v:V}{u r:wf}{o:Option V}{A:ve}{E:wf->wl->Prop}
theorem Inv.big(I:Inv X pins σ H s):sysModules<s.heap.objs.size:=by
 have h:wK<s.heap.objs.size:=(I.mod.glob.keeps I.bk).lt;exact Nat.lt_trans (by decide) h
end
section
variable{X:Cx}{pins:List (we × Obj)}{σ : St}{H:Hp}{s:wl}{a:we}{kvs:List (Key × V)}{k:Key}{u:wf}{A:ve}{E:wf->wl->Prop}
end
def LH(i:Expr):Prop:=∀ov iv,subscripted i false ov iv=operate [ov,iv] (getItem ov iv)
theorem zzw{prog:wL}{w:wN}{A:ve}{E:wf->wl->Prop}{s:wl}{env:Env}{value slice:Expr}{pos:Pos}{T id:String}{Q:wf->wl->Prop}
  (hl:typeLookup (.type T) "__getitem__"=pure (some (.builtin id))) (hs:LH slice)
  (h:wr (model prog w) A (eval value env) (λo s₁=>wr (model prog w) A (eval slice env) (λi s₂=>s₂.TypeIs o T/\wr (model prog w) A (getItem o i) Q E s₂) E s₁) E s) :
  wr (model prog w) A (eval (.Subscript value slice pos) env) Q E s:=by
 refine Subscript_ (Wm h (λo s₁ h₁=>Wm h₁ (λi s₂ h₂=>?_) λ_ _ x=>x) λ_ _ x=>x);obtain⟨hT,h₂⟩:=h₂;unfold subscriptTail;refine wg ?_;rw[getitemInPython_of_ne hT.not_modules];refine wg (wpAny_specialOf hT hl ?_)
 have fin:wr (model prog w) A (subscripted slice false o i) (λr s₃=>wr (model prog w) A (letTemporaryGo value o r >>= λ_=>pure r) Q E s₃) E s₂:=by
  rw[hs o i];exact wpAny_operating (Wm h₂ (λr s₃ h₃=>wg (wpAny_letTemporaryGo (wx h₃))) λ_ _ x=>x)
 first
  | exact wx (wg fin)
  | exact wg (wx (wg fin))
  | exact wg fin
section
variable{X:Cx}{o i e value:Expr}{pos pos' tpos:Pos}{td ty tv:TE}
end
section
variable{X:Cx}{pos:Pos}
end
abbrev VV:List (V × V)->List (wf × wf)->Prop:=Paired λp q=>a_ p.1 q.1/\a_ p.2 q.2
structure M1(X:Cx)(o:Expr)(m:Str)(apos:Pos)(e:Expr)(cpos:Pos):Prop where
 base:attributeBase o m X.env (eval o X.env)=eval o X.env
 bN:((W0 cpos (wT [e] X.env)).all (λx=>!x.1)&&(backToKw cpos (keywordEach [] X.env)).all (λx=>x.1.isSome)
   && decide (([e]:List Expr).length+([]:List Keyword).length+(if([]:List Keyword).isEmpty then 0 else 1)<30))=true
 line:(apos.endLine == cpos.line)=true
 trees:W0 cpos (wT [e] X.env)=[(false,eval e X.env)]
structure M2(X:Cx)(o:Expr)(m:Str)(apos:Pos)(e f:Expr)(cpos:Pos):Prop where
 base:attributeBase o m X.env (eval o X.env)=eval o X.env
 bN:((W0 cpos (wT [e,f] X.env)).all (λx=>!x.1)&&(backToKw cpos (keywordEach [] X.env)).all (λx=>x.1.isSome)
   && decide (([e,f]:List Expr).length+([]:List Keyword).length+(if([]:List Keyword).isEmpty then 0 else 1)<30))=true
 line:(apos.endLine == cpos.line)=true
 trees:W0 cpos (wT [e,f] X.env)=[(false,eval e X.env),(false,eval f X.env)]
section
variable{X:Cx}{pins:List (we × Obj)}{σ : St}{H:Hp}{s:wl}{a:we}{y d:V}{u r:wf}{o:Option V}{A:ve}{E:wf->wl->Prop}
end
section
variable{X:Cx}{o e f:Expr}{apos cpos:Pos}{td ty tx:TE}
end
section
variable{X:Cx}{pins:List (we × Obj)}{σ : St}{H:Hp}{s:wl}{a:we}{kvs:List (Key × V)}{A:ve}{E:wf->wl->Prop}
end
section
variable{X:Cx}{pins:List (we × Obj)}{σ : St}{H:Hp}{s:wl}{a:we}{y:V}{u:wf}{A:ve}{E:wf->wl->Prop}
end
end L2
namespace HT
open PySem PyProof.Rows
section
open PySem.SeqAt
open PySem.AutoSeq1 (wpAny_loadPart')
open PySem.MeetsSeq PySem.MeetsSeq2 PySem.MeetsSeq3
end
section
variable{prog:wL}{w:wN}{A:ve}{E:wf->wl->Prop}{s:wl}
theorem Tz{t b:we}{vs ws:List wf}{Q:wf->wl->Prop}(ht:IsTup s.heap t vs.toArray)(hb:IsTup s.heap b ws.toArray)(hv:vs≠[])
  (h1:ws=[]->Q (.ref t) s) (h2:ws≠[]->Q (.ref s.heap.objs.size) {s with heap:=s.heap.push {cls:=.type "tuple",data:=.seq (vs++ws).toArray}})
  (hsz:vs.length+ws.length<=w5):wr (model prog w) A (Wn .Add (.ref t) (.ref b)) Q E s:=by
 obtain⟨⟨cls,dd,data,sl⟩,ho,hc,n,hd⟩:=id ht;obtain⟨⟨cls2,dd2,data2,sl2⟩,ho2,hc2,n2,hd2⟩:=id hb;simp only at hc hd hc2 hd2;subst hc hd hc2 hd2;have e:vs.toArray++ws.toArray=(vs++ws).toArray:=by simp
 by_cases hw:ws=[]
 ·exact concat_meets ⟨_,ho,rfl⟩ ⟨_,ho2,rfl⟩ noFill_tuple_add seq_tuple_add qE qy (qg _ _)
   (tuple_addW1 t b vs.toArray ws.toArray n n2 dd dd2 sl sl2 (by simpa using hv) (by simp[hw])) ⟨ho,ho2,h1 hw⟩
 ·refine concat_meets ⟨_,ho,rfl⟩ ⟨_,ho2,rfl⟩ noFill_tuple_add seq_tuple_add qE qy (qg _ _)
   (tuple_addW2 t b vs.toArray ws.toArray n n2 dd dd2 sl sl2 (by simpa using hv) (by simpa using hw) (by rw[wH,wH];exact hsz)) ⟨ho,ho2,?_⟩
  rw[e];exact h2 hw
def aX(n d:Nat):Option Int->Nat
 | none=>d
 | some v=>if v<0 then(v+(n:Int)).toNat else min v.toNat n
theorem Tx(n d:Nat):aX n d none=d:=rfl
theorem TJ(n d k:Nat):aX n d (some (k:Int))=min k n:=by
 show(if(k:Int)<0 then((k:Int)+(n:Int)).toNat else min (k:Int).toNat n)=min k n
 rw[if_neg (by lia),wP]
theorem zCi(n d:Nat)(hd:d<=n)(o:Option Int):aX n d o<=n:=by
 cases o with
 | none=>exact hd
 | some v =>
  show(if v<0 then(v+(n:Int)).toNat else min v.toNat n)<=n
  by_cases hv:v<0
  ·rw[if_pos hv];lia
  ·rw[if_neg hv];exact Xg _ _
theorem Sj(v:Int)(n d:Nat):(if v<0 then max (v+(n:Int)) 0 else min v (n:Int))=((aX n d (some v):Nat):Int):=by
 show(if v<0 then max (v+(n:Int)) 0 else min v (n:Int))=(((if v<0 then(v+(n:Int)).toNat else min v.toNat n):Nat):Int)
 by_cases hv:v<0
 ·simp only[if_pos hv];lia
 ·simp only[if_neg hv];lia
theorem Yv(lo hi:Option Int)(n:Nat):V9 lo hi 1 (n:Int)=(((aX n 0 lo:Nat):Int),((aX n n hi:Nat):Int)):=by
 have h1:¬ ((1:Int)<0):=by lia
 unfold V9;simp only[h1,if_false];refine Vg ?_ ?_
 ·cases lo with
  | none=>rfl
  | some v=>exact Sj v n 0
 ·cases hi with
  | none=>rfl
  | some v=>exact Sj v n n
theorem Zm(i j:Nat):Vs (i:Int) (j:Int) 1=j-i:=by
 unfold Vs;have h1:(1:Int) > 0:=by lia
 simp only[h1,if_true,Int.ediv_one]
 split<;>lia
theorem Rq{v:wf}{o:Option Int}{Q:Option Int->wl->Prop}(p:IsPart v o)(h:Q o s):wr (model prog w) A (XS v) Q E s:=by
 cases p with
 | none=>exact slicePart_none h
 | int i t=>exact slicePart_int h
theorem zk7{sl:we}{vl vu:wf}{lo hi:Option Int}{n:Nat}{Q:Int × Int × Nat->wl->Prop}(hs:s.heap.IsSliceOf sl vl vu .none)(pl:IsPart vl lo)(pu:IsPart vu hi)
  (h:Q (((aX n 0 lo:Nat):Int),1,aX n n hi-aX n 0 lo) s):wr (model prog w) A (Qe (.ref sl) (pure (n:Int))) Q E s:=by
 obtain⟨os,hos,hcs,hds⟩:=id hs;unfold Qe X7;refine wg (wg (vj hos hds (x:=vl) rfl (wg (vj hos hds (x:=vu) rfl (wg (vj hos hds (x:=.none) rfl (wx ?_)))))));refine wg (slicePart_none ?_)
 show wr _ _ (if((1:Int) == 0)=true then _ else _) _ _ s
 rw[if_neg (by decide)];refine wg (Rq pl (wg (Rq pu (wg (wx ?_)))))
 show wr _ _ (match V9 lo hi 1 (n:Int)with | (lo,hi)=>pure (lo,(1:Int),Vs lo hi 1)) _ _ s
 rw[Yv lo hi n]
 show wr _ _ (pure (((aX n 0 lo:Nat):Int),(1:Int),Vs ((aX n 0 lo:Nat):Int) ((aX n n hi:Nat):Int) 1)) _ _ s
 rw[Zm];exact wx h
theorem zyv(xs:Array wf)(i k:Nat):((wq k).filterMap λ(m:Nat)=>xs[((i:Int)+(m:Int)*1).toNat]?).toArray=((xs.toList.drop i).take k).toArray:=by
 have e:(λ(m:Nat)=>xs[((i:Int)+(m:Int)*1).toNat]?)=λm=>xs[i+m]?:=by
  funext m
  have:((i:Int)+(m:Int)*1).toNat=i+m:=by lia
  rw[this]
 rw[e];have:=pick_run xs i k;rw[List.filterMap_map]at this;have e2:((λx=>xs[x]?) ∘ λx=>i+x)=λm=>xs[i+m]?:=rfl
 rw[e2]at this;rw[this]
theorem Th{t sl:we}{items:Array wf}{vl vu:wf}{lo hi:Option Int}{Q:wf->wl->Prop}(ht:IsTup s.heap t items)(hs:s.heap.IsSliceOf sl vl vu .none)(pl:IsPart vl lo)(pu:IsPart vu hi)
  (hw:¬ (aX items.size 0 lo=0/\aX items.size items.size hi=items.size))
  (h:Q (.ref s.heap.objs.size) {s with heap:=s.heap.push {cls:=.type "tuple",data:=.seq ((items.toList.drop (aX items.size 0 lo)).take (aX items.size items.size hi-aX items.size 0 lo)).toArray}})
  (hsz:items.size<=w5):wr (model prog w) A (getItem (.ref t) (.ref sl)) Q E s:=by
 have htake:sizeOk (.seq ((items.toList.drop (aX items.size 0 lo)).take (aX items.size items.size hi-aX items.size 0 lo)).toArray):=by
  show((items.toList.drop (aX items.size 0 lo)).take (aX items.size items.size hi-aX items.size 0 lo)).toArray.size<=w5
  rw[wH,Ws,vU,WY]
  lia
 have hj:aX items.size items.size hi<=items.size:=zCi _ _ (wo _) hi;obtain⟨os,hos,hcs,hds⟩:=id hs;have hTs:s.TypeIs (.ref sl) "slice":=⟨os,hos,hcs⟩;unfold getItem
 try with_reducible refine WE ?_
 first | refine wg (wx ?_) | skip
 refine wg (wpAny_sequenceKey ht.typeIs (by decide) ?_)
 refine wg (wpAny_callSpecial?_slot (name:=vL "__getitem__") ht.typeIs VG
  (vW VG ht.typeIs entry_tuple_getitem ?_ (args_tuple_getitem _ _)))
 show wr _ _ (Qf (.ref t) >>= _) _ _ s
 refine wg (tupleItemsOf_ ht ?_);refine wg (wpAny_typeOf hTs ?_);rw[if_pos (by decide)];refine wg (zk7 hs pl pu ?_)
 have hno:¬ ((((aX items.size 0 lo:Nat):Int) == 0&&(1:Int) == 1&&(aX items.size items.size hi-aX items.size 0 lo) == items.size)=true):=by
  intro q;rw[wW,wW]at q;have q1:((aX items.size 0 lo:Nat):Int)=0:=eq_of_beq q.1.1;have q2:aX items.size items.size hi-aX items.size 0 lo=items.size:=eq_of_beq q.2;exact hw ⟨by lia,by lia⟩
 show wr _ _ (if(((aX items.size 0 lo:Nat):Int) == 0&&(1:Int) == 1&&(aX items.size items.size hi-aX items.size 0 lo) == items.size)=true then _ else _) _ _ s
 rw[if_neg hno,zyv]
 first
  | exact wg (m:=Vv _) (Wp (wx ⟨_,rfl,wx h⟩) htake)
  | exact wg (m:=Vv _) (Wp (wg (wx (wx ⟨_,rfl,wx h⟩))) htake)
  | exact wg (wg (m:=Vv _) (Wp (wx (wx ⟨_,rfl,wx h⟩)) htake))
  | exact wg (wg (m:=Vv _) (Wp (wx ⟨_,rfl,wx h⟩) htake))
end
end HT
namespace L2
open PySem PySem.Spec PyProof.Rows
abbrev TO:=St->Hp->(Option Int->Hp->Prop)->Prop
def PO(X:Cx)(e:Option Expr)(t:TO):Prop :=
 ∀(pins:List (we × Obj))(s:wl)(σ : St)(H:Hp)(Q:Option Int->Hp->Prop),Inv X pins σ H s->t σ H Q ->
  wr (model X.prog X.w) X.A (evalPart e X.env) (λu s'=>∃o H',Inv X pins σ H' s'/\IsPart u o/\Q o H') X.xe s
def Kq:TO:=λ_ H Q=>Q none H
def Ol(t:TE):TO:=λσ H Q=>t σ H λx H1=>∃i,x=.int i/\Q (some i) H1
theorem Di{ns:List Int} : ∀{us:List wf},aT (ns.map V.int) us->IntsAre us ns:=by
 induction ns with
 | nil=>intro us r;rw[Qu]at r;cases r;exact .nil
 | cons n ns ih =>
  intro us r;rw[w8]at r;cases r with
  | cons r1 r2 =>
   obtain⟨t,e⟩:=r1;subst e;exact .cons n t (ih r2)
section
variable{X:Cx}{e:Expr}{te:TE}{lo hi:Option Expr}{tl th:TO}{pos p2:Pos}
theorem jW:PO X none Kq:=by
 intro pins s σ H Q I h;rw[evalPart_none];exact wx ⟨none,H,I,.none,h⟩
theorem jL(h:PE X e te):PO X (some e) (Ol te):=by
 intro pins s σ H Q I hw;rw[evalPart_some];refine aI (h pins s σ H _ I hw) λu s1 ⟨x,H1,I1,r1,q1⟩=>?_
 obtain⟨i,rfl,q⟩:=q1;obtain⟨t,rfl⟩:=r1;exact⟨some i,H1,I1,.int i t,q⟩
def jY(X:Cx)(r:V->Option Int->Option Int->Hp->VK->Prop):Prop :=
 ∀(pins:List (we × Obj))(s:wl)(σ : St)(H:Hp)(x:V)(v vl vu:wf)(lo hi:Option Int)(sl:we)(Q:VK),Inv X pins σ H s->a_ x v->s.heap.IsSliceOf sl vl vu .none->IsPart vl lo->IsPart vu hi->r x lo hi H Q ->
  ∃T id,typeLookup (.type T) "__getitem__"=pure (some (.builtin id))/\s.TypeIs v T/\wr (model X.prog X.w) X.A (getItem v (.ref sl)) (EP X pins σ Q) X.xe s
theorem jY.or{r r':V->Option Int->Option Int->Hp->VK->Prop}(h:jY X r)(h':jY X r'):jY X (λx lo hi H Q=>r x lo hi H Q\/r' x lo hi H Q):=by
 intro pins s σ H x v vl vu lo hi sl Q I rx hs pl pu q;rcases q with q | q
 ·exact h pins s σ H x v vl vu lo hi sl Q I rx hs pl pu q
 ·exact h' pins s σ H x v vl vu lo hi sl Q I rx hs pl pu q
def Rz(r:V->Option Int->Option Int->Hp->VK->Prop)(te:TE)(tl th:TO):TE:=λσ H Q=>te σ H λx H1=>tl σ H1 λl H2=>th σ H2 λu H3=>r x l u H3 Q
theorem jQ{r:V->Option Int->Option Int->Hp->VK->Prop}(hr:jY X r)(he:PE X e te)(hl:PO X lo tl)(hu:PO X hi th):PE X (.Subscript e (.Slice lo hi none p2) pos) (Rz r te tl th):=by
 intro pins s σ H Q I h;refine Subscript_ (aI (he pins s σ H _ I h) λv s1 ⟨x,H1,I1,r1,q1⟩=>?_);refine wpAny_Slice (aI (hl pins s1 σ H1 _ I1 q1) λvl s2 ⟨l,H2,I2,pl,q2⟩=>aI (hu pins s2 σ H2 _ I2 q2) λvu s3 ⟨u,H3,I3,pu,q3⟩=>?_);rw[evalPart_none];refine wx ?_;have I4:Inv X pins σ H3 {s3 with heap:=s3.heap.push {cls:=.type "slice",data:=.fields #[vl,vu,.none]}}:=I3.kept (t':=s3.toks) λb ob q=>wn _ q
 obtain⟨T,id,hT,ht,hg⟩:=hr pins {s3 with heap:=s3.heap.push {cls:=.type "slice",data:=.fields #[vl,vu,.none]}} σ H3 x v vl vu l u s3.heap.objs.size Q I4 r1 (uf ..) pl pu q3
 show wr (model X.prog X.w) X.A (subscriptTail e (.Slice lo hi none p2) v (.ref s3.heap.objs.size)) (EP X pins σ Q) X.xe {s3 with heap:=s3.heap.push {cls:=.type "slice",data:=.fields #[vl,vu,.none]}}
 exact tail_any (ops:=[.ref s3.heap.objs.size,v]) ht hT hg (by with_unfolding_all rfl)
def jS(xs:List V)(lo hi:Option Int):List V:=(xs.drop (HT.aX xs.length 0 lo)).take (HT.aX xs.length xs.length hi-HT.aX xs.length 0 lo)
theorem OD(xs:List V)(lo hi:Option Int):(jS xs lo hi).length<=xs.length:=by
 unfold jS;rw[Ws,vU]
 lia
def R4(K:wa):V->Option Int->Option Int->Hp->VK->Prop:=λx lo hi H Q=>∃a xs,x=.ref a/\aV K H a xs /\
 ¬ (HT.aX xs.length 0 lo=0/\HT.aX xs.length xs.length hi=xs.length) /\ ∀p,H p=none->Q (.ref p) (upd H p (.tup (jS xs lo hi)))
theorem U0:jY X (R4 X.K):=by
 intro pins s σ H x v vl vu lo hi sl Q I rx hs pl pu h;obtain⟨a,xs,rfl,hx,hw,q⟩:=h;cases rx;obtain⟨its,r,ht,hz⟩:=I.tuple hx;have hlen:its.toArray.size=xs.length:=by rw[wH];exact r.length.symm
 refine⟨"tuple",_,VG.lookup,ht.typeIs,?_⟩;refine HT.Th ht hs pl pu (by rw[hlen];exact hw) ?_ (by rw[hlen];exact hz);rw[hlen];refine⟨.ref s.heap.objs.size,_,I.laid (t':=s.toks) (o:=.tup (jS xs lo hi)) (λb ob q=>wn _ q) (wo _) ?_,rfl,q _ (I.aJ.fresh (wo _))⟩;exact⟨Wb (OD xs lo hi) hz,_,(r.drop (HT.aX xs.length 0 lo)).take (HT.aX xs.length xs.length hi-HT.aX xs.length 0 lo),qJ _ _⟩
def Oj(K:wa):R2:=λx y H Q=>∃a b xs ys,x=.ref a/\y=.ref b/\aV K H a xs/\aV K H b ys/\xs≠[]/\xs.length+ys.length<=w5 /\
 (ys=[]->Q (.ref a) H)/\(ys≠[]->∀p,H p=none->Q (.ref p) (upd H p (.tup (xs++ys))))
theorem aT.An{xs:List V}{us:List wf}(r:aT xs us):us=[] ↔ xs=[]:=by
 cases r with
 | nil=>simp
 | cons _ _=>simp
theorem U2:aK X (Wn .Add) (Oj X.K):=by
 intro pins s σ H x y v u Q I rx ry h;obtain⟨a,b,xs,ys,rfl,rfl,ha,hb,hx,hz,q1,q2⟩:=h;cases rx;cases ry;obtain⟨its,r1,p1,_⟩:=I.tuple ha;obtain⟨its2,r2,p2,_⟩:=I.tuple hb;refine HT.Tz p1 p2 (λz=>hx (r1.An.mp z)) (λz=>⟨.ref a,H,I,rfl,q1 (r2.An.mp z)⟩) (λz=>?_) (by rw[<- r1.length,<- r2.length];exact hz);refine⟨.ref s.heap.objs.size,_,I.laid (t':=s.toks) (o:=.tup (xs++ys)) (λb ob q=>wn _ q) (wo _) ?_,rfl,q2 (λw=>z (r2.An.mpr w)) _ (I.aJ.fresh (wo _))⟩;exact⟨by rw[wR];exact hz,_,r1.append r2,qJ _ _⟩
end
def gM(n:Nat)(i:Int):Option Nat:=if 0<=i then(if i<n then some i.toNat else none)else if -(n:Int)<=i then some (i+n).toNat else none
def gP{α : Type}(xs:List α)(i:Int):Option α:=(gM xs.length i).bind λj=>xs[j]?
theorem Pp{n:Nat}{i:Int}{j:Nat}(h:gM n i=some j):seqIndex? i n=some j/\j<n /\ -(n:Int)<=i/\i<n:=by
 unfold gM at h
 by_cases h0:0<=i
 ·rw[if_pos h0]at h
  by_cases h1:i<n
  ·rw[if_pos h1]at h
   have e:i.toNat=j:=wX h;exact⟨by rw[seqIndex_of h0 h1,e],by lia,by lia,h1⟩
  ·rw[if_neg h1]at h;cases h
 ·rw[if_neg h0]at h
  by_cases h1 : -(n:Int)<=i
  ·rw[if_pos h1]at h
   have e:(i+n).toNat=j:=wX h;exact⟨by rw[seqIndex_neg (by lia) h1,e],by lia,h1,by lia⟩
  ·rw[if_neg h1]at h;cases h
theorem Eg{α : Type}{xs:List α}{i:Int}{v : α}(h:gP xs i=some v):∃j,seqIndex? i xs.length=some j/\xs[j]? = some v/\j<xs.length /\ -(xs.length:Int)<=i/\i<xs.length:=by
 unfold gP at h;cases e:gM xs.length i with
 | none=>rw[e]at h;cases h
 | some j =>
  rw[e]at h;obtain⟨h1,h2,h3,h4⟩:=Pp e;exact⟨j,h1,h,h2,h3,h4⟩
theorem kx{α : Type}{xs:List α}{j:Nat}{v : α}(h:xs[j]? = some v):gP xs (j:Int)=some v:=by
 have hj:j<xs.length:=(WP.mp h).1
 have e:gM xs.length (j:Int)=some j:=by
  unfold gM;rw[if_pos (by lia),if_pos (by lia)];simp
 unfold gP;rw[e];exact h
def zAa(b:Expr):Prop:=∀o i,subscripted b false o i=operate [o,i] (getItem o i)
def gK(X:Cx)(r:R2):Prop :=
 ∀(value slice:Expr)(pins:List (we × Obj))(s:wl)(σ : St)(H:Hp)(x y:V)(v u:wf)(Q:VK),Inv X pins σ H s->a_ x v->a_ y u->r x y H Q ->
  subscripted slice false v u=operate [v,u] (getItem v u)->wr (model X.prog X.w) X.A (subscriptTail value slice v u) (EP X pins σ Q) X.xe s
def NY(X:Cx)(id:String)(r:V->List V->Hp->VK->Prop):Prop :=
 ∀(pins:List (we × Obj))(s:wl)(σ : St)(H:Hp)(x:V)(xs:List V)(v:wf)(us:List wf)(Q:VK),Inv X pins σ H s->a_ x v->aT xs us->r x xs H Q ->
  wr (model X.prog X.w) X.A (call (.builtin id) (v::us)) (EP X pins σ Q) X.xe s
section
variable{X:Cx}{a b:Expr}{ta tb:TE}{pos:Pos}
theorem gK.or{r r':R2}(h:gK X r)(h':gK X r'):gK X (λx y H Q=>r x y H Q\/r' x y H Q):=by
 intro value slice pins s σ H x y v u Q I rx ry q hs;rcases q with q | q
 ·exact h value slice pins s σ H x y v u Q I rx ry q hs
 ·exact h' value slice pins s σ H x y v u Q I rx ry q hs
theorem dC{r:R2}(hr:gK X r)(ha:PE X a ta)(hb:PE X b tb)(hs:zAa b):PE X (.Subscript a b pos) (kU r ta tb):=by
 intro pins s σ H Q I h;exact Subscript_ (Du ha hb I h λv u s2 x y H2 I2 rx ry q=>hr a b pins s2 σ H2 x y v u Q I2 rx ry q (hs _ _))
def NI(K:wa):R2:=λx y H Q=>∃p xs i v,x=.ref p/\y=.int i/\aR K H p xs/\gP xs i=some v/\Q v H
def Rp(K:wa):R2:=λx y H Q=>∃p xs i v,x=.ref p/\y=.int i/\aV K H p xs/\gP xs i=some v/\Q v H
def Py:R2:=λx y H Q=>∃z i c,x=.str z/\y=.int i/\z.length<=w5/\gP z.cps.toList i=some c/\Q (.str ⟨#[c]⟩) H
theorem YX:gK X (NI X.K):=by
 intro value slice pins s σ H x y v u Q I rx ry h hs;obtain⟨p,xs,i,z,rfl,rfl,hq,he,q⟩:=h;cases rx;obtain⟨t,rfl⟩:=ry;obtain⟨its,r,pl,hz⟩:=I.list hq;obtain⟨j,h1,h2,h3,h4,h5⟩:=Eg he;obtain⟨w,ew,rw'⟩:=r.get h2;have hl:=r.length;have hn:=ng;have fin:EP X pins σ Q w s:=⟨z,H,I,rw',q⟩
 by_cases h0:0<=i
 ·have hj:i.toNat=j:=by
   rw[seqIndex_of h0 h5]at h1;exact wX h1
  exact item_listR pl.isList h0 (by lia) (by rw[hj];simpa using ew) fin hs
 ·have hj:(i+(its.toArray.size:Int)).toNat=j:=by
   rw[seqIndex_neg (by lia) h4]at h1;rw[wH,<- hl];exact wX h1
  exact subscriptTail_builtinR (x:=w) pl.isList.typeIs slot_list_getitem.lookup
   (wpAny_getItem_list_neg (Q:=λr s'=>r=w/\EP X pins σ Q r s') pl.isList (by lia) (by rw[wH]<;>lia) (by lia) (by rw[hj];simpa using ew) ⟨rfl,fin⟩) hs
theorem zBF:gK X (Rp X.K):=by
 intro value slice pins s σ H x y v u Q I rx ry h hs;obtain⟨p,xs,i,z,rfl,rfl,hq,he,q⟩:=h;cases rx;obtain⟨t,rfl⟩:=ry;obtain⟨its,r,pl,hz⟩:=I.tuple hq;obtain⟨j,h1,h2,h3,h4,h5⟩:=Eg he;obtain⟨w,ew,rw'⟩:=r.get h2;have hl:=r.length;have hn:=ng;have fin:EP X pins σ Q w s:=⟨z,H,I,rw',q⟩
 exact subscriptTail_builtinR (x:=w) pl.typeIs slot_tuple_getitem.lookup
  (getItem_tuple (j:=j) (Q:=λr s'=>r=w/\EP X pins σ Q r s') pl (by lia) (by lia) (by rw[wH,<- hl];exact h1) (by simpa using ew) ⟨rfl,fin⟩) hs
theorem YR:gK X Py:=by
 intro value slice pins s σ H x y v u Q I rx ry h hs;obtain⟨z,i,c,rfl,rfl,hz,he,q⟩:=h;obtain⟨t,rfl⟩:=rx;obtain⟨t',rfl⟩:=ry;obtain⟨j,h1,h2,h3,h4,h5⟩:=Eg he;have hl:z.cps.toList.length=z.length:=by simp[Str.length]
 rw[hl]at h1 h4 h5;have hn:=ng
 exact tail_any (typeIs_str s z t) slot_str_getitem.lookup (getItem_str (c:=c) (by
  have e1:decide (i < -(2^63:Int))=false:=decide_eq_false (by lia);have e2:decide (i ≥ 2^63)=false:=decide_eq_false (by lia);rw[e1,e2,X2]) (by rw[h1];simpa using h2) ⟨.str ⟨#[c]⟩,H,I.tok _,⟨_,rfl⟩,q⟩) hs
def c_(K:wa):R2:=λx y H Q=>NI K x y H Q\/Rp K x y H Q\/Py x y H Q
theorem dg:gK X (c_ X.K):=YX.or (zBF.or YR)
theorem ztF(its:List wf)(n j:Nat)(u:wf):Qq (·.setIfInBounds j u) {cls:=.type "list",data:=.seq its.toArray n} = {cls:=.type "list",data:=.seq (its.set j u).toArray n}:=by
 simp[Qq]
theorem Inv.lst{pins:List (we × Obj)}{σ : St}{H:Hp}{s:wl}{p:we}{xs:List V}(I:Inv X pins σ H s)(h:H p=some (.lst xs)) :
  ∃(its:List wf)(n:Nat),aT xs its/\s.heap.get? p=some {cls:=.type "list",data:=.seq its.toArray n}/\xs.length<=w5:=by
 obtain⟨z,its,n,r,e⟩:=I.aJ p _ h;exact⟨its,n,r,e,z⟩
theorem Inv.TL{pins:List (we × Obj)}{σ : St}{H:Hp}{s:wl}{p:we}{xs ys:List V}{its its':List wf}{n n':Nat}{f:Obj->Obj}(I:Inv X pins σ H s)(h:H p=some (.lst xs))
  (ho:s.heap.get? p=some {cls:=.type "list",data:=.seq its.toArray n}) (hf:f {cls:=.type "list",data:=.seq its.toArray n} = {cls:=.type "list",data:=.seq its'.toArray n'}) (r:aT ys its') (hz:ys.length<=w5) (t:Nat) :
  Inv X pins σ (upd H p (.lst ys)) {s with heap:=s.heap.update p f,toks:=t}:=by
 have e:(s.heap.update p f).get? p=some {cls:=.type "list",data:=.seq its'.toArray n'}:=by
  rw[VU f ho (by rw[hf]<;>rfl),hf]
 refine I.write (x:=p) (e:=p) (by rw[h];trivial) (.inl rfl) (λb u hb q=>(qF _ _ (Wo hb)).trans q) ⟨_,e⟩ ?_;exact⟨hz,its',n',r,e⟩
def Sz:V->V->V->Hp->(Hp->Prop)->Prop:=λo i v H Q=>∃p xs k j,o=.ref p/\i=.int k/\H p=some (.lst xs)/\gM xs.length k=some j/\Q (upd H p (.lst (xs.set j v)))
theorem oz:Sk X Sz:=by
 intro pins s σ H o i v ov iv u Q I ro ri rv h;obtain⟨p,xs,k,j,rfl,rfl,hp,hj,q⟩:=h;cases ro;obtain⟨t,rfl⟩:=ri;obtain⟨its,n,r,ho,hz⟩:=I.lst hp;obtain⟨h1,h2,h3,h4⟩:=Pp hj;have hl:=r.length;have hn:=ng
 have I':Inv X pins σ (upd H p (.lst (xs.set j v))) {s with heap:=s.heap.update p (Qq (·.setIfInBounds j u))} :=
  I.TL hp ho (ztF its n j u) (r.set rv j) (by rw[Vb];exact hz) s.toks
 by_cases h0:0<=k
 ·have hk:k.toNat=j:=by
   rw[seqIndex_of h0 h4]at h1;exact wX h1
  exact PySem.W.ki_setAt ho h0 (by lia) (by rw[wH,<- hl];exact h4) (by rw[hk];exact⟨_,I',q⟩)
 ·have hk:(k+(its.toArray.size:Int)).toNat=j:=by
   rw[seqIndex_neg (by lia) h3]at h1;rw[wH,<- hl];exact wX h1
  exact PySem.W.ki_setBack ho (by lia) (by rw[wH,<- hl];exact h3) (by lia) (by rw[hk];exact⟨_,I',q⟩)
theorem Zv(lo hi:Option Int)(n:Nat):(V8 lo hi none n).1=((HT.aX n 0 lo:Nat):Int)/\(V8 lo hi none n).2.1=((HT.aX n n hi:Nat):Int)/\(V8 lo hi none n).2.2=1:=by
 refine⟨?_,?_,rfl⟩
 ·cases lo with
  | none=>simp[V8,HT.aX]
  | some i =>
   simp only[V8,HT.aX,Xh,show(1:Int) > 0 by decide,if_true]
   by_cases h:i<0
   ·simp only[h,if_true]<;>lia
   ·simp only[h,if_false]<;>lia
 ·cases hi with
  | none=>simp[V8,HT.aX]
  | some i =>
   simp only[V8,HT.aX,Xh,show(1:Int) > 0 by decide,if_true]
   by_cases h:i<0
   ·simp only[h,if_true]<;>lia
   ·simp only[h,if_false]<;>lia
theorem zow(its:List wf)(lo hi:Option Int):slicePick its.toArray lo hi none=((its.drop (HT.aX its.length 0 lo)).take (HT.aX its.length its.length hi-HT.aX its.length 0 lo)).toArray:=by
 obtain⟨h1,h2,h3⟩:=Zv lo hi its.toArray.size;unfold slicePick;rw[h1,h2,h3];simp only[sliceRange_one,pick_run,wH]<;>rfl
def RS(K:wa):V->Option Int->Option Int->Hp->VK->Prop:=λx lo hi H Q=>∃a xs,x=.ref a/\aR K H a xs /\ ∀p,H p=none->Q (.ref p) (upd H p (.lst (jS xs lo hi)))
theorem UH:jY X (RS X.K):=by
 intro pins s σ H x v vl vu lo hi sl Q I rx hs pl pu h;obtain⟨a,xs,rfl,hx,q⟩:=h;cases rx;obtain⟨its,r,ht,hz⟩:=I.list hx;have hlen:=r.length;refine⟨"list",_,slot_list_getitem.lookup,ht.isList.typeIs,?_⟩;refine wpAny_getItem_list_slice ht.isList hs pl pu .none (by simp) ?_ (by rw[wH]<;>lia);rw[zow,<- hlen];refine⟨.ref s.heap.objs.size,_,I.laid (t':=s.toks) (o:=.lst (jS xs lo hi)) (λb ob q=>wn _ q) (wo _) ?_,rfl,q _ (I.aJ.fresh (wo _))⟩;exact⟨Wb (OD xs lo hi) hz,_,0,(r.drop (HT.aX xs.length 0 lo)).take (HT.aX xs.length xs.length hi-HT.aX xs.length 0 lo),wM _ rfl⟩
def jC:V->Bool
 | .bj=>true
 | .bl _=>true
 | .int _=>true
 | .str _=>true
 | _=>false
def kM:V->V->Bool
 | .bj,.bj=>true
 | .bl a,.bl b=>a == b
 | .bl a,.int b=>(if a then 1 else 0) == b
 | .int a,.bl b=>a == (if b then 1 else 0)
 | .int a,.int b=>a == b
 | .str a,.str b=>a == b
 | _,_=>false
theorem zB2{A:ve}{s:wl}{y x:V}{u v:wf}(ry:a_ y u)(rx:a_ x v)(fy:jC y=true)(fx:jC x=true):SeqAt.EqAt A s u v (kM y x):=by
 cases y with
 | bj =>
  cases ry;cases x with
  | bj=>cases rx;exact SeqAt.EqAt.same _
  | bl b=>cases rx;exact SeqAt.EqAt.none_bool b
  | int b=>obtain⟨t,rfl⟩:=rx;exact SeqAt.EqAt.none_int b t
  | str b=>obtain⟨t,rfl⟩:=rx;exact SeqAt.EqAt.none_str b t
  | _=>exact absurd (show false=true from fx) vn
 | bl a =>
  cases ry;cases x with
  | bj=>cases rx;exact SeqAt.EqAt.bool_none a
  | bl b=>cases rx;exact SeqAt.EqAt.bool_bool a b
  | int b=>obtain⟨t,rfl⟩:=rx;exact SeqAt.EqAt.bool_int a b t
  | str b=>obtain⟨t,rfl⟩:=rx;exact SeqAt.EqAt.bool_str a b t
  | _=>exact absurd (show false=true from fx) vn
 | int a =>
  obtain⟨t',rfl⟩:=ry;cases x with
  | bj=>cases rx;exact SeqAt.EqAt.int_none a t'
  | bl b=>cases rx;exact SeqAt.EqAt.int_bool a t' b
  | int b=>obtain⟨t,rfl⟩:=rx;exact SeqAt.EqAt.int_int a t' b t
  | str b=>obtain⟨t,rfl⟩:=rx;exact xx a t' b t
  | _=>exact absurd (show false=true from fx) vn
 | str a =>
  obtain⟨t',rfl⟩:=ry;cases x with
  | bj=>cases rx;exact SeqAt.EqAt.str_none a t'
  | bl b=>cases rx;exact SeqAt.EqAt.str_bool a t' b
  | int b=>obtain⟨t,rfl⟩:=rx;exact xy a t' b t
  | str b=>obtain⟨t,rfl⟩:=rx;exact SeqAt.EqAt.str_str a t' b t
  | _=>exact absurd (show false=true from fx) vn
 | _=>exact absurd (show false=true from fy) vn
def fZ(x:V)(u:wf):Bool:=match u with
 | .none=>kM .bj x
 | .bool b=>kM (.bl b) x
 | .int i _=>kM (.int i) x
 | .str z _=>kM (.str z) x
 | _=>false
theorem OR{x y:V}{u:wf}(r:a_ y u)(f:jC y=true):fZ x u=kM y x:=by
 cases y with
 | bj=>cases r;rfl
 | bl b=>cases r;rfl
 | int i=>obtain⟨t,rfl⟩:=r;rfl
 | str z=>obtain⟨t,rfl⟩:=r;rfl
 | _=>exact absurd (show false=true from f) vn
theorem oK{x:V} : ∀{xs:List V}{us:List wf},aT xs us->xs.all jC=true->us.any (fZ x)=xs.any λy=>kM y x
 | _,_,.nil,_=>rfl
 | y::xs,u::us,.cons r t,f=>by
  rw[xk,wW]at f;rw[qH,qH,OR r f.1,oK t f.2]
theorem oF{A:ve}{s:wl}{x:V}{v:wf}(rx:a_ x v)(fx:jC x=true):∀{xs:List V}{us:List wf},aT xs us->xs.all jC=true->∀u∈us,SeqAt.EqAt A s u v (fZ x u)
 | _,_,.nil,_=>λu hu=>by cases hu
 | y::xs,u::us,.cons r t,f=>λu' hu=>by
  rw[xk,wW]at f;rcases wG.mp hu with rfl | hu
  ·rw[OR r f.1];exact zB2 r rx f.1 fx
  ·exact oF rx fx t f.2 u' hu
def t9(x:V)(xs:List V):Bool:=xs.any λy=>kM y x
def kB(K:wa)(neg:Bool):R2:=λx y H Q=>∃p xs,y=.ref p/\(aR K H p xs\/aV K H p xs)/\jC x=true/\xs.all jC=true/\Q (.bl (if neg then !t9 x xs else t9 x xs)) H
theorem zwI:aK X (wJ .In) (kB X.K false):=by
 intro pins s σ H x y v u Q I rx ry h;obtain⟨p,xs,rfl,hq,fx,fs,q⟩:=h;cases ry;rcases hq with hq | hq
 ·obtain⟨its,r,pl,hz⟩:=I.list hq
  refine SeqAt.in_listAt (fZ x) pl.isList (λw hw=>oF rx fx r fs w (by simpa using hw)) ⟨.bl _,H,I,rfl,?_⟩;rw[show its.toArray.any (fZ x)=its.any (fZ x) by simp,oK r fs];exact q
 ·obtain⟨its,r,pl,hz⟩:=I.tuple hq
  refine SeqAt.in_tupleAt (fZ x) pl (λw hw=>oF rx fx r fs w (by simpa using hw)) ⟨.bl _,H,I,rfl,?_⟩;rw[show its.toArray.any (fZ x)=its.any (fZ x) by simp,oK r fs];exact q
theorem ZO:aK X (wJ .NotIn) (kB X.K true):=by
 intro pins s σ H x y v u Q I rx ry h;obtain⟨p,xs,rfl,hq,fx,fs,q⟩:=h;cases ry;rcases hq with hq | hq
 ·obtain⟨its,r,pl,hz⟩:=I.list hq
  refine SeqAt.notIn_listAt (fZ x) pl.isList (λw hw=>oF rx fx r fs w (by simpa using hw)) ⟨.bl _,H,I,rfl,?_⟩;rw[show its.toArray.any (fZ x)=its.any (fZ x) by simp,oK r fs];exact q
 ·obtain⟨its,r,pl,hz⟩:=I.tuple hq
  refine SeqAt.notIn_tupleAt (fZ x) pl (λw hw=>oF rx fx r fs w (by simpa using hw)) ⟨.bl _,H,I,rfl,?_⟩;rw[show its.toArray.any (fZ x)=its.any (fZ x) by simp,oK r fs];exact q
theorem Zp:aP X (.builtin "len") (λxs H Q=>∃p ys,xs=[.ref p]/\(aR X.K H p ys\/aV X.K H p ys)/\Q (.int ys.length) H):=by
 intro pins s σ H xs us Q I r h;obtain⟨p,ys,rfl,hq,q⟩:=h;obtain⟨u,rfl,rx⟩:=ib r;cases rx;have hn:=ng;rcases hq with hq | hq
 ·obtain⟨its,r',pl,hz⟩:=I.list hq
  have hlen:=r'.length;exact Calls.call_len_list pl.isList (by simp only[wH]<;>lia) ⟨.int ys.length,H,I.tok _,⟨s.toks+1,by rw[wH,hlen]⟩,q⟩
 ·obtain⟨its,r',pl,hz⟩:=I.tuple hq
  have hlen:=r'.length;exact len_tuple pl (by simp only[wH]<;>lia) ⟨.int ys.length,H,I.tok _,⟨s.toks+1,by rw[wH,hlen]⟩,q⟩
theorem zra:aP X (.type "list") (λxs H Q=>∃p ys,xs=[.ref p]/\(aR X.K H p ys\/aV X.K H p ys) /\ ∀l,H l=none->Q (.ref l) (upd H l (.lst ys))):=by
 intro pins s σ H xs us Q I r h;obtain⟨p,ys,rfl,hq,q⟩:=h;obtain⟨u,rfl,rx⟩:=ib r;cases rx
 have fin:∀(its:List wf),aT ys its->ys.length<=w5->∀(h':wI)(c':Nat),(∀b o',s.heap.get? b=some o'->h'.get? b=some o') ->
     h'.get? s.heap.objs.size=some {cls:=.type "list",dict:=none,data:=.seq its.toArray c',slots:=#[]}->EP X pins σ Q (.ref s.heap.objs.size) {s with heap:=h'}:=λits r' hz h' c' kp e =>
   ⟨.ref s.heap.objs.size,_,I.laid (t':=s.toks) kp (wo _) (show dM X.prog X.w _ h' _ (.lst ys)from⟨hz,its,c',r',e⟩),rfl,q _ (I.aJ.fresh (wo _))⟩
 rcases hq with hq | hq
 . obtain⟨its,r',pl,hz⟩:=I.list hq
   have hlen:=r'.length;obtain⟨o,ho,hc,n,hd⟩:=pl.isList;exact call_list_seq p (.inl rfl) ho hc hd (λh' c' kp e=>fin its r' hz h' c' kp e) (by simp only[wH]<;>lia)
 . obtain⟨its,r',pl,hz⟩:=I.tuple hq
   have hlen:=r'.length;obtain⟨o,ho,hc,n,hd⟩:=pl;exact call_list_seq p (.inr rfl) ho hc hd (λh' c' kp e=>fin its r' hz h' c' kp e) (by simp only[wH]<;>lia)
theorem zoF:aP X (.type "tuple") (λxs H Q=>∃p ys,xs=[.ref p]/\((aR X.K H p ys /\ ∀l,H l=none->Q (.ref l) (upd H l (.tup ys)))\/(aV X.K H p ys/\Q (.ref p) H))):=by
 intro pins s σ H xs us Q I r h;obtain⟨p,ys,rfl,h⟩:=h;obtain⟨u,rfl,rx⟩:=ib r;cases rx;rcases h with⟨hq,q⟩ | ⟨hq,q⟩
 ·obtain⟨its,r',pl,hz⟩:=I.list hq
  have hlen:=r'.length;refine call_tuple_list pl.isList (λh' kp=>?_) (by simp only[wH]<;>lia);have I1:Inv X pins σ H {s with heap:=h'}:=I.kept (t':=s.toks) kp
  have I2:Inv X pins σ (upd H h'.objs.size (.tup ys)) {s with heap:=h'.push {cls:=.type "tuple",data:=.seq its.toArray}} :=
   I1.laid (t':=s.toks) (λb o e=>wn _ e) (wo _) (show dM X.prog X.w _ _ _ (.tup ys)from⟨hz,its,r',qJ _ _⟩)
  exact⟨.ref h'.objs.size,_,I2,rfl,q _ (I1.aJ.fresh (wo _))⟩
 ·obtain⟨its,r',pl,hz⟩:=I.tuple hq
  exact call_tuple_same pl ⟨.ref p,H,I,rfl,q⟩
def yU(K:wa)(T:String)(x:V)(H:Hp):Prop:=match x with
 | .str _=>T="str"
 | .int _=>T="int"
 | .ref p=>(T="list" /\ ∃xs,aR K H p xs)\/(T="tuple" /\ ∃o,K.lookup p=some o/\o.cls=.type "tuple"/\o.dict=none) \/
     (T="dict"/\((∃kvs,H p=some (.dK kvs)) \/ ∃kvs,H p=some (.dT kvs)))\/(T="set" /\ ∃S n,H p=some (.set S n))
 | _=>False
theorem zBL{pins:List (we × Obj)}{σ : St}{H:Hp}{s:wl}{T:String}{x:V}{v:wf}(I:Inv X pins σ H s)(r:a_ x v)(ty:yU X.K T x H) :
  s.TypeIs v T /\ ∀a,v=.ref a->∃ob,s.heap.get? a=some ob/\ob.dict=none:=by
 cases x with
 | str z =>
  obtain⟨t,rfl⟩:=r;cases (show T="str" from ty);exact⟨typeIs_str s z t,λ_ e=>nomatch e⟩
 | int i =>
  obtain⟨t,rfl⟩:=r;cases (show T="int" from ty);exact⟨typeIs_int s i t,λ_ e=>nomatch e⟩
 | ref p =>
  cases r;rcases ty with⟨rfl,xs,hq⟩ | ⟨rfl,o,hk,hc,hd⟩ | ⟨rfl,hk⟩ | ⟨rfl,S,n,hk⟩
  ·obtain⟨its,_,pl,_⟩:=I.list hq
   refine⟨pl.isList.typeIs,λa e=>?_⟩;cases e;obtain⟨o,n,e,c,hd,_⟩:=pl;exact⟨o,e,hd⟩
  ·refine⟨⟨o,I.dF p o hk,hc⟩,λa e=>?_⟩
   cases e;exact⟨o,I.dF _ o hk,hd⟩
  ·have z:∃o,s.heap.get? p=some o/\o.ExactDict:=by
    rcases hk with⟨kvs,hk⟩ | ⟨kvs,hk⟩
    ·obtain⟨_,_,_,_,o,_,_,e,ex,_⟩:=I.aJ p _ hk
     exact⟨o,e,ex⟩
    ·obtain⟨_,_,_,_,o,_,_,e,ex,_⟩:=I.aJ p _ hk
     exact⟨o,e,ex⟩
   obtain⟨o,e,ex⟩:=z;refine⟨⟨o,e,ex.1⟩,λa e2=>?_⟩;cases e2;exact⟨o,e,ex.2.1⟩
  ·obtain⟨o,_,_,_,e,ex,_⟩:=I.aJ p _ hk
   refine⟨⟨o,e,ex.1⟩,λa e2=>?_⟩;cases e2;exact⟨o,e,ex.2.1⟩
 | _=>exact WC ty
def RC(K:wa)(T:String)(r:V->List V->Hp->VK->Prop)(to:TE)(t:TA):TE:=λσ H Q=>to σ H λx H1=>yU K T x H1/\t σ H1 λxs H2=>r x xs H2 Q
variable{o e:Expr}{es:List Expr}{to:TE}{t:TA}{name:Str}{apos cpos:Pos}{T id:String}{r:V->List V->Hp->VK->Prop}
theorem mV(pa:PlainAttrs T)(slot:Slot T name id)(hty:typeOf (.builtin id)=pure (.type "method_descriptor"))(hm:NY X id r)(ho:PE X o to)(ha:PA X (e::es) t)
  (hbase:attributeBase o name X.env (eval o X.env)=eval o X.env:=by rfl)
  (hfew:((W0 cpos (wT (e::es) X.env)).all (λx=>!x.1)&&(backToKw cpos (keywordEach [] X.env)).all (λx=>x.1.isSome)
   && decide ((e::es).length+([]:List Keyword).length+(if([]:List Keyword).isEmpty then 0 else 1)<30))=true:=by rfl)
  (hline:(apos.endLine == cpos.line)=true:=by rfl) (hs:wT (e::es) X.env=(false,eval e X.env)::wT es X.env:=by rfl) (hplain:(W0 cpos (wT es X.env)).any (·.1)=false:=by rfl) :
  PE X (.Call (.Attribute o name apos) (e::es) [] cpos) (RC X.K T r to t):=by
 intro pins s σ H Q I h;refine wpAny_Call_method_late hbase hfew hline rfl (aI (ho pins s σ H _ I h) λv s1 ⟨x,H1,I1,r1,ty,q1⟩=>?_);obtain⟨h1,h2⟩:=zBL I1 r1 ty;refine⟨T,id,pa,slot,hty,h1,h2,?_⟩;have hA:=ha cpos pins s1 σ H1 _ I1 q1;rw[hs]at hA ⊢;refine Calls.callWith_builtin (by show(false || (W0 cpos (wT es X.env)).any (·.1))=false;rw[hplain]<;>rfl) (xc ?_);exact aI hA λus s2 ⟨vs,H2,I2,r2,q2⟩=>hm pins s2 σ H2 x vs v us Q I2 r1 r2 q2
/- xs.append(e),list.index on a module's tuple .. are NY facts of 06m -/
end
def MtM(X:Cx)(id:String)(r:V->List V->Hp->VK->Prop):Prop :=
 ∀(pins:List (we × Obj))(s:wl)(σ : St)(H:Hp)(x:V)(xs:List V)(v:wf)(us:List wf)(Q:VK),Inv X pins σ H s->a_ x v->aT xs us->r x xs H Q ->
  wr (model X.prog X.w) X.A (call (.builtin id) (v::us)) (EP X pins σ Q) X.xe s
theorem aT.one:∀{x:V}{us:List wf},aT [x] us->∃u,us=[u]/\a_ x u
 | _,_,.cons r .nil=>⟨_,rfl,r⟩
theorem aT.rep{xs:List V}{us:List wf}(h:aT xs us):∀k:Nat,aT (w6 k xs).flatten (w6 k us).flatten
 | 0=>.nil
 | k+1=>by
  rw[VE,VE,Vk,Vk];exact aT.append h (aT.rep h k)
theorem P_(its:List wf):∀(k:Nat)(acc:List wf),
  Xx (λx1 x2=>x1++x2) acc.toArray (w6 k its.toArray)=(acc++(w6 k its).flatten).toArray
 | 0,acc=>by simp
 | k+1,acc=>by
  have e:acc.toArray++its.toArray=(acc++its).toArray:=by simp
  have e2:(acc++its)++(w6 k its).flatten=acc++(w6 (k+1) its).flatten:=by
   rw[VE,Vk,VR]
  rw[<- e2,<- P_ its k (acc++its),<- e,VE,List.foldl_cons]
section
variable{X:Cx}{pins:List (we × Obj)}{σ : St}{H:Hp}{s:wl}{l b:we}{xs ys zs:List V}
theorem Inv.Ug{its its':List wf}{n:Nat}{f:Array wf->Array wf}{t':Nat}(I:Inv X pins σ H s)(hH:H l=some (.lst xs))
  (e:s.heap.get? l=some {cls:=.type "list",data:=.seq its.toArray n}) (hf:f its.toArray=its'.toArray) (hv:aT ys its') (hz:ys.length<=w5) :
  Inv X pins σ (upd H l (.lst ys)) {s with heap:=s.heap.update l (Qq f),toks:=t'}:=by
 have q:=PySem.IsL.update e f;rw[hf]at q;refine I.write (x:=l) (e:=l) (by rw[hH];exact trivial) (.inl rfl) (λb' u hb hu=>(qF s.heap (Qq f) (Wo hb)).trans hu) ⟨_,q⟩ ?_;exact⟨hz,its',_,hv,q⟩
theorem Inv.Aw{its:List wf}{t':Nat}(I:Inv X pins σ H s)(hv:aT ys its)(hz:ys.length<=w5) :
  Inv X pins σ (upd H s.heap.objs.size (.lst ys)) {s with heap:=s.heap.push {cls:=.type "list",data:=.seq its.toArray},toks:=t'} :=
 I.laid (λ_ _ q=>wn _ q) (wo _) ⟨hz,its,0,hv,wM _ rfl⟩
theorem Inv.fresh(I:Inv X pins σ H s):H s.heap.objs.size=none:=I.aJ.fresh (wo _)
theorem Inv.rD(I:Inv X pins σ H s)(hH:H l=some (.lst xs)):xs.length<=w5 /\ ∃(its:List wf)(n:Nat),aT xs its/\xs.length=its.length/\s.heap.get? l=some {cls:=.type "list",data:=.seq its.toArray n}:=by
 obtain⟨z,its,n,r,e⟩:=I.aJ l _ hH;exact⟨z,its,n,r,r.length,e⟩
theorem zyh{n:Nat}(h:n<=w5):qh n=false:=by
 unfold qh;exact decide_eq_false (by lia)
end
section
variable{X:Cx}
def Kx:V->List V->Hp->VK->Prop:=λx vs H Q=>∃l xs y,x=.ref l/\vs=[y]/\H l=some (.lst xs)/\xs.length<w5/\Q .bj (upd H l (.lst (xs++[y])))
theorem kY:MtM X "list.append" Kx:=by
 intro pins s σ H x vs v us Q I rx rv h;obtain⟨l,xs,y,rfl,rfl,hH,hz,q⟩:=h;cases rx;obtain⟨u,rfl,ru⟩:=rv.one;obtain⟨z,its,n,r,hl,e⟩:=I.rD hH;refine call_meets F.slot_list_append ⟨_,e,rfl⟩ F.entry_list_append (F.args_list_append_2 _ _) (PySem.list_append l its.toArray n u (by rw[wH];lia)) ⟨e,?_⟩;refine⟨.bj,_,I.Ug (its':=its++[u]) hH e (by simp) (r.append (.cons ru .nil)) ?_,rfl,q⟩;rw[wR,vS]
 lia
def Fb:R2:=λx y H Q=>∃l b xs zs,x=.ref l/\y=.ref b/\H l=some (.lst xs)/\H b=some (.lst zs)/\xs.length+zs.length<=w5 /\ ∀p,H p=none->Q (.ref p) (upd H p (.lst (xs++zs)))
theorem Z6:aK X (Wn .Add) Fb:=by
 intro pins s σ H x y v u Q I rx ry h;obtain⟨l,b,xs,zs,rfl,rfl,hH,hB,hz,q⟩:=h;cases rx;cases ry;obtain⟨z,its,n,r,hl,e⟩:=I.rD hH;obtain⟨z2,its2,n2,r2,hl2,e2⟩:=I.rD hB;refine PySem.P.add_list e e2 ?_ (by rw[wH,wH];lia);have ea:its.toArray++its2.toArray=(its++its2).toArray:=by simp
 rw[ea];exact⟨.ref _,_,I.Aw (t':=s.toks) (r.append r2) (by rw[wR];lia),rfl,q _ I.fresh⟩
def pY:R2:=λx y H Q=>∃l k xs,x=.ref l/\y=.int k/\H l=some (.lst xs) /\ -(2^63)<=k/\k<2^63/\xs.length*k.toNat<=w5 /\
 ∀p,H p=none->Q (.ref p) (upd H p (.lst (w6 k.toNat xs).flatten))
theorem zAK{α : Type}(xs:List α)(k:Nat):(w6 k xs).flatten.length=k*xs.length:=by
 induction k with
 | zero=>simp
 | succ k ih=>rw[VE,Vk,wR,ih,qi,Nat.add_comm]
theorem Rf:aK X (Wn .Mult) pY:=by
 intro pins s σ H x y v u Q I rx ry h;obtain⟨l,k,xs,rfl,rfl,hH,h1,h2,hz,q⟩:=h;cases rx;obtain⟨t,rfl⟩:=ry;obtain⟨z,its,n,r,hl,e⟩:=I.rD hH;have hlen:its.toArray.size*k.toNat<=w5:=by rw[wH,<- hl];exact hz
 have hcap:¬ its.toArray.size*k.toNat > (2^63-1) / 8:=by
  have:(w5:Nat)<=(2^63-1) / 8:=by decide
  lia
 have hfit:¬ (!Builtin.List.listFitsIndex k)=true:=by
  rw[fitsIndex_both h1 h2];exact vn
 have hlong:¬ qh (its.toArray.size*k.toNat)=true:=by
  rw[zyh hlen];exact vn
 have hnew:Xx (λx1 x2=>x1++x2) #[] (w6 (if its.toArray.isEmpty=true then 0 else k.toNat) its.toArray)=(w6 k.toNat its).flatten.toArray:=by
  have f0:∀m:Nat,Xx (λx1 x2=>x1++x2) #[] (w6 m its.toArray)=(w6 m its).flatten.toArray:=λm=>by
   have:=P_ its m [];rw[qL]at this;exact this
  rw[f0];cases its with
  | nil=>simp
  | cons a r'=>rw[if_neg (by simp)]
 refine wpAny_binaryOp_repeat_ref (T:="list") (U:="int") (by decide) ⟨_,e,rfl⟩ (λs'=>typeIs_int s' k t) noFill_list_mul F.fills_int_mul Xy repeat_list F.slot_int_index.lookup
  (call_meets Xy (typeIs_int s k t) F.entry_int_rmul (F.args_int_rmul_2 _ _) (int___rmul___int_list k t l its.toArray n)
   ⟨e,rfl,⟨_,e,rfl⟩,call_meets F.slot_list_mul ⟨_,e,rfl⟩ F.entry_list_mul (F.args_list_mul_2 _ _) (AutoListH.list___mul___list_int_3 l its.toArray n k t hfit hcap hlong) ⟨e,?_⟩⟩)
 rw[hnew];exact⟨.ref _,_,I.Aw (t':=s.toks) (r.rep k.toNat) (by rw[zAK,Nat.mul_comm];exact hz),rfl,q _ I.fresh⟩
end
section
variable{prog:wL}{w:wN}{A:ve}{E:wf->wl->Prop}{s:wl}
end
section
variable{X:Cx}
end
end L2
namespace Att
open PySem PySem.W PySem.Calls PyProof.Rows
theorem zml{P:Params}{h:wI} : ∀(ns:List Int)(vs:List wf),WellAll P h vs (ns.map WData.int)->IntsAre vs ns:=by
 intro ns
 induction ns with
 | nil =>
  intro vs w;rw[Qu]at w;cases w;exact .nil
 | cons n ns ih =>
  intro vs w;rw[w8]at w;cases w with
  | cons a b =>
   cases a;exact .cons _ _ (ih _ b)
theorem zvX{l:OpenLaw}{n:Nat}(hn:l.most=some n){P:Params}{h:wI}{args:List WData}{vals:List wf}
  (hpre:l.row.toRowW.claim.pre args=true) (hwl:WellAll P h vals args) :
  ∃a vs ns,vals=[Value.ref a]/\args=[WData.list (ns.map WData.int)]/\h.get? a=some {cls:=.type "list",data:=.seq vs.toArray}/\IntsAre vs ns/\ns.length<=n:=by
 have hsh:WShape.hasAll [] args [.list .int]=true:=(pre_splitW hpre).1;have hc:l.pre.holds [] {args:=args}=true:=(pre_splitW hpre).2;obtain⟨d,r,rfl,h1,h2⟩:=hasAllW_cons hsh;obtain rfl:=hasAllW_nil h2;obtain⟨xs,rfl,h3⟩:=hasW_list h1;obtain⟨ns,rfl⟩:=items_int h3
 have hlen:ns.length<=n:=by
  unfold OpenLaw.pre at hc
  have h4:(WTm.not (.lt (.lit (.int (n:Int))) (.len (.arg 0)))).holds [] {args:=[.list (ns.map .int)]}=true:=by
   have h4:=(holds_andW hc).1;rw[hn]at h4;exact h4
  have h5:=condW_of h4 (w_not (w_lt w_lit (w_len_list (w_arg rfl))));rw[wm]at h5;refine Nat.le_of_not_lt λq=>?_
  have q':(n:Int)<((ns.length:Nat):Int):=by lia
  first
   | (rw[decide_eq_true q']at h5;exact absurd h5 (by decide))
   | (simp at h5;lia)
 cases hwl with
 | cons w1 w2 =>
  cases w2;cases w1 with
  | list ho hall=>exact⟨_,_,ns,rfl,rfl,ho,zml ns _ hall,hlen⟩
theorem U1(l:OpenLaw)(args:List WData):l.row.toRowW.claim.post args (.bool true) args=true :=
 postW_of (r:=l.row.toRowW) (X:=(true == true))
  (show WShape.has [] (.bool true) .bool=true by first | rfl | decide | simp[WShape.has,WShape.arms,WShape.armsAll])
  (show(WTm.eq .res (.lit (.bool true))).value [] {args:=args,res:=some (.bool true),after:=args}=some (.bool (true == true))from w_eq_bool (w_res rfl) w_lit) rfl
theorem Tr{l:OpenLaw}{n:Nat}{q:wL}{loose:List Str}{XP:(Str->Option wf)->wI->Prop}{YP:wN->wI->Prop}{d:DefRec}
  (hn:l.most=some n) (hdf:d.params.defaults=[])
  (call:∀(w:wN)(s₀ s₁ : wl)(mg mb:Str->Option wf)(fa:we)(o:Obj)(pm cd doc:wf)(a:we)(vs:List wf)(ns:List Int),
   Ground q loose [] XP w s₀ mg mb s₁.heap->YP w s₁.heap ->
   s₁.heap.get? fa=some o->o.data=.func (docDef d.name d.params d.body d.scope pm cd doc)->s₁.heap.CodeRec cd d.name->mg d.name=some (.ref fa) ->
   s₁.heap.get? a=some {cls:=.type "list",data:=.seq vs.toArray}->IntsAre vs ns->ns.length<=n->s₁.gens = #[] ->
   codeAny (model l.prog w) callerA (.call (.ref fa) ⟨[.ref a],[]⟩) (λr s'=>r=.ok (.ret (.bool true))/\OldK s₁.heap s'.heap/\s'.os=s₁.os/\AllBare s'.gens) s₁) :
  WalkO q loose XP YP l.row.toRowW d [] (λf vs=>Xz f vs):=by
 intro w s₀ s₁ mg mb G Y fa o pm cd doc dV kV ho hd hcd hD hmg hg args vals as hpre hlay hrd hwl hlo;obtain rfl:dV=.none:=Dflts.none hD hdf;obtain rfl:kV=.none:=Dflts.noKw hD;obtain⟨a,vs,ns,rfl,rfl,hobj,hints,hlen⟩:=zvX hn hpre hwl;refine enter_call (codeAny_mono (call w s₀ s₁ mg mb fa o pm cd doc a vs ns G Y ho (fd_plain hd) hcd hmg hobj hints hlen hg) λr s' hq=>?_);obtain⟨rfl,h2,h3,h4⟩:=hq;exact⟨.inl ⟨.bool true,.bool true,[],rfl,λ_=>rfl,.bool true,U1 l _,λ_=>⟨xl.nil,λ_ hm=>(nomatch hm)⟩⟩,h2,h3,h4⟩
section
variable{prog:wL}{w:wN}{A:ve}{E:wf->wl->Prop}{s:wl}{K:Frag}
def zDO(h:wI)(L d:we):List (we × Obj):=(wq h.objs.size).filterMap λa=>if a=L\/a=d then none else(h.get? a).map λo=>(a,o)
end
end Att
namespace L2
open PySem PySem.Spec PyProof.Rows
theorem SI:∀{vs:List wf}{ns:List Int},IntsAre vs ns->aT (ns.map V.int) vs
 | _,_,.nil=>.nil
 | _,_,.cons n t h=>.cons ⟨t,rfl⟩ (SI h)
def zW(H:Hp):Prop:=∀b,H b=none \/ ∃o xs,H b=some (.gq o (.lst xs))
theorem zw0{P:wL}{w:wN}{K:wa}{mg mb:Str->Option wf}{CX:gb}{k:Nat}{fa a:we}{fd:wz}{x:Str}{sp:Sp}{s₁ : wl}{vs:List wf}{ns:List Int}
   (KX:K.In s₁.heap) (hns:s₁.heap.Ns wK mg) (hb:s₁.heap.Ns builtinsNs mb) (hbb:∀x:Str,x≠"__name__" -> mb x=vH x) (hlim:s₁.heap.NoLimit) (hg:s₁.gens = #[])
   (ha:s₁.heap.get? a=some {cls:=.type "list",data:=.seq vs.toArray}) (hi:IntsAre vs ns) (hl:ns.length<=w5) (hr:d4 k callerA)
   (F:∀base:wI,K.In base->base.Ns wK mg->aH P w K mg base CX k fa fd [x] sp) (hbind:∀(s:wl)(u:wf),BindsTo s fd ⟨[u],[]⟩ [(x,u)])
   (hsp:∀H:Hp,zW H->aR K H a (ns.map V.int)->sp [.ref a] H (λv _=>v=.bl true) λ_ _ _=>False)
   (hCX:∀H e s',CX [] H s₁ (λ_ _ _=>False) e s'->False) :
   codeAny (model P w) callerA (.call (.ref fa) ⟨[.ref a],[]⟩) (λr s'=>r=.ok (.ret (.bool true))/\OldK s₁.heap s'.heap/\s'.os=s₁.os/\AllBare s'.gens) s₁:=by
 have rv:=SI hi;have lenV:=hi.length
 -- from an abstract heap in which nothing but the script may be tracked
 have core:∀H:Hp,zW H->aR K H a (ns.map V.int)->dj P w H s₁.heap->(∀b,H b≠none->b=a)->(H a≠none->K.lookup a=none) ->
     codeAny (model P w) callerA (.call (.ref fa) ⟨[.ref a],[]⟩) (λr s'=>r=.ok (.ret (.bool true))/\OldK s₁.heap s'.heap/\s'.os=s₁.os/\AllBare s'.gens) s₁:=by
   intro H hO hS aJ hA hK;have base_of:∀{b:we}{o:Obj},s₁.heap.get? b=some o->H b=none->(j4 s₁.heap H).get? b=some o:=λe n=>zxI e n
   have noA:∀{b:we}{o:Obj}{es:Array DictEntry}{ep:Nat},s₁.heap.get? b=some o->o.data=.dict es ep->H b=none:=λ{b o es ep} e d=>by
     cases q:H b with
     | none=>rfl
     | some u =>
       have e':b=a:=hA b (by rw[q];simp);subst e';rw[ha]at e;cases e;have d':Data.seq vs.toArray _=Data.dict es ep:=d;cases d'
   have nsK:∀{b:we}{m:Str->Option wf},s₁.heap.Ns b m->(j4 s₁.heap H).Ns b m:=λ{b m} ⟨o,es,ep,e,d,r⟩=>⟨o,es,ep,base_of e (noA e d),d,r⟩
   have hKb:K.In (j4 s₁.heap H):=λb o e=>base_of (KX b o e) (by
     cases q:H b with
     | none=>rfl
     | some u =>
       have e':b=a:=hA b (by rw[q];simp);subst e';rw[hK (by rw[q];simp)]at e;cases e)
   have hM:Mod K mg (j4 s₁.heap H):=⟨hKb,nsK hns,⟨mb,nsK hb,hbb⟩,let ⟨mc,h1,h2⟩:=hlim;⟨mc,nsK h1,h2⟩⟩;have e0:rF P w K mg (j4 s₁.heap H) callerA [] s₁ H:=⟨rfl,hM,λb o e=>zzJ e,xC (zv6 _ _),trivial,λb hb=>absurd (show b∈([]:List we)from hb) (by simp),aJ,.of_eq hg⟩;refine codeAny_mono ((F _ hKb (nsK hns)).run callerA [] s₁ H ⟨[.ref a],[]⟩ [.ref a] [.ref a] _ _ hr e0 (hbind s₁ (.ref a)) (.cons rfl .nil) (hsp H hO hS)) λr s' h=>?_
   cases r with
   | error e=>exact(hCX H e s' h).elim
   | ok fl =>
     cases fl with
     | next=>exact WC h
     | brk=>exact WC h
     | cont=>exact WC h
     | ret u =>
       obtain⟨v,H',os,bare,un,hok',r',q⟩:=h;have q':v=.bl true:=q;subst q';obtain rfl:u=Value.bool true:=r';refine⟨rfl,OldK.of_keep λb o e=>?_,os,bare⟩;cases q:H b with
       | none=>exact un.keep b o e q (by intro z;exact absurd (show b∈([]:List we)from z) (by simp)) (by simp)
       | some u =>
         rcases hO b with z | ⟨ob,xs,z⟩
         . rw[q]at z;cases z
         . have z2:=un.gL b ob _ z
           obtain⟨e1,_⟩:=aJ b _ z;obtain⟨e2,_⟩:=hok' b _ z2;rw[e]at e1;cases e1;exact e2
 cases hk:K.lookup a with
 | some o =>
   -- the script is one of the module's own objects
   have e:=KX a o hk;rw[ha]at e;cases e;refine core (λ_=>none) (λ_=>.inl rfl) (.inr ⟨_,vs.toArray,_,hk,rfl,rfl,rfl,by rw[wH,lenV];exact hl,by simpa using rv⟩) (λb u z=>by have z':(none:Option HO)=some u:=z;cases z') (λb z=>absurd rfl z) λz=>absurd rfl z
 | none =>
   refine core (λb=>if b=a then some (.gq {cls:=.type "list",data:=.seq vs.toArray} (.lst (ns.map V.int)))else none) (λb=>?_) (.inl (.inr ⟨{cls:=.type "list",data:=.seq vs.toArray},if_pos rfl⟩)) (λb u z=>?_) (λb z=>?_) λ_=>hk
   . by_cases hb:b=a
     . exact .inr ⟨_,_,if_pos hb⟩
     . exact .inl (if_neg hb)
   . by_cases hb:b=a
     . have z':=(if_pos hb).symm.trans z
       cases z';subst hb;exact⟨ha,by rw[wm];exact hl,vs,_,rv,ha⟩
     . have z':=(if_neg hb).symm.trans z
       cases z'
   . by_cases hb:b=a
     . exact hb
     . exact absurd (if_neg hb) z
abbrev KOf{K:wa}{h:wI}(_:K.In h):wa:=K
theorem TK{l:QJ}{n k:Nat}{q:wL}{loose:List Str}{XP:(Str->Option wf)->wI->Prop}{YP:wN->wI->Prop}{d:DefRec}{K:Params->wa}{CX:wN->gb}{sp:wN->Sp}{x:Str}
  (hn:l.most=some n) (hn2:n<=w5) (hdf:d.params.defaults=[]) (hr:d4 k callerA)
  (hY:∀(w:wN)(h:wI),YP w h->(K w.params).In h)
  (F:∀(w:wN)(mg:Str->Option wf)(fa:we)(h:wI),(K w.params).In h->h.Ns wK mg->mg d.name=some (.ref fa) ->
   ∃fd:wz,(∀(s:wl)(u:wf),BindsTo s fd ⟨[u],[]⟩ [(x,u)]) /\
    ∀base:wI,(K w.params).In base->base.Ns wK mg->aH l.prog w (K w.params) mg base (CX w) k fa fd [x] (sp w))
  (hsp:∀(w:wN)(H:Hp)(a:we)(ns:List Int),ns.length<=n->zW H->aR (K w.params) H a (ns.map V.int)->sp w [.ref a] H (λv _=>v=.bl true) λ_ _ _=>False)
  (hCX:∀(w:wN)(H:Hp)(s:wl)(e:wf)(s':wl),CX w [] H s (λ_ _ _=>False) e s'->False) :
  X3 q loose XP YP l.row.toRowW d [] (λf vs=>Xz f vs):=by
 refine Att.Tr hn hdf λw s₀ s₁ mg mb fa o pm cd doc a vs ns G Y ho hd hcd hmg hobj hints hlen hg=>?_
 have KX:=hY w _ Y;obtain⟨fd,hb,hF⟩:=F w mg fa _ KX G.T.g hmg;exact zw0 KX G.T.g G.T.b G.T.builtins G.T.nolimit hg hobj hints (Wb hlen hn2) hr hF hb (λH hO hS=>hsp w H a ns hlen hO hS) λH e s'=>hCX w H s₁ e s'
def m8(s:wZ):Arguments:=match s with
 | .FunctionDef _ a _ _ _ _ _ _ _ _=>a
 | _=>{posonlyargs:=[],args:=[],vararg:=none,kwonlyargs:=[],kw_defaults:=[],kwarg:=none,defaults:=[]}
def ku(s:wZ):List wZ:=match s with
 | .FunctionDef _ _ b _ _ _ _ _ _ _=>b
 | _=>[]
def aC(s:wZ):Scope:=match s with
 | .FunctionDef _ _ _ _ _ _ sc _ _ _=>sc
 | _=>{kind:=.function,names:=[],isGenerator:=false,isCoroutine:=false}
abbrev aQ:gb:=λ_ _ _ _ _ _=>False
abbrev E0:XK:=λ_ _ _=>False
theorem zDs{X:Cx} : mE aQ X E0:=λ_ _ _ _ _ _ _ h=>h.elim
structure kg(K:wa)(x qual:Str)(st:wZ)(f:we)(fd:wz):Prop where
 ex:∃(oc:wf)(od:Option we)(kV doc pm:wf)(an:Option we)(cdv ct:wf)(osl:Array (Option wf)),
   fd=Vu x qual (m8 st) (ku st) (aC st) .none kV doc pm an cdv ct/\K.lookup f=some ⟨oc,od,.func fd,osl⟩/\qU K cdv qual=true
 kp:qu K (.ref f)=true
section
variable{P:wL}{w:wN}{K:wa}{mg:Str->Option wf}{base:wI}
theorem kg.ok{x qual:Str}{st:wZ}{f:we}{fd:wz}{N ps:List Str}{k:Nat}{sp:Sp}(F:kg K x qual st f fd)(S:aN N ps (aC st))(len:∀vs H Q E,sp vs H Q E->vs.length=ps.length)
  (hbody:∀(cdv:wf)(A:ve)(outer:List Env)(s:wl)(H:Hp)(vs:List V)(Q:VK)(E:XK),d4 k (A.deeper (envOfC qual (aC st) s.heap.objs.size f cdv))->sp vs H Q E ->
   ∃t,fM (iD aQ P w K mg base N qual (aC st) f cdv A outer s H E).tS (ku st) t/\t {nx:=λ_ H'=>Q .bj H',rt:=Q} (start N vs) H):aH P w K mg base aQ (k+1) f fd ps sp:=by
 obtain⟨oc,od,kV,doc,pm,an,cdv,ct,osl,rfl,lk,hcd⟩:=F.ex;refine KI lk hcd S len λA outer s H vs Q E hr hsp=>?_
 obtain⟨t,h,q⟩:=hbody cdv A outer s H vs Q E hr hsp;exact⟨t,h.tS,q⟩
theorem kg.binds{x qual:Str}{st:wZ}{f:we}{fd:wz}{ps:List Str}(F:kg K x qual st f fd)
  (h:∀(kV doc pm:wf)(an:Option we)(cdv ct:wf)(us:List wf),us.length=ps.length->bindArgs (Vu x qual (m8 st) (ku st) (aC st) .none kV doc pm an cdv ct) ⟨us,[]⟩=pure (ps.zip us)):lD K fd ps []:=by
 obtain⟨oc,od,kV,doc,pm,an,cdv,ct,osl,rfl,lk,hcd⟩:=F.ex;exact .all (h kV doc pm an cdv ct)
theorem Ks{x qual:Str}{st:wZ}{f:we}{oc:wf}{od an:Option we}{osl:Array (Option wf)}{kV doc pm cdv ct:wf}(l:K.lookup f=some ⟨oc,od,.func (Vu x qual (m8 st) (ku st) (aC st) .none kV doc pm an cdv ct),osl⟩)
  (c:qU K cdv qual=true) (k:qu K (.ref f)=true):kg K x qual st f (Vu x qual (m8 st) (ku st) (aC st) .none kV doc pm an cdv ct):=⟨⟨oc,od,kV,doc,pm,an,cdv,ct,osl,rfl,l,c⟩,k⟩
end
theorem iT{n:Nat}(h:n<=1000):n<w5:=WJ h (by decide)
section
variable{X:Cx}
theorem pv(i:Nat){x:Str}{pos:Pos}(hN:X.N[i]? = some x:=by rfl)(hv:zH X.env.scope x:=by first | exact Or.inl rfl | exact Or.inr (Or.inl rfl) | exact Or.inr (Or.inr rfl))(hd:(x == ("__debug__" : Str))=false:=by decide)
  (hcd:(x == ("__classdict__" : Str))=false:=by decide):PE X (.Name x pos) (pM i):=US hN hv hd hcd
end
theorem mi{A B:Prop}(h:B):if false=true then A else B:=by
 rw[if_neg vn];exact h
theorem ny{A B:Prop}(h:A):if true=true then A else B:=by
 rw[if_pos rfl];exact h
def ah(H H':Hp):Prop:=∀b o,H b=some o->H' b=some o
theorem ah.refl(H:Hp):ah H H:=λ_ _ h=>h
theorem ah.trans{H H1 H2:Hp}(a:ah H H1)(b:ah H1 H2):ah H H2:=λc o h=>b c o (a c o h)
theorem ah.seq{K:wa}{H H':Hp}{a:we}{xs:List V}(e:ah H H')(h:aR K H a xs):aR K H' a xs:=by
 rcases h with(h | ⟨o,h⟩) | h
 ·exact .inl (.inl (e _ _ h))
 ·exact .inl (.inr ⟨o,e _ _ h⟩)
 ·exact .inr h
end L2
namespace GM
def dv(t b:Int):Int:=if b<0 then -((vk t b:Nat):Int)else((vk t b:Nat):Int)
theorem ET{t b:Int}(hb:b≠0):0<vk t b:=VW t hb
theorem JN{t b:Int}(hb:b≠0):dv t b≠0:=by
 have:=ET (t:=t) hb;unfold dv
 split<;>lia
theorem fG{a d:Int}(h:d ∣ a)(hd:d≠0):a.fdiv d=a / d:=by
 obtain⟨k,rfl⟩:=h;rw[Int.mul_fdiv_cancel_left _ hd,Vw _ hd]
theorem R6{t b:Int}(hb:b≠0):t.fdiv (dv t b)=(wu t b).num:=by
 have hg:=ET (t:=t) hb;have h1:((vk t b:Nat):Int) ∣ t:=V2 ..;rw[Rat.num_divInt,xD b t];unfold dv
 by_cases h:b<0
 ·rw[if_pos h,Qg h,fG (Xa.mpr h1) (by lia),Int.ediv_neg]
  obtain⟨k,hk⟩:=h1;have:(-1:Int)*t=((vk t b:Nat):Int)*(-k):=by rw[XA,Xb,<- hk]
  rw[this,Vw _ (by lia)];have e:t / ((vk t b:Nat):Int)=k:=Qa (by lia) hk;rw[e]
 ·rw[if_neg h,QT (by lia),QU,fG h1 (by lia)]
theorem zCx{t b:Int}(hb:b≠0):b.fdiv (dv t b)=((wu t b).den:Int):=by
 have hg:=ET (t:=t) hb;have h1:((vk t b:Nat):Int) ∣ b:=qA ..;rw[XT,if_neg hb,xD b t];unfold dv
 by_cases h:b<0
 ·rw[if_pos h,fG (Xa.mpr h1) (by lia),Int.ediv_neg,Vx]
  obtain⟨k,hk⟩:=h1;have:(b.natAbs:Int)=((vk t b:Nat):Int)*(-k):=by rw[Xb,<- hk];lia
  rw[this,Vw _ (by lia)];have e:b / ((vk t b:Nat):Int)=k:=Qa (by lia) hk;rw[e]
 ·rw[if_neg h,fG h1 (by lia),Vx]
  have:(b.natAbs:Int)=b:=by lia
  rw[this]
def gC(p q:Int):Bool:=decide (1<=q)&&decide (vk p q=1)
theorem Og(r:Rat):gC r.num r.den=true:=by
 have h:=r.reduced;have hd:=r.den_pos;simp only[gC,wW,decide_eq_true_eq];refine⟨by lia,?_⟩;have:Nat.gcd r.num.natAbs r.den=1:=h
 simpa [vk] using this
theorem U8{p q:Int}(h:gC p q=true):∃r:Rat,p=r.num/\q=(r.den:Int):=by
 simp only[gC,wW,decide_eq_true_eq]at h;obtain⟨h1,h2⟩:=h;refine⟨⟨p,q.toNat,by lia,?_⟩,rfl,by show q=((q.toNat:Nat):Int);lia⟩;have e:q.toNat=q.natAbs:=by lia
 rw[e];exact h2
theorem KD{a b:Int}(hb:0<b)(ha:0<=a):vk b (a % b)=vk a b:=by
 rw[xD a b];have e:a=a % b+b*(a / b):=(Int.emod_add_mul_ediv a b).symm
 conv=>rhs;rw[e]
 rw[Int.gcd_add_mul_left_right]
structure Bd(n:Nat)(x:Int):Prop where
 lt:x.natAbs<2^n
theorem Bd.mono{m n:Nat}{x:Int}(h:Bd m x)(e:m<=n):Bd n x:=⟨wU h.lt (Nat.pow_le_pow_right (by decide) e)⟩
theorem Bd.mul{m n:Nat}{x y:Int}(h:Bd m x)(k:Bd n y):Bd (m+n) (x*y):=by
 refine⟨?_⟩;rw[Q3,Xc];exact Nat.mul_lt_mul'' h.lt k.lt
theorem Bd.add{m n:Nat}{x y:Int}(h:Bd m x)(k:Bd n y):Bd (max m n+1) (x+y):=by
 have h1:=(h.mono (XB m n)).lt;have h2:=(k.mono (Xi m n)).lt;refine⟨?_⟩;rw[xE]
 lia
theorem Bd.sub{m n:Nat}{x y:Int}(h:Bd m x)(k:Bd n y):Bd (max m n+1) (x-y):=by
 have h1:=(h.mono (XB m n)).lt;have h2:=(k.mono (Xi m n)).lt;refine⟨?_⟩;rw[xE]
 lia
theorem Bd.neg{n:Nat}{x:Int}(h:Bd n x):Bd n (-x):=⟨by rw[XU];exact h.lt⟩
theorem Bd.le{n:Nat}{x y:Int}(h:Bd n x)(e:y.natAbs<=x.natAbs):Bd n y:=⟨WJ e h.lt⟩
theorem Bd.log{n:Nat}{x:Int}(h:Bd n x)(hn:0<n):x.natAbs.log2<n:=by
 by_cases e:x.natAbs=0
 ·rw[e];exact hn
 ·exact(Nat.log2_lt e).mpr h.lt
theorem zCQ(t b:Int)(hb:b≠0):(wu t b).num.natAbs<=t.natAbs:=by
 rw[<- R6 hb]
 have h1:dv t b ∣ t:=by
  have:((vk t b:Nat):Int) ∣ t:=V2 ..;unfold dv;split
  ·exact Xa.mpr this
  ·exact this
 rw[fG h1 (JN hb)];exact Qr t _
theorem Bo(t b:Int)(hb:b≠0):(wu t b).den<=b.natAbs:=by
 rw[XT,if_neg hb];exact Nat.div_le_self _ _
structure ag(n:Nat)(x:Rat):Prop where
 t:Bd n x.num
 b:Bd n (x.den:Int)
theorem ag.mono{m n:Nat}{x:Rat}(h:ag m x)(e:m<=n):ag n x:=⟨h.t.mono e,h.b.mono e⟩
theorem ag.divInt{n:Nat}{t b:Int}(hb:b≠0)(h1:Bd n t)(h2:Bd n b):ag n (wu t b) :=
 ⟨h1.le (zCQ t b hb),h2.le (by have:=Bo t b hb;simpa using this)⟩
theorem Bd.j9{m:Int}(h1 : -100000000000000000000000000000000000000<=m)(h2:m<=100000000000000000000000000000000000000):Bd 128 m:=⟨by
 have e:(2:Nat)^128=340282366920938463463374607431768211456:=by decide
 rw[e]
 lia⟩
theorem gJ(x:Rat):(x.den:Int)≠0:=by have:=x.den_pos;lia
theorem den_pos(x:Rat):(0:Int)<(x.den:Int):=by have:=x.den_pos;lia
theorem El(x y:Rat):(x.den:Int)*(y.den:Int)≠0:=QK (gJ x) (gJ y)
theorem zBv(x y:Rat):wu (x.num*(y.den:Int)+y.num*(x.den:Int)) ((x.den:Int)*(y.den:Int))=x+y:=by
 rw[<- Vc,Qv,Rat.add_def']
theorem Kp(x y:Rat):wu (x.num*(y.den:Int)-y.num*(x.den:Int)) ((x.den:Int)*(y.den:Int))=x-y:=by
 rw[<- Vc,Qv,Rat.sub_def']
theorem O3(x y:Rat):wu (x.num*y.num) ((x.den:Int)*(y.den:Int))=x*y:=by
 rw[<- Vc,Qv,Rat.mul_def']
theorem NZ(x y:Rat):wu (x.num*(y.den:Int)) ((x.den:Int)*y.num)=x / y:=by
 rw[QV,Rat.inv_def,<- Q4,WK]
theorem S0(x y:Rat):decide (x.num*(y.den:Int)<y.num*(x.den:Int))=decide (x<y):=by
 rw[vC,decide_eq_true_eq,decide_eq_true_eq,Rat.lt_iff]
theorem sX{y:Rat}(h:y≠0):y.num≠0:=λe=>h (Rat.num_eq_zero.mp e)
theorem ag.add{m n:Nat}{x y:Rat}(h:ag m x)(k:ag n y):ag (m+n+1) (x+y):=by
 rw[<- zBv];refine ag.divInt (El x y) ?_ ((h.b.mul k.b).mono (by lia));exact((h.t.mul k.b).add (k.t.mul h.b)).mono (by lia)
theorem ag.sub{m n:Nat}{x y:Rat}(h:ag m x)(k:ag n y):ag (m+n+1) (x-y):=by
 rw[<- Kp];refine ag.divInt (El x y) ?_ ((h.b.mul k.b).mono (by lia));exact((h.t.mul k.b).sub (k.t.mul h.b)).mono (by lia)
theorem ag.mul{m n:Nat}{x y:Rat}(h:ag m x)(k:ag n y):ag (m+n) (x*y):=by
 rw[<- O3];exact ag.divInt (El x y) (h.t.mul k.t) (h.b.mul k.b)
theorem ag.zero:ag 1 0:=⟨⟨by decide⟩,⟨by decide⟩⟩
theorem ag.one:ag 1 1:=⟨⟨by decide⟩,⟨by decide⟩⟩
def aE(a b:Rat):Nat->Rat
 | 0=>0
 | n+1=>a*aE a b n+b
def push(a b:Rat):Nat->Rat->Rat
 | 0,x=>x
 | n+1,x=>a*push a b n x+b
theorem hJ(a b:Rat)(n:Nat)(x:Rat):push a b n x=a^n*x+aE a b n:=by
 induction n with
 | zero=>simp[push,aE,Rat.add_zero,VX]
 | succ n ih=>rw[push,ih,aE,WA];grind
theorem ZY(a b:Rat)(m n:Nat)(x:Rat):push a b (m+n) x=push a b n (push a b m x):=by
 induction n with
 | zero=>rfl
 | succ n ih=>rw[<- VH,push,push,ih]
theorem ag.pow{k:Nat}{a:Rat}(h:ag k a)(n:Nat):ag (k*n+1) (a^n):=by
 induction n with
 | zero=>rw[VX];exact ag.one.mono (by lia)
 | succ n ih=>rw[WA];exact(ih.mul h).mono (by rw[qj];lia)
theorem ag.aE{k:Nat}{a b:Rat}(h:ag k a)(hb:ag k b)(n:Nat):ag ((2*k+1)*n+1) (aE a b n):=by
 induction n with
 | zero=>exact ag.zero.mono (by lia)
 | succ n ih=>exact((h.mul ih).add hb).mono (by rw[qj];lia)
theorem cH(t:Int){u:Int}(hu:u≠0):(wu t u)*(u:Rat)=(t:Rat):=by
 rw[Rat.divInt_eq_div];exact WL λz=>hu (WX.mp z)
theorem jR(x:Rat):x*((x.den:Int):Rat)=(x.num:Rat):=by
 have:=cH x.num (gJ x)
 rwa[WK]at this
theorem f_{t u:Int}{x:Rat}(hu:u≠0)(h:x*(u:Rat)=(t:Rat)):wu t u=x:=by
 have h1:=cH t hu;have h2:(wu t u-x)*(u:Rat)=0:=by grind
 have h3:(u:Rat)≠0:=by
  intro z;exact hu (WX.mp z)
 have:=XC.mp h2
 grind
theorem zv5(a b:Rat)(t u:Int)(hu:u≠0):wu (a.num*b.den*t+b.num*a.den*u) (u*a.den*b.den)=a*wu t u+b:=by
 refine f_ (QK (QK hu (gJ a)) (gJ b)) ?_;have h1:=cH t hu;have h2:=jR a;have h3:=jR b;simp only[vJ,qa]
 grind
theorem JX(a b:Rat)(n:Nat)(x y:Rat):push a b n y-push a b n x=a^n*(y-x):=by
 rw[hJ,hJ];grind
theorem pe{a:Rat}(h:0<a)(n:Nat):0<a^n:=Rat.pow_pos h
theorem zuw{a:Rat}(h:1<a)(n:Nat):1<a^(n+1):=by
 induction n with
 | zero=>simpa using h
 | succ n ih =>
  rw[WA];have:=VO (show 0<a^(n+1)-1 by grind) (show 0<a-1 by grind)
  grind
theorem ztG{a:Rat}(h0:0<a)(h:a<1)(n:Nat):a^(n+1)<1:=by
 induction n with
 | zero=>simpa using h
 | succ n ih =>
  rw[WA];have:=VO (show 0<1-a^(n+1) by grind) h0
  grind
theorem one_pow'(n:Nat):(1:Rat)^n=1:=by
 induction n with
 | zero=>rfl
 | succ n ih=>rw[WA,ih,qG]
theorem kc{u:Int}(h:0<u):(0:Rat)<(u:Rat):=XD.mpr h
theorem Ux{t u:Int}(hu:0<u)(ht:0<t):0<wu t u:=by
 have e:=cH t (show u≠0 by lia);have:=kc ht;rw[<- e]at this;exact(Rat.mul_pos_iff_of_pos_right (kc hu)).mp this
theorem Nn{t u c:Int}(hu:0<u)(h:t<=c*u):wu t u<=(c:Rat):=by
 have e:=cH t (show u≠0 by lia);refine Rat.le_of_mul_le_mul_right (c:=(u:Rat)) ?_ (kc hu);rw[e,<- vJ];exact W7.mpr h
theorem Uq{t u c:Int}(hu:0<u)(h:t<c*u):wu t u<(c:Rat):=by
 have e:=cH t (show u≠0 by lia);refine Qh (c:=(u:Rat)) ?_ (vK (kc hu));rw[e,<- vJ];exact VP.mpr h
theorem L7{t u:Int}(hu:0<u):((wu t u).den:Int)<=u:=by
 have:=Bo t u (by lia)
 lia
theorem zwm{x:Rat}{c:Int}(h:x<=(c:Rat)):x.num<=c*x.den:=by
 have:=(xf x c).mp h
 simpa using this
theorem zBX{x:Rat}(h:0<=x):0<=x.num:=qw.mpr h
theorem ag.small{x:Rat}{c d:Nat}(h0:0<=x)(hc:x<=((c:Int):Rat))(hd:x.den<=d)(z:c*d<1024)(hd2:d<1024):ag 10 x:=by
 have h1:=zwm hc;have h2:=zBX h0;have h3:(c:Int)*(x.den:Int)<=(c:Int)*(d:Int):=Int.mul_le_mul_of_nonneg_left (by lia) (by lia);have h4:(c:Int)*(d:Int)<1024:=by rw[<- Vc];lia
 refine⟨⟨?_⟩,⟨?_⟩⟩
 ·show _<1024
  lia
 ·show _<1024
  lia
theorem K0{x:Rat}{z u:Int}(e:x=wu z u)(h1:1<=u)(h2:u<=8)(h3:1<=z)(h4:z<=4*u):0<x/\x<=4/\x.den<=8:=by
 subst e;refine⟨Ux (by lia) (by lia),Nn (c:=4) (by lia) h4,?_⟩;have:=L7 (t:=z) (show 0<u by lia)
 lia
theorem Bx{y:Rat}{r u:Int}(e:y=wu r u)(h1:1<=u)(h2:u<=12)(h3:0<=r)(h4:r<=u):0<=y/\y<=1/\y.den<=12:=by
 subst e;refine⟨Ql h3 (by lia),Nn (c:=1) (by lia) (by lia),?_⟩;have:=L7 (t:=r) (show 0<u by lia)
 lia
theorem ag.four:ag 3 4:=⟨⟨by decide +kernel⟩,⟨by decide +kernel⟩⟩
theorem m4{f:Rat->Rat}{xs:List Rat}{i:Nat}(h:i<xs.length):(xs.map f).getD i 0=f (xs.getD i 0):=by
 rw[wb,wb,wt,wc h]
 rfl
theorem zzg{a b:Rat}(ha:0<a)(n:Nat)(x y:Rat):push a b n x<push a b n y ↔ x<y:=by
 have e:=JX a b n x y;have p:=pe ha n
 constructor
 ·intro h
  have:0<a^n*(y-x):=by rw[<- e];grind
  have h2:=(Rat.mul_pos_iff_of_pos_left p).mp this
  grind
 ·intro h
  have:0<a^n*(y-x):=VO p (by grind)
  grind
def dw(a b:Rat)(n:Nat)(xs:List Rat)(i:Nat):List Rat:=(xs.map λx=>push a b n (x+(1-xs.getD i 0))).set i 0
def aO(a b:Rat)(ns:List Int)(xs:List Rat):Nat->List Rat
 | 0=>xs
 | k+1=>dw a b (ns.getD k 0).toNat (aO a b ns xs k) k
theorem gT(a b:Rat)(n:Nat)(xs:List Rat)(i:Nat):(dw a b n xs i).length=xs.length:=by simp[dw]
theorem di(a b:Rat)(ns:List Int)(xs:List Rat):∀k,(aO a b ns xs k).length=xs.length
 | 0=>rfl
 | k+1=>by rw[aO,gT,di a b ns xs k]
theorem gh(a b:Rat)(n:Nat)(xs:List Rat)(i j:Nat)(hj:j<xs.length):(dw a b n xs i).getD j 0=if j=i then 0 else push a b n (xs.getD j 0+(1-xs.getD i 0)):=by
 unfold dw;rw[wb,Vl]
 by_cases h:i=j
 ·subst h
  simp[hj]
 ·rw[if_neg h,if_neg (Wo h),wt,wc hj]
  simp[wb,hj]
def Cm(m:Nat)(xs:List Rat):Prop:=∃B:Int,0<B/\Bd m B /\ ∀x∈xs,∃t:Int,x=wu t B/\Bd m t
theorem Cm.mono{m n:Nat}{xs:List Rat}(h:Cm m xs)(e:m<=n):Cm n xs:=by
 obtain⟨B,h0,h1,h2⟩:=h;exact⟨B,h0,h1.mono e,λx hx=>let ⟨t,e1,e2⟩:=h2 x hx;⟨t,e1,e2.mono e⟩⟩
theorem Cm.dH{m:Nat}{xs:List Rat}{x:Rat}(h:Cm m xs)(hx:x∈xs):ag m x:=by
 obtain⟨B,h0,h1,h2⟩:=h;obtain⟨t,rfl,ht⟩:=h2 x hx;exact ag.divInt (by lia) ht h1
theorem Cm.pos{m:Nat}{xs:List Rat}(h:Cm m xs):1<=m:=by
 obtain⟨B,h0,h1,_⟩:=h;cases m with
 | zero=>have:=h1.lt;simp at this;lia
 | succ m=>lia
theorem Cm.get{m:Nat}{xs:List Rat}(h:Cm m xs)(i:Nat):ag m (xs.getD i 0):=by
 rcases wD i xs.length with z | z
 ·rw[wb,wc z]
  exact h.dH (vO z)
 ·rw[wb,wE z]
  exact ag.zero.mono h.pos
theorem oJ{a b:Rat}(ba:ag 10 a)(bb:ag 10 b){m:Nat}{t u:Int}(hu:0<u)(bt:Bd m t)(bu:Bd m u):∀n:Nat,0<u*((a.den:Int)*(b.den:Int))^n/\Bd (m+21*n) (u*((a.den:Int)*(b.den:Int))^n) /\
  ∃T:Int,push a b n (wu t u)=wu T (u*((a.den:Int)*(b.den:Int))^n)/\Bd (m+21*n) T
 | 0=>⟨by simpa using hu,by simpa using bu,t,by simp[push],by simpa using bt⟩
 | n+1=>by
  obtain⟨h1,h2,T,e,hT⟩:=oJ ba bb hu bt bu n;have eb:u*((a.den:Int)*(b.den:Int))^(n+1)=u*((a.den:Int)*(b.den:Int))^n*(a.den:Int)*(b.den:Int):=by rw[Vy,<- VI,VI (u*_)]
  rw[eb];refine⟨vI (vI h1 (den_pos a)) (den_pos b),((h2.mul ba.b).mul bb.b).mono (by lia),a.num*(b.den:Int)*T+b.num*(a.den:Int)*(u*((a.den:Int)*(b.den:Int))^n),?_,(((ba.t.mul bb.b).mul hT).add ((bb.t.mul ba.b).mul h2)).mono (by lia)⟩;rw[push,e];exact(zv5 a b T _ (by lia)).symm
theorem Cm.me{m:Nat}{xs:List Rat}{a b:Rat}(h:Cm m xs)(ba:ag 10 a)(bb:ag 10 b)(n i:Nat):Cm (m+2+21*n) (dw a b n xs i):=by
 obtain⟨B,h0,h1,h2⟩:=h
 have hz:∃z:Int,xs.getD i 0=wu z B/\Bd m z:=by
  rcases wD i xs.length with q | q
  ·rw[wb,wc q]
   exact h2 _ (vO q)
  ·rw[wb,wE q]
   exact⟨0,by simp,⟨by simp;exact Wa m⟩⟩
 obtain⟨z,ez,hz⟩:=hz;have key:=λ(t:Int)(ht:Bd m t)=>oJ ba bb h0 (show Bd (m+2) (t+B-z)from((ht.add h1).sub hz).mono (by lia)) (h1.mono (by lia)) n
 obtain⟨p1,p2,_⟩:=key 0 ⟨by simp;exact Wa m⟩;refine⟨_,p1,p2,λx hx=>?_⟩
 have hx':x=0 \/ ∃y∈xs,x=push a b n (y+(1-xs.getD i 0)):=by
  unfold dw at hx;rcases Qs hx with q | q
  ·obtain⟨y,hy,rfl⟩:=wS.mp q
   exact .inr ⟨y,hy,rfl⟩
  ·exact .inl q
 rcases hx' with rfl | ⟨y,hy,rfl⟩
 ·exact⟨0,by simp,⟨by simp;exact Wa _⟩⟩
 ·obtain⟨t,rfl,ht⟩:=h2 y hy
  obtain⟨_,_,T,e,hT⟩:=key t ht
  have e2:wu t B+(1-xs.getD i 0)=wu (t+B-z) B:=by
   rw[ez]
   symm
   refine f_ (by lia) ?_;have q1:=cH t (show B≠0 by lia);have q2:=cH z (show B≠0 by lia);have q3:((t+B-z:Int):Rat)=(t:Rat)+(B:Rat)-(z:Rat):=by push_cast;rfl
   rw[q3,<- q1,<- q2]
   grind
  rw[e2];exact⟨T,e,hT⟩
theorem Cm.snoc{m:Nat}{xs:List Rat}(h:Cm m xs):Cm m (xs++[0]):=by
 obtain⟨B,h0,h1,h2⟩:=h;refine⟨B,h0,h1,λx hx=>?_⟩;rcases vM.mp hx with q | q
 ·exact h2 x q
 ·rw[wY.mp q]
  exact⟨0,by simp,⟨by simp;exact Wa m⟩⟩
def upTo(ns:List Int)(k:Nat):Nat:=((ns.take k).map QL).sum
theorem ox{ns:List Int}{k:Nat}(h:k<ns.length):upTo ns (k+1)=upTo ns k+(ns.getD k 0).toNat:=by
 unfold upTo;rw[qB,wc h,wb,wc h,vD,List.sum_append]
 show _+([ns[k].toNat]:List Nat).sum=_
 rw[List.sum_singleton]
 rfl
theorem Cm.rows{m:Nat}{xs:List Rat}{a b:Rat}{ns:List Int}(h:Cm m xs)(ba:ag 10 a)(bb:ag 10 b):∀k,k<=ns.length->Cm (m+2*k+21*upTo ns k) (aO a b ns xs k)
 | 0,_=>h.mono (by lia)
 | k+1,hk=>by
  have:=(Cm.rows h ba bb (ns:=ns) k (by lia)).me ba bb (ns.getD k 0).toNat k;rw[aO];refine this.mono ?_;rw[ox (by lia)]
  lia
theorem NC(a:Rat)(m:Nat):∀n:Nat,a^(m+n)=a^m*a^n
 | 0=>by rw[Nat.add_zero,VX,Rat.mul_one]
 | n+1=>by rw[<- VH,WA,NC a m n,WA,X4]
theorem Up(a b:Rat)(n:Nat)(xs ys:List Rat)(i j:Nat)(hx:xs.length=ys.length)(hj:j<xs.length) :
  (dw a b n xs i).getD j 0-(dw a b n ys i).getD j 0=a^n*((xs.getD j 0-ys.getD j 0)-(xs.getD i 0-ys.getD i 0)):=by
 rw[gh a b n xs i j hj,gh a b n ys i j (by lia)]
 by_cases h:j=i
 ·subst h
  rw[if_pos rfl,if_pos rfl]
  grind
 ·rw[if_neg h,if_neg h,JX]
  grind
theorem DE(a b:Rat)(ns:List Int)(xs ys:List Rat)(hx:xs.length=ys.length)(hn:ns.length=xs.length)(l:Nat)(hl:l+1=xs.length)(h0:xs.getD l 0=ys.getD l 0) :
  ∀k,k<=ns.length->∀j,j<xs.length->(aO a b ns xs k).getD j 0-(aO a b ns ys k).getD j 0=a^upTo ns k*((xs.getD j 0-ys.getD j 0)-(if k=0 then 0 else xs.getD (k-1) 0-ys.getD (k-1) 0))
 | 0,_,j,hj=>by simp[aO,upTo];grind
 | k+1,hk,j,hj=>by
  rw[aO,aO,Up _ _ _ _ _ _ _ (by rw[di,di,hx]) (by rw[di];exact hj),DE a b ns xs ys hx hn l hl h0 k (by lia) j hj,DE a b ns xs ys hx hn l hl h0 k (by lia) k (by lia),ox (by lia),NC];simp only[qk];rw[if_neg (show ¬ k+1=0 by lia)]
  grind
def lF(a b:Rat)(n:Nat)(xs:List Rat):List Rat:=(xs.tail.map λy=>push a b n (y+(1-xs.headD 0)))++[0]
def turned(a b:Rat)(ns:List Int)(xs:List Rat):Nat->List Rat
 | 0=>xs
 | k+1=>lF a b (ns.getD k 0).toNat (turned a b ns xs k)
theorem mQ(a b:Rat)(ns:List Int)(xs:List Rat):∀k,k<=xs.length->turned a b ns xs k=(aO a b ns xs k).drop k++(aO a b ns xs k).take k
 | 0,_=>by simp[turned,aO]
 | k+1,hk=>by
  have hl:(aO a b ns xs k).length=xs.length:=di a b ns xs k;have hk':k<(aO a b ns xs k).length:=by lia
  rw[turned,mQ a b ns xs k (by lia),aO];generalize aO a b ns xs k=r at *;generalize (ns.getD k 0).toNat=n;have e1:r.drop k=r[k]::r.drop (k+1):=qb hk';have e2:r.getD k 0=r[k]:=by rw[wb,wc hk'];rfl
  unfold lF dw;rw[e1,e2,Xj,XV,List.headD_cons,List.drop_set_of_lt (by lia),vD,X5,VR]
  congr 1
  have hm:k<(r.map λx=>push a b n (x+(1-r[k]))).length:=by rw[wm];exact hk'
  rw[List.map_take];generalize (r.map λx=>push a b n (x+(1-r[k])))=s at hm ⊢;rw[List.take_set,qB,wc hm]
  show _=(s.take k++[s[k]]).set k 0
  have hlk:(s.take k).length=k:=by rw[Ws];lia
  rw[List.set_append_right _ _ (by lia),hlk,Vz]
  rfl
theorem YY(a b:Rat)(ns:List Int)(xs:List Rat)(h:ns.length=xs.length):turned a b ns xs ns.length=aO a b ns xs ns.length:=by
 rw[mQ a b ns xs _ (by lia)];have hl:(aO a b ns xs ns.length).length=xs.length:=di a b ns xs _;rw[QW (by lia),W8 (by lia),qL]
def mH(xs:List Rat):Nat->Int
 | 0=>1
 | k+1=>mH xs k*((xs.getD k 0).den:Int)
theorem Ra(xs:List Rat):∀k,0<mH xs k
 | 0=>by show(0:Int)<1;decide
 | k+1=>vI (Ra xs k) (den_pos _)
theorem Mk(xs:List Rat):∀k j,j<k->((xs.getD j 0).den:Int) ∣ mH xs k
 | 0,j,h=>by lia
 | k+1,j,h=>by
  rcases wD j k with z | z
  ·exact V5 (Mk xs k j z) (Vm ..)
  ·have:j=k:=by lia
   subst this;exact Xk ..
theorem Kc{xs:List Rat}{m:Nat}(h:∀i,ag m (xs.getD i 0)):∀k,Bd (m*k+1) (mH xs k)
 | 0=>⟨by show(1:Int).natAbs<_;simp⟩
 | k+1=>by
  rw[mH];refine((Kc h k).mul (h k).b).mono ?_;rw[Nat.mul_add];lia
theorem zux{x:Rat}{B:Int}(hB:0<B)(h:(x.den:Int) ∣ B):wu (x.num*B.fdiv x.den) B=x:=by
 obtain⟨c,rfl⟩:=h;rw[fG (Vm ..) (gJ x),Vw _ (gJ x)];refine f_ (by lia) ?_;have:=jR x;rw[vJ,vJ,<- this]
 grind
theorem Us{B d:Int}{m:Nat}(hd:0<d)(hB:0<B)(h:Bd m B):Bd m (B.fdiv d):=by
 refine h.le ?_;rw[Vh _ (by lia)];have h1:0<=B / d:=Int.ediv_nonneg (by lia) (by lia);have h2:B / d<=B:=Xl _ (by lia)
 lia
theorem Dl(a b:Rat)(ns:List Int)(xs:List Rat){k:Nat}(hk:k<xs.length):(turned a b ns xs k).headD 0=(aO a b ns xs k).getD k 0:=by
 have hl:=di a b ns xs k;rw[mQ a b ns xs k (by lia),qb (by lia),wb,wc (by lia)]
 rfl
theorem A_(a b:Rat)(ns:List Int)(xs:List Rat)(hx:0<xs.length):∀k,(turned a b ns xs k).length=xs.length
 | 0=>rfl
 | k+1=>by
  have:=A_ a b ns xs hx k;rw[turned,lF,wR,wm,VA,this];simp;lia
theorem Kw(x y:Rat):((x*y).num=x.num / (x.num.natAbs.gcd y.den:Nat)*(y.num / (y.num.natAbs.gcd x.den:Nat)))/\((x*y).den=x.den / (y.num.natAbs.gcd x.den)*(y.den / (x.num.natAbs.gcd y.den))):=by
 show(Rat.mul x y).num=_/\(Rat.mul x y).den=_
 unfold Rat.mul;simp only[Int.divExact_eq_ediv,Nat.divExact_eq_div]
 constructor<;>trivial
theorem OT(x y:Rat):((x+y).num=(x.num*((y.den / x.den.gcd y.den:Nat):Int)+y.num*((x.den / x.den.gcd y.den:Nat):Int)) / (((x.num*((y.den / x.den.gcd y.den:Nat):Int)+y.num*((x.den / x.den.gcd y.den:Nat):Int)).natAbs.gcd (x.den.gcd y.den):Nat):Int))/\((x+y).den=x.den / (x.den.gcd y.den)*(y.den / ((x.num*((y.den / x.den.gcd y.den:Nat):Int)+y.num*((x.den / x.den.gcd y.den:Nat):Int)).natAbs.gcd (x.den.gcd y.den)))):=by
 show(Rat.add x y).num=_/\(Rat.add x y).den=_
 unfold Rat.add
 by_cases hg:x.den.gcd y.den=1
 ·simp[hg]
 ·simp only[hg,dite_false,Rat.maybeNormalize_eq]
  refine⟨by simp,?_⟩;simp;have:(x.num*((y.den / x.den.gcd y.den:Nat):Int)+y.num*((x.den / x.den.gcd y.den:Nat):Int)).natAbs.gcd (x.den.gcd y.den) ∣ y.den:=Nat.dvd_trans (xR _ _) (xR _ _);simp at this;rw[Nat.mul_div_assoc _ this]
def fo(x y:Rat):Int:=((vk (x.den:Int) (y.den:Int):Nat):Int)
def kr(x y:Rat):Int:=x.num*(y.den:Int).fdiv (fo x y)+y.num*(x.den:Int).fdiv (fo x y)
def jl(x y:Rat):Int:=((vk (kr x y) (fo x y):Nat):Int)
theorem uY(x y:Rat):0<fo x y:=by
 have:0<vk (x.den:Int) (y.den:Int):=Int.gcd_pos_of_ne_zero_left _ (by have:=x.den_pos;lia);unfold fo;lia
theorem CF(x y:Rat):0<jl x y:=by
 have:0<vk (kr x y) (fo x y):=VW _ (by have:=uY x y;lia);unfold jl;lia
theorem Dv(x y:Rat):fo x y=((x.den.gcd y.den:Nat):Int):=by simp[fo,vk]
theorem pB(x y:Rat):fo x y ∣ (x.den:Int):=V2 ..
theorem r8(x y:Rat):fo x y ∣ (y.den:Int):=qA ..
theorem zB8(x y:Rat):jl x y ∣ kr x y:=V2 ..
theorem Dm(x y:Rat):jl x y ∣ fo x y:=qA ..
theorem M_(x y:Rat):kr x y=x.num*((y.den / x.den.gcd y.den:Nat):Int)+y.num*((x.den / x.den.gcd y.den:Nat):Int):=by
 have h:=uY x y;rw[kr,fG (r8 x y) (by lia),fG (pB x y) (by lia),Dv,Vx,Vx]
theorem OW(x y:Rat):jl x y=(((x.num*((y.den / x.den.gcd y.den:Nat):Int)+y.num*((x.den / x.den.gcd y.den:Nat):Int)).natAbs.gcd (x.den.gcd y.den):Nat):Int):=by
 rw[jl,M_,Dv];simp[vk]
theorem Uo(x y:Rat):(kr x y).fdiv (jl x y)=(x+y).num:=by
 have h:=CF x y;rw[fG (zB8 x y) (by lia),(OT x y).1,OW,M_]
theorem zzb(x y:Rat):(x.den:Int).fdiv (fo x y)*(y.den:Int).fdiv (jl x y)=((x+y).den:Int):=by
 have h:=CF x y;have h2:=uY x y;rw[fG (V5 (Dm x y) (r8 x y)) (by lia),fG (pB x y) (by lia),(OT x y).2,OW,Dv];simp only[Vc,Vx]
def gm(x y:Rat):Int:=((vk x.num (y.den:Int):Nat):Int)
theorem nH(x y:Rat):0<gm x y:=by
 have:0<vk x.num (y.den:Int):=VW _ (by have:=y.den_pos;lia);unfold gm;lia
theorem yw(x y:Rat):gm x y ∣ x.num:=V2 ..
theorem mL(x y:Rat):gm x y ∣ (y.den:Int):=qA ..
theorem yG(x y:Rat):gm x y=((x.num.natAbs.gcd y.den:Nat):Int):=by simp[gm,vk]
theorem YE(x y:Rat):x.num.fdiv (gm x y)*y.num.fdiv (gm y x)=(x*y).num:=by
 have h:=nH x y;have h2:=nH y x;rw[fG (yw x y) (by lia),fG (yw y x) (by lia),(Kw x y).1,yG,yG]
theorem zze(x y:Rat):(x.den:Int).fdiv (gm y x)*(y.den:Int).fdiv (gm x y)=((x*y).den:Int):=by
 have h:=nH x y;have h2:=nH y x;rw[fG (mL x y) (by lia),fG (mL y x) (by lia),(Kw x y).2,yG,yG];simp only[Vc,Vx]
theorem k9{n:Nat}{a d:Int}(h:Bd n a)(hd:d ∣ a)(hp:0<d):Bd n (a.fdiv d):=by
 rw[fG hd (by lia)];exact h.le (Qr a d)
theorem pQ{n:Nat}{a d:Int}(h:Bd n a)(hd:d ∣ a)(ha:0<a):Bd n d :=
 h.le (X6 (by lia) (Int.natAbs_dvd_natAbs.mpr hd))
theorem rE(t b:Int):vk (if t<0 then -t else t) b=vk t b:=by split<;>simp
theorem B9{n:Nat}{y:Rat}(h:ag n y):ag n (-y):=⟨by simpa using h.t.neg,by simpa using h.b⟩
theorem ztq(x y:Rat):x + -y=x-y:=(Rat.sub_eq_add_neg x y).symm
theorem sy{y:Rat}(h:0<y.num):(y⁻¹).num=(y.den:Int)/\((y⁻¹).den:Int)=y.num:=by
 have:¬ y.num<0:=by lia
 constructor
 ·rw[Rat.num_inv,QT h,QU]
 ·rw[Rat.den_inv];split<;>lia
theorem sH{y:Rat}(h:y.num<0):(y⁻¹).num = -(y.den:Int)/\((y⁻¹).den:Int) = -y.num:=by
 constructor
 ·rw[Rat.num_inv,Qg h,XA]
 ·rw[Rat.den_inv];split<;>lia
theorem Rc{n:Nat}{y:Rat}(h:ag n y)(hy:y≠0):ag n y⁻¹:=by
 have:=sX hy
 by_cases p:0<y.num
 ·exact⟨by rw[(sy p).1];exact h.b,by rw[(sy p).2];exact h.t⟩
 ·have p:y.num<0:=by lia
  exact⟨by rw[(sH p).1];exact h.b.neg,by rw[(sH p).2];exact h.t.neg⟩
theorem Pn(x y:Rat):0<(x.den:Int)*(y.den:Int):=vI (den_pos x) (den_pos y)
theorem getD_mem{α : Type}{xs:List α}{d : α}{i:Nat}(h:i<xs.length):xs.getD i d∈xs:=by
 rw[wb,wc h];exact vO h
def jK(x:Rat):Bool:=(!decide (x<0))&&(decide (x<1)&&decide ((x.den:Int)<=60))
structure eC(x:Rat):Prop where
 nn:0<=x
 lt:x<1
 den:x.den<=60
theorem eC.is{x:Rat}(h:eC x):jK x=true:=by
 have h1:=h.nn;have h2:=h.lt;have h3:=h.den;have h4:¬ x<0:=W9.mpr h1;have h5:(x.den:Int)<=60:=by lia
 simp[jK,h4,h2,h5]
theorem eC.dH{x:Rat}(h:eC x):ag 6 x:=by
 have h1:=h.nn;have h2:=h.lt;have h3:=h.den;have n0:0<=x.num:=qw.mpr h1
 have n1:x.num<x.den:=by
   have:=Rat.lt_iff x 1 |>.mp h2
   simpa using this
 exact ⟨⟨by have : (2 : Nat) ^ 6 = 64 := by decide
            omega⟩, ⟨by have : (2 : Nat) ^ 6 = 64 := by decide
                        omega⟩⟩
def mx(m:Rat)(l:List Rat):Rat:=l.foldl (λm x=>if m<x then x else m) m
theorem ND:∀(l:List Rat)(m:Rat),m<=mx m l /\ ∀y∈l,y<=mx m l
 | [],m=>⟨WB,λy h=>by cases h⟩
 | x::l,m=>by
  have h:=ND l (if m<x then x else m);have e:mx m (x::l)=mx (if m<x then x else m) l:=rfl;rw[e]
  have h1:m<=(if m<x then x else m)/\x<=(if m<x then x else m):=by
   split
   ·rename_i z;exact⟨vK z,WB⟩
   ·rename_i z;exact⟨WB,W9.mp z⟩
  refine⟨Qw h1.1 h.1,λy hy=>?_⟩;rcases wG.mp hy with rfl | hy
  ·exact Qw h1.2 h.1
  ·exact h.2 y hy
theorem Dz:∀(l:List Rat)(m:Rat),mx m l=m\/mx m l∈l
 | [],m=>.inl rfl
 | x::l,m=>by
  have e:mx m (x::l)=mx (if m<x then x else m) l:=rfl;rw[e];rcases Dz l (if m<x then x else m)with h | h
  ·rw[h]
   split
   ·exact .inr (wC ..)
   ·exact .inl rfl
  ·exact .inr (wB _ h)
theorem my(m x:Rat)(l:List Rat):mx m (l++[x])=if mx m l<x then x else mx m l:=by
 unfold mx;rw[xS];rfl
def aY(xs:List Rat):Rat:=mx (xs.getD 0 0) xs
theorem oG{xs:List Rat} : ∀y∈xs,y<=aY xs:=(ND xs _).2
theorem fC{xs:List Rat}(h:1<=xs.length):aY xs∈xs:=by
 rcases Dz xs (xs.getD 0 0)with e | e
 ·unfold aY
  rw[e,wb,wc (by lia)];exact vO _
 ·exact e
theorem km{xs:List Rat}{i:Nat}(h:i<xs.length):xs.take (i+1)=xs.take i++[xs.getD i 0]:=by
 rw[qB,wb,wc h];rfl
theorem yp{n:Nat}{xs:List Rat}(b:∀i,ag n (xs.getD i 0))(h1:1<=xs.length)(i:Nat):ag n (mx (xs.getD 0 0) (xs.take i)):=by
 rcases Dz (xs.take i) (xs.getD 0 0)with e | e
 ·rw[e];exact b 0
 ·have e:=Xm _ _ e
  obtain⟨j,hj,ej⟩:=w9 e;rw[<- ej];have:=b j;rw[wb,wc hj]at this;exact this
theorem Lj{r u:Int}(h0:0<=r)(h1:r<u)(h2:u<=60):eC (wu r u):=by
 refine⟨Ql h0 (by lia),Uq (c:=1) (by lia) (by lia),?_⟩;have:=Bo r u (by lia)
 lia
theorem eC.one_sub{x:Rat}(h:eC x):0<1-x/\1-x<=1:=by
 have h1:=h.nn;have h2:=h.lt;exact⟨by grind,by grind⟩
theorem LV{xs:List Rat}(h:1<=xs.length)(c:Rat):aY (xs.map (· + c))=aY xs+c:=by
 have h':1<=(xs.map (· + c)).length:=by rw[wm];exact h
 refine XE ?_ ?_
 ·obtain⟨x,hx,e⟩:=wS.mp (fC h')
  rw[<- e];have:=oG x hx;exact(Rat.add_le_add_right).mpr this
 ·exact oG _ (wS.mpr ⟨_,fC h,rfl⟩)
def aF(ps:List Rat)(left:List Nat):List Nat:=left.filter λw=>!decide (ps.getD w 0<1)
def bS(left wave:List Nat):List Nat:=left.filter λw=>!decide (w∈wave)
def cQ(f g:Rat)(ps:List Rat)(l:List Nat):List Rat:=l.foldl (λps w=>ps.set w (f*ps.getD w 0+g)) ps
def cN(a b:Rat):Nat->List Rat->List Nat->List (List Nat) × (List Nat × List Rat)
 | 0,ps,left=>([],left,ps)
 | n+1,ps,left=>match aF ps left with
  | []=>([],left,ps)
  | w::ws=>((w::ws)::(cN a b n (cQ (a^(w::ws).length) (aE a b (w::ws).length) ps (bS left (w::ws))) (bS left (w::ws))).1,(cN a b n (cQ (a^(w::ws).length) (aE a b (w::ws).length) ps (bS left (w::ws))) (bS left (w::ws))).2)
def iU(left:List Nat)(ps:List Rat):List Rat:=(wq ps.length).map λi=>if i∈left then ps.getD i 0 else 0
def bC(xs:List Rat):List Rat:=xs.map (· + (1-aY xs))
def dJ(a b:Rat)(xs:List Rat):List (List Nat) × (List Nat × List Rat):=cN a b xs.length (bC xs) (wq xs.length)
def c7(a b:Rat)(xs:List Rat):List (List Nat):=(dJ a b xs).1
def c9(a b:Rat)(xs:List Rat):List Rat:=iU (dJ a b xs).2.1 (dJ a b xs).2.2
theorem mI{a b:Rat}{n:Nat}{ps:List Rat}{left:List Nat}(h:aF ps left=[]):cN a b n ps left=([],left,ps):=by
 cases n with
 | zero=>rfl
 | succ n=>rw[cN,h]
theorem jj{a b:Rat}{n:Nat}{ps:List Rat}{left:List Nat}(h:aF ps left≠[]):cN a b (n+1) ps left=(aF ps left::(cN a b n (cQ (a^(aF ps left).length) (aE a b (aF ps left).length) ps (bS left (aF ps left))) (bS left (aF ps left))).1,(cN a b n (cQ (a^(aF ps left).length) (aE a b (aF ps left).length) ps (bS left (aF ps left))) (bS left (aF ps left))).2):=by
 rw[cN];cases e:aF ps left with
 | nil=>exact absurd e h
 | cons w ws=>rfl
theorem zrQ(f g:Rat)(ps:List Rat)(l:List Nat)(w:Nat):cQ f g ps (l++[w])=(cQ f g ps l).set w (f*(cQ f g ps l).getD w 0+g):=by
 unfold cQ;rw[xS];rfl
theorem iA(f g:Rat):∀(l:List Nat)(ps:List Rat),(cQ f g ps l).length=ps.length
 | [],ps=>rfl
 | w::l,ps=>by
  show(cQ f g (ps.set w _) l).length=_
  rw[iA f g l,Vb]
theorem LF{ps:List Rat}{w j:Nat}{y:Rat}(h:w≠j):(ps.set w y).getD j 0=ps.getD j 0:=by
 rw[wb,Vl,if_neg h,wb]
theorem PN{ps:List Rat}{w:Nat}{y:Rat}(h:w<ps.length):(ps.set w y).getD w 0=y:=by
 rw[wb,Vl,if_pos rfl,if_pos h];rfl
theorem jg(f g:Rat):∀(l:List Nat)(ps:List Rat),l.Nodup->(∀w∈l,w<ps.length)->∀j,(cQ f g ps l).getD j 0=if j∈l then f*ps.getD j 0+g else ps.getD j 0
 | [],ps,_,_,j=>by simp[cQ]
 | w::l,ps,nd,hl,j=>by
  have nd':=VL.mp nd
  show(cQ f g (ps.set w _) l).getD j 0=_
  rw[jg f g l _ nd'.2 (λv hv=>by rw[Vb];exact hl v (wB _ hv)) j]
  by_cases hj:j=w
  ·subst hj
   rw[if_neg nd'.1,if_pos (wC ..),PN (hl j (wC ..))]
  ·rw[LF (Wo hj)]
   by_cases hm:j∈l
   ·rw[if_pos hm,if_pos (wB _ hm)]
   ·rw[if_neg hm,if_neg (λz=>by rcases wG.mp z with z | z;(exact hj z);exact hm z)]
theorem ztV(ps:List Rat)(left:List Nat):bS left (aF ps left)=left.filter λw=>decide (ps.getD w 0<1):=by
 unfold bS;refine vG λw hw=>?_
 have e:(w∈aF ps left)=(¬ ps.getD w 0<1):=by
  unfold aF;rw[vb];simp[hw]
 simp only[e];simp
theorem AM(ps:List Rat)(left:List Nat):(aF ps left).length+(bS left (aF ps left)).length=left.length:=by
 rw[ztV];unfold aF
 induction left with
 | nil=>rfl
 | cons w l ih=>by_cases h:ps.getD w 0<1<;>simp only[WG,h,decide_true,decide_false,V6,Q5,if_true,if_false,Wl,vP]<;>lia
theorem mZ{left wave:List Nat}(h:left.Nodup):(bS left wave).Nodup:=h.filter _
theorem m6{left wave:List Nat}{n:Nat}(h:∀w∈left,w<n):∀w∈bS left wave,w<n:=λw hw=>h w (vb.mp hw).1
theorem Od(left:List Nat)(ps:List Rat):(iU left ps).length=ps.length:=by simp[iU]
theorem mD{left:List Nat}{ps:List Rat}{j:Nat}(h:j<ps.length):(iU left ps).getD j 0=if j∈left then ps.getD j 0 else 0:=by
 unfold iU;rw[wb,wt,vT h]
 rfl
theorem fF(xs:List Rat):(bC xs).length=xs.length:=by simp[bC]
theorem pD{a b:Rat} : ∀(n:Nat)(ps:List Rat)(left:List Nat),(cN a b n ps left).2.2.length=ps.length
 | 0,ps,left=>rfl
 | n+1,ps,left=>by
  by_cases h:aF ps left=[]
  ·rw[mI h]
  ·rw[jj h]
   show(cN a b n _ _).2.2.length=_
   rw[pD n,iA]
theorem jh(a b:Rat)(xs:List Rat):(c9 a b xs).length=xs.length:=by
 unfold c9 dJ;rw[Od,pD,fF]
theorem Cm.Jm{m:Nat}{ps:List Rat}{B:Int}(h0:0<B)(h1:Bd m B)(h:∀j,j<ps.length->∃t:Int,ps.getD j 0=wu t B/\Bd m t):∀x∈ps,∃t:Int,x=wu t B/\Bd m t:=λx hx=>by
 obtain⟨j,hj,e⟩:=w9 hx;have:=h j hj;rw[wb,wc hj]at this;rw[<- e];exact this
theorem yu{a b:Rat}(ba:ag 10 a)(bb:ag 10 b){m:Nat}{t:Int}(h:Bd m t):∀n:Nat,Bd (m+21*n) (t*((a.den:Int)*(b.den:Int))^n)
 | 0=>by simpa using h
 | n+1=>by
  rw[Vy,<- VI];exact((yu ba bb h n).mul (ba.b.mul bb.b)).mono (by lia)
theorem pW{t B d:Int}(h0:0<B)(hd:0<d):wu t B=wu (t*d) (B*d):=by
 symm
 refine f_ (by have:=vI h0 hd;lia) ?_;have q1:=cH t (show B≠0 by lia);rw[vJ,vJ,<- X4,q1]
theorem Cm.wave{m:Nat}{h:Rat}{ps:List Rat}{a b:Rat}(c:Cm m (h::ps))(ba:ag 10 a)(bb:ag 10 b)(n:Nat){l:List Nat}(nd:l.Nodup)(hl:∀w∈l,w<ps.length):Cm (m+21*n) (h::cQ (a^n) (aE a b n) ps l):=by
 obtain⟨B,h0,h1,h2⟩:=c;have hz:Bd m (0:Int):=⟨by simp;exact Wa m⟩;obtain⟨p1,p2,_⟩:=oJ ba bb h0 hz h1 n;have hd:0<((a.den:Int)*(b.den:Int))^n:=Xd (vI (den_pos a) (den_pos b));refine⟨_,p1,p2,λx hx=>?_⟩;rcases wG.mp hx with rfl | hx
 ·obtain⟨t,rfl,ht⟩:=h2 x (wC ..)
  exact⟨_,pW h0 hd,yu ba bb ht n⟩
 ·refine Cm.Jm p1 p2 (λj hj=>?_) x hx
  rw[iA]at hj;obtain⟨t,e,ht⟩:=h2 (ps.getD j 0) (wB _ (getD_mem hj));rw[jg _ _ _ _ nd hl]
  split
  ·obtain⟨_,_,T,e2,hT⟩:=oJ ba bb h0 ht h1 n
   exact⟨T,by rw[<- hJ,e,e2],hT⟩
  ·exact⟨_,by rw[e];exact pW h0 hd,yu ba bb ht n⟩
theorem Cm.rise{m:Nat}{h M:Rat}{xs:List Rat}(c:Cm m (h::xs))(hM:M∈xs):Cm (m+2) ((h+(1-M))::xs.map (· + (1-M))):=by
 obtain⟨B,h0,h1,h2⟩:=c;obtain⟨z,ez,hz⟩:=h2 M (wB _ hM)
 have key:∀t:Int,Bd m t->wu t B+(1-M)=wu (t+B-z) B/\Bd (m+2) (t+B-z):=λt ht=>by
  refine⟨?_,((ht.add h1).sub hz).mono (by lia)⟩;rw[ez]
  symm
  refine f_ (by lia) ?_;have q1:=cH t (show B≠0 by lia);have q2:=cH z (show B≠0 by lia);have q3:((t+B-z:Int):Rat)=(t:Rat)+(B:Rat)-(z:Rat):=by push_cast;rfl
  rw[q3,<- q1,<- q2]
  grind
 refine⟨B,h0,h1.mono (by lia),λx hx=>?_⟩;rcases wG.mp hx with rfl | hx
 ·obtain⟨t,e,ht⟩:=h2 h (wC ..)
  rw[e];exact⟨_,(key t ht).1,(key t ht).2⟩
 ·obtain⟨y,hy,rfl⟩:=wS.mp hx
  obtain⟨t,e,ht⟩:=h2 y (wB _ hy)
  show ∃t:Int,y+(1-M)=_/\_
  rw[e];exact⟨_,(key t ht).1,(key t ht).2⟩
theorem Cm.j7{m:Nat}{xs:List Rat}{ys:List Rat}(c:Cm m xs)(h:∀y∈ys,y∈xs\/y=0):Cm m ys:=by
 obtain⟨B,h0,h1,h2⟩:=c;refine⟨B,h0,h1,λy hy=>?_⟩;rcases h y hy with z | rfl
 ·exact h2 y z
 ·exact⟨0,by simp,⟨by simp;exact Wa m⟩⟩
theorem zxQ{left:List Nat}{ps:List Rat} : ∀y∈iU left ps,y∈ps\/y=0:=λy hy=>by
 unfold iU at hy;obtain⟨i,hi,e⟩:=wS.mp hy;rw[<- e]
 split
 ·exact .inl (getD_mem (wF.mp hi))
 ·exact .inr rfl
theorem Cm.Ji{k:Nat}{xs:List Rat}(h:∀i,ag k (xs.getD i 0)):Cm (k*xs.length+1+k) xs:=by
 have h0:=Ra xs xs.length;have h1:=Kc h xs.length;refine⟨mH xs xs.length,h0,h1.mono (by lia),Cm.Jm h0 (h1.mono (by lia)) λj hj=>?_⟩;exact⟨_,(zux h0 (Mk xs _ j hj)).symm,((h j).t.mul (Us (den_pos _) h0 h1)).mono (by lia)⟩
def ai(a b:Rat)(xs:List Rat):Nat->List Rat
 | 0=>xs
 | k+1=>c9 a b (ai a b xs k)
def aG(a b:Rat)(xs:List Rat):Nat->Rat
 | 0=>0
 | k+1=>aG a b xs k+(1-aY (ai a b xs k))
theorem bV(a b:Rat)(xs:List Rat):∀k,(ai a b xs k).length=xs.length
 | 0=>rfl
 | k+1=>by rw[ai,jh,bV a b xs k]
theorem Yg{xs:List Rat}(h:1<=xs.length)(c:Rat):bC (xs.map (· + c))=bC xs:=by
 unfold bC;rw[LV h,VB];refine qR λx _=>?_
 show x+c+(1-(aY xs+c))=x+(1-aY xs)
 grind
theorem zwo{a b:Rat}{xs:List Rat}(h:1<=xs.length)(c:Rat):dJ a b (xs.map (· + c))=dJ a b xs:=by
 unfold dJ;rw[Yg h,wm]
theorem B_{a b:Rat}{xs:List Rat}(h:1<=xs.length)(c:Rat):∀k,ai a b (xs.map (· + c)) (k+1)=ai a b xs (k+1)
 | 0=>by show c9 a b (xs.map (· + c))=c9 a b xs;unfold c9;rw[zwo h]
 | k+1=>by rw[ai,B_ h c k];rfl
theorem Nt{a b:Rat}{xs:List Rat}(h:1<=xs.length)(c:Rat):∀k,aG a b (xs.map (· + c)) (k+1)=aG a b xs (k+1)-c
 | 0=>by
  show(0:Rat)+(1-aY (xs.map (· + c)))=0+(1-aY xs)-c
  rw[LV h];grind
 | k+1=>by
  rw[aG,Nt h c k,B_ h]
  show _=aG a b xs (k+1)+(1-aY (ai a b xs (k+1)))-c
  grind
theorem zop{t B:Int}(h:0<B):wu t B<1 ↔ t<B:=by
 have hB:(0:Rat)<(B:Rat):=kc h;have q:=cH t (show B≠0 by lia)
 constructor
 ·intro z
  have:=Qb z hB;rw[q,qG]at this;exact VP.mp this
 ·intro z
  refine Qh (c:=(B:Rat)) ?_ (vK hB);rw[q,qG];exact VP.mpr z
theorem yP{f:Rat->Rat}{xs:List Rat}{w:Nat}(h:w<xs.length):(xs.map f).getD w 0=f (xs.getD w 0):=by
 rw[wb,wt,wc h,wb,wc h];rfl
def j6(d:Int)(m:Nat)(xs:List Rat):Prop:=∃B:Int,0<B/\d ∣ B/\Bd m B /\ ∀x∈xs,∃t:Int,x=wu t B/\Bd m t
theorem j6.of{d:Int}{m:Nat}{xs:List Rat}(h:Cm m xs)(hd:0<d)(b:Bd 4 d):j6 d (m+4) xs:=by
 obtain⟨B,h0,h1,h2⟩:=h;refine⟨B*d,vI h0 hd,Xk ..,(h1.mul b),λx hx=>?_⟩;obtain⟨t,e,ht⟩:=h2 x hx;exact⟨t*d,by rw[e];exact pW h0 hd,ht.mul b⟩
theorem RL{a b:Rat}(ta:Bd 6 a.num)(da:Bd 4 (a.den:Int))(tb:Bd 4 b.num){m:Nat}{t u:Int}(hu:0<u)(hd:(b.den:Int) ∣ u)(bt:Bd m t)(bu:Bd m u):∀n:Nat,0<u*(a.den:Int)^n/\(b.den:Int) ∣ u*(a.den:Int)^n/\Bd (m+9*n) (u*(a.den:Int)^n) /\
  ∃T:Int,push a b n (wu t u)=wu T (u*(a.den:Int)^n)/\Bd (m+9*n) T
 | 0=>⟨by simpa using hu,by simpa using hd,by simpa using bu,t,by simp[push],by simpa using bt⟩
 | n+1=>by
  obtain⟨h1,hdv,h2,T,e,hT⟩:=RL ta da tb hu hd bt bu n;have eb:u*(a.den:Int)^(n+1)=u*(a.den:Int)^n*(a.den:Int):=by rw[Vy,<- VI]
  rw[eb];generalize u*(a.den:Int)^n=U at *;obtain⟨c,rfl⟩:=hdv
  have hc:0<c:=by
   have hb:=den_pos b;rcases Int.lt_or_le 0 c with z | z
   ·exact z
   ·have:=Int.mul_nonpos_of_nonneg_of_nonpos (Int.le_of_lt hb) z
    lia
  have bc:Bd (m+9*n) c:=h2.le (by
   rw[Q3];exact Nat.le_mul_of_pos_left _ (by have:=den_pos b;lia))
  refine⟨vI h1 (den_pos a),V5 (Vm ..) (Vm ..),(h2.mul da).mono (by lia),a.num*T+b.num*(a.den:Int)*c,?_,((ta.mul hT).add ((tb.mul da).mul bc)).mono (by lia)⟩;rw[push,e]
  symm
  have hU:((b.den:Int)*c)*(a.den:Int)≠0:=by have:=vI h1 (den_pos a);lia
  refine f_ hU ?_;have q1:=cH T (show(b.den:Int)*c≠0 by lia);have q2:=jR a;have q3:=jR b;have q4:((a.num*T+b.num*(a.den:Int)*c:Int):Rat)=(a.num:Rat)*(T:Rat)+(b.num:Rat)*((a.den:Int):Rat)*(c:Rat):=by push_cast;rfl
  have q5:(((b.den:Int)*c*(a.den:Int):Int):Rat)=((b.den:Int):Rat)*(c:Rat)*((a.den:Int):Rat):=by push_cast;rfl
  have q6:(((b.den:Int)*c:Int):Rat)=((b.den:Int):Rat)*(c:Rat):=by push_cast;rfl
  rw[q6]at q1;rw[q4,q5,<- q1,<- q2,<- q3]
  grind
theorem eP(a b:Rat)(xs:List Rat)(m:Nat):∀k,ai a b (ai a b xs m) k=ai a b xs (m+k)
 | 0=>rfl
 | k+1=>by rw[ai,eP a b xs m k];rfl
theorem lz(a b:Rat)(xs:List Rat)(m:Nat):∀k,aG a b xs m+aG a b (ai a b xs m) k=aG a b xs (m+k)
 | 0=>by show aG a b xs m+0=aG a b xs m;grind
 | k+1=>by
  have:=lz a b xs m k
  show aG a b xs m+(aG a b (ai a b xs m) k+(1-aY (ai a b (ai a b xs m) k)))=aG a b xs (m+k)+(1-aY (ai a b xs (m+k)))
  rw[eP,<- this]
  grind
theorem MY{a b:Rat}(a0:0<a)(b0:0<=b){x:Rat}(h:0<x):∀n:Nat,0<push a b n x
 | 0=>h
 | n+1=>by
  have h1:=MY a0 b0 h n;have h2:=VO a0 h1
  show 0<a*push a b n x+b
  grind
structure g_(l:List Rat):Prop where
 pw:l.Pairwise (· > ·)
 nn:∀y∈l,0<=y
theorem g_.step{a b:Rat}(a0:0<a)(b0:0<=b){n:Nat}{x:Rat}{l:List Rat}(h:g_ (x::l))(x1:x<1):g_ (lF a b n (x::l)):=by
 have hp:=WM.mp h.pw;have pos:∀y∈l,0<push a b n (y+(1-x)):=λy hy=>MY a0 b0 (by have:=h.nn y (wB _ hy);grind) n
 unfold lF;refine⟨V3.mpr ⟨?_,QE _ _,?_⟩,λy hy=>?_⟩
 ·show(l.map λy=>push a b n (y+(1-x))).Pairwise (· > ·)
  rw[Qm];refine hp.2.imp λ{y z} hyz=>?_
  show push a b n (z+(1-x))<push a b n (y+(1-x))
  have hyz:z<y:=hyz;exact(zzg a0 n _ _).mpr (by grind)
 ·intro y hy z hz
  obtain⟨w,hw,rfl⟩:=wS.mp hy;rw[wY.mp hz];exact pos w hw
 ·rcases vM.mp hy with hy | hy
  ·obtain⟨w,hw,rfl⟩:=wS.mp hy
   exact vK (pos w hw)
  ·rw[wY.mp hy];exact WB
structure gH(xs row:List Rat)(fl:Nat->Nat):Prop where
 at':∀w,w<xs.length->xs.getD w 0=row.getD (fl w) 0
 lt:∀w,w<xs.length->fl w<row.length
def bE(n:Nat)(fl:Nat->Nat)(c:Nat):List Nat:=(wq n).filter λw=>decide (fl w=c)
theorem pP{xs row:List Rat}{fl:Nat->Nat}{c:Nat}(h:gH xs row fl)(some:∃w,w<xs.length/\fl w=c)(top:∀j,j<row.length->j≠c->row.getD j 0<row.getD c 0):aY xs=row.getD c 0:=by
 obtain⟨w,hw,rfl⟩:=some;have h1:1<=xs.length:=by lia
 refine XE ?_ ?_
 ·obtain⟨j,hj,e⟩:=w9 (fC h1)
  have ea:=h.at' j hj;rw[wb,wc hj]at ea;have ea:xs[j]=row.getD (fl j) 0:=ea;rw[<- e,ea]
  by_cases z:fl j=fl w
  ·rw[z];exact WB
  ·exact vK (top _ (h.lt j hj) z)
 ·rw[<- h.at' w hw]
  exact oG _ (getD_mem hw)
theorem B6{xs row:List Rat}{fl:Nat->Nat}{c:Nat}(h:gH xs row fl)(some:∃w,w<xs.length/\fl w=c)(top:∀j,j<row.length->j≠c->row.getD j 0<row.getD c 0):aF (bC xs) (wq xs.length)=bE xs.length fl c:=by
 unfold aF bE;refine vG λw hw=>?_
 have hw:=wF.mp hw;have hm:=pP h some top
 have e:(bC xs).getD w 0=row.getD (fl w) 0+(1-row.getD c 0):=by
  unfold bC;rw[wb,wt,wc hw,hm];have ea:=h.at' w hw;rw[wb,wc hw]at ea;have ea:xs[w]=row.getD (fl w) 0:=ea
  show xs[w]+(1-row.getD c 0)=_
  rw[ea]
 rw[e]
 by_cases z:fl w=c
 ·rw[z,decide_eq_true rfl,decide_eq_false (by grind)];rfl
 ·have:=top _ (h.lt w hw) z
  rw[decide_eq_false z,decide_eq_true (by grind)];rfl
theorem Ng{xs row:List Rat}{fl:Nat->Nat}{c:Nat}(h:gH xs row fl)(hm:aY xs=row.getD c 0){w:Nat}(hw:w<xs.length):(bC xs).getD w 0=row.getD (fl w) 0+(1-row.getD c 0):=by
 unfold bC;rw[wb,wt,wc hw,hm];have ea:=h.at' w hw;rw[wb,wc hw]at ea;have ea:xs[w]=row.getD (fl w) 0:=ea
 show xs[w]+(1-row.getD c 0)=_
 rw[ea]
theorem zry{a b:Rat}{xs row:List Rat}{fl:Nat->Nat}{c:Nat}(h:gH xs row fl)(some:∃w,w<xs.length/\fl w=c)(top:∀j,j<row.length->j≠c->row.getD j 0<row.getD c 0)
  (low:∀j,j<row.length->j≠c->(∃w,w<xs.length/\fl w=j)->push a b (bE xs.length fl c).length (row.getD j 0+(1-row.getD c 0))<1) :
  c7 a b xs=[bE xs.length fl c]/\gH (c9 a b xs) (dw a b (bE xs.length fl c).length row c) fl:=by
 have hm:=pP h some top;have he:=B6 h some top;obtain⟨w0,hw0,hf0⟩:=some
 have hne:bE xs.length fl c≠[]:=λe=>by
  have:w0∈bE xs.length fl c:=vb.mpr ⟨wF.mpr hw0,decide_eq_true hf0⟩;rw[e]at this;cases this
 have hlen:xs.length=(xs.length-1)+1:=by lia
 have hcl:c<row.length:=by rw[<- hf0];exact h.lt w0 hw0
 have nd:=W1 (n:=xs.length)
 have hmemL:∀w,w∈bS (wq xs.length) (bE xs.length fl c) ↔ w<xs.length/\fl w≠c:=λw=>by
  unfold bS bE;rw[vb,wF]
  constructor
  ·rintro ⟨h1,h2⟩
   refine⟨h1,λz=>?_⟩;have:w∈(wq xs.length).filter λw=>decide (fl w=c):=vb.mpr ⟨wF.mpr h1,decide_eq_true z⟩
   simp[this]at h2
  ·rintro ⟨h1,h2⟩
   exact⟨h1,by simp[h2]⟩
 have hps:∀w,w<xs.length->fl w≠c->(cQ (a^(bE xs.length fl c).length) (aE a b (bE xs.length fl c).length) (bC xs) (bS (wq xs.length) (bE xs.length fl c))).getD w 0=push a b (bE xs.length fl c).length (row.getD (fl w) 0+(1-row.getD c 0)):=λw hw hf=>by
  rw[jg _ _ _ _ (mZ nd) (λv hv=>by rw[fF];exact((hmemL v).mp hv).1),if_pos ((hmemL w).mpr ⟨hw,hf⟩),Ng h hm hw,hJ]
 have hend:aF (cQ (a^(bE xs.length fl c).length) (aE a b (bE xs.length fl c).length) (bC xs) (bS (wq xs.length) (bE xs.length fl c))) (bS (wq xs.length) (bE xs.length fl c))=[]:=by
  unfold aF;rw[QX];intro w hw;have hw':=(hmemL w).mp hw;rw[hps w hw'.1 hw'.2];have:=low (fl w) (h.lt w hw'.1) hw'.2 ⟨w,hw'.1,rfl⟩;rw[decide_eq_true this]
  decide
 have hR:dJ a b xs=([bE xs.length fl c],bS (wq xs.length) (bE xs.length fl c),cQ (a^(bE xs.length fl c).length) (aE a b (bE xs.length fl c).length) (bC xs) (bS (wq xs.length) (bE xs.length fl c))):=by
  unfold dJ;generalize hN:cN a b xs.length (bC xs) (wq xs.length)=r;rw[show cN a b xs.length (bC xs) (wq xs.length)=cN a b ((xs.length-1)+1) (bC xs) (wq xs.length) by rw[<- hlen],jj (by rw[he];exact hne),he,mI hend]at hN;exact hN.symm
 refine⟨by unfold c7;rw[hR],λw hw=>?_,λw hw=>by rw[gT];exact h.lt w (by rw[jh]at hw;exact hw)⟩;rw[jh]at hw;have hfw:=h.lt w hw;unfold c9;rw[hR,mD (by rw[iA,fF];exact hw),gh _ _ _ _ _ _ hfw]
 by_cases z:fl w=c
 ·rw[if_neg (λy=>((hmemL w).mp y).2 z),if_pos z]
 ·rw[if_pos ((hmemL w).mpr ⟨hw,z⟩),if_neg z,hps w hw z]
theorem zst{a b:Rat}{xs row:List Rat}{fl:Nat->Nat}{c:Nat}(h:gH xs row fl)(some:∃w,w<xs.length/\fl w=c)(top:∀j,j<row.length->j≠c->row.getD j 0<row.getD c 0)
  {w1:Nat} (hw1:w1<xs.length) (hf1:fl w1≠c) (up:¬ push a b (bE xs.length fl c).length (row.getD (fl w1) 0+(1-row.getD c 0))<1):1<(c7 a b xs).length:=by
 have hm:=pP h some top;have he:=B6 h some top;obtain⟨w0,hw0,hf0⟩:=some
 have hne:bE xs.length fl c≠[]:=λe=>by
  have:w0∈bE xs.length fl c:=vb.mpr ⟨wF.mpr hw0,decide_eq_true hf0⟩;rw[e]at this;cases this
 have hw01:w0≠w1:=λe=>hf1 (by rw[<- e];exact hf0)
 have hlen:xs.length=(xs.length-2)+1+1:=by lia
 have nd:=W1 (n:=xs.length)
 have hmem:w1∈bS (wq xs.length) (bE xs.length fl c):=by
  unfold bS bE;rw[vb,wF];exact⟨hw1,by simp[hf1]⟩
 have hend:aF (cQ (a^(bE xs.length fl c).length) (aE a b (bE xs.length fl c).length) (bC xs) (bS (wq xs.length) (bE xs.length fl c))) (bS (wq xs.length) (bE xs.length fl c))≠[]:=λe=>by
  have:w1∈aF (cQ (a^(bE xs.length fl c).length) (aE a b (bE xs.length fl c).length) (bC xs) (bS (wq xs.length) (bE xs.length fl c))) (bS (wq xs.length) (bE xs.length fl c)):=by
   unfold aF;refine vb.mpr ⟨hmem,?_⟩;rw[jg _ _ _ _ (mZ nd) (λv hv=>by rw[fF];exact wF.mp (vb.mp hv).1),if_pos hmem,Ng h hm hw1,<- hJ,decide_eq_false up]
   rfl
  rw[e]at this;cases this
 unfold c7 dJ;rw[show cN a b xs.length (bC xs) (wq xs.length)=cN a b ((xs.length-2)+1+1) (bC xs) (wq xs.length) by rw[<- hlen],jj (by rw[he];exact hne),he,jj hend]
 show 1<(_::_::_:List (List Nat)).length
 simp
theorem SE{a b:Rat}{ns:List Int}{row:List Rat}{i j:Nat}(hi:i<=row.length)(hj:j<row.length):(aO a b ns row i).getD j 0∈turned a b ns row i:=by
 have hl:=di a b ns row i;rw[mQ a b ns row i hi];have hm:(aO a b ns row i).getD j 0∈aO a b ns row i:=getD_mem (by lia);generalize (aO a b ns row i).getD j 0=y at hm;have hm2:y∈(aO a b ns row i).take i++(aO a b ns row i).drop i:=by rw[List.take_append_drop];exact hm
 rcases vM.mp hm2 with z | z
 ·exact vM.mpr (.inr z)
 ·exact vM.mpr (.inl z)
theorem BL{a b:Rat}{ns:List Int}{row:List Rat}{i j:Nat}(h:g_ (turned a b ns row i))(hi:i<row.length)(hj:j<row.length)(hne:j≠i):(aO a b ns row i).getD j 0<(aO a b ns row i).getD i 0:=by
 have hl:=di a b ns row i;have hpw:=h.pw;rw[mQ a b ns row i (by lia),qb (by lia),Xj]at hpw;have hp:=(WM.mp hpw).1;have e:(aO a b ns row i).getD i 0=(aO a b ns row i)[i]'(by lia):=by rw[wb,wc (by lia)];rfl
 rw[e];refine hp _ ?_;rw[vM];have ej:(aO a b ns row i).getD j 0=(aO a b ns row i)[j]'(by lia):=by rw[wb,wc (by lia)];rfl
 rw[ej];rcases wD j i with z | z
 ·refine .inr (xg.mpr ⟨j,by rw[Ws];lia,?_⟩)
  rw[xT]
 ·refine .inl (xg.mpr ⟨j-(i+1),by rw[vU];lia,?_⟩)
  rw[xU]
  congr 1
  lia
def eD(a b:Rat)(ns:List Int)(row:List Rat)(i:Nat):Rat:=(aO a b ns row (i+1)).getD ((i+1) % row.length) 0
structure gc(xs row:List Rat)(fl:Nat->Nat)(ns:List Int):Prop where
 pl:gH xs row fl
 Av:g_ row
 one:row.getD 0 0<1
 len:ns.length=row.length
 some:∀c,c<row.length->∃w,w<xs.length/\fl w=c
 size:∀c,c<row.length->(ns.getD c 0).toNat=(bE xs.length fl c).length
theorem tN{a b:Rat}(a0:0<a)(b0:0<=b){xs row:List Rat}{fl:Nat->Nat}{ns:List Int}(h:gc xs row fl ns):∀i,i<=row.length->(∀t,t<i->eD a b ns row t<1)->gH (ai a b xs i) (aO a b ns row i) fl/\g_ (turned a b ns row i)/\(i<row.length->(aO a b ns row i).getD i 0<1) /\ ∀t,t<i->c7 a b (ai a b xs t)=[bE xs.length fl t]
 | 0,_,_=>⟨h.pl,h.Av,λ_=>h.one,λt ht=>by lia⟩
 | i+1,hi,ht=>by
  obtain⟨P,F,o,W⟩:=tN a0 b0 h i (by lia) (λt ht'=>ht t (by lia));have hl:=di a b ns row i;have hpl:=bV a b xs i;have hi':i<row.length:=by lia
  have oi:=o hi';have ti:=ht i (by lia)
  have hne:turned a b ns row i≠[]:=λe=>by
   have:=A_ a b ns row (by lia) i;rw[e]at this;simp at this;lia
  obtain⟨x,l,ex⟩:∃x l,turned a b ns row i=x::l:=by
   cases e:turned a b ns row i with
   | nil=>exact absurd e hne
   | cons x l=>exact⟨x,l,rfl⟩
  have hx:x=(aO a b ns row i).getD i 0:=by
   have:=Dl a b ns row hi';rw[ex]at this;exact this
  have F1:g_ (turned a b ns row (i+1)):=by
   show g_ (lF a b (ns.getD i 0).toNat (turned a b ns row i))
   rw[ex]at F ⊢;exact F.step a0 b0 (by rw[hx];exact oi)
  have hsz:(ns.getD i 0).toNat=(bE (ai a b xs i).length fl i).length:=by rw[hpl];exact h.size i hi'
  have hrow:aO a b ns row (i+1)=dw a b (bE (ai a b xs i).length fl i).length (aO a b ns row i) i:=by rw[<- hsz];rfl
  -- the head of what is turned is the top: all others are below 1
  have headTop:(turned a b ns row (i+1)).headD 0=eD a b ns row i:=by
   unfold eD;rcases wD (i+1) row.length with z | z
   ·rw[Dl a b ns row z,Xn z]
   ·have e:i+1=row.length:=by lia
    rw[e,Nat.mod_self,mQ a b ns row _ (wo _)];have hl1:=di a b ns row row.length;rw[QW (by lia),W8 (by lia),qL];cases e2:aO a b ns row row.length with
    | nil=>rw[e2]at hl1;simp at hl1;lia
    | cons y m=>rfl
  have below:∀y∈turned a b ns row (i+1),y<1:=λy hy=>by
   have hpw:=F1.pw;cases e2:turned a b ns row (i+1)with
   | nil=>rw[e2]at hy;cases hy
   | cons z m =>
    rw[e2]at hy hpw headTop
    have hz:z<1:=by
     have:z=eD a b ns row i:=headTop;rw[this];exact ti
    rcases wG.mp hy with rfl | hy
    ·exact hz
    ·have:=(WM.mp hpw).1 y hy
     have:y<z:=this
     grind
  have G:=zry (a:=a) (b:=b) (c:=i) P (by obtain⟨w,h1,h2⟩:=h.some i hi';exact⟨w,by lia,h2⟩) (λj hj hji=>BL F hi' (by lia) hji) (λj hj hji _=>by
   have hm:=SE (a:=a) (b:=b) (ns:=ns) (row:=row) (i:=i+1) (j:=j) hi (by lia);have:=below _ hm;rw[hrow,gh _ _ _ _ _ _ hj,if_neg hji]at this;exact this)
  refine⟨by rw[hrow];exact G.2,F1,λhlt=>?_,λt ht'=>?_⟩
  ·have:=below _ (SE (a:=a) (b:=b) (ns:=ns) (row:=row) (i:=i+1) (j:=i+1) hi hlt)
   exact this
  ·rcases wD t i with z | z
   ·exact W t z
   ·have:t=i:=by lia
    subst this;have:=G.1;rw[hpl]at this;exact this
def fP(xs:List Rat)(v:Rat):List Nat:=(wq xs.length).filter λw=>decide (xs.getD w 0=v)
def iM:Nat->List Rat->List Rat
 | 0,_=>[]
 | _+1,[]=>[]
 | n+1,x::l=>aY (x::l)::iM n ((x::l).filter λy=>!decide (y=aY (x::l)))
def ak(xs:List Rat):List Rat:=iM xs.length xs
theorem Dt(n:Nat):iM n []=[]:=by cases n<;>rfl
theorem m7{n:Nat}{l:List Rat}(h:l≠[]):iM (n+1) l=aY l::iM n (l.filter λy=>!decide (y=aY l)):=by
 cases l with
 | nil=>exact absurd rfl h
 | cons x l=>rfl
theorem Nd{l:List Rat}(h:l≠[]):(l.filter λy=>!decide (y=aY l)).length<l.length:=by
 have hm:aY l∈l:=fC (VF.mpr h);rcases wD (l.filter λy=>!decide (y=aY l)).length l.length with z | z
 ·exact z
 ·have:=List.length_filter_eq_length_iff.mp (Nat.le_antisymm (Wr _ _) z) (aY l) hm
  simp at this
theorem B7:∀(n:Nat)(l:List Rat),∀y∈iM n l,y∈l
 | 0,l,y,h=>by cases h
 | n+1,[],y,h=>by cases h
 | n+1,x::l,y,h=>by
  rw[m7 (by simp)]at h;rcases wG.mp h with rfl | h
  ·exact fC (by simp)
  ·exact(vb.mp (B7 n _ y h)).1
theorem je:∀(n:Nat)(l:List Rat),(iM n l).Pairwise (· > ·)
 | 0,l=>xl.nil
 | n+1,[]=>xl.nil
 | n+1,x::l=>by
  rw[m7 (by simp)];refine WM.mpr ⟨λy hy=>?_,je n _⟩;have hf:=vb.mp (B7 n _ y hy);have h1:=oG y hf.1;have h2:¬ y=aY (x::l):=by simpa using hf.2
  show y<aY (x::l)
  exact ql h1 h2
theorem Ri:∀(n:Nat)(l:List Rat),l.length<=n->∀y∈l,y∈iM n l
 | 0,l,h,y,hy=>by
  have:l=[]:=qz.mp (by lia);rw[this]at hy;cases hy
 | n+1,[],h,y,hy=>by cases hy
 | n+1,x::l,h,y,hy=>by
  rw[m7 (by simp)]
  by_cases z:y=aY (x::l)
  ·rw[z];exact wC ..
  ·have hl:=Nd (l:=x::l) (by simp)
   refine wB _ (Ri n _ (by lia) y (vb.mpr ⟨hy,by simp[z]⟩))
def aS(xs:List Rat)(w:Nat):Nat:=(ak xs).idxOf (xs.getD w 0)
theorem sP{xs:List Rat}{y:Rat}(h:y∈xs):y∈ak xs:=Ri _ _ (wo _) y h
theorem kA{xs:List Rat}{y:Rat}(h:y∈ak xs):y∈xs:=B7 _ _ y h
theorem kG(xs:List Rat):gH xs (ak xs) (aS xs):=by
 have key:∀w,w<xs.length->aS xs w<(ak xs).length:=λw hw=>List.idxOf_lt_length_of_mem (sP (getD_mem hw))
 refine⟨λw hw=>?_,key⟩;rw[wb (l:=ak xs),wc (key w hw)];exact(List.getElem_idxOf (key w hw)).symm
theorem Ck{xs:List Rat}{w c:Nat}(hw:w<xs.length)(hc:c<(ak xs).length):aS xs w=c ↔ xs.getD w 0=(ak xs).getD c 0:=by
 have P:=kG xs;have e:=P.at' w hw;have hl:=P.lt w hw
 constructor
 ·rintro rfl;exact e
 ·intro h
  rw[e]at h;rcases Vn (aS xs w) c with z | z | z
  ·have:=(Wf.mp (je xs.length xs)) (aS xs w) c hl hc z
   rw[wb,wc hl,wb,wc hc]at h;have h:(ak xs)[aS xs w]=(ak xs)[c]:=h;have this:(ak xs)[c]<(ak xs)[aS xs w]:=this;rw[h]at this;exact absurd this (by grind)
  ·exact z
  ·have:=(Wf.mp (je xs.length xs)) c (aS xs w) hc hl z
   rw[wb,wc hl,wb,wc hc]at h;have h:(ak xs)[aS xs w]=(ak xs)[c]:=h;have this:(ak xs)[aS xs w]<(ak xs)[c]:=this;rw[h]at this;exact absurd this (by grind)
theorem zwe{xs:List Rat}{c:Nat}(hc:c<(ak xs).length):bE xs.length (aS xs) c=fP xs ((ak xs).getD c 0):=by
 unfold bE fP;refine vG λw hw=>?_
 exact decide_eq_decide.mpr (Ck (wF.mp hw) hc)
def bG(xs:List Rat):List Int:=(ak xs).map λv=>((fP xs v).length:Int)
theorem RM{xs:List Rat}(nn:∀x∈xs,0<=x)(lt:∀x∈xs,x<1):gc xs (ak xs) (aS xs) (bG xs) where
 pl:=kG xs
 Av:=⟨je _ _,λy hy=>nn y (kA hy)⟩
 one:=by
  rcases wD 0 (ak xs).length with z | z
  ·exact lt _ (kA (getD_mem z))
  ·rw[wb,wE z];decide
 len:=by unfold bG;rw[wm]
 some:=λc hc=>by
  obtain⟨w,hw,e⟩:=w9 (kA (getD_mem (d:=0) hc));refine⟨w,hw,(Ck hw hc).mpr ?_⟩;rw[wb,wc hw];exact e
 size:=λc hc=>by
  rw[zwe hc];unfold bG;rw[wb,wt,wc hc,wb,wc hc]
  rfl
theorem SY:∀{l m:List Rat},l.Pairwise (· > ·)->m.Pairwise (· > ·)->(∀y,y∈l ↔ y∈m)->l=m
 | [],[],_,_,_=>rfl
 | [],y::m,_,_,h=>by have:=(h y).mpr (wC ..);cases this
 | x::l,[],_,_,h=>by have:=(h x).mp (wC ..);cases this
 | x::l,y::m,hl,hm,h=>by
  have pl:=WM.mp hl;have pm:=WM.mp hm
  have e:x=y:=by
   rcases wG.mp ((h x).mp (wC ..))with z | z
   ·exact z
   ·rcases wG.mp ((h y).mpr (wC ..))with z2 | z2
    ·exact z2.symm
    ·have a1:x<y:=pm.1 x z
     have a2:y<x:=pl.1 y z2
     grind
  subst e;rw[SY pl.2 pm.2 λz=>⟨λhz=>?_,λhz=>?_⟩]
  ·rcases wG.mp ((h z).mp (wB _ hz))with e | e
   ·have:z<x:=pl.1 z hz
    rw[e]at this;exact absurd this (by grind)
   ·exact e
  ·rcases wG.mp ((h z).mpr (wB _ hz))with e | e
   ·have:z<x:=pm.1 z hz
    rw[e]at this;exact absurd this (by grind)
   ·exact e
theorem zrL{ys row:List Rat}{fl:Nat->Nat}(P:gH ys row fl)(F:row.Pairwise (· > ·))(some:∀c,c<row.length->∃w,w<ys.length/\fl w=c):ak ys=row:=by
 refine SY (je _ _) F λy=>⟨λh=>?_,λh=>?_⟩
 ·obtain⟨w,hw,e⟩:=w9 (kA h)
  have ea:=P.at' w hw;rw[wb,wc hw]at ea;have ea:ys[w]=row.getD (fl w) 0:=ea;rw[<- e,ea];exact getD_mem (P.lt w hw)
 ·obtain⟨c,hc,e⟩:=w9 h
  obtain⟨w,hw,hf⟩:=some c hc;have ea:=P.at' w hw;rw[hf,wb (l:=row),wc hc]at ea;have ea:ys.getD w 0=row[c]:=ea;rw[<- e,<- ea];exact sP (getD_mem hw)
def eF(a b:Rat)(ns:List Int)(row:List Rat):Nat->Rat
 | 0=>0
 | k+1=>eF a b ns row k+(1-(aO a b ns row k).getD k 0)
theorem O8{a b:Rat}(a0:0<a)(b0:0<=b){xs row:List Rat}{fl:Nat->Nat}{ns:List Int}(h:gc xs row fl ns):∀i,i<=row.length->(∀t,t<i->eD a b ns row t<1)->aG a b xs i=eF a b ns row i
 | 0,_,_=>rfl
 | i+1,hi,ht=>by
  have ht':∀t,t<i->eD a b ns row t<1:=λt z=>ht t (by lia)
  obtain⟨P,F,_,_⟩:=tN a0 b0 h i (by lia) ht';have hpl:=bV a b xs i;have hl:=di a b ns row i;have hm:=pP (c:=i) P (by obtain⟨w,h1,h2⟩:=h.some i (by lia);exact⟨w,by lia,h2⟩) (λj hj hji=>BL F (by lia) (by lia) hji);rw[aG,eF,O8 a0 b0 h i (by lia) ht',hm]
theorem zv2{a b:Rat}(a0:0<a)(b0:0<=b){xs row:List Rat}{fl:Nat->Nat}{ns:List Int}(h:gc xs row fl ns){t:Nat}(ht:t<row.length)(free:∀s,s<t->eD a b ns row s<1)(up:¬ eD a b ns row t<1):1<(c7 a b (ai a b xs t)).length:=by
 obtain⟨P,F,o,_⟩:=tN a0 b0 h t (by lia) free;have hpl:=bV a b xs t;have hl:=di a b ns row t;have hsz:(ns.getD t 0).toNat=(bE (ai a b xs t).length fl t).length:=by rw[hpl];exact h.size t ht
 have hrow:aO a b ns row (t+1)=dw a b (bE (ai a b xs t).length fl t).length (aO a b ns row t) t:=by rw[<- hsz];rfl
 have hj:(t+1) % row.length<row.length:=XF _ (by lia)
 have hne:(t+1) % row.length≠t:=λe=>by
  apply up
  unfold eD;rw[hrow,e,gh _ _ _ _ _ _ (by lia),if_pos rfl]
  decide
 obtain⟨w1,hw1,hf1⟩:=h.some _ hj;refine zst (c:=t) P (by obtain⟨w,h1,h2⟩:=h.some t ht;exact⟨w,by lia,h2⟩) (λj hj hji=>BL F ht (by lia) hji) (w1:=w1) (by lia) (by rw[hf1];exact hne) ?_;intro z
 apply up
 unfold eD;rw[hrow,gh _ _ _ _ _ _ (by lia),if_neg hne,<- hf1];exact z
theorem oZ{a b:Rat}(a0:0<a)(b0:0<=b):∀n:Nat,0<=aE a b n
 | 0=>WB
 | n+1=>by
  have h1:=oZ a0 b0 n;have h2:=qx (vK a0) h1
  show 0<=a*aE a b n+b
  grind
theorem E_{a b:Rat}(a0:0<a)(b0:0<=b):∀(n:Nat)(ps:List Rat)(left:List Nat),left.length<=n->left.Nodup->(∀w∈left,w<ps.length)->(∀w∈left,0<=ps.getD w 0) ->
  ∀w∈(cN a b n ps left).2.1,w∈left/\0<=(cN a b n ps left).2.2.getD w 0/\(cN a b n ps left).2.2.getD w 0<1
 | 0,ps,left,hn,_,_,_=>by
  have:left=[]:=qz.mp (by lia);subst this;intro w hw;cases (show w∈([]:List Nat)from hw)
 | n+1,ps,left,hn,nd,hlt,nn=>by
  by_cases e:aF ps left=[]
  ·rw[mI e]
   intro w hw;have hw:w∈left:=hw;refine⟨hw,nn w hw,?_⟩;have:¬ w∈aF ps left:=by rw[e];simp
   unfold aF at this;rw[vb]at this
   show ps.getD w 0<1
   by_cases z:ps.getD w 0<1
   ·exact z
   ·exact absurd ⟨hw,by simp only[z,decide_false,Q5]⟩ this
  ·rw[jj e]
   have hl:=AM ps left;have hp:=VF.mpr e;have nd':(bS left (aF ps left)).Nodup:=mZ nd;have lt':∀w∈bS left (aF ps left),w<(cQ (a^(aF ps left).length) (aE a b (aF ps left).length) ps (bS left (aF ps left))).length:=λw hw=>by rw[iA];exact m6 hlt w hw
   have ih:=E_ a0 b0 n (cQ (a^(aF ps left).length) (aE a b (aF ps left).length) ps (bS left (aF ps left))) (bS left (aF ps left)) (by lia) nd' lt' (λw hw=>by
    rw[jg _ _ _ _ nd' (m6 hlt),if_pos hw];have h1:=nn w (vb.mp hw).1;have h2:=qx (vK (pe a0 (aF ps left).length)) h1;have h3:=oZ a0 b0 (aF ps left).length
    grind)
   intro w hw;have:=ih w hw;exact⟨(vb.mp this.1).1,this.2⟩
theorem OM{xs:List Rat}(nn:∀x∈xs,0<=x)(lt:∀x∈xs,x<1){w:Nat}(hw:w<xs.length):0<=(bC xs).getD w 0:=by
 have h1:=fC (xs:=xs) (by lia);have h2:=lt _ h1;have h3:=nn _ (getD_mem (d:=0) hw);unfold bC;rw[yP hw]
 grind
theorem NM{a b:Rat}(a0:0<a)(b0:0<=b){xs:List Rat}(nn:∀x∈xs,0<=x)(lt:∀x∈xs,x<1):∀y∈c9 a b xs,0<=y/\y<1:=λy hy=>by
 obtain⟨j,hj,e⟩:=w9 hy;have hlen:=jh a b xs;have hjx:j<xs.length:=by lia
 have hpl:(dJ a b xs).2.2.length=xs.length:=by
  unfold dJ;rw[pD,fF]
 have e2:(c9 a b xs).getD j 0=y:=by rw[wb,wc hj];exact e
 unfold c9 at e2;rw[mD (by lia)]at e2
 split at e2
 ·rename_i hm
  have:=E_ a0 b0 xs.length (bC xs) (wq xs.length) (by simp) W1 (λw hw=>by rw[fF];exact wF.mp hw) (λw hw=>OM nn lt (wF.mp hw)) j hm;rw[<- e2];exact this.2
 ·rw[<- e2];exact⟨WB,by decide⟩
theorem zrI{a b:Rat}(a0:0<a)(b0:0<=b){xs:List Rat}(h1:1<=xs.length)(nn:∀x∈xs,0<=x)(lt:∀x∈xs,x<1):0∈c9 a b xs:=by
 obtain⟨j,hj,e⟩:=w9 (fC h1)
 have hr:(bC xs).getD j 0=1:=by
  unfold bC;rw[yP hj,wb,wc hj]
  show xs[j]+(1-aY xs)=1
  rw[e];grind
 have hend:j∈aF (bC xs) (wq xs.length):=by
  unfold aF;rw[vb];refine⟨wF.mpr hj,?_⟩;rw[hr];decide
 have hne:aF (bC xs) (wq xs.length)≠[]:=λz=>by rw[z]at hend;cases hend
 have hpl:(dJ a b xs).2.2.length=xs.length:=by
  unfold dJ;rw[pD,fF]
 have hnot:¬ j∈(dJ a b xs).2.1:=λz=>by
  unfold dJ at z;obtain⟨n,hn⟩:∃n,xs.length=n+1:=⟨xs.length-1,by lia⟩;have hl:=AM (bC xs) (wq xs.length);rw[vB]at hl;have hp:=VF.mpr hne;have z':j∈(cN a b (n+1) (bC xs) (wq xs.length)).2.1:=by rw[<- hn];exact z
  rw[jj hne]at z';have nd':(bS (wq xs.length) (aF (bC xs) (wq xs.length))).Nodup:=mZ W1;have ltr:∀w∈wq xs.length,w<(bC xs).length:=λw hw=>by rw[fF];exact wF.mp hw
  have:=E_ a0 b0 n _ _ (by lia) nd' (λw hw=>by rw[iA];exact m6 ltr w hw) (λw hw=>by
   rw[jg _ _ _ _ nd' (m6 ltr),if_pos hw];have h1:=OM nn lt (wF.mp (vb.mp hw).1);have h2:=qx (vK (pe a0 (aF (bC xs) (wq xs.length)).length)) h1;have h3:=oZ a0 b0 (aF (bC xs) (wq xs.length)).length
   grind) j z'
  have:=(vb.mp this.1).2;simp only[hend,decide_true,V6]at this;cases this
 have hlen:=jh a b xs
 have hg:(c9 a b xs).getD j 0=0:=by
  unfold c9;rw[mD (by lia),if_neg hnot]
 rw[<- hg];exact getD_mem (by lia)
structure c8(xs:List Rat):Prop where
 nn:∀x∈xs,0<=x
 lt:∀x∈xs,x<1
theorem c8.me{a b:Rat}(a0:0<a)(b0:0<=b){xs:List Rat}(h:c8 xs):c8 (c9 a b xs):=⟨λy hy=>(NM a0 b0 h.nn h.lt y hy).1,λy hy=>(NM a0 b0 h.nn h.lt y hy).2⟩
theorem c8.at{a b:Rat}(a0:0<a)(b0:0<=b){xs:List Rat}(h:c8 xs):∀k,c8 (ai a b xs k)
 | 0=>h
 | k+1=>(c8.at a0 b0 h k).me a0 b0
theorem c8.zero{a b:Rat}(a0:0<a)(b0:0<=b){xs:List Rat}(h:c8 xs)(h1:1<=xs.length){k:Nat}(hk:1<=k):0∈ai a b xs k:=by
 obtain⟨j,rfl⟩:∃j,k=j+1:=⟨k-1,by lia⟩;have:=h.at a0 b0 j;exact zrI a0 b0 (by rw[bV];exact h1) this.nn this.lt
theorem Df{xs:List Rat}(h:c8 xs)(h0:0∈xs):(ak xs).dropLast++[0]=ak xs:=by
 have hm:=sP h0;have hne:ak xs≠[]:=λe=>by rw[e]at hm;cases hm
 have hpw:(ak xs).Pairwise (· > ·):=je _ _
 have hl:(ak xs).getLast hne=0:=by
  have h1:=h.nn _ (kA (List.getLast_mem hne))
  have h2:(ak xs).getLast hne<=0:=by
   have e:=qV hne;rw[<- e]at hm hpw;rcases vM.mp hm with z | z
   ·have:=(V3.mp hpw).2.2 0 z _ (wY.mpr rfl)
    exact vK this
   ·rw[<- wY.mp z];exact WB
  grind
 have:=qV hne;rw[hl]at this;exact this
theorem zS{xs:List Rat}(h1:1<=xs.length):1<=(ak xs).length:=by
 have:=sP (getD_mem (d:=0) (show 0<xs.length by lia));exact QY this
theorem zX(xs:List Rat):(bG xs).length=(ak xs).length:=by unfold bG;rw[wm]
theorem yK(xs:List Rat):∀n∈bG xs,0<=n:=λn hn=>by
 obtain⟨v,_,rfl⟩:=wS.mp hn
 lia
theorem NV{α : Type}(g h : α -> Nat):∀l:List α,(l.map λv=>g v+h v).sum=(l.map g).sum+(l.map h).sum
 | []=>rfl
 | x::l=>by
  simp only[w8,WT,NV g h l]
  lia
theorem Ni(x:Rat):∀vs:List Rat,vs.Nodup->(vs.map λv=>if x=v then 1 else 0).sum<=1
 | [],_=>by simp
 | v::vs,nd=>by
  have⟨h1,h2⟩:=VL.mp nd;rw[w8,WT]
  by_cases e:x=v
  ·have z:(vs.map λv=>if x=v then 1 else 0).sum=0:=by
    have:∀ws:List Rat,(∀y∈ws,x≠y)->(ws.map λv=>if x=v then 1 else 0).sum=0:=by
     intro ws
     induction ws with
     | nil=>intro _;rfl
     | cons y ws ih =>
      intro hy;rw[w8,WT,if_neg (hy y (wC ..)),ih λz hz=>hy z (wB _ hz)]
    exact this vs λy hy z=>h1 (by rw[<- e,z];exact hy)
   rw[z,if_pos e]
   lia
  ·have:=Ni x vs h2
   rw[if_neg e];lia
theorem PJ(f:Nat->Rat)(vs:List Rat)(nd:vs.Nodup):∀l:List Nat,(vs.map λv=>(l.filter λw=>decide (f w=v)).length).sum<=l.length
 | []=>by
  have:∀ws:List Rat,(ws.map λv=>(([]:List Nat).filter λw=>decide (f w=v)).length).sum=0:=by
   intro ws
   induction ws with
   | nil=>rfl
   | cons y ws ih=>rw[w8,WT,ih];rfl
  rw[this];exact wo _
 | w::l=>by
  have ih:=PJ f vs nd l
  have e:(vs.map λv=>((w::l).filter λw=>decide (f w=v)).length)=vs.map λv=>(if f w=v then 1 else 0)+(l.filter λw=>decide (f w=v)).length:=by
   refine qR λv _=>?_
   rw[WG]
   by_cases z:f w=v
   ·rw[if_pos (by simp[z]),if_pos z,vP];lia
   ·rw[if_neg (by simp[z]),if_neg z];lia
  rw[e,NV,vP];have:=Ni (f w) vs nd
  lia
theorem PQ(xs:List Rat):(ak xs).Nodup:=(je xs.length xs).imp λ{x y} h=>by
 have h:y<x:=h;intro e;rw[e]at h;exact absurd h (by grind)
theorem KU(xs:List Rat):((bG xs).map QL).sum<=xs.length:=by
 have:=PJ (λw=>xs.getD w 0) (ak xs) (PQ xs) (wq xs.length);rw[vB]at this
 have e:(bG xs).map QL=(ak xs).map λv=>((wq xs.length).filter λw=>decide (xs.getD w 0=v)).length:=by
  unfold bG;rw[VB];refine qR λv _=>?_
  show((fP xs v).length:Int).toNat=_
  rw[wP];rfl
 rw[e];exact this
theorem O2(xs:List Rat):upTo (bG xs) (bG xs).length<=xs.length:=by
 unfold upTo;rw[Wc];exact KU xs
theorem ztJ(xs:List Rat):∀n∈bG xs,0<=n/\n<=xs.length:=λn hn=>by
 obtain⟨v,_,rfl⟩:=wS.mp hn
 have:(fP xs v).length<=xs.length:=by
  have:=Wr (λw=>decide (xs.getD w 0=v)) (wq xs.length);rw[vB]at this;exact this
 lia
theorem kf(xs:List Rat):(ak xs).length<=xs.length:=by
 have h:∀(n:Nat)(l:List Rat),(iM n l).length<=n:=by
  intro n
  induction n with
  | zero=>intro l;exact wo _
  | succ n ih =>
   intro l
   by_cases e:l=[]
   ·rw[e,Dt];simp
   ·rw[m7 e,vP]
    have:=ih (l.filter λy=>!decide (y=aY l))
    lia
 exact h _ _
theorem kI{m:Nat}{xs ys:List Rat}(c:Cm m xs)(h:∀y∈ys,y∈xs):Cm m ys:=c.j7 λy hy=>.inl (h y hy)
theorem oD{m:Nat}{xs:List Rat}(c:Cm m xs):Cm m (ak xs).dropLast:=kI c λy hy=>kA (by rw[Q6]at hy;exact List.mem_of_mem_take hy)
def seg(n:Nat)(fl:Nat->Nat)(s t:Nat):List Nat:=(wq n).filter λw=>decide (s<=fl w)&&decide (fl w<t)
theorem gO{n:Nat}{fl:Nat->Nat}{s t w:Nat} : w∈seg n fl s t ↔ w<n/\s<=fl w/\fl w<t:=by
 unfold seg;rw[vb,wF,wW,decide_eq_true_eq,decide_eq_true_eq]
theorem Lu(n:Nat)(fl:Nat->Nat)(s t:Nat):(seg n fl s t).Nodup:=W1.filter _
theorem zwn{n:Nat}{fl:Nat->Nat}{s t u:Nat}(h1:s<=t)(h2:t<=u):(seg n fl s t++seg n fl t u).Perm (seg n fl s u):=by
 have e1:(seg n fl s u).filter (λw=>decide (fl w<t))=seg n fl s t:=by
  unfold seg;rw[qm];refine vG λw _=>?_
  rw[vC];simp only[wW,decide_eq_true_eq]
  lia
 have e2:(seg n fl s u).filter (λw=>!decide (fl w<t))=seg n fl t u:=by
  unfold seg;rw[qm];refine vG λw _=>?_
  rw[vC];simp only[wW,WR,decide_eq_true_eq,decide_eq_false_iff_not]
  lia
 have:=List.filter_append_perm (λw=>decide (fl w<t)) (seg n fl s u);rw[e1,e2]at this;exact this
theorem Mv(n:Nat)(fl:Nat->Nat)(s:Nat):seg n fl s s=[]:=by
 unfold seg;rw[QX];intro w _;simp only[wW,decide_eq_true_eq]
 lia
inductive i_(n:Nat)(fl:Nat->Nat):Nat->List (List Nat)->Nat->Prop
 | nil (t:Nat):i_ n fl t [] t
 | cons {t u v:Nat} {ws:List (List Nat)} : t<u->i_ n fl u ws v->i_ n fl t (seg n fl t u::ws) v
theorem i_.le{n:Nat}{fl:Nat->Nat}{t v:Nat}{ws:List (List Nat)}(h:i_ n fl t ws v):t<=v:=by
 induction h with
 | nil t=>exact wo t
 | cons h _ ih=>lia
theorem i_.perm{n:Nat}{fl:Nat->Nat}{t v:Nat}{ws:List (List Nat)}(h:i_ n fl t ws v):ws.flatten.Perm (seg n fl t v):=by
 induction h with
 | nil t=>rw[Mv];exact List.Perm.refl _
 | cons h k ih =>
  rw[Vk];exact(List.Perm.append_left _ ih).trans (zwn (by lia) k.le)
theorem N9(p:Nat->Prop)[DecidablePred p](t:Nat):∀m:Nat,t<=m->(∀c d,t<=c->c<=d->d<m->p d->p c)->∃u,t<=u/\u<=m /\ ∀c,t<=c->c<m->(p c ↔ c<u)
 | 0,h,_=>⟨0,h,wo 0,λc _ hc=>absurd hc (by lia)⟩
 | m+1,h,mono=>by
  rcases wD m t with z | z
  ·exact⟨m+1,h,wo _,λc h1 h2=>absurd h2 (by lia)⟩
  ·by_cases q:p m
   ·exact⟨m+1,h,wo _,λc h1 h2=>⟨λ_=>h2,λ_=>mono c m h1 (by lia) (by lia) q⟩⟩
   ·obtain⟨u,u1,u2,hu⟩:=N9 p t m z (λc d h1 h2 h3=>mono c d h1 h2 (by lia))
    refine⟨u,u1,by lia,λc h1 h2=>?_⟩;rcases wD c m with y | y
    ·exact hu c h1 y
    ·have:c=m:=by lia
     subst this;exact⟨λk=>absurd k q,λk=>absurd k (by lia)⟩
theorem zm{row:List Rat}(F:row.Pairwise (· > ·)){c d:Nat}(h:c<d)(hd:d<row.length):row.getD d 0<row.getD c 0:=by
 have:=Wf.mp F c d (by lia) hd h;rw[wb,wc hd,wb,wc (by lia)];exact this
theorem zAk{row:List Rat}(F:row.Pairwise (· > ·)){c d:Nat}(h:c<=d)(hd:d<row.length):row.getD d 0<=row.getD c 0:=by
 rcases wD c d with z | z
 ·exact vK (zm F z hd)
 ·rw[show c=d by lia];exact WB
theorem RD{a b:Rat}(a0:0<a)(b0:0<=b){row:List Rat}{fl:Nat->Nat}{N:Nat}(F:row.Pairwise (· > ·)):∀(n:Nat)(ps:List Rat)(t:Nat)(A B:Rat),t<=row.length->ps.length=N->0<A->(∀w∈seg N fl t row.length,ps.getD w 0=A*row.getD (fl w) 0+B/\0<ps.getD w 0) ->
  ∃(v:Nat)(A' B':Rat),v<=row.length/\0<A'/\i_ N fl t (cN a b n ps (seg N fl t row.length)).1 v/\(cN a b n ps (seg N fl t row.length)).2.1=seg N fl v row.length /\
   ∀w∈seg N fl v row.length,(cN a b n ps (seg N fl t row.length)).2.2.getD w 0=A'*row.getD (fl w) 0+B'/\0<A'*row.getD (fl w) 0+B'
 | 0,ps,t,A,B,ht,hl,hA,hw=>⟨t,A,B,ht,hA,.nil t,rfl,λw h=>⟨(hw w h).1,by rw[<- (hw w h).1];exact(hw w h).2⟩⟩
 | n+1,ps,t,A,B,ht,hl,hA,hw=>by
  by_cases e:aF ps (seg N fl t row.length)=[]
  ·rw[mI e]
   exact⟨t,A,B,ht,hA,.nil t,rfl,λw h=>⟨(hw w h).1,by rw[<- (hw w h).1];exact(hw w h).2⟩⟩
  ·obtain⟨u,u1,u2,hu⟩:=N9 (λc=>¬ A*row.getD c 0+B<1) t row.length ht (λc d h1 h2 h3 hp=>by
    have:=Rat.mul_le_mul_of_nonneg_left (zAk F h2 h3) (vK hA);have hp:¬ A*row.getD d 0+B<1:=hp
    show ¬ A*row.getD c 0+B<1
    grind)
   have eE:aF ps (seg N fl t row.length)=seg N fl t u:=by
    unfold aF
    have:(seg N fl t row.length).filter (λw=>!decide (ps.getD w 0<1))=(seg N fl t row.length).filter (λw=>decide (fl w<u)):=by
     refine vG λw h=>?_
     have h1:=hw w h;have h2:=gO.mp h;rw[vC,WR,decide_eq_false_iff_not,decide_eq_true_eq,h1.1];exact hu (fl w) h2.2.1 h2.2.2
    rw[this];unfold seg;rw[qm];refine vG λw _=>?_
    rw[vC];simp only[wW,decide_eq_true_eq]
    lia
   have eL:bS (seg N fl t row.length) (seg N fl t u)=seg N fl u row.length:=by
    unfold bS
    have:(seg N fl t row.length).filter (λw=>!decide (w∈seg N fl t u))=(seg N fl t row.length).filter (λw=>!decide (fl w<u)):=by
     refine vG λw h=>?_
     have h2:=gO.mp h;rw[vC,WR,WR,decide_eq_false_iff_not,decide_eq_false_iff_not,gO]
     constructor
     ·intro k y;exact k ⟨h2.1,h2.2.1,y⟩
     ·intro k y;exact k y.2.2
    rw[this];unfold seg;rw[qm];refine vG λw _=>?_
    rw[vC];simp only[wW,WR,decide_eq_true_eq,decide_eq_false_iff_not]
    lia
   have htu:t<u:=by
    rcases wD t u with z | z
    ·exact z
    ·have:u=t:=by lia
     rw[eE,this,Mv]at e;exact absurd rfl e
   rw[jj e,eE,eL];have hf:=pe a0 (seg N fl t u).length;have hg:=oZ a0 b0 (seg N fl t u).length;generalize a^(seg N fl t u).length=f at *;generalize aE a b (seg N fl t u).length=g at *;have hA':0<f*A:=VO hf hA
   obtain⟨v,A',B',hv,hA2,hs,hl2,hw2⟩:=RD (fl:=fl) (N:=N) a0 b0 F n (cQ f g ps (seg N fl u row.length)) u (f*A) (f*B+g) u2 (by rw[iA];exact hl) hA' (λw h=>by
    have hm:=gO.mp h;have h1:=hw w (gO.mpr ⟨hm.1,by lia,hm.2.2⟩);have h3:=VO hf h1.2;rw[jg _ _ _ _ (Lu ..) (λw h=>by rw[hl];exact(gO.mp h).1),if_pos h];refine⟨by rw[h1.1];grind,by grind⟩)
   exact⟨v,A',B',hv,hA2,.cons htu hs,hl2,hw2⟩
structure lP(xs ys:List Rat)(waves:List (List Nat))(v:Nat):Prop where
 v1:1<=v
 vm:v<=(ak xs).length
 first:∃ws,waves=seg xs.length (aS xs) 0 1::ws/\i_ xs.length (aS xs) 1 ws v
 vals:∃(A B:Rat),0<A/\ak ys=((ak xs).drop v).map (λx=>A*x+B)++[0]/\(∀x∈(ak xs).drop v,0<A*x+B)
 at':gH ys (ak ys) (λw=>if aS xs w<v then(ak xs).length-v else aS xs w-v)
 len:ys.length=xs.length
theorem Kk{l:List Rat}{v c:Nat} : (l.drop v).getD c 0=l.getD (v+c) 0:=by
 rw[wb,xF,wb]
theorem m5{xs:List Rat}{c:Nat}(hc:c<(ak xs).length):∃w,w<xs.length/\aS xs w=c:=by
 have hm:(ak xs).getD c 0∈xs:=kA (getD_mem hc);obtain⟨w,hw,e⟩:=w9 hm;refine⟨w,hw,(Ck hw hc).mpr ?_⟩;rw[wb,wc hw];exact e
theorem Cq{a b:Rat}(a0:0<a)(b0:0<=b){xs:List Rat}(h1:1<=xs.length)(nn:∀x∈xs,0<=x)(lt:∀x∈xs,x<1):∃v,lP xs (c9 a b xs) (c7 a b xs) v:=by
 have P:=kG xs;have F:(ak xs).Pairwise (· > ·):=je xs.length xs;have m1:=zS h1;have top:∀j,j<(ak xs).length->j≠0->(ak xs).getD j 0<(ak xs).getD 0 0:=λj hj h0=>zm F (by lia) hj
 have he:=B6 P (m5 m1) top;have hmax:=pP P (m5 m1) top;have hmx1:aY xs<1:=lt _ (fC h1)
 have e01:bE xs.length (aS xs) 0=seg xs.length (aS xs) 0 1:=by
  unfold bE seg;refine vG λw _=>?_
  rw[vC];simp only[wW,decide_eq_true_eq]
  lia
 rw[e01]at he
 have hr:wq xs.length=seg xs.length (aS xs) 0 (ak xs).length:=by
  unfold seg
  symm
  rw[List.filter_eq_self];intro w hw;have:=P.lt w (wF.mp hw);simp only[wW,decide_eq_true_eq]
  lia
 have hne:aF (bC xs) (wq xs.length)≠[]:=λe=>by
  obtain⟨w,hw,hf⟩:=m5 m1;rw[he]at e;have:w∈seg xs.length (aS xs) 0 1:=gO.mpr ⟨hw,by lia,by lia⟩;rw[e]at this;cases this
 obtain⟨n,hn⟩:∃n,xs.length=n+1:=⟨xs.length-1,by lia⟩
 have eL:bS (wq xs.length) (seg xs.length (aS xs) 0 1)=seg xs.length (aS xs) 1 (ak xs).length:=by
  unfold bS seg;refine vG λw hw=>?_
  have h2:=P.lt w (wF.mp hw);rw[vC,WR,decide_eq_false_iff_not]
  have:w∈(wq xs.length).filter (λw=>decide (0<=aS xs w)&&decide (aS xs w<1)) ↔ aS xs w<1:=by
   rw[vb,wW,decide_eq_true_eq,decide_eq_true_eq];exact⟨λh=>h.2.2,λh=>⟨hw,by lia,h⟩⟩
  rw[this];simp only[wW,decide_eq_true_eq]
  lia
 have hf:=pe a0 (seg xs.length (aS xs) 0 1).length;have hg:=oZ a0 b0 (seg xs.length (aS xs) 0 1).length
 have eR:dJ a b xs=(seg xs.length (aS xs) 0 1::(cN a b n (cQ (a^(seg xs.length (aS xs) 0 1).length) (aE a b (seg xs.length (aS xs) 0 1).length) (bC xs) (seg xs.length (aS xs) 1 (ak xs).length)) (seg xs.length (aS xs) 1 (ak xs).length)).1,(cN a b n (cQ (a^(seg xs.length (aS xs) 0 1).length) (aE a b (seg xs.length (aS xs) 0 1).length) (bC xs) (seg xs.length (aS xs) 1 (ak xs).length)) (seg xs.length (aS xs) 1 (ak xs).length)).2):=by
  unfold dJ;have e:cN a b xs.length (bC xs) (wq xs.length)=cN a b (n+1) (bC xs) (wq xs.length):=by rw[<- hn]
  rw[e,jj hne,he,eL]
 generalize a^(seg xs.length (aS xs) 0 1).length=f at *;generalize aE a b (seg xs.length (aS xs) 0 1).length=g at *
 obtain⟨v,A,B,hv,hA,hs,hl2,hw2⟩:=RD (fl:=aS xs) (N:=xs.length) a0 b0 F n (cQ f g (bC xs) (seg xs.length (aS xs) 1 (ak xs).length)) 1 f (f*(1-aY xs)+g) m1 (by rw[iA,fF]) hf (λw h=>by
  have hm:=gO.mp h;rw[jg _ _ _ _ (Lu ..) (λw h=>by rw[fF];exact(gO.mp h).1),if_pos h]
  have e:(bC xs).getD w 0=(ak xs).getD (aS xs w) 0+(1-aY xs):=by
   unfold bC;rw[yP hm.1,P.at' w hm.1]
  have hx:=nn _ (getD_mem (d:=0) hm.1);rw[P.at' w hm.1]at hx;have h3:=VO hf (show 0<(ak xs).getD (aS xs w) 0+(1-aY xs) by grind);rw[e];exact⟨by grind,by grind⟩)
 have v1:=hs.le
 have ePh:∀w,w<xs.length->(c9 a b xs).getD w 0=if aS xs w<v then 0 else A*(ak xs).getD (aS xs w) 0+B:=λw hw=>by
  have hpl:(dJ a b xs).2.2.length=xs.length:=by unfold dJ;rw[pD,fF]
  unfold c9;rw[mD (by lia),eR]
  show(if w∈(cN a b n _ _).2.1 then _ else _)=_
  rw[hl2]
  by_cases z:aS xs w<v
  ·rw[if_neg (λh=>by have:=(gO.mp h).2.1;lia),if_pos z]
  ·have hmem:w∈seg xs.length (aS xs) v (ak xs).length:=gO.mpr ⟨hw,by lia,P.lt w hw⟩
   rw[if_pos hmem,if_neg z];exact(hw2 w hmem).1
 have posd:∀x∈(ak xs).drop v,0<A*x+B:=λx hx=>by
  obtain⟨c,hc,e⟩:=w9 hx;rw[vU]at hc;obtain⟨w,hw,hfw⟩:=m5 (xs:=xs) (c:=v+c) (by lia);have:=(hw2 w (gO.mpr ⟨hw,by lia,P.lt w hw⟩)).2;rw[hfw,<- Kk,wb,wc (by rw[vU];lia)]at this;rw[<- e];exact this
 have rlen:(((ak xs).drop v).map (λx=>A*x+B)++[0]).length=(ak xs).length-v+1:=by simp
 have rget:∀c,c<(ak xs).length-v->(((ak xs).drop v).map (λx=>A*x+B)++[0]).getD c 0=A*(ak xs).getD (v+c) 0+B:=λc hc=>by
  rw[wb,vY (by simp;lia),<- wb,yP (by rw[vU];lia),Kk]
 have rlast:(((ak xs).drop v).map (λx=>A*x+B)++[0]).getD ((ak xs).length-v) 0=0:=by
  rw[wb,vg (by simp)];simp
 have P2:gH (c9 a b xs) (((ak xs).drop v).map (λx=>A*x+B)++[0]) (λw=>if aS xs w<v then(ak xs).length-v else aS xs w-v):=by
  refine⟨λw hw=>?_,λw hw=>?_⟩
  ·rw[jh]at hw
   rw[ePh w hw];have:=P.lt w hw
   by_cases z:aS xs w<v
   ·simp only[z,if_true]
    exact rlast.symm
   ·simp only[z,if_false]
    rw[rget _ (by lia),show v+(aS xs w-v)=aS xs w by lia]
  ·rw[jh]at hw
   have:=P.lt w hw;rw[rlen]
   show(if aS xs w<v then _ else _)<_
   split<;>lia
 have F2:(((ak xs).drop v).map (λx=>A*x+B)++[0]).Pairwise (· > ·):=by
  rw[V3];refine⟨?_,QE _ _,λx hx y hy=>?_⟩
  ·rw[Qm]
   refine(ug F).imp λ{x y} h=>?_
   have:=Qi (show y<x from h) hA
   show A*y+B<A*x+B
   grind
  ·obtain⟨z,hz,rfl⟩:=wS.mp hx
   rw[wY.mp hy];exact posd z hz
 have eV:ak (c9 a b xs)=((ak xs).drop v).map (λx=>A*x+B)++[0]:=zrL P2 F2 λc hc=>by
  rw[rlen]at hc;rcases wD c ((ak xs).length-v)with z | z
  ·obtain⟨w,hw,hfw⟩:=m5 (xs:=xs) (c:=v+c) (by lia)
   refine⟨w,by rw[jh];exact hw,?_⟩
   show(if aS xs w<v then _ else _)=_
   rw[hfw,if_neg (by lia)]
   lia
  ·obtain⟨w,hw,hfw⟩:=m5 m1
   refine⟨w,by rw[jh];exact hw,?_⟩
   show(if aS xs w<v then _ else _)=_
   rw[hfw,if_pos (by lia)]
   lia
 refine⟨v,v1,hv,⟨_,by unfold c7;rw[eR],hs⟩,⟨A,B,hA,eV,posd⟩,by rw[eV];exact P2,jh ..⟩
def kn(xs:List Rat):List (List Nat):=(ak xs).map (fP xs)
theorem jb(xs:List Rat):(kn xs).length=(ak xs).length:=wm ..
theorem MQ{ys row:List Rat}{fl:Nat->Nat}(P:gH ys row fl)(F:row.Pairwise (· > ·)){c:Nat}(hc:c<row.length):fP ys (row.getD c 0)=bE ys.length fl c:=by
 unfold fP bE;refine vG λw hw=>?_
 have hw:=wF.mp hw;rw[vC,decide_eq_true_eq,decide_eq_true_eq,P.at' w hw]
 constructor
 ·intro h
  rcases Vn (fl w) c with z | z | z
  ·have:=zm F z hc;rw[h]at this;exact absurd this (by grind)
  ·exact z
  ·have:=zm F z (P.lt w hw);rw[h]at this;exact absurd this (by grind)
 ·rintro rfl;rfl
theorem zsy{xs:List Rat}{c:Nat}(hc:c<(ak xs).length):(kn xs).getD c []=seg xs.length (aS xs) c (c+1):=by
 have h:=MQ (kG xs) (je xs.length xs) hc;unfold kn;rw[wb,wt,wc hc]
 show fP xs (ak xs)[c]=_
 rw[wb,wc hc]at h;have h:fP xs (ak xs)[c]=_:=h;rw[h];unfold bE seg;refine vG λw _=>?_
 rw[vC];simp only[wW,decide_eq_true_eq]
 lia
theorem lP.new{xs ys:List Rat}{waves:List (List Nat)}{v:Nat}(J:lP xs ys waves v):kn ys=(kn xs).drop v++[seg xs.length (aS xs) 0 v]:=by
 obtain⟨A,B,hA,eV,pos⟩:=J.vals;have F2:(ak ys).Pairwise (· > ·):=je ys.length ys;have hlen:(ak ys).length=(ak xs).length-v+1:=by rw[eV];simp
 have v1:=J.v1;have vm:=J.vm;refine WH (by rw[jb,hlen,wR,vU,jb];rfl) λc h1 h2=>?_
 rw[jb,hlen]at h1
 have e1:(kn ys)[c]'(by rw[jb];lia)=bE xs.length (λw=>if aS xs w<v then(ak xs).length-v else aS xs w-v) c:=by
  have:=MQ J.at' F2 (c:=c) (by lia);rw[J.len]at this;rw[<- this];unfold kn;rw[VC,wb,wc (by lia)]
  rfl
 rw[e1];rcases wD c ((ak xs).length-v)with z | z
 ·rw[List.getElem_append_left (by rw[vU,jb];lia),xU]
  have hg:=zsy (xs:=xs) (c:=v+c) (by lia);rw[wb,wc (by rw[jb];lia)]at hg;have hg:(kn xs)[v+c]'(by rw[jb];lia)=_:=hg;rw[hg];unfold bE seg;refine vG λw hw=>?_
  have:=(kG xs).lt w (wF.mp hw);rw[vC];simp only[wW,decide_eq_true_eq]
  split<;>lia
 ·rw[List.getElem_append_right (by rw[vU,jb];lia)]
  have hc:c=(ak xs).length-v:=by lia
  simp only[List.getElem_singleton];unfold bE seg;refine vG λw hw=>?_
  have:=(kG xs).lt w (wF.mp hw);rw[vC];simp only[wW,decide_eq_true_eq]
  split<;>lia
theorem lP.perm{xs ys:List Rat}{waves:List (List Nat)}{v:Nat}(J:lP xs ys waves v):waves.flatten.Perm (seg xs.length (aS xs) 0 v):=by
 obtain⟨ws,e,s⟩:=J.first;rw[e];exact(i_.cons (by decide) s).perm
theorem lP.more{xs ys:List Rat}{waves:List (List Nat)}{v:Nat}(J:lP xs ys waves v):1<waves.length ↔ 1<v:=by
 obtain⟨ws,e,s⟩:=J.first;rw[e];cases s with
 | nil=>simp
 | cons h k=>have:=k.le;simp;lia
theorem Ep(F s:Rat):∀n:Nat,aE F s n=aE F 1 n*s
 | 0=>by show(0:Rat)=0*s;rw[Rat.zero_mul]
 | n+1=>by
  show F*aE F s n+s=(F*aE F 1 n+1)*s
  rw[Ep F s n]
  grind
theorem zR{k:Nat}{F:Rat}(h:ag k F):∀i:Nat,∃T:Int,aE F 1 i=wu T ((F.den:Int)^i)/\Bd ((k+1)*i+1) T/\Bd (k*i+1) ((F.den:Int)^i)
 | 0=>⟨0,by simp[aE],⟨by simp⟩,⟨by simp⟩⟩
 | i+1=>by
  obtain⟨T,e,bT,bd⟩:=zR h i;have hd:(F.den:Int)^i≠0:=VM (gJ F);have hd1:(F.den:Int)^(i+1)≠0:=VM (gJ F);have ed:(F.den:Int)^(i+1)=(F.den:Int)^i*(F.den:Int):=Vy ..
  have bd1:Bd (k*(i+1)+1) ((F.den:Int)^(i+1)):=by
   rw[ed];exact(bd.mul h.b).mono (by rw[qj];lia)
  refine⟨F.num*T+(F.den:Int)^(i+1),?_,?_,bd1⟩
  ·symm
   refine f_ hd1 ?_
   show(F*aE F 1 i+1)*_=_
   rw[e];have k1:=cH T hd;have k2:=jR F
   have e1:((F.num*T+(F.den:Int)^(i+1):Int):Rat)=(F.num:Rat)*(T:Rat)+(((F.den:Int)^(i+1):Int):Rat):=by
    rw[qa,vJ]
   rw[e1,<- k1,<- k2,ed,vJ];generalize (((F.den:Int)^i:Int):Rat)=D;generalize ((F.den:Int):Rat)=d;generalize wu T ((F.den:Int)^i)=y
   grind
  ·have h1:(k+1)*(i+1)=(k+1)*i+(k+1):=qj ..
   have h2:k*(i+1)<=(k+1)*i+k:=by rw[qj];have:=vZ i (show k<=k+1 by lia);lia
   exact((h.t.mul bT).add bd1).mono (by lia)
theorem Ly{k:Nat}{F:Rat}(h:ag k F)(i:Nat):ag ((k+1)*i+1) (aE F 1 i):=by
 obtain⟨T,e,bT,bd⟩:=zR h i;rw[e];exact ag.divInt (VM (gJ F)) bT (bd.mono (by have:=vZ i (show k<=k+1 by lia);lia))
def fD(F s:Rat)(n:Nat)(x:Rat):Rat:=F^n*x+aE F 1 n*s
theorem pg(F s:Rat)(n:Nat)(x:Rat):fD F s n x=push F s n x:=by
 unfold fD;rw[hJ,<- Ep]
theorem zxE(F s:Rat)(m n:Nat)(x:Rat):fD F s (m+n) x=fD F s n (fD F s m x):=by
 rw[pg,pg,pg,ZY]
theorem zv9(F s x:Rat):fD F s 0 x=x:=by rw[pg];rfl
theorem zyj(F s x:Rat):fD F s 1 x=F*x+s:=by rw[pg];rfl
theorem RK{F s r:Rat}(h:r*(1-F)=s):∀k:Nat,aE F s k=r-F^k*r
 | 0=>by rw[VX,qG];show(0:Rat)=r-r;grind
 | k+1=>by
  show F*aE F s k+s=_
  rw[RK h k,WA]
  grind
theorem zyu{F s r:Rat}(h:r*(1-F)=s)(n:Nat)(x:Rat):fD F s n x=r+F^n*(x-r):=by
 unfold fD;rw[<- Ep,RK h]
 grind
theorem Cm.TV{m:Nat}{h:Rat}{xs:List Rat}{a b:Rat}(c:Cm m (h::xs))(ba:ag 10 a)(bb:ag 10 b)(n i:Nat):Cm (m+2+21*n) ((h+(1-xs.getD i 0))::dw a b n xs i):=by
 obtain⟨B,h0,h1,h2⟩:=c
 have hz:∃z:Int,xs.getD i 0=wu z B/\Bd m z:=by
  rcases wD i xs.length with q | q
  ·rw[wb,wc q]
   exact h2 _ (wB _ (vO q))
  ·rw[wb,wE q]
   exact⟨0,by simp,⟨by simp;exact Wa m⟩⟩
 obtain⟨z,ez,hz⟩:=hz;have key:=λ(t:Int)(ht:Bd m t)=>oJ ba bb h0 (show Bd (m+2) (t+B-z)from((ht.add h1).sub hz).mono (by lia)) (h1.mono (by lia)) n
 have e2:∀t:Int,wu t B+(1-xs.getD i 0)=wu (t+B-z) B:=λt=>by
  rw[ez]
  symm
  refine f_ (by lia) ?_;have q1:=cH t (show B≠0 by lia);have q2:=cH z (show B≠0 by lia);have q3:((t+B-z:Int):Rat)=(t:Rat)+(B:Rat)-(z:Rat):=by push_cast;rfl
  rw[q3,<- q1,<- q2]
  grind
 obtain⟨p1,p2,_⟩:=key 0 ⟨by simp;exact Wa m⟩;refine⟨_,p1,p2,λx hx=>?_⟩;rcases wG.mp hx with rfl | hx
 ·obtain⟨t,et,ht⟩:=h2 h (wC ..)
  have hd:(0:Int)<((a.den:Int)*(b.den:Int))^n:=Xd (vI (den_pos a) (den_pos b));refine⟨(t+B-z)*((a.den:Int)*(b.den:Int))^n,?_,yu ba bb (((ht.add h1).sub hz).mono (by lia)) n⟩;rw[et,e2 t];exact pW h0 hd
 ·have hx':x=0 \/ ∃y∈xs,x=push a b n (y+(1-xs.getD i 0)):=by
   unfold dw at hx;rcases Qs hx with q | q
   ·obtain⟨y,hy,rfl⟩:=wS.mp q
    exact .inr ⟨y,hy,rfl⟩
   ·exact .inl q
  rcases hx' with rfl | ⟨y,hy,rfl⟩
  ·exact⟨0,by simp,⟨by simp;exact Wa _⟩⟩
  ·obtain⟨t,rfl,ht⟩:=h2 y (wB _ hy)
   obtain⟨_,_,T,e,hT⟩:=key t ht;rw[e2 t];exact⟨T,e,hT⟩
theorem Cm.Au{m:Nat}{xs:List Rat}{a b:Rat}{ns:List Int}(c:Cm m xs)(ba:ag 10 a)(bb:ag 10 b):∀k,k<=ns.length->Cm (m+2*k+21*upTo ns k) (eF a b ns xs k::aO a b ns xs k)
 | 0,_=>(c.mono (by lia)).j7 λy hy=>by
  rcases wG.mp hy with rfl | hy
  ·exact .inr rfl
  ·exact .inl hy
 | k+1,hk=>by
  have:=(Cm.Au c ba bb (ns:=ns) k (by lia)).TV ba bb (ns.getD k 0).toNat k;rw[aO,eF];refine this.mono ?_;rw[ox (by lia)]
  lia
def fK(c:Rat)(xs ys:List Rat):List Rat:=List.zipWith (λx y=>x+c*(y-x)) xs ys
theorem nz{c:Rat}{xs ys:List Rat}(h:xs.length=ys.length):(fK c xs ys).length=xs.length:=by unfold fK;rw[xo];lia
theorem lC{c:Rat}{xs ys:List Rat}(h:xs.length=ys.length){i:Nat}(hi:i<xs.length):(fK c xs ys).getD i 0=xs.getD i 0+c*(ys.getD i 0-xs.getD i 0):=by
 unfold fK;rw[wb,wc (by rw[xo];lia),List.getElem_zipWith,wb,wc hi,wb,wc (by lia)]
 rfl
theorem kK{xs ys:List Rat}(hl:xs.length=ys.length)(h:∀i,i<xs.length->xs.getD i 0=ys.getD i 0):xs=ys:=WH hl λi h1 h2=>by
 have:=h i h1;rw[wb,wb,wc h1,wc h2]at this;exact this
theorem zyX(a b:Rat)(n:Nat)(c:Rat){xs ys:List Rat}(h:xs.length=ys.length){i:Nat}(hi:i<xs.length):dw a b n (fK c xs ys) i=fK c (dw a b n xs i) (dw a b n ys i):=by
 have hl:=nz (c:=c) h;refine kK (by rw[gT,hl,nz (by rw[gT,gT];exact h),gT]) λj hj=>?_
 rw[gT,hl]at hj;have hg:=lC (c:=c) (xs:=dw a b n xs i) (ys:=dw a b n ys i) (by rw[gT,gT];exact h) (i:=j) (by rw[gT];exact hj);rw[hg,gh _ _ _ _ _ _ (by lia),gh _ _ _ _ _ _ hj,gh _ _ _ _ _ _ (show j<ys.length by lia)]
 by_cases z:j=i
 ·rw[if_pos z,if_pos z,if_pos z];grind
 ·rw[if_neg z,if_neg z,if_neg z,lC h hj,lC h hi,hJ,hJ,hJ]
  grind
theorem SS(a b:Rat)(ns:List Int)(c:Rat){xs ys:List Rat}(h:xs.length=ys.length):∀k,k<=xs.length->aO a b ns (fK c xs ys) k=fK c (aO a b ns xs k) (aO a b ns ys k)
 | 0,_=>rfl
 | k+1,hk=>by
  have ih:=SS a b ns c h k (by lia);rw[aO,ih,aO,aO];exact zyX a b _ c (by rw[di,di];exact h) (by rw[di];lia)
theorem L9(a b:Rat)(ns:List Int)(c:Rat){xs ys:List Rat}(h:xs.length=ys.length):∀k,k<=xs.length->eF a b ns (fK c xs ys) k=eF a b ns xs k+c*(eF a b ns ys k-eF a b ns xs k)
 | 0,_=>by show(0:Rat)=0+c*(0-0);grind
 | k+1,hk=>by
  rw[eF,eF,eF,L9 a b ns c h k (by lia),SS a b ns c h k (by lia),lC (by rw[di,di];exact h) (by rw[di];lia)]
  grind
theorem zyr(c:Rat){xs ys:List Rat}(h:xs.length=ys.length):fK c (xs++[0]) (ys++[0])=fK c xs ys++[0]:=by
 unfold fK;rw[List.zipWith_append h]
 show _++[0+c*(0-0)]=_
 congr 2
 grind
def fm(a b:Rat)(ns:List Int)(xs:List Rat):Rat:=eF a b ns (xs++[0]) ns.length
theorem UY{a b:Rat}{ns:List Int}(c:Rat){xs ys:List Rat}(hn:ns.length=xs.length+1)(h:xs.length=ys.length):fm a b ns (fK c xs ys)=fm a b ns xs+c*(fm a b ns ys-fm a b ns xs):=by
 unfold fm;rw[<- zyr c h];exact L9 a b ns c (by simp[h]) _ (by simp;lia)
def sumTo(f:Nat->Rat):Nat->Rat
 | 0=>0
 | n+1=>sumTo f n+f n
theorem uW{f g:Nat->Rat} : ∀n,(∀k,k<n->f k=g k)->sumTo f n=sumTo g n
 | 0,_=>rfl
 | n+1,h=>by rw[sumTo,sumTo,uW n λk hk=>h k (by lia),h n (by lia)]
theorem Et(c:Rat)(f:Nat->Rat):∀n,sumTo (λk=>c*f k) n=c*sumTo f n
 | 0=>by show(0:Rat)=c*0;grind
 | n+1=>by rw[sumTo,sumTo,Et c f n];grind
theorem RF(f g:Nat->Rat):∀n,sumTo (λk=>f k+g k) n=sumTo f n+sumTo g n
 | 0=>by show(0:Rat)=0+0;grind
 | n+1=>by rw[sumTo,sumTo,sumTo,RF f g n];grind
theorem Kr(F:Rat):∀n,sumTo (λk=>F^k) n=aE F 1 n
 | 0=>rfl
 | n+1=>by
  rw[sumTo,Kr F n]
  have:∀m,aE F 1 m*F+1=aE F 1 m+F^m:=λm=>by
   induction m with
   | zero=>rw[VX];show(0:Rat)*F+1=0+1;grind
   | succ m ih =>
    show(F*aE F 1 m+1)*F+1=(F*aE F 1 m+1)+F^(m+1)
    rw[WA]
    grind
  have:=this n
  show aE F 1 n+F^n=F*aE F 1 n+1
  grind
theorem RP{a b:Rat}{ns:List Int}{L:Nat}(hn:ns.length=L+1)(X:Nat->List Rat)(hX:∀k,(X k).length=L):∀(n:Nat)(M:List Rat),1<=n->M.length=L->(∀i,i<L->M.getD i 0*((n:Int):Rat)=sumTo (λk=>(X k).getD i 0) n)->((n:Int):Rat)*fm a b ns M=sumTo (λk=>fm a b ns (X k)) n
 | 0,M,h,_,_=>by lia
 | n+1,M,_,hM,hs=>by
  have en:(((n+1:Nat):Int):Rat)=((n:Int):Rat)+1:=by push_cast;rfl
  by_cases z:n=0
  ·subst z
   have e1:(((0+1:Nat):Int):Rat)=1:=by decide
   have:M=X 0:=kK (by rw[hM,hX]) λi hi=>by
    have:=hs i (by lia);rw[e1]at this;have e2:sumTo (λk=>(X k).getD i 0) (0+1)=(X 0).getD i 0:=by rw[sumTo,sumTo];grind
    rw[e2]at this
    grind
   rw[this,e1]
   show 1*fm a b ns (X 0)=0+fm a b ns (X 0)
   grind
  ·have hn0:((n:Int):Rat)≠0:=λe=>z (by have:=WX.mp e;lia)
   have hn1:((n:Int):Rat)+1≠0:=λe=>by
    rw[<- en]at e;have:=WX.mp e
    lia
   -- the means of the first ones
   let M':List Rat:=(wq L).map λi=>sumTo (λk=>(X k).getD i 0) n / ((n:Int):Rat)
   have hl':M'.length=L:=by simp[M']
   have g':∀i,i<L->M'.getD i 0=sumTo (λk=>(X k).getD i 0) n / ((n:Int):Rat):=λi hi=>by
    show((wq L).map λi=>sumTo (λk=>(X k).getD i 0) n / ((n:Int):Rat)).getD i 0=_
    rw[wb,wt,vT hi];rfl
   have ih:=RP (a:=a) (b:=b) hn X hX n M' (by lia) hl' λi hi=>by rw[g' i hi];exact WL hn0
   have eM:M=fK (1 / (((n:Int):Rat)+1)) M' (X n):=kK (by rw[hM,nz (by rw[hl',hX]),hl']) λi hi=>by
    rw[lC (by rw[hl',hX]) (by lia),g' i (by lia)];have h1:=hs i (by lia);rw[en,sumTo]at h1;generalize sumTo (λk=>(X k).getD i 0) n=S at *;generalize (X n).getD i 0=y at *;generalize M.getD i 0=m at *;generalize ((n:Int):Rat)=N at *;have k1:S / N*N=S:=WL hn0;have k2:1 / (N+1)*(N+1)=1:=WL hn1;generalize S / N=q at *;generalize 1 / (N+1)=r at *;have:(m-(q+r*(y-q)))*(N+1)=0:=by grind
    rcases XC.mp this with h | h
    ·grind
    ·exact absurd h hn1
   rw[eM,UY _ (by lia) (by rw[hl',hX]),sumTo,<- ih,en];generalize fm a b ns M'=A;generalize fm a b ns (X n)=B;generalize ((n:Int):Rat)=N at *;have k2:1 / (N+1)*(N+1)=1:=WL hn1;generalize 1 / (N+1)=r at *
   grind
end GM
namespace L2
open PySem PySem.Spec PyProof.Rows GM
section
variable{K:wa}{H H' H2:Hp}{a p:we}{xs ys:List V}{o:HO}
theorem ah.upd(h:H p=none):ah H (upd H p o):=λb u e=>by
 rw[ee (jM e h)];exact e
theorem ah.j3(s:ah H H')(h:aV K H a xs):aV K H' a xs:=by
 rcases h with(h | ⟨o,h⟩) | h
 ·exact .inl (.inl (s _ _ h))
 ·exact .inl (.inr ⟨o,s _ _ h⟩)
 ·exact .inr h
structure bK(H H':Hp):Prop where
 t:∀b xs,H b=some (.tup xs)->H' b=some (.tup xs)
 f:∀b o u,H b=some (.gq o u)->H' b=some (.gq o u)
theorem ah.keep(s:ah H H'):bK H H':=⟨λb xs h=>s _ _ h,λb o u h=>s _ _ h⟩
theorem bK.trans(a:bK H H')(b:bK H' H2):bK H H2:=⟨λc xs h=>b.t _ _ (a.t _ _ h),λc o u h=>b.f _ _ _ (a.f _ _ _ h)⟩
theorem bK.j3(k:bK H H')(h:aV K H a xs):aV K H' a xs:=by
 rcases h with(h | ⟨o,h⟩) | h
 ·exact .inl (.inl (k.t _ _ h))
 ·exact .inl (.inr ⟨o,k.f _ _ _ h⟩)
 ·exact .inr h
def iK(K:wa)(H:Hp)(a:we)(xs:List V):Prop :=
 (∃o,H a=some (.gq o (.lst xs))) \/
  ∃(o:Obj)(its:Array wf)(n:Nat),K.lookup a=some o/\o.cls=.type "list"/\o.dict=none/\o.data=.seq its n/\its.size<=w5/\aT xs its.toList
theorem iK.sq(h:iK K H a xs):aR K H a xs:=by
 rcases h with⟨o,h⟩ | h
 ·exact .inl (.inr ⟨o,h⟩)
 ·exact .inr h
theorem bK.DY(k:bK H H')(h:iK K H a xs):iK K H' a xs:=by
 rcases h with⟨o,h⟩ | h
 ·exact .inl ⟨o,k.f _ _ _ h⟩
 ·exact .inr h
def Exc(p:we)(H H':Hp):Prop:=∀b o,b≠p->H b=some o->H' b=some o
theorem Exc.keep(e:Exc p H H')(h:H p=some (.lst xs)):bK H H' :=
 ⟨λb ys hb=>e b _ (K_ hb h (by intro z;cases z)) hb,λb o u hb=>e b _ (K_ hb h (by intro z;cases z)) hb⟩
theorem ah.exc(s:ah H H'):Exc p H H':=λb o _ h=>s b o h
theorem Exc.refl(p:we)(H:Hp):Exc p H H:=λ_ _ _ h=>h
theorem Exc.trans(a:Exc p H H')(b:Exc p H' H2):Exc p H H2:=λc o n h=>b c o n (a c o n h)
theorem Exc.upd(p:we)(H:Hp)(o:HO):Exc p H (upd H p o):=λb u n h=>by
 rw[ee n];exact h
theorem Exc.at(e:Exc p H H'){q:we}{u:HO}(n:q≠p)(h:H q=some u):H' q=some u:=e q u n h
end
mutual
def Is(K:wa)(H:Hp):V->wy->Prop
 | v,.none=>v=.bj
 | v,.bool b=>v=.bl b
 | v,.int i=>v=.int i
 | v,.str x=>v=.str x
 | v,.tuple ds=>∃a xs,v=.ref a/\aV K H a xs/\au K H xs ds
 | v,.list ds=>∃a xs,v=.ref a/\aR K H a xs/\au K H xs ds
 | v,.dict _=>∃a kvs,v=.ref a/\H a=some (.dK kvs)
def au(K:wa)(H:Hp):List V->List wy->Prop
 | xs,[]=>xs=[]
 | xs,d::ds=>∃x r,xs=x::r/\Is K H x d/\au K H r ds
end
section
variable{K:wa}{H H':Hp}{v:V}{xs:List V}{ds:List wy}{d:wy}
theorem b_{i:Int} : Is K H v (.int i) ↔ v=.int i:=by rw[Is]
theorem jX{b:Bool} : Is K H v (.bool b) ↔ v=.bl b:=by rw[Is]
theorem eZ{x:Str} : Is K H v (.str x) ↔ v=.str x:=by rw[Is]
theorem iI:Is K H v .none ↔ v=.bj:=by rw[Is]
theorem bX:Is K H v (.tuple ds) ↔ ∃a xs,v=.ref a/\aV K H a xs/\au K H xs ds:=by rw[Is]
theorem cE:Is K H v (.list ds) ↔ ∃a xs,v=.ref a/\aR K H a xs/\au K H xs ds:=by rw[Is]
theorem sG{kv:List (wy × wy)} : Is K H v (.dict kv) ↔ ∃a kvs,v=.ref a/\H a=some (.dK kvs):=by rw[Is]
theorem gZ:au K H xs [] ↔ xs=[]:=by rw[au]
theorem fb:au K H xs (d::ds) ↔ ∃x r,xs=x::r/\Is K H x d/\au K H r ds:=by rw[au]
theorem au.cons(h:Is K H v d)(t:au K H xs ds):au K H (v::xs) (d::ds):=fb.mpr ⟨v,xs,rfl,h,t⟩
theorem au.nil:au K H [] []:=gZ.mpr rfl
theorem au.length:∀{ds:List wy}{xs:List V},au K H xs ds->xs.length=ds.length
 | [],_,h=>by rw[gZ.mp h];rfl
 | d::ds,_,h=>by
  obtain⟨x,r,rfl,_,t⟩:=fb.mp h;rw[vP,vP,au.length t]
theorem au.get:∀{ds:List wy}{xs:List V}{i:Nat}{d:wy},au K H xs ds->ds[i]? = some d->∃x,xs[i]? = some x/\Is K H x d
 | [],_,_,_,_,e=>by simp at e
 | d::ds,_,0,_,h,e=>by
  obtain⟨x,r,rfl,q,_⟩:=fb.mp h;simp at e;subst e;exact⟨x,rfl,q⟩
 | d::ds,_,i+1,d',h,e=>by
  obtain⟨x,r,rfl,_,t⟩:=fb.mp h;obtain⟨y,h1,h2⟩:=au.get (i:=i) t (by simpa using e);exact⟨y,by simpa using h1,h2⟩
theorem au.append:∀{ds es:List wy}{xs ys:List V},au K H xs ds->au K H ys es->au K H (xs++ys) (ds++es)
 | [],_,_,_,h,t=>by rw[gZ.mp h];exact t
 | d::ds,_,_,_,h,t=>by
  obtain⟨x,r,rfl,q,u⟩:=fb.mp h;exact .cons q (au.append u t)
mutual
theorem Is.same(s:ah H H'):∀(d:wy)(v:V),Is K H v d->Is K H' v d
 | .none,v,h=>by rw[iI]at h ⊢;exact h
 | .bool _,v,h=>by rw[jX]at h ⊢;exact h
 | .int _,v,h=>by rw[b_]at h ⊢;exact h
 | .str _,v,h=>by rw[eZ]at h ⊢;exact h
 | .tuple ds,v,h=>by
  obtain⟨a,xs,e,q,t⟩:=bX.mp h;exact bX.mpr ⟨a,xs,e,s.j3 q,au.same s ds xs t⟩
 | .list ds,v,h=>by
  obtain⟨a,xs,e,q,t⟩:=cE.mp h;exact cE.mpr ⟨a,xs,e,s.seq q,au.same s ds xs t⟩
 | .dict _,v,h=>by
  obtain⟨a,kvs,e,q⟩:=sG.mp h;exact sG.mpr ⟨a,kvs,e,s _ _ q⟩
theorem au.same(s:ah H H'):∀(ds:List wy)(xs:List V),au K H xs ds->au K H' xs ds
 | [],xs,h=>by rw[gZ]at h ⊢;exact h
 | d::ds,xs,h=>by
  obtain⟨x,r,e,q,t⟩:=fb.mp h;exact fb.mpr ⟨x,r,e,Is.same s d x q,au.same s ds r t⟩
end
end
/- no list and no dict within -/
mutual
def cW:wy->Bool
 | .none=>true
 | .bool _=>true
 | .int _=>true
 | .str _=>true
 | .tuple ds=>cg ds
 | .list _=>false
 | .dict _=>false
def cg:List wy->Bool
 | []=>true
 | d::ds=>cW d&&cg ds
end
section
variable{K:wa}{H H':Hp}
mutual
theorem Is.keep(k:bK H H'):∀(d:wy)(v:V),cW d=true->Is K H v d->Is K H' v d
 | .none,v,_,h=>by rw[iI]at h ⊢;exact h
 | .bool _,v,_,h=>by rw[jX]at h ⊢;exact h
 | .int _,v,_,h=>by rw[b_]at h ⊢;exact h
 | .str _,v,_,h=>by rw[eZ]at h ⊢;exact h
 | .tuple ds,v,i,h=>by
  obtain⟨a,xs,e,q,t⟩:=bX.mp h;exact bX.mpr ⟨a,xs,e,k.j3 q,au.keep k ds xs (by rw[cW]at i;exact i) t⟩
 | .list ds,v,i,h=>by rw[cW]at i;cases i
 | .dict _,v,i,h=>by rw[cW]at i;cases i
theorem au.keep(k:bK H H'):∀(ds:List wy)(xs:List V),cg ds=true->au K H xs ds->au K H' xs ds
 | [],xs,_,h=>by rw[gZ]at h ⊢;exact h
 | d::ds,xs,i,h=>by
  obtain⟨x,r,e,q,t⟩:=fb.mp h;rw[cg,wW]at i;exact fb.mpr ⟨x,r,e,Is.keep k d x i.1 q,au.keep k ds r i.2 t⟩
end
end
def N(r:Rat):wy:=.tuple [.int r.num,.int (r.den:Int)]
theorem ki(r:Rat):cW (N r)=true:=by simp[N,cW,cg]
section
variable{K:wa}{H H':Hp}{v:V}{r:Rat}
theorem oI:Is K H v (N r) ↔ ∃a,v=.ref a/\aV K H a [.int r.num,.int (r.den:Int)]:=by
 unfold N;rw[bX]
 constructor
 ·rintro ⟨a,xs,e,q,t⟩
  obtain⟨x,r1,rfl,q1,t⟩:=fb.mp t;obtain⟨y,r2,rfl,q2,t⟩:=fb.mp t;rw[gZ.mp t,b_.mp q1,b_.mp q2]at q;exact⟨a,e,q⟩
 ·rintro ⟨a,e,q⟩
  exact⟨a,_,e,q,.cons (b_.mpr rfl) (.cons (b_.mpr rfl) .nil)⟩
end
section
variable{X:Cx}{pins:List (we × Obj)}{σ : St}{H:Hp}{s:wl}
mutual
theorem Inv.reads(I:Inv X pins σ H s):∀(d:wy)(v:V)(u:wf),d.canLay0=true->Is X.K H v d->a_ v u->∃as,Reads s.heap u d as
 | .none,v,u,_,h,r=>by
  cases iI.mp h;cases (show u=Value.none from r);exact⟨_,.none⟩
 | .bool b,v,u,_,h,r=>by
  cases jX.mp h;cases (show u=Value.bool b from r);exact⟨_,.bool b⟩
 | .int i,v,u,_,h,r=>by
  cases b_.mp h;obtain⟨t,e⟩:=(show ∃t,u=Value.int i t from r);cases e;exact⟨_,.int i t⟩
 | .str x,v,u,_,h,r=>by
  cases eZ.mp h;obtain⟨t,e⟩:=(show ∃t,u=Value.str x t from r);cases e;exact⟨_,.str x t⟩
 | .tuple ds,v,u,c,h,r=>by
  obtain⟨a,xs,e,q,t⟩:=bX.mp h;subst e;cases (show u=Value.ref a from r);obtain⟨its,rv,⟨o,e1,e2,n,e3⟩,_⟩:=I.tuple q;obtain⟨as,ra⟩:=Inv.readsAll I ds xs its (by rw[vF]at c;exact c) t rv;exact⟨_,.tuple e1 e2 e3 (by simpa using ra)⟩
 | .list ds,v,u,c,h,r=>by
  obtain⟨a,xs,e,q,t⟩:=cE.mp h;subst e;cases (show u=Value.ref a from r);obtain⟨its,rv,⟨o,n,e1,e2,_,e3⟩,_⟩:=I.list q;obtain⟨as,ra⟩:=Inv.readsAll I ds xs its (by rw[vF]at c;exact c) t rv;exact⟨_,.list e1 e2 e3 (by simpa using ra)⟩
 | .dict _,v,u,c,h,r=>by rw[vF]at c;cases c
theorem Inv.readsAll(I:Inv X pins σ H s):∀(ds:List wy)(xs:List V)(us:List wf),Wg ds=true->au X.K H xs ds->aT xs us->∃as,ReadsAll s.heap us ds as
 | [],xs,us,_,h,r=>by
  rw[gZ.mp h]at r;cases r;exact⟨_,.nil⟩
 | d::ds,xs,us,c,h,r=>by
  obtain⟨x,l,e,q,t⟩:=fb.mp h;subst e;rw[Wg,wW]at c;cases r with
  | cons r1 r2 =>
   obtain⟨as,h1⟩:=Inv.reads I d x _ c.1 q r1;obtain⟨bs,h2⟩:=Inv.readsAll I ds l _ c.2 t r2;exact⟨_,.cons h1 h2⟩
end
end
section
variable{X:Cx}
open PySem.SeqAt (shaped)
def cu(K:wa):R2:=λx y H Q=>∃d e,Is K H x d/\Is K H y e/\shaped d=true/\shaped e=true/\Q (.bl (wQ d e)) H
def fR(K:wa):R2:=λx y H Q=>∃d e,Is K H x d/\Is K H y e/\shaped d=true/\shaped e=true/\Q (.bl (!PyData.eqv d e)) H
theorem dq(hu:X.A.units+64<WF):aK X (wJ .Eq) (cu X.K):=by
 intro pins s σ H x y v u Q I rx ry h;obtain⟨d,e,hd,he,sd,se,q⟩:=h;obtain⟨as,h1⟩:=I.reads d x v (W2 sd) hd rx;obtain⟨bs,h2⟩:=I.reads e y u (W2 se) he ry;exact eq_dataH h1 h2 sd se hu ⟨.bl _,H,I,rfl,q⟩
theorem jB(hu:X.A.units+64<WF):aK X (wJ .NotEq) (fR X.K):=by
 intro pins s σ H x y v u Q I rx ry h;obtain⟨d,e,hd,he,sd,se,q⟩:=h;obtain⟨as,h1⟩:=I.reads d x v (W2 sd) hd rx;obtain⟨bs,h2⟩:=I.reads e y u (W2 se) he ry;exact ne_dataH h1 h2 sd se hu ⟨.bl _,H,I,rfl,q⟩
theorem a_.Ip{x:V}{v:wf}(r:a_ x v)(c:Bool):(v == Value.bool c)=decide (x=.bl c):=by
 cases x with
 | bj=>cases (show v=Value.none from r);rfl
 | bl b=>cases (show v=Value.bool b from r);cases b<;>cases c<;>rfl
 | int _=>obtain⟨t,rfl⟩:=r;rfl
 | str _=>obtain⟨t,rfl⟩:=r;rfl
 | byt _=>obtain⟨t,rfl⟩:=r;rfl
 | flt _=>obtain⟨t,rfl⟩:=r;rfl
 | ref _=>cases r;rfl
 | ty _=>cases r;rfl
theorem a_.Hz{x:V}{v:wf}(r:a_ x v)(c:Bool):plainIs v (Value.bool c)=true:=by
 cases x with
 | bj=>cases (show v=Value.none from r);rfl
 | bl b=>cases (show v=Value.bool b from r);rfl
 | int _=>obtain⟨t,rfl⟩:=r;rfl
 | str _=>obtain⟨t,rfl⟩:=r;rfl
 | byt _=>obtain⟨t,rfl⟩:=r;rfl
 | flt _=>obtain⟨t,rfl⟩:=r;rfl
 | ref _=>cases r;rfl
 | ty _=>cases r;rfl
def MI:R2:=λx y H Q=>(∃c,y=.bl c/\Q (.bl (decide (x=.bl c))) H)\/(y=.bj/\Q (.bl (decide (x=.bj))) H)
def LP:R2:=λx y H Q=>(∃c,y=.bl c/\Q (.bl (!decide (x=.bl c))) H)\/(y=.bj/\Q (.bl (!decide (x=.bj))) H)
theorem p0:aK X (wJ .Is) MI:=by
 intro pins s σ H x y v u Q I rx ry h;rcases h with⟨c,e,q⟩ | h
 ·subst e
  cases (show u=Value.bool c from ry);exact wpAny_is_plain (rx.Hz c) (yD I q (rx.Ip c).symm)
 ·exact Uv pins s σ H x y v u Q I rx ry h
theorem UU:aK X (wJ .IsNot) LP:=by
 intro pins s σ H x y v u Q I rx ry h;rcases h with⟨c,e,q⟩ | h
 ·subst e
  cases (show u=Value.bool c from ry);exact wpAny_isNot_plain (rx.Hz c) (yD I q (congrArg not (rx.Ip c).symm))
 ·exact zAg pins s σ H x y v u Q I rx ry h
def kindOf:wy->String
 | .none=>"NoneType"
 | .bool _=>"bool"
 | .int _=>"int"
 | .str _=>"str"
 | .tuple _=>"tuple"
 | .list _=>"list"
 | .dict _=>"dict"
def eG(K:wa):List V->Hp->VK->Prop:=λxs H Q=>∃x T d b,xs=[x,.ty T]/\Is K H x d/\Vt K (.type (kindOf d)) (.type T)=some b/\Q (.bl b) H
theorem ja:aP X (.builtin "isinstance") (eG X.K):=by
 intro pins s σ H xs us Q I r h;obtain⟨x,T,d,b,rfl,hd,e,q⟩:=h;obtain⟨u,w',rfl,rx,rt⟩:=kQ r;cases (show w'=Value.type T from rt);have fin:∀tk,EP X pins σ Q (.bool b) {s with toks:=tk}:=λtk=>⟨.bl b,H,I.tok _,rfl,q⟩
 cases d with
 | none =>
  cases iI.mp hd;cases (show u=Value.none from rx);exact Vd xV I.dF True.intro e (λz=>nomatch z) fin
 | bool y =>
  cases jX.mp hd;cases (show u=Value.bool y from rx);exact Vd xW I.dF True.intro e (λz=>nomatch z) fin
 | int i =>
  cases b_.mp hd;obtain⟨t,q⟩:=(show ∃t,u=Value.int i t from rx);cases q;exact Vd Xo I.dF True.intro e (λz=>nomatch z) fin
 | str y =>
  cases eZ.mp hd;obtain⟨t,q⟩:=(show ∃t,u=Value.str y t from rx);cases q;exact Vd Xp I.dF True.intro e (λz=>nomatch z) fin
 | tuple ds =>
  obtain⟨a,xs,e1,hq,_⟩:=bX.mp hd;subst e1;cases (show u=Value.ref a from rx);obtain⟨its,_,⟨o,h1,h2,_⟩,_⟩:=I.tuple hq;exact Vd xG I.dF ⟨o,h1,h2⟩ e (λz=>nomatch z) fin
 | list ds =>
  obtain⟨a,xs,e1,hq,_⟩:=cE.mp hd;subst e1;cases (show u=Value.ref a from rx);obtain⟨its,_,⟨o,n,h1,h2,_⟩,_⟩:=I.list hq;exact Vd xX I.dF ⟨o,h1,h2⟩ e (λz=>nomatch z) fin
 | dict kv =>
  obtain⟨a,kvs,e1,hq⟩:=sG.mp hd;subst e1;cases (show u=Value.ref a from rx);obtain⟨_,_,vs,_,o,es,ep,h1,h2,_⟩:=(show dM X.prog X.w H s.heap a (.dK kvs)from I.aJ a _ hq);exact Vd xY I.dF ⟨o,h1,h2.1⟩ e (λz=>nomatch z) fin
def isA(T:String)(d:wy):Bool:=(kindOf d == T) || (kindOf d == "bool"&&T == "int")
theorem zzS{K:wa}(d:wy):Vt K (.type (kindOf d)) (.type "int")=some (isA "int" d):=by cases d<;>rfl
theorem zyQ{K:wa}(d:wy):Vt K (.type (kindOf d)) (.type "bool")=some (isA "bool" d):=by cases d<;>rfl
theorem zwk{K:wa}(d:wy):Vt K (.type (kindOf d)) (.type "tuple")=some (isA "tuple" d):=by cases d<;>rfl
theorem ZC{K:wa}(d:wy):Vt K (.type (kindOf d)) (.type "list")=some (isA "list" d):=by cases d<;>rfl
theorem YU{K:wa}(d:wy):Vt K (.type (kindOf d)) (.type "str")=some (isA "str" d):=by cases d<;>rfl
theorem Ua{m n:Nat}{i j:Int}(h:Bd m i)(k:Bd n j)(hm:m<=1000000)(hn:n<=1000000):IntMulOk i j:=by
 have f:∀{m:Nat}{i:Int},Bd m i->m<=1000000->xp i<=2^20:=by
  intro m i h hm;have e:(2:Nat)^20=1048576:=by decide
  have l:=(h.mono (Nat.le_succ m)).log (Nat.succ_pos m);unfold xp
  split<;>lia
 exact .of_bits (f h hm) (f k hn)
theorem cv:aK X (Wn .Mult) (rI IntMulOk λi j=>.int (i*j)):=u5 λ_ _ _ _ _ _ _ hc q=>mul_int q hc
def mm(_ j:Int):Prop:=j≠0/\Bd 8999 j
theorem ft:aK X (Wn .FloorDiv) (rI mm λi j=>.int (i.fdiv j)):=u5 λ_ _ _ _ _ _ _ hc q =>
 floordiv_int hc.1 q (.inl (PyProof.noPylong_of_log2 (qC (hc.2.log (by decide)))))
theorem Y2:aK X (Wn .Add) (λx y H Q=>(iG λi j=>.int (i+j)) x y H Q\/(Fb x y H Q \/ ∃i j,x=.str i/\y=.str j/\i.length+j.length<=w5/\Q (.str (i++j)) H)):=zBW.or (Z6.or zt7)
end
theorem dW:vH "len"=some (.builtin "len"):=by decide +kernel
theorem kR:vH "abs"=some (.builtin "abs"):=by decide +kernel
theorem ik:vH "isinstance"=some (.builtin "isinstance"):=by decide +kernel
theorem zBM:vH "int"=some (.type "int"):=by decide +kernel
theorem KN:vH "bool"=some (.type "bool"):=by decide +kernel
theorem ZT:vH "str"=some (.type "str"):=by decide +kernel
theorem dR:vH "tuple"=some (.type "tuple"):=by decide +kernel
theorem kh:vH "list"=some (.type "list"):=by decide +kernel
def lT(K:wa)(xs:List V)(H:Hp)(Q:VK):Prop:=xs.length<=w5 /\ ∀p,H p=none->Q (.ref p) (upd H p (.tup xs))
def BS(K:wa)(xs:List V)(H:Hp)(Q:VK):Prop:=xs.length<=w5 /\ ∀p,H p=none->Q (.ref p) (upd H p (.lst xs))
def zg(K:wa)(t:TA):TE:=λσ H Q=>t σ H λxs H1=>lT K xs H1 Q
def Nl(K:wa)(t:TA):TE:=λσ H Q=>t σ H λxs H1=>BS K xs H1 Q
def DF:R2:=λx y H Q=>(iG λi j=>.int (i+j)) x y H Q\/(Fb x y H Q \/ ∃i j,x=.str i/\y=.str j/\i.length+j.length<=w5/\Q (.str (i++j)) H)
def Sx:List V->Hp->VK->Prop:=λxs H Q=>∃i:Int,xs=[.int i]/\Q (.int (if i<0 then -i else i)) H
def cR(K:wa):List V->Hp->VK->Prop:=λxs H Q=>∃p ys,xs=[.ref p]/\(aR K H p ys\/aV K H p ys)/\Q (.int ys.length) H
section
variable{X:Cx}{e:Expr}{es:List Expr}{te:TE}{t:TA}{pos:Pos}
theorem br{x1}(h:PA X es t):PE X (.Tuple es x1 pos) (zg X.K t):=zCL h
theorem eH(h:PA X es t):PE X (.List es pos) (Nl X.K t):=zB5 h
theorem cA:aK X (Wn .Add) DF:=Y2
theorem k_:aP X (.builtin "abs") Sx:=zxJ
theorem dS:aP X (.builtin "len") (cR X.K):=Zp
theorem lJ{x:Str}{i:Int}{pos:Pos}(hg:Gl X x)(hm:∃t,X.mg x=some (.int i t))(hd:(x == ("__debug__" : Str))=false:=by decide):PE X (.Name x pos) (tC (.int i)):=by
 obtain⟨t,hm⟩:=hm;exact bZ hg hm ⟨t,rfl⟩ hd
end
section
variable{K:wa}{σ : St}{H H':Hp}{Q:VK}{QA:List V->Hp->Prop}{QB:Bool->Hp->Prop}{QS:St->Hp->Prop}{QH:Hp->Prop}{D:ck}{ta tb te:TE}{tt tu:TT}{t tr:TA}{s1 s2:TS}{g:TG}{gs:jG}{r:R2}{v w:V}{xs ys:List V}{i:Nat}{m n:Int}
theorem zBH(h : σ[i]? = some (some v))(q:Q v H):pM i σ H Q:=⟨v,h,q⟩
theorem zDU(q:Q v H):tC v σ H Q:=q
theorem zDz(h:ta σ H λx H1=>tb σ H1 λy H2=>r x y H2 Q):kU r ta tb σ H Q:=h
theorem YA{u:V->Hp->VK->Prop}(h:ta σ H λx H1=>u x H1 Q):J7 u ta σ H Q:=h
theorem Z9(h:t σ H λxs H1=>lT K xs H1 Q):zg K t σ H Q:=h
theorem zCA(h:t σ H λxs H1=>BS K xs H1 Q):Nl K t σ H Q:=h
theorem zCN(q:QA [] H):yM σ H QA:=q
theorem zAC(h:te σ H λx H1=>tr σ H1 λxs H2=>QA (x::xs) H2):uZ te tr σ H QA:=h
theorem zAm{sp:Sp}{E:XK}(h:t σ H λvs H1=>sp vs H1 Q E):pq sp [] E t σ H Q:=by
 simpa only[pq,Wd] using h
theorem ZX{u:List V->Hp->VK->Prop}(h:t σ H λvs H1=>u vs H1 Q):CK u t σ H Q:=h
theorem YT(h:te σ H λx H'=>∃k,x=.bl k/\QB k H'):C5 te σ H QB:=h
theorem zDE(h:te σ H λx H'=>∃k,x=.bl k/\QB k H'):tB te σ H QB:=h
theorem zB1(h:tt σ H λc H1=>if c=true then tu σ H1 QB else QB false H1):Sw tt tu σ H QB:=h
theorem zDa(h:tt σ H λc H1=>if c=true then QB true H1 else tu σ H1 QB):Rx tt tu σ H QB:=h
theorem zB9(h:tt σ H λc H1=>QB (!c) H1):Lv tt σ H QB:=h
theorem Y7(h:ta σ H λx H1=>∃c,x=.bl c/\if c=true then tb σ H1 Q else Q (.bl false) H1):LI ta tb σ H Q:=h
theorem zBJ(h:ta σ H λx H1=>∃c,x=.bl c/\if c=true then Q (.bl true) H1 else tb σ H1 Q):R0 ta tb σ H Q:=h
theorem zzp(h:ta σ H λx H1=>∃c,x=.bl c/\Q (.bl (!c)) H1):Nk ta σ H Q:=h
theorem Ye(h:tt σ H λc H1=>if c=true then ta σ H1 Q else tb σ H1 Q):O5 tt ta tb σ H Q:=h
-- statements
theorem zCK(h:s1 {D with nx:=s2 D} σ H):DD s1 s2 D σ H:=h
theorem zAq(h:D.nx σ H):Mj D σ H:=h
theorem zBx(h:te σ H D.rt):R_ te D σ H:=h
theorem zCa(h:tt σ H λb H1=>if b=true then s1 D σ H1 else s2 D σ H1):PM tt s1 s2 D σ H:=h
theorem Uu(h:te σ H λx H1=>g x σ H1 D.nx):jV te g D σ H:=h
theorem zzn(h:te σ H λ_ H1=>D.nx σ H1):SN te D σ H:=h
theorem YC{i j:Nat}(h:t σ H λvs H1=>∃v w,vs=[v,w]/\D.nx ((σ.set i (some v)).set j (some w)) H1):Po i j t D σ H:=h
theorem zAl{i j:Nat}(q:QS ((σ.set i (some v)).set j (some w)) H):∃v' w',[v,w]=[v',w']/\QS ((σ.set i (some v')).set j (some w')) H:=⟨v,w,rfl,q⟩
-- targets
theorem Zr(q:QS (σ.set i (some v)) H):gX i v σ H QS:=q
theorem Y_(q:QS σ H):Oq [] σ H QS:=⟨rfl,q⟩
theorem zyz(q:g v σ H λσ' H'=>gs xs σ' H' QS):Mn g gs (v::xs) σ H QS:=⟨v,xs,rfl,q⟩
theorem mr{a:we}{n:Nat}(h:aV K H a xs)(e:xs.length=n)(q:gs xs σ H QS):nj K n gs (.ref a) σ H QS:=⟨a,xs,rfl,h,e,q⟩
theorem zzI{tset:rL}(h:ta σ H λo H1=>tb σ H1 λi H2=>tset o i v H2 λH3=>QS σ H3):Me ta tb tset v σ H QS:=h
theorem sk{p:we}{k:Int}{j:Nat}(h:H p=some (.lst xs))(e:gM xs.length k=some j)(q:∀H',Exc p H H'->H' p=some (.lst (xs.set j v))->QH H'):Sz (.ref p) (.int k) v H QH :=
 ⟨p,xs,k,j,rfl,rfl,h,e,q _ (Exc.upd p H _) cV⟩
-- ints
theorem zB7{f:Int->Int->V}(q:Q (f m n) H):iG f (.int m) (.int n) H Q:=⟨m,n,rfl,rfl,q⟩
theorem pR{C:Int->Int->Prop}{f:Int->Int->V}(c:C m n)(q:Q (f m n) H):rI C f (.int m) (.int n) H Q:=⟨m,n,rfl,rfl,c,q⟩
theorem zDc{f:Int->V}(q:Q (f m) H):rU f (.int m) H Q:=⟨m,rfl,q⟩
theorem zzR(q:Q (.int (m+n)) H):DF (.int m) (.int n) H Q:=.inl ⟨m,n,rfl,rfl,q⟩
theorem lM{p b:we}(h:H p=some (.lst xs))(k:H b=some (.lst ys))(z:xs.length+ys.length<=w5)
  (q:∀c H',H c=none->ah H H'->H' c=some (.lst (xs++ys))->Q (.ref c) H'):DF (.ref p) (.ref b) H Q :=
 .inr (.inl ⟨p,b,xs,ys,rfl,rfl,h,k,z,λc hc=>q c _ hc (ah.upd hc) cV⟩)
theorem zCH(q:Q (.int (if m<0 then -m else m)) H):Sx [.int m] H Q:=⟨m,rfl,q⟩
theorem Oc{p:we}(h:aV K H p xs)(q:Q (.int xs.length) H):cR K [.ref p] H Q:=⟨p,xs,rfl,.inr h,q⟩
theorem iN{p:we}(h:aR K H p xs)(q:Q (.int xs.length) H):cR K [.ref p] H Q:=⟨p,xs,rfl,.inl h,q⟩
theorem zB0(q:Q (.bl (decide (v=.bj))) H):MI v .bj H Q:=.inr ⟨rfl,q⟩
theorem Zh(q:Q (.bl (!decide (v=.bj))) H):LP v .bj H Q:=.inr ⟨rfl,q⟩
theorem zCG(q:Q (.bl (decide (m=n))) H):cu K (.int m) (.int n) H Q :=
 ⟨.int m,.int n,b_.mpr rfl,b_.mpr rfl,rfl,rfl,by
  have e:wQ (.int m) (.int n)=decide (m=n):=by
   rw[wQ,qK]
  rw[e];exact q⟩
theorem zCE(q:Q (.bl (!decide (m=n))) H):fR K (.int m) (.int n) H Q :=
 ⟨.int m,.int n,b_.mpr rfl,b_.mpr rfl,rfl,rfl,by
  have e:wQ (.int m) (.int n)=decide (m=n):=by
   rw[wQ,qK]
  rw[e];exact q⟩
theorem nu{d e:wy}(h:Is K H v d)(k:Is K H w e)(sd:vQ d=true)(se:vQ e=true)(q:Q (.bl (wQ d e)) H):cu K v w H Q:=⟨d,e,h,k,sd,se,q⟩
theorem EV{d e:wy}(h:Is K H v d)(k:Is K H w e)(sd:vQ d=true)(se:vQ e=true)(q:Q (.bl (!PyData.eqv d e)) H):fR K v w H Q:=⟨d,e,h,k,sd,se,q⟩
theorem n_{T:String}{d:wy}(h:Is K H v d)(e:Vt K (.type (kindOf d)) (.type T)=some (isA T d))(q:Q (.bl (isA T d)) H):eG K [v,.ty T] H Q:=⟨v,T,d,_,rfl,h,e,q⟩
def iO:wy->Bool
 | .tuple _=>true
 | _=>false
def DU:wy->Bool
 | .int _=>true
 | .bool _=>true
 | _=>false
def C_:wy->Bool
 | .bool _=>true
 | _=>false
def ko:wy->Bool
 | .list _=>true
 | _=>false
def BQ:wy->Bool
 | .str _=>true
 | _=>false
theorem K9{d:wy} : iO d=true ↔ ∃ds,d=.tuple ds:=by cases d<;>simp[iO]
theorem L4{d:wy}(h:Is K H v d)(q:Q (.bl (iO d)) H):eG K [v,.ty "tuple"] H Q:=n_ h (zwk d) (by have e:isA "tuple" d=iO d:=(by cases d<;>rfl);rw[e];exact q)
theorem zxP{d:wy}(h:Is K H v d)(q:Q (.bl (DU d)) H):eG K [v,.ty "int"] H Q:=n_ h (zzS d) (by have e:isA "int" d=DU d:=(by cases d<;>rfl);rw[e];exact q)
theorem Tc{d:wy}(h:Is K H v d)(q:Q (.bl (C_ d)) H):eG K [v,.ty "bool"] H Q:=n_ h (zyQ d) (by have e:isA "bool" d=C_ d:=(by cases d<;>rfl);rw[e];exact q)
theorem zxa{d:wy}(h:Is K H v d)(q:Q (.bl (ko d)) H):eG K [v,.ty "list"] H Q:=n_ h (ZC d) (by have e:isA "list" d=ko d:=(by cases d<;>rfl);rw[e];exact q)
theorem zyx{d:wy}(h:Is K H v d)(q:Q (.bl (BQ d)) H):eG K [v,.ty "str"] H Q:=n_ h (YU d) (by have e:isA "str" d=BQ d:=(by cases d<;>rfl);rw[e];exact q)
-- items
theorem uH{p:we}{m:Int}(h:aV K H p xs)(e:gP xs m=some v)(q:Q v H):c_ K (.ref p) (.int m) H Q:=.inr (.inl ⟨p,xs,m,v,rfl,rfl,h,e,q⟩)
theorem iH{p:we}{m:Int}(h:aR K H p xs)(e:gP xs m=some v)(q:Q v H):c_ K (.ref p) (.int m) H Q:=.inl ⟨p,xs,m,v,rfl,rfl,h,e,q⟩
theorem zCj{α : Type}{xs:List α}{m:Int}(h0:0<=m)(h1:m<xs.length):∃v,gP xs m=some v/\v∈xs:=by
 obtain⟨k,rfl⟩:∃k:Nat,m=(k:Int):=⟨m.toNat,by lia⟩;have l:k<xs.length:=by lia
 exact⟨xs[k],kx (by simp[l]),vO l⟩
theorem M9{p:we}{m:Int}(P:V->Prop)(h:aR K H p xs)(h0:0<=m)(h1:m<xs.length)(hP:∀x∈xs,P x)(q:∀x,P x->Q x H):c_ K (.ref p) (.int m) H Q:=by
 obtain⟨x,e,hx⟩:=zCj h0 h1;exact iH h e (q x (hP x hx))
theorem zAO{r:Rat}(h:Is K H v (N r))(q:Q (.int r.num) H):c_ K v (.int 0) H Q:=by
 obtain⟨a,rfl,h'⟩:=oI.mp h;exact uH h' rfl q
theorem zAv{r:Rat}(h:Is K H v (N r))(q:Q (.int (r.den:Int)) H):c_ K v (.int 1) H Q:=by
 obtain⟨a,rfl,h'⟩:=oI.mp h;exact uH h' rfl q
theorem aA{ds:List wy}{d:wy}{j:Nat}(h:Is K H v (.tuple ds))(e:ds[j]? = some d)(q:∀x,Is K H x d->Q x H):c_ K v (.int (j:Int)) H Q:=by
 obtain⟨a,xs,rfl,h,t⟩:=bX.mp h;obtain⟨x,e1,hx⟩:=t.get e;exact uH h (kx e1) (q x hx)
theorem kE{ds:List wy}(h:Is K H v (.tuple ds))(q:Q (.int ds.length) H):cR K [v] H Q:=by
 obtain⟨a,xs,rfl,h,t⟩:=bX.mp h;exact Oc h (by rw[t.length];exact q)
theorem nh{α : Type}{l:List α}(h:l.length<=1000):l.length<=w5:=WQ (iT h)
theorem mG(z:xs.length<=1000)(q:∀p H',H p=none->ah H H'->H' p=some (.tup xs)->Q (.ref p) H'):lT K xs H Q:=⟨nh z,λp hp=>q p _ hp (ah.upd hp) cV⟩
theorem eX(z:xs.length<=1000)(q:∀p H',H p=none->ah H H'->H' p=some (.lst xs)->Q (.ref p) H'):BS K xs H Q:=⟨nh z,λp hp=>q p _ hp (ah.upd hp) cV⟩
theorem cF{ds:List wy}(z:xs.length<=1000)(h:au K H xs ds)(q:∀v H',ah H H'->Is K H' v (.tuple ds)->Q v H'):lT K xs H Q :=
 mG z λp H' _ s e=>q _ H' s (bX.mpr ⟨p,xs,rfl,.of e,au.same s ds xs h⟩)
theorem eY{r:Rat}(e1:m=r.num)(e2:n=(r.den:Int))(q:∀v H',ah H H'->Is K H' v (N r)->Q v H'):lT K [.int m,.int n] H Q:=by
 subst e1 e2;exact mG (by show 2<=1000;decide) λp H' _ s e=>q _ H' s (oI.mpr ⟨p,rfl,.of e⟩)
-- tests
theorem zzq{p:Prop}[Decidable p]{A B:Prop}(h1:p->A)(h2:¬ p->B):if decide p=true then A else B:=by
 by_cases h:p
 ·rw[decide_eq_true h,if_pos rfl];exact h1 h
 ·rw[decide_eq_false h,if_neg vn];exact h2 h
theorem zxD{p:Prop}[Decidable p]{A B:Prop}(h1:¬ p->A)(h2:p->B):if(!decide p)=true then A else B:=by
 by_cases h:p
 ·rw[decide_eq_true h];exact mi (h2 h)
 ·rw[decide_eq_false h];exact ny (h1 h)
theorem zzA{b:Bool}{A B:Prop}(h1:b=true->A)(h2:b=false->B):if b=true then A else B:=by
 cases b
 ·exact mi (h2 rfl)
 ·exact ny (h1 rfl)
theorem zy3{b:Bool}{A B:Prop}(h1:b=false->A)(h2:b=true->B):if(!b)=true then A else B:=by
 cases b
 ·exact ny (h1 rfl)
 ·exact mi (h2 rfl)
end
section
variable{c:TT}{tb:TS}{D:ck}{σ : St}{H:Hp}
def PZ(σ : St)(i:Nat):Int:=match σ[i]? with
 | some (some (.int y))=>y
 | _=>0
def Mo(Pv:St->Hp->Prop)(μ : St->Nat)(tb:TS)(D:ck)(σ':St)(H1:Hp):Prop :=
 ∃M:St->Hp->Prop,(∀σ2 H2,M σ2 H2->∃m',m' < μ σ'/\(m' = μ σ2/\Pv σ2 H2))/\tb {D with nx:=M,ct:=M,bk:=D.nx} σ' H1
theorem Kv(Pv:St->Hp->Prop)(μ : St->Nat)(h0:Pv σ H)
  (hs:∀σ' H',Pv σ' H'->c σ' H' λb H1=>if b=true then Mo Pv μ tb D σ' H1 else D.nx σ' H1):DQ c tb D σ H:=by
 refine⟨λm σ H=>m = μ σ /\ Pv σ H,⟨_,rfl,h0⟩,?_⟩;rintro m σ H ⟨rfl,p⟩;exact hs σ H p
theorem M7{Pv:St->Hp->Prop}{μ : St->Nat}{σ':St}{H1:Hp}(h:tb {D with nx:=λσ2 H2=>μ σ2 < μ σ'/\Pv σ2 H2,ct:=λσ2 H2=>μ σ2 < μ σ'/\Pv σ2 H2,bk:=D.nx} σ' H1):Mo Pv μ tb D σ' H1 :=
 ⟨_,λσ2 H2 q=>⟨_,q.1,rfl,q.2⟩,h⟩
def LG(g:TG)(tb:TS)(D:ck)(σ : St)(vs:List V)(H1:Hp):Prop:=∃j:Int,vs=[.int j] /\ -(2^62)<=j/\j<2^62 /\
 ∃W:Nat->Nat->St->Hp->Prop,(∃m,W 0 m σ H1) /\ ∀i m σ H,W i m σ H ->
  ((gu 0 j.toNat).stop i H/\D.nx σ H)\/((gu 0 j.toNat).go i H /\ ∃M:St->Hp->Prop,(∀σ' H',M σ' H'->∃m',m'<m/\W (i+1) m' σ' H') /\ ∀x H',(gu 0 j.toNat).fB i H x H'->g x σ H' λσ2 H2=>tb {D with nx:=M,ct:=M,bk:=D.nx} σ2 H2)
theorem YB{ta:TA}{g:TG}(h:ta σ H λvs H1=>LG g tb D σ vs H1):lu (Dc ta) g tb D σ H:=h
theorem lU{g:TG}{n:Int}(h0 : -1000000000<=n)(h1:n<1000000000)(Pv:Nat->St->Hp->Prop)(p:Pv 0 σ H)
  (hs:∀(i:Nat) σ H,i<n.toNat->Pv i σ H->g (.int (i:Int)) σ H λσ2 H2=>tb {D with nx:=Pv (i+1),ct:=Pv (i+1),bk:=D.nx} σ2 H2)
  (hd:∀σ H,Pv n.toNat σ H->D.nx σ H):LG g tb D σ [.int n] H:=by
 refine⟨n,rfl,by lia,by lia,Ou (lo:=0) Pv p (λi σ H hi q=>?_) hd⟩;have e:(0:Int)+(i:Int)=(i:Int):=by lia
 rw[e];exact hs i σ H hi q
end
def Dr(K:wa)(g:TG)(tb:TS)(D:ck)(σ : St)(x:V)(H1:Hp):Prop:=∃a,x=.ref a/\(∃xs,aR K H1 a xs) /\
 ∃W:Nat->Nat->St->Hp->Prop,(∃m,W 0 m σ H1) /\ ∀i m σ H,W i m σ H ->
  ((iV K a).stop i H/\D.nx σ H)\/((iV K a).go i H /\ ∃M:St->Hp->Prop,(∀σ' H',M σ' H'->∃m',m'<m/\W (i+1) m' σ' H') /\ ∀x H',(iV K a).fB i H x H'->g x σ H' λσ2 H2=>tb {D with nx:=M,ct:=M,bk:=D.nx} σ2 H2)
def Su(K:wa)(g:TG)(tb:TS)(D:ck)(σ : St)(x:V)(H1:Hp):Prop:=∃a,x=.ref a/\(∃xs,aV K H1 a xs) /\
 ∃W:Nat->Nat->St->Hp->Prop,(∃m,W 0 m σ H1) /\ ∀i m σ H,W i m σ H ->
  ((jo K a).stop i H/\D.nx σ H)\/((jo K a).go i H /\ ∃M:St->Hp->Prop,(∀σ' H',M σ' H'->∃m',m'<m/\W (i+1) m' σ' H') /\ ∀x H',(jo K a).fB i H x H'->g x σ H' λσ2 H2=>tb {D with nx:=M,ct:=M,bk:=D.nx} σ2 H2)
section
variable{K:wa}{te:TE}{g:TG}{tb:TS}{D:ck}{σ : St}{H:Hp}{a:we}{xs:List V}
theorem zzh(h:te σ H λx H1=>Dr K g tb D σ x H1):lu (EF K te) g tb D σ H:=h
theorem y7(hx:aR K H a xs)(Pv:Nat->St->Hp->Prop)(h0:Pv 0 σ H)(hl:∀i σ H,i<=xs.length->Pv i σ H->aR K H a xs)
  (hs:∀i x σ H,xs[i]? = some x->Pv i σ H->g x σ H λσ2 H2=>tb {D with nx:=Pv (i+1),ct:=Pv (i+1),bk:=D.nx} σ2 H2) (hd:∀σ H,Pv xs.length σ H->D.nx σ H):Dr K g tb D σ (.ref a) H :=
 ⟨a,rfl,⟨xs,hx⟩,U3 Pv h0 hl hs hd⟩
theorem ZZ(hx:aV K H a xs)(Pv:Nat->St->Hp->Prop)(h0:Pv 0 σ H)(hl:∀i σ H,i<=xs.length->Pv i σ H->aV K H a xs)
  (hs:∀i x σ H,xs[i]? = some x->Pv i σ H->g x σ H λσ2 H2=>tb {D with nx:=Pv (i+1),ct:=Pv (i+1),bk:=D.nx} σ2 H2) (hd:∀σ H,Pv xs.length σ H->D.nx σ H):Su K g tb D σ (.ref a) H :=
 ⟨a,rfl,⟨xs,hx⟩,zzK Pv h0 hl hs hd⟩
end
theorem Zt{K:wa}{H:Hp}{a:we}{xs:List V}(hO:zW H)(h:aR K H a xs):iK K H a xs:=by
 rcases h with(h | ⟨o,h⟩) | h
 ·rcases hO a with z | ⟨ob,ys,z⟩
  ·rw[h]at z;cases z
  ·rw[h]at z;cases z
 ·exact .inl ⟨o,h⟩
 ·exact .inr h
theorem NH{K:wa}{H:Hp}{Q:VK}{a:we}{ns:List Int}{m:Int}(h:iK K H a (ns.map V.int))(h0:0<=m)(h1:m<((ns.map V.int).length:Int))(q:∀z,Q (.int z) H):c_ K (.ref a) (.int m) H Q:=by
 refine M9 (λv=>∃z,v=.int z) h.sq h0 h1 (λx hx=>?_) (λx hx=>?_)
 ·obtain⟨z,_,rfl⟩:=wS.mp hx
  exact⟨z,rfl⟩
 ·obtain⟨z,rfl⟩:=hx
  exact q z
section
variable{K:wa}{H H':Hp}{v:V}{d:wy}{a:we}{xs:List V}{o:HO}
theorem ah.back{H2:Hp}(b:ah H' H2)(s:ah H H'):ah H H2:=s.trans b
theorem bK.back{H2:Hp}(b:bK H' H2)(s:bK H H'):bK H H2:=s.trans b
theorem Is.by(s:ah H H')(h:Is K H v d):Is K H' v d:=Is.same s d v h
theorem Is.Ui(h:Is K H v d)(s:ah H H'):Is K H' v d:=Is.same s d v h
theorem Is.TU{r:Rat}(h:Is K H v (N r))(s:bK H H'):Is K H' v (N r):=Is.keep s _ v (ki r) h
theorem Is.fI{r:Rat}(s:bK H H')(h:Is K H v (N r)):Is K H' v (N r):=Is.keep s _ v (ki r) h
theorem Is.kJ(s:bK H H')(i:cW d=true)(h:Is K H v d):Is K H' v d:=Is.keep s _ v i h
end
def fg(X:Cx)(N':List Str)(scope:Scope)(cl:List (Str × we))(C:we)(s₀ : wl)(H₀ : Hp)(fp:List we)(pins:List (we × Obj)):Cx where
 prog:=X.prog
 w:=X.w
 K:=X.K
 mg:=X.mg
 base:=X.base
 A:=X.A
 N:=N'
 s₀:=s₀
 H₀:=H₀
 env:=compEnvC scope cl C X.env
 outer:=X.stack
 stack:=X.stack
 ex:=fp
 fn:=λ_=>false
 calm:=X.calm
 pn:=X.pn++pins
 xe:=λ_ _=>False
structure P9(X:Cx)(scope:Scope)(cl:List (Str × we)):Prop where
 kP:closureFor scope X.env=pure cl
 sub:∀x c,cl.lookup x=some c->X.env.cells.lookup x=some c
 has:∀x,((relabel scope X.env).names.lookup x=some .cell\/(relabel scope X.env).names.lookup x=some .free)->∃c,cl.lookup x=some c
def dE(src:List (Option Nat))(σ : St):St:=src.map λo=>match o with
 | none=>none
 | some j=>(σ[j]?).join
def JH(X:Cx)(N':List Str)(src:List (Option Nat)):Prop :=
 N'.length=src.length /\ ∀(i j:Nat)(x:Str),N'[i]? = some x->src[i]? = some (some j)->X.N[j]? = some x/\X.env.scope.names.lookup x=some .cell
section
variable{X:Cx}{pins:List (we × Obj)}{σ : St}{H:Hp}{s:wl}{N':List Str}{scope:Scope}{cl:List (Str × we)}{src:List (Option Nat)}{fp:List we}
theorem Inv.block{h₁ : wI}{tk:Nat}(I:Inv X pins σ H s)(hk:scope.kind=.function)(cok:P9 X scope cl)(sok:JH X N' src)(hf:∀b∈fp,eO X pins H b)(hlt:∀b∈fp,b<s.heap.objs.size)
  (hns:h₁.Ns s.heap.objs.size λ_=>none) (old:∀b o,s.heap.get? b=some o->h₁.get? b=some o)
  (hvis:∀(i:Nat) x,N'[i]? = some x->src[i]? ≠ some none->(relabel scope X.env).names.lookup x=some .cell\/(relabel scope X.env).names.lookup x=some .free) :
  Inv (fg X N' scope cl s.heap.objs.size s H fp pins) [] (dE src σ) H {s with heap:=h₁,toks:=tk}:=by
 have hfr:H s.heap.objs.size=none:=I.aJ.fresh (wo _)
 have kC:∀x c,cl.lookup x=some c->c<s.heap.objs.size:=λx c e=>by
  obtain⟨v,q⟩:=I.cell x c (cok.sub x c e);exact q.lt
 have fplt:∀b∈fp,b ∉ dQ X.stack:=λb hb z=>by
  obtain⟨_,f1,f2,_⟩:=hf b hb;exact(wG.mp (I.ma b z)).elim f1 f2
 refine⟨⟨I.ok.mod,?_,I.ok.glob,I.ok.blt,wo _,λx y c h1 h2=>?_,λx hx=>?_,λx c hx=>?_,I.ok.hd,I.ok.frames,.inl rfl,λb hb=>⟨?_,λx c e=>?_⟩,I.bs,Wb I.ok.ie I.sz,λb o e=>?_,fplt,I.stack,I.rm⟩,
  rfl,I.bare,Un.kept old,⟨_,hns,λi x v h1 h2 h3=>?_⟩,λx c e=>?_,hfr,λx c e=>?_,λp hp=>?_,I.aJ.kept old,?_⟩
 ·show(relabel scope X.env).kind=.function
  exact hk
 ·exact I.ok.inj x y c (cok.sub x c h1) (cok.sub y c h2)
 ·exact cok.has x hx
 ·exact absurd (show false=true from hx) vn
 ·exact wO (hlt b hb)
 ·exact(hf b hb).2.2.2.2.1 x c (cok.sub x c e)
 ·intro hb
  obtain⟨_,_,_,f3,_⟩:=hf b hb;rcases f3 with z | z
  ·exact I.ok.j_ b o e z
  ·exact absurd (wU (wA e) (Wb I.ok.ie z)) (WS _)
 ·-- a name of the frame around
  have hsrc:∃j,src[i]? = some (some j) /\ σ[j]? = some (some v):=by
   unfold dE at h2;rw[wt]at h2;cases q:src[i]? with
   | none=>rw[q]at h2;cases h2
   | some o =>
    rw[q]at h2;cases o with
    | none=>cases h2
    | some j =>
     refine⟨j,rfl,?_⟩;have h2':(σ[j]?).join=some v:=wX h2;cases q2 : σ[j]? with
     | none=>rw[q2]at h2';cases h2'
     | some z=>rw[q2]at h2';exact congrArg some h2'
  obtain⟨j,hj,hv⟩:=hsrc;obtain⟨hN,hc⟩:=sok.2 i j x h1 hj;obtain⟨m,_,hl⟩:=I.loc;obtain⟨u,ru,lk⟩:=hl j x v hN hv (.inr (.inl hc));refine⟨u,ru,.inr ⟨hvis i x h1 (by rw[hj];intro z;cases z),?_⟩⟩;rcases lk with⟨k,_⟩ | ⟨_,c,ec,hcell⟩
  ·have k':X.env.scope.names.lookup x=some .local:=k
   rw[hc]at k';cases k'
  ·obtain⟨c',ec'⟩:=cok.has x (hvis i x h1 (by rw[hj];intro z;cases z))
   have:=cok.sub x c' ec';rw[ec]at this;cases this;obtain⟨o,ho,hd⟩:=hcell;exact⟨c,ec',o,old c o ho,hd⟩
 ·obtain⟨v,o,ho,hd⟩:=I.cell x c (cok.sub x c e)
  exact⟨v,o,old c o ho,hd⟩
 ·exact I.gf x c (cok.sub x c e)
 ·have hp':p∈(X.pn++pins)++[]:=hp
  rw[Wd]at hp';obtain⟨e,n,ne,nf,d⟩:=I.pin p hp';refine⟨old _ _ e,n,wO (wA e),λz=>?_,d⟩;exact(wG.mp (I.ma p.1 z)).elim ne nf
 ·show(dE src σ).length=N'.length
  unfold dE;rw[wm,sok.1]
end
def OE:TT:=λ_ H Q=>Q true H
def oN(X:Cx)(ifs:List Expr)(t:TT):Prop :=
 ∀(pins:List (we × Obj))(s:wl)(σ : St)(H:Hp)(Q:Bool->Hp->Prop),Inv X pins σ H s->t σ H Q ->
  wr (model X.prog X.w) X.A (forIn ifs true λc r=>if r=true then do let ok <- isTrue c X.env (eval c X.env);pure (ForInStep.yield ok)else pure (ForInStep.yield r)) (TP X pins σ Q) X.xe s
theorem du{X:Cx} : oN X [] OE:=λ_ _ _ H _ I h=>wpAny_tests_nil ⟨H,I,h⟩
theorem zc{X:Cx}{c:Expr}{t:TT}(hc:PT X c t):oN X [c] t:=λpins s σ H Q I h=>wpAny_tests_one (hc pins s σ H Q I h)
section
variable{prog:wL}{w:wN}{A:ve}{R:Result->wl->Prop}{s:wl}
theorem ZJ{elt target iter:Expr}{ifs:List Expr}{scope:Scope}{pos:Pos}{it acc:wf}{env:Env}(I:Nat->wl->Prop)
   (turn:∀n s,I n s->wr (model prog w) A (pyNext it) (λr s₁=>match r with
     | none=>R (.ok .next) s₁
     | some v=>wr (model prog w) A (qf target it v) (λ_ s₁'=>wr (model prog w) A (assign target env v) (λ_ s₂ =>
         wr (model prog w) A (forIn ifs true λc r=>if r=true then do let ok <- isTrue c env (eval c env);pure (ForInStep.yield ok)else pure (ForInStep.yield r)) (λok s₃ =>
           if ok=true then wr (model prog w) A (eval elt env) (λx s₄ =>
             wr (model prog w) A (call (.builtin "list.append") [acc,x]) (λ_ s₅=>∃m,m<n/\I m s₅) (λ_ _=>False) s₄) (λ_ _=>False) s₃
           else ∃m,m<n/\I m s₃) (λ_ _=>False) s₂) (λ_ _=>False) s₁') (λ_ _=>False) s₁) (λ_ _=>False) s)
   (n:Nat) (h:I n s):codeAny (model prog w) A (.compLoop (.ListComp elt [⟨target,iter,ifs,0⟩] scope pos) 0 it acc env) R s:=by
 refine codeAny_loop rfl I (λn s hI=>?_) n h
 show wr _ A ((compTurn (.ListComp elt [⟨target,iter,ifs,0⟩] scope pos) 0 it acc env).onRaise (λx=>do noteFrame x env;theTreesLotGoes x)) _ _ s
 refine wpAny_noted ?_;rw[compTurn_list];refine wg (wpAny_standAt (wg (Wm (turn n s hI) (λr s₁ h₁=>?_) λ_ _ h'=>h'.elim)));cases r with
 | none=>exact wx h₁
 | some v =>
   refine wg (Wm h₁ (λ_ s₁' h₁'=>?_) λ_ _ h'=>h'.elim);refine wg (Wm h₁' (λ_ s₂ h₂=>wg (Wm h₂ (λok s₃ h₃=>?_) λ_ _ h'=>h'.elim)) λ_ _ h'=>h'.elim);cases ok with
   | false=>exact wx ⟨rfl,h₃⟩
   | true=>exact wg (wg (Wm h₃ (λx s₄ h₄=>wg (Wm h₄ (λ_ s₅ h₅=>wx (wx ⟨rfl,h₅⟩)) λ_ _ h'=>h'.elim)) λ_ _ h'=>h'.elim))
end
def jy(g:TG)(tt:TT)(te:TE)(J:It)(D:we)(σ0:St)(H0:Hp)(Q:Hp->Prop):Prop :=
 ∃W:Nat->Nat->St->Hp->Prop,(∃m,W 0 m σ0 H0) /\ ∀i m σ' H',W i m σ' H' ->
  (J.stop i H'/\Q H')\/(J.go i H' /\ ∃M:St->Hp->Prop,(∀σ2 H2,M σ2 H2->∃m',m'<m/\W (i+1) m' σ2 H2) /\
   ∀x H2,J.fB i H' x H2->g x σ' H2 λσ3 H3=>tt σ3 H3 λok H4=>if ok=true then te σ3 H4 λy H5=>∃ys,H5 D=some (.lst ys)/\ys.length<w5/\M σ3 (upd H5 D (.lst (ys++[y])))else M σ3 H4)
def jE(src:List (Option Nat))(wi:TI)(g:TG)(tt:TT)(te:TE):TE:=λσ H Q=>wi σ H λJ H1=>∀D,H1 D=none->jy g tt te J D (dE src σ) (upd H1 D (.lst [])) (λH'=>Q (.ref D) H')
structure Rh(Y:Cx)(tg:Expr)(J:It)(fp:List we)(it:we)(tn:Nat->wI->Prop):Prop where
 item:∀(i:Nat)(pins:List (we × Obj))(s:wl)(σ : St)(H:Hp)(E:wf->wl->Prop),Inv Y pins σ H s->(∀b∈fp,eO Y pins H b)->tn i s.heap->J.go i H ->
   wr (model Y.prog Y.w) Y.A (pyNext (.ref it)) (λr s1=>∃u,r=some u/\wr (model Y.prog Y.w) Y.A (qf tg (.ref it) u) (λ_ s2=>∃x H',Inv Y pins σ H' s2/\a_ x u/\J.fB i H x H'/\tn (i+1) s2.heap /\ ∀b∈fp,H' b=none) E s1) E s
 done:∀(i:Nat)(pins:List (we × Obj))(s:wl)(σ : St)(H:Hp)(E:wf->wl->Prop),Inv Y pins σ H s->(∀b∈fp,eO Y pins H b)->tn i s.heap->J.stop i H ->
   wr (model Y.prog Y.w) Y.A (pyNext (.ref it)) (λr s1=>r=none/\Inv Y pins σ H s1) E s
theorem jr.Kn{P:wL}{w:wN}{K:wa}{tg:Expr}{J:It}{fp:List we}{it:we}{tn:Nat->wI->Prop}(T:jr P w K tg J fp it tn){Y:Cx}(h1:Y.prog=P)(h2:Y.w=w)(h3:Y.K=K)(hc:Y.calm=true):Rh Y tg J fp it tn:=by
 subst h1 h2 h3;exact⟨T.item Y rfl rfl rfl hc,T.done Y rfl rfl rfl hc⟩
section
variable{X:Cx}{pins:List (we × Obj)}{σ : St}{H:Hp}{s:wl}{N':List Str}{scope:Scope}{cl:List (Str × we)}{src:List (Option Nat)}{elt tgt iter:Expr}{ifs:List Expr}{pos:Pos}{wi:TI}{g:TG}{tt:TT}{te:TE}
structure cC(X:Cx)(N':List Str)(scope:Scope)(cl:List (Str × we))(src:List (Option Nat)):Prop where
 kind:scope.kind=.function
 cell:∀y∈scope.names,y.2≠.cell
 names:∀y∈scope.names,y.2=.local->scope.names.lookup y.1=some .local
 kP:P9 X scope cl
 Ud:JH X N' src
 BH:∀(i:Nat) x,N'[i]? = some x->src[i]? ≠ some none->(relabel scope X.env).names.lookup x=some .cell\/(relabel scope X.env).names.lookup x=some .free
theorem KS{it:we}{fp:List we}{tn:Nat->wI->Prop}{J:It}{RQ:we->Hp->Prop}{E:wf->wl->Prop}{RR:wf->we->Result->wl->Prop}
   (TC:∀C s₀ H₀,Rh (fg X N' scope cl C s₀ H₀ fp pins) tgt J fp it tn) (ok:cC X N' scope cl src)
   (hg:∀C s₀ H₀ fp pins,PG (fg X N' scope cl C s₀ H₀ fp pins) tgt g) (ht:∀C s₀ H₀ fp pins,oN (fg X N' scope cl C s₀ H₀ fp pins) ifs tt) (he:∀C s₀ H₀ fp pins,PE (fg X N' scope cl C s₀ H₀ fp pins) elt te)
   (I:Inv X pins σ H s) (T:jr X.prog X.w X.K tgt J fp it tn) (st:tn 0 s.heap) (hf:∀b∈fp,eO X pins H b)
   (rd:∀D,H D=none->jy g tt te J D (dE src σ) (upd H D (.lst [])) (λH'=>RQ D H'))
   (hRR:∀D C H' s' m,Inv X pins σ H' s'->s'.heap.Ns C m->eO X pins H' C->RQ D H'->RR (.ref D) C (.ok .next) s') :
   wr (model X.prog X.w) X.A (newList []) (λacc s₃=>wr (model X.prog X.w) X.A (newFunctionEnv scope X.env.globals cl [] X.env.qual none .none (some X.env)) (λcenv s₄ =>
     codeAny (model X.prog X.w) X.A (.compStart (.ListComp elt [⟨tgt,iter,ifs,0⟩] scope pos) 0 (.ref it) acc {cenv with scope:=relabel scope X.env}) (RR acc cenv.locals) s₄) E s₃) E s:=by
 -- the list
 refine Wp ?_ (by show 0<=w5;exact V7 _);have hD:H s.heap.objs.size=none:=I.aJ.fresh (wo _)
 have I3:Inv X pins σ (upd H s.heap.objs.size (.lst [])) {s with heap:=s.heap.push {cls:=.type "list",data:=.seq ([]:List wf).toArray}} :=
   I.Aw (ys:=[]) (its:=[]) (t':=s.toks) .nil (V7 _)
 have old3:∀b o,s.heap.get? b=some o->(s.heap.push {cls:=.type "list",data:=.seq ([]:List wf).toArray}).get? b=some o:=λb o e=>wn _ e
 have lt0:∀b∈fp,b<s.heap.objs.size:=λb hb=>by
   obtain⟨o,e,_⟩:=T.obj 0 _ st b hb;exact wA e
 have hf3:∀b∈fp,eO X pins (upd H s.heap.objs.size (.lst [])) b:=λb hb=>⟨by rw[ee (wO (lt0 b hb))];exact(hf b hb).1,(hf b hb).2⟩
 have lt3:∀b∈fp,b<(s.heap.push {cls:=.type "list",data:=.seq ([]:List wf).toArray}).objs.size:=λb hb=>by
   rw[VY];exact qC (lt0 b hb)
 have st3:tn 0 (s.heap.push {cls:=.type "list",data:=.seq ([]:List wf).toArray}):=T.keep _ _ _ st λb _ o e=>old3 b o e
 obtain⟨W,⟨m0,w0⟩,turn⟩:=rd _ hD;generalize hs3:({s with heap:=s.heap.push {cls:=.type "list",data:=.seq ([]:List wf).toArray}} : wl)=s3 at I3 ⊢;have hh3:s3.heap=s.heap.push {cls:=.type "list",data:=.seq ([]:List wf).toArray}:=by rw[<- hs3]
 rw[<- hh3]at lt3 st3;clear old3 hs3 hh3;generalize hD':s.heap.objs.size=D at *
 -- the block's dict
 refine wpAny_newFunctionEnv ok.cell (by intro y hy;cases hy) (λh₁ hns₁ hsb₁=>?_) ok.kind;have old:∀b o,s3.heap.get? b=some o->h₁.get? b=some o:=λb o e=>hsb₁.extBut b o (wO (wA e)) (wn _ e)
 have hC:eO X pins (upd H D (.lst [])) s3.heap.objs.size:=I3.ju (wo _) (I3.aJ.fresh (wo _))
 have IB:∀tk,Inv (fg X N' scope cl s3.heap.objs.size s3 (upd H D (.lst [])) fp pins) [] (dE src σ) (upd H D (.lst [])) {s3 with heap:=h₁,toks:=tk}:=λtk =>
   I3.block ok.kind ok.kP ok.Ud hf3 lt3 hns₁ old ok.BH
 have stB:tn 0 h₁:=T.keep _ _ _ st3 λb _ o e=>old b o e
 -- what is true of the iterator's records within
 have stat:∀{H':Hp} ,(∀b∈fp,H' b=none)->∀b∈fp,eO (fg X N' scope cl s3.heap.objs.size s3 (upd H D (.lst [])) fp pins) [] H' b:=λhn b hb=>by
   obtain⟨_,f1,f2,f3,f4,f5⟩:=hf3 b hb;refine⟨hn b hb,wO (lt3 b hb),λz=>(wG.mp (I3.ma b z)).elim f1 f2,.inl hb,λx c e=>f4 x c (ok.kP.sub x c e),λp hp=>?_⟩;have hp':p∈(X.pn++pins)++[]:=hp;rw[Wd]at hp';exact f5 p hp'
 -- from within back to the frame around
 have back:∀{σ':St}{H':Hp}{s':wl},Inv (fg X N' scope cl s3.heap.objs.size s3 (upd H D (.lst [])) fp pins) [] σ' H' s'->Inv X pins σ H' s'/\(∃m,s'.heap.Ns s3.heap.objs.size m)/\eO X pins H' s3.heap.objs.size:=λ{σ' H' s'} J=>by
   obtain⟨m,hn,_⟩:=J.loc;refine⟨I3.Jp (ch:=fp) J.os J.base J.aJ J.bare (λb hb=>?_),⟨m,hn⟩,⟨J.free,hC.2⟩⟩;obtain⟨_,f1,_,f3,f4,f5⟩:=hf3 b hb;exact⟨f3,f1,f4,f5⟩
 have loop:∀tk,codeAny (model X.prog X.w) X.A (.compLoop (.ListComp elt [⟨tgt,iter,ifs,0⟩] scope pos) 0 (.ref it) (.ref D) (compEnvC scope cl s3.heap.objs.size X.env)) (RR (.ref D) s3.heap.objs.size) {s3 with heap:=h₁,toks:=tk}:=by
   intro tk
   refine ZJ (λn s'=>∃i σ' H',Inv (fg X N' scope cl s3.heap.objs.size s3 (upd H D (.lst [])) fp pins) [] σ' H' s'/\tn i s'.heap/\(∀b∈fp,H' b=none)/\W i n σ' H') ?_ m0
     ⟨0,_,_,IB tk,stB,λb hb=>(hf3 b hb).1,w0⟩
   rintro n s4 ⟨i,σ4,H4,I4,st4,fr4,w4⟩;rcases turn i n σ4 H4 w4 with⟨stop,q⟩ | ⟨go,M,hM,step⟩
   . refine aI ((TC _ _ _).done i [] s4 σ4 H4 (λ_ _=>False) I4 (stat fr4) st4 stop) λr s5 ⟨hr,I5⟩=>?_
     subst hr;obtain⟨J,⟨m,hn⟩,hCf⟩:=back I5;exact hRR D _ H4 s5 m J hn hCf q
   . refine aI ((TC _ _ _).item i [] s4 σ4 H4 (λ_ _=>False) I4 (stat fr4) st4 go) λr s5 ⟨u,hr,h5⟩=>?_
     subst hr;refine aI h5 λ_ s6 ⟨x,H6,I6,r6,y6,st6,fr6⟩=>?_
     have I6':=I6.pinned (stat fr6) (T.obj _ _ st6)
     have again:∀{σ7:St}{H7:Hp}{s7:wl},Inv (fg X N' scope cl s3.heap.objs.size s3 (upd H D (.lst [])) fp pins) ([]++oW fp s6.heap) σ7 H7 s7->M σ7 H7 ->
         ∃m,m<n /\ ∃i σ' H',Inv (fg X N' scope cl s3.heap.objs.size s3 (upd H D (.lst [])) fp pins) [] σ' H' s7/\tn i s7.heap/\(∀b∈fp,H' b=none)/\W i m σ' H':=λ{σ7 H7 s7} I7 n7=>by
       obtain⟨m',hm,w7⟩:=hM σ7 H7 n7;refine⟨m',hm,i+1,σ7,H7,I7.rh,T.keep _ _ _ st6 λb hb o e=>(I7.pin (b,o) (vR _ (vR _ (zD hb e)))).1,λb hb=>?_,w7⟩;obtain⟨o,e,d⟩:=T.obj _ _ st6 b hb;exact(I7.pin (b,o) (vR _ (vR _ (zD hb e)))).2.1
     refine aI (hg _ _ _ _ _ _ s6 σ4 H6 x u _ I6' r6 (step x H6 y6)) λ_ s7 ⟨σ7,H7,I7,q7⟩=>?_
     refine aI (ht _ _ _ _ _ _ s7 σ7 H7 _ I7 q7) λk s8 ⟨H8,I8,q8⟩=>?_
     cases k with
     | false=>exact again I8 q8
     | true =>
       rw[if_pos rfl]at q8 ⊢;refine aI (he _ _ _ _ _ _ s8 σ7 H8 _ I8 q8) λy s9 ⟨yv,H9,I9,r9,ys,hys,hz,q9⟩=>?_
       exact aI (kY _ s9 σ7 H9 (.ref D) [yv] (.ref D) [y] (λ_ H'=>M σ7 H') I9 rfl (.cons r9 .nil) ⟨D,ys,yv,rfl,rfl,hys,hz,q9⟩) λ_ s10 ⟨_,H10,I10,_,q10⟩=>again I10 q10
 exact codeAny_compStart_list (loop _) (T.self _ _ _ _ _ stB (loop _))
theorem dU(hc:X.calm=true)(ok:cC X N' scope cl src)(hi:PI X tgt iter wi)
  (hg:∀C s₀ H₀ fp pins,PG (fg X N' scope cl C s₀ H₀ fp pins) tgt g) (ht:∀C s₀ H₀ fp pins,oN (fg X N' scope cl C s₀ H₀ fp pins) ifs tt) (he:∀C s₀ H₀ fp pins,PE (fg X N' scope cl C s₀ H₀ fp pins) elt te)
  (hs:∀x,foldedSetIterable iter X.env x=pure x:=by intro _;rfl):PE X (.ListComp elt [⟨tgt,iter,ifs,0⟩] scope pos) (jE src wi g tt te):=by
 intro pins s σ H Q I h;rw[eval_ListComp];refine wpAny_comprehension_free (use:=none) rfl hs ok.kP.kP ok.kind ok.names (aI (hi pins s σ H _ I h) λv s1 h1=>aI h1 λitv s2 h2=>?_);obtain⟨it,fp,tn,J,H2,e,I2,T,st2,f2,rd⟩:=h2;subst e;refine KS (RQ:=λD H'=>Q (.ref D) H') (RR:=λacc C=>compPost (model X.prog X.w) X.A X.xe none (EP X pins σ Q) acc C) (λ_ _ _=>T.Kn rfl rfl rfl hc) ok hg ht he I2 T st2 f2 rd ?_;intro D C H' s' m J hn hC q;obtain⟨c0,c1,_,c3,c4,c5⟩:=hC;exact⟨m,hn,λh' sb=>⟨.ref D,H',J.turned (t':=s'.toks) (λb o hb e=>(sb.2 b hb).trans e) c0 c1 c3 c4 c5,rfl,q⟩⟩
theorem nB{i:Nat}{y:Str}{py spos:Pos}(hN:X.N.Nodup)(hy:X.N[i]? = some y)(hly:Loc X.env.scope y)(hc:X.calm=true)(ok:cC X N' scope cl src)(hi:PI X tgt iter wi)
  (hg:∀C s₀ H₀ fp pins,PG (fg X N' scope cl C s₀ H₀ fp pins) tgt g) (ht:∀C s₀ H₀ fp pins,oN (fg X N' scope cl C s₀ H₀ fp pins) ifs tt) (he:∀C s₀ H₀ fp pins,PE (fg X N' scope cl C s₀ H₀ fp pins) elt te)
  (hsw:swapsWith (.ListComp elt [⟨tgt,iter,ifs,0⟩] scope pos) (some (.Name y py)) spos.line X.env=pure true:=by rfl)
  (hs:∀x,foldedSetIterable iter X.env x=pure x:=by intro _;rfl) (hf:X.fn y=true\/X.env.scope.names.lookup y=some .local:=by first | exact .inl rfl | exact .inr rfl | assumption) :
  PS X (.Assign [.Name y py] (.ListComp elt [⟨tgt,iter,ifs,0⟩] scope pos) spos) (jV (jE src wi g tt te) (gX i)):=by
 intro pins s σ H D0 I h;rw[exec_Assign_Name_used _ _ _ _ hsw];refine wg (wpAny_standAt (wg ?_))
 show wr _ X.A (do let _ <- comprehension (.ListComp elt [⟨tgt,iter,ifs,0⟩] scope pos) scope X.env _ (newList []) false (eval iter X.env) (some (assign (.Name y py) X.env))) _ _ s
 refine wg (Wm (wpAny_comprehension_free (Q:=λ_ s'=>SP X pins D0 .next s') rfl hs ok.kP.kP ok.kind ok.names (aI (hi pins s σ H _ I h) λv s1 h1=>aI h1 λitv s2 h2=>?_))
  (λ_ s' hq=>wx (wx hq)) λ_ _ e=>e)
 obtain⟨it,fp,tn,J,H2,e,I2,T,st2,f2,rd⟩:=h2;subst e;refine KS (RQ:=λD H'=>gX i (.ref D) σ H' D0.nx) (RR:=λacc C=>compPost (model X.prog X.w) X.A X.xe (some (assign (.Name y py) X.env)) (λ_ s'=>SP X pins D0 .next s') acc C) (λ_ _ _=>T.Kn rfl rfl rfl hc) ok hg ht he I2 T st2 f2 rd ?_;intro D C H' s' m J hn hC q;obtain⟨c0,c1,_,c3,c4,c5⟩:=hC
 show wr _ _ (assign (.Name y py) X.env (.ref D)) _ _ s'
 refine wpAny_assign_Name (Mu J hN hy hly (v:=.ref D) rfl (λs'' J2 ⟨a,sb,ha⟩=>?_) hf)
 have hCa:C≠a:=by
  rcases ha with z | z
  ·rw[z];exact c1
  ·exact(c4 y a z).symm
 exact⟨m,hn.sameBut sb hCa,λh' sb'=>⟨_,H',J2.turned (t':=s''.toks) (λb o hb e=>(sb'.2 b hb).trans e) c0 c1 c3 c4 c5,q⟩⟩
end
abbrev O4(h B:wI)(e:we)(cls:wf):Prop :=
 ∃oe vs,h.get? e=some oe/\oe.cls=cls/\oe.data=.fields vs/\vs[1]? = some .none/\vs[2]? = some .none/\oe.dict=none/\B.get? e=none
abbrev ML(h B:wI)(e:we)(cls fl:wf):Prop :=
 ∃oe vs T oT ts,h.get? e=some oe/\oe.cls=cls/\oe.data=.fields vs/\vs[1]? = some (.ref T)/\vs[2]? = some .none/\oe.dict=none/\B.get? e=none/\B.get? T=none/\T≠e/\h.get? T=some oT/\oT.data=.fields ts/\ts[3]? = some fl
structure fj(B:wI)(l:List Env)(e:we)(cls fl:wf)(h:wI):Prop where
 st:B.StaysIn h
 fr:h.FunFrames B l
 tr:ML h B e cls fl
theorem zsP{f:Array wf->Array wf}(o:Obj):(qI f o).dict=o.dict:=by
 obtain⟨c,d,dt,sl⟩:=o;cases dt<;>rfl
theorem kS{h:wI}{T:we}{f:Obj->Obj}{b:we}(n:b≠T):(h.update T f).get? b=h.get? b:=qF _ _ (Wo n)
theorem mz{h:wI}{T b:we}{oT o:Obj}{ts:Array wf}(hT:h.get? T=some oT)(dT:oT.data=.fields ts)(hb:h.get? b=some o)(hn:∀vs,o.data≠.fields vs):b≠T:=by
 rintro rfl;rw[hT]at hb;cases hb;exact hn _ dT
theorem Fe{B:wI}{T b:we}{o:Obj}(n:B.get? T=none)(q:B.get? b=some o):b≠T:=by
 rintro rfl;rw[n]at q;cases q
section
variable{M:Model}{A:ve}{E:wf->wl->Prop}{s:wl}{B:wI}{l outer:List Env}{env:Env}{L e:we}{cls fl:wf}{Q:Unit->wl->Prop}
theorem fj.land(F:fj B l e cls fl s.heap)(k:∀h',fj B l e cls .none h'->s.heap.UpToSlots h'->Q () {s with heap:=h'}):wr M A (setFlight (.ref e) none) Q E s:=by
 obtain⟨st,fr,oe,vs,T,oT,ts,he,hc,hd,h1,h2,hdi,be,bT,ne,hT,dT,h3⟩:=F;have sz:3<ts.size:=(WD.mp h3).1;unfold setFlight;refine wg (vj he hd h1 ?_);rw[if_pos (by simp)];have at3:∀b,b≠T->(s.heap.update T (qI (·.setIfInBounds 3 Value.none))).get? b=s.heap.get? b:=λb n=>kS n
 have tr:ML (s.heap.update T (qI (·.setIfInBounds 3 Value.none))) B e cls .none :=
  ⟨oe,vs,T,qI (·.setIfInBounds 3 Value.none) oT,ts.setIfInBounds 3 Value.none,(at3 e ne.symm).trans he,hc,hd,h1,h2,hdi,be,bT,ne,
   VU _ hT (VZ (VN dT _)),VN dT _,by simp[sz]⟩
 refine wpAny_setField hT dT sz (k _ ⟨λb o q=>(at3 b (Fe bT q)).trans (st b o q),fr.of_keeps λb o hb hn=>⟨o,(at3 b (mz hT dT hb hn)).trans hb,rfl⟩,tr⟩ λb o hb hn=>⟨o.slots,(at3 b (mz hT dT hb hn)).trans hb⟩)
theorem JM{oe:Obj}{vs:Array wf}{head:wf}{had:Bool}(hfr:A.frames=some (env::outer))(hf:env.frame=some L)(st:B.StaysIn s.heap)(fr:s.heap.FunFrames B (env::outer))(he:s.heap.get? e=some oe)
  (hd:oe.data=.fields vs) (sz:1<vs.size) (h2:vs[2]? = some .none) (hdi:oe.dict=none) (be:B.get? e=none) (k:∀h',fj B (env::outer) e oe.cls (Vp L) h'->s.heap.UpToSlots h'->Q () {s with heap:=h'}) :
  wr M A (do let a <- frameOf env;let pl <- entryPlaceOf L had;let b <- xr head a .none (Vp L) .none pl;setField (.ref e) 1 b) Q E s:=by
 have nfr:e ∉ (env::outer).filterMap (·.frame):=λz=>by
  obtain⟨_,o,ho,hnf⟩:=fr.mem z;rw[he]at ho;cases ho;exact hnf vs hd
 refine wg (wpAny_frameOf_fun hfr fr hf λg sg=>wg (wpAny_entryPlaceOf λpl hpl=>?_));unfold xr newFields;refine wg (Wp ?_ (hpl.sizeOk5 _ _ _ _ _));have eg:g.get? e=some oe:=(sg.2.1 e nfr).trans he
 have stg:B.StaysIn g:=λb o q=>by
  rw[sg.2.1 b λz=>?_]
  ·exact st b o q
  ·rw[(fr.mem z).1]at q;cases q
 generalize hob:({cls:=.type "traceback",data:=.fields ([head,.ref L,.none,Vp L,.none]++(if pl.isEmpty then w6 6 Value.none else pl)).toArray} : Obj)=tb;have dtb:tb.data=.fields ([head,.ref L,.none,Vp L,.none]++(if pl.isEmpty then w6 6 Value.none else pl)).toArray:=by rw[<- hob]
 have ftb:tb.isFreed=false:=VZ dtb;have e2:=wn (h:=g) tb eg;have neT:g.objs.size≠e:=vf (wA eg)
 have at3:∀b o,b≠e->g.get? b=some o->((g.push tb).update e (qI (·.setIfInBounds 1 (.ref g.objs.size)))).get? b=some o:=λb o n q=>by
  rw[kS n];exact wn _ q
 refine wpAny_setField e2 hd sz (k _ ?_ ?_)
 ·have d3:=VN hd (·.setIfInBounds 1 (Value.ref g.objs.size))
  refine⟨λb o q=>at3 b o (Fe be q) (stg b o q),fr.of_keeps λb o hb hn=>?_,_,_,g.objs.size,tb,_,VU _ e2 (VZ d3),xZ _ _,d3,by simp[sz],?_,?_,be,stg.fresh,neT,?_,dtb,?_⟩
  ·obtain⟨sl,q⟩:=sg.2.2 b o hb
   exact⟨_,at3 b _ (mz he hd hb hn) q,rfl⟩
  ·rw[Array.getElem?_setIfInBounds_ne (by decide)];exact h2
  ·exact(zsP oe).trans hdi
  ·rw[kS neT];exact wM _ ftb
  ·first | (simp;done) | (rcases hpl with rfl | ⟨_,_,_,_,_,_,_,rfl⟩<;>simp)
 ·exact λb o hb hn=>by
   obtain⟨sl,q⟩:=sg.2.2 b o hb;exact⟨sl,at3 b _ (mz he hd hb hn) q⟩
theorem UG(hfr:A.frames=some (env::outer))(hf:env.frame=some L)(st:B.StaysIn s.heap)(fr:s.heap.FunFrames B (env::outer))(t:O4 s.heap B e cls)
  (k:∀h',fj B (env::outer) e cls (Vp L) h'->s.heap.UpToSlots h'->Q () {s with heap:=h'}):wr M A (noteFrame (.ref e) env) Q E s:=by
 obtain⟨oe,vs,he,hc,hd,h1,h2,hdi,be⟩:=t;subst hc;unfold noteFrame;simp only[hf];refine wg (vj he hd h1 ?_);rw[if_neg (by decide)];exact JM hfr hf st fr he hd (WD.mp h1).1 h2 hdi be k
theorem fj.note(F:fj B (env::outer) e cls .none s.heap)(hfr:A.frames=some (env::outer))(hf:env.frame=some L)
  (k:∀h',fj B (env::outer) e cls (Vp L) h'->s.heap.UpToSlots h'->Q () {s with heap:=h'}):wr M A (noteFrame (.ref e) env) Q E s:=by
 obtain⟨st,fr,oe,vs,T,oT,ts,he,hc,hd,h1,h2,hdi,be,bT,ne,hT,dT,h3⟩:=F;subst hc;unfold noteFrame;simp only[hf];refine wg (vj he hd h1 ?_);rw[if_pos (by simp)];refine wg (vj hT dT h3 ?_);rw[if_neg (by simp[Vp])];refine wg (wpAny_setField hT dT (WD.mp h3).1 ?_);refine JM hfr hf (λb o q=>?_) (fr.of_keeps λb o hb hn=>⟨o,?_,rfl⟩) ?_ hd (WD.mp h1).1 h2 hdi be λh' F' sm=>k h' F' λb o hb hn=>sm b o ?_ hn
 ·show(QZ _ _ _).get? b=_
  rw[kS (Fe bT q)];exact st b o q
 ·show(QZ _ _ _).get? b=_
  rw[kS (mz hT dT hb hn)];exact hb
 ·show(QZ _ _ _).get? e=_
  rw[kS ne.symm];exact he
 ·show(QZ _ _ _).get? b=_
  rw[kS (mz hT dT hb hn)];exact hb
theorem Yx(hfr:A.frames=some (env::outer))(hf:env.frame=some L)(st:B.StaysIn s.heap)(fr:s.heap.FunFrames B (env::outer))(t:O4 s.heap B e cls)
  (k:∀h',fj B outer e cls .none h'->s.heap.UpToSlots h'->Q () {s with heap:=h'}):wr M A (leaving env (.ref e)) Q E s:=by
 unfold leaving;refine wg (UG hfr hf st fr t λh1 F1 s1=>fj.land F1 λh2 F2 s2=>k h2 ⟨F2.st,F2.fr.2.2,F2.tr⟩ (s1.trans s2))
theorem fj.leave(F:fj B (env::outer) e cls .none s.heap)(hfr:A.frames=some (env::outer))(hf:env.frame=some L)
  (k:∀h',fj B outer e cls .none h'->s.heap.UpToSlots h'->Q () {s with heap:=h'}):wr M A (leaving env (.ref e)) Q E s:=by
 unfold leaving;refine wg (F.note hfr hf λh1 F1 s1=>fj.land F1 λh2 F2 s2=>k h2 ⟨F2.st,F2.fr.2.2,F2.tr⟩ (s1.trans s2))
end
theorem dM.there{P:wL}{w:wN}{H:Hp}{h:wI}{a:we}{o:HO}(x:dM P w H h a o):∃u,h.get? a=some u:=by
 cases o with
 | lst xs=>obtain⟨_,_,_,_,e⟩:=x;exact⟨_,e⟩
 | tup xs=>obtain⟨_,_,_,_,e,_⟩:=x;exact⟨_,e⟩
 | dK kvs=>obtain⟨_,_,_,_,o,_,_,e,_⟩:=x;exact⟨_,e⟩
 | dT kvs=>obtain⟨_,_,_,_,o,_,_,e,_⟩:=x;exact⟨_,e⟩
 | set S n=>obtain⟨o,_,_,_,e,_⟩:=x;exact⟨_,e⟩
 | ins C dx fs=>obtain⟨_,_,_,e,_⟩:=x;exact⟨_,e⟩
 | own y=>exact x
 | xd fs=>obtain⟨_,⟨_,_,_,e,_⟩,_⟩:=x;exact⟨_,e⟩
 | um lo hi=>obtain⟨_,_,_,e⟩:=x;exact⟨_,e⟩
 | gq ob u=>obtain⟨e,_⟩:=x;exact⟨_,e⟩
 | kj ps=>exact⟨_,x⟩
 | met f y=>exact⟨_,x⟩
 | ext φ=>obtain⟨_,e,_⟩:=x;exact e
structure nA(B:wI)(fs:List we)(H H':Hp)(h:wI):Prop where
 iu:∀a o,H' a=some o->∃u,B.get? a=some u
 old:∀b o,h.get? b=some o->H b=none->b ∉ fs->B.get? b=some o
 pK:∀b o,h.get? b=some o->b ∉ fs->∃u,B.get? b=some u
def eI(P:wL)(w:wN):gb:=λouter H s E e s'=>∃(ex:we)(C:wf)(H':Hp)(B:wI),e=.ref ex/\s'.os=s.os/\AllBare s'.gens/\Un (dQ outer) [] H H' s.heap s'.heap/\dj P w H' s'.heap /\
 fj B outer ex C .none s'.heap/\nA B (dQ outer) H H' s.heap/\E C none H'
section
variable{B h h1 h':wI}{fs:List we}{H H':Hp}{P:wL}{w:wN}
theorem nA.un(ov:nA B fs H H' h)(un:Un fs [] H H' h h1)(hfs:∀b∈fs,H b=none /\ ∃o,h.get? b=some o /\ ∀vs,o.data≠.fields vs)(st:B.StaysIn h')(sm:h1.UpToSlots h'):Un fs [] H H' h h':=by
 have slot:∀b o,h.get? b=some o->b∈fs->∃sl,h'.get? b=some {o with slots:=sl}:=λb o e hb=>by
  obtain⟨n,o',ho',nr⟩:=hfs b hb;rw[e]at ho';cases ho';obtain⟨sl,e1⟩:=un.any e n (by simp);obtain⟨sl2,e2⟩:=sm b _ e1 nr;exact⟨sl2,e2⟩
 refine⟨λb o e n nf _=>st b o (ov.old b o e n nf),λb o e _ hb _=>slot b o e hb,un.free,λb o e _=>?_,un.hV,un.gL,un.hW⟩
 by_cases hb:b∈fs
 ·obtain⟨sl,e1⟩:=slot b o e hb
  exact⟨_,e1⟩
 ·obtain⟨u,e1⟩:=ov.pK b o e hb
  exact⟨u,st b u e1⟩
theorem nA.aJ(ov:nA B fs H H' h)(aJ:dj P w H' h1)(st1:B.StaysIn h1)(st:B.StaysIn h'):dj P w H' h':=λa o e=>by
 refine(aJ a o e).kb (λb u hb r=>?_) (λ_ z=>z) λ_ _ z=>z
 have:∃v,B.get? b=some v:=by
  rcases hb with rfl | hb
  ·exact ov.iu _ _ e
  ·exact ov.iu _ _ hb
 obtain⟨v,ev⟩:=this;have e2:=st1 b v ev;rw[r]at e2;cases e2;exact st b u ev
end
section
variable{X:Cx}{pins:List (we × Obj)}{σ : St}{H H':Hp}{s s':wl}{B:wI}{ex:we}{C:wf}{E:XK}{E':wf->wl->Prop}
theorem J1(I:Inv X pins σ H s)(hx:X.ex=[])(os:s'.os=s.os)(bare:AllBare s'.gens)(un:Un (dQ X.stack) [] H H' s.heap s'.heap)(aJ:dj X.prog X.w H' s'.heap)(stB:B.StaysIn s'.heap)(ov:nA B (dQ X.stack) H H' s.heap)
  (q:E C none H') (fly:∀(Q:Unit->wl->Prop),(∀h',fj B X.outer ex C .none h'->s'.heap.UpToSlots h'->Q () {s' with heap:=h'})->wr (model X.prog X.w) X.A (leaving X.env (.ref ex)) Q E' s') :
  wr (model X.prog X.w) X.A (leaving X.env (.ref ex)) (λ_ s''=>eI X.prog X.w X.outer X.H₀ X.s₀ E (.ref ex) s'') E' s':=by
 have base:Un X.fs [] X.H₀ H X.s₀.heap s.heap:=by have:=I.base;rwa[hx]at this
 have nL:∀b o,X.s₀.heap.get? b=some o->b ∉ X.fs->b ∉ dQ X.stack:=λb o e n z=>by
  rcases wG.mp (I.ma b z)with r | r
  ·exact wO (wU (wA e) I.ok.above) r
  ·exact n r
 have old:∀b o,X.s₀.heap.get? b=some o->X.H₀ b=none->b ∉ X.fs->B.get? b=some o:=λb o e n nf =>
  ov.old b o (base.keep b o e n nf (by simp)) (base.free b o e n (by simp)) (nL b o e nf)
 have pK:∀b o,X.s₀.heap.get? b=some o->b ∉ X.fs->∃u,B.get? b=some u:=λb o e nf=>by
  obtain⟨o',e1⟩:=base.there b o e (by simp);exact ov.pK b o' e1 (nL b o e nf)
 refine fly _ λh' F sm=>⟨ex,C,H',B,rfl,os.trans I.os,bare,⟨λb o e n nf _=>F.st b o (old b o e n nf),λb o e n hb _=>?_,λb o e n _=>?_,λb o e _=>?_,λb xs e=>un.hV b xs (base.hV b xs e),
  λb o u e=>un.gL b o u (base.gL b o u e),λb ps e=>?_⟩,λa o e=>?_,F,⟨ov.iu,old,pK⟩,q⟩
 ·obtain⟨sl,e1⟩:=base.slot b o e n hb (by simp)
  obtain⟨sl',e2⟩:=un.any e1 (base.free b o e n (by simp)) (by simp);obtain⟨_,o',ho',nr⟩:=I.ok.ff.mem hb;rw[e]at ho';cases ho';obtain⟨sl2,e3⟩:=sm b _ e2 nr;exact⟨sl2,e3⟩
 ·obtain⟨o',e1⟩:=base.there b o e (by simp)
  exact un.free b o' e1 (base.free b o e n (by simp)) (by simp)
 ·by_cases hb:b∈X.fs
  ·obtain⟨_,o',ho',nr⟩:=I.ok.ff.mem hb
   rw[e]at ho';cases ho';have n:X.H₀ b=none:=I.ok.iS b hb;obtain⟨sl,e1⟩:=base.slot b o e n hb (by simp);obtain⟨sl',e2⟩:=un.any e1 (base.free b o e n (by simp)) (by simp);obtain⟨sl2,e3⟩:=sm b _ e2 nr;exact⟨_,e3⟩
  ·obtain⟨u,e1⟩:=pK b o e hb
   exact⟨u,F.st b u e1⟩
 ·obtain⟨m1,e1⟩:=base.hW b ps e
  obtain⟨m2,e2⟩:=un.hW b _ e1;exact⟨m1++m2,by rw[e2,xA]⟩
 ·refine(aJ a o e).kb (λb u hb r=>?_) (λ_ z=>z) λ_ _ z=>z
  have:∃v,B.get? b=some v:=by
   rcases hb with rfl | hb
   ·exact ov.iu _ _ e
   ·exact ov.iu _ _ hb
  obtain⟨v,ev⟩:=this;have e2:=stB b v ev;rw[r]at e2;cases e2;exact F.st b u ev
theorem Ys{e:wf}(I:Inv X pins σ H s)(hx:X.ex=[])(hs:X.stack=X.env::X.outer)(hf:X.env.frame=some X.env.locals)(h:eI X.prog X.w X.stack H s E e s') :
  wr (model X.prog X.w) X.A (leaving X.env e) (λ_ s''=>eI X.prog X.w X.outer X.H₀ X.s₀ E e s'') E' s':=by
 obtain⟨ex,C,H',B,rfl,os,bare,un,aJ,F,ov,q⟩:=h;rw[hs]at F;exact J1 I hx os bare un aJ F.st ov q λQ k=>F.leave (I.ok.frames.trans (congrArg some hs)) hf k
theorem zuh{h':wI}{vs:List wf}(I:Inv X pins σ H s)(hx:X.ex=[])(hs:X.stack=X.env::X.outer)(hf:X.env.frame=some X.env.locals)(m:XW s.heap h' ex C vs)(q:E C none H) :
  wr (model X.prog X.w) X.A (leaving X.env (.ref ex)) (λ_ s''=>eI X.prog X.w X.outer X.H₀ X.s₀ E (.ref ex) s'') E' {s with heap:=h'}:=by
 obtain⟨B,hB⟩:∃B,B=Xw s.heap (dQ X.stack):=⟨_,rfl⟩;have hin:∀env∈X.stack,∀b,env.frame=some b->b∈dQ X.stack:=λenv he b hb=>qY.mpr ⟨env,he,hb⟩
 have frB:s.heap.FunFrames B X.stack:=by rw[hB];exact PySem.W.funFrames_hide I.stack hin
 have getB:∀{b o},s.heap.get? b=some o->b ∉ dQ X.stack->B.get? b=some o:=λe n=>by rw[hB];exact xn _ e n
 have ofB:∀{b o},B.get? b=some o->s.heap.get? b=some o:=λr=>by rw[hB]at r;exact xz _ r
 have nfr:∀a o,H a=some o->a ∉ dQ X.stack:=λa o e z=>by
  have:=I.rm a z;rw[e]at this;cases this
 obtain⟨t,he,_,_⟩:=m.there
 refine J1 (B:=B) (s':={s with heap:=h'}) I hx rfl I.bare (Un.kept m.keeps) (I.aJ.kept m.keeps) (λb o r=>m.keeps b o (ofB r))
  ⟨λa o e=>?_,λb o e _ nf=>getB e nf,λb o e nf=>⟨o,getB e nf⟩⟩ q λQ k=>?_
 ·obtain⟨u,e1⟩:=(I.aJ a o e).there
  exact⟨u,getB e1 (nfr a o e)⟩
 ·rw[hs]at frB
  refine Yx (s:={s with heap:=h'}) (I.ok.frames.trans (congrArg some hs)) hf (λb o r=>m.keeps b o (ofB r)) (frB.of_keeps λb o hb _=>⟨o,m.keeps b o hb,rfl⟩) ⟨_,_,he,rfl,rfl,rfl,rfl,rfl,?_⟩ k;cases z:B.get? ex with
  | none=>rfl
  | some o =>
   have:=ofB z;rw[m.new]at this;cases this
end
theorem zb{P:wL}{w:wN}{K:wa}{mg:Str->Option wf}{base:wI}{N:List Str}{qual:Str}{scope:Scope}{f:we}{cd:wf}{A:ve}{outer:List Env}{s:wl}{H:Hp}{E:XK} :
  mE (eI P w) (iD (eI P w) P w K mg base N qual scope f cd A outer s H E) E:=λpins σ H1 s1 e s' I h=>Ys I rfl rfl rfl h
def RJ(X:Cx)(C:wf)(E:XK):Prop:=∀(pins:List (we × Obj))(σ : St)(H:Hp)(s:wl)(h':wI)(ex:we)(vs:List wf),Inv X pins σ H s->XW s.heap h' ex C vs->E C none H->X.xe (.ref ex) {s with heap:=h'}
theorem rT{P:wL}{w:wN}{K:wa}{mg:Str->Option wf}{base:wI}{N:List Str}{qual:Str}{scope:Scope}{f:we}{cd C:wf}{A:ve}{outer:List Env}{s:wl}{H:Hp}{E:XK} :
  RJ (iD (eI P w) P w K mg base N qual scope f cd A outer s H E) C E:=λpins σ H1 s1 h' ex vs I m q=>zuh I rfl rfl rfl m q
def kX:List wf:=[.type "ValueError",.type "Exception",.type "BaseException",.type "object"]
theorem Yt{K:wa}{h:wI}{C:we}{bmB:List wf}{newId:String}(X:K.In h)(q:WU K C bmB newId=true) :
  ∃bm N nm qn bs hd sn sub ab col dd k0 k1 k2 k3 k5 mN,h.get? C=some (excClassObj nm qn C N bs bm hd sn sub ab col dd k0 k1 k2 k3 k5 newId)/\h.Ns N mN/\mN "__init__"=none/\OwnTail h bmB bm:=by
 unfold WU at q
 split at q
 case h_2=>cases q
 rename_i dd cd sl ho
 split at q
 case h_2=>cases q
 rename_i C' bm k0 k1 k2 k3 n k5 hm hs;simp only[wW,beq_iff_eq,WR]at q;obtain⟨⟨⟨⟨⟨rfl,rfl⟩,hdel⟩,ht⟩,aJ⟩,hni⟩:=q;obtain⟨nm,bs,mro,ns,qn,hd,sn,sub,ab,col,del⟩:=cd;dsimp only at hm hdel aJ hni;subst hm hdel
 have e:sl = #[k0,k1,k2,k3,some (.builtin n),k5]:=by
  cases sl;simp only at hs;rw[hs]
 subst e;exact⟨bm,ns,nm,qn,bs,hd,sn,sub,ab,col,dd,k0,k1,k2,k3,k5,_,X _ _ ho,.of_isNs (PySem.W.isNs_of_in X aJ),PySem.W.nsMap_none_of_in X aJ hni,PySem.W.tail_of_in X ht⟩
section
variable{X:Cx}{x:Str}{C:we}{E:XK}{e:Expr}{es:List Expr}{t:TA}{np cpos pos:Pos}
def L_(C:wf)(E:XK)(t:TA):TS:=λ_ σ H=>t σ H λvs H1=>vs.length<=w5/\E C none H1
theorem zM(q:WU X.K C kX "ValueError.__new__"=true)(hc:X.calm=true)(hg:Gl X x)(hm:X.mg x=some (.ref C))(Z:RJ X (.ref C) E)(ha:PA X (e::es) t)(hdb:(x == ("__debug__" : Str))=false:=by decide)
  (he:wT (e::es) X.env=(false,eval e X.env)::wT es X.env:=by rfl) (hpl:(W0 cpos (wT es X.env)).any (·.1)=false:=by rfl) :
  PS X (.Raise (some (.Call (.Name x np) (e::es) [] cpos)) none pos) (L_ (.ref C) E t):=by
 intro pins s σ H D I h;obtain⟨bm,N,nm,qn,bs,hd,sn,sub,ab,col,dd,k0,k1,k2,k3,k5,mN,hC,hN,hni,T⟩:=Yt I.ok.mod.pJ q
 refine wpAny_Raise_call_subU (C:=C) (nm:=nm) (q:=qn) (N:=N) (bs:=bs) (bm:=bm) (hdct:=hd) (sn:=sn) (sub:=sub) (ab:=ab) (col:=col) (dd:=dd) (k0:=k0) (k1:=k1) (k2:=k2) (k3:=k3) (k5:=k5)
  xh (by decide) xh (mN:=mN) (T.hasType (by decide)) (I.ok.hd hc) (by rw[he];show(false || (W0 cpos (wT es X.env)).any (·.1))=false;rw[hpl];rfl) hni (pS I hg hm ⟨rfl,?_⟩ hdb)
 have ha':=ha cpos pins s σ H _ I h;rw[he]at ha' ⊢;refine xc (Wm ha' (λus s2 ⟨vs,H2,I2,r,z,q2⟩=>⟨rfl,by rw[<- r.length];exact z,I2.bk _ _ hC,hN.keeps I2.bk,T.keeps I2.bk,λh' ex m=>Z pins σ H2 s2 h' ex us I2 m q2⟩) λ_ _ y=>y)
end
abbrev Cx.at(X:Cx)(pn:List (we × Obj))(E:wf->wl->Prop):Cx:={X with pn:=pn,xe:=E}
abbrev Cx.rB(X:Cx)(pn:List (we × Obj))(ex:we)(oe:Obj):Cx:={X with pn:=pn++[(ex,oe)],xe:=λ_ _=>False,A:=X.A.mark (some (.ref ex)),calm:=false}
section
variable{X:Cx}{pins pins':List (we × Obj)}{σ : St}{H:Hp}{s:wl}{ex:we}{oe:Obj}
theorem Inv.Uc(I:Inv X pins σ H s)(E:wf->wl->Prop):Inv (X.at (X.pn++pins) E) [] σ H s :=
 ⟨⟨I.ok.mod,I.ok.kind,I.ok.glob,I.ok.blt,I.ok.above,I.ok.inj,I.ok.has,I.ok.kl,I.ok.hd,I.ok.frames,I.ok.lg,I.ok.nX,I.ok.bs,I.ok.ie,I.ok.j_,I.ok.kO,I.ok.ff,I.ok.iS⟩,I.os,I.bare,I.base,I.loc,I.cell,I.free,I.gf,
  λp hp=>I.pin p (by rw[Wd]at hp;exact hp),I.aJ,I.len⟩
theorem Inv.nW{E:wf->wl->Prop}(I:Inv (X.at (X.pn++pins) E) pins' σ H s):Inv X pins σ H s :=
 ⟨⟨I.ok.mod,I.ok.kind,I.ok.glob,I.ok.blt,I.ok.above,I.ok.inj,I.ok.has,I.ok.kl,I.ok.hd,I.ok.frames,I.ok.lg,I.ok.nX,I.ok.bs,I.ok.ie,I.ok.j_,I.ok.kO,I.ok.ff,I.ok.iS⟩,I.os,I.bare,I.base,I.loc,I.cell,I.free,I.gf,
  λp hp=>I.pin p (Vr _ hp),I.aJ,I.len⟩
theorem Inv.T1(I:Inv X pins σ H s)(he:s.heap.get? ex=some oe)(hn:H ex=none)(nl:ex≠X.env.locals)(nf:ex ∉ X.fs)(nc:∀v,oe.data≠.cell v):Inv (X.rB (X.pn++pins) ex oe) [] σ H s :=
 ⟨⟨I.ok.mod,I.ok.kind,I.ok.glob,I.ok.blt,I.ok.above,I.ok.inj,I.ok.has,I.ok.kl,λz=>Bool.noConfusion z,I.ok.frames,I.ok.lg,I.ok.nX,I.ok.bs,I.ok.ie,I.ok.j_,I.ok.kO,I.ok.ff,I.ok.iS⟩,I.os,I.bare,I.base,I.loc,I.cell,I.free,I.gf,
  λp hp=>by
   rw[Wd]at hp;rcases vM.mp hp with z | z
   ·exact I.pin p z
   ·cases wY.mp z
    exact⟨he,hn,nl,nf,nc⟩,I.aJ,I.len⟩
theorem Inv.rA(ok:X.Ok)(I:Inv (X.rB (X.pn++pins) ex oe) pins' σ H s):Inv X pins σ H s :=
 ⟨ok,I.os,I.bare,I.base,I.loc,I.cell,I.free,I.gf,λp hp=>I.pin p (Vr _ (Vr _ hp)),I.aJ,I.len⟩
end
def SQ(CX:gb)(X:Cx)(W:St->XK):Prop:=∀(pins:List (we × Obj))(σ : St)(H:Hp)(s:wl)(e:wf)(s':wl),Inv X pins σ H s->CX X.stack H s (W σ) e s'->X.xe e s'
def uK(sp:Sp)(W:St->XK)(t:TA):TE:=λσ H Q=>t σ H λvs H1=>sp vs H1 Q (W σ)
section
variable{X:Cx}{CX:gb}{k:Nat}{f:we}{fd:wz}{ps:List Str}{sp:Sp}{W:St->XK}{x:Str}{p pos:Pos}{e:Expr}{es:List Expr}{t:TA}
theorem MR(F:aH X.prog X.w X.K X.mg X.base CX k f fd ps sp)(hr:d4 k X.A)(hg:Gl X x)(hm:X.mg x=some (.ref f))(hk:qu X.K (.ref f)=true)(hb:lD X.K fd ps [])(hx:SQ CX X W)
  (ha:PA X (e::es) t) (hdb:(x == ("__debug__" : Str))=false:=by decide) (he:wT (e::es) X.env=(false,eval e X.env)::wT es X.env:=by rfl) (hpl:(W0 pos (wT es X.env)).any (·.1)=false:=by rfl) :
  PE X (.Call (.Name x p) (e::es) [] pos) (uK sp W t):=by
 intro pins s σ H Q I h;refine qt (pS I hg hm ?_ hdb);refine xB (h₀:=X.base) I.ok.mod.pJ hk (aI (ha pos pins s σ H _ I h) λus s1 ⟨vs,H1,I1,r,q⟩=>⟨I1.dF,?_⟩) he hpl;have hl:us.length=ps.length:=by rw[<- r.length];exact F.len _ _ _ _ q
 have hbd:BindsTo s1 fd ⟨us,[]⟩ (ps.zip us):=by simpa using hb s1 us I1.dF (by simpa using hl)
 refine wpAny_call (codeAny_mono (F.run X.A X.stack s1 H1 ⟨us,[]⟩ us vs Q (W σ) hr I1.Jt hbd r q) λr s' hq=>?_);cases r with
 | error e=>exact hx pins σ H1 s1 e s' I1 hq
 | ok fl =>
  cases fl with
  | ret u=>exact I1.after hq
  | next=>exact WC hq
  | brk=>exact WC hq
  | cont=>exact WC hq
end
structure Np(C:wf)(oe:Obj):Prop where
 cls:oe.cls=C
 fld:∃vs,oe.data=.fields vs/\vs[2]? = some .none
 dict:oe.dict=none
section
variable{X:Cx}{x n:Str}{G:wf}{i:Nat}{b₀ : wZ}{body suite:List wZ}{np hpos pos:Pos}{tb:(St->XK)->TS}{th:we->wf->TS}
end
structure Hd(X:Cx)(ex:we)(C:wf)(oe:Obj):Prop where
 hd:X.A.handled=some (.ref ex)
 pn:(ex,oe)∈X.pn
 ob:Np C oe
section
variable{P:wL}{w:wN}{K:wa}{mg:Str->Option wf}{base:wI}
end
section
variable{X:Cx}{k:Nat}{f:we}{fd:wz}{ps:List Str}{sp:we->wf->Sp}{x:Str}{p pos:Pos}{e:Expr}{es:List Expr}{t:TA}{ex:we}{C:wf}{oe:Obj}
end
def gQ(cells:List (Str × we)):List (Str × WI)->List (Str × we)->List (Str × we)
 | [],acc=>acc
 | (n,k)::r,acc=>gQ cells r (if(k == NameKind.free)=true then(n,(cells.lookup n).getD 0)::acc else acc)
theorem zlf{scope:Scope}{env:Env}(h:∀y∈scope.names,y.2=.free->∃c,env.cells.lookup y.1=some c):closureFor scope env=pure (gQ env.cells scope.names []):=by
 unfold closureFor;generalize scope.names=names at h
 suffices g:∀(names:List (Str × WI))(acc:List (Str × we)),(∀y∈names,y.2=.free->∃c,env.cells.lookup y.1=some c) ->
     (forIn names acc λ(x:Str × WI)(r:List (Str × we))=>if(x.2 == NameKind.free)=true then do let c <- cellOf env x.1;pure (ForInStep.yield ((x.1,c)::r))else pure (ForInStep.yield r):Sem (List (Str × we)))=pure (gQ env.cells names acc) by
   have:=g names [] h
   show(_ >>= pure)=_
   rw[bind_pure];exact this
 intro names
 induction names with
 | nil=>intro acc _;rfl
 | cons y r ih =>
   intro acc hy;obtain⟨n,k⟩:=y;rw[qc]
   by_cases e:(k == NameKind.free)=true
   . obtain⟨c,hc⟩:=hy (n,k) wC (beq_iff_eq.mp e)
     have hcell:cellOf env n=pure c:=by
       unfold cellOf;rw[hc]
     simp only[e,if_true,hcell,pure_bind];rw[ih _ λz hz=>hy z (wB _ hz)]
     show _=pure (gQ env.cells r _)
     simp only[e,if_true,hc,Qx]
   . simp only[e,pure_bind]
     rw[if_neg (by simp),pure_bind];dsimp only;rw[ih _ λz hz=>hy z (wB _ hz)]
     show _=pure (gQ env.cells r _)
     rw[if_neg e]
theorem Om{cells:List (Str × we)} : ∀(names:List (Str × WI))(acc:List (Str × we))(x:Str)(c:we),(∀y∈names,y.2=.free->∃c,cells.lookup y.1=some c)->(∀x c,acc.lookup x=some c->cells.lookup x=some c) ->
  (gQ cells names acc).lookup x=some c->cells.lookup x=some c
 | [],acc,x,c,_,ha,h=>ha x c h
 | (n,k)::r,acc,x,c,hy,ha,h=>by
  unfold gQ at h;refine Om r _ x c (λz hz=>hy z (wB _ hz)) (λx' c' h'=>?_) h
  split at h'
  ·rename_i e
   obtain⟨c0,hc0⟩:=hy (n,k) wC (beq_iff_eq.mp e);rw[V4]at h'
   split at h'
   ·rename_i e2
    rw[beq_iff_eq.mp e2,hc0];rw[hc0]at h';exact h'
   ·exact ha x' c' h'
  ·exact ha x' c' h'
theorem Sl{cells:List (Str × we)} : ∀(names:List (Str × WI))(acc:List (Str × we))(x:Str),(∃c,acc.lookup x=some c)->∃c,(gQ cells names acc).lookup x=some c
 | [],acc,x,h=>h
 | (n,k)::r,acc,x,h=>by
  unfold gQ;refine Sl r _ x ?_
  split
  ·rw[V4]
   split
   ·exact⟨_,rfl⟩
   ·exact h
  ·exact h
theorem MJ{cells:List (Str × we)} : ∀(names:List (Str × WI))(acc:List (Str × we))(x:Str),(x,NameKind.free)∈names->∃c,(gQ cells names acc).lookup x=some c
 | [],acc,x,h=>nomatch h
 | (n,k)::r,acc,x,h=>by
  unfold gQ;rcases wG.mp h with e | e
  ·cases e
   rw[if_pos (by decide)];refine Sl r _ _ ?_;rw[V4];simp
  ·exact MJ r _ x e
theorem OV(g:Str->WI->WI):∀(names:List (Str × WI))(x:Str),(names.map λy=>(y.1,g y.1 y.2)).lookup x=(names.lookup x).map (g x)
 | [],x=>rfl
 | (n,k)::r,x=>by
  rw[w8,V4,V4];dsimp only
  by_cases e:(x == n)=true
  ·have e':=beq_iff_eq.mp e
   subst e';simp
  ·rw[Xq]at e
   simp only[e];exact OV g r x
def u3(env:Env)(x:Str)(k:WI):WI:=if(k == .free&&env.scope.kind == .function&&env.kindOf x == some .cell)=true then .cell else k
theorem RV{scope:Scope}{env:Env}(x:Str):(relabel scope env).names.lookup x=(scope.names.lookup x).map (u3 env x):=by
 rw[<- OV]
 show(scope.names.map _).lookup x=_
 congr 2
 funext ⟨n,k⟩
 dsimp only[u3]
 split<;>rfl
def cS(inner outer:List (Str × WI))(N N':List Str)(src:List (Option Nat)):Bool :=
 (inner.all λy=>(y.2 != .cell)&&(y.2 != .local || inner.lookup y.1 == some .local)&&(y.2 != .free || outer.lookup y.1 == some .cell)) &&
 (N'.length == src.length)&&((N'.zip src).all λp=>match p.2 with
  | none=>true
  | some j=>N[j]? == some p.1&&outer.lookup p.1 == some .cell&&inner.lookup p.1 == some .free)
theorem cC.by{X:Cx}{N':List Str}{scope:Scope}{src:List (Option Nat)}(hk:scope.kind=.function)(hc:cS scope.names X.env.scope.names X.N N' src=true)(hf:∀x,X.env.scope.names.lookup x=some .cell->∃c,X.env.cells.lookup x=some c:=by exact λx h=>Ez h) :
  cC X N' scope (gQ X.env.cells scope.names []) src:=by
 unfold cS at hc;simp only[wW,Wt,beq_iff_eq,XG,bne_iff_ne,ne_eq]at hc;obtain⟨⟨h1,h2⟩,h3⟩:=hc;have fr:∀y∈scope.names,y.2=.free->∃c,X.env.cells.lookup y.1=some c:=λy hy e=>hf _ (((h1 y hy).2).elim (λz=>absurd e z) id)
 have at3:∀(i:Nat)(x:Str)(j:Nat),N'[i]? = some x->src[i]? = some (some j)->X.N[j]? = some x/\X.env.scope.names.lookup x=some .cell/\scope.names.lookup x=some .free:=λi x j e1 e2=>by
  have m:(x,some j)∈N'.zip src:=by
   rw[List.mem_iff_getElem?];exact⟨i,by rw[List.getElem?_zip_eq_some];exact⟨e1,e2⟩⟩
  have:=h3 _ m;simp only[wW,beq_iff_eq]at this;exact⟨this.1.1,this.1.2,this.2⟩
 refine⟨hk,λy hy=>((h1 y hy).1).1,λy hy e=>(((h1 y hy).1).2).elim (λz=>absurd e z) id,⟨zlf fr,λx c e=>Om _ _ x c fr (λ_ _ z=>by simp at z) e,λx e=>?_⟩,⟨h2,λi j x e1 e2=>⟨(at3 i x j e1 e2).1,(at3 i x j e1 e2).2.1⟩⟩,λi x e1 e2=>?_⟩
 ·rw[RV]at e
  cases q:scope.names.lookup x with
  | none=>rw[q]at e;simp at e
  | some k =>
   have hm:=WZ q
   have hk:k=.free:=by
    rw[q]at e;simp only[XH,Qn,u3]at e;have nc:k≠.cell:=((h1 _ hm).1).1;rcases e with e | e
    ·split at e
     ·rename_i z;simp only[wW,beq_iff_eq]at z;exact z.1.1
     ·exact absurd e nc
    ·split at e
     ·cases e
     ·exact e
   subst hk;exact MJ _ _ x hm
 ·obtain⟨o,ho⟩:∃o,src[i]? = some o:=by
   have:i<src.length:=by rw[<- h2];exact(WP.mp e1).1
   exact⟨src[i],by simp[this]⟩
  cases o with
  | none=>exact absurd ho e2
  | some j =>
   have:=(at3 i x j e1 ho).2.2;rw[RV,this];simp only[XH,Qn,u3]
   split
   ·exact .inl rfl
   ·exact .inr rfl
section
variable{prog:wL}{w:wN}{A:ve}{E:wf->wl->Prop}{s:wl}
end
section
variable{X:Cx}{ex:we}{C:wf}{oe:Obj}{pins:List (we × Obj)}{σ : St}{H:Hp}{s:wl}{pos:Pos}
variable{tg l:Expr}{tl:TE}
variable{N':List Str}{scope:Scope}{cl:List (Str × we)}{src:List (Option Nat)}{elt tgt iter:Expr}{ifs:List Expr}{wi:TI}{g:TG}{tt:TT}{te:TE}
end
def zy(K:wa)(g:TG)(tt:TT)(te:TE)(src:List (Option Nat))(σ : St)(x:V)(H1:Hp)(Q:VK):Prop :=
 ∃a,x=.ref a/\(∃xs,aR K H1 a xs) /\ ∀D,H1 D=none->jy g tt te (iV K a) D (dE src σ) (upd H1 D (.lst [])) (λH'=>Q (.ref D) H')
def zq(K:wa)(g:TG)(tt:TT)(te:TE)(src:List (Option Nat))(σ : St)(x:V)(H1:Hp)(Q:VK):Prop :=
 ∃a,x=.ref a/\(∃xs,aV K H1 a xs) /\ ∀D,H1 D=none->jy g tt te (jo K a) D (dE src σ) (upd H1 D (.lst [])) (λH'=>Q (.ref D) H')
def BC(g:TG)(tt:TT)(te:TE)(src:List (Option Nat))(σ : St)(vs:List V)(H1:Hp)(Q:VK):Prop :=
 ∃j:Int,vs=[.int j] /\ -(2^62)<=j/\j<2^62 /\ ∀D,H1 D=none->jy g tt te (gu 0 j.toNat) D (dE src σ) (upd H1 D (.lst [])) (λH'=>Q (.ref D) H')
section
variable{K:wa}{g:TG}{tt:TT}{te ta:TE}{tA:TA}{src:List (Option Nat)}{σ : St}{H:Hp}{Q:VK}{a:we}{xs:List V}{n:Int}
theorem zyn(h:ta σ H λx H1=>zy K g tt te src σ x H1 Q):jE src (EF K ta) g tt te σ H Q:=h
theorem Y1(h:ta σ H λx H1=>zq K g tt te src σ x H1 Q):jE src (Kh K ta) g tt te σ H Q:=h
theorem zwW(h:tA σ H λvs H1=>BC g tt te src σ vs H1 Q):jE src (Dc tA) g tt te σ H Q:=h
def pA(Pv:we->Nat->List V->St->Hp->Prop)(D:we)(i:Nat)(σ3:St)(y:V)(H5:Hp):Prop :=
 ∃ys,H5 D=some (.lst ys)/\ys.length<w5 /\ ∃ys',Pv D (i+1) ys' σ3 (upd H5 D (.lst (ys++[y])))
def gR(Pv:we->Nat->List V->St->Hp->Prop)(g:TG)(tt:TT)(te:TE)(D:we)(i:Nat)(x:V)(σ':St)(H':Hp):Prop :=
 g x σ' H' λσ3 H3=>tt σ3 H3 λok H4=>if ok=true then te σ3 H4 λy H5=>pA Pv D i σ3 y H5 else ∃ys',Pv D (i+1) ys' σ3 H4
theorem lI{Pv:we->Nat->List V->St->Hp->Prop}{D:we}{i:Nat}{σ3:St}{y:V}{H5:Hp}{ys:List V}(h:H5 D=some (.lst ys))(z:ys.length<=1000)(q:∀H6,Exc D H5 H6->H6 D=some (.lst (ys++[y]))->Pv D (i+1) (ys++[y]) σ3 H6):pA Pv D i σ3 y H5 :=
 ⟨ys,h,iT z,_,q _ (Exc.upd D H5 _) cV⟩
theorem CT{J:It}{N:Nat}{D:we}{σ0:St}{H0:Hp}{R:Hp->Prop}(Pv:we->Nat->List V->St->Hp->Prop)(item:Nat->V->Prop)(h0:Pv D 0 [] σ0 H0)
  (stop:∀i ys σ' H',Pv D i ys σ' H'->N<=i->J.stop i H') (go:∀i ys σ' H',Pv D i ys σ' H'->i<N->J.go i H') (fB:∀i ys σ' H' x H2,Pv D i ys σ' H'->J.fB i H' x H2->H2=H'/\item i x)
  (hs:∀i x ys σ' H',i<N->item i x->Pv D i ys σ' H'->gR Pv g tt te D i x σ' H') (hd:∀ys σ' H',Pv D N ys σ' H'->R H'):jy g tt te J D σ0 H0 R:=by
 refine⟨λi m σ' H'=>i+m=N /\ ∃ys,Pv D i ys σ' H',⟨N,by lia,[],h0⟩,?_⟩;rintro i m σ' H' ⟨him,ys,hp⟩
 by_cases hm:m=0
 ·subst hm
  have e:i=N:=by lia
  subst e;exact .inl ⟨stop _ _ _ _ hp (wo _),hd _ _ _ hp⟩
 ·refine .inr ⟨go _ _ _ _ hp (by lia),λσ2 H2=>∃ys,Pv D (i+1) ys σ2 H2,λσ2 H2 h=>⟨m-1,by lia,by lia,h⟩,λx H2 hy2=>?_⟩
  obtain⟨e,hit⟩:=fB _ _ _ _ _ _ hp hy2;subst e;exact hs i x ys σ' H2 (by lia) hit hp
theorem sv(hx:aR K H a xs)(Pv:we->Nat->List V->St->Hp->Prop)(h0:∀D H',H D=none->ah H H'->H' D=some (.lst [])->Pv D 0 [] (dE src σ) H')(hl:∀D i ys σ' H',Pv D i ys σ' H'->aR K H' a xs)
  (hs:∀D i x ys σ' H',xs[i]? = some x->Pv D i ys σ' H'->gR Pv g tt te D i x σ' H') (hd:∀D ys σ' H',Pv D xs.length ys σ' H'->Q (.ref D) H'):zy K g tt te src σ (.ref a) H Q:=by
 refine⟨a,rfl,⟨xs,hx⟩,λD hD=>CT (N:=xs.length) Pv (λi x=>xs[i]? = some x) (h0 D _ hD (ah.upd hD) cV) (λi ys σ' H' hp hi=>⟨xs,hl _ _ _ _ _ hp,hi⟩) (λi ys σ' H' hp hi=>?_) (λi ys σ' H' x H2 hp hy=>?_)
  (λi x ys σ' H' _ hit hp=>hs D i x ys σ' H' hit hp) (hd D)⟩
 ·exact⟨xs,xs[i],hl _ _ _ _ _ hp,by simp[hi]⟩
 ·obtain⟨e,hy⟩:=hy
  exact⟨e,hy xs (hl _ _ _ _ _ hp)⟩
theorem ZR(hx:aV K H a xs)(Pv:we->Nat->List V->St->Hp->Prop)(h0:∀D H',H D=none->ah H H'->H' D=some (.lst [])->Pv D 0 [] (dE src σ) H')(hl:∀D i ys σ' H',Pv D i ys σ' H'->aV K H' a xs)
  (hs:∀D i x ys σ' H',xs[i]? = some x->Pv D i ys σ' H'->gR Pv g tt te D i x σ' H') (hd:∀D ys σ' H',Pv D xs.length ys σ' H'->Q (.ref D) H'):zq K g tt te src σ (.ref a) H Q:=by
 refine⟨a,rfl,⟨xs,hx⟩,λD hD=>CT (N:=xs.length) Pv (λi x=>xs[i]? = some x) (h0 D _ hD (ah.upd hD) cV) (λi ys σ' H' hp hi=>⟨xs,hl _ _ _ _ _ hp,hi⟩) (λi ys σ' H' hp hi=>?_) (λi ys σ' H' x H2 hp hy=>?_)
  (λi x ys σ' H' _ hit hp=>hs D i x ys σ' H' hit hp) (hd D)⟩
 ·exact⟨xs,xs[i],hl _ _ _ _ _ hp,by simp[hi]⟩
 ·obtain⟨e,hy⟩:=hy
  exact⟨e,hy xs (hl _ _ _ _ _ hp)⟩
theorem NT(h0' : -1000000000<=n)(h1:n<1000000000)(Pv:we->Nat->List V->St->Hp->Prop)(h0:∀D H',H D=none->ah H H'->H' D=some (.lst [])->Pv D 0 [] (dE src σ) H')
  (hs:∀D (i:Nat) ys σ' H',i<n.toNat->Pv D i ys σ' H'->gR Pv g tt te D i (.int (i:Int)) σ' H') (hd:∀D ys σ' H',Pv D n.toNat ys σ' H'->Q (.ref D) H'):BC g tt te src σ [.int n] H Q:=by
 refine⟨n,rfl,by lia,by lia,λD hD=>CT (N:=n.toNat) Pv (λi x=>x=.int (i:Int)) (h0 D _ hD (ah.upd hD) cV) (λi ys σ' H' hp hi=>hi) (λi ys σ' H' hp hi=>hi) (λi ys σ' H' x H2 hp hy=>?_)
  (λi x ys σ' H' hi hit hp=>?_) (hd D)⟩
 ·obtain⟨e,hy⟩:=hy
  exact⟨e,by rw[hy,Int.zero_add]⟩
 ·subst hit
  exact hs D i ys σ' H' hi hp
end
structure yd(u' u:TS):Prop where
 e:u'=u
theorem YQ{t u:TS}{D:ck}{σ : St}{H:Hp}(h:∀u',yd u' u->t {D with nx:=u' D} σ H):DD t u D σ H:=h u ⟨rfl⟩
theorem yd.go{u' u:TS}{D:ck}{σ : St}{H:Hp}(e:yd u' u)(h:u D σ H):u' D σ H:=by rw[e.e];exact h
theorem w_{P:wL}{w:wN}{X:Cx} : mE (eI P w) X E0:=λ_ _ _ _ _ _ _ h=>by
 obtain⟨_,_,_,_,_,_,_,_,_,_,_,q⟩:=h;exact q.elim
theorem kg.mT{P:wL}{w:wN}{K:wa}{mg:Str->Option wf}{base:wI}{x qual:Str}{st:wZ}{f:we}{fd:wz}{N ps:List Str}{k:Nat}{sp:Sp}(F:kg K x qual st f fd)(S:aN N ps (aC st))(len:∀vs H Q E,sp vs H Q E->vs.length=ps.length)
  (hbody:∀(cdv:wf)(A:ve)(outer:List Env)(s:wl)(H:Hp)(vs:List V)(Q:VK)(E:XK),d4 k (A.deeper (envOfC qual (aC st) s.heap.objs.size f cdv))->sp vs H Q E ->
   ∃t,fM (iD (eI P w) P w K mg base N qual (aC st) f cdv A outer s H E) (ku st) t/\t {nx:=λ_ H'=>Q .bj H',rt:=Q} (start N vs) H):aH P w K mg base (eI P w) (k+1) f fd ps sp:=by
 obtain⟨oc,od,kV,doc,pm,an,cdv,ct,osl,rfl,lk,hcd⟩:=F.ex;exact KI lk hcd S len λA outer s H vs Q E hr hsp=>hbody cdv A outer s H vs Q E hr hsp
theorem Exc.back{p:we}{H H' H2:Hp}(b:Exc p H' H2)(s:Exc p H H'):Exc p H H2:=s.trans b
theorem Em{X:Cx}{i j v:Int}{k1 k2:Nat}{p1 p2 pos:Pos}(hc:J4 i j)(hv:i^j.toNat=v):PE X (.BinOp (.Constant (.int i) k1 p1) .Pow (.Constant (.int j) k2 p2) pos) (tC (.int v)):=by
 subst hv;exact λpins s σ H Q I h=>(aD YN ay ay:PE X _ _) pins s σ H Q I ⟨i,j,rfl,rfl,hc,h⟩
theorem zwi{α : Type}[DecidableEq α]{x : α}{A B:Prop}(h:B):if(!decide (x=x))=true then A else B:=by simpa using h
theorem zwO{α : Type}[DecidableEq α]{x : α}{A B:Prop}(h:A):if decide (x=x)=true then A else B:=by simpa using h
section
variable{K:wa}{σ : St}{H H':Hp}{Q:VK}{QB:Bool->Hp->Prop}{D:ck}{t:TA}{v w:V}{xs ys:List V}{m n:Int}{r:Rat}{p:we}
theorem zC1{A B:Prop}(h:B):if(!true)=true then A else B:=by simpa using h
theorem zDx{A B:Prop}(h:A):if(!false)=true then A else B:=by simpa using h
theorem zvS{b:Bool}(q:Q (.bl true) H):eG K [.bl b,.ty "bool"] H Q:=Tc (jX.mpr rfl) q
theorem zAI{a b:V}(h:H p=some (.lst [a,b]))(h0:0<=m)(h1:m<2)(q:∀z,z=a\/z=b->Q z H):c_ K (.ref p) (.int m) H Q :=
 M9 (λz=>z=a\/z=b) (aR.of h) h0 (by simpa using h1) (by simp) q
theorem Uz{a b:Int}(h:H p=some (.lst [.int a,.int b]))(h0:0<=m)(h1:m<2)(q:∀z,z=a\/z=b->Q (.int z) H):c_ K (.ref p) (.int m) H Q :=
 zAI h h0 h1 λz hz=>by rcases hz with rfl | rfl;exact q _ (.inl rfl);exact q _ (.inr rfl)
theorem zp0{x y:Rat}(h1:x.num=y.num)(h2:(x.den:Int)=y.den):x=y:=by
 have h2':x.den=y.den:=by lia
 exact Rat.ext h1 h2'
theorem nZ(x y:Rat):wQ (N x) (N y)=decide (x=y):=by
 have e:wQ (N x) (N y)=(decide (x.num=y.num)&&decide ((x.den:Int)=y.den)):=by
  simp only[N,wQ,WV,xm,qK]
 rw[e,vC,wW,decide_eq_true_eq,decide_eq_true_eq,decide_eq_true_eq]
 constructor
 ·rintro ⟨h1,h2⟩;exact zp0 h1 h2
 ·rintro rfl;exact⟨rfl,rfl⟩
theorem tQ(x:Rat):vQ (N x)=true:=by simp[N,vQ,vF,Wg,Wu,Wz]
theorem Se{x y:Rat}(h:Is K H v (N x))(k:Is K H w (N y))(q:Q (.bl (decide (x=y))) H):cu K v w H Q:=nu h k (tQ x) (tQ y) (by rw[nZ];exact q)
theorem Zo{x y:Rat}(h:Is K H v (N x))(k:Is K H w (N y))(q:Q (.bl (!decide (x=y))) H):fR K v w H Q:=EV h k (tQ x) (tQ y) (by rw[nZ];exact q)
end
theorem zCP{X:Cx} : aK X (wJ .In) (kB X.K false):=zwI
theorem zwL{X:Cx} : aK X (wJ .NotIn) (kB X.K true):=ZO
def R(a b:Rat):wy:=.tuple [N a,N b]
theorem Er(a b:Rat):cW (R a b)=true:=by simp[R,cW,cg,ki]
structure aU(a b:Rat):Prop where
 a0:0<a
 a4:a<=4
 ad:a.den<=8
 b0:0<=b
 b1:b<=1
 bd:b.den<=12
 ab:1<=a+b
theorem aU.ba{a b:Rat}(h:aU a b):ag 10 a:=ag.small (c:=4) (d:=8) (vK h.a0) h.a4 h.ad (by decide) (by decide)
theorem aU.bb{a b:Rat}(h:aU a b):ag 10 b:=ag.small (c:=1) (d:=12) h.b0 h.b1 h.bd (by decide) (by decide)
section
variable{K:wa}{H:Hp}{Q:VK}{v:V}{a b:Rat}{σ : St}{gs:jG}{QS:St->Hp->Prop}
theorem zzM(h:Is K H v (R a b))(q:∀x,Is K H x (N a)->Q x H):c_ K v (.int 0) H Q:=aA (j:=0) h rfl q
theorem zAe(h:Is K H v (R a b))(q:∀x,Is K H x (N b)->Q x H):c_ K v (.int 1) H Q:=aA (j:=1) h rfl q
theorem Is.md{H':Hp}(h:Is K H v (R a b))(s:bK H H'):Is K H' v (R a b):=Is.keep s _ v (Er a b) h
theorem BB{x y:V}(h1:Is K H x (N a))(h2:Is K H y (N b))(q:∀v H',ah H H'->Is K H' v (R a b)->Q v H'):lT K [x,y] H Q :=
 cF (by show 2<=1000;decide) (.cons h1 (.cons h2 .nil)) q
end
section
variable{K:wa}{H H' H2:Hp}{Q:VK}{v w:V}{a b c d:Rat}{D:we}
theorem UO(h:Is K H v (R a b))(q:Q (.bl true) H):eG K [v,.ty "tuple"] H Q:=L4 h q
theorem zAP(h:Is K H v (R a b))(q:Q (.int 2) H):cR K [v] H Q:=kE h q
theorem ah.grow(s:ah H H')(n:H D=none)(e:Exc D H' H2):ah H H2:=λb o h=>e b o (jM h n) (s b o h)
end
theorem zyg{σ : St}{H:Hp}{Q:Bool->Hp->Prop}(q:Q true H):OE σ H Q:=q
theorem OA{Pv:we->Nat->List V->St->Hp->Prop}{g:TG}{tt:TT}{te:TE}{D:we}{i:Nat}{x:V}{σ':St}{H':Hp}(h:g x σ' H' λσ3 H3=>tt σ3 H3 λok H4=>if ok=true then te σ3 H4 λy H5=>pA Pv D i σ3 y H5 else ∃ys',Pv D (i+1) ys' σ3 H4) :
  gR Pv g tt te D i x σ' H':=h
section
variable{K:wa}{σ : St}{H:Hp}{Q:VK}{E:XK}{D:ck}{t:TA}{C G:wf}{i:Nat}{tb:(St->XK)->TS}{th:we->wf->TS}{sp:Sp}{W:St->XK}{ex C':we}{b:Bool}
theorem ZP(h:t σ H λvs H1=>vs.length<=w5/\E C none H1):L_ C E t D σ H:=h
theorem UI(h:t σ H λvs H1=>sp vs H1 Q (W σ)):uK sp W t σ H Q:=h
end
theorem pf(s:String):xH (vL s)=true:=by
 rw[Str.ofString_eq_toList,xH];simp only[List.all_toArray,xI,Wt,Function.comp,decide_eq_true_eq];intro c _;have:=c.valid;simp only[Char.toNat];rcases this with h | h
 ·have:c.val.toNat<0xd800:=h
  lia
 ·exact h.2
theorem d8{K:wa}{H:Hp}{c:we}{p q:Int}(r:Rat)(h:aV K H c [.int p,.int q])(e1:r.num=p)(e2:(r.den:Int)=q):Is K H (.ref c) (N r):=by
 subst e1 e2;exact bX.mpr ⟨c,_,rfl,h,fb.mpr ⟨_,_,rfl,b_.mpr rfl,fb.mpr ⟨_,_,rfl,b_.mpr rfl,gZ.mpr rfl⟩⟩⟩
theorem CD(s:String):vQ (.str (vL s))=true:=by
 simp[vQ,vF,Wu,pf]
theorem PX{c:Const}{k:Nat}{p:Pos}{es:List Expr}{env:Env} : wT ((.Constant c k p)::es) env=(false,eval (.Constant c k p) env)::wT es env:=rfl
theorem zuf{o:Operator}{x y:Expr}{p:Pos}{es:List Expr}{env:Env} : wT ((.BinOp x o y p)::es) env=(false,eval (.BinOp x o y p) env)::wT es env:=rfl
theorem fE{x:Str}{p:Pos}{es:List Expr}{env:Env} : wT ((.Name x p)::es) env=(false,eval (.Name x p) env)::wT es env:=rfl
theorem fk{x y:Expr}{p:Pos}{es:List Expr}{env:Env} : wT ((.Subscript x y p)::es) env=(false,eval (.Subscript x y p) env)::wT es env:=rfl
section
variable{K:wa}{H H' H2:Hp}{Q:VK}{R:Prop}{v w y:V}{p l:we}{xs ys zs:List V}{ns:List Int}{m:Int}{σ : St}
end
section
variable{K:wa}{H H' H2:Hp}{Q:VK}{R:Prop}{v w y:V}{p l:we}{xs ys zs:List V}{ns:List Int}{m:Int}{σ : St}{to:TE}{t:TA}{T:String}{r:V->List V->Hp->VK->Prop}
theorem YS(h:to σ H λx H1=>yU K T x H1/\t σ H1 λxs H2=>r x xs H2 Q):RC K T r to t σ H Q:=h
theorem lO(h:aR K H p xs)(q:R):yU K "list" (.ref p) H/\R:=⟨.inl ⟨rfl,xs,h⟩,q⟩
theorem lB(h:H l=some (.lst xs))(z:xs.length<=1000)(q:∀H',Exc l H H'->H' l=some (.lst (xs++[y]))->Q .bj H'):Kx (.ref l) [y] H Q:=⟨l,xs,y,rfl,rfl,h,iT z,q _ (Exc.upd l H _) cV⟩
end
def eA(K:wa):List V->Hp->VK->Prop:=λxs H Q=>∃p ys,xs=[.ref p]/\((aR K H p ys /\ ∀l,H l=none->Q (.ref l) (upd H l (.tup ys)))\/(aV K H p ys/\Q (.ref p) H))
def jN(K:wa):List V->Hp->VK->Prop:=λxs H Q=>∃p ys,xs=[.ref p]/\(aR K H p ys\/aV K H p ys) /\ ∀l,H l=none->Q (.ref l) (upd H l (.lst ys))
theorem fz{X:Cx} : aP X (.type "tuple") (eA X.K):=zoF
theorem oE{X:Cx} : aP X (.type "list") (jN X.K):=zra
def pE(K:wa):V->Option Int->Option Int->Hp->VK->Prop:=λx lo hi H Q=>RS K x lo hi H Q\/R4 K x lo hi H Q
theorem jD{X:Cx} : jY X (pE X.K):=UH.or U0
section
variable{K:wa}{H H' H2:Hp}{Q:VK}{QO:Option Int->Hp->Prop}{R:Prop}{v w y:V}{p l:we}{xs ys zs:List V}{ds es:List wy}{m:Int}{σ : St}{te:TE}{tl th:TO}{r:V->Option Int->Option Int->Hp->VK->Prop}{lo hi:Option Int}
theorem uj(h:aR K H p ys)(q:∀l H',H l=none->ah H H'->H' l=some (.tup ys)->Q (.ref l) H'):eA K [.ref p] H Q:=⟨p,ys,rfl,.inl ⟨h,λl hl=>q l _ hl (ah.upd hl) cV⟩⟩
theorem gY(h:Is K H v (.list ds))(q:∀w H',ah H H'->Is K H' w (.tuple ds)->Q w H'):eA K [v] H Q:=by
 obtain⟨a,xs,rfl,hs,t⟩:=cE.mp h;exact uj hs λl H' _ s e=>q _ H' s (bX.mpr ⟨l,xs,rfl,.of e,au.same s ds xs t⟩)
theorem Lb(h:Is K H v (.tuple ds))(q:Q v H):eA K [v] H Q:=by
 obtain⟨a,xs,rfl,hs,t⟩:=bX.mp h;exact⟨a,xs,rfl,.inr ⟨hs,q⟩⟩
theorem sO(h:Is K H v (.tuple ds))(q:∀l H' ys,H l=none->ah H H'->H' l=some (.lst ys)->au K H' ys ds->Q (.ref l) H'):jN K [v] H Q:=by
 obtain⟨a,xs,rfl,hs,t⟩:=bX.mp h;exact⟨a,xs,rfl,.inr hs,λl hl=>q l _ xs hl (ah.upd hl) cV (au.same (ah.upd hl) ds xs t)⟩
theorem JJ(h:Is K H v (.list ds))(q:∀l H' ys,H l=none->ah H H'->H' l=some (.lst ys)->au K H' ys ds->Q (.ref l) H'):jN K [v] H Q:=by
 obtain⟨a,xs,rfl,hs,t⟩:=cE.mp h;exact⟨a,xs,rfl,.inl hs,λl hl=>q l _ xs hl (ah.upd hl) cV (au.same (ah.upd hl) ds xs t)⟩
theorem zwX(h:te σ H λx H1=>tl σ H1 λl H2=>th σ H2 λu H3=>r x l u H3 Q):Rz r te tl th σ H Q:=h
theorem Z4(q:QO none H):Kq σ H QO:=q
theorem UN(h:te σ H λx H1=>∃i,x=.int i/\QO (some i) H1):Ol te σ H QO:=h
theorem zxM{RI:Int->Prop}(q:RI m):∃i,V.int m=V.int i/\RI i:=⟨m,rfl,q⟩
def cutD{α : Type}(xs:List α)(lo hi:Option Int):List α:=(xs.drop (HT.aX xs.length 0 lo)).take (HT.aX xs.length xs.length hi-HT.aX xs.length 0 lo)
theorem au.take:∀{ds:List wy}{xs:List V}(n:Nat),au K H xs ds->au K H (xs.take n) (ds.take n)
 | _,_,0,h=>by simp[au.nil]
 | [],_,n+1,h=>by rw[gZ.mp h];simp[au.nil]
 | d::ds,_,n+1,h=>by
  obtain⟨x,r,rfl,q,t⟩:=fb.mp h;rw[xt,xt];exact .cons q (au.take n t)
theorem au.drop:∀{ds:List wy}{xs:List V}(n:Nat),au K H xs ds->au K H (xs.drop n) (ds.drop n)
 | _,_,0,h=>by simpa using h
 | [],_,n+1,h=>by rw[gZ.mp h];simp[au.nil]
 | d::ds,_,n+1,h=>by
  obtain⟨x,r,rfl,q,t⟩:=fb.mp h;rw[qS,qS];exact au.drop n t
theorem au.cut(h:au K H xs ds):au K H (jS xs lo hi) (cutD ds lo hi):=by
 unfold jS cutD;rw[h.length];exact(h.drop _).take _
theorem zCn(h:aR K H p xs)(q:∀l H',H l=none->ah H H'->H' l=some (.lst (jS xs lo hi))->Q (.ref l) H'):pE K (.ref p) lo hi H Q:=.inl ⟨p,xs,rfl,h,λl hl=>q l _ hl (ah.upd hl) cV⟩
theorem k8(h:Is K H v (.list ds))(q:∀l H' ys,H l=none->ah H H'->H' l=some (.lst ys)->au K H' ys (cutD ds lo hi)->Q (.ref l) H'):pE K v lo hi H Q:=by
 obtain⟨a,xs,rfl,hs,t⟩:=cE.mp h;exact zCn hs λl H' hl s e=>q l H' _ hl s e (au.same s _ _ t.cut)
theorem NS(h:Is K H v (.tuple ds))(hw:¬ (HT.aX ds.length 0 lo=0/\HT.aX ds.length ds.length hi=ds.length))(q:∀w H',ah H H'->Is K H' w (.tuple (cutD ds lo hi))->Q w H'):pE K v lo hi H Q:=by
 obtain⟨a,xs,rfl,hs,t⟩:=bX.mp h;refine .inr ⟨a,xs,rfl,hs,by rw[t.length];exact hw,λl hl=>q _ _ (ah.upd hl) (bX.mpr ⟨l,_,rfl,.of cV,au.same (ah.upd hl) _ _ t.cut⟩)⟩
theorem BM{α : Type}(xs:List α):cutD xs none (some (-1))=xs.dropLast:=by
 unfold cutD
 show(xs.drop 0).take (((-1:Int)+(xs.length:Int)).toNat-0)=_
 rw[XX,Q6]
 congr 1
 lia
theorem uE{α : Type}(xs:List α):cutD xs (some 1) none=xs.tail:=by
 unfold cutD
 show(xs.drop (min 1 xs.length)).take (xs.length-min 1 xs.length)=_
 cases xs with
 | nil=>rfl
 | cons x xs =>
  have e:min 1 (x::xs).length=1:=by rw[vP];lia
  rw[e,qS,XX,vP,qk,Wc,XV]
end
def TN(xs:List Rat):wy:=.tuple (xs.map N)
def LN(xs:List Rat):wy:=.list (xs.map N)
theorem fU:∀xs:List Rat,cg (xs.map N)=true
 | []=>by simp[cg]
 | x::xs=>by rw[w8,cg,ki,fU xs];rfl
theorem rK(xs:List Rat):cW (TN xs)=true:=by rw[TN,cW];exact fU xs
theorem zwT(x:Rat):(N x).canLay0=true:=by simp[N,vF,Wg]
theorem zy8(x:Rat):(N x).depth=1:=by simp[N,Wu,Wz]
theorem Dk:∀xs:List Rat,Wg (xs.map N)=true
 | []=>by simp[Wg]
 | x::xs=>by rw[w8,Wg,zwT,Dk xs];rfl
theorem JT:∀xs:List Rat,Wz (xs.map N)<=1
 | []=>by simp[Wz]
 | x::xs=>by
  have:=JT xs;rw[w8,Wz,zy8];lia
theorem uo(xs:List Rat):vQ (TN xs)=true:=by
 unfold vQ TN;rw[vF,Dk,Wu,VJ];have:=JT xs;exact decide_eq_true (by lia)
theorem Tf:∀xs ys:List Rat,WV (xs.map N) (ys.map N)=decide (xs=ys)
 | [],[]=>by simp[WV]
 | [],y::ys=>by simp[WV]
 | x::xs,[]=>by simp[WV]
 | x::xs,y::ys=>by
  rw[w8,w8,WV,nZ,Tf xs ys,vC,wW,decide_eq_true_eq,decide_eq_true_eq,decide_eq_true_eq,List.cons.injEq]
theorem BO(xs ys:List Rat):wQ (TN xs) (TN ys)=decide (xs=ys):=by
 unfold TN;rw[wQ,Tf]
section
variable{K:wa}{H H' H2:Hp}{Q:VK}{v w y:V}{p l:we}{vs:List V}{xs ys:List Rat}{m:Int}{σ : St}
theorem C2(h:Is K H v (TN xs))(k:Is K H w (TN ys))(q:Q (.bl (decide (xs=ys))) H):cu K v w H Q:=nu h k (uo xs) (uo ys) (by rw[BO];exact q)
theorem YH(h:Is K H v (TN xs))(k:Is K H w (TN ys))(q:Q (.bl (!decide (xs=ys))) H):fR K v w H Q:=EV h k (uo xs) (uo ys) (by rw[BO];exact q)
theorem A1{i:Nat}(t:au K H vs (xs.map N))(h:i<xs.length):∃x,vs[i]? = some x/\Is K H x (N (xs.getD i 0)):=by
 refine t.get ?_;rw[wt,wb,wc h]
 rfl
theorem dk{i:Nat}{x:V}(t:au K H vs (xs.map N))(h:vs[i]? = some x):i<xs.length/\Is K H x (N (xs.getD i 0)):=by
 have hl:=t.length;rw[wm]at hl
 have hi:i<xs.length:=by
  rcases wD i vs.length with z | z
  ·lia
  ·rw[wE z]at h;cases h
 obtain⟨x',e,hx⟩:=A1 t hi;rw[h]at e;cases e;exact⟨hi,hx⟩
theorem zAF(h:Is K H v (TN xs))(h0:0<=m)(h1:m<xs.length)(q:∀x,Is K H x (N (xs.getD m.toNat 0))->Q x H):c_ K v (.int m) H Q:=by
 obtain⟨a,vs,rfl,hs,t⟩:=bX.mp h;obtain⟨n,rfl⟩:∃n:Nat,m=(n:Int):=⟨m.toNat,by lia⟩;obtain⟨x,e,hx⟩:=A1 (i:=n) t (by lia);exact uH hs (kx e) (q x hx)
theorem jJ(h:Is K H v (LN xs))(h0:0<=m)(h1:m<xs.length)(q:∀x,Is K H x (N (xs.getD m.toNat 0))->Q x H):c_ K v (.int m) H Q:=by
 obtain⟨a,vs,rfl,hs,t⟩:=cE.mp h;obtain⟨n,rfl⟩:∃n:Nat,m=(n:Int):=⟨m.toNat,by lia⟩;obtain⟨x,e,hx⟩:=A1 (i:=n) t (by lia);exact iH hs (kx e) (q x hx)
theorem NN(h:Is K H v (TN xs))(q:Q (.int xs.length) H):cR K [v] H Q:=kE h (by rw[wm];exact q)
theorem zyT(h:Is K H v (LN xs))(q:Q (.int xs.length) H):cR K [v] H Q:=by
 obtain⟨a,vs,rfl,hs,t⟩:=cE.mp h;have:=t.length;rw[wm]at this;exact iN hs (by rw[this];exact q)
theorem dm(h:H l=some (.lst vs))(t:au K H vs (xs.map N)):Is K H (.ref l) (LN xs):=cE.mpr ⟨l,vs,rfl,.of h,t⟩
theorem fL:∀{xs:List Rat}{vs:List V},vs.length=xs.length->(∀i x,vs[i]? = some x->Is K H x (N (xs.getD i 0)))->au K H vs (xs.map N)
 | [],vs,hl,_=>by
  have:vs=[]:=WW hl;subst this;exact .nil
 | x::xs,[],hl,_=>by cases hl
 | x::xs,u::vs,hl,h=>by
  rw[w8];exact .cons (h 0 u rfl) (fL (by simpa using hl) λi y e=>h (i+1) y e)
end
section
variable{K:wa}{g:TG}{tt:TT}{te:TE}{src:List (Option Nat)}{σ : St}{H:Hp}{Q:VK}{a:we}{vs:List V}{n:Int}{tl:St}{o0:Option V}
def gD(H:Hp)(tl:St)(Rel:Nat->V->Hp->Prop)(D:we)(i:Nat)(ys:List V)(σ':St)(H':Hp):Prop :=
 (∃o,σ'=o::tl)/\H D=none/\ah H H'/\H' D=some (.lst ys)/\ys.length=i /\ ∀j y,ys[j]? = some y->Rel j y H'
theorem gD.same{Rel:Nat->V->Hp->Prop}{D:we}{i:Nat}{ys:List V}{σ':St}{H':Hp}(h:gD H tl Rel D i ys σ' H'):ah H H':=h.2.2.1
theorem dZ{Rel:Nat->V->Hp->Prop}{D:we}{i:Nat}{ys:List V}{σ' σ3:St}{H1 H5:Hp}{y:V}(inv:gD H tl Rel D i ys σ' H1)(hi:i<=1000)(hk:∀i v H1 H2,bK H1 H2->Rel i v H1->Rel i v H2)(hσ : ∃o,σ3=o::tl)(s:ah H1 H5)(r:Rel i y H5):pA (gD H tl Rel) D i σ3 y H5:=by
 obtain⟨_,hn,s1,hD,hl,hr⟩:=inv;have hD5:=s _ _ hD;refine lI hD5 (by lia) λH6 E6 e6=>⟨hσ,hn,(s1.trans s).grow hn E6,e6,by simp[hl],λj z hz=>?_⟩
 have k6:bK H5 H6:=E6.keep hD5;rcases wD j ys.length with hj | hj
 ·rw[vY hj]at hz
  exact hk _ _ _ _ (s.keep.trans k6) (hr j z hz)
 ·have hj':j=ys.length:=by
   rcases wD ys.length j with q | q
   ·rw[wE (by simp;lia)]at hz;cases hz
   ·lia
  subst hj';rw[vg (wo _),Vz]at hz;cases hz;rw[hl];exact hk _ _ _ _ k6 r
theorem jI(hx:aR K H a vs)(hsrc:dE src σ = o0::tl)(Rel:Nat->V->Hp->Prop)(hs:∀D i x ys o H1,vs[i]? = some x->gD H tl Rel D i ys (o::tl) H1->gR (gD H tl Rel) g tt te D i x (o::tl) H1)
  (hd:∀D ys H',H D=none->ah H H'->H' D=some (.lst ys)->ys.length=vs.length->(∀j y,ys[j]? = some y->Rel j y H')->Q (.ref D) H'):zy K g tt te src σ (.ref a) H Q:=by
 refine sv hx (gD H tl Rel) (λD H' n s e=>⟨⟨o0,hsrc⟩,n,s,e,rfl,λj y z=>by simp at z⟩) (λD i ys σ' H' h=>h.same.seq hx) ?_ λD ys σ' H' ⟨_,n,s,e,hl,r⟩=>hd D ys H' n s e hl r
 rintro D i x ys σ' H' hx' h;obtain⟨⟨o,rfl⟩,_⟩:=id h;exact hs D i x ys o H' hx' h
theorem h9(hx:aV K H a vs)(hsrc:dE src σ = o0::tl)(Rel:Nat->V->Hp->Prop)(hs:∀D i x ys o H1,vs[i]? = some x->gD H tl Rel D i ys (o::tl) H1->gR (gD H tl Rel) g tt te D i x (o::tl) H1)
  (hd:∀D ys H',H D=none->ah H H'->H' D=some (.lst ys)->ys.length=vs.length->(∀j y,ys[j]? = some y->Rel j y H')->Q (.ref D) H'):zq K g tt te src σ (.ref a) H Q:=by
 refine ZR hx (gD H tl Rel) (λD H' n s e=>⟨⟨o0,hsrc⟩,n,s,e,rfl,λj y z=>by simp at z⟩) (λD i ys σ' H' h=>h.same.j3 hx) ?_ λD ys σ' H' ⟨_,n,s,e,hl,r⟩=>hd D ys H' n s e hl r
 rintro D i x ys σ' H' hx' h;obtain⟨⟨o,rfl⟩,_⟩:=id h;exact hs D i x ys o H' hx' h
theorem zzD(h0:0<=n)(h1:n<1000000000)(hsrc:dE src σ = o0::tl)(Rel:Nat->V->Hp->Prop)(hs:∀D (i:Nat) ys o H1,i<n.toNat->gD H tl Rel D i ys (o::tl) H1->gR (gD H tl Rel) g tt te D i (.int (i:Int)) (o::tl) H1)
  (hd:∀D ys H',H D=none->ah H H'->H' D=some (.lst ys)->ys.length=n.toNat->(∀j y,ys[j]? = some y->Rel j y H')->Q (.ref D) H'):BC g tt te src σ [.int n] H Q:=by
 refine NT (by lia) h1 (gD H tl Rel) (λD H' n s e=>⟨⟨o0,hsrc⟩,n,s,e,rfl,λj y z=>by simp at z⟩) ?_ λD ys σ' H' ⟨_,n,s,e,hl,r⟩=>hd D ys H' n s e hl r
 rintro D i ys σ' H' hi h;obtain⟨⟨o,rfl⟩,_⟩:=id h;exact hs D i ys o H' hi h
theorem fJ{xs:List Rat} : ∀(i:Nat)(v:V)(H1 H2:Hp),bK H1 H2->Is K H1 v (N (xs.getD i 0))->Is K H2 v (N (xs.getD i 0)):=λi v H1 H2 k h=>h.fI k
end
theorem jm{H H':Hp}{l:we}(s:ah H H')(h:H' l=none):H l=none:=by
 cases e:H l with
 | none=>rfl
 | some o=>rw[s _ _ e]at h;cases h
def TZ(ns:List Int):wy:=.tuple (ns.map PyData.int)
def LL(rss:List (List Rat)):wy:=.list (rss.map LN)
theorem JZ:∀ns:List Int,cg (ns.map PyData.int)=true
 | []=>by simp[cg]
 | n::ns=>by rw[w8,cg,JZ ns];rfl
theorem zCI(ns:List Int):cW (TZ ns)=true:=by rw[TZ,cW];exact JZ ns
section
variable{K:wa}{H H' H2:Hp}{Q:VK}{v w y:V}{p l:we}{vs:List V}{ns:List Int}{rss:List (List Rat)}{m:Int}{σ : St}
theorem u6:∀{ns:List Int}{vs:List V},au K H vs (ns.map PyData.int) ↔ vs=ns.map V.int
 | [],vs=>by rw[Qu,gZ];rfl
 | n::ns,vs=>by
  rw[w8,fb,w8]
  constructor
  ·rintro ⟨x,r,rfl,h,t⟩
   rw[b_.mp h,u6.mp t]
  ·rintro rfl
   exact⟨_,_,rfl,b_.mpr rfl,u6.mpr rfl⟩
theorem oS:Is K H v (TZ ns) ↔ ∃a,v=.ref a/\aV K H a (ns.map V.int):=by
 unfold TZ;rw[bX]
 constructor
 ·rintro ⟨a,xs,e,h,t⟩
  rw[u6.mp t]at h;exact⟨a,e,h⟩
 ·rintro ⟨a,e,h⟩
  exact⟨a,_,e,h,u6.mpr rfl⟩
theorem EK(h:Is K H v (TZ ns))(q:Q (.int ns.length) H):cR K [v] H Q:=kE h (by rw[wm];exact q)
theorem Q_{i:Nat}(t:au K H vs (rss.map LN))(h:i<rss.length):∃x,vs[i]? = some x/\Is K H x (LN (rss.getD i [])):=by
 refine t.get ?_;rw[wt,wb,wc h]
 rfl
theorem SG(h:Is K H v (LL rss))(h0:0<=m)(h1:m<rss.length)(q:∀x,Is K H x (LN (rss.getD m.toNat []))->Q x H):c_ K v (.int m) H Q:=by
 obtain⟨a,vs,rfl,hs,t⟩:=cE.mp h;obtain⟨n,rfl⟩:∃n:Nat,m=(n:Int):=⟨m.toNat,by lia⟩;obtain⟨x,e,hx⟩:=Q_ (i:=n) t (by lia);exact iH hs (kx e) (q x hx)
theorem DZ{α : Type}{xs:List α}{x : α}(h:xs[xs.length-1]? = some x):gP xs (-1)=some x:=by
 have hl:0<xs.length:=by
  cases xs with
  | nil=>cases h
  | cons _ _=>simp
 unfold gP gM;rw[if_neg (by lia),if_pos (by lia)]
 show xs[((-1:Int)+(xs.length:Int)).toNat]? = some x
 rw[show((-1:Int)+(xs.length:Int)).toNat=xs.length-1 by lia];exact h
theorem zwb(h:Is K H v (LL rss))(h0:0<rss.length)(q:∀x,Is K H x (LN (rss.getD (rss.length-1) []))->Q x H):c_ K v (.int (-1)) H Q:=by
 obtain⟨a,vs,rfl,hs,t⟩:=cE.mp h;have hl:=t.length;rw[wm]at hl;obtain⟨x,e,hx⟩:=Q_ (i:=rss.length-1) t (by lia);rw[<- hl]at e;exact iH hs (DZ e) (q x hx)
theorem JR:∀{rss:List (List Rat)}{vs:List V},vs.length=rss.length->(∀i x,vs[i]? = some x->Is K H x (LN (rss.getD i [])))->au K H vs (rss.map LN)
 | [],vs,hl,_=>by
  have:vs=[]:=WW hl;subst this;exact .nil
 | x::xs,[],hl,_=>by cases hl
 | x::xs,u::vs,hl,h=>by
  rw[w8];exact .cons (h 0 u rfl) (JR (by simpa using hl) λi y e=>h (i+1) y e)
end
def pb(K:wa):R2:=λx y H Q=>Oj K x y H Q \/ ∃a b ys,x=.ref a/\y=.ref b/\aV K H a []/\aV K H b ys/\Q (.ref b) H
theorem D_{X:Cx} : aK X (Wn .Add) (pb X.K):=by
 intro pins s σ H x y v u Q I rx ry h;rcases h with h | ⟨a,b,ys,rfl,rfl,ha,hb,q⟩
 ·exact U2 pins s σ H x y v u Q I rx ry h
 ·cases rx
  cases ry;obtain⟨its,r1,p1,_⟩:=I.tuple ha;cases r1;obtain⟨its2,r2,p2,_⟩:=I.tuple hb;obtain⟨⟨cls,dd,data,sl⟩,ho,hc,n,hd⟩:=id p1;obtain⟨⟨cls2,dd2,data2,sl2⟩,ho2,hc2,n2,hd2⟩:=id p2;simp only at hc hd hc2 hd2;subst hc hd hc2 hd2;exact concat_meets ⟨_,ho,rfl⟩ ⟨_,ho2,rfl⟩ noFill_tuple_add seq_tuple_add qE qy (qg _ _) (tuple_addW0 a b _ its2.toArray n n2 dd dd2 sl sl2 rfl) ⟨ho,ho2,⟨.ref b,H,I,rfl,q⟩⟩
theorem DT{K:wa}{H:Hp}{Q:VK}{v w:V}{ds es:List wy}(h1:Is K H v (.tuple ds))(h2:Is K H w (.tuple es))(z:ds.length+es.length<=1000)(q:∀u H',ah H H'->Is K H' u (.tuple (ds++es))->Q u H'):pb K v w H Q:=by
 obtain⟨a,xs,rfl,ha,ta⟩:=bX.mp h1;obtain⟨b,ys,rfl,hb,tb⟩:=bX.mp h2;have la:=ta.length;have lb:=tb.length;cases xs with
 | nil =>
  obtain rfl:ds=[]:=WW (by simpa using la.symm);exact .inr ⟨a,b,ys,rfl,rfl,ha,hb,q _ H (ah.refl _) h2⟩
 | cons x xs =>
  refine .inl ⟨a,b,x::xs,ys,rfl,rfl,ha,hb,by simp,WQ (iT (by lia)),λhy=>?_,λhy p hp=>?_⟩
  ·obtain rfl:es=[]:=WW (by rw[hy]at lb;simpa using lb.symm)
   exact q _ H (ah.refl _) (by rw[Wd];exact h1)
  ·exact q _ _ (ah.upd hp) (bX.mpr ⟨p,_,rfl,.of cV,(au.same (ah.upd hp) _ _ ta).append (au.same (ah.upd hp) _ _ tb)⟩)
theorem Inv.rn{X:Cx}{pins:List (we × Obj)}{σ : St}{H:Hp}{s:wl}{h':wI}{t':Nat}{ch:List we}(I:Inv X pins σ H s)(k:∀b o,b ∉ ch->s.heap.get? b=some o->h'.get? b=some o)(hf:∀b∈ch,eO X pins H b):Inv X pins σ H {s with heap:=h',toks:=t'}:=by
 have nit:∀b u,H b=some u->b ∉ ch:=λb u e z=>by rw[(hf b z).1]at e;cases e
 refine I.step (g':=s.gens) (d':=s.drawn) (ch:=ch) (λb hb=>⟨(hf b hb).2.2.2.1,(hf b hb).2.1,(hf b hb).2.2.2.2.1,(hf b hb).2.2.2.2.2⟩) (λb o _ _ hc e _=>k b o hc e)
  (λb o _ _ hc e _=>⟨o.slots,k b o hc e⟩) (λ_ _ _ _ n=>n) (λb o hc e=>⟨o,k b o hc e⟩) (λ_ _ e=>e) (λ_ _ _ e=>e) (λb ps e=>⟨#[],by rw[e];simp⟩) (λm hm=>?_) (λb u e=>?_) I.bare
 ·obtain⟨o,es,ep,ho,r⟩:=hm
  exact⟨o,es,ep,k _ o (λz=>(hf _ z).2.1 rfl) ho,r⟩
 ·refine(I.aJ b u e).kb (λc v hc q=>k c v ?_ q) (λ_ q=>q) λ_ _ q=>q
  rcases hc with z | z
  ·rw[z];exact nit b u e
  ·exact nit c _ z
section
variable{prog:wL}{w:wN}{A:ve}{E:wf->wl->Prop}{s:wl}
theorem zs9{it tu:we}{i:Nat}{its:Array wf}{x:wf}{Q:wf->wl->Prop}(ei:s.heap.IsTupleIter it tu i)(et:s.heap.IsTuple tu its)(ex:its[i]? = some x)
  (fin:∀h',h'.IsTupleIter it tu (i+1)->vy it s.heap h'->Q x {s with heap:=h'}):wr (model prog w) A (vA (.ref it)) Q E s:=by
 obtain⟨ob,eo,ec,ed⟩:=id ei;obtain⟨ot,eot,_,nt,edt⟩:=et;unfold vA;refine wg (wpAny_callSpecial?_slot (name:=vL "__next__") ei.typeIs Vi (vW Vi ei.typeIs Qc ?_ (qW _)))
 show wr _ _ (field (.ref it) 0 >>= _) _ _ s;refine wg (vj eo ed (x:=.ref tu) rfl ?_)
 show wr _ _ (if(Value.ref tu == Value.none)=true then _ else _) _ _ s;rw[if_neg (show ¬ ((Value.ref tu == Value.none)=true)from vn)]
 show wr _ _ (field (.ref it) 1 >>= _) _ _ s;refine wg (vj eo ed (x:=.int i 0) rfl ?_)
 show wr _ _ (seqItems? (.ref tu) >>= _) _ _ s;refine wg (Wj eot edt ?_)
 simp only[wP,ex];refine wg (wpAny_setField eo ed (by simp) (wx ⟨x,rfl,wx (fin _ ?_ (xu ..))⟩));exact⟨_,VU _ eo (VZ (VN ed _)),(xZ ..).trans ec,by rw[VN ed];simp[Vp]⟩
theorem N3{it tu:we}{i:Nat}{its:Array wf}{Q:wf->wl->Prop}(hh:A.handled=none)(ei:s.heap.IsTupleIter it tu i)(et:s.heap.IsTuple tu its)(ex:its[i]? = none)
  (fin:∀h' e,Heap.ExtBut it s.heap h'->(∃o,h'.get? e=some o/\o.cls=.type "StopIteration")->E (.ref e) {s with heap:=h'}):wr (model prog w) A (vA (.ref it)) Q E s:=by
 obtain⟨ob,eo,ec,ed⟩:=id ei;obtain⟨ot,eot,_,nt,edt⟩:=et;unfold vA;refine wg (wpAny_callSpecial?_slot (name:=vL "__next__") ei.typeIs Vi (vW Vi ei.typeIs Qc ?_ (qW _)))
 show wr _ _ (field (.ref it) 0 >>= _) _ _ s;refine wg (vj eo ed (x:=.ref tu) rfl ?_)
 show wr _ _ (if(Value.ref tu == Value.none)=true then _ else _) _ _ s;rw[if_neg (show ¬ ((Value.ref tu == Value.none)=true)from vn)]
 show wr _ _ (field (.ref it) 1 >>= _) _ _ s;refine wg (vj eo ed (x:=.int i 0) rfl ?_)
 show wr _ _ (seqItems? (.ref tu) >>= _) _ _ s;refine wg (Wj eot edt ?_)
 simp only[wP,ex];refine wg (wpAny_rule (wg (wpAny_setField eo ed (by simp) ?_)))
 show wr _ _ (newExc (.type "StopIteration") [] >>= _) _ _ _;refine wg ?_;simp only[newExc,newTuple]
 refine wg (Wp ?_ (by size_fits));refine wg (m:=firstArgMember _ _) (wpAny_of_eq (a:=Value.none) (by first | rfl | (simp only[firstArgMember];rfl)) ?_);refine Wp ?_ (by size_fits);simp only[raiseNew];refine wg (wpAny_handled ?_)
 first | rw[hh] | rw[show A.in1.handled=none from hh]
 exact wg (wx (wpAny_throw (fin _ _ (((xu ..).extBut.push _).push _) ⟨_,wM _ rfl,rfl⟩)))
theorem jn(hh:A.handled=none)(it tu:we)(hne:tu≠it)(its:Array wf):Draws prog w A it [it,tu] its.size (λi v=>its[i]? = some v) (λi h=>h.IsTupleIter it tu i/\h.IsTuple tu its) where
 live:=λ_ _ st=>let ⟨o,ho,_⟩:=st.1;⟨o,ho⟩
 frame:=λ_ _ _ st hk=>⟨st.1.at λo e=>hk it (by simp) o e,st.2.at λo e=>hk tu (by simp) o e⟩
 item:=λi s Q E hi st hQ=>zs9 st.1 st.2 (x:=its[i]) (by simp[hi]) λh' hit' hs'=>hQ _ h' s.toks (by simp[hi]) ⟨hit',st.2.extBut hs'.extBut hne⟩ hs'
 done:=λs Q E st hE=>N3 hh st.1 st.2 (by simp) hE
open AutoSeq1 (wpAny_loadPart') in
theorem ztd(tu:we)(its:Array wf)(n:Nat)(dct:Option we)(sl:Array (Option wf)):Meets (Builtin.«enumerate.__new__» ⟨[.type "enumerate",.ref tu],[]⟩) (λ_ R s=>s.heap.get? tu=some {cls:=.type "tuple",dict:=dct,data:=.seq its n,slots:=sl} /\
  R (.ok (.ret (.ref (s.heap.push {cls:=.type "tuple_iterator",data:=.fields #[.ref tu,.int 0 0]}).objs.size))) {s with heap:=(s.heap.push {cls:=.type "tuple_iterator",data:=.fields #[.ref tu,.int 0 0]}).push {cls:=.type "enumerate",data:=.fields #[.none,.bool false,.ref s.heap.objs.size,Vp 0,.none,.none]}}) :=
 .of_wp λprog w A R s h=>by
  obtain⟨hp,g,d,tk,os⟩:=s;obtain⟨et,h⟩:=h;have hsub:=sub_enumerate;have hT:xJ (Xe ⟨hp,g,d,tk,os⟩) tu its:=⟨_,et,rfl,n,rfl⟩
  wp_walk using wpAny_loadPart' et
  refine wpAny_stack_any λst=>wx ?_
  split
  ·rename_i c _ _ _ _ _
   cases (c == Value.type "enumerate")<;>(wp_walk using wpAny_loadPart' et,Va hT;exact⟨_,rfl,h⟩)
  ·wp_walk using wpAny_loadPart' et,Va hT
   exact⟨_,rfl,h⟩
theorem zua{tu:we}{its:Array wf}{Q:wf->wl->Prop}(hT:s.heap.IsTuple tu its)(fin:∀h',IsEnum h' (s.heap.objs.size+1) s.heap.objs.size 0 .none->h'.IsTupleIter s.heap.objs.size tu 0->(∀b o,s.heap.get? b=some o->h'.get? b=some o)->Q (.ref (s.heap.objs.size+1)) {s with heap:=h'}) :
  wr (model prog w) A (call (.type "enumerate") [.ref tu]) Q E s:=by
 obtain⟨⟨c,dct,dt,sl⟩,et,hc,n,hd⟩:=hT;obtain rfl:c=.type "tuple":=hc;obtain rfl:dt=.seq its n:=hd;refine callType_new F.called_enumerate (by decide) (F.typeCall_enumerate_1 _) (F.newCall_enumerate_1 _) (λobj=>F.args_object_init_2 obj _) F.entry_enumerate_new (ztd tu its n dct sl) ⟨et,?_⟩;have hz:(s.heap.push {cls:=.type "tuple_iterator",data:=.fields #[.ref tu,.int 0 0]}).objs.size=s.heap.objs.size+1:=VY ..
 show _/\_
 rw[hz]
 have he:IsEnum ((s.heap.push {cls:=.type "tuple_iterator",data:=.fields #[.ref tu,.int 0 0]}).push {cls:=.type "enumerate",data:=.fields #[.none,.bool false,.ref s.heap.objs.size,Vp 0,.none,.none]}) (s.heap.objs.size+1) s.heap.objs.size 0 .none:=by
  rw[<- hz];exact wM _ rfl
 exact⟨⟨_,he,rfl⟩,fin _ he ⟨_,wn _ (wM _ rfl),rfl,rfl⟩ λb o x=>wn _ (wn _ x)⟩
end
def mF(K:wa)(a:we):It :=
 ⟨λi H=>∃xs x,aV K H a xs/\xs[i]? = some x,λi H y H'=>∃t x,y=.ref t/\H t=none/\(∀xs,aV K H a xs->xs[i]? = some x)/\H'=upd H t (.tup [.int (i:Int),x]),λi H=>∃xs,aV K H a xs/\xs.length<=i⟩
theorem zum{P:wL}{w:wN}{K:wa}{elts:List Expr}{k1}{tpos:Pos}(a e it:we)(hne:e≠it):jr P w K (.Tuple elts k1 tpos) (mF K a) [e,it] e (λi h=>(∃old,IsEnum h e it (i:Int) old)/\h.IsTupleIter it a i) where
 mem:=by simp
 obj:=λi h st b hb=>by
  obtain⟨⟨old,he⟩,o,eo,c,d⟩:=st;rcases wG.mp hb with rfl | hb
  ·exact⟨_,he,λv z=>by cases (show Data.fields _=Data.cell v from z)⟩
  ·rw[wY.mp hb]
   exact⟨o,eo,λv z=>by rw[d]at z;cases z⟩
 keep:=λi h h' st k=>⟨let ⟨old,he⟩:=st.1;⟨old,k e (by simp) _ he⟩,st.2.at λo eo=>k it (by simp) o eo⟩
 item:=by
  intro X hP hw hK hc i pins s σ H E I hf st hg;subst hP hw hK;obtain⟨⟨old,he⟩,st⟩:=st;obtain⟨xs,x,hq,hx⟩:=hg;obtain⟨its,rv,p,hz⟩:=I.tuple hq;obtain⟨u,hu,ru⟩:=rv.get hx;have p':s.heap.IsTuple a its.toArray:=p
  have hai:a≠it:=λz=>by
   subst z;obtain⟨o,e1,c1,_⟩:=st;obtain⟨o',e2,c2,_⟩:=p';rw[e1]at e2;cases e2;rw[c1]at c2;exact absurd c2 (by decide)
  have hae:e≠a:=λz=>by
   subst z;obtain⟨o',e2,c2,_⟩:=p';rw[he]at e2;cases e2;exact absurd (show Value.type "enumerate"=Value.type "tuple" from c2) (by decide)
  have hlt:i<its.toArray.size:=by
   rcases wD i its.length with z | z
   ·simpa using z
   ·rw[wE z]at hu;cases hu
  refine wpAny_pyNext_enum_itemD (jn (A:=X.A.in1) (I.ok.hd hc) it a hai its.toArray) he ⟨st,p'⟩ hlt hne (by simp[hne,hae]) λv h1 tk hv ho hs1 hT hsz hk=>?_
  have hvu:v=u:=by
   have hv':its[i]? = some v:=by simpa using hv
   rw[hu]at hv';exact(wX hv').symm
  subst hvu
  have I1:Inv X pins σ (upd H s.heap.objs.size (.tup [.int (i:Int),x])) {s with heap:=s.heap.push {cls:=.type "tuple",data:=.seq ([.int (i:Int) tk,v]:List wf).toArray},toks:=tk+1} :=
   I.laid (λb o q=>wn _ q) (wo _) (show dM X.prog X.w _ _ _ (.tup [.int (i:Int),x])from⟨nh (by simp),_,.cons ⟨_,rfl⟩ (.cons ru .nil),qJ _ _⟩)
  have lt1:∀b∈[e,it],b<s.heap.objs.size:=λb hb=>by
   rcases wG.mp hb with rfl | hb
   ·exact wA he
   ·rw[wY.mp hb]
    obtain⟨o,eo,_⟩:=st;exact wA eo
  have hf1:∀b∈[e,it],eO X pins (upd H s.heap.objs.size (.tup [.int (i:Int),x])) b:=λb hb=>⟨by rw[ee (wO (lt1 b hb))];exact(hf b hb).1,(hf b hb).2⟩
  refine⟨_,rfl,wpAny_letOwnedTupleGo_enum ho λh2 he2 hs2=>?_⟩;refine⟨.ref s.heap.objs.size,_,Inv.rn (s:={s with heap:=s.heap.push {cls:=.type "tuple",data:=.seq ([.int (i:Int) tk,v]:List wf).toArray},toks:=tk+1}) (ch:=[e,it]) I1 (λb o hb q=>?_) hf1,rfl,⟨_,x,rfl,I.aJ.fresh (wo _),λys hy=>by rw[I.Ai hy hq];exact hx,rfl⟩,⟨⟨_,by simpa using he2⟩,hs1.1.at λo eo=>(hs2.2 it (Wo hne)).trans eo⟩,λb hb=>(hf1 b hb).1⟩;have hbe:b≠e:=λz=>hb (by simp[z])
  have hbi:b≠it:=λz=>hb (by simp[z])
  refine(hs2.2 b hbe).trans ?_
  by_cases hb2:b=s.heap.objs.size
  ·subst hb2
   rw[wM _ rfl]at q;cases q;exact hT
  ·exact hk b o hbe hbi (by rw[Qo _ _ _ hb2]at q;exact q)
 done:=by
  intro X hP hw hK hc i pins s σ H E I hf st hg;subst hP hw hK;obtain⟨⟨old,he⟩,st⟩:=st;obtain⟨xs,hq,hx⟩:=hg;obtain⟨its,rv,p,hz⟩:=I.tuple hq;have p':s.heap.IsTuple a its.toArray:=p
  have hai:a≠it:=λz=>by
   subst z;obtain⟨o,e1,c1,_⟩:=st;obtain⟨o',e2,c2,_⟩:=p';rw[e1]at e2;cases e2;rw[c1]at c2;exact absurd c2 (by decide)
  have hl:=rv.length;have hT:s.TypeIs (.ref e) "enumerate":=⟨_,he,rfl⟩;unfold pyNext;refine wg (Vj (wpAny_callSpecial?_slot (name:=vL "__next__") hT V0 (vW V0 hT Q0 ?_ (QF _))))
  show wr _ _ (field (.ref e) 2 >>= _) _ _ _;refine wg (vj he rfl (x:=.ref it) rfl ?_)
  refine wg (N3 (A:=X.A.in1) (I.ok.hd hc) st p' (by simp;lia) λh' y he' hx'=>?_);obtain⟨o,ho,hcl⟩:=hx';refine wg (W5 (T:="StopIteration") (b:=true) ⟨o,ho,hcl⟩ isSubtype_stop (wx ⟨rfl,?_⟩));obtain⟨f0,f1,f2,f3,f4,f5⟩:=hf it (by simp);exact I.turned (t':=s.toks) (λb o hb e=>he' b o hb e) f0 f1 f3 f4 f5
 self:=λ_ _ _ _ _ st h=>let ⟨_,he⟩:=st.1;wpAny_pyIter_enum he h
def EG(K:wa)(ta:TA):TI:=λσ H R=>ta σ H λvs H1=>∃a,vs=[.ref a]/\(∃xs,aV K H1 a xs)/\R (mF K a) H1
theorem LQ:vH "enumerate"=some (.type "enumerate"):=by decide +kernel
theorem PB{X:Cx}{elts:List Expr}{k1}{tpos p pos:Pos}{l:Expr}{ta:TA}(hg:Gl X "enumerate")(hm:X.mg "enumerate"=none)(ha:PA X [l] ta)(hs:wT [l] X.env=[(false,eval l X.env)]:=by rfl) :
  PI X (.Tuple elts k1 tpos) (.Call (.Name "enumerate" p) [l] [] pos) (EG X.K ta):=by
 intro pins s σ H R I h;refine Call_ (gI I hg hm LQ (vi (aI (ha pos pins s σ H _ I h) λus s1 ⟨vs,H1,I1,r1,q1⟩=>?_) hs rfl));obtain⟨a,rfl,⟨xs,hq⟩,q⟩:=q1;obtain⟨u,rfl,ru⟩:=ib r1;cases ru;obtain⟨its,rv,p,hz⟩:=I1.tuple hq;refine zua (show s1.heap.IsTuple a its.toArray from p) λh' he hit kp=>?_
 refine wpAny_pyIter_enum he ?_;refine⟨s1.heap.objs.size+1,[s1.heap.objs.size+1,s1.heap.objs.size],_,_,H1,rfl,I1.kept (t':=s1.toks) kp,zum a (s1.heap.objs.size+1) s1.heap.objs.size (Xr _),⟨⟨_,he⟩,hit⟩,λb hb=>?_,q⟩
 have hb':s1.heap.objs.size<=b:=by
  rcases wG.mp hb with rfl | hb
  ·lia
  ·rw[wY.mp hb];exact wo _
 exact I1.ju hb' (I1.aJ.fresh hb')
def KZ(K:wa)(g:TG)(tb:TS)(D:ck)(σ : St)(vs:List V)(H1:Hp):Prop:=∃a,vs=[.ref a]/\(∃xs,aV K H1 a xs) /\
 ∃W:Nat->Nat->St->Hp->Prop,(∃m,W 0 m σ H1) /\ ∀i m σ H,W i m σ H ->
  ((mF K a).stop i H/\D.nx σ H)\/((mF K a).go i H /\ ∃M:St->Hp->Prop,(∀σ' H',M σ' H'->∃m',m'<m/\W (i+1) m' σ' H') /\ ∀x H',(mF K a).fB i H x H'->g x σ H' λσ2 H2=>tb {D with nx:=M,ct:=M,bk:=D.nx} σ2 H2)
section
variable{K:wa}{ta:TA}{g:TG}{tb:TS}{D:ck}{σ : St}{H:Hp}{a:we}{xs:List V}
theorem zzl(h:ta σ H λvs H1=>KZ K g tb D σ vs H1):lu (EG K ta) g tb D σ H:=h
theorem zwv(hx:aV K H a xs)(Pv:Nat->St->Hp->Prop)(h0:Pv 0 σ H)(hl:∀i σ H,i<=xs.length->Pv i σ H->aV K H a xs)
  (hs:∀i x σ H t H',xs[i]? = some x->Pv i σ H->H t=none->ah H H'->H' t=some (.tup [.int (i:Int),x])->g (.ref t) σ H' λσ2 H2=>tb {D with nx:=Pv (i+1),ct:=Pv (i+1),bk:=D.nx} σ2 H2) (hd:∀σ H,Pv xs.length σ H->D.nx σ H):KZ K g tb D σ [.ref a] H:=by
 refine⟨a,rfl,⟨xs,hx⟩,λi m σ H=>i+m=xs.length/\Pv i σ H,⟨xs.length,by lia,h0⟩,?_⟩;rintro i m σ H ⟨him,hp⟩;have hq:=hl i σ H (by lia) hp
 by_cases hm:m=0
 ·have e:i=xs.length:=by lia
  subst e;exact .inl ⟨⟨xs,hq,wo _⟩,hd _ _ hp⟩
 ·have hi:i<xs.length:=by lia
  refine .inr ⟨⟨xs,xs[i],hq,by simp[hi]⟩,λσ' H'=>Pv (i+1) σ' H',λσ' H' h=>⟨m-1,by lia,by lia,h⟩,?_⟩;rintro y H' ⟨t,x,rfl,hn,hx',rfl⟩;exact hs i x σ H t _ (hx' xs hq) hp hn (ah.upd hn) cV
end
structure ZA(z TI TO i1 i2:we)(f1 f2:List we):Prop where
 a1:TI≠z
 a2:TO≠z
 a3:i1≠z
 a4:i2≠z
 a5:TI≠TO
 a6:TI≠i1
 a7:TI≠i2
 a8:TO≠i1
 a9:TO≠i2
 b0:i1≠i2
 b1:z ∉ f1
 b2:z ∉ f2
 b3:TO ∉ f1
 b4:TO ∉ f2
 b5:i1 ∉ f2
 b6:i2 ∉ f1
section
variable{prog:wL}{w:wN}{A:ve}{E:wf->wl->Prop}{s:wl}{z TI TO i1 i2:we}{f1 f2:List we}{n1 n2 k:Nat}{P1 P2:Nat->wf->Prop}{S1 S2:Nat->wI->Prop}{a b:wf}
theorem Jx{Q:wf->wl->Prop}(D1:Draws prog w A i1 f1 n1 P1 S1)(D2:Draws prog w A i2 f2 n2 P2 S2)(ap:ZA z TI TO i1 i2 f1 f2)(hz:IsZip s.heap z TI TO .none)(hi:Wk s.heap TI (.ref i1) (.ref i2))(ho:Wk s.heap TO a b)
  (h1:S1 k s.heap) (h2:S2 k s.heap) (l1:k<n1) (l2:k<n2)
  (fin:∀x y h' tk,P1 k x->P2 k y->IsZip h' z TI TO (Vp s.heap.objs.size)->Wk h' TO x y->S1 (k+1) h'->S2 (k+1) h'->Wk h' s.heap.objs.size x y ->
   (∀c o,c≠z->c≠TO->c≠i1->c≠i2->s.heap.get? c=some o->h'.get? c=some o)->Q (.ref s.heap.objs.size) {s with heap:=h',toks:=tk}) :
  wr (model prog w) A (Builtin.«zip.__next__» ⟨[.ref z],[]⟩) (λr s'=>∃v,r=.done (.ret v)/\Q v s') E s:=by
 show wr _ _ (field (.ref z) 2 >>= _) _ _ _;refine wg (vj hz rfl (x:=.bool false) rfl ?_)
 show wr _ _ (field (.ref z) 3 >>= _) _ _ _;refine wg (vj hz rfl (x:=.ref TI) rfl ?_)
 refine wg (Wj hi rfl ?_);show wr _ _ (vx (.ref z) >>= _) _ _ _
 refine wg ?_;unfold vx;refine wg (vj hz rfl (x:=.none) rfl (wx ?_));simp only[if_true];refine wg (wpAny_rule ?_);refine wg (vj hz rfl (x:=.ref TO) rfl ?_);refine wg (WO hz (by simp) λg1 zz1 sb1=>?_);have zz1:IsZip g1 z TI TO .ellipsis:=zz1;refine wg ?_;simp only[Xs,XI,qc,qX];refine wg (wg (wpAny_onRaise ?_));show wr _ _ (vA (.ref i1) >>= _) _ _ _
 have h1a:S1 k g1:=D1.frame _ _ _ h1 λc hc o e=>sb1.extBut c o (λq=>ap.b1 (q ▸ hc)) e
 have h2a:S2 k g1:=D2.frame _ _ _ h2 λc hc o e=>sb1.extBut c o (λq=>ap.b2 (q ▸ hc)) e
 refine wg (D1.item k _ _ _ l1 h1a λx g2 t2 px h1b sb2=>wx ?_);have ho2:Wk g2 TO a b:=sb2.extBut _ _ ap.a8 (sb1.extBut _ _ ap.a2 ho);have h2b:S2 k g2:=D2.frame _ _ _ h2a λc hc o e=>sb2.extBut c o (λq=>ap.b5 (q ▸ hc)) e
 refine wg (Wj ho2 rfl ?_);refine wg (wpAny_updateSeq_pair ho2 λg3 ho3 sb3=>?_);have ho3:Wk g3 TO x b:=ho3;have sb3:vy TO g2 g3:=sb3;have h1c:S1 (k+1) g3:=D1.frame _ _ _ h1b λc hc o e=>sb3.extBut c o (λq=>ap.b3 (q ▸ hc)) e
 have h2c:S2 k g3:=D2.frame _ _ _ h2b λc hc o e=>sb3.extBut c o (λq=>ap.b4 (q ▸ hc)) e
 refine wg (wpAny_letGo (wx ?_));refine wg (wg (wpAny_onRaise ?_))
 show wr _ _ (vA (.ref i2) >>= _) _ _ _;refine wg (D2.item k _ _ _ l2 h2c λy g4 t4 py h2d sb4=>wx ?_)
 have sb4:vy i2 g3 g4:=sb4;have ho4:Wk g4 TO x b:=sb4.extBut _ _ ap.a9 ho3;have h1d:S1 (k+1) g4:=D1.frame _ _ _ h1c λc hc o e=>sb4.extBut c o (λq=>ap.b6 (q ▸ hc)) e
 refine wg (Wj ho4 rfl ?_);refine wg (wpAny_updateSeq_pair ho4 λg5 ho5 sb5=>?_);have ho5:Wk g5 TO x y:=ho5;have sb5:vy TO g4 g5:=sb5;have h1e:S1 (k+1) g5:=D1.frame _ _ _ h1d λc hc o e=>sb5.extBut c o (λq=>ap.b3 (q ▸ hc)) e
 have h2e:S2 (k+1) g5:=D2.frame _ _ _ h2d λc hc o e=>sb5.extBut c o (λq=>ap.b4 (q ▸ hc)) e
 refine wg (wpAny_letGo (wx (wx ?_)));refine wg (Wj ho5 rfl ?_);refine wg (wpAny_newTuple ?_);have sb2:vy i1 g1 g2:=sb2;have sb1:vy z s.heap g1:=sb1;have hsz:g5.objs.size=s.heap.objs.size:=by rw[sb5.1,sb4.1,sb3.1,sb2.1,sb1.1]
 have zz5:IsZip g5 z TI TO .ellipsis:=sb5.extBut _ _ ap.a2.symm (sb4.extBut _ _ ap.a4.symm (sb3.extBut _ _ ap.a2.symm (sb2.extBut _ _ ap.a3.symm zz1)));have kept:∀c o,c≠z->c≠TO->c≠i1->c≠i2->s.heap.get? c=some o->g5.get? c=some o:=λc o c1 c2 c3 c4 e=>sb5.extBut _ _ c2 (sb4.extBut _ _ c4 (sb3.extBut _ _ c2 (sb2.extBut _ _ c3 (sb1.extBut _ _ c1 e))))
 have zlt:z<g5.objs.size:=wA zz5
 show wr _ _ (qo (.ref z) (.ref g5.objs.size) >>= _) _ _ _;refine wg ?_;unfold qo
 have zz6:IsZip (g5.push {cls:=.type "tuple",data:=.seq #[x,y]}) z TI TO .ellipsis:=wn _ zz5;refine wg (WO zz6 (by simp) λg7 zz7 sb7=>?_);have zz7:IsZip g7 z TI TO (Vp g5.objs.size):=zz7;refine WO zz7 (by simp) λg8 zz8 sb8=>?_
 have zz8:IsZip g8 z TI TO (Vp g5.objs.size):=zz8;have sb7:vy z (g5.push {cls:=.type "tuple",data:=.seq #[x,y]}) g7:=sb7;have sb8:vy z g7 g8:=sb8;have up:∀c o,c≠z->g5.get? c=some o->g8.get? c=some o:=λc o c1 e=>sb8.extBut _ _ c1 (sb7.extBut _ _ c1 (wn _ e))
 have new8:Wk g8 g5.objs.size x y:=sb8.extBut _ _ (vf zlt) (sb7.extBut _ _ (vf zlt) (wM _ rfl));rw[hsz]at zz8 new8;refine wx ⟨_,rfl,?_⟩
 show Q (.ref g5.objs.size) _
 rw[hsz];exact fin x y g8 _ px py zz8 (up _ _ ap.a2 ho5) (D1.frame _ _ _ h1e λc hc o e=>up c o (λq=>ap.b1 (q ▸ hc)) e) (D2.frame _ _ _ h2e λc hc o e=>up c o (λq=>ap.b2 (q ▸ hc)) e) new8 λc o c1 c2 c3 c4 e=>up c o c1 (kept c o c1 c2 c3 c4 e)
theorem JA{Q:Fin->wl->Prop}(D1:Draws prog w A i1 f1 n1 P1 S1)(D2:Draws prog w A i2 f2 n2 P2 S2)(ap:ZA z TI TO i1 i2 f1 f2)(hz:IsZip s.heap z TI TO .none)(hi:Wk s.heap TI (.ref i1) (.ref i2))(ho:Wk s.heap TO a b)
  (h1:S1 k s.heap) (h2:S2 k s.heap) (hk:k=n1\/(k<n1/\k=n2))
  (fin:∀h' e tk,(∀c o,c≠z->c≠TO->c≠i1->c≠i2->s.heap.get? c=some o->h'.get? c=some o)->(∃o,h'.get? e=some o/\o.cls=.type "StopIteration")->E (.ref e) {s with heap:=h',toks:=tk}) :
  wr (model prog w) A (Builtin.«zip.__next__» ⟨[.ref z],[]⟩) Q E s:=by
 show wr _ _ (field (.ref z) 2 >>= _) _ _ _;refine wg (vj hz rfl (x:=.bool false) rfl ?_)
 show wr _ _ (field (.ref z) 3 >>= _) _ _ _;refine wg (vj hz rfl (x:=.ref TI) rfl ?_)
 refine wg (Wj hi rfl ?_);show wr _ _ (vx (.ref z) >>= _) _ _ _
 refine wg ?_;unfold vx;refine wg (vj hz rfl (x:=.none) rfl (wx ?_));simp only[if_true];refine wg (wpAny_rule ?_);refine wg (vj hz rfl (x:=.ref TO) rfl ?_);refine wg (WO hz (by simp) λg1 zz1 sb1=>?_);have zz1:IsZip g1 z TI TO .ellipsis:=zz1;have sb1:vy z s.heap g1:=sb1;refine wg ?_;simp only[Xs,XI,qc,qX];refine wg (wg (wpAny_onRaise ?_));show wr _ _ (vA (.ref i1) >>= _) _ _ _
 have h1a:S1 k g1:=D1.frame _ _ _ h1 λc hc o e=>sb1.extBut c o (λq=>ap.b1 (q ▸ hc)) e
 have h2a:S2 k g1:=D2.frame _ _ _ h2 λc hc o e=>sb1.extBut c o (λq=>ap.b2 (q ▸ hc)) e
 rcases hk with rfl | ⟨l1,rfl⟩
 ·refine wg (D1.done _ _ _ h1a λg2 e sb2 he=>?_)
  obtain⟨oe,hoe,hce⟩:=he;have zz2:IsZip g2 z TI TO .ellipsis:=sb2 _ _ ap.a3.symm zz1;have hez:e≠z:=λq=>by subst q;rw[zz2]at hoe;cases hoe;simp at hce
  exact WO zz2 (by simp) λg3 _ sb3=>fin g3 e _ (λc o c1 _ c3 _ q=>sb3.extBut _ _ c1 (sb2 _ _ c3 (sb1.extBut _ _ c1 q))) ⟨oe,sb3.extBut _ _ hez hoe,hce⟩
 ·refine wg (D1.item k _ _ _ l1 h1a λx g2 t2 px h1b sb2=>wx ?_)
  have sb2:vy i1 g1 g2:=sb2;have ho2:Wk g2 TO a b:=sb2.extBut _ _ ap.a8 (sb1.extBut _ _ ap.a2 ho);have h2b:S2 k g2:=D2.frame _ _ _ h2a λc hc o e=>sb2.extBut c o (λq=>ap.b5 (q ▸ hc)) e
  refine wg (Wj ho2 rfl ?_);refine wg (wpAny_updateSeq_pair ho2 λg3 ho3 sb3=>?_);have sb3:vy TO g2 g3:=sb3;have h2c:S2 k g3:=D2.frame _ _ _ h2b λc hc o e=>sb3.extBut c o (λq=>ap.b4 (q ▸ hc)) e
  refine wg (wpAny_letGo (wx ?_));refine wg (wg (wpAny_onRaise ?_))
  show wr _ _ (vA (.ref i2) >>= _) _ _ _;refine wg (D2.done _ _ _ h2c λg4 e sb4 he=>?_)
  obtain⟨oe,hoe,hce⟩:=he;have zz4:IsZip g4 z TI TO .ellipsis:=sb4 _ _ ap.a4.symm (sb3.extBut _ _ ap.a2.symm (sb2.extBut _ _ ap.a3.symm zz1));have hez:e≠z:=λq=>by subst q;rw[zz4]at hoe;cases hoe;simp at hce
  exact WO zz4 (by simp) λg5 _ sb5=>fin g5 e _ (λc o c1 c2 c3 c4 q=>sb5.extBut _ _ c1 (sb4 _ _ c4 (sb3.extBut _ _ c2 (sb2.extBut _ _ c3 (sb1.extBut _ _ c1 q))))) ⟨oe,sb5.extBut _ _ hez hoe,hce⟩
end
def cU(t:Bool)(K:wa)(H:Hp)(a:we)(xs:List V):Prop:=match t with
 | true=>aV K H a xs
 | false=>aR K H a xs
def iY(t:Bool)(h:wI)(it a:we)(i:Nat):Prop:=match t with
 | true=>h.IsTupleIter it a i
 | false=>h.IsListIter it a i
def R7(t:Bool)(h:wI)(a:we)(its:Array wf):Prop:=match t with
 | true=>h.IsTuple a its
 | false=>h.IsList a its
theorem nT{prog:wL}{w:wN}{A:ve}(t:Bool)(hh:A.handled=none)(it a:we)(hne:a≠it)(its:Array wf):Draws prog w A it [it,a] its.size (λi v=>its[i]? = some v) (λi h=>iY t h it a i/\R7 t h a its):=by
 cases t
 ·exact Draws.list hh it a hne its
 ·exact jn hh it a hne its
theorem Inv.iP{X:Cx}{pins:List (we × Obj)}{σ : L2.St}{H:Hp}{s:wl}{t:Bool}{a:we}{xs:List V}(I:Inv X pins σ H s)(h:cU t X.K H a xs):∃its:List wf,aT xs its/\R7 t s.heap a its.toArray:=by
 cases t
 ·obtain⟨its,r,p,_⟩:=I.list h
  exact⟨its,r,p.isList⟩
 ·obtain⟨its,r,p,_⟩:=I.tuple h
  exact⟨its,r,p⟩
theorem Inv.Iv{X:Cx}{pins:List (we × Obj)}{σ : L2.St}{H:Hp}{s:wl}{t:Bool}{a:we}{xs ys:List V}(I:Inv X pins σ H s)(h:cU t X.K H a xs)(k:cU t X.K H a ys):xs=ys:=by
 cases t
 ·exact I.Am h k
 ·exact I.Ai h k
theorem iY.obj{t:Bool}{h:wI}{it a:we}{i:Nat}(st:iY t h it a i):∃o,h.get? it=some o /\ ∀v,o.data≠.cell v:=by
 cases t
 ·obtain⟨o,e,_,d⟩:=st
  exact⟨o,e,λv z=>by rw[d]at z;cases z⟩
 ·obtain⟨o,e,_,d⟩:=st
  exact⟨o,e,λv z=>by rw[d]at z;cases z⟩
theorem iY.at{t:Bool}{h h':wI}{it a:we}{i:Nat}(st:iY t h it a i)(k:∀o,h.get? it=some o->h'.get? it=some o):iY t h' it a i:=by
 cases t
 ·exact Heap.IsListIter.at st k
 ·exact Heap.IsTupleIter.at st k
def lS(t u:Bool)(K:wa)(a b:we):It :=
 ⟨λi H=>∃xs x ys y,cU t K H a xs/\xs[i]? = some x/\cU u K H b ys/\ys[i]? = some y,
  λi H v H'=>∃(c:we)(x y:V),v=.ref c/\H c=none/\(∀xs,cU t K H a xs->xs[i]? = some x)/\(∀ys,cU u K H b ys->ys[i]? = some y)/\H'=upd H c (.tup [x,y]),
  λi H=>∃xs ys,cU t K H a xs/\cU u K H b ys/\(xs.length=i\/(i<xs.length/\ys.length=i))⟩
theorem ZF{P:wL}{w:wN}{K:wa}{elts:List Expr}{k1}{tpos:Pos}{t u:Bool}(a b z TI TO i1 i2:we)(ap:ZA z TI TO i1 i2 [i1,a] [i2,b])(na:a≠i1)(nb:b≠i2) :
  jr P w K (.Tuple elts k1 tpos) (lS t u K a b) [z,TI,TO,i1,i2] z (λi h=>IsZip h z TI TO .none/\Wk h TI (.ref i1) (.ref i2)/\(∃p q,Wk h TO p q)/\iY t h i1 a i/\iY u h i2 b i) where
 mem:=by simp
 obj:=λi h st c hc=>by
  obtain⟨hz,hi,⟨p,q,ho⟩,s1,s2⟩:=st;simp only[wG,Wv,or_false]at hc;rcases hc with rfl | rfl | rfl | rfl | rfl
  ·exact⟨_,hz,λv z=>by cases (show Data.fields _=Data.cell v from z)⟩
  ·exact⟨_,hi,λv z=>by cases (show Data.seq _ _=Data.cell v from z)⟩
  ·exact⟨_,ho,λv z=>by cases (show Data.seq _ _=Data.cell v from z)⟩
  ·exact s1.obj
  ·exact s2.obj
 keep:=λi h h' st k=>by
  obtain⟨hz,hi,⟨p,q,ho⟩,s1,s2⟩:=st;exact⟨k z (by simp) _ hz,k TI (by simp) _ hi,⟨p,q,k TO (by simp) _ ho⟩,s1.at λo e=>k i1 (by simp) o e,s2.at λo e=>k i2 (by simp) o e⟩
 item:=by
  intro X hP hw hK hc i pins s σ H E I hf st hg;subst hP hw hK;obtain⟨hz,hi,⟨p,q,ho⟩,s1,s2⟩:=st;obtain⟨xs,x,ys,y,hq1,hx,hq2,hy⟩:=hg;obtain⟨its,r1,p1⟩:=I.iP hq1;obtain⟨jts,r2,p2⟩:=I.iP hq2;obtain⟨ux,hux,rux⟩:=r1.get hx;obtain⟨uy,huy,ruy⟩:=r2.get hy
  have lt1:i<its.toArray.size:=by
   rcases wD i its.length with q | q
   ·simpa using q
   ·rw[wE q]at hux;cases hux
  have lt2:i<jts.toArray.size:=by
   rcases wD i jts.length with q | q
   ·simpa using q
   ·rw[wE q]at huy;cases huy
  have hT:s.TypeIs (.ref z) "zip":=⟨_,hz,rfl⟩;unfold pyNext
  refine wg (Vj (wpAny_callSpecial?_slot (name:=vL "__next__") hT We (vW We hT VD
   (Jx (nT (A:=X.A.in1) t (I.ok.hd hc) i1 a na its.toArray) (nT (A:=X.A.in1) u (I.ok.hd hc) i2 b nb jts.toArray) ap hz hi ho ⟨s1,p1⟩ ⟨s2,p2⟩ lt1 lt2 λv1 v2 h1 tk e1 e2 hz1 ho1 st1 st2 hT1 hk=>wx ?_) (Vo _))))
  have ev1:v1=ux:=by
   have e1':its[i]? = some v1:=by simpa using e1
   rw[hux]at e1';exact(wX e1').symm
  have ev2:v2=uy:=by
   have e2':jts[i]? = some v2:=by simpa using e2
   rw[huy]at e2';exact(wX e2').symm
  subst ev1 ev2
  have I1:Inv X pins σ (upd H s.heap.objs.size (.tup [x,y])) {s with heap:=s.heap.push {cls:=.type "tuple",data:=.seq ([v1,v2]:List wf).toArray},toks:=tk} :=
   I.laid (λc o q=>wn _ q) (wo _) (show dM X.prog X.w _ _ _ (.tup [x,y])from⟨nh (by simp),_,.cons rux (.cons ruy .nil),qJ _ _⟩)
  have ltf:∀c∈[z,TI,TO,i1,i2],c<s.heap.objs.size:=λc hc=>by
   simp only[wG,Wv,or_false]at hc;rcases hc with rfl | rfl | rfl | rfl | rfl
   ·exact wA hz
   ·exact wA hi
   ·exact wA ho
   ·obtain⟨o,e,_⟩:=s1.obj;exact wA e
   ·obtain⟨o,e,_⟩:=s2.obj;exact wA e
  have hf1:∀c∈[z,TI,TO,i1,i2],eO X pins (upd H s.heap.objs.size (.tup [x,y])) c:=λc hc=>⟨by rw[ee (wO (ltf c hc))];exact(hf c hc).1,(hf c hc).2⟩
  refine⟨_,rfl,wpAny_letOwnedTupleGo_zip hz1 λh2 hz2 hs2=>?_⟩;have hs2:vy z h1 h2:=hs2
  refine⟨.ref s.heap.objs.size,_,Inv.rn (s:={s with heap:=s.heap.push {cls:=.type "tuple",data:=.seq ([v1,v2]:List wf).toArray},toks:=tk}) (ch:=[z,TI,TO,i1,i2]) I1 (λc o hc q=>?_) hf1,rfl,
   ⟨_,x,y,rfl,I.aJ.fresh (wo _),λzs hzs=>by rw[I.Iv hzs hq1];exact hx,λzs hzs=>by rw[I.Iv hzs hq2];exact hy,rfl⟩,
   ⟨hz2,hs2.extBut _ _ ap.a1 (hk _ _ ap.a1 ap.a5 ap.a6 ap.a7 hi),⟨_,_,hs2.extBut _ _ ap.a2 ho1⟩,st1.1.at λo e=>hs2.extBut _ _ ap.a3 e,st2.1.at λo e=>hs2.extBut _ _ ap.a4 e⟩,λc hc=>(hf1 c hc).1⟩
  have c1:c≠z:=λq=>hc (by simp[q])
  have c2:c≠TO:=λq=>hc (by simp[q])
  have c3:c≠i1:=λq=>hc (by simp[q])
  have c4:c≠i2:=λq=>hc (by simp[q])
  refine hs2.extBut _ _ c1 ?_
  by_cases hcs:c=s.heap.objs.size
  ·subst hcs
   rw[wM _ rfl]at q;cases q;exact hT1
  ·exact hk c o c1 c2 c3 c4 (by rw[Qo _ _ _ hcs]at q;exact q)
 done:=by
  intro X hP hw hK hc i pins s σ H E I hf st hg;subst hP hw hK;obtain⟨hz,hi,⟨p,q,ho⟩,s1,s2⟩:=st;obtain⟨xs,ys,hq1,hq2,hend⟩:=hg;obtain⟨its,r1,p1⟩:=I.iP hq1;obtain⟨jts,r2,p2⟩:=I.iP hq2;have e1:=r1.length;have e2:=r2.length;have hT:s.TypeIs (.ref z) "zip":=⟨_,hz,rfl⟩;unfold pyNext
  refine wg (Vj (wpAny_callSpecial?_slot (name:=vL "__next__") hT We (vW We hT VD
   (JA (k:=i) (nT (A:=X.A.in1) t (I.ok.hd hc) i1 a na its.toArray) (nT (A:=X.A.in1) u (I.ok.hd hc) i2 b nb jts.toArray) ap hz hi ho ⟨s1,p1⟩ ⟨s2,p2⟩ (by simp only[wH];lia) λh' y tk hk hx'=>?_) (Vo _))))
  obtain⟨o,ho',hcl⟩:=hx';refine wg (W5 (T:="StopIteration") (b:=true) ⟨o,ho',hcl⟩ isSubtype_stop (wx ⟨rfl,?_⟩));exact Inv.rn (ch:=[z,TI,TO,i1,i2]) I (λc o hc e=>hk c o (λq=>hc (by simp[q])) (λq=>hc (by simp[q])) (λq=>hc (by simp[q])) (λq=>hc (by simp[q])) e) hf
 self:=λ_ _ _ _ _ st h=>wpAny_pyIter_zip st.1 h
abbrev yj(h:wI)(a:we):wI:=h.push {cls:=.type "tuple_iterator",data:=.fields #[.ref a,.int 0 0]}
abbrev sf(h:wI)(a b:we):wI:=(yj h a).push {cls:=.type "tuple_iterator",data:=.fields #[.ref b,.int 0 0]}
abbrev y9(h:wI)(a b:we):wI:=(sf h a b).push {cls:=.type "tuple",data:=.seq #[.ref h.objs.size,.ref (yj h a).objs.size]}
abbrev uO(h:wI)(a b:we):wI:=(y9 h a b).push {cls:=.type "tuple",data:=.seq #[.none,.none]}
abbrev nG(h:wI)(a b:we):wI:=(uO h a b).push {cls:=.type "zip",data:=.fields #[.none,.bool false,.bool false,.ref (sf h a b).objs.size,.ref (y9 h a b).objs.size]}
theorem zuk(a b:we)(xs ys:Array wf):Meets (Builtin.«zip.__new__» ⟨[.type "zip",.ref a,.ref b],[]⟩) (λ_ R s=>s.heap.IsTuple a xs/\s.heap.IsTuple b ys/\R (.ok (.ret (.ref (uO s.heap a b).objs.size))) {s with heap:=nG s.heap a b}) :=
 .of_wp λprog w A R s h=>by
  obtain⟨hp,g,d,tk,os⟩:=s;obtain⟨ha,hb,h⟩:=h;have hsub:=sub_zip;have hA:xJ (Xe ⟨hp,g,d,tk,os⟩) a xs:=ha;have hB:xJ (Xe ⟨hp.push {cls:=.type "tuple_iterator",data:=.fields #[.ref a,.int 0 0]},g,d,tk,os⟩) b ys:=hb.at λo e=>wn _ e
  wp_walk using Va hA,Va hB
  exact⟨_,rfl,h⟩
section
variable{prog:wL}{w:wN}{A:ve}{E:wf->wl->Prop}{s:wl}
theorem M0{a b:we}{xs ys:Array wf}{Q:wf->wl->Prop}(ha:s.heap.IsTuple a xs)(hb:s.heap.IsTuple b ys)
  (fin:∀h',IsZip h' (s.heap.objs.size+4) (s.heap.objs.size+2) (s.heap.objs.size+3) .none->Wk h' (s.heap.objs.size+2) (.ref s.heap.objs.size) (.ref (s.heap.objs.size+1))->Wk h' (s.heap.objs.size+3) .none .none ->
   h'.IsTupleIter s.heap.objs.size a 0->h'.IsTupleIter (s.heap.objs.size+1) b 0->(∀c o,s.heap.get? c=some o->h'.get? c=some o)->Q (.ref (s.heap.objs.size+4)) {s with heap:=h'}):wr (model prog w) A (call (.type "zip") [.ref a,.ref b]) Q E s:=by
 refine callType_new F.called_zip (by decide) (F.typeCall_zip_2 _ _) (F.newCall_zip_2 _ _) (λobj=>F.args_object_init_3 obj _ _) F.entry_zip_new (zuk a b xs ys) ⟨ha,hb,?_⟩;have z1:(yj s.heap a).objs.size=s.heap.objs.size+1:=VY ..;have z2:(sf s.heap a b).objs.size=s.heap.objs.size+2:=by rw[VY,z1]
 have z3:(y9 s.heap a b).objs.size=s.heap.objs.size+3:=by rw[VY,z2]
 have z4:(uO s.heap a b).objs.size=s.heap.objs.size+4:=by rw[VY,z3]
 have g5:(nG s.heap a b).get? (uO s.heap a b).objs.size=some _:=wM _ rfl;have g4:(nG s.heap a b).get? (y9 s.heap a b).objs.size=some _:=wn _ (wM _ rfl);have g3:(nG s.heap a b).get? (sf s.heap a b).objs.size=some _:=wn _ (wn _ (wM _ rfl));have g2:(nG s.heap a b).get? (yj s.heap a).objs.size=some _:=wn _ (wn _ (wn _ (wM _ rfl)));have g1:(nG s.heap a b).get? s.heap.objs.size=some _:=wn _ (wn _ (wn _ (wn _ (wM _ rfl))))
 show _/\_
 rw[z2,z3,z4]at g5;rw[z1,z2]at g3;rw[z3]at g4;rw[z1]at g2;rw[z4];exact⟨⟨_,g5,rfl⟩,fin _ g5 g3 g4 ⟨_,g1,rfl,rfl⟩ ⟨_,g2,rfl,rfl⟩ λc o x=>wn _ (wn _ (wn _ (wn _ (wn _ x))))⟩
end
def uM(t u:Bool)(K:wa)(ta:TA):TI:=λσ H R=>ta σ H λvs H1=>∃a b,vs=[.ref a,.ref b]/\(∃xs,cU t K H1 a xs)/\(∃ys,cU u K H1 b ys)/\R (lS t u K a b) H1
theorem AN:vH "zip"=some (.type "zip"):=by decide +kernel
theorem mh{x a b:we}(h:x≠a)(k:x≠b):x ∉ [a,b]:=by simp[h,k]
theorem M5{n a b:Nat}(la:a<n)(lb:b<n):ZA (n+4) (n+2) (n+3) n (n+1) [n,a] [n+1,b] where
 a1:=wO (by lia)
 a2:=wO (by lia)
 a3:=wO (by lia)
 a4:=wO (by lia)
 a5:=wO (by lia)
 a6:=vf (by lia)
 a7:=vf (by lia)
 a8:=vf (by lia)
 a9:=vf (by lia)
 b0:=wO (by lia)
 b1:=mh (vf (by lia)) (vf (by lia))
 b2:=mh (vf (by lia)) (vf (by lia))
 b3:=mh (vf (by lia)) (vf (by lia))
 b4:=mh (vf (by lia)) (vf (by lia))
 b5:=mh (wO (by lia)) (vf (by lia))
 b6:=mh (vf (by lia)) (vf (by lia))
theorem JL{X:Cx}{elts:List Expr}{k1}{tpos:Pos}{pins:List (we × Obj)}{σ : L2.St}{H:Hp}{s:wl}{R:It->Hp->Prop}{h':wI}{E:wf->wl->Prop}{t u:Bool}{a b:we}(I:Inv X pins σ H s)(la:a<s.heap.objs.size)(lb:b<s.heap.objs.size)
  (hz:IsZip h' (s.heap.objs.size+4) (s.heap.objs.size+2) (s.heap.objs.size+3) .none) (hi:Wk h' (s.heap.objs.size+2) (.ref s.heap.objs.size) (.ref (s.heap.objs.size+1))) (ho:Wk h' (s.heap.objs.size+3) .none .none)
  (s1:iY t h' s.heap.objs.size a 0) (s2:iY u h' (s.heap.objs.size+1) b 0) (kp:∀c o,s.heap.get? c=some o->h'.get? c=some o) (q:R (lS t u X.K a b) H):wr (model X.prog X.w) X.A (pyIter (.ref (s.heap.objs.size+4))) (Dd X pins σ (.Tuple elts k1 tpos) R) E {s with heap:=h'}:=by
 refine wpAny_pyIter_zip hz ?_;refine⟨s.heap.objs.size+4,[s.heap.objs.size+4,s.heap.objs.size+2,s.heap.objs.size+3,s.heap.objs.size,s.heap.objs.size+1],_,_,H,rfl,I.kept (t':=s.toks) kp,ZF a b _ (s.heap.objs.size+2) (s.heap.objs.size+3) s.heap.objs.size (s.heap.objs.size+1) (M5 la lb) (wO la) (wO (qC lb)),⟨hz,hi,⟨_,_,ho⟩,s1,s2⟩,λc hc=>?_,q⟩
 ·have hb':s.heap.objs.size<=c:=by
   simp only[wG,Wv,or_false]at hc;rcases hc with rfl | rfl | rfl | rfl | rfl
   ·exact W3 _ 4
   ·exact W3 _ 2
   ·exact W3 _ 3
   ·exact wo _
   ·exact W3 _ 1
  exact I.ju hb' (I.aJ.fresh hb')
theorem zAH{X:Cx}{elts:List Expr}{k1}{tpos p pos:Pos}{l m:Expr}{ta:TA}(hg:Gl X "zip")(hm:X.mg "zip"=none)(ha:PA X [l,m] ta)(hs:wT [l,m] X.env=[(false,eval l X.env),(false,eval m X.env)]:=by rfl)(hs2:wT [m] X.env=[(false,eval m X.env)]:=by rfl) :
  PI X (.Tuple elts k1 tpos) (.Call (.Name "zip" p) [l,m] [] pos) (uM true true X.K ta):=by
 intro pins s σ H R I h;refine Call_ (gI I hg hm AN (vi (aI (ha pos pins s σ H _ I h) λus s1 ⟨vs,H1,I1,r1,q1⟩=>?_) (by rw[hs,hs2]) (by rw[hs2];rfl)));obtain⟨a,b,rfl,⟨xs,hq1⟩,⟨ys,hq2⟩,q⟩:=q1;obtain⟨u,v,rfl,ru,rv⟩:=kQ r1;cases ru;cases rv;obtain⟨its,_,p1⟩:=I1.iP hq1;obtain⟨jts,_,p2⟩:=I1.iP hq2;have la:a<s1.heap.objs.size:=by obtain⟨o,e,_⟩:=(show s1.heap.IsTuple a its.toArray from p1);exact wA e
 have lb:b<s1.heap.objs.size:=by obtain⟨o,e,_⟩:=(show s1.heap.IsTuple b jts.toArray from p2);exact wA e
 exact M0 p1 p2 λh' hz hi ho t1 t2 kp=>JL (t:=true) (u:=true) I1 la lb hz hi ho t1 t2 kp q
theorem MU{X:Cx}{elts:List Expr}{k1}{tpos p pos:Pos}{l m:Expr}{ta:TA}(hg:Gl X "zip")(hm:X.mg "zip"=none)(ha:PA X [l,m] ta)(hs:wT [l,m] X.env=[(false,eval l X.env),(false,eval m X.env)]:=by rfl)(hs2:wT [m] X.env=[(false,eval m X.env)]:=by rfl) :
  PI X (.Tuple elts k1 tpos) (.Call (.Name "zip" p) [l,m] [] pos) (uM false false X.K ta):=by
 intro pins s σ H R I h;refine Call_ (gI I hg hm AN (vi (aI (ha pos pins s σ H _ I h) λus s1 ⟨vs,H1,I1,r1,q1⟩=>?_) (by rw[hs,hs2]) (by rw[hs2];rfl)));obtain⟨a,b,rfl,⟨xs,hq1⟩,⟨ys,hq2⟩,q⟩:=q1;obtain⟨u,v,rfl,ru,rv⟩:=kQ r1;cases ru;cases rv;obtain⟨its,_,p1⟩:=I1.iP hq1;obtain⟨jts,_,p2⟩:=I1.iP hq2;have la:a<s1.heap.objs.size:=by obtain⟨o,e,_⟩:=(show s1.heap.IsList a its.toArray from p1);exact wA e
 have lb:b<s1.heap.objs.size:=by obtain⟨o,e,_⟩:=(show s1.heap.IsList b jts.toArray from p2);exact wA e
 exact call_zip_2 p1 p2 λh' hz hi ho t1 t2 _ kp=>JL (t:=false) (u:=false) I1 la lb hz hi ho t1 t2 kp q
theorem cU.same{t:Bool}{K:wa}{H H':Hp}{a:we}{xs:List V}(s:ah H H')(h:cU t K H a xs):cU t K H' a xs:=by
 cases t
 ·exact s.seq h
 ·exact s.j3 h
def KO(t u:Bool)(K:wa)(g:TG)(tb:TS)(D:ck)(σ : L2.St)(vs:List V)(H1:Hp):Prop:=∃a b,vs=[.ref a,.ref b]/\(∃xs,cU t K H1 a xs)/\(∃ys,cU u K H1 b ys) /\
 ∃W:Nat->Nat->L2.St->Hp->Prop,(∃m,W 0 m σ H1) /\ ∀i m σ H,W i m σ H ->
  ((lS t u K a b).stop i H/\D.nx σ H)\/((lS t u K a b).go i H /\ ∃M:L2.St->Hp->Prop,(∀σ' H',M σ' H'->∃m',m'<m/\W (i+1) m' σ' H') /\ ∀x H',(lS t u K a b).fB i H x H'->g x σ H' λσ2 H2=>tb {D with nx:=M,ct:=M,bk:=D.nx} σ2 H2)
def Az(t u:Bool)(K:wa)(g:TG)(tt:TT)(te:TE)(src:List (Option Nat))(σ : L2.St)(vs:List V)(H1:Hp)(Q:VK):Prop:=∃a b,vs=[.ref a,.ref b]/\(∃xs,cU t K H1 a xs)/\(∃ys,cU u K H1 b ys) /\
 ∀D,H1 D=none->jy g tt te (lS t u K a b) D (dE src σ) (upd H1 D (.lst [])) (λH'=>Q (.ref D) H')
section
variable{t u:Bool}{K:wa}{ta:TA}{g:TG}{tb:TS}{tt:TT}{te:TE}{D:ck}{σ : L2.St}{H:Hp}{Q:VK}{a b:we}{xs ys:List V}{src:List (Option Nat)}{o0 o0':Option V}{tl:L2.St}
theorem zzd(h:ta σ H λvs H1=>KO t u K g tb D σ vs H1):lu (uM t u K ta) g tb D σ H:=h
theorem Zx(h:ta σ H λvs H1=>Az t u K g tt te src σ vs H1 Q):jE src (uM t u K ta) g tt te σ H Q:=h
def gn(H:Hp)(tl:L2.St)(Rel:Nat->V->Hp->Prop)(D:we)(i:Nat)(zs:List V)(σ':L2.St)(H':Hp):Prop :=
 (∃o1 o2,σ'=o1::o2::tl)/\H D=none/\ah H H'/\H' D=some (.lst zs)/\zs.length=i /\ ∀j y,zs[j]? = some y->Rel j y H'
theorem rQ{Rel:Nat->V->Hp->Prop}{D:we}{i:Nat}{zs:List V}{σ' σ3:L2.St}{H1 H5:Hp}{y:V}(inv:gn H tl Rel D i zs σ' H1)(hi:i<=1000)(hk:∀i v H1 H2,bK H1 H2->Rel i v H1->Rel i v H2)(hσ : ∃o1 o2,σ3=o1::o2::tl)(s:ah H1 H5)(r:Rel i y H5):pA (gn H tl Rel) D i σ3 y H5:=by
 obtain⟨_,hn,s1,hD,hl,hr⟩:=inv;have hD5:=s _ _ hD;refine lI hD5 (by lia) λH6 E6 e6=>⟨hσ,hn,(s1.trans s).grow hn E6,e6,by simp[hl],λj z hz=>?_⟩
 have k6:bK H5 H6:=E6.keep hD5;rcases wD j zs.length with hj | hj
 ·rw[vY hj]at hz
  exact hk _ _ _ _ (s.keep.trans k6) (hr j z hz)
 ·have hj':j=zs.length:=by
   rcases wD zs.length j with q | q
   ·rw[wE (by simp;lia)]at hz;cases hz
   ·lia
  subst hj';rw[vg (wo _),Vz]at hz;cases hz;rw[hl];exact hk _ _ _ _ k6 r
theorem Z7(hx:cU t K H a xs)(hy:cU u K H b ys)(hxy:xs.length=ys.length)(hsrc:dE src σ = o0::o0'::tl)(Rel:Nat->V->Hp->Prop)(hk:∀i v H1 H2,bK H1 H2->Rel i v H1->Rel i v H2)
  (hs:∀D i x y zs o1 o2 H1 c,xs[i]? = some x->ys[i]? = some y->gn H tl Rel D i zs (o1::o2::tl) H1->H1 c=some (.tup [x,y])->gR (gn H tl Rel) g tt te D i (.ref c) (o1::o2::tl) H1)
  (hd:∀D zs H',H D=none->ah H H'->H' D=some (.lst zs)->zs.length=xs.length->(∀j y,zs[j]? = some y->Rel j y H')->Q (.ref D) H'):Az t u K g tt te src σ [.ref a,.ref b] H Q:=by
 refine⟨a,b,rfl,⟨xs,hx⟩,⟨ys,hy⟩,λD hD=>⟨λi m σ' H'=>i+m=xs.length /\ ∃zs,gn H tl Rel D i zs σ' H',⟨xs.length,by lia,[],⟨o0,o0',hsrc⟩,hD,ah.upd hD,cV,rfl,λj y z=>by simp at z⟩,?_⟩⟩;rintro i m σ' H' ⟨him,zs,inv⟩;have hq1:=cU.same inv.2.2.1 hx;have hq2:=cU.same inv.2.2.1 hy
 by_cases hm:m=0
 ·have e:i=xs.length:=by lia
  subst e;obtain⟨_,n,s,e,hl,r⟩:=inv;exact .inl ⟨⟨xs,ys,hq1,hq2,.inl rfl⟩,hd D zs H' n s e hl r⟩
 ·have hi:i<xs.length:=by lia
  have hj:i<ys.length:=by lia
  refine .inr ⟨⟨xs,xs[i],ys,ys[i],hq1,by simp[hi],hq2,by simp[hj]⟩,λσ2 H2=>∃zs,gn H tl Rel D (i+1) zs σ2 H2,λσ2 H2 h=>⟨m-1,by lia,by lia,h⟩,?_⟩;rintro v H2 ⟨c,x,y,rfl,hn,hx',hy',rfl⟩;obtain⟨⟨o1,o2,rfl⟩,n,s,e,hl,r⟩:=inv;have su:=ah.upd (o:=.tup [x,y]) hn;exact hs D i x y zs o1 o2 _ c (hx' xs hq1) (hy' ys hq2) ⟨⟨o1,o2,rfl⟩,n,s.trans su,su _ _ e,hl,λj y hy=>hk _ _ _ _ su.keep (r j y hy)⟩ cV
end
def Ej(K:wa):List V->Hp->VK->Prop:=λxs H Q=>∃(p:we)(ns:List Int),xs=[.ref p]/\aV K H p (ns.map V.int)/\Q (.int ns.sum) H
theorem J8:vH "sum"=some (.builtin "sum"):=by decide +kernel
open PyProof.V PySem.Calls in
theorem Y3{X:Cx}(hc:X.calm=true):aP X (.builtin "sum") (Ej X.K):=by
 intro pins s σ H xs us Q I r h;obtain⟨p,ns,rfl,hq,q⟩:=h;obtain⟨u,rfl,rx⟩:=ib r;cases rx;obtain⟨its,r',pl,hz⟩:=I.tuple hq;have hI:=Di r';have hT:s.heap.IsTuple p its.toArray:=pl;obtain⟨zs,hx⟩:=hI.allInts.items;have hn:numsOf its.toArray.toList=ns:=by rw[show its.toArray.toList=its from rfl,hI.numsOf]
 rw[hx]at hT hn;rw[nums_intItems]at hn;refine PySem.W.ktm_sumG (I.ok.hd hc) hT λh' tk t' hk=>?_
 rw[preSum_eq,W8 (by simp),hn];exact⟨.int ns.sum,H,I.kept (t':=tk) hk,⟨_,rfl⟩,q⟩
theorem zx1{K:wa}{H:Hp}{Q:VK}{v:V}{ns:List Int}(h:Is K H v (TZ ns))(q:Q (.int ns.sum) H):Ej K [v] H Q:=by
 obtain⟨a,rfl,hs⟩:=oS.mp h;exact⟨a,ns,rfl,hs,q⟩
theorem zxv{α : Type}(xs:List α)(k:Nat)(h:k<=xs.length):cutD xs (some (k:Int)) none=xs.drop k:=by
 unfold cutD;rw[HT.Tx,HT.TJ,Nat.min_eq_left h];exact W8 (by rw[vU];lia)
def kz(K:wa):List V->Hp->VK->Prop:=λxs H Q=>∃(p:we)(bs:List Bool),xs=[.ref p]/\aR K H p (bs.map V.bl)/\Q (.bl (bs.all id)) H
theorem mR:vH "all"=some (.builtin "all"):=by decide +kernel
theorem Mb{bs:List Bool} : ∀{us:List wf},aT (bs.map V.bl) us->us=bs.map Value.bool:=by
 induction bs with
 | nil=>intro us r;rw[Qu]at r;cases r;rfl
 | cons b bs ih =>
  intro us r;rw[w8]at r;cases r with
  | cons r1 r2 =>
   cases r1;rw[w8,ih r2]
theorem Y6(bs:List Bool):((wq bs.length).all λi=>(bs[i]?).getD true)=bs.all id:=by
 rw[vC,Wt,Wt]
 constructor
 ·intro h b hb
  obtain⟨i,hi,rfl⟩:=w9 hb;have:=h i (wF.mpr hi);rw[wc hi]at this;exact this
 ·intro h i hi
  rw[wF]at hi;rw[wc hi];exact h _ (vO hi)
open PyProof.V PySem.Calls in
theorem mO{X:Cx}(hc:X.calm=true):aP X (.builtin "all") (kz X.K):=by
 intro pins s σ H xs us Q I r h;obtain⟨p,bs,rfl,hq,q⟩:=h;obtain⟨u,rfl,rx⟩:=ib r;cases rx;obtain⟨its,r',pl,hz⟩:=I.list hq;have hi:its=bs.map Value.bool:=Mb r';have hl:s.heap.IsList p its.toArray:=pl.isList;have hlt:p<s.heap.objs.size:=by obtain⟨_,e,_⟩:=hl;exact wA e
 refine call_all_walk (VT hl ?_)
 refine⟨s.heap.objs.size,[s.heap.objs.size,p],[s.heap.objs.size],its.toArray.size,_,_,λi=>(bs[i]?).getD true,rfl,XJ (A:=X.A.in1) (I.ok.hd hc) _ p (wO hlt) its.toArray,
  ⟨⟨_,wM _ rfl,rfl,rfl⟩,hl.push _⟩,λi v s' Q' E' hP hQ=>?_,λh' tk hk=>?_⟩
 ·have hP:its.toArray[i]? = some v:=hP
  rw[hi]at hP;simp only[Q7,wt,W6]at hP;obtain⟨b,e,rfl⟩:=hP;simp only[e,Qx]at hQ;exact vX hQ
 ·have e:((wq its.toArray.size).all λi=>(bs[i]?).getD true)=bs.all id:=by
   rw[wH,hi,wm];exact Y6 bs
  rw[e];exact⟨.bl (bs.all id),H,I.kept (t':=tk) (λb x e=>hk b x (λhm=>by rw[wY.mp hm]at e;exact WS _ (wA e)) (wn _ e)),rfl,q⟩
theorem lA{K:wa}{H:Hp}{Q:VK}{p:we}{bs:List Bool}(h:aR K H p (bs.map V.bl))(q:Q (.bl (bs.all id)) H):kz K [.ref p] H Q:=⟨p,bs,rfl,h,q⟩
section
variable{t u:Bool}{K:wa}{g:TG}{tt:TT}{te:TE}{σ : L2.St}{H:Hp}{Q:VK}{a b:we}{xs ys:List V}{src:List (Option Nat)}{o0 o0':Option V}{tl:L2.St}
theorem zxW(hx:cU t K H a xs)(hy:cU u K H b ys)(hxy:ys.length<xs.length)(hsrc:dE src σ = o0::o0'::tl)(Rel:Nat->V->Hp->Prop)(hk:∀i v H1 H2,bK H1 H2->Rel i v H1->Rel i v H2)
  (hs:∀D i x y zs o1 o2 H1 c,xs[i]? = some x->ys[i]? = some y->gn H tl Rel D i zs (o1::o2::tl) H1->H1 c=some (.tup [x,y])->gR (gn H tl Rel) g tt te D i (.ref c) (o1::o2::tl) H1)
  (hd:∀D zs H',H D=none->ah H H'->H' D=some (.lst zs)->zs.length=ys.length->(∀j y,zs[j]? = some y->Rel j y H')->Q (.ref D) H'):Az t u K g tt te src σ [.ref a,.ref b] H Q:=by
 refine⟨a,b,rfl,⟨xs,hx⟩,⟨ys,hy⟩,λD hD=>⟨λi m σ' H'=>i+m=ys.length /\ ∃zs,gn H tl Rel D i zs σ' H',⟨ys.length,by lia,[],⟨o0,o0',hsrc⟩,hD,ah.upd hD,cV,rfl,λj y z=>by simp at z⟩,?_⟩⟩;rintro i m σ' H' ⟨him,zs,inv⟩;have hq1:=cU.same inv.2.2.1 hx;have hq2:=cU.same inv.2.2.1 hy
 by_cases hm:m=0
 ·have e:i=ys.length:=by lia
  subst e;obtain⟨_,n,s,e,hl,r⟩:=inv;exact .inl ⟨⟨xs,ys,hq1,hq2,.inr ⟨hxy,rfl⟩⟩,hd D zs H' n s e hl r⟩
 ·have hi:i<xs.length:=by lia
  have hj:i<ys.length:=by lia
  refine .inr ⟨⟨xs,xs[i],ys,ys[i],hq1,by simp[hi],hq2,by simp[hj]⟩,λσ2 H2=>∃zs,gn H tl Rel D (i+1) zs σ2 H2,λσ2 H2 h=>⟨m-1,by lia,by lia,h⟩,?_⟩;rintro v H2 ⟨c,x,y,rfl,hn,hx',hy',rfl⟩;obtain⟨⟨o1,o2,rfl⟩,n,s,e,hl,r⟩:=inv;have su:=ah.upd (o:=.tup [x,y]) hn;exact hs D i x y zs o1 o2 _ c (hx' xs hq1) (hy' ys hq2) ⟨⟨o1,o2,rfl⟩,n,s.trans su,su _ _ e,hl,λj y hy=>hk _ _ _ _ su.keep (r j y hy)⟩ cV
end
def M6(g:TG)(tb:TS)(D:ck)(σ : L2.St)(vs:List V)(H1:Hp):Prop:=∃i j:Int,vs=[.int i,.int j]/\(-(2^62)<=i/\i<2^62 /\ -(2^62)<=j/\j<2^62) /\
 ∃W:Nat->Nat->L2.St->Hp->Prop,(∃m,W 0 m σ H1) /\ ∀k m σ H,W k m σ H ->
  ((gu i (j-i).toNat).stop k H/\D.nx σ H)\/((gu i (j-i).toNat).go k H /\ ∃M:L2.St->Hp->Prop,(∀σ' H',M σ' H'->∃m',m'<m/\W (k+1) m' σ' H') /\ ∀x H',(gu i (j-i).toNat).fB k H x H'->g x σ H' λσ2 H2=>tb {D with nx:=M,ct:=M,bk:=D.nx} σ2 H2)
theorem Zn{ta:TA}{g:TG}{tb:TS}{D:ck}{σ : L2.St}{H:Hp}(h:ta σ H λvs H1=>M6 g tb D σ vs H1):lu (O1 ta) g tb D σ H:=h
theorem zus{g:TG}{tb:TS}{D:ck}{σ : L2.St}{H:Hp}{lo hi:Int}(h0 : -1000000000<=lo)(h1:lo<1000000000)(h2 : -1000000000<=hi)(h3:hi<1000000000)(Pv:Nat->L2.St->Hp->Prop)(p:Pv 0 σ H)
  (hs:∀(i:Nat) σ H,i<(hi-lo).toNat->Pv i σ H->g (.int (lo+(i:Int))) σ H λσ2 H2=>tb {D with nx:=Pv (i+1),ct:=Pv (i+1),bk:=D.nx} σ2 H2)
  (hd:∀σ H,Pv (hi-lo).toNat σ H->D.nx σ H):M6 g tb D σ [.int lo,.int hi] H :=
 ⟨lo,hi,rfl,⟨by lia,by lia,by lia,by lia⟩,Ou (lo:=lo) Pv p hs hd⟩
def Cy(K:wa):List V->Hp->VK->Prop:=λxs H Q=>∃x tp S T d b,xs=[x,.ref tp]/\aV K H tp [.ty S,.ty T]/\Is K H x d/\XY K (.type (kindOf d)) [.type S,.type T]=some b/\Q (.bl b) H
theorem zuz{X:Cx} : aP X (.builtin "isinstance") (Cy X.K):=by
 intro pins s σ H xs us Q I r h;obtain⟨x,tp,S,T,d,b,rfl,ht,hd,e,q⟩:=h;obtain⟨u,w',rfl,rx,rt⟩:=kQ r;cases (show w'=Value.ref tp from rt);obtain⟨tts,rv,⟨ot,ht1,ht2,n,ht3⟩,_⟩:=I.tuple ht;obtain⟨t1,t2,rfl,r1,r2⟩:=kQ rv;cases (show t1=Value.type S from r1);cases (show t2=Value.type T from r2);obtain⟨c,dd,da,sl⟩:=ot;cases ht2;cases ht3;have fin:∀tk,EP X pins σ Q (.bool b) {s with toks:=tk}:=λtk=>⟨.bl b,H,I.tok _,rfl,q⟩
 cases d with
 | none =>
  cases iI.mp hd;cases (show u=Value.none from rx);exact Ve xV I.dF True.intro ht1 e (λz=>nomatch z) fin
 | bool y =>
  cases jX.mp hd;cases (show u=Value.bool y from rx);exact Ve xW I.dF True.intro ht1 e (λz=>nomatch z) fin
 | int i =>
  cases b_.mp hd;obtain⟨t,q⟩:=(show ∃t,u=Value.int i t from rx);cases q;exact Ve Xo I.dF True.intro ht1 e (λz=>nomatch z) fin
 | str y =>
  cases eZ.mp hd;obtain⟨t,q⟩:=(show ∃t,u=Value.str y t from rx);cases q;exact Ve Xp I.dF True.intro ht1 e (λz=>nomatch z) fin
 | tuple ds =>
  obtain⟨a,xs,e1,hq,_⟩:=bX.mp hd;subst e1;cases (show u=Value.ref a from rx);obtain⟨its,_,⟨o,h1,h2,_⟩,_⟩:=I.tuple hq;exact Ve xG I.dF ⟨o,h1,h2⟩ ht1 e (λz=>nomatch z) fin
 | list ds =>
  obtain⟨a,xs,e1,hq,_⟩:=cE.mp hd;subst e1;cases (show u=Value.ref a from rx);obtain⟨its,_,⟨o,n,h1,h2,_⟩,_⟩:=I.list hq;exact Ve xX I.dF ⟨o,h1,h2⟩ ht1 e (λz=>nomatch z) fin
 | dict kv =>
  obtain⟨a,kvs,e1,hq⟩:=sG.mp hd;subst e1;cases (show u=Value.ref a from rx);obtain⟨_,_,vs,_,o,es,ep,h1,h2,_⟩:=(show dM X.prog X.w H s.heap a (.dK kvs)from I.aJ a _ hq);exact Ve xY I.dF ⟨o,h1,h2.1⟩ ht1 e (λz=>nomatch z) fin
theorem ZI{K:wa}(d:wy):XY K (.type (kindOf d)) [.type "list",.type "tuple"]=some (ko d || iO d):=by cases d<;>rfl
theorem BV{K:wa}{H:Hp}{Q:VK}{v:V}{tp:we}{d:wy}(h:Is K H v d)(t:H tp=some (.tup [.ty "list",.ty "tuple"]))(q:Q (.bl (ko d || iO d)) H):Cy K [v,.ref tp] H Q :=
 ⟨v,tp,"list","tuple",d,_,rfl,.of t,h,ZI d,q⟩
section
variable{X:Cx}{tg:Expr}
def Cf(K:wa)(tl:TE):TI:=λσ H R=>tl σ H λx H1=>(∃a,x=.ref a/\(∃xs,aR K H1 a xs)/\R (iV K a) H1)\/(∃a,x=.ref a/\(∃xs,aV K H1 a xs)/\R (jo K a) H1)
theorem N0{l:Expr}{tl:TE}(hl:PE X l tl):PI X tg l (Cf X.K tl):=by
 intro pins s σ H R I h;refine aI (hl pins s σ H _ I h) λv s1 ⟨x,H1,I1,r1,q1⟩=>?_
 rcases q1 with⟨a,e,⟨xs,hq⟩,q⟩ | ⟨a,e,⟨xs,hq⟩,q⟩
 ·subst e
  cases r1;obtain⟨its,rv,p,hz⟩:=I1.list hq;refine VT p.isList ?_;refine⟨s1.heap.objs.size,[s1.heap.objs.size],_,_,H1,rfl,I1.kept (t':=s1.toks) λb o e=>wn _ e,Rv a _,⟨_,wM _ rfl,rfl,rfl⟩,λb hb=>?_,q⟩;have e:b=s1.heap.objs.size:=by simpa using hb
  subst e;exact I1.ju (wo _) (I1.aJ.fresh (wo _))
 ·subst e
  cases r1;obtain⟨its,rv,p,hz⟩:=I1.tuple hq;refine Va (show s1.heap.IsTuple a its.toArray from p) ?_;refine⟨s1.heap.objs.size,[s1.heap.objs.size],_,_,H1,rfl,I1.kept (t':=s1.toks) λb o e=>wn _ e,JV a _,⟨_,wM _ rfl,rfl,rfl⟩,λb hb=>?_,q⟩;have e:b=s1.heap.objs.size:=by simpa using hb
  subst e;exact I1.ju (wo _) (I1.aJ.fresh (wo _))
end
section
variable{K:wa}{g:TG}{tt:TT}{te ta tb' tc:TE}{tb:TS}{D:ck}{src:List (Option Nat)}{σ : St}{H:Hp}{Q:VK}{r r':R2}
theorem zyN(h:ta σ H λx H1=>zy K g tt te src σ x H1 Q\/zq K g tt te src σ x H1 Q):jE src (Cf K ta) g tt te σ H Q:=h
theorem zzC(h:te σ H λx H1=>Dr K g tb D σ x H1\/Su K g tb D σ x H1):lu (Cf K te) g tb D σ H:=h
theorem Ul(h:ta σ H λx H1=>tb' σ H1 λy H2=>r x y H2 λz H3=>∃k,z=.bl k/\(if k=true then tc σ H3 λw' H4=>r' y w' H4 Q else Q (.bl false) H3)):EN r r' ta tb' tc σ H Q:=h
theorem zBU{b:Bool}{P:Bool->Prop}(h:P b):∃k,V.bl b=.bl k/\P k:=⟨b,rfl,h⟩
end
def aW(a b:Rat)(xs:List Rat):wy:=.tuple [R a b,TN xs]
theorem zAu(a b:Rat)(xs:List Rat):cW (aW a b xs)=true:=by rw[aW,cW,cg,cg,cg,Er,rK];rfl
theorem zCZ{x y:Rat}(h:N x=N y):x=y:=by
 have h':PyData.tuple [.int x.num,.int (x.den:Int)]=PyData.tuple [.int y.num,.int (y.den:Int)]:=h
 injection h' with h1
 injection h1 with h2 h3
 injection h2 with h4
 injection h3 with h5 _
 injection h5 with h6
 exact Rat.ext h4 (by lia)
theorem jZ{K:wa}{H:Hp}{us:List V}{ds:List wy}{i:Nat}{x:V}(t:au K H us ds)(h:us[i]? = some x):i<ds.length/\Is K H x (ds.getD i .none):=by
 have hl:=t.length
 have hi:i<ds.length:=by
  rcases wD i ds.length with z | z
  ·exact z
  ·rw[wE (by lia)]at h;cases h
 obtain⟨y,e,k⟩:=t.get (i:=i) (d:=ds.getD i .none) (by rw[wb,wc hi];rfl);rw[e]at h;cases h;exact⟨hi,k⟩
def Ek:List V->Hp->VK->Prop:=λxs H Q=>∃i j,xs=[.int i,.int j]/\Q (.int (if j<i then j else i)) H
theorem zvY{X:Cx}(hc:X.calm=true):aP X (.builtin "min") Ek:=Yz hc
theorem Zs:vH "min"=some (.builtin "min"):=by decide +kernel
theorem zAQ{i j:Int}{H:Hp}{Q:VK}(q:∀m:Int,m<=i->m<=j->(m=i\/m=j)->Q (.int m) H):Ek [.int i,.int j] H Q:=⟨i,j,rfl,by
 split
 ·exact q j (by lia) (by lia) (.inr rfl)
 ·exact q i (by lia) (by lia) (.inl rfl)⟩
def EJ(K:wa)(a:we):It :=
 ⟨λi H=>∃xs x,aR K H a xs/\xs[i]? = some x,λi H y H'=>∃t x,y=.ref t/\H t=none/\(∀xs,aR K H a xs->xs[i]? = some x)/\H'=upd H t (.tup [.int (i:Int),x]),λi H=>∃xs,aR K H a xs/\xs.length<=i⟩
theorem zty{P:wL}{w:wN}{K:wa}{elts:List Expr}{k1}{tpos:Pos}(a e it:we)(hne:e≠it):jr P w K (.Tuple elts k1 tpos) (EJ K a) [e,it] e (λi h=>(∃old,IsEnum h e it (i:Int) old)/\h.IsListIter it a i) where
 mem:=by simp
 obj:=λi h st b hb=>by
  obtain⟨⟨old,he⟩,o,eo,c,d⟩:=st;rcases wG.mp hb with rfl | hb
  ·exact⟨_,he,λv z=>by cases (show Data.fields _=Data.cell v from z)⟩
  ·rw[wY.mp hb]
   exact⟨o,eo,λv z=>by rw[d]at z;cases z⟩
 keep:=λi h h' st k=>⟨let ⟨old,he⟩:=st.1;⟨old,k e (by simp) _ he⟩,st.2.at λo eo=>k it (by simp) o eo⟩
 item:=by
  intro X hP hw hK hc i pins s σ H E I hf st hg;subst hP hw hK;obtain⟨⟨old,he⟩,st⟩:=st;obtain⟨xs,x,hq,hx⟩:=hg;obtain⟨its,rv,p,hz⟩:=I.list hq;obtain⟨u,hu,ru⟩:=rv.get hx;have p':s.heap.IsList a its.toArray:=p.isList
  have hai:a≠it:=λz=>by
   subst z;obtain⟨o,e1,c1,_⟩:=st;obtain⟨o',e2,c2,_⟩:=p';rw[e1]at e2;cases e2;rw[c1]at c2;exact absurd c2 (by decide)
  have hae:e≠a:=λz=>by
   subst z;obtain⟨o',e2,c2,_⟩:=p';rw[he]at e2;cases e2;exact absurd (show Value.type "enumerate"=Value.type "list" from c2) (by decide)
  have hlt:i<its.toArray.size:=by
   rcases wD i its.length with z | z
   ·simpa using z
   ·rw[wE z]at hu;cases hu
  refine wpAny_pyNext_enum_itemD (Draws.list (A:=X.A.in1) (I.ok.hd hc) it a hai its.toArray) he ⟨st,p'⟩ hlt hne (by simp[hne,hae]) λv h1 tk hv ho hs1 hT hsz hk=>?_
  have hvu:v=u:=by
   have hv':its[i]? = some v:=by simpa using hv
   rw[hu]at hv';exact(wX hv').symm
  subst hvu
  have I1:Inv X pins σ (upd H s.heap.objs.size (.tup [.int (i:Int),x])) {s with heap:=s.heap.push {cls:=.type "tuple",data:=.seq ([.int (i:Int) tk,v]:List wf).toArray},toks:=tk+1} :=
   I.laid (λb o q=>wn _ q) (wo _) (show dM X.prog X.w _ _ _ (.tup [.int (i:Int),x])from⟨nh (by simp),_,.cons ⟨_,rfl⟩ (.cons ru .nil),qJ _ _⟩)
  have lt1:∀b∈[e,it],b<s.heap.objs.size:=λb hb=>by
   rcases wG.mp hb with rfl | hb
   ·exact wA he
   ·rw[wY.mp hb]
    obtain⟨o,eo,_⟩:=st;exact wA eo
  have hf1:∀b∈[e,it],eO X pins (upd H s.heap.objs.size (.tup [.int (i:Int),x])) b:=λb hb=>⟨by rw[ee (wO (lt1 b hb))];exact(hf b hb).1,(hf b hb).2⟩
  refine⟨_,rfl,wpAny_letOwnedTupleGo_enum ho λh2 he2 hs2=>?_⟩;refine⟨.ref s.heap.objs.size,_,Inv.rn (s:={s with heap:=s.heap.push {cls:=.type "tuple",data:=.seq ([.int (i:Int) tk,v]:List wf).toArray},toks:=tk+1}) (ch:=[e,it]) I1 (λb o hb q=>?_) hf1,rfl,⟨_,x,rfl,I.aJ.fresh (wo _),λys hy=>by rw[I.Am hy hq];exact hx,rfl⟩,⟨⟨_,by simpa using he2⟩,hs1.1.at λo eo=>(hs2.2 it (Wo hne)).trans eo⟩,λb hb=>(hf1 b hb).1⟩;have hbe:b≠e:=λz=>hb (by simp[z])
  have hbi:b≠it:=λz=>hb (by simp[z])
  refine(hs2.2 b hbe).trans ?_
  by_cases hb2:b=s.heap.objs.size
  ·subst hb2
   rw[wM _ rfl]at q;cases q;exact hT
  ·exact hk b o hbe hbi (by rw[Qo _ _ _ hb2]at q;exact q)
 done:=by
  intro X hP hw hK hc i pins s σ H E I hf st hg;subst hP hw hK;obtain⟨⟨old,he⟩,st⟩:=st;obtain⟨xs,hq,hx⟩:=hg;obtain⟨its,rv,p,hz⟩:=I.list hq;have p':s.heap.IsList a its.toArray:=p.isList;have hl:=rv.length;have hT:s.TypeIs (.ref e) "enumerate":=⟨_,he,rfl⟩;unfold pyNext;refine wg (Vj (wpAny_callSpecial?_slot (name:=vL "__next__") hT V0 (vW V0 hT Q0 ?_ (QF _))))
  show wr _ _ (field (.ref e) 2 >>= _) _ _ _;refine wg (vj he rfl (x:=.ref it) rfl ?_)
  refine wg (wpAny_nextOf_list_end (A:=X.A.in1) (I.ok.hd hc) st p' (by simp;lia) λh' y he' hx'=>?_);obtain⟨o,ho,hcl⟩:=hx';refine wg (W5 (T:="StopIteration") (b:=true) ⟨o,ho,hcl⟩ isSubtype_stop (wx ⟨rfl,?_⟩));obtain⟨f0,f1,f2,f3,f4,f5⟩:=hf it (by simp);exact I.turned (t':=s.toks) (λb o hb e=>he' b o hb e) f0 f1 f3 f4 f5
 self:=λ_ _ _ _ _ st h=>let ⟨_,he⟩:=st.1;wpAny_pyIter_enum he h
def MG(K:wa)(ta:TA):TI:=λσ H R=>ta σ H λvs H1=>∃a,vs=[.ref a]/\(∃xs,aR K H1 a xs)/\R (EJ K a) H1
theorem zxl{X:Cx}{elts:List Expr}{k1}{tpos p pos:Pos}{l:Expr}{ta:TA}(hg:Gl X "enumerate")(hm:X.mg "enumerate"=none)(ha:PA X [l] ta)(hs:wT [l] X.env=[(false,eval l X.env)]:=by rfl) :
  PI X (.Tuple elts k1 tpos) (.Call (.Name "enumerate" p) [l] [] pos) (MG X.K ta):=by
 intro pins s σ H R I h;refine Call_ (gI I hg hm LQ (vi (aI (ha pos pins s σ H _ I h) λus s1 ⟨vs,H1,I1,r1,q1⟩=>?_) hs rfl));obtain⟨a,rfl,⟨xs,hq⟩,q⟩:=q1;obtain⟨u,rfl,ru⟩:=ib r1;cases ru;obtain⟨its,rv,p,hz⟩:=I1.list hq;refine call_enumerate_list p.isList λh' he hit _ kp=>?_
 refine wpAny_pyIter_enum he ?_;refine⟨s1.heap.objs.size+1,[s1.heap.objs.size+1,s1.heap.objs.size],_,_,H1,rfl,I1.kept (t':=s1.toks) kp,zty a (s1.heap.objs.size+1) s1.heap.objs.size (Xr _),⟨⟨_,he⟩,hit⟩,λb hb=>?_,q⟩
 have hb':s1.heap.objs.size<=b:=by
  rcases wG.mp hb with rfl | hb
  ·lia
  ·rw[wY.mp hb];exact wo _
 exact I1.ju hb' (I1.aJ.fresh hb')
def RN(K:wa)(g:TG)(tt:TT)(te:TE)(src:List (Option Nat))(σ : St)(vs:List V)(H1:Hp)(Q:VK):Prop:=∃a,vs=[.ref a]/\(∃xs,aR K H1 a xs) /\
 ∀D,H1 D=none->jy g tt te (EJ K a) D (dE src σ) (upd H1 D (.lst [])) (λH'=>Q (.ref D) H')
section
variable{K:wa}{ta:TA}{g:TG}{tb:TS}{tt c:TT}{te:TE}{D:ck}{σ : St}{H:Hp}{Q:VK}{a:we}{xs:List V}{src:List (Option Nat)}{o0 o0':Option V}{tl:St}
theorem zwP(h:ta σ H λvs H1=>RN K g tt te src σ vs H1 Q):jE src (MG K ta) g tt te σ H Q:=h
theorem zyq(hx:aR K H a xs)(hsrc:dE src σ = o0::o0'::tl)(Rel:Nat->V->Hp->Prop)(hk:∀i v H1 H2,bK H1 H2->Rel i v H1->Rel i v H2)
  (hs:∀D i x zs o1 o2 H1 c,xs[i]? = some x->gn H tl Rel D i zs (o1::o2::tl) H1->H1 c=some (.tup [.int (i:Int),x])->gR (gn H tl Rel) g tt te D i (.ref c) (o1::o2::tl) H1)
  (hd:∀D zs H',H D=none->ah H H'->H' D=some (.lst zs)->zs.length=xs.length->(∀j y,zs[j]? = some y->Rel j y H')->Q (.ref D) H'):RN K g tt te src σ [.ref a] H Q:=by
 refine⟨a,rfl,⟨xs,hx⟩,λD hD=>⟨λi m σ' H'=>i+m=xs.length /\ ∃zs,gn H tl Rel D i zs σ' H',⟨xs.length,by lia,[],⟨o0,o0',hsrc⟩,hD,ah.upd hD,cV,rfl,λj y z=>by simp at z⟩,?_⟩⟩;rintro i m σ' H' ⟨him,zs,inv⟩;have hq1:=inv.2.2.1.seq hx
 by_cases hm:m=0
 ·have e:i=xs.length:=by lia
  subst e;obtain⟨_,n,s,e,hl,r⟩:=inv;exact .inl ⟨⟨xs,hq1,wo _⟩,hd D zs H' n s e hl r⟩
 ·have hi:i<xs.length:=by lia
  refine .inr ⟨⟨xs,xs[i],hq1,by simp[hi]⟩,λσ2 H2=>∃zs,gn H tl Rel D (i+1) zs σ2 H2,λσ2 H2 h=>⟨m-1,by lia,by lia,h⟩,?_⟩;rintro v H2 ⟨c,x,rfl,hn,hx',rfl⟩;obtain⟨⟨o1,o2,rfl⟩,n,s,e,hl,r⟩:=inv;have su:=ah.upd (o:=.tup [.int (i:Int),x]) hn;exact hs D i x zs o1 o2 _ c (hx' xs hq1) ⟨⟨o1,o2,rfl⟩,n,s.trans su,su _ _ e,hl,λj y hy=>hk _ _ _ _ su.keep (r j y hy)⟩ cV
def N1(Pv:Nat->St->Hp->Prop)(m:Nat)(tb:TS)(D:ck)(σ':St)(H1:Hp):Prop :=
 ∃M:St->Hp->Prop,(∀σ2 H2,M σ2 H2->∃m',m'<m/\Pv m' σ2 H2)/\tb {D with nx:=M,ct:=M,bk:=D.nx} σ' H1
theorem sh(Pv:Nat->St->Hp->Prop)(m0:Nat)(h0:Pv m0 σ H)(hs:∀m σ' H',Pv m σ' H'->c σ' H' λb H1=>if b=true then N1 Pv m tb D σ' H1 else D.nx σ' H1):DQ c tb D σ H:=⟨Pv,⟨m0,h0⟩,hs⟩
theorem sa{Pv:Nat->St->Hp->Prop}{m:Nat}{σ':St}{H1:Hp}(h:tb {D with nx:=λσ2 H2=>∃m',m'<m/\Pv m' σ2 H2,ct:=λσ2 H2=>∃m',m'<m/\Pv m' σ2 H2,bk:=D.nx} σ' H1):N1 Pv m tb D σ' H1:=⟨_,λ_ _ q=>q,h⟩
def yT(K:wa)(x:V)(H:Hp)(Q:Bool->Hp->Prop):Prop:=∃k,C3 K x H k/\Q k H
def LS(K:wa)(te:TE):TT:=λσ H Q=>te σ H λx H'=>yT K x H' Q
theorem sW{X:Cx}{e:Expr}{t:TE}(h:PE X e t)(he:∀whole,isTrue e X.env whole=(do let v <- whole;standAt e.pos;holding [v] (truthy v)):=by intro _;rfl):PT X e (LS X.K t):=zxB h he
theorem Yo{QB:Bool->Hp->Prop}(h:te σ H λx H'=>yT K x H' QB):LS K te σ H QB:=h
theorem zy7{QB:Bool->Hp->Prop}{v:V}{ds:List wy}(h:Is K H v (.tuple ds))(q:QB (!ds.isEmpty) H):yT K v H QB:=by
 obtain⟨p,us,rfl,hs,t⟩:=bX.mp h;have hl:=t.length;refine⟨_,.inr (.inl ⟨us,hs,rfl⟩),?_⟩
 have e:us.isEmpty=ds.isEmpty:=by
  cases us<;>cases ds<;>simp_all
 rw[e];exact q
theorem Br{QB:Bool->Hp->Prop}{v:V}{ds:List wy}(h:Is K H v (.list ds))(q:QB (!ds.isEmpty) H):yT K v H QB:=by
 obtain⟨p,us,rfl,hs,t⟩:=cE.mp h;have hl:=t.length;refine⟨_,.inl ⟨us,hs,rfl⟩,?_⟩
 have e:us.isEmpty=ds.isEmpty:=by
  cases us<;>cases ds<;>simp_all
 rw[e];exact q
end
theorem LY:∀(ys:List V)(us:List wf),ys.length=us.length->(∀(i:Nat) y u,ys[i]? = some y->us[i]? = some u->a_ y u)->aT ys us
 | [],[],_,_=>.nil
 | [],_::_,h,_=>by simp at h
 | _::_,[],h,_=>by simp at h
 | y::ys,u::us,h,r=>.cons (r 0 y u rfl rfl) (LY ys us (by simpa using h) λi y u h1 h2=>r (i+1) y u h1 h2)
def vz(l:List Nat):List V:=l.map λ(w:Nat)=>V.int (w:Int)
theorem jO(l:List Nat):(vz l).length=l.length:=wm ..
def BU(vs:List V)(H1:Hp)(Q:VK):Prop:=∃j:Int,vs=[.int j]/\0<=j/\j<=1000 /\ ∀l,H1 l=none->Q (.ref l) (upd H1 l (.lst (vz (wq j.toNat))))
def MM(ta:TA):TE:=λσ H Q=>ta σ H λvs H1=>BU vs H1 Q
theorem Z0{X:Cx}{a:Expr}{ta:TA}{p p2 pos pos2:Pos}(hc:X.calm=true)(hg:Gl X "list")(hm:X.mg "list"=none)(hg2:Gl X "range")(hm2:X.mg "range"=none)(ha:PA X [a] ta)(hs:wT [a] X.env=[(false,eval a X.env)]:=by rfl)
  (hs2:wT [Expr.Call (.Name "range" p2) [a] [] pos2] X.env=[(false,eval (.Call (.Name "range" p2) [a] [] pos2) X.env)]:=by rfl):PE X (.Call (.Name "list" p) [.Call (.Name "range" p2) [a] [] pos2] [] pos) (MM ta):=by
 intro pins s σ H Q I h;refine Call_ (gI I hg hm kh ?_);refine vi ?_ hs2 rfl;rw[hs2]
 show wr _ _ (spliced ((false,eval _ X.env)::W0 pos [])) _ _ s
 refine qZ ?_;refine Call_ (gI I hg2 hm2 boot_range (vi (aI (ha pos2 pins s σ H _ I h) λus s1 ⟨vs,H1,I1,r1,q1⟩=>?_) hs rfl));obtain⟨j,e,j0,j1,q⟩:=q1;subst e;obtain⟨u,rfl,ru⟩:=ib r1;obtain⟨t,rfl⟩:=ru;refine call_range_1 ?_;refine Qk ?_;have I2:Inv X pins σ H1 {s1 with heap:=s1.heap.push {cls:=.type "range",data:=.fields #[.int 0 s1.toks,.int j t,.int 1 (s1.toks+1)]},toks:=s1.toks+1+1}:=I1.kept λb o e=>wn _ e
 refine call_list_range (n:=j.toNat) (I1.ok.hd hc) (ue ..) (small_one (by lia) (by lia) (by lia) (by lia)) (by rw[rangeSize_one];split<;>lia) (by lia) λh' tk acc c hk hD hI=>?_
 refine⟨.ref _,_,I2.laid (t':=tk) hk (wo _) ?_,rfl,q _ (I2.aJ.fresh (wo _))⟩;refine⟨nh (by rw[jO,vB];lia),acc.toList,c,LY _ _ (by rw[jO,vB,WY,hI.1]) λi y u hy hu=>?_,by simpa using hD⟩;have hu':acc[i]? = some u:=by simpa using hu
 obtain⟨t',e'⟩:=hI.2 i u hu'
 have hi:i<j.toNat:=by
  have:=(WD.mp hu').1;rw[hI.1]at this;exact this
 have hy':y=V.int (i:Int):=by
  unfold vz at hy;rw[wt,vT hi]at hy;exact(wX hy).symm
 subst hy';exact⟨t',by rw[e'];congr 1;lia⟩
theorem zpW{ta:TA}{σ : St}{H:Hp}{Q:VK}(h:ta σ H λvs H1=>BU vs H1 Q):MM ta σ H Q:=h
theorem zwf{n:Nat}{H:Hp}{Q:VK}(hn:n<=1000)(q:∀l H',H l=none->ah H H'->H' l=some (.lst (vz (wq n)))->Q (.ref l) H'):BU [V.int (n:Int)] H Q :=
 ⟨_,rfl,by lia,by lia,λl hl=>q l _ hl (ah.upd hl) (by rw[wP];exact cV)⟩
theorem MO(w:Nat)(l:List Nat):t9 (.int (w:Int)) (vz l)=decide (w∈l):=by
 unfold t9 vz
 induction l with
 | nil=>rfl
 | cons x l ih =>
  rw[w8,qH,ih]
  show((x:Int) == (w:Int) || _)=_
  by_cases h:w=x
  ·subst h;simp
  ·have h':¬ (x:Int)=(w:Int):=λz=>h (by lia)
   simp[h,h']
theorem Le(l:List Nat):(vz l).all jC=true:=by
 unfold vz;rw[Wt];intro y hy;obtain⟨w,_,rfl⟩:=wS.mp hy
 rfl
section
variable{K:wa}{H H':Hp}{Q:VK}{v:V}{p:we}{l:List Nat}{w:Nat}
theorem zt8(h:aV K H p (vz l))(q:Q (.bl (!decide (w∈l))) H):kB K true (.int (w:Int)) (.ref p) H Q:=⟨p,vz l,rfl,.inr h,rfl,Le l,by rw[MO];exact q⟩
theorem UB(h:aR K H p (vz l))(q:Q (.bl (decide (w∈l))) H):kB K false (.int (w:Int)) (.ref p) H Q:=⟨p,vz l,rfl,.inl h,rfl,Le l,by rw[MO];exact q⟩
def TW(l:List Nat):wy:=TZ (l.map λ(w:Nat)=>(w:Int))
theorem EM:Is K H v (TW l) ↔ ∃a,v=.ref a/\aV K H a (vz l):=by
 unfold TW vz;rw[oS,VB];exact Iff.rfl
theorem DL(l:List Nat):cW (TW l)=true:=zCI _
def mS(ws:List (List Nat)):wy:=.tuple (ws.map TW)
theorem sV:∀ws:List (List Nat),cg (ws.map TW)=true
 | []=>rfl
 | w::ws=>by rw[w8,cg,DL,sV ws];rfl
theorem U5(ws:List (List Nat)):cW (mS ws)=true:=by rw[mS,cW];exact sV ws
theorem Bi{i:Nat}{x:V}(h:(vz l)[i]? = some x):∃hi:i<l.length,x=.int ((l[i]:Nat):Int):=by
 have hi:i<l.length:=by
  rcases wD i l.length with z | z
  ·exact z
  ·rw[wE (by rw[jO];exact z)]at h;cases h
 refine⟨hi,?_⟩;unfold vz at h;rw[wt,wc hi]at h;exact(wX h).symm
def GD(a b:Rat)(xs:List Rat):wy:=.tuple [N (1-aY xs),mS (c7 a b xs),aW a b (c9 a b xs)]
def sM(h:Rat)(ws:List (List Nat))(xs:List Rat):wy:=.tuple [N h,mS ws,TN xs]
theorem Rk(h:Rat)(ws:List (List Nat))(xs:List Rat):cW (sM h ws xs)=true:=by rw[sM,cW,cg,cg,cg,cg,ki,U5,rK];rfl
def R1(a b:Rat)(xs:List Rat)(k:Nat):wy:=sM (aG a b xs (k+1)) (c7 a b (ai a b xs k)) (ai a b xs (k+1))
def g6(a b:Rat)(xs:List Rat)(n:Nat):List wy:=(wq n).map (R1 a b xs)
theorem oy{α : Type}(f : α -> wy)(hf:∀x,cW (f x)=true):∀l:List α,cg (l.map f)=true
 | []=>rfl
 | x::l=>by rw[w8,cg,hf,oy f hf l];rfl
theorem au.snoc{vs:List V}{ds:List wy}{d:wy}(h:au K H vs ds)(k:Is K H v d):au K H (vs++[v]) (ds++[d]):=h.append (.cons k .nil)
theorem pV{l:List Nat}{i:Nat}(h:i<l.length):l.take (i+1)=l.take i++[l[i]]:=by
 rw[qB,wc h];rfl
theorem AE{ds:List wy}{d:wy}{j:Nat}(h:Is K H v (.list ds))(e:ds[j]? = some d)(q:∀x,Is K H x d->Q x H):c_ K v (.int (j:Int)) H Q:=by
 obtain⟨a,xs,rfl,h,t⟩:=cE.mp h;obtain⟨x,e1,hx⟩:=t.get e;exact iH h (kx e1) (q x hx)
theorem Sy(h:Is K H v (TW l))(q:Q (.int (l.length:Int)) H):cR K [v] H Q:=EK h (by rw[wm];exact q)
end
theorem Zj(a b:Rat)(xs:List Rat)(n:Nat):(g6 a b xs n).length=n:=by simp[g6]
theorem C7(a b:Rat)(xs:List Rat)(n:Nat):g6 a b xs (n+1)=g6 a b xs n++[R1 a b xs n]:=by
 unfold g6;rw[qM,vD];rfl
theorem ZQ(a b:Rat)(xs:List Rat)(n:Nat):cg (g6 a b xs n)=true:=oy _ (λk=>Rk _ _ _) _
theorem zyB{ps:List Rat}{l:List Nat}{w:Nat}(h:¬ ps.getD w 0<1):aF ps (l++[w])=aF ps l++[w]:=by
 unfold aF;rw[WN,WG,decide_eq_false h];rfl
theorem Y9{ps:List Rat}{l:List Nat}{w:Nat}(h:ps.getD w 0<1):aF ps (l++[w])=aF ps l:=by
 unfold aF;rw[WN,WG,decide_eq_true h];exact Wd _
theorem Zl{wave l:List Nat}{w:Nat}(h:¬ w∈wave):bS (l++[w]) wave=bS l wave++[w]:=by
 unfold bS;rw[WN];simp[WG,h]
theorem Zd{wave l:List Nat}{w:Nat}(h:w∈wave):bS (l++[w]) wave=bS l wave:=by
 unfold bS;rw[WN];simp[WG,h]
theorem Fc(l:List Nat)(w:Nat):vz (l++[w])=vz l++[V.int (w:Int)]:=by unfold vz;rw[vD];rfl
theorem zws{xs:List Rat}{j:Nat}(h:j<xs.length):(bC xs).getD j 0=xs.getD j 0+(1-aY xs):=by
 unfold bC;rw[wb,wt,wc h,wb,wc h];rfl
theorem De:∀ds:List wy,(∀d∈ds,wQ d d=true)->WV ds ds=true
 | [],_=>by simp[WV]
 | d::ds,h=>by rw[WV,h d (wC ..),De ds λe he=>h e (wB _ he)];rfl
theorem Cn{ds:List wy}(h:∀d∈ds,wQ d d=true):wQ (.tuple ds) (.tuple ds)=true:=by rw[wQ];exact De ds h
theorem zBR{ds:List wy}(h:∀d∈ds,wQ d d=true):wQ (.list ds) (.list ds)=true:=by rw[wQ];exact De ds h
theorem JF(x:Rat):wQ (N x) (N x)=true:=by rw[nZ];exact decide_eq_true rfl
theorem Lg(xs:List Rat):wQ (TN xs) (TN xs)=true:=by rw[BO];exact decide_eq_true rfl
theorem CA{P:wy->Prop}{a b:wy}(ha:P a)(hb:P b):∀d∈[a,b],P d:=λd hd=>by
 simp only[wG,Wv,or_false]at hd;rcases hd with rfl | rfl
 ·exact ha
 ·exact hb
def Sh(n:Nat)(d:wy):Prop:=d.canLay0=true/\d.depth<=n
theorem ES{n:Nat} : ∀ds:List wy,(∀d∈ds,Sh n d)->Wg ds=true/\Wz ds<=n
 | [],_=>by simp[Wg,Wz]
 | d::ds,h=>by
  have h1:=h d (wC ..);have h2:=ES ds λe he=>h e (wB _ he)
  rw[Wg,Wz,h1.1,h2.1];exact⟨rfl,by have:=h1.2;have:=h2.2;lia⟩
theorem nq{n:Nat}{ds:List wy}(h:∀d∈ds,Sh n d):Sh (n+1) (.tuple ds):=by
 have:=ES ds h;unfold Sh;rw[vF,Wu];exact⟨this.1,by have:=this.2;lia⟩
theorem zBT{n:Nat}{ds:List wy}(h:∀d∈ds,Sh n d):Sh (n+1) (.list ds):=by
 have:=ES ds h;unfold Sh;rw[vF,Wu];exact⟨this.1,by have:=this.2;lia⟩
theorem Sh.mono{m n:Nat}{d:wy}(h:Sh m d)(e:m<=n):Sh n d:=⟨h.1,Wb h.2 e⟩
theorem Sh.shaped{n:Nat}{d:wy}(h:Sh n d)(e:n<=64):vQ d=true:=by
 unfold vQ;rw[h.1,VJ];exact decide_eq_true (Wb h.2 e)
theorem nI(i:Int):Sh 1 (.int i):=⟨by simp[vF],by simp[Wu]⟩
theorem ur(x:Rat):Sh 2 (N x):=nq (CA (nI _) (nI _))
theorem RY(xs:List Rat):Sh 3 (TN xs):=nq λd hd=>by
 obtain⟨x,_,rfl⟩:=wS.mp hd;exact ur x
theorem LO{K:wa}{H:Hp}{Q:VK}{v w:V}{d:wy}{n:Nat}(h:Is K H v d)(k:Is K H w d)(s:Sh n d)(e:n<=64)(r:wQ d d=true)(q:Q (.bl false) H):fR K v w H Q:=EV h k (s.shaped e) (s.shaped e) (by rw[r];exact q)
theorem Pu{K:wa}{H:Hp} : ∀{ds:List wy}{vs:List V},vs.length=ds.length->(∀i x,vs[i]? = some x->Is K H x (ds.getD i .none))->au K H vs ds
 | [],[],_,_=>.nil
 | [],_::_,h,_=>by simp at h
 | _::_,[],h,_=>by simp at h
 | d::ds,v::vs,h,e=>.cons (e 0 v rfl) (Pu (by simpa using h) λi x hx=>e (i+1) x hx)
section
variable{K:wa}{H H':Hp}{Q:VK}{D:ck}{σ : St}{td ty tv:TE}{a:we}{kvs:List (Key × V)}{k:Int}{v:V}
end
theorem M3:∀{ts:List Int}{ys:List V},ys.length=ts.length->(∀(j:Nat)(y:V),ys[j]? = some y->y=V.int (ts.getD j 0))->ys=ts.map V.int
 | [],[],_,_=>rfl
 | [],_::_,h,_=>by simp at h
 | _::_,[],h,_=>by simp at h
 | t::ts,y::ys,h,e=>by
  rw[w8,e 0 y rfl,M3 (ts:=ts) (ys:=ys) (by simpa using h) λj z hz=>e (j+1) z hz]
  rfl
theorem My{n:Nat}(p:Nat->Bool)(i:Nat):(wq (i+1)).filter p=(wq i).filter p++(if p i then [i]else []):=by
 rw[qM,WN];cases h:p i<;>simp[h]
def N6(K:wa)(g:TG)(tt:TT)(te:TE)(src:List (Option Nat))(σ : St)(vs:List V)(H1:Hp)(Q:VK):Prop:=∃a,vs=[.ref a]/\(∃xs,aV K H1 a xs) /\
 ∀D,H1 D=none->jy g tt te (mF K a) D (dE src σ) (upd H1 D (.lst [])) (λH'=>Q (.ref D) H')
section
variable{K:wa}{ta:TA}{g:TG}{tt:TT}{te:TE}{σ : St}{H:Hp}{Q:VK}{a:we}{xs:List V}{src:List (Option Nat)}
theorem zwg(h:ta σ H λvs H1=>N6 K g tt te src σ vs H1 Q):jE src (EG K ta) g tt te σ H Q:=h
theorem zrG(hx:aV K H a xs)(Pv:we->Nat->List V->St->Hp->Prop)(h0:∀D H',H D=none->ah H H'->H' D=some (.lst [])->Pv D 0 [] (dE src σ) H')(hl:∀D i ys σ' H',Pv D i ys σ' H'->aV K H' a xs)
  (hs:∀D i x ys σ' H1 c H2,xs[i]? = some x->Pv D i ys σ' H1->H1 c=none->ah H1 H2->H2 c=some (.tup [.int (i:Int),x])->gR Pv g tt te D i (.ref c) σ' H2) (hd:∀D ys σ' H',Pv D xs.length ys σ' H'->Q (.ref D) H'):N6 K g tt te src σ [.ref a] H Q:=by
 refine⟨a,rfl,⟨xs,hx⟩,λD hD=>⟨λi m σ' H'=>i+m=xs.length /\ ∃ys,Pv D i ys σ' H',⟨xs.length,by lia,[],h0 D _ hD (ah.upd hD) cV⟩,?_⟩⟩;rintro i m σ' H' ⟨him,ys,inv⟩;have hq:=hl _ _ _ _ _ inv
 by_cases hm:m=0
 ·have e:i=xs.length:=by lia
  subst e;exact .inl ⟨⟨xs,hq,wo _⟩,hd _ _ _ _ inv⟩
 ·have hi:i<xs.length:=by lia
  refine .inr ⟨⟨xs,xs[i],hq,by simp[hi]⟩,λσ2 H2=>∃ys,Pv D (i+1) ys σ2 H2,λσ2 H2 h=>⟨m-1,by lia,by lia,h⟩,?_⟩;rintro v H2 ⟨c,x,rfl,hn,hx',rfl⟩;exact hs D i x ys σ' H' c _ (hx' xs hq) inv hn (ah.upd hn) cV
end
def oC(K:wa):R2:=λx y H Q=>∃d ds,Is K H x d/\Is K H y (.tuple ds)/\Sh 60 d/\vF (.tuple ds)=true/\Q (.bl (ds.any λe=>wQ e d)) H
theorem SF{X:Cx}(hu:X.A.units+64<WF):aK X (wJ .In) (oC X.K):=by
 intro pins s σ H x y v u Q I rx ry h;obtain⟨d,ds,hd,he,sd,se,q⟩:=h;obtain⟨as,h1⟩:=I.reads d x v sd.1 hd rx;obtain⟨bs,h2⟩:=I.reads (.tuple ds) y u se he ry;have sd2:=sd.2;have hm:=Xg (Wz ds) d.depth;exact SeqAt.in_tuple_reads h2 h1 (by rw[vF]at se;exact se) sd.1 (by lia) ⟨.bl _,H,I,rfl,q⟩
theorem zC0(xs:List Rat)(x:Rat):((xs.map N).any λe=>wQ e (N x))=decide (x∈xs):=by
 induction xs with
 | nil=>rfl
 | cons y xs ih =>
  rw[w8,qH,ih,nZ]
  by_cases h:x=y
  ·subst h;simp
  ·have h':¬ y=x:=λz=>h z.symm
   simp[h,h']
theorem zzW{K:wa}{H:Hp}{Q:VK}{v w:V}{xs:List Rat}{x:Rat}(h:Is K H v (N x))(k:Is K H w (TN xs))(q:Q (.bl (decide (x∈xs))) H):oC K v w H Q :=
 ⟨N x,xs.map N,h,k,(ur x).mono (by decide),by rw[vF];exact Dk xs,by rw[zC0];exact q⟩
def jw(xs:List Rat)(v:Rat):wy:=.tuple [N v,TW (fP xs v)]
theorem Sd(xs:List Rat)(v:Rat):cW (jw xs v)=true:=by rw[jw,cW,cg,cg,cg,ki,DL];rfl
theorem Yp(xs:List Rat)(l:List Rat):cg (l.map (jw xs))=true:=oy _ (Sd xs) l
section
variable{K:wa}{H:Hp}{Q:VK}{v w:V}{ds:List wy}{n:Nat}{l b:we}{xs zs:List V}
theorem NP{d:wy}(h:Is K H v d)(k:Is K H w d)(s:Sh n d)(e:n<=64)(r:wQ d d=true)(q:Q (.bl true) H):cu K v w H Q:=nu h k (s.shaped e) (s.shaped e) (by rw[r];exact q)
theorem Yj(a b:Bool):wQ (.bool a) (.bool b)=(a == b):=by rw[wQ]
theorem PV(b:Bool):Sh 1 (.bool b):=⟨by simp[vF],by simp[Wu]⟩
theorem UM{a b:Bool}(q:Q (.bl (a == b)) H):cu K (.bl a) (.bl b) H Q:=nu (jX.mpr rfl) (jX.mpr rfl) ((PV a).shaped (by decide)) ((PV b).shaped (by decide)) (by rw[Yj];exact q)
theorem zCl{k:Int}(h:H l=some (.lst xs))(h0 : -1000<=k)(h1:k<=1000)(z:xs.length*k.toNat<=1000)(q:∀p H',H p=none->ah H H'->H' p=some (.lst (w6 k.toNat xs).flatten)->Q (.ref p) H'):pY (.ref l) (.int k) H Q :=
 ⟨l,k,xs,rfl,rfl,h,by lia,by lia,by have:=iT z;lia,λp hp=>q p _ hp (ah.upd hp) cV⟩
theorem au.JC{d:wy}(h:Is K H v d):∀n:Nat,au K H (w6 n v) (w6 n d)
 | 0=>.nil
 | n+1=>.cons h (au.JC h n)
end
theorem lH{K:wa}{H:Hp}{Q:VK}{v:V}{ds:List wy}{d:wy}(h:Is K H v (.list (ds++[d])))(q:∀x,Is K H x d->Q x H):c_ K v (.int (-1)) H Q:=by
 obtain⟨a,xs,rfl,hs,t⟩:=cE.mp h;have hl:=t.length;rw[wR,vS]at hl;obtain⟨x,e1,hx⟩:=t.get (i:=ds.length) (d:=d) (by rw[vg (wo _),Vz];rfl);exact iH hs (DZ (by rw[hl];exact e1)) (q x hx)
def A2(K:wa):List V->Hp->VK->Prop:=λxs H Q=>∃(p:we)(bs:List Bool),xs=[.ref p]/\aR K H p (bs.map V.bl)/\Q (.bl (bs.any id)) H
theorem zCJ:vH "any"=some (.builtin "any"):=by decide +kernel
theorem ztI(bs:List Bool):((wq bs.length).any λi=>(bs[i]?).getD true)=bs.any id:=by
 rw[vC,Xu,Xu]
 constructor
 ·rintro ⟨i,hi,h⟩
  rw[wF]at hi;rw[wc hi]at h;exact⟨bs[i],vO hi,h⟩
 ·rintro ⟨b,hb,h⟩
  obtain⟨i,hi,rfl⟩:=w9 hb;exact⟨i,wF.mpr hi,by rw[wc hi];exact h⟩
open PyProof.V PySem.Calls in
theorem Uw{X:Cx}(hc:X.calm=true):aP X (.builtin "any") (A2 X.K):=by
 intro pins s σ H xs us Q I r h;obtain⟨p,bs,rfl,hq,q⟩:=h;obtain⟨u,rfl,rx⟩:=ib r;cases rx;obtain⟨its,r',pl,hz⟩:=I.list hq;have hi:its=bs.map Value.bool:=Mb r';have hl:s.heap.IsList p its.toArray:=pl.isList;have hlt:p<s.heap.objs.size:=by obtain⟨_,e,_⟩:=hl;exact wA e
 refine call_any_walk (VT hl ?_)
 refine⟨s.heap.objs.size,[s.heap.objs.size,p],[s.heap.objs.size],its.toArray.size,_,_,λi=>(bs[i]?).getD true,rfl,XJ (A:=X.A.in1) (I.ok.hd hc) _ p (wO hlt) its.toArray,
  ⟨⟨_,wM _ rfl,rfl,rfl⟩,hl.push _⟩,λi v s' Q' E' hP hQ=>?_,λh' tk hk=>?_⟩
 ·have hP:its.toArray[i]? = some v:=hP
  rw[hi]at hP;simp only[Q7,wt,W6]at hP;obtain⟨b,e,rfl⟩:=hP;simp only[e,Qx]at hQ;exact vX hQ
 ·have e:((wq its.toArray.size).any λi=>(bs[i]?).getD true)=bs.any id:=by
   rw[wH,hi,wm];exact ztI bs
  rw[e];exact⟨.bl (bs.any id),H,I.kept (t':=tk) (λb x e=>hk b x (λhm=>by rw[wY.mp hm]at e;exact WS _ (wA e)) (wn _ e)),rfl,q⟩
theorem zzm{K:wa}{H:Hp}{Q:VK}{p:we}{bs:List Bool}(h:aR K H p (bs.map V.bl))(q:Q (.bl (bs.any id)) H):A2 K [.ref p] H Q:=⟨p,bs,rfl,h,q⟩
def Cw(K:wa):List V->Hp->VK->Prop:=λxs H Q=>∃(p:we)(ns:List Int),xs=[.ref p]/\aR K H p (ns.map V.int)/\Q (.int ns.sum) H
section
open PyProof.V PySem.Calls PySem.W
variable{prog:wL}{w:wN}{A:ve}{E:wf->wl->Prop}{s:wl}
theorem zzE{t:we}{xs:Array (Int × Tok)}{Q:wf->wl->Prop}(hh:A.handled=none)(ht:s.heap.IsList t (intItems xs))
  (h:∀h' tk t',(∀b o,s.heap.get? b=some o->h'.get? b=some o)->Q (.int (preSum (numAt xs) xs.size) t') {s with heap:=h',toks:=tk}) :
  wr (model prog w) A (call (.builtin "sum") [.ref t]) Q E s:=by
 obtain⟨o,ho,hc,n,hd⟩:=id ht;have hne:t≠s.heap.objs.size:=wO (wA ho);have hsz:(intItems xs).size=xs.size:=by simp[intItems]
 have W:=(XJ (prog:=prog) (w:=w) (A:=A.in1) hh s.heap.objs.size t hne (intItems xs)).toS;rw[hsz]at W;refine call_sum_walkAnyS (VT ht ?_);refine⟨s.heap.objs.size,_,_,_,_,_,_,numAt xs,rfl,W,⟨⟨_,wM _ rfl,rfl,rfl⟩,ht.at λo e=>wn _ e⟩,λb hb=>?_,λi v hP=>intItems_at hP,λs' t' hm=>?_⟩
 ·rcases wG.mp hb with rfl | hb
  ·exact wA (wM _ rfl)
  ·obtain rfl:=wY.mp hb
   exact wA (wn _ ho)
 ·obtain⟨h',g',d',tk',os'⟩:=s'
  have e1:g'=s.gens:=hm.gens;have e2:d'=s.drawn:=hm.drawn;have e3:os'=s.os:=hm.os;subst e1 e2 e3;exact h h' tk' t' λb o e=>hm.heap b o (λhb=>absurd (wA e) ((wY.mp hb) ▸ WS _)) (wn _ e)
theorem ztu{X:Cx}(hc:X.calm=true):aP X (.builtin "sum") (Cw X.K):=by
 intro pins s σ H xs us Q I r h;obtain⟨p,ns,rfl,hq,q⟩:=h;obtain⟨u,rfl,rx⟩:=ib r;cases rx;obtain⟨its,r',pl,hz⟩:=I.list hq;have hI:=Di r';have hT:s.heap.IsList p its.toArray:=pl.isList;obtain⟨zs,hx⟩:=hI.allInts.items;have hn:numsOf its.toArray.toList=ns:=by rw[show its.toArray.toList=its from rfl,hI.numsOf]
 rw[hx]at hT hn;rw[nums_intItems]at hn;refine zzE (I.ok.hd hc) hT λh' tk t' hk=>?_
 rw[preSum_eq,W8 (by simp),hn];exact⟨.int ns.sum,H,I.kept (t':=tk) hk,⟨_,rfl⟩,q⟩
end
theorem zzN{K:wa}{H:Hp}{Q:VK}{p:we}{ns:List Int}(h:aR K H p (ns.map V.int))(q:Q (.int ns.sum) H):Cw K [.ref p] H Q:=⟨p,ns,rfl,h,q⟩
abbrev Mm(h:wI)(a:we):wI:=h.push {cls:=.type "tuple_iterator",data:=.fields #[.ref a,.int 0 0]}
abbrev Kg(h:wI)(a b:we):wI:=(Mm h a).push {cls:=.type "list_iterator",data:=.fields #[.ref b,.int 0 0]}
abbrev KJ(h:wI)(a b:we):wI:=(Kg h a b).push {cls:=.type "tuple",data:=.seq #[.ref h.objs.size,.ref (Mm h a).objs.size]}
abbrev zM4(h:wI)(a b:we):wI:=(KJ h a b).push {cls:=.type "tuple",data:=.seq #[.none,.none]}
abbrev zM5(h:wI)(a b:we):wI:=(zM4 h a b).push {cls:=.type "zip",data:=.fields #[.none,.bool false,.bool false,.ref (Kg h a b).objs.size,.ref (KJ h a b).objs.size]}
section
variable{prog:wL}{w:wN}{A:ve}{E:wf->wl->Prop}{s:wl}
end
theorem zwE{K:wa}{H:Hp}{Q:VK}{v:V}{ds:List wy}(h:Is K H v (.list ds)\/Is K H v (.tuple ds))(q:∀l H' ys,H l=none->ah H H'->H' l=some (.lst ys)->au K H' ys ds->Q (.ref l) H'):jN K [v] H Q:=by
 rcases h with h | h
 ·exact JJ h q
 ·exact sO h q
def Mf(K:wa)(G:wf)(tb:(St->XK)->TS)(th:TS):TS:=λD σ H=>∃W:St->XK,tb W D σ H /\ ∀σ' C o H',W σ' C o H'->W4 K C G=some true/\th D σ' H'
section
variable{X:Cx}{x:Str}{G:wf}{b₀ : wZ}{body suite:List wZ}{np hpos pos:Pos}{tb:(St->XK)->TS}{th:TS}
theorem MC(hs:X.stack=X.env::X.outer)(hf:X.env.frame=some X.env.locals)(hg:Gl X x)(hG:X.mg x=some G)
  (hb:∀(W:St->XK)(pn:List (we × Obj))(E':wf->wl->Prop),SQ (eI X.prog X.w) (X.at pn E') W->fM (X.at pn E') body (tb W))
  (hh:∀(pn:List (we × Obj))(ex:we)(oe:Obj),fM (X.rB pn ex oe) (b₀ :: suite) th) (hdb:(x == ("__debug__" : Str))=false:=by decide) :
  PS X (.Try body [.ExceptHandler (some (.Name x np)) none (b₀ :: suite) hpos] [] [] pos) (Mf X.K G tb th):=by
 intro pins s σ H D I h;obtain⟨W,hB,hH⟩:=h;refine wpAny_Try_except ?_;have I':=I.Uc λe s1=>∃σ1 H1 s0,Inv X pins σ1 H1 s0/\eI X.prog X.w X.stack H1 s0 (W σ1) e s1
 have key:=hb W (X.pn++pins) (λe s1=>∃σ1 H1 s0,Inv X pins σ1 H1 s0/\eI X.prog X.w X.stack H1 s0 (W σ1) e s1) (λpins1 σ1 H1 s0 e s1 I1 q=>⟨σ1,H1,s0,I1.nW,q⟩) [] s σ H D I' hB;refine Wm key (λf s1 hq=>?_) λe s1 he=>?_
 ·cases f with
  | next=>obtain⟨σ',H',J,q⟩:=hq;exact qd ⟨σ',H',J.nW,q⟩
  | brk=>obtain⟨σ',H',J,q⟩:=hq;exact⟨σ',H',J.nW,q⟩
  | cont=>obtain⟨σ',H',J,q⟩:=hq;exact⟨σ',H',J.nW,q⟩
  | ret u=>obtain⟨v,σ',H',J,r,q⟩:=hq;exact⟨v,σ',H',J.nW,r,q⟩
 obtain⟨σ1,H1,s0,I1,ex,C,H',B,rfl,os,bare,un,aJ,F,ov,q⟩:=he;obtain⟨hm,hS⟩:=hH σ1 C none H' q;have hfs:∀b∈dQ X.stack,H1 b=none /\ ∃o,s0.heap.get? b=some o /\ ∀vs,o.data≠.fields vs:=λb hb=>⟨I1.rm b hb,(I1.stack.mem hb).2⟩
 have hfr:=I.ok.frames.trans (congrArg some hs)
 have hex:H' ex=none:=by
  obtain⟨_,_,_,_,_,_,_,_,_,_,_,_,_,be,_⟩:=F;cases z:H' ex with
  | none=>rfl
  | some o =>
   obtain⟨u,e1⟩:=ov.iu ex o z;rw[be]at e1;cases e1
 have st1:=F.st;rw[hs]at F
 have exc:∀{h4:wI},fj B (X.env::X.outer) ex C .none h4->s1.heap.UpToSlots h4->∃oe,h4.get? ex=some oe/\Np C oe/\Inv (X.rB (X.pn++pins) ex oe) [] σ1 H' {s1 with heap:=h4}:=λ{h4} F4 sm=>by
  have J:Inv X pins σ1 H' {s1 with heap:=h4}:=I1.Jp (s':={s1 with heap:=h4}) (ch:=[]) os (ov.un un hfs F4.st sm) (ov.aJ aJ st1 F4.st) bare (λ_ z=>nomatch z);obtain⟨_,_,oe,vs,T,oT,ts,he,hc,hd,h1,h2,hdi,_⟩:=F4;refine⟨oe,he,⟨hc,⟨vs,hd,h2⟩,hdi⟩,J.T1 he hex (λz=>?_) (λz=>?_) λv z=>?_⟩
  ·obtain⟨m,⟨o,es,ep,ho,hdd,_⟩,_⟩:=J.loc
   rw[<- z]at ho;have:(some oe:Option Obj)=some o:=he.symm.trans ho;cases this;rw[hd]at hdd;cases hdd
  ·obtain⟨_,o,ho,nr⟩:=J.ff.mem z
   have:(some oe:Option Obj)=some o:=he.symm.trans ho;cases this;exact nr vs hd
  ·rw[hd]at z;cases z
 refine F.note hfr hf λh2 F2 sm2=>F2.land λh3 F3 sm3=>?_
 obtain⟨oe3,g3,x3,K3⟩:=exc F3 (sm2.trans sm3);refine wpAny_handleBy_cons (codeAny_handlers_test (pS K3 hg hG ?_ hdb)) (by intro z;cases z);have LT:PySem.W.Looks (model X.prog X.w) h3 (typeOf (.ref ex)) C:=x3.cls ▸ (uh g3).andThen .now;refine(PySem.W.exm_one (h:=h3) K3.dF LT hm).here ?_;refine codeAny_handlers_suite ?_;refine F3.land λh4 F4 sm4=>?_
 obtain⟨oe,g4,x4,K4⟩:=exc F4 ((sm2.trans sm3).trans sm4);refine Wm (hh _ ex oe [] _ _ H' _ K4 hS) (λf s6 h6=>?_) λ_ _ z=>z.elim
 cases f with
 | next=>obtain⟨σ',H6,J,q6⟩:=h6;exact⟨_,H6,J.rA I.ok,q6⟩
 | brk=>obtain⟨σ',H6,J,q6⟩:=h6;exact⟨_,H6,J.rA I.ok,q6⟩
 | cont=>obtain⟨σ',H6,J,q6⟩:=h6;exact⟨_,H6,J.rA I.ok,q6⟩
 | ret u=>obtain⟨v,σ',H6,J,r,q6⟩:=h6;exact⟨v,_,H6,J.rA I.ok,r,q6⟩
end
theorem N8{K:wa}{σ : St}{H:Hp}{D:ck}{G:wf}{tb:(St->XK)->TS}{th:TS}(W:St->XK)(h:tb W D σ H)(k:∀σ' C o H',W σ' C o H'->W4 K C G=some true/\th D σ' H'):Mf K G tb th D σ H:=⟨W,h,k⟩
theorem jz{K:wa}{H:Hp}{Q:VK}(s t:String)(r:Bool)(e:wQ (.str (vL s)) (.str (vL t))=r)(q:Q (.bl r) H):cu K (.str (vL s)) (.str (vL t)) H Q :=
 nu (d:=.str (vL s)) (e:=.str (vL t)) (eZ.mpr rfl) (eZ.mpr rfl) (CD s) (CD t) (by rw[e];exact q)
section
variable{K:wa}{H:Hp}{Q:VK}{p:we}{ns:List Int}
end
def LW(ws:List (List Nat)):wy:=.list (ws.map TW)
end L2
namespace GM
section
variable(rs:List Int)(us ts:List (List Int))(ps cs:List Int)
end
section
variable{rs:List Int}{us ts:List (List Int)}{ps cs:List Int}
end
section
variable(rs:List Int)(us ts:List (List Int))(ps cs:List Int)
end
section
variable{rs:List Int}{us ts:List (List Int)}{ps cs:List Int}{f:Nat}{g:List Nat}{acc:List (List Nat)}
end
section
variable(rs:List Int)(us ts:List (List Int))(ps:List Int)(cm:List (List Int))
end
section
variable{rs:List Int}{us ts:List (List Int)}{ps:List Int}{cm:List (List Int)}
end
end GM
namespace L2
open PySem PySem.Spec PyProof.Rows GM
section
variable{K:wa}{H H':Hp}{Q:VK}{v:V}{rs ps:List Int}{us ts cm rows:List (List Int)}{m:Int}{ws:List (List Nat)}
end
theorem zCh{i:Nat}{te:TE}{ti:pC}{D:ck}{σ : L2.St}{H:Hp}(h:∃x,σ[i]? = some (some x)/\te σ H λy H1=>ti x y H1 λz H2=>D.nx (σ.set i (some z)) H2):MF i te ti D σ H:=h
theorem zAt{v:V}{P:V->Prop}{o:Option (Option V)}(h:o=some (some v))(q:P v):∃x,o=some (some x)/\P x:=⟨v,h,q⟩
theorem zBS{f:Int->Int->Int}{m n:Int}{H:Hp}{Q:VK}(q:Q (.int (f m n)) H):MN f (.int m) (.int n) H Q:=⟨m,n,rfl,rfl,q⟩
end L2
namespace TB
open PySem PySem.W PyProof.Rows
inductive d6{α β : Type}(R : α -> β -> Prop):List α -> List β -> Prop
 | nil:d6 R [] []
 | cons {a : α} {b : β} {l:List α} {m:List β} : R a b->d6 R l m->d6 R (a::l) (b::m)
structure HV(prog:wL)(w:wN)(K:Type)[DecidableEq K] where
 is:wI->K->wf->Prop
 hash:K->Int
 draws:K->Nat
 deep:Nat
 inj:∀{h:wI}{v:wf}{x y:K},is h x v->is h y v->x=y
 keeps:∀{h h':wI}{k:K}{v:wf}{d:we}{o:Obj}{es ep},is h k v->h.get? d=some o->o.data=.dict es ep->vy d h h'->is h' k v
 pyHash:∀{A:ve}{E:wf->wl->Prop}{s:wl}{k:K}{v:wf}{Q:Int->wl->Prop},A.units+deep<WF->is s.heap k v->Q (hash k) {s with toks:=s.toks+draws k}->wr (model prog w) A (PySem.pyHash v) Q E s
 eqBool:∀{A:ve}{E:wf->wl->Prop}{s:wl}{x y:K}{u v:wf}{Q:Bool->wl->Prop},A.units+deep<WF->is s.heap x u->is s.heap y v->Q (decide (x=y)) s->wr (model prog w) A (PySem.eqBool u v) Q E s
 quiet:∀{A:ve}{E:wf->wl->Prop}{s:wl}{k:K}{v:wf}{Q:Bool->wl->Prop}(n:Nat),deep<=n->is s.heap k v->Q true s->wr (model prog w) A (eqIsQuiet n v) Q E s
section
variable{prog:wL}{w:wN}{A:ve}{E:wf->wl->Prop}{s:wl}
theorem PC{a:we}{o:Obj}{items:Array wf}{n:Nat}{hs:List (Int × Nat)}{Q:Int->wl->Prop}(hu:A.units<WF)(ho:s.heap.get? a=some o)(hc:o.cls=.type "tuple")(hd:o.data=.seq items n)
  (hi:d6 (λv (x:Int × Nat)=>∀(E:wf->wl->Prop)(Q:Int->wl->Prop)(s':wl),s'.heap=s.heap->Q x.1 {s' with toks:=s'.toks+x.2}->wr (model prog w) A.in1 (pyHash v) Q E s') items.toList hs)
  (h:Q (reduceHash (vN (hs.map (·.1)))) {s with toks:=s.toks+((hs.map (·.2)).sum+1)}) :
  wr (model prog w) A (pyHash (.ref a)) Q E s:=by
 have hT:s.TypeIs (.ref a) "tuple":=⟨o,ho,hc⟩;unfold pyHash
 first | unfold pyHashByItsType | skip
 first | refine wg (wpAny_cRoomFor_or (.inr hu) ?_) | skip
 refine wg (wpAny_specialOf hT qD.lookup ?_)
 show wr _ _ (if(some (Value.builtin "tuple.__hash__") == some Value.none)=true then _ else _) Q E s
 rw[if_neg (by rw[beq_builtin_none];exact vn)];refine wg (wpAny_specialOf hT qD.lookup ?_)
 show wr _ _ (callSpecialIfBoundUnlessNone? (.ref a) "__hash__" _ >>= _) Q E s
 refine wg (wpAny_callSpecialIfBoundUnlessNone?_slot hT qD (vW qD hT F.entry_tuple_hash ?_ (F.args_tuple_hash_1 _)))
 show wr _ _ (Qf (.ref a) >>= _) _ _ s
 refine wg (wpAny_tupleItemsOf ho hd ?_);refine wg ?_;rw[<- qp]
 refine wpAny_forIn_list _
  (λdX (b:Array Int) s'=>∃done left,hs=done++left/\d6 (λv (x:Int × Nat)=>∀(E:wf->wl->Prop)(Q:Int->wl->Prop)(s':wl),s'.heap=s.heap->Q x.1 {s' with toks:=s'.toks+x.2}->wr (model prog w) A.in1 (pyHash v) Q E s') dX left/\b.toList=done.map (·.1)/\s' = {s with toks:=s.toks+(done.map (·.2)).sum})
  _ ?_ ?_ _ _ ⟨[],hs,rfl,hi,rfl,rfl⟩
 ·rintro x dX b s' ⟨done,left,rfl,hl,hb,rfl⟩
  cases hl with
  | @cons _ k _ ks' h1 hl' =>
   refine wg (h1 _ _ _ rfl ?_)
   first
    | exact wx ⟨done++[k],ks',by simp,hl',by simp[hb],by simp[VH]⟩
    | exact wg (wx (wx ⟨done++[k],ks',by simp,hl',by simp[hb],by simp[VH]⟩))
 ·rintro b s' ⟨done,left,rfl,hl,hb,rfl⟩
  cases hl;rw[Wd]at h
  show wr _ _ (retInt (vN b.toList)) _ _ _
  rw[hb];refine wpAny_ret_mkInt ?_
  show wr _ _ (if(decide (-(2:Int)^63<=vN (done.map (·.1)))&&decide (vN (done.map (·.1))<2^63))=true then _ else _) Q E _
  unfold reduceHash at h
  by_cases hr:(decide (-(2:Int)^63<=vN (done.map (·.1)))&&decide (vN (done.map (·.1))<2^63))=true
  ·rw[if_pos hr]
   rw[if_pos hr]at h;exact wx (by simpa [VH] using h)
  ·rw[if_neg hr]
   rw[if_neg hr]at h;exact wg (wpAny_rule (wx (by simpa [VH] using h)))
theorem ZK{a b:we}{oa ob:Obj}{xs ys:Array wf}{na nb:Nat}{bs:List Bool}{P:PySem.Fin->wl->Prop}(hoa:s.heap.get? a=some oa)(hda:oa.data=.seq xs na)(hob:s.heap.get? b=some ob)(hcb:ob.cls=.type "tuple")(hdb:ob.data=.seq ys nb)
  (hi:d6 (λ(p:wf × wf)(c:Bool)=>∀(E:wf->wl->Prop)(Q:Bool->wl->Prop),Q c s->wr (model prog w) A (eqBool p.1 p.2) Q E s) (xs.toList.zip ys.toList) bs)
  (h:P (.done (.ret (.bool (bs.all id&&xs.size == ys.size)))) s) :
  wr (model prog w) A (Builtin.«tuple.__eq__» ⟨[.ref a,.ref b],[]⟩) P E s:=by
 have hTb:s.TypeIs (.ref b) "tuple":=⟨ob,hob,hcb⟩
 show wr _ _ (isInstance (.ref b) (.type "tuple") >>= _) _ _ s
 refine wg (W5 hTb isSubtype_tuple_tuple ?_);simp only[V6,Wl,if_false];refine wg (wpAny_tupleItemsOf hoa hda ?_);refine wg (wpAny_tupleItemsOf hob hdb ?_);refine wg ?_
 refine wpAny_forIn_list _
  (λdX r s'=>r.1=none/\s'=s /\ ∃cs,d6 (λ(p:wf × wf)(c:Bool)=>∀(E:wf->wl->Prop)(Q:Bool->wl->Prop),Q c s->wr (model prog w) A (eqBool p.1 p.2) Q E s) dX cs/\bs.all id=cs.all id)
  _ ?_ ?_ _ _ ⟨rfl,rfl,bs,hi,rfl⟩
 ·rintro ⟨u,v⟩ dX r s' ⟨hr,rfl,cs,hcs,hall⟩
  cases hcs with
  | @cons _ c _ cs' h1 h2 =>
   refine wg (h1 _ _ ?_);cases c with
   | true =>
    simp only[V6,Wl,if_false];exact wx ⟨rfl,rfl,cs',h2,by rw[hall];simp⟩
   | false =>
    simp only[Q5,if_true];have hf:bs.all id=false:=by rw[hall];simp
    rw[hf,Wh]at h;exact wg (wx (wx (wx h)))
 ·rintro ⟨r1,r2⟩ s' ⟨hr,rfl,cs,hcs,hall⟩
  simp only at hr;subst hr;refine wx ?_;cases hcs;rw[hall]at h;have h':P (.done (.ret (.bool (xs.size == ys.size)))) s':=by simpa using h
  exact h'
theorem SO{a:we}{o:Obj}{items:Array wf}{n m:Nat}{Q:Bool->wl->Prop}(ho:s.heap.get? a=some o)(hc:o.cls=.type "tuple")(hd:o.data=.seq items n)
  (hi:∀v∈items.toList,∀(E:wf->wl->Prop)(Q:Bool->wl->Prop),Q true s->wr (model prog w) A (eqIsQuiet m v) Q E s) (h:Q true s):wr (model prog w) A (eqIsQuiet (m+1) (.ref a)) Q E s:=by
 have hT:s.TypeIs (.ref a) "tuple":=⟨o,ho,hc⟩;unfold eqIsQuiet;refine wg (wpAny_specialOf hT QM.lookup ?_)
 show wr _ _ (isInstance (.ref a) (.type "tuple") >>= _) _ _ s
 refine wg (W5 hT isSubtype_tuple_tuple ?_);simp only[V6,Wl,if_false];refine wg (Wj ho hd ?_);refine wg ?_
 show wr _ _ (forIn items _ _) _ _ s
 rw[<- qp];refine wpAny_forIn_list _ (λdX r s'=>r.1=none/\s'=s /\ ∀v∈dX,v∈items.toList) _ ?_ ?_ _ _ ⟨rfl,rfl,λ_ h=>h⟩
 ·rintro v dX r s' ⟨hr,rfl,hall⟩
  refine wg (hi v (hall v wC) _ _ ?_);simp only[V6,Wl,if_false];exact wx ⟨rfl,rfl,λu hu'=>hall u (wB _ hu')⟩
 ·rintro ⟨r1,r2⟩ s' ⟨hr,rfl,_⟩
  simp only at hr;subst hr;exact wx h
theorem MB{a b:we}{oa ob:Obj}{xs ys:Array wf}{na nb:Nat}{bs:List Bool}{Q:Bool->wl->Prop}(hu:A.units<WF)(hoa:s.heap.get? a=some oa)(hca:oa.cls=.type "tuple")(hda:oa.data=.seq xs na)(hob:s.heap.get? b=some ob)(hcb:ob.cls=.type "tuple")(hdb:ob.data=.seq ys nb)
  (he:a=b->(bs.all id&&xs.size == ys.size)=true)
  (hi:d6 (λ(p:wf × wf)(c:Bool)=>∀(E:wf->wl->Prop)(Q:Bool->wl->Prop),Q c s->wr (model prog w) A.in1 (eqBool p.1 p.2) Q E s) (xs.toList.zip ys.toList) bs)
  (h:Q (bs.all id&&xs.size == ys.size) s):wr (model prog w) A (eqBool (.ref a) (.ref b)) Q E s:=by
 unfold eqBool
 try with_reducible refine WE ?_
 show wr _ _ (if(Value.ref a == Value.ref b)=true then _ else _) Q E s
 by_cases hab:(Value.ref a == Value.ref b)=true
 ·rw[if_pos hab]
  have e:a=b:=by have:=eq_of_beq hab;injection this
  rw[he e]at h;exact wg (wpAny_rule (wx h))
 ·rw[if_neg hab]
  have ta:s.TypeIs (.ref a) "tuple":=⟨oa,hoa,hca⟩;have tb:s.TypeIs (.ref b) "tuple":=⟨ob,hob,hcb⟩
  exact wg (wpAny_richCompare_same_room (op:=.Eq) ta tb QM
   (vW QM ta F.entry_tuple_eq (ZK hoa hda hob hcb hdb hi ⟨_,rfl,(λe=>nomatch e),vX h⟩) (F.args_tuple_eq_2 _ _)) hu)
end
def ky(R:List wf->Prop)(h:wI)(v:wf):Prop:=∃a o items n,v=.ref a/\h.get? a=some o/\o.cls=.type "tuple"/\o.data=.seq items n/\R items.toList
theorem ky.inj{R S:List wf->Prop}{h:wI}{v:wf}(x:ky R h v)(y:ky S h v):∃l,R l/\S l:=by
 obtain⟨a,o,items,n,rfl,ho,_,hd,hi⟩:=x;obtain⟨a',o',items',n',e,ho',_,hd',hi'⟩:=y;cases e;obtain rfl:o=o':=wX (ho.symm.trans ho');rw[hd]at hd'
 injection hd' with h1 _
 subst h1;exact⟨_,hi,hi'⟩
theorem ky.keeps{R S:List wf->Prop}{h h':wI}{v:wf}{d:we}{o:Obj}{es ep}(x:ky R h v)(ho:h.get? d=some o)(hd:o.data=.dict es ep)(hs:vy d h h')(r:∀l,R l->S l):ky S h' v:=by
 obtain⟨a,o',items,n,rfl,ho',hc,hd',hi⟩:=x
 have hne:a≠d:=by
  rintro rfl;obtain rfl:o'=o:=wX (ho'.symm.trans ho);rw[hd]at hd';exact nomatch hd'
 exact⟨a,o',items,n,rfl,(hs.2 a hne).trans ho',hc,hd',r _ hi⟩
def fW(prog:wL)(w:wN):HV prog w Int where
 is:=λ_ k v=>∃t,v=.int k t
 hash:=hashInt
 draws:=λ_=>1
 deep:=0
 inj:=λ⟨t,e⟩ ⟨u,f⟩=>by subst e;injection f
 keeps:=λh _ _ _=>h
 pyHash:=λ_ ⟨t,e⟩ h=>by subst e;exact wpAny_pyHash_int h
 eqBool:=λ_ ⟨t,e⟩ ⟨u,f⟩ h=>by subst e f;exact wpAny_eqBool_int h
 quiet:=λn _ ⟨t,e⟩ h=>by subst e;rw[eqIsQuiet_byValue n rfl];exact wx h
section
variable{prog:wL}{w:wN}{K:Type}[DecidableEq K](e:HV prog w K)
theorem OU{A:ve}{s:wl}(hu:A.in1.units+e.deep<WF):∀{ks:List K}{vs:List wf},d6 (e.is s.heap) ks vs ->
  d6 (λv (x:Int × Nat)=>∀(E:wf->wl->Prop)(Q:Int->wl->Prop)(s':wl),s'.heap=s.heap->Q x.1 {s' with toks:=s'.toks+x.2}->wr (model prog w) A.in1 (pyHash v) Q E s') vs (ks.map λk=>(e.hash k,e.draws k))
 | _,_,.nil=>.nil
 | _,_,.cons h t=>.cons (λE Q s' he q=>e.pyHash hu (he ▸ h) q) (OU hu t)
theorem RX{A:ve}{s:wl}(hu:A.in1.units+e.deep<WF):∀{ks js:List K}{us vs:List wf},d6 (e.is s.heap) ks us->d6 (e.is s.heap) js vs ->
  ∃bs,d6 (λ(p:wf × wf)(c:Bool)=>∀(E:wf->wl->Prop)(Q:Bool->wl->Prop),Q c s->wr (model prog w) A.in1 (eqBool p.1 p.2) Q E s) (us.zip vs) bs/\(bs.all id&&us.length == vs.length)=decide (ks=js)
 | _,_,_,_,.nil,.nil=>⟨[],.nil,by simp⟩
 | _,_,_,_,.nil,.cons _ _=>⟨[],.nil,by simp⟩
 | _,_,_,_,.cons _ _,.nil=>⟨[],.nil,by simp⟩
 | k::ks,j::js,_,_,.cons h t,.cons h' t'=>by
  obtain⟨bs,b1,b2⟩:=RX hu t t';refine⟨decide (k=j)::bs,.cons (λE Q q=>e.eqBool hu h h' q) b1,?_⟩;rw[xk,Bool.and_assoc,vP,vP,show ∀a b:Nat,(a+1 == b+1)=(a == b)from λa b=>by simp,b2]
  by_cases h1:k=j<;>by_cases h2:ks=js<;>simp[h1,h2]
theorem Ay{h:wI} : ∀{ks js:List K}{vs:List wf},d6 (e.is h) ks vs->d6 (e.is h) js vs->ks=js
 | _,_,_,.nil,.nil=>rfl
 | _,_,_,.cons h t,.cons h' t'=>by rw[e.inj h h',Ay t t']
theorem Km{α β : Type}{R S : α -> β -> Prop}(f:∀a b,R a b->S a b):∀{l:List α}{m:List β},d6 R l m->d6 S l m
 | _,_,.nil=>.nil
 | _,_,.cons h t=>.cons (f _ _ h) (Km f t)
theorem Ow{α β : Type}{R : α -> β -> Prop} : ∀{l:List α}{m:List β},d6 R l m->∀y∈m,∃x,R x y
 | _,_,.nil,y,hy=>by cases hy
 | _,_,.cons h t,y,hy=>by
  rcases wG.mp hy with rfl | hy
  ·exact⟨_,h⟩
  ·exact Ow t y hy
def fQ:HV prog w (List K) where
 is:=λh ks v=>ky (d6 (e.is h) ks) h v
 hash:=λks=>reduceHash (vN ((ks.map λk=>(e.hash k,e.draws k)).map (·.1)))
 draws:=λks=>((ks.map λk=>(e.hash k,e.draws k)).map (·.2)).sum+1
 deep:=e.deep+1
 inj:=λx y=>by
  obtain⟨l,h1,h2⟩:=x.inj y;exact Ay e h1 h2
 keeps:=λx ho hd hs=>x.keeps ho hd hs λl h=>Km (λa b r=>e.keeps r ho hd hs) h
 pyHash:=λ{A E s k v Q} hu x h=>by
  obtain⟨a,o,items,n,rfl,ho,hc,hd,hi⟩:=x;exact PC (by lia) ho hc hd (OU e (show A.units+1+e.deep<WF by lia) hi) h
 eqBool:=λ{A E s x y u v Q} hu hx hy h=>by
  have hj:u=v->x=y:=λev=>by
   subst ev;obtain⟨l,h1,h2⟩:=hx.inj hy;exact Ay e h1 h2
  obtain⟨a,o,items,n,rfl,ho,hc,hd,hi⟩:=hx;obtain⟨a',o',items',n',rfl,ho',hc',hd',hi'⟩:=hy;obtain⟨bs,b1,b2⟩:=RX e (A:=A) (show A.units+1+e.deep<WF by lia) hi hi';have b3:(bs.all id&&items.size == items'.size)=decide (x=y):=by rw[<- b2];rfl
  refine MB (by lia) ho hc hd ho' hc' hd' (λea=>?_) b1 (by rw[b3];exact h);rw[b3];exact decide_eq_true (hj (by rw[ea]))
 quiet:=λ{A E s k v Q} n hn x h=>by
  obtain⟨a,o,items,m,rfl,ho,hc,hd,hi⟩:=x;obtain⟨j,rfl⟩:∃j,n=j+1:=⟨n-1,by lia⟩
  exact SO ho hc hd (λu hu E Q q=>by
   obtain⟨x,hx⟩:=Ow hi u hu;exact e.quiet j (by lia) hx q) h
end
section
variable{prog:wL}{w:wN}{J K:Type}[DecidableEq J][DecidableEq K](d:HV prog w J)(e:HV prog w K)
def Two(h:wI)(k:J × K)(l:List wf):Prop:=∃u v,l=[u,v]/\d.is h k.1 u/\e.is h k.2 v
def Nr:HV prog w (J × K) where
 is:=λh k v=>ky (Two d e h k) h v
 hash:=λk=>reduceHash (vN ([(d.hash k.1,d.draws k.1),(e.hash k.2,e.draws k.2)].map (·.1)))
 draws:=λk=>([(d.hash k.1,d.draws k.1),(e.hash k.2,e.draws k.2)].map (·.2)).sum+1
 deep:=max d.deep e.deep+1
 inj:=λ{h v x y} hx hy=>by
  obtain⟨l,⟨u,v,rfl,h1,h2⟩,u',v',e',h3,h4⟩:=hx.inj hy;cases e';exact Vg (d.inj h1 h3) (e.inj h2 h4)
 keeps:=λx ho hd hs=>x.keeps ho hd hs λl ⟨u,v,r,h1,h2⟩=>⟨u,v,r,d.keeps h1 ho hd hs,e.keeps h2 ho hd hs⟩
 pyHash:=λ{A E s k v Q} hu x h=>by
  obtain⟨a,o,items,n,rfl,ho,hc,hd,u,v,hl,h1,h2⟩:=x
  exact PC (by lia) ho hc hd (by
   rw[hl];exact .cons (λE Q s' he q=>d.pyHash (show A.units+1+d.deep<WF by lia) (he ▸ h1) q) (.cons (λE Q s' he q=>e.pyHash (show A.units+1+e.deep<WF by lia) (he ▸ h2) q) .nil)) h
 eqBool:=λ{A E s x y u v Q} hu hx hy h=>by
  have hj:u=v->x=y:=λev=>by
   subst ev;obtain⟨l,⟨u,v,rfl,h1,h2⟩,u',v',e',h3,h4⟩:=hx.inj hy;cases e';exact Vg (d.inj h1 h3) (e.inj h2 h4)
  obtain⟨a,o,items,n,rfl,ho,hc,hd,u,v,hl,h1,h2⟩:=hx;obtain⟨a',o',items',n',rfl,ho',hc',hd',u',v',hl',h1',h2'⟩:=hy
  have b3:([decide (x.1=y.1),decide (x.2=y.2)].all id&&items.size == items'.size)=decide (x=y):=by
   rw[<- WY,<- WY,hl,hl'];obtain⟨x1,x2⟩:=x;obtain⟨y1,y2⟩:=y
   by_cases h1:x1=y1<;>by_cases h2:x2=y2<;>simp[h1,h2]
  refine MB (bs:=[decide (x.1=y.1),decide (x.2=y.2)]) (by lia) ho hc hd ho' hc' hd' (λea=>?_) ?_ (by rw[b3];exact h)
  ·rw[b3]
   exact decide_eq_true (hj (by rw[ea]))
  ·rw[hl,hl']
   exact .cons (λE Q q=>d.eqBool (show A.units+1+d.deep<WF by lia) h1 h1' q) (.cons (λE Q q=>e.eqBool (show A.units+1+e.deep<WF by lia) h2 h2' q) .nil)
 quiet:=λ{A E s k v Q} n hn x h=>by
  obtain⟨a,o,items,m,rfl,ho,hc,hd,u,v,hl,h1,h2⟩:=x;obtain⟨j,rfl⟩:∃j,n=j+1:=⟨n-1,by lia⟩
  exact SO ho hc hd (λu hu E Q q=>by
   rw[hl]at hu;rcases wG.mp hu with rfl | hu
   ·exact d.quiet j (by lia) h1 q
   ·rw[wY]at hu
    subst hu;exact e.quiet j (by lia) h2 q) h
end
abbrev SK:=List Int × List (List Int)
def jU(prog:wL)(w:wN):HV prog w SK:=Nr (fQ (fW prog w)) (fQ (fQ (fW prog w)))
def zBO(prog:wL)(w:wN):HeapKind prog w SK where
 is:=λh k a=>(jU prog w).is h k (.ref a)
 hash:=(jU prog w).hash
 draws:=(jU prog w).draws
 room:=λA=>A.units+3<WF
 inj:=λx y=>(jU prog w).inj x y
 keeps:=λx ho hd hs=>(jU prog w).keeps x ho hd hs
 pyHash:=λhu hk h=>(jU prog w).pyHash hu hk h
 eqBool:=λhu hx hy h=>(jU prog w).eqBool hu hx hy h
 quiet:=λhk h=>(jU prog w).quiet 8 (by show 3<=8;decide) hk h
end TB
namespace L2
open PySem PySem.Spec PyProof.Rows GM
open TB (SK zBO jU fQ fW Nr d6)
theorem La{P:wL}{w:wN}{h:wI} : ∀{us:List wf}{ns:List Int},IntsAre us ns->d6 ((fW P w).is h) ns us
 | _,_,.nil=>.nil
 | _,_,.cons n t r=>.cons ⟨t,rfl⟩ (La r)
section
variable{X:Cx}{pins:List (we × Obj)}{σ : St}{H:Hp}{s:wl}
theorem Inv.Ub(I:Inv X pins σ H s){v:V}{u:wf}{k:List Int}(h:Is X.K H v (TZ k))(r:a_ v u):(fQ (fW X.prog X.w)).is s.heap k u:=by
 obtain⟨q,rfl,hs⟩:=oS.mp h;obtain⟨its,r',⟨o,e,hc,n,hd⟩,_⟩:=I.tuple hs;cases (show u=Value.ref q from r);exact⟨q,o,its.toArray,n,rfl,e,hc,hd,La (Di r')⟩
end
def Za(l:List (Int × Nat)):Int:=reduceHash (vN (l.map (·.1)))
def zDi(ks:List Int):Int:=Za (ks.map λk=>(hashInt k,1))
section
variable{X:Cx}{pins:List (we × Obj)}{σ : St}{H:Hp}{s:wl}{a b:we}{xs:List (SK × we × Int)}{ps:List Int}{cm:List (List Int)}{A:ve}{E:wf->wl->Prop}
end
section
variable{X:Cx}{pos pos':Pos}{i o value:Expr}{ty td tv:TE}
end
section
variable{K:wa}{H H':Hp}{Q:VK}{D:ck}{σ : St}{td ty tv:TE}{a b:we}{xs:List (SK × we × Int)}{ps:List Int}{cm:List (List Int)}{n:Int}
end
section
variable{X:Cx}{N':List Str}{scope:Scope}{cl:List (Str × we)}{src:List (Option Nat)}{elt tgt iter:Expr}{ifs:List Expr}{pos:Pos}{wi:TI}{g:TG}{tt:TT}{te:TE}
end
end L2
namespace TB
open PySem PySem.Spec PyProof.Rows
def dy(prog:wL)(w:wN):HeapKind prog w (List Int) where
 is:=λh k a=>(fQ (fW prog w)).is h k (.ref a)
 hash:=(fQ (fW prog w)).hash
 draws:=(fQ (fW prog w)).draws
 room:=λA=>A.units+1<WF
 inj:=λx y=>(fQ (fW prog w)).inj x y
 keeps:=λx ho hd hs=>(fQ (fW prog w)).keeps x ho hd hs
 pyHash:=λhu hk h=>(fQ (fW prog w)).pyHash hu hk h
 eqBool:=λhu hx hy h=>(fQ (fW prog w)).eqBool hu hx hy h
 quiet:=λhk h=>(fQ (fW prog w)).quiet 8 (by show 1<=8;decide) hk h
section
variable{prog:wL}{w:wN}{K:Type}[DecidableEq K]{knd:HeapKind prog w K}{A:ve}{E:wf->wl->Prop}{s:wl}
end
end TB
namespace L2
open PySem PySem.Spec PyProof.Rows GM
open TB (dy fQ fW)
abbrev NE:=List Int × we × we
def pU(x:NE)(e:DictEntry):Prop:=e=⟨zDi x.1,.ref x.2.1,.ref x.2.2⟩
def gS(a:we)(ep:Nat)(xs:List NE):HO:=.ext λh=>xs.length<=1000/\(a == sysModules)=false/\(xs.map (·.1)).Nodup /\ ∃o es,h.get? a=some o/\o.ExactDict/\o.data=.dict es ep/\Paired pU xs es.toList
def yk(K:wa)(H:Hp)(xs:List NE):Prop:=∀x∈xs,Is K H (.ref x.2.1) (TZ x.1)
def ly(xs:List NE)(k:List Int):Option we:=(xs.find? λx=>decide (x.1=k)).map (·.2.2)
theorem ZV{P:wL}{w:wN}{H:Hp}{h:wI}{a:we}{ep:Nat}{xs:List NE}(z:xs.length<=1000)(hd:(a == sysModules)=false)(nd:(xs.map (·.1)).Nodup){o:Obj}{es:Array DictEntry}(ho:h.get? a=some o)(hx:o.ExactDict)(hda:o.data=.dict es ep)(r:Paired pU xs es.toList) :
  dM P w H h a (gS a ep xs):=⟨⟨z,hd,nd,o,es,ho,hx,hda,r⟩,⟨o,ho⟩,λh1 h2 ⟨z,hd,nd,o,es,ho,q⟩ k=>⟨z,hd,nd,o,es,k _ ho,q⟩⟩
def iC(xs:List NE):List (List Int × we × wf):=xs.map λx=>(x.1,x.2.1,.ref x.2.2)
theorem zC7{P:wL}{w:wN}{xs:List NE}{es:List DictEntry}(r:Paired pU xs es):es=(iC xs).map (entryOfKey (dy P w)):=by
 induction r with
 | nil=>rfl
 | @cons x e xs es hx r ih =>
  show e::es=_::(iC xs).map (entryOfKey (dy P w))
  rw[<- ih,show e=_ from hx]
  rfl
theorem MK{P:wL}{w:wN} : ∀xs:List NE,Paired pU xs ((iC xs).map (entryOfKey (dy P w)))
 | []=>.nil
 | x::xs=>.cons rfl (MK xs)
theorem zBy(xs:List NE)(k:List Int):(atKey (iC xs) k).map (·.2)=(ly xs k).map Value.ref:=by
 induction xs with
 | nil=>rfl
 | cons x xs ih =>
  unfold atKey ly iC at *;rw[w8,XM,XM]
  by_cases e:x.1=k
  ·simp[e]
  ·simp only[e,decide_false]
   exact ih
section
variable{X:Cx}{pins:List (we × Obj)}{σ : St}{H:Hp}{s:wl}{a b q:we}{ep:Nat}{xs:List NE}{k:List Int}{A:ve}{E:wf->wl->Prop}
theorem Inv.nK(I:Inv X pins σ H s)(h:Is X.K H (.ref b) (TZ k)):(dy X.prog X.w).is s.heap k b:=I.Ub h rfl
theorem Inv.Jz(I:Inv X pins σ H s)(e:H a=some (gS a ep xs)):xs.length<=1000/\(a == sysModules)=false/\(xs.map (·.1)).Nodup /\ ∃o es,s.heap.get? a=some o/\o.ExactDict/\o.data=.dict es ep/\Paired pU xs es.toList :=
 (show dM X.prog X.w H s.heap a (gS a ep xs)from I.aJ a _ e).1
end
section
variable{X:Cx}{o e f:Expr}{apos cpos pos:Pos}{td ty tx:TE}{tg:Expr}
end
section
variable{K:wa}{H H':Hp}{Q:VK}{D:ck}{σ : St}{td ty tx te:TE}{g:TG}{tt:TT}{a b q:we}{ep:Nat}{xs:List NE}{k:List Int}{src:List (Option Nat)}
end
section
variable{X:Cx}{N':List Str}{scope:Scope}{cl:List (Str × we)}{src:List (Option Nat)}{elt tgt iter:Expr}{ifs:List Expr}{pos:Pos}{wi:TI}{g:TG}{tt:TT}{te:TE}
end
end L2
namespace TB
open PySem PySem.W PyProof.Rows
theorem KR:entryFor table "dict.update.loop"=some Builtin.«dict.update.loop»:=entryFor_of_tree (by kernel_rfl)
theorem tf:plainId "dict.update.loop"=true:=by decide +kernel
theorem V_:typeLookup (.type "zip") "keys"=pure none:=am_miss_of_fast (by decide +kernel)
theorem zlA:typeLookup (.type "zip") "__getattr__"=pure none:=by rw[typeLookup_type,builtinLookup_eq_fast];kernel_rfl
theorem UJ:entryFor table "zip.__getattribute__"=some Builtin.«object.__getattribute__» :=
 entryFor_alias (id':="object.__getattribute__") (by kernel_rfl) (by decide +kernel) (by decide +kernel) (by kernel_rfl)
theorem Ur(a:we)(fs:Array wf)(sl:Array (Option wf))(name:Str)(u:Tok)(hmiss:typeLookup (.type "zip") name=pure none)(hname:(["__module__","__name__","__qualname__","__doc__","__annotations__"]:List Str).contains name=false)(hsz:name.length+100<=w5:=by size_fits) :
  Meets (Builtin.«object.__getattribute__» ⟨[.ref a,.str name u],[]⟩) (λA R s=>s.heap.get? a=some {cls:=.type "zip",dict:=none,data:=.fields fs,slots:=sl}/\raisesAttr (.ref a) name A R s) :=
 Meets.of_wp λprog w A R s hs=>by
  obtain⟨hp,g,d,tk,os⟩:=s;obtain⟨hx,hs⟩:=hs;have hT:(⟨hp,g,d,tk,os⟩:wl).TypeIs (.ref a) "zip":=⟨_,hx,rfl⟩;unfold Builtin.«object.__getattribute__»
  repeat(any_goals(first | assumption | wp_step))
  simp only[hname,Wl,if_false]
  repeat(any_goals(first | assumption | wp_step))
  exact wpAny_raiseAttrError hs.1 hs.2 (attrMsg_fits (by decide +kernel) hsz)
section
variable{prog:wL}{w:wN}{A:ve}{E:wf->wl->Prop}{s:wl}
theorem ZW{a:we}{fs:Array wf}{sl:Array (Option wf)}{Q:Option wf->wl->Prop}
  (hx:s.heap.get? a=some {cls:=.type "zip",dict:=none,data:=.fields fs,slots:=sl}) (hA:A.handled=none)
  (q:∀h' tk,(∀b ob,s.heap.get? b=some ob->h'.get? b=some ob)->Q none {s with heap:=h',toks:=tk}) :
  wr (model prog w) A (getAttr? (.ref a) "keys") Q E s:=by
 obtain⟨hp,g,d,tk,os⟩:=s;have hT:∀tk',(⟨hp,g,d,tk',os⟩:wl).TypeIs (.ref a) "zip":=λ_=>⟨_,hx,rfl⟩
 have f1:=sub_AttributeError;have f3:=VQ.lookup;have f4:=VQ.bind (.ref a);have f5:=zlA;unfold getAttr? getAttrBy? getAttrBy
 repeat(any_goals(first | assumption | exact hT _ | ((with_reducible show wr _ _ (call (Value.builtin "zip.__getattribute__") _ _) _ _ _);refine call_meets VQ (hT _) UJ (PySem.F.args_zip_getattribute_2 _ _) (Ur a fs sl "keys" _ V_ (by decide +kernel)) ⟨hx,hA,λh' tk' e hx'=>?_⟩) | wp_step))
 obtain⟨t',u',he⟩:=hx'.there
 show wr _ _ (getattributeRaised _ _ _ _ _ _ _) _ _ _
 unfold getattributeRaised
 repeat(any_goals(first | assumption | wp_step))
 exact q _ _ hx'.keeps
theorem zxn{p:we}{x y:wf}(h:Wk s.heap p x y){Q:List wf->wl->Prop}(q:Q [x,y] s):wr (model prog w) A (Q1 (.ref p)) Q E s:=by
 have hT:s.TypeIs (.ref p) "tuple":=⟨_,h,rfl⟩;unfold Q1;refine wg (wpAny_typeOf hT ?_);rw[if_pos (by decide)];refine wg (Wj h rfl ?_);exact wx q
abbrev kZ(h:wI)(z TI TO p:we)(f:Bool):Prop :=
 h.get? z=some {cls:=.type "zip",dict:=none,data:=.fields #[Vp p,.bool f,.bool false,.ref TI,.ref TO],slots:=#[]}
end
section
variable{prog:wL}{w:wN}{A:ve}{E:wf->wl->Prop}{s:wl}{z TI TO i1 i2 p:we}{f:Bool}{f1 f2:List we}{n1 n2 k:Nat}{P1 P2:Nat->wf->Prop}{S1 S2:Nat->wI->Prop}{a b:wf}
theorem SW{op:Obj}{Q:Bool->wl->Prop}(hz:kZ s.heap z TI TO p f)(hp:s.heap.get? p=some op)
  (q:∀g,kZ g z TI TO p true->vy z s.heap g->Q false {s with heap:=g}):wr (model prog w) A (vx (.ref z)) Q E s:=by
 unfold vx;refine wg (vj hz rfl (x:=Vp p) rfl ?_)
 show wr _ _ (loadIfAlive ((p:Int).toNat) >>= _) _ _ _
 rw[wP];refine wg (kdx_alive hp ?_);simp only[Option.isNone_some,Wl,if_false];refine wg (vj hz rfl (x:=.bool f) rfl ?_);cases f with
 | true =>
  rw[if_neg (show ¬ ((Value.bool true != Value.bool true)=true)from vn)];exact wx (q _ hz (Heap.SameBut.refl _ _))
 | false =>
  rw[if_pos (show(Value.bool false != Value.bool true)=true from rfl)];refine wg (WO hz (by simp) λg hg sb=>?_);exact wx (q g hg sb)
theorem zDS{op:Obj}{Q:wf->wl->Prop}(D1:Draws prog w A i1 f1 n1 P1 S1)(D2:Draws prog w A i2 f2 n2 P2 S2)(ap:L2.ZA z TI TO i1 i2 f1 f2)(hz:kZ s.heap z TI TO p f)(hi:Wk s.heap TI (.ref i1) (.ref i2))(hp:s.heap.get? p=some op)
  (h1:S1 k s.heap) (h2:S2 k s.heap) (l1:k<n1) (l2:k<n2)
  (fin:∀x y h' tk,P1 k x->P2 k y->kZ h' z TI TO p true->S1 (k+1) h'->S2 (k+1) h'->Wk h' s.heap.objs.size x y ->
   (∀c o,c≠z->c≠i1->c≠i2->s.heap.get? c=some o->h'.get? c=some o)->Q (.ref s.heap.objs.size) {s with heap:=h',toks:=tk}) :
  wr (model prog w) A (Builtin.«zip.__next__» ⟨[.ref z],[]⟩) (λr s'=>∃v,r=.done (.ret v)/\Q v s') E s:=by
 show wr _ _ (field (.ref z) 2 >>= _) _ _ _;refine wg (vj hz rfl (x:=.bool false) rfl ?_)
 show wr _ _ (field (.ref z) 3 >>= _) _ _ _;refine wg (vj hz rfl (x:=.ref TI) rfl ?_)
 refine wg (Wj hi rfl ?_);show wr _ _ (vx (.ref z) >>= _) _ _ _
 refine wg (SW hz hp λg0 hz0 sb0=>?_);have sb0:vy z s.heap g0:=sb0;simp only[Wl,if_false];refine wg ?_;rw[<- qp];simp only[qc,qX];have h1a:S1 k g0:=D1.frame _ _ _ h1 λc hc o e=>sb0.extBut c o (λq=>ap.b1 (q ▸ hc)) e
 have h2a:S2 k g0:=D2.frame _ _ _ h2 λc hc o e=>sb0.extBut c o (λq=>ap.b2 (q ▸ hc)) e
 refine wg (wg (WE ?_))
 show wr _ _ (vA (.ref i1) >>= _) _ _ _
 refine wg (D1.item k _ _ _ l1 h1a λx g1 t1 px h1b sb1=>wx ?_);have sb1:vy i1 g0 g1:=sb1;have h2b:S2 k g1:=D2.frame _ _ _ h2a λc hc o e=>sb1.extBut c o (λq=>ap.b5 (q ▸ hc)) e
 refine wx ?_;refine wg (wg (WE ?_))
 show wr _ _ (vA (.ref i2) >>= _) _ _ _
 refine wg (D2.item k _ _ _ l2 h2b λy g2 t2 py h2c sb2=>wx ?_);have sb2:vy i2 g1 g2:=sb2;have h1c:S1 (k+1) g2:=D1.frame _ _ _ h1b λc hc o e=>sb2.extBut c o (λq=>ap.b6 (q ▸ hc)) e
 refine wx (wx ?_);refine wg (wpAny_newTuple (hsz:=by show 2<=w5;rw[sizeLine_eq];decide) ?_);have hsz:g2.objs.size=s.heap.objs.size:=by rw[sb2.1,sb1.1,sb0.1]
 have kept:∀c o,c≠z->c≠i1->c≠i2->s.heap.get? c=some o->g2.get? c=some o:=λc o c1 c3 c4 e=>sb2.extBut _ _ c4 (sb1.extBut _ _ c3 (sb0.extBut _ _ c1 e))
 have zz:kZ g2 z TI TO p true:=sb2.extBut _ _ ap.a4.symm (sb1.extBut _ _ ap.a3.symm hz0);refine wx ⟨_,rfl,?_⟩
 show Q (.ref g2.objs.size) _
 have new:Wk (g2.push {cls:=.type "tuple",data:=.seq #[x,y]}) g2.objs.size x y:=wM _ rfl;rw[hsz]at new ⊢;exact fin x y _ _ px py (wn _ zz) (D1.frame _ _ _ h1c λc hc o e=>wn _ e) (D2.frame _ _ _ h2c λc hc o e=>wn _ e) new λc o c1 c3 c4 e=>wn _ (kept c o c1 c3 c4 e)
theorem Zy{op:Obj}{Q:Fin->wl->Prop}(D1:Draws prog w A i1 f1 n1 P1 S1)(ap:L2.ZA z TI TO i1 i2 f1 f2)(hz:kZ s.heap z TI TO p f)(hi:Wk s.heap TI (.ref i1) (.ref i2))(hp:s.heap.get? p=some op)(h1:S1 n1 s.heap)
  (fin:∀h' e tk,(∀c o,c≠z->c≠i1->s.heap.get? c=some o->h'.get? c=some o)->(∃o,h'.get? e=some o/\o.cls=.type "StopIteration")->E (.ref e) {s with heap:=h',toks:=tk}) :
  wr (model prog w) A (Builtin.«zip.__next__» ⟨[.ref z],[]⟩) Q E s:=by
 show wr _ _ (field (.ref z) 2 >>= _) _ _ _;refine wg (vj hz rfl (x:=.bool false) rfl ?_)
 show wr _ _ (field (.ref z) 3 >>= _) _ _ _;refine wg (vj hz rfl (x:=.ref TI) rfl ?_)
 refine wg (Wj hi rfl ?_);show wr _ _ (vx (.ref z) >>= _) _ _ _
 refine wg (SW hz hp λg0 hz0 sb0=>?_);have sb0:vy z s.heap g0:=sb0;simp only[Wl,if_false];refine wg ?_;rw[<- qp];simp only[qc,qX];have h1a:S1 n1 g0:=D1.frame _ _ _ h1 λc hc o e=>sb0.extBut c o (λq=>ap.b1 (q ▸ hc)) e
 refine wg (wg (WE ?_))
 show wr _ _ (vA (.ref i1) >>= _) _ _ _
 exact wg (D1.done _ _ _ h1a λg1 e sb1 he=>fin g1 e _ (λc o c1 c3 q=>sb1 _ _ c3 (sb0.extBut _ _ c1 q)) he)
end
theorem nV{prog:wL}{w:wN}{h h':wI}{k:List Int}{a:we}(x:(dy prog w).is h k a)(e:∀o,h.get? a=some o->h'.get? a=some o):(dy prog w).is h' k a:=by
 obtain⟨a',o,items,n,ea,ho,hc,hd,r⟩:=x;cases ea;exact⟨a,o,items,n,rfl,e o ho,hc,hd,r⟩
def jH(base:we)(h h':wI):Prop:=∀b o,b<base->h.get? b=some o->h'.get? b=some o
theorem jH.trans{base:we}{h h' h'':wI}(x:jH base h h')(y:jH base h' h''):jH base h h'':=λb o hb e=>y b o hb (x b o hb e)
structure ZB(base z TI TO i1 i2 d a b:we):Prop where
 ap:L2.ZA z TI TO i1 i2 [i1,a] [i2,b]
 na:a≠i1
 nb:b≠i2
 bz:base<=z
 bO:base<=TO
 b1:base<=i1
 b2:base<=i2
 bd:base<=d
 dz:d≠z
 dI:d≠TI
 dO:d≠TO
 d1:d≠i1
 d2:d≠i2
 la:a<base
 lb:b<base
def lE(z TI TO i1 i2 d a b:we)(its jts:Array wf)(i:Nat)(h:wI):Prop:=Wk h TI (.ref i1) (.ref i2)/\(h.IsTupleIter i1 a i/\h.IsTuple a its)/\(h.IsTupleIter i2 b i/\h.IsTuple b jts) /\
 ((∃x y,IsZip h z TI TO .none/\Wk h TO x y) \/ ∃p f op,kZ h z TI TO p f/\h.get? p=some op/\p≠z/\p≠i1/\p≠i2/\p≠d)
section
variable{prog:wL}{w:wN}{A:ve}{E:wf->wl->Prop}{s:wl}{base z TI TO i1 i2 d a b:we}{its jts:Array wf}{i:Nat}
theorem jn(hh:A.handled=none)(it l:we)(hne:l≠it)(items:Array wf):Draws prog w A it [it,l] items.size (λi v=>items[i]? = some v) (λi h=>h.IsTupleIter it l i/\h.IsTuple l items):=L2.nT true hh it l hne items
theorem UD(B:ZB base z TI TO i1 i2 d a b)(hh:A.in1.handled=none)(st:lE z TI TO i1 i2 d a b its jts i s.heap)(hd:d<s.heap.objs.size){x y:wf}(hx:its[i]? = some x)(hy:jts[i]? = some y){Q:Option wf->wl->Prop}
  (q:∀(h':wI) tk,Wk h' s.heap.objs.size x y->lE z TI TO i1 i2 d a b its jts (i+1) h'->(∀c o,c≠z->c≠TO->c≠i1->c≠i2->s.heap.get? c=some o->h'.get? c=some o)->Q (some (.ref s.heap.objs.size)) {s with heap:=h',toks:=tk}) :
  wr (model prog w) A (pyNext (.ref z)) Q E s:=by
 obtain⟨hi,s1,s2,hz⟩:=st
 have lt1:i<its.size:=by
  rcases wD i its.size with z | z
  ·exact z
  ·rw[Q2 z]at hx;cases hx
 have lt2:i<jts.size:=by
  rcases wD i jts.size with z | z
  ·exact z
  ·rw[Q2 z]at hy;cases hy
 have ap:=B.ap;unfold pyNext;rcases hz with⟨x0,y0,hz,ho⟩ | ⟨p,f,op,hz,hp,p1,p2,p3,p4⟩
 ·have hT:s.TypeIs (.ref z) "zip":=⟨_,hz,rfl⟩
  have ltz:=wA hz
  refine wg (Vj (wpAny_callSpecial?_slot (name:=vL "__next__") hT We (vW We hT VD
   (L2.Jx (jn (A:=A.in1) hh i1 a B.na its) (jn (A:=A.in1) hh i2 b B.nb jts) ap hz hi ho s1 s2 lt1 lt2 λv1 v2 h1 tk e1 e2 hz1 ho1 st1 st2 hT1 hk=>wx ?_) (Vo _))))
  rw[hx]at e1;cases e1;rw[hy]at e2;cases e2;have l1:i1<s.heap.objs.size:=by obtain⟨o,e,_⟩:=s1.1;exact wA e
  have l2:i2<s.heap.objs.size:=by obtain⟨o,e,_⟩:=s2.1;exact wA e
  exact q h1 tk hT1 ⟨hk _ _ ap.a1 ap.a5 ap.a6 ap.a7 hi,st1,st2,.inr ⟨s.heap.objs.size,false,_,hz1,hT1,vf ltz,vf l1,vf l2,vf hd⟩⟩ hk
 ·have hT:s.TypeIs (.ref z) "zip":=⟨_,hz,rfl⟩
  refine wg (Vj (wpAny_callSpecial?_slot (name:=vL "__next__") hT We (vW We hT VD
   (zDS (jn (A:=A.in1) hh i1 a B.na its) (jn (A:=A.in1) hh i2 b B.nb jts) ap hz hi hp s1 s2 lt1 lt2 λv1 v2 h1 tk e1 e2 hz1 st1 st2 hT1 hk=>wx ?_) (Vo _))))
  rw[hx]at e1;cases e1;rw[hy]at e2;cases e2;exact q h1 tk hT1 ⟨hk _ _ ap.a1 ap.a6 ap.a7 hi,st1,st2,.inr ⟨p,true,op,hz1,hk _ _ p1 p2 p3 hp,p1,p2,p3,p4⟩⟩ λc o c1 _ c3 c4 e=>hk c o c1 c3 c4 e
theorem zDR(B:ZB base z TI TO i1 i2 d a b)(hh:A.in1.handled=none)(st:lE z TI TO i1 i2 d a b its jts its.size s.heap){Q:Option wf->wl->Prop}
  (q:∀(h':wI) tk,(∀c o,c≠z->c≠TO->c≠i1->c≠i2->s.heap.get? c=some o->h'.get? c=some o)->Q none {s with heap:=h',toks:=tk}) :
  wr (model prog w) A (pyNext (.ref z)) Q E s:=by
 obtain⟨hi,s1,s2,hz⟩:=st;have ap:=B.ap;unfold pyNext;rcases hz with⟨x0,y0,hz,ho⟩ | ⟨p,f,op,hz,hp,p1,p2,p3,p4⟩
 ·have hT:s.TypeIs (.ref z) "zip":=⟨_,hz,rfl⟩
  refine wg (Vj (wpAny_callSpecial?_slot (name:=vL "__next__") hT We (vW We hT VD
   (L2.JA (k:=its.size) (jn (A:=A.in1) hh i1 a B.na its) (jn (A:=A.in1) hh i2 b B.nb jts) ap hz hi ho s1 s2 (.inl rfl) λh' y tk hk hx'=>?_) (Vo _))))
  obtain⟨o,ho',hcl⟩:=hx';exact wg (W5 (T:="StopIteration") (b:=true) ⟨o,ho',hcl⟩ isSubtype_stop (wx (q h' tk hk)))
 ·have hT:s.TypeIs (.ref z) "zip":=⟨_,hz,rfl⟩
  refine wg (Vj (wpAny_callSpecial?_slot (name:=vL "__next__") hT We (vW We hT VD
   (Zy (jn (A:=A.in1) hh i1 a B.na its) ap hz hi hp s1 λh' y tk hk hx'=>?_) (Vo _))))
  obtain⟨o,ho',hcl⟩:=hx';exact wg (W5 (T:="StopIteration") (b:=true) ⟨o,ho',hcl⟩ isSubtype_stop (wx (q h' tk λc o c1 _ c3 _ e=>hk c o c1 c3 e)))
end
theorem lE.but{base z TI TO i1 i2 d a b:we}{its jts:Array wf}{i:Nat}{h g:wI}(st:lE z TI TO i1 i2 d a b its jts i h)(B:ZB base z TI TO i1 i2 d a b)(sb:vy d h g):lE z TI TO i1 i2 d a b its jts i g:=by
 obtain⟨hi,s1,s2,hz⟩:=st;have da:a≠d:=wO (wU B.la B.bd);have db:b≠d:=wO (wU B.lb B.bd);refine⟨sb.extBut _ _ B.dI.symm hi,⟨s1.1.at λo e=>sb.extBut _ _ B.d1.symm e,s1.2.at λo e=>sb.extBut _ _ da e⟩,⟨s2.1.at λo e=>sb.extBut _ _ B.d2.symm e,s2.2.at λo e=>sb.extBut _ _ db e⟩,?_⟩;rcases hz with⟨x0,y0,hz,ho⟩ | ⟨p,f,op,hz,hp,p1,p2,p3,p4⟩
 ·exact .inl ⟨x0,y0,sb.extBut _ _ B.dz.symm hz,sb.extBut _ _ B.dO.symm ho⟩
 ·exact .inr ⟨p,f,op,sb.extBut _ _ B.dz.symm hz,sb.extBut _ _ p4 hp,p1,p2,p3,p4⟩
section
variable{prog:wL}{w:wN}{A:ve}{R:Result->wl->Prop}{base z TI TO i1 i2 d a b:we}{its jts:Array wf}{key:Nat->List Int}{ka:Nat->we}{val:Nat->wf}
theorem UE(B:ZB base z TI TO i1 i2 d a b)(hh:A.in1.in1.handled=none)(hu:A.in1.units+1<WF)(hl:jts.size=its.size)(hn:its.size<=999)(hx:∀i,i<its.size->its[i]? = some (.ref (ka i)))(hy:∀i,i<its.size->jts[i]? = some (val i))
  (lk:∀i,i<its.size->ka i<base) (hk:∀i j,i<its.size->j<its.size->key i=key j->i=j) :
  ∀(c i:Nat)(s:wl),its.size-i=c->i<=its.size->lE z TI TO i1 i2 d a b its jts i s.heap->(∀j,j<its.size->(dy prog w).is s.heap (key j) (ka j))->s.heap.DictOfH (dy prog w) d ((wq i).map λj=>(key j,ka j,val j)) ->
   (∀(g:wI)(tk:Nat),jH base s.heap g->g.DictOfH (dy prog w) d ((wq its.size).map λj=>(key j,ka j,val j))->R (.ok (.ret .none)) {s with heap:=g,toks:=tk}) ->
   codeAny (model prog w) A (.builtin "dict.update.loop" ⟨[.ref d,.ref z,Vp i,.none],[]⟩) R s:=by
 have lift:∀{h h':wI}{xs:List (List Int × we × wf)},h.DictOfH (dy prog w) d xs->(∀x∈xs,x.2.1<base)->jH base h h'->(∀o,h.get? d=some o->h'.get? d=some o)->h'.DictOfH (dy prog w) d xs:=λx hb bl hd=>by
  obtain⟨o,es,ep,ho,hc,hda,he,his,hn⟩:=x;exact⟨o,es,ep,hd o ho,hc,hda,he,λx hx=>nV (his x hx) λo e=>bl _ o (hb x hx) e,hn⟩
 have lo:∀{h h':wI},(∀c o,c≠z->c≠TO->c≠i1->c≠i2->h.get? c=some o->h'.get? c=some o)->jH base h h':=λhk c o hc e=>hk c o (wO (wU hc B.bz)) (wO (wU hc B.bO)) (wO (wU hc B.b1)) (wO (wU hc B.b2)) e
 intro c
 induction c with
 | zero =>
  intro i s ec ei st ht hs r;obtain rfl:i=its.size:=by omega
  refine codeAny_builtin KR ?_;rw[xi tf _];refine wg (m:=pyNext (.ref z)) (zDR B hh st λh' tk hk'=>?_);refine wg (wx ?_);refine wx (r h' tk (lo hk') (lift hs (λx hx=>?_) (lo hk') λo e=>hk' d o B.dz B.dO B.d1 B.d2 e));obtain⟨j,hj,rfl⟩:=wS.mp hx;exact lk j (wF.mp hj)
 | succ c ih =>
  intro i s ec ei st ht hs r;have lt:i<its.size:=by omega
  have hdl:d<s.heap.objs.size:=by obtain⟨o,_,_,ho,_⟩:=hs;exact wA ho
  refine codeAny_builtin KR ?_;rw[xi tf _];refine wg (m:=pyNext (.ref z)) (UD B hh st hdl (hx i lt) (hy i lt) λh' tk hp st' hk'=>?_);have bl:=lo hk'
  have hs':h'.DictOfH (dy prog w) d ((wq i).map λj=>(key j,ka j,val j)):=lift hs (λx hx=>by
   obtain⟨j,hj,rfl⟩:=wS.mp hx;have:=wF.mp hj;exact lk j (by omega)) bl λo e=>hk' d o B.dz B.dO B.d1 B.d2 e
  have ht':∀j,j<its.size->(dy prog w).is h' (key j) (ka j):=λj hj=>nV (ht j hj) λo e=>bl _ o (lk j hj) e
  refine wg (WE (wg (wpAny_tryCatch (zxn hp ?_))));refine WE (wpAny_dictSet_heap (knd:=dy prog w) (k:=key i) hu (ht' i lt) hs' (λh2 hd2 sb=>?_) (by rw[wm,vB,sizeLine_eq];omega))
  have e2:storedH ((wq i).map λj=>(key j,ka j,val j)) (key i) (ka i) (val i)=(wq (i+1)).map λj=>(key j,ka j,val j):=by
   rw[storedH_new,qM,vD]
   ·rfl
   ·cases e:atKey ((wq i).map λj=>(key j,ka j,val j)) (key i)with
    | none=>rfl
    | some p =>
     unfold atKey at e;rw[W6]at e;obtain⟨y,hy',_⟩:=e;have hm:=Qt hy';have hp':=XN hy';obtain⟨j,hj,rfl⟩:=wS.mp hm;have hj:=wF.mp hj;have:=hk j i (by omega) lt (of_decide_eq_true hp');omega
  rw[e2]at hd2;have sb:vy d h' h2:=sb;refine wx ⟨plainId_quiet tf _,?_⟩;have bl2:jH base h' h2:=λc o hc e=>sb.extBut c o (wO (wU hc B.bd)) e
  have:=ih (i+1) {s with heap:=h2,toks:=tk+(dy prog w).draws (key i)} (by omega) lt (st'.but B sb) (λj hj=>nV (ht' j hj) λo e=>bl2 _ o (lk j hj) e) hd2 λg tk' bl3 dd=>r g tk' (bl.trans (bl2.trans bl3)) dd
  exact this
end
section
variable{prog:wL}{w:wN}{A:ve}{E:wf->wl->Prop}{s:wl}{base z TI TO i1 i2 a b:we}{its jts:Array wf}{key:Nat->List Int}{ka:Nat->we}{val:Nat->wf}{x0 y0:wf}
theorem Ts(B:ZB base z TI TO i1 i2 s.heap.objs.size a b)(hh:A.handled=none)(hu:A.units+3<WF)(hl:jts.size=its.size)(hn:its.size<=999)(hx:∀i,i<its.size->its[i]? = some (.ref (ka i)))(hy:∀i,i<its.size->jts[i]? = some (val i))
  (lk:∀i,i<its.size->ka i<base) (hk:∀i j,i<its.size->j<its.size->key i=key j->i=j) (hz:IsZip s.heap z TI TO .none) (hi:Wk s.heap TI (.ref i1) (.ref i2)) (ho:Wk s.heap TO x0 y0) (s1:s.heap.IsTupleIter i1 a 0) (t1:s.heap.IsTuple a its) (s2:s.heap.IsTupleIter i2 b 0) (t2:s.heap.IsTuple b jts)
  (hK:∀j,j<its.size->(dy prog w).is s.heap (key j) (ka j)) {Q:wf->wl->Prop}
  (q:∀(g:wI)(tk:Nat),jH base s.heap g->g.DictOfH (dy prog w) s.heap.objs.size ((wq its.size).map λj=>(key j,ka j,val j))->Q (.ref s.heap.objs.size) {s with heap:=g,toks:=tk}) :
  wr (model prog w) A (call (.type "dict") [.ref z]) Q E s:=by
 refine callType_codes (Q₁:=λobj s₁=>obj=.ref s.heap.objs.size/\s₁ = {s with heap:=s.heap.push {cls:=.type "dict",data:=.dict #[]}}) PySem.F.kt_called_dict (PySem.F.kt_typeCall_dict_1 _) PySem.F.entry_dict_init (kt_code_dict_new _ ⟨rfl,rfl⟩) ?_;rintro obj s₁ ⟨rfl,rfl⟩;have hnew:(s.heap.push {cls:=.type "dict",data:=.dict #[]}).DictOfH (dy prog w) s.heap.objs.size []:=Heap.DictOfH.new s.heap;have hz':IsZip (s.heap.push {cls:=.type "dict",data:=.dict #[]}) z TI TO .none:=wn _ hz;refine⟨hnew.typeIs,PySem.F.args_dict_init_2 _ _,?_⟩;unfold Builtin.«dict.__init__»;refine wg ?_;unfold Builtin.Dict.selfAndRest;refine wg (wpAny_notOrdered_dict hnew.typeIs ?_)
 show wr _ _ (pure (s.heap.objs.size,[Value.ref z])) _ _ _
 refine wx ?_
 show wr _ _ (QG "dict.__init__" s.heap.objs.size (.ref z) [] .none) _ _ _
 unfold QG;refine wg (wpAny_typeOf (T:="zip") ⟨_,hz',rfl⟩ ?_);rw[if_pos (by decide)];refine wg (ZW hz' (by exact hh) λh1 tk1 kp1=>?_);simp only[Option.isNone_none,if_true];refine wg (wpAny_rule ?_);have kp0:∀b o,s.heap.get? b=some o->h1.get? b=some o:=λb o e=>kp1 b o (wn _ e)
 have dn:h1.DictOfH (dy prog w) s.heap.objs.size []:=by
  obtain⟨o,es,ep,ho,hc,hda,he,his,hn⟩:=hnew;exact⟨o,es,ep,kp1 _ _ ho,hc,hda,he,(λx hx=>by cases hx),hn⟩
 refine wg (wpAny_pyIter_zip (kp0 _ _ hz) ?_);refine wx ⟨plainId_quiet tf _,?_⟩;refine UE B (by exact hh) (show A.units+1+1+1<WF by omega) hl hn hx hy lk hk (its.size-0) 0 _ rfl (V7 _) ⟨kp0 _ _ hi,⟨s1.at λo e=>kp0 _ o e,t1.at λo e=>kp0 _ o e⟩,⟨s2.at λo e=>kp0 _ o e,t2.at λo e=>kp0 _ o e⟩,.inl ⟨x0,y0,kp0 _ _ hz,kp0 _ _ ho⟩⟩ (λj hj=>nV (hK j hj) λo e=>kp0 _ o e) dn λg tk bl dd=>?_
 exact⟨rfl,q g tk (λc o hc e=>bl c o hc (kp0 c o e)) dd⟩
end
end TB
namespace L2
open PySem PySem.Spec PyProof.Rows GM
open TB (dy fQ fW)
theorem zxO:vH "dict"=some (.type "dict"):=by decide +kernel
def gv(ks:List (List Int))(us ws:List we):List NE:=(wq us.length).map λj=>(ks.getD j [],us.getD j 0,ws.getD j 0)
def SJ(K:wa)(vs:List V)(H1:Hp)(Q:VK):Prop:=∃(a b:we)(ks:List (List Int))(us ws:List we),vs=[.ref a,.ref b]/\aV K H1 a (us.map V.ref)/\aV K H1 b (ws.map V.ref)/\us.length=ws.length/\us.length<=999/\au K H1 (us.map V.ref) (ks.map TZ)/\ks.Nodup /\
 ∀D ep,H1 D=none->Q (.ref D) (upd H1 D (gS D ep (gv ks us ws)))
def RT(K:wa)(ta:TA):TE:=λσ H Q=>ta σ H λvs H1=>SJ K vs H1 Q
theorem zDr{n d a b:Nat}(la:a<n)(lb:b<n)(hd:n+5<=d):TB.ZB n (n+4) (n+2) (n+3) n (n+1) d a b where
 ap:=M5 la lb
 na:=wO la
 nb:=wO (qC lb)
 bz:=W3 _ 4
 bO:=W3 _ 3
 b1:=wo _
 b2:=W3 _ 1
 bd:=by show n<=d;omega
 dz:=vf (by omega)
 dI:=vf (by omega)
 dO:=vf (by omega)
 d1:=vf (by omega)
 d2:=vf (by omega)
 la:=la
 lb:=lb
theorem zvQ{ks:List (List Int)}{us ws:List we}(h:ks.length=us.length):(gv ks us ws).map (·.1)=ks:=by
 unfold gv;rw[VB];refine List.ext_getElem? λj=>?_
 rw[wt];rcases wD j us.length with z | z
 ·rw[vT z,wc (by omega:j<ks.length)]
  show some (ks.getD j [])=_
  rw[wb,wc (by omega:j<ks.length)]
  rfl
 ·rw[wE (by simpa using z),wE (by omega)]
  rfl
section
variable{X:Cx}{o i:Expr}{pos:Pos}{td ty:TE}
theorem Bg:∀{ws:List V}{us:List wf},aT ws us->∀{i:Nat}{q:we},ws[i]? = some (.ref q)->us[i]? = some (.ref q)
 | _,_,.nil,i,q,h=>by simp at h
 | _,_,.cons r1 r2,0,q,h=>by
  simp only[List.getElem?_cons_zero,Qn]at h ⊢;subst h;exact r1
 | _,_,.cons r1 r2,i+1,q,h=>by
  simp only[List.getElem?_cons_succ]at h ⊢;exact Bg r2 h
theorem zxK{l m:Expr}{ta:TA}{p p2 pos2:Pos}(hc:X.calm=true)(hu:X.A.units+4<WF)(hg:Gl X "dict")(hm:X.mg "dict"=none)(hg2:Gl X "zip")(hm2:X.mg "zip"=none)(ha:PA X [l,m] ta)(hs:wT [l,m] X.env=[(false,eval l X.env),(false,eval m X.env)]:=by rfl)(hs2:wT [m] X.env=[(false,eval m X.env)]:=by rfl)
   (hs3:wT [Expr.Call (.Name "zip" p2) [l,m] [] pos2] X.env=[(false,eval (.Call (.Name "zip" p2) [l,m] [] pos2) X.env)]:=by rfl):PE X (.Call (.Name "dict" p) [.Call (.Name "zip" p2) [l,m] [] pos2] [] pos) (RT X.K ta):=by
 intro pins s σ H Q I h;refine Call_ (gI I hg hm zxO ?_);refine vi ?_ hs3 rfl;rw[hs3]
 show wr _ _ (spliced ((false,eval _ X.env)::W0 pos [])) _ _ s
 refine qZ ?_;refine Call_ (gI I hg2 hm2 AN (vi (aI (ha pos2 pins s σ H _ I h) λus s1 ⟨vs,H1,I1,r1,q1⟩=>?_) (by rw[hs,hs2]) (by rw[hs2];rfl)));obtain⟨a,b,ks,us',ws,rfl,hq1,hq2,hl,hn,hk,nd,q⟩:=q1;obtain⟨u,v,rfl,ru,rv⟩:=kQ r1;cases ru;cases rv;obtain⟨its,ri,p1⟩:=I1.iP (t:=true) hq1;obtain⟨jts,rj,p2⟩:=I1.iP (t:=true) hq2;have p1:s1.heap.IsTuple a its.toArray:=p1;have p2:s1.heap.IsTuple b jts.toArray:=p2;have la:a<s1.heap.objs.size:=by obtain⟨o,e,_⟩:=p1;exact wA e
 have lb:b<s1.heap.objs.size:=by obtain⟨o,e,_⟩:=p2;exact wA e
 have li:=ri.length;have lj:=rj.length;have lk:=hk.length;simp only[wm]at li lj lk;refine M0 p1 p2 λh' hz hi ho t1 t2 kp=>?_
 refine Qk ?_;have hd:s1.heap.objs.size+5<=h'.objs.size:=wA hz
 have hx:∀j,j<its.toArray.size->its.toArray[j]? = some (Value.ref (us'.getD j 0)):=λj hj=>by
   have hj:j<us'.length:=by simpa [li] using hj
   have:=Bg ri (show(us'.map V.ref)[j]? = some (V.ref (us'.getD j 0)) by rw[wt,wb,wc hj];rfl)
   simpa using this
 have hy:∀j,j<its.toArray.size->jts.toArray[j]? = some (Value.ref (ws.getD j 0)):=λj hj=>by
   have hj : j < ws.length := by have : j < us'.length := by simpa [li] using hj
                                 omega
   have:=Bg rj (show(ws.map V.ref)[j]? = some (V.ref (ws.getD j 0)) by rw[wt,wb,wc hj];rfl)
   simpa using this
 have hK:∀j,j<its.toArray.size->(dy X.prog X.w).is s1.heap (ks.getD j []) (us'.getD j 0):=λj hj=>by
   have hj:j<us'.length:=by simpa [li] using hj
   have:=(jZ hk (i:=j) (x:=.ref (us'.getD j 0)) (by rw[wt,wb,wc hj];rfl)).2
   have ek:(ks.map TZ).getD j .none=TZ (ks.getD j []):=by
     rw[wb,wt,wb,wc (by omega:j<ks.length)]
     rfl
   rw[ek]at this;exact I1.nK this
 refine TB.Ts (zDr la lb hd) (I1.ok.hd hc) (by omega) (by simp only[wH];omega) (by simp only[wH];omega) hx hy (λj hj=>?_) (λi j hi' hj e=>?_) hz hi ho t1 (p1.at λo e=>kp _ o e) t2 (p2.at λo e=>kp _ o e) (λj hj=>TB.nV (hK j hj) λo e=>kp _ o e) λg tk bl dd=>?_
 . obtain⟨a',o,items,n,ea,ho',_⟩:=hK j hj
   cases ea;exact wA ho'
 . have hi' : i < ks.length := by have : i < its.length := by simpa using hi'
                                  omega
   have hj : j < ks.length := by have : j < its.length := by simpa using hj
                                 omega
   rw[wb,wb,wc hi',wc hj]at e;have pw:=Wf.mp nd;rcases Vn i j with z | z | z
   . exact absurd e (pw i j hi' hj z)
   . exact z
   . exact absurd e.symm (pw j i hj hi' z)
 . obtain⟨o,es,ep,ho',hxd,hda,he,his,hnd⟩:=dd
   refine⟨.ref h'.objs.size,_,I1.laid (t':=tk) (a:=h'.objs.size) (o:=gS h'.objs.size ep (gv ks us' ws)) (λc o e=>bl c o (wA e) (kp c o e)) (by omega) (ZV ?_ (beq_eq_false_iff_ne.mpr (Wo (wO ?_))) ?_ ho' hxd hda ?_),rfl,q _ ep (I1.aJ.fresh (by omega))⟩
   . unfold gv;rw[wm,vB];omega
   . exact wU I1.big (by omega)
   . rw[zvQ (by omega)];exact nd
   . rw[he]
     have:((wq its.toArray.size).map λj=>(ks.getD j [],us'.getD j 0,Value.ref (ws.getD j 0)))=iC (gv ks us' ws):=by
       unfold iC gv;rw[VB,wH,<- li]
       rfl
     rw[this];exact MK _
def AS(K:wa)(td ty:TE):TE:=λσ H Q=>td σ H λx H1=>ty σ H1 λy H2=>∃a b ep xs k l,x=.ref a/\y=.ref b/\H2 a=some (gS a ep xs)/\yk K H2 xs/\Is K H2 (.ref b) (TZ k)/\ly xs k=some l/\Q (.ref l) H2
theorem zBw{pins:List (we × Obj)}{σ : St}{H:Hp}{s:wl}{a b l:we}{ep:Nat}{xs:List NE}{k:List Int}{A:ve}{E:wf->wl->Prop}{Q:wf->wl->Prop}(hu:A.units+4<WF)(I:Inv X pins σ H s)(e:H a=some (gS a ep xs))(hk:yk X.K H xs)(hb:Is X.K H (.ref b) (TZ k))(hl:ly xs k=some l)(h:∀s',Inv X pins σ H s'->Q (.ref l) s') :
  wr (model X.prog X.w) A (getItem (.ref a) (.ref b)) Q E s:=by
 obtain⟨z,hd,nd,o,es,ho,hx,hda,r⟩:=I.Jz e;have zk:(iC xs).map (·.1)=xs.map (·.1):=by unfold iC;rw[VB];rfl
 have dd:s.heap.DictOfH (dy X.prog X.w) a (iC xs):=⟨o,es,ep,ho,hx,hda,zC7 r,λx hx=>by
  obtain⟨y,hy,rfl⟩:=wS.mp hx;exact I.nK (hk y hy),by rw[zk];exact nd⟩
 have lk:=zBy xs k;rw[hl]at lk;cases e2:atKey (iC xs) k with
 | none=>rw[e2]at lk;cases lk
 | some p =>
  rw[e2]at lk;have:p.2=Value.ref l:=wX lk;obtain⟨p1,p2⟩:=p;have:p2=Value.ref l:=this;subst this;exact wpAny_getItem_heap (knd:=dy X.prog X.w) (show A.units+1+1<WF by omega) (I.nK hb) dd e2 (h _ (I.tok _))
theorem UZ(hu:X.A.units+4<WF)(ho:PE X o td)(hi:PE X i ty)(hs:LH i):PE X (.Subscript o i pos) (AS X.K td ty):=by
 intro pins s σ H Q I h;refine zzw PySem.F.slot_dict_getitem.lookup hs (aI (ho pins s σ H _ I h) λu s1 ⟨x,H1,I1,rx,q1⟩=>aI (hi pins s1 σ H1 _ I1 q1) λiv s2 ⟨y,H2,I2,ry,a,b,ep,xs,k,l,ex,ey,e,hk,hb,hl,q2⟩=>?_);subst ex ey;obtain rfl:u=Value.ref a:=rx;obtain rfl:iv=Value.ref b:=ry;obtain⟨_,_,_,od,es,g1,g2,_,_⟩:=I2.Jz e;exact⟨⟨od,g1,g2.1⟩,zBw hu I2 e hk hb hl λs3 I3=>⟨.ref l,H2,I3,rfl,q2⟩⟩
end
section
variable{K:wa}{σ : St}{H:Hp}{Q:VK}{td ty:TE}{ta:TA}
theorem Um(h:ta σ H λvs H1=>SJ K vs H1 Q):RT K ta σ H Q:=h
theorem zyK(h:td σ H λx H1=>ty σ H1 λy H2=>∃a b ep xs k l,x=.ref a/\y=.ref b/\H2 a=some (gS a ep xs)/\yk K H2 xs/\Is K H2 (.ref b) (TZ k)/\ly xs k=some l/\Q (.ref l) H2):AS K td ty σ H Q:=h
end
end L2
namespace G
open PySem PySem.Spec PyProof.Rows L2 GM
local macro_rules | `(tactic| wtm_at "sc")=>`(tactic| exact ⟨rfl,rfl,rfl,by decide +kernel,rfl,by decide +kernel,by decide +kernel⟩)
def top(i:Nat):wZ:=Vq.main.body.getD i (.Pass ⟨0,0,0,0⟩)
abbrev BW:wZ:=top 10
abbrev BN:List Str:=["thing"]
abbrev u4:=BN
theorem zso:aN BN u4 (aC BW):=by wtm_at "sc"
abbrev DC:wZ:=top 11
abbrev Cr:List Str:=["least","most","thing"]
abbrev tV:=Cr
theorem UR:aN Cr tV (aC DC):=by wtm_at "sc"
abbrev AH:wZ:=top 12
abbrev Lo:List Str:=["one","other","rest"]
abbrev sA:List Str:=["one","other"]
theorem tO:aN Lo sA (aC AH):=by wtm_at "sc"
abbrev EL:wZ:=top 13
abbrev Ey:List Str:=["thing"]
abbrev zo:=Ey
theorem zpP:aN Ey zo (aC EL):=by wtm_at "sc"
abbrev B1:wZ:=top 14
abbrev OK:List Str:=["one","other","shared","top","divisor"]
abbrev yV:List Str:=["one","other"]
theorem sR:aN OK yV (aC B1):=by wtm_at "sc"
abbrev Cs:wZ:=top 15
abbrev Dy:List Str:=["one","other"]
abbrev zp:=Dy
theorem zwV:aN Dy zp (aC Cs):=by wtm_at "sc"
abbrev BF:wZ:=top 16
abbrev SM:List Str:=["one","other","first","second"]
abbrev sZ:List Str:=["one","other"]
theorem Cp:aN SM sZ (aC BF):=by wtm_at "sc"
abbrev B3:wZ:=top 17
abbrev Sr:List Str:=["one","other","turned"]
abbrev y_:List Str:=["one","other"]
theorem Lm:aN Sr y_ (aC B3):=by wtm_at "sc"
abbrev EH:wZ:=top 18
abbrev CH:List Str:=["one","other"]
abbrev tW:=CH
theorem zy6:aN CH tW (aC EH):=by wtm_at "sc"
abbrev AW:wZ:=top 23
abbrev Bh:List Str:=["a"]
abbrev yX:=Bh
theorem zq1:aN Bh yX (aC AW):=by wtm_at "sc"
abbrev AZ:wZ:=top 24
abbrev A4:List Str:=["b"]
abbrev zh:=A4
theorem zro:aN A4 zh (aC AZ):=by wtm_at "sc"
abbrev C4:wZ:=top 25
abbrev Cc:List Str:=["a","b"]
abbrev zl:=Cc
theorem UL:aN Cc zl (aC C4):=by wtm_at "sc"
abbrev BE:wZ:=top 26
abbrev Fd:List Str:=["thing"]
abbrev yS:=Fd
theorem zuB:aN Fd yS (aC BE):=by wtm_at "sc"
abbrev En:wZ:=top 27
abbrev Dp:List Str:=["rule"]
abbrev ze:=Dp
theorem zzz:aN Dp ze (aC En):=by wtm_at "sc"
abbrev Bz:wZ:=top 28
abbrev Sf:List Str:=["rule","many","factor","shift","done"]
abbrev tJ:List Str:=["rule","many"]
theorem mq:aN Sf tJ (aC Bz):=by wtm_at "sc"
abbrev Ew:wZ:=top 29
abbrev EU:List Str:=["push","x"]
abbrev zB:=EU
theorem zqK:aN EU zB (aC Ew):=by wtm_at "sc"
abbrev C6:wZ:=top 33
abbrev Dg:List Str:=["thing"]
abbrev yB:=Dg
theorem YD:aN Dg yB (aC C6):=by wtm_at "sc"
abbrev yn:wZ:=top 34
abbrev ye:List Str:=["thing"]
abbrev sY:=ye
theorem ZM:aN ye sY (aC yn):=by wtm_at "sc"
abbrev DO:wZ:=top 35
abbrev CV:List Str:=["rule","phases"]
abbrev tD:=CV
theorem Yb:aN CV tD (aC DO):=by wtm_at "sc"
abbrev EC:wZ:=top 36
abbrev PF:List Str:=["phases","told","phase"]
abbrev yC:List Str:=["phases"]
theorem rP:aN PF yC (aC EC):=by wtm_at "sc"
abbrev tE:wZ:=top 37
abbrev uu:List Str:=["phases","phase"]
abbrev uz:=uu
theorem zta:aN uu uz (aC tE):=by wtm_at "sc"
abbrev sF:wZ:=top 38
abbrev DI:List Str:=["swarm","told","left","phase"]
abbrev uQ:List Str:=["swarm"]
theorem pO:aN DI uQ (aC sF):=by wtm_at "sc"
abbrev zj:wZ:=top 39
abbrev zK:List Str:=["worms","phases"]
abbrev rS:=zK
theorem zot:aN zK rS (aC zj):=by wtm_at "sc"
abbrev m3:wZ:=top 40
abbrev pF:List Str:=["swarm","wait","phases","left","waves","wave","push","worm","anew"]
abbrev rX:List Str:=["swarm"]
theorem iJ:aN pF rX (aC m3):=by wtm_at "sc"
abbrev yQ:wZ:=top 41
abbrev sT:List Str:=["swarm","c"]
abbrev zP:=sT
theorem UW:aN sT zP (aC yQ):=by wtm_at "sc"
abbrev CG:wZ:=top 43
abbrev Te:List Str:=["swarm","many","rows","hour","stand","done","told"]
abbrev yE:List Str:=["swarm","many"]
theorem ke:aN Te yE (aC CG):=by wtm_at "sc"
abbrev EW:wZ:=top 44
abbrev RZ:List Str:=["swarm","many","rows","last"]
abbrev uA:List Str:=["swarm","many"]
theorem AI:aN RZ uA (aC EW):=by wtm_at "sc"
abbrev Ca:wZ:=top 46
abbrev AX:List Str:=["swarm"]
abbrev zI:=AX
theorem zti:aN AX zI (aC Ca):=by wtm_at "sc"
abbrev oO:wZ:=top 47
abbrev rO:List Str:=["swarm","rows","sizes","places"]
abbrev tX:List Str:=["swarm"]
theorem v_:aN rO tX (aC oO):=by wtm_at "sc"
abbrev u7:wZ:=top 48
abbrev Ds:List Str:=["rule","size","phases","turn","wait","push","told"]
abbrev tG:List Str:=["rule","size","phases","turn"]
theorem yb:aN Ds tG (aC u7):=by wtm_at "sc"
abbrev Eh:wZ:=top 49
abbrev Pt:List Str:=["rule","sizes","places","told","turn","size"]
abbrev yz:List Str:=["rule","sizes","places"]
theorem yI:aN Pt yz (aC Eh):=by wtm_at "sc"
abbrev Cv:wZ:=top 50
abbrev DV:List Str:=["rule","sizes","places"]
abbrev rG:=DV
theorem Zq:aN DV rG (aC Cv):=by wtm_at "sc"
abbrev DA:wZ:=top 51
abbrev O6:List Str:=["rule","sizes","places","told","rows","turn"]
abbrev zev:List Str:=["rule","sizes","places"]
theorem oX:aN O6 zev (aC DA):=by wtm_at "sc"
abbrev uF:wZ:=top 52
abbrev AD:List Str:=["rule","sizes","places","rows","count"]
abbrev tT:List Str:=["rule","sizes","places"]
theorem DJ:aN AD tT (aC uF):=by wtm_at "sc"
abbrev pZ:wZ:=top 53
abbrev rM:List Str:=["rule","sizes","places","steps"]
abbrev tm:List Str:=["rule","sizes","places"]
theorem KY:aN rM tm (aC pZ):=by wtm_at "sc"
abbrev uS:wZ:=top 54
abbrev CB:List Str:=["rule","sizes","factor","noughts"]
abbrev yr:List Str:=["rule","sizes"]
theorem A7:aN CB yr (aC uS):=by wtm_at "sc"
abbrev zx:wZ:=top 57
abbrev Be:List Str:=["rule","sizes","both","gap"]
abbrev yA:List Str:=["rule","sizes"]
theorem DH:aN Be yA (aC zx):=by wtm_at "sc"
abbrev u_:wZ:=top 58
abbrev uL:List Str:=["both","places","of_place","of_shift"]
abbrev sQ:=uL
theorem Zu:aN uL sQ (aC u_):=by wtm_at "sc"
abbrev CW:wZ:=top 59
abbrev SX:List Str:=["both","places","many","push"]
abbrev s_:List Str:=["both","places","many"]
theorem SR:aN SX s_ (aC CW):=by wtm_at "sc"
abbrev BR:wZ:=top 60
abbrev AY:List Str:=["rule","sizes","places","many"]
abbrev tK:=AY
theorem zlj:aN AY tK (aC BR):=by wtm_at "sc"
abbrev Co:wZ:=top 61
abbrev R8:List Str:=["both","places","many","of_place","of_shift","done"]
abbrev ya:List Str:=["both","places","many"]
theorem mU:aN R8 ya (aC Co):=by wtm_at "sc"
abbrev uI:wZ:=top 62
abbrev DR:List Str:=["rule","sizes","places","many","count","mean"]
abbrev yf:List Str:=["rule","sizes","places","many"]
theorem Ax:aN DR yf (aC uI):=by wtm_at "sc"
abbrev yY:wZ:=top 63
abbrev tU:List Str:=["rule","sizes"]
abbrev tI:=tU
theorem YW:aN tU tI (aC yY):=by wtm_at "sc"
abbrev uB:wZ:=top 64
abbrev Ff:List Str:=["rule","sizes","places","way"]
abbrev yN:List Str:=["rule","sizes","places"]
theorem RG:aN Ff yN (aC uB):=by wtm_at "sc"
abbrev DS:wZ:=top 65
abbrev OC:List Str:=["rule","sizes","places","both","ahead","count"]
abbrev zQ:List Str:=["rule","sizes","places"]
theorem pH:aN OC zQ (aC DS):=by wtm_at "sc"
abbrev zG:wZ:=top 69
abbrev yO:List Str:=["row","worms"]
abbrev rV:=yO
theorem zrf:aN yO rV (aC zG):=by wtm_at "sc"
abbrev CY:wZ:=top 70
abbrev CP:List Str:=["thing","worms"]
abbrev yi:=CP
theorem YM:aN CP yi (aC CY):=by wtm_at "sc"
abbrev Bc:wZ:=top 71
abbrev Bw:List Str:=["thing","worms"]
abbrev zF:=Bw
theorem znS:aN Bw zF (aC Bc):=by wtm_at "sc"
abbrev yJ:wZ:=top 72
abbrev rW:List Str:=["thing","worms"]
abbrev zT:=rW
theorem zrm:aN rW zT (aC yJ):=by wtm_at "sc"
abbrev Bf:wZ:=top 73
abbrev NR:List Str:=["swarm","rounds","both","last"]
abbrev sI:List Str:=["swarm","rounds"]
theorem Bn:aN NR sI (aC Bf):=by wtm_at "sc"
abbrev yW:wZ:=top 74
abbrev DG:List Str:=["swarm","rounds","both","later","now","phases"]
abbrev rR:List Str:=["swarm","rounds"]
theorem oH:aN DG rR (aC yW):=by wtm_at "sc"
abbrev Cz:wZ:=top 75
abbrev JS:List Str:=["swarm","rounds","glows","first","then"]
abbrev uP:List Str:=["swarm","rounds","glows"]
theorem CC:aN JS uP (aC Cz):=by wtm_at "sc"
abbrev ED:wZ:=top 76
abbrev Ll:List Str:=["rule","row","following","swarm","told"]
abbrev ui:List Str:=["rule","row","following"]
theorem Cb:aN Ll ui (aC ED):=by wtm_at "sc"
abbrev AL:wZ:=top 77
abbrev R5:List Str:=["swarm","both"]
abbrev sD:List Str:=["swarm"]
theorem NW:aN R5 sD (aC AL):=by wtm_at "sc"
abbrev A3:wZ:=top 78
abbrev PY:List Str:=["swarm","paper","row","following"]
abbrev yh:List Str:=["swarm","paper"]
theorem B5:aN PY yh (aC A3):=by wtm_at "sc"
abbrev EX:wZ:=top 79
abbrev Nz:List Str:=["swarm","count","told"]
abbrev zu:List Str:=["swarm"]
theorem pN:aN Nz zu (aC EX):=by wtm_at "sc"
abbrev AG:wZ:=top 80
abbrev KC:List Str:=["hour","swarm","both","rounds","glows"]
abbrev tY:List Str:=["hour","swarm"]
theorem yo:aN KC tY (aC AG):=by wtm_at "sc"
abbrev BP:wZ:=top 81
abbrev Ld:List Str:=["swarm","rows","word","row","told","hour"]
abbrev uT:List Str:=["swarm"]
theorem kW:aN Ld uT (aC BP):=by wtm_at "sc"
abbrev Bu:wZ:=top 82
abbrev OI:List Str:=["swarm","last"]
abbrev sL:List Str:=["swarm"]
theorem Mp:aN OI sL (aC Bu):=by wtm_at "sc"
abbrev AV:wZ:=top 84
abbrev EY:List Str:=["_law_script","_law_k"]
abbrev u0:=EY
theorem zrP:aN EY u0 (aC AV):=by wtm_at "sc"
abbrev Bk:wZ:=top 85
abbrev LD:List Str:=["_law_script","_law_k","_law_cell_here"]
abbrev uJ:List Str:=["_law_script","_law_k"]
theorem MX:aN LD uJ (aC Bk):=by wtm_at "sc"
abbrev BJ:wZ:=top 86
abbrev KQ:List Str:=["_law_pen_here","_law_most","_law_found","_law_mixed"]
abbrev sU:List Str:=["_law_pen_here","_law_most"]
theorem rN:aN KQ sU (aC BJ):=by wtm_at "sc"
abbrev Bs:wZ:=top 87
abbrev O7:List Str:=["_law_top","_law_bottom","_law_one","_law_other"]
abbrev uw:List Str:=["_law_top","_law_bottom"]
theorem sC:aN O7 uw (aC Bs):=by wtm_at "sc"
abbrev BY:wZ:=top 88
abbrev AO:List Str:=["_law_one","_law_other"]
abbrev uv:=AO
theorem ztj:aN AO uv (aC BY):=by wtm_at "sc"
abbrev DW:wZ:=top 89
abbrev BA:List Str:=["_law_one","_law_other"]
abbrev r_:=BA
theorem zsG:aN BA r_ (aC DW):=by wtm_at "sc"
abbrev CO:wZ:=top 90
abbrev DX:List Str:=["_law_one","_law_other"]
abbrev yx:=DX
theorem Zz:aN DX yx (aC CO):=by wtm_at "sc"
abbrev DP:wZ:=top 91
abbrev EZ:List Str:=["_law_one","_law_other"]
abbrev tM:=EZ
theorem YV:aN EZ tM (aC DP):=by wtm_at "sc"
abbrev CQ:wZ:=top 92
abbrev Nm:List Str:=["_law_pen_here","_law_way","_law_bottom","_law_deep","_law_more","_law_top","_law_need"]
abbrev yL:List Str:=["_law_pen_here"]
theorem jx:aN Nm yL (aC CQ):=by wtm_at "sc"
abbrev tZ:wZ:=top 93
abbrev Cg:List Str:=["_law_pen_here","_law_most","_law_many","_law_bottom","_law_few","_law_apart"]
abbrev zU:List Str:=["_law_pen_here","_law_most"]
theorem p5:aN Cg zU (aC tZ):=by wtm_at "sc"
abbrev EO:wZ:=top 94
abbrev OL:List Str:=["_law_some","_law_found","_law_one"]
abbrev zN:List Str:=["_law_some"]
theorem sr:aN OL zN (aC EO):=by wtm_at "sc"
abbrev AF:wZ:=top 95
abbrev NQ:List Str:=["_law_swarm","_law_found"]
abbrev uN:List Str:=["_law_swarm"]
theorem yl:aN NQ uN (aC AF):=by wtm_at "sc"
abbrev AR:wZ:=top 96
abbrev Oi:List Str:=["_law_swarm","_law_found"]
abbrev zd:List Str:=["_law_swarm"]
theorem zr:aN Oi zd (aC AR):=by wtm_at "sc"
abbrev Bv:wZ:=top 97
abbrev Ss:List Str:=["_law_swarm","_law_paper_here","_law_due","_law_kept","_law_found"]
abbrev rY:List Str:=["_law_swarm","_law_paper_here","_law_due"]
theorem C1:aN Ss rY (aC Bv):=by wtm_at "sc"
abbrev t_:wZ:=top 98
abbrev Es:List Str:=["_law_paper_here","_law_phases","_law_more","_law_first"]
abbrev uR:List Str:=["_law_paper_here","_law_phases","_law_more"]
theorem R3:aN Es uR (aC t_):=by wtm_at "sc"
abbrev Ce:wZ:=top 99
abbrev Ec:List Str:=["_law_one","_law_other"]
abbrev sJ:=Ec
theorem zsv:aN Ec sJ (aC Ce):=by wtm_at "sc"
abbrev Eo:wZ:=top 100
abbrev PL:List Str:=["_law_rule","_law_many","_law_found","_law_k"]
abbrev yg:List Str:=["_law_rule","_law_many"]
theorem sN:aN PL yg (aC Eo):=by wtm_at "sc"
abbrev pj:wZ:=top 101
abbrev sS:List Str:=["_law_rule","_law_sizes","_law_places","_law_phases","_law_time","_law_heights","_law_at","_law_wait","_law_often","_law_risen"]
abbrev uU:List Str:=["_law_rule","_law_sizes","_law_places"]
theorem iZ:aN sS uU (aC pj):=by wtm_at "sc"
abbrev Eu:wZ:=top 102
abbrev J_:List Str:=["_law_one","_law_many","_law_top","_law_bottom","_law_k"]
abbrev yR:List Str:=["_law_one","_law_many"]
theorem mw:aN J_ yR (aC Eu):=by wtm_at "sc"
abbrev rJ:wZ:=top 103
abbrev AB:List Str:=["_law_rule","_law_sizes","_law_factor","_law_shifts"]
abbrev uX:List Str:=["_law_rule","_law_sizes"]
theorem Ei:aN AB uX (aC rJ):=by wtm_at "sc"
abbrev Bq:wZ:=top 104
abbrev LM:List Str:=["_law_pen_here","_law_rule","_law_most","_law_found","_law_some","_law_one"]
abbrev zJ:List Str:=["_law_pen_here","_law_rule","_law_most"]
theorem uk:aN LM zJ (aC Bq):=by wtm_at "sc"
abbrev zi:wZ:=top 105
abbrev JU:List Str:=["_law_script","_law_rule","_law_phases","_law_pen_here","_law_bottom","_law_share","_law_c","_law_swarm","_law_later","_law_told","_law_led_here"]
abbrev u9:List Str:=["_law_script"]
theorem iF:aN JU u9 (aC zi):=by wtm_at "sc"
set_option genInjectivity false in
structure Ad where
 Im:we
 GR:wz
 FX:we
 Fx:wz
 Fy:we
 Fh:wz
 HL:we
 F7:wz
 plus:we
 IY:wz
 minus:we
 II:wz
 times:we
 Ir:wz
 over:we
 IP:wz
 less:we
 I0:wz
 HN:we
 Gj:wz
 Ik:we
 GF:wz
 HS:we
 Gh:wz
 IX:we
 Hi:wz
 Jv:we
 Jg:wz
 Jo:we
 Ia:wz
 HR:we
 Gm:wz
 Iu:we
 Gz:wz
 G6:we
 FV:wz
 IF:we
 GZ:wz
 ID:we
 GU:wz
 Iw:we
 GN:wz
 Jl:we
 HP:wz
 Hn:we
 FN:wz
 me:we
 IM:wz
 moved:we
 IG:wz
 Je:we
 Ho:wz
 behind:we
 Ig:wz
 Jh:we
 Hw:wz
 laid:we
 Ja:wz
 FP:we
 Fu:wz
 rp:we
 HG:wz
 Gb:we
 FC:wz
 Hq:we
 FT:wz
 hZ:we
 IZ:wz
 IV:we
 Hs:wz
 HQ:we
 Gf:wz
 Jr:we
 Io:wz
 Jd:we
 HB:wz
 Jn:we
 HW:wz
 FO:we
 Fp:wz
 FG:we
 Fn:wz
 Gx:we
 FK:wz
 Gd:we
 FA:wz
 Hx:we
 FQ:wz
 GO:we
 FI:wz
 HZ:we
 Gp:wz
 Jj:we
 Ie:wz
 GX:we
 FJ:wz
 Iz:we
 GS:wz
 IQ:we
 HF:wz
 FW:we
 Fs:wz
 HA:we
 F5:wz
 IE:we
 GA:wz
 IU:we
 Hv:wz
 Jb:we
 G7:wz
 FU:we
 Ft:wz
 Ij:we
 Gu:wz
 IK:we
 G2:wz
 Jw:we
 IL:wz
 Il:we
 GV:wz
 IW:we
 Hm:wz
 IA:we
 GW:wz
 Jf:we
 HD:wz
 I_:we
 Hl:wz
 Iq:we
 G1:wz
 GC:we
 FE:wz
 HI:we
 F_:wz
 FH:we
 Fj:wz
 Fo:we
 Fg:wz
 Ii:we
 GL:wz
 Ic:we
 Gs:wz
 FY:we
 Fw:wz
 IC:we
 GP:wz
 IT:we
 Hu:wz
 IH:we
 GK:wz
 HC:we
 FR:wz
 HH:we
 Gi:wz
 HU:we
 Ge:wz
 HJ:we
 Gg:wz
 HK:we
 Gq:wz
 law:we
 Jk:wz
 nP:we
 nQ:we
 fc:we
 de:we
 dN:we
 zZ:we
 Ao:we
structure Dn(K:wa)(mg:Str->Option wf)(n:Str)(st:wZ)(ps:List Str)(f:we)(fd:wz):Prop where
 F:kg K n n st f fd
 g:mg n=some (.ref f)
 b:lD K fd ps []
section
variable{X:Cx}{x:Str}{f:we}{fd:wz}{ps:List Str}{sp:Sp}{j k:Nat}{e:Expr}{es:List Expr}{t:TA}{pos pp:Pos}{st:wZ}{CX:gb}
theorem kN{E:XK}(F:aH X.prog X.w X.K X.mg X.base CX k f fd ps sp)(hr:d4 j X.A)(D:Dn X.K X.mg x st ps f fd)(hx:mE CX X E)(ha:PA X (e::es) t)(hj:k<=j:=by decide)(hg:Gl X x:=by exact rfl)
  (hdb:(x == ("__debug__" : Str))=false:=by decide) (he:wT (e::es) X.env=(false,eval e X.env)::wT es X.env:=by rfl) (hpl:(W0 pos (wT es X.env)).any (·.1)=false:=by rfl) :
  PE X (.Call (.Name x pp) (e::es) [] pos) (pq sp [] E t):=PR F (hr.mono hj) hg D.g D.F.kp D.b .nil hx ha hdb he hpl
theorem ao(F:aH X.prog X.w X.K X.mg X.base aQ k f fd ps sp)(hr:d4 j X.A)(D:Dn X.K X.mg x st ps f fd)(ha:PA X (e::es) t)(hj:k<=j:=by decide)(hg:Gl X x:=by exact rfl)
  (hdb:(x == ("__debug__" : Str))=false:=by decide) (he:wT (e::es) X.env=(false,eval e X.env)::wT es X.env:=by rfl) (hpl:(W0 pos (wT es X.env)).any (·.1)=false:=by rfl) :
  PE X (.Call (.Name x pp) (e::es) [] pos) (pq sp [] E0 t):=PR F (hr.mono hj) hg D.g D.F.kp D.b .nil zDs ha hdb he hpl
theorem aj{ta:TE}{i:Int}{kd}(ha:PE X e ta):PE X (.Subscript e (.Constant (.int i) kd pp) pos) (kU (c_ X.K) ta (tC (.int i))):=dC dg ha ay (λ_ _=>rfl)
theorem ou{K:wa}{ta:TE}{i:Int}{kd}(hr:gK X (c_ K))(ha:PE X e ta):PE X (.Subscript e (.Constant (.int i) kd pp) pos) (kU (c_ K) ta (tC (.int i))):=dC hr ha ay (λ_ _=>rfl)
theorem az(i:Nat){te:TE}(hN:X.N.Nodup)(he:PE X e te)(hi:X.N[i]? = some x:=by exact rfl)(hx:Loc X.env.scope x:=by first | exact Or.inl rfl | exact Or.inr rfl)(hs:swapsWith e (some (.Name x pp)) pos.line X.env=pure false:=by rfl)(hf:X.fn x=true\/X.env.scope.names.lookup x=some .local:=by first | exact .inl rfl | exact .inr rfl | assumption) :
  PS X (.Assign [.Name x pp] e pos) (jV te (gX i)):=Zb hN hi hx he hs hf
end
structure Txt(K:wa)(mg:Str->Option wf)(a:Ad):Prop where
 p9:Dn K mg "is_whole" BW u4 a.Im a.GR
 z8:Dn K mg "is_whole_from" DC tV a.FX a.Fx
 lV:Dn K mg "greatest_divisor" AH sA a.Fy a.Fh
 lZ:Dn K mg "is_number" EL zo a.HL a.F7
 fe:Dn K mg "plus" B1 yV a.plus a.IY
 nS:Dn K mg "minus" Cs zp a.minus a.II
 jt:Dn K mg "times" BF sZ a.times a.Ir
 Ar:Dn K mg "over" B3 y_ a.over a.IP
 fv:Dn K mg "less" EH tW a.less a.I0
 GQ:Dn K mg "is_factor" AW yX a.HN a.Gj
 G3:Dn K mg "is_shift" AZ zh a.Ik a.GF
 GJ:Dn K mg "make_rule" C4 zl a.HS a.Gh
 Ih:Dn K mg "is_rule" BE yS a.IX a.Hi
 Aq:Dn K mg "bend" En ze a.Jv a.Jg
 nR:Dn K mg "pushes" Bz tJ a.Jo a.Ia
 Ae:Dn K mg "pushed_by" Ew zB a.HR a.Gm
 HE:Dn K mg "is_phase" C6 yB a.Iu a.Gz
 Ga:Dn K mg "are_phases" yn sY a.G6 a.FV
 Ht:Dn K mg "swarm_of" DO tD a.IF a.GZ
 p_:Dn K mg "greatest" EC yC a.ID a.GU
 G_:Dn K mg "worms_at" tE uz a.Iw a.GN
 rk:Dn K mg "flocks" sF uQ a.Jl a.HP
 Aa:Dn K mg "at_the_end" zj rS a.Hn a.FN
 rq:Dn K mg "glow" m3 rX a.me a.IM
 Jc:Dn K mg "moved" yQ zP a.moved a.IG
 HY:Dn K mg "history" CG yE a.Je a.Ho
 Iy:Dn K mg "behind" EW uA a.behind a.Ig
 rf:Dn K mg "is_laid" Ca zI a.Jh a.Hw
 nU:Dn K mg "laid" oO tX a.laid a.Ja
 Fz:Dn K mg "phases_behind" u7 tG a.FP a.Fu
 rl:Dn K mg "stands" Eh yz a.rp a.HG
 z9:Dn K mg "round_behind" Cv rG a.Gb a.FC
 Gn:Dn K mg "round_time" DA zev a.Hq a.FT
 As:Dn K mg "tops" uF tT a.hZ a.IZ
 l_:Dn K mg "is_free" pZ tm a.IV a.Hs
 lW:Dn K mg "round_map" uS yr a.HQ a.Gf
 Ap:Dn K mg "still" zx yA a.Jr a.Io
 Aj:Dn K mg "weighed" u_ sQ a.Jd a.HB
 Al:Dn K mg "led_on" CW s_ a.Jn a.HW
 z6:Dn K mg "rounds_behind" BR tK a.FO a.Fp
 Fv:Dn K mg "sums_of_places" Co ya a.FG a.Fn
 FZ:Dn K mg "rounds_time" uI yf a.Gx a.FK
 z_:Dn K mg "draws_freely" yY tI a.Gd a.FA
 Gk:Dn K mg "stays_free" uB yN a.Hx a.FQ
 F6:Dn K mg "free_rounds" DS zQ a.GO a.FI
 Ac:Dn K mg "has_stand" zG rV a.HZ a.Gp
 IJ:Dn K mg "is_row" CY yi a.Jj a.Ie
 F0:Dn K mg "is_last_row" Bc zF a.GX a.FJ
 G5:Dn K mg "is_paper" yJ zT a.Iz a.GS
 Ib:Dn K mg "go_free" Bf sI a.IQ a.HF
 z5:Dn K mg "behind_rounds" yW rR a.FW a.Fs
 Ab:Dn K mg "behind_row" Cz uP a.HA a.F5
 G4:Dn K mg "leads_on" ED ui a.IE a.GA
 Ak:Dn K mg "word_of" AL sD a.IU a.Hv
 HM:Dn K mg "lets_by" A3 yh a.Jb a.G7
 FD:Dn K mg "glows_to_join" EX zu a.FU a.Ft
 Hy:Dn K mg "next_row" AG tY a.Ij a.Gu
 nN:Dn K mg "paper_of" BP uT a.IK a.G2
 rz:Dn K mg "fate" Bu sL a.Jw a.IL
 G9:Dn K mg "_law_cell" AV u0 a.Il a.GV
 rg:Dn K mg "_law_pen" Bk uJ a.IW a.Hm
 eS:Dn K mg "_law_draw" BJ sU a.IA a.GW
 fu:Dn K mg "_law_low" Bs uw a.Jf a.HD
 l8:Dn K mg "_law_sum" BY uv a.I_ a.Hl
 q_:Dn K mg "_law_rest" DW r_ a.Iq a.G1
 nM:Dn K mg "_law_product" CO yx a.GC a.FE
 GB:Dn K mg "_law_below" DP tM a.HI a.F_
 Fq:Dn K mg "_law_drawn_rule" CQ yL a.FH a.Fj
 Fi:Dn K mg "_law_drawn_phases" tZ zU a.Fo a.Fg
 Hj:Dn K mg "_law_high" EO zN a.Ii a.GL
 Af:Dn K mg "_law_paper" AF uN a.Ic a.Gs
 z7:Dn K mg "_law_fate_told" AR zd a.FY a.Fw
 nO:Dn K mg "_law_says" Bv rY a.IC a.GP
 Ah:Dn K mg "_law_led" t_ uR a.IT a.Hu
 G8:Dn K mg "_law_part" Ce sJ a.IH a.GK
 Gr:Dn K mg "_law_pushes" Eo yg a.HC a.FR
 Gw:Dn K mg "_law_round" pj uU a.HH a.Gi
 GY:Dn K mg "_law_power" Eu yR a.HU a.Ge
 Gv:Dn K mg "_law_rests" rJ uX a.HJ a.Gg
 Gy:Dn K mg "_law_start" Bq zJ a.HK a.Gq
 TQ:Dn K mg "law" zi u9 a.law a.Jk
 z_abs:mg "abs"=none
 z_all:mg "all"=none
 z_any:mg "any"=none
 z_bool:mg "bool"=none
 z_dict:mg "dict"=none
 z_enumerate:mg "enumerate"=none
 z_int:mg "int"=none
 z_isinstance:mg "isinstance"=none
 z_len:mg "len"=none
 z_list:mg "list"=none
 z_min:mg "min"=none
 z_range:mg "range"=none
 z_str:mg "str"=none
 z_sum:mg "sum"=none
 z_tuple:mg "tuple"=none
 z_zip:mg "zip"=none
 H_:mg "NoSwarm"=some (.ref a.nP)
 Tu:mg "NoStand"=some (.ref a.nQ)
 Ag:mg "TooLong"=some (.ref a.fc)
 HX:WU K a.nP kX "ValueError.__new__"=true
 aab:W4 K (.ref a.nP) (.ref a.fc)=some false
 Tw:WU K a.nQ kX "ValueError.__new__"=true
 aaa:W4 K (.ref a.nQ) (.ref a.fc)=some false
 Tv:WU K a.fc kX "ValueError.__new__"=true
 Fm:W4 K (.ref a.fc) (.ref a.fc)=some true
 dD:mg "NOUGHT"=some (.ref a.de)
 eT:∀H:Hp,aV K H a.de [.int 0,.int 1]
 eU:mg "ONE"=some (.ref a.dN)
 rC:∀H:Hp,aV K H a.dN [.int 1,.int 1]
 Ti:mg "GREATEST_FACTOR"=some (.ref a.zZ)
 Tg:∀H:Hp,aV K H a.zZ [.int 4,.int 1]
 Tj:∃t,mg "FACTOR_BOTTOM"=some (.int 8 t)
 To:∃t,mg "SHIFT_BOTTOM"=some (.int 12 t)
 Tp:∃t,mg "MOST_WORMS"=some (.int 8 t)
 Tn:∃t,mg "PHASE_BOTTOM"=some (.int 60 t)
 GI:∃t,mg "MOST_FREE"=some (.int 30 t)
 Tq:∃t,mg "MOST_GLOWS"=some (.int 40 t)
 TH:mg "WORDS"=some (.ref a.Ao)
 TF:∀H:Hp,aV K H a.Ao [.str "one",.str "rests",.str "drawn"]
end G
open L2 GM in
local macro_rules | `(tactic| wtm_at "is")=>`(tactic| first
 | assumption
 | exact b_.mpr rfl
 | exact jX.mpr rfl
 | exact iI.mpr rfl
 | exact eZ.mpr rfl
 | exact Is.Ui (by assumption) (by wtm_at "same")
 | exact Is.TU (by assumption) (by wtm_at "keep")
 | exact Is.md (by assumption) (by wtm_at "keep")
 | ((with_reducible apply is_tupAt);(focus assumption);(focus wtm_at "isall");wtm_at "same")
 | ((with_reducible apply is_lstAt);(focus assumption);(focus wtm_at "isall");wtm_at "same")
 | ((with_reducible apply is_dctAt);(focus assumption);wtm_at "same")
 | exact d8 0 (G.Txt.eT (by assumption) _) rfl rfl | exact d8 1 (G.Txt.rC (by assumption) _) rfl rfl | exact d8 4 (G.Txt.Tg (by assumption) _) rfl rfl
 | fail "is")
open L2 GM in
local macro_rules | `(tactic| wtm_at "isall")=>`(tactic| first
 | exact au.nil
 | exact au.cons (by wtm_at "is") (by wtm_at "isall")
 | fail "isall")
open L2 GM in
local macro_rules | `(tactic| wtm_at "ne")=>`(tactic| first
 | assumption
 | (apply Wo;assumption))
/- a list that rp at an address -/
open L2 GM in
local macro_rules | `(tactic| wtm_at "lst")=>`(tactic| first
 | assumption
 | exact ah.at (by assumption) (by wtm_at "lst")
 | exact Exc.at (by assumption) (by wtm_at "ne") (by wtm_at "lst")
 | fail "lst")
open L2 GM in
local macro_rules | `(tactic| wtm_at "same")=>`(tactic| first
 | assumption
 | exact ah.refl _
 | exact ah.back (by assumption) (by wtm_at "same")
 | fail "same")
open L2 GM in
local macro_rules | `(tactic| wtm_at "keep")=>`(tactic| first
 | assumption
 | exact bK.refl _
 | exact ah.keep (by assumption)
 | exact bK.back (by assumption) (by wtm_at "keep")
 | exact bK.back (ah.keep (by assumption)) (by wtm_at "keep")
 | fail "keep")
open L2 GM in
local macro_rules | `(tactic| wtm_at "exc")=>`(tactic| first
 | assumption
 | exact Exc.refl _ _
 | exact Exc.back (by assumption) (by wtm_at "exc")
 | exact Exc.back (ah.exc (by assumption)) (by wtm_at "exc")
 | fail "exc")
open L2 GM in
local macro_rules | `(tactic| wtm_at "sqf")=>`(tactic| first
 | assumption
 | exact bK.DY (by wtm_at "keep") (by assumption)
 | fail "sqf")
/- how great -/
open L2 GM in
local macro_rules | `(tactic| wtm_at "bd")=>`(tactic| first
 | assumption
 | exact Bd.mk (n:=128) (by decide)
 | exact Bd.mono (m:=128) ⟨by decide⟩ (by decide)
 | exact ag.t (by assumption)
 | exact ag.b (by assumption)
 | exact Bd.j9 (by omega) (by omega)
 | (apply Bd.neg;wtm_at "bd")
 | (apply Bd.mul;(focus wtm_at "bd");wtm_at "bd")
 | (apply Bd.add;(focus wtm_at "bd");wtm_at "bd")
 | (apply Bd.sub;(focus wtm_at "bd");wtm_at "bd"))
open L2 GM PySem in
local macro_rules | `(tactic| wtm_at "mulok")=>`(tactic| first
 | exact x5 (by decide)
 | exact Xv (by decide)
 | exact x5 (intBits_le_64 (by omega) (by omega))
 | exact Xv (intBits_le_64 (by omega) (by omega))
 | (apply L2.Ua;(focus wtm_at "bd");(focus wtm_at "bd");(focus decide);decide))
open L2 GM PySem in
local macro_rules | `(tactic| wtm_at "side")=>`(tactic| first
 | assumption
 | decide
 | omega
 | wtm_at "mulok"
 | (refine And.intro ?_ ?_<;>wtm_at "side")
 | wtm_at "bd")
open L2 GM in
local macro_rules | `(tactic| wtm_at "gs")=>`(tactic| first
 | wtm_at "sq"
 | with_reducible (first | refine Uu ?_ | refine zBx ?_ | refine zCa ?_ | refine zDz ?_)
 | ((with_reducible apply zBH);(focus rfl))
 | with_reducible (first | refine zDU ?_ | refine zAC ?_ | refine zCN ?_ | refine YT ?_ | refine zDE ?_ | refine zAm ?_ | refine ZX ?_ | refine Z9 ?_ | refine zCA ?_ | refine zB7 ?_ | refine zzR ?_)
 | ((with_reducible apply pR);(focus wtm_at "side"))
 | with_reducible (first | refine zDc ?_ | refine YA ?_ | refine zCH ?_ | refine zCG ?_ | refine zCE ?_ | refine zB0 ?_ | refine Zh ?_ | refine ny ?_ | refine mi ?_)
 | with_reducible refine zzq (λ_=>?_) (λ_=>?_)
 | with_reducible refine zxD (λ_=>?_) (λ_=>?_)
 | with_reducible refine zy3 (λ_=>?_) (λ_=>?_)
 | with_reducible refine zzA (λ_=>?_) (λ_=>?_)
 | with_reducible (first | refine zB1 ?_ | refine zDa ?_ | refine zB9 ?_ | refine Y7 ?_ | refine zBJ ?_ | refine zzp ?_ | refine Ye ?_ | refine zAq ?_ | refine zzn ?_ | refine YB ?_ | refine zzh ?_ | refine YC ?_ | refine zAl ?_ | refine Zr ?_ | refine zyz ?_ | refine Y_ ?_ | refine zzI ?_)
 | ((with_reducible apply zAO);(focus wtm_at "is"))
 | ((with_reducible apply zAv);(focus wtm_at "is"))
 | ((with_reducible apply iH);(focus(apply aR.of;wtm_at "lst"));(focus rfl))
 | ((with_reducible apply sk);(focus assumption);(focus rfl);intro hN eN lN;dsimp only[Int.reduceToNat,xK,xL]at lN)
 | ((with_reducible apply L4);(focus wtm_at "is"))
 | ((with_reducible apply zxP);(focus wtm_at "is"))
 | ((with_reducible apply Tc);(focus wtm_at "is"))
 | dsimp only[xK,xL])
/- one statement behind another: what follows rp behind a name -/
set_option hygiene false in
open L2 GM in
local macro_rules | `(tactic| wtm_at "sq")=>`(tactic| with_reducible refine YQ (λ tl_ htl_=>?_))
set_option hygiene false in
open L2 GM in
local macro_rules | `(tactic| wtm_at "tl")=>`(tactic| ((with_reducible refine yd.go (by assumption) ?_); (try clear htl_ tl_)))
/- how great a number is -/
open L2 GM in
local macro_rules | `(tactic| wtm_at "bdr0")=>`(tactic| first
 | assumption
 | exact ag.zero
 | exact ag.one
 | exact ag.four
 | (apply ag.add;(focus wtm_at "bdr0");wtm_at "bdr0")
 | (apply ag.sub;(focus wtm_at "bdr0");wtm_at "bdr0")
 | (apply ag.mul;(focus wtm_at "bdr0");wtm_at "bdr0"))
open L2 GM in
local macro_rules | `(tactic| wtm_at "bdr")=>`(tactic| first
 | assumption
 | (apply ag.mono;(focus wtm_at "bdr0");(first | decide | omega)))
/- .. with new tuples,lists,dicts -/
open L2 GM in
local macro_rules | `(tactic| wtm_at "ga1")=>`(tactic| first
 | wtm_at "gs"
 | ((with_reducible apply cF);(focus(simp only[vP,QN];decide));(focus wtm_at "isall");intro _ _ _ _)
 | ((with_reducible apply eX);(focus(simp only[vP,QN];decide));intro _ _ _ _ _)
 | ((with_reducible apply lM);(focus wtm_at "lst");(focus wtm_at "lst");(focus(simp only[wR,vP,QN];decide));intro _ _ _ _ _))
local macro_rules | `(tactic| wtm_at "ga")=>`(tactic| repeat' (first | wtm_at "ga1" | wtm_at "tl"))
local macro_rules | `(tactic| wtm_at "gg")=>`(tactic| repeat' (first | wtm_at "gs" | wtm_at "tl"))
local macro_rules | `(tactic| wtm_at "gt")=>`(tactic| repeat' (wtm_at "gs"))
open L2 GM in
local macro_rules | `(tactic| wtm_at "bd128")=>`(tactic| first
 | exact Bd.mono (m:=128) ⟨by decide⟩ (by decide)
 | exact(Bd.j9 (by omega) (by omega)).mono (by decide))
open L2 GM in
local macro_rules | `(tactic| wtm_at "gs")=>`(tactic| first
 | with_reducible (first | refine zC1 ?_ | refine zwi ?_ | refine zwO ?_ | refine zDx ?_ | refine zvS ?_ | refine zyn ?_ | refine ZP ?_ | refine UI ?_ | refine zyg ?_ | refine OA ?_ | refine Y1 ?_ | refine zwW ?_ | refine YS ?_ | refine zzl ?_ | refine zzd ?_ | refine zyN ?_ | refine zwP ?_ | refine zwg ?_ | refine Yo ?_ | refine zpW ?_ | refine Um ?_ | refine zyK ?_)
 | with_reducible refine zAQ (λ_ _ _ _=>?_)
 | with_reducible (first | refine zzC ?_ | refine Ul ?_ | refine zBU ?_ | refine Zx ?_ | refine zCh ?_ | refine zwX ?_ | refine Z4 ?_ | refine UN ?_ | refine zxM ?_)
 | ((with_reducible apply UO);(focus wtm_at "is"))
 | ((with_reducible apply zAP);(focus wtm_at "is"))
 | ((with_reducible apply zzM);(focus wtm_at "is");intro _ _)
 | ((with_reducible apply zAe);(focus wtm_at "is");intro _ _)
 | ((with_reducible apply iH);(focus(apply aR.of;wtm_at "lst"));(focus rfl))
 | ((with_reducible apply Uz);(focus wtm_at "lst");(focus omega);(focus omega);intro _ _)
 | ((with_reducible apply Se);(focus wtm_at "is");(focus wtm_at "is"))
 | ((with_reducible apply Zo);(focus wtm_at "is");(focus wtm_at "is")))
set_option hygiene false in
local macro_rules | `(tactic| wtm_at "b1")=>`(tactic| (focus (intro vs H Q E h; obtain ⟨_,rfl,_⟩:=h; rfl)); (intro cdv A outer s H vs Q E hr h; obtain ⟨x0,rfl,h⟩:=h; have hu:=hr.units))
set_option hygiene false in
local macro_rules | `(tactic| wtm_at "b2")=>`(tactic| (focus (intro vs H Q E h; obtain ⟨_,_,rfl,_⟩:=h; rfl)); (intro cdv A outer s H vs Q E hr h; obtain ⟨x0,x1,rfl,h⟩:=h; have hu:=hr.units))
set_option hygiene false in
local macro_rules | `(tactic| wtm_at "b3")=>`(tactic| (focus (intro vs H Q E h; obtain ⟨_,_,_,rfl,_⟩:=h; rfl)); (intro cdv A outer s H vs Q E hr h; obtain ⟨x0,x1,x2,rfl,h⟩:=h; have hu:=hr.units))
set_option hygiene false in
local macro_rules | `(tactic| wtm_at "b4")=>`(tactic| (focus (intro vs H Q E h; obtain ⟨_,_,_,_,rfl,_⟩:=h; rfl)); (intro cdv A outer s H vs Q E hr h; obtain ⟨x0,x1,x2,x3,rfl,h⟩:=h; have hu:=hr.units))
set_option hygiene false in
local macro_rules | `(tactic| wtm_at "cl")=>`(tactic| ((clear hu); (try clear hgd); (first | dsimp only [iD,cxOfH] | dsimp only [iD] | skip)))
local macro_rules | `(tactic| k_few)=>`(tactic| wtm_at "gg")
local macro_rules | `(tactic| o_head $e)=>`(tactic| (wtm_at "gg"; refine $e))
namespace G
open PySem PySem.Spec PyProof.Rows L2 GM
section
variable{P:wL}{w:wN}{K:wa}{mg:Str->Option wf}{base:wI}{a:Ad}
def isInt:wy->Bool
 | .int _=>true
 | _=>false
def LJ(K:wa):Sp:=λvs H Q _=>∃x0,vs=[x0] /\ ∃d,Is K H x0 d/\Q (.bl (isInt d)) H
theorem zsH{K:wa}{H:Hp}{Q:VK}{E:XK}{v:V}{d:wy}(h:Is K H v d)(q:Q (.bl (isInt d)) H):LJ K [v] H Q E:=⟨v,rfl,d,h,q⟩
local macro_rules | `(tactic| wtm_at "gs")=>`(tactic| ((with_reducible apply zsH); (focus wtm_at "is")))
theorem Dh(T:Txt K mg a):aH P w K mg base aQ 1 a.Im a.GR u4 (LJ K):=by
 refine T.p9.F.ok zso ?_ ?_;wtm_at "b1";refine⟨_,(av (aB (eQ (bP (show aP _ (.builtin "isinstance") (eG K)from ja) rfl T.z_isinstance ik (ae (pv 0) (ae (gU (v:=.ty "int") rfl T.z_int zBM rfl) af))) (fN (mK (bP (show aP _ (.builtin "isinstance") (eG K)from ja) rfl T.z_isinstance ik (ae (pv 0) (ae (gU (v:=.ty "bool") rfl T.z_bool KN rfl) af)))))))),?_⟩;wtm_at "cl";rw[show start BN [x0]=[some x0]from rfl];obtain⟨d,hd,q⟩:=h;k_few
 all_goals(cases d<;>simp_all [isInt,DU,C_])
def lG(l m:Int):wy->Bool
 | .int i=>decide (l<=i)&&decide (i<=m)
 | _=>false
theorem ZH{l m:Int}{d:wy}(h:isInt d=false):lG l m d=false:=by cases d<;>first | rfl | cases h
def Sq(K:wa):Sp:=λvs H Q _=>∃x0 x1 x2,vs=[x0,x1,x2] /\ ∃(l m:Int)(d:wy),x0=.int l/\x1=.int m/\Is K H x2 d/\Q (.bl (lG l m d)) H
theorem Nx{K:wa}{H:Hp}{Q:VK}{E:XK}{l m:Int}{v:V}{d:wy}(h:Is K H v d)(q:Q (.bl (lG l m d)) H):Sq K [.int l,.int m,v] H Q E:=⟨_,_,_,rfl,l,m,d,rfl,rfl,h,q⟩
theorem JO(T:Txt K mg a):aH P w K mg base aQ 2 a.FX a.Fx tV (Sq K):=by
 refine T.z8.F.ok UR ?_ ?_;wtm_at "b3";refine⟨_,(av (aB (eQ (ao (Dh T) hr T.p9 (ae (pv 2) af)) (fN (YI lq lq (pv 0) (pv 2) (pv 1)))))),?_⟩;wtm_at "cl";rw[show start Cr [x0,x1,x2]=[some x0,some x1,some x2]from rfl];obtain⟨l,m,d,rfl,rfl,hd,q⟩:=h;have hc:(∃i,d=.int i)\/isInt d=false:=by cases d<;>simp[isInt]
 rcases hc with⟨i,rfl⟩ | hn
 ·cases b_.mp hd
  have q:Q (.bl (decide (l<=i)&&decide (i<=m))) H:=q;k_few
  ·rename_i z
   rw[decide_eq_true z,VJ]at q;exact q
  ·rename_i z
   rw[decide_eq_false z,Wh]at q;exact q
  ·rename_i z;cases (show true=false from z)
 ·rw[ZH hn]at q
  k_few
  ·rename_i z1;rw[hn]at z1;cases z1
  ·exact q
def Mc(K:wa):Sp:=λvs H Q _=>∃x0 x1,vs=[x0,x1] /\ ∃a b:Int,x0=.int a/\x1=.int b/\0<=a/\0<=b/\Q (.int (vk a b:Nat)) H
theorem p8{K:wa}{H:Hp}{Q:VK}{E:XK}{a b:Int}(ha:0<=a)(hb:0<=b)(q:Q (.int (vk a b:Nat)) H):Mc K [.int a,.int b] H Q E:=⟨_,_,rfl,a,b,rfl,rfl,ha,hb,q⟩
theorem o_(T:Txt K mg a):aH P w K mg base aQ 1 a.Fy a.Fh sA (Mc K):=by
 refine T.lV.F.ok tO ?_ ?_;wtm_at "b2"
 refine⟨_,(ar (nF vE (bW (show aK _ (wJ .NotEq) (fR K)from jB hu) (pv 1) ay (aZ _)) (ar (az 2 tO.nd (aD gB (pv 0) (pv 1)))
     (ar (az 0 tO.nd (pv 1))
     (av (az 1 tO.nd (pv 2))))))
     (av (aB (pv 0)))),?_⟩
 wtm_at "cl";rw[show start Lo [x0,x1]=[some x0,some x1,none]from rfl];obtain⟨a',b',rfl,rfl,ha,hb,q⟩:=h;refine zCK ?_;refine Kv (λσ H'=>∃(x y:Int)(r:Option V),σ = [some (.int x),some (.int y),r]/\0<=x/\0<=y/\vk x y=vk a' b'/\H'=H) (λσ=>(PZ σ 1).toNat) ⟨a',b',none,rfl,ha,hb,rfl,rfl⟩ ?_;rintro σ H' ⟨x,y,r,rfl,hx,hy,hg,rfl⟩;k_few
 . refine M7 ?_
   k_few;have h1:=qN x (show y≠0 by assumption);have h2:=qq x (show 0<y by omega);refine⟨?_,_,_,_,rfl,hy,h1,?_,rfl⟩
   . show(x % y).toNat<y.toNat
     omega
   . rw[<- hg];exact KD (by omega) hx
 . rename_i h0
   subst h0
   have e:((vk a' b':Nat):Int)=x:=by
     rw[<- hg,xM];omega
   rw[e]at q;exact q
def bQ:wy->Bool
 | .tuple [.int p,.int q]=>gC p q
 | _=>false
theorem pG(r:Rat):bQ (N r)=true:=Og r
theorem ztH{d:wy}(h:iO d=false):bQ d=false:=by
 cases d<;>first | rfl | (simp[iO]at h)
theorem zuj{ds:List wy}(h:¬ ds.length=2):bQ (.tuple ds)=false:=by
 match ds with
 | []=>rfl
 | [_]=>simp[bQ]
 | [_,_]=>exact absurd rfl h
 | _::_::_::_=>simp[bQ]
theorem zq0{d e:wy}(h:isInt d=false):bQ (.tuple [d,e])=false:=by
 cases d<;>first | rfl | (simp[isInt]at h)
theorem zoG{d e:wy}(h:isInt e=false):bQ (.tuple [d,e])=false:=by
 cases d<;>cases e<;>first | rfl | (simp[isInt]at h)
theorem MA{d:wy} : isInt d=true ↔ ∃i,d=.int i:=by cases d<;>simp[isInt]
def Pk(K:wa):Sp:=λvs H Q _=>∃x0,vs=[x0] /\ ∃d,Is K H x0 d/\Q (.bl (bQ d)) H
theorem Yw{K:wa}{H:Hp}{Q:VK}{E:XK}{v:V}{d:wy}(h:Is K H v d)(q:Q (.bl (bQ d)) H):Pk K [v] H Q E:=⟨v,rfl,d,h,q⟩
local macro_rules | `(tactic| wtm_at "gs")=>`(tactic| ((with_reducible apply Yw); (focus wtm_at "is")))
theorem om(T:Txt K mg a):aH P w K mg base aQ 2 a.HL a.F7 zo (Pk K):=by
 refine T.lZ.F.ok zpP ?_ ?_;wtm_at "b1"
 refine⟨_,(ar (bD (PW.pt (d_ (cq (cb (bP (show aP _ (.builtin "isinstance") (eG K)from ja) rfl T.z_isinstance ik (ae (pv 0) (ae (gU (v:=.ty "tuple") rfl T.z_tuple dR rfl) af))))) (fT (bW (show aK _ (wJ .NotEq) (fR K)from jB hu) (bP (show aP _ (.builtin "len") (cR K)from dS) rfl T.z_len dW (ae (pv 0) af)) ay (aZ _))))) (av (aB dP)) bA)
     (ar (bD (PW.pt (d_ (cq (cb (ao (Dh T) hr T.p9 (ae (aj (pv 0)) af)))) (fT (cq (cb (ao (Dh T) hr T.p9 (ae (aj (pv 0)) af))))))) (av (aB dP)) bA)
     (av (aB (eQ (d9 CI (aj (pv 0)) ay (aZ _)) (fN (d9 (show aK _ (wJ .Eq) (cu K)from dq hu) (ao (o_ T) hr T.lV (ae (bP k_ rfl T.z_abs kR (ae (aj (pv 0)) af)) (ae (aj (pv 0)) af))) ay (aZ _)))))))),?_⟩
 wtm_at "cl";rw[show start Ey [x0]=[some x0]from rfl];obtain⟨d,hd,q⟩:=h;k_few
 . rename_i e
   rw[ztH e]at q;exact q
 . rename_i e
   obtain⟨ds,rfl⟩:=K9.mp e;refine kE hd ?_;k_few
   . rename_i e
     rw[zuj (by omega)]at q;exact q
   . rename_i e
     obtain⟨d0,d1,rfl⟩:∃d0 d1,ds=[d0,d1]:=by
       match ds,e with
       | [d0,d1],_=>exact⟨d0,d1,rfl⟩
       | [],e=>simp at e
       | [_],e=>simp at e
       | _::_::_::_,e=>simp at e;omega
     refine aA (j:=0) hd rfl (λy0 h0=>?_);k_few
     . rename_i e
       rw[zq0 e]at q;exact q
     . rename_i e0
       obtain⟨i,rfl⟩:=MA.mp e0;refine aA (j:=1) hd rfl (λy1 h1=>?_);k_few
       . rename_i e
         rw[zoG e]at q;exact q
       . rename_i e1
         obtain⟨j,rfl⟩:=MA.mp e1;refine aA (j:=1) hd rfl (λy2 h2=>?_);cases b_.mp h2;k_few
         . refine aA (j:=0) hd rfl (λy3 h3=>?_)
           cases b_.mp h3;o_head aA (j:=1) hd rfl (λy4 h4=>?_);cases b_.mp h4;o_head p8 (by split<;>omega) (by omega) ?_;k_few
           have e3:bQ (.tuple [.int i,.int j])=decide ((vk (if i<0 then -i else i) j:Nat)=(1:Int)):=by
             have e4:vk (if i<0 then -i else i) j=vk i j:=by
               split<;>simp
             rw[e4]
             show gC i j=_
             rename_i e5;simp only[gC,e5,decide_true,VJ];rw[vC,decide_eq_true_eq,decide_eq_true_eq];omega
           rw[e3]at q;exact q
         . rename_i e5
           have e3:bQ (.tuple [.int i,.int j])=false:=by
             show gC i j=false
             simp only[gC,e5,decide_false,Wh]
           rw[e3]at q;exact q
def MH(K:wa):Sp:=λvs H Q _=>∃x0 x1,vs=[x0,x1] /\ ∃(x y:Rat),Is K H x0 (N x)/\Is K H x1 (N y)/\ag 8999 x/\ag 8999 y /\ ∀v H',ah H H'->Is K H' v (N (x+y))->Q v H'
theorem L5{K:wa}{H:Hp}{Q:VK}{E:XK}{x y:Rat}{v w:V}(h1:Is K H v (N x))(h2:Is K H w (N y))(b1:ag 8999 x)(b2:ag 8999 y)(q:∀v H',ah H H'->Is K H' v (N (x+y))->Q v H'):MH K [v,w] H Q E:=⟨_,_,rfl,x,y,h1,h2,b1,b2,q⟩
local macro_rules | `(tactic| wtm_at "gs")=>`(tactic| ((with_reducible apply L5); (focus wtm_at "is"); (focus wtm_at "is"); (focus wtm_at "bdr"); (focus wtm_at "bdr"); intro _ _ _ _))
theorem fH(T:Txt K mg a):aH P w K mg base aQ 2 a.plus a.IY yV (MH K):=by
 refine T.fe.F.ok sR ?_ ?_;wtm_at "b2"
 refine⟨_,(ar (az 2 sR.nd (ao (o_ T) hr T.lV (ae (aj (pv 0)) (ae (aj (pv 1)) af))))
     (ar (az 3 sR.nd (aD cA (aD cv (aj (pv 0)) (aD ft (aj (pv 1)) (pv 2))) (aD cv (aj (pv 1)) (aD ft (aj (pv 0)) (pv 2)))))
     (ar (az 4 sR.nd (ao (o_ T) hr T.lV (ae (bP k_ rfl T.z_abs kR (ae (pv 3) af)) (ae (pv 2) af))))
     (av (aB (br (ae (aD ft (pv 3) (pv 4)) (ae (aD cv (aD ft (aj (pv 0)) (pv 2)) (aD ft (aj (pv 1)) (pv 4))) af)))))))),?_⟩
 wtm_at "cl";rw[show start OK [x0,x1]=[some x0,some x1,none,none,none]from rfl];obtain⟨x,y,hx,hy,⟨bx1,bx2⟩,⟨by1,by2⟩,q⟩:=h;have px:=den_pos x;have py:=den_pos y;have ps:=uY x y;have pd:=CF x y;have c1:mm 0 (fo x y):=⟨by omega,pQ bx2 (pB x y) px⟩;have c2:mm 0 (jl x y):=⟨by omega,pQ (pQ bx2 (pB x y) px) (Dm x y) ps⟩;have f1:=k9 by2 (r8 x y) ps;have f2:=k9 bx2 (pB x y) ps;have f3:=k9 by2 (V5 (Dm x y) (r8 x y)) pd;o_head p8 (by omega) (by omega) ?_;rw[show((vk (x.den:Int) (y.den:Int):Nat):Int)=fo x y from rfl];k_few;rw[show x.num*(y.den:Int).fdiv (fo x y)+y.num*(x.den:Int).fdiv (fo x y)=kr x y from rfl];o_head p8 (by split<;>omega) (by omega) ?_;rw[rE,show((vk (kr x y) (fo x y):Nat):Int)=jl x y from rfl];k_few;exact eY (Uo x y) (zzb x y) q
def Nh(K:wa):Sp:=λvs H Q _=>∃x0 x1,vs=[x0,x1] /\ ∃(x y:Rat),Is K H x0 (N x)/\Is K H x1 (N y)/\ag 8999 x/\ag 8999 y /\ ∀v H',ah H H'->Is K H' v (N (x-y))->Q v H'
theorem zx2{K:wa}{H:Hp}{Q:VK}{E:XK}{x y:Rat}{v w:V}(h1:Is K H v (N x))(h2:Is K H w (N y))(b1:ag 8999 x)(b2:ag 8999 y)(q:∀v H',ah H H'->Is K H' v (N (x-y))->Q v H'):Nh K [v,w] H Q E:=⟨_,_,rfl,x,y,h1,h2,b1,b2,q⟩
local macro_rules | `(tactic| wtm_at "gs")=>`(tactic| ((with_reducible apply zx2); (focus wtm_at "is"); (focus wtm_at "is"); (focus wtm_at "bdr"); (focus wtm_at "bdr"); intro _ _ _ _))
theorem yq(T:Txt K mg a):aH P w K mg base aQ 3 a.minus a.II zp (Nh K):=by
 refine T.nS.F.ok zwV ?_ ?_;wtm_at "b2";refine⟨_,(av (aB (ao (fH T) hr T.fe (ae (pv 0) (ae (br (ae (gA gg (aj (pv 1))) (ae (aj (pv 1)) af))) af))))),?_⟩;wtm_at "cl";rw[show start Dy [x0,x1]=[some x0,some x1]from rfl];obtain⟨x,y,hx,hy,bx,by',q⟩:=h;o_head eY (r:=-y) (by simp) (by simp) (λv H' s hv=>?_);o_head L5 (by wtm_at "is") hv bx (B9 by') (λw H'' s2 hw=>?_);rw[ztq]at hw;k_few;exact q w H'' (s.trans s2) hw
def Lz(K:wa):Sp:=λvs H Q _=>∃x0 x1,vs=[x0,x1] /\ ∃(x y:Rat),Is K H x0 (N x)/\Is K H x1 (N y)/\ag 8999 x/\ag 8999 y /\ ∀v H',ah H H'->Is K H' v (N (x*y))->Q v H'
theorem B0{K:wa}{H:Hp}{Q:VK}{E:XK}{x y:Rat}{v w:V}(h1:Is K H v (N x))(h2:Is K H w (N y))(b1:ag 8999 x)(b2:ag 8999 y)(q:∀v H',ah H H'->Is K H' v (N (x*y))->Q v H'):Lz K [v,w] H Q E:=⟨_,_,rfl,x,y,h1,h2,b1,b2,q⟩
local macro_rules | `(tactic| wtm_at "gs")=>`(tactic| ((with_reducible apply B0); (focus wtm_at "is"); (focus wtm_at "is"); (focus wtm_at "bdr"); (focus wtm_at "bdr"); intro _ _ _ _))
theorem kq(T:Txt K mg a):aH P w K mg base aQ 2 a.times a.Ir sZ (Lz K):=by
 refine T.jt.F.ok Cp ?_ ?_;wtm_at "b2"
 refine⟨_,(ar (az 2 Cp.nd (ao (o_ T) hr T.lV (ae (bP k_ rfl T.z_abs kR (ae (aj (pv 0)) af)) (ae (aj (pv 1)) af))))
     (ar (az 3 Cp.nd (ao (o_ T) hr T.lV (ae (bP k_ rfl T.z_abs kR (ae (aj (pv 1)) af)) (ae (aj (pv 0)) af))))
     (av (aB (br (ae (aD cv (aD ft (aj (pv 0)) (pv 2)) (aD ft (aj (pv 1)) (pv 3))) (ae (aD cv (aD ft (aj (pv 0)) (pv 3)) (aD ft (aj (pv 1)) (pv 2))) af))))))),?_⟩
 wtm_at "cl";rw[show start SM [x0,x1]=[some x0,some x1,none,none]from rfl];obtain⟨x,y,hx,hy,⟨bx1,bx2⟩,⟨by1,by2⟩,q⟩:=h;have px:=den_pos x;have py:=den_pos y;have p1:=nH x y;have p2:=nH y x;have c1:mm 0 (gm x y):=⟨by omega,pQ by2 (mL x y) py⟩;have c2:mm 0 (gm y x):=⟨by omega,pQ bx2 (mL y x) px⟩;have f1:=k9 bx1 (yw x y) p1;have f2:=k9 by1 (yw y x) p2;have f3:=k9 bx2 (mL y x) p2;have f4:=k9 by2 (mL x y) p1;o_head p8 (by split<;>omega) (by omega) ?_;rw[rE,show((vk x.num (y.den:Int):Nat):Int)=gm x y from rfl];o_head p8 (by split<;>omega) (by omega) ?_;rw[rE,show((vk y.num (x.den:Int):Nat):Int)=gm y x from rfl];k_few;exact eY (YE x y) (zze x y) q
def SV(K:wa):Sp:=λvs H Q _=>∃x0 x1,vs=[x0,x1] /\ ∃(x y:Rat),Is K H x0 (N x)/\Is K H x1 (N y)/\ag 8999 x/\ag 8999 y/\y≠0 /\ ∀v H',ah H H'->Is K H' v (N (x / y))->Q v H'
theorem PH{K:wa}{H:Hp}{Q:VK}{E:XK}{x y:Rat}{v w:V}(h1:Is K H v (N x))(h2:Is K H w (N y))(b1:ag 8999 x)(b2:ag 8999 y)(hy:y≠0)(q:∀v H',ah H H'->Is K H' v (N (x / y))->Q v H'):SV K [v,w] H Q E:=⟨_,_,rfl,x,y,h1,h2,b1,b2,hy,q⟩
theorem Lq(T:Txt K mg a):aH P w K mg base aQ 3 a.over a.IP y_ (SV K):=by
 refine T.Ar.F.ok Lm ?_ ?_;wtm_at "b2"
 refine⟨_,(ar (bD (bW (show aK _ (wJ .Eq) (cu K)from dq hu) (aj (pv 1)) ay (aZ _)) (av By) bA)
     (ar (az 2 Lm.nd (tH (bW lQ (aj (pv 1)) ay (aZ _)) (br (ae (aj (pv 1)) (ae (aj (pv 1)) af))) (br (ae (gA gg (aj (pv 1))) (ae (gA gg (aj (pv 1))) af)))))
     (av (aB (ao (kq T) hr T.jt (ae (pv 0) (ae (pv 2) af))))))),?_⟩
 wtm_at "cl";rw[show start Sr [x0,x1]=[some x0,some x1,none]from rfl];obtain⟨x,y,hx,hy,bx,by',hn,q⟩:=h;k_few
 . rename_i z
   exact absurd z (sX hn)
 . rename_i z0 z
   refine eY (r:=y⁻¹) (sy z).1.symm (sy z).2.symm (λv1 H1 S1 i1=>?_);o_head B0 (hx.by S1) i1 bx (Rc by' hn) (λv2 H2 S2 i2=>?_);rw[<- QV]at i2;k_few;exact q v2 H2 (S1.trans S2) i2
 . rename_i z0 z
   have z:y.num<0:=by omega
   refine eY (r:=y⁻¹) (sH z).1.symm (sH z).2.symm (λv1 H1 S1 i1=>?_);o_head B0 (hx.by S1) i1 bx (Rc by' hn) (λv2 H2 S2 i2=>?_);rw[<- QV]at i2;k_few;exact q v2 H2 (S1.trans S2) i2
def Oy(K:wa):Sp:=λvs H Q _=>∃x0 x1,vs=[x0,x1] /\ ∃(x y:Rat),Is K H x0 (N x)/\Is K H x1 (N y)/\ag 8999 x/\ag 8999 y/\Q (.bl (decide (x<y))) H
theorem UA{K:wa}{H:Hp}{Q:VK}{E:XK}{x y:Rat}{v w:V}(h1:Is K H v (N x))(h2:Is K H w (N y))(b1:ag 8999 x)(b2:ag 8999 y)(q:Q (.bl (decide (x<y))) H):Oy K [v,w] H Q E:=⟨_,_,rfl,x,y,h1,h2,b1,b2,q⟩
local macro_rules | `(tactic| wtm_at "gs")=>`(tactic| ((with_reducible apply UA); (focus wtm_at "is"); (focus wtm_at "is"); (focus wtm_at "bdr"); (focus wtm_at "bdr")))
theorem fO(T:Txt K mg a):aH P w K mg base aQ 1 a.less a.I0 tW (Oy K):=by
 refine T.fv.F.ok zy6 ?_ ?_;wtm_at "b2";refine⟨_,(av (aB (d9 jF (aD cv (aj (pv 0)) (aj (pv 1))) (aD cv (aj (pv 1)) (aj (pv 0))) (aZ _)))),?_⟩;wtm_at "cl";rw[show start CH [x0,x1]=[some x0,some x1]from rfl];obtain⟨x,y,hx,hy,⟨bx1,bx2⟩,⟨by1,by2⟩,q⟩:=h;k_few;rw[S0];exact q
def pI(x:Rat):Bool:=decide (0<x)&&(!decide (4<x))&&decide ((x.den:Int)<=8)
def PD(K:wa):Sp:=λvs H Q _=>∃x0,vs=[x0] /\ ∃x:Rat,Is K H x0 (N x)/\ag 4000 x/\Q (.bl (pI x)) H
theorem zqp{K:wa}{H:Hp}{Q:VK}{E:XK}{x:Rat}{v:V}(h:Is K H v (N x))(b:ag 4000 x)(q:Q (.bl (pI x)) H):PD K [v] H Q E:=⟨_,rfl,x,h,b,q⟩
local macro_rules | `(tactic| wtm_at "gs")=>`(tactic| ((with_reducible apply zqp); (focus wtm_at "is"); (focus wtm_at "bdr")))
theorem zpS(T:Txt K mg a):aH P w K mg base aQ 2 a.HN a.Gj yX (PD K):=by
 refine T.GQ.F.ok zq1 ?_ ?_;wtm_at "b1";refine⟨_,(av (aB (eQ (ao (fO T) hr T.fv (ae (bZ (v:=.ref a.de) rfl T.dD rfl) (ae (pv 0) af))) (eQ (mK (ao (fO T) hr T.fv (ae (bZ (v:=.ref a.zZ) rfl T.Ti rfl) (ae (pv 0) af)))) (fN (d9 lq (aj (pv 0)) (lJ rfl T.Tj) (aZ _))))))),?_⟩;wtm_at "cl";rw[show start Bh [x0]=[some x0]from rfl];obtain⟨x,hx,bx,q⟩:=h;unfold pI at q;k_few
 ·rename_i h1 h2
  rw[decide_eq_true h1,decide_eq_false h2]at q;exact q
 ·rename_i h1 h2
  rw[decide_eq_true h1,decide_eq_true h2]at q;exact q
 ·rename_i h1
  rw[decide_eq_false h1]at q;exact q
def pz(x:Rat):Bool:=(!decide (x<0))&&(!decide (1<x))&&decide ((x.den:Int)<=12)
def L6(K:wa):Sp:=λvs H Q _=>∃x0,vs=[x0] /\ ∃x:Rat,Is K H x0 (N x)/\ag 4000 x/\Q (.bl (pz x)) H
theorem zsd{K:wa}{H:Hp}{Q:VK}{E:XK}{x:Rat}{v:V}(h:Is K H v (N x))(b:ag 4000 x)(q:Q (.bl (pz x)) H):L6 K [v] H Q E:=⟨_,rfl,x,h,b,q⟩
local macro_rules | `(tactic| wtm_at "gs")=>`(tactic| ((with_reducible apply zsd); (focus wtm_at "is"); (focus wtm_at "bdr")))
theorem zs2(T:Txt K mg a):aH P w K mg base aQ 2 a.Ik a.GF zh (L6 K):=by
 refine T.G3.F.ok zro ?_ ?_;wtm_at "b1";refine⟨_,(av (aB (eQ (mK (ao (fO T) hr T.fv (ae (pv 0) (ae (bZ (v:=.ref a.de) rfl T.dD rfl) af)))) (eQ (mK (ao (fO T) hr T.fv (ae (bZ (v:=.ref a.dN) rfl T.eU rfl) (ae (pv 0) af)))) (fN (d9 lq (aj (pv 0)) (lJ rfl T.To) (aZ _))))))),?_⟩;wtm_at "cl";rw[show start A4 [x0]=[some x0]from rfl];obtain⟨x,hx,bx,q⟩:=h;unfold pz at q;k_few
 ·rename_i h1 h2
  rw[decide_eq_false h1,decide_eq_false h2]at q;exact q
 ·rename_i h1 h2
  rw[decide_eq_false h1,decide_eq_true h2]at q;exact q
 ·rename_i h1
  rw[decide_eq_true h1]at q;exact q
def lK(x y:Rat):Bool:=pI x&&pz y && !decide (x+y<1)
def CU(K:wa):Sp:=λvs H Q _=>∃x0 x1,vs=[x0,x1]/\((∃d e,Is K H x0 d/\Is K H x1 e/\(bQ d&&bQ e)=false /\ ∀H',ah H H'->Q (.bl false) H')\/(∃x y:Rat,Is K H x0 (N x)/\Is K H x1 (N y)/\ag 1000 x/\ag 1000 y /\ ∀H',ah H H'->Q (.bl (lK x y)) H'))
theorem zox{K:wa}{H:Hp}{Q:VK}{E:XK}{d e:wy}{v w:V}(h1:Is K H v d)(h2:Is K H w e)(n:(bQ d&&bQ e)=false)(q:∀H',ah H H'->Q (.bl false) H'):CU K [v,w] H Q E:=⟨_,_,rfl,.inl ⟨d,e,h1,h2,n,q⟩⟩
theorem zqn{K:wa}{H:Hp}{Q:VK}{E:XK}{x y:Rat}{v w:V}(h1:Is K H v (N x))(h2:Is K H w (N y))(b1:ag 1000 x)(b2:ag 1000 y)(q:∀H',ah H H'->Q (.bl (lK x y)) H'):CU K [v,w] H Q E:=⟨_,_,rfl,.inr ⟨x,y,h1,h2,b1,b2,q⟩⟩
theorem Z8(T:Txt K mg a):aH P w K mg base aQ 3 a.HS a.Gh zl (CU K):=by
 refine T.GJ.F.ok UL ?_ ?_;wtm_at "b2"
 refine⟨_,(ar (bD (PW.pt (d_ (cq (cb (ao (om T) hr T.lZ (ae (pv 0) af)))) (fT (cq (cb (ao (om T) hr T.lZ (ae (pv 1) af))))))) (av (aB dP)) bA)
     (av (aB (eQ (ao (zpS T) hr T.GQ (ae (pv 0) af)) (eQ (ao (zs2 T) hr T.G3 (ae (pv 1) af)) (fN (mK (ao (fO T) hr T.fv (ae (ao (fH T) hr T.fe (ae (pv 0) (ae (pv 1) af))) (ae (bZ (v:=.ref a.dN) rfl T.eU rfl) af)))))))))),?_⟩
 wtm_at "cl";rw[show start Cc [x0,x1]=[some x0,some x1]from rfl];rcases h with⟨d,e,hd,he,hn,q⟩ | ⟨x,y,hx,hy,bx,by',q⟩
 . k_few
   . exact q _ (ah.refl _)
   . exact q _ (ah.refl _)
   . rename_i h1 h2
     exact absurd hn (by rw[h1,h2];decide)
 . unfold lK at q
   k_few
   . rename_i z;rw[pG]at z;cases z
   . rename_i z;rw[pG]at z;cases z
   . rename_i h1 h2 v H' S hv
     rw[h1,h2]at q;exact q _ S
   . rename_i h1 h2
     rw[h1,h2]at q;exact q _ (ah.refl _)
   . rename_i h1
     rw[h1]at q;exact q _ (ah.refl _)
def M8:wy->Bool
 | .tuple [d,e]=>!(bQ d&&bQ e)
 | _=>true
theorem zr7{d e:wy}(h:M8 (.tuple [d,e])=true):(bQ d&&bQ e)=false:=by
 have h:(!(bQ d&&bQ e))=true:=h;cases z:(bQ d&&bQ e)with
 | false=>rfl
 | true=>rw[z]at h;exact absurd h (by decide)
def OB(K:wa):Sp:=λvs H Q _=>∃x0,vs=[x0]/\((∃d,Is K H x0 d/\M8 d=true /\ ∀H',ah H H'->Q (.bl false) H')\/(∃x y:Rat,Is K H x0 (R x y)/\ag 1000 x/\ag 1000 y /\ ∀H',ah H H'->Q (.bl (lK x y)) H'))
theorem ztR{K:wa}{H:Hp}{Q:VK}{E:XK}{x y:Rat}{v:V}(h:Is K H v (R x y))(b1:ag 1000 x)(b2:ag 1000 y)(q:∀H',ah H H'->Q (.bl (lK x y)) H'):OB K [v] H Q E:=⟨_,rfl,.inr ⟨x,y,h,b1,b2,q⟩⟩
theorem zt3(T:Txt K mg a):aH P w K mg base aQ 4 a.IX a.Hi yS (OB K):=by
 refine T.Ih.F.ok zuB ?_ ?_;wtm_at "b1";refine⟨_,(av (aB (eQ (bP (show aP _ (.builtin "isinstance") (eG K)from ja) rfl T.z_isinstance ik (ae (pv 0) (ae (gU (v:=.ty "tuple") rfl T.z_tuple dR rfl) af))) (eQ (d9 (show aK _ (wJ .Eq) (cu K)from dq hu) (bP (show aP _ (.builtin "len") (cR K)from dS) rfl T.z_len dW (ae (pv 0) af)) ay (aZ _)) (fN (ao (Z8 T) hr T.GJ (ae (aj (pv 0)) (ae (aj (pv 0)) af)))))))),?_⟩;wtm_at "cl";rw[show start Fd [x0]=[some x0]from rfl];rcases h with⟨d,hd,hn,q⟩ | ⟨x,y,hr,bx,by',q⟩
 ·k_few
  ·rename_i e
   obtain⟨ds,rfl⟩:=K9.mp e;refine kE hd ?_;k_few
   ·rename_i e
    obtain⟨d0,d1,rfl⟩:∃d0 d1,ds=[d0,d1]:=by
     match ds,e with
     | [d0,d1],_=>exact⟨d0,d1,rfl⟩
     | [],e=>simp at e
     | [_],e=>simp at e
     | _::_::_::_,e=>simp at e;omega
    refine aA (j:=0) hd rfl (λy0 h0=>?_);o_head aA (j:=1) hd rfl (λy1 h1=>?_);o_head zox h0 h1 (zr7 hn) (λH' S=>?_);k_few;exact q _ S
   ·exact q _ (ah.refl _)
  ·exact q _ (ah.refl _)
 ·k_few
  refine zqn (by assumption) (by assumption) bx by' (λH' S=>?_);k_few;exact q _ S
def oU(x:Rat):Str:=if 1<x then "rising" else if x=1 then "even" else "falling"
def R9(K:wa):Sp:=λvs H Q _=>∃x0,vs=[x0] /\ ∃x y:Rat,Is K H x0 (R x y)/\ag 4000 x/\Q (.str (oU x)) H
theorem LU{K:wa}{H:Hp}{Q:VK}{E:XK}{x y:Rat}{v:V}(h:Is K H v (R x y))(b:ag 4000 x)(q:Q (.str (oU x)) H):R9 K [v] H Q E:=⟨_,rfl,x,y,h,b,q⟩
theorem NL(T:Txt K mg a):aH P w K mg base aQ 2 a.Jv a.Jg ze (R9 K):=by
 refine T.Aq.F.ok zzz ?_ ?_;wtm_at "b1"
 refine⟨_,(ar (bD (cb (ao (fO T) hr T.fv (ae (bZ (v:=.ref a.dN) rfl T.eU rfl) (ae (aj (pv 0)) af)))) (av (aB gE)) bA)
     (ar (bD (bW (show aK _ (wJ .Eq) (cu K)from dq hu) (aj (pv 0)) (bZ (v:=.ref a.dN) rfl T.eU rfl) (aZ _)) (av (aB gE)) bA)
     (av (aB gE)))),?_⟩
 wtm_at "cl";rw[show start Dp [x0]=[some x0]from rfl];obtain⟨x,y,hx,bx,q⟩:=h;unfold oU at q;k_few
 . rename_i h1
   rw[if_pos h1]at q;exact q
 . rename_i h1 _ _ h2
   rw[if_neg h1,if_pos h2]at q;exact q
 . rename_i h1 _ _ h2
   rw[if_neg h1,if_neg h2]at q;exact q
def BG(K:wa):Sp:=λvs H Q _=>∃x0 x1,vs=[x0,x1] /\ ∃(a b:Rat)(n:Int),x1=.int n/\Is K H x0 (R a b)/\ag 4000 a/\ag 4000 b/\0<=n/\n<=64/\(∀i,i<=n.toNat->ag 4000 (a^i))/\(∀i,i<=n.toNat->ag 4000 (aE a b i)) /\ ∀v H',ah H H'->Is K H' v (R (a^n.toNat) (aE a b n.toNat))->Q v H'
theorem Pz{K:wa}{H:Hp}{Q:VK}{E:XK}{a b:Rat}{n:Int}{v:V}(h1:Is K H v (R a b))(b1:ag 4000 a)(b2:ag 4000 b)(h0:0<=n)(h64:n<=64)(f1:∀i,i<=n.toNat->ag 4000 (a^i))(f2:∀i,i<=n.toNat->ag 4000 (aE a b i))(q:∀v H',ah H H'->Is K H' v (R (a^n.toNat) (aE a b n.toNat))->Q v H'):BG K [v,.int n] H Q E:=⟨_,_,rfl,a,b,n,rfl,h1,b1,b2,h0,h64,f1,f2,q⟩
theorem B4{K:wa}{H:Hp}{Q:VK}{E:XK}{a b:Rat}{n:Int}{v:V}(h1:Is K H v (R a b))(b1:ag 10 a)(b2:ag 10 b)(h0:0<=n)(h64:n<=64)(q:∀v H',ah H H'->Is K H' v (R (a^n.toNat) (aE a b n.toNat))->Q v H'):BG K [v,.int n] H Q E :=
 Pz h1 (b1.mono (by decide)) (b2.mono (by decide)) h0 h64 (λi hi=>(b1.pow i).mono (by omega)) (λi hi=>(b1.aE b2 i).mono (by omega)) q
theorem yZ(T:Txt K mg a):aH P w K mg base aQ 3 a.Jo a.Ia tJ (BG K):=by
 refine T.nR.F.ok mq ?_ ?_;wtm_at "b2"
 refine⟨_,(ar (az 2 mq.nd (bZ (v:=.ref a.dN) rfl T.eU rfl))
     (ar (az 3 mq.nd (bZ (v:=.ref a.de) rfl T.dD rfl))
     (ar (gz vE rfl (j5 rfl T.z_range (ae (pv 1) af)) (bR (i:=4) mq.nd rfl (Or.inl rfl)) (ar (az 2 mq.nd (ao (kq T) hr T.jt (ae (aj (pv 0)) (ae (pv 2) af))))
     (av (az 3 mq.nd (ao (fH T) hr T.fe (ae (ao (kq T) hr T.jt (ae (aj (pv 0)) (ae (pv 3) af))) (ae (aj (pv 0)) af)))))))
     (av (aB (br (ae (pv 2) (ae (pv 3) af)))))))),?_⟩
 wtm_at "cl";rw[show start Sf [x0,x1]=[some x0,some x1,none,none,none]from rfl];obtain⟨r,s',n,rfl,hr',ba,bb,h0,h64,f1,f2,q⟩:=h;o_head lU (n:=n) (by omega) (by omega) (λi σ H'=>∃(f g:V)(o:Option V),σ = [some x0,some (.int n),some f,some g,o]/\ah H H'/\Is K H' f (N (r^i))/\Is K H' g (N (aE r s' i))) ⟨_,_,_,rfl,ah.refl H,by rw[VX];exact oI.mpr ⟨_,rfl,T.rC H⟩,oI.mpr ⟨_,rfl,T.eT H⟩⟩ ?_ ?_
 . rintro i σ H' hi ⟨f,g,o,rfl,S1,hf,hg⟩
   have hr1:=hr'.by S1;have bf:ag 4000 (r^i):=f1 i (by omega);have bg:ag 4000 (aE r s' i):=f2 i (by omega);have bg2:ag 8999 (r*aE r s' i):=(ba.mul bg).mono (by decide);o_head ⟨_,_,_,rfl,S1.trans (ah.trans (by assumption) (ah.trans (by assumption) (by assumption))),?_,?_⟩
   . rw[WA,qr]
     wtm_at "is"
   . wtm_at "is"
 . rintro σ H' ⟨f,g,o,rfl,S1,hf,hg⟩
   wtm_at "ga";exact q _ _ (S1.trans (by assumption)) (by assumption)
def Oa(K:wa):Sp:=λvs H Q _=>∃x0 x1,vs=[x0,x1] /\ ∃(f g x:Rat),Is K H x0 (R f g)/\Is K H x1 (N x)/\ag 700 f/\ag 1500 g/\ag 8100 x /\ ∀v H',ah H H'->Is K H' v (N (f*x+g))->Q v H'
theorem OG{K:wa}{H:Hp}{Q:VK}{E:XK}{f g x:Rat}{v w:V}(h1:Is K H v (R f g))(h2:Is K H w (N x))(b1:ag 700 f)(b2:ag 1500 g)(b3:ag 8100 x)(q:∀v H',ah H H'->Is K H' v (N (f*x+g))->Q v H'):Oa K [v,w] H Q E:=⟨_,_,rfl,f,g,x,h1,h2,b1,b2,b3,q⟩
theorem MS(T:Txt K mg a):aH P w K mg base aQ 3 a.HR a.Gm zB (Oa K):=by
 refine T.Ae.F.ok zqK ?_ ?_;wtm_at "b2";refine⟨_,(av (aB (ao (fH T) hr T.fe (ae (ao (kq T) hr T.jt (ae (aj (pv 0)) (ae (pv 1) af))) (ae (aj (pv 0)) af))))),?_⟩;wtm_at "cl";rw[show start EU [x0,x1]=[some x0,some x1]from rfl];obtain⟨f,g,x,hp,hx,bf,bg,bx,q⟩:=h;k_few;rename_i hz;exact q _ _ (ah.trans (by assumption) (by assumption)) hz
def yF(K:wa):Sp:=λvs H Q _=>∃x0,vs=[x0]/\((∃d,Is K H x0 d/\bQ d=false/\Q (.bl false) H)\/(∃x:Rat,Is K H x0 (N x)/\ag 4000 x/\Q (.bl (jK x)) H))
theorem zqt{K:wa}{H:Hp}{Q:VK}{E:XK}{d:wy}{v:V}(h:Is K H v d)(n:bQ d=false)(q:Q (.bl false) H):yF K [v] H Q E:=⟨_,rfl,.inl ⟨d,h,n,q⟩⟩
theorem UQ{K:wa}{H:Hp}{Q:VK}{E:XK}{x:Rat}{v:V}(h:Is K H v (N x))(b:ag 4000 x)(q:Q (.bl (jK x)) H):yF K [v] H Q E:=⟨_,rfl,.inr ⟨x,h,b,q⟩⟩
theorem zrs(T:Txt K mg a):aH P w K mg base aQ 3 a.Iu a.Gz yB (yF K):=by
 refine T.HE.F.ok YD ?_ ?_;wtm_at "b1"
 refine⟨_,(ar (bD (PW.pt (d_ (cq (cb (ao (om T) hr T.lZ (ae (pv 0) af)))) (fT (cb (ao (fO T) hr T.fv (ae (pv 0) (ae (bZ (v:=.ref a.de) rfl T.dD rfl) af))))))) (av (aB dP)) bA)
     (av (aB (eQ (ao (fO T) hr T.fv (ae (pv 0) (ae (bZ (v:=.ref a.dN) rfl T.eU rfl) af))) (fN (d9 lq (aj (pv 0)) (lJ rfl T.Tn) (aZ _))))))),?_⟩
 wtm_at "cl";rw[show start Dg [x0]=[some x0]from rfl];rcases h with⟨d,hd,hn,q⟩ | ⟨x,hx,bx,q⟩
 . k_few
   . exact q
   . rename_i e;rw[hn]at e;cases e
 . unfold jK at q
   k_few
   . rename_i z;rw[pG]at z;cases z
   . rename_i h1
     rw[decide_eq_true h1]at q;exact q
   . rename_i h1 h2
     rw[decide_eq_false h1,decide_eq_true h2]at q;exact q
   . rename_i h1 h2
     rw[decide_eq_false h1,decide_eq_false h2]at q;exact q
def fV:wy->Bool
 | .tuple [.int p,.int q]=>gC p q&&jK (wu p q)
 | _=>false
theorem Nb(x:Rat):fV (N x)=jK x:=by
 show(gC x.num x.den&&jK (wu x.num x.den))=jK x
 rw[Og,WK,VJ]
theorem zui{d:wy}(h:bQ d=true):∃x:Rat,d=N x:=by
 match d with
 | .tuple [.int p,.int q] =>
  obtain⟨r,e1,e2⟩:=U8 (show gC p q=true from h);exact⟨r,by rw[e1,e2];rfl⟩
 | .none=>simp[bQ]at h
 | .bool _=>simp[bQ]at h
 | .int _=>simp[bQ]at h
 | .str _=>simp[bQ]at h
 | .list _=>simp[bQ]at h
 | .dict _=>simp[bQ]at h
 | .tuple []=>simp[bQ]at h
 | .tuple [_]=>simp[bQ]at h
 | .tuple (_::_::_::_)=>simp[bQ]at h
 | .tuple [.none,_]=>simp[bQ]at h
 | .tuple [.bool _,_]=>simp[bQ]at h
 | .tuple [.str _,_]=>simp[bQ]at h
 | .tuple [.tuple _,_]=>simp[bQ]at h
 | .tuple [.list _,_]=>simp[bQ]at h
 | .tuple [.dict _,_]=>simp[bQ]at h
 | .tuple [.int _,.none]=>simp[bQ]at h
 | .tuple [.int _,.bool _]=>simp[bQ]at h
 | .tuple [.int _,.str _]=>simp[bQ]at h
 | .tuple [.int _,.tuple _]=>simp[bQ]at h
 | .tuple [.int _,.list _]=>simp[bQ]at h
 | .tuple [.int _,.dict _]=>simp[bQ]at h
theorem zAE{d:wy}(h:bQ d=false):fV d=false:=by
 unfold fV
 split
 ·rename_i p q
  rw[show gC p q=false from h];rfl
 ·rfl
theorem Nc{K:wa}{H:Hp}{Q:VK}{E:XK}{d:wy}{v:V}(h:Is K H v d)(b:∀x,d=N x->ag 4000 x)(q:Q (.bl (fV d)) H):yF K [v] H Q E:=by
 cases e:bQ d with
 | false=>rw[zAE e]at q;exact zqt h e q
 | true =>
  obtain⟨x,rfl⟩:=zui e;rw[Nb]at q;exact UQ h (b x rfl) q
def Ta(K:wa):Sp:=λvs H Q _=>∃x0,vs=[x0]/\((∃d,Is K H x0 d/\(ko d || iO d)=false /\ ∀H',ah H H'->Q (.bl false) H')\/(∃ds,(Is K H x0 (.list ds)\/Is K H x0 (.tuple ds))/\(∀e∈ds,∀x,e=N x->ag 4000 x) /\ ∀H',ah H H'->Q (.bl (decide (1<=ds.length)&&decide (ds.length<=8)&&ds.all fV)) H'))
theorem Zk{K:wa}{H:Hp}{Q:VK}{E:XK}{ds:List wy}{v:V}(h:Is K H v (.list ds)\/Is K H v (.tuple ds))(b:∀e∈ds,∀x,e=N x->ag 4000 x)(q:∀H',ah H H'->Q (.bl (decide (1<=ds.length)&&decide (ds.length<=8)&&ds.all fV)) H'):Ta K [v] H Q E:=⟨_,rfl,.inr ⟨ds,h,b,q⟩⟩
theorem Ze(T:Txt K mg a):aH P w K mg base aQ 4 a.G6 a.FV sY (Ta K):=by
 refine T.Ga.F.ok ZM ?_ ?_;wtm_at "b1"
 refine⟨_,(ar (bD (PW.pt (d_ (cq (cb (bP (show aP _ (.builtin "isinstance") (Cy K)from zuz) rfl T.z_isinstance ik (ae (pv 0) (ae (br (ae (gU (v:=.ty "list") rfl T.z_list kh rfl) (ae (gU (v:=.ty "tuple") rfl T.z_tuple dR rfl) af))) af))))) (fT (cq (YO lq lq ay (bP (show aP _ (.builtin "len") (cR K)from dS) rfl T.z_len dW (ae (pv 0) af)) (lJ rfl T.Tp)))))) (av (aB dP)) bA)
     (av (aB (bP (show aP _ (.builtin "all") (kz K)from mO rfl) rfl T.z_all mR (ae (dU rfl (cC.by (N':=["one"]) (src:=[none]) rfl (show cS _ (aC yn).names ye ["one"] [none]=true from by decide +kernel)) (N0 (pv 0)) (λ_ _ _ _ _=>(bR (i:=0) (show(["one"]:List Str).Nodup from by decide) rfl (Or.inl rfl))) (λ_ _ _ _ _=>du) (λ_ _ _ _ _=>(ao (zrs (K:=K) (mg:=mg) (a:=a) T) hr T.HE (ae (pv 0) af)))) af))))),?_⟩
 wtm_at "cl";rw[show start ye [x0]=[some x0]from rfl];rcases h with⟨d,hd,hn,q⟩ | ⟨ds,hd,bd,q⟩
 . k_few
   refine mG (by simp) (λtp H1 _ S1 e1=>?_);o_head BV (hd.by S1) e1 ?_;rw[hn];k_few;exact q H1 S1
 . rcases hd with hd | hd
   . k_few
     refine mG (by simp) (λtp H1 _ S1 e1=>?_);o_head BV (hd.by S1) e1 ?_;rw[show(ko (.list ds) || iO (.list ds))=true from rfl];obtain⟨ap,us,rfl,hs,tu⟩:=cE.mp (hd.by S1);have hul:=tu.length;o_head iN hs ?_;rw[hul];k_few
     . rename_i z0 z
       have:=q H1 S1;rw[decide_eq_false (show ¬ ds.length<=8 by omega),XZ,Wh]at this;exact this
     . rename_i z0 z
       have h1:1<=ds.length:=by omega
       have h8:ds.length<=8:=by omega
       refine .inl (jI (o0:=none) (tl:=[]) hs rfl (λj y H'=>y=.bl (fV (ds.getD j .none))) ?_ ?_)
       . intro D i x ys o H2 hx inv
         obtain⟨hi,ix⟩:=jZ tu hx;o_head Nc (ix.by inv.same) (λx e=>bd _ (getD_mem hi) x e) ?_;k_few;exact dZ inv (by omega) (λ_ _ _ _ _ z=>z) ⟨_,rfl⟩ (ah.refl _) rfl
       . intro D ys H2 hn S2 hD hl hr
         have hys:ys=(ds.map fV).map V.bl:=by
           refine WH (by rw[hl,hul,wm,wm]) λj h1 h2=>?_
           have:=hr j ys[j] (wc h1);rw[this,VC,VC,wb,wc]
           rfl
         subst hys;o_head lA (.of hD) ?_;k_few;have e:(ds.map fV).all id=ds.all fV:=by rw[xI];rfl
         have:=q H2 (S1.trans S2);rw[decide_eq_true h1,decide_eq_true h8,<- e]at this;exact this
     . rename_i z
       have:=q H1 S1;rw[decide_eq_false (show ¬ 1<=ds.length by omega),Wh,Wh]at this;exact this
   . k_few
     refine mG (by simp) (λtp H1 _ S1 e1=>?_);o_head BV (hd.by S1) e1 ?_;rw[show(ko (.tuple ds) || iO (.tuple ds))=true from rfl];obtain⟨ap,us,rfl,hs,tu⟩:=bX.mp (hd.by S1);have hul:=tu.length;o_head Oc hs ?_;rw[hul];k_few
     . rename_i z0 z
       have:=q H1 S1;rw[decide_eq_false (show ¬ ds.length<=8 by omega),XZ,Wh]at this;exact this
     . rename_i z0 z
       have h1:1<=ds.length:=by omega
       have h8:ds.length<=8:=by omega
       refine .inr (h9 (o0:=none) (tl:=[]) hs rfl (λj y H'=>y=.bl (fV (ds.getD j .none))) ?_ ?_)
       . intro D i x ys o H2 hx inv
         obtain⟨hi,ix⟩:=jZ tu hx;o_head Nc (ix.by inv.same) (λx e=>bd _ (getD_mem hi) x e) ?_;k_few;exact dZ inv (by omega) (λ_ _ _ _ _ z=>z) ⟨_,rfl⟩ (ah.refl _) rfl
       . intro D ys H2 hn S2 hD hl hr
         have hys:ys=(ds.map fV).map V.bl:=by
           refine WH (by rw[hl,hul,wm,wm]) λj h1 h2=>?_
           have:=hr j ys[j] (wc h1);rw[this,VC,VC,wb,wc]
           rfl
         subst hys;o_head lA (.of hD) ?_;k_few;have e:(ds.map fV).all id=ds.all fV:=by rw[xI];rfl
         have:=q H2 (S1.trans S2);rw[decide_eq_true h1,decide_eq_true h8,<- e]at this;exact this
     . rename_i z
       have:=q H1 S1;rw[decide_eq_false (show ¬ 1<=ds.length by omega),Wh,Wh]at this;exact this
theorem zwc{a b:Rat}(h:aU a b):lK a b=true:=by
 obtain⟨h1,h2,h3,h4,h5,h6,h7⟩:=h;have k2:¬ (4:Rat)<a:=W9.mpr h2;have k4:¬ b<0:=W9.mpr h4;have k5:¬ (1:Rat)<b:=W9.mpr h5;have k7:¬ a+b<1:=W9.mpr h7;have k3:(a.den:Int)<=8:=by omega
 have k6:(b.den:Int)<=12:=by omega
 simp[lK,pI,pz,h1,k2,k3,k4,k5,k6,k7]
theorem Yu{xs:List Rat}(h:∀x∈xs,eC x):(xs.map N).all fV=true:=by
 rw[Wt];intro d hd;obtain⟨x,hx,rfl⟩:=wS.mp hd;rw[Nb];exact(h x hx).is
theorem Z1{xs:List Rat}(h:∀x∈xs,eC x):∀e∈xs.map N,∀x,e=N x->ag 4000 x:=by
 intro e he x hx;obtain⟨y,hy,rfl⟩:=wS.mp he;rw[<- zCZ hx];exact(h y hy).dH.mono (by decide)
def Ki(K:wa):Sp:=λvs H Q _=>∃x0 x1,vs=[x0,x1] /\ ∃(a b:Rat)(xs:List Rat),Is K H x0 (R a b)/\aU a b/\(Is K H x1 (LN xs)\/Is K H x1 (TN xs))/\1<=xs.length/\xs.length<=8/\(∀x∈xs,eC x) /\ ∀v H',ah H H'->Is K H' v (aW a b xs)->Q v H'
theorem Zf{K:wa}{H:Hp}{Q:VK}{E:XK}{a b:Rat}{xs:List Rat}{v w:V}(h1:Is K H v (R a b))(ok:aU a b)(h2:Is K H w (LN xs)\/Is K H w (TN xs))(h3:1<=xs.length)(h4:xs.length<=8)(h5:∀x∈xs,eC x)(q:∀v H',ah H H'->Is K H' v (aW a b xs)->Q v H'):Ki K [v,w] H Q E:=⟨_,_,rfl,a,b,xs,h1,ok,h2,h3,h4,h5,q⟩
theorem ZS(T:Txt K mg a):aH P w K mg base aQ 5 a.IF a.GZ tD (Ki K):=by
 refine T.Ht.F.ok Yb ?_ ?_;wtm_at "b2"
 refine⟨_,(ar (bD (cq (cb (ao (zt3 T) hr T.Ih (ae (pv 0) af)))) (av By) bA)
     (ar (bD (cq (cb (ao (Ze T) hr T.Ga (ae (pv 1) af)))) (av By) bA)
     (av (aB (br (ae (pv 0) (ae (dY (show aP _ (.type "tuple") (eA K)from fz) rfl T.z_tuple dR (ae (pv 1) af)) af))))))),?_⟩
 wtm_at "cl";rw[show start CV [x0,x1]=[some x0,some x1]from rfl];obtain⟨ra,rb,xs,hr,ok,hp,h1,h8,hph,q⟩:=h;o_head ztR hr (ok.ba.mono (by decide)) (ok.bb.mono (by decide)) (λH1 S1=>?_);rw[zwc ok];k_few;have hp1:Is K H1 x1 (LN xs)\/Is K H1 x1 (TN xs):=hp.imp (λz=>z.by S1) (λz=>z.by S1);refine Zk (ds:=xs.map N) hp1 (Z1 hph) (λH2 S2=>?_);rw[Yu hph,wm,decide_eq_true h1,decide_eq_true h8,show(true&&true&&true)=true from rfl];have hp2:Is K H2 x1 (LN xs)\/Is K H2 x1 (TN xs):=hp1.imp (λz=>z.by S2) (λz=>z.by S2);have hr2:Is K H2 x0 (R ra rb):=(hr.by S1).by S2;k_few;rcases hp2 with z | z
 . refine gY z (λw H3 S3 i3=>?_)
   o_head cF (ds:=[R ra rb,TN xs]) (by simp) (.cons (hr2.by S3) (.cons i3 .nil)) (λv H4 S4 i4=>?_);exact q v H4 (S1.trans (S2.trans (S3.trans S4))) i4
 . refine Lb z ?_
   o_head cF (ds:=[R ra rb,TN xs]) (by simp) (.cons hr2 (.cons z .nil)) (λv H4 S4 i4=>?_);exact q v H4 (S1.trans (S2.trans S4)) i4
def Pl(K:wa):Sp:=λvs H Q _=>∃x0,vs=[x0] /\ ∃xs:List Rat,(Is K H x0 (LN xs)\/Is K H x0 (TN xs))/\1<=xs.length/\(∀i,ag 4000 (xs.getD i 0)) /\ ∀v,Is K H v (N (aY xs))->Q v H
theorem DB{K:wa}{H:Hp}{Q:VK}{E:XK}{xs:List Rat}{v:V}(h:Is K H v (LN xs)\/Is K H v (TN xs))(h1:1<=xs.length)(b:∀i,ag 4000 (xs.getD i 0))(q:∀v,Is K H v (N (aY xs))->Q v H):Pl K [v] H Q E:=⟨_,rfl,xs,h,h1,b,q⟩
theorem Bt(T:Txt K mg a):aH P w K mg base aQ 2 a.ID a.GU yC (Pl K):=by
 refine T.p_.F.ok rP ?_ ?_;wtm_at "b1"
 refine⟨_,(ar (az 1 rP.nd (aj (pv 0)))
     (ar (gz vE rfl (N0 (pv 0)) (bR (i:=2) rP.nd rfl (Or.inl rfl)) (av (bD (cb (ao (fO T) hr T.fv (ae (pv 1) (ae (pv 2) af)))) (av (az 1 rP.nd (pv 2))) bA)))
     (av (aB (pv 1))))),?_⟩
 wtm_at "cl";rw[show start PF [x0]=[some x0,none,none]from rfl];obtain⟨xs,hx,h1,bx,q⟩:=h;rcases hx with hx | hx
 . obtain⟨ap,us,rfl,hs,tu⟩:=cE.mp hx
   have hul:us.length=xs.length:=by rw[tu.length,wm]
   o_head jJ hx (by decide) (by omega) (λv0 i0=>?_);have i0:Is K H v0 (N (mx (xs.getD 0 0) [])):=i0;o_head .inl (y7 hs (λi σ H'=>∃o v,σ = [some (.ref ap),some v,o]/\H'=H/\Is K H v (N (mx (xs.getD 0 0) (xs.take i)))) ⟨_,v0,rfl,rfl,by rw[Q8];exact i0⟩ (λi σ H' _ h=>by obtain⟨_,_,_,rfl,_⟩:=h;exact hs) ?_ ?_)
   . rintro i x σ H' hx' ⟨o,v,rfl,rfl,iv⟩
     obtain⟨hi,ix⟩:=dk tu hx';have b1:=yp bx h1 i;have b2:=bx i;k_few
     . rename_i z
       exact⟨_,x,rfl,rfl,by rw[km hi,my,if_pos z];exact ix⟩
     . rename_i z
       exact⟨_,v,rfl,rfl,by rw[km hi,my,if_neg z];exact iv⟩
   . rintro σ H' ⟨o,v,rfl,rfl,iv⟩
     rw[hul,Wc]at iv;k_few;exact q v iv
 . obtain⟨ap,us,rfl,hs,tu⟩:=bX.mp hx
   have hul:us.length=xs.length:=by rw[tu.length,wm]
   o_head zAF hx (by decide) (by omega) (λv0 i0=>?_);have i0:Is K H v0 (N (mx (xs.getD 0 0) [])):=i0;o_head .inr (ZZ hs (λi σ H'=>∃o v,σ = [some (.ref ap),some v,o]/\H'=H/\Is K H v (N (mx (xs.getD 0 0) (xs.take i)))) ⟨_,v0,rfl,rfl,by rw[Q8];exact i0⟩ (λi σ H' _ h=>by obtain⟨_,_,_,rfl,_⟩:=h;exact hs) ?_ ?_)
   . rintro i x σ H' hx' ⟨o,v,rfl,rfl,iv⟩
     obtain⟨hi,ix⟩:=dk tu hx';have b1:=yp bx h1 i;have b2:=bx i;k_few
     . rename_i z
       exact⟨_,x,rfl,rfl,by rw[km hi,my,if_pos z];exact ix⟩
     . rename_i z
       exact⟨_,v,rfl,rfl,by rw[km hi,my,if_neg z];exact iv⟩
   . rintro σ H' ⟨o,v,rfl,rfl,iv⟩
     rw[hul,Wc]at iv;k_few;exact q v iv
def RA(K:wa):Sp:=λvs H Q _=>∃x0 x1,vs=[x0,x1] /\ ∃(xs:List Rat)(v:Rat),Is K H x0 (TN xs)/\Is K H x1 (N v)/\xs.length<=900 /\ ∀u H',ah H H'->Is K H' u (TW (fP xs v))->Q u H'
theorem zs5{K:wa}{H:Hp}{Q:VK}{E:XK}{xs:List Rat}{v:Rat}{w u:V}(h1:Is K H w (TN xs))(h2:Is K H u (N v))(hl:xs.length<=900)(q:∀u H',ah H H'->Is K H' u (TW (fP xs v))->Q u H'):RA K [w,u] H Q E:=⟨_,_,rfl,xs,v,h1,h2,hl,q⟩
theorem zri(T:Txt K mg a):aH P w K mg base aQ 1 a.Iw a.GN uz (RA K):=by
 refine T.G_.F.ok zta ?_ ?_;wtm_at "b2";refine⟨_,(av (aB (dY (show aP _ (.type "tuple") (eA K)from fz) rfl T.z_tuple dR (ae (dU rfl (cC.by (N':=["worm","own","phase"]) (src:=[none,none,some 1]) rfl (show cS _ (aC tE).names uu ["worm","own","phase"] [none,none,some 1]=true from by decide +kernel)) (PB rfl T.z_enumerate (ae (pv 0) af)) (λ_ _ _ _ _=>by exact(show PG _ _ (nj K 2 _)from ml (n:=2) rfl (gW (bR (i:=0) (show(["worm","own","phase"]:List Str).Nodup from by decide) rfl (Or.inl rfl)) (gW (bR (i:=1) (show(["worm","own","phase"]:List Str).Nodup from by decide) rfl (Or.inl rfl)) mv)))) (λ_ _ _ _ _=>(zc (bW (show aK _ (wJ .Eq) (cu K)from dq hu) (pv 1) (pv 2) (aZ _)))) (λ_ _ _ _ _=>(pv 0))) af)))),?_⟩;wtm_at "cl";rw[show start uu [x0,x1]=[some x0,some x1]from rfl];obtain⟨xs,v,hx,hv,hl,q⟩:=h;obtain⟨ap,us,rfl,hu',tu⟩:=bX.mp hx;have hul:us.length=xs.length:=by rw[tu.length,wm]
 o_head zrG hu' (λD i ys σ' H'=>(∃o1 o2,σ'=[o1,o2,some x1])/\H D=none/\ah H H'/\H' D=some (.lst (vz ((wq i).filter λw=>decide (xs.getD w 0=v))))) (λD H' n s e=>⟨⟨_,_,rfl⟩,n,s,e⟩) (λD i ys σ' H' h=>h.2.2.1.j3 hu') ?_ ?_
 ·rintro D i x ys σ' H1 c H2 hx' ⟨⟨o1,o2,rfl⟩,n,S1,e1⟩ hc S2 e2
  obtain⟨hi,ix⟩:=dk tu hx';have T2:=S1.trans S2;have ix2:=ix.by T2;have hv2:=hv.by T2;have e12:=S2 _ _ e1
  have hfl:((wq i).filter λw=>decide (xs.getD w 0=v)).length<=i:=by
   have:=Wr (λw=>decide (xs.getD w 0=v)) (wq i);rw[vB]at this;exact this
  refine mr (.of e2) rfl ?_;k_few
  ·rename_i z
   refine lI e12 (by rw[jO];omega) (λH6 E6 e6=>⟨⟨_,_,rfl⟩,n,T2.grow n E6,?_⟩);rw[My (n:=i),decide_eq_true z,if_pos rfl,Fc];exact e6
  ·rename_i z
   refine⟨[],⟨_,_,rfl⟩,n,T2,?_⟩;rw[My (n:=i),decide_eq_false z,if_neg (by decide),Wd];exact e12
 ·rintro D ys σ' H1 ⟨_,n,S1,e1⟩
  rw[hul]at e1;o_head uj (.of e1) (λl H2 n2 S2 e3=>?_);exact q _ H2 (S1.trans S2) (EM.mpr ⟨l,rfl,.of e3⟩)
def PK(K:wa):Sp:=λvs H Q _=>∃x0,vs=[x0] /\ ∃(a b:Rat)(xs:List Rat),Is K H x0 (aW a b xs)/\xs.length<=8/\(∀i,ag 4000 (xs.getD i 0)) /\ ∀l H' us,H l=none->ah H H'->H' l=some (.lst us)->au K H' us ((ak xs).map (jw xs))->Q (.ref l) H'
theorem CS{K:wa}{H:Hp}{Q:VK}{E:XK}{a b:Rat}{xs:List Rat}{v:V}(h:Is K H v (aW a b xs))(h8:xs.length<=8)(bx:∀i,ag 4000 (xs.getD i 0))(q:∀l H' us,H l=none->ah H H'->H' l=some (.lst us)->au K H' us ((ak xs).map (jw xs))->Q (.ref l) H'):PK K [v] H Q E:=⟨_,rfl,a,b,xs,h,h8,bx,q⟩
theorem zuo{m:Nat}{xs:List Rat}(b:∀i,ag m (xs.getD i 0)){x:Rat}(h:x∈xs):ag m x:=by
 obtain⟨j,hj,rfl⟩:=w9 h;have:=b j;rw[wb,wc hj]at this;exact this
theorem ZU{α β : Type}(f : α -> β)(l:List α):(!(l.map f).isEmpty) = !l.isEmpty:=by cases l<;>rfl
theorem AA(T:Txt K mg a):aH P w K mg base aQ 3 a.Jl a.HP uQ (PK K):=by
 refine T.rk.F.ok pO ?_ ?_;wtm_at "b1"
 refine⟨_,(ar (az 1 pO.nd (eH af))
     (ar (az 2 pO.nd (dY (show aP _ (.type "list") (jN K)from oE) rfl T.z_list kh (ae (aj (pv 0)) af)))
     (ar (nF vE (sW (pv 2)) (ar (az 3 pO.nd (ao (Bt T) hr T.p_ (ae (pv 2) af)))
     (ar (mB (mV Wy Ww Wx kY (pv 1) (ae (br (ae (pv 3) (ae (ao (zri T) hr T.G_ (ae (aj (pv 0)) (ae (pv 3) af))) af))) af)))
     (av (nB (i:=2) pO.nd rfl (Or.inl rfl) rfl (cC.by (N':=["other","phase"]) (src:=[none,some 3]) rfl (show cS _ (aC sF).names DI ["other","phase"] [none,some 3]=true from by decide +kernel)) (gr (pv 2)) (λ_ _ _ _ _=>(bR (i:=0) (show(["other","phase"]:List Str).Nodup from by decide) rfl (Or.inl rfl))) (λ_ _ _ _ _=>(zc (bW (show aK _ (wJ .NotEq) (fR K)from jB hu) (pv 0) (pv 1) (aZ _)))) (λ_ _ _ _ _=>(pv 0)))))))
     (av (aB (pv 1)))))),?_⟩
 wtm_at "cl";rw[show start DI [x0]=[some x0,none,none,none]from rfl];obtain⟨ra,rb,xs,hw,h8,bx,q⟩:=h;o_head eX (by simp) (λlt H1 n1 S1 e1=>?_);o_head aA (j:=1) (hw.by S1) rfl (λvp ip=>?_);o_head sO ip (λll H2 us n2 S2 e2 t2=>?_);have nlt:ll≠lt:=λz=>by subst z;rw[e1]at n2;cases n2
 o_head sh (λm σ' H'=>∃(ll:we)(left done:List Rat)(us ws:List V)(f:Nat)(o3:Option V),σ'=[some x0,some (.ref lt),some (.ref ll),o3]/\m=left.length/\ah H H'/\ll≠lt/\H' lt=some (.lst ws)/\au K H' ws (done.map (jw xs))/\H' ll=some (.lst us)/\au K H' us (left.map N)/\(∀y∈left,y∈xs)/\left.length<=f/\done.length+left.length<=xs.length/\done++iM f left=ak xs) _ ⟨ll,xs,[],us,[],xs.length,_,rfl,rfl,S1.trans S2,nlt,S2 _ _ e1,.nil,e2,t2,λy h=>h,wo _,by simp,rfl⟩ ?_;rintro m σ' H3 ⟨ll,left,done,us,ws,f,o3,rfl,rfl,S3,nl,et,tt',el,tl',sub,hf,hdl,heq⟩;o_head Br (dm el tl') ?_;rw[ZU]
 by_cases he:left=[]
 . rw[show(!left.isEmpty)=false by rw[he];rfl]
   refine mi ?_;rw[he,Dt,Wd]at heq;rw[heq]at tt';k_few;exact q lt H3 ws n1 S3 et tt'
 . rw [show (!left.isEmpty) = true by cases left with
       | nil=>exact absurd rfl he
       | cons y l=>rfl]
   refine ny ?_;refine sa ?_;have hpos:=VF.mpr he
   have bl:∀i,ag 4000 (left.getD i 0):=λi=>by
     rcases wD i left.length with z | z
     . exact zuo bx (sub _ (getD_mem z))
     . rw[wb,wE z];exact ag.zero.mono (by decide)
   obtain⟨f',rfl⟩:∃f',f=f'+1:=⟨f-1,by omega⟩;rw[m7 he]at heq;have hless:=Nd he;have hwl:=tt'.length;rw[wm]at hwl;o_head DB (.inl (dm el tl')) hpos bl (λvm im=>?_);o_head lO (aR.of et) ?_;o_head aA (j:=1) (hw.by S3) rfl (λvq iq=>?_);o_head zs5 iq im (by omega) (λv4 H4 S4 i4=>?_);o_head cF (ds:=[N (aY left),TW (fP xs (aY left))]) (by simp) (.cons (im.by S4) (.cons i4 .nil)) (λv5 H5 S5 i5=>?_);k_few;have T5:=S4.trans S5;refine lB (T5 _ _ et) (by omega) (λH6 E6 e6=>?_);have K6:=E6.keep (T5 _ _ et);have el6:=E6 _ _ nl (T5 _ _ el);have tl6:au K H6 us (left.map N):=au.keep (T5.keep.trans K6) _ _ (fU _) tl'
   have tt6:au K H6 (ws++[v5]) ((done++[aY left]).map (jw xs)):=by
     rw[vD];exact(au.keep (T5.keep.trans K6) _ _ (Yp ..) tt').snoc (i5.kJ K6 (Sd ..))
   have im6:=(im.by T5).fI K6;have S6:ah H H6:=(S3.trans T5).grow n1 E6;generalize hmx:aY left=mxx at *;o_head sv (.of el6) (λD i ys σ' H'=>(∃o,σ'=[o,some vm])/\H6 D=none/\ah H6 H'/\H' D=some (.lst ys)/\au K H' ys (((left.take i).filter λy=>!decide (y=mxx)).map N)) (λD H' n s e=>⟨⟨_,rfl⟩,n,s,e,.nil⟩) (λD i ys σ' H' h=>h.2.2.1.seq (.of el6)) ?_ ?_
   . rintro D i x ys σ' H7 hx ⟨⟨o,rfl⟩,n7,S7,e7,t7⟩
     obtain⟨hi,ix⟩:=dk tl6 hx;have ix7:=ix.by S7;have im7:=im6.by S7;have hyl:=t7.length;rw[wm]at hyl;have hfl:=Wr (λy=>!decide (y=mxx)) (left.take i);rw[Ws]at hfl;k_few
     . rename_i z
       refine lI e7 (by omega) (λH8 E8 e8=>⟨⟨_,rfl⟩,n7,S7.grow n7 E8,e8,?_⟩);have K8:=E8.keep e7;rw[km hi,WN,WG,decide_eq_false z,vD];exact(au.keep K8 _ _ (fU _) t7).append (.cons (ix7.fI K8) .nil)
     . rename_i z
       refine⟨ys,⟨_,rfl⟩,n7,S7,e7,?_⟩;rw[km hi,WN,WG,decide_eq_true (by first | exact z | exact VS.mp z)];have:([]:List Rat).filter (λy=>!decide (y=mxx))=[]:=rfl
       simpa using t7
   . rintro D ys σ' H7 ⟨_,n7,S7,e7,t7⟩
     have hul:=tl6.length;rw[wm]at hul;rw[hul,Wc]at t7;k_few;exact⟨(left.filter λy=>!decide (y=mxx)).length,by omega,D,_,done++[mxx],ys,ws++[v5],f',_,rfl,rfl,S6.trans S7,(λz=>by subst z;rw[e6]at n7;cases n7),S7 _ _ e6,au.same S7 _ _ tt6,e7,t7,λy hy=>sub y (vb.mp hy).1,by omega,by rw[wR];simp only[vS];omega,by rw[VR];exact heq⟩
def Nj(K:wa):Sp:=λvs H Q _=>∃x0 x1,vs=[x0,x1] /\ ∃(lw:we)(left:List Nat)(ps:List Rat),x0=.ref lw/\H lw=some (.lst (vz left))/\Is K H x1 (LN ps)/\(∀w∈left,w<ps.length)/\left.length<=900/\(∀i,ag 4000 (ps.getD i 0)) /\ ∀v H',ah H H'->Is K H' v (TW (aF ps left))->Q v H'
theorem LB{K:wa}{H:Hp}{Q:VK}{E:XK}{lw:we}{left:List Nat}{ps:List Rat}{v:V}(e:H lw=some (.lst (vz left)))(h:Is K H v (LN ps))(hw:∀w∈left,w<ps.length)(hl:left.length<=900)(b:∀i,ag 4000 (ps.getD i 0))(q:∀v H',ah H H'->Is K H' v (TW (aF ps left))->Q v H'):Nj K [.ref lw,v] H Q E:=⟨_,_,rfl,lw,left,ps,rfl,e,h,hw,hl,b,q⟩
theorem W_(ps:List Rat)(l:List Nat):(aF ps l).length<=l.length:=Wr _ _
theorem MW(T:Txt K mg a):aH P w K mg base aQ 2 a.Hn a.FN rS (Nj K):=by
 refine T.Aa.F.ok zot ?_ ?_;wtm_at "b2";refine⟨_,(av (aB (dY (show aP _ (.type "tuple") (eA K)from fz) rfl T.z_tuple dR (ae (dU rfl (cC.by (N':=["worm","phases"]) (src:=[none,some 1]) rfl (show cS _ (aC zj).names zK ["worm","phases"] [none,some 1]=true from by decide +kernel)) (gr (pv 0)) (λ_ _ _ _ _=>(bR (i:=0) (show(["worm","phases"]:List Str).Nodup from by decide) rfl (Or.inl rfl))) (λ_ _ _ _ _=>(zc (cq (cb (ao (fO (K:=K) (mg:=mg) (a:=a) T) hr T.fv (ae (dC (show gK _ (c_ K)from dg) (pv 1) (pv 0) (λ_ _=>rfl)) (ae (bZ (v:=.ref a.dN) rfl T.eU rfl) af))))))) (λ_ _ _ _ _=>(pv 0))) af)))),?_⟩;wtm_at "cl";rw[show start zK [x0,x1]=[some x0,some x1]from rfl];obtain⟨lw,left,ps,rfl,e1,hx,hw,hl,bp,q⟩:=h;o_head sv (.of e1) (λD i ys σ' H'=>(∃o,σ'=[o,some x1])/\H D=none/\ah H H'/\H' D=some (.lst (vz (aF ps (left.take i))))) (λD H' n s e=>⟨⟨_,rfl⟩,n,s,e⟩) (λD i ys σ' H' h=>h.2.2.1.seq (.of e1)) ?_ ?_
 ·rintro D i x ys σ' H1 hx' ⟨⟨o,rfl⟩,n,S1,e2⟩
  obtain⟨hi,rfl⟩:=Bi hx';have hx1:=hx.by S1;have hlt:=hw _ (vO hi);have bw:=bp left[i];have hle:=W_ ps (left.take i);have htl:(left.take i).length<=900:=by rw[Ws];omega
  o_head jJ hx1 (by omega) (by omega) (λv iv=>?_);rw[wP]at iv;generalize hww:left[i]=ww at *;k_few
  ·rename_i z
   refine lI e2 (by rw[jO];omega) (λH6 E6 e6=>⟨⟨_,rfl⟩,n,S1.grow n E6,?_⟩);rw[pV hi,hww,zyB z,Fc];exact e6
  ·rename_i z
   refine⟨[],⟨_,rfl⟩,n,S1,?_⟩;rw[pV hi,hww,Y9 (by first | exact z | exact VS.mp z)];exact e2
 ·rintro D ys σ' H1 ⟨_,n,S1,e2⟩
  rw[jO,Wc]at e2;o_head uj (.of e2) (λl H2 n2 S2 e3=>?_);exact q _ H2 (S1.trans S2) (EM.mpr ⟨l,rfl,.of e3⟩)
def OO(K:wa):Sp:=λvs H Q _=>∃x0,vs=[x0] /\ ∃(a b:Rat)(xs:List Rat)(m:Nat),Is K H x0 (aW a b xs)/\ag 10 a/\ag 10 b/\1<=xs.length/\xs.length<=8/\Cm m xs/\m+2+21*xs.length<=3950 /\ ∀v H',ah H H'->Is K H' v (GD a b xs)->Q v H'
theorem BK{K:wa}{H:Hp}{Q:VK}{E:XK}{a b:Rat}{xs:List Rat}{m:Nat}{v:V}(h:Is K H v (aW a b xs))(ba:ag 10 a)(bb:ag 10 b)(h1:1<=xs.length)(h8:xs.length<=8)(c:Cm m xs)(hm:m+2+21*xs.length<=3950)(q:∀v H',ah H H'->Is K H' v (GD a b xs)->Q v H'):OO K [v] H Q E:=⟨_,rfl,a,b,xs,m,h,ba,bb,h1,h8,c,hm,q⟩
structure UX(K:wa)(a b:Rat)(xs:List Rat)(m:Nat)(H H':Hp)(vw:V)(lp lv ll:we)(left:List Nat)(ps:List Rat)(done:List (List Nat))(f:Nat)(pv wv:List V)(vwave:V):Prop where
 same:ah H H'
 hp:H lp=none
 hv:H lv=none
 iw:Is K H' vw (N (1-aY xs))
 mY:lp≠lv
 A0:ll≠lp
 ym:ll≠lv
 ep:H' lp=some (.lst pv)
 tp:au K H' pv (ps.map N)
 el:H' ll=some (.lst (vz left))
 ev:H' lv=some (.lst wv)
 tv:au K H' wv (done.map TW)
 iv:Is K H' vwave (TW (aF ps left))
 nd:left.Nodup
 lt:∀w∈left,w<xs.length
 len:ps.length=xs.length
 fl:left.length<=f
 dl:done.length+left.length<=xs.length
 cm:Cm (m+2+21*(xs.length-left.length)) ps
 w1:done++(cN a b f ps left).1=c7 a b xs
 w2:(cN a b f ps left).2=(dJ a b xs).2
def P0(K:wa)(a b:Rat)(xs:List Rat)(m:Nat)(H:Hp)(x0 vw:V)(lp lv:we)(k:Nat)(σ':L2.St)(H':Hp):Prop:=∃(ll:we)(left:List Nat)(ps:List Rat)(done:List (List Nat))(f:Nat)(pv wv:List V)(vwave:V)(o6 o7:Option V),σ'=[some x0,some vw,some (.ref lp),some (.ref ll),some (.ref lv),some vwave,o6,o7,none]/\k=left.length/\UX K a b xs m H H' vw lp lv ll left ps done f pv wv vwave
theorem oR{H:Hp}{p q:we}{o:HO}(h:H p=none)(k:H q=some o):p≠q:=λe=>by rw[e,k]at h;cases h
theorem Y4{α β γ : Type}(f : α -> β)(g : β -> γ)(l:List α):(!((l.map f).map g).isEmpty) = !l.isEmpty:=by cases l<;>rfl
theorem zx5{α : Type}{l:List α}(h:l≠[]):(!l.isEmpty)=true:=by cases l with
 | nil=>exact absurd rfl h
 | cons x l=>rfl
theorem AK(T:Txt K mg a):aH P w K mg base aQ 4 a.me a.IM rX (OO K):=by
 refine T.rq.F.ok iJ ?_ ?_;wtm_at "b1"
 refine⟨_,(ar (az 1 iJ.nd (ao (yq T) hr T.nS (ae (bZ (v:=.ref a.dN) rfl T.eU rfl) (ae (ao (Bt T) hr T.p_ (ae (aj (pv 0)) af)) af))))
     (ar (nB (i:=2) iJ.nd rfl (Or.inl rfl) rfl (cC.by (N':=["phase","wait"]) (src:=[none,some 1]) rfl (show cS _ (aC m3).names pF ["phase","wait"] [none,some 1]=true from by decide +kernel)) (jd (aj (pv 0))) (λ_ _ _ _ _=>(bR (i:=0) (show(["phase","wait"]:List Str).Nodup from by decide) rfl (Or.inl rfl))) (λ_ _ _ _ _=>du) (λ_ _ _ _ _=>(ao (fH (K:=K) (mg:=mg) (a:=a) T) hr T.fe (ae (pv 0) (ae (pv 1) af)))))
     (ar (az 3 iJ.nd (Z0 rfl rfl T.z_list rfl T.z_range (ae (bP (show aP _ (.builtin "len") (cR K)from dS) rfl T.z_len dW (ae (pv 2) af)) af)))
     (ar (az 4 iJ.nd (eH af))
     (ar (az 5 iJ.nd (ao (MW T) hr T.Aa (ae (pv 3) (ae (pv 2) af))))
     (ar (nF vE (sW (pv 5)) (ar (mB (mV Wy Ww Wx kY (pv 4) (ae (pv 5) af)))
     (ar (az 3 iJ.nd (dU rfl (cC.by (N':=["worm","wave"]) (src:=[none,some 5]) rfl (show cS _ (aC m3).names pF ["worm","wave"] [none,some 5]=true from by decide +kernel)) (gr (pv 3)) (λ_ _ _ _ _=>(bR (i:=0) (show(["worm","wave"]:List Str).Nodup from by decide) rfl (Or.inl rfl))) (λ_ _ _ _ _=>(zc (bW (show aK _ (wJ .NotIn) (kB K true)from zwL) (pv 0) (pv 1) (by with_unfolding_all rfl)))) (λ_ _ _ _ _=>(pv 0))))
     (ar (az 6 iJ.nd (ao (yZ T) hr T.nR (ae (aj (pv 0)) (ae (bP (show aP _ (.builtin "len") (cR K)from dS) rfl T.z_len dW (ae (pv 5) af)) af))))
     (ar (gz vE rfl (gr (pv 3)) (bR (i:=7) iJ.nd rfl (Or.inl rfl)) (av (pX (ao (MS T) hr T.Ae (ae (pv 6) (ae (dC dg (pv 2) (pv 7) (λ_ _=>rfl)) af))) (pT (pv 2) (pv 7) oz))))
     (av (az 5 iJ.nd (ao (MW T) hr T.Aa (ae (pv 3) (ae (pv 2) af))))))))))
     (ar (nB (i:=8) iJ.nd rfl (Or.inl rfl) rfl (cC.by (N':=["worm","phase","left"]) (src:=[none,none,some 3]) rfl (show cS _ (aC m3).names pF ["worm","phase","left"] [none,none,some 3]=true from by decide +kernel)) (zxl rfl T.z_enumerate (ae (pv 2) af)) (λ_ _ _ _ _=>by exact(show PG _ _ (nj K 2 _)from ml (n:=2) rfl (gW (bR (i:=0) (show(["worm","phase","left"]:List Str).Nodup from by decide) rfl (Or.inl rfl)) (gW (bR (i:=1) (show(["worm","phase","left"]:List Str).Nodup from by decide) rfl (Or.inl rfl)) mv)))) (λ_ _ _ _ _=>du) (λ_ _ _ _ _=>(tH (bW (show aK _ (wJ .In) (kB K false)from zCP) (pv 0) (pv 2) (by with_unfolding_all rfl)) (pv 1) (bZ (v:=.ref a.de) rfl T.dD rfl))))
     (av (aB (br (ae (pv 1) (ae (dY (show aP _ (.type "tuple") (eA K)from fz) rfl T.z_tuple dR (ae (pv 4) af)) (ae (br (ae (aj (pv 0)) (ae (dY (show aP _ (.type "tuple") (eA K)from fz) rfl T.z_tuple dR (ae (pv 8) af)) af))) af))))))))))))),?_⟩
 wtm_at "cl";rw[show start pF [x0]=[some x0,none,none,none,none,none,none,none,none]from rfl];obtain⟨ra,rb,xs,m,hw,ba,bb,h1,h8,cm,hm,q⟩:=h;have bx:∀i,ag 4000 (xs.getD i 0):=λi=>(cm.get i).mono (by omega)
 have bm:ag 3950 (aY xs):=(cm.dH (fC h1)).mono (by omega);o_head aA (j:=1) hw rfl (λvp ip=>?_);o_head DB (.inr ip) h1 bx (λvm im=>?_);k_few;rename_i vw H1 S1 iw;refine aA (j:=1) (hw.by S1) rfl (λvp1 ip1=>?_);obtain⟨ap,us,rfl,hu,tu⟩:=bX.mp ip1;refine h9 (o0:=none) (tl:=[some vw]) hu rfl (λj y H'=>Is K H' y (N ((bC xs).getD j 0))) ?_ ?_
 . intro D i x ys o H2 hx inv
   obtain⟨hi,ix⟩:=dk tu hx;have S2:=inv.same;have ix2:=ix.by S2;have iw2:=iw.by S2;have bi:=bx i;have bw:ag 3952 (1-aY xs):=(ag.one.sub bm).mono (by decide);k_few;rename_i v3 H3 S3 i3;exact dZ inv (by omega) fJ ⟨_,rfl⟩ S3 (by rw[zws hi];exact i3)
 . intro lp ys H2 hnp S2 hD hl hr
   have hl':ys.length=(bC xs).length:=by rw[hl,tu.length,wm,fF]
   have tp:au K H2 ys ((bC xs).map N):=fL hl' hr;have iw2:=iw.by S2;have T2:=S1.trans S2;have hpH:H lp=none:=jm S1 hnp;clear hl hr hu tu ip1 ip im iw S1 S2 hnp;o_head zyT (dm hD tp) ?_;rw[fF];o_head zwf (n:=xs.length) (by omega) (λll H3 n3 S3 e3=>?_);o_head eX (by simp) (λlv H4 n4 S4 e4=>?_);k_few;have hD4:=S4 _ _ (S3 _ _ hD);have tp4:au K H4 ys ((bC xs).map N):=au.same (S3.trans S4) _ _ tp;have jA:Cm (m+2) (bC xs):=(Cm.rise (h:=0) (cm.j7 (ys:=0::xs) λy hy=>by rcases wG.mp hy with rfl | hy;(exact .inr rfl);exact .inl hy) (fC h1)).j7 λy hy=>.inl (wB _ hy)
   have b3:∀i,ag 4000 ((bC xs).getD i 0):=λi=>(jA.get i).mono (by omega)
   refine LB (S4 _ _ e3) (dm hD4 tp4) (λw hw'=>by rw[fF];exact wF.mp hw') (by rw[vB];omega) b3 (λvwave H5 S5 i5=>?_);have T5:=T2.trans (S3.trans (S4.trans S5));have hvH:H lv=none:=jm (T2.trans S3) n4;have mY:lp≠lv:=(oR n4 (S3 _ _ hD)).symm;have A0:ll≠lp:=oR n3 hD;have ym:ll≠lv:=(oR n4 e3).symm
   have G0:P0 K ra rb xs m H x0 vw lp lv xs.length [some x0,some vw,some (.ref lp),some (.ref ll),some (.ref lv),some vwave,none,none,none] H5:=by
     refine⟨ll,wq xs.length,bC xs,[],xs.length,ys,[],vwave,none,none,rfl,by rw[vB],T5,hpH,hvH,iw2.by (S3.trans (S4.trans S5)),mY,A0,ym,S5 _ _ hD4,au.same S5 _ _ tp4,S5 _ _ (S4 _ _ e3),S5 _ _ e4,.nil,i5,W1,λw hw'=>wF.mp hw',fF xs,by rw[vB];exact wo _,by rw[vB];simp,jA.mono (by omega),?_,rfl⟩;rw[qL];rfl
   clear T5 S5 S4 S3 T2 hD hD4 tp tp4 b3 jA n3 n4 e3 e4 iw2 i5 hl';o_head sh (P0 K ra rb xs m H x0 vw lp lv) _ G0 ?_;clear G0 mY A0 ym;rintro k σ' H6 ⟨ll,left,ps,done,f,pv,wv,vwave,o6,o7,rfl,hk,G⟩;have bp:∀i,ag 4000 (ps.getD i 0):=λi=>(G.cm.get i).mono (by have:=G.dl;omega)
   o_head zy7 (show Is K H6 vwave (.tuple (((aF ps left).map λ(w:Nat)=>(w:Int)).map PyData.int))from G.iv) ?_;rw[Y4]
   by_cases he:aF ps left=[]
   . rw[show(!(aF ps left).isEmpty)=false by rw[he];rfl]
     refine mi ?_;have w1:=G.w1;have w2:=G.w2;rw[mI he]at w1 w2;rw[Wd]at w1;have eps:ps=(dJ ra rb xs).2.2:=congrArg X9 w2;have elf:left=(dJ ra rb xs).2.1:=congrArg X8 w2;have hph:iU left ps=c9 ra rb xs:=by rw[c9,<- eps,<- elf]
     o_head zyq (.of G.ep) (o0:=none) (o0':=none) (tl:=[some (.ref ll)]) rfl (λj y H'=>Is K H' y (N ((iU left ps).getD j 0))) fJ ?_ ?_
     . intro D i x zs o1 o2 H7 c hx inv hc
       obtain⟨hi,ix⟩:=dk G.tp hx;have S7:=inv.2.2.1;refine mr (.of hc) rfl ?_;o_head UB (aR.of (S7 _ _ G.el)) ?_;k_few
       . rename_i z
         exact rQ inv (by have:=G.len;omega) fJ ⟨_,_,rfl⟩ (ah.refl _) (by rw[mD hi,if_pos z];exact ix.by S7)
       . rename_i z
         exact rQ inv (by have:=G.len;omega) fJ ⟨_,_,rfl⟩ (ah.refl _) (by rw[mD hi,if_neg z];exact d8 0 (T.eT _) rfl rfl)
     . intro D zs H7 hn S7 hD hl hr
       have hpl:=G.tp.length;rw[wm]at hpl;have tz:au K H7 zs ((iU left ps).map N):=fL (by rw[hl,Od,hpl]) hr;rw[hph]at tz;have tv:=au.same S7 _ _ G.tv;have ev:=S7 _ _ G.ev;have iw7:=G.iw.by S7;have T7:=G.same.trans S7;rw[w1]at tv;o_head gY (cE.mpr ⟨lv,wv,rfl,.of ev,tv⟩) (λv8 H8 S8 i8=>?_);o_head aA (j:=0) (hw.by (T7.trans S8)) rfl (λv9 i9=>?_);o_head gY (dm (S8 _ _ hD) (au.same S8 _ _ tz)) (λv10 H10 S10 i10=>?_);o_head cF (ds:=[R ra rb,TN (c9 ra rb xs)]) (by simp) (.cons (i9.by S10) (.cons i10 .nil)) (λv11 H11 S11 i11=>?_);o_head cF (ds:=[N (1-aY xs),mS (c7 ra rb xs),aW ra rb (c9 ra rb xs)]) (by simp) (.cons (iw7.by (S8.trans (S10.trans S11))) (.cons (i8.by (S10.trans S11)) (.cons i11 .nil))) (λv12 H12 S12 i12=>?_);exact q v12 H12 (T7.trans (S8.trans (S10.trans (S11.trans S12)))) i12
   . rw[zx5 he]
     refine ny ?_;refine sa ?_;have hwl:=G.tv.length;rw[wm]at hwl;have hdl:=G.dl;have hlen:=AM ps left;have hpos:0<(aF ps left).length:=VF.mpr he;o_head lO (aR.of G.ev) ?_;o_head lB G.ev (by omega) (λH7 E7 e7=>?_);have K7:bK H6 H7:=E7.keep G.ev;have S7:ah H H7:=G.same.grow G.hv E7;have el7:=E7 _ _ G.ym G.el;have ep7:=E7 _ _ G.mY G.ep;have tp7:=au.keep K7 _ _ (fU _) G.tp;have iv7:=G.iv.kJ K7 (DL _);have iw7:=G.iw.fI K7
     have tv7:au K H7 (wv++[vwave]) ((done++[aF ps left]).map TW):=by
       rw[vD];exact(au.keep K7 _ _ (sV _) G.tv).snoc iv7
     obtain⟨aw,rfl,hsw⟩:=EM.mp iv7;o_head sv (.of el7) (λD i ys σ' H'=>(∃o,σ'=[o,some (.ref aw)])/\H7 D=none/\ah H7 H'/\H' D=some (.lst (vz (bS (left.take i) (aF ps left))))) (λD H' n s e=>⟨⟨_,rfl⟩,n,s,e⟩) (λD i ys σ' H' h=>h.2.2.1.seq (.of el7)) ?_ ?_
     . rintro D i x ys σ' H8 hx' ⟨⟨o,rfl⟩,n,S8,e8⟩
       obtain⟨hi,rfl⟩:=Bi hx';have hle:(bS (left.take i) (aF ps left)).length<=(left.take i).length:=Wr _ _;rw[Ws]at hle;o_head zt8 (S8.j3 hsw) ?_;generalize hww:left[i]=ww at *;k_few
       . rename_i z
         refine lI e8 (by rw[jO];omega) (λH9 E9 e9=>⟨⟨_,rfl⟩,n,S8.grow n E9,?_⟩);rw[pV hi,hww,Zl z,Fc];exact e9
       . rename_i z
         refine⟨[],⟨_,rfl⟩,n,S8,?_⟩;rw[pV hi,hww,Zd (by first | exact z | exact VS.mp z)];exact e8
     . rintro D ys σ' H8 ⟨_,n8,S8,e8⟩
       rw[jO,Wc]at e8;have nD1:D≠lp:=oR n8 ep7;have nD2:D≠lv:=oR n8 e7;have T8:=S7.trans S8;have iv8:=iv7.by S8;o_head aA (j:=0) (hw.by T8) rfl (λvr ir=>?_);o_head Sy iv8 ?_;o_head B4 ir ba bb (by omega) (by omega) (λvpush H9 S9 ipush=>?_);rw[wP]at ipush;have bf:ag 700 (ra^(aF ps left).length):=(ba.pow _).mono (by omega);have bg:ag 1500 (aE ra rb (aF ps left).length):=(ba.aE bb _).mono (by omega);have T9:=S8.trans S9;have ep9:=T9 _ _ ep7;have tp9:au K H9 pv (ps.map N):=au.same T9 _ _ tp7;have e9:=S9 _ _ e8;have ev9:=T9 _ _ e7;have ndl:=mZ (wave:=aF ps left) G.nd;have ltl:=m6 (wave:=aF ps left) G.lt;generalize hL:bS left (aF ps left)=left' at *;o_head y7 (.of e9) (λi σ'' H''=>∃o pv',σ''=[some x0,some vw,some (.ref lp),some (.ref D),some (.ref lv),some (.ref aw),some vpush,o,none]/\Exc lp H9 H''/\H'' lp=some (.lst pv')/\au K H'' pv' ((cQ (ra^(aF ps left).length) (aE ra rb (aF ps left).length) ps (left'.take i)).map N)) ⟨_,pv,rfl,Exc.refl _ _,ep9,tp9⟩ (λi σ'' H'' _ ⟨_,_,_,e,_⟩=>.of (e _ _ nD1 e9)) ?_ ?_
       . rintro i x σ'' H10 hx' ⟨o,pv',rfl,E10,e10,t10⟩
         obtain⟨hi,rfl⟩:=Bi hx';have K10:bK H9 H10:=E10.keep ep9;have hlt:=ltl _ (vO hi);have hpl:=iA (ra^(aF ps left).length) (aE ra rb (aF ps left).length) (left'.take i) ps;have hps:=G.len
         have bq:ag 4000 ((cQ (ra^(aF ps left).length) (aE ra rb (aF ps left).length) ps (left'.take i)).getD left'[i] 0):=by
           have nt:(left'.take i).Nodup:=ndl.sublist (xQ ..);rw[jg _ _ _ _ nt (λw hw'=>by rw[hps];exact ltl w (Xm _ _ hw'))];rw[if_neg]
           . exact bp _
           . intro hm
             obtain⟨j,hj,ej⟩:=w9 hm;rw[Ws]at hj;rw[xT]at ej;exact absurd ej ((Wf.mp ndl) j i (by omega) hi (by omega))
         have ip10:=ipush.kJ K10 (Er _ _);generalize hww:left'[i]=ww at *;generalize hqs:cQ (ra^(aF ps left).length) (aE ra rb (aF ps left).length) ps (left'.take i)=qs at *;o_head jJ (dm e10 t10) (by omega) (by omega) (λv11 i11=>?_);rw[wP]at i11;o_head OG ip10 i11 bf bg (bq.mono (by decide)) (λv12 H12 S12 i12=>?_);have e12:=S12 _ _ e10;have hvl:=t10.length;rw[wm]at hvl;o_head sk (j:=ww) e12 (by unfold gM;rw[if_pos (by omega),if_pos (by omega)];simp) (λH13 E13 e13=>?_);refine⟨_,_,rfl,E10.trans (S12.exc.trans E13),e13,?_⟩;have K13:=E13.keep e12;rw[pV hi,hww,zrQ,hqs];refine fL (by rw[Vb,Vb];exact hvl) (λj v hj=>?_);rw[Vl]at hj
         by_cases hjw:ww=j
         . subst hjw
           rw[if_pos rfl,if_pos (by omega)]at hj;cases hj;rw[PN (by omega)];exact i12.fI K13
         . rw[if_neg hjw]at hj
           rw[LF hjw];obtain⟨_,ij⟩:=dk t10 hj;exact(ij.by S12).fI K13
       . rintro σ'' H10 ⟨o,pv',rfl,E10,e10,t10⟩
         rw[jO,Wc]at t10;have K10:bK H9 H10:=E10.keep ep9;have hps:=G.len
         have cm10:Cm (m+2+21*(xs.length-left'.length)) (cQ (ra^(aF ps left).length) (aE ra rb (aF ps left).length) ps left'):=by
           have c0:Cm (m+2+21*(xs.length-left.length)) (0::ps):=G.cm.j7 λy hy=>by rcases wG.mp hy with rfl | hy;(exact .inr rfl);exact .inl hy
           exact((c0.wave ba bb (aF ps left).length ndl (λw hw'=>by rw[hps];exact ltl w hw')).j7 λy hy=>.inl (wB _ hy)).mono (by omega)
         have hpl:=iA (ra^(aF ps left).length) (aE ra rb (aF ps left).length) left' ps;have w1:=G.w1;have w2:=G.w2;have hfl:=G.fl;obtain⟨f',rfl⟩:∃f',f=f'+1:=⟨f-1,by omega⟩;rw[jj he,hL]at w1 w2;generalize hqs:cQ (ra^(aF ps left).length) (aE ra rb (aF ps left).length) ps left'=qs at *;k_few;have e10':=E10 _ _ nD1 e9;refine LB e10' (dm e10 t10) (λw hw'=>by rw[hpl,hps];exact ltl w hw') (by omega) (λi=>(cm10.get i).mono (by omega)) (λvwave2 H11 S11 i11=>?_);k_few;have KA:=T9.keep.trans K10;refine⟨left'.length,by omega,D,left',qs,done++[aF ps left],f',pv',wv++[V.ref aw],vwave2,_,_,rfl,rfl,?_⟩;exact⟨((S7.trans T9).grow G.hp E10).trans S11,G.hp,G.hv,(iw7.fI KA).by S11,G.mY,nD1,nD2,S11 _ _ e10,au.same S11 _ _ t10,S11 _ _ e10',S11 _ _ (E10 _ _ G.mY.symm ev9),au.same S11 _ _ (au.keep KA _ _ (sV _) tv7),i11,ndl,ltl,by rw[hpl];exact hps,by omega,by rw[wR];simp;omega,cm10,by rw[VR];exact w1,w2⟩
def SU(K:wa)(a:Ad):Sp:=λvs H Q E=>∃x0 x1,vs=[x0,x1] /\ ∃(ra rb c:Rat)(xs:List Rat),Is K H x0 (aW ra rb xs)/\Is K H x1 (N c)/\1<=xs.length/\xs.length<=8/\(∀i,ag 1000 (xs.getD i 0))/\ag 1000 c/\(c<0 \/ ¬ aY xs+c<1->∀H',ah H H'->E (.ref a.nP) none H')/\(¬ c<0->aY xs+c<1->∀v H',ah H H'->Is K H' v (aW ra rb (xs.map (· + c)))->Q v H')
theorem Uj{K:wa}{a:Ad}{H:Hp}{Q:VK}{E:XK}{ra rb c:Rat}{xs:List Rat}{v w:V}(h1:Is K H v (aW ra rb xs))(h2:Is K H w (N c))(h3:1<=xs.length)(h4:xs.length<=8)(b1:∀i,ag 1000 (xs.getD i 0))(b2:ag 1000 c)(qe:c<0 \/ ¬ aY xs+c<1->∀H',ah H H'->E (.ref a.nP) none H')(q:¬ c<0->aY xs+c<1->∀v H',ah H H'->Is K H' v (aW ra rb (xs.map (· + c)))->Q v H'):SU K a [v,w] H Q E:=⟨_,_,rfl,ra,rb,c,xs,h1,h2,h3,h4,b1,b2,qe,q⟩
theorem Yc(T:Txt K mg a):aH P w K mg base (eI P w) 3 a.moved a.IG zP (SU K a):=by
 refine T.Jc.F.mT UW ?_ ?_;wtm_at "b2"
 refine⟨_,(ar (bD (cb (ao (fO T) hr T.fv (ae (pv 1) (ae (bZ (v:=.ref a.de) rfl T.dD rfl) af)))) (av (zM T.HX rfl rfl T.H_ rT (ae gE af))) bA)
     (ar (bD (cq (cb (ao (fO T) hr T.fv (ae (ao (fH T) hr T.fe (ae (ao (Bt T) hr T.p_ (ae (aj (pv 0)) af)) (ae (pv 1) af))) (ae (bZ (v:=.ref a.dN) rfl T.eU rfl) af))))) (av (zM T.HX rfl rfl T.H_ rT (ae gE af))) bA)
     (av (aB (br (ae (aj (pv 0)) (ae (dY (show aP _ (.type "tuple") (eA K)from fz) rfl T.z_tuple dR (ae (dU rfl (cC.by (N':=["phase","c"]) (src:=[none,some 1]) rfl (show cS _ (aC yQ).names sT ["phase","c"] [none,some 1]=true from by decide +kernel)) (jd (aj (pv 0))) (λ_ _ _ _ _=>(bR (i:=0) (show(["phase","c"]:List Str).Nodup from by decide) rfl (Or.inl rfl))) (λ_ _ _ _ _=>du) (λ_ _ _ _ _=>(ao (fH (K:=K) (mg:=mg) (a:=a) T) hr T.fe (ae (pv 0) (ae (pv 1) af))))) af)) af))))))),?_⟩
 wtm_at "cl";rw[show start sT [x0,x1]=[some x0,some x1]from rfl];obtain⟨ra,rb,c,xs,hw,hc,h1,h8,bx,bc,qe,q⟩:=h
 have bm:ag 1000 (aY xs):=by
   have:=yp bx h1 xs.length;rw[Wc]at this;exact this
 k_few
 . rename_i z
   exact⟨by simp;decide,qe (.inl z) H (ah.refl _)⟩
 . rename_i z
   refine aA (j:=1) hw rfl (λvp ip=>?_);o_head DB (.inr ip) h1 (λi=>(bx i).mono (by decide)) (λvm im=>?_);k_few
   . rename_i v1 H1 S1 i1 z1
     exact⟨by simp;decide,qe (.inr z1) H1 S1⟩
   . rename_i v1 H1 S1 i1 z1
     refine aA (j:=0) (hw.by S1) rfl (λvr ir=>?_);o_head aA (j:=1) (hw.by S1) rfl (λvp1 ip1=>?_);obtain⟨ap,us,rfl,hu,tu⟩:=bX.mp ip1;have hc1:=hc.by S1;refine h9 (o0:=none) (tl:=[some x1]) hu rfl (λj y H'=>Is K H' y (N (xs.getD j 0+c))) ?_ ?_
     . intro D i x ys o H2 hx inv
       obtain⟨hi,ix⟩:=dk tu hx;have S2:=inv.same;have ix2:=ix.by S2;have hc2:=hc1.by S2;have bi:=bx i;k_few;rename_i v3 H3 S3 i3;exact dZ inv (by omega) (λ_ _ _ _ k z=>z.fI k) ⟨_,rfl⟩ S3 i3
     . intro D ys H2 hn S2 hD hl hr
       have hl':ys.length=xs.length:=by rw[hl,tu.length,wm]
       have i2:Is K H2 (.ref D) (LN (xs.map (· + c))):=dm hD (fL (by rw[wm];exact hl') (λj y hj=>by
         have hj':j<xs.length:=by
           rcases wD j xs.length with z | z
           . exact z
           . rw[wE (by omega)]at hj;cases hj
         have:=hr j y hj
         have e:(xs.map (· + c)).getD j 0=xs.getD j 0+c:=by
           rw[wb,wt,wb,wc hj'];rfl
         rw[e];exact this))
       o_head gY i2 (λw H3 S3 i3=>?_);o_head cF (ds:=[R ra rb,TN (xs.map (· + c))]) (by simp) (.cons (ir.by (S2.trans S3)) (.cons i3 .nil)) (λv H4 S4 i4=>?_);exact q z z1 v H4 (S1.trans (S2.trans (S3.trans S4))) i4
def Md(K:wa):Sp:=λvs H Q _=>∃x0 x1,vs=[x0,x1] /\ ∃(a b:Rat)(xs:List Rat)(n:Int),x1=.int n/\Is K H x0 (aW a b xs)/\ag 10 a/\ag 10 b/\1<=xs.length/\xs.length<=8/\0<=n/\n<=40/\(∀i,i<=n.toNat->Cm 3700 (aG a b xs i::ai a b xs i)) /\ ∀l H',H l=none->ah H H'->Is K H' (.ref l) (.list (g6 a b xs n.toNat))->Q (.ref l) H'
theorem zsY{K:wa}{H:Hp}{Q:VK}{E:XK}{a b:Rat}{xs:List Rat}{n:Int}{v:V}(h:Is K H v (aW a b xs))(ba:ag 10 a)(bb:ag 10 b)(h1:1<=xs.length)(h8:xs.length<=8)(n0:0<=n)(n1:n<=40)(c:∀i,i<=n.toNat->Cm 3700 (aG a b xs i::ai a b xs i))(q:∀l H',H l=none->ah H H'->Is K H' (.ref l) (.list (g6 a b xs n.toNat))->Q (.ref l) H'):Md K [v,.int n] H Q E:=⟨_,_,rfl,a,b,xs,n,rfl,h,ba,bb,h1,h8,n0,n1,c,q⟩
theorem ztA(T:Txt K mg a):aH P w K mg base aQ 5 a.Je a.Ho yE (Md K):=by
 refine T.HY.F.ok ke ?_ ?_;wtm_at "b2"
 refine⟨_,(ar (az 2 ke.nd (eH af))
     (ar (az 3 ke.nd (bZ (v:=.ref a.de) rfl T.dD rfl))
     (ar (az 4 ke.nd (pv 0))
     (ar (gz vE rfl (j5 rfl T.z_range (ae (pv 1) af)) (bR (i:=5) ke.nd rfl (Or.inl rfl)) (ar (az 6 ke.nd (ao (AK T) hr T.rq (ae (pv 4) af)))
     (ar (az 3 ke.nd (ao (fH T) hr T.fe (ae (pv 3) (ae (aj (pv 6)) af))))
     (ar (az 4 ke.nd (aj (pv 6)))
     (av (mB (mV Wy Ww Wx kY (pv 2) (ae (br (ae (pv 3) (ae (aj (pv 6)) (ae (aj (pv 4)) af)))) af))))))))
     (av (aB (pv 2))))))),?_⟩
 wtm_at "cl";rw[show start Te [x0,x1]=[some x0,some x1,none,none,none,none,none]from rfl];obtain⟨ra,rb,xs,n,rfl,hw,ba,bb,h1,h8,n0,n1,cm,q⟩:=h;o_head eX (by simp) (λlr H1 nr S1 e1=>?_);o_head lU (n:=n) (by omega) (by omega) (λi σ H'=>∃vh vs o5 o6 us,σ = [some x0,some (.int n),some (.ref lr),some vh,some vs,o5,o6]/\ah H H'/\H' lr=some (.lst us)/\au K H' us (g6 ra rb xs i)/\Is K H' vh (N (aG ra rb xs i))/\Is K H' vs (aW ra rb (ai ra rb xs i))) ⟨_,_,_,_,[],rfl,S1,e1,.nil,d8 0 (T.eT _) rfl rfl,hw.by S1⟩ ?_ ?_
 . rintro i σ H2 hi ⟨vh,vs,o5,o6,us,rfl,S2,e2,t2,ih,iw⟩
   have hc:=cm i (by omega);have hpl:=bV ra rb xs i;have bh:ag 3700 (aG ra rb xs i):=hc.dH (wC ..);have hc':Cm 3700 (ai ra rb xs i):=hc.j7 λy hy=>.inl (wB _ hy)
   have bw:ag 3702 (1-aY (ai ra rb xs i)):=(ag.one.sub (hc'.dH (fC (by omega)))).mono (by decide);o_head BK iw ba bb (by omega) (by omega) hc' (by rw[hpl];omega) (λv3 H3 S3 i3=>?_);o_head aA (j:=0) i3 rfl (λv4 i4=>?_);have ih3:=ih.by S3;k_few;rename_i v5 H5 S5 i5;refine aA (j:=2) (i3.by S5) rfl (λv6 i6=>?_);have T5:=S3.trans S5;o_head lO (aR.of (T5 _ _ e2)) ?_;o_head aA (j:=1) (i3.by S5) rfl (λv7 i7=>?_);o_head aA (j:=1) i6 rfl (λv8 i8=>?_);o_head cF (ds:=[N (aG ra rb xs (i+1)),mS (c7 ra rb (ai ra rb xs i)),TN (ai ra rb xs (i+1))]) (by simp) (.cons i5 (.cons i7 (.cons i8 .nil))) (λv9 H9 S9 i9=>?_);k_few;have T9:=T5.trans S9;have e9:=T9 _ _ e2;have hul:=t2.length;rw[Zj]at hul;refine lB e9 (by omega) (λH10 E10 e10=>?_);have K10:=E10.keep e9;have i10:=i9.kJ K10 (Rk _ _ _)
   have t10:au K H10 (us++[v9]) (g6 ra rb xs (i+1)):=by
     rw[C7];exact(au.keep K10 _ _ (ZQ ..) (au.same T9 _ _ t2)).snoc i10
   exact⟨_,_,_,_,_,rfl,(S2.trans T9).grow nr E10,e10,t10,(i5.by S9).fI K10,(i6.by S9).kJ K10 (zAu _ _ _)⟩
 . rintro σ H2 ⟨vh,vs,o5,o6,us,rfl,S2,e2,t2,ih,iw⟩
   k_few;exact q lr H2 nr S2 (cE.mpr ⟨lr,us,rfl,.of e2,t2⟩)
def BD(a b:Rat)(xs:List Rat)(n:Nat):wy:=.tuple [N (aG a b xs n),aW a b (ai a b xs n)]
def So(K:wa):Sp:=λvs H Q _=>∃x0 x1,vs=[x0,x1] /\ ∃(a b:Rat)(xs:List Rat)(n:Int),x1=.int n/\Is K H x0 (aW a b xs)/\ag 10 a/\ag 10 b/\1<=xs.length/\xs.length<=8/\0<=n/\n<=40/\(∀i,i<=n.toNat->Cm 3700 (aG a b xs i::ai a b xs i)) /\ ∀v H',ah H H'->Is K H' v (BD a b xs n.toNat)->Q v H'
theorem NA{K:wa}{H:Hp}{Q:VK}{E:XK}{a b:Rat}{xs:List Rat}{n:Int}{v:V}(h:Is K H v (aW a b xs))(ba:ag 10 a)(bb:ag 10 b)(h1:1<=xs.length)(h8:xs.length<=8)(n0:0<=n)(n1:n<=40)(c:∀i,i<=n.toNat->Cm 3700 (aG a b xs i::ai a b xs i))(q:∀v H',ah H H'->Is K H' v (BD a b xs n.toNat)->Q v H'):So K [v,.int n] H Q E:=⟨_,_,rfl,a,b,xs,n,rfl,h,ba,bb,h1,h8,n0,n1,c,q⟩
theorem lH{K:wa}{H:Hp}{Q:VK}{v:V}{ds:List wy}{d:wy}(h:Is K H v (.list (ds++[d])))(q:∀x,Is K H x d->Q x H):c_ K v (.int (-1)) H Q:=by
 obtain⟨a,xs,rfl,hs,t⟩:=cE.mp h;have hl:=t.length;rw[wR,vS]at hl;obtain⟨x,e1,hx⟩:=t.get (i:=ds.length) (d:=d) (by rw[vg (wo _),Vz];rfl);exact iH hs (DZ (by rw[hl];exact e1)) (q x hx)
theorem zvN(T:Txt K mg a):aH P w K mg base aQ 6 a.behind a.Ig uA (So K):=by
 refine T.Iy.F.ok AI ?_ ?_;wtm_at "b2"
 refine⟨_,(ar (az 2 AI.nd (ao (ztA T) hr T.HY (ae (pv 0) (ae (pv 1) af))))
     (ar (bD (cq (sW (pv 2))) (av (aB (br (ae (bZ (v:=.ref a.de) rfl T.dD rfl) (ae (pv 0) af))))) bA)
     (ar (az 3 AI.nd (dC dg (pv 2) (gA gg ay) (λ_ _=>rfl)))
     (av (aB (br (ae (aj (pv 3)) (ae (br (ae (aj (pv 0)) (ae (aj (pv 3)) af))) af)))))))),?_⟩
 wtm_at "cl";rw[show start RZ [x0,x1]=[some x0,some x1,none,none]from rfl];obtain⟨ra,rb,xs,n,rfl,hw,ba,bb,h1,h8,n0,n1,cm,q⟩:=h;o_head zsY hw ba bb h1 h8 n0 n1 cm (λlr H1 nr S1 i1=>?_);o_head Br i1 ?_;generalize n.toNat=k at *;cases k with
 | zero =>
   rw[show(!(g6 ra rb xs 0).isEmpty)=false from rfl];o_head cF (ds:=[N 0,aW ra rb xs]) (by simp) (.cons (d8 0 (T.eT _) rfl rfl) (.cons (hw.by S1) .nil)) (λv H2 S2 i2=>?_);exact q v H2 (S1.trans S2) i2
 | succ k =>
   rw[C7]at i1;rw[show(!(g6 ra rb xs (k+1)).isEmpty)=true by rw[C7];simp];o_head lH i1 (λv2 i2=>?_);have i2:Is K H1 v2 (sM (aG ra rb xs (k+1)) (c7 ra rb (ai ra rb xs k)) (ai ra rb xs (k+1))):=i2;o_head aA (j:=0) i2 rfl (λv3 i3=>?_);o_head aA (j:=0) (hw.by S1) rfl (λv4 i4=>?_);o_head aA (j:=2) i2 rfl (λv5 i5=>?_);o_head cF (ds:=[R ra rb,TN (ai ra rb xs (k+1))]) (by simp) (.cons i4 (.cons i5 .nil)) (λv6 H6 S6 i6=>?_);o_head cF (ds:=[N (aG ra rb xs (k+1)),aW ra rb (ai ra rb xs (k+1))]) (by simp) (.cons (i3.by S6) (.cons i6 .nil)) (λv7 H7 S7 i7=>?_);exact q v7 H7 (S1.trans (S6.trans S7)) i7
def Mz(K:wa):Sp:=λvs H Q _=>∃x0,vs=[x0] /\ ∃(a b:Rat)(xs:List Rat),Is K H x0 (aW a b xs)/\Q (.bl (decide (0∈xs))) H
theorem Dw{K:wa}{H:Hp}{Q:VK}{E:XK}{a b:Rat}{xs:List Rat}{v:V}(h:Is K H v (aW a b xs))(q:Q (.bl (decide (0∈xs))) H):Mz K [v] H Q E:=⟨_,rfl,a,b,xs,h,q⟩
theorem Bj(T:Txt K mg a):aH P w K mg base aQ 1 a.Jh a.Hw zI (Mz K):=by
 refine T.rf.F.ok zti ?_ ?_;wtm_at "b1";refine⟨_,(av (aB (d9 (show aK _ (wJ .In) (oC K)from SF hu) (bZ (v:=.ref a.de) rfl T.dD rfl) (aj (pv 0)) (by with_unfolding_all rfl)))),?_⟩;wtm_at "cl";rw[show start AX [x0]=[some x0]from rfl];obtain⟨ra,rb,xs,hw,q⟩:=h;o_head aA (j:=1) hw rfl (λvp ip=>?_);exact zzW (d8 0 (T.eT _) rfl rfl) ip q
def bY(xs:List Rat):List Rat:=(ak xs).dropLast
def RW(xs:List Rat):wy:=.tuple [TZ (bG xs),TN (bY xs)]
def N_(K:wa)(a:Ad):Sp:=λvs H Q E=>∃x0,vs=[x0] /\ ∃(ra rb:Rat)(xs:List Rat),Is K H x0 (aW ra rb xs)/\xs.length<=8/\(∀i,ag 4000 (xs.getD i 0))/\(¬ 0∈xs->∀H',ah H H'->E (.ref a.nQ) none H')/\(0∈xs->∀v H',ah H H'->Is K H' v (RW xs)->Q v H')
theorem sx{K:wa}{a:Ad}{H:Hp}{Q:VK}{E:XK}{ra rb:Rat}{xs:List Rat}{v:V}(h:Is K H v (aW ra rb xs))(h8:xs.length<=8)(bx:∀i,ag 4000 (xs.getD i 0))(qe:¬ 0∈xs->∀H',ah H H'->E (.ref a.nQ) none H')(q:0∈xs->∀v H',ah H H'->Is K H' v (RW xs)->Q v H'):N_ K a [v] H Q E:=⟨_,rfl,ra,rb,xs,h,h8,bx,qe,q⟩
theorem Ot:∀(n:Nat)(l:List Rat),(iM n l).length<=n
 | 0,l=>wo _
 | n+1,[]=>by rw[Dt];simp
 | n+1,x::l=>by
  rw[m7 (by simp),vP];have:=Ot n ((x::l).filter λy=>!decide (y=aY (x::l)));omega
theorem sj(T:Txt K mg a):aH P w K mg base (eI P w) 4 a.laid a.Ja tX (N_ K a):=by
 refine T.nU.F.mT v_ ?_ ?_;wtm_at "b1"
 refine⟨_,(ar (bD (cq (cb (ao (Bj T) hr T.rf (ae (pv 0) af)))) (av (zM T.Tw rfl rfl T.Tu rT (ae gE af))) bA)
     (ar (az 1 v_.nd (ao (AA T) hr T.rk (ae (pv 0) af)))
     (ar (az 2 v_.nd (dY (show aP _ (.type "tuple") (eA K)from fz) rfl T.z_tuple dR (ae (dU rfl (cC.by (N':=["row"]) (src:=[none]) rfl (show cS _ (aC oO).names rO ["row"] [none]=true from by decide +kernel)) (gr (pv 1)) (λ_ _ _ _ _=>(bR (i:=0) (show(["row"]:List Str).Nodup from by decide) rfl (Or.inl rfl))) (λ_ _ _ _ _=>du) (λ_ _ _ _ _=>(bP (show aP _ (.builtin "len") (cR K)from dS) rfl T.z_len dW (ae (ou (K:=K) dg (pv 0)) af)))) af)))
     (ar (az 3 v_.nd (dY (show aP _ (.type "tuple") (eA K)from fz) rfl T.z_tuple dR (ae (dU rfl (cC.by (N':=["row"]) (src:=[none]) rfl (show cS _ (aC oO).names rO ["row"] [none]=true from by decide +kernel)) (gr (jQ jD (pv 1) jW (jL (gA gg ay)))) (λ_ _ _ _ _=>(bR (i:=0) (show(["row"]:List Str).Nodup from by decide) rfl (Or.inl rfl))) (λ_ _ _ _ _=>du) (λ_ _ _ _ _=>(ou (K:=K) dg (pv 0)))) af)))
     (av (aB (br (ae (pv 2) (ae (pv 3) af))))))))),?_⟩
 wtm_at "cl";rw[show start rO [x0]=[some x0,none,none,none]from rfl];obtain⟨ra,rb,xs,hw,h8,bx,qe,q⟩:=h;have hvl:(ak xs).length<=8:=Wb (Ot _ _) h8;o_head Dw hw ?_;k_few
 . rename_i z
   exact⟨by simp;decide,qe z H (ah.refl _)⟩
 . rename_i z
   have z:=(by first | exact z | exact VS.mp z:0∈xs);refine CS hw h8 bx (λlr H1 us n1 S1 e1 t1=>?_);have hul:=t1.length;rw[wm]at hul;o_head jI (.of e1) (o0:=none) (tl:=[]) rfl (λj y _=>y=.int ((bG xs).getD j 0)) ?_ ?_
   . intro D j x ys o H2 hx inv
     obtain⟨hj,ix⟩:=jZ t1 hx;rw[wm]at hj;rw[wb,wt,wc hj]at ix;have ix2:Is K H2 x (jw xs (ak xs)[j]):=ix.by inv.same;o_head aA (j:=1) ix2 rfl (λv3 i3=>?_);o_head Sy i3 ?_;o_head dZ inv (by omega) (λ_ _ _ _ _ h=>h) ⟨_,rfl⟩ (ah.refl _) ?_;unfold bG;rw[wb,wt,wc hj]
     rfl
   . intro D ys H2 hn S2 hD hl hr
     have hys:ys=(bG xs).map V.int:=M3 (by rw[hl,hul];unfold bG;rw[wm]) hr;subst hys;o_head uj (.of hD) (λl3 H3 n3 S3 e3=>?_);have i3:Is K H3 (.ref l3) (TZ (bG xs)):=oS.mpr ⟨l3,rfl,.of e3⟩;have T3:=S2.trans S3;o_head k8 (cE.mpr ⟨lr,us,rfl,.of (T3 _ _ e1),au.same T3 _ _ t1⟩) (λl4 H4 us4 n4 S4 e4 t4=>?_);rw[BM,<- Qp]at t4;o_head jI (.of e4) (o0:=none) (tl:=[]) rfl (λj y H'=>Is K H' y (N ((bY xs).getD j 0))) ?_ ?_
     . intro D' j x ys o H5 hx inv
       obtain⟨hj,ix⟩:=jZ t4 hx;have hj2:j<(bY xs).length:=by rw[wm]at hj;exact hj
       have hj8:(bY xs).length<=8:=by unfold bY;rw[xj];omega
       rw[wb,wt,wc (show j<(ak xs).dropLast.length from hj2)]at ix;have ix5:Is K H5 x (jw xs (bY xs)[j]):=ix.by inv.same;o_head aA (j:=0) ix5 rfl (λv6 i6=>?_);o_head dZ inv (by omega) fJ ⟨_,rfl⟩ (ah.refl _) ?_;rw[wb,wc hj2];exact i6
     . intro D' zs H5 hn5 S5 hD5 hl5 hr5
       have hu4:=t4.length;rw[wm]at hu4;have tz:au K H5 zs ((bY xs).map N):=fL (by rw[hl5,hu4];rfl) hr5;o_head gY (dm hD5 tz) (λv6 H6 S6 i6=>?_);o_head cF (ds:=[TZ (bG xs),TN (bY xs)]) (by simp) (.cons (i3.by (S4.trans (S5.trans S6))) (.cons i6 .nil)) (λv7 H7 S7 i7=>?_);exact q z v7 H7 (S1.trans (T3.trans (S4.trans (S5.trans (S6.trans S7))))) i7
theorem Yy{m:Nat}{xs:List Rat}(h:Cm m xs)(i j:Nat):ag (m+2) (xs.getD i 0+(1-xs.getD j 0)):=by
 obtain⟨B,h0,h1,h2⟩:=h
 have key:∀i,∃t:Int,xs.getD i 0=wu t B/\Bd m t:=λi=>by
  rcases wD i xs.length with q | q
  ·rw[wb,wc q]
   exact h2 _ (vO q)
  ·rw[wb,wE q]
   exact⟨0,by simp,⟨by simp;exact Wa m⟩⟩
 obtain⟨t,et,bt⟩:=key i;obtain⟨z,ez,bz⟩:=key j
 have e2:wu t B+(1-wu z B)=wu (t+B-z) B:=by
  symm
  refine f_ (by omega) ?_;have q1:=cH t (show B≠0 by omega);have q2:=cH z (show B≠0 by omega);have q3:((t+B-z:Int):Rat)=(t:Rat)+(B:Rat)-(z:Rat):=by push_cast;rfl
  rw[q3,<- q1,<- q2]
  grind
 rw[et,ez,e2];exact ag.divInt (by omega) (((bt.add h1).sub bz).mono (by omega)) (h1.mono (by omega))
def MD(K:wa):Sp:=λvs H Q _=>∃x0 x1 x2 x3,vs=[x0,x1,x2,x3] /\ ∃(a b:Rat)(n i:Int)(xs:List Rat)(m:Nat),x1=.int n/\x3=.int i/\Is K H x0 (R a b)/\Is K H x2 (LN xs)/\ag 10 a/\ag 10 b/\0<=n/\n<=64/\0<=i/\i<xs.length/\xs.length<=100/\Cm m xs/\m<=8000 /\
 ∀l H' us,H l=none->ah H H'->H' l=some (.lst us)->au K H' us ((dw a b n.toNat xs i.toNat).map N)->Q (.ref l) H'
theorem zlo{K:wa}{H:Hp}{Q:VK}{E:XK}{a b:Rat}{n i:Int}{xs:List Rat}{m:Nat}{v w:V}(h1:Is K H v (R a b))(h2:Is K H w (LN xs))(b1:ag 10 a)(b2:ag 10 b)(h0:0<=n)(h64:n<=64)(i0:0<=i)(i1:i<xs.length)(hl:xs.length<=100)(hm:Cm m xs)(hm2:m<=8000)
  (q:∀l H' us,H l=none->ah H H'->H' l=some (.lst us)->au K H' us ((dw a b n.toNat xs i.toNat).map N)->Q (.ref l) H'):MD K [v,.int n,w,.int i] H Q E:=⟨_,_,_,_,rfl,a,b,n,i,xs,m,rfl,rfl,h1,h2,b1,b2,h0,h64,i0,i1,hl,hm,hm2,q⟩
theorem U7(T:Txt K mg a):aH P w K mg base aQ 4 a.FP a.Fu tG (MD K):=by
 refine T.Fz.F.ok yb ?_ ?_;wtm_at "b4"
 refine⟨_,(ar (az 4 yb.nd (ao (yq T) hr T.nS (ae (bZ (v:=.ref a.dN) rfl T.eU rfl) (ae (dC dg (pv 2) (pv 3) (λ_ _=>rfl)) af))))
     (ar (az 5 yb.nd (ao (yZ T) hr T.nR (ae (pv 0) (ae (pv 1) af))))
     (ar (nB (i:=6) yb.nd rfl (Or.inl rfl) rfl (cC.by (N':=["phase","push","wait"]) (src:=[none,some 5,some 4]) rfl (show cS _ (aC u7).names Ds ["phase","push","wait"] [none,some 5,some 4]=true from by decide +kernel)) (gr (pv 2)) (λ_ _ _ _ _=>(bR (i:=0) (show(["phase","push","wait"]:List Str).Nodup from by decide) rfl (Or.inl rfl))) (λ_ _ _ _ _=>du) (λ_ _ _ _ _=>(ao (MS (K:=K) (mg:=mg) (a:=a) T) hr T.Ae (ae (pv 1) (ae (ao (fH (K:=K) (mg:=mg) (a:=a) T) hr T.fe (ae (pv 0) (ae (pv 2) af))) af)))))
     (ar (pX (bZ (v:=.ref a.de) rfl T.dD rfl) (pT (pv 6) (pv 3) oz))
     (av (aB (pv 6))))))),?_⟩
 wtm_at "cl";rw[show start Ds [x0,x1,x2,x3]=[some x0,some x1,some x2,some x3,none,none,none]from rfl];obtain⟨a',b',n,i,xs,m,rfl,rfl,hr',hx,ba,bb,h0,h64,i0,i1,hl,hm,hm2,q⟩:=h;have bi:ag 8000 (xs.getD i.toNat 0):=(hm.get _).mono hm2;have bw:ag 8002 (1-xs.getD i.toNat 0):=(ag.one.sub bi).mono (by decide);have bf:ag 700 (a'^n.toNat):=(ba.pow n.toNat).mono (by omega);have bg:ag 1500 (aE a' b' n.toNat):=(ba.aE bb n.toNat).mono (by omega);o_head jJ hx i0 i1 (λv1 iv1=>?_);k_few;rename_i v2 H2 S2 iv2;refine B4 (hr'.by S2) ba bb h0 h64 (λv3 H3 S3 iv3=>?_);have T3:=S2.trans S3;have iv2':=iv2.by S3;have hx3:=hx.by T3;clear iv1 iv2 S2 S3 hx hr';k_few;obtain⟨lx,vs,rfl,hs,t⟩:=cE.mp hx3;refine jI hs (o0:=none) (tl:=[some v3,some v2]) rfl (λj v H=>Is K H v (N ((xs.map λx=>push a' b' n.toNat (x+(1-xs.getD i.toNat 0))).getD j 0))) ?_ ?_
 . rintro D j x ys o H1 hx' inv
   obtain⟨hj,ix⟩:=dk t hx';have ix1:=ix.by inv.same;have jv2:=iv2'.by inv.same;have jv3:=iv3.by inv.same;have bx:ag 8000 (xs.getD j 0):=(hm.get j).mono hm2;k_few;rename_i v4 H4 S4 iv4;refine OG (jv3.by S4) iv4 bf bg ((Yy hm j i.toNat).mono (by omega)) (λv5 H5 S5 iv5=>?_);exact dZ inv (by omega) fJ ⟨_,rfl⟩ (S4.trans S5) (by rw[m4 hj,hJ];exact iv5)
 . rintro D ys H4 hn S4 e4 hl4 hr4
   have hvl:=t.length;rw[wm]at hvl;have hyl:ys.length=xs.length:=by omega
   clear hs t hx3 iv2' iv3;o_head sk (j:=i.toNat) e4 (by unfold gM;rw[if_pos i0,if_pos (by omega)]) (λH5 E5 e5=>?_);k_few;have hD:=jm T3 hn;refine q D H5 _ hD ((T3.trans S4).grow hD E5) e5 (fL (by rw[Vb,gT];exact hyl) λj v hv=>?_);rw[Vl]at hv
   by_cases hij:i.toNat=j
   . subst hij
     rw[if_pos rfl,if_pos (by omega)]at hv;cases hv;rw[gh _ _ _ _ _ _ (by omega),if_pos rfl];exact d8 0 (T.eT _) rfl rfl
   . rw[if_neg hij]at hv
     have hj:j<xs.length:=by
       rcases wD j ys.length with z | z
       . omega
       . rw[wE z]at hv;cases hv
     have hz:=hr4 j v hv;rw[m4 hj]at hz;rw[gh _ _ _ _ _ _ hj,if_neg (Wo hij)];exact hz.fI (E5.keep e4)
structure cO(a b:Rat)(ns:List Int)(xs:List Rat):Prop where
 ba:ag 10 a
 bb:ag 10 b
 n0:∀n∈ns,0<=n/\n<=64
 len:ns.length=xs.length+1
 bN:ns.length<=50
 cm:∃m,Cm m xs/\m+2*ns.length+21*upTo ns ns.length<=8000
theorem Bb{ns:List Int} : ∀{k j:Nat},k<=j->j<=ns.length->upTo ns k<=upTo ns j:=by
 intro k j hk
 induction j with
 | zero => intro _; have : k = 0 := by omega
           subst this;exact wo _
 | succ j ih =>
   intro hj;rcases wD k (j+1)with z | z
   . rw[ox (by omega)]
     have:=ih (by omega) (by omega);omega
   . have:k=j+1:=by omega
     subst this;exact wo _
theorem cO.row{a b:Rat}{ns:List Int}{xs:List Rat}(h:cO a b ns xs){k:Nat}(hk:k<=ns.length):∃m,Cm m (aO a b ns (xs++[0]) k)/\m<=8000:=by
 obtain⟨m,hm,hm2⟩:=h.cm;refine⟨_,(hm.snoc).rows h.ba h.bb k hk,?_⟩;have:=Bb (ns:=ns) hk (wo _);omega
def nJ(a b:Rat)(ns:List Int)(xs:List Rat):List (List Rat):=(wq (ns.length+1)).map (aO a b ns (xs++[0]))
theorem pk(a b:Rat)(ns:List Int)(xs:List Rat):(nJ a b ns xs).length=ns.length+1:=by simp[nJ]
theorem tR{a b:Rat}{ns:List Int}{xs:List Rat}{k:Nat}(h:k<=ns.length):(nJ a b ns xs).getD k []=aO a b ns (xs++[0]) k:=by
 unfold nJ;rw[wb,wt,vT (by omega)]
 rfl
def LC(K:wa):Sp:=λvs H Q _=>∃x0 x1 x2,vs=[x0,x1,x2] /\ ∃(a b:Rat)(ns:List Int)(xs:List Rat),Is K H x0 (R a b)/\Is K H x1 (TZ ns)/\Is K H x2 (TN xs)/\cO a b ns xs /\ ∀l H',ah H H'->Is K H' (.ref l) (LL (nJ a b ns xs))->Q (.ref l) H'
theorem A8{K:wa}{H:Hp}{Q:VK}{E:XK}{a b:Rat}{ns:List Int}{xs:List Rat}{v w u:V}(h1:Is K H v (R a b))(h2:Is K H w (TZ ns))(h3:Is K H u (TN xs))(ok:cO a b ns xs)(q:∀l H',ah H H'->Is K H' (.ref l) (LL (nJ a b ns xs))->Q (.ref l) H'):LC K [v,w,u] H Q E:=⟨_,_,_,rfl,a,b,ns,xs,h1,h2,h3,ok,q⟩
theorem DK(T:Txt K mg a):aH P w K mg base aQ 5 a.rp a.HG yz (LC K):=by
 refine T.rl.F.ok yI ?_ ?_;wtm_at "b3"
 refine⟨_,(ar (az 3 yI.nd (eH (ae (aD cA (dY (show aP _ (.type "list") (jN K)from oE) rfl T.z_list kh (ae (pv 2) af)) (eH (ae (bZ (v:=.ref a.de) rfl T.dD rfl) af))) af)))
     (ar (gz vE rfl (PB rfl T.z_enumerate (ae (pv 1) af)) (ml (n:=2) rfl (gW (bR (i:=4) yI.nd rfl (Or.inl rfl)) (gW (bR (i:=5) yI.nd rfl (Or.inl rfl)) mv))) (av (mB (mV Wy Ww Wx kY (pv 3) (ae (ao (U7 T) hr T.Fz (by exact(@ae _ _ _ _ _ (pv 0) (@ae _ _ _ _ _ (pv 5) (@ae _ _ _ _ _ (dC dg (pv 3) (pv 4) (λ_ _=>rfl)) (@ae _ _ _ _ _ (pv 4) af fE) fk) fE) fE))) af)))))
     (av (aB (pv 3))))),?_⟩
 wtm_at "cl";rw[show start Pt [x0,x1,x2]=[some x0,some x1,some x2,none,none,none]from rfl];obtain⟨a',b',ns,xs,hr',hn',hp',ok,q⟩:=h;have hlen:=ok.len;have hfew:=ok.bN;o_head sO hp' (λl1 H1 us hl1 S1 e1 t1=>?_);have hul:=t1.length;rw[wm]at hul;o_head eX (by simp) (λl2 H2 hl2 S2 e2=>?_);refine lM (S2 _ _ e1) e2 (WQ (iT (by simp;omega))) (λl3 H3 hl3 S3 e3=>?_);o_head eX (by simp) (λlt H4 hlt S4 e4=>?_);have T4:ah H H4:=S1.trans (S2.trans (S3.trans S4));have e3':=S4 _ _ e3;have ne43:l3≠lt:=λz=>by subst z;rw[e3]at hlt;cases hlt
 have t3:au K H4 (us++[V.ref a.de]) ((xs++[0]).map N):=by
   rw[vD];exact(au.same (S2.trans (S3.trans S4)) _ _ t1).append (.cons (d8 0 (T.eT _) rfl rfl) .nil)
 have hD:=jm (S1.trans (S2.trans S3)) hlt;clear hl1 hl2 hl3 S1 S2 S3 S4 e1 e2 e3 t1 hlt;k_few;obtain⟨an,rfl,hsn⟩:=oS.mp hn'
 refine zwv (T4.j3 hsn) (λk σ H'=>∃o1 o2 vs,σ = [some x0,some (.ref an),some x2,some (.ref lt),o1,o2]/\ah H H'/\H' lt=some (.lst vs)/\vs.length=k+1 /\ ∀j v,vs[j]? = some v->∃lj ws,v=.ref lj/\lj≠lt/\H' lj=some (.lst ws)/\au K H' ws ((aO a' b' ns (xs++[0]) j).map N))
   ⟨_,_,_,rfl,T4,e4,rfl,λj v hv=>?_⟩ (λk σ H' _ ⟨_,_,_,_,s,_⟩=>s.j3 hsn) ?_ ?_
 . match j,hv with
   | 0,e=>cases wX e;exact⟨l3,_,rfl,ne43,e3',t3⟩
   | j+1,e=>simp at e
 . rintro k x σ H5 t H6 hx ⟨o1,o2,vs,rfl,S5,e5,hl5,hr5⟩ ht S6 e6
   have hk:k<ns.length:=by
     rcases wD k ns.length with z | z
     . exact z
     . rw[wE (by simpa using z)]at hx;cases hx
   have hxv:x=.int (ns.getD k 0):=by
     rw[wt,wc hk]at hx;rw[wb,wc hk];exact(wX hx).symm
   subst hxv;have hnk:=ok.n0 (ns.getD k 0) (by rw[wb,wc hk];exact vO hk);refine mr (.of e6) rfl ?_;k_few;have e5':=S6 _ _ e5;refine lO (aR.of e5') ?_;k_few;have hkv:∃v,vs[k]? = some v:=⟨vs[k]'(by omega),wc (by omega)⟩;obtain⟨v,hv⟩:=hkv;obtain⟨lk,ws,rfl,nek,ek,tk⟩:=hr5 k v hv;refine iH (aR.of e5') (kx hv) ?_;k_few;obtain⟨m,hm,hm2⟩:=ok.row (k:=k) (by omega);have hrl:=di a' b' ns (xs++[0]) k;rw[wR]at hrl;have T6:=S5.trans S6;refine zlo (hr'.by T6) (dm (S6 _ _ ek) (au.same S6 _ _ tk)) ok.ba ok.bb hnk.1 hnk.2 (by omega) (by rw[hrl];simp;omega) (by rw[hrl];simp;omega) hm hm2 (λl7 H7 us7 hl7 S7 e7 t7=>?_);have e5'':=S7 _ _ e5';have ne7:l7≠lt:=λz=>by subst z;rw[e5']at hl7;cases hl7
   o_head lB e5'' (by omega) (λH8 E8 e8=>?_);have K8:bK H7 H8:=E8.keep e5'';refine⟨_,_,_,rfl,(T6.trans S7).grow hD E8,e8,by simp[hl5],λj v hv=>?_⟩;rcases wD j vs.length with z | z
   . rw[vY z]at hv
     obtain⟨lj,wj,rfl,nej,ej,tj⟩:=hr5 j v hv;exact⟨lj,wj,rfl,nej,E8 _ _ nej (S7 _ _ (S6 _ _ ej)),au.keep (S6.keep.trans (S7.keep.trans K8)) _ _ (fU _) tj⟩
   . have hj:j=vs.length:=by
       rcases wD vs.length j with q | q
       . rw[wE (by simp;omega)]at hv;cases hv
       . omega
     subst hj;rw[vg (wo _),Vz]at hv;cases wX hv;rw[hl5];refine⟨l7,us7,rfl,ne7,E8 _ _ ne7 e7,au.keep K8 _ _ (fU _) ?_⟩;rw[aO]
     simpa using t7
 . rintro σ H5 ⟨o1,o2,vs,rfl,S5,e5,hl5,hr5⟩
   o_head q lt H5 S5 (cE.mpr ⟨lt,vs,rfl,.of e5,JR (by rw[hl5,pk];simp) λj v hv=>?_⟩)
   have hj:j<vs.length:=by
     rcases wD j vs.length with z | z
     . exact z
     . rw[wE z]at hv;cases hv
   obtain⟨lj,wj,rfl,nej,ej,tj⟩:=hr5 j v hv;rw[tR (by simp at hl5;omega)];exact dm ej tj
def c6(a b:Rat)(ns:List Int)(xs:List Rat):List Rat:=(aO a b ns (xs++[0]) ns.length).dropLast
def Rl(K:wa):Sp:=λvs H Q _=>∃x0 x1 x2,vs=[x0,x1,x2] /\ ∃(a b:Rat)(ns:List Int)(xs:List Rat),Is K H x0 (R a b)/\Is K H x1 (TZ ns)/\Is K H x2 (TN xs)/\cO a b ns xs /\ ∀v H',ah H H'->Is K H' v (TN (c6 a b ns xs))->Q v H'
theorem J6{K:wa}{H:Hp}{Q:VK}{E:XK}{a b:Rat}{ns:List Int}{xs:List Rat}{v w u:V}(h1:Is K H v (R a b))(h2:Is K H w (TZ ns))(h3:Is K H u (TN xs))(ok:cO a b ns xs)(q:∀v H',ah H H'->Is K H' v (TN (c6 a b ns xs))->Q v H'):Rl K [v,w,u] H Q E:=⟨_,_,_,rfl,a,b,ns,xs,h1,h2,h3,ok,q⟩
theorem Ru(T:Txt K mg a):aH P w K mg base aQ 6 a.Gb a.FC rG (Rl K):=by
 refine T.z9.F.ok Zq ?_ ?_;wtm_at "b3";refine⟨_,(av (aB (dY (show aP _ (.type "tuple") (eA K)from fz) rfl T.z_tuple dR (ae (jQ jD (dC dg (ao (DK T) hr T.rl (ae (pv 0) (ae (pv 1) (ae (pv 2) af)))) (gA gg ay) (λ_ _=>rfl)) jW (jL (gA gg ay))) af)))),?_⟩;wtm_at "cl";rw[show start DV [x0,x1,x2]=[some x0,some x1,some x2]from rfl];obtain⟨a',b',ns,xs,hr',hn',hp',ok,q⟩:=h;o_head A8 hr' hn' hp' ok (λl H1 S1 i1=>?_);o_head zwb i1 (by rw[pk];omega) (λv2 i2=>?_);rw[pk,qk,tR (wo _)]at i2;o_head k8 i2 (λl3 H3 ys hn3 S3 e3 t3=>?_);rw[BM,<- Qp]at t3;o_head gY (dm e3 t3) (λw H4 S4 i4=>?_);exact q w H4 (S1.trans (S3.trans S4)) i4
theorem NX{a b:Rat}{ns:List Int}{xs:List Rat}{m:Nat}(ok:cO a b ns xs)(c:Cm m xs)(hm:m+2*ns.length+21*upTo ns ns.length<=8000){k:Nat}(hk:k<=ns.length):Cm 8000 (eF a b ns (xs++[0]) k::aO a b ns (xs++[0]) k):=by
 have h1:=Bb (ns:=ns) hk (wo _);exact(c.snoc.Au ok.ba ok.bb (ns:=ns) k hk).mono (by omega)
def Mq(K:wa):Sp:=λvs H Q _=>∃x0 x1 x2,vs=[x0,x1,x2] /\ ∃(a b:Rat)(ns:List Int)(xs:List Rat)(m:Nat),Is K H x0 (R a b)/\Is K H x1 (TZ ns)/\Is K H x2 (TN xs)/\cO a b ns xs/\Cm m xs/\m+2*ns.length+21*upTo ns ns.length<=8000 /\ ∀v H',ah H H'->Is K H' v (N (fm a b ns xs))->Q v H'
theorem zoE{K:wa}{H:Hp}{Q:VK}{E:XK}{a b:Rat}{ns:List Int}{xs:List Rat}{m:Nat}{v w u:V}(h1:Is K H v (R a b))(h2:Is K H w (TZ ns))(h3:Is K H u (TN xs))(ok:cO a b ns xs)(hm:Cm m xs)(hm2:m+2*ns.length+21*upTo ns ns.length<=8000)(q:∀v H',ah H H'->Is K H' v (N (fm a b ns xs))->Q v H'):Mq K [v,w,u] H Q E:=⟨_,_,_,rfl,a,b,ns,xs,m,h1,h2,h3,ok,hm,hm2,q⟩
theorem zoy(T:Txt K mg a):aH P w K mg base aQ 6 a.Hq a.FT zev (Mq K):=by
 refine T.Gn.F.ok oX ?_ ?_;wtm_at "b3"
 refine⟨_,(ar (az 3 oX.nd (bZ (v:=.ref a.de) rfl T.dD rfl))
     (ar (az 4 oX.nd (ao (DK T) hr T.rl (ae (pv 0) (ae (pv 1) (ae (pv 2) af)))))
     (ar (gz vE rfl (j5 rfl T.z_range (ae (bP (show aP _ (.builtin "len") (cR K)from dS) rfl T.z_len dW (ae (pv 1) af)) af)) (bR (i:=5) oX.nd rfl (Or.inl rfl)) (av (az 3 oX.nd (ao (fH T) hr T.fe (ae (pv 3) (ae (ao (yq T) hr T.nS (ae (bZ (v:=.ref a.dN) rfl T.eU rfl) (ae (dC dg (dC dg (pv 4) (pv 5) (λ_ _=>rfl)) (pv 5) (λ_ _=>rfl)) af))) af))))))
     (av (aB (pv 3)))))),?_⟩
 wtm_at "cl";rw[show start O6 [x0,x1,x2]=[some x0,some x1,some x2,none,none,none]from rfl];obtain⟨a',b',ns,xs,m,hr',hn',hp',ok,hm,hm2,q⟩:=h;o_head A8 hr' hn' hp' ok (λl H1 S1 i1=>?_);o_head EK (hn'.by S1) ?_;have hlen:=ok.len;have hfew:=ok.bN;refine lU (n:=(ns.length:Int)) (by omega) (by omega) (λk σ H'=>∃v o,σ = [some x0,some x1,some x2,some v,some (.ref l),o]/\ah H1 H'/\Is K H' v (N (eF a' b' ns (xs++[0]) k))) ⟨_,_,rfl,ah.refl _,d8 0 (T.eT _) rfl rfl⟩ ?_ ?_
 . rintro k σ H2 hk ⟨v,o,rfl,S2,iv⟩
   have hk':k<ns.length:=by simpa using hk
   have c:=NX ok hm hm2 (k:=k) (by omega);have b1:ag 8000 (eF a' b' ns (xs++[0]) k):=c.dH (wC ..);have b2:ag 8000 ((aO a' b' ns (xs++[0]) k).getD k 0):=(kI c λy hy=>wB _ hy).get k;have b4:ag 8002 (1-(aO a' b' ns (xs++[0]) k).getD k 0):=(ag.one.sub b2).mono (by decide);have i2:=i1.by S2;o_head SG i2 (by omega) (by rw[pk];omega) (λv3 i3=>?_);rw[wP,tR (by omega)]at i3;o_head jJ i3 (by omega) (by rw[di,wR];simp;omega) (λv4 i4=>?_);rw[wP]at i4;k_few;exact⟨_,_,rfl,S2.trans (ah.trans (by assumption) (by assumption)),by assumption⟩
 . rintro σ H2 ⟨v,o,rfl,S2,iv⟩
   k_few;exact q _ _ (S1.trans S2) iv
def e_(a b:Rat)(ns:List Int)(xs:List Rat):List Rat:=(wq ns.length).map λk=>(aO a b ns (xs++[0]) (k+1)).getD ((k+1) % ns.length) 0
theorem iX(a b:Rat)(ns:List Int)(xs:List Rat):(e_ a b ns xs).length=ns.length:=by simp[e_]
theorem mj{a b:Rat}{ns:List Int}{xs:List Rat}{k:Nat}(h:k<ns.length):(e_ a b ns xs).getD k 0=(aO a b ns (xs++[0]) (k+1)).getD ((k+1) % ns.length) 0:=by
 unfold e_;rw[wb,wt,vT h]
 rfl
def Nw(K:wa):Sp:=λvs H Q _=>∃x0 x1 x2,vs=[x0,x1,x2] /\ ∃(a b:Rat)(ns:List Int)(xs:List Rat),Is K H x0 (R a b)/\Is K H x1 (TZ ns)/\Is K H x2 (TN xs)/\cO a b ns xs /\ ∀v H',ah H H'->Is K H' v (TN (e_ a b ns xs))->Q v H'
theorem Rw{K:wa}{H:Hp}{Q:VK}{E:XK}{a b:Rat}{ns:List Int}{xs:List Rat}{v w u:V}(h1:Is K H v (R a b))(h2:Is K H w (TZ ns))(h3:Is K H u (TN xs))(ok:cO a b ns xs)(q:∀v H',ah H H'->Is K H' v (TN (e_ a b ns xs))->Q v H'):Nw K [v,w,u] H Q E:=⟨_,_,_,rfl,a,b,ns,xs,h1,h2,h3,ok,q⟩
theorem M4(T:Txt K mg a):aH P w K mg base aQ 6 a.hZ a.IZ tT (Nw K):=by
 refine T.As.F.ok DJ ?_ ?_;wtm_at "b3"
 refine⟨_,(ar (az 3 DJ.nd (ao (DK T) hr T.rl (ae (pv 0) (ae (pv 1) (ae (pv 2) af)))))
     (ar (az 4 DJ.nd (bP (show aP _ (.builtin "len") (cR K)from dS) rfl T.z_len dW (ae (pv 1) af)))
     (av (aB (dY (show aP _ (.type "tuple") (eA K)from fz) rfl T.z_tuple dR (ae (dU rfl (cC.by (N':=["turn","rows","count"]) (src:=[none,some 3,some 4]) rfl (show cS _ (aC uF).names AD ["turn","rows","count"] [none,some 3,some 4]=true from by decide +kernel)) (j5 rfl T.z_range (ae (pv 4) af)) (λ_ _ _ _ _=>(bR (i:=0) (show(["turn","rows","count"]:List Str).Nodup from by decide) rfl (Or.inl rfl))) (λ_ _ _ _ _=>du) (λ_ _ _ _ _=>(dC (show gK _ (c_ K)from dg) (dC (show gK _ (c_ K)from dg) (pv 1) (aD cA (pv 0) ay) (λ_ _=>rfl)) (aD gB (aD cA (pv 0) ay) (pv 2)) (λ_ _=>rfl)))) af)))))),?_⟩
 wtm_at "cl";rw[show start AD [x0,x1,x2]=[some x0,some x1,some x2,none,none]from rfl];obtain⟨a',b',ns,xs,hr',hn',hp',ok,q⟩:=h;have hlen:=ok.len;have hfew:=ok.bN;o_head A8 hr' hn' hp' ok (λl H1 S1 i1=>?_);o_head EK (hn'.by S1) ?_;o_head zzD (n:=(ns.length:Int)) (by omega) (by omega) (o0:=none) (tl:=[some (.ref l),some (.int (ns.length:Int))]) rfl (λi v H=>Is K H v (N ((e_ a' b' ns xs).getD i 0))) ?_ ?_
 . rintro D i ys o H2 hi inv
   have hi':i<ns.length:=by simpa using hi
   have i2:=i1.by inv.same;have hn0:(0:Int)<(ns.length:Int):=by omega
   o_head SG i2 (by omega) (by rw[pk];omega) (λv3 i3=>?_);rw[show((i:Int)+1).toNat=i+1 by omega,tR (by omega)]at i3;k_few;have e:((i:Int)+1) % (ns.length:Int)=(((i+1) % ns.length:Nat):Int):=by push_cast;rfl
   have hm:(i+1) % ns.length<ns.length:=XF _ (by omega);rw[e];refine jJ i3 (by omega) (by rw[di,wR];simp;omega) (λv4 i4=>?_);rw[wP,<- mj hi']at i4;exact dZ inv (by omega) fJ ⟨_,rfl⟩ (ah.refl _) i4
 . rintro D ys H2 hn S2 e2 hl2 hr2
   o_head gY (dm e2 (fL (by rw[hl2,iX];simp) hr2)) (λw H3 S3 i3=>?_);exact q w H3 (S1.trans (S2.trans S3)) i3
theorem uC{bs:List Bool}{zs:List V}(hl:zs.length=bs.length)(h:∀j z,zs[j]? = some z->z=V.bl (bs.getD j true)):zs=bs.map V.bl:=by
 refine WH (by rw[wm];exact hl) λi h1 h2=>?_
 rw[h i _ (wc h1),VC,wb,wc (by omega)]
 rfl
def dA(xs:List Rat):List Rat:=[1]++xs++[0]
theorem zL(xs:List Rat):(dA xs).length=xs.length+2:=by simp[dA]
def mX(xs:List Rat):List Bool:=(wq (xs.length+1)).map λi=>decide ((dA xs).getD (i+1) 0<(dA xs).getD i 0)
def lR(ts:List Rat):List Bool:=ts.map λx=>decide (x<1)
def eW(a b:Rat)(ns:List Int)(xs:List Rat):Bool:=(mX xs).all id&&(lR (e_ a b ns xs)).all id
theorem ztL{xs:List Rat}{i:Nat}(h:i<xs.length+1):(mX xs).getD i true=decide ((dA xs).getD (i+1) 0<(dA xs).getD i 0):=by
 unfold mX;rw[wb,wt,vT h]
 rfl
theorem zwN{ts:List Rat}{i:Nat}(h:i<ts.length):(lR ts).getD i true=decide (ts.getD i 0<1):=by
 unfold lR;rw[wb,wt,wb,wc h]
 rfl
theorem OQ{m:Nat}{xs:List Rat}(h:Cm m xs)(i:Nat):ag m ((dA xs).getD i 0):=by
 unfold dA;rcases xN i with rfl | hi
 ·exact ag.one.mono h.pos
 ·obtain⟨j,rfl⟩:∃j,i=j+1:=⟨i-1,by omega⟩
  exact h.snoc.get j
theorem Sm{a b:Rat}{ns:List Int}{xs:List Rat}(ok:cO a b ns xs){i:Nat}(hi:i<ns.length):ag 8000 ((e_ a b ns xs).getD i 0):=by
 rw[mj hi];obtain⟨m,hm,hm2⟩:=ok.row (k:=i+1) (by omega);exact(hm.get _).mono hm2
def Sa(K:wa):Sp:=λvs H Q _=>∃x0 x1 x2,vs=[x0,x1,x2] /\ ∃(a b:Rat)(ns:List Int)(xs:List Rat),Is K H x0 (R a b)/\Is K H x1 (TZ ns)/\Is K H x2 (TN xs)/\cO a b ns xs /\ ∀H',ah H H'->Q (.bl (eW a b ns xs)) H'
theorem ow{K:wa}{H:Hp}{Q:VK}{E:XK}{a b:Rat}{ns:List Int}{xs:List Rat}{v w u:V}(h1:Is K H v (R a b))(h2:Is K H w (TZ ns))(h3:Is K H u (TN xs))(ok:cO a b ns xs)(q:∀H',ah H H'->Q (.bl (eW a b ns xs)) H'):Sa K [v,w,u] H Q E:=⟨_,_,_,rfl,a,b,ns,xs,h1,h2,h3,ok,q⟩
theorem oY(T:Txt K mg a):aH P w K mg base aQ 7 a.IV a.Hs tm (Sa K):=by
 refine T.l_.F.ok KY ?_ ?_;wtm_at "b3"
 refine⟨_,(ar (az 3 KY.nd (aD cA (aD cA (eH (ae (bZ (v:=.ref a.dN) rfl T.eU rfl) af)) (dY (show aP _ (.type "list") (jN K)from oE) rfl T.z_list kh (ae (pv 2) af))) (eH (ae (bZ (v:=.ref a.de) rfl T.dD rfl) af))))
     (ar (bD (cq (cb (bP (show aP _ (.builtin "all") (kz K)from mO rfl) rfl T.z_all mR (ae (dU rfl (cC.by (N':=["upper","lower"]) (src:=[none,none]) rfl (show cS _ (aC pZ).names rM ["upper","lower"] [none,none]=true from by decide +kernel)) (MU rfl T.z_zip (ae (pv 3) (ae (jQ jD (pv 3) (jL ay) jW) af))) (λ_ _ _ _ _=>by exact(show PG _ _ (nj K 2 _)from ml (n:=2) rfl (gW (bR (i:=0) (show(["upper","lower"]:List Str).Nodup from by decide) rfl (Or.inl rfl)) (gW (bR (i:=1) (show(["upper","lower"]:List Str).Nodup from by decide) rfl (Or.inl rfl)) mv)))) (λ_ _ _ _ _=>du) (λ_ _ _ _ _=>(ao (fO (K:=K) (mg:=mg) (a:=a) T) hr T.fv (ae (pv 1) (ae (pv 0) af))))) af)))) (av (aB dP)) bA)
     (av (aB (bP (show aP _ (.builtin "all") (kz K)from mO rfl) rfl T.z_all mR (ae (dU rfl (cC.by (N':=["top"]) (src:=[none]) rfl (show cS _ (aC pZ).names rM ["top"] [none]=true from by decide +kernel)) (jd (ao (M4 T) hr T.As (ae (pv 0) (ae (pv 1) (ae (pv 2) af))))) (λ_ _ _ _ _=>(bR (i:=0) (show(["top"]:List Str).Nodup from by decide) rfl (Or.inl rfl))) (λ_ _ _ _ _=>du) (λ_ _ _ _ _=>(ao (fO (K:=K) (mg:=mg) (a:=a) T) hr T.fv (ae (pv 0) (ae (bZ (v:=.ref a.dN) rfl T.eU rfl) af))))) af)))))),?_⟩
 wtm_at "cl";rw[show start rM [x0,x1,x2]=[some x0,some x1,some x2,none]from rfl];obtain⟨a',b',ns,xs,hr',hn',hp',ok,q⟩:=h;have hlen:=ok.len;have hfew:=ok.bN;obtain⟨m,hcm,hcm2⟩:=ok.cm;o_head eX (by simp) (λl0 H1 n1 S1 e1=>?_);o_head sO (hp'.by S1) (λl1 H2 us n2 S2 e2 t2=>?_);have hul:=t2.length;rw[wm]at hul;refine lM (S2 _ _ e1) e2 (WQ (iT (by simp;omega))) (λl2 H3 n3 S3 e3=>?_);o_head eX (by simp) (λl3 H4 n4 S4 e4=>?_);refine lM (S4 _ _ e3) e4 (WQ (iT (by simp;omega))) (λl5 H5 n5 S5 e5=>?_);have T5:ah H H5:=S1.trans (S2.trans (S3.trans (S4.trans S5)))
 have t5:au K H5 ([V.ref a.dN]++us++[V.ref a.de]) ((dA xs).map N):=by
   unfold dA;rw[vD,vD];exact(au.append (.cons (d8 1 (T.rC _) rfl rfl) .nil) (au.same (S3.trans (S4.trans S5)) _ _ t2)).append (.cons (d8 0 (T.eT _) rfl rfl) .nil)
 have ir5:=hr'.by T5;have in5:=hn'.by T5;have ip5:=hp'.by T5;clear n1 n2 n3 n4 n5 S1 S2 S3 S4 S5 e1 e2 e3 e4 t2 hr' hn' hp';generalize [V.ref a.dN]++us++[V.ref a.de]=ws at e5 t5;have hws:=t5.length;rw[wm,zL]at hws;o_head k8 (dm e5 t5) (λl6 H6 ys n6 S6 e6 t6=>?_);rw[show(1:Int)=((1:Nat):Int)from rfl,zxv _ _ (by rw[wm,zL];omega),<- X5]at t6;have hys:=t6.length;rw[wm,vU,zL]at hys;have e56:=S6 _ _ e5;have t56:=au.same S6 _ _ t5;have T6:=T5.trans S6;have ir6:=ir5.by S6;have in6:=in5.by S6;have ip6:=ip5.by S6;clear ir5 in5 ip5 T5 S6 e5 t5 n6;o_head zxW (t:=false) (u:=false) (aR.of e56) (aR.of e6) (by omega) (o0:=none) (o0':=none) (tl:=[]) rfl (λi v H=>v=V.bl ((mX xs).getD i true)) (λ_ _ _ _ _ h=>h) ?_ ?_
 . rintro D i x y zs o1 o2 H7 c hx hy inv e7
   obtain⟨hi,ix⟩:=dk t56 hx;obtain⟨hj,iy⟩:=dk t6 hy;rw[vU,zL]at hj
   have ed:((dA xs).drop 1).getD i 0=(dA xs).getD (i+1) 0:=by
     rw[wb,xF,wb,Nat.add_comm]
   rw[ed]at iy;have S7:=inv.2.2.1;have b1:ag 8000 ((dA xs).getD i 0):=(OQ hcm i).mono (by omega);have b2:ag 8000 ((dA xs).getD (i+1) 0):=(OQ hcm (i+1)).mono (by omega);refine OA (mr (.of e7) rfl ?_);have ix7:=ix.by S7;have iy7:=iy.by S7;k_few;exact rQ inv (by omega) (λ_ _ _ _ _ h=>h) ⟨_,_,rfl⟩ (ah.refl _) (by rw[ztL (by omega)])
 . rintro D zs H7 hn S7 e7 hl7 hr7
   have hz:=uC (bs:=mX xs) (by unfold mX;rw[wm,vB];omega) hr7;rw[hz]at e7;o_head lA (.of e7) ?_;k_few
   . rename_i z
     have ef:eW a' b' ns xs=false:=by unfold eW;rw[z];rfl
     rw[<- ef];exact q _ (T6.trans S7)
   . rename_i z
     have ef:eW a' b' ns xs=(lR (e_ a' b' ns xs)).all id:=by unfold eW;rw[z];rfl
     rw[ef]at q;refine Rw (ir6.by S7) (in6.by S7) (ip6.by S7) ok (λv8 H8 S8 i8=>?_);have T8:=T6.trans (S7.trans S8);obtain⟨a8,us8,rfl,hs8,t8⟩:=bX.mp i8;have hl8:=t8.length;rw[wm,iX]at hl8;refine h9 hs8 (o0:=none) (tl:=[]) rfl (λi v H=>v=V.bl ((lR (e_ a' b' ns xs)).getD i true)) ?_ ?_
     . rintro D i x ys' o H9 hx inv
       obtain⟨hi,ix⟩:=dk t8 hx;rw[iX]at hi;have ix9:=ix.by inv.same;have b1:ag 8000 ((e_ a' b' ns xs).getD i 0):=Sm ok hi;have b2:ag 8000 1:=ag.one.mono (by decide);k_few;exact dZ inv (by omega) (λ_ _ _ _ _ h=>h) ⟨_,rfl⟩ (ah.refl _) (by rw[zwN (by rw[iX];exact hi)])
     . rintro D ys' H9 hn9 S9 e9 hl9 hr9
       have hz':=uC (bs:=lR (e_ a' b' ns xs)) (by unfold lR;rw[wm,iX];omega) hr9;rw[hz']at e9;o_head lA (.of e9) ?_;exact q _ (T8.trans S9)
def cB(n:Nat):List Rat:=w6 n 0
theorem SD(n i:Nat):(cB n).getD i 0=0:=by
 unfold cB;rw[wb,QD]
 split<;>rfl
theorem oQ(n:Nat):Cm 1 (cB n):=by
 refine⟨1,by decide,⟨by decide⟩,λx hx=>⟨0,?_,⟨by decide⟩⟩⟩;rw[List.eq_of_mem_replicate hx]
 rfl
def P7(K:wa):Sp:=λvs H Q _=>∃x0 x1,vs=[x0,x1] /\ ∃(a b:Rat)(ns:List Int),Is K H x0 (R a b)/\Is K H x1 (TZ ns)/\cO a b ns (cB (ns.length-1))/\0<=ns.sum/\ns.sum<=64 /\ ∀v H',ah H H'->Is K H' v (.tuple [N (a^ns.sum.toNat),TN (c6 a b ns (cB (ns.length-1)))])->Q v H'
theorem oP{K:wa}{H:Hp}{Q:VK}{E:XK}{a b:Rat}{ns:List Int}{v w:V}(h1:Is K H v (R a b))(h2:Is K H w (TZ ns))(ok:cO a b ns (cB (ns.length-1)))(h0:0<=ns.sum)(h64:ns.sum<=64)(q:∀v H',ah H H'->Is K H' v (.tuple [N (a^ns.sum.toNat),TN (c6 a b ns (cB (ns.length-1)))])->Q v H'):P7 K [v,w] H Q E:=⟨_,_,rfl,a,b,ns,h1,h2,ok,h0,h64,q⟩
theorem og(T:Txt K mg a):aH P w K mg base aQ 7 a.HQ a.Gf yr (P7 K):=by
 refine T.lW.F.ok A7 ?_ ?_;wtm_at "b2"
 refine⟨_,(ar (az 2 A7.nd (aj (ao (yZ T) hr T.nR (ae (pv 0) (ae (bP (show aP _ (.builtin "sum") (Ej K)from Y3 rfl) rfl T.z_sum J8 (ae (pv 1) af)) af)))))
     (ar (az 3 A7.nd (dY (show aP _ (.type "tuple") (eA K)from fz) rfl T.z_tuple dR (ae (dU rfl (cC.by (N':=["size"]) (src:=[none]) rfl (show cS _ (aC uS).names CB ["size"] [none]=true from by decide +kernel)) (jd (jQ jD (pv 1) (jL ay) jW)) (λ_ _ _ _ _=>(bR (i:=0) (show(["size"]:List Str).Nodup from by decide) rfl (Or.inl rfl))) (λ_ _ _ _ _=>du) (λ_ _ _ _ _=>(bZ (v:=.ref a.de) rfl T.dD rfl))) af)))
     (av (aB (br (ae (pv 2) (ae (ao (Ru T) hr T.z9 (ae (pv 0) (ae (pv 1) (ae (pv 3) af)))) af))))))),?_⟩
 wtm_at "cl";rw[show start CB [x0,x1]=[some x0,some x1,none,none]from rfl];obtain⟨a',b',ns,hr',hn',ok,h0,h64,q⟩:=h;have hlen:=ok.len;have hfew:=ok.bN;o_head zx1 hn' ?_;o_head B4 hr' ok.ba ok.bb h0 h64 (λv1 H1 S1 i1=>?_);k_few;rename_i v2 i2;have hn1:Is K H1 x1 (.tuple (ns.map PyData.int)):=hn'.by S1;refine NS hn1 ?_ (λv3 H3 S3 i3=>?_)
 . rintro ⟨e,_⟩
   have e':min 1 (ns.map PyData.int).length=0:=e;rw[wm]at e';omega
 rw[uE]at i3;obtain⟨a3,vs3,rfl,hs3,t3⟩:=bX.mp i3;have hl3:=t3.length;rw[VA,wm]at hl3;have hzl:(cB (ns.length-1)).length=ns.length-1:=Wi ..;o_head h9 hs3 (o0:=none) (tl:=[]) rfl (λi v H=>Is K H v (N ((cB (ns.length-1)).getD i 0))) ?_ ?_
 . rintro D i x ys o H4 hx inv
   have hi:i<vs3.length:=by
     rcases wD i vs3.length with z | z
     . exact z
     . rw[wE z]at hx;cases hx
   k_few;exact dZ inv (by omega) fJ ⟨_,rfl⟩ (ah.refl _) (by rw[SD];exact d8 0 (T.eT _) rfl rfl)
 . rintro D ys H4 hn4 S4 e4 hl4 hr4
   o_head gY (dm (xs:=cB (ns.length-1)) e4 (fL (by omega) hr4)) (λv5 H5 S5 i5=>?_);have T5:ah H1 H5:=S3.trans (S4.trans S5);o_head J6 ((hr'.by S1).by T5) ((hn'.by S1).by T5) i5 ok (λv6 H6 S6 i6=>?_);k_few;exact cF (by simp) (.cons (i2.by (T5.trans S6)) (.cons i6 .nil)) (λv H' S h=>q v H' (S1.trans (T5.trans (S6.trans S))) h)
def cZ(a b:Rat)(ns:List Int):List Rat:=(c6 a b ns (cB (ns.length-1))).map (λs=>s / (1-a^ns.sum.toNat))
theorem nD{a b:Rat}{ns:List Int}{xs:List Rat}(h:ns.length=xs.length+1):(c6 a b ns xs).length=xs.length:=by
 unfold c6;rw[xj,di];simp
theorem Cj{a b:Rat}{ns:List Int}{xs:List Rat}(h:ns.length=xs.length+1){i:Nat}(hi:i<xs.length):(c6 a b ns xs).getD i 0=(aO a b ns (xs++[0]) ns.length).getD i 0:=by
 unfold c6;have hl:(aO a b ns (xs++[0]) ns.length).length=xs.length+1:=by rw[di];simp
 rw[wb,wb,List.getElem?_dropLast,if_pos (by omega)]
theorem Ex{xs:List Rat}{i:Nat}(h:i<xs.length):(xs++[0]).getD i 0=xs.getD i 0:=by
 rw[wb,wb,vY h]
theorem oq{xs:List Rat} : (xs++[0]).getD xs.length 0=0:=by
 rw[wb,vg (wo _),Vz]
 rfl
theorem N5:∀{ns:List Int},(∀n∈ns,0<=n)->((ns.map QL).sum:Int)=ns.sum
 | [],_=>rfl
 | n::ns,h=>by
  have h1:=N5 (ns:=ns) λm hm=>h m (wB _ hm)
  have h2:=h n (wC ..);rw[w8,WT,WT];omega
theorem J3{ns:List Int}(h:∀n∈ns,0<=n):upTo ns ns.length=ns.sum.toNat:=by
 have:=N5 h;unfold GM.upTo;rw[Wc];omega
theorem zoI{a b:Rat}{ns:List Int}{xs:List Rat}(h:ns.length=xs.length+1)(hn:∀n∈ns,0<=n){i:Nat}(hi:i<xs.length):(c6 a b ns xs).getD i 0=a^ns.sum.toNat*xs.getD i 0+(c6 a b ns (cB (ns.length-1))).getD i 0:=by
 have hz:(cB (ns.length-1)).length=xs.length:=by unfold cB;rw[Wi];omega
 have hu:=J3 hn;rw[Cj h hi,Cj (by omega) (by omega)];have hr:=DE a b ns (xs++[0]) (cB (ns.length-1)++[0]) (by simp[hz]) (by simp[h]) xs.length (by simp) (by rw[oq];rw[<- hz,oq]) ns.length (wo _) i (by simp;omega);rw[if_neg (by omega),show ns.length-1=xs.length by omega]at hr;rw[show ns.length-1=xs.length by omega]at hz ⊢;rw[oq,Ex hi,Ex (by omega),SD,hu]at hr
 have hl0:(cB xs.length++[0]).getD xs.length 0=0:=by
  have:=oq (xs:=cB xs.length);rw[hz]at this;exact this
 rw[hl0]at hr
 grind
theorem zE{a b:Rat}{ns:List Int}(h:1<=ns.length):(cZ a b ns).length=ns.length-1:=by
 unfold cZ;rw[wm,nD (by unfold cB;rw[Wi];omega)];unfold cB;rw[Wi]
theorem Mr{a b:Rat}{ns:List Int}{i:Nat}(h:i<(cZ a b ns).length):(cZ a b ns).getD i 0=(c6 a b ns (cB (ns.length-1))).getD i 0 / (1-a^ns.sum.toNat):=by
 unfold cZ at *;rw[wm]at h;rw[wb,wt,wb,wc h];rfl
theorem Oo{m n:Nat}{xs:List Rat}{g:Rat}(h:Cm m xs)(bg:ag n g)(hg:g≠0):Cm (m+n) (xs.map (λs=>s / g)):=by
 obtain⟨B,h0,bB,hx⟩:=h;have hgn:=sX hg
 have key:∀(t:Int),wu t B / g=wu (t*(g.den:Int)) (B*g.num):=by
  intro t
  conv=>lhs;rw[<- WK g]
  rw[QV,Rat.inv_divInt,Q4]
 rcases Int.lt_or_gt_of_ne hgn with z | z
 ·refine⟨B * -g.num,vI h0 (by omega),bB.mul bg.t.neg,λx hxm=>?_⟩
  obtain⟨s,hs,rfl⟩:=wS.mp hxm;obtain⟨t,rfl,bt⟩:=hx s hs;refine⟨-(t*(g.den:Int)),?_,(bt.mul bg.b).neg⟩
  show wu t B / g=_
  rw[key t,Xb,Rat.divInt_neg',Int.neg_neg]
 ·refine⟨B*g.num,vI h0 (by omega),bB.mul bg.t,λx hxm=>?_⟩
  obtain⟨s,hs,rfl⟩:=wS.mp hxm;obtain⟨t,rfl,bt⟩:=hx s hs;exact⟨t*(g.den:Int),key t,bt.mul bg.b⟩
theorem CZ{a b:Rat}{ns:List Int}{xs:List Rat}{m:Nat}(ba:ag 10 a)(bb:ag 10 b)(hm:Cm m xs):Cm (m+2*ns.length+21*upTo ns ns.length) (c6 a b ns xs):=by
 obtain⟨B,h0,h1,h2⟩:=(hm.snoc).rows ba bb (ns:=ns) ns.length (wo _);exact⟨B,h0,h1,λx hx=>h2 x (List.dropLast_subset _ hx)⟩
theorem zw7{a b:Rat}{ns:List Int}(ba:ag 10 a)(bb:ag 10 b)(h8:ns.length<=8)(hu:upTo ns ns.length<=8)(hs:ns.sum.toNat<=8)(hF:a^ns.sum.toNat≠1):Cm 268 (cZ a b ns):=by
 have bF:ag 81 (a^ns.sum.toNat):=(ba.pow ns.sum.toNat).mono (by omega);have bg:ag 83 (1-a^ns.sum.toNat):=(ag.one.sub bF).mono (by decide);have hg:1-a^ns.sum.toNat≠0:=λe=>hF (by grind)
 exact(Oo (CZ (ns:=ns) ba bb (oQ (ns.length-1))) bg hg).mono (by omega)
theorem zpZ{a b:Rat}{ns:List Int}(ok:cO a b ns (cB (ns.length-1)))(h8:ns.sum<=8)(i:Nat):ag 400 ((c6 a b ns (cB (ns.length-1))).getD i 0):=((CZ ok.ba ok.bb (oQ _)).get i).mono (by
 have h1:=J3 (λn hn=>(ok.n0 n hn).1);have h2:=ok.bN;omega)
def NF(K:wa):Sp:=λvs H Q _=>∃x0 x1,vs=[x0,x1] /\ ∃(a b:Rat)(ns:List Int),Is K H x0 (R a b)/\Is K H x1 (TZ ns)/\cO a b ns (cB (ns.length-1))/\0<=ns.sum/\ns.sum<=8/\(a^ns.sum.toNat=1->∀H',ah H H'->Q .bj H')/\(a^ns.sum.toNat≠1->∀v H',ah H H'->Is K H' v (TN (cZ a b ns))->Q v H')
theorem Kj{K:wa}{H:Hp}{Q:VK}{E:XK}{a b:Rat}{ns:List Int}{v w:V}(h1:Is K H v (R a b))(h2:Is K H w (TZ ns))(ok:cO a b ns (cB (ns.length-1)))(h0:0<=ns.sum)(h8:ns.sum<=8)(q1:a^ns.sum.toNat=1->∀H',ah H H'->Q .bj H')(q2:a^ns.sum.toNat≠1->∀v H',ah H H'->Is K H' v (TN (cZ a b ns))->Q v H'):NF K [v,w] H Q E:=⟨_,_,rfl,a,b,ns,h1,h2,ok,h0,h8,q1,q2⟩
theorem Pg(T:Txt K mg a):aH P w K mg base aQ 8 a.Jr a.Io yA (NF K):=by
 refine T.Ap.F.ok DH ?_ ?_;wtm_at "b2"
 refine⟨_,(ar (az 2 DH.nd (ao (og T) hr T.lW (ae (pv 0) (ae (pv 1) af))))
     (ar (bD (bW (show aK _ (wJ .Eq) (cu K)from dq hu) (aj (pv 2)) (bZ (v:=.ref a.dN) rfl T.eU rfl) (aZ _)) (av (aB fh)) bA)
     (ar (az 3 DH.nd (ao (yq T) hr T.nS (ae (bZ (v:=.ref a.dN) rfl T.eU rfl) (ae (aj (pv 2)) af))))
     (av (aB (dY (show aP _ (.type "tuple") (eA K)from fz) rfl T.z_tuple dR (ae (dU rfl (cC.by (N':=["shift","gap"]) (src:=[none,some 3]) rfl (show cS _ (aC zx).names Be ["shift","gap"] [none,some 3]=true from by decide +kernel)) (jd (aj (pv 2))) (λ_ _ _ _ _=>(bR (i:=0) (show(["shift","gap"]:List Str).Nodup from by decide) rfl (Or.inl rfl))) (λ_ _ _ _ _=>du) (λ_ _ _ _ _=>(ao (Lq (K:=K) (mg:=mg) (a:=a) T) hr T.Ar (ae (pv 0) (ae (pv 1) af))))) af))))))),?_⟩
 wtm_at "cl";rw[show start Be [x0,x1]=[some x0,some x1,none,none]from rfl];obtain⟨ra,rb,ns,hr',hn',ok,h0,h8,q1,q2⟩:=h;have bF:ag 100 (ra^ns.sum.toNat):=(ok.ba.pow ns.sum.toNat).mono (by omega);o_head oP hr' hn' ok h0 (by omega) (λv1 H1 S1 i1=>?_);o_head aA (j:=0) i1 rfl (λv2 i2=>?_);k_few
 . rename_i z
   exact q1 z H1 S1
 . rename_i z
   refine aA (j:=0) i1 rfl (λv3 i3=>?_);k_few;rename_i v4 H4 S4 i4;have hg:(1-ra^ns.sum.toNat)≠0:=λe=>z (by grind)
   have bg:ag 102 (1-ra^ns.sum.toNat):=(ag.one.sub bF).mono (by decide);refine aA (j:=1) (i1.by S4) rfl (λv5 i5=>?_);obtain⟨ap,us,rfl,hu,tu⟩:=bX.mp i5;refine h9 (o0:=none) (tl:=[some v4]) hu rfl (λj y H'=>Is K H' y (N ((cZ ra rb ns).getD j 0))) ?_ ?_
   . intro D i x ys o H5 hx inv
     obtain⟨hi,ix⟩:=dk tu hx;have ix5:=ix.by inv.same;have i45:=i4.by inv.same
     have hi1000:i<=1000:=by
       have h1:=ok.len;have h2:=ok.bN;have h3:=nD (a:=ra) (b:=rb) (show ns.length=(cB (ns.length-1)).length+1 from ok.len);omega
     o_head PH ix5 i45 ((zpZ ok h8 i).mono (by decide)) (bg.mono (by decide)) hg (λv6 H6 S6 i6=>?_);k_few
     have e:(cZ ra rb ns).getD i 0=(c6 ra rb ns (cB (ns.length-1))).getD i 0 / (1-ra^ns.sum.toNat):=by
       unfold cZ;rw[wb,wt,wb,wc hi];rfl
     exact dZ inv hi1000 fJ ⟨_,rfl⟩ S6 (by rw[e];exact i6)
   . intro D ys H5 hn S5 hD hl hr5
     have hl':ys.length=(cZ ra rb ns).length:=by
       unfold cZ;rw[hl,tu.length,wm,wm]
     refine gY (dm hD (fL hl' hr5)) (λw H6 S6 i6=>?_);k_few;exact q2 z w H6 (S1.trans (S4.trans (S5.trans S6))) i6
def fY(p q:Rat)(xs ss:List Rat):List Rat:=(wq xs.length).map λi=>p*xs.getD i 0+q*ss.getD i 0
theorem mJ(p q:Rat)(xs ss:List Rat):(fY p q xs ss).length=xs.length:=by unfold fY;rw[wm,vB]
theorem KG{p q:Rat}{xs ss:List Rat}{i:Nat}(h:i<xs.length):(fY p q xs ss).getD i 0=p*xs.getD i 0+q*ss.getD i 0:=by
 unfold fY;rw[wb,wt,vT h];rfl
def MT(K:wa):Sp:=λvs H Q _=>∃x0 x1 x2 x3,vs=[x0,x1,x2,x3] /\ ∃(d:wy)(p q:Rat)(xs ss:List Rat),Is K H x0 (.tuple [d,TN ss])/\Is K H x1 (TN xs)/\Is K H x2 (N p)/\Is K H x3 (N q)/\ss.length=xs.length/\xs.length<=50/\ag 2000 p/\ag 2000 q/\(∀i,ag 6900 (xs.getD i 0))/\(∀i,ag 6900 (ss.getD i 0)) /\ ∀v H',ah H H'->Is K H' v (TN (fY p q xs ss))->Q v H'
theorem ON{K:wa}{H:Hp}{Q:VK}{E:XK}{d:wy}{p q':Rat}{xs ss:List Rat}{v w u z:V}(h0:Is K H v (.tuple [d,TN ss]))(h1:Is K H w (TN xs))(h2:Is K H u (N p))(h3:Is K H z (N q'))(hl:ss.length=xs.length)(hf:xs.length<=50)(b1:ag 2000 p)(b2:ag 2000 q')(b3:∀i,ag 6900 (xs.getD i 0))(b4:∀i,ag 6900 (ss.getD i 0))(q:∀v H',ah H H'->Is K H' v (TN (fY p q' xs ss))->Q v H'):MT K [v,w,u,z] H Q E:=⟨_,_,_,_,rfl,d,p,q',xs,ss,h0,h1,h2,h3,hl,hf,b1,b2,b3,b4,q⟩
theorem MV(T:Txt K mg a):aH P w K mg base aQ 3 a.Jd a.HB sQ (MT K):=by
 refine T.Aj.F.ok Zu ?_ ?_;wtm_at "b4";refine⟨_,(av (aB (dY (show aP _ (.type "tuple") (eA K)from fz) rfl T.z_tuple dR (ae (dU rfl (cC.by (N':=["place","shift","of_place","of_shift"]) (src:=[none,none,some 2,some 3]) rfl (show cS _ (aC u_).names uL ["place","shift","of_place","of_shift"] [none,none,some 2,some 3]=true from by decide +kernel)) (zAH rfl T.z_zip (ae (pv 1) (ae (aj (pv 0)) af))) (λ_ _ _ _ _=>by exact(show PG _ _ (nj K 2 _)from ml (n:=2) rfl (gW (bR (i:=0) (show(["place","shift","of_place","of_shift"]:List Str).Nodup from by decide) rfl (Or.inl rfl)) (gW (bR (i:=1) (show(["place","shift","of_place","of_shift"]:List Str).Nodup from by decide) rfl (Or.inl rfl)) mv)))) (λ_ _ _ _ _=>du) (λ_ _ _ _ _=>(ao (fH (K:=K) (mg:=mg) (a:=a) T) hr T.fe (ae (ao (kq (K:=K) (mg:=mg) (a:=a) T) hr T.jt (ae (pv 2) (ae (pv 0) af))) (ae (ao (kq (K:=K) (mg:=mg) (a:=a) T) hr T.jt (ae (pv 3) (ae (pv 1) af))) af))))) af)))),?_⟩;wtm_at "cl";rw[show start uL [x0,x1,x2,x3]=[some x0,some x1,some x2,some x3]from rfl];obtain⟨d,p,q',xs,ss,h0,h1,h2,h3,hl,hf,b1,b2,b3,b4,q⟩:=h;obtain⟨a1,us,rfl,hs1,t1⟩:=bX.mp h1;o_head aA (j:=1) h0 rfl (λv5 i5=>?_);obtain⟨a2,ws,rfl,hs2,t2⟩:=bX.mp i5;have l1:=t1.length;have l2:=t2.length;rw[wm]at l1 l2;o_head Z7 (t:=true) (u:=true) hs1 hs2 (by omega) (o0:=none) (o0':=none) (tl:=[some x2,some x3]) rfl (λj y H'=>Is K H' y (N ((fY p q' xs ss).getD j 0))) fJ ?_ ?_
 ·intro D j y z zs o1 o2 H7 c hy hz inv hc
  obtain⟨hj,iy⟩:=dk t1 hy;obtain⟨_,iz⟩:=dk t2 hz;have S7:=inv.2.2.1;have iy7:=iy.by S7;have iz7:=iz.by S7;have ip7:=h2.by S7;have iq7:=h3.by S7;have c1:=b3 j;have c2:=b4 j;have m1:ag 8999 (p*xs.getD j 0):=(b1.mul c1).mono (by decide);have m2:ag 8999 (q'*ss.getD j 0):=(b2.mul c2).mono (by decide);refine mr (.of hc) rfl ?_;k_few;rename_i v8 H8 S8 i8 v9 H9 S9 i9 v10 H10 S10 i10;rw[<- KG hj]at i10;exact rQ inv (by omega) fJ ⟨_,_,rfl⟩ (S8.trans (S9.trans S10)) i10
 ·intro D zs H7 hn S7 hD hl7 hr7
  have tz:au K H7 zs ((fY p q' xs ss).map N):=fL (by rw[hl7,mJ];omega) hr7;o_head gY (dm hD tz) (λv8 H8 S8 i8=>?_);exact q v8 H8 (S7.trans S8) i8
structure df(ns:List Int):Prop where
 some:1<=ns.length
 bN:ns.length<=8
 each:∀n∈ns,1<=n/\n<=8
 sum:ns.sum<=8
theorem yH:∀{ns:List Int},(∀n∈ns,0<=n)->((ns.map QL).sum:Int)=ns.sum
 | [],_=>rfl
 | n::ns,h=>by
  have h1:=yH (ns:=ns) λm hm=>h m (wB _ hm)
  have h2:=h n (wC ..);rw[w8,WT,WT];omega
theorem df.upTo{ns:List Int}(h:df ns):upTo ns ns.length<=8:=by
 have h1:=yH (ns:=ns) λn hn=>by have:=h.each n hn;omega
 have h2:=h.sum;unfold GM.upTo;rw[Wc];omega
def dh(a b:Rat)(ns:List Int):List Rat:=c6 a b ns (cB (ns.length-1))
def cP(a b:Rat)(ns:List Int)(n:Nat)(xs:List Rat):List Rat:=(wq xs.length).map λi=>fD (a^ns.sum.toNat) ((dh a b ns).getD i 0) n (xs.getD i 0)
theorem rZ(n:Nat):(cB n).length=n:=Wi ..
theorem mC{a b:Rat}{ns:List Int}(h:1<=ns.length):(dh a b ns).length=ns.length-1:=by
 unfold dh;rw[nD (by rw[rZ];omega),rZ]
theorem dG(a b:Rat)(ns:List Int)(n:Nat)(xs:List Rat):(cP a b ns n xs).length=xs.length:=by unfold cP;rw[wm,vB]
theorem kF{a b:Rat}{ns:List Int}{n:Nat}{xs:List Rat}{i:Nat}(h:i<xs.length):(cP a b ns n xs).getD i 0=fD (a^ns.sum.toNat) ((dh a b ns).getD i 0) n (xs.getD i 0):=by
 unfold cP;rw[wb,wt,vT h];rfl
theorem DN{xs ys:List Rat}(hl:xs.length=ys.length)(h:∀i,i<xs.length->xs.getD i 0=ys.getD i 0):xs=ys:=WH hl λi h1 h2=>by
 have:=h i h1;rw[wb,wb,wc h1,wc h2]at this;exact this
theorem m_(a b:Rat)(ns:List Int)(xs:List Rat):cP a b ns 0 xs=xs:=DN (dG ..) λi hi=>by
 rw[dG]at hi;rw[kF hi,zv9]
theorem Ob(a b:Rat)(ns:List Int)(m n:Nat)(xs:List Rat):cP a b ns n (cP a b ns m xs)=cP a b ns (m+n) xs:=DN (by rw[dG,dG,dG]) λi hi=>by
 rw[dG,dG]at hi;rw[kF (by rw[dG];exact hi),kF hi,kF hi,zxE]
theorem DM{a b:Rat}{ns:List Int}{xs:List Rat}(h:ns.length=xs.length+1)(hn:∀n∈ns,0<=n):cP a b ns 1 xs=c6 a b ns xs:=DN (by rw[dG,nD h]) λi hi=>by
 rw[dG]at hi;rw[kF hi,zyj,zoI h hn hi]
 rfl
structure d5(a b:Rat)(ns:List Int)(n:Nat):Prop where
 ok:aU a b
 sz:df ns
 bN:n<=60
 k:(6*ns.sum.toNat+1+1)*n<=1600
theorem Kl{a b:Rat}(h:aU a b):ag 6 a:=by
 have h1:=h.a0;have h2:=h.a4;have h3:=h.ad;have n0:0<=a.num:=qw.mpr (vK h1)
 have n1:a.num<=4*a.den:=by
  have:=(xf a 4).mp h2
  simpa using this
 have e:(2:Nat)^6=64:=by decide
 exact⟨⟨by rw[e];omega⟩,⟨by rw[e];omega⟩⟩
theorem iW{a b:Rat}(h:aU a b)(S:Nat):ag (6*S+1) (a^S):=(Kl h).pow S
theorem d5.le{a b:Rat}{ns:List Int}{m n:Nat}(h:d5 a b ns n)(e:m<=n):d5 a b ns m:=⟨h.ok,h.sz,Wb e h.bN,Wb (qT _ e) h.k⟩
theorem d5.pow{a b:Rat}{ns:List Int}{n:Nat}(h:d5 a b ns n){i:Nat}(hi:i<=n):ag 1601 ((a^ns.sum.toNat)^i):=((iW h.ok _).pow i).mono (by
 have h1:=(h.le hi).k;have h2:=vZ i (show 6*ns.sum.toNat+1<=6*ns.sum.toNat+1+1 by omega);omega)
theorem d5.aE{a b:Rat}{ns:List Int}{n:Nat}(h:d5 a b ns n){i:Nat}(hi:i<=n):ag 1601 (aE (a^ns.sum.toNat) 1 i):=(Ly (iW h.ok _) i).mono (by have:=(h.le hi).k;omega)
theorem mP{a b:Rat}{ns:List Int}(h:aU a b)(k:df ns):cO a b ns (cB (ns.length-1)):=⟨h.ba,h.bb,λn hn=>by have:=k.each n hn;omega,by rw[rZ];have:=k.some;omega,by have:=k.bN;omega,⟨1,oQ _,by have:=k.bN;have:=k.upTo;omega⟩⟩
theorem Bm{a b:Rat}{ns:List Int}(h:aU a b)(k:df ns):Cm 185 (dh a b ns):=(CZ (ns:=ns) h.ba h.bb (oQ (ns.length-1))).mono (by have:=k.bN;have:=k.upTo;omega)
theorem yc{a b:Rat}{ns:List Int}(h:aU a b)(k:df ns)(i:Nat):ag 185 ((dh a b ns).getD i 0):=(Bm h k).get i
theorem df.nn{ns:List Int}(k:df ns):∀n∈ns,0<=n:=λn hn=>by have:=k.each n hn;omega
theorem df.pos{ns:List Int}(k:df ns):1<=ns.sum/\ns.sum<=8:=by
 refine⟨?_,k.sum⟩;have h1:=yH k.nn;have h2:=k.some
 match ns,h2,k.each with
 | n::ns,_,he =>
  have:=he n (wC ..);rw[w8,WT]at h1;omega
theorem rH{a b:Rat}(h:aU a b){S:Nat}(hS:1<=S):a^S=1 ↔ a=1:=by
 obtain⟨m,rfl⟩:∃m,S=m+1:=⟨S-1,by omega⟩
 constructor
 ·intro e
  by_cases z:a<1
  ·have:=ztG h.a0 z m
   rw[e]at this;exact absurd this (by grind)
  ·by_cases y:a=1
   ·exact y
   ·have z3:1<a:=ql (W9.mp z) (Wo y)
    have:=zuw z3 m;rw[e]at this;exact absurd this (by grind)
 ·intro e
  rw[e,GM.one_pow']
theorem zvL{a b:Rat}{ns:List Int}(hF:a^ns.sum.toNat≠1){i:Nat}(hi:i<(cZ a b ns).length):(cZ a b ns).getD i 0*(1-a^ns.sum.toNat)=(dh a b ns).getD i 0:=by
 rw[Mr hi];exact WL (λe=>hF (by grind))
theorem zzY{a b:Rat}(h:aU a b)(S n:Nat):ag ((6*S+3)*n+1) ((a^S)^n):=((iW h S).pow n).mono (by have:=vZ n (show 6*S+1<=6*S+3 by omega);omega)
theorem SA{a b:Rat}(h:aU a b)(S n:Nat):ag ((6*S+3)*n+1) (aE (a^S) 1 n):=(Ly (iW h S) n).mono (by have:=vZ n (show 6*S+1+1<=6*S+3 by omega);omega)
def Px(K:wa):Sp:=λvs H Q _=>∃x0 x1 x2,vs=[x0,x1,x2] /\ ∃(F:Rat)(n:Int)(xs ss:List Rat),x2=.int n/\Is K H x0 (.tuple [N F,TN ss])/\Is K H x1 (TN xs)/\0<=n/\n<=64/\ss.length=xs.length/\xs.length<=50/\ag 2000 F/\(∀i,i<=n.toNat->ag 2000 (F^i))/\(∀i,i<=n.toNat->ag 2000 (aE F 1 i))/\(∀i,ag 6900 (xs.getD i 0))/\(∀i,ag 6900 (ss.getD i 0)) /\ ∀v H',ah H H'->Is K H' v (TN ((wq xs.length).map λi=>fD F (ss.getD i 0) n.toNat (xs.getD i 0)))->Q v H'
theorem Lx{K:wa}{H:Hp}{Q:VK}{E:XK}{F:Rat}{n:Int}{xs ss:List Rat}{v w:V}(h0:Is K H v (.tuple [N F,TN ss]))(h1:Is K H w (TN xs))(n0:0<=n)(n1:n<=64)(hl:ss.length=xs.length)(hf:xs.length<=50)(b0:ag 2000 F)(b1:∀i,i<=n.toNat->ag 2000 (F^i))(b2:∀i,i<=n.toNat->ag 2000 (aE F 1 i))(b3:∀i,ag 6900 (xs.getD i 0))(b4:∀i,ag 6900 (ss.getD i 0))(q:∀v H',ah H H'->Is K H' v (TN ((wq xs.length).map λi=>fD F (ss.getD i 0) n.toNat (xs.getD i 0)))->Q v H'):Px K [v,w,.int n] H Q E:=⟨_,_,_,rfl,F,n,xs,ss,rfl,h0,h1,n0,n1,hl,hf,b0,b1,b2,b3,b4,q⟩
theorem PU(T:Txt K mg a):aH P w K mg base aQ 4 a.Jn a.HW s_ (Px K):=by
 refine T.Al.F.ok SR ?_ ?_;wtm_at "b3"
 refine⟨_,(ar (az 3 SR.nd (ao (yZ T) hr T.nR (ae (br (ae (aj (pv 0)) (ae (bZ (v:=.ref a.dN) rfl T.eU rfl) af))) (ae (pv 2) af))))
     (av (aB (ao (MV T) hr T.Aj (by exact(@ae _ _ _ _ _ (pv 0) (@ae _ _ _ _ _ (pv 1) (@ae _ _ _ _ _ (aj (pv 3)) (@ae _ _ _ _ _ (aj (pv 3)) af fk) fk) fE) fE)))))),?_⟩
 wtm_at "cl";rw[show start SX [x0,x1,x2]=[some x0,some x1,some x2,none]from rfl];obtain⟨F,n,xs,ss,rfl,h0,h1,n0,n1,hl,hf,b0,b1,b2,b3,b4,q⟩:=h;o_head aA (j:=0) h0 rfl (λv1 i1=>?_);o_head BB i1 (d8 1 (T.rC _) rfl rfl) (λv2 H2 S2 i2=>?_);o_head Pz i2 (b0.mono (by decide)) (ag.one.mono (by decide)) n0 n1 (λi hi=>(b1 i hi).mono (by decide)) (λi hi=>(b2 i hi).mono (by decide)) (λv3 H3 S3 i3=>?_);k_few;rename_i v4 i4 v5 i5;have T3:=S2.trans S3;refine ON (h0.by T3) (h1.by T3) i4 i5 hl hf (b1 _ (wo _)) (b2 _ (wo _)) b3 b4 (λv6 H6 S6 i6=>?_);exact q v6 H6 (T3.trans S6) i6
def Mt(K:wa):Sp:=λvs H Q _=>∃x0 x1 x2 x3,vs=[x0,x1,x2,x3] /\ ∃(ra rb:Rat)(ns:List Int)(xs:List Rat)(n:Int),x3=.int n/\Is K H x0 (R ra rb)/\Is K H x1 (TZ ns)/\Is K H x2 (TN xs)/\ns.length=xs.length+1/\0<=n/\d5 ra rb ns n.toNat/\(∀i,ag 6900 (xs.getD i 0)) /\ ∀v H',ah H H'->Is K H' v (TN (cP ra rb ns n.toNat xs))->Q v H'
theorem Ml{K:wa}{H:Hp}{Q:VK}{E:XK}{ra rb:Rat}{ns:List Int}{xs:List Rat}{n:Int}{v w u:V}(h0:Is K H v (R ra rb))(h1:Is K H w (TZ ns))(h2:Is K H u (TN xs))(hl:ns.length=xs.length+1)(n0:0<=n)(ok:d5 ra rb ns n.toNat)(b:∀i,ag 6900 (xs.getD i 0))(q:∀v H',ah H H'->Is K H' v (TN (cP ra rb ns n.toNat xs))->Q v H'):Mt K [v,w,u,.int n] H Q E:=⟨_,_,_,_,rfl,ra,rb,ns,xs,n,rfl,h0,h1,h2,hl,n0,ok,b,q⟩
theorem Rr(T:Txt K mg a):aH P w K mg base aQ 8 a.FO a.Fp tK (Mt K):=by
 refine T.z6.F.ok zlj ?_ ?_;wtm_at "b4";refine⟨_,(av (aB (ao (PU T) hr T.Al (ae (ao (og T) hr T.lW (ae (pv 0) (ae (pv 1) af))) (ae (pv 2) (ae (pv 3) af)))))),?_⟩;wtm_at "cl";rw[show start AY [x0,x1,x2,x3]=[some x0,some x1,some x2,some x3]from rfl];obtain⟨ra,rb,ns,xs,n,rfl,hr',hn',hx',hl,n0,ok,bx,q⟩:=h;have h8:=ok.sz.bN;have hp:=ok.sz.pos;have hn60:=ok.bN;o_head oP hr' hn' (mP ok.ok ok.sz) (by omega) (by omega) (λv1 H1 S1 i1=>?_);o_head Lx (ss:=dh ra rb ns) i1 (hx'.by S1) n0 (by omega) (by rw[mC (by omega)];omega) (by omega) (by have:=ok.sz.sum;exact(iW ok.ok _).mono (by omega)) (λi hi=>(ok.pow hi).mono (by decide)) (λi hi=>(ok.aE hi).mono (by decide)) bx (λi=>(yc ok.ok ok.sz i).mono (by decide)) (λv2 H2 S2 i2=>?_);exact q v2 H2 (S1.trans S2) i2
theorem MP{k:Nat}{F:Rat}(h:ag k F):∀i:Nat,∃U:Int,GM.sumTo (aE F 1) i=wu U ((F.den:Int)^i)/\Bd ((k+2)*i+2) U
 | 0=>⟨0,by simp[GM.sumTo],⟨by simp⟩⟩
 | i+1=>by
  obtain⟨U,e,bU⟩:=MP h i;obtain⟨T,e2,bT,bd⟩:=zR h i;have hd:(F.den:Int)^i≠0:=VM (gJ F);have hd1:(F.den:Int)^(i+1)≠0:=VM (gJ F);have ed:(F.den:Int)^(i+1)=(F.den:Int)^i*(F.den:Int):=Vy ..;have h1:(k+2)*(i+1)=(k+2)*i+(k+2):=qj ..;have h2:(k+1)*i<=(k+2)*i:=vZ i (by omega);refine⟨(U+T)*(F.den:Int),?_,((bU.add bT).mul h.b).mono (by omega)⟩
  symm
  refine f_ hd1 ?_;have k1:=cH U hd;have k2:=cH T hd;have e3:(((U+T)*(F.den:Int):Int):Rat)=((U:Rat)+(T:Rat))*((F.den:Int):Rat):=by rw[vJ,qa]
  rw[GM.sumTo,e,e2,ed,vJ,e3,<- k1,<- k2]
  grind
theorem Oe{k:Nat}{F:Rat}(h:ag k F)(i:Nat):ag ((k+2)*i+2) (GM.sumTo (aE F 1) i):=by
 obtain⟨U,e,bU⟩:=MP h i;obtain⟨T,e2,bT,bd⟩:=zR h i;rw[e];exact ag.divInt (VM (gJ F)) bU (bd.mono (by have:=vZ i (show k<=k+2 by omega);omega))
theorem d5.sums{a b:Rat}{ns:List Int}{n:Nat}(h:d5 a b ns n){i:Nat}(hi:i<=n):ag 1662 (GM.sumTo (GM.aE (a^ns.sum.toNat) 1) i):=(Oe (iW h.ok _) i).mono (by
 have h1:=(h.le hi).k;have h2:=(h.le hi).bN;have e:(6*ns.sum.toNat+1+2)*i=(6*ns.sum.toNat+1+1)*i+i:=by rw[<- qi]
 omega)
theorem zzZ(F s x:Rat)(n:Nat):GM.sumTo (λk=>fD F s k x) n=aE F 1 n*x+GM.sumTo (aE F 1) n*s:=by
 unfold fD;rw[RF]
 have e1:GM.sumTo (λk=>F^k*x) n=aE F 1 n*x:=by
  rw[<- Kr F n,qr,<- Et];exact uW n λk _=>qr ..
 have e2:GM.sumTo (λk=>aE F 1 k*s) n=GM.sumTo (aE F 1) n*s:=by
  rw[qr (GM.sumTo (aE F 1) n) s,<- Et];exact uW n λk _=>qr ..
 rw[e1,e2]
def Na(K:wa):Sp:=λvs H Q _=>∃x0 x1 x2,vs=[x0,x1,x2] /\ ∃(a b:Rat)(ns:List Int)(n:Int)(xs:List Rat),x2=.int n/\Is K H x0 (.tuple [N (a^ns.sum.toNat),TN (dh a b ns)])/\Is K H x1 (TN xs)/\0<=n/\d5 a b ns n.toNat/\ns.length=xs.length+1/\(∀i,ag 6900 (xs.getD i 0)) /\ ∀v H',ah H H'->Is K H' v (TN (fY (aE (a^ns.sum.toNat) 1 n.toNat) (GM.sumTo (aE (a^ns.sum.toNat) 1) n.toNat) xs (dh a b ns)))->Q v H'
theorem U9{K:wa}{H:Hp}{Q:VK}{E:XK}{a b:Rat}{ns:List Int}{n:Int}{xs:List Rat}{v w:V}(h0:Is K H v (.tuple [N (a^ns.sum.toNat),TN (dh a b ns)]))(h1:Is K H w (TN xs))(n0:0<=n)(ok:d5 a b ns n.toNat)(hl:ns.length=xs.length+1)(bx:∀i,ag 6900 (xs.getD i 0))(q:∀v H',ah H H'->Is K H' v (TN (fY (aE (a^ns.sum.toNat) 1 n.toNat) (GM.sumTo (aE (a^ns.sum.toNat) 1) n.toNat) xs (dh a b ns)))->Q v H'):Na K [v,w,.int n] H Q E:=⟨_,_,_,rfl,a,b,ns,n,xs,rfl,h0,h1,n0,ok,hl,bx,q⟩
theorem ZN(T:Txt K mg a):aH P w K mg base aQ 4 a.FG a.Fn ya (Na K):=by
 refine T.Fv.F.ok mU ?_ ?_;wtm_at "b3"
 refine⟨_,(ar (az 3 mU.nd (bZ (v:=.ref a.de) rfl T.dD rfl))
     (ar (az 4 mU.nd (bZ (v:=.ref a.de) rfl T.dD rfl))
     (ar (gz vE rfl (j5 rfl T.z_range (ae (pv 2) af)) (bR (i:=5) mU.nd rfl (Or.inl rfl)) (ar (az 4 mU.nd (ao (fH T) hr T.fe (ae (pv 4) (ae (pv 3) af))))
     (av (az 3 mU.nd (ao (fH T) hr T.fe (ae (ao (kq T) hr T.jt (ae (aj (pv 0)) (ae (pv 3) af))) (ae (bZ (v:=.ref a.dN) rfl T.eU rfl) af)))))))
     (av (aB (ao (MV T) hr T.Aj (by exact(@ae _ _ _ _ _ (pv 0) (@ae _ _ _ _ _ (pv 1) (@ae _ _ _ _ _ (pv 3) (@ae _ _ _ _ _ (pv 4) af fE) fE) fE) fE)))))))),?_⟩
 wtm_at "cl";rw[show start R8 [x0,x1,x2]=[some x0,some x1,some x2,none,none,none]from rfl];obtain⟨ra,rb,ns,n,xs,rfl,h0,h1,n0,ok,hl,bx,q⟩:=h;have h8:=ok.sz.bN;have h60:=ok.bN;have bF:ag 49 (ra^ns.sum.toNat):=(iW ok.ok _).mono (by have:=ok.sz.sum;omega);generalize hF:ra^ns.sum.toNat=F at *;o_head lU (n:=n) (by omega) (by omega) (λi σ H'=>∃(f g:V)(o:Option V),σ = [some x0,some x1,some (.int n),some f,some g,o]/\ah H H'/\Is K H' f (N (aE F 1 i))/\Is K H' g (N (GM.sumTo (aE F 1) i))) ⟨_,_,_,rfl,ah.refl H,d8 0 (T.eT _) rfl rfl,d8 0 (T.eT _) rfl rfl⟩ ?_ ?_
 . rintro i σ H' hi ⟨f,g,o,rfl,S1,hf,hg⟩
   have h01:=h0.by S1;have bf:ag 1601 (aE F 1 i):=by rw[<- hF];exact ok.aE (by omega)
   have bg:ag 1662 (GM.sumTo (aE F 1) i):=by rw[<- hF];exact ok.sums (by omega)
   have bm:ag 1700 (F*aE F 1 i):=(bF.mul bf).mono (by decide);k_few;rename_i v2 H2 S2 i2;refine aA (j:=0) (h01.by S2) rfl (λv3 i3=>?_);have hf2:=hf.by S2;k_few;rename_i v4 H4 S4 i4 v5 H5 S5 i5;exact⟨_,_,_,rfl,S1.trans (S2.trans (S4.trans S5)),i5,i2.by (S4.trans S5)⟩
 . rintro σ H' ⟨f,g,o,rfl,S1,hf,hg⟩
   have bf:ag 2000 (aE F 1 n.toNat):=by rw[<- hF];exact(ok.aE (wo _)).mono (by decide)
   have bg:ag 2000 (GM.sumTo (aE F 1) n.toNat):=by rw[<- hF];exact(ok.sums (wo _)).mono (by decide)
   o_head ON (h0.by S1) (h1.by S1) hf hg (by rw[mC (by omega)];omega) (by omega) bf bg bx (λi=>(yc ok.ok ok.sz i).mono (by decide)) (λv2 H2 S2 i2=>?_);exact q v2 H2 (S1.trans S2) i2
theorem N7{m j c d:Nat}{p q:Rat}{xs ss:List Rat}(hx:Cm m xs)(hs:Cm j ss)(bp:ag c p)(bq:ag d q):Cm (m+j+c+d+1) (fY p q xs ss):=by
 obtain⟨B,h0,h1,h2⟩:=hx;obtain⟨D,g0,g1,g2⟩:=hs;have hb:0<B*(p.den:Int)*(D*(q.den:Int)):=vI (vI h0 (den_pos p)) (vI g0 (den_pos q));refine⟨_,hb,((h1.mul bp.b).mul (g1.mul bq.b)).mono (by omega),λx hx=>?_⟩;obtain⟨i,hi,rfl⟩:=wS.mp hx;have hi:=wF.mp hi;obtain⟨u,eu,bu⟩:=h2 _ (getD_mem (d:=0) hi)
 have hv:∃v:Int,ss.getD i 0=wu v D/\Bd j v:=by
  rcases wD i ss.length with z | z
  ·exact g2 _ (getD_mem z)
  ·rw[wb,wE z]
   exact⟨0,by simp,⟨by simp;exact Wa j⟩⟩
 obtain⟨v,ev,bv⟩:=hv;refine⟨p.num*u*(D*(q.den:Int))+q.num*v*(B*(p.den:Int)),?_,(((bp.t.mul bu).mul (g1.mul bq.b)).add ((bq.t.mul bv).mul (h1.mul bp.b))).mono (by omega)⟩
 symm
 show wu _ _=p*xs.getD i 0+q*ss.getD i 0
 refine f_ (by omega) ?_;have k1:=cH u (show B≠0 by omega);have k2:=cH v (show D≠0 by omega);have k3:=jR p;have k4:=jR q;rw[eu,ev];simp only[qa,vJ];rw[<- k1,<- k2,<- k3,<- k4];generalize wu u B=y;generalize wu v D=z;generalize (B:Rat)=B';generalize (D:Rat)=D';generalize ((p.den:Int):Rat)=P';generalize ((q.den:Int):Rat)=Q'
 grind
theorem zBY{a b:Rat}{ns:List Int}{xs:List Rat}{n m:Nat}(ok:d5 a b ns n)(c:Cm m xs):Cm (m+188+2*((6*ns.sum.toNat+3)*n)) (cP a b ns n xs):=(N7 c (Bm ok.ok ok.sz) (zzY ok.ok _ n) (SA ok.ok _ n)).mono (by omega)
def oo(a b:Rat)(ns:List Int)(xs:List Rat)(n:Nat):Rat:=GM.sumTo (λk=>fm a b ns (cP a b ns k xs)) n
def iB(a b:Rat)(ns:List Int)(xs:List Rat)(n:Nat):List Rat:=(fY (aE (a^ns.sum.toNat) 1 n) (GM.sumTo (aE (a^ns.sum.toNat) 1) n) xs (dh a b ns)).map λt=>t / ((n:Int):Rat)
theorem NJ(a b:Rat)(ns:List Int)(xs:List Rat)(n:Nat):(iB a b ns xs n).length=xs.length:=by unfold iB;rw[wm,mJ]
theorem Cd{n:Nat}(h:1<=n):((n:Int):Rat)≠0:=λe=>by
 have:=WX.mp e;omega
theorem Mw{a b:Rat}{ns:List Int}{xs:List Rat}{n i:Nat}(hi:i<xs.length):(iB a b ns xs n).getD i 0=(fY (aE (a^ns.sum.toNat) 1 n) (GM.sumTo (aE (a^ns.sum.toNat) 1) n) xs (dh a b ns)).getD i 0 / ((n:Int):Rat):=by
 unfold iB;rw[wb,wt,wc (by rw[mJ];exact hi),wb,wc (by rw[mJ];exact hi)]
 rfl
theorem zsw{a b:Rat}{ns:List Int}{xs:List Rat}(hl:ns.length=xs.length+1){n:Nat}(h1:1<=n):((n:Int):Rat)*fm a b ns (iB a b ns xs n)=oo a b ns xs n:=by
 unfold oo;refine RP hl (λk=>cP a b ns k xs) (λk=>dG ..) n _ h1 (NJ ..) λi hi=>?_
 rw[Mw hi,WL (Cd h1),KG hi,<- zzZ];exact uW n λk _=>(kF hi).symm
theorem O0{n:Nat}(h:n<=60):ag 6 ((n:Int):Rat):=by
 have e:(2:Nat)^6=64:=by decide
 exact⟨⟨by rw[XO,e];omega⟩,⟨by rw[XQ];decide⟩⟩
theorem zxb{a b:Rat}(h:aU a b)(S n:Nat):ag ((6*S+3)*n+2) (GM.sumTo (aE (a^S) 1) n):=Oe (iW h S) n
theorem Nu{a b:Rat}{ns:List Int}{xs:List Rat}{n m:Nat}(ok:d5 a b ns n)(c:Cm m xs):Cm (m+189+2*((6*ns.sum.toNat+3)*n)) (fY (aE (a^ns.sum.toNat) 1 n) (GM.sumTo (aE (a^ns.sum.toNat) 1) n) xs (dh a b ns)):=(N7 c (Bm ok.ok ok.sz) (SA ok.ok _ n) (zxb ok.ok _ n)).mono (by omega)
theorem UC{a b:Rat}{ns:List Int}{xs:List Rat}{n m:Nat}(ok:d5 a b ns n)(h1:1<=n)(c:Cm m xs):Cm (m+195+2*((6*ns.sum.toNat+3)*n)) (iB a b ns xs n):=by
 unfold iB;exact(Oo (Nu ok c) (O0 ok.bN) (Cd h1)).mono (by omega)
def RE(K:wa):Sp:=λvs H Q _=>∃x0 x1 x2 x3,vs=[x0,x1,x2,x3] /\ ∃(ra rb:Rat)(ns:List Int)(xs:List Rat)(n:Int)(m:Nat),x3=.int n/\Is K H x0 (R ra rb)/\Is K H x1 (TZ ns)/\Is K H x2 (TN xs)/\ns.length=xs.length+1/\0<=n/\d5 ra rb ns n.toNat/\Cm m xs/\m+2*((6*ns.sum.toNat+3)*n.toNat)<=6700 /\ ∀v H',ah H H'->Is K H' v (N (oo ra rb ns xs n.toNat))->Q v H'
theorem zn5{K:wa}{H:Hp}{Q:VK}{E:XK}{ra rb:Rat}{ns:List Int}{xs:List Rat}{n:Int}{m:Nat}{v w u:V}(h0:Is K H v (R ra rb))(h1:Is K H w (TZ ns))(h2:Is K H u (TN xs))(hl:ns.length=xs.length+1)(n0:0<=n)(ok:d5 ra rb ns n.toNat)(c:Cm m xs)(hm:m+2*((6*ns.sum.toNat+3)*n.toNat)<=6700)(q:∀v H',ah H H'->Is K H' v (N (oo ra rb ns xs n.toNat))->Q v H'):RE K [v,w,u,.int n] H Q E:=⟨_,_,_,_,rfl,ra,rb,ns,xs,n,m,rfl,h0,h1,h2,hl,n0,ok,c,hm,q⟩
theorem zAn{K:wa}{H:Hp}{Q:VK}{n:Int}(q:∀v H',ah H H'->Is K H' v (N (n:Rat))->Q v H'):lT K [.int n,.int 1] H Q:=eY (r:=(n:Rat)) (XO n).symm (by rw[XQ];rfl) q
theorem ZG(T:Txt K mg a):aH P w K mg base aQ 8 a.Gx a.FK yf (RE K):=by
 refine T.FZ.F.ok Ax ?_ ?_;wtm_at "b4"
 refine⟨_,(ar (bD (bW jF (pv 3) ay (aZ _)) (av (aB (bZ (v:=.ref a.de) rfl T.dD rfl))) bA)
     (ar (az 4 Ax.nd (br (ae (pv 3) (ae ay af))))
     (ar (az 5 Ax.nd (dY (show aP _ (.type "tuple") (eA K)from fz) rfl T.z_tuple dR (ae (dU rfl (cC.by (N':=["total","count"]) (src:=[none,some 4]) rfl (show cS _ (aC uI).names DR ["total","count"] [none,some 4]=true from by decide +kernel)) (jd (ao (ZN T) hr T.Fv (ae (ao (og T) hr T.lW (ae (pv 0) (ae (pv 1) af))) (ae (pv 2) (ae (pv 3) af))))) (λ_ _ _ _ _=>(bR (i:=0) (show(["total","count"]:List Str).Nodup from by decide) rfl (Or.inl rfl))) (λ_ _ _ _ _=>du) (λ_ _ _ _ _=>(ao (Lq (K:=K) (mg:=mg) (a:=a) T) hr T.Ar (ae (pv 0) (ae (pv 1) af))))) af)))
     (av (aB (ao (kq T) hr T.jt (ae (pv 4) (ae (ao (zoy T) hr T.Gn (ae (pv 0) (ae (pv 1) (ae (pv 5) af)))) af)))))))),?_⟩
 wtm_at "cl";rw[show start DR [x0,x1,x2,x3]=[some x0,some x1,some x2,some x3,none,none]from rfl];obtain⟨ra,rb,ns,xs,n,m,rfl,hr',hn',hx',hl,n0,ok,c,hm,q⟩:=h;have h8:=ok.sz.bN;have hp:=ok.sz.pos;have h60:=ok.bN;have hu:=ok.sz.upTo;obtain⟨n,rfl⟩:∃j:Nat,n=(j:Int):=⟨n.toNat,by omega⟩;rw[wP]at q ok h60 hm;k_few
 . rename_i z
   have hz:n=0:=by omega
   subst hz;exact q _ H (ah.refl _) (d8 0 (T.eT _) rfl rfl)
 . rename_i z
   have h1n:1<=n:=by omega
   have cM:=UC ok h1n c;have hml:=NJ ra rb ns xs n;have hne:=Cd h1n;have bn:ag 6 ((n:Int):Rat):=O0 h60;refine zAn (λv1 H1 S1 i1=>?_);o_head oP (hr'.by S1) (hn'.by S1) (mP ok.ok ok.sz) (by omega) (by omega) (λv2 H2 S2 i2=>?_);have T2:=S1.trans S2;o_head U9 (a:=ra) (b:=rb) (ns:=ns) i2 (hx'.by T2) (by omega) (by rw[wP];exact ok) hl (λi=>(c.get i).mono (by omega)) (λv3 H3 S3 i3=>?_);rw[wP]at i3;have i13:=i1.by (S2.trans S3);obtain⟨a3,us,rfl,hs3,t3⟩:=bX.mp i3;have hul:=t3.length;rw[wm,mJ]at hul;have bw:∀i,ag 8100 ((fY (aE (ra^ns.sum.toNat) 1 n) (GM.sumTo (aE (ra^ns.sum.toNat) 1) n) xs (dh ra rb ns)).getD i 0):=λi=>((Nu ok c).get i).mono (by omega)
   o_head h9 hs3 (o0:=none) (tl:=[some v1]) rfl (λj y H'=>Is K H' y (N ((iB ra rb ns xs n).getD j 0))) ?_ ?_
   . intro D j x ys o H4 hx inv
     obtain⟨hj,ix⟩:=dk t3 hx;rw[mJ]at hj;o_head PH (ix.by inv.same) (i13.by inv.same) ((bw j).mono (by decide)) (bn.mono (by decide)) hne (λv5 H5 S5 i5=>?_);rw[<- Mw hj]at i5;exact dZ inv (by omega) fJ ⟨_,rfl⟩ S5 i5
   . intro D ys H4 hn4 S4 e4 hl4 hr4
     have tz:au K H4 ys ((iB ra rb ns xs n).map N):=fL (by rw[hl4,hul,hml]) hr4;o_head gY (dm e4 tz) (λv5 H5 S5 i5=>?_);have T5:=T2.trans (S3.trans (S4.trans S5));have rok:cO ra rb ns (iB ra rb ns xs n):=⟨ok.ok.ba,ok.ok.bb,λk hk=>by have:=ok.sz.each k hk;omega,by rw[hml];exact hl,by omega,⟨_,cM,by omega⟩⟩;o_head zoE (hr'.by T5) (hn'.by T5) i5 rok cM (by omega) (λv6 H6 S6 i6=>?_);have bt:ag 8000 (fm ra rb ns (iB ra rb ns xs n)):=(NX rok cM (by omega) (wo _)).dH (wC ..);have i16:=i13.by (S4.trans (S5.trans S6));k_few;rename_i v7 H7 S7 i7;rw[zsw hl h1n]at i7;exact q v7 H7 (T5.trans (S6.trans S7)) i7
def mf(ts:List Rat):List Bool:=ts.map λx=>decide (1<x)
theorem Y5{ts:List Rat}{i:Nat}(h:i<ts.length):(mf ts).getD i true=decide (1<ts.getD i 0):=by
 unfold mf;rw[wb,wt,wb,wc h]
 rfl
def p7(a b:Rat)(ns:List Int):Bool:=!((mf (e_ a b ns (cZ a b ns))).any id)
theorem zr5{a b:Rat}{ns:List Int}(h:aU a b)(k:df ns)(hF:a^ns.sum.toNat≠1):cO a b ns (cZ a b ns):=⟨h.ba,h.bb,λn hn=>by have:=k.each n hn;omega,by rw[zE k.some];have:=k.some;omega,by have:=k.bN;omega,⟨268,zw7 h.ba h.bb k.bN k.upTo (by have:=k.sum;omega) hF,by have:=k.bN;have:=k.upTo;omega⟩⟩
def JD(K:wa):Sp:=λvs H Q _=>∃x0 x1,vs=[x0,x1] /\ ∃(a b:Rat)(ns:List Int),Is K H x0 (R a b)/\Is K H x1 (TZ ns)/\aU a b/\df ns/\a≠1 /\ ∀H',ah H H'->Q (.bl (p7 a b ns)) H'
theorem Ky{K:wa}{H:Hp}{Q:VK}{E:XK}{a b:Rat}{ns:List Int}{v w:V}(h1:Is K H v (R a b))(h2:Is K H w (TZ ns))(ok:aU a b)(sz:df ns)(ha:a≠1)(q:∀H',ah H H'->Q (.bl (p7 a b ns)) H'):JD K [v,w] H Q E:=⟨_,_,rfl,a,b,ns,h1,h2,ok,sz,ha,q⟩
theorem J9(T:Txt K mg a):aH P w K mg base aQ 9 a.Gd a.FA tI (JD K):=by
 refine T.z_.F.ok YW ?_ ?_;wtm_at "b2";refine⟨_,(av (aB (mK (bP (show aP _ (.builtin "any") (A2 K)from Uw rfl) rfl T.z_any zCJ (ae (dU rfl (cC.by (N':=["top"]) (src:=[none]) rfl (show cS _ (aC yY).names tU ["top"] [none]=true from by decide +kernel)) (jd (ao (M4 T) hr T.As (ae (pv 0) (ae (pv 1) (ae (ao (Pg T) hr T.Ap (ae (pv 0) (ae (pv 1) af))) af))))) (λ_ _ _ _ _=>(bR (i:=0) (show(["top"]:List Str).Nodup from by decide) rfl (Or.inl rfl))) (λ_ _ _ _ _=>du) (λ_ _ _ _ _=>(ao (fO (K:=K) (mg:=mg) (a:=a) T) hr T.fv (ae (bZ (v:=.ref a.dN) rfl T.eU rfl) (ae (pv 0) af))))) af))))),?_⟩;wtm_at "cl";rw[show start tU [x0,x1]=[some x0,some x1]from rfl];obtain⟨ra,rb,ns,hr',hn',ok,sz,ha,q⟩:=h;have h8:=sz.bN;have hps:=sz.pos;have hF:ra^ns.sum.toNat≠1:=λe=>ha ((rH ok (by omega)).mp e)
 have rok:=zr5 ok sz hF;o_head Kj hr' hn' (mP ok sz) (by omega) (by omega) (λe=>absurd e hF) (λ_ v1 H1 S1 i1=>?_);o_head Rw (hr'.by S1) (hn'.by S1) i1 rok (λv2 H2 S2 i2=>?_);obtain⟨a2,us,rfl,hs2,t2⟩:=bX.mp i2;have hl2:=t2.length;rw[wm,iX]at hl2;refine h9 hs2 (o0:=none) (tl:=[]) rfl (λi v H=>v=V.bl ((mf (e_ ra rb ns (cZ ra rb ns))).getD i true)) ?_ ?_
 ·rintro D i x ys o H3 hx inv
  obtain⟨hi,ix⟩:=dk t2 hx;rw[iX]at hi;have ix3:=ix.by inv.same;have b1:=Sm rok hi;have b2:ag 1 1:=ag.one;k_few;exact dZ inv (by omega) (λ_ _ _ _ _ h=>h) ⟨_,rfl⟩ (ah.refl _) (by rw[Y5 (by rw[iX];exact hi)])
 ·rintro D ys H3 hn3 S3 e3 hl3 hr3
  have hz:=uC (bs:=mf (e_ ra rb ns (cZ ra rb ns))) (by unfold mf;rw[wm,iX];omega) hr3;rw[hz]at e3;o_head zzm (.of e3) ?_;k_few;exact q _ (S1.trans (S2.trans S3))
def nE(ss:List Rat):List Bool:=ss.map λs=>decide (s=0)
theorem zwD{ts:List Rat}{i:Nat}(h:i<ts.length):(nE ts).getD i true=decide (ts.getD i 0=0):=by
 unfold nE;rw[wb,wt,wb,wc h]
 rfl
def eK(a b:Rat)(ns:List Int)(xs:List Rat):Bool:=if 1<a then decide (xs=cZ a b ns)else if a=1 then(nE (dh a b ns)).all id else p7 a b ns
def Pq(K:wa):Sp:=λvs H Q _=>∃x0 x1 x2,vs=[x0,x1,x2] /\ ∃(a b:Rat)(ns:List Int)(xs:List Rat),Is K H x0 (R a b)/\Is K H x1 (TZ ns)/\Is K H x2 (TN xs)/\aU a b/\df ns /\ ∀H',ah H H'->Q (.bl (eK a b ns xs)) H'
theorem zoD{K:wa}{H:Hp}{Q:VK}{E:XK}{a b:Rat}{ns:List Int}{xs:List Rat}{v w u:V}(h1:Is K H v (R a b))(h2:Is K H w (TZ ns))(h3:Is K H u (TN xs))(ok:aU a b)(sz:df ns)(q:∀H',ah H H'->Q (.bl (eK a b ns xs)) H'):Pq K [v,w,u] H Q E:=⟨_,_,_,rfl,a,b,ns,xs,h1,h2,h3,ok,sz,q⟩
theorem zoH(T:Txt K mg a):aH P w K mg base aQ 10 a.Hx a.FQ yN (Pq K):=by
 refine T.Gk.F.ok RG ?_ ?_;wtm_at "b3"
 refine⟨_,(ar (az 3 RG.nd (ao (NL T) hr T.Aq (ae (pv 0) af)))
     (ar (bD (bW (show aK _ (wJ .Eq) (cu K)from dq hu) (pv 3) gE (aZ _)) (av (aB (d9 (show aK _ (wJ .Eq) (cu K)from dq hu) (dY (show aP _ (.type "tuple") (eA K)from fz) rfl T.z_tuple dR (ae (pv 2) af)) (ao (Pg T) hr T.Ap (ae (pv 0) (ae (pv 1) af))) (aZ _)))) bA)
     (ar (bD (bW (show aK _ (wJ .Eq) (cu K)from dq hu) (pv 3) gE (aZ _)) (av (aB (bP (show aP _ (.builtin "all") (kz K)from mO rfl) rfl T.z_all mR (ae (dU rfl (cC.by (N':=["shift"]) (src:=[none]) rfl (show cS _ (aC uB).names Ff ["shift"] [none]=true from by decide +kernel)) (jd (aj (ao (og T) hr T.lW (ae (pv 0) (ae (pv 1) af))))) (λ_ _ _ _ _=>(bR (i:=0) (show(["shift"]:List Str).Nodup from by decide) rfl (Or.inl rfl))) (λ_ _ _ _ _=>du) (λ_ _ _ _ _=>(d9 (show aK _ (wJ .Eq) (cu K)from dq hu) (pv 0) (bZ (v:=.ref a.de) rfl T.dD rfl) (aZ _)))) af)))) bA)
     (av (aB (ao (J9 T) hr T.z_ (ae (pv 0) (ae (pv 1) af)))))))),?_⟩
 wtm_at "cl";rw[show start Ff [x0,x1,x2]=[some x0,some x1,some x2,none]from rfl];obtain⟨ra,rb,ns,xs,hr',hn',hx',ok,sz,q⟩:=h;have h8:=sz.bN;have h1:=sz.some;have hps:=sz.pos;o_head LU hr' (ok.ba.mono (by decide)) ?_;unfold oU;unfold eK at q
 by_cases z1:1<ra
 . rw[if_pos z1]at q ⊢
   have hF:ra^ns.sum.toNat≠1:=λe=>absurd ((rH ok (by omega)).mp e) (by grind)
   o_head jz _ _ true (by rw[wQ];decide) ?_;o_head Lb hx' ?_;o_head Kj hr' hn' (mP ok sz) (by omega) (by omega) (λe=>absurd e hF) (λ_ v1 H1 S1 i1=>?_);o_head C2 (hx'.by S1) i1 ?_;exact q _ S1
 . rw[if_neg z1]at q ⊢
   by_cases z2:ra=1
   . rw[if_pos z2]at q ⊢
     o_head jz _ _ false (by rw[wQ];decide) ?_;o_head jz _ _ true (by rw[wQ];decide) ?_;o_head oP hr' hn' (mP ok sz) (by omega) (by omega) (λv1 H1 S1 i1=>?_);o_head aA (j:=1) i1 rfl (λv2 i2=>?_);obtain⟨a2,us,rfl,hs2,t2⟩:=bX.mp i2;have hl2:=t2.length;rw[wm]at hl2;have hsl:(dh ra rb ns).length=ns.length-1:=mC h1;have t2:au K H1 us ((dh ra rb ns).map N):=t2;have hl2:us.length=(dh ra rb ns).length:=hl2;refine h9 hs2 (o0:=none) (tl:=[]) rfl (λi v H=>v=V.bl ((nE (dh ra rb ns)).getD i true)) ?_ ?_
     . rintro D i x ys o H3 hx inv
       obtain⟨hi,ix⟩:=dk t2 hx;have ix3:=ix.by inv.same;k_few;exact dZ inv (by omega) (λ_ _ _ _ _ h=>h) ⟨_,rfl⟩ (ah.refl _) (by rw[zwD hi])
     . rintro D ys H3 hn3 S3 e3 hl3 hr3
       have hz:=uC (bs:=nE (dh ra rb ns)) (by unfold nE;rw[wm];omega) hr3;rw[hz]at e3;o_head lA (.of e3) ?_;exact q _ (S1.trans S3)
   . rw[if_neg z2]at q ⊢
     o_head jz _ _ false (by rw[wQ];decide) ?_;o_head jz _ _ false (by rw[wQ];decide) ?_;k_few;exact Ky hr' hn' ok sz z2 q
theorem zzv{a b:Rat}{ns:List Int}{xs:List Rat}(hF:a^ns.sum.toNat≠1)(hl:ns.length=xs.length+1)(k:Nat):cP a b ns k xs=fK ((a^ns.sum.toNat)^k) (cZ a b ns) xs:=by
 have hs:(cZ a b ns).length=xs.length:=by rw[zE (by omega)];omega
 refine kK (by rw[dG,nz hs,hs]) λi hi=>?_
 rw[dG]at hi;rw[lC hs (by omega),kF hi,zyu (zvL hF (by omega))]
theorem CJ{a b:Rat}{ns:List Int}{xs:List Rat} : eW a b ns xs=true ↔ (∀i,i<xs.length+1->(dA xs).getD (i+1) 0<(dA xs).getD i 0) /\ ∀i,i<ns.length->(e_ a b ns xs).getD i 0<1:=by
 unfold eW;rw[wW,Wt,Wt]
 constructor
 ·rintro ⟨h1,h2⟩
  refine⟨λi hi=>?_,λi hi=>?_⟩
  ·have:=h1 _ (wS.mpr ⟨i,wF.mpr hi,rfl⟩)
   exact of_decide_eq_true this
  ·have:=h2 _ (wS.mpr ⟨_,getD_mem (d:=0) (show i<(e_ a b ns xs).length by rw[iX];exact hi),rfl⟩)
   exact of_decide_eq_true this
 ·rintro ⟨h1,h2⟩
  refine⟨λx hx=>?_,λx hx=>?_⟩
  ·obtain⟨i,hi,rfl⟩:=wS.mp hx
   exact decide_eq_true (h1 i (wF.mp hi))
  ·obtain⟨t,ht,rfl⟩:=wS.mp hx
   obtain⟨i,hi,rfl⟩:=wS.mp ht;have:=h2 i (wF.mp hi);rw[mj (wF.mp hi)]at this;exact decide_eq_true this
theorem Sv:∀l:List Rat,(∀i,i+1<l.length->l.getD (i+1) 0<l.getD i 0)->l.Pairwise (· > ·)
 | [],_=>.nil
 | x::l,h=>by
  have h':∀i,i+1<l.length->l.getD (i+1) 0<l.getD i 0:=λi hi=>by
   have:=h (i+1) (by simp;omega)
   simpa using this
  have hd:∀j,j<l.length->l.getD j 0<x:=λj=>by
   induction j with
   | zero=>intro hj;have:=h 0 (by simp;omega);simpa using this
   | succ j ih=>intro hj;have h3:=h' j hj;have h4:=ih (by omega);grind
  refine WM.mpr ⟨λy hy=>?_,Sv l h'⟩;obtain⟨j,hj,e⟩:=w9 hy;have:=hd j hj;rw[wb,wc hj]at this
  show y<x
  rw[<- e];exact this
theorem Yr{l:List Rat}(h:l.Pairwise (· > ·)){i:Nat}(hi:i+1<l.length):l.getD (i+1) 0<l.getD i 0:=by
 rw[wb,wb,wc hi,wc (show i<l.length by omega)];exact(Wf.mp h) i (i+1) (by omega) hi (by omega)
theorem nv(xs:List Rat)(i:Nat):(dA xs).getD (i+1) 0=(xs++[0]).getD i 0:=by
 unfold dA;rw[VR]
 rfl
theorem Lw{xs:List Rat}(h:∀i,i<xs.length+1->(dA xs).getD (i+1) 0<(dA xs).getD i 0):g_ (xs++[0])/\(xs++[0]).getD 0 0<1:=by
 have pw:(xs++[0]).Pairwise (· > ·):=Sv _ λi hi=>by
  have:=h (i+1) (by simp at hi;omega);rw[nv,nv]at this;exact this
 refine⟨⟨pw,λy hy=>?_⟩,?_⟩
 ·rcases vM.mp hy with z | z
  ·exact vK ((V3.mp pw).2.2 y z 0 (wY.mpr rfl))
  ·rw[wY.mp z];exact WB
 ·have:=h 0 (by omega)
  rw[nv]at this;exact this
theorem MZ{xs:List Rat}(pw:(xs++[0]).Pairwise (· > ·))(one:(xs++[0]).getD 0 0<1):∀i,i<xs.length+1->(dA xs).getD (i+1) 0<(dA xs).getD i 0
 | 0,_=>by rw[nv];exact one
 | i+1,hi=>by rw[nv,nv];exact Yr pw (by simp;omega)
theorem CL{a b:Rat}{ns:List Int}{xs:List Rat}(h:ns.length=xs.length+1):c6 a b ns xs++[0]=aO a b ns (xs++[0]) ns.length:=by
 have hl:=nD (a:=a) (b:=b) h;have hr:(aO a b ns (xs++[0]) ns.length).length=xs.length+1:=by rw[di];simp
 refine kK (by rw[hr,wR,hl];rfl) λi hi=>?_
 rw[wR,hl]at hi;have hi:i<xs.length+1:=hi;rcases wD i xs.length with z | z
 ·rw[Ex (by omega),Cj h z]
 ·have e:i=xs.length:=by omega
  have e2:(c6 a b ns xs++[0]).getD i 0=0:=by rw[e,<- hl];exact oq
  rw[e2,e,h,aO,gh _ _ _ _ _ _ (by rw[di];simp),if_pos rfl]
theorem SH{a b:Rat}(a0:0<a)(b0:0<=b){ns:List Int}{row:List Rat}(F:g_ row)(one:row.getD 0 0<1)(hZ:∀t,t<row.length->eD a b ns row t<1):∀i,i<=row.length->g_ (turned a b ns row i)
 | 0,_=>F
 | i+1,hi=>by
  have ih:=SH a0 b0 F one hZ i (by omega)
  have oi:(aO a b ns row i).getD i 0<1:=by
   cases i with
   | zero=>exact one
   | succ j =>
    have:=hZ j (by omega);unfold eD at this;rw[Xn (by omega)]at this;exact this
  obtain⟨x,l,ex⟩:∃x l,turned a b ns row i=x::l:=by
   cases e:turned a b ns row i with
   | nil =>
    have:=A_ a b ns row (by omega) i;rw[e]at this;simp at this;omega
   | cons x l=>exact⟨x,l,rfl⟩
  have hx:x=(aO a b ns row i).getD i 0:=by
   have:=Dl a b ns row (show i<row.length by omega);rw[ex]at this;exact this
  show g_ (lF a b (ns.getD i 0).toNat (turned a b ns row i))
  rw[ex]at ih ⊢;exact ih.step a0 b0 (by rw[hx];exact oi)
theorem zup{a b:Rat}{ns:List Int}{xs:List Rat}(ok:aU a b)(hn:ns.length=xs.length+1)(f:eW a b ns xs=true):∀i,i<(c6 a b ns xs).length+1->(dA (c6 a b ns xs)).getD (i+1) 0<(dA (c6 a b ns xs)).getD i 0:=by
 obtain⟨h1,h2⟩:=CJ.mp f;obtain⟨F,one⟩:=Lw h1;have hl:(xs++[0]).length=ns.length:=by simp[hn]
 have hZ:∀t,t<(xs++[0]).length->eD a b ns (xs++[0]) t<1:=λt ht=>by
  have:=h2 t (by omega);rw[mj (by omega)]at this;unfold eD;rw[hl];exact this
 have Fl:=SH ok.a0 ok.b0 F one hZ (xs++[0]).length (wo _);rw[hl,YY a b ns _ hl.symm,<- CL hn]at Fl;have t:=hZ (ns.length-1) (by omega);unfold eD at t;rw[hl,show ns.length-1+1=ns.length by omega,Nat.mod_self,<- CL hn]at t;exact MZ Fl.pw t
theorem zx8(c:Rat)(xs:List Rat):fK c xs xs=xs:=kK (nz rfl) λi hi=>by
 rw[nz rfl]at hi;rw[lC rfl hi]
 grind
def cz(a b:Rat)(ns:List Int)(xs:List Rat)(k:Nat):Bool:=eW a b ns (cP a b ns k xs)
theorem nY{a b:Rat}{ns:List Int}(ok:aU a b)(sz:df ns){k:Nat}(hk:k<=31):d5 a b ns k:=⟨ok,sz,by omega,by
 have h1:=sz.sum;have h2:(6*ns.sum.toNat+1+1)*k<=50*k:=vZ k (by omega);omega⟩
theorem OP{a b:Rat}{ns:List Int}{xs:List Rat}{m:Nat}(ok:aU a b)(sz:df ns)(c:Cm m xs){k:Nat}(hk:k<=31):Cm (m+188+102*k) (cP a b ns k xs):=(zBY (nY ok sz hk) c).mono (by
 have h1:=sz.sum;have h2:(6*ns.sum.toNat+3)*k<=51*k:=vZ k (by omega);omega)
theorem CM{a b:Rat}{ns:List Int}{xs:List Rat}{m:Nat}(ok:aU a b)(sz:df ns)(hn:ns.length=xs.length+1)(c:Cm m xs)(hm:m<=3700){k:Nat}(hk:k<=30):cO a b ns (cP a b ns k xs):=⟨ok.ba,ok.bb,λn hn=>by have:=sz.each n hn;omega,by rw[dG];exact hn,by have:=sz.bN;omega,⟨_,OP ok sz c (by omega),by have:=sz.bN;have:=sz.upTo;omega⟩⟩
def Bl(K:wa)(a:Ad):Sp:=λvs H Q E=>∃x0 x1 x2,vs=[x0,x1,x2] /\ ∃(ra rb:Rat)(ns:List Int)(xs:List Rat),Is K H x0 (R ra rb)/\Is K H x1 (TZ ns)/\Is K H x2 (TN xs)/\aU ra rb/\df ns/\ns.length=xs.length+1/\cO ra rb ns xs/\(eK ra rb ns xs=false->∃n:Nat,n<=30/\(n=30\/cz ra rb ns xs n=false)/\(∀k,k<=n->cO ra rb ns (cP ra rb ns k xs))/\(∀k,k<n->∀j,ag 6900 ((cP ra rb ns k xs).getD j 0))) /\
 (cz ra rb ns xs 0=false->∀H',ah H H'->Q (.int 0) H') /\
 (cz ra rb ns xs 0=true->eK ra rb ns xs=true->∀H',ah H H'->Q .bj H') /\
 (∀c:Nat,1<=c->c<=30->eK ra rb ns xs=false->(∀k,k<c->cz ra rb ns xs k=true)->cz ra rb ns xs c=false->∀H',ah H H'->Q (.int (c:Int)) H') /\
 (eK ra rb ns xs=false->(∀k,k<=30->cz ra rb ns xs k=true)->∀H',ah H H'->E (.ref a.fc) none H')
theorem UP{K:wa}{a:Ad}{H:Hp}{Q:VK}{E:XK}{ra rb:Rat}{ns:List Int}{xs:List Rat}{v w u:V}(h1:Is K H v (R ra rb))(h2:Is K H w (TZ ns))(h3:Is K H u (TN xs))(ok:aU ra rb)(sz:df ns)(hn:ns.length=xs.length+1)(r0:cO ra rb ns xs)(hb:eK ra rb ns xs=false->∃n:Nat,n<=30/\(n=30\/cz ra rb ns xs n=false)/\(∀k,k<=n->cO ra rb ns (cP ra rb ns k xs))/\(∀k,k<n->∀j,ag 6900 ((cP ra rb ns k xs).getD j 0)))
  (q0:cz ra rb ns xs 0=false->∀H',ah H H'->Q (.int 0) H')
  (q1:cz ra rb ns xs 0=true->eK ra rb ns xs=true->∀H',ah H H'->Q .bj H')
  (q2:∀c:Nat,1<=c->c<=30->eK ra rb ns xs=false->(∀k,k<c->cz ra rb ns xs k=true)->cz ra rb ns xs c=false->∀H',ah H H'->Q (.int (c:Int)) H')
  (q3:eK ra rb ns xs=false->(∀k,k<=30->cz ra rb ns xs k=true)->∀H',ah H H'->E (.ref a.fc) none H'):Bl K a [v,w,u] H Q E:=⟨_,_,_,rfl,ra,rb,ns,xs,h1,h2,h3,ok,sz,hn,r0,hb,q0,q1,q2,q3⟩
theorem znZ{K:wa}{a:Ad}{H:Hp}{Q:VK}{E:XK}{ra rb:Rat}{ns:List Int}{xs:List Rat}{m:Nat}{v w u:V}(h1:Is K H v (R ra rb))(h2:Is K H w (TZ ns))(h3:Is K H u (TN xs))(ok:aU ra rb)(sz:df ns)(hn:ns.length=xs.length+1)(c:Cm m xs)(hm:m<=3700)
  (q0:cz ra rb ns xs 0=false->∀H',ah H H'->Q (.int 0) H')
  (q1:cz ra rb ns xs 0=true->eK ra rb ns xs=true->∀H',ah H H'->Q .bj H')
  (q2:∀c:Nat,1<=c->c<=30->eK ra rb ns xs=false->(∀k,k<c->cz ra rb ns xs k=true)->cz ra rb ns xs c=false->∀H',ah H H'->Q (.int (c:Int)) H')
  (q3:eK ra rb ns xs=false->(∀k,k<=30->cz ra rb ns xs k=true)->∀H',ah H H'->E (.ref a.fc) none H'):Bl K a [v,w,u] H Q E :=
 UP h1 h2 h3 ok sz hn (by have:=CM ok sz hn c hm (k:=0) (by decide);rw[m_]at this;exact this) (λ_=>⟨30,wo 30,.inl rfl,λk hk=>CM ok sz hn c hm hk,λk hk j=>((OP ok sz c (k:=k) (by omega)).get j).mono (by omega)⟩) q0 q1 q2 q3
theorem Yl(T:Txt K mg a):aH P w K mg base (eI P w) 11 a.GO a.FI zQ (Bl K a):=by
 refine T.F6.F.mT pH ?_ ?_;wtm_at "b3"
 refine⟨_,(ar (bD (cq (cb (ao (oY T) hr T.l_ (ae (pv 0) (ae (pv 1) (ae (pv 2) af)))))) (av (aB ay)) bA)
     (ar (bD (cb (ao (zoH T) hr T.Gk (ae (pv 0) (ae (pv 1) (ae (pv 2) af))))) (av (aB fh)) bA)
     (ar (az 3 pH.nd (ao (og T) hr T.lW (ae (pv 0) (ae (pv 1) af))))
     (ar (az 4 pH.nd (pv 2))
     (ar (gz x6 rfl (Zc rfl T.z_range (ae ay (ae (aD cA (lJ rfl T.GI) ay) af))) (bR (i:=5) pH.nd rfl (Or.inl rfl)) (ar (az 4 pH.nd (ao (PU T) hr T.Al (ae (pv 3) (ae (pv 4) (ae ay af)))))
     (av (bD (cq (cb (ao (oY T) hr T.l_ (ae (pv 0) (ae (pv 1) (ae (pv 4) af)))))) (av (aB (pv 5))) bA))))
     (av (zM T.Tv rfl rfl T.Ag rT (ae gE af)))))))),?_⟩
 wtm_at "cl";rw[show start OC [x0,x1,x2]=[some x0,some x1,some x2,none,none,none]from rfl];obtain⟨ra,rb,ns,xs,hr',hn',hx',ok,sz,hn,r0,hb,q0,q1,q2,q3⟩:=h;have h8:=sz.bN;have h1:=sz.some;have hps:=sz.pos;have e0:cz ra rb ns xs 0=eW ra rb ns xs:=by unfold cz;rw[m_]
 o_head ow hr' hn' hx' r0 (λH1 S1=>?_);k_few
 . rename_i z
   exact q0 (by rw[e0];exact z) H1 S1
 . rename_i z
   have hr1:=hr'.by S1;have hn1:=hn'.by S1;have hx1:=hx'.by S1;refine zoD hr1 hn1 hx1 ok sz (λH2 S2=>?_);k_few
   . rename_i y
     exact q1 (by rw[e0];exact z) y H2 (S1.trans S2)
   . rename_i y
     have y:eK ra rb ns xs=false:=by first | exact y | exact Xq _ ▸ y
     obtain⟨n,n30,stop,rd,bd⟩:=hb y;refine oP (hr1.by S2) (hn1.by S2) (mP ok sz) (by omega) (by omega) (λv3 H3 S3 i3=>?_);have T3:ah H H3:=S1.trans (S2.trans S3);have hr3:=hr'.by T3;have hn3:=hn'.by T3;have hx3:=hx'.by T3;clear hr1 hn1 hx1 S1 S2 S3;o_head Zn ?_;o_head zus (lo:=1) (hi:=31) (by decide) (by decide) (by decide) (by decide) (λi σ H'=>∃(v:V)(o:Option V),σ = [some x0,some x1,some x2,some v3,some v,o]/\ah H3 H'/\Is K H' v (TN (cP ra rb ns i xs)) /\ ∀k,k<=i->cz ra rb ns xs k=true) ⟨_,_,rfl,ah.refl _,by rw[m_];exact hx3,λk hk=>by rw[show k=0 by omega,e0];exact z⟩ ?_ ?_
     . rintro i σ H4 hi ⟨v,o,rfl,S4,iv,fr⟩
       have hi:i<30:=hi;have i34:=i3.by S4
       have hin:i<n:=by
         rcases stop with e | e
         . omega
         . rcases wD i n with u | u
           . exact u
           . rw[fr n u]at e;cases e
       o_head Lx (ss:=dh ra rb ns) i34 iv (by decide) (by decide) (by rw[mC h1,dG];omega) (by rw[dG];omega) ((iW ok _).mono (by have:=sz.sum;omega)) (λj hj=>((nY ok sz (k:=1) (by decide)).pow hj).mono (by decide)) (λj hj=>((nY ok sz (k:=1) (by decide)).aE hj).mono (by decide)) (λj=>bd i hin j) (λj=>(yc ok sz j).mono (by decide)) (λv5 H5 S5 i5=>?_);have i5:Is K H5 v5 (TN (cP ra rb ns 1 (cP ra rb ns i xs))):=i5;rw[Ob]at i5;have T5:=S4.trans S5;o_head ow (hr3.by T5) (hn3.by T5) i5 (rd (i+1) (by omega)) (λH6 S6=>?_);have T6:=T5.trans S6;k_few
       . rename_i w
         have q:=q2 (i+1) (by omega) (by omega) y (λk hk=>fr k (by omega)) (by unfold cz;exact w) H6 (T3.trans T6);rw[show((i+1:Nat):Int)=1+(i:Int) by omega]at q;exact q
       . rename_i w
         refine⟨_,_,rfl,T6,i5.by S6,λk hk=>?_⟩;rcases wD k (i+1)with u | u
         . exact fr k (by omega)
         . have:k=i+1:=by omega
           subst this;unfold cz
           first | exact w | exact Bool.not_eq_false _ ▸ w
     . rintro σ H4 ⟨v,o,rfl,S4,iv,fr⟩
       k_few;exact⟨by simp;decide,q3 y (λk hk=>fr k hk) H4 (T3.trans S4)⟩
def Li(K:wa):Sp:=λvs H Q _=>∃x0 x1,vs=[x0,x1] /\ ∃(h:Rat)(xs:List Rat)(ds:List wy),Is K H x0 (.tuple (N h::TN xs::ds))/\x1=.int (xs.length:Int)/\xs.length<=8 /\ ∀H',ah H H'->Q (.bl true) H'
theorem Ln{K:wa}{H:Hp}{Q:VK}{E:XK}{h:Rat}{xs:List Rat}{ds:List wy}{v:V}(i:Is K H v (.tuple (N h::TN xs::ds)))(h8:xs.length<=8)(q:∀H',ah H H'->Q (.bl true) H'):Li K [v,.int (xs.length:Int)] H Q E:=⟨_,_,rfl,h,xs,ds,i,rfl,h8,q⟩
theorem Rn(T:Txt K mg a):aH P w K mg base aQ 3 a.HZ a.Gp rV (Li K):=by
 refine T.Ac.F.ok zrf ?_ ?_;wtm_at "b2"
 refine⟨_,(ar (bD (PW.pt (d_ (cq (cb (ao (om T) hr T.lZ (ae (aj (pv 0)) af)))) (d_ (cq (cb (bP (show aP _ (.builtin "isinstance") (eG K)from ja) rfl T.z_isinstance ik (ae (aj (pv 0)) (ae (gU (v:=.ty "tuple") rfl T.z_tuple dR rfl) af))))) (fT (bW (show aK _ (wJ .NotEq) (fR K)from jB hu) (bP (show aP _ (.builtin "len") (cR K)from dS) rfl T.z_len dW (ae (aj (pv 0)) af)) (pv 1) (aZ _)))))) (av (aB dP)) bA)
     (av (aB (bP (show aP _ (.builtin "all") (kz K)from mO rfl) rfl T.z_all mR (ae (dU rfl (cC.by (N':=["phase"]) (src:=[none]) rfl (show cS _ (aC zG).names yO ["phase"] [none]=true from by decide +kernel)) (jd (aj (pv 0))) (λ_ _ _ _ _=>(bR (i:=0) (show(["phase"]:List Str).Nodup from by decide) rfl (Or.inl rfl))) (λ_ _ _ _ _=>du) (λ_ _ _ _ _=>(ao (om (K:=K) (mg:=mg) (a:=a) T) hr T.lZ (ae (pv 0) af)))) af))))),?_⟩
 wtm_at "cl";rw[show start yO [x0,x1]=[some x0,some x1]from rfl];obtain⟨hh,xs,ds,hi,rfl,h8,q⟩:=h;o_head aA (j:=0) hi rfl (λv0 i0=>?_);k_few
 all_goals first | (rename_i e;rw[pG]at e;cases (show true=false from e)) | skip
 refine aA (j:=1) hi rfl (λv1 i1=>?_);k_few
 all_goals first | (rename_i e;cases (show true=false from e)) | skip
 refine aA (j:=1) hi rfl (λv2 i2=>?_);o_head NN i2 ?_;k_few
 all_goals first | (rename_i e;exact absurd rfl e) | skip
 refine aA (j:=1) hi rfl (λv3 i3=>?_);k_few;obtain⟨a3,vs3,rfl,s3,t3⟩:=bX.mp i3;refine h9 s3 (o0:=none) (tl:=[]) rfl (λj y _=>y=.bl true) ?_ ?_
 . intro D j x ys o H1 hx inv
   obtain⟨hj,ix⟩:=dk t3 hx;have ix:=ix.by inv.2.2.1;k_few;rw[pG];exact dZ inv (by omega) (λ_ _ _ _ _ h=>h) ⟨_,rfl⟩ (ah.refl _) rfl
 . intro D ys H1 n1 S1 e1 l1 r1
   have ey:ys=(w6 ys.length true).map V.bl:=by
     refine WH (by simp) λi h1 h2=>?_
     rw[r1 i ys[i] (wc h1)];simp
   rw[ey]at e1;o_head lA (.of e1) ?_;rw[show(w6 ys.length true).all id=true by simp];exact q _ S1
def JI(K:wa):Sp:=λvs H Q _=>∃x0 x1,vs=[x0,x1] /\ ∃(h:Rat)(xs:List Rat)(f g:Int),Is K H x0 (.tuple [N h,TN xs,.int f,.int g])/\x1=.int (xs.length:Int)/\xs.length<=8/\0<=f/\f<=30/\0<=g/\g<=40 /\ ∀H',ah H H'->Q (.bl true) H'
theorem zvK{K:wa}{H:Hp}{Q:VK}{E:XK}{h:Rat}{xs:List Rat}{f g:Int}{v:V}{n:Nat}(e:xs.length=n)(i:Is K H v (.tuple [N h,TN xs,.int f,.int g]))(h8:xs.length<=8)(f0:0<=f)(f1:f<=30)(g0:0<=g)(g1:g<=40)(q:∀H',ah H H'->Q (.bl true) H'):JI K [v,.int (n:Int)] H Q E:=⟨_,_,rfl,h,xs,f,g,i,by rw[e],h8,f0,f1,g0,g1,q⟩
theorem zwr(T:Txt K mg a):aH P w K mg base aQ 4 a.Jj a.Ie yi (JI K):=by
 refine T.IJ.F.ok YM ?_ ?_;wtm_at "b2"
 refine⟨_,(ar (bD (PW.pt (d_ (cq (cb (bP (show aP _ (.builtin "isinstance") (eG K)from ja) rfl T.z_isinstance ik (ae (pv 0) (ae (gU (v:=.ty "tuple") rfl T.z_tuple dR rfl) af))))) (d_ (bW (show aK _ (wJ .NotEq) (fR K)from jB hu) (bP (show aP _ (.builtin "len") (cR K)from dS) rfl T.z_len dW (ae (pv 0) af)) ay (aZ _)) (fT (cq (cb (ao (Rn T) hr T.Ac (ae (pv 0) (ae (pv 1) af))))))))) (av (aB dP)) bA)
     (av (aB (eQ (ao (JO T) hr T.z8 (ae ay (ae (lJ rfl T.GI) (ae (aj (pv 0)) af)))) (fN (ao (JO T) hr T.z8 (ae ay (ae (lJ rfl T.Tq) (ae (aj (pv 0)) af))))))))),?_⟩
 wtm_at "cl";rw[show start CP [x0,x1]=[some x0,some x1]from rfl];obtain⟨hh,xs,f,g,hi,rfl,h8,f0,f1,g0,g1,q⟩:=h;k_few
 all_goals first | (rename_i e;cases (show true=false from e)) | skip
 refine kE hi ?_;k_few
 all_goals first | (rename_i e;exact absurd rfl e) | skip
 refine Ln hi h8 (λH1 S1=>?_);have hi1:=hi.by S1;o_head aA (j:=2) hi1 rfl (λv2 i2=>?_);o_head Nx i2 ?_;rw[show lG 0 30 (.int f)=true by simp[lG,f0,f1]];o_head aA (j:=3) hi1 rfl (λv3 i3=>?_);o_head Nx i3 ?_;rw[show lG 0 40 (.int g)=true by simp[lG,g0,g1]];exact q _ S1
def iE(w:String):Prop:=w="one"\/w="rests"\/w="drawn"
def RH(K:wa):Sp:=λvs H Q _=>∃x0 x1,vs=[x0,x1] /\ ∃(h:Rat)(xs:List Rat)(w:String),Is K H x0 (.tuple [N h,TN xs,.str (wV w)])/\x1=.int (xs.length:Int)/\xs.length<=8/\iE w /\ ∀H',ah H H'->Q (.bl true) H'
theorem znm{K:wa}{H:Hp}{Q:VK}{E:XK}{h:Rat}{xs:List Rat}{w:String}{v:V}{n:Nat}(e:xs.length=n)(i:Is K H v (.tuple [N h,TN xs,.str (wV w)]))(h8:xs.length<=8)(hw:iE w)(q:∀H',ah H H'->Q (.bl true) H'):RH K [v,.int (n:Int)] H Q E:=⟨_,_,rfl,h,xs,w,i,by rw[e],h8,hw,q⟩
def oB:List wy:=[.str (wV "one"),.str (wV "rests"),.str (wV "drawn")]
theorem yy{w:PySem.Str}(h:xH w=true):Sh 1 (.str w):=⟨by simpa [vF] using h,by simp[Wu]⟩
theorem zt0:vF (.tuple oB)=true:=(nq (n:=1) λd hd=>by
 simp only[oB,wG,Wv,or_false]at hd;rcases hd with rfl | rfl | rfl<;>exact yy (pf _)).1
theorem ZL{K:wa}{H:Hp}{Q:VK}{p:we}{w:String}(t:aV K H p [.str (wV "one"),.str (wV "rests"),.str (wV "drawn")])(h:iE w)(q:Q (.bl true) H):oC K (.str (wV w)) (.ref p) H Q:=by
 refine⟨.str (wV w),oB,eZ.mpr rfl,bX.mpr ⟨p,_,rfl,t,.cons (eZ.mpr rfl) (.cons (eZ.mpr rfl) (.cons (eZ.mpr rfl) .nil))⟩,(yy (pf _)).mono (by decide),zt0,?_⟩
 rw[show oB.any (wQ · (.str (wV w)))=true by
  unfold oB;simp only[qH,List.any_nil,wQ,X2,XG,beq_iff_eq];rcases h with rfl | rfl | rfl<;>simp]
 exact q
theorem znX(T:Txt K mg a):aH P w K mg base aQ 4 a.GX a.FJ zF (RH K):=by
 refine T.F0.F.ok znS ?_ ?_;wtm_at "b2";have hgd:=hr.gd
 refine⟨_,(ar (bD (PW.pt (d_ (cq (cb (bP (show aP _ (.builtin "isinstance") (eG K)from ja) rfl T.z_isinstance ik (ae (pv 0) (ae (gU (v:=.ty "tuple") rfl T.z_tuple dR rfl) af))))) (d_ (bW (show aK _ (wJ .NotEq) (fR K)from jB hu) (bP (show aP _ (.builtin "len") (cR K)from dS) rfl T.z_len dW (ae (pv 0) af)) ay (aZ _)) (fT (cq (cb (ao (Rn T) hr T.Ac (ae (pv 0) (ae (pv 1) af))))))))) (av (aB dP)) bA)
     (av (aB (eQ (bP (show aP _ (.builtin "isinstance") (eG K)from ja) rfl T.z_isinstance ik (ae (aj (pv 0)) (ae (gU (v:=.ty "str") rfl T.z_str ZT rfl) af))) (fN (d9 (show aK _ (wJ .In) (oC K)from SF hu) (aj (pv 0)) (bZ (v:=.ref a.Ao) rfl T.TH rfl) (by with_unfolding_all rfl))))))),?_⟩
 wtm_at "cl";rw[show start Bw [x0,x1]=[some x0,some x1]from rfl];obtain⟨hh,xs,ww,hi,rfl,h8,hw,q⟩:=h;k_few
 all_goals first | (rename_i e;cases (show true=false from e)) | skip
 refine kE hi ?_;k_few
 all_goals first | (rename_i e;exact absurd rfl e) | skip
 refine Ln hi h8 (λH1 S1=>?_);have hi1:=hi.by S1;o_head aA (j:=2) hi1 rfl (λv2 i2=>?_);o_head zyx i2 ?_;rw[show BQ (.str (wV ww))=true from rfl];o_head aA (j:=2) hi1 rfl (λv3 i3=>?_);cases eZ.mp i3;k_few;exact ZL (T.TF _) hw (q _ S1)
structure gG where
 h:Rat
 xs:List Rat
 r:Nat
 g:Nat
def gG.d(e:gG):wy:=.tuple [N e.h,TN e.xs,.int (e.r:Int),.int (e.g:Int)]
def m9(h:Rat)(xs:List Rat)(w:String):wy:=.tuple [N h,TN xs,.str (wV w)]
def Lc(K:wa):Sp:=λvs H Q _=>∃x0 x1,vs=[x0,x1] /\ ∃(n:Nat)(ps:List gG)(h:Rat)(xs:List Rat)(w:String),Is K H x0 (.list (ps.map gG.d++[m9 h xs w]))/\x1=.int (n:Int)/\n<=8/\(∀e∈ps,e.xs.length=n/\e.r<=30/\e.g<=40)/\xs.length=n/\iE w/\ps.length<=100 /\ ∀H',ah H H'->Q (.bl true) H'
theorem Yd{K:wa}{H:Hp}{Q:VK}{E:XK}{n:Nat}{ps:List gG}{h:Rat}{xs:List Rat}{w:String}{v:V}(i:Is K H v (.list (ps.map gG.d++[m9 h xs w])))(h8:n<=8)(hp:∀e∈ps,e.xs.length=n/\e.r<=30/\e.g<=40)(hx:xs.length=n)(hw:iE w)(bN:ps.length<=100)(q:∀H',ah H H'->Q (.bl true) H'):Lc K [v,.int (n:Int)] H Q E:=⟨_,_,rfl,n,ps,h,xs,w,i,rfl,h8,hp,hx,hw,bN,q⟩
theorem zvT{α : Type}(ds:List α)(d : α):L2.cutD (ds++[d]) none (some (-1))=ds:=by
 unfold L2.cutD;have e1:HT.aX (ds++[d]).length 0 none=0:=by simp[HT.aX]
 have e2:HT.aX (ds++[d]).length (ds++[d]).length (some (-1))=ds.length:=by
  rw[wR,vS];simp[HT.aX];omega
 rw[e1,e2];simp
theorem zDg{K:wa}{H:Hp}{ps:List gG}{us:List V}(t:au K H us (ps.map gG.d)){i:Nat}{x:V}(hx:us[i]? = some x):∃e∈ps,i<ps.length/\Is K H x e.d:=by
 obtain⟨hi,ix⟩:=jZ t hx;rw[wm]at hi;refine⟨ps[i],vO hi,hi,?_⟩;rw[wb,wt,wc hi]at ix;exact ix
theorem zsb(T:Txt K mg a):aH P w K mg base aQ 5 a.Iz a.GS zT (Lc K):=by
 refine T.G5.F.ok zrm ?_ ?_;wtm_at "b2"
 refine⟨_,(ar (bD (PW.pt (d_ (cq (cb (bP (show aP _ (.builtin "isinstance") (eG K)from ja) rfl T.z_isinstance ik (ae (pv 0) (ae (gU (v:=.ty "list") rfl T.z_list kh rfl) af))))) (fT (cq (sW (pv 0)))))) (av (aB dP)) bA)
     (av (aB (eQ (bP (show aP _ (.builtin "all") (kz K)from mO rfl) rfl T.z_all mR (ae (dU rfl (cC.by (N':=["row","worms"]) (src:=[none,some 1]) rfl (show cS _ (aC yJ).names rW ["row","worms"] [none,some 1]=true from by decide +kernel)) (gr (jQ jD (pv 0) jW (jL (gA gg ay)))) (λ_ _ _ _ _=>(bR (i:=0) (show(["row","worms"]:List Str).Nodup from by decide) rfl (Or.inl rfl))) (λ_ _ _ _ _=>du) (λ_ _ _ _ _=>(ao (zwr (K:=K) (mg:=mg) (a:=a) T) hr T.IJ (ae (pv 0) (ae (pv 1) af))))) af)) (fN (ao (znX T) hr T.F0 (ae (dC dg (pv 0) (gA gg ay) (λ_ _=>rfl)) (ae (pv 1) af)))))))),?_⟩
 wtm_at "cl";rw[show start rW [x0,x1]=[some x0,some x1]from rfl];obtain⟨n,ps,hl',xs,wd,hi,rfl,h8,hp,hx',hw,bN,q⟩:=h;o_head zxa hi ?_;rw[show ko (PyData.list (ps.map gG.d++[m9 hl' xs wd]))=true from rfl];o_head Br hi ?_;rw[show(!(ps.map gG.d++[m9 hl' xs wd]).isEmpty)=true by simp];o_head k8 hi (λl1 H1 us n1 S1 e1 t1=>?_);rw[zvT]at t1;have lt:=t1.length;rw[wm]at lt;o_head jI (.of e1) (o0:=none) (tl:=[some (.int (n:Int))]) rfl (λj y _=>y=.bl true) ?_ ?_
 . intro D j x ys o H2 hx inv
   obtain⟨e,he,hj,ir⟩:=zDg t1 hx;obtain⟨p1,p2,p3⟩:=hp e he;unfold gG.d at ir;o_head zvK p1 (ir.by inv.2.2.1) (by omega) (by omega) (by omega) (by omega) (by omega) (λH3 S3=>?_);k_few;exact dZ inv (by omega) (λ_ _ _ _ _ h=>h) ⟨_,rfl⟩ S3 rfl
 . intro D ys H2 n2 S2 e2 l2 r2
   have ey:ys=(w6 ys.length true).map V.bl:=by
     refine WH (by simp) λi h1 h2=>?_
     rw[r2 i ys[i] (wc h1)];simp
   rw[ey]at e2;o_head lA (.of e2) ?_;rw[show(w6 ys.length true).all id=true by simp];have T2:=S1.trans S2;o_head lH (hi.by T2) (λv3 i3=>?_);unfold m9 at i3;o_head znm hx' i3 (by omega) hw (λH3 S3=>?_);exact q _ (T2.trans S3)
theorem Lh{a b:Rat}(ok:aU a b){xs ps:List Rat}{fl:Nat->Nat}{ns:List Int}(L:gc xs (ps++[0]) fl ns)(hn:ns.length=ps.length+1)(f:eW a b ns ps=true) :
  gc (ai a b xs ns.length) (c6 a b ns ps++[0]) fl ns/\(∀t,t<ns.length->c7 a b (ai a b xs t)=[bE xs.length fl t])/\aG a b xs ns.length=fm a b ns ps:=by
 have hl:(ps++[0]).length=ns.length:=by simp[hn]
 have hZ:∀t,t<(ps++[0]).length->eD a b ns (ps++[0]) t<1:=λt ht=>by
  have:=(CJ.mp f).2 t (by omega);rw[mj (by omega)]at this;unfold eD;rw[hl];exact this
 obtain⟨P,F,_,W⟩:=tN ok.a0 ok.b0 L _ (wo _) hZ;have ht:=O8 ok.a0 ok.b0 L _ (wo _) hZ;rw[hl]at P W ht;rw[<- CL hn]at P;have st:=Lw (zup ok hn f);have hbl:=nD (a:=a) (b:=b) hn;have hbl2:(c6 a b ns ps++[0]).length=(ps++[0]).length:=by simp[hbl]
 have hpl:=bV a b xs ns.length;refine⟨⟨P,st.1,st.2,by rw[hbl2];exact L.len,λc hc=>?_,λc hc=>?_⟩,W,?_⟩
 ·rw[hpl];exact L.some c (by omega)
 ·rw[hpl];exact L.size c (by omega)
 ·rw[ht];rfl
theorem yt{a b:Rat}(ok:aU a b){xs ps:List Rat}{fl:Nat->Nat}{ns:List Int}(L:gc xs (ps++[0]) fl ns)(hn:ns.length=ps.length+1)(n0:∀n∈ns,0<=n):∀k,(∀j,j<k->cz a b ns ps j=true) ->
  gc (ai a b xs (k*ns.length)) (cP a b ns k ps++[0]) fl ns/\aG a b xs (k*ns.length)=oo a b ns ps k
 | 0,_=>by
  rw[Qy,m_];exact⟨L,rfl⟩
 | k+1,h=>by
  obtain⟨Lk,Hk⟩:=yt ok L hn n0 k λj hj=>h j (by omega)
  have hl:ns.length=(cP a b ns k ps).length+1:=by rw[dG];exact hn
  obtain⟨L1,_,H1⟩:=Lh ok Lk hl (h k (by omega));rw[eP,<- DM hl n0,Ob]at L1;have e:(k+1)*ns.length=k*ns.length+ns.length:=qi ..;rw[e];refine⟨L1,?_⟩;rw[<- lz,Hk,H1]
  rfl
theorem Pm{a b:Rat}(a0:0<a)(b0:0<=b){xs row:List Rat}{fl:Nat->Nat}{ns:List Int}(L:gc xs row fl ns):∀n,n<=row.length->(¬ ∀t,t<n->eD a b ns row t<1)->∃t,t<n/\1<(c7 a b (ai a b xs t)).length
 | 0,_,z=>absurd (λt ht=>by omega) z
 | n+1,hn,z=>by
  by_cases y:∀t,t<n->eD a b ns row t<1
  ·refine⟨n,by omega,zv2 a0 b0 L (by omega) y (λu=>z λt ht=>?_)⟩
   rcases wD t n with k | k
   ·exact y t k
   ·have:t=n:=by omega
    rw[this];exact u
  ·obtain⟨t,h1,h2⟩:=Pm a0 b0 L n (by omega) y
   exact⟨t,by omega,h2⟩
theorem Z5{a b:Rat}(ok:aU a b){xs ps:List Rat}{fl:Nat->Nat}{ns:List Int}(L:gc xs (ps++[0]) fl ns)(hn:ns.length=ps.length+1)(f:eW a b ns ps=false):∃t,t<ns.length/\1<(c7 a b (ai a b xs t)).length:=by
 have hl:(ps++[0]).length=ns.length:=by simp[hn]
 refine Pm ok.a0 ok.b0 L ns.length (by omega) λz=>?_
 have:eW a b ns ps=true:=CJ.mpr ⟨MZ L.Av.pw L.one,λi hi=>by
  have:=z i hi;unfold eD at this;rw[hl]at this;rw[mj hi];exact this⟩
 rw[f]at this;cases this
theorem zAb{xs row:List Rat}{fl:Nat->Nat}{ns:List Int}{n:Nat}(L:gc xs row fl ns)(hn:xs.length=n):((wq n).map λw=>row.getD (fl w) 0)=xs:=by
 refine kK (by simp[hn]) λw hw=>?_
 have hw:w<n:=by simpa using hw
 rw[L.pl.at' w (by omega),wb,wt,vT hw]
 rfl
theorem KW{xs:List Rat}(h1:1<=xs.length)(h8:xs.length<=8):df (bG xs):=by
 have hs:=zX xs;have hv:=kf xs;have hp:=zS h1;refine⟨by omega,by omega,λn hn=>?_,?_⟩
 ·have h2:=ztJ xs n hn
  refine⟨?_,by omega⟩;obtain⟨v,hv,rfl⟩:=wS.mp hn;have hm:=kA hv;obtain⟨j,hj,e⟩:=w9 hm;have:j∈fP xs v:=vb.mpr ⟨wF.mpr hj,decide_eq_true (by rw[wb,wc hj];exact e)⟩;have:=QY this;omega
 ·have h3:=KU xs
  have:=yH (yK xs);omega
def fA(a b:Rat)(xs:List Rat)(r:Nat):Prop:=∀k,k<r->cz a b (bG xs) (bY xs) k=true
structure fq(a b:Rat)(xs:List Rat):Prop where
 ok:aU a b
 h1:1<=xs.length
 h8:xs.length<=8
 hp:c8 xs
 h0:0∈xs
 cm:Cm 3600 xs
theorem fq.round{a b:Rat}{xs:List Rat}(h:fq a b xs):cO a b (bG xs) (bY xs)/\df (bG xs)/\(bG xs).length=(bY xs).length+1:=by
 have hz:bY xs++[0]=ak xs:=Df h.hp h.h0;have h8:=h.h8;have sz:=KW h.h1 h8;have hsl:=zX xs;have hvl:=kf xs;have hsu:=O2 xs;have hpl:(bY xs).length+1=(ak xs).length:=by rw[<- hz];simp
 refine⟨⟨h.ok.ba,h.ok.bb,λn hn=>by have:=sz.each n hn;omega,by omega,by omega,⟨3600,oD h.cm,by omega⟩⟩,sz,by omega⟩
def OX(K:wa):Sp:=λvs H Q _=>∃x0 x1,vs=[x0,x1] /\ ∃(a b:Rat)(xs:List Rat)(r:Nat),x1=.int (r:Int)/\Is K H x0 (aW a b xs)/\fq a b xs/\1<=r/\r<=30/\fA a b xs r /\ ∀H',ah H H'->Q (.bl true) H'
theorem ztU{K:wa}{H:Hp}{Q:VK}{E:XK}{a b:Rat}{xs:List Rat}{r:Nat}{v:V}(h:Is K H v (aW a b xs))(ok:fq a b xs)(r1:1<=r)(h30:r<=30)(f:fA a b xs r)(q:∀H',ah H H'->Q (.bl true) H'):OX K [v,.int (r:Int)] H Q E:=⟨_,_,rfl,a,b,xs,r,rfl,h,ok,r1,h30,f,q⟩
theorem zt4(T:Txt K mg a):aH P w K mg base aQ 9 a.IQ a.HF sI (OX K):=by
 refine T.Ib.F.ok Bn ?_ ?_;wtm_at "b2"
 refine⟨_,(ar (bD (cq (cb (ao (Bj T) hr T.rf (ae (pv 0) af)))) (av (aB dP)) bA)
     (ar (az 2 Bn.nd (kN (sj T) hr T.nU w_ (ae (pv 0) af)))
     (ar (az 3 Bn.nd (ao (Rr T) hr T.z6 (by exact(@ae _ _ _ _ _ (aj (pv 0)) (@ae _ _ _ _ _ (aj (pv 2)) (@ae _ _ _ _ _ (aj (pv 2)) (@ae _ _ _ _ _ (aD h_ (pv 1) ay) af zuf) fk) fk) fk))))
     (av (aB (eQ (ao (oY T) hr T.l_ (ae (aj (pv 0)) (ae (aj (pv 2)) (ae (aj (pv 2)) af)))) (fN (ao (oY T) hr T.l_ (ae (aj (pv 0)) (ae (aj (pv 2)) (ae (pv 3) af))))))))))),?_⟩
 wtm_at "cl";rw[show start NR [x0,x1]=[some x0,some x1,none,none]from rfl];obtain⟨ra,rb,xs,r,rfl,hw,ok,r1,h30,fr,q⟩:=h;obtain⟨rok,sz,hn⟩:=ok.round;have h8:=ok.h8;have bx:∀i,ag 4000 (xs.getD i 0):=λi=>(ok.cm.get i).mono (by decide)
 have cp:Cm 3600 (bY xs):=oD ok.cm;have e1:((r:Int)-1).toNat=r-1:=by omega
 have hlk:d5 ra rb (bG xs) ((r:Int)-1).toNat:=nY ok.ok sz (by omega);have hbp:∀i,ag 6900 ((bY xs).getD i 0):=λi=>(cp.get i).mono (by decide)
 have f0:eW ra rb (bG xs) (bY xs)=true:=by
   have:=fr 0 (by omega);unfold cz at this;rw[m_]at this;exact this
 have f1:eW ra rb (bG xs) (cP ra rb (bG xs) (r-1) (bY xs))=true:=fr (r-1) (by omega);o_head Dw hw ?_;rw[decide_eq_true ok.h0];o_head sx hw h8 bx (λz=>absurd ok.h0 z) (λ_ vl H1 S1 il=>?_);have hw1:=hw.by S1;o_head aA (j:=0) hw1 rfl (λvr ir=>?_);o_head aA (j:=0) il rfl (λvz iz=>?_);o_head aA (j:=1) il rfl (λvp ip=>?_);o_head Ml ir iz ip hn (by omega) hlk hbp (λv2 H2 S2 i2=>?_);rw[e1]at i2;o_head aA (j:=0) (hw1.by S2) rfl (λvr2 ir2=>?_);o_head aA (j:=0) (il.by S2) rfl (λvz2 iz2=>?_);o_head aA (j:=1) (il.by S2) rfl (λvp2 ip2=>?_);o_head ow ir2 iz2 ip2 rok (λH3 S3=>?_);rw[f0];have S23:=S2.trans S3;o_head aA (j:=0) (hw1.by S23) rfl (λvr3 ir3=>?_);o_head aA (j:=0) (il.by S23) rfl (λvz3 iz3=>?_);o_head ow ir3 iz3 (i2.by S3) (CM ok.ok sz hn cp (by decide) (by omega)) (λH4 S4=>?_);rw[f1];exact q _ (S1.trans (S23.trans S4))
def RO(K:wa):Sp:=λvs H Q _=>∃x0 x1,vs=[x0,x1] /\ ∃(a b:Rat)(xs:List Rat)(r:Nat),x1=.int (r:Int)/\Is K H x0 (aW a b xs)/\fq a b xs/\r<=30/\fA a b xs r /\ ∀v H',ah H H'->Is K H' v (BD a b xs (r*(ak xs).length))->Q v H'
theorem AU{K:wa}{H:Hp}{Q:VK}{E:XK}{a b:Rat}{xs:List Rat}{r:Nat}{v:V}(h:Is K H v (aW a b xs))(ok:fq a b xs)(h30:r<=30)(f:fA a b xs r)(q:∀v H',ah H H'->Is K H' v (BD a b xs (r*(ak xs).length))->Q v H'):RO K [v,.int (r:Int)] H Q E:=⟨_,_,rfl,a,b,xs,r,rfl,h,ok,h30,f,q⟩
theorem Ci{K:wa}{H:Hp} : ∀{xs:List Rat}{us:List V},au K H us (xs.map N)->∃cs:List we,us=cs.map V.ref
 | [],us,h=>⟨[],gZ.mp h⟩
 | x::xs,us,h=>by
  obtain⟨v,r,rfl,iv,t⟩:=fb.mp h;obtain⟨a,_,rfl,_,_⟩:=bX.mp (show Is K H v (.tuple _)from iv);obtain⟨cs,rfl⟩:=Ci t;exact⟨a::cs,rfl⟩
def fX(x:Rat):List Int:=[x.num,(x.den:Int)]
theorem zyb{x y:Rat}(h:fX x=fX y):x=y:=by
 unfold fX at h
 injection h with h1 h2
 injection h2 with h2 _
 exact Rat.ext h1 (by omega)
theorem ztm{xs:List Rat}(h:xs.Nodup):(xs.map fX).Nodup:=by
 unfold List.Nodup at *;rw[Qm];exact h.imp λ{a b} n e=>n (zyb e)
theorem N4{xs:List Rat}{j:Nat}(h:j<xs.length):(xs.map fX).getD j []=fX (xs.getD j 0):=by
 rw[wb,wt,wb,wc h]
 rfl
theorem Y0{ks:List (List Int)}{us ws:List we}(nd:ks.Nodup)(hl:ks.length=us.length){j:Nat}(hj:j<us.length):ly (gv ks us ws) (ks.getD j [])=some (ws.getD j 0):=by
 unfold ly gv;rw[List.find?_map];have pw:=Wf.mp nd;cases e:(wq us.length).find? ((λx:NE=>decide (x.1=ks.getD j [])) ∘ λj=>(ks.getD j [],us.getD j 0,ws.getD j 0))with
 | none =>
  have:=List.find?_eq_none.mp e j (wF.mpr hj);simp at this
 | some i =>
  have hm:=wF.mp (Qt e);have hp:=XN e;have hp:ks.getD i []=ks.getD j []:=of_decide_eq_true hp;have hi:i<ks.length:=by omega
  have hj':j<ks.length:=by omega
  rw[wb,wb,wc hi,wc hj']at hp
  have hij:i=j:=by
   rcases Vn i j with z | z | z
   ·exact absurd hp (pw i j hi hj' z)
   ·exact z
   ·exact absurd hp.symm (pw j i hj' hi z)
  rw[hij];rfl
theorem zv3{K:wa}{H:Hp}{xs:List Rat}{cs ws:List we}(t:au K H (cs.map V.ref) (xs.map N)):yk K H (gv (xs.map fX) cs ws):=by
 intro x hx;obtain⟨j,hj,rfl⟩:=wS.mp hx;have hj:=wF.mp hj;have hl:=t.length;simp only[wm]at hl;have:=(dk t (i:=j) (x:=.ref (cs.getD j 0)) (by rw[wt,wb,wc hj];rfl)).2
 show Is K H (.ref (cs.getD j 0)) (TZ ((xs.map fX).getD j []))
 rw[N4 (by omega)];exact this
theorem JW(T:Txt K mg a):aH P w K mg base aQ 9 a.FW a.Fs rR (RO K):=by
 refine T.z5.F.ok oH ?_ ?_;wtm_at "b2"
 refine⟨_,(ar (az 2 oH.nd (kN (sj T) hr T.nU w_ (ae (pv 0) af)))
     (ar (az 3 oH.nd (ao (Rr T) hr T.z6 (by exact(@ae _ _ _ _ _ (aj (pv 0)) (@ae _ _ _ _ _ (aj (pv 2)) (@ae _ _ _ _ _ (aj (pv 2)) (@ae _ _ _ _ _ (pv 1) af fE) fk) fk) fk))))
     (ar (az 4 oH.nd (zxK rfl (WJ (xv (by decide) _) hu) rfl T.z_dict rfl T.z_zip (ae (aD (show aK _ (Wn .Add) (pb K)from D_) (aj (pv 2)) (br (ae (bZ (v:=.ref a.de) rfl T.dD rfl) af))) (ae (aD (show aK _ (Wn .Add) (pb K)from D_) (pv 3) (br (ae (bZ (v:=.ref a.de) rfl T.dD rfl) af))) af))))
     (ar (az 5 oH.nd (dY (show aP _ (.type "tuple") (eA K)from fz) rfl T.z_tuple dR (ae (dU rfl (cC.by (N':=["phase","now"]) (src:=[none,some 4]) rfl (show cS _ (aC yW).names DG ["phase","now"] [none,some 4]=true from by decide +kernel)) (jd (aj (pv 0))) (λ_ _ _ _ _=>(bR (i:=0) (show(["phase","now"]:List Str).Nodup from by decide) rfl (Or.inl rfl))) (λ_ _ _ _ _=>du) (λ_ _ _ _ _=>(show PE _ _ (AS K _ _)from(UZ (by exact(WJ (xv (by decide) _) hu)) (pv 1) (pv 0) (λ_ _=>rfl))))) af)))
     (av (aB (br (ae (ao (ZG T) hr T.FZ (by exact(@ae _ _ _ _ _ (aj (pv 0)) (@ae _ _ _ _ _ (aj (pv 2)) (@ae _ _ _ _ _ (aj (pv 2)) (@ae _ _ _ _ _ (pv 1) af fE) fk) fk) fk))) (ae (br (ae (aj (pv 0)) (ae (pv 5) af))) af))))))))),?_⟩
 wtm_at "cl";rw[show start DG [x0,x1]=[some x0,some x1,none,none,none,none]from rfl];obtain⟨ra,rb,xs,r,rfl,hw,ok,h30,fr,q⟩:=h;have hz:bY xs++[0]=ak xs:=Df ok.hp ok.h0;have h1:=ok.h1;have h8:=ok.h8;have sz:=KW h1 h8;have hsl:=zX xs;have hvl:=kf xs;have hvp:=zS h1;have hpl:(bY xs).length+1=(ak xs).length:=by rw[<- hz];simp
 have hn:(bG xs).length=(bY xs).length+1:=by omega
 have L:gc xs (bY xs++[0]) (aS xs) (bG xs):=by rw[hz];exact RM ok.hp.nn ok.hp.lt
 obtain⟨Lr,Hr⟩:=yt ok.ok L hn (yK xs) r fr;rw[hsl]at Lr Hr;have hel:=zAb Lr (bV ra rb xs _);have bx:∀i,ag 4000 (xs.getD i 0):=λi=>(ok.cm.get i).mono (by decide)
 have cp:Cm 3600 (bY xs):=oD ok.cm;have hlk:d5 ra rb (bG xs) ((r:Int)).toNat:=by rw[wP];exact nY ok.ok sz (by omega)
 have hbp:∀i,ag 6900 ((bY xs).getD i 0):=λi=>(cp.get i).mono (by decide)
 o_head sx hw h8 bx (λz=>absurd ok.h0 z) (λ_ vl H1 S1 il=>?_);have hw1:=hw.by S1;o_head aA (j:=0) hw1 rfl (λvr ir=>?_);o_head aA (j:=0) il rfl (λvz iz=>?_);o_head aA (j:=1) il rfl (λvp ip=>?_);o_head Ml ir iz ip hn (by omega) hlk hbp (λv2 H2 S2 i2=>?_);rw[wP]at i2;o_head aA (j:=1) (il.by S2) rfl (λvp2 ip2=>?_);o_head cF (ds:=[N 0]) (by simp) (.cons (d8 0 (T.eT _) rfl rfl) .nil) (λv3 H3 S3 i3=>?_);refine DT (ip2.by S3) i3 (by rw[wm];simp;omega) (λv4 H4 S4 i4=>?_);o_head cF (ds:=[N 0]) (by simp) (.cons (d8 0 (T.eT _) rfl rfl) .nil) (λv5 H5 S5 i5=>?_);have S25:=S3.trans (S4.trans S5);refine DT (i2.by S25) i5 (by rw[wm,dG];simp;omega) (λv6 H6 S6 i6=>?_)
 have i46:Is K H6 v4 (TN (ak xs)):=by
   have:=i4.by (S5.trans S6);rw[<- hz];unfold TN;rw[vD];exact this
 have i66:Is K H6 v6 (TN (cP ra rb (bG xs) r (bY xs)++[0])):=by
   unfold TN;rw[vD];exact i6
 have S16:=S2.trans (S25.trans S6);have hw6:=hw1.by S16;have il6:=il.by S16;have T6:=S1.trans S16;clear hw hw1 il ir iz ip i2 ip2 i3 i4 i5 i6 S1 S2 S3 S4 S5 S6 S25 S16;have hrl:(cP ra rb (bG xs) r (bY xs)++[0]).length=(ak xs).length:=by rw[wR,dG];simp;omega
 generalize cP ra rb (bG xs) r (bY xs)++[0]=row at *;obtain⟨aa,us,rfl,hs1,tu⟩:=bX.mp i46;obtain⟨ab,ws,rfl,hs2,tw⟩:=bX.mp i66;obtain⟨cs,rfl⟩:=Ci tu;obtain⟨ds,rfl⟩:=Ci tw;have hcl:=tu.length;have hdl:=tw.length;simp only[wm]at hcl hdl;have nd:=ztm (PQ xs);have hkl:((ak xs).map fX).length=cs.length:=by rw[wm];omega
 o_head ⟨aa,ab,(ak xs).map fX,cs,ds,rfl,hs1,hs2,by omega,by omega,?_,nd,λD ep hD=>?_⟩
 . rw[VB]
   exact tu
 . have S7:ah H6 (upd H6 D (gS D ep (gv ((ak xs).map fX) cs ds))):=ah.upd hD
   have e7:upd H6 D (gS D ep (gv ((ak xs).map fX) cs ds)) D=some (gS D ep (gv ((ak xs).map fX) cs ds)):=cV;generalize upd H6 D (gS D ep (gv ((ak xs).map fX) cs ds))=H7 at *;have tu7:au K H7 (cs.map V.ref) ((ak xs).map N):=au.same S7 _ _ tu;have tw7:au K H7 (ds.map V.ref) (row.map N):=au.same S7 _ _ tw;have hw7:=hw6.by S7;o_head aA (j:=1) hw7 rfl (λvq iq=>?_);obtain⟨aq,uq,rfl,hsq,tq⟩:=bX.mp iq;have hql:=tq.length;rw[wm]at hql;refine h9 hsq (o0:=none) (tl:=[some (.ref D)]) rfl (λj y H'=>Is K H' y (N (((wq xs.length).map λw=>row.getD (aS xs w) 0).getD j 0))) ?_ ?_
   . intro D' j x ys o H8 hx inv
     obtain⟨hj,ix⟩:=dk tq hx;have S8:=inv.same;obtain⟨ax,_,rfl,_,_⟩:=bX.mp (show Is K H7 x (.tuple _)from ix);have hfl:=(kG xs).lt j hj;have hxe:xs.getD j 0=(ak xs).getD (aS xs j) 0:=(kG xs).at' j hj;o_head ⟨D,ax,ep,_,fX (xs.getD j 0),ds.getD (aS xs j) 0,rfl,rfl,S8 _ _ e7,zv3 (au.same S8 _ _ tu7),ix.by S8,?_,?_⟩
     . rw[hxe,<- N4 hfl]
       exact Y0 nd hkl (by omega)
     . refine dZ inv (by omega) fJ ⟨_,rfl⟩ (ah.refl _) ?_
       have hr:((wq xs.length).map λw=>row.getD (aS xs w) 0).getD j 0=row.getD (aS xs j) 0:=by
         rw[wb,wt,vT hj];rfl
       rw[hr];exact(dk tw7 (i:=aS xs j) (x:=.ref (ds.getD (aS xs j) 0)) (by rw[wt,wb,wc (by omega)];rfl)).2.by S8
   . intro D' ys H8 n8 S8 e8 hl8 hr8
     have t8:au K H8 ys (((wq xs.length).map λw=>row.getD (aS xs w) 0).map N):=fL (by rw[hl8,hql];simp) hr8;rw[hel]at t8;o_head gY (dm e8 t8) (λv9 H9 S9 i9=>?_);have S69:=S7.trans (S8.trans S9);o_head aA (j:=0) (hw6.by S69) rfl (λvr9 ir9=>?_);o_head aA (j:=0) (il6.by S69) rfl (λvz9 iz9=>?_);o_head aA (j:=1) (il6.by S69) rfl (λvp9 ip9=>?_);k_few
     refine zn5 ir9 iz9 ip9 hn (by omega) hlk cp (by
       have h5:=sz.sum;rw[wP];have:(6*(bG xs).sum.toNat+3)*r<=51*30:=V1 (by omega) h30;omega) (λv10 H10 S10 i10=>?_)
     rw[wP,<- Hr]at i10;o_head aA (j:=0) (hw6.by (S69.trans S10)) rfl (λvr10 ir10=>?_);o_head cF (ds:=[R ra rb,TN (ai ra rb xs (r*(ak xs).length))]) (by simp) (.cons ir10 (.cons (i9.by S10) .nil)) (λv11 H11 S11 i11=>?_);o_head cF (ds:=[N (aG ra rb xs (r*(ak xs).length)),aW ra rb (ai ra rb xs (r*(ak xs).length))]) (by simp) (.cons (i10.by S11) (.cons i11 .nil)) (λv12 H12 S12 i12=>?_);exact q v12 H12 (T6.trans (S69.trans (S10.trans (S11.trans S12)))) i12
def Mx(K:wa):Sp:=λvs H Q _=>∃x0 x1 x2,vs=[x0,x1,x2] /\ ∃(a b:Rat)(xs:List Rat)(r g:Nat),x1=.int (r:Int)/\x2=.int (g:Int)/\Is K H x0 (aW a b xs)/\aU a b/\1<=xs.length/\xs.length<=8/\(1<=r->fq a b xs/\r<=30/\fA a b xs r)/\g<=40/\ag 8000 (aG a b xs (r*(ak xs).length))/\(∀i,i<=g->Cm 3700 (aG a b (ai a b xs (r*(ak xs).length)) i::ai a b (ai a b xs (r*(ak xs).length)) i)) /\ ∀v H',ah H H'->Is K H' v (BD a b xs (r*(ak xs).length+g))->Q v H'
theorem Ku{K:wa}{H:Hp}{Q:VK}{E:XK}{a b:Rat}{xs:List Rat}{r g:Nat}{v:V}(h:Is K H v (aW a b xs))(ok:aU a b)(h1:1<=xs.length)(h8:xs.length<=8)(f:1<=r->fq a b xs/\r<=30/\fA a b xs r)(hg:g<=40)(c:ag 8000 (aG a b xs (r*(ak xs).length)))(c2:∀i,i<=g->Cm 3700 (aG a b (ai a b xs (r*(ak xs).length)) i::ai a b (ai a b xs (r*(ak xs).length)) i))(q:∀v H',ah H H'->Is K H' v (BD a b xs (r*(ak xs).length+g))->Q v H'):Mx K [v,.int (r:Int),.int (g:Int)] H Q E:=⟨_,_,_,rfl,a,b,xs,r,g,rfl,rfl,h,ok,h1,h8,f,hg,c,c2,q⟩
theorem O_(T:Txt K mg a):aH P w K mg base aQ 10 a.HA a.F5 uP (Mx K):=by
 refine T.Ab.F.ok CC ?_ ?_;wtm_at "b3"
 refine⟨_,(ar (az 3 CC.nd (tH (bW lQ (pv 1) ay (aZ _)) (ao (JW T) hr T.z5 (ae (pv 0) (ae (pv 1) af))) (br (ae (bZ (v:=.ref a.de) rfl T.dD rfl) (ae (pv 0) af)))))
     (ar (az 4 CC.nd (ao (zvN T) hr T.Iy (ae (aj (pv 3)) (ae (pv 2) af))))
     (av (aB (br (ae (ao (fH T) hr T.fe (ae (aj (pv 3)) (ae (aj (pv 4)) af))) (ae (aj (pv 4)) af))))))),?_⟩
 wtm_at "cl";rw[show start JS [x0,x1,x2]=[some x0,some x1,some x2,none,none]from rfl];obtain⟨ra,rb,xs,r,g,rfl,rfl,hw,ok,h1,h8,f,hg,c,c2,q⟩:=h;k_few
 . rename_i z
   obtain⟨sw,h30,fr⟩:=f (by omega);refine AU hw sw h30 fr (λv1 H1 S1 i1=>?_);o_head aA (j:=1) i1 rfl (λv2 i2=>?_);o_head NA i2 ok.ba ok.bb (by rw[bV];exact h1) (by rw[bV];exact h8) (by omega) (by omega) (by rw[wP];exact c2) (λv3 H3 S3 i3=>?_);rw[wP]at i3;have i13:=i1.by S3;o_head aA (j:=0) i13 rfl (λv4 i4=>?_);o_head aA (j:=0) i3 rfl (λv5 i5=>?_);have b5:ag 3700 (aG ra rb (ai ra rb xs (r*(ak xs).length)) g):=(c2 g (wo _)).dH (wC ..);k_few;rename_i v6 H6 S6 i6;refine aA (j:=1) (i3.by S6) rfl (λv7 i7=>?_);k_few;rw[lz]at i6;rw[eP]at i7;refine cF (ds:=[N (aG ra rb xs (r*(ak xs).length+g)),aW ra rb (ai ra rb xs (r*(ak xs).length+g))]) (by simp) (.cons i6 (.cons i7 .nil)) (λv8 H8 S8 i8=>?_);exact q v8 H8 (S1.trans (S3.trans (S6.trans S8))) i8
 . rename_i z
   have hr0:r=0:=by omega
   refine cF (ds:=[N 0,aW ra rb xs]) (by simp) (.cons (d8 0 (T.eT _) rfl rfl) (.cons hw .nil)) (λv1 H1 S1 i1=>?_);have i1:Is K H1 v1 (BD ra rb xs (r*(ak xs).length)):=by rw[hr0,Qy];exact i1
   o_head aA (j:=1) i1 rfl (λv2 i2=>?_);o_head NA i2 ok.ba ok.bb (by rw[bV];exact h1) (by rw[bV];exact h8) (by omega) (by omega) (by rw[wP];exact c2) (λv3 H3 S3 i3=>?_);rw[wP]at i3;have i13:=i1.by S3;o_head aA (j:=0) i13 rfl (λv4 i4=>?_);o_head aA (j:=0) i3 rfl (λv5 i5=>?_);have b5:ag 3700 (aG ra rb (ai ra rb xs (r*(ak xs).length)) g):=(c2 g (wo _)).dH (wC ..);k_few;rename_i v6 H6 S6 i6;refine aA (j:=1) (i3.by S6) rfl (λv7 i7=>?_);k_few;rw[lz]at i6;rw[eP]at i7;refine cF (ds:=[N (aG ra rb xs (r*(ak xs).length+g)),aW ra rb (ai ra rb xs (r*(ak xs).length+g))]) (by simp) (.cons i6 (.cons i7 .nil)) (λv8 H8 S8 i8=>?_);exact q v8 H8 (S1.trans (S3.trans (S6.trans S8))) i8
def jc(h:Rat)(xs:List Rat)(r g:Nat):wy:=.tuple [N h,TN xs,.int (r:Int),.int (g:Int)]
def cJ(a b:Rat)(xs:List Rat)(i r g:Nat):Nat:=i+(r*(ak (ai a b xs i)).length+g)
def kH(a b:Rat)(xs:List Rat)(e:Nat × Nat × Nat):wy:=jc (aG a b xs e.1) (ai a b xs e.1) e.2.1 e.2.2
def nk(a b:Rat)(xs:List Rat)(n:Nat)(w:String):wy:=.tuple [N (aG a b xs n),TN (ai a b xs n),.str (wV w)]
def cj(a b:Rat)(xs:List Rat)(es:List (Nat × Nat × Nat))(n:Nat)(w:String):List wy:=es.map (kH a b xs)++[nk a b xs n w]
def d7(es:List (Nat × Nat × Nat))(n j:Nat):Nat:=(es.map (·.1)++[n]).getD j 0
theorem zvZ(es:List (Nat × Nat × Nat))(n:Nat):d7 es n es.length=n:=by
 unfold d7;rw[wb,vg (by simp)];simp
theorem oV{a b:Rat}{xs:List Rat}{es:List (Nat × Nat × Nat)}{n:Nat}{w:String}{j:Nat}(h:j<es.length):(cj a b xs es n w)[j]? = some (kH a b xs es[j]):=by
 unfold cj;rw[vY (by simpa using h),wt,wc h]
 rfl
def Sn(K:wa):Sp:=λvs H Q _=>∃x0 x1 x2,vs=[x0,x1,x2] /\ ∃(a b h h':Rat)(xs ys:List Rat)(r g:Nat)(ds:List wy),Is K H x0 (R a b)/\Is K H x1 (jc h xs r g)/\Is K H x2 (.tuple (N h'::TN ys::ds))/\aU a b/\1<=xs.length/\xs.length<=8/\(1<=r->fq a b xs/\r<=30/\fA a b xs r)/\g<=40/\ag 3500 h/\ag 3500 (aG a b xs (r*(ak xs).length+g))/\ag 8000 (aG a b xs (r*(ak xs).length))/\(∀i,i<=g->Cm 3700 (aG a b (ai a b xs (r*(ak xs).length)) i::ai a b (ai a b xs (r*(ak xs).length)) i)) /\ ∀H',ah H H'->Q (.bl (decide (h'=h+aG a b xs (r*(ak xs).length+g))&&decide (ys=ai a b xs (r*(ak xs).length+g)))) H'
theorem zsj{K:wa}{H:Hp}{Q:VK}{E:XK}{a b h h':Rat}{xs ys:List Rat}{r g:Nat}{ds:List wy}{v w u:V}(h0:Is K H v (R a b))(h1:Is K H w (jc h xs r g))(h2:Is K H u (.tuple (N h'::TN ys::ds)))(ok:aU a b)(x1:1<=xs.length)(x8:xs.length<=8)(f:1<=r->fq a b xs/\r<=30/\fA a b xs r)(hg:g<=40)(bh:ag 3500 h)(bk:ag 3500 (aG a b xs (r*(ak xs).length+g)))(c:ag 8000 (aG a b xs (r*(ak xs).length)))(c2:∀i,i<=g->Cm 3700 (aG a b (ai a b xs (r*(ak xs).length)) i::ai a b (ai a b xs (r*(ak xs).length)) i))(q:∀H',ah H H'->Q (.bl (decide (h'=h+aG a b xs (r*(ak xs).length+g))&&decide (ys=ai a b xs (r*(ak xs).length+g)))) H'):Sn K [v,w,u] H Q E:=⟨_,_,_,rfl,a,b,h,h',xs,ys,r,g,ds,h0,h1,h2,ok,x1,x8,f,hg,bh,bk,c,c2,q⟩
theorem zse(T:Txt K mg a):aH P w K mg base aQ 11 a.IE a.GA ui (Sn K):=by
 refine T.G4.F.ok Cb ?_ ?_;wtm_at "b3"
 refine⟨_,(ar (az 3 Cb.nd (br (ae (pv 0) (ae (aj (pv 1)) af))))
     (ar (bD (PW.pt (Ct (bW lQ (aj (pv 1)) ay (aZ _)) (Bp (cq (cb (ao (zt4 T) hr T.Ib (ae (pv 3) (ae (aj (pv 1)) af)))))))) (av (aB dP)) bA)
     (ar (az 4 Cb.nd (ao (O_ T) hr T.Ab (ae (pv 3) (ae (aj (pv 1)) (ae (aj (pv 1)) af)))))
     (av (aB (eQ (d9 (show aK _ (wJ .Eq) (cu K)from dq hu) (aj (pv 2)) (ao (fH T) hr T.fe (ae (aj (pv 1)) (ae (aj (pv 4)) af))) (aZ _)) (fN (d9 (show aK _ (wJ .Eq) (cu K)from dq hu) (aj (pv 2)) (aj (aj (pv 4))) (aZ _))))))))),?_⟩
 wtm_at "cl";rw[show start Ll [x0,x1,x2]=[some x0,some x1,some x2,none,none]from rfl];obtain⟨ra,rb,hh,hn,xs,ys,r,g,ds,hr,hrow,hf,ok,x1',x8,f,hg,bh,bk,c,c2,q⟩:=h;unfold jc at hrow;o_head aA (j:=1) hrow rfl (λv1 i1=>?_);o_head cF (ds:=[R ra rb,TN xs]) (by simp) (.cons hr (.cons i1 .nil)) (λv2 H2 S2 i2=>?_);have i2:Is K H2 v2 (aW ra rb xs):=i2;have hrow2:=hrow.by S2;o_head aA (j:=2) hrow2 rfl (λv3 i3=>?_);rw[b_.mp i3];k_few
 all_goals first
   | (rename_i z
      obtain⟨sw,h30,fr⟩:=f (by omega);refine aA (j:=2) hrow2 rfl (λv3 i3=>?_);rw[b_.mp i3];o_head ztU i2 sw (by omega) h30 fr (λH3 F=>?_);k_few)
   | (have F:=ah.refl H2)
 all_goals
   have hrow3:=hrow2.by F;have i23:=i2.by F;have T3:=S2.trans F;have hf3:=hf.by T3;clear F;refine aA (j:=2) hrow3 rfl (λv4 i4=>?_);rw[b_.mp i4];o_head aA (j:=3) hrow3 rfl (λv5 i5=>?_);rw[b_.mp i5];o_head Ku i23 ok x1' x8 f hg c c2 (λv6 H6 S6 i6=>?_);unfold BD at i6;have hf6:=hf3.by S6;o_head aA (j:=0) hf6 rfl (λv7 i7=>?_);o_head aA (j:=0) (hrow3.by S6) rfl (λv8 i8=>?_);o_head aA (j:=0) i6 rfl (λv9 i9=>?_);k_few
   . rename_i v10 H10 S10 i10 z
     have q':=q H10 (T3.trans (S6.trans S10));rw[decide_eq_true z,VJ]at q';refine aA (j:=1) (hf6.by S10) rfl (λv11 i11=>?_);o_head aA (j:=1) (i6.by S10) rfl (λv12 i12=>?_);o_head aA (j:=1) (show Is K H10 v12 (aW ra rb _)from i12) rfl (λv13 i13=>?_);exact C2 i11 i13 q'
   . rename_i v10 H10 S10 i10 z
     have q':=q H10 (T3.trans (S6.trans S10));rw[decide_eq_false z,Wh]at q';exact q'
def dB(a b:Rat)(xs:List Rat):Option String :=
 if(ak xs).length=1 then some "one"
 else if eW a b (bG xs) (bY xs)=true then
  if c6 a b (bG xs) (bY xs)=bY xs then some "rests"
  else if a<1/\p7 a b (bG xs)=true then some "drawn" else none
 else none
def BX:Option String->V
 | none=>.bj
 | some s=>.str (wV s)
def NO(K:wa):Sp:=λvs H Q _=>∃x0,vs=[x0] /\ ∃(a b:Rat)(xs:List Rat),Is K H x0 (aW a b xs)/\fq a b xs /\ ∀H',ah H H'->Q (BX (dB a b xs)) H'
theorem Sb{K:wa}{H:Hp}{Q:VK}{E:XK}{a b:Rat}{xs:List Rat}{v:V}(h:Is K H v (aW a b xs))(ok:fq a b xs)(q:∀H',ah H H'->Q (BX (dB a b xs)) H'):NO K [v] H Q E:=⟨_,rfl,a,b,xs,h,ok,q⟩
theorem JY(T:Txt K mg a):aH P w K mg base aQ 10 a.IU a.Hv sD (NO K):=by
 refine T.Ak.F.ok NW ?_ ?_;wtm_at "b1"
 refine⟨_,(ar (bD (bW (show aK _ (wJ .Eq) (cu K)from dq hu) (bP (show aP _ (.builtin "len") (cR K)from dS) rfl T.z_len dW (ae (ao (AA T) hr T.rk (ae (pv 0) af)) af)) ay (aZ _)) (av (aB gE)) bA)
     (ar (bD (cq (cb (ao (Bj T) hr T.rf (ae (pv 0) af)))) (av (aB fh)) bA)
     (ar (az 1 NW.nd (kN (sj T) hr T.nU w_ (ae (pv 0) af)))
     (ar (bD (cq (cb (ao (oY T) hr T.l_ (ae (aj (pv 0)) (ae (aj (pv 1)) (ae (aj (pv 1)) af)))))) (av (aB fh)) bA)
     (ar (bD (bW (show aK _ (wJ .Eq) (cu K)from dq hu) (ao (Ru T) hr T.z9 (ae (aj (pv 0)) (ae (aj (pv 1)) (ae (aj (pv 1)) af)))) (aj (pv 1)) (aZ _)) (av (aB gE)) bA)
     (ar (bD (PW.pt (Ct (bW (show aK _ (wJ .Eq) (cu K)from dq hu) (ao (NL T) hr T.Aq (ae (aj (pv 0)) af)) gE (aZ _)) (Bp (cb (ao (J9 T) hr T.z_ (ae (aj (pv 0)) (ae (aj (pv 1)) af))))))) (av (aB gE)) bA)
     (av (aB fh)))))))),?_⟩
 wtm_at "cl";rw[show start R5 [x0]=[some x0,none]from rfl];obtain⟨ra,rb,xs,hw,ok,q⟩:=h;obtain⟨rok,sz,hn⟩:=ok.round;have h8:=ok.h8;have bx:∀i,ag 4000 (xs.getD i 0):=λi=>(ok.cm.get i).mono (by decide)
 have bp:∀i,ag 4000 ((bY xs).getD i 0):=λi=>((oD ok.cm).get i).mono (by decide)
 unfold dB at q;o_head CS hw h8 bx (λlf H1 us1 n1 S1 e1 t1=>?_);have hul:=t1.length;rw[wm]at hul;have hw1:=hw.by S1;o_head iN (.of e1) ?_;rw[hul];k_few
 . rename_i z
   have z:(ak xs).length=1:=by omega
   rw[if_pos z]at q;exact q _ S1
 . rename_i z
   have z:¬ (ak xs).length=1:=by omega
   rw[if_neg z]at q;refine Dw hw1 ?_;rw[decide_eq_true ok.h0];o_head sx hw1 h8 bx (λz=>absurd ok.h0 z) (λ_ vl H2 S2 il=>?_);have hw2:=hw1.by S2;o_head aA (j:=0) hw2 rfl (λvr ir=>?_);o_head aA (j:=0) il rfl (λvz iz=>?_);o_head aA (j:=1) il rfl (λvp ip=>?_);o_head ow ir iz ip rok (λH3 S3=>?_);have T3:=S1.trans (S2.trans S3);have hw3:=hw2.by S3;have il3:=il.by S3;clear hw hw1 hw2 il ir iz ip S1 S2 S3 e1 t1 n1;k_few
   . rename_i y
     rw[if_neg (by rw[y];decide)]at q;exact q _ T3
   . rename_i y
     rw[if_pos y]at q;refine aA (j:=0) hw3 rfl (λvr ir=>?_);o_head aA (j:=0) il3 rfl (λvz iz=>?_);o_head aA (j:=1) il3 rfl (λvp ip=>?_);o_head J6 ir iz ip rok (λv4 H4 S4 i4=>?_);o_head aA (j:=1) (il3.by S4) rfl (λvp4 ip4=>?_);refine C2 i4 ip4 ?_;k_few
     . rename_i u
       rw[if_pos u]at q;exact q _ (T3.trans S4)
     . rename_i u
       rw[if_neg u]at q;refine aA (j:=0) (hw3.by S4) rfl (λvr4 ir4=>?_);o_head LU ir4 (ok.ok.ba.mono (by decide)) ?_;unfold oU
       by_cases z1:1<ra
       . rw[if_pos z1]
         o_head jz _ _ false (by rw[wQ];decide) ?_;k_few;rw[if_neg (λh=>absurd h.1 (by grind))]at q;exact q _ (T3.trans S4)
       . rw[if_neg z1]
         by_cases z2:ra=1
         . rw[if_pos z2]
           o_head jz _ _ false (by rw[wQ];decide) ?_;k_few;rw[if_neg (λh=>absurd h.1 (by grind))]at q;exact q _ (T3.trans S4)
         . rw[if_neg z2]
           have ha:ra<1:=by
             by_cases h:ra<1
             . exact h
             . exact absurd (ql (W9.mp h) (Wo z2)) z1
           o_head jz _ _ true (by rw[wQ];decide) ?_;o_head aA (j:=0) (hw3.by S4) rfl (λvr5 ir5=>?_);o_head aA (j:=0) (il3.by S4) rfl (λvz5 iz5=>?_);o_head Ky ir5 iz5 ok.ok sz z2 (λH5 S5=>?_);k_few
           . rename_i d
             rw[if_pos ⟨ha,d⟩]at q;exact q _ (T3.trans (S4.trans S5))
           . rename_i d
             rw[if_neg (λh=>by rw[h.2]at d;cases d)]at q;exact q _ (T3.trans (S4.trans S5))
def LW(a b:Rat)(xs:List Rat):Nat->List (Nat × Nat × Nat)->Nat->Prop
 | i,[],n=>i=n
 | i,e::es,n=>e.1=i/\(e.2.1<=30/\e.2.2<=40/\(1<=e.2.1->0∈ai a b xs i/\fA a b (ai a b xs i) e.2.1))/\LW a b xs (cJ a b xs i e.2.1 e.2.2) es n
theorem LW.le{a b:Rat}{xs:List Rat} : ∀{es:List (Nat × Nat × Nat)}{i n:Nat},LW a b xs i es n->i<=n
 | [],_,_,h=>xC h
 | e::es,i,n,h=>by
  have:=LW.le h.2.2;unfold cJ at this;omega
theorem LW.first{a b:Rat}{xs:List Rat}{es:List (Nat × Nat × Nat)}{i n:Nat}(h:LW a b xs i es n):d7 es n 0=i:=by
 cases es with
 | nil=>exact(show i=n from h).symm
 | cons e es=>exact h.1
theorem LW.at{a b:Rat}{xs:List Rat} : ∀{es:List (Nat × Nat × Nat)}{i n:Nat},LW a b xs i es n->∀j (hj:j<es.length),es[j].1=d7 es n j/\(es[j].2.1<=30/\es[j].2.2<=40/\(1<=es[j].2.1->0∈ai a b xs es[j].1/\fA a b (ai a b xs es[j].1) es[j].2.1))/\cJ a b xs es[j].1 es[j].2.1 es[j].2.2=d7 es n (j+1)/\d7 es n (j+1)<=n
 | [],_,_,_,j,hj=>absurd hj (by simp)
 | e::es,i,n,h,j,hj=>by
  obtain⟨e1,e2,e3⟩:=h;cases j with
  | zero =>
   have h1:=e3.first;have h2:=e3.le;rw[<- h1]at h2;refine⟨rfl,?_,?_,h2⟩
   ·show e.2.1<=30/\e.2.2<=40/\(1<=e.2.1->0∈ai a b xs e.1/\fA a b (ai a b xs e.1) e.2.1)
    rw[e1];exact e2
   ·show cJ a b xs e.1 e.2.1 e.2.2=d7 es n 0
    rw[h1,e1]
  | succ j=>exact LW.at e3 j (by simpa using hj)
def RB(a b:Rat)(xs:List Rat)(e:Nat × Nat × Nat):gG:=⟨aG a b xs e.1,ai a b xs e.1,e.2.1,e.2.2⟩
theorem ztf(a b:Rat)(xs:List Rat)(es:List (Nat × Nat × Nat))(n:Nat)(w:String):cj a b xs es n w=(es.map (RB a b xs)).map gG.d++[m9 (aG a b xs n) (ai a b xs n) w]:=by
 rw[VB];rfl
theorem RU{a b:Rat}{xs:List Rat}{es:List (Nat × Nat × Nat)}{n:Nat}{w:String}(h:∀j (hj:j<es.length),es[j].1=d7 es n j){j:Nat}(hj:j<=es.length):∃ds,(cj a b xs es n w)[j]? = some (.tuple (N (aG a b xs (d7 es n j))::TN (ai a b xs (d7 es n j))::ds)):=by
 unfold cj;rcases wD j es.length with z | z
 ·rw[vY (by simpa using z),wt,wc z,<- h j z]
  exact⟨_,rfl⟩
 ·have:j=es.length:=by omega
  subst this;rw[vg (by simp),wm,Vz,zvZ];exact⟨_,rfl⟩
theorem zy0{t u:Bool}{K:wa}{g:TG}{tb:TS}{D:ck}{σ : L2.St}{H:Hp}{a b:we}{xs ys:List V}(hx:cU t K H a xs)(hy:cU u K H b ys)(hxy:ys.length<xs.length)(Pv:Nat->L2.St->Hp->Prop)(h0:Pv 0 σ H)(hl:∀i σ H,i<=ys.length->Pv i σ H->cU t K H a xs/\cU u K H b ys)
  (hs:∀i x y σ H c H',xs[i]? = some x->ys[i]? = some y->Pv i σ H->H c=none->ah H H'->H' c=some (.tup [x,y])->g (.ref c) σ H' λσ2 H2=>tb {D with nx:=Pv (i+1),ct:=Pv (i+1),bk:=D.nx} σ2 H2) (hd:∀σ H,Pv ys.length σ H->D.nx σ H):KO t u K g tb D σ [.ref a,.ref b] H:=by
 refine⟨a,b,rfl,⟨xs,hx⟩,⟨ys,hy⟩,λi m σ H=>i+m=ys.length/\Pv i σ H,⟨ys.length,by omega,h0⟩,?_⟩;rintro i m σ H ⟨him,hp⟩;obtain⟨hq1,hq2⟩:=hl i σ H (by omega) hp
 by_cases hm:m=0
 ·have e:i=ys.length:=by omega
  subst e;exact .inl ⟨⟨xs,ys,hq1,hq2,.inr ⟨hxy,rfl⟩⟩,hd _ _ hp⟩
 ·have hi:i<xs.length:=by omega
  have hj:i<ys.length:=by omega
  refine .inr ⟨⟨xs,xs[i],ys,ys[i],hq1,by simp[hi],hq2,by simp[hj]⟩,λσ' H'=>Pv (i+1) σ' H',λσ' H' h=>⟨m-1,by omega,by omega,h⟩,?_⟩;rintro v H' ⟨c,x,y,rfl,hn,hx',hy',rfl⟩;exact hs i x y σ H c _ (hx' xs hq1) (hy' ys hq2) hp hn (ah.upd hn) cV
theorem Ox{a b:Rat}{xs:List Rat} : dB a b xs=none \/ ∃w,dB a b xs=some w/\iE w:=by
 unfold dB
 split
 ·exact .inr ⟨_,rfl,.inl rfl⟩
 ·split
  ·split
   ·exact .inr ⟨_,rfl,.inr (.inl rfl)⟩
   ·split
    ·exact .inr ⟨_,rfl,.inr (.inr rfl)⟩
    ·exact .inl rfl
  ·exact .inl rfl
theorem zCB{K:wa}{H:Hp}{Q:VK}{o:Option String}{w:String}(ho:o=none \/ ∃w,o=some w/\iE w)(hw:iE w)(q:Q (.bl (decide (o=some w))) H):cu K (BX o) (.str (wV w)) H Q:=by
 rcases ho with rfl | ⟨v,rfl,hv⟩
 ·exact nu (d:=.none) (e:=.str (wV w)) (iI.mpr rfl) (eZ.mpr rfl) (by decide) (CD w) (by rw[show wQ .none (.str (wV w))=decide ((none:Option String)=some w) by rw[wQ]<;>simp];exact q)
 ·refine jz _ _ _ ?_ q
  rcases hv with rfl | rfl | rfl<;>rcases hw with rfl | rfl | rfl<;>rw[wQ]<;>decide
def Ro(K:wa):Sp:=λvs H Q _=>∃x0 x1,vs=[x0,x1] /\ ∃(a b:Rat)(xs ys:List Rat)(es:List (Nat × Nat × Nat))(n:Nat)(w:String),Is K H x0 (aW a b xs)/\Is K H x1 (.list (cj a b ys es n w))/\aU a b/\1<=ys.length/\ys.length<=8/\xs.length=ys.length/\c8 ys/\LW a b ys 0 es n/\es.length<=100/\0∈ai a b ys n/\iE w/\(∀i k,i+k<=n->Cm 3500 (aG a b (ai a b ys i) k::ai a b (ai a b ys i) k)) /\ ∀H',ah H H'->Q (.bl (decide (ys=xs)&&decide (dB a b (ai a b ys n)=some w))) H'
theorem YF{K:wa}{H:Hp}{Q:VK}{E:XK}{a b:Rat}{xs ys:List Rat}{es:List (Nat × Nat × Nat)}{n:Nat}{w:String}{v u:V}(h:Is K H v (aW a b xs))(hp:Is K H u (.list (cj a b ys es n w)))(ok:aU a b)(h1:1<=ys.length)(h8:ys.length<=8)(hl:xs.length=ys.length)(ph:c8 ys)(lw:LW a b ys 0 es n)(bN:es.length<=100)(h0:0∈ai a b ys n)(hw:iE w)(c:∀i k,i+k<=n->Cm 3500 (aG a b (ai a b ys i) k::ai a b (ai a b ys i) k))(q:∀H',ah H H'->Q (.bl (decide (ys=xs)&&decide (dB a b (ai a b ys n)=some w))) H'):Ro K [v,u] H Q E:=⟨_,_,rfl,a,b,xs,ys,es,n,w,h,hp,ok,h1,h8,hl,ph,lw,bN,h0,hw,c,q⟩
theorem Y8(T:Txt K mg a):aH P w K mg base aQ 12 a.Jb a.G7 yh (Ro K):=by
 refine T.HM.F.ok B5 ?_ ?_;wtm_at "b2"
 refine⟨_,(ar (bD (cq (cb (ao (zsb T) hr T.G5 (ae (pv 1) (ae (bP (show aP _ (.builtin "len") (cR K)from dS) rfl T.z_len dW (ae (aj (pv 0)) af)) af))))) (av (aB dP)) bA)
     (ar (bD (PW.pt (d_ (bW (show aK _ (wJ .NotEq) (fR K)from jB hu) (aj (aj (pv 1))) (bZ (v:=.ref a.de) rfl T.dD rfl) (aZ _)) (fT (bW (show aK _ (wJ .NotEq) (fR K)from jB hu) (aj (aj (pv 1))) (aj (pv 0)) (aZ _))))) (av (aB dP)) bA)
     (ar (gz vE rfl (MU rfl T.z_zip (ae (pv 1) (ae (jQ jD (pv 1) (jL ay) jW) af))) (ml (n:=2) rfl (gW (bR (i:=2) B5.nd rfl (Or.inl rfl)) (gW (bR (i:=3) B5.nd rfl (Or.inl rfl)) mv))) (av (bD (cq (cb (ao (zse T) hr T.G4 (ae (aj (pv 0)) (ae (pv 2) (ae (pv 3) af)))))) (av (aB dP)) bA)))
     (av (aB (d9 (show aK _ (wJ .Eq) (cu K)from dq hu) (ao (JY T) hr T.Ak (ae (br (ae (aj (pv 0)) (ae (aj (dC dg (pv 1) (gA gg ay) (λ_ _=>rfl))) af))) af)) (aj (dC dg (pv 1) (gA gg ay) (λ_ _=>rfl))) (aZ _))))))),?_⟩
 wtm_at "cl";rw[show start PY [x0,x1]=[some x0,some x1,none,none]from rfl];obtain⟨ra,rb,xs,ys,es,n,wd,hw,hp,ok,y1,y8,hl,ph,lw,bN,h0,hwd,c,q⟩:=h;have hat:=lw.at;have hix:=λj hj=>(hat j hj).1
 have c0:∀i,i<=n->Cm 3500 (aG ra rb ys i::ai ra rb ys i):=λi hi=>c 0 i (by omega)
 o_head aA (j:=1) hw rfl (λv1 i1=>?_);o_head NN i1 ?_;o_head Yd (n:=xs.length) (ps:=es.map (RB ra rb ys)) (h:=aG ra rb ys n) (xs:=ai ra rb ys n) (w:=wd) (by rw[<- ztf];exact hp) (by omega) ?_ (by rw[bV];exact hl.symm) hwd (by rw[wm];exact bN) (λH1 S1=>?_)
 . intro e he
   obtain⟨e',he',rfl⟩:=wS.mp he;obtain⟨j,hj,rfl⟩:=w9 he';obtain⟨_,⟨b1,b2,_⟩,_⟩:=hat j hj;exact⟨by show(ai ra rb ys _).length=_;rw[bV];exact hl.symm,b1,b2⟩
 have hp1:=hp.by S1;have hw1:=hw.by S1;obtain⟨ds0,e0⟩:=RU (a:=ra) (b:=rb) (xs:=ys) (w:=wd) hix (j:=0) (by omega);rw[lw.first]at e0;o_head AE (j:=0) hp1 e0 (λv2 i2=>?_);o_head aA (j:=0) i2 rfl (λv3 i3=>?_);k_few
 . rename_i z;exact absurd rfl z
 refine AE (j:=0) hp1 e0 (λv4 i4=>?_);o_head aA (j:=1) i4 rfl (λv5 i5=>?_);o_head aA (j:=1) hw1 rfl (λv6 i6=>?_);refine YH (show Is K H1 v5 (TN ys)from i5) i6 ?_
 by_cases hxy:ys=xs
 . rw[decide_eq_true hxy]
   subst hxy;obtain⟨lp,us,rfl,hsp,tp⟩:=cE.mp hp1;have hul:=tp.length;have hpl:(cj ra rb ys es n wd).length=es.length+1:=by simp[cj]
   o_head k8 hp1 (λl2 H2 us2 n2 S2 e2 t2=>?_);rw[uE]at t2;have hul2:=t2.length;rw[VA,hpl]at hul2;o_head zy0 (t:=false) (u:=false) (S2.seq hsp) (aR.of e2) (by omega) (λj σ H'=>(∃o2 o3,σ = [some x0,some (.ref lp),o2,o3])/\ah H2 H') ⟨⟨_,_,rfl⟩,ah.refl _⟩ (λj σ H' _ h=>⟨h.2.seq (S2.seq hsp),h.2.seq (aR.of e2)⟩) ?_ ?_
   . rintro j x y σ H3 cc H4 hx hy ⟨⟨o2,o3,rfl⟩,S3⟩ nc S4 e4
     obtain⟨hi,ix⟩:=jZ tp hx;obtain⟨hi2,iy⟩:=jZ t2 hy;rw[VA,hpl]at hi2;have hj:j<es.length:=by omega
     obtain⟨e1,⟨ji,g40,fr⟩,e3,le⟩:=hat j hj;obtain⟨ds,ey⟩:=RU (a:=ra) (b:=rb) (xs:=ys) (w:=wd) hix (j:=j+1) (by omega);rw[wb,oV hj]at ix;rw[wb,xO,ey]at iy;have T4:=S2.trans (S3.trans S4);have ix4:Is K H4 x (jc (aG ra rb ys (d7 es n j)) (ai ra rb ys (d7 es n j)) es[j].2.1 es[j].2.2):=by rw[<- e1];exact ix.by T4
     have iy4:Is K H4 y (.tuple (N (aG ra rb ys (d7 es n (j+1)))::TN (ai ra rb ys (d7 es n (j+1)))::ds)):=iy.by (S3.trans S4);rw[e1]at e3 fr;unfold cJ at e3;generalize es[j].2.1=r at *;generalize es[j].2.2=g at *;have ci:=c0 (d7 es n j) (by omega);refine mr (.of e4) rfl ?_;o_head aA (j:=0) (hw1.by T4) rfl (λv7 i7=>?_);o_head zsj i7 ix4 iy4 ok (by rw[bV];exact y1) (by rw[bV];exact y8) (λr1=>⟨⟨ok,by rw[bV];exact y1,by rw[bV];exact y8,ph.at ok.a0 ok.b0 _,(fr r1).1,(kI ci λy hy=>wB _ hy).mono (by decide)⟩,ji,(fr r1).2⟩) g40 (ci.dH (wC ..)) ((c _ _ (by omega)).dH (wC ..)) (((c (d7 es n j) (r*(ak (ai ra rb ys (d7 es n j))).length) (by omega)).dH (wC ..)).mono (by decide)) (λt ht=>by rw[eP];exact(c _ t (by omega)).mono (by decide)) (λH5 S5=>?_);rw[lz,eP,e3,decide_eq_true rfl,decide_eq_true rfl,xm];k_few;exact⟨⟨_,_,rfl⟩,S3.trans (S4.trans S5)⟩
   . rintro σ H3 ⟨⟨o2,o3,rfl⟩,S3⟩
     have T3:=S2.trans S3;have hw3:=hw1.by T3;have hp3:=hp1.by T3;have cn:=c0 n (wo n);o_head aA (j:=0) hw3 rfl (λv7 i7=>?_);o_head lH hp3 (λv8 i8=>?_);unfold nk at i8;o_head aA (j:=1) i8 rfl (λv9 i9=>?_);o_head cF (ds:=[R ra rb,TN (ai ra rb ys n)]) (by simp) (.cons i7 (.cons i9 .nil)) (λv10 H10 S10 i10=>?_);o_head Sb (show Is K H10 v10 (aW ra rb (ai ra rb ys n))from i10) ⟨ok,by rw[bV];exact y1,by rw[bV];exact y8,ph.at ok.a0 ok.b0 _,h0,(kI cn λy hy=>wB _ hy).mono (by decide)⟩ (λH11 S11=>?_);have S311:=S10.trans S11;o_head lH (hp3.by S311) (λv12 i12=>?_);unfold nk at i12;o_head aA (j:=2) i12 rfl (λv13 i13=>?_);rw[eZ.mp i13];refine zCB Ox hwd ?_;have q':=q H11 (S1.trans (T3.trans S311));rw[decide_eq_true rfl,VJ]at q';exact q'
 . rw[decide_eq_false hxy]
   k_few;have q':=q H1 S1;rw[decide_eq_false hxy,Wh]at q';exact q'
def Oz(K:wa):Sp:=λvs H Q _=>∃x0,vs=[x0] /\ ∃(a b:Rat)(xs:List Rat)(g:Nat),Is K H x0 (aW a b xs)/\aU a b/\1<=xs.length/\xs.length<=8/\g<=8/\(∀t,t<=g->Cm 3700 (ai a b xs t))/\(∀t,t<g->(c7 a b (ai a b xs t)).length=1)/\(c7 a b (ai a b xs g)).length≠1 /\ ∀H',ah H H'->Q (.int ((g+1:Nat):Int)) H'
theorem Kt{K:wa}{H:Hp}{Q:VK}{E:XK}{a b:Rat}{xs:List Rat}{g:Nat}{v:V}(h:Is K H v (aW a b xs))(ok:aU a b)(h1:1<=xs.length)(h8:xs.length<=8)(hg:g<=8)(c:∀t,t<=g->Cm 3700 (ai a b xs t))(w1:∀t,t<g->(c7 a b (ai a b xs t)).length=1)(w2:(c7 a b (ai a b xs g)).length≠1)(q:∀H',ah H H'->Q (.int ((g+1:Nat):Int)) H'):Oz K [v] H Q E:=⟨_,rfl,a,b,xs,g,h,ok,h1,h8,hg,c,w1,w2,q⟩
theorem zlh(T:Txt K mg a):aH P w K mg base aQ 5 a.FU a.Ft zu (Oz K):=by
 refine T.FD.F.ok pN ?_ ?_;wtm_at "b1"
 refine⟨_,(ar (az 1 pN.nd ay)
     (ar (az 2 pN.nd (ao (AK T) hr T.rq (ae (pv 0) af)))
     (ar (nF vE (bW (show aK _ (wJ .Eq) (cu K)from dq hu) (bP (show aP _ (.builtin "len") (cR K)from dS) rfl T.z_len dW (ae (aj (pv 2)) af)) ay (aZ _)) (ar (zBE (i:=1) pN.nd rfl (Or.inl rfl) ay Ut)
     (av (az 2 pN.nd (ao (AK T) hr T.rq (ae (aj (pv 2)) af))))))
     (av (aB (pv 1)))))),?_⟩
 wtm_at "cl";rw[show start Nz [x0]=[some x0,none,none]from rfl];obtain⟨ra,rb,xs,g,hw,ok,h1,h8,hg,c,w1,w2,q⟩:=h;o_head BK hw ok.ba ok.bb h1 h8 (c 0 (by omega)) (by omega) (λv2 H2 S2 i2=>?_);o_head sh (λm σ' H'=>∃(t:Nat)(v:V),σ'=[some x0,some (.int ((t+1:Nat):Int)),some v]/\m=g-t/\t<=g/\ah H H'/\Is K H' v (GD ra rb (ai ra rb xs t))) _ ⟨0,v2,rfl,rfl,by omega,S2,i2⟩ ?_;rintro m σ' H3 ⟨t,v,rfl,rfl,ht,S3,iv⟩;o_head aA (j:=1) iv rfl (λv4 i4=>?_);o_head kE i4 ?_;rw[wm];k_few
 . rename_i z
   have z:(c7 ra rb (ai ra rb xs t)).length=1:=by omega
   have htg:t<g:=by
     rcases wD t g with y | y
     . exact y
     . have:t=g:=by omega
       subst this;exact absurd z w2
   have hpl:=bV ra rb xs t;have hpl2:=bV ra rb xs (t+1);refine sa ?_;o_head zAt rfl ?_;o_head zBS ?_;o_head aA (j:=2) iv rfl (λv5 i5=>?_);o_head BK (show Is K H3 v5 (aW ra rb (ai ra rb xs (t+1)))from i5) ok.ba ok.bb (by omega) (by omega) (c (t+1) (by omega)) (by omega) (λv6 H6 S6 i6=>?_);k_few;exact⟨g-(t+1),by omega,t+1,v6,by push_cast;rfl,rfl,by omega,S3.trans S6,i6⟩
 . rename_i z
   have htg:t=g:=by
     rcases wD t g with y | y
     . exact absurd (by rw[w1 t y];rfl) z
     . omega
   subst htg;exact q H3 S3
def Ov(B:Int)(x:Rat):Prop:=∃t:Int,x=wu t B
theorem Ov.zero(B:Int):Ov B 0:=⟨0,by simp⟩
theorem Ov.more{B d:Int}{x:Rat}(h:Ov B x)(hB:0<B)(hd:0<d):Ov (B*d) x:=by
 obtain⟨t,rfl⟩:=h;exact⟨t*d,pW hB hd⟩
theorem Z3(t u:Int):∃m,Bd m t/\Bd m u:=⟨t.natAbs+u.natAbs,⟨WJ (by omega:t.natAbs<=t.natAbs+u.natAbs) xw⟩,⟨WJ (by omega:u.natAbs<=t.natAbs+u.natAbs) xw⟩⟩
theorem YL{a b:Rat}(h:aU a b):Bd 6 a.num:=by
 have h1:=h.a0;have h2:=h.a4;have h3:=h.ad;have n0:0<=a.num:=qw.mpr (vK h1)
 have n1:a.num<=4*a.den:=by
   have:=(xf a 4).mp h2
   simpa using this
 exact ⟨by have : (2 : Nat) ^ 6 = 64 := by decide
           omega⟩
theorem UT{a b:Rat}(h:aU a b):Bd 4 (a.den:Int):=by
 have h3:=h.ad
 exact ⟨by have : (2 : Nat) ^ 4 = 16 := by decide
           omega⟩
theorem zCW{a b:Rat}(h:aU a b):Bd 4 b.num:=by
 have h1:=h.b0;have h2:=h.b1;have h3:=h.bd;have n0:0<=b.num:=qw.mpr h1
 have n1:b.num<=b.den:=by
   have:=(xf b 1).mp h2
   simpa using this
 exact ⟨by have : (2 : Nat) ^ 4 = 16 := by decide
           omega⟩
theorem Ov.push{a b:Rat}(ok:aU a b){B:Int}{x:Rat}(hB:0<B)(hd:(b.den:Int) ∣ B)(h:Ov B x)(n:Nat):Ov (B*(a.den:Int)^n) (push a b n x):=by
 obtain⟨t,rfl⟩:=h;obtain⟨m,h1,h2⟩:=Z3 t B;obtain⟨_,_,_,T,e,_⟩:=RL (YL ok) (UT ok) (zCW ok) hB hd h1 h2 n;exact⟨T,e⟩
theorem oA(a:Rat)(n:Nat):0<(a.den:Int)^n:=Xd (den_pos a)
theorem Ov.up{a:Rat}{B:Int}{x:Rat}(h:Ov B x)(hB:0<B)(n:Nat):Ov (B*(a.den:Int)^n) x:=h.more hB (oA a n)
theorem KH{B:Int}{xs:List Rat}(h:∀x∈xs,Ov B x)(i:Nat):Ov B (xs.getD i 0):=by
 rcases wD i xs.length with z | z
 ·exact h _ (getD_mem z)
 ·rw[wb,wE z];exact Ov.zero B
theorem zwB{B:Int}{xs:List Rat}(h:∀i,i<xs.length->Ov B (xs.getD i 0)):∀x∈xs,Ov B x:=λx hx=>by
 obtain⟨j,hj,rfl⟩:=w9 hx;have:=h j hj;rw[wb,wc hj]at this;exact this
theorem L8{a b:Rat}(ok:aU a b):∀(n:Nat)(B:Int)(ps:List Rat)(left:List Nat),0<B->(b.den:Int) ∣ B->left.Nodup->(∀w∈left,w<ps.length)->(∀x∈ps,Ov B x)->∀x∈(cN a b n ps left).2.2,Ov (B*(a.den:Int)^(cN a b n ps left).1.flatten.length) x
 | 0,B,ps,left,hB,_,_,_,h=>λx hx=>by
  have:Ov (B*(a.den:Int)^0) x:=by rw[qO,QQ];exact h x hx
  exact this
 | n+1,B,ps,left,hB,hd,nd,lt,h=>by
  by_cases e:aF ps left=[]
  ·rw[mI e]
   intro x hx;have:Ov (B*(a.den:Int)^0) x:=by rw[qO,QQ];exact h x hx
   exact this
  ·rw[jj e]
   have nd':(bS left (aF ps left)).Nodup:=mZ nd;have lt':=m6 (wave:=aF ps left) lt
   have ih:=L8 ok n (B*(a.den:Int)^(aF ps left).length) (cQ (a^(aF ps left).length) (aE a b (aF ps left).length) ps (bS left (aF ps left))) (bS left (aF ps left)) (vI hB (oA a _)) (V5 hd (Vm ..)) nd' (λw hw=>by rw[iA];exact lt' w hw) (zwB λi hi=>by
    rw[jg _ _ _ _ nd' lt']
    split
    ·rw[<- hJ];exact(KH h i).push ok hB hd _
    ·exact(KH h i).up hB _)
   intro x hx;have:=ih x hx
   show Ov (B*(a.den:Int)^(aF ps left::_).flatten.length) x
   rw[Vk,wR,Xf,<- VI];exact this
theorem Ov.rise{B:Int}{x y:Rat}(hx:Ov B x)(hy:Ov B y)(hB:0<B):Ov B (x+(1-y)):=by
 obtain⟨t,rfl⟩:=hx;obtain⟨z,rfl⟩:=hy;refine⟨t+B-z,?_⟩
 symm
 refine f_ (by omega) ?_;have q1:=cH t (show B≠0 by omega);have q2:=cH z (show B≠0 by omega);have q3:((t+B-z:Int):Rat)=(t:Rat)+(B:Rat)-(z:Rat):=by push_cast;rfl
 rw[q3,<- q1,<- q2]
 grind
def jk(a b:Rat)(xs:List Rat):Nat:=(c7 a b xs).flatten.length
theorem zzV{a b:Rat}(ok:aU a b){B:Int}(hB:0<B)(hd:(b.den:Int) ∣ B){xs:List Rat}(h1:1<=xs.length)(h:∀x∈xs,Ov B x):∀y∈c9 a b xs,Ov (B*(a.den:Int)^jk a b xs) y:=by
 have hr:∀x∈bC xs,Ov B x:=λx hx=>by
  obtain⟨y,hy,rfl⟩:=wS.mp hx;exact(h y hy).rise (h _ (fC h1)) hB
 have:=L8 ok xs.length B (bC xs) (wq xs.length) hB hd W1 (λw hw=>by rw[fF];exact wF.mp hw) hr;intro y hy;rcases zxQ y hy with z | z
 ·exact this y z
 ·rw[z];exact Ov.zero _
def cf(a b:Rat)(xs:List Rat):Nat->Nat
 | 0=>0
 | k+1=>cf a b xs k+jk a b (ai a b xs k)
theorem mW(a b:Rat)(xs:List Rat)(m:Nat):∀k,cf a b xs (m+k)=cf a b xs m+cf a b (ai a b xs m) k
 | 0=>rfl
 | k+1=>by
  show cf a b xs (m+k)+jk a b (ai a b xs (m+k))=cf a b xs m+(cf a b (ai a b xs m) k+jk a b (ai a b (ai a b xs m) k))
  rw[mW a b xs m k,eP];omega
theorem J5{a b:Rat}(ok:aU a b){B:Int}(hB:0<B)(hd:(b.den:Int) ∣ B){xs:List Rat}(h1:1<=xs.length)(h:∀x∈xs,Ov B x):∀k,(∀y∈ai a b xs k,Ov (B*(a.den:Int)^cf a b xs k) y)/\Ov (B*(a.den:Int)^cf a b xs k) (aG a b xs k)
 | 0=>by
  show(∀y∈xs,Ov (B*(a.den:Int)^0) y)/\Ov (B*(a.den:Int)^0) 0
  rw[qO,QQ];exact⟨h,Ov.zero B⟩
 | k+1=>by
  obtain⟨hp,hh⟩:=J5 ok hB hd h1 h k;have hBk:=vI hB (oA a (cf a b xs k));have hpl:=bV a b xs k
  have e:B*(a.den:Int)^cf a b xs (k+1)=B*(a.den:Int)^cf a b xs k*(a.den:Int)^jk a b (ai a b xs k):=by
   rw[VI,<- Xf];rfl
  rw[e];refine⟨zzV ok hBk (V5 hd (Vm ..)) (by omega) hp,?_⟩;exact(Ov.rise hh (hp _ (fC (by omega))) hBk).up hBk _
theorem Rt{a b:Rat}(a0:0<a)(b0:0<=b){xs:List Rat}(h1:1<=xs.length)(hp:c8 xs):∀k:Nat,0<=aG a b xs k/\aG a b xs k<=((k:Int):Rat)
 | 0=>⟨WB,WB⟩
 | k+1=>by
  obtain⟨l,u⟩:=Rt a0 b0 h1 hp k;have hk:=hp.at a0 b0 k;have hm:=fC (xs:=ai a b xs k) (by rw[bV];exact h1);have m0:=hk.nn _ hm;have m1:=hk.lt _ hm;have e:aG a b xs (k+1)=aG a b xs k+(1-aY (ai a b xs k)):=rfl;have ek:(((k+1:Nat):Int):Rat)=((k:Int):Rat)+1:=by push_cast;rfl
  rw[e,ek];exact⟨by grind,by grind⟩
theorem Nf{B:Int}{m l:Nat}{x:Rat}(hB:0<B)(bB:Bd m B)(h:Ov B x)(x0:0<=x)(x1:x<=(((2^l:Nat):Int):Rat)):∃t:Int,x=wu t B/\Bd (m+l+1) t:=by
 obtain⟨t,rfl⟩:=h;refine⟨t,rfl,?_⟩;have q1:=cH t (show B≠0 by omega);have hBr:(0:Rat)<(B:Rat):=XD.mpr hB;have t0:(0:Rat)<=(t:Rat):=by rw[<- q1];exact qx x0 (vK hBr)
 have t1:(t:Rat)<=(((2^l:Nat):Int):Rat)*(B:Rat):=by
  rw[<- q1];exact qP x1 (vK hBr)
 have t0':0<=t:=Rat.intCast_nonneg.mp t0
 have t1':t<=((2^l:Nat):Int)*B:=by
  rw[<- vJ]at t1;exact W7.mp t1
 have b:=bB.lt;refine⟨?_⟩
 have hb:t.natAbs<=2^l*B.natAbs:=by
  have e:((2^l*B.natAbs:Nat):Int)=((2^l:Nat):Int)*B:=by
   rw[Vc]
   congr 1
   omega
  omega
 have:2^l*B.natAbs<2^l*2^m:=Nat.mul_lt_mul_of_pos_left b (Wa l);have e2:2^(m+l+1)=2^l*2^m*2:=by rw[xE,Xc,Nat.mul_comm (2^m)]
 omega
theorem zAf{a b:Rat}(ok:aU a b){B:Int}{m:Nat}(h:Bd m B)(n:Nat):Bd (m+3*n) (B*(a.den:Int)^n):=by
 refine⟨?_⟩;have h1:=h.lt;have h8:=ok.ad;rw[Q3,Int.natAbs_pow,Int.natAbs_natCast,Xc,Nat.pow_mul];have e:(2:Nat)^3=8:=by decide
 rw[e];have h2:a.den^n<=8^n:=Nat.pow_le_pow_left h8 n;have hp:0<8^n:=Nat.pow_pos (by decide);exact WJ (qT _ h2) (Nat.mul_lt_mul_of_pos_right h1 hp)
theorem Ov.sub{B:Int}{x y:Rat}(hx:Ov B x)(hy:Ov B y)(hB:0<B):Ov B (x-y):=by
 obtain⟨t,rfl⟩:=hx;obtain⟨z,rfl⟩:=hy;refine⟨t-z,?_⟩
 symm
 refine f_ (by omega) ?_;have q1:=cH t (show B≠0 by omega);have q2:=cH z (show B≠0 by omega);have q3:((t-z:Int):Rat)=(t:Rat)-(z:Rat):=by push_cast;rfl
 rw[q3,<- q1,<- q2]
 grind
theorem zzO{a b:Rat}(ok:aU a b){m:Nat}{xs:List Rat}(c:j6 b.den m xs)(h1:1<=xs.length)(hp:c8 xs){i k l:Nat}(hk:k<=2^l):Cm (m+3*cf a b xs (i+k)+l+1) (aG a b (ai a b xs i) k::ai a b (ai a b xs i) k):=by
 obtain⟨B,hB,hd,bB,hx⟩:=c;have hov:=J5 ok hB hd h1 (λx hx'=>let ⟨t,e,_⟩:=hx x hx';⟨t,e⟩);obtain⟨hph,hh⟩:=hov (i+k);have hBk:=vI hB (oA a (cf a b xs (i+k)))
 have hi:Ov (B*(a.den:Int)^cf a b xs (i+k)) (aG a b xs i):=by
  have:=((hov i).2).up (a:=a) (vI hB (oA a (cf a b xs i))) (cf a b (ai a b xs i) k);rw[VI,<- Xf,<- mW]at this;exact this
 have hhk:Ov (B*(a.den:Int)^cf a b xs (i+k)) (aG a b (ai a b xs i) k):=by
  have e:aG a b (ai a b xs i) k=aG a b xs (i+k)-aG a b xs i:=by
   have:=lz a b xs i k
   grind
  rw[e];exact hh.sub hi hBk
 have bb:=zAf ok bB (cf a b xs (i+k));have hpi:=hp.at ok.a0 ok.b0 i;have hpk:=hpi.at ok.a0 ok.b0 k;have hl:(((k:Nat):Int):Rat)<=(((2^l:Nat):Int):Rat):=W7.mpr (by omega)
 have h1l:(1:Rat)<=(((2^l:Nat):Int):Rat):=by
  have:((1:Int):Rat)<=(((2^l:Nat):Int):Rat):=W7.mpr (by have:=Wa l;omega);exact this
 refine⟨_,hBk,bb.mono (by omega),λx hx'=>?_⟩;rcases wG.mp hx' with rfl | hx'
 ·have hb:=Rt ok.a0 ok.b0 (xs:=ai a b xs i) (by rw[bV];exact h1) hpi k
  exact Nf hBk bb hhk hb.1 (Qw hb.2 hl)
 ·have:=hph x (by rw[<- eP];exact hx')
  exact Nf hBk bb this (hpk.nn x hx') (Qw (vK (hpk.lt x hx')) h1l)
theorem zyV{a b:Rat}(a0:0<a)(b0:0<=b){xs:List Rat}(h1:1<=xs.length)(hp:c8 xs):jk a b xs<=xs.length:=by
 obtain⟨v,J⟩:=Cq a0 b0 h1 hp.nn hp.lt;unfold jk;rw[J.perm.length_eq];unfold seg;have:=Wr (λw=>decide (0<=aS xs w)&&decide (aS xs w<v)) (wq xs.length);rw[vB]at this;exact this
theorem zO{a b:Rat}(a0:0<a)(b0:0<=b){xs:List Rat}(h1:1<=xs.length)(hp:c8 xs):∀k,cf a b xs k<=k*xs.length
 | 0=>V7 _
 | k+1=>by
  have ih:=zO a0 b0 h1 hp k;have hl:=bV a b xs k;have:=zyV a0 b0 (xs:=ai a b xs k) (by omega) (hp.at a0 b0 k);rw[qi]
  show cf a b xs k+jk a b (ai a b xs k)<=_
  omega
theorem YJ{a b:Rat}(a0:0<a)(b0:0<=b){xs:List Rat}(h1:1<=xs.length)(hp:c8 xs):1<=(c7 a b xs).length:=by
 obtain⟨v,J⟩:=Cq a0 b0 h1 hp.nn hp.lt;obtain⟨ws,e,_⟩:=J.first;rw[e];simp
theorem NU{a b:Rat}(a0:0<a)(b0:0<=b){xs:List Rat}(h1:1<=xs.length)(hp:c8 xs):(ak (c9 a b xs)).length<=(ak xs).length/\(1<(c7 a b xs).length->(ak (c9 a b xs)).length<(ak xs).length):=by
 obtain⟨v,J⟩:=Cq a0 b0 h1 hp.nn hp.lt;have e:=congrArg List.length J.new;rw[jb,wR,vU,jb,vS]at e;have v1:=J.v1;have vm:=J.vm;exact⟨by omega,λh=>by have:=J.more.mp h;omega⟩
theorem OJ{a b:Rat}(a0:0<a)(b0:0<=b){xs:List Rat}(h1:1<=xs.length)(hp:c8 xs):∀k,(ak (ai a b xs k)).length<=(ak xs).length
 | 0=>wo _
 | k+1=>Wb (NU a0 b0 (xs:=ai a b xs k) (by rw[bV];exact h1) (hp.at a0 b0 k)).1 (OJ a0 b0 h1 hp k)
theorem Ls{a b:Rat}(ok:aU a b){xs ps:List Rat}{fl:Nat->Nat}{ns:List Int}(L:gc xs (ps++[0]) fl ns)(hn:ns.length=ps.length+1)(f:eW a b ns ps=true):∀t,t<=ns.length->cf a b xs t=upTo ns t
 | 0,_=>rfl
 | t+1,ht=>by
  have ih:=Ls ok L hn f t (by omega);have hw:=(Lh ok L hn f).2.1 t (by omega);have hl:(ps++[0]).length=ns.length:=by simp[hn]
  have hs:=L.size t (by omega)
  show cf a b xs t+jk a b (ai a b xs t)=_
  unfold jk;rw[hw,ih,ox (by omega),hs];simp
theorem Lp{a b:Rat}(ok:aU a b){xs ps:List Rat}{fl:Nat->Nat}{ns:List Int}(L:gc xs (ps++[0]) fl ns)(hn:ns.length=ps.length+1)(n0:∀n∈ns,0<=n):∀k,(∀j,j<k->cz a b ns ps j=true)->cf a b xs (k*ns.length)=k*upTo ns ns.length
 | 0,_=>by rw[Qy,Qy];rfl
 | k+1,h=>by
  have ih:=Lp ok L hn n0 k λj hj=>h j (by omega)
  obtain⟨Lk,_⟩:=yt ok L hn n0 k λj hj=>h j (by omega)
  have hl:ns.length=(cP a b ns k ps).length+1:=by rw[dG];exact hn
  rw[qi,mW,ih,Ls ok Lk hl (h k (by omega)) _ (wo _),qi]
structure gx(a b:Rat)(xs:List Rat)(r g:Nat):Prop where
 ji:r<=30
 free:fA a b xs r
 ends:cz a b (bG xs) (bY xs) r=false
 g1:1<=g
 gN:g<=(ak xs).length
 one:∀t,t+1<g->(c7 a b (ai a b (ai a b xs (r*(ak xs).length)) t)).length=1
 join:1<(c7 a b (ai a b (ai a b xs (r*(ak xs).length)) (g-1))).length
theorem Ko{p:Nat->Prop} : ∀n,(∃t,t<n /\ ¬ p t)->∃g,g<n/\(∀t,t<g->p t) /\ ¬ p g
 | 0,h=>by obtain⟨t,ht,_⟩:=h;omega
 | n+1,h=>by
  by_cases z:∃t,t<n /\ ¬ p t
  ·obtain⟨g,h1,h2,h3⟩:=Ko n z
   exact⟨g,by omega,h2,h3⟩
  ·obtain⟨t,ht,hp⟩:=h
   have htn:t=n:=by
    rcases wD t n with y | y
    ·exact absurd ⟨t,y,hp⟩ z
    ·omega
   subst htn;exact⟨t,by omega,λs hs=>VS.mp λy=>z ⟨s,hs,y⟩,hp⟩
structure zCD(a b:Rat)(xs:List Rat):Prop where
 hz:bY xs++[0]=ak xs
 hn:(bG xs).length=(bY xs).length+1
 hs:(bG xs).length=(ak xs).length
 L:gc xs (bY xs++[0]) (aS xs) (bG xs)
theorem JK{a b:Rat}{xs:List Rat}(hp:c8 xs)(h0:0∈xs):zCD a b xs:=by
 have hz:bY xs++[0]=ak xs:=Df hp h0;have hsl:=zX xs;have hpl:(bY xs).length+1=(ak xs).length:=by rw[<- hz];simp
 exact⟨hz,by omega,hsl,by rw[hz];exact RM hp.nn hp.lt⟩
theorem L3{a b:Rat}{xs:List Rat}(ok:aU a b)(h1:1<=xs.length)(hp:c8 xs)(h0:0∈xs){r:Nat}(h30:r<=30)(f:fA a b xs r)(e:cz a b (bG xs) (bY xs) r=false):∃g,gx a b xs r g:=by
 obtain⟨hz,hn,hs,L⟩:=JK (a:=a) (b:=b) hp h0;obtain⟨Lr,_⟩:=yt ok L hn (yK xs) r f;obtain⟨t,ht,hj⟩:=Z5 ok Lr (by rw[dG];exact hn) e;rw[hs]at ht hj;obtain⟨g,g1,g2,g3⟩:=Ko (p:=λt=>(c7 a b (ai a b (ai a b xs (r*(ak xs).length)) t)).length=1) (ak xs).length ⟨t,ht,λz=>by rw[z]at hj;omega⟩;refine⟨g+1,h30,f,e,by omega,by omega,λt ht=>g2 t (by omega),?_⟩;have:=YJ (a:=a) (b:=b) ok.a0 ok.b0 (xs:=ai a b (ai a b xs (r*(ak xs).length)) g) (by rw[bV,bV];exact h1) ((hp.at ok.a0 ok.b0 _).at ok.a0 ok.b0 _);rw[qk];have g3:¬ (c7 a b (ai a b (ai a b xs (r*(ak xs).length)) g)).length=1:=g3;omega
theorem gx.cf{a b:Rat}{xs:List Rat}{r g:Nat}(R:gx a b xs r g)(ok:aU a b)(h1:1<=xs.length)(hp:c8 xs)(h0:0∈xs){t:Nat}(ht:t<=g):cf a b xs (r*(ak xs).length+t)<=30*xs.length+xs.length*xs.length:=by
 obtain⟨hz,hn,hs,L⟩:=JK (a:=a) (b:=b) hp h0;have h2:=Lp ok L hn (yK xs) r R.free;rw[hs]at h2;have h3:=O2 xs;rw[hs]at h3;have h4:=zO ok.a0 ok.b0 (xs:=ai a b xs (r*(ak xs).length)) (by rw[bV];exact h1) (hp.at ok.a0 ok.b0 _) t;rw[bV]at h4;rw[mW,h2];have h5:r*upTo (bG xs) (ak xs).length<=30*xs.length:=V1 R.ji h3;have h6:t*xs.length<=xs.length*xs.length:=vZ _ (by have:=R.gN;have:=kf xs;omega);omega
theorem gx.Js{a b:Rat}{xs:List Rat}{r g:Nat}(R:gx a b xs r g)(ok:aU a b)(h1:1<=xs.length)(hp:c8 xs):(ak (ai a b xs (r*(ak xs).length+g))).length<(ak xs).length:=by
 have g1:=R.g1
 have e:ai a b xs (r*(ak xs).length+g)=c9 a b (ai a b (ai a b xs (r*(ak xs).length)) (g-1)):=by
  rw[<- eP];obtain⟨k,rfl⟩:∃k,g=k+1:=⟨g-1,by omega⟩
  rfl
 have h2:c8 (ai a b (ai a b xs (r*(ak xs).length)) (g-1)):=(hp.at ok.a0 ok.b0 _).at ok.a0 ok.b0 _;have hl:(ai a b (ai a b xs (r*(ak xs).length)) (g-1)).length=xs.length:=by rw[bV,bV]
 have h3:=(NU ok.a0 ok.b0 (xs:=ai a b (ai a b xs (r*(ak xs).length)) (g-1)) (by omega) h2).2 R.join;have h4:=OJ ok.a0 ok.b0 (xs:=xs) h1 hp (r*(ak xs).length+(g-1));rw[eP]at h3;rw[eP]at e;rw[e];omega
theorem zte{a b:Rat}{ns:List Int}{xs:List Rat}(ok:aU a b)(sz:df ns)(hn:ns.length=xs.length+1)(st:eK a b ns xs=true):c6 a b ns xs=xs\/(a<1/\p7 a b ns=true):=by
 have hps:=sz.pos;unfold eK at st
 by_cases z1:1<a
 ·rw[if_pos z1]at st
  have e:=of_decide_eq_true st;have hF:a^ns.sum.toNat≠1:=λe=>absurd ((rH ok (by omega)).mp e) (by grind)
  refine .inl ?_;rw[<- DM hn sz.nn,zzv hF hn 1];rw[<- e,zx8]
 ·rw[if_neg z1]at st
  by_cases z2:a=1
  ·rw[if_pos z2]at st
   refine .inl ?_;rw[<- DM hn sz.nn]
   exact kK (dG ..) λi hi=>by
    rw[dG]at hi;have hi':i<(dh a b ns).length:=by rw[mC (by omega)];omega
    have hz:(dh a b ns).getD i 0=0:=by
     rw[Wt]at st;have:=st _ (wS.mpr ⟨_,getD_mem (d:=0) hi',rfl⟩);exact of_decide_eq_true this
    rw[kF hi,hz];unfold fD;rw[z2,GM.one_pow',GM.one_pow']
    grind
  ·rw[if_neg z2]at st
   refine .inr ⟨?_,st⟩
   by_cases h:a<1
   ·exact h
   ·exact absurd (ql (W9.mp h) (Wo z2)) z1
theorem zAz{a b:Rat}{xs:List Rat}(ok:fq a b xs)(h:dB a b xs=none)(f:cz a b (bG xs) (bY xs) 0=true):eK a b (bG xs) (bY xs)=false:=by
 obtain⟨_,sz,hn⟩:=ok.round;unfold cz at f;rw[m_]at f;cases e:eK a b (bG xs) (bY xs)with
 | false=>rfl
 | true =>
  unfold dB at h;rw[if_pos f]at h
  split at h
  ·cases h
  ·split at h
   ·cases h
   ·rename_i y
    rcases zte ok.ok sz hn e with z | z
    ·exact absurd z y
    ·rw[if_pos z]at h;cases h
def JP(K:wa)(a:Ad):Sp:=λvs H Q E=>∃x0 x1,vs=[x0,x1] /\ ∃(ra rb h:Rat)(xs:List Rat),Is K H x0 (N h)/\Is K H x1 (aW ra rb xs)/\fq ra rb xs/\dB ra rb xs=none/\(∀r g t,gx ra rb xs r g->t<=g->Cm 3600 (ai ra rb xs (r*(ak xs).length+t))) /\
 ((∀k,k<=30->cz ra rb (bG xs) (bY xs) k=true)->∀H',ah H H'->E (.ref a.fc) none H') /\ ∀r g v H',gx ra rb xs r g->ah H H'->Is K H' v (jc h xs r g)->Q v H'
theorem zs4{K:wa}{a:Ad}{H:Hp}{Q:VK}{E:XK}{ra rb h:Rat}{xs:List Rat}{v w:V}(h1:Is K H v (N h))(h2:Is K H w (aW ra rb xs))(ok:fq ra rb xs)(hw:dB ra rb xs=none)(c:∀r g t,gx ra rb xs r g->t<=g->Cm 3600 (ai ra rb xs (r*(ak xs).length+t)))(qe:(∀k,k<=30->cz ra rb (bG xs) (bY xs) k=true)->∀H',ah H H'->E (.ref a.fc) none H')(q:∀r g v H',gx ra rb xs r g->ah H H'->Is K H' v (jc h xs r g)->Q v H'):JP K a [v,w] H Q E:=⟨_,_,rfl,ra,rb,h,xs,h1,h2,ok,hw,c,qe,q⟩
theorem zsz(T:Txt K mg a):aH P w K mg base (eI P w) 12 a.Ij a.Gu tY (JP K a):=by
 refine T.Hy.F.mT yo ?_ ?_;wtm_at "b2"
 refine⟨_,(ar (az 2 yo.nd (kN (sj T) hr T.nU zb (ae (pv 1) af)))
     (ar (az 3 yo.nd (kN (Yl T) hr T.F6 zb (ae (aj (pv 1)) (ae (aj (pv 2)) (ae (aj (pv 2)) af)))))
     (ar (az 4 yo.nd (ao (zlh T) hr T.FD (ae (aj (ao (JW T) hr T.z5 (ae (pv 1) (ae (pv 3) af)))) af)))
     (av (aB (br (by exact(@ae _ _ _ _ _ (pv 0) (@ae _ _ _ _ _ (aj (pv 1)) (@ae _ _ _ _ _ (pv 3) (@ae _ _ _ _ _ (pv 4) af fE) fE) fk) fE)))))))),?_⟩
 wtm_at "cl";rw[show start KC [x0,x1]=[some x0,some x1,none,none,none]from rfl];obtain⟨ra,rb,hr',xs,ih,hw,ok,hno,hc,qe,q⟩:=h;obtain⟨rok,sz,hn⟩:=ok.round;have h8:=ok.h8;have bx:∀i,ag 4000 (xs.getD i 0):=λi=>(ok.cm.get i).mono (by decide)
 o_head sx hw h8 bx (λz=>absurd ok.h0 z) (λ_ vl H1 S1 il=>?_);have hw1:=hw.by S1;o_head aA (j:=0) hw1 rfl (λvr ir=>?_);o_head aA (j:=0) il rfl (λvz iz=>?_);o_head aA (j:=1) il rfl (λvp ip=>?_);o_head znZ ir iz ip ok.ok sz hn (oD ok.cm) (by decide) (λz H2 S2=>?_) (λz y H2 S2=>?_) (λc c1 c2 y z w H2 S2=>?_) (λy z H2 S2=>?_)
 . have RR:(0:Nat)<=30:=by decide
   have FF:fA ra rb xs 0:=λk hk=>by omega
   have EE:=z;k_few;obtain⟨g,R⟩:=L3 ok.ok ok.h1 ok.hp ok.h0 RR FF EE;have g1:=R.g1;have gN:=R.gN;have hvl:=kf xs;refine AU (r:=0) (hw1.by S2) ok RR FF (λv3 H3 S3 i3=>?_);o_head aA (j:=1) i3 rfl (λv4 i4=>?_);k_few;have hj:=R.join;refine Kt (g:=g-1) i4 ok.ok (by rw[bV];exact ok.h1) (by rw[bV];exact h8) (by omega) (λt ht=>by rw[eP];exact(hc _ g t R (by omega)).mono (by decide)) (λt ht=>R.one t (by omega)) (by omega) (λH5 S5=>?_);rw[show g-1+1=g by omega];have S15:=S2.trans (S3.trans S5);o_head aA (j:=1) (hw1.by S15) rfl (λv6 i6=>?_);o_head cF (ds:=[N hr',TN xs,.int ((0:Nat):Int),.int (g:Int)]) (by simp) (.cons (ih.by (S1.trans S15)) (.cons i6 (.cons (b_.mpr rfl) (.cons (b_.mpr rfl) .nil)))) (λv7 H7 S7 i7=>?_);exact q 0 g v7 H7 R (S1.trans (S15.trans S7)) i7
 . rw[zAz ok hno z]at y
   cases y
 . have RR:=c2
   have FF:fA ra rb xs c:=z;have EE:=w;k_few;obtain⟨g,R⟩:=L3 ok.ok ok.h1 ok.hp ok.h0 RR FF EE;have g1:=R.g1;have gN:=R.gN;have hvl:=kf xs;refine AU (r:=c) (hw1.by S2) ok RR FF (λv3 H3 S3 i3=>?_);o_head aA (j:=1) i3 rfl (λv4 i4=>?_);k_few;have hj:=R.join;refine Kt (g:=g-1) i4 ok.ok (by rw[bV];exact ok.h1) (by rw[bV];exact h8) (by omega) (λt ht=>by rw[eP];exact(hc _ g t R (by omega)).mono (by decide)) (λt ht=>R.one t (by omega)) (by omega) (λH5 S5=>?_);rw[show g-1+1=g by omega];have S15:=S2.trans (S3.trans S5);o_head aA (j:=1) (hw1.by S15) rfl (λv6 i6=>?_);o_head cF (ds:=[N hr',TN xs,.int (c:Int),.int (g:Int)]) (by simp) (.cons (ih.by (S1.trans S15)) (.cons i6 (.cons (b_.mpr rfl) (.cons (b_.mpr rfl) .nil)))) (λv7 H7 S7 i7=>?_);exact q c g v7 H7 R (S1.trans (S15.trans S7)) i7
 . exact qe z H2 (S1.trans S2)
def jT(a b:Rat)(xs:List Rat)(i r g:Nat):Prop:=(i=0/\r=0/\g=1)\/(1<=i/\dB a b (ai a b xs i)=none/\gx a b (ai a b xs i) r g)
def cT(a b:Rat)(xs:List Rat):Nat->List (Nat × Nat × Nat)->Nat->Prop
 | i,[],n=>i=n
 | i,e::es,n=>e.1=i/\jT a b xs i e.2.1 e.2.2/\cT a b xs (cJ a b xs i e.2.1 e.2.2) es n
theorem cT.snoc{a b:Rat}{xs:List Rat} : ∀{es:List (Nat × Nat × Nat)}{i n r g:Nat},cT a b xs i es n->jT a b xs n r g->cT a b xs i (es++[(n,r,g)]) (cJ a b xs n r g)
 | [],i,n,r,g,h,k=>by
  have e:i=n:=h;subst e;exact⟨rfl,k,rfl⟩
 | e::es,i,n,r,g,h,k=>⟨h.1,h.2.1,cT.snoc h.2.2 k⟩
theorem zw(h:Rat)(xs:List Rat)(r g:Nat):cW (jc h xs r g)=true:=by rw[jc,cW,cg,cg,cg,cg,cg,ki,rK];rfl
theorem LR(a b:Rat)(xs:List Rat)(n:Nat)(w:String):cW (nk a b xs n w)=true:=by rw[nk,cW,cg,cg,cg,cg,ki,rK];rfl
structure cK(a b:Rat)(xs:List Rat):Prop where
 ok:aU a b
 h1:1<=xs.length
 h6:xs.length<=6
 hp:c8 xs
 sz:∃m,j6 b.den m xs/\m+648*xs.length<=3935
theorem cK.of{a b:Rat}{xs:List Rat}(ok:aU a b)(h1:1<=xs.length)(h6:xs.length<=6)(ph:∀x∈xs,eC x):cK a b xs/\j6 b.den 47 xs:=by
 have b6:∀j,ag 6 (xs.getD j 0):=λj=>by
  rcases wD j xs.length with z | z
  ·exact(ph _ (getD_mem z)).dH
  ·rw[wb,wE z];exact ag.zero.mono (by decide)
 have c0:Cm 43 xs:=(Cm.Ji b6).mono (by omega);have c1:j6 b.den 47 xs:=j6.of c0 (den_pos b) ⟨by have:=ok.bd;have:(2:Nat)^4=16:=(by decide);omega⟩;exact⟨⟨ok,h1,h6,⟨λx hx=>(ph x hx).nn,λx hx=>(ph x hx).lt⟩,47,c1,by omega⟩,c1⟩
def kD(a b:Rat)(xs:List Rat)(i:Nat):Prop:=cf a b xs i+216*(ak (ai a b xs i)).length<=6+216*xs.length/\i+186*(ak (ai a b xs i)).length<=1+186*6
structure eJ(a b:Rat)(xs:List Rat)(es:List (Nat × Nat × Nat))(n:Nat)(w:String):Prop where
 walk:cT a b xs 0 es n
 e1:1<=es.length
 bN:es.length<=9
 n1:1<=n
 word:dB a b (ai a b xs n)=some w
 sp:kD a b xs n
theorem cK.jA{a b:Rat}{xs:List Rat}(h:cK a b xs){i k:Nat}(hg:cf a b xs (i+k)+216<=20+216*xs.length)(hk:k<=1024):Cm 3500 (aG a b (ai a b xs i) k::ai a b (ai a b xs i) k):=by
 obtain⟨m,c,hm⟩:=h.sz;exact(zzO h.ok c h.h1 h.hp (i:=i) (k:=k) (l:=10) (by rw[show(2:Nat)^10=1024 by decide];exact hk)).mono (by omega)
theorem cK.cm{a b:Rat}{xs:List Rat}(h:cK a b xs){i:Nat}(hg:cf a b xs i+216<=20+216*xs.length)(hi:i<=1024):Cm 3500 (aG a b xs i::ai a b xs i):=h.jA (i:=0) (k:=i) (by rw[Nat.zero_add];exact hg) hi
theorem cK.Ju{a b:Rat}{xs:List Rat}(h:cK a b xs){i:Nat}(h1:1<=i)(c:Cm 3500 (aG a b xs i::ai a b xs i)):fq a b (ai a b xs i) :=
 ⟨h.ok,by rw[bV];exact h.h1,by rw[bV];have:=h.h6;omega,h.hp.at h.ok.a0 h.ok.b0 i,h.hp.zero h.ok.a0 h.ok.b0 h.h1 h1,(kI c λy hy=>wB _ hy).mono (by decide)⟩
theorem cK.nf{a b:Rat}{xs:List Rat}(h:cK a b xs)(i:Nat):1<=(ak (ai a b xs i)).length/\(ak (ai a b xs i)).length<=6:=by
 have:=kf (ai a b xs i);rw[bV]at this;have h6:=h.h6;exact⟨zS (by rw[bV];exact h.h1),by omega⟩
theorem cK.nl{a b:Rat}{xs:List Rat}(i:Nat):(ak (ai a b xs i)).length<=xs.length:=by
 have:=kf (ai a b xs i);rw[bV]at this;exact this
theorem cK.one{a b:Rat}{xs:List Rat}(h:cK a b xs):kD a b xs 1:=by
 have h6:=h.h6;have h1:=h.h1;have:=zO h.ok.a0 h.ok.b0 h.h1 h.hp 1;have:=(h.nf 1).2;have:=cK.nl (a:=a) (b:=b) (xs:=xs) 1;exact⟨by omega,by omega⟩
theorem cK.within{a b:Rat}{xs:List Rat}(h:cK a b xs){i r g t:Nat}(i1:1<=i)(sp:kD a b xs i)(n2:2<=(ak (ai a b xs i)).length)(R:gx a b (ai a b xs i) r g)(ht:t<=g):cf a b xs (i+(r*(ak (ai a b xs i)).length+t))+216<=20+216*xs.length/\i+(r*(ak (ai a b xs i)).length+t)<=1024/\cf a b xs (i+(r*(ak (ai a b xs i)).length+t))<=cf a b xs i+216/\r*(ak (ai a b xs i)).length+t<=186:=by
 have h6:=h.h6;have nf:=(h.nf i).2;have hl:=bV a b xs i;have g1:=R.cf h.ok (by rw[hl];exact h.h1) (h.hp.at h.ok.a0 h.ok.b0 i) (h.hp.zero h.ok.a0 h.ok.b0 h.h1 i1) ht;rw[hl]at g1
 have g2:30*xs.length+xs.length*xs.length<=216:=by
  have:xs.length*xs.length<=6*6:=V1 h6 h6;omega
 have g3:r*(ak (ai a b xs i)).length<=30*6:=V1 R.ji nf;have g4:=R.gN;obtain⟨s1,s2⟩:=sp;rw[mW];exact⟨by omega,by omega,by omega,by omega⟩
theorem cK.next{a b:Rat}{xs:List Rat}(h:cK a b xs){i r g:Nat}(i1:1<=i)(sp:kD a b xs i)(n2:2<=(ak (ai a b xs i)).length)(R:gx a b (ai a b xs i) r g):kD a b xs (cJ a b xs i r g):=by
 obtain⟨_,_,w1,w2⟩:=h.within i1 sp n2 R (wo g);have f:=R.Js h.ok (by rw[bV];exact h.h1) (h.hp.at h.ok.a0 h.ok.b0 i);rw[eP]at f;obtain⟨s1,s2⟩:=sp;unfold kD cJ;exact⟨by omega,by omega⟩
theorem S_{a b:Rat}{xs:List Rat}(h:dB a b xs=none)(h1:1<=(ak xs).length):2<=(ak xs).length:=by
 unfold dB at h
 split at h
 ·cases h
 ·omega
theorem cT.first{a b:Rat}{xs:List Rat}{es:List (Nat × Nat × Nat)}{i n:Nat}(h:cT a b xs i es n):d7 es n 0=i:=by
 cases es with
 | nil=>exact(show i=n from h).symm
 | cons e es=>exact h.1
theorem cT.at{a b:Rat}{xs:List Rat} : ∀{es:List (Nat × Nat × Nat)}{i n:Nat},cT a b xs i es n->∀j (hj:j<es.length),es[j].1=d7 es n j/\jT a b xs es[j].1 es[j].2.1 es[j].2.2/\cJ a b xs es[j].1 es[j].2.1 es[j].2.2=d7 es n (j+1)
 | [],_,_,_,j,hj=>absurd hj (by simp)
 | e::es,i,n,h,j,hj=>by
  cases j with
  | zero =>
   have h1:=h.2.2.first;have e1:=h.1;refine⟨rfl,?_,?_⟩
   ·show jT a b xs e.1 e.2.1 e.2.2
    rw[e1];exact h.2.1
   ·show cJ a b xs e.1 e.2.1 e.2.2=d7 es n 0
    rw[h1,e1]
  | succ j=>exact cT.at h.2.2 j (by simpa using hj)
def gy(a b:Rat)(xs:List Rat):Prop:=∃es i,cT a b xs 0 es i/\1<=i/\dB a b (ai a b xs i)=none /\ ∀k,k<=30->cz a b (bG (ai a b xs i)) (bY (ai a b xs i)) k=true
def BZ(K:wa)(a:Ad):Sp:=λvs H Q E=>∃x0,vs=[x0] /\ ∃(ra rb:Rat)(xs:List Rat),Is K H x0 (aW ra rb xs)/\cK ra rb xs /\
 (gy ra rb xs->∀H',ah H H'->E (.ref a.fc) none H') /\ ∀l H' es n w,eJ ra rb xs es n w->H l=none->ah H H'->Is K H' (.ref l) (.list (cj ra rb xs es n w))->Q (.ref l) H'
theorem Ny{K:wa}{a:Ad}{H:Hp}{Q:VK}{E:XK}{ra rb:Rat}{xs:List Rat}{v:V}(h:Is K H v (aW ra rb xs))(ok:cK ra rb xs)(qe:gy ra rb xs->∀H',ah H H'->E (.ref a.fc) none H')(q:∀l H' es n w,eJ ra rb xs es n w->H l=none->ah H H'->Is K H' (.ref l) (.list (cj ra rb xs es n w))->Q (.ref l) H'):BZ K a [v] H Q E:=⟨_,rfl,ra,rb,xs,h,ok,qe,q⟩
theorem Si(T:Txt K mg a):aH P w K mg base (eI P w) 13 a.IK a.G2 uT (BZ K a):=by
 refine T.nN.F.mT kW ?_ ?_;wtm_at "b1"
 refine⟨_,(ar (az 1 kW.nd (eH (ae (br (by exact(@ae _ _ _ _ _ (bZ (v:=.ref a.de) rfl T.dD rfl) (@ae _ _ _ _ _ (aj (pv 0)) (@ae _ _ _ _ _ ay (@ae _ _ _ _ _ ay af PX) PX) fk) fE))) af)))
     (ar (az 2 kW.nd fh)
     (ar (nF x6 (bW p0 (pv 2) fh (aZ _)) (ar (az 3 kW.nd (dC dg (pv 1) (gA gg ay) (λ_ _=>rfl)))
     (ar (az 4 kW.nd (ao (O_ T) hr T.Ab (ae (br (ae (aj (pv 0)) (ae (aj (pv 3)) af))) (ae (aj (pv 3)) (ae (aj (pv 3)) af)))))
     (ar (az 5 kW.nd (ao (fH T) hr T.fe (ae (aj (pv 3)) (ae (aj (pv 4)) af))))
     (ar (az 2 kW.nd (ao (JY T) hr T.Ak (ae (aj (pv 4)) af)))
     (av (mB (mV Wy Ww Wx kY (pv 1) (ae (tH (bW p0 (pv 2) fh (aZ _)) (kN (zsz T) hr T.Hy zb (ae (pv 5) (ae (aj (pv 4)) af))) (br (ae (pv 5) (ae (aj (aj (pv 4))) (ae (pv 2) af))))) af)))))))))
     (av (aB (pv 1)))))),?_⟩
 wtm_at "cl";rw[show start Ld [x0]=[some x0,none,none,none,none,none]from rfl];obtain⟨ra,rb,xs,hw,ok,qe,q⟩:=h;o_head aA (j:=1) hw rfl (λv1 i1=>?_);o_head cF (ds:=[N 0,TN xs,.int 0,.int 1]) (by simp) (.cons (d8 0 (T.eT _) rfl rfl) (.cons i1 (.cons (b_.mpr rfl) (.cons (b_.mpr rfl) .nil)))) (λv2 H2 S2 i2=>?_);o_head eX (by simp) (λlr H3 n3 S3 e3=>?_);have hlr:H lr=none:=jm S2 n3;k_few
 refine sh (λm σ' H'=>∃(us:List V)(es:List (Nat × Nat × Nat))(vw:V)(o3 o4 o5:Option V),σ'=[some x0,some (.ref lr),some vw,o3,o4,o5]/\ah H H'/\H' lr=some (.lst us) /\
   ((vw=.bj /\ ∃i r g,cT ra rb xs 0 es i/\jT ra rb xs i r g/\au K H' us ((es++[(i,r,g)]).map (kH ra rb xs))/\(1<=i->kD ra rb xs i)/\es.length+(ak (ai ra rb xs (cJ ra rb xs i r g))).length<=6/\m=(ak (ai ra rb xs (cJ ra rb xs i r g))).length) \/
     ∃n w,vw=.str (wV w)/\eJ ra rb xs es n w/\au K H' us (cj ra rb xs es n w)/\m=0)) _ ⟨[v2],[],.bj,_,_,_,rfl,S2.trans S3,e3,.inl ⟨rfl,0,0,1,rfl,.inl ⟨rfl,rfl,rfl⟩,.cons (i2.by S3) .nil,λh=>by omega,by have:=(ok.nf (cJ ra rb xs 0 0 1)).2;simpa using this,rfl⟩⟩ ?_
 rintro m σ' H4 ⟨us,es,vw,o3,o4,o5,rfl,S4,e4,C⟩;rcases C with⟨rfl,i,r,g,wk,ro,t4,sp,bN,rfl⟩ | ⟨n,w',rfl,P,t4,rfl⟩
 . have hN:=(ok.nf i).2
   have h6:=ok.h6;have h1L:=ok.h1
   have facts:g<=40/\(1<=r->fq ra rb (ai ra rb xs i)/\r<=30/\fA ra rb (ai ra rb xs i) r)/\cf ra rb xs (cJ ra rb xs i r g)+216<=20+216*xs.length/\cJ ra rb xs i r g<=1024/\cf ra rb xs i+216<=20+216*xs.length/\i<=1024/\(∀t,t<=g->cf ra rb xs (i+(r*(ak (ai ra rb xs i)).length+t))+216<=20+216*xs.length)/\kD ra rb xs (cJ ra rb xs i r g)/\r<=30:=by
     rcases ro with⟨rfl,rfl,rfl⟩ | ⟨i1,hno,R⟩
     . have e:cJ ra rb xs 0 0 1=1:=by unfold cJ;omega
       have h2:=zO ok.ok.a0 ok.ok.b0 ok.h1 ok.hp;refine⟨by omega,λz=>by omega,by rw[e];have:=h2 1;omega,by omega,by have:=h2 0;omega,by omega,λt ht=>?_,by rw[e];exact ok.one,by omega⟩;have h3:=h2 (0+(0*(ak (ai ra rb xs 0)).length+t));have h4:(0+(0*(ak (ai ra rb xs 0)).length+t))*xs.length<=1*6:=V1 (by omega) h6;omega
     . have n2:=S_ hno (ok.nf i).1
       have sp:=sp i1;have w:=λ{t:Nat}(ht:t<=g)=>ok.within i1 sp n2 R ht
       have w0:=w (wo g);have g4:=R.gN;have si:=sp.1;have si2:=sp.2;have c:Cm 3500 (aG ra rb xs i::ai ra rb xs i):=ok.cm (by omega) (by omega);exact⟨by omega,λ_=>⟨ok.Ju i1 c,R.ji,R.free⟩,w0.1,w0.2.1,by omega,by omega,λt ht=>(w ht).1,ok.next i1 sp n2 R,R.ji⟩
   obtain⟨g40,fr,gl,nl,gi,ni,gw,sl,ji⟩:=facts;have cI:=ok.cm gi ni;have cL:=ok.cm gl nl
   have n1:1<=cJ ra rb xs i r g:=by
     unfold cJ;rcases ro with⟨rfl,rfl,rfl⟩ | ⟨i1,hno,R⟩
     . omega
     . omega
   have swL:=ok.Ju n1 cL;have hrN:r*(ak (ai ra rb xs i)).length<=30*6:=V1 ji hN;have hul:=t4.length;rw[wm,wR,vS]at hul;have hnf:=(ok.nf (cJ ra rb xs i r g)).1;o_head sa ?_;k_few
   have il:Is K H4 (.ref lr) (.list (es.map (kH ra rb xs)++[kH ra rb xs (i,r,g)])):=by
     rw[vD]at t4;exact cE.mpr ⟨lr,us,rfl,.of e4,t4⟩
   refine lH il (λv5 i5=>?_);have i5:Is K H4 v5 (jc (aG ra rb xs i) (ai ra rb xs i) r g):=i5;have hw4:=hw.by S4;o_head aA (j:=0) hw4 rfl (λv6 i6=>?_);o_head aA (j:=1) i5 rfl (λv7 i7=>?_);o_head cF (ds:=[R ra rb,TN (ai ra rb xs i)]) (by simp) (.cons i6 (.cons i7 .nil)) (λv8 H8 S8 i8=>?_);have i58:=i5.by S8;o_head aA (j:=2) i58 rfl (λv9 i9=>?_);rw[b_.mp i9];o_head aA (j:=3) i58 rfl (λv10 i10=>?_);rw[b_.mp i10];k_few;have bH:ag 8000 (aG ra rb (ai ra rb xs i) (r*(ak (ai ra rb xs i)).length)):=((ok.jA (i:=i) (k:=r*(ak (ai ra rb xs i)).length) (by have:=gw 0 (by omega);rw[Nat.add_zero]at this;exact this) (by omega)).dH (wC ..)).mono (by decide)
   have cG:∀t,t<=g->Cm 3700 (aG ra rb (ai ra rb (ai ra rb xs i) (r*(ak (ai ra rb xs i)).length)) t::ai ra rb (ai ra rb (ai ra rb xs i) (r*(ak (ai ra rb xs i)).length)) t):=λt ht=>by
     rw[eP ra rb xs];exact(ok.jA (i:=i+r*(ak (ai ra rb xs i)).length) (k:=t) (by have:=gw t ht;rw[<- VH]at this;exact this) (by omega)).mono (by decide)
   refine Ku (show Is K H8 v8 (aW ra rb (ai ra rb xs i))from i8) ok.ok (by rw[bV];exact ok.h1) (by rw[bV];omega) fr g40 bH cG (λv11 H11 S11 i11=>?_);have i11:Is K H11 v11 (.tuple [N (aG ra rb (ai ra rb xs i) (r*(ak (ai ra rb xs i)).length+g)),aW ra rb (ai ra rb (ai ra rb xs i) (r*(ak (ai ra rb xs i)).length+g))]):=i11;rw[eP]at i11;have i11:Is K H11 v11 (.tuple [N (aG ra rb (ai ra rb xs i) (r*(ak (ai ra rb xs i)).length+g)),aW ra rb (ai ra rb xs (cJ ra rb xs i r g))]):=i11;have i511:=i58.by S11;have bI:ag 3500 (aG ra rb xs i):=cI.dH (wC ..);have bJ:ag 3500 (aG ra rb (ai ra rb xs i) (r*(ak (ai ra rb xs i)).length+g)):=(ok.jA (i:=i) (k:=r*(ak (ai ra rb xs i)).length+g) gl (by omega)).dH (wC ..);o_head aA (j:=0) i511 rfl (λv12 i12=>?_);o_head aA (j:=0) i11 rfl (λv13 i13=>?_);k_few;rename_i v14 H14 S14 i14;rw[lz]at i14;have i14:Is K H14 v14 (N (aG ra rb xs (cJ ra rb xs i r g))):=i14;have i1114:=i11.by S14;refine aA (j:=1) i1114 rfl (λv15 i15=>?_);have i15:Is K H14 v15 (aW ra rb (ai ra rb xs (cJ ra rb xs i r g))):=i15;o_head Sb i15 swL (λH16 S16=>?_);have S816:=S8.trans (S11.trans (S14.trans S16));have e16:=S816 _ _ e4;have t16:au K H16 us ((es++[(i,r,g)]).map (kH ra rb xs)):=au.same S816 _ _ t4;have S416:=S4.trans S816;have i1116:=i1114.by S16;have i1416:=i14.by S16;have i1516:=i15.by S16;have wk':=wk.snoc ro;generalize hlead:cJ ra rb xs i r g=n at *;cases hwd:dB ra rb (ai ra rb xs n)with
   | none =>
     show gX 2 V.bj _ _ _
     o_head lO (aR.of e16) ?_;o_head aA (j:=1) i1116 rfl (λv17 i17=>?_);k_few;have n2:=S_ hwd hnf;refine zs4 i1416 (show Is K H16 v17 (aW ra rb (ai ra rb xs n))from i17) swL hwd (λr' g' t R ht=>?_) (λz H' S=>qe ⟨_,n,wk',n1,hwd,z⟩ H' (S416.trans S)) (λr' g' v18 H18 R S18 i18=>?_)
     . have w:=ok.within n1 sl n2 R ht
       rw[eP];exact(kI (ok.cm w.1 w.2.1) λy hy=>wB _ hy).mono (by decide)
     . k_few
       have e18:=S18 _ _ e16;refine lB e18 (by omega) (λH19 E19 e19=>?_);have K19:=E19.keep e18;have fw:=R.Js ok.ok (by rw[bV];exact ok.h1) (ok.hp.at ok.ok.a0 ok.ok.b0 n);rw[eP]at fw;have fw:(ak (ai ra rb xs (cJ ra rb xs n r' g'))).length<(ak (ai ra rb xs n)).length:=fw;o_head ⟨_,fw,us++[v18],es++[(i,r,g)],.bj,_,_,_,rfl,(S416.trans S18).grow hlr E19,e19,.inl ⟨rfl,n,r',g',wk',.inr ⟨n1,hwd,R⟩,?_,λ_=>sl,?_,rfl⟩⟩
       . rw[vD]
         exact(au.keep K19 _ _ (oy _ (λe=>zw _ _ _ _) _) (au.same S18 _ _ t16)).append (.cons (i18.kJ K19 (zw _ _ _ _)) .nil)
       . rw[wR,vS]
         omega
   | some wd =>
     show gX 2 (V.str (wV wd)) _ _ _
     o_head lO (aR.of e16) ?_;k_few
     . rename_i z;cases z
     . refine aA (j:=1) i1116 rfl (λv17 i17=>?_)
       o_head aA (j:=1) i17 rfl (λv18 i18=>?_);o_head cF (ds:=[N (aG ra rb xs n),TN (ai ra rb xs n),.str (wV wd)]) (by simp) (.cons i1416 (.cons i18 (.cons (eZ.mpr rfl) .nil))) (λv19 H19 S19 i19=>?_);k_few;have e19:=S19 _ _ e16;refine lB e19 (by omega) (λH20 E20 e20=>?_);have K20:=E20.keep e19;o_head ⟨0,by omega,us++[v19],es++[(i,r,g)],_,_,_,_,rfl,(S416.trans S19).grow hlr E20,e20,.inr ⟨n,wd,rfl,⟨wk',by simp,by rw[wR,vS];omega,n1,hwd,sl⟩,?_,rfl⟩⟩;exact(au.keep K20 _ _ (oy _ (λe=>zw _ _ _ _) _) (au.same S19 _ _ t16)).append (.cons (i19.kJ K20 (LR _ _ _ _ _)) .nil)
 . k_few
   . rename_i z;cases z
   . exact q lr H4 es n w' P hlr S4 (cE.mpr ⟨lr,us,rfl,.of e4,t4⟩)
theorem zxi{a b:Rat}{xs:List Rat}{r g r' g':Nat}(R:gx a b xs r g)(S:gx a b xs r' g'):r=r'/\g=g':=by
 have er:r=r':=by
  rcases Vn r r' with z | z | z
  ·have:=S.free r z;rw[R.ends]at this;cases this
  ·exact z
  ·have:=R.free r' z;rw[S.ends]at this;cases this
 subst er;refine⟨rfl,?_⟩;have g1:=R.g1;have g2:=S.g1;have j1:=R.join;have j2:=S.join;rcases Vn g g' with z | z | z
 ·have:=S.one (g-1) (by omega);omega
 ·exact z
 ·have:=R.one (g'-1) (by omega);omega
theorem Of{a b:Rat}{xs:List Rat}{i r g r' g':Nat}(R:jT a b xs i r g)(S:jT a b xs i r' g'):r=r'/\g=g':=by
 rcases R with⟨e,rfl,rfl⟩ | ⟨i1,_,R⟩<;>rcases S with⟨e',rfl,rfl⟩ | ⟨i1',_,S⟩
 ·exact⟨rfl,rfl⟩
 ·omega
 ·omega
 ·exact zxi R S
theorem Nq{a b:Rat}{xs:List Rat} : ∀{es es':List (Nat × Nat × Nat)}{i n n':Nat},cT a b xs i es n->cT a b xs i es' n'->1<=n->dB a b (ai a b xs n)≠none->1<=n'->dB a b (ai a b xs n')=none->(∀k,k<=30->cz a b (bG (ai a b xs n')) (bY (ai a b xs n')) k=true)->False
 | [],[],i,n,n',h,k,n1,w,_,w',_=>by
  have e:i=n:=h;have e':i=n':=k;subst e;subst e';exact w w'
 | [],f::fs,i,n,n',h,k,n1,w,_,_,_=>by
  have e:i=n:=h;subst e;rcases k.2.1 with⟨z,_,_⟩ | ⟨_,z,_⟩
  ·omega
  ·exact w z
 | e::es,[],i,n,n',h,k,_,_,n1',_,all=>by
  have e':i=n':=k;subst e';rcases h.2.1 with⟨z,_,_⟩ | ⟨_,_,R⟩
  ·omega
  ·have:=R.ends
   rw[all _ R.ji]at this;cases this
 | e::es,f::fs,i,n,n',h,k,n1,w,n1',w',all=>by
  obtain⟨e1,e2⟩:=Of h.2.1 k.2.1;have k2:=k.2.2;rw[<- e1,<- e2]at k2;exact Nq h.2.2 k2 n1 w n1' w' all
theorem A9{a b:Rat}{xs:List Rat} : ∀{es es':List (Nat × Nat × Nat)}{i n n':Nat},cT a b xs i es n->cT a b xs i es' n'->1<=n->dB a b (ai a b xs n)≠none->1<=n'->dB a b (ai a b xs n')≠none->es=es'/\n=n'
 | [],[],i,n,n',h,k,_,_,_,_=>⟨rfl,(show i=n from h).symm.trans k⟩
 | [],f::fs,i,n,n',h,k,n1,w,_,_=>by
  have e:i=n:=h;subst e;rcases k.2.1 with⟨z,_,_⟩ | ⟨_,z,_⟩
  ·omega
  ·exact absurd z w
 | e::es,[],i,n,n',h,k,_,_,n1',w'=>by
  have e':i=n':=k;subst e';rcases h.2.1 with⟨z,_,_⟩ | ⟨_,z,_⟩
  ·omega
  ·exact absurd z w'
 | e::es,f::fs,i,n,n',h,k,n1,w,n1',w'=>by
  obtain⟨e1,e2⟩:=Of h.2.1 k.2.1;have k2:=k.2.2;rw[<- e1,<- e2]at k2;obtain⟨q1,q2⟩:=A9 h.2.2 k2 n1 w n1' w';refine⟨?_,q2⟩;rw[q1]
  congr 1
  exact Vg (h.1.trans k.1.symm) (Vg e1 e2)
theorem Pw{a b:Rat}{xs:List Rat}{es es':List (Nat × Nat × Nat)}{n n':Nat}{w w':String}(P:eJ a b xs es n w)(S:eJ a b xs es' n' w'):es=es'/\n=n'/\w=w':=by
 have hw:=P.word;have hw':=S.word;obtain⟨e1,e2⟩:=A9 P.walk S.walk P.n1 (by rw[hw];simp) S.n1 (by rw[hw'];simp);subst e2;rw[hw]at hw';exact⟨e1,rfl,wX hw'⟩
theorem mM{a b:Rat}{xs:List Rat}{es:List (Nat × Nat × Nat)}{n:Nat}{w:String}(P:eJ a b xs es n w)(F:gy a b xs):False:=by
 obtain⟨es',i,h,i1,hw,all⟩:=F;exact Nq P.walk h P.n1 (by rw[P.word];simp) i1 hw all
def oM(w:String)(n:Nat):wy:=.tuple [.str (wV w),.int (n:Int)]
def B8(K:wa)(a:Ad):Sp:=λvs H Q E=>∃x0,vs=[x0] /\ ∃(ra rb:Rat)(xs:List Rat),Is K H x0 (aW ra rb xs)/\cK ra rb xs /\
 (gy ra rb xs->∀H',ah H H'->E (.ref a.fc) none H') /\ ∀es n w v H',eJ ra rb xs es n w->ah H H'->Is K H' v (oM w (ak (ai ra rb xs n)).length)->Q v H'
theorem zzG{K:wa}{a:Ad}{H:Hp}{Q:VK}{E:XK}{ra rb:Rat}{xs:List Rat}{v:V}(h:Is K H v (aW ra rb xs))(ok:cK ra rb xs)(qe:gy ra rb xs->∀H',ah H H'->E (.ref a.fc) none H')(q:∀es n w v H',eJ ra rb xs es n w->ah H H'->Is K H' v (oM w (ak (ai ra rb xs n)).length)->Q v H'):B8 K a [v] H Q E:=⟨_,rfl,ra,rb,xs,h,ok,qe,q⟩
theorem eJ.cm{a b:Rat}{xs:List Rat}{es:List (Nat × Nat × Nat)}{n:Nat}{w:String}(P:eJ a b xs es n w)(ok:cK a b xs):Cm 3500 (aG a b xs n::ai a b xs n):=by
 have hnf:=ok.nf n;have s1:=P.sp.1;have s2:=P.sp.2;exact ok.cm (by omega) (by omega)
theorem zzB(T:Txt K mg a):aH P w K mg base (eI P w) 14 a.Jw a.IL sL (B8 K a):=by
 refine T.rz.F.mT Mp ?_ ?_;wtm_at "b1"
 refine⟨_,(ar (az 1 Mp.nd (dC dg (kN (Si T) hr T.nN zb (ae (pv 0) af)) (gA gg ay) (λ_ _=>rfl)))
     (av (aB (br (ae (aj (pv 1)) (ae (bP (show aP _ (.builtin "len") (cR K)from dS) rfl T.z_len dW (ae (ao (AA T) hr T.rk (ae (br (ae (aj (pv 0)) (ae (aj (pv 1)) af))) af)) af)) af)))))),?_⟩
 wtm_at "cl";rw[show start OI [x0]=[some x0,none]from rfl];obtain⟨ra,rb,xs,hw,ok,qe,q⟩:=h;have h6:=ok.h6;o_head Ny hw ok qe (λl H1 es n wd P hl S1 i1=>?_);have c:=P.cm ok;have bx:∀i,ag 4000 ((ai ra rb xs n).getD i 0):=λi=>((kI c λy hy=>wB _ hy).get i).mono (by decide)
 have hw1:=hw.by S1;o_head lH i1 (λv2 i2=>?_);have i2:Is K H1 v2 (.tuple [N (aG ra rb xs n),TN (ai ra rb xs n),.str (wV wd)]):=i2;o_head aA (j:=2) i2 rfl (λv3 i3=>?_);rw[eZ.mp i3];o_head aA (j:=0) hw1 rfl (λv4 i4=>?_);o_head aA (j:=1) i2 rfl (λv5 i5=>?_);o_head cF (ds:=[R ra rb,TN (ai ra rb xs n)]) (by simp) (.cons i4 (.cons i5 .nil)) (λv6 H6 S6 i6=>?_);o_head CS (show Is K H6 v6 (aW ra rb (ai ra rb xs n))from i6) (by rw[bV];omega) bx (λlf H7 us7 n7 S7 e7 t7=>?_);have hul:=t7.length;rw[wm]at hul;o_head iN (.of e7) ?_;rw[hul];o_head cF (ds:=[.str (wV wd),.int ((ak (ai ra rb xs n)).length:Int)]) (by simp) (.cons (eZ.mpr rfl) (.cons (b_.mpr rfl) .nil)) (λv8 H8 S8 i8=>?_);exact q es n wd v8 H8 P (S1.trans (S6.trans (S7.trans S8))) i8
def Rg(K:wa):Sp:=λvs H Q _=>∃x0 x1,vs=[x0,x1] /\ ∃(a:we)(ns:List Int)(k:Int),x0=.ref a/\x1=.int k/\iK K H a (ns.map V.int)/\ns.length<=63/\0<=k/\k<=1000 /\ ∀c:Int,Q (.int c) H
theorem Yq{K:wa}{H:Hp}{Q:VK}{E:XK}{a:we}{ns:List Int}{k:Int}(h:iK K H a (ns.map V.int))(hl:ns.length<=63)(h0:0<=k)(h1:k<=1000)(q:∀c:Int,Q (.int c) H):Rg K [.ref a,.int k] H Q E:=⟨_,_,rfl,a,ns,k,rfl,rfl,h,hl,h0,h1,q⟩
theorem zrZ(T:Txt K mg a):aH P w K mg base aQ 1 a.Il a.GV u0 (Rg K):=by
 refine T.G9.F.ok zrP ?_ ?_;wtm_at "b2"
 refine⟨_,(ar (bD (bW jF (pv 1) (bP (show aP _ (.builtin "len") (cR K)from dS) rfl T.z_len dW (ae (pv 0) af)) (aZ _)) (av (aB (bP k_ rfl T.z_abs kR (ae (dC dg (pv 0) (pv 1) (λ_ _=>rfl)) af)))) bA)
     (ar (bD (bW (show aK _ (wJ .Eq) (cu K)from dq hu) (bP (show aP _ (.builtin "len") (cR K)from dS) rfl T.z_len dW (ae (pv 0) af)) ay (aZ _)) (av (aB (aD cA (aD cv ay (pv 1)) ay))) bA)
     (av (aB (aD cA (aD gB (bP k_ rfl T.z_abs kR (ae (dC dg (pv 0) (aD gB (pv 1) (bP (show aP _ (.builtin "len") (cR K)from dS) rfl T.z_len dW (ae (pv 0) af))) (λ_ _=>rfl)) af)) (Em (v:=100000000000000000) ⟨by decide,by decide,by decide⟩ (by decide +kernel))) (aD cv ay (pv 1))))))),?_⟩
 wtm_at "cl";rw[show start EY [x0,x1]=[some x0,some x1]from rfl];obtain⟨a',ns,k,rfl,rfl,hs,hl,h0,h1,q⟩:=h;o_head iN hs.sq ?_;k_few
 . refine NH hs h0 (by assumption) (λz=>?_)
   k_few;exact q _
 . refine iN hs.sq ?_
   k_few
   . exact q _
   . refine iN hs.sq ?_
     o_head NH hs (qN _ (by omega)) (qq _ (by omega)) (λz=>?_);k_few;exact q _
def cw(H:Hp)(p:we)(k:Int):Prop:=∃(a:Int)(b:Bool)(n:Int),H p=some (.lst [.int a,.bl b,.int n])/\0<=n/\n<=k
theorem cw.same{H H':Hp}{p:we}{k:Int}(s:ah H H')(h:cw H p k):cw H' p k:=by
 obtain⟨x,y,n,e,h1,h2⟩:=h;exact⟨x,y,n,s _ _ e,h1,h2⟩
theorem cw.le{H:Hp}{p:we}{j k:Int}(h:cw H p j)(e:j<=k):cw H p k:=by
 obtain⟨x,y,n,z,h1,h2⟩:=h;exact⟨x,y,n,z,h1,Int.le_trans h2 e⟩
theorem cw.ne{H:Hp}{p q:we}{k:Int}(e:H q=none)(h:cw H p k):q≠p:=by
 obtain⟨x,y,n,z,_⟩:=h;exact(jM z e).symm
def ME(K:wa):Sp:=λvs H Q _=>∃x0 x1,vs=[x0,x1] /\ ∃(a:we)(ns:List Int)(k:Int),x0=.ref a/\x1=.int k/\iK K H a (ns.map V.int)/\ns.length<=63/\0<=k/\k<=1000 /\
 ∀p H',H p=none->ah H H'->cw H' p 0->Q (.ref p) H'
theorem EI{K:wa}{H:Hp}{Q:VK}{E:XK}{a:we}{ns:List Int}{k:Int}(h:iK K H a (ns.map V.int))(hl:ns.length<=63)(h0:0<=k)(h1:k<=1000)
  (q:∀p H',H p=none->ah H H'->cw H' p 0->Q (.ref p) H'):ME K [.ref a,.int k] H Q E:=⟨_,_,rfl,a,ns,k,rfl,rfl,h,hl,h0,h1,q⟩
local macro_rules | `(tactic| wtm_at "pen")=>`(tactic| first
 | assumption
 | (apply cw.same;(focus assumption);wtm_at "pen"))
local macro_rules | `(tactic| wtm_at "ne")=>`(tactic| ((with_reducible apply cw.ne); (focus assumption); wtm_at "pen"))
local macro_rules | `(tactic| wtm_at "penle")=>`(tactic| exact cw.le (by wtm_at "pen") (by omega))
theorem ER(T:Txt K mg a):aH P w K mg base aQ 2 a.IW a.Hm uJ (ME K):=by
 refine T.rg.F.ok MX ?_ ?_;wtm_at "b2"
 refine⟨_,(ar (az 2 MX.nd (ao (zrZ T) hr T.G9 (ae (pv 0) (ae (pv 1) af))))
     (av (aB (eH (ae (pv 2) (ae (d9 CI (pv 2) (Em (v:=1000000000000000000) ⟨by decide,by decide,by decide⟩ (by decide +kernel)) (aZ _)) (ae ay af))))))),?_⟩
 wtm_at "cl";rw[show start LD [x0,x1]=[some x0,some x1,none]from rfl];obtain⟨a',ns,k,rfl,rfl,hs,hl,h0,h1,q⟩:=h;o_head Yq hs hl h0 h1 (λc=>?_);k_few;exact eX (by show 3<=1000;decide) λp H' hp s e=>q p H' hp s ⟨_,_,0,e,by decide,by decide⟩
def OS(K:wa):Sp:=λvs H Q _=>∃x0 x1,vs=[x0,x1] /\ ∃(p:we)(k m:Int),x0=.ref p/\x1=.int m/\cw H p k/\k<=1000000/\0<m/\Bd 8999 m /\
 ∀(r:Int)(H':Hp),0<=r->r<m->Exc p H H'->bK H H'->cw H' p (k+1)->Q (.int r) H'
theorem Zw{K:wa}{H:Hp}{Q:VK}{E:XK}{p:we}{k m:Int}(h:cw H p k)(hk:k<=1000000)(hm:0<m)(hb:Bd 8999 m)
  (q:∀(r:Int)(H':Hp),0<=r->r<m->Exc p H H'->bK H H'->cw H' p (k+1)->Q (.int r) H'):OS K [.ref p,.int m] H Q E:=⟨_,_,rfl,p,k,m,rfl,rfl,h,hk,hm,hb,q⟩
local macro_rules | `(tactic| wtm_at "gs")=>`(tactic| ((with_reducible apply Zw); (focus wtm_at "pen"); (focus omega); (focus omega); (focus wtm_at "bd128"); intro _ _ _ _ _ _ _))
theorem fi(T:Txt K mg a):aH P w K mg base aQ 1 a.IA a.GW sU (OS K):=by
 refine T.eS.F.ok rN ?_ ?_;wtm_at "b2"
 refine⟨_,(ar (pX (aD cA (aj (pv 0)) ay) (pT (pv 0) ay oz))
     (ar (bD (cb (aj (pv 0))) (ar (az 2 rN.nd (aD gB (aj (pv 0)) (pv 1)))
     (ar (pX (aD ft (aj (pv 0)) (pv 1)) (pT (pv 0) ay oz))
     (av (aB (pv 2))))) bA)
     (ar (az 3 rN.nd (aD gB (aD cv (aD cA (aD gB (aj (pv 0)) ay) ay) (aD cA ay (aD cv (aj (pv 0)) (aj (pv 0))))) ay))
     (ar (az 3 rN.nd (aD gB (aD cv (pv 3) (aD cA (pv 3) (aD cv ay (aj (pv 0))))) ay))
     (av (aB (aD gB (aD ft (aD gB (aD cv (pv 3) (aD cA (aD ft (pv 3) ay) ay)) ay) ay) (pv 1)))))))),?_⟩
 wtm_at "cl";rw[show start KQ [x0,x1]=[some x0,some x1,none,none]from rfl];obtain⟨p,k,m,rfl,rfl,⟨x,y,n,hp,hn0,hn1⟩,hk,hm,hbm,q⟩:=h;k_few
 all_goals
   exact q _ _ (qN _ (by omega)) (qq _ hm) (by wtm_at "exc") (Exc.keep (p:=p) (by wtm_at "exc") hp) ⟨_,_,_,by assumption,by omega,by omega⟩
def Cu(K:wa):Sp:=λvs H Q _=>∃x0 x1,vs=[x0,x1] /\ ∃(t b:Int),x0=.int t/\x1=.int b/\0<b/\Bd 8999 b /\ ∀v H',ah H H'->Is K H' v (N (wu t b))->Q v H'
theorem kT{K:wa}{H:Hp}{Q:VK}{E:XK}{t b:Int}(hb:0<b)(hB:Bd 8999 b)(q:∀v H',ah H H'->Is K H' v (N (wu t b))->Q v H'):Cu K [.int t,.int b] H Q E:=⟨_,_,rfl,t,b,rfl,rfl,hb,hB,q⟩
theorem ZD{K:wa}{H:Hp}{Q:VK}{E:XK}{t b:Int}(hb:0<b)(h1 : -100000000000000000000000000000000000000<=t)(h2:t<=100000000000000000000000000000000000000)(h3 : -100000000000000000000000000000000000000<=b)(h4:b<=100000000000000000000000000000000000000)
  (q:∀v H' (x:Rat),ah H H'->Is K H' v (N x)->x=wu t b->ag 128 x->Q v H'):Cu K [.int t,.int b] H Q E :=
 kT hb ((Bd.j9 h3 h4).mono (by decide)) λv H' s h=>q v H' _ s h rfl (ag.divInt (show b≠0 by omega) (Bd.j9 h1 h2) (Bd.j9 h3 h4))
local macro_rules | `(tactic| wtm_at "gs")=>`(tactic| ((with_reducible apply ZD); (focus omega); (focus omega); (focus omega); (focus omega); (focus omega); intro _ _ _ _ _ _ _))
theorem fS(T:Txt K mg a):aH P w K mg base aQ 1 a.Jf a.HD uw (Cu K):=by
 refine T.fu.F.ok sC ?_ ?_;wtm_at "b2"
 refine⟨_,(ar (az 2 sC.nd (bP k_ rfl T.z_abs kR (ae (pv 0) af)))
     (ar (az 3 sC.nd (pv 1))
     (ar (nF vE (bW lQ (pv 3) ay (aZ _)) (av (zCb (i:=2) (j:=3) rfl sC.nd rfl rfl (by decide) rfl rfl (ae (pv 3) (ae (aD gB (pv 2) (pv 3)) af)) rfl)))
     (av (aB (br (ae (aD ft (pv 0) (pv 2)) (ae (aD ft (pv 1) (pv 2)) af)))))))),?_⟩
 wtm_at "cl";rw[show start O7 [x0,x1]=[some x0,some x1,none,none]from rfl];obtain⟨t,b,rfl,rfl,hp,hB,q⟩:=h;have hb:b≠0:=by omega
 o_head Kv (λσ H'=>∃(x y:Int),σ = [some (.int t),some (.int b),some (.int x),some (.int y)]/\0<=x/\0<=y/\vk x y=vk t b/\H'=H) (λσ=>(PZ σ 3).toNat) ⟨_,_,rfl,by split<;>omega,by omega,rE t b,rfl⟩ ?_;rintro σ H' ⟨x,y,rfl,hx,hy,hg,rfl⟩
 have hgb:Bd 8999 ((vk t b:Nat):Int):=hB.le (by
   have:vk t b ∣ b.natAbs:=Int.gcd_dvd_natAbs_right t b;have:=X6 (by omega) this
   simpa using this)
 k_few
 . refine M7 ?_
   k_few;have h1:=qN x (show y≠0 by omega);have h2:=qq x (show 0<y by omega);refine⟨?_,_,_,rfl,hy,h1,?_,rfl⟩
   . show(x % y).toNat<y.toNat
     omega
   . rw[<- hg];exact KD (by omega) hx
 . rename_i h0
   have e0:y=0:=by omega
   subst e0
   have e:x=((vk t b:Nat):Int):=by
     rw[<- hg,xM];omega
   have e1:x=dv t b:=by unfold dv;rw[if_neg (by omega),<- e]
   rw[e1];have hd:mm t (dv t b):=⟨JN hb,by unfold dv;rw[if_neg (by omega)];exact hgb⟩;refine pR hd ?_;k_few;exact eY (R6 hb) (zCx hb) q
def A6(K:wa):Sp:=λvs H Q _=>∃x0 x1,vs=[x0,x1] /\ ∃(x:Rat)(t u:Int)(n:Nat),Is K H x0 (N x)/\Is K H x1 (.tuple [.int t,.int u])/\0<u/\ag n x/\n<=4400/\Bd 4400 t/\Bd 4400 u /\ ∀v H',ah H H'->Is K H' v (N (x+wu t u))->Q v H'
theorem ztb{K:wa}{H:Hp}{Q:VK}{E:XK}{x:Rat}{t u:Int}{v w:V}(h1:Is K H v (N x))(h2:Is K H w (.tuple [.int t,.int u]))(hu:0<u)(b1:ag 4400 x)(b2:Bd 4400 t)(b3:Bd 4400 u)(q:∀v H',ah H H'->Is K H' v (N (x+wu t u))->Q v H'):A6 K [v,w] H Q E:=⟨_,_,rfl,x,t,u,4400,h1,h2,hu,b1,wo _,b2,b3,q⟩
theorem Yh{K:wa}{H:Hp}{Q:VK}{E:XK}{x y:Rat}{v w:V}(h1:Is K H v (N x))(h2:Is K H w (N y))(b1:ag 4400 x)(b2:ag 4400 y)(q:∀v H',ah H H'->Is K H' v (N (x+y))->Q v H'):A6 K [v,w] H Q E :=
 ztb h1 h2 (den_pos y) b1 b2.t b2.b (λv H' s i=>q v H' s (by rw[WK]at i;exact i))
local macro_rules | `(tactic| wtm_at "gs")=>`(tactic| ((with_reducible apply Yh); (focus wtm_at "is"); (focus wtm_at "is"); (focus wtm_at "bdr"); (focus wtm_at "bdr"); intro _ _ _ _))
theorem zzU{K:wa}{H:Hp}{Q:VK}{v:V}{t u:Int}(h:Is K H v (.tuple [.int t,.int u]))(q:Q (.int t) H):c_ K v (.int 0) H Q:=aA (j:=0) h rfl (λx i=>by rw[b_.mp i];exact q)
theorem LX{K:wa}{H:Hp}{Q:VK}{v:V}{t u:Int}(h:Is K H v (.tuple [.int t,.int u]))(q:Q (.int u) H):c_ K v (.int 1) H Q:=aA (j:=1) h rfl (λx i=>by rw[b_.mp i];exact q)
theorem YG(x:Rat){t u:Int}(hu:0<u):wu (x.num*u+t*(x.den:Int)) ((x.den:Int)*u)=x+wu t u:=by
 have hp:=vI (den_pos x) hu;refine f_ (by omega) ?_;have k1:=jR x;have k2:=cH t (show u≠0 by omega);have e1:((x.num*u+t*(x.den:Int):Int):Rat)=(x.num:Rat)*(u:Rat)+(t:Rat)*((x.den:Int):Rat):=by push_cast;rfl
 have e2:(((x.den:Int)*u:Int):Rat)=((x.den:Int):Rat)*(u:Rat):=by push_cast;rfl
 rw[e1,e2,<- k1,<- k2]
 grind
theorem oj(T:Txt K mg a):aH P w K mg base aQ 2 a.I_ a.Hl uv (A6 K):=by
 refine T.l8.F.ok ztj ?_ ?_;wtm_at "b2";refine⟨_,(av (aB (ao (fS T) hr T.fu (ae (aD cA (aD cv (aj (pv 0)) (aj (pv 1))) (aD cv (aj (pv 1)) (aj (pv 0)))) (ae (aD cv (aj (pv 0)) (aj (pv 1))) af))))),?_⟩;wtm_at "cl";rw[show start AO [x0,x1]=[some x0,some x1]from rfl];obtain⟨x,t,u,n,hx,hy,hu,bx,hn,bt,bu,q⟩:=h;obtain⟨bx1,bx2⟩:=bx.mono hn;have hp:=vI (den_pos x) hu;o_head LX hy ?_;o_head zzU hy ?_;o_head LX hy ?_;o_head kT hp ((bx2.mul bu).mono (by decide)) (λv H' s hv=>?_);rw[YG x hu]at hv;exact q v H' s hv
def Kz(K:wa):Sp:=λvs H Q _=>∃x0 x1,vs=[x0,x1] /\ ∃(x y:Rat)(m n:Nat),Is K H x0 (N x)/\Is K H x1 (N y)/\ag m x/\ag n y/\m+n<=8999 /\ ∀v H',ah H H'->Is K H' v (N (x-y))->Q v H'
theorem Ba{K:wa}{H:Hp}{Q:VK}{E:XK}{x y:Rat}{m n:Nat}{v w:V}(h1:Is K H v (N x))(h2:Is K H w (N y))(b1:ag m x)(b2:ag n y)(hmn:m+n<=8999)(q:∀v H',ah H H'->Is K H' v (N (x-y))->Q v H'):Kz K [v,w] H Q E:=⟨_,_,rfl,x,y,m,n,h1,h2,b1,b2,hmn,q⟩
theorem Dj(T:Txt K mg a):aH P w K mg base aQ 2 a.Iq a.G1 r_ (Kz K):=by
 refine T.q_.F.ok zsG ?_ ?_;wtm_at "b2";refine⟨_,(av (aB (ao (fS T) hr T.fu (ae (aD h_ (aD cv (aj (pv 0)) (aj (pv 1))) (aD cv (aj (pv 1)) (aj (pv 0)))) (ae (aD cv (aj (pv 0)) (aj (pv 1))) af))))),?_⟩;wtm_at "cl";rw[show start BA [x0,x1]=[some x0,some x1]from rfl];obtain⟨x,y,m,n,hx,hy,bx,by',hmn,q⟩:=h;have cx:=bx.mono (show m<=8999 by omega);have cy:=by'.mono (show n<=8999 by omega);o_head kT (Pn x y) ((bx.b.mul by'.b).mono hmn) (λv H' s hv=>?_);rw[Kp]at hv;exact q v H' s hv
def NG(K:wa):Sp:=λvs H Q _=>∃x0 x1,vs=[x0,x1] /\ ∃(x y:Rat),Is K H x0 (N x)/\Is K H x1 (N y)/\ag 4000 x/\ag 4000 y /\ ∀v H',ah H H'->Is K H' v (N (x*y))->Q v H'
theorem zmQ{K:wa}{H:Hp}{Q:VK}{E:XK}{x y:Rat}{v w:V}(h1:Is K H v (N x))(h2:Is K H w (N y))(b1:ag 4000 x)(b2:ag 4000 y)(q:∀v H',ah H H'->Is K H' v (N (x*y))->Q v H'):NG K [v,w] H Q E:=⟨_,_,rfl,x,y,h1,h2,b1,b2,q⟩
local macro_rules | `(tactic| wtm_at "gs")=>`(tactic| ((with_reducible apply zmQ); (focus wtm_at "is"); (focus wtm_at "is"); (focus wtm_at "bdr"); (focus wtm_at "bdr"); intro _ _ _ _))
theorem zf(T:Txt K mg a):aH P w K mg base aQ 2 a.GC a.FE yx (NG K):=by
 refine T.nM.F.ok Zz ?_ ?_;wtm_at "b2";refine⟨_,(av (aB (ao (fS T) hr T.fu (ae (aD cv (aj (pv 0)) (aj (pv 1))) (ae (aD cv (aj (pv 0)) (aj (pv 1))) af))))),?_⟩;wtm_at "cl";rw[show start DX [x0,x1]=[some x0,some x1]from rfl];obtain⟨x,y,hx,hy,⟨bx1,bx2⟩,⟨by1,by2⟩,q⟩:=h;o_head kT (Pn x y) ((bx2.mul by2).mono (by decide)) (λv H' s hv=>?_);rw[O3]at hv;exact q v H' s hv
def Ms(K:wa):Sp:=λvs H Q _=>∃x0 x1,vs=[x0,x1] /\ ∃(x y:Rat),Is K H x0 (N x)/\Is K H x1 (N y)/\ag 8999 x/\ag 8999 y/\Q (.bl (decide (x<y))) H
theorem zqG{K:wa}{H:Hp}{Q:VK}{E:XK}{x y:Rat}{v w:V}(h1:Is K H v (N x))(h2:Is K H w (N y))(b1:ag 8999 x)(b2:ag 8999 y)(q:Q (.bl (decide (x<y))) H):Ms K [v,w] H Q E:=⟨_,_,rfl,x,y,h1,h2,b1,b2,q⟩
local macro_rules | `(tactic| wtm_at "gs")=>`(tactic| ((with_reducible apply zqG); (focus wtm_at "is"); (focus wtm_at "is"); (focus wtm_at "bdr"); (focus wtm_at "bdr")))
theorem zp8(T:Txt K mg a):aH P w K mg base aQ 1 a.HI a.F_ tM (Ms K):=by
 refine T.GB.F.ok YV ?_ ?_;wtm_at "b2";refine⟨_,(av (aB (d9 jF (aD cv (aj (pv 0)) (aj (pv 1))) (aD cv (aj (pv 1)) (aj (pv 0))) (aZ _)))),?_⟩;wtm_at "cl";rw[show start EZ [x0,x1]=[some x0,some x1]from rfl];obtain⟨x,y,hx,hy,⟨bx1,bx2⟩,⟨by1,by2⟩,q⟩:=h;k_few;rw[S0];exact q
theorem zV{w z n d:Int}(hw:1<=w)(hw8:w<=8)(hz:w<z)(hz4:z<=4*w)(hn:0<=n)(hd:1<=d)(hnd:n<=d)(hd12:d<=12):aU (wu z w) (wu n d):=by
 obtain⟨a1,a2,a3⟩:=K0 (x:=wu z w) rfl hw hw8 (by omega) hz4;obtain⟨b1,b2,b3⟩:=Bx (y:=wu n d) rfl hd hd12 hn hnd
 have h1:(1:Rat)<wu z w:=by
  have:=cH z (show w≠0 by omega);refine Rat.not_le.mp λk=>?_
  have h2:=qP k (vK (kc (show 0<w by omega)));rw[this,qG]at h2;have:=W7.mp h2;omega
 exact⟨a1,a2,a3,b1,b2,b3,by grind⟩
theorem OH{n d:Int}(hn:0<=n)(hd:1<=d)(hnd:n<=d)(hd12:d<=12):aU 1 (wu n d):=by
 obtain⟨b1,b2,b3⟩:=Bx (y:=wu n d) rfl hd hd12 hn hnd;exact⟨by decide,by decide,by decide,b1,b2,b3,by grind⟩
theorem tP{w t n d:Int}(hw:2<=w)(hw8:w<=8)(ht:1<=t)(htw:t<w)(hn:0<=n)(hd:1<=d)(hnd:n<=d)(hd12:d<=12)(h:(w-t)*d<=n*w):aU (wu t w) (wu n d):=by
 obtain⟨a1,a2,a3⟩:=K0 (x:=wu t w) rfl (by omega) hw8 ht (by omega);obtain⟨b1,b2,b3⟩:=Bx (y:=wu n d) rfl hd hd12 hn hnd;refine⟨a1,a2,a3,b1,b2,b3,?_⟩;have e1:=cH t (show w≠0 by omega);have e2:=cH n (show d≠0 by omega);have pw:(0:Rat)<(w:Rat):=kc (show 0<w by omega);have pd:(0:Rat)<(d:Rat):=kc (show 0<d by omega);refine W9.mp λk=>?_
 have k1:=Qb k (VO pw pd)
 have e3:(wu t w+wu n d)*((w:Rat)*(d:Rat))=(t:Rat)*(d:Rat)+(n:Rat)*(w:Rat):=by
  rw[<- e1,<- e2];grind
 rw[e3,qG]at k1
 have k2:((t*d+n*w:Int):Rat)<((w*d:Int):Rat):=by
  rw[qa,vJ,vJ,vJ];exact k1
 have k3:=VP.mp k2;rw[Int.sub_mul]at h;omega
theorem Ph{t w d:Int}(hw:2<=w)(ht:1<=t)(htw:t<w)(hd:1<=d):1<=0-((t-w)*d).fdiv w/\0-((t-w)*d).fdiv w<=d/\(w-t)*d<=(0-((t-w)*d).fdiv w)*w:=by
 rw[Vh _ (by omega)];have e:(t-w)*d = -((w-t)*d):=by rw[<- Int.neg_mul];congr 1;omega
 have p:1<=(w-t)*d:=by
  have:=Int.mul_le_mul (show(1:Int)<=w-t by omega) hd (by omega) (by omega);omega
 have hle:(w-t)*d<=w*d:=Wq (by omega) (by omega);rw[e];generalize (w-t)*d=m at *;have h1:=XR (-m) (show w≠0 by omega);have h2:=Int.lt_ediv_add_one_mul_self (-m) (show 0<w by omega);generalize -m / w=q at *;have e2:(0-q)*w = -(q*w):=by rw[Int.sub_mul,Int.zero_mul];omega
 have e3:(q+1)*w=q*w+w:=by rw[Int.add_mul,QU]
 rw[e3]at h2;refine⟨?_,?_,by rw[e2];omega⟩
 ·refine Int.not_lt.mp λk=>?_
  have:0<=q*w:=X0 (by omega) (by omega);omega
 ·refine Int.not_lt.mp λk=>?_
  have:(q+1)*w<=(-d)*w:=Wq (by omega) (by omega);rw[e3,Int.neg_mul,Int.mul_comm d w]at this;omega
def Ry(K:wa):Sp:=λvs H Q _=>∃x0,vs=[x0] /\ ∃(p:we)(k:Int),x0=.ref p/\cw H p k/\k<=1000 /\ ∀v H' (a b:Rat),Exc p H H'->bK H H'->cw H' p (k+8)->Is K H' v (R a b)->aU a b->Q v H'
theorem ZE{K:wa}{H:Hp}{Q:VK}{E:XK}{p:we}{k:Int}(h:cw H p k)(hk:k<=1000)(q:∀v H' (a b:Rat),Exc p H H'->bK H H'->cw H' p (k+8)->Is K H' v (R a b)->aU a b->Q v H'):Ry K [.ref p] H Q E:=⟨_,rfl,p,k,rfl,h,hk,q⟩
theorem zkq(T:Txt K mg a):aH P w K mg base aQ 2 a.FH a.Fj yL (Ry K):=by
 refine T.Fq.F.ok jx ?_ ?_;wtm_at "b1"
 refine⟨_,(ar (az 1 jx.nd (ao (fi T) hr T.eS (ae (pv 0) (ae ay af))))
     (ar (az 2 jx.nd (aD cA ay (ao (fi T) hr T.eS (ae (pv 0) (ae ay af)))))
     (ar (az 3 jx.nd (aD cA ay (ao (fi T) hr T.eS (ae (pv 0) (ae ay af)))))
     (ar (az 4 jx.nd (ao (fi T) hr T.eS (ae (pv 0) (ae (aD cA (pv 3) ay) af))))
     (ar (bD (bW (show aK _ (wJ .Eq) (cu K)from dq hu) (ao (fi T) hr T.eS (ae (pv 0) (ae ay af))) ay (aZ _)) (av (az 4 jx.nd (bP (show aP _ (.builtin "min") Ek from zvY rfl) rfl T.z_min Zs (ae (pv 4) (ae ay af))))) bA)
     (ar (bD (bW jF (pv 1) ay (aZ _)) (av (aB (br (ae (ao (fS T) hr T.fu (ae (aD cA (aD cA (pv 2) ay) (aD cv (pv 1) (ao (fi T) hr T.eS (ae (pv 0) (ae (aD cv ay (pv 2)) af))))) (ae (pv 2) af))) (ae (ao (fS T) hr T.fu (ae (pv 4) (ae (pv 3) af))) af))))) bA)
     (ar (bD (bW (show aK _ (wJ .Eq) (cu K)from dq hu) (pv 1) ay (aZ _)) (av (aB (br (ae (br (ae ay (ae ay af))) (ae (ao (fS T) hr T.fu (ae (pv 4) (ae (pv 3) af))) af))))) bA)
     (ar (az 2 jx.nd (aD cA ay (aD gB (pv 2) ay)))
     (ar (az 5 jx.nd (aD cA ay (ao (fi T) hr T.eS (ae (pv 0) (ae (aD h_ (pv 2) ay) af)))))
     (ar (bD (bW (show aK _ (wJ .Eq) (cu K)from dq hu) (pv 1) ay (aZ _)) (av (aB (br (ae (ao (fS T) hr T.fu (ae (pv 5) (ae (pv 2) af))) (ae (ao (fS T) hr T.fu (ae (aD h_ (pv 2) (pv 5)) (ae (pv 2) af))) af))))) bA)
     (ar (az 6 jx.nd (aD h_ ay (aD ft (aD cv (aD h_ (pv 5) (pv 2)) (pv 3)) (pv 2))))
     (av (aB (br (ae (ao (fS T) hr T.fu (ae (pv 5) (ae (pv 2) af))) (ae (ao (fS T) hr T.fu (ae (aD cA (pv 6) (ao (fi T) hr T.eS (ae (pv 0) (ae (aD cA (aD h_ (pv 3) (pv 6)) ay) af)))) (ae (pv 3) af))) af)))))))))))))))),?_⟩
 wtm_at "cl";rw[show start Nm [x0]=[some x0,none,none,none,none,none,none]from rfl];obtain⟨p,k,rfl,hp,hk,q⟩:=h;wtm_at "ga"
 . rename_i way H1 w0 w1 E1 K1 P1 bt H2 b0 b1 E2 K2 P2 dr H3 d0 d1 E3 K3 P3 mo H4 m0 m1 E4 K4 P4 tw H5 t0 t1 E5 K5 P5 z mn mn0 mn1 mn2 hw rr H6 r0 r1 E6 K6 P6
   have hw2:way=0\/way=1:=by omega
   rcases hw2 with rfl | rfl
   . wtm_at "ga"
     rename_i v7 H7 x7 S7 i7 e7 b7 v8 H8 x8 S8 i8 e8 b8 v9 H9 S9 i9;exact q _ _ x7 x8 (by wtm_at "exc") (by wtm_at "keep") (by wtm_at "penle") i9 (by rw[e7,e8];exact zV (by omega) (by omega) (by omega) (by omega) (by omega) (by omega) (by omega) (by omega))
   . wtm_at "ga"
     rename_i v7 H7 x7 S7 i7 e7 b7 v8 H8 x8 S8 i8 e8 b8 v9 H9 S9 i9;exact q _ _ x7 x8 (by wtm_at "exc") (by wtm_at "keep") (by wtm_at "penle") i9 (by rw[e7,e8];exact zV (by omega) (by omega) (by omega) (by omega) (by omega) (by omega) (by omega) (by omega))
 . rename_i way H1 w0 w1 E1 K1 P1 bt H2 b0 b1 E2 K2 P2 dr H3 d0 d1 E3 K3 P3 mo H4 m0 m1 E4 K4 P4 tw H5 t0 t1 E5 K5 P5 z mn mn0 mn1 mn2 hw hw2 v7 H7 S7 i7 v8 H8 x8 S8 i8 e8 b8 v9 H9 S9 i9
   exact q _ _ 1 x8 (by wtm_at "exc") (by wtm_at "keep") (by wtm_at "penle") i9 (by rw[e8];exact OH (by omega) (by omega) (by omega) (by omega))
 . rename_i way H1 w0 w1 E1 K1 P1 bt H2 b0 b1 E2 K2 P2 dr H3 d0 d1 E3 K3 P3 mo H4 m0 m1 E4 K4 P4 tw H5 t0 t1 E5 K5 P5 z mn mn0 mn1 mn2 hw hw2 rr H6 r0 r1 E6 K6 P6 hw3 v7 H7 x7 S7 i7 e7 b7 v8 H8 x8 S8 i8 e8 b8 v9 H9 S9 i9
   exact q _ _ x7 x8 (by wtm_at "exc") (by wtm_at "keep") (by wtm_at "penle") i9 (by rw[e7,e8];exact tP (by omega) (by omega) (by omega) (by omega) (by omega) (by omega) (by omega) (by omega) (Int.le_refl _))
 . rename_i way H1 w0 w1 E1 K1 P1 bt H2 b0 b1 E2 K2 P2 dr H3 d0 d1 E3 K3 P3 mo H4 m0 m1 E4 K4 P4 tw H5 t0 t1 E5 K5 P5 z mn mn0 mn1 mn2 hw hw2 rr H6 r0 r1 E6 K6 P6 hw3
   have nd:=Ph (t:=1+rr) (w:=2+(1+bt) % 7) (d:=1+dr) (by omega) (by omega) (by omega) (by omega);refine pR ⟨by omega,(Bd.j9 (by omega) (by omega)).mono (by decide)⟩ ?_;generalize ((1+rr-(2+(1+bt) % 7))*(1+dr)).fdiv (2+(1+bt) % 7)=fd at nd ⊢;obtain⟨n1,n2,n3⟩:=nd;wtm_at "ga";rename_i v7 H7 x7 S7 i7 e7 b7 s8 H8 s0 s1 E8 K8 P8 v9 H9 x9 S9 i9 e9 b9 v10 H10 S10 i10
   exact q _ _ x7 x9 (by wtm_at "exc") (by wtm_at "keep") (by wtm_at "penle") i10 (by
     rw[e7,e9];refine tP (by omega) (by omega) (by omega) (by omega) (by omega) (by omega) (by omega) (by omega) ?_;have:(0-fd)*(2+(1+bt) % 7)<=(0-fd+s8)*(2+(1+bt) % 7):=Wq (by omega) (by omega);omega)
 . rename_i way H1 w0 w1 E1 K1 P1 bt H2 b0 b1 E2 K2 P2 dr H3 d0 d1 E3 K3 P3 mo H4 m0 m1 E4 K4 P4 tw H5 t0 t1 E5 K5 P5 z hw rr H6 r0 r1 E6 K6 P6
   have hw2:way=0\/way=1:=by omega
   rcases hw2 with rfl | rfl
   . wtm_at "ga"
     rename_i v7 H7 x7 S7 i7 e7 b7 v8 H8 x8 S8 i8 e8 b8 v9 H9 S9 i9;exact q _ _ x7 x8 (by wtm_at "exc") (by wtm_at "keep") (by wtm_at "penle") i9 (by rw[e7,e8];exact zV (by omega) (by omega) (by omega) (by omega) (by omega) (by omega) (by omega) (by omega))
   . wtm_at "ga"
     rename_i v7 H7 x7 S7 i7 e7 b7 v8 H8 x8 S8 i8 e8 b8 v9 H9 S9 i9;exact q _ _ x7 x8 (by wtm_at "exc") (by wtm_at "keep") (by wtm_at "penle") i9 (by rw[e7,e8];exact zV (by omega) (by omega) (by omega) (by omega) (by omega) (by omega) (by omega) (by omega))
 . rename_i way H1 w0 w1 E1 K1 P1 bt H2 b0 b1 E2 K2 P2 dr H3 d0 d1 E3 K3 P3 mo H4 m0 m1 E4 K4 P4 tw H5 t0 t1 E5 K5 P5 z hw hw2 v7 H7 S7 i7 v8 H8 x8 S8 i8 e8 b8 v9 H9 S9 i9
   exact q _ _ 1 x8 (by wtm_at "exc") (by wtm_at "keep") (by wtm_at "penle") i9 (by rw[e8];exact OH (by omega) (by omega) (by omega) (by omega))
 . rename_i way H1 w0 w1 E1 K1 P1 bt H2 b0 b1 E2 K2 P2 dr H3 d0 d1 E3 K3 P3 mo H4 m0 m1 E4 K4 P4 tw H5 t0 t1 E5 K5 P5 z hw hw2 rr H6 r0 r1 E6 K6 P6 hw3 v7 H7 x7 S7 i7 e7 b7 v8 H8 x8 S8 i8 e8 b8 v9 H9 S9 i9
   exact q _ _ x7 x8 (by wtm_at "exc") (by wtm_at "keep") (by wtm_at "penle") i9 (by rw[e7,e8];exact tP (by omega) (by omega) (by omega) (by omega) (by omega) (by omega) (by omega) (by omega) (Int.le_refl _))
 . rename_i way H1 w0 w1 E1 K1 P1 bt H2 b0 b1 E2 K2 P2 dr H3 d0 d1 E3 K3 P3 mo H4 m0 m1 E4 K4 P4 tw H5 t0 t1 E5 K5 P5 z hw hw2 rr H6 r0 r1 E6 K6 P6 hw3
   have nd:=Ph (t:=1+rr) (w:=2+(1+bt) % 7) (d:=1+dr) (by omega) (by omega) (by omega) (by omega);refine pR ⟨by omega,(Bd.j9 (by omega) (by omega)).mono (by decide)⟩ ?_;generalize ((1+rr-(2+(1+bt) % 7))*(1+dr)).fdiv (2+(1+bt) % 7)=fd at nd ⊢;obtain⟨n1,n2,n3⟩:=nd;wtm_at "ga";rename_i v7 H7 x7 S7 i7 e7 b7 s8 H8 s0 s1 E8 K8 P8 v9 H9 x9 S9 i9 e9 b9 v10 H10 S10 i10
   exact q _ _ x7 x9 (by wtm_at "exc") (by wtm_at "keep") (by wtm_at "penle") i10 (by
     rw[e7,e9];refine tP (by omega) (by omega) (by omega) (by omega) (by omega) (by omega) (by omega) (by omega) ?_;have:(0-fd)*(2+(1+bt) % 7)<=(0-fd+s8)*(2+(1+bt) % 7):=Wq (by omega) (by omega);omega)
def Rm(K:wa):Sp:=λvs H Q _=>∃x0 x1,vs=[x0,x1] /\ ∃(p:we)(k m:Int),x0=.ref p/\x1=.int m/\cw H p k/\k<=1000/\1<=m/\m<=8 /\ ∀(l:we)(H':Hp)(us:List V)(xs:List Rat),H l=none->Exc p H H'->bK H H'->cw H' p (k+11)->H' l=some (.lst us)->au K H' us (xs.map N)->1<=xs.length->(xs.length:Int)<=m->(∀x∈xs,eC x)->Q (.ref l) H'
theorem ziX{K:wa}{H:Hp}{Q:VK}{E:XK}{p:we}{k m:Int}(h:cw H p k)(hk:k<=1000)(h1:1<=m)(h8:m<=8)(q:∀(l:we)(H':Hp)(us:List V)(xs:List Rat),H l=none->Exc p H H'->bK H H'->cw H' p (k+11)->H' l=some (.lst us)->au K H' us (xs.map N)->1<=xs.length->(xs.length:Int)<=m->(∀x∈xs,eC x)->Q (.ref l) H'):Rm K [.ref p,.int m] H Q E:=⟨_,_,rfl,p,k,m,rfl,rfl,h,hk,h1,h8,q⟩
theorem ziU(T:Txt K mg a):aH P w K mg base aQ 2 a.Fo a.Fg zU (Rm K):=by
 refine T.Fi.F.ok p5 ?_ ?_;wtm_at "b2"
 refine⟨_,(ar (az 2 p5.nd (aD cA ay (ao (fi T) hr T.eS (ae (pv 0) (ae (pv 1) af)))))
     (ar (az 3 p5.nd (aD cA ay (ao (fi T) hr T.eS (ae (pv 0) (ae ay af)))))
     (ar (az 4 p5.nd (dC dg (eH (ae (pv 3) (ae (aD cA ay (aD ft (pv 3) ay)) af))) (ao (fi T) hr T.eS (ae (pv 0) (ae ay af))) (λ_ _=>rfl)))
     (ar (az 5 p5.nd (aD ft (pv 3) (pv 4)))
     (av (aB (dU rfl (cC.by (N':=["_law_k","_law_bottom","_law_apart","_law_pen_here","_law_few"]) (src:=[none,some 3,some 5,some 0,some 4]) rfl (show cS _ (aC tZ).names Cg ["_law_k","_law_bottom","_law_apart","_law_pen_here","_law_few"] [none,some 3,some 5,some 0,some 4]=true from by decide +kernel)) (j5 rfl T.z_range (ae (pv 2) af)) (λ_ _ _ _ _=>(bR (i:=0) (show(["_law_k","_law_bottom","_law_apart","_law_pen_here","_law_few"]:List Str).Nodup from by decide) rfl (Or.inl rfl))) (λ_ _ _ _ _=>du) (λ_ _ _ _ _=>(ao (fS (K:=K) (mg:=mg) (a:=a) T) hr T.fu (ae (aD cv (ao (fi (K:=K) (mg:=mg) (a:=a) T) hr T.eS (ae (pv 3) (ae (pv 4) af))) (pv 2)) (ae (pv 1) af))))))))))),?_⟩
 wtm_at "cl";rw[show start Cg [x0,x1]=[some x0,some x1,none,none,none,none]from rfl];obtain⟨p,k,m,rfl,rfl,hp,hk,h1,h8,q⟩:=h;wtm_at "ga";rename_i ra Ha ra0 ra1 Ea Ka Pa rb Hb rb0 rb1 Eb Kb Pb lc Hc nc Sc ec rd Hd rd0 rd1 Ed Kd Pd z hz;have E1:Exc p H Hd:=Ea.trans (Eb.trans (Sc.exc.trans Ed));have K1:bK H Hd:=Ka.trans (Kb.trans (Sc.keep.trans Kd));clear Ea Ka Pa Eb Kb Pb Sc ec nc Ed Kd hp;generalize hB:2+rb=B at *;have B2:2<=B/\B<=60:=by omega
 have hz1:1<=z/\z<=B:=by
   rcases hz with rfl | rfl
   . omega
   . rw[Vh _ (by decide)];omega
 refine pR ⟨by omega,(Bd.j9 (by omega) (by omega)).mono (by decide)⟩ ?_
 have ha:1<=B.fdiv z/\B.fdiv z*z<=B/\B.fdiv z<=B:=by
   rw[Vh _ (by omega)];refine⟨?_,XR _ (by omega),Xl _ (by omega)⟩;exact(Int.le_ediv_iff_mul_le (by omega)).mpr (by omega)
 generalize B.fdiv z=a at *;obtain⟨a1,a2,a3⟩:=ha;k_few;obtain⟨n,hn⟩:∃n:Nat,1+ra=(n:Int):=⟨(1+ra).toNat,by omega⟩;rw[hn];refine NT (n:=(n:Int)) (by omega) (by omega) (λD i ys σ' H'=>(∃o,σ'=[o,some (.int B),some (.int a),some (.ref p),some (.int z)])/\Hd D=none/\D≠p/\Exc p Hd H'/\bK Hd H'/\cw H' p (k+1+1+1+(i:Int)) /\ ∃(us:List V)(xs:List Rat),H' D=some (.lst us)/\xs.length=i/\au K H' us (xs.map N) /\ ∀x∈xs,eC x) ?_ ?_ ?_
 . intro D H' n s e
   exact⟨⟨_,rfl⟩,n,cw.ne n Pd,s.exc,s.keep,(Pd.same s).le (by omega),[],[],e,rfl,.nil,by simp⟩
 . rintro D i ys σ' H' hi ⟨⟨o,rfl⟩,hn',hne,hE,hK,hP,us,xs,hD,hl,ht,hm⟩
   k_few;rename_i r H6 r0 r1 E6 K6 P6;have t0:0<=r*a:=X0 r0 (by omega)
   have t1:r*a<B:=by
     have h1:(r+1)*a<=z*a:=Wq (by omega) (by omega);rw[Int.add_mul,QU]at h1;have h2:z*a=a*z:=Int.mul_comm _ _;omega
   generalize r*a=t at *;k_few;rename_i v7 H7 x7 S7 i7 e7 b7;have hul:=ht.length;simp only[wm]at hul;have hD7:=S7 _ _ (E6.at hne hD);have px:eC x7:=by rw[e7];exact Lj (by omega) (by omega) (by omega)
   refine lI hD7 (by omega) (λH8 E8 e8=>?_);have K8:bK H7 H8:=E8.keep hD7;refine⟨⟨_,rfl⟩,hn',hne,λb o hb h=>E8 b o (jM h hn') (S7 b o ((hE.trans E6) b o hb h)),(hK.trans K6).trans (S7.keep.trans K8),?_,us++[v7],xs++[x7],e8,by simp[hl],?_,?_⟩
   . obtain⟨x,y,z,e,h1,h2⟩:=P6
     exact⟨x,y,z,E8 p _ (Wo hne) (S7 _ _ e),h1,by omega⟩
   . rw[vD]
     exact(au.keep (K6.trans (S7.keep.trans K8)) _ _ (fU _) ht).append (.cons (i7.fI K8) .nil)
   . intro y hy
     rcases vM.mp hy with h | h
     . exact hm y h
     . rw[wY.mp h];exact px
 . rintro D ys σ' H' ⟨_,hn',hne,hE,hK,hP,us,xs,hD,hl,ht,hm⟩
   rw[wP]at hl hP;k_few
   have hfr:H D=none:=by
     cases e:H D with
     | none=>rfl
     | some o=>rw[E1 D o hne e]at hn';cases hn'
   exact q D H' us xs hfr (E1.trans hE) (K1.trans hK) (hP.le (by omega)) hD ht (by omega) (by omega) hm
def Rj(K:wa):Sp:=λvs H Q _=>∃x0,vs=[x0] /\ ∃xs:List Rat,Is K H x0 (LN xs)/\1<=xs.length/\(∀i,ag 4000 (xs.getD i 0)) /\ ∀v,Is K H v (N (aY xs))->Q v H
theorem zsc{K:wa}{H:Hp}{Q:VK}{E:XK}{xs:List Rat}{v:V}(h:Is K H v (LN xs))(h1:1<=xs.length)(b:∀i,ag 4000 (xs.getD i 0))(q:∀v,Is K H v (N (aY xs))->Q v H):Rj K [v] H Q E:=⟨_,rfl,xs,h,h1,b,q⟩
theorem zr2(T:Txt K mg a):aH P w K mg base aQ 2 a.Ii a.GL zN (Rj K):=by
 refine T.Hj.F.ok sr ?_ ?_;wtm_at "b1"
 refine⟨_,(ar (az 1 sr.nd (aj (pv 0)))
     (ar (gz vE rfl (gr (pv 0)) (bR (i:=2) sr.nd rfl (Or.inl rfl)) (av (bD (cb (ao (zp8 T) hr T.GB (ae (pv 1) (ae (pv 2) af)))) (av (az 1 sr.nd (pv 2))) bA)))
     (av (aB (pv 1))))),?_⟩
 wtm_at "cl";rw[show start OL [x0]=[some x0,none,none]from rfl];obtain⟨xs,hx,h1,bx,q⟩:=h;obtain⟨ap,us,rfl,hs,tu⟩:=cE.mp hx;have hul:us.length=xs.length:=by rw[tu.length,wm]
 o_head jJ hx (by decide) (by omega) (λv0 i0=>?_);have i0:Is K H v0 (N (mx (xs.getD 0 0) [])):=i0;o_head y7 hs (λi σ H'=>∃o v,σ = [some (.ref ap),some v,o]/\H'=H/\Is K H v (N (mx (xs.getD 0 0) (xs.take i)))) ⟨_,v0,rfl,rfl,by rw[Q8];exact i0⟩ (λi σ H' _ h=>by obtain⟨_,_,_,rfl,_⟩:=h;exact hs) ?_ ?_
 . rintro i x σ H' hx' ⟨o,v,rfl,rfl,iv⟩
   obtain⟨hi,ix⟩:=dk tu hx';have b1:=yp bx h1 i;have b2:=bx i;k_few
   . rename_i z
     exact⟨_,x,rfl,rfl,by rw[km hi,my,if_pos z];exact ix⟩
   . rename_i z
     exact⟨_,v,rfl,rfl,by rw[km hi,my,if_neg z];exact iv⟩
 . rintro σ H' ⟨o,v,rfl,rfl,iv⟩
   rw[hul,Wc]at iv;k_few;exact q v iv
def Ma(K:wa):Sp:=λvs H Q _=>∃x0,vs=[x0] /\ ∃(ra rb:Rat)(xs:List Rat),Is K H x0 (aW ra rb xs)/\cK ra rb xs/\(gy ra rb xs->∀H',ah H H'->Q .bj H') /\ ∀l H' es n w,eJ ra rb xs es n w->H l=none->ah H H'->Is K H' (.ref l) (.list (cj ra rb xs es n w))->Q (.ref l) H'
theorem uD{K:wa}{H:Hp}{Q:VK}{E:XK}{ra rb:Rat}{xs:List Rat}{v:V}(h:Is K H v (aW ra rb xs))(ok:cK ra rb xs)(qe:gy ra rb xs->∀H',ah H H'->Q .bj H')(q:∀l H' es n w,eJ ra rb xs es n w->H l=none->ah H H'->Is K H' (.ref l) (.list (cj ra rb xs es n w))->Q (.ref l) H'):Ma K [v] H Q E:=⟨_,rfl,ra,rb,xs,h,ok,qe,q⟩
theorem Nv(T:Txt K mg a):aH P w K mg base aQ 14 a.Ic a.Gs uN (Ma K):=by
 refine T.Af.F.ok yl ?_ ?_;wtm_at "b1"
 refine⟨_,(ar (az 1 yl.nd fh)
     (ar (MC (tb:=λW=>jV (uK (BZ K a) W (uZ (pM 0) yM)) (gX 1)) (th:=jV (tC .bj) (gX 1)) rfl rfl rfl T.Ag (λW pn E' hx=>by exact(av (az 1 yl.nd (MR (Si T) (hr.mono (by decide)) rfl T.nN.g T.nN.F.kp T.nN.b hx (ae (pv 0) af))))) (λpn ex oe=>by exact(av (az 1 yl.nd fh))))
     (av (aB (pv 1))))),?_⟩
 wtm_at "cl";rw[show start NQ [x0]=[some x0,none]from rfl];obtain⟨ra,rb,xs,hw,ok,qe,q⟩:=h;o_head N8 (λσ' C o H'=>σ'=[some x0,some .bj]/\C=.ref a.fc/\gy ra rb xs/\ah H H') ?_ ?_
 . k_few
   refine Ny hw ok (λF H' S=>⟨rfl,rfl,F,S⟩) (λl H' es n w P hl S i=>?_);k_few;exact q l H' es n w P hl S i
 . rintro σ' C o H' ⟨rfl,rfl,F,S⟩
   refine⟨T.Fm,?_⟩;k_few;exact qe F H' S
def A5(K:wa):Sp:=λvs H Q _=>∃x0,vs=[x0] /\ ∃(ra rb:Rat)(xs:List Rat),Is K H x0 (aW ra rb xs)/\cK ra rb xs/\(gy ra rb xs->∀H',ah H H'->Q .bj H') /\ ∀es n w v H',eJ ra rb xs es n w->ah H H'->Is K H' v (oM w (ak (ai ra rb xs n)).length)->Q v H'
theorem Ym{K:wa}{H:Hp}{Q:VK}{E:XK}{ra rb:Rat}{xs:List Rat}{v:V}(h:Is K H v (aW ra rb xs))(ok:cK ra rb xs)(qe:gy ra rb xs->∀H',ah H H'->Q .bj H')(q:∀es n w v H',eJ ra rb xs es n w->ah H H'->Is K H' v (oM w (ak (ai ra rb xs n)).length)->Q v H'):A5 K [v] H Q E:=⟨_,rfl,ra,rb,xs,h,ok,qe,q⟩
theorem Pr{K:wa}{H:Hp}{Q:VK}{E:XK}{ra rb:Rat}{xs:List Rat}{v:V}(h:Is K H v (aW ra rb xs))(ok:cK ra rb xs)(q:∀v H',ah H H'->(v=.bj/\gy ra rb xs \/ ∃es n w,eJ ra rb xs es n w/\Is K H' v (oM w (ak (ai ra rb xs n)).length))->Q v H'):A5 K [v] H Q E:=Ym h ok (λF H' S=>q _ _ S (.inl ⟨rfl,F⟩)) (λes n w v H' P S i=>q _ _ S (.inr ⟨es,n,w,P,i⟩))
theorem Mh(T:Txt K mg a):aH P w K mg base aQ 15 a.FY a.Fw zd (A5 K):=by
 refine T.z7.F.ok zr ?_ ?_;wtm_at "b1"
 refine⟨_,(ar (az 1 zr.nd fh)
     (ar (MC (tb:=λW=>jV (uK (B8 K a) W (uZ (pM 0) yM)) (gX 1)) (th:=jV (tC .bj) (gX 1)) rfl rfl rfl T.Ag (λW pn E' hx=>by exact(av (az 1 zr.nd (MR (zzB T) (hr.mono (by decide)) rfl T.rz.g T.rz.F.kp T.rz.b hx (ae (pv 0) af))))) (λpn ex oe=>by exact(av (az 1 zr.nd fh))))
     (av (aB (pv 1))))),?_⟩
 wtm_at "cl";rw[show start Oi [x0]=[some x0,none]from rfl];obtain⟨ra,rb,xs,hw,ok,qe,q⟩:=h;o_head N8 (λσ' C o H'=>σ'=[some x0,some .bj]/\C=.ref a.fc/\gy ra rb xs/\ah H H') ?_ ?_
 . k_few
   refine zzG hw ok (λF H' S=>⟨rfl,rfl,F,S⟩) (λes n w v H' P S i=>?_);k_few;exact q es n w v H' P S i
 . rintro σ' C o H' ⟨rfl,rfl,F,S⟩
   refine⟨T.Fm,?_⟩;k_few;exact qe F H' S
theorem Rb(w:PySem.Str):wQ (.str w) (.str w)=true:=by rw[wQ];simp
theorem Dx(n:Int):wQ (.int n) (.int n)=true:=by rw[wQ];simp
theorem nI(n:Int):Sh 1 (.int n):=⟨by simp[vF],by simp[Wu]⟩
theorem U4(a b:Rat)(xs:List Rat)(es:List (Nat × Nat × Nat))(n:Nat)(w:String):Sh 5 (.list (cj a b xs es n w)):=zBT λd hd=>by
 rcases vM.mp hd with z | z
 ·obtain⟨e,_,rfl⟩:=wS.mp z
  refine nq (n:=3) λd hd=>?_
  simp only[wG,Wv,or_false]at hd;rcases hd with rfl | rfl | rfl | rfl
  ·exact(ur _).mono (by decide)
  ·exact(RY _).mono (by decide)
  ·exact(nI _).mono (by decide)
  ·exact(nI _).mono (by decide)
 ·rw[wY.mp z]
  refine nq (n:=3) λd hd=>?_
  simp only[wG,Wv,or_false]at hd;rcases hd with rfl | rfl | rfl
  ·exact(ur _).mono (by decide)
  ·exact(RY _).mono (by decide)
  ·exact(yy (pf _)).mono (by decide)
theorem YK(a b:Rat)(xs:List Rat)(es:List (Nat × Nat × Nat))(n:Nat)(w:String):wQ (.list (cj a b xs es n w)) (.list (cj a b xs es n w))=true:=zBR λd hd=>by
 rcases vM.mp hd with z | z
 ·obtain⟨e,_,rfl⟩:=wS.mp z
  refine Cn λd hd=>?_
  simp only[wG,Wv,or_false]at hd;rcases hd with rfl | rfl | rfl | rfl
  ·exact JF _
  ·exact Lg _
  ·exact Dx _
  ·exact Dx _
 ·rw[wY.mp z]
  refine Cn λd hd=>?_
  simp only[wG,Wv,or_false]at hd;rcases hd with rfl | rfl | rfl
  ·exact JF _
  ·exact Lg _
  ·exact Rb _
def L0(K:wa):Sp:=λvs H Q _=>∃x0 x1 x2,vs=[x0,x1,x2] /\ ∃(a b:Rat)(xs:List Rat)(es:List (Nat × Nat × Nat))(n:Nat)(w:String),x2=.bl true/\Is K H x0 (aW a b xs)/\Is K H x1 (.list (cj a b xs es n w))/\aU a b/\1<=xs.length/\xs.length<=8/\c8 xs/\LW a b xs 0 es n/\es.length<=100/\0∈ai a b xs n/\dB a b (ai a b xs n)=some w/\(∀i k,i+k<=n->Cm 3500 (aG a b (ai a b xs i) k::ai a b (ai a b xs i) k)) /\ ∀H',ah H H'->Q (.bl true) H'
theorem sE{K:wa}{H:Hp}{Q:VK}{E:XK}{a b:Rat}{xs:List Rat}{es:List (Nat × Nat × Nat)}{n:Nat}{w:String}{v u:V}(h:Is K H v (aW a b xs))(hp:Is K H u (.list (cj a b xs es n w)))(ok:aU a b)(h1:1<=xs.length)(h8:xs.length<=8)(ph:c8 xs)(lw:LW a b xs 0 es n)(bN:es.length<=100)(h0:0∈ai a b xs n)(hw:dB a b (ai a b xs n)=some w)(c:∀i k,i+k<=n->Cm 3500 (aG a b (ai a b xs i) k::ai a b (ai a b xs i) k))(q:∀H',ah H H'->Q (.bl true) H'):L0 K [v,u,.bl true] H Q E:=⟨_,_,_,rfl,a,b,xs,es,n,w,rfl,h,hp,ok,h1,h8,ph,lw,bN,h0,hw,c,q⟩
theorem zA(T:Txt K mg a):aH P w K mg base aQ 13 a.IC a.GP rY (L0 K):=by
 refine T.nO.F.ok C1 ?_ ?_;wtm_at "b3"
 refine⟨_,(ar (az 3 C1.nd (dY (show aP _ (.type "list") (jN K)from oE) rfl T.z_list kh (ae (pv 1) af)))
     (ar (az 4 C1.nd (ao (Y8 T) hr T.HM (ae (pv 0) (ae (pv 1) af))))
     (av (aB (eQ (bP (show aP _ (.builtin "isinstance") (eG K)from ja) rfl T.z_isinstance ik (ae (pv 4) (ae (gU (v:=.ty "bool") rfl T.z_bool KN rfl) af))) (eQ (d9 (show aK _ (wJ .Eq) (cu K)from dq hu) (pv 4) (pv 2) (aZ _)) (fN (d9 (show aK _ (wJ .Eq) (cu K)from dq hu) (pv 1) (pv 3) (aZ _))))))))),?_⟩
 wtm_at "cl";rw[show start Ss [x0,x1,x2]=[some x0,some x1,some x2,none,none]from rfl];obtain⟨ra,rb,xs,es,n,wd,rfl,hw,hp,ok,y1,y8,ph,lw,bN,h0,hwd,c,q⟩:=h
 have hwi:iE wd:=by
   rcases Ox (a:=ra) (b:=rb) (xs:=ai ra rb xs n)with e | ⟨w',e,i⟩
   . rw[hwd]at e;cases e
   . rw[hwd]at e;cases e;exact i
 o_head JJ hp (λl H1 us n1 S1 e1 t1=>?_);have i1:Is K H1 (.ref l) (.list (cj ra rb xs es n wd)):=cE.mpr ⟨l,us,rfl,.of e1,t1⟩;o_head YF (hw.by S1) (hp.by S1) ok y1 y8 rfl ph lw bN h0 hwi c (λH2 S2=>?_);rw[hwd,decide_eq_true rfl,decide_eq_true rfl,xm];o_head UM ?_;rw[show(true == true)=true from rfl];o_head NP (hp.by (S1.trans S2)) (i1.by S2) (U4 ..) (by decide) (YK ..) ?_;exact q _ (S1.trans S2)
theorem cT.lw{a b:Rat}{xs:List Rat}(hk:cK a b xs):∀{es:List (Nat × Nat × Nat)}{i n:Nat},cT a b xs i es n->LW a b xs i es n
 | [],_,_,h=>h
 | e::es,i,n,h=>by
  refine⟨h.1,?_,cT.lw hk h.2.2⟩;rcases h.2.1 with⟨e0,er,eg⟩ | ⟨i1,_,R⟩
  ·rw[er,eg]
   exact⟨by omega,by omega,λz=>by omega⟩
  ·have:=R.gN
   have:=(hk.nf i).2;exact⟨R.ji,by omega,λ_=>⟨hk.hp.zero hk.ok.a0 hk.ok.b0 hk.h1 i1,R.free⟩⟩
theorem zuu{a b:Rat}{xs:List Rat}{m n:Nat}(h:m<=n):cf a b xs m<=cf a b xs n:=by
 obtain⟨k,rfl⟩:=Nat.exists_eq_add_of_le h;rw[mW];omega
theorem zAG(a b:Rat)(xs:List Rat)(es:List (Nat × Nat × Nat))(n:Nat)(w:String)(j:Nat):cW ((cj a b xs es n w).getD j .none)=true:=by
 have all:∀d∈cj a b xs es n w,cW d=true:=λd hd=>by
  rcases vM.mp hd with z | z
  ·obtain⟨e,_,rfl⟩:=wS.mp z
   exact zw _ _ _ _
  ·rw[wY.mp z]
   exact LR _ _ _ _ _
 rw[wb];cases e:(cj a b xs es n w)[j]? with
 | none=>rfl
 | some d=>exact all d (xb e)
theorem tF(a b:Rat)(xs:List Rat)(es:List (Nat × Nat × Nat))(n:Nat)(w:String):(cj a b xs es n w).length=es.length+1:=by simp[cj]
theorem eJ.Jq{a b:Rat}{xs:List Rat}{es:List (Nat × Nat × Nat)}{n:Nat}{w:String}(P:eJ a b xs es n w)(ok:cK a b xs):∀i k,i+k<=n->Cm 3500 (aG a b (ai a b xs i) k::ai a b (ai a b xs i) k):=λi k h=>by
 have hnf:=ok.nf n;have s1:=P.sp.1;have s2:=P.sp.2;have:=zuu (a:=a) (b:=b) (xs:=xs) h;exact ok.jA (by omega) (by omega)
structure gk(a b:Rat)(xs ys:List Rat)(d:Rat):Prop where
 len:ys.length=xs.length
 ph:∀i,1<=i->ai a b ys i=ai a b xs i
 hr:∀i,1<=i->aG a b ys i=aG a b xs i+d
theorem gk.lead{a b:Rat}{xs ys:List Rat}{d:Rat}(M:gk a b xs ys d){i r g:Nat}(h:i=0->r=0):cJ a b ys i r g=cJ a b xs i r g:=by
 unfold cJ;rcases xN i with z | z
 ·rw[h z];simp
 ·rw[M.ph i z]
theorem gk.walk{a b:Rat}{xs ys:List Rat}{d:Rat}(M:gk a b xs ys d):∀{es:List (Nat × Nat × Nat)}{i n:Nat},cT a b xs i es n->cT a b ys i es n
 | [],_,_,h=>h
 | e::es,i,n,h=>by
  obtain⟨h1,h2,h3⟩:=h
  have hr:jT a b ys i e.2.1 e.2.2/\(i=0->e.2.1=0):=by
   rcases h2 with⟨z,y,u⟩ | ⟨z,y,R⟩
   ·exact⟨.inl ⟨z,y,u⟩,λ_=>y⟩
   ·unfold jT
    rw[M.ph i z];exact⟨.inr ⟨z,y,R⟩,λe=>by omega⟩
  exact⟨h1,hr.1,by rw[M.lead hr.2];exact M.walk h3⟩
theorem Uk{a b:Rat}{xs:List Rat}{es:List (Nat × Nat × Nat)}{n:Nat}(h:cT a b xs 0 es n){j:Nat}(j1:1<=j)(hj:j<es.length):1<=es[j].1:=by
 obtain⟨_,ro,e3⟩:=h.at (j-1) (by omega);have e1:=(h.at j hj).1;rw[show j-1+1=j by omega]at e3;rw[e1,<- e3];unfold cJ;rcases ro with⟨_,_,z⟩ | ⟨z,_,_⟩<;>omega
theorem gk.row{a b:Rat}{xs ys:List Rat}{d:Rat}(M:gk a b xs ys d){es:List (Nat × Nat × Nat)}{n:Nat}{w:String}(h:cT a b xs 0 es n)(n1:1<=n){j:Nat}(j1:1<=j)(hj:j<es.length+1):∃i ds,1<=i/\i<=n/\1<=ds.length/\ds.length<=3/\(cj a b xs es n w)[j]? = some (.tuple (N (aG a b xs i)::ds))/\(cj a b ys es n w)[j]? = some (.tuple (N (aG a b xs i+d)::ds)):=by
 rcases wD j es.length with z | z
 ·have g:=Uk h j1 z
  refine⟨es[j].1,[TN (ai a b xs es[j].1),.int (es[j].2.1:Int),.int (es[j].2.2:Int)],g,?_,by simp,by simp,by rw[oV z];rfl,?_⟩
  ·have:=(h.at j z).2.2
   have le:∀{es:List (Nat × Nat × Nat)}{i n:Nat},cT a b xs i es n->∀j (hj:j<es.length),es[j].1<=n:=by
    intro es
    induction es with
    | nil=>intro i n _ j hj;simp at hj
    | cons e es ih =>
     intro i n h j hj
     have fl:∀{es:List (Nat × Nat × Nat)}{i n:Nat},cT a b xs i es n->i<=n:=by
      intro es
      induction es with
      | nil=>intro i n h;exact xC h
      | cons e es ih=>intro i n h;have:=ih h.2.2;unfold cJ at this;omega
     cases j with
     | zero=>show e.1<=n;rw[h.1];exact fl h
     | succ j=>exact ih h.2.2 j (by simpa using hj)
   exact le h j z
  ·rw[oV z,kH,M.ph _ g,M.hr _ g]
   rfl
 ·have:j=es.length:=by omega
  subst this;refine⟨n,[TN (ai a b xs n),.str (wV w)],n1,wo _,by simp,by simp,?_,?_⟩
  ·unfold cj
   rw[vg (by simp)];simp
   rfl
  ·unfold cj nk
   rw[vg (by simp),M.ph n n1,M.hr n n1];simp
def Oh(K:wa):Sp:=λvs H Q _=>∃x0 x1 x2,vs=[x0,x1,x2] /\ ∃(a b d:Rat)(xs ys:List Rat)(es:List (Nat × Nat × Nat))(n:Nat)(w:String),Is K H x0 (.list (cj a b xs es n w))/\Is K H x1 (TN ys)/\Is K H x2 (N d)/\gk a b xs ys d/\cT a b xs 0 es n/\1<=n/\1<=es.length/\es.length<=9/\ag 3500 d/\(∀i,i<=n->ag 3500 (aG a b xs i)) /\ ∀l H',ah H H'->Is K H' (.ref l) (.list (cj a b ys es n w))->Q (.ref l) H'
theorem Mg{K:wa}{H:Hp}{Q:VK}{E:XK}{a b d:Rat}{xs ys:List Rat}{es:List (Nat × Nat × Nat)}{n:Nat}{w:String}{v u t:V}(h0:Is K H v (.list (cj a b xs es n w)))(h1:Is K H u (TN ys))(h2:Is K H t (N d))(M:gk a b xs ys d)(wk:cT a b xs 0 es n)(n1:1<=n)(e1:1<=es.length)(e9:es.length<=9)(bd:ag 3500 d)(bh:∀i,i<=n->ag 3500 (aG a b xs i))(q:∀l H',ah H H'->Is K H' (.ref l) (.list (cj a b ys es n w))->Q (.ref l) H'):Oh K [v,u,t] H Q E:=⟨_,_,_,rfl,a,b,d,xs,ys,es,n,w,h0,h1,h2,M,wk,n1,e1,e9,bd,bh,q⟩
theorem OY(T:Txt K mg a):aH P w K mg base aQ 3 a.IT a.Hu uR (Oh K):=by
 refine T.Ah.F.ok R3 ?_ ?_;wtm_at "b3"
 refine⟨_,(ar (bD (PW.pt (d_ (bW jF (bP (show aP _ (.builtin "len") (cR K)from dS) rfl T.z_len dW (ae (pv 0) af)) ay (aZ _)) (d_ (bW lQ (aj (aj (pv 0))) ay (aZ _)) (fT (bW jF (aj (aj (pv 0))) ay (aZ _)))))) (av (aB fh)) bA)
     (ar (az 3 R3.nd (br (by exact(@ae _ _ _ _ _ (aj (aj (pv 0))) (@ae _ _ _ _ _ (pv 1) (@ae _ _ _ _ _ (aj (aj (pv 0))) (@ae _ _ _ _ _ (aj (aj (pv 0))) af fk) fk) fE) fk))))
     (av (aB (aD cA (eH (ae (pv 3) af)) (dU rfl (cC.by (N':=["_law_row","_law_more"]) (src:=[none,some 2]) rfl (show cS _ (aC t_).names Es ["_law_row","_law_more"] [none,some 2]=true from by decide +kernel)) (gr (jQ jD (pv 0) (jL ay) jW)) (λ_ _ _ _ _=>(bR (i:=0) (show(["_law_row","_law_more"]:List Str).Nodup from by decide) rfl (Or.inl rfl))) (λ_ _ _ _ _=>du) (λ_ _ _ _ _=>by exact(aD (show aK _ (Wn .Add) (pb K)from D_) (show PE _ _ (zg K _)from br (ae (ao (oj (K:=K) (mg:=mg) (a:=a) T) hr T.l8 (ae (ou (K:=K) dg (pv 0)) (ae (pv 1) af))) af)) (jQ (show jY _ (pE K)from jD) (pv 0) (jL ay) jW))))))))),?_⟩
 wtm_at "cl";rw[show start Es [x0,x1,x2]=[some x0,some x1,some x2,none]from rfl];obtain⟨ra,rb,d,xs,ys,es,n,wd,hp,hy,hd,M,wk,n1,e1,e9,bd,bh,q⟩:=h;obtain⟨lp,us,rfl,hsp,tp⟩:=cE.mp hp;have hul:=tp.length;rw[tF]at hul
 have e0:(cj ra rb xs es n wd)[0]? = some (.tuple [N 0,TN xs,.int 0,.int 1])/\(cj ra rb ys es n wd)[0]? = some (.tuple [N 0,TN ys,.int 0,.int 1]):=by
   obtain⟨f1,ro,_⟩:=wk.at 0 (by omega);rw[oV (by omega),oV (by omega)];rw[wk.first]at f1;unfold kH;rw[f1]at ro ⊢;rcases ro with⟨_,z,y⟩ | ⟨z,_⟩
   . rw[z,y];exact⟨rfl,rfl⟩
   . omega
 have r0:∀{H':Hp}{Q':VK},ah H H'->(∀v,Is K H' v (.tuple [N 0,TN xs,.int 0,.int 1])->Q' v H')->c_ K (.ref lp) (.int 0) H' Q':=λS q'=>AE (j:=0) (hp.by S) e0.1 q'
 o_head iN hsp ?_;rw[hul];k_few
 . rename_i z;exact absurd z (by omega)
 refine r0 (ah.refl H) (λv1 i1=>?_);o_head aA (j:=2) i1 rfl (λv2 i2=>?_);rw[b_.mp i2];k_few
 . rename_i z;exact absurd z (by decide)
 refine r0 (ah.refl H) (λv3 i3=>?_);o_head aA (j:=3) i3 rfl (λv4 i4=>?_);rw[b_.mp i4];k_few
 . rename_i z;exact absurd z (by decide)
 refine r0 (ah.refl H) (λv5 i5=>?_);o_head aA (j:=0) i5 rfl (λv6 i6=>?_);o_head r0 (ah.refl H) (λv7 i7=>?_);o_head aA (j:=2) i7 rfl (λv8 i8=>?_);o_head r0 (ah.refl H) (λv9 i9=>?_);o_head aA (j:=3) i9 rfl (λv10 i10=>?_);o_head cF (ds:=[N 0,TN ys,.int 0,.int 1]) (by simp) (.cons i6 (.cons hy (.cons i8 (.cons i10 .nil)))) (λv11 H11 S11 i11=>?_);o_head eX (by simp) (λl12 H12 n12 S12 e12=>?_);have T12:=S11.trans S12;o_head k8 (hp.by T12) (λl13 H13 us13 n13 S13 e13 t13=>?_);rw[uE]at t13;have hul13:=t13.length;rw[VA,tF]at hul13;have T13:=T12.trans S13;have hd13:=hd.by T13;o_head jI (.of e13) (o0:=none) (tl:=[some x2]) rfl (λj y H'=>Is K H' y ((cj ra rb ys es n wd).getD (j+1) .none)) ?_ ?_
 . intro D j x ys' o H14 hx inv
   obtain⟨hj,ix⟩:=jZ t13 hx;rw[VA,tF]at hj;obtain⟨i,ds,i1',hi,d1,d3,f1,f2⟩:=M.row (w:=wd) wk n1 (j:=j+1) (by omega) (by omega);rw[wb,xO,f1]at ix;have S14:=inv.same;have ix14:Is K H14 x (.tuple (N (aG ra rb xs i)::ds)):=ix.by S14;have hd14:=hd13.by S14;have bi:=bh i hi;o_head aA (j:=0) ix14 rfl (λv15 i15=>?_);k_few;rename_i v16 H16 S16 i16;refine cF (ds:=[N (aG ra rb xs i+d)]) (by simp) (.cons i16 .nil) (λv17 H17 S17 i17=>?_);o_head NS (ix14.by (S16.trans S17)) (by simp[HT.aX]) (λv18 H18 S18 i18=>?_);rw[uE]at i18;refine DT (i17.by S18) i18 (by simp;omega) (λv19 H19 S19 i19=>?_);refine dZ inv (by omega) (λ_ _ _ _ k h=>h.kJ k (zAG ..)) ⟨_,rfl⟩ (S16.trans (S17.trans (S18.trans S19))) ?_;rw[wb,f2];exact i19
 . intro D ys' H14 n14 S14 e14 l14 r14
   o_head lM (S14 _ _ (S13 _ _ e12)) e14 (by rw[sizeLine_eq,l14];simp;omega) (λl15 H15 n15 S15 e15=>?_);refine q l15 H15 (T13.trans (S14.trans S15)) (cE.mpr ⟨l15,_,rfl,.of e15,Pu (by rw[tF];simp;omega) λi x hx=>?_⟩);rw[wb];cases i with
   | zero =>
     have hx:v11=x:=by simpa using hx
     rw[<- hx,e0.2];exact i11.by (S12.trans (S13.trans (S14.trans S15)))
   | succ i =>
     have hx:ys'[i]? = some x:=by simpa using hx
     have:=(r14 i x hx).by S15;rw[wb]at this;exact this
def O9(K:wa):Sp:=λvs H Q _=>∃x0 x1,vs=[x0,x1] /\ ∃(x y:Rat)(m n:Nat),Is K H x0 (N x)/\Is K H x1 (N y)/\ag m x/\ag n y/\m+n<=8998/\y≠0 /\ ∀v H',ah H H'->Is K H' v (N (x / y))->Q v H'
theorem zrj{K:wa}{H:Hp}{Q:VK}{E:XK}{x y:Rat}{m n:Nat}{v w:V}(h1:Is K H v (N x))(h2:Is K H w (N y))(b1:ag m x)(b2:ag n y)(hmn:m+n<=8998)(hy:y≠0)(q:∀v H',ah H H'->Is K H' v (N (x / y))->Q v H'):O9 K [v,w] H Q E:=⟨_,_,rfl,x,y,m,n,h1,h2,b1,b2,hmn,hy,q⟩
theorem zr6{p q:Int}(h:q≠0):wu (0-p) (0-q)=wu p q:=by
 refine f_ (by omega) ?_;have k:=cH p h;have e1:((0-p:Int):Rat) = -(p:Rat):=by rw[Qz];push_cast;rfl
 have e2:((0-q:Int):Rat) = -(q:Rat):=by rw[Qz];push_cast;rfl
 rw[e1,e2,<- k]
 grind
theorem Zg(T:Txt K mg a):aH P w K mg base aQ 2 a.IH a.GK sJ (O9 K):=by
 refine T.G8.F.ok zsv ?_ ?_;wtm_at "b2"
 refine⟨_,(ar (bD (bW jF (aj (pv 1)) ay (aZ _)) (av (aB (ao (fS T) hr T.fu (ae (aD h_ ay (aD cv (aj (pv 0)) (aj (pv 1)))) (ae (aD h_ ay (aD cv (aj (pv 0)) (aj (pv 1)))) af))))) bA)
     (av (aB (ao (fS T) hr T.fu (ae (aD cv (aj (pv 0)) (aj (pv 1))) (ae (aD cv (aj (pv 0)) (aj (pv 1))) af)))))),?_⟩
 wtm_at "cl";rw[show start Ec [x0,x1]=[some x0,some x1]from rfl];obtain⟨x,y,m,n,hx,hy,bx,by',hmn,h0,q⟩:=h;have cx:=bx.mono (show m<=8999 by omega);have cy:=by'.mono (show n<=8999 by omega);have hn:=sX h0;have bb:=bx.b.mul by'.t;have hd:=den_pos x;have bo:Bd 8999 (0-(x.den:Int)*y.num):=by rw[Qz];exact bb.neg.mono (by omega)
 k_few
 . rename_i z
   have hp:0<0-(x.den:Int)*y.num:=by
     have:=Int.mul_neg_of_pos_of_neg hd z;omega
   refine kT hp bo (λv H' s hv=>?_);rw[zr6 (by omega),NZ]at hv;exact q v H' s hv
 . rename_i z
   refine kT (vI hd (by omega)) (bb.mono (by omega)) (λv H' s hv=>?_);rw[NZ]at hv;exact q v H' s hv
def J0(K:wa):Sp:=λvs H Q _=>∃x0 x1,vs=[x0,x1] /\ ∃(a b:Rat)(n:Int),x1=.int n/\Is K H x0 (R a b)/\ag 10 a/\ag 10 b/\0<=n/\n<=64 /\ ∀v H',ah H H'->Is K H' v (R (a^n.toNat) (aE a b n.toNat))->Q v H'
theorem zov{K:wa}{H:Hp}{Q:VK}{E:XK}{a b:Rat}{n:Int}{v:V}(h1:Is K H v (R a b))(b1:ag 10 a)(b2:ag 10 b)(h0:0<=n)(h64:n<=64)(q:∀v H',ah H H'->Is K H' v (R (a^n.toNat) (aE a b n.toNat))->Q v H'):J0 K [v,.int n] H Q E:=⟨_,_,rfl,a,b,n,rfl,h1,b1,b2,h0,h64,q⟩
theorem zos(T:Txt K mg a):aH P w K mg base aQ 3 a.HC a.FR yg (J0 K):=by
 refine T.Gr.F.ok sN ?_ ?_;wtm_at "b2"
 refine⟨_,(ar (az 2 sN.nd (br (ae (br (ae ay (ae ay af))) (ae (br (ae ay (ae ay af))) af))))
     (ar (gz vE rfl (j5 rfl T.z_range (ae (pv 1) af)) (bR (i:=3) sN.nd rfl (Or.inl rfl)) (av (az 2 sN.nd (br (ae (ao (zf T) hr T.nM (ae (aj (pv 0)) (ae (aj (pv 2)) af))) (ae (ao (oj T) hr T.l8 (ae (ao (zf T) hr T.nM (ae (aj (pv 0)) (ae (aj (pv 2)) af))) (ae (aj (pv 0)) af))) af))))))
     (av (aB (pv 2))))),?_⟩
 wtm_at "cl";rw[show start PL [x0,x1]=[some x0,some x1,none,none]from rfl];obtain⟨r,s',n,rfl,hr',ba,bb,h0,h64,q⟩:=h;o_head eY (r:=1) rfl rfl (λv1 H1 S1 i1=>?_);o_head eY (r:=0) rfl rfl (λv2 H2 S2 i2=>?_);o_head BB (i1.by S2) i2 (λv3 H3 S3 i3=>?_);o_head lU (n:=n) (by omega) (by omega) (λi σ H'=>∃(f:V)(o:Option V),σ = [some x0,some (.int n),some f,o]/\ah H H'/\Is K H' f (R (r^i) (aE r s' i))) ⟨_,_,rfl,S1.trans (S2.trans S3),by rw[VX];exact i3⟩ ?_ ?_
 . rintro i σ H' hi ⟨f,o,rfl,S,hf⟩
   have hr1:=hr'.by S;have bf:ag 650 (r^i):=(ba.pow i).mono (by omega);have bg:ag 1400 (aE r s' i):=(ba.aE bb i).mono (by omega);o_head BB (a:=r*r^i) (b:=r*aE r s' i+s') (by wtm_at "is") (by wtm_at "is") (λv4 H4 S4 i4=>?_);o_head ⟨_,_,rfl,ah.back S4 (by wtm_at "same"),?_⟩;rw[WA,qr];exact i4
 . rintro σ H' ⟨f,o,rfl,S,hf⟩
   k_few;exact q _ _ S hf
def gF(a b:Rat)(ns:List Int)(xs:List Rat):Nat->Rat
 | 0=>0
 | k+1=>gF a b ns xs k+(1-(aO a b ns (xs++[0]) k).getD k 0)
def jf(a b:Rat)(ns:List Int)(xs:List Rat)(k:Nat):List Rat:=(wq k).map λj=>(aO a b ns (xs++[0]) (j+1)).getD ((j+1) % ns.length) 0
theorem zv8(a b:Rat)(ns:List Int)(xs:List Rat)(k:Nat):jf a b ns xs (k+1)=jf a b ns xs k++[(aO a b ns (xs++[0]) (k+1)).getD ((k+1) % ns.length) 0]:=by
 unfold jf;rw[qM,vD];rfl
theorem C0{K:wa}{H:Hp}{us:List V}{u:V}{xs:List Rat}{x:Rat}(h:au K H us (xs.map N))(k:Is K H u (N x)):au K H (us++[u]) ((xs++[x]).map N):=by
 rw[vD];exact h.append (.cons k .nil)
theorem zAx{K:wa}{H:Hp}{Q:VK}{p:we}{ns:List Int}{m:Int}(h:aR K H p (ns.map V.int))(h0:0<=m)(h1:m<ns.length)(q:Q (.int (ns.getD m.toNat 0)) H):c_ K (.ref p) (.int m) H Q:=by
 obtain⟨n,rfl⟩:∃n:Nat,m=(n:Int):=⟨m.toNat,by omega⟩;refine iH h (kx (j:=n) (v:=.int (ns.getD n 0)) ?_) q;rw[wt,wb,wc (by omega)]
 rfl
def CN(K:wa):Sp:=λvs H Q _=>∃x0 x1 x2,vs=[x0,x1,x2] /\ ∃(a b:Rat)(ns:List Int)(xs:List Rat)(p1:we),x1=.ref p1/\Is K H x0 (R a b)/\aR K H p1 (ns.map V.int)/\(Is K H x2 (LN xs)\/Is K H x2 (TN xs))/\cO a b ns xs/\(∀k,k<=ns.length->Cm 3500 (aO a b ns (xs++[0]) k))/\(∀k,k<ns.length->ag 4300 (gF a b ns xs k)) /\ ∀t lb vt lh us hs H',ah H H'->H' t=some (.tup [.ref lb,vt,.ref lh])->H' lb=some (.lst us)->au K H' us ((c6 a b ns xs).map N)->Is K H' vt (N (gF a b ns xs ns.length))->H lh=none->H' lh=some (.lst hs)->au K H' hs ((jf a b ns xs ns.length).map N)->Q (.ref t) H'
theorem zoK{K:wa}{H:Hp}{Q:VK}{E:XK}{a b:Rat}{ns:List Int}{xs:List Rat}{v u:V}{p1:we}(h1:Is K H v (R a b))(h2:aR K H p1 (ns.map V.int))(h3:Is K H u (LN xs)\/Is K H u (TN xs))(ok:cO a b ns xs)(hrow:∀k,k<=ns.length->Cm 3500 (aO a b ns (xs++[0]) k))(htm:∀k,k<ns.length->ag 4300 (gF a b ns xs k))(q:∀t lb vt lh us hs H',ah H H'->H' t=some (.tup [.ref lb,vt,.ref lh])->H' lb=some (.lst us)->au K H' us ((c6 a b ns xs).map N)->Is K H' vt (N (gF a b ns xs ns.length))->H lh=none->H' lh=some (.lst hs)->au K H' hs ((jf a b ns xs ns.length).map N)->Q (.ref t) H'):CN K [v,.ref p1,u] H Q E:=⟨_,_,_,rfl,a,b,ns,xs,p1,rfl,h1,h2,h3,ok,hrow,htm,q⟩
theorem X_{K:wa}{H:Hp}{Q:VK}{E:XK}{a b:Rat}{ns:List Int}{xs:List Rat}{v u:V}{p1:we}(h1:Is K H v (R a b))(h2:aR K H p1 (ns.map V.int))(h3:Is K H u (LN xs)\/Is K H u (TN xs))(ok:cO a b ns xs)(hrow:∀k,k<=ns.length->Cm 3500 (aO a b ns (xs++[0]) k))(htm:∀k,k<ns.length->ag 4300 (gF a b ns xs k))(q:∀v H',ah H H'->Is K H' v (.tuple [LN (c6 a b ns xs),N (gF a b ns xs ns.length),LN (jf a b ns xs ns.length)])->Q v H'):CN K [v,.ref p1,u] H Q E :=
 zoK h1 h2 h3 ok hrow htm (λt lb vt lh us hs H' S et eb tb it _ eh th=>q (.ref t) H' S (bX.mpr ⟨t,_,rfl,.of et,.cons (dm eb tb) (.cons it (.cons (dm eh th) .nil))⟩))
theorem Z_{m:Nat}{row:List Rat}(c:Cm m row){j k:Nat}(hj:j<row.length)(hk:k<row.length):ag (m+2) (row.getD j 0+(1-row.getD k 0)):=by
 have c0:Cm m (0::row):=c.j7 λy hy=>by rcases wG.mp hy with rfl | hy;(exact .inr rfl);exact .inl hy
 exact(c0.rise (GM.getD_mem hk)).dH (wB _ (wS.mpr ⟨_,GM.getD_mem hj,rfl⟩))
theorem zqU(T:Txt K mg a):aH P w K mg base aQ 4 a.HH a.Gi uU (CN K):=by
 refine T.Gw.F.ok iZ ?_ ?_;wtm_at "b3"
 refine⟨_,(ar (az 3 iZ.nd (aD cA (dY (show aP _ (.type "list") (jN K)from oE) rfl T.z_list kh (ae (pv 2) af)) (eH (ae (br (ae ay (ae ay af))) af))))
     (ar (az 4 iZ.nd (br (ae ay (ae ay af))))
     (ar (az 5 iZ.nd (eH af))
     (ar (gz vE rfl (j5 rfl T.z_range (ae (bP (show aP _ (.builtin "len") (cR K)from dS) rfl T.z_len dW (ae (pv 1) af)) af)) (bR (i:=6) iZ.nd rfl (Or.inl rfl)) (ar (az 7 iZ.nd (ao (Dj T) hr T.q_ (ae (br (ae ay (ae ay af))) (ae (dC dg (pv 3) (pv 6) (λ_ _=>rfl)) af))))
     (ar (az 4 iZ.nd (ao (oj T) hr T.l8 (ae (pv 4) (ae (pv 7) af))))
     (ar (az 8 iZ.nd (ao (zos T) hr T.Gr (ae (pv 0) (ae (dC dg (pv 1) (pv 6) (λ_ _=>rfl)) af))))
     (ar (nB (i:=9) iZ.nd rfl (Or.inl rfl) rfl (cC.by (N':=["_law_phase","_law_wait"]) (src:=[none,some 7]) rfl (show cS _ (aC pj).names sS ["_law_phase","_law_wait"] [none,some 7]=true from by decide +kernel)) (gr (pv 3)) (λ_ _ _ _ _=>(bR (i:=0) (show(["_law_phase","_law_wait"]:List Str).Nodup from by decide) rfl (Or.inl rfl))) (λ_ _ _ _ _=>du) (λ_ _ _ _ _=>(ao (oj (K:=K) (mg:=mg) (a:=a) T) hr T.l8 (ae (pv 0) (ae (pv 1) af)))))
     (ar (nB (i:=3) iZ.nd rfl (Or.inl rfl) rfl (cC.by (N':=["_law_phase","_law_often"]) (src:=[none,some 8]) rfl (show cS _ (aC pj).names sS ["_law_phase","_law_often"] [none,some 8]=true from by decide +kernel)) (gr (pv 9)) (λ_ _ _ _ _=>(bR (i:=0) (show(["_law_phase","_law_often"]:List Str).Nodup from by decide) rfl (Or.inl rfl))) (λ_ _ _ _ _=>du) (λ_ _ _ _ _=>(ao (oj (K:=K) (mg:=mg) (a:=a) T) hr T.l8 (ae (ao (zf (K:=K) (mg:=mg) (a:=a) T) hr T.nM (ae (ou (K:=K) dg (pv 1)) (ae (pv 0) af))) (ae (ou (K:=K) dg (pv 1)) af)))))
     (ar (pX (br (ae ay (ae ay af))) (pT (pv 3) (pv 6) oz))
     (av (mB (mV Wy Ww Wx kY (pv 5) (ae (dC dg (pv 3) (aD gB (aD cA (pv 6) ay) (bP (show aP _ (.builtin "len") (cR K)from dS) rfl T.z_len dW (ae (pv 1) af))) (λ_ _=>rfl)) af)))))))))))
     (av (aB (br (ae (jQ jD (pv 3) jW (jL (gA gg ay))) (ae (pv 4) (ae (pv 5) af)))))))))),?_⟩
 wtm_at "cl";rw[show start sS [x0,x1,x2]=[some x0,some x1,some x2,none,none,none,none,none,none,none]from rfl];obtain⟨ra,rb,ns,xs,p1,rfl,hr',hn',hp',ok,hrow,htm,q⟩:=h;have hlen:=ok.len;have hfew:=ok.bN;o_head zwE hp' (λl1 H1 us hl1 S1 e1 t1=>?_);have hul:=t1.length;rw[wm]at hul;o_head eY (r:=0) rfl rfl (λv2 H2 S2 i2=>?_);o_head eX (by simp) (λl3 H3 hl3 S3 e3=>?_);refine lM (S3 _ _ (S2 _ _ e1)) e3 (WQ (iT (by simp;omega))) (λlp H4 hl4 S4 e4=>?_);o_head eY (r:=0) rfl rfl (λv5 H5 S5 i5=>?_);o_head eX (by simp) (λlh H6 hlh S6 e6=>?_);have T4:ah H H4:=S1.trans (S2.trans (S3.trans S4));have T6:ah H H6:=T4.trans (S5.trans S6);have t6:au K H6 (us++[v2]) ((xs++[0]).map N):=C0 (au.same (S2.trans (S3.trans (S4.trans (S5.trans S6)))) _ _ t1) (i2.by (S3.trans (S4.trans (S5.trans S6))));have e46:=S6 _ _ (S5 _ _ e4);have hD:=jm (T4.trans S5) hlh;have neph:lp≠lh:=λz=>by subst z;rw[S5 _ _ e4]at hlh;cases hlh
 have i56:=i5.by S6;clear S1 S2 S3 S4 S5 S6 e1 e3 e4 t1 i2 i5 hl1 hl3 hl4 hlh T4;o_head iN (T6.seq hn') ?_;rw[wm];refine lU (n:=(ns.length:Int)) (by omega) (by omega) (λk σ H'=>∃lp vt o6 o7 o8 o9 us hs,σ = [some x0,some (.ref p1),some x2,some (.ref lp),some vt,some (.ref lh),o6,o7,o8,o9]/\ah H H'/\lp≠lh/\H' lp=some (.lst us)/\au K H' us ((aO ra rb ns (xs++[0]) k).map N)/\Is K H' vt (N (gF ra rb ns xs k))/\H' lh=some (.lst hs)/\au K H' hs ((jf ra rb ns xs k).map N)) ⟨lp,v5,_,_,_,_,_,[],rfl,T6,neph,e46,t6,i56,e6,.nil⟩ ?_ ?_
 . rintro k σ H7 hk ⟨lp,vt,o6,o7,o8,o9,us,hs,rfl,S7,neph,e7,t7,it7,h7,th7⟩
   have hk':k<ns.length:=by simpa using hk
   have b1:=htm k hk';have hmk:=hrow k (by omega);have hrl:(aO ra rb ns (xs++[0]) k).length=ns.length:=by rw[di,wR];simp;omega
   have e8:aO ra rb ns (xs++[0]) (k+1)=dw ra rb (ns.getD k 0).toNat (aO ra rb ns (xs++[0]) k) k:=rfl;have et:gF ra rb ns xs (k+1)=gF ra rb ns xs k+(1-(aO ra rb ns (xs++[0]) k).getD k 0):=rfl;have eh:=zv8 ra rb ns xs k;have bb:∀j,ag 3500 ((aO ra rb ns (xs++[0]) k).getD j 0):=λj=>hmk.get j
   have hnk:=ok.n0 (ns.getD k 0) (by rw[wb,wc hk'];exact vO _);generalize aO ra rb ns (xs++[0]) k=row at *;have bw:ag 3502 (1-row.getD k 0):=(ag.one.sub (bb k)).mono (by decide);have bk:=bb k;o_head eY (r:=1) rfl rfl (λv8 H8 S8 i8=>?_);o_head jJ (dm (S8 _ _ e7) (au.same S8 _ _ t7)) (by omega) (by omega) (λv9 i9=>?_);rw[wP]at i9;have it8:=it7.by S8;o_head Ba i8 i9 ag.one bk (by decide) (λv10 H10 S10 i10=>?_);have it10:=it8.by S10;k_few;rename_i v11 H11 S11 i11;have T11:=S8.trans (S10.trans S11);refine zAx (T11.seq (S7.seq hn')) (by omega) (by omega) ?_;rw[wP];o_head zov ((hr'.by S7).by T11) ok.ba ok.bb hnk.1 hnk.2 (λv12 H12 S12 i12=>?_);have T12:=T11.trans S12;have bf:ag 700 (ra^(ns.getD k 0).toNat):=(ok.ba.pow _).mono (by omega);have bg:ag 1500 (aE ra rb (ns.getD k 0).toNat):=(ok.ba.aE ok.bb _).mono (by omega);have i1012:=i10.by (S11.trans S12);have i1112:=i11.by S12;have e12:=T12 _ _ e7;have t12:au K H12 us (row.map N):=au.same T12 _ _ t7;have h12:=T12 _ _ h7;have th12:au K H12 hs ((jf ra rb ns xs k).map N):=au.same T12 _ _ th7;have X12:=S7.trans T12;have hul:us.length=row.length:=by rw[t12.length,wm]
   rw[<- et]at i1112;clear S8 S10 S11 S12 T11 T12 i8 i9 i10 i11 e7 t7 h7 th7 it7 it8;o_head jI (.of e12) (o0:=none) (tl:=[some v10]) rfl (λj v H=>Is K H v (N ((row.map λx=>x+(1-row.getD k 0)).getD j 0))) ?_ ?_
   . rintro D j x ys o H1 hx' inv
     obtain⟨hj,ix⟩:=dk t12 hx';have ix1:=ix.by inv.same;have jv:=i1012.by inv.same;have bx:=bb j;k_few;rename_i v4 H4 S4 iv4;exact dZ inv (by omega) fJ ⟨_,rfl⟩ S4 (by rw[m4 hj];exact iv4)
   . rintro D ys H13 hn13 S13 e13 hl13 hr13
     have hyl:ys.length=row.length:=by omega
     have t13:au K H13 ys ((row.map λx=>x+(1-row.getD k 0)).map N):=fL (by rw[wm];exact hyl) hr13;have hn0:H12 D=none:=hn13;o_head jI (.of e13) (o0:=none) (tl:=[some v12]) rfl (λj v H=>Is K H v (N ((row.map λx=>push ra rb (ns.getD k 0).toNat (x+(1-row.getD k 0))).getD j 0))) ?_ ?_
     . rintro D2 j x zs o H1 hx' inv
       obtain⟨hj,ix⟩:=dk t13 hx';rw[wm]at hj;rw[m4 hj]at ix;have ix1:=ix.by inv.same;have jv:=(i12.by S13).by inv.same;have bx:ag 3502 (row.getD j 0+(1-row.getD k 0)):=Z_ hmk hj (by omega);k_few;rename_i v4 H4 S4 iv4 v5 iv5 v6 H6 S6 iv6;exact dZ inv (by omega) fJ ⟨_,rfl⟩ (S4.trans S6) (by rw[m4 hj,hJ];exact iv6)
     . rintro D2 zs H14 hn14 S14 e14 hl14 hr14
       have hzl:zs.length=row.length:=by omega
       have T14:=S13.trans S14;o_head eY (r:=0) rfl rfl (λv15 H15 S15 i15=>?_);o_head sk (j:=k) (S15 _ _ e14) (by unfold gM;rw[if_pos (by omega),if_pos (by omega)];simp) (λH16 E16 e16=>?_);have hD2:H12 D2=none:=jm S13 hn14;have ne2:lh≠D2:=λz=>by subst z;rw[h12]at hD2;cases hD2
       have hDH:=jm X12 hD2;have T15:=T14.trans S15;have h16:=E16 lh _ ne2 (T15 _ _ h12);have K16:bK H15 H16:=E16.keep (S15 _ _ e14)
       have t16:au K H16 (zs.set k v15) ((dw ra rb (ns.getD k 0).toNat row k).map N):=by
         refine fL (by rw[Vb,gT];exact hzl) λj v hv=>?_
         rw[Vl]at hv
         by_cases hij:k=j
         . subst hij
           rw[if_pos rfl,if_pos (by omega)]at hv;cases hv;rw[gh _ _ _ _ _ _ (by omega),if_pos rfl];exact i15.fI K16
         . rw[if_neg hij]at hv
           have hj:j<row.length:=by
             rcases wD j zs.length with z | z
             . omega
             . rw[wE z]at hv;cases hv
           have hz:=hr14 j v hv;rw[m4 hj]at hz;rw[gh _ _ _ _ _ _ hj,if_neg (Wo hij)];exact(hz.by S15).fI K16
       rw[<- e8]at t16;have th16:au K H16 hs ((jf ra rb ns xs k).map N):=au.keep (T15.keep.trans K16) _ _ (fU _) th12;have i1116:=(i1112.by T15).fI K16;have X16:ah H H16:=(X12.trans T15).grow hDH E16;have hrl2:(aO ra rb ns (xs++[0]) (k+1)).length=ns.length:=by rw[di,wR];simp;omega
       have hhl:hs.length=k:=by
         have:=th16.length;rw[wm]at this;unfold jf at this
         simpa using this
       clear hr14 e14 hn14 S14 S15 T14 T15 S13 e13 t13 hr13 hn13 i12 i1012 i1112 e12 t12 h12 th12 i15;o_head lO (aR.of h16) ?_;o_head iN (X16.seq hn') ?_;rw[wm];have hn0':(0:Int)<(ns.length:Int):=by omega
       k_few;have em:((k:Int)+1) % (ns.length:Int)=(((k+1) % ns.length:Nat):Int):=by push_cast;rfl
       have hmd:(k+1) % ns.length<ns.length:=XF _ (by omega);rw[em];refine jJ (dm e16 t16) (by omega) (by omega) (λv17 i17=>?_);rw[wP]at i17;o_head lB h16 (by omega) (λH18 E18 e18=>?_);have K18:=E18.keep h16;o_head ⟨D2,_,_,_,_,_,_,hs++[v17],rfl,X16.grow hD E18,Wo ne2,E18 D2 _ (Wo ne2) e16,au.keep K18 _ _ (fU _) t16,i1116.fI K18,e18,?_⟩;rw[eh];exact C0 (au.keep K18 _ _ (fU _) th16) (i17.fI K18)
 . rintro σ H7 ⟨lp,vt,o6,o7,o8,o9,us,hs,rfl,S7,neph,e7,t7,it7,h7,th7⟩
   o_head k8 (dm e7 t7) (λl20 H20 ys20 n20 S20 e20 t20=>?_);rw[BM,<- Qp]at t20;o_head mG (by simp) (λt21 H21 n21 S21 e21=>?_);exact q t21 l20 vt lh ys20 hs H21 (S7.trans (S20.trans S21)) e21 (S21 _ _ e20) (au.same S21 _ _ t20) (it7.by (S20.trans S21)) hD ((S20.trans S21) _ _ h7) (au.same (S20.trans S21) _ _ th7)
def LK(K:wa):Sp:=λvs H Q _=>∃x0 x1,vs=[x0,x1] /\ ∃(a:Rat)(n:Int)(k:Nat),x1=.int n/\Is K H x0 (N a)/\ag k a/\k<=4000/\0<=n/\n<=100/\k*n.toNat<=4000 /\ ∀v H',ah H H'->Is K H' v (N (a^n.toNat))->Q v H'
theorem zqc{K:wa}{H:Hp}{Q:VK}{E:XK}{a:Rat}{n:Int}{k:Nat}{v:V}(h:Is K H v (N a))(b:ag k a)(hk:k<=4000)(n0:0<=n)(n1:n<=100)(hkn:k*n.toNat<=4000)(q:∀v H',ah H H'->Is K H' v (N (a^n.toNat))->Q v H'):LK K [v,.int n] H Q E:=⟨_,_,rfl,a,n,k,rfl,h,b,hk,n0,n1,hkn,q⟩
theorem Dq{k:Nat}{x:Int}(h:Bd k x):∀n:Nat,Bd (k*n+1) (x^n)
 | 0=>⟨by simp⟩
 | n+1=>by
  rw[Vy];exact((Dq h n).mul h).mono (by rw[Nat.mul_add];omega)
theorem U_(T:Txt K mg a):aH P w K mg base aQ 1 a.HU a.Ge yR (LK K):=by
 refine T.GY.F.ok mw ?_ ?_;wtm_at "b2"
 refine⟨_,(ar (az 2 mw.nd ay)
     (ar (az 3 mw.nd ay)
     (ar (gz vE rfl (j5 rfl T.z_range (ae (pv 1) af)) (bR (i:=4) mw.nd rfl (Or.inl rfl)) (ar (az 2 mw.nd (aD cv (pv 2) (aj (pv 0))))
     (av (az 3 mw.nd (aD cv (pv 3) (aj (pv 0)))))))
     (av (aB (br (ae (pv 2) (ae (pv 3) af)))))))),?_⟩
 wtm_at "cl";rw[show start J_ [x0,x1]=[some x0,some x1,none,none,none]from rfl];obtain⟨ra,n,kk,rfl,hx,ba,hk4,n0,n1,hkn,q⟩:=h;have bt:Bd 4000 ra.num:=ba.t.mono hk4;have bd:Bd 4000 (ra.den:Int):=ba.b.mono hk4;o_head lU (n:=n) (by omega) (by omega) (λi σ H'=>∃o,σ = [some x0,some (.int n),some (.int (ra.num^i)),some (.int ((ra.den:Int)^i)),o]/\H'=H) ⟨none,by rw[qO,qO],rfl⟩ ?_ ?_
 . rintro i σ H' hi ⟨o,rfl,rfl⟩
   have hki:kk*i<=kk*n.toNat:=qT _ (by omega);have b1:Bd 4001 (ra.num^i):=(Dq ba.t i).mono (by omega);have b2:Bd 4001 ((ra.den:Int)^i):=(Dq ba.b i).mono (by omega);have e1:ra.num^(i+1)=ra.num^i*ra.num:=Vy ..;have e2:(ra.den:Int)^(i+1)=(ra.den:Int)^i*(ra.den:Int):=Vy ..;generalize ra.num^i=t at *;generalize (ra.den:Int)^i=u at *;k_few;exact⟨_,by rw[e1,e2],rfl⟩
 . rintro σ H' ⟨o,rfl,rfl⟩
   k_few;exact eY (r:=ra^n.toNat) (Rat.num_pow ..).symm (by rw[Rat.den_pow];push_cast;rfl) q
def Td(K:wa):Sp:=λvs H Q _=>∃x0 x1,vs=[x0,x1] /\ ∃(a b:Rat)(ns:List Int)(p1:we),x1=.ref p1/\Is K H x0 (R a b)/\aR K H p1 (ns.map V.int)/\aU a b/\df ns/\a≠1 /\ ∀l H' us,H l=none->ah H H'->H' l=some (.lst us)->au K H' us ((cZ a b ns).map N)->Q (.ref l) H'
theorem Zi{K:wa}{H:Hp}{Q:VK}{E:XK}{a b:Rat}{ns:List Int}{v:V}{p1:we}(h1:Is K H v (R a b))(h2:aR K H p1 (ns.map V.int))(ok:aU a b)(sz:df ns)(ha:a≠1)(q:∀l H' us,H l=none->ah H H'->H' l=some (.lst us)->au K H' us ((cZ a b ns).map N)->Q (.ref l) H'):Td K [v,.ref p1] H Q E:=⟨_,_,rfl,a,b,ns,p1,rfl,h1,h2,ok,sz,ha,q⟩
theorem Yi{a b:Rat}{ns:List Int}{xs:List Rat}{m:Nat}(h:aU a b)(k:df ns)(hl:ns.length=xs.length+1)(c:Cm m xs)(hm:m<=3290):cO a b ns xs/\(∀j,j<=ns.length->Cm 3500 (aO a b ns (xs++[0]) j)) /\ ∀j,j<ns.length->ag 4300 (gF a b ns xs j):=by
 have h8:=k.bN;have hu:=k.upTo
 have ht:∀j,gF a b ns xs j=eF a b ns (xs++[0]) j:=λj=>by
  induction j with
  | zero=>rfl
  | succ j ih=>rw[gF,eF,ih]
 have hc:∀j,j<=ns.length->Cm 3500 (eF a b ns (xs++[0]) j::aO a b ns (xs++[0]) j):=λj hj=>by
  have h1:=Bb (ns:=ns) hj (wo _);exact(c.snoc.Au h.ba h.bb (ns:=ns) j hj).mono (by omega)
 refine⟨⟨h.ba,h.bb,λn hn=>by have:=k.each n hn;omega,hl,by omega,⟨m,c,by omega⟩⟩,λj hj=>kI (hc j hj) λy hy=>wB _ hy,λj hj=>?_⟩;rw[ht];exact((hc j (by omega)).dH (wC ..)).mono (by decide)
theorem Tb{H:Hp}{Q:VK}{l:we}{v:V}{k:Int}(e:H l=some (.lst [v]))(h0:0<=k)(h1:k<=1000)(q:∀p H',H p=none->ah H H'->H' p=some (.lst (w6 k.toNat v))->Q (.ref p) H'):pY (.ref l) (.int k) H Q :=
 zCl e (by omega) h1 (by rw[vS];omega) (λp H' n s e'=>q p H' n s (by rw[e',List.flatten_replicate_singleton]))
theorem zrv{K:wa}{H:Hp}{v:V}(h:Is K H v (N 0))(n:Nat):au K H (w6 n v) ((cB n).map N):=by
 unfold cB;rw[xP];exact au.JC h n
theorem zqH(T:Txt K mg a):aH P w K mg base aQ 5 a.HJ a.Gg uX (Td K):=by
 refine T.Gv.F.ok Ei ?_ ?_;wtm_at "b2"
 refine⟨_,(ar (az 2 Ei.nd (ao (U_ T) hr T.GY (ae (aj (pv 0)) (ae (bP (show aP _ (.builtin "sum") (Cw K)from ztu rfl) rfl T.z_sum J8 (ae (pv 1) af)) af))))
     (ar (az 3 Ei.nd (aj (ao (zqU T) hr T.Gw (ae (pv 0) (ae (pv 1) (ae (aD (show aK _ (Wn .Mult) pY from Rf) (eH (ae (br (ae ay (ae ay af))) af)) (aD h_ (bP (show aP _ (.builtin "len") (cR K)from dS) rfl T.z_len dW (ae (pv 1) af)) ay)) af))))))
     (av (aB (dU rfl (cC.by (N':=["_law_shift","_law_factor"]) (src:=[none,some 2]) rfl (show cS _ (aC rJ).names AB ["_law_shift","_law_factor"] [none,some 2]=true from by decide +kernel)) (gr (pv 3)) (λ_ _ _ _ _=>(bR (i:=0) (show(["_law_shift","_law_factor"]:List Str).Nodup from by decide) rfl (Or.inl rfl))) (λ_ _ _ _ _=>du) (λ_ _ _ _ _=>by exact(ao (Zg (K:=K) (mg:=mg) (a:=a) T) hr T.G8 (ae (pv 0) (ae (ao (Dj (K:=K) (mg:=mg) (a:=a) T) hr T.q_ (ae (show PE _ _ (zg K _)from br (ae ay (ae ay af))) (ae (pv 1) af))) af))))))))),?_⟩
 wtm_at "cl";rw[show start AB [x0,x1]=[some x0,some x1,none,none]from rfl];obtain⟨ra,rb,ns,p1,rfl,hr',hn',ok,sz,ha,q⟩:=h;have h8:=sz.bN;have h1:=sz.some;have hp:=sz.pos;have hF:ra^ns.sum.toNat≠1:=λe=>ha ((rH ok (by omega)).mp e)
 have bF:ag 49 (ra^ns.sum.toNat):=(iW ok _).mono (by omega);have hne:1-ra^ns.sum.toNat≠0:=λe=>hF (by grind)
 have rc:=Yi ok sz (xs:=cB (ns.length-1)) (by rw[rZ];omega) (oQ _) (by decide);k_few;rename_i va ia;refine zzN hn' ?_;o_head zqc ia (Kl ok) (by decide) (by omega) (by omega) (by omega) (λv1 H1 S1 i1=>?_);o_head eY (r:=0) rfl rfl (λv2 H2 S2 i2=>?_);o_head eX (by simp) (λl3 H3 n3 S3 e3=>?_);o_head iN ((S1.trans (S2.trans S3)).seq hn') ?_;rw[wm];o_head Tb e3 (by omega) (by omega) (λl4 H4 n4 S4 e4=>?_);have T4:=S1.trans (S2.trans (S3.trans S4));have hk:((ns.length:Int)-1).toNat=ns.length-1:=by omega
 rw[hk]at e4;have i4:Is K H4 (.ref l4) (LN (cB (ns.length-1))):=dm e4 (zrv (i2.by (S3.trans S4)) _);o_head X_ (hr'.by T4) (T4.seq hn') (.inl i4) rc.1 rc.2.1 rc.2.2 (λv5 H5 S5 i5=>?_);o_head aA (j:=0) i5 rfl (λv6 i6=>?_);have T5:=T4.trans S5;have i15:=i1.by (S2.trans (S3.trans (S4.trans S5)));obtain⟨l6,us,rfl,hs6,t6⟩:=cE.mp i6;have hul:=t6.length;rw[wm]at hul;have hsl:(dh ra rb ns).length=ns.length-1:=mC h1;have hul:us.length=ns.length-1:=by rw[hul];exact hsl
 have hstl:(cZ ra rb ns).length=ns.length-1:=zE h1;o_head jI hs6 (o0:=none) (tl:=[some v1]) rfl (λj y H'=>Is K H' y (N ((cZ ra rb ns).getD j 0))) ?_ ?_
 . intro D j x ys o H7 hx inv
   obtain⟨hj,ix⟩:=dk (xs:=dh ra rb ns) t6 hx;have S7:=inv.same;have ix7:=ix.by S7;o_head eY (r:=1) rfl rfl (λv8 H8 S8 i8=>?_);o_head Ba i8 (i15.by (S7.trans S8)) ag.one bF (by decide) (λv9 H9 S9 i9=>?_);o_head zrj (ix7.by (S8.trans S9)) i9 (yc ok sz j) (ag.one.sub bF) (by decide) hne (λv10 H10 S10 i10=>?_);have e:(cZ ra rb ns).getD j 0=(dh ra rb ns).getD j 0 / (1-ra^ns.sum.toNat):=Mr (by omega);rw[<- e]at i10;exact dZ inv (by omega) fJ ⟨_,rfl⟩ (S8.trans (S9.trans S10)) i10
 . intro D ys H7 hn S7 hD hl hr
   exact q D H7 ys (jm T5 hn) (T5.trans S7) hD (fL (by rw[hl,hul,hstl]) hr)
def KL(K:wa):Sp:=λvs H Q _=>∃x0 x1 x2,vs=[x0,x1,x2] /\ ∃(p:we)(k m:Int)(ra rb:Rat),x0=.ref p/\x2=.int m/\Is K H x1 (R ra rb)/\aU ra rb/\cw H p k/\k<=900/\3<=m/\m<=8 /\ ∀(l:we)(H':Hp)(us:List V)(xs:List Rat),H l=none->Exc p H H'->bK H H'->cw H' p (k+13)->H' l=some (.lst us)->au K H' us (xs.map N)->1<=xs.length->(xs.length:Int)<=m->(∀x∈xs,eC x)->Q (.ref l) H'
theorem zq3{K:wa}{H:Hp}{Q:VK}{E:XK}{p:we}{k m:Int}{ra rb:Rat}{v:V}(ir:Is K H v (R ra rb))(ok:aU ra rb)(h:cw H p k)(hk:k<=900)(h1:3<=m)(h8:m<=8)(q:∀(l:we)(H':Hp)(us:List V)(xs:List Rat),H l=none->Exc p H H'->bK H H'->cw H' p (k+13)->H' l=some (.lst us)->au K H' us (xs.map N)->1<=xs.length->(xs.length:Int)<=m->(∀x∈xs,eC x)->Q (.ref l) H'):KL K [.ref p,v,.int m] H Q E:=⟨_,_,_,rfl,p,k,m,ra,rb,rfl,rfl,ir,ok,h,hk,h1,h8,q⟩
theorem zzi{n:Nat}(h1:1<=n)(h3:n<=3):df (w6 n (1:Int)):=by
 have:n=1\/n=2\/n=3:=by omega
 rcases this with rfl | rfl | rfl
 ·exact⟨by decide,by decide,by decide,by decide⟩
 ·exact⟨by decide,by decide,by decide,by decide⟩
 ·exact⟨by decide,by decide,by decide,by decide⟩
theorem zyF{x:Rat}(h0:¬ x.num<0)(h1:¬ (x.den:Int)<=x.num)(h2:¬ (60:Int)<(x.den:Int)):eC x:=by
 have:=Lj (r:=x.num) (u:=(x.den:Int)) (by omega) (by omega) (by omega);rw[WK]at this;exact this
theorem zqa(T:Txt K mg a):aH P w K mg base aQ 6 a.HK a.Gq zJ (KL K):=by
 refine T.Gy.F.ok uk ?_ ?_;wtm_at "b3"
 refine⟨_,(ar (az 3 uk.nd (ao (ziU T) hr T.Fi (ae (pv 0) (ae (pv 2) af))))
     (ar (bD (PW.pt (d_ (bW lQ (ao (fi T) hr T.eS (ae (pv 0) (ae ay af))) ay (aZ _)) (fT (bW (show aK _ (wJ .Eq) (cu K)from dq hu) (aj (pv 1)) (br (ae ay (ae ay af))) (aZ _))))) (av (aB (pv 3))) bA)
     (ar (az 4 uk.nd (aD cA (ao (zqH T) hr T.Gv (ae (pv 1) (ae (aD (show aK _ (Wn .Mult) pY from Rf) (eH (ae ay af)) (aD cA ay (ao (fi T) hr T.eS (ae (pv 0) (ae ay af))))) af))) (eH (ae (br (ae ay (ae ay af))) af))))
     (ar (gz vE rfl (gr (pv 4)) (bR (i:=5) uk.nd rfl (Or.inl rfl)) (av (bD (PW.pt (d_ (bW jF (aj (pv 5)) ay (aZ _)) (d_ (bW CI (aj (pv 5)) (aj (pv 5)) (aZ _)) (fT (bW lQ (aj (pv 5)) ay (aZ _)))))) (av (aB (pv 3))) bA)))
     (av (aB (pv 4))))))),?_⟩
 wtm_at "cl";rw[show start LM [x0,x1,x2]=[some x0,some x1,some x2,none,none,none]from rfl];obtain⟨p,k,m,ra,rb,rfl,rfl,ir,ok,hp,hk,h3,h8,q⟩:=h;o_head ziX hp (by omega) (by omega) (by omega) (λl1 H1 us1 xs1 n1 E1 K1 P1 e1 t1 a1 b1 ph1=>?_);have ne1:l1≠p:=cw.ne n1 hp;k_few
 . rename_i d H2 d0 d1 E2 K2 P2 z
   exact q l1 H2 us1 xs1 n1 (E1.trans E2) (K1.trans K2) (P2.le (by omega)) (E2.at ne1 e1) (au.keep K2 _ _ (fU _) t1) a1 b1 ph1
 . rename_i d H2 d0 d1 E2 K2 P2 z va ia
   have e2:=E2.at ne1 e1;have t2:au K H2 us1 (xs1.map N):=au.keep K2 _ _ (fU _) t1;have ir2:=(ir.md K1).md K2;have EA:=E1.trans E2;have KA:=K1.trans K2;clear E1 K1 P1 e1 t1 E2 K2 ir;refine eY (r:=1) rfl rfl (λv3 H3 S3 i3=>?_);refine Se (ia.by S3) i3 ⟨_,rfl,?_⟩
   by_cases za:ra=1
   . rw[decide_eq_true za,if_pos rfl]
     k_few;exact q l1 H3 us1 xs1 n1 (EA.trans S3.exc) (KA.trans S3.keep) ((P2.same S3).le (by omega)) (S3 _ _ e2) (au.same S3 _ _ t2) a1 b1 ph1
   . rw[decide_eq_false za,if_neg (by decide)]
     o_head eX (by simp) (λl4 H4 n4 S4 e4=>?_);have P4:=(P2.same S3).same S4;k_few;rename_i r H5 r0 r1 E5 K5 P5;have ne4:l4≠p:=cw.ne n4 (P2.same S3);refine Tb (E5.at ne4 e4) (by omega) (by omega) (λl6 H6 n6 S6 e6=>?_);obtain⟨n,hn⟩:∃n:Nat,2+r=(n:Int):=⟨(2+r).toNat,by omega⟩;rw[hn,wP]at e6;have e6:H6 l6=some (.lst ((w6 n (1:Int)).map V.int)):=by rw[xP];exact e6
     have S34:=S3.trans S4;have KB:=KA.trans (S34.keep.trans (K5.trans S6.keep));have EB:=EA.trans (S34.exc.trans (E5.trans S6.exc));have P6:=P5.same S6;have eB:H6 l1=some (.lst us1):=S6 _ _ (E5.at ne1 (S34 _ _ e2));have tB:au K H6 us1 (xs1.map N):=au.keep (S34.keep.trans (K5.trans S6.keep)) _ _ (fU _) t2;have irB:=ir2.md (S34.keep.trans (K5.trans S6.keep));clear S3 S4 S34 E5 K5 S6 e2 t2 ir2 EA KA P2 P4 P5 e4 i3 ia n4 ne4 n6;o_head Zi irB (.of e6) ok (zzi (by omega) (by omega)) za (λl7 H7 us7 n7 S7 e7 t7=>?_);have hsl:(cZ ra rb (w6 n (1:Int))).length=n-1:=by rw[zE (by rw[Wi];omega),Wi]
     have hul:=t7.length;rw[wm,hsl]at hul;generalize cZ ra rb (w6 n (1:Int))=ys at *;o_head eY (r:=0) rfl rfl (λv8 H8 S8 i8=>?_);o_head eX (by simp) (λl9 H9 n9 S9 e9=>?_);refine lM (S9 _ _ (S8 _ _ e7)) e9 (WQ (iT (by simp;omega))) (λl10 H10 n10 S10 e10=>?_);have S710:=S8.trans (S9.trans S10);have t10:au K H10 (us7++[v8]) ((ys++[0]).map N):=C0 (au.same S710 _ _ t7) (i8.by (S9.trans S10));have SC:=S7.trans S710;have hn10:H6 l10=none:=jm (S7.trans (S8.trans S9)) n10
     have hnl:H l10=none:=by
       have ne:l10≠p:=cw.ne hn10 P6;cases e:H l10 with
       | none=>rfl
       | some o=>rw[EB l10 o ne e]at hn10;cases hn10
     clear S7 S8 S9 S10 S710 t7 i8 n7 n9 n10 e7 e9;o_head y7 (.of e10) (λi σ H'=>∃o,σ = [some (.ref p),some x1,some (.int m),some (.ref l1),some (.ref l10),o]/\H'=H10 /\ ∀j,j<i->eC ((ys++[0]).getD j 0)) ⟨_,rfl,rfl,λj hj=>by omega⟩ (λi σ H' _ h=>by obtain⟨_,_,rfl,_⟩:=h;exact .of e10) ?_ ?_
     . rintro i x σ H' hx ⟨o,rfl,rfl,hj⟩
       obtain⟨hi,ix⟩:=dk t10 hx;k_few
       . exact q l1 H' us1 xs1 n1 (EB.trans SC.exc) (KB.trans SC.keep) ((P6.same SC).le (by omega)) (SC _ _ eB) (au.same SC _ _ tB) a1 b1 ph1
       . exact q l1 H' us1 xs1 n1 (EB.trans SC.exc) (KB.trans SC.keep) ((P6.same SC).le (by omega)) (SC _ _ eB) (au.same SC _ _ tB) a1 b1 ph1
       . exact q l1 H' us1 xs1 n1 (EB.trans SC.exc) (KB.trans SC.keep) ((P6.same SC).le (by omega)) (SC _ _ eB) (au.same SC _ _ tB) a1 b1 ph1
       . rename_i z1 z2 z3
         refine⟨_,rfl,rfl,λj hj'=>?_⟩;rcases wD j i with y | y
         . exact hj j y
         . have:j=i:=by omega
           subst this;exact zyF z1 z2 z3
     . rintro σ H' ⟨o,rfl,rfl,hj⟩
       k_few;have hyl:(ys++[0]).length=n:=by simp[hsl];omega
       refine q l10 H' _ (ys++[0]) hnl (EB.trans SC.exc) (KB.trans SC.keep) ((P6.same SC).le (by omega)) e10 t10 (by omega) (by omega) (λy hy=>?_);obtain⟨j,hj',e⟩:=w9 hy;have:=hj j (by simp;omega);rw[wb,wc hj']at this;rw[<- e];exact this
theorem zyp{a b:Rat}{xs:List Rat}(h:1<=xs.length)(c:Rat):gk a b xs (xs.map (· + c)) (-c)/\gk a b (xs.map (· + c)) xs c:=by
 have e:∀i,1<=i->ai a b (xs.map (· + c)) i=ai a b xs i:=λi hi=>by
  obtain⟨k,rfl⟩:∃k,i=k+1:=⟨i-1,by omega⟩;exact B_ h c k
 have f:∀i,1<=i->aG a b (xs.map (· + c)) i=aG a b xs i-c:=λi hi=>by
  obtain⟨k,rfl⟩:∃k,i=k+1:=⟨i-1,by omega⟩;exact Nt h c k
 exact⟨⟨wm ..,e,λi hi=>by rw[f i hi];grind⟩,⟨(wm ..).symm,λi hi=>(e i hi).symm,λi hi=>by rw[f i hi];grind⟩⟩
theorem B9{n:Nat}{x:Rat}(h:ag n x):ag n (-x):=⟨⟨by rw[Rat.neg_num,XU];exact h.t.lt⟩,h.b⟩
theorem zAB(c:Rat):wu (0-c.num) c.den = -c:=by
 rw[Qz,<- Rat.neg_divInt]
 first | rw[WK] | rw[Rat.divInt_self]
theorem gk.fails{a b:Rat}{xs ys:List Rat}{d:Rat}(M:gk a b xs ys d)(F:gy a b xs):gy a b ys:=by
 obtain⟨es,i,h1,h2,h3,h4⟩:=F;refine⟨es,i,M.walk h1,h2,?_,?_⟩<;>rw[M.ph i h2]
 ·exact h3
 ·exact h4
theorem gk.same{a b:Rat}{xs ys:List Rat}{d:Rat}(M:gk a b xs ys d){es es':List (Nat × Nat × Nat)}{n n':Nat}{w w':String}(P:eJ a b xs es n w)(P':eJ a b ys es' n' w'):es=es'/\n=n'/\w=w':=by
 have hw:=P.word;have hw':=P'.word;rw[<- M.ph n P.n1]at hw;obtain⟨e1,e2⟩:=A9 (M.walk P.walk) P'.walk P.n1 (by rw[hw];simp) P'.n1 (by rw[hw'];simp);subst e2;rw[hw]at hw';exact⟨e1,rfl,wX hw'⟩
def zt(K:wa):Sp:=λvs H Q _=>∃x0,vs=[x0] /\ ∃(a:we)(ns:List Int),x0=.ref a/\iK K H a (ns.map V.int)/\ns.length<=63 /\ ∀H',Q (.bl true) H'
theorem Uy(T:Txt K mg a):aH P w K mg base aQ 16 a.law a.Jk u9 (zt K):=by
 refine T.TQ.F.ok iF ?_ ?_;wtm_at "b1"
 refine⟨_,(ar (az 1 iF.nd (ao (zkq T) hr T.Fq (ae (ao (ER T) hr T.rg (ae (pv 0) (ae ay af))) af)))
     (ar (az 2 iF.nd (ao (zqa T) hr T.Gy (ae (ao (ER T) hr T.rg (ae (pv 0) (ae ay af))) (ae (pv 1) (ae ay af)))))
     (ar (az 3 iF.nd (ao (ER T) hr T.rg (ae (pv 0) (ae ay af))))
     (ar (az 4 iF.nd (aD cA ay (ao (fi T) hr T.eS (ae (pv 3) (ae (dC dg (eH (ae ay (ae (Em (v:=1000000) ⟨by decide,by decide,by decide⟩ (by decide +kernel)) af))) (ao (fi T) hr T.eS (ae (pv 3) (ae ay af))) (λ_ _=>rfl)) af)))))
     (ar (az 5 iF.nd (ao (fS T) hr T.fu (ae (ao (fi T) hr T.eS (ae (pv 3) (ae (pv 4) af))) (ae (pv 4) af))))
     (ar (az 6 iF.nd (ao (zf T) hr T.nM (ae (ao (Dj T) hr T.q_ (ae (br (ae ay (ae ay af))) (ae (ao (zr2 T) hr T.Hj (ae (pv 2) af)) af))) (ae (pv 5) af))))
     (ar (az 7 iF.nd (ao (ZS T) hr T.Ht (ae (pv 1) (ae (pv 2) af))))
     (ar (az 8 iF.nd (kN (Yc T) hr T.Jc w_ (ae (pv 7) (ae (pv 6) af))))
     (ar (bD (bW (show aK _ (wJ .NotEq) (fR K)from jB hu) (ao (Mh T) hr T.z7 (ae (pv 7) af)) (ao (Mh T) hr T.z7 (ae (pv 8) af)) (aZ _)) (av (aB dP)) bA)
     (ar (az 9 iF.nd (eH (ae (ao (Nv T) hr T.Af (ae (pv 7) af)) (ae (ao (Nv T) hr T.Af (ae (pv 8) af)) af))))
     (ar (bD (PW.pt (d_ (bW p0 (aj (pv 9)) fh (aZ _)) (fT (bW p0 (aj (pv 9)) fh (aZ _))))) (av (aB (d9 (show aK _ (wJ .Eq) (cu K)from dq hu) (aj (pv 9)) (aj (pv 9)) (aZ _)))) bA)
     (ar (bD (PW.pt (d_ (cq (cb (ao (zA T) hr T.nO (ae (pv 7) (ae (aj (pv 9)) (ae dP af)))))) (fT (cq (cb (ao (zA T) hr T.nO (ae (pv 8) (ae (aj (pv 9)) (ae dP af))))))))) (av (aB dP)) bA)
     (ar (az 10 iF.nd (eH (ae (ao (OY T) hr T.Ah (ae (aj (pv 9)) (ae (aj (pv 8)) (ae (ao (fS T) hr T.fu (ae (aD h_ ay (aj (pv 6))) (ae (aj (pv 6)) af))) af)))) (ae (ao (OY T) hr T.Ah (ae (aj (pv 9)) (ae (aj (pv 7)) (ae (pv 6) af)))) af))))
     (ar (bD (PW.pt (Ct (bW UU (aj (pv 10)) fh (aZ _)) (Bp (cq (cb (ao (zA T) hr T.nO (ae (pv 8) (ae (aj (pv 10)) (ae dP af))))))))) (av (aB dP)) bA)
     (av (aB (Z2 (d9 p0 (aj (pv 10)) fh (aZ _)) (fN (ao (zA T) hr T.nO (ae (pv 7) (ae (aj (pv 10)) (ae dP af)))))))))))))))))))))),?_⟩
 wtm_at "cl";rw[show start JU [x0]=[some x0,none,none,none,none,none,none,none,none,none,none]from rfl];obtain⟨a',ns0,rfl,hs,hl,q⟩:=h;o_head EI hs hl (by decide) (by decide) (λp1 H1 hp1 S1 P1=>?_);o_head ZE P1 (by decide) (λv2 H2 ra rb E2 K2 P2 i2 ok=>?_);have KA:bK H H2:=S1.keep.trans K2;o_head EI (KA.DY hs) hl (by decide) (by decide) (λp3 H3 hp3 S3 P3=>?_);o_head zq3 (i2.by S3) ok P3 (by decide) (by decide) (by decide) (λl4 H4 us4 xs n4 E4 K4 P4 e4 t4 a4 b4 ph4=>?_);have KB:bK H H4:=KA.trans (S3.keep.trans K4);have i4:=i2.md (S3.keep.trans K4);obtain⟨bg,cD⟩:=cK.of ok a4 (by omega) ph4;clear i2 S1 S3 P1 P2 P3 P4 E2 K2 E4 K4 n4 hp1 hp3 KA;o_head EI (KB.DY hs) hl (by decide) (by decide) (λp6 H6 hp6 S6 P6=>?_);have i46:=i4.by S6;have e46:=S6 _ _ e4;have t46:au K H6 us4 (xs.map N):=au.same S6 _ _ t4;have hne:l4≠p6:=λe=>by rw[e]at e4;rw[e4]at hp6;cases hp6
 clear i4 e4 t4 S6 KB hs;wtm_at "ga";rename_i lc Hc nc Sc ec rd Hd d0 d1 Ed Kd Pd z hz rb' He b0' b1' Ee Ke Pe rs Hf s0 s1 Ef Kf Pf vs Hg xq Sg ig eg bq vo Hh Sh io;have eL:Hh l4=some (.lst us4):=Sh _ _ (Sg _ _ (Ef.at hne (Ee.at hne (Ed.at hne (Sc _ _ e46)))));have KK:bK H6 Hh:=Sc.keep.trans (Kd.trans (Ke.trans (Kf.trans (Sg.keep.trans Sh.keep))));have tL:au K Hh us4 (xs.map N):=au.keep KK _ _ (fU _) t46;have iL:=dm eL tL;have iR:=i46.md KK;have iq:=ig.by Sh;have hb:1<=1+rb'/\1+rb'<=1000000:=by omega
 have q0:0<=xq/\xq<1:=by
   rw[eg];exact⟨Ql (by omega) (by omega),(zop (by omega)).mpr (by omega)⟩
 clear Sc ec nc Ed Kd Pd hz d0 d1 Ee Ke Pe Ef Kf Pf Sg ig KK e46 t46 i46 P6 hp6 hne eg s0 s1 b0' b1'
 have b6:∀j,ag 6 (xs.getD j 0):=λj=>by
   rcases wD j xs.length with z | z
   . exact(ph4 _ (getD_mem z)).dH
   . rw[wb,wE z];exact ag.zero.mono (by decide)
 refine zsc iL a4 (λj=>(b6 j).mono (by decide)) (λvm im=>?_);have bM:ag 6 (aY xs):=(ph4 _ (fC a4)).dH;have hM:=(ph4 _ (fC a4)).one_sub;have hnn:=λx hx=>(ph4 x hx).nn
 have b1M:ag 8 (1-aY xs):=(ag.one.sub bM).mono (by decide);have iq:Is K Hh vs (N xq):=iq;o_head Ba (show Is K Hh vo (N 1)from io) im ag.one bM (by decide) (λv20 H20 S20 i20=>?_);have iq20:=iq.by S20;k_few;rename_i vc H21 S21 ic;have bc:ag 136 ((1-aY xs)*xq):=b1M.mul bq
 have hc:0<=(1-aY xs)*xq/\aY xs+(1-aY xs)*xq<1:=by
   refine⟨qx (vK hM.1) q0.1,?_⟩;have:=Qi q0.2 hM.1
   grind
 generalize (1-aY xs)*xq=c at *;have T21:=S20.trans S21;have i21:=iR.by T21;have iL21:=iL.by T21;clear iR iL io i20 im iq iq20 S20 S21 T21 q0 b1M eL tL
 have pL:c8 (xs.map (· + c)):=⟨λy hy=>by
   obtain⟨x,hx,rfl⟩:=wS.mp hy;exact Rat.add_nonneg (hnn x hx) hc.1,λy hy=>by
   obtain⟨x,hx,rfl⟩:=wS.mp hy;have:=oG x hx
   show x+c<1
   grind⟩
 have cL:j6 rb.den 800 (xs.map (· + c)):=by
   have b3:∀j,ag 143 ((xs.map (· + c)).getD j 0):=λj=>by
     rw[wb,wt];rcases wD j xs.length with z | z
     . rw[wc z]
       have:=b6 j;rw[wb,wc z]at this;exact this.add bc
     . rw[wE z];exact ag.zero.mono (by decide)
   have c0:Cm 796 (xs.map (· + c)):=(Cm.Ji b3).mono (by rw[wm];omega);exact j6.of c0 (den_pos rb) ⟨by have:=ok.bd;have:(2:Nat)^4=16:=(by decide);omega⟩
 have bL:cK ra rb (xs.map (· + c)):=⟨ok,by rw[wm];exact a4,by rw[wm];omega,pL,800,cL,by rw[wm];omega⟩;obtain⟨M1,M2⟩:=zyp (a:=ra) (b:=rb) a4 c;o_head Zf i21 ok (.inl iL21) a4 (by omega) ph4 (λvw H22 S22 iw=>?_);o_head Uj iw (ic.by S22) a4 (by omega) (λj=>(b6 j).mono (by decide)) (bc.mono (by decide)) (λz=>by rcases z with z | z;(exact absurd z (W9.mpr hc.1));exact absurd hc.2 z) (λ_ _ vl H23 S23 il=>?_);have iw23:=iw.by S23;have ic23:=ic.by (S22.trans S23);clear iw ic S22 S23 i21 iL21;o_head Pr iw23 bg (λv8 H8 S8 C8=>?_);o_head Pr (il.by S8) bL (λv9 H9 S9 C9=>?_);have T9:=S8.trans S9;have il9:=il.by T9;have iw9:=iw23.by T9;have ic9:=ic23.by T9;clear il iw23 ic23 T9;rcases C8 with⟨rfl,F8⟩ | ⟨es,n,wd,P,i8⟩
 . rcases C9 with⟨rfl,F9⟩ | ⟨es,n,wd,P,i9⟩
   . refine LO (n:=1) (d:=.none) (iI.mpr rfl) (iI.mpr rfl) ⟨by simp[vF],by simp[Wu]⟩ (by decide) (by rw[wQ]) ?_
     o_head uD iw9 bg (λ_ H10 S10=>?_) (λl H10 es n w P _ _ _=>(mM P F8).elim);o_head uD (il9.by S10) bL (λ_ H11 S11=>?_) (λl H11 es n w P _ _ _=>(mM P F9).elim);wtm_at "ga";exact NP (n:=1) (d:=.none) (iI.mpr rfl) (iI.mpr rfl) ⟨by simp[vF],by simp[Wu]⟩ (by decide) (by rw[wQ]) (q _)
   . exact(mM P (M1.fails F8)).elim
 . rcases C9 with⟨rfl,F9⟩ | ⟨es',n',wd',P',i9⟩
   . exact(mM P (M2.fails F9)).elim
   obtain⟨rfl,rfl,rfl⟩:=M1.same P P';rw[M1.ph n P.n1]at i9;refine LO (n:=4) (i8.by S9) i9 ?_ (by decide) ?_ ?_
   . exact nq (CA ((yy (pf _)).mono (by decide)) ((nI _).mono (by decide)))
   . exact Cn (CA (Rb _) (Dx _))
   clear i8 i9 S8 S9;o_head uD iw9 bg (λF H10 S10=>(mM P F).elim) (λl H10 es' n' w' P10 _ S10 i10=>?_);obtain⟨rfl,rfl,rfl⟩:=Pw P P10;o_head uD (il9.by S10) bL (λF H10 S10=>(mM P' F).elim) (λl' H11 es' n' w' P11 _ S11 i11=>?_);obtain⟨rfl,rfl,rfl⟩:=Pw P' P11;have cX:=P.Jq bg;have cY:=P'.Jq bL;have hX:=λi (hi:i<=n)=>(cX 0 i (by omega)).dH (wC ..)
   have hY:=λi (hi:i<=n)=>(cY 0 i (by omega)).dH (wC ..)
   have h0X:=bg.hp.zero ok.a0 ok.b0 a4 P.n1;have h0Y:=pL.zero ok.a0 ok.b0 (by rw[wm];exact a4) P.n1;have lX:=cT.lw bg P.walk;have lY:=cT.lw bL P'.walk;have bN:=P.bN;have T11:=S10.trans S11;have iwT:=iw9.by T11;have ilT:=il9.by T11;have icT:=ic9.by T11;have i10T:=i10.by S11;clear iw9 il9 ic9 i10 S10 S11 T11;o_head eX (by simp) (λlt H12 n12 S12 e12=>?_);have iw12:=iwT.by S12;have il12:=ilT.by S12;have ic12:=icT.by S12;have i1012:=i10T.by S12;have i1112:=i11.by S12;clear iwT ilT icT i10T i11 S12;k_few
   all_goals first | (rename_i z;cases z) | skip
   refine sE iw12 i1012 ok a4 (by omega) bg.hp lX (by omega) h0X P.word cX (λH13 S13=>?_);have e13:=S13 _ _ e12;o_head sE (il12.by S13) (i1112.by S13) ok (by rw[wm];exact a4) (by rw[wm];omega) pL lY (by omega) h0Y P'.word cY (λH14 S14=>?_);have T14:=S13.trans S14;have e14:=S14 _ _ e13;o_head aA (j:=1) (il12.by T14) rfl (λv15 i15=>?_);o_head kT (den_pos c) (bc.b.mono (by decide)) (λv16 H16 S16 i16=>?_);rw[zAB]at i16;have e16:=S16 _ _ e14;have T16:=T14.trans S16;o_head Mg (i1012.by T16) (i15.by S16) i16 M1 P.walk P.n1 P.e1 bN ((B9 bc).mono (by decide)) hX (λl17 H17 S17 i17=>?_);have e17:=S17 _ _ e16;have T17:=T16.trans S17;o_head aA (j:=1) (iw12.by T17) rfl (λv18 i18=>?_);o_head Mg (i1112.by T17) i18 (ic12.by T17) M2 P'.walk P.n1 P.e1 bN (bc.mono (by decide)) hY (λl19 H19 S19 i19=>?_);have T19:=T17.trans S19;o_head eX (by simp) (λl20 H20 n20 S20 e20=>?_);have T20:=T19.trans S20;have i1720:=i17.by (S19.trans S20);have i1920:=i19.by S20;k_few
   all_goals try contradiction
   refine sE (il12.by T20) i1720 ok (by rw[wm];exact a4) (by rw[wm];omega) pL lY (by omega) h0Y P'.word cY (λH21 S21=>?_);have e21:=S21 _ _ e20;k_few
   all_goals try contradiction
   exact sE (iw12.by (T20.trans S21)) (i1920.by S21) ok a4 (by omega) bg.hp lX (by omega) h0X P.word cX (λH22 S22=>q _)
end
theorem Mi{us:List wf}(h:us.length=1):∃a,us=[a]:=by
 cases us with
 | nil=>cases h
 | cons a t=>exact⟨a,by rw[qz.mp (QC h)]⟩
theorem OZ{us:List wf}(h:us.length=2):∃a0 a1,us=[a0,a1]:=by
 cases us with
 | nil=>cases h
 | cons a0 t =>
  obtain⟨a1,e⟩:=Mi (QC h);exact⟨a0,a1,by rw[e]⟩
theorem OF{us:List wf}(h:us.length=3):∃a0 a1 a2,us=[a0,a1,a2]:=by
 cases us with
 | nil=>cases h
 | cons a0 t =>
  obtain⟨a1,a2,e⟩:=OZ (QC h);exact⟨a0,a1,a2,by rw[e]⟩
theorem YZ{us:List wf}(h:us.length=4):∃a0 a1 a2 a3,us=[a0,a1,a2,a3]:=by
 cases us with
 | nil=>cases h
 | cons a0 t =>
  obtain⟨a1,a2,a3,e⟩:=OF (QC h);exact⟨a0,a1,a2,a3,by rw[e]⟩
inductive aM(K:wa)(n:Str)(st:wZ)(f:we):Prop
 | mk {od an:Option we} {sl:Array (Option wf)} {oc kV dc pm cd ct:wf} (a:vd K wK n=some (some (.ref f))) (l:K.lookup f=some ⟨oc,od,.func (Vu n n (m8 st) (ku st) (aC st) .none kV dc pm an cd ct),sl⟩) (c:qU K cd n=true) (k:qu K (.ref f)=true):aM K n st f
theorem aM.dn{K:wa}{h:wI}{mg:Str->Option wf}{n:Str}{st:wZ}{f:we}{ps:List Str}(A:aM K n st f)(X:K.In h)(G:h.Ns wK mg)
  (b:∀(kV doc pm:wf)(an:Option we)(cdv ct:wf)(us:List wf),us.length=ps.length->bindArgs (Vu n n (m8 st) (ku st) (aC st) .none kV doc pm an cdv ct) ⟨us,[]⟩=pure (ps.zip us)):∃fd,Dn K mg n st ps f fd:=by
 obtain⟨a,l,c,k⟩:=A;have F:=Ks (st:=st) l c k;exact⟨_,F,vV X G a,F.binds b⟩
set_option hygiene false in
local macro_rules | `(tactic| wtm_at "bd")=>`(tactic| (intro _ _ _ _ _ _ us hl; first | (obtain ⟨_,rfl⟩:=Mi hl; rfl) | (obtain ⟨_,_,rfl⟩:=OZ hl; rfl) | (obtain ⟨_,_,_,rfl⟩:=OF hl; rfl) | (obtain ⟨_,_,_,_,rfl⟩:=YZ hl; rfl)))
set_option maxHeartbeats 8000000 in
theorem all_mk{l:QJ}{w:wN}{K:wa}{h:wI}{mg:Str->Option wf}{fa:we}(X:K.In h)(G:h.Ns wK mg)(hfa:mg "law"=some (.ref fa))
  {f0 f1 f2 f3 f4 f5 f6 f7 f8 f9 f10 f11 f12 f13 f14 f15 f16 f17 f18 f19 f20 f21 f22 f23 f24 f25 f26 f27 f28 f29 f30 f31 f32 f33 f34 f35 f36 f37 f38 f39 f40 f41 f42 f43 f44 f45 f46 f47 f48 f49 f50 f51 f52 f53 f54 f55 f56 f57 f58 f59 f60 f61 f62 f63 f64 f65 f66 f67 f68 f69 f70 f71 f72 f73 f74 f75 f76 f77 f78 f79 f80:we}
  {e0:we}
  {e1:we}
  {e2:we}
  {g0:we} {gn0:Nat} {gd0:Option we} {gs0:Array (Option wf)} {tk0_0 tk0_1:Tok}
  {g1:we} {gn1:Nat} {gd1:Option we} {gs1:Array (Option wf)} {tk1_0 tk1_1:Tok}
  {g2:we} {gn2:Nat} {gd2:Option we} {gs2:Array (Option wf)} {tk2_0 tk2_1:Tok}
  {tk3:Tok}
  {tk4:Tok}
  {tk5:Tok}
  {tk6:Tok}
  {tk7:Tok}
  {tk8:Tok}
  {g9:we} {gn9:Nat} {gd9:Option we} {gs9:Array (Option wf)} {tk9_0 tk9_1 tk9_2:Tok}
  (a0:aM K "is_whole" BW f0)
  (a1:aM K "is_whole_from" DC f1)
  (a2:aM K "greatest_divisor" AH f2)
  (a3:aM K "is_number" EL f3)
  (a4:aM K "plus" B1 f4)
  (a5:aM K "minus" Cs f5)
  (a6:aM K "times" BF f6)
  (a7:aM K "over" B3 f7)
  (a8:aM K "less" EH f8)
  (a9:aM K "is_factor" AW f9)
  (a10:aM K "is_shift" AZ f10)
  (a11:aM K "make_rule" C4 f11)
  (a12:aM K "is_rule" BE f12)
  (a13:aM K "bend" En f13)
  (a14:aM K "pushes" Bz f14)
  (a15:aM K "pushed_by" Ew f15)
  (a16:aM K "is_phase" C6 f16)
  (a17:aM K "are_phases" yn f17)
  (a18:aM K "swarm_of" DO f18)
  (a19:aM K "greatest" EC f19)
  (a20:aM K "worms_at" tE f20)
  (a21:aM K "flocks" sF f21)
  (a22:aM K "at_the_end" zj f22)
  (a23:aM K "glow" m3 f23)
  (a24:aM K "moved" yQ f24)
  (a25:aM K "history" CG f25)
  (a26:aM K "behind" EW f26)
  (a27:aM K "is_laid" Ca f27)
  (a28:aM K "laid" oO f28)
  (a29:aM K "phases_behind" u7 f29)
  (a30:aM K "stands" Eh f30)
  (a31:aM K "round_behind" Cv f31)
  (a32:aM K "round_time" DA f32)
  (a33:aM K "tops" uF f33)
  (a34:aM K "is_free" pZ f34)
  (a35:aM K "round_map" uS f35)
  (a36:aM K "still" zx f36)
  (a37:aM K "weighed" u_ f37)
  (a38:aM K "led_on" CW f38)
  (a39:aM K "rounds_behind" BR f39)
  (a40:aM K "sums_of_places" Co f40)
  (a41:aM K "rounds_time" uI f41)
  (a42:aM K "draws_freely" yY f42)
  (a43:aM K "stays_free" uB f43)
  (a44:aM K "free_rounds" DS f44)
  (a45:aM K "has_stand" zG f45)
  (a46:aM K "is_row" CY f46)
  (a47:aM K "is_last_row" Bc f47)
  (a48:aM K "is_paper" yJ f48)
  (a49:aM K "go_free" Bf f49)
  (a50:aM K "behind_rounds" yW f50)
  (a51:aM K "behind_row" Cz f51)
  (a52:aM K "leads_on" ED f52)
  (a53:aM K "word_of" AL f53)
  (a54:aM K "lets_by" A3 f54)
  (a55:aM K "glows_to_join" EX f55)
  (a56:aM K "next_row" AG f56)
  (a57:aM K "paper_of" BP f57)
  (a58:aM K "fate" Bu f58)
  (a59:aM K "_law_cell" AV f59)
  (a60:aM K "_law_pen" Bk f60)
  (a61:aM K "_law_draw" BJ f61)
  (a62:aM K "_law_low" Bs f62)
  (a63:aM K "_law_sum" BY f63)
  (a64:aM K "_law_rest" DW f64)
  (a65:aM K "_law_product" CO f65)
  (a66:aM K "_law_below" DP f66)
  (a67:aM K "_law_drawn_rule" CQ f67)
  (a68:aM K "_law_drawn_phases" tZ f68)
  (a69:aM K "_law_high" EO f69)
  (a70:aM K "_law_paper" AF f70)
  (a71:aM K "_law_fate_told" AR f71)
  (a72:aM K "_law_says" Bv f72)
  (a73:aM K "_law_led" t_ f73)
  (a74:aM K "_law_part" Ce f74)
  (a75:aM K "_law_pushes" Eo f75)
  (a76:aM K "_law_round" pj f76)
  (a77:aM K "_law_power" Eu f77)
  (a78:aM K "_law_rests" rJ f78)
  (a79:aM K "_law_start" Bq f79)
  (a80:aM K "law" zi f80)
  (n_NoSwarm:vd K wK "NoSwarm"=some (some (.ref e0)))
  (n_NoStand:vd K wK "NoStand"=some (some (.ref e1)))
  (n_TooLong:vd K wK "TooLong"=some (some (.ref e2)))
  (z_abs:vd K wK "abs"=some none)
  (z_all:vd K wK "all"=some none)
  (z_any:vd K wK "any"=some none)
  (z_bool:vd K wK "bool"=some none)
  (z_dict:vd K wK "dict"=some none)
  (z_enumerate:vd K wK "enumerate"=some none)
  (z_int:vd K wK "int"=some none)
  (z_isinstance:vd K wK "isinstance"=some none)
  (z_len:vd K wK "len"=some none)
  (z_list:vd K wK "list"=some none)
  (z_min:vd K wK "min"=some none)
  (z_range:vd K wK "range"=some none)
  (z_str:vd K wK "str"=some none)
  (z_sum:vd K wK "sum"=some none)
  (z_tuple:vd K wK "tuple"=some none)
  (z_zip:vd K wK "zip"=some none)
  (h_x_NoSwarm:WU K e0 kX "ValueError.__new__"=true)
  (h_m_NoSwarm_TooLong:W4 K (.ref e0) (.ref e2)=some false)
  (h_x_NoStand:WU K e1 kX "ValueError.__new__"=true)
  (h_m_NoStand_TooLong:W4 K (.ref e1) (.ref e2)=some false)
  (h_x_TooLong:WU K e2 kX "ValueError.__new__"=true)
  (h_m_TooLong_TooLong:W4 K (.ref e2) (.ref e2)=some true)
  (q0:vd K wK "NOUGHT"=some (some (.ref g0)))
  (r0:K.lookup g0=some ⟨.type "tuple",gd0,.seq #[.int 0 tk0_0,.int 1 tk0_1] gn0,gs0⟩)
  (q1:vd K wK "ONE"=some (some (.ref g1)))
  (r1:K.lookup g1=some ⟨.type "tuple",gd1,.seq #[.int 1 tk1_0,.int 1 tk1_1] gn1,gs1⟩)
  (q2:vd K wK "GREATEST_FACTOR"=some (some (.ref g2)))
  (r2:K.lookup g2=some ⟨.type "tuple",gd2,.seq #[.int 4 tk2_0,.int 1 tk2_1] gn2,gs2⟩)
  (q3:vd K wK "FACTOR_BOTTOM"=some (some (.int 8 tk3)))
  (q4:vd K wK "SHIFT_BOTTOM"=some (some (.int 12 tk4)))
  (q5:vd K wK "MOST_WORMS"=some (some (.int 8 tk5)))
  (q6:vd K wK "PHASE_BOTTOM"=some (some (.int 60 tk6)))
  (q7:vd K wK "MOST_FREE"=some (some (.int 30 tk7)))
  (q8:vd K wK "MOST_GLOWS"=some (some (.int 40 tk8)))
  (q9:vd K wK "WORDS"=some (some (.ref g9)))
  (r9:K.lookup g9=some ⟨.type "tuple",gd9,.seq #[.str "one" tk9_0,.str "rests" tk9_1,.str "drawn" tk9_2] gn9,gs9⟩)
  : ∃fd:wz,(∀(s:wl)(v:wf),BindsTo s fd ⟨[v],[]⟩ [("_law_script",v)]) /\ ∀base:wI,K.In base->base.Ns wK mg->aH l.prog w K mg base aQ 16 fa fd ["_law_script"] (zt K):=by
 obtain⟨aL,lL,cL,kL⟩:=a80;cases hfa.symm.trans (vV X G aL);have FL:=Ks (st:=zi) lL cL kL;have D80:Dn K mg _ _ u9 _ _:=⟨FL,vV X G aL,FL.binds (by wtm_at "bd")⟩;have⟨_,D0⟩:=a0.dn (ps:=u4) X G (by wtm_at "bd");have⟨_,D1⟩:=a1.dn (ps:=tV) X G (by wtm_at "bd");have⟨_,D2⟩:=a2.dn (ps:=sA) X G (by wtm_at "bd");have⟨_,D3⟩:=a3.dn (ps:=zo) X G (by wtm_at "bd");have⟨_,D4⟩:=a4.dn (ps:=yV) X G (by wtm_at "bd");have⟨_,D5⟩:=a5.dn (ps:=zp) X G (by wtm_at "bd");have⟨_,D6⟩:=a6.dn (ps:=sZ) X G (by wtm_at "bd");have⟨_,D7⟩:=a7.dn (ps:=y_) X G (by wtm_at "bd");have⟨_,D8⟩:=a8.dn (ps:=tW) X G (by wtm_at "bd");have⟨_,D9⟩:=a9.dn (ps:=yX) X G (by wtm_at "bd");have⟨_,D10⟩:=a10.dn (ps:=zh) X G (by wtm_at "bd");have⟨_,D11⟩:=a11.dn (ps:=zl) X G (by wtm_at "bd");have⟨_,D12⟩:=a12.dn (ps:=yS) X G (by wtm_at "bd");have⟨_,D13⟩:=a13.dn (ps:=ze) X G (by wtm_at "bd");have⟨_,D14⟩:=a14.dn (ps:=tJ) X G (by wtm_at "bd");have⟨_,D15⟩:=a15.dn (ps:=zB) X G (by wtm_at "bd");have⟨_,D16⟩:=a16.dn (ps:=yB) X G (by wtm_at "bd");have⟨_,D17⟩:=a17.dn (ps:=sY) X G (by wtm_at "bd");have⟨_,D18⟩:=a18.dn (ps:=tD) X G (by wtm_at "bd");have⟨_,D19⟩:=a19.dn (ps:=yC) X G (by wtm_at "bd");have⟨_,D20⟩:=a20.dn (ps:=uz) X G (by wtm_at "bd");have⟨_,D21⟩:=a21.dn (ps:=uQ) X G (by wtm_at "bd");have⟨_,D22⟩:=a22.dn (ps:=rS) X G (by wtm_at "bd");have⟨_,D23⟩:=a23.dn (ps:=rX) X G (by wtm_at "bd");have⟨_,D24⟩:=a24.dn (ps:=zP) X G (by wtm_at "bd");have⟨_,D25⟩:=a25.dn (ps:=yE) X G (by wtm_at "bd")
 have⟨_,D26⟩:=a26.dn (ps:=uA) X G (by wtm_at "bd");have⟨_,D27⟩:=a27.dn (ps:=zI) X G (by wtm_at "bd");have⟨_,D28⟩:=a28.dn (ps:=tX) X G (by wtm_at "bd");have⟨_,D29⟩:=a29.dn (ps:=tG) X G (by wtm_at "bd");have⟨_,D30⟩:=a30.dn (ps:=yz) X G (by wtm_at "bd");have⟨_,D31⟩:=a31.dn (ps:=rG) X G (by wtm_at "bd");have⟨_,D32⟩:=a32.dn (ps:=zev) X G (by wtm_at "bd");have⟨_,D33⟩:=a33.dn (ps:=tT) X G (by wtm_at "bd");have⟨_,D34⟩:=a34.dn (ps:=tm) X G (by wtm_at "bd");have⟨_,D35⟩:=a35.dn (ps:=yr) X G (by wtm_at "bd");have⟨_,D36⟩:=a36.dn (ps:=yA) X G (by wtm_at "bd");have⟨_,D37⟩:=a37.dn (ps:=sQ) X G (by wtm_at "bd");have⟨_,D38⟩:=a38.dn (ps:=s_) X G (by wtm_at "bd");have⟨_,D39⟩:=a39.dn (ps:=tK) X G (by wtm_at "bd");have⟨_,D40⟩:=a40.dn (ps:=ya) X G (by wtm_at "bd");have⟨_,D41⟩:=a41.dn (ps:=yf) X G (by wtm_at "bd");have⟨_,D42⟩:=a42.dn (ps:=tI) X G (by wtm_at "bd");have⟨_,D43⟩:=a43.dn (ps:=yN) X G (by wtm_at "bd");have⟨_,D44⟩:=a44.dn (ps:=zQ) X G (by wtm_at "bd");have⟨_,D45⟩:=a45.dn (ps:=rV) X G (by wtm_at "bd");have⟨_,D46⟩:=a46.dn (ps:=yi) X G (by wtm_at "bd");have⟨_,D47⟩:=a47.dn (ps:=zF) X G (by wtm_at "bd");have⟨_,D48⟩:=a48.dn (ps:=zT) X G (by wtm_at "bd");have⟨_,D49⟩:=a49.dn (ps:=sI) X G (by wtm_at "bd");have⟨_,D50⟩:=a50.dn (ps:=rR) X G (by wtm_at "bd");have⟨_,D51⟩:=a51.dn (ps:=uP) X G (by wtm_at "bd");have⟨_,D52⟩:=a52.dn (ps:=ui) X G (by wtm_at "bd");have⟨_,D53⟩:=a53.dn (ps:=sD) X G (by wtm_at "bd");have⟨_,D54⟩:=a54.dn (ps:=yh) X G (by wtm_at "bd")
 have⟨_,D55⟩:=a55.dn (ps:=zu) X G (by wtm_at "bd");have⟨_,D56⟩:=a56.dn (ps:=tY) X G (by wtm_at "bd");have⟨_,D57⟩:=a57.dn (ps:=uT) X G (by wtm_at "bd");have⟨_,D58⟩:=a58.dn (ps:=sL) X G (by wtm_at "bd");have⟨_,D59⟩:=a59.dn (ps:=u0) X G (by wtm_at "bd");have⟨_,D60⟩:=a60.dn (ps:=uJ) X G (by wtm_at "bd");have⟨_,D61⟩:=a61.dn (ps:=sU) X G (by wtm_at "bd");have⟨_,D62⟩:=a62.dn (ps:=uw) X G (by wtm_at "bd");have⟨_,D63⟩:=a63.dn (ps:=uv) X G (by wtm_at "bd");have⟨_,D64⟩:=a64.dn (ps:=r_) X G (by wtm_at "bd");have⟨_,D65⟩:=a65.dn (ps:=yx) X G (by wtm_at "bd");have⟨_,D66⟩:=a66.dn (ps:=tM) X G (by wtm_at "bd");have⟨_,D67⟩:=a67.dn (ps:=yL) X G (by wtm_at "bd");have⟨_,D68⟩:=a68.dn (ps:=zU) X G (by wtm_at "bd");have⟨_,D69⟩:=a69.dn (ps:=zN) X G (by wtm_at "bd");have⟨_,D70⟩:=a70.dn (ps:=uN) X G (by wtm_at "bd");have⟨_,D71⟩:=a71.dn (ps:=zd) X G (by wtm_at "bd");have⟨_,D72⟩:=a72.dn (ps:=rY) X G (by wtm_at "bd");have⟨_,D73⟩:=a73.dn (ps:=uR) X G (by wtm_at "bd");have⟨_,D74⟩:=a74.dn (ps:=sJ) X G (by wtm_at "bd");have⟨_,D75⟩:=a75.dn (ps:=yg) X G (by wtm_at "bd");have⟨_,D76⟩:=a76.dn (ps:=uU) X G (by wtm_at "bd");have⟨_,D77⟩:=a77.dn (ps:=yR) X G (by wtm_at "bd");have⟨_,D78⟩:=a78.dn (ps:=uX) X G (by wtm_at "bd");have⟨_,D79⟩:=a79.dn (ps:=zJ) X G (by wtm_at "bd")
 have T:Txt K mg ⟨f0,_,f1,_,f2,_,f3,_,f4,_,f5,_,f6,_,f7,_,f8,_,f9,_,f10,_,f11,_,f12,_,f13,_,f14,_,f15,_,f16,_,f17,_,f18,_,f19,_,f20,_,f21,_,f22,_,f23,_,f24,_,f25,_,f26,_,f27,_,f28,_,f29,_,f30,_,f31,_,f32,_,f33,_,f34,_,f35,_,f36,_,f37,_,f38,_,f39,_,f40,_,f41,_,f42,_,f43,_,f44,_,f45,_,f46,_,f47,_,f48,_,f49,_,f50,_,f51,_,f52,_,f53,_,f54,_,f55,_,f56,_,f57,_,f58,_,f59,_,f60,_,f61,_,f62,_,f63,_,f64,_,f65,_,f66,_,f67,_,f68,_,f69,_,f70,_,f71,_,f72,_,f73,_,f74,_,f75,_,f76,_,f77,_,f78,_,f79,_,_,_,e0,e1,e2,g0,g1,g2,g9⟩:=⟨D0,
  D1,
  D2,
  D3,
  D4,
  D5,
  D6,
  D7,
  D8,
  D9,
  D10,
  D11,
  D12,
  D13,
  D14,
  D15,
  D16,
  D17,
  D18,
  D19,
  D20,
  D21,
  D22,
  D23,
  D24,
  D25,
  D26,
  D27,
  D28,
  D29,
  D30,
  D31,
  D32,
  D33,
  D34,
  D35,
  D36,
  D37,
  D38,
  D39,
  D40,
  D41,
  D42,
  D43,
  D44,
  D45,
  D46,
  D47,
  D48,
  D49,
  D50,
  D51,
  D52,
  D53,
  D54,
  D55,
  D56,
  D57,
  D58,
  D59,
  D60,
  D61,
  D62,
  D63,
  D64,
  D65,
  D66,
  D67,
  D68,
  D69,
  D70,
  D71,
  D72,
  D73,
  D74,
  D75,
  D76,
  D77,
  D78,
  D79,
  D80,
  vv X G z_abs,
  vv X G z_all,
  vv X G z_any,
  vv X G z_bool,
  vv X G z_dict,
  vv X G z_enumerate,
  vv X G z_int,
  vv X G z_isinstance,
  vv X G z_len,
  vv X G z_list,
  vv X G z_min,
  vv X G z_range,
  vv X G z_str,
  vv X G z_sum,
  vv X G z_tuple,
  vv X G z_zip,
  vV X G n_NoSwarm,
  vV X G n_NoStand,
  vV X G n_TooLong,
  h_x_NoSwarm,
  h_m_NoSwarm_TooLong,
  h_x_NoStand,
  h_m_NoStand_TooLong,
  h_x_TooLong,
  h_m_TooLong_TooLong,
  vV X G q0,
  λH=>.inr ⟨_,_,_,r0,rfl,rfl,by simp;decide,(.cons ⟨_,rfl⟩ (.cons ⟨_,rfl⟩ .nil))⟩,
  vV X G q1,
  λH=>.inr ⟨_,_,_,r1,rfl,rfl,by simp;decide,(.cons ⟨_,rfl⟩ (.cons ⟨_,rfl⟩ .nil))⟩,
  vV X G q2,
  λH=>.inr ⟨_,_,_,r2,rfl,rfl,by simp;decide,(.cons ⟨_,rfl⟩ (.cons ⟨_,rfl⟩ .nil))⟩,
  ⟨_,vV X G q3⟩,
  ⟨_,vV X G q4⟩,
  ⟨_,vV X G q5⟩,
  ⟨_,vV X G q6⟩,
  ⟨_,vV X G q7⟩,
  ⟨_,vV X G q8⟩,
  vV X G q9,
  λH=>.inr ⟨_,_,_,r9,rfl,rfl,by simp;decide,(.cons ⟨_,rfl⟩ (.cons ⟨_,rfl⟩ (.cons ⟨_,rfl⟩ .nil)))⟩⟩
 exact⟨_,λs v=>.of_eq rfl,λbase _ _=>Uy T⟩
theorem walk{l:QJ}{q:wL}{loose:List Str}{XP:(Str->Option wf)->wI->Prop}{YP:wN->wI->Prop}{d:DefRec}{K:Params->wa}(hn:l.most=some 63)(hdf:d.params.defaults=[])
  (hY:∀(w:wN)(h:wI),YP w h->(K w.params).In h)
  (F:∀(w:wN)(mg:Str->Option wf)(fa:we)(h:wI),(K w.params).In h->h.Ns wK mg->mg d.name=some (.ref fa) ->
   ∃fd:wz,(∀(s:wl)(u:wf),BindsTo s fd ⟨[u],[]⟩ [("_law_script",u)]) /\ ∀base:wI,(K w.params).In base->base.Ns wK mg->aH l.prog w (K w.params) mg base aQ 16 fa fd ["_law_script"] (zt (K w.params))) :
  X3 q loose XP YP l.row.toRowW d [] (λf vs=>Xz f vs) :=
 L2.TK (n:=63) (k:=16) (x:="_law_script") (CX:=λ_=>aQ) (sp:=λw=>zt (K w.params)) hn (by decide) hdf ⟨rfl,by decide,by decide,rfl⟩ hY F (λ_ H a ns hl hO hS=>⟨.ref a,rfl,a,ns,rfl,Zt hO hS,hl,λ_=>rfl⟩) λ_ _ _ _ _ z=>z
end G
local macro_rules | `(tactic| wtm_at "fk")=>`(tactic| (refine' G.aM.mk ?a ?l ?c ?k; (case a=>k_is); (case l=>k_is); (case c=>k_is); (case k=>k_is)))
open PySem PySem.W PyProof.Rows
set_option maxRecDepth 100000 in
set_option maxHeartbeats 0 in
theorem PySem.Challenge.cw_glowflock_k36_whole_moved_alike_holds : PySem.Challenge.rw_glowflock_k36_whole_moved_alike.Holds := by
 w_on; refine GH.head ?_
 k_fill
 refine G.walk (l:=PySem.Challenge.rw_glowflock_k36_whole_moved_alike) rfl rfl (fun w h Y=>PySem.W.kIn_of Y) ?F
 case F =>
   intro w mg fa h KX GG hmg;refine' G.all_mk KX GG hmg ?a0 ?a1 ?a2 ?a3 ?a4 ?a5 ?a6 ?a7 ?a8 ?a9 ?a10 ?a11 ?a12 ?a13 ?a14 ?a15 ?a16 ?a17 ?a18 ?a19 ?a20 ?a21 ?a22 ?a23 ?a24 ?a25 ?a26 ?a27 ?a28 ?a29 ?a30 ?a31 ?a32 ?a33 ?a34 ?a35 ?a36 ?a37 ?a38 ?a39 ?a40 ?a41 ?a42 ?a43 ?a44 ?a45 ?a46 ?a47 ?a48 ?a49 ?a50 ?a51 ?a52 ?a53 ?a54 ?a55 ?a56 ?a57 ?a58 ?a59 ?a60 ?a61 ?a62 ?a63 ?a64 ?a65 ?a66 ?a67 ?a68 ?a69 ?a70 ?a71 ?a72 ?a73 ?a74 ?a75 ?a76 ?a77 ?a78 ?a79 ?a80 ?n_NoSwarm ?n_NoStand ?n_TooLong ?z_abs ?z_all ?z_any ?z_bool ?z_dict ?z_enumerate ?z_int ?z_isinstance ?z_len ?z_list ?z_min ?z_range ?z_str ?z_sum ?z_tuple ?z_zip ?h_x_NoSwarm ?h_m_NoSwarm_TooLong ?h_x_NoStand ?h_m_NoStand_TooLong ?h_x_TooLong ?h_m_TooLong_TooLong ?q0 ?r0 ?q1 ?r1 ?q2 ?r2 ?q3 ?q4 ?q5 ?q6 ?q7 ?q8 ?q9 ?r9
   (case a0=>wtm_at "fk")
   (case a1=>wtm_at "fk")
   (case a2=>wtm_at "fk")
   (case a3=>wtm_at "fk")
   (case a4=>wtm_at "fk")
   (case a5=>wtm_at "fk")
   (case a6=>wtm_at "fk")
   (case a7=>wtm_at "fk")
   (case a8=>wtm_at "fk")
   (case a9=>wtm_at "fk")
   (case a10=>wtm_at "fk")
   (case a11=>wtm_at "fk")
   (case a12=>wtm_at "fk")
   (case a13=>wtm_at "fk")
   (case a14=>wtm_at "fk")
   (case a15=>wtm_at "fk")
   (case a16=>wtm_at "fk")
   (case a17=>wtm_at "fk")
   (case a18=>wtm_at "fk")
   (case a19=>wtm_at "fk")
   (case a20=>wtm_at "fk")
   (case a21=>wtm_at "fk")
   (case a22=>wtm_at "fk")
   (case a23=>wtm_at "fk")
   (case a24=>wtm_at "fk")
   (case a25=>wtm_at "fk")
   (case a26=>wtm_at "fk")
   (case a27=>wtm_at "fk")
   (case a28=>wtm_at "fk")
   (case a29=>wtm_at "fk")
   (case a30=>wtm_at "fk")
   (case a31=>wtm_at "fk")
   (case a32=>wtm_at "fk")
   (case a33=>wtm_at "fk")
   (case a34=>wtm_at "fk")
   (case a35=>wtm_at "fk")
   (case a36=>wtm_at "fk")
   (case a37=>wtm_at "fk")
   (case a38=>wtm_at "fk")
   (case a39=>wtm_at "fk")
   (case a40=>wtm_at "fk")
   (case a41=>wtm_at "fk")
   (case a42=>wtm_at "fk")
   (case a43=>wtm_at "fk")
   (case a44=>wtm_at "fk")
   (case a45=>wtm_at "fk")
   (case a46=>wtm_at "fk")
   (case a47=>wtm_at "fk")
   (case a48=>wtm_at "fk")
   (case a49=>wtm_at "fk")
   (case a50=>wtm_at "fk")
   (case a51=>wtm_at "fk")
   (case a52=>wtm_at "fk")
   (case a53=>wtm_at "fk")
   (case a54=>wtm_at "fk")
   (case a55=>wtm_at "fk")
   (case a56=>wtm_at "fk")
   (case a57=>wtm_at "fk")
   (case a58=>wtm_at "fk")
   (case a59=>wtm_at "fk")
   (case a60=>wtm_at "fk")
   (case a61=>wtm_at "fk")
   (case a62=>wtm_at "fk")
   (case a63=>wtm_at "fk")
   (case a64=>wtm_at "fk")
   (case a65=>wtm_at "fk")
   (case a66=>wtm_at "fk")
   (case a67=>wtm_at "fk")
   (case a68=>wtm_at "fk")
   (case a69=>wtm_at "fk")
   (case a70=>wtm_at "fk")
   (case a71=>wtm_at "fk")
   (case a72=>wtm_at "fk")
   (case a73=>wtm_at "fk")
   (case a74=>wtm_at "fk")
   (case a75=>wtm_at "fk")
   (case a76=>wtm_at "fk")
   (case a77=>wtm_at "fk")
   (case a78=>wtm_at "fk")
   (case a79=>wtm_at "fk")
   (case a80=>wtm_at "fk")
   (case n_NoSwarm=>k_is)
   (case n_NoStand=>k_is)
   (case n_TooLong=>k_is)
   (case z_abs=>k_is)
   (case z_all=>k_is)
   (case z_any=>k_is)
   (case z_bool=>k_is)
   (case z_dict=>k_is)
   (case z_enumerate=>k_is)
   (case z_int=>k_is)
   (case z_isinstance=>k_is)
   (case z_len=>k_is)
   (case z_list=>k_is)
   (case z_min=>k_is)
   (case z_range=>k_is)
   (case z_str=>k_is)
   (case z_sum=>k_is)
   (case z_tuple=>k_is)
   (case z_zip=>k_is)
   (case h_x_NoSwarm=>k_exc)
   (case h_m_NoSwarm_TooLong=>kts_exm)
   (case h_x_NoStand=>k_exc)
   (case h_m_NoStand_TooLong=>kts_exm)
   (case h_x_TooLong=>k_exc)
   (case h_m_TooLong_TooLong=>kts_exm)
   (case q0=>k_is)
   (case r0=>k_is)
   (case q1=>k_is)
   (case r1=>k_is)
   (case q2=>k_is)
   (case r2=>k_is)
   (case q3=>k_is)
   (case q4=>k_is)
   (case q5=>k_is)
   (case q6=>k_is)
   (case q7=>k_is)
   (case q8=>k_is)
   (case q9=>k_is)
   (case r9=>k_is)
#print axioms PySem.Challenge.cw_glowflock_k36_whole_moved_alike_holds
