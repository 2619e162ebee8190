import PyProof.Rows.All
import Wide.All
import OpenK.AllK
import Wide.FinOn
import Lean
import PyProof.EqAt
import PyProof.EqKinds
import PyProof.TupleCall
import PyProof.P3In
import PyProof.ReprRoads
import PyProof.MaxThree
import PyProof.Rows.SetFrom
import PyProof.SetRoads
import PyProof.AttrMissHeap
import KE.KDictOf
import PyProof.Walks
import KE.KItemsList
import PyProof.ReprLen
import PyProof.ReprRoads
import PyProof.DictValues
import PyProof.DictWalks
import PyProof.CallStr
import PyProof.StrCalls2
import PyProof.StrLawsJoin
import PyProof.ReprLen
import PyProof.ReprRoads
import PyProof.StrLawsTight
import PyProof.StrLawsJoin
import PyProof.StrCalls3
import PyProof.StrLoop
import PyProof.StrWalks
import PyProof.FString
import PyProof.Conv_int
import PyProof.Rows.StrLawsPart
import PyProof.Rows.StrFirst
import PyProof.StrCalls5
import PyProof.StrCalls
import PyProof.SliceStr2
import PyProof.StrLawsIdx
import PyProof.ReprLen
import PyProof.ReprRoads
import PyProof.StrBlock2
import PyProof.StrCalls6
import PyProof.StrCalls
import KE.KRevSl
import PyProof.Rows.CountFlat
import PySem.Challenge.RW_glowflock_k33_no_papers
set_option compiler.extract_closed false
set_option Elab.async false
set_option linter.all false
set_option maxRecDepth 100000
open Array renaming append_assoc->xH,forIn_toList->qy,getElem?_eq_none->Q7,getElem?_eq_some_iff->WC,length_toList->WX,toList->ud
open Bool renaming and_eq_true->wT,and_eq_true_iff->xj,and_false->Wm,and_true->xu,beq_eq_decide_eq->qN,eq_false_iff->Xf,eq_iff_iff->vE,false_and->vO,false_eq_true->Wq,false_ne_true->vk,not_eq_true->Xy,not_eq_true'->WQ,not_false->xa,not_true->qc,true_and->qf
open Classical renaming not_not->Vl
open False renaming elim->WB
open Int renaming dvd_mul_left->Xr,dvd_mul_right->Vj,dvd_trans->qb,ediv_eq_of_eq_mul_right->Qe,ediv_le_self->Xs,ediv_mul_le->XX,emod_lt_of_pos->qz,emod_nonneg->qR,fdiv_eq_ediv_of_nonneg->Ve,gcd->vj,gcd_comm->xJ,gcd_dvd_left->V7,gcd_dvd_right->qD,gcd_pos_of_ne_zero_right->VX,gcd_zero_right->xQ,mul_assoc->VI,mul_ediv_cancel_left->Vw,mul_le_mul_of_nonneg_right->Wu,mul_ne_zero->QM,mul_neg->Xi,mul_nonneg->X3,mul_one->QU,mul_pos->vK,natAbs_ediv_le_natAbs->Qu,natAbs_mul->Q8,natCast_ediv->Vx,natCast_mul->Va,neg_dvd->Xh,neg_one_mul->XH,one_mul->QX,pow_add->Xm,pow_ne_zero->VM,pow_pos->Xk,pow_succ->Vy,pow_zero->qS,sign_eq_neg_one_of_neg->Ql,sign_eq_one_of_pos->QW,toNat->QN,toNat_natCast->wS,zero_sub->xS
open List renaming Pairwise->xt,all_append->QR,all_cons->Qj,all_eq_true->vZ,all_map->qP,any_cons->Qk,any_eq_true->XB,append_assoc->WP,append_nil->vW,concat_eq_append->xi,cons_append->Xq,dropLast_concat_getLast->qZ,dropLast_eq_take->xb,drop_eq_getElem_cons->Vo,drop_eq_nil_of_le->Q1,drop_succ_cons->qV,drop_zero->xc,eq_nil_of_length_eq_zero->WU,eq_nil_or_concat->xh,ext_getElem->VA,filterMap_cons->qU,filter_append->WL,filter_congr->vH,filter_cons->WF,filter_eq_nil_iff->Q2,filter_filter->qw,find?_cons->XT,find?_some->XU,flatten_cons->Vh,foldl->XE,foldl_append->xX,forIn_cons->qj,forIn_nil->Qb,getD_eq_getElem?_getD->wb,getElem?_append_left->vR,getElem?_append_right->vf,getElem?_drop->xL,getElem?_eq_getElem->wc,getElem?_eq_none->wE,getElem?_eq_some_iff->wZ,getElem?_map->wo,getElem?_range->vY,getElem?_replicate->QF,getElem?_set->Vi,getElem?_set_ne->xk,getElem?_set_self->QT,getElem?_tail->xR,getElem?_toArray->xf,getElem_drop->xZ,getElem_map->VB,getElem_mem->vT,getElem_of_mem->wY,getElem_take->xY,length->Xg,length_append->wy,length_cons->vn,length_drop->ve,length_dropLast->xr,length_eq_zero_iff->WW,length_filter_le->Wv,length_map->wl,length_nil->QQ,length_pos_iff->VF,length_pos_of_mem->Q3,length_range->vD,length_replicate->Wl,length_set->W9,length_singleton->wL,length_tail->Vz,length_take->vG,length_zipWith->xx,lookup_cons->V9,map_append->vF,map_congr_left->xw,map_cons->w5,map_drop->X7,map_dropLast->Qs,map_map->qu,map_nil->Qx,map_replicate->xT,map_take->X8,mem_append->vb,mem_append_left->WO,mem_append_right->vI,mem_cons->wH,mem_cons_of_mem->wu,mem_cons_self->wB,mem_filter->w6,mem_filterMap->Qc,mem_iff_getElem->xo,mem_map->wP,mem_of_find?_eq_some->Qw,mem_of_getElem?->V6,mem_of_mem_drop->Vr,mem_of_mem_take->Vq,mem_or_eq_of_mem_set->Qv,mem_range->wG,mem_singleton->wI,nil_append->qO,nodup_cons->VL,nodup_range->WZ,not_mem_nil->W1,of_mem_zip->QK,pairwise_append->V8,pairwise_cons->WK,pairwise_iff_getElem->Wj,pairwise_map->Qp,pairwise_singleton->QG,range->wp,range_succ->qQ,replicate->w8,replicate_succ->VE,set_cons_succ->xO,set_cons_zero->xP,size_toArray->wF,sum_cons->WT,tail_cons->X0,take_add_one->qE,take_length->Wi,take_of_length_le->Wy,take_sublist->xU,take_subset->Xu,take_succ_cons->xA,take_zero->xg,zipIdx_cons->XA,zipIdx_nil->XQ
open List.Pairwise renaming drop->uo
open List.cons renaming inj->Qm
open Nat renaming add_assoc->VH,add_le_add_left->xC,add_sub_cancel->qr,gcd_dvd_right->xW,le_add_right->W2,le_max_left->XI,le_max_right->Xp,le_of_dvd->X9,le_of_lt->WN,le_refl->wn,le_trans->Wg,lt_irrefl->WR,lt_of_le_of_lt->WH,lt_of_lt_of_le->wV,lt_or_ge->wD,lt_succ_of_lt->qG,lt_trichotomy->qF,lt_two_pow_self->xD,min_eq_left->XR,min_le_right->Xn,mod_eq_of_lt->Xv,mod_lt->XN,mul_le_mul->V4,mul_le_mul_left->qW,mul_le_mul_right->Wc,mul_succ->qq,ne_of_gt->vc,ne_of_lt->wO,pow_add->Xj,pow_succ->xK,sub_self->W7,succ_mul->qp,succ_ne_self->Xz,two_pow_pos->We,zero_le->Vs,zero_mul->QD
open Nat.succ renaming inj->QE
open Ne renaming symm->Wr
open Option renaming getD_none->Xo,getD_some->QC,map_eq_some_iff->W5,map_some->XO
open Option.some renaming inj->wW,injEq->Qq
open Prod renaming ext->VP,fst->ub,snd->uc
open PyProof.Rows renaming callWith_type1->vg,slot_tuple_getitem->VG
open PyProof.Rows.IsTup renaming new->qM
open PySem renaming Addr->wf,FuncData->wx,Heap->wJ,IsPair->Wo,NameKind->WG,Program->wK,PyData->ui,Stmt->wU,Value->qK,World->wQ,binaryOp->Wd,bootBuiltins->vJ,call->XG,letOwnedTupleGo->ql,mainGlobals->wM,mem_of_lookup->WY,rawInt->Vm,sizeLine->wX,sizeLine_eq->Wp,sliceBounds->qg,starEach->wR,sysModules->qa,wpAny->wq,wpAny_Call_Name_kw->VO,wpAny_attempt->Vg,wpAny_bind->wg,wpAny_call_entry->Wa,wpAny_execs_nil->qk,wpAny_field->vi,wpAny_holding->WD,wpAny_isInstance->W3,wpAny_mono->Ws,wpAny_newObj_type->Wt,wpAny_passesOwn->Vd,wpAny_pure->wt,wpAny_pyIter_list->VS,wpAny_pyIter_tuple->W8,wpAny_seqItems->Wn,wpAny_setField_rec->WM,wpAny_truthy_bool->Wb
open PySem.Around renaming under->ue,under_plainId->xq
open PySem.Builtin.Dict renaming pairItems->Q6,updateFrom->QJ
open PySem.Builtin.Int renaming intBits->xy
open PySem.Builtin.List renaming listTooLong->qo
open PySem.Builtin.Range renaming rangeSize->uj
open PySem.Builtin.Slice renaming sliceAdjust->qh,sliceApplied->Qh,sliceFields->ua,slicePartIndex->XY,slicePlaces->Vn
open PySem.Builtin.SmallTypes renaming nextOf->vC,ownedTupleHandOut->qx,ownedTupleIsFree->vA
open PySem.Builtin.Tuple renaming tupleExact->Vv,tupleHashOf->vS,tupleItemsOf->Qi
open PySem.Calls renaming Name_function_global->Qg,evalArgs_plain->xm,spliced_cons->Qd,spliced_nil->Qo
open PySem.Challenge renaming pw_glowflock_k33_no_papers->VT,rw_glowflock_k33_no_papers->wz
open PySem.Code renaming isGuard->uf
open PySem.EntryCells renaming newEntry->xz
open PySem.F renaming args_enumerate_next_1->QI,args_tuple_add_2->qm,args_tuple_iterator_next_1->Qa,args_zip_next_1->Vk,entry_enumerate_next->Q5,entry_tuple_add->qC,entry_tuple_iterator_next->Qf,entry_zip_next->VD,excBase_ValueError->xp,plainAttrs_list->vP,slot_enumerate_next->V2,slot_int_rmul->XF,slot_list_append->vM,slot_tuple_add->qI,slot_tuple_eq->QP,slot_tuple_hash->qH,slot_tuple_iterator_next->Vf,slot_zip_getattribute->VR,slot_zip_next->Wh,type_list_append->vN
open PySem.Heap renaming IsTuple->xN,MadeExcOf->X1,SameBut->vB,get?_push_ne->Qr,get?_push_of_some->wm,get?_push_size->wN,get?_update_other->qJ,get?_update_self->VW,lt_size->wA,size_push->VZ,update->Q4
open PySem.Heap.IsSliceOf renaming new->um
open PySem.Heap.SameBut renaming update->xB
open PySem.IntMulOk renaming of_left->XC,of_right->Xd
open PySem.IsRange renaming new->uk
open PySem.Obj renaming cls_mapFields->Xc,data_mapFields->VN,isFreed_of_fields->V0,mapFields->qL,mapSeq->Qt
open PySem.Paired renaming length->X4
open PySem.PassesOwn renaming leaving->Xe,never->vd
open PySem.PyData renaming canLay0->vX,canLayAll0->Wk,depth->VC,depthAll->Ww,eqv->vy,eqvAll->qd,strOk->V1
open PySem.SeqAt renaming canLay_of_shaped->W0,shaped->vV
open PySem.SeqAt.EqAt renaming int_int->ug,int_str->xE,same->V5,str_int->xF,str_str->uh
open PySem.Shared renaming heap->Xl
open PySem.Str renaming ofString->vQ,ofString->wC
open PySem.W renaming Frag->wa,OpenLaw->QL,WalkO->X5,callWith_K->xI,cellsFrom_some->QV,codeIn->qX,excIn->VJ,exmOne->V3,fnOf->Vu,hideAll->XD,hideAll_get->xv,keepIn->VU,kia_one->Vb,kia_tup->Vc,kitAny->X2,kitOne->Vt,kitx_bool->x6,kitx_dict->Xb,kitx_int->Xw,kitx_list->Xa,kitx_none->x5,kitx_str->Xx,kitx_tuple->xM,methodObj->Qn,mg_none_of->vv,mg_of->Wf,nsIn->w9,of_hideAll->xG
open PySem.W.Looks renaming ld->ur
open PySem.Walks renaming list->XS
open Rat renaming den_divInt->XZ,den_intCast->XW,divInt->wr,divInt_mul_divInt->Q9,divInt_nonneg->xV,divInt_ofNat->Qy,div_def->QY,div_mul_cancel->WJ,intCast_add->qi,intCast_eq_zero_iff->WV,intCast_le_intCast->W6,intCast_lt_intCast->Q0,intCast_mul->vL,intCast_pos->XM,le_iff->xn,le_of_lt->vU,le_refl->Wz,le_trans->Qz,lt_of_le_of_ne->qt,mul_assoc->X6,mul_comm->qA,mul_eq_zero->XJ,mul_le_mul_of_nonneg_right->qT,mul_nonneg->qY,mul_pos->VQ,not_lt->Vp,num_divInt_den->WI,num_intCast->XV,num_nonneg->qB,one_mul->QZ,pow_succ->Wx,pow_zero->VY
namespace GH
open PySem PySem.W PyProof.Rows
noncomputable def zY (p:wK) (w:wQ) (m:Nat) (an:Option Value) (N:Nat) (s0:Shared):Option Shared :=
 Option.bind (Fast.tw14082659384304107361 Fast.tw14364793385576792824 p w m an N s0 (topStub p)) λs1=>match staticsOk (Fast.tw5923862056798008813 p.main.body) s0.heap s1.heap&&namesBound p s1.heap&&gensDone s1&&laidKept s0.heap s1.heap with | true=>some s1 | false=>none
noncomputable def gT (w:wQ) (os:OsState):Shared:=⟨boot_heap w.params,#[],boot_drawn,boot_toks,os⟩
theorem Zq{p q:wK}{loose:List Str}{Xt:Shared->Bool}{A:Type}{Yf:Shared->A}{Ya:wQ->A}{N:Nat}(e:opening p=plainProg p.main.scope.names)(hN:Nat.ble 600 N=true)(f:∀s,fenceModules? p s=some s){m:Nat}{an:Option Value}
  (size:∀w:wQ,((boot_heap w.params).isNs wM,(boot_heap w.params).objs.size,(boot_heap w.params).nsMap wM "__annotations__")=(true,m,an))
  (h:∀w:wQ,(λos=>(zY p w m an N (gT w os)).map (λs=>(Fast.tw4187177175401517315 q loose (Fast.tw5923862056798008813 p.main.body) Xt true s,Yf s)))=λ_=>some (openGood q loose,Ya w)):LeftO p q loose Xt Yf Ya N:=λw=>by
 obtain⟨⟨h',gs,d,k,os⟩,e',e2⟩:=W5.mp (boot_open e hN f (w:=w));obtain⟨rfl,rfl,rfl,rfl⟩:h'=boot_heap w.params/\gs = #[]/\d=boot_drawn/\k=boot_toks:=by simpa using e2
 obtain⟨z1,z2,z3⟩:_/\_/\_:=by simpa only[Prod.mk.injEq] using size w
 have r:=congrFun (h w) os;unfold openEnds;rw[e']
 show Option.map _ (topFrom treeTable p w N _)=_
 rw[<- r];unfold topFrom zY gT;rw[<- Fast.te14082659384304107361,<- Fast.te14364793385576792824,<- Fast.te5923862056798008813,<- Fast.te4187177175401517315];dsimp only;rw[z1,z2,z3]
 rfl
noncomputable def kj (p:wK) (w:wQ) (m:Nat) (an:Option Value) (N:Nat) (s0:Shared):Option Shared:=Fast.tw14082659384304107361 Fast.tw14364793385576792824 p w m an N s0 (topStub p)
noncomputable def Ax (p:wK) (w:wQ) (os:OsState) (s1:Shared):Bool:=staticsOk (Fast.tw5923862056798008813 p.main.body) (gT w os).heap s1.heap&&namesBound p s1.heap&&gensDone s1&&laidKept (gT w os).heap s1.heap
theorem YK{p q:wK}{loose:List Str}{Xt:Shared->Bool}{A:Type}{Yf:Shared->A}{Ya:wQ->A}{N:Nat}(e:opening p=plainProg p.main.scope.names)(hN:Nat.ble 600 N=true)(f:∀s,fenceModules? p s=some s){m:Nat}{an:Option Value}
  (size:∀w:wQ,((boot_heap w.params).isNs wM,(boot_heap w.params).objs.size,(boot_heap w.params).nsMap wM "__annotations__")=(true,m,an)) (hp:drecsOf q=[]) (he:plainsOf q (looseW q loose)=[]) (hd:dclssOf q loose=[])
  (hB0:∀w:wQ,(λos=>(kj p w m an N (gT w os)).map (λs=>(Ax p w os s,(Fast.tw4187177175401517315 q loose (Fast.tw5923862056798008813 p.main.body) Xt true s).2.2.2.1)))=λ_=>some (true,true))
  (hB1:∀w:wQ,(λos=>(kj p w m an N (gT w os)).map (λs=>((Fast.tw4187177175401517315 q loose (Fast.tw5923862056798008813 p.main.body) Xt true s).1,(Fast.tw4187177175401517315 q loose (Fast.tw5923862056798008813 p.main.body) Xt true s).2.1)))=λ_=>some (expectedOf q,bltViewBooted))
  (hB2:∀w:wQ,(λos=>(kj p w m an N (gT w os)).map (λs=>(Fast.tw4187177175401517315 q loose (Fast.tw5923862056798008813 p.main.body) Xt true s).2.2.1))=λ_=>some true)
  (hB3:∀w:wQ,(λos=>(kj p w m an N (gT w os)).map (λs=>(Fast.tw4187177175401517315 q loose (Fast.tw5923862056798008813 p.main.body) Xt true s).2.2.2.2.2.2.2))=λ_=>some (wideGood q,clsGoodW q loose))
  (hC:∀w:wQ,(λos=>(kj p w m an N (gT w os)).map (λs=>Yf s))=λ_=>some (Ya w)):LeftO p q loose Xt Yf Ya N:=by
 refine Zq e hN f size λw=>?_
 funext os
 have h1:=congrFun (hB0 w) os;obtain⟨s1,e1,e2⟩:=W5.mp h1;have g1:=congrFun (hB1 w) os;have g2:=congrFun (hB2 w) os;have g3:=congrFun (hB3 w) os;have k:=congrFun (hC w) os;rw[e1]at g1 g2 g3 k;have g1:=wW g1;have g2:=wW g2;have g3:=wW g3;have a0:=congrArg ub e2;have b0:=congrArg uc e2;have a1:=congrArg ub g1;have b1:=congrArg uc g1
 have gp:(Fast.tw4187177175401517315 q loose (Fast.tw5923862056798008813 p.main.body) Xt true s1).2.2.2.2.1=pinGoodD (drecsOf q):=by
  rw[<- Fast.te4187177175401517315]
  show pinSeenD q (drecsOf q) s1=_
  rw[hp]
  rfl
 have ge:(Fast.tw4187177175401517315 q loose (Fast.tw5923862056798008813 p.main.body) Xt true s1).2.2.2.2.2.1=plainGoodE q (looseW q loose):=by
  rw[<- Fast.te4187177175401517315]
  show plainSeenE q (looseW q loose) s1=_
  unfold plainSeenE plainGoodE;rw[he]
  rfl
 have gd:(Fast.tw4187177175401517315 q loose (Fast.tw5923862056798008813 p.main.body) Xt true s1).2.2.2.2.2.2.1=plainGoodD q loose:=by
  rw[<- Fast.te4187177175401517315]
  show plainSeenD q loose s1=_
  unfold plainSeenD plainGoodD;rw[hd]
  rfl
 have g:Fast.tw4187177175401517315 q loose (Fast.tw5923862056798008813 p.main.body) Xt true s1=openGood q loose:=VP a1 (VP b1 (VP g2 (VP b0 (VP gp (VP ge (VP gd g3))))));have k:=wW k
 have ez:zY p w m an N (gT w os)=some s1:=by
  unfold zY;unfold kj at e1;rw[e1]
  show(match Ax p w os s1 with | true=>some s1 | false=>none)=some s1
  rw[show Ax p w os s1=true from a0]
 rw[ez];exact congrArg some (VP g k)
def qv:wK:=view VT [1,2,3,4,5,6,8,9,10,11,12,13,14,15,16,17,18,20,21,22,23,24,25,26,27,28,29,31,32,33,34,35,36,37,38,39,40,42,43,45,46,47,48,49,50,51,52,53,55,56,57,58,59,60,61,62,63,64,66,67,68,69,70,71,72,73,74,75,76,77,78,79,80,82,83,84,85,86,87,88,89,90,91,92,93,94,95,96,97,98,99,100,101,102,103,104]
theorem N6{a b:Bool}(h:a=true)(k:b=true):(a&&b)=true:=by rw[h,k];rfl
set_option maxHeartbeats 0 in
theorem KR:wz.wellSaid=true:=by
 unfold OpenLaw.wellSaid OpenRow.wellSaid OpenRow.partSaid looksOpen
 repeat' with_reducible refine N6 ?_ ?_
 all_goals decide +kernel
theorem size(w:wQ):((boot_heap w.params).isNs wM,(boot_heap w.params).objs.size,(boot_heap w.params).nsMap wM "__annotations__")=(true,11,some (.ref 6)):=by kernel_rfl
theorem no1:drecsOf qv=[]:=by kernel_rfl
theorem no2:plainsOf qv (looseW qv [])=[]:=by kernel_rfl
theorem tD:dclssOf qv []=[]:=by kernel_rfl
theorem Zb(w:wQ):(λos=>(kj wz.row.prog w 11 (some (.ref 6)) 7778 (gT w os)).map (λs=>(Ax wz.row.prog w os s,(Fast.tw4187177175401517315 qv [] (Fast.tw5923862056798008813 wz.row.prog.main.body) (λs=>xlAt GH.qv [] s&&recOk (RowW.records (OpenRow.toRowW (OpenLaw.row wz))) s) true s).2.2.2.1)))=λ_=>some (true,true):=by kernel_rfl
theorem YZ(w:wQ):(λos=>(kj wz.row.prog w 11 (some (.ref 6)) 7778 (gT w os)).map (λs=>((Fast.tw4187177175401517315 qv [] (Fast.tw5923862056798008813 wz.row.prog.main.body) (λs=>xlAt GH.qv [] s&&recOk (RowW.records (OpenRow.toRowW (OpenLaw.row wz))) s) true s).1,(Fast.tw4187177175401517315 qv [] (Fast.tw5923862056798008813 wz.row.prog.main.body) (λs=>xlAt GH.qv [] s&&recOk (RowW.records (OpenRow.toRowW (OpenLaw.row wz))) s) true s).2.1)))=λ_=>some (expectedOf qv,bltViewBooted):=by kernel_rfl
theorem Y9(w:wQ):(λos=>(kj wz.row.prog w 11 (some (.ref 6)) 7778 (gT w os)).map (λs=>(Fast.tw4187177175401517315 qv [] (Fast.tw5923862056798008813 wz.row.prog.main.body) (λs=>xlAt GH.qv [] s&&recOk (RowW.records (OpenRow.toRowW (OpenLaw.row wz))) s) true s).2.2.1))=λ_=>some true:=by kernel_rfl
theorem Zc(w:wQ):(λos=>(kj wz.row.prog w 11 (some (.ref 6)) 7778 (gT w os)).map (λs=>(Fast.tw4187177175401517315 qv [] (Fast.tw5923862056798008813 wz.row.prog.main.body) (λs=>xlAt GH.qv [] s&&recOk (RowW.records (OpenRow.toRowW (OpenLaw.row wz))) s) true s).2.2.2.2.2.2.2))=λ_=>some (wideGood qv,clsGoodW qv []):=by kernel_rfl
local macro_rules | `(tactic| o_head $H)=>`(tactic| (refine holds_open (q:=GH.qv) (loose:=[]) (Xt:=λ s=>xlAt GH.qv [] s && recOk (RowW.records (OpenRow.toRowW (OpenLaw.row wz))) s) (XP:=XL GH.qv []) (Yf:=Hook.obs $H) (Ya:=Hook.val $H) (YP:=Hook.says $H) (N:=7778) ?hl (Hook.of $H) (Hook.keeps $H) (λ s e=>xl_of s (xj.mp e).1) XL.keeps (by rfl) (by rfl) (by rfl) (λ s e=>recFacts_of (xj.mp e).2) (by rfl) (by first | assumption | decide +kernel) (by decide +kernel) ⟨rfl,rfl,rfl,rfl,rfl,by decide +kernel⟩ ?hw ?hc; (case hl=>refine GH.YK (by kernel_rfl) rfl (λ s=>by kernel_rfl) GH.size GH.no1 GH.no2 GH.tD GH.Zb GH.YZ GH.Y9 GH.Zc ?_; intro w; kernel_rfl)))
local macro_rules | `(tactic| o_law)=>`(tactic| refine holds_law GH.KR λ KR=>?_)
set_option maxHeartbeats 0
open_top head for wz
end GH
set_option maxHeartbeats 4000000
namespace L2
open PySem PySem.Spec PyProof.Rows
variable{H:Hp}{a b:wf}{o:HO}
abbrev Key:=Sum Int Str
def Rw:Key->Value->Bool
 | .inl k,v=>Value.isInt k v
 | .inr x,v=>Value.isStrOf x v
def zEu(w:wQ):Key->Int
 | .inl k=>hashInt k
 | .inr x=>hashStr w x
theorem kI :∀{k:Key}{v:Value},Rw k v=true->(∃i t,k=Sum.inl i/\v=Value.int i t)\/(∃x t,k=Sum.inr x/\v=Value.str x t)
 | .inl i,v,h=>by
  obtain⟨t,e⟩:=Value.isInt_shape (k:=i) (v:=v) h;exact .inl ⟨i,t,rfl,e⟩
 | .inr x,v,h=>by
  obtain⟨t,e⟩:=Value.isStrOf_shape (x:=x) (v:=v) h;exact .inr ⟨x,t,rfl,e⟩
theorem zC2(a b:Int):decide ((Sum.inl a:Key)=Sum.inl b)=(a == b):=by
 by_cases e:a=b
 ·subst e;simp
 ·have h:¬ (Sum.inl a:Key)=Sum.inl b:=λq=>e (Sum.inl.inj q)
  rw[decide_eq_false h];exact(beq_eq_false_iff_ne.mpr e).symm
theorem zCX(a b:Str):decide ((Sum.inr a:Key)=Sum.inr b)=decide (a=b):=by
 by_cases e:a=b
 ·subst e;simp
 ·have h:¬ (Sum.inr a:Key)=Sum.inr b:=λq=>e (Sum.inr.inj q)
  rw[decide_eq_false h,decide_eq_false e]
theorem zDn(a:Int)(b:Str):decide ((Sum.inl a:Key)=Sum.inr b)=false:=decide_eq_false (λq=>nomatch q)
theorem zDs(a:Str)(b:Int):decide ((Sum.inr a:Key)=Sum.inl b)=false:=decide_eq_false (λq=>nomatch q)
def FJ(prog:wK)(w:wQ):PySem.KeyKind prog w Key where
 is:=Rw
 hash:=zEu w
 inj:=λv a b ha hb=>by
  rcases kI ha with⟨i,t,rfl,rfl⟩ | ⟨x,t,rfl,rfl⟩
  ·rcases kI hb with⟨j,u,rfl,e⟩ | ⟨y,u,rfl,e⟩
   ·injection e with e1 _;rw[e1]
   ·exact nomatch e
  ·rcases kI hb with⟨j,u,rfl,e⟩ | ⟨y,u,rfl,e⟩
   ·exact nomatch e
   ·injection e with e1 _;rw[e1]
 byValue:=λk v h=>by
  rcases kI h with⟨i,t,rfl,rfl⟩ | ⟨x,t,rfl,rfl⟩<;>rfl
 pyHash:=λhv h=>by
  rcases kI hv with⟨i,t,rfl,rfl⟩ | ⟨x,t,rfl,rfl⟩
  ·exact wpAny_pyHash_int h
  ·exact wpAny_pyHash_str h
 eqBool:=λhu hv h=>by
  rcases kI hu with⟨i,t,rfl,rfl⟩ | ⟨x,t,rfl,rfl⟩
  ·rcases kI hv with⟨j,u,rfl,rfl⟩ | ⟨y,u,rfl,rfl⟩
   ·rw[zC2]at h;exact wpAny_eqBool_int h
   ·rw[zDn]at h;exact xE i t y u _ _ _ _ h
  ·rcases kI hv with⟨j,u,rfl,rfl⟩ | ⟨y,u,rfl,rfl⟩
   ·rw[zDs]at h;exact xF x t j u _ _ _ _ h
   ·rw[zCX]at h;exact wpAny_eqBool_str h
 «strs»:=λk x t v h=>by
  rcases kI h with⟨i,u,rfl,e⟩ | ⟨y,u,rfl,e⟩
  ·exact nomatch e
  ·injection e with e1 _
   subst e1;cases v<;>rfl
inductive V where
 | bG | bl (b:Bool) | int (i:Int) | str (x:Str) | byt (b:Array UInt8) | flt (b:UInt64) | ref (a:wf) | ty (n:String)
 deriving DecidableEq
def bK:V->Value->Prop
 | .bG,u=>u=Value.none
 | .bl b,u=>u=Value.bool b
 | .int i,u=>∃t,u=Value.int i t
 | .str x,u=>∃t,u=Value.str x t
 | .byt b,u=>∃t,u=Value.bytes b t
 | .flt b,u=>∃t,u=Value.float b t
 | .ref a,u=>u=Value.ref a
 | .ty n,u=>u=Value.type n
abbrev aW:List V->List Value->Prop:=Paired bK
theorem aW.length{xs:List V}{us:List Value}(r:aW xs us):xs.length=us.length:=X4 r
theorem aW.get:∀{xs:List V}{us:List Value}{i:Nat}{x:V},aW xs us->xs[i]? = some x->∃u,us[i]? = some u/\bK x u
 | _,_,_,_,.nil,e=>by simp at e
 | _,_,0,_,.cons r _,e=>by simp at e;subst e;exact⟨_,rfl,r⟩
 | _,_,i+1,x,.cons _ t,e=>by
  obtain⟨u,h1,h2⟩:=aW.get (i:=i) (x:=x) t (by simpa using e);exact⟨u,by simpa using h1,h2⟩
theorem aW.set{x:V}{u:Value}(r:bK x u):∀{xs:List V}{us:List Value}(i:Nat),aW xs us->aW (xs.set i x) (us.set i u)
 | _,_,_,.nil=>.nil
 | _,_,0,.cons _ t=>.cons r t
 | _,_,i+1,.cons q t=>.cons q (aW.set r i t)
theorem aW.append:∀{xs ys:List V}{us ws:List Value},aW xs us->aW ys ws->aW (xs++ys) (us++ws)
 | _,_,_,_,.nil,s=>s
 | _,_,_,_,.cons r t,s=>.cons r (aW.append t s)
theorem aW.take:∀{xs:List V}{us:List Value}(n:Nat),aW xs us->aW (xs.take n) (us.take n)
 | _,_,0,_=>.nil
 | _,_,_+1,.nil=>.nil
 | _,_,n+1,.cons r t=>.cons r (aW.take n t)
theorem aW.drop:∀{xs:List V}{us:List Value}(n:Nat),aW xs us->aW (xs.drop n) (us.drop n)
 | _,_,0,r=>r
 | _,_,_+1,.nil=>.nil
 | _,_,n+1,.cons _ t=>aW.drop n t
def Se:Option V->Option Value->Prop
 | some v,some u=>bK v u
 | none,none=>True
 | _,_=>False
def KV{κ : Type} : List (κ × V)->List (κ × Value)->Prop:=Paired λ(p : κ × V)(q : κ × Value)=>p.1=q.1/\bK p.2 q.2
def kV:Key->V
 | .inl i=>.int i
 | .inr x=>.str x
inductive HO where
 | lst (xs:List V)
 | tup (xs:List V)
 | dK (kvs:List (Key × V)) | dT (kvs:List (List Key × V))
 | set (S:Int->Bool) (n:Nat)
 | ins (C dx:wf) (fs:List (Str × V))
 | own (x:wf)
 | xd (fs:List (Str × V))
 | met (f x:wf)
 | AI (lo hi:Int)
 | hZ (o:Obj) (u:HO)
 | lP (ps:Array Value)
 | ext (φ : wJ->Prop)
abbrev Hp:=wf->Option HO
def upd(H:Hp)(a:wf)(o:HO):Hp:=λb=>if b=a then some o else H b
theorem c6 : upd H a o a=some o:=by unfold upd;rw[if_pos rfl]
theorem eX(h:b≠a):upd H a o b=H b:=by unfold upd;rw[if_neg h]
theorem LP{u:HO}(h:H a=some o)(h':H b=some u)(d:o≠u):a≠b:=by
 intro e;subst e;rw[h]at h';exact d (wW h')
theorem kD(h:H a=some o)(h':H b=none):a≠b:=by
 intro e;subst e;rw[h]at h';cases h'
section
variable(P:wK)(w:wQ)
def d7(H:Hp)(h:wJ)(a:wf):HO->Prop
 | .lst xs=>xs.length<=wX /\ ∃(its:List Value)(n:Nat),aW xs its/\h.get? a=some {cls:=.type "list",data:=.seq its.toArray n}
 | .tup xs=>xs.length<=wX /\ ∃its:List Value,aW xs its/\IsTup h a its.toArray
 | .dK kvs=>kvs.length<=wX/\(a == qa)=false /\ ∃vs,KV kvs vs/\h.DictOf (FJ P w) a vs
 | .dT kvs=>kvs.length<=wX/\(a == qa)=false /\ ∃xs:List (List Key × wf × Value),
     Paired (λ(p:List Key × V)(q:List Key × wf × Value)=>p.1=q.1/\H q.2.1=some (.tup (p.1.map kV))/\bK p.2 q.2.2) kvs xs /\
     ∃o es ep,h.get? a=some o/\o.ExactDict/\o.data=.dict es ep/\es.toList=xs.map (entryOfKey (tupleKind (FJ P w)))/\(xs.map (·.1)).Nodup
 | .set S n=>h.SetOf (intKind P w) a S n
 | .ins C dx fs=>H dx=some (.own a)/\fs.length<=1000/\dx≠a/\h.get? a=some (PySem.W.instObj C dx) /\
     ∃mA,h.Ns1 dx mA/\(∀f,Se (fs.lookup f) (mA f))/\PySem.Within mA (fs.map (·.1))
 | .own _=>∃o,h.get? a=some o
 | .xd fs=>∃mA,h.Ns1 a mA /\ ∀f,Se (fs.lookup f) (mA f)
 | .AI lo hi=>∃t u v,h.get? a=some {cls:=.type "range",data:=.fields #[.int lo t,.int hi u,.int 1 v]}
 | .hZ o u=>h.get? a=some o/\d7 H h a u
 | .lP ps=>h.get? a=some {cls:=.none,data:=.fields ps}
 | .met f x=>h.get? a=some (Qn (.ref f) (.ref x))
 | .ext φ=>φ h/\(∃o,h.get? a=some o) /\ ∀h1 h2:wJ,φ h1->(∀o,h1.get? a=some o->h2.get? a=some o) -> φ h2
def dE(H:Hp)(h:wJ):Prop:=∀a o,H a=some o->d7 P w H h a o
end
section
variable{P:wK}{w:wQ}{H H':Hp}{h h':wJ}{a:wf}{o:HO}
theorem d7.lt(x:d7 P w H h a o):a<h.objs.size:=by
 cases o with
 | lst xs=>obtain⟨_,_,_,_,e⟩:=x;exact wA e
 | tup xs=>obtain⟨_,_,_,p⟩:=x;exact p.lt
 | dK kvs=>obtain⟨_,_,_,_,o,_,_,e,_⟩:=x;exact wA e
 | dT kvs=>obtain⟨_,_,_,_,o,_,_,e,_⟩:=x;exact wA e
 | set S n=>obtain⟨o,_,_,_,e,_⟩:=x;exact wA e
 | ins C dx fs=>obtain⟨_,_,_,e,_⟩:=x;exact wA e
 | own y=>obtain⟨_,e⟩:=x;exact wA e
 | xd fs=>obtain⟨_,⟨_,_,_,e,_⟩,_⟩:=x;exact wA e
 | AI lo hi=>obtain⟨_,_,_,e⟩:=x;exact wA e
 | hZ ob u=>obtain⟨e,_⟩:=x;exact wA e
 | lP ps=>exact wA (show h.get? a=some _ from x)
 | met f y=>exact wA (show h.get? a=some _ from x)
 | ext φ=>obtain⟨_,⟨_,e⟩,_⟩:=x;exact wA e
theorem Paired.K9{α β : Type}{F G : α -> β -> Prop} : ∀{l₁ : List α}{l₂ : List β},Paired F l₁ l₂ -> (∀a b,F a b->G a b)->Paired G l₁ l₂
 | _,_,.nil,_=>.nil
 | _,_,.cons r t,f=>.cons (f _ _ r) (Paired.K9 t f)
theorem d7.k_(x:d7 P w H h a o)(k:∀b u,(b=a\/H b=some (.own a))->h.get? b=some u->h'.get? b=some u)
  (ho:∀b,H b=some (.own a)->H' b=some (.own a)) (ht:∀b xs,H b=some (.tup xs)->H' b=some (.tup xs)):d7 P w H' h' a o:=by
 induction o with
 | lst xs=>obtain⟨z,its,n,r,e⟩:=x;exact⟨z,its,n,r,k _ _ (.inl rfl) e⟩
 | tup xs=>obtain⟨z,its,r,ob,e,c⟩:=x;exact⟨z,its,r,ob,k _ _ (.inl rfl) e,c⟩
 | dK kvs=>obtain⟨z,y,vs,r,ob,es,ep,e,c⟩:=x;exact⟨z,y,vs,r,ob,es,ep,k _ _ (.inl rfl) e,c⟩
 | dT kvs =>
  obtain⟨z,y,xs,r,ob,es,ep,e,c⟩:=x;exact⟨z,y,xs,Paired.K9 r λp q z=>⟨z.1,ht _ _ z.2.1,z.2.2⟩,ob,es,ep,k _ _ (.inl rfl) e,c⟩
 | set S n=>obtain⟨ob,es,ep,t,e,c⟩:=x;exact⟨ob,es,ep,t,k _ _ (.inl rfl) e,c⟩
 | ins C dx fs =>
  obtain⟨d,z,ne,e,mA,⟨od,es,ep,e2,c⟩,r⟩:=x;exact⟨ho _ d,z,ne,k _ _ (.inl rfl) e,mA,⟨od,es,ep,k _ _ (.inr d) e2,c⟩,r⟩
 | own y=>obtain⟨ob,e⟩:=x;exact⟨ob,k _ _ (.inl rfl) e⟩
 | xd fs=>obtain⟨mA,⟨od,es,ep,e,c⟩,r⟩:=x;exact⟨mA,⟨od,es,ep,k _ _ (.inl rfl) e,c⟩,r⟩
 | AI lo hi=>obtain⟨t,u,v,e⟩:=x;exact⟨t,u,v,k _ _ (.inl rfl) e⟩
 | hZ ob u ih=>obtain⟨e,q⟩:=x;exact⟨k _ _ (.inl rfl) e,ih q⟩
 | lP ps =>
  have e:h.get? a=some {cls:=.none,data:=.fields ps}:=x
  show h'.get? a=some {cls:=.none,data:=.fields ps}
  exact k a _ (.inl rfl) e
 | met f y =>
  have e:h.get? a=some (Qn (.ref f) (.ref y)):=x
  show h'.get? a=some (Qn (.ref f) (.ref y))
  exact k a _ (.inl rfl) e
 | ext φ=>obtain⟨p,⟨o,e⟩,st⟩:=x;exact⟨st _ _ p λo q=>k _ _ (.inl rfl) q,⟨o,k _ _ (.inl rfl) e⟩,st⟩
theorem dE.lt(x:dE P w H h)(e:H a=some o):a<h.objs.size:=(x a o e).lt
theorem dE.fresh(x:dE P w H h)(e:h.objs.size<=a):H a=none:=by
 cases q:H a with
 | none=>rfl
 | some u=>exact absurd (wV (x.lt q) e) (WR _)
theorem dE.kept(x:dE P w H h)(k:∀b u,h.get? b=some u->h'.get? b=some u):dE P w H h':=λa o e =>
 (x a o e).k_ (λb u _ q=>k b u q) (λ_ q=>q) λ_ _ q=>q
theorem dE.laid(x:dE P w H h)(k:∀b u,h.get? b=some u->h'.get? b=some u)(hp:h.objs.size<=a)(new:d7 P w (upd H a o) h' a o):dE P w (upd H a o) h':=λb u e=>by
 have hn:=x.fresh hp
 by_cases hb:b=a
 ·subst hb;rw[c6]at e;cases e;exact new
 ·rw[eX hb]at e
  exact(x b u e).k_ (λc v _ q=>k c v q) (λc q=>by rw[eX (kD q hn)];exact q) λc xs q=>by rw[eX (kD q hn)];exact q
end
def Rd(H:Hp)(a:wf)(u:HO):Prop:=H a=some u \/ ∃o,H a=some (.hZ o u)
theorem Rd.ok{P:wK}{w:wQ}{H:Hp}{h:wJ}{a:wf}{u:HO}(r:Rd H a u)(x:dE P w H h):d7 P w H h a u:=by
 rcases r with r | ⟨o,r⟩
 ·exact x a u r
 ·obtain⟨_,q⟩:=x a _ r
  exact q
def ya:Option HO->Prop
 | some (.lst _)=>True
 | some (.dK _)=>True
 | some (.dT _)=>True
 | some (.set _ _)=>True
 | some (.ins _ _ _)=>True
 | some (.ext _)=>True
 | _=>False
section
variable{P:wK}{w:wQ}{H:Hp}{h h':wJ}{x e:wf}{o':HO}
theorem dE.write(ok:dE P w H h)(mu:ya (H x))(he:e=x\/H e=some (.own x))(k:∀b u,b≠e->h.get? b=some u->h'.get? b=some u)(heo:∃u,h'.get? e=some u)
  (new:d7 P w (upd H x o') h' x o'):dE P w (upd H x o') h':=λb u q=>by
 have nown:∀c y,H c=some (.own y)->c≠x:=λc y r z=>by subst z;rw[r]at mu;exact mu
 have ntup:∀c xs,H c=some (.tup xs)->c≠x:=λc xs r z=>by subst z;rw[r]at mu;exact mu
 by_cases hb:b=x
 ·subst hb;rw[c6]at q;cases q;exact new
 ·rw[eX hb]at q
  by_cases hbe:b=e
  ·have q':H b=some (.own x):=by
    rcases he with z | z
    ·exact absurd (hbe.trans z) hb
    ·rw[hbe];exact z
   rw[q]at q';cases q';obtain⟨v,hv⟩:=heo;exact⟨v,by rw[hbe];exact hv⟩
  ·refine(ok b u q).k_ (λc v hc r=>k c v ?_ r) (λc r=>by rw[eX (nown c b r)];exact r) λc xs r=>by rw[eX (ntup c xs r)];exact r
   rcases hc with rfl | hc
   ·exact hbe
   ·rintro rfl
    rcases he with z | z
    ·exact nown c b hc z
    ·rw[hc]at z;cases z;exact hb rfl
end
structure Un(fs ex:List wf)(H H':Hp)(h h':wJ):Prop where
 keep:∀b o,h.get? b=some o->H b=none->b ∉ fs->b ∉ ex->h'.get? b=some o
 slot:∀b o,h.get? b=some o->H b=none->b∈fs->b ∉ ex->∃sl,h'.get? b=some {o with slots:=sl}
 free:∀b o,h.get? b=some o->H b=none->b ∉ ex->H' b=none
 there:∀b o,h.get? b=some o->b ∉ ex->∃o',h'.get? b=some o'
 ji:∀b xs,H b=some (.tup xs)->H' b=some (.tup xs)
 iJ:∀b o u,H b=some (.hZ o u)->H' b=some (.hZ o u)
 jg:∀b ps,H b=some (.lP ps)->∃more,H' b=some (.lP (ps++more))
section
variable{fs fs' ex ex':List wf}{H H1 H2:Hp}{h h1 h2 h':wJ}{a x e:wf}{o:HO}
theorem Un.any(u:Un fs ex H H1 h h1){b:wf}{ob:Obj}(q:h.get? b=some ob)(n:H b=none)(hx:b ∉ ex):∃sl,h1.get? b=some {ob with slots:=sl}:=by
 by_cases hb:b∈fs
 ·exact u.slot b ob q n hb hx
 ·exact⟨ob.slots,u.keep b ob q n hb hx⟩
theorem Un.kept(k:∀b u,h.get? b=some u->h'.get? b=some u):Un fs ex H H h h' :=
 ⟨λb ob q _ _ _=>k b ob q,λb ob q _ _ _=>⟨ob.slots,k b ob q⟩,λ_ _ _ n _=>n,λb ob q _=>⟨ob,k b ob q⟩,λ_ _ q=>q,λ_ _ _ q=>q,λ_ ps q=>⟨#[],by rw[q];simp⟩⟩
theorem Un.refl:Un fs ex H H h h:=Un.kept λ_ _ q=>q
theorem Un.laid(k:∀b u,h.get? b=some u->h'.get? b=some u)(hp:h.objs.size<=a)(hn:H a=none):Un fs ex H (upd H a o) h h' where
 keep:=λb u q _ _ _=>k b u q
 slot:=λb u q _ _ _=>⟨u.slots,k b u q⟩
 free:=λb u q n _=>by rw[eX (wO (wV (wA q) hp))];exact n
 there:=λb u q _=>⟨u,k b u q⟩
 ji:=λb xs q=>by rw[eX (kD q hn)];exact q
 iJ:=λb u xs q=>by rw[eX (kD q hn)];exact q
 jg:=λb ps q=>⟨#[],by rw[eX (kD q hn),q];simp⟩
theorem Un.write(mu:ya (H x))(he:e=x\/H e=some (.own x))(k:∀b u,b≠e->h.get? b=some u->h'.get? b=some u)(heo:∃u,h'.get? e=some u):Un fs ex H (upd H x o) h h':=by
 have hx:∀b,H b=none->b≠x:=λb n z=>by subst z;rw[n]at mu;exact mu
 have hb:∀b,H b=none->b≠e:=λb n z=>by
  subst z;rcases he with r | r
  ·exact hx b n r
  ·rw[n]at r;cases r
 have hm:∀b u,H b=some u->¬ ya (some u)->b≠x:=λb u q nm z=>by subst z;rw[q]at mu;exact nm mu
 refine⟨λb u q n _ _=>k b u (hb b n) q,λb u q n _ _=>⟨u.slots,k b u (hb b n) q⟩,λb u q n _=>by rw[eX (hx b n)];exact n,λb u q _=>?_,
  λb xs q=>by rw[eX (hm b _ q λz=>z)];exact q,λb u xs q=>by rw[eX (hm b _ q λz=>z)];exact q,λb ps q=>⟨#[],by rw[eX (hm b _ q λz=>z),q];simp⟩⟩
 by_cases hbe:b=e
 ·subst hbe;exact heo
 ·exact⟨u,k b u hbe q⟩
end
def jL(h:wJ)(H:Hp):List wf:=(wp h.objs.size).filter λa=>(H a).isSome
def kO(h:wJ)(H:Hp):wJ:=XD h (jL h H)
theorem zwk(h:wJ)(H:Hp):(kO h H).objs.size=h.objs.size:=PySem.W.hideAll_size _ _
theorem zxL{h:wJ}{H:Hp}{b:wf}{o:Obj}(e:h.get? b=some o)(n:H b=none):(kO h H).get? b=some o :=
 xv _ e λhm=>by
  have q:(H b).isSome=true:=(w6.mp hm).2;rw[n]at q;simp at q
theorem zA4{h:wJ}{H:Hp}{b:wf}{o:Obj}(e:(kO h H).get? b=some o):h.get? b=some o/\H b=none:=by
 have e':h.get? b=some o:=xG (jL h H) e;refine⟨e',?_⟩;cases q:H b with
 | none=>rfl
 | some x =>
  have hm:b∈jL h H:=w6.mpr ⟨wG.mpr (wA e'),by simp[q]⟩;have z:(kO h H).get? b=none:=PySem.W.hideAll_none (jL h H) hm;rw[z]at e;cases e
def zAd(g h:wJ)(L:wf):List (wf × Obj):=(wp h.objs.size).filterMap λa=>if a=L\/(g.get? a).isSome=true then none else(h.get? a).map λo=>(a,o)
def bR(g h:wJ)(L d:wf):List (wf × Obj):=(zAd g h L).filter λp=>decide (p.1≠d)
structure Mod(K:wa)(mg:Str->Option Value)(base:wJ):Prop where
 rL:K.In base
 glob:base.Ns wM mg
 blt:∃mb,base.Ns builtinsNs mb /\ ∀x:Str,x≠"__name__" -> mb x=vJ x
 nolimit:base.NoLimit
structure Cx where
 prog:wK
 w:wQ
 K:wa
 mg:Str->Option Value
 base:wJ
 A:Around
 N:List Str
 s₀ : Shared
 H₀ : Hp
 env:Env
 outer:List Env
 stack:List Env
 ex:List wf
 fn:Str->Bool
 calm:Bool
 pn:List (wf × Obj)
 xe:Value->Shared->Prop
def eK(l:List Env):List wf:=l.filterMap (·.frame)
abbrev Cx.fs(X:Cx):List wf:=eK X.outer
def AD(sc:Scope)(x:Str):Prop:=sc.names.lookup x=some .local\/sc.names.lookup x=some .cell\/sc.names.lookup x=some .free
def Loc(sc:Scope)(x:Str):Prop:=sc.names.lookup x=some .local\/sc.names.lookup x=some .cell
def zEy(env:Env)(h:wJ)(m:Str->Option Value)(x:Str)(u:Value):Prop :=
 (env.kindOf x=some .local/\m x=some u)\/((env.kindOf x=some .cell\/env.kindOf x=some .free) /\ ∃c,env.cells.lookup x=some c/\h.IsCell c (some u))
structure Cx.Ok(X:Cx):Prop where
 mod:Mod X.K X.mg X.base
 kind:X.env.scope.kind=.function
 glob:X.env.globals=wM
 blt:X.env.builtins=builtinsNs
 above:X.s₀.heap.objs.size<=X.env.locals
 inj:∀x y c,X.env.cells.lookup x=some c->X.env.cells.lookup y=some c->x=y
 has:∀x,(X.env.kindOf x=some .cell\/X.env.kindOf x=some .free)->∃c,X.env.cells.lookup x=some c
 lZ:∀x c,X.fn x=true->X.env.cells.lookup x=some c->X.s₀.heap.objs.size<=c
 hd:X.calm=true->X.A.handled=none
 frames:X.A.frames=some X.stack
 mJ:X.stack=X.outer\/(X.stack=X.env::X.outer/\X.env.frame=some X.env.locals)
 tK:∀b∈X.ex,b≠X.env.locals /\ ∀x c,X.env.cells.lookup x=some c->c≠b
 bs:∀b o,X.base.get? b=some o->X.s₀.heap.get? b=some o/\X.H₀ b=none
 jm:X.base.objs.size<=X.s₀.heap.objs.size
 lg:∀b o,X.base.get? b=some o->b ∉ X.ex
 mE:∀b∈X.ex,b ∉ X.fs
 fJ:X.s₀.heap.FunFrames X.base X.outer
 j9:∀b∈X.fs,X.H₀ b=none
structure Inv(X:Cx)(pins:List (wf × Obj))(σ : List (Option V))(H:Hp)(s:Shared):Prop where
 ok:X.Ok
 os:s.os=X.s₀.os
 bare:AllBare s.gens
 base:Un X.fs X.ex X.H₀ H X.s₀.heap s.heap
 loc:∃m,s.heap.Ns X.env.locals m /\ ∀(i:Nat)(x:Str)(v:V),X.N[i]? = some x -> σ[i]? = some (some v)->AD X.env.scope x->∃u,bK v u/\zEy X.env s.heap m x u
 cell:∀x c,X.env.cells.lookup x=some c->∃v,s.heap.IsCell c v
 free:H X.env.locals=none
 gP:∀x c,X.env.cells.lookup x=some c->H c=none
 pin:∀p∈X.pn++pins,s.heap.get? p.1=some p.2/\H p.1=none/\p.1≠X.env.locals/\p.1 ∉ X.fs /\ ∀v,p.2.data≠.cell v
 aO:dE X.prog X.w H s.heap
 len : σ.length=X.N.length
section
variable{X:Cx}{pins:List (wf × Obj)}{σ : List (Option V)}{H H':Hp}{s:Shared}{h':wJ}
variable{i t':Nat}{ch:List wf}{x:Str}
theorem Cx.Ok.Zg(ok:X.Ok){b:wf}{o:Obj}(e:X.base.get? b=some o):b ∉ X.fs:=λhb=>by
 have:=(ok.fJ.mem hb).1;rw[e]at this;cases this
theorem Inv.bs(I:Inv X pins σ H s):∀b o,X.base.get? b=some o->s.heap.get? b=some o/\H b=none:=λb o e =>
 ⟨I.base.keep b o (I.ok.bs b o e).1 (I.ok.bs b o e).2 (I.ok.Zg e) (I.ok.lg b o e),I.base.free b o (I.ok.bs b o e).1 (I.ok.bs b o e).2 (I.ok.lg b o e)⟩
theorem Inv.bk(I:Inv X pins σ H s):∀b o,X.base.get? b=some o->s.heap.get? b=some o:=λb o e=>(I.bs b o e).1
theorem Inv.mod(I:Inv X pins σ H s):Mod X.K X.mg X.base:=I.ok.mod
theorem Inv.d5(I:Inv X pins σ H s):X.K.In s.heap:=I.ok.mod.rL.keeps I.bk
theorem Inv.lt(I:Inv X pins σ H s):X.env.locals<s.heap.objs.size:=let ⟨_,hn,_⟩:=I.loc;hn.lt
theorem Inv.sz(I:Inv X pins σ H s):X.s₀.heap.objs.size<=s.heap.objs.size:=Wg I.ok.above (WN I.lt)
theorem Inv.Ze(I:Inv X pins σ H s){a:wf}(h:s.heap.objs.size<=a):a ∉ X.fs:=λhb=>by
 obtain⟨_,o,ho,_⟩:=I.ok.fJ.mem hb;exact absurd (wV (wA ho) (Wg I.sz h)) (WR _)
theorem Inv.mq(I:Inv X pins σ H s):∀x c,X.env.cells.lookup x=some c->c≠X.env.locals:=λx c e z=>by
 obtain⟨v,o,ho,hd⟩:=I.cell x c e;obtain⟨m,⟨o',es,ep,ho',hd',_⟩,_⟩:=I.loc;rw[z,ho']at ho;cases ho;rw[hd']at hd;cases hd
theorem Inv.fJ(I:Inv X pins σ H s):s.heap.FunFrames X.base X.outer:=by
 have all:∀(l:List Env),(∀b∈eK l,b∈X.fs)->X.s₀.heap.FunFrames X.base l->s.heap.FunFrames X.base l:=by
  intro l
  induction l with
  | nil=>intro _ _;trivial
  | cons env r ih =>
   intro hs hl;obtain⟨hk,⟨L,o,hf,hn,ho,hd⟩,hr⟩:=hl;have hL:L∈X.fs:=hs L (by unfold eK;rw[qU,hf];exact wB);obtain⟨sl,e⟩:=I.base.slot L o ho (I.ok.j9 L hL) hL λz=>I.ok.mE L z hL
   exact⟨hk,⟨L,_,hf,hn,e,hd⟩,ih (λb hb=>hs b (by unfold eK;rw[qU,hf];exact wu _ hb)) hr⟩
 exact all X.outer (λ_ hb=>hb) I.ok.fJ
theorem Inv.stack(I:Inv X pins σ H s):s.heap.FunFrames X.base X.stack:=by
 rcases I.ok.mJ with e | ⟨e,hf⟩
 ·rw[e];exact I.fJ
 ·rw[e]
  obtain⟨m,hn,_⟩:=I.loc;refine .cons (by rw[I.ok.kind];decide) hf hn ?_ I.fJ;exact Heap.get?_none_of_le (Wg I.ok.jm I.ok.above)
theorem Inv.nS(I:Inv X pins σ H s):∀b∈eK X.stack,b∈X.env.locals::X.fs:=λb hb=>by
 rcases I.ok.mJ with e | ⟨e,hf⟩
 ·rw[e]at hb;exact wu _ hb
 ·rw[e]at hb
  unfold eK at hb;rw[qU,hf]at hb;exact hb
theorem Inv.tV(I:Inv X pins σ H s):∀b∈eK X.stack,H b=none:=λb hb=>by
 rcases wH.mp (I.nS b hb)with e | hb
 ·rw[e];exact I.free
 ·obtain⟨_,o,ho,_⟩:=I.ok.fJ.mem hb
  exact I.base.free b o ho (I.ok.j9 b hb) λz=>I.ok.mE b z hb
theorem Inv.step{g':Array GenState}{d':Drawn}(I:Inv X pins σ H s)
  (hch:∀b∈ch,(b∈X.ex\/X.s₀.heap.objs.size<=b)/\b≠X.env.locals/\(∀x c,X.env.cells.lookup x=some c->c≠b) /\ ∀p∈X.pn++pins,p.1≠b)
  (keep:∀b o,b≠X.env.locals->b ∉ X.fs->b ∉ ch->s.heap.get? b=some o->H b=none->h'.get? b=some o)
  (slot:∀b o,b≠X.env.locals->b∈X.fs->b ∉ ch->s.heap.get? b=some o->H b=none->∃sl,h'.get? b=some {o with slots:=sl}) (free:∀b o,b ∉ ch->s.heap.get? b=some o->H b=none->H' b=none)
  (there:∀b o,b ∉ ch->s.heap.get? b=some o->∃o',h'.get? b=some o')
  (ji:∀b xs,H b=some (.tup xs)->H' b=some (.tup xs)) (iJ:∀b o u,H b=some (.hZ o u)->H' b=some (.hZ o u)) (jg:∀b ps,H b=some (.lP ps)->∃more,H' b=some (.lP (ps++more)))
  (ns:∀m,s.heap.Ns X.env.locals m->h'.Ns X.env.locals m) (aO:dE X.prog X.w H' h') (hg:AllBare g') :
  Inv X pins σ H' {s with heap:=h',gens:=g',drawn:=d',toks:=t'}:=by
 have neL:∀b o,X.s₀.heap.get? b=some o->b≠X.env.locals:=λb o e=>wO (wV (wA e) I.ok.above)
 have neC:∀b o,X.s₀.heap.get? b=some o->b ∉ X.ex->b ∉ ch:=λb o e hx hb=>by
  rcases (hch b hb).1 with z | z
  ·exact hx z
  ·exact absurd (wV (wA e) z) (WR _)
 have cellK:∀x c,X.env.cells.lookup x=some c->∀v,s.heap.IsCell c v->h'.IsCell c v:=λx c e v ⟨o,ho,hd⟩=>by
  have nch:c ∉ ch:=λz=>(hch c z).2.2.1 x c e rfl
  by_cases hc:c∈X.fs
  ·obtain⟨sl,q⟩:=slot c o (I.mq x c e) hc nch ho (I.gP x c e)
   exact⟨_,q,hd⟩
  ·exact⟨o,keep c o (I.mq x c e) hc nch ho (I.gP x c e),hd⟩
 refine⟨I.ok,I.os,hg,⟨λb o e n hb hx=>?_,λb o e n hb hx=>?_,λb o e n hx=>?_,λb o e hx=>?_,λb xs e=>ji b xs (I.base.ji b xs e),λb o xs e=>iJ b o xs (I.base.iJ b o xs e),λb ps e=>?_⟩,?_,λx c e=>?_,?_,λx c e=>?_,λp hp=>?_,aO,I.len⟩
 ·exact keep b o (neL b o e) hb (neC b o e hx) (I.base.keep b o e n hb hx) (I.base.free b o e n hx)
 ·obtain⟨sl,e1⟩:=I.base.slot b o e n hb hx
  obtain⟨sl',e2⟩:=slot b _ (neL b o e) hb (neC b o e hx) e1 (I.base.free b o e n hx);exact⟨sl',e2⟩
 ·obtain⟨o',e1⟩:=I.base.there b o e hx
  exact free b o' (neC b o e hx) e1 (I.base.free b o e n hx)
 ·obtain⟨o',e1⟩:=I.base.there b o e hx
  exact there b o' (neC b o e hx) e1
 ·obtain⟨m1,e1⟩:=I.base.jg b ps e
  obtain⟨m2,e2⟩:=jg b _ e1;exact⟨m1++m2,by rw[e2,xH]⟩
 ·obtain⟨m,hn,hl⟩:=I.loc
  refine⟨m,ns m hn,λi x v e1 e2 e3=>?_⟩;obtain⟨u,r,l⟩:=hl i x v e1 e2 e3;refine⟨u,r,?_⟩;rcases l with l | ⟨k,c,e,z⟩
  ·exact .inl l
  ·exact .inr ⟨k,c,e,cellK x c e _ z⟩
 ·obtain⟨v,z⟩:=I.cell x c e
  exact⟨v,cellK x c e v z⟩
 ·obtain⟨m,⟨o,_,_,ho,_⟩,_⟩:=I.loc
  exact free _ o (λz=>(hch _ z).2.1 rfl) ho I.free
 ·obtain⟨v,o,ho,hd⟩:=I.cell x c e
  exact free c o (λz=>(hch c z).2.2.1 x c e rfl) ho (I.gP x c e)
 ·obtain⟨e,n,ne,nf,d⟩:=I.pin p hp
  have nch:p.1 ∉ ch:=λz=>(hch p.1 z).2.2.2 p hp rfl
  exact⟨keep p.1 p.2 ne nf nch e n,free p.1 p.2 nch e n,ne,nf,d⟩
theorem Inv.un(I:Inv X pins σ H s)(u:Un X.fs [] H H' s.heap h')(aO:dE X.prog X.w H' h'):Inv X pins σ H' {s with heap:=h',toks:=t'}:=by
 obtain⟨m,⟨o,es,ep,ho,r⟩,_⟩:=id I.loc;obtain⟨sl,hL⟩:=u.any ho I.free (by simp)
 exact I.step (g':=s.gens) (d':=s.drawn) (ch:=[]) (λ_ z=>nomatch z) (λb o _ hb _ e n=>u.keep b o e n hb (by simp)) (λb o _ hb _ e n=>u.slot b o e n hb (by simp)) (λb o _ e n=>u.free b o e n (by simp)) (λb o _ e=>u.there b o e (by simp)) u.ji u.iJ u.jg (λm' hm=>by
  obtain⟨o',es',ep',ho',r'⟩:=hm;rw[ho]at ho';cases ho';exact⟨_,es',ep',hL,r'⟩) aO I.bare
theorem Inv.call{g':Array GenState}{d':Drawn}(I:Inv X pins σ H s)(u:Un (eK X.stack) ch H H' s.heap h')(aO:dE X.prog X.w H' h')(hg:AllBare g')
  (hch:∀b∈ch,(b∈X.ex\/X.s₀.heap.objs.size<=b)/\b≠X.env.locals/\(∀x c,X.env.cells.lookup x=some c->c≠b) /\ ∀p∈X.pn++pins,p.1≠b) :
  Inv X pins σ H' {s with heap:=h',gens:=g',drawn:=d',toks:=t'}:=by
 obtain⟨m,⟨o,es,ep,ho,r⟩,_⟩:=id I.loc;obtain⟨sl,hL⟩:=u.any ho I.free λz=>(hch _ z).2.1 rfl
 exact I.step (ch:=ch) hch (λb o hL hb hc e n=>u.keep b o e n (λz=>(wH.mp (I.nS b z)).elim hL hb) hc) (λb o _ _ hc e n=>u.any e n hc) (λb o hc e n=>u.free b o e n hc) (λb o hc e=>u.there b o e hc) u.ji u.iJ u.jg (λm' hm=>by
  obtain⟨o',es',ep',ho',r'⟩:=hm;rw[ho]at ho';cases ho';exact⟨_,es',ep',hL,r'⟩) aO hg
theorem Inv.turned{it:wf}(I:Inv X pins σ H s)(k:∀b o,b≠it->s.heap.get? b=some o->h'.get? b=some o)(hn:H it=none)(hL:it≠X.env.locals)
  (h1:it∈X.ex\/X.s₀.heap.objs.size<=it) (h2:∀x c,X.env.cells.lookup x=some c->c≠it) (h3:∀p∈X.pn++pins,p.1≠it):Inv X pins σ H {s with heap:=h',toks:=t'}:=by
 have nit:∀b u,H b=some u->b≠it:=λb u e z=>by rw[z,hn]at e;cases e
 refine I.step (g':=s.gens) (d':=s.drawn) (ch:=[it]) (λb hb=>?_) (λb o _ _ hc e _=>k b o (λz=>hc (by simp[z])) e) (λb o _ _ hc e _=>⟨o.slots,k b o (λz=>hc (by simp[z])) e⟩) (λ_ _ _ _ n=>n)
  (λb o hc e=>⟨o,k b o (λz=>hc (by simp[z])) e⟩) (λ_ _ e=>e) (λ_ _ _ e=>e) (λb ps e=>⟨#[],by rw[e];simp⟩) (λm hm=>?_) (λb u e=>?_) I.bare
 ·have e:b=it:=by simpa using hb
  subst e;exact⟨h1,hL,h2,h3⟩
 ·obtain⟨o,es,ep,ho,r⟩:=hm
  exact⟨o,es,ep,k _ o (Wr hL) ho,r⟩
 ·refine(I.aO b u e).k_ (λc v hc q=>k c v ?_ q) (λ_ q=>q) λ_ _ q=>q
  rcases hc with z | z
  ·rw[z];exact nit b u e
  ·exact nit c _ z
theorem Inv.tok(I:Inv X pins σ H s)(t:Nat):Inv X pins σ H {s with toks:=t}:=I.un (h':=s.heap) (t':=t) Un.refl I.aO
theorem Inv.kept(I:Inv X pins σ H s)(k:∀b u,s.heap.get? b=some u->h'.get? b=some u):Inv X pins σ H {s with heap:=h',toks:=t'}:=I.un (Un.kept k) (I.aO.kept k)
theorem Inv.laid{a:wf}{o:HO}(I:Inv X pins σ H s)(k:∀b u,s.heap.get? b=some u->h'.get? b=some u)(hp:s.heap.objs.size<=a)(new:d7 X.prog X.w (upd H a o) h' a o) :
  Inv X pins σ (upd H a o) {s with heap:=h',toks:=t'}:=I.un (Un.laid k hp (I.aO.fresh hp)) (I.aO.laid k hp new)
theorem Inv.write{x e:wf}{o:HO}(I:Inv X pins σ H s)(mu:ya (H x))(he:e=x\/H e=some (.own x))(k:∀b u,b≠e->s.heap.get? b=some u->h'.get? b=some u)(heo:∃u,h'.get? e=some u)
  (new:d7 X.prog X.w (upd H x o) h' x o):Inv X pins σ (upd H x o) {s with heap:=h',toks:=t'}:=I.un (Un.write mu he k heo) (I.aO.write mu he k heo new)
theorem Inv.Kn{pins':List (wf × Obj)}(I:Inv X pins σ H s)(h:∀p∈pins',s.heap.get? p.1=some p.2/\H p.1=none/\p.1≠X.env.locals/\p.1 ∉ X.fs /\ ∀v,p.2.data≠.cell v):Inv X pins' σ H s :=
 ⟨I.ok,I.os,I.bare,I.base,I.loc,I.cell,I.free,I.gP,λp hp=>(vb.mp hp).elim (λz=>I.pin p (WO _ z)) (h p),I.aO,I.len⟩
theorem Ln{N:List Str}(hN:N.Nodup){j:Nat}(a:N[i]? = some x)(b:N[j]? = some x):i=j:=by
 obtain⟨h1,e1⟩:=wZ.mp a;obtain⟨h2,e2⟩:=wZ.mp b;exact(List.getElem_inj hN).mp (e1.trans e2.symm)
theorem SU{M:Model}{A:Around}{E:Value->Shared->Prop}{v:V}{u:Value}{Q:Unit->Shared->Prop}(I:Inv X pins σ H s)(hN:X.N.Nodup)(hi:X.N[i]? = some x)(hx:Loc X.env.scope x)(r:bK v u)
  (h:∀s',Inv X pins (σ.set i (some v)) H s'->(∃a,vB a s.heap s'.heap/\(a=X.env.locals\/X.env.cells.lookup x=some a))->Q () s') (hf:X.fn x=true\/X.env.scope.names.lookup x=some .local:=by first | exact .inl rfl | exact .inr rfl | assumption):wq M A (storeName X.env x u) Q E s:=by
 obtain⟨m,hn,hl⟩:=id I.loc;have hcls:(X.env.scope.kind == .class || (X.env.scope.kind == .module&&X.env.locals != X.env.globals))=false:=by rw[I.ok.kind];rfl
 have hiσ : i < σ.length:=by rw[I.len];exact(wZ.mp hi).1
 have mq:=I.mq
 have tracked:∀{a:wf}{h':wJ},(∃o,s.heap.get? a=some o/\H a=none)->vB a s.heap h'->dE X.prog X.w H h':=λ{a h'} ha hs b ob e=>by
  obtain⟨_,_,hfree⟩:=ha;refine(I.aO b ob e).k_ (λc w' hc q=>(hs.2 c ?_).trans q) (λ_ q=>q) λ_ _ q=>q
  rintro rfl;rcases hc with rfl | hc
  ·rw[hfree]at e;cases e
  ·rw[hfree]at hc;cases hc
 rcases hx with hk | hk
 ·refine wpAny_storeName_local hk hn (λh' hn' hs=>?_) hcls
  obtain⟨oL,_,_,hoL,_⟩:=id hn;refine h _ ⟨I.ok,I.os,I.bare,⟨λb o e n hb hx=>?_,λb o e n hb hx=>?_,I.base.free,λb o e hx=>?_,I.base.ji,I.base.iJ,I.base.jg⟩,⟨_,hn',λj y v' e1 e2 e3=>?_⟩,λy c e=>?_,I.free,I.gP,λp hp=>?_,tracked ⟨oL,hoL,I.free⟩ hs,by simpa using I.len⟩ ⟨_,hs,.inl rfl⟩
  ·exact(hs.2 b (wO (wV (wA e) I.ok.above))).trans (I.base.keep b o e n hb hx)
  ·obtain⟨sl,e1⟩:=I.base.slot b o e n hb hx
   exact⟨sl,(hs.2 b (wO (wV (wA e) I.ok.above))).trans e1⟩
  ·obtain⟨o',e1⟩:=I.base.there b o e hx
   exact⟨o',(hs.2 b (wO (wV (wA e) I.ok.above))).trans e1⟩
  ·by_cases hj:j=i
   ·subst hj
    rw[hi]at e1;cases e1;rw[QT hiσ]at e2;cases e2;exact⟨u,r,.inl ⟨hk,by simp⟩⟩
   ·rw[xk (Wr hj)]at e2
    obtain⟨u',r',q⟩:=hl j y v' e1 e2 e3;refine⟨u',r',?_⟩;rcases q with⟨k,e⟩ | ⟨k,c,e,z⟩
    ·refine .inl ⟨k,?_⟩
     have:y≠x:=λe=>hj (Ln hN e1 (e ▸ hi))
     simp[this,e]
    ·exact .inr ⟨k,c,e,z.sameBut hs (mq y c e)⟩
  ·obtain⟨w',z⟩:=I.cell y c e
   exact⟨w',z.sameBut hs (mq y c e)⟩
  ·obtain⟨e,n,ne,nf,d⟩:=I.pin p hp
   exact⟨(hs.2 p.1 ne).trans e,n,ne,nf,d⟩
 ·have hfn:X.fn x=true:=by
   rcases hf with z | z
   ·exact z
   ·rw[z]at hk;cases hk
  obtain⟨c,hc⟩:=I.ok.has x (.inl hk);obtain⟨w',z⟩:=I.cell x c hc;refine wpAny_storeName_cell I.ok.kind hk hc z (λh' hc' hs=>?_);obtain⟨oc,hoc,hocd⟩:=id z;refine h {s with heap:=h'} ⟨I.ok,I.os,I.bare,⟨λb o e n hb hx=>?_,λb o e n hb hx=>?_,I.base.free,λb o e hx=>?_,I.base.ji,I.base.iJ,I.base.jg⟩,⟨m,hn.sameBut hs (Wr (mq x c hc)),λj y v' e1 e2 e3=>?_⟩,λy c' e=>?_,I.free,I.gP,λp hp=>?_,tracked ⟨oc,hoc,I.gP x c hc⟩ hs,by simpa using I.len⟩ ⟨c,hs,.inr hc⟩
  ·exact(hs.2 b (wO (wV (wA e) (I.ok.lZ x c hfn hc)))).trans (I.base.keep b o e n hb hx)
  ·obtain⟨sl,e1⟩:=I.base.slot b o e n hb hx
   exact⟨sl,(hs.2 b (wO (wV (wA e) (I.ok.lZ x c hfn hc)))).trans e1⟩
  ·obtain⟨o',e1⟩:=I.base.there b o e hx
   exact⟨o',(hs.2 b (wO (wV (wA e) (I.ok.lZ x c hfn hc)))).trans e1⟩
  ·by_cases hj:j=i
   ·subst hj
    rw[hi]at e1;cases e1;rw[QT hiσ]at e2;cases e2;exact⟨u,r,.inr ⟨.inl hk,c,hc,hc'⟩⟩
   ·rw[xk (Wr hj)]at e2
    obtain⟨u',r',q⟩:=hl j y v' e1 e2 e3;refine⟨u',r',?_⟩;rcases q with q | ⟨k,c',e,z'⟩
    ·exact .inl q
    ·refine .inr ⟨k,c',e,z'.sameBut hs ?_⟩
     rintro rfl;exact hj (Ln hN e1 (I.ok.inj _ _ _ e hc ▸ hi))
  ·by_cases hcc:c'=c
   ·subst hcc;exact⟨_,hc'⟩
   ·obtain⟨w2,z2⟩:=I.cell y c' e
    exact⟨w2,z2.sameBut hs hcc⟩
  ·obtain⟨e,n,ne,nf,d⟩:=I.pin p hp
   refine⟨(hs.2 p.1 ?_).trans e,n,ne,nf,d⟩;intro q;rw[q,hoc]at e;have q':oc=p.2:=wW e;exact d w' (by rw[<- q'];exact hocd)
theorem rS{M:Model}{A:Around}{E:Value->Shared->Prop}{v:V}{u:Value}{Q:Unit->Shared->Prop}(I:Inv X pins σ H s)(hN:X.N.Nodup)(hi:X.N[i]? = some x)(hx:Loc X.env.scope x)(r:bK v u)
  (h:∀s',Inv X pins (σ.set i (some v)) H s'->Q () s') (hf:X.fn x=true\/X.env.scope.names.lookup x=some .local:=by first | exact .inl rfl | exact .inr rfl | assumption):wq M A (storeName X.env x u) Q E s :=
 SU I hN hi hx r (λs' I' _=>h s' I') hf
theorem Inv.KO{s':Shared}(I:Inv X pins σ H s)(ho:s'.os=s.os)(u:Un (eK X.stack) ch H H' s.heap s'.heap)(aO:dE X.prog X.w H' s'.heap)(hg:AllBare s'.gens)
  (hch:∀b∈ch,(b∈X.ex\/X.s₀.heap.objs.size<=b)/\b≠X.env.locals/\(∀x c,X.env.cells.lookup x=some c->c≠b) /\ ∀p∈X.pn++pins,p.1≠b):Inv X pins σ H' s':=by
 obtain⟨h',g',d',t',o'⟩:=s';have e:o'=s.os:=ho;subst e;exact I.call (g':=g') (t':=t') (d':=d') u aO hg hch
end
abbrev XK:=Value->Option wf->Hp->Prop
abbrev St:=List (Option V)
abbrev VK:=V->Hp->Prop
abbrev TE:=St->Hp->VK->Prop
abbrev TT:=St->Hp->(Bool->Hp->Prop)->Prop
abbrev TA:=St->Hp->(List V->Hp->Prop)->Prop
structure cQ where
 nx:St->Hp->Prop
 rt:VK
 bk:St->Hp->Prop:=λ_ _=>False
 ct:St->Hp->Prop:=λ_ _=>False
abbrev TS:=cQ->St->Hp->Prop
def EP(X:Cx)(pins:List (wf × Obj))(σ : St)(Q:VK)(u:Value)(s':Shared):Prop:=∃v H',Inv X pins σ H' s'/\bK v u/\Q v H'
def TP(X:Cx)(pins:List (wf × Obj))(σ : St)(Q:Bool->Hp->Prop)(b:Bool)(s':Shared):Prop:=∃H',Inv X pins σ H' s'/\Q b H'
def AP(X:Cx)(pins:List (wf × Obj))(σ : St)(Q:List V->Hp->Prop)(us:List Value)(s':Shared):Prop:=∃vs H',Inv X pins σ H' s'/\aW vs us/\Q vs H'
def SP(X:Cx)(pins:List (wf × Obj))(D:cQ)(f:Flow)(s':Shared):Prop :=
 match f with
 | .next=>∃σ' H',Inv X pins σ' H' s'/\D.nx σ' H'
 | .brk=>∃σ' H',Inv X pins σ' H' s'/\D.bk σ' H'
 | .cont=>∃σ' H',Inv X pins σ' H' s'/\D.ct σ' H'
 | .ret u=>∃v σ' H',Inv X pins σ' H' s'/\bK v u/\D.rt v H'
def PE(X:Cx)(e:Expr)(t:TE):Prop :=
 ∀(pins:List (wf × Obj))(s:Shared)(σ : St)(H:Hp)(Q:VK),Inv X pins σ H s->t σ H Q->wq (model X.prog X.w) X.A (eval e X.env) (EP X pins σ Q) X.xe s
def PT(X:Cx)(e:Expr)(t:TT):Prop :=
 ∀(pins:List (wf × Obj))(s:Shared)(σ : St)(H:Hp)(Q:Bool->Hp->Prop),Inv X pins σ H s->t σ H Q->wq (model X.prog X.w) X.A (isTrue e X.env (eval e X.env)) (TP X pins σ Q) X.xe s
def PW(X:Cx)(e:Expr)(t:TT):Prop :=
 ∀(whole:Sem Value)(pins:List (wf × Obj))(s:Shared)(σ : St)(H:Hp)(Q:Bool->Hp->Prop),Inv X pins σ H s->t σ H Q->wq (model X.prog X.w) X.A (isTrue e X.env whole) (TP X pins σ Q) X.xe s
theorem PW.pt{X:Cx}{e:Expr}{t:TT}(h:PW X e t):PT X e t:=h _
def PA(X:Cx)(es:List Expr)(t:TA):Prop :=
 ∀(pos:Pos)(pins:List (wf × Obj))(s:Shared)(σ : St)(H:Hp)(Q:List V->Hp->Prop),Inv X pins σ H s->t σ H Q->wq (model X.prog X.w) X.A (spliced (backTo pos (wR es X.env))) (AP X pins σ Q) X.xe s
def PS(X:Cx)(st:wU)(t:TS):Prop :=
 ∀(pins:List (wf × Obj))(s:Shared)(σ : St)(H:Hp)(D:cQ),Inv X pins σ H s->t D σ H->wq (model X.prog X.w) X.A (exec st X.env) (SP X pins D) X.xe s
def fQ(X:Cx)(st:List wU)(t:TS):Prop :=
 ∀(pins:List (wf × Obj))(s:Shared)(σ : St)(H:Hp)(D:cQ),Inv X pins σ H s->t D σ H->wq (model X.prog X.w) X.A (execs st X.env) (SP X pins D) X.xe s
theorem aQ{α : Type}{t:Sem α}{Q Q' : α -> Shared->Prop}{M:Model}{A:Around}{E:Value->Shared->Prop}{s:Shared}(h:wq M A t Q E s)(hQ:∀a s,Q a s->Q' a s):wq M A t Q' E s:=Ws h hQ λ_ _ x=>x
section
variable{X:Cx}
variable{x:Str}{u:Value}
def uM(i:Nat):TE:=λσ H Q=>∃v,σ[i]? = some (some v)/\Q v H
def tC(v:V):TE:=λ_ H Q=>Q v H
theorem ZM{i:Nat}{pos:Pos}(hN:X.N[i]? = some x)(hv:AD X.env.scope x)(hd:(x == ("__debug__" : Str))=false:=by decide)(hcd:(x == ("__classdict__" : Str))=false:=by decide):PE X (.Name x pos) (uM i):=by
 intro pins s σ H Q I h;obtain⟨v,e,h⟩:=h;obtain⟨m,hn,hl⟩:=I.loc;obtain⟨u,r,l⟩:=hl i x v hN e hv;have fin:EP X pins σ Q u s:=⟨v,H,I,r,h⟩;rcases l with⟨hk,hm⟩ | ⟨hk,c,hc,hcell⟩
 ·exact wpAny_Name (wpAny_loadName_local I.ok.kind hk hn hm fin) hd
 ·rcases hk with hk | hk
  ·exact wpAny_Name (wpAny_loadName_cell I.ok.kind hk hc hcell fin) hd
  ·exact wpAny_Name (wpAny_loadName_free I.ok.kind hk hc hcell fin hcd) hd
theorem ao{i j pos} : PE X (.Constant (.int i) j pos) (tC (.int i)):=λ_ _ _ H _ I h=>wpAny_Constant_int ⟨.int i,H,I.tok _,⟨_,rfl⟩,h⟩
theorem cP{b j pos} : PE X (.Constant (.bool b) j pos) (tC (.bl b)):=λ_ _ _ H _ I h=>Constant_bool ⟨.bl b,H,I,rfl,h⟩
theorem fB{j pos} : PE X (.Constant .none j pos) (tC .bG):=λ_ _ _ H _ I h=>Constant_none ⟨.bG,H,I,rfl,h⟩
theorem dC{x j pos} : PE X (.Constant (.str x) j pos) (tC (.str x)):=λ_ _ _ H _ I h=>Calls.Constant_str ⟨.str x,H,I.tok _,⟨_,rfl⟩,h⟩
def Gl(X:Cx)(x:Str):Prop:=X.env.kindOf x=some .globalImplicit
theorem oD{E:Value->Shared->Prop}{pins:List (wf × Obj)}{s:Shared}{σ : St}{H:Hp}{pos:Pos}{Q:Value->Shared->Prop}(I:Inv X pins σ H s)(hg:Gl X x)(hm:X.mg x=some u)(h:Q u s)
  (hd:(x == ("__debug__" : Str))=false:=by decide):wq (model X.prog X.w) X.A (eval (.Name x pos) X.env) Q E s :=
 Qg I.ok.kind hg (Calls.loadGlobal_global (by rw[I.ok.glob];exact I.mod.glob.keeps I.bk) hm h) hd
theorem iH{E:Value->Shared->Prop}{pins:List (wf × Obj)}{s:Shared}{σ : St}{H:Hp}{pos:Pos}{Q:Value->Shared->Prop}(I:Inv X pins σ H s)(hg:Gl X x)(hm:X.mg x=none)(hv:vJ x=some u)(h:Q u s)
  (hn:x≠"__name__":=by decide) (hd:(x == ("__debug__" : Str))=false:=by decide):wq (model X.prog X.w) X.A (eval (.Name x pos) X.env) Q E s:=by
 obtain⟨mb,h1,h2⟩:=I.mod.blt;exact Qg I.ok.kind hg (Calls.loadGlobal_builtin (by rw[I.ok.glob];exact I.mod.glob.keeps I.bk) hm (by rw[I.ok.blt];exact h1.keeps I.bk) ((h2 x hn).trans hv) h) hd
theorem cB{v:V}{pos:Pos}(hg:Gl X x)(hm:X.mg x=some u)(r:bK v u)(hd:(x == ("__debug__" : Str))=false:=by decide):PE X (.Name x pos) (tC v) :=
 λ_ _ _ H _ I h=>oD I hg hm ⟨v,H,I,r,h⟩ hd
theorem iS{v:V}{pos:Pos}(hg:Gl X x)(hm:X.mg x=none)(hv:vJ x=some u)(r:bK v u)(hn:x≠"__name__":=by decide)(hd:(x == ("__debug__" : Str))=false:=by decide):PE X (.Name x pos) (tC v) :=
 λ_ _ _ H _ I h=>iH I hg hm hv ⟨v,H,I,r,h⟩ hn hd
def t2I(ta tb:TE)(k:Int->Int->Hp->Prop):St->Hp->Prop:=λσ H=>ta σ H λx H1=>tb σ H1 λy H2=>∃i j,x=.int i/\y=.int j/\k i j H2
variable{a b:Expr}{ta tb:TE}{pos:Pos}
def ox(p:Int->Int->Bool)(ta tb:TE):TE:=λσ H Q=>t2I ta tb (λi j H2=>Q (.bl (p i j)) H2) σ H
abbrev tLt:TE->TE->TE:=ox λi j=>decide (i<j)
abbrev tLe:TE->TE->TE:=ox λi j=>decide (i<=j)
abbrev tGt:TE->TE->TE:=ox λi j=>decide (j<i)
abbrev tGe:TE->TE->TE:=ox λi j=>decide (j<=i)
abbrev zEC:TE->TE->TE:=ox λi j=>decide (i=j)
abbrev zED:TE->TE->TE:=ox λi j=>!decide (i=j)
def tB(t:TE):TT:=λσ H Q=>t σ H λx H1=>∃c,x=.bl c/\Q c H1
theorem cE{e:Expr}{t:TE}(h:PE X e t)(he:∀whole,isTrue e X.env whole=(do let v <- whole;standAt e.pos;holding [v] (truthy v)):=by intro _;rfl):PT X e (tB t):=by
 intro pins s σ H Q I hw;refine isTrue_plain (aQ (h pins s σ H _ I hw) λv s1 ⟨x,H1,I1,r1,q1⟩=>?_) (he _);obtain⟨d,rfl,q⟩:=q1;cases r1;exact Wb ⟨H1,I1,q⟩
variable{tA tB':TT}{bR:List Expr}
def LJ(t u:TT):TT:=λσ H Q=>t σ H λc H1=>if c=true then u σ H1 Q else Q false H1
def NB(t u:TT):TT:=λσ H Q=>t σ H λc H1=>if c=true then Q true H1 else u σ H1 Q
def Ow(t:TT):TT:=λσ H Q=>t σ H λc H1=>Q (!c) H1
theorem NJ(ha:PT X a tA):PW X (.BoolOp .And [a] pos) tA:=by
 intro wh pins s σ H Q I h;refine isTrue_and (aQ (ha pins s σ H Q I h) λc s1 e=>?_);cases c with
 | true=>exact isTrue_and_nil e
 | false=>exact e
theorem gQ(ha:PT X a tA):PW X (.BoolOp .Or [a] pos) tA:=by
 intro wh pins s σ H Q I h;refine isTrue_or (aQ (ha pins s σ H Q I h) λc s1 e=>?_);cases c with
 | false=>exact isTrue_or_nil e
 | true=>exact e
theorem SY(ha:PT X a tA)(hb:PW X (.BoolOp .And (b::bR) pos) tB'):PW X (.BoolOp .And (a::b::bR) pos) (LJ tA tB'):=by
 intro wh pins s σ H Q I h;refine isTrue_and (aQ (ha pins s σ H _ I h) λc s1 ⟨H1,I1,q1⟩=>?_);cases c with
 | true=>exact hb wh pins s1 σ H1 Q I1 q1
 | false=>exact⟨H1,I1,q1⟩
theorem fG(ha:PT X a tA)(hb:PW X (.BoolOp .Or (b::bR) pos) tB'):PW X (.BoolOp .Or (a::b::bR) pos) (NB tA tB'):=by
 intro wh pins s σ H Q I h;refine isTrue_or (aQ (ha pins s σ H _ I h) λc s1 ⟨H1,I1,q1⟩=>?_);cases c with
 | true=>exact⟨H1,I1,q1⟩
 | false=>exact hb wh pins s1 σ H1 Q I1 q1
theorem cN(ha:PT X a tA):PT X (.UnaryOp .Not a pos) (Ow tA):=by
 intro pins s σ H Q I h;exact isTrue_not (ha pins s σ H (λc H1=>Q (!c) H1) I h)
def UG(ta tb:TE):TE:=λσ H Q=>ta σ H λx H1=>∃c,x=.bl c/\if c=true then tb σ H1 Q else Q (.bl false) H1
def RB(ta tb:TE):TE:=λσ H Q=>ta σ H λx H1=>∃c,x=.bl c/\if c=true then Q (.bl true) H1 else tb σ H1 Q
def PX(ta:TE):TE:=λσ H Q=>ta σ H λx H1=>∃c,x=.bl c/\Q (.bl (!c)) H1
theorem gc{op}{t:TE}(h:PE X a t):PE X (.BoolOp op [a] pos) t:=λpins s σ H Q I hw=>BoolOp_one (h pins s σ H Q I hw)
theorem fb(ha:PE X a ta)(hb:PE X (.BoolOp .And (b::bR) pos) tb):PE X (.BoolOp .And (a::b::bR) pos) (UG ta tb):=by
 intro pins s σ H Q I h;refine BoolOp_and (aQ (ha pins s σ H _ I h) λv s1 ⟨x,H1,I1,r1,q1⟩=>?_);obtain⟨c,rfl,q1⟩:=q1;cases r1;refine Wb ?_;cases c with
 | true=>exact hb pins s1 σ H1 Q I1 q1
 | false=>exact⟨.bl false,H1,I1,rfl,q1⟩
theorem NP(ha:PE X a ta)(hb:PE X (.BoolOp .Or (b::bR) pos) tb):PE X (.BoolOp .Or (a::b::bR) pos) (RB ta tb):=by
 intro pins s σ H Q I h;refine BoolOp_or (aQ (ha pins s σ H _ I h) λv s1 ⟨x,H1,I1,r1,q1⟩=>?_);obtain⟨c,rfl,q1⟩:=q1;cases r1;refine Wb ?_;cases c with
 | false=>exact hb pins s1 σ H1 Q I1 q1
 | true=>exact⟨.bl true,H1,I1,rfl,q1⟩
theorem pA(ha:PE X a ta):PE X (.UnaryOp .Not a pos) (PX ta):=by
 intro pins s σ H Q I h;refine UnaryOp_ (aQ (ha pins s σ H _ I h) λv s1 ⟨x,H1,I1,r1,q1⟩=>?_);obtain⟨c,rfl,q1⟩:=q1;cases r1;exact not_of (Wb ⟨.bl (!c),H1,I1,rfl,q1⟩)
def Si(t:TT)(ta tb:TE):TE:=λσ H Q=>t σ H λc H1=>if c=true then ta σ H1 Q else tb σ H1 Q
theorem pz{c:Expr}(hc:PT X c tA)(ha:PE X a ta)(hb:PE X b tb):PE X (.IfExp c a b pos) (Si tA ta tb):=by
 intro pins s σ H Q I h;refine wpAny_IfExp (aQ (hc pins s σ H _ I h) λd s1 ⟨H1,I1,q1⟩=>?_);cases d with
 | true=>exact ha pins s1 σ H1 Q I1 q1
 | false=>exact hb pins s1 σ H1 Q I1 q1
end
def aP(K:wa)(H:Hp)(a:wf)(xs:List V):Prop :=
 Rd H a (.lst xs) \/
  ∃(o:Obj)(its:Array Value)(n:Nat),K.lookup a=some o/\o.cls=.type "list"/\o.dict=none/\o.data=.seq its n/\its.size<=wX/\aW xs its.toList
def bA(K:wa)(H:Hp)(a:wf)(xs:List V):Prop :=
 Rd H a (.tup xs) \/
  ∃(o:Obj)(its:Array Value)(n:Nat),K.lookup a=some o/\o.cls=.type "tuple"/\o.data=.seq its n/\its.size<=wX/\aW xs its.toList
def zEq:Value->Option V
 | .none=>some .bG
 | .bool b=>some (.bl b)
 | .int i _=>some (.int i)
 | .str x _=>some (.str x)
 | .bytes b _=>some (.byt b)
 | .float b _=>some (.flt b)
 | .ref a=>some (.ref a)
 | .type n=>some (.ty n)
 | _=>none
theorem bK.abs{x:V}{u:Value}(r:bK x u):zEq u=some x:=by
 cases x with
 | bG=>cases r;rfl
 | bl _=>cases r;rfl
 | int _=>obtain⟨t,rfl⟩:=r;rfl
 | str _=>obtain⟨t,rfl⟩:=r;rfl
 | byt _=>obtain⟨t,rfl⟩:=r;rfl
 | flt _=>obtain⟨t,rfl⟩:=r;rfl
 | ref _=>cases r;rfl
 | ty _=>cases r;rfl
theorem bK.inj{x y:V}{u:Value}(r:bK x u)(q:bK y u):x=y:=wW (r.abs.symm.trans q.abs)
theorem aW.inj:∀{xs ys:List V}{us:List Value},aW xs us->aW ys us->xs=ys
 | _,_,_,.nil,.nil=>rfl
 | _,_,_,.cons r t,.cons r' t'=>by rw[r.inj r',aW.inj t t']
section
variable{X:Cx}{pins:List (wf × Obj)}{σ : St}{H:Hp}{s:Shared}{a:wf}{xs ys:List V}
theorem aP.of{K:wa}(h:H a=some (.lst xs)):aP K H a xs:=.inl (.inl h)
theorem bA.of{K:wa}(h:H a=some (.tup xs)):bA K H a xs:=.inl (.inl h)
theorem Inv.list(I:Inv X pins σ H s)(h:aP X.K H a xs):∃its:List Value,aW xs its/\PlainL s.heap a its.toArray/\xs.length<=wX:=by
 rcases h with h | ⟨o,its,n,hk,hc,hd,hs,hz,r⟩
 ·obtain⟨z,its,n,r,e⟩:=h.ok I.aO
  exact⟨its,r,⟨_,n,e,rfl,rfl,rfl⟩,z⟩
 ·refine⟨its.toList,r,⟨o,n,I.d5 a o hk,hc,hd,by simpa using hs⟩,?_⟩
  have e:=r.length;simp only[WX]at e
  lia
theorem Inv.tuple(I:Inv X pins σ H s)(h:bA X.K H a xs):∃its:List Value,aW xs its/\IsTup s.heap a its.toArray/\xs.length<=wX:=by
 rcases h with h | ⟨o,its,n,hk,hc,hs,hz,r⟩
 ·obtain⟨z,its,r,p⟩:=h.ok I.aO
  exact⟨its,r,p,z⟩
 ·refine⟨its.toList,r,⟨o,I.d5 a o hk,hc,n,by simpa using hs⟩,?_⟩
  have e:=r.length;simp only[WX]at e
  lia
theorem Inv.Bi(I:Inv X pins σ H s)(h:aP X.K H a xs)(h':aP X.K H a ys):xs=ys:=by
 obtain⟨its,r,⟨o,n,e,_,_,d⟩,_⟩:=I.list h;obtain⟨its',r',⟨o',n',e',_,_,d'⟩,_⟩:=I.list h';rw[e]at e';cases e';rw[d]at d'
 injection d' with d1 _
 have:its=its':=by simpa using congrArg ud d1
 subst this;exact r.inj r'
theorem Inv.Bc(I:Inv X pins σ H s)(h:bA X.K H a xs)(h':bA X.K H a ys):xs=ys:=by
 obtain⟨its,r,⟨o,e,_,n,d⟩,_⟩:=I.tuple h;obtain⟨its',r',⟨o',e',_,n',d'⟩,_⟩:=I.tuple h';rw[e]at e';cases e';rw[d]at d'
 injection d' with d1 _
 have:its=its':=by simpa using congrArg ud d1
 subst this;exact r.inj r'
end
abbrev Cx.jN(X:Cx)(E:Value->Shared->Prop):Cx:={X with xe:=E}
abbrev Cx.Az(X:Cx):Cx:=X.jN λ_ _=>False
theorem Cx.Ok.jN{X:Cx}(ok:X.Ok)(E:Value->Shared->Prop):(X.jN E).Ok :=
 ⟨ok.mod,ok.kind,ok.glob,ok.blt,ok.above,ok.inj,ok.has,ok.lZ,ok.hd,ok.frames,ok.mJ,ok.tK,ok.bs,ok.jm,ok.lg,ok.mE,ok.fJ,ok.j9⟩
theorem Cx.Ok.k8{X:Cx}{E:Value->Shared->Prop}(ok:(X.jN E).Ok):X.Ok :=
 ⟨ok.mod,ok.kind,ok.glob,ok.blt,ok.above,ok.inj,ok.has,ok.lZ,ok.hd,ok.frames,ok.mJ,ok.tK,ok.bs,ok.jm,ok.lg,ok.mE,ok.fJ,ok.j9⟩
section
variable{X:Cx}{pins:List (wf × Obj)}{σ : St}{H:Hp}{s:Shared}{E:Value->Shared->Prop}
theorem Inv.jN(I:Inv X pins σ H s)(E:Value->Shared->Prop):Inv (X.jN E) pins σ H s:=⟨I.ok.jN E,I.os,I.bare,I.base,I.loc,I.cell,I.free,I.gP,I.pin,I.aO,I.len⟩
theorem Inv.k8(I:Inv (X.jN E) pins σ H s):Inv X pins σ H s:=⟨I.ok.k8,I.os,I.bare,I.base,I.loc,I.cell,I.free,I.gP,I.pin,I.aO,I.len⟩
theorem SP.k8{D:cQ}{f:Flow}{s':Shared}(h:SP (X.jN E) pins D f s'):SP X pins D f s':=by
 cases f with
 | next=>obtain⟨σ',H',I,q⟩:=h;exact⟨σ',H',I.k8,q⟩
 | brk=>obtain⟨σ',H',I,q⟩:=h;exact⟨σ',H',I.k8,q⟩
 | cont=>obtain⟨σ',H',I,q⟩:=h;exact⟨σ',H',I.k8,q⟩
 | ret u=>obtain⟨v,σ',H',I,r,q⟩:=h;exact⟨v,σ',H',I.k8,r,q⟩
theorem fQ.Az{st:List wU}{t:TS}(h:fQ X.Az st t):fQ X st t:=λpins s σ H D I hw =>
 Ws (h pins s σ H D (I.jN _) hw) (λ_ _ q=>q.k8) λ_ _ z=>WB z
end
section
variable{X:Cx}{st:wU}{bR:List wU}{t u:TS}{e:Expr}{te:TE}{pos:Pos}
def DO:TS:=λD σ H=>D.nx σ H
def u3(t u:TS):TS:=λD σ H=>t {D with nx:=u D} σ H
theorem ck:fQ X [] DO:=λ_ _ σ H _ I h=>qk ⟨σ,H,I,h⟩
theorem av(h1:PS X st t)(h2:fQ X bR u):fQ X (st::bR) (u3 t u):=by
 intro pins s σ H D I h;refine wpAny_execs_cons (aQ (h1 pins s σ H {D with nx:=u D} I h) λf s1 q=>?_);cases f with
 | next =>
  obtain⟨σ',H',I',q⟩:=q;exact h2 pins s1 σ' H' D I' q
 | ret v=>exact q
 | brk=>exact q
 | cont=>exact q
theorem ay(h1:PS X st t):fQ X [st] t:=by
 intro pins s σ H D I h;refine wpAny_execs_cons (aQ (h1 pins s σ H D I h) λf s1 q=>?_);cases f with
 | next=>exact qk q
 | ret v=>exact q
 | brk=>exact q
 | cont=>exact q
theorem Inv.quiet{pins:List (wf × Obj)}{σ : St}{H:Hp}{s:Shared}(I:Inv X pins σ H s):interactive X.env=false:=by simp[interactive,I.ok.kind]
def NX(te:TE):TS:=λD σ H=>te σ H λ_ H1=>D.nx σ H1
theorem ki(he:PE X e te)(hs:swapsWith e none pos.line X.env=pure false:=by rfl):PS X (.Expr e pos) (NX te):=by
 intro pins s σ H D I h;exact wpAny_Expr_any (aQ (he pins s σ H _ I h) λv s1 ⟨x,H1,I1,r1,q1⟩=>⟨σ,H1,I1,q1⟩) I.quiet hs
def Ey(te:TE):TS:=λD σ H=>te σ H D.rt
theorem aC(he:PE X e te):PS X (.Return (some e) pos) (Ey te):=by
 intro pins s σ H D I h;exact wpAny_Return_some (aQ (he pins s σ H _ I h) λv s1 ⟨x,H1,I1,r1,q1⟩=>⟨x,σ,H1,I1,r1,q1⟩)
def ET(c:TT)(t u:TS):TS:=λD σ H=>c σ H λb H1=>if b=true then t D σ H1 else u D σ H1
theorem cg{c:Expr}{a b:List wU}{tc:TT}(hc:PT X c tc)(ha:fQ X a t)(hb:fQ X b u):PS X (.If c a b pos) (ET tc t u):=by
 intro pins s σ H D I h;refine wpAny_If (aQ (hc pins s σ H _ I h) λd s1 ⟨H1,I1,q1⟩=>?_);cases d with
 | true=>exact ha pins s1 σ H1 D I1 q1
 | false=>exact hb pins s1 σ H1 D I1 q1
def zCE:TS:=λ_ _ _=>False
theorem Ei:PS X st zCE:=λ_ _ _ _ _ _ h=>h.elim
end
abbrev TG:=V->St->Hp->(St->Hp->Prop)->Prop
abbrev kH:=List V->St->Hp->(St->Hp->Prop)->Prop
def PG(X:Cx)(target:Expr)(t:TG):Prop :=
 ∀(pins:List (wf × Obj))(s:Shared)(σ : St)(H:Hp)(v:V)(u:Value)(Q:St->Hp->Prop),Inv X pins σ H s->bK v u->t v σ H Q ->
  wq (model X.prog X.w) X.A (assign target X.env u) (λ_ s'=>∃σ' H',Inv X pins σ' H' s'/\Q σ' H') X.xe s
def uB(X:Cx)(ts:List Expr)(t:kH):Prop :=
 ∀(pins:List (wf × Obj))(s:Shared)(σ : St)(H:Hp)(vs:List V)(us:List Value)(Q:St->Hp->Prop),Inv X pins σ H s->aW vs us->t vs σ H Q ->
  wq (model X.prog X.w) X.A (assignInOrder ((assignEach ts X.env).map (·.2)) us) (λ_ s'=>∃σ' H',Inv X pins σ' H' s'/\Q σ' H') X.xe s
abbrev Aj:=V->V->V->Hp->(Hp->Prop)->Prop
def Rn(X:Cx)(t:Aj):Prop :=
 ∀(pins:List (wf × Obj))(s:Shared)(σ : St)(H:Hp)(o i v:V)(ov iv u:Value)(Q:Hp->Prop),Inv X pins σ H s->bK o ov->bK i iv->bK v u->t o i v H Q ->
  wq (model X.prog X.w) X.A (setItem ov iv u) (λ_ s'=>∃H',Inv X pins σ H' s'/\Q H') X.xe s
abbrev sI:=V->V->Hp->VK->Prop
def UE(X:Cx)(op:Operator)(t:sI):Prop :=
 ∀(pins:List (wf × Obj))(s:Shared)(σ : St)(H:Hp)(x y:V)(v u:Value)(Q:VK),Inv X pins σ H s->bK x v->bK y u->t x y H Q ->
  wq (model X.prog X.w) X.A (inplaceOp op v u) (EP X pins σ Q) X.xe s
section
variable{X:Cx}{pos:Pos}
variable{i:Nat}{x:Str}{e:Expr}{te:TE}{pos':Pos}
def jk(i:Nat):TG:=λv σ H Q=>Q (σ.set i (some v)) H
theorem bP(hN:X.N.Nodup)(hi:X.N[i]? = some x)(hx:Loc X.env.scope x)(hf:X.fn x=true\/X.env.scope.names.lookup x=some .local:=by first | exact .inl rfl | exact .inr rfl | assumption):PG X (.Name x pos) (jk i):=by
 intro pins s σ H v u Q I r h;exact wpAny_assign_Name (rS I hN hi hx r (λs' I'=>⟨_,H,I',h⟩) hf)
def RV:kH:=λvs σ H Q=>vs=[]/\Q σ H
def RO(t:TG)(u:kH):kH:=λvs σ H Q=>∃v r,vs=v::r/\t v σ H λσ' H'=>u r σ' H' Q
theorem pD :uB X [] RV:=by
 intro pins s σ H vs us Q I r h;obtain⟨e,h⟩:=h;subst e;cases r;exact assignInOrder_nil ⟨σ,H,I,h⟩
theorem iP{es:List Expr}{t:TG}{u:kH}(h1:PG X e t)(h2:uB X es u)
  (hs:(assignEach (e::es) X.env).map (·.2)=assign e X.env::(assignEach es X.env).map (·.2):=by rfl):uB X (e::es) (RO t u):=by
 intro pins s σ H vs us Q I r h;obtain⟨v,vr,e1,h⟩:=h;subst e1;cases r with
 | cons r rr =>
  rw[hs];refine assignInOrder_cons (aQ (h1 pins s σ H _ _ _ I r h) λ_ s1 ⟨σ1,H1,I1,q1⟩=>?_);exact h2 pins s1 σ1 H1 _ _ Q I1 rr q1
def oY(K:wa)(n:Nat)(t:kH):TG:=λv σ H Q=>∃a xs,v=.ref a/\bA K H a xs/\xs.length=n/\t xs σ H Q
theorem oo{es:List Expr}{k:Nat}{t:kH}{n:Nat}(hc:X.calm=true)(h:uB X es t)
  (hn:(assignEach es X.env).length=n:=by rfl) (hst:(assignEach es X.env).findIdx? (·.1)=none:=by rfl):PG X (.Tuple es k pos) (oY X.K n t):=by
 intro pins s σ H v u Q I r hw;obtain⟨a,xs,e1,hq,hl,hw⟩:=hw;subst e1;cases r;obtain⟨its,rv,ht,hz⟩:=I.tuple hq;refine assign_Tuple_tuple (I.ok.hd hc) ht (by simp[hn,<- hl,rv.length]) hst λh' hx=>?_
 have I1:Inv X pins σ H {s with heap:=h'}:=I.kept (t':=s.toks) λb o e=>hx b o (wO (wA e)) e
 exact h pins _ σ H xs _ Q I1 (by simpa using rv) hw
def OR(to ti:TE)(t:Aj):TG:=λv σ H Q=>to σ H λo H1=>ti σ H1 λi H2=>t o i v H2 λH3=>Q σ H3
theorem rM{o i:Expr}{to ti:TE}{t:Aj}(ho:PE X o to)(hi:PE X i ti)(hs:Rn X t)
  (ha:∀v,assign (.Subscript o i pos) X.env v=(do
   let ov <- holding [v] (eval o X.env)
   let iv <- holding [v,ov] (eval i X.env)
   standAt pos
   holding [v,ov,iv] (setItem ov iv v)
   release [v,ov,iv] []):=by intro _;rfl):PG X (.Subscript o i pos) (OR to ti t):=by
 intro pins s σ H v u Q I r h;rw[ha];refine wg (WD (aQ (ho pins s σ H _ I h) λov s1 ⟨x,H1,I1,r1,q1⟩=>?_));refine wg (WD (aQ (hi pins s1 σ H1 _ I1 q1) λiv s2 ⟨y,H2,I2,r2,q2⟩=>?_));refine wg (wpAny_standAt (wg (WD (aQ (hs pins s2 σ H2 x y v ov iv u _ I2 r1 r2 r q2) λ_ s3 ⟨H3,I3,q3⟩=>?_))));exact wpAny_release ⟨σ,H3,I3,q3⟩
def mr(te:TE)(g:TG):TS:=λD σ H=>te σ H λx H1=>g x σ H1 D.nx
theorem sE{tg:Expr}{g:TG}(he:PE X e te)(hg:PG X tg g)(hs:swapsWithSole [tg] e pos.line X.env=pure false:=by rfl)(hw:swappedStores [tg] e X.env=pure none:=by rfl)
  (h1:(assignEach [tg] X.env).map (·.2)=[assign tg X.env]:=by rfl):PS X (.Assign [tg] e pos) (mr te g):=by
 intro pins s σ H D I h;refine wpAny_Assign_stores (aQ (he pins s σ H _ I h) λv s1 ⟨x,H1,I1,r1,q1⟩=>?_) hs hw;rw[h1];exact aQ (hg pins s1 σ H1 x v _ I1 r1 q1) λ_ s2 q=>q
theorem N9(hN:X.N.Nodup)(hi:X.N[i]? = some x)(hx:Loc X.env.scope x)(he:PE X e te)(hs:swapsWith e (some (.Name x pos')) pos.line X.env=pure false:=by rfl)(hf:X.fn x=true\/X.env.scope.names.lookup x=some .local:=by first | exact .inl rfl | exact .inr rfl | assumption) :
  PS X (.Assign [.Name x pos'] e pos) (mr te (jk i)):=by
 intro pins s σ H D I h;refine wpAny_Assign_Name (aQ (he pins s σ H _ I h) λv s1 ⟨y,H1,I1,r1,q1⟩=>?_) hs;exact rS I1 hN hi hx r1 (λs2 I2=>⟨_,H1,I2,q1⟩) hf
def UD(i j:Nat)(ta:TA):TS:=λD σ H=>ta σ H λvs H1=>∃v w,vs=[v,w]/\D.nx ((σ.set i (some v)).set j (some w)) H1
theorem zCI{j:Nat}{y:Str}{a b:Expr}{ta:TA}{px py pt:Pos}{kt k2 pt2}(hc:X.calm=true)(hN:X.N.Nodup)(hi:X.N[i]? = some x)(hj:X.N[j]? = some y)(hij:i≠j)
  (hx:X.env.scope.names.lookup x=some .local) (hy:X.env.scope.names.lookup y=some .local) (ha:PA X [a,b] ta)
  (hw:swappedStores [.Tuple [.Name x px,.Name y py] kt pt] (.Tuple [a,b] k2 pt2) X.env=pure (some [x,y]))
  (hs:swapsWithSole [.Tuple [.Name x px,.Name y py] kt pt] (.Tuple [a,b] k2 pt2) pos.line X.env=pure false:=by rfl) :
  PS X (.Assign [.Tuple [.Name x px,.Name y py] kt pt] (.Tuple [a,b] k2 pt2) pos) (UD i j ta):=by
 intro pins s σ H D I h;rw[exec_Assign_arm];refine wg (wpAny_standAt ?_);rw[hs];refine wg (wt ?_);rw[if_neg (by decide)];refine wg (Tuple_ (aQ (ha _ pins s σ H _ I h) λus s1 ⟨vs,H1,I1,r1,q1⟩=>?_));obtain⟨v,w,e1,q1⟩:=q1;subst e1
 obtain⟨u1,u2,rfl,rv,rw'⟩:∃u1 u2,us=[u1,u2]/\bK v u1/\bK w u2:=by
  cases r1 with
  | cons p q =>
   cases q with
   | cons p' q' =>
    cases q';exact⟨_,_,rfl,p,p'⟩
 refine Wt ?_ (by show 2<=wX;decide);have I2:Inv X pins σ H1 {s1 with heap:=s1.heap.push {cls:=.type "tuple",data:=.seq [u1,u2].toArray}}:=I1.kept (t':=s1.toks) λb o e=>wm _ e
 rw[hw];refine wg (wt ?_)
 show wq (model X.prog X.w) X.A (do rule "assign.swapped-stores";let items <- unpackItems (.ref s1.heap.objs.size) 2 none;assignInOrder [λv=>bindName X.env y v,λv=>bindName X.env x v] items.reverse;pure Flow.next) _ _ _
 refine wg (wpAny_rule (wg (unpackItems_tuple (items:=#[u1,u2]) (I.ok.hd hc) (qM s1.heap _) λh' hx'=>?_)));have I3:=I2.kept (h':=h') (t':=s1.toks) λb o e=>hx' b o (wO (wA e)) e
 show wq _ _ (assignInOrder [λv=>bindName X.env y v,λv=>bindName X.env x v] [u2,u1] >>= λ_=>pure Flow.next) _ _ _
 refine wg (assignInOrder_cons (wpAny_bindName (rS I3 hN hj (.inl hy) rw' (λs2 I4=>?_) (.inr hy))));refine assignInOrder_cons (wpAny_bindName (rS I4 hN hi (.inl hx) rv (λs3 I5=>assignInOrder_nil (wt ?_)) (.inr hx)));rw[List.set_comm _ _ (Wr hij)]at I5;exact⟨_,H1,I5,q1⟩
def RC(i:Nat)(te:TE)(ti:sI):TS:=λD σ H=>∃x,σ[i]? = some (some x)/\te σ H λy H1=>ti x y H1 λz H2=>D.nx (σ.set i (some z)) H2
theorem zDv{op:Operator}{ti:sI}(hN:X.N.Nodup)(hi:X.N[i]? = some x)(hx:Loc X.env.scope x)(he:PE X e te)(ho:UE X op ti)(hf:X.fn x=true\/X.env.scope.names.lookup x=some .local:=by first | exact .inl rfl | exact .inr rfl | assumption) :
  PS X (.AugAssign (.Name x pos') op e pos) (RC i te ti):=by
 intro pins s σ H D I h;obtain⟨v,e1,h⟩:=h;obtain⟨m,hn,hl⟩:=I.loc;have BB:AD X.env.scope x:=by rcases hx with k | k;exact .inl k;exact .inr (.inl k)
 obtain⟨u,r,l⟩:=hl i x v hi e1 BB;refine wpAny_AugAssign_Name ?_
 have go:wq (model X.prog X.w) X.A (eval e X.env) (λw s₂=>wq (model X.prog X.w) X.A (inplaceOp op u w) (λr s₃=>wq (model X.prog X.w) X.A (storeName X.env x r) (λ_=>SP X pins D .next) X.xe s₃) X.xe s₂) X.xe s:=by
  refine aQ (he pins s σ H _ I h) λw s1 ⟨y,H1,I1,r1,q1⟩=>?_
  refine aQ (ho pins s1 σ H1 v y u w _ I1 r r1 q1) λz s2 ⟨zv,H2,I2,r2,q2⟩=>?_
  exact rS I2 hN hi hx r2 (λs3 I3=>⟨_,H2,I3,q2⟩) hf
 rcases l with⟨hk,hm⟩ | ⟨hk,c,hc,hcell⟩
 ·exact wpAny_loadName_local I.ok.kind hk hn hm go
 ·rcases hk with hk | hk
  ·exact wpAny_loadName_cell I.ok.kind hk hc hcell go
  ·rcases hx with k | k
   ·have:X.env.scope.names.lookup x=some .free:=hk
    rw[k]at this;cases this
   ·have:X.env.scope.names.lookup x=some .free:=hk
    rw[k]at this;cases this
def M3(f:Int->Int->Int):sI:=λx y H Q=>∃i j,x=.int i/\y=.int j/\Q (.int (f i j)) H
theorem zDa :UE X .Add (M3 λi j=>i+j):=by
 intro pins s σ H x y v u Q I r1 r2 h;obtain⟨i,j,e1,e2,q⟩:=h;subst e1;subst e2;obtain⟨t,rfl⟩:=r1;obtain⟨t',rfl⟩:=r2;exact iadd_int ⟨.int _,H,I.tok _,⟨_,rfl⟩,q⟩
end
section
variable{X:Cx}{pos:Pos}
def Fv(c:TT)(tb:TS):TS:=λD σ H=>∃W:Nat->St->Hp->Prop,(∃m,W m σ H) /\ ∀m σ H,W m σ H ->
 c σ H λb H1=>if b=true then ∃N:St->Hp->Prop,(∀σ' H',N σ' H'->∃m',m'<m/\W m' σ' H')/\tb {D with nx:=N,ct:=N,bk:=D.nx} σ H1 else D.nx σ H1
theorem oQ{c:Expr}{body:List wU}{tc:TT}{tb:TS}(hp:PassesOwn (model X.prog X.w) X.A X.env X.xe)(hc:PT X c tc)(hb:fQ X body tb):PS X (.While c body [] pos) (Fv tc tb):=by
 intro pins s σ H D I h;obtain⟨W,⟨m0,w0⟩,turn⟩:=h;refine wpAny_While (codeAny_whileLoop (λn s'=>∃σ' H',Inv X pins σ' H' s'/\W n σ' H') ?_ m0 ⟨σ,H,I,w0⟩);rintro n s1 ⟨σ1,H1,I1,w1⟩;refine Vd hp (aQ (hc pins s1 σ1 H1 _ I1 (turn n σ1 H1 w1)) λb s2 ⟨H2,I2,q2⟩=>?_);cases b with
 | true =>
  obtain⟨N,hN,q2⟩:=q2;rw[if_pos rfl];refine Vd hp (aQ (hb pins s2 σ1 H2 _ I2 q2) λf s3 q3=>?_);cases f with
  | next =>
   obtain⟨σ3,H3,I3,n3⟩:=q3;obtain⟨m',hm,w3⟩:=hN σ3 H3 n3;exact⟨m',hm,σ3,H3,I3,w3⟩
  | cont =>
   obtain⟨σ3,H3,I3,n3⟩:=q3;obtain⟨m',hm,w3⟩:=hN σ3 H3 n3;exact⟨m',hm,σ3,H3,I3,w3⟩
  | brk=>exact q3
  | ret v=>exact q3
 | false =>
  rw[if_neg vk];exact qk ⟨σ1,H2,I2,q2⟩
end
variable{tg:Expr}{P:wK}{w:wQ}{K:wa}
structure It where
 go:Nat->Hp->Prop
 fZ:Nat->Hp->V->Hp->Prop
 stop:Nat->Hp->Prop
def fi(X:Cx)(pins:List (wf × Obj))(H:Hp)(b:wf):Prop :=
 H b=none/\b≠X.env.locals/\b ∉ X.fs/\(b∈X.ex\/X.s₀.heap.objs.size<=b)/\(∀x c,X.env.cells.lookup x=some c->c≠b) /\ ∀p∈X.pn++pins,p.1≠b
theorem Inv.kq{X:Cx}{pins:List (wf × Obj)}{σ : St}{H H':Hp}{s:Shared}{b:wf}(I:Inv X pins σ H s)(hb:s.heap.objs.size<=b)(hn:H' b=none):fi X pins H' b:=by
 refine⟨hn,vc (wV I.lt hb),I.Ze hb,.inr (Wg I.sz hb),λx c e z=>?_,λp hp z=>?_⟩
 ·obtain⟨v,q⟩:=I.cell x c e
  exact absurd (wV q.lt (by rw[z];exact hb)) (WR _)
 ·exact absurd (wV (wA (I.pin p hp).1) (by rw[z];exact hb)) (WR _)
structure j7(P:wK)(w:wQ)(K:wa)(tg:Expr)(J:It)(fp:List wf)(it:wf)(tn:Nat->wJ->Prop):Prop where
 mem:it∈fp
 obj:∀i h,tn i h->∀b∈fp,∃o,h.get? b=some o /\ ∀v,o.data≠.cell v
 keep:∀i h h',tn i h->(∀b∈fp,∀o,h.get? b=some o->h'.get? b=some o)->tn i h'
 item:∀(X:Cx),X.prog=P->X.w=w->X.K=K->X.calm=true->∀(i:Nat)(pins:List (wf × Obj))(s:Shared)(σ : St)(H:Hp)(E:Value->Shared->Prop),Inv X pins σ H s->(∀b∈fp,fi X pins H b)->tn i s.heap->J.go i H ->
   wq (model P w) X.A (pyNext (.ref it)) (λr s1=>∃u,r=some u /\
     wq (model P w) X.A (ql tg (.ref it) u) (λ_ s2=>∃x H',Inv X pins σ H' s2/\bK x u/\J.fZ i H x H'/\tn (i+1) s2.heap /\ ∀b∈fp,H' b=none) E s1) E s
 done:∀(X:Cx),X.prog=P->X.w=w->X.K=K->X.calm=true->∀(i:Nat)(pins:List (wf × Obj))(s:Shared)(σ : St)(H:Hp)(E:Value->Shared->Prop),Inv X pins σ H s->(∀b∈fp,fi X pins H b)->tn i s.heap->J.stop i H ->
   wq (model P w) X.A (pyNext (.ref it)) (λr s1=>r=none/\Inv X pins σ H s1) E s
 self:∀(A:Around)(i:Nat)(s:Shared)(Q:Value->Shared->Prop)(E:Value->Shared->Prop),tn i s.heap->Q (.ref it) s->wq (model P w) A (pyIter (.ref it)) Q E s
abbrev TI:=St->Hp->(It->Hp->Prop)->Prop
def Fg(X:Cx)(pins:List (wf × Obj))(σ : St)(tg:Expr)(R:It->Hp->Prop)(itv:Value)(s2:Shared):Prop :=
 ∃(it:wf)(fp:List wf)(tn:Nat->wJ->Prop)(J:It)(H':Hp),itv=.ref it/\Inv X pins σ H' s2/\j7 X.prog X.w X.K tg J fp it tn/\tn 0 s2.heap/\(∀b∈fp,fi X pins H' b)/\R J H'
def PI(X:Cx)(tg iter:Expr)(wi:TI):Prop :=
 ∀(pins:List (wf × Obj))(s:Shared)(σ : St)(H:Hp)(R:It->Hp->Prop),Inv X pins σ H s->wi σ H R ->
  wq (model X.prog X.w) X.A (eval iter X.env) (λv s1=>wq (model X.prog X.w) X.A (pyIter v) (Fg X pins σ tg R) X.xe s1) X.xe s
theorem DA{M:Model}{A:Around}{E:Value->Shared->Prop}{s:Shared}{it:wf}{u:Value}{o:Obj}{n:String}{vs:Array Value}{Q:Unit->Shared->Prop}(ho:s.heap.get? it=some o)(hc:o.cls=.type n)(hd:o.data=.fields vs)
   (hn:["enumerate","zip","dict_itemiterator","dict_reverseitemiterator","odict_iterator","itertools.zip_longest","itertools.pairwise"].contains n=false) (hQ:Q () s):wq M A (ql tg (.ref it) u) Q E s:=by
 unfold ql
 cases tg<;>first
   | exact wt hQ
   | (cases u<;>first
       | exact wt hQ
       | (refine wg (wpAny_load ho ?_)
          rw[hc,hd]
          show wq M A (if(["enumerate","zip","dict_itemiterator","dict_reverseitemiterator","odict_iterator","itertools.zip_longest","itertools.pairwise"].contains n&&vs[0]? == some (Vm _))=true then _ else _) Q E s
          rw[if_neg (by intro h;rw[hn,vO]at h;cases h)];exact wt hQ))
def jY(K:wa)(a:wf):It :=
 ⟨λi H=>∃xs x,aP K H a xs/\xs[i]? = some x,λi H x H'=>H'=H /\ ∀xs,aP K H a xs->xs[i]? = some x,λi H=>∃xs,aP K H a xs/\xs.length<=i⟩
def jQ(K:wa)(a:wf):It :=
 ⟨λi H=>∃xs x,bA K H a xs/\xs[i]? = some x,λi H x H'=>H'=H /\ ∀xs,bA K H a xs->xs[i]? = some x,λi H=>∃xs,bA K H a xs/\xs.length<=i⟩
def h_(lo:Int)(n:Nat):It:=⟨λi _=>i<n,λi H x H'=>H'=H/\x=.int (lo+i),λi _=>n<=i⟩
theorem R6(a it:wf):j7 P w K tg (jY K a) [it] it (λi h=>h.IsListIter it a i) where
 mem:=by simp
 obj:=λi h st b hb=>by
  have e:b=it:=by simpa using hb
  subst e;obtain⟨o,e,c,d⟩:=st;exact⟨o,e,λv z=>by rw[d]at z;cases z⟩
 keep:=λi h h' st k=>st.at λo e=>k it (by simp) o e
 item:=by
  intro X hP hw hK hc i pins s σ H E I hf st hg;subst hP hw hK;obtain⟨xs,x,hq,hx⟩:=hg;obtain⟨its,rv,p,hz⟩:=I.list hq;obtain⟨u,hu,ru⟩:=rv.get hx;obtain⟨f0,f1,f2,f3,f4,f5⟩:=hf it (by simp);refine wpAny_pyNext_list_item st p.isList (x:=u) (by simpa using hu) λh' st' sb=>?_
  have I1:Inv X pins σ H {s with heap:=h'}:=I.turned (t':=s.toks) (λb o hb e=>(sb.2 b hb).trans e) f0 f1 f3 f4 f5;obtain⟨o,e,c,d⟩:=id st';exact⟨u,rfl,DA (s:={s with heap:=h'}) e c d (by decide) ⟨x,H,I1,ru,⟨rfl,λys hy=>by rw[I.Bi hy hq];exact hx⟩,st',λb hb=>(hf b hb).1⟩⟩
 done:=by
  intro X hP hw hK hc i pins s σ H E I hf st hg;subst hP hw hK;obtain⟨xs,hq,hx⟩:=hg;obtain⟨its,rv,p,hz⟩:=I.list hq;obtain⟨f0,f1,f2,f3,f4,f5⟩:=hf it (by simp);have hl:=rv.length;exact wpAny_pyNext_list_end (I.ok.hd hc) st p.isList (by simp;lia) λh' eb=>⟨rfl,I.turned (t':=s.toks) (λb o hb e=>eb b o hb e) f0 f1 f3 f4 f5⟩
 self:=λ_ _ _ _ _ st h=>wpAny_pyIter_listiter st h
theorem Lz(a it:wf):j7 P w K tg (jQ K a) [it] it (λi h=>h.IsTupleIter it a i) where
 mem:=by simp
 obj:=λi h st b hb=>by
  have e:b=it:=by simpa using hb
  subst e;obtain⟨o,e,c,d⟩:=st;exact⟨o,e,λv z=>by rw[d]at z;cases z⟩
 keep:=λi h h' st k=>st.at λo e=>k it (by simp) o e
 item:=by
  intro X hP hw hK hc i pins s σ H E I hf st hg;subst hP hw hK;obtain⟨xs,x,hq,hx⟩:=hg;obtain⟨its,rv,p,hz⟩:=I.tuple hq;obtain⟨u,hu,ru⟩:=rv.get hx;obtain⟨f0,f1,f2,f3,f4,f5⟩:=hf it (by simp);refine wpAny_pyNext_tuple_item st (show s.heap.IsTuple a its.toArray from p) (x:=u) (by simpa using hu) λh' st' sb=>?_
  have I1:Inv X pins σ H {s with heap:=h'}:=I.turned (t':=s.toks) (λb o hb e=>(sb.2 b hb).trans e) f0 f1 f3 f4 f5;obtain⟨o,e,c,d⟩:=id st';exact⟨u,rfl,DA (s:={s with heap:=h'}) e c d (by decide) ⟨x,H,I1,ru,⟨rfl,λys hy=>by rw[I.Bc hy hq];exact hx⟩,st',λb hb=>(hf b hb).1⟩⟩
 done:=by
  intro X hP hw hK hc i pins s σ H E I hf st hg;subst hP hw hK;obtain⟨xs,hq,hx⟩:=hg;obtain⟨its,rv,p,hz⟩:=I.tuple hq;obtain⟨f0,f1,f2,f3,f4,f5⟩:=hf it (by simp);have hl:=rv.length;exact wpAny_pyNext_tuple_end (I.ok.hd hc) st (show s.heap.IsTuple a its.toArray from p) (by simp;lia) λh' eb=>⟨rfl,I.turned (t':=s.toks) (λb o hb e=>eb b o hb e) f0 f1 f3 f4 f5⟩
 self:=λ_ _ _ _ _ st h=>wpAny_pyIter_tupleiter st h
theorem ztR(it:wf)(lo:Int)(n:Nat):j7 P w K tg (h_ lo n) [it] it (λi h=>IsRangeIter h it (lo+(i:Nat)*1) ((n:Int)-(i:Nat)) 1) where
 mem:=by simp
 obj:=λi h st b hb=>by
  have e:b=it:=by simpa using hb
  subst e
  exact⟨_,st,λv z=>by
   have z':Data.fields _=Data.cell v:=z;cases z'⟩
 keep:=λi h h' st k=>k it (by simp) _ st
 item:=by
  intro X hP hw hK hc i pins s σ H E I hf st hg;subst hP hw hK;obtain⟨f0,f1,f2,f3,f4,f5⟩:=hf it (by simp);have W:=Walks.range (prog:=X.prog) (w:=X.w) (I.ok.hd hc) it lo 1 n;refine W.item i s _ _ hg st λv h' tk hv st' kk=>?_
  obtain⟨t,rfl⟩:=hv;have I1:Inv X pins σ H {s with heap:=h',toks:=tk}:=I.turned (λb o hb e=>kk b o (by simpa using hb) e) f0 f1 f3 f4 f5;refine⟨_,rfl,DA (s:={s with heap:=h',toks:=tk}) (n:="range_iterator") st' rfl rfl (by decide) ⟨.int (lo+i),H,I1,⟨t,?_⟩,⟨rfl,rfl⟩,st',λb hb=>(hf b hb).1⟩⟩;rw[QU]
 done:=by
  intro X hP hw hK hc i pins s σ H E I hf st hg;subst hP hw hK;obtain⟨f0,f1,f2,f3,f4,f5⟩:=hf it (by simp);exact wpAny_pyNext_range_end (I.ok.hd hc) st (by have:n<=i:=hg;lia) λh' eb=>⟨rfl,I.turned (t':=s.toks) (λb o hb e=>eb b o hb e) f0 f1 f3 f4 f5⟩
 self:=λ_ _ _ _ _ st h=>wpAny_pyIter_rangeiter st h
section
variable{X:Cx}{tg:Expr}
variable{σ:St}{H:Hp}{fp:List wf}
def C_(K:wa)(tl:TE):TI:=λσ H R=>tl σ H λx H1=>∃a,x=.ref a/\(∃xs,aP K H1 a xs)/\R (jY K a) H1
def O1(K:wa)(tl:TE):TI:=λσ H R=>tl σ H λx H1=>∃a,x=.ref a/\(∃xs,bA K H1 a xs)/\R (jQ K a) H1
theorem fe{l:Expr}{tl:TE}(hl:PE X l tl):PI X tg l (C_ X.K tl):=by
 intro pins s σ H R I h;refine aQ (hl pins s σ H _ I h) λv s1 ⟨x,H1,I1,r1,q1⟩=>?_
 obtain⟨a,e,⟨xs,hq⟩,q⟩:=q1;subst e;cases r1;obtain⟨its,rv,p,hz⟩:=I1.list hq;refine VS p.isList ?_;refine⟨s1.heap.objs.size,[s1.heap.objs.size],_,_,H1,rfl,I1.kept (t':=s1.toks) λb o e=>wm _ e,R6 a _,⟨_,wN _ rfl,rfl,rfl⟩,λb hb=>?_,q⟩;have e:b=s1.heap.objs.size:=by simpa using hb
 subst e;exact I1.kq (wn _) (I1.aO.fresh (wn _))
theorem jF{l:Expr}{tl:TE}(hl:PE X l tl):PI X tg l (O1 X.K tl):=by
 intro pins s σ H R I h;refine aQ (hl pins s σ H _ I h) λv s1 ⟨x,H1,I1,r1,q1⟩=>?_
 obtain⟨a,e,⟨xs,hq⟩,q⟩:=q1;subst e;cases r1;obtain⟨its,rv,p,hz⟩:=I1.tuple hq;refine W8 (show s1.heap.IsTuple a its.toArray from p) ?_;refine⟨s1.heap.objs.size,[s1.heap.objs.size],_,_,H1,rfl,I1.kept (t':=s1.toks) λb o e=>wm _ e,Lz a _,⟨_,wN _ rfl,rfl,rfl⟩,λb hb=>?_,q⟩;have e:b=s1.heap.objs.size:=by simpa using hb
 subst e;exact I1.kq (wn _) (I1.aO.fresh (wn _))
theorem OJ{pins:List (wf × Obj)}{s:Shared}{R:It->Hp->Prop}{E:Value->Shared->Prop}{lo hi:Int}{t u v:Tok}{tk:Nat}(I:Inv X pins σ H s)(h1 : -(2^62)<=lo)(h2:lo<2^62)(h3 : -(2^62)<=hi)(h4:hi<2^62)
  (q:R (h_ lo (hi-lo).toNat) H):wq (model X.prog X.w) X.A (pyIter (.ref s.heap.objs.size)) (Fg X pins σ tg R) E {s with heap:=s.heap.push {cls:=.type "range",data:=.fields #[.int lo t,.int hi u,.int 1 v]},toks:=tk}:=by
 refine wpAny_pyIter_range (uk ..) (small_one h1 h2 h3 h4) ?_;have I1:Inv X pins σ H {s with heap:=s.heap.push {cls:=.type "range",data:=.fields #[.int lo t,.int hi u,.int 1 v]},toks:=tk}:=I.kept λb o e=>wm _ e
 refine⟨(s.heap.push {cls:=.type "range",data:=.fields #[.int lo t,.int hi u,.int 1 v]}).objs.size,[(s.heap.push {cls:=.type "range",data:=.fields #[.int lo t,.int hi u,.int 1 v]}).objs.size],_,_,H,rfl,
  I1.kept (t':=tk) λb o e=>wm _ e,ztR _ lo (hi-lo).toNat,?_,λb hb=>?_,q⟩
 ·have e1:lo+((0:Nat):Int)*1=lo:=by simp
  have e2:(((hi-lo).toNat:Nat):Int)-((0:Nat):Int)=uj lo hi 1:=by rw[rangeSize_one];split<;>lia
  show IsRangeIter _ _ (lo+((0:Nat):Int)*1) ((((hi-lo).toNat:Nat):Int)-((0:Nat):Int)) 1
  rw[e1,e2];exact wN _ rfl
 ·have e:b=(s.heap.push {cls:=.type "range",data:=.fields #[.int lo t,.int hi u,.int 1 v]}).objs.size:=by simpa using hb
  subst e;exact I1.kq (wn _) (I1.aO.fresh (wn _))
def DM(ta:TA):TI:=λσ H R=>ta σ H λvs H1=>∃j:Int,vs=[.int j] /\ -(2^62)<=j/\j<2^62/\R (h_ 0 j.toNat) H1
def NF(ta:TA):TI:=λσ H R=>ta σ H λvs H1=>∃i j:Int,vs=[.int i,.int j]/\(-(2^62)<=i/\i<2^62 /\ -(2^62)<=j/\j<2^62)/\R (h_ i (j-i).toNat) H1
theorem jo{a:Expr}{ta:TA}{p pos:Pos}(hg:Gl X "range")(hm:X.mg "range"=none)(ha:PA X [a] ta)(hs:wR [a] X.env=[(false,eval a X.env)]:=by rfl):PI X tg (.Call (.Name "range" p) [a] [] pos) (DM ta):=by
 intro pins s σ H R I h;refine Call_ (iH I hg hm boot_range (vg (aQ (ha pos pins s σ H _ I h) λus s1 ⟨vs,H1,I1,r1,q1⟩=>?_) hs rfl));obtain⟨j,e,q1,q2,q⟩:=q1;subst e;cases r1 with
 | cons r rr =>
  cases rr;obtain⟨t,rfl⟩:=r;exact call_range_1 (OJ I1 (by lia) (by lia) q1 q2 (by simpa using q))
theorem zwn{a b:Expr}{ta:TA}{p pos:Pos}(hg:Gl X "range")(hm:X.mg "range"=none)(ha:PA X [a,b] ta)(hs:wR [a,b] X.env=[(false,eval a X.env),(false,eval b X.env)]:=by rfl)(hs2:wR [b] X.env=[(false,eval b X.env)]:=by rfl) :
  PI X tg (.Call (.Name "range" p) [a,b] [] pos) (NF ta):=by
 intro pins s σ H R I h;refine Call_ (iH I hg hm boot_range (vg (aQ (ha pos pins s σ H _ I h) λus s1 ⟨vs,H1,I1,r1,q1⟩=>?_) (by rw[hs,hs2]) (by rw[hs2];rfl)));obtain⟨i,j,e,⟨q1,q2,q3,q4⟩,q⟩:=q1;subst e;cases r1 with
 | cons r rr =>
  cases rr with
  | cons r' rr =>
   cases rr;obtain⟨t,rfl⟩:=r;obtain⟨t',rfl⟩:=r';exact call_range_2 (OJ I1 q1 q2 q3 q4 q)
def lM(wi:TI)(g:TG)(tb:TS):TS:=λD σ H=>wi σ H λJ H1=>∃W:Nat->Nat->St->Hp->Prop,(∃m,W 0 m σ H1) /\ ∀i m σ H,W i m σ H ->
 (J.stop i H/\D.nx σ H)\/(J.go i H /\ ∃N:St->Hp->Prop,(∀σ' H',N σ' H'->∃m',m'<m/\W (i+1) m' σ' H') /\ ∀x H',J.fZ i H x H'->g x σ H' λσ2 H2=>tb {D with nx:=N,ct:=N,bk:=D.nx} σ2 H2)
def rG(fp:List wf)(h:wJ):List (wf × Obj):=fp.filterMap λb=>(h.get? b).map λo=>(b,o)
theorem yk{h:wJ}{b:wf}{o:Obj}(hb:b∈fp)(e:h.get? b=some o):(b,o)∈rG fp h:=Qc.mpr ⟨b,hb,by rw[e];rfl⟩
theorem zwY{h:wJ}{p:wf × Obj}(hp:p∈rG fp h):p.1∈fp/\h.get? p.1=some p.2:=by
 obtain⟨b,hb,e⟩:=Qc.mp hp;cases q:h.get? b with
 | none=>rw[q]at e;cases e
 | some o =>
  rw[q]at e;have e':(b,o)=p:=wW e;subst e';exact⟨hb,q⟩
theorem Inv.pinned{pins:List (wf × Obj)}{s:Shared}(I:Inv X pins σ H s)(hf:∀b∈fp,fi X pins H b)(ho:∀b∈fp,∃o,s.heap.get? b=some o /\ ∀v,o.data≠.cell v):Inv X (pins++rG fp s.heap) σ H s :=
 I.Kn λp hp=>(vb.mp hp).elim (λz=>I.pin p (vI _ z)) λz=>by
  obtain⟨hb,e⟩:=zwY z;obtain⟨f0,f1,f2,_⟩:=hf p.1 hb;obtain⟨o,e',d⟩:=ho p.1 hb;rw[e]at e';cases e';exact⟨e,f0,f1,f2,d⟩
theorem Inv.tT{pins pl:List (wf × Obj)}{s:Shared}(I:Inv X (pins++pl) σ H s):Inv X pins σ H s:=I.Kn λp hp=>I.pin p (vI _ (WO _ hp))
theorem gD{iter:Expr}{body:List wU}{wi:TI}{g:TG}{tb:TS}{pos:Pos}(hp:PassesOwn (model X.prog X.w) X.A X.env X.xe)(hc:X.calm=true)(hi:PI X tg iter wi)(hg:PG X tg g)(hb:fQ X body tb)
  (hs:∀x,foldedSetIterable iter X.env x=pure x:=by intro _;rfl):PS X (.For tg iter body [] pos) (lM wi g tb):=by
 intro pins s σ H D I h;refine wpAny_For (aQ (hi pins s σ H _ I h) λv s1 h1=>aQ h1 λitv s2 h2=>?_) hs;obtain⟨it,fp,tn,J,H2,e,I2,T,st2,f2,W,⟨m0,w0⟩,turn⟩:=h2;subst e
 have stat:∀{H':Hp},(∀b∈fp,H' b=none)->∀b∈fp,fi X pins H' b:=λhn b hb=>⟨hn b hb,(f2 b hb).2⟩
 refine codeAny_forLoop_any (λn s'=>∃i σ' H',Inv X pins σ' H' s'/\tn i s'.heap/\(∀b∈fp,H' b=none)/\W i n σ' H') ?_ m0 ⟨0,σ,H2,I2,st2,λb hb=>(f2 b hb).1,w0⟩;rintro n s3 ⟨i,σ3,H3,I3,st3,fr3,w3⟩;rcases turn i n σ3 H3 w3 with⟨stop,qn⟩ | ⟨go,N,hN,step⟩
 ·refine Vd hp (aQ (T.done X rfl rfl rfl hc i pins s3 σ3 H3 X.xe I3 (stat fr3) st3 stop) λr s4 ⟨hr,I4⟩=>?_)
  subst hr;exact qk ⟨σ3,H3,I4,qn⟩
 ·refine Vd hp (aQ (T.item X rfl rfl rfl hc i pins s3 σ3 H3 X.xe I3 (stat fr3) st3 go) λr s4 ⟨u,hr,h4⟩=>?_)
  subst hr;refine Vd hp (aQ h4 λ_ s5 ⟨x,H5,I5,r5,y5,st5,fr5⟩=>?_);have I5':=I5.pinned (stat fr5) (T.obj _ _ st5);refine Vd hp (aQ (hg _ s5 σ3 H5 x u _ I5' r5 (step x H5 y5)) λ_ s6 ⟨σ6,H6,I6,q6⟩=>?_);refine Vd hp (aQ (hb _ s6 σ6 H6 _ I6 q6) λf s7 q7=>?_)
  have again:∀{σ7:St}{H7:Hp},Inv X (pins++rG fp s5.heap) σ7 H7 s7->N σ7 H7->∃m,m<n /\ ∃i σ' H',Inv X pins σ' H' s7/\tn i s7.heap/\(∀b∈fp,H' b=none)/\W i m σ' H':=λ{σ7 H7} I7 n7=>by
   obtain⟨m',hm,w7⟩:=hN σ7 H7 n7;refine⟨m',hm,i+1,σ7,H7,I7.tT,T.keep _ _ _ st5 λb hb o e=>(I7.pin (b,o) (vI _ (vI _ (yk hb e)))).1,λb hb=>?_,w7⟩;obtain⟨o,e,d⟩:=T.obj _ _ st5 b hb;exact(I7.pin (b,o) (vI _ (vI _ (yk hb e)))).2.1
  cases f with
  | next=>obtain⟨σ7,H7,I7,n7⟩:=q7;exact again I7 n7
  | cont=>obtain⟨σ7,H7,I7,n7⟩:=q7;exact again I7 n7
  | brk=>obtain⟨σ7,H7,I7,q7⟩:=q7;exact⟨σ7,H7,I7.tT,q7⟩
  | ret v=>obtain⟨x7,σ7,H7,I7,r7,q7⟩:=q7;exact⟨x7,σ7,H7,I7.tT,r7,q7⟩
end
variable{g:TG}{tb:TS}{D:cQ}{σ:St}{H:Hp}
theorem zyU{K:wa}{a:wf}{xs:List V}(Pv:Nat->St->Hp->Prop)(h0:Pv 0 σ H)(hl:∀i σ H,i<=xs.length->Pv i σ H->aP K H a xs)
  (hs:∀i x σ H,xs[i]? = some x->Pv i σ H->g x σ H λσ2 H2=>tb {D with nx:=Pv (i+1),ct:=Pv (i+1),bk:=D.nx} σ2 H2) (hd:∀σ H,Pv xs.length σ H->D.nx σ H) :
  ∃W:Nat->Nat->St->Hp->Prop,(∃m,W 0 m σ H) /\ ∀i m σ H,W i m σ H ->
   ((jY K a).stop i H/\D.nx σ H)\/((jY K a).go i H /\ ∃N:St->Hp->Prop,(∀σ' H',N σ' H'->∃m',m'<m/\W (i+1) m' σ' H') /\ ∀x H',(jY K a).fZ i H x H'->g x σ H' λσ2 H2=>tb {D with nx:=N,ct:=N,bk:=D.nx} σ2 H2):=by
 refine⟨λi m σ H=>m=xs.length-i/\i<=xs.length/\Pv i σ H,⟨xs.length,by simp,Vs _,h0⟩,?_⟩;rintro i m σ H ⟨rfl,hi,p⟩;have q:=hl i σ H hi p
 by_cases hlt:i<xs.length
 ·refine .inr ⟨⟨xs,xs[i],q,by simp[hlt]⟩,Pv (i+1),λσ' H' p'=>⟨xs.length-(i+1),by lia,rfl,hlt,p'⟩,λx H' y=>?_⟩
  obtain⟨e,y⟩:=y;subst e;exact hs i x σ _ (y xs q) p
 ·have e:i=xs.length:=by lia
  subst e;exact .inl ⟨⟨xs,q,wn _⟩,hd σ H p⟩
theorem zAk{K:wa}{a:wf}{xs:List V}(Pv:Nat->St->Hp->Prop)(h0:Pv 0 σ H)(hl:∀i σ H,i<=xs.length->Pv i σ H->bA K H a xs)
  (hs:∀i x σ H,xs[i]? = some x->Pv i σ H->g x σ H λσ2 H2=>tb {D with nx:=Pv (i+1),ct:=Pv (i+1),bk:=D.nx} σ2 H2) (hd:∀σ H,Pv xs.length σ H->D.nx σ H) :
  ∃W:Nat->Nat->St->Hp->Prop,(∃m,W 0 m σ H) /\ ∀i m σ H,W i m σ H ->
   ((jQ K a).stop i H/\D.nx σ H)\/((jQ K a).go i H /\ ∃N:St->Hp->Prop,(∀σ' H',N σ' H'->∃m',m'<m/\W (i+1) m' σ' H') /\ ∀x H',(jQ K a).fZ i H x H'->g x σ H' λσ2 H2=>tb {D with nx:=N,ct:=N,bk:=D.nx} σ2 H2):=by
 refine⟨λi m σ H=>m=xs.length-i/\i<=xs.length/\Pv i σ H,⟨xs.length,by simp,Vs _,h0⟩,?_⟩;rintro i m σ H ⟨rfl,hi,p⟩;have q:=hl i σ H hi p
 by_cases hlt:i<xs.length
 ·refine .inr ⟨⟨xs,xs[i],q,by simp[hlt]⟩,Pv (i+1),λσ' H' p'=>⟨xs.length-(i+1),by lia,rfl,hlt,p'⟩,λx H' y=>?_⟩
  obtain⟨e,y⟩:=y;subst e;exact hs i x σ _ (y xs q) p
 ·have e:i=xs.length:=by lia
  subst e;exact .inl ⟨⟨xs,q,wn _⟩,hd σ H p⟩
theorem O7{lo:Int}{n:Nat}(Pv:Nat->St->Hp->Prop)(h0:Pv 0 σ H)
  (hs:∀i σ H,i<n->Pv i σ H->g (.int (lo+i)) σ H λσ2 H2=>tb {D with nx:=Pv (i+1),ct:=Pv (i+1),bk:=D.nx} σ2 H2) (hd:∀σ H,Pv n σ H->D.nx σ H) :
  ∃W:Nat->Nat->St->Hp->Prop,(∃m,W 0 m σ H) /\ ∀i m σ H,W i m σ H ->
   ((h_ lo n).stop i H/\D.nx σ H)\/((h_ lo n).go i H /\ ∃N:St->Hp->Prop,(∀σ' H',N σ' H'->∃m',m'<m/\W (i+1) m' σ' H') /\ ∀x H',(h_ lo n).fZ i H x H'->g x σ H' λσ2 H2=>tb {D with nx:=N,ct:=N,bk:=D.nx} σ2 H2):=by
 refine⟨λi m σ H=>m=n-i/\i<=n/\Pv i σ H,⟨n,by simp,Vs _,h0⟩,?_⟩;rintro i m σ H ⟨rfl,hi,p⟩
 by_cases hlt:i<n
 ·refine .inr ⟨hlt,Pv (i+1),λσ' H' p'=>⟨n-(i+1),by lia,rfl,hlt,p'⟩,λx H' y=>?_⟩
  obtain⟨e,y⟩:=y;subst e y;exact hs i σ _ hlt p
 ·have e:i=n:=by lia
  subst e;exact .inl ⟨wn _,hd σ H p⟩
abbrev R2:=V->V->Hp->VK->Prop
def aM(X:Cx)(f:Value->Value->Sem Value)(r:R2):Prop :=
 ∀(pins:List (wf × Obj))(s:Shared)(σ : St)(H:Hp)(x y:V)(v u:Value)(Q:VK),Inv X pins σ H s->bK x v->bK y u->r x y H Q ->
  wq (model X.prog X.w) X.A (f v u) (EP X pins σ Q) X.xe s
def DH(X:Cx)(f:Value->Sem Value)(r:V->Hp->VK->Prop):Prop :=
 ∀(pins:List (wf × Obj))(s:Shared)(σ : St)(H:Hp)(x:V)(v:Value)(Q:VK),Inv X pins σ H s->bK x v->r x H Q ->
  wq (model X.prog X.w) X.A (f v) (EP X pins σ Q) X.xe s
def aN(X:Cx)(f:Value)(r:List V->Hp->VK->Prop):Prop :=
 ∀(pins:List (wf × Obj))(s:Shared)(σ : St)(H:Hp)(xs:List V)(us:List Value)(Q:VK),Inv X pins σ H s->aW xs us->r xs H Q ->
  wq (model X.prog X.w) X.A (call f us) (EP X pins σ Q) X.xe s
def zEt(X:Cx)(r:V->Hp->(Bool->Hp->Prop)->Prop):Prop :=
 ∀(pins:List (wf × Obj))(s:Shared)(σ : St)(H:Hp)(x:V)(v:Value)(Q:Bool->Hp->Prop),Inv X pins σ H s->bK x v->r x H Q ->
  wq (model X.prog X.w) X.A (truthy v) (TP X pins σ Q) X.xe s
def kK(r:R2)(ta tb:TE):TE:=λσ H Q=>ta σ H λx H1=>tb σ H1 λy H2=>r x y H2 Q
def SO(r:V->Hp->VK->Prop)(ta:TE):TE:=λσ H Q=>ta σ H λx H1=>r x H1 Q
def rI(C:Int->Int->Prop)(g:Int->Int->V):R2:=λx y H Q=>∃i j,x=.int i/\y=.int j/\C i j/\Q (g i j) H
def jB(g:Int->Int->V):R2:=λx y H Q=>∃i j,x=.int i/\y=.int j/\Q (g i j) H
def rU(g:Int->V):V->Hp->VK->Prop:=λx H Q=>∃i,x=.int i/\Q (g i) H
section
variable{X:Cx}{a b c:Expr}{ta tb tc:TE}{pos:Pos}
theorem Bt(ha:PE X a ta)(hb:PE X b tb){pins:List (wf × Obj)}{s:Shared}{σ : St}{H:Hp}{R:V->V->Hp->Prop}(I:Inv X pins σ H s)
  (h:ta σ H λx H1=>tb σ H1 λy H2=>R x y H2) {Q:Value->Shared->Prop} {f:Value->Value->Sem Value}
  (hf:∀v u s2 x y H2,Inv X pins σ H2 s2->bK x v->bK y u->R x y H2->wq (model X.prog X.w) X.A (f v u) Q X.xe s2) :
  wq (model X.prog X.w) X.A (eval a X.env) (λv s₁=>wq (model X.prog X.w) X.A (eval b X.env) (λu s₂=>wq (model X.prog X.w) X.A (f v u) Q X.xe s₂) X.xe s₁) X.xe s:=by
 refine aQ (ha pins s σ H _ I h) λv s1 ⟨x,H1,I1,r1,q1⟩=>?_
 refine aQ (hb pins s1 σ H1 _ I1 q1) λu s2 ⟨y,H2,I2,r2,q2⟩=>?_
 exact hf v u s2 x y H2 I2 r1 r2 q2
theorem aB{op:Operator}{r:R2}(ho:aM X (Wd op) r)(ha:PE X a ta)(hb:PE X b tb):PE X (.BinOp a op b pos) (kK r ta tb):=by
 intro pins s σ H Q I h;exact wpAny_BinOp (Bt ha hb I h λv u s2 x y H2 I2 rx ry q=>ho pins s2 σ H2 x y v u Q I2 rx ry q)
theorem fE{op:UnaryOp}{r:V->Hp->VK->Prop}(ho:DH X (unaryOp op) r)(ha:PE X a ta):PE X (.UnaryOp op a pos) (SO r ta):=by
 intro pins s σ H Q I h;exact UnaryOp_ (aQ (ha pins s σ H _ I h) λv s1 ⟨x,H1,I1,r1,q1⟩=>ho pins s1 σ H1 x v Q I1 r1 q1)
theorem y_{f:Value->Value->Sem Value}{C:Int->Int->Prop}{g:Int->Int->Int}
  (rule:∀(i j:Int)(t u:Tok)(s:Shared)(Q:Value->Shared->Prop)(E:Value->Shared->Prop),C i j->Q (.int (g i j) s.toks) {s with toks:=s.toks+1}->wq (model X.prog X.w) X.A (f (.int i t) (.int j u)) Q E s) :
  aM X f (rI C λi j=>.int (g i j)):=by
 intro pins s σ H x y v u Q I rx ry h;obtain⟨i,j,rfl,rfl,hc,q⟩:=h;obtain⟨t,rfl⟩:=rx;obtain⟨t',rfl⟩:=ry;exact rule i j t t' s _ _ hc ⟨.int (g i j),H,I.tok _,⟨_,rfl⟩,q⟩
theorem Uw{f:Value->Value->Sem Value}{g:Int->Int->Int}
  (rule:∀(i j:Int)(t u:Tok)(s:Shared)(Q:Value->Shared->Prop)(E:Value->Shared->Prop),Q (.int (g i j) s.toks) {s with toks:=s.toks+1}->wq (model X.prog X.w) X.A (f (.int i t) (.int j u)) Q E s) :
  aM X f (jB λi j=>.int (g i j)):=by
 intro pins s σ H x y v u Q I rx ry h;obtain⟨i,j,rfl,rfl,q⟩:=h;obtain⟨t,rfl⟩:=rx;obtain⟨t',rfl⟩:=ry;exact rule i j t t' s _ _ ⟨.int (g i j),H,I.tok _,⟨_,rfl⟩,q⟩
theorem zu{f:Value->Value->Sem Value}{g:Int->Int->Bool}
  (rule:∀(i j:Int)(t u:Tok)(s:Shared)(Q:Value->Shared->Prop)(E:Value->Shared->Prop),Q (.bool (g i j)) s->wq (model X.prog X.w) X.A (f (.int i t) (.int j u)) Q E s) :
  aM X f (jB λi j=>.bl (g i j)):=by
 intro pins s σ H x y v u Q I rx ry h;obtain⟨i,j,rfl,rfl,q⟩:=h;obtain⟨t,rfl⟩:=rx;obtain⟨t',rfl⟩:=ry;exact rule i j t t' s _ _ ⟨.bl (g i j),H,I,rfl,q⟩
def RZ(i j:Int):Prop:=0<=j/\j<=1000000/\i.natAbs<2^64
theorem zCM:aM X (Wd .Add) (jB λi j=>.int (i+j)):=Uw λ_ _ _ _ _ _ _ q=>add_int q
theorem jd:aM X (Wd .Sub) (jB λi j=>.int (i-j)):=Uw λ_ _ _ _ _ _ _ q=>sub_int q
theorem iB:aM X (Wd .Mod) (rI (λ_ j=>0<j) λi j=>.int (i % j)):=y_ λi j _ _ _ _ _ hc q=>by
 have h1:(0:Int)<j:=hc;exact mod_int' (by lia) (by rw[Int.fmod_eq_emod_of_nonneg i (by lia)];exact q)
theorem zC9:aM X (Wd .Pow) (rI RZ λi j=>.int (i^j.toNat)):=y_ λ_ _ _ _ _ _ _ hc q=>pow_int_small hc.1 hc.2.1 hc.2.2 q
theorem unI{f:Value->Sem Value}{g:Int->Int}
  (rule:∀(i:Int)(t:Tok)(s:Shared)(Q:Value->Shared->Prop)(E:Value->Shared->Prop),Q (.int (g i) s.toks) {s with toks:=s.toks+1}->wq (model X.prog X.w) X.A (f (.int i t)) Q E s) :
  DH X f (rU λi=>.int (g i)):=by
 intro pins s σ H x v Q I rx h;obtain⟨i,rfl,q⟩:=h;obtain⟨t,rfl⟩:=rx;exact rule i t s _ _ ⟨.int (g i),H,I.tok _,⟨_,rfl⟩,q⟩
theorem fC:DH X (unaryOp .USub) (rU λi=>.int (-i)):=unI λ_ _ _ _ _ q=>neg_int q
end
section
variable{X:Cx}{a b c:Expr}{ta tb tc:TE}{pos:Pos}
variable{r r':R2}{op:CmpOp}
theorem Pz{pins:List (wf × Obj)}{σ : St}{H:Hp}{s:Shared}{Q:VK}{k k':Bool}(I:Inv X pins σ H s)(q:Q (.bl k) H)(e:k=k'):EP X pins σ Q (.bool k') s:=by
 subst e;exact⟨.bl k,H,I,rfl,q⟩
theorem pB :aM X (compareOp .Lt) (jB λi j=>.bl (decide (i<j))):=zu λ_ _ _ _ _ _ _ q=>lt_int q
theorem nh :aM X (compareOp .LtE) (jB λi j=>.bl (decide (i<=j))):=zu λ_ _ _ _ _ _ _ q=>le_int q
theorem oF :aM X (compareOp .Gt) (jB λi j=>.bl (decide (j<i))):=zu λ_ _ _ _ _ _ _ q=>gt_int q
theorem FR :aM X (compareOp .GtE) (jB λi j=>.bl (decide (j<=i))):=zu λ_ _ _ _ _ _ _ q=>ge_int q
theorem zCA :aM X (compareOp .Is) (λx y H Q=>y=.bG/\Q (.bl (decide (x=.bG))) H):=by
 intro pins s σ H x y v u Q I rx ry h;obtain⟨rfl,q⟩:=h;cases ry;refine is_none_gen (Pz I q ?_)
 cases x<;>first
  | (cases rx;rfl)
  | (obtain⟨t,rfl⟩:=rx;rfl)
theorem aM.or{f:Value->Value->Sem Value}(h:aM X f r)(h':aM X f r'):aM X f (λx y H Q=>r x y H Q\/r' x y H Q):=by
 intro pins s σ H x y v u Q I rx ry q;rcases q with q | q
 ·exact h pins s σ H x y v u Q I rx ry q
 ·exact h' pins s σ H x y v u Q I rx ry q
theorem bN(b:Expr)(h:op≠.In:=by decide)(h2:op≠.NotIn:=by decide):behindInMarks op b=false:=by
 have e1:(op == CmpOp.In)=false:=by cases op<;>first | rfl | exact absurd rfl h
 have e2:(op == CmpOp.NotIn)=false:=by cases op<;>first | rfl | exact absurd rfl h2
 cases b<;>simp[behindInMarks,e1,e2]
theorem fj(ho:aM X (compareOp op) r)(ha:PE X a ta)(hb:PE X b tb)(hm:behindInMarks op b=false):PE X (.Compare a [op] [b] pos) (kK r ta tb):=by
 intro pins s σ H Q I h;exact wpAny_Compare1 (Bt ha hb I h λv u s2 x y H2 I2 rx ry q=>ho pins s2 σ H2 x y v u Q I2 rx ry q) hm
def Dr(t:TE):TT:=λσ H Q=>t σ H λx H'=>∃k,x=.bl k/\Q k H'
theorem cw(ho:aM X (compareOp op) r)(ha:PE X a ta)(hb:PE X b tb)(hm:behindInMarks op b=false):PT X (.Compare a [op] [b] pos) (Dr (kK r ta tb)):=by
 intro pins s σ H Q I h
 refine wpAny_isTrue_Compare1 (aQ (ha pins s σ H _ I h) λv s1 ⟨x,H1,I1,r1,q1⟩=>aQ (hb pins s1 σ H1 _ I1 q1) λu s2 ⟨y,H2,I2,r2,q2⟩ =>
  aQ (ho pins s2 σ H2 x y v u _ I2 r1 r2 q2) λc s3 ⟨z,H3,I3,r3,k,e,q3⟩=>?_) hm
 subst e;cases r3;exact Wb ⟨H3,I3,q3⟩
def EN(r r':R2)(ta tb tc:TE):TE:=λσ H Q=>ta σ H λx H1=>tb σ H1 λy H2=>r x y H2 λz H3=>∃k,z=.bl k /\
 (if k=true then tc σ H3 λw' H4=>r' y w' H4 Q else Q (.bl false) H3)
theorem zyM{op':CmpOp}(ho:aM X (compareOp op) r)(ho':aM X (compareOp op') r')(ha:PE X a ta)(hb:PE X b tb)(hc:PE X c tc)
  (hm:lastMarks [op,op'] [b,c]=false:=by with_unfolding_all rfl):PE X (.Compare a [op,op'] [b,c] pos) (EN r r' ta tb tc):=by
 intro pins s σ H Q I h
 refine Compare_chain (aQ (ha pins s σ H _ I h) λv s1 ⟨x,H1,I1,r1,q1⟩=>chain_link (aQ (hb pins s1 σ H1 _ I1 q1) λu s2 ⟨y,H2,I2,r2,q2⟩ =>
  aQ (ho pins s2 σ H2 x y v u _ I2 r1 r2 q2) λd s3 ⟨z,H3,I3,r3,k,e,q3⟩=>?_)) hm
 subst e;cases r3;refine Wb ?_;cases k with
 | false=>exact ite_ff ⟨.bl false,H3,I3,rfl,q3⟩
 | true=>exact ite_tt (chain_last (aQ (hc pins s3 σ H3 _ I3 q3) λw' s4 ⟨z',H4,I4,r4,q4⟩=>ho' pins s4 σ H4 y z' u w' Q I4 r2 r4 q4))
theorem zyq{op':CmpOp}(ho:aM X (compareOp op) r)(ho':aM X (compareOp op') r')(ha:PE X a ta)(hb:PE X b tb)(hc:PE X c tc)
  (hm:lastMarks [op,op'] [b,c]=false:=by with_unfolding_all rfl):PT X (.Compare a [op,op'] [b,c] pos) (Dr (EN r r' ta tb tc)):=by
 intro pins s σ H Q I h
 refine isTrue_chain (aQ (ha pins s σ H _ I h) λv s1 ⟨x,H1,I1,r1,q1⟩=>test_link (aQ (hb pins s1 σ H1 _ I1 q1) λu s2 ⟨y,H2,I2,r2,q2⟩ =>
  aQ (ho pins s2 σ H2 x y v u _ I2 r1 r2 q2) λd s3 ⟨z,H3,I3,r3,k,e,q3⟩=>?_)) hm
 subst e;cases r3;refine Wb ?_;cases k with
 | false =>
  obtain⟨k',e',q'⟩:=q3;cases e';exact ite_ff ⟨H3,I3,q'⟩
 | true =>
  refine ite_tt (test_last (aQ (hc pins s3 σ H3 _ I3 q3) λw' s4 ⟨z',H4,I4,r4,q4⟩=>aQ (ho' pins s4 σ H4 y z' u w' _ I4 r2 r4 q4) λd' s5 ⟨z2,H5,I5,r5,k2,e2,q5⟩=>?_));subst e2;cases r5;exact Wb ⟨H5,I5,q5⟩
def Bu(K:wa)(x:V)(H:Hp)(k:Bool):Prop :=
 match x with
 | .bG=>k=false
 | .bl b=>k=b
 | .int i=>k=(i != 0)
 | .str y=>y.length<=wX/\k=((y.length:Int) != 0)
 | .byt y=>y.size<=wX/\k=((y.size:Int) != 0)
 | .ref p=>(∃xs,aP K H p xs/\k = !xs.isEmpty)\/(∃xs,bA K H p xs/\k = !xs.isEmpty) \/ ∃kvs,H p=some (.dK kvs)/\k = !kvs.isEmpty
 | _=>False
theorem zud{κ : Type}{kvs:List (κ × V)}{vs:List (κ × Value)}(r:KV kvs vs):(!vs.isEmpty) = !kvs.isEmpty:=by
 cases r<;>rfl
theorem MV{xs:List V}{its:List Value}(r:aW xs its):(!its.toArray.isEmpty) = !xs.isEmpty:=by
 cases r<;>simp
theorem oK :(wX:Nat)<2^63:=by rw[Wp];decide
theorem zCB :zEt X (λx H Q=>∃k,Bu X.K x H k/\Q k H):=by
 intro pins s σ H x v Q I rx h;obtain⟨k,e,q⟩:=h;have hl:=oK;have hs:wX=16777216:=Wp;cases x with
 | bG =>
  cases rx;have e':k=false:=e;subst e';exact truthy_none ⟨H,I,q⟩
 | bl b =>
  cases rx;have e':k=b:=e;subst e';exact Wb ⟨H,I,q⟩
 | int i =>
  obtain⟨t,rfl⟩:=rx;have e':k=(i != 0):=e;subst e';exact PySem.P.truthy_int ⟨H,I,q⟩
 | str y =>
  obtain⟨t,rfl⟩:=rx;obtain⟨hy,e'⟩:y.length<=wX/\k=((y.length:Int) != 0):=e;subst e';exact PySem.P.truthy_str (by lia) ⟨H,I.tok _,q⟩
 | byt y =>
  obtain⟨t,rfl⟩:=rx;obtain⟨hy,e'⟩:y.size<=wX/\k=((y.size:Int) != 0):=e;subst e';exact PySem.W.truthy_bytes (by lia) ⟨H,I.tok _,q⟩
 | ref p =>
  cases rx;have e':(∃xs,aP X.K H p xs/\k = !xs.isEmpty)\/(∃xs,bA X.K H p xs/\k = !xs.isEmpty) \/ ∃kvs,H p=some (.dK kvs)/\k = !kvs.isEmpty:=e;rcases e' with⟨xs,hx,e'⟩ | ⟨xs,hx,e'⟩ | ⟨kvs,hx,e'⟩
  ·subst e'
   obtain⟨its,r,pl,hz⟩:=I.list hx;have hlen:=r.length;exact wpAny_truthy_list pl.isList (by simp only[wF];lia) ⟨H,I.tok _,by rw[MV r];exact q⟩
  ·subst e'
   obtain⟨its,r,pl,hz⟩:=I.tuple hx;have hlen:=r.length;exact truthy_tuple pl (by simp only[wF];lia) ⟨H,I.tok _,by rw[MV r];exact q⟩
  ·subst e'
   obtain⟨hz,hS,vs,r,m⟩:kvs.length<=wX/\(p == qa)=false /\ ∃vs,KV kvs vs/\s.heap.DictOf (FJ X.prog X.w) p vs:=I.aO p _ hx;have hlen:kvs.length=vs.length:=X4 r;exact wpAny_truthy_dict hS m (by lia) ⟨H,I.tok _,by rw[zud r];exact q⟩
 | _=>exact(show False from e).elim
theorem zyv(ha:PE X a ta)(he:∀whole,isTrue a X.env whole=(do let v <- whole;standAt a.pos;holding [v] (truthy v))) :
  PT X a (λσ H Q=>ta σ H λx H'=>∃k,Bu X.K x H' k/\Q k H'):=by
 intro pins s σ H Q I h;exact isTrue_plain (aQ (ha pins s σ H _ I h) λv s1 ⟨x,H1,I1,r1,q1⟩=>zCB pins s1 σ H1 x v Q I1 r1 q1) (he _)
theorem zt5 :aM X (Wd .Add) (λx y H Q=>∃i j,x=.str i/\y=.str j/\i.length+j.length<=wX/\Q (.str (i++j)) H):=by
 intro pins s σ H x y v u Q I rx ry h;obtain⟨i,j,rfl,rfl,hz,q⟩:=h;obtain⟨t,rfl⟩:=rx;obtain⟨t',rfl⟩:=ry;exact add_str (λt' tk=>⟨.str (i++j),H,I.tok _,⟨_,rfl⟩,q⟩) hz
theorem jt{x:V}{us:List Value}(r:aW [x] us):∃u,us=[u]/\bK x u:=by
 cases r with
 | cons r1 r2=>cases r2;exact⟨_,rfl,r1⟩
theorem nk{x y:V}{us:List Value}(r:aW [x,y] us):∃u w',us=[u,w']/\bK x u/\bK y w':=by
 cases r with
 | cons r1 r2 =>
  cases r2 with
  | cons r3 r4=>cases r4;exact⟨_,_,rfl,r1,r3⟩
theorem zx1 :aN X (.builtin "abs") (λxs H Q=>∃i,xs=[.int i]/\Q (.int (if i<0 then -i else i)) H):=by
 intro pins s σ H xs us Q I r h;obtain⟨i,rfl,q⟩:=h;obtain⟨u,rfl,t,rfl⟩:=jt r;exact call_abs_int λu tk=>⟨.int (if i<0 then -i else i),H,I.tok _,⟨_,rfl⟩,q⟩
theorem zww(hc:X.calm=true):aN X (.builtin "min") (λxs H Q=>∃i j,xs=[.int i,.int j]/\Q (.int (if j<i then j else i)) H):=by
 intro pins s σ H xs us Q I r h;obtain⟨i,j,rfl,q⟩:=h;obtain⟨u,w',rfl,⟨t,rfl⟩,⟨t',rfl⟩⟩:=nk r;refine min_two_ints (I.ok.hd hc) λh' tk k=>⟨_,H,I.kept k,?_,q⟩
 by_cases hj:j<i
 ·rw[if_pos hj,if_pos hj];exact⟨_,rfl⟩
 ·rw[if_neg hj,if_neg hj];exact⟨_,rfl⟩
end
section
variable{prog:wK}{w:wQ}{A:Around}{E:Value->Shared->Prop}{s:Shared}{K:wa}{x dx C f:wf}{mA:Str->Option Value}{name:Str}{v:Value}
end
section
variable{P:wK}{w:wQ}{H H':Hp}{h h':wJ}{a C dx:wf}{fs fs':List (Str × V)}
end
section
variable{X:Cx}{pins:List (wf × Obj)}{σ : St}{H:Hp}{s:Shared}{a C dx:wf}{fs:List (Str × V)}{f:Str}{v:V}{A:Around}{E:Value->Shared->Prop}
end
section
variable{X:Cx}{o e value:Expr}{f:Str}{pos pos' tpos:Pos}{ta tv:TE}
end
section
variable{X:Cx}{pins:List (wf × Obj)}{σ : St}{H:Hp}{s:Shared}{A:Around}{E:Value->Shared->Prop}{Q:Value->Shared->Prop}{c:Value}{b:Bool}
end
variable{k:Nat}{A:Around}
structure eJ(k:Nat)(A:Around):Prop where
 hd:A.handled=none
 dp:A.depth+3*k+5<recursionLimit
 un:A.units+16*k+200<cLine
 gd:A.guards=some []
theorem eJ.mono{j:Nat}(r:eJ k A)(h:j<=k):eJ j A:=⟨r.hd,by have:=r.dp;lia,by have:=r.un;lia,by first | exact r.gd | (simp[ue,Code.guards,uf,guardIds];exact r.gd)⟩
theorem eJ.deeper(r:eJ (k+1) A)(env:Env):eJ k (A.deeper env) :=
 ⟨r.hd,by have:=r.dp;show A.depth+1+3*k+5<_;lia,by have:=r.un;show A.units+3+16*k+200<_;lia,by first | exact r.gd | (simp[ue,Code.guards,uf,guardIds];exact r.gd)⟩
theorem eJ.depth(r:eJ k A):A.depth<recursionLimit:=by have:=r.dp;lia
theorem eJ.units(r:eJ k A):A.units+64<cLine:=by have:=r.un;lia
def rV:TA:=λ_ H Q=>Q [] H
def AO(ta:TE)(tr:TA):TA:=λσ H Q=>ta σ H λx H1=>tr σ H1 λxs H2=>Q (x::xs) H2
section
variable{X:Cx}{e:Expr}{es:List Expr}{te:TE}{t:TA}{pos:Pos}
theorem af:PA X [] rV:=λ_ _ _ _ H Q I h=>Qo ⟨[],H,I,.nil,h⟩
theorem ae(ha:PE X e te)(hr:PA X es t)(hs:wR (e::es) X.env=(false,eval e X.env)::wR es X.env:=by rfl):PA X (e::es) (AO te t):=by
 intro pos pins s σ H Q I h;rw[hs]
 show wq _ _ (spliced ((false,eval e X.env)::backTo pos (wR es X.env))) _ _ s
 refine Qd (aQ (ha pins s σ H _ I h) λu s1 ⟨x,H1,I1,r1,q1⟩=>?_);exact aQ (hr pos pins s1 σ H1 _ I1 q1) λus s2 ⟨xs,H2,I2,r2,q2⟩=>⟨x::xs,H2,I2,.cons r1 r2,q2⟩
def zEA(t:TA):TE:=λσ H Q=>t σ H λxs H1=>xs.length<=wX /\ ∀p,H1 p=none->Q (.ref p) (upd H1 p (.tup xs))
def zEx(t:TA):TE:=λσ H Q=>t σ H λxs H1=>xs.length<=wX /\ ∀p,H1 p=none->Q (.ref p) (upd H1 p (.lst xs))
theorem zC7{x1}(h:PA X es t):PE X (.Tuple es x1 pos) (zEA t):=by
 intro pins s σ H Q I hq;refine wpAny_Tuple_spliced (aQ (h pos pins s σ H _ I hq) λus s1 ⟨xs,H1,I1,r,z,q⟩=>⟨by rw[<- r.length];exact z,?_⟩);have hf:H1 s1.heap.objs.size=none:=I1.aO.fresh (wn _);refine⟨.ref s1.heap.objs.size,upd H1 s1.heap.objs.size (.tup xs),I1.laid (t':=s1.toks) (λb u e=>wm _ e) (wn _) ?_,rfl,q _ hf⟩;exact⟨z,us,r,⟨_,wN _ rfl,rfl,_,rfl⟩⟩
theorem zDu(h:PA X es t):PE X (.List es pos) (zEx t):=by
 intro pins s σ H Q I hq;refine wpAny_List_spliced (aQ (h pos pins s σ H _ I hq) λus s1 ⟨xs,H1,I1,r,z,q⟩=>⟨by rw[<- r.length];exact z,?_⟩);have hf:H1 s1.heap.objs.size=none:=I1.aO.fresh (wn _);refine⟨.ref s1.heap.objs.size,upd H1 s1.heap.objs.size (.lst xs),I1.laid (t':=s1.toks) (λb u e=>wm _ e) (wn _) ?_,rfl,q _ hf⟩;exact⟨z,us,0,r,wN _ rfl⟩
end
abbrev Sp:=List V->Hp->VK->XK->Prop
abbrev gL:=List Env->Hp->Shared->XK->Value->Shared->Prop
structure zW(P:wK)(w:wQ)(K:wa)(mg:Str->Option Value)(base:wJ)(A:Around)(outer:List Env)(s:Shared)(H:Hp):Prop where
 frames:A.frames=some outer
 mod:Mod K mg base
 bs:∀b o,base.get? b=some o->s.heap.get? b=some o/\H b=none
 jm:base.objs.size<=s.heap.objs.size
 fJ:s.heap.FunFrames base outer
 j9:∀b∈eK outer,H b=none
 aO:dE P w H s.heap
 bare:AllBare s.gens
def CE(outer:List Env)(P:wK)(w:wQ)(H:Hp)(s:Shared)(Q:VK)(u:Value)(s':Shared):Prop :=
 ∃v H',s'.os=s.os/\AllBare s'.gens/\Un (eK outer) [] H H' s.heap s'.heap/\dE P w H' s'.heap/\bK v u/\Q v H'
def CR(CX:gL)(outer:List Env)(P:wK)(w:wQ)(H:Hp)(s:Shared)(Q:VK)(E:XK)(r:Result)(s':Shared):Prop :=
 match r with
 | .ok (.ret u)=>CE outer P w H s Q u s'
 | .ok _=>False
 | .error e=>CX outer H s E e s'
structure aI(P:wK)(w:wQ)(K:wa)(mg:Str->Option Value)(base:wJ)(CX:gL)(k:Nat)(f:wf)(fd:wx)(ps:List Str)(sp:Sp):Prop where
 len:∀vs H Q E,sp vs H Q E->vs.length=ps.length
 run:∀(A:Around)(outer:List Env)(s:Shared)(H:Hp)(args:Args)(us:List Value)(vs:List V)(Q:VK)(E:XK),eJ k A->zW P w K mg base A outer s H->BindsTo s fd args (ps.zip us)->aW vs us->sp vs H Q E ->
   codeAny (model P w) A (.call (.ref f) args) (CR CX outer P w H s Q E) s
section
variable{X:Cx}{pins:List (wf × Obj)}{σ : St}{H:Hp}{s s':Shared}
theorem Inv.KU(I:Inv X pins σ H s):zW X.prog X.w X.K X.mg X.base X.A X.stack s H :=
 ⟨I.ok.frames,I.ok.mod,I.bs,Wg I.ok.jm I.sz,I.stack,I.tV,I.aO,I.bare⟩
theorem Inv.after{Q:VK}{u:Value}(I:Inv X pins σ H s)(h:CE X.stack X.prog X.w H s Q u s'):EP X pins σ Q u s':=by
 obtain⟨v,H',os,bare,un,aO,r,q⟩:=h;obtain⟨hh,g,d,t,os'⟩:=s';obtain rfl:os'=s.os:=os;exact⟨v,H',I.call (h':=hh) (g':=g) (d':=d) (t':=t) (ch:=[]) un aO bare (λb z=>absurd z (by simp)),r,q⟩
end
def og(sp:Sp)(dvs:List V)(E:XK)(t:TA):TE:=λσ H Q=>t σ H λvs H1=>sp (vs++dvs) H1 Q E
def lJ(K:wa)(fd:wx)(ps:List Str)(ds:List Value):Prop :=
 ∀(s:Shared)(us:List Value),K.In s.heap->(us++ds).length=ps.length->BindsTo s fd ⟨us,[]⟩ (ps.zip (us++ds))
theorem lJ.all{K:wa}{fd:wx}{ps:List Str}(h:∀us:List Value,us.length=ps.length->bindArgs fd ⟨us,[]⟩=pure (ps.zip us)):lJ K fd ps []:=λs us _ hl=>by
 rw[vW]at hl ⊢;exact .of_eq (h us hl)
def m_(CX:gL)(X:Cx)(E:XK):Prop:=∀(pins:List (wf × Obj))(σ : St)(H:Hp)(s:Shared)(e:Value)(s':Shared),Inv X pins σ H s->CX X.stack H s E e s'->X.xe e s'
section
variable{X:Cx}{CX:gL}{k:Nat}{f C:wf}{fd:wx}{ps:List Str}{sp:Sp}{dvs:List V}{ds:List Value}{E:XK}{x m:Str}{p pos apos:Pos}{e o:Expr}{es:List Expr}{ta:TE}{t:TA}
theorem SX{pins:List (wf × Obj)}{σ : St}{H:Hp}{s:Shared}{Q:VK}{us:List Value}{vs:List V}(F:aI X.prog X.w X.K X.mg X.base CX k f fd ps sp)(hr:eJ k X.A)(hb:lJ X.K fd ps ds)(hd:aW dvs ds)(hx:m_ CX X E)
  (I:Inv X pins σ H s) (r:aW vs us) (h:sp (vs++dvs) H Q E):wq (model X.prog X.w) X.A (call (.ref f) us) (EP X pins σ Q) X.xe s:=by
 have r2:aW (vs++dvs) (us++ds):=r.append hd;have hl:(us++ds).length=ps.length:=by rw[<- r2.length];exact F.len _ _ _ _ h
 refine wpAny_call (codeAny_mono (F.run X.A X.stack s H ⟨us,[]⟩ (us++ds) (vs++dvs) Q E hr I.KU (hb s us I.d5 hl) r2 h) λr s' hq=>?_);cases r with
 | error e=>exact hx pins σ H s e s' I hq
 | ok fl =>
  cases fl with
  | ret u=>exact I.after hq
  | next=>exact WB hq
  | brk=>exact WB hq
  | cont=>exact WB hq
theorem LQ(F:aI X.prog X.w X.K X.mg X.base CX k f fd ps sp)(hr:eJ k X.A)(hg:Gl X x)(hm:X.mg x=some (.ref f))(hk:VU X.K (.ref f)=true)(hb:lJ X.K fd ps ds)(hd:aW dvs ds)(hx:m_ CX X E)
  (ha:PA X (e::es) t) (hdb:(x == ("__debug__" : Str))=false:=by decide) (he:wR (e::es) X.env=(false,eval e X.env)::wR es X.env:=by rfl) (hpl:(backTo pos (wR es X.env)).any (·.1)=false:=by rfl) :
  PE X (.Call (.Name x p) (e::es) [] pos) (og sp dvs E t):=by
 intro pins s σ H Q I h;refine VO (oD I hg hm ?_ hdb);refine xI (h₀:=X.base) I.ok.mod.rL hk (aQ (ha pos pins s σ H _ I h) λus s1 ⟨vs,H1,I1,r,q⟩=>⟨I1.d5,?_⟩) he hpl;exact SX F hr hb hd hx I1 r q
theorem Uk(F:aI X.prog X.w X.K X.mg X.base CX k f fd ps sp)(hr:eJ k X.A)(hg:Gl X x)(hm:X.mg x=some (.ref f))(hk:VU X.K (.ref f)=true)(hb:lJ X.K fd ps ds)(hd:aW dvs ds)(hx:m_ CX X E)
  (hdb:(x == ("__debug__" : Str))=false:=by decide):PE X (.Call (.Name x p) [] [] pos) (og sp dvs E rV):=by
 intro pins s σ H Q I h;refine VO (oD I hg hm ?_ hdb);exact PySem.W.callWith_K0 I.d5 hk (SX (us:=[]) F hr hb hd hx I .nil h)
end
section
variable{X:Cx}{CX:gL}{k:Nat}{f C:wf}{fd:wx}{ps ks:List Str}{sp:Sp}{E:XK}{x m:Str}{p pos apos kpos:Pos}{e o:Expr}{es:List Expr}{kws:List Keyword}{te ta:TE}{t tk:TA}{nm:Option Str}
variable{g:List Value->List Value->List Value}{gV:List V->List V->List V}
end
variable{base:wJ}{qual:Str}
structure aS(N P:List Str)(sc:Scope):Prop where
 kind:sc.kind=.function
 co:sc.isCoroutine=false
 gen:sc.isGenerator=false
 nd:N.Nodup
 pre:N.take P.length=P
 par:∀x∈P,sc.names.lookup x=some .local\/sc.names.lookup x=some .cell
 YW:∀y∈sc.names,y.2≠.free
theorem Pu{kindOf:Str->Option WG}{x:Str} : ∀{binds:List (Str × Value)}{m:Str->Option Value},(∀v,(x,v) ∉ binds)->bindL kindOf binds m x=m x
 | [],_,_=>rfl
 | (n,v)::r,m,h=>by
  unfold bindL;rw[Pu λw hw=>h w (wu _ hw)]
  split
  ·have:x≠n:=by rintro rfl;exact h v wB
   simp[this]
  ·rfl
theorem Mb{kindOf:Str->Option WG}{x:Str} : ∀{binds:List (Str × Value)}{m:Str->Option Value},(∀v,(x,v) ∉ binds)->bindC kindOf binds m x=m x
 | [],_,_=>rfl
 | (n,v)::r,m,h=>by
  unfold bindC;rw[Mb λw hw=>h w (wu _ hw)]
  split
  ·rfl
  ·have:x≠n:=by rintro rfl;exact h v wB
   simp[this]
theorem Nq{kindOf:Str->Option WG}{x:Str}{v:Value} : ∀{P:List Str}{vs:List Value}{i:Nat}{m:Str->Option Value},P.Nodup->P[i]? = some x->vs[i]? = some v->kindOf x=some .local ->
  bindL kindOf (P.zip vs) m x=some v
 | [],_,_,_,_,h,_,_=>by simp at h
 | _::_,[],_,_,_,_,h,_=>by simp at h
 | p::P,w::vs,0,m,nd,h1,h2,hk=>by
  simp at h1 h2;subst h1;subst h2
  show bindL kindOf ((p,w)::P.zip vs) m p=_
  unfold bindL;rw[Pu λv hv=>(VL.mp nd).1 (QK hv).1,if_pos hk];simp
 | p::P,w::vs,i+1,m,nd,h1,h2,hk=>by
  show bindL kindOf ((p,w)::P.zip vs) m x=_
  unfold bindL;exact Nq (i:=i) (VL.mp nd).2 (by simpa using h1) (by simpa using h2) hk
theorem O_{kindOf:Str->Option WG}{x:Str}{v:Value} : ∀{P:List Str}{vs:List Value}{i:Nat}{m:Str->Option Value},P.Nodup->P[i]? = some x->vs[i]? = some v->kindOf x≠some .local ->
  bindC kindOf (P.zip vs) m x=some v
 | [],_,_,_,_,h,_,_=>by simp at h
 | _::_,[],_,_,_,_,h,_=>by simp at h
 | p::P,w::vs,0,m,nd,h1,h2,hk=>by
  simp at h1 h2;subst h1;subst h2
  show bindC kindOf ((p,w)::P.zip vs) m p=_
  unfold bindC;rw[Mb λv hv=>(VL.mp nd).1 (QK hv).1,if_neg hk];simp
 | p::P,w::vs,i+1,m,nd,h1,h2,hk=>by
  show bindC kindOf ((p,w)::P.zip vs) m x=_
  unfold bindC;exact O_ (i:=i) (VL.mp nd).2 (by simpa using h1) (by simpa using h2) hk
def start(N:List Str)(vs:List V):St:=vs.map some++w8 (N.length-vs.length) none
def jH(CX:gL)(P:wK)(w:wQ)(K:wa)(mg:Str->Option Value)(base:wJ)(N:List Str)(qual:Str)(scope:Scope)(f:wf)(cd:Value)(A:Around)(outer:List Env)(s:Shared)(H:Hp)(E:XK):Cx where
 prog:=P
 w:=w
 K:=K
 mg:=mg
 base:=base
 A:=A.deeper (envOfC qual scope s.heap.objs.size f cd)
 N:=N
 s₀:=s
 H₀:=H
 env:=envOfC qual scope s.heap.objs.size f cd
 outer:=outer
 stack:=envOfC qual scope s.heap.objs.size f cd::outer
 ex:=[]
 calm:=true
 fn:=λ_=>true
 pn:=[]
 xe:=λe s'=>wq (model P w) (A.deeper (envOfC qual scope s.heap.objs.size f cd)) (leaving (envOfC qual scope s.heap.objs.size f cd) e) (λ_ s''=>CX outer H s E e s'') (λe' s''=>CX outer H s E e' s'') s'
theorem Gn{sc:Scope}{n:Nat}{x:Str}(h:sc.names.lookup x=some .cell):∃c,(cellsFrom n sc.names []).lookup x=some c:=by
 have q:=QV sc.names n [] (.inl h);exact Option.isSome_iff_exists.mp q
theorem zxh{CX:gL}{P:wK}{w:wQ}{K:wa}{mg:Str->Option Value}{N ps:List Str}{scope:Scope}{f:wf}{cd:Value}{A:Around}{outer:List Env}{s s1:Shared}{H:Hp}{E:XK}{us:List Value}{vs:List V}
  (S:aS N ps scope) (hd:A.handled=none) (e0:zW P w K mg base A outer s H) (hl:vs.length=ps.length) (r:aW vs us)
  (x:InCallC s s.heap.objs.size (bindL (envOfC qual scope s.heap.objs.size f cd).kindOf (ps.zip us) λ_=>none) (cellsFrom (s.heap.objs.size+1) scope.names []) (bindC (envOfC qual scope s.heap.objs.size f cd).kindOf (ps.zip us) λ_=>none) s1) :
  Inv (jH CX P w K mg base N qual scope f cd A outer s H E) [] (start N vs) H s1:=by
 have hpl:ps.length<=N.length:=by have:=congrArg Xg S.pre;rw[vG]at this;lia
 obtain⟨h1,tk,rfl,hk⟩:=x.done;have noA:∀b:wf,b ∉ (jH CX P w K mg base N qual scope f cd A outer s H E).ex:=λb z=>absurd (show b∈([]:List wf)from z) (by simp)
 refine⟨⟨e0.mod,S.kind,rfl,rfl,wn _,λy z c h1 h2=>?_,λy hy=>?_,λy c _ h=>?_,λ_=>hd,Around.frames_deeper e0.frames,.inr ⟨rfl,rfl⟩,λb z=>absurd z (noA b),e0.bs,e0.jm,λb _ _=>noA b,λb z=>absurd z (noA b),e0.fJ,e0.j9⟩,
  rfl,e0.bare,Un.kept hk,⟨_,x.toInCall.ns,λi y v h1 h2 h3=>?_⟩,λy c h=>⟨_,x.cell y c h⟩,e0.aO.fresh (wn _),λy c h=>?_,λp hp=>absurd (show p∈([]:List (wf × Obj))from hp) (by simp),e0.aO.kept hk,?_⟩
 ·exact name_of_addr x.apart (WY h1) (WY h2)
 ·have hy:scope.names.lookup y=some .cell\/scope.names.lookup y=some .free:=hy
  rcases hy with hy | hy
  ·exact Gn hy
  ·exact absurd rfl (S.YW _ (WY hy))
 ·exact WN (x.above y c (WY h))
 ·have hi:i<vs.length:=by
   unfold start at h2
   by_cases hi:i<vs.length
   ·exact hi
   ·rw[vf (by simpa using hi)]at h2
    rw[QF]at h2
    split at h2<;>cases h2
  have ha:vs[i]? = some v:=by
   unfold start at h2;rw[vR (by simpa using hi),wo]at h2;cases e:vs[i]? with
   | none=>rw[e]at h2;cases h2
   | some a=>rw[e]at h2;cases h2;rfl
  obtain⟨u,hu,rv⟩:=r.get ha
  have hp:ps[i]? = some y:=by
   rw[<- S.pre,List.getElem?_take_of_lt (by lia)];exact h1
  have ndP:ps.Nodup:=by rw[<- S.pre];exact S.nd.sublist (xU _ _)
  refine⟨u,rv,?_⟩;rcases S.par y (V6 hp)with k | k
  ·exact .inl ⟨k,Nq ndP hp hu k⟩
  ·obtain⟨c,e⟩:=Gn (n:=s.heap.objs.size+1) k
   refine .inr ⟨.inl k,c,e,?_⟩;have q:=x.cell y c e;rw[O_ ndP hp hu (by show scope.names.lookup y≠_;rw[k];decide)]at q;exact q
 ·exact e0.aO.fresh (WN (x.above y c (WY h)))
 ·unfold start
  show _=N.length
  rw[wy,wl,Wl]
  lia
theorem PJ{CX:gL}{P:wK}{w:wQ}{K:wa}{mg:Str->Option Value}{k:Nat}{f:wf}{name:Str}{params:Arguments}{body:List wU}{scope:Scope}{dV kV doc pm cdv ct oc:Value}{an od:Option wf}
  {osl:Array (Option Value)} {N ps:List Str} {sp:Sp} (lk:K.lookup f=some ⟨oc,od,.func (Vu name qual params body scope dV kV doc pm an cdv ct),osl⟩) (hcd:qX K cdv qual=true) (S:aS N ps scope)
  (len:∀vs H Q E,sp vs H Q E->vs.length=ps.length)
  (hbody:∀(A:Around)(outer:List Env)(s:Shared)(H:Hp)(vs:List V)(Q:VK)(E:XK),eJ k (A.deeper (envOfC qual scope s.heap.objs.size f cdv))->sp vs H Q E ->
   ∃t,fQ (jH CX P w K mg base N qual scope f cdv A outer s H E) body t/\t {nx:=λ_ H'=>Q .bG H',rt:=Q} (start N vs) H) :
  aI P w K mg base CX (k+1) f (Vu name qual params body scope dV kV doc pm an cdv ct) ps sp:=by
 refine⟨len,λA outer s H args us vs Q E hr e0 hb r hsp=>?_⟩;have hl:=len _ _ _ _ hsp;have KX:K.In s.heap:=e0.mod.rL.keeps λb o e=>(e0.bs b o e).1
 have lim:s.heap.NoLimit:=e0.mod.nolimit.keeps λb o e=>(e0.bs b o e).1
 have hkind:∀y∈ps.zip us,scope.names.lookup y.1=some .local\/(scope.names.lookup y.1=some .cell/\((cellsFrom (s.heap.objs.size+1) scope.names []).lookup y.1).isSome=true):=λ⟨n,v⟩ hy=>by
  rcases S.par n (QK hy).1 with q | q
  ·exact .inl q
  ·exact .inr ⟨q,QV _ _ _ (.inl q)⟩
 refine codeAny_call_function hr.depth (KX _ _ lk) rfl S.co S.gen rfl (PySem.W.codeRec_of KX hcd) (hb _ _ _ _ ?_);refine wpAny_newFunctionEnv_cells S.kind hkind λenv he s1 x=>?_
 subst he;refine⟨lim.keeps x.toInCall.keep,codeAny_func ?_⟩;obtain⟨t,ht,hq⟩:=hbody A outer s H vs Q E (hr.deeper _) hsp;have I:Inv (jH CX P w K mg base N qual scope f cdv A outer s H E) [] (start N vs) H s1:=zxh S hr.hd e0 hl r x;refine Ws (ht [] s1 (start N vs) H _ I hq) (λfl s' hs=>?_) λe s' hs=>hs
 have fin:∀{σ':St}{H':Hp}{v:V}{u:Value},Inv (jH CX P w K mg base N qual scope f cdv A outer s H E) [] σ' H' s'->bK v u->Q v H'->CE outer P w H s Q u s' :=
  λ{σ' H' v u} J rv q=>⟨v,H',J.os,J.bare,J.base,J.aO,rv,q⟩
 cases fl with
 | ret u =>
  obtain⟨v,σ',H',J,rv,q⟩:=hs;exact fin J rv q
 | next =>
  obtain⟨σ',H',J,q⟩:=hs;exact fin (v:=V.bG) (u:=Value.none) J rfl q
 | brk =>
  obtain⟨_,_,_,q⟩:=hs;exact WB q
 | cont =>
  obtain⟨_,_,_,q⟩:=hs;exact WB q
section
variable{X:Cx}{x:Str}{p pos:Pos}{e:Expr}{es:List Expr}{t:TA}{id T:String}{r:List V->Hp->VK->Prop}
def DP(r:List V->Hp->VK->Prop)(t:TA):TE:=λσ H Q=>t σ H λvs H1=>r vs H1 Q
theorem bQ(hc:aN X (.builtin id) r)(hg:Gl X x)(hm:X.mg x=none)(hv:vJ x=some (.builtin id))(ha:PA X (e::es) t)(hn:x≠"__name__":=by decide)(hdb:(x == ("__debug__" : Str))=false:=by decide)
  (he:wR (e::es) X.env=(false,eval e X.env)::wR es X.env:=by rfl) (hpl:(backTo pos (wR es X.env)).any (·.1)=false:=by rfl):PE X (.Call (.Name x p) (e::es) [] pos) (DP r t):=by
 intro pins s σ H Q I h;refine VO (iH I hg hm hv ?_ hn hdb);exact PyProof.Rows.callWith_builtin1 (aQ (ha pos pins s σ H _ I h) λus s1 ⟨vs,H1,I1,r1,q1⟩=>hc pins s1 σ H1 vs us Q I1 r1 q1) he hpl
theorem dW(hc:aN X (.type T) r)(hg:Gl X x)(hm:X.mg x=none)(hv:vJ x=some (.type T))(ha:PA X (e::es) t)(hn:x≠"__name__":=by decide)(hdb:(x == ("__debug__" : Str))=false:=by decide)
  (he:wR (e::es) X.env=(false,eval e X.env)::wR es X.env:=by rfl) (hpl:(backTo pos (wR es X.env)).any (·.1)=false:=by rfl):PE X (.Call (.Name x p) (e::es) [] pos) (DP r t):=by
 intro pins s σ H Q I h;refine VO (iH I hg hm hv ?_ hn hdb);exact vg (aQ (ha pos pins s σ H _ I h) λus s1 ⟨vs,H1,I1,r1,q1⟩=>hc pins s1 σ H1 vs us Q I1 r1 q1) he hpl
end
section
variable{κ : Type}[DecidableEq κ]
end
abbrev KT(H:Hp):List (List Key × V)->List (List Key × wf × Value)->Prop:=Paired λp q=>p.1=q.1/\H q.2.1=some (.tup (p.1.map kV))/\bK p.2 q.2.2
section
variable{P:wK}{w:wQ}{H:Hp}{h:wJ}{a:wf}
end
section
variable{X:Cx}{pins:List (wf × Obj)}{σ : St}{H:Hp}{s:Shared}{a:wf}{y v:V}{u r:Value}{o:Option V}{A:Around}{E:Value->Shared->Prop}
theorem Inv.big(I:Inv X pins σ H s):qa<s.heap.objs.size:=by
 have h:wM<s.heap.objs.size:=(I.mod.glob.keeps I.bk).lt;exact Nat.lt_trans (by decide) h
end
section
variable{X:Cx}{pins:List (wf × Obj)}{σ : St}{H:Hp}{s:Shared}{a:wf}{kvs:List (Key × V)}{k:Key}{u:Value}{A:Around}{E:Value->Shared->Prop}
end
def PQ(i:Expr):Prop:=∀ov iv,subscripted i false ov iv=operate [ov,iv] (getItem ov iv)
theorem zAB{prog:wK}{w:wQ}{A:Around}{E:Value->Shared->Prop}{s:Shared}{env:Env}{value slice:Expr}{pos:Pos}{T id:String}{Q:Value->Shared->Prop}
  (hl:typeLookup (.type T) "__getitem__"=pure (some (.builtin id))) (hs:PQ slice)
  (h:wq (model prog w) A (eval value env) (λo s₁=>wq (model prog w) A (eval slice env) (λi s₂=>s₂.TypeIs o T/\wq (model prog w) A (getItem o i) Q E s₂) E s₁) E s) :
  wq (model prog w) A (eval (.Subscript value slice pos) env) Q E s:=by
 refine Subscript_ (Ws h (λo s₁ h₁=>Ws h₁ (λi s₂ h₂=>?_) λ_ _ x=>x) λ_ _ x=>x);obtain⟨hT,h₂⟩:=h₂;unfold subscriptTail;refine wg ?_;rw[getitemInPython_of_ne hT.not_modules];refine wg (wpAny_specialOf hT hl ?_)
 have fin:wq (model prog w) A (subscripted slice false o i) (λr s₃=>wq (model prog w) A (letTemporaryGo value o r >>= λ_=>pure r) Q E s₃) E s₂:=by
  rw[hs o i];exact wpAny_operating (Ws h₂ (λr s₃ h₃=>wg (wpAny_letTemporaryGo (wt h₃))) λ_ _ x=>x)
 first
  | exact wt (wg fin)
  | exact wg (wt (wg fin))
  | exact wg fin
section
variable{X:Cx}{o i e value:Expr}{pos pos' tpos:Pos}{td ty tv:TE}
end
theorem zyX{P:wK}{w:wQ}{H:Hp}(h:wJ)(hb:qa<h.objs.size):d7 P w H (h.push {cls:=.type "dict",data:=.dict #[]}) h.objs.size (.dK []) :=
 ⟨Vs _,beq_eq_false_iff_ne.mpr (Wr (wO hb)),[],.nil,Heap.DictOf.new h⟩
def TH:TE:=λ_ H Q=>∀p,H p=none->Q (.ref p) (upd H p (.dK []))
section
variable{X:Cx}{pos:Pos}
theorem zxS:PE X (.Dict [] [] pos) TH:=λpins s σ H Q I h =>
 wpAny_Dict_empty ⟨.ref s.heap.objs.size,_,I.laid (a:=s.heap.objs.size) (o:=.dK []) (t':=s.toks) (λ_ _ q=>wm _ q) (wn _) (zyX s.heap I.big),rfl,h _ (I.aO.fresh (wn _))⟩
end
abbrev VV:List (V × V)->List (Value × Value)->Prop:=Paired λp q=>bK p.1 q.1/\bK p.2 q.2
section
variable{X:Cx}{pins:List (wf × Obj)}{σ : St}{H:Hp}{s:Shared}{a:wf}{y d:V}{u r:Value}{o:Option V}{A:Around}{E:Value->Shared->Prop}
end
section
variable{X:Cx}{o e f:Expr}{apos cpos:Pos}{td ty tx:TE}
end
section
variable{X:Cx}{pins:List (wf × Obj)}{σ : St}{H:Hp}{s:Shared}{a:wf}{kvs:List (Key × V)}{A:Around}{E:Value->Shared->Prop}
end
section
variable{X:Cx}{pins:List (wf × Obj)}{σ : St}{H:Hp}{s:Shared}{a:wf}{y:V}{u:Value}{A:Around}{E:Value->Shared->Prop}
end
end L2
namespace HT
open PySem PyProof.Rows
section
open PySem.SeqAt
open PySem.AutoSeq1 (wpAny_loadPart')
open PySem.MeetsSeq PySem.MeetsSeq2 PySem.MeetsSeq3
end
section
variable{prog:wK}{w:wQ}{A:Around}{E:Value->Shared->Prop}{s:Shared}
theorem YS{t b:wf}{vs ws:List Value}{Q:Value->Shared->Prop}(ht:IsTup s.heap t vs.toArray)(hb:IsTup s.heap b ws.toArray)(hv:vs≠[])
  (h1:ws=[]->Q (.ref t) s) (h2:ws≠[]->Q (.ref s.heap.objs.size) {s with heap:=s.heap.push {cls:=.type "tuple",data:=.seq (vs++ws).toArray}})
  (hsz:vs.length+ws.length<=wX):wq (model prog w) A (Wd .Add (.ref t) (.ref b)) Q E s:=by
 obtain⟨⟨cls,dd,data,sl⟩,ho,hc,n,hd⟩:=id ht;obtain⟨⟨cls2,dd2,data2,sl2⟩,ho2,hc2,n2,hd2⟩:=id hb;simp only at hc hd hc2 hd2;subst hc hd hc2 hd2;have e:vs.toArray++ws.toArray=(vs++ws).toArray:=by simp
 by_cases hw:ws=[]
 ·exact concat_meets ⟨_,ho,rfl⟩ ⟨_,ho2,rfl⟩ noFill_tuple_add seq_tuple_add qI qC (qm _ _)
   (tuple_addW1 t b vs.toArray ws.toArray n n2 dd dd2 sl sl2 (by simpa using hv) (by simp[hw])) ⟨ho,ho2,h1 hw⟩
 ·refine concat_meets ⟨_,ho,rfl⟩ ⟨_,ho2,rfl⟩ noFill_tuple_add seq_tuple_add qI qC (qm _ _)
   (tuple_addW2 t b vs.toArray ws.toArray n n2 dd dd2 sl sl2 (by simpa using hv) (by simpa using hw) (by rw[wF,wF];exact hsz)) ⟨ho,ho2,?_⟩
  rw[e];exact h2 hw
def bD(n d:Nat):Option Int->Nat
 | none=>d
 | some v=>if v<0 then(v+(n:Int)).toNat else min v.toNat n
theorem JQ(n d:Nat):bD n d none=d:=rfl
theorem Kg(n d k:Nat):bD n d (some (k:Int))=min k n:=by
 show(if(k:Int)<0 then((k:Int)+(n:Int)).toNat else min (k:Int).toNat n)=min k n
 rw[if_neg (by lia),wS]
theorem zDr(n d:Nat)(hd:d<=n)(o:Option Int):bD n d o<=n:=by
 cases o with
 | none=>exact hd
 | some v =>
  show(if v<0 then(v+(n:Int)).toNat else min v.toNat n)<=n
  by_cases hv:v<0
  ·rw[if_pos hv];lia
  ·rw[if_neg hv];exact Xn _ _
theorem Uj(v:Int)(n d:Nat):(if v<0 then max (v+(n:Int)) 0 else min v (n:Int))=((bD n d (some v):Nat):Int):=by
 show(if v<0 then max (v+(n:Int)) 0 else min v (n:Int))=(((if v<0 then(v+(n:Int)).toNat else min v.toNat n):Nat):Int)
 by_cases hv:v<0
 ·simp only[if_pos hv];lia
 ·simp only[if_neg hv];lia
theorem zuB(lo hi:Option Int)(n:Nat):qh lo hi 1 (n:Int)=(((bD n 0 lo:Nat):Int),((bD n n hi:Nat):Int)):=by
 have h1:¬ ((1:Int)<0):=by lia
 unfold qh;simp only[h1,if_false];refine VP ?_ ?_
 ·cases lo with
  | none=>rfl
  | some v=>exact Uj v n 0
 ·cases hi with
  | none=>rfl
  | some v=>exact Uj v n n
theorem ZN(i j:Nat):Vn (i:Int) (j:Int) 1=j-i:=by
 unfold Vn;have h1:(1:Int) > 0:=by lia
 simp only[h1,if_true,Int.ediv_one]
 split<;>lia
theorem Mw{v:Value}{o:Option Int}{Q:Option Int->Shared->Prop}(p:IsPart v o)(h:Q o s):wq (model prog w) A (XY v) Q E s:=by
 cases p with
 | none=>exact slicePart_none h
 | int i t=>exact slicePart_int h
theorem zlB{sl:wf}{vl vu:Value}{lo hi:Option Int}{n:Nat}{Q:Int × Int × Nat->Shared->Prop}(hs:s.heap.IsSliceOf sl vl vu .none)(pl:IsPart vl lo)(pu:IsPart vu hi)
  (h:Q (((bD n 0 lo:Nat):Int),1,bD n n hi-bD n 0 lo) s):wq (model prog w) A (Qh (.ref sl) (pure (n:Int))) Q E s:=by
 obtain⟨os,hos,hcs,hds⟩:=id hs;unfold Qh ua;refine wg (wg (vi hos hds (x:=vl) rfl (wg (vi hos hds (x:=vu) rfl (wg (vi hos hds (x:=.none) rfl (wt ?_)))))));refine wg (slicePart_none ?_)
 show wq _ _ (if((1:Int) == 0)=true then _ else _) _ _ s
 rw[if_neg (by decide)];refine wg (Mw pl (wg (Mw pu (wg (wt ?_)))))
 show wq _ _ (match qh lo hi 1 (n:Int)with | (lo,hi)=>pure (lo,(1:Int),Vn lo hi 1)) _ _ s
 rw[zuB lo hi n]
 show wq _ _ (pure (((bD n 0 lo:Nat):Int),(1:Int),Vn ((bD n 0 lo:Nat):Int) ((bD n n hi:Nat):Int) 1)) _ _ s
 rw[ZN];exact wt h
theorem zzh(xs:Array Value)(i k:Nat):((wp k).filterMap λ(m:Nat)=>xs[((i:Int)+(m:Int)*1).toNat]?).toArray=((xs.toList.drop i).take k).toArray:=by
 have e:(λ(m:Nat)=>xs[((i:Int)+(m:Int)*1).toNat]?)=λm=>xs[i+m]?:=by
  funext m
  have:((i:Int)+(m:Int)*1).toNat=i+m:=by lia
  rw[this]
 rw[e];have:=pick_run xs i k;rw[List.filterMap_map]at this;have e2:((λx=>xs[x]?) ∘ λx=>i+x)=λm=>xs[i+m]?:=rfl
 rw[e2]at this;rw[this]
theorem YA{t sl:wf}{items:Array Value}{vl vu:Value}{lo hi:Option Int}{Q:Value->Shared->Prop}(ht:IsTup s.heap t items)(hs:s.heap.IsSliceOf sl vl vu .none)(pl:IsPart vl lo)(pu:IsPart vu hi)
  (hw:¬ (bD items.size 0 lo=0/\bD items.size items.size hi=items.size))
  (h:Q (.ref s.heap.objs.size) {s with heap:=s.heap.push {cls:=.type "tuple",data:=.seq ((items.toList.drop (bD items.size 0 lo)).take (bD items.size items.size hi-bD items.size 0 lo)).toArray}})
  (hsz:items.size<=wX):wq (model prog w) A (getItem (.ref t) (.ref sl)) Q E s:=by
 have htake:sizeOk (.seq ((items.toList.drop (bD items.size 0 lo)).take (bD items.size items.size hi-bD items.size 0 lo)).toArray):=by
  show((items.toList.drop (bD items.size 0 lo)).take (bD items.size items.size hi-bD items.size 0 lo)).toArray.size<=wX
  rw[wF,vG,ve,WX]
  lia
 have hj:bD items.size items.size hi<=items.size:=zDr _ _ (wn _) hi;obtain⟨os,hos,hcs,hds⟩:=id hs;have hTs:s.TypeIs (.ref sl) "slice":=⟨os,hos,hcs⟩;unfold getItem
 try with_reducible refine WD ?_
 first | refine wg (wt ?_) | skip
 refine wg (wpAny_sequenceKey ht.typeIs (by decide) ?_)
 refine wg (wpAny_callSpecial?_slot (name:=vQ "__getitem__") ht.typeIs VG
  (Wa VG ht.typeIs entry_tuple_getitem ?_ (args_tuple_getitem _ _)))
 show wq _ _ (Qi (.ref t) >>= _) _ _ s
 refine wg (tupleItemsOf_ ht ?_);refine wg (wpAny_typeOf hTs ?_);rw[if_pos (by decide)];refine wg (zlB hs pl pu ?_)
 have hno:¬ ((((bD items.size 0 lo:Nat):Int) == 0&&(1:Int) == 1&&(bD items.size items.size hi-bD items.size 0 lo) == items.size)=true):=by
  intro q;rw[wT,wT]at q;have q1:((bD items.size 0 lo:Nat):Int)=0:=eq_of_beq q.1.1;have q2:bD items.size items.size hi-bD items.size 0 lo=items.size:=eq_of_beq q.2;exact hw ⟨by lia,by lia⟩
 show wq _ _ (if(((bD items.size 0 lo:Nat):Int) == 0&&(1:Int) == 1&&(bD items.size items.size hi-bD items.size 0 lo) == items.size)=true then _ else _) _ _ s
 rw[if_neg hno,zzh]
 first
  | exact wg (m:=Vv _) (Wt (wt ⟨_,rfl,wt h⟩) htake)
  | exact wg (m:=Vv _) (Wt (wg (wt (wt ⟨_,rfl,wt h⟩))) htake)
  | exact wg (wg (m:=Vv _) (Wt (wt (wt ⟨_,rfl,wt h⟩)) htake))
  | exact wg (wg (m:=Vv _) (Wt (wt ⟨_,rfl,wt h⟩) htake))
end
end HT
namespace L2
open PySem PySem.Spec PyProof.Rows
abbrev TO:=St->Hp->(Option Int->Hp->Prop)->Prop
def PO(X:Cx)(e:Option Expr)(t:TO):Prop :=
 ∀(pins:List (wf × Obj))(s:Shared)(σ : St)(H:Hp)(Q:Option Int->Hp->Prop),Inv X pins σ H s->t σ H Q ->
  wq (model X.prog X.w) X.A (evalPart e X.env) (λu s'=>∃o H',Inv X pins σ H' s'/\IsPart u o/\Q o H') X.xe s
def Pw:TO:=λ_ H Q=>Q none H
def PR(t:TE):TO:=λσ H Q=>t σ H λx H1=>∃i,x=.int i/\Q (some i) H1
theorem BE{ns:List Int} : ∀{us:List Value},aW (ns.map V.int) us->IntsAre us ns:=by
 induction ns with
 | nil=>intro us r;rw[Qx]at r;cases r;exact .nil
 | cons n ns ih =>
  intro us r;rw[w5]at r;cases r with
  | cons r1 r2 =>
   obtain⟨t,e⟩:=r1;subst e;exact .cons n t (ih r2)
section
variable{X:Cx}{e:Expr}{te:TE}{lo hi:Option Expr}{tl th:TO}{pos p2:Pos}
theorem fS:PO X none Pw:=by
 intro pins s σ H Q I h;rw[evalPart_none];exact wt ⟨none,H,I,.none,h⟩
theorem fT(h:PE X e te):PO X (some e) (PR te):=by
 intro pins s σ H Q I hw;rw[evalPart_some];refine aQ (h pins s σ H _ I hw) λu s1 ⟨x,H1,I1,r1,q1⟩=>?_
 obtain⟨i,rfl,q⟩:=q1;obtain⟨t,rfl⟩:=r1;exact⟨some i,H1,I1,.int i t,q⟩
def kl(X:Cx)(r:V->Option Int->Option Int->Hp->VK->Prop):Prop :=
 ∀(pins:List (wf × Obj))(s:Shared)(σ : St)(H:Hp)(x:V)(v vl vu:Value)(lo hi:Option Int)(sl:wf)(Q:VK),Inv X pins σ H s->bK x v->s.heap.IsSliceOf sl vl vu .none->IsPart vl lo->IsPart vu hi->r x lo hi H Q ->
  ∃T id,typeLookup (.type T) "__getitem__"=pure (some (.builtin id))/\s.TypeIs v T/\wq (model X.prog X.w) X.A (getItem v (.ref sl)) (EP X pins σ Q) X.xe s
theorem kl.or{r r':V->Option Int->Option Int->Hp->VK->Prop}(h:kl X r)(h':kl X r'):kl X (λx lo hi H Q=>r x lo hi H Q\/r' x lo hi H Q):=by
 intro pins s σ H x v vl vu lo hi sl Q I rx hs pl pu q;rcases q with q | q
 ·exact h pins s σ H x v vl vu lo hi sl Q I rx hs pl pu q
 ·exact h' pins s σ H x v vl vu lo hi sl Q I rx hs pl pu q
def Pe(r:V->Option Int->Option Int->Hp->VK->Prop)(te:TE)(tl th:TO):TE:=λσ H Q=>te σ H λx H1=>tl σ H1 λl H2=>th σ H2 λu H3=>r x l u H3 Q
theorem fY{r:V->Option Int->Option Int->Hp->VK->Prop}(hr:kl X r)(he:PE X e te)(hl:PO X lo tl)(hu:PO X hi th):PE X (.Subscript e (.Slice lo hi none p2) pos) (Pe r te tl th):=by
 intro pins s σ H Q I h;refine Subscript_ (aQ (he pins s σ H _ I h) λv s1 ⟨x,H1,I1,r1,q1⟩=>?_);refine wpAny_Slice (aQ (hl pins s1 σ H1 _ I1 q1) λvl s2 ⟨l,H2,I2,pl,q2⟩=>aQ (hu pins s2 σ H2 _ I2 q2) λvu s3 ⟨u,H3,I3,pu,q3⟩=>?_);rw[evalPart_none];refine wt ?_;have I4:Inv X pins σ H3 {s3 with heap:=s3.heap.push {cls:=.type "slice",data:=.fields #[vl,vu,.none]}}:=I3.kept (t':=s3.toks) λb ob q=>wm _ q
 obtain⟨T,id,hT,ht,hg⟩:=hr pins {s3 with heap:=s3.heap.push {cls:=.type "slice",data:=.fields #[vl,vu,.none]}} σ H3 x v vl vu l u s3.heap.objs.size Q I4 r1 (um ..) pl pu q3
 show wq (model X.prog X.w) X.A (subscriptTail e (.Slice lo hi none p2) v (.ref s3.heap.objs.size)) (EP X pins σ Q) X.xe {s3 with heap:=s3.heap.push {cls:=.type "slice",data:=.fields #[vl,vu,.none]}}
 exact tail_any (ops:=[.ref s3.heap.objs.size,v]) ht hT hg (by with_unfolding_all rfl)
def fW(xs:List V)(lo hi:Option Int):List V:=(xs.drop (HT.bD xs.length 0 lo)).take (HT.bD xs.length xs.length hi-HT.bD xs.length 0 lo)
theorem PF(xs:List V)(lo hi:Option Int):(fW xs lo hi).length<=xs.length:=by
 unfold fW;rw[vG,ve]
 lia
def Sm(K:wa):V->Option Int->Option Int->Hp->VK->Prop:=λx lo hi H Q=>∃a xs,x=.ref a/\bA K H a xs /\
 ¬ (HT.bD xs.length 0 lo=0/\HT.bD xs.length xs.length hi=xs.length) /\ ∀p,H p=none->Q (.ref p) (upd H p (.tup (fW xs lo hi)))
theorem zDo:kl X (Sm X.K):=by
 intro pins s σ H x v vl vu lo hi sl Q I rx hs pl pu h;obtain⟨a,xs,rfl,hx,hw,q⟩:=h;cases rx;obtain⟨its,r,ht,hz⟩:=I.tuple hx;have hlen:its.toArray.size=xs.length:=by rw[wF];exact r.length.symm
 refine⟨"tuple",_,VG.lookup,ht.typeIs,?_⟩;refine HT.YA ht hs pl pu (by rw[hlen];exact hw) ?_ (by rw[hlen];exact hz);rw[hlen];refine⟨.ref s.heap.objs.size,_,I.laid (t':=s.toks) (o:=.tup (fW xs lo hi)) (λb ob q=>wm _ q) (wn _) ?_,rfl,q _ (I.aO.fresh (wn _))⟩;exact⟨Wg (PF xs lo hi) hz,_,(r.drop (HT.bD xs.length 0 lo)).take (HT.bD xs.length xs.length hi-HT.bD xs.length 0 lo),qM _ _⟩
def Lc(K:wa):R2:=λx y H Q=>∃a b xs ys,x=.ref a/\y=.ref b/\bA K H a xs/\bA K H b ys/\xs≠[]/\xs.length+ys.length<=wX /\
 (ys=[]->Q (.ref a) H)/\(ys≠[]->∀p,H p=none->Q (.ref p) (upd H p (.tup (xs++ys))))
theorem aW.Bk{xs:List V}{us:List Value}(r:aW xs us):us=[] ↔ xs=[]:=by
 cases r with
 | nil=>simp
 | cons _ _=>simp
theorem zAr:aM X (Wd .Add) (Lc X.K):=by
 intro pins s σ H x y v u Q I rx ry h;obtain⟨a,b,xs,ys,rfl,rfl,ha,hb,hx,hz,q1,q2⟩:=h;cases rx;cases ry;obtain⟨its,r1,p1,_⟩:=I.tuple ha;obtain⟨its2,r2,p2,_⟩:=I.tuple hb;refine HT.YS p1 p2 (λz=>hx (r1.Bk.mp z)) (λz=>⟨.ref a,H,I,rfl,q1 (r2.Bk.mp z)⟩) (λz=>?_) (by rw[<- r1.length,<- r2.length];exact hz);refine⟨.ref s.heap.objs.size,_,I.laid (t':=s.toks) (o:=.tup (xs++ys)) (λb ob q=>wm _ q) (wn _) ?_,rfl,q2 (λw=>z (r2.Bk.mpr w)) _ (I.aO.fresh (wn _))⟩;exact⟨by rw[wy];exact hz,_,r1.append r2,qM _ _⟩
end
def iV(n:Nat)(i:Int):Option Nat:=if 0<=i then(if i<n then some i.toNat else none)else if -(n:Int)<=i then some (i+n).toNat else none
def jf{α : Type}(xs:List α)(i:Int):Option α:=(iV xs.length i).bind λj=>xs[j]?
theorem RP{n:Nat}{i:Int}{j:Nat}(h:iV n i=some j):seqIndex? i n=some j/\j<n /\ -(n:Int)<=i/\i<n:=by
 unfold iV at h
 by_cases h0:0<=i
 ·rw[if_pos h0]at h
  by_cases h1:i<n
  ·rw[if_pos h1]at h
   have e:i.toNat=j:=wW h;exact⟨by rw[seqIndex_of h0 h1,e],by lia,by lia,h1⟩
  ·rw[if_neg h1]at h;cases h
 ·rw[if_neg h0]at h
  by_cases h1 : -(n:Int)<=i
  ·rw[if_pos h1]at h
   have e:(i+n).toNat=j:=wW h;exact⟨by rw[seqIndex_neg (by lia) h1,e],by lia,h1,by lia⟩
  ·rw[if_neg h1]at h;cases h
theorem F6{α : Type}{xs:List α}{i:Int}{v : α}(h:jf xs i=some v):∃j,seqIndex? i xs.length=some j/\xs[j]? = some v/\j<xs.length /\ -(xs.length:Int)<=i/\i<xs.length:=by
 unfold jf at h;cases e:iV xs.length i with
 | none=>rw[e]at h;cases h
 | some j =>
  rw[e]at h;obtain⟨h1,h2,h3,h4⟩:=RP e;exact⟨j,h1,h,h2,h3,h4⟩
theorem mm{α : Type}{xs:List α}{j:Nat}{v : α}(h:xs[j]? = some v):jf xs (j:Int)=some v:=by
 have hj:j<xs.length:=(wZ.mp h).1
 have e:iV xs.length (j:Int)=some j:=by
  unfold iV;rw[if_pos (by lia),if_pos (by lia)];simp
 unfold jf;rw[e];exact h
def Tw(b:Expr):Prop:=∀o i,subscripted b false o i=operate [o,i] (getItem o i)
def gH(X:Cx)(r:R2):Prop :=
 ∀(value slice:Expr)(pins:List (wf × Obj))(s:Shared)(σ : St)(H:Hp)(x y:V)(v u:Value)(Q:VK),Inv X pins σ H s->bK x v->bK y u->r x y H Q ->
  subscripted slice false v u=operate [v,u] (getItem v u)->wq (model X.prog X.w) X.A (subscriptTail value slice v u) (EP X pins σ Q) X.xe s
def Rl(X:Cx)(id:String)(r:V->List V->Hp->VK->Prop):Prop :=
 ∀(pins:List (wf × Obj))(s:Shared)(σ : St)(H:Hp)(x:V)(xs:List V)(v:Value)(us:List Value)(Q:VK),Inv X pins σ H s->bK x v->aW xs us->r x xs H Q ->
  wq (model X.prog X.w) X.A (call (.builtin id) (v::us)) (EP X pins σ Q) X.xe s
section
variable{X:Cx}{a b:Expr}{ta tb:TE}{pos:Pos}
variable{σ:St}{H:Hp}{s:Shared}{x:V}
theorem gH.or{r r':R2}(h:gH X r)(h':gH X r'):gH X (λx y H Q=>r x y H Q\/r' x y H Q):=by
 intro value slice pins s σ H x y v u Q I rx ry q hs;rcases q with q | q
 ·exact h value slice pins s σ H x y v u Q I rx ry q hs
 ·exact h' value slice pins s σ H x y v u Q I rx ry q hs
theorem c9{r:R2}(hr:gH X r)(ha:PE X a ta)(hb:PE X b tb)(hs:Tw b):PE X (.Subscript a b pos) (kK r ta tb):=by
 intro pins s σ H Q I h;exact Subscript_ (Bt ha hb I h λv u s2 x y H2 I2 rx ry q=>hr a b pins s2 σ H2 x y v u Q I2 rx ry q (hs _ _))
def Up(K:wa):R2:=λx y H Q=>∃p xs i v,x=.ref p/\y=.int i/\aP K H p xs/\jf xs i=some v/\Q v H
def PN(K:wa):R2:=λx y H Q=>∃p xs i v,x=.ref p/\y=.int i/\bA K H p xs/\jf xs i=some v/\Q v H
def Uc:R2:=λx y H Q=>∃z i c,x=.str z/\y=.int i/\z.length<=wX/\jf z.cps.toList i=some c/\Q (.str ⟨#[c]⟩) H
theorem zzZ :gH X (Up X.K):=by
 intro value slice pins s σ H x y v u Q I rx ry h hs;obtain⟨p,xs,i,z,rfl,rfl,hq,he,q⟩:=h;cases rx;obtain⟨t,rfl⟩:=ry;obtain⟨its,r,pl,hz⟩:=I.list hq;obtain⟨j,h1,h2,h3,h4,h5⟩:=F6 he;obtain⟨w,ew,rw'⟩:=r.get h2;have hl:=r.length;have hn:=oK;have fin:EP X pins σ Q w s:=⟨z,H,I,rw',q⟩
 by_cases h0:0<=i
 ·have hj:i.toNat=j:=by
   rw[seqIndex_of h0 h5]at h1;exact wW h1
  exact item_listR pl.isList h0 (by lia) (by rw[hj];simpa using ew) fin hs
 ·have hj:(i+(its.toArray.size:Int)).toNat=j:=by
   rw[seqIndex_neg (by lia) h4]at h1;rw[wF,<- hl];exact wW h1
  exact subscriptTail_builtinR (x:=w) pl.isList.typeIs slot_list_getitem.lookup
   (wpAny_getItem_list_neg (Q:=λr s'=>r=w/\EP X pins σ Q r s') pl.isList (by lia) (by rw[wF]<;>lia) (by lia) (by rw[hj];simpa using ew) ⟨rfl,fin⟩) hs
theorem zC8 :gH X (PN X.K):=by
 intro value slice pins s σ H x y v u Q I rx ry h hs;obtain⟨p,xs,i,z,rfl,rfl,hq,he,q⟩:=h;cases rx;obtain⟨t,rfl⟩:=ry;obtain⟨its,r,pl,hz⟩:=I.tuple hq;obtain⟨j,h1,h2,h3,h4,h5⟩:=F6 he;obtain⟨w,ew,rw'⟩:=r.get h2;have hl:=r.length;have hn:=oK;have fin:EP X pins σ Q w s:=⟨z,H,I,rw',q⟩
 exact subscriptTail_builtinR (x:=w) pl.typeIs slot_tuple_getitem.lookup
  (getItem_tuple (j:=j) (Q:=λr s'=>r=w/\EP X pins σ Q r s') pl (by lia) (by lia) (by rw[wF,<- hl];exact h1) (by simpa using ew) ⟨rfl,fin⟩) hs
theorem zCm :gH X Uc:=by
 intro value slice pins s σ H x y v u Q I rx ry h hs;obtain⟨z,i,c,rfl,rfl,hz,he,q⟩:=h;obtain⟨t,rfl⟩:=rx;obtain⟨t',rfl⟩:=ry;obtain⟨j,h1,h2,h3,h4,h5⟩:=F6 he;have hl:z.cps.toList.length=z.length:=by simp[Str.length]
 rw[hl]at h1 h4 h5;have hn:=oK
 exact tail_any (typeIs_str s z t) slot_str_getitem.lookup (getItem_str (c:=c) (by
  have e1:decide (i < -(2^63:Int))=false:=decide_eq_false (by lia);have e2:decide (i ≥ 2^63)=false:=decide_eq_false (by lia);rw[e1,e2,Bool.or_false]) (by rw[h1];simpa using h2) ⟨.str ⟨#[c]⟩,H,I.tok _,⟨_,rfl⟩,q⟩) hs
def dh(K:wa):R2:=λx y H Q=>Up K x y H Q\/PN K x y H Q\/Uc x y H Q
theorem cJ :gH X (dh X.K):=zzZ.or (zC8.or zCm)
theorem zuM(its:List Value)(n j:Nat)(u:Value):Qt (·.setIfInBounds j u) {cls:=.type "list",data:=.seq its.toArray n} = {cls:=.type "list",data:=.seq (its.set j u).toArray n}:=by
 simp[Qt]
theorem Inv.lst{pins:List (wf × Obj)}{p:wf}{xs:List V}(I:Inv X pins σ H s)(h:H p=some (.lst xs)) :
  ∃(its:List Value)(n:Nat),aW xs its/\s.heap.get? p=some {cls:=.type "list",data:=.seq its.toArray n}/\xs.length<=wX:=by
 obtain⟨z,its,n,r,e⟩:=I.aO p _ h;exact⟨its,n,r,e,z⟩
theorem Inv.YY{pins:List (wf × Obj)}{p:wf}{xs ys:List V}{its its':List Value}{n n':Nat}{f:Obj->Obj}(I:Inv X pins σ H s)(h:H p=some (.lst xs))
  (ho:s.heap.get? p=some {cls:=.type "list",data:=.seq its.toArray n}) (hf:f {cls:=.type "list",data:=.seq its.toArray n} = {cls:=.type "list",data:=.seq its'.toArray n'}) (r:aW ys its') (hz:ys.length<=wX) (t:Nat) :
  Inv X pins σ (upd H p (.lst ys)) {s with heap:=s.heap.update p f,toks:=t}:=by
 have e:(s.heap.update p f).get? p=some {cls:=.type "list",data:=.seq its'.toArray n'}:=by
  rw[VW f ho (by rw[hf]<;>rfl),hf]
 refine I.write (x:=p) (e:=p) (by rw[h];trivial) (.inl rfl) (λb u hb q=>(qJ _ _ (Wr hb)).trans q) ⟨_,e⟩ ?_;exact⟨hz,its',n',r,e⟩
def OS:V->V->V->Hp->(Hp->Prop)->Prop:=λo i v H Q=>∃p xs k j,o=.ref p/\i=.int k/\H p=some (.lst xs)/\iV xs.length k=some j/\Q (upd H p (.lst (xs.set j v)))
theorem rR :Rn X OS:=by
 intro pins s σ H o i v ov iv u Q I ro ri rv h;obtain⟨p,xs,k,j,rfl,rfl,hp,hj,q⟩:=h;cases ro;obtain⟨t,rfl⟩:=ri;obtain⟨its,n,r,ho,hz⟩:=I.lst hp;obtain⟨h1,h2,h3,h4⟩:=RP hj;have hl:=r.length;have hn:=oK
 have I':Inv X pins σ (upd H p (.lst (xs.set j v))) {s with heap:=s.heap.update p (Qt (·.setIfInBounds j u))} :=
  I.YY hp ho (zuM its n j u) (r.set rv j) (by rw[W9];exact hz) s.toks
 by_cases h0:0<=k
 ·have hk:k.toNat=j:=by
   rw[seqIndex_of h0 h4]at h1;exact wW h1
  exact PySem.W.ki_setAt ho h0 (by lia) (by rw[wF,<- hl];exact h4) (by rw[hk];exact⟨_,I',q⟩)
 ·have hk:(k+(its.toArray.size:Int)).toNat=j:=by
   rw[seqIndex_neg (by lia) h3]at h1;rw[wF,<- hl];exact wW h1
  exact PySem.W.ki_setBack ho (by lia) (by rw[wF,<- hl];exact h3) (by lia) (by rw[hk];exact⟨_,I',q⟩)
theorem zqC(lo hi:Option Int)(n:Nat):(qg lo hi none n).1=((HT.bD n 0 lo:Nat):Int)/\(qg lo hi none n).2.1=((HT.bD n n hi:Nat):Int)/\(qg lo hi none n).2.2=1:=by
 refine⟨?_,?_,rfl⟩
 ·cases lo with
  | none=>simp[qg,HT.bD]
  | some i =>
   simp only[qg,HT.bD,Xo,show(1:Int) > 0 by decide,if_true]
   by_cases h:i<0
   ·simp only[h,if_true]<;>lia
   ·simp only[h,if_false]<;>lia
 ·cases hi with
  | none=>simp[qg,HT.bD]
  | some i =>
   simp only[qg,HT.bD,Xo,show(1:Int) > 0 by decide,if_true]
   by_cases h:i<0
   ·simp only[h,if_true]<;>lia
   ·simp only[h,if_false]<;>lia
theorem zo7(its:List Value)(lo hi:Option Int):slicePick its.toArray lo hi none=((its.drop (HT.bD its.length 0 lo)).take (HT.bD its.length its.length hi-HT.bD its.length 0 lo)).toArray:=by
 obtain⟨h1,h2,h3⟩:=zqC lo hi its.toArray.size;unfold slicePick;rw[h1,h2,h3];simp only[sliceRange_one,pick_run,wF]<;>rfl
def TM(K:wa):V->Option Int->Option Int->Hp->VK->Prop:=λx lo hi H Q=>∃a xs,x=.ref a/\aP K H a xs /\ ∀p,H p=none->Q (.ref p) (upd H p (.lst (fW xs lo hi)))
theorem zAb :kl X (TM X.K):=by
 intro pins s σ H x v vl vu lo hi sl Q I rx hs pl pu h;obtain⟨a,xs,rfl,hx,q⟩:=h;cases rx;obtain⟨its,r,ht,hz⟩:=I.list hx;have hlen:=r.length;refine⟨"list",_,slot_list_getitem.lookup,ht.isList.typeIs,?_⟩;refine wpAny_getItem_list_slice ht.isList hs pl pu .none (by simp) ?_ (by rw[wF]<;>lia);rw[zo7,<- hlen];refine⟨.ref s.heap.objs.size,_,I.laid (t':=s.toks) (o:=.lst (fW xs lo hi)) (λb ob q=>wm _ q) (wn _) ?_,rfl,q _ (I.aO.fresh (wn _))⟩;exact⟨Wg (PF xs lo hi) hz,_,0,(r.drop (HT.bD xs.length 0 lo)).take (HT.bD xs.length xs.length hi-HT.bD xs.length 0 lo),wN _ rfl⟩
def kG:V->Bool
 | .bG=>true
 | .bl _=>true
 | .int _=>true
 | .str _=>true
 | _=>false
def lS:V->V->Bool
 | .bG,.bG=>true
 | .bl a,.bl b=>a == b
 | .bl a,.int b=>(if a then 1 else 0) == b
 | .int a,.bl b=>a == (if b then 1 else 0)
 | .int a,.int b=>a == b
 | .str a,.str b=>a == b
 | _,_=>false
theorem zC6{A:Around}{y:V}{u v:Value}(ry:bK y u)(rx:bK x v)(fy:kG y=true)(fx:kG x=true):SeqAt.EqAt A s u v (lS y x):=by
 cases y with
 | bG =>
  cases ry;cases x with
  | bG=>cases rx;exact SeqAt.EqAt.same _
  | bl b=>cases rx;exact SeqAt.EqAt.none_bool b
  | int b=>obtain⟨t,rfl⟩:=rx;exact SeqAt.EqAt.none_int b t
  | str b=>obtain⟨t,rfl⟩:=rx;exact SeqAt.EqAt.none_str b t
  | _=>exact absurd (show false=true from fx) vk
 | bl a =>
  cases ry;cases x with
  | bG=>cases rx;exact SeqAt.EqAt.bool_none a
  | bl b=>cases rx;exact SeqAt.EqAt.bool_bool a b
  | int b=>obtain⟨t,rfl⟩:=rx;exact SeqAt.EqAt.bool_int a b t
  | str b=>obtain⟨t,rfl⟩:=rx;exact SeqAt.EqAt.bool_str a b t
  | _=>exact absurd (show false=true from fx) vk
 | int a =>
  obtain⟨t',rfl⟩:=ry;cases x with
  | bG=>cases rx;exact SeqAt.EqAt.int_none a t'
  | bl b=>cases rx;exact SeqAt.EqAt.int_bool a t' b
  | int b=>obtain⟨t,rfl⟩:=rx;exact SeqAt.EqAt.int_int a t' b t
  | str b=>obtain⟨t,rfl⟩:=rx;exact xE a t' b t
  | _=>exact absurd (show false=true from fx) vk
 | str a =>
  obtain⟨t',rfl⟩:=ry;cases x with
  | bG=>cases rx;exact SeqAt.EqAt.str_none a t'
  | bl b=>cases rx;exact SeqAt.EqAt.str_bool a t' b
  | int b=>obtain⟨t,rfl⟩:=rx;exact xF a t' b t
  | str b=>obtain⟨t,rfl⟩:=rx;exact SeqAt.EqAt.str_str a t' b t
  | _=>exact absurd (show false=true from fx) vk
 | _=>exact absurd (show false=true from fy) vk
def gz(x:V)(u:Value):Bool:=match u with
 | .none=>lS .bG x
 | .bool b=>lS (.bl b) x
 | .int i _=>lS (.int i) x
 | .str z _=>lS (.str z) x
 | _=>false
theorem Rm{y:V}{u:Value}(r:bK y u)(f:kG y=true):gz x u=lS y x:=by
 cases y with
 | bG=>cases r;rfl
 | bl b=>cases r;rfl
 | int i=>obtain⟨t,rfl⟩:=r;rfl
 | str z=>obtain⟨t,rfl⟩:=r;rfl
 | _=>exact absurd (show false=true from f) vk
theorem sJ{x:V} : ∀{xs:List V}{us:List Value},aW xs us->xs.all kG=true->us.any (gz x)=xs.any λy=>lS y x
 | _,_,.nil,_=>rfl
 | y::xs,u::us,.cons r t,f=>by
  rw[Qj,wT]at f;rw[Qk,Qk,Rm r f.1,sJ t f.2]
theorem rH{A:Around}{s:Shared}{x:V}{v:Value}(rx:bK x v)(fx:kG x=true):∀{xs:List V}{us:List Value},aW xs us->xs.all kG=true->∀u∈us,SeqAt.EqAt A s u v (gz x u)
 | _,_,.nil,_=>λu hu=>by cases hu
 | y::xs,u::us,.cons r t,f=>λu' hu=>by
  rw[Qj,wT]at f;rcases wH.mp hu with rfl | hu
  ·rw[Rm r f.1];exact zC6 r rx f.1 fx
  ·exact rH rx fx t f.2 u' hu
def zx(x:V)(xs:List V):Bool:=xs.any λy=>lS y x
def mh(K:wa)(neg:Bool):R2:=λx y H Q=>∃p xs,y=.ref p/\(aP K H p xs\/bA K H p xs)/\kG x=true/\xs.all kG=true/\Q (.bl (if neg then !zx x xs else zx x xs)) H
theorem zwC :aM X (compareOp .In) (mh X.K false):=by
 intro pins s σ H x y v u Q I rx ry h;obtain⟨p,xs,rfl,hq,fx,fs,q⟩:=h;cases ry;rcases hq with hq | hq
 ·obtain⟨its,r,pl,hz⟩:=I.list hq
  refine SeqAt.in_listAt (gz x) pl.isList (λw hw=>rH rx fx r fs w (by simpa using hw)) ⟨.bl _,H,I,rfl,?_⟩;rw[show its.toArray.any (gz x)=its.any (gz x) by simp,sJ r fs];exact q
 ·obtain⟨its,r,pl,hz⟩:=I.tuple hq
  refine SeqAt.in_tupleAt (gz x) pl (λw hw=>rH rx fx r fs w (by simpa using hw)) ⟨.bl _,H,I,rfl,?_⟩;rw[show its.toArray.any (gz x)=its.any (gz x) by simp,sJ r fs];exact q
theorem zry :aM X (compareOp .NotIn) (mh X.K true):=by
 intro pins s σ H x y v u Q I rx ry h;obtain⟨p,xs,rfl,hq,fx,fs,q⟩:=h;cases ry;rcases hq with hq | hq
 ·obtain⟨its,r,pl,hz⟩:=I.list hq
  refine SeqAt.notIn_listAt (gz x) pl.isList (λw hw=>rH rx fx r fs w (by simpa using hw)) ⟨.bl _,H,I,rfl,?_⟩;rw[show its.toArray.any (gz x)=its.any (gz x) by simp,sJ r fs];exact q
 ·obtain⟨its,r,pl,hz⟩:=I.tuple hq
  refine SeqAt.notIn_tupleAt (gz x) pl (λw hw=>rH rx fx r fs w (by simpa using hw)) ⟨.bl _,H,I,rfl,?_⟩;rw[show its.toArray.any (gz x)=its.any (gz x) by simp,sJ r fs];exact q
theorem zqx :aN X (.builtin "len") (λxs H Q=>∃p ys,xs=[.ref p]/\(aP X.K H p ys\/bA X.K H p ys)/\Q (.int ys.length) H):=by
 intro pins s σ H xs us Q I r h;obtain⟨p,ys,rfl,hq,q⟩:=h;obtain⟨u,rfl,rx⟩:=jt r;cases rx;have hn:=oK;rcases hq with hq | hq
 ·obtain⟨its,r',pl,hz⟩:=I.list hq
  have hlen:=r'.length;exact Calls.call_len_list pl.isList (by simp only[wF]<;>lia) ⟨.int ys.length,H,I.tok _,⟨s.toks+1,by rw[wF,hlen]⟩,q⟩
 ·obtain⟨its,r',pl,hz⟩:=I.tuple hq
  have hlen:=r'.length;exact len_tuple pl (by simp only[wF]<;>lia) ⟨.int ys.length,H,I.tok _,⟨s.toks+1,by rw[wF,hlen]⟩,q⟩
theorem zqu :aN X (.type "list") (λxs H Q=>∃p ys,xs=[.ref p]/\(aP X.K H p ys\/bA X.K H p ys) /\ ∀l,H l=none->Q (.ref l) (upd H l (.lst ys))):=by
 intro pins s σ H xs us Q I r h;obtain⟨p,ys,rfl,hq,q⟩:=h;obtain⟨u,rfl,rx⟩:=jt r;cases rx
 have fin:∀(its:List Value),aW ys its->ys.length<=wX->∀(h':wJ)(c':Nat),(∀b o',s.heap.get? b=some o'->h'.get? b=some o') ->
     h'.get? s.heap.objs.size=some {cls:=.type "list",dict:=none,data:=.seq its.toArray c',slots:=#[]}->EP X pins σ Q (.ref s.heap.objs.size) {s with heap:=h'}:=λits r' hz h' c' kp e =>
   ⟨.ref s.heap.objs.size,_,I.laid (t':=s.toks) kp (wn _) (show d7 X.prog X.w _ h' _ (.lst ys)from⟨hz,its,c',r',e⟩),rfl,q _ (I.aO.fresh (wn _))⟩
 rcases hq with hq | hq
 . obtain⟨its,r',pl,hz⟩:=I.list hq
   have hlen:=r'.length;obtain⟨o,ho,hc,n,hd⟩:=pl.isList;exact call_list_seq p (.inl rfl) ho hc hd (λh' c' kp e=>fin its r' hz h' c' kp e) (by simp only[wF]<;>lia)
 . obtain⟨its,r',pl,hz⟩:=I.tuple hq
   have hlen:=r'.length;obtain⟨o,ho,hc,n,hd⟩:=pl;exact call_list_seq p (.inr rfl) ho hc hd (λh' c' kp e=>fin its r' hz h' c' kp e) (by simp only[wF]<;>lia)
theorem zpb :aN X (.type "tuple") (λxs H Q=>∃p ys,xs=[.ref p]/\((aP X.K H p ys /\ ∀l,H l=none->Q (.ref l) (upd H l (.tup ys)))\/(bA X.K H p ys/\Q (.ref p) H))):=by
 intro pins s σ H xs us Q I r h;obtain⟨p,ys,rfl,h⟩:=h;obtain⟨u,rfl,rx⟩:=jt r;cases rx;rcases h with⟨hq,q⟩ | ⟨hq,q⟩
 ·obtain⟨its,r',pl,hz⟩:=I.list hq
  have hlen:=r'.length;refine call_tuple_list pl.isList (λh' kp=>?_) (by simp only[wF]<;>lia);have I1:Inv X pins σ H {s with heap:=h'}:=I.kept (t':=s.toks) kp
  have I2:Inv X pins σ (upd H h'.objs.size (.tup ys)) {s with heap:=h'.push {cls:=.type "tuple",data:=.seq its.toArray}} :=
   I1.laid (t':=s.toks) (λb o e=>wm _ e) (wn _) (show d7 X.prog X.w _ _ _ (.tup ys)from⟨hz,its,r',qM _ _⟩)
  exact⟨.ref h'.objs.size,_,I2,rfl,q _ (I1.aO.fresh (wn _))⟩
 ·obtain⟨its,r',pl,hz⟩:=I.tuple hq
  exact call_tuple_same pl ⟨.ref p,H,I,rfl,q⟩
def yX(K:wa)(T:String)(x:V)(H:Hp):Prop:=match x with
 | .str _=>T="str"
 | .int _=>T="int"
 | .ref p=>(T="list" /\ ∃xs,aP K H p xs)\/(T="tuple" /\ ∃o,K.lookup p=some o/\o.cls=.type "tuple"/\o.dict=none) \/
     (T="dict"/\((∃kvs,H p=some (.dK kvs)) \/ ∃kvs,H p=some (.dT kvs)))\/(T="set" /\ ∃S n,H p=some (.set S n))
 | _=>False
theorem zCS{pins:List (wf × Obj)}{T:String}{v:Value}(I:Inv X pins σ H s)(r:bK x v)(ty:yX X.K T x H) :
  s.TypeIs v T /\ ∀a,v=.ref a->∃ob,s.heap.get? a=some ob/\ob.dict=none:=by
 cases x with
 | str z =>
  obtain⟨t,rfl⟩:=r;cases (show T="str" from ty);exact⟨typeIs_str s z t,λ_ e=>nomatch e⟩
 | int i =>
  obtain⟨t,rfl⟩:=r;cases (show T="int" from ty);exact⟨typeIs_int s i t,λ_ e=>nomatch e⟩
 | ref p =>
  cases r;rcases ty with⟨rfl,xs,hq⟩ | ⟨rfl,o,hk,hc,hd⟩ | ⟨rfl,hk⟩ | ⟨rfl,S,n,hk⟩
  ·obtain⟨its,_,pl,_⟩:=I.list hq
   refine⟨pl.isList.typeIs,λa e=>?_⟩;cases e;obtain⟨o,n,e,c,hd,_⟩:=pl;exact⟨o,e,hd⟩
  ·refine⟨⟨o,I.d5 p o hk,hc⟩,λa e=>?_⟩
   cases e;exact⟨o,I.d5 _ o hk,hd⟩
  ·have z:∃o,s.heap.get? p=some o/\o.ExactDict:=by
    rcases hk with⟨kvs,hk⟩ | ⟨kvs,hk⟩
    ·obtain⟨_,_,_,_,o,_,_,e,ex,_⟩:=I.aO p _ hk
     exact⟨o,e,ex⟩
    ·obtain⟨_,_,_,_,o,_,_,e,ex,_⟩:=I.aO p _ hk
     exact⟨o,e,ex⟩
   obtain⟨o,e,ex⟩:=z;refine⟨⟨o,e,ex.1⟩,λa e2=>?_⟩;cases e2;exact⟨o,e,ex.2.1⟩
  ·obtain⟨o,_,_,_,e,ex,_⟩:=I.aO p _ hk
   refine⟨⟨o,e,ex.1⟩,λa e2=>?_⟩;cases e2;exact⟨o,e,ex.2.1⟩
 | _=>exact WB ty
def Ld(K:wa)(T:String)(r:V->List V->Hp->VK->Prop)(to:TE)(t:TA):TE:=λσ H Q=>to σ H λx H1=>yX K T x H1/\t σ H1 λxs H2=>r x xs H2 Q
variable{o e:Expr}{es:List Expr}{to:TE}{t:TA}{name:Str}{apos cpos:Pos}{T id:String}{r:V->List V->Hp->VK->Prop}
theorem jZ(pa:PlainAttrs T)(slot:Slot T name id)(hty:typeOf (.builtin id)=pure (.type "method_descriptor"))(hm:Rl X id r)(ho:PE X o to)(ha:PA X (e::es) t)
  (hbase:attributeBase o name X.env (eval o X.env)=eval o X.env:=by rfl)
  (hfew:((backTo cpos (wR (e::es) X.env)).all (λx=>!x.1)&&(backToKw cpos (keywordEach [] X.env)).all (λx=>x.1.isSome)
   && decide ((e::es).length+([]:List Keyword).length+(if([]:List Keyword).isEmpty then 0 else 1)<30))=true:=by rfl)
  (hline:(apos.endLine == cpos.line)=true:=by rfl) (hs:wR (e::es) X.env=(false,eval e X.env)::wR es X.env:=by rfl) (hplain:(backTo cpos (wR es X.env)).any (·.1)=false:=by rfl) :
  PE X (.Call (.Attribute o name apos) (e::es) [] cpos) (Ld X.K T r to t):=by
 intro pins s σ H Q I h;refine wpAny_Call_method_late hbase hfew hline rfl (aQ (ho pins s σ H _ I h) λv s1 ⟨x,H1,I1,r1,ty,q1⟩=>?_);obtain⟨h1,h2⟩:=zCS I1 r1 ty;refine⟨T,id,pa,slot,hty,h1,h2,?_⟩;have hA:=ha cpos pins s1 σ H1 _ I1 q1;rw[hs]at hA ⊢;refine Calls.callWith_builtin (by show(false || (backTo cpos (wR es X.env)).any (·.1))=false;rw[hplain]<;>rfl) (xm ?_);exact aQ hA λus s2 ⟨vs,H2,I2,r2,q2⟩=>hm pins s2 σ H2 x vs v us Q I2 r1 r2 q2
end
def MtM(X:Cx)(id:String)(r:V->List V->Hp->VK->Prop):Prop :=
 ∀(pins:List (wf × Obj))(s:Shared)(σ : St)(H:Hp)(x:V)(xs:List V)(v:Value)(us:List Value)(Q:VK),Inv X pins σ H s->bK x v->aW xs us->r x xs H Q ->
  wq (model X.prog X.w) X.A (call (.builtin id) (v::us)) (EP X pins σ Q) X.xe s
theorem aW.one:∀{x:V}{us:List Value},aW [x] us->∃u,us=[u]/\bK x u
 | _,_,.cons r .nil=>⟨_,rfl,r⟩
theorem aW.rep{xs:List V}{us:List Value}(h:aW xs us):∀k:Nat,aW (w8 k xs).flatten (w8 k us).flatten
 | 0=>.nil
 | k+1=>by
  rw[VE,VE,Vh,Vh];exact aW.append h (aW.rep h k)
theorem Oi(its:List Value):∀(k:Nat)(acc:List Value),
  XE (λx1 x2=>x1++x2) acc.toArray (w8 k its.toArray)=(acc++(w8 k its).flatten).toArray
 | 0,acc=>by simp
 | k+1,acc=>by
  have e:acc.toArray++its.toArray=(acc++its).toArray:=by simp
  have e2:(acc++its)++(w8 k its).flatten=acc++(w8 (k+1) its).flatten:=by
   rw[VE,Vh,WP]
  rw[<- e2,<- Oi its k (acc++its),<- e,VE,List.foldl_cons]
section
variable{X:Cx}{pins:List (wf × Obj)}{σ : St}{H:Hp}{s:Shared}{l b:wf}{xs ys zs:List V}
theorem Inv.Zh{its its':List Value}{n:Nat}{f:Array Value->Array Value}{t':Nat}(I:Inv X pins σ H s)(hH:H l=some (.lst xs))
  (e:s.heap.get? l=some {cls:=.type "list",data:=.seq its.toArray n}) (hf:f its.toArray=its'.toArray) (hv:aW ys its') (hz:ys.length<=wX) :
  Inv X pins σ (upd H l (.lst ys)) {s with heap:=s.heap.update l (Qt f),toks:=t'}:=by
 have q:=PySem.IsL.update e f;rw[hf]at q;refine I.write (x:=l) (e:=l) (by rw[hH];exact trivial) (.inl rfl) (λb' u hb hu=>(qJ s.heap (Qt f) (Wr hb)).trans hu) ⟨_,q⟩ ?_;exact⟨hz,its',_,hv,q⟩
theorem Inv.Bq{its:List Value}{t':Nat}(I:Inv X pins σ H s)(hv:aW ys its)(hz:ys.length<=wX) :
  Inv X pins σ (upd H s.heap.objs.size (.lst ys)) {s with heap:=s.heap.push {cls:=.type "list",data:=.seq its.toArray},toks:=t'} :=
 I.laid (λ_ _ q=>wm _ q) (wn _) ⟨hz,its,0,hv,wN _ rfl⟩
theorem Inv.fresh(I:Inv X pins σ H s):H s.heap.objs.size=none:=I.aO.fresh (wn _)
theorem Inv.uv(I:Inv X pins σ H s)(hH:H l=some (.lst xs)):xs.length<=wX /\ ∃(its:List Value)(n:Nat),aW xs its/\xs.length=its.length/\s.heap.get? l=some {cls:=.type "list",data:=.seq its.toArray n}:=by
 obtain⟨z,its,n,r,e⟩:=I.aO l _ hH;exact⟨z,its,n,r,r.length,e⟩
theorem zxu{n:Nat}(h:n<=wX):qo n=false:=by
 unfold qo;exact decide_eq_false (by lia)
end
section
variable{X:Cx}
def Mh:V->List V->Hp->VK->Prop:=λx vs H Q=>∃l xs y,x=.ref l/\vs=[y]/\H l=some (.lst xs)/\xs.length<wX/\Q .bG (upd H l (.lst (xs++[y])))
theorem jC:MtM X "list.append" Mh:=by
 intro pins s σ H x vs v us Q I rx rv h;obtain⟨l,xs,y,rfl,rfl,hH,hz,q⟩:=h;cases rx;obtain⟨u,rfl,ru⟩:=rv.one;obtain⟨z,its,n,r,hl,e⟩:=I.uv hH;refine call_meets F.slot_list_append ⟨_,e,rfl⟩ F.entry_list_append (F.args_list_append_2 _ _) (PySem.list_append l its.toArray n u (by rw[wF];lia)) ⟨e,?_⟩;refine⟨.bG,_,I.Zh (its':=its++[u]) hH e (by simp) (r.append (.cons ru .nil)) ?_,rfl,q⟩;rw[wy,wL]
 lia
def DJ:R2:=λx y H Q=>∃l b xs zs,x=.ref l/\y=.ref b/\H l=some (.lst xs)/\H b=some (.lst zs)/\xs.length+zs.length<=wX /\ ∀p,H p=none->Q (.ref p) (upd H p (.lst (xs++zs)))
theorem zCd:aM X (Wd .Add) DJ:=by
 intro pins s σ H x y v u Q I rx ry h;obtain⟨l,b,xs,zs,rfl,rfl,hH,hB,hz,q⟩:=h;cases rx;cases ry;obtain⟨z,its,n,r,hl,e⟩:=I.uv hH;obtain⟨z2,its2,n2,r2,hl2,e2⟩:=I.uv hB;refine PySem.P.add_list e e2 ?_ (by rw[wF,wF];lia);have ea:its.toArray++its2.toArray=(its++its2).toArray:=by simp
 rw[ea];exact⟨.ref _,_,I.Bq (t':=s.toks) (r.append r2) (by rw[wy];lia),rfl,q _ I.fresh⟩
def rp:R2:=λx y H Q=>∃l k xs,x=.ref l/\y=.int k/\H l=some (.lst xs) /\ -(2^63)<=k/\k<2^63/\xs.length*k.toNat<=wX /\
 ∀p,H p=none->Q (.ref p) (upd H p (.lst (w8 k.toNat xs).flatten))
theorem zAI{α : Type}(xs:List α)(k:Nat):(w8 k xs).flatten.length=k*xs.length:=by
 induction k with
 | zero=>simp
 | succ k ih=>rw[VE,Vh,wy,ih,qp,Nat.add_comm]
theorem LO:aM X (Wd .Mult) rp:=by
 intro pins s σ H x y v u Q I rx ry h;obtain⟨l,k,xs,rfl,rfl,hH,h1,h2,hz,q⟩:=h;cases rx;obtain⟨t,rfl⟩:=ry;obtain⟨z,its,n,r,hl,e⟩:=I.uv hH;have hlen:its.toArray.size*k.toNat<=wX:=by rw[wF,<- hl];exact hz
 have hcap:¬ its.toArray.size*k.toNat > (2^63-1) / 8:=by
  have:(wX:Nat)<=(2^63-1) / 8:=by decide
  lia
 have hfit:¬ (!Builtin.List.listFitsIndex k)=true:=by
  rw[fitsIndex_both h1 h2];exact vk
 have hlong:¬ qo (its.toArray.size*k.toNat)=true:=by
  rw[zxu hlen];exact vk
 have hnew:XE (λx1 x2=>x1++x2) #[] (w8 (if its.toArray.isEmpty=true then 0 else k.toNat) its.toArray)=(w8 k.toNat its).flatten.toArray:=by
  have f0:∀m:Nat,XE (λx1 x2=>x1++x2) #[] (w8 m its.toArray)=(w8 m its).flatten.toArray:=λm=>by
   have:=Oi its m [];rw[qO]at this;exact this
  rw[f0];cases its with
  | nil=>simp
  | cons a r'=>rw[if_neg (by simp)]
 refine wpAny_binaryOp_repeat_ref (T:="list") (U:="int") (by decide) ⟨_,e,rfl⟩ (λs'=>typeIs_int s' k t) noFill_list_mul F.fills_int_mul XF repeat_list F.slot_int_index.lookup
  (call_meets XF (typeIs_int s k t) F.entry_int_rmul (F.args_int_rmul_2 _ _) (int___rmul___int_list k t l its.toArray n)
   ⟨e,rfl,⟨_,e,rfl⟩,call_meets F.slot_list_mul ⟨_,e,rfl⟩ F.entry_list_mul (F.args_list_mul_2 _ _) (AutoListH.list___mul___list_int_3 l its.toArray n k t hfit hcap hlong) ⟨e,?_⟩⟩)
 rw[hnew];exact⟨.ref _,_,I.Bq (t':=s.toks) (r.rep k.toNat) (by rw[zAI,Nat.mul_comm];exact hz),rfl,q _ I.fresh⟩
end
section
variable{prog:wK}{w:wQ}{A:Around}{E:Value->Shared->Prop}{s:Shared}
end
section
variable{X:Cx}
end
end L2
namespace Att
open PySem PySem.W PySem.Calls PyProof.Rows
theorem zmZ{P:Params}{h:wJ} : ∀(ns:List Int)(vs:List Value),WellAll P h vs (ns.map WData.int)->IntsAre vs ns:=by
 intro ns
 induction ns with
 | nil =>
  intro vs w;rw[Qx]at w;cases w;exact .nil
 | cons n ns ih =>
  intro vs w;rw[w5]at w;cases w with
  | cons a b =>
   cases a;exact .cons _ _ (ih _ b)
theorem zwl{l:OpenLaw}{n:Nat}(hn:l.most=some n){P:Params}{h:wJ}{args:List WData}{vals:List Value}
  (hpre:l.row.toRowW.claim.pre args=true) (hwl:WellAll P h vals args) :
  ∃a vs ns,vals=[Value.ref a]/\args=[WData.list (ns.map WData.int)]/\h.get? a=some {cls:=.type "list",data:=.seq vs.toArray}/\IntsAre vs ns/\ns.length<=n:=by
 have hsh:WShape.hasAll [] args [.list .int]=true:=(pre_splitW hpre).1;have hc:l.pre.holds [] {args:=args}=true:=(pre_splitW hpre).2;obtain⟨d,r,rfl,h1,h2⟩:=hasAllW_cons hsh;obtain rfl:=hasAllW_nil h2;obtain⟨xs,rfl,h3⟩:=hasW_list h1;obtain⟨ns,rfl⟩:=items_int h3
 have hlen:ns.length<=n:=by
  unfold OpenLaw.pre at hc
  have h4:(WTm.not (.lt (.lit (.int (n:Int))) (.len (.arg 0)))).holds [] {args:=[.list (ns.map .int)]}=true:=by
   have h4:=(holds_andW hc).1;rw[hn]at h4;exact h4
  have h5:=condW_of h4 (w_not (w_lt w_lit (w_len_list (w_arg rfl))));rw[wl]at h5;refine Nat.le_of_not_lt λq=>?_
  have q':(n:Int)<((ns.length:Nat):Int):=by lia
  first
   | (rw[decide_eq_true q']at h5;exact absurd h5 (by decide))
   | (simp at h5;lia)
 cases hwl with
 | cons w1 w2 =>
  cases w2;cases w1 with
  | list ho hall=>exact⟨_,_,ns,rfl,rfl,ho,zmZ ns _ hall,hlen⟩
theorem zwT(l:OpenLaw)(args:List WData):l.row.toRowW.claim.post args (.bool true) args=true :=
 postW_of (r:=l.row.toRowW) (X:=(true == true))
  (show WShape.has [] (.bool true) .bool=true by first | rfl | decide | simp[WShape.has,WShape.arms,WShape.armsAll])
  (show(WTm.eq .res (.lit (.bool true))).value [] {args:=args,res:=some (.bool true),after:=args}=some (.bool (true == true))from w_eq_bool (w_res rfl) w_lit) rfl
theorem YJ{l:OpenLaw}{n:Nat}{q:wK}{loose:List Str}{XP:(Str->Option Value)->wJ->Prop}{YP:wQ->wJ->Prop}{d:DefRec}
  (hn:l.most=some n) (hdf:d.params.defaults=[])
  (call:∀(w:wQ)(s₀ s₁ : Shared)(mg mb:Str->Option Value)(fa:wf)(o:Obj)(pm cd doc:Value)(a:wf)(vs:List Value)(ns:List Int),
   Ground q loose [] XP w s₀ mg mb s₁.heap->YP w s₁.heap ->
   s₁.heap.get? fa=some o->o.data=.func (docDef d.name d.params d.body d.scope pm cd doc)->s₁.heap.CodeRec cd d.name->mg d.name=some (.ref fa) ->
   s₁.heap.get? a=some {cls:=.type "list",data:=.seq vs.toArray}->IntsAre vs ns->ns.length<=n->s₁.gens = #[] ->
   codeAny (model l.prog w) callerA (.call (.ref fa) ⟨[.ref a],[]⟩) (λr s'=>r=.ok (.ret (.bool true))/\OldK s₁.heap s'.heap/\s'.os=s₁.os/\AllBare s'.gens) s₁) :
  WalkO q loose XP YP l.row.toRowW d [] (λf vs=>XG f vs):=by
 intro w s₀ s₁ mg mb G Y fa o pm cd doc dV kV ho hd hcd hD hmg hg args vals as hpre hlay hrd hwl hlo;obtain rfl:dV=.none:=Dflts.none hD hdf;obtain rfl:kV=.none:=Dflts.noKw hD;obtain⟨a,vs,ns,rfl,rfl,hobj,hints,hlen⟩:=zwl hn hpre hwl;refine enter_call (codeAny_mono (call w s₀ s₁ mg mb fa o pm cd doc a vs ns G Y ho (fd_plain hd) hcd hmg hobj hints hlen hg) λr s' hq=>?_);obtain⟨rfl,h2,h3,h4⟩:=hq;exact⟨.inl ⟨.bool true,.bool true,[],rfl,λ_=>rfl,.bool true,zwT l _,λ_=>⟨xt.nil,λ_ hm=>(nomatch hm)⟩⟩,h2,h3,h4⟩
section
variable{prog:wK}{w:wQ}{A:Around}{E:Value->Shared->Prop}{s:Shared}{K:Frag}
def zEr(h:wJ)(L d:wf):List (wf × Obj):=(wp h.objs.size).filterMap λa=>if a=L\/a=d then none else(h.get? a).map λo=>(a,o)
end
end Att
namespace L2
open PySem PySem.Spec PyProof.Rows
theorem UC:∀{vs:List Value}{ns:List Int},IntsAre vs ns->aW (ns.map V.int) vs
 | _,_,.nil=>.nil
 | _,_,.cons n t h=>.cons ⟨t,rfl⟩ (UC h)
def z_(H:Hp):Prop:=∀b,H b=none \/ ∃o xs,H b=some (.hZ o (.lst xs))
theorem zyt{P:wK}{w:wQ}{K:wa}{mg mb:Str->Option Value}{CX:gL}{k:Nat}{fa a:wf}{fd:wx}{x:Str}{sp:Sp}{s₁ : Shared}{vs:List Value}{ns:List Int}
   (KX:K.In s₁.heap) (hns:s₁.heap.Ns wM mg) (hb:s₁.heap.Ns builtinsNs mb) (hbb:∀x:Str,x≠"__name__" -> mb x=vJ x) (hlim:s₁.heap.NoLimit) (hg:s₁.gens = #[])
   (ha:s₁.heap.get? a=some {cls:=.type "list",data:=.seq vs.toArray}) (hi:IntsAre vs ns) (hl:ns.length<=wX) (hr:eJ k callerA)
   (F:∀base:wJ,K.In base->base.Ns wM mg->aI P w K mg base CX k fa fd [x] sp) (hbind:∀(s:Shared)(u:Value),BindsTo s fd ⟨[u],[]⟩ [(x,u)])
   (hsp:∀H:Hp,z_ H->aP K H a (ns.map V.int)->sp [.ref a] H (λv _=>v=.bl true) λ_ _ _=>False)
   (hCX:∀H e s',CX [] H s₁ (λ_ _ _=>False) e s'->False) :
   codeAny (model P w) callerA (.call (.ref fa) ⟨[.ref a],[]⟩) (λr s'=>r=.ok (.ret (.bool true))/\OldK s₁.heap s'.heap/\s'.os=s₁.os/\AllBare s'.gens) s₁:=by
 have rv:=UC hi;have lenV:=hi.length
 have core:∀H:Hp,z_ H->aP K H a (ns.map V.int)->dE P w H s₁.heap->(∀b,H b≠none->b=a)->(H a≠none->K.lookup a=none) ->
     codeAny (model P w) callerA (.call (.ref fa) ⟨[.ref a],[]⟩) (λr s'=>r=.ok (.ret (.bool true))/\OldK s₁.heap s'.heap/\s'.os=s₁.os/\AllBare s'.gens) s₁:=by
   intro H hO hS aO hA hK;have base_of:∀{b:wf}{o:Obj},s₁.heap.get? b=some o->H b=none->(kO s₁.heap H).get? b=some o:=λe n=>zxL e n
   have noA:∀{b:wf}{o:Obj}{es:Array DictEntry}{ep:Nat},s₁.heap.get? b=some o->o.data=.dict es ep->H b=none:=λ{b o es ep} e d=>by
     cases q:H b with
     | none=>rfl
     | some u =>
       have e':b=a:=hA b (by rw[q];simp);subst e';rw[ha]at e;cases e;have d':Data.seq vs.toArray _=Data.dict es ep:=d;cases d'
   have nsK:∀{b:wf}{m:Str->Option Value},s₁.heap.Ns b m->(kO s₁.heap H).Ns b m:=λ{b m} ⟨o,es,ep,e,d,r⟩=>⟨o,es,ep,base_of e (noA e d),d,r⟩
   have hKb:K.In (kO s₁.heap H):=λb o e=>base_of (KX b o e) (by
     cases q:H b with
     | none=>rfl
     | some u =>
       have e':b=a:=hA b (by rw[q];simp);subst e';rw[hK (by rw[q];simp)]at e;cases e)
   have hM:Mod K mg (kO s₁.heap H):=⟨hKb,nsK hns,⟨mb,nsK hb,hbb⟩,let ⟨mc,h1,h2⟩:=hlim;⟨mc,nsK h1,h2⟩⟩;have e0:zW P w K mg (kO s₁.heap H) callerA [] s₁ H:=⟨rfl,hM,λb o e=>zA4 e,Nat.le_of_eq (zwk _ _),trivial,λb hb=>absurd (show b∈([]:List wf)from hb) (by simp),aO,.of_eq hg⟩;refine codeAny_mono ((F _ hKb (nsK hns)).run callerA [] s₁ H ⟨[.ref a],[]⟩ [.ref a] [.ref a] _ _ hr e0 (hbind s₁ (.ref a)) (.cons rfl .nil) (hsp H hO hS)) λr s' h=>?_
   cases r with
   | error e=>exact(hCX H e s' h).elim
   | ok fl =>
     cases fl with
     | next=>exact WB h
     | brk=>exact WB h
     | cont=>exact WB h
     | ret u =>
       obtain⟨v,H',os,bare,un,hok',r',q⟩:=h;have q':v=.bl true:=q;subst q';obtain rfl:u=Value.bool true:=r';refine⟨rfl,OldK.of_keep λb o e=>?_,os,bare⟩;cases q:H b with
       | none=>exact un.keep b o e q (by intro z;exact absurd (show b∈([]:List wf)from z) (by simp)) (by simp)
       | some u =>
         rcases hO b with z | ⟨ob,xs,z⟩
         . rw[q]at z;cases z
         . have z2:=un.iJ b ob _ z
           obtain⟨e1,_⟩:=aO b _ z;obtain⟨e2,_⟩:=hok' b _ z2;rw[e]at e1;cases e1;exact e2
 cases hk:K.lookup a with
 | some o =>
   have e:=KX a o hk;rw[ha]at e;cases e;refine core (λ_=>none) (λ_=>.inl rfl) (.inr ⟨_,vs.toArray,_,hk,rfl,rfl,rfl,by rw[wF,lenV];exact hl,by simpa using rv⟩) (λb u z=>by have z':(none:Option HO)=some u:=z;cases z') (λb z=>absurd rfl z) λz=>absurd rfl z
 | none =>
   refine core (λb=>if b=a then some (.hZ {cls:=.type "list",data:=.seq vs.toArray} (.lst (ns.map V.int)))else none) (λb=>?_) (.inl (.inr ⟨{cls:=.type "list",data:=.seq vs.toArray},if_pos rfl⟩)) (λb u z=>?_) (λb z=>?_) λ_=>hk
   . by_cases hb:b=a
     . exact .inr ⟨_,_,if_pos hb⟩
     . exact .inl (if_neg hb)
   . by_cases hb:b=a
     . have z':=(if_pos hb).symm.trans z
       cases z';subst hb;exact⟨ha,by rw[wl];exact hl,vs,_,rv,ha⟩
     . have z':=(if_neg hb).symm.trans z
       cases z'
   . by_cases hb:b=a
     . exact hb
     . exact absurd (if_neg hb) z
abbrev KOf{K:wa}{h:wJ}(_:K.In h):wa:=K
theorem YV{l:QL}{n k:Nat}{q:wK}{loose:List Str}{XP:(Str->Option Value)->wJ->Prop}{YP:wQ->wJ->Prop}{d:DefRec}{K:Params->wa}{CX:wQ->gL}{sp:wQ->Sp}{x:Str}
  (hn:l.most=some n) (hn2:n<=wX) (hdf:d.params.defaults=[]) (hr:eJ k callerA)
  (hY:∀(w:wQ)(h:wJ),YP w h->(K w.params).In h)
  (F:∀(w:wQ)(mg:Str->Option Value)(fa:wf)(h:wJ),(K w.params).In h->h.Ns wM mg->mg d.name=some (.ref fa) ->
   ∃fd:wx,(∀(s:Shared)(u:Value),BindsTo s fd ⟨[u],[]⟩ [(x,u)]) /\
    ∀base:wJ,(K w.params).In base->base.Ns wM mg->aI l.prog w (K w.params) mg base (CX w) k fa fd [x] (sp w))
  (hsp:∀(w:wQ)(H:Hp)(a:wf)(ns:List Int),ns.length<=n->z_ H->aP (K w.params) H a (ns.map V.int)->sp w [.ref a] H (λv _=>v=.bl true) λ_ _ _=>False)
  (hCX:∀(w:wQ)(H:Hp)(s:Shared)(e:Value)(s':Shared),CX w [] H s (λ_ _ _=>False) e s'->False) :
  X5 q loose XP YP l.row.toRowW d [] (λf vs=>XG f vs):=by
 refine Att.YJ hn hdf λw s₀ s₁ mg mb fa o pm cd doc a vs ns G Y ho hd hcd hmg hobj hints hlen hg=>?_
 have KX:=hY w _ Y;obtain⟨fd,hb,hF⟩:=F w mg fa _ KX G.T.g hmg;exact zyt KX G.T.g G.T.b G.T.builtins G.T.nolimit hg hobj hints (Wg hlen hn2) hr hF hb (λH hO hS=>hsp w H a ns hlen hO hS) λH e s'=>hCX w H s₁ e s'
def o_(s:wU):Arguments:=match s with
 | .FunctionDef _ a _ _ _ _ _ _ _ _=>a
 | _=>{posonlyargs:=[],args:=[],vararg:=none,kwonlyargs:=[],kw_defaults:=[],kwarg:=none,defaults:=[]}
def my(s:wU):List wU:=match s with
 | .FunctionDef _ _ b _ _ _ _ _ _ _=>b
 | _=>[]
def aK(s:wU):Scope:=match s with
 | .FunctionDef _ _ _ _ _ _ sc _ _ _=>sc
 | _=>{kind:=.function,names:=[],isGenerator:=false,isCoroutine:=false}
abbrev aU:gL:=λ_ _ _ _ _ _=>False
abbrev E0:XK:=λ_ _ _=>False
theorem DW{X:Cx} : m_ aU X E0:=λ_ _ _ _ _ _ _ h=>h.elim
structure lW(K:wa)(x qual:Str)(st:wU)(f:wf)(fd:wx):Prop where
 ex:∃(oc:Value)(od:Option wf)(kV doc pm:Value)(an:Option wf)(cdv ct:Value)(osl:Array (Option Value)),
   fd=Vu x qual (o_ st) (my st) (aK st) .none kV doc pm an cdv ct/\K.lookup f=some ⟨oc,od,.func fd,osl⟩/\qX K cdv qual=true
 kp:VU K (.ref f)=true
section
variable{P:wK}{w:wQ}{K:wa}{mg:Str->Option Value}{base:wJ}
variable{qual x:Str}{st:wU}{f:wf}
theorem lW.ok{fd:wx}{N ps:List Str}{k:Nat}{sp:Sp}(F:lW K x qual st f fd)(S:aS N ps (aK st))(len:∀vs H Q E,sp vs H Q E->vs.length=ps.length)
  (hbody:∀(cdv:Value)(A:Around)(outer:List Env)(s:Shared)(H:Hp)(vs:List V)(Q:VK)(E:XK),eJ k (A.deeper (envOfC qual (aK st) s.heap.objs.size f cdv))->sp vs H Q E ->
   ∃t,fQ (jH aU P w K mg base N qual (aK st) f cdv A outer s H E).Az (my st) t/\t {nx:=λ_ H'=>Q .bG H',rt:=Q} (start N vs) H):aI P w K mg base aU (k+1) f fd ps sp:=by
 obtain⟨oc,od,kV,doc,pm,an,cdv,ct,osl,rfl,lk,hcd⟩:=F.ex;refine PJ lk hcd S len λA outer s H vs Q E hr hsp=>?_
 obtain⟨t,h,q⟩:=hbody cdv A outer s H vs Q E hr hsp;exact⟨t,h.Az,q⟩
theorem lW.binds{fd:wx}{ps:List Str}(F:lW K x qual st f fd)
  (h:∀(kV doc pm:Value)(an:Option wf)(cdv ct:Value)(us:List Value),us.length=ps.length->bindArgs (Vu x qual (o_ st) (my st) (aK st) .none kV doc pm an cdv ct) ⟨us,[]⟩=pure (ps.zip us)):lJ K fd ps []:=by
 obtain⟨oc,od,kV,doc,pm,an,cdv,ct,osl,rfl,lk,hcd⟩:=F.ex;exact .all (h kV doc pm an cdv ct)
theorem Rq{oc:Value}{od an:Option wf}{osl:Array (Option Value)}{kV doc pm cdv ct:Value}(l:K.lookup f=some ⟨oc,od,.func (Vu x qual (o_ st) (my st) (aK st) .none kV doc pm an cdv ct),osl⟩)
  (c:qX K cdv qual=true) (k:VU K (.ref f)=true):lW K x qual st f (Vu x qual (o_ st) (my st) (aK st) .none kV doc pm an cdv ct):=⟨⟨oc,od,kV,doc,pm,an,cdv,ct,osl,rfl,l,c⟩,k⟩
end
theorem jV{n:Nat}(h:n<=1000):n<wX:=WH h (by decide)
section
variable{X:Cx}
theorem pv(i:Nat){x:Str}{pos:Pos}(hN:X.N[i]? = some x:=by rfl)(hv:AD X.env.scope x:=by first | exact Or.inl rfl | exact Or.inr (Or.inl rfl) | exact Or.inr (Or.inr rfl))(hd:(x == ("__debug__" : Str))=false:=by decide)
  (hcd:(x == ("__classdict__" : Str))=false:=by decide):PE X (.Name x pos) (uM i):=ZM hN hv hd hcd
end
theorem oA{A B:Prop}(h:B):if false=true then A else B:=by
 rw[if_neg vk];exact h
theorem pT{A B:Prop}(h:A):if true=true then A else B:=by
 rw[if_pos rfl];exact h
def ag(H H':Hp):Prop:=∀b o,H b=some o->H' b=some o
theorem ag.refl(H:Hp):ag H H:=λ_ _ h=>h
theorem ag.trans{H H1 H2:Hp}(a:ag H H1)(b:ag H1 H2):ag H H2:=λc o h=>b c o (a c o h)
theorem ag.seq{K:wa}{H H':Hp}{a:wf}{xs:List V}(e:ag H H')(h:aP K H a xs):aP K H' a xs:=by
 rcases h with(h | ⟨o,h⟩) | h
 ·exact .inl (.inl (e _ _ h))
 ·exact .inl (.inr ⟨o,e _ _ h⟩)
 ·exact .inr h
end L2
namespace GM
variable{B d t u:Int}{a b h x y:Rat}{c i j k m n v w:Nat}{l ps xs ys:List Rat}{ns:List Int}{left:List Nat}{fl:Nat->Nat}
def dv(t b:Int):Int:=if b<0 then -((vj t b:Nat):Int)else((vj t b:Nat):Int)
theorem CN{b:Int}(hb:b≠0):0<vj t b:=VX t hb
theorem Nj{b:Int}(hb:b≠0):dv t b≠0:=by
 have:=CN (t:=t) hb;unfold dv
 split<;>lia
theorem gk{a:Int}(h:d ∣ a)(hd:d≠0):a.fdiv d=a / d:=by
 obtain⟨k,rfl⟩:=h;rw[Int.mul_fdiv_cancel_left _ hd,Vw _ hd]
theorem PD{b:Int}(hb:b≠0):t.fdiv (dv t b)=(wr t b).num:=by
 have hg:=CN (t:=t) hb;have h1:((vj t b:Nat):Int) ∣ t:=V7 ..;rw[Rat.num_divInt,xJ b t];unfold dv
 by_cases h:b<0
 ·rw[if_pos h,Ql h,gk (Xh.mpr h1) (by lia),Int.ediv_neg]
  obtain⟨k,hk⟩:=h1;have:(-1:Int)*t=((vj t b:Nat):Int)*(-k):=by rw[XH,Xi,<- hk]
  rw[this,Vw _ (by lia)];have e:t / ((vj t b:Nat):Int)=k:=Qe (by lia) hk;rw[e]
 ·rw[if_neg h,QW (by lia),QX,gk h1 (by lia)]
theorem zCv{b:Int}(hb:b≠0):b.fdiv (dv t b)=((wr t b).den:Int):=by
 have hg:=CN (t:=t) hb;have h1:((vj t b:Nat):Int) ∣ b:=qD ..;rw[XZ,if_neg hb,xJ b t];unfold dv
 by_cases h:b<0
 ·rw[if_pos h,gk (Xh.mpr h1) (by lia),Int.ediv_neg,Vx]
  obtain⟨k,hk⟩:=h1;have:(b.natAbs:Int)=((vj t b:Nat):Int)*(-k):=by rw[Xi,<- hk];lia
  rw[this,Vw _ (by lia)];have e:b / ((vj t b:Nat):Int)=k:=Qe (by lia) hk;rw[e]
 ·rw[if_neg h,gk h1 (by lia),Vx]
  have:(b.natAbs:Int)=b:=by lia
  rw[this]
def iu(p q:Int):Bool:=decide (1<=q)&&decide (vj p q=1)
theorem RX(r:Rat):iu r.num r.den=true:=by
 have h:=r.reduced;have hd:=r.den_pos;simp only[iu,wT,decide_eq_true_eq];refine⟨by lia,?_⟩;have:Nat.gcd r.num.natAbs r.den=1:=h
 simpa [vj] using this
theorem zrF{p q:Int}(h:iu p q=true):∃r:Rat,p=r.num/\q=(r.den:Int):=by
 simp only[iu,wT,decide_eq_true_eq]at h;obtain⟨h1,h2⟩:=h;refine⟨⟨p,q.toNat,by lia,?_⟩,rfl,by show q=((q.toNat:Nat):Int);lia⟩;have e:q.toNat=q.natAbs:=by lia
 rw[e];exact h2
theorem U6{a b:Int}(hb:0<b)(ha:0<=a):vj b (a % b)=vj a b:=by
 rw[xJ a b];have e:a=a % b+b*(a / b):=(Int.emod_add_mul_ediv a b).symm
 conv=>rhs;rw[e]
 rw[Int.gcd_add_mul_left_right]
structure Bd(n:Nat)(x:Int):Prop where
 lt:x.natAbs<2^n
theorem Bd.mono{x:Int}(h:Bd m x)(e:m<=n):Bd n x:=⟨wV h.lt (Nat.pow_le_pow_right (by decide) e)⟩
theorem Bd.mul{x y:Int}(h:Bd m x)(k:Bd n y):Bd (m+n) (x*y):=by
 refine⟨?_⟩;rw[Q8,Xj];exact Nat.mul_lt_mul'' h.lt k.lt
theorem Bd.add{x y:Int}(h:Bd m x)(k:Bd n y):Bd (max m n+1) (x+y):=by
 have h1:=(h.mono (XI m n)).lt;have h2:=(k.mono (Xp m n)).lt;refine⟨?_⟩;rw[xK]
 lia
theorem Bd.sub{x y:Int}(h:Bd m x)(k:Bd n y):Bd (max m n+1) (x-y):=by
 have h1:=(h.mono (XI m n)).lt;have h2:=(k.mono (Xp m n)).lt;refine⟨?_⟩;rw[xK]
 lia
theorem Bd.neg{x:Int}(h:Bd n x):Bd n (-x):=⟨by rw[Int.natAbs_neg];exact h.lt⟩
theorem Bd.le{x y:Int}(h:Bd n x)(e:y.natAbs<=x.natAbs):Bd n y:=⟨WH e h.lt⟩
theorem Bd.log{x:Int}(h:Bd n x)(hn:0<n):x.natAbs.log2<n:=by
 by_cases e:x.natAbs=0
 ·rw[e];exact hn
 ·exact(Nat.log2_lt e).mpr h.lt
theorem zC4(t b:Int)(hb:b≠0):(wr t b).num.natAbs<=t.natAbs:=by
 rw[<- PD hb]
 have h1:dv t b ∣ t:=by
  have:((vj t b:Nat):Int) ∣ t:=V7 ..;unfold dv;split
  ·exact Xh.mpr this
  ·exact this
 rw[gk h1 (Nj hb)];exact Qu t _
theorem FQ(t b:Int)(hb:b≠0):(wr t b).den<=b.natAbs:=by
 rw[XZ,if_neg hb];exact Nat.div_le_self _ _
structure ah(n:Nat)(x:Rat):Prop where
 t:Bd n x.num
 b:Bd n (x.den:Int)
theorem ah.mono(h:ah m x)(e:m<=n):ah n x:=⟨h.t.mono e,h.b.mono e⟩
theorem ah.divInt{b:Int}(hb:b≠0)(h1:Bd n t)(h2:Bd n b):ah n (wr t b) :=
 ⟨h1.le (zC4 t b hb),h2.le (by have:=FQ t b hb;simpa using this)⟩
theorem Bd.k9{m:Int}(h1 : -100000000000000000000000000000000000000<=m)(h2:m<=100000000000000000000000000000000000000):Bd 128 m:=⟨by
 have e:(2:Nat)^128=340282366920938463463374607431768211456:=by decide
 rw[e]
 lia⟩
theorem iG(x:Rat):(x.den:Int)≠0:=by have:=x.den_pos;lia
theorem den_pos(x:Rat):(0:Int)<(x.den:Int):=by have:=x.den_pos;lia
theorem Ff(x y:Rat):(x.den:Int)*(y.den:Int)≠0:=QM (iG x) (iG y)
theorem zCs(x y:Rat):wr (x.num*(y.den:Int)+y.num*(x.den:Int)) ((x.den:Int)*(y.den:Int))=x+y:=by
 rw[<- Va,Qy,Rat.add_def']
theorem Of(x y:Rat):wr (x.num*(y.den:Int)-y.num*(x.den:Int)) ((x.den:Int)*(y.den:Int))=x-y:=by
 rw[<- Va,Qy,Rat.sub_def']
theorem Pn(x y:Rat):wr (x.num*y.num) ((x.den:Int)*(y.den:Int))=x*y:=by
 rw[<- Va,Qy,Rat.mul_def']
theorem Yh(x y:Rat):wr (x.num*(y.den:Int)) ((x.den:Int)*y.num)=x / y:=by
 rw[QY,Rat.inv_def,<- Q9,WI]
theorem zDZ(x y:Rat):decide (x.num*(y.den:Int)<y.num*(x.den:Int))=decide (x<y):=by
 rw[vE,decide_eq_true_eq,decide_eq_true_eq,Rat.lt_iff]
theorem AB(h:y≠0):y.num≠0:=λe=>h (Rat.num_eq_zero.mp e)
theorem ah.add(h:ah m x)(k:ah n y):ah (m+n+1) (x+y):=by
 rw[<- zCs];refine ah.divInt (Ff x y) ?_ ((h.b.mul k.b).mono (by lia));exact((h.t.mul k.b).add (k.t.mul h.b)).mono (by lia)
theorem ah.sub(h:ah m x)(k:ah n y):ah (m+n+1) (x-y):=by
 rw[<- Of];refine ah.divInt (Ff x y) ?_ ((h.b.mul k.b).mono (by lia));exact((h.t.mul k.b).sub (k.t.mul h.b)).mono (by lia)
theorem ah.mul(h:ah m x)(k:ah n y):ah (m+n) (x*y):=by
 rw[<- Pn];exact ah.divInt (Ff x y) (h.t.mul k.t) (h.b.mul k.b)
theorem ah.zero :ah 1 0:=⟨⟨by decide⟩,⟨by decide⟩⟩
theorem ah.one :ah 1 1:=⟨⟨by decide⟩,⟨by decide⟩⟩
def aE(a b:Rat):Nat->Rat
 | 0=>0
 | n+1=>a*aE a b n+b
def push(a b:Rat):Nat->Rat->Rat
 | 0,x=>x
 | n+1,x=>a*push a b n x+b
theorem iZ(a b:Rat)(n:Nat)(x:Rat):push a b n x=a^n*x+aE a b n:=by
 induction n with
 | zero=>simp[push,aE,Rat.add_zero,VY]
 | succ n ih=>rw[push,ih,aE,Wx];grind
theorem zxr(a b:Rat)(m n:Nat)(x:Rat):push a b (m+n) x=push a b n (push a b m x):=by
 induction n with
 | zero=>rfl
 | succ n ih=>rw[<- VH,push,push,ih]
theorem ah.pow(h:ah k a)(n:Nat):ah (k*n+1) (a^n):=by
 induction n with
 | zero=>rw[VY];exact ah.one.mono (by lia)
 | succ n ih=>rw[Wx];exact(ih.mul h).mono (by rw[qq];lia)
theorem ah.aE(h:ah k a)(hb:ah k b)(n:Nat):ah ((2*k+1)*n+1) (aE a b n):=by
 induction n with
 | zero=>exact ah.zero.mono (by lia)
 | succ n ih=>exact((h.mul ih).add hb).mono (by rw[qq];lia)
theorem c8(t:Int)(hu:u≠0):(wr t u)*(u:Rat)=(t:Rat):=by
 rw[Rat.divInt_eq_div];exact WJ λz=>hu (WV.mp z)
theorem kB(x:Rat):x*((x.den:Int):Rat)=(x.num:Rat):=by
 have:=c8 x.num (iG x)
 rwa[WI]at this
theorem gE(hu:u≠0)(h:x*(u:Rat)=(t:Rat)):wr t u=x:=by
 have h1:=c8 t hu;have h2:(wr t u-x)*(u:Rat)=0:=by grind
 have h3:(u:Rat)≠0:=by
  intro z;exact hu (WV.mp z)
 have:=XJ.mp h2
 grind
theorem zwe(a b:Rat)(t u:Int)(hu:u≠0):wr (a.num*b.den*t+b.num*a.den*u) (u*a.den*b.den)=a*wr t u+b:=by
 refine gE (QM (QM hu (iG a)) (iG b)) ?_;have h1:=c8 t hu;have h2:=kB a;have h3:=kB b;simp only[vL,qi]
 grind
theorem R1(a b:Rat)(n:Nat)(x y:Rat):push a b n y-push a b n x=a^n*(y-x):=by
 rw[iZ,iZ];grind
theorem sx(h:0<a)(n:Nat):0<a^n:=Rat.pow_pos h
theorem ztY(h:1<a)(n:Nat):1<a^(n+1):=by
 induction n with
 | zero=>simpa using h
 | succ n ih =>
  rw[Wx];have:=VQ (show 0<a^(n+1)-1 by grind) (show 0<a-1 by grind)
  grind
theorem zt1(h0:0<a)(h:a<1)(n:Nat):a^(n+1)<1:=by
 induction n with
 | zero=>simpa using h
 | succ n ih =>
  rw[Wx];have:=VQ (show 0<1-a^(n+1) by grind) h0
  grind
theorem one_pow'(n:Nat):(1:Rat)^n=1:=by
 induction n with
 | zero=>rfl
 | succ n ih=>rw[Wx,ih,QZ]
theorem ng(h:0<u):(0:Rat)<(u:Rat):=XM.mpr h
theorem zth(hu:0<u)(ht:0<t):0<wr t u:=by
 have e:=c8 t (show u≠0 by lia);have:=ng ht;rw[<- e]at this;exact(Rat.mul_pos_iff_of_pos_right (ng hu)).mp this
theorem O2{c:Int}(hu:0<u)(h:t<=c*u):wr t u<=(c:Rat):=by
 have e:=c8 t (show u≠0 by lia);refine Rat.le_of_mul_le_mul_right (c:=(u:Rat)) ?_ (ng hu);rw[e,<- vL];exact W6.mpr h
theorem zuT{c:Int}(hu:0<u)(h:t<c*u):wr t u<(c:Rat):=by
 have e:=c8 t (show u≠0 by lia);refine Rat.lt_of_mul_lt_mul_right (c:=(u:Rat)) ?_ (vU (ng hu));rw[e,<- vL];exact Q0.mpr h
theorem OY(hu:0<u):((wr t u).den:Int)<=u:=by
 have:=FQ t u (by lia)
 lia
theorem zwS{c:Int}(h:x<=(c:Rat)):x.num<=c*x.den:=by
 have:=(xn x c).mp h
 simpa using this
theorem zCe(h:0<=x):0<=x.num:=qB.mpr h
theorem ah.small{d:Nat}(h0:0<=x)(hc:x<=((c:Int):Rat))(hd:x.den<=d)(z:c*d<1024)(hd2:d<1024):ah 10 x:=by
 have h1:=zwS hc;have h2:=zCe h0;have h3:(c:Int)*(x.den:Int)<=(c:Int)*(d:Int):=Int.mul_le_mul_of_nonneg_left (by lia) (by lia);have h4:(c:Int)*(d:Int)<1024:=by rw[<- Va];lia
 refine⟨⟨?_⟩,⟨?_⟩⟩
 ·show _<1024
  lia
 ·show _<1024
  lia
theorem Sr{z:Int}(e:x=wr z u)(h1:1<=u)(h2:u<=8)(h3:1<=z)(h4:z<=4*u):0<x/\x<=4/\x.den<=8:=by
 subst e;refine⟨zth (by lia) (by lia),O2 (c:=4) (by lia) h4,?_⟩;have:=OY (t:=z) (show 0<u by lia)
 lia
theorem Eh{r:Int}(e:y=wr r u)(h1:1<=u)(h2:u<=12)(h3:0<=r)(h4:r<=u):0<=y/\y<=1/\y.den<=12:=by
 subst e;refine⟨xV h3 (by lia),O2 (c:=1) (by lia) (by lia),?_⟩;have:=OY (t:=r) (show 0<u by lia)
 lia
theorem ah.four :ah 3 4:=⟨⟨by decide +kernel⟩,⟨by decide +kernel⟩⟩
theorem pP{f:Rat->Rat}(h:i<xs.length):(xs.map f).getD i 0=f (xs.getD i 0):=by
 rw[wb,wb,wo,wc h]
 rfl
theorem zBo(ha:0<a)(n:Nat)(x y:Rat):push a b n x<push a b n y ↔ x<y:=by
 have e:=R1 a b n x y;have p:=sx ha n
 constructor
 ·intro h
  have:0<a^n*(y-x):=by rw[<- e];grind
  have h2:=(Rat.mul_pos_iff_of_pos_left p).mp this
  grind
 ·intro h
  have:0<a^n*(y-x):=VQ p (by grind)
  grind
def dZ(a b:Rat)(n:Nat)(xs:List Rat)(i:Nat):List Rat:=(xs.map λx=>push a b n (x+(1-xs.getD i 0))).set i 0
def aR(a b:Rat)(ns:List Int)(xs:List Rat):Nat->List Rat
 | 0=>xs
 | k+1=>dZ a b (ns.getD k 0).toNat (aR a b ns xs k) k
theorem jc(a b:Rat)(n:Nat)(xs:List Rat)(i:Nat):(dZ a b n xs i).length=xs.length:=by simp[dZ]
theorem du(a b:Rat)(ns:List Int)(xs:List Rat):∀k,(aR a b ns xs k).length=xs.length
 | 0=>rfl
 | k+1=>by rw[aR,jc,du a b ns xs k]
theorem gS(a b:Rat)(n:Nat)(xs:List Rat)(i j:Nat)(hj:j<xs.length):(dZ a b n xs i).getD j 0=if j=i then 0 else push a b n (xs.getD j 0+(1-xs.getD i 0)):=by
 unfold dZ;rw[wb,Vi]
 by_cases h:i=j
 ·subst h
  simp[hj]
 ·rw[if_neg h,if_neg (Wr h),wo,wc hj]
  simp[wb,hj]
def Cm(m:Nat)(xs:List Rat):Prop:=∃B:Int,0<B/\Bd m B /\ ∀x∈xs,∃t:Int,x=wr t B/\Bd m t
theorem Cm.mono(h:Cm m xs)(e:m<=n):Cm n xs:=by
 obtain⟨B,h0,h1,h2⟩:=h;exact⟨B,h0,h1.mono e,λx hx=>let ⟨t,e1,e2⟩:=h2 x hx;⟨t,e1,e2.mono e⟩⟩
theorem Cm.dQ(h:Cm m xs)(hx:x∈xs):ah m x:=by
 obtain⟨B,h0,h1,h2⟩:=h;obtain⟨t,rfl,ht⟩:=h2 x hx;exact ah.divInt (by lia) ht h1
theorem Cm.pos(h:Cm m xs):1<=m:=by
 obtain⟨B,h0,h1,_⟩:=h;cases m with
 | zero=>have:=h1.lt;simp at this;lia
 | succ m=>lia
theorem Cm.get(h:Cm m xs)(i:Nat):ah m (xs.getD i 0):=by
 rcases wD i xs.length with z | z
 ·rw[wb,wc z]
  exact h.dQ (vT z)
 ·rw[wb,wE z]
  exact ah.zero.mono h.pos
theorem r_{a b:Rat}(ba:ah 10 a)(bb:ah 10 b){m:Nat}{t u:Int}(hu:0<u)(bt:Bd m t)(bu:Bd m u):∀n:Nat,0<u*((a.den:Int)*(b.den:Int))^n/\Bd (m+21*n) (u*((a.den:Int)*(b.den:Int))^n) /\
  ∃T:Int,push a b n (wr t u)=wr T (u*((a.den:Int)*(b.den:Int))^n)/\Bd (m+21*n) T
 | 0=>⟨by simpa using hu,by simpa using bu,t,by simp[push],by simpa using bt⟩
 | n+1=>by
  obtain⟨h1,h2,T,e,hT⟩:=r_ ba bb hu bt bu n;have eb:u*((a.den:Int)*(b.den:Int))^(n+1)=u*((a.den:Int)*(b.den:Int))^n*(a.den:Int)*(b.den:Int):=by rw[Vy,<- VI,VI (u*_)]
  rw[eb];refine⟨vK (vK h1 (den_pos a)) (den_pos b),((h2.mul ba.b).mul bb.b).mono (by lia),a.num*(b.den:Int)*T+b.num*(a.den:Int)*(u*((a.den:Int)*(b.den:Int))^n),?_,(((ba.t.mul bb.b).mul hT).add ((bb.t.mul ba.b).mul h2)).mono (by lia)⟩;rw[push,e];exact(zwe a b T _ (by lia)).symm
theorem Cm.nU(h:Cm m xs)(ba:ah 10 a)(bb:ah 10 b)(n i:Nat):Cm (m+2+21*n) (dZ a b n xs i):=by
 obtain⟨B,h0,h1,h2⟩:=h
 have hz:∃z:Int,xs.getD i 0=wr z B/\Bd m z:=by
  rcases wD i xs.length with q | q
  ·rw[wb,wc q]
   exact h2 _ (vT q)
  ·rw[wb,wE q]
   exact⟨0,by simp,⟨by simp;exact We m⟩⟩
 obtain⟨z,ez,hz⟩:=hz;have key:=λ(t:Int)(ht:Bd m t)=>r_ ba bb h0 (show Bd (m+2) (t+B-z)from((ht.add h1).sub hz).mono (by lia)) (h1.mono (by lia)) n
 obtain⟨p1,p2,_⟩:=key 0 ⟨by simp;exact We m⟩;refine⟨_,p1,p2,λx hx=>?_⟩
 have hx':x=0 \/ ∃y∈xs,x=push a b n (y+(1-xs.getD i 0)):=by
  unfold dZ at hx;rcases Qv hx with q | q
  ·obtain⟨y,hy,rfl⟩:=wP.mp q
   exact .inr ⟨y,hy,rfl⟩
  ·exact .inl q
 rcases hx' with rfl | ⟨y,hy,rfl⟩
 ·exact⟨0,by simp,⟨by simp;exact We _⟩⟩
 ·obtain⟨t,rfl,ht⟩:=h2 y hy
  obtain⟨_,_,T,e,hT⟩:=key t ht
  have e2:wr t B+(1-xs.getD i 0)=wr (t+B-z) B:=by
   rw[ez]
   symm
   refine gE (by lia) ?_;have q1:=c8 t (show B≠0 by lia);have q2:=c8 z (show B≠0 by lia);have q3:((t+B-z:Int):Rat)=(t:Rat)+(B:Rat)-(z:Rat):=by push_cast;rfl
   rw[q3,<- q1,<- q2]
   grind
  rw[e2];exact⟨T,e,hT⟩
theorem Cm.snoc(h:Cm m xs):Cm m (xs++[0]):=by
 obtain⟨B,h0,h1,h2⟩:=h;refine⟨B,h0,h1,λx hx=>?_⟩;rcases vb.mp hx with q | q
 ·exact h2 x q
 ·rw[wI.mp q]
  exact⟨0,by simp,⟨by simp;exact We m⟩⟩
def upTo(ns:List Int)(k:Nat):Nat:=((ns.take k).map QN).sum
theorem sD(h:k<ns.length):upTo ns (k+1)=upTo ns k+(ns.getD k 0).toNat:=by
 unfold upTo;rw[qE,wc h,wb,wc h,vF,List.sum_append]
 show _+([ns[k].toNat]:List Nat).sum=_
 rw[List.sum_singleton]
 rfl
theorem Cm.rows{m:Nat}{xs:List Rat}{a b:Rat}{ns:List Int}(h:Cm m xs)(ba:ah 10 a)(bb:ah 10 b):∀k,k<=ns.length->Cm (m+2*k+21*upTo ns k) (aR a b ns xs k)
 | 0,_=>h.mono (by lia)
 | k+1,hk=>by
  have:=(Cm.rows h ba bb (ns:=ns) k (by lia)).nU ba bb (ns.getD k 0).toNat k;rw[aR];refine this.mono ?_;rw[sD (by lia)]
  lia
theorem Rp(a:Rat)(m:Nat):∀n:Nat,a^(m+n)=a^m*a^n
 | 0=>by rw[Nat.add_zero,VY,Rat.mul_one]
 | n+1=>by rw[<- VH,Wx,Rp a m n,Wx,X6]
theorem zwL(a b:Rat)(n:Nat)(xs ys:List Rat)(i j:Nat)(hx:xs.length=ys.length)(hj:j<xs.length) :
  (dZ a b n xs i).getD j 0-(dZ a b n ys i).getD j 0=a^n*((xs.getD j 0-ys.getD j 0)-(xs.getD i 0-ys.getD i 0)):=by
 rw[gS a b n xs i j hj,gS a b n ys i j (by lia)]
 by_cases h:j=i
 ·subst h
  rw[if_pos rfl,if_pos rfl]
  grind
 ·rw[if_neg h,if_neg h,R1]
  grind
theorem DF(a b:Rat)(ns:List Int)(xs ys:List Rat)(hx:xs.length=ys.length)(hn:ns.length=xs.length)(l:Nat)(hl:l+1=xs.length)(h0:xs.getD l 0=ys.getD l 0) :
  ∀k,k<=ns.length->∀j,j<xs.length->(aR a b ns xs k).getD j 0-(aR a b ns ys k).getD j 0=a^upTo ns k*((xs.getD j 0-ys.getD j 0)-(if k=0 then 0 else xs.getD (k-1) 0-ys.getD (k-1) 0))
 | 0,_,j,hj=>by simp[aR,upTo];grind
 | k+1,hk,j,hj=>by
  rw[aR,aR,zwL _ _ _ _ _ _ _ (by rw[du,du,hx]) (by rw[du];exact hj),DF a b ns xs ys hx hn l hl h0 k (by lia) j hj,DF a b ns xs ys hx hn l hl h0 k (by lia) k (by lia),sD (by lia),Rp];simp only[qr];rw[if_neg (show ¬ k+1=0 by lia)]
  grind
def mM(a b:Rat)(n:Nat)(xs:List Rat):List Rat:=(xs.tail.map λy=>push a b n (y+(1-xs.headD 0)))++[0]
def turned(a b:Rat)(ns:List Int)(xs:List Rat):Nat->List Rat
 | 0=>xs
 | k+1=>mM a b (ns.getD k 0).toNat (turned a b ns xs k)
theorem oI(a b:Rat)(ns:List Int)(xs:List Rat):∀k,k<=xs.length->turned a b ns xs k=(aR a b ns xs k).drop k++(aR a b ns xs k).take k
 | 0,_=>by simp[turned,aR]
 | k+1,hk=>by
  have hl:(aR a b ns xs k).length=xs.length:=du a b ns xs k;have hk':k<(aR a b ns xs k).length:=by lia
  rw[turned,oI a b ns xs k (by lia),aR];generalize aR a b ns xs k=r at *;generalize (ns.getD k 0).toNat=n;have e1:r.drop k=r[k]::r.drop (k+1):=Vo hk';have e2:r.getD k 0=r[k]:=by rw[wb,wc hk'];rfl
  unfold mM dZ;rw[e1,e2,Xq,X0,List.headD_cons,List.drop_set_of_lt (by lia),vF,X7,WP]
  congr 1
  have hm:k<(r.map λx=>push a b n (x+(1-r[k]))).length:=by rw[wl];exact hk'
  rw[X8];generalize (r.map λx=>push a b n (x+(1-r[k])))=s at hm ⊢;rw[List.take_set,qE,wc hm]
  show _=(s.take k++[s[k]]).set k 0
  have hlk:(s.take k).length=k:=by rw[vG];lia
  rw[List.set_append_right _ _ (by lia),hlk,W7]
  rfl
theorem zuu(a b:Rat)(ns:List Int)(xs:List Rat)(h:ns.length=xs.length):turned a b ns xs ns.length=aR a b ns xs ns.length:=by
 rw[oI a b ns xs _ (by lia)];have hl:(aR a b ns xs ns.length).length=xs.length:=du a b ns xs _;rw[Q1 (by lia),Wy (by lia),qO]
def nV(xs:List Rat):Nat->Int
 | 0=>1
 | k+1=>nV xs k*((xs.getD k 0).den:Int)
theorem PK(xs:List Rat):∀k,0<nV xs k
 | 0=>by show(0:Int)<1;decide
 | k+1=>vK (PK xs k) (den_pos _)
theorem Nr(xs:List Rat):∀k j,j<k->((xs.getD j 0).den:Int) ∣ nV xs k
 | 0,j,h=>by lia
 | k+1,j,h=>by
  rcases wD j k with z | z
  ·exact qb (Nr xs k j z) (Vj ..)
  ·have:j=k:=by lia
   subst this;exact Xr ..
theorem Pk{xs:List Rat}{m:Nat}(h:∀i,ah m (xs.getD i 0)):∀k,Bd (m*k+1) (nV xs k)
 | 0=>⟨by show(1:Int).natAbs<_;simp⟩
 | k+1=>by
  rw[nV];refine((Pk h k).mul (h k).b).mono ?_;rw[Nat.mul_add];lia
theorem ZT(hB:0<B)(h:(x.den:Int) ∣ B):wr (x.num*B.fdiv x.den) B=x:=by
 obtain⟨c,rfl⟩:=h;rw[gk (Vj ..) (iG x),Vw _ (iG x)];refine gE (by lia) ?_;have:=kB x;rw[vL,vL,<- this]
 grind
theorem zAt(hd:0<d)(hB:0<B)(h:Bd m B):Bd m (B.fdiv d):=by
 refine h.le ?_;rw[Ve _ (by lia)];have h1:0<=B / d:=Int.ediv_nonneg (by lia) (by lia);have h2:B / d<=B:=Xs _ (by lia)
 lia
theorem Df(a b:Rat)(ns:List Int)(xs:List Rat)(hk:k<xs.length):(turned a b ns xs k).headD 0=(aR a b ns xs k).getD k 0:=by
 have hl:=du a b ns xs k;rw[oI a b ns xs k (by lia),Vo (by lia),wb,wc (by lia)]
 rfl
theorem Fo(a b:Rat)(ns:List Int)(xs:List Rat)(hx:0<xs.length):∀k,(turned a b ns xs k).length=xs.length
 | 0=>rfl
 | k+1=>by
  have:=Fo a b ns xs hx k;rw[turned,mM,wy,wl,Vz,this];simp;lia
theorem Nz(x y:Rat):((x*y).num=x.num / (x.num.natAbs.gcd y.den:Nat)*(y.num / (y.num.natAbs.gcd x.den:Nat)))/\((x*y).den=x.den / (y.num.natAbs.gcd x.den)*(y.den / (x.num.natAbs.gcd y.den))):=by
 show(Rat.mul x y).num=_/\(Rat.mul x y).den=_
 unfold Rat.mul;simp only[Int.divExact_eq_ediv,Nat.divExact_eq_div]
 constructor<;>trivial
theorem T_(x y:Rat):((x+y).num=(x.num*((y.den / x.den.gcd y.den:Nat):Int)+y.num*((x.den / x.den.gcd y.den:Nat):Int)) / (((x.num*((y.den / x.den.gcd y.den:Nat):Int)+y.num*((x.den / x.den.gcd y.den:Nat):Int)).natAbs.gcd (x.den.gcd y.den):Nat):Int))/\((x+y).den=x.den / (x.den.gcd y.den)*(y.den / ((x.num*((y.den / x.den.gcd y.den:Nat):Int)+y.num*((x.den / x.den.gcd y.den:Nat):Int)).natAbs.gcd (x.den.gcd y.den)))):=by
 show(Rat.add x y).num=_/\(Rat.add x y).den=_
 unfold Rat.add
 by_cases hg:x.den.gcd y.den=1
 ·simp[hg]
 ·simp only[hg,dite_false,Rat.maybeNormalize_eq]
  refine⟨by simp,?_⟩;simp;have:(x.num*((y.den / x.den.gcd y.den:Nat):Int)+y.num*((x.den / x.den.gcd y.den:Nat):Int)).natAbs.gcd (x.den.gcd y.den) ∣ y.den:=Nat.dvd_trans (xW _ _) (xW _ _);simp at this;rw[Nat.mul_div_assoc _ this]
def fO(x y:Rat):Int:=((vj (x.den:Int) (y.den:Int):Nat):Int)
def lI(x y:Rat):Int:=x.num*(y.den:Int).fdiv (fO x y)+y.num*(x.den:Int).fdiv (fO x y)
def kf(x y:Rat):Int:=((vj (lI x y) (fO x y):Nat):Int)
theorem uF(x y:Rat):0<fO x y:=by
 have:0<vj (x.den:Int) (y.den:Int):=Int.gcd_pos_of_ne_zero_left _ (by have:=x.den_pos;lia);unfold fO;lia
theorem Bw(x y:Rat):0<kf x y:=by
 have:0<vj (lI x y) (fO x y):=VX _ (by have:=uF x y;lia);unfold kf;lia
theorem Ca(x y:Rat):fO x y=((x.den.gcd y.den:Nat):Int):=by simp[fO,vj]
theorem sM(x y:Rat):fO x y ∣ (x.den:Int):=V7 ..
theorem Ao(x y:Rat):fO x y ∣ (y.den:Int):=qD ..
theorem zDl(x y:Rat):kf x y ∣ lI x y:=V7 ..
theorem CF(x y:Rat):kf x y ∣ fO x y:=qD ..
theorem RU(x y:Rat):lI x y=x.num*((y.den / x.den.gcd y.den:Nat):Int)+y.num*((x.den / x.den.gcd y.den:Nat):Int):=by
 have h:=uF x y;rw[lI,gk (Ao x y) (by lia),gk (sM x y) (by lia),Ca,Vx,Vx]
theorem LZ(x y:Rat):kf x y=(((x.num*((y.den / x.den.gcd y.den:Nat):Int)+y.num*((x.den / x.den.gcd y.den:Nat):Int)).natAbs.gcd (x.den.gcd y.den):Nat):Int):=by
 rw[kf,RU,Ca];simp[vj]
theorem zBe(x y:Rat):(lI x y).fdiv (kf x y)=(x+y).num:=by
 have h:=Bw x y;rw[gk (zDl x y) (by lia),(T_ x y).1,LZ,RU]
theorem zAC(x y:Rat):(x.den:Int).fdiv (fO x y)*(y.den:Int).fdiv (kf x y)=((x+y).den:Int):=by
 have h:=Bw x y;have h2:=uF x y;rw[gk (qb (CF x y) (Ao x y)) (by lia),gk (sM x y) (by lia),(T_ x y).2,LZ,Ca];simp only[Va,Vx]
def g_(x y:Rat):Int:=((vj x.num (y.den:Int):Nat):Int)
theorem n_(x y:Rat):0<g_ x y:=by
 have:0<vj x.num (y.den:Int):=VX _ (by have:=y.den_pos;lia);unfold g_;lia
theorem ym(x y:Rat):g_ x y ∣ x.num:=V7 ..
theorem oz(x y:Rat):g_ x y ∣ (y.den:Int):=qD ..
theorem yc(x y:Rat):g_ x y=((x.num.natAbs.gcd y.den:Nat):Int):=by simp[g_,vj]
theorem zBB(x y:Rat):x.num.fdiv (g_ x y)*y.num.fdiv (g_ y x)=(x*y).num:=by
 have h:=n_ x y;have h2:=n_ y x;rw[gk (ym x y) (by lia),gk (ym y x) (by lia),(Nz x y).1,yc,yc]
theorem zAP(x y:Rat):(x.den:Int).fdiv (g_ y x)*(y.den:Int).fdiv (g_ x y)=((x*y).den:Int):=by
 have h:=n_ x y;have h2:=n_ y x;rw[gk (oz x y) (by lia),gk (oz y x) (by lia),(Nz x y).2,yc,yc];simp only[Va,Vx]
theorem mY{a:Int}(h:Bd n a)(hd:d ∣ a)(hp:0<d):Bd n (a.fdiv d):=by
 rw[gk hd (by lia)];exact h.le (Qu a d)
theorem sv{a:Int}(h:Bd n a)(hd:d ∣ a)(ha:0<a):Bd n d :=
 h.le (X9 (by lia) (Int.natAbs_dvd_natAbs.mpr hd))
theorem u0(t b:Int):vj (if t<0 then -t else t) b=vj t b:=by split<;>simp
theorem zBC(h:ah n y):ah n (-y):=⟨by simpa using h.t.neg,by simpa using h.b⟩
theorem zuN(x y:Rat):x + -y=x-y:=(Rat.sub_eq_add_neg x y).symm
theorem yY(h:0<y.num):(y⁻¹).num=(y.den:Int)/\((y⁻¹).den:Int)=y.num:=by
 have:¬ y.num<0:=by lia
 constructor
 ·rw[Rat.num_inv,QW h,QX]
 ·rw[Rat.den_inv];split<;>lia
theorem zJ(h:y.num<0):(y⁻¹).num = -(y.den:Int)/\((y⁻¹).den:Int) = -y.num:=by
 constructor
 ·rw[Rat.num_inv,Ql h,XH]
 ·rw[Rat.den_inv];split<;>lia
theorem Uv(h:ah n y)(hy:y≠0):ah n y⁻¹:=by
 have:=AB hy
 by_cases p:0<y.num
 ·exact⟨by rw[(yY p).1];exact h.b,by rw[(yY p).2];exact h.t⟩
 ·have p:y.num<0:=by lia
  exact⟨by rw[(zJ p).1];exact h.b.neg,by rw[(zJ p).2];exact h.t.neg⟩
theorem MN(x y:Rat):0<(x.den:Int)*(y.den:Int):=vK (den_pos x) (den_pos y)
theorem getD_mem{α : Type}{xs:List α}{d : α}(h:i<xs.length):xs.getD i d∈xs:=by
 rw[wb,wc h];exact vT h
def kr(x:Rat):Bool:=(!decide (x<0))&&(decide (x<1)&&decide ((x.den:Int)<=60))
structure fH(x:Rat):Prop where
 nn:0<=x
 lt:x<1
 den:x.den<=60
theorem fH.is(h:fH x):kr x=true:=by
 have h1:=h.nn;have h2:=h.lt;have h3:=h.den;have h4:¬ x<0:=Vp.mpr h1;have h5:(x.den:Int)<=60:=by lia
 simp[kr,h4,h2,h5]
theorem fH.dQ(h:fH x):ah 6 x:=by
 have h1:=h.nn;have h2:=h.lt;have h3:=h.den;have n0:0<=x.num:=qB.mpr h1
 have n1:x.num<x.den:=by
   have:=Rat.lt_iff x 1 |>.mp h2
   simpa using this
 exact ⟨⟨by have : (2 : Nat) ^ 6 = 64 := by decide
            omega⟩, ⟨by have : (2 : Nat) ^ 6 = 64 := by decide
                        omega⟩⟩
def mx(m:Rat)(l:List Rat):Rat:=l.foldl (λm x=>if m<x then x else m) m
theorem X_:∀(l:List Rat)(m:Rat),m<=mx m l /\ ∀y∈l,y<=mx m l
 | [],m=>⟨Wz,λy h=>by cases h⟩
 | x::l,m=>by
  have h:=X_ l (if m<x then x else m);have e:mx m (x::l)=mx (if m<x then x else m) l:=rfl;rw[e]
  have h1:m<=(if m<x then x else m)/\x<=(if m<x then x else m):=by
   split
   ·rename_i z;exact⟨vU z,Wz⟩
   ·rename_i z;exact⟨Wz,Vp.mp z⟩
  refine⟨Qz h1.1 h.1,λy hy=>?_⟩;rcases wH.mp hy with rfl | hy
  ·exact Qz h1.2 h.1
  ·exact h.2 y hy
theorem Ex:∀(l:List Rat)(m:Rat),mx m l=m\/mx m l∈l
 | [],m=>.inl rfl
 | x::l,m=>by
  have e:mx m (x::l)=mx (if m<x then x else m) l:=rfl;rw[e];rcases Ex l (if m<x then x else m)with h | h
  ·rw[h]
   split
   ·exact .inr (wB ..)
   ·exact .inl rfl
  ·exact .inr (wu _ h)
theorem uK(m x:Rat)(l:List Rat):mx m (l++[x])=if mx m l<x then x else mx m l:=by
 unfold mx;rw[xX];rfl
def cC(xs:List Rat):Rat:=mx (xs.getD 0 0) xs
theorem NC : ∀y∈xs,y<=cC xs:=(X_ xs _).2
theorem ja(h:1<=xs.length):cC xs∈xs:=by
 rcases Ex xs (xs.getD 0 0)with e | e
 ·unfold cC
  rw[e,wb,wc (by lia)];exact vT _
 ·exact e
theorem pM(h:i<xs.length):xs.take (i+1)=xs.take i++[xs.getD i 0]:=by
 rw[qE,wb,wc h];rfl
theorem Ob(b:∀i,ah n (xs.getD i 0))(h1:1<=xs.length)(i:Nat):ah n (mx (xs.getD 0 0) (xs.take i)):=by
 rcases Ex (xs.take i) (xs.getD 0 0)with e | e
 ·rw[e];exact b 0
 ·have e:=Xu _ _ e
  obtain⟨j,hj,ej⟩:=wY e;rw[<- ej];have:=b j;rw[wb,wc hj]at this;exact this
theorem MQ{r:Int}(h0:0<=r)(h1:r<u)(h2:u<=60):fH (wr r u):=by
 refine⟨xV h0 (by lia),zuT (c:=1) (by lia) (by lia),?_⟩;have:=FQ r u (by lia)
 lia
def aH(ps:List Rat)(left:List Nat):List Nat:=left.filter λw=>!decide (ps.getD w 0<1)
def cj(left wave:List Nat):List Nat:=left.filter λw=>!decide (w∈wave)
def c7(f g:Rat)(ps:List Rat)(l:List Nat):List Rat:=l.foldl (λps w=>ps.set w (f*ps.getD w 0+g)) ps
def cX(a b:Rat):Nat->List Rat->List Nat->List (List Nat) × (List Nat × List Rat)
 | 0,ps,left=>([],left,ps)
 | n+1,ps,left=>match aH ps left with
  | []=>([],left,ps)
  | w::ws=>((w::ws)::(cX a b n (c7 (a^(w::ws).length) (aE a b (w::ws).length) ps (cj left (w::ws))) (cj left (w::ws))).1,(cX a b n (c7 (a^(w::ws).length) (aE a b (w::ws).length) ps (cj left (w::ws))) (cj left (w::ws))).2)
def jP(left:List Nat)(ps:List Rat):List Rat:=(wp ps.length).map λi=>if i∈left then ps.getD i 0 else 0
def bZ(xs:List Rat):List Rat:=xs.map (· + (1-cC xs))
def eW(a b:Rat)(xs:List Rat):List (List Nat) × (List Nat × List Rat):=cX a b xs.length (bZ xs) (wp xs.length)
def dg(a b:Rat)(xs:List Rat):List (List Nat):=(eW a b xs).1
def dP(a b:Rat)(xs:List Rat):List Rat:=jP (eW a b xs).2.1 (eW a b xs).2.2
theorem oO(h:aH ps left=[]):cX a b n ps left=([],left,ps):=by
 cases n with
 | zero=>rfl
 | succ n=>rw[cX,h]
theorem kg(h:aH ps left≠[]):cX a b (n+1) ps left=(aH ps left::(cX a b n (c7 (a^(aH ps left).length) (aE a b (aH ps left).length) ps (cj left (aH ps left))) (cj left (aH ps left))).1,(cX a b n (c7 (a^(aH ps left).length) (aE a b (aH ps left).length) ps (cj left (aH ps left))) (cj left (aH ps left))).2):=by
 rw[cX];cases e:aH ps left with
 | nil=>exact absurd e h
 | cons w ws=>rfl
theorem zrP(f g:Rat)(ps:List Rat)(l:List Nat)(w:Nat):c7 f g ps (l++[w])=(c7 f g ps l).set w (f*(c7 f g ps l).getD w 0+g):=by
 unfold c7;rw[xX];rfl
theorem jI(f g:Rat):∀(l:List Nat)(ps:List Rat),(c7 f g ps l).length=ps.length
 | [],ps=>rfl
 | w::l,ps=>by
  show(c7 f g (ps.set w _) l).length=_
  rw[jI f g l,W9]
theorem RN(h:w≠j):(ps.set w y).getD j 0=ps.getD j 0:=by
 rw[wb,Vi,if_neg h,wb]
theorem LH(h:w<ps.length):(ps.set w y).getD w 0=y:=by
 rw[wb,Vi,if_pos rfl,if_pos h];rfl
theorem j3(f g:Rat):∀(l:List Nat)(ps:List Rat),l.Nodup->(∀w∈l,w<ps.length)->∀j,(c7 f g ps l).getD j 0=if j∈l then f*ps.getD j 0+g else ps.getD j 0
 | [],ps,_,_,j=>by simp[c7]
 | w::l,ps,nd,hl,j=>by
  have nd':=VL.mp nd
  show(c7 f g (ps.set w _) l).getD j 0=_
  rw[j3 f g l _ nd'.2 (λv hv=>by rw[W9];exact hl v (wu _ hv)) j]
  by_cases hj:j=w
  ·subst hj
   rw[if_neg nd'.1,if_pos (wB ..),LH (hl j (wB ..))]
  ·rw[RN (Wr hj)]
   by_cases hm:j∈l
   ·rw[if_pos hm,if_pos (wu _ hm)]
   ·rw[if_neg hm,if_neg (λz=>by rcases wH.mp z with z | z;(exact hj z);exact hm z)]
theorem zu1(ps:List Rat)(left:List Nat):cj left (aH ps left)=left.filter λw=>decide (ps.getD w 0<1):=by
 unfold cj;refine vH λw hw=>?_
 have e:(w∈aH ps left)=(¬ ps.getD w 0<1):=by
  unfold aH;rw[w6];simp[hw]
 simp only[e];simp
theorem C8(ps:List Rat)(left:List Nat):(aH ps left).length+(cj left (aH ps left)).length=left.length:=by
 rw[zu1];unfold aH
 induction left with
 | nil=>rfl
 | cons w l ih=>by_cases h:ps.getD w 0<1<;>simp only[WF,h,decide_true,decide_false,qc,xa,if_true,if_false,Wq,vn]<;>lia
theorem pC{wave:List Nat}(h:left.Nodup):(cj left wave).Nodup:=h.filter _
theorem pK{wave:List Nat}(h:∀w∈left,w<n):∀w∈cj left wave,w<n:=λw hw=>h w (w6.mp hw).1
theorem Mg(left:List Nat)(ps:List Rat):(jP left ps).length=ps.length:=by simp[jP]
theorem oM(h:j<ps.length):(jP left ps).getD j 0=if j∈left then ps.getD j 0 else 0:=by
 unfold jP;rw[wb,wo,vY h]
 rfl
theorem f_(xs:List Rat):(bZ xs).length=xs.length:=by simp[bZ]
theorem rY{a b:Rat} : ∀(n:Nat)(ps:List Rat)(left:List Nat),(cX a b n ps left).2.2.length=ps.length
 | 0,ps,left=>rfl
 | n+1,ps,left=>by
  by_cases h:aH ps left=[]
  ·rw[oO h]
  ·rw[kg h]
   show(cX a b n _ _).2.2.length=_
   rw[rY n,jI]
theorem j8(a b:Rat)(xs:List Rat):(dP a b xs).length=xs.length:=by
 unfold dP eW;rw[Mg,rY,f_]
theorem Cm.KG(h0:0<B)(h1:Bd m B)(h:∀j,j<ps.length->∃t:Int,ps.getD j 0=wr t B/\Bd m t):∀x∈ps,∃t:Int,x=wr t B/\Bd m t:=λx hx=>by
 obtain⟨j,hj,e⟩:=wY hx;have:=h j hj;rw[wb,wc hj]at this;rw[<- e];exact this
theorem yH{a b:Rat}(ba:ah 10 a)(bb:ah 10 b){m:Nat}{t:Int}(h:Bd m t):∀n:Nat,Bd (m+21*n) (t*((a.den:Int)*(b.den:Int))^n)
 | 0=>by simpa using h
 | n+1=>by
  rw[Vy,<- VI];exact((yH ba bb h n).mul (ba.b.mul bb.b)).mono (by lia)
theorem tM(h0:0<B)(hd:0<d):wr t B=wr (t*d) (B*d):=by
 symm
 refine gE (by have:=vK h0 hd;lia) ?_;have q1:=c8 t (show B≠0 by lia);rw[vL,vL,<- X6,q1]
theorem Cm.wave(c:Cm m (h::ps))(ba:ah 10 a)(bb:ah 10 b)(n:Nat){l:List Nat}(nd:l.Nodup)(hl:∀w∈l,w<ps.length):Cm (m+21*n) (h::c7 (a^n) (aE a b n) ps l):=by
 obtain⟨B,h0,h1,h2⟩:=c;have hz:Bd m (0:Int):=⟨by simp;exact We m⟩;obtain⟨p1,p2,_⟩:=r_ ba bb h0 hz h1 n;have hd:0<((a.den:Int)*(b.den:Int))^n:=Xk (vK (den_pos a) (den_pos b));refine⟨_,p1,p2,λx hx=>?_⟩;rcases wH.mp hx with rfl | hx
 ·obtain⟨t,rfl,ht⟩:=h2 x (wB ..)
  exact⟨_,tM h0 hd,yH ba bb ht n⟩
 ·refine Cm.KG p1 p2 (λj hj=>?_) x hx
  rw[jI]at hj;obtain⟨t,e,ht⟩:=h2 (ps.getD j 0) (wu _ (getD_mem hj));rw[j3 _ _ _ _ nd hl]
  split
  ·obtain⟨_,_,T,e2,hT⟩:=r_ ba bb h0 ht h1 n
   exact⟨T,by rw[<- iZ,e,e2],hT⟩
  ·exact⟨_,by rw[e];exact tM h0 hd,yH ba bb ht n⟩
theorem Cm.rise{M:Rat}(c:Cm m (h::xs))(hM:M∈xs):Cm (m+2) ((h+(1-M))::xs.map (· + (1-M))):=by
 obtain⟨B,h0,h1,h2⟩:=c;obtain⟨z,ez,hz⟩:=h2 M (wu _ hM)
 have key:∀t:Int,Bd m t->wr t B+(1-M)=wr (t+B-z) B/\Bd (m+2) (t+B-z):=λt ht=>by
  refine⟨?_,((ht.add h1).sub hz).mono (by lia)⟩;rw[ez]
  symm
  refine gE (by lia) ?_;have q1:=c8 t (show B≠0 by lia);have q2:=c8 z (show B≠0 by lia);have q3:((t+B-z:Int):Rat)=(t:Rat)+(B:Rat)-(z:Rat):=by push_cast;rfl
  rw[q3,<- q1,<- q2]
  grind
 refine⟨B,h0,h1.mono (by lia),λx hx=>?_⟩;rcases wH.mp hx with rfl | hx
 ·obtain⟨t,e,ht⟩:=h2 h (wB ..)
  rw[e];exact⟨_,(key t ht).1,(key t ht).2⟩
 ·obtain⟨y,hy,rfl⟩:=wP.mp hx
  obtain⟨t,e,ht⟩:=h2 y (wu _ hy)
  show ∃t:Int,y+(1-M)=_/\_
  rw[e];exact⟨_,(key t ht).1,(key t ht).2⟩
theorem Cm.kZ(c:Cm m xs)(h:∀y∈ys,y∈xs\/y=0):Cm m ys:=by
 obtain⟨B,h0,h1,h2⟩:=c;refine⟨B,h0,h1,λy hy=>?_⟩;rcases h y hy with z | rfl
 ·exact h2 y z
 ·exact⟨0,by simp,⟨by simp;exact We m⟩⟩
theorem zzr : ∀y∈jP left ps,y∈ps\/y=0:=λy hy=>by
 unfold jP at hy;obtain⟨i,hi,e⟩:=wP.mp hy;rw[<- e]
 split
 ·exact .inl (getD_mem (wG.mp hi))
 ·exact .inr rfl
theorem Cm.YX(h:∀i,ah k (xs.getD i 0)):Cm (k*xs.length+1+k) xs:=by
 have h0:=PK xs xs.length;have h1:=Pk h xs.length;refine⟨nV xs xs.length,h0,h1.mono (by lia),Cm.KG h0 (h1.mono (by lia)) λj hj=>?_⟩;exact⟨_,(ZT h0 (Nr xs _ j hj)).symm,((h j).t.mul (zAt (den_pos _) h0 h1)).mono (by lia)⟩
def aj(a b:Rat)(xs:List Rat):Nat->List Rat
 | 0=>xs
 | k+1=>dP a b (aj a b xs k)
def aG(a b:Rat)(xs:List Rat):Nat->Rat
 | 0=>0
 | k+1=>aG a b xs k+(1-cC (aj a b xs k))
theorem bS(a b:Rat)(xs:List Rat):∀k,(aj a b xs k).length=xs.length
 | 0=>rfl
 | k+1=>by rw[aj,j8,bS a b xs k]
theorem Ag{f:Rat->Rat}(h:w<xs.length):(xs.map f).getD w 0=f (xs.getD w 0):=by
 rw[wb,wo,wc h,wb,wc h];rfl
def nz(d:Int)(m:Nat)(xs:List Rat):Prop:=∃B:Int,0<B/\d ∣ B/\Bd m B /\ ∀x∈xs,∃t:Int,x=wr t B/\Bd m t
theorem nz.of(h:Cm m xs)(hd:0<d)(b:Bd 4 d):nz d (m+4) xs:=by
 obtain⟨B,h0,h1,h2⟩:=h;refine⟨B*d,vK h0 hd,Xr ..,(h1.mul b),λx hx=>?_⟩;obtain⟨t,e,ht⟩:=h2 x hx;exact⟨t*d,by rw[e];exact tM h0 hd,ht.mul b⟩
theorem Oe{a b:Rat}(ta:Bd 6 a.num)(da:Bd 4 (a.den:Int))(tb:Bd 4 b.num){m:Nat}{t u:Int}(hu:0<u)(hd:(b.den:Int) ∣ u)(bt:Bd m t)(bu:Bd m u):∀n:Nat,0<u*(a.den:Int)^n/\(b.den:Int) ∣ u*(a.den:Int)^n/\Bd (m+9*n) (u*(a.den:Int)^n) /\
  ∃T:Int,push a b n (wr t u)=wr T (u*(a.den:Int)^n)/\Bd (m+9*n) T
 | 0=>⟨by simpa using hu,by simpa using hd,by simpa using bu,t,by simp[push],by simpa using bt⟩
 | n+1=>by
  obtain⟨h1,hdv,h2,T,e,hT⟩:=Oe ta da tb hu hd bt bu n;have eb:u*(a.den:Int)^(n+1)=u*(a.den:Int)^n*(a.den:Int):=by rw[Vy,<- VI]
  rw[eb];generalize u*(a.den:Int)^n=U at *;obtain⟨c,rfl⟩:=hdv
  have hc:0<c:=by
   have hb:=den_pos b;rcases Int.lt_or_le 0 c with z | z
   ·exact z
   ·have:=Int.mul_nonpos_of_nonneg_of_nonpos (Int.le_of_lt hb) z
    lia
  have bc:Bd (m+9*n) c:=h2.le (by
   rw[Q8];exact Nat.le_mul_of_pos_left _ (by have:=den_pos b;lia))
  refine⟨vK h1 (den_pos a),qb (Vj ..) (Vj ..),(h2.mul da).mono (by lia),a.num*T+b.num*(a.den:Int)*c,?_,((ta.mul hT).add ((tb.mul da).mul bc)).mono (by lia)⟩;rw[push,e]
  symm
  have hU:((b.den:Int)*c)*(a.den:Int)≠0:=by have:=vK h1 (den_pos a);lia
  refine gE hU ?_;have q1:=c8 T (show(b.den:Int)*c≠0 by lia);have q2:=kB a;have q3:=kB b;have q4:((a.num*T+b.num*(a.den:Int)*c:Int):Rat)=(a.num:Rat)*(T:Rat)+(b.num:Rat)*((a.den:Int):Rat)*(c:Rat):=by push_cast;rfl
  have q5:(((b.den:Int)*c*(a.den:Int):Int):Rat)=((b.den:Int):Rat)*(c:Rat)*((a.den:Int):Rat):=by push_cast;rfl
  have q6:(((b.den:Int)*c:Int):Rat)=((b.den:Int):Rat)*(c:Rat):=by push_cast;rfl
  rw[q6]at q1;rw[q4,q5,<- q1,<- q2,<- q3]
  grind
theorem eQ(a b:Rat)(xs:List Rat)(m:Nat):∀k,aj a b (aj a b xs m) k=aj a b xs (m+k)
 | 0=>rfl
 | k+1=>by rw[aj,eQ a b xs m k];rfl
theorem ma(a b:Rat)(xs:List Rat)(m:Nat):∀k,aG a b xs m+aG a b (aj a b xs m) k=aG a b xs (m+k)
 | 0=>by show aG a b xs m+0=aG a b xs m;grind
 | k+1=>by
  have:=ma a b xs m k
  show aG a b xs m+(aG a b (aj a b xs m) k+(1-cC (aj a b (aj a b xs m) k)))=aG a b xs (m+k)+(1-cC (aj a b xs (m+k)))
  rw[eQ,<- this]
  grind
theorem Lj{a b:Rat}(a0:0<a)(b0:0<=b){x:Rat}(h:0<x):∀n:Nat,0<push a b n x
 | 0=>h
 | n+1=>by
  have h1:=Lj a0 b0 h n;have h2:=VQ a0 h1
  show 0<a*push a b n x+b
  grind
structure iN(l:List Rat):Prop where
 pw:l.Pairwise (· > ·)
 nn:∀y∈l,0<=y
theorem iN.step(a0:0<a)(b0:0<=b)(h:iN (x::l))(x1:x<1):iN (mM a b n (x::l)):=by
 have hp:=WK.mp h.pw;have pos:∀y∈l,0<push a b n (y+(1-x)):=λy hy=>Lj a0 b0 (by have:=h.nn y (wu _ hy);grind) n
 unfold mM;refine⟨V8.mpr ⟨?_,QG _ _,?_⟩,λy hy=>?_⟩
 ·show(l.map λy=>push a b n (y+(1-x))).Pairwise (· > ·)
  rw[Qp];refine hp.2.imp λ{y z} hyz=>?_
  show push a b n (z+(1-x))<push a b n (y+(1-x))
  have hyz:z<y:=hyz;exact(zBo a0 n _ _).mpr (by grind)
 ·intro y hy z hz
  obtain⟨w,hw,rfl⟩:=wP.mp hy;rw[wI.mp hz];exact pos w hw
 ·rcases vb.mp hy with hy | hy
  ·obtain⟨w,hw,rfl⟩:=wP.mp hy
   exact vU (pos w hw)
  ·rw[wI.mp hy];exact Wz
structure iD(xs row:List Rat)(fl:Nat->Nat):Prop where
 at':∀w,w<xs.length->xs.getD w 0=row.getD (fl w) 0
 lt:∀w,w<xs.length->fl w<row.length
def bV(n:Nat)(fl:Nat->Nat)(c:Nat):List Nat:=(wp n).filter λw=>decide (fl w=c)
theorem rF{row:List Rat}(h:iD xs row fl)(some:∃w,w<xs.length/\fl w=c)(top:∀j,j<row.length->j≠c->row.getD j 0<row.getD c 0):cC xs=row.getD c 0:=by
 obtain⟨w,hw,rfl⟩:=some;have h1:1<=xs.length:=by lia
 refine Rat.le_antisymm ?_ ?_
 ·obtain⟨j,hj,e⟩:=wY (ja h1)
  have ea:=h.at' j hj;rw[wb,wc hj]at ea;have ea:xs[j]=row.getD (fl j) 0:=ea;rw[<- e,ea]
  by_cases z:fl j=fl w
  ·rw[z];exact Wz
  ·exact vU (top _ (h.lt j hj) z)
 ·rw[<- h.at' w hw]
  exact NC _ (getD_mem hw)
theorem BC{row:List Rat}(h:iD xs row fl)(some:∃w,w<xs.length/\fl w=c)(top:∀j,j<row.length->j≠c->row.getD j 0<row.getD c 0):aH (bZ xs) (wp xs.length)=bV xs.length fl c:=by
 unfold aH bV;refine vH λw hw=>?_
 have hw:=wG.mp hw;have hm:=rF h some top
 have e:(bZ xs).getD w 0=row.getD (fl w) 0+(1-row.getD c 0):=by
  unfold bZ;rw[wb,wo,wc hw,hm];have ea:=h.at' w hw;rw[wb,wc hw]at ea;have ea:xs[w]=row.getD (fl w) 0:=ea
  show xs[w]+(1-row.getD c 0)=_
  rw[ea]
 rw[e]
 by_cases z:fl w=c
 ·rw[z,decide_eq_true rfl,decide_eq_false (by grind)];rfl
 ·have:=top _ (h.lt w hw) z
  rw[decide_eq_false z,decide_eq_true (by grind)];rfl
theorem MA{row:List Rat}(h:iD xs row fl)(hm:cC xs=row.getD c 0)(hw:w<xs.length):(bZ xs).getD w 0=row.getD (fl w) 0+(1-row.getD c 0):=by
 unfold bZ;rw[wb,wo,wc hw,hm];have ea:=h.at' w hw;rw[wb,wc hw]at ea;have ea:xs[w]=row.getD (fl w) 0:=ea
 show xs[w]+(1-row.getD c 0)=_
 rw[ea]
theorem zr0{row:List Rat}(h:iD xs row fl)(some:∃w,w<xs.length/\fl w=c)(top:∀j,j<row.length->j≠c->row.getD j 0<row.getD c 0)
  (low:∀j,j<row.length->j≠c->(∃w,w<xs.length/\fl w=j)->push a b (bV xs.length fl c).length (row.getD j 0+(1-row.getD c 0))<1) :
  dg a b xs=[bV xs.length fl c]/\iD (dP a b xs) (dZ a b (bV xs.length fl c).length row c) fl:=by
 have hm:=rF h some top;have he:=BC h some top;obtain⟨w0,hw0,hf0⟩:=some
 have hne:bV xs.length fl c≠[]:=λe=>by
  have:w0∈bV xs.length fl c:=w6.mpr ⟨wG.mpr hw0,decide_eq_true hf0⟩;rw[e]at this;cases this
 have hlen:xs.length=(xs.length-1)+1:=by lia
 have hcl:c<row.length:=by rw[<- hf0];exact h.lt w0 hw0
 have nd:=WZ (n:=xs.length)
 have hmemL:∀w,w∈cj (wp xs.length) (bV xs.length fl c) ↔ w<xs.length/\fl w≠c:=λw=>by
  unfold cj bV;rw[w6,wG]
  constructor
  ·rintro ⟨h1,h2⟩
   refine⟨h1,λz=>?_⟩;have:w∈(wp xs.length).filter λw=>decide (fl w=c):=w6.mpr ⟨wG.mpr h1,decide_eq_true z⟩
   simp[this]at h2
  ·rintro ⟨h1,h2⟩
   exact⟨h1,by simp[h2]⟩
 have hps:∀w,w<xs.length->fl w≠c->(c7 (a^(bV xs.length fl c).length) (aE a b (bV xs.length fl c).length) (bZ xs) (cj (wp xs.length) (bV xs.length fl c))).getD w 0=push a b (bV xs.length fl c).length (row.getD (fl w) 0+(1-row.getD c 0)):=λw hw hf=>by
  rw[j3 _ _ _ _ (pC nd) (λv hv=>by rw[f_];exact((hmemL v).mp hv).1),if_pos ((hmemL w).mpr ⟨hw,hf⟩),MA h hm hw,iZ]
 have hend:aH (c7 (a^(bV xs.length fl c).length) (aE a b (bV xs.length fl c).length) (bZ xs) (cj (wp xs.length) (bV xs.length fl c))) (cj (wp xs.length) (bV xs.length fl c))=[]:=by
  unfold aH;rw[Q2];intro w hw;have hw':=(hmemL w).mp hw;rw[hps w hw'.1 hw'.2];have:=low (fl w) (h.lt w hw'.1) hw'.2 ⟨w,hw'.1,rfl⟩;rw[decide_eq_true this]
  decide
 have hR:eW a b xs=([bV xs.length fl c],cj (wp xs.length) (bV xs.length fl c),c7 (a^(bV xs.length fl c).length) (aE a b (bV xs.length fl c).length) (bZ xs) (cj (wp xs.length) (bV xs.length fl c))):=by
  unfold eW;generalize hN:cX a b xs.length (bZ xs) (wp xs.length)=r;rw[show cX a b xs.length (bZ xs) (wp xs.length)=cX a b ((xs.length-1)+1) (bZ xs) (wp xs.length) by rw[<- hlen],kg (by rw[he];exact hne),he,oO hend]at hN;exact hN.symm
 refine⟨by unfold dg;rw[hR],λw hw=>?_,λw hw=>by rw[jc];exact h.lt w (by rw[j8]at hw;exact hw)⟩;rw[j8]at hw;have hfw:=h.lt w hw;unfold dP;rw[hR,oM (by rw[jI,f_];exact hw),gS _ _ _ _ _ _ hfw]
 by_cases z:fl w=c
 ·rw[if_neg (λy=>((hmemL w).mp y).2 z),if_pos z]
 ·rw[if_pos ((hmemL w).mpr ⟨hw,z⟩),if_neg z,hps w hw z]
theorem zr6{row:List Rat}(h:iD xs row fl)(some:∃w,w<xs.length/\fl w=c)(top:∀j,j<row.length->j≠c->row.getD j 0<row.getD c 0)
  {w1:Nat} (hw1:w1<xs.length) (hf1:fl w1≠c) (up:¬ push a b (bV xs.length fl c).length (row.getD (fl w1) 0+(1-row.getD c 0))<1):1<(dg a b xs).length:=by
 have hm:=rF h some top;have he:=BC h some top;obtain⟨w0,hw0,hf0⟩:=some
 have hne:bV xs.length fl c≠[]:=λe=>by
  have:w0∈bV xs.length fl c:=w6.mpr ⟨wG.mpr hw0,decide_eq_true hf0⟩;rw[e]at this;cases this
 have hw01:w0≠w1:=λe=>hf1 (by rw[<- e];exact hf0)
 have hlen:xs.length=(xs.length-2)+1+1:=by lia
 have nd:=WZ (n:=xs.length)
 have hmem:w1∈cj (wp xs.length) (bV xs.length fl c):=by
  unfold cj bV;rw[w6,wG];exact⟨hw1,by simp[hf1]⟩
 have hend:aH (c7 (a^(bV xs.length fl c).length) (aE a b (bV xs.length fl c).length) (bZ xs) (cj (wp xs.length) (bV xs.length fl c))) (cj (wp xs.length) (bV xs.length fl c))≠[]:=λe=>by
  have:w1∈aH (c7 (a^(bV xs.length fl c).length) (aE a b (bV xs.length fl c).length) (bZ xs) (cj (wp xs.length) (bV xs.length fl c))) (cj (wp xs.length) (bV xs.length fl c)):=by
   unfold aH;refine w6.mpr ⟨hmem,?_⟩;rw[j3 _ _ _ _ (pC nd) (λv hv=>by rw[f_];exact wG.mp (w6.mp hv).1),if_pos hmem,MA h hm hw1,<- iZ,decide_eq_false up]
   rfl
  rw[e]at this;cases this
 unfold dg eW;rw[show cX a b xs.length (bZ xs) (wp xs.length)=cX a b ((xs.length-2)+1+1) (bZ xs) (wp xs.length) by rw[<- hlen],kg (by rw[he];exact hne),he,kg hend]
 show 1<(_::_::_:List (List Nat)).length
 simp
theorem R5{row:List Rat}(hi:i<=row.length)(hj:j<row.length):(aR a b ns row i).getD j 0∈turned a b ns row i:=by
 have hl:=du a b ns row i;rw[oI a b ns row i hi];have hm:(aR a b ns row i).getD j 0∈aR a b ns row i:=getD_mem (by lia);generalize (aR a b ns row i).getD j 0=y at hm;have hm2:y∈(aR a b ns row i).take i++(aR a b ns row i).drop i:=by rw[List.take_append_drop];exact hm
 rcases vb.mp hm2 with z | z
 ·exact vb.mpr (.inr z)
 ·exact vb.mpr (.inl z)
theorem Cf{row:List Rat}(h:iN (turned a b ns row i))(hi:i<row.length)(hj:j<row.length)(hne:j≠i):(aR a b ns row i).getD j 0<(aR a b ns row i).getD i 0:=by
 have hl:=du a b ns row i;have hpw:=h.pw;rw[oI a b ns row i (by lia),Vo (by lia),Xq]at hpw;have hp:=(WK.mp hpw).1;have e:(aR a b ns row i).getD i 0=(aR a b ns row i)[i]'(by lia):=by rw[wb,wc (by lia)];rfl
 rw[e];refine hp _ ?_;rw[vb];have ej:(aR a b ns row i).getD j 0=(aR a b ns row i)[j]'(by lia):=by rw[wb,wc (by lia)];rfl
 rw[ej];rcases wD j i with z | z
 ·refine .inr (xo.mpr ⟨j,by rw[vG];lia,?_⟩)
  rw[xY]
 ·refine .inl (xo.mpr ⟨j-(i+1),by rw[ve];lia,?_⟩)
  rw[xZ]
  congr 1
  lia
def eZ(a b:Rat)(ns:List Int)(row:List Rat)(i:Nat):Rat:=(aR a b ns row (i+1)).getD ((i+1) % row.length) 0
structure gB(xs row:List Rat)(fl:Nat->Nat)(ns:List Int):Prop where
 pl:iD xs row fl
 Br:iN row
 one:row.getD 0 0<1
 len:ns.length=row.length
 some:∀c,c<row.length->∃w,w<xs.length/\fl w=c
 size:∀c,c<row.length->(ns.getD c 0).toNat=(bV xs.length fl c).length
theorem uV{a b:Rat}(a0:0<a)(b0:0<=b){xs row:List Rat}{fl:Nat->Nat}{ns:List Int}(h:gB xs row fl ns):∀i,i<=row.length->(∀t,t<i->eZ a b ns row t<1)->iD (aj a b xs i) (aR a b ns row i) fl/\iN (turned a b ns row i)/\(i<row.length->(aR a b ns row i).getD i 0<1) /\ ∀t,t<i->dg a b (aj a b xs t)=[bV xs.length fl t]
 | 0,_,_=>⟨h.pl,h.Br,λ_=>h.one,λt ht=>by lia⟩
 | i+1,hi,ht=>by
  obtain⟨P,F,o,W⟩:=uV a0 b0 h i (by lia) (λt ht'=>ht t (by lia));have hl:=du a b ns row i;have hpl:=bS a b xs i;have hi':i<row.length:=by lia
  have oi:=o hi';have ti:=ht i (by lia)
  have hne:turned a b ns row i≠[]:=λe=>by
   have:=Fo a b ns row (by lia) i;rw[e]at this;simp at this;lia
  obtain⟨x,l,ex⟩:∃x l,turned a b ns row i=x::l:=by
   cases e:turned a b ns row i with
   | nil=>exact absurd e hne
   | cons x l=>exact⟨x,l,rfl⟩
  have hx:x=(aR a b ns row i).getD i 0:=by
   have:=Df a b ns row hi';rw[ex]at this;exact this
  have F1:iN (turned a b ns row (i+1)):=by
   show iN (mM a b (ns.getD i 0).toNat (turned a b ns row i))
   rw[ex]at F ⊢;exact F.step a0 b0 (by rw[hx];exact oi)
  have hsz:(ns.getD i 0).toNat=(bV (aj a b xs i).length fl i).length:=by rw[hpl];exact h.size i hi'
  have hrow:aR a b ns row (i+1)=dZ a b (bV (aj a b xs i).length fl i).length (aR a b ns row i) i:=by rw[<- hsz];rfl
  have headTop:(turned a b ns row (i+1)).headD 0=eZ a b ns row i:=by
   unfold eZ;rcases wD (i+1) row.length with z | z
   ·rw[Df a b ns row z,Xv z]
   ·have e:i+1=row.length:=by lia
    rw[e,Nat.mod_self,oI a b ns row _ (wn _)];have hl1:=du a b ns row row.length;rw[Q1 (by lia),Wy (by lia),qO];cases e2:aR a b ns row row.length with
    | nil=>rw[e2]at hl1;simp at hl1;lia
    | cons y m=>rfl
  have below:∀y∈turned a b ns row (i+1),y<1:=λy hy=>by
   have hpw:=F1.pw;cases e2:turned a b ns row (i+1)with
   | nil=>rw[e2]at hy;cases hy
   | cons z m =>
    rw[e2]at hy hpw headTop
    have hz:z<1:=by
     have:z=eZ a b ns row i:=headTop;rw[this];exact ti
    rcases wH.mp hy with rfl | hy
    ·exact hz
    ·have:=(WK.mp hpw).1 y hy
     have:y<z:=this
     grind
  have G:=zr0 (a:=a) (b:=b) (c:=i) P (by obtain⟨w,h1,h2⟩:=h.some i hi';exact⟨w,by lia,h2⟩) (λj hj hji=>Cf F hi' (by lia) hji) (λj hj hji _=>by
   have hm:=R5 (a:=a) (b:=b) (ns:=ns) (row:=row) (i:=i+1) (j:=j) hi (by lia);have:=below _ hm;rw[hrow,gS _ _ _ _ _ _ hj,if_neg hji]at this;exact this)
  refine⟨by rw[hrow];exact G.2,F1,λhlt=>?_,λt ht'=>?_⟩
  ·have:=below _ (R5 (a:=a) (b:=b) (ns:=ns) (row:=row) (i:=i+1) (j:=i+1) hi hlt)
   exact this
  ·rcases wD t i with z | z
   ·exact W t z
   ·have:t=i:=by lia
    subst this;have:=G.1;rw[hpl]at this;exact this
def gG(xs:List Rat)(v:Rat):List Nat:=(wp xs.length).filter λw=>decide (xs.getD w 0=v)
def jE:Nat->List Rat->List Rat
 | 0,_=>[]
 | _+1,[]=>[]
 | n+1,x::l=>cC (x::l)::jE n ((x::l).filter λy=>!decide (y=cC (x::l)))
def ar(xs:List Rat):List Rat:=jE xs.length xs
theorem Cv(n:Nat):jE n []=[]:=by cases n<;>rfl
theorem oh(h:l≠[]):jE (n+1) l=cC l::jE n (l.filter λy=>!decide (y=cC l)):=by
 cases l with
 | nil=>exact absurd rfl h
 | cons x l=>rfl
theorem Tg(h:l≠[]):(l.filter λy=>!decide (y=cC l)).length<l.length:=by
 have hm:cC l∈l:=ja (VF.mpr h);rcases wD (l.filter λy=>!decide (y=cC l)).length l.length with z | z
 ·exact z
 ·have:=List.length_filter_eq_length_iff.mp (Nat.le_antisymm (Wv _ _) z) (cC l) hm
  simp at this
theorem Ew:∀(n:Nat)(l:List Rat),∀y∈jE n l,y∈l
 | 0,l,y,h=>by cases h
 | n+1,[],y,h=>by cases h
 | n+1,x::l,y,h=>by
  rw[oh (by simp)]at h;rcases wH.mp h with rfl | h
  ·exact ja (by simp)
  ·exact(w6.mp (Ew n _ y h)).1
theorem kh:∀(n:Nat)(l:List Rat),(jE n l).Pairwise (· > ·)
 | 0,l=>xt.nil
 | n+1,[]=>xt.nil
 | n+1,x::l=>by
  rw[oh (by simp)];refine WK.mpr ⟨λy hy=>?_,kh n _⟩;have hf:=w6.mp (Ew n _ y hy);have h1:=NC y hf.1;have h2:¬ y=cC (x::l):=by simpa using hf.2
  show y<cC (x::l)
  exact qt h1 h2
theorem R0:∀(n:Nat)(l:List Rat),l.length<=n->∀y∈l,y∈jE n l
 | 0,l,h,y,hy=>by
  have:l=[]:=WW.mp (by lia);rw[this]at hy;cases hy
 | n+1,[],h,y,hy=>by cases hy
 | n+1,x::l,h,y,hy=>by
  rw[oh (by simp)]
  by_cases z:y=cC (x::l)
  ·rw[z];exact wB ..
  ·have hl:=Tg (l:=x::l) (by simp)
   refine wu _ (R0 n _ (by lia) y (w6.mpr ⟨hy,by simp[z]⟩))
def aX(xs:List Rat)(w:Nat):Nat:=(ar xs).idxOf (xs.getD w 0)
theorem AL(h:y∈xs):y∈ar xs:=R0 _ _ (wn _) y h
theorem mB(h:y∈ar xs):y∈xs:=Ew _ _ y h
theorem l_(xs:List Rat):iD xs (ar xs) (aX xs):=by
 have key:∀w,w<xs.length->aX xs w<(ar xs).length:=λw hw=>List.idxOf_lt_length_of_mem (AL (getD_mem hw))
 refine⟨λw hw=>?_,key⟩;rw[wb (l:=ar xs),wc (key w hw)];exact(List.getElem_idxOf (key w hw)).symm
theorem DC(hw:w<xs.length)(hc:c<(ar xs).length):aX xs w=c ↔ xs.getD w 0=(ar xs).getD c 0:=by
 have P:=l_ xs;have e:=P.at' w hw;have hl:=P.lt w hw
 constructor
 ·rintro rfl;exact e
 ·intro h
  rw[e]at h;rcases qF (aX xs w) c with z | z | z
  ·have:=(Wj.mp (kh xs.length xs)) (aX xs w) c hl hc z
   rw[wb,wc hl,wb,wc hc]at h;have h:(ar xs)[aX xs w]=(ar xs)[c]:=h;have this:(ar xs)[c]<(ar xs)[aX xs w]:=this;rw[h]at this;exact absurd this (by grind)
  ·exact z
  ·have:=(Wj.mp (kh xs.length xs)) c (aX xs w) hc hl z
   rw[wb,wc hl,wb,wc hc]at h;have h:(ar xs)[aX xs w]=(ar xs)[c]:=h;have this:(ar xs)[aX xs w]<(ar xs)[c]:=this;rw[h]at this;exact absurd this (by grind)
theorem zwc(hc:c<(ar xs).length):bV xs.length (aX xs) c=gG xs ((ar xs).getD c 0):=by
 unfold bV gG;refine vH λw hw=>?_
 exact decide_eq_decide.mpr (DC (wG.mp hw) hc)
def bY(xs:List Rat):List Int:=(ar xs).map λv=>((gG xs v).length:Int)
theorem Ll(nn:∀x∈xs,0<=x)(lt:∀x∈xs,x<1):gB xs (ar xs) (aX xs) (bY xs) where
 pl:=l_ xs
 Br:=⟨kh _ _,λy hy=>nn y (mB hy)⟩
 one:=by
  rcases wD 0 (ar xs).length with z | z
  ·exact lt _ (mB (getD_mem z))
  ·rw[wb,wE z];decide
 len:=by unfold bY;rw[wl]
 some:=λc hc=>by
  obtain⟨w,hw,e⟩:=wY (mB (getD_mem (d:=0) hc));refine⟨w,hw,(DC hw hc).mpr ?_⟩;rw[wb,wc hw];exact e
 size:=λc hc=>by
  rw[zwc hc];unfold bY;rw[wb,wo,wc hc,wb,wc hc]
  rfl
theorem UH:∀{l m:List Rat},l.Pairwise (· > ·)->m.Pairwise (· > ·)->(∀y,y∈l ↔ y∈m)->l=m
 | [],[],_,_,_=>rfl
 | [],y::m,_,_,h=>by have:=(h y).mpr (wB ..);cases this
 | x::l,[],_,_,h=>by have:=(h x).mp (wB ..);cases this
 | x::l,y::m,hl,hm,h=>by
  have pl:=WK.mp hl;have pm:=WK.mp hm
  have e:x=y:=by
   rcases wH.mp ((h x).mp (wB ..))with z | z
   ·exact z
   ·rcases wH.mp ((h y).mpr (wB ..))with z2 | z2
    ·exact z2.symm
    ·have a1:x<y:=pm.1 x z
     have a2:y<x:=pl.1 y z2
     grind
  subst e;rw[UH pl.2 pm.2 λz=>⟨λhz=>?_,λhz=>?_⟩]
  ·rcases wH.mp ((h z).mp (wu _ hz))with e | e
   ·have:z<x:=pl.1 z hz
    rw[e]at this;exact absurd this (by grind)
   ·exact e
  ·rcases wH.mp ((h z).mpr (wu _ hz))with e | e
   ·have:z<x:=pm.1 z hz
    rw[e]at this;exact absurd this (by grind)
   ·exact e
theorem zsd{row:List Rat}(P:iD ys row fl)(F:row.Pairwise (· > ·))(some:∀c,c<row.length->∃w,w<ys.length/\fl w=c):ar ys=row:=by
 refine UH (kh _ _) F λy=>⟨λh=>?_,λh=>?_⟩
 ·obtain⟨w,hw,e⟩:=wY (mB h)
  have ea:=P.at' w hw;rw[wb,wc hw]at ea;have ea:ys[w]=row.getD (fl w) 0:=ea;rw[<- e,ea];exact getD_mem (P.lt w hw)
 ·obtain⟨c,hc,e⟩:=wY h
  obtain⟨w,hw,hf⟩:=some c hc;have ea:=P.at' w hw;rw[hf,wb (l:=row),wc hc]at ea;have ea:ys.getD w 0=row[c]:=ea;rw[<- e,<- ea];exact AL (getD_mem hw)
def fh(a b:Rat)(ns:List Int)(row:List Rat):Nat->Rat
 | 0=>0
 | k+1=>fh a b ns row k+(1-(aR a b ns row k).getD k 0)
theorem OV{a b:Rat}(a0:0<a)(b0:0<=b){xs row:List Rat}{fl:Nat->Nat}{ns:List Int}(h:gB xs row fl ns):∀i,i<=row.length->(∀t,t<i->eZ a b ns row t<1)->aG a b xs i=fh a b ns row i
 | 0,_,_=>rfl
 | i+1,hi,ht=>by
  have ht':∀t,t<i->eZ a b ns row t<1:=λt z=>ht t (by lia)
  obtain⟨P,F,_,_⟩:=uV a0 b0 h i (by lia) ht';have hpl:=bS a b xs i;have hl:=du a b ns row i;have hm:=rF (c:=i) P (by obtain⟨w,h1,h2⟩:=h.some i (by lia);exact⟨w,by lia,h2⟩) (λj hj hji=>Cf F (by lia) (by lia) hji);rw[aG,fh,OV a0 b0 h i (by lia) ht',hm]
theorem zwX(a0:0<a)(b0:0<=b){row:List Rat}(h:gB xs row fl ns){t:Nat}(ht:t<row.length)(free:∀s,s<t->eZ a b ns row s<1)(up:¬ eZ a b ns row t<1):1<(dg a b (aj a b xs t)).length:=by
 obtain⟨P,F,o,_⟩:=uV a0 b0 h t (by lia) free;have hpl:=bS a b xs t;have hl:=du a b ns row t;have hsz:(ns.getD t 0).toNat=(bV (aj a b xs t).length fl t).length:=by rw[hpl];exact h.size t ht
 have hrow:aR a b ns row (t+1)=dZ a b (bV (aj a b xs t).length fl t).length (aR a b ns row t) t:=by rw[<- hsz];rfl
 have hj:(t+1) % row.length<row.length:=XN _ (by lia)
 have hne:(t+1) % row.length≠t:=λe=>by
  apply up
  unfold eZ;rw[hrow,e,gS _ _ _ _ _ _ (by lia),if_pos rfl]
  decide
 obtain⟨w1,hw1,hf1⟩:=h.some _ hj;refine zr6 (c:=t) P (by obtain⟨w,h1,h2⟩:=h.some t ht;exact⟨w,by lia,h2⟩) (λj hj hji=>Cf F ht (by lia) hji) (w1:=w1) (by lia) (by rw[hf1];exact hne) ?_;intro z
 apply up
 unfold eZ;rw[hrow,gS _ _ _ _ _ _ (by lia),if_neg hne,<- hf1];exact z
theorem sF{a b:Rat}(a0:0<a)(b0:0<=b):∀n:Nat,0<=aE a b n
 | 0=>Wz
 | n+1=>by
  have h1:=sF a0 b0 n;have h2:=qY (vU a0) h1
  show 0<=a*aE a b n+b
  grind
theorem Fu{a b:Rat}(a0:0<a)(b0:0<=b):∀(n:Nat)(ps:List Rat)(left:List Nat),left.length<=n->left.Nodup->(∀w∈left,w<ps.length)->(∀w∈left,0<=ps.getD w 0) ->
  ∀w∈(cX a b n ps left).2.1,w∈left/\0<=(cX a b n ps left).2.2.getD w 0/\(cX a b n ps left).2.2.getD w 0<1
 | 0,ps,left,hn,_,_,_=>by
  have:left=[]:=WW.mp (by lia);subst this;intro w hw;cases (show w∈([]:List Nat)from hw)
 | n+1,ps,left,hn,nd,hlt,nn=>by
  by_cases e:aH ps left=[]
  ·rw[oO e]
   intro w hw;have hw:w∈left:=hw;refine⟨hw,nn w hw,?_⟩;have:¬ w∈aH ps left:=by rw[e];simp
   unfold aH at this;rw[w6]at this
   show ps.getD w 0<1
   by_cases z:ps.getD w 0<1
   ·exact z
   ·exact absurd ⟨hw,by simp only[z,decide_false,xa]⟩ this
  ·rw[kg e]
   have hl:=C8 ps left;have hp:=VF.mpr e;have nd':(cj left (aH ps left)).Nodup:=pC nd;have lt':∀w∈cj left (aH ps left),w<(c7 (a^(aH ps left).length) (aE a b (aH ps left).length) ps (cj left (aH ps left))).length:=λw hw=>by rw[jI];exact pK hlt w hw
   have ih:=Fu a0 b0 n (c7 (a^(aH ps left).length) (aE a b (aH ps left).length) ps (cj left (aH ps left))) (cj left (aH ps left)) (by lia) nd' lt' (λw hw=>by
    rw[j3 _ _ _ _ nd' (pK hlt),if_pos hw];have h1:=nn w (w6.mp hw).1;have h2:=qY (vU (sx a0 (aH ps left).length)) h1;have h3:=sF a0 b0 (aH ps left).length
    grind)
   intro w hw;have:=ih w hw;exact⟨(w6.mp this.1).1,this.2⟩
theorem K_(nn:∀x∈xs,0<=x)(lt:∀x∈xs,x<1)(hw:w<xs.length):0<=(bZ xs).getD w 0:=by
 have h1:=ja (xs:=xs) (by lia);have h2:=lt _ h1;have h3:=nn _ (getD_mem (d:=0) hw);unfold bZ;rw[Ag hw]
 grind
theorem Lu(a0:0<a)(b0:0<=b)(nn:∀x∈xs,0<=x)(lt:∀x∈xs,x<1):∀y∈dP a b xs,0<=y/\y<1:=λy hy=>by
 obtain⟨j,hj,e⟩:=wY hy;have hlen:=j8 a b xs;have hjx:j<xs.length:=by lia
 have hpl:(eW a b xs).2.2.length=xs.length:=by
  unfold eW;rw[rY,f_]
 have e2:(dP a b xs).getD j 0=y:=by rw[wb,wc hj];exact e
 unfold dP at e2;rw[oM (by lia)]at e2
 split at e2
 ·rename_i hm
  have:=Fu a0 b0 xs.length (bZ xs) (wp xs.length) (by simp) WZ (λw hw=>by rw[f_];exact wG.mp hw) (λw hw=>K_ nn lt (wG.mp hw)) j hm;rw[<- e2];exact this.2
 ·rw[<- e2];exact⟨Wz,by decide⟩
theorem zsl(a0:0<a)(b0:0<=b)(h1:1<=xs.length)(nn:∀x∈xs,0<=x)(lt:∀x∈xs,x<1):0∈dP a b xs:=by
 obtain⟨j,hj,e⟩:=wY (ja h1)
 have hr:(bZ xs).getD j 0=1:=by
  unfold bZ;rw[Ag hj,wb,wc hj]
  show xs[j]+(1-cC xs)=1
  rw[e];grind
 have hend:j∈aH (bZ xs) (wp xs.length):=by
  unfold aH;rw[w6];refine⟨wG.mpr hj,?_⟩;rw[hr];decide
 have hne:aH (bZ xs) (wp xs.length)≠[]:=λz=>by rw[z]at hend;cases hend
 have hpl:(eW a b xs).2.2.length=xs.length:=by
  unfold eW;rw[rY,f_]
 have hnot:¬ j∈(eW a b xs).2.1:=λz=>by
  unfold eW at z;obtain⟨n,hn⟩:∃n,xs.length=n+1:=⟨xs.length-1,by lia⟩;have hl:=C8 (bZ xs) (wp xs.length);rw[vD]at hl;have hp:=VF.mpr hne;have z':j∈(cX a b (n+1) (bZ xs) (wp xs.length)).2.1:=by rw[<- hn];exact z
  rw[kg hne]at z';have nd':(cj (wp xs.length) (aH (bZ xs) (wp xs.length))).Nodup:=pC WZ;have ltr:∀w∈wp xs.length,w<(bZ xs).length:=λw hw=>by rw[f_];exact wG.mp hw
  have:=Fu a0 b0 n _ _ (by lia) nd' (λw hw=>by rw[jI];exact pK ltr w hw) (λw hw=>by
   rw[j3 _ _ _ _ nd' (pK ltr),if_pos hw];have h1:=K_ nn lt (wG.mp (w6.mp hw).1);have h2:=qY (vU (sx a0 (aH (bZ xs) (wp xs.length)).length)) h1;have h3:=sF a0 b0 (aH (bZ xs) (wp xs.length)).length
   grind) j z'
  have:=(w6.mp this.1).2;simp only[hend,decide_true,qc]at this;cases this
 have hlen:=j8 a b xs
 have hg:(dP a b xs).getD j 0=0:=by
  unfold dP;rw[oM (by lia),if_neg hnot]
 rw[<- hg];exact getD_mem (by lia)
structure dq(xs:List Rat):Prop where
 nn:∀x∈xs,0<=x
 lt:∀x∈xs,x<1
theorem dq.nU(a0:0<a)(b0:0<=b)(h:dq xs):dq (dP a b xs):=⟨λy hy=>(Lu a0 b0 h.nn h.lt y hy).1,λy hy=>(Lu a0 b0 h.nn h.lt y hy).2⟩
theorem dq.at{a b:Rat}(a0:0<a)(b0:0<=b){xs:List Rat}(h:dq xs):∀k,dq (aj a b xs k)
 | 0=>h
 | k+1=>(dq.at a0 b0 h k).nU a0 b0
theorem dq.zero(a0:0<a)(b0:0<=b)(h:dq xs)(h1:1<=xs.length)(hk:1<=k):0∈aj a b xs k:=by
 obtain⟨j,rfl⟩:∃j,k=j+1:=⟨k-1,by lia⟩;have:=h.at a0 b0 j;exact zsl a0 b0 (by rw[bS];exact h1) this.nn this.lt
theorem Ck(h:dq xs)(h0:0∈xs):(ar xs).dropLast++[0]=ar xs:=by
 have hm:=AL h0;have hne:ar xs≠[]:=λe=>by rw[e]at hm;cases hm
 have hpw:(ar xs).Pairwise (· > ·):=kh _ _
 have hl:(ar xs).getLast hne=0:=by
  have h1:=h.nn _ (mB (List.getLast_mem hne))
  have h2:(ar xs).getLast hne<=0:=by
   have e:=qZ hne;rw[<- e]at hm hpw;rcases vb.mp hm with z | z
   ·have:=(V8.mp hpw).2.2 0 z _ (wI.mpr rfl)
    exact vU this
   ·rw[<- wI.mp z];exact Wz
  grind
 have:=qZ hne;rw[hl]at this;exact this
theorem Ay(h1:1<=xs.length):1<=(ar xs).length:=by
 have:=AL (getD_mem (d:=0) (show 0<xs.length by lia));exact Q3 this
theorem v_(xs:List Rat):(bY xs).length=(ar xs).length:=by unfold bY;rw[wl]
theorem uw(xs:List Rat):∀n∈bY xs,0<=n:=λn hn=>by
 obtain⟨v,_,rfl⟩:=wP.mp hn
 lia
theorem Mm{α : Type}(g h : α -> Nat):∀l:List α,(l.map λv=>g v+h v).sum=(l.map g).sum+(l.map h).sum
 | []=>rfl
 | x::l=>by
  simp only[w5,WT,Mm g h l]
  lia
theorem Lb(x:Rat):∀vs:List Rat,vs.Nodup->(vs.map λv=>if x=v then 1 else 0).sum<=1
 | [],_=>by simp
 | v::vs,nd=>by
  have⟨h1,h2⟩:=VL.mp nd;rw[w5,WT]
  by_cases e:x=v
  ·have z:(vs.map λv=>if x=v then 1 else 0).sum=0:=by
    have:∀ws:List Rat,(∀y∈ws,x≠y)->(ws.map λv=>if x=v then 1 else 0).sum=0:=by
     intro ws
     induction ws with
     | nil=>intro _;rfl
     | cons y ws ih =>
      intro hy;rw[w5,WT,if_neg (hy y (wB ..)),ih λz hz=>hy z (wu _ hz)]
    exact this vs λy hy z=>h1 (by rw[<- e,z];exact hy)
   rw[z,if_pos e]
   lia
  ·have:=Lb x vs h2
   rw[if_neg e];lia
theorem Ot(f:Nat->Rat)(vs:List Rat)(nd:vs.Nodup):∀l:List Nat,(vs.map λv=>(l.filter λw=>decide (f w=v)).length).sum<=l.length
 | []=>by
  have:∀ws:List Rat,(ws.map λv=>(([]:List Nat).filter λw=>decide (f w=v)).length).sum=0:=by
   intro ws
   induction ws with
   | nil=>rfl
   | cons y ws ih=>rw[w5,WT,ih];rfl
  rw[this];exact wn _
 | w::l=>by
  have ih:=Ot f vs nd l
  have e:(vs.map λv=>((w::l).filter λw=>decide (f w=v)).length)=vs.map λv=>(if f w=v then 1 else 0)+(l.filter λw=>decide (f w=v)).length:=by
   refine xw λv _=>?_
   rw[WF]
   by_cases z:f w=v
   ·rw[if_pos (by simp[z]),if_pos z,vn];lia
   ·rw[if_neg (by simp[z]),if_neg z];lia
  rw[e,Mm,vn];have:=Lb (f w) vs nd
  lia
theorem Sb(xs:List Rat):(ar xs).Nodup:=(kh xs.length xs).imp λ{x y} h=>by
 have h:y<x:=h;intro e;rw[e]at h;exact absurd h (by grind)
theorem PC(xs:List Rat):((bY xs).map QN).sum<=xs.length:=by
 have:=Ot (λw=>xs.getD w 0) (ar xs) (Sb xs) (wp xs.length);rw[vD]at this
 have e:(bY xs).map QN=(ar xs).map λv=>((wp xs.length).filter λw=>decide (xs.getD w 0=v)).length:=by
  unfold bY;rw[qu];refine xw λv _=>?_
  show((gG xs v).length:Int).toNat=_
  rw[wS];rfl
 rw[e];exact this
theorem Pq(xs:List Rat):upTo (bY xs) (bY xs).length<=xs.length:=by
 unfold upTo;rw[Wi];exact PC xs
theorem zu0(xs:List Rat):∀n∈bY xs,0<=n/\n<=xs.length:=λn hn=>by
 obtain⟨v,_,rfl⟩:=wP.mp hn
 have:(gG xs v).length<=xs.length:=by
  have:=Wv (λw=>decide (xs.getD w 0=v)) (wp xs.length);rw[vD]at this;exact this
 lia
theorem lX(xs:List Rat):(ar xs).length<=xs.length:=by
 have h:∀(n:Nat)(l:List Rat),(jE n l).length<=n:=by
  intro n
  induction n with
  | zero=>intro l;exact wn _
  | succ n ih =>
   intro l
   by_cases e:l=[]
   ·rw[e,Cv];simp
   ·rw[oh e,vn]
    have:=ih (l.filter λy=>!decide (y=cC l))
    lia
 exact h _ _
theorem lY(c:Cm m xs)(h:∀y∈ys,y∈xs):Cm m ys:=c.kZ λy hy=>.inl (h y hy)
theorem rg(c:Cm m xs):Cm m (ar xs).dropLast:=lY c λy hy=>mB (by rw[xb]at hy;exact Vq hy)
def seg(n:Nat)(fl:Nat->Nat)(s t:Nat):List Nat:=(wp n).filter λw=>decide (s<=fl w)&&decide (fl w<t)
theorem iK{s t:Nat} : w∈seg n fl s t ↔ w<n/\s<=fl w/\fl w<t:=by
 unfold seg;rw[w6,wG,wT,decide_eq_true_eq,decide_eq_true_eq]
theorem OK(n:Nat)(fl:Nat->Nat)(s t:Nat):(seg n fl s t).Nodup:=WZ.filter _
theorem zwZ{s t u:Nat}(h1:s<=t)(h2:t<=u):(seg n fl s t++seg n fl t u).Perm (seg n fl s u):=by
 have e1:(seg n fl s u).filter (λw=>decide (fl w<t))=seg n fl s t:=by
  unfold seg;rw[qw];refine vH λw _=>?_
  rw[vE];simp only[wT,decide_eq_true_eq]
  lia
 have e2:(seg n fl s u).filter (λw=>!decide (fl w<t))=seg n fl t u:=by
  unfold seg;rw[qw];refine vH λw _=>?_
  rw[vE];simp only[wT,WQ,decide_eq_true_eq,decide_eq_false_iff_not]
  lia
 have:=List.filter_append_perm (λw=>decide (fl w<t)) (seg n fl s u);rw[e1,e2]at this;exact this
theorem Ug(n:Nat)(fl:Nat->Nat)(s:Nat):seg n fl s s=[]:=by
 unfold seg;rw[Q2];intro w _;simp only[wT,decide_eq_true_eq]
 lia
inductive j_(n:Nat)(fl:Nat->Nat):Nat->List (List Nat)->Nat->Prop
 | nil (t:Nat):j_ n fl t [] t
 | cons {t u v:Nat} {ws:List (List Nat)} : t<u->j_ n fl u ws v->j_ n fl t (seg n fl t u::ws) v
theorem j_.le{t:Nat}{ws:List (List Nat)}(h:j_ n fl t ws v):t<=v:=by
 induction h with
 | nil t=>exact wn t
 | cons h _ ih=>lia
theorem j_.perm{t:Nat}{ws:List (List Nat)}(h:j_ n fl t ws v):ws.flatten.Perm (seg n fl t v):=by
 induction h with
 | nil t=>rw[Ug];exact List.Perm.refl _
 | cons h k ih =>
  rw[Vh];exact(List.Perm.append_left _ ih).trans (zwZ (by lia) k.le)
theorem zB(p:Nat->Prop)[DecidablePred p](t:Nat):∀m:Nat,t<=m->(∀c d,t<=c->c<=d->d<m->p d->p c)->∃u,t<=u/\u<=m /\ ∀c,t<=c->c<m->(p c ↔ c<u)
 | 0,h,_=>⟨0,h,wn 0,λc _ hc=>absurd hc (by lia)⟩
 | m+1,h,mono=>by
  rcases wD m t with z | z
  ·exact⟨m+1,h,wn _,λc h1 h2=>absurd h2 (by lia)⟩
  ·by_cases q:p m
   ·exact⟨m+1,h,wn _,λc h1 h2=>⟨λ_=>h2,λ_=>mono c m h1 (by lia) (by lia) q⟩⟩
   ·obtain⟨u,u1,u2,hu⟩:=zB p t m z (λc d h1 h2 h3=>mono c d h1 h2 (by lia))
    refine⟨u,u1,by lia,λc h1 h2=>?_⟩;rcases wD c m with y | y
    ·exact hu c h1 y
    ·have:c=m:=by lia
     subst this;exact⟨λk=>absurd k q,λk=>absurd k (by lia)⟩
theorem zl{row:List Rat}(F:row.Pairwise (· > ·)){d:Nat}(h:c<d)(hd:d<row.length):row.getD d 0<row.getD c 0:=by
 have:=Wj.mp F c d (by lia) hd h;rw[wb,wc hd,wb,wc (by lia)];exact this
theorem zAl{row:List Rat}(F:row.Pairwise (· > ·)){d:Nat}(h:c<=d)(hd:d<row.length):row.getD d 0<=row.getD c 0:=by
 rcases wD c d with z | z
 ·exact vU (zl F z hd)
 ·rw[show c=d by lia];exact Wz
theorem Ye{a b:Rat}(a0:0<a)(b0:0<=b){row:List Rat}{fl:Nat->Nat}{N:Nat}(F:row.Pairwise (· > ·)):∀(n:Nat)(ps:List Rat)(t:Nat)(A B:Rat),t<=row.length->ps.length=N->0<A->(∀w∈seg N fl t row.length,ps.getD w 0=A*row.getD (fl w) 0+B/\0<ps.getD w 0) ->
  ∃(v:Nat)(A' B':Rat),v<=row.length/\0<A'/\j_ N fl t (cX a b n ps (seg N fl t row.length)).1 v/\(cX a b n ps (seg N fl t row.length)).2.1=seg N fl v row.length /\
   ∀w∈seg N fl v row.length,(cX a b n ps (seg N fl t row.length)).2.2.getD w 0=A'*row.getD (fl w) 0+B'/\0<A'*row.getD (fl w) 0+B'
 | 0,ps,t,A,B,ht,hl,hA,hw=>⟨t,A,B,ht,hA,.nil t,rfl,λw h=>⟨(hw w h).1,by rw[<- (hw w h).1];exact(hw w h).2⟩⟩
 | n+1,ps,t,A,B,ht,hl,hA,hw=>by
  by_cases e:aH ps (seg N fl t row.length)=[]
  ·rw[oO e]
   exact⟨t,A,B,ht,hA,.nil t,rfl,λw h=>⟨(hw w h).1,by rw[<- (hw w h).1];exact(hw w h).2⟩⟩
  ·obtain⟨u,u1,u2,hu⟩:=zB (λc=>¬ A*row.getD c 0+B<1) t row.length ht (λc d h1 h2 h3 hp=>by
    have:=Rat.mul_le_mul_of_nonneg_left (zAl F h2 h3) (vU hA);have hp:¬ A*row.getD d 0+B<1:=hp
    show ¬ A*row.getD c 0+B<1
    grind)
   have eE:aH ps (seg N fl t row.length)=seg N fl t u:=by
    unfold aH
    have:(seg N fl t row.length).filter (λw=>!decide (ps.getD w 0<1))=(seg N fl t row.length).filter (λw=>decide (fl w<u)):=by
     refine vH λw h=>?_
     have h1:=hw w h;have h2:=iK.mp h;rw[vE,WQ,decide_eq_false_iff_not,decide_eq_true_eq,h1.1];exact hu (fl w) h2.2.1 h2.2.2
    rw[this];unfold seg;rw[qw];refine vH λw _=>?_
    rw[vE];simp only[wT,decide_eq_true_eq]
    lia
   have eL:cj (seg N fl t row.length) (seg N fl t u)=seg N fl u row.length:=by
    unfold cj
    have:(seg N fl t row.length).filter (λw=>!decide (w∈seg N fl t u))=(seg N fl t row.length).filter (λw=>!decide (fl w<u)):=by
     refine vH λw h=>?_
     have h2:=iK.mp h;rw[vE,WQ,WQ,decide_eq_false_iff_not,decide_eq_false_iff_not,iK]
     constructor
     ·intro k y;exact k ⟨h2.1,h2.2.1,y⟩
     ·intro k y;exact k y.2.2
    rw[this];unfold seg;rw[qw];refine vH λw _=>?_
    rw[vE];simp only[wT,WQ,decide_eq_true_eq,decide_eq_false_iff_not]
    lia
   have htu:t<u:=by
    rcases wD t u with z | z
    ·exact z
    ·have:u=t:=by lia
     rw[eE,this,Ug]at e;exact absurd rfl e
   rw[kg e,eE,eL];have hf:=sx a0 (seg N fl t u).length;have hg:=sF a0 b0 (seg N fl t u).length;generalize a^(seg N fl t u).length=f at *;generalize aE a b (seg N fl t u).length=g at *;have hA':0<f*A:=VQ hf hA
   obtain⟨v,A',B',hv,hA2,hs,hl2,hw2⟩:=Ye (fl:=fl) (N:=N) a0 b0 F n (c7 f g ps (seg N fl u row.length)) u (f*A) (f*B+g) u2 (by rw[jI];exact hl) hA' (λw h=>by
    have hm:=iK.mp h;have h1:=hw w (iK.mpr ⟨hm.1,by lia,hm.2.2⟩);have h3:=VQ hf h1.2;rw[j3 _ _ _ _ (OK ..) (λw h=>by rw[hl];exact(iK.mp h).1),if_pos h];refine⟨by rw[h1.1];grind,by grind⟩)
   exact⟨v,A',B',hv,hA2,.cons htu hs,hl2,hw2⟩
structure ny(xs ys:List Rat)(waves:List (List Nat))(v:Nat):Prop where
 v1:1<=v
 vm:v<=(ar xs).length
 first:∃ws,waves=seg xs.length (aX xs) 0 1::ws/\j_ xs.length (aX xs) 1 ws v
 vals:∃(A B:Rat),0<A/\ar ys=((ar xs).drop v).map (λx=>A*x+B)++[0]/\(∀x∈(ar xs).drop v,0<A*x+B)
 at':iD ys (ar ys) (λw=>if aX xs w<v then(ar xs).length-v else aX xs w-v)
 len:ys.length=xs.length
theorem Mk : (l.drop v).getD c 0=l.getD (v+c) 0:=by
 rw[wb,xL,wb]
theorem pR(hc:c<(ar xs).length):∃w,w<xs.length/\aX xs w=c:=by
 have hm:(ar xs).getD c 0∈xs:=mB (getD_mem hc);obtain⟨w,hw,e⟩:=wY hm;refine⟨w,hw,(DC hw hc).mpr ?_⟩;rw[wb,wc hw];exact e
theorem Dp(a0:0<a)(b0:0<=b)(h1:1<=xs.length)(nn:∀x∈xs,0<=x)(lt:∀x∈xs,x<1):∃v,ny xs (dP a b xs) (dg a b xs) v:=by
 have P:=l_ xs;have F:(ar xs).Pairwise (· > ·):=kh xs.length xs;have m1:=Ay h1;have top:∀j,j<(ar xs).length->j≠0->(ar xs).getD j 0<(ar xs).getD 0 0:=λj hj h0=>zl F (by lia) hj
 have he:=BC P (pR m1) top;have hmax:=rF P (pR m1) top;have hmx1:cC xs<1:=lt _ (ja h1)
 have e01:bV xs.length (aX xs) 0=seg xs.length (aX xs) 0 1:=by
  unfold bV seg;refine vH λw _=>?_
  rw[vE];simp only[wT,decide_eq_true_eq]
  lia
 rw[e01]at he
 have hr:wp xs.length=seg xs.length (aX xs) 0 (ar xs).length:=by
  unfold seg
  symm
  rw[List.filter_eq_self];intro w hw;have:=P.lt w (wG.mp hw);simp only[wT,decide_eq_true_eq]
  lia
 have hne:aH (bZ xs) (wp xs.length)≠[]:=λe=>by
  obtain⟨w,hw,hf⟩:=pR m1;rw[he]at e;have:w∈seg xs.length (aX xs) 0 1:=iK.mpr ⟨hw,by lia,by lia⟩;rw[e]at this;cases this
 obtain⟨n,hn⟩:∃n,xs.length=n+1:=⟨xs.length-1,by lia⟩
 have eL:cj (wp xs.length) (seg xs.length (aX xs) 0 1)=seg xs.length (aX xs) 1 (ar xs).length:=by
  unfold cj seg;refine vH λw hw=>?_
  have h2:=P.lt w (wG.mp hw);rw[vE,WQ,decide_eq_false_iff_not]
  have:w∈(wp xs.length).filter (λw=>decide (0<=aX xs w)&&decide (aX xs w<1)) ↔ aX xs w<1:=by
   rw[w6,wT,decide_eq_true_eq,decide_eq_true_eq];exact⟨λh=>h.2.2,λh=>⟨hw,by lia,h⟩⟩
  rw[this];simp only[wT,decide_eq_true_eq]
  lia
 have hf:=sx a0 (seg xs.length (aX xs) 0 1).length;have hg:=sF a0 b0 (seg xs.length (aX xs) 0 1).length
 have eR:eW a b xs=(seg xs.length (aX xs) 0 1::(cX a b n (c7 (a^(seg xs.length (aX xs) 0 1).length) (aE a b (seg xs.length (aX xs) 0 1).length) (bZ xs) (seg xs.length (aX xs) 1 (ar xs).length)) (seg xs.length (aX xs) 1 (ar xs).length)).1,(cX a b n (c7 (a^(seg xs.length (aX xs) 0 1).length) (aE a b (seg xs.length (aX xs) 0 1).length) (bZ xs) (seg xs.length (aX xs) 1 (ar xs).length)) (seg xs.length (aX xs) 1 (ar xs).length)).2):=by
  unfold eW;have e:cX a b xs.length (bZ xs) (wp xs.length)=cX a b (n+1) (bZ xs) (wp xs.length):=by rw[<- hn]
  rw[e,kg hne,he,eL]
 generalize a^(seg xs.length (aX xs) 0 1).length=f at *;generalize aE a b (seg xs.length (aX xs) 0 1).length=g at *
 obtain⟨v,A,B,hv,hA,hs,hl2,hw2⟩:=Ye (fl:=aX xs) (N:=xs.length) a0 b0 F n (c7 f g (bZ xs) (seg xs.length (aX xs) 1 (ar xs).length)) 1 f (f*(1-cC xs)+g) m1 (by rw[jI,f_]) hf (λw h=>by
  have hm:=iK.mp h;rw[j3 _ _ _ _ (OK ..) (λw h=>by rw[f_];exact(iK.mp h).1),if_pos h]
  have e:(bZ xs).getD w 0=(ar xs).getD (aX xs w) 0+(1-cC xs):=by
   unfold bZ;rw[Ag hm.1,P.at' w hm.1]
  have hx:=nn _ (getD_mem (d:=0) hm.1);rw[P.at' w hm.1]at hx;have h3:=VQ hf (show 0<(ar xs).getD (aX xs w) 0+(1-cC xs) by grind);rw[e];exact⟨by grind,by grind⟩)
 have v1:=hs.le
 have ePh:∀w,w<xs.length->(dP a b xs).getD w 0=if aX xs w<v then 0 else A*(ar xs).getD (aX xs w) 0+B:=λw hw=>by
  have hpl:(eW a b xs).2.2.length=xs.length:=by unfold eW;rw[rY,f_]
  unfold dP;rw[oM (by lia),eR]
  show(if w∈(cX a b n _ _).2.1 then _ else _)=_
  rw[hl2]
  by_cases z:aX xs w<v
  ·rw[if_neg (λh=>by have:=(iK.mp h).2.1;lia),if_pos z]
  ·have hmem:w∈seg xs.length (aX xs) v (ar xs).length:=iK.mpr ⟨hw,by lia,P.lt w hw⟩
   rw[if_pos hmem,if_neg z];exact(hw2 w hmem).1
 have posd:∀x∈(ar xs).drop v,0<A*x+B:=λx hx=>by
  obtain⟨c,hc,e⟩:=wY hx;rw[ve]at hc;obtain⟨w,hw,hfw⟩:=pR (xs:=xs) (c:=v+c) (by lia);have:=(hw2 w (iK.mpr ⟨hw,by lia,P.lt w hw⟩)).2;rw[hfw,<- Mk,wb,wc (by rw[ve];lia)]at this;rw[<- e];exact this
 have rlen:(((ar xs).drop v).map (λx=>A*x+B)++[0]).length=(ar xs).length-v+1:=by simp
 have rget:∀c,c<(ar xs).length-v->(((ar xs).drop v).map (λx=>A*x+B)++[0]).getD c 0=A*(ar xs).getD (v+c) 0+B:=λc hc=>by
  rw[wb,vR (by simp;lia),<- wb,Ag (by rw[ve];lia),Mk]
 have rlast:(((ar xs).drop v).map (λx=>A*x+B)++[0]).getD ((ar xs).length-v) 0=0:=by
  rw[wb,vf (by simp)];simp
 have P2:iD (dP a b xs) (((ar xs).drop v).map (λx=>A*x+B)++[0]) (λw=>if aX xs w<v then(ar xs).length-v else aX xs w-v):=by
  refine⟨λw hw=>?_,λw hw=>?_⟩
  ·rw[j8]at hw
   rw[ePh w hw];have:=P.lt w hw
   by_cases z:aX xs w<v
   ·simp only[z,if_true]
    exact rlast.symm
   ·simp only[z,if_false]
    rw[rget _ (by lia),show v+(aX xs w-v)=aX xs w by lia]
  ·rw[j8]at hw
   have:=P.lt w hw;rw[rlen]
   show(if aX xs w<v then _ else _)<_
   split<;>lia
 have F2:(((ar xs).drop v).map (λx=>A*x+B)++[0]).Pairwise (· > ·):=by
  rw[V8];refine⟨?_,QG _ _,λx hx y hy=>?_⟩
  ·rw[Qp]
   refine(uo F).imp λ{x y} h=>?_
   have:=Rat.mul_lt_mul_of_pos_left (show y<x from h) hA
   show A*y+B<A*x+B
   grind
  ·obtain⟨z,hz,rfl⟩:=wP.mp hx
   rw[wI.mp hy];exact posd z hz
 have eV:ar (dP a b xs)=((ar xs).drop v).map (λx=>A*x+B)++[0]:=zsd P2 F2 λc hc=>by
  rw[rlen]at hc;rcases wD c ((ar xs).length-v)with z | z
  ·obtain⟨w,hw,hfw⟩:=pR (xs:=xs) (c:=v+c) (by lia)
   refine⟨w,by rw[j8];exact hw,?_⟩
   show(if aX xs w<v then _ else _)=_
   rw[hfw,if_neg (by lia)]
   lia
  ·obtain⟨w,hw,hfw⟩:=pR m1
   refine⟨w,by rw[j8];exact hw,?_⟩
   show(if aX xs w<v then _ else _)=_
   rw[hfw,if_pos (by lia)]
   lia
 refine⟨v,v1,hv,⟨_,by unfold dg;rw[eR],hs⟩,⟨A,B,hA,eV,posd⟩,by rw[eV];exact P2,j8 ..⟩
def lT(xs:List Rat):List (List Nat):=(ar xs).map (gG xs)
theorem km(xs:List Rat):(lT xs).length=(ar xs).length:=wl ..
theorem O6{row:List Rat}(P:iD ys row fl)(F:row.Pairwise (· > ·))(hc:c<row.length):gG ys (row.getD c 0)=bV ys.length fl c:=by
 unfold gG bV;refine vH λw hw=>?_
 have hw:=wG.mp hw;rw[vE,decide_eq_true_eq,decide_eq_true_eq,P.at' w hw]
 constructor
 ·intro h
  rcases qF (fl w) c with z | z | z
  ·have:=zl F z hc;rw[h]at this;exact absurd this (by grind)
  ·exact z
  ·have:=zl F z (P.lt w hw);rw[h]at this;exact absurd this (by grind)
 ·rintro rfl;rfl
theorem zsK(hc:c<(ar xs).length):(lT xs).getD c []=seg xs.length (aX xs) c (c+1):=by
 have h:=O6 (l_ xs) (kh xs.length xs) hc;unfold lT;rw[wb,wo,wc hc]
 show gG xs (ar xs)[c]=_
 rw[wb,wc hc]at h;have h:gG xs (ar xs)[c]=_:=h;rw[h];unfold bV seg;refine vH λw _=>?_
 rw[vE];simp only[wT,decide_eq_true_eq]
 lia
theorem ny.new{waves:List (List Nat)}(J:ny xs ys waves v):lT ys=(lT xs).drop v++[seg xs.length (aX xs) 0 v]:=by
 obtain⟨A,B,hA,eV,pos⟩:=J.vals;have F2:(ar ys).Pairwise (· > ·):=kh ys.length ys;have hlen:(ar ys).length=(ar xs).length-v+1:=by rw[eV];simp
 have v1:=J.v1;have vm:=J.vm;refine VA (by rw[km,hlen,wy,ve,km];rfl) λc h1 h2=>?_
 rw[km,hlen]at h1
 have e1:(lT ys)[c]'(by rw[km];lia)=bV xs.length (λw=>if aX xs w<v then(ar xs).length-v else aX xs w-v) c:=by
  have:=O6 J.at' F2 (c:=c) (by lia);rw[J.len]at this;rw[<- this];unfold lT;rw[VB,wb,wc (by lia)]
  rfl
 rw[e1];rcases wD c ((ar xs).length-v)with z | z
 ·rw[List.getElem_append_left (by rw[ve,km];lia),xZ]
  have hg:=zsK (xs:=xs) (c:=v+c) (by lia);rw[wb,wc (by rw[km];lia)]at hg;have hg:(lT xs)[v+c]'(by rw[km];lia)=_:=hg;rw[hg];unfold bV seg;refine vH λw hw=>?_
  have:=(l_ xs).lt w (wG.mp hw);rw[vE];simp only[wT,decide_eq_true_eq]
  split<;>lia
 ·rw[List.getElem_append_right (by rw[ve,km];lia)]
  have hc:c=(ar xs).length-v:=by lia
  simp only[List.getElem_singleton];unfold bV seg;refine vH λw hw=>?_
  have:=(l_ xs).lt w (wG.mp hw);rw[vE];simp only[wT,decide_eq_true_eq]
  split<;>lia
theorem ny.perm{waves:List (List Nat)}(J:ny xs ys waves v):waves.flatten.Perm (seg xs.length (aX xs) 0 v):=by
 obtain⟨ws,e,s⟩:=J.first;rw[e];exact(j_.cons (by decide) s).perm
theorem ny.more{waves:List (List Nat)}(J:ny xs ys waves v):1<waves.length ↔ 1<v:=by
 obtain⟨ws,e,s⟩:=J.first;rw[e];cases s with
 | nil=>simp
 | cons h k=>have:=k.le;simp;lia
theorem BS(F s:Rat):∀n:Nat,aE F s n=aE F 1 n*s
 | 0=>by show(0:Rat)=0*s;rw[Rat.zero_mul]
 | n+1=>by
  show F*aE F s n+s=(F*aE F 1 n+1)*s
  rw[BS F s n]
  grind
theorem yl{k:Nat}{F:Rat}(h:ah k F):∀i:Nat,∃T:Int,aE F 1 i=wr T ((F.den:Int)^i)/\Bd ((k+1)*i+1) T/\Bd (k*i+1) ((F.den:Int)^i)
 | 0=>⟨0,by simp[aE],⟨by simp⟩,⟨by simp⟩⟩
 | i+1=>by
  obtain⟨T,e,bT,bd⟩:=yl h i;have hd:(F.den:Int)^i≠0:=VM (iG F);have hd1:(F.den:Int)^(i+1)≠0:=VM (iG F);have ed:(F.den:Int)^(i+1)=(F.den:Int)^i*(F.den:Int):=Vy ..
  have bd1:Bd (k*(i+1)+1) ((F.den:Int)^(i+1)):=by
   rw[ed];exact(bd.mul h.b).mono (by rw[qq];lia)
  refine⟨F.num*T+(F.den:Int)^(i+1),?_,?_,bd1⟩
  ·symm
   refine gE hd1 ?_
   show(F*aE F 1 i+1)*_=_
   rw[e];have k1:=c8 T hd;have k2:=kB F
   have e1:((F.num*T+(F.den:Int)^(i+1):Int):Rat)=(F.num:Rat)*(T:Rat)+(((F.den:Int)^(i+1):Int):Rat):=by
    rw[qi,vL]
   rw[e1,<- k1,<- k2,ed,vL];generalize (((F.den:Int)^i:Int):Rat)=D;generalize ((F.den:Int):Rat)=d;generalize wr T ((F.den:Int)^i)=y
   grind
  ·have h1:(k+1)*(i+1)=(k+1)*i+(k+1):=qq ..
   have h2:k*(i+1)<=(k+1)*i+k:=by rw[qq];have:=Wc i (show k<=k+1 by lia);lia
   exact((h.t.mul bT).add bd1).mono (by lia)
theorem RT{F:Rat}(h:ah k F)(i:Nat):ah ((k+1)*i+1) (aE F 1 i):=by
 obtain⟨T,e,bT,bd⟩:=yl h i;rw[e];exact ah.divInt (VM (iG F)) bT (bd.mono (by have:=Wc i (show k<=k+1 by lia);lia))
def gh(F s:Rat)(n:Nat)(x:Rat):Rat:=F^n*x+aE F 1 n*s
theorem tL(F s:Rat)(n:Nat)(x:Rat):gh F s n x=push F s n x:=by
 unfold gh;rw[iZ,<- BS]
theorem zzj(F s:Rat)(m n:Nat)(x:Rat):gh F s (m+n) x=gh F s n (gh F s m x):=by
 rw[tL,tL,tL,zxr]
theorem zw6(F s x:Rat):gh F s 0 x=x:=by rw[tL];rfl
theorem ZL(F s x:Rat):gh F s 1 x=F*x+s:=by rw[tL];rfl
theorem Yx{F s r:Rat}(h:r*(1-F)=s):∀k:Nat,aE F s k=r-F^k*r
 | 0=>by rw[VY,QZ];show(0:Rat)=r-r;grind
 | k+1=>by
  show F*aE F s k+s=_
  rw[Yx h k,Wx]
  grind
theorem zzD{F s r:Rat}(h:r*(1-F)=s)(n:Nat)(x:Rat):gh F s n x=r+F^n*(x-r):=by
 unfold gh;rw[<- BS,Yx h]
 grind
theorem Cm.Y4(c:Cm m (h::xs))(ba:ah 10 a)(bb:ah 10 b)(n i:Nat):Cm (m+2+21*n) ((h+(1-xs.getD i 0))::dZ a b n xs i):=by
 obtain⟨B,h0,h1,h2⟩:=c
 have hz:∃z:Int,xs.getD i 0=wr z B/\Bd m z:=by
  rcases wD i xs.length with q | q
  ·rw[wb,wc q]
   exact h2 _ (wu _ (vT q))
  ·rw[wb,wE q]
   exact⟨0,by simp,⟨by simp;exact We m⟩⟩
 obtain⟨z,ez,hz⟩:=hz;have key:=λ(t:Int)(ht:Bd m t)=>r_ ba bb h0 (show Bd (m+2) (t+B-z)from((ht.add h1).sub hz).mono (by lia)) (h1.mono (by lia)) n
 have e2:∀t:Int,wr t B+(1-xs.getD i 0)=wr (t+B-z) B:=λt=>by
  rw[ez]
  symm
  refine gE (by lia) ?_;have q1:=c8 t (show B≠0 by lia);have q2:=c8 z (show B≠0 by lia);have q3:((t+B-z:Int):Rat)=(t:Rat)+(B:Rat)-(z:Rat):=by push_cast;rfl
  rw[q3,<- q1,<- q2]
  grind
 obtain⟨p1,p2,_⟩:=key 0 ⟨by simp;exact We m⟩;refine⟨_,p1,p2,λx hx=>?_⟩;rcases wH.mp hx with rfl | hx
 ·obtain⟨t,et,ht⟩:=h2 h (wB ..)
  have hd:(0:Int)<((a.den:Int)*(b.den:Int))^n:=Xk (vK (den_pos a) (den_pos b));refine⟨(t+B-z)*((a.den:Int)*(b.den:Int))^n,?_,yH ba bb (((ht.add h1).sub hz).mono (by lia)) n⟩;rw[et,e2 t];exact tM h0 hd
 ·have hx':x=0 \/ ∃y∈xs,x=push a b n (y+(1-xs.getD i 0)):=by
   unfold dZ at hx;rcases Qv hx with q | q
   ·obtain⟨y,hy,rfl⟩:=wP.mp q
    exact .inr ⟨y,hy,rfl⟩
   ·exact .inl q
  rcases hx' with rfl | ⟨y,hy,rfl⟩
  ·exact⟨0,by simp,⟨by simp;exact We _⟩⟩
  ·obtain⟨t,rfl,ht⟩:=h2 y (wu _ hy)
   obtain⟨_,_,T,e,hT⟩:=key t ht;rw[e2 t];exact⟨T,e,hT⟩
theorem Cm.Bp{m:Nat}{xs:List Rat}{a b:Rat}{ns:List Int}(c:Cm m xs)(ba:ah 10 a)(bb:ah 10 b):∀k,k<=ns.length->Cm (m+2*k+21*upTo ns k) (fh a b ns xs k::aR a b ns xs k)
 | 0,_=>(c.mono (by lia)).kZ λy hy=>by
  rcases wH.mp hy with rfl | hy
  ·exact .inr rfl
  ·exact .inl hy
 | k+1,hk=>by
  have:=(Cm.Bp c ba bb (ns:=ns) k (by lia)).Y4 ba bb (ns.getD k 0).toNat k;rw[aR,fh];refine this.mono ?_;rw[sD (by lia)]
  lia
def gj(c:Rat)(xs ys:List Rat):List Rat:=List.zipWith (λx y=>x+c*(y-x)) xs ys
theorem pL{c:Rat}(h:xs.length=ys.length):(gj c xs ys).length=xs.length:=by unfold gj;rw[xx];lia
theorem mS{c:Rat}(h:xs.length=ys.length)(hi:i<xs.length):(gj c xs ys).getD i 0=xs.getD i 0+c*(ys.getD i 0-xs.getD i 0):=by
 unfold gj;rw[wb,wc (by rw[xx];lia),List.getElem_zipWith,wb,wc hi,wb,wc (by lia)]
 rfl
theorem lu(hl:xs.length=ys.length)(h:∀i,i<xs.length->xs.getD i 0=ys.getD i 0):xs=ys:=VA hl λi h1 h2=>by
 have:=h i h1;rw[wb,wb,wc h1,wc h2]at this;exact this
theorem Z_(a b:Rat)(n:Nat)(c:Rat)(h:xs.length=ys.length)(hi:i<xs.length):dZ a b n (gj c xs ys) i=gj c (dZ a b n xs i) (dZ a b n ys i):=by
 have hl:=pL (c:=c) h;refine lu (by rw[jc,hl,pL (by rw[jc,jc];exact h),jc]) λj hj=>?_
 rw[jc,hl]at hj;have hg:=mS (c:=c) (xs:=dZ a b n xs i) (ys:=dZ a b n ys i) (by rw[jc,jc];exact h) (i:=j) (by rw[jc];exact hj);rw[hg,gS _ _ _ _ _ _ (by lia),gS _ _ _ _ _ _ hj,gS _ _ _ _ _ _ (show j<ys.length by lia)]
 by_cases z:j=i
 ·rw[if_pos z,if_pos z,if_pos z];grind
 ·rw[if_neg z,if_neg z,if_neg z,mS h hj,mS h hi,iZ,iZ,iZ]
  grind
theorem NN(a b:Rat)(ns:List Int)(c:Rat){xs ys:List Rat}(h:xs.length=ys.length):∀k,k<=xs.length->aR a b ns (gj c xs ys) k=gj c (aR a b ns xs k) (aR a b ns ys k)
 | 0,_=>rfl
 | k+1,hk=>by
  have ih:=NN a b ns c h k (by lia);rw[aR,ih,aR,aR];exact Z_ a b _ c (by rw[du,du];exact h) (by rw[du];lia)
theorem UN(a b:Rat)(ns:List Int)(c:Rat){xs ys:List Rat}(h:xs.length=ys.length):∀k,k<=xs.length->fh a b ns (gj c xs ys) k=fh a b ns xs k+c*(fh a b ns ys k-fh a b ns xs k)
 | 0,_=>by show(0:Rat)=0+c*(0-0);grind
 | k+1,hk=>by
  rw[fh,fh,fh,UN a b ns c h k (by lia),NN a b ns c h k (by lia),mS (by rw[du,du];exact h) (by rw[du];lia)]
  grind
theorem zxC(c:Rat)(h:xs.length=ys.length):gj c (xs++[0]) (ys++[0])=gj c xs ys++[0]:=by
 unfold gj;rw[List.zipWith_append h]
 show _++[0+c*(0-0)]=_
 congr 2
 grind
def fK(a b:Rat)(ns:List Int)(xs:List Rat):Rat:=fh a b ns (xs++[0]) ns.length
theorem zzf(c:Rat)(hn:ns.length=xs.length+1)(h:xs.length=ys.length):fK a b ns (gj c xs ys)=fK a b ns xs+c*(fK a b ns ys-fK a b ns xs):=by
 unfold fK;rw[<- zxC c h];exact UN a b ns c (by simp[h]) _ (by simp;lia)
def sumTo(f:Nat->Rat):Nat->Rat
 | 0=>0
 | n+1=>sumTo f n+f n
theorem zN{f g:Nat->Rat} : ∀n,(∀k,k<n->f k=g k)->sumTo f n=sumTo g n
 | 0,_=>rfl
 | n+1,h=>by rw[sumTo,sumTo,zN n λk hk=>h k (by lia),h n (by lia)]
theorem EV(c:Rat)(f:Nat->Rat):∀n,sumTo (λk=>c*f k) n=c*sumTo f n
 | 0=>by show(0:Rat)=c*0;grind
 | n+1=>by rw[sumTo,sumTo,EV c f n];grind
theorem Uo(f g:Nat->Rat):∀n,sumTo (λk=>f k+g k) n=sumTo f n+sumTo g n
 | 0=>by show(0:Rat)=0+0;grind
 | n+1=>by rw[sumTo,sumTo,sumTo,Uo f g n];grind
theorem NZ(F:Rat):∀n,sumTo (λk=>F^k) n=aE F 1 n
 | 0=>rfl
 | n+1=>by
  rw[sumTo,NZ F n]
  have:∀m,aE F 1 m*F+1=aE F 1 m+F^m:=λm=>by
   induction m with
   | zero=>rw[VY];show(0:Rat)*F+1=0+1;grind
   | succ m ih =>
    show(F*aE F 1 m+1)*F+1=(F*aE F 1 m+1)+F^(m+1)
    rw[Wx]
    grind
  have:=this n
  show aE F 1 n+F^n=F*aE F 1 n+1
  grind
theorem Mz{a b:Rat}{ns:List Int}{L:Nat}(hn:ns.length=L+1)(X:Nat->List Rat)(hX:∀k,(X k).length=L):∀(n:Nat)(M:List Rat),1<=n->M.length=L->(∀i,i<L->M.getD i 0*((n:Int):Rat)=sumTo (λk=>(X k).getD i 0) n)->((n:Int):Rat)*fK a b ns M=sumTo (λk=>fK a b ns (X k)) n
 | 0,M,h,_,_=>by lia
 | n+1,M,_,hM,hs=>by
  have en:(((n+1:Nat):Int):Rat)=((n:Int):Rat)+1:=by push_cast;rfl
  by_cases z:n=0
  ·subst z
   have e1:(((0+1:Nat):Int):Rat)=1:=by decide
   have:M=X 0:=lu (by rw[hM,hX]) λi hi=>by
    have:=hs i (by lia);rw[e1]at this;have e2:sumTo (λk=>(X k).getD i 0) (0+1)=(X 0).getD i 0:=by rw[sumTo,sumTo];grind
    rw[e2]at this
    grind
   rw[this,e1]
   show 1*fK a b ns (X 0)=0+fK a b ns (X 0)
   grind
  ·have hn0:((n:Int):Rat)≠0:=λe=>z (by have:=WV.mp e;lia)
   have hn1:((n:Int):Rat)+1≠0:=λe=>by
    rw[<- en]at e;have:=WV.mp e
    lia
   let M':List Rat:=(wp L).map λi=>sumTo (λk=>(X k).getD i 0) n / ((n:Int):Rat)
   have hl':M'.length=L:=by simp[M']
   have g':∀i,i<L->M'.getD i 0=sumTo (λk=>(X k).getD i 0) n / ((n:Int):Rat):=λi hi=>by
    show((wp L).map λi=>sumTo (λk=>(X k).getD i 0) n / ((n:Int):Rat)).getD i 0=_
    rw[wb,wo,vY hi];rfl
   have ih:=Mz (a:=a) (b:=b) hn X hX n M' (by lia) hl' λi hi=>by rw[g' i hi];exact WJ hn0
   have eM:M=gj (1 / (((n:Int):Rat)+1)) M' (X n):=lu (by rw[hM,pL (by rw[hl',hX]),hl']) λi hi=>by
    rw[mS (by rw[hl',hX]) (by lia),g' i (by lia)];have h1:=hs i (by lia);rw[en,sumTo]at h1;generalize sumTo (λk=>(X k).getD i 0) n=S at *;generalize (X n).getD i 0=y at *;generalize M.getD i 0=m at *;generalize ((n:Int):Rat)=N at *;have k1:S / N*N=S:=WJ hn0;have k2:1 / (N+1)*(N+1)=1:=WJ hn1;generalize S / N=q at *;generalize 1 / (N+1)=r at *;have:(m-(q+r*(y-q)))*(N+1)=0:=by grind
    rcases XJ.mp this with h | h
    ·grind
    ·exact absurd h hn1
   rw[eM,zzf _ (by lia) (by rw[hl',hX]),sumTo,<- ih,en];generalize fK a b ns M'=A;generalize fK a b ns (X n)=B;generalize ((n:Int):Rat)=N at *;have k2:1 / (N+1)*(N+1)=1:=WJ hn1;generalize 1 / (N+1)=r at *
   grind
end GM
namespace L2
open PySem PySem.Spec PyProof.Rows GM
section
variable{K:wa}{H H' H2:Hp}{a p:wf}{xs ys:List V}{o:HO}
theorem ag.upd(h:H p=none):ag H (upd H p o):=λb u e=>by
 rw[eX (kD e h)];exact e
theorem ag.j6(s:ag H H')(h:bA K H a xs):bA K H' a xs:=by
 rcases h with(h | ⟨o,h⟩) | h
 ·exact .inl (.inl (s _ _ h))
 ·exact .inl (.inr ⟨o,s _ _ h⟩)
 ·exact .inr h
structure bE(H H':Hp):Prop where
 t:∀b xs,H b=some (.tup xs)->H' b=some (.tup xs)
 f:∀b o u,H b=some (.hZ o u)->H' b=some (.hZ o u)
theorem ag.keep(s:ag H H'):bE H H':=⟨λb xs h=>s _ _ h,λb o u h=>s _ _ h⟩
theorem bE.trans(a:bE H H')(b:bE H' H2):bE H H2:=⟨λc xs h=>b.t _ _ (a.t _ _ h),λc o u h=>b.f _ _ _ (a.f _ _ _ h)⟩
theorem bE.j6(k:bE H H')(h:bA K H a xs):bA K H' a xs:=by
 rcases h with(h | ⟨o,h⟩) | h
 ·exact .inl (.inl (k.t _ _ h))
 ·exact .inl (.inr ⟨o,k.f _ _ _ h⟩)
 ·exact .inr h
def gY(K:wa)(H:Hp)(a:wf)(xs:List V):Prop :=
 (∃o,H a=some (.hZ o (.lst xs))) \/
  ∃(o:Obj)(its:Array Value)(n:Nat),K.lookup a=some o/\o.cls=.type "list"/\o.dict=none/\o.data=.seq its n/\its.size<=wX/\aW xs its.toList
theorem gY.sq(h:gY K H a xs):aP K H a xs:=by
 rcases h with⟨o,h⟩ | h
 ·exact .inl (.inr ⟨o,h⟩)
 ·exact .inr h
theorem bE.kU(k:bE H H')(h:gY K H a xs):gY K H' a xs:=by
 rcases h with⟨o,h⟩ | h
 ·exact .inl ⟨o,k.f _ _ _ h⟩
 ·exact .inr h
def Exc(p:wf)(H H':Hp):Prop:=∀b o,b≠p->H b=some o->H' b=some o
theorem Exc.keep(e:Exc p H H')(h:H p=some (.lst xs)):bE H H' :=
 ⟨λb ys hb=>e b _ (LP hb h (by intro z;cases z)) hb,λb o u hb=>e b _ (LP hb h (by intro z;cases z)) hb⟩
theorem ag.exc(s:ag H H'):Exc p H H':=λb o _ h=>s b o h
theorem Exc.refl(p:wf)(H:Hp):Exc p H H:=λ_ _ _ h=>h
theorem Exc.trans(a:Exc p H H')(b:Exc p H' H2):Exc p H H2:=λc o n h=>b c o n (a c o n h)
theorem Exc.upd(p:wf)(H:Hp)(o:HO):Exc p H (upd H p o):=λb u n h=>by
 rw[eX n];exact h
theorem Exc.at(e:Exc p H H'){q:wf}{u:HO}(n:q≠p)(h:H q=some u):H' q=some u:=e q u n h
end
mutual
def Is(K:wa)(H:Hp):V->PyData->Prop
 | v,.none=>v=.bG
 | v,.bool b=>v=.bl b
 | v,.int i=>v=.int i
 | v,.str x=>v=.str x
 | v,.tuple ds=>∃a xs,v=.ref a/\bA K H a xs/\ai K H xs ds
 | v,.list ds=>∃a xs,v=.ref a/\aP K H a xs/\ai K H xs ds
 | v,.dict _=>∃a kvs,v=.ref a/\H a=some (.dK kvs)
def ai(K:wa)(H:Hp):List V->List PyData->Prop
 | xs,[]=>xs=[]
 | xs,d::ds=>∃x r,xs=x::r/\Is K H x d/\ai K H r ds
end
section
variable{K:wa}{H H':Hp}{v:V}{xs:List V}{ds:List PyData}{d:PyData}
theorem aJ{i:Int} : Is K H v (.int i) ↔ v=.int i:=by rw[Is]
theorem fL{b:Bool} : Is K H v (.bool b) ↔ v=.bl b:=by rw[Is]
theorem cW{x:Str} : Is K H v (.str x) ↔ v=.str x:=by rw[Is]
theorem iE:Is K H v .none ↔ v=.bG:=by rw[Is]
theorem cb:Is K H v (.tuple ds) ↔ ∃a xs,v=.ref a/\bA K H a xs/\ai K H xs ds:=by rw[Is]
theorem cu:Is K H v (.list ds) ↔ ∃a xs,v=.ref a/\aP K H a xs/\ai K H xs ds:=by rw[Is]
theorem pQ{kv:List (PyData × PyData)} : Is K H v (.dict kv) ↔ ∃a kvs,v=.ref a/\H a=some (.dK kvs):=by rw[Is]
theorem iT:ai K H xs [] ↔ xs=[]:=by rw[ai]
theorem fA:ai K H xs (d::ds) ↔ ∃x r,xs=x::r/\Is K H x d/\ai K H r ds:=by rw[ai]
theorem ai.cons(h:Is K H v d)(t:ai K H xs ds):ai K H (v::xs) (d::ds):=fA.mpr ⟨v,xs,rfl,h,t⟩
theorem ai.nil:ai K H [] []:=iT.mpr rfl
theorem ai.length:∀{ds:List PyData}{xs:List V},ai K H xs ds->xs.length=ds.length
 | [],_,h=>by rw[iT.mp h];rfl
 | d::ds,_,h=>by
  obtain⟨x,r,rfl,_,t⟩:=fA.mp h;rw[vn,vn,ai.length t]
theorem ai.get:∀{ds:List PyData}{xs:List V}{i:Nat}{d:PyData},ai K H xs ds->ds[i]? = some d->∃x,xs[i]? = some x/\Is K H x d
 | [],_,_,_,_,e=>by simp at e
 | d::ds,_,0,_,h,e=>by
  obtain⟨x,r,rfl,q,_⟩:=fA.mp h;simp at e;subst e;exact⟨x,rfl,q⟩
 | d::ds,_,i+1,d',h,e=>by
  obtain⟨x,r,rfl,_,t⟩:=fA.mp h;obtain⟨y,h1,h2⟩:=ai.get (i:=i) t (by simpa using e);exact⟨y,by simpa using h1,h2⟩
theorem ai.append:∀{ds es:List PyData}{xs ys:List V},ai K H xs ds->ai K H ys es->ai K H (xs++ys) (ds++es)
 | [],_,_,_,h,t=>by rw[iT.mp h];exact t
 | d::ds,_,_,_,h,t=>by
  obtain⟨x,r,rfl,q,u⟩:=fA.mp h;exact .cons q (ai.append u t)
mutual
theorem Is.same(s:ag H H'):∀(d:PyData)(v:V),Is K H v d->Is K H' v d
 | .none,v,h=>by rw[iE]at h ⊢;exact h
 | .bool _,v,h=>by rw[fL]at h ⊢;exact h
 | .int _,v,h=>by rw[aJ]at h ⊢;exact h
 | .str _,v,h=>by rw[cW]at h ⊢;exact h
 | .tuple ds,v,h=>by
  obtain⟨a,xs,e,q,t⟩:=cb.mp h;exact cb.mpr ⟨a,xs,e,s.j6 q,ai.same s ds xs t⟩
 | .list ds,v,h=>by
  obtain⟨a,xs,e,q,t⟩:=cu.mp h;exact cu.mpr ⟨a,xs,e,s.seq q,ai.same s ds xs t⟩
 | .dict _,v,h=>by
  obtain⟨a,kvs,e,q⟩:=pQ.mp h;exact pQ.mpr ⟨a,kvs,e,s _ _ q⟩
theorem ai.same(s:ag H H'):∀(ds:List PyData)(xs:List V),ai K H xs ds->ai K H' xs ds
 | [],xs,h=>by rw[iT]at h ⊢;exact h
 | d::ds,xs,h=>by
  obtain⟨x,r,e,q,t⟩:=fA.mp h;exact fA.mpr ⟨x,r,e,Is.same s d x q,ai.same s ds r t⟩
end
end
mutual
def br:PyData->Bool
 | .none=>true
 | .bool _=>true
 | .int _=>true
 | .str _=>true
 | .tuple ds=>aV ds
 | .list _=>false
 | .dict _=>false
def aV:List PyData->Bool
 | []=>true
 | d::ds=>br d&&aV ds
end
section
variable{K:wa}{H H':Hp}
mutual
theorem Is.keep(k:bE H H'):∀(d:PyData)(v:V),br d=true->Is K H v d->Is K H' v d
 | .none,v,_,h=>by rw[iE]at h ⊢;exact h
 | .bool _,v,_,h=>by rw[fL]at h ⊢;exact h
 | .int _,v,_,h=>by rw[aJ]at h ⊢;exact h
 | .str _,v,_,h=>by rw[cW]at h ⊢;exact h
 | .tuple ds,v,i,h=>by
  obtain⟨a,xs,e,q,t⟩:=cb.mp h;exact cb.mpr ⟨a,xs,e,k.j6 q,ai.keep k ds xs (by rw[br]at i;exact i) t⟩
 | .list ds,v,i,h=>by rw[br]at i;cases i
 | .dict _,v,i,h=>by rw[br]at i;cases i
theorem ai.keep(k:bE H H'):∀(ds:List PyData)(xs:List V),aV ds=true->ai K H xs ds->ai K H' xs ds
 | [],xs,_,h=>by rw[iT]at h ⊢;exact h
 | d::ds,xs,i,h=>by
  obtain⟨x,r,e,q,t⟩:=fA.mp h;rw[aV,wT]at i;exact fA.mpr ⟨x,r,e,Is.keep k d x i.1 q,ai.keep k ds r i.2 t⟩
end
end
def N(r:Rat):PyData:=.tuple [.int r.num,.int (r.den:Int)]
theorem ff(r:Rat):br (N r)=true:=by simp[N,br,aV]
section
variable{K:wa}{H H':Hp}{v:V}{r:Rat}
theorem sG:Is K H v (N r) ↔ ∃a,v=.ref a/\bA K H a [.int r.num,.int (r.den:Int)]:=by
 unfold N;rw[cb]
 constructor
 ·rintro ⟨a,xs,e,q,t⟩
  obtain⟨x,r1,rfl,q1,t⟩:=fA.mp t;obtain⟨y,r2,rfl,q2,t⟩:=fA.mp t;rw[iT.mp t,aJ.mp q1,aJ.mp q2]at q;exact⟨a,e,q⟩
 ·rintro ⟨a,e,q⟩
  exact⟨a,_,e,q,.cons (aJ.mpr rfl) (.cons (aJ.mpr rfl) .nil)⟩
end
section
variable{X:Cx}{pins:List (wf × Obj)}{σ : St}{H:Hp}{s:Shared}
mutual
theorem Inv.reads(I:Inv X pins σ H s):∀(d:PyData)(v:V)(u:Value),d.canLay0=true->Is X.K H v d->bK v u->∃as,Reads s.heap u d as
 | .none,v,u,_,h,r=>by
  cases iE.mp h;cases (show u=Value.none from r);exact⟨_,.none⟩
 | .bool b,v,u,_,h,r=>by
  cases fL.mp h;cases (show u=Value.bool b from r);exact⟨_,.bool b⟩
 | .int i,v,u,_,h,r=>by
  cases aJ.mp h;obtain⟨t,e⟩:=(show ∃t,u=Value.int i t from r);cases e;exact⟨_,.int i t⟩
 | .str x,v,u,_,h,r=>by
  cases cW.mp h;obtain⟨t,e⟩:=(show ∃t,u=Value.str x t from r);cases e;exact⟨_,.str x t⟩
 | .tuple ds,v,u,c,h,r=>by
  obtain⟨a,xs,e,q,t⟩:=cb.mp h;subst e;cases (show u=Value.ref a from r);obtain⟨its,rv,⟨o,e1,e2,n,e3⟩,_⟩:=I.tuple q;obtain⟨as,ra⟩:=Inv.readsAll I ds xs its (by rw[vX]at c;exact c) t rv;exact⟨_,.tuple e1 e2 e3 (by simpa using ra)⟩
 | .list ds,v,u,c,h,r=>by
  obtain⟨a,xs,e,q,t⟩:=cu.mp h;subst e;cases (show u=Value.ref a from r);obtain⟨its,rv,⟨o,n,e1,e2,_,e3⟩,_⟩:=I.list q;obtain⟨as,ra⟩:=Inv.readsAll I ds xs its (by rw[vX]at c;exact c) t rv;exact⟨_,.list e1 e2 e3 (by simpa using ra)⟩
 | .dict _,v,u,c,h,r=>by rw[vX]at c;cases c
theorem Inv.readsAll(I:Inv X pins σ H s):∀(ds:List PyData)(xs:List V)(us:List Value),Wk ds=true->ai X.K H xs ds->aW xs us->∃as,ReadsAll s.heap us ds as
 | [],xs,us,_,h,r=>by
  rw[iT.mp h]at r;cases r;exact⟨_,.nil⟩
 | d::ds,xs,us,c,h,r=>by
  obtain⟨x,l,e,q,t⟩:=fA.mp h;subst e;rw[Wk,wT]at c;cases r with
  | cons r1 r2 =>
   obtain⟨as,h1⟩:=Inv.reads I d x _ c.1 q r1;obtain⟨bs,h2⟩:=Inv.readsAll I ds l _ c.2 t r2;exact⟨_,.cons h1 h2⟩
end
end
section
variable{X:Cx}
open PySem.SeqAt (shaped)
variable{K:wa}
def cR(K:wa):R2:=λx y H Q=>∃d e,Is K H x d/\Is K H y e/\shaped d=true/\shaped e=true/\Q (.bl (vy d e)) H
def ig(K:wa):R2:=λx y H Q=>∃d e,Is K H x d/\Is K H y e/\shaped d=true/\shaped e=true/\Q (.bl (!PyData.eqv d e)) H
theorem dF(hu:X.A.units+64<cLine):aM X (compareOp .Eq) (cR X.K):=by
 intro pins s σ H x y v u Q I rx ry h;obtain⟨d,e,hd,he,sd,se,q⟩:=h;obtain⟨as,h1⟩:=I.reads d x v (W0 sd) hd rx;obtain⟨bs,h2⟩:=I.reads e y u (W0 se) he ry;exact eq_dataH h1 h2 sd se hu ⟨.bl _,H,I,rfl,q⟩
theorem lz(hu:X.A.units+64<cLine):aM X (compareOp .NotEq) (ig X.K):=by
 intro pins s σ H x y v u Q I rx ry h;obtain⟨d,e,hd,he,sd,se,q⟩:=h;obtain⟨as,h1⟩:=I.reads d x v (W0 sd) hd rx;obtain⟨bs,h2⟩:=I.reads e y u (W0 se) he ry;exact ne_dataH h1 h2 sd se hu ⟨.bl _,H,I,rfl,q⟩
theorem bK.YR{x:V}{v:Value}(r:bK x v)(c:Bool):(v == Value.bool c)=decide (x=.bl c):=by
 cases x with
 | bG=>cases (show v=Value.none from r);rfl
 | bl b=>cases (show v=Value.bool b from r);cases b<;>cases c<;>rfl
 | int _=>obtain⟨t,rfl⟩:=r;rfl
 | str _=>obtain⟨t,rfl⟩:=r;rfl
 | byt _=>obtain⟨t,rfl⟩:=r;rfl
 | flt _=>obtain⟨t,rfl⟩:=r;rfl
 | ref _=>cases r;rfl
 | ty _=>cases r;rfl
theorem bK.YL{x:V}{v:Value}(r:bK x v)(c:Bool):plainIs v (Value.bool c)=true:=by
 cases x with
 | bG=>cases (show v=Value.none from r);rfl
 | bl b=>cases (show v=Value.bool b from r);rfl
 | int _=>obtain⟨t,rfl⟩:=r;rfl
 | str _=>obtain⟨t,rfl⟩:=r;rfl
 | byt _=>obtain⟨t,rfl⟩:=r;rfl
 | flt _=>obtain⟨t,rfl⟩:=r;rfl
 | ref _=>cases r;rfl
 | ty _=>cases r;rfl
def Nf:R2:=λx y H Q=>(∃c,y=.bl c/\Q (.bl (decide (x=.bl c))) H)\/(y=.bG/\Q (.bl (decide (x=.bG))) H)
theorem sV :aM X (compareOp .Is) Nf:=by
 intro pins s σ H x y v u Q I rx ry h;rcases h with⟨c,e,q⟩ | h
 ·subst e
  cases (show u=Value.bool c from ry);exact wpAny_is_plain (rx.YL c) (Pz I q (rx.YR c).symm)
 ·exact zCA pins s σ H x y v u Q I rx ry h
def kindOf:PyData->String
 | .none=>"NoneType"
 | .bool _=>"bool"
 | .int _=>"int"
 | .str _=>"str"
 | .tuple _=>"tuple"
 | .list _=>"list"
 | .dict _=>"dict"
def fg(K:wa):List V->Hp->VK->Prop:=λxs H Q=>∃x T d b,xs=[x,.ty T]/\Is K H x d/\Vt K (.type (kindOf d)) (.type T)=some b/\Q (.bl b) H
theorem j5 :aN X (.builtin "isinstance") (fg X.K):=by
 intro pins s σ H xs us Q I r h;obtain⟨x,T,d,b,rfl,hd,e,q⟩:=h;obtain⟨u,w',rfl,rx,rt⟩:=nk r;cases (show w'=Value.type T from rt);have fin:∀tk,EP X pins σ Q (.bool b) {s with toks:=tk}:=λtk=>⟨.bl b,H,I.tok _,rfl,q⟩
 cases d with
 | none =>
  cases iE.mp hd;cases (show u=Value.none from rx);exact Vb x5 I.d5 True.intro e (λz=>nomatch z) fin
 | bool y =>
  cases fL.mp hd;cases (show u=Value.bool y from rx);exact Vb x6 I.d5 True.intro e (λz=>nomatch z) fin
 | int i =>
  cases aJ.mp hd;obtain⟨t,q⟩:=(show ∃t,u=Value.int i t from rx);cases q;exact Vb Xw I.d5 True.intro e (λz=>nomatch z) fin
 | str y =>
  cases cW.mp hd;obtain⟨t,q⟩:=(show ∃t,u=Value.str y t from rx);cases q;exact Vb Xx I.d5 True.intro e (λz=>nomatch z) fin
 | tuple ds =>
  obtain⟨a,xs,e1,hq,_⟩:=cb.mp hd;subst e1;cases (show u=Value.ref a from rx);obtain⟨its,_,⟨o,h1,h2,_⟩,_⟩:=I.tuple hq;exact Vb xM I.d5 ⟨o,h1,h2⟩ e (λz=>nomatch z) fin
 | list ds =>
  obtain⟨a,xs,e1,hq,_⟩:=cu.mp hd;subst e1;cases (show u=Value.ref a from rx);obtain⟨its,_,⟨o,n,h1,h2,_⟩,_⟩:=I.list hq;exact Vb Xa I.d5 ⟨o,h1,h2⟩ e (λz=>nomatch z) fin
 | dict kv =>
  obtain⟨a,kvs,e1,hq⟩:=pQ.mp hd;subst e1;cases (show u=Value.ref a from rx);obtain⟨_,_,vs,_,o,es,ep,h1,h2,_⟩:=(show d7 X.prog X.w H s.heap a (.dK kvs)from I.aO a _ hq);exact Vb Xb I.d5 ⟨o,h1,h2.1⟩ e (λz=>nomatch z) fin
def isA(T:String)(d:PyData):Bool:=(kindOf d == T) || (kindOf d == "bool"&&T == "int")
theorem zBv(d:PyData):Vt K (.type (kindOf d)) (.type "int")=some (isA "int" d):=by cases d<;>rfl
theorem zzu(d:PyData):Vt K (.type (kindOf d)) (.type "bool")=some (isA "bool" d):=by cases d<;>rfl
theorem zwg(d:PyData):Vt K (.type (kindOf d)) (.type "tuple")=some (isA "tuple" d):=by cases d<;>rfl
theorem zzb(d:PyData):Vt K (.type (kindOf d)) (.type "list")=some (isA "list" d):=by cases d<;>rfl
theorem ZW(d:PyData):Vt K (.type (kindOf d)) (.type "str")=some (isA "str" d):=by cases d<;>rfl
theorem Y8{m n:Nat}{i j:Int}(h:Bd m i)(k:Bd n j)(hm:m<=1000000)(hn:n<=1000000):IntMulOk i j:=by
 have f:∀{m:Nat}{i:Int},Bd m i->m<=1000000->xy i<=2^20:=by
  intro m i h hm;have e:(2:Nat)^20=1048576:=by decide
  have l:=(h.mono (Nat.le_succ m)).log (Nat.succ_pos m);unfold xy
  split<;>lia
 exact .of_bits (f h hm) (f k hn)
theorem cV :aM X (Wd .Mult) (rI IntMulOk λi j=>.int (i*j)):=y_ λ_ _ _ _ _ _ _ hc q=>mul_int q hc
def pe(_ j:Int):Prop:=j≠0/\Bd 8999 j
theorem fN :aM X (Wd .FloorDiv) (rI pe λi j=>.int (i.fdiv j)):=y_ λ_ _ _ _ _ _ _ hc q =>
 floordiv_int hc.1 q (.inl (PyProof.noPylong_of_log2 (qG (hc.2.log (by decide)))))
theorem zBz :aM X (Wd .Add) (λx y H Q=>(jB λi j=>.int (i+j)) x y H Q\/(DJ x y H Q \/ ∃i j,x=.str i/\y=.str j/\i.length+j.length<=wX/\Q (.str (i++j)) H)):=zCM.or (zCd.or zt5)
end
theorem dM:vJ "len"=some (.builtin "len"):=by decide +kernel
theorem mT:vJ "abs"=some (.builtin "abs"):=by decide +kernel
theorem jz:vJ "isinstance"=some (.builtin "isinstance"):=by decide +kernel
theorem zCi:vJ "int"=some (.type "int"):=by decide +kernel
theorem Yy:vJ "bool"=some (.type "bool"):=by decide +kernel
theorem zDw:vJ "str"=some (.type "str"):=by decide +kernel
theorem dU:vJ "tuple"=some (.type "tuple"):=by decide +kernel
theorem kF:vJ "list"=some (.type "list"):=by decide +kernel
def mX(K:wa)(xs:List V)(H:Hp)(Q:VK):Prop:=xs.length<=wX /\ ∀p,H p=none->Q (.ref p) (upd H p (.tup xs))
def D_(K:wa)(xs:List V)(H:Hp)(Q:VK):Prop:=xs.length<=wX /\ ∀p,H p=none->Q (.ref p) (upd H p (.lst xs))
def jw(K:wa)(t:TA):TE:=λσ H Q=>t σ H λxs H1=>mX K xs H1 Q
def EH(K:wa)(t:TA):TE:=λσ H Q=>t σ H λxs H1=>D_ K xs H1 Q
def F7:R2:=λx y H Q=>(jB λi j=>.int (i+j)) x y H Q\/(DJ x y H Q \/ ∃i j,x=.str i/\y=.str j/\i.length+j.length<=wX/\Q (.str (i++j)) H)
def U4:List V->Hp->VK->Prop:=λxs H Q=>∃i:Int,xs=[.int i]/\Q (.int (if i<0 then -i else i)) H
def cO(K:wa):List V->Hp->VK->Prop:=λxs H Q=>∃p ys,xs=[.ref p]/\(aP K H p ys\/bA K H p ys)/\Q (.int ys.length) H
section
variable{X:Cx}{e:Expr}{es:List Expr}{te:TE}{t:TA}{pos:Pos}
theorem bC{x1}(h:PA X es t):PE X (.Tuple es x1 pos) (jw X.K t):=zC7 h
theorem d4(h:PA X es t):PE X (.List es pos) (EH X.K t):=zDu h
theorem cv:aM X (Wd .Add) F7:=zBz
theorem mZ:aN X (.builtin "abs") U4:=zx1
theorem dH:aN X (.builtin "len") (cO X.K):=zqx
theorem mV{x:Str}{i:Int}{pos:Pos}(hg:Gl X x)(hm:∃t,X.mg x=some (.int i t))(hd:(x == ("__debug__" : Str))=false:=by decide):PE X (.Name x pos) (tC (.int i)):=by
 obtain⟨t,hm⟩:=hm;exact cB hg hm ⟨t,rfl⟩ hd
end
section
variable{K:wa}{σ : St}{H H':Hp}{Q:VK}{QA:List V->Hp->Prop}{QB:Bool->Hp->Prop}{QS:St->Hp->Prop}{QH:Hp->Prop}{D:cQ}{ta tb te:TE}{tt tu:TT}{t tr:TA}{s1 s2:TS}{g:TG}{gs:kH}{r:R2}{v w:V}{xs ys:List V}{i:Nat}{m n:Int}
variable{j:Nat}{p:wf}{d:PyData}{A B:Prop}
theorem zDg(h : σ[i]? = some (some v))(q:Q v H):uM i σ H Q:=⟨v,h,q⟩
theorem zEs(q:Q v H):tC v σ H Q:=q
theorem zD0(h:ta σ H λx H1=>tb σ H1 λy H2=>r x y H2 Q):kK r ta tb σ H Q:=h
theorem Zk{u:V->Hp->VK->Prop}(h:ta σ H λx H1=>u x H1 Q):SO u ta σ H Q:=h
theorem zDq(h:t σ H λxs H1=>mX K xs H1 Q):jw K t σ H Q:=h
theorem zCQ(h:t σ H λxs H1=>D_ K xs H1 Q):EH K t σ H Q:=h
theorem zCW(q:QA [] H):rV σ H QA:=q
theorem zAU(h:te σ H λx H1=>tr σ H1 λxs H2=>QA (x::xs) H2):AO te tr σ H QA:=h
theorem zAX{sp:Sp}{E:XK}(h:t σ H λvs H1=>sp vs H1 Q E):og sp [] E t σ H Q:=by
 simpa only[og,vW] using h
theorem zEj{u:List V->Hp->VK->Prop}(h:t σ H λvs H1=>u vs H1 Q):DP u t σ H Q:=h
theorem zAS(h:te σ H λx H'=>∃k,x=.bl k/\QB k H'):Dr te σ H QB:=h
theorem zD3(h:te σ H λx H'=>∃k,x=.bl k/\QB k H'):tB te σ H QB:=h
theorem zCV(h:tt σ H λc H1=>if c=true then tu σ H1 QB else QB false H1):LJ tt tu σ H QB:=h
theorem zDy(h:tt σ H λc H1=>if c=true then QB true H1 else tu σ H1 QB):NB tt tu σ H QB:=h
theorem zCj(h:tt σ H λc H1=>QB (!c) H1):Ow tt σ H QB:=h
theorem zA8(h:ta σ H λx H1=>∃c,x=.bl c/\if c=true then tb σ H1 Q else Q (.bl false) H1):UG ta tb σ H Q:=h
theorem zDd(h:ta σ H λx H1=>∃c,x=.bl c/\if c=true then Q (.bl true) H1 else tb σ H1 Q):RB ta tb σ H Q:=h
theorem zBc(h:ta σ H λx H1=>∃c,x=.bl c/\Q (.bl (!c)) H1):PX ta σ H Q:=h
theorem zCO(h:tt σ H λc H1=>if c=true then ta σ H1 Q else tb σ H1 Q):Si tt ta tb σ H Q:=h
theorem zCz(h:s1 {D with nx:=s2 D} σ H):u3 s1 s2 D σ H:=h
theorem zAq(h:D.nx σ H):DO D σ H:=h
theorem zDb(h:te σ H D.rt):Ey te D σ H:=h
theorem zDt(h:tt σ H λb H1=>if b=true then s1 D σ H1 else s2 D σ H1):ET tt s1 s2 D σ H:=h
theorem zCK(h:te σ H λx H1=>g x σ H1 D.nx):mr te g D σ H:=h
theorem zAs(h:te σ H λ_ H1=>D.nx σ H1):NX te D σ H:=h
theorem ZU(h:t σ H λvs H1=>∃v w,vs=[v,w]/\D.nx ((σ.set i (some v)).set j (some w)) H1):UD i j t D σ H:=h
theorem zAh(q:QS ((σ.set i (some v)).set j (some w)) H):∃v' w',[v,w]=[v',w']/\QS ((σ.set i (some v')).set j (some w')) H:=⟨v,w,rfl,q⟩
theorem zxm(q:QS (σ.set i (some v)) H):jk i v σ H QS:=q
theorem zAR(q:QS σ H):RV [] σ H QS:=⟨rfl,q⟩
theorem zy4(q:g v σ H λσ' H'=>gs xs σ' H' QS):RO g gs (v::xs) σ H QS:=⟨v,xs,rfl,q⟩
theorem nJ{a:wf}{n:Nat}(h:bA K H a xs)(e:xs.length=n)(q:gs xs σ H QS):oY K n gs (.ref a) σ H QS:=⟨a,xs,rfl,h,e,q⟩
theorem zAz{tset:Aj}(h:ta σ H λo H1=>tb σ H1 λi H2=>tset o i v H2 λH3=>QS σ H3):OR ta tb tset v σ H QS:=h
theorem z5{k:Int}(h:H p=some (.lst xs))(e:iV xs.length k=some j)(q:∀H',Exc p H H'->H' p=some (.lst (xs.set j v))->QH H'):OS (.ref p) (.int k) v H QH :=
 ⟨p,xs,k,j,rfl,rfl,h,e,q _ (Exc.upd p H _) c6⟩
theorem zCl{f:Int->Int->V}(q:Q (f m n) H):jB f (.int m) (.int n) H Q:=⟨m,n,rfl,rfl,q⟩
theorem tm{C:Int->Int->Prop}{f:Int->Int->V}(c:C m n)(q:Q (f m n) H):rI C f (.int m) (.int n) H Q:=⟨m,n,rfl,rfl,c,q⟩
theorem zEg{f:Int->V}(q:Q (f m) H):rU f (.int m) H Q:=⟨m,rfl,q⟩
theorem zAK(q:Q (.int (m+n)) H):F7 (.int m) (.int n) H Q:=.inl ⟨m,n,rfl,rfl,q⟩
theorem fR{b:wf}(h:H p=some (.lst xs))(k:H b=some (.lst ys))(z:xs.length+ys.length<=wX)
  (q:∀c H',H c=none->ag H H'->H' c=some (.lst (xs++ys))->Q (.ref c) H'):F7 (.ref p) (.ref b) H Q :=
 .inr (.inl ⟨p,b,xs,ys,rfl,rfl,h,k,z,λc hc=>q c _ hc (ag.upd hc) c6⟩)
theorem zCb(q:Q (.int (if m<0 then -m else m)) H):U4 [.int m] H Q:=⟨m,rfl,q⟩
theorem RH(h:bA K H p xs)(q:Q (.int xs.length) H):cO K [.ref p] H Q:=⟨p,xs,rfl,.inr h,q⟩
theorem gv(h:aP K H p xs)(q:Q (.int xs.length) H):cO K [.ref p] H Q:=⟨p,xs,rfl,.inl h,q⟩
theorem zDm(q:Q (.bl (decide (v=.bG))) H):Nf v .bG H Q:=.inr ⟨rfl,q⟩
theorem zCR(q:Q (.bl (decide (m=n))) H):cR K (.int m) (.int n) H Q :=
 ⟨.int m,.int n,aJ.mpr rfl,aJ.mpr rfl,rfl,rfl,by
  have e:vy (.int m) (.int n)=decide (m=n):=by
   rw[vy,qN]
  rw[e];exact q⟩
theorem zCy(q:Q (.bl (!decide (m=n))) H):ig K (.int m) (.int n) H Q :=
 ⟨.int m,.int n,aJ.mpr rfl,aJ.mpr rfl,rfl,rfl,by
  have e:vy (.int m) (.int n)=decide (m=n):=by
   rw[vy,qN]
  rw[e];exact q⟩
theorem sW{e:PyData}(h:Is K H v d)(k:Is K H w e)(sd:vV d=true)(se:vV e=true)(q:Q (.bl (vy d e)) H):cR K v w H Q:=⟨d,e,h,k,sd,se,q⟩
theorem LB{e:PyData}(h:Is K H v d)(k:Is K H w e)(sd:vV d=true)(se:vV e=true)(q:Q (.bl (!PyData.eqv d e)) H):ig K v w H Q:=⟨d,e,h,k,sd,se,q⟩
theorem rO{T:String}(h:Is K H v d)(e:Vt K (.type (kindOf d)) (.type T)=some (isA T d))(q:Q (.bl (isA T d)) H):fg K [v,.ty T] H Q:=⟨v,T,d,_,rfl,h,e,q⟩
def fk:PyData->Bool
 | .tuple _=>true
 | _=>false
def BG:PyData->Bool
 | .int _=>true
 | .bool _=>true
 | _=>false
def En:PyData->Bool
 | .bool _=>true
 | _=>false
def mv:PyData->Bool
 | .list _=>true
 | _=>false
def zG:PyData->Bool
 | .str _=>true
 | _=>false
theorem LF : fk d=true ↔ ∃ds,d=.tuple ds:=by cases d<;>simp[fk]
theorem R_(h:Is K H v d)(q:Q (.bl (fk d)) H):fg K [v,.ty "tuple"] H Q:=rO h (zwg d) (by have e:isA "tuple" d=fk d:=(by cases d<;>rfl);rw[e];exact q)
theorem zyn(h:Is K H v d)(q:Q (.bl (BG d)) H):fg K [v,.ty "int"] H Q:=rO h (zBv d) (by have e:isA "int" d=BG d:=(by cases d<;>rfl);rw[e];exact q)
theorem M4(h:Is K H v d)(q:Q (.bl (En d)) H):fg K [v,.ty "bool"] H Q:=rO h (zzu d) (by have e:isA "bool" d=En d:=(by cases d<;>rfl);rw[e];exact q)
theorem zzc(h:Is K H v d)(q:Q (.bl (mv d)) H):fg K [v,.ty "list"] H Q:=rO h (zzb d) (by have e:isA "list" d=mv d:=(by cases d<;>rfl);rw[e];exact q)
theorem zxT(h:Is K H v d)(q:Q (.bl (zG d)) H):fg K [v,.ty "str"] H Q:=rO h (ZW d) (by have e:isA "str" d=zG d:=(by cases d<;>rfl);rw[e];exact q)
theorem Ac(h:bA K H p xs)(e:jf xs m=some v)(q:Q v H):dh K (.ref p) (.int m) H Q:=.inr (.inl ⟨p,xs,m,v,rfl,rfl,h,e,q⟩)
theorem jD(h:aP K H p xs)(e:jf xs m=some v)(q:Q v H):dh K (.ref p) (.int m) H Q:=.inl ⟨p,xs,m,v,rfl,rfl,h,e,q⟩
theorem zC0{α : Type}{xs:List α}(h0:0<=m)(h1:m<xs.length):∃v,jf xs m=some v/\v∈xs:=by
 obtain⟨k,rfl⟩:∃k:Nat,m=(k:Int):=⟨m.toNat,by lia⟩;have l:k<xs.length:=by lia
 exact⟨xs[k],mm (by simp[l]),vT l⟩
theorem Co(P:V->Prop)(h:aP K H p xs)(h0:0<=m)(h1:m<xs.length)(hP:∀x∈xs,P x)(q:∀x,P x->Q x H):dh K (.ref p) (.int m) H Q:=by
 obtain⟨x,e,hx⟩:=zC0 h0 h1;exact jD h e (q x (hP x hx))
theorem zBk{r:Rat}(h:Is K H v (N r))(q:Q (.int r.num) H):dh K v (.int 0) H Q:=by
 obtain⟨a,rfl,h'⟩:=sG.mp h;exact Ac h' rfl q
theorem zBw{r:Rat}(h:Is K H v (N r))(q:Q (.int (r.den:Int)) H):dh K v (.int 1) H Q:=by
 obtain⟨a,rfl,h'⟩:=sG.mp h;exact Ac h' rfl q
theorem az{ds:List PyData}(h:Is K H v (.tuple ds))(e:ds[j]? = some d)(q:∀x,Is K H x d->Q x H):dh K v (.int (j:Int)) H Q:=by
 obtain⟨a,xs,rfl,h,t⟩:=cb.mp h;obtain⟨x,e1,hx⟩:=t.get e;exact Ac h (mm e1) (q x hx)
theorem kX{ds:List PyData}(h:Is K H v (.tuple ds))(q:Q (.int ds.length) H):cO K [v] H Q:=by
 obtain⟨a,xs,rfl,h,t⟩:=cb.mp h;exact RH h (by rw[t.length];exact q)
theorem oV{α : Type}{l:List α}(h:l.length<=1000):l.length<=wX:=WN (jV h)
theorem e_(z:xs.length<=1000)(q:∀p H',H p=none->ag H H'->H' p=some (.tup xs)->Q (.ref p) H'):mX K xs H Q:=⟨oV z,λp hp=>q p _ hp (ag.upd hp) c6⟩
theorem cS(z:xs.length<=1000)(q:∀p H',H p=none->ag H H'->H' p=some (.lst xs)->Q (.ref p) H'):D_ K xs H Q:=⟨oV z,λp hp=>q p _ hp (ag.upd hp) c6⟩
theorem bW{ds:List PyData}(z:xs.length<=1000)(h:ai K H xs ds)(q:∀v H',ag H H'->Is K H' v (.tuple ds)->Q v H'):mX K xs H Q :=
 e_ z λp H' _ s e=>q _ H' s (cb.mpr ⟨p,xs,rfl,.of e,ai.same s ds xs h⟩)
theorem eY{r:Rat}(e1:m=r.num)(e2:n=(r.den:Int))(q:∀v H',ag H H'->Is K H' v (N r)->Q v H'):mX K [.int m,.int n] H Q:=by
 subst e1 e2;exact e_ (by show 2<=1000;decide) λp H' _ s e=>q _ H' s (sG.mpr ⟨p,rfl,.of e⟩)
theorem zBd{p:Prop}[Decidable p](h1:p->A)(h2:¬ p->B):if decide p=true then A else B:=by
 by_cases h:p
 ·rw[decide_eq_true h,if_pos rfl];exact h1 h
 ·rw[decide_eq_false h,if_neg vk];exact h2 h
theorem zxY{p:Prop}[Decidable p](h1:¬ p->A)(h2:p->B):if(!decide p)=true then A else B:=by
 by_cases h:p
 ·rw[decide_eq_true h];exact oA (h2 h)
 ·rw[decide_eq_false h];exact pT (h1 h)
theorem zAc{b:Bool}(h1:b=true->A)(h2:b=false->B):if b=true then A else B:=by
 cases b
 ·exact oA (h2 rfl)
 ·exact pT (h1 rfl)
theorem zyp{b:Bool}(h1:b=false->A)(h2:b=true->B):if(!b)=true then A else B:=by
 cases b
 ·exact pT (h1 rfl)
 ·exact oA (h2 rfl)
end
section
variable{c:TT}{tb:TS}{D:cQ}{σ : St}{H:Hp}
def LY(σ : St)(i:Nat):Int:=match σ[i]? with
 | some (some (.int y))=>y
 | _=>0
def UK(Pv:St->Hp->Prop)(μ : St->Nat)(tb:TS)(D:cQ)(σ':St)(H1:Hp):Prop :=
 ∃M:St->Hp->Prop,(∀σ2 H2,M σ2 H2->∃m',m' < μ σ'/\(m' = μ σ2/\Pv σ2 H2))/\tb {D with nx:=M,ct:=M,bk:=D.nx} σ' H1
theorem Rb(Pv:St->Hp->Prop)(μ : St->Nat)(h0:Pv σ H)
  (hs:∀σ' H',Pv σ' H'->c σ' H' λb H1=>if b=true then UK Pv μ tb D σ' H1 else D.nx σ' H1):Fv c tb D σ H:=by
 refine⟨λm σ H=>m = μ σ /\ Pv σ H,⟨_,rfl,h0⟩,?_⟩;rintro m σ H ⟨rfl,p⟩;exact hs σ H p
theorem Tx{Pv:St->Hp->Prop}{μ : St->Nat}{σ':St}{H1:Hp}(h:tb {D with nx:=λσ2 H2=>μ σ2 < μ σ'/\Pv σ2 H2,ct:=λσ2 H2=>μ σ2 < μ σ'/\Pv σ2 H2,bk:=D.nx} σ' H1):UK Pv μ tb D σ' H1 :=
 ⟨_,λσ2 H2 q=>⟨_,q.1,rfl,q.2⟩,h⟩
def Yt(g:TG)(tb:TS)(D:cQ)(σ : St)(vs:List V)(H1:Hp):Prop:=∃j:Int,vs=[.int j] /\ -(2^62)<=j/\j<2^62 /\
 ∃W:Nat->Nat->St->Hp->Prop,(∃m,W 0 m σ H1) /\ ∀i m σ H,W i m σ H ->
  ((h_ 0 j.toNat).stop i H/\D.nx σ H)\/((h_ 0 j.toNat).go i H /\ ∃M:St->Hp->Prop,(∀σ' H',M σ' H'->∃m',m'<m/\W (i+1) m' σ' H') /\ ∀x H',(h_ 0 j.toNat).fZ i H x H'->g x σ H' λσ2 H2=>tb {D with nx:=M,ct:=M,bk:=D.nx} σ2 H2)
theorem zA5{ta:TA}{g:TG}(h:ta σ H λvs H1=>Yt g tb D σ vs H1):lM (DM ta) g tb D σ H:=h
theorem ku{g:TG}{n:Int}(h0 : -1000000000<=n)(h1:n<1000000000)(Pv:Nat->St->Hp->Prop)(p:Pv 0 σ H)
  (hs:∀(i:Nat) σ H,i<n.toNat->Pv i σ H->g (.int (i:Int)) σ H λσ2 H2=>tb {D with nx:=Pv (i+1),ct:=Pv (i+1),bk:=D.nx} σ2 H2)
  (hd:∀σ H,Pv n.toNat σ H->D.nx σ H):Yt g tb D σ [.int n] H:=by
 refine⟨n,rfl,by lia,by lia,O7 (lo:=0) Pv p (λi σ H hi q=>?_) hd⟩;have e:(0:Int)+(i:Int)=(i:Int):=by lia
 rw[e];exact hs i σ H hi q
end
def Fe(K:wa)(g:TG)(tb:TS)(D:cQ)(σ : St)(x:V)(H1:Hp):Prop:=∃a,x=.ref a/\(∃xs,aP K H1 a xs) /\
 ∃W:Nat->Nat->St->Hp->Prop,(∃m,W 0 m σ H1) /\ ∀i m σ H,W i m σ H ->
  ((jY K a).stop i H/\D.nx σ H)\/((jY K a).go i H /\ ∃M:St->Hp->Prop,(∀σ' H',M σ' H'->∃m',m'<m/\W (i+1) m' σ' H') /\ ∀x H',(jY K a).fZ i H x H'->g x σ H' λσ2 H2=>tb {D with nx:=M,ct:=M,bk:=D.nx} σ2 H2)
def Oy(K:wa)(g:TG)(tb:TS)(D:cQ)(σ : St)(x:V)(H1:Hp):Prop:=∃a,x=.ref a/\(∃xs,bA K H1 a xs) /\
 ∃W:Nat->Nat->St->Hp->Prop,(∃m,W 0 m σ H1) /\ ∀i m σ H,W i m σ H ->
  ((jQ K a).stop i H/\D.nx σ H)\/((jQ K a).go i H /\ ∃M:St->Hp->Prop,(∀σ' H',M σ' H'->∃m',m'<m/\W (i+1) m' σ' H') /\ ∀x H',(jQ K a).fZ i H x H'->g x σ H' λσ2 H2=>tb {D with nx:=M,ct:=M,bk:=D.nx} σ2 H2)
section
variable{K:wa}{te:TE}{g:TG}{tb:TS}{D:cQ}{σ : St}{H:Hp}{a:wf}{xs:List V}
theorem zA9(h:te σ H λx H1=>Fe K g tb D σ x H1):lM (C_ K te) g tb D σ H:=h
theorem oS(hx:aP K H a xs)(Pv:Nat->St->Hp->Prop)(h0:Pv 0 σ H)(hl:∀i σ H,i<=xs.length->Pv i σ H->aP K H a xs)
  (hs:∀i x σ H,xs[i]? = some x->Pv i σ H->g x σ H λσ2 H2=>tb {D with nx:=Pv (i+1),ct:=Pv (i+1),bk:=D.nx} σ2 H2) (hd:∀σ H,Pv xs.length σ H->D.nx σ H):Fe K g tb D σ (.ref a) H :=
 ⟨a,rfl,⟨xs,hx⟩,zyU Pv h0 hl hs hd⟩
theorem zwJ(hx:bA K H a xs)(Pv:Nat->St->Hp->Prop)(h0:Pv 0 σ H)(hl:∀i σ H,i<=xs.length->Pv i σ H->bA K H a xs)
  (hs:∀i x σ H,xs[i]? = some x->Pv i σ H->g x σ H λσ2 H2=>tb {D with nx:=Pv (i+1),ct:=Pv (i+1),bk:=D.nx} σ2 H2) (hd:∀σ H,Pv xs.length σ H->D.nx σ H):Oy K g tb D σ (.ref a) H :=
 ⟨a,rfl,⟨xs,hx⟩,zAk Pv h0 hl hs hd⟩
end
variable{H:Hp}
theorem UA{σ : St}{Q:VK}(q:∀p H',H p=none->ag H H'->H' p=some (.dK [])->Q (.ref p) H'):TH σ H Q:=λp hp=>q p _ hp (ag.upd hp) c6
theorem zDj{K:wa}{a:wf}{xs:List V}(hO:z_ H)(h:aP K H a xs):gY K H a xs:=by
 rcases h with(h | ⟨o,h⟩) | h
 ·rcases hO a with z | ⟨ob,ys,z⟩
  ·rw[h]at z;cases z
  ·rw[h]at z;cases z
 ·exact .inl ⟨o,h⟩
 ·exact .inr h
theorem Lh{K:wa}{Q:VK}{a:wf}{ns:List Int}{m:Int}(h:gY K H a (ns.map V.int))(h0:0<=m)(h1:m<((ns.map V.int).length:Int))(q:∀z,Q (.int z) H):dh K (.ref a) (.int m) H Q:=by
 refine Co (λv=>∃z,v=.int z) h.sq h0 h1 (λx hx=>?_) (λx hx=>?_)
 ·obtain⟨z,_,rfl⟩:=wP.mp hx
  exact⟨z,rfl⟩
 ·obtain⟨z,rfl⟩:=hx
  exact q z
section
variable{K:wa}{H H':Hp}{v:V}{d:PyData}{a:wf}{xs:List V}{o:HO}
theorem ag.back{H2:Hp}(b:ag H' H2)(s:ag H H'):ag H H2:=s.trans b
theorem bE.back{H2:Hp}(b:bE H' H2)(s:bE H H'):bE H H2:=s.trans b
theorem Is.by(s:ag H H')(h:Is K H v d):Is K H' v d:=Is.same s d v h
theorem Is.Zi(h:Is K H v d)(s:ag H H'):Is K H' v d:=Is.same s d v h
theorem Is.Y5{r:Rat}(h:Is K H v (N r))(s:bE H H'):Is K H' v (N r):=Is.keep s _ v (ff r) h
theorem Is.gM{r:Rat}(s:bE H H')(h:Is K H v (N r)):Is K H' v (N r):=Is.keep s _ v (ff r) h
theorem Is.di(s:bE H H')(i:br d=true)(h:Is K H v d):Is K H' v d:=Is.keep s _ v i h
end
def fX(X:Cx)(N':List Str)(scope:Scope)(cl:List (Str × wf))(C:wf)(s₀ : Shared)(H₀ : Hp)(fp:List wf)(pins:List (wf × Obj)):Cx where
 prog:=X.prog
 w:=X.w
 K:=X.K
 mg:=X.mg
 base:=X.base
 A:=X.A
 N:=N'
 s₀:=s₀
 H₀:=H₀
 env:=compEnvC scope cl C X.env
 outer:=X.stack
 stack:=X.stack
 ex:=fp
 fn:=λ_=>false
 calm:=X.calm
 pn:=X.pn++pins
 xe:=λ_ _=>False
structure UR(X:Cx)(scope:Scope)(cl:List (Str × wf)):Prop where
 mF:closureFor scope X.env=pure cl
 sub:∀x c,cl.lookup x=some c->X.env.cells.lookup x=some c
 has:∀x,((relabel scope X.env).names.lookup x=some .cell\/(relabel scope X.env).names.lookup x=some .free)->∃c,cl.lookup x=some c
def d9(src:List (Option Nat))(σ : St):St:=src.map λo=>match o with
 | none=>none
 | some j=>(σ[j]?).join
def Yn(X:Cx)(N':List Str)(src:List (Option Nat)):Prop :=
 N'.length=src.length /\ ∀(i j:Nat)(x:Str),N'[i]? = some x->src[i]? = some (some j)->X.N[j]? = some x/\X.env.scope.names.lookup x=some .cell
section
variable{X:Cx}{pins:List (wf × Obj)}{σ : St}{H:Hp}{s:Shared}{N':List Str}{scope:Scope}{cl:List (Str × wf)}{src:List (Option Nat)}{fp:List wf}
theorem Inv.block{h₁ : wJ}{tk:Nat}(I:Inv X pins σ H s)(hk:scope.kind=.function)(cok:UR X scope cl)(sok:Yn X N' src)(hf:∀b∈fp,fi X pins H b)(hlt:∀b∈fp,b<s.heap.objs.size)
  (hns:h₁.Ns s.heap.objs.size λ_=>none) (old:∀b o,s.heap.get? b=some o->h₁.get? b=some o)
  (hvis:∀(i:Nat) x,N'[i]? = some x->src[i]? ≠ some none->(relabel scope X.env).names.lookup x=some .cell\/(relabel scope X.env).names.lookup x=some .free) :
  Inv (fX X N' scope cl s.heap.objs.size s H fp pins) [] (d9 src σ) H {s with heap:=h₁,toks:=tk}:=by
 have hfr:H s.heap.objs.size=none:=I.aO.fresh (wn _)
 have mq:∀x c,cl.lookup x=some c->c<s.heap.objs.size:=λx c e=>by
  obtain⟨v,q⟩:=I.cell x c (cok.sub x c e);exact q.lt
 have fplt:∀b∈fp,b ∉ eK X.stack:=λb hb z=>by
  obtain⟨_,f1,f2,_⟩:=hf b hb;exact(wH.mp (I.nS b z)).elim f1 f2
 refine⟨⟨I.ok.mod,?_,I.ok.glob,I.ok.blt,wn _,λx y c h1 h2=>?_,λx hx=>?_,λx c hx=>?_,I.ok.hd,I.ok.frames,.inl rfl,λb hb=>⟨?_,λx c e=>?_⟩,I.bs,Wg I.ok.jm I.sz,λb o e=>?_,fplt,I.stack,I.tV⟩,
  rfl,I.bare,Un.kept old,⟨_,hns,λi x v h1 h2 h3=>?_⟩,λx c e=>?_,hfr,λx c e=>?_,λp hp=>?_,I.aO.kept old,?_⟩
 ·show(relabel scope X.env).kind=.function
  exact hk
 ·exact I.ok.inj x y c (cok.sub x c h1) (cok.sub y c h2)
 ·exact cok.has x hx
 ·exact absurd (show false=true from hx) vk
 ·exact wO (hlt b hb)
 ·exact(hf b hb).2.2.2.2.1 x c (cok.sub x c e)
 ·intro hb
  obtain⟨_,_,_,f3,_⟩:=hf b hb;rcases f3 with z | z
  ·exact I.ok.lg b o e z
  ·exact absurd (wV (wA e) (Wg I.ok.jm z)) (WR _)
 ·-- a name of the frame around
  have hsrc:∃j,src[i]? = some (some j) /\ σ[j]? = some (some v):=by
   unfold d9 at h2;rw[wo]at h2;cases q:src[i]? with
   | none=>rw[q]at h2;cases h2
   | some o =>
    rw[q]at h2;cases o with
    | none=>cases h2
    | some j =>
     refine⟨j,rfl,?_⟩;have h2':(σ[j]?).join=some v:=wW h2;cases q2 : σ[j]? with
     | none=>rw[q2]at h2';cases h2'
     | some z=>rw[q2]at h2';exact congrArg some h2'
  obtain⟨j,hj,hv⟩:=hsrc;obtain⟨hN,hc⟩:=sok.2 i j x h1 hj;obtain⟨m,_,hl⟩:=I.loc;obtain⟨u,ru,lk⟩:=hl j x v hN hv (.inr (.inl hc));refine⟨u,ru,.inr ⟨hvis i x h1 (by rw[hj];intro z;cases z),?_⟩⟩;rcases lk with⟨k,_⟩ | ⟨_,c,ec,hcell⟩
  ·have k':X.env.scope.names.lookup x=some .local:=k
   rw[hc]at k';cases k'
  ·obtain⟨c',ec'⟩:=cok.has x (hvis i x h1 (by rw[hj];intro z;cases z))
   have:=cok.sub x c' ec';rw[ec]at this;cases this;obtain⟨o,ho,hd⟩:=hcell;exact⟨c,ec',o,old c o ho,hd⟩
 ·obtain⟨v,o,ho,hd⟩:=I.cell x c (cok.sub x c e)
  exact⟨v,o,old c o ho,hd⟩
 ·exact I.gP x c (cok.sub x c e)
 ·have hp':p∈(X.pn++pins)++[]:=hp
  rw[vW]at hp';obtain⟨e,n,ne,nf,d⟩:=I.pin p hp';refine⟨old _ _ e,n,wO (wA e),λz=>?_,d⟩;exact(wH.mp (I.nS p.1 z)).elim ne nf
 ·show(d9 src σ).length=N'.length
  unfold d9;rw[wl,sok.1]
end
def Na:TT:=λ_ H Q=>Q true H
def rk(X:Cx)(ifs:List Expr)(t:TT):Prop :=
 ∀(pins:List (wf × Obj))(s:Shared)(σ : St)(H:Hp)(Q:Bool->Hp->Prop),Inv X pins σ H s->t σ H Q ->
  wq (model X.prog X.w) X.A (forIn ifs true λc r=>if r=true then do let ok <- isTrue c X.env (eval c X.env);pure (ForInStep.yield ok)else pure (ForInStep.yield r)) (TP X pins σ Q) X.xe s
theorem dw{X:Cx} : rk X [] Na:=λ_ _ _ H _ I h=>wpAny_tests_nil ⟨H,I,h⟩
theorem yq{X:Cx}{c:Expr}{t:TT}(hc:PT X c t):rk X [c] t:=λpins s σ H Q I h=>wpAny_tests_one (hc pins s σ H Q I h)
section
variable{prog:wK}{w:wQ}{A:Around}{R:Result->Shared->Prop}{s:Shared}
theorem zrH{elt target iter:Expr}{ifs:List Expr}{scope:Scope}{pos:Pos}{it acc:Value}{env:Env}(I:Nat->Shared->Prop)
   (turn:∀n s,I n s->wq (model prog w) A (pyNext it) (λr s₁=>match r with
     | none=>R (.ok .next) s₁
     | some v=>wq (model prog w) A (ql target it v) (λ_ s₁'=>wq (model prog w) A (assign target env v) (λ_ s₂ =>
         wq (model prog w) A (forIn ifs true λc r=>if r=true then do let ok <- isTrue c env (eval c env);pure (ForInStep.yield ok)else pure (ForInStep.yield r)) (λok s₃ =>
           if ok=true then wq (model prog w) A (eval elt env) (λx s₄ =>
             wq (model prog w) A (call (.builtin "list.append") [acc,x]) (λ_ s₅=>∃m,m<n/\I m s₅) (λ_ _=>False) s₄) (λ_ _=>False) s₃
           else ∃m,m<n/\I m s₃) (λ_ _=>False) s₂) (λ_ _=>False) s₁') (λ_ _=>False) s₁) (λ_ _=>False) s)
   (n:Nat) (h:I n s):codeAny (model prog w) A (.compLoop (.ListComp elt [⟨target,iter,ifs,0⟩] scope pos) 0 it acc env) R s:=by
 refine codeAny_loop rfl I (λn s hI=>?_) n h
 show wq _ A ((compTurn (.ListComp elt [⟨target,iter,ifs,0⟩] scope pos) 0 it acc env).onRaise (λx=>do noteFrame x env;theTreesLotGoes x)) _ _ s
 refine wpAny_noted ?_;rw[compTurn_list];refine wg (wpAny_standAt (wg (Ws (turn n s hI) (λr s₁ h₁=>?_) λ_ _ h'=>h'.elim)));cases r with
 | none=>exact wt h₁
 | some v =>
   refine wg (Ws h₁ (λ_ s₁' h₁'=>?_) λ_ _ h'=>h'.elim);refine wg (Ws h₁' (λ_ s₂ h₂=>wg (Ws h₂ (λok s₃ h₃=>?_) λ_ _ h'=>h'.elim)) λ_ _ h'=>h'.elim);cases ok with
   | false=>exact wt ⟨rfl,h₃⟩
   | true=>exact wg (wg (Ws h₃ (λx s₄ h₄=>wg (Ws h₄ (λ_ s₅ h₅=>wt (wt ⟨rfl,h₅⟩)) λ_ _ h'=>h'.elim)) λ_ _ h'=>h'.elim))
end
def kA(g:TG)(tt:TT)(te:TE)(J:It)(D:wf)(σ0:St)(H0:Hp)(Q:Hp->Prop):Prop :=
 ∃W:Nat->Nat->St->Hp->Prop,(∃m,W 0 m σ0 H0) /\ ∀i m σ' H',W i m σ' H' ->
  (J.stop i H'/\Q H')\/(J.go i H' /\ ∃M:St->Hp->Prop,(∀σ2 H2,M σ2 H2->∃m',m'<m/\W (i+1) m' σ2 H2) /\
   ∀x H2,J.fZ i H' x H2->g x σ' H2 λσ3 H3=>tt σ3 H3 λok H4=>if ok=true then te σ3 H4 λy H5=>∃ys,H5 D=some (.lst ys)/\ys.length<wX/\M σ3 (upd H5 D (.lst (ys++[y])))else M σ3 H4)
def kT(src:List (Option Nat))(wi:TI)(g:TG)(tt:TT)(te:TE):TE:=λσ H Q=>wi σ H λJ H1=>∀D,H1 D=none->kA g tt te J D (d9 src σ) (upd H1 D (.lst [])) (λH'=>Q (.ref D) H')
structure N3(Y:Cx)(tg:Expr)(J:It)(fp:List wf)(it:wf)(tn:Nat->wJ->Prop):Prop where
 item:∀(i:Nat)(pins:List (wf × Obj))(s:Shared)(σ : St)(H:Hp)(E:Value->Shared->Prop),Inv Y pins σ H s->(∀b∈fp,fi Y pins H b)->tn i s.heap->J.go i H ->
   wq (model Y.prog Y.w) Y.A (pyNext (.ref it)) (λr s1=>∃u,r=some u/\wq (model Y.prog Y.w) Y.A (ql tg (.ref it) u) (λ_ s2=>∃x H',Inv Y pins σ H' s2/\bK x u/\J.fZ i H x H'/\tn (i+1) s2.heap /\ ∀b∈fp,H' b=none) E s1) E s
 done:∀(i:Nat)(pins:List (wf × Obj))(s:Shared)(σ : St)(H:Hp)(E:Value->Shared->Prop),Inv Y pins σ H s->(∀b∈fp,fi Y pins H b)->tn i s.heap->J.stop i H ->
   wq (model Y.prog Y.w) Y.A (pyNext (.ref it)) (λr s1=>r=none/\Inv Y pins σ H s1) E s
theorem j7.PM{P:wK}{w:wQ}{K:wa}{tg:Expr}{J:It}{fp:List wf}{it:wf}{tn:Nat->wJ->Prop}(T:j7 P w K tg J fp it tn){Y:Cx}(h1:Y.prog=P)(h2:Y.w=w)(h3:Y.K=K)(hc:Y.calm=true):N3 Y tg J fp it tn:=by
 subst h1 h2 h3;exact⟨T.item Y rfl rfl rfl hc,T.done Y rfl rfl rfl hc⟩
section
variable{X:Cx}{pins:List (wf × Obj)}{σ : St}{H:Hp}{s:Shared}{N':List Str}{scope:Scope}{cl:List (Str × wf)}{src:List (Option Nat)}{elt tgt iter:Expr}{ifs:List Expr}{pos:Pos}{wi:TI}{g:TG}{tt:TT}{te:TE}
structure cK(X:Cx)(N':List Str)(scope:Scope)(cl:List (Str × wf))(src:List (Option Nat)):Prop where
 kind:scope.kind=.function
 cell:∀y∈scope.names,y.2≠.cell
 names:∀y∈scope.names,y.2=.local->scope.names.lookup y.1=some .local
 mF:UR X scope cl
 Zf:Yn X N' src
 BB:∀(i:Nat) x,N'[i]? = some x->src[i]? ≠ some none->(relabel scope X.env).names.lookup x=some .cell\/(relabel scope X.env).names.lookup x=some .free
theorem OE{it:wf}{fp:List wf}{tn:Nat->wJ->Prop}{J:It}{RQ:wf->Hp->Prop}{E:Value->Shared->Prop}{RR:Value->wf->Result->Shared->Prop}
   (TC:∀C s₀ H₀,N3 (fX X N' scope cl C s₀ H₀ fp pins) tgt J fp it tn) (ok:cK X N' scope cl src)
   (hg:∀C s₀ H₀ fp pins,PG (fX X N' scope cl C s₀ H₀ fp pins) tgt g) (ht:∀C s₀ H₀ fp pins,rk (fX X N' scope cl C s₀ H₀ fp pins) ifs tt) (he:∀C s₀ H₀ fp pins,PE (fX X N' scope cl C s₀ H₀ fp pins) elt te)
   (I:Inv X pins σ H s) (T:j7 X.prog X.w X.K tgt J fp it tn) (st:tn 0 s.heap) (hf:∀b∈fp,fi X pins H b)
   (rd:∀D,H D=none->kA g tt te J D (d9 src σ) (upd H D (.lst [])) (λH'=>RQ D H'))
   (hRR:∀D C H' s' m,Inv X pins σ H' s'->s'.heap.Ns C m->fi X pins H' C->RQ D H'->RR (.ref D) C (.ok .next) s') :
   wq (model X.prog X.w) X.A (newList []) (λacc s₃=>wq (model X.prog X.w) X.A (newFunctionEnv scope X.env.globals cl [] X.env.qual none .none (some X.env)) (λcenv s₄ =>
     codeAny (model X.prog X.w) X.A (.compStart (.ListComp elt [⟨tgt,iter,ifs,0⟩] scope pos) 0 (.ref it) acc {cenv with scope:=relabel scope X.env}) (RR acc cenv.locals) s₄) E s₃) E s:=by
 refine Wt ?_ (by show 0<=wX;exact Vs _);have hD:H s.heap.objs.size=none:=I.aO.fresh (wn _)
 have I3:Inv X pins σ (upd H s.heap.objs.size (.lst [])) {s with heap:=s.heap.push {cls:=.type "list",data:=.seq ([]:List Value).toArray}} :=
   I.Bq (ys:=[]) (its:=[]) (t':=s.toks) .nil (Vs _)
 have old3:∀b o,s.heap.get? b=some o->(s.heap.push {cls:=.type "list",data:=.seq ([]:List Value).toArray}).get? b=some o:=λb o e=>wm _ e
 have lt0:∀b∈fp,b<s.heap.objs.size:=λb hb=>by
   obtain⟨o,e,_⟩:=T.obj 0 _ st b hb;exact wA e
 have hf3:∀b∈fp,fi X pins (upd H s.heap.objs.size (.lst [])) b:=λb hb=>⟨by rw[eX (wO (lt0 b hb))];exact(hf b hb).1,(hf b hb).2⟩
 have lt3:∀b∈fp,b<(s.heap.push {cls:=.type "list",data:=.seq ([]:List Value).toArray}).objs.size:=λb hb=>by
   rw[VZ];exact qG (lt0 b hb)
 have st3:tn 0 (s.heap.push {cls:=.type "list",data:=.seq ([]:List Value).toArray}):=T.keep _ _ _ st λb _ o e=>old3 b o e
 obtain⟨W,⟨m0,w0⟩,turn⟩:=rd _ hD;generalize hs3:({s with heap:=s.heap.push {cls:=.type "list",data:=.seq ([]:List Value).toArray}} : Shared)=s3 at I3 ⊢;have hh3:s3.heap=s.heap.push {cls:=.type "list",data:=.seq ([]:List Value).toArray}:=by rw[<- hs3]
 rw[<- hh3]at lt3 st3;clear old3 hs3 hh3;generalize hD':s.heap.objs.size=D at *
 refine wpAny_newFunctionEnv ok.cell (by intro y hy;cases hy) (λh₁ hns₁ hsb₁=>?_) ok.kind;have old:∀b o,s3.heap.get? b=some o->h₁.get? b=some o:=λb o e=>hsb₁.extBut b o (wO (wA e)) (wm _ e)
 have hC:fi X pins (upd H D (.lst [])) s3.heap.objs.size:=I3.kq (wn _) (I3.aO.fresh (wn _))
 have IB:∀tk,Inv (fX X N' scope cl s3.heap.objs.size s3 (upd H D (.lst [])) fp pins) [] (d9 src σ) (upd H D (.lst [])) {s3 with heap:=h₁,toks:=tk}:=λtk =>
   I3.block ok.kind ok.mF ok.Zf hf3 lt3 hns₁ old ok.BB
 have stB:tn 0 h₁:=T.keep _ _ _ st3 λb _ o e=>old b o e
 have stat:∀{H':Hp} ,(∀b∈fp,H' b=none)->∀b∈fp,fi (fX X N' scope cl s3.heap.objs.size s3 (upd H D (.lst [])) fp pins) [] H' b:=λhn b hb=>by
   obtain⟨_,f1,f2,f3,f4,f5⟩:=hf3 b hb;refine⟨hn b hb,wO (lt3 b hb),λz=>(wH.mp (I3.nS b z)).elim f1 f2,.inl hb,λx c e=>f4 x c (ok.mF.sub x c e),λp hp=>?_⟩;have hp':p∈(X.pn++pins)++[]:=hp;rw[vW]at hp';exact f5 p hp'
 have back:∀{σ':St}{H':Hp}{s':Shared},Inv (fX X N' scope cl s3.heap.objs.size s3 (upd H D (.lst [])) fp pins) [] σ' H' s'->Inv X pins σ H' s'/\(∃m,s'.heap.Ns s3.heap.objs.size m)/\fi X pins H' s3.heap.objs.size:=λ{σ' H' s'} J=>by
   obtain⟨m,hn,_⟩:=J.loc;refine⟨I3.KO (ch:=fp) J.os J.base J.aO J.bare (λb hb=>?_),⟨m,hn⟩,⟨J.free,hC.2⟩⟩;obtain⟨_,f1,_,f3,f4,f5⟩:=hf3 b hb;exact⟨f3,f1,f4,f5⟩
 have loop:∀tk,codeAny (model X.prog X.w) X.A (.compLoop (.ListComp elt [⟨tgt,iter,ifs,0⟩] scope pos) 0 (.ref it) (.ref D) (compEnvC scope cl s3.heap.objs.size X.env)) (RR (.ref D) s3.heap.objs.size) {s3 with heap:=h₁,toks:=tk}:=by
   intro tk
   refine zrH (λn s'=>∃i σ' H',Inv (fX X N' scope cl s3.heap.objs.size s3 (upd H D (.lst [])) fp pins) [] σ' H' s'/\tn i s'.heap/\(∀b∈fp,H' b=none)/\W i n σ' H') ?_ m0
     ⟨0,_,_,IB tk,stB,λb hb=>(hf3 b hb).1,w0⟩
   rintro n s4 ⟨i,σ4,H4,I4,st4,fr4,w4⟩;rcases turn i n σ4 H4 w4 with⟨stop,q⟩ | ⟨go,M,hM,step⟩
   . refine aQ ((TC _ _ _).done i [] s4 σ4 H4 (λ_ _=>False) I4 (stat fr4) st4 stop) λr s5 ⟨hr,I5⟩=>?_
     subst hr;obtain⟨J,⟨m,hn⟩,hCf⟩:=back I5;exact hRR D _ H4 s5 m J hn hCf q
   . refine aQ ((TC _ _ _).item i [] s4 σ4 H4 (λ_ _=>False) I4 (stat fr4) st4 go) λr s5 ⟨u,hr,h5⟩=>?_
     subst hr;refine aQ h5 λ_ s6 ⟨x,H6,I6,r6,y6,st6,fr6⟩=>?_
     have I6':=I6.pinned (stat fr6) (T.obj _ _ st6)
     have again:∀{σ7:St}{H7:Hp}{s7:Shared},Inv (fX X N' scope cl s3.heap.objs.size s3 (upd H D (.lst [])) fp pins) ([]++rG fp s6.heap) σ7 H7 s7->M σ7 H7 ->
         ∃m,m<n /\ ∃i σ' H',Inv (fX X N' scope cl s3.heap.objs.size s3 (upd H D (.lst [])) fp pins) [] σ' H' s7/\tn i s7.heap/\(∀b∈fp,H' b=none)/\W i m σ' H':=λ{σ7 H7 s7} I7 n7=>by
       obtain⟨m',hm,w7⟩:=hM σ7 H7 n7;refine⟨m',hm,i+1,σ7,H7,I7.tT,T.keep _ _ _ st6 λb hb o e=>(I7.pin (b,o) (vI _ (vI _ (yk hb e)))).1,λb hb=>?_,w7⟩;obtain⟨o,e,d⟩:=T.obj _ _ st6 b hb;exact(I7.pin (b,o) (vI _ (vI _ (yk hb e)))).2.1
     refine aQ (hg _ _ _ _ _ _ s6 σ4 H6 x u _ I6' r6 (step x H6 y6)) λ_ s7 ⟨σ7,H7,I7,q7⟩=>?_
     refine aQ (ht _ _ _ _ _ _ s7 σ7 H7 _ I7 q7) λk s8 ⟨H8,I8,q8⟩=>?_
     cases k with
     | false=>exact again I8 q8
     | true =>
       rw[if_pos rfl]at q8 ⊢;refine aQ (he _ _ _ _ _ _ s8 σ7 H8 _ I8 q8) λy s9 ⟨yv,H9,I9,r9,ys,hys,hz,q9⟩=>?_
       exact aQ (jC _ s9 σ7 H9 (.ref D) [yv] (.ref D) [y] (λ_ H'=>M σ7 H') I9 rfl (.cons r9 .nil) ⟨D,ys,yv,rfl,rfl,hys,hz,q9⟩) λ_ s10 ⟨_,H10,I10,_,q10⟩=>again I10 q10
 exact codeAny_compStart_list (loop _) (T.self _ _ _ _ _ stB (loop _))
theorem dS(hc:X.calm=true)(ok:cK X N' scope cl src)(hi:PI X tgt iter wi)
  (hg:∀C s₀ H₀ fp pins,PG (fX X N' scope cl C s₀ H₀ fp pins) tgt g) (ht:∀C s₀ H₀ fp pins,rk (fX X N' scope cl C s₀ H₀ fp pins) ifs tt) (he:∀C s₀ H₀ fp pins,PE (fX X N' scope cl C s₀ H₀ fp pins) elt te)
  (hs:∀x,foldedSetIterable iter X.env x=pure x:=by intro _;rfl):PE X (.ListComp elt [⟨tgt,iter,ifs,0⟩] scope pos) (kT src wi g tt te):=by
 intro pins s σ H Q I h;rw[eval_ListComp];refine wpAny_comprehension_free (use:=none) rfl hs ok.mF.mF ok.kind ok.names (aQ (hi pins s σ H _ I h) λv s1 h1=>aQ h1 λitv s2 h2=>?_);obtain⟨it,fp,tn,J,H2,e,I2,T,st2,f2,rd⟩:=h2;subst e;refine OE (RQ:=λD H'=>Q (.ref D) H') (RR:=λacc C=>compPost (model X.prog X.w) X.A X.xe none (EP X pins σ Q) acc C) (λ_ _ _=>T.PM rfl rfl rfl hc) ok hg ht he I2 T st2 f2 rd ?_;intro D C H' s' m J hn hC q;obtain⟨c0,c1,_,c3,c4,c5⟩:=hC;exact⟨m,hn,λh' sb=>⟨.ref D,H',J.turned (t':=s'.toks) (λb o hb e=>(sb.2 b hb).trans e) c0 c1 c3 c4 c5,rfl,q⟩⟩
theorem mR{i:Nat}{y:Str}{py spos:Pos}(hN:X.N.Nodup)(hy:X.N[i]? = some y)(hly:Loc X.env.scope y)(hc:X.calm=true)(ok:cK X N' scope cl src)(hi:PI X tgt iter wi)
  (hg:∀C s₀ H₀ fp pins,PG (fX X N' scope cl C s₀ H₀ fp pins) tgt g) (ht:∀C s₀ H₀ fp pins,rk (fX X N' scope cl C s₀ H₀ fp pins) ifs tt) (he:∀C s₀ H₀ fp pins,PE (fX X N' scope cl C s₀ H₀ fp pins) elt te)
  (hsw:swapsWith (.ListComp elt [⟨tgt,iter,ifs,0⟩] scope pos) (some (.Name y py)) spos.line X.env=pure true:=by rfl)
  (hs:∀x,foldedSetIterable iter X.env x=pure x:=by intro _;rfl) (hf:X.fn y=true\/X.env.scope.names.lookup y=some .local:=by first | exact .inl rfl | exact .inr rfl | assumption) :
  PS X (.Assign [.Name y py] (.ListComp elt [⟨tgt,iter,ifs,0⟩] scope pos) spos) (mr (kT src wi g tt te) (jk i)):=by
 intro pins s σ H D0 I h;rw[exec_Assign_Name_used _ _ _ _ hsw];refine wg (wpAny_standAt (wg ?_))
 show wq _ X.A (do let _ <- comprehension (.ListComp elt [⟨tgt,iter,ifs,0⟩] scope pos) scope X.env _ (newList []) false (eval iter X.env) (some (assign (.Name y py) X.env))) _ _ s
 refine wg (Ws (wpAny_comprehension_free (Q:=λ_ s'=>SP X pins D0 .next s') rfl hs ok.mF.mF ok.kind ok.names (aQ (hi pins s σ H _ I h) λv s1 h1=>aQ h1 λitv s2 h2=>?_))
  (λ_ s' hq=>wt (wt hq)) λ_ _ e=>e)
 obtain⟨it,fp,tn,J,H2,e,I2,T,st2,f2,rd⟩:=h2;subst e;refine OE (RQ:=λD H'=>jk i (.ref D) σ H' D0.nx) (RR:=λacc C=>compPost (model X.prog X.w) X.A X.xe (some (assign (.Name y py) X.env)) (λ_ s'=>SP X pins D0 .next s') acc C) (λ_ _ _=>T.PM rfl rfl rfl hc) ok hg ht he I2 T st2 f2 rd ?_;intro D C H' s' m J hn hC q;obtain⟨c0,c1,_,c3,c4,c5⟩:=hC
 show wq _ _ (assign (.Name y py) X.env (.ref D)) _ _ s'
 refine wpAny_assign_Name (SU J hN hy hly (v:=.ref D) rfl (λs'' J2 ⟨a,sb,ha⟩=>?_) hf)
 have hCa:C≠a:=by
  rcases ha with z | z
  ·rw[z];exact c1
  ·exact(c4 y a z).symm
 exact⟨m,hn.sameBut sb hCa,λh' sb'=>⟨_,H',J2.turned (t':=s''.toks) (λb o hb e=>(sb'.2 b hb).trans e) c0 c1 c3 c4 c5,q⟩⟩
end
variable{T b:wf}
abbrev OH(h B:wJ)(e:wf)(cls:Value):Prop :=
 ∃oe vs,h.get? e=some oe/\oe.cls=cls/\oe.data=.fields vs/\vs[1]? = some .none/\vs[2]? = some .none/\oe.dict=none/\B.get? e=none
abbrev Nt(h B:wJ)(e:wf)(cls fl:Value):Prop :=
 ∃oe vs T oT ts,h.get? e=some oe/\oe.cls=cls/\oe.data=.fields vs/\vs[1]? = some (.ref T)/\vs[2]? = some .none/\oe.dict=none/\B.get? e=none/\B.get? T=none/\T≠e/\h.get? T=some oT/\oT.data=.fields ts/\ts[3]? = some fl
structure fM(B:wJ)(l:List Env)(e:wf)(cls fl:Value)(h:wJ):Prop where
 st:B.StaysIn h
 fr:h.FunFrames B l
 tr:Nt h B e cls fl
theorem zty{f:Array Value->Array Value}(o:Obj):(qL f o).dict=o.dict:=by
 obtain⟨c,d,dt,sl⟩:=o;cases dt<;>rfl
theorem mH{h:wJ}{f:Obj->Obj}(n:b≠T):(h.update T f).get? b=h.get? b:=qJ _ _ (Wr n)
theorem nW{h:wJ}{oT o:Obj}{ts:Array Value}(hT:h.get? T=some oT)(dT:oT.data=.fields ts)(hb:h.get? b=some o)(hn:∀vs,o.data≠.fields vs):b≠T:=by
 rintro rfl;rw[hT]at hb;cases hb;exact hn _ dT
theorem F8{B:wJ}{o:Obj}(n:B.get? T=none)(q:B.get? b=some o):b≠T:=by
 rintro rfl;rw[n]at q;cases q
section
variable{M:Model}{A:Around}{E:Value->Shared->Prop}{s:Shared}{B:wJ}{l outer:List Env}{env:Env}{L e:wf}{cls fl:Value}{Q:Unit->Shared->Prop}
theorem fM.land(F:fM B l e cls fl s.heap)(k:∀h',fM B l e cls .none h'->s.heap.UpToSlots h'->Q () {s with heap:=h'}):wq M A (setFlight (.ref e) none) Q E s:=by
 obtain⟨st,fr,oe,vs,T,oT,ts,he,hc,hd,h1,h2,hdi,be,bT,ne,hT,dT,h3⟩:=F;have sz:3<ts.size:=(WC.mp h3).1;unfold setFlight;refine wg (vi he hd h1 ?_);rw[if_pos (by simp)];have at3:∀b,b≠T->(s.heap.update T (qL (·.setIfInBounds 3 Value.none))).get? b=s.heap.get? b:=λb n=>mH n
 have tr:Nt (s.heap.update T (qL (·.setIfInBounds 3 Value.none))) B e cls .none :=
  ⟨oe,vs,T,qL (·.setIfInBounds 3 Value.none) oT,ts.setIfInBounds 3 Value.none,(at3 e ne.symm).trans he,hc,hd,h1,h2,hdi,be,bT,ne,
   VW _ hT (V0 (VN dT _)),VN dT _,by simp[sz]⟩
 refine wpAny_setField hT dT sz (k _ ⟨λb o q=>(at3 b (F8 bT q)).trans (st b o q),fr.of_keeps λb o hb hn=>⟨o,(at3 b (nW hT dT hb hn)).trans hb,rfl⟩,tr⟩ λb o hb hn=>⟨o.slots,(at3 b (nW hT dT hb hn)).trans hb⟩)
theorem Yv{oe:Obj}{vs:Array Value}{head:Value}{had:Bool}(hfr:A.frames=some (env::outer))(hf:env.frame=some L)(st:B.StaysIn s.heap)(fr:s.heap.FunFrames B (env::outer))(he:s.heap.get? e=some oe)
  (hd:oe.data=.fields vs) (sz:1<vs.size) (h2:vs[2]? = some .none) (hdi:oe.dict=none) (be:B.get? e=none) (k:∀h',fM B (env::outer) e oe.cls (Vm L) h'->s.heap.UpToSlots h'->Q () {s with heap:=h'}) :
  wq M A (do let a <- frameOf env;let pl <- entryPlaceOf L had;let b <- xz head a .none (Vm L) .none pl;setField (.ref e) 1 b) Q E s:=by
 have nfr:e ∉ (env::outer).filterMap (·.frame):=λz=>by
  obtain⟨_,o,ho,hnf⟩:=fr.mem z;rw[he]at ho;cases ho;exact hnf vs hd
 refine wg (wpAny_frameOf_fun hfr fr hf λg sg=>wg (wpAny_entryPlaceOf λpl hpl=>?_));unfold xz newFields;refine wg (Wt ?_ (hpl.sizeOk5 _ _ _ _ _));have eg:g.get? e=some oe:=(sg.2.1 e nfr).trans he
 have stg:B.StaysIn g:=λb o q=>by
  rw[sg.2.1 b λz=>?_]
  ·exact st b o q
  ·rw[(fr.mem z).1]at q;cases q
 generalize hob:({cls:=.type "traceback",data:=.fields ([head,.ref L,.none,Vm L,.none]++(if pl.isEmpty then w8 6 Value.none else pl)).toArray} : Obj)=tb;have dtb:tb.data=.fields ([head,.ref L,.none,Vm L,.none]++(if pl.isEmpty then w8 6 Value.none else pl)).toArray:=by rw[<- hob]
 have ftb:tb.isFreed=false:=V0 dtb;have e2:=wm (h:=g) tb eg;have neT:g.objs.size≠e:=vc (wA eg)
 have at3:∀b o,b≠e->g.get? b=some o->((g.push tb).update e (qL (·.setIfInBounds 1 (.ref g.objs.size)))).get? b=some o:=λb o n q=>by
  rw[mH n];exact wm _ q
 refine wpAny_setField e2 hd sz (k _ ?_ ?_)
 ·have d3:=VN hd (·.setIfInBounds 1 (Value.ref g.objs.size))
  refine⟨λb o q=>at3 b o (F8 be q) (stg b o q),fr.of_keeps λb o hb hn=>?_,_,_,g.objs.size,tb,_,VW _ e2 (V0 d3),Xc _ _,d3,by simp[sz],?_,?_,be,stg.fresh,neT,?_,dtb,?_⟩
  ·obtain⟨sl,q⟩:=sg.2.2 b o hb
   exact⟨_,at3 b _ (nW he hd hb hn) q,rfl⟩
  ·rw[Array.getElem?_setIfInBounds_ne (by decide)];exact h2
  ·exact(zty oe).trans hdi
  ·rw[mH neT];exact wN _ ftb
  ·first | (simp;done) | (rcases hpl with rfl | ⟨_,_,_,_,_,_,_,rfl⟩<;>simp)
 ·exact λb o hb hn=>by
   obtain⟨sl,q⟩:=sg.2.2 b o hb;exact⟨sl,at3 b _ (nW he hd hb hn) q⟩
theorem zxd(hfr:A.frames=some (env::outer))(hf:env.frame=some L)(st:B.StaysIn s.heap)(fr:s.heap.FunFrames B (env::outer))(t:OH s.heap B e cls)
  (k:∀h',fM B (env::outer) e cls (Vm L) h'->s.heap.UpToSlots h'->Q () {s with heap:=h'}):wq M A (noteFrame (.ref e) env) Q E s:=by
 obtain⟨oe,vs,he,hc,hd,h1,h2,hdi,be⟩:=t;subst hc;unfold noteFrame;simp only[hf];refine wg (vi he hd h1 ?_);rw[if_neg (by decide)];exact Yv hfr hf st fr he hd (WC.mp h1).1 h2 hdi be k
theorem fM.note(F:fM B (env::outer) e cls .none s.heap)(hfr:A.frames=some (env::outer))(hf:env.frame=some L)
  (k:∀h',fM B (env::outer) e cls (Vm L) h'->s.heap.UpToSlots h'->Q () {s with heap:=h'}):wq M A (noteFrame (.ref e) env) Q E s:=by
 obtain⟨st,fr,oe,vs,T,oT,ts,he,hc,hd,h1,h2,hdi,be,bT,ne,hT,dT,h3⟩:=F;subst hc;unfold noteFrame;simp only[hf];refine wg (vi he hd h1 ?_);rw[if_pos (by simp)];refine wg (vi hT dT h3 ?_);rw[if_neg (by simp[Vm])];refine wg (wpAny_setField hT dT (WC.mp h3).1 ?_);refine Yv hfr hf (λb o q=>?_) (fr.of_keeps λb o hb hn=>⟨o,?_,rfl⟩) ?_ hd (WC.mp h1).1 h2 hdi be λh' F' sm=>k h' F' λb o hb hn=>sm b o ?_ hn
 ·show(Q4 _ _ _).get? b=_
  rw[mH (F8 bT q)];exact st b o q
 ·show(Q4 _ _ _).get? b=_
  rw[mH (nW hT dT hb hn)];exact hb
 ·show(Q4 _ _ _).get? e=_
  rw[mH ne.symm];exact he
 ·show(Q4 _ _ _).get? b=_
  rw[mH (nW hT dT hb hn)];exact hb
theorem zuZ(hfr:A.frames=some (env::outer))(hf:env.frame=some L)(st:B.StaysIn s.heap)(fr:s.heap.FunFrames B (env::outer))(t:OH s.heap B e cls)
  (k:∀h',fM B outer e cls .none h'->s.heap.UpToSlots h'->Q () {s with heap:=h'}):wq M A (leaving env (.ref e)) Q E s:=by
 unfold leaving;refine wg (zxd hfr hf st fr t λh1 F1 s1=>fM.land F1 λh2 F2 s2=>k h2 ⟨F2.st,F2.fr.2.2,F2.tr⟩ (s1.trans s2))
theorem fM.leave(F:fM B (env::outer) e cls .none s.heap)(hfr:A.frames=some (env::outer))(hf:env.frame=some L)
  (k:∀h',fM B outer e cls .none h'->s.heap.UpToSlots h'->Q () {s with heap:=h'}):wq M A (leaving env (.ref e)) Q E s:=by
 unfold leaving;refine wg (F.note hfr hf λh1 F1 s1=>fM.land F1 λh2 F2 s2=>k h2 ⟨F2.st,F2.fr.2.2,F2.tr⟩ (s1.trans s2))
end
theorem d7.there{P:wK}{w:wQ}{H:Hp}{h:wJ}{a:wf}{o:HO}(x:d7 P w H h a o):∃u,h.get? a=some u:=by
 cases o with
 | lst xs=>obtain⟨_,_,_,_,e⟩:=x;exact⟨_,e⟩
 | tup xs=>obtain⟨_,_,_,_,e,_⟩:=x;exact⟨_,e⟩
 | dK kvs=>obtain⟨_,_,_,_,o,_,_,e,_⟩:=x;exact⟨_,e⟩
 | dT kvs=>obtain⟨_,_,_,_,o,_,_,e,_⟩:=x;exact⟨_,e⟩
 | set S n=>obtain⟨o,_,_,_,e,_⟩:=x;exact⟨_,e⟩
 | ins C dx fs=>obtain⟨_,_,_,e,_⟩:=x;exact⟨_,e⟩
 | own y=>exact x
 | xd fs=>obtain⟨_,⟨_,_,_,e,_⟩,_⟩:=x;exact⟨_,e⟩
 | AI lo hi=>obtain⟨_,_,_,e⟩:=x;exact⟨_,e⟩
 | hZ ob u=>obtain⟨e,_⟩:=x;exact⟨_,e⟩
 | lP ps=>exact⟨_,x⟩
 | met f y=>exact⟨_,x⟩
 | ext φ=>obtain⟨_,e,_⟩:=x;exact e
structure oN(B:wJ)(fs:List wf)(H H':Hp)(h:wJ):Prop where
 jL:∀a o,H' a=some o->∃u,B.get? a=some u
 old:∀b o,h.get? b=some o->H b=none->b ∉ fs->B.get? b=some o
 rK:∀b o,h.get? b=some o->b ∉ fs->∃u,B.get? b=some u
def fU(P:wK)(w:wQ):gL:=λouter H s E e s'=>∃(ex:wf)(C:Value)(H':Hp)(B:wJ),e=.ref ex/\s'.os=s.os/\AllBare s'.gens/\Un (eK outer) [] H H' s.heap s'.heap/\dE P w H' s'.heap /\
 fM B outer ex C .none s'.heap/\oN B (eK outer) H H' s.heap/\E C none H'
section
variable{B h h1 h':wJ}{fs:List wf}{H H':Hp}{P:wK}{w:wQ}
theorem oN.un(ov:oN B fs H H' h)(un:Un fs [] H H' h h1)(hfs:∀b∈fs,H b=none /\ ∃o,h.get? b=some o /\ ∀vs,o.data≠.fields vs)(st:B.StaysIn h')(sm:h1.UpToSlots h'):Un fs [] H H' h h':=by
 have slot:∀b o,h.get? b=some o->b∈fs->∃sl,h'.get? b=some {o with slots:=sl}:=λb o e hb=>by
  obtain⟨n,o',ho',nr⟩:=hfs b hb;rw[e]at ho';cases ho';obtain⟨sl,e1⟩:=un.any e n (by simp);obtain⟨sl2,e2⟩:=sm b _ e1 nr;exact⟨sl2,e2⟩
 refine⟨λb o e n nf _=>st b o (ov.old b o e n nf),λb o e _ hb _=>slot b o e hb,un.free,λb o e _=>?_,un.ji,un.iJ,un.jg⟩
 by_cases hb:b∈fs
 ·obtain⟨sl,e1⟩:=slot b o e hb
  exact⟨_,e1⟩
 ·obtain⟨u,e1⟩:=ov.rK b o e hb
  exact⟨u,st b u e1⟩
theorem oN.aO(ov:oN B fs H H' h)(aO:dE P w H' h1)(st1:B.StaysIn h1)(st:B.StaysIn h'):dE P w H' h':=λa o e=>by
 refine(aO a o e).k_ (λb u hb r=>?_) (λ_ z=>z) λ_ _ z=>z
 have:∃v,B.get? b=some v:=by
  rcases hb with rfl | hb
  ·exact ov.jL _ _ e
  ·exact ov.jL _ _ hb
 obtain⟨v,ev⟩:=this;have e2:=st1 b v ev;rw[r]at e2;cases e2;exact st b u ev
end
section
variable{X:Cx}{pins:List (wf × Obj)}{σ : St}{H H':Hp}{s s':Shared}{B:wJ}{ex:wf}{C:Value}{E:XK}{E':Value->Shared->Prop}
theorem Pr(I:Inv X pins σ H s)(hx:X.ex=[])(os:s'.os=s.os)(bare:AllBare s'.gens)(un:Un (eK X.stack) [] H H' s.heap s'.heap)(aO:dE X.prog X.w H' s'.heap)(stB:B.StaysIn s'.heap)(ov:oN B (eK X.stack) H H' s.heap)
  (q:E C none H') (fly:∀(Q:Unit->Shared->Prop),(∀h',fM B X.outer ex C .none h'->s'.heap.UpToSlots h'->Q () {s' with heap:=h'})->wq (model X.prog X.w) X.A (leaving X.env (.ref ex)) Q E' s') :
  wq (model X.prog X.w) X.A (leaving X.env (.ref ex)) (λ_ s''=>fU X.prog X.w X.outer X.H₀ X.s₀ E (.ref ex) s'') E' s':=by
 have base:Un X.fs [] X.H₀ H X.s₀.heap s.heap:=by have:=I.base;rwa[hx]at this
 have nL:∀b o,X.s₀.heap.get? b=some o->b ∉ X.fs->b ∉ eK X.stack:=λb o e n z=>by
  rcases wH.mp (I.nS b z)with r | r
  ·exact wO (wV (wA e) I.ok.above) r
  ·exact n r
 have old:∀b o,X.s₀.heap.get? b=some o->X.H₀ b=none->b ∉ X.fs->B.get? b=some o:=λb o e n nf =>
  ov.old b o (base.keep b o e n nf (by simp)) (base.free b o e n (by simp)) (nL b o e nf)
 have rK:∀b o,X.s₀.heap.get? b=some o->b ∉ X.fs->∃u,B.get? b=some u:=λb o e nf=>by
  obtain⟨o',e1⟩:=base.there b o e (by simp);exact ov.rK b o' e1 (nL b o e nf)
 refine fly _ λh' F sm=>⟨ex,C,H',B,rfl,os.trans I.os,bare,⟨λb o e n nf _=>F.st b o (old b o e n nf),λb o e n hb _=>?_,λb o e n _=>?_,λb o e _=>?_,λb xs e=>un.ji b xs (base.ji b xs e),
  λb o u e=>un.iJ b o u (base.iJ b o u e),λb ps e=>?_⟩,λa o e=>?_,F,⟨ov.jL,old,rK⟩,q⟩
 ·obtain⟨sl,e1⟩:=base.slot b o e n hb (by simp)
  obtain⟨sl',e2⟩:=un.any e1 (base.free b o e n (by simp)) (by simp);obtain⟨_,o',ho',nr⟩:=I.ok.fJ.mem hb;rw[e]at ho';cases ho';obtain⟨sl2,e3⟩:=sm b _ e2 nr;exact⟨sl2,e3⟩
 ·obtain⟨o',e1⟩:=base.there b o e (by simp)
  exact un.free b o' e1 (base.free b o e n (by simp)) (by simp)
 ·by_cases hb:b∈X.fs
  ·obtain⟨_,o',ho',nr⟩:=I.ok.fJ.mem hb
   rw[e]at ho';cases ho';have n:X.H₀ b=none:=I.ok.j9 b hb;obtain⟨sl,e1⟩:=base.slot b o e n hb (by simp);obtain⟨sl',e2⟩:=un.any e1 (base.free b o e n (by simp)) (by simp);obtain⟨sl2,e3⟩:=sm b _ e2 nr;exact⟨_,e3⟩
  ·obtain⟨u,e1⟩:=rK b o e hb
   exact⟨u,F.st b u e1⟩
 ·obtain⟨m1,e1⟩:=base.jg b ps e
  obtain⟨m2,e2⟩:=un.jg b _ e1;exact⟨m1++m2,by rw[e2,xH]⟩
 ·refine(aO a o e).k_ (λb u hb r=>?_) (λ_ z=>z) λ_ _ z=>z
  have:∃v,B.get? b=some v:=by
   rcases hb with rfl | hb
   ·exact ov.jL _ _ e
   ·exact ov.jL _ _ hb
  obtain⟨v,ev⟩:=this;have e2:=stB b v ev;rw[r]at e2;cases e2;exact F.st b u ev
theorem zw1{e:Value}(I:Inv X pins σ H s)(hx:X.ex=[])(hs:X.stack=X.env::X.outer)(hf:X.env.frame=some X.env.locals)(h:fU X.prog X.w X.stack H s E e s') :
  wq (model X.prog X.w) X.A (leaving X.env e) (λ_ s''=>fU X.prog X.w X.outer X.H₀ X.s₀ E e s'') E' s':=by
 obtain⟨ex,C,H',B,rfl,os,bare,un,aO,F,ov,q⟩:=h;rw[hs]at F;exact Pr I hx os bare un aO F.st ov q λQ k=>F.leave (I.ok.frames.trans (congrArg some hs)) hf k
theorem zt6{h':wJ}{vs:List Value}(I:Inv X pins σ H s)(hx:X.ex=[])(hs:X.stack=X.env::X.outer)(hf:X.env.frame=some X.env.locals)(m:X1 s.heap h' ex C vs)(q:E C none H) :
  wq (model X.prog X.w) X.A (leaving X.env (.ref ex)) (λ_ s''=>fU X.prog X.w X.outer X.H₀ X.s₀ E (.ref ex) s'') E' {s with heap:=h'}:=by
 obtain⟨B,hB⟩:∃B,B=XD s.heap (eK X.stack):=⟨_,rfl⟩;have hin:∀env∈X.stack,∀b,env.frame=some b->b∈eK X.stack:=λenv he b hb=>Qc.mpr ⟨env,he,hb⟩
 have frB:s.heap.FunFrames B X.stack:=by rw[hB];exact PySem.W.funFrames_hide I.stack hin
 have getB:∀{b o},s.heap.get? b=some o->b ∉ eK X.stack->B.get? b=some o:=λe n=>by rw[hB];exact xv _ e n
 have ofB:∀{b o},B.get? b=some o->s.heap.get? b=some o:=λr=>by rw[hB]at r;exact xG _ r
 have nfr:∀a o,H a=some o->a ∉ eK X.stack:=λa o e z=>by
  have:=I.tV a z;rw[e]at this;cases this
 obtain⟨t,he,_,_⟩:=m.there
 refine Pr (B:=B) (s':={s with heap:=h'}) I hx rfl I.bare (Un.kept m.keeps) (I.aO.kept m.keeps) (λb o r=>m.keeps b o (ofB r))
  ⟨λa o e=>?_,λb o e _ nf=>getB e nf,λb o e nf=>⟨o,getB e nf⟩⟩ q λQ k=>?_
 ·obtain⟨u,e1⟩:=(I.aO a o e).there
  exact⟨u,getB e1 (nfr a o e)⟩
 ·rw[hs]at frB
  refine zuZ (s:={s with heap:=h'}) (I.ok.frames.trans (congrArg some hs)) hf (λb o r=>m.keeps b o (ofB r)) (frB.of_keeps λb o hb _=>⟨o,m.keeps b o hb,rfl⟩) ⟨_,_,he,rfl,rfl,rfl,rfl,rfl,?_⟩ k;cases z:B.get? ex with
  | none=>rfl
  | some o =>
   have:=ofB z;rw[m.new]at this;cases this
end
variable{K:wa}{base:wJ}{qual:Str}
theorem CY{P:wK}{w:wQ}{mg:Str->Option Value}{N:List Str}{scope:Scope}{f:wf}{cd:Value}{A:Around}{outer:List Env}{s:Shared}{H:Hp}{E:XK} :
  m_ (fU P w) (jH (fU P w) P w K mg base N qual scope f cd A outer s H E) E:=λpins σ H1 s1 e s' I h=>zw1 I rfl rfl rfl h
def TU(X:Cx)(C:Value)(E:XK):Prop:=∀(pins:List (wf × Obj))(σ : St)(H:Hp)(s:Shared)(h':wJ)(ex:wf)(vs:List Value),Inv X pins σ H s->X1 s.heap h' ex C vs->E C none H->X.xe (.ref ex) {s with heap:=h'}
theorem Nu{P:wK}{w:wQ}{mg:Str->Option Value}{N:List Str}{scope:Scope}{f:wf}{cd C:Value}{A:Around}{outer:List Env}{s:Shared}{H:Hp}{E:XK} :
  TU (jH (fU P w) P w K mg base N qual scope f cd A outer s H E) C E:=λpins σ H1 s1 h' ex vs I m q=>zt6 I rfl rfl rfl m q
def sy:List Value:=[.type "ValueError",.type "Exception",.type "BaseException",.type "object"]
theorem zAu{h:wJ}{C:wf}{bmB:List Value}{newId:String}(X:K.In h)(q:VJ K C bmB newId=true) :
  ∃bm N nm qn bs hd sn sub ab col dd k0 k1 k2 k3 k5 mN,h.get? C=some (excClassObj nm qn C N bs bm hd sn sub ab col dd k0 k1 k2 k3 k5 newId)/\h.Ns N mN/\mN "__init__"=none/\OwnTail h bmB bm:=by
 unfold VJ at q
 split at q
 case h_2=>cases q
 rename_i dd cd sl ho
 split at q
 case h_2=>cases q
 rename_i C' bm k0 k1 k2 k3 n k5 hm hs;simp only[wT,beq_iff_eq,WQ]at q;obtain⟨⟨⟨⟨⟨rfl,rfl⟩,hdel⟩,ht⟩,aO⟩,hni⟩:=q;obtain⟨nm,bs,mro,ns,qn,hd,sn,sub,ab,col,del⟩:=cd;dsimp only at hm hdel aO hni;subst hm hdel
 have e:sl = #[k0,k1,k2,k3,some (.builtin n),k5]:=by
  cases sl;simp only at hs;rw[hs]
 subst e;exact⟨bm,ns,nm,qn,bs,hd,sn,sub,ab,col,dd,k0,k1,k2,k3,k5,_,X _ _ ho,.of_isNs (PySem.W.isNs_of_in X aO),PySem.W.nsMap_none_of_in X aO hni,PySem.W.tail_of_in X ht⟩
section
variable{X:Cx}{x:Str}{C:wf}{E:XK}{e:Expr}{es:List Expr}{t:TA}{np cpos pos:Pos}
def Sa(C:Value)(E:XK)(t:TA):TS:=λ_ σ H=>t σ H λvs H1=>vs.length<=wX/\E C none H1
theorem OL(q:VJ X.K C sy "ValueError.__new__"=true)(hc:X.calm=true)(hg:Gl X x)(hm:X.mg x=some (.ref C))(Z:TU X (.ref C) E)(ha:PA X (e::es) t)(hdb:(x == ("__debug__" : Str))=false:=by decide)
  (he:wR (e::es) X.env=(false,eval e X.env)::wR es X.env:=by rfl) (hpl:(backTo cpos (wR es X.env)).any (·.1)=false:=by rfl) :
  PS X (.Raise (some (.Call (.Name x np) (e::es) [] cpos)) none pos) (Sa (.ref C) E t):=by
 intro pins s σ H D I h;obtain⟨bm,N,nm,qn,bs,hd,sn,sub,ab,col,dd,k0,k1,k2,k3,k5,mN,hC,hN,hni,T⟩:=zAu I.ok.mod.rL q
 refine wpAny_Raise_call_subU (C:=C) (nm:=nm) (q:=qn) (N:=N) (bs:=bs) (bm:=bm) (hdct:=hd) (sn:=sn) (sub:=sub) (ab:=ab) (col:=col) (dd:=dd) (k0:=k0) (k1:=k1) (k2:=k2) (k3:=k3) (k5:=k5)
  xp (by decide) xp (mN:=mN) (T.hasType (by decide)) (I.ok.hd hc) (by rw[he];show(false || (backTo cpos (wR es X.env)).any (·.1))=false;rw[hpl];rfl) hni (oD I hg hm ⟨rfl,?_⟩ hdb)
 have ha':=ha cpos pins s σ H _ I h;rw[he]at ha' ⊢;refine xm (Ws ha' (λus s2 ⟨vs,H2,I2,r,z,q2⟩=>⟨rfl,by rw[<- r.length];exact z,I2.bk _ _ hC,hN.keeps I2.bk,T.keeps I2.bk,λh' ex m=>Z pins σ H2 s2 h' ex us I2 m q2⟩) λ_ _ y=>y)
end
abbrev Cx.at(X:Cx)(pn:List (wf × Obj))(E:Value->Shared->Prop):Cx:={X with pn:=pn,xe:=E}
abbrev Cx.tZ(X:Cx)(pn:List (wf × Obj))(ex:wf)(oe:Obj):Cx:={X with pn:=pn++[(ex,oe)],xe:=λ_ _=>False,A:=X.A.mark (some (.ref ex)),calm:=false}
section
variable{X:Cx}{pins pins':List (wf × Obj)}{σ : St}{H:Hp}{s:Shared}{ex:wf}{oe:Obj}
theorem Inv.Zd(I:Inv X pins σ H s)(E:Value->Shared->Prop):Inv (X.at (X.pn++pins) E) [] σ H s :=
 ⟨⟨I.ok.mod,I.ok.kind,I.ok.glob,I.ok.blt,I.ok.above,I.ok.inj,I.ok.has,I.ok.lZ,I.ok.hd,I.ok.frames,I.ok.mJ,I.ok.tK,I.ok.bs,I.ok.jm,I.ok.lg,I.ok.mE,I.ok.fJ,I.ok.j9⟩,I.os,I.bare,I.base,I.loc,I.cell,I.free,I.gP,
  λp hp=>I.pin p (by rw[vW]at hp;exact hp),I.aO,I.len⟩
theorem Inv.p9{E:Value->Shared->Prop}(I:Inv (X.at (X.pn++pins) E) pins' σ H s):Inv X pins σ H s :=
 ⟨⟨I.ok.mod,I.ok.kind,I.ok.glob,I.ok.blt,I.ok.above,I.ok.inj,I.ok.has,I.ok.lZ,I.ok.hd,I.ok.frames,I.ok.mJ,I.ok.tK,I.ok.bs,I.ok.jm,I.ok.lg,I.ok.mE,I.ok.fJ,I.ok.j9⟩,I.os,I.bare,I.base,I.loc,I.cell,I.free,I.gP,
  λp hp=>I.pin p (WO _ hp),I.aO,I.len⟩
theorem Inv.Y_(I:Inv X pins σ H s)(he:s.heap.get? ex=some oe)(hn:H ex=none)(nl:ex≠X.env.locals)(nf:ex ∉ X.fs)(nc:∀v,oe.data≠.cell v):Inv (X.tZ (X.pn++pins) ex oe) [] σ H s :=
 ⟨⟨I.ok.mod,I.ok.kind,I.ok.glob,I.ok.blt,I.ok.above,I.ok.inj,I.ok.has,I.ok.lZ,λz=>Bool.noConfusion z,I.ok.frames,I.ok.mJ,I.ok.tK,I.ok.bs,I.ok.jm,I.ok.lg,I.ok.mE,I.ok.fJ,I.ok.j9⟩,I.os,I.bare,I.base,I.loc,I.cell,I.free,I.gP,
  λp hp=>by
   rw[vW]at hp;rcases vb.mp hp with z | z
   ·exact I.pin p z
   ·cases wI.mp z
    exact⟨he,hn,nl,nf,nc⟩,I.aO,I.len⟩
theorem Inv.tY(ok:X.Ok)(I:Inv (X.tZ (X.pn++pins) ex oe) pins' σ H s):Inv X pins σ H s :=
 ⟨ok,I.os,I.bare,I.base,I.loc,I.cell,I.free,I.gP,λp hp=>I.pin p (WO _ (WO _ hp)),I.aO,I.len⟩
end
def Mc(CX:gL)(X:Cx)(W:St->XK):Prop:=∀(pins:List (wf × Obj))(σ : St)(H:Hp)(s:Shared)(e:Value)(s':Shared),Inv X pins σ H s->CX X.stack H s (W σ) e s'->X.xe e s'
def BK(sp:Sp)(W:St->XK)(t:TA):TE:=λσ H Q=>t σ H λvs H1=>sp vs H1 Q (W σ)
section
variable{X:Cx}{CX:gL}{k:Nat}{f:wf}{fd:wx}{ps:List Str}{sp:Sp}{W:St->XK}{x:Str}{p pos:Pos}{e:Expr}{es:List Expr}{t:TA}
theorem zzF(F:aI X.prog X.w X.K X.mg X.base CX k f fd ps sp)(hr:eJ k X.A)(hg:Gl X x)(hm:X.mg x=some (.ref f))(hk:VU X.K (.ref f)=true)(hb:lJ X.K fd ps [])(hx:Mc CX X W)
  (ha:PA X (e::es) t) (hdb:(x == ("__debug__" : Str))=false:=by decide) (he:wR (e::es) X.env=(false,eval e X.env)::wR es X.env:=by rfl) (hpl:(backTo pos (wR es X.env)).any (·.1)=false:=by rfl) :
  PE X (.Call (.Name x p) (e::es) [] pos) (BK sp W t):=by
 intro pins s σ H Q I h;refine VO (oD I hg hm ?_ hdb);refine xI (h₀:=X.base) I.ok.mod.rL hk (aQ (ha pos pins s σ H _ I h) λus s1 ⟨vs,H1,I1,r,q⟩=>⟨I1.d5,?_⟩) he hpl;have hl:us.length=ps.length:=by rw[<- r.length];exact F.len _ _ _ _ q
 have hbd:BindsTo s1 fd ⟨us,[]⟩ (ps.zip us):=by simpa using hb s1 us I1.d5 (by simpa using hl)
 refine wpAny_call (codeAny_mono (F.run X.A X.stack s1 H1 ⟨us,[]⟩ us vs Q (W σ) hr I1.KU hbd r q) λr s' hq=>?_);cases r with
 | error e=>exact hx pins σ H1 s1 e s' I1 hq
 | ok fl =>
  cases fl with
  | ret u=>exact I1.after hq
  | next=>exact WB hq
  | brk=>exact WB hq
  | cont=>exact WB hq
end
structure N1(C:Value)(oe:Obj):Prop where
 cls:oe.cls=C
 fld:∃vs,oe.data=.fields vs/\vs[2]? = some .none
 dict:oe.dict=none
section
variable{X:Cx}{x n:Str}{G:Value}{i:Nat}{b₀ : wU}{body suite:List wU}{np hpos pos:Pos}{tb:(St->XK)->TS}{th:wf->Value->TS}
end
structure Hd(X:Cx)(ex:wf)(C:Value)(oe:Obj):Prop where
 hd:X.A.handled=some (.ref ex)
 pn:(ex,oe)∈X.pn
 ob:N1 C oe
section
variable{P:wK}{w:wQ}{K:wa}{mg:Str->Option Value}{base:wJ}
end
section
variable{X:Cx}{k:Nat}{f:wf}{fd:wx}{ps:List Str}{sp:wf->Value->Sp}{x:Str}{p pos:Pos}{e:Expr}{es:List Expr}{t:TA}{ex:wf}{C:Value}{oe:Obj}
end
variable{scope:Scope}
def iQ(cells:List (Str × wf)):List (Str × WG)->List (Str × wf)->List (Str × wf)
 | [],acc=>acc
 | (n,k)::r,acc=>iQ cells r (if(k == NameKind.free)=true then(n,(cells.lookup n).getD 0)::acc else acc)
theorem zlU{env:Env}(h:∀y∈scope.names,y.2=.free->∃c,env.cells.lookup y.1=some c):closureFor scope env=pure (iQ env.cells scope.names []):=by
 unfold closureFor;generalize scope.names=names at h
 suffices g:∀(names:List (Str × WG))(acc:List (Str × wf)),(∀y∈names,y.2=.free->∃c,env.cells.lookup y.1=some c) ->
     (forIn names acc λ(x:Str × WG)(r:List (Str × wf))=>if(x.2 == NameKind.free)=true then do let c <- cellOf env x.1;pure (ForInStep.yield ((x.1,c)::r))else pure (ForInStep.yield r):Sem (List (Str × wf)))=pure (iQ env.cells names acc) by
   have:=g names [] h
   show(_ >>= pure)=_
   rw[bind_pure];exact this
 intro names
 induction names with
 | nil=>intro acc _;rfl
 | cons y r ih =>
   intro acc hy;obtain⟨n,k⟩:=y;rw[qj]
   by_cases e:(k == NameKind.free)=true
   . obtain⟨c,hc⟩:=hy (n,k) wB (beq_iff_eq.mp e)
     have hcell:cellOf env n=pure c:=by
       unfold cellOf;rw[hc]
     simp only[e,if_true,hcell,pure_bind];rw[ih _ λz hz=>hy z (wu _ hz)]
     show _=pure (iQ env.cells r _)
     simp only[e,if_true,hc,QC]
   . simp only[e,pure_bind]
     rw[if_neg (by simp),pure_bind];dsimp only;rw[ih _ λz hz=>hy z (wu _ hz)]
     show _=pure (iQ env.cells r _)
     rw[if_neg e]
theorem OA{cells:List (Str × wf)} : ∀(names:List (Str × WG))(acc:List (Str × wf))(x:Str)(c:wf),(∀y∈names,y.2=.free->∃c,cells.lookup y.1=some c)->(∀x c,acc.lookup x=some c->cells.lookup x=some c) ->
  (iQ cells names acc).lookup x=some c->cells.lookup x=some c
 | [],acc,x,c,_,ha,h=>ha x c h
 | (n,k)::r,acc,x,c,hy,ha,h=>by
  unfold iQ at h;refine OA r _ x c (λz hz=>hy z (wu _ hz)) (λx' c' h'=>?_) h
  split at h'
  ·rename_i e
   obtain⟨c0,hc0⟩:=hy (n,k) wB (beq_iff_eq.mp e);rw[V9]at h'
   split at h'
   ·rename_i e2
    rw[beq_iff_eq.mp e2,hc0];rw[hc0]at h';exact h'
   ·exact ha x' c' h'
  ·exact ha x' c' h'
theorem R8{cells:List (Str × wf)} : ∀(names:List (Str × WG))(acc:List (Str × wf))(x:Str),(∃c,acc.lookup x=some c)->∃c,(iQ cells names acc).lookup x=some c
 | [],acc,x,h=>h
 | (n,k)::r,acc,x,h=>by
  unfold iQ;refine R8 r _ x ?_
  split
  ·rw[V9]
   split
   ·exact⟨_,rfl⟩
   ·exact h
  ·exact h
theorem LD{cells:List (Str × wf)} : ∀(names:List (Str × WG))(acc:List (Str × wf))(x:Str),(x,NameKind.free)∈names->∃c,(iQ cells names acc).lookup x=some c
 | [],acc,x,h=>nomatch h
 | (n,k)::r,acc,x,h=>by
  unfold iQ;rcases wH.mp h with e | e
  ·cases e
   rw[if_pos (by decide)];refine R8 r _ _ ?_;rw[V9];simp
  ·exact LD r _ x e
theorem L0(g:Str->WG->WG):∀(names:List (Str × WG))(x:Str),(names.map λy=>(y.1,g y.1 y.2)).lookup x=(names.lookup x).map (g x)
 | [],x=>rfl
 | (n,k)::r,x=>by
  rw[w5,V9,V9];dsimp only
  by_cases e:(x == n)=true
  ·have e':=beq_iff_eq.mp e
   subst e';simp
  ·rw[Xy]at e
   simp only[e];exact L0 g r x
def AE(env:Env)(x:Str)(k:WG):WG:=if(k == .free&&env.scope.kind == .function&&env.kindOf x == some .cell)=true then .cell else k
theorem TV{env:Env}(x:Str):(relabel scope env).names.lookup x=(scope.names.lookup x).map (AE env x):=by
 rw[<- L0]
 show(scope.names.map _).lookup x=_
 congr 2
 funext ⟨n,k⟩
 dsimp only[AE]
 split<;>rfl
def Lx(inner outer:List (Str × WG))(N N':List Str)(src:List (Option Nat)):Bool :=
 (inner.all λy=>(y.2 != .cell)&&(y.2 != .local || inner.lookup y.1 == some .local)&&(y.2 != .free || outer.lookup y.1 == some .cell)) &&
 (N'.length == src.length)&&((N'.zip src).all λp=>match p.2 with
  | none=>true
  | some j=>N[j]? == some p.1&&outer.lookup p.1 == some .cell&&inner.lookup p.1 == some .free)
theorem cK.by{X:Cx}{N':List Str}{src:List (Option Nat)}(hk:scope.kind=.function)(hc:Lx scope.names X.env.scope.names X.N N' src=true)(hf:∀x,X.env.scope.names.lookup x=some .cell->∃c,X.env.cells.lookup x=some c:=by exact λx h=>Gn h) :
  cK X N' scope (iQ X.env.cells scope.names []) src:=by
 unfold Lx at hc;simp only[wT,vZ,beq_iff_eq,Bool.or_eq_true,bne_iff_ne,ne_eq]at hc;obtain⟨⟨h1,h2⟩,h3⟩:=hc;have fr:∀y∈scope.names,y.2=.free->∃c,X.env.cells.lookup y.1=some c:=λy hy e=>hf _ (((h1 y hy).2).elim (λz=>absurd e z) id)
 have at3:∀(i:Nat)(x:Str)(j:Nat),N'[i]? = some x->src[i]? = some (some j)->X.N[j]? = some x/\X.env.scope.names.lookup x=some .cell/\scope.names.lookup x=some .free:=λi x j e1 e2=>by
  have m:(x,some j)∈N'.zip src:=by
   rw[List.mem_iff_getElem?];exact⟨i,by rw[List.getElem?_zip_eq_some];exact⟨e1,e2⟩⟩
  have:=h3 _ m;simp only[wT,beq_iff_eq]at this;exact⟨this.1.1,this.1.2,this.2⟩
 refine⟨hk,λy hy=>((h1 y hy).1).1,λy hy e=>(((h1 y hy).1).2).elim (λz=>absurd e z) id,⟨zlU fr,λx c e=>OA _ _ x c fr (λ_ _ z=>by simp at z) e,λx e=>?_⟩,⟨h2,λi j x e1 e2=>⟨(at3 i x j e1 e2).1,(at3 i x j e1 e2).2.1⟩⟩,λi x e1 e2=>?_⟩
 ·rw[TV]at e
  cases q:scope.names.lookup x with
  | none=>rw[q]at e;simp at e
  | some k =>
   have hm:=WY q
   have hk:k=.free:=by
    rw[q]at e;simp only[XO,Qq,AE]at e;have nc:k≠.cell:=((h1 _ hm).1).1;rcases e with e | e
    ·split at e
     ·rename_i z;simp only[wT,beq_iff_eq]at z;exact z.1.1
     ·exact absurd e nc
    ·split at e
     ·cases e
     ·exact e
   subst hk;exact LD _ _ x hm
 ·obtain⟨o,ho⟩:∃o,src[i]? = some o:=by
   have:i<src.length:=by rw[<- h2];exact(wZ.mp e1).1
   exact⟨src[i],by simp[this]⟩
  cases o with
  | none=>exact absurd ho e2
  | some j =>
   have:=(at3 i x j e1 ho).2.2;rw[TV,this];simp only[XO,Qq,AE]
   split
   ·exact .inl rfl
   ·exact .inr rfl
section
variable{prog:wK}{w:wQ}{A:Around}{E:Value->Shared->Prop}{s:Shared}
end
section
variable{X:Cx}{ex:wf}{C:Value}{oe:Obj}{pins:List (wf × Obj)}{σ : St}{H:Hp}{s:Shared}{pos:Pos}
variable{tg l:Expr}{tl:TE}
variable{N':List Str}{scope:Scope}{cl:List (Str × wf)}{src:List (Option Nat)}{elt tgt iter:Expr}{ifs:List Expr}{wi:TI}{g:TG}{tt:TT}{te:TE}
end
def An(K:wa)(g:TG)(tt:TT)(te:TE)(src:List (Option Nat))(σ : St)(x:V)(H1:Hp)(Q:VK):Prop :=
 ∃a,x=.ref a/\(∃xs,aP K H1 a xs) /\ ∀D,H1 D=none->kA g tt te (jY K a) D (d9 src σ) (upd H1 D (.lst [])) (λH'=>Q (.ref D) H')
def yM(K:wa)(g:TG)(tt:TT)(te:TE)(src:List (Option Nat))(σ : St)(x:V)(H1:Hp)(Q:VK):Prop :=
 ∃a,x=.ref a/\(∃xs,bA K H1 a xs) /\ ∀D,H1 D=none->kA g tt te (jQ K a) D (d9 src σ) (upd H1 D (.lst [])) (λH'=>Q (.ref D) H')
def Dx(g:TG)(tt:TT)(te:TE)(src:List (Option Nat))(σ : St)(vs:List V)(H1:Hp)(Q:VK):Prop :=
 ∃j:Int,vs=[.int j] /\ -(2^62)<=j/\j<2^62 /\ ∀D,H1 D=none->kA g tt te (h_ 0 j.toNat) D (d9 src σ) (upd H1 D (.lst [])) (λH'=>Q (.ref D) H')
section
variable{K:wa}{g:TG}{tt:TT}{te ta:TE}{tA:TA}{src:List (Option Nat)}{σ : St}{H:Hp}{Q:VK}{a:wf}{xs:List V}{n:Int}
theorem zyJ(h:ta σ H λx H1=>An K g tt te src σ x H1 Q):kT src (C_ K ta) g tt te σ H Q:=h
theorem zyD(h:ta σ H λx H1=>yM K g tt te src σ x H1 Q):kT src (O1 K ta) g tt te σ H Q:=h
theorem zyO(h:tA σ H λvs H1=>Dx g tt te src σ vs H1 Q):kT src (DM tA) g tt te σ H Q:=h
def tF(Pv:wf->Nat->List V->St->Hp->Prop)(D:wf)(i:Nat)(σ3:St)(y:V)(H5:Hp):Prop :=
 ∃ys,H5 D=some (.lst ys)/\ys.length<wX /\ ∃ys',Pv D (i+1) ys' σ3 (upd H5 D (.lst (ys++[y])))
def jb(Pv:wf->Nat->List V->St->Hp->Prop)(g:TG)(tt:TT)(te:TE)(D:wf)(i:Nat)(x:V)(σ':St)(H':Hp):Prop :=
 g x σ' H' λσ3 H3=>tt σ3 H3 λok H4=>if ok=true then te σ3 H4 λy H5=>tF Pv D i σ3 y H5 else ∃ys',Pv D (i+1) ys' σ3 H4
theorem nj{Pv:wf->Nat->List V->St->Hp->Prop}{D:wf}{i:Nat}{σ3:St}{y:V}{H5:Hp}{ys:List V}(h:H5 D=some (.lst ys))(z:ys.length<=1000)(q:∀H6,Exc D H5 H6->H6 D=some (.lst (ys++[y]))->Pv D (i+1) (ys++[y]) σ3 H6):tF Pv D i σ3 y H5 :=
 ⟨ys,h,jV z,_,q _ (Exc.upd D H5 _) c6⟩
theorem Bv{J:It}{N:Nat}{D:wf}{σ0:St}{H0:Hp}{R:Hp->Prop}(Pv:wf->Nat->List V->St->Hp->Prop)(item:Nat->V->Prop)(h0:Pv D 0 [] σ0 H0)
  (stop:∀i ys σ' H',Pv D i ys σ' H'->N<=i->J.stop i H') (go:∀i ys σ' H',Pv D i ys σ' H'->i<N->J.go i H') (fZ:∀i ys σ' H' x H2,Pv D i ys σ' H'->J.fZ i H' x H2->H2=H'/\item i x)
  (hs:∀i x ys σ' H',i<N->item i x->Pv D i ys σ' H'->jb Pv g tt te D i x σ' H') (hd:∀ys σ' H',Pv D N ys σ' H'->R H'):kA g tt te J D σ0 H0 R:=by
 refine⟨λi m σ' H'=>i+m=N /\ ∃ys,Pv D i ys σ' H',⟨N,by lia,[],h0⟩,?_⟩;rintro i m σ' H' ⟨him,ys,hp⟩
 by_cases hm:m=0
 ·subst hm
  have e:i=N:=by lia
  subst e;exact .inl ⟨stop _ _ _ _ hp (wn _),hd _ _ _ hp⟩
 ·refine .inr ⟨go _ _ _ _ hp (by lia),λσ2 H2=>∃ys,Pv D (i+1) ys σ2 H2,λσ2 H2 h=>⟨m-1,by lia,by lia,h⟩,λx H2 hy2=>?_⟩
  obtain⟨e,hit⟩:=fZ _ _ _ _ _ _ hp hy2;subst e;exact hs i x ys σ' H2 (by lia) hit hp
theorem yD(hx:aP K H a xs)(Pv:wf->Nat->List V->St->Hp->Prop)(h0:∀D H',H D=none->ag H H'->H' D=some (.lst [])->Pv D 0 [] (d9 src σ) H')(hl:∀D i ys σ' H',Pv D i ys σ' H'->aP K H' a xs)
  (hs:∀D i x ys σ' H',xs[i]? = some x->Pv D i ys σ' H'->jb Pv g tt te D i x σ' H') (hd:∀D ys σ' H',Pv D xs.length ys σ' H'->Q (.ref D) H'):An K g tt te src σ (.ref a) H Q:=by
 refine⟨a,rfl,⟨xs,hx⟩,λD hD=>Bv (N:=xs.length) Pv (λi x=>xs[i]? = some x) (h0 D _ hD (ag.upd hD) c6) (λi ys σ' H' hp hi=>⟨xs,hl _ _ _ _ _ hp,hi⟩) (λi ys σ' H' hp hi=>?_) (λi ys σ' H' x H2 hp hy=>?_)
  (λi x ys σ' H' _ hit hp=>hs D i x ys σ' H' hit hp) (hd D)⟩
 ·exact⟨xs,xs[i],hl _ _ _ _ _ hp,by simp[hi]⟩
 ·obtain⟨e,hy⟩:=hy
  exact⟨e,hy xs (hl _ _ _ _ _ hp)⟩
theorem ztZ(hx:bA K H a xs)(Pv:wf->Nat->List V->St->Hp->Prop)(h0:∀D H',H D=none->ag H H'->H' D=some (.lst [])->Pv D 0 [] (d9 src σ) H')(hl:∀D i ys σ' H',Pv D i ys σ' H'->bA K H' a xs)
  (hs:∀D i x ys σ' H',xs[i]? = some x->Pv D i ys σ' H'->jb Pv g tt te D i x σ' H') (hd:∀D ys σ' H',Pv D xs.length ys σ' H'->Q (.ref D) H'):yM K g tt te src σ (.ref a) H Q:=by
 refine⟨a,rfl,⟨xs,hx⟩,λD hD=>Bv (N:=xs.length) Pv (λi x=>xs[i]? = some x) (h0 D _ hD (ag.upd hD) c6) (λi ys σ' H' hp hi=>⟨xs,hl _ _ _ _ _ hp,hi⟩) (λi ys σ' H' hp hi=>?_) (λi ys σ' H' x H2 hp hy=>?_)
  (λi x ys σ' H' _ hit hp=>hs D i x ys σ' H' hit hp) (hd D)⟩
 ·exact⟨xs,xs[i],hl _ _ _ _ _ hp,by simp[hi]⟩
 ·obtain⟨e,hy⟩:=hy
  exact⟨e,hy xs (hl _ _ _ _ _ hp)⟩
theorem M7(h0' : -1000000000<=n)(h1:n<1000000000)(Pv:wf->Nat->List V->St->Hp->Prop)(h0:∀D H',H D=none->ag H H'->H' D=some (.lst [])->Pv D 0 [] (d9 src σ) H')
  (hs:∀D (i:Nat) ys σ' H',i<n.toNat->Pv D i ys σ' H'->jb Pv g tt te D i (.int (i:Int)) σ' H') (hd:∀D ys σ' H',Pv D n.toNat ys σ' H'->Q (.ref D) H'):Dx g tt te src σ [.int n] H Q:=by
 refine⟨n,rfl,by lia,by lia,λD hD=>Bv (N:=n.toNat) Pv (λi x=>x=.int (i:Int)) (h0 D _ hD (ag.upd hD) c6) (λi ys σ' H' hp hi=>hi) (λi ys σ' H' hp hi=>hi) (λi ys σ' H' x H2 hp hy=>?_)
  (λi x ys σ' H' hi hit hp=>?_) (hd D)⟩
 ·obtain⟨e,hy⟩:=hy
  exact⟨e,by rw[hy,Int.zero_add]⟩
 ·subst hit
  exact hs D i ys σ' H' hi hp
end
structure Ah(u' u:TS):Prop where
 e:u'=u
theorem zAN{t u:TS}{D:cQ}{σ : St}{H:Hp}(h:∀u',Ah u' u->t {D with nx:=u' D} σ H):u3 t u D σ H:=h u ⟨rfl⟩
theorem Ah.go{u' u:TS}{D:cQ}{σ : St}{H:Hp}(e:Ah u' u)(h:u D σ H):u' D σ H:=by rw[e.e];exact h
theorem Gb{P:wK}{w:wQ}{X:Cx} : m_ (fU P w) X E0:=λ_ _ _ _ _ _ _ h=>by
 obtain⟨_,_,_,_,_,_,_,_,_,_,_,q⟩:=h;exact q.elim
theorem lW.yp{P:wK}{w:wQ}{K:wa}{mg:Str->Option Value}{base:wJ}{x qual:Str}{st:wU}{f:wf}{fd:wx}{N ps:List Str}{k:Nat}{sp:Sp}(F:lW K x qual st f fd)(S:aS N ps (aK st))(len:∀vs H Q E,sp vs H Q E->vs.length=ps.length)
  (hbody:∀(cdv:Value)(A:Around)(outer:List Env)(s:Shared)(H:Hp)(vs:List V)(Q:VK)(E:XK),eJ k (A.deeper (envOfC qual (aK st) s.heap.objs.size f cdv))->sp vs H Q E ->
   ∃t,fQ (jH (fU P w) P w K mg base N qual (aK st) f cdv A outer s H E) (my st) t/\t {nx:=λ_ H'=>Q .bG H',rt:=Q} (start N vs) H):aI P w K mg base (fU P w) (k+1) f fd ps sp:=by
 obtain⟨oc,od,kV,doc,pm,an,cdv,ct,osl,rfl,lk,hcd⟩:=F.ex;exact PJ lk hcd S len λA outer s H vs Q E hr hsp=>hbody cdv A outer s H vs Q E hr hsp
theorem Exc.back{p:wf}{H H' H2:Hp}(b:Exc p H' H2)(s:Exc p H H'):Exc p H H2:=s.trans b
theorem uP{X:Cx}{i j v:Int}{k1 k2:Nat}{p1 p2 pos:Pos}(hc:RZ i j)(hv:i^j.toNat=v):PE X (.BinOp (.Constant (.int i) k1 p1) .Pow (.Constant (.int j) k2 p2) pos) (tC (.int v)):=by
 subst hv;exact λpins s σ H Q I h=>(aB zC9 ao ao:PE X _ _) pins s σ H Q I ⟨i,j,rfl,rfl,hc,h⟩
theorem zwv{α : Type}[DecidableEq α]{x : α}{A B:Prop}(h:A):if decide (x=x)=true then A else B:=by simpa using h
section
variable{K:wa}{σ : St}{H H':Hp}{Q:VK}{QB:Bool->Hp->Prop}{D:cQ}{t:TA}{v w:V}{xs ys:List V}{m n:Int}{r:Rat}{p:wf}
variable{x y:Rat}
theorem zDH{A B:Prop}(h:B):if(!true)=true then A else B:=by simpa using h
theorem zDP{A B:Prop}(h:A):if(!false)=true then A else B:=by simpa using h
theorem zwR{b:Bool}(q:Q (.bl true) H):fg K [.bl b,.ty "bool"] H Q:=M4 (fL.mpr rfl) q
theorem zBq{a b:V}(h:H p=some (.lst [a,b]))(h0:0<=m)(h1:m<2)(q:∀z,z=a\/z=b->Q z H):dh K (.ref p) (.int m) H Q :=
 Co (λz=>z=a\/z=b) (aP.of h) h0 (by simpa using h1) (by simp) q
theorem zA2{a b:Int}(h:H p=some (.lst [.int a,.int b]))(h0:0<=m)(h1:m<2)(q:∀z,z=a\/z=b->Q (.int z) H):dh K (.ref p) (.int m) H Q :=
 zBq h h0 h1 λz hz=>by rcases hz with rfl | rfl;exact q _ (.inl rfl);exact q _ (.inr rfl)
theorem zri(h1:x.num=y.num)(h2:(x.den:Int)=y.den):x=y:=by
 have h2':x.den=y.den:=by lia
 exact Rat.ext h1 h2'
theorem ye(x y:Rat):vy (N x) (N y)=decide (x=y):=by
 have e:vy (N x) (N y)=(decide (x.num=y.num)&&decide ((x.den:Int)=y.den)):=by
  simp only[N,vy,qd,xu,qN]
 rw[e,vE,wT,decide_eq_true_eq,decide_eq_true_eq,decide_eq_true_eq]
 constructor
 ·rintro ⟨h1,h2⟩;exact zri h1 h2
 ·rintro rfl;exact⟨rfl,rfl⟩
theorem AS(x:Rat):vV (N x)=true:=by simp[N,vV,vX,Wk,VC,Ww]
theorem Cc(h:Is K H v (N x))(k:Is K H w (N y))(q:Q (.bl (decide (x=y))) H):cR K v w H Q:=sW h k (AS x) (AS y) (by rw[ye];exact q)
theorem zCn(h:Is K H v (N x))(k:Is K H w (N y))(q:Q (.bl (!decide (x=y))) H):ig K v w H Q:=LB h k (AS x) (AS y) (by rw[ye];exact q)
end
theorem zCY{X:Cx} : aM X (compareOp .In) (mh X.K false):=zwC
theorem zwD{X:Cx} : aM X (compareOp .NotIn) (mh X.K true):=zry
def R(a b:Rat):PyData:=.tuple [N a,N b]
theorem De(a b:Rat):br (R a b)=true:=by simp[R,br,aV,ff]
structure aZ(a b:Rat):Prop where
 a0:0<a
 a4:a<=4
 ad:a.den<=8
 b0:0<=b
 b1:b<=1
 bd:b.den<=12
 ab:1<=a+b
theorem aZ.ba{a b:Rat}(h:aZ a b):ah 10 a:=ah.small (c:=4) (d:=8) (vU h.a0) h.a4 h.ad (by decide) (by decide)
theorem aZ.bb{a b:Rat}(h:aZ a b):ah 10 b:=ah.small (c:=1) (d:=12) h.b0 h.b1 h.bd (by decide) (by decide)
section
variable{K:wa}{H:Hp}{Q:VK}{v:V}{a b:Rat}{σ : St}{gs:kH}{QS:St->Hp->Prop}
theorem zAW(h:Is K H v (R a b))(q:∀x,Is K H x (N a)->Q x H):dh K v (.int 0) H Q:=az (j:=0) h rfl q
theorem zAj(h:Is K H v (R a b))(q:∀x,Is K H x (N b)->Q x H):dh K v (.int 1) H Q:=az (j:=1) h rfl q
theorem Is.nT{H':Hp}(h:Is K H v (R a b))(s:bE H H'):Is K H' v (R a b):=Is.keep s _ v (De a b) h
theorem ED{x y:V}(h1:Is K H x (N a))(h2:Is K H y (N b))(q:∀v H',ag H H'->Is K H' v (R a b)->Q v H'):mX K [x,y] H Q :=
 bW (by show 2<=1000;decide) (.cons h1 (.cons h2 .nil)) q
end
section
variable{K:wa}{H H' H2:Hp}{Q:VK}{v w:V}{a b c d:Rat}{D:wf}
theorem zxl(h:Is K H v (R a b))(q:Q (.bl true) H):fg K [v,.ty "tuple"] H Q:=R_ h q
theorem zAD(h:Is K H v (R a b))(q:Q (.int 2) H):cO K [v] H Q:=kX h q
theorem ag.grow(s:ag H H')(n:H D=none)(e:Exc D H' H2):ag H H2:=λb o h=>e b o (kD h n) (s b o h)
end
theorem zze{σ : St}{H:Hp}{Q:Bool->Hp->Prop}(q:Q true H):Na σ H Q:=q
theorem OX{Pv:wf->Nat->List V->St->Hp->Prop}{g:TG}{tt:TT}{te:TE}{D:wf}{i:Nat}{x:V}{σ':St}{H':Hp}(h:g x σ' H' λσ3 H3=>tt σ3 H3 λok H4=>if ok=true then te σ3 H4 λy H5=>tF Pv D i σ3 y H5 else ∃ys',Pv D (i+1) ys' σ3 H4) :
  jb Pv g tt te D i x σ' H':=h
section
variable{K:wa}{σ : St}{H:Hp}{Q:VK}{E:XK}{D:cQ}{t:TA}{C G:Value}{i:Nat}{tb:(St->XK)->TS}{th:wf->Value->TS}{sp:Sp}{W:St->XK}{ex C':wf}{b:Bool}
theorem zyh(h:t σ H λvs H1=>vs.length<=wX/\E C none H1):Sa C E t D σ H:=h
theorem zxU(h:t σ H λvs H1=>sp vs H1 Q (W σ)):BK sp W t σ H Q:=h
end
variable{p:Pos}{es:List Expr}{env:Env}{x:Expr}
theorem kS(s:String):V1 (vQ s)=true:=by
 rw[Str.ofString_eq_toList,V1];simp only[List.all_toArray,qP,vZ,Function.comp,decide_eq_true_eq];intro c _;have:=c.valid;simp only[Char.toNat];rcases this with h | h
 ·have:c.val.toNat<0xd800:=h
  lia
 ·exact h.2
theorem eS{K:wa}{H:Hp}{c:wf}{p q:Int}(r:Rat)(h:bA K H c [.int p,.int q])(e1:r.num=p)(e2:(r.den:Int)=q):Is K H (.ref c) (N r):=by
 subst e1 e2;exact cb.mpr ⟨c,_,rfl,h,fA.mpr ⟨_,_,rfl,aJ.mpr rfl,fA.mpr ⟨_,_,rfl,aJ.mpr rfl,iT.mpr rfl⟩⟩⟩
theorem FZ(s:String):vV (.str (vQ s))=true:=by
 simp[vV,vX,VC,kS]
theorem aY{c:Const}{k:Nat} : wR ((.Constant c k p)::es) env=(false,eval (.Constant c k p) env)::wR es env:=rfl
theorem dD{xs:List Expr}{k:Nat} : wR ((.Tuple xs k p)::es) env=(false,eval (.Tuple xs k p) env)::wR es env:=rfl
theorem sT{xs:List Expr} : wR ((.List xs p)::es) env=(false,eval (.List xs p) env)::wR es env:=rfl
theorem Ng{o:UnaryOp} : wR ((.UnaryOp o x p)::es) env=(false,eval (.UnaryOp o x p) env)::wR es env:=rfl
theorem rC{o:Operator}{y:Expr} : wR ((.BinOp x o y p)::es) env=(false,eval (.BinOp x o y p) env)::wR es env:=rfl
theorem bX{x:Str} : wR ((.Name x p)::es) env=(false,eval (.Name x p) env)::wR es env:=rfl
theorem gJ{y:Expr} : wR ((.Subscript x y p)::es) env=(false,eval (.Subscript x y p) env)::wR es env:=rfl
section
variable{K:wa}{H H' H2:Hp}{Q:VK}{R:Prop}{v w y:V}{p l:wf}{xs ys zs:List V}{ns:List Int}{m:Int}{σ : St}
end
section
variable{K:wa}{H H' H2:Hp}{Q:VK}{R:Prop}{v w y:V}{p l:wf}{xs ys zs:List V}{ns:List Int}{m:Int}{σ : St}{to:TE}{t:TA}{T:String}{r:V->List V->Hp->VK->Prop}
theorem ZV(h:to σ H λx H1=>yX K T x H1/\t σ H1 λxs H2=>r x xs H2 Q):Ld K T r to t σ H Q:=h
theorem jA(h:aP K H p xs)(q:R):yX K "list" (.ref p) H/\R:=⟨.inl ⟨rfl,xs,h⟩,q⟩
theorem jG(h:H l=some (.lst xs))(z:xs.length<=1000)(q:∀H',Exc l H H'->H' l=some (.lst (xs++[y]))->Q .bG H'):Mh (.ref l) [y] H Q:=⟨l,xs,y,rfl,rfl,h,jV z,q _ (Exc.upd l H _) c6⟩
end
variable{X:Cx}
def eH(K:wa):List V->Hp->VK->Prop:=λxs H Q=>∃p ys,xs=[.ref p]/\((aP K H p ys /\ ∀l,H l=none->Q (.ref l) (upd H l (.tup ys)))\/(bA K H p ys/\Q (.ref p) H))
def ke(K:wa):List V->Hp->VK->Prop:=λxs H Q=>∃p ys,xs=[.ref p]/\(aP K H p ys\/bA K H p ys) /\ ∀l,H l=none->Q (.ref l) (upd H l (.lst ys))
theorem ft : aN X (.type "tuple") (eH X.K):=zpb
theorem oj : aN X (.type "list") (ke X.K):=zqu
def oX(K:wa):V->Option Int->Option Int->Hp->VK->Prop:=λx lo hi H Q=>TM K x lo hi H Q\/Sm K x lo hi H Q
theorem fV : kl X (oX X.K):=zAb.or zDo
section
variable{K:wa}{H H' H2:Hp}{Q:VK}{QO:Option Int->Hp->Prop}{R:Prop}{v w y:V}{p l:wf}{xs ys zs:List V}{ds es:List PyData}{m:Int}{σ : St}{te:TE}{tl th:TO}{r:V->Option Int->Option Int->Hp->VK->Prop}{lo hi:Option Int}
theorem pN(h:aP K H p ys)(q:∀l H',H l=none->ag H H'->H' l=some (.tup ys)->Q (.ref l) H'):eH K [.ref p] H Q:=⟨p,ys,rfl,.inl ⟨h,λl hl=>q l _ hl (ag.upd hl) c6⟩⟩
theorem iR(h:Is K H v (.list ds))(q:∀w H',ag H H'->Is K H' w (.tuple ds)->Q w H'):eH K [v] H Q:=by
 obtain⟨a,xs,rfl,hs,t⟩:=cu.mp h;exact pN hs λl H' _ s e=>q _ H' s (cb.mpr ⟨l,xs,rfl,.of e,ai.same s ds xs t⟩)
theorem TX(h:Is K H v (.tuple ds))(q:Q v H):eH K [v] H Q:=by
 obtain⟨a,xs,rfl,hs,t⟩:=cb.mp h;exact⟨a,xs,rfl,.inr ⟨hs,q⟩⟩
theorem rQ(h:Is K H v (.tuple ds))(q:∀l H' ys,H l=none->ag H H'->H' l=some (.lst ys)->ai K H' ys ds->Q (.ref l) H'):ke K [v] H Q:=by
 obtain⟨a,xs,rfl,hs,t⟩:=cb.mp h;exact⟨a,xs,rfl,.inr hs,λl hl=>q l _ xs hl (ag.upd hl) c6 (ai.same (ag.upd hl) ds xs t)⟩
theorem zwj(h:Is K H v (.list ds))(q:∀l H' ys,H l=none->ag H H'->H' l=some (.lst ys)->ai K H' ys ds->Q (.ref l) H'):ke K [v] H Q:=by
 obtain⟨a,xs,rfl,hs,t⟩:=cu.mp h;exact⟨a,xs,rfl,.inl hs,λl hl=>q l _ xs hl (ag.upd hl) c6 (ai.same (ag.upd hl) ds xs t)⟩
theorem zyV(h:te σ H λx H1=>tl σ H1 λl H2=>th σ H2 λu H3=>r x l u H3 Q):Pe r te tl th σ H Q:=h
theorem zwq(q:QO none H):Pw σ H QO:=q
theorem zBm(h:te σ H λx H1=>∃i,x=.int i/\QO (some i) H1):PR te σ H QO:=h
theorem zx3{RI:Int->Prop}(q:RI m):∃i,V.int m=V.int i/\RI i:=⟨m,rfl,q⟩
def cutD{α : Type}(xs:List α)(lo hi:Option Int):List α:=(xs.drop (HT.bD xs.length 0 lo)).take (HT.bD xs.length xs.length hi-HT.bD xs.length 0 lo)
theorem ai.take:∀{ds:List PyData}{xs:List V}(n:Nat),ai K H xs ds->ai K H (xs.take n) (ds.take n)
 | _,_,0,h=>by simp[ai.nil]
 | [],_,n+1,h=>by rw[iT.mp h];simp[ai.nil]
 | d::ds,_,n+1,h=>by
  obtain⟨x,r,rfl,q,t⟩:=fA.mp h;rw[xA,xA];exact .cons q (ai.take n t)
theorem ai.drop:∀{ds:List PyData}{xs:List V}(n:Nat),ai K H xs ds->ai K H (xs.drop n) (ds.drop n)
 | _,_,0,h=>by simpa using h
 | [],_,n+1,h=>by rw[iT.mp h];simp[ai.nil]
 | d::ds,_,n+1,h=>by
  obtain⟨x,r,rfl,q,t⟩:=fA.mp h;rw[qV,qV];exact ai.drop n t
theorem ai.cut(h:ai K H xs ds):ai K H (fW xs lo hi) (cutD ds lo hi):=by
 unfold fW cutD;rw[h.length];exact(h.drop _).take _
theorem pg(h:aP K H p xs)(q:∀l H',H l=none->ag H H'->H' l=some (.lst (fW xs lo hi))->Q (.ref l) H'):oX K (.ref p) lo hi H Q:=.inl ⟨p,xs,rfl,h,λl hl=>q l _ hl (ag.upd hl) c6⟩
theorem nI(h:Is K H v (.list ds))(q:∀l H' ys,H l=none->ag H H'->H' l=some (.lst ys)->ai K H' ys (cutD ds lo hi)->Q (.ref l) H'):oX K v lo hi H Q:=by
 obtain⟨a,xs,rfl,hs,t⟩:=cu.mp h;exact pg hs λl H' hl s e=>q l H' _ hl s e (ai.same s _ _ t.cut)
theorem oJ(h:Is K H v (.tuple ds))(hw:¬ (HT.bD ds.length 0 lo=0/\HT.bD ds.length ds.length hi=ds.length))(q:∀w H',ag H H'->Is K H' w (.tuple (cutD ds lo hi))->Q w H'):oX K v lo hi H Q:=by
 obtain⟨a,xs,rfl,hs,t⟩:=cb.mp h;refine .inr ⟨a,xs,rfl,hs,by rw[t.length];exact hw,λl hl=>q _ _ (ag.upd hl) (cb.mpr ⟨l,_,rfl,.of c6,ai.same (ag.upd hl) _ _ t.cut⟩)⟩
theorem DE{α : Type}(xs:List α):cutD xs none (some (-1))=xs.dropLast:=by
 unfold cutD
 show(xs.drop 0).take (((-1:Int)+(xs.length:Int)).toNat-0)=_
 rw[xc,xb]
 congr 1
 lia
theorem nX{α : Type}(xs:List α):cutD xs (some 1) none=xs.tail:=by
 unfold cutD
 show(xs.drop (min 1 xs.length)).take (xs.length-min 1 xs.length)=_
 cases xs with
 | nil=>rfl
 | cons x xs =>
  have e:min 1 (x::xs).length=1:=by rw[vn];lia
  rw[e,qV,xc,vn,qr,Wi,X0]
end
def TN(xs:List Rat):PyData:=.tuple (xs.map N)
def LN(xs:List Rat):PyData:=.list (xs.map N)
theorem gf:∀xs:List Rat,aV (xs.map N)=true
 | []=>by simp[aV]
 | x::xs=>by rw[w5,aV,ff,gf xs];rfl
theorem jn(xs:List Rat):br (TN xs)=true:=by rw[TN,br];exact gf xs
theorem zyB(x:Rat):(N x).canLay0=true:=by simp[N,vX,Wk]
theorem zAv(x:Rat):(N x).depth=1:=by simp[N,VC,Ww]
theorem B0:∀xs:List Rat,Wk (xs.map N)=true
 | []=>by simp[Wk]
 | x::xs=>by rw[w5,Wk,zyB,B0 xs];rfl
theorem NK:∀xs:List Rat,Ww (xs.map N)<=1
 | []=>by simp[Ww]
 | x::xs=>by
  have:=NK xs;rw[w5,Ww,zAv];lia
theorem uU(xs:List Rat):vV (TN xs)=true:=by
 unfold vV TN;rw[vX,B0,VC,qf];have:=NK xs;exact decide_eq_true (by lia)
theorem N_:∀xs ys:List Rat,qd (xs.map N) (ys.map N)=decide (xs=ys)
 | [],[]=>by simp[qd]
 | [],y::ys=>by simp[qd]
 | x::xs,[]=>by simp[qd]
 | x::xs,y::ys=>by
  rw[w5,w5,qd,ye,N_ xs ys,vE,wT,decide_eq_true_eq,decide_eq_true_eq,decide_eq_true_eq,List.cons.injEq]
theorem SM(xs ys:List Rat):vy (TN xs) (TN ys)=decide (xs=ys):=by
 unfold TN;rw[vy,N_]
section
variable{K:wa}{H H' H2:Hp}{Q:VK}{v w y:V}{p l:wf}{vs:List V}{xs ys:List Rat}{m:Int}{σ : St}
theorem zp(h:Is K H v (TN xs))(k:Is K H w (TN ys))(q:Q (.bl (decide (xs=ys))) H):cR K v w H Q:=sW h k (uU xs) (uU ys) (by rw[SM];exact q)
theorem Cu(h:Is K H v (TN xs))(k:Is K H w (TN ys))(q:Q (.bl (!decide (xs=ys))) H):ig K v w H Q:=LB h k (uU xs) (uU ys) (by rw[SM];exact q)
theorem Eu{i:Nat}(t:ai K H vs (xs.map N))(h:i<xs.length):∃x,vs[i]? = some x/\Is K H x (N (xs.getD i 0)):=by
 refine t.get ?_;rw[wo,wb,wc h]
 rfl
theorem dJ{i:Nat}{x:V}(t:ai K H vs (xs.map N))(h:vs[i]? = some x):i<xs.length/\Is K H x (N (xs.getD i 0)):=by
 have hl:=t.length;rw[wl]at hl
 have hi:i<xs.length:=by
  rcases wD i vs.length with z | z
  ·lia
  ·rw[wE z]at h;cases h
 obtain⟨x',e,hx⟩:=Eu t hi;rw[h]at e;cases e;exact⟨hi,hx⟩
theorem zBl(h:Is K H v (TN xs))(h0:0<=m)(h1:m<xs.length)(q:∀x,Is K H x (N (xs.getD m.toNat 0))->Q x H):dh K v (.int m) H Q:=by
 obtain⟨a,vs,rfl,hs,t⟩:=cb.mp h;obtain⟨n,rfl⟩:∃n:Nat,m=(n:Int):=⟨m.toNat,by lia⟩;obtain⟨x,e,hx⟩:=Eu (i:=n) t (by lia);exact Ac hs (mm e) (q x hx)
theorem lH(h:Is K H v (LN xs))(h0:0<=m)(h1:m<xs.length)(q:∀x,Is K H x (N (xs.getD m.toNat 0))->Q x H):dh K v (.int m) H Q:=by
 obtain⟨a,vs,rfl,hs,t⟩:=cu.mp h;obtain⟨n,rfl⟩:∃n:Nat,m=(n:Int):=⟨m.toNat,by lia⟩;obtain⟨x,e,hx⟩:=Eu (i:=n) t (by lia);exact jD hs (mm e) (q x hx)
theorem zzJ(h:Is K H v (TN xs))(q:Q (.int xs.length) H):cO K [v] H Q:=kX h (by rw[wl];exact q)
theorem zzA(h:Is K H v (LN xs))(q:Q (.int xs.length) H):cO K [v] H Q:=by
 obtain⟨a,vs,rfl,hs,t⟩:=cu.mp h;have:=t.length;rw[wl]at this;exact gv hs (by rw[this];exact q)
theorem dN(h:H l=some (.lst vs))(t:ai K H vs (xs.map N)):Is K H (.ref l) (LN xs):=cu.mpr ⟨l,vs,rfl,.of h,t⟩
theorem gu:∀{xs:List Rat}{vs:List V},vs.length=xs.length->(∀i x,vs[i]? = some x->Is K H x (N (xs.getD i 0)))->ai K H vs (xs.map N)
 | [],vs,hl,_=>by
  have:vs=[]:=WU hl;subst this;exact .nil
 | x::xs,[],hl,_=>by cases hl
 | x::xs,u::vs,hl,h=>by
  rw[w5];exact .cons (h 0 u rfl) (gu (by simpa using hl) λi y e=>h (i+1) y e)
end
section
variable{K:wa}{g:TG}{tt:TT}{te:TE}{src:List (Option Nat)}{σ : St}{H:Hp}{Q:VK}{a:wf}{vs:List V}{n:Int}{tl:St}{o0:Option V}
def ik(H:Hp)(tl:St)(Rel:Nat->V->Hp->Prop)(D:wf)(i:Nat)(ys:List V)(σ':St)(H':Hp):Prop :=
 (∃o,σ'=o::tl)/\H D=none/\ag H H'/\H' D=some (.lst ys)/\ys.length=i /\ ∀j y,ys[j]? = some y->Rel j y H'
theorem ik.same{Rel:Nat->V->Hp->Prop}{D:wf}{i:Nat}{ys:List V}{σ':St}{H':Hp}(h:ik H tl Rel D i ys σ' H'):ag H H':=h.2.2.1
theorem dB{Rel:Nat->V->Hp->Prop}{D:wf}{i:Nat}{ys:List V}{σ' σ3:St}{H1 H5:Hp}{y:V}(inv:ik H tl Rel D i ys σ' H1)(hi:i<=1000)(hk:∀i v H1 H2,bE H1 H2->Rel i v H1->Rel i v H2)(hσ : ∃o,σ3=o::tl)(s:ag H1 H5)(r:Rel i y H5):tF (ik H tl Rel) D i σ3 y H5:=by
 obtain⟨_,hn,s1,hD,hl,hr⟩:=inv;have hD5:=s _ _ hD;refine nj hD5 (by lia) λH6 E6 e6=>⟨hσ,hn,(s1.trans s).grow hn E6,e6,by simp[hl],λj z hz=>?_⟩
 have k6:bE H5 H6:=E6.keep hD5;rcases wD j ys.length with hj | hj
 ·rw[vR hj]at hz
  exact hk _ _ _ _ (s.keep.trans k6) (hr j z hz)
 ·have hj':j=ys.length:=by
   rcases wD ys.length j with q | q
   ·rw[wE (by simp;lia)]at hz;cases hz
   ·lia
  subst hj';rw[vf (wn _),W7]at hz;cases hz;rw[hl];exact hk _ _ _ _ k6 r
theorem iY(hx:aP K H a vs)(hsrc:d9 src σ = o0::tl)(Rel:Nat->V->Hp->Prop)(hs:∀D i x ys o H1,vs[i]? = some x->ik H tl Rel D i ys (o::tl) H1->jb (ik H tl Rel) g tt te D i x (o::tl) H1)
  (hd:∀D ys H',H D=none->ag H H'->H' D=some (.lst ys)->ys.length=vs.length->(∀j y,ys[j]? = some y->Rel j y H')->Q (.ref D) H'):An K g tt te src σ (.ref a) H Q:=by
 refine yD hx (ik H tl Rel) (λD H' n s e=>⟨⟨o0,hsrc⟩,n,s,e,rfl,λj y z=>by simp at z⟩) (λD i ys σ' H' h=>h.same.seq hx) ?_ λD ys σ' H' ⟨_,n,s,e,hl,r⟩=>hd D ys H' n s e hl r
 rintro D i x ys σ' H' hx' h;obtain⟨⟨o,rfl⟩,_⟩:=id h;exact hs D i x ys o H' hx' h
theorem iX(hx:bA K H a vs)(hsrc:d9 src σ = o0::tl)(Rel:Nat->V->Hp->Prop)(hs:∀D i x ys o H1,vs[i]? = some x->ik H tl Rel D i ys (o::tl) H1->jb (ik H tl Rel) g tt te D i x (o::tl) H1)
  (hd:∀D ys H',H D=none->ag H H'->H' D=some (.lst ys)->ys.length=vs.length->(∀j y,ys[j]? = some y->Rel j y H')->Q (.ref D) H'):yM K g tt te src σ (.ref a) H Q:=by
 refine ztZ hx (ik H tl Rel) (λD H' n s e=>⟨⟨o0,hsrc⟩,n,s,e,rfl,λj y z=>by simp at z⟩) (λD i ys σ' H' h=>h.same.j6 hx) ?_ λD ys σ' H' ⟨_,n,s,e,hl,r⟩=>hd D ys H' n s e hl r
 rintro D i x ys σ' H' hx' h;obtain⟨⟨o,rfl⟩,_⟩:=id h;exact hs D i x ys o H' hx' h
theorem zAO(h0:0<=n)(h1:n<1000000000)(hsrc:d9 src σ = o0::tl)(Rel:Nat->V->Hp->Prop)(hs:∀D (i:Nat) ys o H1,i<n.toNat->ik H tl Rel D i ys (o::tl) H1->jb (ik H tl Rel) g tt te D i (.int (i:Int)) (o::tl) H1)
  (hd:∀D ys H',H D=none->ag H H'->H' D=some (.lst ys)->ys.length=n.toNat->(∀j y,ys[j]? = some y->Rel j y H')->Q (.ref D) H'):Dx g tt te src σ [.int n] H Q:=by
 refine M7 (by lia) h1 (ik H tl Rel) (λD H' n s e=>⟨⟨o0,hsrc⟩,n,s,e,rfl,λj y z=>by simp at z⟩) ?_ λD ys σ' H' ⟨_,n,s,e,hl,r⟩=>hd D ys H' n s e hl r
 rintro D i ys σ' H' hi h;obtain⟨⟨o,rfl⟩,_⟩:=id h;exact hs D i ys o H' hi h
theorem gm{xs:List Rat} : ∀(i:Nat)(v:V)(H1 H2:Hp),bE H1 H2->Is K H1 v (N (xs.getD i 0))->Is K H2 v (N (xs.getD i 0)):=λi v H1 H2 k h=>h.gM k
end
theorem iU{H H':Hp}{l:wf}(s:ag H H')(h:H' l=none):H l=none:=by
 cases e:H l with
 | none=>rfl
 | some o=>rw[s _ _ e]at h;cases h
def TZ(ns:List Int):PyData:=.tuple (ns.map PyData.int)
def LL(rss:List (List Rat)):PyData:=.list (rss.map LN)
theorem OQ:∀ns:List Int,aV (ns.map PyData.int)=true
 | []=>by simp[aV]
 | n::ns=>by rw[w5,aV,OQ ns];rfl
theorem zDe(ns:List Int):br (TZ ns)=true:=by rw[TZ,br];exact OQ ns
section
variable{K:wa}{H H' H2:Hp}{Q:VK}{v w y:V}{p l:wf}{vs:List V}{ns:List Int}{rss:List (List Rat)}{m:Int}{σ : St}
theorem uN:∀{ns:List Int}{vs:List V},ai K H vs (ns.map PyData.int) ↔ vs=ns.map V.int
 | [],vs=>by rw[Qx,iT];rfl
 | n::ns,vs=>by
  rw[w5,fA,w5]
  constructor
  ·rintro ⟨x,r,rfl,h,t⟩
   rw[aJ.mp h,uN.mp t]
  ·rintro rfl
   exact⟨_,_,rfl,aJ.mpr rfl,uN.mpr rfl⟩
theorem rJ:Is K H v (TZ ns) ↔ ∃a,v=.ref a/\bA K H a (ns.map V.int):=by
 unfold TZ;rw[cb]
 constructor
 ·rintro ⟨a,xs,e,h,t⟩
  rw[uN.mp t]at h;exact⟨a,e,h⟩
 ·rintro ⟨a,e,h⟩
  exact⟨a,_,e,h,uN.mpr rfl⟩
theorem Cz(h:Is K H v (TZ ns))(q:Q (.int ns.length) H):cO K [v] H Q:=kX h (by rw[wl];exact q)
theorem U1{i:Nat}(t:ai K H vs (rss.map LN))(h:i<rss.length):∃x,vs[i]? = some x/\Is K H x (LN (rss.getD i [])):=by
 refine t.get ?_;rw[wo,wb,wc h]
 rfl
theorem Rr(h:Is K H v (LL rss))(h0:0<=m)(h1:m<rss.length)(q:∀x,Is K H x (LN (rss.getD m.toNat []))->Q x H):dh K v (.int m) H Q:=by
 obtain⟨a,vs,rfl,hs,t⟩:=cu.mp h;obtain⟨n,rfl⟩:∃n:Nat,m=(n:Int):=⟨m.toNat,by lia⟩;obtain⟨x,e,hx⟩:=U1 (i:=n) t (by lia);exact jD hs (mm e) (q x hx)
theorem EF{α : Type}{xs:List α}{x : α}(h:xs[xs.length-1]? = some x):jf xs (-1)=some x:=by
 have hl:0<xs.length:=by
  cases xs with
  | nil=>cases h
  | cons _ _=>simp
 unfold jf iV;rw[if_neg (by lia),if_pos (by lia)]
 show xs[((-1:Int)+(xs.length:Int)).toNat]? = some x
 rw[show((-1:Int)+(xs.length:Int)).toNat=xs.length-1 by lia];exact h
theorem zwE(h:Is K H v (LL rss))(h0:0<rss.length)(q:∀x,Is K H x (LN (rss.getD (rss.length-1) []))->Q x H):dh K v (.int (-1)) H Q:=by
 obtain⟨a,vs,rfl,hs,t⟩:=cu.mp h;have hl:=t.length;rw[wl]at hl;obtain⟨x,e,hx⟩:=U1 (i:=rss.length-1) t (by lia);rw[<- hl]at e;exact jD hs (EF e) (q x hx)
theorem LR:∀{rss:List (List Rat)}{vs:List V},vs.length=rss.length->(∀i x,vs[i]? = some x->Is K H x (LN (rss.getD i [])))->ai K H vs (rss.map LN)
 | [],vs,hl,_=>by
  have:vs=[]:=WU hl;subst this;exact .nil
 | x::xs,[],hl,_=>by cases hl
 | x::xs,u::vs,hl,h=>by
  rw[w5];exact .cons (h 0 u rfl) (LR (by simpa using hl) λi y e=>h (i+1) y e)
end
def kM(K:wa):R2:=λx y H Q=>Lc K x y H Q \/ ∃a b ys,x=.ref a/\y=.ref b/\bA K H a []/\bA K H b ys/\Q (.ref b) H
theorem mG{X:Cx} : aM X (Wd .Add) (kM X.K):=by
 intro pins s σ H x y v u Q I rx ry h;rcases h with h | ⟨a,b,ys,rfl,rfl,ha,hb,q⟩
 ·exact zAr pins s σ H x y v u Q I rx ry h
 ·cases rx
  cases ry;obtain⟨its,r1,p1,_⟩:=I.tuple ha;cases r1;obtain⟨its2,r2,p2,_⟩:=I.tuple hb;obtain⟨⟨cls,dd,data,sl⟩,ho,hc,n,hd⟩:=id p1;obtain⟨⟨cls2,dd2,data2,sl2⟩,ho2,hc2,n2,hd2⟩:=id p2;simp only at hc hd hc2 hd2;subst hc hd hc2 hd2;exact concat_meets ⟨_,ho,rfl⟩ ⟨_,ho2,rfl⟩ noFill_tuple_add seq_tuple_add qI qC (qm _ _) (tuple_addW0 a b _ its2.toArray n n2 dd dd2 sl sl2 rfl) ⟨ho,ho2,⟨.ref b,H,I,rfl,q⟩⟩
theorem mO{K:wa}{H:Hp}{Q:VK}{v w:V}{ds es:List PyData}(h1:Is K H v (.tuple ds))(h2:Is K H w (.tuple es))(z:ds.length+es.length<=1000)(q:∀u H',ag H H'->Is K H' u (.tuple (ds++es))->Q u H'):kM K v w H Q:=by
 obtain⟨a,xs,rfl,ha,ta⟩:=cb.mp h1;obtain⟨b,ys,rfl,hb,tb⟩:=cb.mp h2;have la:=ta.length;have lb:=tb.length;cases xs with
 | nil =>
  obtain rfl:ds=[]:=WU (by simpa using la.symm);exact .inr ⟨a,b,ys,rfl,rfl,ha,hb,q _ H (ag.refl _) h2⟩
 | cons x xs =>
  refine .inl ⟨a,b,x::xs,ys,rfl,rfl,ha,hb,by simp,WN (jV (by lia)),λhy=>?_,λhy p hp=>?_⟩
  ·obtain rfl:es=[]:=WU (by rw[hy]at lb;simpa using lb.symm)
   exact q _ H (ag.refl _) (by rw[vW];exact h1)
  ·exact q _ _ (ag.upd hp) (cb.mpr ⟨p,_,rfl,.of c6,(ai.same (ag.upd hp) _ _ ta).append (ai.same (ag.upd hp) _ _ tb)⟩)
theorem Inv.tU{X:Cx}{pins:List (wf × Obj)}{σ : St}{H:Hp}{s:Shared}{h':wJ}{t':Nat}{ch:List wf}(I:Inv X pins σ H s)(k:∀b o,b ∉ ch->s.heap.get? b=some o->h'.get? b=some o)(hf:∀b∈ch,fi X pins H b):Inv X pins σ H {s with heap:=h',toks:=t'}:=by
 have nit:∀b u,H b=some u->b ∉ ch:=λb u e z=>by rw[(hf b z).1]at e;cases e
 refine I.step (g':=s.gens) (d':=s.drawn) (ch:=ch) (λb hb=>⟨(hf b hb).2.2.2.1,(hf b hb).2.1,(hf b hb).2.2.2.2.1,(hf b hb).2.2.2.2.2⟩) (λb o _ _ hc e _=>k b o hc e)
  (λb o _ _ hc e _=>⟨o.slots,k b o hc e⟩) (λ_ _ _ _ n=>n) (λb o hc e=>⟨o,k b o hc e⟩) (λ_ _ e=>e) (λ_ _ _ e=>e) (λb ps e=>⟨#[],by rw[e];simp⟩) (λm hm=>?_) (λb u e=>?_) I.bare
 ·obtain⟨o,es,ep,ho,r⟩:=hm
  exact⟨o,es,ep,k _ o (λz=>(hf _ z).2.1 rfl) ho,r⟩
 ·refine(I.aO b u e).k_ (λc v hc q=>k c v ?_ q) (λ_ q=>q) λ_ _ q=>q
  rcases hc with z | z
  ·rw[z];exact nit b u e
  ·exact nit c _ z
section
variable{prog:wK}{w:wQ}{A:Around}{E:Value->Shared->Prop}{s:Shared}
theorem zsI{it tu:wf}{i:Nat}{its:Array Value}{x:Value}{Q:Value->Shared->Prop}(ei:s.heap.IsTupleIter it tu i)(et:s.heap.IsTuple tu its)(ex:its[i]? = some x)
  (fin:∀h',h'.IsTupleIter it tu (i+1)->vB it s.heap h'->Q x {s with heap:=h'}):wq (model prog w) A (vC (.ref it)) Q E s:=by
 obtain⟨ob,eo,ec,ed⟩:=id ei;obtain⟨ot,eot,_,nt,edt⟩:=et;unfold vC;refine wg (wpAny_callSpecial?_slot (name:=vQ "__next__") ei.typeIs Vf (Wa Vf ei.typeIs Qf ?_ (Qa _)))
 show wq _ _ (field (.ref it) 0 >>= _) _ _ s;refine wg (vi eo ed (x:=.ref tu) rfl ?_)
 show wq _ _ (if(Value.ref tu == Value.none)=true then _ else _) _ _ s;rw[if_neg (show ¬ ((Value.ref tu == Value.none)=true)from vk)]
 show wq _ _ (field (.ref it) 1 >>= _) _ _ s;refine wg (vi eo ed (x:=.int i 0) rfl ?_)
 show wq _ _ (seqItems? (.ref tu) >>= _) _ _ s;refine wg (Wn eot edt ?_)
 simp only[wS,ex];refine wg (wpAny_setField eo ed (by simp) (wt ⟨x,rfl,wt (fin _ ?_ (xB ..))⟩));exact⟨_,VW _ eo (V0 (VN ed _)),(Xc ..).trans ec,by rw[VN ed];simp[Vm]⟩
theorem Rf{it tu:wf}{i:Nat}{its:Array Value}{Q:Value->Shared->Prop}(hh:A.handled=none)(ei:s.heap.IsTupleIter it tu i)(et:s.heap.IsTuple tu its)(ex:its[i]? = none)
  (fin:∀h' e,Heap.ExtBut it s.heap h'->(∃o,h'.get? e=some o/\o.cls=.type "StopIteration")->E (.ref e) {s with heap:=h'}):wq (model prog w) A (vC (.ref it)) Q E s:=by
 obtain⟨ob,eo,ec,ed⟩:=id ei;obtain⟨ot,eot,_,nt,edt⟩:=et;unfold vC;refine wg (wpAny_callSpecial?_slot (name:=vQ "__next__") ei.typeIs Vf (Wa Vf ei.typeIs Qf ?_ (Qa _)))
 show wq _ _ (field (.ref it) 0 >>= _) _ _ s;refine wg (vi eo ed (x:=.ref tu) rfl ?_)
 show wq _ _ (if(Value.ref tu == Value.none)=true then _ else _) _ _ s;rw[if_neg (show ¬ ((Value.ref tu == Value.none)=true)from vk)]
 show wq _ _ (field (.ref it) 1 >>= _) _ _ s;refine wg (vi eo ed (x:=.int i 0) rfl ?_)
 show wq _ _ (seqItems? (.ref tu) >>= _) _ _ s;refine wg (Wn eot edt ?_)
 simp only[wS,ex];refine wg (wpAny_rule (wg (wpAny_setField eo ed (by simp) ?_)))
 show wq _ _ (newExc (.type "StopIteration") [] >>= _) _ _ _;refine wg ?_;simp only[newExc,newTuple]
 refine wg (Wt ?_ (by size_fits));refine wg (m:=firstArgMember _ _) (wpAny_of_eq (a:=Value.none) (by first | rfl | (simp only[firstArgMember];rfl)) ?_);refine Wt ?_ (by size_fits);simp only[raiseNew];refine wg (wpAny_handled ?_)
 first | rw[hh] | rw[show A.in1.handled=none from hh]
 exact wg (wt (wpAny_throw (fin _ _ (((xB ..).extBut.push _).push _) ⟨_,wN _ rfl,rfl⟩)))
theorem kb(hh:A.handled=none)(it tu:wf)(hne:tu≠it)(its:Array Value):Draws prog w A it [it,tu] its.size (λi v=>its[i]? = some v) (λi h=>h.IsTupleIter it tu i/\h.IsTuple tu its) where
 live:=λ_ _ st=>let ⟨o,ho,_⟩:=st.1;⟨o,ho⟩
 frame:=λ_ _ _ st hk=>⟨st.1.at λo e=>hk it (by simp) o e,st.2.at λo e=>hk tu (by simp) o e⟩
 item:=λi s Q E hi st hQ=>zsI st.1 st.2 (x:=its[i]) (by simp[hi]) λh' hit' hs'=>hQ _ h' s.toks (by simp[hi]) ⟨hit',st.2.extBut hs'.extBut hne⟩ hs'
 done:=λs Q E st hE=>Rf hh st.1 st.2 (by simp) hE
open AutoSeq1 (wpAny_loadPart') in
theorem zsq(tu:wf)(its:Array Value)(n:Nat)(dct:Option wf)(sl:Array (Option Value)):Meets (Builtin.«enumerate.__new__» ⟨[.type "enumerate",.ref tu],[]⟩) (λ_ R s=>s.heap.get? tu=some {cls:=.type "tuple",dict:=dct,data:=.seq its n,slots:=sl} /\
  R (.ok (.ret (.ref (s.heap.push {cls:=.type "tuple_iterator",data:=.fields #[.ref tu,.int 0 0]}).objs.size))) {s with heap:=(s.heap.push {cls:=.type "tuple_iterator",data:=.fields #[.ref tu,.int 0 0]}).push {cls:=.type "enumerate",data:=.fields #[.none,.bool false,.ref s.heap.objs.size,Vm 0,.none,.none]}}) :=
 .of_wp λprog w A R s h=>by
  obtain⟨hp,g,d,tk,os⟩:=s;obtain⟨et,h⟩:=h;have hsub:=sub_enumerate;have hT:xN (Xl ⟨hp,g,d,tk,os⟩) tu its:=⟨_,et,rfl,n,rfl⟩
  wp_walk using wpAny_loadPart' et
  refine wpAny_stack_any λst=>wt ?_
  split
  ·rename_i c _ _ _ _ _
   cases (c == Value.type "enumerate")<;>(wp_walk using wpAny_loadPart' et,W8 hT;exact⟨_,rfl,h⟩)
  ·wp_walk using wpAny_loadPart' et,W8 hT
   exact⟨_,rfl,h⟩
theorem ztO{tu:wf}{its:Array Value}{Q:Value->Shared->Prop}(hT:s.heap.IsTuple tu its)(fin:∀h',IsEnum h' (s.heap.objs.size+1) s.heap.objs.size 0 .none->h'.IsTupleIter s.heap.objs.size tu 0->(∀b o,s.heap.get? b=some o->h'.get? b=some o)->Q (.ref (s.heap.objs.size+1)) {s with heap:=h'}) :
  wq (model prog w) A (call (.type "enumerate") [.ref tu]) Q E s:=by
 obtain⟨⟨c,dct,dt,sl⟩,et,hc,n,hd⟩:=hT;obtain rfl:c=.type "tuple":=hc;obtain rfl:dt=.seq its n:=hd;refine callType_new F.called_enumerate (by decide) (F.typeCall_enumerate_1 _) (F.newCall_enumerate_1 _) (λobj=>F.args_object_init_2 obj _) F.entry_enumerate_new (zsq tu its n dct sl) ⟨et,?_⟩;have hz:(s.heap.push {cls:=.type "tuple_iterator",data:=.fields #[.ref tu,.int 0 0]}).objs.size=s.heap.objs.size+1:=VZ ..
 show _/\_
 rw[hz]
 have he:IsEnum ((s.heap.push {cls:=.type "tuple_iterator",data:=.fields #[.ref tu,.int 0 0]}).push {cls:=.type "enumerate",data:=.fields #[.none,.bool false,.ref s.heap.objs.size,Vm 0,.none,.none]}) (s.heap.objs.size+1) s.heap.objs.size 0 .none:=by
  rw[<- hz];exact wN _ rfl
 exact⟨⟨_,he,rfl⟩,fin _ he ⟨_,wm _ (wN _ rfl),rfl,rfl⟩ λb o x=>wm _ (wm _ x)⟩
end
def pE(K:wa)(a:wf):It :=
 ⟨λi H=>∃xs x,bA K H a xs/\xs[i]? = some x,λi H y H'=>∃t x,y=.ref t/\H t=none/\(∀xs,bA K H a xs->xs[i]? = some x)/\H'=upd H t (.tup [.int (i:Int),x]),λi H=>∃xs,bA K H a xs/\xs.length<=i⟩
theorem ztI{P:wK}{w:wQ}{K:wa}{elts:List Expr}{k1}{tpos:Pos}(a e it:wf)(hne:e≠it):j7 P w K (.Tuple elts k1 tpos) (pE K a) [e,it] e (λi h=>(∃old,IsEnum h e it (i:Int) old)/\h.IsTupleIter it a i) where
 mem:=by simp
 obj:=λi h st b hb=>by
  obtain⟨⟨old,he⟩,o,eo,c,d⟩:=st;rcases wH.mp hb with rfl | hb
  ·exact⟨_,he,λv z=>by cases (show Data.fields _=Data.cell v from z)⟩
  ·rw[wI.mp hb]
   exact⟨o,eo,λv z=>by rw[d]at z;cases z⟩
 keep:=λi h h' st k=>⟨let ⟨old,he⟩:=st.1;⟨old,k e (by simp) _ he⟩,st.2.at λo eo=>k it (by simp) o eo⟩
 item:=by
  intro X hP hw hK hc i pins s σ H E I hf st hg;subst hP hw hK;obtain⟨⟨old,he⟩,st⟩:=st;obtain⟨xs,x,hq,hx⟩:=hg;obtain⟨its,rv,p,hz⟩:=I.tuple hq;obtain⟨u,hu,ru⟩:=rv.get hx;have p':s.heap.IsTuple a its.toArray:=p
  have hai:a≠it:=λz=>by
   subst z;obtain⟨o,e1,c1,_⟩:=st;obtain⟨o',e2,c2,_⟩:=p';rw[e1]at e2;cases e2;rw[c1]at c2;exact absurd c2 (by decide)
  have hae:e≠a:=λz=>by
   subst z;obtain⟨o',e2,c2,_⟩:=p';rw[he]at e2;cases e2;exact absurd (show Value.type "enumerate"=Value.type "tuple" from c2) (by decide)
  have hlt:i<its.toArray.size:=by
   rcases wD i its.length with z | z
   ·simpa using z
   ·rw[wE z]at hu;cases hu
  refine wpAny_pyNext_enum_itemD (kb (A:=X.A.in1) (I.ok.hd hc) it a hai its.toArray) he ⟨st,p'⟩ hlt hne (by simp[hne,hae]) λv h1 tk hv ho hs1 hT hsz hk=>?_
  have hvu:v=u:=by
   have hv':its[i]? = some v:=by simpa using hv
   rw[hu]at hv';exact(wW hv').symm
  subst hvu
  have I1:Inv X pins σ (upd H s.heap.objs.size (.tup [.int (i:Int),x])) {s with heap:=s.heap.push {cls:=.type "tuple",data:=.seq ([.int (i:Int) tk,v]:List Value).toArray},toks:=tk+1} :=
   I.laid (λb o q=>wm _ q) (wn _) (show d7 X.prog X.w _ _ _ (.tup [.int (i:Int),x])from⟨oV (by simp),_,.cons ⟨_,rfl⟩ (.cons ru .nil),qM _ _⟩)
  have lt1:∀b∈[e,it],b<s.heap.objs.size:=λb hb=>by
   rcases wH.mp hb with rfl | hb
   ·exact wA he
   ·rw[wI.mp hb]
    obtain⟨o,eo,_⟩:=st;exact wA eo
  have hf1:∀b∈[e,it],fi X pins (upd H s.heap.objs.size (.tup [.int (i:Int),x])) b:=λb hb=>⟨by rw[eX (wO (lt1 b hb))];exact(hf b hb).1,(hf b hb).2⟩
  refine⟨_,rfl,wpAny_letOwnedTupleGo_enum ho λh2 he2 hs2=>?_⟩;refine⟨.ref s.heap.objs.size,_,Inv.tU (s:={s with heap:=s.heap.push {cls:=.type "tuple",data:=.seq ([.int (i:Int) tk,v]:List Value).toArray},toks:=tk+1}) (ch:=[e,it]) I1 (λb o hb q=>?_) hf1,rfl,⟨_,x,rfl,I.aO.fresh (wn _),λys hy=>by rw[I.Bc hy hq];exact hx,rfl⟩,⟨⟨_,by simpa using he2⟩,hs1.1.at λo eo=>(hs2.2 it (Wr hne)).trans eo⟩,λb hb=>(hf1 b hb).1⟩;have hbe:b≠e:=λz=>hb (by simp[z])
  have hbi:b≠it:=λz=>hb (by simp[z])
  refine(hs2.2 b hbe).trans ?_
  by_cases hb2:b=s.heap.objs.size
  ·subst hb2
   rw[wN _ rfl]at q;cases q;exact hT
  ·exact hk b o hbe hbi (by rw[Qr _ _ _ hb2]at q;exact q)
 done:=by
  intro X hP hw hK hc i pins s σ H E I hf st hg;subst hP hw hK;obtain⟨⟨old,he⟩,st⟩:=st;obtain⟨xs,hq,hx⟩:=hg;obtain⟨its,rv,p,hz⟩:=I.tuple hq;have p':s.heap.IsTuple a its.toArray:=p
  have hai:a≠it:=λz=>by
   subst z;obtain⟨o,e1,c1,_⟩:=st;obtain⟨o',e2,c2,_⟩:=p';rw[e1]at e2;cases e2;rw[c1]at c2;exact absurd c2 (by decide)
  have hl:=rv.length;have hT:s.TypeIs (.ref e) "enumerate":=⟨_,he,rfl⟩;unfold pyNext;refine wg (Vg (wpAny_callSpecial?_slot (name:=vQ "__next__") hT V2 (Wa V2 hT Q5 ?_ (QI _))))
  show wq _ _ (field (.ref e) 2 >>= _) _ _ _;refine wg (vi he rfl (x:=.ref it) rfl ?_)
  refine wg (Rf (A:=X.A.in1) (I.ok.hd hc) st p' (by simp;lia) λh' y he' hx'=>?_);obtain⟨o,ho,hcl⟩:=hx';refine wg (W3 (T:="StopIteration") (b:=true) ⟨o,ho,hcl⟩ isSubtype_stop (wt ⟨rfl,?_⟩));obtain⟨f0,f1,f2,f3,f4,f5⟩:=hf it (by simp);exact I.turned (t':=s.toks) (λb o hb e=>he' b o hb e) f0 f1 f3 f4 f5
 self:=λ_ _ _ _ _ st h=>let ⟨_,he⟩:=st.1;wpAny_pyIter_enum he h
def Dw(K:wa)(ta:TA):TI:=λσ H R=>ta σ H λvs H1=>∃a,vs=[.ref a]/\(∃xs,bA K H1 a xs)/\R (pE K a) H1
theorem Nk:vJ "enumerate"=some (.type "enumerate"):=by decide +kernel
theorem Ui{X:Cx}{elts:List Expr}{k1}{tpos p pos:Pos}{l:Expr}{ta:TA}(hg:Gl X "enumerate")(hm:X.mg "enumerate"=none)(ha:PA X [l] ta)(hs:wR [l] X.env=[(false,eval l X.env)]:=by rfl) :
  PI X (.Tuple elts k1 tpos) (.Call (.Name "enumerate" p) [l] [] pos) (Dw X.K ta):=by
 intro pins s σ H R I h;refine Call_ (iH I hg hm Nk (vg (aQ (ha pos pins s σ H _ I h) λus s1 ⟨vs,H1,I1,r1,q1⟩=>?_) hs rfl));obtain⟨a,rfl,⟨xs,hq⟩,q⟩:=q1;obtain⟨u,rfl,ru⟩:=jt r1;cases ru;obtain⟨its,rv,p,hz⟩:=I1.tuple hq;refine ztO (show s1.heap.IsTuple a its.toArray from p) λh' he hit kp=>?_
 refine wpAny_pyIter_enum he ?_;refine⟨s1.heap.objs.size+1,[s1.heap.objs.size+1,s1.heap.objs.size],_,_,H1,rfl,I1.kept (t':=s1.toks) kp,ztI a (s1.heap.objs.size+1) s1.heap.objs.size (Xz _),⟨⟨_,he⟩,hit⟩,λb hb=>?_,q⟩
 have hb':s1.heap.objs.size<=b:=by
  rcases wH.mp hb with rfl | hb
  ·lia
  ·rw[wI.mp hb];exact wn _
 exact I1.kq hb' (I1.aO.fresh hb')
def Uy(K:wa)(g:TG)(tb:TS)(D:cQ)(σ : St)(vs:List V)(H1:Hp):Prop:=∃a,vs=[.ref a]/\(∃xs,bA K H1 a xs) /\
 ∃W:Nat->Nat->St->Hp->Prop,(∃m,W 0 m σ H1) /\ ∀i m σ H,W i m σ H ->
  ((pE K a).stop i H/\D.nx σ H)\/((pE K a).go i H /\ ∃M:St->Hp->Prop,(∀σ' H',M σ' H'->∃m',m'<m/\W (i+1) m' σ' H') /\ ∀x H',(pE K a).fZ i H x H'->g x σ H' λσ2 H2=>tb {D with nx:=M,ct:=M,bk:=D.nx} σ2 H2)
section
variable{K:wa}{ta:TA}{g:TG}{tb:TS}{D:cQ}{σ : St}{H:Hp}{a:wf}{xs:List V}
theorem zzY(h:ta σ H λvs H1=>Uy K g tb D σ vs H1):lM (Dw K ta) g tb D σ H:=h
theorem ZF(hx:bA K H a xs)(Pv:Nat->St->Hp->Prop)(h0:Pv 0 σ H)(hl:∀i σ H,i<=xs.length->Pv i σ H->bA K H a xs)
  (hs:∀i x σ H t H',xs[i]? = some x->Pv i σ H->H t=none->ag H H'->H' t=some (.tup [.int (i:Int),x])->g (.ref t) σ H' λσ2 H2=>tb {D with nx:=Pv (i+1),ct:=Pv (i+1),bk:=D.nx} σ2 H2) (hd:∀σ H,Pv xs.length σ H->D.nx σ H):Uy K g tb D σ [.ref a] H:=by
 refine⟨a,rfl,⟨xs,hx⟩,λi m σ H=>i+m=xs.length/\Pv i σ H,⟨xs.length,by lia,h0⟩,?_⟩;rintro i m σ H ⟨him,hp⟩;have hq:=hl i σ H (by lia) hp
 by_cases hm:m=0
 ·have e:i=xs.length:=by lia
  subst e;exact .inl ⟨⟨xs,hq,wn _⟩,hd _ _ hp⟩
 ·have hi:i<xs.length:=by lia
  refine .inr ⟨⟨xs,xs[i],hq,by simp[hi]⟩,λσ' H'=>Pv (i+1) σ' H',λσ' H' h=>⟨m-1,by lia,by lia,h⟩,?_⟩;rintro y H' ⟨t,x,rfl,hn,hx',rfl⟩;exact hs i x σ H t _ (hx' xs hq) hp hn (ag.upd hn) c6
end
structure ZA(z TI TO i1 i2:wf)(f1 f2:List wf):Prop where
 a1:TI≠z
 a2:TO≠z
 a3:i1≠z
 a4:i2≠z
 a5:TI≠TO
 a6:TI≠i1
 a7:TI≠i2
 a8:TO≠i1
 a9:TO≠i2
 b0:i1≠i2
 b1:z ∉ f1
 b2:z ∉ f2
 b3:TO ∉ f1
 b4:TO ∉ f2
 b5:i1 ∉ f2
 b6:i2 ∉ f1
section
variable{prog:wK}{w:wQ}{A:Around}{E:Value->Shared->Prop}{s:Shared}{z TI TO i1 i2:wf}{f1 f2:List wf}{n1 n2 k:Nat}{P1 P2:Nat->Value->Prop}{S1 S2:Nat->wJ->Prop}{a b:Value}
theorem KW{Q:Value->Shared->Prop}(D1:Draws prog w A i1 f1 n1 P1 S1)(D2:Draws prog w A i2 f2 n2 P2 S2)(ap:ZA z TI TO i1 i2 f1 f2)(hz:IsZip s.heap z TI TO .none)(hi:Wo s.heap TI (.ref i1) (.ref i2))(ho:Wo s.heap TO a b)
  (h1:S1 k s.heap) (h2:S2 k s.heap) (l1:k<n1) (l2:k<n2)
  (fin:∀x y h' tk,P1 k x->P2 k y->IsZip h' z TI TO (Vm s.heap.objs.size)->Wo h' TO x y->S1 (k+1) h'->S2 (k+1) h'->Wo h' s.heap.objs.size x y ->
   (∀c o,c≠z->c≠TO->c≠i1->c≠i2->s.heap.get? c=some o->h'.get? c=some o)->Q (.ref s.heap.objs.size) {s with heap:=h',toks:=tk}) :
  wq (model prog w) A (Builtin.«zip.__next__» ⟨[.ref z],[]⟩) (λr s'=>∃v,r=.done (.ret v)/\Q v s') E s:=by
 show wq _ _ (field (.ref z) 2 >>= _) _ _ _;refine wg (vi hz rfl (x:=.bool false) rfl ?_)
 show wq _ _ (field (.ref z) 3 >>= _) _ _ _;refine wg (vi hz rfl (x:=.ref TI) rfl ?_)
 refine wg (Wn hi rfl ?_);show wq _ _ (vA (.ref z) >>= _) _ _ _
 refine wg ?_;unfold vA;refine wg (vi hz rfl (x:=.none) rfl (wt ?_));simp only[if_true];refine wg (wpAny_rule ?_);refine wg (vi hz rfl (x:=.ref TO) rfl ?_);refine wg (WM hz (by simp) λg1 zz1 sb1=>?_);have zz1:IsZip g1 z TI TO .ellipsis:=zz1;refine wg ?_;simp only[XA,XQ,qj,Qb];refine wg (wg (wpAny_onRaise ?_));show wq _ _ (vC (.ref i1) >>= _) _ _ _
 have h1a:S1 k g1:=D1.frame _ _ _ h1 λc hc o e=>sb1.extBut c o (λq=>ap.b1 (q ▸ hc)) e
 have h2a:S2 k g1:=D2.frame _ _ _ h2 λc hc o e=>sb1.extBut c o (λq=>ap.b2 (q ▸ hc)) e
 refine wg (D1.item k _ _ _ l1 h1a λx g2 t2 px h1b sb2=>wt ?_);have ho2:Wo g2 TO a b:=sb2.extBut _ _ ap.a8 (sb1.extBut _ _ ap.a2 ho);have h2b:S2 k g2:=D2.frame _ _ _ h2a λc hc o e=>sb2.extBut c o (λq=>ap.b5 (q ▸ hc)) e
 refine wg (Wn ho2 rfl ?_);refine wg (wpAny_updateSeq_pair ho2 λg3 ho3 sb3=>?_);have ho3:Wo g3 TO x b:=ho3;have sb3:vB TO g2 g3:=sb3;have h1c:S1 (k+1) g3:=D1.frame _ _ _ h1b λc hc o e=>sb3.extBut c o (λq=>ap.b3 (q ▸ hc)) e
 have h2c:S2 k g3:=D2.frame _ _ _ h2b λc hc o e=>sb3.extBut c o (λq=>ap.b4 (q ▸ hc)) e
 refine wg (wpAny_letGo (wt ?_));refine wg (wg (wpAny_onRaise ?_))
 show wq _ _ (vC (.ref i2) >>= _) _ _ _;refine wg (D2.item k _ _ _ l2 h2c λy g4 t4 py h2d sb4=>wt ?_)
 have sb4:vB i2 g3 g4:=sb4;have ho4:Wo g4 TO x b:=sb4.extBut _ _ ap.a9 ho3;have h1d:S1 (k+1) g4:=D1.frame _ _ _ h1c λc hc o e=>sb4.extBut c o (λq=>ap.b6 (q ▸ hc)) e
 refine wg (Wn ho4 rfl ?_);refine wg (wpAny_updateSeq_pair ho4 λg5 ho5 sb5=>?_);have ho5:Wo g5 TO x y:=ho5;have sb5:vB TO g4 g5:=sb5;have h1e:S1 (k+1) g5:=D1.frame _ _ _ h1d λc hc o e=>sb5.extBut c o (λq=>ap.b3 (q ▸ hc)) e
 have h2e:S2 (k+1) g5:=D2.frame _ _ _ h2d λc hc o e=>sb5.extBut c o (λq=>ap.b4 (q ▸ hc)) e
 refine wg (wpAny_letGo (wt (wt ?_)));refine wg (Wn ho5 rfl ?_);refine wg (wpAny_newTuple ?_);have sb2:vB i1 g1 g2:=sb2;have sb1:vB z s.heap g1:=sb1;have hsz:g5.objs.size=s.heap.objs.size:=by rw[sb5.1,sb4.1,sb3.1,sb2.1,sb1.1]
 have zz5:IsZip g5 z TI TO .ellipsis:=sb5.extBut _ _ ap.a2.symm (sb4.extBut _ _ ap.a4.symm (sb3.extBut _ _ ap.a2.symm (sb2.extBut _ _ ap.a3.symm zz1)));have kept:∀c o,c≠z->c≠TO->c≠i1->c≠i2->s.heap.get? c=some o->g5.get? c=some o:=λc o c1 c2 c3 c4 e=>sb5.extBut _ _ c2 (sb4.extBut _ _ c4 (sb3.extBut _ _ c2 (sb2.extBut _ _ c3 (sb1.extBut _ _ c1 e))))
 have zlt:z<g5.objs.size:=wA zz5
 show wq _ _ (qx (.ref z) (.ref g5.objs.size) >>= _) _ _ _;refine wg ?_;unfold qx
 have zz6:IsZip (g5.push {cls:=.type "tuple",data:=.seq #[x,y]}) z TI TO .ellipsis:=wm _ zz5;refine wg (WM zz6 (by simp) λg7 zz7 sb7=>?_);have zz7:IsZip g7 z TI TO (Vm g5.objs.size):=zz7;refine WM zz7 (by simp) λg8 zz8 sb8=>?_
 have zz8:IsZip g8 z TI TO (Vm g5.objs.size):=zz8;have sb7:vB z (g5.push {cls:=.type "tuple",data:=.seq #[x,y]}) g7:=sb7;have sb8:vB z g7 g8:=sb8;have up:∀c o,c≠z->g5.get? c=some o->g8.get? c=some o:=λc o c1 e=>sb8.extBut _ _ c1 (sb7.extBut _ _ c1 (wm _ e))
 have new8:Wo g8 g5.objs.size x y:=sb8.extBut _ _ (vc zlt) (sb7.extBut _ _ (vc zlt) (wN _ rfl));rw[hsz]at zz8 new8;refine wt ⟨_,rfl,?_⟩
 show Q (.ref g5.objs.size) _
 rw[hsz];exact fin x y g8 _ px py zz8 (up _ _ ap.a2 ho5) (D1.frame _ _ _ h1e λc hc o e=>up c o (λq=>ap.b1 (q ▸ hc)) e) (D2.frame _ _ _ h2e λc hc o e=>up c o (λq=>ap.b2 (q ▸ hc)) e) new8 λc o c1 c2 c3 c4 e=>up c o c1 (kept c o c1 c2 c3 c4 e)
theorem KP{Q:Fin->Shared->Prop}(D1:Draws prog w A i1 f1 n1 P1 S1)(D2:Draws prog w A i2 f2 n2 P2 S2)(ap:ZA z TI TO i1 i2 f1 f2)(hz:IsZip s.heap z TI TO .none)(hi:Wo s.heap TI (.ref i1) (.ref i2))(ho:Wo s.heap TO a b)
  (h1:S1 k s.heap) (h2:S2 k s.heap) (hk:k=n1\/(k<n1/\k=n2))
  (fin:∀h' e tk,(∀c o,c≠z->c≠TO->c≠i1->c≠i2->s.heap.get? c=some o->h'.get? c=some o)->(∃o,h'.get? e=some o/\o.cls=.type "StopIteration")->E (.ref e) {s with heap:=h',toks:=tk}) :
  wq (model prog w) A (Builtin.«zip.__next__» ⟨[.ref z],[]⟩) Q E s:=by
 show wq _ _ (field (.ref z) 2 >>= _) _ _ _;refine wg (vi hz rfl (x:=.bool false) rfl ?_)
 show wq _ _ (field (.ref z) 3 >>= _) _ _ _;refine wg (vi hz rfl (x:=.ref TI) rfl ?_)
 refine wg (Wn hi rfl ?_);show wq _ _ (vA (.ref z) >>= _) _ _ _
 refine wg ?_;unfold vA;refine wg (vi hz rfl (x:=.none) rfl (wt ?_));simp only[if_true];refine wg (wpAny_rule ?_);refine wg (vi hz rfl (x:=.ref TO) rfl ?_);refine wg (WM hz (by simp) λg1 zz1 sb1=>?_);have zz1:IsZip g1 z TI TO .ellipsis:=zz1;have sb1:vB z s.heap g1:=sb1;refine wg ?_;simp only[XA,XQ,qj,Qb];refine wg (wg (wpAny_onRaise ?_));show wq _ _ (vC (.ref i1) >>= _) _ _ _
 have h1a:S1 k g1:=D1.frame _ _ _ h1 λc hc o e=>sb1.extBut c o (λq=>ap.b1 (q ▸ hc)) e
 have h2a:S2 k g1:=D2.frame _ _ _ h2 λc hc o e=>sb1.extBut c o (λq=>ap.b2 (q ▸ hc)) e
 rcases hk with rfl | ⟨l1,rfl⟩
 ·refine wg (D1.done _ _ _ h1a λg2 e sb2 he=>?_)
  obtain⟨oe,hoe,hce⟩:=he;have zz2:IsZip g2 z TI TO .ellipsis:=sb2 _ _ ap.a3.symm zz1;have hez:e≠z:=λq=>by subst q;rw[zz2]at hoe;cases hoe;simp at hce
  exact WM zz2 (by simp) λg3 _ sb3=>fin g3 e _ (λc o c1 _ c3 _ q=>sb3.extBut _ _ c1 (sb2 _ _ c3 (sb1.extBut _ _ c1 q))) ⟨oe,sb3.extBut _ _ hez hoe,hce⟩
 ·refine wg (D1.item k _ _ _ l1 h1a λx g2 t2 px h1b sb2=>wt ?_)
  have sb2:vB i1 g1 g2:=sb2;have ho2:Wo g2 TO a b:=sb2.extBut _ _ ap.a8 (sb1.extBut _ _ ap.a2 ho);have h2b:S2 k g2:=D2.frame _ _ _ h2a λc hc o e=>sb2.extBut c o (λq=>ap.b5 (q ▸ hc)) e
  refine wg (Wn ho2 rfl ?_);refine wg (wpAny_updateSeq_pair ho2 λg3 ho3 sb3=>?_);have sb3:vB TO g2 g3:=sb3;have h2c:S2 k g3:=D2.frame _ _ _ h2b λc hc o e=>sb3.extBut c o (λq=>ap.b4 (q ▸ hc)) e
  refine wg (wpAny_letGo (wt ?_));refine wg (wg (wpAny_onRaise ?_))
  show wq _ _ (vC (.ref i2) >>= _) _ _ _;refine wg (D2.done _ _ _ h2c λg4 e sb4 he=>?_)
  obtain⟨oe,hoe,hce⟩:=he;have zz4:IsZip g4 z TI TO .ellipsis:=sb4 _ _ ap.a4.symm (sb3.extBut _ _ ap.a2.symm (sb2.extBut _ _ ap.a3.symm zz1));have hez:e≠z:=λq=>by subst q;rw[zz4]at hoe;cases hoe;simp at hce
  exact WM zz4 (by simp) λg5 _ sb5=>fin g5 e _ (λc o c1 c2 c3 c4 q=>sb5.extBut _ _ c1 (sb4 _ _ c4 (sb3.extBut _ _ c2 (sb2.extBut _ _ c3 (sb1.extBut _ _ c1 q))))) ⟨oe,sb5.extBut _ _ hez hoe,hce⟩
end
variable{t:Bool}{a:wf}
def c_(t:Bool)(K:wa)(H:Hp)(a:wf)(xs:List V):Prop:=match t with
 | true=>bA K H a xs
 | false=>aP K H a xs
def kc(t:Bool)(h:wJ)(it a:wf)(i:Nat):Prop:=match t with
 | true=>h.IsTupleIter it a i
 | false=>h.IsListIter it a i
def P9(t:Bool)(h:wJ)(a:wf)(its:Array Value):Prop:=match t with
 | true=>h.IsTuple a its
 | false=>h.IsList a its
theorem p7{prog:wK}{w:wQ}{A:Around}(t:Bool)(hh:A.handled=none)(it a:wf)(hne:a≠it)(its:Array Value):Draws prog w A it [it,a] its.size (λi v=>its[i]? = some v) (λi h=>kc t h it a i/\P9 t h a its):=by
 cases t
 ·exact Draws.list hh it a hne its
 ·exact kb hh it a hne its
theorem Inv.jO{X:Cx}{pins:List (wf × Obj)}{σ : L2.St}{H:Hp}{s:Shared}{xs:List V}(I:Inv X pins σ H s)(h:c_ t X.K H a xs):∃its:List Value,aW xs its/\P9 t s.heap a its.toArray:=by
 cases t
 ·obtain⟨its,r,p,_⟩:=I.list h
  exact⟨its,r,p.isList⟩
 ·obtain⟨its,r,p,_⟩:=I.tuple h
  exact⟨its,r,p⟩
theorem Inv.J3{X:Cx}{pins:List (wf × Obj)}{σ : L2.St}{H:Hp}{s:Shared}{xs ys:List V}(I:Inv X pins σ H s)(h:c_ t X.K H a xs)(k:c_ t X.K H a ys):xs=ys:=by
 cases t
 ·exact I.Bi h k
 ·exact I.Bc h k
theorem kc.obj{h:wJ}{it:wf}{i:Nat}(st:kc t h it a i):∃o,h.get? it=some o /\ ∀v,o.data≠.cell v:=by
 cases t
 ·obtain⟨o,e,_,d⟩:=st
  exact⟨o,e,λv z=>by rw[d]at z;cases z⟩
 ·obtain⟨o,e,_,d⟩:=st
  exact⟨o,e,λv z=>by rw[d]at z;cases z⟩
theorem kc.at{h h':wJ}{it:wf}{i:Nat}(st:kc t h it a i)(k:∀o,h.get? it=some o->h'.get? it=some o):kc t h' it a i:=by
 cases t
 ·exact Heap.IsListIter.at st k
 ·exact Heap.IsTupleIter.at st k
def mU(t u:Bool)(K:wa)(a b:wf):It :=
 ⟨λi H=>∃xs x ys y,c_ t K H a xs/\xs[i]? = some x/\c_ u K H b ys/\ys[i]? = some y,
  λi H v H'=>∃(c:wf)(x y:V),v=.ref c/\H c=none/\(∀xs,c_ t K H a xs->xs[i]? = some x)/\(∀ys,c_ u K H b ys->ys[i]? = some y)/\H'=upd H c (.tup [x,y]),
  λi H=>∃xs ys,c_ t K H a xs/\c_ u K H b ys/\(xs.length=i\/(i<xs.length/\ys.length=i))⟩
theorem zzz{P:wK}{w:wQ}{K:wa}{elts:List Expr}{k1}{tpos:Pos}{u:Bool}(a b z TI TO i1 i2:wf)(ap:ZA z TI TO i1 i2 [i1,a] [i2,b])(na:a≠i1)(nb:b≠i2) :
  j7 P w K (.Tuple elts k1 tpos) (mU t u K a b) [z,TI,TO,i1,i2] z (λi h=>IsZip h z TI TO .none/\Wo h TI (.ref i1) (.ref i2)/\(∃p q,Wo h TO p q)/\kc t h i1 a i/\kc u h i2 b i) where
 mem:=by simp
 obj:=λi h st c hc=>by
  obtain⟨hz,hi,⟨p,q,ho⟩,s1,s2⟩:=st;simp only[wH,W1,or_false]at hc;rcases hc with rfl | rfl | rfl | rfl | rfl
  ·exact⟨_,hz,λv z=>by cases (show Data.fields _=Data.cell v from z)⟩
  ·exact⟨_,hi,λv z=>by cases (show Data.seq _ _=Data.cell v from z)⟩
  ·exact⟨_,ho,λv z=>by cases (show Data.seq _ _=Data.cell v from z)⟩
  ·exact s1.obj
  ·exact s2.obj
 keep:=λi h h' st k=>by
  obtain⟨hz,hi,⟨p,q,ho⟩,s1,s2⟩:=st;exact⟨k z (by simp) _ hz,k TI (by simp) _ hi,⟨p,q,k TO (by simp) _ ho⟩,s1.at λo e=>k i1 (by simp) o e,s2.at λo e=>k i2 (by simp) o e⟩
 item:=by
  intro X hP hw hK hc i pins s σ H E I hf st hg;subst hP hw hK;obtain⟨hz,hi,⟨p,q,ho⟩,s1,s2⟩:=st;obtain⟨xs,x,ys,y,hq1,hx,hq2,hy⟩:=hg;obtain⟨its,r1,p1⟩:=I.jO hq1;obtain⟨jts,r2,p2⟩:=I.jO hq2;obtain⟨ux,hux,rux⟩:=r1.get hx;obtain⟨uy,huy,ruy⟩:=r2.get hy
  have lt1:i<its.toArray.size:=by
   rcases wD i its.length with q | q
   ·simpa using q
   ·rw[wE q]at hux;cases hux
  have lt2:i<jts.toArray.size:=by
   rcases wD i jts.length with q | q
   ·simpa using q
   ·rw[wE q]at huy;cases huy
  have hT:s.TypeIs (.ref z) "zip":=⟨_,hz,rfl⟩;unfold pyNext
  refine wg (Vg (wpAny_callSpecial?_slot (name:=vQ "__next__") hT Wh (Wa Wh hT VD
   (KW (p7 (A:=X.A.in1) t (I.ok.hd hc) i1 a na its.toArray) (p7 (A:=X.A.in1) u (I.ok.hd hc) i2 b nb jts.toArray) ap hz hi ho ⟨s1,p1⟩ ⟨s2,p2⟩ lt1 lt2 λv1 v2 h1 tk e1 e2 hz1 ho1 st1 st2 hT1 hk=>wt ?_) (Vk _))))
  have ev1:v1=ux:=by
   have e1':its[i]? = some v1:=by simpa using e1
   rw[hux]at e1';exact(wW e1').symm
  have ev2:v2=uy:=by
   have e2':jts[i]? = some v2:=by simpa using e2
   rw[huy]at e2';exact(wW e2').symm
  subst ev1 ev2
  have I1:Inv X pins σ (upd H s.heap.objs.size (.tup [x,y])) {s with heap:=s.heap.push {cls:=.type "tuple",data:=.seq ([v1,v2]:List Value).toArray},toks:=tk} :=
   I.laid (λc o q=>wm _ q) (wn _) (show d7 X.prog X.w _ _ _ (.tup [x,y])from⟨oV (by simp),_,.cons rux (.cons ruy .nil),qM _ _⟩)
  have ltf:∀c∈[z,TI,TO,i1,i2],c<s.heap.objs.size:=λc hc=>by
   simp only[wH,W1,or_false]at hc;rcases hc with rfl | rfl | rfl | rfl | rfl
   ·exact wA hz
   ·exact wA hi
   ·exact wA ho
   ·obtain⟨o,e,_⟩:=s1.obj;exact wA e
   ·obtain⟨o,e,_⟩:=s2.obj;exact wA e
  have hf1:∀c∈[z,TI,TO,i1,i2],fi X pins (upd H s.heap.objs.size (.tup [x,y])) c:=λc hc=>⟨by rw[eX (wO (ltf c hc))];exact(hf c hc).1,(hf c hc).2⟩
  refine⟨_,rfl,wpAny_letOwnedTupleGo_zip hz1 λh2 hz2 hs2=>?_⟩;have hs2:vB z h1 h2:=hs2
  refine⟨.ref s.heap.objs.size,_,Inv.tU (s:={s with heap:=s.heap.push {cls:=.type "tuple",data:=.seq ([v1,v2]:List Value).toArray},toks:=tk}) (ch:=[z,TI,TO,i1,i2]) I1 (λc o hc q=>?_) hf1,rfl,
   ⟨_,x,y,rfl,I.aO.fresh (wn _),λzs hzs=>by rw[I.J3 hzs hq1];exact hx,λzs hzs=>by rw[I.J3 hzs hq2];exact hy,rfl⟩,
   ⟨hz2,hs2.extBut _ _ ap.a1 (hk _ _ ap.a1 ap.a5 ap.a6 ap.a7 hi),⟨_,_,hs2.extBut _ _ ap.a2 ho1⟩,st1.1.at λo e=>hs2.extBut _ _ ap.a3 e,st2.1.at λo e=>hs2.extBut _ _ ap.a4 e⟩,λc hc=>(hf1 c hc).1⟩
  have c1:c≠z:=λq=>hc (by simp[q])
  have c2:c≠TO:=λq=>hc (by simp[q])
  have c3:c≠i1:=λq=>hc (by simp[q])
  have c4:c≠i2:=λq=>hc (by simp[q])
  refine hs2.extBut _ _ c1 ?_
  by_cases hcs:c=s.heap.objs.size
  ·subst hcs
   rw[wN _ rfl]at q;cases q;exact hT1
  ·exact hk c o c1 c2 c3 c4 (by rw[Qr _ _ _ hcs]at q;exact q)
 done:=by
  intro X hP hw hK hc i pins s σ H E I hf st hg;subst hP hw hK;obtain⟨hz,hi,⟨p,q,ho⟩,s1,s2⟩:=st;obtain⟨xs,ys,hq1,hq2,hend⟩:=hg;obtain⟨its,r1,p1⟩:=I.jO hq1;obtain⟨jts,r2,p2⟩:=I.jO hq2;have e1:=r1.length;have e2:=r2.length;have hT:s.TypeIs (.ref z) "zip":=⟨_,hz,rfl⟩;unfold pyNext
  refine wg (Vg (wpAny_callSpecial?_slot (name:=vQ "__next__") hT Wh (Wa Wh hT VD
   (KP (k:=i) (p7 (A:=X.A.in1) t (I.ok.hd hc) i1 a na its.toArray) (p7 (A:=X.A.in1) u (I.ok.hd hc) i2 b nb jts.toArray) ap hz hi ho ⟨s1,p1⟩ ⟨s2,p2⟩ (by simp only[wF];lia) λh' y tk hk hx'=>?_) (Vk _))))
  obtain⟨o,ho',hcl⟩:=hx';refine wg (W3 (T:="StopIteration") (b:=true) ⟨o,ho',hcl⟩ isSubtype_stop (wt ⟨rfl,?_⟩));exact Inv.tU (ch:=[z,TI,TO,i1,i2]) I (λc o hc e=>hk c o (λq=>hc (by simp[q])) (λq=>hc (by simp[q])) (λq=>hc (by simp[q])) (λq=>hc (by simp[q])) e) hf
 self:=λ_ _ _ _ _ st h=>wpAny_pyIter_zip st.1 h
abbrev zr(h:wJ)(a:wf):wJ:=h.push {cls:=.type "tuple_iterator",data:=.fields #[.ref a,.int 0 0]}
abbrev w_(h:wJ)(a b:wf):wJ:=(zr h a).push {cls:=.type "tuple_iterator",data:=.fields #[.ref b,.int 0 0]}
abbrev uS(h:wJ)(a b:wf):wJ:=(w_ h a b).push {cls:=.type "tuple",data:=.seq #[.ref h.objs.size,.ref (zr h a).objs.size]}
abbrev zF(h:wJ)(a b:wf):wJ:=(uS h a b).push {cls:=.type "tuple",data:=.seq #[.none,.none]}
abbrev pX(h:wJ)(a b:wf):wJ:=(zF h a b).push {cls:=.type "zip",data:=.fields #[.none,.bool false,.bool false,.ref (w_ h a b).objs.size,.ref (uS h a b).objs.size]}
theorem zuI(a b:wf)(xs ys:Array Value):Meets (Builtin.«zip.__new__» ⟨[.type "zip",.ref a,.ref b],[]⟩) (λ_ R s=>s.heap.IsTuple a xs/\s.heap.IsTuple b ys/\R (.ok (.ret (.ref (zF s.heap a b).objs.size))) {s with heap:=pX s.heap a b}) :=
 .of_wp λprog w A R s h=>by
  obtain⟨hp,g,d,tk,os⟩:=s;obtain⟨ha,hb,h⟩:=h;have hsub:=sub_zip;have hA:xN (Xl ⟨hp,g,d,tk,os⟩) a xs:=ha;have hB:xN (Xl ⟨hp.push {cls:=.type "tuple_iterator",data:=.fields #[.ref a,.int 0 0]},g,d,tk,os⟩) b ys:=hb.at λo e=>wm _ e
  wp_walk using W8 hA,W8 hB
  exact⟨_,rfl,h⟩
section
variable{prog:wK}{w:wQ}{A:Around}{E:Value->Shared->Prop}{s:Shared}
theorem Pl{a b:wf}{xs ys:Array Value}{Q:Value->Shared->Prop}(ha:s.heap.IsTuple a xs)(hb:s.heap.IsTuple b ys)
  (fin:∀h',IsZip h' (s.heap.objs.size+4) (s.heap.objs.size+2) (s.heap.objs.size+3) .none->Wo h' (s.heap.objs.size+2) (.ref s.heap.objs.size) (.ref (s.heap.objs.size+1))->Wo h' (s.heap.objs.size+3) .none .none ->
   h'.IsTupleIter s.heap.objs.size a 0->h'.IsTupleIter (s.heap.objs.size+1) b 0->(∀c o,s.heap.get? c=some o->h'.get? c=some o)->Q (.ref (s.heap.objs.size+4)) {s with heap:=h'}):wq (model prog w) A (call (.type "zip") [.ref a,.ref b]) Q E s:=by
 refine callType_new F.called_zip (by decide) (F.typeCall_zip_2 _ _) (F.newCall_zip_2 _ _) (λobj=>F.args_object_init_3 obj _ _) F.entry_zip_new (zuI a b xs ys) ⟨ha,hb,?_⟩;have z1:(zr s.heap a).objs.size=s.heap.objs.size+1:=VZ ..;have z2:(w_ s.heap a b).objs.size=s.heap.objs.size+2:=by rw[VZ,z1]
 have z3:(uS s.heap a b).objs.size=s.heap.objs.size+3:=by rw[VZ,z2]
 have z4:(zF s.heap a b).objs.size=s.heap.objs.size+4:=by rw[VZ,z3]
 have g5:(pX s.heap a b).get? (zF s.heap a b).objs.size=some _:=wN _ rfl;have g4:(pX s.heap a b).get? (uS s.heap a b).objs.size=some _:=wm _ (wN _ rfl);have g3:(pX s.heap a b).get? (w_ s.heap a b).objs.size=some _:=wm _ (wm _ (wN _ rfl));have g2:(pX s.heap a b).get? (zr s.heap a).objs.size=some _:=wm _ (wm _ (wm _ (wN _ rfl)));have g1:(pX s.heap a b).get? s.heap.objs.size=some _:=wm _ (wm _ (wm _ (wm _ (wN _ rfl))))
 show _/\_
 rw[z2,z3,z4]at g5;rw[z1,z2]at g3;rw[z3]at g4;rw[z1]at g2;rw[z4];exact⟨⟨_,g5,rfl⟩,fin _ g5 g3 g4 ⟨_,g1,rfl,rfl⟩ ⟨_,g2,rfl,rfl⟩ λc o x=>wm _ (wm _ (wm _ (wm _ (wm _ x))))⟩
end
variable{a:wf}{X:Cx}{elts:List Expr}{tpos:Pos}
def uG(t u:Bool)(K:wa)(ta:TA):TI:=λσ H R=>ta σ H λvs H1=>∃a b,vs=[.ref a,.ref b]/\(∃xs,c_ t K H1 a xs)/\(∃ys,c_ u K H1 b ys)/\R (mU t u K a b) H1
theorem CA :vJ "zip"=some (.type "zip"):=by decide +kernel
theorem pq{x b:wf}(h:x≠a)(k:x≠b):x ∉ [a,b]:=by simp[h,k]
theorem Nd{n a b:Nat}(la:a<n)(lb:b<n):ZA (n+4) (n+2) (n+3) n (n+1) [n,a] [n+1,b] where
 a1:=wO (by lia)
 a2:=wO (by lia)
 a3:=wO (by lia)
 a4:=wO (by lia)
 a5:=wO (by lia)
 a6:=vc (by lia)
 a7:=vc (by lia)
 a8:=vc (by lia)
 a9:=vc (by lia)
 b0:=wO (by lia)
 b1:=pq (vc (by lia)) (vc (by lia))
 b2:=pq (vc (by lia)) (vc (by lia))
 b3:=pq (vc (by lia)) (vc (by lia))
 b4:=pq (vc (by lia)) (vc (by lia))
 b5:=pq (wO (by lia)) (vc (by lia))
 b6:=pq (vc (by lia)) (vc (by lia))
theorem M9{k1}{pins:List (wf × Obj)}{σ : L2.St}{H:Hp}{s:Shared}{R:It->Hp->Prop}{h':wJ}{E:Value->Shared->Prop}{t u:Bool}{b:wf}(I:Inv X pins σ H s)(la:a<s.heap.objs.size)(lb:b<s.heap.objs.size)
  (hz:IsZip h' (s.heap.objs.size+4) (s.heap.objs.size+2) (s.heap.objs.size+3) .none) (hi:Wo h' (s.heap.objs.size+2) (.ref s.heap.objs.size) (.ref (s.heap.objs.size+1))) (ho:Wo h' (s.heap.objs.size+3) .none .none)
  (s1:kc t h' s.heap.objs.size a 0) (s2:kc u h' (s.heap.objs.size+1) b 0) (kp:∀c o,s.heap.get? c=some o->h'.get? c=some o) (q:R (mU t u X.K a b) H):wq (model X.prog X.w) X.A (pyIter (.ref (s.heap.objs.size+4))) (Fg X pins σ (.Tuple elts k1 tpos) R) E {s with heap:=h'}:=by
 refine wpAny_pyIter_zip hz ?_;refine⟨s.heap.objs.size+4,[s.heap.objs.size+4,s.heap.objs.size+2,s.heap.objs.size+3,s.heap.objs.size,s.heap.objs.size+1],_,_,H,rfl,I.kept (t':=s.toks) kp,zzz a b _ (s.heap.objs.size+2) (s.heap.objs.size+3) s.heap.objs.size (s.heap.objs.size+1) (Nd la lb) (wO la) (wO (qG lb)),⟨hz,hi,⟨_,_,ho⟩,s1,s2⟩,λc hc=>?_,q⟩
 ·have hb':s.heap.objs.size<=c:=by
   simp only[wH,W1,or_false]at hc;rcases hc with rfl | rfl | rfl | rfl | rfl
   ·exact W2 _ 4
   ·exact W2 _ 2
   ·exact W2 _ 3
   ·exact wn _
   ·exact W2 _ 1
  exact I.kq hb' (I.aO.fresh hb')
theorem zAT{k1}{p pos:Pos}{l m:Expr}{ta:TA}(hg:Gl X "zip")(hm:X.mg "zip"=none)(ha:PA X [l,m] ta)(hs:wR [l,m] X.env=[(false,eval l X.env),(false,eval m X.env)]:=by rfl)(hs2:wR [m] X.env=[(false,eval m X.env)]:=by rfl) :
  PI X (.Tuple elts k1 tpos) (.Call (.Name "zip" p) [l,m] [] pos) (uG true true X.K ta):=by
 intro pins s σ H R I h;refine Call_ (iH I hg hm CA (vg (aQ (ha pos pins s σ H _ I h) λus s1 ⟨vs,H1,I1,r1,q1⟩=>?_) (by rw[hs,hs2]) (by rw[hs2];rfl)));obtain⟨a,b,rfl,⟨xs,hq1⟩,⟨ys,hq2⟩,q⟩:=q1;obtain⟨u,v,rfl,ru,rv⟩:=nk r1;cases ru;cases rv;obtain⟨its,_,p1⟩:=I1.jO hq1;obtain⟨jts,_,p2⟩:=I1.jO hq2;have la:a<s1.heap.objs.size:=by obtain⟨o,e,_⟩:=(show s1.heap.IsTuple a its.toArray from p1);exact wA e
 have lb:b<s1.heap.objs.size:=by obtain⟨o,e,_⟩:=(show s1.heap.IsTuple b jts.toArray from p2);exact wA e
 exact Pl p1 p2 λh' hz hi ho t1 t2 kp=>M9 (t:=true) (u:=true) I1 la lb hz hi ho t1 t2 kp q
theorem SR{k1}{p pos:Pos}{l m:Expr}{ta:TA}(hg:Gl X "zip")(hm:X.mg "zip"=none)(ha:PA X [l,m] ta)(hs:wR [l,m] X.env=[(false,eval l X.env),(false,eval m X.env)]:=by rfl)(hs2:wR [m] X.env=[(false,eval m X.env)]:=by rfl) :
  PI X (.Tuple elts k1 tpos) (.Call (.Name "zip" p) [l,m] [] pos) (uG false false X.K ta):=by
 intro pins s σ H R I h;refine Call_ (iH I hg hm CA (vg (aQ (ha pos pins s σ H _ I h) λus s1 ⟨vs,H1,I1,r1,q1⟩=>?_) (by rw[hs,hs2]) (by rw[hs2];rfl)));obtain⟨a,b,rfl,⟨xs,hq1⟩,⟨ys,hq2⟩,q⟩:=q1;obtain⟨u,v,rfl,ru,rv⟩:=nk r1;cases ru;cases rv;obtain⟨its,_,p1⟩:=I1.jO hq1;obtain⟨jts,_,p2⟩:=I1.jO hq2;have la:a<s1.heap.objs.size:=by obtain⟨o,e,_⟩:=(show s1.heap.IsList a its.toArray from p1);exact wA e
 have lb:b<s1.heap.objs.size:=by obtain⟨o,e,_⟩:=(show s1.heap.IsList b jts.toArray from p2);exact wA e
 exact call_zip_2 p1 p2 λh' hz hi ho t1 t2 _ kp=>M9 (t:=false) (u:=false) I1 la lb hz hi ho t1 t2 kp q
theorem c_.same{t:Bool}{K:wa}{H H':Hp}{xs:List V}(s:ag H H')(h:c_ t K H a xs):c_ t K H' a xs:=by
 cases t
 ·exact s.seq h
 ·exact s.j6 h
def Ms(t u:Bool)(K:wa)(g:TG)(tb:TS)(D:cQ)(σ : L2.St)(vs:List V)(H1:Hp):Prop:=∃a b,vs=[.ref a,.ref b]/\(∃xs,c_ t K H1 a xs)/\(∃ys,c_ u K H1 b ys) /\
 ∃W:Nat->Nat->L2.St->Hp->Prop,(∃m,W 0 m σ H1) /\ ∀i m σ H,W i m σ H ->
  ((mU t u K a b).stop i H/\D.nx σ H)\/((mU t u K a b).go i H /\ ∃M:L2.St->Hp->Prop,(∀σ' H',M σ' H'->∃m',m'<m/\W (i+1) m' σ' H') /\ ∀x H',(mU t u K a b).fZ i H x H'->g x σ H' λσ2 H2=>tb {D with nx:=M,ct:=M,bk:=D.nx} σ2 H2)
def Dh(t u:Bool)(K:wa)(g:TG)(tt:TT)(te:TE)(src:List (Option Nat))(σ : L2.St)(vs:List V)(H1:Hp)(Q:VK):Prop:=∃a b,vs=[.ref a,.ref b]/\(∃xs,c_ t K H1 a xs)/\(∃ys,c_ u K H1 b ys) /\
 ∀D,H1 D=none->kA g tt te (mU t u K a b) D (d9 src σ) (upd H1 D (.lst [])) (λH'=>Q (.ref D) H')
section
variable{t u:Bool}{K:wa}{ta:TA}{g:TG}{tb:TS}{tt:TT}{te:TE}{D:cQ}{σ : L2.St}{H:Hp}{Q:VK}{a b:wf}{xs ys:List V}{src:List (Option Nat)}{o0 o0':Option V}{tl:L2.St}
theorem zBg(h:ta σ H λvs H1=>Ms t u K g tb D σ vs H1):lM (uG t u K ta) g tb D σ H:=h
theorem zyW(h:ta σ H λvs H1=>Dh t u K g tt te src σ vs H1 Q):kT src (uG t u K ta) g tt te σ H Q:=h
def gX(H:Hp)(tl:L2.St)(Rel:Nat->V->Hp->Prop)(D:wf)(i:Nat)(zs:List V)(σ':L2.St)(H':Hp):Prop :=
 (∃o1 o2,σ'=o1::o2::tl)/\H D=none/\ag H H'/\H' D=some (.lst zs)/\zs.length=i /\ ∀j y,zs[j]? = some y->Rel j y H'
theorem Aq{Rel:Nat->V->Hp->Prop}{D:wf}{i:Nat}{zs:List V}{σ' σ3:L2.St}{H1 H5:Hp}{y:V}(inv:gX H tl Rel D i zs σ' H1)(hi:i<=1000)(hk:∀i v H1 H2,bE H1 H2->Rel i v H1->Rel i v H2)(hσ : ∃o1 o2,σ3=o1::o2::tl)(s:ag H1 H5)(r:Rel i y H5):tF (gX H tl Rel) D i σ3 y H5:=by
 obtain⟨_,hn,s1,hD,hl,hr⟩:=inv;have hD5:=s _ _ hD;refine nj hD5 (by lia) λH6 E6 e6=>⟨hσ,hn,(s1.trans s).grow hn E6,e6,by simp[hl],λj z hz=>?_⟩
 have k6:bE H5 H6:=E6.keep hD5;rcases wD j zs.length with hj | hj
 ·rw[vR hj]at hz
  exact hk _ _ _ _ (s.keep.trans k6) (hr j z hz)
 ·have hj':j=zs.length:=by
   rcases wD zs.length j with q | q
   ·rw[wE (by simp;lia)]at hz;cases hz
   ·lia
  subst hj';rw[vf (wn _),W7]at hz;cases hz;rw[hl];exact hk _ _ _ _ k6 r
theorem zzW(hx:c_ t K H a xs)(hy:c_ u K H b ys)(hxy:xs.length=ys.length)(hsrc:d9 src σ = o0::o0'::tl)(Rel:Nat->V->Hp->Prop)(hk:∀i v H1 H2,bE H1 H2->Rel i v H1->Rel i v H2)
  (hs:∀D i x y zs o1 o2 H1 c,xs[i]? = some x->ys[i]? = some y->gX H tl Rel D i zs (o1::o2::tl) H1->H1 c=some (.tup [x,y])->jb (gX H tl Rel) g tt te D i (.ref c) (o1::o2::tl) H1)
  (hd:∀D zs H',H D=none->ag H H'->H' D=some (.lst zs)->zs.length=xs.length->(∀j y,zs[j]? = some y->Rel j y H')->Q (.ref D) H'):Dh t u K g tt te src σ [.ref a,.ref b] H Q:=by
 refine⟨a,b,rfl,⟨xs,hx⟩,⟨ys,hy⟩,λD hD=>⟨λi m σ' H'=>i+m=xs.length /\ ∃zs,gX H tl Rel D i zs σ' H',⟨xs.length,by lia,[],⟨o0,o0',hsrc⟩,hD,ag.upd hD,c6,rfl,λj y z=>by simp at z⟩,?_⟩⟩;rintro i m σ' H' ⟨him,zs,inv⟩;have hq1:=c_.same inv.2.2.1 hx;have hq2:=c_.same inv.2.2.1 hy
 by_cases hm:m=0
 ·have e:i=xs.length:=by lia
  subst e;obtain⟨_,n,s,e,hl,r⟩:=inv;exact .inl ⟨⟨xs,ys,hq1,hq2,.inl rfl⟩,hd D zs H' n s e hl r⟩
 ·have hi:i<xs.length:=by lia
  have hj:i<ys.length:=by lia
  refine .inr ⟨⟨xs,xs[i],ys,ys[i],hq1,by simp[hi],hq2,by simp[hj]⟩,λσ2 H2=>∃zs,gX H tl Rel D (i+1) zs σ2 H2,λσ2 H2 h=>⟨m-1,by lia,by lia,h⟩,?_⟩;rintro v H2 ⟨c,x,y,rfl,hn,hx',hy',rfl⟩;obtain⟨⟨o1,o2,rfl⟩,n,s,e,hl,r⟩:=inv;have su:=ag.upd (o:=.tup [x,y]) hn;exact hs D i x y zs o1 o2 _ c (hx' xs hq1) (hy' ys hq2) ⟨⟨o1,o2,rfl⟩,n,s.trans su,su _ _ e,hl,λj y hy=>hk _ _ _ _ su.keep (r j y hy)⟩ c6
end
def Ce(K:wa):List V->Hp->VK->Prop:=λxs H Q=>∃(p:wf)(ns:List Int),xs=[.ref p]/\bA K H p (ns.map V.int)/\Q (.int ns.sum) H
theorem LM:vJ "sum"=some (.builtin "sum"):=by decide +kernel
open PyProof.V PySem.Calls in
theorem zw2{X:Cx}(hc:X.calm=true):aN X (.builtin "sum") (Ce X.K):=by
 intro pins s σ H xs us Q I r h;obtain⟨p,ns,rfl,hq,q⟩:=h;obtain⟨u,rfl,rx⟩:=jt r;cases rx;obtain⟨its,r',pl,hz⟩:=I.tuple hq;have hI:=BE r';have hT:s.heap.IsTuple p its.toArray:=pl;obtain⟨zs,hx⟩:=hI.allInts.items;have hn:numsOf its.toArray.toList=ns:=by rw[show its.toArray.toList=its from rfl,hI.numsOf]
 rw[hx]at hT hn;rw[nums_intItems]at hn;refine PySem.W.ktm_sumG (I.ok.hd hc) hT λh' tk t' hk=>?_
 rw[preSum_eq,Wy (by simp),hn];exact⟨.int ns.sum,H,I.kept (t':=tk) hk,⟨_,rfl⟩,q⟩
theorem zxt{K:wa}{H:Hp}{Q:VK}{v:V}{ns:List Int}(h:Is K H v (TZ ns))(q:Q (.int ns.sum) H):Ce K [v] H Q:=by
 obtain⟨a,rfl,hs⟩:=rJ.mp h;exact⟨a,ns,rfl,hs,q⟩
theorem lK{α : Type}(xs:List α)(k:Nat):cutD xs none (some (k:Int))=xs.take k:=by
 unfold cutD;rw[HT.JQ,HT.Kg,xc,Nat.sub_zero];rcases Nat.le_total k xs.length with h | h
 ·rw[XR h]
 ·rw[Nat.min_eq_right h,Wi,Wy h]
theorem om{α : Type}(xs:List α)(k:Nat)(h:k<=xs.length):cutD xs (some (k:Int)) none=xs.drop k:=by
 unfold cutD;rw[HT.JQ,HT.Kg,XR h];exact Wy (by rw[ve];lia)
def mj(K:wa):List V->Hp->VK->Prop:=λxs H Q=>∃(p:wf)(bs:List Bool),xs=[.ref p]/\aP K H p (bs.map V.bl)/\Q (.bl (bs.all id)) H
theorem pO:vJ "all"=some (.builtin "all"):=by decide +kernel
theorem N8{bs:List Bool} : ∀{us:List Value},aW (bs.map V.bl) us->us=bs.map Value.bool:=by
 induction bs with
 | nil=>intro us r;rw[Qx]at r;cases r;rfl
 | cons b bs ih =>
  intro us r;rw[w5]at r;cases r with
  | cons r1 r2 =>
   cases r1;rw[w5,ih r2]
theorem zuo(bs:List Bool):((wp bs.length).all λi=>(bs[i]?).getD true)=bs.all id:=by
 rw[vE,vZ,vZ]
 constructor
 ·intro h b hb
  obtain⟨i,hi,rfl⟩:=wY hb;have:=h i (wG.mpr hi);rw[wc hi]at this;exact this
 ·intro h i hi
  rw[wG]at hi;rw[wc hi];exact h _ (vT hi)
open PyProof.V PySem.Calls in
theorem pb{X:Cx}(hc:X.calm=true):aN X (.builtin "all") (mj X.K):=by
 intro pins s σ H xs us Q I r h;obtain⟨p,bs,rfl,hq,q⟩:=h;obtain⟨u,rfl,rx⟩:=jt r;cases rx;obtain⟨its,r',pl,hz⟩:=I.list hq;have hi:its=bs.map Value.bool:=N8 r';have hl:s.heap.IsList p its.toArray:=pl.isList;have hlt:p<s.heap.objs.size:=by obtain⟨_,e,_⟩:=hl;exact wA e
 refine call_all_walk (VS hl ?_)
 refine⟨s.heap.objs.size,[s.heap.objs.size,p],[s.heap.objs.size],its.toArray.size,_,_,λi=>(bs[i]?).getD true,rfl,XS (A:=X.A.in1) (I.ok.hd hc) _ p (wO hlt) its.toArray,
  ⟨⟨_,wN _ rfl,rfl,rfl⟩,hl.push _⟩,λi v s' Q' E' hP hQ=>?_,λh' tk hk=>?_⟩
 ·have hP:its.toArray[i]? = some v:=hP
  rw[hi]at hP;simp only[xf,wo,W5]at hP;obtain⟨b,e,rfl⟩:=hP;simp only[e,QC]at hQ;exact Wb hQ
 ·have e:((wp its.toArray.size).all λi=>(bs[i]?).getD true)=bs.all id:=by
   rw[wF,hi,wl];exact zuo bs
  rw[e];exact⟨.bl (bs.all id),H,I.kept (t':=tk) (λb x e=>hk b x (λhm=>by rw[wI.mp hm]at e;exact WR _ (wA e)) (wm _ e)),rfl,q⟩
theorem nM{K:wa}{H:Hp}{Q:VK}{p:wf}{bs:List Bool}(h:aP K H p (bs.map V.bl))(q:Q (.bl (bs.all id)) H):mj K [.ref p] H Q:=⟨p,bs,rfl,h,q⟩
section
variable{t u:Bool}{K:wa}{g:TG}{tt:TT}{te:TE}{σ : L2.St}{H:Hp}{Q:VK}{a b:wf}{xs ys:List V}{src:List (Option Nat)}{o0 o0':Option V}{tl:L2.St}
theorem zxp(hx:c_ t K H a xs)(hy:c_ u K H b ys)(hxy:ys.length<xs.length)(hsrc:d9 src σ = o0::o0'::tl)(Rel:Nat->V->Hp->Prop)(hk:∀i v H1 H2,bE H1 H2->Rel i v H1->Rel i v H2)
  (hs:∀D i x y zs o1 o2 H1 c,xs[i]? = some x->ys[i]? = some y->gX H tl Rel D i zs (o1::o2::tl) H1->H1 c=some (.tup [x,y])->jb (gX H tl Rel) g tt te D i (.ref c) (o1::o2::tl) H1)
  (hd:∀D zs H',H D=none->ag H H'->H' D=some (.lst zs)->zs.length=ys.length->(∀j y,zs[j]? = some y->Rel j y H')->Q (.ref D) H'):Dh t u K g tt te src σ [.ref a,.ref b] H Q:=by
 refine⟨a,b,rfl,⟨xs,hx⟩,⟨ys,hy⟩,λD hD=>⟨λi m σ' H'=>i+m=ys.length /\ ∃zs,gX H tl Rel D i zs σ' H',⟨ys.length,by lia,[],⟨o0,o0',hsrc⟩,hD,ag.upd hD,c6,rfl,λj y z=>by simp at z⟩,?_⟩⟩;rintro i m σ' H' ⟨him,zs,inv⟩;have hq1:=c_.same inv.2.2.1 hx;have hq2:=c_.same inv.2.2.1 hy
 by_cases hm:m=0
 ·have e:i=ys.length:=by lia
  subst e;obtain⟨_,n,s,e,hl,r⟩:=inv;exact .inl ⟨⟨xs,ys,hq1,hq2,.inr ⟨hxy,rfl⟩⟩,hd D zs H' n s e hl r⟩
 ·have hi:i<xs.length:=by lia
  have hj:i<ys.length:=by lia
  refine .inr ⟨⟨xs,xs[i],ys,ys[i],hq1,by simp[hi],hq2,by simp[hj]⟩,λσ2 H2=>∃zs,gX H tl Rel D (i+1) zs σ2 H2,λσ2 H2 h=>⟨m-1,by lia,by lia,h⟩,?_⟩;rintro v H2 ⟨c,x,y,rfl,hn,hx',hy',rfl⟩;obtain⟨⟨o1,o2,rfl⟩,n,s,e,hl,r⟩:=inv;have su:=ag.upd (o:=.tup [x,y]) hn;exact hs D i x y zs o1 o2 _ c (hx' xs hq1) (hy' ys hq2) ⟨⟨o1,o2,rfl⟩,n,s.trans su,su _ _ e,hl,λj y hy=>hk _ _ _ _ su.keep (r j y hy)⟩ c6
end
variable{H:Hp}
def R4(g:TG)(tb:TS)(D:cQ)(σ : L2.St)(vs:List V)(H1:Hp):Prop:=∃i j:Int,vs=[.int i,.int j]/\(-(2^62)<=i/\i<2^62 /\ -(2^62)<=j/\j<2^62) /\
 ∃W:Nat->Nat->L2.St->Hp->Prop,(∃m,W 0 m σ H1) /\ ∀k m σ H,W k m σ H ->
  ((h_ i (j-i).toNat).stop k H/\D.nx σ H)\/((h_ i (j-i).toNat).go k H /\ ∃M:L2.St->Hp->Prop,(∀σ' H',M σ' H'->∃m',m'<m/\W (k+1) m' σ' H') /\ ∀x H',(h_ i (j-i).toNat).fZ k H x H'->g x σ H' λσ2 H2=>tb {D with nx:=M,ct:=M,bk:=D.nx} σ2 H2)
theorem Zp{ta:TA}{g:TG}{tb:TS}{D:cQ}{σ : L2.St}(h:ta σ H λvs H1=>R4 g tb D σ vs H1):lM (NF ta) g tb D σ H:=h
theorem zuq{g:TG}{tb:TS}{D:cQ}{σ : L2.St}{lo hi:Int}(h0 : -1000000000<=lo)(h1:lo<1000000000)(h2 : -1000000000<=hi)(h3:hi<1000000000)(Pv:Nat->L2.St->Hp->Prop)(p:Pv 0 σ H)
  (hs:∀(i:Nat) σ H,i<(hi-lo).toNat->Pv i σ H->g (.int (lo+(i:Int))) σ H λσ2 H2=>tb {D with nx:=Pv (i+1),ct:=Pv (i+1),bk:=D.nx} σ2 H2)
  (hd:∀σ H,Pv (hi-lo).toNat σ H->D.nx σ H):R4 g tb D σ [.int lo,.int hi] H :=
 ⟨lo,hi,rfl,⟨by lia,by lia,by lia,by lia⟩,O7 (lo:=lo) Pv p hs hd⟩
def B8(K:wa):List V->Hp->VK->Prop:=λxs H Q=>∃x tp S T d b,xs=[x,.ref tp]/\bA K H tp [.ty S,.ty T]/\Is K H x d/\X2 K (.type (kindOf d)) [.type S,.type T]=some b/\Q (.bl b) H
theorem ztS{X:Cx} : aN X (.builtin "isinstance") (B8 X.K):=by
 intro pins s σ H xs us Q I r h;obtain⟨x,tp,S,T,d,b,rfl,ht,hd,e,q⟩:=h;obtain⟨u,w',rfl,rx,rt⟩:=nk r;cases (show w'=Value.ref tp from rt);obtain⟨tts,rv,⟨ot,ht1,ht2,n,ht3⟩,_⟩:=I.tuple ht;obtain⟨t1,t2,rfl,r1,r2⟩:=nk rv;cases (show t1=Value.type S from r1);cases (show t2=Value.type T from r2);obtain⟨c,dd,da,sl⟩:=ot;cases ht2;cases ht3;have fin:∀tk,EP X pins σ Q (.bool b) {s with toks:=tk}:=λtk=>⟨.bl b,H,I.tok _,rfl,q⟩
 cases d with
 | none =>
  cases iE.mp hd;cases (show u=Value.none from rx);exact Vc x5 I.d5 True.intro ht1 e (λz=>nomatch z) fin
 | bool y =>
  cases fL.mp hd;cases (show u=Value.bool y from rx);exact Vc x6 I.d5 True.intro ht1 e (λz=>nomatch z) fin
 | int i =>
  cases aJ.mp hd;obtain⟨t,q⟩:=(show ∃t,u=Value.int i t from rx);cases q;exact Vc Xw I.d5 True.intro ht1 e (λz=>nomatch z) fin
 | str y =>
  cases cW.mp hd;obtain⟨t,q⟩:=(show ∃t,u=Value.str y t from rx);cases q;exact Vc Xx I.d5 True.intro ht1 e (λz=>nomatch z) fin
 | tuple ds =>
  obtain⟨a,xs,e1,hq,_⟩:=cb.mp hd;subst e1;cases (show u=Value.ref a from rx);obtain⟨its,_,⟨o,h1,h2,_⟩,_⟩:=I.tuple hq;exact Vc xM I.d5 ⟨o,h1,h2⟩ ht1 e (λz=>nomatch z) fin
 | list ds =>
  obtain⟨a,xs,e1,hq,_⟩:=cu.mp hd;subst e1;cases (show u=Value.ref a from rx);obtain⟨its,_,⟨o,n,h1,h2,_⟩,_⟩:=I.list hq;exact Vc Xa I.d5 ⟨o,h1,h2⟩ ht1 e (λz=>nomatch z) fin
 | dict kv =>
  obtain⟨a,kvs,e1,hq⟩:=pQ.mp hd;subst e1;cases (show u=Value.ref a from rx);obtain⟨_,_,vs,_,o,es,ep,h1,h2,_⟩:=(show d7 X.prog X.w H s.heap a (.dK kvs)from I.aO a _ hq);exact Vc Xb I.d5 ⟨o,h1,h2.1⟩ ht1 e (λz=>nomatch z) fin
theorem Zo{K:wa}(d:PyData):X2 K (.type (kindOf d)) [.type "list",.type "tuple"]=some (mv d || fk d):=by cases d<;>rfl
theorem Ef{K:wa}{Q:VK}{v:V}{tp:wf}{d:PyData}(h:Is K H v d)(t:H tp=some (.tup [.ty "list",.ty "tuple"]))(q:Q (.bl (mv d || fk d)) H):B8 K [v,.ref tp] H Q :=
 ⟨v,tp,"list","tuple",d,_,rfl,.of t,h,Zo d,q⟩
section
variable{X:Cx}{tg:Expr}
def Eg(K:wa)(tl:TE):TI:=λσ H R=>tl σ H λx H1=>(∃a,x=.ref a/\(∃xs,aP K H1 a xs)/\R (jY K a) H1)\/(∃a,x=.ref a/\(∃xs,bA K H1 a xs)/\R (jQ K a) H1)
theorem TL{l:Expr}{tl:TE}(hl:PE X l tl):PI X tg l (Eg X.K tl):=by
 intro pins s σ H R I h;refine aQ (hl pins s σ H _ I h) λv s1 ⟨x,H1,I1,r1,q1⟩=>?_
 rcases q1 with⟨a,e,⟨xs,hq⟩,q⟩ | ⟨a,e,⟨xs,hq⟩,q⟩
 ·subst e
  cases r1;obtain⟨its,rv,p,hz⟩:=I1.list hq;refine VS p.isList ?_;refine⟨s1.heap.objs.size,[s1.heap.objs.size],_,_,H1,rfl,I1.kept (t':=s1.toks) λb o e=>wm _ e,R6 a _,⟨_,wN _ rfl,rfl,rfl⟩,λb hb=>?_,q⟩;have e:b=s1.heap.objs.size:=by simpa using hb
  subst e;exact I1.kq (wn _) (I1.aO.fresh (wn _))
 ·subst e
  cases r1;obtain⟨its,rv,p,hz⟩:=I1.tuple hq;refine W8 (show s1.heap.IsTuple a its.toArray from p) ?_;refine⟨s1.heap.objs.size,[s1.heap.objs.size],_,_,H1,rfl,I1.kept (t':=s1.toks) λb o e=>wm _ e,Lz a _,⟨_,wN _ rfl,rfl,rfl⟩,λb hb=>?_,q⟩;have e:b=s1.heap.objs.size:=by simpa using hb
  subst e;exact I1.kq (wn _) (I1.aO.fresh (wn _))
end
section
variable{K:wa}{g:TG}{tt:TT}{te ta tb' tc:TE}{tb:TS}{D:cQ}{src:List (Option Nat)}{σ : St}{H:Hp}{Q:VK}{r r':R2}
theorem zyF(h:ta σ H λx H1=>An K g tt te src σ x H1 Q\/yM K g tt te src σ x H1 Q):kT src (Eg K ta) g tt te σ H Q:=h
theorem zzT(h:te σ H λx H1=>Fe K g tb D σ x H1\/Oy K g tb D σ x H1):lM (Eg K te) g tb D σ H:=h
theorem zzE(h:ta σ H λx H1=>tb' σ H1 λy H2=>r x y H2 λz H3=>∃k,z=.bl k/\(if k=true then tc σ H3 λw' H4=>r' y w' H4 Q else Q (.bl false) H3)):EN r r' ta tb' tc σ H Q:=h
theorem zCh{b:Bool}{P:Bool->Prop}(h:P b):∃k,V.bl b=.bl k/\P k:=⟨b,rfl,h⟩
end
def bL(a b:Rat)(xs:List Rat):PyData:=.tuple [R a b,TN xs]
theorem ky(a b:Rat)(xs:List Rat):br (bL a b xs)=true:=by rw[bL,br,aV,aV,aV,De,jn];rfl
theorem zDx{x y:Rat}(h:N x=N y):x=y:=by
 have h':PyData.tuple [.int x.num,.int (x.den:Int)]=PyData.tuple [.int y.num,.int (y.den:Int)]:=h
 injection h' with h1
 injection h1 with h2 h3
 injection h2 with h4
 injection h3 with h5 _
 injection h5 with h6
 exact Rat.ext h4 (by lia)
theorem gC{K:wa}{H:Hp}{us:List V}{ds:List PyData}{i:Nat}{x:V}(t:ai K H us ds)(h:us[i]? = some x):i<ds.length/\Is K H x (ds.getD i .none):=by
 have hl:=t.length
 have hi:i<ds.length:=by
  rcases wD i ds.length with z | z
  ·exact z
  ·rw[wE (by lia)]at h;cases h
 obtain⟨y,e,k⟩:=t.get (i:=i) (d:=ds.getD i .none) (by rw[wb,wc hi];rfl);rw[e]at h;cases h;exact⟨hi,k⟩
def EJ:List V->Hp->VK->Prop:=λxs H Q=>∃i j,xs=[.int i,.int j]/\Q (.int (if j<i then j else i)) H
theorem Zr{X:Cx}(hc:X.calm=true):aN X (.builtin "min") EJ:=zww hc
theorem zCw:vJ "min"=some (.builtin "min"):=by decide +kernel
theorem ZI{i j:Int}{H:Hp}{Q:VK}(q:∀m:Int,m<=i->m<=j->(m=i\/m=j)->Q (.int m) H):EJ [.int i,.int j] H Q:=⟨i,j,rfl,by
 split
 ·exact q j (by lia) (by lia) (.inr rfl)
 ·exact q i (by lia) (by lia) (.inl rfl)⟩
def Ds(K:wa)(a:wf):It :=
 ⟨λi H=>∃xs x,aP K H a xs/\xs[i]? = some x,λi H y H'=>∃t x,y=.ref t/\H t=none/\(∀xs,aP K H a xs->xs[i]? = some x)/\H'=upd H t (.tup [.int (i:Int),x]),λi H=>∃xs,aP K H a xs/\xs.length<=i⟩
theorem zuU{P:wK}{w:wQ}{K:wa}{elts:List Expr}{k1}{tpos:Pos}(a e it:wf)(hne:e≠it):j7 P w K (.Tuple elts k1 tpos) (Ds K a) [e,it] e (λi h=>(∃old,IsEnum h e it (i:Int) old)/\h.IsListIter it a i) where
 mem:=by simp
 obj:=λi h st b hb=>by
  obtain⟨⟨old,he⟩,o,eo,c,d⟩:=st;rcases wH.mp hb with rfl | hb
  ·exact⟨_,he,λv z=>by cases (show Data.fields _=Data.cell v from z)⟩
  ·rw[wI.mp hb]
   exact⟨o,eo,λv z=>by rw[d]at z;cases z⟩
 keep:=λi h h' st k=>⟨let ⟨old,he⟩:=st.1;⟨old,k e (by simp) _ he⟩,st.2.at λo eo=>k it (by simp) o eo⟩
 item:=by
  intro X hP hw hK hc i pins s σ H E I hf st hg;subst hP hw hK;obtain⟨⟨old,he⟩,st⟩:=st;obtain⟨xs,x,hq,hx⟩:=hg;obtain⟨its,rv,p,hz⟩:=I.list hq;obtain⟨u,hu,ru⟩:=rv.get hx;have p':s.heap.IsList a its.toArray:=p.isList
  have hai:a≠it:=λz=>by
   subst z;obtain⟨o,e1,c1,_⟩:=st;obtain⟨o',e2,c2,_⟩:=p';rw[e1]at e2;cases e2;rw[c1]at c2;exact absurd c2 (by decide)
  have hae:e≠a:=λz=>by
   subst z;obtain⟨o',e2,c2,_⟩:=p';rw[he]at e2;cases e2;exact absurd (show Value.type "enumerate"=Value.type "list" from c2) (by decide)
  have hlt:i<its.toArray.size:=by
   rcases wD i its.length with z | z
   ·simpa using z
   ·rw[wE z]at hu;cases hu
  refine wpAny_pyNext_enum_itemD (Draws.list (A:=X.A.in1) (I.ok.hd hc) it a hai its.toArray) he ⟨st,p'⟩ hlt hne (by simp[hne,hae]) λv h1 tk hv ho hs1 hT hsz hk=>?_
  have hvu:v=u:=by
   have hv':its[i]? = some v:=by simpa using hv
   rw[hu]at hv';exact(wW hv').symm
  subst hvu
  have I1:Inv X pins σ (upd H s.heap.objs.size (.tup [.int (i:Int),x])) {s with heap:=s.heap.push {cls:=.type "tuple",data:=.seq ([.int (i:Int) tk,v]:List Value).toArray},toks:=tk+1} :=
   I.laid (λb o q=>wm _ q) (wn _) (show d7 X.prog X.w _ _ _ (.tup [.int (i:Int),x])from⟨oV (by simp),_,.cons ⟨_,rfl⟩ (.cons ru .nil),qM _ _⟩)
  have lt1:∀b∈[e,it],b<s.heap.objs.size:=λb hb=>by
   rcases wH.mp hb with rfl | hb
   ·exact wA he
   ·rw[wI.mp hb]
    obtain⟨o,eo,_⟩:=st;exact wA eo
  have hf1:∀b∈[e,it],fi X pins (upd H s.heap.objs.size (.tup [.int (i:Int),x])) b:=λb hb=>⟨by rw[eX (wO (lt1 b hb))];exact(hf b hb).1,(hf b hb).2⟩
  refine⟨_,rfl,wpAny_letOwnedTupleGo_enum ho λh2 he2 hs2=>?_⟩;refine⟨.ref s.heap.objs.size,_,Inv.tU (s:={s with heap:=s.heap.push {cls:=.type "tuple",data:=.seq ([.int (i:Int) tk,v]:List Value).toArray},toks:=tk+1}) (ch:=[e,it]) I1 (λb o hb q=>?_) hf1,rfl,⟨_,x,rfl,I.aO.fresh (wn _),λys hy=>by rw[I.Bi hy hq];exact hx,rfl⟩,⟨⟨_,by simpa using he2⟩,hs1.1.at λo eo=>(hs2.2 it (Wr hne)).trans eo⟩,λb hb=>(hf1 b hb).1⟩;have hbe:b≠e:=λz=>hb (by simp[z])
  have hbi:b≠it:=λz=>hb (by simp[z])
  refine(hs2.2 b hbe).trans ?_
  by_cases hb2:b=s.heap.objs.size
  ·subst hb2
   rw[wN _ rfl]at q;cases q;exact hT
  ·exact hk b o hbe hbi (by rw[Qr _ _ _ hb2]at q;exact q)
 done:=by
  intro X hP hw hK hc i pins s σ H E I hf st hg;subst hP hw hK;obtain⟨⟨old,he⟩,st⟩:=st;obtain⟨xs,hq,hx⟩:=hg;obtain⟨its,rv,p,hz⟩:=I.list hq;have p':s.heap.IsList a its.toArray:=p.isList;have hl:=rv.length;have hT:s.TypeIs (.ref e) "enumerate":=⟨_,he,rfl⟩;unfold pyNext;refine wg (Vg (wpAny_callSpecial?_slot (name:=vQ "__next__") hT V2 (Wa V2 hT Q5 ?_ (QI _))))
  show wq _ _ (field (.ref e) 2 >>= _) _ _ _;refine wg (vi he rfl (x:=.ref it) rfl ?_)
  refine wg (wpAny_nextOf_list_end (A:=X.A.in1) (I.ok.hd hc) st p' (by simp;lia) λh' y he' hx'=>?_);obtain⟨o,ho,hcl⟩:=hx';refine wg (W3 (T:="StopIteration") (b:=true) ⟨o,ho,hcl⟩ isSubtype_stop (wt ⟨rfl,?_⟩));obtain⟨f0,f1,f2,f3,f4,f5⟩:=hf it (by simp);exact I.turned (t':=s.toks) (λb o hb e=>he' b o hb e) f0 f1 f3 f4 f5
 self:=λ_ _ _ _ _ st h=>let ⟨_,he⟩:=st.1;wpAny_pyIter_enum he h
def Nn(K:wa)(ta:TA):TI:=λσ H R=>ta σ H λvs H1=>∃a,vs=[.ref a]/\(∃xs,aP K H1 a xs)/\R (Ds K a) H1
theorem zxQ{X:Cx}{elts:List Expr}{k1}{tpos p pos:Pos}{l:Expr}{ta:TA}(hg:Gl X "enumerate")(hm:X.mg "enumerate"=none)(ha:PA X [l] ta)(hs:wR [l] X.env=[(false,eval l X.env)]:=by rfl) :
  PI X (.Tuple elts k1 tpos) (.Call (.Name "enumerate" p) [l] [] pos) (Nn X.K ta):=by
 intro pins s σ H R I h;refine Call_ (iH I hg hm Nk (vg (aQ (ha pos pins s σ H _ I h) λus s1 ⟨vs,H1,I1,r1,q1⟩=>?_) hs rfl));obtain⟨a,rfl,⟨xs,hq⟩,q⟩:=q1;obtain⟨u,rfl,ru⟩:=jt r1;cases ru;obtain⟨its,rv,p,hz⟩:=I1.list hq;refine call_enumerate_list p.isList λh' he hit _ kp=>?_
 refine wpAny_pyIter_enum he ?_;refine⟨s1.heap.objs.size+1,[s1.heap.objs.size+1,s1.heap.objs.size],_,_,H1,rfl,I1.kept (t':=s1.toks) kp,zuU a (s1.heap.objs.size+1) s1.heap.objs.size (Xz _),⟨⟨_,he⟩,hit⟩,λb hb=>?_,q⟩
 have hb':s1.heap.objs.size<=b:=by
  rcases wH.mp hb with rfl | hb
  ·lia
  ·rw[wI.mp hb];exact wn _
 exact I1.kq hb' (I1.aO.fresh hb')
def My(K:wa)(g:TG)(tt:TT)(te:TE)(src:List (Option Nat))(σ : St)(vs:List V)(H1:Hp)(Q:VK):Prop:=∃a,vs=[.ref a]/\(∃xs,aP K H1 a xs) /\
 ∀D,H1 D=none->kA g tt te (Ds K a) D (d9 src σ) (upd H1 D (.lst [])) (λH'=>Q (.ref D) H')
section
variable{K:wa}{ta:TA}{g:TG}{tb:TS}{tt c:TT}{te:TE}{D:cQ}{σ : St}{H:Hp}{Q:VK}{a:wf}{xs:List V}{src:List (Option Nat)}{o0 o0':Option V}{tl:St}
theorem zw9(h:ta σ H λvs H1=>My K g tt te src σ vs H1 Q):kT src (Nn K ta) g tt te σ H Q:=h
theorem zyP(hx:aP K H a xs)(hsrc:d9 src σ = o0::o0'::tl)(Rel:Nat->V->Hp->Prop)(hk:∀i v H1 H2,bE H1 H2->Rel i v H1->Rel i v H2)
  (hs:∀D i x zs o1 o2 H1 c,xs[i]? = some x->gX H tl Rel D i zs (o1::o2::tl) H1->H1 c=some (.tup [.int (i:Int),x])->jb (gX H tl Rel) g tt te D i (.ref c) (o1::o2::tl) H1)
  (hd:∀D zs H',H D=none->ag H H'->H' D=some (.lst zs)->zs.length=xs.length->(∀j y,zs[j]? = some y->Rel j y H')->Q (.ref D) H'):My K g tt te src σ [.ref a] H Q:=by
 refine⟨a,rfl,⟨xs,hx⟩,λD hD=>⟨λi m σ' H'=>i+m=xs.length /\ ∃zs,gX H tl Rel D i zs σ' H',⟨xs.length,by lia,[],⟨o0,o0',hsrc⟩,hD,ag.upd hD,c6,rfl,λj y z=>by simp at z⟩,?_⟩⟩;rintro i m σ' H' ⟨him,zs,inv⟩;have hq1:=inv.2.2.1.seq hx
 by_cases hm:m=0
 ·have e:i=xs.length:=by lia
  subst e;obtain⟨_,n,s,e,hl,r⟩:=inv;exact .inl ⟨⟨xs,hq1,wn _⟩,hd D zs H' n s e hl r⟩
 ·have hi:i<xs.length:=by lia
  refine .inr ⟨⟨xs,xs[i],hq1,by simp[hi]⟩,λσ2 H2=>∃zs,gX H tl Rel D (i+1) zs σ2 H2,λσ2 H2 h=>⟨m-1,by lia,by lia,h⟩,?_⟩;rintro v H2 ⟨c,x,rfl,hn,hx',rfl⟩;obtain⟨⟨o1,o2,rfl⟩,n,s,e,hl,r⟩:=inv;have su:=ag.upd (o:=.tup [.int (i:Int),x]) hn;exact hs D i x zs o1 o2 _ c (hx' xs hq1) ⟨⟨o1,o2,rfl⟩,n,s.trans su,su _ _ e,hl,λj y hy=>hk _ _ _ _ su.keep (r j y hy)⟩ c6
def TR(Pv:Nat->St->Hp->Prop)(m:Nat)(tb:TS)(D:cQ)(σ':St)(H1:Hp):Prop :=
 ∃M:St->Hp->Prop,(∀σ2 H2,M σ2 H2->∃m',m'<m/\Pv m' σ2 H2)/\tb {D with nx:=M,ct:=M,bk:=D.nx} σ' H1
theorem uC(Pv:Nat->St->Hp->Prop)(m0:Nat)(h0:Pv m0 σ H)(hs:∀m σ' H',Pv m σ' H'->c σ' H' λb H1=>if b=true then TR Pv m tb D σ' H1 else D.nx σ' H1):Fv c tb D σ H:=⟨Pv,⟨m0,h0⟩,hs⟩
theorem z8{Pv:Nat->St->Hp->Prop}{m:Nat}{σ':St}{H1:Hp}(h:tb {D with nx:=λσ2 H2=>∃m',m'<m/\Pv m' σ2 H2,ct:=λσ2 H2=>∃m',m'<m/\Pv m' σ2 H2,bk:=D.nx} σ' H1):TR Pv m tb D σ' H1:=⟨_,λ_ _ q=>q,h⟩
def uH(K:wa)(x:V)(H:Hp)(Q:Bool->Hp->Prop):Prop:=∃k,Bu K x H k/\Q k H
def P_(K:wa)(te:TE):TT:=λσ H Q=>te σ H λx H'=>uH K x H' Q
theorem Ar{X:Cx}{e:Expr}{t:TE}(h:PE X e t)(he:∀whole,isTrue e X.env whole=(do let v <- whole;standAt e.pos;holding [v] (truthy v)):=by intro _;rfl):PT X e (P_ X.K t):=zyv h he
theorem zDf{QB:Bool->Hp->Prop}(h:te σ H λx H'=>uH K x H' QB):P_ K te σ H QB:=h
theorem zAM{QB:Bool->Hp->Prop}{v:V}{ds:List PyData}(h:Is K H v (.tuple ds))(q:QB (!ds.isEmpty) H):uH K v H QB:=by
 obtain⟨p,us,rfl,hs,t⟩:=cb.mp h;have hl:=t.length;refine⟨_,.inr (.inl ⟨us,hs,rfl⟩),?_⟩
 have e:us.isEmpty=ds.isEmpty:=by
  cases us<;>cases ds<;>simp_all
 rw[e];exact q
theorem Fj{QB:Bool->Hp->Prop}{v:V}{ds:List PyData}(h:Is K H v (.list ds))(q:QB (!ds.isEmpty) H):uH K v H QB:=by
 obtain⟨p,us,rfl,hs,t⟩:=cu.mp h;have hl:=t.length;refine⟨_,.inl ⟨us,hs,rfl⟩,?_⟩
 have e:us.isEmpty=ds.isEmpty:=by
  cases us<;>cases ds<;>simp_all
 rw[e];exact q
end
theorem MB:∀(ys:List V)(us:List Value),ys.length=us.length->(∀(i:Nat) y u,ys[i]? = some y->us[i]? = some u->bK y u)->aW ys us
 | [],[],_,_=>.nil
 | [],_::_,h,_=>by simp at h
 | _::_,[],h,_=>by simp at h
 | y::ys,u::us,h,r=>.cons (r 0 y u rfl rfl) (MB ys us (by simpa using h) λi y u h1 h2=>r (i+1) y u h1 h2)
def vz(l:List Nat):List V:=l.map λ(w:Nat)=>V.int (w:Int)
theorem kx(l:List Nat):(vz l).length=l.length:=wl ..
def Gu(vs:List V)(H1:Hp)(Q:VK):Prop:=∃j:Int,vs=[.int j]/\0<=j/\j<=1000 /\ ∀l,H1 l=none->Q (.ref l) (upd H1 l (.lst (vz (wp j.toNat))))
def V_(ta:TA):TE:=λσ H Q=>ta σ H λvs H1=>Gu vs H1 Q
theorem zrE{X:Cx}{a:Expr}{ta:TA}{p p2 pos pos2:Pos}(hc:X.calm=true)(hg:Gl X "list")(hm:X.mg "list"=none)(hg2:Gl X "range")(hm2:X.mg "range"=none)(ha:PA X [a] ta)(hs:wR [a] X.env=[(false,eval a X.env)]:=by rfl)
  (hs2:wR [Expr.Call (.Name "range" p2) [a] [] pos2] X.env=[(false,eval (.Call (.Name "range" p2) [a] [] pos2) X.env)]:=by rfl):PE X (.Call (.Name "list" p) [.Call (.Name "range" p2) [a] [] pos2] [] pos) (V_ ta):=by
 intro pins s σ H Q I h;refine Call_ (iH I hg hm kF ?_);refine vg ?_ hs2 rfl;rw[hs2]
 show wq _ _ (spliced ((false,eval _ X.env)::backTo pos [])) _ _ s
 refine Qd ?_;refine Call_ (iH I hg2 hm2 boot_range (vg (aQ (ha pos2 pins s σ H _ I h) λus s1 ⟨vs,H1,I1,r1,q1⟩=>?_) hs rfl));obtain⟨j,e,j0,j1,q⟩:=q1;subst e;obtain⟨u,rfl,ru⟩:=jt r1;obtain⟨t,rfl⟩:=ru;refine call_range_1 ?_;refine Qo ?_;have I2:Inv X pins σ H1 {s1 with heap:=s1.heap.push {cls:=.type "range",data:=.fields #[.int 0 s1.toks,.int j t,.int 1 (s1.toks+1)]},toks:=s1.toks+1+1}:=I1.kept λb o e=>wm _ e
 refine call_list_range (n:=j.toNat) (I1.ok.hd hc) (uk ..) (small_one (by lia) (by lia) (by lia) (by lia)) (by rw[rangeSize_one];split<;>lia) (by lia) λh' tk acc c hk hD hI=>?_
 refine⟨.ref _,_,I2.laid (t':=tk) hk (wn _) ?_,rfl,q _ (I2.aO.fresh (wn _))⟩;refine⟨oV (by rw[kx,vD];lia),acc.toList,c,MB _ _ (by rw[kx,vD,WX,hI.1]) λi y u hy hu=>?_,by simpa using hD⟩;have hu':acc[i]? = some u:=by simpa using hu
 obtain⟨t',e'⟩:=hI.2 i u hu'
 have hi:i<j.toNat:=by
  have:=(WC.mp hu').1;rw[hI.1]at this;exact this
 have hy':y=V.int (i:Int):=by
  unfold vz at hy;rw[wo,vY hi]at hy;exact(wW hy).symm
 subst hy';exact⟨t',by rw[e'];congr 1;lia⟩
theorem zrm{ta:TA}{σ : St}{H:Hp}{Q:VK}(h:ta σ H λvs H1=>Gu vs H1 Q):V_ ta σ H Q:=h
theorem zw7{n:Nat}{H:Hp}{Q:VK}(hn:n<=1000)(q:∀l H',H l=none->ag H H'->H' l=some (.lst (vz (wp n)))->Q (.ref l) H'):Gu [V.int (n:Int)] H Q :=
 ⟨_,rfl,by lia,by lia,λl hl=>q l _ hl (ag.upd hl) (by rw[wS];exact c6)⟩
theorem Ru(w:Nat)(l:List Nat):zx (.int (w:Int)) (vz l)=decide (w∈l):=by
 unfold zx vz
 induction l with
 | nil=>rfl
 | cons x l ih =>
  rw[w5,Qk,ih]
  show((x:Int) == (w:Int) || _)=_
  by_cases h:w=x
  ·subst h;simp
  ·have h':¬ (x:Int)=(w:Int):=λz=>h (by lia)
   simp[h,h']
theorem MR(l:List Nat):(vz l).all kG=true:=by
 unfold vz;rw[vZ];intro y hy;obtain⟨w,_,rfl⟩:=wP.mp hy
 rfl
section
variable{K:wa}{H H':Hp}{Q:VK}{v:V}{p:wf}{l:List Nat}{w:Nat}
theorem zus(h:bA K H p (vz l))(q:Q (.bl (!decide (w∈l))) H):mh K true (.int (w:Int)) (.ref p) H Q:=⟨p,vz l,rfl,.inr h,rfl,MR l,by rw[Ru];exact q⟩
theorem ZR(h:aP K H p (vz l))(q:Q (.bl (decide (w∈l))) H):mh K false (.int (w:Int)) (.ref p) H Q:=⟨p,vz l,rfl,.inl h,rfl,MR l,by rw[Ru];exact q⟩
def TW(l:List Nat):PyData:=TZ (l.map λ(w:Nat)=>(w:Int))
theorem El :Is K H v (TW l) ↔ ∃a,v=.ref a/\bA K H a (vz l):=by
 unfold TW vz;rw[rJ,qu];exact Iff.rfl
theorem Cs(l:List Nat):br (TW l)=true:=zDe _
def pk(ws:List (List Nat)):PyData:=.tuple (ws.map TW)
theorem yu:∀ws:List (List Nat),aV (ws.map TW)=true
 | []=>rfl
 | w::ws=>by rw[w5,aV,Cs,yu ws];rfl
theorem zz3(ws:List (List Nat)):br (pk ws)=true:=by rw[pk,br];exact yu ws
theorem BF{i:Nat}{x:V}(h:(vz l)[i]? = some x):∃hi:i<l.length,x=.int ((l[i]:Nat):Int):=by
 have hi:i<l.length:=by
  rcases wD i l.length with z | z
  ·exact z
  ·rw[wE (by rw[kx];exact z)]at h;cases h
 refine⟨hi,?_⟩;unfold vz at h;rw[wo,wc hi]at h;exact(wW h).symm
def GD(a b:Rat)(xs:List Rat):PyData:=.tuple [N (1-cC xs),pk (dg a b xs),bL a b (dP a b xs)]
def yU(h:Rat)(ws:List (List Nat))(xs:List Rat):PyData:=.tuple [N h,pk ws,TN xs]
theorem Yq(h:Rat)(ws:List (List Nat))(xs:List Rat):br (yU h ws xs)=true:=by rw[yU,br,aV,aV,aV,aV,ff,zz3,jn];rfl
def Yd(a b:Rat)(xs:List Rat)(k:Nat):PyData:=yU (aG a b xs (k+1)) (dg a b (aj a b xs k)) (aj a b xs (k+1))
def i_(a b:Rat)(xs:List Rat)(n:Nat):List PyData:=(wp n).map (Yd a b xs)
theorem tH{α : Type}(f : α -> PyData)(hf:∀x,br (f x)=true):∀l:List α,aV (l.map f)=true
 | []=>rfl
 | x::l=>by rw[w5,aV,hf,tH f hf l];rfl
theorem ai.snoc{vs:List V}{ds:List PyData}{d:PyData}(h:ai K H vs ds)(k:Is K H v d):ai K H (vs++[v]) (ds++[d]):=h.append (.cons k .nil)
theorem rZ{i:Nat}(h:i<l.length):l.take (i+1)=l.take i++[l[i]]:=by
 rw[qE,wc h];rfl
theorem jr{ds:List PyData}{d:PyData}{j:Nat}(h:Is K H v (.list ds))(e:ds[j]? = some d)(q:∀x,Is K H x d->Q x H):dh K v (.int (j:Int)) H Q:=by
 obtain⟨a,xs,rfl,h,t⟩:=cu.mp h;obtain⟨x,e1,hx⟩:=t.get e;exact jD h (mm e1) (q x hx)
theorem zyi{ds:List PyData}{n:Nat}(h:Is K H v (.list ds))(e:ds.length=n)(q:Q (.int (n:Int)) H):cO K [v] H Q:=by
 obtain⟨a,xs,rfl,h,t⟩:=cu.mp h;exact gv h (by rw[t.length,e];exact q)
theorem TY(h:Is K H v (TW l))(q:Q (.int (l.length:Int)) H):cO K [v] H Q:=Cz h (by rw[wl];exact q)
end
variable{l:List Nat}{n w:Nat}
theorem zwm(a b:Rat)(xs:List Rat)(n:Nat):(i_ a b xs n).length=n:=by simp[i_]
theorem FY(a b:Rat)(xs:List Rat)(n:Nat):i_ a b xs (n+1)=i_ a b xs n++[Yd a b xs n]:=by
 unfold i_;rw[qQ,vF];rfl
theorem zra(a b:Rat)(xs:List Rat)(n:Nat):aV (i_ a b xs n)=true:=tH _ (λk=>Yq _ _ _) _
theorem zy6{ps:List Rat}(h:¬ ps.getD w 0<1):aH ps (l++[w])=aH ps l++[w]:=by
 unfold aH;rw[WL,WF,decide_eq_false h];rfl
theorem zwB{ps:List Rat}(h:ps.getD w 0<1):aH ps (l++[w])=aH ps l:=by
 unfold aH;rw[WL,WF,decide_eq_true h];exact vW _
theorem zwO{wave:List Nat}(h:¬ w∈wave):cj (l++[w]) wave=cj l wave++[w]:=by
 unfold cj;rw[WL];simp[WF,h]
theorem zuK{wave:List Nat}(h:w∈wave):cj (l++[w]) wave=cj l wave:=by
 unfold cj;rw[WL];simp[WF,h]
theorem Cb(l:List Nat)(w:Nat):vz (l++[w])=vz l++[V.int (w:Int)]:=by unfold vz;rw[vF];rfl
theorem zwI{xs:List Rat}{j:Nat}(h:j<xs.length):(bZ xs).getD j 0=xs.getD j 0+(1-cC xs):=by
 unfold bZ;rw[wb,wo,wc h,wb,wc h];rfl
theorem zEz{P:PyData->Prop}{a b:PyData}(ha:P a)(hb:P b):∀d∈[a,b],P d:=λd hd=>by
 simp only[wH,W1,or_false]at hd;rcases hd with rfl | rfl
 ·exact ha
 ·exact hb
def Sh(n:Nat)(d:PyData):Prop:=d.canLay0=true/\d.depth<=n
theorem Te{n:Nat} : ∀ds:List PyData,(∀d∈ds,Sh n d)->Wk ds=true/\Ww ds<=n
 | [],_=>by simp[Wk,Ww]
 | d::ds,h=>by
  have h1:=h d (wB ..);have h2:=Te ds λe he=>h e (wu _ he)
  rw[Wk,Ww,h1.1,h2.1];exact⟨rfl,by have:=h1.2;have:=h2.2;lia⟩
theorem OC{ds:List PyData}(h:∀d∈ds,Sh n d):Sh (n+1) (.tuple ds):=by
 have:=Te ds h;unfold Sh;rw[vX,VC];exact⟨this.1,by have:=this.2;lia⟩
theorem Sh.mono{m:Nat}{d:PyData}(h:Sh m d)(e:m<=n):Sh n d:=⟨h.1,Wg h.2 e⟩
theorem Sh.shaped{d:PyData}(h:Sh n d)(e:n<=64):vV d=true:=by
 unfold vV;rw[h.1,qf];exact decide_eq_true (Wg h.2 e)
theorem LX(i:Int):Sh 1 (.int i):=⟨by simp[vX],by simp[VC]⟩
theorem zEB(x:Rat):Sh 2 (N x):=OC (zEz (LX _) (LX _))
section
variable{K:wa}{H H':Hp}{Q:VK}{D:cQ}{σ : St}{td ty tv:TE}{a:wf}{kvs:List (Key × V)}{k:Int}{v:V}
end
theorem OF:∀{ts:List Int}{ys:List V},ys.length=ts.length->(∀(j:Nat)(y:V),ys[j]? = some y->y=V.int (ts.getD j 0))->ys=ts.map V.int
 | [],[],_,_=>rfl
 | [],_::_,h,_=>by simp at h
 | _::_,[],h,_=>by simp at h
 | t::ts,y::ys,h,e=>by
  rw[w5,e 0 y rfl,OF (ts:=ts) (ys:=ys) (by simpa using h) λj z hz=>e (j+1) z hz]
  rfl
theorem Py{n:Nat}(p:Nat->Bool)(i:Nat):(wp (i+1)).filter p=(wp i).filter p++(if p i then [i]else []):=by
 rw[qQ,WL];cases h:p i<;>simp[h]
def Um(K:wa)(g:TG)(tt:TT)(te:TE)(src:List (Option Nat))(σ : St)(vs:List V)(H1:Hp)(Q:VK):Prop:=∃a,vs=[.ref a]/\(∃xs,bA K H1 a xs) /\
 ∀D,H1 D=none->kA g tt te (pE K a) D (d9 src σ) (upd H1 D (.lst [])) (λH'=>Q (.ref D) H')
section
variable{K:wa}{ta:TA}{g:TG}{tt:TT}{te:TE}{σ : St}{H:Hp}{Q:VK}{a:wf}{xs:List V}{src:List (Option Nat)}
theorem zwA(h:ta σ H λvs H1=>Um K g tt te src σ vs H1 Q):kT src (Dw K ta) g tt te σ H Q:=h
theorem zsD(hx:bA K H a xs)(Pv:wf->Nat->List V->St->Hp->Prop)(h0:∀D H',H D=none->ag H H'->H' D=some (.lst [])->Pv D 0 [] (d9 src σ) H')(hl:∀D i ys σ' H',Pv D i ys σ' H'->bA K H' a xs)
  (hs:∀D i x ys σ' H1 c H2,xs[i]? = some x->Pv D i ys σ' H1->H1 c=none->ag H1 H2->H2 c=some (.tup [.int (i:Int),x])->jb Pv g tt te D i (.ref c) σ' H2) (hd:∀D ys σ' H',Pv D xs.length ys σ' H'->Q (.ref D) H'):Um K g tt te src σ [.ref a] H Q:=by
 refine⟨a,rfl,⟨xs,hx⟩,λD hD=>⟨λi m σ' H'=>i+m=xs.length /\ ∃ys,Pv D i ys σ' H',⟨xs.length,by lia,[],h0 D _ hD (ag.upd hD) c6⟩,?_⟩⟩;rintro i m σ' H' ⟨him,ys,inv⟩;have hq:=hl _ _ _ _ _ inv
 by_cases hm:m=0
 ·have e:i=xs.length:=by lia
  subst e;exact .inl ⟨⟨xs,hq,wn _⟩,hd _ _ _ _ inv⟩
 ·have hi:i<xs.length:=by lia
  refine .inr ⟨⟨xs,xs[i],hq,by simp[hi]⟩,λσ2 H2=>∃ys,Pv D (i+1) ys σ2 H2,λσ2 H2 h=>⟨m-1,by lia,by lia,h⟩,?_⟩;rintro v H2 ⟨c,x,rfl,hn,hx',rfl⟩;exact hs D i x ys σ' H' c _ (hx' xs hq) inv hn (ag.upd hn) c6
end
def oZ(K:wa):R2:=λx y H Q=>∃d ds,Is K H x d/\Is K H y (.tuple ds)/\Sh 60 d/\vX (.tuple ds)=true/\Q (.bl (ds.any λe=>vy e d)) H
theorem Em{X:Cx}(hu:X.A.units+64<cLine):aM X (compareOp .In) (oZ X.K):=by
 intro pins s σ H x y v u Q I rx ry h;obtain⟨d,ds,hd,he,sd,se,q⟩:=h;obtain⟨as,h1⟩:=I.reads d x v sd.1 hd rx;obtain⟨bs,h2⟩:=I.reads (.tuple ds) y u se he ry;have sd2:=sd.2;have hm:=Xn (Ww ds) d.depth;exact SeqAt.in_tuple_reads h2 h1 (by rw[vX]at se;exact se) sd.1 (by lia) ⟨.bl _,H,I,rfl,q⟩
theorem Zt(xs:List Rat)(x:Rat):((xs.map N).any λe=>vy e (N x))=decide (x∈xs):=by
 induction xs with
 | nil=>rfl
 | cons y xs ih =>
  rw[w5,Qk,ih,ye]
  by_cases h:x=y
  ·subst h;simp
  ·have h':¬ y=x:=λz=>h z.symm
   simp[h,h']
theorem UJ{K:wa}{H:Hp}{Q:VK}{v w:V}{xs:List Rat}{x:Rat}(h:Is K H v (N x))(k:Is K H w (TN xs))(q:Q (.bl (decide (x∈xs))) H):oZ K v w H Q :=
 ⟨N x,xs.map N,h,k,(zEB x).mono (by decide),by rw[vX];exact B0 xs,by rw[Zt];exact q⟩
def kP(xs:List Rat)(v:Rat):PyData:=.tuple [N v,TW (gG xs v)]
theorem RF(xs:List Rat)(v:Rat):br (kP xs v)=true:=by rw[kP,br,aV,aV,aV,ff,Cs];rfl
theorem zwu(xs:List Rat)(l:List Rat):aV (l.map (kP xs))=true:=tH _ (RF xs) l
section
variable{K:wa}{H:Hp}{Q:VK}{v w:V}{ds:List PyData}{n:Nat}{l b:wf}{xs zs:List V}
theorem zyo(a b:Bool):vy (.bool a) (.bool b)=(a == b):=by rw[vy]
theorem LV(b:Bool):Sh 1 (.bool b):=⟨by simp[vX],by simp[VC]⟩
theorem zCx{a b:Bool}(q:Q (.bl (a == b)) H):cR K (.bl a) (.bl b) H Q:=sW (fL.mpr rfl) (fL.mpr rfl) ((LV a).shaped (by decide)) ((LV b).shaped (by decide)) (by rw[zyo];exact q)
theorem zDh{k:Int}(h:H l=some (.lst xs))(h0 : -1000<=k)(h1:k<=1000)(z:xs.length*k.toNat<=1000)(q:∀p H',H p=none->ag H H'->H' p=some (.lst (w8 k.toNat xs).flatten)->Q (.ref p) H'):rp (.ref l) (.int k) H Q :=
 ⟨l,k,xs,rfl,rfl,h,by lia,by lia,by have:=jV z;lia,λp hp=>q p _ hp (ag.upd hp) c6⟩
theorem ai.KZ{d:PyData}(h:Is K H v d):∀n:Nat,ai K H (w8 n v) (w8 n d)
 | 0=>.nil
 | n+1=>.cons h (ai.KZ h n)
end
theorem nv{K:wa}{H:Hp}{Q:VK}{v:V}{ds:List PyData}{d:PyData}(h:Is K H v (.list (ds++[d])))(q:∀x,Is K H x d->Q x H):dh K v (.int (-1)) H Q:=by
 obtain⟨a,xs,rfl,hs,t⟩:=cu.mp h;have hl:=t.length;rw[wy,wL]at hl;obtain⟨x,e1,hx⟩:=t.get (i:=ds.length) (d:=d) (by rw[vf (wn _),W7];rfl);exact jD hs (EF (by rw[hl];exact e1)) (q x hx)
def Du(K:wa):List V->Hp->VK->Prop:=λxs H Q=>∃(p:wf)(bs:List Bool),xs=[.ref p]/\aP K H p (bs.map V.bl)/\Q (.bl (bs.any id)) H
theorem zCG:vJ "any"=some (.builtin "any"):=by decide +kernel
theorem zt3(bs:List Bool):((wp bs.length).any λi=>(bs[i]?).getD true)=bs.any id:=by
 rw[vE,XB,XB]
 constructor
 ·rintro ⟨i,hi,h⟩
  rw[wG]at hi;rw[wc hi]at h;exact⟨bs[i],vT hi,h⟩
 ·rintro ⟨b,hb,h⟩
  obtain⟨i,hi,rfl⟩:=wY hb;exact⟨i,wG.mpr hi,by rw[wc hi];exact h⟩
open PyProof.V PySem.Calls in
theorem zwM{X:Cx}(hc:X.calm=true):aN X (.builtin "any") (Du X.K):=by
 intro pins s σ H xs us Q I r h;obtain⟨p,bs,rfl,hq,q⟩:=h;obtain⟨u,rfl,rx⟩:=jt r;cases rx;obtain⟨its,r',pl,hz⟩:=I.list hq;have hi:its=bs.map Value.bool:=N8 r';have hl:s.heap.IsList p its.toArray:=pl.isList;have hlt:p<s.heap.objs.size:=by obtain⟨_,e,_⟩:=hl;exact wA e
 refine call_any_walk (VS hl ?_)
 refine⟨s.heap.objs.size,[s.heap.objs.size,p],[s.heap.objs.size],its.toArray.size,_,_,λi=>(bs[i]?).getD true,rfl,XS (A:=X.A.in1) (I.ok.hd hc) _ p (wO hlt) its.toArray,
  ⟨⟨_,wN _ rfl,rfl,rfl⟩,hl.push _⟩,λi v s' Q' E' hP hQ=>?_,λh' tk hk=>?_⟩
 ·have hP:its.toArray[i]? = some v:=hP
  rw[hi]at hP;simp only[xf,wo,W5]at hP;obtain⟨b,e,rfl⟩:=hP;simp only[e,QC]at hQ;exact Wb hQ
 ·have e:((wp its.toArray.size).any λi=>(bs[i]?).getD true)=bs.any id:=by
   rw[wF,hi,wl];exact zt3 bs
  rw[e];exact⟨.bl (bs.any id),H,I.kept (t':=tk) (λb x e=>hk b x (λhm=>by rw[wI.mp hm]at e;exact WR _ (wA e)) (wm _ e)),rfl,q⟩
theorem zAn{K:wa}{H:Hp}{Q:VK}{p:wf}{bs:List Bool}(h:aP K H p (bs.map V.bl))(q:Q (.bl (bs.any id)) H):Du K [.ref p] H Q:=⟨p,bs,rfl,h,q⟩
def Fi(K:wa):List V->Hp->VK->Prop:=λxs H Q=>∃(p:wf)(ns:List Int),xs=[.ref p]/\aP K H p (ns.map V.int)/\Q (.int ns.sum) H
section
open PyProof.V PySem.Calls PySem.W
variable{prog:wK}{w:wQ}{A:Around}{E:Value->Shared->Prop}{s:Shared}
theorem zAa{t:wf}{xs:Array (Int × Tok)}{Q:Value->Shared->Prop}(hh:A.handled=none)(ht:s.heap.IsList t (intItems xs))
  (h:∀h' tk t',(∀b o,s.heap.get? b=some o->h'.get? b=some o)->Q (.int (preSum (numAt xs) xs.size) t') {s with heap:=h',toks:=tk}) :
  wq (model prog w) A (call (.builtin "sum") [.ref t]) Q E s:=by
 obtain⟨o,ho,hc,n,hd⟩:=id ht;have hne:t≠s.heap.objs.size:=wO (wA ho);have hsz:(intItems xs).size=xs.size:=by simp[intItems]
 have W:=(XS (prog:=prog) (w:=w) (A:=A.in1) hh s.heap.objs.size t hne (intItems xs)).toS;rw[hsz]at W;refine call_sum_walkAnyS (VS ht ?_);refine⟨s.heap.objs.size,_,_,_,_,_,_,numAt xs,rfl,W,⟨⟨_,wN _ rfl,rfl,rfl⟩,ht.at λo e=>wm _ e⟩,λb hb=>?_,λi v hP=>intItems_at hP,λs' t' hm=>?_⟩
 ·rcases wH.mp hb with rfl | hb
  ·exact wA (wN _ rfl)
  ·obtain rfl:=wI.mp hb
   exact wA (wm _ ho)
 ·obtain⟨h',g',d',tk',os'⟩:=s'
  have e1:g'=s.gens:=hm.gens;have e2:d'=s.drawn:=hm.drawn;have e3:os'=s.os:=hm.os;subst e1 e2 e3;exact h h' tk' t' λb o e=>hm.heap b o (λhb=>absurd (wA e) ((wI.mp hb) ▸ WR _)) (wm _ e)
theorem zuf{X:Cx}(hc:X.calm=true):aN X (.builtin "sum") (Fi X.K):=by
 intro pins s σ H xs us Q I r h;obtain⟨p,ns,rfl,hq,q⟩:=h;obtain⟨u,rfl,rx⟩:=jt r;cases rx;obtain⟨its,r',pl,hz⟩:=I.list hq;have hI:=BE r';have hT:s.heap.IsList p its.toArray:=pl.isList;obtain⟨zs,hx⟩:=hI.allInts.items;have hn:numsOf its.toArray.toList=ns:=by rw[show its.toArray.toList=its from rfl,hI.numsOf]
 rw[hx]at hT hn;rw[nums_intItems]at hn;refine zAa (I.ok.hd hc) hT λh' tk t' hk=>?_
 rw[preSum_eq,Wy (by simp),hn];exact⟨.int ns.sum,H,I.kept (t':=tk) hk,⟨_,rfl⟩,q⟩
end
theorem zBA{K:wa}{H:Hp}{Q:VK}{p:wf}{ns:List Int}(h:aP K H p (ns.map V.int))(q:Q (.int ns.sum) H):Fi K [.ref p] H Q:=⟨p,ns,rfl,h,q⟩
abbrev N2(h:wJ)(a:wf):wJ:=h.push {cls:=.type "tuple_iterator",data:=.fields #[.ref a,.int 0 0]}
abbrev Oc(h:wJ)(a b:wf):wJ:=(N2 h a).push {cls:=.type "list_iterator",data:=.fields #[.ref b,.int 0 0]}
abbrev Lg(h:wJ)(a b:wf):wJ:=(Oc h a b).push {cls:=.type "tuple",data:=.seq #[.ref h.objs.size,.ref (N2 h a).objs.size]}
abbrev zM4(h:wJ)(a b:wf):wJ:=(Lg h a b).push {cls:=.type "tuple",data:=.seq #[.none,.none]}
abbrev zM5(h:wJ)(a b:wf):wJ:=(zM4 h a b).push {cls:=.type "zip",data:=.fields #[.none,.bool false,.bool false,.ref (Oc h a b).objs.size,.ref (Lg h a b).objs.size]}
section
variable{prog:wK}{w:wQ}{A:Around}{E:Value->Shared->Prop}{s:Shared}
end
theorem zwp{K:wa}{H:Hp}{Q:VK}{v:V}{ds:List PyData}(h:Is K H v (.list ds)\/Is K H v (.tuple ds))(q:∀l H' ys,H l=none->ag H H'->H' l=some (.lst ys)->ai K H' ys ds->Q (.ref l) H'):ke K [v] H Q:=by
 rcases h with h | h
 ·exact zwj h q
 ·exact rQ h q
def Ly(K:wa)(G:Value)(tb:(St->XK)->TS)(th:TS):TS:=λD σ H=>∃W:St->XK,tb W D σ H /\ ∀σ' C o H',W σ' C o H'->V3 K C G=some true/\th D σ' H'
section
variable{X:Cx}{x:Str}{G:Value}{b₀ : wU}{body suite:List wU}{np hpos pos:Pos}{tb:(St->XK)->TS}{th:TS}
theorem zAL(hs:X.stack=X.env::X.outer)(hf:X.env.frame=some X.env.locals)(hg:Gl X x)(hG:X.mg x=some G)
  (hb:∀(W:St->XK)(pn:List (wf × Obj))(E':Value->Shared->Prop),Mc (fU X.prog X.w) (X.at pn E') W->fQ (X.at pn E') body (tb W))
  (hh:∀(pn:List (wf × Obj))(ex:wf)(oe:Obj),fQ (X.tZ pn ex oe) (b₀ :: suite) th) (hdb:(x == ("__debug__" : Str))=false:=by decide) :
  PS X (.Try body [.ExceptHandler (some (.Name x np)) none (b₀ :: suite) hpos] [] [] pos) (Ly X.K G tb th):=by
 intro pins s σ H D I h;obtain⟨W,hB,hH⟩:=h;refine wpAny_Try_except ?_;have I':=I.Zd λe s1=>∃σ1 H1 s0,Inv X pins σ1 H1 s0/\fU X.prog X.w X.stack H1 s0 (W σ1) e s1
 have key:=hb W (X.pn++pins) (λe s1=>∃σ1 H1 s0,Inv X pins σ1 H1 s0/\fU X.prog X.w X.stack H1 s0 (W σ1) e s1) (λpins1 σ1 H1 s0 e s1 I1 q=>⟨σ1,H1,s0,I1.p9,q⟩) [] s σ H D I' hB;refine Ws key (λf s1 hq=>?_) λe s1 he=>?_
 ·cases f with
  | next=>obtain⟨σ',H',J,q⟩:=hq;exact qk ⟨σ',H',J.p9,q⟩
  | brk=>obtain⟨σ',H',J,q⟩:=hq;exact⟨σ',H',J.p9,q⟩
  | cont=>obtain⟨σ',H',J,q⟩:=hq;exact⟨σ',H',J.p9,q⟩
  | ret u=>obtain⟨v,σ',H',J,r,q⟩:=hq;exact⟨v,σ',H',J.p9,r,q⟩
 obtain⟨σ1,H1,s0,I1,ex,C,H',B,rfl,os,bare,un,aO,F,ov,q⟩:=he;obtain⟨hm,hS⟩:=hH σ1 C none H' q;have hfs:∀b∈eK X.stack,H1 b=none /\ ∃o,s0.heap.get? b=some o /\ ∀vs,o.data≠.fields vs:=λb hb=>⟨I1.tV b hb,(I1.stack.mem hb).2⟩
 have hfr:=I.ok.frames.trans (congrArg some hs)
 have hex:H' ex=none:=by
  obtain⟨_,_,_,_,_,_,_,_,_,_,_,_,_,be,_⟩:=F;cases z:H' ex with
  | none=>rfl
  | some o =>
   obtain⟨u,e1⟩:=ov.jL ex o z;rw[be]at e1;cases e1
 have st1:=F.st;rw[hs]at F
 have exc:∀{h4:wJ},fM B (X.env::X.outer) ex C .none h4->s1.heap.UpToSlots h4->∃oe,h4.get? ex=some oe/\N1 C oe/\Inv (X.tZ (X.pn++pins) ex oe) [] σ1 H' {s1 with heap:=h4}:=λ{h4} F4 sm=>by
  have J:Inv X pins σ1 H' {s1 with heap:=h4}:=I1.KO (s':={s1 with heap:=h4}) (ch:=[]) os (ov.un un hfs F4.st sm) (ov.aO aO st1 F4.st) bare (λ_ z=>nomatch z);obtain⟨_,_,oe,vs,T,oT,ts,he,hc,hd,h1,h2,hdi,_⟩:=F4;refine⟨oe,he,⟨hc,⟨vs,hd,h2⟩,hdi⟩,J.Y_ he hex (λz=>?_) (λz=>?_) λv z=>?_⟩
  ·obtain⟨m,⟨o,es,ep,ho,hdd,_⟩,_⟩:=J.loc
   rw[<- z]at ho;have:(some oe:Option Obj)=some o:=he.symm.trans ho;cases this;rw[hd]at hdd;cases hdd
  ·obtain⟨_,o,ho,nr⟩:=J.fJ.mem z
   have:(some oe:Option Obj)=some o:=he.symm.trans ho;cases this;exact nr vs hd
  ·rw[hd]at z;cases z
 refine F.note hfr hf λh2 F2 sm2=>F2.land λh3 F3 sm3=>?_
 obtain⟨oe3,g3,x3,K3⟩:=exc F3 (sm2.trans sm3);refine wpAny_handleBy_cons (codeAny_handlers_test (oD K3 hg hG ?_ hdb)) (by intro z;cases z);have LT:PySem.W.Looks (model X.prog X.w) h3 (typeOf (.ref ex)) C:=x3.cls ▸ (ur g3).andThen .now;refine(PySem.W.exm_one (h:=h3) K3.d5 LT hm).here ?_;refine codeAny_handlers_suite ?_;refine F3.land λh4 F4 sm4=>?_
 obtain⟨oe,g4,x4,K4⟩:=exc F4 ((sm2.trans sm3).trans sm4);refine Ws (hh _ ex oe [] _ _ H' _ K4 hS) (λf s6 h6=>?_) λ_ _ z=>z.elim
 cases f with
 | next=>obtain⟨σ',H6,J,q6⟩:=h6;exact⟨_,H6,J.tY I.ok,q6⟩
 | brk=>obtain⟨σ',H6,J,q6⟩:=h6;exact⟨_,H6,J.tY I.ok,q6⟩
 | cont=>obtain⟨σ',H6,J,q6⟩:=h6;exact⟨_,H6,J.tY I.ok,q6⟩
 | ret u=>obtain⟨v,σ',H6,J,r,q6⟩:=h6;exact⟨v,_,H6,J.tY I.ok,r,q6⟩
end
theorem zAG{K:wa}{σ : St}{H:Hp}{D:cQ}{G:Value}{tb:(St->XK)->TS}{th:TS}(W:St->XK)(h:tb W D σ H)(k:∀σ' C o H',W σ' C o H'->V3 K C G=some true/\th D σ' H'):Ly K G tb th D σ H:=⟨W,h,k⟩
theorem kC{K:wa}{H:Hp}{Q:VK}(s t:String)(r:Bool)(e:vy (.str (vQ s)) (.str (vQ t))=r)(q:Q (.bl r) H):cR K (.str (vQ s)) (.str (vQ t)) H Q :=
 sW (d:=.str (vQ s)) (e:=.str (vQ t)) (cW.mpr rfl) (cW.mpr rfl) (FZ s) (FZ t) (by rw[e];exact q)
section
variable{K:wa}{H:Hp}{Q:VK}{p:wf}{ns:List Int}
end
def LW(ws:List (List Nat)):PyData:=.list (ws.map TW)
section
variable{K:wa}{H:Hp}{Q:VK}{v:V}{d:PyData}{x y:Str}
end
end L2
namespace GM
section
variable(rs:List Int)(us ts:List (List Int))(ps cs:List Int)
end
section
variable{rs:List Int}{us ts:List (List Int)}{ps cs:List Int}
end
section
variable(rs:List Int)(us ts:List (List Int))(ps cs:List Int)
end
section
variable{rs:List Int}{us ts:List (List Int)}{ps cs:List Int}{f:Nat}{g:List Nat}{acc:List (List Nat)}
end
section
variable(rs:List Int)(us ts:List (List Int))(ps:List Int)(cm:List (List Int))
end
section
variable{rs:List Int}{us ts:List (List Int)}{ps:List Int}{cm:List (List Int)}
end
end GM
namespace L2
open PySem PySem.Spec PyProof.Rows GM
section
variable{K:wa}{H H':Hp}{Q:VK}{v:V}{rs ps:List Int}{us ts cm rows:List (List Int)}{m:Int}{ws:List (List Nat)}
end
theorem zCT{i:Nat}{te:TE}{ti:sI}{D:cQ}{σ : L2.St}{H:Hp}(h:∃x,σ[i]? = some (some x)/\te σ H λy H1=>ti x y H1 λz H2=>D.nx (σ.set i (some z)) H2):RC i te ti D σ H:=h
theorem zBn{v:V}{P:V->Prop}{o:Option (Option V)}(h:o=some (some v))(q:P v):∃x,o=some (some x)/\P x:=⟨v,h,q⟩
theorem zCq{f:Int->Int->Int}{m n:Int}{H:Hp}{Q:VK}(q:Q (.int (f m n)) H):M3 f (.int m) (.int n) H Q:=⟨m,n,rfl,rfl,q⟩
end L2
namespace TB
open PySem PySem.W PyProof.Rows
inductive eU{α β : Type}(R : α -> β -> Prop):List α -> List β -> Prop
 | nil:eU R [] []
 | cons {a : α} {b : β} {l:List α} {m:List β} : R a b->eU R l m->eU R (a::l) (b::m)
structure HV(prog:wK)(w:wQ)(K:Type)[DecidableEq K] where
 is:wJ->K->Value->Prop
 hash:K->Int
 draws:K->Nat
 deep:Nat
 inj:∀{h:wJ}{v:Value}{x y:K},is h x v->is h y v->x=y
 keeps:∀{h h':wJ}{k:K}{v:Value}{d:wf}{o:Obj}{es ep},is h k v->h.get? d=some o->o.data=.dict es ep->vB d h h'->is h' k v
 pyHash:∀{A:Around}{E:Value->Shared->Prop}{s:Shared}{k:K}{v:Value}{Q:Int->Shared->Prop},A.units+deep<cLine->is s.heap k v->Q (hash k) {s with toks:=s.toks+draws k}->wq (model prog w) A (PySem.pyHash v) Q E s
 eqBool:∀{A:Around}{E:Value->Shared->Prop}{s:Shared}{x y:K}{u v:Value}{Q:Bool->Shared->Prop},A.units+deep<cLine->is s.heap x u->is s.heap y v->Q (decide (x=y)) s->wq (model prog w) A (PySem.eqBool u v) Q E s
 quiet:∀{A:Around}{E:Value->Shared->Prop}{s:Shared}{k:K}{v:Value}{Q:Bool->Shared->Prop}(n:Nat),deep<=n->is s.heap k v->Q true s->wq (model prog w) A (eqIsQuiet n v) Q E s
section
variable{prog:wK}{w:wQ}{A:Around}{E:Value->Shared->Prop}{s:Shared}
variable{a:wf}
theorem NI{o:Obj}{items:Array Value}{n:Nat}{hs:List (Int × Nat)}{Q:Int->Shared->Prop}(hu:A.units<cLine)(ho:s.heap.get? a=some o)(hc:o.cls=.type "tuple")(hd:o.data=.seq items n)
  (hi:eU (λv (x:Int × Nat)=>∀(E:Value->Shared->Prop)(Q:Int->Shared->Prop)(s':Shared),s'.heap=s.heap->Q x.1 {s' with toks:=s'.toks+x.2}->wq (model prog w) A.in1 (pyHash v) Q E s') items.toList hs)
  (h:Q (reduceHash (vS (hs.map (·.1)))) {s with toks:=s.toks+((hs.map (·.2)).sum+1)}) :
  wq (model prog w) A (pyHash (.ref a)) Q E s:=by
 have hT:s.TypeIs (.ref a) "tuple":=⟨o,ho,hc⟩;unfold pyHash
 first | unfold pyHashByItsType | skip
 first | refine wg (wpAny_cRoomFor_or (.inr hu) ?_) | skip
 refine wg (wpAny_specialOf hT qH.lookup ?_)
 show wq _ _ (if(some (Value.builtin "tuple.__hash__") == some Value.none)=true then _ else _) Q E s
 rw[if_neg (by rw[beq_builtin_none];exact vk)];refine wg (wpAny_specialOf hT qH.lookup ?_)
 show wq _ _ (callSpecialIfBoundUnlessNone? (.ref a) "__hash__" _ >>= _) Q E s
 refine wg (wpAny_callSpecialIfBoundUnlessNone?_slot hT qH (Wa qH hT F.entry_tuple_hash ?_ (F.args_tuple_hash_1 _)))
 show wq _ _ (Qi (.ref a) >>= _) _ _ s
 refine wg (wpAny_tupleItemsOf ho hd ?_);refine wg ?_;rw[<- qy]
 refine wpAny_forIn_list _
  (λbR (b:Array Int) s'=>∃done left,hs=done++left/\eU (λv (x:Int × Nat)=>∀(E:Value->Shared->Prop)(Q:Int->Shared->Prop)(s':Shared),s'.heap=s.heap->Q x.1 {s' with toks:=s'.toks+x.2}->wq (model prog w) A.in1 (pyHash v) Q E s') bR left/\b.toList=done.map (·.1)/\s' = {s with toks:=s.toks+(done.map (·.2)).sum})
  _ ?_ ?_ _ _ ⟨[],hs,rfl,hi,rfl,rfl⟩
 ·rintro x bR b s' ⟨done,left,rfl,hl,hb,rfl⟩
  cases hl with
  | @cons _ k _ ks' h1 hl' =>
   refine wg (h1 _ _ _ rfl ?_)
   first
    | exact wt ⟨done++[k],ks',by simp,hl',by simp[hb],by simp[VH]⟩
    | exact wg (wt (wt ⟨done++[k],ks',by simp,hl',by simp[hb],by simp[VH]⟩))
 ·rintro b s' ⟨done,left,rfl,hl,hb,rfl⟩
  cases hl;rw[vW]at h
  show wq _ _ (retInt (vS b.toList)) _ _ _
  rw[hb];refine wpAny_ret_mkInt ?_
  show wq _ _ (if(decide (-(2:Int)^63<=vS (done.map (·.1)))&&decide (vS (done.map (·.1))<2^63))=true then _ else _) Q E _
  unfold reduceHash at h
  by_cases hr:(decide (-(2:Int)^63<=vS (done.map (·.1)))&&decide (vS (done.map (·.1))<2^63))=true
  ·rw[if_pos hr]
   rw[if_pos hr]at h;exact wt (by simpa [VH] using h)
  ·rw[if_neg hr]
   rw[if_neg hr]at h;exact wg (wpAny_rule (wt (by simpa [VH] using h)))
theorem zCU{b:wf}{oa ob:Obj}{xs ys:Array Value}{na nb:Nat}{bs:List Bool}{P:PySem.Fin->Shared->Prop}(hoa:s.heap.get? a=some oa)(hda:oa.data=.seq xs na)(hob:s.heap.get? b=some ob)(hcb:ob.cls=.type "tuple")(hdb:ob.data=.seq ys nb)
  (hi:eU (λ(p:Value × Value)(c:Bool)=>∀(E:Value->Shared->Prop)(Q:Bool->Shared->Prop),Q c s->wq (model prog w) A (eqBool p.1 p.2) Q E s) (xs.toList.zip ys.toList) bs)
  (h:P (.done (.ret (.bool (bs.all id&&xs.size == ys.size)))) s) :
  wq (model prog w) A (Builtin.«tuple.__eq__» ⟨[.ref a,.ref b],[]⟩) P E s:=by
 have hTb:s.TypeIs (.ref b) "tuple":=⟨ob,hob,hcb⟩
 show wq _ _ (isInstance (.ref b) (.type "tuple") >>= _) _ _ s
 refine wg (W3 hTb isSubtype_tuple_tuple ?_);simp only[qc,Wq,if_false];refine wg (wpAny_tupleItemsOf hoa hda ?_);refine wg (wpAny_tupleItemsOf hob hdb ?_);refine wg ?_
 refine wpAny_forIn_list _
  (λbR r s'=>r.1=none/\s'=s /\ ∃cs,eU (λ(p:Value × Value)(c:Bool)=>∀(E:Value->Shared->Prop)(Q:Bool->Shared->Prop),Q c s->wq (model prog w) A (eqBool p.1 p.2) Q E s) bR cs/\bs.all id=cs.all id)
  _ ?_ ?_ _ _ ⟨rfl,rfl,bs,hi,rfl⟩
 ·rintro ⟨u,v⟩ bR r s' ⟨hr,rfl,cs,hcs,hall⟩
  cases hcs with
  | @cons _ c _ cs' h1 h2 =>
   refine wg (h1 _ _ ?_);cases c with
   | true =>
    simp only[qc,Wq,if_false];exact wt ⟨rfl,rfl,cs',h2,by rw[hall];simp⟩
   | false =>
    simp only[xa,if_true];have hf:bs.all id=false:=by rw[hall];simp
    rw[hf,vO]at h;exact wg (wt (wt (wt h)))
 ·rintro ⟨r1,r2⟩ s' ⟨hr,rfl,cs,hcs,hall⟩
  simp only at hr;subst hr;refine wt ?_;cases hcs;rw[hall]at h;have h':P (.done (.ret (.bool (xs.size == ys.size)))) s':=by simpa using h
  exact h'
theorem U9{o:Obj}{items:Array Value}{n m:Nat}{Q:Bool->Shared->Prop}(ho:s.heap.get? a=some o)(hc:o.cls=.type "tuple")(hd:o.data=.seq items n)
  (hi:∀v∈items.toList,∀(E:Value->Shared->Prop)(Q:Bool->Shared->Prop),Q true s->wq (model prog w) A (eqIsQuiet m v) Q E s) (h:Q true s):wq (model prog w) A (eqIsQuiet (m+1) (.ref a)) Q E s:=by
 have hT:s.TypeIs (.ref a) "tuple":=⟨o,ho,hc⟩;unfold eqIsQuiet;refine wg (wpAny_specialOf hT QP.lookup ?_)
 show wq _ _ (isInstance (.ref a) (.type "tuple") >>= _) _ _ s
 refine wg (W3 hT isSubtype_tuple_tuple ?_);simp only[qc,Wq,if_false];refine wg (Wn ho hd ?_);refine wg ?_
 show wq _ _ (forIn items _ _) _ _ s
 rw[<- qy];refine wpAny_forIn_list _ (λbR r s'=>r.1=none/\s'=s /\ ∀v∈bR,v∈items.toList) _ ?_ ?_ _ _ ⟨rfl,rfl,λ_ h=>h⟩
 ·rintro v bR r s' ⟨hr,rfl,hall⟩
  refine wg (hi v (hall v wB) _ _ ?_);simp only[qc,Wq,if_false];exact wt ⟨rfl,rfl,λu hu'=>hall u (wu _ hu')⟩
 ·rintro ⟨r1,r2⟩ s' ⟨hr,rfl,_⟩
  simp only at hr;subst hr;exact wt h
theorem PB{b:wf}{oa ob:Obj}{xs ys:Array Value}{na nb:Nat}{bs:List Bool}{Q:Bool->Shared->Prop}(hu:A.units<cLine)(hoa:s.heap.get? a=some oa)(hca:oa.cls=.type "tuple")(hda:oa.data=.seq xs na)(hob:s.heap.get? b=some ob)(hcb:ob.cls=.type "tuple")(hdb:ob.data=.seq ys nb)
  (he:a=b->(bs.all id&&xs.size == ys.size)=true)
  (hi:eU (λ(p:Value × Value)(c:Bool)=>∀(E:Value->Shared->Prop)(Q:Bool->Shared->Prop),Q c s->wq (model prog w) A.in1 (eqBool p.1 p.2) Q E s) (xs.toList.zip ys.toList) bs)
  (h:Q (bs.all id&&xs.size == ys.size) s):wq (model prog w) A (eqBool (.ref a) (.ref b)) Q E s:=by
 unfold eqBool
 try with_reducible refine WD ?_
 show wq _ _ (if(Value.ref a == Value.ref b)=true then _ else _) Q E s
 by_cases hab:(Value.ref a == Value.ref b)=true
 ·rw[if_pos hab]
  have e:a=b:=by have:=eq_of_beq hab;injection this
  rw[he e]at h;exact wg (wpAny_rule (wt h))
 ·rw[if_neg hab]
  have ta:s.TypeIs (.ref a) "tuple":=⟨oa,hoa,hca⟩;have tb:s.TypeIs (.ref b) "tuple":=⟨ob,hob,hcb⟩
  exact wg (wpAny_richCompare_same_room (op:=.Eq) ta tb QP
   (Wa QP ta F.entry_tuple_eq (zCU hoa hda hob hcb hdb hi ⟨_,rfl,(λe=>nomatch e),Wb h⟩) (F.args_tuple_eq_2 _ _)) hu)
end
def lO(R:List Value->Prop)(h:wJ)(v:Value):Prop:=∃a o items n,v=.ref a/\h.get? a=some o/\o.cls=.type "tuple"/\o.data=.seq items n/\R items.toList
theorem lO.inj{R S:List Value->Prop}{h:wJ}{v:Value}(x:lO R h v)(y:lO S h v):∃l,R l/\S l:=by
 obtain⟨a,o,items,n,rfl,ho,_,hd,hi⟩:=x;obtain⟨a',o',items',n',e,ho',_,hd',hi'⟩:=y;cases e;obtain rfl:o=o':=wW (ho.symm.trans ho');rw[hd]at hd'
 injection hd' with h1 _
 subst h1;exact⟨_,hi,hi'⟩
theorem lO.keeps{R S:List Value->Prop}{h h':wJ}{v:Value}{d:wf}{o:Obj}{es ep}(x:lO R h v)(ho:h.get? d=some o)(hd:o.data=.dict es ep)(hs:vB d h h')(r:∀l,R l->S l):lO S h' v:=by
 obtain⟨a,o',items,n,rfl,ho',hc,hd',hi⟩:=x
 have hne:a≠d:=by
  rintro rfl;obtain rfl:o'=o:=wW (ho'.symm.trans ho);rw[hd]at hd';exact nomatch hd'
 exact⟨a,o',items,n,rfl,(hs.2 a hne).trans ho',hc,hd',r _ hi⟩
def gy(prog:wK)(w:wQ):HV prog w Int where
 is:=λ_ k v=>∃t,v=.int k t
 hash:=hashInt
 draws:=λ_=>1
 deep:=0
 inj:=λ⟨t,e⟩ ⟨u,f⟩=>by subst e;injection f
 keeps:=λh _ _ _=>h
 pyHash:=λ_ ⟨t,e⟩ h=>by subst e;exact wpAny_pyHash_int h
 eqBool:=λ_ ⟨t,e⟩ ⟨u,f⟩ h=>by subst e f;exact wpAny_eqBool_int h
 quiet:=λn _ ⟨t,e⟩ h=>by subst e;rw[eqIsQuiet_byValue n rfl];exact wt h
section
variable{prog:wK}{w:wQ}{K:Type}[DecidableEq K](e:HV prog w K)
theorem OT{A:Around}{s:Shared}(hu:A.in1.units+e.deep<cLine):∀{ks:List K}{vs:List Value},eU (e.is s.heap) ks vs ->
  eU (λv (x:Int × Nat)=>∀(E:Value->Shared->Prop)(Q:Int->Shared->Prop)(s':Shared),s'.heap=s.heap->Q x.1 {s' with toks:=s'.toks+x.2}->wq (model prog w) A.in1 (pyHash v) Q E s') vs (ks.map λk=>(e.hash k,e.draws k))
 | _,_,.nil=>.nil
 | _,_,.cons h t=>.cons (λE Q s' he q=>e.pyHash hu (he ▸ h) q) (OT hu t)
theorem L8{A:Around}{s:Shared}(hu:A.in1.units+e.deep<cLine):∀{ks js:List K}{us vs:List Value},eU (e.is s.heap) ks us->eU (e.is s.heap) js vs ->
  ∃bs,eU (λ(p:Value × Value)(c:Bool)=>∀(E:Value->Shared->Prop)(Q:Bool->Shared->Prop),Q c s->wq (model prog w) A.in1 (eqBool p.1 p.2) Q E s) (us.zip vs) bs/\(bs.all id&&us.length == vs.length)=decide (ks=js)
 | _,_,_,_,.nil,.nil=>⟨[],.nil,by simp⟩
 | _,_,_,_,.nil,.cons _ _=>⟨[],.nil,by simp⟩
 | _,_,_,_,.cons _ _,.nil=>⟨[],.nil,by simp⟩
 | k::ks,j::js,_,_,.cons h t,.cons h' t'=>by
  obtain⟨bs,b1,b2⟩:=L8 hu t t';refine⟨decide (k=j)::bs,.cons (λE Q q=>e.eqBool hu h h' q) b1,?_⟩;rw[Qj,Bool.and_assoc,vn,vn,show ∀a b:Nat,(a+1 == b+1)=(a == b)from λa b=>by simp,b2]
  by_cases h1:k=j<;>by_cases h2:ks=js<;>simp[h1,h2]
theorem Cr{h:wJ} : ∀{ks js:List K}{vs:List Value},eU (e.is h) ks vs->eU (e.is h) js vs->ks=js
 | _,_,_,.nil,.nil=>rfl
 | _,_,_,.cons h t,.cons h' t'=>by rw[e.inj h h',Cr t t']
theorem PL{α β : Type}{R S : α -> β -> Prop}(f:∀a b,R a b->S a b):∀{l:List α}{m:List β},eU R l m->eU S l m
 | _,_,.nil=>.nil
 | _,_,.cons h t=>.cons (f _ _ h) (PL f t)
theorem O9{α β : Type}{R : α -> β -> Prop} : ∀{l:List α}{m:List β},eU R l m->∀y∈m,∃x,R x y
 | _,_,.nil,y,hy=>by cases hy
 | _,_,.cons h t,y,hy=>by
  rcases wH.mp hy with rfl | hy
  ·exact⟨_,h⟩
  ·exact O9 t y hy
def gA:HV prog w (List K) where
 is:=λh ks v=>lO (eU (e.is h) ks) h v
 hash:=λks=>reduceHash (vS ((ks.map λk=>(e.hash k,e.draws k)).map (·.1)))
 draws:=λks=>((ks.map λk=>(e.hash k,e.draws k)).map (·.2)).sum+1
 deep:=e.deep+1
 inj:=λx y=>by
  obtain⟨l,h1,h2⟩:=x.inj y;exact Cr e h1 h2
 keeps:=λx ho hd hs=>x.keeps ho hd hs λl h=>PL (λa b r=>e.keeps r ho hd hs) h
 pyHash:=λ{A E s k v Q} hu x h=>by
  obtain⟨a,o,items,n,rfl,ho,hc,hd,hi⟩:=x;exact NI (by lia) ho hc hd (OT e (show A.units+1+e.deep<cLine by lia) hi) h
 eqBool:=λ{A E s x y u v Q} hu hx hy h=>by
  have hj:u=v->x=y:=λev=>by
   subst ev;obtain⟨l,h1,h2⟩:=hx.inj hy;exact Cr e h1 h2
  obtain⟨a,o,items,n,rfl,ho,hc,hd,hi⟩:=hx;obtain⟨a',o',items',n',rfl,ho',hc',hd',hi'⟩:=hy;obtain⟨bs,b1,b2⟩:=L8 e (A:=A) (show A.units+1+e.deep<cLine by lia) hi hi';have b3:(bs.all id&&items.size == items'.size)=decide (x=y):=by rw[<- b2];rfl
  refine PB (by lia) ho hc hd ho' hc' hd' (λea=>?_) b1 (by rw[b3];exact h);rw[b3];exact decide_eq_true (hj (by rw[ea]))
 quiet:=λ{A E s k v Q} n hn x h=>by
  obtain⟨a,o,items,m,rfl,ho,hc,hd,hi⟩:=x;obtain⟨j,rfl⟩:∃j,n=j+1:=⟨n-1,by lia⟩
  exact U9 ho hc hd (λu hu E Q q=>by
   obtain⟨x,hx⟩:=O9 hi u hu;exact e.quiet j (by lia) hx q) h
end
section
variable{prog:wK}{w:wQ}{J K:Type}[DecidableEq J][DecidableEq K](d:HV prog w J)(e:HV prog w K)
def Two(h:wJ)(k:J × K)(l:List Value):Prop:=∃u v,l=[u,v]/\d.is h k.1 u/\e.is h k.2 v
def Ni:HV prog w (J × K) where
 is:=λh k v=>lO (Two d e h k) h v
 hash:=λk=>reduceHash (vS ([(d.hash k.1,d.draws k.1),(e.hash k.2,e.draws k.2)].map (·.1)))
 draws:=λk=>([(d.hash k.1,d.draws k.1),(e.hash k.2,e.draws k.2)].map (·.2)).sum+1
 deep:=max d.deep e.deep+1
 inj:=λ{h v x y} hx hy=>by
  obtain⟨l,⟨u,v,rfl,h1,h2⟩,u',v',e',h3,h4⟩:=hx.inj hy;cases e';exact VP (d.inj h1 h3) (e.inj h2 h4)
 keeps:=λx ho hd hs=>x.keeps ho hd hs λl ⟨u,v,r,h1,h2⟩=>⟨u,v,r,d.keeps h1 ho hd hs,e.keeps h2 ho hd hs⟩
 pyHash:=λ{A E s k v Q} hu x h=>by
  obtain⟨a,o,items,n,rfl,ho,hc,hd,u,v,hl,h1,h2⟩:=x
  exact NI (by lia) ho hc hd (by
   rw[hl];exact .cons (λE Q s' he q=>d.pyHash (show A.units+1+d.deep<cLine by lia) (he ▸ h1) q) (.cons (λE Q s' he q=>e.pyHash (show A.units+1+e.deep<cLine by lia) (he ▸ h2) q) .nil)) h
 eqBool:=λ{A E s x y u v Q} hu hx hy h=>by
  have hj:u=v->x=y:=λev=>by
   subst ev;obtain⟨l,⟨u,v,rfl,h1,h2⟩,u',v',e',h3,h4⟩:=hx.inj hy;cases e';exact VP (d.inj h1 h3) (e.inj h2 h4)
  obtain⟨a,o,items,n,rfl,ho,hc,hd,u,v,hl,h1,h2⟩:=hx;obtain⟨a',o',items',n',rfl,ho',hc',hd',u',v',hl',h1',h2'⟩:=hy
  have b3:([decide (x.1=y.1),decide (x.2=y.2)].all id&&items.size == items'.size)=decide (x=y):=by
   rw[<- WX,<- WX,hl,hl'];obtain⟨x1,x2⟩:=x;obtain⟨y1,y2⟩:=y
   by_cases h1:x1=y1<;>by_cases h2:x2=y2<;>simp[h1,h2]
  refine PB (bs:=[decide (x.1=y.1),decide (x.2=y.2)]) (by lia) ho hc hd ho' hc' hd' (λea=>?_) ?_ (by rw[b3];exact h)
  ·rw[b3]
   exact decide_eq_true (hj (by rw[ea]))
  ·rw[hl,hl']
   exact .cons (λE Q q=>d.eqBool (show A.units+1+d.deep<cLine by lia) h1 h1' q) (.cons (λE Q q=>e.eqBool (show A.units+1+e.deep<cLine by lia) h2 h2' q) .nil)
 quiet:=λ{A E s k v Q} n hn x h=>by
  obtain⟨a,o,items,m,rfl,ho,hc,hd,u,v,hl,h1,h2⟩:=x;obtain⟨j,rfl⟩:∃j,n=j+1:=⟨n-1,by lia⟩
  exact U9 ho hc hd (λu hu E Q q=>by
   rw[hl]at hu;rcases wH.mp hu with rfl | hu
   ·exact d.quiet j (by lia) h1 q
   ·rw[wI]at hu
    subst hu;exact e.quiet j (by lia) h2 q) h
end
abbrev SK:=List Int × List (List Int)
def kY(prog:wK)(w:wQ):HV prog w SK:=Ni (gA (gy prog w)) (gA (gA (gy prog w)))
def ZK(prog:wK)(w:wQ):HeapKind prog w SK where
 is:=λh k a=>(kY prog w).is h k (.ref a)
 hash:=(kY prog w).hash
 draws:=(kY prog w).draws
 room:=λA=>A.units+3<cLine
 inj:=λx y=>(kY prog w).inj x y
 keeps:=λx ho hd hs=>(kY prog w).keeps x ho hd hs
 pyHash:=λhu hk h=>(kY prog w).pyHash hu hk h
 eqBool:=λhu hx hy h=>(kY prog w).eqBool hu hx hy h
 quiet:=λhk h=>(kY prog w).quiet 8 (by show 3<=8;decide) hk h
end TB
namespace L2
open PySem PySem.Spec PyProof.Rows GM
open TB (SK ZK kY gA gy Ni eU)
theorem Yj{P:wK}{w:wQ}{h:wJ} : ∀{us:List Value}{ns:List Int},IntsAre us ns->eU ((gy P w).is h) ns us
 | _,_,.nil=>.nil
 | _,_,.cons n t r=>.cons ⟨t,rfl⟩ (Yj r)
section
variable{X:Cx}{pins:List (wf × Obj)}{σ : St}{H:Hp}{s:Shared}
theorem Inv.Zj(I:Inv X pins σ H s){v:V}{u:Value}{k:List Int}(h:Is X.K H v (TZ k))(r:bK v u):(gA (gy X.prog X.w)).is s.heap k u:=by
 obtain⟨q,rfl,hs⟩:=rJ.mp h;obtain⟨its,r',⟨o,e,hc,n,hd⟩,_⟩:=I.tuple hs;cases (show u=Value.ref q from r);exact⟨q,o,its.toArray,n,rfl,e,hc,hd,Yj (BE r')⟩
end
def zD6(l:List (Int × Nat)):Int:=reduceHash (vS (l.map (·.1)))
def zDD(ks:List Int):Int:=zD6 (ks.map λk=>(hashInt k,1))
section
variable{X:Cx}{pins:List (wf × Obj)}{σ : St}{H:Hp}{s:Shared}{a b:wf}{xs:List (SK × wf × Int)}{ps:List Int}{cm:List (List Int)}{A:Around}{E:Value->Shared->Prop}
end
section
variable{X:Cx}{pos pos':Pos}{i o value:Expr}{ty td tv:TE}
end
section
variable{K:wa}{H H':Hp}{Q:VK}{D:cQ}{σ : St}{td ty tv:TE}{a b:wf}{xs:List (SK × wf × Int)}{ps:List Int}{cm:List (List Int)}{n:Int}
end
section
variable{X:Cx}{N':List Str}{scope:Scope}{cl:List (Str × wf)}{src:List (Option Nat)}{elt tgt iter:Expr}{ifs:List Expr}{pos:Pos}{wi:TI}{g:TG}{tt:TT}{te:TE}
end
section
variable{K:wa}{H H':Hp}{Q:VK}{D:cQ}{σ : St}{g:TG}{tb:TS}{ta td ty:TE}{tA:TA}{v:V}{d:PyData}{a:wf}{kvs:List (Key × V)}{x:Str}{i:Int}{xs:List V}
end
end L2
namespace TB
open PySem PySem.Spec PyProof.Rows
def d6(prog:wK)(w:wQ):HeapKind prog w (List Int) where
 is:=λh k a=>(gA (gy prog w)).is h k (.ref a)
 hash:=(gA (gy prog w)).hash
 draws:=(gA (gy prog w)).draws
 room:=λA=>A.units+1<cLine
 inj:=λx y=>(gA (gy prog w)).inj x y
 keeps:=λx ho hd hs=>(gA (gy prog w)).keeps x ho hd hs
 pyHash:=λhu hk h=>(gA (gy prog w)).pyHash hu hk h
 eqBool:=λhu hx hy h=>(gA (gy prog w)).eqBool hu hx hy h
 quiet:=λhk h=>(gA (gy prog w)).quiet 8 (by show 1<=8;decide) hk h
section
variable{prog:wK}{w:wQ}{K:Type}[DecidableEq K]{knd:HeapKind prog w K}{A:Around}{E:Value->Shared->Prop}{s:Shared}
end
end TB
namespace L2
open PySem PySem.Spec PyProof.Rows GM
open TB (d6 gA gy)
abbrev NE:=List Int × wf × wf
def sr(x:NE)(e:DictEntry):Prop:=e=⟨zDD x.1,.ref x.2.1,.ref x.2.2⟩
def iL(a:wf)(ep:Nat)(xs:List NE):HO:=.ext λh=>xs.length<=1000/\(a == qa)=false/\(xs.map (·.1)).Nodup /\ ∃o es,h.get? a=some o/\o.ExactDict/\o.data=.dict es ep/\Paired sr xs es.toList
def zw(K:wa)(H:Hp)(xs:List NE):Prop:=∀x∈xs,Is K H (.ref x.2.1) (TZ x.1)
def mP(xs:List NE)(k:List Int):Option wf:=(xs.find? λx=>decide (x.1=k)).map (·.2.2)
theorem zAY{P:wK}{w:wQ}{H:Hp}{h:wJ}{a:wf}{ep:Nat}{xs:List NE}(z:xs.length<=1000)(hd:(a == qa)=false)(nd:(xs.map (·.1)).Nodup){o:Obj}{es:Array DictEntry}(ho:h.get? a=some o)(hx:o.ExactDict)(hda:o.data=.dict es ep)(r:Paired sr xs es.toList) :
  d7 P w H h a (iL a ep xs):=⟨⟨z,hd,nd,o,es,ho,hx,hda,r⟩,⟨o,ho⟩,λh1 h2 ⟨z,hd,nd,o,es,ho,q⟩ k=>⟨z,hd,nd,o,es,k _ ho,q⟩⟩
def jq(xs:List NE):List (List Int × wf × Value):=xs.map λx=>(x.1,x.2.1,.ref x.2.2)
theorem zDI{P:wK}{w:wQ}{xs:List NE}{es:List DictEntry}(r:Paired sr xs es):es=(jq xs).map (entryOfKey (d6 P w)):=by
 induction r with
 | nil=>rfl
 | @cons x e xs es hx r ih =>
  show e::es=_::(jq xs).map (entryOfKey (d6 P w))
  rw[<- ih,show e=_ from hx]
  rfl
theorem Tp{P:wK}{w:wQ} : ∀xs:List NE,Paired sr xs ((jq xs).map (entryOfKey (d6 P w)))
 | []=>.nil
 | x::xs=>.cons rfl (Tp xs)
theorem zCk(xs:List NE)(k:List Int):(atKey (jq xs) k).map (·.2)=(mP xs k).map Value.ref:=by
 induction xs with
 | nil=>rfl
 | cons x xs ih =>
  unfold atKey mP jq at *;rw[w5,XT,XT]
  by_cases e:x.1=k
  ·simp[e]
  ·simp only[e,decide_false]
   exact ih
section
variable{X:Cx}{pins:List (wf × Obj)}{σ : St}{H:Hp}{s:Shared}{a b q:wf}{ep:Nat}{xs:List NE}{k:List Int}{A:Around}{E:Value->Shared->Prop}
theorem Inv.nK(I:Inv X pins σ H s)(h:Is X.K H (.ref b) (TZ k)):(d6 X.prog X.w).is s.heap k b:=I.Zj h rfl
theorem Inv.KQ(I:Inv X pins σ H s)(e:H a=some (iL a ep xs)):xs.length<=1000/\(a == qa)=false/\(xs.map (·.1)).Nodup /\ ∃o es,s.heap.get? a=some o/\o.ExactDict/\o.data=.dict es ep/\Paired sr xs es.toList :=
 (show d7 X.prog X.w H s.heap a (iL a ep xs)from I.aO a _ e).1
end
section
variable{X:Cx}{o e f:Expr}{apos cpos pos:Pos}{td ty tx:TE}{tg:Expr}
end
section
variable{K:wa}{H H':Hp}{Q:VK}{D:cQ}{σ : St}{td ty tx te:TE}{g:TG}{tt:TT}{a b q:wf}{ep:Nat}{xs:List NE}{k:List Int}{src:List (Option Nat)}
end
section
variable{X:Cx}{N':List Str}{scope:Scope}{cl:List (Str × wf)}{src:List (Option Nat)}{elt tgt iter:Expr}{ifs:List Expr}{pos:Pos}{wi:TI}{g:TG}{tt:TT}{te:TE}
end
end L2
namespace TB
open PySem PySem.W PyProof.Rows
theorem Ry:entryFor table "dict.update.loop"=some Builtin.«dict.update.loop»:=entryFor_of_tree (by kernel_rfl)
theorem uW:plainId "dict.update.loop"=true:=by decide +kernel
theorem zua:typeLookup (.type "zip") "keys"=pure none:=am_miss_of_fast (by decide +kernel)
theorem zlJ:typeLookup (.type "zip") "__getattr__"=pure none:=by rw[typeLookup_type,builtinLookup_eq_fast];kernel_rfl
theorem zhr:entryFor table "zip.__getattribute__"=some Builtin.«object.__getattribute__» :=
 entryFor_alias (id':="object.__getattribute__") (by kernel_rfl) (by decide +kernel) (by decide +kernel) (by kernel_rfl)
theorem Zy(a:wf)(fs:Array Value)(sl:Array (Option Value))(name:Str)(u:Tok)(hmiss:typeLookup (.type "zip") name=pure none)(hname:(["__module__","__name__","__qualname__","__doc__","__annotations__"]:List Str).contains name=false)(hsz:name.length+100<=wX:=by size_fits) :
  Meets (Builtin.«object.__getattribute__» ⟨[.ref a,.str name u],[]⟩) (λA R s=>s.heap.get? a=some {cls:=.type "zip",dict:=none,data:=.fields fs,slots:=sl}/\raisesAttr (.ref a) name A R s) :=
 Meets.of_wp λprog w A R s hs=>by
  obtain⟨hp,g,d,tk,os⟩:=s;obtain⟨hx,hs⟩:=hs;have hT:(⟨hp,g,d,tk,os⟩:Shared).TypeIs (.ref a) "zip":=⟨_,hx,rfl⟩;unfold Builtin.«object.__getattribute__»
  repeat(any_goals(first | assumption | wp_step))
  simp only[hname,Wq,if_false]
  repeat(any_goals(first | assumption | wp_step))
  exact wpAny_raiseAttrError hs.1 hs.2 (attrMsg_fits (by decide +kernel) hsz)
section
variable{prog:wK}{w:wQ}{A:Around}{E:Value->Shared->Prop}{s:Shared}
theorem zAH{a:wf}{fs:Array Value}{sl:Array (Option Value)}{Q:Option Value->Shared->Prop}
  (hx:s.heap.get? a=some {cls:=.type "zip",dict:=none,data:=.fields fs,slots:=sl}) (hA:A.handled=none)
  (q:∀h' tk,(∀b ob,s.heap.get? b=some ob->h'.get? b=some ob)->Q none {s with heap:=h',toks:=tk}) :
  wq (model prog w) A (getAttr? (.ref a) "keys") Q E s:=by
 obtain⟨hp,g,d,tk,os⟩:=s;have hT:∀tk',(⟨hp,g,d,tk',os⟩:Shared).TypeIs (.ref a) "zip":=λ_=>⟨_,hx,rfl⟩
 have f1:=sub_AttributeError;have f3:=VR.lookup;have f4:=VR.bind (.ref a);have f5:=zlJ;unfold getAttr? getAttrBy? getAttrBy
 repeat(any_goals(first | assumption | exact hT _ | ((with_reducible show wq _ _ (call (Value.builtin "zip.__getattribute__") _ _) _ _ _);refine call_meets VR (hT _) zhr (PySem.F.args_zip_getattribute_2 _ _) (Zy a fs sl "keys" _ zua (by decide +kernel)) ⟨hx,hA,λh' tk' e hx'=>?_⟩) | wp_step))
 obtain⟨t',u',he⟩:=hx'.there
 show wq _ _ (getattributeRaised _ _ _ _ _ _ _) _ _ _
 unfold getattributeRaised
 repeat(any_goals(first | assumption | wp_step))
 exact q _ _ hx'.keeps
theorem zyY{p:wf}{x y:Value}(h:Wo s.heap p x y){Q:List Value->Shared->Prop}(q:Q [x,y] s):wq (model prog w) A (Q6 (.ref p)) Q E s:=by
 have hT:s.TypeIs (.ref p) "tuple":=⟨_,h,rfl⟩;unfold Q6;refine wg (wpAny_typeOf hT ?_);rw[if_pos (by decide)];refine wg (Wn h rfl ?_);exact wt q
abbrev mL(h:wJ)(z TI TO p:wf)(f:Bool):Prop :=
 h.get? z=some {cls:=.type "zip",dict:=none,data:=.fields #[Vm p,.bool f,.bool false,.ref TI,.ref TO],slots:=#[]}
end
section
variable{prog:wK}{w:wQ}{A:Around}{E:Value->Shared->Prop}{s:Shared}{z TI TO i1 i2 p:wf}{f:Bool}{f1 f2:List wf}{n1 n2 k:Nat}{P1 P2:Nat->Value->Prop}{S1 S2:Nat->wJ->Prop}{a b:Value}
variable{op:Obj}
theorem US{Q:Bool->Shared->Prop}(hz:mL s.heap z TI TO p f)(hp:s.heap.get? p=some op)
  (q:∀g,mL g z TI TO p true->vB z s.heap g->Q false {s with heap:=g}):wq (model prog w) A (vA (.ref z)) Q E s:=by
 unfold vA;refine wg (vi hz rfl (x:=Vm p) rfl ?_)
 show wq _ _ (loadIfAlive ((p:Int).toNat) >>= _) _ _ _
 rw[wS];refine wg (kdx_alive hp ?_);simp only[Option.isNone_some,Wq,if_false];refine wg (vi hz rfl (x:=.bool f) rfl ?_);cases f with
 | true =>
  rw[if_neg (show ¬ ((Value.bool true != Value.bool true)=true)from vk)];exact wt (q _ hz (Heap.SameBut.refl _ _))
 | false =>
  rw[if_pos (show(Value.bool false != Value.bool true)=true from rfl)];refine wg (WM hz (by simp) λg hg sb=>?_);exact wt (q g hg sb)
theorem zEo{Q:Value->Shared->Prop}(D1:Draws prog w A i1 f1 n1 P1 S1)(D2:Draws prog w A i2 f2 n2 P2 S2)(ap:L2.ZA z TI TO i1 i2 f1 f2)(hz:mL s.heap z TI TO p f)(hi:Wo s.heap TI (.ref i1) (.ref i2))(hp:s.heap.get? p=some op)
  (h1:S1 k s.heap) (h2:S2 k s.heap) (l1:k<n1) (l2:k<n2)
  (fin:∀x y h' tk,P1 k x->P2 k y->mL h' z TI TO p true->S1 (k+1) h'->S2 (k+1) h'->Wo h' s.heap.objs.size x y ->
   (∀c o,c≠z->c≠i1->c≠i2->s.heap.get? c=some o->h'.get? c=some o)->Q (.ref s.heap.objs.size) {s with heap:=h',toks:=tk}) :
  wq (model prog w) A (Builtin.«zip.__next__» ⟨[.ref z],[]⟩) (λr s'=>∃v,r=.done (.ret v)/\Q v s') E s:=by
 show wq _ _ (field (.ref z) 2 >>= _) _ _ _;refine wg (vi hz rfl (x:=.bool false) rfl ?_)
 show wq _ _ (field (.ref z) 3 >>= _) _ _ _;refine wg (vi hz rfl (x:=.ref TI) rfl ?_)
 refine wg (Wn hi rfl ?_);show wq _ _ (vA (.ref z) >>= _) _ _ _
 refine wg (US hz hp λg0 hz0 sb0=>?_);have sb0:vB z s.heap g0:=sb0;simp only[Wq,if_false];refine wg ?_;rw[<- qy];simp only[qj,Qb];have h1a:S1 k g0:=D1.frame _ _ _ h1 λc hc o e=>sb0.extBut c o (λq=>ap.b1 (q ▸ hc)) e
 have h2a:S2 k g0:=D2.frame _ _ _ h2 λc hc o e=>sb0.extBut c o (λq=>ap.b2 (q ▸ hc)) e
 refine wg (wg (WD ?_))
 show wq _ _ (vC (.ref i1) >>= _) _ _ _
 refine wg (D1.item k _ _ _ l1 h1a λx g1 t1 px h1b sb1=>wt ?_);have sb1:vB i1 g0 g1:=sb1;have h2b:S2 k g1:=D2.frame _ _ _ h2a λc hc o e=>sb1.extBut c o (λq=>ap.b5 (q ▸ hc)) e
 refine wt ?_;refine wg (wg (WD ?_))
 show wq _ _ (vC (.ref i2) >>= _) _ _ _
 refine wg (D2.item k _ _ _ l2 h2b λy g2 t2 py h2c sb2=>wt ?_);have sb2:vB i2 g1 g2:=sb2;have h1c:S1 (k+1) g2:=D1.frame _ _ _ h1b λc hc o e=>sb2.extBut c o (λq=>ap.b6 (q ▸ hc)) e
 refine wt (wt ?_);refine wg (wpAny_newTuple (hsz:=by show 2<=wX;rw[Wp];decide) ?_);have hsz:g2.objs.size=s.heap.objs.size:=by rw[sb2.1,sb1.1,sb0.1]
 have kept:∀c o,c≠z->c≠i1->c≠i2->s.heap.get? c=some o->g2.get? c=some o:=λc o c1 c3 c4 e=>sb2.extBut _ _ c4 (sb1.extBut _ _ c3 (sb0.extBut _ _ c1 e))
 have zz:mL g2 z TI TO p true:=sb2.extBut _ _ ap.a4.symm (sb1.extBut _ _ ap.a3.symm hz0);refine wt ⟨_,rfl,?_⟩
 show Q (.ref g2.objs.size) _
 have new:Wo (g2.push {cls:=.type "tuple",data:=.seq #[x,y]}) g2.objs.size x y:=wN _ rfl;rw[hsz]at new ⊢;exact fin x y _ _ px py (wm _ zz) (D1.frame _ _ _ h1c λc hc o e=>wm _ e) (D2.frame _ _ _ h2c λc hc o e=>wm _ e) new λc o c1 c3 c4 e=>wm _ (kept c o c1 c3 c4 e)
theorem zDE{Q:Fin->Shared->Prop}(D1:Draws prog w A i1 f1 n1 P1 S1)(ap:L2.ZA z TI TO i1 i2 f1 f2)(hz:mL s.heap z TI TO p f)(hi:Wo s.heap TI (.ref i1) (.ref i2))(hp:s.heap.get? p=some op)(h1:S1 n1 s.heap)
  (fin:∀h' e tk,(∀c o,c≠z->c≠i1->s.heap.get? c=some o->h'.get? c=some o)->(∃o,h'.get? e=some o/\o.cls=.type "StopIteration")->E (.ref e) {s with heap:=h',toks:=tk}) :
  wq (model prog w) A (Builtin.«zip.__next__» ⟨[.ref z],[]⟩) Q E s:=by
 show wq _ _ (field (.ref z) 2 >>= _) _ _ _;refine wg (vi hz rfl (x:=.bool false) rfl ?_)
 show wq _ _ (field (.ref z) 3 >>= _) _ _ _;refine wg (vi hz rfl (x:=.ref TI) rfl ?_)
 refine wg (Wn hi rfl ?_);show wq _ _ (vA (.ref z) >>= _) _ _ _
 refine wg (US hz hp λg0 hz0 sb0=>?_);have sb0:vB z s.heap g0:=sb0;simp only[Wq,if_false];refine wg ?_;rw[<- qy];simp only[qj,Qb];have h1a:S1 n1 g0:=D1.frame _ _ _ h1 λc hc o e=>sb0.extBut c o (λq=>ap.b1 (q ▸ hc)) e
 refine wg (wg (WD ?_))
 show wq _ _ (vC (.ref i1) >>= _) _ _ _
 exact wg (D1.done _ _ _ h1a λg1 e sb1 he=>fin g1 e _ (λc o c1 c3 q=>sb1 _ _ c3 (sb0.extBut _ _ c1 q)) he)
end
theorem p8{prog:wK}{w:wQ}{h h':wJ}{k:List Int}{a:wf}(x:(d6 prog w).is h k a)(e:∀o,h.get? a=some o->h'.get? a=some o):(d6 prog w).is h' k a:=by
 obtain⟨a',o,items,n,ea,ho,hc,hd,r⟩:=x;cases ea;exact⟨a,o,items,n,rfl,e o ho,hc,hd,r⟩
def kR(base:wf)(h h':wJ):Prop:=∀b o,b<base->h.get? b=some o->h'.get? b=some o
theorem kR.trans{base:wf}{h h' h'':wJ}(x:kR base h h')(y:kR base h' h''):kR base h h'':=λb o hb e=>y b o hb (x b o hb e)
structure ZB(base z TI TO i1 i2 d a b:wf):Prop where
 ap:L2.ZA z TI TO i1 i2 [i1,a] [i2,b]
 na:a≠i1
 nb:b≠i2
 bz:base<=z
 bO:base<=TO
 b1:base<=i1
 b2:base<=i2
 bd:base<=d
 dz:d≠z
 dI:d≠TI
 dO:d≠TO
 d1:d≠i1
 d2:d≠i2
 la:a<base
 lb:b<base
def mQ(z TI TO i1 i2 d a b:wf)(its jts:Array Value)(i:Nat)(h:wJ):Prop:=Wo h TI (.ref i1) (.ref i2)/\(h.IsTupleIter i1 a i/\h.IsTuple a its)/\(h.IsTupleIter i2 b i/\h.IsTuple b jts) /\
 ((∃x y,IsZip h z TI TO .none/\Wo h TO x y) \/ ∃p f op,mL h z TI TO p f/\h.get? p=some op/\p≠z/\p≠i1/\p≠i2/\p≠d)
section
variable{prog:wK}{w:wQ}{A:Around}{E:Value->Shared->Prop}{s:Shared}{base z TI TO i1 i2 d a b:wf}{its jts:Array Value}{i:Nat}
theorem kb(hh:A.handled=none)(it l:wf)(hne:l≠it)(items:Array Value):Draws prog w A it [it,l] items.size (λi v=>items[i]? = some v) (λi h=>h.IsTupleIter it l i/\h.IsTuple l items):=L2.p7 true hh it l hne items
theorem zEe(B:ZB base z TI TO i1 i2 d a b)(hh:A.in1.handled=none)(st:mQ z TI TO i1 i2 d a b its jts i s.heap)(hd:d<s.heap.objs.size){x y:Value}(hx:its[i]? = some x)(hy:jts[i]? = some y){Q:Option Value->Shared->Prop}
  (q:∀(h':wJ) tk,Wo h' s.heap.objs.size x y->mQ z TI TO i1 i2 d a b its jts (i+1) h'->(∀c o,c≠z->c≠TO->c≠i1->c≠i2->s.heap.get? c=some o->h'.get? c=some o)->Q (some (.ref s.heap.objs.size)) {s with heap:=h',toks:=tk}) :
  wq (model prog w) A (pyNext (.ref z)) Q E s:=by
 obtain⟨hi,s1,s2,hz⟩:=st
 have lt1:i<its.size:=by
  rcases wD i its.size with z | z
  ·exact z
  ·rw[Q7 z]at hx;cases hx
 have lt2:i<jts.size:=by
  rcases wD i jts.size with z | z
  ·exact z
  ·rw[Q7 z]at hy;cases hy
 have ap:=B.ap;unfold pyNext;rcases hz with⟨x0,y0,hz,ho⟩ | ⟨p,f,op,hz,hp,p1,p2,p3,p4⟩
 ·have hT:s.TypeIs (.ref z) "zip":=⟨_,hz,rfl⟩
  have ltz:=wA hz
  refine wg (Vg (wpAny_callSpecial?_slot (name:=vQ "__next__") hT Wh (Wa Wh hT VD
   (L2.KW (kb (A:=A.in1) hh i1 a B.na its) (kb (A:=A.in1) hh i2 b B.nb jts) ap hz hi ho s1 s2 lt1 lt2 λv1 v2 h1 tk e1 e2 hz1 ho1 st1 st2 hT1 hk=>wt ?_) (Vk _))))
  rw[hx]at e1;cases e1;rw[hy]at e2;cases e2;have l1:i1<s.heap.objs.size:=by obtain⟨o,e,_⟩:=s1.1;exact wA e
  have l2:i2<s.heap.objs.size:=by obtain⟨o,e,_⟩:=s2.1;exact wA e
  exact q h1 tk hT1 ⟨hk _ _ ap.a1 ap.a5 ap.a6 ap.a7 hi,st1,st2,.inr ⟨s.heap.objs.size,false,_,hz1,hT1,vc ltz,vc l1,vc l2,vc hd⟩⟩ hk
 ·have hT:s.TypeIs (.ref z) "zip":=⟨_,hz,rfl⟩
  refine wg (Vg (wpAny_callSpecial?_slot (name:=vQ "__next__") hT Wh (Wa Wh hT VD
   (zEo (kb (A:=A.in1) hh i1 a B.na its) (kb (A:=A.in1) hh i2 b B.nb jts) ap hz hi hp s1 s2 lt1 lt2 λv1 v2 h1 tk e1 e2 hz1 st1 st2 hT1 hk=>wt ?_) (Vk _))))
  rw[hx]at e1;cases e1;rw[hy]at e2;cases e2;exact q h1 tk hT1 ⟨hk _ _ ap.a1 ap.a6 ap.a7 hi,st1,st2,.inr ⟨p,true,op,hz1,hk _ _ p1 p2 p3 hp,p1,p2,p3,p4⟩⟩ λc o c1 _ c3 c4 e=>hk c o c1 c3 c4 e
theorem ZP(B:ZB base z TI TO i1 i2 d a b)(hh:A.in1.handled=none)(st:mQ z TI TO i1 i2 d a b its jts its.size s.heap){Q:Option Value->Shared->Prop}
  (q:∀(h':wJ) tk,(∀c o,c≠z->c≠TO->c≠i1->c≠i2->s.heap.get? c=some o->h'.get? c=some o)->Q none {s with heap:=h',toks:=tk}) :
  wq (model prog w) A (pyNext (.ref z)) Q E s:=by
 obtain⟨hi,s1,s2,hz⟩:=st;have ap:=B.ap;unfold pyNext;rcases hz with⟨x0,y0,hz,ho⟩ | ⟨p,f,op,hz,hp,p1,p2,p3,p4⟩
 ·have hT:s.TypeIs (.ref z) "zip":=⟨_,hz,rfl⟩
  refine wg (Vg (wpAny_callSpecial?_slot (name:=vQ "__next__") hT Wh (Wa Wh hT VD
   (L2.KP (k:=its.size) (kb (A:=A.in1) hh i1 a B.na its) (kb (A:=A.in1) hh i2 b B.nb jts) ap hz hi ho s1 s2 (.inl rfl) λh' y tk hk hx'=>?_) (Vk _))))
  obtain⟨o,ho',hcl⟩:=hx';exact wg (W3 (T:="StopIteration") (b:=true) ⟨o,ho',hcl⟩ isSubtype_stop (wt (q h' tk hk)))
 ·have hT:s.TypeIs (.ref z) "zip":=⟨_,hz,rfl⟩
  refine wg (Vg (wpAny_callSpecial?_slot (name:=vQ "__next__") hT Wh (Wa Wh hT VD
   (zDE (kb (A:=A.in1) hh i1 a B.na its) ap hz hi hp s1 λh' y tk hk hx'=>?_) (Vk _))))
  obtain⟨o,ho',hcl⟩:=hx';exact wg (W3 (T:="StopIteration") (b:=true) ⟨o,ho',hcl⟩ isSubtype_stop (wt (q h' tk λc o c1 _ c3 _ e=>hk c o c1 c3 e)))
end
theorem mQ.but{base z TI TO i1 i2 d a b:wf}{its jts:Array Value}{i:Nat}{h g:wJ}(st:mQ z TI TO i1 i2 d a b its jts i h)(B:ZB base z TI TO i1 i2 d a b)(sb:vB d h g):mQ z TI TO i1 i2 d a b its jts i g:=by
 obtain⟨hi,s1,s2,hz⟩:=st;have da:a≠d:=wO (wV B.la B.bd);have db:b≠d:=wO (wV B.lb B.bd);refine⟨sb.extBut _ _ B.dI.symm hi,⟨s1.1.at λo e=>sb.extBut _ _ B.d1.symm e,s1.2.at λo e=>sb.extBut _ _ da e⟩,⟨s2.1.at λo e=>sb.extBut _ _ B.d2.symm e,s2.2.at λo e=>sb.extBut _ _ db e⟩,?_⟩;rcases hz with⟨x0,y0,hz,ho⟩ | ⟨p,f,op,hz,hp,p1,p2,p3,p4⟩
 ·exact .inl ⟨x0,y0,sb.extBut _ _ B.dz.symm hz,sb.extBut _ _ B.dO.symm ho⟩
 ·exact .inr ⟨p,f,op,sb.extBut _ _ B.dz.symm hz,sb.extBut _ _ p4 hp,p1,p2,p3,p4⟩
section
variable{prog:wK}{w:wQ}{A:Around}{R:Result->Shared->Prop}{base z TI TO i1 i2 d a b:wf}{its jts:Array Value}{key:Nat->List Int}{ka:Nat->wf}{val:Nat->Value}
theorem zDG(B:ZB base z TI TO i1 i2 d a b)(hh:A.in1.in1.handled=none)(hu:A.in1.units+1<cLine)(hl:jts.size=its.size)(hn:its.size<=999)(hx:∀i,i<its.size->its[i]? = some (.ref (ka i)))(hy:∀i,i<its.size->jts[i]? = some (val i))
  (lk:∀i,i<its.size->ka i<base) (hk:∀i j,i<its.size->j<its.size->key i=key j->i=j) :
  ∀(c i:Nat)(s:Shared),its.size-i=c->i<=its.size->mQ z TI TO i1 i2 d a b its jts i s.heap->(∀j,j<its.size->(d6 prog w).is s.heap (key j) (ka j))->s.heap.DictOfH (d6 prog w) d ((wp i).map λj=>(key j,ka j,val j)) ->
   (∀(g:wJ)(tk:Nat),kR base s.heap g->g.DictOfH (d6 prog w) d ((wp its.size).map λj=>(key j,ka j,val j))->R (.ok (.ret .none)) {s with heap:=g,toks:=tk}) ->
   codeAny (model prog w) A (.builtin "dict.update.loop" ⟨[.ref d,.ref z,Vm i,.none],[]⟩) R s:=by
 have lift:∀{h h':wJ}{xs:List (List Int × wf × Value)},h.DictOfH (d6 prog w) d xs->(∀x∈xs,x.2.1<base)->kR base h h'->(∀o,h.get? d=some o->h'.get? d=some o)->h'.DictOfH (d6 prog w) d xs:=λx hb bl hd=>by
  obtain⟨o,es,ep,ho,hc,hda,he,his,hn⟩:=x;exact⟨o,es,ep,hd o ho,hc,hda,he,λx hx=>p8 (his x hx) λo e=>bl _ o (hb x hx) e,hn⟩
 have lo:∀{h h':wJ},(∀c o,c≠z->c≠TO->c≠i1->c≠i2->h.get? c=some o->h'.get? c=some o)->kR base h h':=λhk c o hc e=>hk c o (wO (wV hc B.bz)) (wO (wV hc B.bO)) (wO (wV hc B.b1)) (wO (wV hc B.b2)) e
 intro c
 induction c with
 | zero =>
  intro i s ec ei st ht hs r;obtain rfl:i=its.size:=by omega
  refine codeAny_builtin Ry ?_;rw[xq uW _];refine wg (m:=pyNext (.ref z)) (ZP B hh st λh' tk hk'=>?_);refine wg (wt ?_);refine wt (r h' tk (lo hk') (lift hs (λx hx=>?_) (lo hk') λo e=>hk' d o B.dz B.dO B.d1 B.d2 e));obtain⟨j,hj,rfl⟩:=wP.mp hx;exact lk j (wG.mp hj)
 | succ c ih =>
  intro i s ec ei st ht hs r;have lt:i<its.size:=by omega
  have hdl:d<s.heap.objs.size:=by obtain⟨o,_,_,ho,_⟩:=hs;exact wA ho
  refine codeAny_builtin Ry ?_;rw[xq uW _];refine wg (m:=pyNext (.ref z)) (zEe B hh st hdl (hx i lt) (hy i lt) λh' tk hp st' hk'=>?_);have bl:=lo hk'
  have hs':h'.DictOfH (d6 prog w) d ((wp i).map λj=>(key j,ka j,val j)):=lift hs (λx hx=>by
   obtain⟨j,hj,rfl⟩:=wP.mp hx;have:=wG.mp hj;exact lk j (by omega)) bl λo e=>hk' d o B.dz B.dO B.d1 B.d2 e
  have ht':∀j,j<its.size->(d6 prog w).is h' (key j) (ka j):=λj hj=>p8 (ht j hj) λo e=>bl _ o (lk j hj) e
  refine wg (WD (wg (wpAny_tryCatch (zyY hp ?_))));refine WD (wpAny_dictSet_heap (knd:=d6 prog w) (k:=key i) hu (ht' i lt) hs' (λh2 hd2 sb=>?_) (by rw[wl,vD,Wp];omega))
  have e2:storedH ((wp i).map λj=>(key j,ka j,val j)) (key i) (ka i) (val i)=(wp (i+1)).map λj=>(key j,ka j,val j):=by
   rw[storedH_new,qQ,vF]
   ·rfl
   ·cases e:atKey ((wp i).map λj=>(key j,ka j,val j)) (key i)with
    | none=>rfl
    | some p =>
     unfold atKey at e;rw[W5]at e;obtain⟨y,hy',_⟩:=e;have hm:=Qw hy';have hp':=XU hy';obtain⟨j,hj,rfl⟩:=wP.mp hm;have hj:=wG.mp hj;have:=hk j i (by omega) lt (of_decide_eq_true hp');omega
  rw[e2]at hd2;have sb:vB d h' h2:=sb;refine wt ⟨plainId_quiet uW _,?_⟩;have bl2:kR base h' h2:=λc o hc e=>sb.extBut c o (wO (wV hc B.bd)) e
  have:=ih (i+1) {s with heap:=h2,toks:=tk+(d6 prog w).draws (key i)} (by omega) lt (st'.but B sb) (λj hj=>p8 (ht' j hj) λo e=>bl2 _ o (lk j hj) e) hd2 λg tk' bl3 dd=>r g tk' (bl.trans (bl2.trans bl3)) dd
  exact this
end
section
variable{prog:wK}{w:wQ}{A:Around}{E:Value->Shared->Prop}{s:Shared}{base z TI TO i1 i2 a b:wf}{its jts:Array Value}{key:Nat->List Int}{ka:Nat->wf}{val:Nat->Value}{x0 y0:Value}
theorem YM(B:ZB base z TI TO i1 i2 s.heap.objs.size a b)(hh:A.handled=none)(hu:A.units+3<cLine)(hl:jts.size=its.size)(hn:its.size<=999)(hx:∀i,i<its.size->its[i]? = some (.ref (ka i)))(hy:∀i,i<its.size->jts[i]? = some (val i))
  (lk:∀i,i<its.size->ka i<base) (hk:∀i j,i<its.size->j<its.size->key i=key j->i=j) (hz:IsZip s.heap z TI TO .none) (hi:Wo s.heap TI (.ref i1) (.ref i2)) (ho:Wo s.heap TO x0 y0) (s1:s.heap.IsTupleIter i1 a 0) (t1:s.heap.IsTuple a its) (s2:s.heap.IsTupleIter i2 b 0) (t2:s.heap.IsTuple b jts)
  (hK:∀j,j<its.size->(d6 prog w).is s.heap (key j) (ka j)) {Q:Value->Shared->Prop}
  (q:∀(g:wJ)(tk:Nat),kR base s.heap g->g.DictOfH (d6 prog w) s.heap.objs.size ((wp its.size).map λj=>(key j,ka j,val j))->Q (.ref s.heap.objs.size) {s with heap:=g,toks:=tk}) :
  wq (model prog w) A (call (.type "dict") [.ref z]) Q E s:=by
 refine callType_codes (Q₁:=λobj s₁=>obj=.ref s.heap.objs.size/\s₁ = {s with heap:=s.heap.push {cls:=.type "dict",data:=.dict #[]}}) PySem.F.kt_called_dict (PySem.F.kt_typeCall_dict_1 _) PySem.F.entry_dict_init (kt_code_dict_new _ ⟨rfl,rfl⟩) ?_;rintro obj s₁ ⟨rfl,rfl⟩;have hnew:(s.heap.push {cls:=.type "dict",data:=.dict #[]}).DictOfH (d6 prog w) s.heap.objs.size []:=Heap.DictOfH.new s.heap;have hz':IsZip (s.heap.push {cls:=.type "dict",data:=.dict #[]}) z TI TO .none:=wm _ hz;refine⟨hnew.typeIs,PySem.F.args_dict_init_2 _ _,?_⟩;unfold Builtin.«dict.__init__»;refine wg ?_;unfold Builtin.Dict.selfAndRest;refine wg (wpAny_notOrdered_dict hnew.typeIs ?_)
 show wq _ _ (pure (s.heap.objs.size,[Value.ref z])) _ _ _
 refine wt ?_
 show wq _ _ (QJ "dict.__init__" s.heap.objs.size (.ref z) [] .none) _ _ _
 unfold QJ;refine wg (wpAny_typeOf (T:="zip") ⟨_,hz',rfl⟩ ?_);rw[if_pos (by decide)];refine wg (zAH hz' (by exact hh) λh1 tk1 kp1=>?_);simp only[Option.isNone_none,if_true];refine wg (wpAny_rule ?_);have kp0:∀b o,s.heap.get? b=some o->h1.get? b=some o:=λb o e=>kp1 b o (wm _ e)
 have dn:h1.DictOfH (d6 prog w) s.heap.objs.size []:=by
  obtain⟨o,es,ep,ho,hc,hda,he,his,hn⟩:=hnew;exact⟨o,es,ep,kp1 _ _ ho,hc,hda,he,(λx hx=>by cases hx),hn⟩
 refine wg (wpAny_pyIter_zip (kp0 _ _ hz) ?_);refine wt ⟨plainId_quiet uW _,?_⟩;refine zDG B (by exact hh) (show A.units+1+1+1<cLine by omega) hl hn hx hy lk hk (its.size-0) 0 _ rfl (Vs _) ⟨kp0 _ _ hi,⟨s1.at λo e=>kp0 _ o e,t1.at λo e=>kp0 _ o e⟩,⟨s2.at λo e=>kp0 _ o e,t2.at λo e=>kp0 _ o e⟩,.inl ⟨x0,y0,kp0 _ _ hz,kp0 _ _ ho⟩⟩ (λj hj=>p8 (hK j hj) λo e=>kp0 _ o e) dn λg tk bl dd=>?_
 exact⟨rfl,q g tk (λc o hc e=>bl c o hc (kp0 c o e)) dd⟩
end
end TB
namespace L2
open PySem PySem.Spec PyProof.Rows GM
open TB (d6 gA gy)
theorem zxR:vJ "dict"=some (.type "dict"):=by decide +kernel
def gW(ks:List (List Int))(us ws:List wf):List NE:=(wp us.length).map λj=>(ks.getD j [],us.getD j 0,ws.getD j 0)
def Tr(K:wa)(vs:List V)(H1:Hp)(Q:VK):Prop:=∃(a b:wf)(ks:List (List Int))(us ws:List wf),vs=[.ref a,.ref b]/\bA K H1 a (us.map V.ref)/\bA K H1 b (ws.map V.ref)/\us.length=ws.length/\us.length<=999/\ai K H1 (us.map V.ref) (ks.map TZ)/\ks.Nodup /\
 ∀D ep,H1 D=none->Q (.ref D) (upd H1 D (iL D ep (gW ks us ws)))
def M1(K:wa)(ta:TA):TE:=λσ H Q=>ta σ H λvs H1=>Tr K vs H1 Q
theorem zDS{n d a b:Nat}(la:a<n)(lb:b<n)(hd:n+5<=d):TB.ZB n (n+4) (n+2) (n+3) n (n+1) d a b where
 ap:=Nd la lb
 na:=wO la
 nb:=wO (qG lb)
 bz:=W2 _ 4
 bO:=W2 _ 3
 b1:=wn _
 b2:=W2 _ 1
 bd:=by show n<=d;omega
 dz:=vc (by omega)
 dI:=vc (by omega)
 dO:=vc (by omega)
 d1:=vc (by omega)
 d2:=vc (by omega)
 la:=la
 lb:=lb
theorem Zw{ks:List (List Int)}{us ws:List wf}(h:ks.length=us.length):(gW ks us ws).map (·.1)=ks:=by
 unfold gW;rw[qu];refine List.ext_getElem? λj=>?_
 rw[wo];rcases wD j us.length with z | z
 ·rw[vY z,wc (by omega:j<ks.length)]
  show some (ks.getD j [])=_
  rw[wb,wc (by omega:j<ks.length)]
  rfl
 ·rw[wE (by simpa using z),wE (by omega)]
  rfl
section
variable{X:Cx}{o i:Expr}{pos:Pos}{td ty:TE}
theorem CJ:∀{ws:List V}{us:List Value},aW ws us->∀{i:Nat}{q:wf},ws[i]? = some (.ref q)->us[i]? = some (.ref q)
 | _,_,.nil,i,q,h=>by simp at h
 | _,_,.cons r1 r2,0,q,h=>by
  simp only[List.getElem?_cons_zero,Qq]at h ⊢;subst h;exact r1
 | _,_,.cons r1 r2,i+1,q,h=>by
  simp only[List.getElem?_cons_succ]at h ⊢;exact CJ r2 h
theorem zzd{l m:Expr}{ta:TA}{p p2 pos2:Pos}(hc:X.calm=true)(hu:X.A.units+4<cLine)(hg:Gl X "dict")(hm:X.mg "dict"=none)(hg2:Gl X "zip")(hm2:X.mg "zip"=none)(ha:PA X [l,m] ta)(hs:wR [l,m] X.env=[(false,eval l X.env),(false,eval m X.env)]:=by rfl)(hs2:wR [m] X.env=[(false,eval m X.env)]:=by rfl)
   (hs3:wR [Expr.Call (.Name "zip" p2) [l,m] [] pos2] X.env=[(false,eval (.Call (.Name "zip" p2) [l,m] [] pos2) X.env)]:=by rfl):PE X (.Call (.Name "dict" p) [.Call (.Name "zip" p2) [l,m] [] pos2] [] pos) (M1 X.K ta):=by
 intro pins s σ H Q I h;refine Call_ (iH I hg hm zxR ?_);refine vg ?_ hs3 rfl;rw[hs3]
 show wq _ _ (spliced ((false,eval _ X.env)::backTo pos [])) _ _ s
 refine Qd ?_;refine Call_ (iH I hg2 hm2 CA (vg (aQ (ha pos2 pins s σ H _ I h) λus s1 ⟨vs,H1,I1,r1,q1⟩=>?_) (by rw[hs,hs2]) (by rw[hs2];rfl)));obtain⟨a,b,ks,us',ws,rfl,hq1,hq2,hl,hn,hk,nd,q⟩:=q1;obtain⟨u,v,rfl,ru,rv⟩:=nk r1;cases ru;cases rv;obtain⟨its,ri,p1⟩:=I1.jO (t:=true) hq1;obtain⟨jts,rj,p2⟩:=I1.jO (t:=true) hq2;have p1:s1.heap.IsTuple a its.toArray:=p1;have p2:s1.heap.IsTuple b jts.toArray:=p2;have la:a<s1.heap.objs.size:=by obtain⟨o,e,_⟩:=p1;exact wA e
 have lb:b<s1.heap.objs.size:=by obtain⟨o,e,_⟩:=p2;exact wA e
 have li:=ri.length;have lj:=rj.length;have lk:=hk.length;simp only[wl]at li lj lk;refine Pl p1 p2 λh' hz hi ho t1 t2 kp=>?_
 refine Qo ?_;have hd:s1.heap.objs.size+5<=h'.objs.size:=wA hz
 have hx:∀j,j<its.toArray.size->its.toArray[j]? = some (Value.ref (us'.getD j 0)):=λj hj=>by
   have hj:j<us'.length:=by simpa [li] using hj
   have:=CJ ri (show(us'.map V.ref)[j]? = some (V.ref (us'.getD j 0)) by rw[wo,wb,wc hj];rfl)
   simpa using this
 have hy:∀j,j<its.toArray.size->jts.toArray[j]? = some (Value.ref (ws.getD j 0)):=λj hj=>by
   have hj : j < ws.length := by have : j < us'.length := by simpa [li] using hj
                                 omega
   have:=CJ rj (show(ws.map V.ref)[j]? = some (V.ref (ws.getD j 0)) by rw[wo,wb,wc hj];rfl)
   simpa using this
 have hK:∀j,j<its.toArray.size->(d6 X.prog X.w).is s1.heap (ks.getD j []) (us'.getD j 0):=λj hj=>by
   have hj:j<us'.length:=by simpa [li] using hj
   have:=(gC hk (i:=j) (x:=.ref (us'.getD j 0)) (by rw[wo,wb,wc hj];rfl)).2
   have ek:(ks.map TZ).getD j .none=TZ (ks.getD j []):=by
     rw[wb,wo,wb,wc (by omega:j<ks.length)]
     rfl
   rw[ek]at this;exact I1.nK this
 refine TB.YM (zDS la lb hd) (I1.ok.hd hc) (by omega) (by simp only[wF];omega) (by simp only[wF];omega) hx hy (λj hj=>?_) (λi j hi' hj e=>?_) hz hi ho t1 (p1.at λo e=>kp _ o e) t2 (p2.at λo e=>kp _ o e) (λj hj=>TB.p8 (hK j hj) λo e=>kp _ o e) λg tk bl dd=>?_
 . obtain⟨a',o,items,n,ea,ho',_⟩:=hK j hj
   cases ea;exact wA ho'
 . have hi' : i < ks.length := by have : i < its.length := by simpa using hi'
                                  omega
   have hj : j < ks.length := by have : j < its.length := by simpa using hj
                                 omega
   rw[wb,wb,wc hi',wc hj]at e;have pw:=Wj.mp nd;rcases qF i j with z | z | z
   . exact absurd e (pw i j hi' hj z)
   . exact z
   . exact absurd e.symm (pw j i hj hi' z)
 . obtain⟨o,es,ep,ho',hxd,hda,he,his,hnd⟩:=dd
   refine⟨.ref h'.objs.size,_,I1.laid (t':=tk) (a:=h'.objs.size) (o:=iL h'.objs.size ep (gW ks us' ws)) (λc o e=>bl c o (wA e) (kp c o e)) (by omega) (zAY ?_ (beq_eq_false_iff_ne.mpr (Wr (wO ?_))) ?_ ho' hxd hda ?_),rfl,q _ ep (I1.aO.fresh (by omega))⟩
   . unfold gW;rw[wl,vD];omega
   . exact wV I1.big (by omega)
   . rw[Zw (by omega)];exact nd
   . rw[he]
     have:((wp its.toArray.size).map λj=>(ks.getD j [],us'.getD j 0,Value.ref (ws.getD j 0)))=jq (gW ks us' ws):=by
       unfold jq gW;rw[qu,wF,<- li]
       rfl
     rw[this];exact Tp _
def BQ(K:wa)(td ty:TE):TE:=λσ H Q=>td σ H λx H1=>ty σ H1 λy H2=>∃a b ep xs k l,x=.ref a/\y=.ref b/\H2 a=some (iL a ep xs)/\zw K H2 xs/\Is K H2 (.ref b) (TZ k)/\mP xs k=some l/\Q (.ref l) H2
theorem zCo{pins:List (wf × Obj)}{σ : St}{H:Hp}{s:Shared}{a b l:wf}{ep:Nat}{xs:List NE}{k:List Int}{A:Around}{E:Value->Shared->Prop}{Q:Value->Shared->Prop}(hu:A.units+4<cLine)(I:Inv X pins σ H s)(e:H a=some (iL a ep xs))(hk:zw X.K H xs)(hb:Is X.K H (.ref b) (TZ k))(hl:mP xs k=some l)(h:∀s',Inv X pins σ H s'->Q (.ref l) s') :
  wq (model X.prog X.w) A (getItem (.ref a) (.ref b)) Q E s:=by
 obtain⟨z,hd,nd,o,es,ho,hx,hda,r⟩:=I.KQ e;have zk:(jq xs).map (·.1)=xs.map (·.1):=by unfold jq;rw[qu];rfl
 have dd:s.heap.DictOfH (d6 X.prog X.w) a (jq xs):=⟨o,es,ep,ho,hx,hda,zDI r,λx hx=>by
  obtain⟨y,hy,rfl⟩:=wP.mp hx;exact I.nK (hk y hy),by rw[zk];exact nd⟩
 have lk:=zCk xs k;rw[hl]at lk;cases e2:atKey (jq xs) k with
 | none=>rw[e2]at lk;cases lk
 | some p =>
  rw[e2]at lk;have:p.2=Value.ref l:=wW lk;obtain⟨p1,p2⟩:=p;have:p2=Value.ref l:=this;subst this;exact wpAny_getItem_heap (knd:=d6 X.prog X.w) (show A.units+1+1<cLine by omega) (I.nK hb) dd e2 (h _ (I.tok _))
theorem zyg(hu:X.A.units+4<cLine)(ho:PE X o td)(hi:PE X i ty)(hs:PQ i):PE X (.Subscript o i pos) (BQ X.K td ty):=by
 intro pins s σ H Q I h;refine zAB PySem.F.slot_dict_getitem.lookup hs (aQ (ho pins s σ H _ I h) λu s1 ⟨x,H1,I1,rx,q1⟩=>aQ (hi pins s1 σ H1 _ I1 q1) λiv s2 ⟨y,H2,I2,ry,a,b,ep,xs,k,l,ex,ey,e,hk,hb,hl,q2⟩=>?_);subst ex ey;obtain rfl:u=Value.ref a:=rx;obtain rfl:iv=Value.ref b:=ry;obtain⟨_,_,_,od,es,g1,g2,_,_⟩:=I2.KQ e;exact⟨⟨od,g1,g2.1⟩,zCo hu I2 e hk hb hl λs3 I3=>⟨.ref l,H2,I3,rfl,q2⟩⟩
end
section
variable{K:wa}{σ : St}{H:Hp}{Q:VK}{td ty:TE}{ta:TA}
theorem ZE(h:ta σ H λvs H1=>Tr K vs H1 Q):M1 K ta σ H Q:=h
theorem Z0(h:td σ H λx H1=>ty σ H1 λy H2=>∃a b ep xs k l,x=.ref a/\y=.ref b/\H2 a=some (iL a ep xs)/\zw K H2 xs/\Is K H2 (.ref b) (TZ k)/\mP xs k=some l/\Q (.ref l) H2):BQ K td ty σ H Q:=h
end
theorem zB{c:Nat} : ∀{a b x y:List Nat},c ∉ a->c ∉ b->a++c::x=b++c::y->a=b/\x=y
 | [],[],x,y,_,_,h=>⟨rfl,by simpa using h⟩
 | [],b::bs,x,y,_,hb,h=>by
  have:c=b:=by simpa using (Qm h).1
  exact absurd (by rw[this];simp) hb
 | a::as,[],x,y,ha,_,h=>by
  have:a=c:=by simpa using (Qm h).1
  exact absurd (by rw[this];simp) ha
 | a::as,b::bs,x,y,ha,hb,h=>by
  have h1:=(Qm h).1;have h2:as++c::x=bs++c::y:=(Qm h).2;have:=zB (λz=>ha (wu _ z)) (λz=>hb (wu _ z)) h2;exact⟨by rw[h1,this.1],this.2⟩
set_option maxHeartbeats 2000000
section
variable{K:wa}{g:TG}{tt:TT}{te ta:TE}{src:List (Option Nat)}{σ : St}{H:Hp}{Q:VK}
end
def TJ:=St->Hp->Str->(Str->Hp->Prop)->Prop
section
variable{X:Cx}{es:List Expr}{e v1 v2:Expr}{te:TE}{tj:TJ}{pos pp:Pos}{x:Str}
end
section
variable{σ : St}{H:Hp}{Q:VK}{QS:Str->Hp->Prop}{te:TE}{tj:TJ}{acc x y:Str}
end
section
variable{K:wa}{H H':Hp}{Q:VK}{a:wf}{x y:Str}{ts:List Str}{n:Nat}{i:Int}
end
end L2
namespace L2
open PySem PySem.Spec PyProof.Rows GM
open PySem.StrLaws PySem.Builtin PySem.Builtin.Str
section
variable{K:wa}{H H':Hp}{Q:VK}{a:wf}{x y:Str}{xs:List V}{z:Int}{lo hi:Option Int}
end
section
variable{X:Cx}{e a b:Expr}{es:List Expr}{st:wU}{bR:List wU}{te ta tb:TE}{t:TA}{ts tr:TS}{pos:Pos}
end
section
variable{X:Cx}{o:Expr}{to:TE}{apos cpos p1 p2 p3:Pos}{k1 k2 k3:Nat}{y z:Str}
end
section
variable{X:Cx}{e:Expr}{te:TE}{k:Nat}{p1 p2 p3 pos:Pos}
end
section
variable{K:wa}{H H' H1:Hp}{σ : St}{v w:V}{x y z:Str}{xs ys:List Str}{rs us:List (List Str)}{i:Nat}{m n:Int}{ta tb te:TE}{t:TA}{tl th:TO}{lo hi:Option Int}
end
structure jS(X:Cx)(st:List wU)(t:TS):Prop where
 h:fQ X st t
structure WS(X:Cx)(st:wU)(t:TS):Prop where
 h:PS X st t
structure WE(X:Cx)(e:Expr)(t:TE):Prop where
 h:PE X e t
structure WA(X:Cx)(es:List Expr)(t:TA):Prop where
 h:PA X es t
section
variable{X:Cx}{e a b:Expr}{es:List Expr}{st:wU}{bR:List wU}{te ta tb:TE}{t:TA}{ts tr:TS}{pos:Pos}
theorem dR(h1:WS X st ts)(h2:jS X bR tr):jS X (st::bR) (u3 ts tr):=⟨av h1.h h2.h⟩
theorem gU(h1:WS X st ts):jS X [st] ts:=⟨ay h1.h⟩
theorem rf:jS X [] DO:=⟨ck⟩
theorem gg(i:Nat){x:Str}{pp:Pos}(hN:X.N.Nodup)(he:WE X e te)(hi:X.N[i]? = some x:=by exact rfl)(hx:Loc X.env.scope x:=by first | exact Or.inl rfl | exact Or.inr rfl)(hs:swapsWith e (some (.Name x pp)) pos.line X.env=pure false:=by rfl)(hf:X.fn x=true\/X.env.scope.names.lookup x=some .local:=by first | exact .inl rfl | exact .inr rfl | assumption) :
  WS X (.Assign [.Name x pp] e pos) (mr te (jk i)):=⟨N9 hN hi hx he.h hs hf⟩
theorem nq(he:WE X e te):WS X (.Return (some e) pos) (Ey te):=⟨aC he.h⟩
theorem oH{c:Expr}{s1 s2:List wU}{tc:TT}(hc:PT X c tc)(h1:jS X s1 ts)(h2:jS X s2 tr):WS X (.If c s1 s2 pos) (ET tc ts tr):=⟨cg hc h1.h h2.h⟩
theorem yn{tg iter:Expr}{body:List wU}{wi:TI}{g:TG}(hp:PassesOwn (model X.prog X.w) X.A X.env X.xe)(hc:X.calm=true)(hi:PI X tg iter wi)(hg:PG X tg g)(hb:jS X body ts)
  (hs:∀x,foldedSetIterable iter X.env x=pure x:=by intro _;rfl):WS X (.For tg iter body [] pos) (lM wi g ts):=⟨gD hp hc hi hg hb.h hs⟩
theorem ou(h:PS X st ts):WS X st ts:=⟨h⟩
theorem aF(h:PE X e te):WE X e te:=⟨h⟩
theorem iM(h:WA X es t):WE X (.List es pos) (EH X.K t):=⟨d4 h.h⟩
theorem dA{x1}(h:WA X es t):WE X (.Tuple es x1 pos) (jw X.K t):=⟨bC h.h⟩
theorem lR{op:Operator}{r:R2}(ho:aM X (Wd op) r)(ha:WE X a ta)(hb:WE X b tb):WE X (.BinOp a op b pos) (kK r ta tb):=⟨aB ho ha.h hb.h⟩
theorem zEv{r:R2}(hr:gH X r)(ha:WE X a ta)(hb:WE X b tb)(hs:Tw b):WE X (.Subscript a b pos) (kK r ta tb):=⟨c9 hr ha.h hb.h hs⟩
theorem cF:WA X [] rV:=⟨af⟩
theorem aD(ha:WE X e te)(hr:WA X es t)(hs:wR (e::es) X.env=(false,eval e X.env)::wR es X.env:=by rfl):WA X (e::es) (AO te t):=⟨ae ha.h hr.h hs⟩
end
end L2
namespace G
open PySem PySem.Spec PyProof.Rows L2 GM
local macro_rules | `(tactic| wtm_at "sc")=>`(tactic| exact ⟨rfl,rfl,rfl,by decide +kernel,rfl,by decide +kernel,by decide +kernel⟩)
def top(i:Nat):wU:=VT.main.body.getD i (.Pass ⟨0,0,0,0⟩)
abbrev Cg:wU:=top 10
abbrev Gs:List Str:=["thing"]
abbrev x_:=Gs
theorem zsf:aS Gs x_ (aK Cg):=by wtm_at "sc"
abbrev C4:wU:=top 11
abbrev CC:List Str:=["least","most","thing"]
abbrev yZ:=CC
theorem zlA:aS CC yZ (aK C4):=by wtm_at "sc"
abbrev C2:wU:=top 12
abbrev Tj:List Str:=["one","other","rest"]
abbrev u_:List Str:=["one","other"]
theorem u6:aS Tj u_ (aK C2):=by wtm_at "sc"
abbrev B4:wU:=top 13
abbrev Dt:List Str:=["thing"]
abbrev yN:=Dt
theorem zrI:aS Dt yN (aK B4):=by wtm_at "sc"
abbrev CT:wU:=top 14
abbrev U3:List Str:=["one","other","shared","top","divisor"]
abbrev yK:List Str:=["one","other"]
theorem uY:aS U3 yK (aK CT):=by wtm_at "sc"
abbrev FI:wU:=top 15
abbrev Eo:List Str:=["one","other"]
abbrev yS:=Eo
theorem zzt:aS Eo yS (aK FI):=by wtm_at "sc"
abbrev Et:wU:=top 16
abbrev NV:List Str:=["one","other","first","second"]
abbrev u7:List Str:=["one","other"]
theorem BN:aS NV u7 (aK Et):=by wtm_at "sc"
abbrev C1:wU:=top 17
abbrev S0:List Str:=["one","other","turned"]
abbrev yf:List Str:=["one","other"]
theorem O3:aS S0 yf (aK C1):=by wtm_at "sc"
abbrev DB:wU:=top 18
abbrev DK:List Str:=["one","other"]
abbrev zg:=DK
theorem zAf:aS DK zg (aK DB):=by wtm_at "sc"
abbrev CV:wU:=top 23
abbrev CM:List Str:=["a"]
abbrev z6:=CM
theorem zqs:aS CM z6 (aK CV):=by wtm_at "sc"
abbrev BA:wU:=top 24
abbrev Fc:List Str:=["b"]
abbrev yR:=Fc
theorem zsQ:aS Fc yR (aK BA):=by wtm_at "sc"
abbrev FV:wU:=top 25
abbrev FG:List Str:=["a","b"]
abbrev zT:=FG
theorem zqV:aS FG zT (aK FV):=by wtm_at "sc"
abbrev Dg:wU:=top 26
abbrev Gf:List Str:=["thing"]
abbrev uD:=Gf
theorem zt4:aS Gf uD (aK Dg):=by wtm_at "sc"
abbrev CQ:wU:=top 27
abbrev Gx:List Str:=["rule"]
abbrev zC:=Gx
theorem ZD:aS Gx zC (aK CQ):=by wtm_at "sc"
abbrev BH:wU:=top 28
abbrev Sd:List Str:=["rule","many","factor","shift","done"]
abbrev zI:List Str:=["rule","many"]
theorem pW:aS Sd zI (aK BH):=by wtm_at "sc"
abbrev Fy:wU:=top 29
abbrev CI:List Str:=["push","x"]
abbrev Ak:=CI
theorem zq3:aS CI Ak (aK Fy):=by wtm_at "sc"
abbrev Ez:wU:=top 33
abbrev F0:List Str:=["thing"]
abbrev zc:=F0
theorem zte:aS F0 zc (aK Ez):=by wtm_at "sc"
abbrev Gd:wU:=top 34
abbrev Er:List Str:=["thing"]
abbrev Af:=Er
theorem zpk:aS Er Af (aK Gd):=by wtm_at "sc"
abbrev FO:wU:=top 35
abbrev BZ:List Str:=["rule","phases"]
abbrev zP:=BZ
theorem Zm:aS BZ zP (aK FO):=by wtm_at "sc"
abbrev Ct:wU:=top 36
abbrev MP:List Str:=["phases","told","phase"]
abbrev yG:List Str:=["phases"]
theorem Ai:aS MP yG (aK Ct):=by wtm_at "sc"
abbrev BU:wU:=top 37
abbrev DY:List Str:=["phases","phase"]
abbrev yF:=DY
theorem zsc:aS DY yF (aK BU):=by wtm_at "sc"
abbrev Fd:wU:=top 38
abbrev Lo:List Str:=["swarm","told","left","phase"]
abbrev Al:List Str:=["swarm"]
theorem rE:aS Lo Al (aK Fd):=by wtm_at "sc"
abbrev FT:wU:=top 39
abbrev Ge:List Str:=["worms","phases"]
abbrev yT:=Ge
theorem zo6:aS Ge yT (aK FT):=by wtm_at "sc"
abbrev EX:wU:=top 40
abbrev Oj:List Str:=["swarm","wait","phases","left","waves","wave","push","worm","anew"]
abbrev yB:List Str:=["swarm"]
theorem jJ:aS Oj yB (aK EX):=by wtm_at "sc"
abbrev FE:wU:=top 42
abbrev LK:List Str:=["swarm","many","rows","hour","stand","done","told"]
abbrev zZ:List Str:=["swarm","many"]
theorem lQ:aS LK zZ (aK FE):=by wtm_at "sc"
abbrev DG:wU:=top 43
abbrev Oa:List Str:=["swarm","many","rows","last"]
abbrev yo:List Str:=["swarm","many"]
theorem C6:aS Oa yo (aK DG):=by wtm_at "sc"
abbrev Cd:wU:=top 45
abbrev Fp:List Str:=["swarm"]
abbrev yh:=Fp
theorem zuS:aS Fp yh (aK Cd):=by wtm_at "sc"
abbrev BI:wU:=top 46
abbrev Mx:List Str:=["swarm","rows","sizes","places"]
abbrev zX:List Str:=["swarm"]
theorem zq:aS Mx zX (aK BI):=by wtm_at "sc"
abbrev CW:wU:=top 47
abbrev Uz:List Str:=["rule","size","phases","turn","wait","push","told"]
abbrev uQ:List Str:=["rule","size","phases","turn"]
theorem zy:aS Uz uQ (aK CW):=by wtm_at "sc"
abbrev Fm:wU:=top 48
abbrev Ri:List Str:=["rule","sizes","places","told","turn","size"]
abbrev zt:List Str:=["rule","sizes","places"]
theorem yW:aS Ri zt (aK Fm):=by wtm_at "sc"
abbrev DT:wU:=top 49
abbrev Cq:List Str:=["rule","sizes","places"]
abbrev z9:=Cq
theorem zm1:aS Cq z9 (aK DT):=by wtm_at "sc"
abbrev Fw:wU:=top 50
abbrev NT:List Str:=["rule","sizes","places","told","rows","turn"]
abbrev zb:List Str:=["rule","sizes","places"]
theorem rX:aS NT zb (aK Fw):=by wtm_at "sc"
abbrev Fs:wU:=top 51
abbrev U2:List Str:=["rule","sizes","places","rows","count"]
abbrev zd:List Str:=["rule","sizes","places"]
theorem Dl:aS U2 zd (aK Fs):=by wtm_at "sc"
abbrev Gw:wU:=top 52
abbrev Rk:List Str:=["rule","sizes","places","steps"]
abbrev zf:List Str:=["rule","sizes","places"]
theorem Ud:aS Rk zf (aK Gw):=by wtm_at "sc"
abbrev Ec:wU:=top 53
abbrev OW:List Str:=["rule","sizes","factor","noughts"]
abbrev Aa:List Str:=["rule","sizes"]
theorem Gh:aS OW Aa (aK Ec):=by wtm_at "sc"
abbrev C9:wU:=top 56
abbrev MI:List Str:=["rule","sizes","both","gap"]
abbrev yP:List Str:=["rule","sizes"]
theorem Ep:aS MI yP (aK C9):=by wtm_at "sc"
abbrev B3:wU:=top 57
abbrev CB:List Str:=["both","places","of_place","of_shift"]
abbrev u9:=CB
theorem ztU:aS CB u9 (aK B3):=by wtm_at "sc"
abbrev Gk:wU:=top 58
abbrev M0:List Str:=["both","places","many","push"]
abbrev yI:List Str:=["both","places","many"]
theorem Nh:aS M0 yI (aK Gk):=by wtm_at "sc"
abbrev BL:wU:=top 59
abbrev ER:List Str:=["rule","sizes","places","many"]
abbrev Au:=ER
theorem zlT:aS ER Au (aK BL):=by wtm_at "sc"
abbrev Dk:wU:=top 60
abbrev N7:List Str:=["both","places","many","of_place","of_shift","done"]
abbrev yA:List Str:=["both","places","many"]
theorem oR:aS N7 yA (aK Dk):=by wtm_at "sc"
abbrev CH:wU:=top 61
abbrev N5:List Str:=["rule","sizes","places","many","count","mean"]
abbrev AR:List Str:=["rule","sizes","places","many"]
theorem BY:aS N5 AR (aK CH):=by wtm_at "sc"
abbrev BM:wU:=top 62
abbrev BP:List Str:=["rule","sizes"]
abbrev yC:=BP
theorem zmY:aS BP yC (aK BM):=by wtm_at "sc"
abbrev Dd:wU:=top 63
abbrev Ls:List Str:=["rule","sizes","places","way"]
abbrev AM:List Str:=["rule","sizes","places"]
theorem NS:aS Ls AM (aK Dd):=by wtm_at "sc"
abbrev DU:wU:=top 64
abbrev Ur:List Str:=["rule","sizes","places","both","ahead","count"]
abbrev uI:List Str:=["rule","sizes","places"]
theorem tG:aS Ur uI (aK DU):=by wtm_at "sc"
abbrev DS:wU:=top 68
abbrev FN:List Str:=["row","worms"]
abbrev AN:=FN
theorem zrC:aS FN AN (aK DS):=by wtm_at "sc"
abbrev Bs:wU:=top 69
abbrev Cy:List Str:=["thing","worms"]
abbrev zh:=Cy
theorem zwG:aS Cy zh (aK Bs):=by wtm_at "sc"
abbrev DQ:wU:=top 70
abbrev DX:List Str:=["thing","worms"]
abbrev yx:=DX
theorem zol:aS DX yx (aK DQ):=by wtm_at "sc"
abbrev Ek:wU:=top 71
abbrev C0:List Str:=["thing","worms"]
abbrev yO:=C0
theorem Zl:aS C0 yO (aK Ek):=by wtm_at "sc"
abbrev B6:wU:=top 72
abbrev Ox:List Str:=["swarm","rounds","both","last"]
abbrev uL:List Str:=["swarm","rounds"]
theorem EO:aS Ox uL (aK B6):=by wtm_at "sc"
abbrev Gg:wU:=top 73
abbrev Ul:List Str:=["swarm","rounds","both","later","now","phases"]
abbrev Am:List Str:=["swarm","rounds"]
theorem sN:aS Ul Am (aK Gg):=by wtm_at "sc"
abbrev Ci:wU:=top 74
abbrev UO:List Str:=["swarm","rounds","glows","first","then"]
abbrev yJ:List Str:=["swarm","rounds","glows"]
theorem Cj:aS UO yJ (aK Ci):=by wtm_at "sc"
abbrev CO:wU:=top 75
abbrev SH:List Str:=["rule","row","following","swarm","told"]
abbrev y7:List Str:=["rule","row","following"]
theorem CL:aS SH y7 (aK CO):=by wtm_at "sc"
abbrev EW:wU:=top 76
abbrev Md:List Str:=["swarm","both"]
abbrev uT:List Str:=["swarm"]
theorem Tn:aS Md uT (aK EW):=by wtm_at "sc"
abbrev FP:wU:=top 77
abbrev Tt:List Str:=["swarm","paper","row","following"]
abbrev u5:List Str:=["swarm","paper"]
theorem EG:aS Tt u5 (aK FP):=by wtm_at "sc"
abbrev E_:wU:=top 78
abbrev Ux:List Str:=["swarm","count","told"]
abbrev zA:List Str:=["swarm"]
theorem rn:aS Ux zA (aK E_):=by wtm_at "sc"
abbrev B1:wU:=top 79
abbrev Yz:List Str:=["hour","swarm","both","rounds","glows"]
abbrev zi:List Str:=["hour","swarm"]
theorem uz:aS Yz zi (aK B1):=by wtm_at "sc"
abbrev Dc:wU:=top 80
abbrev Yk:List Str:=["swarm","rows","word","row","told","hour"]
abbrev yw:List Str:=["swarm"]
theorem mW:aS Yk yw (aK Dc):=by wtm_at "sc"
abbrev FA:wU:=top 82
abbrev BJ:List Str:=["_law_script","_law_k"]
abbrev uO:=BJ
theorem ztD:aS BJ uO (aK FA):=by wtm_at "sc"
abbrev Bx:wU:=top 83
abbrev Ym:List Str:=["_law_script","_law_k","_law_cell_here"]
abbrev uX:List Str:=["_law_script","_law_k"]
theorem So:aS Ym uX (aK Bx):=by wtm_at "sc"
abbrev B_:wU:=top 84
abbrev OO:List Str:=["_law_pen_here","_law_most","_law_found","_law_mixed"]
abbrev zO:List Str:=["_law_pen_here","_law_most"]
theorem yQ:aS OO zO (aK B_):=by wtm_at "sc"
abbrev DL:wU:=top 85
abbrev Ou:List Str:=["_law_top","_law_bottom","_law_one","_law_other"]
abbrev AJ:List Str:=["_law_top","_law_bottom"]
theorem yr:aS Ou AJ (aK DL):=by wtm_at "sc"
abbrev Fz:wU:=top 86
abbrev R7:List Str:=["_law_pen_here","_law_way","_law_bottom","_law_deep","_law_more","_law_top","_law_need"]
abbrev uZ:List Str:=["_law_pen_here"]
theorem kJ:aS R7 uZ (aK Fz):=by wtm_at "sc"
abbrev Fx:wU:=top 87
abbrev Mq:List Str:=["_law_pen_here","_law_most","_law_many","_law_bottom","_law_few","_law_apart"]
abbrev AH:List Str:=["_law_pen_here","_law_most"]
theorem q_:aS Mq AH (aK Fx):=by wtm_at "sc"
abbrev Fq:wU:=top 88
abbrev UT:List Str:=["_law_swarm","_law_found"]
abbrev Ab:List Str:=["_law_swarm"]
theorem yj:aS UT Ab (aK Fq):=by wtm_at "sc"
abbrev Gv:wU:=top 89
abbrev Pp:List Str:=["_law_swarm","_law_paper_here","_law_due","_law_kept","_law_found"]
abbrev yz:List Str:=["_law_swarm","_law_paper_here","_law_due"]
theorem Dm:aS Pp yz (aK Gv):=by wtm_at "sc"
abbrev BW:wU:=top 90
abbrev By:List Str:=[]
abbrev ze:=By
theorem zrp:aS By ze (aK BW):=by wtm_at "sc"
abbrev Gi:wU:=top 91
abbrev Tu:List Str:=["_law_hour","_law_phases","_law_some","_law_bad","_law_one"]
abbrev zR:List Str:=["_law_hour","_law_phases"]
theorem ju:aS Tu zR (aK Gi):=by wtm_at "sc"
abbrev B7:wU:=top 92
abbrev C5:List Str:=["_law_one","_law_other"]
abbrev z7:=C5
theorem zuy:aS C5 z7 (aK B7):=by wtm_at "sc"
abbrev Di:wU:=top 93
abbrev Dq:List Str:=["_law_one","_law_other"]
abbrev zm:=Dq
theorem zsL:aS Dq zm (aK Di):=by wtm_at "sc"
abbrev B5:wU:=top 94
abbrev Ee:List Str:=["_law_one","_law_other"]
abbrev zev:=Ee
theorem zoF:aS Ee zev (aK B5):=by wtm_at "sc"
abbrev CP:wU:=top 95
abbrev Gp:List Str:=["_law_one","_law_other"]
abbrev uR:=Gp
theorem ZJ:aS Gp uR (aK CP):=by wtm_at "sc"
abbrev FH:wU:=top 96
abbrev MT:List Str:=["_law_rule","_law_many","_law_found","_law_k"]
abbrev zD:List Str:=["_law_rule","_law_many"]
theorem zS:aS MT zD (aK FH):=by wtm_at "sc"
abbrev EI:wU:=top 97
abbrev UL:List Str:=["_law_rule","_law_sizes","_law_places","_law_phases","_law_time","_law_heights","_law_at","_law_wait","_law_often","_law_risen"]
abbrev yL:List Str:=["_law_rule","_law_sizes","_law_places"]
theorem j2:aS UL yL (aK EI):=by wtm_at "sc"
abbrev Es:wU:=top 98
abbrev RL:List Str:=["_law_one","_law_many","_law_top","_law_bottom","_law_k"]
abbrev zU:List Str:=["_law_one","_law_many"]
theorem oU:aS RL zU (aK Es):=by wtm_at "sc"
abbrev CZ:wU:=top 99
abbrev O4:List Str:=["_law_rule","_law_sizes","_law_factor","_law_shifts"]
abbrev uA:List Str:=["_law_rule","_law_sizes"]
theorem Dy:aS O4 uA (aK CZ):=by wtm_at "sc"
abbrev Gm:wU:=top 100
abbrev UQ:List Str:=["_law_pen_here","_law_rule","_law_most","_law_found","_law_some","_law_one"]
abbrev AQ:List Str:=["_law_pen_here","_law_rule","_law_most"]
theorem zK:aS UQ AQ (aK Gm):=by wtm_at "sc"
abbrev Ft:wU:=top 101
abbrev O8:List Str:=["_law_pen_here","_law_paper_here","_law_at","_law_little"]
abbrev y9:List Str:=["_law_pen_here","_law_paper_here"]
theorem Cp:aS O8 y9 (aK Ft):=by wtm_at "sc"
abbrev FK:wU:=top 102
abbrev Om:List Str:=["_law_pen_here","_law_paper_here","_law_other","_law_at"]
abbrev Aw:List Str:=["_law_pen_here","_law_paper_here","_law_other"]
theorem NU:aS Om Aw (aK FK):=by wtm_at "sc"
abbrev DR:wU:=top 103
abbrev Tb:List Str:=["_law_script","_law_rule","_law_swarm","_law_told","_law_pen_here","_law_k","_law_other","_law_mixed","_law_at"]
abbrev Av:List Str:=["_law_script","_law_rule","_law_swarm","_law_told"]
theorem pI:aS Tb Av (aK DR):=by wtm_at "sc"
abbrev uE:wU:=top 104
abbrev UW:List Str:=["_law_script","_law_rule","_law_phases","_law_swarm","_law_told","_law_good","_law_pen_here","_law_k","_law_at","_law_some","_law_thing","_law_left"]
abbrev yy:List Str:=["_law_script"]
theorem iA:aS UW yy (aK uE):=by wtm_at "sc"
set_option genInjectivity false in
structure Ad where
 JT:wf
 IM:wx
 HJ:wf
 GK:wx
 GL:wf
 GA:wx
 JK:wf
 HS:wx
 plus:wf
 Kh:wx
 minus:wf
 JX:wx
 times:wf
 J0:wx
 over:wf
 Ke:wx
 less:wf
 Kl:wx
 JF:wf
 Ih:wx
 J6:wf
 Ir:wx
 Jv:wf
 Ia:wx
 Kr:wf
 Jc:wx
 K0:wf
 Kt:wx
 Ky:wf
 Jt:wx
 JA:wf
 H_:wx
 J9:wf
 Iw:wx
 Jd:wf
 Hu:wx
 J7:wf
 IS:wx
 JU:wf
 ID:wx
 J4:wf
 Iv:wx
 KH:wf
 JL:wx
 Ji:wf
 HN:wx
 nU:wf
 Kw:wx
 Kx:wf
 I_:wx
 behind:wf
 Jy:wx
 Kj:wf
 Jj:wx
 laid:wf
 Kk:wx
 HL:wf
 GU:wx
 tW:wf
 JH:wx
 HX:wf
 GX:wx
 IV:wf
 Hq:wx
 jh:wf
 Ko:wx
 Ku:wf
 IU:wx
 JB:wf
 Ij:wx
 KN:wf
 J_:wx
 Km:wf
 Jg:wx
 KI:wf
 Jx:wx
 Ht:wf
 GO:wx
 Hi:wf
 GJ:wx
 IG:wf
 Hg:wx
 HQ:wf
 GZ:wx
 Jh:wf
 Hn:wx
 IJ:wf
 Hm:wx
 JC:wf
 Ie:wx
 KD:wf
 JG:wx
 Iy:wf
 Hj:wx
 JY:wf
 Iu:wx
 Kp:wf
 Ja:wx
 Ho:wf
 GQ:wx
 Jq:wf
 Hy:wx
 J8:wf
 Im:wx
 Ki:wf
 IY:wx
 Ks:wf
 IX:wx
 Hz:wf
 GW:wx
 JZ:wf
 IC:wx
 JP:wf
 IL:wx
 JW:wf
 IE:wx
 Kf:wf
 Jb:wx
 J1:wf
 Io:wx
 Kv:wf
 I0:wx
 Hh:wf
 GI:wx
 GV:wf
 GB:wx
 Jw:wf
 HU:wx
 JS:wf
 II:wx
 Jz:wf
 HR:wx
 Jp:wf
 Hx:wx
 Kq:wf
 Jo:wx
 JR:wf
 Iz:wx
 IQ:wf
 Hf:wx
 Kc:wf
 Ip:wx
 IW:wf
 Hv:wx
 JJ:wf
 HZ:wx
 Js:wf
 Ib:wx
 JI:wf
 Ic:wx
 JN:wf
 HP:wx
 IK:wf
 Hl:wx
 IT:wf
 He:wx
 GS:wf
 Gy:wx
 law:wf
 Kz:wx
 pY:wf
 ic:wf
 dy:wf
 eO:wf
 AU:wf
 Bl:wf
structure Dn(K:wa)(mg:Str->Option Value)(n:Str)(st:wU)(ps:List Str)(f:wf)(fd:wx):Prop where
 F:lW K n n st f fd
 g:mg n=some (.ref f)
 b:lJ K fd ps []
section
variable{X:Cx}{x:Str}{f:wf}{fd:wx}{ps:List Str}{sp:Sp}{j k:Nat}{e:Expr}{es:List Expr}{t:TA}{pos pp:Pos}{st:wU}{CX:gL}
theorem pH{E:XK}(F:aI X.prog X.w X.K X.mg X.base CX k f fd ps sp)(hr:eJ j X.A)(D:Dn X.K X.mg x st ps f fd)(hx:m_ CX X E)(ha:PA X (e::es) t)(hj:k<=j:=by decide)(hg:Gl X x:=by exact rfl)
  (hdb:(x == ("__debug__" : Str))=false:=by decide) (he:wR (e::es) X.env=(false,eval e X.env)::wR es X.env:=by rfl) (hpl:(backTo pos (wR es X.env)).any (·.1)=false:=by rfl) :
  PE X (.Call (.Name x pp) (e::es) [] pos) (og sp [] E t):=LQ F (hr.mono hj) hg D.g D.F.kp D.b .nil hx ha hdb he hpl
theorem ak(F:aI X.prog X.w X.K X.mg X.base aU k f fd ps sp)(hr:eJ j X.A)(D:Dn X.K X.mg x st ps f fd)(ha:PA X (e::es) t)(hj:k<=j:=by decide)(hg:Gl X x:=by exact rfl)
  (hdb:(x == ("__debug__" : Str))=false:=by decide) (he:wR (e::es) X.env=(false,eval e X.env)::wR es X.env:=by rfl) (hpl:(backTo pos (wR es X.env)).any (·.1)=false:=by rfl) :
  PE X (.Call (.Name x pp) (e::es) [] pos) (og sp [] E0 t):=LQ F (hr.mono hj) hg D.g D.F.kp D.b .nil DW ha hdb he hpl
theorem au{ta:TE}{i:Int}{kd}(ha:PE X e ta):PE X (.Subscript e (.Constant (.int i) kd pp) pos) (kK (dh X.K) ta (tC (.int i))):=c9 cJ ha ao (λ_ _=>rfl)
theorem kQ{K:wa}{ta:TE}{i:Int}{kd}(hr:gH X (dh K))(ha:PE X e ta):PE X (.Subscript e (.Constant (.int i) kd pp) pos) (kK (dh K) ta (tC (.int i))):=c9 hr ha ao (λ_ _=>rfl)
theorem aA(i:Nat){te:TE}(hN:X.N.Nodup)(he:PE X e te)(hi:X.N[i]? = some x:=by exact rfl)(hx:Loc X.env.scope x:=by first | exact Or.inl rfl | exact Or.inr rfl)(hs:swapsWith e (some (.Name x pp)) pos.line X.env=pure false:=by rfl)(hf:X.fn x=true\/X.env.scope.names.lookup x=some .local:=by first | exact .inl rfl | exact .inr rfl | assumption) :
  PS X (.Assign [.Name x pp] e pos) (mr te (jk i)):=N9 hN hi hx he hs hf
end
structure Txt(K:wa)(mg:Str->Option Value)(a:Ad):Prop where
 tQ:Dn K mg "is_whole" Cg x_ a.JT a.IM
 AW:Dn K mg "is_whole_from" C4 yZ a.HJ a.GK
 nN:Dn K mg "greatest_divisor" C2 u_ a.GL a.GA
 nP:Dn K mg "is_number" B4 yN a.JK a.HS
 gr:Dn K mg "plus" CT yK a.plus a.Kh
 p5:Dn K mg "minus" FI yS a.minus a.JX
 ko:Dn K mg "times" Et u7 a.times a.J0
 Bm:Dn K mg "over" C1 yf a.over a.Ke
 gO:Dn K mg "less" DB zg a.less a.Kl
 IA:Dn K mg "is_factor" CV z6 a.JF a.Ih
 IZ:Dn K mg "is_shift" BA yR a.J6 a.Ir
 IF:Dn K mg "make_rule" FV zT a.Jv a.Ia
 JE:Dn K mg "is_rule" Dg uD a.Kr a.Jc
 Bo:Dn K mg "bend" CQ zC a.K0 a.Kt
 pZ:Dn K mg "pushes" BH zI a.Ky a.Jt
 A7:Dn K mg "pushed_by" Fy Ak a.JA a.H_
 Jm:Dn K mg "is_phase" Ez zc a.J9 a.Iw
 HY:Dn K mg "are_phases" Gd Af a.Jd a.Hu
 Ba:Dn K mg "swarm_of" FO zP a.J7 a.IS
 Bb:Dn K mg "greatest" Ct yG a.JU a.ID
 Jr:Dn K mg "worms_at" BU yF a.J4 a.Iv
 Bh:Dn K mg "flocks" Fd Al a.KH a.JL
 A0:Dn K mg "at_the_end" FT yT a.Ji a.HN
 tX:Dn K mg "glow" EX yB a.nU a.Kw
 JM:Dn K mg "history" FE zZ a.Kx a.I_
 J5:Dn K mg "behind" DG yo a.behind a.Jy
 tR:Dn K mg "is_laid" Cd yh a.Kj a.Jj
 p6:Dn K mg "laid" BI zX a.laid a.Kk
 GY:Dn K mg "phases_behind" CW uQ a.HL a.GU
 tS:Dn K mg "stands" Fm zt a.tW a.JH
 AZ:Dn K mg "round_behind" DT z9 a.HX a.GX
 Ik:Dn K mg "round_time" Fw zb a.IV a.Hq
 Bn:Dn K mg "tops" Fs zd a.jh a.Ko
 nQ:Dn K mg "is_free" Gw zf a.Ku a.IU
 nO:Dn K mg "round_map" Ec Aa a.JB a.Ij
 Bj:Dn K mg "still" C9 yP a.KN a.J_
 Be:Dn K mg "weighed" B3 u9 a.Km a.Jg
 Bg:Dn K mg "led_on" Gk yI a.KI a.Jx
 AV:Dn K mg "rounds_behind" BL Au a.Ht a.GO
 GR:Dn K mg "sums_of_places" Dk yA a.Hi a.GJ
 HK:Dn K mg "rounds_time" CH AR a.IG a.Hg
 AY:Dn K mg "draws_freely" BM yC a.HQ a.GZ
 Ii:Dn K mg "stays_free" Dd AM a.Jh a.Hn
 HH:Dn K mg "free_rounds" DU uI a.IJ a.Hm
 A9:Dn K mg "has_stand" DS AN a.JC a.Ie
 JV:Dn K mg "is_row" Bs zh a.KD a.JG
 Hw:Dn K mg "is_last_row" DQ yx a.Iy a.Hj
 Jk:Dn K mg "is_paper" Ek yO a.JY a.Iu
 JD:Dn K mg "go_free" B6 uL a.Kp a.Ja
 AX:Dn K mg "behind_rounds" Gg Am a.Ho a.GQ
 A1:Dn K mg "behind_row" Ci yJ a.Jq a.Hy
 Je:Dn K mg "leads_on" CO y7 a.J8 a.Im
 Bf:Dn K mg "word_of" EW uT a.Ki a.IY
 Ju:Dn K mg "lets_by" FP u5 a.Ks a.IX
 G_:Dn K mg "glows_to_join" E_ zA a.Hz a.GW
 Jn:Dn K mg "next_row" B1 zi a.JZ a.IC
 tP:Dn K mg "paper_of" Dc yw a.JP a.IL
 Jf:Dn K mg "_law_cell" FA uO a.JW a.IE
 nR:Dn K mg "_law_pen" Bx uX a.Kf a.Jb
 d8:Dn K mg "_law_draw" B_ zO a.J1 a.Io
 gq:Dn K mg "_law_low" DL AJ a.Kv a.I0
 GP:Dn K mg "_law_drawn_rule" Fz uZ a.Hh a.GI
 GC:Dn K mg "_law_drawn_phases" Fx AH a.GV a.GB
 A3:Dn K mg "_law_paper" Fq Ab a.Jw a.HU
 kn:Dn K mg "_law_says" Gv yz a.JS a.II
 mC:Dn K mg "_law_hours" BW ze a.Jz a.HR
 Ig:Dn K mg "_law_things" Gi zR a.Jp a.Hx
 mD:Dn K mg "_law_sum" B7 z7 a.Kq a.Jo
 A_:Dn K mg "_law_rest" Di zm a.JR a.Iz
 tO:Dn K mg "_law_product" B5 zev a.IQ a.Hf
 Jl:Dn K mg "_law_part" CP uR a.Kc a.Ip
 HW:Dn K mg "_law_pushes" FH zD a.IW a.Hv
 Iq:Dn K mg "_law_round" EI yL a.JJ a.HZ
 IH:Dn K mg "_law_power" Es zU a.Js a.Ib
 IP:Dn K mg "_law_rests" CZ uA a.JI a.Ic
 A8:Dn K mg "_law_start" Gm AQ a.JN a.HP
 HI:Dn K mg "_law_shifted" Ft y9 a.IK a.Hl
 HM:Dn K mg "_law_spliced" FK Aw a.IT a.He
 GF:Dn K mg "_law_others_right" DR Av a.GS a.Gy
 Za:Dn K mg "law" uE yy a.law a.Kz
 h0q:mg "abs"=none
 h0s:mg "all"=none
 h0n:mg "any"=none
 h0m:mg "bool"=none
 h0k:mg "dict"=none
 h0d:mg "enumerate"=none
 h0u:mg "int"=none
 h0c:mg "isinstance"=none
 h0o:mg "len"=none
 h0l:mg "list"=none
 h0r:mg "min"=none
 h0j:mg "range"=none
 h0t:mg "str"=none
 h0p:mg "sum"=none
 h0i:mg "tuple"=none
 h0v:mg "zip"=none
 YN:mg "NoStand"=some (.ref a.pY)
 JO:mg "TooLong"=some (.ref a.ic)
 YO:VJ K a.pY sy "ValueError.__new__"=true
 aaa:V3 K (.ref a.pY) (.ref a.ic)=some false
 YQ:VJ K a.ic sy "ValueError.__new__"=true
 YB:V3 K (.ref a.ic) (.ref a.ic)=some true
 ee:mg "NOUGHT"=some (.ref a.dy)
 fq:∀H:Hp,bA K H a.dy [.int 0,.int 1]
 fI:mg "ONE"=some (.ref a.eO)
 uu:∀H:Hp,bA K H a.eO [.int 1,.int 1]
 YC:mg "GREATEST_FACTOR"=some (.ref a.AU)
 YD:∀H:Hp,bA K H a.AU [.int 4,.int 1]
 YE:∃t,mg "FACTOR_BOTTOM"=some (.int 8 t)
 YG:∃t,mg "SHIFT_BOTTOM"=some (.int 12 t)
 YI:∃t,mg "MOST_WORMS"=some (.int 8 t)
 YF:∃t,mg "PHASE_BOTTOM"=some (.int 60 t)
 Il:∃t,mg "MOST_FREE"=some (.int 30 t)
 YH:∃t,mg "MOST_GLOWS"=some (.int 40 t)
 YU:mg "WORDS"=some (.ref a.Bl)
 YT:∀H:Hp,bA K H a.Bl [.str "one",.str "rests",.str "drawn"]
end G
open L2 GM in
local macro_rules | `(tactic| wtm_at "is")=>`(tactic| first
 | assumption
 | exact aJ.mpr rfl
 | exact fL.mpr rfl
 | exact iE.mpr rfl
 | exact cW.mpr rfl
 | exact Is.Zi (by assumption) (by wtm_at "same")
 | exact Is.Y5 (by assumption) (by wtm_at "keep")
 | exact Is.nT (by assumption) (by wtm_at "keep")
 | ((with_reducible apply is_tupAt);(focus assumption);(focus wtm_at "isall");wtm_at "same")
 | ((with_reducible apply is_lstAt);(focus assumption);(focus wtm_at "isall");wtm_at "same")
 | ((with_reducible apply is_dctAt);(focus assumption);wtm_at "same")
 | exact eS 0 (G.Txt.fq (by assumption) _) rfl rfl | exact eS 1 (G.Txt.uu (by assumption) _) rfl rfl | exact eS 4 (G.Txt.YD (by assumption) _) rfl rfl
 | fail "is")
open L2 GM in
local macro_rules | `(tactic| wtm_at "isall")=>`(tactic| first
 | exact ai.nil
 | exact ai.cons (by wtm_at "is") (by wtm_at "isall")
 | fail "isall")
open L2 GM in
local macro_rules | `(tactic| wtm_at "ne")=>`(tactic| first
 | assumption
 | (apply Wr;assumption))
open L2 GM in
local macro_rules | `(tactic| wtm_at "lst")=>`(tactic| first
 | assumption
 | exact ag.at (by assumption) (by wtm_at "lst")
 | exact Exc.at (by assumption) (by wtm_at "ne") (by wtm_at "lst")
 | fail "lst")
open L2 GM in
local macro_rules | `(tactic| wtm_at "same")=>`(tactic| first
 | assumption
 | exact ag.refl _
 | exact ag.back (by assumption) (by wtm_at "same")
 | fail "same")
open L2 GM in
local macro_rules | `(tactic| wtm_at "keep")=>`(tactic| first
 | assumption
 | exact bE.refl _
 | exact ag.keep (by assumption)
 | exact bE.back (by assumption) (by wtm_at "keep")
 | exact bE.back (ag.keep (by assumption)) (by wtm_at "keep")
 | fail "keep")
open L2 GM in
local macro_rules | `(tactic| wtm_at "exc")=>`(tactic| first
 | assumption
 | exact Exc.refl _ _
 | exact Exc.back (by assumption) (by wtm_at "exc")
 | exact Exc.back (ag.exc (by assumption)) (by wtm_at "exc")
 | fail "exc")
open L2 GM in
local macro_rules | `(tactic| wtm_at "sqf")=>`(tactic| first
 | assumption
 | exact bE.kU (by wtm_at "keep") (by assumption)
 | fail "sqf")
open L2 GM in
local macro_rules | `(tactic| wtm_at "bd")=>`(tactic| first
 | assumption
 | exact Bd.mk (n:=128) (by decide)
 | exact Bd.mono (m:=128) ⟨by decide⟩ (by decide)
 | exact ah.t (by assumption)
 | exact ah.b (by assumption)
 | exact Bd.k9 (by lia) (by lia)
 | (apply Bd.neg;wtm_at "bd")
 | (apply Bd.mul;(focus wtm_at "bd");wtm_at "bd")
 | (apply Bd.add;(focus wtm_at "bd");wtm_at "bd")
 | (apply Bd.sub;(focus wtm_at "bd");wtm_at "bd"))
open L2 GM PySem in
local macro_rules | `(tactic| wtm_at "mulok")=>`(tactic| first
 | exact Xd (by decide)
 | exact XC (by decide)
 | exact Xd (intBits_le_64 (by lia) (by lia))
 | exact XC (intBits_le_64 (by lia) (by lia))
 | (apply L2.Y8;(focus wtm_at "bd");(focus wtm_at "bd");(focus decide);decide))
open L2 GM PySem in
local macro_rules | `(tactic| wtm_at "side")=>`(tactic| first
 | assumption
 | decide
 | lia
 | wtm_at "mulok"
 | (refine And.intro ?_ ?_<;>wtm_at "side")
 | wtm_at "bd")
open L2 GM in
local macro_rules | `(tactic| wtm_at "gs")=>`(tactic| first
 | with_reducible (first | refine zD3 ?_ | refine zEj ?_ | refine zCQ ?_ | refine zCl ?_ | refine zAK ?_)
 | ((with_reducible apply tm);(focus wtm_at "side"))
 | with_reducible (first | refine zEg ?_ | refine Zk ?_ | refine zCb ?_ | refine zCR ?_ | refine zCy ?_ | refine zDm ?_ | refine pT ?_ | refine oA ?_)
 | with_reducible refine zBd (λ_=>?_) (λ_=>?_)
 | with_reducible refine zxY (λ_=>?_) (λ_=>?_)
 | with_reducible refine zyp (λ_=>?_) (λ_=>?_)
 | with_reducible refine zAc (λ_=>?_) (λ_=>?_)
 | with_reducible (first | refine zCV ?_ | refine zDy ?_ | refine zCj ?_ | refine zA8 ?_ | refine zDd ?_ | refine zBc ?_ | refine zCO ?_ | refine zAq ?_ | refine zAs ?_ | refine zA5 ?_ | refine zA9 ?_ | refine ZU ?_ | refine zAh ?_ | refine zy4 ?_ | refine zAR ?_ | refine zAz ?_)
 | ((with_reducible apply zBk);(focus wtm_at "is"))
 | ((with_reducible apply zBw);(focus wtm_at "is"))
 | ((with_reducible apply jD);(focus(apply aP.of;wtm_at "lst"));(focus rfl))
 | ((with_reducible apply z5);(focus assumption);(focus rfl);intro hN eN lN;dsimp only[Int.reduceToNat,xO,xP]at lN)
 | ((with_reducible apply R_);(focus wtm_at "is"))
 | ((with_reducible apply zyn);(focus wtm_at "is"))
 | ((with_reducible apply M4);(focus wtm_at "is"))
 | dsimp only[xO,xP])
set_option hygiene false in
open L2 GM in
local macro_rules | `(tactic| wtm_at "sq")=>`(tactic| with_reducible refine zAN (λ tl_ htl_=>?_))
set_option hygiene false in
open L2 GM in
local macro_rules | `(tactic| wtm_at "tl")=>`(tactic| ((with_reducible refine Ah.go (by assumption) ?_); (try clear htl_ tl_)))
open L2 GM in
local macro_rules | `(tactic| wtm_at "bdr0")=>`(tactic| first
 | assumption
 | exact ah.zero
 | exact ah.one
 | exact ah.four
 | (apply ah.add;(focus wtm_at "bdr0");wtm_at "bdr0")
 | (apply ah.sub;(focus wtm_at "bdr0");wtm_at "bdr0")
 | (apply ah.mul;(focus wtm_at "bdr0");wtm_at "bdr0"))
open L2 GM in
local macro_rules | `(tactic| wtm_at "bdr")=>`(tactic| first
 | assumption
 | (apply ah.mono;(focus wtm_at "bdr0");(first | decide | lia)))
open L2 GM in
local macro_rules | `(tactic| wtm_at "ga1")=>`(tactic| first
 | wtm_at "gs"
 | ((with_reducible apply bW);(focus(simp only[vn,QQ];decide));(focus wtm_at "isall");intro _ _ _ _)
 | ((with_reducible apply cS);(focus(simp only[vn,QQ];decide));intro _ _ _ _ _)
 | with_reducible refine UA (λ_ _ _ _ _=>?_)
 | ((with_reducible apply fR);(focus wtm_at "lst");(focus wtm_at "lst");(focus(simp only[wy,vn,QQ];decide));intro _ _ _ _ _))
local macro_rules | `(tactic| wtm_at "ga")=>`(tactic| repeat' (first | wtm_at "ga1" | wtm_at "tl"))
local macro_rules | `(tactic| wtm_at "gg")=>`(tactic| repeat' (first | wtm_at "gs" | wtm_at "tl"))
local macro_rules | `(tactic| wtm_at "gt")=>`(tactic| repeat' (wtm_at "gs"))
open L2 GM in
local macro_rules | `(tactic| wtm_at "bd128")=>`(tactic| first
 | exact Bd.mono (m:=128) ⟨by decide⟩ (by decide)
 | exact(Bd.k9 (by lia) (by lia)).mono (by decide))
open L2 GM in
local macro_rules | `(tactic| wtm_at "gs")=>`(tactic| first
 | with_reducible (first | refine zDH ?_ | refine zwv ?_ | refine zDP ?_ | refine zwR ?_ | refine zyJ ?_ | refine zyh ?_ | refine zxU ?_ | refine zze ?_ | refine OX ?_ | refine zyD ?_ | refine zyO ?_ | refine ZV ?_ | refine zzY ?_ | refine zBg ?_ | refine zyF ?_ | refine zw9 ?_ | refine zwA ?_ | refine zDf ?_ | refine zrm ?_ | refine ZE ?_ | refine Z0 ?_)
 | with_reducible refine ZI (λ_ _ _ _=>?_)
 | with_reducible (first | refine zzT ?_ | refine zzE ?_ | refine zCh ?_ | refine zyW ?_ | refine zCT ?_ | refine zyV ?_ | refine zwq ?_ | refine zBm ?_ | refine zx3 ?_)
 | ((with_reducible apply zxl);(focus wtm_at "is"))
 | ((with_reducible apply zAD);(focus wtm_at "is"))
 | ((with_reducible apply zAW);(focus wtm_at "is");intro _ _)
 | ((with_reducible apply zAj);(focus wtm_at "is");intro _ _)
 | ((with_reducible apply jD);(focus(apply aP.of;wtm_at "lst"));(focus rfl))
 | ((with_reducible apply zA2);(focus wtm_at "lst");(focus lia);(focus lia);intro _ _)
 | ((with_reducible apply Cc);(focus wtm_at "is");(focus wtm_at "is"))
 | ((with_reducible apply zCn);(focus wtm_at "is");(focus wtm_at "is")))
open L2 GM in
local macro_rules | `(tactic| wtm_at "gs")=>`(tactic| first
 | wtm_at "sq"
 | with_reducible (first | refine zCK ?_ | refine zDb ?_ | refine zDt ?_ | refine zD0 ?_)
 | ((with_reducible apply zDg);(focus rfl))
 | with_reducible (first | refine zEs ?_ | refine zAU ?_ | refine zCW ?_ | refine zAS ?_ | refine zAX ?_ | refine zDq ?_ | refine zxm ?_))
set_option hygiene false in
local macro_rules | `(tactic| wtm_at "b0")=>`(tactic| (focus (intro vs H Q E h; obtain ⟨rfl,_⟩:=h; rfl)); (intro cdv A outer s H vs Q E hr h; obtain ⟨rfl,h⟩:=h; have hu:=hr.units))
set_option hygiene false in
local macro_rules | `(tactic| wtm_at "b1")=>`(tactic| (focus (intro vs H Q E h; obtain ⟨_,rfl,_⟩:=h; rfl)); (intro cdv A outer s H vs Q E hr h; obtain ⟨x0,rfl,h⟩:=h; have hu:=hr.units))
set_option hygiene false in
local macro_rules | `(tactic| wtm_at "b2")=>`(tactic| (focus (intro vs H Q E h; obtain ⟨_,_,rfl,_⟩:=h; rfl)); (intro cdv A outer s H vs Q E hr h; obtain ⟨x0,x1,rfl,h⟩:=h; have hu:=hr.units))
set_option hygiene false in
local macro_rules | `(tactic| wtm_at "b3")=>`(tactic| (focus (intro vs H Q E h; obtain ⟨_,_,_,rfl,_⟩:=h; rfl)); (intro cdv A outer s H vs Q E hr h; obtain ⟨x0,x1,x2,rfl,h⟩:=h; have hu:=hr.units))
set_option hygiene false in
local macro_rules | `(tactic| wtm_at "b4")=>`(tactic| (focus (intro vs H Q E h; obtain ⟨_,_,_,_,rfl,_⟩:=h; rfl)); (intro cdv A outer s H vs Q E hr h; obtain ⟨x0,x1,x2,x3,rfl,h⟩:=h; have hu:=hr.units))
set_option hygiene false in
local macro_rules | `(tactic| wtm_at "cl")=>`(tactic| ((clear hu); (try clear hgd); (first | dsimp only [jH,cxOfH] | dsimp only [jH] | skip)))
local macro_rules | `(tactic| k_few)=>`(tactic| wtm_at "gg")
local macro_rules | `(tactic| o_head $e)=>`(tactic| (wtm_at "gg"; refine $e))
namespace G
open PySem PySem.Spec PyProof.Rows L2 GM
section
variable{P:wK}{w:wQ}{K:wa}{mg:Str->Option Value}{base:wJ}{a:Ad}
variable{H:Hp}{Q:VK}{E:XK}{u v:V}{d e:PyData}{g i j k m n r:Nat}{b ra rb x y:Rat}{ds:List PyData}{ss xs:List Rat}{α:Type}{p:wf}{ns:List Int}{B t:Int}
def isInt:PyData->Bool
 | .int _=>true
 | _=>false
def PV(K:wa):Sp:=λvs H Q _=>∃x0,vs=[x0] /\ ∃d,Is K H x0 d/\Q (.bl (isInt d)) H
theorem zs4(h:Is K H v d)(q:Q (.bl (isInt d)) H):PV K [v] H Q E:=⟨v,rfl,d,h,q⟩
local macro_rules | `(tactic| wtm_at "gs")=>`(tactic| ((with_reducible apply zs4); (focus wtm_at "is")))
theorem Gq(T:Txt K mg a):aI P w K mg base aU 1 a.JT a.IM x_ (PV K):=by
 refine T.tQ.F.ok zsf ?_ ?_;wtm_at "b1";refine⟨_,(ay (aC (fb (bQ (show aN _ (.builtin "isinstance") (fg K)from j5) rfl T.h0c jz (ae (pv 0) (ae (iS (v:=.ty "int") rfl T.h0u zCi rfl) af))) (gc (pA (bQ (show aN _ (.builtin "isinstance") (fg K)from j5) rfl T.h0c jz (ae (pv 0) (ae (iS (v:=.ty "bool") rfl T.h0m Yy rfl) af)))))))),?_⟩;wtm_at "cl";rw[show start Gs [x0]=[some x0]from rfl];obtain⟨d,hd,q⟩:=h;k_few
 all_goals(cases d<;>simp_all [isInt,BG,En])
def fF(l m:Int):PyData->Bool
 | .int i=>decide (l<=i)&&decide (i<=m)
 | _=>false
theorem zuL{l m:Int}(h:isInt d=false):fF l m d=false:=by cases d<;>first | rfl | cases h
def Su(K:wa):Sp:=λvs H Q _=>∃x0 x1 x2,vs=[x0,x1,x2] /\ ∃(l m:Int)(d:PyData),x0=.int l/\x1=.int m/\Is K H x2 d/\Q (.bl (fF l m d)) H
theorem NA{l m:Int}(h:Is K H v d)(q:Q (.bl (fF l m d)) H):Su K [.int l,.int m,v] H Q E:=⟨_,_,_,rfl,l,m,d,rfl,rfl,h,q⟩
theorem UY(T:Txt K mg a):aI P w K mg base aU 2 a.HJ a.GK yZ (Su K):=by
 refine T.AW.F.ok zlA ?_ ?_;wtm_at "b3";refine⟨_,(ay (aC (fb (ak (Gq T) hr T.tQ (ae (pv 2) af)) (gc (zyM nh nh (pv 0) (pv 2) (pv 1)))))),?_⟩;wtm_at "cl";rw[show start CC [x0,x1,x2]=[some x0,some x1,some x2]from rfl];obtain⟨l,m,d,rfl,rfl,hd,q⟩:=h;have hc:(∃i,d=.int i)\/isInt d=false:=by cases d<;>simp[isInt]
 rcases hc with⟨i,rfl⟩ | hn
 ·cases aJ.mp hd
  have q:Q (.bl (decide (l<=i)&&decide (i<=m))) H:=q;k_few
  ·rename_i z
   rw[decide_eq_true z,qf]at q;exact q
  ·rename_i z
   rw[decide_eq_false z,vO]at q;exact q
  ·rename_i z;cases (show true=false from z)
 ·rw[zuL hn]at q
  k_few
  ·rename_i z1;rw[hn]at z1;cases z1
  ·exact q
def Oq(K:wa):Sp:=λvs H Q _=>∃x0 x1,vs=[x0,x1] /\ ∃a b:Int,x0=.int a/\x1=.int b/\0<=a/\0<=b/\Q (.int (vj a b:Nat)) H
theorem sa{a b:Int}(ha:0<=a)(hb:0<=b)(q:Q (.int (vj a b:Nat)) H):Oq K [.int a,.int b] H Q E:=⟨_,_,rfl,a,b,rfl,rfl,ha,hb,q⟩
theorem sH(T:Txt K mg a):aI P w K mg base aU 1 a.GL a.GA u_ (Oq K):=by
 refine T.nN.F.ok u6 ?_ ?_;wtm_at "b2"
 refine⟨_,(av (oQ vd (cw (show aM _ (compareOp .NotEq) (ig K)from lz hu) (pv 1) ao (bN _)) (av (aA 2 u6.nd (aB iB (pv 0) (pv 1)))
     (av (aA 0 u6.nd (pv 1))
     (ay (aA 1 u6.nd (pv 2))))))
     (ay (aC (pv 0)))),?_⟩
 wtm_at "cl";rw[show start Tj [x0,x1]=[some x0,some x1,none]from rfl];obtain⟨a',b',rfl,rfl,ha,hb,q⟩:=h;refine zCz ?_;refine Rb (λσ H'=>∃(x y:Int)(r:Option V),σ = [some (.int x),some (.int y),r]/\0<=x/\0<=y/\vj x y=vj a' b'/\H'=H) (λσ=>(LY σ 1).toNat) ⟨a',b',none,rfl,ha,hb,rfl,rfl⟩ ?_;rintro σ H' ⟨x,y,r,rfl,hx,hy,hg,rfl⟩;k_few
 . refine Tx ?_
   k_few;have h1:=qR x (show y≠0 by assumption);have h2:=qz x (show 0<y by lia);refine⟨?_,_,_,_,rfl,hy,h1,?_,rfl⟩
   . show(x % y).toNat<y.toNat
     lia
   . rw[<- hg];exact U6 (by lia) hx
 . rename_i h0
   subst h0
   have e:((vj a' b':Nat):Int)=x:=by
     rw[<- hg,xQ];lia
   rw[e]at q;exact q
def a_:PyData->Bool
 | .tuple [.int p,.int q]=>iu p q
 | _=>false
theorem sO(r:Rat):a_ (N r)=true:=RX r
theorem zt7(h:fk d=false):a_ d=false:=by
 cases d<;>first | rfl | (simp[fk]at h)
theorem ZS(h:¬ ds.length=2):a_ (.tuple ds)=false:=by
 match ds with
 | []=>rfl
 | [_]=>simp[a_]
 | [_,_]=>exact absurd rfl h
 | _::_::_::_=>simp[a_]
theorem zrz(h:isInt d=false):a_ (.tuple [d,e])=false:=by
 cases d<;>first | rfl | (simp[isInt]at h)
theorem zo3(h:isInt e=false):a_ (.tuple [d,e])=false:=by
 cases d<;>cases e<;>first | rfl | (simp[isInt]at h)
theorem Ta : isInt d=true ↔ ∃i,d=.int i:=by cases d<;>simp[isInt]
def NR(K:wa):Sp:=λvs H Q _=>∃x0,vs=[x0] /\ ∃d,Is K H x0 d/\Q (.bl (a_ d)) H
theorem zrd(h:Is K H v d)(q:Q (.bl (a_ d)) H):NR K [v] H Q E:=⟨v,rfl,d,h,q⟩
local macro_rules | `(tactic| wtm_at "gs")=>`(tactic| ((with_reducible apply zrd); (focus wtm_at "is")))
theorem sj(T:Txt K mg a):aI P w K mg base aU 2 a.JK a.HS yN (NR K):=by
 refine T.nP.F.ok zrI ?_ ?_;wtm_at "b1"
 refine⟨_,(av (cg (PW.pt (fG (cN (cE (bQ (show aN _ (.builtin "isinstance") (fg K)from j5) rfl T.h0c jz (ae (pv 0) (ae (iS (v:=.ty "tuple") rfl T.h0i dU rfl) af))))) (gQ (cw (show aM _ (compareOp .NotEq) (ig K)from lz hu) (bQ (show aN _ (.builtin "len") (cO K)from dH) rfl T.h0o dM (ae (pv 0) af)) ao (bN _))))) (ay (aC cP)) ck)
     (av (cg (PW.pt (fG (cN (cE (ak (Gq T) hr T.tQ (ae (au (pv 0)) af)))) (gQ (cN (cE (ak (Gq T) hr T.tQ (ae (au (pv 0)) af))))))) (ay (aC cP)) ck)
     (ay (aC (fb (fj FR (au (pv 0)) ao (bN _)) (gc (fj (show aM _ (compareOp .Eq) (cR K)from dF hu) (ak (sH T) hr T.nN (ae (bQ mZ rfl T.h0q mT (ae (au (pv 0)) af)) (ae (au (pv 0)) af))) ao (bN _)))))))),?_⟩
 wtm_at "cl";rw[show start Dt [x0]=[some x0]from rfl];obtain⟨d,hd,q⟩:=h;k_few
 . rename_i e
   rw[zt7 e]at q;exact q
 . rename_i e
   obtain⟨ds,rfl⟩:=LF.mp e;refine kX hd ?_;k_few
   . rename_i e
     rw[ZS (by lia)]at q;exact q
   . rename_i e
     obtain⟨d0,d1,rfl⟩:∃d0 d1,ds=[d0,d1]:=by
       match ds,e with
       | [d0,d1],_=>exact⟨d0,d1,rfl⟩
       | [],e=>simp at e
       | [_],e=>simp at e
       | _::_::_::_,e=>simp at e;lia
     refine az (j:=0) hd rfl (λy0 h0=>?_);k_few
     . rename_i e
       rw[zrz e]at q;exact q
     . rename_i e0
       obtain⟨i,rfl⟩:=Ta.mp e0;refine az (j:=1) hd rfl (λy1 h1=>?_);k_few
       . rename_i e
         rw[zo3 e]at q;exact q
       . rename_i e1
         obtain⟨j,rfl⟩:=Ta.mp e1;refine az (j:=1) hd rfl (λy2 h2=>?_);cases aJ.mp h2;k_few
         . refine az (j:=0) hd rfl (λy3 h3=>?_)
           cases aJ.mp h3;o_head az (j:=1) hd rfl (λy4 h4=>?_);cases aJ.mp h4;o_head sa (by split<;>lia) (by lia) ?_;k_few
           have e3:a_ (.tuple [.int i,.int j])=decide ((vj (if i<0 then -i else i) j:Nat)=(1:Int)):=by
             have e4:vj (if i<0 then -i else i) j=vj i j:=by
               split<;>simp
             rw[e4]
             show iu i j=_
             rename_i e5;simp only[iu,e5,decide_true,qf];rw[vE,decide_eq_true_eq,decide_eq_true_eq];lia
           rw[e3]at q;exact q
         . rename_i e5
           have e3:a_ (.tuple [.int i,.int j])=false:=by
             show iu i j=false
             simp only[iu,e5,decide_false,vO]
           rw[e3]at q;exact q
def Lw(K:wa):Sp:=λvs H Q _=>∃x0 x1,vs=[x0,x1] /\ ∃(x y:Rat),Is K H x0 (N x)/\Is K H x1 (N y)/\ah 8999 x/\ah 8999 y /\ ∀v H',ag H H'->Is K H' v (N (x+y))->Q v H'
theorem Ys{w:V}(h1:Is K H v (N x))(h2:Is K H w (N y))(b1:ah 8999 x)(b2:ah 8999 y)(q:∀v H',ag H H'->Is K H' v (N (x+y))->Q v H'):Lw K [v,w] H Q E:=⟨_,_,rfl,x,y,h1,h2,b1,b2,q⟩
local macro_rules | `(tactic| wtm_at "gs")=>`(tactic| ((with_reducible apply Ys); (focus wtm_at "is"); (focus wtm_at "is"); (focus wtm_at "bdr"); (focus wtm_at "bdr"); intro _ _ _ _))
theorem hW(T:Txt K mg a):aI P w K mg base aU 2 a.plus a.Kh yK (Lw K):=by
 refine T.gr.F.ok uY ?_ ?_;wtm_at "b2"
 refine⟨_,(av (aA 2 uY.nd (ak (sH T) hr T.nN (ae (au (pv 0)) (ae (au (pv 1)) af))))
     (av (aA 3 uY.nd (aB cv (aB cV (au (pv 0)) (aB fN (au (pv 1)) (pv 2))) (aB cV (au (pv 1)) (aB fN (au (pv 0)) (pv 2)))))
     (av (aA 4 uY.nd (ak (sH T) hr T.nN (ae (bQ mZ rfl T.h0q mT (ae (pv 3) af)) (ae (pv 2) af))))
     (ay (aC (bC (ae (aB fN (pv 3) (pv 4)) (ae (aB cV (aB fN (au (pv 0)) (pv 2)) (aB fN (au (pv 1)) (pv 4))) af)))))))),?_⟩
 wtm_at "cl";rw[show start U3 [x0,x1]=[some x0,some x1,none,none,none]from rfl];obtain⟨x,y,hx,hy,⟨bx1,bx2⟩,⟨by1,by2⟩,q⟩:=h;have px:=den_pos x;have py:=den_pos y;have ps:=uF x y;have pd:=Bw x y;have c1:pe 0 (fO x y):=⟨by lia,sv bx2 (sM x y) px⟩;have c2:pe 0 (kf x y):=⟨by lia,sv (sv bx2 (sM x y) px) (CF x y) ps⟩;have f1:=mY by2 (Ao x y) ps;have f2:=mY bx2 (sM x y) ps;have f3:=mY by2 (qb (CF x y) (Ao x y)) pd;o_head sa (by lia) (by lia) ?_;rw[show((vj (x.den:Int) (y.den:Int):Nat):Int)=fO x y from rfl];k_few;rw[show x.num*(y.den:Int).fdiv (fO x y)+y.num*(x.den:Int).fdiv (fO x y)=lI x y from rfl];o_head sa (by split<;>lia) (by lia) ?_;rw[u0,show((vj (lI x y) (fO x y):Nat):Int)=kf x y from rfl];k_few;exact eY (zBe x y) (zAC x y) q
def Rj(K:wa):Sp:=λvs H Q _=>∃x0 x1,vs=[x0,x1] /\ ∃(x y:Rat),Is K H x0 (N x)/\Is K H x1 (N y)/\ah 8999 x/\ah 8999 y /\ ∀v H',ag H H'->Is K H' v (N (x-y))->Q v H'
theorem zye{w:V}(h1:Is K H v (N x))(h2:Is K H w (N y))(b1:ah 8999 x)(b2:ah 8999 y)(q:∀v H',ag H H'->Is K H' v (N (x-y))->Q v H'):Rj K [v,w] H Q E:=⟨_,_,rfl,x,y,h1,h2,b1,b2,q⟩
local macro_rules | `(tactic| wtm_at "gs")=>`(tactic| ((with_reducible apply zye); (focus wtm_at "is"); (focus wtm_at "is"); (focus wtm_at "bdr"); (focus wtm_at "bdr"); intro _ _ _ _))
theorem yV(T:Txt K mg a):aI P w K mg base aU 3 a.minus a.JX yS (Rj K):=by
 refine T.p5.F.ok zzt ?_ ?_;wtm_at "b2";refine⟨_,(ay (aC (ak (hW T) hr T.gr (ae (pv 0) (ae (bC (ae (fE fC (au (pv 1))) (ae (au (pv 1)) af))) af))))),?_⟩;wtm_at "cl";rw[show start Eo [x0,x1]=[some x0,some x1]from rfl];obtain⟨x,y,hx,hy,bx,by',q⟩:=h;o_head eY (r:=-y) (by simp) (by simp) (λv H' s hv=>?_);o_head Ys (by wtm_at "is") hv bx (zBC by') (λw H'' s2 hw=>?_);rw[zuN]at hw;k_few;exact q w H'' (s.trans s2) hw
def OU(K:wa):Sp:=λvs H Q _=>∃x0 x1,vs=[x0,x1] /\ ∃(x y:Rat),Is K H x0 (N x)/\Is K H x1 (N y)/\ah 8999 x/\ah 8999 y /\ ∀v H',ag H H'->Is K H' v (N (x*y))->Q v H'
theorem DD{w:V}(h1:Is K H v (N x))(h2:Is K H w (N y))(b1:ah 8999 x)(b2:ah 8999 y)(q:∀v H',ag H H'->Is K H' v (N (x*y))->Q v H'):OU K [v,w] H Q E:=⟨_,_,rfl,x,y,h1,h2,b1,b2,q⟩
local macro_rules | `(tactic| wtm_at "gs")=>`(tactic| ((with_reducible apply DD); (focus wtm_at "is"); (focus wtm_at "is"); (focus wtm_at "bdr"); (focus wtm_at "bdr"); intro _ _ _ _))
theorem mf(T:Txt K mg a):aI P w K mg base aU 2 a.times a.J0 u7 (OU K):=by
 refine T.ko.F.ok BN ?_ ?_;wtm_at "b2"
 refine⟨_,(av (aA 2 BN.nd (ak (sH T) hr T.nN (ae (bQ mZ rfl T.h0q mT (ae (au (pv 0)) af)) (ae (au (pv 1)) af))))
     (av (aA 3 BN.nd (ak (sH T) hr T.nN (ae (bQ mZ rfl T.h0q mT (ae (au (pv 1)) af)) (ae (au (pv 0)) af))))
     (ay (aC (bC (ae (aB cV (aB fN (au (pv 0)) (pv 2)) (aB fN (au (pv 1)) (pv 3))) (ae (aB cV (aB fN (au (pv 0)) (pv 3)) (aB fN (au (pv 1)) (pv 2))) af))))))),?_⟩
 wtm_at "cl";rw[show start NV [x0,x1]=[some x0,some x1,none,none]from rfl];obtain⟨x,y,hx,hy,⟨bx1,bx2⟩,⟨by1,by2⟩,q⟩:=h;have px:=den_pos x;have py:=den_pos y;have p1:=n_ x y;have p2:=n_ y x;have c1:pe 0 (g_ x y):=⟨by lia,sv by2 (oz x y) py⟩;have c2:pe 0 (g_ y x):=⟨by lia,sv bx2 (oz y x) px⟩;have f1:=mY bx1 (ym x y) p1;have f2:=mY by1 (ym y x) p2;have f3:=mY bx2 (oz y x) p2;have f4:=mY by2 (oz x y) p1;o_head sa (by split<;>lia) (by lia) ?_;rw[u0,show((vj x.num (y.den:Int):Nat):Int)=g_ x y from rfl];o_head sa (by split<;>lia) (by lia) ?_;rw[u0,show((vj y.num (x.den:Int):Nat):Int)=g_ y x from rfl];k_few;exact eY (zBB x y) (zAP x y) q
def NL(K:wa):Sp:=λvs H Q _=>∃x0 x1,vs=[x0,x1] /\ ∃(x y:Rat),Is K H x0 (N x)/\Is K H x1 (N y)/\ah 8999 x/\ah 8999 y/\y≠0 /\ ∀v H',ag H H'->Is K H' v (N (x / y))->Q v H'
theorem OG{w:V}(h1:Is K H v (N x))(h2:Is K H w (N y))(b1:ah 8999 x)(b2:ah 8999 y)(hy:y≠0)(q:∀v H',ag H H'->Is K H' v (N (x / y))->Q v H'):NL K [v,w] H Q E:=⟨_,_,rfl,x,y,h1,h2,b1,b2,hy,q⟩
theorem PU(T:Txt K mg a):aI P w K mg base aU 3 a.over a.Ke yf (NL K):=by
 refine T.Bm.F.ok O3 ?_ ?_;wtm_at "b2"
 refine⟨_,(av (cg (cw (show aM _ (compareOp .Eq) (cR K)from dF hu) (au (pv 1)) ao (bN _)) (ay Ei) ck)
     (av (aA 2 O3.nd (pz (cw oF (au (pv 1)) ao (bN _)) (bC (ae (au (pv 1)) (ae (au (pv 1)) af))) (bC (ae (fE fC (au (pv 1))) (ae (fE fC (au (pv 1))) af)))))
     (ay (aC (ak (mf T) hr T.ko (ae (pv 0) (ae (pv 2) af))))))),?_⟩
 wtm_at "cl";rw[show start S0 [x0,x1]=[some x0,some x1,none]from rfl];obtain⟨x,y,hx,hy,bx,by',hn,q⟩:=h;k_few
 . rename_i z
   exact absurd z (AB hn)
 . rename_i z0 z
   refine eY (r:=y⁻¹) (yY z).1.symm (yY z).2.symm (λv1 H1 S1 i1=>?_);o_head DD (hx.by S1) i1 bx (Uv by' hn) (λv2 H2 S2 i2=>?_);rw[<- QY]at i2;k_few;exact q v2 H2 (S1.trans S2) i2
 . rename_i z0 z
   have z:y.num<0:=by lia
   refine eY (r:=y⁻¹) (zJ z).1.symm (zJ z).2.symm (λv1 H1 S1 i1=>?_);o_head DD (hx.by S1) i1 bx (Uv by' hn) (λv2 H2 S2 i2=>?_);rw[<- QY]at i2;k_few;exact q v2 H2 (S1.trans S2) i2
def Yc(K:wa):Sp:=λvs H Q _=>∃x0 x1,vs=[x0,x1] /\ ∃(x y:Rat),Is K H x0 (N x)/\Is K H x1 (N y)/\ah 8999 x/\ah 8999 y/\Q (.bl (decide (x<y))) H
theorem zzU{w:V}(h1:Is K H v (N x))(h2:Is K H w (N y))(b1:ah 8999 x)(b2:ah 8999 y)(q:Q (.bl (decide (x<y))) H):Yc K [v,w] H Q E:=⟨_,_,rfl,x,y,h1,h2,b1,b2,q⟩
local macro_rules | `(tactic| wtm_at "gs")=>`(tactic| ((with_reducible apply zzU); (focus wtm_at "is"); (focus wtm_at "is"); (focus wtm_at "bdr"); (focus wtm_at "bdr")))
theorem iC(T:Txt K mg a):aI P w K mg base aU 1 a.less a.Kl zg (Yc K):=by
 refine T.gO.F.ok zAf ?_ ?_;wtm_at "b2";refine⟨_,(ay (aC (fj pB (aB cV (au (pv 0)) (au (pv 1))) (aB cV (au (pv 1)) (au (pv 0))) (bN _)))),?_⟩;wtm_at "cl";rw[show start DK [x0,x1]=[some x0,some x1]from rfl];obtain⟨x,y,hx,hy,⟨bx1,bx2⟩,⟨by1,by2⟩,q⟩:=h;k_few;rw[zDZ];exact q
def r8(x:Rat):Bool:=decide (0<x)&&(!decide (4<x))&&decide ((x.den:Int)<=8)
def Sz(K:wa):Sp:=λvs H Q _=>∃x0,vs=[x0] /\ ∃x:Rat,Is K H x0 (N x)/\ah 4000 x/\Q (.bl (r8 x)) H
theorem zrB(h:Is K H v (N x))(b:ah 4000 x)(q:Q (.bl (r8 x)) H):Sz K [v] H Q E:=⟨_,rfl,x,h,b,q⟩
local macro_rules | `(tactic| wtm_at "gs")=>`(tactic| ((with_reducible apply zrB); (focus wtm_at "is"); (focus wtm_at "bdr")))
theorem zqL(T:Txt K mg a):aI P w K mg base aU 2 a.JF a.Ih z6 (Sz K):=by
 refine T.IA.F.ok zqs ?_ ?_;wtm_at "b1";refine⟨_,(ay (aC (fb (ak (iC T) hr T.gO (ae (cB (v:=.ref a.dy) rfl T.ee rfl) (ae (pv 0) af))) (fb (pA (ak (iC T) hr T.gO (ae (cB (v:=.ref a.AU) rfl T.YC rfl) (ae (pv 0) af)))) (gc (fj nh (au (pv 0)) (mV rfl T.YE) (bN _))))))),?_⟩;wtm_at "cl";rw[show start CM [x0]=[some x0]from rfl];obtain⟨x,hx,bx,q⟩:=h;unfold r8 at q;k_few
 ·rename_i h1 h2
  rw[decide_eq_true h1,decide_eq_false h2]at q;exact q
 ·rename_i h1 h2
  rw[decide_eq_true h1,decide_eq_true h2]at q;exact q
 ·rename_i h1
  rw[decide_eq_false h1]at q;exact q
def p_(x:Rat):Bool:=(!decide (x<0))&&(!decide (1<x))&&decide ((x.den:Int)<=12)
def Le(K:wa):Sp:=λvs H Q _=>∃x0,vs=[x0] /\ ∃x:Rat,Is K H x0 (N x)/\ah 4000 x/\Q (.bl (p_ x)) H
theorem zsO(h:Is K H v (N x))(b:ah 4000 x)(q:Q (.bl (p_ x)) H):Le K [v] H Q E:=⟨_,rfl,x,h,b,q⟩
local macro_rules | `(tactic| wtm_at "gs")=>`(tactic| ((with_reducible apply zsO); (focus wtm_at "is"); (focus wtm_at "bdr")))
theorem ztt(T:Txt K mg a):aI P w K mg base aU 2 a.J6 a.Ir yR (Le K):=by
 refine T.IZ.F.ok zsQ ?_ ?_;wtm_at "b1";refine⟨_,(ay (aC (fb (pA (ak (iC T) hr T.gO (ae (pv 0) (ae (cB (v:=.ref a.dy) rfl T.ee rfl) af)))) (fb (pA (ak (iC T) hr T.gO (ae (cB (v:=.ref a.eO) rfl T.fI rfl) (ae (pv 0) af)))) (gc (fj nh (au (pv 0)) (mV rfl T.YG) (bN _))))))),?_⟩;wtm_at "cl";rw[show start Fc [x0]=[some x0]from rfl];obtain⟨x,hx,bx,q⟩:=h;unfold p_ at q;k_few
 ·rename_i h1 h2
  rw[decide_eq_false h1,decide_eq_false h2]at q;exact q
 ·rename_i h1 h2
  rw[decide_eq_false h1,decide_eq_true h2]at q;exact q
 ·rename_i h1
  rw[decide_eq_true h1]at q;exact q
def nH(x y:Rat):Bool:=r8 x&&p_ y && !decide (x+y<1)
def BX(K:wa):Sp:=λvs H Q _=>∃x0 x1,vs=[x0,x1]/\((∃d e,Is K H x0 d/\Is K H x1 e/\(a_ d&&a_ e)=false /\ ∀H',ag H H'->Q (.bl false) H')\/(∃x y:Rat,Is K H x0 (N x)/\Is K H x1 (N y)/\ah 1000 x/\ah 1000 y /\ ∀H',ag H H'->Q (.bl (nH x y)) H'))
theorem zpn{w:V}(h1:Is K H v d)(h2:Is K H w e)(n:(a_ d&&a_ e)=false)(q:∀H',ag H H'->Q (.bl false) H'):BX K [v,w] H Q E:=⟨_,_,rfl,.inl ⟨d,e,h1,h2,n,q⟩⟩
theorem zqD{w:V}(h1:Is K H v (N x))(h2:Is K H w (N y))(b1:ah 1000 x)(b2:ah 1000 y)(q:∀H',ag H H'->Q (.bl (nH x y)) H'):BX K [v,w] H Q E:=⟨_,_,rfl,.inr ⟨x,y,h1,h2,b1,b2,q⟩⟩
theorem zqJ(T:Txt K mg a):aI P w K mg base aU 3 a.Jv a.Ia zT (BX K):=by
 refine T.IF.F.ok zqV ?_ ?_;wtm_at "b2"
 refine⟨_,(av (cg (PW.pt (fG (cN (cE (ak (sj T) hr T.nP (ae (pv 0) af)))) (gQ (cN (cE (ak (sj T) hr T.nP (ae (pv 1) af))))))) (ay (aC cP)) ck)
     (ay (aC (fb (ak (zqL T) hr T.IA (ae (pv 0) af)) (fb (ak (ztt T) hr T.IZ (ae (pv 1) af)) (gc (pA (ak (iC T) hr T.gO (ae (ak (hW T) hr T.gr (ae (pv 0) (ae (pv 1) af))) (ae (cB (v:=.ref a.eO) rfl T.fI rfl) af)))))))))),?_⟩
 wtm_at "cl";rw[show start FG [x0,x1]=[some x0,some x1]from rfl];rcases h with⟨d,e,hd,he,hn,q⟩ | ⟨x,y,hx,hy,bx,by',q⟩
 . k_few
   . exact q _ (ag.refl _)
   . exact q _ (ag.refl _)
   . rename_i h1 h2
     exact absurd hn (by rw[h1,h2];decide)
 . unfold nH at q
   k_few
   . rename_i z;rw[sO]at z;cases z
   . rename_i z;rw[sO]at z;cases z
   . rename_i h1 h2 v H' S hv
     rw[h1,h2]at q;exact q _ S
   . rename_i h1 h2
     rw[h1,h2]at q;exact q _ (ag.refl _)
   . rename_i h1
     rw[h1]at q;exact q _ (ag.refl _)
def R3:PyData->Bool
 | .tuple [d,e]=>!(a_ d&&a_ e)
 | _=>true
theorem ztb(h:R3 (.tuple [d,e])=true):(a_ d&&a_ e)=false:=by
 have h:(!(a_ d&&a_ e))=true:=h;cases z:(a_ d&&a_ e)with
 | false=>rfl
 | true=>rw[z]at h;exact absurd h (by decide)
def U5(K:wa):Sp:=λvs H Q _=>∃x0,vs=[x0]/\((∃d,Is K H x0 d/\R3 d=true /\ ∀H',ag H H'->Q (.bl false) H')\/(∃x y:Rat,Is K H x0 (R x y)/\ah 1000 x/\ah 1000 y /\ ∀H',ag H H'->Q (.bl (nH x y)) H'))
theorem zuw(h:Is K H v (R x y))(b1:ah 1000 x)(b2:ah 1000 y)(q:∀H',ag H H'->Q (.bl (nH x y)) H'):U5 K [v] H Q E:=⟨_,rfl,.inr ⟨x,y,h,b1,b2,q⟩⟩
theorem zup(T:Txt K mg a):aI P w K mg base aU 4 a.Kr a.Jc uD (U5 K):=by
 refine T.JE.F.ok zt4 ?_ ?_;wtm_at "b1";refine⟨_,(ay (aC (fb (bQ (show aN _ (.builtin "isinstance") (fg K)from j5) rfl T.h0c jz (ae (pv 0) (ae (iS (v:=.ty "tuple") rfl T.h0i dU rfl) af))) (fb (fj (show aM _ (compareOp .Eq) (cR K)from dF hu) (bQ (show aN _ (.builtin "len") (cO K)from dH) rfl T.h0o dM (ae (pv 0) af)) ao (bN _)) (gc (ak (zqJ T) hr T.IF (ae (au (pv 0)) (ae (au (pv 0)) af)))))))),?_⟩;wtm_at "cl";rw[show start Gf [x0]=[some x0]from rfl];rcases h with⟨d,hd,hn,q⟩ | ⟨x,y,hr,bx,by',q⟩
 ·k_few
  ·rename_i e
   obtain⟨ds,rfl⟩:=LF.mp e;refine kX hd ?_;k_few
   ·rename_i e
    obtain⟨d0,d1,rfl⟩:∃d0 d1,ds=[d0,d1]:=by
     match ds,e with
     | [d0,d1],_=>exact⟨d0,d1,rfl⟩
     | [],e=>simp at e
     | [_],e=>simp at e
     | _::_::_::_,e=>simp at e;lia
    refine az (j:=0) hd rfl (λy0 h0=>?_);o_head az (j:=1) hd rfl (λy1 h1=>?_);o_head zpn h0 h1 (ztb hn) (λH' S=>?_);k_few;exact q _ S
   ·exact q _ (ag.refl _)
  ·exact q _ (ag.refl _)
 ·k_few
  refine zqD (by assumption) (by assumption) bx by' (λH' S=>?_);k_few;exact q _ S
def rD(x:Rat):Str:=if 1<x then "rising" else if x=1 then "even" else "falling"
def Sx(K:wa):Sp:=λvs H Q _=>∃x0,vs=[x0] /\ ∃x y:Rat,Is K H x0 (R x y)/\ah 4000 x/\Q (.str (rD x)) H
theorem Mv(h:Is K H v (R x y))(b:ah 4000 x)(q:Q (.str (rD x)) H):Sx K [v] H Q E:=⟨_,rfl,x,y,h,b,q⟩
theorem La(T:Txt K mg a):aI P w K mg base aU 2 a.K0 a.Kt zC (Sx K):=by
 refine T.Bo.F.ok ZD ?_ ?_;wtm_at "b1"
 refine⟨_,(av (cg (cE (ak (iC T) hr T.gO (ae (cB (v:=.ref a.eO) rfl T.fI rfl) (ae (au (pv 0)) af)))) (ay (aC dC)) ck)
     (av (cg (cw (show aM _ (compareOp .Eq) (cR K)from dF hu) (au (pv 0)) (cB (v:=.ref a.eO) rfl T.fI rfl) (bN _)) (ay (aC dC)) ck)
     (ay (aC dC)))),?_⟩
 wtm_at "cl";rw[show start Gx [x0]=[some x0]from rfl];obtain⟨x,y,hx,bx,q⟩:=h;unfold rD at q;k_few
 . rename_i h1
   rw[if_pos h1]at q;exact q
 . rename_i h1 _ _ h2
   rw[if_neg h1,if_pos h2]at q;exact q
 . rename_i h1 _ _ h2
   rw[if_neg h1,if_neg h2]at q;exact q
def C3(K:wa):Sp:=λvs H Q _=>∃x0 x1,vs=[x0,x1] /\ ∃(a b:Rat)(n:Int),x1=.int n/\Is K H x0 (R a b)/\ah 4000 a/\ah 4000 b/\0<=n/\n<=64/\(∀i,i<=n.toNat->ah 4000 (a^i))/\(∀i,i<=n.toNat->ah 4000 (aE a b i)) /\ ∀v H',ag H H'->Is K H' v (R (a^n.toNat) (aE a b n.toNat))->Q v H'
theorem Ml{a:Rat}{n:Int}(h1:Is K H v (R a b))(b1:ah 4000 a)(b2:ah 4000 b)(h0:0<=n)(h64:n<=64)(f1:∀i,i<=n.toNat->ah 4000 (a^i))(f2:∀i,i<=n.toNat->ah 4000 (aE a b i))(q:∀v H',ag H H'->Is K H' v (R (a^n.toNat) (aE a b n.toNat))->Q v H'):C3 K [v,.int n] H Q E:=⟨_,_,rfl,a,b,n,rfl,h1,b1,b2,h0,h64,f1,f2,q⟩
theorem Cw{a:Rat}{n:Int}(h1:Is K H v (R a b))(b1:ah 10 a)(b2:ah 10 b)(h0:0<=n)(h64:n<=64)(q:∀v H',ag H H'->Is K H' v (R (a^n.toNat) (aE a b n.toNat))->Q v H'):C3 K [v,.int n] H Q E :=
 Ml h1 (b1.mono (by decide)) (b2.mono (by decide)) h0 h64 (λi hi=>(b1.pow i).mono (by lia)) (λi hi=>(b1.aE b2 i).mono (by lia)) q
theorem zo(T:Txt K mg a):aI P w K mg base aU 3 a.Ky a.Jt zI (C3 K):=by
 refine T.pZ.F.ok pW ?_ ?_;wtm_at "b2"
 refine⟨_,(av (aA 2 pW.nd (cB (v:=.ref a.eO) rfl T.fI rfl))
     (av (aA 3 pW.nd (cB (v:=.ref a.dy) rfl T.ee rfl))
     (av (gD vd rfl (jo rfl T.h0j (ae (pv 1) af)) (bP (i:=4) pW.nd rfl (Or.inl rfl)) (av (aA 2 pW.nd (ak (mf T) hr T.ko (ae (au (pv 0)) (ae (pv 2) af))))
     (ay (aA 3 pW.nd (ak (hW T) hr T.gr (ae (ak (mf T) hr T.ko (ae (au (pv 0)) (ae (pv 3) af))) (ae (au (pv 0)) af)))))))
     (ay (aC (bC (ae (pv 2) (ae (pv 3) af)))))))),?_⟩
 wtm_at "cl";rw[show start Sd [x0,x1]=[some x0,some x1,none,none,none]from rfl];obtain⟨r,s',n,rfl,hr',ba,bb,h0,h64,f1,f2,q⟩:=h;o_head ku (n:=n) (by lia) (by lia) (λi σ H'=>∃(f g:V)(o:Option V),σ = [some x0,some (.int n),some f,some g,o]/\ag H H'/\Is K H' f (N (r^i))/\Is K H' g (N (aE r s' i))) ⟨_,_,_,rfl,ag.refl H,by rw[VY];exact sG.mpr ⟨_,rfl,T.uu H⟩,sG.mpr ⟨_,rfl,T.fq H⟩⟩ ?_ ?_
 . rintro i σ H' hi ⟨f,g,o,rfl,S1,hf,hg⟩
   have hr1:=hr'.by S1;have bf:ah 4000 (r^i):=f1 i (by lia);have bg:ah 4000 (aE r s' i):=f2 i (by lia);have bg2:ah 8999 (r*aE r s' i):=(ba.mul bg).mono (by decide);o_head ⟨_,_,_,rfl,S1.trans (ag.trans (by assumption) (ag.trans (by assumption) (by assumption))),?_,?_⟩
   . rw[Wx,qA]
     wtm_at "is"
   . wtm_at "is"
 . rintro σ H' ⟨f,g,o,rfl,S1,hf,hg⟩
   wtm_at "ga";exact q _ _ (S1.trans (by assumption)) (by assumption)
def TQ(K:wa):Sp:=λvs H Q _=>∃x0 x1,vs=[x0,x1] /\ ∃(f g x:Rat),Is K H x0 (R f g)/\Is K H x1 (N x)/\ah 700 f/\ah 1500 g/\ah 8100 x /\ ∀v H',ag H H'->Is K H' v (N (f*x+g))->Q v H'
theorem Sw{f g:Rat}{w:V}(h1:Is K H v (R f g))(h2:Is K H w (N x))(b1:ah 700 f)(b2:ah 1500 g)(b3:ah 8100 x)(q:∀v H',ag H H'->Is K H' v (N (f*x+g))->Q v H'):TQ K [v,w] H Q E:=⟨_,_,rfl,f,g,x,h1,h2,b1,b2,b3,q⟩
theorem UU(T:Txt K mg a):aI P w K mg base aU 3 a.JA a.H_ Ak (TQ K):=by
 refine T.A7.F.ok zq3 ?_ ?_;wtm_at "b2";refine⟨_,(ay (aC (ak (hW T) hr T.gr (ae (ak (mf T) hr T.ko (ae (au (pv 0)) (ae (pv 1) af))) (ae (au (pv 0)) af))))),?_⟩;wtm_at "cl";rw[show start CI [x0,x1]=[some x0,some x1]from rfl];obtain⟨f,g,x,hp,hx,bf,bg,bx,q⟩:=h;k_few;rename_i hz;exact q _ _ (ag.trans (by assumption) (by assumption)) hz
def yd(K:wa):Sp:=λvs H Q _=>∃x0,vs=[x0]/\((∃d,Is K H x0 d/\a_ d=false/\Q (.bl false) H)\/(∃x:Rat,Is K H x0 (N x)/\ah 4000 x/\Q (.bl (kr x)) H))
theorem zqF(h:Is K H v d)(n:a_ d=false)(q:Q (.bl false) H):yd K [v] H Q E:=⟨_,rfl,.inl ⟨d,h,n,q⟩⟩
theorem zsC(h:Is K H v (N x))(b:ah 4000 x)(q:Q (.bl (kr x)) H):yd K [v] H Q E:=⟨_,rfl,.inr ⟨x,h,b,q⟩⟩
theorem ztr(T:Txt K mg a):aI P w K mg base aU 3 a.J9 a.Iw zc (yd K):=by
 refine T.Jm.F.ok zte ?_ ?_;wtm_at "b1"
 refine⟨_,(av (cg (PW.pt (fG (cN (cE (ak (sj T) hr T.nP (ae (pv 0) af)))) (gQ (cE (ak (iC T) hr T.gO (ae (pv 0) (ae (cB (v:=.ref a.dy) rfl T.ee rfl) af))))))) (ay (aC cP)) ck)
     (ay (aC (fb (ak (iC T) hr T.gO (ae (pv 0) (ae (cB (v:=.ref a.eO) rfl T.fI rfl) af))) (gc (fj nh (au (pv 0)) (mV rfl T.YF) (bN _))))))),?_⟩
 wtm_at "cl";rw[show start F0 [x0]=[some x0]from rfl];rcases h with⟨d,hd,hn,q⟩ | ⟨x,hx,bx,q⟩
 . k_few
   . exact q
   . rename_i e;rw[hn]at e;cases e
 . unfold kr at q
   k_few
   . rename_i z;rw[sO]at z;cases z
   . rename_i h1
     rw[decide_eq_true h1]at q;exact q
   . rename_i h1 h2
     rw[decide_eq_false h1,decide_eq_true h2]at q;exact q
   . rename_i h1 h2
     rw[decide_eq_false h1,decide_eq_false h2]at q;exact q
def gF:PyData->Bool
 | .tuple [.int p,.int q]=>iu p q&&kr (wr p q)
 | _=>false
theorem OD(x:Rat):gF (N x)=kr x:=by
 show(iu x.num x.den&&kr (wr x.num x.den))=kr x
 rw[RX,WI,qf]
theorem zuJ(h:a_ d=true):∃x:Rat,d=N x:=by
 match d with
 | .tuple [.int p,.int q] =>
  obtain⟨r,e1,e2⟩:=zrF (show iu p q=true from h);exact⟨r,by rw[e1,e2];rfl⟩
 | .none=>simp[a_]at h
 | .bool _=>simp[a_]at h
 | .int _=>simp[a_]at h
 | .str _=>simp[a_]at h
 | .list _=>simp[a_]at h
 | .dict _=>simp[a_]at h
 | .tuple []=>simp[a_]at h
 | .tuple [_]=>simp[a_]at h
 | .tuple (_::_::_::_)=>simp[a_]at h
 | .tuple [.none,_]=>simp[a_]at h
 | .tuple [.bool _,_]=>simp[a_]at h
 | .tuple [.str _,_]=>simp[a_]at h
 | .tuple [.tuple _,_]=>simp[a_]at h
 | .tuple [.list _,_]=>simp[a_]at h
 | .tuple [.dict _,_]=>simp[a_]at h
 | .tuple [.int _,.none]=>simp[a_]at h
 | .tuple [.int _,.bool _]=>simp[a_]at h
 | .tuple [.int _,.str _]=>simp[a_]at h
 | .tuple [.int _,.tuple _]=>simp[a_]at h
 | .tuple [.int _,.list _]=>simp[a_]at h
 | .tuple [.int _,.dict _]=>simp[a_]at h
theorem zA6(h:a_ d=false):gF d=false:=by
 unfold gF
 split
 ·rename_i p q
  rw[show iu p q=false from h];rfl
 ·rfl
theorem LC(h:Is K H v d)(b:∀x,d=N x->ah 4000 x)(q:Q (.bl (gF d)) H):yd K [v] H Q E:=by
 cases e:a_ d with
 | false=>rw[zA6 e]at q;exact zqF h e q
 | true =>
  obtain⟨x,rfl⟩:=zuJ e;rw[OD]at q;exact zsC h (b x rfl) q
def S_(K:wa):Sp:=λvs H Q _=>∃x0,vs=[x0]/\((∃d,Is K H x0 d/\(mv d || fk d)=false /\ ∀H',ag H H'->Q (.bl false) H')\/(∃ds,(Is K H x0 (.list ds)\/Is K H x0 (.tuple ds))/\(∀e∈ds,∀x,e=N x->ah 4000 x) /\ ∀H',ag H H'->Q (.bl (decide (1<=ds.length)&&decide (ds.length<=8)&&ds.all gF)) H'))
theorem zpe(h:Is K H v (.list ds)\/Is K H v (.tuple ds))(b:∀e∈ds,∀x,e=N x->ah 4000 x)(q:∀H',ag H H'->Q (.bl (decide (1<=ds.length)&&decide (ds.length<=8)&&ds.all gF)) H'):S_ K [v] H Q E:=⟨_,rfl,.inr ⟨ds,h,b,q⟩⟩
theorem zpp(T:Txt K mg a):aI P w K mg base aU 4 a.Jd a.Hu Af (S_ K):=by
 refine T.HY.F.ok zpk ?_ ?_;wtm_at "b1"
 refine⟨_,(av (cg (PW.pt (fG (cN (cE (bQ (show aN _ (.builtin "isinstance") (B8 K)from ztS) rfl T.h0c jz (ae (pv 0) (ae (bC (ae (iS (v:=.ty "list") rfl T.h0l kF rfl) (ae (iS (v:=.ty "tuple") rfl T.h0i dU rfl) af))) af))))) (gQ (cN (zyq nh nh ao (bQ (show aN _ (.builtin "len") (cO K)from dH) rfl T.h0o dM (ae (pv 0) af)) (mV rfl T.YI)))))) (ay (aC cP)) ck)
     (ay (aC (bQ (show aN _ (.builtin "all") (mj K)from pb rfl) rfl T.h0s pO (ae (dS rfl (cK.by (N':=["one"]) (src:=[none]) rfl (by kernel_rfl)) (TL (pv 0)) (λ_ _ _ _ _=>(bP (i:=0) (of_decide_eq_true (by kernel_rfl)) rfl (Or.inl rfl))) (λ_ _ _ _ _=>dw) (λ_ _ _ _ _=>(ak (ztr (K:=K) (mg:=mg) (a:=a) T) hr T.Jm (ae (pv 0) af)))) af))))),?_⟩
 wtm_at "cl";rw[show start Er [x0]=[some x0]from rfl];rcases h with⟨d,hd,hn,q⟩ | ⟨ds,hd,bd,q⟩
 . k_few
   refine e_ (by simp) (λtp H1 _ S1 e1=>?_);o_head Ef (hd.by S1) e1 ?_;rw[hn];k_few;exact q H1 S1
 . rcases hd with hd | hd
   . k_few
     refine e_ (by simp) (λtp H1 _ S1 e1=>?_);o_head Ef (hd.by S1) e1 ?_;rw[show(mv (.list ds) || fk (.list ds))=true from rfl];obtain⟨ap,us,rfl,hs,tu⟩:=cu.mp (hd.by S1);have hul:=tu.length;o_head gv hs ?_;rw[hul];k_few
     . rename_i z0 z
       have:=q H1 S1;rw[decide_eq_false (show ¬ ds.length<=8 by lia),Wm,vO]at this;exact this
     . rename_i z0 z
       have h1:1<=ds.length:=by lia
       have h8:ds.length<=8:=by lia
       refine .inl (iY (o0:=none) (tl:=[]) hs rfl (λj y H'=>y=.bl (gF (ds.getD j .none))) ?_ ?_)
       . intro D i x ys o H2 hx inv
         obtain⟨hi,ix⟩:=gC tu hx;o_head LC (ix.by inv.same) (λx e=>bd _ (getD_mem hi) x e) ?_;k_few;exact dB inv (by lia) (λ_ _ _ _ _ z=>z) ⟨_,rfl⟩ (ag.refl _) rfl
       . intro D ys H2 hn S2 hD hl hr
         have hys:ys=(ds.map gF).map V.bl:=by
           refine VA (by rw[hl,hul,wl,wl]) λj h1 h2=>?_
           have:=hr j ys[j] (wc h1);rw[this,VB,VB,wb,wc]
           rfl
         subst hys;o_head nM (.of hD) ?_;k_few;have e:(ds.map gF).all id=ds.all gF:=by rw[qP];rfl
         have:=q H2 (S1.trans S2);rw[decide_eq_true h1,decide_eq_true h8,<- e]at this;exact this
     . rename_i z
       have:=q H1 S1;rw[decide_eq_false (show ¬ 1<=ds.length by lia),vO,vO]at this;exact this
   . k_few
     refine e_ (by simp) (λtp H1 _ S1 e1=>?_);o_head Ef (hd.by S1) e1 ?_;rw[show(mv (.tuple ds) || fk (.tuple ds))=true from rfl];obtain⟨ap,us,rfl,hs,tu⟩:=cb.mp (hd.by S1);have hul:=tu.length;o_head RH hs ?_;rw[hul];k_few
     . rename_i z0 z
       have:=q H1 S1;rw[decide_eq_false (show ¬ ds.length<=8 by lia),Wm,vO]at this;exact this
     . rename_i z0 z
       have h1:1<=ds.length:=by lia
       have h8:ds.length<=8:=by lia
       refine .inr (iX (o0:=none) (tl:=[]) hs rfl (λj y H'=>y=.bl (gF (ds.getD j .none))) ?_ ?_)
       . intro D i x ys o H2 hx inv
         obtain⟨hi,ix⟩:=gC tu hx;o_head LC (ix.by inv.same) (λx e=>bd _ (getD_mem hi) x e) ?_;k_few;exact dB inv (by lia) (λ_ _ _ _ _ z=>z) ⟨_,rfl⟩ (ag.refl _) rfl
       . intro D ys H2 hn S2 hD hl hr
         have hys:ys=(ds.map gF).map V.bl:=by
           refine VA (by rw[hl,hul,wl,wl]) λj h1 h2=>?_
           have:=hr j ys[j] (wc h1);rw[this,VB,VB,wb,wc]
           rfl
         subst hys;o_head nM (.of hD) ?_;k_few;have e:(ds.map gF).all id=ds.all gF:=by rw[qP];rfl
         have:=q H2 (S1.trans S2);rw[decide_eq_true h1,decide_eq_true h8,<- e]at this;exact this
     . rename_i z
       have:=q H1 S1;rw[decide_eq_false (show ¬ 1<=ds.length by lia),vO,vO]at this;exact this
theorem zw0{a:Rat}(h:aZ a b):nH a b=true:=by
 obtain⟨h1,h2,h3,h4,h5,h6,h7⟩:=h;have k2:¬ (4:Rat)<a:=Vp.mpr h2;have k4:¬ b<0:=Vp.mpr h4;have k5:¬ (1:Rat)<b:=Vp.mpr h5;have k7:¬ a+b<1:=Vp.mpr h7;have k3:(a.den:Int)<=8:=by lia
 have k6:(b.den:Int)<=12:=by lia
 simp[nH,r8,p_,h1,k2,k3,k4,k5,k6,k7]
theorem zCp(h:∀x∈xs,fH x):(xs.map N).all gF=true:=by
 rw[vZ];intro d hd;obtain⟨x,hx,rfl⟩:=wP.mp hd;rw[OD];exact(h x hx).is
theorem zAZ(h:∀x∈xs,fH x):∀e∈xs.map N,∀x,e=N x->ah 4000 x:=by
 intro e he x hx;obtain⟨y,hy,rfl⟩:=wP.mp he;rw[<- zDx hx];exact(h y hy).dQ.mono (by decide)
def SI(K:wa):Sp:=λvs H Q _=>∃x0 x1,vs=[x0,x1] /\ ∃(a b:Rat)(xs:List Rat),Is K H x0 (R a b)/\aZ a b/\(Is K H x1 (LN xs)\/Is K H x1 (TN xs))/\1<=xs.length/\xs.length<=8/\(∀x∈xs,fH x) /\ ∀v H',ag H H'->Is K H' v (bL a b xs)->Q v H'
theorem RD{a:Rat}{w:V}(h1:Is K H v (R a b))(ok:aZ a b)(h2:Is K H w (LN xs)\/Is K H w (TN xs))(h3:1<=xs.length)(h4:xs.length<=8)(h5:∀x∈xs,fH x)(q:∀v H',ag H H'->Is K H' v (bL a b xs)->Q v H'):SI K [v,w] H Q E:=⟨_,_,rfl,a,b,xs,h1,ok,h2,h3,h4,h5,q⟩
theorem Nv(T:Txt K mg a):aI P w K mg base aU 5 a.J7 a.IS zP (SI K):=by
 refine T.Ba.F.ok Zm ?_ ?_;wtm_at "b2"
 refine⟨_,(av (cg (cN (cE (ak (zup T) hr T.JE (ae (pv 0) af)))) (ay Ei) ck)
     (av (cg (cN (cE (ak (zpp T) hr T.HY (ae (pv 1) af)))) (ay Ei) ck)
     (ay (aC (bC (ae (pv 0) (ae (dW (show aN _ (.type "tuple") (eH K)from ft) rfl T.h0i dU (ae (pv 1) af)) af))))))),?_⟩
 wtm_at "cl";rw[show start BZ [x0,x1]=[some x0,some x1]from rfl];obtain⟨ra,rb,xs,hr,ok,hp,h1,h8,hph,q⟩:=h;o_head zuw hr (ok.ba.mono (by decide)) (ok.bb.mono (by decide)) (λH1 S1=>?_);rw[zw0 ok];k_few;have hp1:Is K H1 x1 (LN xs)\/Is K H1 x1 (TN xs):=hp.imp (λz=>z.by S1) (λz=>z.by S1);refine zpe (ds:=xs.map N) hp1 (zAZ hph) (λH2 S2=>?_);rw[zCp hph,wl,decide_eq_true h1,decide_eq_true h8,show(true&&true&&true)=true from rfl];have hp2:Is K H2 x1 (LN xs)\/Is K H2 x1 (TN xs):=hp1.imp (λz=>z.by S2) (λz=>z.by S2);have hr2:Is K H2 x0 (R ra rb):=(hr.by S1).by S2;k_few;rcases hp2 with z | z
 . refine iR z (λw H3 S3 i3=>?_)
   o_head bW (ds:=[R ra rb,TN xs]) (by simp) (.cons (hr2.by S3) (.cons i3 .nil)) (λv H4 S4 i4=>?_);exact q v H4 (S1.trans (S2.trans (S3.trans S4))) i4
 . refine TX z ?_
   o_head bW (ds:=[R ra rb,TN xs]) (by simp) (.cons hr2 (.cons z .nil)) (λv H4 S4 i4=>?_);exact q v H4 (S1.trans (S2.trans S4)) i4
def O5(K:wa):Sp:=λvs H Q _=>∃x0,vs=[x0] /\ ∃xs:List Rat,(Is K H x0 (LN xs)\/Is K H x0 (TN xs))/\1<=xs.length/\(∀i,ah 4000 (xs.getD i 0)) /\ ∀v,Is K H v (N (cC xs))->Q v H
theorem Ti(h:Is K H v (LN xs)\/Is K H v (TN xs))(h1:1<=xs.length)(b:∀i,ah 4000 (xs.getD i 0))(q:∀v,Is K H v (N (cC xs))->Q v H):O5 K [v] H Q E:=⟨_,rfl,xs,h,h1,b,q⟩
theorem NO(T:Txt K mg a):aI P w K mg base aU 2 a.JU a.ID yG (O5 K):=by
 refine T.Bb.F.ok Ai ?_ ?_;wtm_at "b1"
 refine⟨_,(av (aA 1 Ai.nd (au (pv 0)))
     (av (gD vd rfl (TL (pv 0)) (bP (i:=2) Ai.nd rfl (Or.inl rfl)) (ay (cg (cE (ak (iC T) hr T.gO (ae (pv 1) (ae (pv 2) af)))) (ay (aA 1 Ai.nd (pv 2))) ck)))
     (ay (aC (pv 1))))),?_⟩
 wtm_at "cl";rw[show start MP [x0]=[some x0,none,none]from rfl];obtain⟨xs,hx,h1,bx,q⟩:=h;rcases hx with hx | hx
 . obtain⟨ap,us,rfl,hs,tu⟩:=cu.mp hx
   have hul:us.length=xs.length:=by rw[tu.length,wl]
   o_head lH hx (by decide) (by lia) (λv0 i0=>?_);have i0:Is K H v0 (N (mx (xs.getD 0 0) [])):=i0;o_head .inl (oS hs (λi σ H'=>∃o v,σ = [some (.ref ap),some v,o]/\H'=H/\Is K H v (N (mx (xs.getD 0 0) (xs.take i)))) ⟨_,v0,rfl,rfl,by rw[xg];exact i0⟩ (λi σ H' _ h=>by obtain⟨_,_,_,rfl,_⟩:=h;exact hs) ?_ ?_)
   . rintro i x σ H' hx' ⟨o,v,rfl,rfl,iv⟩
     obtain⟨hi,ix⟩:=dJ tu hx';have b1:=Ob bx h1 i;have b2:=bx i;k_few
     . rename_i z
       exact⟨_,x,rfl,rfl,by rw[pM hi,uK,if_pos z];exact ix⟩
     . rename_i z
       exact⟨_,v,rfl,rfl,by rw[pM hi,uK,if_neg z];exact iv⟩
   . rintro σ H' ⟨o,v,rfl,rfl,iv⟩
     rw[hul,Wi]at iv;k_few;exact q v iv
 . obtain⟨ap,us,rfl,hs,tu⟩:=cb.mp hx
   have hul:us.length=xs.length:=by rw[tu.length,wl]
   o_head zBl hx (by decide) (by lia) (λv0 i0=>?_);have i0:Is K H v0 (N (mx (xs.getD 0 0) [])):=i0;o_head .inr (zwJ hs (λi σ H'=>∃o v,σ = [some (.ref ap),some v,o]/\H'=H/\Is K H v (N (mx (xs.getD 0 0) (xs.take i)))) ⟨_,v0,rfl,rfl,by rw[xg];exact i0⟩ (λi σ H' _ h=>by obtain⟨_,_,_,rfl,_⟩:=h;exact hs) ?_ ?_)
   . rintro i x σ H' hx' ⟨o,v,rfl,rfl,iv⟩
     obtain⟨hi,ix⟩:=dJ tu hx';have b1:=Ob bx h1 i;have b2:=bx i;k_few
     . rename_i z
       exact⟨_,x,rfl,rfl,by rw[pM hi,uK,if_pos z];exact ix⟩
     . rename_i z
       exact⟨_,v,rfl,rfl,by rw[pM hi,uK,if_neg z];exact iv⟩
   . rintro σ H' ⟨o,v,rfl,rfl,iv⟩
     rw[hul,Wi]at iv;k_few;exact q v iv
def PY(K:wa):Sp:=λvs H Q _=>∃x0 x1,vs=[x0,x1] /\ ∃(xs:List Rat)(v:Rat),Is K H x0 (TN xs)/\Is K H x1 (N v)/\xs.length<=900 /\ ∀u H',ag H H'->Is K H' u (TW (gG xs v))->Q u H'
theorem ztl{v:Rat}{w:V}(h1:Is K H w (TN xs))(h2:Is K H u (N v))(hl:xs.length<=900)(q:∀u H',ag H H'->Is K H' u (TW (gG xs v))->Q u H'):PY K [w,u] H Q E:=⟨_,_,rfl,xs,v,h1,h2,hl,q⟩
theorem Zn(T:Txt K mg a):aI P w K mg base aU 1 a.J4 a.Iv yF (PY K):=by
 refine T.Jr.F.ok zsc ?_ ?_;wtm_at "b2";refine⟨_,(ay (aC (dW (show aN _ (.type "tuple") (eH K)from ft) rfl T.h0i dU (ae (dS rfl (cK.by (N':=["worm","own","phase"]) (src:=[none,none,some 1]) rfl (by kernel_rfl)) (Ui rfl T.h0d (ae (pv 0) af)) (λ_ _ _ _ _=>by exact(show PG _ _ (oY K 2 _)from oo (n:=2) rfl (iP (bP (i:=0) (of_decide_eq_true (by kernel_rfl)) rfl (Or.inl rfl)) (iP (bP (i:=1) (of_decide_eq_true (by kernel_rfl)) rfl (Or.inl rfl)) pD)))) (λ_ _ _ _ _=>(yq (cw (show aM _ (compareOp .Eq) (cR K)from dF hu) (pv 1) (pv 2) (bN _)))) (λ_ _ _ _ _=>(pv 0))) af)))),?_⟩;wtm_at "cl";rw[show start DY [x0,x1]=[some x0,some x1]from rfl];obtain⟨xs,v,hx,hv,hl,q⟩:=h;obtain⟨ap,us,rfl,hu',tu⟩:=cb.mp hx;have hul:us.length=xs.length:=by rw[tu.length,wl]
 o_head zsD hu' (λD i ys σ' H'=>(∃o1 o2,σ'=[o1,o2,some x1])/\H D=none/\ag H H'/\H' D=some (.lst (vz ((wp i).filter λw=>decide (xs.getD w 0=v))))) (λD H' n s e=>⟨⟨_,_,rfl⟩,n,s,e⟩) (λD i ys σ' H' h=>h.2.2.1.j6 hu') ?_ ?_
 ·rintro D i x ys σ' H1 c H2 hx' ⟨⟨o1,o2,rfl⟩,n,S1,e1⟩ hc S2 e2
  obtain⟨hi,ix⟩:=dJ tu hx';have T2:=S1.trans S2;have ix2:=ix.by T2;have hv2:=hv.by T2;have e12:=S2 _ _ e1
  have hfl:((wp i).filter λw=>decide (xs.getD w 0=v)).length<=i:=by
   have:=Wv (λw=>decide (xs.getD w 0=v)) (wp i);rw[vD]at this;exact this
  refine nJ (.of e2) rfl ?_;k_few
  ·rename_i z
   refine nj e12 (by rw[kx];lia) (λH6 E6 e6=>⟨⟨_,_,rfl⟩,n,T2.grow n E6,?_⟩);rw[Py (n:=i),decide_eq_true z,if_pos rfl,Cb];exact e6
  ·rename_i z
   refine⟨[],⟨_,_,rfl⟩,n,T2,?_⟩;rw[Py (n:=i),decide_eq_false z,if_neg (by decide),vW];exact e12
 ·rintro D ys σ' H1 ⟨_,n,S1,e1⟩
  rw[hul]at e1;o_head pN (.of e1) (λl H2 n2 S2 e3=>?_);exact q _ H2 (S1.trans S2) (El.mpr ⟨l,rfl,.of e3⟩)
def Ro(K:wa):Sp:=λvs H Q _=>∃x0,vs=[x0] /\ ∃(a b:Rat)(xs:List Rat),Is K H x0 (bL a b xs)/\xs.length<=8/\(∀i,ah 4000 (xs.getD i 0)) /\ ∀l H' us,H l=none->ag H H'->H' l=some (.lst us)->ai K H' us ((ar xs).map (kP xs))->Q (.ref l) H'
theorem MX{a:Rat}(h:Is K H v (bL a b xs))(h8:xs.length<=8)(bx:∀i,ah 4000 (xs.getD i 0))(q:∀l H' us,H l=none->ag H H'->H' l=some (.lst us)->ai K H' us ((ar xs).map (kP xs))->Q (.ref l) H'):Ro K [v] H Q E:=⟨_,rfl,a,b,xs,h,h8,bx,q⟩
theorem zub(b:∀i,ah m (xs.getD i 0))(h:x∈xs):ah m x:=by
 obtain⟨j,hj,rfl⟩:=wY h;have:=b j;rw[wb,wc hj]at this;exact this
theorem zwK{β:Type}(f : α -> β)(l:List α):(!(l.map f).isEmpty) = !l.isEmpty:=by cases l<;>rfl
theorem UM(T:Txt K mg a):aI P w K mg base aU 3 a.KH a.JL Al (Ro K):=by
 refine T.Bh.F.ok rE ?_ ?_;wtm_at "b1"
 refine⟨_,(av (aA 1 rE.nd (d4 af))
     (av (aA 2 rE.nd (dW (show aN _ (.type "list") (ke K)from oj) rfl T.h0l kF (ae (au (pv 0)) af)))
     (av (oQ vd (Ar (pv 2)) (av (aA 3 rE.nd (ak (NO T) hr T.Bb (ae (pv 2) af)))
     (av (ki (jZ vP vM vN jC (pv 1) (ae (bC (ae (pv 3) (ae (ak (Zn T) hr T.Jr (ae (au (pv 0)) (ae (pv 3) af))) af))) af)))
     (ay (mR (i:=2) rE.nd rfl (Or.inl rfl) rfl (cK.by (N':=["other","phase"]) (src:=[none,some 3]) rfl (by kernel_rfl)) (fe (pv 2)) (λ_ _ _ _ _=>(bP (i:=0) (of_decide_eq_true (by kernel_rfl)) rfl (Or.inl rfl))) (λ_ _ _ _ _=>(yq (cw (show aM _ (compareOp .NotEq) (ig K)from lz hu) (pv 0) (pv 1) (bN _)))) (λ_ _ _ _ _=>(pv 0)))))))
     (ay (aC (pv 1)))))),?_⟩
 wtm_at "cl";rw[show start Lo [x0]=[some x0,none,none,none]from rfl];obtain⟨ra,rb,xs,hw,h8,bx,q⟩:=h;o_head cS (by simp) (λlt H1 n1 S1 e1=>?_);o_head az (j:=1) (hw.by S1) rfl (λvp ip=>?_);o_head rQ ip (λll H2 us n2 S2 e2 t2=>?_);have nlt:ll≠lt:=λz=>by subst z;rw[e1]at n2;cases n2
 o_head uC (λm σ' H'=>∃(ll:wf)(left done:List Rat)(us ws:List V)(f:Nat)(o3:Option V),σ'=[some x0,some (.ref lt),some (.ref ll),o3]/\m=left.length/\ag H H'/\ll≠lt/\H' lt=some (.lst ws)/\ai K H' ws (done.map (kP xs))/\H' ll=some (.lst us)/\ai K H' us (left.map N)/\(∀y∈left,y∈xs)/\left.length<=f/\done.length+left.length<=xs.length/\done++jE f left=ar xs) _ ⟨ll,xs,[],us,[],xs.length,_,rfl,rfl,S1.trans S2,nlt,S2 _ _ e1,.nil,e2,t2,λy h=>h,wn _,by simp,rfl⟩ ?_;rintro m σ' H3 ⟨ll,left,done,us,ws,f,o3,rfl,rfl,S3,nl,et,tt',el,tl',sub,hf,hdl,heq⟩;o_head Fj (dN el tl') ?_;rw[zwK]
 by_cases he:left=[]
 . rw[show(!left.isEmpty)=false by rw[he];rfl]
   refine oA ?_;rw[he,Cv,vW]at heq;rw[heq]at tt';k_few;exact q lt H3 ws n1 S3 et tt'
 . rw [show (!left.isEmpty) = true by cases left with
       | nil=>exact absurd rfl he
       | cons y l=>rfl]
   refine pT ?_;refine z8 ?_;have hpos:=VF.mpr he
   have bl:∀i,ah 4000 (left.getD i 0):=λi=>by
     rcases wD i left.length with z | z
     . exact zub bx (sub _ (getD_mem z))
     . rw[wb,wE z];exact ah.zero.mono (by decide)
   obtain⟨f',rfl⟩:∃f',f=f'+1:=⟨f-1,by lia⟩;rw[oh he]at heq;have hless:=Tg he;have hwl:=tt'.length;rw[wl]at hwl;o_head Ti (.inl (dN el tl')) hpos bl (λvm im=>?_);o_head jA (aP.of et) ?_;o_head az (j:=1) (hw.by S3) rfl (λvq iq=>?_);o_head ztl iq im (by lia) (λv4 H4 S4 i4=>?_);o_head bW (ds:=[N (cC left),TW (gG xs (cC left))]) (by simp) (.cons (im.by S4) (.cons i4 .nil)) (λv5 H5 S5 i5=>?_);k_few;have T5:=S4.trans S5;refine jG (T5 _ _ et) (by lia) (λH6 E6 e6=>?_);have K6:=E6.keep (T5 _ _ et);have el6:=E6 _ _ nl (T5 _ _ el);have tl6:ai K H6 us (left.map N):=ai.keep (T5.keep.trans K6) _ _ (gf _) tl'
   have tt6:ai K H6 (ws++[v5]) ((done++[cC left]).map (kP xs)):=by
     rw[vF];exact(ai.keep (T5.keep.trans K6) _ _ (zwu ..) tt').snoc (i5.di K6 (RF ..))
   have im6:=(im.by T5).gM K6;have S6:ag H H6:=(S3.trans T5).grow n1 E6;generalize hmx:cC left=mxx at *;o_head yD (.of el6) (λD i ys σ' H'=>(∃o,σ'=[o,some vm])/\H6 D=none/\ag H6 H'/\H' D=some (.lst ys)/\ai K H' ys (((left.take i).filter λy=>!decide (y=mxx)).map N)) (λD H' n s e=>⟨⟨_,rfl⟩,n,s,e,.nil⟩) (λD i ys σ' H' h=>h.2.2.1.seq (.of el6)) ?_ ?_
   . rintro D i x ys σ' H7 hx ⟨⟨o,rfl⟩,n7,S7,e7,t7⟩
     obtain⟨hi,ix⟩:=dJ tl6 hx;have ix7:=ix.by S7;have im7:=im6.by S7;have hyl:=t7.length;rw[wl]at hyl;have hfl:=Wv (λy=>!decide (y=mxx)) (left.take i);rw[vG]at hfl;k_few
     . rename_i z
       refine nj e7 (by lia) (λH8 E8 e8=>⟨⟨_,rfl⟩,n7,S7.grow n7 E8,e8,?_⟩);have K8:=E8.keep e7;rw[pM hi,WL,WF,decide_eq_false z,vF];exact(ai.keep K8 _ _ (gf _) t7).append (.cons (ix7.gM K8) .nil)
     . rename_i z
       refine⟨ys,⟨_,rfl⟩,n7,S7,e7,?_⟩;rw[pM hi,WL,WF,decide_eq_true (by first | exact z | exact Vl.mp z)];have:([]:List Rat).filter (λy=>!decide (y=mxx))=[]:=rfl
       simpa using t7
   . rintro D ys σ' H7 ⟨_,n7,S7,e7,t7⟩
     have hul:=tl6.length;rw[wl]at hul;rw[hul,Wi]at t7;k_few;exact⟨(left.filter λy=>!decide (y=mxx)).length,by lia,D,_,done++[mxx],ys,ws++[v5],f',_,rfl,rfl,S6.trans S7,(λz=>by subst z;rw[e6]at n7;cases n7),S7 _ _ e6,ai.same S7 _ _ tt6,e7,t7,λy hy=>sub y (w6.mp hy).1,by lia,by rw[wy];simp only[wL];lia,by rw[WP];exact heq⟩
def RA(K:wa):Sp:=λvs H Q _=>∃x0 x1,vs=[x0,x1] /\ ∃(lw:wf)(left:List Nat)(ps:List Rat),x0=.ref lw/\H lw=some (.lst (vz left))/\Is K H x1 (LN ps)/\(∀w∈left,w<ps.length)/\left.length<=900/\(∀i,ah 4000 (ps.getD i 0)) /\ ∀v H',ag H H'->Is K H' v (TW (aH ps left))->Q v H'
theorem Rh{lw:wf}{left:List Nat}{ps:List Rat}(e:H lw=some (.lst (vz left)))(h:Is K H v (LN ps))(hw:∀w∈left,w<ps.length)(hl:left.length<=900)(b:∀i,ah 4000 (ps.getD i 0))(q:∀v H',ag H H'->Is K H' v (TW (aH ps left))->Q v H'):RA K [.ref lw,v] H Q E:=⟨_,_,rfl,lw,left,ps,rfl,e,h,hw,hl,b,q⟩
theorem zxe(ps:List Rat)(l:List Nat):(aH ps l).length<=l.length:=Wv _ _
theorem Nw(T:Txt K mg a):aI P w K mg base aU 2 a.Ji a.HN yT (RA K):=by
 refine T.A0.F.ok zo6 ?_ ?_;wtm_at "b2";refine⟨_,(ay (aC (dW (show aN _ (.type "tuple") (eH K)from ft) rfl T.h0i dU (ae (dS rfl (cK.by (N':=["worm","phases"]) (src:=[none,some 1]) rfl (by kernel_rfl)) (fe (pv 0)) (λ_ _ _ _ _=>(bP (i:=0) (of_decide_eq_true (by kernel_rfl)) rfl (Or.inl rfl))) (λ_ _ _ _ _=>(yq (cN (cE (ak (iC (K:=K) (mg:=mg) (a:=a) T) hr T.gO (ae (c9 (show gH _ (dh K)from cJ) (pv 1) (pv 0) (λ_ _=>rfl)) (ae (cB (v:=.ref a.eO) rfl T.fI rfl) af))))))) (λ_ _ _ _ _=>(pv 0))) af)))),?_⟩;wtm_at "cl";rw[show start Ge [x0,x1]=[some x0,some x1]from rfl];obtain⟨lw,left,ps,rfl,e1,hx,hw,hl,bp,q⟩:=h;o_head yD (.of e1) (λD i ys σ' H'=>(∃o,σ'=[o,some x1])/\H D=none/\ag H H'/\H' D=some (.lst (vz (aH ps (left.take i))))) (λD H' n s e=>⟨⟨_,rfl⟩,n,s,e⟩) (λD i ys σ' H' h=>h.2.2.1.seq (.of e1)) ?_ ?_
 ·rintro D i x ys σ' H1 hx' ⟨⟨o,rfl⟩,n,S1,e2⟩
  obtain⟨hi,rfl⟩:=BF hx';have hx1:=hx.by S1;have hlt:=hw _ (vT hi);have bw:=bp left[i];have hle:=zxe ps (left.take i);have htl:(left.take i).length<=900:=by rw[vG];lia
  o_head lH hx1 (by lia) (by lia) (λv iv=>?_);rw[wS]at iv;generalize hww:left[i]=ww at *;k_few
  ·rename_i z
   refine nj e2 (by rw[kx];lia) (λH6 E6 e6=>⟨⟨_,rfl⟩,n,S1.grow n E6,?_⟩);rw[rZ hi,hww,zy6 z,Cb];exact e6
  ·rename_i z
   refine⟨[],⟨_,rfl⟩,n,S1,?_⟩;rw[rZ hi,hww,zwB (by first | exact z | exact Vl.mp z)];exact e2
 ·rintro D ys σ' H1 ⟨_,n,S1,e2⟩
  rw[kx,Wi]at e2;o_head pN (.of e2) (λl H2 n2 S2 e3=>?_);exact q _ H2 (S1.trans S2) (El.mpr ⟨l,rfl,.of e3⟩)
def TK(K:wa):Sp:=λvs H Q _=>∃x0,vs=[x0] /\ ∃(a b:Rat)(xs:List Rat)(m:Nat),Is K H x0 (bL a b xs)/\ah 10 a/\ah 10 b/\1<=xs.length/\xs.length<=8/\Cm m xs/\m+2+21*xs.length<=3950 /\ ∀v H',ag H H'->Is K H' v (GD a b xs)->Q v H'
theorem CK{a:Rat}(h:Is K H v (bL a b xs))(ba:ah 10 a)(bb:ah 10 b)(h1:1<=xs.length)(h8:xs.length<=8)(c:Cm m xs)(hm:m+2+21*xs.length<=3950)(q:∀v H',ag H H'->Is K H' v (GD a b xs)->Q v H'):TK K [v] H Q E:=⟨_,rfl,a,b,xs,m,h,ba,bb,h1,h8,c,hm,q⟩
structure zCg(K:wa)(a b:Rat)(xs:List Rat)(m:Nat)(H H':Hp)(vw:V)(lp lv ll:wf)(left:List Nat)(ps:List Rat)(done:List (List Nat))(f:Nat)(pv wv:List V)(vwave:V):Prop where
 same:ag H H'
 hp:H lp=none
 hv:H lv=none
 iw:Is K H' vw (N (1-cC xs))
 pF:lp≠lv
 B9:ll≠lp
 zL:ll≠lv
 ep:H' lp=some (.lst pv)
 tp:ai K H' pv (ps.map N)
 el:H' ll=some (.lst (vz left))
 ev:H' lv=some (.lst wv)
 tv:ai K H' wv (done.map TW)
 iv:Is K H' vwave (TW (aH ps left))
 nd:left.Nodup
 lt:∀w∈left,w<xs.length
 len:ps.length=xs.length
 fl:left.length<=f
 dl:done.length+left.length<=xs.length
 cm:Cm (m+2+21*(xs.length-left.length)) ps
 w1:done++(cX a b f ps left).1=dg a b xs
 w2:(cX a b f ps left).2=(eW a b xs).2
def UP(K:wa)(a b:Rat)(xs:List Rat)(m:Nat)(H:Hp)(x0 vw:V)(lp lv:wf)(k:Nat)(σ':L2.St)(H':Hp):Prop:=∃(ll:wf)(left:List Nat)(ps:List Rat)(done:List (List Nat))(f:Nat)(pv wv:List V)(vwave:V)(o6 o7:Option V),σ'=[some x0,some vw,some (.ref lp),some (.ref ll),some (.ref lv),some vwave,o6,o7,none]/\k=left.length/\zCg K a b xs m H H' vw lp lv ll left ps done f pv wv vwave
theorem rz{q:wf}{o:HO}(h:H p=none)(k:H q=some o):p≠q:=λe=>by rw[e,k]at h;cases h
theorem zwd{β γ:Type}(f : α -> β)(g : β -> γ)(l:List α):(!((l.map f).map g).isEmpty) = !l.isEmpty:=by cases l<;>rfl
theorem zy9{l:List α}(h:l≠[]):(!l.isEmpty)=true:=by cases l with
 | nil=>exact absurd rfl h
 | cons x l=>rfl
theorem F_(T:Txt K mg a):aI P w K mg base aU 4 a.nU a.Kw yB (TK K):=by
 refine T.tX.F.ok jJ ?_ ?_;wtm_at "b1"
 refine⟨_,(av (aA 1 jJ.nd (ak (yV T) hr T.p5 (ae (cB (v:=.ref a.eO) rfl T.fI rfl) (ae (ak (NO T) hr T.Bb (ae (au (pv 0)) af)) af))))
     (av (mR (i:=2) jJ.nd rfl (Or.inl rfl) rfl (cK.by (N':=["phase","wait"]) (src:=[none,some 1]) rfl (by kernel_rfl)) (jF (au (pv 0))) (λ_ _ _ _ _=>(bP (i:=0) (of_decide_eq_true (by kernel_rfl)) rfl (Or.inl rfl))) (λ_ _ _ _ _=>dw) (λ_ _ _ _ _=>(ak (hW (K:=K) (mg:=mg) (a:=a) T) hr T.gr (ae (pv 0) (ae (pv 1) af)))))
     (av (aA 3 jJ.nd (zrE rfl rfl T.h0l rfl T.h0j (ae (bQ (show aN _ (.builtin "len") (cO K)from dH) rfl T.h0o dM (ae (pv 2) af)) af)))
     (av (aA 4 jJ.nd (d4 af))
     (av (aA 5 jJ.nd (ak (Nw T) hr T.A0 (ae (pv 3) (ae (pv 2) af))))
     (av (oQ vd (Ar (pv 5)) (av (ki (jZ vP vM vN jC (pv 4) (ae (pv 5) af)))
     (av (aA 3 jJ.nd (dS rfl (cK.by (N':=["worm","wave"]) (src:=[none,some 5]) rfl (by kernel_rfl)) (fe (pv 3)) (λ_ _ _ _ _=>(bP (i:=0) (of_decide_eq_true (by kernel_rfl)) rfl (Or.inl rfl))) (λ_ _ _ _ _=>(yq (cw (show aM _ (compareOp .NotIn) (mh K true)from zwD) (pv 0) (pv 1) (by with_unfolding_all rfl)))) (λ_ _ _ _ _=>(pv 0))))
     (av (aA 6 jJ.nd (ak (zo T) hr T.pZ (ae (au (pv 0)) (ae (bQ (show aN _ (.builtin "len") (cO K)from dH) rfl T.h0o dM (ae (pv 5) af)) af))))
     (av (gD vd rfl (fe (pv 3)) (bP (i:=7) jJ.nd rfl (Or.inl rfl)) (ay (sE (ak (UU T) hr T.A7 (ae (pv 6) (ae (c9 cJ (pv 2) (pv 7) (λ_ _=>rfl)) af))) (rM (pv 2) (pv 7) rR))))
     (ay (aA 5 jJ.nd (ak (Nw T) hr T.A0 (ae (pv 3) (ae (pv 2) af))))))))))
     (av (mR (i:=8) jJ.nd rfl (Or.inl rfl) rfl (cK.by (N':=["worm","phase","left"]) (src:=[none,none,some 3]) rfl (by kernel_rfl)) (zxQ rfl T.h0d (ae (pv 2) af)) (λ_ _ _ _ _=>by exact(show PG _ _ (oY K 2 _)from oo (n:=2) rfl (iP (bP (i:=0) (of_decide_eq_true (by kernel_rfl)) rfl (Or.inl rfl)) (iP (bP (i:=1) (of_decide_eq_true (by kernel_rfl)) rfl (Or.inl rfl)) pD)))) (λ_ _ _ _ _=>dw) (λ_ _ _ _ _=>(pz (cw (show aM _ (compareOp .In) (mh K false)from zCY) (pv 0) (pv 2) (by with_unfolding_all rfl)) (pv 1) (cB (v:=.ref a.dy) rfl T.ee rfl))))
     (ay (aC (bC (ae (pv 1) (ae (dW (show aN _ (.type "tuple") (eH K)from ft) rfl T.h0i dU (ae (pv 4) af)) (ae (bC (ae (au (pv 0)) (ae (dW (show aN _ (.type "tuple") (eH K)from ft) rfl T.h0i dU (ae (pv 8) af)) af))) af))))))))))))),?_⟩
 wtm_at "cl";rw[show start Oj [x0]=[some x0,none,none,none,none,none,none,none,none]from rfl];obtain⟨ra,rb,xs,m,hw,ba,bb,h1,h8,cm,hm,q⟩:=h;have bx:∀i,ah 4000 (xs.getD i 0):=λi=>(cm.get i).mono (by lia)
 have bm:ah 3950 (cC xs):=(cm.dQ (ja h1)).mono (by lia);o_head az (j:=1) hw rfl (λvp ip=>?_);o_head Ti (.inr ip) h1 bx (λvm im=>?_);k_few;rename_i vw H1 S1 iw;refine az (j:=1) (hw.by S1) rfl (λvp1 ip1=>?_);obtain⟨ap,us,rfl,hu,tu⟩:=cb.mp ip1;refine iX (o0:=none) (tl:=[some vw]) hu rfl (λj y H'=>Is K H' y (N ((bZ xs).getD j 0))) ?_ ?_
 . intro D i x ys o H2 hx inv
   obtain⟨hi,ix⟩:=dJ tu hx;have S2:=inv.same;have ix2:=ix.by S2;have iw2:=iw.by S2;have bi:=bx i;have bw:ah 3952 (1-cC xs):=(ah.one.sub bm).mono (by decide);k_few;rename_i v3 H3 S3 i3;exact dB inv (by lia) gm ⟨_,rfl⟩ S3 (by rw[zwI hi];exact i3)
 . intro lp ys H2 hnp S2 hD hl hr
   have hl':ys.length=(bZ xs).length:=by rw[hl,tu.length,wl,f_]
   have tp:ai K H2 ys ((bZ xs).map N):=gu hl' hr;have iw2:=iw.by S2;have T2:=S1.trans S2;have hpH:H lp=none:=iU S1 hnp;clear hl hr hu tu ip1 ip im iw S1 S2 hnp;o_head zzA (dN hD tp) ?_;rw[f_];o_head zw7 (n:=xs.length) (by lia) (λll H3 n3 S3 e3=>?_);o_head cS (by simp) (λlv H4 n4 S4 e4=>?_);k_few;have hD4:=S4 _ _ (S3 _ _ hD);have tp4:ai K H4 ys ((bZ xs).map N):=ai.same (S3.trans S4) _ _ tp;have kW:Cm (m+2) (bZ xs):=(Cm.rise (h:=0) (cm.kZ (ys:=0::xs) λy hy=>by rcases wH.mp hy with rfl | hy;(exact .inr rfl);exact .inl hy) (ja h1)).kZ λy hy=>.inl (wu _ hy)
   have b3:∀i,ah 4000 ((bZ xs).getD i 0):=λi=>(kW.get i).mono (by lia)
   refine Rh (S4 _ _ e3) (dN hD4 tp4) (λw hw'=>by rw[f_];exact wG.mp hw') (by rw[vD];lia) b3 (λvwave H5 S5 i5=>?_);have T5:=T2.trans (S3.trans (S4.trans S5));have hvH:H lv=none:=iU (T2.trans S3) n4;have pF:lp≠lv:=(rz n4 (S3 _ _ hD)).symm;have B9:ll≠lp:=rz n3 hD;have zL:ll≠lv:=(rz n4 e3).symm
   have G0:UP K ra rb xs m H x0 vw lp lv xs.length [some x0,some vw,some (.ref lp),some (.ref ll),some (.ref lv),some vwave,none,none,none] H5:=by
     refine⟨ll,wp xs.length,bZ xs,[],xs.length,ys,[],vwave,none,none,rfl,by rw[vD],T5,hpH,hvH,iw2.by (S3.trans (S4.trans S5)),pF,B9,zL,S5 _ _ hD4,ai.same S5 _ _ tp4,S5 _ _ (S4 _ _ e3),S5 _ _ e4,.nil,i5,WZ,λw hw'=>wG.mp hw',f_ xs,by rw[vD];exact wn _,by rw[vD];simp,kW.mono (by lia),?_,rfl⟩;rw[qO];rfl
   clear T5 S5 S4 S3 T2 hD hD4 tp tp4 b3 kW n3 n4 e3 e4 iw2 i5 hl';o_head uC (UP K ra rb xs m H x0 vw lp lv) _ G0 ?_;clear G0 pF B9 zL;rintro k σ' H6 ⟨ll,left,ps,done,f,pv,wv,vwave,o6,o7,rfl,hk,G⟩;have bp:∀i,ah 4000 (ps.getD i 0):=λi=>(G.cm.get i).mono (by have:=G.dl;lia)
   o_head zAM (show Is K H6 vwave (.tuple (((aH ps left).map λ(w:Nat)=>(w:Int)).map PyData.int))from G.iv) ?_;rw[zwd]
   by_cases he:aH ps left=[]
   . rw[show(!(aH ps left).isEmpty)=false by rw[he];rfl]
     refine oA ?_;have w1:=G.w1;have w2:=G.w2;rw[oO he]at w1 w2;rw[vW]at w1;have eps:ps=(eW ra rb xs).2.2:=congrArg uc w2;have elf:left=(eW ra rb xs).2.1:=congrArg ub w2;have hph:jP left ps=dP ra rb xs:=by rw[dP,<- eps,<- elf]
     o_head zyP (.of G.ep) (o0:=none) (o0':=none) (tl:=[some (.ref ll)]) rfl (λj y H'=>Is K H' y (N ((jP left ps).getD j 0))) gm ?_ ?_
     . intro D i x zs o1 o2 H7 c hx inv hc
       obtain⟨hi,ix⟩:=dJ G.tp hx;have S7:=inv.2.2.1;refine nJ (.of hc) rfl ?_;o_head ZR (aP.of (S7 _ _ G.el)) ?_;k_few
       . rename_i z
         exact Aq inv (by have:=G.len;lia) gm ⟨_,_,rfl⟩ (ag.refl _) (by rw[oM hi,if_pos z];exact ix.by S7)
       . rename_i z
         exact Aq inv (by have:=G.len;lia) gm ⟨_,_,rfl⟩ (ag.refl _) (by rw[oM hi,if_neg z];exact eS 0 (T.fq _) rfl rfl)
     . intro D zs H7 hn S7 hD hl hr
       have hpl:=G.tp.length;rw[wl]at hpl;have tz:ai K H7 zs ((jP left ps).map N):=gu (by rw[hl,Mg,hpl]) hr;rw[hph]at tz;have tv:=ai.same S7 _ _ G.tv;have ev:=S7 _ _ G.ev;have iw7:=G.iw.by S7;have T7:=G.same.trans S7;rw[w1]at tv;o_head iR (cu.mpr ⟨lv,wv,rfl,.of ev,tv⟩) (λv8 H8 S8 i8=>?_);o_head az (j:=0) (hw.by (T7.trans S8)) rfl (λv9 i9=>?_);o_head iR (dN (S8 _ _ hD) (ai.same S8 _ _ tz)) (λv10 H10 S10 i10=>?_);o_head bW (ds:=[R ra rb,TN (dP ra rb xs)]) (by simp) (.cons (i9.by S10) (.cons i10 .nil)) (λv11 H11 S11 i11=>?_);o_head bW (ds:=[N (1-cC xs),pk (dg ra rb xs),bL ra rb (dP ra rb xs)]) (by simp) (.cons (iw7.by (S8.trans (S10.trans S11))) (.cons (i8.by (S10.trans S11)) (.cons i11 .nil))) (λv12 H12 S12 i12=>?_);exact q v12 H12 (T7.trans (S8.trans (S10.trans (S11.trans S12)))) i12
   . rw[zy9 he]
     refine pT ?_;refine z8 ?_;have hwl:=G.tv.length;rw[wl]at hwl;have hdl:=G.dl;have hlen:=C8 ps left;have hpos:0<(aH ps left).length:=VF.mpr he;o_head jA (aP.of G.ev) ?_;o_head jG G.ev (by lia) (λH7 E7 e7=>?_);have K7:bE H6 H7:=E7.keep G.ev;have S7:ag H H7:=G.same.grow G.hv E7;have el7:=E7 _ _ G.zL G.el;have ep7:=E7 _ _ G.pF G.ep;have tp7:=ai.keep K7 _ _ (gf _) G.tp;have iv7:=G.iv.di K7 (Cs _);have iw7:=G.iw.gM K7
     have tv7:ai K H7 (wv++[vwave]) ((done++[aH ps left]).map TW):=by
       rw[vF];exact(ai.keep K7 _ _ (yu _) G.tv).snoc iv7
     obtain⟨aw,rfl,hsw⟩:=El.mp iv7;o_head yD (.of el7) (λD i ys σ' H'=>(∃o,σ'=[o,some (.ref aw)])/\H7 D=none/\ag H7 H'/\H' D=some (.lst (vz (cj (left.take i) (aH ps left))))) (λD H' n s e=>⟨⟨_,rfl⟩,n,s,e⟩) (λD i ys σ' H' h=>h.2.2.1.seq (.of el7)) ?_ ?_
     . rintro D i x ys σ' H8 hx' ⟨⟨o,rfl⟩,n,S8,e8⟩
       obtain⟨hi,rfl⟩:=BF hx';have hle:(cj (left.take i) (aH ps left)).length<=(left.take i).length:=Wv _ _;rw[vG]at hle;o_head zus (S8.j6 hsw) ?_;generalize hww:left[i]=ww at *;k_few
       . rename_i z
         refine nj e8 (by rw[kx];lia) (λH9 E9 e9=>⟨⟨_,rfl⟩,n,S8.grow n E9,?_⟩);rw[rZ hi,hww,zwO z,Cb];exact e9
       . rename_i z
         refine⟨[],⟨_,rfl⟩,n,S8,?_⟩;rw[rZ hi,hww,zuK (by first | exact z | exact Vl.mp z)];exact e8
     . rintro D ys σ' H8 ⟨_,n8,S8,e8⟩
       rw[kx,Wi]at e8;have nD1:D≠lp:=rz n8 ep7;have nD2:D≠lv:=rz n8 e7;have T8:=S7.trans S8;have iv8:=iv7.by S8;o_head az (j:=0) (hw.by T8) rfl (λvr ir=>?_);o_head TY iv8 ?_;o_head Cw ir ba bb (by lia) (by lia) (λvpush H9 S9 ipush=>?_);rw[wS]at ipush;have bf:ah 700 (ra^(aH ps left).length):=(ba.pow _).mono (by lia);have bg:ah 1500 (aE ra rb (aH ps left).length):=(ba.aE bb _).mono (by lia);have T9:=S8.trans S9;have ep9:=T9 _ _ ep7;have tp9:ai K H9 pv (ps.map N):=ai.same T9 _ _ tp7;have e9:=S9 _ _ e8;have ev9:=T9 _ _ e7;have ndl:=pC (wave:=aH ps left) G.nd;have ltl:=pK (wave:=aH ps left) G.lt;generalize hL:cj left (aH ps left)=left' at *;o_head oS (.of e9) (λi σ'' H''=>∃o pv',σ''=[some x0,some vw,some (.ref lp),some (.ref D),some (.ref lv),some (.ref aw),some vpush,o,none]/\Exc lp H9 H''/\H'' lp=some (.lst pv')/\ai K H'' pv' ((c7 (ra^(aH ps left).length) (aE ra rb (aH ps left).length) ps (left'.take i)).map N)) ⟨_,pv,rfl,Exc.refl _ _,ep9,tp9⟩ (λi σ'' H'' _ ⟨_,_,_,e,_⟩=>.of (e _ _ nD1 e9)) ?_ ?_
       . rintro i x σ'' H10 hx' ⟨o,pv',rfl,E10,e10,t10⟩
         obtain⟨hi,rfl⟩:=BF hx';have K10:bE H9 H10:=E10.keep ep9;have hlt:=ltl _ (vT hi);have hpl:=jI (ra^(aH ps left).length) (aE ra rb (aH ps left).length) (left'.take i) ps;have hps:=G.len
         have bq:ah 4000 ((c7 (ra^(aH ps left).length) (aE ra rb (aH ps left).length) ps (left'.take i)).getD left'[i] 0):=by
           have nt:(left'.take i).Nodup:=ndl.sublist (xU ..);rw[j3 _ _ _ _ nt (λw hw'=>by rw[hps];exact ltl w (Xu _ _ hw'))];rw[if_neg]
           . exact bp _
           . intro hm
             obtain⟨j,hj,ej⟩:=wY hm;rw[vG]at hj;rw[xY]at ej;exact absurd ej ((Wj.mp ndl) j i (by lia) hi (by lia))
         have ip10:=ipush.di K10 (De _ _);generalize hww:left'[i]=ww at *;generalize hqs:c7 (ra^(aH ps left).length) (aE ra rb (aH ps left).length) ps (left'.take i)=qs at *;o_head lH (dN e10 t10) (by lia) (by lia) (λv11 i11=>?_);rw[wS]at i11;o_head Sw ip10 i11 bf bg (bq.mono (by decide)) (λv12 H12 S12 i12=>?_);have e12:=S12 _ _ e10;have hvl:=t10.length;rw[wl]at hvl;o_head z5 (j:=ww) e12 (by unfold iV;rw[if_pos (by lia),if_pos (by lia)];simp) (λH13 E13 e13=>?_);refine⟨_,_,rfl,E10.trans (S12.exc.trans E13),e13,?_⟩;have K13:=E13.keep e12;rw[rZ hi,hww,zrP,hqs];refine gu (by rw[W9,W9];exact hvl) (λj v hj=>?_);rw[Vi]at hj
         by_cases hjw:ww=j
         . subst hjw
           rw[if_pos rfl,if_pos (by lia)]at hj;cases hj;rw[LH (by lia)];exact i12.gM K13
         . rw[if_neg hjw]at hj
           rw[RN hjw];obtain⟨_,ij⟩:=dJ t10 hj;exact(ij.by S12).gM K13
       . rintro σ'' H10 ⟨o,pv',rfl,E10,e10,t10⟩
         rw[kx,Wi]at t10;have K10:bE H9 H10:=E10.keep ep9;have hps:=G.len
         have cm10:Cm (m+2+21*(xs.length-left'.length)) (c7 (ra^(aH ps left).length) (aE ra rb (aH ps left).length) ps left'):=by
           have c0:Cm (m+2+21*(xs.length-left.length)) (0::ps):=G.cm.kZ λy hy=>by rcases wH.mp hy with rfl | hy;(exact .inr rfl);exact .inl hy
           exact((c0.wave ba bb (aH ps left).length ndl (λw hw'=>by rw[hps];exact ltl w hw')).kZ λy hy=>.inl (wu _ hy)).mono (by lia)
         have hpl:=jI (ra^(aH ps left).length) (aE ra rb (aH ps left).length) left' ps;have w1:=G.w1;have w2:=G.w2;have hfl:=G.fl;obtain⟨f',rfl⟩:∃f',f=f'+1:=⟨f-1,by lia⟩;rw[kg he,hL]at w1 w2;generalize hqs:c7 (ra^(aH ps left).length) (aE ra rb (aH ps left).length) ps left'=qs at *;k_few;have e10':=E10 _ _ nD1 e9;refine Rh e10' (dN e10 t10) (λw hw'=>by rw[hpl,hps];exact ltl w hw') (by lia) (λi=>(cm10.get i).mono (by lia)) (λvwave2 H11 S11 i11=>?_);k_few;have KA:=T9.keep.trans K10;refine⟨left'.length,by lia,D,left',qs,done++[aH ps left],f',pv',wv++[V.ref aw],vwave2,_,_,rfl,rfl,?_⟩;exact⟨((S7.trans T9).grow G.hp E10).trans S11,G.hp,G.hv,(iw7.gM KA).by S11,G.pF,nD1,nD2,S11 _ _ e10,ai.same S11 _ _ t10,S11 _ _ e10',S11 _ _ (E10 _ _ G.pF.symm ev9),ai.same S11 _ _ (ai.keep KA _ _ (yu _) tv7),i11,ndl,ltl,by rw[hpl];exact hps,by lia,by rw[wy];simp;lia,cm10,by rw[WP];exact w1,w2⟩
def Rt(K:wa):Sp:=λvs H Q _=>∃x0 x1,vs=[x0,x1] /\ ∃(a b:Rat)(xs:List Rat)(n:Int),x1=.int n/\Is K H x0 (bL a b xs)/\ah 10 a/\ah 10 b/\1<=xs.length/\xs.length<=8/\0<=n/\n<=40/\(∀i,i<=n.toNat->Cm 3700 (aG a b xs i::aj a b xs i)) /\ ∀l H',H l=none->ag H H'->Is K H' (.ref l) (.list (i_ a b xs n.toNat))->Q (.ref l) H'
theorem zrL{a:Rat}{n:Int}(h:Is K H v (bL a b xs))(ba:ah 10 a)(bb:ah 10 b)(h1:1<=xs.length)(h8:xs.length<=8)(n0:0<=n)(n1:n<=40)(c:∀i,i<=n.toNat->Cm 3700 (aG a b xs i::aj a b xs i))(q:∀l H',H l=none->ag H H'->Is K H' (.ref l) (.list (i_ a b xs n.toNat))->Q (.ref l) H'):Rt K [v,.int n] H Q E:=⟨_,_,rfl,a,b,xs,n,rfl,h,ba,bb,h1,h8,n0,n1,c,q⟩
theorem zuP(T:Txt K mg a):aI P w K mg base aU 5 a.Kx a.I_ zZ (Rt K):=by
 refine T.JM.F.ok lQ ?_ ?_;wtm_at "b2"
 refine⟨_,(av (aA 2 lQ.nd (d4 af))
     (av (aA 3 lQ.nd (cB (v:=.ref a.dy) rfl T.ee rfl))
     (av (aA 4 lQ.nd (pv 0))
     (av (gD vd rfl (jo rfl T.h0j (ae (pv 1) af)) (bP (i:=5) lQ.nd rfl (Or.inl rfl)) (av (aA 6 lQ.nd (ak (F_ T) hr T.tX (ae (pv 4) af)))
     (av (aA 3 lQ.nd (ak (hW T) hr T.gr (ae (pv 3) (ae (au (pv 6)) af))))
     (av (aA 4 lQ.nd (au (pv 6)))
     (ay (ki (jZ vP vM vN jC (pv 2) (ae (bC (ae (pv 3) (ae (au (pv 6)) (ae (au (pv 4)) af)))) af))))))))
     (ay (aC (pv 2))))))),?_⟩
 wtm_at "cl";rw[show start LK [x0,x1]=[some x0,some x1,none,none,none,none,none]from rfl];obtain⟨ra,rb,xs,n,rfl,hw,ba,bb,h1,h8,n0,n1,cm,q⟩:=h;o_head cS (by simp) (λlr H1 nr S1 e1=>?_);o_head ku (n:=n) (by lia) (by lia) (λi σ H'=>∃vh vs o5 o6 us,σ = [some x0,some (.int n),some (.ref lr),some vh,some vs,o5,o6]/\ag H H'/\H' lr=some (.lst us)/\ai K H' us (i_ ra rb xs i)/\Is K H' vh (N (aG ra rb xs i))/\Is K H' vs (bL ra rb (aj ra rb xs i))) ⟨_,_,_,_,[],rfl,S1,e1,.nil,eS 0 (T.fq _) rfl rfl,hw.by S1⟩ ?_ ?_
 . rintro i σ H2 hi ⟨vh,vs,o5,o6,us,rfl,S2,e2,t2,ih,iw⟩
   have hc:=cm i (by lia);have hpl:=bS ra rb xs i;have bh:ah 3700 (aG ra rb xs i):=hc.dQ (wB ..);have hc':Cm 3700 (aj ra rb xs i):=hc.kZ λy hy=>.inl (wu _ hy)
   have bw:ah 3702 (1-cC (aj ra rb xs i)):=(ah.one.sub (hc'.dQ (ja (by lia)))).mono (by decide);o_head CK iw ba bb (by lia) (by lia) hc' (by rw[hpl];lia) (λv3 H3 S3 i3=>?_);o_head az (j:=0) i3 rfl (λv4 i4=>?_);have ih3:=ih.by S3;k_few;rename_i v5 H5 S5 i5;refine az (j:=2) (i3.by S5) rfl (λv6 i6=>?_);have T5:=S3.trans S5;o_head jA (aP.of (T5 _ _ e2)) ?_;o_head az (j:=1) (i3.by S5) rfl (λv7 i7=>?_);o_head az (j:=1) i6 rfl (λv8 i8=>?_);o_head bW (ds:=[N (aG ra rb xs (i+1)),pk (dg ra rb (aj ra rb xs i)),TN (aj ra rb xs (i+1))]) (by simp) (.cons i5 (.cons i7 (.cons i8 .nil))) (λv9 H9 S9 i9=>?_);k_few;have T9:=T5.trans S9;have e9:=T9 _ _ e2;have hul:=t2.length;rw[zwm]at hul;refine jG e9 (by lia) (λH10 E10 e10=>?_);have K10:=E10.keep e9;have i10:=i9.di K10 (Yq _ _ _)
   have t10:ai K H10 (us++[v9]) (i_ ra rb xs (i+1)):=by
     rw[FY];exact(ai.keep K10 _ _ (zra ..) (ai.same T9 _ _ t2)).snoc i10
   exact⟨_,_,_,_,_,rfl,(S2.trans T9).grow nr E10,e10,t10,(i5.by S9).gM K10,(i6.by S9).di K10 (ky _ _ _)⟩
 . rintro σ H2 ⟨vh,vs,o5,o6,us,rfl,S2,e2,t2,ih,iw⟩
   k_few;exact q lr H2 nr S2 (cu.mpr ⟨lr,us,rfl,.of e2,t2⟩)
def BD(a b:Rat)(xs:List Rat)(n:Nat):PyData:=.tuple [N (aG a b xs n),bL a b (aj a b xs n)]
def W_(K:wa):Sp:=λvs H Q _=>∃x0 x1,vs=[x0,x1] /\ ∃(a b:Rat)(xs:List Rat)(n:Int),x1=.int n/\Is K H x0 (bL a b xs)/\ah 10 a/\ah 10 b/\1<=xs.length/\xs.length<=8/\0<=n/\n<=40/\(∀i,i<=n.toNat->Cm 3700 (aG a b xs i::aj a b xs i)) /\ ∀v H',ag H H'->Is K H' v (BD a b xs n.toNat)->Q v H'
theorem MH{a:Rat}{n:Int}(h:Is K H v (bL a b xs))(ba:ah 10 a)(bb:ah 10 b)(h1:1<=xs.length)(h8:xs.length<=8)(n0:0<=n)(n1:n<=40)(c:∀i,i<=n.toNat->Cm 3700 (aG a b xs i::aj a b xs i))(q:∀v H',ag H H'->Is K H' v (BD a b xs n.toNat)->Q v H'):W_ K [v,.int n] H Q E:=⟨_,_,rfl,a,b,xs,n,rfl,h,ba,bb,h1,h8,n0,n1,c,q⟩
theorem nv(h:Is K H v (.list (ds++[d])))(q:∀x,Is K H x d->Q x H):dh K v (.int (-1)) H Q:=by
 obtain⟨a,xs,rfl,hs,t⟩:=cu.mp h;have hl:=t.length;rw[wy,wL]at hl;obtain⟨x,e1,hx⟩:=t.get (i:=ds.length) (d:=d) (by rw[vf (wn _),W7];rfl);exact jD hs (EF (by rw[hl];exact e1)) (q x hx)
theorem zwV(T:Txt K mg a):aI P w K mg base aU 6 a.behind a.Jy yo (W_ K):=by
 refine T.J5.F.ok C6 ?_ ?_;wtm_at "b2"
 refine⟨_,(av (aA 2 C6.nd (ak (zuP T) hr T.JM (ae (pv 0) (ae (pv 1) af))))
     (av (cg (cN (Ar (pv 2))) (ay (aC (bC (ae (cB (v:=.ref a.dy) rfl T.ee rfl) (ae (pv 0) af))))) ck)
     (av (aA 3 C6.nd (c9 cJ (pv 2) (fE fC ao) (λ_ _=>rfl)))
     (ay (aC (bC (ae (au (pv 3)) (ae (bC (ae (au (pv 0)) (ae (au (pv 3)) af))) af)))))))),?_⟩
 wtm_at "cl";rw[show start Oa [x0,x1]=[some x0,some x1,none,none]from rfl];obtain⟨ra,rb,xs,n,rfl,hw,ba,bb,h1,h8,n0,n1,cm,q⟩:=h;o_head zrL hw ba bb h1 h8 n0 n1 cm (λlr H1 nr S1 i1=>?_);o_head Fj i1 ?_;generalize n.toNat=k at *;cases k with
 | zero =>
   rw[show(!(i_ ra rb xs 0).isEmpty)=false from rfl];o_head bW (ds:=[N 0,bL ra rb xs]) (by simp) (.cons (eS 0 (T.fq _) rfl rfl) (.cons (hw.by S1) .nil)) (λv H2 S2 i2=>?_);exact q v H2 (S1.trans S2) i2
 | succ k =>
   rw[FY]at i1;rw[show(!(i_ ra rb xs (k+1)).isEmpty)=true by rw[FY];simp];o_head nv i1 (λv2 i2=>?_);have i2:Is K H1 v2 (yU (aG ra rb xs (k+1)) (dg ra rb (aj ra rb xs k)) (aj ra rb xs (k+1))):=i2;o_head az (j:=0) i2 rfl (λv3 i3=>?_);o_head az (j:=0) (hw.by S1) rfl (λv4 i4=>?_);o_head az (j:=2) i2 rfl (λv5 i5=>?_);o_head bW (ds:=[R ra rb,TN (aj ra rb xs (k+1))]) (by simp) (.cons i4 (.cons i5 .nil)) (λv6 H6 S6 i6=>?_);o_head bW (ds:=[N (aG ra rb xs (k+1)),bL ra rb (aj ra rb xs (k+1))]) (by simp) (.cons (i3.by S6) (.cons i6 .nil)) (λv7 H7 S7 i7=>?_);exact q v7 H7 (S1.trans (S6.trans S7)) i7
def Uu(K:wa):Sp:=λvs H Q _=>∃x0,vs=[x0] /\ ∃(a b:Rat)(xs:List Rat),Is K H x0 (bL a b xs)/\Q (.bl (decide (0∈xs))) H
theorem DI{a:Rat}(h:Is K H v (bL a b xs))(q:Q (.bl (decide (0∈xs))) H):Uu K [v] H Q E:=⟨_,rfl,a,b,xs,h,q⟩
theorem FX(T:Txt K mg a):aI P w K mg base aU 1 a.Kj a.Jj yh (Uu K):=by
 refine T.tR.F.ok zuS ?_ ?_;wtm_at "b1";refine⟨_,(ay (aC (fj (show aM _ (compareOp .In) (oZ K)from Em hu) (cB (v:=.ref a.dy) rfl T.ee rfl) (au (pv 0)) (by with_unfolding_all rfl)))),?_⟩;wtm_at "cl";rw[show start Fp [x0]=[some x0]from rfl];obtain⟨ra,rb,xs,hw,q⟩:=h;o_head az (j:=1) hw rfl (λvp ip=>?_);exact UJ (eS 0 (T.fq _) rfl rfl) ip q
def cz(xs:List Rat):List Rat:=(ar xs).dropLast
def RE(xs:List Rat):PyData:=.tuple [TZ (bY xs),TN (cz xs)]
def LS(K:wa)(a:Ad):Sp:=λvs H Q E=>∃x0,vs=[x0] /\ ∃(ra rb:Rat)(xs:List Rat),Is K H x0 (bL ra rb xs)/\xs.length<=8/\(∀i,ah 4000 (xs.getD i 0))/\(¬ 0∈xs->∀H',ag H H'->E (.ref a.pY) none H')/\(0∈xs->∀v H',ag H H'->Is K H' v (RE xs)->Q v H')
theorem yE(h:Is K H v (bL ra rb xs))(h8:xs.length<=8)(bx:∀i,ah 4000 (xs.getD i 0))(qe:¬ 0∈xs->∀H',ag H H'->E (.ref a.pY) none H')(q:0∈xs->∀v H',ag H H'->Is K H' v (RE xs)->Q v H'):LS K a [v] H Q E:=⟨_,rfl,ra,rb,xs,h,h8,bx,qe,q⟩
theorem O0:∀(n:Nat)(l:List Rat),(jE n l).length<=n
 | 0,l=>wn _
 | n+1,[]=>by rw[Cv];simp
 | n+1,x::l=>by
  rw[oh (by simp),vn];have:=O0 n ((x::l).filter λy=>!decide (y=cC (x::l)));lia
theorem zE(T:Txt K mg a):aI P w K mg base (fU P w) 4 a.laid a.Kk zX (LS K a):=by
 refine T.p6.F.yp zq ?_ ?_;wtm_at "b1"
 refine⟨_,(av (cg (cN (cE (ak (FX T) hr T.tR (ae (pv 0) af)))) (ay (OL T.YO rfl rfl T.YN Nu (ae dC af))) ck)
     (av (aA 1 zq.nd (ak (UM T) hr T.Bh (ae (pv 0) af)))
     (av (aA 2 zq.nd (dW (show aN _ (.type "tuple") (eH K)from ft) rfl T.h0i dU (ae (dS rfl (cK.by (N':=["row"]) (src:=[none]) rfl (by kernel_rfl)) (fe (pv 1)) (λ_ _ _ _ _=>(bP (i:=0) (of_decide_eq_true (by kernel_rfl)) rfl (Or.inl rfl))) (λ_ _ _ _ _=>dw) (λ_ _ _ _ _=>(bQ (show aN _ (.builtin "len") (cO K)from dH) rfl T.h0o dM (ae (kQ (K:=K) cJ (pv 0)) af)))) af)))
     (av (aA 3 zq.nd (dW (show aN _ (.type "tuple") (eH K)from ft) rfl T.h0i dU (ae (dS rfl (cK.by (N':=["row"]) (src:=[none]) rfl (by kernel_rfl)) (fe (fY fV (pv 1) fS (fT (fE fC ao)))) (λ_ _ _ _ _=>(bP (i:=0) (of_decide_eq_true (by kernel_rfl)) rfl (Or.inl rfl))) (λ_ _ _ _ _=>dw) (λ_ _ _ _ _=>(kQ (K:=K) cJ (pv 0)))) af)))
     (ay (aC (bC (ae (pv 2) (ae (pv 3) af))))))))),?_⟩
 wtm_at "cl";rw[show start Mx [x0]=[some x0,none,none,none]from rfl];obtain⟨ra,rb,xs,hw,h8,bx,qe,q⟩:=h;have hvl:(ar xs).length<=8:=Wg (O0 _ _) h8;o_head DI hw ?_;k_few
 . rename_i z
   exact⟨by simp;decide,qe z H (ag.refl _)⟩
 . rename_i z
   have z:=(by first | exact z | exact Vl.mp z:0∈xs);refine MX hw h8 bx (λlr H1 us n1 S1 e1 t1=>?_);have hul:=t1.length;rw[wl]at hul;o_head iY (.of e1) (o0:=none) (tl:=[]) rfl (λj y _=>y=.int ((bY xs).getD j 0)) ?_ ?_
   . intro D j x ys o H2 hx inv
     obtain⟨hj,ix⟩:=gC t1 hx;rw[wl]at hj;rw[wb,wo,wc hj]at ix;have ix2:Is K H2 x (kP xs (ar xs)[j]):=ix.by inv.same;o_head az (j:=1) ix2 rfl (λv3 i3=>?_);o_head TY i3 ?_;o_head dB inv (by lia) (λ_ _ _ _ _ h=>h) ⟨_,rfl⟩ (ag.refl _) ?_;unfold bY;rw[wb,wo,wc hj]
     rfl
   . intro D ys H2 hn S2 hD hl hr
     have hys:ys=(bY xs).map V.int:=OF (by rw[hl,hul];unfold bY;rw[wl]) hr;subst hys;o_head pN (.of hD) (λl3 H3 n3 S3 e3=>?_);have i3:Is K H3 (.ref l3) (TZ (bY xs)):=rJ.mpr ⟨l3,rfl,.of e3⟩;have T3:=S2.trans S3;o_head nI (cu.mpr ⟨lr,us,rfl,.of (T3 _ _ e1),ai.same T3 _ _ t1⟩) (λl4 H4 us4 n4 S4 e4 t4=>?_);rw[DE,<- Qs]at t4;o_head iY (.of e4) (o0:=none) (tl:=[]) rfl (λj y H'=>Is K H' y (N ((cz xs).getD j 0))) ?_ ?_
     . intro D' j x ys o H5 hx inv
       obtain⟨hj,ix⟩:=gC t4 hx;have hj2:j<(cz xs).length:=by rw[wl]at hj;exact hj
       have hj8:(cz xs).length<=8:=by unfold cz;rw[xr];lia
       rw[wb,wo,wc (show j<(ar xs).dropLast.length from hj2)]at ix;have ix5:Is K H5 x (kP xs (cz xs)[j]):=ix.by inv.same;o_head az (j:=0) ix5 rfl (λv6 i6=>?_);o_head dB inv (by lia) gm ⟨_,rfl⟩ (ag.refl _) ?_;rw[wb,wc hj2];exact i6
     . intro D' zs H5 hn5 S5 hD5 hl5 hr5
       have hu4:=t4.length;rw[wl]at hu4;have tz:ai K H5 zs ((cz xs).map N):=gu (by rw[hl5,hu4];rfl) hr5;o_head iR (dN hD5 tz) (λv6 H6 S6 i6=>?_);o_head bW (ds:=[TZ (bY xs),TN (cz xs)]) (by simp) (.cons (i3.by (S4.trans (S5.trans S6))) (.cons i6 .nil)) (λv7 H7 S7 i7=>?_);exact q z v7 H7 (S1.trans (T3.trans (S4.trans (S5.trans (S6.trans S7))))) i7
theorem zyH(h:Cm m xs)(i j:Nat):ah (m+2) (xs.getD i 0+(1-xs.getD j 0)):=by
 obtain⟨B,h0,h1,h2⟩:=h
 have key:∀i,∃t:Int,xs.getD i 0=wr t B/\Bd m t:=λi=>by
  rcases wD i xs.length with q | q
  ·rw[wb,wc q]
   exact h2 _ (vT q)
  ·rw[wb,wE q]
   exact⟨0,by simp,⟨by simp;exact We m⟩⟩
 obtain⟨t,et,bt⟩:=key i;obtain⟨z,ez,bz⟩:=key j
 have e2:wr t B+(1-wr z B)=wr (t+B-z) B:=by
  symm
  refine gE (by lia) ?_;have q1:=c8 t (show B≠0 by lia);have q2:=c8 z (show B≠0 by lia);have q3:((t+B-z:Int):Rat)=(t:Rat)+(B:Rat)-(z:Rat):=by push_cast;rfl
  rw[q3,<- q1,<- q2]
  grind
 rw[et,ez,e2];exact ah.divInt (by lia) (((bt.add h1).sub bz).mono (by lia)) (h1.mono (by lia))
def UB(K:wa):Sp:=λvs H Q _=>∃x0 x1 x2 x3,vs=[x0,x1,x2,x3] /\ ∃(a b:Rat)(n i:Int)(xs:List Rat)(m:Nat),x1=.int n/\x3=.int i/\Is K H x0 (R a b)/\Is K H x2 (LN xs)/\ah 10 a/\ah 10 b/\0<=n/\n<=64/\0<=i/\i<xs.length/\xs.length<=100/\Cm m xs/\m<=8000 /\
 ∀l H' us,H l=none->ag H H'->H' l=some (.lst us)->ai K H' us ((dZ a b n.toNat xs i.toNat).map N)->Q (.ref l) H'
theorem zlG{a:Rat}{n i:Int}{w:V}(h1:Is K H v (R a b))(h2:Is K H w (LN xs))(b1:ah 10 a)(b2:ah 10 b)(h0:0<=n)(h64:n<=64)(i0:0<=i)(i1:i<xs.length)(hl:xs.length<=100)(hm:Cm m xs)(hm2:m<=8000)
  (q:∀l H' us,H l=none->ag H H'->H' l=some (.lst us)->ai K H' us ((dZ a b n.toNat xs i.toNat).map N)->Q (.ref l) H'):UB K [v,.int n,w,.int i] H Q E:=⟨_,_,_,_,rfl,a,b,n,i,xs,m,rfl,rfl,h1,h2,b1,b2,h0,h64,i0,i1,hl,hm,hm2,q⟩
theorem zl2(T:Txt K mg a):aI P w K mg base aU 4 a.HL a.GU uQ (UB K):=by
 refine T.GY.F.ok zy ?_ ?_;wtm_at "b4"
 refine⟨_,(av (aA 4 zy.nd (ak (yV T) hr T.p5 (ae (cB (v:=.ref a.eO) rfl T.fI rfl) (ae (c9 cJ (pv 2) (pv 3) (λ_ _=>rfl)) af))))
     (av (aA 5 zy.nd (ak (zo T) hr T.pZ (ae (pv 0) (ae (pv 1) af))))
     (av (mR (i:=6) zy.nd rfl (Or.inl rfl) rfl (cK.by (N':=["phase","push","wait"]) (src:=[none,some 5,some 4]) rfl (by kernel_rfl)) (fe (pv 2)) (λ_ _ _ _ _=>(bP (i:=0) (of_decide_eq_true (by kernel_rfl)) rfl (Or.inl rfl))) (λ_ _ _ _ _=>dw) (λ_ _ _ _ _=>(ak (UU (K:=K) (mg:=mg) (a:=a) T) hr T.A7 (ae (pv 1) (ae (ak (hW (K:=K) (mg:=mg) (a:=a) T) hr T.gr (ae (pv 0) (ae (pv 2) af))) af)))))
     (av (sE (cB (v:=.ref a.dy) rfl T.ee rfl) (rM (pv 6) (pv 3) rR))
     (ay (aC (pv 6))))))),?_⟩
 wtm_at "cl";rw[show start Uz [x0,x1,x2,x3]=[some x0,some x1,some x2,some x3,none,none,none]from rfl];obtain⟨a',b',n,i,xs,m,rfl,rfl,hr',hx,ba,bb,h0,h64,i0,i1,hl,hm,hm2,q⟩:=h;have bi:ah 8000 (xs.getD i.toNat 0):=(hm.get _).mono hm2;have bw:ah 8002 (1-xs.getD i.toNat 0):=(ah.one.sub bi).mono (by decide);have bf:ah 700 (a'^n.toNat):=(ba.pow n.toNat).mono (by lia);have bg:ah 1500 (aE a' b' n.toNat):=(ba.aE bb n.toNat).mono (by lia);o_head lH hx i0 i1 (λv1 iv1=>?_);k_few;rename_i v2 H2 S2 iv2;refine Cw (hr'.by S2) ba bb h0 h64 (λv3 H3 S3 iv3=>?_);have T3:=S2.trans S3;have iv2':=iv2.by S3;have hx3:=hx.by T3;clear iv1 iv2 S2 S3 hx hr';k_few;obtain⟨lx,vs,rfl,hs,t⟩:=cu.mp hx3;refine iY hs (o0:=none) (tl:=[some v3,some v2]) rfl (λj v H=>Is K H v (N ((xs.map λx=>push a' b' n.toNat (x+(1-xs.getD i.toNat 0))).getD j 0))) ?_ ?_
 . rintro D j x ys o H1 hx' inv
   obtain⟨hj,ix⟩:=dJ t hx';have ix1:=ix.by inv.same;have jv2:=iv2'.by inv.same;have jv3:=iv3.by inv.same;have bx:ah 8000 (xs.getD j 0):=(hm.get j).mono hm2;k_few;rename_i v4 H4 S4 iv4;refine Sw (jv3.by S4) iv4 bf bg ((zyH hm j i.toNat).mono (by lia)) (λv5 H5 S5 iv5=>?_);exact dB inv (by lia) gm ⟨_,rfl⟩ (S4.trans S5) (by rw[pP hj,iZ];exact iv5)
 . rintro D ys H4 hn S4 e4 hl4 hr4
   have hvl:=t.length;rw[wl]at hvl;have hyl:ys.length=xs.length:=by lia
   clear hs t hx3 iv2' iv3;o_head z5 (j:=i.toNat) e4 (by unfold iV;rw[if_pos i0,if_pos (by lia)]) (λH5 E5 e5=>?_);k_few;have hD:=iU T3 hn;refine q D H5 _ hD ((T3.trans S4).grow hD E5) e5 (gu (by rw[W9,jc];exact hyl) λj v hv=>?_);rw[Vi]at hv
   by_cases hij:i.toNat=j
   . subst hij
     rw[if_pos rfl,if_pos (by lia)]at hv;cases hv;rw[gS _ _ _ _ _ _ (by lia),if_pos rfl];exact eS 0 (T.fq _) rfl rfl
   . rw[if_neg hij]at hv
     have hj:j<xs.length:=by
       rcases wD j ys.length with z | z
       . lia
       . rw[wE z]at hv;cases hv
     have hz:=hr4 j v hv;rw[pP hj]at hz;rw[gS _ _ _ _ _ _ hj,if_neg (Wr hij)];exact hz.gM (E5.keep e4)
structure cZ(a b:Rat)(ns:List Int)(xs:List Rat):Prop where
 ba:ah 10 a
 bb:ah 10 b
 n0:∀n∈ns,0<=n/\n<=64
 len:ns.length=xs.length+1
 bM:ns.length<=50
 cm:∃m,Cm m xs/\m+2*ns.length+21*upTo ns ns.length<=8000
theorem EK : ∀{k j:Nat},k<=j->j<=ns.length->upTo ns k<=upTo ns j:=by
 intro k j hk
 induction j with
 | zero => intro _; have : k = 0 := by lia
           subst this;exact wn _
 | succ j ih =>
   intro hj;rcases wD k (j+1)with z | z
   . rw[sD (by lia)]
     have:=ih (by lia) (by lia);lia
   . have:k=j+1:=by lia
     subst this;exact wn _
theorem cZ.row{a:Rat}(h:cZ a b ns xs)(hk:k<=ns.length):∃m,Cm m (aR a b ns (xs++[0]) k)/\m<=8000:=by
 obtain⟨m,hm,hm2⟩:=h.cm;refine⟨_,(hm.snoc).rows h.ba h.bb k hk,?_⟩;have:=EK (ns:=ns) hk (wn _);lia
def oP(a b:Rat)(ns:List Int)(xs:List Rat):List (List Rat):=(wp (ns.length+1)).map (aR a b ns (xs++[0]))
theorem sY(a b:Rat)(ns:List Int)(xs:List Rat):(oP a b ns xs).length=ns.length+1:=by simp[oP]
theorem yb{a:Rat}(h:k<=ns.length):(oP a b ns xs).getD k []=aR a b ns (xs++[0]) k:=by
 unfold oP;rw[wb,wo,vY (by lia)]
 rfl
def M_(K:wa):Sp:=λvs H Q _=>∃x0 x1 x2,vs=[x0,x1,x2] /\ ∃(a b:Rat)(ns:List Int)(xs:List Rat),Is K H x0 (R a b)/\Is K H x1 (TZ ns)/\Is K H x2 (TN xs)/\cZ a b ns xs /\ ∀l H',ag H H'->Is K H' (.ref l) (LL (oP a b ns xs))->Q (.ref l) H'
theorem Dv{a:Rat}{w:V}(h1:Is K H v (R a b))(h2:Is K H w (TZ ns))(h3:Is K H u (TN xs))(ok:cZ a b ns xs)(q:∀l H',ag H H'->Is K H' (.ref l) (LL (oP a b ns xs))->Q (.ref l) H'):M_ K [v,w,u] H Q E:=⟨_,_,_,rfl,a,b,ns,xs,h1,h2,h3,ok,q⟩
theorem F9(T:Txt K mg a):aI P w K mg base aU 5 a.tW a.JH zt (M_ K):=by
 refine T.tS.F.ok yW ?_ ?_;wtm_at "b3"
 refine⟨_,(av (aA 3 yW.nd (d4 (ae (aB cv (dW (show aN _ (.type "list") (ke K)from oj) rfl T.h0l kF (ae (pv 2) af)) (d4 (ae (cB (v:=.ref a.dy) rfl T.ee rfl) af))) af)))
     (av (gD vd rfl (Ui rfl T.h0d (ae (pv 1) af)) (oo (n:=2) rfl (iP (bP (i:=4) yW.nd rfl (Or.inl rfl)) (iP (bP (i:=5) yW.nd rfl (Or.inl rfl)) pD))) (ay (ki (jZ vP vM vN jC (pv 3) (ae (ak (zl2 T) hr T.GY (by exact(@ae _ _ _ _ _ (pv 0) (@ae _ _ _ _ _ (pv 5) (@ae _ _ _ _ _ (c9 cJ (pv 3) (pv 4) (λ_ _=>rfl)) (@ae _ _ _ _ _ (pv 4) af bX) gJ) bX) bX))) af)))))
     (ay (aC (pv 3))))),?_⟩
 wtm_at "cl";rw[show start Ri [x0,x1,x2]=[some x0,some x1,some x2,none,none,none]from rfl];obtain⟨a',b',ns,xs,hr',hn',hp',ok,q⟩:=h;have hlen:=ok.len;have hfew:=ok.bM;o_head rQ hp' (λl1 H1 us hl1 S1 e1 t1=>?_);have hul:=t1.length;rw[wl]at hul;o_head cS (by simp) (λl2 H2 hl2 S2 e2=>?_);refine fR (S2 _ _ e1) e2 (WN (jV (by simp;lia))) (λl3 H3 hl3 S3 e3=>?_);o_head cS (by simp) (λlt H4 hlt S4 e4=>?_);have T4:ag H H4:=S1.trans (S2.trans (S3.trans S4));have e3':=S4 _ _ e3;have ne43:l3≠lt:=λz=>by subst z;rw[e3]at hlt;cases hlt
 have t3:ai K H4 (us++[V.ref a.dy]) ((xs++[0]).map N):=by
   rw[vF];exact(ai.same (S2.trans (S3.trans S4)) _ _ t1).append (.cons (eS 0 (T.fq _) rfl rfl) .nil)
 have hD:=iU (S1.trans (S2.trans S3)) hlt;clear hl1 hl2 hl3 S1 S2 S3 S4 e1 e2 e3 t1 hlt;k_few;obtain⟨an,rfl,hsn⟩:=rJ.mp hn'
 refine ZF (T4.j6 hsn) (λk σ H'=>∃o1 o2 vs,σ = [some x0,some (.ref an),some x2,some (.ref lt),o1,o2]/\ag H H'/\H' lt=some (.lst vs)/\vs.length=k+1 /\ ∀j v,vs[j]? = some v->∃lj ws,v=.ref lj/\lj≠lt/\H' lj=some (.lst ws)/\ai K H' ws ((aR a' b' ns (xs++[0]) j).map N))
   ⟨_,_,_,rfl,T4,e4,rfl,λj v hv=>?_⟩ (λk σ H' _ ⟨_,_,_,_,s,_⟩=>s.j6 hsn) ?_ ?_
 . match j,hv with
   | 0,e=>cases wW e;exact⟨l3,_,rfl,ne43,e3',t3⟩
   | j+1,e=>simp at e
 . rintro k x σ H5 t H6 hx ⟨o1,o2,vs,rfl,S5,e5,hl5,hr5⟩ ht S6 e6
   have hk:k<ns.length:=by
     rcases wD k ns.length with z | z
     . exact z
     . rw[wE (by simpa using z)]at hx;cases hx
   have hxv:x=.int (ns.getD k 0):=by
     rw[wo,wc hk]at hx;rw[wb,wc hk];exact(wW hx).symm
   subst hxv;have hnk:=ok.n0 (ns.getD k 0) (by rw[wb,wc hk];exact vT hk);refine nJ (.of e6) rfl ?_;k_few;have e5':=S6 _ _ e5;refine jA (aP.of e5') ?_;k_few;have hkv:∃v,vs[k]? = some v:=⟨vs[k]'(by lia),wc (by lia)⟩;obtain⟨v,hv⟩:=hkv;obtain⟨lk,ws,rfl,nek,ek,tk⟩:=hr5 k v hv;refine jD (aP.of e5') (mm hv) ?_;k_few;obtain⟨m,hm,hm2⟩:=ok.row (k:=k) (by lia);have hrl:=du a' b' ns (xs++[0]) k;rw[wy]at hrl;have T6:=S5.trans S6;refine zlG (hr'.by T6) (dN (S6 _ _ ek) (ai.same S6 _ _ tk)) ok.ba ok.bb hnk.1 hnk.2 (by lia) (by rw[hrl];simp;lia) (by rw[hrl];simp;lia) hm hm2 (λl7 H7 us7 hl7 S7 e7 t7=>?_);have e5'':=S7 _ _ e5';have ne7:l7≠lt:=λz=>by subst z;rw[e5']at hl7;cases hl7
   o_head jG e5'' (by lia) (λH8 E8 e8=>?_);have K8:bE H7 H8:=E8.keep e5'';refine⟨_,_,_,rfl,(T6.trans S7).grow hD E8,e8,by simp[hl5],λj v hv=>?_⟩;rcases wD j vs.length with z | z
   . rw[vR z]at hv
     obtain⟨lj,wj,rfl,nej,ej,tj⟩:=hr5 j v hv;exact⟨lj,wj,rfl,nej,E8 _ _ nej (S7 _ _ (S6 _ _ ej)),ai.keep (S6.keep.trans (S7.keep.trans K8)) _ _ (gf _) tj⟩
   . have hj:j=vs.length:=by
       rcases wD vs.length j with q | q
       . rw[wE (by simp;lia)]at hv;cases hv
       . lia
     subst hj;rw[vf (wn _),W7]at hv;cases wW hv;rw[hl5];refine⟨l7,us7,rfl,ne7,E8 _ _ ne7 e7,ai.keep K8 _ _ (gf _) ?_⟩;rw[aR]
     simpa using t7
 . rintro σ H5 ⟨o1,o2,vs,rfl,S5,e5,hl5,hr5⟩
   o_head q lt H5 S5 (cu.mpr ⟨lt,vs,rfl,.of e5,LR (by rw[hl5,sY];simp) λj v hv=>?_⟩)
   have hj:j<vs.length:=by
     rcases wD j vs.length with z | z
     . exact z
     . rw[wE z]at hv;cases hv
   obtain⟨lj,wj,rfl,nej,ej,tj⟩:=hr5 j v hv;rw[yb (by simp at hl5;lia)];exact dN ej tj
def dj(a b:Rat)(ns:List Int)(xs:List Rat):List Rat:=(aR a b ns (xs++[0]) ns.length).dropLast
def Rz(K:wa):Sp:=λvs H Q _=>∃x0 x1 x2,vs=[x0,x1,x2] /\ ∃(a b:Rat)(ns:List Int)(xs:List Rat),Is K H x0 (R a b)/\Is K H x1 (TZ ns)/\Is K H x2 (TN xs)/\cZ a b ns xs /\ ∀v H',ag H H'->Is K H' v (TN (dj a b ns xs))->Q v H'
theorem Tf{a:Rat}{w:V}(h1:Is K H v (R a b))(h2:Is K H w (TZ ns))(h3:Is K H u (TN xs))(ok:cZ a b ns xs)(q:∀v H',ag H H'->Is K H' v (TN (dj a b ns xs))->Q v H'):Rz K [v,w,u] H Q E:=⟨_,_,_,rfl,a,b,ns,xs,h1,h2,h3,ok,q⟩
theorem Yl(T:Txt K mg a):aI P w K mg base aU 6 a.HX a.GX z9 (Rz K):=by
 refine T.AZ.F.ok zm1 ?_ ?_;wtm_at "b3";refine⟨_,(ay (aC (dW (show aN _ (.type "tuple") (eH K)from ft) rfl T.h0i dU (ae (fY fV (c9 cJ (ak (F9 T) hr T.tS (ae (pv 0) (ae (pv 1) (ae (pv 2) af)))) (fE fC ao) (λ_ _=>rfl)) fS (fT (fE fC ao))) af)))),?_⟩;wtm_at "cl";rw[show start Cq [x0,x1,x2]=[some x0,some x1,some x2]from rfl];obtain⟨a',b',ns,xs,hr',hn',hp',ok,q⟩:=h;o_head Dv hr' hn' hp' ok (λl H1 S1 i1=>?_);o_head zwE i1 (by rw[sY];lia) (λv2 i2=>?_);rw[sY,qr,yb (wn _)]at i2;o_head nI i2 (λl3 H3 ys hn3 S3 e3 t3=>?_);rw[DE,<- Qs]at t3;o_head iR (dN e3 t3) (λw H4 S4 i4=>?_);exact q w H4 (S1.trans (S3.trans S4)) i4
theorem Tv{a:Rat}(ok:cZ a b ns xs)(c:Cm m xs)(hm:m+2*ns.length+21*upTo ns ns.length<=8000)(hk:k<=ns.length):Cm 8000 (fh a b ns (xs++[0]) k::aR a b ns (xs++[0]) k):=by
 have h1:=EK (ns:=ns) hk (wn _);exact(c.snoc.Bp ok.ba ok.bb (ns:=ns) k hk).mono (by lia)
def Th(K:wa):Sp:=λvs H Q _=>∃x0 x1 x2,vs=[x0,x1,x2] /\ ∃(a b:Rat)(ns:List Int)(xs:List Rat)(m:Nat),Is K H x0 (R a b)/\Is K H x1 (TZ ns)/\Is K H x2 (TN xs)/\cZ a b ns xs/\Cm m xs/\m+2*ns.length+21*upTo ns ns.length<=8000 /\ ∀v H',ag H H'->Is K H' v (N (fK a b ns xs))->Q v H'
theorem zpj{a:Rat}{w:V}(h1:Is K H v (R a b))(h2:Is K H w (TZ ns))(h3:Is K H u (TN xs))(ok:cZ a b ns xs)(hm:Cm m xs)(hm2:m+2*ns.length+21*upTo ns ns.length<=8000)(q:∀v H',ag H H'->Is K H' v (N (fK a b ns xs))->Q v H'):Th K [v,w,u] H Q E:=⟨_,_,_,rfl,a,b,ns,xs,m,h1,h2,h3,ok,hm,hm2,q⟩
theorem zpf(T:Txt K mg a):aI P w K mg base aU 6 a.IV a.Hq zb (Th K):=by
 refine T.Ik.F.ok rX ?_ ?_;wtm_at "b3"
 refine⟨_,(av (aA 3 rX.nd (cB (v:=.ref a.dy) rfl T.ee rfl))
     (av (aA 4 rX.nd (ak (F9 T) hr T.tS (ae (pv 0) (ae (pv 1) (ae (pv 2) af)))))
     (av (gD vd rfl (jo rfl T.h0j (ae (bQ (show aN _ (.builtin "len") (cO K)from dH) rfl T.h0o dM (ae (pv 1) af)) af)) (bP (i:=5) rX.nd rfl (Or.inl rfl)) (ay (aA 3 rX.nd (ak (hW T) hr T.gr (ae (pv 3) (ae (ak (yV T) hr T.p5 (ae (cB (v:=.ref a.eO) rfl T.fI rfl) (ae (c9 cJ (c9 cJ (pv 4) (pv 5) (λ_ _=>rfl)) (pv 5) (λ_ _=>rfl)) af))) af))))))
     (ay (aC (pv 3)))))),?_⟩
 wtm_at "cl";rw[show start NT [x0,x1,x2]=[some x0,some x1,some x2,none,none,none]from rfl];obtain⟨a',b',ns,xs,m,hr',hn',hp',ok,hm,hm2,q⟩:=h;o_head Dv hr' hn' hp' ok (λl H1 S1 i1=>?_);o_head Cz (hn'.by S1) ?_;have hlen:=ok.len;have hfew:=ok.bM;refine ku (n:=(ns.length:Int)) (by lia) (by lia) (λk σ H'=>∃v o,σ = [some x0,some x1,some x2,some v,some (.ref l),o]/\ag H1 H'/\Is K H' v (N (fh a' b' ns (xs++[0]) k))) ⟨_,_,rfl,ag.refl _,eS 0 (T.fq _) rfl rfl⟩ ?_ ?_
 . rintro k σ H2 hk ⟨v,o,rfl,S2,iv⟩
   have hk':k<ns.length:=by simpa using hk
   have c:=Tv ok hm hm2 (k:=k) (by lia);have b1:ah 8000 (fh a' b' ns (xs++[0]) k):=c.dQ (wB ..);have b2:ah 8000 ((aR a' b' ns (xs++[0]) k).getD k 0):=(lY c λy hy=>wu _ hy).get k;have b4:ah 8002 (1-(aR a' b' ns (xs++[0]) k).getD k 0):=(ah.one.sub b2).mono (by decide);have i2:=i1.by S2;o_head Rr i2 (by lia) (by rw[sY];lia) (λv3 i3=>?_);rw[wS,yb (by lia)]at i3;o_head lH i3 (by lia) (by rw[du,wy];simp;lia) (λv4 i4=>?_);rw[wS]at i4;k_few;exact⟨_,_,rfl,S2.trans (ag.trans (by assumption) (by assumption)),by assumption⟩
 . rintro σ H2 ⟨v,o,rfl,S2,iv⟩
   k_few;exact q _ _ (S1.trans S2) iv
def fu(a b:Rat)(ns:List Int)(xs:List Rat):List Rat:=(wp ns.length).map λk=>(aR a b ns (xs++[0]) (k+1)).getD ((k+1) % ns.length) 0
theorem jX(a b:Rat)(ns:List Int)(xs:List Rat):(fu a b ns xs).length=ns.length:=by simp[fu]
theorem oq{a:Rat}(h:k<ns.length):(fu a b ns xs).getD k 0=(aR a b ns (xs++[0]) (k+1)).getD ((k+1) % ns.length) 0:=by
 unfold fu;rw[wb,wo,vY h]
 rfl
def Nl(K:wa):Sp:=λvs H Q _=>∃x0 x1 x2,vs=[x0,x1,x2] /\ ∃(a b:Rat)(ns:List Int)(xs:List Rat),Is K H x0 (R a b)/\Is K H x1 (TZ ns)/\Is K H x2 (TN xs)/\cZ a b ns xs /\ ∀v H',ag H H'->Is K H' v (TN (fu a b ns xs))->Q v H'
theorem U8{a:Rat}{w:V}(h1:Is K H v (R a b))(h2:Is K H w (TZ ns))(h3:Is K H u (TN xs))(ok:cZ a b ns xs)(q:∀v H',ag H H'->Is K H' v (TN (fu a b ns xs))->Q v H'):Nl K [v,w,u] H Q E:=⟨_,_,_,rfl,a,b,ns,xs,h1,h2,h3,ok,q⟩
theorem Ut(T:Txt K mg a):aI P w K mg base aU 6 a.jh a.Ko zd (Nl K):=by
 refine T.Bn.F.ok Dl ?_ ?_;wtm_at "b3"
 refine⟨_,(av (aA 3 Dl.nd (ak (F9 T) hr T.tS (ae (pv 0) (ae (pv 1) (ae (pv 2) af)))))
     (av (aA 4 Dl.nd (bQ (show aN _ (.builtin "len") (cO K)from dH) rfl T.h0o dM (ae (pv 1) af)))
     (ay (aC (dW (show aN _ (.type "tuple") (eH K)from ft) rfl T.h0i dU (ae (dS rfl (cK.by (N':=["turn","rows","count"]) (src:=[none,some 3,some 4]) rfl (by kernel_rfl)) (jo rfl T.h0j (ae (pv 4) af)) (λ_ _ _ _ _=>(bP (i:=0) (of_decide_eq_true (by kernel_rfl)) rfl (Or.inl rfl))) (λ_ _ _ _ _=>dw) (λ_ _ _ _ _=>(c9 (show gH _ (dh K)from cJ) (c9 (show gH _ (dh K)from cJ) (pv 1) (aB cv (pv 0) ao) (λ_ _=>rfl)) (aB iB (aB cv (pv 0) ao) (pv 2)) (λ_ _=>rfl)))) af)))))),?_⟩
 wtm_at "cl";rw[show start U2 [x0,x1,x2]=[some x0,some x1,some x2,none,none]from rfl];obtain⟨a',b',ns,xs,hr',hn',hp',ok,q⟩:=h;have hlen:=ok.len;have hfew:=ok.bM;o_head Dv hr' hn' hp' ok (λl H1 S1 i1=>?_);o_head Cz (hn'.by S1) ?_;o_head zAO (n:=(ns.length:Int)) (by lia) (by lia) (o0:=none) (tl:=[some (.ref l),some (.int (ns.length:Int))]) rfl (λi v H=>Is K H v (N ((fu a' b' ns xs).getD i 0))) ?_ ?_
 . rintro D i ys o H2 hi inv
   have hi':i<ns.length:=by simpa using hi
   have i2:=i1.by inv.same;have hn0:(0:Int)<(ns.length:Int):=by lia
   o_head Rr i2 (by lia) (by rw[sY];lia) (λv3 i3=>?_);rw[show((i:Int)+1).toNat=i+1 by lia,yb (by lia)]at i3;k_few;have e:((i:Int)+1) % (ns.length:Int)=(((i+1) % ns.length:Nat):Int):=by push_cast;rfl
   have hm:(i+1) % ns.length<ns.length:=XN _ (by lia);rw[e];refine lH i3 (by lia) (by rw[du,wy];simp;lia) (λv4 i4=>?_);rw[wS,<- oq hi']at i4;exact dB inv (by lia) gm ⟨_,rfl⟩ (ag.refl _) i4
 . rintro D ys H2 hn S2 e2 hl2 hr2
   o_head iR (dN e2 (gu (by rw[hl2,jX];simp) hr2)) (λw H3 S3 i3=>?_);exact q w H3 (S1.trans (S2.trans S3)) i3
theorem pG{bs:List Bool}{zs:List V}(hl:zs.length=bs.length)(h:∀j z,zs[j]? = some z->z=V.bl (bs.getD j true)):zs=bs.map V.bl:=by
 refine VA (by rw[wl];exact hl) λi h1 h2=>?_
 rw[h i _ (wc h1),VB,wb,wc (by lia)]
 rfl
def dX(xs:List Rat):List Rat:=[1]++xs++[0]
theorem yt(xs:List Rat):(dX xs).length=xs.length+2:=by simp[dX]
def ow(xs:List Rat):List Bool:=(wp (xs.length+1)).map λi=>decide ((dX xs).getD (i+1) 0<(dX xs).getD i 0)
def nu(ts:List Rat):List Bool:=ts.map λx=>decide (x<1)
def fD(a b:Rat)(ns:List Int)(xs:List Rat):Bool:=(ow xs).all id&&(nu (fu a b ns xs)).all id
theorem zuF(h:i<xs.length+1):(ow xs).getD i true=decide ((dX xs).getD (i+1) 0<(dX xs).getD i 0):=by
 unfold ow;rw[wb,wo,vY h]
 rfl
theorem ZY{ts:List Rat}(h:i<ts.length):(nu ts).getD i true=decide (ts.getD i 0<1):=by
 unfold nu;rw[wb,wo,wb,wc h]
 rfl
theorem Oz(h:Cm m xs)(i:Nat):ah m ((dX xs).getD i 0):=by
 unfold dX;rcases Nat.eq_zero_or_pos i with rfl | hi
 ·exact ah.one.mono h.pos
 ·obtain⟨j,rfl⟩:∃j,i=j+1:=⟨i-1,by lia⟩
  exact h.snoc.get j
theorem Sl{a:Rat}(ok:cZ a b ns xs)(hi:i<ns.length):ah 8000 ((fu a b ns xs).getD i 0):=by
 rw[oq hi];obtain⟨m,hm,hm2⟩:=ok.row (k:=i+1) (by lia);exact(hm.get _).mono hm2
def Yg(K:wa):Sp:=λvs H Q _=>∃x0 x1 x2,vs=[x0,x1,x2] /\ ∃(a b:Rat)(ns:List Int)(xs:List Rat),Is K H x0 (R a b)/\Is K H x1 (TZ ns)/\Is K H x2 (TN xs)/\cZ a b ns xs /\ ∀H',ag H H'->Q (.bl (fD a b ns xs)) H'
theorem sf{a:Rat}{w:V}(h1:Is K H v (R a b))(h2:Is K H w (TZ ns))(h3:Is K H u (TN xs))(ok:cZ a b ns xs)(q:∀H',ag H H'->Q (.bl (fD a b ns xs)) H'):Yg K [v,w,u] H Q E:=⟨_,_,_,rfl,a,b,ns,xs,h1,h2,h3,ok,q⟩
theorem tI(T:Txt K mg a):aI P w K mg base aU 7 a.Ku a.IU zf (Yg K):=by
 refine T.nQ.F.ok Ud ?_ ?_;wtm_at "b3"
 refine⟨_,(av (aA 3 Ud.nd (aB cv (aB cv (d4 (ae (cB (v:=.ref a.eO) rfl T.fI rfl) af)) (dW (show aN _ (.type "list") (ke K)from oj) rfl T.h0l kF (ae (pv 2) af))) (d4 (ae (cB (v:=.ref a.dy) rfl T.ee rfl) af))))
     (av (cg (cN (cE (bQ (show aN _ (.builtin "all") (mj K)from pb rfl) rfl T.h0s pO (ae (dS rfl (cK.by (N':=["upper","lower"]) (src:=[none,none]) rfl (by kernel_rfl)) (SR rfl T.h0v (ae (pv 3) (ae (fY fV (pv 3) (fT ao) fS) af))) (λ_ _ _ _ _=>by exact(show PG _ _ (oY K 2 _)from oo (n:=2) rfl (iP (bP (i:=0) (of_decide_eq_true (by kernel_rfl)) rfl (Or.inl rfl)) (iP (bP (i:=1) (of_decide_eq_true (by kernel_rfl)) rfl (Or.inl rfl)) pD)))) (λ_ _ _ _ _=>dw) (λ_ _ _ _ _=>(ak (iC (K:=K) (mg:=mg) (a:=a) T) hr T.gO (ae (pv 1) (ae (pv 0) af))))) af)))) (ay (aC cP)) ck)
     (ay (aC (bQ (show aN _ (.builtin "all") (mj K)from pb rfl) rfl T.h0s pO (ae (dS rfl (cK.by (N':=["top"]) (src:=[none]) rfl (by kernel_rfl)) (jF (ak (Ut T) hr T.Bn (ae (pv 0) (ae (pv 1) (ae (pv 2) af))))) (λ_ _ _ _ _=>(bP (i:=0) (of_decide_eq_true (by kernel_rfl)) rfl (Or.inl rfl))) (λ_ _ _ _ _=>dw) (λ_ _ _ _ _=>(ak (iC (K:=K) (mg:=mg) (a:=a) T) hr T.gO (ae (pv 0) (ae (cB (v:=.ref a.eO) rfl T.fI rfl) af))))) af)))))),?_⟩
 wtm_at "cl";rw[show start Rk [x0,x1,x2]=[some x0,some x1,some x2,none]from rfl];obtain⟨a',b',ns,xs,hr',hn',hp',ok,q⟩:=h;have hlen:=ok.len;have hfew:=ok.bM;obtain⟨m,hcm,hcm2⟩:=ok.cm;o_head cS (by simp) (λl0 H1 n1 S1 e1=>?_);o_head rQ (hp'.by S1) (λl1 H2 us n2 S2 e2 t2=>?_);have hul:=t2.length;rw[wl]at hul;refine fR (S2 _ _ e1) e2 (WN (jV (by simp;lia))) (λl2 H3 n3 S3 e3=>?_);o_head cS (by simp) (λl3 H4 n4 S4 e4=>?_);refine fR (S4 _ _ e3) e4 (WN (jV (by simp;lia))) (λl5 H5 n5 S5 e5=>?_);have T5:ag H H5:=S1.trans (S2.trans (S3.trans (S4.trans S5)))
 have t5:ai K H5 ([V.ref a.eO]++us++[V.ref a.dy]) ((dX xs).map N):=by
   unfold dX;rw[vF,vF];exact(ai.append (.cons (eS 1 (T.uu _) rfl rfl) .nil) (ai.same (S3.trans (S4.trans S5)) _ _ t2)).append (.cons (eS 0 (T.fq _) rfl rfl) .nil)
 have ir5:=hr'.by T5;have in5:=hn'.by T5;have ip5:=hp'.by T5;clear n1 n2 n3 n4 n5 S1 S2 S3 S4 S5 e1 e2 e3 e4 t2 hr' hn' hp';generalize [V.ref a.eO]++us++[V.ref a.dy]=ws at e5 t5;have hws:=t5.length;rw[wl,yt]at hws;o_head nI (dN e5 t5) (λl6 H6 ys n6 S6 e6 t6=>?_);rw[show(1:Int)=((1:Nat):Int)from rfl,om _ _ (by rw[wl,yt];lia),<- X7]at t6;have hys:=t6.length;rw[wl,ve,yt]at hys;have e56:=S6 _ _ e5;have t56:=ai.same S6 _ _ t5;have T6:=T5.trans S6;have ir6:=ir5.by S6;have in6:=in5.by S6;have ip6:=ip5.by S6;clear ir5 in5 ip5 T5 S6 e5 t5 n6;o_head zxp (t:=false) (u:=false) (aP.of e56) (aP.of e6) (by lia) (o0:=none) (o0':=none) (tl:=[]) rfl (λi v H=>v=V.bl ((ow xs).getD i true)) (λ_ _ _ _ _ h=>h) ?_ ?_
 . rintro D i x y zs o1 o2 H7 c hx hy inv e7
   obtain⟨hi,ix⟩:=dJ t56 hx;obtain⟨hj,iy⟩:=dJ t6 hy;rw[ve,yt]at hj
   have ed:((dX xs).drop 1).getD i 0=(dX xs).getD (i+1) 0:=by
     rw[wb,xL,wb,Nat.add_comm]
   rw[ed]at iy;have S7:=inv.2.2.1;have b1:ah 8000 ((dX xs).getD i 0):=(Oz hcm i).mono (by lia);have b2:ah 8000 ((dX xs).getD (i+1) 0):=(Oz hcm (i+1)).mono (by lia);refine OX (nJ (.of e7) rfl ?_);have ix7:=ix.by S7;have iy7:=iy.by S7;k_few;exact Aq inv (by lia) (λ_ _ _ _ _ h=>h) ⟨_,_,rfl⟩ (ag.refl _) (by rw[zuF (by lia)])
 . rintro D zs H7 hn S7 e7 hl7 hr7
   have hz:=pG (bs:=ow xs) (by unfold ow;rw[wl,vD];lia) hr7;rw[hz]at e7;o_head nM (.of e7) ?_;k_few
   . rename_i z
     have ef:fD a' b' ns xs=false:=by unfold fD;rw[z];rfl
     rw[<- ef];exact q _ (T6.trans S7)
   . rename_i z
     have ef:fD a' b' ns xs=(nu (fu a' b' ns xs)).all id:=by unfold fD;rw[z];rfl
     rw[ef]at q;refine U8 (ir6.by S7) (in6.by S7) (ip6.by S7) ok (λv8 H8 S8 i8=>?_);have T8:=T6.trans (S7.trans S8);obtain⟨a8,us8,rfl,hs8,t8⟩:=cb.mp i8;have hl8:=t8.length;rw[wl,jX]at hl8;refine iX hs8 (o0:=none) (tl:=[]) rfl (λi v H=>v=V.bl ((nu (fu a' b' ns xs)).getD i true)) ?_ ?_
     . rintro D i x ys' o H9 hx inv
       obtain⟨hi,ix⟩:=dJ t8 hx;rw[jX]at hi;have ix9:=ix.by inv.same;have b1:ah 8000 ((fu a' b' ns xs).getD i 0):=Sl ok hi;have b2:ah 8000 1:=ah.one.mono (by decide);k_few;exact dB inv (by lia) (λ_ _ _ _ _ h=>h) ⟨_,rfl⟩ (ag.refl _) (by rw[ZY (by rw[jX];exact hi)])
     . rintro D ys' H9 hn9 S9 e9 hl9 hr9
       have hz':=pG (bs:=nu (fu a' b' ns xs)) (by unfold nu;rw[wl,jX];lia) hr9;rw[hz']at e9;o_head nM (.of e9) ?_;exact q _ (T8.trans S9)
def cT(n:Nat):List Rat:=w8 n 0
theorem Rg(n i:Nat):(cT n).getD i 0=0:=by
 unfold cT;rw[wb,QF]
 split<;>rfl
theorem rq(n:Nat):Cm 1 (cT n):=by
 refine⟨1,by decide,⟨by decide⟩,λx hx=>⟨0,?_,⟨by decide⟩⟩⟩;rw[List.eq_of_mem_replicate hx]
 rfl
def MF(K:wa):Sp:=λvs H Q _=>∃x0 x1,vs=[x0,x1] /\ ∃(a b:Rat)(ns:List Int),Is K H x0 (R a b)/\Is K H x1 (TZ ns)/\cZ a b ns (cT (ns.length-1))/\0<=ns.sum/\ns.sum<=64 /\ ∀v H',ag H H'->Is K H' v (.tuple [N (a^ns.sum.toNat),TN (dj a b ns (cT (ns.length-1)))])->Q v H'
theorem sZ{a:Rat}{w:V}(h1:Is K H v (R a b))(h2:Is K H w (TZ ns))(ok:cZ a b ns (cT (ns.length-1)))(h0:0<=ns.sum)(h64:ns.sum<=64)(q:∀v H',ag H H'->Is K H' v (.tuple [N (a^ns.sum.toNat),TN (dj a b ns (cT (ns.length-1)))])->Q v H'):MF K [v,w] H Q E:=⟨_,_,rfl,a,b,ns,h1,h2,ok,h0,h64,q⟩
theorem sX(T:Txt K mg a):aI P w K mg base aU 7 a.JB a.Ij Aa (MF K):=by
 refine T.nO.F.ok Gh ?_ ?_;wtm_at "b2"
 refine⟨_,(av (aA 2 Gh.nd (au (ak (zo T) hr T.pZ (ae (pv 0) (ae (bQ (show aN _ (.builtin "sum") (Ce K)from zw2 rfl) rfl T.h0p LM (ae (pv 1) af)) af)))))
     (av (aA 3 Gh.nd (dW (show aN _ (.type "tuple") (eH K)from ft) rfl T.h0i dU (ae (dS rfl (cK.by (N':=["size"]) (src:=[none]) rfl (by kernel_rfl)) (jF (fY fV (pv 1) (fT ao) fS)) (λ_ _ _ _ _=>(bP (i:=0) (of_decide_eq_true (by kernel_rfl)) rfl (Or.inl rfl))) (λ_ _ _ _ _=>dw) (λ_ _ _ _ _=>(cB (v:=.ref a.dy) rfl T.ee rfl))) af)))
     (ay (aC (bC (ae (pv 2) (ae (ak (Yl T) hr T.AZ (ae (pv 0) (ae (pv 1) (ae (pv 3) af)))) af))))))),?_⟩
 wtm_at "cl";rw[show start OW [x0,x1]=[some x0,some x1,none,none]from rfl];obtain⟨a',b',ns,hr',hn',ok,h0,h64,q⟩:=h;have hlen:=ok.len;have hfew:=ok.bM;o_head zxt hn' ?_;o_head Cw hr' ok.ba ok.bb h0 h64 (λv1 H1 S1 i1=>?_);k_few;rename_i v2 i2;have hn1:Is K H1 x1 (.tuple (ns.map PyData.int)):=hn'.by S1;refine oJ hn1 ?_ (λv3 H3 S3 i3=>?_)
 . rintro ⟨e,_⟩
   have e':min 1 (ns.map PyData.int).length=0:=e;rw[wl]at e';lia
 rw[nX]at i3;obtain⟨a3,vs3,rfl,hs3,t3⟩:=cb.mp i3;have hl3:=t3.length;rw[Vz,wl]at hl3;have hzl:(cT (ns.length-1)).length=ns.length-1:=Wl ..;o_head iX hs3 (o0:=none) (tl:=[]) rfl (λi v H=>Is K H v (N ((cT (ns.length-1)).getD i 0))) ?_ ?_
 . rintro D i x ys o H4 hx inv
   have hi:i<vs3.length:=by
     rcases wD i vs3.length with z | z
     . exact z
     . rw[wE z]at hx;cases hx
   k_few;exact dB inv (by lia) gm ⟨_,rfl⟩ (ag.refl _) (by rw[Rg];exact eS 0 (T.fq _) rfl rfl)
 . rintro D ys H4 hn4 S4 e4 hl4 hr4
   o_head iR (dN (xs:=cT (ns.length-1)) e4 (gu (by lia) hr4)) (λv5 H5 S5 i5=>?_);have T5:ag H1 H5:=S3.trans (S4.trans S5);o_head Tf ((hr'.by S1).by T5) ((hn'.by S1).by T5) i5 ok (λv6 H6 S6 i6=>?_);k_few;exact bW (by simp) (.cons (i2.by (T5.trans S6)) (.cons i6 .nil)) (λv H' S h=>q v H' (S1.trans (T5.trans (S6.trans S))) h)
def df(a b:Rat)(ns:List Int):List Rat:=(dj a b ns (cT (ns.length-1))).map (λs=>s / (1-a^ns.sum.toNat))
theorem oW{a:Rat}(h:ns.length=xs.length+1):(dj a b ns xs).length=xs.length:=by
 unfold dj;rw[xr,du];simp
theorem EL{a:Rat}(h:ns.length=xs.length+1)(hi:i<xs.length):(dj a b ns xs).getD i 0=(aR a b ns (xs++[0]) ns.length).getD i 0:=by
 unfold dj;have hl:(aR a b ns (xs++[0]) ns.length).length=xs.length+1:=by rw[du];simp
 rw[wb,wb,List.getElem?_dropLast,if_pos (by lia)]
theorem Cn(h:i<xs.length):(xs++[0]).getD i 0=xs.getD i 0:=by
 rw[wb,wb,vR h]
theorem sR : (xs++[0]).getD xs.length 0=0:=by
 rw[wb,vf (wn _),W7]
 rfl
theorem RW:∀{ns:List Int},(∀n∈ns,0<=n)->((ns.map QN).sum:Int)=ns.sum
 | [],_=>rfl
 | n::ns,h=>by
  have h1:=RW (ns:=ns) λm hm=>h m (wu _ hm)
  have h2:=h n (wB ..);rw[w5,WT,WT];lia
theorem Yb(h:∀n∈ns,0<=n):upTo ns ns.length=ns.sum.toNat:=by
 have:=RW h;unfold GM.upTo;rw[Wi];lia
theorem zo8{a:Rat}(h:ns.length=xs.length+1)(hn:∀n∈ns,0<=n)(hi:i<xs.length):(dj a b ns xs).getD i 0=a^ns.sum.toNat*xs.getD i 0+(dj a b ns (cT (ns.length-1))).getD i 0:=by
 have hz:(cT (ns.length-1)).length=xs.length:=by unfold cT;rw[Wl];lia
 have hu:=Yb hn;rw[EL h hi,EL (by lia) (by lia)];have hr:=DF a b ns (xs++[0]) (cT (ns.length-1)++[0]) (by simp[hz]) (by simp[h]) xs.length (by simp) (by rw[sR];rw[<- hz,sR]) ns.length (wn _) i (by simp;lia);rw[if_neg (by lia),show ns.length-1=xs.length by lia]at hr;rw[show ns.length-1=xs.length by lia]at hz ⊢;rw[sR,Cn hi,Cn (by lia),Rg,hu]at hr
 have hl0:(cT xs.length++[0]).getD xs.length 0=0:=by
  have:=sR (xs:=cT xs.length);rw[hz]at this;exact this
 rw[hl0]at hr
 grind
theorem yi{a:Rat}(h:1<=ns.length):(df a b ns).length=ns.length-1:=by
 unfold df;rw[wl,oW (by unfold cT;rw[Wl];lia)];unfold cT;rw[Wl]
theorem Od{a:Rat}(h:i<(df a b ns).length):(df a b ns).getD i 0=(dj a b ns (cT (ns.length-1))).getD i 0 / (1-a^ns.sum.toNat):=by
 unfold df at *;rw[wl]at h;rw[wb,wo,wb,wc h];rfl
theorem MD{g:Rat}(h:Cm m xs)(bg:ah n g)(hg:g≠0):Cm (m+n) (xs.map (λs=>s / g)):=by
 obtain⟨B,h0,bB,hx⟩:=h;have hgn:=AB hg
 have key:∀(t:Int),wr t B / g=wr (t*(g.den:Int)) (B*g.num):=by
  intro t
  conv=>lhs;rw[<- WI g]
  rw[QY,Rat.inv_divInt,Q9]
 rcases Int.lt_or_gt_of_ne hgn with z | z
 ·refine⟨B * -g.num,vK h0 (by lia),bB.mul bg.t.neg,λx hxm=>?_⟩
  obtain⟨s,hs,rfl⟩:=wP.mp hxm;obtain⟨t,rfl,bt⟩:=hx s hs;refine⟨-(t*(g.den:Int)),?_,(bt.mul bg.b).neg⟩
  show wr t B / g=_
  rw[key t,Xi,Rat.divInt_neg',Int.neg_neg]
 ·refine⟨B*g.num,vK h0 (by lia),bB.mul bg.t,λx hxm=>?_⟩
  obtain⟨s,hs,rfl⟩:=wP.mp hxm;obtain⟨t,rfl,bt⟩:=hx s hs;exact⟨t*(g.den:Int),key t,bt.mul bg.b⟩
theorem Fn{a:Rat}(ba:ah 10 a)(bb:ah 10 b)(hm:Cm m xs):Cm (m+2*ns.length+21*upTo ns ns.length) (dj a b ns xs):=by
 obtain⟨B,h0,h1,h2⟩:=(hm.snoc).rows ba bb (ns:=ns) ns.length (wn _);exact⟨B,h0,h1,λx hx=>h2 x (List.dropLast_subset _ hx)⟩
theorem zxO{a:Rat}(ba:ah 10 a)(bb:ah 10 b)(h8:ns.length<=8)(hu:upTo ns ns.length<=8)(hs:ns.sum.toNat<=8)(hF:a^ns.sum.toNat≠1):Cm 268 (df a b ns):=by
 have bF:ah 81 (a^ns.sum.toNat):=(ba.pow ns.sum.toNat).mono (by lia);have bg:ah 83 (1-a^ns.sum.toNat):=(ah.one.sub bF).mono (by decide);have hg:1-a^ns.sum.toNat≠0:=λe=>hF (by grind)
 exact(MD (Fn (ns:=ns) ba bb (rq (ns.length-1))) bg hg).mono (by lia)
theorem ZG{a:Rat}(ok:cZ a b ns (cT (ns.length-1)))(h8:ns.sum<=8)(i:Nat):ah 400 ((dj a b ns (cT (ns.length-1))).getD i 0):=((Fn ok.ba ok.bb (rq _)).get i).mono (by
 have h1:=Yb (λn hn=>(ok.n0 n hn).1);have h2:=ok.bM;lia)
def M8(K:wa):Sp:=λvs H Q _=>∃x0 x1,vs=[x0,x1] /\ ∃(a b:Rat)(ns:List Int),Is K H x0 (R a b)/\Is K H x1 (TZ ns)/\cZ a b ns (cT (ns.length-1))/\0<=ns.sum/\ns.sum<=8/\(a^ns.sum.toNat=1->∀H',ag H H'->Q .bG H')/\(a^ns.sum.toNat≠1->∀v H',ag H H'->Is K H' v (TN (df a b ns))->Q v H')
theorem Mp{a:Rat}{w:V}(h1:Is K H v (R a b))(h2:Is K H w (TZ ns))(ok:cZ a b ns (cT (ns.length-1)))(h0:0<=ns.sum)(h8:ns.sum<=8)(q1:a^ns.sum.toNat=1->∀H',ag H H'->Q .bG H')(q2:a^ns.sum.toNat≠1->∀v H',ag H H'->Is K H' v (TN (df a b ns))->Q v H'):M8 K [v,w] H Q E:=⟨_,_,rfl,a,b,ns,h1,h2,ok,h0,h8,q1,q2⟩
theorem Mu(T:Txt K mg a):aI P w K mg base aU 8 a.KN a.J_ yP (M8 K):=by
 refine T.Bj.F.ok Ep ?_ ?_;wtm_at "b2"
 refine⟨_,(av (aA 2 Ep.nd (ak (sX T) hr T.nO (ae (pv 0) (ae (pv 1) af))))
     (av (cg (cw (show aM _ (compareOp .Eq) (cR K)from dF hu) (au (pv 2)) (cB (v:=.ref a.eO) rfl T.fI rfl) (bN _)) (ay (aC fB)) ck)
     (av (aA 3 Ep.nd (ak (yV T) hr T.p5 (ae (cB (v:=.ref a.eO) rfl T.fI rfl) (ae (au (pv 2)) af))))
     (ay (aC (dW (show aN _ (.type "tuple") (eH K)from ft) rfl T.h0i dU (ae (dS rfl (cK.by (N':=["shift","gap"]) (src:=[none,some 3]) rfl (by kernel_rfl)) (jF (au (pv 2))) (λ_ _ _ _ _=>(bP (i:=0) (of_decide_eq_true (by kernel_rfl)) rfl (Or.inl rfl))) (λ_ _ _ _ _=>dw) (λ_ _ _ _ _=>(ak (PU (K:=K) (mg:=mg) (a:=a) T) hr T.Bm (ae (pv 0) (ae (pv 1) af))))) af))))))),?_⟩
 wtm_at "cl";rw[show start MI [x0,x1]=[some x0,some x1,none,none]from rfl];obtain⟨ra,rb,ns,hr',hn',ok,h0,h8,q1,q2⟩:=h;have bF:ah 100 (ra^ns.sum.toNat):=(ok.ba.pow ns.sum.toNat).mono (by lia);o_head sZ hr' hn' ok h0 (by lia) (λv1 H1 S1 i1=>?_);o_head az (j:=0) i1 rfl (λv2 i2=>?_);k_few
 . rename_i z
   exact q1 z H1 S1
 . rename_i z
   refine az (j:=0) i1 rfl (λv3 i3=>?_);k_few;rename_i v4 H4 S4 i4;have hg:(1-ra^ns.sum.toNat)≠0:=λe=>z (by grind)
   have bg:ah 102 (1-ra^ns.sum.toNat):=(ah.one.sub bF).mono (by decide);refine az (j:=1) (i1.by S4) rfl (λv5 i5=>?_);obtain⟨ap,us,rfl,hu,tu⟩:=cb.mp i5;refine iX (o0:=none) (tl:=[some v4]) hu rfl (λj y H'=>Is K H' y (N ((df ra rb ns).getD j 0))) ?_ ?_
   . intro D i x ys o H5 hx inv
     obtain⟨hi,ix⟩:=dJ tu hx;have ix5:=ix.by inv.same;have i45:=i4.by inv.same
     have hi1000:i<=1000:=by
       have h1:=ok.len;have h2:=ok.bM;have h3:=oW (a:=ra) (b:=rb) (show ns.length=(cT (ns.length-1)).length+1 from ok.len);lia
     o_head OG ix5 i45 ((ZG ok h8 i).mono (by decide)) (bg.mono (by decide)) hg (λv6 H6 S6 i6=>?_);k_few
     have e:(df ra rb ns).getD i 0=(dj ra rb ns (cT (ns.length-1))).getD i 0 / (1-ra^ns.sum.toNat):=by
       unfold df;rw[wb,wo,wb,wc hi];rfl
     exact dB inv hi1000 gm ⟨_,rfl⟩ S6 (by rw[e];exact i6)
   . intro D ys H5 hn S5 hD hl hr5
     have hl':ys.length=(df ra rb ns).length:=by
       unfold df;rw[hl,tu.length,wl,wl]
     refine iR (dN hD (gu hl' hr5)) (λw H6 S6 i6=>?_);k_few;exact q2 z w H6 (S1.trans (S4.trans (S5.trans S6))) i6
def gI(p q:Rat)(xs ss:List Rat):List Rat:=(wp xs.length).map λi=>p*xs.getD i 0+q*ss.getD i 0
theorem pf(p q:Rat)(xs ss:List Rat):(gI p q xs ss).length=xs.length:=by unfold gI;rw[wl,vD]
theorem MZ{p q:Rat}(h:i<xs.length):(gI p q xs ss).getD i 0=p*xs.getD i 0+q*ss.getD i 0:=by
 unfold gI;rw[wb,wo,vY h];rfl
def U0(K:wa):Sp:=λvs H Q _=>∃x0 x1 x2 x3,vs=[x0,x1,x2,x3] /\ ∃(d:PyData)(p q:Rat)(xs ss:List Rat),Is K H x0 (.tuple [d,TN ss])/\Is K H x1 (TN xs)/\Is K H x2 (N p)/\Is K H x3 (N q)/\ss.length=xs.length/\xs.length<=50/\ah 2000 p/\ah 2000 q/\(∀i,ah 6900 (xs.getD i 0))/\(∀i,ah 6900 (ss.getD i 0)) /\ ∀v H',ag H H'->Is K H' v (TN (gI p q xs ss))->Q v H'
theorem Oh{p q':Rat}{w z:V}(h0:Is K H v (.tuple [d,TN ss]))(h1:Is K H w (TN xs))(h2:Is K H u (N p))(h3:Is K H z (N q'))(hl:ss.length=xs.length)(hf:xs.length<=50)(b1:ah 2000 p)(b2:ah 2000 q')(b3:∀i,ah 6900 (xs.getD i 0))(b4:∀i,ah 6900 (ss.getD i 0))(q:∀v H',ag H H'->Is K H' v (TN (gI p q' xs ss))->Q v H'):U0 K [v,w,u,z] H Q E:=⟨_,_,_,_,rfl,d,p,q',xs,ss,h0,h1,h2,h3,hl,hf,b1,b2,b3,b4,q⟩
theorem Oo(T:Txt K mg a):aI P w K mg base aU 3 a.Km a.Jg u9 (U0 K):=by
 refine T.Be.F.ok ztU ?_ ?_;wtm_at "b4";refine⟨_,(ay (aC (dW (show aN _ (.type "tuple") (eH K)from ft) rfl T.h0i dU (ae (dS rfl (cK.by (N':=["place","shift","of_place","of_shift"]) (src:=[none,none,some 2,some 3]) rfl (by kernel_rfl)) (zAT rfl T.h0v (ae (pv 1) (ae (au (pv 0)) af))) (λ_ _ _ _ _=>by exact(show PG _ _ (oY K 2 _)from oo (n:=2) rfl (iP (bP (i:=0) (of_decide_eq_true (by kernel_rfl)) rfl (Or.inl rfl)) (iP (bP (i:=1) (of_decide_eq_true (by kernel_rfl)) rfl (Or.inl rfl)) pD)))) (λ_ _ _ _ _=>dw) (λ_ _ _ _ _=>(ak (hW (K:=K) (mg:=mg) (a:=a) T) hr T.gr (ae (ak (mf (K:=K) (mg:=mg) (a:=a) T) hr T.ko (ae (pv 2) (ae (pv 0) af))) (ae (ak (mf (K:=K) (mg:=mg) (a:=a) T) hr T.ko (ae (pv 3) (ae (pv 1) af))) af))))) af)))),?_⟩;wtm_at "cl";rw[show start CB [x0,x1,x2,x3]=[some x0,some x1,some x2,some x3]from rfl];obtain⟨d,p,q',xs,ss,h0,h1,h2,h3,hl,hf,b1,b2,b3,b4,q⟩:=h;obtain⟨a1,us,rfl,hs1,t1⟩:=cb.mp h1;o_head az (j:=1) h0 rfl (λv5 i5=>?_);obtain⟨a2,ws,rfl,hs2,t2⟩:=cb.mp i5;have l1:=t1.length;have l2:=t2.length;rw[wl]at l1 l2;o_head zzW (t:=true) (u:=true) hs1 hs2 (by lia) (o0:=none) (o0':=none) (tl:=[some x2,some x3]) rfl (λj y H'=>Is K H' y (N ((gI p q' xs ss).getD j 0))) gm ?_ ?_
 ·intro D j y z zs o1 o2 H7 c hy hz inv hc
  obtain⟨hj,iy⟩:=dJ t1 hy;obtain⟨_,iz⟩:=dJ t2 hz;have S7:=inv.2.2.1;have iy7:=iy.by S7;have iz7:=iz.by S7;have ip7:=h2.by S7;have iq7:=h3.by S7;have c1:=b3 j;have c2:=b4 j;have m1:ah 8999 (p*xs.getD j 0):=(b1.mul c1).mono (by decide);have m2:ah 8999 (q'*ss.getD j 0):=(b2.mul c2).mono (by decide);refine nJ (.of hc) rfl ?_;k_few;rename_i v8 H8 S8 i8 v9 H9 S9 i9 v10 H10 S10 i10;rw[<- MZ hj]at i10;exact Aq inv (by lia) gm ⟨_,_,rfl⟩ (S8.trans (S9.trans S10)) i10
 ·intro D zs H7 hn S7 hD hl7 hr7
  have tz:ai K H7 zs ((gI p q' xs ss).map N):=gu (by rw[hl7,pf];lia) hr7;o_head iR (dN hD tz) (λv8 H8 S8 i8=>?_);exact q v8 H8 (S7.trans S8) i8
structure dm(ns:List Int):Prop where
 some:1<=ns.length
 bM:ns.length<=8
 each:∀n∈ns,1<=n/\n<=8
 sum:ns.sum<=8
theorem zH:∀{ns:List Int},(∀n∈ns,0<=n)->((ns.map QN).sum:Int)=ns.sum
 | [],_=>rfl
 | n::ns,h=>by
  have h1:=zH (ns:=ns) λm hm=>h m (wu _ hm)
  have h2:=h n (wB ..);rw[w5,WT,WT];lia
theorem dm.upTo(h:dm ns):upTo ns ns.length<=8:=by
 have h1:=zH (ns:=ns) λn hn=>by have:=h.each n hn;lia
 have h2:=h.sum;unfold GM.upTo;rw[Wi];lia
def dk(a b:Rat)(ns:List Int):List Rat:=dj a b ns (cT (ns.length-1))
def cY(a b:Rat)(ns:List Int)(n:Nat)(xs:List Rat):List Rat:=(wp xs.length).map λi=>gh (a^ns.sum.toNat) ((dk a b ns).getD i 0) n (xs.getD i 0)
theorem zM(n:Nat):(cT n).length=n:=Wl ..
theorem pJ{a:Rat}(h:1<=ns.length):(dk a b ns).length=ns.length-1:=by
 unfold dk;rw[oW (by rw[zM];lia),zM]
theorem d_(a b:Rat)(ns:List Int)(n:Nat)(xs:List Rat):(cY a b ns n xs).length=xs.length:=by unfold cY;rw[wl,vD]
theorem mw{a:Rat}(h:i<xs.length):(cY a b ns n xs).getD i 0=gh (a^ns.sum.toNat) ((dk a b ns).getD i 0) n (xs.getD i 0):=by
 unfold cY;rw[wb,wo,vY h];rfl
theorem DN{ys:List Rat}(hl:xs.length=ys.length)(h:∀i,i<xs.length->xs.getD i 0=ys.getD i 0):xs=ys:=VA hl λi h1 h2=>by
 have:=h i h1;rw[wb,wb,wc h1,wc h2]at this;exact this
theorem pV(a b:Rat)(ns:List Int)(xs:List Rat):cY a b ns 0 xs=xs:=DN (d_ ..) λi hi=>by
 rw[d_]at hi;rw[mw hi,zw6]
theorem Px(a b:Rat)(ns:List Int)(m n:Nat)(xs:List Rat):cY a b ns n (cY a b ns m xs)=cY a b ns (m+n) xs:=DN (by rw[d_,d_,d_]) λi hi=>by
 rw[d_,d_]at hi;rw[mw (by rw[d_];exact hi),mw hi,mw hi,zzj]
theorem EY{a:Rat}(h:ns.length=xs.length+1)(hn:∀n∈ns,0<=n):cY a b ns 1 xs=dj a b ns xs:=DN (by rw[d_,oW h]) λi hi=>by
 rw[d_]at hi;rw[mw hi,ZL,zo8 h hn hi]
 rfl
structure eP(a b:Rat)(ns:List Int)(n:Nat):Prop where
 ok:aZ a b
 sz:dm ns
 bM:n<=60
 k:(6*ns.sum.toNat+1+1)*n<=1600
theorem Yi{a:Rat}(h:aZ a b):ah 6 a:=by
 have h1:=h.a0;have h2:=h.a4;have h3:=h.ad;have n0:0<=a.num:=qB.mpr (vU h1)
 have n1:a.num<=4*a.den:=by
  have:=(xn a 4).mp h2
  simpa using this
 have e:(2:Nat)^6=64:=by decide
 exact⟨⟨by rw[e];lia⟩,⟨by rw[e];lia⟩⟩
theorem jW{a:Rat}(h:aZ a b)(S:Nat):ah (6*S+1) (a^S):=(Yi h).pow S
theorem eP.le{a:Rat}(h:eP a b ns n)(e:m<=n):eP a b ns m:=⟨h.ok,h.sz,Wg e h.bM,Wg (qW _ e) h.k⟩
theorem eP.pow{a:Rat}(h:eP a b ns n)(hi:i<=n):ah 1601 ((a^ns.sum.toNat)^i):=((jW h.ok _).pow i).mono (by
 have h1:=(h.le hi).k;have h2:=Wc i (show 6*ns.sum.toNat+1<=6*ns.sum.toNat+1+1 by lia);lia)
theorem eP.aE{a:Rat}(h:eP a b ns n)(hi:i<=n):ah 1601 (aE (a^ns.sum.toNat) 1 i):=(RT (jW h.ok _) i).mono (by have:=(h.le hi).k;lia)
theorem nY{a:Rat}(h:aZ a b)(k:dm ns):cZ a b ns (cT (ns.length-1)):=⟨h.ba,h.bb,λn hn=>by have:=k.each n hn;lia,by rw[zM];have:=k.some;lia,by have:=k.bM;lia,⟨1,rq _,by have:=k.bM;have:=k.upTo;lia⟩⟩
theorem DZ{a:Rat}(h:aZ a b)(k:dm ns):Cm 185 (dk a b ns):=(Fn (ns:=ns) h.ba h.bb (rq (ns.length-1))).mono (by have:=k.bM;have:=k.upTo;lia)
theorem zV{a:Rat}(h:aZ a b)(k:dm ns)(i:Nat):ah 185 ((dk a b ns).getD i 0):=(DZ h k).get i
theorem dm.nn(k:dm ns):∀n∈ns,0<=n:=λn hn=>by have:=k.each n hn;lia
theorem dm.pos(k:dm ns):1<=ns.sum/\ns.sum<=8:=by
 refine⟨?_,k.sum⟩;have h1:=zH k.nn;have h2:=k.some
 match ns,h2,k.each with
 | n::ns,_,he =>
  have:=he n (wB ..);rw[w5,WT]at h1;lia
theorem u4{a:Rat}(h:aZ a b){S:Nat}(hS:1<=S):a^S=1 ↔ a=1:=by
 obtain⟨m,rfl⟩:∃m,S=m+1:=⟨S-1,by lia⟩
 constructor
 ·intro e
  by_cases z:a<1
  ·have:=zt1 h.a0 z m
   rw[e]at this;exact absurd this (by grind)
  ·by_cases y:a=1
   ·exact y
   ·have z3:1<a:=qt (Vp.mp z) (Wr y)
    have:=ztY z3 m;rw[e]at this;exact absurd this (by grind)
 ·intro e
  rw[e,GM.one_pow']
theorem zwz{a:Rat}(hF:a^ns.sum.toNat≠1)(hi:i<(df a b ns).length):(df a b ns).getD i 0*(1-a^ns.sum.toNat)=(dk a b ns).getD i 0:=by
 rw[Od hi];exact WJ (λe=>hF (by grind))
theorem zAA{a:Rat}(h:aZ a b)(S n:Nat):ah ((6*S+3)*n+1) ((a^S)^n):=((jW h S).pow n).mono (by have:=Wc n (show 6*S+1<=6*S+3 by lia);lia)
theorem M5{a:Rat}(h:aZ a b)(S n:Nat):ah ((6*S+3)*n+1) (aE (a^S) 1 n):=(RT (jW h S) n).mono (by have:=Wc n (show 6*S+1+1<=6*S+3 by lia);lia)
def Ph(K:wa):Sp:=λvs H Q _=>∃x0 x1 x2,vs=[x0,x1,x2] /\ ∃(F:Rat)(n:Int)(xs ss:List Rat),x2=.int n/\Is K H x0 (.tuple [N F,TN ss])/\Is K H x1 (TN xs)/\0<=n/\n<=64/\ss.length=xs.length/\xs.length<=50/\ah 2000 F/\(∀i,i<=n.toNat->ah 2000 (F^i))/\(∀i,i<=n.toNat->ah 2000 (aE F 1 i))/\(∀i,ah 6900 (xs.getD i 0))/\(∀i,ah 6900 (ss.getD i 0)) /\ ∀v H',ag H H'->Is K H' v (TN ((wp xs.length).map λi=>gh F (ss.getD i 0) n.toNat (xs.getD i 0)))->Q v H'
theorem Po{F:Rat}{n:Int}{w:V}(h0:Is K H v (.tuple [N F,TN ss]))(h1:Is K H w (TN xs))(n0:0<=n)(n1:n<=64)(hl:ss.length=xs.length)(hf:xs.length<=50)(b0:ah 2000 F)(b1:∀i,i<=n.toNat->ah 2000 (F^i))(b2:∀i,i<=n.toNat->ah 2000 (aE F 1 i))(b3:∀i,ah 6900 (xs.getD i 0))(b4:∀i,ah 6900 (ss.getD i 0))(q:∀v H',ag H H'->Is K H' v (TN ((wp xs.length).map λi=>gh F (ss.getD i 0) n.toNat (xs.getD i 0)))->Q v H'):Ph K [v,w,.int n] H Q E:=⟨_,_,_,rfl,F,n,xs,ss,rfl,h0,h1,n0,n1,hl,hf,b0,b1,b2,b3,b4,q⟩
theorem ML(T:Txt K mg a):aI P w K mg base aU 4 a.KI a.Jx yI (Ph K):=by
 refine T.Bg.F.ok Nh ?_ ?_;wtm_at "b3"
 refine⟨_,(av (aA 3 Nh.nd (ak (zo T) hr T.pZ (ae (bC (ae (au (pv 0)) (ae (cB (v:=.ref a.eO) rfl T.fI rfl) af))) (ae (pv 2) af))))
     (ay (aC (ak (Oo T) hr T.Be (by exact(@ae _ _ _ _ _ (pv 0) (@ae _ _ _ _ _ (pv 1) (@ae _ _ _ _ _ (au (pv 3)) (@ae _ _ _ _ _ (au (pv 3)) af gJ) gJ) bX) bX)))))),?_⟩
 wtm_at "cl";rw[show start M0 [x0,x1,x2]=[some x0,some x1,some x2,none]from rfl];obtain⟨F,n,xs,ss,rfl,h0,h1,n0,n1,hl,hf,b0,b1,b2,b3,b4,q⟩:=h;o_head az (j:=0) h0 rfl (λv1 i1=>?_);o_head ED i1 (eS 1 (T.uu _) rfl rfl) (λv2 H2 S2 i2=>?_);o_head Ml i2 (b0.mono (by decide)) (ah.one.mono (by decide)) n0 n1 (λi hi=>(b1 i hi).mono (by decide)) (λi hi=>(b2 i hi).mono (by decide)) (λv3 H3 S3 i3=>?_);k_few;rename_i v4 i4 v5 i5;have T3:=S2.trans S3;refine Oh (h0.by T3) (h1.by T3) i4 i5 hl hf (b1 _ (wn _)) (b2 _ (wn _)) b3 b4 (λv6 H6 S6 i6=>?_);exact q v6 H6 (T3.trans S6) i6
def Nb(K:wa):Sp:=λvs H Q _=>∃x0 x1 x2 x3,vs=[x0,x1,x2,x3] /\ ∃(ra rb:Rat)(ns:List Int)(xs:List Rat)(n:Int),x3=.int n/\Is K H x0 (R ra rb)/\Is K H x1 (TZ ns)/\Is K H x2 (TN xs)/\ns.length=xs.length+1/\0<=n/\eP ra rb ns n.toNat/\(∀i,ah 6900 (xs.getD i 0)) /\ ∀v H',ag H H'->Is K H' v (TN (cY ra rb ns n.toNat xs))->Q v H'
theorem Yu{n:Int}{w:V}(h0:Is K H v (R ra rb))(h1:Is K H w (TZ ns))(h2:Is K H u (TN xs))(hl:ns.length=xs.length+1)(n0:0<=n)(ok:eP ra rb ns n.toNat)(b:∀i,ah 6900 (xs.getD i 0))(q:∀v H',ag H H'->Is K H' v (TN (cY ra rb ns n.toNat xs))->Q v H'):Nb K [v,w,u,.int n] H Q E:=⟨_,_,_,_,rfl,ra,rb,ns,xs,n,rfl,h0,h1,h2,hl,n0,ok,b,q⟩
theorem Ue(T:Txt K mg a):aI P w K mg base aU 8 a.Ht a.GO Au (Nb K):=by
 refine T.AV.F.ok zlT ?_ ?_;wtm_at "b4";refine⟨_,(ay (aC (ak (ML T) hr T.Bg (ae (ak (sX T) hr T.nO (ae (pv 0) (ae (pv 1) af))) (ae (pv 2) (ae (pv 3) af)))))),?_⟩;wtm_at "cl";rw[show start ER [x0,x1,x2,x3]=[some x0,some x1,some x2,some x3]from rfl];obtain⟨ra,rb,ns,xs,n,rfl,hr',hn',hx',hl,n0,ok,bx,q⟩:=h;have h8:=ok.sz.bM;have hp:=ok.sz.pos;have hn60:=ok.bM;o_head sZ hr' hn' (nY ok.ok ok.sz) (by lia) (by lia) (λv1 H1 S1 i1=>?_);o_head Po (ss:=dk ra rb ns) i1 (hx'.by S1) n0 (by lia) (by rw[pJ (by lia)];lia) (by lia) (by have:=ok.sz.sum;exact(jW ok.ok _).mono (by lia)) (λi hi=>(ok.pow hi).mono (by decide)) (λi hi=>(ok.aE hi).mono (by decide)) bx (λi=>(zV ok.ok ok.sz i).mono (by decide)) (λv2 H2 S2 i2=>?_);exact q v2 H2 (S1.trans S2) i2
theorem Li{k:Nat}{F:Rat}(h:ah k F):∀i:Nat,∃U:Int,GM.sumTo (aE F 1) i=wr U ((F.den:Int)^i)/\Bd ((k+2)*i+2) U
 | 0=>⟨0,by simp[GM.sumTo],⟨by simp⟩⟩
 | i+1=>by
  obtain⟨U,e,bU⟩:=Li h i;obtain⟨T,e2,bT,bd⟩:=yl h i;have hd:(F.den:Int)^i≠0:=VM (iG F);have hd1:(F.den:Int)^(i+1)≠0:=VM (iG F);have ed:(F.den:Int)^(i+1)=(F.den:Int)^i*(F.den:Int):=Vy ..;have h1:(k+2)*(i+1)=(k+2)*i+(k+2):=qq ..;have h2:(k+1)*i<=(k+2)*i:=Wc i (by lia);refine⟨(U+T)*(F.den:Int),?_,((bU.add bT).mul h.b).mono (by lia)⟩
  symm
  refine gE hd1 ?_;have k1:=c8 U hd;have k2:=c8 T hd;have e3:(((U+T)*(F.den:Int):Int):Rat)=((U:Rat)+(T:Rat))*((F.den:Int):Rat):=by rw[vL,qi]
  rw[GM.sumTo,e,e2,ed,vL,e3,<- k1,<- k2]
  grind
theorem Np{F:Rat}(h:ah k F)(i:Nat):ah ((k+2)*i+2) (GM.sumTo (aE F 1) i):=by
 obtain⟨U,e,bU⟩:=Li h i;obtain⟨T,e2,bT,bd⟩:=yl h i;rw[e];exact ah.divInt (VM (iG F)) bU (bd.mono (by have:=Wc i (show k<=k+2 by lia);lia))
theorem eP.sums{a:Rat}(h:eP a b ns n)(hi:i<=n):ah 1662 (GM.sumTo (GM.aE (a^ns.sum.toNat) 1) i):=(Np (jW h.ok _) i).mono (by
 have h1:=(h.le hi).k;have h2:=(h.le hi).bM;have e:(6*ns.sum.toNat+1+2)*i=(6*ns.sum.toNat+1+1)*i+i:=by rw[<- qp]
 lia)
theorem zAQ(F s x:Rat)(n:Nat):GM.sumTo (λk=>gh F s k x) n=aE F 1 n*x+GM.sumTo (aE F 1) n*s:=by
 unfold gh;rw[Uo]
 have e1:GM.sumTo (λk=>F^k*x) n=aE F 1 n*x:=by
  rw[<- NZ F n,qA,<- EV];exact zN n λk _=>qA ..
 have e2:GM.sumTo (λk=>aE F 1 k*s) n=GM.sumTo (aE F 1) n*s:=by
  rw[qA (GM.sumTo (aE F 1) n) s,<- EV];exact zN n λk _=>qA ..
 rw[e1,e2]
def Uh(K:wa):Sp:=λvs H Q _=>∃x0 x1 x2,vs=[x0,x1,x2] /\ ∃(a b:Rat)(ns:List Int)(n:Int)(xs:List Rat),x2=.int n/\Is K H x0 (.tuple [N (a^ns.sum.toNat),TN (dk a b ns)])/\Is K H x1 (TN xs)/\0<=n/\eP a b ns n.toNat/\ns.length=xs.length+1/\(∀i,ah 6900 (xs.getD i 0)) /\ ∀v H',ag H H'->Is K H' v (TN (gI (aE (a^ns.sum.toNat) 1 n.toNat) (GM.sumTo (aE (a^ns.sum.toNat) 1) n.toNat) xs (dk a b ns)))->Q v H'
theorem zk5{a:Rat}{n:Int}{w:V}(h0:Is K H v (.tuple [N (a^ns.sum.toNat),TN (dk a b ns)]))(h1:Is K H w (TN xs))(n0:0<=n)(ok:eP a b ns n.toNat)(hl:ns.length=xs.length+1)(bx:∀i,ah 6900 (xs.getD i 0))(q:∀v H',ag H H'->Is K H' v (TN (gI (aE (a^ns.sum.toNat) 1 n.toNat) (GM.sumTo (aE (a^ns.sum.toNat) 1) n.toNat) xs (dk a b ns)))->Q v H'):Uh K [v,w,.int n] H Q E:=⟨_,_,_,rfl,a,b,ns,n,xs,rfl,h0,h1,n0,ok,hl,bx,q⟩
theorem zk7(T:Txt K mg a):aI P w K mg base aU 4 a.Hi a.GJ yA (Uh K):=by
 refine T.GR.F.ok oR ?_ ?_;wtm_at "b3"
 refine⟨_,(av (aA 3 oR.nd (cB (v:=.ref a.dy) rfl T.ee rfl))
     (av (aA 4 oR.nd (cB (v:=.ref a.dy) rfl T.ee rfl))
     (av (gD vd rfl (jo rfl T.h0j (ae (pv 2) af)) (bP (i:=5) oR.nd rfl (Or.inl rfl)) (av (aA 4 oR.nd (ak (hW T) hr T.gr (ae (pv 4) (ae (pv 3) af))))
     (ay (aA 3 oR.nd (ak (hW T) hr T.gr (ae (ak (mf T) hr T.ko (ae (au (pv 0)) (ae (pv 3) af))) (ae (cB (v:=.ref a.eO) rfl T.fI rfl) af)))))))
     (ay (aC (ak (Oo T) hr T.Be (by exact(@ae _ _ _ _ _ (pv 0) (@ae _ _ _ _ _ (pv 1) (@ae _ _ _ _ _ (pv 3) (@ae _ _ _ _ _ (pv 4) af bX) bX) bX) bX)))))))),?_⟩
 wtm_at "cl";rw[show start N7 [x0,x1,x2]=[some x0,some x1,some x2,none,none,none]from rfl];obtain⟨ra,rb,ns,n,xs,rfl,h0,h1,n0,ok,hl,bx,q⟩:=h;have h8:=ok.sz.bM;have h60:=ok.bM;have bF:ah 49 (ra^ns.sum.toNat):=(jW ok.ok _).mono (by have:=ok.sz.sum;lia);generalize hF:ra^ns.sum.toNat=F at *;o_head ku (n:=n) (by lia) (by lia) (λi σ H'=>∃(f g:V)(o:Option V),σ = [some x0,some x1,some (.int n),some f,some g,o]/\ag H H'/\Is K H' f (N (aE F 1 i))/\Is K H' g (N (GM.sumTo (aE F 1) i))) ⟨_,_,_,rfl,ag.refl H,eS 0 (T.fq _) rfl rfl,eS 0 (T.fq _) rfl rfl⟩ ?_ ?_
 . rintro i σ H' hi ⟨f,g,o,rfl,S1,hf,hg⟩
   have h01:=h0.by S1;have bf:ah 1601 (aE F 1 i):=by rw[<- hF];exact ok.aE (by lia)
   have bg:ah 1662 (GM.sumTo (aE F 1) i):=by rw[<- hF];exact ok.sums (by lia)
   have bm:ah 1700 (F*aE F 1 i):=(bF.mul bf).mono (by decide);k_few;rename_i v2 H2 S2 i2;refine az (j:=0) (h01.by S2) rfl (λv3 i3=>?_);have hf2:=hf.by S2;k_few;rename_i v4 H4 S4 i4 v5 H5 S5 i5;exact⟨_,_,_,rfl,S1.trans (S2.trans (S4.trans S5)),i5,i2.by (S4.trans S5)⟩
 . rintro σ H' ⟨f,g,o,rfl,S1,hf,hg⟩
   have bf:ah 2000 (aE F 1 n.toNat):=by rw[<- hF];exact(ok.aE (wn _)).mono (by decide)
   have bg:ah 2000 (GM.sumTo (aE F 1) n.toNat):=by rw[<- hF];exact(ok.sums (wn _)).mono (by decide)
   o_head Oh (h0.by S1) (h1.by S1) hf hg (by rw[pJ (by lia)];lia) (by lia) bf bg bx (λi=>(zV ok.ok ok.sz i).mono (by decide)) (λv2 H2 S2 i2=>?_);exact q v2 H2 (S1.trans S2) i2
theorem RY{c d:Nat}{p q:Rat}(hx:Cm m xs)(hs:Cm j ss)(bp:ah c p)(bq:ah d q):Cm (m+j+c+d+1) (gI p q xs ss):=by
 obtain⟨B,h0,h1,h2⟩:=hx;obtain⟨D,g0,g1,g2⟩:=hs;have hb:0<B*(p.den:Int)*(D*(q.den:Int)):=vK (vK h0 (den_pos p)) (vK g0 (den_pos q));refine⟨_,hb,((h1.mul bp.b).mul (g1.mul bq.b)).mono (by lia),λx hx=>?_⟩;obtain⟨i,hi,rfl⟩:=wP.mp hx;have hi:=wG.mp hi;obtain⟨u,eu,bu⟩:=h2 _ (getD_mem (d:=0) hi)
 have hv:∃v:Int,ss.getD i 0=wr v D/\Bd j v:=by
  rcases wD i ss.length with z | z
  ·exact g2 _ (getD_mem z)
  ·rw[wb,wE z]
   exact⟨0,by simp,⟨by simp;exact We j⟩⟩
 obtain⟨v,ev,bv⟩:=hv;refine⟨p.num*u*(D*(q.den:Int))+q.num*v*(B*(p.den:Int)),?_,(((bp.t.mul bu).mul (g1.mul bq.b)).add ((bq.t.mul bv).mul (h1.mul bp.b))).mono (by lia)⟩
 symm
 show wr _ _=p*xs.getD i 0+q*ss.getD i 0
 refine gE (by lia) ?_;have k1:=c8 u (show B≠0 by lia);have k2:=c8 v (show D≠0 by lia);have k3:=kB p;have k4:=kB q;rw[eu,ev];simp only[qi,vL];rw[<- k1,<- k2,<- k3,<- k4];generalize wr u B=y;generalize wr v D=z;generalize (B:Rat)=B';generalize (D:Rat)=D';generalize ((p.den:Int):Rat)=P';generalize ((q.den:Int):Rat)=Q'
 grind
theorem zCP{a:Rat}(ok:eP a b ns n)(c:Cm m xs):Cm (m+188+2*((6*ns.sum.toNat+3)*n)) (cY a b ns n xs):=(RY c (DZ ok.ok ok.sz) (zAA ok.ok _ n) (M5 ok.ok _ n)).mono (by lia)
def tE(a b:Rat)(ns:List Int)(xs:List Rat)(n:Nat):Rat:=GM.sumTo (λk=>fK a b ns (cY a b ns k xs)) n
def jx(a b:Rat)(ns:List Int)(xs:List Rat)(n:Nat):List Rat:=(gI (aE (a^ns.sum.toNat) 1 n) (GM.sumTo (aE (a^ns.sum.toNat) 1) n) xs (dk a b ns)).map λt=>t / ((n:Int):Rat)
theorem SW(a b:Rat)(ns:List Int)(xs:List Rat)(n:Nat):(jx a b ns xs n).length=xs.length:=by unfold jx;rw[wl,pf]
theorem Gr(h:1<=n):((n:Int):Rat)≠0:=λe=>by
 have:=WV.mp e;lia
theorem OZ{a:Rat}(hi:i<xs.length):(jx a b ns xs n).getD i 0=(gI (aE (a^ns.sum.toNat) 1 n) (GM.sumTo (aE (a^ns.sum.toNat) 1) n) xs (dk a b ns)).getD i 0 / ((n:Int):Rat):=by
 unfold jx;rw[wb,wo,wc (by rw[pf];exact hi),wb,wc (by rw[pf];exact hi)]
 rfl
theorem zrO{a:Rat}(hl:ns.length=xs.length+1)(h1:1<=n):((n:Int):Rat)*fK a b ns (jx a b ns xs n)=tE a b ns xs n:=by
 unfold tE;refine Mz hl (λk=>cY a b ns k xs) (λk=>d_ ..) n _ h1 (SW ..) λi hi=>?_
 rw[OZ hi,WJ (Gr h1),MZ hi,<- zAQ];exact zN n λk _=>(mw hi).symm
theorem PZ(h:n<=60):ah 6 ((n:Int):Rat):=by
 have e:(2:Nat)^6=64:=by decide
 exact⟨⟨by rw[XV,e];lia⟩,⟨by rw[XW];decide⟩⟩
theorem zyc{a:Rat}(h:aZ a b)(S n:Nat):ah ((6*S+3)*n+2) (GM.sumTo (aE (a^S) 1) n):=Np (jW h S) n
theorem NH{a:Rat}(ok:eP a b ns n)(c:Cm m xs):Cm (m+189+2*((6*ns.sum.toNat+3)*n)) (gI (aE (a^ns.sum.toNat) 1 n) (GM.sumTo (aE (a^ns.sum.toNat) 1) n) xs (dk a b ns)):=(RY c (DZ ok.ok ok.sz) (M5 ok.ok _ n) (zyc ok.ok _ n)).mono (by lia)
theorem zxZ{a:Rat}(ok:eP a b ns n)(h1:1<=n)(c:Cm m xs):Cm (m+195+2*((6*ns.sum.toNat+3)*n)) (jx a b ns xs n):=by
 unfold jx;exact(MD (NH ok c) (PZ ok.bM) (Gr h1)).mono (by lia)
def UI(K:wa):Sp:=λvs H Q _=>∃x0 x1 x2 x3,vs=[x0,x1,x2,x3] /\ ∃(ra rb:Rat)(ns:List Int)(xs:List Rat)(n:Int)(m:Nat),x3=.int n/\Is K H x0 (R ra rb)/\Is K H x1 (TZ ns)/\Is K H x2 (TN xs)/\ns.length=xs.length+1/\0<=n/\eP ra rb ns n.toNat/\Cm m xs/\m+2*((6*ns.sum.toNat+3)*n.toNat)<=6700 /\ ∀v H',ag H H'->Is K H' v (N (tE ra rb ns xs n.toNat))->Q v H'
theorem znK{n:Int}{w:V}(h0:Is K H v (R ra rb))(h1:Is K H w (TZ ns))(h2:Is K H u (TN xs))(hl:ns.length=xs.length+1)(n0:0<=n)(ok:eP ra rb ns n.toNat)(c:Cm m xs)(hm:m+2*((6*ns.sum.toNat+3)*n.toNat)<=6700)(q:∀v H',ag H H'->Is K H' v (N (tE ra rb ns xs n.toNat))->Q v H'):UI K [v,w,u,.int n] H Q E:=⟨_,_,_,_,rfl,ra,rb,ns,xs,n,m,rfl,h0,h1,h2,hl,n0,ok,c,hm,q⟩
theorem zBy{n:Int}(q:∀v H',ag H H'->Is K H' v (N (n:Rat))->Q v H'):mX K [.int n,.int 1] H Q:=eY (r:=(n:Rat)) (XV n).symm (by rw[XW];rfl) q
theorem znt(T:Txt K mg a):aI P w K mg base aU 8 a.IG a.Hg AR (UI K):=by
 refine T.HK.F.ok BY ?_ ?_;wtm_at "b4"
 refine⟨_,(av (cg (cw pB (pv 3) ao (bN _)) (ay (aC (cB (v:=.ref a.dy) rfl T.ee rfl))) ck)
     (av (aA 4 BY.nd (bC (ae (pv 3) (ae ao af))))
     (av (aA 5 BY.nd (dW (show aN _ (.type "tuple") (eH K)from ft) rfl T.h0i dU (ae (dS rfl (cK.by (N':=["total","count"]) (src:=[none,some 4]) rfl (by kernel_rfl)) (jF (ak (zk7 T) hr T.GR (ae (ak (sX T) hr T.nO (ae (pv 0) (ae (pv 1) af))) (ae (pv 2) (ae (pv 3) af))))) (λ_ _ _ _ _=>(bP (i:=0) (of_decide_eq_true (by kernel_rfl)) rfl (Or.inl rfl))) (λ_ _ _ _ _=>dw) (λ_ _ _ _ _=>(ak (PU (K:=K) (mg:=mg) (a:=a) T) hr T.Bm (ae (pv 0) (ae (pv 1) af))))) af)))
     (ay (aC (ak (mf T) hr T.ko (ae (pv 4) (ae (ak (zpf T) hr T.Ik (ae (pv 0) (ae (pv 1) (ae (pv 5) af)))) af)))))))),?_⟩
 wtm_at "cl";rw[show start N5 [x0,x1,x2,x3]=[some x0,some x1,some x2,some x3,none,none]from rfl];obtain⟨ra,rb,ns,xs,n,m,rfl,hr',hn',hx',hl,n0,ok,c,hm,q⟩:=h;have h8:=ok.sz.bM;have hp:=ok.sz.pos;have h60:=ok.bM;have hu:=ok.sz.upTo;obtain⟨n,rfl⟩:∃j:Nat,n=(j:Int):=⟨n.toNat,by lia⟩;rw[wS]at q ok h60 hm;k_few
 . rename_i z
   have hz:n=0:=by lia
   subst hz;exact q _ H (ag.refl _) (eS 0 (T.fq _) rfl rfl)
 . rename_i z
   have h1n:1<=n:=by lia
   have cM:=zxZ ok h1n c;have hml:=SW ra rb ns xs n;have hne:=Gr h1n;have bn:ah 6 ((n:Int):Rat):=PZ h60;refine zBy (λv1 H1 S1 i1=>?_);o_head sZ (hr'.by S1) (hn'.by S1) (nY ok.ok ok.sz) (by lia) (by lia) (λv2 H2 S2 i2=>?_);have T2:=S1.trans S2;o_head zk5 (a:=ra) (b:=rb) (ns:=ns) i2 (hx'.by T2) (by lia) (by rw[wS];exact ok) hl (λi=>(c.get i).mono (by lia)) (λv3 H3 S3 i3=>?_);rw[wS]at i3;have i13:=i1.by (S2.trans S3);obtain⟨a3,us,rfl,hs3,t3⟩:=cb.mp i3;have hul:=t3.length;rw[wl,pf]at hul;have bw:∀i,ah 8100 ((gI (aE (ra^ns.sum.toNat) 1 n) (GM.sumTo (aE (ra^ns.sum.toNat) 1) n) xs (dk ra rb ns)).getD i 0):=λi=>((NH ok c).get i).mono (by lia)
   o_head iX hs3 (o0:=none) (tl:=[some v1]) rfl (λj y H'=>Is K H' y (N ((jx ra rb ns xs n).getD j 0))) ?_ ?_
   . intro D j x ys o H4 hx inv
     obtain⟨hj,ix⟩:=dJ t3 hx;rw[pf]at hj;o_head OG (ix.by inv.same) (i13.by inv.same) ((bw j).mono (by decide)) (bn.mono (by decide)) hne (λv5 H5 S5 i5=>?_);rw[<- OZ hj]at i5;exact dB inv (by lia) gm ⟨_,rfl⟩ S5 i5
   . intro D ys H4 hn4 S4 e4 hl4 hr4
     have tz:ai K H4 ys ((jx ra rb ns xs n).map N):=gu (by rw[hl4,hul,hml]) hr4;o_head iR (dN e4 tz) (λv5 H5 S5 i5=>?_);have T5:=T2.trans (S3.trans (S4.trans S5));have rok:cZ ra rb ns (jx ra rb ns xs n):=⟨ok.ok.ba,ok.ok.bb,λk hk=>by have:=ok.sz.each k hk;lia,by rw[hml];exact hl,by lia,⟨_,cM,by lia⟩⟩;o_head zpj (hr'.by T5) (hn'.by T5) i5 rok cM (by lia) (λv6 H6 S6 i6=>?_);have bt:ah 8000 (fK ra rb ns (jx ra rb ns xs n)):=(Tv rok cM (by lia) (wn _)).dQ (wB ..);have i16:=i13.by (S4.trans (S5.trans S6));k_few;rename_i v7 H7 S7 i7;rw[zrO hl h1n]at i7;exact q v7 H7 (T5.trans (S6.trans S7)) i7
def oy(ts:List Rat):List Bool:=ts.map λx=>decide (1<x)
theorem zwx{ts:List Rat}(h:i<ts.length):(oy ts).getD i true=decide (1<ts.getD i 0):=by
 unfold oy;rw[wb,wo,wb,wc h]
 rfl
def tN(a b:Rat)(ns:List Int):Bool:=!((oy (fu a b ns (df a b ns))).any id)
theorem ztu{a:Rat}(h:aZ a b)(k:dm ns)(hF:a^ns.sum.toNat≠1):cZ a b ns (df a b ns):=⟨h.ba,h.bb,λn hn=>by have:=k.each n hn;lia,by rw[yi k.some];have:=k.some;lia,by have:=k.bM;lia,⟨268,zxO h.ba h.bb k.bM k.upTo (by have:=k.sum;lia) hF,by have:=k.bM;have:=k.upTo;lia⟩⟩
def ND(K:wa):Sp:=λvs H Q _=>∃x0 x1,vs=[x0,x1] /\ ∃(a b:Rat)(ns:List Int),Is K H x0 (R a b)/\Is K H x1 (TZ ns)/\aZ a b/\dm ns/\a≠1 /\ ∀H',ag H H'->Q (.bl (tN a b ns)) H'
theorem Lv{a:Rat}{w:V}(h1:Is K H v (R a b))(h2:Is K H w (TZ ns))(ok:aZ a b)(sz:dm ns)(ha:a≠1)(q:∀H',ag H H'->Q (.bl (tN a b ns)) H'):ND K [v,w] H Q E:=⟨_,_,rfl,a,b,ns,h1,h2,ok,sz,ha,q⟩
theorem MS(T:Txt K mg a):aI P w K mg base aU 9 a.HQ a.GZ yC (ND K):=by
 refine T.AY.F.ok zmY ?_ ?_;wtm_at "b2";refine⟨_,(ay (aC (pA (bQ (show aN _ (.builtin "any") (Du K)from zwM rfl) rfl T.h0n zCG (ae (dS rfl (cK.by (N':=["top"]) (src:=[none]) rfl (by kernel_rfl)) (jF (ak (Ut T) hr T.Bn (ae (pv 0) (ae (pv 1) (ae (ak (Mu T) hr T.Bj (ae (pv 0) (ae (pv 1) af))) af))))) (λ_ _ _ _ _=>(bP (i:=0) (of_decide_eq_true (by kernel_rfl)) rfl (Or.inl rfl))) (λ_ _ _ _ _=>dw) (λ_ _ _ _ _=>(ak (iC (K:=K) (mg:=mg) (a:=a) T) hr T.gO (ae (cB (v:=.ref a.eO) rfl T.fI rfl) (ae (pv 0) af))))) af))))),?_⟩;wtm_at "cl";rw[show start BP [x0,x1]=[some x0,some x1]from rfl];obtain⟨ra,rb,ns,hr',hn',ok,sz,ha,q⟩:=h;have h8:=sz.bM;have hps:=sz.pos;have hF:ra^ns.sum.toNat≠1:=λe=>ha ((u4 ok (by lia)).mp e)
 have rok:=ztu ok sz hF;o_head Mp hr' hn' (nY ok sz) (by lia) (by lia) (λe=>absurd e hF) (λ_ v1 H1 S1 i1=>?_);o_head U8 (hr'.by S1) (hn'.by S1) i1 rok (λv2 H2 S2 i2=>?_);obtain⟨a2,us,rfl,hs2,t2⟩:=cb.mp i2;have hl2:=t2.length;rw[wl,jX]at hl2;refine iX hs2 (o0:=none) (tl:=[]) rfl (λi v H=>v=V.bl ((oy (fu ra rb ns (df ra rb ns))).getD i true)) ?_ ?_
 ·rintro D i x ys o H3 hx inv
  obtain⟨hi,ix⟩:=dJ t2 hx;rw[jX]at hi;have ix3:=ix.by inv.same;have b1:=Sl rok hi;have b2:ah 1 1:=ah.one;k_few;exact dB inv (by lia) (λ_ _ _ _ _ h=>h) ⟨_,rfl⟩ (ag.refl _) (by rw[zwx (by rw[jX];exact hi)])
 ·rintro D ys H3 hn3 S3 e3 hl3 hr3
  have hz:=pG (bs:=oy (fu ra rb ns (df ra rb ns))) (by unfold oy;rw[wl,jX];lia) hr3;rw[hz]at e3;o_head zAn (.of e3) ?_;k_few;exact q _ (S1.trans (S2.trans S3))
def nZ(ss:List Rat):List Bool:=ss.map λs=>decide (s=0)
theorem zwy{ts:List Rat}(h:i<ts.length):(nZ ts).getD i true=decide (ts.getD i 0=0):=by
 unfold nZ;rw[wb,wo,wb,wc h]
 rfl
def fc(a b:Rat)(ns:List Int)(xs:List Rat):Bool:=if 1<a then decide (xs=df a b ns)else if a=1 then(nZ (dk a b ns)).all id else tN a b ns
def RS(K:wa):Sp:=λvs H Q _=>∃x0 x1 x2,vs=[x0,x1,x2] /\ ∃(a b:Rat)(ns:List Int)(xs:List Rat),Is K H x0 (R a b)/\Is K H x1 (TZ ns)/\Is K H x2 (TN xs)/\aZ a b/\dm ns /\ ∀H',ag H H'->Q (.bl (fc a b ns xs)) H'
theorem zpm{a:Rat}{w:V}(h1:Is K H v (R a b))(h2:Is K H w (TZ ns))(h3:Is K H u (TN xs))(ok:aZ a b)(sz:dm ns)(q:∀H',ag H H'->Q (.bl (fc a b ns xs)) H'):RS K [v,w,u] H Q E:=⟨_,_,_,rfl,a,b,ns,xs,h1,h2,h3,ok,sz,q⟩
theorem zpd(T:Txt K mg a):aI P w K mg base aU 10 a.Jh a.Hn AM (RS K):=by
 refine T.Ii.F.ok NS ?_ ?_;wtm_at "b3"
 refine⟨_,(av (aA 3 NS.nd (ak (La T) hr T.Bo (ae (pv 0) af)))
     (av (cg (cw (show aM _ (compareOp .Eq) (cR K)from dF hu) (pv 3) dC (bN _)) (ay (aC (fj (show aM _ (compareOp .Eq) (cR K)from dF hu) (dW (show aN _ (.type "tuple") (eH K)from ft) rfl T.h0i dU (ae (pv 2) af)) (ak (Mu T) hr T.Bj (ae (pv 0) (ae (pv 1) af))) (bN _)))) ck)
     (av (cg (cw (show aM _ (compareOp .Eq) (cR K)from dF hu) (pv 3) dC (bN _)) (ay (aC (bQ (show aN _ (.builtin "all") (mj K)from pb rfl) rfl T.h0s pO (ae (dS rfl (cK.by (N':=["shift"]) (src:=[none]) rfl (by kernel_rfl)) (jF (au (ak (sX T) hr T.nO (ae (pv 0) (ae (pv 1) af))))) (λ_ _ _ _ _=>(bP (i:=0) (of_decide_eq_true (by kernel_rfl)) rfl (Or.inl rfl))) (λ_ _ _ _ _=>dw) (λ_ _ _ _ _=>(fj (show aM _ (compareOp .Eq) (cR K)from dF hu) (pv 0) (cB (v:=.ref a.dy) rfl T.ee rfl) (bN _)))) af)))) ck)
     (ay (aC (ak (MS T) hr T.AY (ae (pv 0) (ae (pv 1) af)))))))),?_⟩
 wtm_at "cl";rw[show start Ls [x0,x1,x2]=[some x0,some x1,some x2,none]from rfl];obtain⟨ra,rb,ns,xs,hr',hn',hx',ok,sz,q⟩:=h;have h8:=sz.bM;have h1:=sz.some;have hps:=sz.pos;o_head Mv hr' (ok.ba.mono (by decide)) ?_;unfold rD;unfold fc at q
 by_cases z1:1<ra
 . rw[if_pos z1]at q ⊢
   have hF:ra^ns.sum.toNat≠1:=λe=>absurd ((u4 ok (by lia)).mp e) (by grind)
   o_head kC _ _ true (by rw[vy];decide) ?_;o_head TX hx' ?_;o_head Mp hr' hn' (nY ok sz) (by lia) (by lia) (λe=>absurd e hF) (λ_ v1 H1 S1 i1=>?_);o_head zp (hx'.by S1) i1 ?_;exact q _ S1
 . rw[if_neg z1]at q ⊢
   by_cases z2:ra=1
   . rw[if_pos z2]at q ⊢
     o_head kC _ _ false (by rw[vy];decide) ?_;o_head kC _ _ true (by rw[vy];decide) ?_;o_head sZ hr' hn' (nY ok sz) (by lia) (by lia) (λv1 H1 S1 i1=>?_);o_head az (j:=1) i1 rfl (λv2 i2=>?_);obtain⟨a2,us,rfl,hs2,t2⟩:=cb.mp i2;have hl2:=t2.length;rw[wl]at hl2;have hsl:(dk ra rb ns).length=ns.length-1:=pJ h1;have t2:ai K H1 us ((dk ra rb ns).map N):=t2;have hl2:us.length=(dk ra rb ns).length:=hl2;refine iX hs2 (o0:=none) (tl:=[]) rfl (λi v H=>v=V.bl ((nZ (dk ra rb ns)).getD i true)) ?_ ?_
     . rintro D i x ys o H3 hx inv
       obtain⟨hi,ix⟩:=dJ t2 hx;have ix3:=ix.by inv.same;k_few;exact dB inv (by lia) (λ_ _ _ _ _ h=>h) ⟨_,rfl⟩ (ag.refl _) (by rw[zwy hi])
     . rintro D ys H3 hn3 S3 e3 hl3 hr3
       have hz:=pG (bs:=nZ (dk ra rb ns)) (by unfold nZ;rw[wl];lia) hr3;rw[hz]at e3;o_head nM (.of e3) ?_;exact q _ (S1.trans S3)
   . rw[if_neg z2]at q ⊢
     o_head kC _ _ false (by rw[vy];decide) ?_;o_head kC _ _ false (by rw[vy];decide) ?_;k_few;exact Lv hr' hn' ok sz z2 q
theorem zBx{a:Rat}(hF:a^ns.sum.toNat≠1)(hl:ns.length=xs.length+1)(k:Nat):cY a b ns k xs=gj ((a^ns.sum.toNat)^k) (df a b ns) xs:=by
 have hs:(df a b ns).length=xs.length:=by rw[yi (by lia)];lia
 refine lu (by rw[d_,pL hs,hs]) λi hi=>?_
 rw[d_]at hi;rw[mS hs (by lia),mw hi,zzD (zwz hF (by lia))]
theorem CS{a:Rat} : fD a b ns xs=true ↔ (∀i,i<xs.length+1->(dX xs).getD (i+1) 0<(dX xs).getD i 0) /\ ∀i,i<ns.length->(fu a b ns xs).getD i 0<1:=by
 unfold fD;rw[wT,vZ,vZ]
 constructor
 ·rintro ⟨h1,h2⟩
  refine⟨λi hi=>?_,λi hi=>?_⟩
  ·have:=h1 _ (wP.mpr ⟨i,wG.mpr hi,rfl⟩)
   exact of_decide_eq_true this
  ·have:=h2 _ (wP.mpr ⟨_,getD_mem (d:=0) (show i<(fu a b ns xs).length by rw[jX];exact hi),rfl⟩)
   exact of_decide_eq_true this
 ·rintro ⟨h1,h2⟩
  refine⟨λx hx=>?_,λx hx=>?_⟩
  ·obtain⟨i,hi,rfl⟩:=wP.mp hx
   exact decide_eq_true (h1 i (wG.mp hi))
  ·obtain⟨t,ht,rfl⟩:=wP.mp hx
   obtain⟨i,hi,rfl⟩:=wP.mp ht;have:=h2 i (wG.mp hi);rw[oq (wG.mp hi)]at this;exact decide_eq_true this
theorem Sn:∀l:List Rat,(∀i,i+1<l.length->l.getD (i+1) 0<l.getD i 0)->l.Pairwise (· > ·)
 | [],_=>.nil
 | x::l,h=>by
  have h':∀i,i+1<l.length->l.getD (i+1) 0<l.getD i 0:=λi hi=>by
   have:=h (i+1) (by simp;lia)
   simpa using this
  have hd:∀j,j<l.length->l.getD j 0<x:=λj=>by
   induction j with
   | zero=>intro hj;have:=h 0 (by simp;lia);simpa using this
   | succ j ih=>intro hj;have h3:=h' j hj;have h4:=ih (by lia);grind
  refine WK.mpr ⟨λy hy=>?_,Sn l h'⟩;obtain⟨j,hj,e⟩:=wY hy;have:=hd j hj;rw[wb,wc hj]at this
  show y<x
  rw[<- e];exact this
theorem zxW{l:List Rat}(h:l.Pairwise (· > ·))(hi:i+1<l.length):l.getD (i+1) 0<l.getD i 0:=by
 rw[wb,wb,wc hi,wc (show i<l.length by lia)];exact(Wj.mp h) i (i+1) (by lia) hi (by lia)
theorem pU(xs:List Rat)(i:Nat):(dX xs).getD (i+1) 0=(xs++[0]).getD i 0:=by
 unfold dX;rw[WP]
 rfl
theorem Yo(h:∀i,i<xs.length+1->(dX xs).getD (i+1) 0<(dX xs).getD i 0):iN (xs++[0])/\(xs++[0]).getD 0 0<1:=by
 have pw:(xs++[0]).Pairwise (· > ·):=Sn _ λi hi=>by
  have:=h (i+1) (by simp at hi;lia);rw[pU,pU]at this;exact this
 refine⟨⟨pw,λy hy=>?_⟩,?_⟩
 ·rcases vb.mp hy with z | z
  ·exact vU ((V8.mp pw).2.2 y z 0 (wI.mpr rfl))
  ·rw[wI.mp z];exact Wz
 ·have:=h 0 (by lia)
  rw[pU]at this;exact this
theorem Tz(pw:(xs++[0]).Pairwise (· > ·))(one:(xs++[0]).getD 0 0<1):∀i,i<xs.length+1->(dX xs).getD (i+1) 0<(dX xs).getD i 0
 | 0,_=>by rw[pU];exact one
 | i+1,hi=>by rw[pU,pU];exact zxW pw (by simp;lia)
theorem Fh{a:Rat}(h:ns.length=xs.length+1):dj a b ns xs++[0]=aR a b ns (xs++[0]) ns.length:=by
 have hl:=oW (a:=a) (b:=b) h;have hr:(aR a b ns (xs++[0]) ns.length).length=xs.length+1:=by rw[du];simp
 refine lu (by rw[hr,wy,hl];rfl) λi hi=>?_
 rw[wy,hl]at hi;have hi:i<xs.length+1:=hi;rcases wD i xs.length with z | z
 ·rw[Cn (by lia),EL h z]
 ·have e:i=xs.length:=by lia
  have e2:(dj a b ns xs++[0]).getD i 0=0:=by rw[e,<- hl];exact sR
  rw[e2,e,h,aR,gS _ _ _ _ _ _ (by rw[du];simp),if_pos rfl]
theorem Ra{a b:Rat}(a0:0<a)(b0:0<=b){ns:List Int}{row:List Rat}(F:iN row)(one:row.getD 0 0<1)(jh:∀t,t<row.length->eZ a b ns row t<1):∀i,i<=row.length->iN (turned a b ns row i)
 | 0,_=>F
 | i+1,hi=>by
  have ih:=Ra a0 b0 F one jh i (by lia)
  have oi:(aR a b ns row i).getD i 0<1:=by
   cases i with
   | zero=>exact one
   | succ j =>
    have:=jh j (by lia);unfold eZ at this;rw[Xv (by lia)]at this;exact this
  obtain⟨x,l,ex⟩:∃x l,turned a b ns row i=x::l:=by
   cases e:turned a b ns row i with
   | nil =>
    have:=Fo a b ns row (by lia) i;rw[e]at this;simp at this;lia
   | cons x l=>exact⟨x,l,rfl⟩
  have hx:x=(aR a b ns row i).getD i 0:=by
   have:=Df a b ns row (show i<row.length by lia);rw[ex]at this;exact this
  show iN (mM a b (ns.getD i 0).toNat (turned a b ns row i))
  rw[ex]at ih ⊢;exact ih.step a0 b0 (by rw[hx];exact oi)
theorem zue{a:Rat}(ok:aZ a b)(hn:ns.length=xs.length+1)(f:fD a b ns xs=true):∀i,i<(dj a b ns xs).length+1->(dX (dj a b ns xs)).getD (i+1) 0<(dX (dj a b ns xs)).getD i 0:=by
 obtain⟨h1,h2⟩:=CS.mp f;obtain⟨F,one⟩:=Yo h1;have hl:(xs++[0]).length=ns.length:=by simp[hn]
 have jh:∀t,t<(xs++[0]).length->eZ a b ns (xs++[0]) t<1:=λt ht=>by
  have:=h2 t (by lia);rw[oq (by lia)]at this;unfold eZ;rw[hl];exact this
 have Fl:=Ra ok.a0 ok.b0 F one jh (xs++[0]).length (wn _);rw[hl,zuu a b ns _ hl.symm,<- Fh hn]at Fl;have t:=jh (ns.length-1) (by lia);unfold eZ at t;rw[hl,show ns.length-1+1=ns.length by lia,Nat.mod_self,<- Fh hn]at t;exact Tz Fl.pw t
theorem zzw(c:Rat)(xs:List Rat):gj c xs xs=xs:=lu (pL rfl) λi hi=>by
 rw[pL rfl]at hi;rw[mS rfl hi]
 grind
def cU(a b:Rat)(ns:List Int)(xs:List Rat)(k:Nat):Bool:=fD a b ns (cY a b ns k xs)
theorem rW{a:Rat}(ok:aZ a b)(sz:dm ns)(hk:k<=31):eP a b ns k:=⟨ok,sz,by lia,by
 have h1:=sz.sum;have h2:(6*ns.sum.toNat+1+1)*k<=50*k:=Wc k (by lia);lia⟩
theorem L9{a:Rat}(ok:aZ a b)(sz:dm ns)(c:Cm m xs)(hk:k<=31):Cm (m+188+102*k) (cY a b ns k xs):=(zCP (rW ok sz hk) c).mono (by
 have h1:=sz.sum;have h2:(6*ns.sum.toNat+3)*k<=51*k:=Wc k (by lia);lia)
theorem Fb{a:Rat}(ok:aZ a b)(sz:dm ns)(hn:ns.length=xs.length+1)(c:Cm m xs)(hm:m<=3700)(hk:k<=30):cZ a b ns (cY a b ns k xs):=⟨ok.ba,ok.bb,λn hn=>by have:=sz.each n hn;lia,by rw[d_];exact hn,by have:=sz.bM;lia,⟨_,L9 ok sz c (by lia),by have:=sz.bM;have:=sz.upTo;lia⟩⟩
def Ej(K:wa)(a:Ad):Sp:=λvs H Q E=>∃x0 x1 x2,vs=[x0,x1,x2] /\ ∃(ra rb:Rat)(ns:List Int)(xs:List Rat),Is K H x0 (R ra rb)/\Is K H x1 (TZ ns)/\Is K H x2 (TN xs)/\aZ ra rb/\dm ns/\ns.length=xs.length+1/\cZ ra rb ns xs/\(fc ra rb ns xs=false->∃n:Nat,n<=30/\(n=30\/cU ra rb ns xs n=false)/\(∀k,k<=n->cZ ra rb ns (cY ra rb ns k xs))/\(∀k,k<n->∀j,ah 6900 ((cY ra rb ns k xs).getD j 0))) /\
 (cU ra rb ns xs 0=false->∀H',ag H H'->Q (.int 0) H') /\
 (cU ra rb ns xs 0=true->fc ra rb ns xs=true->∀H',ag H H'->Q .bG H') /\
 (∀c:Nat,1<=c->c<=30->fc ra rb ns xs=false->(∀k,k<c->cU ra rb ns xs k=true)->cU ra rb ns xs c=false->∀H',ag H H'->Q (.int (c:Int)) H') /\
 (fc ra rb ns xs=false->(∀k,k<=30->cU ra rb ns xs k=true)->∀H',ag H H'->E (.ref a.ic) none H')
theorem zm4{w:V}(h1:Is K H v (R ra rb))(h2:Is K H w (TZ ns))(h3:Is K H u (TN xs))(ok:aZ ra rb)(sz:dm ns)(hn:ns.length=xs.length+1)(r0:cZ ra rb ns xs)(hb:fc ra rb ns xs=false->∃n:Nat,n<=30/\(n=30\/cU ra rb ns xs n=false)/\(∀k,k<=n->cZ ra rb ns (cY ra rb ns k xs))/\(∀k,k<n->∀j,ah 6900 ((cY ra rb ns k xs).getD j 0)))
  (q0:cU ra rb ns xs 0=false->∀H',ag H H'->Q (.int 0) H')
  (q1:cU ra rb ns xs 0=true->fc ra rb ns xs=true->∀H',ag H H'->Q .bG H')
  (q2:∀c:Nat,1<=c->c<=30->fc ra rb ns xs=false->(∀k,k<c->cU ra rb ns xs k=true)->cU ra rb ns xs c=false->∀H',ag H H'->Q (.int (c:Int)) H')
  (q3:fc ra rb ns xs=false->(∀k,k<=30->cU ra rb ns xs k=true)->∀H',ag H H'->E (.ref a.ic) none H'):Ej K a [v,w,u] H Q E:=⟨_,_,_,rfl,ra,rb,ns,xs,h1,h2,h3,ok,sz,hn,r0,hb,q0,q1,q2,q3⟩
theorem znS{w:V}(h1:Is K H v (R ra rb))(h2:Is K H w (TZ ns))(h3:Is K H u (TN xs))(ok:aZ ra rb)(sz:dm ns)(hn:ns.length=xs.length+1)(c:Cm m xs)(hm:m<=3700)
  (q0:cU ra rb ns xs 0=false->∀H',ag H H'->Q (.int 0) H')
  (q1:cU ra rb ns xs 0=true->fc ra rb ns xs=true->∀H',ag H H'->Q .bG H')
  (q2:∀c:Nat,1<=c->c<=30->fc ra rb ns xs=false->(∀k,k<c->cU ra rb ns xs k=true)->cU ra rb ns xs c=false->∀H',ag H H'->Q (.int (c:Int)) H')
  (q3:fc ra rb ns xs=false->(∀k,k<=30->cU ra rb ns xs k=true)->∀H',ag H H'->E (.ref a.ic) none H'):Ej K a [v,w,u] H Q E :=
 zm4 h1 h2 h3 ok sz hn (by have:=Fb ok sz hn c hm (k:=0) (by decide);rw[pV]at this;exact this) (λ_=>⟨30,wn 30,.inl rfl,λk hk=>Fb ok sz hn c hm hk,λk hk j=>((L9 ok sz c (k:=k) (by lia)).get j).mono (by lia)⟩) q0 q1 q2 q3
theorem Zu(T:Txt K mg a):aI P w K mg base (fU P w) 11 a.IJ a.Hm uI (Ej K a):=by
 refine T.HH.F.yp tG ?_ ?_;wtm_at "b3"
 refine⟨_,(av (cg (cN (cE (ak (tI T) hr T.nQ (ae (pv 0) (ae (pv 1) (ae (pv 2) af)))))) (ay (aC ao)) ck)
     (av (cg (cE (ak (zpd T) hr T.Ii (ae (pv 0) (ae (pv 1) (ae (pv 2) af))))) (ay (aC fB)) ck)
     (av (aA 3 tG.nd (ak (sX T) hr T.nO (ae (pv 0) (ae (pv 1) af))))
     (av (aA 4 tG.nd (pv 2))
     (av (gD Xe rfl (zwn rfl T.h0j (ae ao (ae (aB cv (mV rfl T.Il) ao) af))) (bP (i:=5) tG.nd rfl (Or.inl rfl)) (av (aA 4 tG.nd (ak (ML T) hr T.Bg (ae (pv 3) (ae (pv 4) (ae ao af)))))
     (ay (cg (cN (cE (ak (tI T) hr T.nQ (ae (pv 0) (ae (pv 1) (ae (pv 4) af)))))) (ay (aC (pv 5))) ck))))
     (ay (OL T.YQ rfl rfl T.JO Nu (ae dC af)))))))),?_⟩
 wtm_at "cl";rw[show start Ur [x0,x1,x2]=[some x0,some x1,some x2,none,none,none]from rfl];obtain⟨ra,rb,ns,xs,hr',hn',hx',ok,sz,hn,r0,hb,q0,q1,q2,q3⟩:=h;have h8:=sz.bM;have h1:=sz.some;have hps:=sz.pos;have e0:cU ra rb ns xs 0=fD ra rb ns xs:=by unfold cU;rw[pV]
 o_head sf hr' hn' hx' r0 (λH1 S1=>?_);k_few
 . rename_i z
   exact q0 (by rw[e0];exact z) H1 S1
 . rename_i z
   have hr1:=hr'.by S1;have hn1:=hn'.by S1;have hx1:=hx'.by S1;refine zpm hr1 hn1 hx1 ok sz (λH2 S2=>?_);k_few
   . rename_i y
     exact q1 (by rw[e0];exact z) y H2 (S1.trans S2)
   . rename_i y
     have y:fc ra rb ns xs=false:=by first | exact y | exact Xy _ ▸ y
     obtain⟨n,n30,stop,rd,bd⟩:=hb y;refine sZ (hr1.by S2) (hn1.by S2) (nY ok sz) (by lia) (by lia) (λv3 H3 S3 i3=>?_);have T3:ag H H3:=S1.trans (S2.trans S3);have hr3:=hr'.by T3;have hn3:=hn'.by T3;have hx3:=hx'.by T3;clear hr1 hn1 hx1 S1 S2 S3;o_head Zp ?_;o_head zuq (lo:=1) (hi:=31) (by decide) (by decide) (by decide) (by decide) (λi σ H'=>∃(v:V)(o:Option V),σ = [some x0,some x1,some x2,some v3,some v,o]/\ag H3 H'/\Is K H' v (TN (cY ra rb ns i xs)) /\ ∀k,k<=i->cU ra rb ns xs k=true) ⟨_,_,rfl,ag.refl _,by rw[pV];exact hx3,λk hk=>by rw[show k=0 by lia,e0];exact z⟩ ?_ ?_
     . rintro i σ H4 hi ⟨v,o,rfl,S4,iv,fr⟩
       have hi:i<30:=hi;have i34:=i3.by S4
       have hin:i<n:=by
         rcases stop with e | e
         . lia
         . rcases wD i n with u | u
           . exact u
           . rw[fr n u]at e;cases e
       o_head Po (ss:=dk ra rb ns) i34 iv (by decide) (by decide) (by rw[pJ h1,d_];lia) (by rw[d_];lia) ((jW ok _).mono (by have:=sz.sum;lia)) (λj hj=>((rW ok sz (k:=1) (by decide)).pow hj).mono (by decide)) (λj hj=>((rW ok sz (k:=1) (by decide)).aE hj).mono (by decide)) (λj=>bd i hin j) (λj=>(zV ok sz j).mono (by decide)) (λv5 H5 S5 i5=>?_);have i5:Is K H5 v5 (TN (cY ra rb ns 1 (cY ra rb ns i xs))):=i5;rw[Px]at i5;have T5:=S4.trans S5;o_head sf (hr3.by T5) (hn3.by T5) i5 (rd (i+1) (by lia)) (λH6 S6=>?_);have T6:=T5.trans S6;k_few
       . rename_i w
         have q:=q2 (i+1) (by lia) (by lia) y (λk hk=>fr k (by lia)) (by unfold cU;exact w) H6 (T3.trans T6);rw[show((i+1:Nat):Int)=1+(i:Int) by lia]at q;exact q
       . rename_i w
         refine⟨_,_,rfl,T6,i5.by S6,λk hk=>?_⟩;rcases wD k (i+1)with u | u
         . exact fr k (by lia)
         . have:k=i+1:=by lia
           subst this;unfold cU
           first | exact w | exact Bool.not_eq_false _ ▸ w
     . rintro σ H4 ⟨v,o,rfl,S4,iv,fr⟩
       k_few;exact⟨by simp;decide,q3 y (λk hk=>fr k hk) H4 (T3.trans S4)⟩
def fm(n:Nat):List PyData->Bool
 | d::.tuple ps::_=>a_ d&&(decide (ps.length=n)&&ps.all a_)
 | _=>false
theorem OI(h:fk e=false):fm n (d::e::ds)=false:=by
 cases e<;>first | rfl | (simp[fk]at h)
def LI(K:wa):Sp:=λvs H Q _=>∃x0 x1,vs=[x0,x1] /\ ∃(d e:PyData)(ds:List PyData)(n:Nat),Is K H x0 (.tuple (d::e::ds))/\x1=.int (n:Int)/\(∀ps,e=.tuple ps->ps.length<=900) /\ ∀H',ag H H'->Q (.bl (fm n (d::e::ds))) H'
theorem NY(i:Is K H v (.tuple (d::e::ds)))(h9:∀ps,e=.tuple ps->ps.length<=900)(q:∀H',ag H H'->Q (.bl (fm n (d::e::ds))) H'):LI K [v,.int (n:Int)] H Q E:=⟨_,_,rfl,d,e,ds,n,i,rfl,h9,q⟩
theorem Rv(T:Txt K mg a):aI P w K mg base aU 3 a.JC a.Ie AN (LI K):=by
 refine T.A9.F.ok zrC ?_ ?_;wtm_at "b2"
 refine⟨_,(av (cg (PW.pt (fG (cN (cE (ak (sj T) hr T.nP (ae (au (pv 0)) af)))) (fG (cN (cE (bQ (show aN _ (.builtin "isinstance") (fg K)from j5) rfl T.h0c jz (ae (au (pv 0)) (ae (iS (v:=.ty "tuple") rfl T.h0i dU rfl) af))))) (gQ (cw (show aM _ (compareOp .NotEq) (ig K)from lz hu) (bQ (show aN _ (.builtin "len") (cO K)from dH) rfl T.h0o dM (ae (au (pv 0)) af)) (pv 1) (bN _)))))) (ay (aC cP)) ck)
     (ay (aC (bQ (show aN _ (.builtin "all") (mj K)from pb rfl) rfl T.h0s pO (ae (dS rfl (cK.by (N':=["phase"]) (src:=[none]) rfl (by kernel_rfl)) (jF (au (pv 0))) (λ_ _ _ _ _=>(bP (i:=0) (of_decide_eq_true (by kernel_rfl)) rfl (Or.inl rfl))) (λ_ _ _ _ _=>dw) (λ_ _ _ _ _=>(ak (sj (K:=K) (mg:=mg) (a:=a) T) hr T.nP (ae (pv 0) af)))) af))))),?_⟩
 wtm_at "cl";rw[show start FN [x0,x1]=[some x0,some x1]from rfl];obtain⟨d,e,ds,n,hi,rfl,h9,q⟩:=h;have q0:=q;o_head az (j:=0) hi rfl (λv0 i0=>?_);k_few
 . rename_i z
   have:fm n (d::e::ds)=false:=by
     cases e<;>first | rfl | (show(a_ d&&_)=false;rw[z];rfl)
   rw[this]at q;exact q H (λ_ _ h=>h)
 . rename_i z
   refine az (j:=1) hi rfl (λv1 i1=>?_);k_few
   . rename_i y
     rw[OI y]at q;exact q H (λ_ _ h=>h)
   . rename_i y
     cases e with
     | tuple ps =>
       have hl:=h9 ps rfl;have eq1:fm n (d::.tuple ps::ds)=(decide (ps.length=n)&&ps.all a_):=by show(a_ d&&_)=_;rw[z];rfl
       rw[eq1]at q;refine az (j:=1) hi rfl (λv2 i2=>?_);o_head kX i2 ?_;k_few
       . rename_i w
         rw[decide_eq_false (by lia)]at q;exact q H (λ_ _ h=>h)
       . rename_i w
         rw[decide_eq_true (by lia)]at q;refine az (j:=1) hi rfl (λv3 i3=>?_);obtain⟨a3,vs3,rfl,s3,t3⟩:=cb.mp i3;have hv:=t3.length;refine iX s3 (o0:=none) (tl:=[]) rfl (λj y _=>y=.bl ((ps.map a_).getD j true)) ?_ ?_
         . intro D j x ys o H1 hx inv
           obtain⟨hj,ix⟩:=gC t3 hx;have ix:=ix.by inv.2.2.1;k_few;exact dB inv (by lia) (λ_ _ _ _ _ h=>h) ⟨_,rfl⟩ (ag.refl _) (by rw[wb (l:=List.map _ _),wo,wc hj,wb,wc hj];rfl)
         . intro D ys H1 n1 S1 e1 l1 r1
           have ey:=pG (bs:=ps.map a_) (by rw[wl];lia) r1;rw[ey]at e1;o_head nM (.of e1) ?_;have:=q _ S1;rw[show(ps.map a_).all id=ps.all a_ by rw[qP];rfl];exact this
     | _=>cases (show false=true from y)
def gb(n:Nat):PyData->Bool
 | .tuple [a,b,c,e]=>fm n [a,b,c,e]&&(fF 0 30 c&&fF 0 40 e)
 | _=>false
def gR(d:PyData):Prop:=∀a b ds,d=.tuple (a::b::ds)->∀ps,b=.tuple ps->ps.length<=900
theorem Og(h:fk d=false):gb n d=false:=by
 cases d<;>first | rfl | (simp[fk]at h)
theorem Lq(h:¬ ds.length=4):gb n (.tuple ds)=false:=by
 match ds with
 | []=>rfl
 | [_]=>rfl
 | [_,_]=>rfl
 | [_,_,_]=>rfl
 | [_,_,_,_]=>exact absurd rfl h
 | _::_::_::_::_::_=>rfl
def Sj(K:wa):Sp:=λvs H Q _=>∃x0 x1,vs=[x0,x1] /\ ∃(d:PyData)(n:Nat),Is K H x0 d/\x1=.int (n:Int)/\gR d /\ ∀H',ag H H'->Q (.bl (gb n d)) H'
theorem ZX(i:Is K H v d)(s:gR d)(q:∀H',ag H H'->Q (.bl (gb n d)) H'):Sj K [v,.int (n:Int)] H Q E:=⟨_,_,rfl,d,n,i,rfl,s,q⟩
theorem ZO(T:Txt K mg a):aI P w K mg base aU 4 a.KD a.JG zh (Sj K):=by
 refine T.JV.F.ok zwG ?_ ?_;wtm_at "b2"
 refine⟨_,(av (cg (PW.pt (fG (cN (cE (bQ (show aN _ (.builtin "isinstance") (fg K)from j5) rfl T.h0c jz (ae (pv 0) (ae (iS (v:=.ty "tuple") rfl T.h0i dU rfl) af))))) (fG (cw (show aM _ (compareOp .NotEq) (ig K)from lz hu) (bQ (show aN _ (.builtin "len") (cO K)from dH) rfl T.h0o dM (ae (pv 0) af)) ao (bN _)) (gQ (cN (cE (ak (Rv T) hr T.A9 (ae (pv 0) (ae (pv 1) af))))))))) (ay (aC cP)) ck)
     (ay (aC (fb (ak (UY T) hr T.AW (ae ao (ae (mV rfl T.Il) (ae (au (pv 0)) af)))) (gc (ak (UY T) hr T.AW (ae ao (ae (mV rfl T.YH) (ae (au (pv 0)) af))))))))),?_⟩
 wtm_at "cl";rw[show start Cy [x0,x1]=[some x0,some x1]from rfl];obtain⟨d,n,hi,rfl,hs,q⟩:=h;k_few
 . rename_i z
   rw[Og z]at q;exact q H (λ_ _ h=>h)
 . rename_i z
   cases d with
   | tuple ds =>
     refine kX hi ?_;k_few
     . rename_i y
       rw[Lq (by lia)]at q;exact q H (λ_ _ h=>h)
     . rename_i y
       match ds,y with
       | [a0,b0,c0,e0],_ =>
         refine NY hi (hs _ _ _ rfl) (λH1 S1=>⟨_,rfl,?_⟩);have hi1:=hi.by S1;have q1:=q _ S1;have e1:gb n (.tuple [a0,b0,c0,e0])=(fm n [a0,b0,c0,e0]&&(fF 0 30 c0&&fF 0 40 e0)):=rfl;rw[e1]at q1;cases hst:fm n [a0,b0,c0,e0]with
         | false =>
           rw[hst]at q1;k_few;exact q1
         | true =>
           rw[hst]at q1;o_head az (j:=2) hi1 rfl (λv2 i2=>?_);o_head NA i2 ⟨_,rfl,?_⟩;cases hc:fF 0 30 c0 with
           | false =>
             rw[hc]at q1;k_few;exact q1
           | true =>
             rw[hc]at q1;o_head az (j:=3) hi1 rfl (λv3 i3=>?_);o_head NA i3 ?_;exact q1
   | _=>cases (show false=true from z)
def nA(w:String):Prop:=w="one"\/w="rests"\/w="drawn"
def yg:List PyData:=[.str (wC "one"),.str (wC "rests"),.str (wC "drawn")]
theorem Uq{w:PySem.Str}(h:V1 w=true):Sh 1 (.str w):=⟨by simpa [vX] using h,by simp[VC]⟩
theorem zuV :vX (.tuple yg)=true:=(OC (n:=1) λd hd=>by
 simp only[yg,wH,W1,or_false]at hd;rcases hd with rfl | rfl | rfl<;>exact Uq (kS _)).1
def kz:PyData->Bool
 | .str w=>yg.any λe=>vy e (.str w)
 | _=>false
def ly(n:Nat):PyData->Bool
 | .tuple [a,b,c]=>fm n [a,b,c]&&kz c
 | _=>false
def iW(d:PyData):Prop:=∀a b w,d=.tuple [a,b,.str w]->V1 w=true
theorem MW(h:fk d=false):ly n d=false:=by
 cases d<;>first | rfl | (simp[fk]at h)
theorem Td(h:¬ ds.length=3):ly n (.tuple ds)=false:=by
 match ds with
 | []=>rfl
 | [_]=>rfl
 | [_,_]=>rfl
 | [_,_,_]=>exact absurd rfl h
 | _::_::_::_::_=>rfl
theorem zwP(h:zG d=false):kz d=false:=by
 cases d<;>first | rfl | cases h
theorem zA7{w:PySem.Str}(t:bA K H p [.str (wC "one"),.str (wC "rests"),.str (wC "drawn")])(h:V1 w=true)(q:Q (.bl (kz (.str w))) H):oZ K (.str w) (.ref p) H Q :=
 ⟨.str w,yg,cW.mpr rfl,cb.mpr ⟨p,_,rfl,t,.cons (cW.mpr rfl) (.cons (cW.mpr rfl) (.cons (cW.mpr rfl) .nil))⟩,(Uq h).mono (by decide),zuV,q⟩
def Pt(K:wa):Sp:=λvs H Q _=>∃x0 x1,vs=[x0,x1] /\ ∃(d:PyData)(n:Nat),Is K H x0 d/\x1=.int (n:Int)/\gR d/\iW d /\ ∀H',ag H H'->Q (.bl (ly n d)) H'
theorem znH(i:Is K H v d)(s:gR d)(sw:iW d)(q:∀H',ag H H'->Q (.bl (ly n d)) H'):Pt K [v,.int (n:Int)] H Q E:=⟨_,_,rfl,d,n,i,rfl,s,sw,q⟩
theorem zn8(T:Txt K mg a):aI P w K mg base aU 4 a.Iy a.Hj yx (Pt K):=by
 refine T.Hw.F.ok zol ?_ ?_;wtm_at "b2";have hgd:=hr.gd
 refine⟨_,(av (cg (PW.pt (fG (cN (cE (bQ (show aN _ (.builtin "isinstance") (fg K)from j5) rfl T.h0c jz (ae (pv 0) (ae (iS (v:=.ty "tuple") rfl T.h0i dU rfl) af))))) (fG (cw (show aM _ (compareOp .NotEq) (ig K)from lz hu) (bQ (show aN _ (.builtin "len") (cO K)from dH) rfl T.h0o dM (ae (pv 0) af)) ao (bN _)) (gQ (cN (cE (ak (Rv T) hr T.A9 (ae (pv 0) (ae (pv 1) af))))))))) (ay (aC cP)) ck)
     (ay (aC (fb (bQ (show aN _ (.builtin "isinstance") (fg K)from j5) rfl T.h0c jz (ae (au (pv 0)) (ae (iS (v:=.ty "str") rfl T.h0t zDw rfl) af))) (gc (fj (show aM _ (compareOp .In) (oZ K)from Em hu) (au (pv 0)) (cB (v:=.ref a.Bl) rfl T.YU rfl) (by with_unfolding_all rfl))))))),?_⟩
 wtm_at "cl";rw[show start DX [x0,x1]=[some x0,some x1]from rfl];obtain⟨d,n,hi,rfl,hs,hsw,q⟩:=h;k_few
 . rename_i z
   rw[MW z]at q;exact q H (λ_ _ h=>h)
 . rename_i z
   cases d with
   | tuple ds =>
     refine kX hi ?_;k_few
     . rename_i y
       rw[Td (by lia)]at q;exact q H (λ_ _ h=>h)
     . rename_i y
       match ds,y with
       | [a0,b0,c0],_ =>
         refine NY hi (hs _ _ _ rfl) (λH1 S1=>⟨_,rfl,?_⟩);have hi1:=hi.by S1;have q1:=q _ S1;have e1:ly n (.tuple [a0,b0,c0])=(fm n [a0,b0,c0]&&kz c0):=rfl;rw[e1]at q1;cases hst:fm n [a0,b0,c0]with
         | false =>
           rw[hst]at q1;k_few;exact q1
         | true =>
           rw[hst]at q1;o_head az (j:=2) hi1 rfl (λv2 i2=>?_);o_head zxT i2 ⟨_,rfl,?_⟩;cases hc:zG c0 with
           | false =>
             rw[zwP hc]at q1;k_few;exact q1
           | true =>
             cases c0 with
             | str w0 =>
               o_head az (j:=2) hi1 rfl (λv3 i3=>?_);cases cW.mp i3;k_few;exact zA7 (T.YT _) (hsw _ _ _ rfl) q1
             | _=>cases hc
   | _=>cases (show false=true from z)
def jR(n:Nat)(ds:List PyData):Bool:=match ds.getLast? with
 | none=>false
 | some l=>ds.dropLast.all (gb n)&&ly n l
theorem rN(n:Nat)(ds:List PyData)(d:PyData):jR n (ds++[d])=(ds.all (gb n)&&ly n d):=by
 unfold jR;rw[List.getLast?_concat,List.dropLast_concat]
theorem zwN(ds:List α)(d : α):L2.cutD (ds++[d]) none (some (-1))=ds:=by
 unfold L2.cutD;have e1:HT.bD (ds++[d]).length 0 none=0:=by simp[HT.bD]
 have e2:HT.bD (ds++[d]).length (ds++[d]).length (some (-1))=ds.length:=by
  rw[wy,wL];simp[HT.bD];lia
 rw[e1,e2];simp
def Nx(K:wa):Sp:=λvs H Q _=>∃x0 x1,vs=[x0,x1] /\ ∃(n:Nat)(ds:List PyData),Is K H x0 (.list ds)/\x1=.int (n:Int)/\ds.length<=200/\(∀d∈ds,gR d/\iW d) /\ ∀H',ag H H'->Q (.bl (jR n ds)) H'
theorem zq0(i:Is K H v (.list ds))(bM:ds.length<=200)(sm:∀d∈ds,gR d/\iW d)(q:∀H',ag H H'->Q (.bl (jR n ds)) H'):Nx K [v,.int (n:Int)] H Q E:=⟨_,_,rfl,n,ds,i,rfl,bM,sm,q⟩
theorem zsi(T:Txt K mg a):aI P w K mg base aU 5 a.JY a.Iu yO (Nx K):=by
 refine T.Jk.F.ok Zl ?_ ?_;wtm_at "b2"
 refine⟨_,(av (cg (PW.pt (fG (cN (cE (bQ (show aN _ (.builtin "isinstance") (fg K)from j5) rfl T.h0c jz (ae (pv 0) (ae (iS (v:=.ty "list") rfl T.h0l kF rfl) af))))) (gQ (cN (Ar (pv 0)))))) (ay (aC cP)) ck)
     (ay (aC (fb (bQ (show aN _ (.builtin "all") (mj K)from pb rfl) rfl T.h0s pO (ae (dS rfl (cK.by (N':=["row","worms"]) (src:=[none,some 1]) rfl (by kernel_rfl)) (fe (fY fV (pv 0) fS (fT (fE fC ao)))) (λ_ _ _ _ _=>(bP (i:=0) (of_decide_eq_true (by kernel_rfl)) rfl (Or.inl rfl))) (λ_ _ _ _ _=>dw) (λ_ _ _ _ _=>(ak (ZO (K:=K) (mg:=mg) (a:=a) T) hr T.JV (ae (pv 0) (ae (pv 1) af))))) af)) (gc (ak (zn8 T) hr T.Hw (ae (c9 cJ (pv 0) (fE fC ao) (λ_ _=>rfl)) (ae (pv 1) af)))))))),?_⟩
 wtm_at "cl";rw[show start C0 [x0,x1]=[some x0,some x1]from rfl];obtain⟨n,ds,hi,rfl,bM,sm,q⟩:=h;o_head zzc hi ?_;rw[show mv (PyData.list ds)=true from rfl];o_head Fj hi ?_;rcases xh ds with rfl | ⟨ds,d,rfl⟩
 . rw[show(!([]:List PyData).isEmpty)=false from rfl]
   k_few;exact q H (λ_ _ h=>h)
 . rw[xi]at *
   rw[show(!(ds++[d]).isEmpty)=true by simp];rw[rN]at q;rw[wy,wL]at bM;o_head nI hi (λl1 H1 us n1 S1 e1 t1=>?_);rw[zwN]at t1;have lt:=t1.length;o_head iY (.of e1) (o0:=none) (tl:=[some (.int (n:Int))]) rfl (λj y _=>y=.bl ((ds.map (gb n)).getD j true)) ?_ ?_
   . intro D j x ys o H2 hx inv
     obtain⟨hj,ir⟩:=gC t1 hx;have hm:ds.getD j .none∈ds:=getD_mem hj;o_head ZX (ir.by inv.2.2.1) (sm _ (WO _ hm)).1 (λH3 S3=>?_);k_few;exact dB inv (by lia) (λ_ _ _ _ _ h=>h) ⟨_,rfl⟩ S3 (by rw[wb (l:=List.map _ _),wo,wc hj,wb,wc hj];rfl)
   . intro D ys H2 n2 S2 e2 l2 r2
     have ey:=pG (bs:=ds.map (gb n)) (by rw[wl];lia) r2;rw[ey]at e2;o_head nM (.of e2) ?_;rw[show(ds.map (gb n)).all id=ds.all (gb n) by rw[qP];rfl];have T2:=S1.trans S2;cases ha:ds.all (gb n)with
     | false =>
       rw[ha]at q;k_few;exact q _ T2
     | true =>
       rw[ha]at q;o_head nv (hi.by T2) (λv3 i3=>?_);have hd:d∈ds++[d]:=vI _ (wI.mpr rfl);o_head znH i3 (sm _ hd).1 (sm _ hd).2 (λH3 S3=>?_);exact q _ (T2.trans S3)
theorem Sk{a:Rat}(ok:aZ a b){ps:List Rat}{fl:Nat->Nat}(L:gB xs (ps++[0]) fl ns)(hn:ns.length=ps.length+1)(f:fD a b ns ps=true) :
  gB (aj a b xs ns.length) (dj a b ns ps++[0]) fl ns/\(∀t,t<ns.length->dg a b (aj a b xs t)=[bV xs.length fl t])/\aG a b xs ns.length=fK a b ns ps:=by
 have hl:(ps++[0]).length=ns.length:=by simp[hn]
 have jh:∀t,t<(ps++[0]).length->eZ a b ns (ps++[0]) t<1:=λt ht=>by
  have:=(CS.mp f).2 t (by lia);rw[oq (by lia)]at this;unfold eZ;rw[hl];exact this
 obtain⟨P,F,_,W⟩:=uV ok.a0 ok.b0 L _ (wn _) jh;have ht:=OV ok.a0 ok.b0 L _ (wn _) jh;rw[hl]at P W ht;rw[<- Fh hn]at P;have st:=Yo (zue ok hn f);have hbl:=oW (a:=a) (b:=b) hn;have hbl2:(dj a b ns ps++[0]).length=(ps++[0]).length:=by simp[hbl]
 have hpl:=bS a b xs ns.length;refine⟨⟨P,st.1,st.2,by rw[hbl2];exact L.len,λc hc=>?_,λc hc=>?_⟩,W,?_⟩
 ·rw[hpl];exact L.some c (by lia)
 ·rw[hpl];exact L.size c (by lia)
 ·rw[ht];rfl
theorem zj{a b:Rat}(ok:aZ a b){xs ps:List Rat}{fl:Nat->Nat}{ns:List Int}(L:gB xs (ps++[0]) fl ns)(hn:ns.length=ps.length+1)(n0:∀n∈ns,0<=n):∀k,(∀j,j<k->cU a b ns ps j=true) ->
  gB (aj a b xs (k*ns.length)) (cY a b ns k ps++[0]) fl ns/\aG a b xs (k*ns.length)=tE a b ns ps k
 | 0,_=>by
  rw[QD,pV];exact⟨L,rfl⟩
 | k+1,h=>by
  obtain⟨Lk,Hk⟩:=zj ok L hn n0 k λj hj=>h j (by lia)
  have hl:ns.length=(cY a b ns k ps).length+1:=by rw[d_];exact hn
  obtain⟨L1,_,H1⟩:=Sk ok Lk hl (h k (by lia));rw[eQ,<- EY hl n0,Px]at L1;have e:(k+1)*ns.length=k*ns.length+ns.length:=qp ..;rw[e];refine⟨L1,?_⟩;rw[<- ma,Hk,H1]
  rfl
theorem Ma{a b:Rat}(a0:0<a)(b0:0<=b){xs row:List Rat}{fl:Nat->Nat}{ns:List Int}(L:gB xs row fl ns):∀n,n<=row.length->(¬ ∀t,t<n->eZ a b ns row t<1)->∃t,t<n/\1<(dg a b (aj a b xs t)).length
 | 0,_,z=>absurd (λt ht=>by lia) z
 | n+1,hn,z=>by
  by_cases y:∀t,t<n->eZ a b ns row t<1
  ·refine⟨n,by lia,zwX a0 b0 L (by lia) y (λu=>z λt ht=>?_)⟩
   rcases wD t n with k | k
   ·exact y t k
   ·have:t=n:=by lia
    rw[this];exact u
  ·obtain⟨t,h1,h2⟩:=Ma a0 b0 L n (by lia) y
   exact⟨t,by lia,h2⟩
theorem zw5{a:Rat}(ok:aZ a b){ps:List Rat}{fl:Nat->Nat}(L:gB xs (ps++[0]) fl ns)(hn:ns.length=ps.length+1)(f:fD a b ns ps=false):∃t,t<ns.length/\1<(dg a b (aj a b xs t)).length:=by
 have hl:(ps++[0]).length=ns.length:=by simp[hn]
 refine Ma ok.a0 ok.b0 L ns.length (by lia) λz=>?_
 have:fD a b ns ps=true:=CS.mpr ⟨Tz L.Br.pw L.one,λi hi=>by
  have:=z i hi;unfold eZ at this;rw[hl]at this;rw[oq hi];exact this⟩
 rw[f]at this;cases this
theorem zAm{row:List Rat}{fl:Nat->Nat}(L:gB xs row fl ns)(hn:xs.length=n):((wp n).map λw=>row.getD (fl w) 0)=xs:=by
 refine lu (by simp[hn]) λw hw=>?_
 have hw:w<n:=by simpa using hw
 rw[L.pl.at' w (by lia),wb,wo,vY hw]
 rfl
theorem Rc(h1:1<=xs.length)(h8:xs.length<=8):dm (bY xs):=by
 have hs:=v_ xs;have hv:=lX xs;have hp:=Ay h1;refine⟨by lia,by lia,λn hn=>?_,?_⟩
 ·have h2:=zu0 xs n hn
  refine⟨?_,by lia⟩;obtain⟨v,hv,rfl⟩:=wP.mp hn;have hm:=mB hv;obtain⟨j,hj,e⟩:=wY hm;have:j∈gG xs v:=w6.mpr ⟨wG.mpr hj,decide_eq_true (by rw[wb,wc hj];exact e)⟩;have:=Q3 this;lia
 ·have h3:=PC xs
  have:=zH (uw xs);lia
def gn(a b:Rat)(xs:List Rat)(r:Nat):Prop:=∀k,k<r->cU a b (bY xs) (cz xs) k=true
structure fP(a b:Rat)(xs:List Rat):Prop where
 ok:aZ a b
 h1:1<=xs.length
 h8:xs.length<=8
 hp:dq xs
 h0:0∈xs
 cm:Cm 3600 xs
theorem fP.round{a:Rat}(h:fP a b xs):cZ a b (bY xs) (cz xs)/\dm (bY xs)/\(bY xs).length=(cz xs).length+1:=by
 have hz:cz xs++[0]=ar xs:=Ck h.hp h.h0;have h8:=h.h8;have sz:=Rc h.h1 h8;have hsl:=v_ xs;have hvl:=lX xs;have hsu:=Pq xs;have hpl:(cz xs).length+1=(ar xs).length:=by rw[<- hz];simp
 refine⟨⟨h.ok.ba,h.ok.bb,λn hn=>by have:=sz.each n hn;lia,by lia,by lia,⟨3600,rg h.cm,by lia⟩⟩,sz,by lia⟩
def Sv(K:wa):Sp:=λvs H Q _=>∃x0 x1,vs=[x0,x1] /\ ∃(a b:Rat)(xs:List Rat)(r:Nat),x1=.int (r:Int)/\Is K H x0 (bL a b xs)/\fP a b xs/\1<=r/\r<=30/\gn a b xs r /\ ∀H',ag H H'->Q (.bl true) H'
theorem zuX{a:Rat}(h:Is K H v (bL a b xs))(ok:fP a b xs)(r1:1<=r)(h30:r<=30)(f:gn a b xs r)(q:∀H',ag H H'->Q (.bl true) H'):Sv K [v,.int (r:Int)] H Q E:=⟨_,_,rfl,a,b,xs,r,rfl,h,ok,r1,h30,f,q⟩
theorem zuH(T:Txt K mg a):aI P w K mg base aU 9 a.Kp a.Ja uL (Sv K):=by
 refine T.JD.F.ok EO ?_ ?_;wtm_at "b2"
 refine⟨_,(av (cg (cN (cE (ak (FX T) hr T.tR (ae (pv 0) af)))) (ay (aC cP)) ck)
     (av (aA 2 EO.nd (pH (zE T) hr T.p6 Gb (ae (pv 0) af)))
     (av (aA 3 EO.nd (ak (Ue T) hr T.AV (by exact(@ae _ _ _ _ _ (au (pv 0)) (@ae _ _ _ _ _ (au (pv 2)) (@ae _ _ _ _ _ (au (pv 2)) (@ae _ _ _ _ _ (aB jd (pv 1) ao) af rC) gJ) gJ) gJ))))
     (ay (aC (fb (ak (tI T) hr T.nQ (ae (au (pv 0)) (ae (au (pv 2)) (ae (au (pv 2)) af)))) (gc (ak (tI T) hr T.nQ (ae (au (pv 0)) (ae (au (pv 2)) (ae (pv 3) af))))))))))),?_⟩
 wtm_at "cl";rw[show start Ox [x0,x1]=[some x0,some x1,none,none]from rfl];obtain⟨ra,rb,xs,r,rfl,hw,ok,r1,h30,fr,q⟩:=h;obtain⟨rok,sz,hn⟩:=ok.round;have h8:=ok.h8;have bx:∀i,ah 4000 (xs.getD i 0):=λi=>(ok.cm.get i).mono (by decide)
 have cp:Cm 3600 (cz xs):=rg ok.cm;have e1:((r:Int)-1).toNat=r-1:=by lia
 have hlk:eP ra rb (bY xs) ((r:Int)-1).toNat:=rW ok.ok sz (by lia);have hbp:∀i,ah 6900 ((cz xs).getD i 0):=λi=>(cp.get i).mono (by decide)
 have f0:fD ra rb (bY xs) (cz xs)=true:=by
   have:=fr 0 (by lia);unfold cU at this;rw[pV]at this;exact this
 have f1:fD ra rb (bY xs) (cY ra rb (bY xs) (r-1) (cz xs))=true:=fr (r-1) (by lia);o_head DI hw ?_;rw[decide_eq_true ok.h0];o_head yE hw h8 bx (λz=>absurd ok.h0 z) (λ_ vl H1 S1 il=>?_);have hw1:=hw.by S1;o_head az (j:=0) hw1 rfl (λvr ir=>?_);o_head az (j:=0) il rfl (λvz iz=>?_);o_head az (j:=1) il rfl (λvp ip=>?_);o_head Yu ir iz ip hn (by lia) hlk hbp (λv2 H2 S2 i2=>?_);rw[e1]at i2;o_head az (j:=0) (hw1.by S2) rfl (λvr2 ir2=>?_);o_head az (j:=0) (il.by S2) rfl (λvz2 iz2=>?_);o_head az (j:=1) (il.by S2) rfl (λvp2 ip2=>?_);o_head sf ir2 iz2 ip2 rok (λH3 S3=>?_);rw[f0];have S23:=S2.trans S3;o_head az (j:=0) (hw1.by S23) rfl (λvr3 ir3=>?_);o_head az (j:=0) (il.by S23) rfl (λvz3 iz3=>?_);o_head sf ir3 iz3 (i2.by S3) (Fb ok.ok sz hn cp (by decide) (by lia)) (λH4 S4=>?_);rw[f1];exact q _ (S1.trans (S23.trans S4))
def ON(K:wa):Sp:=λvs H Q _=>∃x0 x1,vs=[x0,x1] /\ ∃(a b:Rat)(xs:List Rat)(r:Nat),x1=.int (r:Int)/\Is K H x0 (bL a b xs)/\fP a b xs/\r<=30/\gn a b xs r /\ ∀v H',ag H H'->Is K H' v (BD a b xs (r*(ar xs).length))->Q v H'
theorem EM{a:Rat}(h:Is K H v (bL a b xs))(ok:fP a b xs)(h30:r<=30)(f:gn a b xs r)(q:∀v H',ag H H'->Is K H' v (BD a b xs (r*(ar xs).length))->Q v H'):ON K [v,.int (r:Int)] H Q E:=⟨_,_,rfl,a,b,xs,r,rfl,h,ok,h30,f,q⟩
theorem Gj{K:wa}{H:Hp} : ∀{xs:List Rat}{us:List V},ai K H us (xs.map N)->∃cs:List wf,us=cs.map V.ref
 | [],us,h=>⟨[],iT.mp h⟩
 | x::xs,us,h=>by
  obtain⟨v,r,rfl,iv,t⟩:=fA.mp h;obtain⟨a,_,rfl,_,_⟩:=cb.mp (show Is K H v (.tuple _)from iv);obtain⟨cs,rfl⟩:=Gj t;exact⟨a::cs,rfl⟩
def gx(x:Rat):List Int:=[x.num,(x.den:Int)]
theorem zxn(h:gx x=gx y):x=y:=by
 unfold gx at h
 injection h with h1 h2
 injection h2 with h2 _
 exact Rat.ext h1 (by lia)
theorem Zs(h:xs.Nodup):(xs.map gx).Nodup:=by
 unfold List.Nodup at *;rw[Qp];exact h.imp λ{a b} n e=>n (zxn e)
theorem Nm(h:j<xs.length):(xs.map gx).getD j []=gx (xs.getD j 0):=by
 rw[wb,wo,wb,wc h]
 rfl
theorem zwW{ks:List (List Int)}{us ws:List wf}(nd:ks.Nodup)(hl:ks.length=us.length)(hj:j<us.length):mP (gW ks us ws) (ks.getD j [])=some (ws.getD j 0):=by
 unfold mP gW;rw[List.find?_map];have pw:=Wj.mp nd;cases e:(wp us.length).find? ((λx:NE=>decide (x.1=ks.getD j [])) ∘ λj=>(ks.getD j [],us.getD j 0,ws.getD j 0))with
 | none =>
  have:=List.find?_eq_none.mp e j (wG.mpr hj);simp at this
 | some i =>
  have hm:=wG.mp (Qw e);have hp:=XU e;have hp:ks.getD i []=ks.getD j []:=of_decide_eq_true hp;have hi:i<ks.length:=by lia
  have hj':j<ks.length:=by lia
  rw[wb,wb,wc hi,wc hj']at hp
  have hij:i=j:=by
   rcases qF i j with z | z | z
   ·exact absurd hp (pw i j hi hj' z)
   ·exact z
   ·exact absurd hp.symm (pw j i hj' hi z)
  rw[hij];rfl
theorem zwo{cs ws:List wf}(t:ai K H (cs.map V.ref) (xs.map N)):zw K H (gW (xs.map gx) cs ws):=by
 intro x hx;obtain⟨j,hj,rfl⟩:=wP.mp hx;have hj:=wG.mp hj;have hl:=t.length;simp only[wl]at hl;have:=(dJ t (i:=j) (x:=.ref (cs.getD j 0)) (by rw[wo,wb,wc hj];rfl)).2
 show Is K H (.ref (cs.getD j 0)) (TZ ((xs.map gx).getD j []))
 rw[Nm (by lia)];exact this
theorem RM(T:Txt K mg a):aI P w K mg base aU 9 a.Ho a.GQ Am (ON K):=by
 refine T.AX.F.ok sN ?_ ?_;wtm_at "b2"
 refine⟨_,(av (aA 2 sN.nd (pH (zE T) hr T.p6 Gb (ae (pv 0) af)))
     (av (aA 3 sN.nd (ak (Ue T) hr T.AV (by exact(@ae _ _ _ _ _ (au (pv 0)) (@ae _ _ _ _ _ (au (pv 2)) (@ae _ _ _ _ _ (au (pv 2)) (@ae _ _ _ _ _ (pv 1) af bX) gJ) gJ) gJ))))
     (av (aA 4 sN.nd (zzd rfl (WH (xC (by decide) _) hu) rfl T.h0k rfl T.h0v (ae (aB (show aM _ (Wd .Add) (kM K)from mG) (au (pv 2)) (bC (ae (cB (v:=.ref a.dy) rfl T.ee rfl) af))) (ae (aB (show aM _ (Wd .Add) (kM K)from mG) (pv 3) (bC (ae (cB (v:=.ref a.dy) rfl T.ee rfl) af))) af))))
     (av (aA 5 sN.nd (dW (show aN _ (.type "tuple") (eH K)from ft) rfl T.h0i dU (ae (dS rfl (cK.by (N':=["phase","now"]) (src:=[none,some 4]) rfl (by kernel_rfl)) (jF (au (pv 0))) (λ_ _ _ _ _=>(bP (i:=0) (of_decide_eq_true (by kernel_rfl)) rfl (Or.inl rfl))) (λ_ _ _ _ _=>dw) (λ_ _ _ _ _=>(show PE _ _ (BQ K _ _)from(zyg (by exact(WH (xC (by decide) _) hu)) (pv 1) (pv 0) (λ_ _=>rfl))))) af)))
     (ay (aC (bC (ae (ak (znt T) hr T.HK (by exact(@ae _ _ _ _ _ (au (pv 0)) (@ae _ _ _ _ _ (au (pv 2)) (@ae _ _ _ _ _ (au (pv 2)) (@ae _ _ _ _ _ (pv 1) af bX) gJ) gJ) gJ))) (ae (bC (ae (au (pv 0)) (ae (pv 5) af))) af))))))))),?_⟩
 wtm_at "cl";rw[show start Ul [x0,x1]=[some x0,some x1,none,none,none,none]from rfl];obtain⟨ra,rb,xs,r,rfl,hw,ok,h30,fr,q⟩:=h;have hz:cz xs++[0]=ar xs:=Ck ok.hp ok.h0;have h1:=ok.h1;have h8:=ok.h8;have sz:=Rc h1 h8;have hsl:=v_ xs;have hvl:=lX xs;have hvp:=Ay h1;have hpl:(cz xs).length+1=(ar xs).length:=by rw[<- hz];simp
 have hn:(bY xs).length=(cz xs).length+1:=by lia
 have L:gB xs (cz xs++[0]) (aX xs) (bY xs):=by rw[hz];exact Ll ok.hp.nn ok.hp.lt
 obtain⟨Lr,Hr⟩:=zj ok.ok L hn (uw xs) r fr;rw[hsl]at Lr Hr;have hel:=zAm Lr (bS ra rb xs _);have bx:∀i,ah 4000 (xs.getD i 0):=λi=>(ok.cm.get i).mono (by decide)
 have cp:Cm 3600 (cz xs):=rg ok.cm;have hlk:eP ra rb (bY xs) ((r:Int)).toNat:=by rw[wS];exact rW ok.ok sz (by lia)
 have hbp:∀i,ah 6900 ((cz xs).getD i 0):=λi=>(cp.get i).mono (by decide)
 o_head yE hw h8 bx (λz=>absurd ok.h0 z) (λ_ vl H1 S1 il=>?_);have hw1:=hw.by S1;o_head az (j:=0) hw1 rfl (λvr ir=>?_);o_head az (j:=0) il rfl (λvz iz=>?_);o_head az (j:=1) il rfl (λvp ip=>?_);o_head Yu ir iz ip hn (by lia) hlk hbp (λv2 H2 S2 i2=>?_);rw[wS]at i2;o_head az (j:=1) (il.by S2) rfl (λvp2 ip2=>?_);o_head bW (ds:=[N 0]) (by simp) (.cons (eS 0 (T.fq _) rfl rfl) .nil) (λv3 H3 S3 i3=>?_);refine mO (ip2.by S3) i3 (by rw[wl];simp;lia) (λv4 H4 S4 i4=>?_);o_head bW (ds:=[N 0]) (by simp) (.cons (eS 0 (T.fq _) rfl rfl) .nil) (λv5 H5 S5 i5=>?_);have S25:=S3.trans (S4.trans S5);refine mO (i2.by S25) i5 (by rw[wl,d_];simp;lia) (λv6 H6 S6 i6=>?_)
 have i46:Is K H6 v4 (TN (ar xs)):=by
   have:=i4.by (S5.trans S6);rw[<- hz];unfold TN;rw[vF];exact this
 have i66:Is K H6 v6 (TN (cY ra rb (bY xs) r (cz xs)++[0])):=by
   unfold TN;rw[vF];exact i6
 have S16:=S2.trans (S25.trans S6);have hw6:=hw1.by S16;have il6:=il.by S16;have T6:=S1.trans S16;clear hw hw1 il ir iz ip i2 ip2 i3 i4 i5 i6 S1 S2 S3 S4 S5 S6 S25 S16;have hrl:(cY ra rb (bY xs) r (cz xs)++[0]).length=(ar xs).length:=by rw[wy,d_];simp;lia
 generalize cY ra rb (bY xs) r (cz xs)++[0]=row at *;obtain⟨aa,us,rfl,hs1,tu⟩:=cb.mp i46;obtain⟨ab,ws,rfl,hs2,tw⟩:=cb.mp i66;obtain⟨cs,rfl⟩:=Gj tu;obtain⟨ds,rfl⟩:=Gj tw;have hcl:=tu.length;have hdl:=tw.length;simp only[wl]at hcl hdl;have nd:=Zs (Sb xs);have hkl:((ar xs).map gx).length=cs.length:=by rw[wl];lia
 o_head ⟨aa,ab,(ar xs).map gx,cs,ds,rfl,hs1,hs2,by lia,by lia,?_,nd,λD ep hD=>?_⟩
 . rw[qu]
   exact tu
 . have S7:ag H6 (upd H6 D (iL D ep (gW ((ar xs).map gx) cs ds))):=ag.upd hD
   have e7:upd H6 D (iL D ep (gW ((ar xs).map gx) cs ds)) D=some (iL D ep (gW ((ar xs).map gx) cs ds)):=c6;generalize upd H6 D (iL D ep (gW ((ar xs).map gx) cs ds))=H7 at *;have tu7:ai K H7 (cs.map V.ref) ((ar xs).map N):=ai.same S7 _ _ tu;have tw7:ai K H7 (ds.map V.ref) (row.map N):=ai.same S7 _ _ tw;have hw7:=hw6.by S7;o_head az (j:=1) hw7 rfl (λvq iq=>?_);obtain⟨aq,uq,rfl,hsq,tq⟩:=cb.mp iq;have hql:=tq.length;rw[wl]at hql;refine iX hsq (o0:=none) (tl:=[some (.ref D)]) rfl (λj y H'=>Is K H' y (N (((wp xs.length).map λw=>row.getD (aX xs w) 0).getD j 0))) ?_ ?_
   . intro D' j x ys o H8 hx inv
     obtain⟨hj,ix⟩:=dJ tq hx;have S8:=inv.same;obtain⟨ax,_,rfl,_,_⟩:=cb.mp (show Is K H7 x (.tuple _)from ix);have hfl:=(l_ xs).lt j hj;have hxe:xs.getD j 0=(ar xs).getD (aX xs j) 0:=(l_ xs).at' j hj;o_head ⟨D,ax,ep,_,gx (xs.getD j 0),ds.getD (aX xs j) 0,rfl,rfl,S8 _ _ e7,zwo (ai.same S8 _ _ tu7),ix.by S8,?_,?_⟩
     . rw[hxe,<- Nm hfl]
       exact zwW nd hkl (by lia)
     . refine dB inv (by lia) gm ⟨_,rfl⟩ (ag.refl _) ?_
       have hr:((wp xs.length).map λw=>row.getD (aX xs w) 0).getD j 0=row.getD (aX xs j) 0:=by
         rw[wb,wo,vY hj];rfl
       rw[hr];exact(dJ tw7 (i:=aX xs j) (x:=.ref (ds.getD (aX xs j) 0)) (by rw[wo,wb,wc (by lia)];rfl)).2.by S8
   . intro D' ys H8 n8 S8 e8 hl8 hr8
     have t8:ai K H8 ys (((wp xs.length).map λw=>row.getD (aX xs w) 0).map N):=gu (by rw[hl8,hql];simp) hr8;rw[hel]at t8;o_head iR (dN e8 t8) (λv9 H9 S9 i9=>?_);have S69:=S7.trans (S8.trans S9);o_head az (j:=0) (hw6.by S69) rfl (λvr9 ir9=>?_);o_head az (j:=0) (il6.by S69) rfl (λvz9 iz9=>?_);o_head az (j:=1) (il6.by S69) rfl (λvp9 ip9=>?_);k_few
     refine znK ir9 iz9 ip9 hn (by lia) hlk cp (by
       have h5:=sz.sum;rw[wS];have:(6*(bY xs).sum.toNat+3)*r<=51*30:=V4 (by lia) h30;lia) (λv10 H10 S10 i10=>?_)
     rw[wS,<- Hr]at i10;o_head az (j:=0) (hw6.by (S69.trans S10)) rfl (λvr10 ir10=>?_);o_head bW (ds:=[R ra rb,TN (aj ra rb xs (r*(ar xs).length))]) (by simp) (.cons ir10 (.cons (i9.by S10) .nil)) (λv11 H11 S11 i11=>?_);o_head bW (ds:=[N (aG ra rb xs (r*(ar xs).length)),bL ra rb (aj ra rb xs (r*(ar xs).length))]) (by simp) (.cons (i10.by S11) (.cons i11 .nil)) (λv12 H12 S12 i12=>?_);exact q v12 H12 (T6.trans (S69.trans (S10.trans (S11.trans S12)))) i12
def M6(K:wa):Sp:=λvs H Q _=>∃x0 x1 x2,vs=[x0,x1,x2] /\ ∃(a b:Rat)(xs:List Rat)(r g:Nat),x1=.int (r:Int)/\x2=.int (g:Int)/\Is K H x0 (bL a b xs)/\aZ a b/\1<=xs.length/\xs.length<=8/\(1<=r->fP a b xs/\r<=30/\gn a b xs r)/\g<=40/\ah 8000 (aG a b xs (r*(ar xs).length))/\(∀i,i<=g->Cm 3700 (aG a b (aj a b xs (r*(ar xs).length)) i::aj a b (aj a b xs (r*(ar xs).length)) i)) /\ ∀v H',ag H H'->Is K H' v (BD a b xs (r*(ar xs).length+g))->Q v H'
theorem Sg{a:Rat}(h:Is K H v (bL a b xs))(ok:aZ a b)(h1:1<=xs.length)(h8:xs.length<=8)(f:1<=r->fP a b xs/\r<=30/\gn a b xs r)(hg:g<=40)(c:ah 8000 (aG a b xs (r*(ar xs).length)))(c2:∀i,i<=g->Cm 3700 (aG a b (aj a b xs (r*(ar xs).length)) i::aj a b (aj a b xs (r*(ar xs).length)) i))(q:∀v H',ag H H'->Is K H' v (BD a b xs (r*(ar xs).length+g))->Q v H'):M6 K [v,.int (r:Int),.int (g:Int)] H Q E:=⟨_,_,_,rfl,a,b,xs,r,g,rfl,rfl,h,ok,h1,h8,f,hg,c,c2,q⟩
theorem Lm(T:Txt K mg a):aI P w K mg base aU 10 a.Jq a.Hy yJ (M6 K):=by
 refine T.A1.F.ok Cj ?_ ?_;wtm_at "b3"
 refine⟨_,(av (aA 3 Cj.nd (pz (cw oF (pv 1) ao (bN _)) (ak (RM T) hr T.AX (ae (pv 0) (ae (pv 1) af))) (bC (ae (cB (v:=.ref a.dy) rfl T.ee rfl) (ae (pv 0) af)))))
     (av (aA 4 Cj.nd (ak (zwV T) hr T.J5 (ae (au (pv 3)) (ae (pv 2) af))))
     (ay (aC (bC (ae (ak (hW T) hr T.gr (ae (au (pv 3)) (ae (au (pv 4)) af))) (ae (au (pv 4)) af))))))),?_⟩
 wtm_at "cl";rw[show start UO [x0,x1,x2]=[some x0,some x1,some x2,none,none]from rfl];obtain⟨ra,rb,xs,r,g,rfl,rfl,hw,ok,h1,h8,f,hg,c,c2,q⟩:=h;k_few
 . rename_i z
   obtain⟨sw,h30,fr⟩:=f (by lia);refine EM hw sw h30 fr (λv1 H1 S1 i1=>?_);o_head az (j:=1) i1 rfl (λv2 i2=>?_);o_head MH i2 ok.ba ok.bb (by rw[bS];exact h1) (by rw[bS];exact h8) (by lia) (by lia) (by rw[wS];exact c2) (λv3 H3 S3 i3=>?_);rw[wS]at i3;have i13:=i1.by S3;o_head az (j:=0) i13 rfl (λv4 i4=>?_);o_head az (j:=0) i3 rfl (λv5 i5=>?_);have b5:ah 3700 (aG ra rb (aj ra rb xs (r*(ar xs).length)) g):=(c2 g (wn _)).dQ (wB ..);k_few;rename_i v6 H6 S6 i6;refine az (j:=1) (i3.by S6) rfl (λv7 i7=>?_);k_few;rw[ma]at i6;rw[eQ]at i7;refine bW (ds:=[N (aG ra rb xs (r*(ar xs).length+g)),bL ra rb (aj ra rb xs (r*(ar xs).length+g))]) (by simp) (.cons i6 (.cons i7 .nil)) (λv8 H8 S8 i8=>?_);exact q v8 H8 (S1.trans (S3.trans (S6.trans S8))) i8
 . rename_i z
   have hr0:r=0:=by lia
   refine bW (ds:=[N 0,bL ra rb xs]) (by simp) (.cons (eS 0 (T.fq _) rfl rfl) (.cons hw .nil)) (λv1 H1 S1 i1=>?_);have i1:Is K H1 v1 (BD ra rb xs (r*(ar xs).length)):=by rw[hr0,QD];exact i1
   o_head az (j:=1) i1 rfl (λv2 i2=>?_);o_head MH i2 ok.ba ok.bb (by rw[bS];exact h1) (by rw[bS];exact h8) (by lia) (by lia) (by rw[wS];exact c2) (λv3 H3 S3 i3=>?_);rw[wS]at i3;have i13:=i1.by S3;o_head az (j:=0) i13 rfl (λv4 i4=>?_);o_head az (j:=0) i3 rfl (λv5 i5=>?_);have b5:ah 3700 (aG ra rb (aj ra rb xs (r*(ar xs).length)) g):=(c2 g (wn _)).dQ (wB ..);k_few;rename_i v6 H6 S6 i6;refine az (j:=1) (i3.by S6) rfl (λv7 i7=>?_);k_few;rw[ma]at i6;rw[eQ]at i7;refine bW (ds:=[N (aG ra rb xs (r*(ar xs).length+g)),bL ra rb (aj ra rb xs (r*(ar xs).length+g))]) (by simp) (.cons i6 (.cons i7 .nil)) (λv8 H8 S8 i8=>?_);exact q v8 H8 (S1.trans (S3.trans (S6.trans S8))) i8
def jK(h:Rat)(xs:List Rat)(r g:Nat):PyData:=.tuple [N h,TN xs,.int (r:Int),.int (g:Int)]
def dG(a b:Rat)(xs:List Rat)(i r g:Nat):Nat:=i+(r*(ar (aj a b xs i)).length+g)
def jy(a b:Rat)(xs:List Rat)(e:Nat × Nat × Nat):PyData:=jK (aG a b xs e.1) (aj a b xs e.1) e.2.1 e.2.2
def s_(a b:Rat)(xs:List Rat)(n:Nat)(w:String):PyData:=.tuple [N (aG a b xs n),TN (aj a b xs n),.str (wC w)]
def cf(a b:Rat)(xs:List Rat)(es:List (Nat × Nat × Nat))(n:Nat)(w:String):List PyData:=es.map (jy a b xs)++[s_ a b xs n w]
def b_(es:List (Nat × Nat × Nat))(n j:Nat):Nat:=(es.map (·.1)++[n]).getD j 0
theorem NM(es:List (Nat × Nat × Nat))(n:Nat):b_ es n es.length=n:=by
 unfold b_;rw[wb,vf (by simp)];simp
theorem zuQ{a:Rat}{es:List (Nat × Nat × Nat)}{w:String}(h:j<es.length):(cf a b xs es n w)[j]? = some (jy a b xs es[j]):=by
 unfold cf;rw[vR (by simpa using h),wo,wc h]
 rfl
def Mf(K:wa):Sp:=λvs H Q _=>∃x0 x1 x2,vs=[x0,x1,x2] /\ ∃(a b h h':Rat)(xs ys:List Rat)(r g:Nat)(ds:List PyData),Is K H x0 (R a b)/\Is K H x1 (jK h xs r g)/\Is K H x2 (.tuple (N h'::TN ys::ds))/\aZ a b/\1<=xs.length/\xs.length<=8/\(1<=r->fP a b xs/\r<=30/\gn a b xs r)/\g<=40/\ah 3500 h/\ah 3500 (aG a b xs (r*(ar xs).length+g))/\ah 8000 (aG a b xs (r*(ar xs).length))/\(∀i,i<=g->Cm 3700 (aG a b (aj a b xs (r*(ar xs).length)) i::aj a b (aj a b xs (r*(ar xs).length)) i)) /\ ∀H',ag H H'->Q (.bl (decide (h'=h+aG a b xs (r*(ar xs).length+g))&&decide (ys=aj a b xs (r*(ar xs).length+g)))) H'
theorem RJ{a h h':Rat}{ys:List Rat}{w:V}(h0:Is K H v (R a b))(h1:Is K H w (jK h xs r g))(h2:Is K H u (.tuple (N h'::TN ys::ds)))(ok:aZ a b)(x1:1<=xs.length)(x8:xs.length<=8)(f:1<=r->fP a b xs/\r<=30/\gn a b xs r)(hg:g<=40)(bh:ah 3500 h)(bk:ah 3500 (aG a b xs (r*(ar xs).length+g)))(c:ah 8000 (aG a b xs (r*(ar xs).length)))(c2:∀i,i<=g->Cm 3700 (aG a b (aj a b xs (r*(ar xs).length)) i::aj a b (aj a b xs (r*(ar xs).length)) i))(q:∀H',ag H H'->Q (.bl (decide (h'=h+aG a b xs (r*(ar xs).length+g))&&decide (ys=aj a b xs (r*(ar xs).length+g)))) H'):Mf K [v,w,u] H Q E:=⟨_,_,_,rfl,a,b,h,h',xs,ys,r,g,ds,h0,h1,h2,ok,x1,x8,f,hg,bh,bk,c,c2,q⟩
theorem zst(T:Txt K mg a):aI P w K mg base aU 11 a.J8 a.Im y7 (Mf K):=by
 refine T.Je.F.ok CL ?_ ?_;wtm_at "b3"
 refine⟨_,(av (aA 3 CL.nd (bC (ae (pv 0) (ae (au (pv 1)) af))))
     (av (cg (PW.pt (SY (cw oF (au (pv 1)) ao (bN _)) (NJ (cN (cE (ak (zuH T) hr T.JD (ae (pv 3) (ae (au (pv 1)) af)))))))) (ay (aC cP)) ck)
     (av (aA 4 CL.nd (ak (Lm T) hr T.A1 (ae (pv 3) (ae (au (pv 1)) (ae (au (pv 1)) af)))))
     (ay (aC (fb (fj (show aM _ (compareOp .Eq) (cR K)from dF hu) (au (pv 2)) (ak (hW T) hr T.gr (ae (au (pv 1)) (ae (au (pv 4)) af))) (bN _)) (gc (fj (show aM _ (compareOp .Eq) (cR K)from dF hu) (au (pv 2)) (au (au (pv 4))) (bN _))))))))),?_⟩
 wtm_at "cl";rw[show start SH [x0,x1,x2]=[some x0,some x1,some x2,none,none]from rfl];obtain⟨ra,rb,hh,hn,xs,ys,r,g,ds,hr,hrow,hf,ok,x1',x8,f,hg,bh,bk,c,c2,q⟩:=h;unfold jK at hrow;o_head az (j:=1) hrow rfl (λv1 i1=>?_);o_head bW (ds:=[R ra rb,TN xs]) (by simp) (.cons hr (.cons i1 .nil)) (λv2 H2 S2 i2=>?_);have i2:Is K H2 v2 (bL ra rb xs):=i2;have hrow2:=hrow.by S2;o_head az (j:=2) hrow2 rfl (λv3 i3=>?_);rw[aJ.mp i3];k_few
 all_goals first
   | (rename_i z
      obtain⟨sw,h30,fr⟩:=f (by lia);refine az (j:=2) hrow2 rfl (λv3 i3=>?_);rw[aJ.mp i3];o_head zuX i2 sw (by lia) h30 fr (λH3 F=>?_);k_few)
   | (have F:=ag.refl H2)
 all_goals
   have hrow3:=hrow2.by F;have i23:=i2.by F;have T3:=S2.trans F;have hf3:=hf.by T3;clear F;refine az (j:=2) hrow3 rfl (λv4 i4=>?_);rw[aJ.mp i4];o_head az (j:=3) hrow3 rfl (λv5 i5=>?_);rw[aJ.mp i5];o_head Sg i23 ok x1' x8 f hg c c2 (λv6 H6 S6 i6=>?_);unfold BD at i6;have hf6:=hf3.by S6;o_head az (j:=0) hf6 rfl (λv7 i7=>?_);o_head az (j:=0) (hrow3.by S6) rfl (λv8 i8=>?_);o_head az (j:=0) i6 rfl (λv9 i9=>?_);k_few
   . rename_i v10 H10 S10 i10 z
     have q':=q H10 (T3.trans (S6.trans S10));rw[decide_eq_true z,qf]at q';refine az (j:=1) (hf6.by S10) rfl (λv11 i11=>?_);o_head az (j:=1) (i6.by S10) rfl (λv12 i12=>?_);o_head az (j:=1) (show Is K H10 v12 (bL ra rb _)from i12) rfl (λv13 i13=>?_);exact zp i11 i13 q'
   . rename_i v10 H10 S10 i10 z
     have q':=q H10 (T3.trans (S6.trans S10));rw[decide_eq_false z,vO]at q';exact q'
def fv(a b:Rat)(xs:List Rat):Option String :=
 if(ar xs).length=1 then some "one"
 else if fD a b (bY xs) (cz xs)=true then
  if dj a b (bY xs) (cz xs)=cz xs then some "rests"
  else if a<1/\tN a b (bY xs)=true then some "drawn" else none
 else none
def CD:Option String->V
 | none=>.bG
 | some s=>.str (wC s)
def OM(K:wa):Sp:=λvs H Q _=>∃x0,vs=[x0] /\ ∃(a b:Rat)(xs:List Rat),Is K H x0 (bL a b xs)/\fP a b xs /\ ∀H',ag H H'->Q (CD (fv a b xs)) H'
theorem Mn{a:Rat}(h:Is K H v (bL a b xs))(ok:fP a b xs)(q:∀H',ag H H'->Q (CD (fv a b xs)) H'):OM K [v] H Q E:=⟨_,rfl,a,b,xs,h,ok,q⟩
theorem Ub(T:Txt K mg a):aI P w K mg base aU 10 a.Ki a.IY uT (OM K):=by
 refine T.Bf.F.ok Tn ?_ ?_;wtm_at "b1"
 refine⟨_,(av (cg (cw (show aM _ (compareOp .Eq) (cR K)from dF hu) (bQ (show aN _ (.builtin "len") (cO K)from dH) rfl T.h0o dM (ae (ak (UM T) hr T.Bh (ae (pv 0) af)) af)) ao (bN _)) (ay (aC dC)) ck)
     (av (cg (cN (cE (ak (FX T) hr T.tR (ae (pv 0) af)))) (ay (aC fB)) ck)
     (av (aA 1 Tn.nd (pH (zE T) hr T.p6 Gb (ae (pv 0) af)))
     (av (cg (cN (cE (ak (tI T) hr T.nQ (ae (au (pv 0)) (ae (au (pv 1)) (ae (au (pv 1)) af)))))) (ay (aC fB)) ck)
     (av (cg (cw (show aM _ (compareOp .Eq) (cR K)from dF hu) (ak (Yl T) hr T.AZ (ae (au (pv 0)) (ae (au (pv 1)) (ae (au (pv 1)) af)))) (au (pv 1)) (bN _)) (ay (aC dC)) ck)
     (av (cg (PW.pt (SY (cw (show aM _ (compareOp .Eq) (cR K)from dF hu) (ak (La T) hr T.Bo (ae (au (pv 0)) af)) dC (bN _)) (NJ (cE (ak (MS T) hr T.AY (ae (au (pv 0)) (ae (au (pv 1)) af))))))) (ay (aC dC)) ck)
     (ay (aC fB)))))))),?_⟩
 wtm_at "cl";rw[show start Md [x0]=[some x0,none]from rfl];obtain⟨ra,rb,xs,hw,ok,q⟩:=h;obtain⟨rok,sz,hn⟩:=ok.round;have h8:=ok.h8;have bx:∀i,ah 4000 (xs.getD i 0):=λi=>(ok.cm.get i).mono (by decide)
 have bp:∀i,ah 4000 ((cz xs).getD i 0):=λi=>((rg ok.cm).get i).mono (by decide)
 unfold fv at q;o_head MX hw h8 bx (λlf H1 us1 n1 S1 e1 t1=>?_);have hul:=t1.length;rw[wl]at hul;have hw1:=hw.by S1;o_head gv (.of e1) ?_;rw[hul];k_few
 . rename_i z
   have z:(ar xs).length=1:=by lia
   rw[if_pos z]at q;exact q _ S1
 . rename_i z
   have z:¬ (ar xs).length=1:=by lia
   rw[if_neg z]at q;refine DI hw1 ?_;rw[decide_eq_true ok.h0];o_head yE hw1 h8 bx (λz=>absurd ok.h0 z) (λ_ vl H2 S2 il=>?_);have hw2:=hw1.by S2;o_head az (j:=0) hw2 rfl (λvr ir=>?_);o_head az (j:=0) il rfl (λvz iz=>?_);o_head az (j:=1) il rfl (λvp ip=>?_);o_head sf ir iz ip rok (λH3 S3=>?_);have T3:=S1.trans (S2.trans S3);have hw3:=hw2.by S3;have il3:=il.by S3;clear hw hw1 hw2 il ir iz ip S1 S2 S3 e1 t1 n1;k_few
   . rename_i y
     rw[if_neg (by rw[y];decide)]at q;exact q _ T3
   . rename_i y
     rw[if_pos y]at q;refine az (j:=0) hw3 rfl (λvr ir=>?_);o_head az (j:=0) il3 rfl (λvz iz=>?_);o_head az (j:=1) il3 rfl (λvp ip=>?_);o_head Tf ir iz ip rok (λv4 H4 S4 i4=>?_);o_head az (j:=1) (il3.by S4) rfl (λvp4 ip4=>?_);refine zp i4 ip4 ?_;k_few
     . rename_i u
       rw[if_pos u]at q;exact q _ (T3.trans S4)
     . rename_i u
       rw[if_neg u]at q;refine az (j:=0) (hw3.by S4) rfl (λvr4 ir4=>?_);o_head Mv ir4 (ok.ok.ba.mono (by decide)) ?_;unfold rD
       by_cases z1:1<ra
       . rw[if_pos z1]
         o_head kC _ _ false (by rw[vy];decide) ?_;k_few;rw[if_neg (λh=>absurd h.1 (by grind))]at q;exact q _ (T3.trans S4)
       . rw[if_neg z1]
         by_cases z2:ra=1
         . rw[if_pos z2]
           o_head kC _ _ false (by rw[vy];decide) ?_;k_few;rw[if_neg (λh=>absurd h.1 (by grind))]at q;exact q _ (T3.trans S4)
         . rw[if_neg z2]
           have ha:ra<1:=by
             by_cases h:ra<1
             . exact h
             . exact absurd (qt (Vp.mp h) (Wr z2)) z1
           o_head kC _ _ true (by rw[vy];decide) ?_;o_head az (j:=0) (hw3.by S4) rfl (λvr5 ir5=>?_);o_head az (j:=0) (il3.by S4) rfl (λvz5 iz5=>?_);o_head Lv ir5 iz5 ok.ok sz z2 (λH5 S5=>?_);k_few
           . rename_i d
             rw[if_pos ⟨ha,d⟩]at q;exact q _ (T3.trans (S4.trans S5))
           . rename_i d
             rw[if_neg (λh=>by rw[h.2]at d;cases d)]at q;exact q _ (T3.trans (S4.trans S5))
def LW(a b:Rat)(xs:List Rat):Nat->List (Nat × Nat × Nat)->Nat->Prop
 | i,[],n=>i=n
 | i,e::es,n=>e.1=i/\(e.2.1<=30/\e.2.2<=40/\(1<=e.2.1->0∈aj a b xs i/\gn a b (aj a b xs i) e.2.1))/\LW a b xs (dG a b xs i e.2.1 e.2.2) es n
theorem LW.le{a b:Rat}{xs:List Rat} : ∀{es:List (Nat × Nat × Nat)}{i n:Nat},LW a b xs i es n->i<=n
 | [],_,_,h=>Nat.le_of_eq h
 | e::es,i,n,h=>by
  have:=LW.le h.2.2;unfold dG at this;lia
theorem LW.first{a:Rat}{es:List (Nat × Nat × Nat)}(h:LW a b xs i es n):b_ es n 0=i:=by
 cases es with
 | nil=>exact(show i=n from h).symm
 | cons e es=>exact h.1
theorem LW.at{a b:Rat}{xs:List Rat} : ∀{es:List (Nat × Nat × Nat)}{i n:Nat},LW a b xs i es n->∀j (hj:j<es.length),es[j].1=b_ es n j/\(es[j].2.1<=30/\es[j].2.2<=40/\(1<=es[j].2.1->0∈aj a b xs es[j].1/\gn a b (aj a b xs es[j].1) es[j].2.1))/\dG a b xs es[j].1 es[j].2.1 es[j].2.2=b_ es n (j+1)/\b_ es n (j+1)<=n
 | [],_,_,_,j,hj=>absurd hj (by simp)
 | e::es,i,n,h,j,hj=>by
  obtain⟨e1,e2,e3⟩:=h;cases j with
  | zero =>
   have h1:=e3.first;have h2:=e3.le;rw[<- h1]at h2;refine⟨rfl,?_,?_,h2⟩
   ·show e.2.1<=30/\e.2.2<=40/\(1<=e.2.1->0∈aj a b xs e.1/\gn a b (aj a b xs e.1) e.2.1)
    rw[e1];exact e2
   ·show dG a b xs e.1 e.2.1 e.2.2=b_ es n 0
    rw[h1,e1]
  | succ j=>exact LW.at e3 j (by simpa using hj)
theorem pS{a:Rat}{es:List (Nat × Nat × Nat)}{w:String}(h:∀j (hj:j<es.length),es[j].1=b_ es n j)(hj:j<=es.length):∃ds,(cf a b xs es n w)[j]? = some (.tuple (N (aG a b xs (b_ es n j))::TN (aj a b xs (b_ es n j))::ds)):=by
 unfold cf;rcases wD j es.length with z | z
 ·rw[vR (by simpa using z),wo,wc z,<- h j z]
  exact⟨_,rfl⟩
 ·have:j=es.length:=by lia
  subst this;rw[vf (by simp),wl,W7,NM];exact⟨_,rfl⟩
theorem RG{t u:Bool}{g:TG}{tb:TS}{D:cQ}{σ : L2.St}{a b:wf}{xs ys:List V}(hx:c_ t K H a xs)(hy:c_ u K H b ys)(hxy:ys.length<xs.length)(Pv:Nat->L2.St->Hp->Prop)(h0:Pv 0 σ H)(hl:∀i σ H,i<=ys.length->Pv i σ H->c_ t K H a xs/\c_ u K H b ys)
  (hs:∀i x y σ H c H',xs[i]? = some x->ys[i]? = some y->Pv i σ H->H c=none->ag H H'->H' c=some (.tup [x,y])->g (.ref c) σ H' λσ2 H2=>tb {D with nx:=Pv (i+1),ct:=Pv (i+1),bk:=D.nx} σ2 H2) (hd:∀σ H,Pv ys.length σ H->D.nx σ H):Ms t u K g tb D σ [.ref a,.ref b] H:=by
 refine⟨a,b,rfl,⟨xs,hx⟩,⟨ys,hy⟩,λi m σ H=>i+m=ys.length/\Pv i σ H,⟨ys.length,by lia,h0⟩,?_⟩;rintro i m σ H ⟨him,hp⟩;obtain⟨hq1,hq2⟩:=hl i σ H (by lia) hp
 by_cases hm:m=0
 ·have e:i=ys.length:=by lia
  subst e;exact .inl ⟨⟨xs,ys,hq1,hq2,.inr ⟨hxy,rfl⟩⟩,hd _ _ hp⟩
 ·have hi:i<xs.length:=by lia
  have hj:i<ys.length:=by lia
  refine .inr ⟨⟨xs,xs[i],ys,ys[i],hq1,by simp[hi],hq2,by simp[hj]⟩,λσ' H'=>Pv (i+1) σ' H',λσ' H' h=>⟨m-1,by lia,by lia,h⟩,?_⟩;rintro v H' ⟨c,x,y,rfl,hn,hx',hy',rfl⟩;exact hs i x y σ H c _ (hx' xs hq1) (hy' ys hq2) hp hn (ag.upd hn) c6
theorem Q_{a:Rat} : fv a b xs=none \/ ∃w,fv a b xs=some w/\nA w:=by
 unfold fv
 split
 ·exact .inr ⟨_,rfl,.inl rfl⟩
 ·split
  ·split
   ·exact .inr ⟨_,rfl,.inr (.inl rfl)⟩
   ·split
    ·exact .inr ⟨_,rfl,.inr (.inr rfl)⟩
    ·exact .inl rfl
  ·exact .inl rfl
theorem zDi{o:Option String}{w:String}(ho:o=none \/ ∃w,o=some w/\nA w)(hw:nA w)(q:Q (.bl (decide (o=some w))) H):cR K (CD o) (.str (wC w)) H Q:=by
 rcases ho with rfl | ⟨v,rfl,hv⟩
 ·exact sW (d:=.none) (e:=.str (wC w)) (iE.mpr rfl) (cW.mpr rfl) (by decide) (FZ w) (by rw[show vy .none (.str (wC w))=decide ((none:Option String)=some w) by rw[vy]<;>simp];exact q)
 ·refine kC _ _ _ ?_ q
  rcases hv with rfl | rfl | rfl<;>rcases hw with rfl | rfl | rfl<;>rw[vy]<;>decide
inductive ib(a b:Rat)(xs:List Rat)(ds:List PyData):Bool->Prop
 | no (h:jR xs.length ds=false):ib a b xs ds false
 | KJ (es:List (Nat × Nat × Nat)) (n:Nat) (h:Rat) (p:List Rat) (bR more:List PyData) (pap:jR xs.length ds=true) (hd:ds=es.map (jy a b xs)++.tuple (N h::TN p::bR)::more) (lw:LW a b xs 0 es n) (ne:¬ (h=aG a b xs n/\p=aj a b xs n)) (c:∀i k,i+k<=n->Cm 3500 (aG a b (aj a b xs i) k::aj a b (aj a b xs i) k)):ib a b xs ds false
 | right (es:List (Nat × Nat × Nat)) (n:Nat) (w:String) (pap:jR xs.length ds=true) (hd:ds=cf a b xs es n w) (lw:LW a b xs 0 es n) (h0:0∈aj a b xs n) (hw:nA w) (c:∀i k,i+k<=n->Cm 3500 (aG a b (aj a b xs i) k::aj a b (aj a b xs i) k)):ib a b xs ds (decide (fv a b (aj a b xs n)=some w))
def Pj(K:wa):Sp:=λvs H Q _=>∃x0 x1,vs=[x0,x1] /\ ∃(a b:Rat)(xs:List Rat)(ds:List PyData)(r:Bool),Is K H x0 (bL a b xs)/\Is K H x1 (.list ds)/\aZ a b/\1<=xs.length/\xs.length<=8/\dq xs/\ds.length<=200/\(∀d∈ds,gR d/\iW d)/\ib a b xs ds r /\ ∀H',ag H H'->Q (.bl r) H'
theorem zux{a:Rat}{r:Bool}(h:Is K H v (bL a b xs))(hp:Is K H u (.list ds))(ok:aZ a b)(h1:1<=xs.length)(h8:xs.length<=8)(ph:dq xs)(bM:ds.length<=200)(sm:∀d∈ds,gR d/\iW d)(l:ib a b xs ds r)(q:∀H',ag H H'->Q (.bl r) H'):Pj K [v,u] H Q E:=⟨_,_,rfl,a,b,xs,ds,r,h,hp,ok,h1,h8,ph,bM,sm,l,q⟩
theorem zui(T:Txt K mg a):aI P w K mg base aU 12 a.Ks a.IX u5 (Pj K):=by
 refine T.Ju.F.ok EG ?_ ?_;wtm_at "b2"
 refine⟨_,(av (cg (cN (cE (ak (zsi T) hr T.Jk (ae (pv 1) (ae (bQ (show aN _ (.builtin "len") (cO K)from dH) rfl T.h0o dM (ae (au (pv 0)) af)) af))))) (ay (aC cP)) ck)
     (av (cg (PW.pt (fG (cw (show aM _ (compareOp .NotEq) (ig K)from lz hu) (au (au (pv 1))) (cB (v:=.ref a.dy) rfl T.ee rfl) (bN _)) (gQ (cw (show aM _ (compareOp .NotEq) (ig K)from lz hu) (au (au (pv 1))) (au (pv 0)) (bN _))))) (ay (aC cP)) ck)
     (av (gD vd rfl (SR rfl T.h0v (ae (pv 1) (ae (fY fV (pv 1) (fT ao) fS) af))) (oo (n:=2) rfl (iP (bP (i:=2) EG.nd rfl (Or.inl rfl)) (iP (bP (i:=3) EG.nd rfl (Or.inl rfl)) pD))) (ay (cg (cN (cE (ak (zst T) hr T.Je (ae (au (pv 0)) (ae (pv 2) (ae (pv 3) af)))))) (ay (aC cP)) ck)))
     (ay (aC (fj (show aM _ (compareOp .Eq) (cR K)from dF hu) (ak (Ub T) hr T.Bf (ae (bC (ae (au (pv 0)) (ae (au (c9 cJ (pv 1) (fE fC ao) (λ_ _=>rfl))) af))) af)) (au (c9 cJ (pv 1) (fE fC ao) (λ_ _=>rfl))) (bN _))))))),?_⟩
 wtm_at "cl";rw[show start Tt [x0,x1]=[some x0,some x1,none,none]from rfl];obtain⟨ra,rb,ys,dd,res,hw,hp,ok,y1,y8,ph,bM,sm,L,q⟩:=h;o_head az (j:=1) hw rfl (λv1 i1=>?_);o_head zzJ i1 ?_;o_head zq0 hp bM sm (λH1 S1=>⟨_,rfl,?_⟩);have hp1:=hp.by S1;have hw1:=hw.by S1;cases L with
 | no h =>
   rw[h];k_few;exact q H1 S1
 | KJ es n h p bR more pap hd lw ne c =>
   rw[pap];have hat:=lw.at;have c0:∀i,i<=n->Cm 3500 (aG ra rb ys i::aj ra rb ys i):=λi hi=>c 0 i (by lia)
   have hlen:dd.length=es.length+1+more.length:=by rw[hd];simp;lia
   have wrong_at:dd[es.length]? = some (.tuple (N h::TN p::bR)):=by rw[hd,vf (by simp)];simp
   have row_at:∀j (hj:j<es.length),dd[j]? = some (jy ra rb ys es[j]):=λj hj=>by
     rw[hd,vR (by simpa using hj),wo,wc hj]
     rfl
   by_cases z:es.length=0
   . have z':es=[]:=WW.mp z
     have n0:n=0:=by
       rw[z']at lw;exact(show 0=n from lw).symm
     subst n0;rw[z]at wrong_at;have ne:¬ (h=0/\p=ys):=ne;o_head jr (j:=0) hp1 wrong_at (λv2 i2=>?_);o_head az (j:=0) i2 rfl (λv3 i3=>?_);k_few
     . exact q H1 S1
     rename_i hz;refine jr (j:=0) hp1 wrong_at (λv4 i4=>?_);o_head az (j:=1) i4 rfl (λv5 i5=>?_);o_head az (j:=1) hw1 rfl (λv6 i6=>?_);refine Cu (show Is K H1 v5 (TN p)from i5) i6 ?_;rw[decide_eq_false (λy=>ne ⟨by first | exact hz | exact Vl.mp hz,y⟩)];k_few;exact q H1 S1
   . have e0:=row_at 0 (by lia)
     have e00:es[0].1=0:=by rw[(hat 0 (by lia)).1];exact lw.first
     unfold jy at e0;rw[e00]at e0;o_head jr (j:=0) hp1 e0 (λv2 i2=>?_);o_head az (j:=0) i2 rfl (λv3 i3=>?_);k_few
     . rename_i z;exact absurd rfl z
     refine jr (j:=0) hp1 e0 (λv4 i4=>?_);o_head az (j:=1) i4 rfl (λv5 i5=>?_);o_head az (j:=1) hw1 rfl (λv6 i6=>?_);refine Cu (show Is K H1 v5 (TN ys)from i5) i6 ?_;rw[decide_eq_true rfl];obtain⟨lp,us,rfl,hsp,tp⟩:=cu.mp hp1;have hul:=tp.length;o_head nI hp1 (λl2 H2 us2 n2 S2 e2 t2=>?_);rw[nX]at t2;have hul2:=t2.length;rw[Vz]at hul2;o_head RG (t:=false) (u:=false) (S2.seq hsp) (aP.of e2) (by lia) (λj σ H'=>(∃o2 o3,σ = [some x0,some (.ref lp),o2,o3])/\ag H2 H'/\j<es.length) ⟨⟨_,_,rfl⟩,λ_ _ h=>h,by lia⟩ (λj σ H' _ h=>⟨h.2.1.seq (S2.seq hsp),h.2.1.seq (aP.of e2)⟩) ?_ ?_
     . rintro j x y σ H3 cc H4 hx hy ⟨⟨o2,o3,rfl⟩,S3,hj⟩ nc S4 e4
       obtain⟨hi,ix⟩:=gC tp hx;obtain⟨hi2,iy⟩:=gC t2 hy;obtain⟨e1,⟨jj,g40,fr⟩,e3,le⟩:=hat j hj
       have hnext:∃h' p' ds,dd[j+1]? = some (.tuple (N h'::TN p'::ds))/\(j+1<es.length->h'=aG ra rb ys (b_ es n (j+1))/\p'=aj ra rb ys (b_ es n (j+1)))/\(j+1=es.length->¬ (h'=aG ra rb ys (b_ es n (j+1))/\p'=aj ra rb ys (b_ es n (j+1)))):=by
         rcases wD (j+1) es.length with u | u
         . refine⟨_,_,_,row_at (j+1) u,λ_=>?_,λw=>by lia⟩
           rw[(hat (j+1) u).1];exact⟨rfl,rfl⟩
         . have ej:j+1=es.length:=by lia
           refine⟨h,p,bR,by rw[ej];exact wrong_at,λw=>by lia,λ_=>?_⟩;rw[ej,NM];exact ne
       obtain⟨h',p',ds,ey,yes,no⟩:=hnext;rw[wb,row_at j hj]at ix;rw[wb,xR,ey]at iy;have T4:=S2.trans (S3.trans S4);have ix4:Is K H4 x (jK (aG ra rb ys (b_ es n j)) (aj ra rb ys (b_ es n j)) es[j].2.1 es[j].2.2):=by rw[<- e1];exact ix.by T4
       have iy4:Is K H4 y (.tuple (N h'::TN p'::ds)):=iy.by (S3.trans S4);rw[e1]at e3 fr;unfold dG at e3;generalize es[j].2.1=r at *;generalize es[j].2.2=g at *;have ci:=c0 (b_ es n j) (by lia);refine nJ (.of e4) rfl ?_;o_head az (j:=0) (hw1.by T4) rfl (λv7 i7=>?_);o_head RJ i7 ix4 iy4 ok (by rw[bS];exact y1) (by rw[bS];exact y8) (λr1=>⟨⟨ok,by rw[bS];exact y1,by rw[bS];exact y8,ph.at ok.a0 ok.b0 _,(fr r1).1,(lY ci λy hy=>wu _ hy).mono (by decide)⟩,jj,(fr r1).2⟩) g40 (ci.dQ (wB ..)) ((c _ _ (by lia)).dQ (wB ..)) (((c (b_ es n j) (r*(ar (aj ra rb ys (b_ es n j))).length) (by lia)).dQ (wB ..)).mono (by decide)) (λt ht=>by rw[eQ];exact(c _ t (by lia)).mono (by decide)) (λH5 S5=>?_);rw[ma,eQ,e3];rcases wD (j+1) es.length with u | u
       . rw[decide_eq_true (yes u).1,decide_eq_true (yes u).2,xu]
         k_few;exact⟨⟨_,_,rfl⟩,S3.trans (S4.trans S5),u⟩
       . have nn:=no (by lia)
         rw[show(decide (h'=aG ra rb ys (b_ es n (j+1)))&&decide (p'=aj ra rb ys (b_ es n (j+1))))=false by
           rw[Xf];intro w;rw[wT,decide_eq_true_eq,decide_eq_true_eq]at w;exact nn w]
         k_few;exact q _ (S1.trans (T4.trans S5))
     . rintro σ H3 ⟨_,_,hj⟩
       exfalso
       lia
 | right es n wd pap hd lw h0 hwd c =>
   subst hd;rw[pap];have hat:=lw.at;have hix:=λj hj=>(hat j hj).1
   have c0:∀i,i<=n->Cm 3500 (aG ra rb ys i::aj ra rb ys i):=λi hi=>c 0 i (by lia)
   obtain⟨ds0,e0⟩:=pS (a:=ra) (b:=rb) (xs:=ys) (w:=wd) hix (j:=0) (by lia);rw[lw.first]at e0;o_head jr (j:=0) hp1 e0 (λv2 i2=>?_);o_head az (j:=0) i2 rfl (λv3 i3=>?_);k_few
   . rename_i z;exact absurd rfl z
   refine jr (j:=0) hp1 e0 (λv4 i4=>?_);o_head az (j:=1) i4 rfl (λv5 i5=>?_);o_head az (j:=1) hw1 rfl (λv6 i6=>?_);refine Cu (show Is K H1 v5 (TN ys)from i5) i6 ?_;rw[decide_eq_true rfl];obtain⟨lp,us,rfl,hsp,tp⟩:=cu.mp hp1;have hul:=tp.length;have hpl:(cf ra rb ys es n wd).length=es.length+1:=by simp[cf]
   o_head nI hp1 (λl2 H2 us2 n2 S2 e2 t2=>?_);rw[nX]at t2;have hul2:=t2.length;rw[Vz,hpl]at hul2;o_head RG (t:=false) (u:=false) (S2.seq hsp) (aP.of e2) (by lia) (λj σ H'=>(∃o2 o3,σ = [some x0,some (.ref lp),o2,o3])/\ag H2 H') ⟨⟨_,_,rfl⟩,ag.refl _⟩ (λj σ H' _ h=>⟨h.2.seq (S2.seq hsp),h.2.seq (aP.of e2)⟩) ?_ ?_
   . rintro j x y σ H3 cc H4 hx hy ⟨⟨o2,o3,rfl⟩,S3⟩ nc S4 e4
     obtain⟨hi,ix⟩:=gC tp hx;obtain⟨hi2,iy⟩:=gC t2 hy;rw[Vz,hpl]at hi2;have hj:j<es.length:=by lia
     obtain⟨e1,⟨jj,g40,fr⟩,e3,le⟩:=hat j hj;obtain⟨ds,ey⟩:=pS (a:=ra) (b:=rb) (xs:=ys) (w:=wd) hix (j:=j+1) (by lia);rw[wb,zuQ hj]at ix;rw[wb,xR,ey]at iy;have T4:=S2.trans (S3.trans S4);have ix4:Is K H4 x (jK (aG ra rb ys (b_ es n j)) (aj ra rb ys (b_ es n j)) es[j].2.1 es[j].2.2):=by rw[<- e1];exact ix.by T4
     have iy4:Is K H4 y (.tuple (N (aG ra rb ys (b_ es n (j+1)))::TN (aj ra rb ys (b_ es n (j+1)))::ds)):=iy.by (S3.trans S4);rw[e1]at e3 fr;unfold dG at e3;generalize es[j].2.1=r at *;generalize es[j].2.2=g at *;have ci:=c0 (b_ es n j) (by lia);refine nJ (.of e4) rfl ?_;o_head az (j:=0) (hw1.by T4) rfl (λv7 i7=>?_);o_head RJ i7 ix4 iy4 ok (by rw[bS];exact y1) (by rw[bS];exact y8) (λr1=>⟨⟨ok,by rw[bS];exact y1,by rw[bS];exact y8,ph.at ok.a0 ok.b0 _,(fr r1).1,(lY ci λy hy=>wu _ hy).mono (by decide)⟩,jj,(fr r1).2⟩) g40 (ci.dQ (wB ..)) ((c _ _ (by lia)).dQ (wB ..)) (((c (b_ es n j) (r*(ar (aj ra rb ys (b_ es n j))).length) (by lia)).dQ (wB ..)).mono (by decide)) (λt ht=>by rw[eQ];exact(c _ t (by lia)).mono (by decide)) (λH5 S5=>?_);rw[ma,eQ,e3,decide_eq_true rfl,decide_eq_true rfl,xu];k_few;exact⟨⟨_,_,rfl⟩,S3.trans (S4.trans S5)⟩
   . rintro σ H3 ⟨⟨o2,o3,rfl⟩,S3⟩
     have T3:=S2.trans S3;have hw3:=hw1.by T3;have hp3:=hp1.by T3;have cn:=c0 n (wn n);o_head az (j:=0) hw3 rfl (λv7 i7=>?_);o_head nv hp3 (λv8 i8=>?_);unfold s_ at i8;o_head az (j:=1) i8 rfl (λv9 i9=>?_);o_head bW (ds:=[R ra rb,TN (aj ra rb ys n)]) (by simp) (.cons i7 (.cons i9 .nil)) (λv10 H10 S10 i10=>?_);o_head Mn (show Is K H10 v10 (bL ra rb (aj ra rb ys n))from i10) ⟨ok,by rw[bS];exact y1,by rw[bS];exact y8,ph.at ok.a0 ok.b0 _,h0,(lY cn λy hy=>wu _ hy).mono (by decide)⟩ (λH11 S11=>?_);have S311:=S10.trans S11;o_head nv (hp3.by S311) (λv12 i12=>?_);unfold s_ at i12;o_head az (j:=2) i12 rfl (λv13 i13=>?_);rw[cW.mp i13];refine zDi Q_ hwd ?_;have q':=q H11 (S1.trans (T3.trans S311));exact q'
def L_(K:wa):Sp:=λvs H Q _=>∃x0,vs=[x0] /\ ∃(a b:Rat)(xs:List Rat)(g:Nat),Is K H x0 (bL a b xs)/\aZ a b/\1<=xs.length/\xs.length<=8/\g<=8/\(∀t,t<=g->Cm 3700 (aj a b xs t))/\(∀t,t<g->(dg a b (aj a b xs t)).length=1)/\(dg a b (aj a b xs g)).length≠1 /\ ∀H',ag H H'->Q (.int ((g+1:Nat):Int)) H'
theorem Mr{a:Rat}(h:Is K H v (bL a b xs))(ok:aZ a b)(h1:1<=xs.length)(h8:xs.length<=8)(hg:g<=8)(c:∀t,t<=g->Cm 3700 (aj a b xs t))(w1:∀t,t<g->(dg a b (aj a b xs t)).length=1)(w2:(dg a b (aj a b xs g)).length≠1)(q:∀H',ag H H'->Q (.int ((g+1:Nat):Int)) H'):L_ K [v] H Q E:=⟨_,rfl,a,b,xs,g,h,ok,h1,h8,hg,c,w1,w2,q⟩
theorem zmb(T:Txt K mg a):aI P w K mg base aU 5 a.Hz a.GW zA (L_ K):=by
 refine T.G_.F.ok rn ?_ ?_;wtm_at "b1"
 refine⟨_,(av (aA 1 rn.nd ao)
     (av (aA 2 rn.nd (ak (F_ T) hr T.tX (ae (pv 0) af)))
     (av (oQ vd (cw (show aM _ (compareOp .Eq) (cR K)from dF hu) (bQ (show aN _ (.builtin "len") (cO K)from dH) rfl T.h0o dM (ae (au (pv 2)) af)) ao (bN _)) (av (zDv (i:=1) rn.nd rfl (Or.inl rfl) ao zDa)
     (ay (aA 2 rn.nd (ak (F_ T) hr T.tX (ae (au (pv 2)) af))))))
     (ay (aC (pv 1)))))),?_⟩
 wtm_at "cl";rw[show start Ux [x0]=[some x0,none,none]from rfl];obtain⟨ra,rb,xs,g,hw,ok,h1,h8,hg,c,w1,w2,q⟩:=h;o_head CK hw ok.ba ok.bb h1 h8 (c 0 (by lia)) (by lia) (λv2 H2 S2 i2=>?_);o_head uC (λm σ' H'=>∃(t:Nat)(v:V),σ'=[some x0,some (.int ((t+1:Nat):Int)),some v]/\m=g-t/\t<=g/\ag H H'/\Is K H' v (GD ra rb (aj ra rb xs t))) _ ⟨0,v2,rfl,rfl,by lia,S2,i2⟩ ?_;rintro m σ' H3 ⟨t,v,rfl,rfl,ht,S3,iv⟩;o_head az (j:=1) iv rfl (λv4 i4=>?_);o_head kX i4 ?_;rw[wl];k_few
 . rename_i z
   have z:(dg ra rb (aj ra rb xs t)).length=1:=by lia
   have htg:t<g:=by
     rcases wD t g with y | y
     . exact y
     . have:t=g:=by lia
       subst this;exact absurd z w2
   have hpl:=bS ra rb xs t;have hpl2:=bS ra rb xs (t+1);refine z8 ?_;o_head zBn rfl ?_;o_head zCq ?_;o_head az (j:=2) iv rfl (λv5 i5=>?_);o_head CK (show Is K H3 v5 (bL ra rb (aj ra rb xs (t+1)))from i5) ok.ba ok.bb (by lia) (by lia) (c (t+1) (by lia)) (by lia) (λv6 H6 S6 i6=>?_);k_few;exact⟨g-(t+1),by lia,t+1,v6,by push_cast;rfl,rfl,by lia,S3.trans S6,i6⟩
 . rename_i z
   have htg:t=g:=by
     rcases wD t g with y | y
     . exact absurd (by rw[w1 t y];rfl) z
     . lia
   subst htg;exact q H3 S3
def Ov(B:Int)(x:Rat):Prop:=∃t:Int,x=wr t B
theorem Ov.zero(B:Int):Ov B 0:=⟨0,by simp⟩
theorem Ov.more{d:Int}(h:Ov B x)(hB:0<B)(hd:0<d):Ov (B*d) x:=by
 obtain⟨t,rfl⟩:=h;exact⟨t*d,tM hB hd⟩
theorem zBh(t u:Int):∃m,Bd m t/\Bd m u:=⟨t.natAbs+u.natAbs,⟨WH (by lia:t.natAbs<=t.natAbs+u.natAbs) xD⟩,⟨WH (by lia:u.natAbs<=t.natAbs+u.natAbs) xD⟩⟩
theorem zEc{a:Rat}(h:aZ a b):Bd 6 a.num:=by
 have h1:=h.a0;have h2:=h.a4;have h3:=h.ad;have n0:0<=a.num:=qB.mpr (vU h1)
 have n1:a.num<=4*a.den:=by
   have:=(xn a 4).mp h2
   simpa using this
 exact ⟨by have : (2 : Nat) ^ 6 = 64 := by decide
           lia⟩
theorem zD2{a:Rat}(h:aZ a b):Bd 4 (a.den:Int):=by
 have h3:=h.ad
 exact ⟨by have : (2 : Nat) ^ 4 = 16 := by decide
           lia⟩
theorem zDT{a:Rat}(h:aZ a b):Bd 4 b.num:=by
 have h1:=h.b0;have h2:=h.b1;have h3:=h.bd;have n0:0<=b.num:=qB.mpr h1
 have n1:b.num<=b.den:=by
   have:=(xn b 1).mp h2
   simpa using this
 exact ⟨by have : (2 : Nat) ^ 4 = 16 := by decide
           lia⟩
theorem Ov.push{a:Rat}(ok:aZ a b)(hB:0<B)(hd:(b.den:Int) ∣ B)(h:Ov B x)(n:Nat):Ov (B*(a.den:Int)^n) (push a b n x):=by
 obtain⟨t,rfl⟩:=h;obtain⟨m,h1,h2⟩:=zBh t B;obtain⟨_,_,_,T,e,_⟩:=Oe (zEc ok) (zD2 ok) (zDT ok) hB hd h1 h2 n;exact⟨T,e⟩
theorem sP(a:Rat)(n:Nat):0<(a.den:Int)^n:=Xk (den_pos a)
theorem Ov.up{a:Rat}(h:Ov B x)(hB:0<B)(n:Nat):Ov (B*(a.den:Int)^n) x:=h.more hB (sP a n)
theorem R9(h:∀x∈xs,Ov B x)(i:Nat):Ov B (xs.getD i 0):=by
 rcases wD i xs.length with z | z
 ·exact h _ (getD_mem z)
 ·rw[wb,wE z];exact Ov.zero B
theorem zxi(h:∀i,i<xs.length->Ov B (xs.getD i 0)):∀x∈xs,Ov B x:=λx hx=>by
 obtain⟨j,hj,rfl⟩:=wY hx;have:=h j hj;rw[wb,wc hj]at this;exact this
theorem MJ{a b:Rat}(ok:aZ a b):∀(n:Nat)(B:Int)(ps:List Rat)(left:List Nat),0<B->(b.den:Int) ∣ B->left.Nodup->(∀w∈left,w<ps.length)->(∀x∈ps,Ov B x)->∀x∈(cX a b n ps left).2.2,Ov (B*(a.den:Int)^(cX a b n ps left).1.flatten.length) x
 | 0,B,ps,left,hB,_,_,_,h=>λx hx=>by
  have:Ov (B*(a.den:Int)^0) x:=by rw[qS,QU];exact h x hx
  exact this
 | n+1,B,ps,left,hB,hd,nd,lt,h=>by
  by_cases e:aH ps left=[]
  ·rw[oO e]
   intro x hx;have:Ov (B*(a.den:Int)^0) x:=by rw[qS,QU];exact h x hx
   exact this
  ·rw[kg e]
   have nd':(cj left (aH ps left)).Nodup:=pC nd;have lt':=pK (wave:=aH ps left) lt
   have ih:=MJ ok n (B*(a.den:Int)^(aH ps left).length) (c7 (a^(aH ps left).length) (aE a b (aH ps left).length) ps (cj left (aH ps left))) (cj left (aH ps left)) (vK hB (sP a _)) (qb hd (Vj ..)) nd' (λw hw=>by rw[jI];exact lt' w hw) (zxi λi hi=>by
    rw[j3 _ _ _ _ nd' lt']
    split
    ·rw[<- iZ];exact(R9 h i).push ok hB hd _
    ·exact(R9 h i).up hB _)
   intro x hx;have:=ih x hx
   show Ov (B*(a.den:Int)^(aH ps left::_).flatten.length) x
   rw[Vh,wy,Xm,<- VI];exact this
theorem Ov.rise(hx:Ov B x)(hy:Ov B y)(hB:0<B):Ov B (x+(1-y)):=by
 obtain⟨t,rfl⟩:=hx;obtain⟨z,rfl⟩:=hy;refine⟨t+B-z,?_⟩
 symm
 refine gE (by lia) ?_;have q1:=c8 t (show B≠0 by lia);have q2:=c8 z (show B≠0 by lia);have q3:((t+B-z:Int):Rat)=(t:Rat)+(B:Rat)-(z:Rat):=by push_cast;rfl
 rw[q3,<- q1,<- q2]
 grind
def jU(a b:Rat)(xs:List Rat):Nat:=(dg a b xs).flatten.length
theorem zAV{a:Rat}(ok:aZ a b)(hB:0<B)(hd:(b.den:Int) ∣ B)(h1:1<=xs.length)(h:∀x∈xs,Ov B x):∀y∈dP a b xs,Ov (B*(a.den:Int)^jU a b xs) y:=by
 have hr:∀x∈bZ xs,Ov B x:=λx hx=>by
  obtain⟨y,hy,rfl⟩:=wP.mp hx;exact(h y hy).rise (h _ (ja h1)) hB
 have:=MJ ok xs.length B (bZ xs) (wp xs.length) hB hd WZ (λw hw=>by rw[f_];exact wG.mp hw) hr;intro y hy;rcases zzr y hy with z | z
 ·exact this y z
 ·rw[z];exact Ov.zero _
def cH(a b:Rat)(xs:List Rat):Nat->Nat
 | 0=>0
 | k+1=>cH a b xs k+jU a b (aj a b xs k)
theorem oC(a b:Rat)(xs:List Rat)(m:Nat):∀k,cH a b xs (m+k)=cH a b xs m+cH a b (aj a b xs m) k
 | 0=>rfl
 | k+1=>by
  show cH a b xs (m+k)+jU a b (aj a b xs (m+k))=cH a b xs m+(cH a b (aj a b xs m) k+jU a b (aj a b (aj a b xs m) k))
  rw[oC a b xs m k,eQ];lia
theorem Pc{a b:Rat}(ok:aZ a b){B:Int}(hB:0<B)(hd:(b.den:Int) ∣ B){xs:List Rat}(h1:1<=xs.length)(h:∀x∈xs,Ov B x):∀k,(∀y∈aj a b xs k,Ov (B*(a.den:Int)^cH a b xs k) y)/\Ov (B*(a.den:Int)^cH a b xs k) (aG a b xs k)
 | 0=>by
  show(∀y∈xs,Ov (B*(a.den:Int)^0) y)/\Ov (B*(a.den:Int)^0) 0
  rw[qS,QU];exact⟨h,Ov.zero B⟩
 | k+1=>by
  obtain⟨hp,hh⟩:=Pc ok hB hd h1 h k;have hBk:=vK hB (sP a (cH a b xs k));have hpl:=bS a b xs k
  have e:B*(a.den:Int)^cH a b xs (k+1)=B*(a.den:Int)^cH a b xs k*(a.den:Int)^jU a b (aj a b xs k):=by
   rw[VI,<- Xm];rfl
  rw[e];refine⟨zAV ok hBk (qb hd (Vj ..)) (by lia) hp,?_⟩;exact(Ov.rise hh (hp _ (ja (by lia))) hBk).up hBk _
theorem Sq{a b:Rat}(a0:0<a)(b0:0<=b){xs:List Rat}(h1:1<=xs.length)(hp:dq xs):∀k:Nat,0<=aG a b xs k/\aG a b xs k<=((k:Int):Rat)
 | 0=>⟨Wz,Wz⟩
 | k+1=>by
  obtain⟨l,u⟩:=Sq a0 b0 h1 hp k;have hk:=hp.at a0 b0 k;have hm:=ja (xs:=aj a b xs k) (by rw[bS];exact h1);have m0:=hk.nn _ hm;have m1:=hk.lt _ hm;have e:aG a b xs (k+1)=aG a b xs k+(1-cC (aj a b xs k)):=rfl;have ek:(((k+1:Nat):Int):Rat)=((k:Int):Rat)+1:=by push_cast;rfl
  rw[e,ek];exact⟨by grind,by grind⟩
theorem Ol{l:Nat}(hB:0<B)(bB:Bd m B)(h:Ov B x)(x0:0<=x)(x1:x<=(((2^l:Nat):Int):Rat)):∃t:Int,x=wr t B/\Bd (m+l+1) t:=by
 obtain⟨t,rfl⟩:=h;refine⟨t,rfl,?_⟩;have q1:=c8 t (show B≠0 by lia);have hBr:(0:Rat)<(B:Rat):=XM.mpr hB;have t0:(0:Rat)<=(t:Rat):=by rw[<- q1];exact qY x0 (vU hBr)
 have t1:(t:Rat)<=(((2^l:Nat):Int):Rat)*(B:Rat):=by
  rw[<- q1];exact qT x1 (vU hBr)
 have t0':0<=t:=Rat.intCast_nonneg.mp t0
 have t1':t<=((2^l:Nat):Int)*B:=by
  rw[<- vL]at t1;exact W6.mp t1
 have b:=bB.lt;refine⟨?_⟩
 have hb:t.natAbs<=2^l*B.natAbs:=by
  have e:((2^l*B.natAbs:Nat):Int)=((2^l:Nat):Int)*B:=by
   rw[Va]
   congr 1
   lia
  lia
 have:2^l*B.natAbs<2^l*2^m:=Nat.mul_lt_mul_of_pos_left b (We l);have e2:2^(m+l+1)=2^l*2^m*2:=by rw[xK,Xj,Nat.mul_comm (2^m)]
 lia
theorem zBt{a:Rat}(ok:aZ a b)(h:Bd m B)(n:Nat):Bd (m+3*n) (B*(a.den:Int)^n):=by
 refine⟨?_⟩;have h1:=h.lt;have h8:=ok.ad;rw[Q8,Int.natAbs_pow,Int.natAbs_natCast,Xj,Nat.pow_mul];have e:(2:Nat)^3=8:=by decide
 rw[e];have h2:a.den^n<=8^n:=Nat.pow_le_pow_left h8 n;have hp:0<8^n:=Nat.pow_pos (by decide);exact WH (qW _ h2) (Nat.mul_lt_mul_of_pos_right h1 hp)
theorem Ov.sub(hx:Ov B x)(hy:Ov B y)(hB:0<B):Ov B (x-y):=by
 obtain⟨t,rfl⟩:=hx;obtain⟨z,rfl⟩:=hy;refine⟨t-z,?_⟩
 symm
 refine gE (by lia) ?_;have q1:=c8 t (show B≠0 by lia);have q2:=c8 z (show B≠0 by lia);have q3:((t-z:Int):Rat)=(t:Rat)-(z:Rat):=by push_cast;rfl
 rw[q3,<- q1,<- q2]
 grind
theorem zAJ{a:Rat}(ok:aZ a b)(c:nz b.den m xs)(h1:1<=xs.length)(hp:dq xs){l:Nat}(hk:k<=2^l):Cm (m+3*cH a b xs (i+k)+l+1) (aG a b (aj a b xs i) k::aj a b (aj a b xs i) k):=by
 obtain⟨B,hB,hd,bB,hx⟩:=c;have hov:=Pc ok hB hd h1 (λx hx'=>let ⟨t,e,_⟩:=hx x hx';⟨t,e⟩);obtain⟨hph,hh⟩:=hov (i+k);have hBk:=vK hB (sP a (cH a b xs (i+k)))
 have hi:Ov (B*(a.den:Int)^cH a b xs (i+k)) (aG a b xs i):=by
  have:=((hov i).2).up (a:=a) (vK hB (sP a (cH a b xs i))) (cH a b (aj a b xs i) k);rw[VI,<- Xm,<- oC]at this;exact this
 have hhk:Ov (B*(a.den:Int)^cH a b xs (i+k)) (aG a b (aj a b xs i) k):=by
  have e:aG a b (aj a b xs i) k=aG a b xs (i+k)-aG a b xs i:=by
   have:=ma a b xs i k
   grind
  rw[e];exact hh.sub hi hBk
 have bb:=zBt ok bB (cH a b xs (i+k));have hpi:=hp.at ok.a0 ok.b0 i;have hpk:=hpi.at ok.a0 ok.b0 k;have hl:(((k:Nat):Int):Rat)<=(((2^l:Nat):Int):Rat):=W6.mpr (by lia)
 have h1l:(1:Rat)<=(((2^l:Nat):Int):Rat):=by
  have:((1:Int):Rat)<=(((2^l:Nat):Int):Rat):=W6.mpr (by have:=We l;lia);exact this
 refine⟨_,hBk,bb.mono (by lia),λx hx'=>?_⟩;rcases wH.mp hx' with rfl | hx'
 ·have hb:=Sq ok.a0 ok.b0 (xs:=aj a b xs i) (by rw[bS];exact h1) hpi k
  exact Ol hBk bb hhk hb.1 (Qz hb.2 hl)
 ·have:=hph x (by rw[<- eQ];exact hx')
  exact Ol hBk bb this (hpk.nn x hx') (Qz (vU (hpk.lt x hx')) h1l)
theorem zzN{a:Rat}(a0:0<a)(b0:0<=b)(h1:1<=xs.length)(hp:dq xs):jU a b xs<=xs.length:=by
 obtain⟨v,J⟩:=Dp a0 b0 h1 hp.nn hp.lt;unfold jU;rw[J.perm.length_eq];unfold seg;have:=Wv (λw=>decide (0<=aX xs w)&&decide (aX xs w<v)) (wp xs.length);rw[vD]at this;exact this
theorem uJ{a b:Rat}(a0:0<a)(b0:0<=b){xs:List Rat}(h1:1<=xs.length)(hp:dq xs):∀k,cH a b xs k<=k*xs.length
 | 0=>Vs _
 | k+1=>by
  have ih:=uJ a0 b0 h1 hp k;have hl:=bS a b xs k;have:=zzN a0 b0 (xs:=aj a b xs k) (by lia) (hp.at a0 b0 k);rw[qp]
  show cH a b xs k+jU a b (aj a b xs k)<=_
  lia
theorem zt2{a:Rat}(a0:0<a)(b0:0<=b)(h1:1<=xs.length)(hp:dq xs):1<=(dg a b xs).length:=by
 obtain⟨v,J⟩:=Dp a0 b0 h1 hp.nn hp.lt;obtain⟨ws,e,_⟩:=J.first;rw[e];simp
theorem Pf{a:Rat}(a0:0<a)(b0:0<=b)(h1:1<=xs.length)(hp:dq xs):(ar (dP a b xs)).length<=(ar xs).length/\(1<(dg a b xs).length->(ar (dP a b xs)).length<(ar xs).length):=by
 obtain⟨v,J⟩:=Dp a0 b0 h1 hp.nn hp.lt;have e:=congrArg Xg J.new;rw[km,wy,ve,km,wL]at e;have v1:=J.v1;have vm:=J.vm;exact⟨by lia,λh=>by have:=J.more.mp h;lia⟩
theorem SA{a b:Rat}(a0:0<a)(b0:0<=b){xs:List Rat}(h1:1<=xs.length)(hp:dq xs):∀k,(ar (aj a b xs k)).length<=(ar xs).length
 | 0=>wn _
 | k+1=>Wg (Pf a0 b0 (xs:=aj a b xs k) (by rw[bS];exact h1) (hp.at a0 b0 k)).1 (SA a0 b0 h1 hp k)
theorem Yr{a b:Rat}(ok:aZ a b){xs ps:List Rat}{fl:Nat->Nat}{ns:List Int}(L:gB xs (ps++[0]) fl ns)(hn:ns.length=ps.length+1)(f:fD a b ns ps=true):∀t,t<=ns.length->cH a b xs t=upTo ns t
 | 0,_=>rfl
 | t+1,ht=>by
  have ih:=Yr ok L hn f t (by lia);have hw:=(Sk ok L hn f).2.1 t (by lia);have hl:(ps++[0]).length=ns.length:=by simp[hn]
  have hs:=L.size t (by lia)
  show cH a b xs t+jU a b (aj a b xs t)=_
  unfold jU;rw[hw,ih,sD (by lia),hs];simp
theorem MC{a b:Rat}(ok:aZ a b){xs ps:List Rat}{fl:Nat->Nat}{ns:List Int}(L:gB xs (ps++[0]) fl ns)(hn:ns.length=ps.length+1)(n0:∀n∈ns,0<=n):∀k,(∀j,j<k->cU a b ns ps j=true)->cH a b xs (k*ns.length)=k*upTo ns ns.length
 | 0,_=>by rw[QD,QD];rfl
 | k+1,h=>by
  have ih:=MC ok L hn n0 k λj hj=>h j (by lia)
  obtain⟨Lk,_⟩:=zj ok L hn n0 k λj hj=>h j (by lia)
  have hl:ns.length=(cY a b ns k ps).length+1:=by rw[d_];exact hn
  rw[qp,oC,ih,Yr ok Lk hl (h k (by lia)) _ (wn _),qp]
structure iO(a b:Rat)(xs:List Rat)(r g:Nat):Prop where
 jj:r<=30
 free:gn a b xs r
 ends:cU a b (bY xs) (cz xs) r=false
 g1:1<=g
 gN:g<=(ar xs).length
 one:∀t,t+1<g->(dg a b (aj a b (aj a b xs (r*(ar xs).length)) t)).length=1
 join:1<(dg a b (aj a b (aj a b xs (r*(ar xs).length)) (g-1))).length
theorem Sy{p:Nat->Prop} : ∀n,(∃t,t<n /\ ¬ p t)->∃g,g<n/\(∀t,t<g->p t) /\ ¬ p g
 | 0,h=>by obtain⟨t,ht,_⟩:=h;lia
 | n+1,h=>by
  by_cases z:∃t,t<n /\ ¬ p t
  ·obtain⟨g,h1,h2,h3⟩:=Sy n z
   exact⟨g,by lia,h2,h3⟩
  ·obtain⟨t,ht,hp⟩:=h
   have htn:t=n:=by
    rcases wD t n with y | y
    ·exact absurd ⟨t,y,hp⟩ z
    ·lia
   subst htn;exact⟨t,by lia,λs hs=>Vl.mp λy=>z ⟨s,hs,y⟩,hp⟩
structure zCc(a b:Rat)(xs:List Rat):Prop where
 hz:cz xs++[0]=ar xs
 hn:(bY xs).length=(cz xs).length+1
 hs:(bY xs).length=(ar xs).length
 L:gB xs (cz xs++[0]) (aX xs) (bY xs)
theorem Lf{a:Rat}(hp:dq xs)(h0:0∈xs):zCc a b xs:=by
 have hz:cz xs++[0]=ar xs:=Ck hp h0;have hsl:=v_ xs;have hpl:(cz xs).length+1=(ar xs).length:=by rw[<- hz];simp
 exact⟨hz,by lia,hsl,by rw[hz];exact Ll hp.nn hp.lt⟩
theorem OP{a:Rat}(ok:aZ a b)(h1:1<=xs.length)(hp:dq xs)(h0:0∈xs)(h30:r<=30)(f:gn a b xs r)(e:cU a b (bY xs) (cz xs) r=false):∃g,iO a b xs r g:=by
 obtain⟨hz,hn,hs,L⟩:=Lf (a:=a) (b:=b) hp h0;obtain⟨Lr,_⟩:=zj ok L hn (uw xs) r f;obtain⟨t,ht,hj⟩:=zw5 ok Lr (by rw[d_];exact hn) e;rw[hs]at ht hj;obtain⟨g,g1,g2,g3⟩:=Sy (p:=λt=>(dg a b (aj a b (aj a b xs (r*(ar xs).length)) t)).length=1) (ar xs).length ⟨t,ht,λz=>by rw[z]at hj;lia⟩;refine⟨g+1,h30,f,e,by lia,by lia,λt ht=>g2 t (by lia),?_⟩;have:=zt2 (a:=a) (b:=b) ok.a0 ok.b0 (xs:=aj a b (aj a b xs (r*(ar xs).length)) g) (by rw[bS,bS];exact h1) ((hp.at ok.a0 ok.b0 _).at ok.a0 ok.b0 _);rw[qr];have g3:¬ (dg a b (aj a b (aj a b xs (r*(ar xs).length)) g)).length=1:=g3;lia
theorem iO.cH{a:Rat}(R:iO a b xs r g)(ok:aZ a b)(h1:1<=xs.length)(hp:dq xs)(h0:0∈xs){t:Nat}(ht:t<=g):cH a b xs (r*(ar xs).length+t)<=30*xs.length+xs.length*xs.length:=by
 obtain⟨hz,hn,hs,L⟩:=Lf (a:=a) (b:=b) hp h0;have h2:=MC ok L hn (uw xs) r R.free;rw[hs]at h2;have h3:=Pq xs;rw[hs]at h3;have h4:=uJ ok.a0 ok.b0 (xs:=aj a b xs (r*(ar xs).length)) (by rw[bS];exact h1) (hp.at ok.a0 ok.b0 _) t;rw[bS]at h4;rw[oC,h2];have h5:r*upTo (bY xs) (ar xs).length<=30*xs.length:=V4 R.jj h3;have h6:t*xs.length<=xs.length*xs.length:=Wc _ (by have:=R.gN;have:=lX xs;lia);lia
theorem iO.KL{a:Rat}(R:iO a b xs r g)(ok:aZ a b)(h1:1<=xs.length)(hp:dq xs):(ar (aj a b xs (r*(ar xs).length+g))).length<(ar xs).length:=by
 have g1:=R.g1
 have e:aj a b xs (r*(ar xs).length+g)=dP a b (aj a b (aj a b xs (r*(ar xs).length)) (g-1)):=by
  rw[<- eQ];obtain⟨k,rfl⟩:∃k,g=k+1:=⟨g-1,by lia⟩
  rfl
 have h2:dq (aj a b (aj a b xs (r*(ar xs).length)) (g-1)):=(hp.at ok.a0 ok.b0 _).at ok.a0 ok.b0 _;have hl:(aj a b (aj a b xs (r*(ar xs).length)) (g-1)).length=xs.length:=by rw[bS,bS]
 have h3:=(Pf ok.a0 ok.b0 (xs:=aj a b (aj a b xs (r*(ar xs).length)) (g-1)) (by lia) h2).2 R.join;have h4:=SA ok.a0 ok.b0 (xs:=xs) h1 hp (r*(ar xs).length+(g-1));rw[eQ]at h3;rw[eQ]at e;rw[e];lia
theorem zsr{a:Rat}(ok:aZ a b)(sz:dm ns)(hn:ns.length=xs.length+1)(st:fc a b ns xs=true):dj a b ns xs=xs\/(a<1/\tN a b ns=true):=by
 have hps:=sz.pos;unfold fc at st
 by_cases z1:1<a
 ·rw[if_pos z1]at st
  have e:=of_decide_eq_true st;have hF:a^ns.sum.toNat≠1:=λe=>absurd ((u4 ok (by lia)).mp e) (by grind)
  refine .inl ?_;rw[<- EY hn sz.nn,zBx hF hn 1];rw[<- e,zzw]
 ·rw[if_neg z1]at st
  by_cases z2:a=1
  ·rw[if_pos z2]at st
   refine .inl ?_;rw[<- EY hn sz.nn]
   exact lu (d_ ..) λi hi=>by
    rw[d_]at hi;have hi':i<(dk a b ns).length:=by rw[pJ (by lia)];lia
    have hz:(dk a b ns).getD i 0=0:=by
     rw[vZ]at st;have:=st _ (wP.mpr ⟨_,getD_mem (d:=0) hi',rfl⟩);exact of_decide_eq_true this
    rw[mw hi,hz];unfold gh;rw[z2,GM.one_pow',GM.one_pow']
    grind
  ·rw[if_neg z2]at st
   refine .inr ⟨?_,st⟩
   by_cases h:a<1
   ·exact h
   ·exact absurd (qt (Vp.mp h) (Wr z2)) z1
theorem zBu{a:Rat}(ok:fP a b xs)(h:fv a b xs=none)(f:cU a b (bY xs) (cz xs) 0=true):fc a b (bY xs) (cz xs)=false:=by
 obtain⟨_,sz,hn⟩:=ok.round;unfold cU at f;rw[pV]at f;cases e:fc a b (bY xs) (cz xs)with
 | false=>rfl
 | true =>
  unfold fv at h;rw[if_pos f]at h
  split at h
  ·cases h
  ·split at h
   ·cases h
   ·rename_i y
    rcases zsr ok.ok sz hn e with z | z
    ·exact absurd z y
    ·rw[if_pos z]at h;cases h
def OB(K:wa)(a:Ad):Sp:=λvs H Q E=>∃x0 x1,vs=[x0,x1] /\ ∃(ra rb h:Rat)(xs:List Rat),Is K H x0 (N h)/\Is K H x1 (bL ra rb xs)/\fP ra rb xs/\fv ra rb xs=none/\(∀r g t,iO ra rb xs r g->t<=g->Cm 3600 (aj ra rb xs (r*(ar xs).length+t))) /\
 ((∀k,k<=30->cU ra rb (bY xs) (cz xs) k=true)->∀H',ag H H'->E (.ref a.ic) none H') /\ ∀r g v H',iO ra rb xs r g->ag H H'->Is K H' v (jK h xs r g)->Q v H'
theorem ZZ{h:Rat}{w:V}(h1:Is K H v (N h))(h2:Is K H w (bL ra rb xs))(ok:fP ra rb xs)(hw:fv ra rb xs=none)(c:∀r g t,iO ra rb xs r g->t<=g->Cm 3600 (aj ra rb xs (r*(ar xs).length+t)))(qe:(∀k,k<=30->cU ra rb (bY xs) (cz xs) k=true)->∀H',ag H H'->E (.ref a.ic) none H')(q:∀r g v H',iO ra rb xs r g->ag H H'->Is K H' v (jK h xs r g)->Q v H'):OB K a [v,w] H Q E:=⟨_,_,rfl,ra,rb,h,xs,h1,h2,ok,hw,c,qe,q⟩
theorem zrW(T:Txt K mg a):aI P w K mg base (fU P w) 12 a.JZ a.IC zi (OB K a):=by
 refine T.Jn.F.yp uz ?_ ?_;wtm_at "b2"
 refine⟨_,(av (aA 2 uz.nd (pH (zE T) hr T.p6 CY (ae (pv 1) af)))
     (av (aA 3 uz.nd (pH (Zu T) hr T.HH CY (ae (au (pv 1)) (ae (au (pv 2)) (ae (au (pv 2)) af)))))
     (av (aA 4 uz.nd (ak (zmb T) hr T.G_ (ae (au (ak (RM T) hr T.AX (ae (pv 1) (ae (pv 3) af)))) af)))
     (ay (aC (bC (by exact(@ae _ _ _ _ _ (pv 0) (@ae _ _ _ _ _ (au (pv 1)) (@ae _ _ _ _ _ (pv 3) (@ae _ _ _ _ _ (pv 4) af bX) bX) gJ) bX)))))))),?_⟩
 wtm_at "cl";rw[show start Yz [x0,x1]=[some x0,some x1,none,none,none]from rfl];obtain⟨ra,rb,hr',xs,ih,hw,ok,hno,hc,qe,q⟩:=h;obtain⟨rok,sz,hn⟩:=ok.round;have h8:=ok.h8;have bx:∀i,ah 4000 (xs.getD i 0):=λi=>(ok.cm.get i).mono (by decide)
 o_head yE hw h8 bx (λz=>absurd ok.h0 z) (λ_ vl H1 S1 il=>?_);have hw1:=hw.by S1;o_head az (j:=0) hw1 rfl (λvr ir=>?_);o_head az (j:=0) il rfl (λvz iz=>?_);o_head az (j:=1) il rfl (λvp ip=>?_);o_head znS ir iz ip ok.ok sz hn (rg ok.cm) (by decide) (λz H2 S2=>?_) (λz y H2 S2=>?_) (λc c1 c2 y z w H2 S2=>?_) (λy z H2 S2=>?_)
 . have RR:(0:Nat)<=30:=by decide
   have FF:gn ra rb xs 0:=λk hk=>by lia
   have EE:=z;k_few;obtain⟨g,R⟩:=OP ok.ok ok.h1 ok.hp ok.h0 RR FF EE;have g1:=R.g1;have gN:=R.gN;have hvl:=lX xs;refine EM (r:=0) (hw1.by S2) ok RR FF (λv3 H3 S3 i3=>?_);o_head az (j:=1) i3 rfl (λv4 i4=>?_);k_few;have hj:=R.join;refine Mr (g:=g-1) i4 ok.ok (by rw[bS];exact ok.h1) (by rw[bS];exact h8) (by lia) (λt ht=>by rw[eQ];exact(hc _ g t R (by lia)).mono (by decide)) (λt ht=>R.one t (by lia)) (by lia) (λH5 S5=>?_);rw[show g-1+1=g by lia];have S15:=S2.trans (S3.trans S5);o_head az (j:=1) (hw1.by S15) rfl (λv6 i6=>?_);o_head bW (ds:=[N hr',TN xs,.int ((0:Nat):Int),.int (g:Int)]) (by simp) (.cons (ih.by (S1.trans S15)) (.cons i6 (.cons (aJ.mpr rfl) (.cons (aJ.mpr rfl) .nil)))) (λv7 H7 S7 i7=>?_);exact q 0 g v7 H7 R (S1.trans (S15.trans S7)) i7
 . rw[zBu ok hno z]at y
   cases y
 . have RR:=c2
   have FF:gn ra rb xs c:=z;have EE:=w;k_few;obtain⟨g,R⟩:=OP ok.ok ok.h1 ok.hp ok.h0 RR FF EE;have g1:=R.g1;have gN:=R.gN;have hvl:=lX xs;refine EM (r:=c) (hw1.by S2) ok RR FF (λv3 H3 S3 i3=>?_);o_head az (j:=1) i3 rfl (λv4 i4=>?_);k_few;have hj:=R.join;refine Mr (g:=g-1) i4 ok.ok (by rw[bS];exact ok.h1) (by rw[bS];exact h8) (by lia) (λt ht=>by rw[eQ];exact(hc _ g t R (by lia)).mono (by decide)) (λt ht=>R.one t (by lia)) (by lia) (λH5 S5=>?_);rw[show g-1+1=g by lia];have S15:=S2.trans (S3.trans S5);o_head az (j:=1) (hw1.by S15) rfl (λv6 i6=>?_);o_head bW (ds:=[N hr',TN xs,.int (c:Int),.int (g:Int)]) (by simp) (.cons (ih.by (S1.trans S15)) (.cons i6 (.cons (aJ.mpr rfl) (.cons (aJ.mpr rfl) .nil)))) (λv7 H7 S7 i7=>?_);exact q c g v7 H7 R (S1.trans (S15.trans S7)) i7
 . exact qe z H2 (S1.trans S2)
def F5(a b:Rat)(xs:List Rat)(i r g:Nat):Prop:=(i=0/\r=0/\g=1)\/(1<=i/\fv a b (aj a b xs i)=none/\iO a b (aj a b xs i) r g)
def gK(a b:Rat)(xs:List Rat):Nat->List (Nat × Nat × Nat)->Nat->Prop
 | i,[],n=>i=n
 | i,e::es,n=>e.1=i/\F5 a b xs i e.2.1 e.2.2/\gK a b xs (dG a b xs i e.2.1 e.2.2) es n
theorem gK.snoc{a b:Rat}{xs:List Rat} : ∀{es:List (Nat × Nat × Nat)}{i n r g:Nat},gK a b xs i es n->F5 a b xs n r g->gK a b xs i (es++[(n,r,g)]) (dG a b xs n r g)
 | [],i,n,r,g,h,k=>by
  have e:i=n:=h;subst e;exact⟨rfl,k,rfl⟩
 | e::es,i,n,r,g,h,k=>⟨h.1,h.2.1,gK.snoc h.2.2 k⟩
theorem EU(h:Rat)(xs:List Rat)(r g:Nat):br (jK h xs r g)=true:=by rw[jK,br,aV,aV,aV,aV,aV,ff,jn];rfl
theorem Zv(a b:Rat)(xs:List Rat)(n:Nat)(w:String):br (s_ a b xs n w)=true:=by rw[s_,br,aV,aV,aV,aV,ff,jn];rfl
structure de(a b:Rat)(xs:List Rat):Prop where
 ok:aZ a b
 h1:1<=xs.length
 h6:xs.length<=6
 hp:dq xs
 sz:∃m,nz b.den m xs/\m+648*xs.length<=3935
theorem de.of{a:Rat}(ok:aZ a b)(h1:1<=xs.length)(h6:xs.length<=6)(ph:∀x∈xs,fH x):de a b xs/\nz b.den 47 xs:=by
 have b6:∀j,ah 6 (xs.getD j 0):=λj=>by
  rcases wD j xs.length with z | z
  ·exact(ph _ (getD_mem z)).dQ
  ·rw[wb,wE z];exact ah.zero.mono (by decide)
 have c0:Cm 43 xs:=(Cm.YX b6).mono (by lia);have c1:nz b.den 47 xs:=nz.of c0 (den_pos b) ⟨by have:=ok.bd;have:(2:Nat)^4=16:=(by decide);lia⟩;exact⟨⟨ok,h1,h6,⟨λx hx=>(ph x hx).nn,λx hx=>(ph x hx).lt⟩,47,c1,by lia⟩,c1⟩
def lV(a b:Rat)(xs:List Rat)(i:Nat):Prop:=cH a b xs i+216*(ar (aj a b xs i)).length<=6+216*xs.length/\i+186*(ar (aj a b xs i)).length<=1+186*6
structure jM(a b:Rat)(xs:List Rat)(es:List (Nat × Nat × Nat))(n:Nat)(w:String):Prop where
 walk:gK a b xs 0 es n
 e1:1<=es.length
 bM:es.length<=9
 n1:1<=n
 word:fv a b (aj a b xs n)=some w
 sp:lV a b xs n
theorem de.kW{a:Rat}(h:de a b xs)(hg:cH a b xs (i+k)+216<=20+216*xs.length)(hk:k<=1024):Cm 3500 (aG a b (aj a b xs i) k::aj a b (aj a b xs i) k):=by
 obtain⟨m,c,hm⟩:=h.sz;exact(zAJ h.ok c h.h1 h.hp (i:=i) (k:=k) (l:=10) (by rw[show(2:Nat)^10=1024 by decide];exact hk)).mono (by lia)
theorem de.cm{a:Rat}(h:de a b xs)(hg:cH a b xs i+216<=20+216*xs.length)(hi:i<=1024):Cm 3500 (aG a b xs i::aj a b xs i):=h.kW (i:=0) (k:=i) (by rw[Nat.zero_add];exact hg) hi
theorem de.KY{a:Rat}(h:de a b xs)(h1:1<=i)(c:Cm 3500 (aG a b xs i::aj a b xs i)):fP a b (aj a b xs i) :=
 ⟨h.ok,by rw[bS];exact h.h1,by rw[bS];have:=h.h6;lia,h.hp.at h.ok.a0 h.ok.b0 i,h.hp.zero h.ok.a0 h.ok.b0 h.h1 h1,(lY c λy hy=>wu _ hy).mono (by decide)⟩
theorem de.nf{a:Rat}(h:de a b xs)(i:Nat):1<=(ar (aj a b xs i)).length/\(ar (aj a b xs i)).length<=6:=by
 have:=lX (aj a b xs i);rw[bS]at this;have h6:=h.h6;exact⟨Ay (by rw[bS];exact h.h1),by lia⟩
theorem de.nl{a:Rat}(i:Nat):(ar (aj a b xs i)).length<=xs.length:=by
 have:=lX (aj a b xs i);rw[bS]at this;exact this
theorem de.one{a:Rat}(h:de a b xs):lV a b xs 1:=by
 have h6:=h.h6;have h1:=h.h1;have:=uJ h.ok.a0 h.ok.b0 h.h1 h.hp 1;have:=(h.nf 1).2;have:=de.nl (a:=a) (b:=b) (xs:=xs) 1;exact⟨by lia,by lia⟩
theorem de.within{a:Rat}(h:de a b xs){t:Nat}(i1:1<=i)(sp:lV a b xs i)(n2:2<=(ar (aj a b xs i)).length)(R:iO a b (aj a b xs i) r g)(ht:t<=g):cH a b xs (i+(r*(ar (aj a b xs i)).length+t))+216<=20+216*xs.length/\i+(r*(ar (aj a b xs i)).length+t)<=1024/\cH a b xs (i+(r*(ar (aj a b xs i)).length+t))<=cH a b xs i+216/\r*(ar (aj a b xs i)).length+t<=186:=by
 have h6:=h.h6;have nf:=(h.nf i).2;have hl:=bS a b xs i;have g1:=R.cH h.ok (by rw[hl];exact h.h1) (h.hp.at h.ok.a0 h.ok.b0 i) (h.hp.zero h.ok.a0 h.ok.b0 h.h1 i1) ht;rw[hl]at g1
 have g2:30*xs.length+xs.length*xs.length<=216:=by
  have:xs.length*xs.length<=6*6:=V4 h6 h6;lia
 have g3:r*(ar (aj a b xs i)).length<=30*6:=V4 R.jj nf;have g4:=R.gN;obtain⟨s1,s2⟩:=sp;rw[oC];exact⟨by lia,by lia,by lia,by lia⟩
theorem de.next{a:Rat}(h:de a b xs)(i1:1<=i)(sp:lV a b xs i)(n2:2<=(ar (aj a b xs i)).length)(R:iO a b (aj a b xs i) r g):lV a b xs (dG a b xs i r g):=by
 obtain⟨_,_,w1,w2⟩:=h.within i1 sp n2 R (wn g);have f:=R.KL h.ok (by rw[bS];exact h.h1) (h.hp.at h.ok.a0 h.ok.b0 i);rw[eQ]at f;obtain⟨s1,s2⟩:=sp;unfold lV dG;exact⟨by lia,by lia⟩
theorem SJ{a:Rat}(h:fv a b xs=none)(h1:1<=(ar xs).length):2<=(ar xs).length:=by
 unfold fv at h
 split at h
 ·cases h
 ·lia
def rT(a b:Rat)(xs:List Rat):Prop:=∃es i,gK a b xs 0 es i/\1<=i/\fv a b (aj a b xs i)=none /\ ∀k,k<=30->cU a b (bY (aj a b xs i)) (cz (aj a b xs i)) k=true
def ES(K:wa)(a:Ad):Sp:=λvs H Q E=>∃x0,vs=[x0] /\ ∃(ra rb:Rat)(xs:List Rat),Is K H x0 (bL ra rb xs)/\de ra rb xs /\
 (rT ra rb xs->∀H',ag H H'->E (.ref a.ic) none H') /\ ∀l H' es n w us,jM ra rb xs es n w->H l=none->ag H H'->H' l=some (.lst us)->ai K H' us (cf ra rb xs es n w)->Q (.ref l) H'
theorem zrA(h:Is K H v (bL ra rb xs))(ok:de ra rb xs)(qe:rT ra rb xs->∀H',ag H H'->E (.ref a.ic) none H')(q:∀l H' es n w us,jM ra rb xs es n w->H l=none->ag H H'->H' l=some (.lst us)->ai K H' us (cf ra rb xs es n w)->Q (.ref l) H'):ES K a [v] H Q E:=⟨_,rfl,ra,rb,xs,h,ok,qe,q⟩
theorem zsV(T:Txt K mg a):aI P w K mg base (fU P w) 13 a.JP a.IL yw (ES K a):=by
 refine T.tP.F.yp mW ?_ ?_;wtm_at "b1"
 refine⟨_,(av (aA 1 mW.nd (d4 (ae (bC (by exact(@ae _ _ _ _ _ (cB (v:=.ref a.dy) rfl T.ee rfl) (@ae _ _ _ _ _ (au (pv 0)) (@ae _ _ _ _ _ ao (@ae _ _ _ _ _ ao af aY) aY) gJ) bX))) af)))
     (av (aA 2 mW.nd fB)
     (av (oQ Xe (cw sV (pv 2) fB (bN _)) (av (aA 3 mW.nd (c9 cJ (pv 1) (fE fC ao) (λ_ _=>rfl)))
     (av (aA 4 mW.nd (ak (Lm T) hr T.A1 (ae (bC (ae (au (pv 0)) (ae (au (pv 3)) af))) (ae (au (pv 3)) (ae (au (pv 3)) af)))))
     (av (aA 5 mW.nd (ak (hW T) hr T.gr (ae (au (pv 3)) (ae (au (pv 4)) af))))
     (av (aA 2 mW.nd (ak (Ub T) hr T.Bf (ae (au (pv 4)) af)))
     (ay (ki (jZ vP vM vN jC (pv 1) (ae (pz (cw sV (pv 2) fB (bN _)) (pH (zrW T) hr T.Jn CY (ae (pv 5) (ae (au (pv 4)) af))) (bC (ae (pv 5) (ae (au (au (pv 4))) (ae (pv 2) af))))) af)))))))))
     (ay (aC (pv 1)))))),?_⟩
 wtm_at "cl";rw[show start Yk [x0]=[some x0,none,none,none,none,none]from rfl];obtain⟨ra,rb,xs,hw,ok,qe,q⟩:=h;o_head az (j:=1) hw rfl (λv1 i1=>?_);o_head bW (ds:=[N 0,TN xs,.int 0,.int 1]) (by simp) (.cons (eS 0 (T.fq _) rfl rfl) (.cons i1 (.cons (aJ.mpr rfl) (.cons (aJ.mpr rfl) .nil)))) (λv2 H2 S2 i2=>?_);o_head cS (by simp) (λlr H3 n3 S3 e3=>?_);have hlr:H lr=none:=iU S2 n3;k_few
 refine uC (λm σ' H'=>∃(us:List V)(es:List (Nat × Nat × Nat))(vw:V)(o3 o4 o5:Option V),σ'=[some x0,some (.ref lr),some vw,o3,o4,o5]/\ag H H'/\H' lr=some (.lst us) /\
   ((vw=.bG /\ ∃i r g,gK ra rb xs 0 es i/\F5 ra rb xs i r g/\ai K H' us ((es++[(i,r,g)]).map (jy ra rb xs))/\(1<=i->lV ra rb xs i)/\es.length+(ar (aj ra rb xs (dG ra rb xs i r g))).length<=6/\m=(ar (aj ra rb xs (dG ra rb xs i r g))).length) \/
     ∃n w,vw=.str (wC w)/\jM ra rb xs es n w/\ai K H' us (cf ra rb xs es n w)/\m=0)) _ ⟨[v2],[],.bG,_,_,_,rfl,S2.trans S3,e3,.inl ⟨rfl,0,0,1,rfl,.inl ⟨rfl,rfl,rfl⟩,.cons (i2.by S3) .nil,λh=>by lia,by have:=(ok.nf (dG ra rb xs 0 0 1)).2;simpa using this,rfl⟩⟩ ?_
 rintro m σ' H4 ⟨us,es,vw,o3,o4,o5,rfl,S4,e4,C⟩;rcases C with⟨rfl,i,r,g,wk,ro,t4,sp,bM,rfl⟩ | ⟨n,w',rfl,P,t4,rfl⟩
 . have hN:=(ok.nf i).2
   have h6:=ok.h6;have h1L:=ok.h1
   have facts:g<=40/\(1<=r->fP ra rb (aj ra rb xs i)/\r<=30/\gn ra rb (aj ra rb xs i) r)/\cH ra rb xs (dG ra rb xs i r g)+216<=20+216*xs.length/\dG ra rb xs i r g<=1024/\cH ra rb xs i+216<=20+216*xs.length/\i<=1024/\(∀t,t<=g->cH ra rb xs (i+(r*(ar (aj ra rb xs i)).length+t))+216<=20+216*xs.length)/\lV ra rb xs (dG ra rb xs i r g)/\r<=30:=by
     rcases ro with⟨rfl,rfl,rfl⟩ | ⟨i1,hno,R⟩
     . have e:dG ra rb xs 0 0 1=1:=by unfold dG;lia
       have h2:=uJ ok.ok.a0 ok.ok.b0 ok.h1 ok.hp;refine⟨by lia,λz=>by lia,by rw[e];have:=h2 1;lia,by lia,by have:=h2 0;lia,by lia,λt ht=>?_,by rw[e];exact ok.one,by lia⟩;have h3:=h2 (0+(0*(ar (aj ra rb xs 0)).length+t));have h4:(0+(0*(ar (aj ra rb xs 0)).length+t))*xs.length<=1*6:=V4 (by lia) h6;lia
     . have n2:=SJ hno (ok.nf i).1
       have sp:=sp i1;have w:=λ{t:Nat}(ht:t<=g)=>ok.within i1 sp n2 R ht
       have w0:=w (wn g);have g4:=R.gN;have si:=sp.1;have si2:=sp.2;have c:Cm 3500 (aG ra rb xs i::aj ra rb xs i):=ok.cm (by lia) (by lia);exact⟨by lia,λ_=>⟨ok.KY i1 c,R.jj,R.free⟩,w0.1,w0.2.1,by lia,by lia,λt ht=>(w ht).1,ok.next i1 sp n2 R,R.jj⟩
   obtain⟨g40,fr,gl,nl,gi,ni,gw,sl,jj⟩:=facts;have cI:=ok.cm gi ni;have cL:=ok.cm gl nl
   have n1:1<=dG ra rb xs i r g:=by
     unfold dG;rcases ro with⟨rfl,rfl,rfl⟩ | ⟨i1,hno,R⟩
     . lia
     . lia
   have swL:=ok.KY n1 cL;have hrN:r*(ar (aj ra rb xs i)).length<=30*6:=V4 jj hN;have hul:=t4.length;rw[wl,wy,wL]at hul;have hnf:=(ok.nf (dG ra rb xs i r g)).1;o_head z8 ?_;k_few
   have il:Is K H4 (.ref lr) (.list (es.map (jy ra rb xs)++[jy ra rb xs (i,r,g)])):=by
     rw[vF]at t4;exact cu.mpr ⟨lr,us,rfl,.of e4,t4⟩
   refine nv il (λv5 i5=>?_);have i5:Is K H4 v5 (jK (aG ra rb xs i) (aj ra rb xs i) r g):=i5;have hw4:=hw.by S4;o_head az (j:=0) hw4 rfl (λv6 i6=>?_);o_head az (j:=1) i5 rfl (λv7 i7=>?_);o_head bW (ds:=[R ra rb,TN (aj ra rb xs i)]) (by simp) (.cons i6 (.cons i7 .nil)) (λv8 H8 S8 i8=>?_);have i58:=i5.by S8;o_head az (j:=2) i58 rfl (λv9 i9=>?_);rw[aJ.mp i9];o_head az (j:=3) i58 rfl (λv10 i10=>?_);rw[aJ.mp i10];k_few;have bH:ah 8000 (aG ra rb (aj ra rb xs i) (r*(ar (aj ra rb xs i)).length)):=((ok.kW (i:=i) (k:=r*(ar (aj ra rb xs i)).length) (by have:=gw 0 (by lia);rw[Nat.add_zero]at this;exact this) (by lia)).dQ (wB ..)).mono (by decide)
   have cG:∀t,t<=g->Cm 3700 (aG ra rb (aj ra rb (aj ra rb xs i) (r*(ar (aj ra rb xs i)).length)) t::aj ra rb (aj ra rb (aj ra rb xs i) (r*(ar (aj ra rb xs i)).length)) t):=λt ht=>by
     rw[eQ ra rb xs];exact(ok.kW (i:=i+r*(ar (aj ra rb xs i)).length) (k:=t) (by have:=gw t ht;rw[<- VH]at this;exact this) (by lia)).mono (by decide)
   refine Sg (show Is K H8 v8 (bL ra rb (aj ra rb xs i))from i8) ok.ok (by rw[bS];exact ok.h1) (by rw[bS];lia) fr g40 bH cG (λv11 H11 S11 i11=>?_);have i11:Is K H11 v11 (.tuple [N (aG ra rb (aj ra rb xs i) (r*(ar (aj ra rb xs i)).length+g)),bL ra rb (aj ra rb (aj ra rb xs i) (r*(ar (aj ra rb xs i)).length+g))]):=i11;rw[eQ]at i11;have i11:Is K H11 v11 (.tuple [N (aG ra rb (aj ra rb xs i) (r*(ar (aj ra rb xs i)).length+g)),bL ra rb (aj ra rb xs (dG ra rb xs i r g))]):=i11;have i511:=i58.by S11;have bI:ah 3500 (aG ra rb xs i):=cI.dQ (wB ..);have bJ:ah 3500 (aG ra rb (aj ra rb xs i) (r*(ar (aj ra rb xs i)).length+g)):=(ok.kW (i:=i) (k:=r*(ar (aj ra rb xs i)).length+g) gl (by lia)).dQ (wB ..);o_head az (j:=0) i511 rfl (λv12 i12=>?_);o_head az (j:=0) i11 rfl (λv13 i13=>?_);k_few;rename_i v14 H14 S14 i14;rw[ma]at i14;have i14:Is K H14 v14 (N (aG ra rb xs (dG ra rb xs i r g))):=i14;have i1114:=i11.by S14;refine az (j:=1) i1114 rfl (λv15 i15=>?_);have i15:Is K H14 v15 (bL ra rb (aj ra rb xs (dG ra rb xs i r g))):=i15;o_head Mn i15 swL (λH16 S16=>?_);have S816:=S8.trans (S11.trans (S14.trans S16));have e16:=S816 _ _ e4;have t16:ai K H16 us ((es++[(i,r,g)]).map (jy ra rb xs)):=ai.same S816 _ _ t4;have S416:=S4.trans S816;have i1116:=i1114.by S16;have i1416:=i14.by S16;have i1516:=i15.by S16;have wk':=wk.snoc ro;generalize hlead:dG ra rb xs i r g=n at *;cases hwd:fv ra rb (aj ra rb xs n)with
   | none =>
     show jk 2 V.bG _ _ _
     o_head jA (aP.of e16) ?_;o_head az (j:=1) i1116 rfl (λv17 i17=>?_);k_few;have n2:=SJ hwd hnf;refine ZZ i1416 (show Is K H16 v17 (bL ra rb (aj ra rb xs n))from i17) swL hwd (λr' g' t R ht=>?_) (λz H' S=>qe ⟨_,n,wk',n1,hwd,z⟩ H' (S416.trans S)) (λr' g' v18 H18 R S18 i18=>?_)
     . have w:=ok.within n1 sl n2 R ht
       rw[eQ];exact(lY (ok.cm w.1 w.2.1) λy hy=>wu _ hy).mono (by decide)
     . k_few
       have e18:=S18 _ _ e16;refine jG e18 (by lia) (λH19 E19 e19=>?_);have K19:=E19.keep e18;have fw:=R.KL ok.ok (by rw[bS];exact ok.h1) (ok.hp.at ok.ok.a0 ok.ok.b0 n);rw[eQ]at fw;have fw:(ar (aj ra rb xs (dG ra rb xs n r' g'))).length<(ar (aj ra rb xs n)).length:=fw;o_head ⟨_,fw,us++[v18],es++[(i,r,g)],.bG,_,_,_,rfl,(S416.trans S18).grow hlr E19,e19,.inl ⟨rfl,n,r',g',wk',.inr ⟨n1,hwd,R⟩,?_,λ_=>sl,?_,rfl⟩⟩
       . rw[vF]
         exact(ai.keep K19 _ _ (tH _ (λe=>EU _ _ _ _) _) (ai.same S18 _ _ t16)).append (.cons (i18.di K19 (EU _ _ _ _)) .nil)
       . rw[wy,wL]
         lia
   | some wd =>
     show jk 2 (V.str (wC wd)) _ _ _
     o_head jA (aP.of e16) ?_;k_few
     . rename_i z;cases z
     . refine az (j:=1) i1116 rfl (λv17 i17=>?_)
       o_head az (j:=1) i17 rfl (λv18 i18=>?_);o_head bW (ds:=[N (aG ra rb xs n),TN (aj ra rb xs n),.str (wC wd)]) (by simp) (.cons i1416 (.cons i18 (.cons (cW.mpr rfl) .nil))) (λv19 H19 S19 i19=>?_);k_few;have e19:=S19 _ _ e16;refine jG e19 (by lia) (λH20 E20 e20=>?_);have K20:=E20.keep e19;o_head ⟨0,by lia,us++[v19],es++[(i,r,g)],_,_,_,_,rfl,(S416.trans S19).grow hlr E20,e20,.inr ⟨n,wd,rfl,⟨wk',by simp,by rw[wy,wL];lia,n1,hwd,sl⟩,?_,rfl⟩⟩;exact(ai.keep K20 _ _ (tH _ (λe=>EU _ _ _ _) _) (ai.same S19 _ _ t16)).append (.cons (i19.di K20 (Zv _ _ _ _ _)) .nil)
 . k_few
   . rename_i z;cases z
   . exact q lr H4 es n w' us P hlr S4 e4 t4
def Mo(K:wa):Sp:=λvs H Q _=>∃x0 x1,vs=[x0,x1] /\ ∃(a:wf)(ns:List Int)(k:Int),x0=.ref a/\x1=.int k/\gY K H a (ns.map V.int)/\ns.length<=63/\0<=k/\k<=1000 /\ ∀c:Int,Q (.int c) H
theorem zsZ{a:wf}{k:Int}(h:gY K H a (ns.map V.int))(hl:ns.length<=63)(h0:0<=k)(h1:k<=1000)(q:∀c:Int,Q (.int c) H):Mo K [.ref a,.int k] H Q E:=⟨_,_,rfl,a,ns,k,rfl,rfl,h,hl,h0,h1,q⟩
theorem ztA(T:Txt K mg a):aI P w K mg base aU 1 a.JW a.IE uO (Mo K):=by
 refine T.Jf.F.ok ztD ?_ ?_;wtm_at "b2"
 refine⟨_,(av (cg (cw pB (pv 1) (bQ (show aN _ (.builtin "len") (cO K)from dH) rfl T.h0o dM (ae (pv 0) af)) (bN _)) (ay (aC (bQ mZ rfl T.h0q mT (ae (c9 cJ (pv 0) (pv 1) (λ_ _=>rfl)) af)))) ck)
     (av (cg (cw (show aM _ (compareOp .Eq) (cR K)from dF hu) (bQ (show aN _ (.builtin "len") (cO K)from dH) rfl T.h0o dM (ae (pv 0) af)) ao (bN _)) (ay (aC (aB cv (aB cV ao (pv 1)) ao))) ck)
     (ay (aC (aB cv (aB iB (bQ mZ rfl T.h0q mT (ae (c9 cJ (pv 0) (aB iB (pv 1) (bQ (show aN _ (.builtin "len") (cO K)from dH) rfl T.h0o dM (ae (pv 0) af))) (λ_ _=>rfl)) af)) (uP (v:=100000000000000000) ⟨by decide,by decide,by decide⟩ (by decide +kernel))) (aB cV ao (pv 1))))))),?_⟩
 wtm_at "cl";rw[show start BJ [x0,x1]=[some x0,some x1]from rfl];obtain⟨a',ns,k,rfl,rfl,hs,hl,h0,h1,q⟩:=h;o_head gv hs.sq ?_;k_few
 . refine Lh hs h0 (by assumption) (λz=>?_)
   k_few;exact q _
 . refine gv hs.sq ?_
   k_few
   . exact q _
   . refine gv hs.sq ?_
     o_head Lh hs (qR _ (by lia)) (qz _ (by lia)) (λz=>?_);k_few;exact q _
def cq(H:Hp)(p:wf)(k:Int):Prop:=∃(a:Int)(b:Bool)(n:Int),H p=some (.lst [.int a,.bl b,.int n])/\0<=n/\n<=k
theorem cq.same{H':Hp}{k:Int}(s:ag H H')(h:cq H p k):cq H' p k:=by
 obtain⟨x,y,n,e,h1,h2⟩:=h;exact⟨x,y,n,s _ _ e,h1,h2⟩
theorem cq.le{j k:Int}(h:cq H p j)(e:j<=k):cq H p k:=by
 obtain⟨x,y,n,z,h1,h2⟩:=h;exact⟨x,y,n,z,h1,Int.le_trans h2 e⟩
theorem cq.ne{q:wf}{k:Int}(e:H q=none)(h:cq H p k):q≠p:=by
 obtain⟨x,y,n,z,_⟩:=h;exact(kD z e).symm
def NG(K:wa):Sp:=λvs H Q _=>∃x0 x1,vs=[x0,x1] /\ ∃(a:wf)(ns:List Int)(k:Int),x0=.ref a/\x1=.int k/\gY K H a (ns.map V.int)/\ns.length<=63/\0<=k/\k<=1000 /\
 ∀p H',H p=none->ag H H'->cq H' p 0->Q (.ref p) H'
theorem rh{a:wf}{k:Int}(h:gY K H a (ns.map V.int))(hl:ns.length<=63)(h0:0<=k)(h1:k<=1000)
  (q:∀p H',H p=none->ag H H'->cq H' p 0->Q (.ref p) H'):NG K [.ref a,.int k] H Q E:=⟨_,_,rfl,a,ns,k,rfl,rfl,h,hl,h0,h1,q⟩
local macro_rules | `(tactic| wtm_at "pen")=>`(tactic| first
 | assumption
 | (apply cq.same;(focus assumption);wtm_at "pen"))
local macro_rules | `(tactic| wtm_at "ne")=>`(tactic| ((with_reducible apply cq.ne); (focus assumption); wtm_at "pen"))
local macro_rules | `(tactic| wtm_at "penle")=>`(tactic| exact cq.le (by wtm_at "pen") (by lia))
theorem sC(T:Txt K mg a):aI P w K mg base aU 2 a.Kf a.Jb uX (NG K):=by
 refine T.nR.F.ok So ?_ ?_;wtm_at "b2"
 refine⟨_,(av (aA 2 So.nd (ak (ztA T) hr T.Jf (ae (pv 0) (ae (pv 1) af))))
     (ay (aC (d4 (ae (pv 2) (ae (fj FR (pv 2) (uP (v:=1000000000000000000) ⟨by decide,by decide,by decide⟩ (by decide +kernel)) (bN _)) (ae ao af))))))),?_⟩
 wtm_at "cl";rw[show start Ym [x0,x1]=[some x0,some x1,none]from rfl];obtain⟨a',ns,k,rfl,rfl,hs,hl,h0,h1,q⟩:=h;o_head zsZ hs hl h0 h1 (λc=>?_);k_few;exact cS (by show 3<=1000;decide) λp H' hp s e=>q p H' hp s ⟨_,_,0,e,by decide,by decide⟩
def Sf(K:wa):Sp:=λvs H Q _=>∃x0 x1,vs=[x0,x1] /\ ∃(p:wf)(k m:Int),x0=.ref p/\x1=.int m/\cq H p k/\k<=1000000/\0<m/\Bd 8999 m /\
 ∀(r:Int)(H':Hp),0<=r->r<m->Exc p H H'->bE H H'->cq H' p (k+1)->Q (.int r) H'
theorem zs2{k m:Int}(h:cq H p k)(hk:k<=1000000)(hm:0<m)(hb:Bd 8999 m)
  (q:∀(r:Int)(H':Hp),0<=r->r<m->Exc p H H'->bE H H'->cq H' p (k+1)->Q (.int r) H'):Sf K [.ref p,.int m] H Q E:=⟨_,_,rfl,p,k,m,rfl,rfl,h,hk,hm,hb,q⟩
local macro_rules | `(tactic| wtm_at "gs")=>`(tactic| ((with_reducible apply zs2); (focus wtm_at "pen"); (focus lia); (focus lia); (focus wtm_at "bd128"); intro _ _ _ _ _ _ _))
theorem eI(T:Txt K mg a):aI P w K mg base aU 1 a.J1 a.Io zO (Sf K):=by
 refine T.d8.F.ok yQ ?_ ?_;wtm_at "b2"
 refine⟨_,(av (sE (aB cv (au (pv 0)) ao) (rM (pv 0) ao rR))
     (av (cg (cE (au (pv 0))) (av (aA 2 yQ.nd (aB iB (au (pv 0)) (pv 1)))
     (av (sE (aB fN (au (pv 0)) (pv 1)) (rM (pv 0) ao rR))
     (ay (aC (pv 2))))) ck)
     (av (aA 3 yQ.nd (aB iB (aB cV (aB cv (aB iB (au (pv 0)) ao) ao) (aB cv ao (aB cV (au (pv 0)) (au (pv 0))))) ao))
     (av (aA 3 yQ.nd (aB iB (aB cV (pv 3) (aB cv (pv 3) (aB cV ao (au (pv 0))))) ao))
     (ay (aC (aB iB (aB fN (aB iB (aB cV (pv 3) (aB cv (aB fN (pv 3) ao) ao)) ao) ao) (pv 1)))))))),?_⟩
 wtm_at "cl";rw[show start OO [x0,x1]=[some x0,some x1,none,none]from rfl];obtain⟨p,k,m,rfl,rfl,⟨x,y,n,hp,hn0,hn1⟩,hk,hm,hbm,q⟩:=h;k_few
 all_goals
   exact q _ _ (qR _ (by lia)) (qz _ hm) (by wtm_at "exc") (Exc.keep (p:=p) (by wtm_at "exc") hp) ⟨_,_,_,by assumption,by lia,by lia⟩
def FD(K:wa):Sp:=λvs H Q _=>∃x0 x1,vs=[x0,x1] /\ ∃(t b:Int),x0=.int t/\x1=.int b/\0<b/\Bd 8999 b /\ ∀v H',ag H H'->Is K H' v (N (wr t b))->Q v H'
theorem oB{b:Int}(hb:0<b)(hB:Bd 8999 b)(q:∀v H',ag H H'->Is K H' v (N (wr t b))->Q v H'):FD K [.int t,.int b] H Q E:=⟨_,_,rfl,t,b,rfl,rfl,hb,hB,q⟩
theorem ZH{b:Int}(hb:0<b)(h1 : -100000000000000000000000000000000000000<=t)(h2:t<=100000000000000000000000000000000000000)(h3 : -100000000000000000000000000000000000000<=b)(h4:b<=100000000000000000000000000000000000000)
  (q:∀v H' (x:Rat),ag H H'->Is K H' v (N x)->x=wr t b->ah 128 x->Q v H'):FD K [.int t,.int b] H Q E :=
 oB hb ((Bd.k9 h3 h4).mono (by decide)) λv H' s h=>q v H' _ s h rfl (ah.divInt (show b≠0 by lia) (Bd.k9 h1 h2) (Bd.k9 h3 h4))
local macro_rules | `(tactic| wtm_at "gs")=>`(tactic| ((with_reducible apply ZH); (focus lia); (focus lia); (focus lia); (focus lia); (focus lia); intro _ _ _ _ _ _ _))
theorem gZ(T:Txt K mg a):aI P w K mg base aU 1 a.Kv a.I0 AJ (FD K):=by
 refine T.gq.F.ok yr ?_ ?_;wtm_at "b2"
 refine⟨_,(av (aA 2 yr.nd (bQ mZ rfl T.h0q mT (ae (pv 0) af)))
     (av (aA 3 yr.nd (pv 1))
     (av (oQ vd (cw oF (pv 3) ao (bN _)) (ay (zCI (i:=2) (j:=3) rfl yr.nd rfl rfl (by decide) rfl rfl (ae (pv 3) (ae (aB iB (pv 2) (pv 3)) af)) rfl)))
     (ay (aC (bC (ae (aB fN (pv 0) (pv 2)) (ae (aB fN (pv 1) (pv 2)) af)))))))),?_⟩
 wtm_at "cl";rw[show start Ou [x0,x1]=[some x0,some x1,none,none]from rfl];obtain⟨t,b,rfl,rfl,hp,hB,q⟩:=h;have hb:b≠0:=by lia
 o_head Rb (λσ H'=>∃(x y:Int),σ = [some (.int t),some (.int b),some (.int x),some (.int y)]/\0<=x/\0<=y/\vj x y=vj t b/\H'=H) (λσ=>(LY σ 3).toNat) ⟨_,_,rfl,by split<;>lia,by lia,u0 t b,rfl⟩ ?_;rintro σ H' ⟨x,y,rfl,hx,hy,hg,rfl⟩
 have hgb:Bd 8999 ((vj t b:Nat):Int):=hB.le (by
   have:vj t b ∣ b.natAbs:=Int.gcd_dvd_natAbs_right t b;have:=X9 (by lia) this
   simpa using this)
 k_few
 . refine Tx ?_
   k_few;have h1:=qR x (show y≠0 by lia);have h2:=qz x (show 0<y by lia);refine⟨?_,_,_,rfl,hy,h1,?_,rfl⟩
   . show(x % y).toNat<y.toNat
     lia
   . rw[<- hg];exact U6 (by lia) hx
 . rename_i h0
   have e0:y=0:=by lia
   subst e0
   have e:x=((vj t b:Nat):Int):=by
     rw[<- hg,xQ];lia
   have e1:x=dv t b:=by unfold dv;rw[if_neg (by lia),<- e]
   rw[e1];have hd:pe t (dv t b):=⟨Nj hb,by unfold dv;rw[if_neg (by lia)];exact hgb⟩;refine tm hd ?_;k_few;exact eY (PD hb) (zCv hb) q
theorem Ap{w z n d:Int}(hw:1<=w)(hw8:w<=8)(hz:w<z)(hz4:z<=4*w)(hn:0<=n)(hd:1<=d)(hnd:n<=d)(hd12:d<=12):aZ (wr z w) (wr n d):=by
 obtain⟨a1,a2,a3⟩:=Sr (x:=wr z w) rfl hw hw8 (by lia) hz4;obtain⟨b1,b2,b3⟩:=Eh (y:=wr n d) rfl hd hd12 hn hnd
 have h1:(1:Rat)<wr z w:=by
  have:=c8 z (show w≠0 by lia);refine Rat.not_le.mp λk=>?_
  have h2:=qT k (vU (ng (show 0<w by lia)));rw[this,QZ]at h2;have:=W6.mp h2;lia
 exact⟨a1,a2,a3,b1,b2,b3,by grind⟩
theorem SQ{n d:Int}(hn:0<=n)(hd:1<=d)(hnd:n<=d)(hd12:d<=12):aZ 1 (wr n d):=by
 obtain⟨b1,b2,b3⟩:=Eh (y:=wr n d) rfl hd hd12 hn hnd;exact⟨by decide,by decide,by decide,b1,b2,b3,by grind⟩
theorem AK{w n d:Int}(hw:2<=w)(hw8:w<=8)(ht:1<=t)(htw:t<w)(hn:0<=n)(hd:1<=d)(hnd:n<=d)(hd12:d<=12)(h:(w-t)*d<=n*w):aZ (wr t w) (wr n d):=by
 obtain⟨a1,a2,a3⟩:=Sr (x:=wr t w) rfl (by lia) hw8 ht (by lia);obtain⟨b1,b2,b3⟩:=Eh (y:=wr n d) rfl hd hd12 hn hnd;refine⟨a1,a2,a3,b1,b2,b3,?_⟩;have e1:=c8 t (show w≠0 by lia);have e2:=c8 n (show d≠0 by lia);have pw:(0:Rat)<(w:Rat):=ng (show 0<w by lia);have pd:(0:Rat)<(d:Rat):=ng (show 0<d by lia);refine Vp.mp λk=>?_
 have k1:=Rat.mul_lt_mul_of_pos_right k (VQ pw pd)
 have e3:(wr t w+wr n d)*((w:Rat)*(d:Rat))=(t:Rat)*(d:Rat)+(n:Rat)*(w:Rat):=by
  rw[<- e1,<- e2];grind
 rw[e3,QZ]at k1
 have k2:((t*d+n*w:Int):Rat)<((w*d:Int):Rat):=by
  rw[qi,vL,vL,vL];exact k1
 have k3:=Q0.mp k2;rw[Int.sub_mul]at h;lia
theorem MY{w d:Int}(hw:2<=w)(ht:1<=t)(htw:t<w)(hd:1<=d):1<=0-((t-w)*d).fdiv w/\0-((t-w)*d).fdiv w<=d/\(w-t)*d<=(0-((t-w)*d).fdiv w)*w:=by
 rw[Ve _ (by lia)];have e:(t-w)*d = -((w-t)*d):=by rw[<- Int.neg_mul];congr 1;lia
 have p:1<=(w-t)*d:=by
  have:=Int.mul_le_mul (show(1:Int)<=w-t by lia) hd (by lia) (by lia);lia
 have hle:(w-t)*d<=w*d:=Wu (by lia) (by lia);rw[e];generalize (w-t)*d=m at *;have h1:=XX (-m) (show w≠0 by lia);have h2:=Int.lt_ediv_add_one_mul_self (-m) (show 0<w by lia);generalize -m / w=q at *;have e2:(0-q)*w = -(q*w):=by rw[Int.sub_mul,Int.zero_mul];lia
 have e3:(q+1)*w=q*w+w:=by rw[Int.add_mul,QX]
 rw[e3]at h2;refine⟨?_,?_,by rw[e2];lia⟩
 ·refine Int.not_lt.mp λk=>?_
  have:0<=q*w:=X3 (by lia) (by lia);lia
 ·refine Int.not_lt.mp λk=>?_
  have:(q+1)*w<=(-d)*w:=Wu (by lia) (by lia);rw[e3,Int.neg_mul,Int.mul_comm d w]at this;lia
def Pm(K:wa):Sp:=λvs H Q _=>∃x0,vs=[x0] /\ ∃(p:wf)(k:Int),x0=.ref p/\cq H p k/\k<=1000 /\ ∀v H' (a b:Rat),Exc p H H'->bE H H'->cq H' p (k+8)->Is K H' v (R a b)->aZ a b->Q v H'
theorem zlq{k:Int}(h:cq H p k)(hk:k<=1000)(q:∀v H' (a b:Rat),Exc p H H'->bE H H'->cq H' p (k+8)->Is K H' v (R a b)->aZ a b->Q v H'):Pm K [.ref p] H Q E:=⟨_,rfl,p,k,rfl,h,hk,q⟩
theorem zkX(T:Txt K mg a):aI P w K mg base aU 2 a.Hh a.GI uZ (Pm K):=by
 refine T.GP.F.ok kJ ?_ ?_;wtm_at "b1"
 refine⟨_,(av (aA 1 kJ.nd (ak (eI T) hr T.d8 (ae (pv 0) (ae ao af))))
     (av (aA 2 kJ.nd (aB cv ao (ak (eI T) hr T.d8 (ae (pv 0) (ae ao af)))))
     (av (aA 3 kJ.nd (aB cv ao (ak (eI T) hr T.d8 (ae (pv 0) (ae ao af)))))
     (av (aA 4 kJ.nd (ak (eI T) hr T.d8 (ae (pv 0) (ae (aB cv (pv 3) ao) af))))
     (av (cg (cw (show aM _ (compareOp .Eq) (cR K)from dF hu) (ak (eI T) hr T.d8 (ae (pv 0) (ae ao af))) ao (bN _)) (ay (aA 4 kJ.nd (bQ (show aN _ (.builtin "min") EJ from Zr rfl) rfl T.h0r zCw (ae (pv 4) (ae ao af))))) ck)
     (av (cg (cw pB (pv 1) ao (bN _)) (ay (aC (bC (ae (ak (gZ T) hr T.gq (ae (aB cv (aB cv (pv 2) ao) (aB cV (pv 1) (ak (eI T) hr T.d8 (ae (pv 0) (ae (aB cV ao (pv 2)) af))))) (ae (pv 2) af))) (ae (ak (gZ T) hr T.gq (ae (pv 4) (ae (pv 3) af))) af))))) ck)
     (av (cg (cw (show aM _ (compareOp .Eq) (cR K)from dF hu) (pv 1) ao (bN _)) (ay (aC (bC (ae (bC (ae ao (ae ao af))) (ae (ak (gZ T) hr T.gq (ae (pv 4) (ae (pv 3) af))) af))))) ck)
     (av (aA 2 kJ.nd (aB cv ao (aB iB (pv 2) ao)))
     (av (aA 5 kJ.nd (aB cv ao (ak (eI T) hr T.d8 (ae (pv 0) (ae (aB jd (pv 2) ao) af)))))
     (av (cg (cw (show aM _ (compareOp .Eq) (cR K)from dF hu) (pv 1) ao (bN _)) (ay (aC (bC (ae (ak (gZ T) hr T.gq (ae (pv 5) (ae (pv 2) af))) (ae (ak (gZ T) hr T.gq (ae (aB jd (pv 2) (pv 5)) (ae (pv 2) af))) af))))) ck)
     (av (aA 6 kJ.nd (aB jd ao (aB fN (aB cV (aB jd (pv 5) (pv 2)) (pv 3)) (pv 2))))
     (ay (aC (bC (ae (ak (gZ T) hr T.gq (ae (pv 5) (ae (pv 2) af))) (ae (ak (gZ T) hr T.gq (ae (aB cv (pv 6) (ak (eI T) hr T.d8 (ae (pv 0) (ae (aB cv (aB jd (pv 3) (pv 6)) ao) af)))) (ae (pv 3) af))) af)))))))))))))))),?_⟩
 wtm_at "cl";rw[show start R7 [x0]=[some x0,none,none,none,none,none,none]from rfl];obtain⟨p,k,rfl,hp,hk,q⟩:=h;wtm_at "ga"
 . rename_i way H1 w0 w1 E1 K1 P1 bt H2 b0 b1 E2 K2 P2 dr H3 d0 d1 E3 K3 P3 mo H4 m0 m1 E4 K4 P4 tw H5 t0 t1 E5 K5 P5 z mn mn0 mn1 mn2 hw rr H6 r0 r1 E6 K6 P6
   have hw2:way=0\/way=1:=by lia
   rcases hw2 with rfl | rfl
   . wtm_at "ga"
     rename_i v7 H7 x7 S7 i7 e7 b7 v8 H8 x8 S8 i8 e8 b8 v9 H9 S9 i9;exact q _ _ x7 x8 (by wtm_at "exc") (by wtm_at "keep") (by wtm_at "penle") i9 (by rw[e7,e8];exact Ap (by lia) (by lia) (by lia) (by lia) (by lia) (by lia) (by lia) (by lia))
   . wtm_at "ga"
     rename_i v7 H7 x7 S7 i7 e7 b7 v8 H8 x8 S8 i8 e8 b8 v9 H9 S9 i9;exact q _ _ x7 x8 (by wtm_at "exc") (by wtm_at "keep") (by wtm_at "penle") i9 (by rw[e7,e8];exact Ap (by lia) (by lia) (by lia) (by lia) (by lia) (by lia) (by lia) (by lia))
 . rename_i way H1 w0 w1 E1 K1 P1 bt H2 b0 b1 E2 K2 P2 dr H3 d0 d1 E3 K3 P3 mo H4 m0 m1 E4 K4 P4 tw H5 t0 t1 E5 K5 P5 z mn mn0 mn1 mn2 hw hw2 v7 H7 S7 i7 v8 H8 x8 S8 i8 e8 b8 v9 H9 S9 i9
   exact q _ _ 1 x8 (by wtm_at "exc") (by wtm_at "keep") (by wtm_at "penle") i9 (by rw[e8];exact SQ (by lia) (by lia) (by lia) (by lia))
 . rename_i way H1 w0 w1 E1 K1 P1 bt H2 b0 b1 E2 K2 P2 dr H3 d0 d1 E3 K3 P3 mo H4 m0 m1 E4 K4 P4 tw H5 t0 t1 E5 K5 P5 z mn mn0 mn1 mn2 hw hw2 rr H6 r0 r1 E6 K6 P6 hw3 v7 H7 x7 S7 i7 e7 b7 v8 H8 x8 S8 i8 e8 b8 v9 H9 S9 i9
   exact q _ _ x7 x8 (by wtm_at "exc") (by wtm_at "keep") (by wtm_at "penle") i9 (by rw[e7,e8];exact AK (by lia) (by lia) (by lia) (by lia) (by lia) (by lia) (by lia) (by lia) (Int.le_refl _))
 . rename_i way H1 w0 w1 E1 K1 P1 bt H2 b0 b1 E2 K2 P2 dr H3 d0 d1 E3 K3 P3 mo H4 m0 m1 E4 K4 P4 tw H5 t0 t1 E5 K5 P5 z mn mn0 mn1 mn2 hw hw2 rr H6 r0 r1 E6 K6 P6 hw3
   have nd:=MY (t:=1+rr) (w:=2+(1+bt) % 7) (d:=1+dr) (by lia) (by lia) (by lia) (by lia);refine tm ⟨by lia,(Bd.k9 (by lia) (by lia)).mono (by decide)⟩ ?_;generalize ((1+rr-(2+(1+bt) % 7))*(1+dr)).fdiv (2+(1+bt) % 7)=fd at nd ⊢;obtain⟨n1,n2,n3⟩:=nd;wtm_at "ga";rename_i v7 H7 x7 S7 i7 e7 b7 s8 H8 s0 s1 E8 K8 P8 v9 H9 x9 S9 i9 e9 b9 v10 H10 S10 i10
   exact q _ _ x7 x9 (by wtm_at "exc") (by wtm_at "keep") (by wtm_at "penle") i10 (by
     rw[e7,e9];refine AK (by lia) (by lia) (by lia) (by lia) (by lia) (by lia) (by lia) (by lia) ?_;have:(0-fd)*(2+(1+bt) % 7)<=(0-fd+s8)*(2+(1+bt) % 7):=Wu (by lia) (by lia);lia)
 . rename_i way H1 w0 w1 E1 K1 P1 bt H2 b0 b1 E2 K2 P2 dr H3 d0 d1 E3 K3 P3 mo H4 m0 m1 E4 K4 P4 tw H5 t0 t1 E5 K5 P5 z hw rr H6 r0 r1 E6 K6 P6
   have hw2:way=0\/way=1:=by lia
   rcases hw2 with rfl | rfl
   . wtm_at "ga"
     rename_i v7 H7 x7 S7 i7 e7 b7 v8 H8 x8 S8 i8 e8 b8 v9 H9 S9 i9;exact q _ _ x7 x8 (by wtm_at "exc") (by wtm_at "keep") (by wtm_at "penle") i9 (by rw[e7,e8];exact Ap (by lia) (by lia) (by lia) (by lia) (by lia) (by lia) (by lia) (by lia))
   . wtm_at "ga"
     rename_i v7 H7 x7 S7 i7 e7 b7 v8 H8 x8 S8 i8 e8 b8 v9 H9 S9 i9;exact q _ _ x7 x8 (by wtm_at "exc") (by wtm_at "keep") (by wtm_at "penle") i9 (by rw[e7,e8];exact Ap (by lia) (by lia) (by lia) (by lia) (by lia) (by lia) (by lia) (by lia))
 . rename_i way H1 w0 w1 E1 K1 P1 bt H2 b0 b1 E2 K2 P2 dr H3 d0 d1 E3 K3 P3 mo H4 m0 m1 E4 K4 P4 tw H5 t0 t1 E5 K5 P5 z hw hw2 v7 H7 S7 i7 v8 H8 x8 S8 i8 e8 b8 v9 H9 S9 i9
   exact q _ _ 1 x8 (by wtm_at "exc") (by wtm_at "keep") (by wtm_at "penle") i9 (by rw[e8];exact SQ (by lia) (by lia) (by lia) (by lia))
 . rename_i way H1 w0 w1 E1 K1 P1 bt H2 b0 b1 E2 K2 P2 dr H3 d0 d1 E3 K3 P3 mo H4 m0 m1 E4 K4 P4 tw H5 t0 t1 E5 K5 P5 z hw hw2 rr H6 r0 r1 E6 K6 P6 hw3 v7 H7 x7 S7 i7 e7 b7 v8 H8 x8 S8 i8 e8 b8 v9 H9 S9 i9
   exact q _ _ x7 x8 (by wtm_at "exc") (by wtm_at "keep") (by wtm_at "penle") i9 (by rw[e7,e8];exact AK (by lia) (by lia) (by lia) (by lia) (by lia) (by lia) (by lia) (by lia) (Int.le_refl _))
 . rename_i way H1 w0 w1 E1 K1 P1 bt H2 b0 b1 E2 K2 P2 dr H3 d0 d1 E3 K3 P3 mo H4 m0 m1 E4 K4 P4 tw H5 t0 t1 E5 K5 P5 z hw hw2 rr H6 r0 r1 E6 K6 P6 hw3
   have nd:=MY (t:=1+rr) (w:=2+(1+bt) % 7) (d:=1+dr) (by lia) (by lia) (by lia) (by lia);refine tm ⟨by lia,(Bd.k9 (by lia) (by lia)).mono (by decide)⟩ ?_;generalize ((1+rr-(2+(1+bt) % 7))*(1+dr)).fdiv (2+(1+bt) % 7)=fd at nd ⊢;obtain⟨n1,n2,n3⟩:=nd;wtm_at "ga";rename_i v7 H7 x7 S7 i7 e7 b7 s8 H8 s0 s1 E8 K8 P8 v9 H9 x9 S9 i9 e9 b9 v10 H10 S10 i10
   exact q _ _ x7 x9 (by wtm_at "exc") (by wtm_at "keep") (by wtm_at "penle") i10 (by
     rw[e7,e9];refine AK (by lia) (by lia) (by lia) (by lia) (by lia) (by lia) (by lia) (by lia) ?_;have:(0-fd)*(2+(1+bt) % 7)<=(0-fd+s8)*(2+(1+bt) % 7):=Wu (by lia) (by lia);lia)
def Rx(K:wa):Sp:=λvs H Q _=>∃x0 x1,vs=[x0,x1] /\ ∃(p:wf)(k m:Int),x0=.ref p/\x1=.int m/\cq H p k/\k<=1000/\1<=m/\m<=8 /\ ∀(l:wf)(H':Hp)(us:List V)(xs:List Rat),H l=none->Exc p H H'->bE H H'->cq H' p (k+11)->H' l=some (.lst us)->ai K H' us (xs.map N)->1<=xs.length->(xs.length:Int)<=m->(∀x∈xs,fH x)->Q (.ref l) H'
theorem zjn{k m:Int}(h:cq H p k)(hk:k<=1000)(h1:1<=m)(h8:m<=8)(q:∀(l:wf)(H':Hp)(us:List V)(xs:List Rat),H l=none->Exc p H H'->bE H H'->cq H' p (k+11)->H' l=some (.lst us)->ai K H' us (xs.map N)->1<=xs.length->(xs.length:Int)<=m->(∀x∈xs,fH x)->Q (.ref l) H'):Rx K [.ref p,.int m] H Q E:=⟨_,_,rfl,p,k,m,rfl,rfl,h,hk,h1,h8,q⟩
theorem zjp(T:Txt K mg a):aI P w K mg base aU 2 a.GV a.GB AH (Rx K):=by
 refine T.GC.F.ok q_ ?_ ?_;wtm_at "b2"
 refine⟨_,(av (aA 2 q_.nd (aB cv ao (ak (eI T) hr T.d8 (ae (pv 0) (ae (pv 1) af)))))
     (av (aA 3 q_.nd (aB cv ao (ak (eI T) hr T.d8 (ae (pv 0) (ae ao af)))))
     (av (aA 4 q_.nd (c9 cJ (d4 (ae (pv 3) (ae (aB cv ao (aB fN (pv 3) ao)) af))) (ak (eI T) hr T.d8 (ae (pv 0) (ae ao af))) (λ_ _=>rfl)))
     (av (aA 5 q_.nd (aB fN (pv 3) (pv 4)))
     (ay (aC (dS rfl (cK.by (N':=["_law_k","_law_bottom","_law_apart","_law_pen_here","_law_few"]) (src:=[none,some 3,some 5,some 0,some 4]) rfl (by kernel_rfl)) (jo rfl T.h0j (ae (pv 2) af)) (λ_ _ _ _ _=>(bP (i:=0) (of_decide_eq_true (by kernel_rfl)) rfl (Or.inl rfl))) (λ_ _ _ _ _=>dw) (λ_ _ _ _ _=>(ak (gZ (K:=K) (mg:=mg) (a:=a) T) hr T.gq (ae (aB cV (ak (eI (K:=K) (mg:=mg) (a:=a) T) hr T.d8 (ae (pv 3) (ae (pv 4) af))) (pv 2)) (ae (pv 1) af))))))))))),?_⟩
 wtm_at "cl";rw[show start Mq [x0,x1]=[some x0,some x1,none,none,none,none]from rfl];obtain⟨p,k,m,rfl,rfl,hp,hk,h1,h8,q⟩:=h;wtm_at "ga";rename_i ra Ha ra0 ra1 Ea Ka Pa rb Hb rb0 rb1 Eb Kb Pb lc Hc nc Sc ec rd Hd rd0 rd1 Ed Kd Pd z hz;have E1:Exc p H Hd:=Ea.trans (Eb.trans (Sc.exc.trans Ed));have K1:bE H Hd:=Ka.trans (Kb.trans (Sc.keep.trans Kd));clear Ea Ka Pa Eb Kb Pb Sc ec nc Ed Kd hp;generalize hB:2+rb=B at *;have B2:2<=B/\B<=60:=by lia
 have hz1:1<=z/\z<=B:=by
   rcases hz with rfl | rfl
   . lia
   . rw[Ve _ (by decide)];lia
 refine tm ⟨by lia,(Bd.k9 (by lia) (by lia)).mono (by decide)⟩ ?_
 have ha:1<=B.fdiv z/\B.fdiv z*z<=B/\B.fdiv z<=B:=by
   rw[Ve _ (by lia)];refine⟨?_,XX _ (by lia),Xs _ (by lia)⟩;exact(Int.le_ediv_iff_mul_le (by lia)).mpr (by lia)
 generalize B.fdiv z=a at *;obtain⟨a1,a2,a3⟩:=ha;k_few;obtain⟨n,hn⟩:∃n:Nat,1+ra=(n:Int):=⟨(1+ra).toNat,by lia⟩;rw[hn];refine M7 (n:=(n:Int)) (by lia) (by lia) (λD i ys σ' H'=>(∃o,σ'=[o,some (.int B),some (.int a),some (.ref p),some (.int z)])/\Hd D=none/\D≠p/\Exc p Hd H'/\bE Hd H'/\cq H' p (k+1+1+1+(i:Int)) /\ ∃(us:List V)(xs:List Rat),H' D=some (.lst us)/\xs.length=i/\ai K H' us (xs.map N) /\ ∀x∈xs,fH x) ?_ ?_ ?_
 . intro D H' n s e
   exact⟨⟨_,rfl⟩,n,cq.ne n Pd,s.exc,s.keep,(Pd.same s).le (by lia),[],[],e,rfl,.nil,by simp⟩
 . rintro D i ys σ' H' hi ⟨⟨o,rfl⟩,hn',hne,hE,hK,hP,us,xs,hD,hl,ht,hm⟩
   k_few;rename_i r H6 r0 r1 E6 K6 P6;have t0:0<=r*a:=X3 r0 (by lia)
   have t1:r*a<B:=by
     have h1:(r+1)*a<=z*a:=Wu (by lia) (by lia);rw[Int.add_mul,QX]at h1;have h2:z*a=a*z:=Int.mul_comm _ _;lia
   generalize r*a=t at *;k_few;rename_i v7 H7 x7 S7 i7 e7 b7;have hul:=ht.length;simp only[wl]at hul;have hD7:=S7 _ _ (E6.at hne hD);have px:fH x7:=by rw[e7];exact MQ (by lia) (by lia) (by lia)
   refine nj hD7 (by lia) (λH8 E8 e8=>?_);have K8:bE H7 H8:=E8.keep hD7;refine⟨⟨_,rfl⟩,hn',hne,λb o hb h=>E8 b o (kD h hn') (S7 b o ((hE.trans E6) b o hb h)),(hK.trans K6).trans (S7.keep.trans K8),?_,us++[v7],xs++[x7],e8,by simp[hl],?_,?_⟩
   . obtain⟨x,y,z,e,h1,h2⟩:=P6
     exact⟨x,y,z,E8 p _ (Wr hne) (S7 _ _ e),h1,by lia⟩
   . rw[vF]
     exact(ai.keep (K6.trans (S7.keep.trans K8)) _ _ (gf _) ht).append (.cons (i7.gM K8) .nil)
   . intro y hy
     rcases vb.mp hy with h | h
     . exact hm y h
     . rw[wI.mp h];exact px
 . rintro D ys σ' H' ⟨_,hn',hne,hE,hK,hP,us,xs,hD,hl,ht,hm⟩
   rw[wS]at hl hP;k_few
   have hfr:H D=none:=by
     cases e:H D with
     | none=>rfl
     | some o=>rw[E1 D o hne e]at hn';cases hn'
   exact q D H' us xs hfr (E1.trans hE) (K1.trans hK) (hP.le (by lia)) hD ht (by lia) (by lia) hm
def BV(K:wa):Sp:=λvs H Q _=>∃x0,vs=[x0] /\ ∃(ra rb:Rat)(xs:List Rat),Is K H x0 (bL ra rb xs)/\de ra rb xs/\(rT ra rb xs->∀H',ag H H'->Q .bG H') /\ ∀l H' es n w us,jM ra rb xs es n w->H l=none->ag H H'->H' l=some (.lst us)->ai K H' us (cf ra rb xs es n w)->Q (.ref l) H'
theorem UZ(h:Is K H v (bL ra rb xs))(ok:de ra rb xs)(qe:rT ra rb xs->∀H',ag H H'->Q .bG H')(q:∀l H' es n w us,jM ra rb xs es n w->H l=none->ag H H'->H' l=some (.lst us)->ai K H' us (cf ra rb xs es n w)->Q (.ref l) H'):BV K [v] H Q E:=⟨_,rfl,ra,rb,xs,h,ok,qe,q⟩
theorem RK(T:Txt K mg a):aI P w K mg base aU 14 a.Jw a.HU Ab (BV K):=by
 refine T.A3.F.ok yj ?_ ?_;wtm_at "b1"
 refine⟨_,(av (aA 1 yj.nd fB)
     (av (zAL (tb:=λW=>mr (BK (ES K a) W (AO (uM 0) rV)) (jk 1)) (th:=mr (tC .bG) (jk 1)) rfl rfl rfl T.JO (λW pn E' hx=>by exact(ay (aA 1 yj.nd (zzF (zsV T) (hr.mono (by decide)) rfl T.tP.g T.tP.F.kp T.tP.b hx (ae (pv 0) af))))) (λpn ex oe=>by exact(ay (aA 1 yj.nd fB))))
     (ay (aC (pv 1))))),?_⟩
 wtm_at "cl";rw[show start UT [x0]=[some x0,none]from rfl];obtain⟨ra,rb,xs,hw,ok,qe,q⟩:=h;o_head zAG (λσ' C o H'=>σ'=[some x0,some .bG]/\C=.ref a.ic/\rT ra rb xs/\ag H H') ?_ ?_
 . k_few
   refine zrA hw ok (λF H' S=>⟨rfl,rfl,F,S⟩) (λl H' es n w us P hl S e t=>?_);k_few;exact q l H' es n w us P hl S e t
 . rintro σ' C o H' ⟨rfl,rfl,F,S⟩
   refine⟨T.YB,?_⟩;k_few;exact qe F H' S
def DV:V->Bool
 | .flt _=>false
 | .byt _=>false
 | _=>true
def sU(K:wa):R2:=λx y H Q=>cR K x y H Q \/ ∃(a b:wf)(us:List V),x=.ref a/\y=.ref b/\aP K H a us/\aP K H b us/\(∀u∈us,DV u=true)/\Q (.bl true) H
theorem Zx{A:PySem.Around}{s:PySem.Shared}{x:V}{v w:qK}(rx:bK x v)(ry:bK x w)(h:DV x=true):PySem.SeqAt.EqAt A s v w true:=by
 cases x with
 | bG=>cases (show v=qK.none from rx);cases (show w=qK.none from ry);exact V5 _
 | bl b=>cases (show v=qK.bool b from rx);cases (show w=qK.bool b from ry);exact V5 _
 | int n=>obtain⟨t,rfl⟩:=rx;obtain⟨u,rfl⟩:=ry;have:=ug (A:=A) (s:=s) n t n u;rw[beq_self_eq_true]at this;exact this
 | str n=>obtain⟨t,rfl⟩:=rx;obtain⟨u,rfl⟩:=ry;have:=uh (A:=A) (s:=s) n t n u;rw[beq_self_eq_true]at this;exact this
 | byt _=>cases h
 | flt _=>cases h
 | ref _=>cases rx;cases ry;exact V5 _
 | ty _=>cases rx;cases ry;exact V5 _
theorem Tc{us:List V}{its:List qK}(r:aW us its):∀(j:Nat)(h:j<its.length),∃u,u∈us/\us[j]? = some u/\bK u its[j]:=by
 induction r with
 | nil=>intro j h;exact absurd h (by simp)
 | @cons u v us vs h t ih =>
  intro j hj;cases j with
  | zero=>exact⟨u,wB ..,rfl,h⟩
  | succ j =>
   obtain⟨y,m,e,r⟩:=ih j (by simpa using hj);exact⟨y,wu _ m,by simpa using e,by simpa using r⟩
theorem ME{X:Cx}(hu:X.A.units+64<PySem.cLine):aM X (PySem.compareOp .Eq) (sU X.K):=by
 intro pins s σ H x y v u Q I rx ry h;rcases h with h | ⟨a,b,us,rfl,rfl,ha,hb,no,q⟩
 ·exact dF hu pins s σ H x y v u Q I rx ry h
 ·cases rx
  cases ry;obtain⟨its,r1,p1,z1⟩:=I.list ha;obtain⟨its2,r2,p2,z2⟩:=I.list hb;have l1:=r1.length;have l2:=r2.length;refine PySem.SeqAt.eq_listAt (e:=λ_=>true) p1.isList p2.isList (by simp only[wF];lia) (by lia) (λj h1 h2=>?_) ?_
  ·obtain⟨y1,m1,e1,q1⟩:=Tc r1 j (by simpa using h1)
   obtain⟨y2,m2,e2,q2⟩:=Tc r2 j (by simpa using h2);rw[e1]at e2;cases e2;simp only[List.getElem_toArray];exact Zx q1 q2 (no _ m1)
  ·rw[show((wp its.toArray.size).all λ_=>true)=true by simp]
   exact⟨.bl true,H,I,rfl,q⟩
theorem zzP{d:ui}(h:Is K H v d):DV v=true:=by
 cases d with
 | none=>rw[iE.mp h];rfl
 | bool _=>rw[fL.mp h];rfl
 | int _=>rw[aJ.mp h];rfl
 | str _=>rw[cW.mp h];rfl
 | tuple _=>obtain⟨_,_,e,_⟩:=cb.mp h;rw[e];rfl
 | list _=>obtain⟨_,_,e,_⟩:=cu.mp h;rw[e];rfl
 | dict _=>obtain⟨_,_,e,_⟩:=pQ.mp h;rw[e];rfl
theorem zwh{a b:wf}{us:List V}{ds:List ui}(ha:aP K H a us)(hb:aP K H b us)(t:ai K H us ds)(q:Q (.bl true) H):sU K (.ref a) (.ref b) H Q:=by
 refine .inr ⟨a,b,us,rfl,rfl,ha,hb,λu hu=>?_,q⟩;obtain⟨j,hj,e⟩:=wY hu;obtain⟨_,i⟩:=gC t (show us[j]? = some u by rw[wc hj,e]);exact zzP i
theorem zzV{x y:V}(h:cR K x y H Q):sU K x y H Q:=.inl h
def NW(K:wa):Sp:=λvs H Q _=>∃x0 x1 x2,vs=[x0,x1,x2] /\ ∃(a b:Rat)(xs:List Rat)(ds:List PyData)(r:Bool),x2=.bl r/\Is K H x0 (bL a b xs)/\Is K H x1 (.list ds)/\aZ a b/\1<=xs.length/\xs.length<=8/\dq xs/\ds.length<=200/\(∀d∈ds,gR d/\iW d)/\ib a b xs ds r /\ ∀H',ag H H'->Q (.bl true) H'
theorem lU{a:Rat}{r:Bool}(h:Is K H v (bL a b xs))(hp:Is K H u (.list ds))(ok:aZ a b)(h1:1<=xs.length)(h8:xs.length<=8)(ph:dq xs)(bM:ds.length<=200)(sm:∀d∈ds,gR d/\iW d)(l:ib a b xs ds r)(q:∀H',ag H H'->Q (.bl true) H'):NW K [v,u,.bl r] H Q E:=⟨_,_,_,rfl,a,b,xs,ds,r,rfl,h,hp,ok,h1,h8,ph,bM,sm,l,q⟩
theorem me(T:Txt K mg a):aI P w K mg base aU 13 a.JS a.II yz (NW K):=by
 refine T.kn.F.ok Dm ?_ ?_;wtm_at "b3"
 refine⟨_,(av (aA 3 Dm.nd (dW (show aN _ (.type "list") (ke K)from oj) rfl T.h0l kF (ae (pv 1) af)))
     (av (aA 4 Dm.nd (ak (zui T) hr T.Ju (ae (pv 0) (ae (pv 1) af))))
     (ay (aC (fb (bQ (show aN _ (.builtin "isinstance") (fg K)from j5) rfl T.h0c jz (ae (pv 4) (ae (iS (v:=.ty "bool") rfl T.h0m Yy rfl) af))) (fb (fj (show aM _ (compareOp .Eq) (sU K)from ME hu) (pv 4) (pv 2) (bN _)) (gc (fj (show aM _ (compareOp .Eq) (sU K)from ME hu) (pv 1) (pv 3) (bN _))))))))),?_⟩
 wtm_at "cl";rw[show start Pp [x0,x1,x2]=[some x0,some x1,some x2,none,none]from rfl];obtain⟨ra,rb,xs,ds,r,rfl,hw,hp,ok,y1,y8,ph,bM,sm,L,q⟩:=h;obtain⟨lp,us,rfl,hsp,tp⟩:=cu.mp hp;o_head ⟨lp,us,rfl,.inl hsp,λl n1=>?_⟩;have S1:=ag.upd (o:=.lst us) n1;have e1:upd H l (.lst us) l=some (.lst us):=c6;o_head zux (hw.by S1) (hp.by S1) ok y1 y8 ph bM sm L (λH2 S2=>?_);o_head zzV (zCx ?_);rw[show(r == r)=true by cases r<;>rfl];o_head zwh ((S1.trans S2).seq hsp) (S2.seq (aP.of e1)) (ai.same (S1.trans S2) _ _ tp) ?_;exact q _ (S1.trans S2)
def fr(H0 H:Hp):Hp:=λb=>match H0 b with
 | some (.lst _)=>none
 | _=>H b
section
variable{K:wa}{H0 H H' H2:Hp}{v:V}{d:PyData}
theorem jl{b:wf}{o:HO} : fr H0 H b=some o ↔ (∀xs,H0 b≠some (.lst xs))/\H b=some o:=by
 unfold fr;cases e:H0 b with
 | none=>simp
 | some u=>cases u<;>simp
theorem hJ(s:ag H H'):ag (fr H0 H) (fr H0 H'):=λ_ _ h=>jl.mpr ⟨(jl.mp h).1,s _ _ (jl.mp h).2⟩
theorem zz0(s:ag H0 H):ag (fr H H') (fr H0 H'):=λ_ _ h=>jl.mpr ⟨λxs e=>(jl.mp h).1 xs (s _ _ e),(jl.mp h).2⟩
theorem sA(s:ag H0 H):bE H (fr H0 H):=⟨λb xs h=>jl.mpr ⟨λys e=>(by rw[s _ _ e]at h;cases h),h⟩,λb o u h=>jl.mpr ⟨λys e=>(by rw[s _ _ e]at h;cases h),h⟩⟩
theorem zDp{p:wf}{xs:List V}(hp:H0 p=some (.lst xs))(e:Exc p H H'):ag (fr H0 H) H':=λb o h=>e b o (λz=>(jl.mp h).1 xs (by rw[z];exact hp)) (jl.mp h).2
theorem dY(s:ag H0 H)(i:Is K H v d)(m:br d=true):Is K (fr H0 H) v d:=i.di (sA s) m
theorem Bz{l:wf}{o:HO}(s:ag H0 H)(n:H l=none)(e:H' l=some o):fr H0 H' l=some o:=jl.mpr ⟨λxs z=>(by rw[s _ _ z]at n;cases n),e⟩
end
variable{n:Nat}
def Ae:List PyData:=[.tuple [.int 0,.int 0],.tuple [.int 2,.int 2],.tuple [.int 0,.int 2],.tuple [.int 0,.int (-1)],.tuple [.bool false,.int 1],.tuple [.int 0,.bool true],.int 0,.none,.str (wC "0"),.list [.int 0,.int 1],.tuple [.int 0],.tuple [.int 0,.int 1,.int 1]]
theorem zxA :Ae.all (λd=>(a_ d).not)=true:=by decide +kernel
def Yw(K:wa):Sp:=λvs H Q _=>vs=[] /\ ∀l us H',H l=none->ag H H'->H' l=some (.lst us)->ai K (fr H H') us Ae->Q (.ref l) H'
theorem Lp{H:Hp}{Q:VK}{E:XK}(q:∀l us H',H l=none->ag H H'->H' l=some (.lst us)->ai K (fr H H') us Ae->Q (.ref l) H'):Yw K [] H Q E:=⟨rfl,q⟩
theorem MO(T:Txt K mg a):aI P w K mg base aU 1 a.Jz a.HR ze (Yw K):=by
 refine T.mC.F.ok zrp ?_ ?_;wtm_at "b0";refine⟨_,(@jS.h _ _ _ (gU (nq (iM (aD (dA (aD (aF ao) (aD (aF ao) cF aY) aY)) (aD (dA (aD (aF ao) (aD (aF ao) cF aY) aY)) (aD (dA (aD (aF ao) (aD (aF ao) cF aY) aY)) (aD (dA (aD (aF ao) (aD (aF (fE fC ao)) cF Ng) aY)) (aD (dA (aD (aF cP) (aD (aF ao) cF aY) aY)) (aD (dA (aD (aF ao) (aD (aF cP) cF aY) aY)) (aD (aF ao) (aD (aF fB) (aD (aF dC) (aD (iM (aD (aF ao) (aD (aF ao) cF aY) aY)) (aD (dA (aD (aF ao) cF aY)) (aD (dA (aD (aF ao) (aD (aF ao) (aD (aF ao) cF aY) aY) aY)) cF dD) dD) sT) aY) aY) aY) dD) dD) dD) dD) dD) dD))))),?_⟩;wtm_at "cl";rw[show start By []=[]from rfl];have q:=h;o_head bW (ds:=[.int 0,.int 0]) (by simp) (.cons (aJ.mpr rfl) (.cons (aJ.mpr rfl) .nil)) (λv1 H1 S1 i1=>?_);o_head bW (ds:=[.int 2,.int 2]) (by simp) (.cons (aJ.mpr rfl) (.cons (aJ.mpr rfl) .nil)) (λv2 H2 S2 i2=>?_);o_head bW (ds:=[.int 0,.int 2]) (by simp) (.cons (aJ.mpr rfl) (.cons (aJ.mpr rfl) .nil)) (λv3 H3 S3 i3=>?_);o_head bW (ds:=[.int 0,.int (-1)]) (by simp) (.cons (aJ.mpr rfl) (.cons (aJ.mpr rfl) .nil)) (λv4 H4 S4 i4=>?_);o_head bW (ds:=[.bool false,.int 1]) (by simp) (.cons (fL.mpr rfl) (.cons (aJ.mpr rfl) .nil)) (λv5 H5 S5 i5=>?_);o_head bW (ds:=[.int 0,.bool true]) (by simp) (.cons (aJ.mpr rfl) (.cons (fL.mpr rfl) .nil)) (λv6 H6 S6 i6=>?_)
 o_head cS (by simp) (λl7 H7 n7 S7 e7=>?_);o_head bW (ds:=[.int 0]) (by simp) (.cons (aJ.mpr rfl) .nil) (λv8 H8 S8 i8=>?_);o_head bW (ds:=[.int 0,.int 1,.int 1]) (by simp) (.cons (aJ.mpr rfl) (.cons (aJ.mpr rfl) (.cons (aJ.mpr rfl) .nil))) (λv9 H9 S9 i9=>?_);o_head cS (by simp) (λl H10 n10 S10 e10=>?_);have T9:=S9.trans S10;have T8:=S8.trans T9;have T7:=S7.trans T8;have T6:=S6.trans T7;have T5:=S5.trans T6;have T4:=S4.trans T5;have T3:=S3.trans T4;have T2:=S2.trans T3;have T1:=S1.trans T2;refine q l _ H10 (iU (S1.trans (S2.trans (S3.trans (S4.trans (S5.trans (S6.trans (S7.trans (S8.trans S9)))))))) n10) T1 e10 ?_;have i7:Is K (fr H H10) (.ref l7) (.list [.int 0,.int 1]):=cu.mpr ⟨l7,_,rfl,.of (Bz (S1.trans (S2.trans (S3.trans (S4.trans (S5.trans S6))))) n7 (T8 _ _ e7)),.cons (aJ.mpr rfl) (.cons (aJ.mpr rfl) .nil)⟩;exact .cons (dY T1 (i1.by T2) (by simp[br,aV])) (.cons (dY T1 (i2.by T3) (by simp[br,aV])) (.cons (dY T1 (i3.by T4) (by simp[br,aV])) (.cons (dY T1 (i4.by T5) (by simp[br,aV])) (.cons (dY T1 (i5.by T6) (by simp[br,aV])) (.cons (dY T1 (i6.by T7) (by simp[br,aV])) (.cons (aJ.mpr rfl) (.cons (iE.mpr rfl) (.cons (cW.mpr rfl) (.cons i7 (.cons (dY T1 (i8.by T9) (by simp[br,aV])) (.cons (dY T1 (i9.by S10) (by simp[br,aV])) .nil)))))))))))
structure kE(n:Nat)(d:PyData):Prop where
 r:gb n d=false
 l:ly n d=false
 s:gR d
 w:iW d
def eT(K:wa)(H0 H:Hp)(n:Nat)(us:List V):Prop:=∀u∈us,∃d,Is K (fr H0 H) u d/\kE n d
theorem mI{a b c e:PyData}(h:fm n [a,b,c,e]=false\/fF 0 30 c=false\/fF 0 40 e=false)(sm:∀ps,b=.tuple ps->ps.length<=900):kE n (.tuple [a,b,c,e]):=by
 refine⟨?_,rfl,λa' b' ds z=>by cases z;exact sm,λa' b' w z=>by cases z⟩
 show(fm n [a,b,c,e]&&(fF 0 30 c&&fF 0 40 e))=false
 rcases h with h | h | h
 ·rw[h];rfl
 ·rw[h,vO,Wm]
 ·rw[h,Wm,Wm]
theorem tD{a b c:PyData}(h:fm n [a,b,c]=false\/kz c=false)(sm:∀ps,b=.tuple ps->ps.length<=900)(sw:∀w,c=.str w->V1 w=true):kE n (.tuple [a,b,c]):=by
 refine⟨rfl,?_,λa' b' ds z=>by cases z;exact sm,λa' b' w z=>by cases z;exact sw _ rfl⟩
 show(fm n [a,b,c]&&kz c)=false
 rcases h with h | h
 ·rw[h];rfl
 ·rw[h,Wm]
theorem mK{d:PyData}(h:fk d=false):kE n d :=
 ⟨Og h,MW h,λa b ds z=>(by rw[z]at h;cases h),λa b w z=>(by rw[z]at h;cases h)⟩
theorem sS{ds:List PyData}(h3:¬ ds.length=3)(h4:¬ ds.length=4)(sm:∀a b r,ds=a::b::r->∀ps,b=.tuple ps->ps.length<=900):kE n (.tuple ds) :=
 ⟨Lq h4,Td h3,λa b r z=>by cases z;exact sm _ _ _ rfl,λa b w z=>by cases z;exact absurd rfl h3⟩
section
variable{K:wa}{H0 H H' H2:Hp}{n:Nat}{us ws:List V}{u:V}{d:PyData}
theorem eT.by(s:ag H H')(h:eT K H0 H n us):eT K H0 H' n us:=λu hu=>let ⟨d,i,w⟩:=h u hu;⟨d,i.by (hJ s),w⟩
theorem eT.app(h:eT K H0 H n us)(k:eT K H0 H n ws):eT K H0 H n (us++ws):=λu hu=>(vb.mp hu).elim (h u) (k u)
theorem eT.nil:eT K H0 H n []:=λ_ hu=>absurd hu (by simp)
theorem eT.cons(i:Is K (fr H0 H) u d)(w:kE n d)(h:eT K H0 H n us):eT K H0 H n (u::us):=λx hx=>by
 rcases wH.mp hx with rfl | hx
 ·exact⟨d,i,w⟩
 ·exact h x hx
theorem Us{us1 ys more:List V}{ms:List PyData}{x1:V}{xs:List Rat}{H1:Hp}(s0:ag H0 H2)(t1:ai K (fr H0 H1) us1 Ae)(S:ag H1 H2)(ix:Is K H2 x1 (TN xs))(im:ai K H2 more ms)(mi:aV ms=true)(no:∀e,a_ e=false->kE n (.tuple (e::TN xs::ms)))
  (r:∀(j:Nat)(y:V),ys[j]? = some y->∃t x,y=.ref t/\us1[j]? = some x/\H2 t=some (.tup (x::x1::more))):eT K H0 H2 n ys:=λu hu=>by
 obtain⟨j,hj,e⟩:=wY hu;obtain⟨t,x,rfl,hx,ht⟩:=r j u (by rw[wc hj,e]);obtain⟨hj,i⟩:=gC t1 hx;have nn:=vZ.mp zxA _ (getD_mem (d:=.none) hj);refine⟨_,cb.mpr ⟨t,_,rfl,.inl (.inl ((sA s0).t _ _ ht)),.cons (i.by (hJ S)) (.cons (dY s0 ix (jn xs)) (ai.keep (sA s0) _ _ mi im))⟩,no _ (by simpa using nn)⟩
end
variable{n:Nat}
structure sk(n:Nat)(e:PyData):Prop where
 st:∀a r,fm n (a::e::r)=false
 sm:∀ps,e=.tuple ps->ps.length<=900
def hV(K:wa)(H0 H:Hp)(n:Nat)(us:List V):Prop:=∀u∈us,∃e,Is K (fr H0 H) u e/\sk n e
theorem BO{e:PyData}(h:fk e=false):sk n e:=⟨λ_ _=>OI h,λps z=>(by rw[z]at h;cases h)⟩
theorem FC{ps:List PyData}(h:¬ ps.length=n)(z:ps.length<=900):sk n (.tuple ps):=⟨λa r=>by
  show(a_ a&&(decide (_=_)&&_))=false
  rw[decide_eq_false h,vO,Wm],λqs w=>by cases w;exact z⟩
theorem zQ{ps:List PyData}{e:PyData}(m:e∈ps)(h:a_ e=false)(z:ps.length<=900):sk n (.tuple ps):=⟨λa r=>by
  show(a_ a&&(_&&ps.all a_))=false
  have:ps.all a_=false:=by
   rw[Xf];intro w;rw[vZ.mp w e m]at h;cases h
  rw[this,Wm,Wm],λqs w=>by cases w;exact z⟩
section
variable{K:wa}{H0 H H':Hp}{n:Nat}{us:List V}{u:V}{d:PyData}{ds:List PyData}
theorem hV.by(s:ag H H')(h:hV K H0 H n us):hV K H0 H' n us:=λu hu=>let ⟨d,i,w⟩:=h u hu;⟨d,i.by (hJ s),w⟩
theorem hV.nil:hV K H0 H n []:=λ_ hu=>absurd hu (by simp)
theorem hV.cons(i:Is K (fr H0 H) u d)(w:sk n d)(h:hV K H0 H n us):hV K H0 H n (u::us):=λx hx=>by
 rcases wH.mp hx with rfl | hx
 ·exact⟨d,i,w⟩
 ·exact h x hx
theorem hV.app{ws:List V}(h:hV K H0 H n us)(k:hV K H0 H n ws):hV K H0 H n (us++ws):=λu hu=>(vb.mp hu).elim (h u) (k u)
theorem je{t:wf}{vs:List V}(s:ag H0 H)(e:H t=some (.tup vs))(i:ai K (fr H0 H) vs ds):Is K (fr H0 H) (.ref t) (.tuple ds):=cb.mpr ⟨t,vs,rfl,.inl (.inl ((sA s).t _ _ e)),i⟩
theorem tJ{l:wf}{vs:List V}{H1:Hp}(s:ag H0 H1)(nl:H1 l=none)(e:H l=some (.lst vs))(i:ai K (fr H0 H) vs ds):Is K (fr H0 H) (.ref l) (.list ds):=cu.mpr ⟨l,vs,rfl,.of (Bz s nl e),i⟩
theorem sQ:∀{ds:List PyData}{ys:List V},ys.length=ds.length->(∀(j:Nat)(y:V),ys[j]? = some y->Is K H y (ds.getD j .none))->ai K H ys ds
 | [],[],_,_=>.nil
 | [],_::_,h,_=>by simp at h
 | _::_,[],h,_=>by simp at h
 | d::ds,y::ys,h,r=>.cons (r 0 y rfl) (sQ (by simpa using h) (λj z hz=>r (j+1) z (by simpa using hz)))
end
variable{xs:List Rat}{es:List (Nat × Nat × Nat)}{H:Hp}{Q:VK}{E:XK}{v:V}{b ra rb x y:Rat}{k t u:Int}{j m n:Nat}{l p p1:wf}{us:List V}{ns:List Int}{d:PyData}
theorem oG{ds:List PyData}(h:∀d∈ds,br d=true):aV ds=true:=by
 induction ds with
 | nil=>rfl
 | cons d ds ih=>rw[aV,h d (wB ..),ih λe he=>h e (wu _ he)];rfl
theorem zzQ{α : Type}{ds:List α}{lo hi:Option Int}{d : α}(h:d∈cutD ds lo hi):d∈ds:=Vr (Vq h)
theorem zyS{α : Type}(ds:List α)(lo hi:Option Int):(cutD ds lo hi).length<=ds.length:=by
 unfold L2.cutD;rw[vG,ve];lia
theorem MM{lo hi:Option Int}{es:List PyData}(h:∀d∈es,br d=true):br (.tuple (cutD (xs.map N) lo hi++es))=true:=by
 rw[br];refine oG λd hd=>?_
 rcases vb.mp hd with z | z
 ·obtain⟨x,_,rfl⟩:=wP.mp (zzQ z)
  exact ff x
 ·exact h d z
def kN(r:Rat):PyData:=if(r.den:Int)=1 then .tuple [.int r.num,.bool true]else N r
def md(r:Rat):PyData:=if r=0 then .tuple [.bool false,.int 1]else N r
theorem EZ(r:Rat):br (kN r)=true:=by
 unfold kN
 split
 ·simp[br,aV]
 ·exact ff r
theorem BR(r:Rat):br (md r)=true:=by
 unfold md
 split
 ·simp[br,aV]
 ·exact ff r
def Tq(K:wa):Sp:=λvs H Q _=>∃x0 x1,vs=[x0,x1] /\ ∃(h:Rat)(xs:List Rat),Is K H x0 (N h)/\Is K H x1 (TN xs)/\1<=xs.length/\xs.length<=8 /\ ∀l H' us,H l=none->ag H H'->H' l=some (.lst us)->eT K H H' xs.length us->1<=us.length->us.length<=200->Q (.ref l) H'
theorem zpc{w:V}{h:Rat}(i:Is K H v (N h))(k:Is K H w (TN xs))(h1:1<=xs.length)(h8:xs.length<=8)(q:∀l H' us,H l=none->ag H H'->H' l=some (.lst us)->eT K H H' xs.length us->1<=us.length->us.length<=200->Q (.ref l) H'):Tq K [v,w] H Q E:=⟨_,_,rfl,h,xs,i,k,h1,h8,q⟩
theorem zpg(T:Txt K mg a):aI P w K mg base aU 2 a.Jp a.Hx zR (Tq K):=by
 refine T.Ig.F.ok ju ?_ ?_;wtm_at "b2"
 refine⟨_,(@jS.h _ _ _ (dR (ou (mR (i:=2) ju.nd rfl (Or.inl rfl) rfl (cK.by (N':=["_law_one","_law_phases"]) (src:=[none,some 1]) rfl (by kernel_rfl)) (fe (Uk (MO T) (hr.mono (by decide)) rfl T.mC.g T.mC.F.kp T.mC.b .nil DW)) (λ_ _ _ _ _=>(bP (i:=0) (of_decide_eq_true (by kernel_rfl)) rfl (Or.inl rfl))) (λ_ _ _ _ _=>dw) (λ_ _ _ _ _=>by exact(show PE _ _ (jw K _)from bC (by exact(@ae _ _ _ _ _ (pv 0) (@ae _ _ _ _ _ (pv 1) (@ae _ _ _ _ _ ao (@ae _ _ _ _ _ ao af aY) aY) bX) bX))))))
     (dR (ou (aA 2 ju.nd (aB cv (pv 2) (dS rfl (cK.by (N':=["_law_one","_law_phases"]) (src:=[none,some 1]) rfl (by kernel_rfl)) (fe (Uk (MO T) (hr.mono (by decide)) rfl T.mC.g T.mC.F.kp T.mC.b .nil DW)) (λ_ _ _ _ _=>(bP (i:=0) (of_decide_eq_true (by kernel_rfl)) rfl (Or.inl rfl))) (λ_ _ _ _ _=>dw) (λ_ _ _ _ _=>by exact(show PE _ _ (jw K _)from bC (ae (pv 0) (ae (pv 1) (ae dC af)))))))))
     (dR (gg 3 ju.nd (iM (aD (aF (dW (show aN _ (.type "list") (ke K)from oj) rfl T.h0l kF (ae (pv 1) af))) (aD (aF (fY fV (pv 1) (fT ao) fS)) (aD (lR (show aM _ (Wd .Add) (kM K)from mG) (aF (pv 1)) (dA (aD (dA (aD (aF ao) (aD (aF ao) cF aY) aY)) cF dD))) (aD (aF fB) (aD (dA cF) (aD (aF dC) (aD (lR (show aM _ (Wd .Add) (kM K)from mG) (aF (fY fV (pv 1) fS (fT (fE fC ao)))) (dA (aD (dA (aD (aF ao) (aD (aF ao) cF aY) aY)) cF dD))) (aD (lR (show aM _ (Wd .Add) (kM K)from mG) (aF (fY fV (pv 1) fS (fT (fE fC ao)))) (dA (aD (aF ao) cF aY))) cF rC) rC) aY) dD) aY) rC) gJ))))
     (dR (oH (cw (show aM _ (compareOp .In) (oZ K)from Em hu) (bC (ae ao (ae ao af))) (pv 1) (by with_unfolding_all rfl)) (dR (ou (ki (jZ vP vM vN jC (pv 3) (ae (dW (show aN _ (.type "tuple") (eH K)from ft) rfl T.h0i dU (ae (dS rfl (cK.by (N':=["_law_one"]) (src:=[none]) rfl (by kernel_rfl)) (jF (pv 1)) (λ_ _ _ _ _=>(bP (i:=0) (of_decide_eq_true (by kernel_rfl)) rfl (Or.inl rfl))) (λ_ _ _ _ _=>dw) (λ_ _ _ _ _=>by exact(pz (cw (show aM _ (compareOp .Eq) (cR K)from dF hu) (kQ (K:=K) cJ (pv 0)) ao (bN _)) (show PE _ _ (jw K _)from bC (ae (kQ (K:=K) cJ (pv 0)) (ae cP af))) (pv 0)))) af)) af))))
     (gU (ou (ki (jZ vP vM vN jC (pv 3) (ae (dW (show aN _ (.type "tuple") (eH K)from ft) rfl T.h0i dU (ae (dS rfl (cK.by (N':=["_law_one"]) (src:=[none]) rfl (by kernel_rfl)) (jF (pv 1)) (λ_ _ _ _ _=>(bP (i:=0) (of_decide_eq_true (by kernel_rfl)) rfl (Or.inl rfl))) (λ_ _ _ _ _=>dw) (λ_ _ _ _ _=>by exact(pz (cw (show aM _ (compareOp .Eq) (cR K)from dF hu) (pv 0) (show PE _ _ (jw K _)from bC (ae ao (ae ao af))) (bN _)) (show PE _ _ (jw K _)from bC (ae cP (ae ao af))) (pv 0)))) af)) af)))))) rf)
     (dR (yn vd rfl (fe (pv 3)) (bP (i:=4) ju.nd rfl (Or.inl rfl)) (gU (gg 2 ju.nd (lR cv (aF (pv 2)) (iM (aD (dA (aD (aF (pv 0)) (aD (aF (pv 4)) (aD (aF ao) (aD (aF ao) cF aY) aY) bX) bX)) (aD (dA (aD (aF (pv 0)) (aD (aF (pv 4)) (aD (aF dC) cF aY) bX) bX)) (aD (dA (aD (aF (pv 0)) (aD (aF (pv 4)) (aD (aF ao) (aD (aF ao) cF aY) aY) bX) bX)) cF dD) dD) dD))))))
     (dR (yn vd rfl (fe (d4 (by exact(@ae _ _ _ _ _ (fE fC ao) (@ae _ _ _ _ _ cP (@ae _ _ _ _ _ cP (@ae _ _ _ _ _ fB (@ae _ _ _ _ _ dC (@ae _ _ _ _ _ (bC (ae ao (ae ao af))) (@ae _ _ _ _ _ ao (@ae _ _ _ _ _ (uP (v:=100000000000000000000) ⟨by decide,by decide,by decide⟩ (by decide +kernel)) af rC) aY) dD) aY) aY) aY) aY) Ng)))) (bP (i:=4) ju.nd rfl (Or.inl rfl)) (gU (gg 2 ju.nd (lR cv (aF (pv 2)) (iM (aD (dA (aD (aF (pv 0)) (aD (aF (pv 1)) (aD (aF (pv 4)) (aD (aF ao) cF aY) bX) bX) bX)) (aD (dA (aD (aF (pv 0)) (aD (aF (pv 1)) (aD (aF ao) (aD (aF (pv 4)) cF bX) aY) bX) bX)) cF dD) dD))))))
     (dR (ou (ki (jZ vP vM vN jC (pv 2) (ae (bC (by exact(@ae _ _ _ _ _ (pv 0) (@ae _ _ _ _ _ (pv 1) (@ae _ _ _ _ _ ao (@ae _ _ _ _ _ ao af aY) aY) bX) bX))) af))))
     (dR (yn vd rfl (fe (d4 (by exact(@ae _ _ _ _ _ dC (@ae _ _ _ _ _ dC (@ae _ _ _ _ _ dC (@ae _ _ _ _ _ dC (@ae _ _ _ _ _ fB (@ae _ _ _ _ _ ao (@ae _ _ _ _ _ cP (@ae _ _ _ _ _ (bC (ae dC af)) (@ae _ _ _ _ _ (d4 (ae dC af)) af sT) dD) aY) aY) aY) aY) aY) aY) aY)))) (bP (i:=4) ju.nd rfl (Or.inl rfl)) (gU (ou (ki (jZ vP vM vN jC (pv 2) (ae (bC (ae (pv 0) (ae (pv 1) (ae (pv 4) af)))) af))))))
     (dR (gg 2 ju.nd (lR cv (aF (pv 2)) (iM (aD (iM (aD (aF (pv 0)) (aD (aF (pv 1)) (aD (aF ao) (aD (aF ao) cF aY) aY) bX) bX)) (aD (iM (aD (aF (pv 0)) (aD (aF (pv 1)) (aD (aF dC) cF aY) bX) bX)) (aD (dA (aD (aF (pv 0)) (aD (aF (pv 1)) cF bX) bX)) (aD (dA (aD (aF (pv 0)) (aD (aF (pv 1)) (aD (aF ao) (aD (aF ao) (aD (aF ao) cF aY) aY) aY) bX) bX)) cF dD) dD) sT) sT))))
     (dR (gg 2 ju.nd (lR cv (aF (pv 2)) (iM (aD (dA (aD (aF (pv 0)) cF bX)) (aD (dA cF) (aD (aF fB) (aD (aF ao) (aD (aF dC) (aD (iM cF) (aD (aF zxS) cF) sT) aY) aY) aY) dD) dD))))
     (gU (nq (lR cv (aF (pv 2)) (iM (aD (dA (aD (aF (pv 0)) (aD (aF (pv 1)) (aD (aF dC) (aD (aF ao) cF aY) aY) bX) bX)) (aD (dA (aD (aF (pv 0)) (aD (aF (pv 1)) (aD (aF ao) (aD (aF ao) (aD (aF dC) cF aY) aY) aY) bX) bX)) cF dD) dD)))))))))))))))),?_⟩
 wtm_at "cl";rw[show start Tu [x0,x1]=[some x0,some x1,none,none,none]from rfl];obtain⟨hr,xs,ih,ip,h1,h8,q⟩:=h
 have smP:∀ps,TN xs=.tuple ps->ps.length<=900:=λps e=>by
   unfold TN at e;cases e;rw[wl];lia
 o_head Lp (λl1 us1 H1 n1 S1 e1 t1=>?_);have hl1:us1.length=12:=t1.length;o_head iY (.of e1) (o0:=none) (tl:=[some x1]) rfl (λj y H'=>∃t x,y=.ref t/\us1[j]? = some x/\H' t=some (.tup [x,x1,.int 0,.int 1])) ?_ ?_
 . intro D j x ys o H2 hx inv
   have hj:=(wZ.mp hx).1;o_head e_ (by simp) (λt H3 n3 S3 e3=>?_);k_few;exact dB inv (by lia) (λ_ _ _ _ k ⟨t,x,e,hx,ht⟩=>⟨t,x,e,hx,k.t _ _ ht⟩) ⟨_,rfl⟩ S3 ⟨t,x,rfl,hx,e3⟩
 intro D2 ys2 H2 n2 S2 e2 l2 r2;have T2:=S1.trans S2;have A2:eT K H H2 xs.length ys2:=Us T2 t1 S2 (ip.by T2) (.cons (aJ.mpr rfl) (.cons (aJ.mpr rfl) .nil)) (by simp[br,aV]) (λe ne=>mI (.inl (by show(a_ e&&_)=false;rw[ne];rfl)) smP) r2;clear r2;o_head Lp (λl3 us3 H3 n3 S3 e3 t3=>?_);have hl3:us3.length=12:=t3.length;have T3:=T2.trans S3;o_head iY (.of e3) (o0:=none) (tl:=[some x1]) rfl (λj y H'=>∃t x,y=.ref t/\us3[j]? = some x/\H' t=some (.tup [x,x1,.str (wC "one")])) ?_ ?_
 . intro D j x ys o H4 hx inv
   have hj:=(wZ.mp hx).1;o_head e_ (by simp) (λt H5 n5 S5 e5=>?_);k_few;exact dB inv (by lia) (λ_ _ _ _ k ⟨t,x,e,hx,ht⟩=>⟨t,x,e,hx,k.t _ _ ht⟩) ⟨_,rfl⟩ S5 ⟨t,x,rfl,hx,e5⟩
 intro D4 ys4 H4 n4 S4 e4 l4 r4;have T4:=T3.trans S4;have A4:eT K H H4 xs.length ys4:=Us T4 (ai.same (zz0 T2) _ _ t3) S4 (ip.by T4) (.cons (cW.mpr rfl) .nil) (by simp[br,aV]) (λe ne=>tD (.inl (by show(a_ e&&_)=false;rw[ne];rfl)) smP (λw z=>by cases z;exact kS _)) r4;clear r4;refine fR (S4 _ _ (S3 _ _ e2)) e4 (by rw[Wp];lia) (λl5 H5 n5 S5 e5=>?_);have A5:eT K H H4 xs.length (ys2++ys4):=(A2.by (S3.trans S4)).app A4;have T5:=T4.trans S5;have L5:(ys2++ys4).length=24:=by rw[wy];lia
 generalize ys2++ys4=some5 at *;clear e1 t1 e2 e3 t3 e4 A2 A4 S1 S2 S3 S4 T2 T3 n1 n2 n3 n4 l2 l4;have ip5:=ip.by T5;o_head rQ (show Is K H5 x1 (.tuple (xs.map N))from ip5) (λl6 H6 us6 n6 S6 e6 t6=>?_);have T6:=T5.trans S6;o_head oJ (show Is K H6 x1 (.tuple (xs.map N))from ip.by T6) (by rw[wl];show ¬ (min 1 xs.length=0/\_);lia) (λv7 H7 S7 i7=>?_);have T7:=T6.trans S7;o_head bW (ds:=[.int 0,.int 1]) (by simp) (.cons (aJ.mpr rfl) (.cons (aJ.mpr rfl) .nil)) (λv8 H8 S8 i8=>?_);o_head bW (ds:=[.tuple [.int 0,.int 1]]) (by simp) (.cons i8 .nil) (λv9 H9 S9 i9=>?_);have T9:=T7.trans (S8.trans S9);refine mO (show Is K H9 x1 (.tuple (xs.map N))from ip.by T9) i9 (by rw[wl];simp;lia) (λv10 H10 S10 i10=>?_);o_head bW (ds:=[]) (by simp) .nil (λv11 H11 S11 i11=>?_);have T11:=T9.trans (S10.trans S11);o_head oJ (show Is K H11 x1 (.tuple (xs.map N))from ip.by T11) (by rw[wl];simp[HT.bD];lia) (λv12 H12 S12 i12=>?_);o_head bW (ds:=[.int 0,.int 0]) (by simp) (.cons (aJ.mpr rfl) (.cons (aJ.mpr rfl) .nil)) (λv13 H13 S13 i13=>?_);o_head bW (ds:=[.tuple [.int 0,.int 0]]) (by simp) (.cons i13 .nil) (λv14 H14 S14 i14=>?_);have T14:=T11.trans (S12.trans (S13.trans S14));have cl:=zyS (xs.map N) none (some (-1));rw[wl]at cl;refine mO (i12.by (S13.trans S14)) i14 (by rw[wL];lia) (λv15 H15 S15 i15=>?_);have T15:=T14.trans S15;o_head oJ (show Is K H15 x1 (.tuple (xs.map N))from ip.by T15) (by rw[wl];simp[HT.bD];lia) (λv16 H16 S16 i16=>?_)
 o_head bW (ds:=[.int 0]) (by simp) (.cons (aJ.mpr rfl) .nil) (λv17 H17 S17 i17=>?_);refine mO (i16.by S17) i17 (by rw[wL];lia) (λv18 H18 S18 i18=>?_);have T18:=T15.trans (S16.trans (S17.trans S18));o_head cS (by simp) (λlb H19 n19 S19 e19=>?_);have T19:=T18.trans S19
 have B18:hV K H H18 xs.length [.ref l6,v7,v10,.bG,v11,.str (wC ""),v15,v18]:=by
   have U15:=S16.trans (S17.trans S18);have U10:=S11.trans (S12.trans (S13.trans (S14.trans (S15.trans U15))));have U7:=S8.trans (S9.trans (S10.trans U10));have i6:Is K (fr H H18) (.ref l6) (.list (xs.map N)):=tJ T5 n6 (S7.trans U7 _ _ e6) (ai.keep (sA T18) _ _ (gf xs) (ai.same (S7.trans U7) _ _ t6));have tl:(xs.map N).tail.length=xs.length-1:=by rw[Vz,wl]
   rw[nX]at i7;refine .cons i6 (BO rfl) (.cons (dY T18 (i7.by U7) ?_) (FC (by lia) (by lia)) (.cons (dY T18 (i10.by U10) ?_) (FC ?_ ?_) (.cons (iE.mpr rfl) (BO rfl) (.cons (dY T18 (i11.by (S12.trans (S13.trans (S14.trans (S15.trans U15))))) (by simp[br,aV])) (FC (by show ¬ 0=_;lia) (by simp)) (.cons (cW.mpr rfl) (BO rfl) (.cons (dY T18 (i15.by U15) (MM ?_)) (zQ (e:=.tuple [.int 0,.int 0]) (by simp) (by decide) ?_) (.cons (dY T18 i18 (MM ?_)) (zQ (e:=.int 0) (by simp) (by decide) ?_) .nil)))))))
   . rw[br];exact oG λd hd=>by obtain⟨x,_,rfl⟩:=wP.mp (List.mem_of_mem_tail hd);exact ff x
   . rw[br];exact oG λd hd=>by
       rcases vb.mp hd with z | z
       . obtain⟨x,_,rfl⟩:=wP.mp z;exact ff x
       . cases wI.mp z;simp[br,aV]
   . rw[wy,wl,wL];lia
   . rw[wy,wl,wL];lia
   . intro d hd;cases wI.mp hd;simp[br,aV]
   . rw[wy,wL];lia
   . intro d hd;cases wI.mp hd;simp[br,aV]
   . rw[wy,wL];lia
 have T518:ag H5 H18:=S6.trans (S7.trans (S8.trans (S9.trans (S10.trans (S11.trans (S12.trans (S13.trans (S14.trans (S15.trans (S16.trans (S17.trans S18)))))))))));have L19:[V.ref l6,v7,v10,.bG,v11,.str (wC ""),v15,v18].length=8:=rfl;generalize [V.ref l6,v7,v10,.bG,v11,.str (wC ""),v15,v18]=bs19 at *;clear S6 S7 S8 S9 S10 S11 S12 S13 S14 S15 S16 S17 S18 i7 i8 i9 i10 i11 i12 i13 i14 i15 i16 i17 i18 n6 e6 t6 ip5 T6 T7 T9 T11 T14 T15 cl;wtm_at "gt";wtm_at "tl";wtm_at "sq"
 have main:∀H' bs,ag H18 H'->H' lb=some (.lst bs)->hV K H H' xs.length bs->bs.length<=10->tl_ {nx:=λ_ H'=>Q V.bG H',rt:=Q} [some x0,some x1,some (V.ref l5),some (V.ref lb),none] H':=by
   intro H' bs S' e' b' len;wtm_at "tl";o_head oS (.of e') (λj σ H2=>∃ls us o Hs,σ = [some x0,some x1,some (.ref ls),some (.ref lb),o]/\ag H' H2/\Hs ls=none/\ag Hs H2/\ag H Hs/\H2 ls=some (.lst us)/\eT K H Hs xs.length us/\us.length=24+3*j) ⟨l5,some5,none,H4,rfl,ag.refl _,n5,S5.trans (T518.trans S'),T4,S' _ _ (T518 _ _ e5),A5,by lia⟩ (λi σ H2 _ ⟨_,_,_,_,_,S2,_⟩=>S2.seq (.of e')) ?_ ?_
   . rintro j x σ H2 hx ⟨ls,us,o,Hs,rfl,S2,ns,Ss,Ts,e2,A2,L2⟩
     obtain⟨e,ix,bd⟩:=b' x (V6 hx);have T2:=T18.trans (S'.trans S2);have hj:=(wZ.mp hx).1;o_head e_ (by simp) (λt3 H3 n3 S3 e3=>?_);o_head e_ (by simp) (λt4 H4 n4 S4 e4=>?_);o_head e_ (by simp) (λt5 H5 n5 S5 e5=>?_);o_head cS (by simp) (λl6 H6 n6 S6 e6=>?_);have S36:=S3.trans (S4.trans (S5.trans S6));refine fR (S36 _ _ e2) e6 (by rw[Wp];simp;lia) (λl7 H7 n7 S7 e7=>?_);have T6:=T2.trans S36;have ix6:=ix.by (hJ (S2.trans S36));have ih6:=dY T6 (ih.by T6) (ff hr);o_head ⟨l7,_,_,H6,rfl,S2.trans (S36.trans S7),n7,S7,T6,e7,(A2.by (Ss.trans S36)).app (.cons (je T6 ((S4.trans (S5.trans S6)) _ _ e3) (.cons ih6 (.cons ix6 (.cons (aJ.mpr rfl) (.cons (aJ.mpr rfl) .nil))))) (mI (.inl (bd.st _ _)) bd.sm) (.cons (je T6 ((S5.trans S6) _ _ e4) (.cons ih6 (.cons ix6 (.cons (cW.mpr rfl) .nil)))) (tD (.inl (bd.st _ _)) bd.sm (λw z=>by cases z;exact kS _)) (.cons (je T6 (S6 _ _ e5) (.cons ih6 (.cons ix6 (.cons (aJ.mpr rfl) (.cons (aJ.mpr rfl) .nil))))) (mI (.inl (bd.st _ _)) bd.sm) .nil))),by rw[wy];simp;lia⟩
   rintro σ H2 ⟨ls,us,o,Hs,rfl,S2,ns,Ss,Ts,e2,A2,L2⟩;have T2:=T18.trans (S'.trans S2);clear S2 e' b' S' S19 e19 B18 T19 T518 e5 A5 T4 T5 S5 n5;o_head bW (ds:=[.int 1,.int 1]) (by simp) (.cons (aJ.mpr rfl) (.cons (aJ.mpr rfl) .nil)) (λv3 H3 S3 i3=>?_);o_head cS (by simp) (λl4 H4 n4 S4 e4=>?_)
   have W4:∀w∈[V.int (-1),.bl true,.bl false,.bG,.str (wC "1"),v3,.int 41,.int 100000000000000000000],∃e,Is K H4 w e/\br e=true/\fF 0 30 e=false/\fF 0 40 e=false:=by
     intro w hw;simp only[wH,W1,or_false]at hw;rcases hw with rfl | rfl | rfl | rfl | rfl | rfl | rfl | rfl
     . exact⟨_,aJ.mpr rfl,rfl,by decide,by decide⟩
     . exact⟨_,fL.mpr rfl,rfl,by decide,by decide⟩
     . exact⟨_,fL.mpr rfl,rfl,by decide,by decide⟩
     . exact⟨_,iE.mpr rfl,rfl,by decide,by decide⟩
     . exact⟨_,cW.mpr rfl,rfl,rfl,rfl⟩
     . exact⟨_,i3.by S4,by simp[br,aV],rfl,rfl⟩
     . exact⟨_,aJ.mpr rfl,rfl,by decide,by decide⟩
     . exact⟨_,aJ.mpr rfl,rfl,by decide,by decide⟩
   have L4:[V.int (-1),.bl true,.bl false,.bG,.str (wC "1"),v3,.int 41,.int 100000000000000000000].length=8:=rfl;generalize [V.int (-1),.bl true,.bl false,.bG,.str (wC "1"),v3,.int 41,.int 100000000000000000000]=ws4 at *;have T4:=T2.trans (S3.trans S4);o_head oS (.of e4) (λj σ H2=>∃ls us o Hs,σ = [some x0,some x1,some (.ref ls),some (.ref lb),o]/\ag H4 H2/\Hs ls=none/\ag Hs H2/\ag H Hs/\H2 ls=some (.lst us)/\eT K H Hs xs.length us/\us.length<=54+2*j) ⟨ls,us,_,Hs,rfl,ag.refl _,ns,Ss.trans (S3.trans S4),Ts,S4 _ _ (S3 _ _ e2),A2,by lia⟩ (λi σ H2 _ ⟨_,_,_,_,_,S2,_⟩=>S2.seq (.of e4)) ?_ ?_
   . clear e2 A2 ns Ss Ts L2
     rintro j x σ H5 hx ⟨ls,us,o,Hs,rfl,S5,ns,Ss,Ts,e5,A5,L5⟩;obtain⟨e,ix,im,w30,w40⟩:=W4 x (V6 hx);have T5:=T4.trans S5;have hj:=(wZ.mp hx).1;o_head e_ (by simp) (λt6 H6 n6 S6 e6=>?_);o_head e_ (by simp) (λt7 H7 n7 S7 e7=>?_);o_head cS (by simp) (λl8 H8 n8 S8 e8=>?_);have S58:=S6.trans (S7.trans S8);refine fR (S58 _ _ e5) e8 (by rw[Wp];simp;lia) (λl9 H9 n9 S9 e9=>?_);have T8:=T5.trans S58;have ix8:=dY T8 (ix.by (S5.trans S58)) im;have ih8:=dY T8 (ih.by T8) (ff hr);have ip8:=dY T8 (ip.by T8) (jn xs);o_head ⟨l9,_,_,H8,rfl,S5.trans (S58.trans S9),n9,S9,T8,e9,(A5.by (Ss.trans S58)).app (.cons (je T8 ((S7.trans S8) _ _ e6) (.cons ih8 (.cons ip8 (.cons ix8 (.cons (aJ.mpr rfl) .nil))))) (mI (.inr (.inl w30)) smP) (.cons (je T8 (S8 _ _ e7) (.cons ih8 (.cons ip8 (.cons (aJ.mpr rfl) (.cons ix8 .nil))))) (mI (.inr (.inr w40)) smP) .nil)),by rw[wy];simp;lia⟩
   clear e2 A2 ns Ss Ts L2 i3 S3;rintro σ H5 ⟨ls,us,o,Hs,rfl,S5,ns,Ss,Ts,e5,A5,L5⟩;have T5:=T4.trans S5;clear S5 S4 e4 W4 T4 T2;o_head jA (.of e5) ?_;o_head bW (ds:=[N hr,TN xs,.int 31,.int 0]) (by simp) (.cons (ih.by T5) (.cons (ip.by T5) (.cons (aJ.mpr rfl) (.cons (aJ.mpr rfl) .nil)))) (λv6 H6 S6 i6=>?_);o_head jG (S6 _ _ e5) (by lia) (λH7 E7 e7=>?_);have K7:bE H6 H7:=E7.keep (S6 _ _ e5);have imR:br (.tuple [N hr,TN xs,.int 31,.int 0])=true:=by rw[br,aV,aV,aV,aV,aV,ff,jn];rfl
   have i7:=i6.di K7 imR;have Ss7:ag Hs H7:=(Ss.trans S6).grow ns E7;have T7:ag H H7:=Ts.trans Ss7;clear i6 e5 E7 K7 S6 Ss T5;o_head bW (ds:=[.str (wC "one")]) (by simp) (.cons (cW.mpr rfl) .nil) (λv8 H8 S8 i8=>?_);o_head cS (by simp) (λlq H9 n9 S9 e9=>?_);o_head cS (by simp) (λlw H10 n10 S10 e10=>?_);have S7A:=S8.trans (S9.trans S10);have e7A:=S7A _ _ e7;have neq:lq≠ls:=λz=>by rw[z,S8 _ _ e7]at n9;cases n9
   have new:lw≠ls:=λz=>by rw[z,S9 _ _ (S8 _ _ e7)]at n10;cases n10
   have TA:=T7.trans S7A;have T8:=T7.trans S8;generalize hws:[V.str (wC ""),.str (wC "One"),.str (wC "two"),.str (wC "rest"),.bG,.int 1,.bl true,v8,.ref lq]=ws at *;have lws:ws.length=9:=by rw[<- hws];rfl
   o_head oS (.of e10) (λj σ H2=>∃o us',σ = [some x0,some x1,some (.ref ls),some (.ref lb),o]/\Exc ls H10 H2/\H2 ls=some (.lst (us++[v6]++us'))/\us'.length=j /\ ∀u∈us',∃p w,u=.ref p/\w∈ws/\H2 p=some (.tup [x0,x1,w])) ⟨_,[],rfl,Exc.refl _ _,by rw[vW];exact e7A,rfl,λu hu=>absurd hu (by simp)⟩ (λi σ H2 _ ⟨_,_,_,E2,_⟩=>.of (E2.at new e10)) ?_ ?_
   . rintro j x σ H2 hx ⟨o,us',rfl,E2,e2,l2,r2⟩
     have hj:=(wZ.mp hx).1;o_head jA (.of e2) ?_;o_head e_ (by simp) (λt3 H3 n3 S3 e3=>?_);o_head jG (S3 _ _ e2) (by simp;lia) (λH4 E4 e4=>?_);have K4:bE H3 H4:=E4.keep (S3 _ _ e2);o_head ⟨_,us'++[.ref t3],rfl,E2.trans (S3.exc.trans E4),by rw[<- WP];exact e4,by simp[l2],λu hu=>?_⟩;rcases vb.mp hu with z | z
     . obtain⟨p,w,a1,a2,a3⟩:=r2 u z
       exact⟨p,w,a1,a2,K4.t _ _ (S3 _ _ a3)⟩
     . cases wI.mp z
       exact⟨t3,x,rfl,V6 hx,K4.t _ _ e3⟩
   rintro σ HA ⟨o,us',rfl,EA,eA,lA,rA⟩;have SsA:ag Hs HA:=(Ss7.trans S7A).grow ns EA;have TTA:ag H HA:=Ts.trans SsA;have KA:bE H10 HA:=EA.keep e7A;have ipA:=dY TTA (ip.by TTA) (jn xs);have ihA:=dY TTA (ih.by TTA) (ff hr)
   have WA:∀w∈ws,∃e,Is K (fr H HA) w e/\kz e=false /\ ∀s,e=.str s->V1 s=true:=by
     intro w hw;rw[<- hws]at hw;simp only[wH,W1,or_false]at hw;rcases hw with rfl | rfl | rfl | rfl | rfl | rfl | rfl | rfl | rfl
     . exact⟨_,cW.mpr rfl,by decide +kernel,λs z=>by cases z;exact kS _⟩
     . exact⟨_,cW.mpr rfl,by decide +kernel,λs z=>by cases z;exact kS _⟩
     . exact⟨_,cW.mpr rfl,by decide +kernel,λs z=>by cases z;exact kS _⟩
     . exact⟨_,cW.mpr rfl,by decide +kernel,λs z=>by cases z;exact kS _⟩
     . exact⟨_,iE.mpr rfl,rfl,λs z=>by cases z⟩
     . exact⟨_,aJ.mpr rfl,rfl,λs z=>by cases z⟩
     . exact⟨_,fL.mpr rfl,rfl,λs z=>by cases z⟩
     . exact⟨_,dY TTA ((i8.by (S9.trans S10)).di KA (by simp[br,aV])) (by simp[br,aV]),rfl,λs z=>by cases z⟩
     . exact⟨_,tJ T8 n9 (EA.at neq (S10 _ _ e9)) (.cons (cW.mpr rfl) .nil),rfl,λs z=>by cases z⟩
   have AA:eT K H HA xs.length (us++[v6]++us'):=by
     refine((A5.by SsA).app (.cons (dY TTA ((i7.by S7A).di KA imR) imR) (mI (.inr (.inl (by decide))) smP) .nil)).app λu hu=>?_
     obtain⟨p,w,rfl,hw,hp⟩:=rA u hu;obtain⟨e,ie,we,se⟩:=WA w hw;exact⟨_,je TTA hp (.cons ihA (.cons ipA (.cons ie .nil))),tD (.inr we) smP se⟩
   have LA:(us++[v6]++us').length<=80:=by simp;lia
   generalize us++[v6]++us'=usA at *;clear rA WA KA EA hws e10 S7A e7A T8 TA n9 e9 S8 S9 S10 i8 i7 e7 Ss7 T7 A5 SsA L5 ns Ts lA lws imR;o_head cS (by simp) (λlB HB nB SB eB=>?_);o_head cS (by simp) (λlC HC nC SC eC=>?_);o_head e_ (by simp) (λlD HD nD SD eD=>?_);o_head e_ (by simp) (λlE HE nE SE eE=>?_);o_head cS (by simp) (λlF HF nF SF eF=>?_);have SDF:=SE.trans SF;have SCF:=SD.trans SDF;have SBF:=SC.trans SCF;have SAF:=SB.trans SBF;refine fR (SAF _ _ eA) eF (by rw[Wp];simp;lia) (λlG HG nG SG eG=>?_);have TF:=TTA.trans SAF;have ihF:=ihA.by (hJ SAF);have ipF:=ipA.by (hJ SAF);have AF:=(AA.by SAF).app (ws:=[.ref lB,.ref lC,.ref lD,.ref lE]) (.cons (tJ TTA nB (SBF _ _ eB) (.cons ihF (.cons ipF (.cons (aJ.mpr rfl) (.cons (aJ.mpr rfl) .nil))))) (mK rfl) (.cons (tJ (TTA.trans SB) nC (SCF _ _ eC) (.cons ihF (.cons ipF (.cons (cW.mpr rfl) .nil)))) (mK rfl) (.cons (je TF (SDF _ _ eD) (.cons ihF (.cons ipF .nil))) (sS (by simp) (by simp) (λa b r z=>by cases z;exact smP)) (.cons (je TF (SF _ _ eE) (.cons ihF (.cons ipF (.cons (aJ.mpr rfl) (.cons (aJ.mpr rfl) (.cons (aJ.mpr rfl) .nil)))))) (sS (by simp) (by simp) (λa b r z=>by cases z;exact smP)) .nil))));have AG:=AF.by SG;have TG:=TF.trans SG;have ihG:=ihF.by (hJ SG);have ipG:=ipF.by (hJ SG);have LG:(usA++[V.ref lB,.ref lC,.ref lD,.ref lE]).length<=84:=by simp;lia
   generalize usA++[V.ref lB,.ref lC,.ref lD,.ref lE]=usG at *;clear AF AA SAF SBF SCF SDF SB SC SD SE SF SG eB eC eD eE eF TF ihF ipF eA;o_head e_ (by simp) (λt1 G1 m1 Z1 f1=>?_);o_head e_ (by simp) (λt2 G2 m2 Z2 f2=>?_);o_head cS (by simp) (λt3 G3 m3 Z3 f3=>?_);o_head UA (λt4 G4 m4 Z4 f4=>?_);o_head cS (by simp) (λt5 G5 m5 Z5 f5=>?_);have Y3:=Z4.trans Z5;have Y2:=Z3.trans Y3;have Y1:=Z2.trans Y2;have Y0:=Z1.trans Y1;refine fR (Y0 _ _ eG) f5 (by rw[Wp];simp;lia) (λt6 G6 m6 Z6 f6=>?_);have T5:=TG.trans Y0;have ih5:=ihG.by (hJ Y0);have ip5:=ipG.by (hJ Y0);have A5:=(AG.by Y0).app (ws:=[.ref t1,.ref t2,.bG,.int 5,.str (wC "one"),.ref t3,.ref t4]) (.cons (je T5 (Y1 _ _ f1) (.cons ih5 .nil)) (sS (by simp) (by simp) (λa b r z=>by cases z)) (.cons (je T5 (Y2 _ _ f2) .nil) (sS (by simp) (by simp) (λa b r z=>by cases z)) (.cons (iE.mpr rfl) (mK rfl) (.cons (aJ.mpr rfl) (mK rfl) (.cons (cW.mpr rfl) (mK rfl) (.cons (tJ (TG.trans (Z1.trans Z2)) m3 (Y3 _ _ f3) .nil) (mK rfl) (.cons (d:=.dict []) (pQ.mpr ⟨t4,[],rfl,Bz (TG.trans (Z1.trans (Z2.trans Z3))) m4 (Z5 _ _ f4)⟩) (mK rfl) .nil)))))));have A6:=A5.by Z6;have T6:=T5.trans Z6;have ih6:=ih5.by (hJ Z6);have ip6:=ip5.by (hJ Z6);have L6:(usG++[V.ref t1,.ref t2,.bG,.int 5,.str (wC "one"),.ref t3,.ref t4]).length<=91:=by simp;lia
   generalize usG++[V.ref t1,.ref t2,.bG,.int 5,.str (wC "one"),.ref t3,.ref t4]=us6 at *;clear A5 AG Y0 Y1 Y2 Y3 Z1 Z2 Z3 Z4 Z5 Z6 f1 f2 f3 f4 f5 T5 ih5 ip5 eG;o_head e_ (by simp) (λt7 G7 m7 Z7 f7=>?_);o_head e_ (by simp) (λt8 G8 m8 Z8 f8=>?_);o_head cS (by simp) (λt9 G9 m9 Z9 f9=>?_);have Y7:=Z8.trans Z9;have Y6:=Z7.trans Y7;refine fR (Y6 _ _ f6) f9 (by rw[Wp];simp;lia) (λtz Gz mz Zz fz=>?_);have T9:=T6.trans Y6;have ih9:=ih6.by (hJ Y6);have ip9:=ip6.by (hJ Y6);refine q tz Gz _ (iU T9 mz) (T9.trans Zz) fz (((A6.by Y6).app (.cons (je T9 (Y7 _ _ f7) (.cons ih9 (.cons ip9 (.cons (cW.mpr rfl) (.cons (aJ.mpr rfl) .nil))))) (mI (.inr (.inl rfl)) smP) (.cons (je T9 (Z9 _ _ f8) (.cons ih9 (.cons ip9 (.cons (aJ.mpr rfl) (.cons (aJ.mpr rfl) (.cons (cW.mpr rfl) .nil)))))) (sS (by simp) (by simp) (λa b r z=>by cases z;exact smP)) .nil))).by Zz) (by simp) (by simp;lia)
 o_head eY (r:=0) rfl rfl (λv20 H20 S20 i20=>?_);o_head UJ i20 (ip.by (T19.trans S20)) ?_;refine⟨_,rfl,?_⟩
 by_cases z:(0:Rat)∈xs
 . rw[decide_eq_true z,if_pos rfl]
   have T20:=T19.trans S20;have e20:=S20 _ _ e19;obtain⟨ap,vsp,ex,sp,tp⟩:=cb.mp (show Is K H20 x1 (.tuple (xs.map N))from ip.by T20);subst ex;have lp:vsp.length=xs.length:=by rw[tp.length,wl]
   o_head jA (.of e20) ?_;o_head iX sp (o0:=none) (tl:=[]) rfl (λj y H'=>Is K H' y (kN (xs.getD j 0))) ?_ ?_
   . intro D j x ys o H1 hx inv
     obtain⟨hj,ix⟩:=dJ tp hx;have ix:=ix.by inv.2.2.1;k_few
     . refine bW (ds:=[.int (xs.getD j 0).num,.bool true]) (by simp) (.cons (aJ.mpr rfl) (.cons (fL.mpr rfl) .nil)) (λv3 H3 S3 i3=>?_)
       k_few;exact dB inv (by lia) (λ_ _ _ _ k h=>h.di k (EZ _)) ⟨_,rfl⟩ S3 (by unfold kN;rw[if_pos (by assumption)];exact i3)
     . exact dB inv (by lia) (λ_ _ _ _ k h=>h.di k (EZ _)) ⟨_,rfl⟩ (ag.refl _) (by unfold kN;rw[if_neg (by assumption)];exact ix)
   intro D1 ys1 H21 n21 S21 e21 l21 r21
   have t21:ai K H21 ys1 (xs.map kN):=sQ (by rw[l21,lp,wl]) (λj y hy=>by
     have hj:j<xs.length:=by rw[<- lp,<- l21];exact(wZ.mp hy).1
     rw[wb,wo,wc hj];have:=r21 j y hy;rw[wb,wc hj]at this;exact this)
   o_head pN (.of e21) (λl22 H22 n22 S22 e22=>?_);o_head jG (S22 _ _ (S21 _ _ e20)) (by lia) (λH23 E23 e23=>?_);have K23:bE H22 H23:=E23.keep (S22 _ _ (S21 _ _ e20));have V23:ag H18 H23:=(S19.trans (S20.trans (S21.trans S22))).grow n19 E23;have im1:br (.tuple (xs.map kN))=true:=by rw[br];exact oG λd hd=>by obtain⟨x,_,rfl⟩:=wP.mp hd;exact EZ x
   have i23:Is K H23 (.ref l22) (.tuple (xs.map kN)):=Is.di K23 im1 (cb.mpr ⟨l22,ys1,rfl,.of e22,ai.same S22 _ _ t21⟩);have KK:bE H20 H23:=(S21.trans S22).keep.trans K23;have sp:=KK.j6 sp;have tp:ai K H23 vsp (xs.map N):=ai.keep KK _ _ (gf xs) tp;clear t21 r21 e21 e22 E23 K23 KK S21 S22 n21 n22 l21 i20 e20 T20 S20;o_head jA (.of e23) ?_;o_head iX sp (o0:=none) (tl:=[]) rfl (λj y H'=>Is K H' y (md (xs.getD j 0))) ?_ ?_
   . intro D j x ys o H1 hx inv
     obtain⟨hj,ix⟩:=dJ tp hx;have ix:=ix.by inv.2.2.1;o_head eY (r:=0) rfl rfl (λv2 H2 S2 i2=>?_);refine Cc (ix.by S2) i2 ?_;refine⟨_,rfl,?_⟩
     by_cases w:xs.getD j 0=0
     . rw[decide_eq_true w,if_pos rfl]
       o_head bW (ds:=[.bool false,.int 1]) (by simp) (.cons (fL.mpr rfl) (.cons (aJ.mpr rfl) .nil)) (λv3 H3 S3 i3=>?_);k_few;exact dB inv (by lia) (λ_ _ _ _ k h=>h.di k (BR _)) ⟨_,rfl⟩ (S2.trans S3) (by unfold md;rw[if_pos w];exact i3)
     . rw[decide_eq_false w,if_neg (by decide)]
       k_few;exact dB inv (by lia) (λ_ _ _ _ k h=>h.di k (BR _)) ⟨_,rfl⟩ S2 (by unfold md;rw[if_neg w];exact ix.by S2)
   intro D1 ys1 H24 n24 S24 e24 l24 r24
   have t24:ai K H24 ys1 (xs.map md):=sQ (by rw[l24,lp,wl]) (λj y hy=>by
     have hj:j<xs.length:=by rw[<- lp,<- l24];exact(wZ.mp hy).1
     rw[wb,wo,wc hj];have:=r24 j y hy;rw[wb,wc hj]at this;exact this)
   o_head pN (.of e24) (λl25 H25 n25 S25 e25=>?_);o_head jG (S25 _ _ (S24 _ _ e23)) (by rw[wy,wL];lia) (λH26 E26 e26=>?_);have K26:bE H25 H26:=E26.keep (S25 _ _ (S24 _ _ e23));have V26:ag H18 H26:=(V23.trans (S24.trans S25)).grow n19 E26;have im2:br (.tuple (xs.map md))=true:=by rw[br];exact oG λd hd=>by obtain⟨x,_,rfl⟩:=wP.mp hd;exact BR x
   have i26:Is K H26 (.ref l25) (.tuple (xs.map md)):=Is.di K26 im2 (cb.mpr ⟨l25,ys1,rfl,.of e25,ai.same S25 _ _ t24⟩);have j26:Is K H26 (.ref l22) (.tuple (xs.map kN)):=(i23.by (S24.trans S25)).di K26 im1;have T26:=T18.trans V26;wtm_at "gt";exact main H26 _ V26 e26 (((B18.by V26).app (.cons (dY T26 j26 im1) (zQ (wP.mpr ⟨0,z,rfl⟩) (by decide +kernel) (by rw[wl];lia)) .nil)).app (.cons (dY T26 i26 im2) (zQ (wP.mpr ⟨0,z,rfl⟩) (by decide +kernel) (by rw[wl];lia)) .nil)) (by rw[wy,wy,wL,wL];lia)
 . rw[decide_eq_false z,if_neg (by decide)]
   wtm_at "gt";exact main H20 bs19 (S19.trans S20) (S20 _ _ e19) (B18.by (S19.trans S20)) (by lia)
def Ga(K:wa):Sp:=λvs H Q _=>∃x0 x1,vs=[x0,x1] /\ ∃(x:Rat)(t u:Int)(n:Nat),Is K H x0 (N x)/\Is K H x1 (.tuple [.int t,.int u])/\0<u/\ah n x/\n<=4400/\Bd 4400 t/\Bd 4400 u /\ ∀v H',ag H H'->Is K H' v (N (x+wr t u))->Q v H'
theorem zsw{w:V}(h1:Is K H v (N x))(h2:Is K H w (.tuple [.int t,.int u]))(hu:0<u)(b1:ah 4400 x)(b2:Bd 4400 t)(b3:Bd 4400 u)(q:∀v H',ag H H'->Is K H' v (N (x+wr t u))->Q v H'):Ga K [v,w] H Q E:=⟨_,_,rfl,x,t,u,4400,h1,h2,hu,b1,wn _,b2,b3,q⟩
theorem ztL{w:V}(h1:Is K H v (N x))(h2:Is K H w (N y))(b1:ah 4400 x)(b2:ah 4400 y)(q:∀v H',ag H H'->Is K H' v (N (x+y))->Q v H'):Ga K [v,w] H Q E :=
 zsw h1 h2 (den_pos y) b1 b2.t b2.b (λv H' s i=>q v H' s (by rw[WI]at i;exact i))
local macro_rules | `(tactic| wtm_at "gs")=>`(tactic| ((with_reducible apply ztL); (focus wtm_at "is"); (focus wtm_at "is"); (focus wtm_at "bdr"); (focus wtm_at "bdr"); intro _ _ _ _))
theorem zA0(h:Is K H v (.tuple [.int t,.int u]))(q:Q (.int t) H):dh K v (.int 0) H Q:=az (j:=0) h rfl (λx i=>by rw[aJ.mp i];exact q)
theorem MG(h:Is K H v (.tuple [.int t,.int u]))(q:Q (.int u) H):dh K v (.int 1) H Q:=az (j:=1) h rfl (λx i=>by rw[aJ.mp i];exact q)
theorem zxX(x:Rat)(hu:0<u):wr (x.num*u+t*(x.den:Int)) ((x.den:Int)*u)=x+wr t u:=by
 have hp:=vK (den_pos x) hu;refine gE (by lia) ?_;have k1:=kB x;have k2:=c8 t (show u≠0 by lia);have e1:((x.num*u+t*(x.den:Int):Int):Rat)=(x.num:Rat)*(u:Rat)+(t:Rat)*((x.den:Int):Rat):=by push_cast;rfl
 have e2:(((x.den:Int)*u:Int):Rat)=((x.den:Int):Rat)*(u:Rat):=by push_cast;rfl
 rw[e1,e2,<- k1,<- k2]
 grind
theorem oE(T:Txt K mg a):aI P w K mg base aU 2 a.Kq a.Jo z7 (Ga K):=by
 refine T.mD.F.ok zuy ?_ ?_;wtm_at "b2";refine⟨_,(ay (aC (ak (gZ T) hr T.gq (ae (aB cv (aB cV (au (pv 0)) (au (pv 1))) (aB cV (au (pv 1)) (au (pv 0)))) (ae (aB cV (au (pv 0)) (au (pv 1))) af))))),?_⟩;wtm_at "cl";rw[show start C5 [x0,x1]=[some x0,some x1]from rfl];obtain⟨x,t,u,n,hx,hy,hu,bx,hn,bt,bu,q⟩:=h;obtain⟨bx1,bx2⟩:=bx.mono hn;have hp:=vK (den_pos x) hu;o_head MG hy ?_;o_head zA0 hy ?_;o_head MG hy ?_;o_head oB hp ((bx2.mul bu).mono (by decide)) (λv H' s hv=>?_);rw[zxX x hu]at hv;exact q v H' s hv
def NQ(K:wa):Sp:=λvs H Q _=>∃x0 x1,vs=[x0,x1] /\ ∃(x y:Rat)(m n:Nat),Is K H x0 (N x)/\Is K H x1 (N y)/\ah m x/\ah n y/\m+n<=8999 /\ ∀v H',ag H H'->Is K H' v (N (x-y))->Q v H'
theorem MK{w:V}(h1:Is K H v (N x))(h2:Is K H w (N y))(b1:ah m x)(b2:ah n y)(hmn:m+n<=8999)(q:∀v H',ag H H'->Is K H' v (N (x-y))->Q v H'):NQ K [v,w] H Q E:=⟨_,_,rfl,x,y,m,n,h1,h2,b1,b2,hmn,q⟩
theorem Mj(T:Txt K mg a):aI P w K mg base aU 2 a.JR a.Iz zm (NQ K):=by
 refine T.A_.F.ok zsL ?_ ?_;wtm_at "b2";refine⟨_,(ay (aC (ak (gZ T) hr T.gq (ae (aB jd (aB cV (au (pv 0)) (au (pv 1))) (aB cV (au (pv 1)) (au (pv 0)))) (ae (aB cV (au (pv 0)) (au (pv 1))) af))))),?_⟩;wtm_at "cl";rw[show start Dq [x0,x1]=[some x0,some x1]from rfl];obtain⟨x,y,m,n,hx,hy,bx,by',hmn,q⟩:=h;have cx:=bx.mono (show m<=8999 by lia);have cy:=by'.mono (show n<=8999 by lia);o_head oB (MN x y) ((bx.b.mul by'.b).mono hmn) (λv H' s hv=>?_);rw[Of]at hv;exact q v H' s hv
def LU(K:wa):Sp:=λvs H Q _=>∃x0 x1,vs=[x0,x1] /\ ∃(x y:Rat),Is K H x0 (N x)/\Is K H x1 (N y)/\ah 4000 x/\ah 4000 y /\ ∀v H',ag H H'->Is K H' v (N (x*y))->Q v H'
theorem zoj{w:V}(h1:Is K H v (N x))(h2:Is K H w (N y))(b1:ah 4000 x)(b2:ah 4000 y)(q:∀v H',ag H H'->Is K H' v (N (x*y))->Q v H'):LU K [v,w] H Q E:=⟨_,_,rfl,x,y,h1,h2,b1,b2,q⟩
local macro_rules | `(tactic| wtm_at "gs")=>`(tactic| ((with_reducible apply zoj); (focus wtm_at "is"); (focus wtm_at "is"); (focus wtm_at "bdr"); (focus wtm_at "bdr"); intro _ _ _ _))
theorem CU(T:Txt K mg a):aI P w K mg base aU 2 a.IQ a.Hf zev (LU K):=by
 refine T.tO.F.ok zoF ?_ ?_;wtm_at "b2";refine⟨_,(ay (aC (ak (gZ T) hr T.gq (ae (aB cV (au (pv 0)) (au (pv 1))) (ae (aB cV (au (pv 0)) (au (pv 1))) af))))),?_⟩;wtm_at "cl";rw[show start Ee [x0,x1]=[some x0,some x1]from rfl];obtain⟨x,y,hx,hy,⟨bx1,bx2⟩,⟨by1,by2⟩,q⟩:=h;o_head oB (MN x y) ((bx2.mul by2).mono (by decide)) (λv H' s hv=>?_);rw[Pn]at hv;exact q v H' s hv
def Mt(K:wa):Sp:=λvs H Q _=>∃x0 x1,vs=[x0,x1] /\ ∃(x y:Rat)(m n:Nat),Is K H x0 (N x)/\Is K H x1 (N y)/\ah m x/\ah n y/\m+n<=8998/\y≠0 /\ ∀v H',ag H H'->Is K H' v (N (x / y))->Q v H'
theorem ZC{w:V}(h1:Is K H v (N x))(h2:Is K H w (N y))(b1:ah m x)(b2:ah n y)(hmn:m+n<=8998)(hy:y≠0)(q:∀v H',ag H H'->Is K H' v (N (x / y))->Q v H'):Mt K [v,w] H Q E:=⟨_,_,rfl,x,y,m,n,h1,h2,b1,b2,hmn,hy,q⟩
theorem zrQ{p q:Int}(h:q≠0):wr (0-p) (0-q)=wr p q:=by
 refine gE (by lia) ?_;have k:=c8 p h;have e1:((0-p:Int):Rat) = -(p:Rat):=by rw[xS];push_cast;rfl
 have e2:((0-q:Int):Rat) = -(q:Rat):=by rw[xS];push_cast;rfl
 rw[e1,e2,<- k]
 grind
theorem zr8(T:Txt K mg a):aI P w K mg base aU 2 a.Kc a.Ip uR (Mt K):=by
 refine T.Jl.F.ok ZJ ?_ ?_;wtm_at "b2"
 refine⟨_,(av (cg (cw pB (au (pv 1)) ao (bN _)) (ay (aC (ak (gZ T) hr T.gq (ae (aB jd ao (aB cV (au (pv 0)) (au (pv 1)))) (ae (aB jd ao (aB cV (au (pv 0)) (au (pv 1)))) af))))) ck)
     (ay (aC (ak (gZ T) hr T.gq (ae (aB cV (au (pv 0)) (au (pv 1))) (ae (aB cV (au (pv 0)) (au (pv 1))) af)))))),?_⟩
 wtm_at "cl";rw[show start Gp [x0,x1]=[some x0,some x1]from rfl];obtain⟨x,y,m,n,hx,hy,bx,by',hmn,h0,q⟩:=h;have cx:=bx.mono (show m<=8999 by lia);have cy:=by'.mono (show n<=8999 by lia);have hn:=AB h0;have bb:=bx.b.mul by'.t;have hd:=den_pos x;have bo:Bd 8999 (0-(x.den:Int)*y.num):=by rw[xS];exact bb.neg.mono (by lia)
 k_few
 . rename_i z
   have hp:0<0-(x.den:Int)*y.num:=by
     have:=Int.mul_neg_of_pos_of_neg hd z;lia
   refine oB hp bo (λv H' s hv=>?_);rw[zrQ (by lia),Yh]at hv;exact q v H' s hv
 . rename_i z
   refine oB (vK hd (by lia)) (bb.mono (by lia)) (λv H' s hv=>?_);rw[Yh]at hv;exact q v H' s hv
def Mi(K:wa):Sp:=λvs H Q _=>∃x0 x1,vs=[x0,x1] /\ ∃(a b:Rat)(n:Int),x1=.int n/\Is K H x0 (R a b)/\ah 10 a/\ah 10 b/\0<=n/\n<=64 /\ ∀v H',ag H H'->Is K H' v (R (a^n.toNat) (aE a b n.toNat))->Q v H'
theorem zpa{a:Rat}{n:Int}(h1:Is K H v (R a b))(b1:ah 10 a)(b2:ah 10 b)(h0:0<=n)(h64:n<=64)(q:∀v H',ag H H'->Is K H' v (R (a^n.toNat) (aE a b n.toNat))->Q v H'):Mi K [v,.int n] H Q E:=⟨_,_,rfl,a,b,n,rfl,h1,b1,b2,h0,h64,q⟩
theorem zo4(T:Txt K mg a):aI P w K mg base aU 3 a.IW a.Hv zD (Mi K):=by
 refine T.HW.F.ok zS ?_ ?_;wtm_at "b2"
 refine⟨_,(av (aA 2 zS.nd (bC (ae (bC (ae ao (ae ao af))) (ae (bC (ae ao (ae ao af))) af))))
     (av (gD vd rfl (jo rfl T.h0j (ae (pv 1) af)) (bP (i:=3) zS.nd rfl (Or.inl rfl)) (ay (aA 2 zS.nd (bC (ae (ak (CU T) hr T.tO (ae (au (pv 0)) (ae (au (pv 2)) af))) (ae (ak (oE T) hr T.mD (ae (ak (CU T) hr T.tO (ae (au (pv 0)) (ae (au (pv 2)) af))) (ae (au (pv 0)) af))) af))))))
     (ay (aC (pv 2))))),?_⟩
 wtm_at "cl";rw[show start MT [x0,x1]=[some x0,some x1,none,none]from rfl];obtain⟨r,s',n,rfl,hr',ba,bb,h0,h64,q⟩:=h;o_head eY (r:=1) rfl rfl (λv1 H1 S1 i1=>?_);o_head eY (r:=0) rfl rfl (λv2 H2 S2 i2=>?_);o_head ED (i1.by S2) i2 (λv3 H3 S3 i3=>?_);o_head ku (n:=n) (by lia) (by lia) (λi σ H'=>∃(f:V)(o:Option V),σ = [some x0,some (.int n),some f,o]/\ag H H'/\Is K H' f (R (r^i) (aE r s' i))) ⟨_,_,rfl,S1.trans (S2.trans S3),by rw[VY];exact i3⟩ ?_ ?_
 . rintro i σ H' hi ⟨f,o,rfl,S,hf⟩
   have hr1:=hr'.by S;have bf:ah 650 (r^i):=(ba.pow i).mono (by lia);have bg:ah 1400 (aE r s' i):=(ba.aE bb i).mono (by lia);o_head ED (a:=r*r^i) (b:=r*aE r s' i+s') (by wtm_at "is") (by wtm_at "is") (λv4 H4 S4 i4=>?_);o_head ⟨_,_,rfl,ag.back S4 (by wtm_at "same"),?_⟩;rw[Wx,qA];exact i4
 . rintro σ H' ⟨f,o,rfl,S,hf⟩
   k_few;exact q _ _ S hf
def iF(a b:Rat)(ns:List Int)(xs:List Rat):Nat->Rat
 | 0=>0
 | k+1=>iF a b ns xs k+(1-(aR a b ns (xs++[0]) k).getD k 0)
def j4(a b:Rat)(ns:List Int)(xs:List Rat)(k:Nat):List Rat:=(wp k).map λj=>(aR a b ns (xs++[0]) (j+1)).getD ((j+1) % ns.length) 0
theorem zxg(a b:Rat)(ns:List Int)(xs:List Rat)(k:Nat):j4 a b ns xs (k+1)=j4 a b ns xs k++[(aR a b ns (xs++[0]) (k+1)).getD ((k+1) % ns.length) 0]:=by
 unfold j4;rw[qQ,vF];rfl
theorem FW{u:V}(h:ai K H us (xs.map N))(k:Is K H u (N x)):ai K H (us++[u]) ((xs++[x]).map N):=by
 rw[vF];exact h.append (.cons k .nil)
theorem zAp{m:Int}(h:aP K H p (ns.map V.int))(h0:0<=m)(h1:m<ns.length)(q:Q (.int (ns.getD m.toNat 0)) H):dh K (.ref p) (.int m) H Q:=by
 obtain⟨n,rfl⟩:∃n:Nat,m=(n:Int):=⟨m.toNat,by lia⟩;refine jD h (mm (j:=n) (v:=.int (ns.getD n 0)) ?_) q;rw[wo,wb,wc (by lia)]
 rfl
def FU(K:wa):Sp:=λvs H Q _=>∃x0 x1 x2,vs=[x0,x1,x2] /\ ∃(a b:Rat)(ns:List Int)(xs:List Rat)(p1:wf),x1=.ref p1/\Is K H x0 (R a b)/\aP K H p1 (ns.map V.int)/\(Is K H x2 (LN xs)\/Is K H x2 (TN xs))/\cZ a b ns xs/\(∀k,k<=ns.length->Cm 3500 (aR a b ns (xs++[0]) k))/\(∀k,k<ns.length->ah 4300 (iF a b ns xs k)) /\ ∀t lb vt lh us hs H',ag H H'->H' t=some (.tup [.ref lb,vt,.ref lh])->H' lb=some (.lst us)->ai K H' us ((dj a b ns xs).map N)->Is K H' vt (N (iF a b ns xs ns.length))->H lh=none->H' lh=some (.lst hs)->ai K H' hs ((j4 a b ns xs ns.length).map N)->Q (.ref t) H'
theorem zpl{a:Rat}{u:V}(h1:Is K H v (R a b))(h2:aP K H p1 (ns.map V.int))(h3:Is K H u (LN xs)\/Is K H u (TN xs))(ok:cZ a b ns xs)(hrow:∀k,k<=ns.length->Cm 3500 (aR a b ns (xs++[0]) k))(htm:∀k,k<ns.length->ah 4300 (iF a b ns xs k))(q:∀t lb vt lh us hs H',ag H H'->H' t=some (.tup [.ref lb,vt,.ref lh])->H' lb=some (.lst us)->ai K H' us ((dj a b ns xs).map N)->Is K H' vt (N (iF a b ns xs ns.length))->H lh=none->H' lh=some (.lst hs)->ai K H' hs ((j4 a b ns xs ns.length).map N)->Q (.ref t) H'):FU K [v,.ref p1,u] H Q E:=⟨_,_,_,rfl,a,b,ns,xs,p1,rfl,h1,h2,h3,ok,hrow,htm,q⟩
theorem zqy{a:Rat}{u:V}(h1:Is K H v (R a b))(h2:aP K H p1 (ns.map V.int))(h3:Is K H u (LN xs)\/Is K H u (TN xs))(ok:cZ a b ns xs)(hrow:∀k,k<=ns.length->Cm 3500 (aR a b ns (xs++[0]) k))(htm:∀k,k<ns.length->ah 4300 (iF a b ns xs k))(q:∀v H',ag H H'->Is K H' v (.tuple [LN (dj a b ns xs),N (iF a b ns xs ns.length),LN (j4 a b ns xs ns.length)])->Q v H'):FU K [v,.ref p1,u] H Q E :=
 zpl h1 h2 h3 ok hrow htm (λt lb vt lh us hs H' S et eb tb it _ eh th=>q (.ref t) H' S (cb.mpr ⟨t,_,rfl,.of et,.cons (dN eb tb) (.cons it (.cons (dN eh th) .nil))⟩))
theorem zD4{row:List Rat}(c:Cm m row){k:Nat}(hj:j<row.length)(hk:k<row.length):ah (m+2) (row.getD j 0+(1-row.getD k 0)):=by
 have c0:Cm m (0::row):=c.kZ λy hy=>by rcases wH.mp hy with rfl | hy;(exact .inr rfl);exact .inl hy
 exact(c0.rise (GM.getD_mem hk)).dQ (wu _ (wP.mpr ⟨_,GM.getD_mem hj,rfl⟩))
theorem zrl(T:Txt K mg a):aI P w K mg base aU 4 a.JJ a.HZ yL (FU K):=by
 refine T.Iq.F.ok j2 ?_ ?_;wtm_at "b3"
 refine⟨_,(av (aA 3 j2.nd (aB cv (dW (show aN _ (.type "list") (ke K)from oj) rfl T.h0l kF (ae (pv 2) af)) (d4 (ae (bC (ae ao (ae ao af))) af))))
     (av (aA 4 j2.nd (bC (ae ao (ae ao af))))
     (av (aA 5 j2.nd (d4 af))
     (av (gD vd rfl (jo rfl T.h0j (ae (bQ (show aN _ (.builtin "len") (cO K)from dH) rfl T.h0o dM (ae (pv 1) af)) af)) (bP (i:=6) j2.nd rfl (Or.inl rfl)) (av (aA 7 j2.nd (ak (Mj T) hr T.A_ (ae (bC (ae ao (ae ao af))) (ae (c9 cJ (pv 3) (pv 6) (λ_ _=>rfl)) af))))
     (av (aA 4 j2.nd (ak (oE T) hr T.mD (ae (pv 4) (ae (pv 7) af))))
     (av (aA 8 j2.nd (ak (zo4 T) hr T.HW (ae (pv 0) (ae (c9 cJ (pv 1) (pv 6) (λ_ _=>rfl)) af))))
     (av (mR (i:=9) j2.nd rfl (Or.inl rfl) rfl (cK.by (N':=["_law_phase","_law_wait"]) (src:=[none,some 7]) rfl (by kernel_rfl)) (fe (pv 3)) (λ_ _ _ _ _=>(bP (i:=0) (of_decide_eq_true (by kernel_rfl)) rfl (Or.inl rfl))) (λ_ _ _ _ _=>dw) (λ_ _ _ _ _=>(ak (oE (K:=K) (mg:=mg) (a:=a) T) hr T.mD (ae (pv 0) (ae (pv 1) af)))))
     (av (mR (i:=3) j2.nd rfl (Or.inl rfl) rfl (cK.by (N':=["_law_phase","_law_often"]) (src:=[none,some 8]) rfl (by kernel_rfl)) (fe (pv 9)) (λ_ _ _ _ _=>(bP (i:=0) (of_decide_eq_true (by kernel_rfl)) rfl (Or.inl rfl))) (λ_ _ _ _ _=>dw) (λ_ _ _ _ _=>(ak (oE (K:=K) (mg:=mg) (a:=a) T) hr T.mD (ae (ak (CU (K:=K) (mg:=mg) (a:=a) T) hr T.tO (ae (kQ (K:=K) cJ (pv 1)) (ae (pv 0) af))) (ae (kQ (K:=K) cJ (pv 1)) af)))))
     (av (sE (bC (ae ao (ae ao af))) (rM (pv 3) (pv 6) rR))
     (ay (ki (jZ vP vM vN jC (pv 5) (ae (c9 cJ (pv 3) (aB iB (aB cv (pv 6) ao) (bQ (show aN _ (.builtin "len") (cO K)from dH) rfl T.h0o dM (ae (pv 1) af))) (λ_ _=>rfl)) af)))))))))))
     (ay (aC (bC (ae (fY fV (pv 3) fS (fT (fE fC ao))) (ae (pv 4) (ae (pv 5) af)))))))))),?_⟩
 wtm_at "cl";rw[show start UL [x0,x1,x2]=[some x0,some x1,some x2,none,none,none,none,none,none,none]from rfl];obtain⟨ra,rb,ns,xs,p1,rfl,hr',hn',hp',ok,hrow,htm,q⟩:=h;have hlen:=ok.len;have hfew:=ok.bM;o_head zwp hp' (λl1 H1 us hl1 S1 e1 t1=>?_);have hul:=t1.length;rw[wl]at hul;o_head eY (r:=0) rfl rfl (λv2 H2 S2 i2=>?_);o_head cS (by simp) (λl3 H3 hl3 S3 e3=>?_);refine fR (S3 _ _ (S2 _ _ e1)) e3 (WN (jV (by simp;lia))) (λlp H4 hl4 S4 e4=>?_);o_head eY (r:=0) rfl rfl (λv5 H5 S5 i5=>?_);o_head cS (by simp) (λlh H6 hlh S6 e6=>?_);have T4:ag H H4:=S1.trans (S2.trans (S3.trans S4));have T6:ag H H6:=T4.trans (S5.trans S6);have t6:ai K H6 (us++[v2]) ((xs++[0]).map N):=FW (ai.same (S2.trans (S3.trans (S4.trans (S5.trans S6)))) _ _ t1) (i2.by (S3.trans (S4.trans (S5.trans S6))));have e46:=S6 _ _ (S5 _ _ e4);have hD:=iU (T4.trans S5) hlh;have neph:lp≠lh:=λz=>by subst z;rw[S5 _ _ e4]at hlh;cases hlh
 have i56:=i5.by S6;clear S1 S2 S3 S4 S5 S6 e1 e3 e4 t1 i2 i5 hl1 hl3 hl4 hlh T4;o_head gv (T6.seq hn') ?_;rw[wl];refine ku (n:=(ns.length:Int)) (by lia) (by lia) (λk σ H'=>∃lp vt o6 o7 o8 o9 us hs,σ = [some x0,some (.ref p1),some x2,some (.ref lp),some vt,some (.ref lh),o6,o7,o8,o9]/\ag H H'/\lp≠lh/\H' lp=some (.lst us)/\ai K H' us ((aR ra rb ns (xs++[0]) k).map N)/\Is K H' vt (N (iF ra rb ns xs k))/\H' lh=some (.lst hs)/\ai K H' hs ((j4 ra rb ns xs k).map N)) ⟨lp,v5,_,_,_,_,_,[],rfl,T6,neph,e46,t6,i56,e6,.nil⟩ ?_ ?_
 . rintro k σ H7 hk ⟨lp,vt,o6,o7,o8,o9,us,hs,rfl,S7,neph,e7,t7,it7,h7,th7⟩
   have hk':k<ns.length:=by simpa using hk
   have b1:=htm k hk';have hmk:=hrow k (by lia);have hrl:(aR ra rb ns (xs++[0]) k).length=ns.length:=by rw[du,wy];simp;lia
   have e8:aR ra rb ns (xs++[0]) (k+1)=dZ ra rb (ns.getD k 0).toNat (aR ra rb ns (xs++[0]) k) k:=rfl;have et:iF ra rb ns xs (k+1)=iF ra rb ns xs k+(1-(aR ra rb ns (xs++[0]) k).getD k 0):=rfl;have eh:=zxg ra rb ns xs k;have bb:∀j,ah 3500 ((aR ra rb ns (xs++[0]) k).getD j 0):=λj=>hmk.get j
   have hnk:=ok.n0 (ns.getD k 0) (by rw[wb,wc hk'];exact vT _);generalize aR ra rb ns (xs++[0]) k=row at *;have bw:ah 3502 (1-row.getD k 0):=(ah.one.sub (bb k)).mono (by decide);have bk:=bb k;o_head eY (r:=1) rfl rfl (λv8 H8 S8 i8=>?_);o_head lH (dN (S8 _ _ e7) (ai.same S8 _ _ t7)) (by lia) (by lia) (λv9 i9=>?_);rw[wS]at i9;have it8:=it7.by S8;o_head MK i8 i9 ah.one bk (by decide) (λv10 H10 S10 i10=>?_);have it10:=it8.by S10;k_few;rename_i v11 H11 S11 i11;have T11:=S8.trans (S10.trans S11);refine zAp (T11.seq (S7.seq hn')) (by lia) (by lia) ?_;rw[wS];o_head zpa ((hr'.by S7).by T11) ok.ba ok.bb hnk.1 hnk.2 (λv12 H12 S12 i12=>?_);have T12:=T11.trans S12;have bf:ah 700 (ra^(ns.getD k 0).toNat):=(ok.ba.pow _).mono (by lia);have bg:ah 1500 (aE ra rb (ns.getD k 0).toNat):=(ok.ba.aE ok.bb _).mono (by lia);have i1012:=i10.by (S11.trans S12);have i1112:=i11.by S12;have e12:=T12 _ _ e7;have t12:ai K H12 us (row.map N):=ai.same T12 _ _ t7;have h12:=T12 _ _ h7;have th12:ai K H12 hs ((j4 ra rb ns xs k).map N):=ai.same T12 _ _ th7;have X12:=S7.trans T12;have hul:us.length=row.length:=by rw[t12.length,wl]
   rw[<- et]at i1112;clear S8 S10 S11 S12 T11 T12 i8 i9 i10 i11 e7 t7 h7 th7 it7 it8;o_head iY (.of e12) (o0:=none) (tl:=[some v10]) rfl (λj v H=>Is K H v (N ((row.map λx=>x+(1-row.getD k 0)).getD j 0))) ?_ ?_
   . rintro D j x ys o H1 hx' inv
     obtain⟨hj,ix⟩:=dJ t12 hx';have ix1:=ix.by inv.same;have jv:=i1012.by inv.same;have bx:=bb j;k_few;rename_i v4 H4 S4 iv4;exact dB inv (by lia) gm ⟨_,rfl⟩ S4 (by rw[pP hj];exact iv4)
   . rintro D ys H13 hn13 S13 e13 hl13 hr13
     have hyl:ys.length=row.length:=by lia
     have t13:ai K H13 ys ((row.map λx=>x+(1-row.getD k 0)).map N):=gu (by rw[wl];exact hyl) hr13;have hn0:H12 D=none:=hn13;o_head iY (.of e13) (o0:=none) (tl:=[some v12]) rfl (λj v H=>Is K H v (N ((row.map λx=>push ra rb (ns.getD k 0).toNat (x+(1-row.getD k 0))).getD j 0))) ?_ ?_
     . rintro D2 j x zs o H1 hx' inv
       obtain⟨hj,ix⟩:=dJ t13 hx';rw[wl]at hj;rw[pP hj]at ix;have ix1:=ix.by inv.same;have jv:=(i12.by S13).by inv.same;have bx:ah 3502 (row.getD j 0+(1-row.getD k 0)):=zD4 hmk hj (by lia);k_few;rename_i v4 H4 S4 iv4 v5 iv5 v6 H6 S6 iv6;exact dB inv (by lia) gm ⟨_,rfl⟩ (S4.trans S6) (by rw[pP hj,iZ];exact iv6)
     . rintro D2 zs H14 hn14 S14 e14 hl14 hr14
       have hzl:zs.length=row.length:=by lia
       have T14:=S13.trans S14;o_head eY (r:=0) rfl rfl (λv15 H15 S15 i15=>?_);o_head z5 (j:=k) (S15 _ _ e14) (by unfold iV;rw[if_pos (by lia),if_pos (by lia)];simp) (λH16 E16 e16=>?_);have hD2:H12 D2=none:=iU S13 hn14;have ne2:lh≠D2:=λz=>by subst z;rw[h12]at hD2;cases hD2
       have hDH:=iU X12 hD2;have T15:=T14.trans S15;have h16:=E16 lh _ ne2 (T15 _ _ h12);have K16:bE H15 H16:=E16.keep (S15 _ _ e14)
       have t16:ai K H16 (zs.set k v15) ((dZ ra rb (ns.getD k 0).toNat row k).map N):=by
         refine gu (by rw[W9,jc];exact hzl) λj v hv=>?_
         rw[Vi]at hv
         by_cases hij:k=j
         . subst hij
           rw[if_pos rfl,if_pos (by lia)]at hv;cases hv;rw[gS _ _ _ _ _ _ (by lia),if_pos rfl];exact i15.gM K16
         . rw[if_neg hij]at hv
           have hj:j<row.length:=by
             rcases wD j zs.length with z | z
             . lia
             . rw[wE z]at hv;cases hv
           have hz:=hr14 j v hv;rw[pP hj]at hz;rw[gS _ _ _ _ _ _ hj,if_neg (Wr hij)];exact(hz.by S15).gM K16
       rw[<- e8]at t16;have th16:ai K H16 hs ((j4 ra rb ns xs k).map N):=ai.keep (T15.keep.trans K16) _ _ (gf _) th12;have i1116:=(i1112.by T15).gM K16;have X16:ag H H16:=(X12.trans T15).grow hDH E16;have hrl2:(aR ra rb ns (xs++[0]) (k+1)).length=ns.length:=by rw[du,wy];simp;lia
       have hhl:hs.length=k:=by
         have:=th16.length;rw[wl]at this;unfold j4 at this
         simpa using this
       clear hr14 e14 hn14 S14 S15 T14 T15 S13 e13 t13 hr13 hn13 i12 i1012 i1112 e12 t12 h12 th12 i15;o_head jA (aP.of h16) ?_;o_head gv (X16.seq hn') ?_;rw[wl];have hn0':(0:Int)<(ns.length:Int):=by lia
       k_few;have em:((k:Int)+1) % (ns.length:Int)=(((k+1) % ns.length:Nat):Int):=by push_cast;rfl
       have hmd:(k+1) % ns.length<ns.length:=XN _ (by lia);rw[em];refine lH (dN e16 t16) (by lia) (by lia) (λv17 i17=>?_);rw[wS]at i17;o_head jG h16 (by lia) (λH18 E18 e18=>?_);have K18:=E18.keep h16;o_head ⟨D2,_,_,_,_,_,_,hs++[v17],rfl,X16.grow hD E18,Wr ne2,E18 D2 _ (Wr ne2) e16,ai.keep K18 _ _ (gf _) t16,i1116.gM K18,e18,?_⟩;rw[eh];exact FW (ai.keep K18 _ _ (gf _) th16) (i17.gM K18)
 . rintro σ H7 ⟨lp,vt,o6,o7,o8,o9,us,hs,rfl,S7,neph,e7,t7,it7,h7,th7⟩
   o_head nI (dN e7 t7) (λl20 H20 ys20 n20 S20 e20 t20=>?_);rw[DE,<- Qs]at t20;o_head e_ (by simp) (λt21 H21 n21 S21 e21=>?_);exact q t21 l20 vt lh ys20 hs H21 (S7.trans (S20.trans S21)) e21 (S21 _ _ e20) (ai.same S21 _ _ t20) (it7.by (S20.trans S21)) hD ((S20.trans S21) _ _ h7) (ai.same (S20.trans S21) _ _ th7)
def Pg(K:wa):Sp:=λvs H Q _=>∃x0 x1,vs=[x0,x1] /\ ∃(a:Rat)(n:Int)(k:Nat),x1=.int n/\Is K H x0 (N a)/\ah k a/\k<=4000/\0<=n/\n<=100/\k*n.toNat<=4000 /\ ∀v H',ag H H'->Is K H' v (N (a^n.toNat))->Q v H'
theorem zq7{a:Rat}{n:Int}{k:Nat}(h:Is K H v (N a))(b:ah k a)(hk:k<=4000)(n0:0<=n)(n1:n<=100)(hkn:k*n.toNat<=4000)(q:∀v H',ag H H'->Is K H' v (N (a^n.toNat))->Q v H'):Pg K [v,.int n] H Q E:=⟨_,_,rfl,a,n,k,rfl,h,b,hk,n0,n1,hkn,q⟩
theorem Dz{k:Nat}{x:Int}(h:Bd k x):∀n:Nat,Bd (k*n+1) (x^n)
 | 0=>⟨by simp⟩
 | n+1=>by
  rw[Vy];exact((Dz h n).mul h).mono (by rw[Nat.mul_add];lia)
theorem zq5(T:Txt K mg a):aI P w K mg base aU 1 a.Js a.Ib zU (Pg K):=by
 refine T.IH.F.ok oU ?_ ?_;wtm_at "b2"
 refine⟨_,(av (aA 2 oU.nd ao)
     (av (aA 3 oU.nd ao)
     (av (gD vd rfl (jo rfl T.h0j (ae (pv 1) af)) (bP (i:=4) oU.nd rfl (Or.inl rfl)) (av (aA 2 oU.nd (aB cV (pv 2) (au (pv 0))))
     (ay (aA 3 oU.nd (aB cV (pv 3) (au (pv 0)))))))
     (ay (aC (bC (ae (pv 2) (ae (pv 3) af)))))))),?_⟩
 wtm_at "cl";rw[show start RL [x0,x1]=[some x0,some x1,none,none,none]from rfl];obtain⟨ra,n,kk,rfl,hx,ba,hk4,n0,n1,hkn,q⟩:=h;have bt:Bd 4000 ra.num:=ba.t.mono hk4;have bd:Bd 4000 (ra.den:Int):=ba.b.mono hk4;o_head ku (n:=n) (by lia) (by lia) (λi σ H'=>∃o,σ = [some x0,some (.int n),some (.int (ra.num^i)),some (.int ((ra.den:Int)^i)),o]/\H'=H) ⟨none,by rw[qS,qS],rfl⟩ ?_ ?_
 . rintro i σ H' hi ⟨o,rfl,rfl⟩
   have hki:kk*i<=kk*n.toNat:=qW _ (by lia);have b1:Bd 4001 (ra.num^i):=(Dz ba.t i).mono (by lia);have b2:Bd 4001 ((ra.den:Int)^i):=(Dz ba.b i).mono (by lia);have e1:ra.num^(i+1)=ra.num^i*ra.num:=Vy ..;have e2:(ra.den:Int)^(i+1)=(ra.den:Int)^i*(ra.den:Int):=Vy ..;generalize ra.num^i=t at *;generalize (ra.den:Int)^i=u at *;k_few;exact⟨_,by rw[e1,e2],rfl⟩
 . rintro σ H' ⟨o,rfl,rfl⟩
   k_few;exact eY (r:=ra^n.toNat) (Rat.num_pow ..).symm (by rw[Rat.den_pow];push_cast;rfl) q
def Ny(K:wa):Sp:=λvs H Q _=>∃x0 x1,vs=[x0,x1] /\ ∃(a b:Rat)(ns:List Int)(p1:wf),x1=.ref p1/\Is K H x0 (R a b)/\aP K H p1 (ns.map V.int)/\aZ a b/\dm ns/\a≠1 /\ ∀l H' us,H l=none->ag H H'->H' l=some (.lst us)->ai K H' us ((df a b ns).map N)->Q (.ref l) H'
theorem zrw{a:Rat}(h1:Is K H v (R a b))(h2:aP K H p1 (ns.map V.int))(ok:aZ a b)(sz:dm ns)(ha:a≠1)(q:∀l H' us,H l=none->ag H H'->H' l=some (.lst us)->ai K H' us ((df a b ns).map N)->Q (.ref l) H'):Ny K [v,.ref p1] H Q E:=⟨_,_,rfl,a,b,ns,p1,rfl,h1,h2,ok,sz,ha,q⟩
theorem zzy{a:Rat}(h:aZ a b)(k:dm ns)(hl:ns.length=xs.length+1)(c:Cm m xs)(hm:m<=3290):cZ a b ns xs/\(∀j,j<=ns.length->Cm 3500 (aR a b ns (xs++[0]) j)) /\ ∀j,j<ns.length->ah 4300 (iF a b ns xs j):=by
 have h8:=k.bM;have hu:=k.upTo
 have ht:∀j,iF a b ns xs j=fh a b ns (xs++[0]) j:=λj=>by
  induction j with
  | zero=>rfl
  | succ j ih=>rw[iF,fh,ih]
 have hc:∀j,j<=ns.length->Cm 3500 (fh a b ns (xs++[0]) j::aR a b ns (xs++[0]) j):=λj hj=>by
  have h1:=EK (ns:=ns) hj (wn _);exact(c.snoc.Bp h.ba h.bb (ns:=ns) j hj).mono (by lia)
 refine⟨⟨h.ba,h.bb,λn hn=>by have:=k.each n hn;lia,hl,by lia,⟨m,c,by lia⟩⟩,λj hj=>lY (hc j hj) λy hy=>wu _ hy,λj hj=>?_⟩;rw[ht];exact((hc j (by lia)).dQ (wB ..)).mono (by decide)
theorem U_(e:H l=some (.lst [v]))(h0:0<=k)(h1:k<=1000)(q:∀p H',H p=none->ag H H'->H' p=some (.lst (w8 k.toNat v))->Q (.ref p) H'):rp (.ref l) (.int k) H Q :=
 zDh e (by lia) h1 (by rw[wL];lia) (λp H' n s e'=>q p H' n s (by rw[e',List.flatten_replicate_singleton]))
theorem zsj(h:Is K H v (N 0))(n:Nat):ai K H (w8 n v) ((cT n).map N):=by
 unfold cT;rw[xT];exact ai.KZ h n
theorem zqW(T:Txt K mg a):aI P w K mg base aU 5 a.JI a.Ic uA (Ny K):=by
 refine T.IP.F.ok Dy ?_ ?_;wtm_at "b2"
 refine⟨_,(av (aA 2 Dy.nd (ak (zq5 T) hr T.IH (ae (au (pv 0)) (ae (bQ (show aN _ (.builtin "sum") (Fi K)from zuf rfl) rfl T.h0p LM (ae (pv 1) af)) af))))
     (av (aA 3 Dy.nd (au (ak (zrl T) hr T.Iq (ae (pv 0) (ae (pv 1) (ae (aB (show aM _ (Wd .Mult) rp from LO) (d4 (ae (bC (ae ao (ae ao af))) af)) (aB jd (bQ (show aN _ (.builtin "len") (cO K)from dH) rfl T.h0o dM (ae (pv 1) af)) ao)) af))))))
     (ay (aC (dS rfl (cK.by (N':=["_law_shift","_law_factor"]) (src:=[none,some 2]) rfl (by kernel_rfl)) (fe (pv 3)) (λ_ _ _ _ _=>(bP (i:=0) (of_decide_eq_true (by kernel_rfl)) rfl (Or.inl rfl))) (λ_ _ _ _ _=>dw) (λ_ _ _ _ _=>by exact(ak (zr8 (K:=K) (mg:=mg) (a:=a) T) hr T.Jl (ae (pv 0) (ae (ak (Mj (K:=K) (mg:=mg) (a:=a) T) hr T.A_ (ae (show PE _ _ (jw K _)from bC (ae ao (ae ao af))) (ae (pv 1) af))) af))))))))),?_⟩
 wtm_at "cl";rw[show start O4 [x0,x1]=[some x0,some x1,none,none]from rfl];obtain⟨ra,rb,ns,p1,rfl,hr',hn',ok,sz,ha,q⟩:=h;have h8:=sz.bM;have h1:=sz.some;have hp:=sz.pos;have hF:ra^ns.sum.toNat≠1:=λe=>ha ((u4 ok (by lia)).mp e)
 have bF:ah 49 (ra^ns.sum.toNat):=(jW ok _).mono (by lia);have hne:1-ra^ns.sum.toNat≠0:=λe=>hF (by grind)
 have rc:=zzy ok sz (xs:=cT (ns.length-1)) (by rw[zM];lia) (rq _) (by decide);k_few;rename_i va ia;refine zBA hn' ?_;o_head zq7 ia (Yi ok) (by decide) (by lia) (by lia) (by lia) (λv1 H1 S1 i1=>?_);o_head eY (r:=0) rfl rfl (λv2 H2 S2 i2=>?_);o_head cS (by simp) (λl3 H3 n3 S3 e3=>?_);o_head gv ((S1.trans (S2.trans S3)).seq hn') ?_;rw[wl];o_head U_ e3 (by lia) (by lia) (λl4 H4 n4 S4 e4=>?_);have T4:=S1.trans (S2.trans (S3.trans S4));have hk:((ns.length:Int)-1).toNat=ns.length-1:=by lia
 rw[hk]at e4;have i4:Is K H4 (.ref l4) (LN (cT (ns.length-1))):=dN e4 (zsj (i2.by (S3.trans S4)) _);o_head zqy (hr'.by T4) (T4.seq hn') (.inl i4) rc.1 rc.2.1 rc.2.2 (λv5 H5 S5 i5=>?_);o_head az (j:=0) i5 rfl (λv6 i6=>?_);have T5:=T4.trans S5;have i15:=i1.by (S2.trans (S3.trans (S4.trans S5)));obtain⟨l6,us,rfl,hs6,t6⟩:=cu.mp i6;have hul:=t6.length;rw[wl]at hul;have hsl:(dk ra rb ns).length=ns.length-1:=pJ h1;have hul:us.length=ns.length-1:=by rw[hul];exact hsl
 have hstl:(df ra rb ns).length=ns.length-1:=yi h1;o_head iY hs6 (o0:=none) (tl:=[some v1]) rfl (λj y H'=>Is K H' y (N ((df ra rb ns).getD j 0))) ?_ ?_
 . intro D j x ys o H7 hx inv
   obtain⟨hj,ix⟩:=dJ (xs:=dk ra rb ns) t6 hx;have S7:=inv.same;have ix7:=ix.by S7;o_head eY (r:=1) rfl rfl (λv8 H8 S8 i8=>?_);o_head MK i8 (i15.by (S7.trans S8)) ah.one bF (by decide) (λv9 H9 S9 i9=>?_);o_head ZC (ix7.by (S8.trans S9)) i9 (zV ok sz j) (ah.one.sub bF) (by decide) hne (λv10 H10 S10 i10=>?_);have e:(df ra rb ns).getD j 0=(dk ra rb ns).getD j 0 / (1-ra^ns.sum.toNat):=Od (by lia);rw[<- e]at i10;exact dB inv (by lia) gm ⟨_,rfl⟩ (S8.trans (S9.trans S10)) i10
 . intro D ys H7 hn S7 hD hl hr
   exact q D H7 ys (iU T5 hn) (T5.trans S7) hD (gu (by rw[hl,hul,hstl]) hr)
def SV(K:wa):Sp:=λvs H Q _=>∃x0 x1 x2,vs=[x0,x1,x2] /\ ∃(p:wf)(k m:Int)(ra rb:Rat),x0=.ref p/\x2=.int m/\Is K H x1 (R ra rb)/\aZ ra rb/\cq H p k/\k<=900/\3<=m/\m<=8 /\ ∀(l:wf)(H':Hp)(us:List V)(xs:List Rat),H l=none->Exc p H H'->bE H H'->cq H' p (k+13)->H' l=some (.lst us)->ai K H' us (xs.map N)->1<=xs.length->(xs.length:Int)<=m->(∀x∈xs,fH x)->Q (.ref l) H'
theorem N4{m:Int}(ir:Is K H v (R ra rb))(ok:aZ ra rb)(h:cq H p k)(hk:k<=900)(h1:3<=m)(h8:m<=8)(q:∀(l:wf)(H':Hp)(us:List V)(xs:List Rat),H l=none->Exc p H H'->bE H H'->cq H' p (k+13)->H' l=some (.lst us)->ai K H' us (xs.map N)->1<=xs.length->(xs.length:Int)<=m->(∀x∈xs,fH x)->Q (.ref l) H'):SV K [.ref p,v,.int m] H Q E:=⟨_,_,_,rfl,p,k,m,ra,rb,rfl,rfl,ir,ok,h,hk,h1,h8,q⟩
theorem zAy(h1:1<=n)(h3:n<=3):dm (w8 n (1:Int)):=by
 have:n=1\/n=2\/n=3:=by lia
 rcases this with rfl | rfl | rfl
 ·exact⟨by decide,by decide,by decide,by decide⟩
 ·exact⟨by decide,by decide,by decide,by decide⟩
 ·exact⟨by decide,by decide,by decide,by decide⟩
theorem zyL(h0:¬ x.num<0)(h1:¬ (x.den:Int)<=x.num)(h2:¬ (60:Int)<(x.den:Int)):fH x:=by
 have:=MQ (r:=x.num) (u:=(x.den:Int)) (by lia) (by lia) (by lia);rw[WI]at this;exact this
theorem Me(T:Txt K mg a):aI P w K mg base aU 6 a.JN a.HP AQ (SV K):=by
 refine T.A8.F.ok zK ?_ ?_;wtm_at "b3"
 refine⟨_,(av (aA 3 zK.nd (ak (zjp T) hr T.GC (ae (pv 0) (ae (pv 2) af))))
     (av (cg (PW.pt (fG (cw oF (ak (eI T) hr T.d8 (ae (pv 0) (ae ao af))) ao (bN _)) (gQ (cw (show aM _ (compareOp .Eq) (cR K)from dF hu) (au (pv 1)) (bC (ae ao (ae ao af))) (bN _))))) (ay (aC (pv 3))) ck)
     (av (aA 4 zK.nd (aB cv (ak (zqW T) hr T.IP (ae (pv 1) (ae (aB (show aM _ (Wd .Mult) rp from LO) (d4 (ae ao af)) (aB cv ao (ak (eI T) hr T.d8 (ae (pv 0) (ae ao af))))) af))) (d4 (ae (bC (ae ao (ae ao af))) af))))
     (av (gD vd rfl (fe (pv 4)) (bP (i:=5) zK.nd rfl (Or.inl rfl)) (ay (cg (PW.pt (fG (cw pB (au (pv 5)) ao (bN _)) (fG (cw FR (au (pv 5)) (au (pv 5)) (bN _)) (gQ (cw oF (au (pv 5)) ao (bN _)))))) (ay (aC (pv 3))) ck)))
     (ay (aC (pv 4))))))),?_⟩
 wtm_at "cl";rw[show start UQ [x0,x1,x2]=[some x0,some x1,some x2,none,none,none]from rfl];obtain⟨p,k,m,ra,rb,rfl,rfl,ir,ok,hp,hk,h3,h8,q⟩:=h;o_head zjn hp (by lia) (by lia) (by lia) (λl1 H1 us1 xs1 n1 E1 K1 P1 e1 t1 a1 b1 ph1=>?_);have ne1:l1≠p:=cq.ne n1 hp;k_few
 . rename_i d H2 d0 d1 E2 K2 P2 z
   exact q l1 H2 us1 xs1 n1 (E1.trans E2) (K1.trans K2) (P2.le (by lia)) (E2.at ne1 e1) (ai.keep K2 _ _ (gf _) t1) a1 b1 ph1
 . rename_i d H2 d0 d1 E2 K2 P2 z va ia
   have e2:=E2.at ne1 e1;have t2:ai K H2 us1 (xs1.map N):=ai.keep K2 _ _ (gf _) t1;have ir2:=(ir.nT K1).nT K2;have EA:=E1.trans E2;have KA:=K1.trans K2;clear E1 K1 P1 e1 t1 E2 K2 ir;refine eY (r:=1) rfl rfl (λv3 H3 S3 i3=>?_);refine Cc (ia.by S3) i3 ⟨_,rfl,?_⟩
   by_cases za:ra=1
   . rw[decide_eq_true za,if_pos rfl]
     k_few;exact q l1 H3 us1 xs1 n1 (EA.trans S3.exc) (KA.trans S3.keep) ((P2.same S3).le (by lia)) (S3 _ _ e2) (ai.same S3 _ _ t2) a1 b1 ph1
   . rw[decide_eq_false za,if_neg (by decide)]
     o_head cS (by simp) (λl4 H4 n4 S4 e4=>?_);have P4:=(P2.same S3).same S4;k_few;rename_i r H5 r0 r1 E5 K5 P5;have ne4:l4≠p:=cq.ne n4 (P2.same S3);refine U_ (E5.at ne4 e4) (by lia) (by lia) (λl6 H6 n6 S6 e6=>?_);obtain⟨n,hn⟩:∃n:Nat,2+r=(n:Int):=⟨(2+r).toNat,by lia⟩;rw[hn,wS]at e6;have e6:H6 l6=some (.lst ((w8 n (1:Int)).map V.int)):=by rw[xT];exact e6
     have S34:=S3.trans S4;have KB:=KA.trans (S34.keep.trans (K5.trans S6.keep));have EB:=EA.trans (S34.exc.trans (E5.trans S6.exc));have P6:=P5.same S6;have eB:H6 l1=some (.lst us1):=S6 _ _ (E5.at ne1 (S34 _ _ e2));have tB:ai K H6 us1 (xs1.map N):=ai.keep (S34.keep.trans (K5.trans S6.keep)) _ _ (gf _) t2;have irB:=ir2.nT (S34.keep.trans (K5.trans S6.keep));clear S3 S4 S34 E5 K5 S6 e2 t2 ir2 EA KA P2 P4 P5 e4 i3 ia n4 ne4 n6;o_head zrw irB (.of e6) ok (zAy (by lia) (by lia)) za (λl7 H7 us7 n7 S7 e7 t7=>?_);have hsl:(df ra rb (w8 n (1:Int))).length=n-1:=by rw[yi (by rw[Wl];lia),Wl]
     have hul:=t7.length;rw[wl,hsl]at hul;generalize df ra rb (w8 n (1:Int))=ys at *;o_head eY (r:=0) rfl rfl (λv8 H8 S8 i8=>?_);o_head cS (by simp) (λl9 H9 n9 S9 e9=>?_);refine fR (S9 _ _ (S8 _ _ e7)) e9 (WN (jV (by simp;lia))) (λl10 H10 n10 S10 e10=>?_);have S710:=S8.trans (S9.trans S10);have t10:ai K H10 (us7++[v8]) ((ys++[0]).map N):=FW (ai.same S710 _ _ t7) (i8.by (S9.trans S10));have SC:=S7.trans S710;have hn10:H6 l10=none:=iU (S7.trans (S8.trans S9)) n10
     have hnl:H l10=none:=by
       have ne:l10≠p:=cq.ne hn10 P6;cases e:H l10 with
       | none=>rfl
       | some o=>rw[EB l10 o ne e]at hn10;cases hn10
     clear S7 S8 S9 S10 S710 t7 i8 n7 n9 n10 e7 e9;o_head oS (.of e10) (λi σ H'=>∃o,σ = [some (.ref p),some x1,some (.int m),some (.ref l1),some (.ref l10),o]/\H'=H10 /\ ∀j,j<i->fH ((ys++[0]).getD j 0)) ⟨_,rfl,rfl,λj hj=>by lia⟩ (λi σ H' _ h=>by obtain⟨_,_,rfl,_⟩:=h;exact .of e10) ?_ ?_
     . rintro i x σ H' hx ⟨o,rfl,rfl,hj⟩
       obtain⟨hi,ix⟩:=dJ t10 hx;k_few
       . exact q l1 H' us1 xs1 n1 (EB.trans SC.exc) (KB.trans SC.keep) ((P6.same SC).le (by lia)) (SC _ _ eB) (ai.same SC _ _ tB) a1 b1 ph1
       . exact q l1 H' us1 xs1 n1 (EB.trans SC.exc) (KB.trans SC.keep) ((P6.same SC).le (by lia)) (SC _ _ eB) (ai.same SC _ _ tB) a1 b1 ph1
       . exact q l1 H' us1 xs1 n1 (EB.trans SC.exc) (KB.trans SC.keep) ((P6.same SC).le (by lia)) (SC _ _ eB) (ai.same SC _ _ tB) a1 b1 ph1
       . rename_i z1 z2 z3
         refine⟨_,rfl,rfl,λj hj'=>?_⟩;rcases wD j i with y | y
         . exact hj j y
         . have:j=i:=by lia
           subst this;exact zyL z1 z2 z3
     . rintro σ H' ⟨o,rfl,rfl,hj⟩
       k_few;have hyl:(ys++[0]).length=n:=by simp[hsl];lia
       refine q l10 H' _ (ys++[0]) hnl (EB.trans SC.exc) (KB.trans SC.keep) ((P6.same SC).le (by lia)) e10 t10 (by lia) (by lia) (λy hy=>?_);obtain⟨j,hj',e⟩:=wY hy;have:=hj j (by simp;lia);rw[wb,wc hj']at this;rw[<- e];exact this
theorem gK.lw{a b:Rat}{xs:List Rat}(hk:de a b xs):∀{es:List (Nat × Nat × Nat)}{i n:Nat},gK a b xs i es n->LW a b xs i es n
 | [],_,_,h=>h
 | e::es,i,n,h=>by
  refine⟨h.1,?_,gK.lw hk h.2.2⟩;rcases h.2.1 with⟨e0,er,eg⟩ | ⟨i1,_,R⟩
  ·rw[er,eg]
   exact⟨by lia,by lia,λz=>by lia⟩
  ·have:=R.gN
   have:=(hk.nf i).2;exact⟨R.jj,by lia,λ_=>⟨hk.hp.zero hk.ok.a0 hk.ok.b0 hk.h1 i1,R.free⟩⟩
theorem zur{a:Rat}(h:m<=n):cH a b xs m<=cH a b xs n:=by
 obtain⟨k,rfl⟩:=Nat.exists_eq_add_of_le h;rw[oC];lia
theorem jT(a b:Rat)(xs:List Rat)(es:List (Nat × Nat × Nat))(n:Nat)(w:String):(cf a b xs es n w).length=es.length+1:=by simp[cf]
theorem jM.t_{a:Rat}{w:String}(P:jM a b xs es n w)(ok:de a b xs):∀i k,i+k<=n->Cm 3500 (aG a b (aj a b xs i) k::aj a b (aj a b xs i) k):=λi k h=>by
 have hnf:=ok.nf n;have s1:=P.sp.1;have s2:=P.sp.2;have:=zur (a:=a) (b:=b) (xs:=xs) h;exact ok.kW (by lia) (by lia)
def g6(m:Nat)(d:PyData):Prop:=∃(h:Rat)(q:List Rat)(bR:List PyData),d=.tuple (N h::TN q::bR)/\q.length=m/\((∃r g:Int,bR=[.int r,.int g]) \/ ∃w:String,bR=[.str (wC w)])
def rP(m:Nat)(d:PyData):Prop:=∃(h:Rat)(q:List Rat)(bR:List PyData),d=.tuple (N h::TN q::bR)/\q.length=m/\((∃r g:Int,bR=[.int r,.int g]) \/ ∃w:String,bR=[.str (wC w)])/\ah 3500 h
theorem rP.iI(h:rP m d):g6 m d:=let ⟨a,b,c,e1,e2,e3,_⟩:=h;⟨a,b,c,e1,e2,e3⟩
theorem g6.CG(h:g6 m d):br d=true:=by
 obtain⟨h,q,bR,rfl,_,⟨r,g,rfl⟩ | ⟨w,rfl⟩⟩:=h
 ·rw[br,aV,aV,aV,aV,aV,ff,jn];rfl
 ·rw[br,aV,aV,aV,aV,ff,jn];rfl
theorem g6.small(h:g6 m d)(h8:m<=8):gR d/\iW d:=by
 obtain⟨h,q,bR,rfl,hq,fo⟩:=h;refine⟨λa b ds z ps y=>?_,λa b w z=>?_⟩
 ·cases z
  unfold TN at y;cases y;rw[wl];lia
 ·rcases fo with⟨r,g,rfl⟩ | ⟨w',rfl⟩
  ·cases z
  ·cases z
   exact kS _
def zEb:PyData->Rat
 | .tuple [.int a,.int b]=>wr a b
 | _=>0
def sh(δ : Rat):PyData->PyData
 | .tuple (e::r)=>.tuple (N (zEb e + δ)::r)
 | d=>d
theorem sL(δ h:Rat)(r:List PyData):sh δ (.tuple (N h::r))=.tuple (N (h + δ)::r):=by
 show PyData.tuple (N (wr h.num h.den + δ)::r)=_
 rw[WI]
theorem g6.sh(h:g6 m d)(δ : Rat):g6 m (G.sh δ d):=by
 obtain⟨h,q,bR,rfl,hq,fo⟩:=h;rw[sL];exact⟨_,_,_,rfl,hq,fo⟩
theorem LW.take{a b:Rat}{xs:List Rat} : ∀{es:List (Nat × Nat × Nat)}{i n:Nat},LW a b xs i es n->∀{j:Nat},j<=es.length->LW a b xs i (es.take j) (b_ es n j)
 | es,i,n,h,0,_=>by rw[xg];exact h.first.symm
 | e::es,i,n,h,j+1,hj=>⟨h.1,h.2.1,LW.take h.2.2 (by simpa using hj)⟩
 | [],i,n,h,j+1,hj=>absurd hj (by simp)
theorem LW.idx{a:Rat}(h:LW a b xs 0 es n)(hj:j<=es.length):b_ es n j<=n:=by
 cases j with
 | zero=>rw[h.first];lia
 | succ j=>exact(h.at j (by lia)).2.2.2
theorem MU{a:Rat}{w:String}(lw:LW a b xs 0 es n)(c:∀i k,i+k<=n->Cm 3500 (aG a b (aj a b xs i) k::aj a b (aj a b xs i) k))(hj:j<=es.length){h':Rat}{q':List Rat}{bR more:List PyData}(ne:¬ (h'=aG a b xs (b_ es n j)/\q'=aj a b xs (b_ es n j))):ib a b xs ((cf a b xs es n w).take j++.tuple (N h'::TN q'::bR)::more) false:=by
 cases pap:jR xs.length ((cf a b xs es n w).take j++.tuple (N h'::TN q'::bR)::more)with
 | false=>exact .no pap
 | true =>
  have e1:(cf a b xs es n w).take j=(es.take j).map (jy a b xs):=by
   unfold cf;rw[List.take_append_of_le_length (by simpa using hj),X8]
  rw[e1]at pap ⊢;exact .KJ (es.take j) (b_ es n j) h' q' bR more pap rfl (lw.take hj) ne (λi k h=>c i k (by have:=lw.idx hj;lia))
theorem rm{a:Rat}{w:String}(lw:LW a b xs 0 es n)(c:∀i k,i+k<=n->Cm 3500 (aG a b (aj a b xs i) k::aj a b (aj a b xs i) k)):∀d∈cf a b xs es n w,rP xs.length d:=λd hd=>by
 rcases vb.mp hd with z | z
 ·obtain⟨e,he,rfl⟩:=wP.mp z
  obtain⟨j,hj,rfl⟩:=wY he;have h1:=(lw.at j hj).1;have h2:=lw.idx (j:=j) (by lia);exact⟨_,_,_,rfl,bS ..,.inl ⟨_,_,rfl⟩,(c 0 _ (by lia)).dQ (wB ..)⟩
 ·cases wI.mp z
  exact⟨_,_,_,rfl,bS ..,.inr ⟨_,rfl⟩,(c 0 n (by lia)).dQ (wB ..)⟩
theorem tf{ds:List PyData}(h:∀d∈ds,g6 m d):aV ds=true:=oG λd hd=>(h d hd).CG
def PH(K:wa):Sp:=λvs H Q _=>∃x0 x1,vs=[x0,x1] /\ ∃(p l:wf)(k:Int)(us:List V)(a b:Rat)(xs:List Rat)(es:List (Nat × Nat × Nat))(n:Nat)(w:String),x0=.ref p/\x1=.ref l/\cq H p k/\k<=900/\H l=some (.lst us)/\ai K H us (cf a b xs es n w)/\l≠p/\LW a b xs 0 es n/\es.length<=100/\(∀i k,i+k<=n->Cm 3500 (aG a b (aj a b xs i) k::aj a b (aj a b xs i) k)) /\ ∀v H' ds,Exc p H H'->bE H H'->cq H' p (k+4)->Is K H' v (.list ds)->ib a b xs ds false->ds.length<=101->(∀d∈ds,g6 xs.length d)->Q v H'
theorem znC{a:Rat}{w:String}(hp:cq H p k)(hk:k<=900)(e:H l=some (.lst us))(t:ai K H us (cf a b xs es n w))(ne:l≠p)(lw:LW a b xs 0 es n)(bM:es.length<=100)(c:∀i k,i+k<=n->Cm 3500 (aG a b (aj a b xs i) k::aj a b (aj a b xs i) k))(q:∀v H' ds,Exc p H H'->bE H H'->cq H' p (k+4)->Is K H' v (.list ds)->ib a b xs ds false->ds.length<=101->(∀d∈ds,g6 xs.length d)->Q v H'):PH K [.ref p,.ref l] H Q E:=⟨_,_,rfl,p,l,k,us,a,b,xs,es,n,w,rfl,rfl,hp,hk,e,t,ne,lw,bM,c,q⟩
theorem zoz(T:Txt K mg a):aI P w K mg base aU 3 a.IK a.Hl y9 (PH K):=by
 refine T.HI.F.ok Cp ?_ ?_;wtm_at "b2"
 refine⟨_,(av (aA 2 Cp.nd (ak (eI T) hr T.d8 (ae (pv 0) (ae (bQ (show aN _ (.builtin "len") (cO K)from dH) rfl T.h0o dM (ae (pv 1) af)) af))))
     (av (aA 3 Cp.nd (ak (gZ T) hr T.gq (ae (aB jd ao (aB cV ao (ak (eI T) hr T.d8 (ae (pv 0) (ae ao af))))) (ae (aB cv ao (ak (eI T) hr T.d8 (ae (pv 0) (ae (c9 cJ (d4 (ae ao (ae (uP (v:=1000000) ⟨by decide,by decide,by decide⟩ (by decide +kernel)) af))) (ak (eI T) hr T.d8 (ae (pv 0) (ae ao af))) (λ_ _=>rfl)) af)))) af))))
     (ay (aC (aB cv (fY fV (pv 1) fS (fT (pv 2))) (dS rfl (cK.by (N':=["_law_row","_law_little"]) (src:=[none,some 3]) rfl (by kernel_rfl)) (fe (fY fV (pv 1) (fT (pv 2)) fS)) (λ_ _ _ _ _=>(bP (i:=0) (of_decide_eq_true (by kernel_rfl)) rfl (Or.inl rfl))) (λ_ _ _ _ _=>dw) (λ_ _ _ _ _=>by exact(aB (show aM _ (Wd .Add) (kM K)from mG) (show PE _ _ (jw K _)from bC (ae (ak (oE (K:=K) (mg:=mg) (a:=a) T) hr T.mD (ae (kQ (K:=K) cJ (pv 0)) (ae (pv 1) af))) af)) (fY (show kl _ (oX K)from fV) (pv 0) (fT ao) fS))))))))),?_⟩
 wtm_at "cl";rw[show start O8 [x0,x1]=[some x0,some x1,none,none]from rfl];obtain⟨p,l,k,us,ra,rb,xs,es,n,wd,rfl,rfl,hp,hk,e,t,ne,lw,bM,cA,q⟩:=h;have hl:us.length=es.length+1:=by rw[t.length,jT]
 have rB:=rm (w:=wd) lw cA;have pl:=jT ra rb xs es n wd;o_head gv (.of e) ?_;wtm_at "ga";rename_i r1 H1 r10 r11 E1 K1 P1 r2 H2 r20 r21 E2 K2 P2 lc H3 nc S3 ec r4 H4 r40 r41 E4 K4 P4 z hz r5 H5 r50 r51 E5 K5 P5 vl H6 xl S6 il el bl;obtain⟨j,rfl⟩:∃j:Nat,r1=(j:Int):=⟨r1.toNat,by lia⟩;have hj:j<=es.length:=by lia
 have x0:xl≠0:=by
   rw[el];intro zz;have hd:(1:Int)+r5≠0:=by lia
   rw[<- Rat.zero_divInt 1,Rat.divInt_eq_divInt_iff hd (by decide)]at zz;lia
 have EE:Exc p H H6:=E1.trans (E2.trans (S3.exc.trans (E4.trans (E5.trans S6.exc))));have KK:bE H H6:=K1.trans (K2.trans (S3.keep.trans (K4.trans (K5.trans S6.keep))));have e6:=EE.at ne e;have P6:=P5.same S6;have t6:ai K H6 us (cf ra rb xs es n wd):=ai.keep KK _ _ (tf λd hd=>(rB d hd).iI) t;clear E1 K1 P1 E2 K2 P2 S3 ec nc E4 K4 P4 hz E5 K5 P5 S6 el e t hp r20 r21 r40 r41 r50 r51;generalize hD:cf ra rb xs es n wd=D at *;refine pg (.of e6) (λl7 H7 n7 S7 e7=>?_)
 have t7:ai K H7 (us.take j) (D.take j):=by
   have:=ai.cut (lo:=none) (hi:=some (j:Int)) (ai.same S7 _ _ t6);rw[lK]at this;rw[show fW us none (some (j:Int))=us.take j from lK us j]at this;exact this
 rw[show fW us none (some (j:Int))=us.take j from lK us j]at e7;o_head pg (.of (S7 _ _ e6)) (λl8 H8 n8 S8 e8=>?_)
 have t8:ai K H8 (us.drop j) (D.drop j):=by
   have:=ai.cut (lo:=some (j:Int)) (hi:=none) (ai.same (S7.trans S8) _ _ t6);rw[om _ _ (by lia)]at this;rw[show fW us (some (j:Int)) none=us.drop j from om us j (by lia)]at this;exact this
 rw[show fW us (some (j:Int)) none=us.drop j from om us j (by lia)]at e8;have dl:(us.drop j).length=es.length+1-j:=by rw[ve,hl]
 have imS:∀i,br (sh xl ((D.drop j).getD i .none))=true:=λi=>by
   rcases wD i (D.drop j).length with z | z
   . exact((rB _ (Vr (getD_mem z))).iI.sh xl).CG
   . rw[wb,wE z];rfl
 o_head iY (.of e8) (o0:=none) (tl:=[some vl]) rfl (λi y H'=>Is K H' y (sh xl ((D.drop j).getD i .none))) ?_ ?_
 . intro D9 i x ys o H9 hx inv
   have hi9:=(wZ.mp hx).1;obtain⟨hi,ix⟩:=gC t8 hx;have ix:=ix.by inv.2.2.1;obtain⟨h,q',bR,ed,q8,fo,bh⟩:=rB _ (Vr (getD_mem (d:=.none) hi));have rl:1<=bR.length/\bR.length<=2:=by rcases fo with⟨_,_,rfl⟩ | ⟨_,rfl⟩<;>simp
   rw[ed]at ix;have ir:=(il.by ((S7.trans S8).trans inv.2.2.1));o_head az (j:=0) ix rfl (λv10 i10=>?_);k_few;rename_i v11 H11 S11 i11;refine bW (ds:=[N (h+xl)]) (by simp) (.cons i11 .nil) (λv12 H12 S12 i12=>?_);o_head oJ (ix.by (S11.trans S12)) (by show ¬ (min 1 _=0/\_);rw[vn];lia) (λv13 H13 S13 i13=>?_);rw[nX]at i13;refine mO (i12.by S13) i13 (by simp;lia) (λv14 H14 S14 i14=>?_);exact dB inv (by lia) (λi _ _ _ k h=>h.di k (imS i)) ⟨_,rfl⟩ (S11.trans (S12.trans (S13.trans S14))) (by rw[ed,sL];exact i14)
 intro D9 ys9 H9 n9 S9 e9 l9 r9
 have t9:ai K H9 ys9 ((D.drop j).map (sh xl)):=sQ (by rw[l9,dl,wl,ve];lia) (λi y hy=>by
   have hi:i<(D.drop j).length:=by rw[ve,pl,<- dl,<- l9];exact(wZ.mp hy).1
   have:=r9 i y hy;rw[wb,wc hi]at this;rw[wb,wo,wc hi];exact this)
 have tl9:(us.take j).length<=us.length:=by rw[vG];lia
 o_head fR (S9 _ _ (S8 _ _ e7)) e9 (by rw[Wp];lia) (λl10 H10 n10 S10 e10=>?_);have SS:ag H6 H10:=S7.trans (S8.trans (S9.trans S10));refine q _ H10 (D.take j++(D.drop j).map (sh xl)) (EE.trans SS.exc) (KK.trans SS.keep) ((P6.same SS).le (by lia)) (cu.mpr ⟨l10,_,rfl,.of e10,(ai.same (S8.trans (S9.trans S10)) _ _ t7).append (ai.same S10 _ _ t9)⟩) ?_ ?_ ?_
 . obtain⟨ds,ea⟩:=pS (a:=ra) (b:=rb) (xs:=xs) (w:=wd) (λj hj=>(lw.at j hj).1) hj
   rw[hD]at ea;have ej:j<D.length:=by lia
   rw[Vo ej,w5];rw[wc ej]at ea;rw[wW ea,sL,<- hD];exact MU lw cA hj (λzz=>x0 (by have:=zz.1;grind))
 . rw[wy,wl,vG,ve];lia
 . intro d hd
   rcases vb.mp hd with z | z
   . exact(rB _ (Vq z)).iI
   . obtain⟨d',hd',rfl⟩:=wP.mp z
     exact(rB _ (Vr hd')).iI.sh xl
def P0(K:wa):Sp:=λvs H Q _=>∃x0 x1 x2,vs=[x0,x1,x2] /\ ∃(p l l2:wf)(k:Int)(us us2:List V)(a b:Rat)(xs:List Rat)(es:List (Nat × Nat × Nat))(n:Nat)(w:String)(m:Nat)(dd:List PyData),x0=.ref p/\x1=.ref l/\x2=.ref l2/\cq H p k/\k<=900/\H l=some (.lst us)/\ai K H us (cf a b xs es n w)/\l≠p/\H l2=some (.lst us2)/\ai K H us2 dd/\l2≠p/\(∀d∈dd,rP m d)/\dd.length<=101/\LW a b xs 0 es n/\es.length<=100/\(∀i k,i+k<=n->Cm 3500 (aG a b (aj a b xs i) k::aj a b (aj a b xs i) k)) /\ ∀v H' j,Exc p H H'->bE H H'->cq H' p (k+1)->j<=es.length->Is K H' v (.list ((cf a b xs es n w).take j++dd.map (sh (aG a b xs (b_ es n j)))))->Q v H'
theorem znX{l2:wf}{us2:List V}{a:Rat}{w:String}{dd:List PyData}(hp:cq H p k)(hk:k<=900)(e:H l=some (.lst us))(t:ai K H us (cf a b xs es n w))(ne:l≠p)(e2:H l2=some (.lst us2))(t2:ai K H us2 dd)(ne2:l2≠p)(rB:∀d∈dd,rP m d)(fd:dd.length<=101)(lw:LW a b xs 0 es n)(bM:es.length<=100)(c:∀i k,i+k<=n->Cm 3500 (aG a b (aj a b xs i) k::aj a b (aj a b xs i) k))(q:∀v H' j,Exc p H H'->bE H H'->cq H' p (k+1)->j<=es.length->Is K H' v (.list ((cf a b xs es n w).take j++dd.map (sh (aG a b xs (b_ es n j)))))->Q v H'):P0 K [.ref p,.ref l,.ref l2] H Q E:=⟨_,_,_,rfl,p,l,l2,k,us,us2,a,b,xs,es,n,w,m,dd,rfl,rfl,rfl,hp,hk,e,t,ne,e2,t2,ne2,rB,fd,lw,bM,c,q⟩
theorem zok(T:Txt K mg a):aI P w K mg base aU 3 a.IT a.He Aw (P0 K):=by
 refine T.HM.F.ok NU ?_ ?_;wtm_at "b3"
 refine⟨_,(av (aA 3 NU.nd (ak (eI T) hr T.d8 (ae (pv 0) (ae (bQ (show aN _ (.builtin "len") (cO K)from dH) rfl T.h0o dM (ae (pv 1) af)) af))))
     (ay (aC (aB cv (fY fV (pv 1) fS (fT (pv 3))) (dS rfl (cK.by (N':=["_law_row","_law_paper_here","_law_at"]) (src:=[none,some 1,some 3]) rfl (by kernel_rfl)) (fe (pv 2)) (λ_ _ _ _ _=>(bP (i:=0) (of_decide_eq_true (by kernel_rfl)) rfl (Or.inl rfl))) (λ_ _ _ _ _=>dw) (λ_ _ _ _ _=>by exact(aB (show aM _ (Wd .Add) (kM K)from mG) (show PE _ _ (jw K _)from bC (ae (ak (oE (K:=K) (mg:=mg) (a:=a) T) hr T.mD (ae (kQ (K:=K) cJ (pv 0)) (ae (kQ (K:=K) cJ (c9 (show gH _ (dh K)from cJ) (pv 1) (pv 2) (λ_ _=>rfl))) af))) af)) (fY (show kl _ (oX K)from fV) (pv 0) (fT ao) fS)))))))),?_⟩
 wtm_at "cl";rw[show start Om [x0,x1,x2]=[some x0,some x1,some x2,none]from rfl];obtain⟨p,l,l2,k,us,us2,ra,rb,xs,es,n,wd,m,dd,rfl,rfl,rfl,hp,hk,e,t,ne,e2,t2,ne2,rB2,fd,lw,bM,cA,q⟩:=h;have hl:us.length=es.length+1:=by rw[t.length,jT]
 have hl2:us2.length=dd.length:=t2.length;have rB:=rm (w:=wd) lw cA;have pl:=jT ra rb xs es n wd;o_head gv (.of e) ?_;k_few;rename_i r1 H6 r10 r11 EE KK P6;obtain⟨j,rfl⟩:∃j:Nat,r1=(j:Int):=⟨r1.toNat,by lia⟩;have hj:j<=es.length:=by lia
 have e6:=EE.at ne e;have e62:=EE.at ne2 e2;have t6:ai K H6 us (cf ra rb xs es n wd):=ai.keep KK _ _ (tf λd hd=>(rB d hd).iI) t;have t62:ai K H6 us2 dd:=ai.keep KK _ _ (tf λd hd=>(rB2 d hd).iI) t2;obtain⟨dsj,ea⟩:=pS (a:=ra) (b:=rb) (xs:=xs) (w:=wd) (λj hj=>(lw.at j hj).1) hj;have bj:ah 3500 (aG ra rb xs (b_ es n j)):=(cA 0 _ (by have:=lw.idx hj;lia)).dQ (wB ..);generalize hX:aG ra rb xs (b_ es n j)=xl at *;clear e t hp e2 t2;generalize hD:cf ra rb xs es n wd=D at *;refine pg (.of e6) (λl7 H7 n7 S7 e7=>?_)
 have t7:ai K H7 (us.take j) (D.take j):=by
   have:=ai.cut (lo:=none) (hi:=some (j:Int)) (ai.same S7 _ _ t6);rw[lK]at this;rw[show fW us none (some (j:Int))=us.take j from lK us j]at this;exact this
 rw[show fW us none (some (j:Int))=us.take j from lK us j]at e7;have t8:ai K H7 us2 dd:=ai.same S7 _ _ t62;have e8:=S7 _ _ e62
 have imS:∀i,br (sh xl (dd.getD i .none))=true:=λi=>by
   rcases wD i dd.length with z | z
   . exact((rB2 _ (getD_mem z)).iI.sh xl).CG
   . rw[wb,wE z];rfl
 o_head iY (.of e8) (o0:=none) (tl:=[some (.ref l),some (.int (j:Int))]) rfl (λi y H'=>Is K H' y (sh xl (dd.getD i .none))) ?_ ?_
 . intro D9 i x ys o H9 hx inv
   have hi9:=(wZ.mp hx).1;obtain⟨hi,ix⟩:=gC t8 hx;have ix:=ix.by inv.2.2.1;obtain⟨h,q',bR,ed,q8,fo,bh⟩:=rB2 _ (getD_mem (d:=.none) hi);have rl:1<=bR.length/\bR.length<=2:=by rcases fo with⟨_,_,rfl⟩ | ⟨_,rfl⟩<;>simp
   rw[ed]at ix;have ip:Is K H9 (.ref l) (.list D):=cu.mpr ⟨l,us,rfl,.of ((S7.trans inv.2.2.1) _ _ e6),ai.same (S7.trans inv.2.2.1) _ _ t6⟩;o_head az (j:=0) ix rfl (λv10 i10=>?_);o_head jr (j:=j) ip ea (λv20 i20=>?_);o_head az (j:=0) i20 rfl (λv21 i21=>?_);k_few;rename_i v11 H11 S11 i11;refine bW (ds:=[N (h+xl)]) (by simp) (.cons i11 .nil) (λv12 H12 S12 i12=>?_);o_head oJ (ix.by (S11.trans S12)) (by show ¬ (min 1 _=0/\_);rw[vn];lia) (λv13 H13 S13 i13=>?_);rw[nX]at i13;refine mO (i12.by S13) i13 (by simp;lia) (λv14 H14 S14 i14=>?_);exact dB inv (by lia) (λi _ _ _ k h=>h.di k (imS i)) ⟨_,rfl⟩ (S11.trans (S12.trans (S13.trans S14))) (by rw[ed,sL];exact i14)
 intro D9 ys9 H9 n9 S9 e9 l9 r9
 have t9:ai K H9 ys9 (dd.map (sh xl)):=sQ (by rw[l9,hl2,wl]) (λi y hy=>by
   have hi:i<dd.length:=by rw[<- hl2,<- l9];exact(wZ.mp hy).1
   have:=r9 i y hy;rw[wb,wc hi]at this;rw[wb,wo,wc hi];exact this)
 have tl9:(us.take j).length<=us.length:=by rw[vG];lia
 o_head fR (S9 _ _ e7) e9 (by rw[Wp];lia) (λl10 H10 n10 S10 e10=>?_);have SS:ag H6 H10:=S7.trans (S9.trans S10);have q':=q (.ref l10) H10 j (EE.trans SS.exc) (KK.trans SS.keep) (P6.same SS) hj;rw[hX]at q';exact q' (cu.mpr ⟨l10,_,rfl,.of e10,(ai.same (S9.trans S10) _ _ t7).append (ai.same S10 _ _ t9)⟩)
def N0(K:wa):Sp:=λvs H Q _=>∃x0 x1 x2 x3,vs=[x0,x1,x2,x3] /\ ∃(a:wf)(ns:List Int)(l:wf)(us:List V)(ra rb:Rat)(xs:List Rat)(es:List (Nat × Nat × Nat))(n:Nat)(w:String),x0=.ref a/\x3=.ref l/\gY K H a (ns.map V.int)/\ns.length<=63/\Is K H x1 (R ra rb)/\Is K H x2 (bL ra rb xs)/\H l=some (.lst us)/\ai K H us (cf ra rb xs es n w)/\de ra rb xs/\jM ra rb xs es n w /\ ∀H',ag H H'->Q (.bl true) H'
theorem zjs{a:wf}{w:String}{u:V}(hs:gY K H a (ns.map V.int))(hl:ns.length<=63)(ir:Is K H v (R ra rb))(iw:Is K H u (bL ra rb xs))(e:H l=some (.lst us))(t:ai K H us (cf ra rb xs es n w))(bg:de ra rb xs)(P:jM ra rb xs es n w)(q:∀H',ag H H'->Q (.bl true) H'):N0 K [.ref a,v,u,.ref l] H Q E:=⟨_,_,_,_,rfl,a,ns,l,us,ra,rb,xs,es,n,w,rfl,rfl,hs,hl,ir,iw,e,t,bg,P,q⟩
theorem zjq(T:Txt K mg a):aI P w K mg base aU 15 a.GS a.Gy Av (N0 K):=by
 refine T.GF.F.ok pI ?_ ?_;wtm_at "b4"
 refine⟨_,(av (aA 4 pI.nd (ak (sC T) hr T.nR (ae (pv 0) (ae ao af))))
     (av (gD vd rfl (jo rfl T.h0j (ae ao af)) (bP (i:=5) pI.nd rfl (Or.inl rfl)) (ay (cg (cN (cE (ak (me T) hr T.kn (ae (pv 2) (ae (ak (zoz T) hr T.HI (ae (pv 4) (ae (pv 3) af))) (ae cP af)))))) (ay (aC cP)) ck)))
     (av (aA 6 pI.nd (ak (RK T) hr T.A3 (ae (ak (Nv T) hr T.Ba (ae (pv 1) (ae (ak (Me T) hr T.A8 (ae (ak (sC T) hr T.nR (ae (pv 0) (ae ao af))) (ae (pv 1) (ae ao af)))) af))) af)))
     (av (cg (cw sV (pv 6) fB (bN _)) (ay (aC cP)) ck)
     (av (aA 7 pI.nd (ak (zok T) hr T.HM (ae (pv 4) (ae (pv 3) (ae (pv 6) af)))))
     (av (aA 8 pI.nd (aB jd (bQ (show aN _ (.builtin "len") (cO K)from dH) rfl T.h0o dM (ae (pv 7) af)) (bQ (show aN _ (.builtin "len") (cO K)from dH) rfl T.h0o dM (ae (pv 6) af))))
     (ay (aC (NP (fj (show aM _ (compareOp .Eq) (cR K)from dF hu) (au (c9 cJ (pv 7) (pv 8) (λ_ _=>rfl))) (au (c9 cJ (pv 3) (pv 8) (λ_ _=>rfl))) (bN _)) (gc (ak (me T) hr T.kn (ae (pv 2) (ae (pv 7) (ae cP af)))))))))))))),?_⟩
 wtm_at "cl";rw[show start Tb [x0,x1,x2,x3]=[some x0,some x1,some x2,some x3,none,none,none,none,none]from rfl];obtain⟨a',ns0,l,us,ra,rb,xs,es,n,wd,rfl,rfl,hs,hl,ir,iw,el,tl,bg,P,q⟩:=h;have lw:=gK.lw bg P.walk;have cA:=P.t_ bg;have bM:=P.bM;have h6:=bg.h6;have rB:=rm (w:=wd) lw cA;have imP:=tf λd hd=>(rB d hd).iI
 o_head rh hs hl (by decide) (by decide) (λp H1 hp S1 P1=>?_);have ne:l≠p:=λz=>by rw[z,hp]at el;cases el
 o_head ku (n:=2) (by decide) (by decide) (λk σ H'=>∃o5,σ = [some (.ref a'),some x1,some x2,some (.ref l),some (.ref p),o5,none,none,none]/\Exc p H1 H'/\bE H1 H'/\cq H' p (4*(k:Int))) ⟨_,rfl,Exc.refl _ _,(ag.refl H1).keep,P1.le (by lia)⟩ ?_ ?_
 . rintro k σ H2 hk ⟨o5,rfl,E2,K2,P2⟩
   have k2:k<2:=by simpa using hk
   have e2:=E2.at ne (S1 _ _ el);have t2:ai K H2 us (cf ra rb xs es n wd):=ai.keep (S1.keep.trans K2) _ _ imP tl;o_head znC P2 (by lia) e2 t2 ne lw (by lia) cA (λv3 H3 ds E3 K3 P3 i3 L3 f3 r3=>?_);o_head lU (iw.di (S1.keep.trans (K2.trans K3)) (ky _ _ _)) i3 bg.ok bg.h1 (by lia) bg.hp (by lia) (λd hd=>(r3 d hd).small (by lia)) L3 (λH4 S4=>?_);k_few;exact⟨_,rfl,E2.trans (E3.trans S4.exc),K2.trans (K3.trans S4.keep),(P3.same S4).le (by lia)⟩
 . rintro σ H2 ⟨o5,rfl,E2,K2,P2⟩
   have KS:=S1.keep.trans K2;have e2:=E2.at ne (S1 _ _ el);have t2:ai K H2 us (cf ra rb xs es n wd):=ai.keep KS _ _ imP tl;have ir2:=ir.nT KS;have iw2:=iw.di KS (ky _ _ _);have hs2:=KS.kU hs;have q2:∀H',Exc p H2 H'->Q (.bl true) H':=λH' E=>q H' (S1.grow hp (E2.trans E))
   clear KS K2 P1 tl el ir iw hs q;o_head rh hs2 hl (by decide) (by decide) (λp3 H3 hp3 S3 P3=>?_);o_head N4 (ir2.by S3) bg.ok P3 (by decide) (by decide) (by decide) (λl4 H4 us4 ys n4 E4 K4 P4 e4 t4 a4 b4 ph4=>?_);obtain⟨bo,cD⟩:=de.of bg.ok a4 (by lia) ph4;have T4:=S3.grow hp3 E4;o_head RD (ir2.by T4) bg.ok (.inl (dN e4 t4)) a4 (by lia) ph4 (λvo H5 S5 io=>?_);have T5:=T4.trans S5;clear S3 P3 E4 K4 P4 e4 t4 n4 hp3 T4 S5;o_head UZ io bo (λF H6 S6=>?_) (λl2 H6 es2 n2 w2 us2 P6 nl2 S6 e6 t6=>?_)
   . k_few
     exact q2 H6 (T5.trans S6).exc
   . k_few
     . rename_i z
       cases z
     have T6:=T5.trans S6;have e26:=T6 _ _ e2;have t26:=ai.same T6 _ _ t2;have P26:=P2.same T6;have iw6:=iw2.by T6;have ne2:l2≠p:=cq.ne nl2 (P2.same T5);have lw2:=gK.lw bo P6.walk;have cA2:=P6.t_ bo;have few2:=P6.bM;have rB2:=rm (w:=w2) lw2 cA2;obtain⟨ds2,ea2⟩:=pS (a:=ra) (b:=rb) (xs:=ys) (w:=w2) (λj hj=>(lw2.at j hj).1) (Vs es2.length);rw[lw2.first]at ea2;have ea2:(cf ra rb ys es2 n2 w2)[0]? = some (.tuple (N 0::TN ys::ds2)):=ea2;have hl2:us2.length=es2.length+1:=by rw[t6.length,jT]
     have q6:∀H',Exc p H6 H'->Q (.bl true) H':=λH' E=>q2 H' (T6.exc.trans E)
     clear T5 T6 S6 e2 t2 P2 iw2 ir2 hs2 io q2 P6;refine znX P26 (by lia) e26 t26 ne e6 t6 ne2 rB2 (by rw[jT];lia) lw (by lia) cA (λv7 H7 j E7 K7 P7 hj i7=>?_);obtain⟨dsj,ea⟩:=pS (a:=ra) (b:=rb) (xs:=xs) (w:=wd) (λj hj=>(lw.at j hj).1) hj;have lt:((cf ra rb xs es n wd).take j).length=j:=by rw[vG,jT];lia
     have ip:Is K H7 (.ref l) (.list (cf ra rb xs es n wd)):=cu.mpr ⟨l,us,rfl,.of (E7.at ne e26),ai.keep K7 _ _ imP t26⟩;have iw7:=iw6.di K7 (ky _ _ _);have e67:=E7.at ne2 e6
     have rl2:∀d∈(cf ra rb ys es2 n2 w2).map (sh (aG ra rb xs (b_ es n j))),g6 ys.length d:=λd hd=>by
       obtain⟨d',hd',rfl⟩:=wP.mp hd;exact(rB2 _ hd').iI.sh _
     obtain⟨more,em⟩:∃more,(cf ra rb ys es2 n2 w2).map (sh (aG ra rb xs (b_ es n j)))=.tuple (N (0+aG ra rb xs (b_ es n j))::TN ys::ds2)::more:=by
       cases hh:cf ra rb ys es2 n2 w2 with
       | nil=>rw[hh]at ea2;cases ea2
       | cons d m =>
         rw[hh]at ea2;rw[show d=_ from wW ea2,w5,sL];exact⟨_,rfl⟩
     have ml:more.length=es2.length:=by
       have:=congrArg Xg em;rw[wl,jT,vn]at this;lia
     rw[em]at i7 rl2
     have at7:((cf ra rb xs es n wd).take j++.tuple (N (0+aG ra rb xs (b_ es n j))::TN ys::ds2)::more)[j]? = some (.tuple (N (0+aG ra rb xs (b_ es n j))::TN ys::ds2)):=by
       rw[vf (by lia),lt,W7];rfl
     have sm:∀d∈(cf ra rb xs es n wd).take j++.tuple (N (0+aG ra rb xs (b_ es n j))::TN ys::ds2)::more,gR d/\iW d:=λd hd=>by
       rcases vb.mp hd with z | z
       . exact(rB d (Vq z)).iI.small (by lia)
       . exact(rl2 d z).small (by lia)
     have L7:¬ ys=aj ra rb xs (b_ es n j)->ib ra rb xs ((cf ra rb xs es n wd).take j++.tuple (N (0+aG ra rb xs (b_ es n j))::TN ys::ds2)::more) false:=λz=>MU lw cA hj (λzz=>z zz.2)
     have l7:((cf ra rb xs es n wd).take j++.tuple (N (0+aG ra rb xs (b_ es n j))::TN ys::ds2)::more).length=j+us2.length:=by
       rw[wy,lt,vn,ml,hl2]
     clear em rl2 rB2 cA2 lw2 ea2 e6 t6 t26 e26 P26 K7 P7 iw6 rB imP cA lw;generalize 0+aG ra rb xs (b_ es n j)=hh at *;generalize aG ra rb xs (b_ es n j)=hj' at *;generalize aj ra rb xs (b_ es n j)=pj at *;generalize List.take j (cf ra rb xs es n wd)=Dj at *;generalize cf ra rb xs es n wd=D at *;o_head zyi (n:=j+us2.length) i7 l7 ?_;o_head gv (.of e67) ?_;k_few;rw[show((j+us2.length:Nat):Int)-(us2.length:Int)=(j:Int) by lia];refine jr (j:=j) i7 at7 (λv8 i8=>?_);o_head az (j:=1) i8 rfl (λv9 i9=>?_);o_head jr (j:=j) ip ea (λv10 i10=>?_);o_head az (j:=1) i10 rfl (λv11 i11=>?_);refine zp (show Is K H7 v9 (TN ys)from i9) (show Is K H7 v11 (TN pj)from i11) ?_
     by_cases z:ys=pj
     . rw[decide_eq_true z]
       k_few;exact q6 H7 E7
     . rw[decide_eq_false z]
       o_head lU iw7 i7 bg.ok bg.h1 (by lia) bg.hp (by rw[l7];lia) sm (L7 z) (λH8 S8=>?_);k_few;exact q6 H8 (E7.trans S8.exc)
theorem zCL{ds:List PyData}(h:kE n d)(ds':List PyData):jR n (ds++[d]++ds')=false:=by
 rcases xh ds' with rfl | ⟨m,e,rfl⟩
 ·rw[vW,rN,h.l,Wm]
 ·rw[xi,<- WP,rN]
  have:(ds++[d]++m).all (gb n)=false:=by
   rw[QR,QR,Qj,h.r,vO,Wm,vO]
  rw[this,vO]
theorem Yp(n:Nat)(h:Rat)(q:List Rat)(r:List PyData)(hq:q.length=n):fm n (N h::TN q::r)=true:=by
 unfold TN
 show(a_ (N h)&&(decide ((q.map N).length=n)&&(q.map N).all a_))=true
 rw[sO,wl,decide_eq_true hq,show(q.map N).all a_=true from vZ.mpr λd hd=>by
  obtain⟨x,_,rfl⟩:=wP.mp hd;exact sO x]
 rfl
theorem zBs{w:String}(h:nA w):kz (.str (wC w))=true:=by
 rcases h with rfl | rfl | rfl<;>decide +kernel
theorem zBr{a:Rat}{w:String}(lw:LW a b xs 0 es n)(hw:nA w):jR xs.length (cf a b xs es n w)=true:=by
 unfold cf
 rw[rN,show(es.map (jy a b xs)).all (gb xs.length)=true from vZ.mpr λd hd=>by
  obtain⟨e,he,rfl⟩:=wP.mp hd;obtain⟨j,hj,rfl⟩:=wY he;obtain⟨h1,h2,_⟩:=(lw.at j hj).2.1
  show(fm xs.length [N _,TN _,_,_]&&(fF 0 30 (.int ((es[j].2.1:Nat):Int))&&fF 0 40 (.int ((es[j].2.2:Nat):Int))))=true
  rw[Yp _ _ _ _ (bS ..),fF,fF,decide_eq_true (by lia),decide_eq_true (by lia),decide_eq_true (by lia),decide_eq_true (by lia)]
  rfl]
 show(true&&(fm xs.length [N _,TN _,_]&&kz _))=true
 rw[Yp _ _ _ _ (bS ..),zBs hw]
 rfl
theorem zwt{a:Rat}{w:String}(h:fv a b xs=some w):nA w:=by
 rcases Q_ (a:=a) (b:=b) (xs:=xs)with z | ⟨v,z,hv⟩
 ·rw[z]at h;cases h
 ·rw[z]at h;cases h;exact hv
theorem UX{a:Rat}{w:String}(bg:de a b xs)(P:jM a b xs es n w):ib a b xs (cf a b xs es n w) true:=by
 have lw:=gK.lw bg P.walk;have hw:=zwt P.word;have:=ib.right es n w (zBr lw hw) rfl lw (bg.hp.zero bg.ok.a0 bg.ok.b0 bg.h1 P.n1) hw (P.t_ bg);rw[decide_eq_true P.word]at this;exact this
structure zEw(a b:Rat)(xs:List Rat)(D:List PyData)(g:V)(l:wf):Prop where
 rl:∀d∈D,g6 xs.length d
 bM:D.length<=10
 last:∃ds h p w,D=ds++[.tuple [N h,TN p,.str (wC w)]]
 good:g=.bG\/(g=.ref l/\ib a b xs D true)
theorem ZQ(h:Is K H v (bL ra rb xs))(ok:de ra rb xs)(q:∀v H',ag H H'->(v=.bG \/ ∃l es n w us,v=.ref l/\jM ra rb xs es n w/\H' l=some (.lst us)/\ai K H' us (cf ra rb xs es n w))->Q v H'):BV K [v] H Q E:=UZ h ok (λ_ H' S=>q _ _ S (.inl rfl)) (λl H' es n w us P _ S e t=>q _ _ S (.inr ⟨l,es,n,w,us,rfl,P,e,t⟩))
def As(K:wa):Sp:=λvs H Q _=>∃x0,vs=[x0] /\ ∃(a:wf)(ns:List Int),x0=.ref a/\gY K H a (ns.map V.int)/\ns.length<=63 /\ ∀H',Q (.bl true) H'
theorem zCf(T:Txt K mg a):aI P w K mg base aU 16 a.law a.Kz yy (As K):=by
 refine T.Za.F.ok iA ?_ ?_;wtm_at "b1"
 refine⟨_,(@jS.h _ _ _ (dR (gg 1 iA.nd (aF (ak (zkX T) hr T.GP (ae (ak (sC T) hr T.nR (ae (pv 0) (ae ao af))) af))))
     (dR (gg 2 iA.nd (aF (dW (show aN _ (.type "tuple") (eH K)from ft) rfl T.h0i dU (ae (ak (Me T) hr T.A8 (ae (ak (sC T) hr T.nR (ae (pv 0) (ae ao af))) (ae (pv 1) (ae ao af)))) af))))
     (dR (gg 3 iA.nd (aF (ak (Nv T) hr T.Ba (ae (pv 1) (ae (pv 2) af)))))
     (dR (gg 4 iA.nd (aF (ak (RK T) hr T.A3 (ae (pv 3) af))))
     (dR (gg 5 iA.nd (aF (pv 4)))
     (dR (oH (cw sV (pv 4) fB (bN _)) (gU (gg 4 iA.nd (iM (aD (dA (aD (dA (aD (aF ao) (aD (aF ao) cF aY) aY)) (aD (aF (pv 2)) (aD (aF dC) cF aY) bX) dD)) cF dD)))) (gU (oH (PW.pt (fG (cN (cE (ak (me T) hr T.kn (ae (pv 3) (ae (pv 4) (ae cP af)))))) (gQ (cN (cE (ak (zjq T) hr T.GF (by exact(@ae _ _ _ _ _ (pv 0) (@ae _ _ _ _ _ (pv 1) (@ae _ _ _ _ _ (pv 3) (@ae _ _ _ _ _ (pv 4) af bX) bX) bX) bX)))))))) (gU (nq (aF cP))) rf)))
     (dR (gg 6 iA.nd (aF (ak (sC T) hr T.nR (ae (pv 0) (ae ao af)))))
     (dR (yn vd rfl (jo rfl T.h0j (ae ao af)) (bP (i:=7) iA.nd rfl (Or.inl rfl)) (dR (gg 8 iA.nd (aF (ak (eI T) hr T.d8 (ae (pv 6) (ae (bQ (show aN _ (.builtin "len") (cO K)from dH) rfl T.h0o dM (ae (pv 4) af)) af)))))
     (dR (gg 9 iA.nd (aF (ak (zpg T) hr T.Ig (ae (au (c9 cJ (pv 4) (pv 8) (λ_ _=>rfl))) (ae (au (c9 cJ (pv 4) (pv 8) (λ_ _=>rfl))) af)))))
     (dR (gg 10 iA.nd (zEv cJ (aF (pv 9)) (aF (ak (eI T) hr T.d8 (ae (pv 6) (ae (bQ (show aN _ (.builtin "len") (cO K)from dH) rfl T.h0o dM (ae (pv 9) af)) af)))) (λ_ _=>rfl)))
     (dR (gg 11 iA.nd (aF (fY fV (pv 4) (fT (aB cv (pv 8) (ak (eI T) hr T.d8 (ae (pv 6) (ae ao af))))) fS)))
     (gU (oH (cN (cE (ak (me T) hr T.kn (ae (pv 3) (ae (aB cv (aB cv (fY fV (pv 4) fS (fT (pv 8))) (d4 (ae (pv 10) af))) (pv 11)) (ae cP af)))))) (gU (nq (aF cP))) rf)))))))
     (dR (oH (PW.pt (fG (cN (cE (ak (me T) hr T.kn (ae (pv 3) (ae (d4 af) (ae cP af)))))) (gQ (cN (cE (ak (me T) hr T.kn (ae (pv 3) (ae (aB cv (pv 4) (d4 (ae (c9 cJ (pv 4) (fE fC ao) (λ_ _=>rfl)) af))) (ae cP af))))))))) (gU (nq (aF cP))) rf)
     (dR (oH (cN (cE (ak (me T) hr T.kn (ae (pv 3) (ae (d4 (ae (bC (by exact(@ae _ _ _ _ _ (bC (ae ao (ae ao af))) (@ae _ _ _ _ _ (pv 2) (@ae _ _ _ _ _ ao (@ae _ _ _ _ _ ao af aY) aY) bX) dD))) af)) (ae cP af)))))) (gU (nq (aF cP))) rf)
     (gU (nq (aF (NP (fj sV (pv 5) fB (bN _)) (gc (ak (me T) hr T.kn (ae (pv 3) (ae (pv 4) (ae cP af)))))))))))))))))))),?_⟩
 wtm_at "cl";rw[show start UW [x0]=[some x0,none,none,none,none,none,none,none,none,none,none,none]from rfl];obtain⟨a',ns0,rfl,hs,hl,q⟩:=h;o_head rh hs hl (by decide) (by decide) (λp1 H1 hp1 S1 P1=>?_);o_head zlq P1 (by decide) (λv2 H2 ra rb E2 K2 P2 i2 ok=>?_);have KA:bE H H2:=S1.keep.trans K2;o_head rh (KA.kU hs) hl (by decide) (by decide) (λp3 H3 hp3 S3 P3=>?_);o_head N4 (i2.by S3) ok P3 (by decide) (by decide) (by decide) (λl4 H4 us4 xs n4 E4 K4 P4 e4 t4 a4 b4 ph4=>?_);have i4:=i2.nT (S3.keep.trans K4);have KB:=KA.trans (S3.keep.trans K4);o_head iR (dN e4 t4) (λvx H5 S5 ix=>?_);have i5:=i4.by S5;have hs5:=(KB.trans S5.keep).kU hs;have h4:xs.length<=4:=by lia
 obtain⟨bg,c47⟩:=de.of ok a4 (by lia) ph4;clear i2 i4 S1 S3 P1 P2 P3 P4 E2 K2 E4 K4 e4 t4 n4 hp1 hp3 KA KB S5 hs;o_head RD i5 ok (.inr ix) a4 (by lia) ph4 (λvw H6 S6 iw=>?_);have i6:=i5.by S6;have ix6:=ix.by S6;have hs6:=S6.keep.kU hs5;clear i5 ix hs5 S6;o_head ZQ iw bg (λvt H7 S7 C7=>?_);have i7:=i6.by S7;have ix7:=ix6.by S7;have iw7:=iw.by S7;have hs7:=S7.keep.kU hs6;clear i6 ix6 iw hs6 S7;wtm_at "gt";wtm_at "tl";wtm_at "gt";wtm_at "tl";wtm_at "sq"
 have main:∀(l:wf)(us:List V)(D:List PyData)(H9:Hp),zEw ra rb xs D vt l->H9 l=some (.lst us)->ai K H9 us D->gY K H9 a' (ns0.map V.int)->Is K H9 vw (bL ra rb xs)->Is K H9 vx (TN xs)->tl_ {nx:=λ_ H'=>Q V.bG H',rt:=Q} [some (.ref a'),some v2,some vx,some vw,some (.ref l),some vt,none,none,none,none,none,none] H9:=by
   clear C7 i7 ix7 iw7 hs7;intro l us D H9 To e9 t9 hs9 iw9 ix9;obtain⟨rl,bM,⟨ds0,h0,p0,w0,eD⟩,gd⟩:=To;have imD:=tf rl;have ul:us.length=D.length:=t9.length;have D1:1<=D.length:=by rw[eD];simp
   have sm:∀d∈D,gR d/\iW d:=λd hd=>(rl d hd).small (by lia)
   wtm_at "tl";o_head rh hs9 hl (by decide) (by decide) (λp H10 hp S10 P10=>?_);have ne:l≠p:=λz=>by rw[z,hp]at e9;cases e9
   o_head ku (n:=6) (by decide) (by decide) (λk σ H'=>∃o1 o2 o3 o4 o5,σ = [some (.ref a'),some v2,some vx,some vw,some (.ref l),some vt,some (.ref p),o1,o2,o3,o4,o5]/\Exc p H10 H'/\bE H10 H'/\cq H' p (3*(k:Int))) ⟨_,_,_,_,_,rfl,Exc.refl _ _,(ag.refl H10).keep,P10.le (by lia)⟩ ?_ ?_
   . rintro k σ H11 hk ⟨o1,o2,o3,o4,o5,rfl,E11,K11,P11⟩
     have k6:k<6:=by simpa using hk
     have e11:=E11.at ne (S10 _ _ e9);have t11:ai K H11 us D:=ai.keep (S10.keep.trans K11) _ _ imD t9;have iw11:=iw9.di (S10.keep.trans K11) (ky _ _ _);clear e9 t9 iw9 hs9 ix9 P10 S10 hp;o_head gv (.of e11) ?_;k_few;rename_i r H12 r0 r1 E12 K12 P12;obtain⟨j,rfl⟩:∃j:Nat,r=(j:Int):=⟨r.toNat,by lia⟩;have hj:j<D.length:=by lia
     have e12:=E12.at ne e11;have t12:ai K H12 us D:=ai.keep K12 _ _ imD t11;have iw12:=iw11.di K12 (ky _ _ _);have EA:=E11.trans E12;have KA:=K11.trans K12;obtain⟨hr,q',bR,ed,q8,fo⟩:=rl D[j] (vT hj);have eDj:D[j]? = some (.tuple (N hr::TN q'::bR)):=by rw[wc hj,ed]
     have il:Is K H12 (.ref l) (.list D):=cu.mpr ⟨l,us,rfl,.of e12,t12⟩;clear e11 t11 iw11 E11 K11 P11 E12 K12 r0 r1 ed fo;refine jr (j:=j) il eDj (λv13 i13=>?_);o_head az (j:=0) i13 rfl (λv14 i14=>?_);o_head jr (j:=j) il eDj (λv15 i15=>?_);o_head az (j:=1) i15 rfl (λv16 i16=>?_);o_head zpc (show Is K H12 v14 (N hr)from i14) (show Is K H12 v16 (TN q')from i16) (by lia) (by lia) (λlt H17 us17 n17 S17 e17 A17 u1 u2=>?_);have P17:=P12.same S17;have net:lt≠p:=cq.ne n17 P12;clear i13 i14 i15 i16 il;o_head gv (.of e17) ?_;k_few;rename_i rr H18 rr0 rr1 E18 K18 P18;refine Co (λx=>∃d,Is K (fr H12 H17) x d/\kE q'.length d) (.of (E18.at net e17)) rr0 rr1 A17 (λth ⟨d,id,nd⟩=>?_);rw[q8]at nd;have e18:=E18.at ne (S17 _ _ e12);have t18:ai K H18 us D:=ai.keep (S17.keep.trans K18) _ _ imD t12;have iw18:=iw12.di (S17.keep.trans K18) (ky _ _ _);k_few;rename_i r2 H20 r20 r21 E20 K20 P20
     have id20:Is K H20 th d:=by
       obtain⟨_,_,_,hp12,_⟩:=P12;exact id.by (zDp hp12 (E18.trans E20))
     obtain⟨i2,rfl⟩:∃i2:Nat,r2=(i2:Int):=⟨r2.toNat,by lia⟩;have e20:=E20.at ne e18;have t20:ai K H20 us D:=ai.keep K20 _ _ imD t18;have iw20:=iw18.di K20 (ky _ _ _);have EC:=EA.trans (S17.exc.trans (E18.trans E20));have KC:=KA.trans (S17.keep.trans (K18.trans K20));clear e18 t18 iw18 E18 K18 P18 A17 S17 e17 id P17 n17 EA KA K20 E20 iw12 t12 e12 P12 u1 u2 eDj rr0 rr1;rw[show(j:Int)+(i2:Int)=((j+i2:Nat):Int) by lia];refine pg (.of e20) (λl21 H21 n21 S21 e21=>?_);have c21:fW us (some ((j+i2:Nat):Int)) none=us.drop (j+i2):=om us (j+i2) (by lia);rw[c21]at e21
     have t21:ai K H21 (us.drop (j+i2)) (D.drop (j+i2)):=by
       have:=ai.cut (lo:=some ((j+i2:Nat):Int)) (hi:=none) (ai.same S21 _ _ t20);rw[om _ _ (by lia),c21]at this;exact this
     o_head pg (.of (S21 _ _ e20)) (λl22 H22 n22 S22 e22=>?_);have c22:fW us none (some (j:Int))=us.take j:=lK us j;rw[c22]at e22
     have t22:ai K H22 (us.take j) (D.take j):=by
       have:=ai.cut (lo:=none) (hi:=some (j:Int)) (ai.same (S21.trans S22) _ _ t20);rw[lK,c22]at this;exact this
     have lt:(us.take j).length<=10:=by rw[vG];lia
     have ld:(us.drop (j+i2)).length<=10:=by rw[ve];lia
     o_head cS (by simp) (λl23 H23 n23 S23 e23=>?_);o_head fR (S23 _ _ e22) e23 (by rw[Wp,wL];lia) (λl24 H24 n24 S24 e24=>?_);o_head fR e24 ((S22.trans (S23.trans S24)) _ _ e21) (by rw[Wp,wy,wL];lia) (λl25 H25 n25 S25 e25=>?_);have T23:=S23.trans (S24.trans S25);have T22:=S22.trans T23;have T25:=S21.trans T22;have i25:Is K H25 (.ref l25) (.list (D.take j++[d]++D.drop (j+i2))):=cu.mpr ⟨l25,_,rfl,.of e25,((ai.same T23 _ _ t22).append (.cons (id20.by T25) .nil)).append (ai.same T22 _ _ t21)⟩;o_head lU (iw20.by T25) i25 ok a4 (by lia) bg.hp (by rw[wy,wy,vG,ve,wL];lia) (λe he=>?_) (.no (zCL nd _)) (λH26 S26=>?_)
     . rcases vb.mp he with z | z
       . rcases vb.mp z with z | z
         . exact sm e (Vq z)
         . rw[wI.mp z]
           exact⟨nd.s,nd.w⟩
       . exact sm e (Vr z)
     k_few;exact⟨_,_,_,_,_,rfl,EC.trans (T25.trans S26).exc,KC.trans (T25.trans S26).keep,(P20.same (T25.trans S26)).le (by lia)⟩
   . rintro σ H11 ⟨o1,o2,o3,o4,o5,rfl,E11,K11,P11⟩
     have KK:=S10.keep.trans K11;have e11:=E11.at ne (S10 _ _ e9);have t11:ai K H11 us D:=ai.keep KK _ _ imD t9;have iw11:=iw9.di KK (ky _ _ _);have ix11:=ix9.di KK (jn _);clear e9 t9 iw9 hs9 ix9 P10 S10 hp E11 K11 P11 KK;o_head cS (by simp) (λl12 H12 n12 S12 e12=>?_);o_head lU (iw11.by S12) (cu.mpr ⟨l12,[],rfl,.of e12,.nil⟩) ok a4 (by lia) bg.hp (by simp) (λd hd=>absurd hd (by simp)) (.no rfl) (λH13 S13=>?_);have T13:=S12.trans S13;have il:Is K H13 (.ref l) (.list D):=cu.mpr ⟨l,us,rfl,.of (T13 _ _ e11),ai.same T13 _ _ t11⟩;o_head nv (ds:=ds0) (d:=.tuple [N h0,TN p0,.str (wC w0)]) (by rw[<- eD];exact il) (λv14 i14=>?_);o_head cS (by simp) (λl15 H15 n15 S15 e15=>?_);o_head fR ((T13.trans S15) _ _ e11) e15 (by rw[Wp,wL];lia) (λl16 H16 n16 S16 e16=>?_);have T16:=T13.trans (S15.trans S16);have i16:Is K H16 (.ref l16) (.list (D++[.tuple [N h0,TN p0,.str (wC w0)]])):=cu.mpr ⟨l16,_,rfl,.of e16,(ai.same T16 _ _ t11).append (.cons (i14.by (S15.trans S16)) .nil)⟩;o_head lU (iw11.by T16) i16 ok a4 (by lia) bg.hp (by rw[wy,wL];lia) (λd hd=>?_) (.no ?_) (λH17 S17=>?_)
     . rcases vb.mp hd with z | z
       . exact sm d z
       . exact sm d (by rw[eD];exact vI _ z)
     . rw[rN,eD,QR,show([PyData.tuple [N h0,TN p0,.str (wC w0)]]:List PyData).all (gb xs.length)=false from rfl,Wm,vO]
     have T17:=T16.trans S17;clear il i14 S15 S16 S17 e15 e16 i16 T16 T13 S12 S13 e12;o_head bW (ds:=[.int 0,.int 1]) (by simp) (.cons (aJ.mpr rfl) (.cons (aJ.mpr rfl) .nil)) (λv18 H18 S18 i18=>?_);o_head bW (ds:=[N 0,TN xs,.int 0,.int 0]) (by simp) (.cons i18 (.cons (ix11.by (T17.trans S18)) (.cons (aJ.mpr rfl) (.cons (aJ.mpr rfl) .nil)))) (λv19 H19 S19 i19=>?_);o_head cS (by simp) (λl20 H20 n20 S20 e20=>?_);have T20:=T17.trans (S18.trans (S19.trans S20));o_head lU (iw11.by T20) (cu.mpr ⟨l20,_,rfl,.of e20,.cons (i19.by S20) .nil⟩) ok a4 (by lia) bg.hp (by simp) (λd hd=>?_) (.no rfl) (λH21 S21=>?_)
     . rw[wI.mp hd]
       exact g6.small (m:=xs.length) ⟨_,_,_,rfl,rfl,.inl ⟨0,0,rfl⟩⟩ (by lia)
     have T21:=T20.trans S21;rcases gd with rfl | ⟨rfl,L⟩
     . k_few
       exact q _
     . k_few
       . rename_i z
         cases z
       refine lU (iw11.by T21) (cu.mpr ⟨l,us,rfl,.of (T21 _ _ e11),ai.same T21 _ _ t11⟩) ok a4 (by lia) bg.hp (by lia) sm L (λH22 S22=>?_);k_few;exact q _
 wtm_at "gt"
 . rename_i z
   refine bW (ds:=[.int 0,.int 1]) (by simp) (.cons (aJ.mpr rfl) (.cons (aJ.mpr rfl) .nil)) (λv8 H8 S8 i8=>?_);wtm_at "gt";refine bW (ds:=[N 0,TN xs,.str (wC "one")]) (by simp) (.cons i8 (.cons (ix7.by S8) (.cons (cW.mpr rfl) .nil))) (λv9 H9 S9 i9=>?_);wtm_at "gt";refine cS (by simp) (λl H10 n10 S10 e10=>?_);have TT:=S8.trans (S9.trans S10);wtm_at "gt";exact main l _ _ H10 ⟨λd hd=>by rw[wI.mp hd];exact⟨_,_,_,rfl,rfl,.inr ⟨_,rfl⟩⟩,by simp,⟨[],_,_,_,rfl⟩,.inl z⟩ e10 (.cons (i9.by S10) .nil) (TT.keep.kU hs7) (iw7.by TT) (ix7.by TT)
 . rename_i z
   rcases C7 with zz | ⟨l,es,n,w,us,rfl,P,e,t⟩
   . exact absurd zz z
   have bM:=P.bM;have rB:=rm (w:=w) (gK.lw bg P.walk) (P.t_ bg);refine lU iw7 (cu.mpr ⟨l,us,rfl,.of e,t⟩) ok a4 (by lia) bg.hp (by rw[jT];lia) (λd hd=>(rB d hd).iI.small (by lia)) (UX bg P) (λH8 S8=>?_);wtm_at "gt";refine zjs (S8.keep.kU hs7) hl (i7.by S8) (iw7.by S8) (S8 _ _ e) (ai.same S8 _ _ t) bg P (λH9 S9=>?_);have TT:=S8.trans S9;wtm_at "gt";exact main l us _ H9 ⟨λd hd=>(rB d hd).iI,by rw[jT];lia,⟨_,_,_,_,rfl⟩,.inr ⟨rfl,UX bg P⟩⟩ (TT _ _ e) (ai.same TT _ _ t) (TT.keep.kU hs7) (iw7.by TT) (ix7.by TT)
end
variable{us:List Value}
theorem zDA(h:us.length=0):us=[]:=WW.mp h
theorem SN(h:us.length=1):∃a,us=[a]:=by
 cases us with
 | nil=>cases h
 | cons a t=>exact⟨a,by rw[WW.mp (QE h)]⟩
theorem Nc(h:us.length=2):∃a0 a1,us=[a0,a1]:=by
 cases us with
 | nil=>cases h
 | cons a0 t =>
  obtain⟨a1,e⟩:=SN (QE h);exact⟨a0,a1,by rw[e]⟩
theorem Ua(h:us.length=3):∃a0 a1 a2,us=[a0,a1,a2]:=by
 cases us with
 | nil=>cases h
 | cons a0 t =>
  obtain⟨a1,a2,e⟩:=Nc (QE h);exact⟨a0,a1,a2,by rw[e]⟩
theorem zEk(h:us.length=4):∃a0 a1 a2 a3,us=[a0,a1,a2,a3]:=by
 cases us with
 | nil=>cases h
 | cons a0 t =>
  obtain⟨a1,a2,a3,e⟩:=Ua (QE h);exact⟨a0,a1,a2,a3,by rw[e]⟩
inductive aT(K:wa)(n:Str)(st:wU)(f:wf):Prop
 | mk {od an:Option wf} {sl:Array (Option Value)} {oc kV dc pm cd ct:Value} (a:w9 K wM n=some (some (.ref f))) (l:K.lookup f=some ⟨oc,od,.func (Vu n n (o_ st) (my st) (aK st) .none kV dc pm an cd ct),sl⟩) (c:qX K cd n=true) (k:VU K (.ref f)=true):aT K n st f
theorem aT.dn{K:wa}{h:wJ}{mg:Str->Option Value}{n:Str}{st:wU}{f:wf}{ps:List Str}(A:aT K n st f)(X:K.In h)(GN:h.Ns wM mg)
  (b:∀(kV doc pm:Value)(an:Option wf)(cdv ct:Value)(us:List Value),us.length=ps.length->bindArgs (Vu n n (o_ st) (my st) (aK st) .none kV doc pm an cdv ct) ⟨us,[]⟩=pure (ps.zip us):=by wtm_at "bd"):∃fd,Dn K mg n st ps f fd:=by
 obtain⟨a,l,c,k⟩:=A;have F:=Rq (st:=st) l c k;exact⟨_,F,Wf X GN a,F.binds b⟩
set_option hygiene false in
local macro_rules | `(tactic| wtm_at "bd")=>`(tactic| (intro _ _ _ _ _ _ us hl; first | (obtain ⟨rfl⟩:=zDA hl; rfl) | (obtain ⟨_,rfl⟩:=SN hl; rfl) | (obtain ⟨_,_,rfl⟩:=Nc hl; rfl) | (obtain ⟨_,_,_,rfl⟩:=Ua hl; rfl) | (obtain ⟨_,_,_,_,rfl⟩:=zEk hl; rfl)))
set_option maxHeartbeats 8000000 in
theorem all_mk{l:QL}{w:wQ}{K:wa}{h:wJ}{mg:Str->Option Value}{fa:wf}(X:K.In h)(G:h.Ns wM mg)(hfa:mg "law"=some (.ref fa))
  {f0 f1 f2 f3 f4 f5 f6 f7 f8 f9 f10 f11 f12 f13 f14 f15 f16 f17 f18 f19 f20 f21 f22 f23 f24 f25 f26 f27 f28 f29 f30 f31 f32 f33 f34 f35 f36 f37 f38 f39 f40 f41 f42 f43 f44 f45 f46 f47 f48 f49 f50 f51 f52 f53 f54 f55 f56 f57 f58 f59 f60 f61 f62 f63 f64 f65 f66 f67 f68 f69 f70 f71 f72 f73 f74 f75 f76 f77 f78 f79:wf}
  {e0:wf}
  {e1:wf}
  {g0:wf} {gn0:Nat} {gd0:Option wf} {gs0:Array (Option Value)} {tk0_0 tk0_1:Tok}
  {g1:wf} {gn1:Nat} {gd1:Option wf} {gs1:Array (Option Value)} {tk1_0 tk1_1:Tok}
  {g2:wf} {gn2:Nat} {gd2:Option wf} {gs2:Array (Option Value)} {tk2_0 tk2_1:Tok}
  {tk3:Tok}
  {tk4:Tok}
  {tk5:Tok}
  {tk6:Tok}
  {tk7:Tok}
  {tk8:Tok}
  {g9:wf} {gn9:Nat} {gd9:Option wf} {gs9:Array (Option Value)} {tk9_0 tk9_1 tk9_2:Tok}
  (a0:aT K "is_whole" Cg f0)
  (a1:aT K "is_whole_from" C4 f1)
  (a2:aT K "greatest_divisor" C2 f2)
  (a3:aT K "is_number" B4 f3)
  (a4:aT K "plus" CT f4)
  (a5:aT K "minus" FI f5)
  (a6:aT K "times" Et f6)
  (a7:aT K "over" C1 f7)
  (a8:aT K "less" DB f8)
  (a9:aT K "is_factor" CV f9)
  (a10:aT K "is_shift" BA f10)
  (a11:aT K "make_rule" FV f11)
  (a12:aT K "is_rule" Dg f12)
  (a13:aT K "bend" CQ f13)
  (a14:aT K "pushes" BH f14)
  (a15:aT K "pushed_by" Fy f15)
  (a16:aT K "is_phase" Ez f16)
  (a17:aT K "are_phases" Gd f17)
  (a18:aT K "swarm_of" FO f18)
  (a19:aT K "greatest" Ct f19)
  (a20:aT K "worms_at" BU f20)
  (a21:aT K "flocks" Fd f21)
  (a22:aT K "at_the_end" FT f22)
  (a23:aT K "glow" EX f23)
  (a24:aT K "history" FE f24)
  (a25:aT K "behind" DG f25)
  (a26:aT K "is_laid" Cd f26)
  (a27:aT K "laid" BI f27)
  (a28:aT K "phases_behind" CW f28)
  (a29:aT K "stands" Fm f29)
  (a30:aT K "round_behind" DT f30)
  (a31:aT K "round_time" Fw f31)
  (a32:aT K "tops" Fs f32)
  (a33:aT K "is_free" Gw f33)
  (a34:aT K "round_map" Ec f34)
  (a35:aT K "still" C9 f35)
  (a36:aT K "weighed" B3 f36)
  (a37:aT K "led_on" Gk f37)
  (a38:aT K "rounds_behind" BL f38)
  (a39:aT K "sums_of_places" Dk f39)
  (a40:aT K "rounds_time" CH f40)
  (a41:aT K "draws_freely" BM f41)
  (a42:aT K "stays_free" Dd f42)
  (a43:aT K "free_rounds" DU f43)
  (a44:aT K "has_stand" DS f44)
  (a45:aT K "is_row" Bs f45)
  (a46:aT K "is_last_row" DQ f46)
  (a47:aT K "is_paper" Ek f47)
  (a48:aT K "go_free" B6 f48)
  (a49:aT K "behind_rounds" Gg f49)
  (a50:aT K "behind_row" Ci f50)
  (a51:aT K "leads_on" CO f51)
  (a52:aT K "word_of" EW f52)
  (a53:aT K "lets_by" FP f53)
  (a54:aT K "glows_to_join" E_ f54)
  (a55:aT K "next_row" B1 f55)
  (a56:aT K "paper_of" Dc f56)
  (a57:aT K "_law_cell" FA f57)
  (a58:aT K "_law_pen" Bx f58)
  (a59:aT K "_law_draw" B_ f59)
  (a60:aT K "_law_low" DL f60)
  (a61:aT K "_law_drawn_rule" Fz f61)
  (a62:aT K "_law_drawn_phases" Fx f62)
  (a63:aT K "_law_paper" Fq f63)
  (a64:aT K "_law_says" Gv f64)
  (a65:aT K "_law_hours" BW f65)
  (a66:aT K "_law_things" Gi f66)
  (a67:aT K "_law_sum" B7 f67)
  (a68:aT K "_law_rest" Di f68)
  (a69:aT K "_law_product" B5 f69)
  (a70:aT K "_law_part" CP f70)
  (a71:aT K "_law_pushes" FH f71)
  (a72:aT K "_law_round" EI f72)
  (a73:aT K "_law_power" Es f73)
  (a74:aT K "_law_rests" CZ f74)
  (a75:aT K "_law_start" Gm f75)
  (a76:aT K "_law_shifted" Ft f76)
  (a77:aT K "_law_spliced" FK f77)
  (a78:aT K "_law_others_right" DR f78)
  (a79:aT K "law" uE f79)
  (h0g:w9 K wM "NoStand"=some (some (.ref e0)))
  (h0h:w9 K wM "TooLong"=some (some (.ref e1)))
  (h0q:w9 K wM "abs"=some none)
  (h0s:w9 K wM "all"=some none)
  (h0n:w9 K wM "any"=some none)
  (h0m:w9 K wM "bool"=some none)
  (h0k:w9 K wM "dict"=some none)
  (h0d:w9 K wM "enumerate"=some none)
  (h0u:w9 K wM "int"=some none)
  (h0c:w9 K wM "isinstance"=some none)
  (h0o:w9 K wM "len"=some none)
  (h0l:w9 K wM "list"=some none)
  (h0r:w9 K wM "min"=some none)
  (h0j:w9 K wM "range"=some none)
  (h0t:w9 K wM "str"=some none)
  (h0p:w9 K wM "sum"=some none)
  (h0i:w9 K wM "tuple"=some none)
  (h0v:w9 K wM "zip"=some none)
  (h0f:VJ K e0 sy "ValueError.__new__"=true)
  (h0b:V3 K (.ref e0) (.ref e1)=some false)
  (h0e:VJ K e1 sy "ValueError.__new__"=true)
  (h0a:V3 K (.ref e1) (.ref e1)=some true)
  (q0:w9 K wM "NOUGHT"=some (some (.ref g0)))
  (r0:K.lookup g0=some ⟨.type "tuple",gd0,.seq #[.int 0 tk0_0,.int 1 tk0_1] gn0,gs0⟩)
  (q1:w9 K wM "ONE"=some (some (.ref g1)))
  (r1:K.lookup g1=some ⟨.type "tuple",gd1,.seq #[.int 1 tk1_0,.int 1 tk1_1] gn1,gs1⟩)
  (q2:w9 K wM "GREATEST_FACTOR"=some (some (.ref g2)))
  (r2:K.lookup g2=some ⟨.type "tuple",gd2,.seq #[.int 4 tk2_0,.int 1 tk2_1] gn2,gs2⟩)
  (q3:w9 K wM "FACTOR_BOTTOM"=some (some (.int 8 tk3)))
  (q4:w9 K wM "SHIFT_BOTTOM"=some (some (.int 12 tk4)))
  (q5:w9 K wM "MOST_WORMS"=some (some (.int 8 tk5)))
  (q6:w9 K wM "PHASE_BOTTOM"=some (some (.int 60 tk6)))
  (q7:w9 K wM "MOST_FREE"=some (some (.int 30 tk7)))
  (q8:w9 K wM "MOST_GLOWS"=some (some (.int 40 tk8)))
  (q9:w9 K wM "WORDS"=some (some (.ref g9)))
  (r9:K.lookup g9=some ⟨.type "tuple",gd9,.seq #[.str "one" tk9_0,.str "rests" tk9_1,.str "drawn" tk9_2] gn9,gs9⟩)
  : ∃fd:wx,(∀(s:Shared)(v:Value),BindsTo s fd ⟨[v],[]⟩ [("_law_script",v)]) /\ ∀base:wJ,K.In base->base.Ns wM mg->aI l.prog w K mg base aU 16 fa fd ["_law_script"] (As K):=by
 obtain⟨aL,lL,cL,kL⟩:=a79;cases hfa.symm.trans (Wf X G aL);have FL:=Rq (st:=uE) lL cL kL;have D79:Dn K mg _ _ yy _ _:=⟨FL,Wf X G aL,FL.binds (by wtm_at "bd")⟩;have⟨_,D0⟩:=a0.dn (ps:=x_) X G;have⟨_,D1⟩:=a1.dn (ps:=yZ) X G;have⟨_,D2⟩:=a2.dn (ps:=u_) X G;have⟨_,D3⟩:=a3.dn (ps:=yN) X G;have⟨_,D4⟩:=a4.dn (ps:=yK) X G;have⟨_,D5⟩:=a5.dn (ps:=yS) X G;have⟨_,D6⟩:=a6.dn (ps:=u7) X G;have⟨_,D7⟩:=a7.dn (ps:=yf) X G;have⟨_,D8⟩:=a8.dn (ps:=zg) X G;have⟨_,D9⟩:=a9.dn (ps:=z6) X G;have⟨_,D10⟩:=a10.dn (ps:=yR) X G;have⟨_,D11⟩:=a11.dn (ps:=zT) X G;have⟨_,D12⟩:=a12.dn (ps:=uD) X G;have⟨_,D13⟩:=a13.dn (ps:=zC) X G;have⟨_,D14⟩:=a14.dn (ps:=zI) X G;have⟨_,D15⟩:=a15.dn (ps:=Ak) X G;have⟨_,D16⟩:=a16.dn (ps:=zc) X G;have⟨_,D17⟩:=a17.dn (ps:=Af) X G;have⟨_,D18⟩:=a18.dn (ps:=zP) X G;have⟨_,D19⟩:=a19.dn (ps:=yG) X G;have⟨_,D20⟩:=a20.dn (ps:=yF) X G;have⟨_,D21⟩:=a21.dn (ps:=Al) X G;have⟨_,D22⟩:=a22.dn (ps:=yT) X G;have⟨_,D23⟩:=a23.dn (ps:=yB) X G;have⟨_,D24⟩:=a24.dn (ps:=zZ) X G;have⟨_,D25⟩:=a25.dn (ps:=yo) X G;have⟨_,D26⟩:=a26.dn (ps:=yh) X G;have⟨_,D27⟩:=a27.dn (ps:=zX) X G;have⟨_,D28⟩:=a28.dn (ps:=uQ) X G;have⟨_,D29⟩:=a29.dn (ps:=zt) X G;have⟨_,D30⟩:=a30.dn (ps:=z9) X G;have⟨_,D31⟩:=a31.dn (ps:=zb) X G;have⟨_,D32⟩:=a32.dn (ps:=zd) X G;have⟨_,D33⟩:=a33.dn (ps:=zf) X G;have⟨_,D34⟩:=a34.dn (ps:=Aa) X G;have⟨_,D35⟩:=a35.dn (ps:=yP) X G;have⟨_,D36⟩:=a36.dn (ps:=u9) X G;have⟨_,D37⟩:=a37.dn (ps:=yI) X G;have⟨_,D38⟩:=a38.dn (ps:=Au) X G
 have⟨_,D39⟩:=a39.dn (ps:=yA) X G;have⟨_,D40⟩:=a40.dn (ps:=AR) X G;have⟨_,D41⟩:=a41.dn (ps:=yC) X G;have⟨_,D42⟩:=a42.dn (ps:=AM) X G;have⟨_,D43⟩:=a43.dn (ps:=uI) X G;have⟨_,D44⟩:=a44.dn (ps:=AN) X G;have⟨_,D45⟩:=a45.dn (ps:=zh) X G;have⟨_,D46⟩:=a46.dn (ps:=yx) X G;have⟨_,D47⟩:=a47.dn (ps:=yO) X G;have⟨_,D48⟩:=a48.dn (ps:=uL) X G;have⟨_,D49⟩:=a49.dn (ps:=Am) X G;have⟨_,D50⟩:=a50.dn (ps:=yJ) X G;have⟨_,D51⟩:=a51.dn (ps:=y7) X G;have⟨_,D52⟩:=a52.dn (ps:=uT) X G;have⟨_,D53⟩:=a53.dn (ps:=u5) X G;have⟨_,D54⟩:=a54.dn (ps:=zA) X G;have⟨_,D55⟩:=a55.dn (ps:=zi) X G;have⟨_,D56⟩:=a56.dn (ps:=yw) X G;have⟨_,D57⟩:=a57.dn (ps:=uO) X G;have⟨_,D58⟩:=a58.dn (ps:=uX) X G;have⟨_,D59⟩:=a59.dn (ps:=zO) X G;have⟨_,D60⟩:=a60.dn (ps:=AJ) X G;have⟨_,D61⟩:=a61.dn (ps:=uZ) X G;have⟨_,D62⟩:=a62.dn (ps:=AH) X G;have⟨_,D63⟩:=a63.dn (ps:=Ab) X G;have⟨_,D64⟩:=a64.dn (ps:=yz) X G;have⟨_,D65⟩:=a65.dn (ps:=ze) X G;have⟨_,D66⟩:=a66.dn (ps:=zR) X G;have⟨_,D67⟩:=a67.dn (ps:=z7) X G;have⟨_,D68⟩:=a68.dn (ps:=zm) X G;have⟨_,D69⟩:=a69.dn (ps:=zev) X G;have⟨_,D70⟩:=a70.dn (ps:=uR) X G;have⟨_,D71⟩:=a71.dn (ps:=zD) X G;have⟨_,D72⟩:=a72.dn (ps:=yL) X G;have⟨_,D73⟩:=a73.dn (ps:=zU) X G;have⟨_,D74⟩:=a74.dn (ps:=uA) X G;have⟨_,D75⟩:=a75.dn (ps:=AQ) X G;have⟨_,D76⟩:=a76.dn (ps:=y9) X G;have⟨_,D77⟩:=a77.dn (ps:=Aw) X G;have⟨_,D78⟩:=a78.dn (ps:=Av) X G
 have T:Txt K mg ⟨f0,_,f1,_,f2,_,f3,_,f4,_,f5,_,f6,_,f7,_,f8,_,f9,_,f10,_,f11,_,f12,_,f13,_,f14,_,f15,_,f16,_,f17,_,f18,_,f19,_,f20,_,f21,_,f22,_,f23,_,f24,_,f25,_,f26,_,f27,_,f28,_,f29,_,f30,_,f31,_,f32,_,f33,_,f34,_,f35,_,f36,_,f37,_,f38,_,f39,_,f40,_,f41,_,f42,_,f43,_,f44,_,f45,_,f46,_,f47,_,f48,_,f49,_,f50,_,f51,_,f52,_,f53,_,f54,_,f55,_,f56,_,f57,_,f58,_,f59,_,f60,_,f61,_,f62,_,f63,_,f64,_,f65,_,f66,_,f67,_,f68,_,f69,_,f70,_,f71,_,f72,_,f73,_,f74,_,f75,_,f76,_,f77,_,f78,_,_,_,e0,e1,g0,g1,g2,g9⟩:=⟨D0,
  D1,
  D2,
  D3,
  D4,
  D5,
  D6,
  D7,
  D8,
  D9,
  D10,
  D11,
  D12,
  D13,
  D14,
  D15,
  D16,
  D17,
  D18,
  D19,
  D20,
  D21,
  D22,
  D23,
  D24,
  D25,
  D26,
  D27,
  D28,
  D29,
  D30,
  D31,
  D32,
  D33,
  D34,
  D35,
  D36,
  D37,
  D38,
  D39,
  D40,
  D41,
  D42,
  D43,
  D44,
  D45,
  D46,
  D47,
  D48,
  D49,
  D50,
  D51,
  D52,
  D53,
  D54,
  D55,
  D56,
  D57,
  D58,
  D59,
  D60,
  D61,
  D62,
  D63,
  D64,
  D65,
  D66,
  D67,
  D68,
  D69,
  D70,
  D71,
  D72,
  D73,
  D74,
  D75,
  D76,
  D77,
  D78,
  D79,
  vv X G h0q,
  vv X G h0s,
  vv X G h0n,
  vv X G h0m,
  vv X G h0k,
  vv X G h0d,
  vv X G h0u,
  vv X G h0c,
  vv X G h0o,
  vv X G h0l,
  vv X G h0r,
  vv X G h0j,
  vv X G h0t,
  vv X G h0p,
  vv X G h0i,
  vv X G h0v,
  Wf X G h0g,
  Wf X G h0h,
  h0f,
  h0b,
  h0e,
  h0a,
  Wf X G q0,
  λH=>.inr ⟨_,_,_,r0,rfl,rfl,by simp;decide,(.cons ⟨_,rfl⟩ (.cons ⟨_,rfl⟩ .nil))⟩,
  Wf X G q1,
  λH=>.inr ⟨_,_,_,r1,rfl,rfl,by simp;decide,(.cons ⟨_,rfl⟩ (.cons ⟨_,rfl⟩ .nil))⟩,
  Wf X G q2,
  λH=>.inr ⟨_,_,_,r2,rfl,rfl,by simp;decide,(.cons ⟨_,rfl⟩ (.cons ⟨_,rfl⟩ .nil))⟩,
  ⟨_,Wf X G q3⟩,
  ⟨_,Wf X G q4⟩,
  ⟨_,Wf X G q5⟩,
  ⟨_,Wf X G q6⟩,
  ⟨_,Wf X G q7⟩,
  ⟨_,Wf X G q8⟩,
  Wf X G q9,
  λH=>.inr ⟨_,_,_,r9,rfl,rfl,by simp;decide,(.cons ⟨_,rfl⟩ (.cons ⟨_,rfl⟩ (.cons ⟨_,rfl⟩ .nil)))⟩⟩
 exact⟨_,λs v=>.of_eq rfl,λbase _ _=>zCf T⟩
theorem walk{l:QL}{q:wK}{loose:List Str}{XP:(Str->Option Value)->wJ->Prop}{YP:wQ->wJ->Prop}{d:DefRec}{K:Params->wa}(hn:l.most=some 63)(hdf:d.params.defaults=[])
  (hY:∀(w:wQ)(h:wJ),YP w h->(K w.params).In h)
  (F:∀(w:wQ)(mg:Str->Option Value)(fa:wf)(h:wJ),(K w.params).In h->h.Ns wM mg->mg d.name=some (.ref fa) ->
   ∃fd:wx,(∀(s:Shared)(u:Value),BindsTo s fd ⟨[u],[]⟩ [("_law_script",u)]) /\ ∀base:wJ,(K w.params).In base->base.Ns wM mg->aI l.prog w (K w.params) mg base aU 16 fa fd ["_law_script"] (As (K w.params))) :
  X5 q loose XP YP l.row.toRowW d [] (λf vs=>XG f vs) :=
 L2.YV (n:=63) (k:=16) (x:="_law_script") (CX:=λ_=>aU) (sp:=λw=>As (K w.params)) hn (by decide) hdf ⟨rfl,by decide,by decide,rfl⟩ hY F (λ_ H a ns hl hO hS=>⟨.ref a,rfl,a,ns,rfl,zDj hO hS,hl,λ_=>rfl⟩) λ_ _ _ _ _ z=>z
end G
local macro_rules | `(tactic| wtm_at "fk")=>`(tactic| (refine' G.aT.mk ?a ?l ?c ?k; (case a=>k_is); (case l=>k_is); (case c=>k_is); (case k=>k_is)))
open PySem PySem.W PyProof.Rows
set_option maxRecDepth 100000 in
set_option maxHeartbeats 0 in
theorem PySem.Challenge.cw_glowflock_k33_no_papers_holds : PySem.Challenge.rw_glowflock_k33_no_papers.Holds := by
 w_on; refine GH.head ?_
 k_fill
 refine G.walk (l:=PySem.Challenge.rw_glowflock_k33_no_papers) rfl rfl (fun w h Y=>PySem.W.kIn_of Y) ?F
 case F =>
   intro w mg fa h KX GG hmg;refine' G.all_mk KX GG hmg ?a0 ?a1 ?a2 ?a3 ?a4 ?a5 ?a6 ?a7 ?a8 ?a9 ?a10 ?a11 ?a12 ?a13 ?a14 ?a15 ?a16 ?a17 ?a18 ?a19 ?a20 ?a21 ?a22 ?a23 ?a24 ?a25 ?a26 ?a27 ?a28 ?a29 ?a30 ?a31 ?a32 ?a33 ?a34 ?a35 ?a36 ?a37 ?a38 ?a39 ?a40 ?a41 ?a42 ?a43 ?a44 ?a45 ?a46 ?a47 ?a48 ?a49 ?a50 ?a51 ?a52 ?a53 ?a54 ?a55 ?a56 ?a57 ?a58 ?a59 ?a60 ?a61 ?a62 ?a63 ?a64 ?a65 ?a66 ?a67 ?a68 ?a69 ?a70 ?a71 ?a72 ?a73 ?a74 ?a75 ?a76 ?a77 ?a78 ?a79 ?h0g ?h0h ?h0q ?h0s ?h0n ?h0m ?h0k ?h0d ?h0u ?h0c ?h0o ?h0l ?h0r ?h0j ?h0t ?h0p ?h0i ?h0v ?h0f ?h0b ?h0e ?h0a ?q0 ?r0 ?q1 ?r1 ?q2 ?r2 ?q3 ?q4 ?q5 ?q6 ?q7 ?q8 ?q9 ?r9
   (case a0=>wtm_at "fk")
   (case a1=>wtm_at "fk")
   (case a2=>wtm_at "fk")
   (case a3=>wtm_at "fk")
   (case a4=>wtm_at "fk")
   (case a5=>wtm_at "fk")
   (case a6=>wtm_at "fk")
   (case a7=>wtm_at "fk")
   (case a8=>wtm_at "fk")
   (case a9=>wtm_at "fk")
   (case a10=>wtm_at "fk")
   (case a11=>wtm_at "fk")
   (case a12=>wtm_at "fk")
   (case a13=>wtm_at "fk")
   (case a14=>wtm_at "fk")
   (case a15=>wtm_at "fk")
   (case a16=>wtm_at "fk")
   (case a17=>wtm_at "fk")
   (case a18=>wtm_at "fk")
   (case a19=>wtm_at "fk")
   (case a20=>wtm_at "fk")
   (case a21=>wtm_at "fk")
   (case a22=>wtm_at "fk")
   (case a23=>wtm_at "fk")
   (case a24=>wtm_at "fk")
   (case a25=>wtm_at "fk")
   (case a26=>wtm_at "fk")
   (case a27=>wtm_at "fk")
   (case a28=>wtm_at "fk")
   (case a29=>wtm_at "fk")
   (case a30=>wtm_at "fk")
   (case a31=>wtm_at "fk")
   (case a32=>wtm_at "fk")
   (case a33=>wtm_at "fk")
   (case a34=>wtm_at "fk")
   (case a35=>wtm_at "fk")
   (case a36=>wtm_at "fk")
   (case a37=>wtm_at "fk")
   (case a38=>wtm_at "fk")
   (case a39=>wtm_at "fk")
   (case a40=>wtm_at "fk")
   (case a41=>wtm_at "fk")
   (case a42=>wtm_at "fk")
   (case a43=>wtm_at "fk")
   (case a44=>wtm_at "fk")
   (case a45=>wtm_at "fk")
   (case a46=>wtm_at "fk")
   (case a47=>wtm_at "fk")
   (case a48=>wtm_at "fk")
   (case a49=>wtm_at "fk")
   (case a50=>wtm_at "fk")
   (case a51=>wtm_at "fk")
   (case a52=>wtm_at "fk")
   (case a53=>wtm_at "fk")
   (case a54=>wtm_at "fk")
   (case a55=>wtm_at "fk")
   (case a56=>wtm_at "fk")
   (case a57=>wtm_at "fk")
   (case a58=>wtm_at "fk")
   (case a59=>wtm_at "fk")
   (case a60=>wtm_at "fk")
   (case a61=>wtm_at "fk")
   (case a62=>wtm_at "fk")
   (case a63=>wtm_at "fk")
   (case a64=>wtm_at "fk")
   (case a65=>wtm_at "fk")
   (case a66=>wtm_at "fk")
   (case a67=>wtm_at "fk")
   (case a68=>wtm_at "fk")
   (case a69=>wtm_at "fk")
   (case a70=>wtm_at "fk")
   (case a71=>wtm_at "fk")
   (case a72=>wtm_at "fk")
   (case a73=>wtm_at "fk")
   (case a74=>wtm_at "fk")
   (case a75=>wtm_at "fk")
   (case a76=>wtm_at "fk")
   (case a77=>wtm_at "fk")
   (case a78=>wtm_at "fk")
   (case a79=>wtm_at "fk")
   (case h0g=>k_is)
   (case h0h=>k_is)
   (case h0q=>k_is)
   (case h0s=>k_is)
   (case h0n=>k_is)
   (case h0m=>k_is)
   (case h0k=>k_is)
   (case h0d=>k_is)
   (case h0u=>k_is)
   (case h0c=>k_is)
   (case h0o=>k_is)
   (case h0l=>k_is)
   (case h0r=>k_is)
   (case h0j=>k_is)
   (case h0t=>k_is)
   (case h0p=>k_is)
   (case h0i=>k_is)
   (case h0v=>k_is)
   (case h0f=>k_exc)
   (case h0b=>kts_exm)
   (case h0e=>k_exc)
   (case h0a=>kts_exm)
   (case q0=>k_is)
   (case r0=>k_is)
   (case q1=>k_is)
   (case r1=>k_is)
   (case q2=>k_is)
   (case r2=>k_is)
   (case q3=>k_is)
   (case q4=>k_is)
   (case q5=>k_is)
   (case q6=>k_is)
   (case q7=>k_is)
   (case q8=>k_is)
   (case q9=>k_is)
   (case r9=>k_is)
#print axioms PySem.Challenge.cw_glowflock_k33_no_papers_holds
