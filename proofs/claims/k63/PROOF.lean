import PyProof.Rows.All
import Wide.All
import OpenK.AllK
import Wide.FinOn
import Lean
import PyProof.EqAt
import PyProof.EqKinds
import PyProof.TupleCall
import PyProof.P3In
import PyProof.ReprRoads
import PyProof.MaxThree
import PyProof.Rows.SetFrom
import PyProof.SetRoads
import PyProof.Rows.TupDisplay
import PyProof.AttrMissHeap
import KE.KDictOf
import PyProof.Walks
import KE.KItemsList
import PyProof.DictValues
import PyProof.DictWalks
import PySem.Challenge.RW_glowflock_k63_whole_exchanged_ends
set_option compiler.extract_closed false
set_option Elab.async false
set_option linter.all false
set_option maxRecDepth 100000
open Array renaming append_assoc->xX,forIn_toList->qH,getElem?_eq_none->xm,getElem?_eq_some_iff->WV,length_toList->Vc,toList->uK
open Bool renaming and_eq_true->wZ,and_eq_true_iff->xx,and_false->uw,and_true->QJ,beq_eq_decide_eq->V9,eq_iff_iff->vH,false_and->WA,false_eq_true->vZ,false_ne_true->vC,noConfusion->XQ,not_eq_true->XR,not_eq_true'->W7,not_false->xp,not_true->qj,or_eq_true->ub,or_false->uB,true_and->Vy
open Classical renaming not_not->V6
open False renaming elim->Wp
open Int renaming dvd_mul_left->XH,dvd_mul_right->VA,dvd_trans->qh,ediv_eq_of_eq_mul_right->Qv,ediv_le_self->XI,ediv_nonneg->X9,emod_lt_of_pos->qI,emod_nonneg->Qf,fdiv_eq_ediv_of_nonneg->qi,gcd->vx,gcd_comm->xZ,gcd_dvd_left->qd,gcd_dvd_right->qO,gcd_pos_of_ne_zero_right->V8,gcd_zero_right->Qz,mul_assoc->VU,mul_ediv_cancel_left->VN,mul_ne_zero->Q5,mul_neg->Xz,mul_one->xa,mul_pos->We,natAbs_ediv_le_natAbs->QQ,natAbs_mul->xo,natCast_ediv->VO,natCast_mul->Vt,neg_dvd->Xy,neg_one_mul->X1,pow_add->XD,pow_ne_zero->VY,pow_pos->XB,pow_succ->Qc,pow_zero->Xg,sign_eq_neg_one_of_neg->QF,sign_eq_one_of_pos->xc,toNat->Q6,toNat_natCast->wU
open List renaming Nodup->xH,Pairwise->xK,Perm->Xd,all_cons->xJ,all_eq_true->WE,all_map->qF,any_cons->qW,any_eq_true->XW,append_assoc->V5,append_nil->Wc,cons_append->QV,dropLast_concat_getLast->Qo,dropLast_eq_take->xq,drop_eq_getElem_cons->qu,drop_eq_nil_of_le->xg,drop_succ_cons->Qk,drop_zero->xt,eq_nil_of_length_eq_zero->Va,eraseIdx_cons_succ->qN,ext_getElem->Wg,filterMap_cons->Qi,filter_append->W1,filter_congr->vn,filter_cons->WI,filter_eq_nil_iff->qU,filter_eq_self->Qj,filter_filter->W0,find?_cons->uh,find?_some->ui,flatten_cons->Xn,foldl_append->Xk,forIn_cons->qw,forIn_nil->Qq,getD_eq_getElem?_getD->wa,getElem?_append_left->vO,getElem?_append_right->vf,getElem?_drop->Xa,getElem?_eq_getElem->wc,getElem?_eq_none->wP,getElem?_eq_some_iff->WG,getElem?_map->wu,getElem?_range->vV,getElem?_replicate->Q0,getElem?_set->W6,getElem?_set_ne->qc,getElem?_set_self->qQ,getElem?_toArray->xw,getElem_cons_succ->Vn,getElem_cons_zero->xn,getElem_drop->Xm,getElem_idxOf->VX,getElem_map->Ww,getElem_mem->vt,getElem_of_mem->vg,getElem_take->Xl,idxOf_lt_length_iff->WK,length->Xx,length_append->wX,length_cons->vP,length_drop->Wf,length_dropLast->xI,length_eq_zero_iff->qM,length_filter_le->WB,length_map->wo,length_nil->Q9,length_pos_iff->VR,length_pos_of_mem->xh,length_range->vB,length_replicate->WX,length_set->WP,length_singleton->vT,length_tail->qX,length_take->WD,length_zipWith->xN,lookup_cons->qg,map_append->vK,map_congr_left->qq,map_cons->va,map_drop->uE,map_dropLast->Xv,map_map->Vq,map_nil->Qb,mem_append->vW,mem_append_left->Wh,mem_append_right->vS,mem_cons->wL,mem_cons_of_mem->wF,mem_cons_self->wG,mem_filter->vd,mem_filterMap->Qs,mem_iff_getElem->xC,mem_map->wO,mem_of_find?_eq_some->QT,mem_of_getElem?->xz,mem_or_eq_of_mem_set->QR,mem_range->wD,mem_singleton->wY,nil_append->Qd,nodup_cons->WH,nodup_range->Wu,not_mem_nil->Wx,of_mem_zip->Qa,pairwise_append->qf,pairwise_cons->WJ,pairwise_iff_getElem->Wy,pairwise_lt_range->qV,pairwise_map->WN,pairwise_singleton->Q1,range->wx,range_succ->Q7,replicate->Vf,set_cons_succ->Xe,set_cons_zero->Xf,size_toArray->wR,sum_cons->W8,tail_cons->ur,take_add_one->V4,take_length->Wv,take_of_length_le->Vl,take_sublist->Xh,take_subset->XJ,take_succ_cons->xQ,take_zero->uz,zipIdx_cons->XU,zipIdx_nil->ue
open List.Pairwise renaming and_mem->uP,drop->uR
open List.Perm renaming append_left->xr,refl->ut
open Nat renaming add_assoc->VT,add_le_add_left->xS,add_sub_cancel->qD,gcd_dvd_right->Xj,le_add_right->Vi,le_max_left->X2,le_max_right->XG,le_of_dvd->uF,le_of_lt->Vp,le_refl->wq,le_succ->xb,le_trans->Wm,lt_irrefl->Vx,lt_of_le_of_lt->WY,lt_of_lt_of_le->w5,lt_of_succ_lt_succ->Vm,lt_or_ge->wJ,lt_succ_of_lt->VC,lt_trichotomy->VB,lt_two_pow_self->xT,min_le_right->XE,mod_eq_of_lt->XM,mul_le_mul->VH,mul_le_mul_left->Ql,mul_le_mul_right->Wi,mul_succ->qC,ne_of_gt->vj,ne_of_lt->wT,not_lt_zero->Qe,pow_add->XA,pow_succ->x6,sub_self->W5,succ_mul->Qh,succ_ne_self->XT,two_pow_pos->Wl,zero_le->qm,zero_mul->QY
open Nat.succ renaming inj->QZ
open Ne renaming symm->Wj
open Option renaming bind_some->XS,getD_none->XF,getD_some->qY,isSome_iff_exists->VJ,map_eq_some_iff->Vk,map_some->uc
open Option.some renaming inj->w6,injEq->QM
open Prod renaming ext->Vw,fst->uI,snd->uJ
open PyProof.Rows renaming callWith_type1->vk,slot_tuple_getitem->VS
open PyProof.Rows.IsTup renaming new->qZ
open PySem renaming Addr->we,Around->vb,FuncData->wE,Heap->wQ,IsPair->Ws,NameKind->WW,Program->wS,PyData->wB,Shared->wm,Stmt->vc,Value->wg,World->wW,assignEach->Vo,backTo->VQ,binaryOp->WO,bootBuiltins->vI,cLine->WM,call->XZ,compareOp->wN,isSubtype_stop->VI,letOwnedTupleGo->qy,mainGlobals->wM,mem_of_lookup->Vd,pyNext->Ve,rawInt->VE,sizeLine->ve,sliceBounds->qp,starEach->w8,wpAny->wA,wpAny_Call_Name_kw->V1,wpAny_attempt->WF,wpAny_bind->wf,wpAny_call_entry->vQ,wpAny_comprehension_free->qJ,wpAny_execs_nil->qx,wpAny_field->vi,wpAny_holding->vR,wpAny_isInstance->WL,wpAny_mono->Wr,wpAny_newObj_type->Wo,wpAny_passesOwn->Vv,wpAny_pure->wy,wpAny_pyIter_list->VF,wpAny_pyIter_tuple->W2,wpAny_rule->V0,wpAny_seqItems->Wk,wpAny_setField->Vj,wpAny_setField_rec->W3,wpAny_specialOf->qz,wpAny_standAt->ql,wpAny_truthy_bool->Wn
open PySem.Around renaming frames_deeper->xy,under->uL,under_plainId->xG
open PySem.Builtin.Dict renaming pairItems->xk,updateFrom->Q3
open PySem.Builtin.Int renaming intBits->xO
open PySem.Builtin.Range renaming rangeSize->uN
open PySem.Builtin.Slice renaming sliceAdjust->qr,sliceApplied->QD,sliceFields->uH,slicePartIndex->um,slicePlaces->VG
open PySem.Builtin.SmallTypes renaming nextOf->vG,ownedTupleHandOut->qG,ownedTupleIsFree->vE
open PySem.Builtin.Tuple renaming tupleExact->VM,tupleHashOf->vX,tupleItemsOf->QE
open PySem.Calls renaming Name_function_global->QC,evalArgs_plain->xA,spliced_cons->Qt,spliced_nil->QL
open PySem.Challenge renaming pw_glowflock_k63_whole_exchanged_ends->Vr,rw_glowflock_k63_whole_exchanged_ends->wz
open PySem.Code renaming isGuard->uM
open PySem.EntryCells renaming newEntry->xP
open PySem.F renaming args_enumerate_next_1->Q2,args_object_init_3->xF,args_tuple_add_2->qA,args_tuple_iterator_next_1->Qp,args_zip_next_1->VD,attrBase_ValueError->Qx,entry_enumerate_next->xj,entry_tuple_add->qL,entry_tuple_iterator_next->Qy,entry_zip_new->ug,entry_zip_next->VP,excBase_ValueError->xD,newCall_zip_2->uf,plainAttrs_list->vU,slot_enumerate_next->qb,slot_list_append->Wa,slot_tuple_add->qS,slot_tuple_eq->Q8,slot_tuple_hash->qP,slot_tuple_iterator_next->Vz,slot_zip_getattribute->V3,slot_zip_next->Wq,typeCall_zip_2->XV,type_list_append->Wb
open PySem.Heap renaming ExtBut->xi,IsTuple->QX,MadeExcOf->uu,SameBut->vF,get?_push_ne->QN,get?_push_of_some->wp,get?_push_size->wK,get?_update_other->Wt,get?_update_self->Vs,lt_size->wC,size_push->WC,update->V2
open PySem.Heap.IsSliceOf renaming new->uQ
open PySem.Heap.SameBut renaming update->xR
open PySem.IntMulOk renaming of_left->XX,of_right->Xu
open PySem.IsRange renaming new->uO
open PySem.Obj renaming cls_mapFields->Xs,data_mapFields->VZ,isFreed_of_fields->qa,mapFields->qk,mapSeq->QP
open PySem.Paired renaming length->uA
open PySem.PassesOwn renaming leaving->Xw,never->vD
open PySem.PyData renaming canLay0->vM,canLayAll0->Wz,depth->WU,depthAll->WR,eqv->wI,eqvAll->vJ,strOk->Xc
open PySem.SeqAt renaming canLay_of_shaped->Vg,shaped->vN
open PySem.SeqAt.EqAt renaming int_str->xU,str_int->xV
open PySem.Shared renaming heap->Qr
open PySem.Str renaming ofString->vL,ofString->wV
open PySem.StrLaws renaming seqIndex_nonneg->ul
open PySem.W renaming Frag->wb,InstAt->xv,Looks->QI,OpenLaw->Q4,WalkO->uC,callWith_K->Qu,cellsFrom_some->qR,clsIn->xL,codeIn->Qm,codeRec_of->xY,excIn->W9,exmOne->Vh,findIn->xu,findObj->ud,fnOf->VL,hideAll->XY,hideAll_get->xM,keepIn->V7,kia_one->WQ,kia_tup->Vu,kitAny->uv,kitOne->wt,kitx_bool->Xp,kitx_dict->Xr,kitx_int->XN,kitx_list->Xq,kitx_none->Xo,kitx_str->XO,kitx_tuple->Xb,looks_findIn->xE,methodObj->QK,mg_none_of->vy,mg_of->vA,mroIn->uG,nsIn->w9,of_hideAll->xW
open PySem.W.Looks renaming ld->uS
open Rat renaming den_divInt->uo,den_intCast->uk,divInt->wH,divInt_nonneg->Xi,divInt_ofNat->QU,div_def->XC,div_mul_cancel->WZ,intCast_add->qt,intCast_eq_zero_iff->Vb,intCast_le_intCast->WS,intCast_lt_intCast->qT,intCast_mul->Wd,intCast_pos->X8,le_antisymm->ua,le_iff->xB,le_of_lt->vY,le_refl->WT,le_trans->QW,lt_of_le_of_ne->qE,lt_of_mul_lt_mul_right->QG,mul_assoc->uD,mul_comm->Qg,mul_eq_zero->X6,mul_nonneg->Qn,mul_pos->qo,not_lt->VW,num_divInt_den->Qw,num_intCast->uj,num_nonneg->qK,one_mul->xf,pow_succ->W4,pow_zero->qB
namespace GH
open PySem PySem.W PyProof.Rows
noncomputable def AD (p:wS) (w:wW) (m:Nat) (an:Option wg) (N:Nat) (s0:wm):Option wm :=
 Option.bind (Fast.tw14082659384304107361 Fast.tw14364793385576792824 p w m an N s0 (topStub p)) λs1=>match staticsOk (Fast.tw5923862056798008813 p.main.body) s0.heap s1.heap&&namesBound p s1.heap&&gensDone s1&&laidKept s0.heap s1.heap with | true=>some s1 | false=>none
noncomputable def gk (w:wW) (os:OsState):wm:=⟨boot_heap w.params,#[],boot_drawn,boot_toks,os⟩
theorem zws{p q:wS}{loose:List Str}{Xt:wm->Bool}{A:Type}{Yf:wm->A}{Ya:wW->A}{N:Nat}(e:opening p=plainProg p.main.scope.names)(hN:Nat.ble 600 N=true)(f:∀s,fenceModules? p s=some s){m:Nat}{an:Option wg}
  (size:∀w:wW,((boot_heap w.params).isNs wM,(boot_heap w.params).objs.size,(boot_heap w.params).nsMap wM "__annotations__")=(true,m,an))
  (h:∀w:wW,(λos=>(AD p w m an N (gk w os)).map (λs=>(Fast.tw4187177175401517315 q loose (Fast.tw5923862056798008813 p.main.body) Xt true s,Yf s)))=λ_=>some (openGood q loose,Ya w)):LeftO p q loose Xt Yf Ya N:=λw=>by
 obtain⟨⟨h',gs,d,k,os⟩,e',e2⟩:=Vk.mp (boot_open e hN f (w:=w));obtain⟨rfl,rfl,rfl,rfl⟩:h'=boot_heap w.params/\gs = #[]/\d=boot_drawn/\k=boot_toks:=by simpa using e2
 obtain⟨z1,z2,z3⟩:_/\_/\_:=by simpa only[Prod.mk.injEq] using size w
 have r:=congrFun (h w) os;unfold openEnds;rw[e']
 show Option.map _ (topFrom treeTable p w N _)=_
 rw[<- r];unfold topFrom AD gk;rw[<- Fast.te14082659384304107361,<- Fast.te14364793385576792824,<- Fast.te5923862056798008813,<- Fast.te4187177175401517315];dsimp only;rw[z1,z2,z3]
 rfl
noncomputable def jk (p:wS) (w:wW) (m:Nat) (an:Option wg) (N:Nat) (s0:wm):Option wm:=Fast.tw14082659384304107361 Fast.tw14364793385576792824 p w m an N s0 (topStub p)
noncomputable def sR (p:wS) (w:wW) (os:OsState) (s1:wm):Bool:=staticsOk (Fast.tw5923862056798008813 p.main.body) (gk w os).heap s1.heap&&namesBound p s1.heap&&gensDone s1&&laidKept (gk w os).heap s1.heap
theorem UZ{p q:wS}{loose:List Str}{Xt:wm->Bool}{A:Type}{Yf:wm->A}{Ya:wW->A}{N:Nat}(e:opening p=plainProg p.main.scope.names)(hN:Nat.ble 600 N=true)(f:∀s,fenceModules? p s=some s){m:Nat}{an:Option wg}
  (size:∀w:wW,((boot_heap w.params).isNs wM,(boot_heap w.params).objs.size,(boot_heap w.params).nsMap wM "__annotations__")=(true,m,an)) (hp:drecsOf q=[]) (he:plainsOf q (looseW q loose)=[]) (hd:dclssOf q loose=[])
  (hB0:∀w:wW,(λos=>(jk p w m an N (gk w os)).map (λs=>(sR p w os s,(Fast.tw4187177175401517315 q loose (Fast.tw5923862056798008813 p.main.body) Xt true s).2.2.2.1)))=λ_=>some (true,true))
  (hB1:∀w:wW,(λos=>(jk p w m an N (gk w os)).map (λs=>((Fast.tw4187177175401517315 q loose (Fast.tw5923862056798008813 p.main.body) Xt true s).1,(Fast.tw4187177175401517315 q loose (Fast.tw5923862056798008813 p.main.body) Xt true s).2.1)))=λ_=>some (expectedOf q,bltViewBooted))
  (hB2:∀w:wW,(λos=>(jk p w m an N (gk w os)).map (λs=>(Fast.tw4187177175401517315 q loose (Fast.tw5923862056798008813 p.main.body) Xt true s).2.2.1))=λ_=>some true)
  (hB3:∀w:wW,(λos=>(jk p w m an N (gk w os)).map (λs=>(Fast.tw4187177175401517315 q loose (Fast.tw5923862056798008813 p.main.body) Xt true s).2.2.2.2.2.2.2))=λ_=>some (wideGood q,clsGoodW q loose))
  (hC:∀w:wW,(λos=>(jk p w m an N (gk w os)).map (λs=>Yf s))=λ_=>some (Ya w)):LeftO p q loose Xt Yf Ya N:=by
 refine zws e hN f size λw=>?_
 funext os
 have h1:=congrFun (hB0 w) os;obtain⟨s1,e1,e2⟩:=Vk.mp h1;have g1:=congrFun (hB1 w) os;have g2:=congrFun (hB2 w) os;have g3:=congrFun (hB3 w) os;have k:=congrFun (hC w) os;rw[e1]at g1 g2 g3 k;have g1:=w6 g1;have g2:=w6 g2;have g3:=w6 g3;have a0:=congrArg uI e2;have b0:=congrArg uJ e2;have a1:=congrArg uI g1;have b1:=congrArg uJ g1
 have gp:(Fast.tw4187177175401517315 q loose (Fast.tw5923862056798008813 p.main.body) Xt true s1).2.2.2.2.1=pinGoodD (drecsOf q):=by
  rw[<- Fast.te4187177175401517315]
  show pinSeenD q (drecsOf q) s1=_
  rw[hp]
  rfl
 have ge:(Fast.tw4187177175401517315 q loose (Fast.tw5923862056798008813 p.main.body) Xt true s1).2.2.2.2.2.1=plainGoodE q (looseW q loose):=by
  rw[<- Fast.te4187177175401517315]
  show plainSeenE q (looseW q loose) s1=_
  unfold plainSeenE plainGoodE;rw[he]
  rfl
 have gd:(Fast.tw4187177175401517315 q loose (Fast.tw5923862056798008813 p.main.body) Xt true s1).2.2.2.2.2.2.1=plainGoodD q loose:=by
  rw[<- Fast.te4187177175401517315]
  show plainSeenD q loose s1=_
  unfold plainSeenD plainGoodD;rw[hd]
  rfl
 have g:Fast.tw4187177175401517315 q loose (Fast.tw5923862056798008813 p.main.body) Xt true s1=openGood q loose:=Vw a1 (Vw b1 (Vw g2 (Vw b0 (Vw gp (Vw ge (Vw gd g3))))));have k:=w6 k
 have ez:AD p w m an N (gk w os)=some s1:=by
  unfold AD;unfold jk at e1;rw[e1]
  show(match sR p w os s1 with | true=>some s1 | false=>none)=some s1
  rw[show sR p w os s1=true from a0]
 rw[ez];exact congrArg some (Vw g k)
def qv:wS:=view Vr [1,2,3,4,5,6,7,8,9,10,12,13,14,15,16,17,18,19,20,21,22,24,25,26,27,28,29,30,31,32,33,35,36,37,39,40,41,42,43,44,45,46,47,48,50,51,53,54,55,56,57,58,59,60,61,63,64,65,66,67,68,69,70,71,72,74,75,76,77,78,79,80,81,82,83,84,85,86,87,88,89,91,92,93,94,95,96,97,98,99,100,101,102,103]
theorem Ld{a b:Bool}(h:a=true)(k:b=true):(a&&b)=true:=by rw[h,k];rfl
set_option maxHeartbeats 0 in
theorem JX:wz.wellSaid=true:=by
 unfold OpenLaw.wellSaid OpenRow.wellSaid OpenRow.partSaid looksOpen
 repeat' with_reducible refine Ld ?_ ?_
 all_goals decide +kernel
theorem size(w:wW):((boot_heap w.params).isNs wM,(boot_heap w.params).objs.size,(boot_heap w.params).nsMap wM "__annotations__")=(true,11,some (.ref 6)):=by kernel_rfl
theorem ZE:drecsOf qv=[]:=by kernel_rfl
theorem ZK:plainsOf qv (looseW qv [])=[]:=by kernel_rfl
theorem no3:dclssOf qv []=[]:=by kernel_rfl
theorem Ys(w:wW):(λos=>(jk wz.row.prog w 11 (some (.ref 6)) 9094 (gk w os)).map (λs=>(sR wz.row.prog w os s,(Fast.tw4187177175401517315 qv [] (Fast.tw5923862056798008813 wz.row.prog.main.body) (λs=>xlAt GH.qv [] s&&recOk (RowW.records (OpenRow.toRowW (OpenLaw.row wz))) s) true s).2.2.2.1)))=λ_=>some (true,true):=by kernel_rfl
theorem Yw(w:wW):(λos=>(jk wz.row.prog w 11 (some (.ref 6)) 9094 (gk w os)).map (λs=>((Fast.tw4187177175401517315 qv [] (Fast.tw5923862056798008813 wz.row.prog.main.body) (λs=>xlAt GH.qv [] s&&recOk (RowW.records (OpenRow.toRowW (OpenLaw.row wz))) s) true s).1,(Fast.tw4187177175401517315 qv [] (Fast.tw5923862056798008813 wz.row.prog.main.body) (λs=>xlAt GH.qv [] s&&recOk (RowW.records (OpenRow.toRowW (OpenLaw.row wz))) s) true s).2.1)))=λ_=>some (expectedOf qv,bltViewBooted):=by kernel_rfl
theorem Yx(w:wW):(λos=>(jk wz.row.prog w 11 (some (.ref 6)) 9094 (gk w os)).map (λs=>(Fast.tw4187177175401517315 qv [] (Fast.tw5923862056798008813 wz.row.prog.main.body) (λs=>xlAt GH.qv [] s&&recOk (RowW.records (OpenRow.toRowW (OpenLaw.row wz))) s) true s).2.2.1))=λ_=>some true:=by kernel_rfl
theorem Yt(w:wW):(λos=>(jk wz.row.prog w 11 (some (.ref 6)) 9094 (gk w os)).map (λs=>(Fast.tw4187177175401517315 qv [] (Fast.tw5923862056798008813 wz.row.prog.main.body) (λs=>xlAt GH.qv [] s&&recOk (RowW.records (OpenRow.toRowW (OpenLaw.row wz))) s) true s).2.2.2.2.2.2.2))=λ_=>some (wideGood qv,clsGoodW qv []):=by kernel_rfl
local macro_rules | `(tactic| o_head $H)=>`(tactic| (refine holds_open (q:=GH.qv) (loose:=[]) (Xt:=λ s=>xlAt GH.qv [] s && recOk (RowW.records (OpenRow.toRowW (OpenLaw.row wz))) s) (XP:=XL GH.qv []) (Yf:=Hook.obs $H) (Ya:=Hook.val $H) (YP:=Hook.says $H) (N:=9094) ?hl (Hook.of $H) (Hook.keeps $H) (λ s e=>xl_of s (xx.mp e).1) XL.keeps (by rfl) (by rfl) (by rfl) (λ s e=>recFacts_of (xx.mp e).2) (by rfl) (by first | assumption | decide +kernel) (by decide +kernel) ⟨rfl,rfl,rfl,rfl,rfl,by decide +kernel⟩ ?hw ?hc; (case hl=>refine GH.UZ (by kernel_rfl) rfl (λ s=>by kernel_rfl) GH.size GH.ZE GH.ZK GH.no3 GH.Ys GH.Yw GH.Yx GH.Yt ?_; intro w; kernel_rfl)))
local macro_rules | `(tactic| o_law)=>`(tactic| refine holds_law GH.JX λ JX=>?_)
set_option maxHeartbeats 0
open_top head for wz
end GH
set_option maxHeartbeats 4000000
namespace L2
open PySem PySem.Spec PyProof.Rows
abbrev Key:=Sum Int Str
def Sj:Key->wg->Bool
 | .inl k,v=>Value.isInt k v
 | .inr x,v=>Value.isStrOf x v
def zEC(w:wW):Key->Int
 | .inl k=>hashInt k
 | .inr x=>hashStr w x
theorem j_:∀{k:Key}{v:wg},Sj k v=true->(∃i t,k=Sum.inl i/\v=Value.int i t)\/(∃x t,k=Sum.inr x/\v=Value.str x t)
 | .inl i,v,h=>by
  obtain⟨t,e⟩:=Value.isInt_shape (k:=i) (v:=v) h;exact .inl ⟨i,t,rfl,e⟩
 | .inr x,v,h=>by
  obtain⟨t,e⟩:=Value.isStrOf_shape (x:=x) (v:=v) h;exact .inr ⟨x,t,rfl,e⟩
theorem zDr(a b:Int):decide ((Sum.inl a:Key)=Sum.inl b)=(a == b):=by
 by_cases e:a=b
 ·subst e;simp
 ·have h:¬ (Sum.inl a:Key)=Sum.inl b:=λq=>e (Sum.inl.inj q)
  rw[decide_eq_false h];exact(beq_eq_false_iff_ne.mpr e).symm
theorem zCZ(a b:Str):decide ((Sum.inr a:Key)=Sum.inr b)=decide (a=b):=by
 by_cases e:a=b
 ·subst e;simp
 ·have h:¬ (Sum.inr a:Key)=Sum.inr b:=λq=>e (Sum.inr.inj q)
  rw[decide_eq_false h,decide_eq_false e]
theorem zCJ(a:Int)(b:Str):decide ((Sum.inl a:Key)=Sum.inr b)=false:=decide_eq_false (λq=>nomatch q)
theorem Zt(a:Str)(b:Int):decide ((Sum.inr a:Key)=Sum.inl b)=false:=decide_eq_false (λq=>nomatch q)
def Fn(prog:wS)(w:wW):PySem.KeyKind prog w Key where
 is:=Sj
 hash:=zEC w
 inj:=λv a b ha hb=>by
  rcases j_ ha with⟨i,t,rfl,rfl⟩ | ⟨x,t,rfl,rfl⟩
  ·rcases j_ hb with⟨j,u,rfl,e⟩ | ⟨y,u,rfl,e⟩
   ·injection e with e1 _;rw[e1]
   ·exact nomatch e
  ·rcases j_ hb with⟨j,u,rfl,e⟩ | ⟨y,u,rfl,e⟩
   ·exact nomatch e
   ·injection e with e1 _;rw[e1]
 byValue:=λk v h=>by
  rcases j_ h with⟨i,t,rfl,rfl⟩ | ⟨x,t,rfl,rfl⟩<;>rfl
 pyHash:=λhv h=>by
  rcases j_ hv with⟨i,t,rfl,rfl⟩ | ⟨x,t,rfl,rfl⟩
  ·exact wpAny_pyHash_int h
  ·exact wpAny_pyHash_str h
 eqBool:=λhu hv h=>by
  rcases j_ hu with⟨i,t,rfl,rfl⟩ | ⟨x,t,rfl,rfl⟩
  ·rcases j_ hv with⟨j,u,rfl,rfl⟩ | ⟨y,u,rfl,rfl⟩
   ·rw[zDr]at h;exact wpAny_eqBool_int h
   ·rw[zCJ]at h;exact xU i t y u _ _ _ _ h
  ·rcases j_ hv with⟨j,u,rfl,rfl⟩ | ⟨y,u,rfl,rfl⟩
   ·rw[Zt]at h;exact xV x t j u _ _ _ _ h
   ·rw[zCZ]at h;exact wpAny_eqBool_str h
 «strs»:=λk x t v h=>by
  rcases j_ h with⟨i,u,rfl,e⟩ | ⟨y,u,rfl,e⟩
  ·exact nomatch e
  ·injection e with e1 _
   subst e1;cases v<;>rfl
inductive V where
 | bX | bl (b:Bool) | int (i:Int) | str (x:Str) | byt (b:Array UInt8) | flt (b:UInt64) | ref (a:we) | ty (n:String)
 deriving DecidableEq
def bC:V->wg->Prop
 | .bX,u=>u=Value.none
 | .bl b,u=>u=Value.bool b
 | .int i,u=>∃t,u=Value.int i t
 | .str x,u=>∃t,u=Value.str x t
 | .byt b,u=>∃t,u=Value.bytes b t
 | .flt b,u=>∃t,u=Value.float b t
 | .ref a,u=>u=Value.ref a
 | .ty n,u=>u=Value.type n
abbrev aT:List V->List wg->Prop:=Paired bC
theorem aT.length{xs:List V}{us:List wg}(r:aT xs us):xs.length=us.length:=uA r
theorem aT.get:∀{xs:List V}{us:List wg}{i:Nat}{x:V},aT xs us->xs[i]? = some x->∃u,us[i]? = some u/\bC x u
 | _,_,_,_,.nil,e=>by simp at e
 | _,_,0,_,.cons r _,e=>by simp at e;subst e;exact⟨_,rfl,r⟩
 | _,_,i+1,x,.cons _ t,e=>by
  obtain⟨u,h1,h2⟩:=aT.get (i:=i) (x:=x) t (by simpa using e);exact⟨u,by simpa using h1,h2⟩
theorem aT.set{x:V}{u:wg}(r:bC x u):∀{xs:List V}{us:List wg}(i:Nat),aT xs us->aT (xs.set i x) (us.set i u)
 | _,_,_,.nil=>.nil
 | _,_,0,.cons _ t=>.cons r t
 | _,_,i+1,.cons q t=>.cons q (aT.set r i t)
theorem aT.append:∀{xs ys:List V}{us ws:List wg},aT xs us->aT ys ws->aT (xs++ys) (us++ws)
 | _,_,_,_,.nil,s=>s
 | _,_,_,_,.cons r t,s=>.cons r (aT.append t s)
theorem aT.take:∀{xs:List V}{us:List wg}(n:Nat),aT xs us->aT (xs.take n) (us.take n)
 | _,_,0,_=>.nil
 | _,_,_+1,.nil=>.nil
 | _,_,n+1,.cons r t=>.cons r (aT.take n t)
theorem aT.drop:∀{xs:List V}{us:List wg}(n:Nat),aT xs us->aT (xs.drop n) (us.drop n)
 | _,_,0,r=>r
 | _,_,_+1,.nil=>.nil
 | _,_,n+1,.cons _ t=>aT.drop n t
def SE:Option V->Option wg->Prop
 | some v,some u=>bC v u
 | none,none=>True
 | _,_=>False
def KV{κ : Type} : List (κ × V)->List (κ × wg)->Prop:=Paired λ(p : κ × V)(q : κ × wg)=>p.1=q.1/\bC p.2 q.2
def kV:Key->V
 | .inl i=>.int i
 | .inr x=>.str x
inductive HO where
 /-- a list -/
 | lst (xs:List V)
 /-- a tuple (never changes) -/
 | tup (xs:List V)
 /-- a dict whose keys are ints and texts;one whose keys are tuples of ints and texts (the empty one is Ld) -/
 | dK (kvs:List (Key × V)) | dT (kvs:List (List Key × V))
 /-- a set of ints: its members,its size -/
 | set (S:Int->Bool) (n:Nat)
 /-- an instance of the class at C,its dict at dx,its attributes -/
 | ins (C dx:we) (fs:List (Str × V))
 /-- the dict of the instance at x -/
 | own (x:we)
 /-- the dict of an exception -/
 | xd (fs:List (Str × V))
 /-- a bound method,f of x -/
 | met (f x:we)
 /-- a range object lo,lo+1,.. below hi -/
 | zC (lo hi:Int)
 /-- a thing that is known to the object (the script;a dict while a loop walks it): read,never written while it is so -/
 | gH (o:Obj) (u:HO)
 /-- a code object's table -/
 | kO (ps:Array wg)
 /-- any other thing,by what is true of its one object (a def of one's own: SetO a S n:=HO.ext λh=>..) -/
 | ext (φ : wQ->Prop)
abbrev Hp:=we->Option HO
def upd(H:Hp)(a:we)(o:HO):Hp:=λb=>if b=a then some o else H b
theorem cJ{H:Hp}{a:we}{o:HO} : upd H a o a=some o:=by unfold upd;rw[if_pos rfl]
theorem eJ{H:Hp}{a b:we}{o:HO}(h:b≠a):upd H a o b=H b:=by unfold upd;rw[if_neg h]
theorem Rf{H:Hp}{a b:we}{o u:HO}(h:H a=some o)(h':H b=some u)(d:o≠u):a≠b:=by
 intro e;subst e;rw[h]at h';exact d (w6 h')
theorem kf{H:Hp}{a b:we}{o:HO}(h:H a=some o)(h':H b=none):a≠b:=by
 intro e;subst e;rw[h]at h';cases h'
section
variable(P:wS)(w:wW)
def dD(H:Hp)(h:wQ)(a:we):HO->Prop
 | .lst xs=>xs.length<=ve /\ ∃(its:List wg)(n:Nat),aT xs its/\h.get? a=some {cls:=.type "list",data:=.seq its.toArray n}
 | .tup xs=>xs.length<=ve /\ ∃its:List wg,aT xs its/\IsTup h a its.toArray
 | .dK kvs=>kvs.length<=ve/\(a == sysModules)=false /\ ∃vs,KV kvs vs/\h.DictOf (Fn P w) a vs
 | .dT kvs=>kvs.length<=ve/\(a == sysModules)=false /\ ∃xs:List (List Key × we × wg),
     Paired (λ(p:List Key × V)(q:List Key × we × wg)=>p.1=q.1/\H q.2.1=some (.tup (p.1.map kV))/\bC p.2 q.2.2) kvs xs /\
     ∃o es ep,h.get? a=some o/\o.ExactDict/\o.data=.dict es ep/\es.toList=xs.map (entryOfKey (tupleKind (Fn P w)))/\(xs.map (·.1)).Nodup
 | .set S n=>h.SetOf (intKind P w) a S n
 | .ins C dx fs=>H dx=some (.own a)/\fs.length<=1000/\dx≠a/\h.get? a=some (PySem.W.instObj C dx) /\
     ∃mA,h.Ns1 dx mA/\(∀f,SE (fs.lookup f) (mA f))/\PySem.Within mA (fs.map (·.1))
 | .own _=>∃o,h.get? a=some o
 | .xd fs=>∃mA,h.Ns1 a mA /\ ∀f,SE (fs.lookup f) (mA f)
 | .zC lo hi=>∃t u v,h.get? a=some {cls:=.type "range",data:=.fields #[.int lo t,.int hi u,.int 1 v]}
 | .gH o u=>h.get? a=some o/\dD H h a u
 | .kO ps=>h.get? a=some {cls:=.none,data:=.fields ps}
 | .met f x=>h.get? a=some (QK (.ref f) (.ref x))
 | .ext φ=>φ h/\(∃o,h.get? a=some o) /\ ∀h1 h2:wQ,φ h1->(∀o,h1.get? a=some o->h2.get? a=some o) -> φ h2
def c7(H:Hp)(h:wQ):Prop:=∀a o,H a=some o->dD P w H h a o
end
section
variable{P:wS}{w:wW}{H H':Hp}{h h':wQ}{a:we}{o:HO}
theorem dD.lt(x:dD P w H h a o):a<h.objs.size:=by
 cases o with
 | lst xs=>obtain⟨_,_,_,_,e⟩:=x;exact wC e
 | tup xs=>obtain⟨_,_,_,p⟩:=x;exact p.lt
 | dK kvs=>obtain⟨_,_,_,_,o,_,_,e,_⟩:=x;exact wC e
 | dT kvs=>obtain⟨_,_,_,_,o,_,_,e,_⟩:=x;exact wC e
 | set S n=>obtain⟨o,_,_,_,e,_⟩:=x;exact wC e
 | ins C dx fs=>obtain⟨_,_,_,e,_⟩:=x;exact wC e
 | own y=>obtain⟨_,e⟩:=x;exact wC e
 | xd fs=>obtain⟨_,⟨_,_,_,e,_⟩,_⟩:=x;exact wC e
 | zC lo hi=>obtain⟨_,_,_,e⟩:=x;exact wC e
 | gH ob u=>obtain⟨e,_⟩:=x;exact wC e
 | kO ps=>exact wC (show h.get? a=some _ from x)
 | met f y=>exact wC (show h.get? a=some _ from x)
 | ext φ=>obtain⟨_,⟨_,e⟩,_⟩:=x;exact wC e
theorem Paired.JU{α β : Type}{F G : α -> β -> Prop} : ∀{l₁ : List α}{l₂ : List β},Paired F l₁ l₂ -> (∀a b,F a b->G a b)->Paired G l₁ l₂
 | _,_,.nil,_=>.nil
 | _,_,.cons r t,f=>.cons (f _ _ r) (Paired.JU t f)
theorem dD.jR(x:dD P w H h a o)(k:∀b u,(b=a\/H b=some (.own a))->h.get? b=some u->h'.get? b=some u)
  (ho:∀b,H b=some (.own a)->H' b=some (.own a)) (ht:∀b xs,H b=some (.tup xs)->H' b=some (.tup xs)):dD P w H' h' a o:=by
 induction o with
 | lst xs=>obtain⟨z,its,n,r,e⟩:=x;exact⟨z,its,n,r,k _ _ (.inl rfl) e⟩
 | tup xs=>obtain⟨z,its,r,ob,e,c⟩:=x;exact⟨z,its,r,ob,k _ _ (.inl rfl) e,c⟩
 | dK kvs=>obtain⟨z,y,vs,r,ob,es,ep,e,c⟩:=x;exact⟨z,y,vs,r,ob,es,ep,k _ _ (.inl rfl) e,c⟩
 | dT kvs =>
  obtain⟨z,y,xs,r,ob,es,ep,e,c⟩:=x;exact⟨z,y,xs,Paired.JU r λp q z=>⟨z.1,ht _ _ z.2.1,z.2.2⟩,ob,es,ep,k _ _ (.inl rfl) e,c⟩
 | set S n=>obtain⟨ob,es,ep,t,e,c⟩:=x;exact⟨ob,es,ep,t,k _ _ (.inl rfl) e,c⟩
 | ins C dx fs =>
  obtain⟨d,z,ne,e,mA,⟨od,es,ep,e2,c⟩,r⟩:=x;exact⟨ho _ d,z,ne,k _ _ (.inl rfl) e,mA,⟨od,es,ep,k _ _ (.inr d) e2,c⟩,r⟩
 | own y=>obtain⟨ob,e⟩:=x;exact⟨ob,k _ _ (.inl rfl) e⟩
 | xd fs=>obtain⟨mA,⟨od,es,ep,e,c⟩,r⟩:=x;exact⟨mA,⟨od,es,ep,k _ _ (.inl rfl) e,c⟩,r⟩
 | zC lo hi=>obtain⟨t,u,v,e⟩:=x;exact⟨t,u,v,k _ _ (.inl rfl) e⟩
 | gH ob u ih=>obtain⟨e,q⟩:=x;exact⟨k _ _ (.inl rfl) e,ih q⟩
 | kO ps =>
  have e:h.get? a=some {cls:=.none,data:=.fields ps}:=x
  show h'.get? a=some {cls:=.none,data:=.fields ps}
  exact k a _ (.inl rfl) e
 | met f y =>
  have e:h.get? a=some (QK (.ref f) (.ref y)):=x
  show h'.get? a=some (QK (.ref f) (.ref y))
  exact k a _ (.inl rfl) e
 | ext φ=>obtain⟨p,⟨o,e⟩,st⟩:=x;exact⟨st _ _ p λo q=>k _ _ (.inl rfl) q,⟨o,k _ _ (.inl rfl) e⟩,st⟩
theorem c7.lt(x:c7 P w H h)(e:H a=some o):a<h.objs.size:=(x a o e).lt
theorem c7.fresh(x:c7 P w H h)(e:h.objs.size<=a):H a=none:=by
 cases q:H a with
 | none=>rfl
 | some u=>exact absurd (w5 (x.lt q) e) (Vx _)
theorem c7.kept(x:c7 P w H h)(k:∀b u,h.get? b=some u->h'.get? b=some u):c7 P w H h':=λa o e =>
 (x a o e).jR (λb u _ q=>k b u q) (λ_ q=>q) λ_ _ q=>q
theorem c7.laid(x:c7 P w H h)(k:∀b u,h.get? b=some u->h'.get? b=some u)(hp:h.objs.size<=a)(new:dD P w (upd H a o) h' a o):c7 P w (upd H a o) h':=λb u e=>by
 have hn:=x.fresh hp
 by_cases hb:b=a
 ·subst hb;rw[cJ]at e;cases e;exact new
 ·rw[eJ hb]at e
  exact(x b u e).jR (λc v _ q=>k c v q) (λc q=>by rw[eJ (kf q hn)];exact q) λc xs q=>by rw[eJ (kf q hn)];exact q
end
def Rd(H:Hp)(a:we)(u:HO):Prop:=H a=some u \/ ∃o,H a=some (.gH o u)
theorem Rd.ok{P:wS}{w:wW}{H:Hp}{h:wQ}{a:we}{u:HO}(r:Rd H a u)(x:c7 P w H h):dD P w H h a u:=by
 rcases r with r | ⟨o,r⟩
 ·exact x a u r
 ·obtain⟨_,q⟩:=x a _ r
  exact q
def yG:Option HO->Prop
 | some (.lst _)=>True
 | some (.dK _)=>True
 | some (.dT _)=>True
 | some (.set _ _)=>True
 | some (.ins _ _ _)=>True
 | some (.ext _)=>True
 | _=>False
section
variable{P:wS}{w:wW}{H:Hp}{h h':wQ}{x e:we}{o':HO}
theorem c7.write(ok:c7 P w H h)(mu:yG (H x))(he:e=x\/H e=some (.own x))(k:∀b u,b≠e->h.get? b=some u->h'.get? b=some u)(heo:∃u,h'.get? e=some u)
  (new:dD P w (upd H x o') h' x o'):c7 P w (upd H x o') h':=λb u q=>by
 have nown:∀c y,H c=some (.own y)->c≠x:=λc y r z=>by subst z;rw[r]at mu;exact mu
 have ntup:∀c xs,H c=some (.tup xs)->c≠x:=λc xs r z=>by subst z;rw[r]at mu;exact mu
 by_cases hb:b=x
 ·subst hb;rw[cJ]at q;cases q;exact new
 ·rw[eJ hb]at q
  by_cases hbe:b=e
  ·have q':H b=some (.own x):=by
    rcases he with z | z
    ·exact absurd (hbe.trans z) hb
    ·rw[hbe];exact z
   rw[q]at q';cases q';obtain⟨v,hv⟩:=heo;exact⟨v,by rw[hbe];exact hv⟩
  ·refine(ok b u q).jR (λc v hc r=>k c v ?_ r) (λc r=>by rw[eJ (nown c b r)];exact r) λc xs r=>by rw[eJ (ntup c xs r)];exact r
   rcases hc with rfl | hc
   ·exact hbe
   ·rintro rfl
    rcases he with z | z
    ·exact nown c b hc z
    ·rw[hc]at z;cases z;exact hb rfl
end
structure Un(fs ex:List we)(H H':Hp)(h h':wQ):Prop where
 keep:∀b o,h.get? b=some o->H b=none->b ∉ fs->b ∉ ex->h'.get? b=some o
 slot:∀b o,h.get? b=some o->H b=none->b∈fs->b ∉ ex->∃sl,h'.get? b=some {o with slots:=sl}
 free:∀b o,h.get? b=some o->H b=none->b ∉ ex->H' b=none
 there:∀b o,h.get? b=some o->b ∉ ex->∃o',h'.get? b=some o'
 ib:∀b xs,H b=some (.tup xs)->H' b=some (.tup xs)
 gJ:∀b o u,H b=some (.gH o u)->H' b=some (.gH o u)
 h_:∀b ps,H b=some (.kO ps)->∃more,H' b=some (.kO (ps++more))
section
variable{fs fs' ex ex':List we}{H H1 H2:Hp}{h h1 h2 h':wQ}{a x e:we}{o:HO}
theorem Un.any(u:Un fs ex H H1 h h1){b:we}{ob:Obj}(q:h.get? b=some ob)(n:H b=none)(hx:b ∉ ex):∃sl,h1.get? b=some {ob with slots:=sl}:=by
 by_cases hb:b∈fs
 ·exact u.slot b ob q n hb hx
 ·exact⟨ob.slots,u.keep b ob q n hb hx⟩
theorem Un.kept(k:∀b u,h.get? b=some u->h'.get? b=some u):Un fs ex H H h h' :=
 ⟨λb ob q _ _ _=>k b ob q,λb ob q _ _ _=>⟨ob.slots,k b ob q⟩,λ_ _ _ n _=>n,λb ob q _=>⟨ob,k b ob q⟩,λ_ _ q=>q,λ_ _ _ q=>q,λ_ ps q=>⟨#[],by rw[q];simp⟩⟩
theorem Un.refl:Un fs ex H H h h:=Un.kept λ_ _ q=>q
theorem Un.laid(k:∀b u,h.get? b=some u->h'.get? b=some u)(hp:h.objs.size<=a)(hn:H a=none):Un fs ex H (upd H a o) h h' where
 keep:=λb u q _ _ _=>k b u q
 slot:=λb u q _ _ _=>⟨u.slots,k b u q⟩
 free:=λb u q n _=>by rw[eJ (wT (w5 (wC q) hp))];exact n
 there:=λb u q _=>⟨u,k b u q⟩
 ib:=λb xs q=>by rw[eJ (kf q hn)];exact q
 gJ:=λb u xs q=>by rw[eJ (kf q hn)];exact q
 h_:=λb ps q=>⟨#[],by rw[eJ (kf q hn),q];simp⟩
theorem Un.write(mu:yG (H x))(he:e=x\/H e=some (.own x))(k:∀b u,b≠e->h.get? b=some u->h'.get? b=some u)(heo:∃u,h'.get? e=some u):Un fs ex H (upd H x o) h h':=by
 have hx:∀b,H b=none->b≠x:=λb n z=>by subst z;rw[n]at mu;exact mu
 have hb:∀b,H b=none->b≠e:=λb n z=>by
  subst z;rcases he with r | r
  ·exact hx b n r
  ·rw[n]at r;cases r
 have hm:∀b u,H b=some u->¬ yG (some u)->b≠x:=λb u q nm z=>by subst z;rw[q]at mu;exact nm mu
 refine⟨λb u q n _ _=>k b u (hb b n) q,λb u q n _ _=>⟨u.slots,k b u (hb b n) q⟩,λb u q n _=>by rw[eJ (hx b n)];exact n,λb u q _=>?_,
  λb xs q=>by rw[eJ (hm b _ q λz=>z)];exact q,λb u xs q=>by rw[eJ (hm b _ q λz=>z)];exact q,λb ps q=>⟨#[],by rw[eJ (hm b _ q λz=>z),q];simp⟩⟩
 by_cases hbe:b=e
 ·subst hbe;exact heo
 ·exact⟨u,k b u hbe q⟩
end
def iZ(h:wQ)(H:Hp):List we:=(wx h.objs.size).filter λa=>(H a).isSome
def jS(h:wQ)(H:Hp):wQ:=XY h (iZ h H)
theorem zwR(h:wQ)(H:Hp):(jS h H).objs.size=h.objs.size:=PySem.W.hideAll_size _ _
theorem zye{h:wQ}{H:Hp}{b:we}{o:Obj}(e:h.get? b=some o)(n:H b=none):(jS h H).get? b=some o :=
 xM _ e λhm=>by
  have q:(H b).isSome=true:=(vd.mp hm).2;rw[n]at q;simp at q
theorem zAu{h:wQ}{H:Hp}{b:we}{o:Obj}(e:(jS h H).get? b=some o):h.get? b=some o/\H b=none:=by
 have e':h.get? b=some o:=xW (iZ h H) e;refine⟨e',?_⟩;cases q:H b with
 | none=>rfl
 | some x =>
  have hm:b∈iZ h H:=vd.mpr ⟨wD.mpr (wC e'),by simp[q]⟩;have z:(jS h H).get? b=none:=PySem.W.hideAll_none (iZ h H) hm;rw[z]at e;cases e
def zAi(g h:wQ)(L:we):List (we × Obj):=(wx h.objs.size).filterMap λa=>if a=L\/(g.get? a).isSome=true then none else(h.get? a).map λo=>(a,o)
def eX(g h:wQ)(L d:we):List (we × Obj):=(zAi g h L).filter λp=>decide (p.1≠d)
structure Mod(K:wb)(mg:Str->Option wg)(base:wQ):Prop where
 lB:K.In base
 glob:base.Ns wM mg
 blt:∃mb,base.Ns builtinsNs mb /\ ∀x:Str,x≠"__name__" -> mb x=vI x
 nolimit:base.NoLimit
structure Cx where
 prog:wS
 w:wW
 K:wb
 mg:Str->Option wg
 base:wQ
 A:vb
 N:List Str
 s₀ : wm
 H₀ : Hp
 env:Env
 outer:List Env
 stack:List Env
 ex:List we
 fn:Str->Bool
 calm:Bool
 pn:List (we × Obj)
 xe:wg->wm->Prop
def dH(l:List Env):List we:=l.filterMap (·.frame)
abbrev Cx.fs(X:Cx):List we:=dH X.outer
def zj(sc:Scope)(x:Str):Prop:=sc.names.lookup x=some .local\/sc.names.lookup x=some .cell\/sc.names.lookup x=some .free
def Loc(sc:Scope)(x:Str):Prop:=sc.names.lookup x=some .local\/sc.names.lookup x=some .cell
def zEE(env:Env)(h:wQ)(m:Str->Option wg)(x:Str)(u:wg):Prop :=
 (env.kindOf x=some .local/\m x=some u)\/((env.kindOf x=some .cell\/env.kindOf x=some .free) /\ ∃c,env.cells.lookup x=some c/\h.IsCell c (some u))
structure Cx.Ok(X:Cx):Prop where
 mod:Mod X.K X.mg X.base
 kind:X.env.scope.kind=.function
 glob:X.env.globals=wM
 blt:X.env.builtins=builtinsNs
 above:X.s₀.heap.objs.size<=X.env.locals
 inj:∀x y c,X.env.cells.lookup x=some c->X.env.cells.lookup y=some c->x=y
 has:∀x,(X.env.kindOf x=some .cell\/X.env.kindOf x=some .free)->∃c,X.env.cells.lookup x=some c
 jU:∀x c,X.fn x=true->X.env.cells.lookup x=some c->X.s₀.heap.objs.size<=c
 hd:X.calm=true->X.A.handled=none
 frames:X.A.frames=some X.stack
 kR:X.stack=X.outer\/(X.stack=X.env::X.outer/\X.env.frame=some X.env.locals)
 ny:∀b∈X.ex,b≠X.env.locals /\ ∀x c,X.env.cells.lookup x=some c->c≠b
 bs:∀b o,X.base.get? b=some o->X.s₀.heap.get? b=some o/\X.H₀ b=none
 gX:X.base.objs.size<=X.s₀.heap.objs.size
 jQ:∀b o,X.base.get? b=some o->b ∉ X.ex
 ky:∀b∈X.ex,b ∉ X.fs
 eK:X.s₀.heap.FunFrames X.base X.outer
 iC:∀b∈X.fs,X.H₀ b=none
structure Inv(X:Cx)(pins:List (we × Obj))(σ : List (Option V))(H:Hp)(s:wm):Prop where
 ok:X.Ok
 os:s.os=X.s₀.os
 bare:AllBare s.gens
 base:Un X.fs X.ex X.H₀ H X.s₀.heap s.heap
 loc:∃m,s.heap.Ns X.env.locals m /\ ∀(i:Nat)(x:Str)(v:V),X.N[i]? = some x -> σ[i]? = some (some v)->zj X.env.scope x->∃u,bC v u/\zEE X.env s.heap m x u
 cell:∀x c,X.env.cells.lookup x=some c->∃v,s.heap.IsCell c v
 free:H X.env.locals=none
 fC:∀x c,X.env.cells.lookup x=some c->H c=none
 pin:∀p∈X.pn++pins,s.heap.get? p.1=some p.2/\H p.1=none/\p.1≠X.env.locals/\p.1 ∉ X.fs /\ ∀v,p.2.data≠.cell v
 aH:c7 X.prog X.w H s.heap
 len : σ.length=X.N.length
section
variable{X:Cx}{pins:List (we × Obj)}{σ : List (Option V)}{H H':Hp}{s:wm}{h':wQ}
theorem Cx.Ok.YD(ok:X.Ok){b:we}{o:Obj}(e:X.base.get? b=some o):b ∉ X.fs:=λhb=>by
 have:=(ok.eK.mem hb).1;rw[e]at this;cases this
theorem Inv.bs(I:Inv X pins σ H s):∀b o,X.base.get? b=some o->s.heap.get? b=some o/\H b=none:=λb o e =>
 ⟨I.base.keep b o (I.ok.bs b o e).1 (I.ok.bs b o e).2 (I.ok.YD e) (I.ok.jQ b o e),I.base.free b o (I.ok.bs b o e).1 (I.ok.bs b o e).2 (I.ok.jQ b o e)⟩
theorem Inv.bk(I:Inv X pins σ H s):∀b o,X.base.get? b=some o->s.heap.get? b=some o:=λb o e=>(I.bs b o e).1
theorem Inv.mod(I:Inv X pins σ H s):Mod X.K X.mg X.base:=I.ok.mod
theorem Inv.c9(I:Inv X pins σ H s):X.K.In s.heap:=I.ok.mod.lB.keeps I.bk
theorem Inv.lt(I:Inv X pins σ H s):X.env.locals<s.heap.objs.size:=let ⟨_,hn,_⟩:=I.loc;hn.lt
theorem Inv.sz(I:Inv X pins σ H s):X.s₀.heap.objs.size<=s.heap.objs.size:=Wm I.ok.above (Vp I.lt)
theorem Inv.YC(I:Inv X pins σ H s){a:we}(h:s.heap.objs.size<=a):a ∉ X.fs:=λhb=>by
 obtain⟨_,o,ho,_⟩:=I.ok.eK.mem hb;exact absurd (w5 (wC ho) (Wm I.sz h)) (Vx _)
theorem Inv.jC(I:Inv X pins σ H s):∀x c,X.env.cells.lookup x=some c->c≠X.env.locals:=λx c e z=>by
 obtain⟨v,o,ho,hd⟩:=I.cell x c e;obtain⟨m,⟨o',es,ep,ho',hd',_⟩,_⟩:=I.loc;rw[z,ho']at ho;cases ho;rw[hd']at hd;cases hd
theorem Inv.eK(I:Inv X pins σ H s):s.heap.FunFrames X.base X.outer:=by
 have all:∀(l:List Env),(∀b∈dH l,b∈X.fs)->X.s₀.heap.FunFrames X.base l->s.heap.FunFrames X.base l:=by
  intro l
  induction l with
  | nil=>intro _ _;trivial
  | cons env r ih =>
   intro hs hl;obtain⟨hk,⟨L,o,hf,hn,ho,hd⟩,hr⟩:=hl;have hL:L∈X.fs:=hs L (by unfold dH;rw[Qi,hf];exact wG);obtain⟨sl,e⟩:=I.base.slot L o ho (I.ok.iC L hL) hL λz=>I.ok.ky L z hL
   exact⟨hk,⟨L,_,hf,hn,e,hd⟩,ih (λb hb=>hs b (by unfold dH;rw[Qi,hf];exact wF _ hb)) hr⟩
 exact all X.outer (λ_ hb=>hb) I.ok.eK
theorem Inv.stack(I:Inv X pins σ H s):s.heap.FunFrames X.base X.stack:=by
 rcases I.ok.kR with e | ⟨e,hf⟩
 ·rw[e];exact I.eK
 ·rw[e]
  obtain⟨m,hn,_⟩:=I.loc;refine .cons (by rw[I.ok.kind];decide) hf hn ?_ I.eK;exact Heap.get?_none_of_le (Wm I.ok.gX I.ok.above)
theorem Inv.lA(I:Inv X pins σ H s):∀b∈dH X.stack,b∈X.env.locals::X.fs:=λb hb=>by
 rcases I.ok.kR with e | ⟨e,hf⟩
 ·rw[e]at hb;exact wF _ hb
 ·rw[e]at hb
  unfold dH at hb;rw[Qi,hf]at hb;exact hb
theorem Inv.sx(I:Inv X pins σ H s):∀b∈dH X.stack,H b=none:=λb hb=>by
 rcases wL.mp (I.lA b hb)with e | hb
 ·rw[e];exact I.free
 ·obtain⟨_,o,ho,_⟩:=I.ok.eK.mem hb
  exact I.base.free b o ho (I.ok.iC b hb) λz=>I.ok.ky b z hb
theorem Inv.step{g':Array GenState}{t':Nat}{d':Drawn}{ch:List we}(I:Inv X pins σ H s)
  (hch:∀b∈ch,(b∈X.ex\/X.s₀.heap.objs.size<=b)/\b≠X.env.locals/\(∀x c,X.env.cells.lookup x=some c->c≠b) /\ ∀p∈X.pn++pins,p.1≠b)
  (keep:∀b o,b≠X.env.locals->b ∉ X.fs->b ∉ ch->s.heap.get? b=some o->H b=none->h'.get? b=some o)
  (slot:∀b o,b≠X.env.locals->b∈X.fs->b ∉ ch->s.heap.get? b=some o->H b=none->∃sl,h'.get? b=some {o with slots:=sl}) (free:∀b o,b ∉ ch->s.heap.get? b=some o->H b=none->H' b=none)
  (there:∀b o,b ∉ ch->s.heap.get? b=some o->∃o',h'.get? b=some o')
  (ib:∀b xs,H b=some (.tup xs)->H' b=some (.tup xs)) (gJ:∀b o u,H b=some (.gH o u)->H' b=some (.gH o u)) (h_:∀b ps,H b=some (.kO ps)->∃more,H' b=some (.kO (ps++more)))
  (ns:∀m,s.heap.Ns X.env.locals m->h'.Ns X.env.locals m) (aH:c7 X.prog X.w H' h') (hg:AllBare g') :
  Inv X pins σ H' {s with heap:=h',gens:=g',drawn:=d',toks:=t'}:=by
 have neL:∀b o,X.s₀.heap.get? b=some o->b≠X.env.locals:=λb o e=>wT (w5 (wC e) I.ok.above)
 have neC:∀b o,X.s₀.heap.get? b=some o->b ∉ X.ex->b ∉ ch:=λb o e hx hb=>by
  rcases (hch b hb).1 with z | z
  ·exact hx z
  ·exact absurd (w5 (wC e) z) (Vx _)
 have cellK:∀x c,X.env.cells.lookup x=some c->∀v,s.heap.IsCell c v->h'.IsCell c v:=λx c e v ⟨o,ho,hd⟩=>by
  have nch:c ∉ ch:=λz=>(hch c z).2.2.1 x c e rfl
  by_cases hc:c∈X.fs
  ·obtain⟨sl,q⟩:=slot c o (I.jC x c e) hc nch ho (I.fC x c e)
   exact⟨_,q,hd⟩
  ·exact⟨o,keep c o (I.jC x c e) hc nch ho (I.fC x c e),hd⟩
 refine⟨I.ok,I.os,hg,⟨λb o e n hb hx=>?_,λb o e n hb hx=>?_,λb o e n hx=>?_,λb o e hx=>?_,λb xs e=>ib b xs (I.base.ib b xs e),λb o xs e=>gJ b o xs (I.base.gJ b o xs e),λb ps e=>?_⟩,?_,λx c e=>?_,?_,λx c e=>?_,λp hp=>?_,aH,I.len⟩
 ·exact keep b o (neL b o e) hb (neC b o e hx) (I.base.keep b o e n hb hx) (I.base.free b o e n hx)
 ·obtain⟨sl,e1⟩:=I.base.slot b o e n hb hx
  obtain⟨sl',e2⟩:=slot b _ (neL b o e) hb (neC b o e hx) e1 (I.base.free b o e n hx);exact⟨sl',e2⟩
 ·obtain⟨o',e1⟩:=I.base.there b o e hx
  exact free b o' (neC b o e hx) e1 (I.base.free b o e n hx)
 ·obtain⟨o',e1⟩:=I.base.there b o e hx
  exact there b o' (neC b o e hx) e1
 ·obtain⟨m1,e1⟩:=I.base.h_ b ps e
  obtain⟨m2,e2⟩:=h_ b _ e1;exact⟨m1++m2,by rw[e2,xX]⟩
 ·obtain⟨m,hn,hl⟩:=I.loc
  refine⟨m,ns m hn,λi x v e1 e2 e3=>?_⟩;obtain⟨u,r,l⟩:=hl i x v e1 e2 e3;refine⟨u,r,?_⟩;rcases l with l | ⟨k,c,e,z⟩
  ·exact .inl l
  ·exact .inr ⟨k,c,e,cellK x c e _ z⟩
 ·obtain⟨v,z⟩:=I.cell x c e
  exact⟨v,cellK x c e v z⟩
 ·obtain⟨m,⟨o,_,_,ho,_⟩,_⟩:=I.loc
  exact free _ o (λz=>(hch _ z).2.1 rfl) ho I.free
 ·obtain⟨v,o,ho,hd⟩:=I.cell x c e
  exact free c o (λz=>(hch c z).2.2.1 x c e rfl) ho (I.fC x c e)
 ·obtain⟨e,n,ne,nf,d⟩:=I.pin p hp
  have nch:p.1 ∉ ch:=λz=>(hch p.1 z).2.2.2 p hp rfl
  exact⟨keep p.1 p.2 ne nf nch e n,free p.1 p.2 nch e n,ne,nf,d⟩
theorem Inv.un{t':Nat}(I:Inv X pins σ H s)(u:Un X.fs [] H H' s.heap h')(aH:c7 X.prog X.w H' h'):Inv X pins σ H' {s with heap:=h',toks:=t'}:=by
 obtain⟨m,⟨o,es,ep,ho,r⟩,_⟩:=id I.loc;obtain⟨sl,hL⟩:=u.any ho I.free (by simp)
 exact I.step (g':=s.gens) (d':=s.drawn) (ch:=[]) (λ_ z=>nomatch z) (λb o _ hb _ e n=>u.keep b o e n hb (by simp)) (λb o _ hb _ e n=>u.slot b o e n hb (by simp)) (λb o _ e n=>u.free b o e n (by simp)) (λb o _ e=>u.there b o e (by simp)) u.ib u.gJ u.h_ (λm' hm=>by
  obtain⟨o',es',ep',ho',r'⟩:=hm;rw[ho]at ho';cases ho';exact⟨_,es',ep',hL,r'⟩) aH I.bare
theorem Inv.call{g':Array GenState}{t':Nat}{d':Drawn}{ch:List we}(I:Inv X pins σ H s)(u:Un (dH X.stack) ch H H' s.heap h')(aH:c7 X.prog X.w H' h')(hg:AllBare g')
  (hch:∀b∈ch,(b∈X.ex\/X.s₀.heap.objs.size<=b)/\b≠X.env.locals/\(∀x c,X.env.cells.lookup x=some c->c≠b) /\ ∀p∈X.pn++pins,p.1≠b) :
  Inv X pins σ H' {s with heap:=h',gens:=g',drawn:=d',toks:=t'}:=by
 obtain⟨m,⟨o,es,ep,ho,r⟩,_⟩:=id I.loc;obtain⟨sl,hL⟩:=u.any ho I.free λz=>(hch _ z).2.1 rfl
 exact I.step (ch:=ch) hch (λb o hL hb hc e n=>u.keep b o e n (λz=>(wL.mp (I.lA b z)).elim hL hb) hc) (λb o _ _ hc e n=>u.any e n hc) (λb o hc e n=>u.free b o e n hc) (λb o hc e=>u.there b o e hc) u.ib u.gJ u.h_ (λm' hm=>by
  obtain⟨o',es',ep',ho',r'⟩:=hm;rw[ho]at ho';cases ho';exact⟨_,es',ep',hL,r'⟩) aH hg
theorem Inv.turned{t':Nat}{it:we}(I:Inv X pins σ H s)(k:∀b o,b≠it->s.heap.get? b=some o->h'.get? b=some o)(hn:H it=none)(hL:it≠X.env.locals)
  (h1:it∈X.ex\/X.s₀.heap.objs.size<=it) (h2:∀x c,X.env.cells.lookup x=some c->c≠it) (h3:∀p∈X.pn++pins,p.1≠it):Inv X pins σ H {s with heap:=h',toks:=t'}:=by
 have nit:∀b u,H b=some u->b≠it:=λb u e z=>by rw[z,hn]at e;cases e
 refine I.step (g':=s.gens) (d':=s.drawn) (ch:=[it]) (λb hb=>?_) (λb o _ _ hc e _=>k b o (λz=>hc (by simp[z])) e) (λb o _ _ hc e _=>⟨o.slots,k b o (λz=>hc (by simp[z])) e⟩) (λ_ _ _ _ n=>n)
  (λb o hc e=>⟨o,k b o (λz=>hc (by simp[z])) e⟩) (λ_ _ e=>e) (λ_ _ _ e=>e) (λb ps e=>⟨#[],by rw[e];simp⟩) (λm hm=>?_) (λb u e=>?_) I.bare
 ·have e:b=it:=by simpa using hb
  subst e;exact⟨h1,hL,h2,h3⟩
 ·obtain⟨o,es,ep,ho,r⟩:=hm
  exact⟨o,es,ep,k _ o (Wj hL) ho,r⟩
 ·refine(I.aH b u e).jR (λc v hc q=>k c v ?_ q) (λ_ q=>q) λ_ _ q=>q
  rcases hc with z | z
  ·rw[z];exact nit b u e
  ·exact nit c _ z
theorem Inv.tok(I:Inv X pins σ H s)(t:Nat):Inv X pins σ H {s with toks:=t}:=I.un (h':=s.heap) (t':=t) Un.refl I.aH
theorem Inv.kept{t':Nat}(I:Inv X pins σ H s)(k:∀b u,s.heap.get? b=some u->h'.get? b=some u):Inv X pins σ H {s with heap:=h',toks:=t'}:=I.un (Un.kept k) (I.aH.kept k)
theorem Inv.laid{a:we}{o:HO}{t':Nat}(I:Inv X pins σ H s)(k:∀b u,s.heap.get? b=some u->h'.get? b=some u)(hp:s.heap.objs.size<=a)(new:dD X.prog X.w (upd H a o) h' a o) :
  Inv X pins σ (upd H a o) {s with heap:=h',toks:=t'}:=I.un (Un.laid k hp (I.aH.fresh hp)) (I.aH.laid k hp new)
theorem Inv.write{x e:we}{o:HO}{t':Nat}(I:Inv X pins σ H s)(mu:yG (H x))(he:e=x\/H e=some (.own x))(k:∀b u,b≠e->s.heap.get? b=some u->h'.get? b=some u)(heo:∃u,h'.get? e=some u)
  (new:dD X.prog X.w (upd H x o) h' x o):Inv X pins σ (upd H x o) {s with heap:=h',toks:=t'}:=I.un (Un.write mu he k heo) (I.aH.write mu he k heo new)
theorem Inv.Jy{pins':List (we × Obj)}(I:Inv X pins σ H s)(h:∀p∈pins',s.heap.get? p.1=some p.2/\H p.1=none/\p.1≠X.env.locals/\p.1 ∉ X.fs /\ ∀v,p.2.data≠.cell v):Inv X pins' σ H s :=
 ⟨I.ok,I.os,I.bare,I.base,I.loc,I.cell,I.free,I.fC,λp hp=>(vW.mp hp).elim (λz=>I.pin p (Wh _ z)) (h p),I.aH,I.len⟩
theorem Cn{N:List Str}(hN:N.Nodup){i j:Nat}{x:Str}(a:N[i]? = some x)(b:N[j]? = some x):i=j:=by
 obtain⟨h1,e1⟩:=WG.mp a;obtain⟨h2,e2⟩:=WG.mp b;exact(List.getElem_inj hN).mp (e1.trans e2.symm)
theorem Cj{M:Model}{A:vb}{E:wg->wm->Prop}{i:Nat}{x:Str}{v:V}{u:wg}{Q:Unit->wm->Prop}(I:Inv X pins σ H s)(hN:X.N.Nodup)(hi:X.N[i]? = some x)(hx:Loc X.env.scope x)(r:bC v u)
  (h:∀s',Inv X pins (σ.set i (some v)) H s'->(∃a,vF a s.heap s'.heap/\(a=X.env.locals\/X.env.cells.lookup x=some a))->Q () s') (hf:X.fn x=true\/X.env.scope.names.lookup x=some .local:=by first | exact .inl rfl | exact .inr rfl | assumption):wA M A (storeName X.env x u) Q E s:=by
 obtain⟨m,hn,hl⟩:=id I.loc;have hcls:(X.env.scope.kind == .class || (X.env.scope.kind == .module&&X.env.locals != X.env.globals))=false:=by rw[I.ok.kind];rfl
 have hiσ : i < σ.length:=by rw[I.len];exact(WG.mp hi).1
 have jC:=I.jC
 have tracked:∀{a:we}{h':wQ},(∃o,s.heap.get? a=some o/\H a=none)->vF a s.heap h'->c7 X.prog X.w H h':=λ{a h'} ha hs b ob e=>by
  obtain⟨_,_,hfree⟩:=ha;refine(I.aH b ob e).jR (λc w' hc q=>(hs.2 c ?_).trans q) (λ_ q=>q) λ_ _ q=>q
  rintro rfl;rcases hc with rfl | hc
  ·rw[hfree]at e;cases e
  ·rw[hfree]at hc;cases hc
 rcases hx with hk | hk
 ·refine wpAny_storeName_local hk hn (λh' hn' hs=>?_) hcls
  obtain⟨oL,_,_,hoL,_⟩:=id hn;refine h _ ⟨I.ok,I.os,I.bare,⟨λb o e n hb hx=>?_,λb o e n hb hx=>?_,I.base.free,λb o e hx=>?_,I.base.ib,I.base.gJ,I.base.h_⟩,⟨_,hn',λj y v' e1 e2 e3=>?_⟩,λy c e=>?_,I.free,I.fC,λp hp=>?_,tracked ⟨oL,hoL,I.free⟩ hs,by simpa using I.len⟩ ⟨_,hs,.inl rfl⟩
  ·exact(hs.2 b (wT (w5 (wC e) I.ok.above))).trans (I.base.keep b o e n hb hx)
  ·obtain⟨sl,e1⟩:=I.base.slot b o e n hb hx
   exact⟨sl,(hs.2 b (wT (w5 (wC e) I.ok.above))).trans e1⟩
  ·obtain⟨o',e1⟩:=I.base.there b o e hx
   exact⟨o',(hs.2 b (wT (w5 (wC e) I.ok.above))).trans e1⟩
  ·by_cases hj:j=i
   ·subst hj
    rw[hi]at e1;cases e1;rw[qQ hiσ]at e2;cases e2;exact⟨u,r,.inl ⟨hk,by simp⟩⟩
   ·rw[qc (Wj hj)]at e2
    obtain⟨u',r',q⟩:=hl j y v' e1 e2 e3;refine⟨u',r',?_⟩;rcases q with⟨k,e⟩ | ⟨k,c,e,z⟩
    ·refine .inl ⟨k,?_⟩
     have:y≠x:=λe=>hj (Cn hN e1 (e ▸ hi))
     simp[this,e]
    ·exact .inr ⟨k,c,e,z.sameBut hs (jC y c e)⟩
  ·obtain⟨w',z⟩:=I.cell y c e
   exact⟨w',z.sameBut hs (jC y c e)⟩
  ·obtain⟨e,n,ne,nf,d⟩:=I.pin p hp
   exact⟨(hs.2 p.1 ne).trans e,n,ne,nf,d⟩
 ·have hfn:X.fn x=true:=by
   rcases hf with z | z
   ·exact z
   ·rw[z]at hk;cases hk
  obtain⟨c,hc⟩:=I.ok.has x (.inl hk);obtain⟨w',z⟩:=I.cell x c hc;refine wpAny_storeName_cell I.ok.kind hk hc z (λh' hc' hs=>?_);obtain⟨oc,hoc,hocd⟩:=id z;refine h {s with heap:=h'} ⟨I.ok,I.os,I.bare,⟨λb o e n hb hx=>?_,λb o e n hb hx=>?_,I.base.free,λb o e hx=>?_,I.base.ib,I.base.gJ,I.base.h_⟩,⟨m,hn.sameBut hs (Wj (jC x c hc)),λj y v' e1 e2 e3=>?_⟩,λy c' e=>?_,I.free,I.fC,λp hp=>?_,tracked ⟨oc,hoc,I.fC x c hc⟩ hs,by simpa using I.len⟩ ⟨c,hs,.inr hc⟩
  ·exact(hs.2 b (wT (w5 (wC e) (I.ok.jU x c hfn hc)))).trans (I.base.keep b o e n hb hx)
  ·obtain⟨sl,e1⟩:=I.base.slot b o e n hb hx
   exact⟨sl,(hs.2 b (wT (w5 (wC e) (I.ok.jU x c hfn hc)))).trans e1⟩
  ·obtain⟨o',e1⟩:=I.base.there b o e hx
   exact⟨o',(hs.2 b (wT (w5 (wC e) (I.ok.jU x c hfn hc)))).trans e1⟩
  ·by_cases hj:j=i
   ·subst hj
    rw[hi]at e1;cases e1;rw[qQ hiσ]at e2;cases e2;exact⟨u,r,.inr ⟨.inl hk,c,hc,hc'⟩⟩
   ·rw[qc (Wj hj)]at e2
    obtain⟨u',r',q⟩:=hl j y v' e1 e2 e3;refine⟨u',r',?_⟩;rcases q with q | ⟨k,c',e,z'⟩
    ·exact .inl q
    ·refine .inr ⟨k,c',e,z'.sameBut hs ?_⟩
     rintro rfl;exact hj (Cn hN e1 (I.ok.inj _ _ _ e hc ▸ hi))
  ·by_cases hcc:c'=c
   ·subst hcc;exact⟨_,hc'⟩
   ·obtain⟨w2,z2⟩:=I.cell y c' e
    exact⟨w2,z2.sameBut hs hcc⟩
  ·obtain⟨e,n,ne,nf,d⟩:=I.pin p hp
   refine⟨(hs.2 p.1 ?_).trans e,n,ne,nf,d⟩;intro q;rw[q,hoc]at e;have q':oc=p.2:=w6 e;exact d w' (by rw[<- q'];exact hocd)
theorem nH{M:Model}{A:vb}{E:wg->wm->Prop}{i:Nat}{x:Str}{v:V}{u:wg}{Q:Unit->wm->Prop}(I:Inv X pins σ H s)(hN:X.N.Nodup)(hi:X.N[i]? = some x)(hx:Loc X.env.scope x)(r:bC v u)
  (h:∀s',Inv X pins (σ.set i (some v)) H s'->Q () s') (hf:X.fn x=true\/X.env.scope.names.lookup x=some .local:=by first | exact .inl rfl | exact .inr rfl | assumption):wA M A (storeName X.env x u) Q E s :=
 Cj I hN hi hx r (λs' I' _=>h s' I') hf
theorem Inv.JO{s':wm}{ch:List we}(I:Inv X pins σ H s)(ho:s'.os=s.os)(u:Un (dH X.stack) ch H H' s.heap s'.heap)(aH:c7 X.prog X.w H' s'.heap)(hg:AllBare s'.gens)
  (hch:∀b∈ch,(b∈X.ex\/X.s₀.heap.objs.size<=b)/\b≠X.env.locals/\(∀x c,X.env.cells.lookup x=some c->c≠b) /\ ∀p∈X.pn++pins,p.1≠b):Inv X pins σ H' s':=by
 obtain⟨h',g',d',t',o'⟩:=s';have e:o'=s.os:=ho;subst e;exact I.call (g':=g') (t':=t') (d':=d') u aH hg hch
end
abbrev XK:=wg->Option we->Hp->Prop
abbrev St:=List (Option V)
abbrev VK:=V->Hp->Prop
abbrev TE:=St->Hp->VK->Prop
abbrev TT:=St->Hp->(Bool->Hp->Prop)->Prop
abbrev TA:=St->Hp->(List V->Hp->Prop)->Prop
structure cB where
 nx:St->Hp->Prop
 rt:VK
 bk:St->Hp->Prop:=λ_ _=>False
 ct:St->Hp->Prop:=λ_ _=>False
abbrev TS:=cB->St->Hp->Prop
def EP(X:Cx)(pins:List (we × Obj))(σ : St)(Q:VK)(u:wg)(s':wm):Prop:=∃v H',Inv X pins σ H' s'/\bC v u/\Q v H'
def TP(X:Cx)(pins:List (we × Obj))(σ : St)(Q:Bool->Hp->Prop)(b:Bool)(s':wm):Prop:=∃H',Inv X pins σ H' s'/\Q b H'
def AP(X:Cx)(pins:List (we × Obj))(σ : St)(Q:List V->Hp->Prop)(us:List wg)(s':wm):Prop:=∃vs H',Inv X pins σ H' s'/\aT vs us/\Q vs H'
def SP(X:Cx)(pins:List (we × Obj))(D:cB)(f:Flow)(s':wm):Prop :=
 match f with
 | .next=>∃σ' H',Inv X pins σ' H' s'/\D.nx σ' H'
 | .brk=>∃σ' H',Inv X pins σ' H' s'/\D.bk σ' H'
 | .cont=>∃σ' H',Inv X pins σ' H' s'/\D.ct σ' H'
 | .ret u=>∃v σ' H',Inv X pins σ' H' s'/\bC v u/\D.rt v H'
def PE(X:Cx)(e:Expr)(t:TE):Prop :=
 ∀(pins:List (we × Obj))(s:wm)(σ : St)(H:Hp)(Q:VK),Inv X pins σ H s->t σ H Q->wA (model X.prog X.w) X.A (eval e X.env) (EP X pins σ Q) X.xe s
def PT(X:Cx)(e:Expr)(t:TT):Prop :=
 ∀(pins:List (we × Obj))(s:wm)(σ : St)(H:Hp)(Q:Bool->Hp->Prop),Inv X pins σ H s->t σ H Q->wA (model X.prog X.w) X.A (isTrue e X.env (eval e X.env)) (TP X pins σ Q) X.xe s
def PW(X:Cx)(e:Expr)(t:TT):Prop :=
 ∀(whole:Sem wg)(pins:List (we × Obj))(s:wm)(σ : St)(H:Hp)(Q:Bool->Hp->Prop),Inv X pins σ H s->t σ H Q->wA (model X.prog X.w) X.A (isTrue e X.env whole) (TP X pins σ Q) X.xe s
theorem PW.pt{X:Cx}{e:Expr}{t:TT}(h:PW X e t):PT X e t:=h _
def PA(X:Cx)(es:List Expr)(t:TA):Prop :=
 ∀(pos:Pos)(pins:List (we × Obj))(s:wm)(σ : St)(H:Hp)(Q:List V->Hp->Prop),Inv X pins σ H s->t σ H Q->wA (model X.prog X.w) X.A (spliced (VQ pos (w8 es X.env))) (AP X pins σ Q) X.xe s
def PS(X:Cx)(st:vc)(t:TS):Prop :=
 ∀(pins:List (we × Obj))(s:wm)(σ : St)(H:Hp)(D:cB),Inv X pins σ H s->t D σ H->wA (model X.prog X.w) X.A (exec st X.env) (SP X pins D) X.xe s
def fv(X:Cx)(st:List vc)(t:TS):Prop :=
 ∀(pins:List (we × Obj))(s:wm)(σ : St)(H:Hp)(D:cB),Inv X pins σ H s->t D σ H->wA (model X.prog X.w) X.A (execs st X.env) (SP X pins D) X.xe s
theorem aI{α : Type}{t:Sem α}{Q Q' : α -> wm->Prop}{M:Model}{A:vb}{E:wg->wm->Prop}{s:wm}(h:wA M A t Q E s)(hQ:∀a s,Q a s->Q' a s):wA M A t Q' E s:=Wr h hQ λ_ _ x=>x
section
variable{X:Cx}
def lS(i:Nat):TE:=λσ H Q=>∃v,σ[i]? = some (some v)/\Q v H
def tC(v:V):TE:=λ_ H Q=>Q v H
theorem zB5{i:Nat}{x:Str}{pos:Pos}(hN:X.N[i]? = some x)(hv:zj X.env.scope x)(hd:(x == ("__debug__" : Str))=false:=by decide)(hcd:(x == ("__classdict__" : Str))=false:=by decide):PE X (.Name x pos) (lS i):=by
 intro pins s σ H Q I h;obtain⟨v,e,h⟩:=h;obtain⟨m,hn,hl⟩:=I.loc;obtain⟨u,r,l⟩:=hl i x v hN e hv;have fin:EP X pins σ Q u s:=⟨v,H,I,r,h⟩;rcases l with⟨hk,hm⟩ | ⟨hk,c,hc,hcell⟩
 ·exact wpAny_Name (wpAny_loadName_local I.ok.kind hk hn hm fin) hd
 ·rcases hk with hk | hk
  ·exact wpAny_Name (wpAny_loadName_cell I.ok.kind hk hc hcell fin) hd
  ·exact wpAny_Name (wpAny_loadName_free I.ok.kind hk hc hcell fin hcd) hd
theorem aD{i j pos} : PE X (.Constant (.int i) j pos) (tC (.int i)):=λ_ _ _ H _ I h=>wpAny_Constant_int ⟨.int i,H,I.tok _,⟨_,rfl⟩,h⟩
theorem d8{b j pos} : PE X (.Constant (.bool b) j pos) (tC (.bl b)):=λ_ _ _ H _ I h=>Constant_bool ⟨.bl b,H,I,rfl,h⟩
theorem jJ{j pos} : PE X (.Constant .none j pos) (tC .bX):=λ_ _ _ H _ I h=>Constant_none ⟨.bX,H,I,rfl,h⟩
theorem dQ{x j pos} : PE X (.Constant (.str x) j pos) (tC (.str x)):=λ_ _ _ H _ I h=>Calls.Constant_str ⟨.str x,H,I.tok _,⟨_,rfl⟩,h⟩
def Gl(X:Cx)(x:Str):Prop:=X.env.kindOf x=some .globalImplicit
theorem nX{E:wg->wm->Prop}{pins:List (we × Obj)}{s:wm}{σ : St}{H:Hp}{x:Str}{u:wg}{pos:Pos}{Q:wg->wm->Prop}(I:Inv X pins σ H s)(hg:Gl X x)(hm:X.mg x=some u)(h:Q u s)
  (hd:(x == ("__debug__" : Str))=false:=by decide):wA (model X.prog X.w) X.A (eval (.Name x pos) X.env) Q E s :=
 QC I.ok.kind hg (Calls.loadGlobal_global (by rw[I.ok.glob];exact I.mod.glob.keeps I.bk) hm h) hd
theorem gu{E:wg->wm->Prop}{pins:List (we × Obj)}{s:wm}{σ : St}{H:Hp}{x:Str}{u:wg}{pos:Pos}{Q:wg->wm->Prop}(I:Inv X pins σ H s)(hg:Gl X x)(hm:X.mg x=none)(hv:vI x=some u)(h:Q u s)
  (hn:x≠"__name__":=by decide) (hd:(x == ("__debug__" : Str))=false:=by decide):wA (model X.prog X.w) X.A (eval (.Name x pos) X.env) Q E s:=by
 obtain⟨mb,h1,h2⟩:=I.mod.blt;exact QC I.ok.kind hg (Calls.loadGlobal_builtin (by rw[I.ok.glob];exact I.mod.glob.keeps I.bk) hm (by rw[I.ok.blt];exact h1.keeps I.bk) ((h2 x hn).trans hv) h) hd
theorem bS{x:Str}{v:V}{u:wg}{pos:Pos}(hg:Gl X x)(hm:X.mg x=some u)(r:bC v u)(hd:(x == ("__debug__" : Str))=false:=by decide):PE X (.Name x pos) (tC v) :=
 λ_ _ _ H _ I h=>nX I hg hm ⟨v,H,I,r,h⟩ hd
theorem hJ{x:Str}{v:V}{u:wg}{pos:Pos}(hg:Gl X x)(hm:X.mg x=none)(hv:vI x=some u)(r:bC v u)(hn:x≠"__name__":=by decide)(hd:(x == ("__debug__" : Str))=false:=by decide):PE X (.Name x pos) (tC v) :=
 λ_ _ _ H _ I h=>gu I hg hm hv ⟨v,H,I,r,h⟩ hn hd
def t2I(ta tb:TE)(k:Int->Int->Hp->Prop):St->Hp->Prop:=λσ H=>ta σ H λx H1=>tb σ H1 λy H2=>∃i j,x=.int i/\y=.int j/\k i j H2
variable{a b:Expr}{ta tb:TE}{pos:Pos}
def oy(p:Int->Int->Bool)(ta tb:TE):TE:=λσ H Q=>t2I ta tb (λi j H2=>Q (.bl (p i j)) H2) σ H
abbrev tLt:TE->TE->TE:=oy λi j=>decide (i<j)
abbrev tLe:TE->TE->TE:=oy λi j=>decide (i<=j)
abbrev tGt:TE->TE->TE:=oy λi j=>decide (j<i)
abbrev tGe:TE->TE->TE:=oy λi j=>decide (j<=i)
abbrev zEJ:TE->TE->TE:=oy λi j=>decide (i=j)
abbrev zEI:TE->TE->TE:=oy λi j=>!decide (i=j)
def tB(t:TE):TT:=λσ H Q=>t σ H λx H1=>∃c,x=.bl c/\Q c H1
theorem cu{e:Expr}{t:TE}(h:PE X e t)(he:∀whole,isTrue e X.env whole=(do let v <- whole;standAt e.pos;holding [v] (truthy v)):=by intro _;rfl):PT X e (tB t):=by
 intro pins s σ H Q I hw;refine isTrue_plain (aI (h pins s σ H _ I hw) λv s1 ⟨x,H1,I1,r1,q1⟩=>?_) (he _);obtain⟨d,rfl,q⟩:=q1;cases r1;exact Wn ⟨H1,I1,q⟩
variable{tA tB':TT}{eX:List Expr}
def PL(t u:TT):TT:=λσ H Q=>t σ H λc H1=>if c=true then u σ H1 Q else Q false H1
def OF(t u:TT):TT:=λσ H Q=>t σ H λc H1=>if c=true then Q true H1 else u σ H1 Q
def R7(t:TT):TT:=λσ H Q=>t σ H λc H1=>Q (!c) H1
theorem EN(ha:PT X a tA):PW X (.BoolOp .And [a] pos) tA:=by
 intro wh pins s σ H Q I h;refine isTrue_and (aI (ha pins s σ H Q I h) λc s1 e=>?_);cases c with
 | true=>exact isTrue_and_nil e
 | false=>exact e
theorem fO(ha:PT X a tA):PW X (.BoolOp .Or [a] pos) tA:=by
 intro wh pins s σ H Q I h;refine isTrue_or (aI (ha pins s σ H Q I h) λc s1 e=>?_);cases c with
 | false=>exact isTrue_or_nil e
 | true=>exact e
theorem DK(ha:PT X a tA)(hb:PW X (.BoolOp .And (b::eX) pos) tB'):PW X (.BoolOp .And (a::b::eX) pos) (PL tA tB'):=by
 intro wh pins s σ H Q I h;refine isTrue_and (aI (ha pins s σ H _ I h) λc s1 ⟨H1,I1,q1⟩=>?_);cases c with
 | true=>exact hb wh pins s1 σ H1 Q I1 q1
 | false=>exact⟨H1,I1,q1⟩
theorem ff(ha:PT X a tA)(hb:PW X (.BoolOp .Or (b::eX) pos) tB'):PW X (.BoolOp .Or (a::b::eX) pos) (OF tA tB'):=by
 intro wh pins s σ H Q I h;refine isTrue_or (aI (ha pins s σ H _ I h) λc s1 ⟨H1,I1,q1⟩=>?_);cases c with
 | true=>exact⟨H1,I1,q1⟩
 | false=>exact hb wh pins s1 σ H1 Q I1 q1
theorem cA(ha:PT X a tA):PT X (.UnaryOp .Not a pos) (R7 tA):=by
 intro pins s σ H Q I h;exact isTrue_not (ha pins s σ H (λc H1=>Q (!c) H1) I h)
def N2(ta tb:TE):TE:=λσ H Q=>ta σ H λx H1=>∃c,x=.bl c/\if c=true then tb σ H1 Q else Q (.bl false) H1
def SV(ta:TE):TE:=λσ H Q=>ta σ H λx H1=>∃c,x=.bl c/\Q (.bl (!c)) H1
theorem gS{op}{t:TE}(h:PE X a t):PE X (.BoolOp op [a] pos) t:=λpins s σ H Q I hw=>BoolOp_one (h pins s σ H Q I hw)
theorem fB(ha:PE X a ta)(hb:PE X (.BoolOp .And (b::eX) pos) tb):PE X (.BoolOp .And (a::b::eX) pos) (N2 ta tb):=by
 intro pins s σ H Q I h;refine BoolOp_and (aI (ha pins s σ H _ I h) λv s1 ⟨x,H1,I1,r1,q1⟩=>?_);obtain⟨c,rfl,q1⟩:=q1;cases r1;refine Wn ?_;cases c with
 | true=>exact hb pins s1 σ H1 Q I1 q1
 | false=>exact⟨.bl false,H1,I1,rfl,q1⟩
theorem ng(ha:PE X a ta):PE X (.UnaryOp .Not a pos) (SV ta):=by
 intro pins s σ H Q I h;refine UnaryOp_ (aI (ha pins s σ H _ I h) λv s1 ⟨x,H1,I1,r1,q1⟩=>?_);obtain⟨c,rfl,q1⟩:=q1;cases r1;exact not_of (Wn ⟨.bl (!c),H1,I1,rfl,q1⟩)
def LP(t:TT)(ta tb:TE):TE:=λσ H Q=>t σ H λc H1=>if c=true then ta σ H1 Q else tb σ H1 Q
theorem yE{c:Expr}(hc:PT X c tA)(ha:PE X a ta)(hb:PE X b tb):PE X (.IfExp c a b pos) (LP tA ta tb):=by
 intro pins s σ H Q I h;refine wpAny_IfExp (aI (hc pins s σ H _ I h) λd s1 ⟨H1,I1,q1⟩=>?_);cases d with
 | true=>exact ha pins s1 σ H1 Q I1 q1
 | false=>exact hb pins s1 σ H1 Q I1 q1
end
def aO(K:wb)(H:Hp)(a:we)(xs:List V):Prop :=
 Rd H a (.lst xs) \/
  ∃(o:Obj)(its:Array wg)(n:Nat),K.lookup a=some o/\o.cls=.type "list"/\o.dict=none/\o.data=.seq its n/\its.size<=ve/\aT xs its.toList
def aV(K:wb)(H:Hp)(a:we)(xs:List V):Prop :=
 Rd H a (.tup xs) \/
  ∃(o:Obj)(its:Array wg)(n:Nat),K.lookup a=some o/\o.cls=.type "tuple"/\o.data=.seq its n/\its.size<=ve/\aT xs its.toList
def YN:wg->Option V
 | .none=>some .bX
 | .bool b=>some (.bl b)
 | .int i _=>some (.int i)
 | .str x _=>some (.str x)
 | .bytes b _=>some (.byt b)
 | .float b _=>some (.flt b)
 | .ref a=>some (.ref a)
 | .type n=>some (.ty n)
 | _=>none
theorem bC.abs{x:V}{u:wg}(r:bC x u):YN u=some x:=by
 cases x with
 | bX=>cases r;rfl
 | bl _=>cases r;rfl
 | int _=>obtain⟨t,rfl⟩:=r;rfl
 | str _=>obtain⟨t,rfl⟩:=r;rfl
 | byt _=>obtain⟨t,rfl⟩:=r;rfl
 | flt _=>obtain⟨t,rfl⟩:=r;rfl
 | ref _=>cases r;rfl
 | ty _=>cases r;rfl
theorem bC.inj{x y:V}{u:wg}(r:bC x u)(q:bC y u):x=y:=w6 (r.abs.symm.trans q.abs)
theorem aT.inj:∀{xs ys:List V}{us:List wg},aT xs us->aT ys us->xs=ys
 | _,_,_,.nil,.nil=>rfl
 | _,_,_,.cons r t,.cons r' t'=>by rw[r.inj r',aT.inj t t']
section
variable{X:Cx}{pins:List (we × Obj)}{σ : St}{H:Hp}{s:wm}{a:we}{xs ys:List V}
theorem aO.of{K:wb}(h:H a=some (.lst xs)):aO K H a xs:=.inl (.inl h)
theorem aV.of{K:wb}(h:H a=some (.tup xs)):aV K H a xs:=.inl (.inl h)
theorem Inv.list(I:Inv X pins σ H s)(h:aO X.K H a xs):∃its:List wg,aT xs its/\PlainL s.heap a its.toArray/\xs.length<=ve:=by
 rcases h with h | ⟨o,its,n,hk,hc,hd,hs,hz,r⟩
 ·obtain⟨z,its,n,r,e⟩:=h.ok I.aH
  exact⟨its,r,⟨_,n,e,rfl,rfl,rfl⟩,z⟩
 ·refine⟨its.toList,r,⟨o,n,I.c9 a o hk,hc,hd,by simpa using hs⟩,?_⟩
  have e:=r.length;simp only[Vc]at e
  lia
theorem Inv.tuple(I:Inv X pins σ H s)(h:aV X.K H a xs):∃its:List wg,aT xs its/\IsTup s.heap a its.toArray/\xs.length<=ve:=by
 rcases h with h | ⟨o,its,n,hk,hc,hs,hz,r⟩
 ·obtain⟨z,its,r,p⟩:=h.ok I.aH
  exact⟨its,r,p,z⟩
 ·refine⟨its.toList,r,⟨o,I.c9 a o hk,hc,n,by simpa using hs⟩,?_⟩
  have e:=r.length;simp only[Vc]at e
  lia
theorem Inv.sr(I:Inv X pins σ H s)(h:aO X.K H a xs)(h':aO X.K H a ys):xs=ys:=by
 obtain⟨its,r,⟨o,n,e,_,_,d⟩,_⟩:=I.list h;obtain⟨its',r',⟨o',n',e',_,_,d'⟩,_⟩:=I.list h';rw[e]at e';cases e';rw[d]at d'
 injection d' with d1 _
 have:its=its':=by simpa using congrArg uK d1
 subst this;exact r.inj r'
theorem Inv.Bq(I:Inv X pins σ H s)(h:aV X.K H a xs)(h':aV X.K H a ys):xs=ys:=by
 obtain⟨its,r,⟨o,e,_,n,d⟩,_⟩:=I.tuple h;obtain⟨its',r',⟨o',e',_,n',d'⟩,_⟩:=I.tuple h';rw[e]at e';cases e';rw[d]at d'
 injection d' with d1 _
 have:its=its':=by simpa using congrArg uK d1
 subst this;exact r.inj r'
end
abbrev Cx.jh(X:Cx)(E:wg->wm->Prop):Cx:={X with xe:=E}
abbrev Cx.yN(X:Cx):Cx:=X.jh λ_ _=>False
theorem Cx.Ok.jh{X:Cx}(ok:X.Ok)(E:wg->wm->Prop):(X.jh E).Ok :=
 ⟨ok.mod,ok.kind,ok.glob,ok.blt,ok.above,ok.inj,ok.has,ok.jU,ok.hd,ok.frames,ok.kR,ok.ny,ok.bs,ok.gX,ok.jQ,ok.ky,ok.eK,ok.iC⟩
theorem Cx.Ok.kx{X:Cx}{E:wg->wm->Prop}(ok:(X.jh E).Ok):X.Ok :=
 ⟨ok.mod,ok.kind,ok.glob,ok.blt,ok.above,ok.inj,ok.has,ok.jU,ok.hd,ok.frames,ok.kR,ok.ny,ok.bs,ok.gX,ok.jQ,ok.ky,ok.eK,ok.iC⟩
section
variable{X:Cx}{pins:List (we × Obj)}{σ : St}{H:Hp}{s:wm}{E:wg->wm->Prop}
theorem Inv.jh(I:Inv X pins σ H s)(E:wg->wm->Prop):Inv (X.jh E) pins σ H s:=⟨I.ok.jh E,I.os,I.bare,I.base,I.loc,I.cell,I.free,I.fC,I.pin,I.aH,I.len⟩
theorem Inv.kx(I:Inv (X.jh E) pins σ H s):Inv X pins σ H s:=⟨I.ok.kx,I.os,I.bare,I.base,I.loc,I.cell,I.free,I.fC,I.pin,I.aH,I.len⟩
theorem SP.kx{D:cB}{f:Flow}{s':wm}(h:SP (X.jh E) pins D f s'):SP X pins D f s':=by
 cases f with
 | next=>obtain⟨σ',H',I,q⟩:=h;exact⟨σ',H',I.kx,q⟩
 | brk=>obtain⟨σ',H',I,q⟩:=h;exact⟨σ',H',I.kx,q⟩
 | cont=>obtain⟨σ',H',I,q⟩:=h;exact⟨σ',H',I.kx,q⟩
 | ret u=>obtain⟨v,σ',H',I,r,q⟩:=h;exact⟨v,σ',H',I.kx,r,q⟩
theorem fv.yN{st:List vc}{t:TS}(h:fv X.yN st t):fv X st t:=λpins s σ H D I hw =>
 Wr (h pins s σ H D (I.jh _) hw) (λ_ _ q=>q.kx) λ_ _ z=>Wp z
end
section
variable{X:Cx}{st:vc}{eX:List vc}{t u:TS}{e:Expr}{te:TE}{pos:Pos}
def Ra:TS:=λD σ H=>D.nx σ H
def BF(t u:TS):TS:=λD σ H=>t {D with nx:=u D} σ H
theorem bQ:fv X [] Ra:=λ_ _ σ H _ I h=>qx ⟨σ,H,I,h⟩
theorem ak(h1:PS X st t)(h2:fv X eX u):fv X (st::eX) (BF t u):=by
 intro pins s σ H D I h;refine wpAny_execs_cons (aI (h1 pins s σ H {D with nx:=u D} I h) λf s1 q=>?_);cases f with
 | next =>
  obtain⟨σ',H',I',q⟩:=q;exact h2 pins s1 σ' H' D I' q
 | ret v=>exact q
 | brk=>exact q
 | cont=>exact q
theorem az(h1:PS X st t):fv X [st] t:=by
 intro pins s σ H D I h;refine wpAny_execs_cons (aI (h1 pins s σ H D I h) λf s1 q=>?_);cases f with
 | next=>exact qx q
 | ret v=>exact q
 | brk=>exact q
 | cont=>exact q
theorem Inv.quiet{pins:List (we × Obj)}{σ : St}{H:Hp}{s:wm}(I:Inv X pins σ H s):interactive X.env=false:=by simp[interactive,I.ok.kind]
def SA(te:TE):TS:=λD σ H=>te σ H λ_ H1=>D.nx σ H1
theorem kj(he:PE X e te)(hs:swapsWith e none pos.line X.env=pure false:=by rfl):PS X (.Expr e pos) (SA te):=by
 intro pins s σ H D I h;exact wpAny_Expr_any (aI (he pins s σ H _ I h) λv s1 ⟨x,H1,I1,r1,q1⟩=>⟨σ,H1,I1,q1⟩) I.quiet hs
def SO(te:TE):TS:=λD σ H=>te σ H D.rt
theorem aF(he:PE X e te):PS X (.Return (some e) pos) (SO te):=by
 intro pins s σ H D I h;exact wpAny_Return_some (aI (he pins s σ H _ I h) λv s1 ⟨x,H1,I1,r1,q1⟩=>⟨x,σ,H1,I1,r1,q1⟩)
def PV(c:TT)(t u:TS):TS:=λD σ H=>c σ H λb H1=>if b=true then t D σ H1 else u D σ H1
theorem bP{c:Expr}{a b:List vc}{tc:TT}(hc:PT X c tc)(ha:fv X a t)(hb:fv X b u):PS X (.If c a b pos) (PV tc t u):=by
 intro pins s σ H D I h;refine wpAny_If (aI (hc pins s σ H _ I h) λd s1 ⟨H1,I1,q1⟩=>?_);cases d with
 | true=>exact ha pins s1 σ H1 D I1 q1
 | false=>exact hb pins s1 σ H1 D I1 q1
def ZI:TS:=λ_ _ _=>False
theorem De:PS X st ZI:=λ_ _ _ _ _ _ h=>h.elim
end
abbrev TG:=V->St->Hp->(St->Hp->Prop)->Prop
abbrev iN:=List V->St->Hp->(St->Hp->Prop)->Prop
def PG(X:Cx)(target:Expr)(t:TG):Prop :=
 ∀(pins:List (we × Obj))(s:wm)(σ : St)(H:Hp)(v:V)(u:wg)(Q:St->Hp->Prop),Inv X pins σ H s->bC v u->t v σ H Q ->
  wA (model X.prog X.w) X.A (assign target X.env u) (λ_ s'=>∃σ' H',Inv X pins σ' H' s'/\Q σ' H') X.xe s
def nS(X:Cx)(ts:List Expr)(t:iN):Prop :=
 ∀(pins:List (we × Obj))(s:wm)(σ : St)(H:Hp)(vs:List V)(us:List wg)(Q:St->Hp->Prop),Inv X pins σ H s->aT vs us->t vs σ H Q ->
  wA (model X.prog X.w) X.A (assignInOrder ((Vo ts X.env).map (·.2)) us) (λ_ s'=>∃σ' H',Inv X pins σ' H' s'/\Q σ' H') X.xe s
abbrev zq:=V->V->V->Hp->(Hp->Prop)->Prop
def O6(X:Cx)(t:zq):Prop :=
 ∀(pins:List (we × Obj))(s:wm)(σ : St)(H:Hp)(o i v:V)(ov iv u:wg)(Q:Hp->Prop),Inv X pins σ H s->bC o ov->bC i iv->bC v u->t o i v H Q ->
  wA (model X.prog X.w) X.A (setItem ov iv u) (λ_ s'=>∃H',Inv X pins σ H' s'/\Q H') X.xe s
abbrev pj:=V->V->Hp->VK->Prop
def OH(X:Cx)(op:Operator)(t:pj):Prop :=
 ∀(pins:List (we × Obj))(s:wm)(σ : St)(H:Hp)(x y:V)(v u:wg)(Q:VK),Inv X pins σ H s->bC x v->bC y u->t x y H Q ->
  wA (model X.prog X.w) X.A (inplaceOp op v u) (EP X pins σ Q) X.xe s
section
variable{X:Cx}{pos:Pos}
def gD(i:Nat):TG:=λv σ H Q=>Q (σ.set i (some v)) H
theorem bM{i:Nat}{x:Str}(hN:X.N.Nodup)(hi:X.N[i]? = some x)(hx:Loc X.env.scope x)(hf:X.fn x=true\/X.env.scope.names.lookup x=some .local:=by first | exact .inl rfl | exact .inr rfl | assumption):PG X (.Name x pos) (gD i):=by
 intro pins s σ H v u Q I r h;exact wpAny_assign_Name (nH I hN hi hx r (λs' I'=>⟨_,H,I',h⟩) hf)
def CN:iN:=λvs σ H Q=>vs=[]/\Q σ H
def yD(t:TG)(u:iN):iN:=λvs σ H Q=>∃v r,vs=v::r/\t v σ H λσ' H'=>u r σ' H' Q
theorem jF:nS X [] CN:=by
 intro pins s σ H vs us Q I r h;obtain⟨e,h⟩:=h;subst e;cases r;exact assignInOrder_nil ⟨σ,H,I,h⟩
theorem d5{e:Expr}{es:List Expr}{t:TG}{u:iN}(h1:PG X e t)(h2:nS X es u)
  (hs:(Vo (e::es) X.env).map (·.2)=assign e X.env::(Vo es X.env).map (·.2):=by rfl):nS X (e::es) (yD t u):=by
 intro pins s σ H vs us Q I r h;obtain⟨v,vr,e1,h⟩:=h;subst e1;cases r with
 | cons r rr =>
  rw[hs];refine assignInOrder_cons (aI (h1 pins s σ H _ _ _ I r h) λ_ s1 ⟨σ1,H1,I1,q1⟩=>?_);exact h2 pins s1 σ1 H1 _ _ Q I1 rr q1
def iY(K:wb)(n:Nat)(t:iN):TG:=λv σ H Q=>∃a xs,v=.ref a/\aV K H a xs/\xs.length=n/\t xs σ H Q
theorem j3{es:List Expr}{k:Nat}{t:iN}{n:Nat}(hc:X.calm=true)(h:nS X es t)
  (hn:(Vo es X.env).length=n:=by rfl) (hst:(Vo es X.env).findIdx? (·.1)=none:=by rfl):PG X (.Tuple es k pos) (iY X.K n t):=by
 intro pins s σ H v u Q I r hw;obtain⟨a,xs,e1,hq,hl,hw⟩:=hw;subst e1;cases r;obtain⟨its,rv,ht,hz⟩:=I.tuple hq;refine assign_Tuple_tuple (I.ok.hd hc) ht (by simp[hn,<- hl,rv.length]) hst λh' hx=>?_
 have I1:Inv X pins σ H {s with heap:=h'}:=I.kept (t':=s.toks) λb o e=>hx b o (wT (wC e)) e
 exact h pins _ σ H xs _ Q I1 (by simpa using rv) hw
def RN(to ti:TE)(t:zq):TG:=λv σ H Q=>to σ H λo H1=>ti σ H1 λi H2=>t o i v H2 λH3=>Q σ H3
theorem mM{o i:Expr}{to ti:TE}{t:zq}(ho:PE X o to)(hi:PE X i ti)(hs:O6 X t)
  (ha:∀v,assign (.Subscript o i pos) X.env v=(do
   let ov <- holding [v] (eval o X.env)
   let iv <- holding [v,ov] (eval i X.env)
   standAt pos
   holding [v,ov,iv] (setItem ov iv v)
   release [v,ov,iv] []):=by intro _;rfl):PG X (.Subscript o i pos) (RN to ti t):=by
 intro pins s σ H v u Q I r h;rw[ha];refine wf (vR (aI (ho pins s σ H _ I h) λov s1 ⟨x,H1,I1,r1,q1⟩=>?_));refine wf (vR (aI (hi pins s1 σ H1 _ I1 q1) λiv s2 ⟨y,H2,I2,r2,q2⟩=>?_));refine wf (ql (wf (vR (aI (hs pins s2 σ H2 x y v ov iv u _ I2 r1 r2 r q2) λ_ s3 ⟨H3,I3,q3⟩=>?_))));exact wpAny_release ⟨σ,H3,I3,q3⟩
def kK(te:TE)(g:TG):TS:=λD σ H=>te σ H λx H1=>g x σ H1 D.nx
theorem oq{tg e:Expr}{te:TE}{g:TG}(he:PE X e te)(hg:PG X tg g)(hs:swapsWithSole [tg] e pos.line X.env=pure false:=by rfl)(hw:swappedStores [tg] e X.env=pure none:=by rfl)
  (h1:(Vo [tg] X.env).map (·.2)=[assign tg X.env]:=by rfl):PS X (.Assign [tg] e pos) (kK te g):=by
 intro pins s σ H D I h;refine wpAny_Assign_stores (aI (he pins s σ H _ I h) λv s1 ⟨x,H1,I1,r1,q1⟩=>?_) hs hw;rw[h1];exact aI (hg pins s1 σ H1 x v _ I1 r1 q1) λ_ s2 q=>q
theorem zCI{i:Nat}{x:Str}{e:Expr}{te:TE}{pos':Pos}(hN:X.N.Nodup)(hi:X.N[i]? = some x)(hx:Loc X.env.scope x)(he:PE X e te)(hs:swapsWith e (some (.Name x pos')) pos.line X.env=pure false:=by rfl)(hf:X.fn x=true\/X.env.scope.names.lookup x=some .local:=by first | exact .inl rfl | exact .inr rfl | assumption) :
  PS X (.Assign [.Name x pos'] e pos) (kK te (gD i)):=by
 intro pins s σ H D I h;refine wpAny_Assign_Name (aI (he pins s σ H _ I h) λv s1 ⟨y,H1,I1,r1,q1⟩=>?_) hs;exact nH I1 hN hi hx r1 (λs2 I2=>⟨_,H1,I2,q1⟩) hf
def PZ(i j:Nat)(ta:TA):TS:=λD σ H=>ta σ H λvs H1=>∃v w,vs=[v,w]/\D.nx ((σ.set i (some v)).set j (some w)) H1
theorem zBW{i j:Nat}{x y:Str}{a b:Expr}{ta:TA}{px py pt:Pos}{kt k2 pt2}(hc:X.calm=true)(hN:X.N.Nodup)(hi:X.N[i]? = some x)(hj:X.N[j]? = some y)(hij:i≠j)
  (hx:X.env.scope.names.lookup x=some .local) (hy:X.env.scope.names.lookup y=some .local) (ha:PA X [a,b] ta)
  (hw:swappedStores [.Tuple [.Name x px,.Name y py] kt pt] (.Tuple [a,b] k2 pt2) X.env=pure (some [x,y]))
  (hs:swapsWithSole [.Tuple [.Name x px,.Name y py] kt pt] (.Tuple [a,b] k2 pt2) pos.line X.env=pure false:=by rfl) :
  PS X (.Assign [.Tuple [.Name x px,.Name y py] kt pt] (.Tuple [a,b] k2 pt2) pos) (PZ i j ta):=by
 intro pins s σ H D I h;rw[exec_Assign_arm];refine wf (ql ?_);rw[hs];refine wf (wy ?_);rw[if_neg (by decide)];refine wf (Tuple_ (aI (ha _ pins s σ H _ I h) λus s1 ⟨vs,H1,I1,r1,q1⟩=>?_));obtain⟨v,w,e1,q1⟩:=q1;subst e1
 obtain⟨u1,u2,rfl,rv,rw'⟩:∃u1 u2,us=[u1,u2]/\bC v u1/\bC w u2:=by
  cases r1 with
  | cons p q =>
   cases q with
   | cons p' q' =>
    cases q';exact⟨_,_,rfl,p,p'⟩
 refine Wo ?_ (by show 2<=ve;decide);have I2:Inv X pins σ H1 {s1 with heap:=s1.heap.push {cls:=.type "tuple",data:=.seq [u1,u2].toArray}}:=I1.kept (t':=s1.toks) λb o e=>wp _ e
 rw[hw];refine wf (wy ?_)
 show wA (model X.prog X.w) X.A (do rule "assign.swapped-stores";let items <- unpackItems (.ref s1.heap.objs.size) 2 none;assignInOrder [λv=>bindName X.env y v,λv=>bindName X.env x v] items.reverse;pure Flow.next) _ _ _
 refine wf (V0 (wf (unpackItems_tuple (items:=#[u1,u2]) (I.ok.hd hc) (qZ s1.heap _) λh' hx'=>?_)));have I3:=I2.kept (h':=h') (t':=s1.toks) λb o e=>hx' b o (wT (wC e)) e
 show wA _ _ (assignInOrder [λv=>bindName X.env y v,λv=>bindName X.env x v] [u2,u1] >>= λ_=>pure Flow.next) _ _ _
 refine wf (assignInOrder_cons (wpAny_bindName (nH I3 hN hj (.inl hy) rw' (λs2 I4=>?_) (.inr hy))));refine assignInOrder_cons (wpAny_bindName (nH I4 hN hi (.inl hx) rv (λs3 I5=>assignInOrder_nil (wy ?_)) (.inr hx)));rw[List.set_comm _ _ (Wj hij)]at I5;exact⟨_,H1,I5,q1⟩
def Mz(i:Nat)(te:TE)(ti:pj):TS:=λD σ H=>∃x,σ[i]? = some (some x)/\te σ H λy H1=>ti x y H1 λz H2=>D.nx (σ.set i (some z)) H2
theorem zDq{i:Nat}{x:Str}{e:Expr}{te:TE}{op:Operator}{ti:pj}{pos':Pos}(hN:X.N.Nodup)(hi:X.N[i]? = some x)(hx:Loc X.env.scope x)(he:PE X e te)(ho:OH X op ti)(hf:X.fn x=true\/X.env.scope.names.lookup x=some .local:=by first | exact .inl rfl | exact .inr rfl | assumption) :
  PS X (.AugAssign (.Name x pos') op e pos) (Mz i te ti):=by
 intro pins s σ H D I h;obtain⟨v,e1,h⟩:=h;obtain⟨m,hn,hl⟩:=I.loc;have EK:zj X.env.scope x:=by rcases hx with k | k;exact .inl k;exact .inr (.inl k)
 obtain⟨u,r,l⟩:=hl i x v hi e1 EK;refine wpAny_AugAssign_Name ?_
 have go:wA (model X.prog X.w) X.A (eval e X.env) (λw s₂=>wA (model X.prog X.w) X.A (inplaceOp op u w) (λr s₃=>wA (model X.prog X.w) X.A (storeName X.env x r) (λ_=>SP X pins D .next) X.xe s₃) X.xe s₂) X.xe s:=by
  refine aI (he pins s σ H _ I h) λw s1 ⟨y,H1,I1,r1,q1⟩=>?_
  refine aI (ho pins s1 σ H1 v y u w _ I1 r r1 q1) λz s2 ⟨zv,H2,I2,r2,q2⟩=>?_
  exact nH I2 hN hi hx r2 (λs3 I3=>⟨_,H2,I3,q2⟩) hf
 rcases l with⟨hk,hm⟩ | ⟨hk,c,hc,hcell⟩
 ·exact wpAny_loadName_local I.ok.kind hk hn hm go
 ·rcases hk with hk | hk
  ·exact wpAny_loadName_cell I.ok.kind hk hc hcell go
  ·rcases hx with k | k
   ·have:X.env.scope.names.lookup x=some .free:=hk
    rw[k]at this;cases this
   ·have:X.env.scope.names.lookup x=some .free:=hk
    rw[k]at this;cases this
def LA(f:Int->Int->Int):pj:=λx y H Q=>∃i j,x=.int i/\y=.int j/\Q (.int (f i j)) H
theorem zCO:OH X .Add (LA λi j=>i+j):=by
 intro pins s σ H x y v u Q I r1 r2 h;obtain⟨i,j,e1,e2,q⟩:=h;subst e1;subst e2;obtain⟨t,rfl⟩:=r1;obtain⟨t',rfl⟩:=r2;exact iadd_int ⟨.int _,H,I.tok _,⟨_,rfl⟩,q⟩
end
section
variable{X:Cx}{pos:Pos}
def Ct(c:TT)(tb:TS):TS:=λD σ H=>∃W:Nat->St->Hp->Prop,(∃m,W m σ H) /\ ∀m σ H,W m σ H ->
 c σ H λb H1=>if b=true then ∃N:St->Hp->Prop,(∀σ' H',N σ' H'->∃m',m'<m/\W m' σ' H')/\tb {D with nx:=N,ct:=N,bk:=D.nx} σ H1 else D.nx σ H1
theorem mf{c:Expr}{body:List vc}{tc:TT}{tb:TS}(hp:PassesOwn (model X.prog X.w) X.A X.env X.xe)(hc:PT X c tc)(hb:fv X body tb):PS X (.While c body [] pos) (Ct tc tb):=by
 intro pins s σ H D I h;obtain⟨W,⟨m0,w0⟩,turn⟩:=h;refine wpAny_While (codeAny_whileLoop (λn s'=>∃σ' H',Inv X pins σ' H' s'/\W n σ' H') ?_ m0 ⟨σ,H,I,w0⟩);rintro n s1 ⟨σ1,H1,I1,w1⟩;refine Vv hp (aI (hc pins s1 σ1 H1 _ I1 (turn n σ1 H1 w1)) λb s2 ⟨H2,I2,q2⟩=>?_);cases b with
 | true =>
  obtain⟨N,hN,q2⟩:=q2;rw[if_pos rfl];refine Vv hp (aI (hb pins s2 σ1 H2 _ I2 q2) λf s3 q3=>?_);cases f with
  | next =>
   obtain⟨σ3,H3,I3,n3⟩:=q3;obtain⟨m',hm,w3⟩:=hN σ3 H3 n3;exact⟨m',hm,σ3,H3,I3,w3⟩
  | cont =>
   obtain⟨σ3,H3,I3,n3⟩:=q3;obtain⟨m',hm,w3⟩:=hN σ3 H3 n3;exact⟨m',hm,σ3,H3,I3,w3⟩
  | brk=>exact q3
  | ret v=>exact q3
 | false =>
  rw[if_neg vC];exact qx ⟨σ1,H2,I2,q2⟩
end
structure It where
 go:Nat->Hp->Prop
 fH:Nat->Hp->V->Hp->Prop
 stop:Nat->Hp->Prop
def eG(X:Cx)(pins:List (we × Obj))(H:Hp)(b:we):Prop :=
 H b=none/\b≠X.env.locals/\b ∉ X.fs/\(b∈X.ex\/X.s₀.heap.objs.size<=b)/\(∀x c,X.env.cells.lookup x=some c->c≠b) /\ ∀p∈X.pn++pins,p.1≠b
theorem Inv.jg{X:Cx}{pins:List (we × Obj)}{σ : St}{H H':Hp}{s:wm}{b:we}(I:Inv X pins σ H s)(hb:s.heap.objs.size<=b)(hn:H' b=none):eG X pins H' b:=by
 refine⟨hn,vj (w5 I.lt hb),I.YC hb,.inr (Wm I.sz hb),λx c e z=>?_,λp hp z=>?_⟩
 ·obtain⟨v,q⟩:=I.cell x c e
  exact absurd (w5 q.lt (by rw[z];exact hb)) (Vx _)
 ·exact absurd (w5 (wC (I.pin p hp).1) (by rw[z];exact hb)) (Vx _)
structure iX(P:wS)(w:wW)(K:wb)(tg:Expr)(J:It)(fp:List we)(it:we)(tn:Nat->wQ->Prop):Prop where
 mem:it∈fp
 obj:∀i h,tn i h->∀b∈fp,∃o,h.get? b=some o /\ ∀v,o.data≠.cell v
 keep:∀i h h',tn i h->(∀b∈fp,∀o,h.get? b=some o->h'.get? b=some o)->tn i h'
 item:∀(X:Cx),X.prog=P->X.w=w->X.K=K->X.calm=true->∀(i:Nat)(pins:List (we × Obj))(s:wm)(σ : St)(H:Hp)(E:wg->wm->Prop),Inv X pins σ H s->(∀b∈fp,eG X pins H b)->tn i s.heap->J.go i H ->
   wA (model P w) X.A (Ve (.ref it)) (λr s1=>∃u,r=some u /\
     wA (model P w) X.A (qy tg (.ref it) u) (λ_ s2=>∃x H',Inv X pins σ H' s2/\bC x u/\J.fH i H x H'/\tn (i+1) s2.heap /\ ∀b∈fp,H' b=none) E s1) E s
 done:∀(X:Cx),X.prog=P->X.w=w->X.K=K->X.calm=true->∀(i:Nat)(pins:List (we × Obj))(s:wm)(σ : St)(H:Hp)(E:wg->wm->Prop),Inv X pins σ H s->(∀b∈fp,eG X pins H b)->tn i s.heap->J.stop i H ->
   wA (model P w) X.A (Ve (.ref it)) (λr s1=>r=none/\Inv X pins σ H s1) E s
 self:∀(A:vb)(i:Nat)(s:wm)(Q:wg->wm->Prop)(E:wg->wm->Prop),tn i s.heap->Q (.ref it) s->wA (model P w) A (pyIter (.ref it)) Q E s
abbrev TI:=St->Hp->(It->Hp->Prop)->Prop
def Dz(X:Cx)(pins:List (we × Obj))(σ : St)(tg:Expr)(R:It->Hp->Prop)(itv:wg)(s2:wm):Prop :=
 ∃(it:we)(fp:List we)(tn:Nat->wQ->Prop)(J:It)(H':Hp),itv=.ref it/\Inv X pins σ H' s2/\iX X.prog X.w X.K tg J fp it tn/\tn 0 s2.heap/\(∀b∈fp,eG X pins H' b)/\R J H'
def PI(X:Cx)(tg iter:Expr)(wi:TI):Prop :=
 ∀(pins:List (we × Obj))(s:wm)(σ : St)(H:Hp)(R:It->Hp->Prop),Inv X pins σ H s->wi σ H R ->
  wA (model X.prog X.w) X.A (eval iter X.env) (λv s1=>wA (model X.prog X.w) X.A (pyIter v) (Dz X pins σ tg R) X.xe s1) X.xe s
theorem yS{M:Model}{A:vb}{E:wg->wm->Prop}{s:wm}{tg:Expr}{it:we}{u:wg}{o:Obj}{n:String}{vs:Array wg}{Q:Unit->wm->Prop}(ho:s.heap.get? it=some o)(hc:o.cls=.type n)(hd:o.data=.fields vs)
   (hn:["enumerate","zip","dict_itemiterator","dict_reverseitemiterator","odict_iterator","itertools.zip_longest","itertools.pairwise"].contains n=false) (hQ:Q () s):wA M A (qy tg (.ref it) u) Q E s:=by
 unfold qy
 cases tg<;>first
   | exact wy hQ
   | (cases u<;>first
       | exact wy hQ
       | (refine wf (wpAny_load ho ?_)
          rw[hc,hd]
          show wA M A (if(["enumerate","zip","dict_itemiterator","dict_reverseitemiterator","odict_iterator","itertools.zip_longest","itertools.pairwise"].contains n&&vs[0]? == some (VE _))=true then _ else _) Q E s
          rw[if_neg (by intro h;rw[hn,WA]at h;cases h)];exact wy hQ))
def iR(K:wb)(a:we):It :=
 ⟨λi H=>∃xs x,aO K H a xs/\xs[i]? = some x,λi H x H'=>H'=H /\ ∀xs,aO K H a xs->xs[i]? = some x,λi H=>∃xs,aO K H a xs/\xs.length<=i⟩
def jt(K:wb)(a:we):It :=
 ⟨λi H=>∃xs x,aV K H a xs/\xs[i]? = some x,λi H x H'=>H'=H /\ ∀xs,aV K H a xs->xs[i]? = some x,λi H=>∃xs,aV K H a xs/\xs.length<=i⟩
def gm(lo:Int)(n:Nat):It:=⟨λi _=>i<n,λi H x H'=>H'=H/\x=.int (lo+i),λi _=>n<=i⟩
theorem C6{P:wS}{w:wW}{K:wb}{tg:Expr}(a it:we):iX P w K tg (iR K a) [it] it (λi h=>h.IsListIter it a i) where
 mem:=by simp
 obj:=λi h st b hb=>by
  have e:b=it:=by simpa using hb
  subst e;obtain⟨o,e,c,d⟩:=st;exact⟨o,e,λv z=>by rw[d]at z;cases z⟩
 keep:=λi h h' st k=>st.at λo e=>k it (by simp) o e
 item:=by
  intro X hP hw hK hc i pins s σ H E I hf st hg;subst hP hw hK;obtain⟨xs,x,hq,hx⟩:=hg;obtain⟨its,rv,p,hz⟩:=I.list hq;obtain⟨u,hu,ru⟩:=rv.get hx;obtain⟨f0,f1,f2,f3,f4,f5⟩:=hf it (by simp);refine wpAny_pyNext_list_item st p.isList (x:=u) (by simpa using hu) λh' st' sb=>?_
  have I1:Inv X pins σ H {s with heap:=h'}:=I.turned (t':=s.toks) (λb o hb e=>(sb.2 b hb).trans e) f0 f1 f3 f4 f5;obtain⟨o,e,c,d⟩:=id st';exact⟨u,rfl,yS (s:={s with heap:=h'}) e c d (by decide) ⟨x,H,I1,ru,⟨rfl,λys hy=>by rw[I.sr hy hq];exact hx⟩,st',λb hb=>(hf b hb).1⟩⟩
 done:=by
  intro X hP hw hK hc i pins s σ H E I hf st hg;subst hP hw hK;obtain⟨xs,hq,hx⟩:=hg;obtain⟨its,rv,p,hz⟩:=I.list hq;obtain⟨f0,f1,f2,f3,f4,f5⟩:=hf it (by simp);have hl:=rv.length;exact wpAny_pyNext_list_end (I.ok.hd hc) st p.isList (by simp;lia) λh' eb=>⟨rfl,I.turned (t':=s.toks) (λb o hb e=>eb b o hb e) f0 f1 f3 f4 f5⟩
 self:=λ_ _ _ _ _ st h=>wpAny_pyIter_listiter st h
theorem O9{P:wS}{w:wW}{K:wb}{tg:Expr}(a it:we):iX P w K tg (jt K a) [it] it (λi h=>h.IsTupleIter it a i) where
 mem:=by simp
 obj:=λi h st b hb=>by
  have e:b=it:=by simpa using hb
  subst e;obtain⟨o,e,c,d⟩:=st;exact⟨o,e,λv z=>by rw[d]at z;cases z⟩
 keep:=λi h h' st k=>st.at λo e=>k it (by simp) o e
 item:=by
  intro X hP hw hK hc i pins s σ H E I hf st hg;subst hP hw hK;obtain⟨xs,x,hq,hx⟩:=hg;obtain⟨its,rv,p,hz⟩:=I.tuple hq;obtain⟨u,hu,ru⟩:=rv.get hx;obtain⟨f0,f1,f2,f3,f4,f5⟩:=hf it (by simp);refine wpAny_pyNext_tuple_item st (show s.heap.IsTuple a its.toArray from p) (x:=u) (by simpa using hu) λh' st' sb=>?_
  have I1:Inv X pins σ H {s with heap:=h'}:=I.turned (t':=s.toks) (λb o hb e=>(sb.2 b hb).trans e) f0 f1 f3 f4 f5;obtain⟨o,e,c,d⟩:=id st';exact⟨u,rfl,yS (s:={s with heap:=h'}) e c d (by decide) ⟨x,H,I1,ru,⟨rfl,λys hy=>by rw[I.Bq hy hq];exact hx⟩,st',λb hb=>(hf b hb).1⟩⟩
 done:=by
  intro X hP hw hK hc i pins s σ H E I hf st hg;subst hP hw hK;obtain⟨xs,hq,hx⟩:=hg;obtain⟨its,rv,p,hz⟩:=I.tuple hq;obtain⟨f0,f1,f2,f3,f4,f5⟩:=hf it (by simp);have hl:=rv.length;exact wpAny_pyNext_tuple_end (I.ok.hd hc) st (show s.heap.IsTuple a its.toArray from p) (by simp;lia) λh' eb=>⟨rfl,I.turned (t':=s.toks) (λb o hb e=>eb b o hb e) f0 f1 f3 f4 f5⟩
 self:=λ_ _ _ _ _ st h=>wpAny_pyIter_tupleiter st h
theorem YL{P:wS}{w:wW}{K:wb}{tg:Expr}(it:we)(lo:Int)(n:Nat):iX P w K tg (gm lo n) [it] it (λi h=>IsRangeIter h it (lo+(i:Nat)*1) ((n:Int)-(i:Nat)) 1) where
 mem:=by simp
 obj:=λi h st b hb=>by
  have e:b=it:=by simpa using hb
  subst e
  exact⟨_,st,λv z=>by
   have z':Data.fields _=Data.cell v:=z;cases z'⟩
 keep:=λi h h' st k=>k it (by simp) _ st
 item:=by
  intro X hP hw hK hc i pins s σ H E I hf st hg;subst hP hw hK;obtain⟨f0,f1,f2,f3,f4,f5⟩:=hf it (by simp);have W:=Walks.range (prog:=X.prog) (w:=X.w) (I.ok.hd hc) it lo 1 n;refine W.item i s _ _ hg st λv h' tk hv st' kk=>?_
  obtain⟨t,rfl⟩:=hv;have I1:Inv X pins σ H {s with heap:=h',toks:=tk}:=I.turned (λb o hb e=>kk b o (by simpa using hb) e) f0 f1 f3 f4 f5;refine⟨_,rfl,yS (s:={s with heap:=h',toks:=tk}) (n:="range_iterator") st' rfl rfl (by decide) ⟨.int (lo+i),H,I1,⟨t,?_⟩,⟨rfl,rfl⟩,st',λb hb=>(hf b hb).1⟩⟩;rw[xa]
 done:=by
  intro X hP hw hK hc i pins s σ H E I hf st hg;subst hP hw hK;obtain⟨f0,f1,f2,f3,f4,f5⟩:=hf it (by simp);exact wpAny_pyNext_range_end (I.ok.hd hc) st (by have:n<=i:=hg;lia) λh' eb=>⟨rfl,I.turned (t':=s.toks) (λb o hb e=>eb b o hb e) f0 f1 f3 f4 f5⟩
 self:=λ_ _ _ _ _ st h=>wpAny_pyIter_rangeiter st h
section
variable{X:Cx}{tg:Expr}
def yY(K:wb)(tl:TE):TI:=λσ H R=>tl σ H λx H1=>∃a,x=.ref a/\(∃xs,aO K H1 a xs)/\R (iR K a) H1
def KR(K:wb)(tl:TE):TI:=λσ H R=>tl σ H λx H1=>∃a,x=.ref a/\(∃xs,aV K H1 a xs)/\R (jt K a) H1
theorem gO{l:Expr}{tl:TE}(hl:PE X l tl):PI X tg l (yY X.K tl):=by
 intro pins s σ H R I h;refine aI (hl pins s σ H _ I h) λv s1 ⟨x,H1,I1,r1,q1⟩=>?_
 obtain⟨a,e,⟨xs,hq⟩,q⟩:=q1;subst e;cases r1;obtain⟨its,rv,p,hz⟩:=I1.list hq;refine VF p.isList ?_;refine⟨s1.heap.objs.size,[s1.heap.objs.size],_,_,H1,rfl,I1.kept (t':=s1.toks) λb o e=>wp _ e,C6 a _,⟨_,wK _ rfl,rfl,rfl⟩,λb hb=>?_,q⟩;have e:b=s1.heap.objs.size:=by simpa using hb
 subst e;exact I1.jg (wq _) (I1.aH.fresh (wq _))
theorem iW{l:Expr}{tl:TE}(hl:PE X l tl):PI X tg l (KR X.K tl):=by
 intro pins s σ H R I h;refine aI (hl pins s σ H _ I h) λv s1 ⟨x,H1,I1,r1,q1⟩=>?_
 obtain⟨a,e,⟨xs,hq⟩,q⟩:=q1;subst e;cases r1;obtain⟨its,rv,p,hz⟩:=I1.tuple hq;refine W2 (show s1.heap.IsTuple a its.toArray from p) ?_;refine⟨s1.heap.objs.size,[s1.heap.objs.size],_,_,H1,rfl,I1.kept (t':=s1.toks) λb o e=>wp _ e,O9 a _,⟨_,wK _ rfl,rfl,rfl⟩,λb hb=>?_,q⟩;have e:b=s1.heap.objs.size:=by simpa using hb
 subst e;exact I1.jg (wq _) (I1.aH.fresh (wq _))
theorem Mb{pins:List (we × Obj)}{σ : St}{H:Hp}{s:wm}{R:It->Hp->Prop}{E:wg->wm->Prop}{lo hi:Int}{t u v:Tok}{tk:Nat}(I:Inv X pins σ H s)(h1 : -(2^62)<=lo)(h2:lo<2^62)(h3 : -(2^62)<=hi)(h4:hi<2^62)
  (q:R (gm lo (hi-lo).toNat) H):wA (model X.prog X.w) X.A (pyIter (.ref s.heap.objs.size)) (Dz X pins σ tg R) E {s with heap:=s.heap.push {cls:=.type "range",data:=.fields #[.int lo t,.int hi u,.int 1 v]},toks:=tk}:=by
 refine wpAny_pyIter_range (uO ..) (small_one h1 h2 h3 h4) ?_;have I1:Inv X pins σ H {s with heap:=s.heap.push {cls:=.type "range",data:=.fields #[.int lo t,.int hi u,.int 1 v]},toks:=tk}:=I.kept λb o e=>wp _ e
 refine⟨(s.heap.push {cls:=.type "range",data:=.fields #[.int lo t,.int hi u,.int 1 v]}).objs.size,[(s.heap.push {cls:=.type "range",data:=.fields #[.int lo t,.int hi u,.int 1 v]}).objs.size],_,_,H,rfl,
  I1.kept (t':=tk) λb o e=>wp _ e,YL _ lo (hi-lo).toNat,?_,λb hb=>?_,q⟩
 ·have e1:lo+((0:Nat):Int)*1=lo:=by simp
  have e2:(((hi-lo).toNat:Nat):Int)-((0:Nat):Int)=uN lo hi 1:=by rw[rangeSize_one];split<;>lia
  show IsRangeIter _ _ (lo+((0:Nat):Int)*1) ((((hi-lo).toNat:Nat):Int)-((0:Nat):Int)) 1
  rw[e1,e2];exact wK _ rfl
 ·have e:b=(s.heap.push {cls:=.type "range",data:=.fields #[.int lo t,.int hi u,.int 1 v]}).objs.size:=by simpa using hb
  subst e;exact I1.jg (wq _) (I1.aH.fresh (wq _))
def EC(ta:TA):TI:=λσ H R=>ta σ H λvs H1=>∃j:Int,vs=[.int j] /\ -(2^62)<=j/\j<2^62/\R (gm 0 j.toNat) H1
def T_(ta:TA):TI:=λσ H R=>ta σ H λvs H1=>∃i j:Int,vs=[.int i,.int j]/\(-(2^62)<=i/\i<2^62 /\ -(2^62)<=j/\j<2^62)/\R (gm i (j-i).toNat) H1
theorem jW{a:Expr}{ta:TA}{p pos:Pos}(hg:Gl X "range")(hm:X.mg "range"=none)(ha:PA X [a] ta)(hs:w8 [a] X.env=[(false,eval a X.env)]:=by rfl):PI X tg (.Call (.Name "range" p) [a] [] pos) (EC ta):=by
 intro pins s σ H R I h;refine Call_ (gu I hg hm boot_range (vk (aI (ha pos pins s σ H _ I h) λus s1 ⟨vs,H1,I1,r1,q1⟩=>?_) hs rfl));obtain⟨j,e,q1,q2,q⟩:=q1;subst e;cases r1 with
 | cons r rr =>
  cases rr;obtain⟨t,rfl⟩:=r;exact call_range_1 (Mb I1 (by lia) (by lia) q1 q2 (by simpa using q))
theorem zwE{a b:Expr}{ta:TA}{p pos:Pos}(hg:Gl X "range")(hm:X.mg "range"=none)(ha:PA X [a,b] ta)(hs:w8 [a,b] X.env=[(false,eval a X.env),(false,eval b X.env)]:=by rfl)(hs2:w8 [b] X.env=[(false,eval b X.env)]:=by rfl) :
  PI X tg (.Call (.Name "range" p) [a,b] [] pos) (T_ ta):=by
 intro pins s σ H R I h;refine Call_ (gu I hg hm boot_range (vk (aI (ha pos pins s σ H _ I h) λus s1 ⟨vs,H1,I1,r1,q1⟩=>?_) (by rw[hs,hs2]) (by rw[hs2];rfl)));obtain⟨i,j,e,⟨q1,q2,q3,q4⟩,q⟩:=q1;subst e;cases r1 with
 | cons r rr =>
  cases rr with
  | cons r' rr =>
   cases rr;obtain⟨t,rfl⟩:=r;obtain⟨t',rfl⟩:=r';exact call_range_2 (Mb I1 q1 q2 q3 q4 q)
def mD(wi:TI)(g:TG)(tb:TS):TS:=λD σ H=>wi σ H λJ H1=>∃W:Nat->Nat->St->Hp->Prop,(∃m,W 0 m σ H1) /\ ∀i m σ H,W i m σ H ->
 (J.stop i H/\D.nx σ H)\/(J.go i H /\ ∃N:St->Hp->Prop,(∀σ' H',N σ' H'->∃m',m'<m/\W (i+1) m' σ' H') /\ ∀x H',J.fH i H x H'->g x σ H' λσ2 H2=>tb {D with nx:=N,ct:=N,bk:=D.nx} σ2 H2)
def rZ(fp:List we)(h:wQ):List (we × Obj):=fp.filterMap λb=>(h.get? b).map λo=>(b,o)
theorem uY{fp:List we}{h:wQ}{b:we}{o:Obj}(hb:b∈fp)(e:h.get? b=some o):(b,o)∈rZ fp h:=Qs.mpr ⟨b,hb,by rw[e];rfl⟩
theorem zw5{fp:List we}{h:wQ}{p:we × Obj}(hp:p∈rZ fp h):p.1∈fp/\h.get? p.1=some p.2:=by
 obtain⟨b,hb,e⟩:=Qs.mp hp;cases q:h.get? b with
 | none=>rw[q]at e;cases e
 | some o =>
  rw[q]at e;have e':(b,o)=p:=w6 e;subst e';exact⟨hb,q⟩
theorem Inv.pinned{pins:List (we × Obj)}{σ : St}{H:Hp}{s:wm}{fp:List we}(I:Inv X pins σ H s)(hf:∀b∈fp,eG X pins H b)(ho:∀b∈fp,∃o,s.heap.get? b=some o /\ ∀v,o.data≠.cell v):Inv X (pins++rZ fp s.heap) σ H s :=
 I.Jy λp hp=>(vW.mp hp).elim (λz=>I.pin p (vS _ z)) λz=>by
  obtain⟨hb,e⟩:=zw5 z;obtain⟨f0,f1,f2,_⟩:=hf p.1 hb;obtain⟨o,e',d⟩:=ho p.1 hb;rw[e]at e';cases e';exact⟨e,f0,f1,f2,d⟩
theorem Inv.sk{pins pl:List (we × Obj)}{σ : St}{H:Hp}{s:wm}(I:Inv X (pins++pl) σ H s):Inv X pins σ H s:=I.Jy λp hp=>I.pin p (vS _ (Wh _ hp))
theorem gA{iter:Expr}{body:List vc}{wi:TI}{g:TG}{tb:TS}{pos:Pos}(hp:PassesOwn (model X.prog X.w) X.A X.env X.xe)(hc:X.calm=true)(hi:PI X tg iter wi)(hg:PG X tg g)(hb:fv X body tb)
  (hs:∀x,foldedSetIterable iter X.env x=pure x:=by intro _;rfl):PS X (.For tg iter body [] pos) (mD wi g tb):=by
 intro pins s σ H D I h;refine wpAny_For (aI (hi pins s σ H _ I h) λv s1 h1=>aI h1 λitv s2 h2=>?_) hs;obtain⟨it,fp,tn,J,H2,e,I2,T,st2,f2,W,⟨m0,w0⟩,turn⟩:=h2;subst e
 -- what stays true of the iterator's objects through the loop
 have stat:∀{H':Hp},(∀b∈fp,H' b=none)->∀b∈fp,eG X pins H' b:=λhn b hb=>⟨hn b hb,(f2 b hb).2⟩
 refine codeAny_forLoop_any (λn s'=>∃i σ' H',Inv X pins σ' H' s'/\tn i s'.heap/\(∀b∈fp,H' b=none)/\W i n σ' H') ?_ m0 ⟨0,σ,H2,I2,st2,λb hb=>(f2 b hb).1,w0⟩;rintro n s3 ⟨i,σ3,H3,I3,st3,fr3,w3⟩;rcases turn i n σ3 H3 w3 with⟨stop,qn⟩ | ⟨go,N,hN,step⟩
 ·refine Vv hp (aI (T.done X rfl rfl rfl hc i pins s3 σ3 H3 X.xe I3 (stat fr3) st3 stop) λr s4 ⟨hr,I4⟩=>?_)
  subst hr;exact qx ⟨σ3,H3,I4,qn⟩
 ·refine Vv hp (aI (T.item X rfl rfl rfl hc i pins s3 σ3 H3 X.xe I3 (stat fr3) st3 go) λr s4 ⟨u,hr,h4⟩=>?_)
  subst hr;refine Vv hp (aI h4 λ_ s5 ⟨x,H5,I5,r5,y5,st5,fr5⟩=>?_);have I5':=I5.pinned (stat fr5) (T.obj _ _ st5);refine Vv hp (aI (hg _ s5 σ3 H5 x u _ I5' r5 (step x H5 y5)) λ_ s6 ⟨σ6,H6,I6,q6⟩=>?_);refine Vv hp (aI (hb _ s6 σ6 H6 _ I6 q6) λf s7 q7=>?_)
  have again:∀{σ7:St}{H7:Hp},Inv X (pins++rZ fp s5.heap) σ7 H7 s7->N σ7 H7->∃m,m<n /\ ∃i σ' H',Inv X pins σ' H' s7/\tn i s7.heap/\(∀b∈fp,H' b=none)/\W i m σ' H':=λ{σ7 H7} I7 n7=>by
   obtain⟨m',hm,w7⟩:=hN σ7 H7 n7;refine⟨m',hm,i+1,σ7,H7,I7.sk,T.keep _ _ _ st5 λb hb o e=>(I7.pin (b,o) (vS _ (vS _ (uY hb e)))).1,λb hb=>?_,w7⟩;obtain⟨o,e,d⟩:=T.obj _ _ st5 b hb;exact(I7.pin (b,o) (vS _ (vS _ (uY hb e)))).2.1
  cases f with
  | next=>obtain⟨σ7,H7,I7,n7⟩:=q7;exact again I7 n7
  | cont=>obtain⟨σ7,H7,I7,n7⟩:=q7;exact again I7 n7
  | brk=>obtain⟨σ7,H7,I7,q7⟩:=q7;exact⟨σ7,H7,I7.sk,q7⟩
  | ret v=>obtain⟨x7,σ7,H7,I7,r7,q7⟩:=q7;exact⟨x7,σ7,H7,I7.sk,r7,q7⟩
end
theorem zzi{K:wb}{a:we}{xs:List V}{g:TG}{tb:TS}{D:cB}{σ : St}{H:Hp}(Pv:Nat->St->Hp->Prop)(h0:Pv 0 σ H)(hl:∀i σ H,i<=xs.length->Pv i σ H->aO K H a xs)
  (hs:∀i x σ H,xs[i]? = some x->Pv i σ H->g x σ H λσ2 H2=>tb {D with nx:=Pv (i+1),ct:=Pv (i+1),bk:=D.nx} σ2 H2) (hd:∀σ H,Pv xs.length σ H->D.nx σ H) :
  ∃W:Nat->Nat->St->Hp->Prop,(∃m,W 0 m σ H) /\ ∀i m σ H,W i m σ H ->
   ((iR K a).stop i H/\D.nx σ H)\/((iR K a).go i H /\ ∃N:St->Hp->Prop,(∀σ' H',N σ' H'->∃m',m'<m/\W (i+1) m' σ' H') /\ ∀x H',(iR K a).fH i H x H'->g x σ H' λσ2 H2=>tb {D with nx:=N,ct:=N,bk:=D.nx} σ2 H2):=by
 refine⟨λi m σ H=>m=xs.length-i/\i<=xs.length/\Pv i σ H,⟨xs.length,by simp,qm _,h0⟩,?_⟩;rintro i m σ H ⟨rfl,hi,p⟩;have q:=hl i σ H hi p
 by_cases hlt:i<xs.length
 ·refine .inr ⟨⟨xs,xs[i],q,by simp[hlt]⟩,Pv (i+1),λσ' H' p'=>⟨xs.length-(i+1),by lia,rfl,hlt,p'⟩,λx H' y=>?_⟩
  obtain⟨e,y⟩:=y;subst e;exact hs i x σ _ (y xs q) p
 ·have e:i=xs.length:=by lia
  subst e;exact .inl ⟨⟨xs,q,wq _⟩,hd σ H p⟩
theorem zAU{K:wb}{a:we}{xs:List V}{g:TG}{tb:TS}{D:cB}{σ : St}{H:Hp}(Pv:Nat->St->Hp->Prop)(h0:Pv 0 σ H)(hl:∀i σ H,i<=xs.length->Pv i σ H->aV K H a xs)
  (hs:∀i x σ H,xs[i]? = some x->Pv i σ H->g x σ H λσ2 H2=>tb {D with nx:=Pv (i+1),ct:=Pv (i+1),bk:=D.nx} σ2 H2) (hd:∀σ H,Pv xs.length σ H->D.nx σ H) :
  ∃W:Nat->Nat->St->Hp->Prop,(∃m,W 0 m σ H) /\ ∀i m σ H,W i m σ H ->
   ((jt K a).stop i H/\D.nx σ H)\/((jt K a).go i H /\ ∃N:St->Hp->Prop,(∀σ' H',N σ' H'->∃m',m'<m/\W (i+1) m' σ' H') /\ ∀x H',(jt K a).fH i H x H'->g x σ H' λσ2 H2=>tb {D with nx:=N,ct:=N,bk:=D.nx} σ2 H2):=by
 refine⟨λi m σ H=>m=xs.length-i/\i<=xs.length/\Pv i σ H,⟨xs.length,by simp,qm _,h0⟩,?_⟩;rintro i m σ H ⟨rfl,hi,p⟩;have q:=hl i σ H hi p
 by_cases hlt:i<xs.length
 ·refine .inr ⟨⟨xs,xs[i],q,by simp[hlt]⟩,Pv (i+1),λσ' H' p'=>⟨xs.length-(i+1),by lia,rfl,hlt,p'⟩,λx H' y=>?_⟩
  obtain⟨e,y⟩:=y;subst e;exact hs i x σ _ (y xs q) p
 ·have e:i=xs.length:=by lia
  subst e;exact .inl ⟨⟨xs,q,wq _⟩,hd σ H p⟩
theorem Sf{lo:Int}{n:Nat}{g:TG}{tb:TS}{D:cB}{σ : St}{H:Hp}(Pv:Nat->St->Hp->Prop)(h0:Pv 0 σ H)
  (hs:∀i σ H,i<n->Pv i σ H->g (.int (lo+i)) σ H λσ2 H2=>tb {D with nx:=Pv (i+1),ct:=Pv (i+1),bk:=D.nx} σ2 H2) (hd:∀σ H,Pv n σ H->D.nx σ H) :
  ∃W:Nat->Nat->St->Hp->Prop,(∃m,W 0 m σ H) /\ ∀i m σ H,W i m σ H ->
   ((gm lo n).stop i H/\D.nx σ H)\/((gm lo n).go i H /\ ∃N:St->Hp->Prop,(∀σ' H',N σ' H'->∃m',m'<m/\W (i+1) m' σ' H') /\ ∀x H',(gm lo n).fH i H x H'->g x σ H' λσ2 H2=>tb {D with nx:=N,ct:=N,bk:=D.nx} σ2 H2):=by
 refine⟨λi m σ H=>m=n-i/\i<=n/\Pv i σ H,⟨n,by simp,qm _,h0⟩,?_⟩;rintro i m σ H ⟨rfl,hi,p⟩
 by_cases hlt:i<n
 ·refine .inr ⟨hlt,Pv (i+1),λσ' H' p'=>⟨n-(i+1),by lia,rfl,hlt,p'⟩,λx H' y=>?_⟩
  obtain⟨e,y⟩:=y;subst e y;exact hs i σ _ hlt p
 ·have e:i=n:=by lia
  subst e;exact .inl ⟨wq _,hd σ H p⟩
abbrev R2:=V->V->Hp->VK->Prop
def aJ(X:Cx)(f:wg->wg->Sem wg)(r:R2):Prop :=
 ∀(pins:List (we × Obj))(s:wm)(σ : St)(H:Hp)(x y:V)(v u:wg)(Q:VK),Inv X pins σ H s->bC x v->bC y u->r x y H Q ->
  wA (model X.prog X.w) X.A (f v u) (EP X pins σ Q) X.xe s
def BC(X:Cx)(f:wg->Sem wg)(r:V->Hp->VK->Prop):Prop :=
 ∀(pins:List (we × Obj))(s:wm)(σ : St)(H:Hp)(x:V)(v:wg)(Q:VK),Inv X pins σ H s->bC x v->r x H Q ->
  wA (model X.prog X.w) X.A (f v) (EP X pins σ Q) X.xe s
def aN(X:Cx)(f:wg)(r:List V->Hp->VK->Prop):Prop :=
 ∀(pins:List (we × Obj))(s:wm)(σ : St)(H:Hp)(xs:List V)(us:List wg)(Q:VK),Inv X pins σ H s->aT xs us->r xs H Q ->
  wA (model X.prog X.w) X.A (call f us) (EP X pins σ Q) X.xe s
def zEG(X:Cx)(r:V->Hp->(Bool->Hp->Prop)->Prop):Prop :=
 ∀(pins:List (we × Obj))(s:wm)(σ : St)(H:Hp)(x:V)(v:wg)(Q:Bool->Hp->Prop),Inv X pins σ H s->bC x v->r x H Q ->
  wA (model X.prog X.w) X.A (truthy v) (TP X pins σ Q) X.xe s
def md(r:R2)(ta tb:TE):TE:=λσ H Q=>ta σ H λx H1=>tb σ H1 λy H2=>r x y H2 Q
def ND(r:V->Hp->VK->Prop)(ta:TE):TE:=λσ H Q=>ta σ H λx H1=>r x H1 Q
def rI(C:Int->Int->Prop)(g:Int->Int->V):R2:=λx y H Q=>∃i j,x=.int i/\y=.int j/\C i j/\Q (g i j) H
def jb(g:Int->Int->V):R2:=λx y H Q=>∃i j,x=.int i/\y=.int j/\Q (g i j) H
def rU(g:Int->V):V->Hp->VK->Prop:=λx H Q=>∃i,x=.int i/\Q (g i) H
section
variable{X:Cx}{a b c:Expr}{ta tb tc:TE}{pos:Pos}
theorem EW(ha:PE X a ta)(hb:PE X b tb){pins:List (we × Obj)}{s:wm}{σ : St}{H:Hp}{R:V->V->Hp->Prop}(I:Inv X pins σ H s)
  (h:ta σ H λx H1=>tb σ H1 λy H2=>R x y H2) {Q:wg->wm->Prop} {f:wg->wg->Sem wg}
  (hf:∀v u s2 x y H2,Inv X pins σ H2 s2->bC x v->bC y u->R x y H2->wA (model X.prog X.w) X.A (f v u) Q X.xe s2) :
  wA (model X.prog X.w) X.A (eval a X.env) (λv s₁=>wA (model X.prog X.w) X.A (eval b X.env) (λu s₂=>wA (model X.prog X.w) X.A (f v u) Q X.xe s₂) X.xe s₁) X.xe s:=by
 refine aI (ha pins s σ H _ I h) λv s1 ⟨x,H1,I1,r1,q1⟩=>?_
 refine aI (hb pins s1 σ H1 _ I1 q1) λu s2 ⟨y,H2,I2,r2,q2⟩=>?_
 exact hf v u s2 x y H2 I2 r1 r2 q2
theorem aK{op:Operator}{r:R2}(ho:aJ X (WO op) r)(ha:PE X a ta)(hb:PE X b tb):PE X (.BinOp a op b pos) (md r ta tb):=by
 intro pins s σ H Q I h;exact wpAny_BinOp (EW ha hb I h λv u s2 x y H2 I2 rx ry q=>ho pins s2 σ H2 x y v u Q I2 rx ry q)
theorem gL{op:UnaryOp}{r:V->Hp->VK->Prop}(ho:BC X (unaryOp op) r)(ha:PE X a ta):PE X (.UnaryOp op a pos) (ND r ta):=by
 intro pins s σ H Q I h;exact UnaryOp_ (aI (ha pins s σ H _ I h) λv s1 ⟨x,H1,I1,r1,q1⟩=>ho pins s1 σ H1 x v Q I1 r1 q1)
theorem yH{f:wg->wg->Sem wg}{C:Int->Int->Prop}{g:Int->Int->Int}
  (rule:∀(i j:Int)(t u:Tok)(s:wm)(Q:wg->wm->Prop)(E:wg->wm->Prop),C i j->Q (.int (g i j) s.toks) {s with toks:=s.toks+1}->wA (model X.prog X.w) X.A (f (.int i t) (.int j u)) Q E s) :
  aJ X f (rI C λi j=>.int (g i j)):=by
 intro pins s σ H x y v u Q I rx ry h;obtain⟨i,j,rfl,rfl,hc,q⟩:=h;obtain⟨t,rfl⟩:=rx;obtain⟨t',rfl⟩:=ry;exact rule i j t t' s _ _ hc ⟨.int (g i j),H,I.tok _,⟨_,rfl⟩,q⟩
theorem L9{f:wg->wg->Sem wg}{g:Int->Int->Int}
  (rule:∀(i j:Int)(t u:Tok)(s:wm)(Q:wg->wm->Prop)(E:wg->wm->Prop),Q (.int (g i j) s.toks) {s with toks:=s.toks+1}->wA (model X.prog X.w) X.A (f (.int i t) (.int j u)) Q E s) :
  aJ X f (jb λi j=>.int (g i j)):=by
 intro pins s σ H x y v u Q I rx ry h;obtain⟨i,j,rfl,rfl,q⟩:=h;obtain⟨t,rfl⟩:=rx;obtain⟨t',rfl⟩:=ry;exact rule i j t t' s _ _ ⟨.int (g i j),H,I.tok _,⟨_,rfl⟩,q⟩
theorem tf{f:wg->wg->Sem wg}{g:Int->Int->Bool}
  (rule:∀(i j:Int)(t u:Tok)(s:wm)(Q:wg->wm->Prop)(E:wg->wm->Prop),Q (.bool (g i j)) s->wA (model X.prog X.w) X.A (f (.int i t) (.int j u)) Q E s) :
  aJ X f (jb λi j=>.bl (g i j)):=by
 intro pins s σ H x y v u Q I rx ry h;obtain⟨i,j,rfl,rfl,q⟩:=h;obtain⟨t,rfl⟩:=rx;obtain⟨t',rfl⟩:=ry;exact rule i j t t' s _ _ ⟨.bl (g i j),H,I,rfl,q⟩
def Kj(i j:Int):Prop:=0<=j/\j<=1000000/\i.natAbs<2^64
theorem Y2:aJ X (WO .Add) (jb λi j=>.int (i+j)):=L9 λ_ _ _ _ _ _ _ q=>add_int q
theorem r8:aJ X (WO .Sub) (jb λi j=>.int (i-j)):=L9 λ_ _ _ _ _ _ _ q=>sub_int q
theorem gP:aJ X (WO .Mod) (rI (λ_ j=>0<j) λi j=>.int (i % j)):=yH λi j _ _ _ _ _ hc q=>by
 have h1:(0:Int)<j:=hc;exact mod_int' (by lia) (by rw[Int.fmod_eq_emod_of_nonneg i (by lia)];exact q)
theorem zC1:aJ X (WO .Pow) (rI Kj λi j=>.int (i^j.toNat)):=yH λ_ _ _ _ _ _ _ hc q=>pow_int_small hc.1 hc.2.1 hc.2.2 q
theorem unI{f:wg->Sem wg}{g:Int->Int}
  (rule:∀(i:Int)(t:Tok)(s:wm)(Q:wg->wm->Prop)(E:wg->wm->Prop),Q (.int (g i) s.toks) {s with toks:=s.toks+1}->wA (model X.prog X.w) X.A (f (.int i t)) Q E s) :
  BC X f (rU λi=>.int (g i)):=by
 intro pins s σ H x v Q I rx h;obtain⟨i,rfl,q⟩:=h;obtain⟨t,rfl⟩:=rx;exact rule i t s _ _ ⟨.int (g i),H,I.tok _,⟨_,rfl⟩,q⟩
theorem gK:BC X (unaryOp .USub) (rU λi=>.int (-i)):=unI λ_ _ _ _ _ q=>neg_int q
end
section
variable{X:Cx}{a b c:Expr}{ta tb tc:TE}{pos:Pos}
theorem Nm{pins:List (we × Obj)}{σ : St}{H:Hp}{s:wm}{Q:VK}{k k':Bool}(I:Inv X pins σ H s)(q:Q (.bl k) H)(e:k=k'):EP X pins σ Q (.bool k') s:=by
 subst e;exact⟨.bl k,H,I,rfl,q⟩
theorem pP:aJ X (wN .Lt) (jb λi j=>.bl (decide (i<j))):=tf λ_ _ _ _ _ _ _ q=>lt_int q
theorem lZ:aJ X (wN .LtE) (jb λi j=>.bl (decide (i<=j))):=tf λ_ _ _ _ _ _ _ q=>le_int q
theorem mQ:aJ X (wN .Gt) (jb λi j=>.bl (decide (j<i))):=tf λ_ _ _ _ _ _ _ q=>gt_int q
theorem RC:aJ X (wN .GtE) (jb λi j=>.bl (decide (j<=i))):=tf λ_ _ _ _ _ _ _ q=>ge_int q
theorem zCz:aJ X (wN .Is) (λx y H Q=>y=.bX/\Q (.bl (decide (x=.bX))) H):=by
 intro pins s σ H x y v u Q I rx ry h;obtain⟨rfl,q⟩:=h;cases ry;refine is_none_gen (Nm I q ?_)
 cases x<;>first
  | (cases rx;rfl)
  | (obtain⟨t,rfl⟩:=rx;rfl)
theorem aJ.or{f:wg->wg->Sem wg}{r r':R2}(h:aJ X f r)(h':aJ X f r'):aJ X f (λx y H Q=>r x y H Q\/r' x y H Q):=by
 intro pins s σ H x y v u Q I rx ry q;rcases q with q | q
 ·exact h pins s σ H x y v u Q I rx ry q
 ·exact h' pins s σ H x y v u Q I rx ry q
theorem bA(b:Expr){op:CmpOp}(h:op≠.In:=by decide)(h2:op≠.NotIn:=by decide):behindInMarks op b=false:=by
 have e1:(op == CmpOp.In)=false:=by cases op<;>first | rfl | exact absurd rfl h
 have e2:(op == CmpOp.NotIn)=false:=by cases op<;>first | rfl | exact absurd rfl h2
 cases b<;>simp[behindInMarks,e1,e2]
theorem fg{op:CmpOp}{r:R2}(ho:aJ X (wN op) r)(ha:PE X a ta)(hb:PE X b tb)(hm:behindInMarks op b=false):PE X (.Compare a [op] [b] pos) (md r ta tb):=by
 intro pins s σ H Q I h;exact wpAny_Compare1 (EW ha hb I h λv u s2 x y H2 I2 rx ry q=>ho pins s2 σ H2 x y v u Q I2 rx ry q) hm
def DN(t:TE):TT:=λσ H Q=>t σ H λx H'=>∃k,x=.bl k/\Q k H'
theorem bY{op:CmpOp}{r:R2}(ho:aJ X (wN op) r)(ha:PE X a ta)(hb:PE X b tb)(hm:behindInMarks op b=false):PT X (.Compare a [op] [b] pos) (DN (md r ta tb)):=by
 intro pins s σ H Q I h
 refine wpAny_isTrue_Compare1 (aI (ha pins s σ H _ I h) λv s1 ⟨x,H1,I1,r1,q1⟩=>aI (hb pins s1 σ H1 _ I1 q1) λu s2 ⟨y,H2,I2,r2,q2⟩ =>
  aI (ho pins s2 σ H2 x y v u _ I2 r1 r2 q2) λc s3 ⟨z,H3,I3,r3,k,e,q3⟩=>?_) hm
 subst e;cases r3;exact Wn ⟨H3,I3,q3⟩
def Ge(r r':R2)(ta tb tc:TE):TE:=λσ H Q=>ta σ H λx H1=>tb σ H1 λy H2=>r x y H2 λz H3=>∃k,z=.bl k /\
 (if k=true then tc σ H3 λw' H4=>r' y w' H4 Q else Q (.bl false) H3)
theorem zxx{op op':CmpOp}{r r':R2}(ho:aJ X (wN op) r)(ho':aJ X (wN op') r')(ha:PE X a ta)(hb:PE X b tb)(hc:PE X c tc)
  (hm:lastMarks [op,op'] [b,c]=false:=by with_unfolding_all rfl):PE X (.Compare a [op,op'] [b,c] pos) (Ge r r' ta tb tc):=by
 intro pins s σ H Q I h
 refine Compare_chain (aI (ha pins s σ H _ I h) λv s1 ⟨x,H1,I1,r1,q1⟩=>chain_link (aI (hb pins s1 σ H1 _ I1 q1) λu s2 ⟨y,H2,I2,r2,q2⟩ =>
  aI (ho pins s2 σ H2 x y v u _ I2 r1 r2 q2) λd s3 ⟨z,H3,I3,r3,k,e,q3⟩=>?_)) hm
 subst e;cases r3;refine Wn ?_;cases k with
 | false=>exact ite_ff ⟨.bl false,H3,I3,rfl,q3⟩
 | true=>exact ite_tt (chain_last (aI (hc pins s3 σ H3 _ I3 q3) λw' s4 ⟨z',H4,I4,r4,q4⟩=>ho' pins s4 σ H4 y z' u w' Q I4 r2 r4 q4))
theorem zxF{op op':CmpOp}{r r':R2}(ho:aJ X (wN op) r)(ho':aJ X (wN op') r')(ha:PE X a ta)(hb:PE X b tb)(hc:PE X c tc)
  (hm:lastMarks [op,op'] [b,c]=false:=by with_unfolding_all rfl):PT X (.Compare a [op,op'] [b,c] pos) (DN (Ge r r' ta tb tc)):=by
 intro pins s σ H Q I h
 refine isTrue_chain (aI (ha pins s σ H _ I h) λv s1 ⟨x,H1,I1,r1,q1⟩=>test_link (aI (hb pins s1 σ H1 _ I1 q1) λu s2 ⟨y,H2,I2,r2,q2⟩ =>
  aI (ho pins s2 σ H2 x y v u _ I2 r1 r2 q2) λd s3 ⟨z,H3,I3,r3,k,e,q3⟩=>?_)) hm
 subst e;cases r3;refine Wn ?_;cases k with
 | false =>
  obtain⟨k',e',q'⟩:=q3;cases e';exact ite_ff ⟨H3,I3,q'⟩
 | true =>
  refine ite_tt (test_last (aI (hc pins s3 σ H3 _ I3 q3) λw' s4 ⟨z',H4,I4,r4,q4⟩=>aI (ho' pins s4 σ H4 y z' u w' _ I4 r2 r4 q4) λd' s5 ⟨z2,H5,I5,r5,k2,e2,q5⟩=>?_));subst e2;cases r5;exact Wn ⟨H5,I5,q5⟩
def Fq(K:wb)(x:V)(H:Hp)(k:Bool):Prop :=
 match x with
 | .bX=>k=false
 | .bl b=>k=b
 | .int i=>k=(i != 0)
 | .str y=>y.length<=ve/\k=((y.length:Int) != 0)
 | .byt y=>y.size<=ve/\k=((y.size:Int) != 0)
 | .ref p=>(∃xs,aO K H p xs/\k = !xs.isEmpty)\/(∃xs,aV K H p xs/\k = !xs.isEmpty) \/ ∃kvs,H p=some (.dK kvs)/\k = !kvs.isEmpty
 | _=>False
theorem Z0{κ : Type}{kvs:List (κ × V)}{vs:List (κ × wg)}(r:KV kvs vs):(!vs.isEmpty) = !kvs.isEmpty:=by
 cases r<;>rfl
theorem Pf{xs:List V}{its:List wg}(r:aT xs its):(!its.toArray.isEmpty) = !xs.isEmpty:=by
 cases r<;>simp
theorem mT:(ve:Nat)<2^63:=by rw[sizeLine_eq];decide
theorem zDb:zEG X (λx H Q=>∃k,Fq X.K x H k/\Q k H):=by
 intro pins s σ H x v Q I rx h;obtain⟨k,e,q⟩:=h;have hl:=mT;have hs:ve=16777216:=sizeLine_eq;cases x with
 | bX =>
  cases rx;have e':k=false:=e;subst e';exact truthy_none ⟨H,I,q⟩
 | bl b =>
  cases rx;have e':k=b:=e;subst e';exact Wn ⟨H,I,q⟩
 | int i =>
  obtain⟨t,rfl⟩:=rx;have e':k=(i != 0):=e;subst e';exact PySem.P.truthy_int ⟨H,I,q⟩
 | str y =>
  obtain⟨t,rfl⟩:=rx;obtain⟨hy,e'⟩:y.length<=ve/\k=((y.length:Int) != 0):=e;subst e';exact PySem.P.truthy_str (by lia) ⟨H,I.tok _,q⟩
 | byt y =>
  obtain⟨t,rfl⟩:=rx;obtain⟨hy,e'⟩:y.size<=ve/\k=((y.size:Int) != 0):=e;subst e';exact PySem.W.truthy_bytes (by lia) ⟨H,I.tok _,q⟩
 | ref p =>
  cases rx;have e':(∃xs,aO X.K H p xs/\k = !xs.isEmpty)\/(∃xs,aV X.K H p xs/\k = !xs.isEmpty) \/ ∃kvs,H p=some (.dK kvs)/\k = !kvs.isEmpty:=e;rcases e' with⟨xs,hx,e'⟩ | ⟨xs,hx,e'⟩ | ⟨kvs,hx,e'⟩
  ·subst e'
   obtain⟨its,r,pl,hz⟩:=I.list hx;have hlen:=r.length;exact wpAny_truthy_list pl.isList (by simp only[wR];lia) ⟨H,I.tok _,by rw[Pf r];exact q⟩
  ·subst e'
   obtain⟨its,r,pl,hz⟩:=I.tuple hx;have hlen:=r.length;exact truthy_tuple pl (by simp only[wR];lia) ⟨H,I.tok _,by rw[Pf r];exact q⟩
  ·subst e'
   obtain⟨hz,hS,vs,r,m⟩:kvs.length<=ve/\(p == sysModules)=false /\ ∃vs,KV kvs vs/\s.heap.DictOf (Fn X.prog X.w) p vs:=I.aH p _ hx;have hlen:kvs.length=vs.length:=uA r;exact wpAny_truthy_dict hS m (by lia) ⟨H,I.tok _,by rw[Z0 r];exact q⟩
 | _=>exact(show False from e).elim
theorem zyq(ha:PE X a ta)(he:∀whole,isTrue a X.env whole=(do let v <- whole;standAt a.pos;holding [v] (truthy v))) :
  PT X a (λσ H Q=>ta σ H λx H'=>∃k,Fq X.K x H' k/\Q k H'):=by
 intro pins s σ H Q I h;exact isTrue_plain (aI (ha pins s σ H _ I h) λv s1 ⟨x,H1,I1,r1,q1⟩=>zDb pins s1 σ H1 x v Q I1 r1 q1) (he _)
theorem ztG:aJ X (WO .Add) (λx y H Q=>∃i j,x=.str i/\y=.str j/\i.length+j.length<=ve/\Q (.str (i++j)) H):=by
 intro pins s σ H x y v u Q I rx ry h;obtain⟨i,j,rfl,rfl,hz,q⟩:=h;obtain⟨t,rfl⟩:=rx;obtain⟨t',rfl⟩:=ry;exact add_str (λt' tk=>⟨.str (i++j),H,I.tok _,⟨_,rfl⟩,q⟩) hz
theorem gW{x:V}{us:List wg}(r:aT [x] us):∃u,us=[u]/\bC x u:=by
 cases r with
 | cons r1 r2=>cases r2;exact⟨_,rfl,r1⟩
theorem jV{x y:V}{us:List wg}(r:aT [x,y] us):∃u w',us=[u,w']/\bC x u/\bC y w':=by
 cases r with
 | cons r1 r2 =>
  cases r2 with
  | cons r3 r4=>cases r4;exact⟨_,_,rfl,r1,r3⟩
theorem zzd:aN X (.builtin "abs") (λxs H Q=>∃i,xs=[.int i]/\Q (.int (if i<0 then -i else i)) H):=by
 intro pins s σ H xs us Q I r h;obtain⟨i,rfl,q⟩:=h;obtain⟨u,rfl,t,rfl⟩:=gW r;exact call_abs_int λu tk=>⟨.int (if i<0 then -i else i),H,I.tok _,⟨_,rfl⟩,q⟩
theorem zwC:aN X (.type "int") (λxs H Q=>(∃i,xs=[.int i]/\Q (.int i) H) \/ ∃k,xs=[.bl k]/\Q (.int (if k then 1 else 0)) H):=by
 intro pins s σ H xs us Q I r h;rcases h with⟨i,rfl,q⟩ | ⟨k,rfl,q⟩
 ·obtain⟨u,rfl,t,rfl⟩:=gW r
  exact call_int_int ⟨.int i,H,I,⟨_,rfl⟩,q⟩
 ·obtain⟨u,rfl,r1⟩:=gW r
  cases r1;exact call_int_bool ⟨.int (if k then 1 else 0),H,I.tok _,⟨_,rfl⟩,q⟩
end
section
variable{prog:wS}{w:wW}{A:vb}{E:wg->wm->Prop}{s:wm}{K:wb}{x dx C f:we}{mA:Str->Option wg}{name:Str}{v:wg}
end
section
variable{P:wS}{w:wW}{H H':Hp}{h h':wQ}{a C dx:we}{fs fs':List (Str × V)}
end
section
variable{X:Cx}{pins:List (we × Obj)}{σ : St}{H:Hp}{s:wm}{a C dx:we}{fs:List (Str × V)}{f:Str}{v:V}{A:vb}{E:wg->wm->Prop}
end
section
variable{X:Cx}{o e value:Expr}{f:Str}{pos pos' tpos:Pos}{ta tv:TE}
end
section
variable{X:Cx}{pins:List (we × Obj)}{σ : St}{H:Hp}{s:wm}{A:vb}{E:wg->wm->Prop}{Q:wg->wm->Prop}{c:wg}{b:Bool}
end
structure dP(k:Nat)(A:vb):Prop where
 hd:A.handled=none
 dp:A.depth+3*k+5<recursionLimit
 un:A.units+16*k+200<WM
 gd:A.guards=some []
theorem dP.mono{j k:Nat}{A:vb}(r:dP k A)(h:j<=k):dP j A:=⟨r.hd,by have:=r.dp;lia,by have:=r.un;lia,by first | exact r.gd | (simp[uL,Code.guards,uM,guardIds];exact r.gd)⟩
theorem dP.deeper{k:Nat}{A:vb}(r:dP (k+1) A)(env:Env):dP k (A.deeper env) :=
 ⟨r.hd,by have:=r.dp;show A.depth+1+3*k+5<_;lia,by have:=r.un;show A.units+3+16*k+200<_;lia,by first | exact r.gd | (simp[uL,Code.guards,uM,guardIds];exact r.gd)⟩
theorem dP.depth{k:Nat}{A:vb}(r:dP k A):A.depth<recursionLimit:=by have:=r.dp;lia
theorem dP.units{k:Nat}{A:vb}(r:dP k A):A.units+64<WM:=by have:=r.un;lia
def pQ:TA:=λ_ H Q=>Q [] H
def pI(ta:TE)(tr:TA):TA:=λσ H Q=>ta σ H λx H1=>tr σ H1 λxs H2=>Q (x::xs) H2
section
variable{X:Cx}{e:Expr}{es:List Expr}{te:TE}{t:TA}{pos:Pos}
theorem af:PA X [] pQ:=λ_ _ _ _ H Q I h=>QL ⟨[],H,I,.nil,h⟩
theorem ae(ha:PE X e te)(hr:PA X es t)(hs:w8 (e::es) X.env=(false,eval e X.env)::w8 es X.env:=by rfl):PA X (e::es) (pI te t):=by
 intro pos pins s σ H Q I h;rw[hs]
 show wA _ _ (spliced ((false,eval e X.env)::VQ pos (w8 es X.env))) _ _ s
 refine Qt (aI (ha pins s σ H _ I h) λu s1 ⟨x,H1,I1,r1,q1⟩=>?_);exact aI (hr pos pins s1 σ H1 _ I1 q1) λus s2 ⟨xs,H2,I2,r2,q2⟩=>⟨x::xs,H2,I2,.cons r1 r2,q2⟩
def zEH(t:TA):TE:=λσ H Q=>t σ H λxs H1=>xs.length<=ve /\ ∀p,H1 p=none->Q (.ref p) (upd H1 p (.tup xs))
def zEx(t:TA):TE:=λσ H Q=>t σ H λxs H1=>xs.length<=ve /\ ∀p,H1 p=none->Q (.ref p) (upd H1 p (.lst xs))
theorem Z1{x1}(h:PA X es t):PE X (.Tuple es x1 pos) (zEH t):=by
 intro pins s σ H Q I hq;refine wpAny_Tuple_spliced (aI (h pos pins s σ H _ I hq) λus s1 ⟨xs,H1,I1,r,z,q⟩=>⟨by rw[<- r.length];exact z,?_⟩);have hf:H1 s1.heap.objs.size=none:=I1.aH.fresh (wq _);refine⟨.ref s1.heap.objs.size,upd H1 s1.heap.objs.size (.tup xs),I1.laid (t':=s1.toks) (λb u e=>wp _ e) (wq _) ?_,rfl,q _ hf⟩;exact⟨z,us,r,⟨_,wK _ rfl,rfl,_,rfl⟩⟩
theorem zCj(h:PA X es t):PE X (.List es pos) (zEx t):=by
 intro pins s σ H Q I hq;refine wpAny_List_spliced (aI (h pos pins s σ H _ I hq) λus s1 ⟨xs,H1,I1,r,z,q⟩=>⟨by rw[<- r.length];exact z,?_⟩);have hf:H1 s1.heap.objs.size=none:=I1.aH.fresh (wq _);refine⟨.ref s1.heap.objs.size,upd H1 s1.heap.objs.size (.lst xs),I1.laid (t':=s1.toks) (λb u e=>wp _ e) (wq _) ?_,rfl,q _ hf⟩;exact⟨z,us,0,r,wK _ rfl⟩
end
abbrev Sp:=List V->Hp->VK->XK->Prop
abbrev fR:=List Env->Hp->wm->XK->wg->wm->Prop
structure pZ(P:wS)(w:wW)(K:wb)(mg:Str->Option wg)(base:wQ)(A:vb)(outer:List Env)(s:wm)(H:Hp):Prop where
 frames:A.frames=some outer
 mod:Mod K mg base
 bs:∀b o,base.get? b=some o->s.heap.get? b=some o/\H b=none
 gX:base.objs.size<=s.heap.objs.size
 eK:s.heap.FunFrames base outer
 iC:∀b∈dH outer,H b=none
 aH:c7 P w H s.heap
 bare:AllBare s.gens
def CE(outer:List Env)(P:wS)(w:wW)(H:Hp)(s:wm)(Q:VK)(u:wg)(s':wm):Prop :=
 ∃v H',s'.os=s.os/\AllBare s'.gens/\Un (dH outer) [] H H' s.heap s'.heap/\c7 P w H' s'.heap/\bC v u/\Q v H'
def CR(CX:fR)(outer:List Env)(P:wS)(w:wW)(H:Hp)(s:wm)(Q:VK)(E:XK)(r:Result)(s':wm):Prop :=
 match r with
 | .ok (.ret u)=>CE outer P w H s Q u s'
 | .ok _=>False
 | .error e=>CX outer H s E e s'
structure aP(P:wS)(w:wW)(K:wb)(mg:Str->Option wg)(base:wQ)(CX:fR)(k:Nat)(f:we)(fd:wE)(ps:List Str)(sp:Sp):Prop where
 len:∀vs H Q E,sp vs H Q E->vs.length=ps.length
 run:∀(A:vb)(outer:List Env)(s:wm)(H:Hp)(args:Args)(us:List wg)(vs:List V)(Q:VK)(E:XK),dP k A->pZ P w K mg base A outer s H->BindsTo s fd args (ps.zip us)->aT vs us->sp vs H Q E ->
   codeAny (model P w) A (.call (.ref f) args) (CR CX outer P w H s Q E) s
section
variable{X:Cx}{pins:List (we × Obj)}{σ : St}{H:Hp}{s s':wm}
theorem Inv.BA(I:Inv X pins σ H s):pZ X.prog X.w X.K X.mg X.base X.A X.stack s H :=
 ⟨I.ok.frames,I.ok.mod,I.bs,Wm I.ok.gX I.sz,I.stack,I.sx,I.aH,I.bare⟩
theorem Inv.after{Q:VK}{u:wg}(I:Inv X pins σ H s)(h:CE X.stack X.prog X.w H s Q u s'):EP X pins σ Q u s':=by
 obtain⟨v,H',os,bare,un,aH,r,q⟩:=h;obtain⟨hh,g,d,t,os'⟩:=s';obtain rfl:os'=s.os:=os;exact⟨v,H',I.call (h':=hh) (g':=g) (d':=d) (t':=t) (ch:=[]) un aH bare (λb z=>absurd z (by simp)),r,q⟩
end
def l8(sp:Sp)(dvs:List V)(E:XK)(t:TA):TE:=λσ H Q=>t σ H λvs H1=>sp (vs++dvs) H1 Q E
def k8(K:wb)(fd:wE)(ps:List Str)(ds:List wg):Prop :=
 ∀(s:wm)(us:List wg),K.In s.heap->(us++ds).length=ps.length->BindsTo s fd ⟨us,[]⟩ (ps.zip (us++ds))
theorem k8.all{K:wb}{fd:wE}{ps:List Str}(h:∀us:List wg,us.length=ps.length->bindArgs fd ⟨us,[]⟩=pure (ps.zip us)):k8 K fd ps []:=λs us _ hl=>by
 rw[Wc]at hl ⊢;exact .of_eq (h us hl)
def nE(CX:fR)(X:Cx)(E:XK):Prop:=∀(pins:List (we × Obj))(σ : St)(H:Hp)(s:wm)(e:wg)(s':wm),Inv X pins σ H s->CX X.stack H s E e s'->X.xe e s'
section
variable{X:Cx}{CX:fR}{k:Nat}{f C:we}{fd:wE}{ps:List Str}{sp:Sp}{dvs:List V}{ds:List wg}{E:XK}{x m:Str}{p pos apos:Pos}{e o:Expr}{es:List Expr}{ta:TE}{t:TA}
theorem zCv{pins:List (we × Obj)}{σ : St}{H:Hp}{s:wm}{Q:VK}{us:List wg}{vs:List V}(F:aP X.prog X.w X.K X.mg X.base CX k f fd ps sp)(hr:dP k X.A)(hb:k8 X.K fd ps ds)(hd:aT dvs ds)(hx:nE CX X E)
  (I:Inv X pins σ H s) (r:aT vs us) (h:sp (vs++dvs) H Q E):wA (model X.prog X.w) X.A (call (.ref f) us) (EP X pins σ Q) X.xe s:=by
 have r2:aT (vs++dvs) (us++ds):=r.append hd;have hl:(us++ds).length=ps.length:=by rw[<- r2.length];exact F.len _ _ _ _ h
 refine wpAny_call (codeAny_mono (F.run X.A X.stack s H ⟨us,[]⟩ (us++ds) (vs++dvs) Q E hr I.BA (hb s us I.c9 hl) r2 h) λr s' hq=>?_);cases r with
 | error e=>exact hx pins σ H s e s' I hq
 | ok fl =>
  cases fl with
  | ret u=>exact I.after hq
  | next=>exact Wp hq
  | brk=>exact Wp hq
  | cont=>exact Wp hq
theorem Ub(F:aP X.prog X.w X.K X.mg X.base CX k f fd ps sp)(hr:dP k X.A)(hg:Gl X x)(hm:X.mg x=some (.ref f))(hk:V7 X.K (.ref f)=true)(hb:k8 X.K fd ps ds)(hd:aT dvs ds)(hx:nE CX X E)
  (ha:PA X (e::es) t) (hdb:(x == ("__debug__" : Str))=false:=by decide) (he:w8 (e::es) X.env=(false,eval e X.env)::w8 es X.env:=by rfl) (hpl:(VQ pos (w8 es X.env)).any (·.1)=false:=by rfl) :
  PE X (.Call (.Name x p) (e::es) [] pos) (l8 sp dvs E t):=by
 intro pins s σ H Q I h;refine V1 (nX I hg hm ?_ hdb);refine Qu (h₀:=X.base) I.ok.mod.lB hk (aI (ha pos pins s σ H _ I h) λus s1 ⟨vs,H1,I1,r,q⟩=>⟨I1.c9,?_⟩) he hpl;exact zCv F hr hb hd hx I1 r q
end
section
variable{X:Cx}{CX:fR}{k:Nat}{f C:we}{fd:wE}{ps ks:List Str}{sp:Sp}{E:XK}{x m:Str}{p pos apos kpos:Pos}{e o:Expr}{es:List Expr}{kws:List Keyword}{te ta:TE}{t tk:TA}{nm:Option Str}
variable{g:List wg->List wg->List wg}{gV:List V->List V->List V}
end
structure aQ(N P:List Str)(sc:Scope):Prop where
 kind:sc.kind=.function
 co:sc.isCoroutine=false
 gen:sc.isGenerator=false
 nd:N.Nodup
 pre:N.take P.length=P
 par:∀x∈P,sc.names.lookup x=some .local\/sc.names.lookup x=some .cell
 Yn:∀y∈sc.names,y.2≠.free
theorem Na{kindOf:Str->Option WW}{x:Str} : ∀{binds:List (Str × wg)}{m:Str->Option wg},(∀v,(x,v) ∉ binds)->bindL kindOf binds m x=m x
 | [],_,_=>rfl
 | (n,v)::r,m,h=>by
  unfold bindL;rw[Na λw hw=>h w (wF _ hw)]
  split
  ·have:x≠n:=by rintro rfl;exact h v wG
   simp[this]
  ·rfl
theorem Ss{kindOf:Str->Option WW}{x:Str} : ∀{binds:List (Str × wg)}{m:Str->Option wg},(∀v,(x,v) ∉ binds)->bindC kindOf binds m x=m x
 | [],_,_=>rfl
 | (n,v)::r,m,h=>by
  unfold bindC;rw[Ss λw hw=>h w (wF _ hw)]
  split
  ·rfl
  ·have:x≠n:=by rintro rfl;exact h v wG
   simp[this]
theorem Mt{kindOf:Str->Option WW}{x:Str}{v:wg} : ∀{P:List Str}{vs:List wg}{i:Nat}{m:Str->Option wg},P.Nodup->P[i]? = some x->vs[i]? = some v->kindOf x=some .local ->
  bindL kindOf (P.zip vs) m x=some v
 | [],_,_,_,_,h,_,_=>by simp at h
 | _::_,[],_,_,_,_,h,_=>by simp at h
 | p::P,w::vs,0,m,nd,h1,h2,hk=>by
  simp at h1 h2;subst h1;subst h2
  show bindL kindOf ((p,w)::P.zip vs) m p=_
  unfold bindL;rw[Na λv hv=>(WH.mp nd).1 (Qa hv).1,if_pos hk];simp
 | p::P,w::vs,i+1,m,nd,h1,h2,hk=>by
  show bindL kindOf ((p,w)::P.zip vs) m x=_
  unfold bindL;exact Mt (i:=i) (WH.mp nd).2 (by simpa using h1) (by simpa using h2) hk
theorem TQ{kindOf:Str->Option WW}{x:Str}{v:wg} : ∀{P:List Str}{vs:List wg}{i:Nat}{m:Str->Option wg},P.Nodup->P[i]? = some x->vs[i]? = some v->kindOf x≠some .local ->
  bindC kindOf (P.zip vs) m x=some v
 | [],_,_,_,_,h,_,_=>by simp at h
 | _::_,[],_,_,_,_,h,_=>by simp at h
 | p::P,w::vs,0,m,nd,h1,h2,hk=>by
  simp at h1 h2;subst h1;subst h2
  show bindC kindOf ((p,w)::P.zip vs) m p=_
  unfold bindC;rw[Ss λv hv=>(WH.mp nd).1 (Qa hv).1,if_neg hk];simp
 | p::P,w::vs,i+1,m,nd,h1,h2,hk=>by
  show bindC kindOf ((p,w)::P.zip vs) m x=_
  unfold bindC;exact TQ (i:=i) (WH.mp nd).2 (by simpa using h1) (by simpa using h2) hk
def start(N:List Str)(vs:List V):St:=vs.map some++Vf (N.length-vs.length) none
def gU(CX:fR)(P:wS)(w:wW)(K:wb)(mg:Str->Option wg)(base:wQ)(N:List Str)(qual:Str)(scope:Scope)(f:we)(cd:wg)(A:vb)(outer:List Env)(s:wm)(H:Hp)(E:XK):Cx where
 prog:=P
 w:=w
 K:=K
 mg:=mg
 base:=base
 A:=A.deeper (envOfC qual scope s.heap.objs.size f cd)
 N:=N
 s₀:=s
 H₀:=H
 env:=envOfC qual scope s.heap.objs.size f cd
 outer:=outer
 stack:=envOfC qual scope s.heap.objs.size f cd::outer
 ex:=[]
 calm:=true
 fn:=λ_=>true
 pn:=[]
 xe:=λe s'=>wA (model P w) (A.deeper (envOfC qual scope s.heap.objs.size f cd)) (leaving (envOfC qual scope s.heap.objs.size f cd) e) (λ_ s''=>CX outer H s E e s'') (λe' s''=>CX outer H s E e' s'') s'
theorem Ey{sc:Scope}{n:Nat}{x:Str}(h:sc.names.lookup x=some .cell):∃c,(cellsFrom n sc.names []).lookup x=some c:=by
 have q:=qR sc.names n [] (.inl h);exact VJ.mp q
theorem N1{CX:fR}{P:wS}{w:wW}{K:wb}{mg:Str->Option wg}{base:wQ}{N ps:List Str}{qual:Str}{scope:Scope}{f:we}{cd:wg}{A:vb}{outer:List Env}{s s1:wm}{H:Hp}{E:XK}{us:List wg}{vs:List V}
  (S:aQ N ps scope) (hd:A.handled=none) (e0:pZ P w K mg base A outer s H) (hl:vs.length=ps.length) (r:aT vs us)
  (x:InCallC s s.heap.objs.size (bindL (envOfC qual scope s.heap.objs.size f cd).kindOf (ps.zip us) λ_=>none) (cellsFrom (s.heap.objs.size+1) scope.names []) (bindC (envOfC qual scope s.heap.objs.size f cd).kindOf (ps.zip us) λ_=>none) s1) :
  Inv (gU CX P w K mg base N qual scope f cd A outer s H E) [] (start N vs) H s1:=by
 have hpl:ps.length<=N.length:=by have:=congrArg Xx S.pre;rw[WD]at this;lia
 obtain⟨h1,tk,rfl,hk⟩:=x.done;have noA:∀b:we,b ∉ (gU CX P w K mg base N qual scope f cd A outer s H E).ex:=λb z=>absurd (show b∈([]:List we)from z) (by simp)
 refine⟨⟨e0.mod,S.kind,rfl,rfl,wq _,λy z c h1 h2=>?_,λy hy=>?_,λy c _ h=>?_,λ_=>hd,xy e0.frames,.inr ⟨rfl,rfl⟩,λb z=>absurd z (noA b),e0.bs,e0.gX,λb _ _=>noA b,λb z=>absurd z (noA b),e0.eK,e0.iC⟩,
  rfl,e0.bare,Un.kept hk,⟨_,x.toInCall.ns,λi y v h1 h2 h3=>?_⟩,λy c h=>⟨_,x.cell y c h⟩,e0.aH.fresh (wq _),λy c h=>?_,λp hp=>absurd (show p∈([]:List (we × Obj))from hp) (by simp),e0.aH.kept hk,?_⟩
 ·exact name_of_addr x.apart (Vd h1) (Vd h2)
 ·have hy:scope.names.lookup y=some .cell\/scope.names.lookup y=some .free:=hy
  rcases hy with hy | hy
  ·exact Ey hy
  ·exact absurd rfl (S.Yn _ (Vd hy))
 ·exact Vp (x.above y c (Vd h))
 ·have hi:i<vs.length:=by
   unfold start at h2
   by_cases hi:i<vs.length
   ·exact hi
   ·rw[vf (by simpa using hi)]at h2
    rw[Q0]at h2
    split at h2<;>cases h2
  have ha:vs[i]? = some v:=by
   unfold start at h2;rw[vO (by simpa using hi),wu]at h2;cases e:vs[i]? with
   | none=>rw[e]at h2;cases h2
   | some a=>rw[e]at h2;cases h2;rfl
  obtain⟨u,hu,rv⟩:=r.get ha
  have hp:ps[i]? = some y:=by
   rw[<- S.pre,List.getElem?_take_of_lt (by lia)];exact h1
  have ndP:ps.Nodup:=by rw[<- S.pre];exact S.nd.sublist (Xh _ _)
  refine⟨u,rv,?_⟩;rcases S.par y (xz hp)with k | k
  ·exact .inl ⟨k,Mt ndP hp hu k⟩
  ·obtain⟨c,e⟩:=Ey (n:=s.heap.objs.size+1) k
   refine .inr ⟨.inl k,c,e,?_⟩;have q:=x.cell y c e;rw[TQ ndP hp hu (by show scope.names.lookup y≠_;rw[k];decide)]at q;exact q
 ·exact e0.aH.fresh (Vp (x.above y c (Vd h)))
 ·unfold start
  show _=N.length
  rw[wX,wo,WX]
  lia
theorem M0{CX:fR}{P:wS}{w:wW}{K:wb}{mg:Str->Option wg}{base:wQ}{k:Nat}{f:we}{name qual:Str}{params:Arguments}{body:List vc}{scope:Scope}{dV kV doc pm cdv ct oc:wg}{an od:Option we}
  {osl:Array (Option wg)} {N ps:List Str} {sp:Sp} (lk:K.lookup f=some ⟨oc,od,.func (VL name qual params body scope dV kV doc pm an cdv ct),osl⟩) (hcd:Qm K cdv qual=true) (S:aQ N ps scope)
  (len:∀vs H Q E,sp vs H Q E->vs.length=ps.length)
  (hbody:∀(A:vb)(outer:List Env)(s:wm)(H:Hp)(vs:List V)(Q:VK)(E:XK),dP k (A.deeper (envOfC qual scope s.heap.objs.size f cdv))->sp vs H Q E ->
   ∃t,fv (gU CX P w K mg base N qual scope f cdv A outer s H E) body t/\t {nx:=λ_ H'=>Q .bX H',rt:=Q} (start N vs) H) :
  aP P w K mg base CX (k+1) f (VL name qual params body scope dV kV doc pm an cdv ct) ps sp:=by
 refine⟨len,λA outer s H args us vs Q E hr e0 hb r hsp=>?_⟩;have hl:=len _ _ _ _ hsp;have KX:K.In s.heap:=e0.mod.lB.keeps λb o e=>(e0.bs b o e).1
 have lim:s.heap.NoLimit:=e0.mod.nolimit.keeps λb o e=>(e0.bs b o e).1
 have hkind:∀y∈ps.zip us,scope.names.lookup y.1=some .local\/(scope.names.lookup y.1=some .cell/\((cellsFrom (s.heap.objs.size+1) scope.names []).lookup y.1).isSome=true):=λ⟨n,v⟩ hy=>by
  rcases S.par n (Qa hy).1 with q | q
  ·exact .inl q
  ·exact .inr ⟨q,qR _ _ _ (.inl q)⟩
 refine codeAny_call_function hr.depth (KX _ _ lk) rfl S.co S.gen rfl (xY KX hcd) (hb _ _ _ _ ?_);refine wpAny_newFunctionEnv_cells S.kind hkind λenv he s1 x=>?_
 subst he;refine⟨lim.keeps x.toInCall.keep,codeAny_func ?_⟩;obtain⟨t,ht,hq⟩:=hbody A outer s H vs Q E (hr.deeper _) hsp;have I:Inv (gU CX P w K mg base N qual scope f cdv A outer s H E) [] (start N vs) H s1:=N1 S hr.hd e0 hl r x;refine Wr (ht [] s1 (start N vs) H _ I hq) (λfl s' hs=>?_) λe s' hs=>hs
 have fin:∀{σ':St}{H':Hp}{v:V}{u:wg},Inv (gU CX P w K mg base N qual scope f cdv A outer s H E) [] σ' H' s'->bC v u->Q v H'->CE outer P w H s Q u s' :=
  λ{σ' H' v u} J rv q=>⟨v,H',J.os,J.bare,J.base,J.aH,rv,q⟩
 cases fl with
 | ret u =>
  obtain⟨v,σ',H',J,rv,q⟩:=hs;exact fin J rv q
 | next =>
  obtain⟨σ',H',J,q⟩:=hs;exact fin (v:=V.bX) (u:=Value.none) J rfl q
 | brk =>
  obtain⟨_,_,_,q⟩:=hs;exact Wp q
 | cont =>
  obtain⟨_,_,_,q⟩:=hs;exact Wp q
section
variable{X:Cx}{x:Str}{p pos:Pos}{e:Expr}{es:List Expr}{t:TA}{id T:String}{r:List V->Hp->VK->Prop}
def Ei(r:List V->Hp->VK->Prop)(t:TA):TE:=λσ H Q=>t σ H λvs H1=>r vs H1 Q
theorem br(hc:aN X (.builtin id) r)(hg:Gl X x)(hm:X.mg x=none)(hv:vI x=some (.builtin id))(ha:PA X (e::es) t)(hn:x≠"__name__":=by decide)(hdb:(x == ("__debug__" : Str))=false:=by decide)
  (he:w8 (e::es) X.env=(false,eval e X.env)::w8 es X.env:=by rfl) (hpl:(VQ pos (w8 es X.env)).any (·.1)=false:=by rfl):PE X (.Call (.Name x p) (e::es) [] pos) (Ei r t):=by
 intro pins s σ H Q I h;refine V1 (gu I hg hm hv ?_ hn hdb);exact PyProof.Rows.callWith_builtin1 (aI (ha pos pins s σ H _ I h) λus s1 ⟨vs,H1,I1,r1,q1⟩=>hc pins s1 σ H1 vs us Q I1 r1 q1) he hpl
theorem dg(hc:aN X (.type T) r)(hg:Gl X x)(hm:X.mg x=none)(hv:vI x=some (.type T))(ha:PA X (e::es) t)(hn:x≠"__name__":=by decide)(hdb:(x == ("__debug__" : Str))=false:=by decide)
  (he:w8 (e::es) X.env=(false,eval e X.env)::w8 es X.env:=by rfl) (hpl:(VQ pos (w8 es X.env)).any (·.1)=false:=by rfl):PE X (.Call (.Name x p) (e::es) [] pos) (Ei r t):=by
 intro pins s σ H Q I h;refine V1 (gu I hg hm hv ?_ hn hdb);exact vk (aI (ha pos pins s σ H _ I h) λus s1 ⟨vs,H1,I1,r1,q1⟩=>hc pins s1 σ H1 vs us Q I1 r1 q1) he hpl
end
section
variable{κ : Type}[DecidableEq κ]
end
abbrev KT(H:Hp):List (List Key × V)->List (List Key × we × wg)->Prop:=Paired λp q=>p.1=q.1/\H q.2.1=some (.tup (p.1.map kV))/\bC p.2 q.2.2
section
variable{P:wS}{w:wW}{H:Hp}{h:wQ}{a:we}
end
section
variable{X:Cx}{pins:List (we × Obj)}{σ : St}{H:Hp}{s:wm}{a:we}{y v:V}{u r:wg}{o:Option V}{A:vb}{E:wg->wm->Prop}
theorem Inv.big(I:Inv X pins σ H s):sysModules<s.heap.objs.size:=by
 have h:wM<s.heap.objs.size:=(I.mod.glob.keeps I.bk).lt;exact Nat.lt_trans (by decide) h
end
section
variable{X:Cx}{pins:List (we × Obj)}{σ : St}{H:Hp}{s:wm}{a:we}{kvs:List (Key × V)}{k:Key}{u:wg}{A:vb}{E:wg->wm->Prop}
end
def Nw(i:Expr):Prop:=∀ov iv,subscripted i false ov iv=operate [ov,iv] (getItem ov iv)
theorem zAL{prog:wS}{w:wW}{A:vb}{E:wg->wm->Prop}{s:wm}{env:Env}{value slice:Expr}{pos:Pos}{T id:String}{Q:wg->wm->Prop}
  (hl:typeLookup (.type T) "__getitem__"=pure (some (.builtin id))) (hs:Nw slice)
  (h:wA (model prog w) A (eval value env) (λo s₁=>wA (model prog w) A (eval slice env) (λi s₂=>s₂.TypeIs o T/\wA (model prog w) A (getItem o i) Q E s₂) E s₁) E s) :
  wA (model prog w) A (eval (.Subscript value slice pos) env) Q E s:=by
 refine Subscript_ (Wr h (λo s₁ h₁=>Wr h₁ (λi s₂ h₂=>?_) λ_ _ x=>x) λ_ _ x=>x);obtain⟨hT,h₂⟩:=h₂;unfold subscriptTail;refine wf ?_;rw[getitemInPython_of_ne hT.not_modules];refine wf (qz hT hl ?_)
 have fin:wA (model prog w) A (subscripted slice false o i) (λr s₃=>wA (model prog w) A (letTemporaryGo value o r >>= λ_=>pure r) Q E s₃) E s₂:=by
  rw[hs o i];exact wpAny_operating (Wr h₂ (λr s₃ h₃=>wf (wpAny_letTemporaryGo (wy h₃))) λ_ _ x=>x)
 first
  | exact wy (wf fin)
  | exact wf (wy (wf fin))
  | exact wf fin
section
variable{X:Cx}{o i e value:Expr}{pos pos' tpos:Pos}{td ty tv:TE}
end
section
variable{X:Cx}{pos:Pos}
end
abbrev VV:List (V × V)->List (wg × wg)->Prop:=Paired λp q=>bC p.1 q.1/\bC p.2 q.2
section
variable{X:Cx}{pins:List (we × Obj)}{σ : St}{H:Hp}{s:wm}{a:we}{y d:V}{u r:wg}{o:Option V}{A:vb}{E:wg->wm->Prop}
end
section
variable{X:Cx}{o e f:Expr}{apos cpos:Pos}{td ty tx:TE}
end
section
variable{X:Cx}{pins:List (we × Obj)}{σ : St}{H:Hp}{s:wm}{a:we}{kvs:List (Key × V)}{A:vb}{E:wg->wm->Prop}
end
section
variable{X:Cx}{pins:List (we × Obj)}{σ : St}{H:Hp}{s:wm}{a:we}{y:V}{u:wg}{A:vb}{E:wg->wm->Prop}
end
end L2
namespace HT
open PySem PyProof.Rows
section
open PySem.SeqAt
open PySem.AutoSeq1 (wpAny_loadPart')
open PySem.MeetsSeq PySem.MeetsSeq2 PySem.MeetsSeq3
end
section
variable{prog:wS}{w:wW}{A:vb}{E:wg->wm->Prop}{s:wm}
theorem Yl{t b:we}{vs ws:List wg}{Q:wg->wm->Prop}(ht:IsTup s.heap t vs.toArray)(hb:IsTup s.heap b ws.toArray)(hv:vs≠[])
  (h1:ws=[]->Q (.ref t) s) (h2:ws≠[]->Q (.ref s.heap.objs.size) {s with heap:=s.heap.push {cls:=.type "tuple",data:=.seq (vs++ws).toArray}})
  (hsz:vs.length+ws.length<=ve):wA (model prog w) A (WO .Add (.ref t) (.ref b)) Q E s:=by
 obtain⟨⟨cls,dd,data,sl⟩,ho,hc,n,hd⟩:=id ht;obtain⟨⟨cls2,dd2,data2,sl2⟩,ho2,hc2,n2,hd2⟩:=id hb;simp only at hc hd hc2 hd2;subst hc hd hc2 hd2;have e:vs.toArray++ws.toArray=(vs++ws).toArray:=by simp
 by_cases hw:ws=[]
 ·exact concat_meets ⟨_,ho,rfl⟩ ⟨_,ho2,rfl⟩ noFill_tuple_add seq_tuple_add qS qL (qA _ _)
   (tuple_addW1 t b vs.toArray ws.toArray n n2 dd dd2 sl sl2 (by simpa using hv) (by simp[hw])) ⟨ho,ho2,h1 hw⟩
 ·refine concat_meets ⟨_,ho,rfl⟩ ⟨_,ho2,rfl⟩ noFill_tuple_add seq_tuple_add qS qL (qA _ _)
   (tuple_addW2 t b vs.toArray ws.toArray n n2 dd dd2 sl sl2 (by simpa using hv) (by simpa using hw) (by rw[wR,wR];exact hsz)) ⟨ho,ho2,?_⟩
  rw[e];exact h2 hw
def a_(n d:Nat):Option Int->Nat
 | none=>d
 | some v=>if v<0 then(v+(n:Int)).toNat else min v.toNat n
theorem Yd(n d:Nat):a_ n d none=d:=rfl
theorem Yk(n d k:Nat):a_ n d (some (k:Int))=min k n:=by
 show(if(k:Int)<0 then((k:Int)+(n:Int)).toNat else min (k:Int).toNat n)=min k n
 rw[if_neg (by lia),wU]
theorem zCV(n d:Nat)(hd:d<=n)(o:Option Int):a_ n d o<=n:=by
 cases o with
 | none=>exact hd
 | some v =>
  show(if v<0 then(v+(n:Int)).toNat else min v.toNat n)<=n
  by_cases hv:v<0
  ·rw[if_pos hv];lia
  ·rw[if_neg hv];exact XE _ _
theorem Lj(v:Int)(n d:Nat):(if v<0 then max (v+(n:Int)) 0 else min v (n:Int))=((a_ n d (some v):Nat):Int):=by
 show(if v<0 then max (v+(n:Int)) 0 else min v (n:Int))=(((if v<0 then(v+(n:Int)).toNat else min v.toNat n):Nat):Int)
 by_cases hv:v<0
 ·simp only[if_pos hv];lia
 ·simp only[if_neg hv];lia
theorem zuA(lo hi:Option Int)(n:Nat):qr lo hi 1 (n:Int)=(((a_ n 0 lo:Nat):Int),((a_ n n hi:Nat):Int)):=by
 have h1:¬ ((1:Int)<0):=by lia
 unfold qr;simp only[h1,if_false];refine Vw ?_ ?_
 ·cases lo with
  | none=>rfl
  | some v=>exact Lj v n 0
 ·cases hi with
  | none=>rfl
  | some v=>exact Lj v n n
theorem zuF(i j:Nat):VG (i:Int) (j:Int) 1=j-i:=by
 unfold VG;have h1:(1:Int) > 0:=by lia
 simp only[h1,if_true,Int.ediv_one]
 split<;>lia
theorem Rn{v:wg}{o:Option Int}{Q:Option Int->wm->Prop}(p:IsPart v o)(h:Q o s):wA (model prog w) A (um v) Q E s:=by
 cases p with
 | none=>exact slicePart_none h
 | int i t=>exact slicePart_int h
theorem zlg{sl:we}{vl vu:wg}{lo hi:Option Int}{n:Nat}{Q:Int × Int × Nat->wm->Prop}(hs:s.heap.IsSliceOf sl vl vu .none)(pl:IsPart vl lo)(pu:IsPart vu hi)
  (h:Q (((a_ n 0 lo:Nat):Int),1,a_ n n hi-a_ n 0 lo) s):wA (model prog w) A (QD (.ref sl) (pure (n:Int))) Q E s:=by
 obtain⟨os,hos,hcs,hds⟩:=id hs;unfold QD uH;refine wf (wf (vi hos hds (x:=vl) rfl (wf (vi hos hds (x:=vu) rfl (wf (vi hos hds (x:=.none) rfl (wy ?_)))))));refine wf (slicePart_none ?_)
 show wA _ _ (if((1:Int) == 0)=true then _ else _) _ _ s
 rw[if_neg (by decide)];refine wf (Rn pl (wf (Rn pu (wf (wy ?_)))))
 show wA _ _ (match qr lo hi 1 (n:Int)with | (lo,hi)=>pure (lo,(1:Int),VG lo hi 1)) _ _ s
 rw[zuA lo hi n]
 show wA _ _ (pure (((a_ n 0 lo:Nat):Int),(1:Int),VG ((a_ n 0 lo:Nat):Int) ((a_ n n hi:Nat):Int) 1)) _ _ s
 rw[zuF];exact wy h
theorem zxI(xs:Array wg)(i k:Nat):((wx k).filterMap λ(m:Nat)=>xs[((i:Int)+(m:Int)*1).toNat]?).toArray=((xs.toList.drop i).take k).toArray:=by
 have e:(λ(m:Nat)=>xs[((i:Int)+(m:Int)*1).toNat]?)=λm=>xs[i+m]?:=by
  funext m
  have:((i:Int)+(m:Int)*1).toNat=i+m:=by lia
  rw[this]
 rw[e];have:=pick_run xs i k;rw[List.filterMap_map]at this;have e2:((λx=>xs[x]?) ∘ λx=>i+x)=λm=>xs[i+m]?:=rfl
 rw[e2]at this;rw[this]
theorem Ut{t sl:we}{items:Array wg}{vl vu:wg}{lo hi:Option Int}{Q:wg->wm->Prop}(ht:IsTup s.heap t items)(hs:s.heap.IsSliceOf sl vl vu .none)(pl:IsPart vl lo)(pu:IsPart vu hi)
  (hw:¬ (a_ items.size 0 lo=0/\a_ items.size items.size hi=items.size))
  (h:Q (.ref s.heap.objs.size) {s with heap:=s.heap.push {cls:=.type "tuple",data:=.seq ((items.toList.drop (a_ items.size 0 lo)).take (a_ items.size items.size hi-a_ items.size 0 lo)).toArray}})
  (hsz:items.size<=ve):wA (model prog w) A (getItem (.ref t) (.ref sl)) Q E s:=by
 have htake:sizeOk (.seq ((items.toList.drop (a_ items.size 0 lo)).take (a_ items.size items.size hi-a_ items.size 0 lo)).toArray):=by
  show((items.toList.drop (a_ items.size 0 lo)).take (a_ items.size items.size hi-a_ items.size 0 lo)).toArray.size<=ve
  rw[wR,WD,Wf,Vc]
  lia
 have hj:a_ items.size items.size hi<=items.size:=zCV _ _ (wq _) hi;obtain⟨os,hos,hcs,hds⟩:=id hs;have hTs:s.TypeIs (.ref sl) "slice":=⟨os,hos,hcs⟩;unfold getItem
 try with_reducible refine vR ?_
 first | refine wf (wy ?_) | skip
 refine wf (wpAny_sequenceKey ht.typeIs (by decide) ?_)
 refine wf (wpAny_callSpecial?_slot (name:=vL "__getitem__") ht.typeIs VS
  (vQ VS ht.typeIs entry_tuple_getitem ?_ (args_tuple_getitem _ _)))
 show wA _ _ (QE (.ref t) >>= _) _ _ s
 refine wf (tupleItemsOf_ ht ?_);refine wf (wpAny_typeOf hTs ?_);rw[if_pos (by decide)];refine wf (zlg hs pl pu ?_)
 have hno:¬ ((((a_ items.size 0 lo:Nat):Int) == 0&&(1:Int) == 1&&(a_ items.size items.size hi-a_ items.size 0 lo) == items.size)=true):=by
  intro q;rw[wZ,wZ]at q;have q1:((a_ items.size 0 lo:Nat):Int)=0:=eq_of_beq q.1.1;have q2:a_ items.size items.size hi-a_ items.size 0 lo=items.size:=eq_of_beq q.2;exact hw ⟨by lia,by lia⟩
 show wA _ _ (if(((a_ items.size 0 lo:Nat):Int) == 0&&(1:Int) == 1&&(a_ items.size items.size hi-a_ items.size 0 lo) == items.size)=true then _ else _) _ _ s
 rw[if_neg hno,zxI]
 first
  | exact wf (m:=VM _) (Wo (wy ⟨_,rfl,wy h⟩) htake)
  | exact wf (m:=VM _) (Wo (wf (wy (wy ⟨_,rfl,wy h⟩))) htake)
  | exact wf (wf (m:=VM _) (Wo (wy (wy ⟨_,rfl,wy h⟩)) htake))
  | exact wf (wf (m:=VM _) (Wo (wy ⟨_,rfl,wy h⟩) htake))
end
end HT
namespace L2
open PySem PySem.Spec PyProof.Rows
abbrev TO:=St->Hp->(Option Int->Hp->Prop)->Prop
def PO(X:Cx)(e:Option Expr)(t:TO):Prop :=
 ∀(pins:List (we × Obj))(s:wm)(σ : St)(H:Hp)(Q:Option Int->Hp->Prop),Inv X pins σ H s->t σ H Q ->
  wA (model X.prog X.w) X.A (evalPart e X.env) (λu s'=>∃o H',Inv X pins σ H' s'/\IsPart u o/\Q o H') X.xe s
def L8:TO:=λ_ H Q=>Q none H
def MN(t:TE):TO:=λσ H Q=>t σ H λx H1=>∃i,x=.int i/\Q (some i) H1
theorem CZ{ns:List Int} : ∀{us:List wg},aT (ns.map V.int) us->IntsAre us ns:=by
 induction ns with
 | nil=>intro us r;rw[Qb]at r;cases r;exact .nil
 | cons n ns ih =>
  intro us r;rw[va]at r;cases r with
  | cons r1 r2 =>
   obtain⟨t,e⟩:=r1;subst e;exact .cons n t (ih r2)
section
variable{X:Cx}{e:Expr}{te:TE}{lo hi:Option Expr}{tl th:TO}{pos p2:Pos}
theorem mh:PO X none L8:=by
 intro pins s σ H Q I h;rw[evalPart_none];exact wy ⟨none,H,I,.none,h⟩
theorem lD(h:PE X e te):PO X (some e) (MN te):=by
 intro pins s σ H Q I hw;rw[evalPart_some];refine aI (h pins s σ H _ I hw) λu s1 ⟨x,H1,I1,r1,q1⟩=>?_
 obtain⟨i,rfl,q⟩:=q1;obtain⟨t,rfl⟩:=r1;exact⟨some i,H1,I1,.int i t,q⟩
def j7(X:Cx)(r:V->Option Int->Option Int->Hp->VK->Prop):Prop :=
 ∀(pins:List (we × Obj))(s:wm)(σ : St)(H:Hp)(x:V)(v vl vu:wg)(lo hi:Option Int)(sl:we)(Q:VK),Inv X pins σ H s->bC x v->s.heap.IsSliceOf sl vl vu .none->IsPart vl lo->IsPart vu hi->r x lo hi H Q ->
  ∃T id,typeLookup (.type T) "__getitem__"=pure (some (.builtin id))/\s.TypeIs v T/\wA (model X.prog X.w) X.A (getItem v (.ref sl)) (EP X pins σ Q) X.xe s
theorem j7.or{r r':V->Option Int->Option Int->Hp->VK->Prop}(h:j7 X r)(h':j7 X r'):j7 X (λx lo hi H Q=>r x lo hi H Q\/r' x lo hi H Q):=by
 intro pins s σ H x v vl vu lo hi sl Q I rx hs pl pu q;rcases q with q | q
 ·exact h pins s σ H x v vl vu lo hi sl Q I rx hs pl pu q
 ·exact h' pins s σ H x v vl vu lo hi sl Q I rx hs pl pu q
def Sr(r:V->Option Int->Option Int->Hp->VK->Prop)(te:TE)(tl th:TO):TE:=λσ H Q=>te σ H λx H1=>tl σ H1 λl H2=>th σ H2 λu H3=>r x l u H3 Q
theorem mj{r:V->Option Int->Option Int->Hp->VK->Prop}(hr:j7 X r)(he:PE X e te)(hl:PO X lo tl)(hu:PO X hi th):PE X (.Subscript e (.Slice lo hi none p2) pos) (Sr r te tl th):=by
 intro pins s σ H Q I h;refine Subscript_ (aI (he pins s σ H _ I h) λv s1 ⟨x,H1,I1,r1,q1⟩=>?_);refine wpAny_Slice (aI (hl pins s1 σ H1 _ I1 q1) λvl s2 ⟨l,H2,I2,pl,q2⟩=>aI (hu pins s2 σ H2 _ I2 q2) λvu s3 ⟨u,H3,I3,pu,q3⟩=>?_);rw[evalPart_none];refine wy ?_;have I4:Inv X pins σ H3 {s3 with heap:=s3.heap.push {cls:=.type "slice",data:=.fields #[vl,vu,.none]}}:=I3.kept (t':=s3.toks) λb ob q=>wp _ q
 obtain⟨T,id,hT,ht,hg⟩:=hr pins {s3 with heap:=s3.heap.push {cls:=.type "slice",data:=.fields #[vl,vu,.none]}} σ H3 x v vl vu l u s3.heap.objs.size Q I4 r1 (uQ ..) pl pu q3
 show wA (model X.prog X.w) X.A (subscriptTail e (.Slice lo hi none p2) v (.ref s3.heap.objs.size)) (EP X pins σ Q) X.xe {s3 with heap:=s3.heap.push {cls:=.type "slice",data:=.fields #[vl,vu,.none]}}
 exact tail_any (ops:=[.ref s3.heap.objs.size,v]) ht hT hg (by with_unfolding_all rfl)
def kn(xs:List V)(lo hi:Option Int):List V:=(xs.drop (HT.a_ xs.length 0 lo)).take (HT.a_ xs.length xs.length hi-HT.a_ xs.length 0 lo)
theorem Mo(xs:List V)(lo hi:Option Int):(kn xs lo hi).length<=xs.length:=by
 unfold kn;rw[WD,Wf]
 lia
def Mn(K:wb):V->Option Int->Option Int->Hp->VK->Prop:=λx lo hi H Q=>∃a xs,x=.ref a/\aV K H a xs /\
 ¬ (HT.a_ xs.length 0 lo=0/\HT.a_ xs.length xs.length hi=xs.length) /\ ∀p,H p=none->Q (.ref p) (upd H p (.tup (kn xs lo hi)))
theorem zCA:j7 X (Mn X.K):=by
 intro pins s σ H x v vl vu lo hi sl Q I rx hs pl pu h;obtain⟨a,xs,rfl,hx,hw,q⟩:=h;cases rx;obtain⟨its,r,ht,hz⟩:=I.tuple hx;have hlen:its.toArray.size=xs.length:=by rw[wR];exact r.length.symm
 refine⟨"tuple",_,VS.lookup,ht.typeIs,?_⟩;refine HT.Ut ht hs pl pu (by rw[hlen];exact hw) ?_ (by rw[hlen];exact hz);rw[hlen];refine⟨.ref s.heap.objs.size,_,I.laid (t':=s.toks) (o:=.tup (kn xs lo hi)) (λb ob q=>wp _ q) (wq _) ?_,rfl,q _ (I.aH.fresh (wq _))⟩;exact⟨Wm (Mo xs lo hi) hz,_,(r.drop (HT.a_ xs.length 0 lo)).take (HT.a_ xs.length xs.length hi-HT.a_ xs.length 0 lo),qZ _ _⟩
def OM(K:wb):R2:=λx y H Q=>∃a b xs ys,x=.ref a/\y=.ref b/\aV K H a xs/\aV K H b ys/\xs≠[]/\xs.length+ys.length<=ve /\
 (ys=[]->Q (.ref a) H)/\(ys≠[]->∀p,H p=none->Q (.ref p) (upd H p (.tup (xs++ys))))
theorem aT.Bu{xs:List V}{us:List wg}(r:aT xs us):us=[] ↔ xs=[]:=by
 cases r with
 | nil=>simp
 | cons _ _=>simp
theorem zzW:aJ X (WO .Add) (OM X.K):=by
 intro pins s σ H x y v u Q I rx ry h;obtain⟨a,b,xs,ys,rfl,rfl,ha,hb,hx,hz,q1,q2⟩:=h;cases rx;cases ry;obtain⟨its,r1,p1,_⟩:=I.tuple ha;obtain⟨its2,r2,p2,_⟩:=I.tuple hb;refine HT.Yl p1 p2 (λz=>hx (r1.Bu.mp z)) (λz=>⟨.ref a,H,I,rfl,q1 (r2.Bu.mp z)⟩) (λz=>?_) (by rw[<- r1.length,<- r2.length];exact hz);refine⟨.ref s.heap.objs.size,_,I.laid (t':=s.toks) (o:=.tup (xs++ys)) (λb ob q=>wp _ q) (wq _) ?_,rfl,q2 (λw=>z (r2.Bu.mpr w)) _ (I.aH.fresh (wq _))⟩;exact⟨by rw[wX];exact hz,_,r1.append r2,qZ _ _⟩
end
def gg(n:Nat)(i:Int):Option Nat:=if 0<=i then(if i<n then some i.toNat else none)else if -(n:Int)<=i then some (i+n).toNat else none
def iH{α : Type}(xs:List α)(i:Int):Option α:=(gg xs.length i).bind λj=>xs[j]?
theorem J3{n:Nat}{i:Int}{j:Nat}(h:gg n i=some j):seqIndex? i n=some j/\j<n /\ -(n:Int)<=i/\i<n:=by
 unfold gg at h
 by_cases h0:0<=i
 ·rw[if_pos h0]at h
  by_cases h1:i<n
  ·rw[if_pos h1]at h
   have e:i.toNat=j:=w6 h;exact⟨by rw[seqIndex_of h0 h1,e],by lia,by lia,h1⟩
  ·rw[if_neg h1]at h;cases h
 ·rw[if_neg h0]at h
  by_cases h1 : -(n:Int)<=i
  ·rw[if_pos h1]at h
   have e:(i+n).toNat=j:=w6 h;exact⟨by rw[seqIndex_neg (by lia) h1,e],by lia,h1,by lia⟩
  ·rw[if_neg h1]at h;cases h
theorem C9{α : Type}{xs:List α}{i:Int}{v : α}(h:iH xs i=some v):∃j,seqIndex? i xs.length=some j/\xs[j]? = some v/\j<xs.length /\ -(xs.length:Int)<=i/\i<xs.length:=by
 unfold iH at h;cases e:gg xs.length i with
 | none=>rw[e]at h;cases h
 | some j =>
  rw[e]at h;obtain⟨h1,h2,h3,h4⟩:=J3 e;exact⟨j,h1,h,h2,h3,h4⟩
theorem ke{α : Type}{xs:List α}{j:Nat}{v : α}(h:xs[j]? = some v):iH xs (j:Int)=some v:=by
 have hj:j<xs.length:=(WG.mp h).1
 have e:gg xs.length (j:Int)=some j:=by
  unfold gg;rw[if_pos (by lia),if_pos (by lia)];simp
 unfold iH;rw[e];exact h
def zAa(b:Expr):Prop:=∀o i,subscripted b false o i=operate [o,i] (getItem o i)
def gf(X:Cx)(r:R2):Prop :=
 ∀(value slice:Expr)(pins:List (we × Obj))(s:wm)(σ : St)(H:Hp)(x y:V)(v u:wg)(Q:VK),Inv X pins σ H s->bC x v->bC y u->r x y H Q ->
  subscripted slice false v u=operate [v,u] (getItem v u)->wA (model X.prog X.w) X.A (subscriptTail value slice v u) (EP X pins σ Q) X.xe s
def Ug(X:Cx)(id:String)(r:V->List V->Hp->VK->Prop):Prop :=
 ∀(pins:List (we × Obj))(s:wm)(σ : St)(H:Hp)(x:V)(xs:List V)(v:wg)(us:List wg)(Q:VK),Inv X pins σ H s->bC x v->aT xs us->r x xs H Q ->
  wA (model X.prog X.w) X.A (call (.builtin id) (v::us)) (EP X pins σ Q) X.xe s
section
variable{X:Cx}{a b:Expr}{ta tb:TE}{pos:Pos}
theorem gf.or{r r':R2}(h:gf X r)(h':gf X r'):gf X (λx y H Q=>r x y H Q\/r' x y H Q):=by
 intro value slice pins s σ H x y v u Q I rx ry q hs;rcases q with q | q
 ·exact h value slice pins s σ H x y v u Q I rx ry q hs
 ·exact h' value slice pins s σ H x y v u Q I rx ry q hs
theorem dr{r:R2}(hr:gf X r)(ha:PE X a ta)(hb:PE X b tb)(hs:zAa b):PE X (.Subscript a b pos) (md r ta tb):=by
 intro pins s σ H Q I h;exact Subscript_ (EW ha hb I h λv u s2 x y H2 I2 rx ry q=>hr a b pins s2 σ H2 x y v u Q I2 rx ry q (hs _ _))
def NT(K:wb):R2:=λx y H Q=>∃p xs i v,x=.ref p/\y=.int i/\aO K H p xs/\iH xs i=some v/\Q v H
def Rx(K:wb):R2:=λx y H Q=>∃p xs i v,x=.ref p/\y=.int i/\aV K H p xs/\iH xs i=some v/\Q v H
def Le:R2:=λx y H Q=>∃z i c,x=.str z/\y=.int i/\z.length<=ve/\iH z.cps.toList i=some c/\Q (.str ⟨#[c]⟩) H
theorem zAx:gf X (NT X.K):=by
 intro value slice pins s σ H x y v u Q I rx ry h hs;obtain⟨p,xs,i,z,rfl,rfl,hq,he,q⟩:=h;cases rx;obtain⟨t,rfl⟩:=ry;obtain⟨its,r,pl,hz⟩:=I.list hq;obtain⟨j,h1,h2,h3,h4,h5⟩:=C9 he;obtain⟨w,ew,rw'⟩:=r.get h2;have hl:=r.length;have hn:=mT;have fin:EP X pins σ Q w s:=⟨z,H,I,rw',q⟩
 by_cases h0:0<=i
 ·have hj:i.toNat=j:=by
   rw[seqIndex_of h0 h5]at h1;exact w6 h1
  exact item_listR pl.isList h0 (by lia) (by rw[hj];simpa using ew) fin hs
 ·have hj:(i+(its.toArray.size:Int)).toNat=j:=by
   rw[seqIndex_neg (by lia) h4]at h1;rw[wR,<- hl];exact w6 h1
  exact subscriptTail_builtinR (x:=w) pl.isList.typeIs slot_list_getitem.lookup
   (wpAny_getItem_list_neg (Q:=λr s'=>r=w/\EP X pins σ Q r s') pl.isList (by lia) (by rw[wR]<;>lia) (by lia) (by rw[hj];simpa using ew) ⟨rfl,fin⟩) hs
theorem Zw:gf X (Rx X.K):=by
 intro value slice pins s σ H x y v u Q I rx ry h hs;obtain⟨p,xs,i,z,rfl,rfl,hq,he,q⟩:=h;cases rx;obtain⟨t,rfl⟩:=ry;obtain⟨its,r,pl,hz⟩:=I.tuple hq;obtain⟨j,h1,h2,h3,h4,h5⟩:=C9 he;obtain⟨w,ew,rw'⟩:=r.get h2;have hl:=r.length;have hn:=mT;have fin:EP X pins σ Q w s:=⟨z,H,I,rw',q⟩
 exact subscriptTail_builtinR (x:=w) pl.typeIs slot_tuple_getitem.lookup
  (getItem_tuple (j:=j) (Q:=λr s'=>r=w/\EP X pins σ Q r s') pl (by lia) (by lia) (by rw[wR,<- hl];exact h1) (by simpa using ew) ⟨rfl,fin⟩) hs
theorem zDo:gf X Le:=by
 intro value slice pins s σ H x y v u Q I rx ry h hs;obtain⟨z,i,c,rfl,rfl,hz,he,q⟩:=h;obtain⟨t,rfl⟩:=rx;obtain⟨t',rfl⟩:=ry;obtain⟨j,h1,h2,h3,h4,h5⟩:=C9 he;have hl:z.cps.toList.length=z.length:=by simp[Str.length]
 rw[hl]at h1 h4 h5;have hn:=mT
 exact tail_any (typeIs_str s z t) slot_str_getitem.lookup (getItem_str (c:=c) (by
  have e1:decide (i < -(2^63:Int))=false:=decide_eq_false (by lia);have e2:decide (i ≥ 2^63)=false:=decide_eq_false (by lia);rw[e1,e2,uB]) (by rw[h1];simpa using h2) ⟨.str ⟨#[c]⟩,H,I.tok _,⟨_,rfl⟩,q⟩) hs
def c6(K:wb):R2:=λx y H Q=>NT K x y H Q\/Rx K x y H Q\/Le x y H Q
theorem cX:gf X (c6 X.K):=zAx.or (Zw.or zDo)
theorem ztC(its:List wg)(n j:Nat)(u:wg):QP (·.setIfInBounds j u) {cls:=.type "list",data:=.seq its.toArray n} = {cls:=.type "list",data:=.seq (its.set j u).toArray n}:=by
 simp[QP]
theorem Inv.lst{pins:List (we × Obj)}{σ : St}{H:Hp}{s:wm}{p:we}{xs:List V}(I:Inv X pins σ H s)(h:H p=some (.lst xs)) :
  ∃(its:List wg)(n:Nat),aT xs its/\s.heap.get? p=some {cls:=.type "list",data:=.seq its.toArray n}/\xs.length<=ve:=by
 obtain⟨z,its,n,r,e⟩:=I.aH p _ h;exact⟨its,n,r,e,z⟩
theorem Inv.Yo{pins:List (we × Obj)}{σ : St}{H:Hp}{s:wm}{p:we}{xs ys:List V}{its its':List wg}{n n':Nat}{f:Obj->Obj}(I:Inv X pins σ H s)(h:H p=some (.lst xs))
  (ho:s.heap.get? p=some {cls:=.type "list",data:=.seq its.toArray n}) (hf:f {cls:=.type "list",data:=.seq its.toArray n} = {cls:=.type "list",data:=.seq its'.toArray n'}) (r:aT ys its') (hz:ys.length<=ve) (t:Nat) :
  Inv X pins σ (upd H p (.lst ys)) {s with heap:=s.heap.update p f,toks:=t}:=by
 have e:(s.heap.update p f).get? p=some {cls:=.type "list",data:=.seq its'.toArray n'}:=by
  rw[Vs f ho (by rw[hf]<;>rfl),hf]
 refine I.write (x:=p) (e:=p) (by rw[h];trivial) (.inl rfl) (λb u hb q=>(Wt _ _ (Wj hb)).trans q) ⟨_,e⟩ ?_;exact⟨hz,its',n',r,e⟩
def P_:V->V->V->Hp->(Hp->Prop)->Prop:=λo i v H Q=>∃p xs k j,o=.ref p/\i=.int k/\H p=some (.lst xs)/\gg xs.length k=some j/\Q (upd H p (.lst (xs.set j v)))
theorem nA:O6 X P_:=by
 intro pins s σ H o i v ov iv u Q I ro ri rv h;obtain⟨p,xs,k,j,rfl,rfl,hp,hj,q⟩:=h;cases ro;obtain⟨t,rfl⟩:=ri;obtain⟨its,n,r,ho,hz⟩:=I.lst hp;obtain⟨h1,h2,h3,h4⟩:=J3 hj;have hl:=r.length;have hn:=mT
 have I':Inv X pins σ (upd H p (.lst (xs.set j v))) {s with heap:=s.heap.update p (QP (·.setIfInBounds j u))} :=
  I.Yo hp ho (ztC its n j u) (r.set rv j) (by rw[WP];exact hz) s.toks
 by_cases h0:0<=k
 ·have hk:k.toNat=j:=by
   rw[seqIndex_of h0 h4]at h1;exact w6 h1
  exact PySem.W.ki_setAt ho h0 (by lia) (by rw[wR,<- hl];exact h4) (by rw[hk];exact⟨_,I',q⟩)
 ·have hk:(k+(its.toArray.size:Int)).toNat=j:=by
   rw[seqIndex_neg (by lia) h3]at h1;rw[wR,<- hl];exact w6 h1
  exact PySem.W.ki_setBack ho (by lia) (by rw[wR,<- hl];exact h3) (by lia) (by rw[hk];exact⟨_,I',q⟩)
theorem zql(lo hi:Option Int)(n:Nat):(qp lo hi none n).1=((HT.a_ n 0 lo:Nat):Int)/\(qp lo hi none n).2.1=((HT.a_ n n hi:Nat):Int)/\(qp lo hi none n).2.2=1:=by
 refine⟨?_,?_,rfl⟩
 ·cases lo with
  | none=>simp[qp,HT.a_]
  | some i =>
   simp only[qp,HT.a_,XF,show(1:Int) > 0 by decide,if_true]
   by_cases h:i<0
   ·simp only[h,if_true]<;>lia
   ·simp only[h,if_false]<;>lia
 ·cases hi with
  | none=>simp[qp,HT.a_]
  | some i =>
   simp only[qp,HT.a_,XF,show(1:Int) > 0 by decide,if_true]
   by_cases h:i<0
   ·simp only[h,if_true]<;>lia
   ·simp only[h,if_false]<;>lia
theorem zoT(its:List wg)(lo hi:Option Int):slicePick its.toArray lo hi none=((its.drop (HT.a_ its.length 0 lo)).take (HT.a_ its.length its.length hi-HT.a_ its.length 0 lo)).toArray:=by
 obtain⟨h1,h2,h3⟩:=zql lo hi its.toArray.size;unfold slicePick;rw[h1,h2,h3];simp only[sliceRange_one,pick_run,wR]<;>rfl
def Od(K:wb):V->Option Int->Option Int->Hp->VK->Prop:=λx lo hi H Q=>∃a xs,x=.ref a/\aO K H a xs /\ ∀p,H p=none->Q (.ref p) (upd H p (.lst (kn xs lo hi)))
theorem zAV:j7 X (Od X.K):=by
 intro pins s σ H x v vl vu lo hi sl Q I rx hs pl pu h;obtain⟨a,xs,rfl,hx,q⟩:=h;cases rx;obtain⟨its,r,ht,hz⟩:=I.list hx;have hlen:=r.length;refine⟨"list",_,slot_list_getitem.lookup,ht.isList.typeIs,?_⟩;refine wpAny_getItem_list_slice ht.isList hs pl pu .none (by simp) ?_ (by rw[wR]<;>lia);rw[zoT,<- hlen];refine⟨.ref s.heap.objs.size,_,I.laid (t':=s.toks) (o:=.lst (kn xs lo hi)) (λb ob q=>wp _ q) (wq _) ?_,rfl,q _ (I.aH.fresh (wq _))⟩;exact⟨Wm (Mo xs lo hi) hz,_,0,(r.drop (HT.a_ xs.length 0 lo)).take (HT.a_ xs.length xs.length hi-HT.a_ xs.length 0 lo),wK _ rfl⟩
def kr:V->Bool
 | .bX=>true
 | .bl _=>true
 | .int _=>true
 | .str _=>true
 | _=>false
def kY:V->V->Bool
 | .bX,.bX=>true
 | .bl a,.bl b=>a == b
 | .bl a,.int b=>(if a then 1 else 0) == b
 | .int a,.bl b=>a == (if b then 1 else 0)
 | .int a,.int b=>a == b
 | .str a,.str b=>a == b
 | _,_=>false
theorem zCm{A:vb}{s:wm}{y x:V}{u v:wg}(ry:bC y u)(rx:bC x v)(fy:kr y=true)(fx:kr x=true):SeqAt.EqAt A s u v (kY y x):=by
 cases y with
 | bX =>
  cases ry;cases x with
  | bX=>cases rx;exact SeqAt.EqAt.same _
  | bl b=>cases rx;exact SeqAt.EqAt.none_bool b
  | int b=>obtain⟨t,rfl⟩:=rx;exact SeqAt.EqAt.none_int b t
  | str b=>obtain⟨t,rfl⟩:=rx;exact SeqAt.EqAt.none_str b t
  | _=>exact absurd (show false=true from fx) vC
 | bl a =>
  cases ry;cases x with
  | bX=>cases rx;exact SeqAt.EqAt.bool_none a
  | bl b=>cases rx;exact SeqAt.EqAt.bool_bool a b
  | int b=>obtain⟨t,rfl⟩:=rx;exact SeqAt.EqAt.bool_int a b t
  | str b=>obtain⟨t,rfl⟩:=rx;exact SeqAt.EqAt.bool_str a b t
  | _=>exact absurd (show false=true from fx) vC
 | int a =>
  obtain⟨t',rfl⟩:=ry;cases x with
  | bX=>cases rx;exact SeqAt.EqAt.int_none a t'
  | bl b=>cases rx;exact SeqAt.EqAt.int_bool a t' b
  | int b=>obtain⟨t,rfl⟩:=rx;exact SeqAt.EqAt.int_int a t' b t
  | str b=>obtain⟨t,rfl⟩:=rx;exact xU a t' b t
  | _=>exact absurd (show false=true from fx) vC
 | str a =>
  obtain⟨t',rfl⟩:=ry;cases x with
  | bX=>cases rx;exact SeqAt.EqAt.str_none a t'
  | bl b=>cases rx;exact SeqAt.EqAt.str_bool a t' b
  | int b=>obtain⟨t,rfl⟩:=rx;exact xV a t' b t
  | str b=>obtain⟨t,rfl⟩:=rx;exact SeqAt.EqAt.str_str a t' b t
  | _=>exact absurd (show false=true from fx) vC
 | _=>exact absurd (show false=true from fy) vC
def fP(x:V)(u:wg):Bool:=match u with
 | .none=>kY .bX x
 | .bool b=>kY (.bl b) x
 | .int i _=>kY (.int i) x
 | .str z _=>kY (.str z) x
 | _=>false
theorem Pt{x y:V}{u:wg}(r:bC y u)(f:kr y=true):fP x u=kY y x:=by
 cases y with
 | bX=>cases r;rfl
 | bl b=>cases r;rfl
 | int i=>obtain⟨t,rfl⟩:=r;rfl
 | str z=>obtain⟨t,rfl⟩:=r;rfl
 | _=>exact absurd (show false=true from f) vC
theorem rF{x:V} : ∀{xs:List V}{us:List wg},aT xs us->xs.all kr=true->us.any (fP x)=xs.any λy=>kY y x
 | _,_,.nil,_=>rfl
 | y::xs,u::us,.cons r t,f=>by
  rw[xJ,wZ]at f;rw[qW,qW,Pt r f.1,rF t f.2]
theorem rp{A:vb}{s:wm}{x:V}{v:wg}(rx:bC x v)(fx:kr x=true):∀{xs:List V}{us:List wg},aT xs us->xs.all kr=true->∀u∈us,SeqAt.EqAt A s u v (fP x u)
 | _,_,.nil,_=>λu hu=>by cases hu
 | y::xs,u::us,.cons r t,f=>λu' hu=>by
  rw[xJ,wZ]at f;rcases wL.mp hu with rfl | hu
  ·rw[Pt r f.1];exact zCm r rx f.1 fx
  ·exact rp rx fx t f.2 u' hu
def tS(x:V)(xs:List V):Bool:=xs.any λy=>kY y x
def kP(K:wb)(neg:Bool):R2:=λx y H Q=>∃p xs,y=.ref p/\(aO K H p xs\/aV K H p xs)/\kr x=true/\xs.all kr=true/\Q (.bl (if neg then !tS x xs else tS x xs)) H
theorem zxa:aJ X (wN .In) (kP X.K false):=by
 intro pins s σ H x y v u Q I rx ry h;obtain⟨p,xs,rfl,hq,fx,fs,q⟩:=h;cases ry;rcases hq with hq | hq
 ·obtain⟨its,r,pl,hz⟩:=I.list hq
  refine SeqAt.in_listAt (fP x) pl.isList (λw hw=>rp rx fx r fs w (by simpa using hw)) ⟨.bl _,H,I,rfl,?_⟩;rw[show its.toArray.any (fP x)=its.any (fP x) by simp,rF r fs];exact q
 ·obtain⟨its,r,pl,hz⟩:=I.tuple hq
  refine SeqAt.in_tupleAt (fP x) pl (λw hw=>rp rx fx r fs w (by simpa using hw)) ⟨.bl _,H,I,rfl,?_⟩;rw[show its.toArray.any (fP x)=its.any (fP x) by simp,rF r fs];exact q
theorem zqo:aJ X (wN .NotIn) (kP X.K true):=by
 intro pins s σ H x y v u Q I rx ry h;obtain⟨p,xs,rfl,hq,fx,fs,q⟩:=h;cases ry;rcases hq with hq | hq
 ·obtain⟨its,r,pl,hz⟩:=I.list hq
  refine SeqAt.notIn_listAt (fP x) pl.isList (λw hw=>rp rx fx r fs w (by simpa using hw)) ⟨.bl _,H,I,rfl,?_⟩;rw[show its.toArray.any (fP x)=its.any (fP x) by simp,rF r fs];exact q
 ·obtain⟨its,r,pl,hz⟩:=I.tuple hq
  refine SeqAt.notIn_tupleAt (fP x) pl (λw hw=>rp rx fx r fs w (by simpa using hw)) ⟨.bl _,H,I,rfl,?_⟩;rw[show its.toArray.any (fP x)=its.any (fP x) by simp,rF r fs];exact q
theorem zqX:aN X (.builtin "len") (λxs H Q=>∃p ys,xs=[.ref p]/\(aO X.K H p ys\/aV X.K H p ys)/\Q (.int ys.length) H):=by
 intro pins s σ H xs us Q I r h;obtain⟨p,ys,rfl,hq,q⟩:=h;obtain⟨u,rfl,rx⟩:=gW r;cases rx;have hn:=mT;rcases hq with hq | hq
 ·obtain⟨its,r',pl,hz⟩:=I.list hq
  have hlen:=r'.length;exact Calls.call_len_list pl.isList (by simp only[wR]<;>lia) ⟨.int ys.length,H,I.tok _,⟨s.toks+1,by rw[wR,hlen]⟩,q⟩
 ·obtain⟨its,r',pl,hz⟩:=I.tuple hq
  have hlen:=r'.length;exact len_tuple pl (by simp only[wR]<;>lia) ⟨.int ys.length,H,I.tok _,⟨s.toks+1,by rw[wR,hlen]⟩,q⟩
theorem Z3:aN X (.type "list") (λxs H Q=>∃p ys,xs=[.ref p]/\(aO X.K H p ys\/aV X.K H p ys) /\ ∀l,H l=none->Q (.ref l) (upd H l (.lst ys))):=by
 intro pins s σ H xs us Q I r h;obtain⟨p,ys,rfl,hq,q⟩:=h;obtain⟨u,rfl,rx⟩:=gW r;cases rx
 have fin:∀(its:List wg),aT ys its->ys.length<=ve->∀(h':wQ)(c':Nat),(∀b o',s.heap.get? b=some o'->h'.get? b=some o') ->
     h'.get? s.heap.objs.size=some {cls:=.type "list",dict:=none,data:=.seq its.toArray c',slots:=#[]}->EP X pins σ Q (.ref s.heap.objs.size) {s with heap:=h'}:=λits r' hz h' c' kp e =>
   ⟨.ref s.heap.objs.size,_,I.laid (t':=s.toks) kp (wq _) (show dD X.prog X.w _ h' _ (.lst ys)from⟨hz,its,c',r',e⟩),rfl,q _ (I.aH.fresh (wq _))⟩
 rcases hq with hq | hq
 . obtain⟨its,r',pl,hz⟩:=I.list hq
   have hlen:=r'.length;obtain⟨o,ho,hc,n,hd⟩:=pl.isList;exact call_list_seq p (.inl rfl) ho hc hd (λh' c' kp e=>fin its r' hz h' c' kp e) (by simp only[wR]<;>lia)
 . obtain⟨its,r',pl,hz⟩:=I.tuple hq
   have hlen:=r'.length;obtain⟨o,ho,hc,n,hd⟩:=pl;exact call_list_seq p (.inr rfl) ho hc hd (λh' c' kp e=>fin its r' hz h' c' kp e) (by simp only[wR]<;>lia)
theorem zoL:aN X (.type "tuple") (λxs H Q=>∃p ys,xs=[.ref p]/\((aO X.K H p ys /\ ∀l,H l=none->Q (.ref l) (upd H l (.tup ys)))\/(aV X.K H p ys/\Q (.ref p) H))):=by
 intro pins s σ H xs us Q I r h;obtain⟨p,ys,rfl,h⟩:=h;obtain⟨u,rfl,rx⟩:=gW r;cases rx;rcases h with⟨hq,q⟩ | ⟨hq,q⟩
 ·obtain⟨its,r',pl,hz⟩:=I.list hq
  have hlen:=r'.length;refine call_tuple_list pl.isList (λh' kp=>?_) (by simp only[wR]<;>lia);have I1:Inv X pins σ H {s with heap:=h'}:=I.kept (t':=s.toks) kp
  have I2:Inv X pins σ (upd H h'.objs.size (.tup ys)) {s with heap:=h'.push {cls:=.type "tuple",data:=.seq its.toArray}} :=
   I1.laid (t':=s.toks) (λb o e=>wp _ e) (wq _) (show dD X.prog X.w _ _ _ (.tup ys)from⟨hz,its,r',qZ _ _⟩)
  exact⟨.ref h'.objs.size,_,I2,rfl,q _ (I1.aH.fresh (wq _))⟩
 ·obtain⟨its,r',pl,hz⟩:=I.tuple hq
  exact call_tuple_same pl ⟨.ref p,H,I,rfl,q⟩
def zD(K:wb)(T:String)(x:V)(H:Hp):Prop:=match x with
 | .str _=>T="str"
 | .int _=>T="int"
 | .ref p=>(T="list" /\ ∃xs,aO K H p xs)\/(T="tuple" /\ ∃o,K.lookup p=some o/\o.cls=.type "tuple"/\o.dict=none) \/
     (T="dict"/\((∃kvs,H p=some (.dK kvs)) \/ ∃kvs,H p=some (.dT kvs)))\/(T="set" /\ ∃S n,H p=some (.set S n))
 | _=>False
theorem Y_{pins:List (we × Obj)}{σ : St}{H:Hp}{s:wm}{T:String}{x:V}{v:wg}(I:Inv X pins σ H s)(r:bC x v)(ty:zD X.K T x H) :
  s.TypeIs v T /\ ∀a,v=.ref a->∃ob,s.heap.get? a=some ob/\ob.dict=none:=by
 cases x with
 | str z =>
  obtain⟨t,rfl⟩:=r;cases (show T="str" from ty);exact⟨typeIs_str s z t,λ_ e=>nomatch e⟩
 | int i =>
  obtain⟨t,rfl⟩:=r;cases (show T="int" from ty);exact⟨typeIs_int s i t,λ_ e=>nomatch e⟩
 | ref p =>
  cases r;rcases ty with⟨rfl,xs,hq⟩ | ⟨rfl,o,hk,hc,hd⟩ | ⟨rfl,hk⟩ | ⟨rfl,S,n,hk⟩
  ·obtain⟨its,_,pl,_⟩:=I.list hq
   refine⟨pl.isList.typeIs,λa e=>?_⟩;cases e;obtain⟨o,n,e,c,hd,_⟩:=pl;exact⟨o,e,hd⟩
  ·refine⟨⟨o,I.c9 p o hk,hc⟩,λa e=>?_⟩
   cases e;exact⟨o,I.c9 _ o hk,hd⟩
  ·have z:∃o,s.heap.get? p=some o/\o.ExactDict:=by
    rcases hk with⟨kvs,hk⟩ | ⟨kvs,hk⟩
    ·obtain⟨_,_,_,_,o,_,_,e,ex,_⟩:=I.aH p _ hk
     exact⟨o,e,ex⟩
    ·obtain⟨_,_,_,_,o,_,_,e,ex,_⟩:=I.aH p _ hk
     exact⟨o,e,ex⟩
   obtain⟨o,e,ex⟩:=z;refine⟨⟨o,e,ex.1⟩,λa e2=>?_⟩;cases e2;exact⟨o,e,ex.2.1⟩
  ·obtain⟨o,_,_,_,e,ex,_⟩:=I.aH p _ hk
   refine⟨⟨o,e,ex.1⟩,λa e2=>?_⟩;cases e2;exact⟨o,e,ex.2.1⟩
 | _=>exact Wp ty
def OG(K:wb)(T:String)(r:V->List V->Hp->VK->Prop)(to:TE)(t:TA):TE:=λσ H Q=>to σ H λx H1=>zD K T x H1/\t σ H1 λxs H2=>r x xs H2 Q
variable{o e:Expr}{es:List Expr}{to:TE}{t:TA}{name:Str}{apos cpos:Pos}{T id:String}{r:V->List V->Hp->VK->Prop}
theorem jz(pa:PlainAttrs T)(slot:Slot T name id)(hty:typeOf (.builtin id)=pure (.type "method_descriptor"))(hm:Ug X id r)(ho:PE X o to)(ha:PA X (e::es) t)
  (hbase:attributeBase o name X.env (eval o X.env)=eval o X.env:=by rfl)
  (hfew:((VQ cpos (w8 (e::es) X.env)).all (λx=>!x.1)&&(backToKw cpos (keywordEach [] X.env)).all (λx=>x.1.isSome)
   && decide ((e::es).length+([]:List Keyword).length+(if([]:List Keyword).isEmpty then 0 else 1)<30))=true:=by rfl)
  (hline:(apos.endLine == cpos.line)=true:=by rfl) (hs:w8 (e::es) X.env=(false,eval e X.env)::w8 es X.env:=by rfl) (hplain:(VQ cpos (w8 es X.env)).any (·.1)=false:=by rfl) :
  PE X (.Call (.Attribute o name apos) (e::es) [] cpos) (OG X.K T r to t):=by
 intro pins s σ H Q I h;refine wpAny_Call_method_late hbase hfew hline rfl (aI (ho pins s σ H _ I h) λv s1 ⟨x,H1,I1,r1,ty,q1⟩=>?_);obtain⟨h1,h2⟩:=Y_ I1 r1 ty;refine⟨T,id,pa,slot,hty,h1,h2,?_⟩;have hA:=ha cpos pins s1 σ H1 _ I1 q1;rw[hs]at hA ⊢;refine Calls.callWith_builtin (by show(false || (VQ cpos (w8 es X.env)).any (·.1))=false;rw[hplain]<;>rfl) (xA ?_);exact aI hA λus s2 ⟨vs,H2,I2,r2,q2⟩=>hm pins s2 σ H2 x vs v us Q I2 r1 r2 q2
/- xs.append(e),list.index on a module's tuple .. are Ug facts of 06m -/
end
def TU(X:Cx)(id:String)(r:V->List V->Hp->VK->Prop):Prop :=
 ∀(pins:List (we × Obj))(s:wm)(σ : St)(H:Hp)(x:V)(xs:List V)(v:wg)(us:List wg)(Q:VK),Inv X pins σ H s->bC x v->aT xs us->r x xs H Q ->
  wA (model X.prog X.w) X.A (call (.builtin id) (v::us)) (EP X pins σ Q) X.xe s
theorem aT.one:∀{x:V}{us:List wg},aT [x] us->∃u,us=[u]/\bC x u
 | _,_,.cons r .nil=>⟨_,rfl,r⟩
theorem aT.eraseIdx:∀{xs:List V}{us:List wg}(i:Nat),aT xs us->aT (xs.eraseIdx i) (us.eraseIdx i)
 | _,_,_,.nil=>.nil
 | _,_,0,.cons _ t=>t
 | _,_,i+1,.cons r t=>.cons r (aT.eraseIdx i t)
theorem O4{α : Type} : ∀(l:List α)(i:Nat),(l.eraseIdx i).length<=l.length
 | [],_=>wq _
 | _::_,0=>xb _
 | _::r,i+1=>Nat.succ_le_succ (O4 r i)
section
variable{X:Cx}{pins:List (we × Obj)}{σ : St}{H:Hp}{s:wm}{l b:we}{xs ys zs:List V}
theorem Inv.JY{its its':List wg}{n:Nat}{f:Array wg->Array wg}{t':Nat}(I:Inv X pins σ H s)(hH:H l=some (.lst xs))
  (e:s.heap.get? l=some {cls:=.type "list",data:=.seq its.toArray n}) (hf:f its.toArray=its'.toArray) (hv:aT ys its') (hz:ys.length<=ve) :
  Inv X pins σ (upd H l (.lst ys)) {s with heap:=s.heap.update l (QP f),toks:=t'}:=by
 have q:=PySem.IsL.update e f;rw[hf]at q;refine I.write (x:=l) (e:=l) (by rw[hH];exact trivial) (.inl rfl) (λb' u hb hu=>(Wt s.heap (QP f) (Wj hb)).trans hu) ⟨_,q⟩ ?_;exact⟨hz,its',_,hv,q⟩
theorem Inv.JT{its:List wg}{t':Nat}(I:Inv X pins σ H s)(hv:aT ys its)(hz:ys.length<=ve) :
  Inv X pins σ (upd H s.heap.objs.size (.lst ys)) {s with heap:=s.heap.push {cls:=.type "list",data:=.seq its.toArray},toks:=t'} :=
 I.laid (λ_ _ q=>wp _ q) (wq _) ⟨hz,its,0,hv,wK _ rfl⟩
theorem Inv.fresh(I:Inv X pins σ H s):H s.heap.objs.size=none:=I.aH.fresh (wq _)
theorem Inv.sH(I:Inv X pins σ H s)(hH:H l=some (.lst xs)):xs.length<=ve /\ ∃(its:List wg)(n:Nat),aT xs its/\xs.length=its.length/\s.heap.get? l=some {cls:=.type "list",data:=.seq its.toArray n}:=by
 obtain⟨z,its,n,r,e⟩:=I.aH l _ hH;exact⟨z,its,n,r,r.length,e⟩
end
section
variable{X:Cx}
def Pp:V->List V->Hp->VK->Prop:=λx vs H Q=>∃l xs y,x=.ref l/\vs=[y]/\H l=some (.lst xs)/\xs.length<ve/\Q .bX (upd H l (.lst (xs++[y])))
theorem jH:TU X "list.append" Pp:=by
 intro pins s σ H x vs v us Q I rx rv h;obtain⟨l,xs,y,rfl,rfl,hH,hz,q⟩:=h;cases rx;obtain⟨u,rfl,ru⟩:=rv.one;obtain⟨z,its,n,r,hl,e⟩:=I.sH hH;refine call_meets F.slot_list_append ⟨_,e,rfl⟩ F.entry_list_append (F.args_list_append_2 _ _) (PySem.list_append l its.toArray n u (by rw[wR];lia)) ⟨e,?_⟩;refine⟨.bX,_,I.JY (its':=its++[u]) hH e (by simp) (r.append (.cons ru .nil)) ?_,rfl,q⟩;rw[wX,vT]
 lia
def Kk:V->List V->Hp->VK->Prop:=λx vs H Q=>∃l xs i k y,x=.ref l/\vs=[.int i]/\H l=some (.lst xs) /\ -(2^63)<=i/\i<2^63/\seqIndex? i xs.length=some k/\xs[k]? = some y/\Q y (upd H l (.lst (xs.eraseIdx k)))
theorem zy3:TU X "list.pop" Kk:=by
 intro pins s σ H x vs v us Q I rx rv h;obtain⟨l,xs,i,k,y,rfl,rfl,hH,h1,h2,hk,hy,q⟩:=h;cases rx;obtain⟨u,rfl,ru⟩:=rv.one;obtain⟨t,rfl⟩:=ru;obtain⟨z,its,n,r,hl,e⟩:=I.sH hH;obtain⟨w,hw,rw'⟩:=r.get hy
 refine call_meets F.slot_list_pop ⟨_,e,rfl⟩ F.entry_list_pop (F.args_list_pop_2 _ _)
  (MeetsSeq.list_pop_at l its.toArray n i t k w (fitsIndex_both h1 h2) (by rw[wR,<- hl];exact hk) (by rw[<- Array.getElem?_toList];exact hw) (by rw[wR];lia)) ⟨e,?_⟩
 refine⟨y,_,I.JY (its':=its.eraseIdx k) hH e ?_ (r.eraseIdx k) ?_,rw',q⟩
 ·show its.toArray.eraseIdxIfInBounds k=(its.eraseIdx k).toArray
  rw[List.eraseIdxIfInBounds_toArray]
 ·have:=O4 xs k
  lia
def Ck:R2:=λx y H Q=>∃l b xs zs,x=.ref l/\y=.ref b/\H l=some (.lst xs)/\H b=some (.lst zs)/\xs.length+zs.length<=ve /\ ∀p,H p=none->Q (.ref p) (upd H p (.lst (xs++zs)))
theorem zCh:aJ X (WO .Add) Ck:=by
 intro pins s σ H x y v u Q I rx ry h;obtain⟨l,b,xs,zs,rfl,rfl,hH,hB,hz,q⟩:=h;cases rx;cases ry;obtain⟨z,its,n,r,hl,e⟩:=I.sH hH;obtain⟨z2,its2,n2,r2,hl2,e2⟩:=I.sH hB;refine PySem.P.add_list e e2 ?_ (by rw[wR,wR];lia);have ea:its.toArray++its2.toArray=(its++its2).toArray:=by simp
 rw[ea];exact⟨.ref _,_,I.JT (t':=s.toks) (r.append r2) (by rw[wX];lia),rfl,q _ I.fresh⟩
end
section
variable{prog:wS}{w:wW}{A:vb}{E:wg->wm->Prop}{s:wm}
end
section
variable{X:Cx}
end
end L2
namespace Att
open PySem PySem.W PySem.Calls PyProof.Rows
theorem zms{P:Params}{h:wQ} : ∀(ns:List Int)(vs:List wg),WellAll P h vs (ns.map WData.int)->IntsAre vs ns:=by
 intro ns
 induction ns with
 | nil =>
  intro vs w;rw[Qb]at w;cases w;exact .nil
 | cons n ns ih =>
  intro vs w;rw[va]at w;cases w with
  | cons a b =>
   cases a;exact .cons _ _ (ih _ b)
theorem zwL{l:OpenLaw}{n:Nat}(hn:l.most=some n){P:Params}{h:wQ}{args:List WData}{vals:List wg}
  (hpre:l.row.toRowW.claim.pre args=true) (hwl:WellAll P h vals args) :
  ∃a vs ns,vals=[Value.ref a]/\args=[WData.list (ns.map WData.int)]/\h.get? a=some {cls:=.type "list",data:=.seq vs.toArray}/\IntsAre vs ns/\ns.length<=n:=by
 have hsh:WShape.hasAll [] args [.list .int]=true:=(pre_splitW hpre).1;have hc:l.pre.holds [] {args:=args}=true:=(pre_splitW hpre).2;obtain⟨d,r,rfl,h1,h2⟩:=hasAllW_cons hsh;obtain rfl:=hasAllW_nil h2;obtain⟨xs,rfl,h3⟩:=hasW_list h1;obtain⟨ns,rfl⟩:=items_int h3
 have hlen:ns.length<=n:=by
  unfold OpenLaw.pre at hc
  have h4:(WTm.not (.lt (.lit (.int (n:Int))) (.len (.arg 0)))).holds [] {args:=[.list (ns.map .int)]}=true:=by
   have h4:=(holds_andW hc).1;rw[hn]at h4;exact h4
  have h5:=condW_of h4 (w_not (w_lt w_lit (w_len_list (w_arg rfl))));rw[wo]at h5;refine Nat.le_of_not_lt λq=>?_
  have q':(n:Int)<((ns.length:Nat):Int):=by lia
  first
   | (rw[decide_eq_true q']at h5;exact absurd h5 (by decide))
   | (simp at h5;lia)
 cases hwl with
 | cons w1 w2 =>
  cases w2;cases w1 with
  | list ho hall=>exact⟨_,_,ns,rfl,rfl,ho,zms ns _ hall,hlen⟩
theorem zwu(l:OpenLaw)(args:List WData):l.row.toRowW.claim.post args (.bool true) args=true :=
 postW_of (r:=l.row.toRowW) (X:=(true == true))
  (show WShape.has [] (.bool true) .bool=true by first | rfl | decide | simp[WShape.has,WShape.arms,WShape.armsAll])
  (show(WTm.eq .res (.lit (.bool true))).value [] {args:=args,res:=some (.bool true),after:=args}=some (.bool (true == true))from w_eq_bool (w_res rfl) w_lit) rfl
theorem UX{l:OpenLaw}{n:Nat}{q:wS}{loose:List Str}{XP:(Str->Option wg)->wQ->Prop}{YP:wW->wQ->Prop}{d:DefRec}
  (hn:l.most=some n) (hdf:d.params.defaults=[])
  (call:∀(w:wW)(s₀ s₁ : wm)(mg mb:Str->Option wg)(fa:we)(o:Obj)(pm cd doc:wg)(a:we)(vs:List wg)(ns:List Int),
   Ground q loose [] XP w s₀ mg mb s₁.heap->YP w s₁.heap ->
   s₁.heap.get? fa=some o->o.data=.func (docDef d.name d.params d.body d.scope pm cd doc)->s₁.heap.CodeRec cd d.name->mg d.name=some (.ref fa) ->
   s₁.heap.get? a=some {cls:=.type "list",data:=.seq vs.toArray}->IntsAre vs ns->ns.length<=n->s₁.gens = #[] ->
   codeAny (model l.prog w) callerA (.call (.ref fa) ⟨[.ref a],[]⟩) (λr s'=>r=.ok (.ret (.bool true))/\OldK s₁.heap s'.heap/\s'.os=s₁.os/\AllBare s'.gens) s₁) :
  WalkO q loose XP YP l.row.toRowW d [] (λf vs=>XZ f vs):=by
 intro w s₀ s₁ mg mb G Y fa o pm cd doc dV kV ho hd hcd hD hmg hg args vals as hpre hlay hrd hwl hlo;obtain rfl:dV=.none:=Dflts.none hD hdf;obtain rfl:kV=.none:=Dflts.noKw hD;obtain⟨a,vs,ns,rfl,rfl,hobj,hints,hlen⟩:=zwL hn hpre hwl;refine enter_call (codeAny_mono (call w s₀ s₁ mg mb fa o pm cd doc a vs ns G Y ho (fd_plain hd) hcd hmg hobj hints hlen hg) λr s' hq=>?_);obtain⟨rfl,h2,h3,h4⟩:=hq;exact⟨.inl ⟨.bool true,.bool true,[],rfl,λ_=>rfl,.bool true,zwu l _,λ_=>⟨xK.nil,λ_ hm=>(nomatch hm)⟩⟩,h2,h3,h4⟩
section
variable{prog:wS}{w:wW}{A:vb}{E:wg->wm->Prop}{s:wm}{K:Frag}
def zEA(h:wQ)(L d:we):List (we × Obj):=(wx h.objs.size).filterMap λa=>if a=L\/a=d then none else(h.get? a).map λo=>(a,o)
end
end Att
namespace L2
open PySem PySem.Spec PyProof.Rows
theorem O_:∀{vs:List wg}{ns:List Int},IntsAre vs ns->aT (ns.map V.int) vs
 | _,_,.nil=>.nil
 | _,_,.cons n t h=>.cons ⟨t,rfl⟩ (O_ h)
def yA(H:Hp):Prop:=∀b,H b=none \/ ∃o xs,H b=some (.gH o (.lst xs))
theorem zyS{P:wS}{w:wW}{K:wb}{mg mb:Str->Option wg}{CX:fR}{k:Nat}{fa a:we}{fd:wE}{x:Str}{sp:Sp}{s₁ : wm}{vs:List wg}{ns:List Int}
   (KX:K.In s₁.heap) (hns:s₁.heap.Ns wM mg) (hb:s₁.heap.Ns builtinsNs mb) (hbb:∀x:Str,x≠"__name__" -> mb x=vI x) (hlim:s₁.heap.NoLimit) (hg:s₁.gens = #[])
   (ha:s₁.heap.get? a=some {cls:=.type "list",data:=.seq vs.toArray}) (hi:IntsAre vs ns) (hl:ns.length<=ve) (hr:dP k callerA)
   (F:∀base:wQ,K.In base->base.Ns wM mg->aP P w K mg base CX k fa fd [x] sp) (hbind:∀(s:wm)(u:wg),BindsTo s fd ⟨[u],[]⟩ [(x,u)])
   (hsp:∀H:Hp,yA H->aO K H a (ns.map V.int)->sp [.ref a] H (λv _=>v=.bl true) λ_ _ _=>False)
   (hCX:∀H e s',CX [] H s₁ (λ_ _ _=>False) e s'->False) :
   codeAny (model P w) callerA (.call (.ref fa) ⟨[.ref a],[]⟩) (λr s'=>r=.ok (.ret (.bool true))/\OldK s₁.heap s'.heap/\s'.os=s₁.os/\AllBare s'.gens) s₁:=by
 have rv:=O_ hi;have lenV:=hi.length
 -- from an abstract heap in which nothing but the script may be tracked
 have core:∀H:Hp,yA H->aO K H a (ns.map V.int)->c7 P w H s₁.heap->(∀b,H b≠none->b=a)->(H a≠none->K.lookup a=none) ->
     codeAny (model P w) callerA (.call (.ref fa) ⟨[.ref a],[]⟩) (λr s'=>r=.ok (.ret (.bool true))/\OldK s₁.heap s'.heap/\s'.os=s₁.os/\AllBare s'.gens) s₁:=by
   intro H hO hS aH hA hK;have base_of:∀{b:we}{o:Obj},s₁.heap.get? b=some o->H b=none->(jS s₁.heap H).get? b=some o:=λe n=>zye e n
   have noA:∀{b:we}{o:Obj}{es:Array DictEntry}{ep:Nat},s₁.heap.get? b=some o->o.data=.dict es ep->H b=none:=λ{b o es ep} e d=>by
     cases q:H b with
     | none=>rfl
     | some u =>
       have e':b=a:=hA b (by rw[q];simp);subst e';rw[ha]at e;cases e;have d':Data.seq vs.toArray _=Data.dict es ep:=d;cases d'
   have nsK:∀{b:we}{m:Str->Option wg},s₁.heap.Ns b m->(jS s₁.heap H).Ns b m:=λ{b m} ⟨o,es,ep,e,d,r⟩=>⟨o,es,ep,base_of e (noA e d),d,r⟩
   have hKb:K.In (jS s₁.heap H):=λb o e=>base_of (KX b o e) (by
     cases q:H b with
     | none=>rfl
     | some u =>
       have e':b=a:=hA b (by rw[q];simp);subst e';rw[hK (by rw[q];simp)]at e;cases e)
   have hM:Mod K mg (jS s₁.heap H):=⟨hKb,nsK hns,⟨mb,nsK hb,hbb⟩,let ⟨mc,h1,h2⟩:=hlim;⟨mc,nsK h1,h2⟩⟩;have e0:pZ P w K mg (jS s₁.heap H) callerA [] s₁ H:=⟨rfl,hM,λb o e=>zAu e,Nat.le_of_eq (zwR _ _),trivial,λb hb=>absurd (show b∈([]:List we)from hb) (by simp),aH,.of_eq hg⟩;refine codeAny_mono ((F _ hKb (nsK hns)).run callerA [] s₁ H ⟨[.ref a],[]⟩ [.ref a] [.ref a] _ _ hr e0 (hbind s₁ (.ref a)) (.cons rfl .nil) (hsp H hO hS)) λr s' h=>?_
   cases r with
   | error e=>exact(hCX H e s' h).elim
   | ok fl =>
     cases fl with
     | next=>exact Wp h
     | brk=>exact Wp h
     | cont=>exact Wp h
     | ret u =>
       obtain⟨v,H',os,bare,un,hok',r',q⟩:=h;have q':v=.bl true:=q;subst q';obtain rfl:u=Value.bool true:=r';refine⟨rfl,OldK.of_keep λb o e=>?_,os,bare⟩;cases q:H b with
       | none=>exact un.keep b o e q (by intro z;exact absurd (show b∈([]:List we)from z) (by simp)) (by simp)
       | some u =>
         rcases hO b with z | ⟨ob,xs,z⟩
         . rw[q]at z;cases z
         . have z2:=un.gJ b ob _ z
           obtain⟨e1,_⟩:=aH b _ z;obtain⟨e2,_⟩:=hok' b _ z2;rw[e]at e1;cases e1;exact e2
 cases hk:K.lookup a with
 | some o =>
   -- the script is one of the module's own objects
   have e:=KX a o hk;rw[ha]at e;cases e;refine core (λ_=>none) (λ_=>.inl rfl) (.inr ⟨_,vs.toArray,_,hk,rfl,rfl,rfl,by rw[wR,lenV];exact hl,by simpa using rv⟩) (λb u z=>by have z':(none:Option HO)=some u:=z;cases z') (λb z=>absurd rfl z) λz=>absurd rfl z
 | none =>
   refine core (λb=>if b=a then some (.gH {cls:=.type "list",data:=.seq vs.toArray} (.lst (ns.map V.int)))else none) (λb=>?_) (.inl (.inr ⟨{cls:=.type "list",data:=.seq vs.toArray},if_pos rfl⟩)) (λb u z=>?_) (λb z=>?_) λ_=>hk
   . by_cases hb:b=a
     . exact .inr ⟨_,_,if_pos hb⟩
     . exact .inl (if_neg hb)
   . by_cases hb:b=a
     . have z':=(if_pos hb).symm.trans z
       cases z';subst hb;exact⟨ha,by rw[wo];exact hl,vs,_,rv,ha⟩
     . have z':=(if_neg hb).symm.trans z
       cases z'
   . by_cases hb:b=a
     . exact hb
     . exact absurd (if_neg hb) z
abbrev KOf{K:wb}{h:wQ}(_:K.In h):wb:=K
theorem Yi{l:Q4}{n k:Nat}{q:wS}{loose:List Str}{XP:(Str->Option wg)->wQ->Prop}{YP:wW->wQ->Prop}{d:DefRec}{K:Params->wb}{CX:wW->fR}{sp:wW->Sp}{x:Str}
  (hn:l.most=some n) (hn2:n<=ve) (hdf:d.params.defaults=[]) (hr:dP k callerA)
  (hY:∀(w:wW)(h:wQ),YP w h->(K w.params).In h)
  (F:∀(w:wW)(mg:Str->Option wg)(fa:we)(h:wQ),(K w.params).In h->h.Ns wM mg->mg d.name=some (.ref fa) ->
   ∃fd:wE,(∀(s:wm)(u:wg),BindsTo s fd ⟨[u],[]⟩ [(x,u)]) /\
    ∀base:wQ,(K w.params).In base->base.Ns wM mg->aP l.prog w (K w.params) mg base (CX w) k fa fd [x] (sp w))
  (hsp:∀(w:wW)(H:Hp)(a:we)(ns:List Int),ns.length<=n->yA H->aO (K w.params) H a (ns.map V.int)->sp w [.ref a] H (λv _=>v=.bl true) λ_ _ _=>False)
  (hCX:∀(w:wW)(H:Hp)(s:wm)(e:wg)(s':wm),CX w [] H s (λ_ _ _=>False) e s'->False) :
  uC q loose XP YP l.row.toRowW d [] (λf vs=>XZ f vs):=by
 refine Att.UX hn hdf λw s₀ s₁ mg mb fa o pm cd doc a vs ns G Y ho hd hcd hmg hobj hints hlen hg=>?_
 have KX:=hY w _ Y;obtain⟨fd,hb,hF⟩:=F w mg fa _ KX G.T.g hmg;exact zyS KX G.T.g G.T.b G.T.builtins G.T.nolimit hg hobj hints (Wm hlen hn2) hr hF hb (λH hO hS=>hsp w H a ns hlen hO hS) λH e s'=>hCX w H s₁ e s'
def ow(s:vc):Arguments:=match s with
 | .FunctionDef _ a _ _ _ _ _ _ _ _=>a
 | _=>{posonlyargs:=[],args:=[],vararg:=none,kwonlyargs:=[],kw_defaults:=[],kwarg:=none,defaults:=[]}
def jX(s:vc):List vc:=match s with
 | .FunctionDef _ _ b _ _ _ _ _ _ _=>b
 | _=>[]
def aA(s:vc):Scope:=match s with
 | .FunctionDef _ _ _ _ _ _ sc _ _ _=>sc
 | _=>{kind:=.function,names:=[],isGenerator:=false,isCoroutine:=false}
abbrev aS:fR:=λ_ _ _ _ _ _=>False
abbrev E0:XK:=λ_ _ _=>False
theorem zDu{X:Cx} : nE aS X E0:=λ_ _ _ _ _ _ _ h=>h.elim
structure jD(K:wb)(x qual:Str)(st:vc)(f:we)(fd:wE):Prop where
 ex:∃(oc:wg)(od:Option we)(kV doc pm:wg)(an:Option we)(cdv ct:wg)(osl:Array (Option wg)),
   fd=VL x qual (ow st) (jX st) (aA st) .none kV doc pm an cdv ct/\K.lookup f=some ⟨oc,od,.func fd,osl⟩/\Qm K cdv qual=true
 kp:V7 K (.ref f)=true
section
variable{P:wS}{w:wW}{K:wb}{mg:Str->Option wg}{base:wQ}
theorem jD.ok{x qual:Str}{st:vc}{f:we}{fd:wE}{N ps:List Str}{k:Nat}{sp:Sp}(F:jD K x qual st f fd)(S:aQ N ps (aA st))(len:∀vs H Q E,sp vs H Q E->vs.length=ps.length)
  (hbody:∀(cdv:wg)(A:vb)(outer:List Env)(s:wm)(H:Hp)(vs:List V)(Q:VK)(E:XK),dP k (A.deeper (envOfC qual (aA st) s.heap.objs.size f cdv))->sp vs H Q E ->
   ∃t,fv (gU aS P w K mg base N qual (aA st) f cdv A outer s H E).yN (jX st) t/\t {nx:=λ_ H'=>Q .bX H',rt:=Q} (start N vs) H):aP P w K mg base aS (k+1) f fd ps sp:=by
 obtain⟨oc,od,kV,doc,pm,an,cdv,ct,osl,rfl,lk,hcd⟩:=F.ex;refine M0 lk hcd S len λA outer s H vs Q E hr hsp=>?_
 obtain⟨t,h,q⟩:=hbody cdv A outer s H vs Q E hr hsp;exact⟨t,h.yN,q⟩
theorem jD.binds{x qual:Str}{st:vc}{f:we}{fd:wE}{ps:List Str}(F:jD K x qual st f fd)
  (h:∀(kV doc pm:wg)(an:Option we)(cdv ct:wg)(us:List wg),us.length=ps.length->bindArgs (VL x qual (ow st) (jX st) (aA st) .none kV doc pm an cdv ct) ⟨us,[]⟩=pure (ps.zip us)):k8 K fd ps []:=by
 obtain⟨oc,od,kV,doc,pm,an,cdv,ct,osl,rfl,lk,hcd⟩:=F.ex;exact .all (h kV doc pm an cdv ct)
theorem Tg{x qual:Str}{st:vc}{f:we}{oc:wg}{od an:Option we}{osl:Array (Option wg)}{kV doc pm cdv ct:wg}(l:K.lookup f=some ⟨oc,od,.func (VL x qual (ow st) (jX st) (aA st) .none kV doc pm an cdv ct),osl⟩)
  (c:Qm K cdv qual=true) (k:V7 K (.ref f)=true):jD K x qual st f (VL x qual (ow st) (jX st) (aA st) .none kV doc pm an cdv ct):=⟨⟨oc,od,kV,doc,pm,an,cdv,ct,osl,rfl,l,c⟩,k⟩
end
theorem kH{n:Nat}(h:n<=1000):n<ve:=WY h (by decide)
section
variable{X:Cx}
theorem pv(i:Nat){x:Str}{pos:Pos}(hN:X.N[i]? = some x:=by rfl)(hv:zj X.env.scope x:=by first | exact Or.inl rfl | exact Or.inr (Or.inl rfl) | exact Or.inr (Or.inr rfl))(hd:(x == ("__debug__" : Str))=false:=by decide)
  (hcd:(x == ("__classdict__" : Str))=false:=by decide):PE X (.Name x pos) (lS i):=zB5 hN hv hd hcd
end
theorem lC{A B:Prop}(h:B):if false=true then A else B:=by
 rw[if_neg vC];exact h
theorem lW{A B:Prop}(h:A):if true=true then A else B:=by
 rw[if_pos rfl];exact h
def ag(H H':Hp):Prop:=∀b o,H b=some o->H' b=some o
theorem ag.refl(H:Hp):ag H H:=λ_ _ h=>h
theorem ag.trans{H H1 H2:Hp}(a:ag H H1)(b:ag H1 H2):ag H H2:=λc o h=>b c o (a c o h)
theorem ag.seq{K:wb}{H H':Hp}{a:we}{xs:List V}(e:ag H H')(h:aO K H a xs):aO K H' a xs:=by
 rcases h with(h | ⟨o,h⟩) | h
 ·exact .inl (.inl (e _ _ h))
 ·exact .inl (.inr ⟨o,e _ _ h⟩)
 ·exact .inr h
end L2
namespace GM
def dv(t b:Int):Int:=if b<0 then -((vx t b:Nat):Int)else((vx t b:Nat):Int)
theorem Ff{t b:Int}(hb:b≠0):0<vx t b:=V8 t hb
theorem Cy{t b:Int}(hb:b≠0):dv t b≠0:=by
 have:=Ff (t:=t) hb;unfold dv
 split<;>lia
theorem fD{a d:Int}(h:d ∣ a)(hd:d≠0):a.fdiv d=a / d:=by
 obtain⟨k,rfl⟩:=h;rw[Int.mul_fdiv_cancel_left _ hd,VN _ hd]
theorem DX{t b:Int}(hb:b≠0):t.fdiv (dv t b)=(wH t b).num:=by
 have hg:=Ff (t:=t) hb;have h1:((vx t b:Nat):Int) ∣ t:=qd ..;rw[Rat.num_divInt,xZ b t];unfold dv
 by_cases h:b<0
 ·rw[if_pos h,QF h,fD (Xy.mpr h1) (by lia),Int.ediv_neg]
  obtain⟨k,hk⟩:=h1;have:(-1:Int)*t=((vx t b:Nat):Int)*(-k):=by rw[X1,Xz,<- hk]
  rw[this,VN _ (by lia)];have e:t / ((vx t b:Nat):Int)=k:=Qv (by lia) hk;rw[e]
 ·rw[if_neg h,xc (by lia),Int.one_mul,fD h1 (by lia)]
theorem Nt{t b:Int}(hb:b≠0):b.fdiv (dv t b)=((wH t b).den:Int):=by
 have hg:=Ff (t:=t) hb;have h1:((vx t b:Nat):Int) ∣ b:=qO ..;rw[uo,if_neg hb,xZ b t];unfold dv
 by_cases h:b<0
 ·rw[if_pos h,fD (Xy.mpr h1) (by lia),Int.ediv_neg,VO]
  obtain⟨k,hk⟩:=h1;have:(b.natAbs:Int)=((vx t b:Nat):Int)*(-k):=by rw[Xz,<- hk];lia
  rw[this,VN _ (by lia)];have e:b / ((vx t b:Nat):Int)=k:=Qv (by lia) hk;rw[e]
 ·rw[if_neg h,fD h1 (by lia),VO]
  have:(b.natAbs:Int)=b:=by lia
  rw[this]
def hW(p q:Int):Bool:=decide (1<=q)&&decide (vx p q=1)
theorem SQ(r:Rat):hW r.num r.den=true:=by
 have h:=r.reduced;have hd:=r.den_pos;simp only[hW,wZ,decide_eq_true_eq];refine⟨by lia,?_⟩;have:Nat.gcd r.num.natAbs r.den=1:=h
 simpa [vx] using this
theorem zq0{p q:Int}(h:hW p q=true):∃r:Rat,p=r.num/\q=(r.den:Int):=by
 simp only[hW,wZ,decide_eq_true_eq]at h;obtain⟨h1,h2⟩:=h;refine⟨⟨p,q.toNat,by lia,?_⟩,rfl,by show q=((q.toNat:Nat):Int);lia⟩;have e:q.toNat=q.natAbs:=by lia
 rw[e];exact h2
theorem J_{a b:Int}(hb:0<b)(ha:0<=a):vx b (a % b)=vx a b:=by
 rw[xZ a b];have e:a=a % b+b*(a / b):=(Int.emod_add_mul_ediv a b).symm
 conv=>rhs;rw[e]
 rw[Int.gcd_add_mul_left_right]
structure Bd(n:Nat)(x:Int):Prop where
 lt:x.natAbs<2^n
theorem Bd.mono{m n:Nat}{x:Int}(h:Bd m x)(e:m<=n):Bd n x:=⟨w5 h.lt (Nat.pow_le_pow_right (by decide) e)⟩
theorem Bd.mul{m n:Nat}{x y:Int}(h:Bd m x)(k:Bd n y):Bd (m+n) (x*y):=by
 refine⟨?_⟩;rw[xo,XA];exact Nat.mul_lt_mul'' h.lt k.lt
theorem Bd.add{m n:Nat}{x y:Int}(h:Bd m x)(k:Bd n y):Bd (max m n+1) (x+y):=by
 have h1:=(h.mono (X2 m n)).lt;have h2:=(k.mono (XG m n)).lt;refine⟨?_⟩;rw[x6]
 lia
theorem Bd.sub{m n:Nat}{x y:Int}(h:Bd m x)(k:Bd n y):Bd (max m n+1) (x-y):=by
 have h1:=(h.mono (X2 m n)).lt;have h2:=(k.mono (XG m n)).lt;refine⟨?_⟩;rw[x6]
 lia
theorem Bd.neg{n:Nat}{x:Int}(h:Bd n x):Bd n (-x):=⟨by rw[Int.natAbs_neg];exact h.lt⟩
theorem Bd.le{n:Nat}{x y:Int}(h:Bd n x)(e:y.natAbs<=x.natAbs):Bd n y:=⟨WY e h.lt⟩
theorem Bd.log{n:Nat}{x:Int}(h:Bd n x)(hn:0<n):x.natAbs.log2<n:=by
 by_cases e:x.natAbs=0
 ·rw[e];exact hn
 ·exact(Nat.log2_lt e).mpr h.lt
theorem zCi(t b:Int)(hb:b≠0):(wH t b).num.natAbs<=t.natAbs:=by
 rw[<- DX hb]
 have h1:dv t b ∣ t:=by
  have:((vx t b:Nat):Int) ∣ t:=qd ..;unfold dv;split
  ·exact Xy.mpr this
  ·exact this
 rw[fD h1 (Cy hb)];exact QQ t _
theorem DL(t b:Int)(hb:b≠0):(wH t b).den<=b.natAbs:=by
 rw[uo,if_neg hb];exact Nat.div_le_self _ _
structure ah(n:Nat)(x:Rat):Prop where
 t:Bd n x.num
 b:Bd n (x.den:Int)
theorem ah.mono{m n:Nat}{x:Rat}(h:ah m x)(e:m<=n):ah n x:=⟨h.t.mono e,h.b.mono e⟩
theorem ah.divInt{n:Nat}{t b:Int}(hb:b≠0)(h1:Bd n t)(h2:Bd n b):ah n (wH t b) :=
 ⟨h1.le (zCi t b hb),h2.le (by have:=DL t b hb;simpa using this)⟩
theorem Bd.mJ{m:Int}(h1 : -100000000000000000000000000000000000000<=m)(h2:m<=100000000000000000000000000000000000000):Bd 128 m:=⟨by
 have e:(2:Nat)^128=340282366920938463463374607431768211456:=by decide
 rw[e]
 lia⟩
theorem f_(x:Rat):(x.den:Int)≠0:=by have:=x.den_pos;lia
theorem den_pos(x:Rat):(0:Int)<(x.den:Int):=by have:=x.den_pos;lia
theorem Eh(x y:Rat):(x.den:Int)*(y.den:Int)≠0:=Q5 (f_ x) (f_ y)
theorem zB1(x y:Rat):wH (x.num*(y.den:Int)+y.num*(x.den:Int)) ((x.den:Int)*(y.den:Int))=x+y:=by
 rw[<- Vt,QU,Rat.add_def']
theorem zC4(x y:Rat):wH (x.num*(y.den:Int)-y.num*(x.den:Int)) ((x.den:Int)*(y.den:Int))=x-y:=by
 rw[<- Vt,QU,Rat.sub_def']
theorem Zm(x y:Rat):wH (x.num*y.num) ((x.den:Int)*(y.den:Int))=x*y:=by
 rw[<- Vt,QU,Rat.mul_def']
theorem zEb(x y:Rat):decide (x.num*(y.den:Int)<y.num*(x.den:Int))=decide (x<y):=by
 rw[vH,decide_eq_true_eq,decide_eq_true_eq,Rat.lt_iff]
theorem C4{y:Rat}(h:y≠0):y.num≠0:=λe=>h (Rat.num_eq_zero.mp e)
theorem ah.add{m n:Nat}{x y:Rat}(h:ah m x)(k:ah n y):ah (m+n+1) (x+y):=by
 rw[<- zB1];refine ah.divInt (Eh x y) ?_ ((h.b.mul k.b).mono (by lia));exact((h.t.mul k.b).add (k.t.mul h.b)).mono (by lia)
theorem ah.sub{m n:Nat}{x y:Rat}(h:ah m x)(k:ah n y):ah (m+n+1) (x-y):=by
 rw[<- zC4];refine ah.divInt (Eh x y) ?_ ((h.b.mul k.b).mono (by lia));exact((h.t.mul k.b).sub (k.t.mul h.b)).mono (by lia)
theorem ah.mul{m n:Nat}{x y:Rat}(h:ah m x)(k:ah n y):ah (m+n) (x*y):=by
 rw[<- Zm];exact ah.divInt (Eh x y) (h.t.mul k.t) (h.b.mul k.b)
theorem ah.zero:ah 1 0:=⟨⟨by decide⟩,⟨by decide⟩⟩
theorem ah.one:ah 1 1:=⟨⟨by decide⟩,⟨by decide⟩⟩
def aG(a b:Rat):Nat->Rat
 | 0=>0
 | n+1=>a*aG a b n+b
def push(a b:Rat):Nat->Rat->Rat
 | 0,x=>x
 | n+1,x=>a*push a b n x+b
theorem jf(a b:Rat)(n:Nat)(x:Rat):push a b n x=a^n*x+aG a b n:=by
 induction n with
 | zero=>simp[push,aG,Rat.add_zero,qB]
 | succ n ih=>rw[push,ih,aG,W4];grind
theorem zyC(a b:Rat)(m n:Nat)(x:Rat):push a b (m+n) x=push a b n (push a b m x):=by
 induction n with
 | zero=>rfl
 | succ n ih=>rw[<- VT,push,push,ih]
theorem ah.pow{k:Nat}{a:Rat}(h:ah k a)(n:Nat):ah (k*n+1) (a^n):=by
 induction n with
 | zero=>rw[qB];exact ah.one.mono (by lia)
 | succ n ih=>rw[W4];exact(ih.mul h).mono (by rw[qC];lia)
theorem ah.aG{k:Nat}{a b:Rat}(h:ah k a)(hb:ah k b)(n:Nat):ah ((2*k+1)*n+1) (aG a b n):=by
 induction n with
 | zero=>exact ah.zero.mono (by lia)
 | succ n ih=>exact((h.mul ih).add hb).mono (by rw[qC];lia)
theorem cV(t:Int){u:Int}(hu:u≠0):(wH t u)*(u:Rat)=(t:Rat):=by
 rw[Rat.divInt_eq_div];exact WZ λz=>hu (Vb.mp z)
theorem iP(x:Rat):x*((x.den:Int):Rat)=(x.num:Rat):=by
 have:=cV x.num (f_ x)
 rwa[Qw]at this
theorem gC{t u:Int}{x:Rat}(hu:u≠0)(h:x*(u:Rat)=(t:Rat)):wH t u=x:=by
 have h1:=cV t hu;have h2:(wH t u-x)*(u:Rat)=0:=by grind
 have h3:(u:Rat)≠0:=by
  intro z;exact hu (Vb.mp z)
 have:=X6.mp h2
 grind
theorem YI(a b:Rat)(t u:Int)(hu:u≠0):wH (a.num*b.den*t+b.num*a.den*u) (u*a.den*b.den)=a*wH t u+b:=by
 refine gC (Q5 (Q5 hu (f_ a)) (f_ b)) ?_;have h1:=cV t hu;have h2:=iP a;have h3:=iP b;simp only[Wd,qt]
 grind
theorem RG(a b:Rat)(n:Nat)(x y:Rat):push a b n y-push a b n x=a^n*(y-x):=by
 rw[jf,jf];grind
theorem pB{a:Rat}(h:0<a)(n:Nat):0<a^n:=Rat.pow_pos h
theorem zuN{a:Rat}(h:1<a)(n:Nat):1<a^(n+1):=by
 induction n with
 | zero=>simpa using h
 | succ n ih =>
  rw[W4];have:=qo (show 0<a^(n+1)-1 by grind) (show 0<a-1 by grind)
  grind
theorem zt3{a:Rat}(h0:0<a)(h:a<1)(n:Nat):a^(n+1)<1:=by
 induction n with
 | zero=>simpa using h
 | succ n ih =>
  rw[W4];have:=qo (show 0<1-a^(n+1) by grind) h0
  grind
theorem one_pow'(n:Nat):(1:Rat)^n=1:=by
 induction n with
 | zero=>rfl
 | succ n ih=>rw[W4,ih,xf]
theorem rX{u:Int}(h:0<u):(0:Rat)<(u:Rat):=X8.mpr h
theorem Zq{t u:Int}(hu:0<u)(ht:0<t):0<wH t u:=by
 have e:=cV t (show u≠0 by lia);have:=rX ht;rw[<- e]at this;exact(Rat.mul_pos_iff_of_pos_right (rX hu)).mp this
theorem Rk{t u c:Int}(hu:0<u)(h:t<=c*u):wH t u<=(c:Rat):=by
 have e:=cV t (show u≠0 by lia);refine Rat.le_of_mul_le_mul_right (c:=(u:Rat)) ?_ (rX hu);rw[e,<- Wd];exact WS.mpr h
theorem ZU{t u c:Int}(hu:0<u)(h:t<c*u):wH t u<(c:Rat):=by
 have e:=cV t (show u≠0 by lia);refine QG (c:=(u:Rat)) ?_ (vY (rX hu));rw[e,<- Wd];exact qT.mpr h
theorem CY{t u:Int}(hu:0<u):((wH t u).den:Int)<=u:=by
 have:=DL t u (by lia)
 lia
theorem NX(x:Rat):wH ((x.den:Int)-x.num) x.den=1-x:=by
 refine gC (f_ x) ?_;have:=iP x;rw[Rat.intCast_sub]
 grind
theorem MR(x y:Rat):x.num*(y.den:Int)+y.num*(x.den:Int)<(x.den:Int)*(y.den:Int) ↔ x+y<1:=by
 have e:(x+y)*(((x.den:Int)*(y.den:Int):Int):Rat)=((x.num*(y.den:Int)+y.num*(x.den:Int):Int):Rat):=by
  have h1:=iP x;have h2:=iP y;simp only[Wd,qt]
  grind
 have p:(0:Rat)<(((x.den:Int)*(y.den:Int):Int):Rat):=rX (We (den_pos x) (den_pos y))
 constructor
 ·intro h
  refine QG (c:=(((x.den:Int)*(y.den:Int):Int):Rat)) ?_ (vY p);rw[e,xf];exact qT.mpr h
 ·intro h
  have:=Rat.mul_lt_mul_of_pos_right h p;rw[e,xf]at this;exact qT.mp this
theorem zwr{x:Rat}{c:Int}(h:x<=(c:Rat)):x.num<=c*x.den:=by
 have:=(xB x c).mp h
 simpa using this
theorem zCR{x:Rat}(h:0<=x):0<=x.num:=qK.mpr h
theorem ah.small{x:Rat}{c d:Nat}(h0:0<=x)(hc:x<=((c:Int):Rat))(hd:x.den<=d)(z:c*d<1024)(hd2:d<1024):ah 10 x:=by
 have h1:=zwr hc;have h2:=zCR h0;have h3:(c:Int)*(x.den:Int)<=(c:Int)*(d:Int):=Int.mul_le_mul_of_nonneg_left (by lia) (by lia);have h4:(c:Int)*(d:Int)<1024:=by rw[<- Vt];lia
 refine⟨⟨?_⟩,⟨?_⟩⟩
 ·show _<1024
  lia
 ·show _<1024
  lia
theorem yg{x:Rat}{z u:Int}(e:x=wH z u)(h1:1<=u)(h2:u<=8)(h3:1<=z)(h4:z<=4*u):0<x/\x<=4/\x.den<=8:=by
 subst e;refine⟨Zq (by lia) (by lia),Rk (c:=4) (by lia) h4,?_⟩;have:=CY (t:=z) (show 0<u by lia)
 lia
theorem sL{y:Rat}{r u:Int}(e:y=wH r u)(h1:1<=u)(h2:u<=12)(h3:0<=r)(h4:r<=u):0<=y/\y<=1/\y.den<=12:=by
 subst e;refine⟨Xi h3 (by lia),Rk (c:=1) (by lia) (by lia),?_⟩;have:=CY (t:=r) (show 0<u by lia)
 lia
theorem zso(x:Rat):(1-x).den<=x.den:=by
 rw[<- NX];have:=CY (t:=(x.den:Int)-x.num) (den_pos x)
 lia
theorem ah.four:ah 3 4:=⟨⟨by decide +kernel⟩,⟨by decide +kernel⟩⟩
theorem Tv{f:Rat->Rat}{xs:List Rat}{i:Nat}(h:i<xs.length):(xs.map f).getD i 0=f (xs.getD i 0):=by
 rw[wa,wa,wu,wc h]
 rfl
theorem zzL{a b:Rat}(ha:0<a)(n:Nat)(x y:Rat):push a b n x<push a b n y ↔ x<y:=by
 have e:=RG a b n x y;have p:=pB ha n
 constructor
 ·intro h
  have:0<a^n*(y-x):=by rw[<- e];grind
  have h2:=(Rat.mul_pos_iff_of_pos_left p).mp this
  grind
 ·intro h
  have:0<a^n*(y-x):=qo p (by grind)
  grind
def dX(a b:Rat)(n:Nat)(xs:List Rat)(i:Nat):List Rat:=(xs.map λx=>push a b n (x+(1-xs.getD i 0))).set i 0
def aW(a b:Rat)(ns:List Int)(xs:List Rat):Nat->List Rat
 | 0=>xs
 | k+1=>dX a b (ns.getD k 0).toNat (aW a b ns xs k) k
theorem iL(a b:Rat)(n:Nat)(xs:List Rat)(i:Nat):(dX a b n xs i).length=xs.length:=by simp[dX]
theorem di(a b:Rat)(ns:List Int)(xs:List Rat):∀k,(aW a b ns xs k).length=xs.length
 | 0=>rfl
 | k+1=>by rw[aW,iL,di a b ns xs k]
theorem ic(a b:Rat)(n:Nat)(xs:List Rat)(i j:Nat)(hj:j<xs.length):(dX a b n xs i).getD j 0=if j=i then 0 else push a b n (xs.getD j 0+(1-xs.getD i 0)):=by
 unfold dX;rw[wa,W6]
 by_cases h:i=j
 ·subst h
  simp[hj]
 ·rw[if_neg h,if_neg (Wj h),wu,wc hj]
  simp[wa,hj]
def Cm(m:Nat)(xs:List Rat):Prop:=∃B:Int,0<B/\Bd m B /\ ∀x∈xs,∃t:Int,x=wH t B/\Bd m t
theorem Cm.mono{m n:Nat}{xs:List Rat}(h:Cm m xs)(e:m<=n):Cm n xs:=by
 obtain⟨B,h0,h1,h2⟩:=h;exact⟨B,h0,h1.mono e,λx hx=>let ⟨t,e1,e2⟩:=h2 x hx;⟨t,e1,e2.mono e⟩⟩
theorem Cm.eQ{m:Nat}{xs:List Rat}{x:Rat}(h:Cm m xs)(hx:x∈xs):ah m x:=by
 obtain⟨B,h0,h1,h2⟩:=h;obtain⟨t,rfl,ht⟩:=h2 x hx;exact ah.divInt (by lia) ht h1
theorem Cm.pos{m:Nat}{xs:List Rat}(h:Cm m xs):1<=m:=by
 obtain⟨B,h0,h1,_⟩:=h;cases m with
 | zero=>have:=h1.lt;simp at this;lia
 | succ m=>lia
theorem Cm.get{m:Nat}{xs:List Rat}(h:Cm m xs)(i:Nat):ah m (xs.getD i 0):=by
 rcases wJ i xs.length with z | z
 ·rw[wa,wc z]
  exact h.eQ (vt z)
 ·rw[wa,wP z]
  exact ah.zero.mono h.pos
theorem rJ{a b:Rat}(ba:ah 10 a)(bb:ah 10 b){m:Nat}{t u:Int}(hu:0<u)(bt:Bd m t)(bu:Bd m u):∀n:Nat,0<u*((a.den:Int)*(b.den:Int))^n/\Bd (m+21*n) (u*((a.den:Int)*(b.den:Int))^n) /\
  ∃T:Int,push a b n (wH t u)=wH T (u*((a.den:Int)*(b.den:Int))^n)/\Bd (m+21*n) T
 | 0=>⟨by simpa using hu,by simpa using bu,t,by simp[push],by simpa using bt⟩
 | n+1=>by
  obtain⟨h1,h2,T,e,hT⟩:=rJ ba bb hu bt bu n;have eb:u*((a.den:Int)*(b.den:Int))^(n+1)=u*((a.den:Int)*(b.den:Int))^n*(a.den:Int)*(b.den:Int):=by rw[Qc,<- VU,VU (u*_)]
  rw[eb];refine⟨We (We h1 (den_pos a)) (den_pos b),((h2.mul ba.b).mul bb.b).mono (by lia),a.num*(b.den:Int)*T+b.num*(a.den:Int)*(u*((a.den:Int)*(b.den:Int))^n),?_,(((ba.t.mul bb.b).mul hT).add ((bb.t.mul ba.b).mul h2)).mono (by lia)⟩;rw[push,e];exact(YI a b T _ (by lia)).symm
theorem Cm.mK{m:Nat}{xs:List Rat}{a b:Rat}(h:Cm m xs)(ba:ah 10 a)(bb:ah 10 b)(n i:Nat):Cm (m+2+21*n) (dX a b n xs i):=by
 obtain⟨B,h0,h1,h2⟩:=h
 have hz:∃z:Int,xs.getD i 0=wH z B/\Bd m z:=by
  rcases wJ i xs.length with q | q
  ·rw[wa,wc q]
   exact h2 _ (vt q)
  ·rw[wa,wP q]
   exact⟨0,by simp,⟨by simp;exact Wl m⟩⟩
 obtain⟨z,ez,hz⟩:=hz;have key:=λ(t:Int)(ht:Bd m t)=>rJ ba bb h0 (show Bd (m+2) (t+B-z)from((ht.add h1).sub hz).mono (by lia)) (h1.mono (by lia)) n
 obtain⟨p1,p2,_⟩:=key 0 ⟨by simp;exact Wl m⟩;refine⟨_,p1,p2,λx hx=>?_⟩
 have hx':x=0 \/ ∃y∈xs,x=push a b n (y+(1-xs.getD i 0)):=by
  unfold dX at hx;rcases QR hx with q | q
  ·obtain⟨y,hy,rfl⟩:=wO.mp q
   exact .inr ⟨y,hy,rfl⟩
  ·exact .inl q
 rcases hx' with rfl | ⟨y,hy,rfl⟩
 ·exact⟨0,by simp,⟨by simp;exact Wl _⟩⟩
 ·obtain⟨t,rfl,ht⟩:=h2 y hy
  obtain⟨_,_,T,e,hT⟩:=key t ht
  have e2:wH t B+(1-xs.getD i 0)=wH (t+B-z) B:=by
   rw[ez]
   symm
   refine gC (by lia) ?_;have q1:=cV t (show B≠0 by lia);have q2:=cV z (show B≠0 by lia);have q3:((t+B-z:Int):Rat)=(t:Rat)+(B:Rat)-(z:Rat):=by push_cast;rfl
   rw[q3,<- q1,<- q2]
   grind
  rw[e2];exact⟨T,e,hT⟩
theorem Cm.snoc{m:Nat}{xs:List Rat}(h:Cm m xs):Cm m (xs++[0]):=by
 obtain⟨B,h0,h1,h2⟩:=h;refine⟨B,h0,h1,λx hx=>?_⟩;rcases vW.mp hx with q | q
 ·exact h2 x q
 ·rw[wY.mp q]
  exact⟨0,by simp,⟨by simp;exact Wl m⟩⟩
def upTo(ns:List Int)(k:Nat):Nat:=((ns.take k).map Q6).sum
theorem rG{ns:List Int}{k:Nat}(h:k<ns.length):upTo ns (k+1)=upTo ns k+(ns.getD k 0).toNat:=by
 unfold upTo;rw[V4,wc h,wa,wc h,vK,List.sum_append]
 show _+([ns[k].toNat]:List Nat).sum=_
 rw[List.sum_singleton]
 rfl
theorem Cm.rows{m:Nat}{xs:List Rat}{a b:Rat}{ns:List Int}(h:Cm m xs)(ba:ah 10 a)(bb:ah 10 b):∀k,k<=ns.length->Cm (m+2*k+21*upTo ns k) (aW a b ns xs k)
 | 0,_=>h.mono (by lia)
 | k+1,hk=>by
  have:=(Cm.rows h ba bb (ns:=ns) k (by lia)).mK ba bb (ns.getD k 0).toNat k;rw[aW];refine this.mono ?_;rw[rG (by lia)]
  lia
theorem Om(a:Rat)(m:Nat):∀n:Nat,a^(m+n)=a^m*a^n
 | 0=>by rw[Nat.add_zero,qB,Rat.mul_one]
 | n+1=>by rw[<- VT,W4,Om a m n,W4,uD]
theorem Y9(a b:Rat)(n:Nat)(xs ys:List Rat)(i j:Nat)(hx:xs.length=ys.length)(hj:j<xs.length) :
  (dX a b n xs i).getD j 0-(dX a b n ys i).getD j 0=a^n*((xs.getD j 0-ys.getD j 0)-(xs.getD i 0-ys.getD i 0)):=by
 rw[ic a b n xs i j hj,ic a b n ys i j (by lia)]
 by_cases h:j=i
 ·subst h
  rw[if_pos rfl,if_pos rfl]
  grind
 ·rw[if_neg h,if_neg h,RG]
  grind
theorem FD(a b:Rat)(ns:List Int)(xs ys:List Rat)(hx:xs.length=ys.length)(hn:ns.length=xs.length)(l:Nat)(hl:l+1=xs.length)(h0:xs.getD l 0=ys.getD l 0) :
  ∀k,k<=ns.length->∀j,j<xs.length->(aW a b ns xs k).getD j 0-(aW a b ns ys k).getD j 0=a^upTo ns k*((xs.getD j 0-ys.getD j 0)-(if k=0 then 0 else xs.getD (k-1) 0-ys.getD (k-1) 0))
 | 0,_,j,hj=>by simp[aW,upTo];grind
 | k+1,hk,j,hj=>by
  rw[aW,aW,Y9 _ _ _ _ _ _ _ (by rw[di,di,hx]) (by rw[di];exact hj),FD a b ns xs ys hx hn l hl h0 k (by lia) j hj,FD a b ns xs ys hx hn l hl h0 k (by lia) k (by lia),rG (by lia),Om];simp only[qD];rw[if_neg (show ¬ k+1=0 by lia)]
  grind
def lE(a b:Rat)(n:Nat)(xs:List Rat):List Rat:=(xs.tail.map λy=>push a b n (y+(1-xs.headD 0)))++[0]
def turned(a b:Rat)(ns:List Int)(xs:List Rat):Nat->List Rat
 | 0=>xs
 | k+1=>lE a b (ns.getD k 0).toNat (turned a b ns xs k)
theorem mX(a b:Rat)(ns:List Int)(xs:List Rat):∀k,k<=xs.length->turned a b ns xs k=(aW a b ns xs k).drop k++(aW a b ns xs k).take k
 | 0,_=>by simp[turned,aW]
 | k+1,hk=>by
  have hl:(aW a b ns xs k).length=xs.length:=di a b ns xs k;have hk':k<(aW a b ns xs k).length:=by lia
  rw[turned,mX a b ns xs k (by lia),aW];generalize aW a b ns xs k=r at *;generalize (ns.getD k 0).toNat=n;have e1:r.drop k=r[k]::r.drop (k+1):=qu hk';have e2:r.getD k 0=r[k]:=by rw[wa,wc hk'];rfl
  unfold lE dX;rw[e1,e2,QV,ur,List.headD_cons,List.drop_set_of_lt (by lia),vK,uE,V5]
  congr 1
  have hm:k<(r.map λx=>push a b n (x+(1-r[k]))).length:=by rw[wo];exact hk'
  rw[List.map_take];generalize (r.map λx=>push a b n (x+(1-r[k])))=s at hm ⊢;rw[List.take_set,V4,wc hm]
  show _=(s.take k++[s[k]]).set k 0
  have hlk:(s.take k).length=k:=by rw[WD];lia
  rw[List.set_append_right _ _ (by lia),hlk,W5]
  rfl
theorem zug(a b:Rat)(ns:List Int)(xs:List Rat)(h:ns.length=xs.length):turned a b ns xs ns.length=aW a b ns xs ns.length:=by
 rw[mX a b ns xs _ (by lia)];have hl:(aW a b ns xs ns.length).length=xs.length:=di a b ns xs _;rw[xg (by lia),Vl (by lia),Qd]
def m3(xs:List Rat):Nat->Int
 | 0=>1
 | k+1=>m3 xs k*((xs.getD k 0).den:Int)
theorem MX(xs:List Rat):∀k,0<m3 xs k
 | 0=>by show(0:Int)<1;decide
 | k+1=>We (MX xs k) (den_pos _)
theorem RY(xs:List Rat):∀k j,j<k->((xs.getD j 0).den:Int) ∣ m3 xs k
 | 0,j,h=>by lia
 | k+1,j,h=>by
  rcases wJ j k with z | z
  ·exact qh (RY xs k j z) (VA ..)
  ·have:j=k:=by lia
   subst this;exact XH ..
theorem OO{xs:List Rat}{m:Nat}(h:∀i,ah m (xs.getD i 0)):∀k,Bd (m*k+1) (m3 xs k)
 | 0=>⟨by show(1:Int).natAbs<_;simp⟩
 | k+1=>by
  rw[m3];refine((OO h k).mul (h k).b).mono ?_;rw[Nat.mul_add];lia
theorem ztM{x:Rat}{B:Int}(hB:0<B)(h:(x.den:Int) ∣ B):wH (x.num*B.fdiv x.den) B=x:=by
 obtain⟨c,rfl⟩:=h;rw[fD (VA ..) (f_ x),VN _ (f_ x)];refine gC (by lia) ?_;have:=iP x;rw[Wd,Wd,<- this]
 grind
theorem zAg{B d:Int}{m:Nat}(hd:0<d)(hB:0<B)(h:Bd m B):Bd m (B.fdiv d):=by
 refine h.le ?_;rw[qi _ (by lia)];have h1:0<=B / d:=X9 (by lia) (by lia);have h2:B / d<=B:=XI _ (by lia)
 lia
theorem Cv(a b:Rat)(ns:List Int)(xs:List Rat){k:Nat}(hk:k<xs.length):(turned a b ns xs k).headD 0=(aW a b ns xs k).getD k 0:=by
 have hl:=di a b ns xs k;rw[mX a b ns xs k (by lia),qu (by lia),wa,wc (by lia)]
 rfl
theorem Gf(a b:Rat)(ns:List Int)(xs:List Rat)(hx:0<xs.length):∀k,(turned a b ns xs k).length=xs.length
 | 0=>rfl
 | k+1=>by
  have:=Gf a b ns xs hx k;rw[turned,lE,wX,wo,qX,this];simp;lia
theorem Oj(x y:Rat):((x*y).num=x.num / (x.num.natAbs.gcd y.den:Nat)*(y.num / (y.num.natAbs.gcd x.den:Nat)))/\((x*y).den=x.den / (y.num.natAbs.gcd x.den)*(y.den / (x.num.natAbs.gcd y.den))):=by
 show(Rat.mul x y).num=_/\(Rat.mul x y).den=_
 unfold Rat.mul;simp only[Int.divExact_eq_ediv,Nat.divExact_eq_div]
 constructor<;>trivial
theorem Of(x y:Rat):((x+y).num=(x.num*((y.den / x.den.gcd y.den:Nat):Int)+y.num*((x.den / x.den.gcd y.den:Nat):Int)) / (((x.num*((y.den / x.den.gcd y.den:Nat):Int)+y.num*((x.den / x.den.gcd y.den:Nat):Int)).natAbs.gcd (x.den.gcd y.den):Nat):Int))/\((x+y).den=x.den / (x.den.gcd y.den)*(y.den / ((x.num*((y.den / x.den.gcd y.den:Nat):Int)+y.num*((x.den / x.den.gcd y.den:Nat):Int)).natAbs.gcd (x.den.gcd y.den)))):=by
 show(Rat.add x y).num=_/\(Rat.add x y).den=_
 unfold Rat.add
 by_cases hg:x.den.gcd y.den=1
 ·simp[hg]
 ·simp only[hg,dite_false,Rat.maybeNormalize_eq]
  refine⟨by simp,?_⟩;simp;have:(x.num*((y.den / x.den.gcd y.den:Nat):Int)+y.num*((x.den / x.den.gcd y.den:Nat):Int)).natAbs.gcd (x.den.gcd y.den) ∣ y.den:=Nat.dvd_trans (Xj _ _) (Xj _ _);simp at this;rw[Nat.mul_div_assoc _ this]
def fA(x y:Rat):Int:=((vx (x.den:Int) (y.den:Int):Nat):Int)
def kX(x y:Rat):Int:=x.num*(y.den:Int).fdiv (fA x y)+y.num*(x.den:Int).fdiv (fA x y)
def jB(x y:Rat):Int:=((vx (kX x y) (fA x y):Nat):Int)
theorem sS(x y:Rat):0<fA x y:=by
 have:0<vx (x.den:Int) (y.den:Int):=Int.gcd_pos_of_ne_zero_left _ (by have:=x.den_pos;lia);unfold fA;lia
theorem DZ(x y:Rat):0<jB x y:=by
 have:0<vx (kX x y) (fA x y):=V8 _ (by have:=sS x y;lia);unfold jB;lia
theorem Co(x y:Rat):fA x y=((x.den.gcd y.den:Nat):Int):=by simp[fA,vx]
theorem pH(x y:Rat):fA x y ∣ (x.den:Int):=qd ..
theorem ze(x y:Rat):fA x y ∣ (y.den:Int):=qO ..
theorem zCL(x y:Rat):jB x y ∣ kX x y:=qd ..
theorem Eu(x y:Rat):jB x y ∣ fA x y:=qO ..
theorem RA(x y:Rat):kX x y=x.num*((y.den / x.den.gcd y.den:Nat):Int)+y.num*((x.den / x.den.gcd y.den:Nat):Int):=by
 have h:=sS x y;rw[kX,fD (ze x y) (by lia),fD (pH x y) (by lia),Co,VO,VO]
theorem Kx(x y:Rat):jB x y=(((x.num*((y.den / x.den.gcd y.den:Nat):Int)+y.num*((x.den / x.den.gcd y.den:Nat):Int)).natAbs.gcd (x.den.gcd y.den):Nat):Int):=by
 rw[jB,RA,Co];simp[vx]
theorem zBj(x y:Rat):(kX x y).fdiv (jB x y)=(x+y).num:=by
 have h:=DZ x y;rw[fD (zCL x y) (by lia),(Of x y).1,Kx,RA]
theorem zBh(x y:Rat):(x.den:Int).fdiv (fA x y)*(y.den:Int).fdiv (jB x y)=((x+y).den:Int):=by
 have h:=DZ x y;have h2:=sS x y;rw[fD (qh (Eu x y) (ze x y)) (by lia),fD (pH x y) (by lia),(Of x y).2,Kx,Co];simp only[Vt,VO]
def gz(x y:Rat):Int:=((vx x.num (y.den:Int):Nat):Int)
theorem nz(x y:Rat):0<gz x y:=by
 have:0<vx x.num (y.den:Int):=V8 _ (by have:=y.den_pos;lia);unfold gz;lia
theorem tQ(x y:Rat):gz x y ∣ x.num:=qd ..
theorem n9(x y:Rat):gz x y ∣ (y.den:Int):=qO ..
theorem zp(x y:Rat):gz x y=((x.num.natAbs.gcd y.den:Nat):Int):=by simp[gz,vx]
theorem zzJ(x y:Rat):x.num.fdiv (gz x y)*y.num.fdiv (gz y x)=(x*y).num:=by
 have h:=nz x y;have h2:=nz y x;rw[fD (tQ x y) (by lia),fD (tQ y x) (by lia),(Oj x y).1,zp,zp]
theorem zBl(x y:Rat):(x.den:Int).fdiv (gz y x)*(y.den:Int).fdiv (gz x y)=((x*y).den:Int):=by
 have h:=nz x y;have h2:=nz y x;rw[fD (n9 x y) (by lia),fD (n9 y x) (by lia),(Oj x y).2,zp,zp];simp only[Vt,VO]
theorem mC{n:Nat}{a d:Int}(h:Bd n a)(hd:d ∣ a)(hp:0<d):Bd n (a.fdiv d):=by
 rw[fD hd (by lia)];exact h.le (QQ a d)
theorem p9{n:Nat}{a d:Int}(h:Bd n a)(hd:d ∣ a)(ha:0<a):Bd n d :=
 h.le (uF (by lia) (Int.natAbs_dvd_natAbs.mpr hd))
theorem ET(t b:Int):vx (if t<0 then -t else t) b=vx t b:=by split<;>simp
theorem zA1{n:Nat}{y:Rat}(h:ah n y):ah n (-y):=⟨by simpa using h.t.neg,by simpa using h.b⟩
theorem ztK(x y:Rat):x + -y=x-y:=(Rat.sub_eq_add_neg x y).symm
theorem A0{y:Rat}(h:0<y.num):(y⁻¹).num=(y.den:Int)/\((y⁻¹).den:Int)=y.num:=by
 have:¬ y.num<0:=by lia
 constructor
 ·rw[Rat.num_inv,xc h,Int.one_mul]
 ·rw[Rat.den_inv];split<;>lia
theorem v_{y:Rat}(h:y.num<0):(y⁻¹).num = -(y.den:Int)/\((y⁻¹).den:Int) = -y.num:=by
 constructor
 ·rw[Rat.num_inv,QF h,X1]
 ·rw[Rat.den_inv];split<;>lia
theorem Kv{n:Nat}{y:Rat}(h:ah n y)(hy:y≠0):ah n y⁻¹:=by
 have:=C4 hy
 by_cases p:0<y.num
 ·exact⟨by rw[(A0 p).1];exact h.b,by rw[(A0 p).2];exact h.t⟩
 ·have p:y.num<0:=by lia
  exact⟨by rw[(v_ p).1];exact h.b.neg,by rw[(v_ p).2];exact h.t.neg⟩
theorem getD_mem{α : Type}{xs:List α}{d : α}{i:Nat}(h:i<xs.length):xs.getD i d∈xs:=by
 rw[wa,wc h];exact vt h
def kg(x:Rat):Bool:=(!decide (x<0))&&(decide (x<1)&&decide ((x.den:Int)<=60))
structure fF(x:Rat):Prop where
 nn:0<=x
 lt:x<1
 den:x.den<=60
theorem fF.is{x:Rat}(h:fF x):kg x=true:=by
 have h1:=h.nn;have h2:=h.lt;have h3:=h.den;have h4:¬ x<0:=VW.mpr h1;have h5:(x.den:Int)<=60:=by lia
 simp[kg,h4,h2,h5]
theorem fF.eQ{x:Rat}(h:fF x):ah 6 x:=by
 have h1:=h.nn;have h2:=h.lt;have h3:=h.den;have n0:0<=x.num:=qK.mpr h1
 have n1:x.num<x.den:=by
   have:=Rat.lt_iff x 1 |>.mp h2
   simpa using this
 exact ⟨⟨by have : (2 : Nat) ^ 6 = 64 := by decide
            omega⟩, ⟨by have : (2 : Nat) ^ 6 = 64 := by decide
                        omega⟩⟩
def mx(m:Rat)(l:List Rat):Rat:=l.foldl (λm x=>if m<x then x else m) m
theorem Sx:∀(l:List Rat)(m:Rat),m<=mx m l /\ ∀y∈l,y<=mx m l
 | [],m=>⟨WT,λy h=>by cases h⟩
 | x::l,m=>by
  have h:=Sx l (if m<x then x else m);have e:mx m (x::l)=mx (if m<x then x else m) l:=rfl;rw[e]
  have h1:m<=(if m<x then x else m)/\x<=(if m<x then x else m):=by
   split
   ·rename_i z;exact⟨vY z,WT⟩
   ·rename_i z;exact⟨WT,VW.mp z⟩
  refine⟨QW h1.1 h.1,λy hy=>?_⟩;rcases wL.mp hy with rfl | hy
  ·exact QW h1.2 h.1
  ·exact h.2 y hy
theorem FW:∀(l:List Rat)(m:Rat),mx m l=m\/mx m l∈l
 | [],m=>.inl rfl
 | x::l,m=>by
  have e:mx m (x::l)=mx (if m<x then x else m) l:=rfl;rw[e];rcases FW l (if m<x then x else m)with h | h
  ·rw[h]
   split
   ·exact .inr (wG ..)
   ·exact .inl rfl
  ·exact .inr (wF _ h)
theorem zu(m x:Rat)(l:List Rat):mx m (l++[x])=if mx m l<x then x else mx m l:=by
 unfold mx;rw[Xk];rfl
def b_(xs:List Rat):Rat:=mx (xs.getD 0 0) xs
theorem uT{xs:List Rat} : ∀y∈xs,y<=b_ xs:=(Sx xs _).2
theorem fV{xs:List Rat}(h:1<=xs.length):b_ xs∈xs:=by
 rcases FW xs (xs.getD 0 0)with e | e
 ·unfold b_
  rw[e,wa,wc (by lia)];exact vt _
 ·exact e
theorem mR{xs:List Rat}{i:Nat}(h:i<xs.length):xs.take (i+1)=xs.take i++[xs.getD i 0]:=by
 rw[V4,wa,wc h];rfl
theorem LR{n:Nat}{xs:List Rat}(b:∀i,ah n (xs.getD i 0))(h1:1<=xs.length)(i:Nat):ah n (mx (xs.getD 0 0) (xs.take i)):=by
 rcases FW (xs.take i) (xs.getD 0 0)with e | e
 ·rw[e];exact b 0
 ·have e:=XJ _ _ e
  obtain⟨j,hj,ej⟩:=vg e;rw[<- ej];have:=b j;rw[wa,wc hj]at this;exact this
theorem Nu{r u:Int}(h0:0<=r)(h1:r<u)(h2:u<=60):fF (wH r u):=by
 refine⟨Xi h0 (by lia),ZU (c:=1) (by lia) (by lia),?_⟩;have:=DL r u (by lia)
 lia
def aE(ps:List Rat)(left:List Nat):List Nat:=left.filter λw=>!decide (ps.getD w 0<1)
def bG(left wave:List Nat):List Nat:=left.filter λw=>!decide (w∈wave)
def cC(f g:Rat)(ps:List Rat)(l:List Nat):List Rat:=l.foldl (λps w=>ps.set w (f*ps.getD w 0+g)) ps
def cb(a b:Rat):Nat->List Rat->List Nat->List (List Nat) × (List Nat × List Rat)
 | 0,ps,left=>([],left,ps)
 | n+1,ps,left=>match aE ps left with
  | []=>([],left,ps)
  | w::ws=>((w::ws)::(cb a b n (cC (a^(w::ws).length) (aG a b (w::ws).length) ps (bG left (w::ws))) (bG left (w::ws))).1,(cb a b n (cC (a^(w::ws).length) (aG a b (w::ws).length) ps (bG left (w::ws))) (bG left (w::ws))).2)
def iM(left:List Nat)(ps:List Rat):List Rat:=(wx ps.length).map λi=>if i∈left then ps.getD i 0 else 0
def bK(xs:List Rat):List Rat:=xs.map (· + (1-b_ xs))
def dW(a b:Rat)(xs:List Rat):List (List Nat) × (List Nat × List Rat):=cb a b xs.length (bK xs) (wx xs.length)
def cf(a b:Rat)(xs:List Rat):List (List Nat):=(dW a b xs).1
def cQ(a b:Rat)(xs:List Rat):List Rat:=iM (dW a b xs).2.1 (dW a b xs).2.2
theorem jr{a b:Rat}{n:Nat}{ps:List Rat}{left:List Nat}(h:aE ps left=[]):cb a b n ps left=([],left,ps):=by
 cases n with
 | zero=>rfl
 | succ n=>rw[cb,h]
theorem gF{a b:Rat}{n:Nat}{ps:List Rat}{left:List Nat}(h:aE ps left≠[]):cb a b (n+1) ps left=(aE ps left::(cb a b n (cC (a^(aE ps left).length) (aG a b (aE ps left).length) ps (bG left (aE ps left))) (bG left (aE ps left))).1,(cb a b n (cC (a^(aE ps left).length) (aG a b (aE ps left).length) ps (bG left (aE ps left))) (bG left (aE ps left))).2):=by
 rw[cb];cases e:aE ps left with
 | nil=>exact absurd e h
 | cons w ws=>rfl
theorem zst(f g:Rat)(ps:List Rat)(l:List Nat)(w:Nat):cC f g ps (l++[w])=(cC f g ps l).set w (f*(cC f g ps l).getD w 0+g):=by
 unfold cC;rw[Xk];rfl
theorem gn(f g:Rat):∀(l:List Nat)(ps:List Rat),(cC f g ps l).length=ps.length
 | [],ps=>rfl
 | w::l,ps=>by
  show(cC f g (ps.set w _) l).length=_
  rw[gn f g l,WP]
theorem NN{ps:List Rat}{w j:Nat}{y:Rat}(h:w≠j):(ps.set w y).getD j 0=ps.getD j 0:=by
 rw[wa,W6,if_neg h,wa]
theorem Nk{ps:List Rat}{w:Nat}{y:Rat}(h:w<ps.length):(ps.set w y).getD w 0=y:=by
 rw[wa,W6,if_pos rfl,if_pos h];rfl
theorem ik(f g:Rat):∀(l:List Nat)(ps:List Rat),l.Nodup->(∀w∈l,w<ps.length)->∀j,(cC f g ps l).getD j 0=if j∈l then f*ps.getD j 0+g else ps.getD j 0
 | [],ps,_,_,j=>by simp[cC]
 | w::l,ps,nd,hl,j=>by
  have nd':=WH.mp nd
  show(cC f g (ps.set w _) l).getD j 0=_
  rw[ik f g l _ nd'.2 (λv hv=>by rw[WP];exact hl v (wF _ hv)) j]
  by_cases hj:j=w
  ·subst hj
   rw[if_neg nd'.1,if_pos (wG ..),Nk (hl j (wG ..))]
  ·rw[NN (Wj hj)]
   by_cases hm:j∈l
   ·rw[if_pos hm,if_pos (wF _ hm)]
   ·rw[if_neg hm,if_neg (λz=>by rcases wL.mp z with z | z;(exact hj z);exact hm z)]
theorem YW(ps:List Rat)(left:List Nat):bG left (aE ps left)=left.filter λw=>decide (ps.getD w 0<1):=by
 unfold bG;refine vn λw hw=>?_
 have e:(w∈aE ps left)=(¬ ps.getD w 0<1):=by
  unfold aE;rw[vd];simp[hw]
 simp only[e];simp
theorem A9(ps:List Rat)(left:List Nat):(aE ps left).length+(bG left (aE ps left)).length=left.length:=by
 rw[YW];unfold aE
 induction left with
 | nil=>rfl
 | cons w l ih=>by_cases h:ps.getD w 0<1<;>simp only[WI,h,decide_true,decide_false,qj,xp,if_true,if_false,vZ,vP]<;>lia
theorem kZ{left wave:List Nat}(h:left.Nodup):(bG left wave).Nodup:=h.filter _
theorem lq{left wave:List Nat}{n:Nat}(h:∀w∈left,w<n):∀w∈bG left wave,w<n:=λw hw=>h w (vd.mp hw).1
theorem Pw(left:List Nat)(ps:List Rat):(iM left ps).length=ps.length:=by simp[iM]
theorem mw{left:List Nat}{ps:List Rat}{j:Nat}(h:j<ps.length):(iM left ps).getD j 0=if j∈left then ps.getD j 0 else 0:=by
 unfold iM;rw[wa,wu,vV h]
 rfl
theorem eW(xs:List Rat):(bK xs).length=xs.length:=by simp[bK]
theorem rz{a b:Rat} : ∀(n:Nat)(ps:List Rat)(left:List Nat),(cb a b n ps left).2.2.length=ps.length
 | 0,ps,left=>rfl
 | n+1,ps,left=>by
  by_cases h:aE ps left=[]
  ·rw[jr h]
  ·rw[gF h]
   show(cb a b n _ _).2.2.length=_
   rw[rz n,gn]
theorem ja(a b:Rat)(xs:List Rat):(cQ a b xs).length=xs.length:=by
 unfold cQ dW;rw[Pw,rz,eW]
theorem Cm.JE{m:Nat}{ps:List Rat}{B:Int}(h0:0<B)(h1:Bd m B)(h:∀j,j<ps.length->∃t:Int,ps.getD j 0=wH t B/\Bd m t):∀x∈ps,∃t:Int,x=wH t B/\Bd m t:=λx hx=>by
 obtain⟨j,hj,e⟩:=vg hx;have:=h j hj;rw[wa,wc hj]at this;rw[<- e];exact this
theorem AL{a b:Rat}(ba:ah 10 a)(bb:ah 10 b){m:Nat}{t:Int}(h:Bd m t):∀n:Nat,Bd (m+21*n) (t*((a.den:Int)*(b.den:Int))^n)
 | 0=>by simpa using h
 | n+1=>by
  rw[Qc,<- VU];exact((AL ba bb h n).mul (ba.b.mul bb.b)).mono (by lia)
theorem oQ{t B d:Int}(h0:0<B)(hd:0<d):wH t B=wH (t*d) (B*d):=by
 symm
 refine gC (by have:=We h0 hd;lia) ?_;have q1:=cV t (show B≠0 by lia);rw[Wd,Wd,<- uD,q1]
theorem Cm.wave{m:Nat}{h:Rat}{ps:List Rat}{a b:Rat}(c:Cm m (h::ps))(ba:ah 10 a)(bb:ah 10 b)(n:Nat){l:List Nat}(nd:l.Nodup)(hl:∀w∈l,w<ps.length):Cm (m+21*n) (h::cC (a^n) (aG a b n) ps l):=by
 obtain⟨B,h0,h1,h2⟩:=c;have hz:Bd m (0:Int):=⟨by simp;exact Wl m⟩;obtain⟨p1,p2,_⟩:=rJ ba bb h0 hz h1 n;have hd:0<((a.den:Int)*(b.den:Int))^n:=XB (We (den_pos a) (den_pos b));refine⟨_,p1,p2,λx hx=>?_⟩;rcases wL.mp hx with rfl | hx
 ·obtain⟨t,rfl,ht⟩:=h2 x (wG ..)
  exact⟨_,oQ h0 hd,AL ba bb ht n⟩
 ·refine Cm.JE p1 p2 (λj hj=>?_) x hx
  rw[gn]at hj;obtain⟨t,e,ht⟩:=h2 (ps.getD j 0) (wF _ (getD_mem hj));rw[ik _ _ _ _ nd hl]
  split
  ·obtain⟨_,_,T,e2,hT⟩:=rJ ba bb h0 ht h1 n
   exact⟨T,by rw[<- jf,e,e2],hT⟩
  ·exact⟨_,by rw[e];exact oQ h0 hd,AL ba bb ht n⟩
theorem Cm.rise{m:Nat}{h M:Rat}{xs:List Rat}(c:Cm m (h::xs))(hM:M∈xs):Cm (m+2) ((h+(1-M))::xs.map (· + (1-M))):=by
 obtain⟨B,h0,h1,h2⟩:=c;obtain⟨z,ez,hz⟩:=h2 M (wF _ hM)
 have key:∀t:Int,Bd m t->wH t B+(1-M)=wH (t+B-z) B/\Bd (m+2) (t+B-z):=λt ht=>by
  refine⟨?_,((ht.add h1).sub hz).mono (by lia)⟩;rw[ez]
  symm
  refine gC (by lia) ?_;have q1:=cV t (show B≠0 by lia);have q2:=cV z (show B≠0 by lia);have q3:((t+B-z:Int):Rat)=(t:Rat)+(B:Rat)-(z:Rat):=by push_cast;rfl
  rw[q3,<- q1,<- q2]
  grind
 refine⟨B,h0,h1.mono (by lia),λx hx=>?_⟩;rcases wL.mp hx with rfl | hx
 ·obtain⟨t,e,ht⟩:=h2 h (wG ..)
  rw[e];exact⟨_,(key t ht).1,(key t ht).2⟩
 ·obtain⟨y,hy,rfl⟩:=wO.mp hx
  obtain⟨t,e,ht⟩:=h2 y (wF _ hy)
  show ∃t:Int,y+(1-M)=_/\_
  rw[e];exact⟨_,(key t ht).1,(key t ht).2⟩
theorem Cm.jN{m:Nat}{xs:List Rat}{ys:List Rat}(c:Cm m xs)(h:∀y∈ys,y∈xs\/y=0):Cm m ys:=by
 obtain⟨B,h0,h1,h2⟩:=c;refine⟨B,h0,h1,λy hy=>?_⟩;rcases h y hy with z | rfl
 ·exact h2 y z
 ·exact⟨0,by simp,⟨by simp;exact Wl m⟩⟩
theorem KY{left:List Nat}{ps:List Rat} : ∀y∈iM left ps,y∈ps\/y=0:=λy hy=>by
 unfold iM at hy;obtain⟨i,hi,e⟩:=wO.mp hy;rw[<- e]
 split
 ·exact .inl (getD_mem (wD.mp hi))
 ·exact .inr rfl
theorem Cm.h9{a b:Rat}(ba:ah 10 a)(bb:ah 10 b){h:Rat} : ∀(n m:Nat)(ps:List Rat)(left:List Nat),Cm m (h::ps)->left.Nodup->(∀w∈left,w<ps.length)->Cm (m+21*left.length) (h::(cb a b n ps left).2.2)
 | 0,m,ps,left,c,_,_=>c.mono (by lia)
 | n+1,m,ps,left,c,nd,hl=>by
  by_cases he:aE ps left=[]
  ·rw[jr he];exact c.mono (by lia)
  ·rw[gF he]
   have hn:=A9 ps left;have c1:=c.wave ba bb (aE ps left).length (kZ (wave:=aE ps left) nd) (lq (wave:=aE ps left) hl);have:=Cm.h9 ba bb n _ _ (bG left (aE ps left)) c1 (kZ nd) (by rw[gn];exact lq hl);exact this.mono (by lia)
theorem Cm.Ym{a b:Rat}(ba:ah 10 a)(bb:ah 10 b){m:Nat}{h:Rat}{xs:List Rat}(c:Cm m (h::xs))(h1:1<=xs.length):Cm (m+2+21*xs.length) ((h+(1-b_ xs))::cQ a b xs):=by
 have c1:=c.rise (fV h1);have c2:=Cm.h9 ba bb xs.length _ (bK xs) (wx xs.length) c1 Wu (λw hw=>by rw[eW];exact wD.mp hw);rw[vB]at c2;refine c2.jN λy hy=>?_
 rcases wL.mp hy with rfl | hy
 ·exact .inl (wG ..)
 ·rcases KY y hy with z | z
  ·exact .inl (wF _ z)
  ·exact .inr z
theorem Cm.Bx{k:Nat}{xs:List Rat}(h:∀i,ah k (xs.getD i 0)):Cm (k*xs.length+1+k) xs:=by
 have h0:=MX xs xs.length;have h1:=OO h xs.length;refine⟨m3 xs xs.length,h0,h1.mono (by lia),Cm.JE h0 (h1.mono (by lia)) λj hj=>?_⟩;exact⟨_,(ztM h0 (RY xs _ j hj)).symm,((h j).t.mul (zAg (den_pos _) h0 h1)).mono (by lia)⟩
def ai(a b:Rat)(xs:List Rat):Nat->List Rat
 | 0=>xs
 | k+1=>cQ a b (ai a b xs k)
def aM(a b:Rat)(xs:List Rat):Nat->Rat
 | 0=>0
 | k+1=>aM a b xs k+(1-b_ (ai a b xs k))
theorem bj(a b:Rat)(xs:List Rat):∀k,(ai a b xs k).length=xs.length
 | 0=>rfl
 | k+1=>by rw[ai,ja,bj a b xs k]
theorem Cm.JW{a b:Rat}(ba:ah 10 a)(bb:ah 10 b){m:Nat}{xs:List Rat}(c:Cm m xs)(h1:1<=xs.length):∀k,Cm (m+(2+21*xs.length)*k) (aM a b xs k::ai a b xs k)
 | 0=>(c.mono (by lia)).jN λy hy=>by
  rcases wL.mp hy with rfl | hy
  ·exact .inr rfl
  ·exact .inl hy
 | k+1=>by
  have:=(Cm.JW ba bb c h1 k).Ym ba bb (by rw[bj];exact h1);rw[bj]at this;exact this.mono (by rw[Nat.mul_add];lia)
def Rg(n:Nat)(left:List Nat):Prop:=left=(wx n).filter λw=>decide (w∈left)
theorem Rg.range(n:Nat):Rg n (wx n):=by
 unfold Rg;rw[Qj.mpr];intro w hw;exact decide_eq_true hw
theorem Rg.filter{n:Nat}{left:List Nat}(h:Rg n left)(p:Nat->Bool):Rg n (left.filter p):=by
 have e:((wx n).filter λw=>decide (w∈left.filter p))=((wx n).filter λw=>decide (w∈left)).filter p:=by
  rw[W0];refine vn λw _=>?_
  by_cases h1:w∈left<;>cases h2:p w<;>simp[h1,h2]
 unfold Rg;rw[e];exact congrArg (List.filter p) h
theorem Rg.bG{n:Nat}{left:List Nat}(h:Rg n left)(wave:List Nat):Rg n (bG left wave):=h.filter _
theorem Rg.lt{n:Nat}{left:List Nat}(h:Rg n left):∀w∈left,w<n:=λw hw=>by
 rw[h]at hw;exact wD.mp (vd.mp hw).1
theorem Rg.nodup{n:Nat}{left:List Nat}(h:Rg n left):left.Nodup:=by
 rw[h];exact Wu.filter _
theorem nN{f:Rat->Rat}{xs:List Rat}{w:Nat}(h:w<xs.length):(xs.map f).getD w 0=f (xs.getD w 0):=by
 rw[wa,wu,wc h,wa,wc h];rfl
def lK(d:Int)(m:Nat)(xs:List Rat):Prop:=∃B:Int,0<B/\d ∣ B/\Bd m B /\ ∀x∈xs,∃t:Int,x=wH t B/\Bd m t
theorem lK.of{d:Int}{m:Nat}{xs:List Rat}(h:Cm m xs)(hd:0<d)(b:Bd 4 d):lK d (m+4) xs:=by
 obtain⟨B,h0,h1,h2⟩:=h;refine⟨B*d,We h0 hd,XH ..,(h1.mul b),λx hx=>?_⟩;obtain⟨t,e,ht⟩:=h2 x hx;exact⟨t*d,by rw[e];exact oQ h0 hd,ht.mul b⟩
theorem Oe{a b:Rat}(ta:Bd 6 a.num)(da:Bd 4 (a.den:Int))(tb:Bd 4 b.num){m:Nat}{t u:Int}(hu:0<u)(hd:(b.den:Int) ∣ u)(bt:Bd m t)(bu:Bd m u):∀n:Nat,0<u*(a.den:Int)^n/\(b.den:Int) ∣ u*(a.den:Int)^n/\Bd (m+9*n) (u*(a.den:Int)^n) /\
  ∃T:Int,push a b n (wH t u)=wH T (u*(a.den:Int)^n)/\Bd (m+9*n) T
 | 0=>⟨by simpa using hu,by simpa using hd,by simpa using bu,t,by simp[push],by simpa using bt⟩
 | n+1=>by
  obtain⟨h1,hdv,h2,T,e,hT⟩:=Oe ta da tb hu hd bt bu n;have eb:u*(a.den:Int)^(n+1)=u*(a.den:Int)^n*(a.den:Int):=by rw[Qc,<- VU]
  rw[eb];generalize u*(a.den:Int)^n=U at *;obtain⟨c,rfl⟩:=hdv
  have hc:0<c:=by
   have hb:=den_pos b;rcases Int.lt_or_le 0 c with z | z
   ·exact z
   ·have:=Int.mul_nonpos_of_nonneg_of_nonpos (Int.le_of_lt hb) z
    lia
  have bc:Bd (m+9*n) c:=h2.le (by
   rw[xo];exact Nat.le_mul_of_pos_left _ (by have:=den_pos b;lia))
  refine⟨We h1 (den_pos a),qh (VA ..) (VA ..),(h2.mul da).mono (by lia),a.num*T+b.num*(a.den:Int)*c,?_,((ta.mul hT).add ((tb.mul da).mul bc)).mono (by lia)⟩;rw[push,e]
  symm
  have hU:((b.den:Int)*c)*(a.den:Int)≠0:=by have:=We h1 (den_pos a);lia
  refine gC hU ?_;have q1:=cV T (show(b.den:Int)*c≠0 by lia);have q2:=iP a;have q3:=iP b;have q4:((a.num*T+b.num*(a.den:Int)*c:Int):Rat)=(a.num:Rat)*(T:Rat)+(b.num:Rat)*((a.den:Int):Rat)*(c:Rat):=by push_cast;rfl
  have q5:(((b.den:Int)*c*(a.den:Int):Int):Rat)=((b.den:Int):Rat)*(c:Rat)*((a.den:Int):Rat):=by push_cast;rfl
  have q6:(((b.den:Int)*c:Int):Rat)=((b.den:Int):Rat)*(c:Rat):=by push_cast;rfl
  rw[q6]at q1;rw[q4,q5,<- q1,<- q2,<- q3]
  grind
theorem eZ(a b:Rat)(xs:List Rat)(m:Nat):∀k,ai a b (ai a b xs m) k=ai a b xs (m+k)
 | 0=>rfl
 | k+1=>by rw[ai,eZ a b xs m k];rfl
theorem lP(a b:Rat)(xs:List Rat)(m:Nat):∀k,aM a b xs m+aM a b (ai a b xs m) k=aM a b xs (m+k)
 | 0=>by show aM a b xs m+0=aM a b xs m;grind
 | k+1=>by
  have:=lP a b xs m k
  show aM a b xs m+(aM a b (ai a b xs m) k+(1-b_ (ai a b (ai a b xs m) k)))=aM a b xs (m+k)+(1-b_ (ai a b xs (m+k)))
  rw[eZ,<- this]
  grind
theorem TV{a b:Rat}(a0:0<a)(b0:0<=b){x:Rat}(h:0<x):∀n:Nat,0<push a b n x
 | 0=>h
 | n+1=>by
  have h1:=TV a0 b0 h n;have h2:=qo a0 h1
  show 0<a*push a b n x+b
  grind
structure iu(l:List Rat):Prop where
 pw:l.Pairwise (· > ·)
 nn:∀y∈l,0<=y
theorem iu.step{a b:Rat}(a0:0<a)(b0:0<=b){n:Nat}{x:Rat}{l:List Rat}(h:iu (x::l))(x1:x<1):iu (lE a b n (x::l)):=by
 have hp:=WJ.mp h.pw;have pos:∀y∈l,0<push a b n (y+(1-x)):=λy hy=>TV a0 b0 (by have:=h.nn y (wF _ hy);grind) n
 unfold lE;refine⟨qf.mpr ⟨?_,Q1 _ _,?_⟩,λy hy=>?_⟩
 ·show(l.map λy=>push a b n (y+(1-x))).Pairwise (· > ·)
  rw[WN];refine hp.2.imp λ{y z} hyz=>?_
  show push a b n (z+(1-x))<push a b n (y+(1-x))
  have hyz:z<y:=hyz;exact(zzL a0 n _ _).mpr (by grind)
 ·intro y hy z hz
  obtain⟨w,hw,rfl⟩:=wO.mp hy;rw[wY.mp hz];exact pos w hw
 ·rcases vW.mp hy with hy | hy
  ·obtain⟨w,hw,rfl⟩:=wO.mp hy
   exact vY (pos w hw)
  ·rw[wY.mp hy];exact WT
structure hV(xs row:List Rat)(fl:Nat->Nat):Prop where
 at':∀w,w<xs.length->xs.getD w 0=row.getD (fl w) 0
 lt:∀w,w<xs.length->fl w<row.length
def bR(n:Nat)(fl:Nat->Nat)(c:Nat):List Nat:=(wx n).filter λw=>decide (fl w=c)
theorem rh{xs row:List Rat}{fl:Nat->Nat}{c:Nat}(h:hV xs row fl)(some:∃w,w<xs.length/\fl w=c)(top:∀j,j<row.length->j≠c->row.getD j 0<row.getD c 0):b_ xs=row.getD c 0:=by
 obtain⟨w,hw,rfl⟩:=some;have h1:1<=xs.length:=by lia
 refine ua ?_ ?_
 ·obtain⟨j,hj,e⟩:=vg (fV h1)
  have ea:=h.at' j hj;rw[wa,wc hj]at ea;have ea:xs[j]=row.getD (fl j) 0:=ea;rw[<- e,ea]
  by_cases z:fl j=fl w
  ·rw[z];exact WT
  ·exact vY (top _ (h.lt j hj) z)
 ·rw[<- h.at' w hw]
  exact uT _ (getD_mem hw)
theorem B1{xs row:List Rat}{fl:Nat->Nat}{c:Nat}(h:hV xs row fl)(some:∃w,w<xs.length/\fl w=c)(top:∀j,j<row.length->j≠c->row.getD j 0<row.getD c 0):aE (bK xs) (wx xs.length)=bR xs.length fl c:=by
 unfold aE bR;refine vn λw hw=>?_
 have hw:=wD.mp hw;have hm:=rh h some top
 have e:(bK xs).getD w 0=row.getD (fl w) 0+(1-row.getD c 0):=by
  unfold bK;rw[wa,wu,wc hw,hm];have ea:=h.at' w hw;rw[wa,wc hw]at ea;have ea:xs[w]=row.getD (fl w) 0:=ea
  show xs[w]+(1-row.getD c 0)=_
  rw[ea]
 rw[e]
 by_cases z:fl w=c
 ·rw[z,decide_eq_true rfl,decide_eq_false (by grind)];rfl
 ·have:=top _ (h.lt w hw) z
  rw[decide_eq_false z,decide_eq_true (by grind)];rfl
theorem SY{xs row:List Rat}{fl:Nat->Nat}{c:Nat}(h:hV xs row fl)(hm:b_ xs=row.getD c 0){w:Nat}(hw:w<xs.length):(bK xs).getD w 0=row.getD (fl w) 0+(1-row.getD c 0):=by
 unfold bK;rw[wa,wu,wc hw,hm];have ea:=h.at' w hw;rw[wa,wc hw]at ea;have ea:xs[w]=row.getD (fl w) 0:=ea
 show xs[w]+(1-row.getD c 0)=_
 rw[ea]
theorem zrC{a b:Rat}{xs row:List Rat}{fl:Nat->Nat}{c:Nat}(h:hV xs row fl)(some:∃w,w<xs.length/\fl w=c)(top:∀j,j<row.length->j≠c->row.getD j 0<row.getD c 0)
  (low:∀j,j<row.length->j≠c->(∃w,w<xs.length/\fl w=j)->push a b (bR xs.length fl c).length (row.getD j 0+(1-row.getD c 0))<1) :
  cf a b xs=[bR xs.length fl c]/\hV (cQ a b xs) (dX a b (bR xs.length fl c).length row c) fl:=by
 have hm:=rh h some top;have he:=B1 h some top;obtain⟨w0,hw0,hf0⟩:=some
 have hne:bR xs.length fl c≠[]:=λe=>by
  have:w0∈bR xs.length fl c:=vd.mpr ⟨wD.mpr hw0,decide_eq_true hf0⟩;rw[e]at this;cases this
 have hlen:xs.length=(xs.length-1)+1:=by lia
 have hcl:c<row.length:=by rw[<- hf0];exact h.lt w0 hw0
 have nd:=Wu (n:=xs.length)
 have hmemL:∀w,w∈bG (wx xs.length) (bR xs.length fl c) ↔ w<xs.length/\fl w≠c:=λw=>by
  unfold bG bR;rw[vd,wD]
  constructor
  ·rintro ⟨h1,h2⟩
   refine⟨h1,λz=>?_⟩;have:w∈(wx xs.length).filter λw=>decide (fl w=c):=vd.mpr ⟨wD.mpr h1,decide_eq_true z⟩
   simp[this]at h2
  ·rintro ⟨h1,h2⟩
   exact⟨h1,by simp[h2]⟩
 have hps:∀w,w<xs.length->fl w≠c->(cC (a^(bR xs.length fl c).length) (aG a b (bR xs.length fl c).length) (bK xs) (bG (wx xs.length) (bR xs.length fl c))).getD w 0=push a b (bR xs.length fl c).length (row.getD (fl w) 0+(1-row.getD c 0)):=λw hw hf=>by
  rw[ik _ _ _ _ (kZ nd) (λv hv=>by rw[eW];exact((hmemL v).mp hv).1),if_pos ((hmemL w).mpr ⟨hw,hf⟩),SY h hm hw,jf]
 have hend:aE (cC (a^(bR xs.length fl c).length) (aG a b (bR xs.length fl c).length) (bK xs) (bG (wx xs.length) (bR xs.length fl c))) (bG (wx xs.length) (bR xs.length fl c))=[]:=by
  unfold aE;rw[qU];intro w hw;have hw':=(hmemL w).mp hw;rw[hps w hw'.1 hw'.2];have:=low (fl w) (h.lt w hw'.1) hw'.2 ⟨w,hw'.1,rfl⟩;rw[decide_eq_true this]
  decide
 have hR:dW a b xs=([bR xs.length fl c],bG (wx xs.length) (bR xs.length fl c),cC (a^(bR xs.length fl c).length) (aG a b (bR xs.length fl c).length) (bK xs) (bG (wx xs.length) (bR xs.length fl c))):=by
  unfold dW;generalize hN:cb a b xs.length (bK xs) (wx xs.length)=r;rw[show cb a b xs.length (bK xs) (wx xs.length)=cb a b ((xs.length-1)+1) (bK xs) (wx xs.length) by rw[<- hlen],gF (by rw[he];exact hne),he,jr hend]at hN;exact hN.symm
 refine⟨by unfold cf;rw[hR],λw hw=>?_,λw hw=>by rw[iL];exact h.lt w (by rw[ja]at hw;exact hw)⟩;rw[ja]at hw;have hfw:=h.lt w hw;unfold cQ;rw[hR,mw (by rw[gn,eW];exact hw),ic _ _ _ _ _ _ hfw]
 by_cases z:fl w=c
 ·rw[if_neg (λy=>((hmemL w).mp y).2 z),if_pos z]
 ·rw[if_pos ((hmemL w).mpr ⟨hw,z⟩),if_neg z,hps w hw z]
theorem Y6{a b:Rat}{xs row:List Rat}{fl:Nat->Nat}{c:Nat}(h:hV xs row fl)(some:∃w,w<xs.length/\fl w=c)(top:∀j,j<row.length->j≠c->row.getD j 0<row.getD c 0)
  {w1:Nat} (hw1:w1<xs.length) (hf1:fl w1≠c) (up:¬ push a b (bR xs.length fl c).length (row.getD (fl w1) 0+(1-row.getD c 0))<1):1<(cf a b xs).length:=by
 have hm:=rh h some top;have he:=B1 h some top;obtain⟨w0,hw0,hf0⟩:=some
 have hne:bR xs.length fl c≠[]:=λe=>by
  have:w0∈bR xs.length fl c:=vd.mpr ⟨wD.mpr hw0,decide_eq_true hf0⟩;rw[e]at this;cases this
 have hw01:w0≠w1:=λe=>hf1 (by rw[<- e];exact hf0)
 have hlen:xs.length=(xs.length-2)+1+1:=by lia
 have nd:=Wu (n:=xs.length)
 have hmem:w1∈bG (wx xs.length) (bR xs.length fl c):=by
  unfold bG bR;rw[vd,wD];exact⟨hw1,by simp[hf1]⟩
 have hend:aE (cC (a^(bR xs.length fl c).length) (aG a b (bR xs.length fl c).length) (bK xs) (bG (wx xs.length) (bR xs.length fl c))) (bG (wx xs.length) (bR xs.length fl c))≠[]:=λe=>by
  have:w1∈aE (cC (a^(bR xs.length fl c).length) (aG a b (bR xs.length fl c).length) (bK xs) (bG (wx xs.length) (bR xs.length fl c))) (bG (wx xs.length) (bR xs.length fl c)):=by
   unfold aE;refine vd.mpr ⟨hmem,?_⟩;rw[ik _ _ _ _ (kZ nd) (λv hv=>by rw[eW];exact wD.mp (vd.mp hv).1),if_pos hmem,SY h hm hw1,<- jf,decide_eq_false up]
   rfl
  rw[e]at this;cases this
 unfold cf dW;rw[show cb a b xs.length (bK xs) (wx xs.length)=cb a b ((xs.length-2)+1+1) (bK xs) (wx xs.length) by rw[<- hlen],gF (by rw[he];exact hne),he,gF hend]
 show 1<(_::_::_:List (List Nat)).length
 simp
theorem PK{a b:Rat}{ns:List Int}{row:List Rat}{i j:Nat}(hi:i<=row.length)(hj:j<row.length):(aW a b ns row i).getD j 0∈turned a b ns row i:=by
 have hl:=di a b ns row i;rw[mX a b ns row i hi];have hm:(aW a b ns row i).getD j 0∈aW a b ns row i:=getD_mem (by lia);generalize (aW a b ns row i).getD j 0=y at hm;have hm2:y∈(aW a b ns row i).take i++(aW a b ns row i).drop i:=by rw[List.take_append_drop];exact hm
 rcases vW.mp hm2 with z | z
 ·exact vW.mpr (.inr z)
 ·exact vW.mpr (.inl z)
theorem BI{a b:Rat}{ns:List Int}{row:List Rat}{i j:Nat}(h:iu (turned a b ns row i))(hi:i<row.length)(hj:j<row.length)(hne:j≠i):(aW a b ns row i).getD j 0<(aW a b ns row i).getD i 0:=by
 have hl:=di a b ns row i;have hpw:=h.pw;rw[mX a b ns row i (by lia),qu (by lia),QV]at hpw;have hp:=(WJ.mp hpw).1;have e:(aW a b ns row i).getD i 0=(aW a b ns row i)[i]'(by lia):=by rw[wa,wc (by lia)];rfl
 rw[e];refine hp _ ?_;rw[vW];have ej:(aW a b ns row i).getD j 0=(aW a b ns row i)[j]'(by lia):=by rw[wa,wc (by lia)];rfl
 rw[ej];rcases wJ j i with z | z
 ·refine .inr (xC.mpr ⟨j,by rw[WD];lia,?_⟩)
  rw[Xl]
 ·refine .inl (xC.mpr ⟨j-(i+1),by rw[Wf];lia,?_⟩)
  rw[Xm]
  congr 1
  lia
def eF(a b:Rat)(ns:List Int)(row:List Rat)(i:Nat):Rat:=(aW a b ns row (i+1)).getD ((i+1) % row.length) 0
structure gb(xs row:List Rat)(fl:Nat->Nat)(ns:List Int):Prop where
 pl:hV xs row fl
 BB:iu row
 one:row.getD 0 0<1
 len:ns.length=row.length
 some:∀c,c<row.length->∃w,w<xs.length/\fl w=c
 size:∀c,c<row.length->(ns.getD c 0).toNat=(bR xs.length fl c).length
theorem zT{a b:Rat}(a0:0<a)(b0:0<=b){xs row:List Rat}{fl:Nat->Nat}{ns:List Int}(h:gb xs row fl ns):∀i,i<=row.length->(∀t,t<i->eF a b ns row t<1)->hV (ai a b xs i) (aW a b ns row i) fl/\iu (turned a b ns row i)/\(i<row.length->(aW a b ns row i).getD i 0<1) /\ ∀t,t<i->cf a b (ai a b xs t)=[bR xs.length fl t]
 | 0,_,_=>⟨h.pl,h.BB,λ_=>h.one,λt ht=>by lia⟩
 | i+1,hi,ht=>by
  obtain⟨P,F,o,W⟩:=zT a0 b0 h i (by lia) (λt ht'=>ht t (by lia));have hl:=di a b ns row i;have hpl:=bj a b xs i;have hi':i<row.length:=by lia
  have oi:=o hi';have ti:=ht i (by lia)
  have hne:turned a b ns row i≠[]:=λe=>by
   have:=Gf a b ns row (by lia) i;rw[e]at this;simp at this;lia
  obtain⟨x,l,ex⟩:∃x l,turned a b ns row i=x::l:=by
   cases e:turned a b ns row i with
   | nil=>exact absurd e hne
   | cons x l=>exact⟨x,l,rfl⟩
  have hx:x=(aW a b ns row i).getD i 0:=by
   have:=Cv a b ns row hi';rw[ex]at this;exact this
  have F1:iu (turned a b ns row (i+1)):=by
   show iu (lE a b (ns.getD i 0).toNat (turned a b ns row i))
   rw[ex]at F ⊢;exact F.step a0 b0 (by rw[hx];exact oi)
  have hsz:(ns.getD i 0).toNat=(bR (ai a b xs i).length fl i).length:=by rw[hpl];exact h.size i hi'
  have hrow:aW a b ns row (i+1)=dX a b (bR (ai a b xs i).length fl i).length (aW a b ns row i) i:=by rw[<- hsz];rfl
  -- the head of what is turned is the top: all others are below 1
  have headTop:(turned a b ns row (i+1)).headD 0=eF a b ns row i:=by
   unfold eF;rcases wJ (i+1) row.length with z | z
   ·rw[Cv a b ns row z,XM z]
   ·have e:i+1=row.length:=by lia
    rw[e,Nat.mod_self,mX a b ns row _ (wq _)];have hl1:=di a b ns row row.length;rw[xg (by lia),Vl (by lia),Qd];cases e2:aW a b ns row row.length with
    | nil=>rw[e2]at hl1;simp at hl1;lia
    | cons y m=>rfl
  have below:∀y∈turned a b ns row (i+1),y<1:=λy hy=>by
   have hpw:=F1.pw;cases e2:turned a b ns row (i+1)with
   | nil=>rw[e2]at hy;cases hy
   | cons z m =>
    rw[e2]at hy hpw headTop
    have hz:z<1:=by
     have:z=eF a b ns row i:=headTop;rw[this];exact ti
    rcases wL.mp hy with rfl | hy
    ·exact hz
    ·have:=(WJ.mp hpw).1 y hy
     have:y<z:=this
     grind
  have G:=zrC (a:=a) (b:=b) (c:=i) P (by obtain⟨w,h1,h2⟩:=h.some i hi';exact⟨w,by lia,h2⟩) (λj hj hji=>BI F hi' (by lia) hji) (λj hj hji _=>by
   have hm:=PK (a:=a) (b:=b) (ns:=ns) (row:=row) (i:=i+1) (j:=j) hi (by lia);have:=below _ hm;rw[hrow,ic _ _ _ _ _ _ hj,if_neg hji]at this;exact this)
  refine⟨by rw[hrow];exact G.2,F1,λhlt=>?_,λt ht'=>?_⟩
  ·have:=below _ (PK (a:=a) (b:=b) (ns:=ns) (row:=row) (i:=i+1) (j:=i+1) hi hlt)
   exact this
  ·rcases wJ t i with z | z
   ·exact W t z
   ·have:t=i:=by lia
    subst this;have:=G.1;rw[hpl]at this;exact this
def d9(xs:List Rat)(v:Rat):List Nat:=(wx xs.length).filter λw=>decide (xs.getD w 0=v)
def iU:Nat->List Rat->List Rat
 | 0,_=>[]
 | _+1,[]=>[]
 | n+1,x::l=>b_ (x::l)::iU n ((x::l).filter λy=>!decide (y=b_ (x::l)))
def aj(xs:List Rat):List Rat:=iU xs.length xs
theorem B2(n:Nat):iU n []=[]:=by cases n<;>rfl
theorem nY{n:Nat}{l:List Rat}(h:l≠[]):iU (n+1) l=b_ l::iU n (l.filter λy=>!decide (y=b_ l)):=by
 cases l with
 | nil=>exact absurd rfl h
 | cons x l=>rfl
theorem Nv{l:List Rat}(h:l≠[]):(l.filter λy=>!decide (y=b_ l)).length<l.length:=by
 have hm:b_ l∈l:=fV (VR.mpr h);rcases wJ (l.filter λy=>!decide (y=b_ l)).length l.length with z | z
 ·exact z
 ·have:=List.length_filter_eq_length_iff.mp (Nat.le_antisymm (WB _ _) z) (b_ l) hm
  simp at this
theorem BP:∀(n:Nat)(l:List Rat),∀y∈iU n l,y∈l
 | 0,l,y,h=>by cases h
 | n+1,[],y,h=>by cases h
 | n+1,x::l,y,h=>by
  rw[nY (by simp)]at h;rcases wL.mp h with rfl | h
  ·exact fV (by simp)
  ·exact(vd.mp (BP n _ y h)).1
theorem ie:∀(n:Nat)(l:List Rat),(iU n l).Pairwise (· > ·)
 | 0,l=>xK.nil
 | n+1,[]=>xK.nil
 | n+1,x::l=>by
  rw[nY (by simp)];refine WJ.mpr ⟨λy hy=>?_,ie n _⟩;have hf:=vd.mp (BP n _ y hy);have h1:=uT y hf.1;have h2:¬ y=b_ (x::l):=by simpa using hf.2
  show y<b_ (x::l)
  exact qE h1 h2
theorem MT:∀(n:Nat)(l:List Rat),l.length<=n->∀y∈l,y∈iU n l
 | 0,l,h,y,hy=>by
  have:l=[]:=qM.mp (by lia);rw[this]at hy;cases hy
 | n+1,[],h,y,hy=>by cases hy
 | n+1,x::l,h,y,hy=>by
  rw[nY (by simp)]
  by_cases z:y=b_ (x::l)
  ·rw[z];exact wG ..
  ·have hl:=Nv (l:=x::l) (by simp)
   refine wF _ (MT n _ (by lia) y (vd.mpr ⟨hy,by simp[z]⟩))
def aU(xs:List Rat)(w:Nat):Nat:=(aj xs).idxOf (xs.getD w 0)
theorem oh{xs:List Rat}{y:Rat}(h:y∈xs):y∈aj xs:=MT _ _ (wq _) y h
theorem jw{xs:List Rat}{y:Rat}(h:y∈aj xs):y∈xs:=BP _ _ y h
theorem kT(xs:List Rat):hV xs (aj xs) (aU xs):=by
 have key:∀w,w<xs.length->aU xs w<(aj xs).length:=λw hw=>List.idxOf_lt_length_of_mem (oh (getD_mem hw))
 refine⟨λw hw=>?_,key⟩;rw[wa (l:=aj xs),wc (key w hw)];exact(VX (key w hw)).symm
theorem F0{xs:List Rat}{w c:Nat}(hw:w<xs.length)(hc:c<(aj xs).length):aU xs w=c ↔ xs.getD w 0=(aj xs).getD c 0:=by
 have P:=kT xs;have e:=P.at' w hw;have hl:=P.lt w hw
 constructor
 ·rintro rfl;exact e
 ·intro h
  rw[e]at h;rcases VB (aU xs w) c with z | z | z
  ·have:=(Wy.mp (ie xs.length xs)) (aU xs w) c hl hc z
   rw[wa,wc hl,wa,wc hc]at h;have h:(aj xs)[aU xs w]=(aj xs)[c]:=h;have this:(aj xs)[c]<(aj xs)[aU xs w]:=this;rw[h]at this;exact absurd this (by grind)
  ·exact z
  ·have:=(Wy.mp (ie xs.length xs)) c (aU xs w) hc hl z
   rw[wa,wc hl,wa,wc hc]at h;have h:(aj xs)[aU xs w]=(aj xs)[c]:=h;have this:(aj xs)[aU xs w]<(aj xs)[c]:=this;rw[h]at this;exact absurd this (by grind)
theorem zwO{xs:List Rat}{c:Nat}(hc:c<(aj xs).length):bR xs.length (aU xs) c=d9 xs ((aj xs).getD c 0):=by
 unfold bR d9;refine vn λw hw=>?_
 exact decide_eq_decide.mpr (F0 (wD.mp hw) hc)
def bN(xs:List Rat):List Int:=(aj xs).map λv=>((d9 xs v).length:Int)
theorem Ly{xs:List Rat}(nn:∀x∈xs,0<=x)(lt:∀x∈xs,x<1):gb xs (aj xs) (aU xs) (bN xs) where
 pl:=kT xs
 BB:=⟨ie _ _,λy hy=>nn y (jw hy)⟩
 one:=by
  rcases wJ 0 (aj xs).length with z | z
  ·exact lt _ (jw (getD_mem z))
  ·rw[wa,wP z];decide
 len:=by unfold bN;rw[wo]
 some:=λc hc=>by
  obtain⟨w,hw,e⟩:=vg (jw (getD_mem (d:=0) hc));refine⟨w,hw,(F0 hw hc).mpr ?_⟩;rw[wa,wc hw];exact e
 size:=λc hc=>by
  rw[zwO hc];unfold bN;rw[wa,wu,wc hc,wa,wc hc]
  rfl
theorem Fm:∀{l m:List Rat},l.Pairwise (· > ·)->m.Pairwise (· > ·)->(∀y,y∈l ↔ y∈m)->l=m
 | [],[],_,_,_=>rfl
 | [],y::m,_,_,h=>by have:=(h y).mpr (wG ..);cases this
 | x::l,[],_,_,h=>by have:=(h x).mp (wG ..);cases this
 | x::l,y::m,hl,hm,h=>by
  have pl:=WJ.mp hl;have pm:=WJ.mp hm
  have e:x=y:=by
   rcases wL.mp ((h x).mp (wG ..))with z | z
   ·exact z
   ·rcases wL.mp ((h y).mpr (wG ..))with z2 | z2
    ·exact z2.symm
    ·have a1:x<y:=pm.1 x z
     have a2:y<x:=pl.1 y z2
     grind
  subst e;rw[Fm pl.2 pm.2 λz=>⟨λhz=>?_,λhz=>?_⟩]
  ·rcases wL.mp ((h z).mp (wF _ hz))with e | e
   ·have:z<x:=pl.1 z hz
    rw[e]at this;exact absurd this (by grind)
   ·exact e
  ·rcases wL.mp ((h z).mpr (wF _ hz))with e | e
   ·have:z<x:=pm.1 z hz
    rw[e]at this;exact absurd this (by grind)
   ·exact e
theorem zrB{ys row:List Rat}{fl:Nat->Nat}(P:hV ys row fl)(F:row.Pairwise (· > ·))(some:∀c,c<row.length->∃w,w<ys.length/\fl w=c):aj ys=row:=by
 refine Fm (ie _ _) F λy=>⟨λh=>?_,λh=>?_⟩
 ·obtain⟨w,hw,e⟩:=vg (jw h)
  have ea:=P.at' w hw;rw[wa,wc hw]at ea;have ea:ys[w]=row.getD (fl w) 0:=ea;rw[<- e,ea];exact getD_mem (P.lt w hw)
 ·obtain⟨c,hc,e⟩:=vg h
  obtain⟨w,hw,hf⟩:=some c hc;have ea:=P.at' w hw;rw[hf,wa (l:=row),wc hc]at ea;have ea:ys.getD w 0=row[c]:=ea;rw[<- e,<- ea];exact oh (getD_mem hw)
def fI(a b:Rat)(ns:List Int)(row:List Rat):Nat->Rat
 | 0=>0
 | k+1=>fI a b ns row k+(1-(aW a b ns row k).getD k 0)
theorem LG{a b:Rat}(a0:0<a)(b0:0<=b){xs row:List Rat}{fl:Nat->Nat}{ns:List Int}(h:gb xs row fl ns):∀i,i<=row.length->(∀t,t<i->eF a b ns row t<1)->aM a b xs i=fI a b ns row i
 | 0,_,_=>rfl
 | i+1,hi,ht=>by
  have ht':∀t,t<i->eF a b ns row t<1:=λt z=>ht t (by lia)
  obtain⟨P,F,_,_⟩:=zT a0 b0 h i (by lia) ht';have hpl:=bj a b xs i;have hl:=di a b ns row i;have hm:=rh (c:=i) P (by obtain⟨w,h1,h2⟩:=h.some i (by lia);exact⟨w,by lia,h2⟩) (λj hj hji=>BI F (by lia) (by lia) hji);rw[aM,fI,LG a0 b0 h i (by lia) ht',hm]
theorem zwz{a b:Rat}(a0:0<a)(b0:0<=b){xs row:List Rat}{fl:Nat->Nat}{ns:List Int}(h:gb xs row fl ns){t:Nat}(ht:t<row.length)(free:∀s,s<t->eF a b ns row s<1)(up:¬ eF a b ns row t<1):1<(cf a b (ai a b xs t)).length:=by
 obtain⟨P,F,o,_⟩:=zT a0 b0 h t (by lia) free;have hpl:=bj a b xs t;have hl:=di a b ns row t;have hsz:(ns.getD t 0).toNat=(bR (ai a b xs t).length fl t).length:=by rw[hpl];exact h.size t ht
 have hrow:aW a b ns row (t+1)=dX a b (bR (ai a b xs t).length fl t).length (aW a b ns row t) t:=by rw[<- hsz];rfl
 have hj:(t+1) % row.length<row.length:=Nat.mod_lt _ (by lia)
 have hne:(t+1) % row.length≠t:=λe=>by
  apply up
  unfold eF;rw[hrow,e,ic _ _ _ _ _ _ (by lia),if_pos rfl]
  decide
 obtain⟨w1,hw1,hf1⟩:=h.some _ hj;refine Y6 (c:=t) P (by obtain⟨w,h1,h2⟩:=h.some t ht;exact⟨w,by lia,h2⟩) (λj hj hji=>BI F ht (by lia) hji) (w1:=w1) (by lia) (by rw[hf1];exact hne) ?_;intro z
 apply up
 unfold eF;rw[hrow,ic _ _ _ _ _ _ (by lia),if_neg hne,<- hf1];exact z
theorem pL{a b:Rat}(a0:0<a)(b0:0<=b):∀n:Nat,0<=aG a b n
 | 0=>WT
 | n+1=>by
  have h1:=pL a0 b0 n;have h2:=Qn (vY a0) h1
  show 0<=a*aG a b n+b
  grind
theorem CI{a b:Rat}(a0:0<a)(b0:0<=b):∀(n:Nat)(ps:List Rat)(left:List Nat),left.length<=n->left.Nodup->(∀w∈left,w<ps.length)->(∀w∈left,0<=ps.getD w 0) ->
  ∀w∈(cb a b n ps left).2.1,w∈left/\0<=(cb a b n ps left).2.2.getD w 0/\(cb a b n ps left).2.2.getD w 0<1
 | 0,ps,left,hn,_,_,_=>by
  have:left=[]:=qM.mp (by lia);subst this;intro w hw;cases (show w∈([]:List Nat)from hw)
 | n+1,ps,left,hn,nd,hlt,nn=>by
  by_cases e:aE ps left=[]
  ·rw[jr e]
   intro w hw;have hw:w∈left:=hw;refine⟨hw,nn w hw,?_⟩;have:¬ w∈aE ps left:=by rw[e];simp
   unfold aE at this;rw[vd]at this
   show ps.getD w 0<1
   by_cases z:ps.getD w 0<1
   ·exact z
   ·exact absurd ⟨hw,by simp only[z,decide_false,xp]⟩ this
  ·rw[gF e]
   have hl:=A9 ps left;have hp:=VR.mpr e;have nd':(bG left (aE ps left)).Nodup:=kZ nd;have lt':∀w∈bG left (aE ps left),w<(cC (a^(aE ps left).length) (aG a b (aE ps left).length) ps (bG left (aE ps left))).length:=λw hw=>by rw[gn];exact lq hlt w hw
   have ih:=CI a0 b0 n (cC (a^(aE ps left).length) (aG a b (aE ps left).length) ps (bG left (aE ps left))) (bG left (aE ps left)) (by lia) nd' lt' (λw hw=>by
    rw[ik _ _ _ _ nd' (lq hlt),if_pos hw];have h1:=nn w (vd.mp hw).1;have h2:=Qn (vY (pB a0 (aE ps left).length)) h1;have h3:=pL a0 b0 (aE ps left).length
    grind)
   intro w hw;have:=ih w hw;exact⟨(vd.mp this.1).1,this.2⟩
theorem Ph{xs:List Rat}(nn:∀x∈xs,0<=x)(lt:∀x∈xs,x<1){w:Nat}(hw:w<xs.length):0<=(bK xs).getD w 0:=by
 have h1:=fV (xs:=xs) (by lia);have h2:=lt _ h1;have h3:=nn _ (getD_mem (d:=0) hw);unfold bK;rw[nN hw]
 grind
theorem RW{a b:Rat}(a0:0<a)(b0:0<=b){xs:List Rat}(nn:∀x∈xs,0<=x)(lt:∀x∈xs,x<1):∀y∈cQ a b xs,0<=y/\y<1:=λy hy=>by
 obtain⟨j,hj,e⟩:=vg hy;have hlen:=ja a b xs;have hjx:j<xs.length:=by lia
 have hpl:(dW a b xs).2.2.length=xs.length:=by
  unfold dW;rw[rz,eW]
 have e2:(cQ a b xs).getD j 0=y:=by rw[wa,wc hj];exact e
 unfold cQ at e2;rw[mw (by lia)]at e2
 split at e2
 ·rename_i hm
  have:=CI a0 b0 xs.length (bK xs) (wx xs.length) (by simp) Wu (λw hw=>by rw[eW];exact wD.mp hw) (λw hw=>Ph nn lt (wD.mp hw)) j hm;rw[<- e2];exact this.2
 ·rw[<- e2];exact⟨WT,by decide⟩
theorem zsn{a b:Rat}(a0:0<a)(b0:0<=b){xs:List Rat}(h1:1<=xs.length)(nn:∀x∈xs,0<=x)(lt:∀x∈xs,x<1):0∈cQ a b xs:=by
 obtain⟨j,hj,e⟩:=vg (fV h1)
 have hr:(bK xs).getD j 0=1:=by
  unfold bK;rw[nN hj,wa,wc hj]
  show xs[j]+(1-b_ xs)=1
  rw[e];grind
 have hend:j∈aE (bK xs) (wx xs.length):=by
  unfold aE;rw[vd];refine⟨wD.mpr hj,?_⟩;rw[hr];decide
 have hne:aE (bK xs) (wx xs.length)≠[]:=λz=>by rw[z]at hend;cases hend
 have hpl:(dW a b xs).2.2.length=xs.length:=by
  unfold dW;rw[rz,eW]
 have hnot:¬ j∈(dW a b xs).2.1:=λz=>by
  unfold dW at z;obtain⟨n,hn⟩:∃n,xs.length=n+1:=⟨xs.length-1,by lia⟩;have hl:=A9 (bK xs) (wx xs.length);rw[vB]at hl;have hp:=VR.mpr hne;have z':j∈(cb a b (n+1) (bK xs) (wx xs.length)).2.1:=by rw[<- hn];exact z
  rw[gF hne]at z';have nd':(bG (wx xs.length) (aE (bK xs) (wx xs.length))).Nodup:=kZ Wu;have ltr:∀w∈wx xs.length,w<(bK xs).length:=λw hw=>by rw[eW];exact wD.mp hw
  have:=CI a0 b0 n _ _ (by lia) nd' (λw hw=>by rw[gn];exact lq ltr w hw) (λw hw=>by
   rw[ik _ _ _ _ nd' (lq ltr),if_pos hw];have h1:=Ph nn lt (wD.mp (vd.mp hw).1);have h2:=Qn (vY (pB a0 (aE (bK xs) (wx xs.length)).length)) h1;have h3:=pL a0 b0 (aE (bK xs) (wx xs.length)).length
   grind) j z'
  have:=(vd.mp this.1).2;simp only[hend,decide_true,qj]at this;cases this
 have hlen:=ja a b xs
 have hg:(cQ a b xs).getD j 0=0:=by
  unfold cQ;rw[mw (by lia),if_neg hnot]
 rw[<- hg];exact getD_mem (by lia)
structure dh(xs:List Rat):Prop where
 nn:∀x∈xs,0<=x
 lt:∀x∈xs,x<1
theorem dh.mK{a b:Rat}(a0:0<a)(b0:0<=b){xs:List Rat}(h:dh xs):dh (cQ a b xs):=⟨λy hy=>(RW a0 b0 h.nn h.lt y hy).1,λy hy=>(RW a0 b0 h.nn h.lt y hy).2⟩
theorem dh.at{a b:Rat}(a0:0<a)(b0:0<=b){xs:List Rat}(h:dh xs):∀k,dh (ai a b xs k)
 | 0=>h
 | k+1=>(dh.at a0 b0 h k).mK a0 b0
theorem dh.zero{a b:Rat}(a0:0<a)(b0:0<=b){xs:List Rat}(h:dh xs)(h1:1<=xs.length){k:Nat}(hk:1<=k):0∈ai a b xs k:=by
 obtain⟨j,rfl⟩:∃j,k=j+1:=⟨k-1,by lia⟩;have:=h.at a0 b0 j;exact zsn a0 b0 (by rw[bj];exact h1) this.nn this.lt
theorem Fd{xs:List Rat}(h:dh xs)(h0:0∈xs):(aj xs).dropLast++[0]=aj xs:=by
 have hm:=oh h0;have hne:aj xs≠[]:=λe=>by rw[e]at hm;cases hm
 have hpw:(aj xs).Pairwise (· > ·):=ie _ _
 have hl:(aj xs).getLast hne=0:=by
  have h1:=h.nn _ (jw (List.getLast_mem hne))
  have h2:(aj xs).getLast hne<=0:=by
   have e:=Qo hne;rw[<- e]at hm hpw;rcases vW.mp hm with z | z
   ·have:=(qf.mp hpw).2.2 0 z _ (wY.mpr rfl)
    exact vY this
   ·rw[<- wY.mp z];exact WT
  grind
 have:=Qo hne;rw[hl]at this;exact this
theorem yF{xs:List Rat}(h1:1<=xs.length):1<=(aj xs).length:=by
 have:=oh (getD_mem (d:=0) (show 0<xs.length by lia));exact xh this
theorem zZ(xs:List Rat):(bN xs).length=(aj xs).length:=by unfold bN;rw[wo]
theorem zO(xs:List Rat):∀n∈bN xs,0<=n:=λn hn=>by
 obtain⟨v,_,rfl⟩:=wO.mp hn
 lia
theorem Pn{α : Type}(g h : α -> Nat):∀l:List α,(l.map λv=>g v+h v).sum=(l.map g).sum+(l.map h).sum
 | []=>rfl
 | x::l=>by
  simp only[va,W8,Pn g h l]
  lia
theorem Lo(x:Rat):∀vs:List Rat,vs.Nodup->(vs.map λv=>if x=v then 1 else 0).sum<=1
 | [],_=>by simp
 | v::vs,nd=>by
  have⟨h1,h2⟩:=WH.mp nd;rw[va,W8]
  by_cases e:x=v
  ·have z:(vs.map λv=>if x=v then 1 else 0).sum=0:=by
    have:∀ws:List Rat,(∀y∈ws,x≠y)->(ws.map λv=>if x=v then 1 else 0).sum=0:=by
     intro ws
     induction ws with
     | nil=>intro _;rfl
     | cons y ws ih =>
      intro hy;rw[va,W8,if_neg (hy y (wG ..)),ih λz hz=>hy z (wF _ hz)]
    exact this vs λy hy z=>h1 (by rw[<- e,z];exact hy)
   rw[z,if_pos e]
   lia
  ·have:=Lo x vs h2
   rw[if_neg e];lia
theorem MK(f:Nat->Rat)(vs:List Rat)(nd:vs.Nodup):∀l:List Nat,(vs.map λv=>(l.filter λw=>decide (f w=v)).length).sum<=l.length
 | []=>by
  have:∀ws:List Rat,(ws.map λv=>(([]:List Nat).filter λw=>decide (f w=v)).length).sum=0:=by
   intro ws
   induction ws with
   | nil=>rfl
   | cons y ws ih=>rw[va,W8,ih];rfl
  rw[this];exact wq _
 | w::l=>by
  have ih:=MK f vs nd l
  have e:(vs.map λv=>((w::l).filter λw=>decide (f w=v)).length)=vs.map λv=>(if f w=v then 1 else 0)+(l.filter λw=>decide (f w=v)).length:=by
   refine qq λv _=>?_
   rw[WI]
   by_cases z:f w=v
   ·rw[if_pos (by simp[z]),if_pos z,vP];lia
   ·rw[if_neg (by simp[z]),if_neg z];lia
  rw[e,Pn,vP];have:=Lo (f w) vs nd
  lia
theorem SN(xs:List Rat):(aj xs).Nodup:=(ie xs.length xs).imp λ{x y} h=>by
 have h:y<x:=h;intro e;rw[e]at h;exact absurd h (by grind)
theorem Lx(xs:List Rat):((bN xs).map Q6).sum<=xs.length:=by
 have:=MK (λw=>xs.getD w 0) (aj xs) (SN xs) (wx xs.length);rw[vB]at this
 have e:(bN xs).map Q6=(aj xs).map λv=>((wx xs.length).filter λw=>decide (xs.getD w 0=v)).length:=by
  unfold bN;rw[Vq];refine qq λv _=>?_
  show((d9 xs v).length:Int).toNat=_
  rw[wU];rfl
 rw[e];exact this
theorem SI(xs:List Rat):upTo (bN xs) (bN xs).length<=xs.length:=by
 unfold upTo;rw[Wv];exact Lx xs
theorem zt6(xs:List Rat):∀n∈bN xs,0<=n/\n<=xs.length:=λn hn=>by
 obtain⟨v,_,rfl⟩:=wO.mp hn
 have:(d9 xs v).length<=xs.length:=by
  have:=WB (λw=>decide (xs.getD w 0=v)) (wx xs.length);rw[vB]at this;exact this
 lia
theorem j9(xs:List Rat):(aj xs).length<=xs.length:=by
 have h:∀(n:Nat)(l:List Rat),(iU n l).length<=n:=by
  intro n
  induction n with
  | zero=>intro l;exact wq _
  | succ n ih =>
   intro l
   by_cases e:l=[]
   ·rw[e,B2];simp
   ·rw[nY e,vP]
    have:=ih (l.filter λy=>!decide (y=b_ l))
    lia
 exact h _ _
theorem lR{m:Nat}{xs ys:List Rat}(c:Cm m xs)(h:∀y∈ys,y∈xs):Cm m ys:=c.jN λy hy=>.inl (h y hy)
theorem pf{m:Nat}{xs:List Rat}(c:Cm m xs):Cm m (aj xs).dropLast:=lR c λy hy=>jw (by rw[xq]at hy;exact List.mem_of_mem_take hy)
def seg(n:Nat)(fl:Nat->Nat)(s t:Nat):List Nat:=(wx n).filter λw=>decide (s<=fl w)&&decide (fl w<t)
theorem iI{n:Nat}{fl:Nat->Nat}{s t w:Nat} : w∈seg n fl s t ↔ w<n/\s<=fl w/\fl w<t:=by
 unfold seg;rw[vd,wD,wZ,decide_eq_true_eq,decide_eq_true_eq]
theorem RH(n:Nat)(fl:Nat->Nat)(s t:Nat):(seg n fl s t).Nodup:=Wu.filter _
theorem zww{n:Nat}{fl:Nat->Nat}{s t u:Nat}(h1:s<=t)(h2:t<=u):(seg n fl s t++seg n fl t u).Perm (seg n fl s u):=by
 have e1:(seg n fl s u).filter (λw=>decide (fl w<t))=seg n fl s t:=by
  unfold seg;rw[W0];refine vn λw _=>?_
  rw[vH];simp only[wZ,decide_eq_true_eq]
  lia
 have e2:(seg n fl s u).filter (λw=>!decide (fl w<t))=seg n fl t u:=by
  unfold seg;rw[W0];refine vn λw _=>?_
  rw[vH];simp only[wZ,W7,decide_eq_true_eq,decide_eq_false_iff_not]
  lia
 have:=List.filter_append_perm (λw=>decide (fl w<t)) (seg n fl s u);rw[e1,e2]at this;exact this
theorem OS(n:Nat)(fl:Nat->Nat)(s:Nat):seg n fl s s=[]:=by
 unfold seg;rw[qU];intro w _;simp only[wZ,decide_eq_true_eq]
 lia
inductive jK(n:Nat)(fl:Nat->Nat):Nat->List (List Nat)->Nat->Prop
 | nil (t:Nat):jK n fl t [] t
 | cons {t u v:Nat} {ws:List (List Nat)} : t<u->jK n fl u ws v->jK n fl t (seg n fl t u::ws) v
theorem jK.le{n:Nat}{fl:Nat->Nat}{t v:Nat}{ws:List (List Nat)}(h:jK n fl t ws v):t<=v:=by
 induction h with
 | nil t=>exact wq t
 | cons h _ ih=>lia
theorem jK.perm{n:Nat}{fl:Nat->Nat}{t v:Nat}{ws:List (List Nat)}(h:jK n fl t ws v):ws.flatten.Perm (seg n fl t v):=by
 induction h with
 | nil t=>rw[OS];exact ut _
 | cons h k ih =>
  rw[Xn];exact(xr _ ih).trans (zww (by lia) k.le)
theorem N7(p:Nat->Prop)[DecidablePred p](t:Nat):∀m:Nat,t<=m->(∀c d,t<=c->c<=d->d<m->p d->p c)->∃u,t<=u/\u<=m /\ ∀c,t<=c->c<m->(p c ↔ c<u)
 | 0,h,_=>⟨0,h,wq 0,λc _ hc=>absurd hc (by lia)⟩
 | m+1,h,mono=>by
  rcases wJ m t with z | z
  ·exact⟨m+1,h,wq _,λc h1 h2=>absurd h2 (by lia)⟩
  ·by_cases q:p m
   ·exact⟨m+1,h,wq _,λc h1 h2=>⟨λ_=>h2,λ_=>mono c m h1 (by lia) (by lia) q⟩⟩
   ·obtain⟨u,u1,u2,hu⟩:=N7 p t m z (λc d h1 h2 h3=>mono c d h1 h2 (by lia))
    refine⟨u,u1,by lia,λc h1 h2=>?_⟩;rcases wJ c m with y | y
    ·exact hu c h1 y
    ·have:c=m:=by lia
     subst this;exact⟨λk=>absurd k q,λk=>absurd k (by lia)⟩
theorem Ab{row:List Rat}(F:row.Pairwise (· > ·)){c d:Nat}(h:c<d)(hd:d<row.length):row.getD d 0<row.getD c 0:=by
 have:=Wy.mp F c d (by lia) hd h;rw[wa,wc hd,wa,wc (by lia)];exact this
theorem zBc{row:List Rat}(F:row.Pairwise (· > ·)){c d:Nat}(h:c<=d)(hd:d<row.length):row.getD d 0<=row.getD c 0:=by
 rcases wJ c d with z | z
 ·exact vY (Ab F z hd)
 ·rw[show c=d by lia];exact WT
theorem Tb{a b:Rat}(a0:0<a)(b0:0<=b){row:List Rat}{fl:Nat->Nat}{N:Nat}(F:row.Pairwise (· > ·)):∀(n:Nat)(ps:List Rat)(t:Nat)(A B:Rat),t<=row.length->ps.length=N->0<A->(∀w∈seg N fl t row.length,ps.getD w 0=A*row.getD (fl w) 0+B/\0<ps.getD w 0) ->
  ∃(v:Nat)(A' B':Rat),v<=row.length/\0<A'/\jK N fl t (cb a b n ps (seg N fl t row.length)).1 v/\(cb a b n ps (seg N fl t row.length)).2.1=seg N fl v row.length /\
   ∀w∈seg N fl v row.length,(cb a b n ps (seg N fl t row.length)).2.2.getD w 0=A'*row.getD (fl w) 0+B'/\0<A'*row.getD (fl w) 0+B'
 | 0,ps,t,A,B,ht,hl,hA,hw=>⟨t,A,B,ht,hA,.nil t,rfl,λw h=>⟨(hw w h).1,by rw[<- (hw w h).1];exact(hw w h).2⟩⟩
 | n+1,ps,t,A,B,ht,hl,hA,hw=>by
  by_cases e:aE ps (seg N fl t row.length)=[]
  ·rw[jr e]
   exact⟨t,A,B,ht,hA,.nil t,rfl,λw h=>⟨(hw w h).1,by rw[<- (hw w h).1];exact(hw w h).2⟩⟩
  ·obtain⟨u,u1,u2,hu⟩:=N7 (λc=>¬ A*row.getD c 0+B<1) t row.length ht (λc d h1 h2 h3 hp=>by
    have:=Rat.mul_le_mul_of_nonneg_left (zBc F h2 h3) (vY hA);have hp:¬ A*row.getD d 0+B<1:=hp
    show ¬ A*row.getD c 0+B<1
    grind)
   have eE:aE ps (seg N fl t row.length)=seg N fl t u:=by
    unfold aE
    have:(seg N fl t row.length).filter (λw=>!decide (ps.getD w 0<1))=(seg N fl t row.length).filter (λw=>decide (fl w<u)):=by
     refine vn λw h=>?_
     have h1:=hw w h;have h2:=iI.mp h;rw[vH,W7,decide_eq_false_iff_not,decide_eq_true_eq,h1.1];exact hu (fl w) h2.2.1 h2.2.2
    rw[this];unfold seg;rw[W0];refine vn λw _=>?_
    rw[vH];simp only[wZ,decide_eq_true_eq]
    lia
   have eL:bG (seg N fl t row.length) (seg N fl t u)=seg N fl u row.length:=by
    unfold bG
    have:(seg N fl t row.length).filter (λw=>!decide (w∈seg N fl t u))=(seg N fl t row.length).filter (λw=>!decide (fl w<u)):=by
     refine vn λw h=>?_
     have h2:=iI.mp h;rw[vH,W7,W7,decide_eq_false_iff_not,decide_eq_false_iff_not,iI]
     constructor
     ·intro k y;exact k ⟨h2.1,h2.2.1,y⟩
     ·intro k y;exact k y.2.2
    rw[this];unfold seg;rw[W0];refine vn λw _=>?_
    rw[vH];simp only[wZ,W7,decide_eq_true_eq,decide_eq_false_iff_not]
    lia
   have htu:t<u:=by
    rcases wJ t u with z | z
    ·exact z
    ·have:u=t:=by lia
     rw[eE,this,OS]at e;exact absurd rfl e
   rw[gF e,eE,eL];have hf:=pB a0 (seg N fl t u).length;have hg:=pL a0 b0 (seg N fl t u).length;generalize a^(seg N fl t u).length=f at *;generalize aG a b (seg N fl t u).length=g at *;have hA':0<f*A:=qo hf hA
   obtain⟨v,A',B',hv,hA2,hs,hl2,hw2⟩:=Tb (fl:=fl) (N:=N) a0 b0 F n (cC f g ps (seg N fl u row.length)) u (f*A) (f*B+g) u2 (by rw[gn];exact hl) hA' (λw h=>by
    have hm:=iI.mp h;have h1:=hw w (iI.mpr ⟨hm.1,by lia,hm.2.2⟩);have h3:=qo hf h1.2;rw[ik _ _ _ _ (RH ..) (λw h=>by rw[hl];exact(iI.mp h).1),if_pos h];refine⟨by rw[h1.1];grind,by grind⟩)
   exact⟨v,A',B',hv,hA2,.cons htu hs,hl2,hw2⟩
structure lH(xs ys:List Rat)(h9:List (List Nat))(v:Nat):Prop where
 v1:1<=v
 vm:v<=(aj xs).length
 first:∃ws,h9=seg xs.length (aU xs) 0 1::ws/\jK xs.length (aU xs) 1 ws v
 vals:∃(A B:Rat),0<A/\aj ys=((aj xs).drop v).map (λx=>A*x+B)++[0]/\(∀x∈(aj xs).drop v,0<A*x+B)
 at':hV ys (aj ys) (λw=>if aU xs w<v then(aj xs).length-v else aU xs w-v)
 len:ys.length=xs.length
theorem Ko{l:List Rat}{v c:Nat} : (l.drop v).getD c 0=l.getD (v+c) 0:=by
 rw[wa,Xa,wa]
theorem oA{xs:List Rat}{c:Nat}(hc:c<(aj xs).length):∃w,w<xs.length/\aU xs w=c:=by
 have hm:(aj xs).getD c 0∈xs:=jw (getD_mem hc);obtain⟨w,hw,e⟩:=vg hm;refine⟨w,hw,(F0 hw hc).mpr ?_⟩;rw[wa,wc hw];exact e
theorem Du{a b:Rat}(a0:0<a)(b0:0<=b){xs:List Rat}(h1:1<=xs.length)(nn:∀x∈xs,0<=x)(lt:∀x∈xs,x<1):∃v,lH xs (cQ a b xs) (cf a b xs) v:=by
 have P:=kT xs;have F:(aj xs).Pairwise (· > ·):=ie xs.length xs;have m1:=yF h1;have top:∀j,j<(aj xs).length->j≠0->(aj xs).getD j 0<(aj xs).getD 0 0:=λj hj h0=>Ab F (by lia) hj
 have he:=B1 P (oA m1) top;have hmax:=rh P (oA m1) top;have hmx1:b_ xs<1:=lt _ (fV h1)
 have e01:bR xs.length (aU xs) 0=seg xs.length (aU xs) 0 1:=by
  unfold bR seg;refine vn λw _=>?_
  rw[vH];simp only[wZ,decide_eq_true_eq]
  lia
 rw[e01]at he
 have hr:wx xs.length=seg xs.length (aU xs) 0 (aj xs).length:=by
  unfold seg
  symm
  rw[Qj];intro w hw;have:=P.lt w (wD.mp hw);simp only[wZ,decide_eq_true_eq]
  lia
 have hne:aE (bK xs) (wx xs.length)≠[]:=λe=>by
  obtain⟨w,hw,hf⟩:=oA m1;rw[he]at e;have:w∈seg xs.length (aU xs) 0 1:=iI.mpr ⟨hw,by lia,by lia⟩;rw[e]at this;cases this
 obtain⟨n,hn⟩:∃n,xs.length=n+1:=⟨xs.length-1,by lia⟩
 have eL:bG (wx xs.length) (seg xs.length (aU xs) 0 1)=seg xs.length (aU xs) 1 (aj xs).length:=by
  unfold bG seg;refine vn λw hw=>?_
  have h2:=P.lt w (wD.mp hw);rw[vH,W7,decide_eq_false_iff_not]
  have:w∈(wx xs.length).filter (λw=>decide (0<=aU xs w)&&decide (aU xs w<1)) ↔ aU xs w<1:=by
   rw[vd,wZ,decide_eq_true_eq,decide_eq_true_eq];exact⟨λh=>h.2.2,λh=>⟨hw,by lia,h⟩⟩
  rw[this];simp only[wZ,decide_eq_true_eq]
  lia
 have hf:=pB a0 (seg xs.length (aU xs) 0 1).length;have hg:=pL a0 b0 (seg xs.length (aU xs) 0 1).length
 have eR:dW a b xs=(seg xs.length (aU xs) 0 1::(cb a b n (cC (a^(seg xs.length (aU xs) 0 1).length) (aG a b (seg xs.length (aU xs) 0 1).length) (bK xs) (seg xs.length (aU xs) 1 (aj xs).length)) (seg xs.length (aU xs) 1 (aj xs).length)).1,(cb a b n (cC (a^(seg xs.length (aU xs) 0 1).length) (aG a b (seg xs.length (aU xs) 0 1).length) (bK xs) (seg xs.length (aU xs) 1 (aj xs).length)) (seg xs.length (aU xs) 1 (aj xs).length)).2):=by
  unfold dW;have e:cb a b xs.length (bK xs) (wx xs.length)=cb a b (n+1) (bK xs) (wx xs.length):=by rw[<- hn]
  rw[e,gF hne,he,eL]
 generalize a^(seg xs.length (aU xs) 0 1).length=f at *;generalize aG a b (seg xs.length (aU xs) 0 1).length=g at *
 obtain⟨v,A,B,hv,hA,hs,hl2,hw2⟩:=Tb (fl:=aU xs) (N:=xs.length) a0 b0 F n (cC f g (bK xs) (seg xs.length (aU xs) 1 (aj xs).length)) 1 f (f*(1-b_ xs)+g) m1 (by rw[gn,eW]) hf (λw h=>by
  have hm:=iI.mp h;rw[ik _ _ _ _ (RH ..) (λw h=>by rw[eW];exact(iI.mp h).1),if_pos h]
  have e:(bK xs).getD w 0=(aj xs).getD (aU xs w) 0+(1-b_ xs):=by
   unfold bK;rw[nN hm.1,P.at' w hm.1]
  have hx:=nn _ (getD_mem (d:=0) hm.1);rw[P.at' w hm.1]at hx;have h3:=qo hf (show 0<(aj xs).getD (aU xs w) 0+(1-b_ xs) by grind);rw[e];exact⟨by grind,by grind⟩)
 have v1:=hs.le
 have ePh:∀w,w<xs.length->(cQ a b xs).getD w 0=if aU xs w<v then 0 else A*(aj xs).getD (aU xs w) 0+B:=λw hw=>by
  have hpl:(dW a b xs).2.2.length=xs.length:=by unfold dW;rw[rz,eW]
  unfold cQ;rw[mw (by lia),eR]
  show(if w∈(cb a b n _ _).2.1 then _ else _)=_
  rw[hl2]
  by_cases z:aU xs w<v
  ·rw[if_neg (λh=>by have:=(iI.mp h).2.1;lia),if_pos z]
  ·have hmem:w∈seg xs.length (aU xs) v (aj xs).length:=iI.mpr ⟨hw,by lia,P.lt w hw⟩
   rw[if_pos hmem,if_neg z];exact(hw2 w hmem).1
 have posd:∀x∈(aj xs).drop v,0<A*x+B:=λx hx=>by
  obtain⟨c,hc,e⟩:=vg hx;rw[Wf]at hc;obtain⟨w,hw,hfw⟩:=oA (xs:=xs) (c:=v+c) (by lia);have:=(hw2 w (iI.mpr ⟨hw,by lia,P.lt w hw⟩)).2;rw[hfw,<- Ko,wa,wc (by rw[Wf];lia)]at this;rw[<- e];exact this
 have rlen:(((aj xs).drop v).map (λx=>A*x+B)++[0]).length=(aj xs).length-v+1:=by simp
 have rget:∀c,c<(aj xs).length-v->(((aj xs).drop v).map (λx=>A*x+B)++[0]).getD c 0=A*(aj xs).getD (v+c) 0+B:=λc hc=>by
  rw[wa,vO (by simp;lia),<- wa,nN (by rw[Wf];lia),Ko]
 have rlast:(((aj xs).drop v).map (λx=>A*x+B)++[0]).getD ((aj xs).length-v) 0=0:=by
  rw[wa,vf (by simp)];simp
 have P2:hV (cQ a b xs) (((aj xs).drop v).map (λx=>A*x+B)++[0]) (λw=>if aU xs w<v then(aj xs).length-v else aU xs w-v):=by
  refine⟨λw hw=>?_,λw hw=>?_⟩
  ·rw[ja]at hw
   rw[ePh w hw];have:=P.lt w hw
   by_cases z:aU xs w<v
   ·simp only[z,if_true]
    exact rlast.symm
   ·simp only[z,if_false]
    rw[rget _ (by lia),show v+(aU xs w-v)=aU xs w by lia]
  ·rw[ja]at hw
   have:=P.lt w hw;rw[rlen]
   show(if aU xs w<v then _ else _)<_
   split<;>lia
 have F2:(((aj xs).drop v).map (λx=>A*x+B)++[0]).Pairwise (· > ·):=by
  rw[qf];refine⟨?_,Q1 _ _,λx hx y hy=>?_⟩
  ·rw[WN]
   refine(uR F).imp λ{x y} h=>?_
   have:=Rat.mul_lt_mul_of_pos_left (show y<x from h) hA
   show A*y+B<A*x+B
   grind
  ·obtain⟨z,hz,rfl⟩:=wO.mp hx
   rw[wY.mp hy];exact posd z hz
 have eV:aj (cQ a b xs)=((aj xs).drop v).map (λx=>A*x+B)++[0]:=zrB P2 F2 λc hc=>by
  rw[rlen]at hc;rcases wJ c ((aj xs).length-v)with z | z
  ·obtain⟨w,hw,hfw⟩:=oA (xs:=xs) (c:=v+c) (by lia)
   refine⟨w,by rw[ja];exact hw,?_⟩
   show(if aU xs w<v then _ else _)=_
   rw[hfw,if_neg (by lia)]
   lia
  ·obtain⟨w,hw,hfw⟩:=oA m1
   refine⟨w,by rw[ja];exact hw,?_⟩
   show(if aU xs w<v then _ else _)=_
   rw[hfw,if_pos (by lia)]
   lia
 refine⟨v,v1,hv,⟨_,by unfold cf;rw[eR],hs⟩,⟨A,B,hA,eV,posd⟩,by rw[eV];exact P2,ja ..⟩
def kM(xs:List Rat):List (List Nat):=(aj xs).map (d9 xs)
theorem jI(xs:List Rat):(kM xs).length=(aj xs).length:=wo ..
theorem Mk{ys row:List Rat}{fl:Nat->Nat}(P:hV ys row fl)(F:row.Pairwise (· > ·)){c:Nat}(hc:c<row.length):d9 ys (row.getD c 0)=bR ys.length fl c:=by
 unfold d9 bR;refine vn λw hw=>?_
 have hw:=wD.mp hw;rw[vH,decide_eq_true_eq,decide_eq_true_eq,P.at' w hw]
 constructor
 ·intro h
  rcases VB (fl w) c with z | z | z
  ·have:=Ab F z hc;rw[h]at this;exact absurd this (by grind)
  ·exact z
  ·have:=Ab F z (P.lt w hw);rw[h]at this;exact absurd this (by grind)
 ·rintro rfl;rfl
theorem zrN{xs:List Rat}{c:Nat}(hc:c<(aj xs).length):(kM xs).getD c []=seg xs.length (aU xs) c (c+1):=by
 have h:=Mk (kT xs) (ie xs.length xs) hc;unfold kM;rw[wa,wu,wc hc]
 show d9 xs (aj xs)[c]=_
 rw[wa,wc hc]at h;have h:d9 xs (aj xs)[c]=_:=h;rw[h];unfold bR seg;refine vn λw _=>?_
 rw[vH];simp only[wZ,decide_eq_true_eq]
 lia
theorem lH.new{xs ys:List Rat}{h9:List (List Nat)}{v:Nat}(J:lH xs ys h9 v):kM ys=(kM xs).drop v++[seg xs.length (aU xs) 0 v]:=by
 obtain⟨A,B,hA,eV,pos⟩:=J.vals;have F2:(aj ys).Pairwise (· > ·):=ie ys.length ys;have hlen:(aj ys).length=(aj xs).length-v+1:=by rw[eV];simp
 have v1:=J.v1;have vm:=J.vm;refine Wg (by rw[jI,hlen,wX,Wf,jI];rfl) λc h1 h2=>?_
 rw[jI,hlen]at h1
 have e1:(kM ys)[c]'(by rw[jI];lia)=bR xs.length (λw=>if aU xs w<v then(aj xs).length-v else aU xs w-v) c:=by
  have:=Mk J.at' F2 (c:=c) (by lia);rw[J.len]at this;rw[<- this];unfold kM;rw[Ww,wa,wc (by lia)]
  rfl
 rw[e1];rcases wJ c ((aj xs).length-v)with z | z
 ·rw[List.getElem_append_left (by rw[Wf,jI];lia),Xm]
  have hg:=zrN (xs:=xs) (c:=v+c) (by lia);rw[wa,wc (by rw[jI];lia)]at hg;have hg:(kM xs)[v+c]'(by rw[jI];lia)=_:=hg;rw[hg];unfold bR seg;refine vn λw hw=>?_
  have:=(kT xs).lt w (wD.mp hw);rw[vH];simp only[wZ,decide_eq_true_eq]
  split<;>lia
 ·rw[List.getElem_append_right (by rw[Wf,jI];lia)]
  have hc:c=(aj xs).length-v:=by lia
  simp only[List.getElem_singleton];unfold bR seg;refine vn λw hw=>?_
  have:=(kT xs).lt w (wD.mp hw);rw[vH];simp only[wZ,decide_eq_true_eq]
  split<;>lia
theorem lH.perm{xs ys:List Rat}{h9:List (List Nat)}{v:Nat}(J:lH xs ys h9 v):h9.flatten.Perm (seg xs.length (aU xs) 0 v):=by
 obtain⟨ws,e,s⟩:=J.first;rw[e];exact(jK.cons (by decide) s).perm
theorem lH.more{xs ys:List Rat}{h9:List (List Nat)}{v:Nat}(J:lH xs ys h9 v):1<h9.length ↔ 1<v:=by
 obtain⟨ws,e,s⟩:=J.first;rw[e];cases s with
 | nil=>simp
 | cons h k=>have:=k.le;simp;lia
theorem Gd(F s:Rat):∀n:Nat,aG F s n=aG F 1 n*s
 | 0=>by show(0:Rat)=0*s;rw[Rat.zero_mul]
 | n+1=>by
  show F*aG F s n+s=(F*aG F 1 n+1)*s
  rw[Gd F s n]
  grind
theorem zM{k:Nat}{F:Rat}(h:ah k F):∀i:Nat,∃T:Int,aG F 1 i=wH T ((F.den:Int)^i)/\Bd ((k+1)*i+1) T/\Bd (k*i+1) ((F.den:Int)^i)
 | 0=>⟨0,by simp[aG],⟨by simp⟩,⟨by simp⟩⟩
 | i+1=>by
  obtain⟨T,e,bT,bd⟩:=zM h i;have hd:(F.den:Int)^i≠0:=VY (f_ F);have hd1:(F.den:Int)^(i+1)≠0:=VY (f_ F);have ed:(F.den:Int)^(i+1)=(F.den:Int)^i*(F.den:Int):=Qc ..
  have bd1:Bd (k*(i+1)+1) ((F.den:Int)^(i+1)):=by
   rw[ed];exact(bd.mul h.b).mono (by rw[qC];lia)
  refine⟨F.num*T+(F.den:Int)^(i+1),?_,?_,bd1⟩
  ·symm
   refine gC hd1 ?_
   show(F*aG F 1 i+1)*_=_
   rw[e];have k1:=cV T hd;have k2:=iP F
   have e1:((F.num*T+(F.den:Int)^(i+1):Int):Rat)=(F.num:Rat)*(T:Rat)+(((F.den:Int)^(i+1):Int):Rat):=by
    rw[qt,Wd]
   rw[e1,<- k1,<- k2,ed,Wd];generalize (((F.den:Int)^i:Int):Rat)=D;generalize ((F.den:Int):Rat)=d;generalize wH T ((F.den:Int)^i)=y
   grind
  ·have h1:(k+1)*(i+1)=(k+1)*i+(k+1):=qC ..
   have h2:k*(i+1)<=(k+1)*i+k:=by rw[qC];have:=Wi i (show k<=k+1 by lia);lia
   exact((h.t.mul bT).add bd1).mono (by lia)
theorem J4{k:Nat}{F:Rat}(h:ah k F)(i:Nat):ah ((k+1)*i+1) (aG F 1 i):=by
 obtain⟨T,e,bT,bd⟩:=zM h i;rw[e];exact ah.divInt (VY (f_ F)) bT (bd.mono (by have:=Wi i (show k<=k+1 by lia);lia))
def fE(F s:Rat)(n:Nat)(x:Rat):Rat:=F^n*x+aG F 1 n*s
theorem p8(F s:Rat)(n:Nat)(x:Rat):fE F s n x=push F s n x:=by
 unfold fE;rw[jf,<- Gd]
theorem Zx(F s:Rat)(m n:Nat)(x:Rat):fE F s (m+n) x=fE F s n (fE F s m x):=by
 rw[p8,p8,p8,zyC]
theorem zxj(F s x:Rat):fE F s 0 x=x:=by rw[p8];rfl
theorem zxX(F s x:Rat):fE F s 1 x=F*x+s:=by rw[p8];rfl
theorem Su{F s r:Rat}(h:r*(1-F)=s):∀k:Nat,aG F s k=r-F^k*r
 | 0=>by rw[qB,xf];show(0:Rat)=r-r;grind
 | k+1=>by
  show F*aG F s k+s=_
  rw[Su h k,W4]
  grind
theorem zyF{F s r:Rat}(h:r*(1-F)=s)(n:Nat)(x:Rat):fE F s n x=r+F^n*(x-r):=by
 unfold fE;rw[<- Gd,Su h]
 grind
theorem Cm.Yv{m:Nat}{h:Rat}{xs:List Rat}{a b:Rat}(c:Cm m (h::xs))(ba:ah 10 a)(bb:ah 10 b)(n i:Nat):Cm (m+2+21*n) ((h+(1-xs.getD i 0))::dX a b n xs i):=by
 obtain⟨B,h0,h1,h2⟩:=c
 have hz:∃z:Int,xs.getD i 0=wH z B/\Bd m z:=by
  rcases wJ i xs.length with q | q
  ·rw[wa,wc q]
   exact h2 _ (wF _ (vt q))
  ·rw[wa,wP q]
   exact⟨0,by simp,⟨by simp;exact Wl m⟩⟩
 obtain⟨z,ez,hz⟩:=hz;have key:=λ(t:Int)(ht:Bd m t)=>rJ ba bb h0 (show Bd (m+2) (t+B-z)from((ht.add h1).sub hz).mono (by lia)) (h1.mono (by lia)) n
 have e2:∀t:Int,wH t B+(1-xs.getD i 0)=wH (t+B-z) B:=λt=>by
  rw[ez]
  symm
  refine gC (by lia) ?_;have q1:=cV t (show B≠0 by lia);have q2:=cV z (show B≠0 by lia);have q3:((t+B-z:Int):Rat)=(t:Rat)+(B:Rat)-(z:Rat):=by push_cast;rfl
  rw[q3,<- q1,<- q2]
  grind
 obtain⟨p1,p2,_⟩:=key 0 ⟨by simp;exact Wl m⟩;refine⟨_,p1,p2,λx hx=>?_⟩;rcases wL.mp hx with rfl | hx
 ·obtain⟨t,et,ht⟩:=h2 h (wG ..)
  have hd:(0:Int)<((a.den:Int)*(b.den:Int))^n:=XB (We (den_pos a) (den_pos b));refine⟨(t+B-z)*((a.den:Int)*(b.den:Int))^n,?_,AL ba bb (((ht.add h1).sub hz).mono (by lia)) n⟩;rw[et,e2 t];exact oQ h0 hd
 ·have hx':x=0 \/ ∃y∈xs,x=push a b n (y+(1-xs.getD i 0)):=by
   unfold dX at hx;rcases QR hx with q | q
   ·obtain⟨y,hy,rfl⟩:=wO.mp q
    exact .inr ⟨y,hy,rfl⟩
   ·exact .inl q
  rcases hx' with rfl | ⟨y,hy,rfl⟩
  ·exact⟨0,by simp,⟨by simp;exact Wl _⟩⟩
  ·obtain⟨t,rfl,ht⟩:=h2 y (wF _ hy)
   obtain⟨_,_,T,e,hT⟩:=key t ht;rw[e2 t];exact⟨T,e,hT⟩
theorem Cm.JN{m:Nat}{xs:List Rat}{a b:Rat}{ns:List Int}(c:Cm m xs)(ba:ah 10 a)(bb:ah 10 b):∀k,k<=ns.length->Cm (m+2*k+21*upTo ns k) (fI a b ns xs k::aW a b ns xs k)
 | 0,_=>(c.mono (by lia)).jN λy hy=>by
  rcases wL.mp hy with rfl | hy
  ·exact .inr rfl
  ·exact .inl hy
 | k+1,hk=>by
  have:=(Cm.JN c ba bb (ns:=ns) k (by lia)).Yv ba bb (ns.getD k 0).toNat k;rw[aW,fI];refine this.mono ?_;rw[rG (by lia)]
  lia
def fG(c:Rat)(xs ys:List Rat):List Rat:=List.zipWith (λx y=>x+c*(y-x)) xs ys
theorem nM{c:Rat}{xs ys:List Rat}(h:xs.length=ys.length):(fG c xs ys).length=xs.length:=by unfold fG;rw[xN];lia
theorem mn{c:Rat}{xs ys:List Rat}(h:xs.length=ys.length){i:Nat}(hi:i<xs.length):(fG c xs ys).getD i 0=xs.getD i 0+c*(ys.getD i 0-xs.getD i 0):=by
 unfold fG;rw[wa,wc (by rw[xN];lia),List.getElem_zipWith,wa,wc hi,wa,wc (by lia)]
 rfl
theorem kN{xs ys:List Rat}(hl:xs.length=ys.length)(h:∀i,i<xs.length->xs.getD i 0=ys.getD i 0):xs=ys:=Wg hl λi h1 h2=>by
 have:=h i h1;rw[wa,wa,wc h1,wc h2]at this;exact this
theorem zzB(a b:Rat)(n:Nat)(c:Rat){xs ys:List Rat}(h:xs.length=ys.length){i:Nat}(hi:i<xs.length):dX a b n (fG c xs ys) i=fG c (dX a b n xs i) (dX a b n ys i):=by
 have hl:=nM (c:=c) h;refine kN (by rw[iL,hl,nM (by rw[iL,iL];exact h),iL]) λj hj=>?_
 rw[iL,hl]at hj;have hg:=mn (c:=c) (xs:=dX a b n xs i) (ys:=dX a b n ys i) (by rw[iL,iL];exact h) (i:=j) (by rw[iL];exact hj);rw[hg,ic _ _ _ _ _ _ (by lia),ic _ _ _ _ _ _ hj,ic _ _ _ _ _ _ (show j<ys.length by lia)]
 by_cases z:j=i
 ·rw[if_pos z,if_pos z,if_pos z];grind
 ·rw[if_neg z,if_neg z,if_neg z,mn h hj,mn h hi,jf,jf,jf]
  grind
theorem Mm(a b:Rat)(ns:List Int)(c:Rat){xs ys:List Rat}(h:xs.length=ys.length):∀k,k<=xs.length->aW a b ns (fG c xs ys) k=fG c (aW a b ns xs k) (aW a b ns ys k)
 | 0,_=>rfl
 | k+1,hk=>by
  have ih:=Mm a b ns c h k (by lia);rw[aW,ih,aW,aW];exact zzB a b _ c (by rw[di,di];exact h) (by rw[di];lia)
theorem SR(a b:Rat)(ns:List Int)(c:Rat){xs ys:List Rat}(h:xs.length=ys.length):∀k,k<=xs.length->fI a b ns (fG c xs ys) k=fI a b ns xs k+c*(fI a b ns ys k-fI a b ns xs k)
 | 0,_=>by show(0:Rat)=0+c*(0-0);grind
 | k+1,hk=>by
  rw[fI,fI,fI,SR a b ns c h k (by lia),Mm a b ns c h k (by lia),mn (by rw[di,di];exact h) (by rw[di];lia)]
  grind
theorem zyj(c:Rat){xs ys:List Rat}(h:xs.length=ys.length):fG c (xs++[0]) (ys++[0])=fG c xs ys++[0]:=by
 unfold fG;rw[List.zipWith_append h]
 show _++[0+c*(0-0)]=_
 congr 2
 grind
def fq(a b:Rat)(ns:List Int)(xs:List Rat):Rat:=fI a b ns (xs++[0]) ns.length
theorem zy9{a b:Rat}{ns:List Int}(c:Rat){xs ys:List Rat}(hn:ns.length=xs.length+1)(h:xs.length=ys.length):fq a b ns (fG c xs ys)=fq a b ns xs+c*(fq a b ns ys-fq a b ns xs):=by
 unfold fq;rw[<- zyj c h];exact SR a b ns c (by simp[h]) _ (by simp;lia)
def sumTo(f:Nat->Rat):Nat->Rat
 | 0=>0
 | n+1=>sumTo f n+f n
theorem yU{f g:Nat->Rat} : ∀n,(∀k,k<n->f k=g k)->sumTo f n=sumTo g n
 | 0,_=>rfl
 | n+1,h=>by rw[sumTo,sumTo,yU n λk hk=>h k (by lia),h n (by lia)]
theorem CP(c:Rat)(f:Nat->Rat):∀n,sumTo (λk=>c*f k) n=c*sumTo f n
 | 0=>by show(0:Rat)=c*0;grind
 | n+1=>by rw[sumTo,sumTo,CP c f n];grind
theorem LQ(f g:Nat->Rat):∀n,sumTo (λk=>f k+g k) n=sumTo f n+sumTo g n
 | 0=>by show(0:Rat)=0+0;grind
 | n+1=>by rw[sumTo,sumTo,sumTo,LQ f g n];grind
theorem Rz(F:Rat):∀n,sumTo (λk=>F^k) n=aG F 1 n
 | 0=>rfl
 | n+1=>by
  rw[sumTo,Rz F n]
  have:∀m,aG F 1 m*F+1=aG F 1 m+F^m:=λm=>by
   induction m with
   | zero=>rw[qB];show(0:Rat)*F+1=0+1;grind
   | succ m ih =>
    show(F*aG F 1 m+1)*F+1=(F*aG F 1 m+1)+F^(m+1)
    rw[W4]
    grind
  have:=this n
  show aG F 1 n+F^n=F*aG F 1 n+1
  grind
theorem N9{a b:Rat}{ns:List Int}{L:Nat}(hn:ns.length=L+1)(X:Nat->List Rat)(hX:∀k,(X k).length=L):∀(n:Nat)(M:List Rat),1<=n->M.length=L->(∀i,i<L->M.getD i 0*((n:Int):Rat)=sumTo (λk=>(X k).getD i 0) n)->((n:Int):Rat)*fq a b ns M=sumTo (λk=>fq a b ns (X k)) n
 | 0,M,h,_,_=>by lia
 | n+1,M,_,hM,hs=>by
  have en:(((n+1:Nat):Int):Rat)=((n:Int):Rat)+1:=by push_cast;rfl
  by_cases z:n=0
  ·subst z
   have e1:(((0+1:Nat):Int):Rat)=1:=by decide
   have:M=X 0:=kN (by rw[hM,hX]) λi hi=>by
    have:=hs i (by lia);rw[e1]at this;have e2:sumTo (λk=>(X k).getD i 0) (0+1)=(X 0).getD i 0:=by rw[sumTo,sumTo];grind
    rw[e2]at this
    grind
   rw[this,e1]
   show 1*fq a b ns (X 0)=0+fq a b ns (X 0)
   grind
  ·have hn0:((n:Int):Rat)≠0:=λe=>z (by have:=Vb.mp e;lia)
   have hn1:((n:Int):Rat)+1≠0:=λe=>by
    rw[<- en]at e;have:=Vb.mp e
    lia
   -- the means of the first ones
   let M':List Rat:=(wx L).map λi=>sumTo (λk=>(X k).getD i 0) n / ((n:Int):Rat)
   have hl':M'.length=L:=by simp[M']
   have g':∀i,i<L->M'.getD i 0=sumTo (λk=>(X k).getD i 0) n / ((n:Int):Rat):=λi hi=>by
    show((wx L).map λi=>sumTo (λk=>(X k).getD i 0) n / ((n:Int):Rat)).getD i 0=_
    rw[wa,wu,vV hi];rfl
   have ih:=N9 (a:=a) (b:=b) hn X hX n M' (by lia) hl' λi hi=>by rw[g' i hi];exact WZ hn0
   have eM:M=fG (1 / (((n:Int):Rat)+1)) M' (X n):=kN (by rw[hM,nM (by rw[hl',hX]),hl']) λi hi=>by
    rw[mn (by rw[hl',hX]) (by lia),g' i (by lia)];have h1:=hs i (by lia);rw[en,sumTo]at h1;generalize sumTo (λk=>(X k).getD i 0) n=S at *;generalize (X n).getD i 0=y at *;generalize M.getD i 0=m at *;generalize ((n:Int):Rat)=N at *;have k1:S / N*N=S:=WZ hn0;have k2:1 / (N+1)*(N+1)=1:=WZ hn1;generalize S / N=q at *;generalize 1 / (N+1)=r at *;have:(m-(q+r*(y-q)))*(N+1)=0:=by grind
    rcases X6.mp this with h | h
    ·grind
    ·exact absurd h hn1
   rw[eM,zy9 _ (by lia) (by rw[hl',hX]),sumTo,<- ih,en];generalize fq a b ns M'=A;generalize fq a b ns (X n)=B;generalize ((n:Int):Rat)=N at *;have k2:1 / (N+1)*(N+1)=1:=WZ hn1;generalize 1 / (N+1)=r at *
   grind
end GM
namespace L2
open PySem PySem.Spec PyProof.Rows GM
section
variable{K:wb}{H H' H2:Hp}{a p:we}{xs ys:List V}{o:HO}
theorem ag.upd(h:H p=none):ag H (upd H p o):=λb u e=>by
 rw[eJ (kf e h)];exact e
theorem ag.ji(s:ag H H')(h:aV K H a xs):aV K H' a xs:=by
 rcases h with(h | ⟨o,h⟩) | h
 ·exact .inl (.inl (s _ _ h))
 ·exact .inl (.inr ⟨o,s _ _ h⟩)
 ·exact .inr h
structure bE(H H':Hp):Prop where
 t:∀b xs,H b=some (.tup xs)->H' b=some (.tup xs)
 f:∀b o u,H b=some (.gH o u)->H' b=some (.gH o u)
theorem ag.keep(s:ag H H'):bE H H':=⟨λb xs h=>s _ _ h,λb o u h=>s _ _ h⟩
theorem bE.refl(H:Hp):bE H H:=(ag.refl H).keep
theorem bE.trans(a:bE H H')(b:bE H' H2):bE H H2:=⟨λc xs h=>b.t _ _ (a.t _ _ h),λc o u h=>b.f _ _ _ (a.f _ _ _ h)⟩
theorem bE.ji(k:bE H H')(h:aV K H a xs):aV K H' a xs:=by
 rcases h with(h | ⟨o,h⟩) | h
 ·exact .inl (.inl (k.t _ _ h))
 ·exact .inl (.inr ⟨o,k.f _ _ _ h⟩)
 ·exact .inr h
def kh(K:wb)(H:Hp)(a:we)(xs:List V):Prop :=
 (∃o,H a=some (.gH o (.lst xs))) \/
  ∃(o:Obj)(its:Array wg)(n:Nat),K.lookup a=some o/\o.cls=.type "list"/\o.dict=none/\o.data=.seq its n/\its.size<=ve/\aT xs its.toList
theorem kh.sq(h:kh K H a xs):aO K H a xs:=by
 rcases h with⟨o,h⟩ | h
 ·exact .inl (.inr ⟨o,h⟩)
 ·exact .inr h
theorem bE.OT(k:bE H H')(h:kh K H a xs):kh K H' a xs:=by
 rcases h with⟨o,h⟩ | h
 ·exact .inl ⟨o,k.f _ _ _ h⟩
 ·exact .inr h
def Exc(p:we)(H H':Hp):Prop:=∀b o,b≠p->H b=some o->H' b=some o
theorem Exc.keep(e:Exc p H H')(h:H p=some (.lst xs)):bE H H' :=
 ⟨λb ys hb=>e b _ (Rf hb h (by intro z;cases z)) hb,λb o u hb=>e b _ (Rf hb h (by intro z;cases z)) hb⟩
theorem ag.exc(s:ag H H'):Exc p H H':=λb o _ h=>s b o h
theorem Exc.refl(p:we)(H:Hp):Exc p H H:=λ_ _ _ h=>h
theorem Exc.trans(a:Exc p H H')(b:Exc p H' H2):Exc p H H2:=λc o n h=>b c o n (a c o n h)
theorem Exc.upd(p:we)(H:Hp)(o:HO):Exc p H (upd H p o):=λb u n h=>by
 rw[eJ n];exact h
theorem Exc.at(e:Exc p H H'){q:we}{u:HO}(n:q≠p)(h:H q=some u):H' q=some u:=e q u n h
end
mutual
def Is(K:wb)(H:Hp):V->wB->Prop
 | v,.none=>v=.bX
 | v,.bool b=>v=.bl b
 | v,.int i=>v=.int i
 | v,.str x=>v=.str x
 | v,.tuple ds=>∃a xs,v=.ref a/\aV K H a xs/\av K H xs ds
 | v,.list ds=>∃a xs,v=.ref a/\aO K H a xs/\av K H xs ds
 | v,.dict _=>∃a kvs,v=.ref a/\H a=some (.dK kvs)
def av(K:wb)(H:Hp):List V->List wB->Prop
 | xs,[]=>xs=[]
 | xs,d::ds=>∃x r,xs=x::r/\Is K H x d/\av K H r ds
end
section
variable{K:wb}{H H':Hp}{v:V}{xs:List V}{ds:List wB}{d:wB}
theorem cz{i:Int} : Is K H v (.int i) ↔ v=.int i:=by rw[Is]
theorem kc{b:Bool} : Is K H v (.bool b) ↔ v=.bl b:=by rw[Is]
theorem eI{x:Str} : Is K H v (.str x) ↔ v=.str x:=by rw[Is]
theorem ml:Is K H v .none ↔ v=.bX:=by rw[Is]
theorem b7:Is K H v (.tuple ds) ↔ ∃a xs,v=.ref a/\aV K H a xs/\av K H xs ds:=by rw[Is]
theorem cj:Is K H v (.list ds) ↔ ∃a xs,v=.ref a/\aO K H a xs/\av K H xs ds:=by rw[Is]
theorem tP{kv:List (wB × wB)} : Is K H v (.dict kv) ↔ ∃a kvs,v=.ref a/\H a=some (.dK kvs):=by rw[Is]
theorem fK:av K H xs [] ↔ xs=[]:=by rw[av]
theorem c8:av K H xs (d::ds) ↔ ∃x r,xs=x::r/\Is K H x d/\av K H r ds:=by rw[av]
theorem av.cons(h:Is K H v d)(t:av K H xs ds):av K H (v::xs) (d::ds):=c8.mpr ⟨v,xs,rfl,h,t⟩
theorem av.nil:av K H [] []:=fK.mpr rfl
theorem av.length:∀{ds:List wB}{xs:List V},av K H xs ds->xs.length=ds.length
 | [],_,h=>by rw[fK.mp h];rfl
 | d::ds,_,h=>by
  obtain⟨x,r,rfl,_,t⟩:=c8.mp h;rw[vP,vP,av.length t]
theorem av.get:∀{ds:List wB}{xs:List V}{i:Nat}{d:wB},av K H xs ds->ds[i]? = some d->∃x,xs[i]? = some x/\Is K H x d
 | [],_,_,_,_,e=>by simp at e
 | d::ds,_,0,_,h,e=>by
  obtain⟨x,r,rfl,q,_⟩:=c8.mp h;simp at e;subst e;exact⟨x,rfl,q⟩
 | d::ds,_,i+1,d',h,e=>by
  obtain⟨x,r,rfl,_,t⟩:=c8.mp h;obtain⟨y,h1,h2⟩:=av.get (i:=i) t (by simpa using e);exact⟨y,by simpa using h1,h2⟩
theorem av.append:∀{ds es:List wB}{xs ys:List V},av K H xs ds->av K H ys es->av K H (xs++ys) (ds++es)
 | [],_,_,_,h,t=>by rw[fK.mp h];exact t
 | d::ds,_,_,_,h,t=>by
  obtain⟨x,r,rfl,q,u⟩:=c8.mp h;exact .cons q (av.append u t)
mutual
theorem Is.same(s:ag H H'):∀(d:wB)(v:V),Is K H v d->Is K H' v d
 | .none,v,h=>by rw[ml]at h ⊢;exact h
 | .bool _,v,h=>by rw[kc]at h ⊢;exact h
 | .int _,v,h=>by rw[cz]at h ⊢;exact h
 | .str _,v,h=>by rw[eI]at h ⊢;exact h
 | .tuple ds,v,h=>by
  obtain⟨a,xs,e,q,t⟩:=b7.mp h;exact b7.mpr ⟨a,xs,e,s.ji q,av.same s ds xs t⟩
 | .list ds,v,h=>by
  obtain⟨a,xs,e,q,t⟩:=cj.mp h;exact cj.mpr ⟨a,xs,e,s.seq q,av.same s ds xs t⟩
 | .dict _,v,h=>by
  obtain⟨a,kvs,e,q⟩:=tP.mp h;exact tP.mpr ⟨a,kvs,e,s _ _ q⟩
theorem av.same(s:ag H H'):∀(ds:List wB)(xs:List V),av K H xs ds->av K H' xs ds
 | [],xs,h=>by rw[fK]at h ⊢;exact h
 | d::ds,xs,h=>by
  obtain⟨x,r,e,q,t⟩:=c8.mp h;exact c8.mpr ⟨x,r,e,Is.same s d x q,av.same s ds r t⟩
end
end
/- no list and no dict within -/
mutual
def cw:wB->Bool
 | .none=>true
 | .bool _=>true
 | .int _=>true
 | .str _=>true
 | .tuple ds=>bW ds
 | .list _=>false
 | .dict _=>false
def bW:List wB->Bool
 | []=>true
 | d::ds=>cw d&&bW ds
end
section
variable{K:wb}{H H':Hp}
mutual
theorem Is.keep(k:bE H H'):∀(d:wB)(v:V),cw d=true->Is K H v d->Is K H' v d
 | .none,v,_,h=>by rw[ml]at h ⊢;exact h
 | .bool _,v,_,h=>by rw[kc]at h ⊢;exact h
 | .int _,v,_,h=>by rw[cz]at h ⊢;exact h
 | .str _,v,_,h=>by rw[eI]at h ⊢;exact h
 | .tuple ds,v,i,h=>by
  obtain⟨a,xs,e,q,t⟩:=b7.mp h;exact b7.mpr ⟨a,xs,e,k.ji q,av.keep k ds xs (by rw[cw]at i;exact i) t⟩
 | .list ds,v,i,h=>by rw[cw]at i;cases i
 | .dict _,v,i,h=>by rw[cw]at i;cases i
theorem av.keep(k:bE H H'):∀(ds:List wB)(xs:List V),bW ds=true->av K H xs ds->av K H' xs ds
 | [],xs,_,h=>by rw[fK]at h ⊢;exact h
 | d::ds,xs,i,h=>by
  obtain⟨x,r,e,q,t⟩:=c8.mp h;rw[bW,wZ]at i;exact c8.mpr ⟨x,r,e,Is.keep k d x i.1 q,av.keep k ds r i.2 t⟩
end
end
def N(r:Rat):wB:=.tuple [.int r.num,.int (r.den:Int)]
theorem kC(r:Rat):cw (N r)=true:=by simp[N,cw,bW]
section
variable{K:wb}{H H':Hp}{v:V}{r:Rat}
theorem oW:Is K H v (N r) ↔ ∃a,v=.ref a/\aV K H a [.int r.num,.int (r.den:Int)]:=by
 unfold N;rw[b7]
 constructor
 ·rintro ⟨a,xs,e,q,t⟩
  obtain⟨x,r1,rfl,q1,t⟩:=c8.mp t;obtain⟨y,r2,rfl,q2,t⟩:=c8.mp t;rw[fK.mp t,cz.mp q1,cz.mp q2]at q;exact⟨a,e,q⟩
 ·rintro ⟨a,e,q⟩
  exact⟨a,_,e,q,.cons (cz.mpr rfl) (.cons (cz.mpr rfl) .nil)⟩
end
section
variable{X:Cx}{pins:List (we × Obj)}{σ : St}{H:Hp}{s:wm}
mutual
theorem Inv.reads(I:Inv X pins σ H s):∀(d:wB)(v:V)(u:wg),d.canLay0=true->Is X.K H v d->bC v u->∃as,Reads s.heap u d as
 | .none,v,u,_,h,r=>by
  cases ml.mp h;cases (show u=Value.none from r);exact⟨_,.none⟩
 | .bool b,v,u,_,h,r=>by
  cases kc.mp h;cases (show u=Value.bool b from r);exact⟨_,.bool b⟩
 | .int i,v,u,_,h,r=>by
  cases cz.mp h;obtain⟨t,e⟩:=(show ∃t,u=Value.int i t from r);cases e;exact⟨_,.int i t⟩
 | .str x,v,u,_,h,r=>by
  cases eI.mp h;obtain⟨t,e⟩:=(show ∃t,u=Value.str x t from r);cases e;exact⟨_,.str x t⟩
 | .tuple ds,v,u,c,h,r=>by
  obtain⟨a,xs,e,q,t⟩:=b7.mp h;subst e;cases (show u=Value.ref a from r);obtain⟨its,rv,⟨o,e1,e2,n,e3⟩,_⟩:=I.tuple q;obtain⟨as,ra⟩:=Inv.readsAll I ds xs its (by rw[vM]at c;exact c) t rv;exact⟨_,.tuple e1 e2 e3 (by simpa using ra)⟩
 | .list ds,v,u,c,h,r=>by
  obtain⟨a,xs,e,q,t⟩:=cj.mp h;subst e;cases (show u=Value.ref a from r);obtain⟨its,rv,⟨o,n,e1,e2,_,e3⟩,_⟩:=I.list q;obtain⟨as,ra⟩:=Inv.readsAll I ds xs its (by rw[vM]at c;exact c) t rv;exact⟨_,.list e1 e2 e3 (by simpa using ra)⟩
 | .dict _,v,u,c,h,r=>by rw[vM]at c;cases c
theorem Inv.readsAll(I:Inv X pins σ H s):∀(ds:List wB)(xs:List V)(us:List wg),Wz ds=true->av X.K H xs ds->aT xs us->∃as,ReadsAll s.heap us ds as
 | [],xs,us,_,h,r=>by
  rw[fK.mp h]at r;cases r;exact⟨_,.nil⟩
 | d::ds,xs,us,c,h,r=>by
  obtain⟨x,l,e,q,t⟩:=c8.mp h;subst e;rw[Wz,wZ]at c;cases r with
  | cons r1 r2 =>
   obtain⟨as,h1⟩:=Inv.reads I d x _ c.1 q r1;obtain⟨bs,h2⟩:=Inv.readsAll I ds l _ c.2 t r2;exact⟨_,.cons h1 h2⟩
end
end
section
variable{X:Cx}
open PySem.SeqAt (shaped)
def cH(K:wb):R2:=λx y H Q=>∃d e,Is K H x d/\Is K H y e/\shaped d=true/\shaped e=true/\Q (.bl (wI d e)) H
def df(K:wb):R2:=λx y H Q=>∃d e,Is K H x d/\Is K H y e/\shaped d=true/\shaped e=true/\Q (.bl (!PyData.eqv d e)) H
theorem dj(hu:X.A.units+64<WM):aJ X (wN .Eq) (cH X.K):=by
 intro pins s σ H x y v u Q I rx ry h;obtain⟨d,e,hd,he,sd,se,q⟩:=h;obtain⟨as,h1⟩:=I.reads d x v (Vg sd) hd rx;obtain⟨bs,h2⟩:=I.reads e y u (Vg se) he ry;exact eq_dataH h1 h2 sd se hu ⟨.bl _,H,I,rfl,q⟩
theorem fh(hu:X.A.units+64<WM):aJ X (wN .NotEq) (df X.K):=by
 intro pins s σ H x y v u Q I rx ry h;obtain⟨d,e,hd,he,sd,se,q⟩:=h;obtain⟨as,h1⟩:=I.reads d x v (Vg sd) hd rx;obtain⟨bs,h2⟩:=I.reads e y u (Vg se) he ry;exact ne_dataH h1 h2 sd se hu ⟨.bl _,H,I,rfl,q⟩
theorem bC.Yb{x:V}{v:wg}(r:bC x v)(c:Bool):(v == Value.bool c)=decide (x=.bl c):=by
 cases x with
 | bX=>cases (show v=Value.none from r);rfl
 | bl b=>cases (show v=Value.bool b from r);cases b<;>cases c<;>rfl
 | int _=>obtain⟨t,rfl⟩:=r;rfl
 | str _=>obtain⟨t,rfl⟩:=r;rfl
 | byt _=>obtain⟨t,rfl⟩:=r;rfl
 | flt _=>obtain⟨t,rfl⟩:=r;rfl
 | ref _=>cases r;rfl
 | ty _=>cases r;rfl
theorem bC.U1{x:V}{v:wg}(r:bC x v)(c:Bool):plainIs v (Value.bool c)=true:=by
 cases x with
 | bX=>cases (show v=Value.none from r);rfl
 | bl b=>cases (show v=Value.bool b from r);rfl
 | int _=>obtain⟨t,rfl⟩:=r;rfl
 | str _=>obtain⟨t,rfl⟩:=r;rfl
 | byt _=>obtain⟨t,rfl⟩:=r;rfl
 | flt _=>obtain⟨t,rfl⟩:=r;rfl
 | ref _=>cases r;rfl
 | ty _=>cases r;rfl
def MM:R2:=λx y H Q=>(∃c,y=.bl c/\Q (.bl (decide (x=.bl c))) H)\/(y=.bX/\Q (.bl (decide (x=.bX))) H)
theorem J6:aJ X (wN .Is) MM:=by
 intro pins s σ H x y v u Q I rx ry h;rcases h with⟨c,e,q⟩ | h
 ·subst e
  cases (show u=Value.bool c from ry);exact wpAny_is_plain (rx.U1 c) (Nm I q (rx.Yb c).symm)
 ·exact zCz pins s σ H x y v u Q I rx ry h
def kindOf:wB->String
 | .none=>"NoneType"
 | .bool _=>"bool"
 | .int _=>"int"
 | .str _=>"str"
 | .tuple _=>"tuple"
 | .list _=>"list"
 | .dict _=>"dict"
def fc(K:wb):List V->Hp->VK->Prop:=λxs H Q=>∃x T d b,xs=[x,.ty T]/\Is K H x d/\wt K (.type (kindOf d)) (.type T)=some b/\Q (.bl b) H
theorem ju:aN X (.builtin "isinstance") (fc X.K):=by
 intro pins s σ H xs us Q I r h;obtain⟨x,T,d,b,rfl,hd,e,q⟩:=h;obtain⟨u,w',rfl,rx,rt⟩:=jV r;cases (show w'=Value.type T from rt);have fin:∀tk,EP X pins σ Q (.bool b) {s with toks:=tk}:=λtk=>⟨.bl b,H,I.tok _,rfl,q⟩
 cases d with
 | none =>
  cases ml.mp hd;cases (show u=Value.none from rx);exact WQ Xo I.c9 True.intro e (λz=>nomatch z) fin
 | bool y =>
  cases kc.mp hd;cases (show u=Value.bool y from rx);exact WQ Xp I.c9 True.intro e (λz=>nomatch z) fin
 | int i =>
  cases cz.mp hd;obtain⟨t,q⟩:=(show ∃t,u=Value.int i t from rx);cases q;exact WQ XN I.c9 True.intro e (λz=>nomatch z) fin
 | str y =>
  cases eI.mp hd;obtain⟨t,q⟩:=(show ∃t,u=Value.str y t from rx);cases q;exact WQ XO I.c9 True.intro e (λz=>nomatch z) fin
 | tuple ds =>
  obtain⟨a,xs,e1,hq,_⟩:=b7.mp hd;subst e1;cases (show u=Value.ref a from rx);obtain⟨its,_,⟨o,h1,h2,_⟩,_⟩:=I.tuple hq;exact WQ Xb I.c9 ⟨o,h1,h2⟩ e (λz=>nomatch z) fin
 | list ds =>
  obtain⟨a,xs,e1,hq,_⟩:=cj.mp hd;subst e1;cases (show u=Value.ref a from rx);obtain⟨its,_,⟨o,n,h1,h2,_⟩,_⟩:=I.list hq;exact WQ Xq I.c9 ⟨o,h1,h2⟩ e (λz=>nomatch z) fin
 | dict kv =>
  obtain⟨a,kvs,e1,hq⟩:=tP.mp hd;subst e1;cases (show u=Value.ref a from rx);obtain⟨_,_,vs,_,o,es,ep,h1,h2,_⟩:=(show dD X.prog X.w H s.heap a (.dK kvs)from I.aH a _ hq);exact WQ Xr I.c9 ⟨o,h1,h2.1⟩ e (λz=>nomatch z) fin
def isA(T:String)(d:wB):Bool:=(kindOf d == T) || (kindOf d == "bool"&&T == "int")
theorem zBp{K:wb}(d:wB):wt K (.type (kindOf d)) (.type "int")=some (isA "int" d):=by cases d<;>rfl
theorem Y4{K:wb}(d:wB):wt K (.type (kindOf d)) (.type "bool")=some (isA "bool" d):=by cases d<;>rfl
theorem YM{K:wb}(d:wB):wt K (.type (kindOf d)) (.type "tuple")=some (isA "tuple" d):=by cases d<;>rfl
theorem zyZ{K:wb}(d:wB):wt K (.type (kindOf d)) (.type "list")=some (isA "list" d):=by cases d<;>rfl
theorem zzY{K:wb}(d:wB):wt K (.type (kindOf d)) (.type "str")=some (isA "str" d):=by cases d<;>rfl
theorem Yu{m n:Nat}{i j:Int}(h:Bd m i)(k:Bd n j)(hm:m<=1000000)(hn:n<=1000000):IntMulOk i j:=by
 have f:∀{m:Nat}{i:Int},Bd m i->m<=1000000->xO i<=2^20:=by
  intro m i h hm;have e:(2:Nat)^20=1048576:=by decide
  have l:=(h.mono (xb m)).log (Nat.succ_pos m);unfold xO
  split<;>lia
 exact .of_bits (f h hm) (f k hn)
theorem d6:aJ X (WO .Mult) (rI IntMulOk λi j=>.int (i*j)):=yH λ_ _ _ _ _ _ _ hc q=>mul_int q hc
def kS(_ j:Int):Prop:=j≠0/\Bd 8999 j
theorem gj:aJ X (WO .FloorDiv) (rI kS λi j=>.int (i.fdiv j)):=yH λ_ _ _ _ _ _ _ hc q =>
 floordiv_int hc.1 q (.inl (PyProof.noPylong_of_log2 (VC (hc.2.log (by decide)))))
theorem zAO:aJ X (WO .Add) (λx y H Q=>(jb λi j=>.int (i+j)) x y H Q\/(Ck x y H Q \/ ∃i j,x=.str i/\y=.str j/\i.length+j.length<=ve/\Q (.str (i++j)) H)):=Y2.or (zCh.or ztG)
end
theorem dA:vI "len"=some (.builtin "len"):=by decide +kernel
theorem nW:vI "abs"=some (.builtin "abs"):=by decide +kernel
theorem eC:vI "isinstance"=some (.builtin "isinstance"):=by decide +kernel
theorem DD:vI "int"=some (.type "int"):=by decide +kernel
theorem zzS:vI "bool"=some (.type "bool"):=by decide +kernel
theorem zB7:vI "str"=some (.type "str"):=by decide +kernel
theorem dk:vI "tuple"=some (.type "tuple"):=by decide +kernel
theorem j5:vI "list"=some (.type "list"):=by decide +kernel
def mz(K:wb)(xs:List V)(H:Hp)(Q:VK):Prop:=xs.length<=ve /\ ∀p,H p=none->Q (.ref p) (upd H p (.tup xs))
def tL(K:wb)(xs:List V)(H:Hp)(Q:VK):Prop:=xs.length<=ve /\ ∀p,H p=none->Q (.ref p) (upd H p (.lst xs))
def AI(K:wb)(t:TA):TE:=λσ H Q=>t σ H λxs H1=>mz K xs H1 Q
def BY(K:wb)(t:TA):TE:=λσ H Q=>t σ H λxs H1=>tL K xs H1 Q
def DQ:R2:=λx y H Q=>(jb λi j=>.int (i+j)) x y H Q\/(Ck x y H Q \/ ∃i j,x=.str i/\y=.str j/\i.length+j.length<=ve/\Q (.str (i++j)) H)
def Nq:List V->Hp->VK->Prop:=λxs H Q=>∃i:Int,xs=[.int i]/\Q (.int (if i<0 then -i else i)) H
def cF(K:wb):List V->Hp->VK->Prop:=λxs H Q=>∃p ys,xs=[.ref p]/\(aO K H p ys\/aV K H p ys)/\Q (.int ys.length) H
def MB:List V->Hp->VK->Prop:=λxs H Q=>(∃i,xs=[.int i]/\Q (.int i) H) \/ ∃k,xs=[.bl k]/\Q (.int (if k then 1 else 0)) H
section
variable{X:Cx}{e:Expr}{es:List Expr}{te:TE}{t:TA}{pos:Pos}
theorem bL{x1}(h:PA X es t):PE X (.Tuple es x1 pos) (AI X.K t):=Z1 h
theorem dG(h:PA X es t):PE X (.List es pos) (BY X.K t):=zCj h
theorem cK:aJ X (WO .Add) DQ:=zAO
theorem mO:aN X (.builtin "abs") Nq:=zzd
theorem dy:aN X (.builtin "len") (cF X.K):=zqX
theorem Mh:aN X (.type "int") MB:=zwC
theorem lF{x:Str}{i:Int}{pos:Pos}(hg:Gl X x)(hm:∃t,X.mg x=some (.int i t))(hd:(x == ("__debug__" : Str))=false:=by decide):PE X (.Name x pos) (tC (.int i)):=by
 obtain⟨t,hm⟩:=hm;exact bS hg hm ⟨t,rfl⟩ hd
end
section
variable{K:wb}{σ : St}{H H':Hp}{Q:VK}{QA:List V->Hp->Prop}{QB:Bool->Hp->Prop}{QS:St->Hp->Prop}{QH:Hp->Prop}{D:cB}{ta tb te:TE}{tt tu:TT}{t tr:TA}{s1 s2:TS}{g:TG}{gs:iN}{r:R2}{v w:V}{xs ys:List V}{i:Nat}{m n:Int}
theorem CK(h : σ[i]? = some (some v))(q:Q v H):lS i σ H Q:=⟨v,h,q⟩
theorem zED(q:Q v H):tC v σ H Q:=q
theorem zEn(h:ta σ H λx H1=>tb σ H1 λy H2=>r x y H2 Q):md r ta tb σ H Q:=h
theorem zEl{u:V->Hp->VK->Prop}(h:ta σ H λx H1=>u x H1 Q):ND u ta σ H Q:=h
theorem zCo(h:t σ H λxs H1=>mz K xs H1 Q):AI K t σ H Q:=h
theorem zC6(h:t σ H λxs H1=>tL K xs H1 Q):BY K t σ H Q:=h
theorem zB6(q:QA [] H):pQ σ H QA:=q
theorem zAX(h:te σ H λx H1=>tr σ H1 λxs H2=>QA (x::xs) H2):pI te tr σ H QA:=h
theorem zzT{sp:Sp}{E:XK}(h:t σ H λvs H1=>sp vs H1 Q E):l8 sp [] E t σ H Q:=by
 simpa only[l8,Wc] using h
theorem zD4{u:List V->Hp->VK->Prop}(h:t σ H λvs H1=>u vs H1 Q):Ei u t σ H Q:=h
theorem ZV(h:te σ H λx H'=>∃k,x=.bl k/\QB k H'):DN te σ H QB:=h
theorem Nr(h:te σ H λx H'=>∃k,x=.bl k/\QB k H'):tB te σ H QB:=h
theorem Uj{R:Bool->Prop}{k:Bool}(q:R k):∃k',V.bl k=V.bl k'/\R k':=⟨k,rfl,q⟩
theorem zCK(h:tt σ H λc H1=>if c=true then tu σ H1 QB else QB false H1):PL tt tu σ H QB:=h
theorem Zr(h:tt σ H λc H1=>if c=true then QB true H1 else tu σ H1 QB):OF tt tu σ H QB:=h
theorem zDg(h:tt σ H λc H1=>QB (!c) H1):R7 tt σ H QB:=h
theorem zAF(h:ta σ H λx H1=>∃c,x=.bl c/\if c=true then tb σ H1 Q else Q (.bl false) H1):N2 ta tb σ H Q:=h
theorem zA8(h:ta σ H λx H1=>∃c,x=.bl c/\Q (.bl (!c)) H1):SV ta σ H Q:=h
theorem zCT(h:tt σ H λc H1=>if c=true then ta σ H1 Q else tb σ H1 Q):LP tt ta tb σ H Q:=h
-- statements
theorem YK(h:s1 {D with nx:=s2 D} σ H):BF s1 s2 D σ H:=h
theorem zzH(h:D.nx σ H):Ra D σ H:=h
theorem zC2(h:te σ H D.rt):SO te D σ H:=h
theorem zCb(h:tt σ H λb H1=>if b=true then s1 D σ H1 else s2 D σ H1):PV tt s1 s2 D σ H:=h
theorem ZN(h:te σ H λx H1=>g x σ H1 D.nx):kK te g D σ H:=h
theorem zBb(h:te σ H λ_ H1=>D.nx σ H1):SA te D σ H:=h
theorem zDh{i j:Nat}(h:t σ H λvs H1=>∃v w,vs=[v,w]/\D.nx ((σ.set i (some v)).set j (some w)) H1):PZ i j t D σ H:=h
theorem zAh{i j:Nat}(q:QS ((σ.set i (some v)).set j (some w)) H):∃v' w',[v,w]=[v',w']/\QS ((σ.set i (some v')).set j (some w')) H:=⟨v,w,rfl,q⟩
-- targets
theorem Et(q:QS (σ.set i (some v)) H):gD i v σ H QS:=q
theorem LY(q:QS σ H):CN [] σ H QS:=⟨rfl,q⟩
theorem B3(q:g v σ H λσ' H'=>gs xs σ' H' QS):yD g gs (v::xs) σ H QS:=⟨v,xs,rfl,q⟩
theorem kD{a:we}{n:Nat}(h:aV K H a xs)(e:xs.length=n)(q:gs xs σ H QS):iY K n gs (.ref a) σ H QS:=⟨a,xs,rfl,h,e,q⟩
theorem zAR{tset:zq}(h:ta σ H λo H1=>tb σ H1 λi H2=>tset o i v H2 λH3=>QS σ H3):RN ta tb tset v σ H QS:=h
theorem pS{p:we}{k:Int}{j:Nat}(h:H p=some (.lst xs))(e:gg xs.length k=some j)(q:∀H',Exc p H H'->H' p=some (.lst (xs.set j v))->QH H'):P_ (.ref p) (.int k) v H QH :=
 ⟨p,xs,k,j,rfl,rfl,h,e,q _ (Exc.upd p H _) cJ⟩
-- ints
theorem zCC{f:Int->Int->V}(q:Q (f m n) H):jb f (.int m) (.int n) H Q:=⟨m,n,rfl,rfl,q⟩
theorem AZ{C:Int->Int->Prop}{f:Int->Int->V}(c:C m n)(q:Q (f m n) H):rI C f (.int m) (.int n) H Q:=⟨m,n,rfl,rfl,c,q⟩
theorem zDv{f:Int->V}(q:Q (f m) H):rU f (.int m) H Q:=⟨m,rfl,q⟩
theorem zBd(q:Q (.int (m+n)) H):DQ (.int m) (.int n) H Q:=.inl ⟨m,n,rfl,rfl,q⟩
theorem zP{p b:we}(h:H p=some (.lst xs))(k:H b=some (.lst ys))(z:xs.length+ys.length<=ve)
  (q:∀c H',H c=none->ag H H'->H' c=some (.lst (xs++ys))->Q (.ref c) H'):DQ (.ref p) (.ref b) H Q :=
 .inr (.inl ⟨p,b,xs,ys,rfl,rfl,h,k,z,λc hc=>q c _ hc (ag.upd hc) cJ⟩)
theorem zCF(q:Q (.int (if m<0 then -m else m)) H):Nq [.int m] H Q:=⟨m,rfl,q⟩
theorem N6{p:we}(h:aV K H p xs)(q:Q (.int xs.length) H):cF K [.ref p] H Q:=⟨p,xs,rfl,.inr h,q⟩
theorem iB{p:we}(h:aO K H p xs)(q:Q (.int xs.length) H):cF K [.ref p] H Q:=⟨p,xs,rfl,.inl h,q⟩
theorem zAm{b:Bool}(q:Q (.int (if b then 1 else 0)) H):MB [.bl b] H Q:=.inr ⟨b,rfl,q⟩
-- comparisons
theorem ZG(q:Q (.bl (decide (v=.bX))) H):MM v .bX H Q:=.inr ⟨rfl,q⟩
theorem zCy(q:Q (.bl (decide (m=n))) H):cH K (.int m) (.int n) H Q :=
 ⟨.int m,.int n,cz.mpr rfl,cz.mpr rfl,rfl,rfl,by
  have e:wI (.int m) (.int n)=decide (m=n):=by
   rw[wI,V9]
  rw[e];exact q⟩
theorem zCw(q:Q (.bl (!decide (m=n))) H):df K (.int m) (.int n) H Q :=
 ⟨.int m,.int n,cz.mpr rfl,cz.mpr rfl,rfl,rfl,by
  have e:wI (.int m) (.int n)=decide (m=n):=by
   rw[wI,V9]
  rw[e];exact q⟩
theorem mU{d e:wB}(h:Is K H v d)(k:Is K H w e)(sd:vN d=true)(se:vN e=true)(q:Q (.bl (wI d e)) H):cH K v w H Q:=⟨d,e,h,k,sd,se,q⟩
theorem n_{d e:wB}(h:Is K H v d)(k:Is K H w e)(sd:vN d=true)(se:vN e=true)(q:Q (.bl (!PyData.eqv d e)) H):df K v w H Q:=⟨d,e,h,k,sd,se,q⟩
theorem rP{T:String}{d:wB}(h:Is K H v d)(e:wt K (.type (kindOf d)) (.type T)=some (isA T d))(q:Q (.bl (isA T d)) H):fc K [v,.ty T] H Q:=⟨v,T,d,_,rfl,h,e,q⟩
def jc:wB->Bool
 | .tuple _=>true
 | _=>false
def Es:wB->Bool
 | .int _=>true
 | .bool _=>true
 | _=>false
def BN:wB->Bool
 | .bool _=>true
 | _=>false
def gZ:wB->Bool
 | .list _=>true
 | _=>false
def Fw:wB->Bool
 | .str _=>true
 | _=>false
theorem M8{d:wB} : jc d=true ↔ ∃ds,d=.tuple ds:=by cases d<;>simp[jc]
theorem N3{d:wB}(h:Is K H v d)(q:Q (.bl (jc d)) H):fc K [v,.ty "tuple"] H Q:=rP h (YM d) (by have e:isA "tuple" d=jc d:=(by cases d<;>rfl);rw[e];exact q)
theorem zyH{d:wB}(h:Is K H v d)(q:Q (.bl (Es d)) H):fc K [v,.ty "int"] H Q:=rP h (zBp d) (by have e:isA "int" d=Es d:=(by cases d<;>rfl);rw[e];exact q)
theorem zzz{d:wB}(h:Is K H v d)(q:Q (.bl (BN d)) H):fc K [v,.ty "bool"] H Q:=rP h (Y4 d) (by have e:isA "bool" d=BN d:=(by cases d<;>rfl);rw[e];exact q)
theorem u9{d:wB}(h:Is K H v d)(q:Q (.bl (gZ d)) H):fc K [v,.ty "list"] H Q:=rP h (zyZ d) (by have e:isA "list" d=gZ d:=(by cases d<;>rfl);rw[e];exact q)
theorem zxv{d:wB}(h:Is K H v d)(q:Q (.bl (Fw d)) H):fc K [v,.ty "str"] H Q:=rP h (zzY d) (by have e:isA "str" d=Fw d:=(by cases d<;>rfl);rw[e];exact q)
-- items
theorem zo{p:we}{m:Int}(h:aV K H p xs)(e:iH xs m=some v)(q:Q v H):c6 K (.ref p) (.int m) H Q:=.inr (.inl ⟨p,xs,m,v,rfl,rfl,h,e,q⟩)
theorem iF{p:we}{m:Int}(h:aO K H p xs)(e:iH xs m=some v)(q:Q v H):c6 K (.ref p) (.int m) H Q:=.inl ⟨p,xs,m,v,rfl,rfl,h,e,q⟩
theorem Zj{α : Type}{xs:List α}{m:Int}(h0:0<=m)(h1:m<xs.length):∃v,iH xs m=some v/\v∈xs:=by
 obtain⟨k,rfl⟩:∃k:Nat,m=(k:Int):=⟨m.toNat,by lia⟩;have l:k<xs.length:=by lia
 exact⟨xs[k],ke (by simp[l]),vt l⟩
theorem Po{p:we}{m:Int}(P:V->Prop)(h:aO K H p xs)(h0:0<=m)(h1:m<xs.length)(hP:∀x∈xs,P x)(q:∀x,P x->Q x H):c6 K (.ref p) (.int m) H Q:=by
 obtain⟨x,e,hx⟩:=Zj h0 h1;exact iF h e (q x (hP x hx))
theorem YV{r:Rat}(h:Is K H v (N r))(q:Q (.int r.num) H):c6 K v (.int 0) H Q:=by
 obtain⟨a,rfl,h'⟩:=oW.mp h;exact zo h' rfl q
theorem zzR{r:Rat}(h:Is K H v (N r))(q:Q (.int (r.den:Int)) H):c6 K v (.int 1) H Q:=by
 obtain⟨a,rfl,h'⟩:=oW.mp h;exact zo h' rfl q
theorem aC{ds:List wB}{d:wB}{j:Nat}(h:Is K H v (.tuple ds))(e:ds[j]? = some d)(q:∀x,Is K H x d->Q x H):c6 K v (.int (j:Int)) H Q:=by
 obtain⟨a,xs,rfl,h,t⟩:=b7.mp h;obtain⟨x,e1,hx⟩:=t.get e;exact zo h (ke e1) (q x hx)
theorem kQ{ds:List wB}(h:Is K H v (.tuple ds))(q:Q (.int ds.length) H):cF K [v] H Q:=by
 obtain⟨a,xs,rfl,h,t⟩:=b7.mp h;exact N6 h (by rw[t.length];exact q)
theorem DR{ds:List wB}{n:Nat}(h:Is K H v (.tuple ds))(e:ds.length=n)(q:∀xs,av K H xs ds->gs xs σ H QS):iY K n gs v σ H QS:=by
 obtain⟨a,xs,rfl,h,t⟩:=b7.mp h;exact kD h (by rw[t.length];exact e) (q xs t)
theorem mV{α : Type}{l:List α}(h:l.length<=1000):l.length<=ve:=Vp (kH h)
theorem o_(z:xs.length<=1000)(q:∀p H',H p=none->ag H H'->H' p=some (.tup xs)->Q (.ref p) H'):mz K xs H Q:=⟨mV z,λp hp=>q p _ hp (ag.upd hp) cJ⟩
theorem fW(z:xs.length<=1000)(q:∀p H',H p=none->ag H H'->H' p=some (.lst xs)->Q (.ref p) H'):tL K xs H Q:=⟨mV z,λp hp=>q p _ hp (ag.upd hp) cJ⟩
theorem cy{ds:List wB}(z:xs.length<=1000)(h:av K H xs ds)(q:∀v H',ag H H'->Is K H' v (.tuple ds)->Q v H'):mz K xs H Q :=
 o_ z λp H' _ s e=>q _ H' s (b7.mpr ⟨p,xs,rfl,.of e,av.same s ds xs h⟩)
theorem kJ{r:Rat}(e1:m=r.num)(e2:n=(r.den:Int))(q:∀v H',ag H H'->Is K H' v (N r)->Q v H'):mz K [.int m,.int n] H Q:=by
 subst e1 e2;exact o_ (by show 2<=1000;decide) λp H' _ s e=>q _ H' s (oW.mpr ⟨p,rfl,.of e⟩)
-- tests
theorem YJ{p:Prop}[Decidable p]{A B:Prop}(h1:p->A)(h2:¬ p->B):if decide p=true then A else B:=by
 by_cases h:p
 ·rw[decide_eq_true h,if_pos rfl];exact h1 h
 ·rw[decide_eq_false h,if_neg vC];exact h2 h
theorem zzA{p:Prop}[Decidable p]{A B:Prop}(h1:¬ p->A)(h2:p->B):if(!decide p)=true then A else B:=by
 by_cases h:p
 ·rw[decide_eq_true h];exact lC (h2 h)
 ·rw[decide_eq_false h];exact lW (h1 h)
theorem zBm{b:Bool}{A B:Prop}(h1:b=true->A)(h2:b=false->B):if b=true then A else B:=by
 cases b
 ·exact lC (h2 rfl)
 ·exact lW (h1 rfl)
theorem Zh{b:Bool}{A B:Prop}(h1:b=false->A)(h2:b=true->B):if(!b)=true then A else B:=by
 cases b
 ·exact lW (h1 rfl)
 ·exact lC (h2 rfl)
end
section
variable{c:TT}{tb:TS}{D:cB}{σ : St}{H:Hp}
def M7(σ : St)(i:Nat):Int:=match σ[i]? with
 | some (some (.int y))=>y
 | _=>0
def Pa(Pv:St->Hp->Prop)(μ : St->Nat)(tb:TS)(D:cB)(σ':St)(H1:Hp):Prop :=
 ∃M:St->Hp->Prop,(∀σ2 H2,M σ2 H2->∃m',m' < μ σ'/\(m' = μ σ2/\Pv σ2 H2))/\tb {D with nx:=M,ct:=M,bk:=D.nx} σ' H1
theorem Kt(Pv:St->Hp->Prop)(μ : St->Nat)(h0:Pv σ H)
  (hs:∀σ' H',Pv σ' H'->c σ' H' λb H1=>if b=true then Pa Pv μ tb D σ' H1 else D.nx σ' H1):Ct c tb D σ H:=by
 refine⟨λm σ H=>m = μ σ /\ Pv σ H,⟨_,rfl,h0⟩,?_⟩;rintro m σ H ⟨rfl,p⟩;exact hs σ H p
theorem RB{Pv:St->Hp->Prop}{μ : St->Nat}{σ':St}{H1:Hp}(h:tb {D with nx:=λσ2 H2=>μ σ2 < μ σ'/\Pv σ2 H2,ct:=λσ2 H2=>μ σ2 < μ σ'/\Pv σ2 H2,bk:=D.nx} σ' H1):Pa Pv μ tb D σ' H1 :=
 ⟨_,λσ2 H2 q=>⟨_,q.1,rfl,q.2⟩,h⟩
def KQ(g:TG)(tb:TS)(D:cB)(σ : St)(vs:List V)(H1:Hp):Prop:=∃j:Int,vs=[.int j] /\ -(2^62)<=j/\j<2^62 /\
 ∃W:Nat->Nat->St->Hp->Prop,(∃m,W 0 m σ H1) /\ ∀i m σ H,W i m σ H ->
  ((gm 0 j.toNat).stop i H/\D.nx σ H)\/((gm 0 j.toNat).go i H /\ ∃M:St->Hp->Prop,(∀σ' H',M σ' H'->∃m',m'<m/\W (i+1) m' σ' H') /\ ∀x H',(gm 0 j.toNat).fH i H x H'->g x σ H' λσ2 H2=>tb {D with nx:=M,ct:=M,bk:=D.nx} σ2 H2)
theorem zBo{ta:TA}{g:TG}(h:ta σ H λvs H1=>KQ g tb D σ vs H1):mD (EC ta) g tb D σ H:=h
theorem lO{g:TG}{n:Int}(h0 : -1000000000<=n)(h1:n<1000000000)(Pv:Nat->St->Hp->Prop)(p:Pv 0 σ H)
  (hs:∀(i:Nat) σ H,i<n.toNat->Pv i σ H->g (.int (i:Int)) σ H λσ2 H2=>tb {D with nx:=Pv (i+1),ct:=Pv (i+1),bk:=D.nx} σ2 H2)
  (hd:∀σ H,Pv n.toNat σ H->D.nx σ H):KQ g tb D σ [.int n] H:=by
 refine⟨n,rfl,by lia,by lia,Sf (lo:=0) Pv p (λi σ H hi q=>?_) hd⟩;have e:(0:Int)+(i:Int)=(i:Int):=by lia
 rw[e];exact hs i σ H hi q
end
def DH(K:wb)(g:TG)(tb:TS)(D:cB)(σ : St)(x:V)(H1:Hp):Prop:=∃a,x=.ref a/\(∃xs,aO K H1 a xs) /\
 ∃W:Nat->Nat->St->Hp->Prop,(∃m,W 0 m σ H1) /\ ∀i m σ H,W i m σ H ->
  ((iR K a).stop i H/\D.nx σ H)\/((iR K a).go i H /\ ∃M:St->Hp->Prop,(∀σ' H',M σ' H'->∃m',m'<m/\W (i+1) m' σ' H') /\ ∀x H',(iR K a).fH i H x H'->g x σ H' λσ2 H2=>tb {D with nx:=M,ct:=M,bk:=D.nx} σ2 H2)
def Tc(K:wb)(g:TG)(tb:TS)(D:cB)(σ : St)(x:V)(H1:Hp):Prop:=∃a,x=.ref a/\(∃xs,aV K H1 a xs) /\
 ∃W:Nat->Nat->St->Hp->Prop,(∃m,W 0 m σ H1) /\ ∀i m σ H,W i m σ H ->
  ((jt K a).stop i H/\D.nx σ H)\/((jt K a).go i H /\ ∃M:St->Hp->Prop,(∀σ' H',M σ' H'->∃m',m'<m/\W (i+1) m' σ' H') /\ ∀x H',(jt K a).fH i H x H'->g x σ H' λσ2 H2=>tb {D with nx:=M,ct:=M,bk:=D.nx} σ2 H2)
section
variable{K:wb}{te:TE}{g:TG}{tb:TS}{D:cB}{σ : St}{H:Hp}{a:we}{xs:List V}
theorem zAo(h:te σ H λx H1=>DH K g tb D σ x H1):mD (yY K te) g tb D σ H:=h
theorem FR(hx:aO K H a xs)(Pv:Nat->St->Hp->Prop)(h0:Pv 0 σ H)(hl:∀i σ H,i<=xs.length->Pv i σ H->aO K H a xs)
  (hs:∀i x σ H,xs[i]? = some x->Pv i σ H->g x σ H λσ2 H2=>tb {D with nx:=Pv (i+1),ct:=Pv (i+1),bk:=D.nx} σ2 H2) (hd:∀σ H,Pv xs.length σ H->D.nx σ H):DH K g tb D σ (.ref a) H :=
 ⟨a,rfl,⟨xs,hx⟩,zzi Pv h0 hl hs hd⟩
theorem Zk(hx:aV K H a xs)(Pv:Nat->St->Hp->Prop)(h0:Pv 0 σ H)(hl:∀i σ H,i<=xs.length->Pv i σ H->aV K H a xs)
  (hs:∀i x σ H,xs[i]? = some x->Pv i σ H->g x σ H λσ2 H2=>tb {D with nx:=Pv (i+1),ct:=Pv (i+1),bk:=D.nx} σ2 H2) (hd:∀σ H,Pv xs.length σ H->D.nx σ H):Tc K g tb D σ (.ref a) H :=
 ⟨a,rfl,⟨xs,hx⟩,zAU Pv h0 hl hs hd⟩
end
theorem zDi{K:wb}{H:Hp}{a:we}{xs:List V}(hO:yA H)(h:aO K H a xs):kh K H a xs:=by
 rcases h with(h | ⟨o,h⟩) | h
 ·rcases hO a with z | ⟨ob,ys,z⟩
  ·rw[h]at z;cases z
  ·rw[h]at z;cases z
 ·exact .inl ⟨o,h⟩
 ·exact .inr h
theorem OE{K:wb}{H:Hp}{Q:VK}{a:we}{ns:List Int}{m:Int}(h:kh K H a (ns.map V.int))(h0:0<=m)(h1:m<((ns.map V.int).length:Int))(q:∀z,Q (.int z) H):c6 K (.ref a) (.int m) H Q:=by
 refine Po (λv=>∃z,v=.int z) h.sq h0 h1 (λx hx=>?_) (λx hx=>?_)
 ·obtain⟨z,_,rfl⟩:=wO.mp hx
  exact⟨z,rfl⟩
 ·obtain⟨z,rfl⟩:=hx
  exact q z
section
variable{K:wb}{H H':Hp}{v:V}{d:wB}{a:we}{xs:List V}{o:HO}
theorem ag.at(s:ag H H')(h:H a=some o):H' a=some o:=s _ _ h
theorem ag.back{H2:Hp}(b:ag H' H2)(s:ag H H'):ag H H2:=s.trans b
theorem bE.back{H2:Hp}(b:bE H' H2)(s:bE H H'):bE H H2:=s.trans b
theorem Is.by(s:ag H H')(h:Is K H v d):Is K H' v d:=Is.same s d v h
theorem Is.Yz(h:Is K H v d)(s:ag H H'):Is K H' v d:=Is.same s d v h
theorem Is.Yp{r:Rat}(h:Is K H v (N r))(s:bE H H'):Is K H' v (N r):=Is.keep s _ v (kC r) h
theorem Is.gT{r:Rat}(s:bE H H')(h:Is K H v (N r)):Is K H' v (N r):=Is.keep s _ v (kC r) h
theorem Is.fj(s:bE H H')(i:cw d=true)(h:Is K H v d):Is K H' v d:=Is.keep s _ v i h
end
def dm(X:Cx)(N':List Str)(scope:Scope)(cl:List (Str × we))(C:we)(s₀ : wm)(H₀ : Hp)(fp:List we)(pins:List (we × Obj)):Cx where
 prog:=X.prog
 w:=X.w
 K:=X.K
 mg:=X.mg
 base:=X.base
 A:=X.A
 N:=N'
 s₀:=s₀
 H₀:=H₀
 env:=compEnvC scope cl C X.env
 outer:=X.stack
 stack:=X.stack
 ex:=fp
 fn:=λ_=>false
 calm:=X.calm
 pn:=X.pn++pins
 xe:=λ_ _=>False
structure O8(X:Cx)(scope:Scope)(cl:List (Str × we)):Prop where
 jP:closureFor scope X.env=pure cl
 sub:∀x c,cl.lookup x=some c->X.env.cells.lookup x=some c
 has:∀x,((relabel scope X.env).names.lookup x=some .cell\/(relabel scope X.env).names.lookup x=some .free)->∃c,cl.lookup x=some c
def dN(src:List (Option Nat))(σ : St):St:=src.map λo=>match o with
 | none=>none
 | some j=>(σ[j]?).join
def S_(X:Cx)(N':List Str)(src:List (Option Nat)):Prop :=
 N'.length=src.length /\ ∀(i j:Nat)(x:Str),N'[i]? = some x->src[i]? = some (some j)->X.N[j]? = some x/\X.env.scope.names.lookup x=some .cell
section
variable{X:Cx}{pins:List (we × Obj)}{σ : St}{H:Hp}{s:wm}{N':List Str}{scope:Scope}{cl:List (Str × we)}{src:List (Option Nat)}{fp:List we}
theorem Inv.block{h₁ : wQ}{tk:Nat}(I:Inv X pins σ H s)(hk:scope.kind=.function)(cok:O8 X scope cl)(sok:S_ X N' src)(hf:∀b∈fp,eG X pins H b)(hlt:∀b∈fp,b<s.heap.objs.size)
  (hns:h₁.Ns s.heap.objs.size λ_=>none) (old:∀b o,s.heap.get? b=some o->h₁.get? b=some o)
  (hvis:∀(i:Nat) x,N'[i]? = some x->src[i]? ≠ some none->(relabel scope X.env).names.lookup x=some .cell\/(relabel scope X.env).names.lookup x=some .free) :
  Inv (dm X N' scope cl s.heap.objs.size s H fp pins) [] (dN src σ) H {s with heap:=h₁,toks:=tk}:=by
 have hfr:H s.heap.objs.size=none:=I.aH.fresh (wq _)
 have jC:∀x c,cl.lookup x=some c->c<s.heap.objs.size:=λx c e=>by
  obtain⟨v,q⟩:=I.cell x c (cok.sub x c e);exact q.lt
 have fplt:∀b∈fp,b ∉ dH X.stack:=λb hb z=>by
  obtain⟨_,f1,f2,_⟩:=hf b hb;exact(wL.mp (I.lA b z)).elim f1 f2
 refine⟨⟨I.ok.mod,?_,I.ok.glob,I.ok.blt,wq _,λx y c h1 h2=>?_,λx hx=>?_,λx c hx=>?_,I.ok.hd,I.ok.frames,.inl rfl,λb hb=>⟨?_,λx c e=>?_⟩,I.bs,Wm I.ok.gX I.sz,λb o e=>?_,fplt,I.stack,I.sx⟩,
  rfl,I.bare,Un.kept old,⟨_,hns,λi x v h1 h2 h3=>?_⟩,λx c e=>?_,hfr,λx c e=>?_,λp hp=>?_,I.aH.kept old,?_⟩
 ·show(relabel scope X.env).kind=.function
  exact hk
 ·exact I.ok.inj x y c (cok.sub x c h1) (cok.sub y c h2)
 ·exact cok.has x hx
 ·exact absurd (show false=true from hx) vC
 ·exact wT (hlt b hb)
 ·exact(hf b hb).2.2.2.2.1 x c (cok.sub x c e)
 ·intro hb
  obtain⟨_,_,_,f3,_⟩:=hf b hb;rcases f3 with z | z
  ·exact I.ok.jQ b o e z
  ·exact absurd (w5 (wC e) (Wm I.ok.gX z)) (Vx _)
 ·-- a name of the frame around
  have hsrc:∃j,src[i]? = some (some j) /\ σ[j]? = some (some v):=by
   unfold dN at h2;rw[wu]at h2;cases q:src[i]? with
   | none=>rw[q]at h2;cases h2
   | some o =>
    rw[q]at h2;cases o with
    | none=>cases h2
    | some j =>
     refine⟨j,rfl,?_⟩;have h2':(σ[j]?).join=some v:=w6 h2;cases q2 : σ[j]? with
     | none=>rw[q2]at h2';cases h2'
     | some z=>rw[q2]at h2';exact congrArg some h2'
  obtain⟨j,hj,hv⟩:=hsrc;obtain⟨hN,hc⟩:=sok.2 i j x h1 hj;obtain⟨m,_,hl⟩:=I.loc;obtain⟨u,ru,lk⟩:=hl j x v hN hv (.inr (.inl hc));refine⟨u,ru,.inr ⟨hvis i x h1 (by rw[hj];intro z;cases z),?_⟩⟩;rcases lk with⟨k,_⟩ | ⟨_,c,ec,hcell⟩
  ·have k':X.env.scope.names.lookup x=some .local:=k
   rw[hc]at k';cases k'
  ·obtain⟨c',ec'⟩:=cok.has x (hvis i x h1 (by rw[hj];intro z;cases z))
   have:=cok.sub x c' ec';rw[ec]at this;cases this;obtain⟨o,ho,hd⟩:=hcell;exact⟨c,ec',o,old c o ho,hd⟩
 ·obtain⟨v,o,ho,hd⟩:=I.cell x c (cok.sub x c e)
  exact⟨v,o,old c o ho,hd⟩
 ·exact I.fC x c (cok.sub x c e)
 ·have hp':p∈(X.pn++pins)++[]:=hp
  rw[Wc]at hp';obtain⟨e,n,ne,nf,d⟩:=I.pin p hp';refine⟨old _ _ e,n,wT (wC e),λz=>?_,d⟩;exact(wL.mp (I.lA p.1 z)).elim ne nf
 ·show(dN src σ).length=N'.length
  unfold dN;rw[wo,sok.1]
end
def NB:TT:=λ_ H Q=>Q true H
def om(X:Cx)(ifs:List Expr)(t:TT):Prop :=
 ∀(pins:List (we × Obj))(s:wm)(σ : St)(H:Hp)(Q:Bool->Hp->Prop),Inv X pins σ H s->t σ H Q ->
  wA (model X.prog X.w) X.A (forIn ifs true λc r=>if r=true then do let ok <- isTrue c X.env (eval c X.env);pure (ForInStep.yield ok)else pure (ForInStep.yield r)) (TP X pins σ Q) X.xe s
theorem du{X:Cx} : om X [] NB:=λ_ _ _ H _ I h=>wpAny_tests_nil ⟨H,I,h⟩
theorem pT{X:Cx}{c:Expr}{t:TT}(hc:PT X c t):om X [c] t:=λpins s σ H Q I h=>wpAny_tests_one (hc pins s σ H Q I h)
section
variable{prog:wS}{w:wW}{A:vb}{R:Result->wm->Prop}{s:wm}
theorem zqT{elt target iter:Expr}{ifs:List Expr}{scope:Scope}{pos:Pos}{it acc:wg}{env:Env}(I:Nat->wm->Prop)
   (turn:∀n s,I n s->wA (model prog w) A (Ve it) (λr s₁=>match r with
     | none=>R (.ok .next) s₁
     | some v=>wA (model prog w) A (qy target it v) (λ_ s₁'=>wA (model prog w) A (assign target env v) (λ_ s₂ =>
         wA (model prog w) A (forIn ifs true λc r=>if r=true then do let ok <- isTrue c env (eval c env);pure (ForInStep.yield ok)else pure (ForInStep.yield r)) (λok s₃ =>
           if ok=true then wA (model prog w) A (eval elt env) (λx s₄ =>
             wA (model prog w) A (call (.builtin "list.append") [acc,x]) (λ_ s₅=>∃m,m<n/\I m s₅) (λ_ _=>False) s₄) (λ_ _=>False) s₃
           else ∃m,m<n/\I m s₃) (λ_ _=>False) s₂) (λ_ _=>False) s₁') (λ_ _=>False) s₁) (λ_ _=>False) s)
   (n:Nat) (h:I n s):codeAny (model prog w) A (.compLoop (.ListComp elt [⟨target,iter,ifs,0⟩] scope pos) 0 it acc env) R s:=by
 refine codeAny_loop rfl I (λn s hI=>?_) n h
 show wA _ A ((compTurn (.ListComp elt [⟨target,iter,ifs,0⟩] scope pos) 0 it acc env).onRaise (λx=>do noteFrame x env;theTreesLotGoes x)) _ _ s
 refine wpAny_noted ?_;rw[compTurn_list];refine wf (ql (wf (Wr (turn n s hI) (λr s₁ h₁=>?_) λ_ _ h'=>h'.elim)));cases r with
 | none=>exact wy h₁
 | some v =>
   refine wf (Wr h₁ (λ_ s₁' h₁'=>?_) λ_ _ h'=>h'.elim);refine wf (Wr h₁' (λ_ s₂ h₂=>wf (Wr h₂ (λok s₃ h₃=>?_) λ_ _ h'=>h'.elim)) λ_ _ h'=>h'.elim);cases ok with
   | false=>exact wy ⟨rfl,h₃⟩
   | true=>exact wf (wf (Wr h₃ (λx s₄ h₄=>wf (Wr h₄ (λ_ s₅ h₅=>wy (wy ⟨rfl,h₅⟩)) λ_ _ h'=>h'.elim)) λ_ _ h'=>h'.elim))
end
def kl(g:TG)(tt:TT)(te:TE)(J:It)(D:we)(σ0:St)(H0:Hp)(Q:Hp->Prop):Prop :=
 ∃W:Nat->Nat->St->Hp->Prop,(∃m,W 0 m σ0 H0) /\ ∀i m σ' H',W i m σ' H' ->
  (J.stop i H'/\Q H')\/(J.go i H' /\ ∃M:St->Hp->Prop,(∀σ2 H2,M σ2 H2->∃m',m'<m/\W (i+1) m' σ2 H2) /\
   ∀x H2,J.fH i H' x H2->g x σ' H2 λσ3 H3=>tt σ3 H3 λok H4=>if ok=true then te σ3 H4 λy H5=>∃ys,H5 D=some (.lst ys)/\ys.length<ve/\M σ3 (upd H5 D (.lst (ys++[y])))else M σ3 H4)
def jm(src:List (Option Nat))(wi:TI)(g:TG)(tt:TT)(te:TE):TE:=λσ H Q=>wi σ H λJ H1=>∀D,H1 D=none->kl g tt te J D (dN src σ) (upd H1 D (.lst [])) (λH'=>Q (.ref D) H')
structure uW(Y:Cx)(tg:Expr)(J:It)(fp:List we)(it:we)(tn:Nat->wQ->Prop):Prop where
 item:∀(i:Nat)(pins:List (we × Obj))(s:wm)(σ : St)(H:Hp)(E:wg->wm->Prop),Inv Y pins σ H s->(∀b∈fp,eG Y pins H b)->tn i s.heap->J.go i H ->
   wA (model Y.prog Y.w) Y.A (Ve (.ref it)) (λr s1=>∃u,r=some u/\wA (model Y.prog Y.w) Y.A (qy tg (.ref it) u) (λ_ s2=>∃x H',Inv Y pins σ H' s2/\bC x u/\J.fH i H x H'/\tn (i+1) s2.heap /\ ∀b∈fp,H' b=none) E s1) E s
 done:∀(i:Nat)(pins:List (we × Obj))(s:wm)(σ : St)(H:Hp)(E:wg->wm->Prop),Inv Y pins σ H s->(∀b∈fp,eG Y pins H b)->tn i s.heap->J.stop i H ->
   wA (model Y.prog Y.w) Y.A (Ve (.ref it)) (λr s1=>r=none/\Inv Y pins σ H s1) E s
theorem iX.Q_{P:wS}{w:wW}{K:wb}{tg:Expr}{J:It}{fp:List we}{it:we}{tn:Nat->wQ->Prop}(T:iX P w K tg J fp it tn){Y:Cx}(h1:Y.prog=P)(h2:Y.w=w)(h3:Y.K=K)(hc:Y.calm=true):uW Y tg J fp it tn:=by
 subst h1 h2 h3;exact⟨T.item Y rfl rfl rfl hc,T.done Y rfl rfl rfl hc⟩
section
variable{X:Cx}{pins:List (we × Obj)}{σ : St}{H:Hp}{s:wm}{N':List Str}{scope:Scope}{cl:List (Str × we)}{src:List (Option Nat)}{elt tgt iter:Expr}{ifs:List Expr}{pos:Pos}{wi:TI}{g:TG}{tt:TT}{te:TE}
structure cv(X:Cx)(N':List Str)(scope:Scope)(cl:List (Str × we))(src:List (Option Nat)):Prop where
 kind:scope.kind=.function
 cell:∀y∈scope.names,y.2≠.cell
 names:∀y∈scope.names,y.2=.local->scope.names.lookup y.1=some .local
 jP:O8 X scope cl
 YE:S_ X N' src
 EK:∀(i:Nat) x,N'[i]? = some x->src[i]? ≠ some none->(relabel scope X.env).names.lookup x=some .cell\/(relabel scope X.env).names.lookup x=some .free
theorem Ea{it:we}{fp:List we}{tn:Nat->wQ->Prop}{J:It}{RQ:we->Hp->Prop}{E:wg->wm->Prop}{RR:wg->we->Result->wm->Prop}
   (TC:∀C s₀ H₀,uW (dm X N' scope cl C s₀ H₀ fp pins) tgt J fp it tn) (ok:cv X N' scope cl src)
   (hg:∀C s₀ H₀ fp pins,PG (dm X N' scope cl C s₀ H₀ fp pins) tgt g) (ht:∀C s₀ H₀ fp pins,om (dm X N' scope cl C s₀ H₀ fp pins) ifs tt) (he:∀C s₀ H₀ fp pins,PE (dm X N' scope cl C s₀ H₀ fp pins) elt te)
   (I:Inv X pins σ H s) (T:iX X.prog X.w X.K tgt J fp it tn) (st:tn 0 s.heap) (hf:∀b∈fp,eG X pins H b)
   (rd:∀D,H D=none->kl g tt te J D (dN src σ) (upd H D (.lst [])) (λH'=>RQ D H'))
   (hRR:∀D C H' s' m,Inv X pins σ H' s'->s'.heap.Ns C m->eG X pins H' C->RQ D H'->RR (.ref D) C (.ok .next) s') :
   wA (model X.prog X.w) X.A (newList []) (λacc s₃=>wA (model X.prog X.w) X.A (newFunctionEnv scope X.env.globals cl [] X.env.qual none .none (some X.env)) (λcenv s₄ =>
     codeAny (model X.prog X.w) X.A (.compStart (.ListComp elt [⟨tgt,iter,ifs,0⟩] scope pos) 0 (.ref it) acc {cenv with scope:=relabel scope X.env}) (RR acc cenv.locals) s₄) E s₃) E s:=by
 -- the list
 refine Wo ?_ (by show 0<=ve;exact qm _);have hD:H s.heap.objs.size=none:=I.aH.fresh (wq _)
 have I3:Inv X pins σ (upd H s.heap.objs.size (.lst [])) {s with heap:=s.heap.push {cls:=.type "list",data:=.seq ([]:List wg).toArray}} :=
   I.JT (ys:=[]) (its:=[]) (t':=s.toks) .nil (qm _)
 have old3:∀b o,s.heap.get? b=some o->(s.heap.push {cls:=.type "list",data:=.seq ([]:List wg).toArray}).get? b=some o:=λb o e=>wp _ e
 have lt0:∀b∈fp,b<s.heap.objs.size:=λb hb=>by
   obtain⟨o,e,_⟩:=T.obj 0 _ st b hb;exact wC e
 have hf3:∀b∈fp,eG X pins (upd H s.heap.objs.size (.lst [])) b:=λb hb=>⟨by rw[eJ (wT (lt0 b hb))];exact(hf b hb).1,(hf b hb).2⟩
 have lt3:∀b∈fp,b<(s.heap.push {cls:=.type "list",data:=.seq ([]:List wg).toArray}).objs.size:=λb hb=>by
   rw[WC];exact VC (lt0 b hb)
 have st3:tn 0 (s.heap.push {cls:=.type "list",data:=.seq ([]:List wg).toArray}):=T.keep _ _ _ st λb _ o e=>old3 b o e
 obtain⟨W,⟨m0,w0⟩,turn⟩:=rd _ hD;generalize hs3:({s with heap:=s.heap.push {cls:=.type "list",data:=.seq ([]:List wg).toArray}} : wm)=s3 at I3 ⊢;have hh3:s3.heap=s.heap.push {cls:=.type "list",data:=.seq ([]:List wg).toArray}:=by rw[<- hs3]
 rw[<- hh3]at lt3 st3;clear old3 hs3 hh3;generalize hD':s.heap.objs.size=D at *
 -- the block's dict
 refine wpAny_newFunctionEnv ok.cell (by intro y hy;cases hy) (λh₁ hns₁ hsb₁=>?_) ok.kind;have old:∀b o,s3.heap.get? b=some o->h₁.get? b=some o:=λb o e=>hsb₁.extBut b o (wT (wC e)) (wp _ e)
 have hC:eG X pins (upd H D (.lst [])) s3.heap.objs.size:=I3.jg (wq _) (I3.aH.fresh (wq _))
 have IB:∀tk,Inv (dm X N' scope cl s3.heap.objs.size s3 (upd H D (.lst [])) fp pins) [] (dN src σ) (upd H D (.lst [])) {s3 with heap:=h₁,toks:=tk}:=λtk =>
   I3.block ok.kind ok.jP ok.YE hf3 lt3 hns₁ old ok.EK
 have stB:tn 0 h₁:=T.keep _ _ _ st3 λb _ o e=>old b o e
 -- what is true of the iterator's records within
 have stat:∀{H':Hp} ,(∀b∈fp,H' b=none)->∀b∈fp,eG (dm X N' scope cl s3.heap.objs.size s3 (upd H D (.lst [])) fp pins) [] H' b:=λhn b hb=>by
   obtain⟨_,f1,f2,f3,f4,f5⟩:=hf3 b hb;refine⟨hn b hb,wT (lt3 b hb),λz=>(wL.mp (I3.lA b z)).elim f1 f2,.inl hb,λx c e=>f4 x c (ok.jP.sub x c e),λp hp=>?_⟩;have hp':p∈(X.pn++pins)++[]:=hp;rw[Wc]at hp';exact f5 p hp'
 -- from within back to the frame around
 have back:∀{σ':St}{H':Hp}{s':wm},Inv (dm X N' scope cl s3.heap.objs.size s3 (upd H D (.lst [])) fp pins) [] σ' H' s'->Inv X pins σ H' s'/\(∃m,s'.heap.Ns s3.heap.objs.size m)/\eG X pins H' s3.heap.objs.size:=λ{σ' H' s'} J=>by
   obtain⟨m,hn,_⟩:=J.loc;refine⟨I3.JO (ch:=fp) J.os J.base J.aH J.bare (λb hb=>?_),⟨m,hn⟩,⟨J.free,hC.2⟩⟩;obtain⟨_,f1,_,f3,f4,f5⟩:=hf3 b hb;exact⟨f3,f1,f4,f5⟩
 have loop:∀tk,codeAny (model X.prog X.w) X.A (.compLoop (.ListComp elt [⟨tgt,iter,ifs,0⟩] scope pos) 0 (.ref it) (.ref D) (compEnvC scope cl s3.heap.objs.size X.env)) (RR (.ref D) s3.heap.objs.size) {s3 with heap:=h₁,toks:=tk}:=by
   intro tk
   refine zqT (λn s'=>∃i σ' H',Inv (dm X N' scope cl s3.heap.objs.size s3 (upd H D (.lst [])) fp pins) [] σ' H' s'/\tn i s'.heap/\(∀b∈fp,H' b=none)/\W i n σ' H') ?_ m0
     ⟨0,_,_,IB tk,stB,λb hb=>(hf3 b hb).1,w0⟩
   rintro n s4 ⟨i,σ4,H4,I4,st4,fr4,w4⟩;rcases turn i n σ4 H4 w4 with⟨stop,q⟩ | ⟨go,M,hM,step⟩
   . refine aI ((TC _ _ _).done i [] s4 σ4 H4 (λ_ _=>False) I4 (stat fr4) st4 stop) λr s5 ⟨hr,I5⟩=>?_
     subst hr;obtain⟨J,⟨m,hn⟩,hCf⟩:=back I5;exact hRR D _ H4 s5 m J hn hCf q
   . refine aI ((TC _ _ _).item i [] s4 σ4 H4 (λ_ _=>False) I4 (stat fr4) st4 go) λr s5 ⟨u,hr,h5⟩=>?_
     subst hr;refine aI h5 λ_ s6 ⟨x,H6,I6,r6,y6,st6,fr6⟩=>?_
     have I6':=I6.pinned (stat fr6) (T.obj _ _ st6)
     have again:∀{σ7:St}{H7:Hp}{s7:wm},Inv (dm X N' scope cl s3.heap.objs.size s3 (upd H D (.lst [])) fp pins) ([]++rZ fp s6.heap) σ7 H7 s7->M σ7 H7 ->
         ∃m,m<n /\ ∃i σ' H',Inv (dm X N' scope cl s3.heap.objs.size s3 (upd H D (.lst [])) fp pins) [] σ' H' s7/\tn i s7.heap/\(∀b∈fp,H' b=none)/\W i m σ' H':=λ{σ7 H7 s7} I7 n7=>by
       obtain⟨m',hm,w7⟩:=hM σ7 H7 n7;refine⟨m',hm,i+1,σ7,H7,I7.sk,T.keep _ _ _ st6 λb hb o e=>(I7.pin (b,o) (vS _ (vS _ (uY hb e)))).1,λb hb=>?_,w7⟩;obtain⟨o,e,d⟩:=T.obj _ _ st6 b hb;exact(I7.pin (b,o) (vS _ (vS _ (uY hb e)))).2.1
     refine aI (hg _ _ _ _ _ _ s6 σ4 H6 x u _ I6' r6 (step x H6 y6)) λ_ s7 ⟨σ7,H7,I7,q7⟩=>?_
     refine aI (ht _ _ _ _ _ _ s7 σ7 H7 _ I7 q7) λk s8 ⟨H8,I8,q8⟩=>?_
     cases k with
     | false=>exact again I8 q8
     | true =>
       rw[if_pos rfl]at q8 ⊢;refine aI (he _ _ _ _ _ _ s8 σ7 H8 _ I8 q8) λy s9 ⟨yv,H9,I9,r9,ys,hys,hz,q9⟩=>?_
       exact aI (jH _ s9 σ7 H9 (.ref D) [yv] (.ref D) [y] (λ_ H'=>M σ7 H') I9 rfl (.cons r9 .nil) ⟨D,ys,yv,rfl,rfl,hys,hz,q9⟩) λ_ s10 ⟨_,H10,I10,_,q10⟩=>again I10 q10
 exact codeAny_compStart_list (loop _) (T.self _ _ _ _ _ stB (loop _))
theorem eh(hc:X.calm=true)(ok:cv X N' scope cl src)(hi:PI X tgt iter wi)
  (hg:∀C s₀ H₀ fp pins,PG (dm X N' scope cl C s₀ H₀ fp pins) tgt g) (ht:∀C s₀ H₀ fp pins,om (dm X N' scope cl C s₀ H₀ fp pins) ifs tt) (he:∀C s₀ H₀ fp pins,PE (dm X N' scope cl C s₀ H₀ fp pins) elt te)
  (hs:∀x,foldedSetIterable iter X.env x=pure x:=by intro _;rfl):PE X (.ListComp elt [⟨tgt,iter,ifs,0⟩] scope pos) (jm src wi g tt te):=by
 intro pins s σ H Q I h;rw[eval_ListComp];refine qJ (use:=none) rfl hs ok.jP.jP ok.kind ok.names (aI (hi pins s σ H _ I h) λv s1 h1=>aI h1 λitv s2 h2=>?_);obtain⟨it,fp,tn,J,H2,e,I2,T,st2,f2,rd⟩:=h2;subst e;refine Ea (RQ:=λD H'=>Q (.ref D) H') (RR:=λacc C=>compPost (model X.prog X.w) X.A X.xe none (EP X pins σ Q) acc C) (λ_ _ _=>T.Q_ rfl rfl rfl hc) ok hg ht he I2 T st2 f2 rd ?_;intro D C H' s' m J hn hC q;obtain⟨c0,c1,_,c3,c4,c5⟩:=hC;exact⟨m,hn,λh' sb=>⟨.ref D,H',J.turned (t':=s'.toks) (λb o hb e=>(sb.2 b hb).trans e) c0 c1 c3 c4 c5,rfl,q⟩⟩
theorem kz{i:Nat}{y:Str}{py spos:Pos}(hN:X.N.Nodup)(hy:X.N[i]? = some y)(hly:Loc X.env.scope y)(hc:X.calm=true)(ok:cv X N' scope cl src)(hi:PI X tgt iter wi)
  (hg:∀C s₀ H₀ fp pins,PG (dm X N' scope cl C s₀ H₀ fp pins) tgt g) (ht:∀C s₀ H₀ fp pins,om (dm X N' scope cl C s₀ H₀ fp pins) ifs tt) (he:∀C s₀ H₀ fp pins,PE (dm X N' scope cl C s₀ H₀ fp pins) elt te)
  (hsw:swapsWith (.ListComp elt [⟨tgt,iter,ifs,0⟩] scope pos) (some (.Name y py)) spos.line X.env=pure true:=by rfl)
  (hs:∀x,foldedSetIterable iter X.env x=pure x:=by intro _;rfl) (hf:X.fn y=true\/X.env.scope.names.lookup y=some .local:=by first | exact .inl rfl | exact .inr rfl | assumption) :
  PS X (.Assign [.Name y py] (.ListComp elt [⟨tgt,iter,ifs,0⟩] scope pos) spos) (kK (jm src wi g tt te) (gD i)):=by
 intro pins s σ H D0 I h;rw[exec_Assign_Name_used _ _ _ _ hsw];refine wf (ql (wf ?_))
 show wA _ X.A (do let _ <- comprehension (.ListComp elt [⟨tgt,iter,ifs,0⟩] scope pos) scope X.env _ (newList []) false (eval iter X.env) (some (assign (.Name y py) X.env))) _ _ s
 refine wf (Wr (qJ (Q:=λ_ s'=>SP X pins D0 .next s') rfl hs ok.jP.jP ok.kind ok.names (aI (hi pins s σ H _ I h) λv s1 h1=>aI h1 λitv s2 h2=>?_))
  (λ_ s' hq=>wy (wy hq)) λ_ _ e=>e)
 obtain⟨it,fp,tn,J,H2,e,I2,T,st2,f2,rd⟩:=h2;subst e;refine Ea (RQ:=λD H'=>gD i (.ref D) σ H' D0.nx) (RR:=λacc C=>compPost (model X.prog X.w) X.A X.xe (some (assign (.Name y py) X.env)) (λ_ s'=>SP X pins D0 .next s') acc C) (λ_ _ _=>T.Q_ rfl rfl rfl hc) ok hg ht he I2 T st2 f2 rd ?_;intro D C H' s' m J hn hC q;obtain⟨c0,c1,_,c3,c4,c5⟩:=hC
 show wA _ _ (assign (.Name y py) X.env (.ref D)) _ _ s'
 refine wpAny_assign_Name (Cj J hN hy hly (v:=.ref D) rfl (λs'' J2 ⟨a,sb,ha⟩=>?_) hf)
 have hCa:C≠a:=by
  rcases ha with z | z
  ·rw[z];exact c1
  ·exact(c4 y a z).symm
 exact⟨m,hn.sameBut sb hCa,λh' sb'=>⟨_,H',J2.turned (t':=s''.toks) (λb o hb e=>(sb'.2 b hb).trans e) c0 c1 c3 c4 c5,q⟩⟩
end
abbrev Nn(h B:wQ)(e:we)(cls:wg):Prop :=
 ∃oe vs,h.get? e=some oe/\oe.cls=cls/\oe.data=.fields vs/\vs[1]? = some .none/\vs[2]? = some .none/\oe.dict=none/\B.get? e=none
abbrev NL(h B:wQ)(e:we)(cls fl:wg):Prop :=
 ∃oe vs T oT ts,h.get? e=some oe/\oe.cls=cls/\oe.data=.fields vs/\vs[1]? = some (.ref T)/\vs[2]? = some .none/\oe.dict=none/\B.get? e=none/\B.get? T=none/\T≠e/\h.get? T=some oT/\oT.data=.fields ts/\ts[3]? = some fl
structure fm(B:wQ)(l:List Env)(e:we)(cls fl:wg)(h:wQ):Prop where
 st:B.StaysIn h
 fr:h.FunFrames B l
 tr:NL h B e cls fl
theorem Zo{f:Array wg->Array wg}(o:Obj):(qk f o).dict=o.dict:=by
 obtain⟨c,d,dt,sl⟩:=o;cases dt<;>rfl
theorem lG{h:wQ}{T:we}{f:Obj->Obj}{b:we}(n:b≠T):(h.update T f).get? b=h.get? b:=Wt _ _ (Wj n)
theorem nD{h:wQ}{T b:we}{oT o:Obj}{ts:Array wg}(hT:h.get? T=some oT)(dT:oT.data=.fields ts)(hb:h.get? b=some o)(hn:∀vs,o.data≠.fields vs):b≠T:=by
 rintro rfl;rw[hT]at hb;cases hb;exact hn _ dT
theorem Ep{B:wQ}{T b:we}{o:Obj}(n:B.get? T=none)(q:B.get? b=some o):b≠T:=by
 rintro rfl;rw[n]at q;cases q
section
variable{M:Model}{A:vb}{E:wg->wm->Prop}{s:wm}{B:wQ}{l outer:List Env}{env:Env}{L e:we}{cls fl:wg}{Q:Unit->wm->Prop}
theorem fm.land(F:fm B l e cls fl s.heap)(k:∀h',fm B l e cls .none h'->s.heap.UpToSlots h'->Q () {s with heap:=h'}):wA M A (setFlight (.ref e) none) Q E s:=by
 obtain⟨st,fr,oe,vs,T,oT,ts,he,hc,hd,h1,h2,hdi,be,bT,ne,hT,dT,h3⟩:=F;have sz:3<ts.size:=(WV.mp h3).1;unfold setFlight;refine wf (vi he hd h1 ?_);rw[if_pos (by simp)];have at3:∀b,b≠T->(s.heap.update T (qk (·.setIfInBounds 3 Value.none))).get? b=s.heap.get? b:=λb n=>lG n
 have tr:NL (s.heap.update T (qk (·.setIfInBounds 3 Value.none))) B e cls .none :=
  ⟨oe,vs,T,qk (·.setIfInBounds 3 Value.none) oT,ts.setIfInBounds 3 Value.none,(at3 e ne.symm).trans he,hc,hd,h1,h2,hdi,be,bT,ne,
   Vs _ hT (qa (VZ dT _)),VZ dT _,by simp[sz]⟩
 refine Vj hT dT sz (k _ ⟨λb o q=>(at3 b (Ep bT q)).trans (st b o q),fr.of_keeps λb o hb hn=>⟨o,(at3 b (nD hT dT hb hn)).trans hb,rfl⟩,tr⟩ λb o hb hn=>⟨o.slots,(at3 b (nD hT dT hb hn)).trans hb⟩)
theorem N_{oe:Obj}{vs:Array wg}{head:wg}{had:Bool}(hfr:A.frames=some (env::outer))(hf:env.frame=some L)(st:B.StaysIn s.heap)(fr:s.heap.FunFrames B (env::outer))(he:s.heap.get? e=some oe)
  (hd:oe.data=.fields vs) (sz:1<vs.size) (h2:vs[2]? = some .none) (hdi:oe.dict=none) (be:B.get? e=none) (k:∀h',fm B (env::outer) e oe.cls (VE L) h'->s.heap.UpToSlots h'->Q () {s with heap:=h'}) :
  wA M A (do let a <- frameOf env;let pl <- entryPlaceOf L had;let b <- xP head a .none (VE L) .none pl;setField (.ref e) 1 b) Q E s:=by
 have nfr:e ∉ (env::outer).filterMap (·.frame):=λz=>by
  obtain⟨_,o,ho,hnf⟩:=fr.mem z;rw[he]at ho;cases ho;exact hnf vs hd
 refine wf (wpAny_frameOf_fun hfr fr hf λg sg=>wf (wpAny_entryPlaceOf λpl hpl=>?_));unfold xP newFields;refine wf (Wo ?_ (hpl.sizeOk5 _ _ _ _ _));have eg:g.get? e=some oe:=(sg.2.1 e nfr).trans he
 have stg:B.StaysIn g:=λb o q=>by
  rw[sg.2.1 b λz=>?_]
  ·exact st b o q
  ·rw[(fr.mem z).1]at q;cases q
 generalize hob:({cls:=.type "traceback",data:=.fields ([head,.ref L,.none,VE L,.none]++(if pl.isEmpty then Vf 6 Value.none else pl)).toArray} : Obj)=tb;have dtb:tb.data=.fields ([head,.ref L,.none,VE L,.none]++(if pl.isEmpty then Vf 6 Value.none else pl)).toArray:=by rw[<- hob]
 have ftb:tb.isFreed=false:=qa dtb;have e2:=wp (h:=g) tb eg;have neT:g.objs.size≠e:=vj (wC eg)
 have at3:∀b o,b≠e->g.get? b=some o->((g.push tb).update e (qk (·.setIfInBounds 1 (.ref g.objs.size)))).get? b=some o:=λb o n q=>by
  rw[lG n];exact wp _ q
 refine Vj e2 hd sz (k _ ?_ ?_)
 ·have d3:=VZ hd (·.setIfInBounds 1 (Value.ref g.objs.size))
  refine⟨λb o q=>at3 b o (Ep be q) (stg b o q),fr.of_keeps λb o hb hn=>?_,_,_,g.objs.size,tb,_,Vs _ e2 (qa d3),Xs _ _,d3,by simp[sz],?_,?_,be,stg.fresh,neT,?_,dtb,?_⟩
  ·obtain⟨sl,q⟩:=sg.2.2 b o hb
   exact⟨_,at3 b _ (nD he hd hb hn) q,rfl⟩
  ·rw[Array.getElem?_setIfInBounds_ne (by decide)];exact h2
  ·exact(Zo oe).trans hdi
  ·rw[lG neT];exact wK _ ftb
  ·first | (simp;done) | (rcases hpl with rfl | ⟨_,_,_,_,_,_,_,rfl⟩<;>simp)
 ·exact λb o hb hn=>by
   obtain⟨sl,q⟩:=sg.2.2 b o hb;exact⟨sl,at3 b _ (nD he hd hb hn) q⟩
theorem zw1(hfr:A.frames=some (env::outer))(hf:env.frame=some L)(st:B.StaysIn s.heap)(fr:s.heap.FunFrames B (env::outer))(t:Nn s.heap B e cls)
  (k:∀h',fm B (env::outer) e cls (VE L) h'->s.heap.UpToSlots h'->Q () {s with heap:=h'}):wA M A (noteFrame (.ref e) env) Q E s:=by
 obtain⟨oe,vs,he,hc,hd,h1,h2,hdi,be⟩:=t;subst hc;unfold noteFrame;simp only[hf];refine wf (vi he hd h1 ?_);rw[if_neg (by decide)];exact N_ hfr hf st fr he hd (WV.mp h1).1 h2 hdi be k
theorem fm.note(F:fm B (env::outer) e cls .none s.heap)(hfr:A.frames=some (env::outer))(hf:env.frame=some L)
  (k:∀h',fm B (env::outer) e cls (VE L) h'->s.heap.UpToSlots h'->Q () {s with heap:=h'}):wA M A (noteFrame (.ref e) env) Q E s:=by
 obtain⟨st,fr,oe,vs,T,oT,ts,he,hc,hd,h1,h2,hdi,be,bT,ne,hT,dT,h3⟩:=F;subst hc;unfold noteFrame;simp only[hf];refine wf (vi he hd h1 ?_);rw[if_pos (by simp)];refine wf (vi hT dT h3 ?_);rw[if_neg (by simp[VE])];refine wf (Vj hT dT (WV.mp h3).1 ?_);refine N_ hfr hf (λb o q=>?_) (fr.of_keeps λb o hb hn=>⟨o,?_,rfl⟩) ?_ hd (WV.mp h1).1 h2 hdi be λh' F' sm=>k h' F' λb o hb hn=>sm b o ?_ hn
 ·show(V2 _ _ _).get? b=_
  rw[lG (Ep bT q)];exact st b o q
 ·show(V2 _ _ _).get? b=_
  rw[lG (nD hT dT hb hn)];exact hb
 ·show(V2 _ _ _).get? e=_
  rw[lG ne.symm];exact he
 ·show(V2 _ _ _).get? b=_
  rw[lG (nD hT dT hb hn)];exact hb
theorem ztA(hfr:A.frames=some (env::outer))(hf:env.frame=some L)(st:B.StaysIn s.heap)(fr:s.heap.FunFrames B (env::outer))(t:Nn s.heap B e cls)
  (k:∀h',fm B outer e cls .none h'->s.heap.UpToSlots h'->Q () {s with heap:=h'}):wA M A (leaving env (.ref e)) Q E s:=by
 unfold leaving;refine wf (zw1 hfr hf st fr t λh1 F1 s1=>fm.land F1 λh2 F2 s2=>k h2 ⟨F2.st,F2.fr.2.2,F2.tr⟩ (s1.trans s2))
theorem fm.leave(F:fm B (env::outer) e cls .none s.heap)(hfr:A.frames=some (env::outer))(hf:env.frame=some L)
  (k:∀h',fm B outer e cls .none h'->s.heap.UpToSlots h'->Q () {s with heap:=h'}):wA M A (leaving env (.ref e)) Q E s:=by
 unfold leaving;refine wf (F.note hfr hf λh1 F1 s1=>fm.land F1 λh2 F2 s2=>k h2 ⟨F2.st,F2.fr.2.2,F2.tr⟩ (s1.trans s2))
end
theorem dD.there{P:wS}{w:wW}{H:Hp}{h:wQ}{a:we}{o:HO}(x:dD P w H h a o):∃u,h.get? a=some u:=by
 cases o with
 | lst xs=>obtain⟨_,_,_,_,e⟩:=x;exact⟨_,e⟩
 | tup xs=>obtain⟨_,_,_,_,e,_⟩:=x;exact⟨_,e⟩
 | dK kvs=>obtain⟨_,_,_,_,o,_,_,e,_⟩:=x;exact⟨_,e⟩
 | dT kvs=>obtain⟨_,_,_,_,o,_,_,e,_⟩:=x;exact⟨_,e⟩
 | set S n=>obtain⟨o,_,_,_,e,_⟩:=x;exact⟨_,e⟩
 | ins C dx fs=>obtain⟨_,_,_,e,_⟩:=x;exact⟨_,e⟩
 | own y=>exact x
 | xd fs=>obtain⟨_,⟨_,_,_,e,_⟩,_⟩:=x;exact⟨_,e⟩
 | zC lo hi=>obtain⟨_,_,_,e⟩:=x;exact⟨_,e⟩
 | gH ob u=>obtain⟨e,_⟩:=x;exact⟨_,e⟩
 | kO ps=>exact⟨_,x⟩
 | met f y=>exact⟨_,x⟩
 | ext φ=>obtain⟨_,e,_⟩:=x;exact e
structure mP(B:wQ)(fs:List we)(H H':Hp)(h:wQ):Prop where
 iZ:∀a o,H' a=some o->∃u,B.get? a=some u
 old:∀b o,h.get? b=some o->H b=none->b ∉ fs->B.get? b=some o
 p5:∀b o,h.get? b=some o->b ∉ fs->∃u,B.get? b=some u
def eT(P:wS)(w:wW):fR:=λouter H s E e s'=>∃(ex:we)(C:wg)(H':Hp)(B:wQ),e=.ref ex/\s'.os=s.os/\AllBare s'.gens/\Un (dH outer) [] H H' s.heap s'.heap/\c7 P w H' s'.heap /\
 fm B outer ex C .none s'.heap/\mP B (dH outer) H H' s.heap/\E C none H'
section
variable{B h h1 h':wQ}{fs:List we}{H H':Hp}{P:wS}{w:wW}
theorem mP.un(ov:mP B fs H H' h)(un:Un fs [] H H' h h1)(hfs:∀b∈fs,H b=none /\ ∃o,h.get? b=some o /\ ∀vs,o.data≠.fields vs)(st:B.StaysIn h')(sm:h1.UpToSlots h'):Un fs [] H H' h h':=by
 have slot:∀b o,h.get? b=some o->b∈fs->∃sl,h'.get? b=some {o with slots:=sl}:=λb o e hb=>by
  obtain⟨n,o',ho',nr⟩:=hfs b hb;rw[e]at ho';cases ho';obtain⟨sl,e1⟩:=un.any e n (by simp);obtain⟨sl2,e2⟩:=sm b _ e1 nr;exact⟨sl2,e2⟩
 refine⟨λb o e n nf _=>st b o (ov.old b o e n nf),λb o e _ hb _=>slot b o e hb,un.free,λb o e _=>?_,un.ib,un.gJ,un.h_⟩
 by_cases hb:b∈fs
 ·obtain⟨sl,e1⟩:=slot b o e hb
  exact⟨_,e1⟩
 ·obtain⟨u,e1⟩:=ov.p5 b o e hb
  exact⟨u,st b u e1⟩
theorem mP.aH(ov:mP B fs H H' h)(aH:c7 P w H' h1)(st1:B.StaysIn h1)(st:B.StaysIn h'):c7 P w H' h':=λa o e=>by
 refine(aH a o e).jR (λb u hb r=>?_) (λ_ z=>z) λ_ _ z=>z
 have:∃v,B.get? b=some v:=by
  rcases hb with rfl | hb
  ·exact ov.iZ _ _ e
  ·exact ov.iZ _ _ hb
 obtain⟨v,ev⟩:=this;have e2:=st1 b v ev;rw[r]at e2;cases e2;exact st b u ev
end
section
variable{X:Cx}{pins:List (we × Obj)}{σ : St}{H H':Hp}{s s':wm}{B:wQ}{ex:we}{C:wg}{E:XK}{E':wg->wm->Prop}
theorem OY(I:Inv X pins σ H s)(hx:X.ex=[])(os:s'.os=s.os)(bare:AllBare s'.gens)(un:Un (dH X.stack) [] H H' s.heap s'.heap)(aH:c7 X.prog X.w H' s'.heap)(stB:B.StaysIn s'.heap)(ov:mP B (dH X.stack) H H' s.heap)
  (q:E C none H') (fly:∀(Q:Unit->wm->Prop),(∀h',fm B X.outer ex C .none h'->s'.heap.UpToSlots h'->Q () {s' with heap:=h'})->wA (model X.prog X.w) X.A (leaving X.env (.ref ex)) Q E' s') :
  wA (model X.prog X.w) X.A (leaving X.env (.ref ex)) (λ_ s''=>eT X.prog X.w X.outer X.H₀ X.s₀ E (.ref ex) s'') E' s':=by
 have base:Un X.fs [] X.H₀ H X.s₀.heap s.heap:=by have:=I.base;rwa[hx]at this
 have nL:∀b o,X.s₀.heap.get? b=some o->b ∉ X.fs->b ∉ dH X.stack:=λb o e n z=>by
  rcases wL.mp (I.lA b z)with r | r
  ·exact wT (w5 (wC e) I.ok.above) r
  ·exact n r
 have old:∀b o,X.s₀.heap.get? b=some o->X.H₀ b=none->b ∉ X.fs->B.get? b=some o:=λb o e n nf =>
  ov.old b o (base.keep b o e n nf (by simp)) (base.free b o e n (by simp)) (nL b o e nf)
 have p5:∀b o,X.s₀.heap.get? b=some o->b ∉ X.fs->∃u,B.get? b=some u:=λb o e nf=>by
  obtain⟨o',e1⟩:=base.there b o e (by simp);exact ov.p5 b o' e1 (nL b o e nf)
 refine fly _ λh' F sm=>⟨ex,C,H',B,rfl,os.trans I.os,bare,⟨λb o e n nf _=>F.st b o (old b o e n nf),λb o e n hb _=>?_,λb o e n _=>?_,λb o e _=>?_,λb xs e=>un.ib b xs (base.ib b xs e),
  λb o u e=>un.gJ b o u (base.gJ b o u e),λb ps e=>?_⟩,λa o e=>?_,F,⟨ov.iZ,old,p5⟩,q⟩
 ·obtain⟨sl,e1⟩:=base.slot b o e n hb (by simp)
  obtain⟨sl',e2⟩:=un.any e1 (base.free b o e n (by simp)) (by simp);obtain⟨_,o',ho',nr⟩:=I.ok.eK.mem hb;rw[e]at ho';cases ho';obtain⟨sl2,e3⟩:=sm b _ e2 nr;exact⟨sl2,e3⟩
 ·obtain⟨o',e1⟩:=base.there b o e (by simp)
  exact un.free b o' e1 (base.free b o e n (by simp)) (by simp)
 ·by_cases hb:b∈X.fs
  ·obtain⟨_,o',ho',nr⟩:=I.ok.eK.mem hb
   rw[e]at ho';cases ho';have n:X.H₀ b=none:=I.ok.iC b hb;obtain⟨sl,e1⟩:=base.slot b o e n hb (by simp);obtain⟨sl',e2⟩:=un.any e1 (base.free b o e n (by simp)) (by simp);obtain⟨sl2,e3⟩:=sm b _ e2 nr;exact⟨_,e3⟩
  ·obtain⟨u,e1⟩:=p5 b o e hb
   exact⟨u,F.st b u e1⟩
 ·obtain⟨m1,e1⟩:=base.h_ b ps e
  obtain⟨m2,e2⟩:=un.h_ b _ e1;exact⟨m1++m2,by rw[e2,xX]⟩
 ·refine(aH a o e).jR (λb u hb r=>?_) (λ_ z=>z) λ_ _ z=>z
  have:∃v,B.get? b=some v:=by
   rcases hb with rfl | hb
   ·exact ov.iZ _ _ e
   ·exact ov.iZ _ _ hb
  obtain⟨v,ev⟩:=this;have e2:=stB b v ev;rw[r]at e2;cases e2;exact F.st b u ev
theorem zwk{e:wg}(I:Inv X pins σ H s)(hx:X.ex=[])(hs:X.stack=X.env::X.outer)(hf:X.env.frame=some X.env.locals)(h:eT X.prog X.w X.stack H s E e s') :
  wA (model X.prog X.w) X.A (leaving X.env e) (λ_ s''=>eT X.prog X.w X.outer X.H₀ X.s₀ E e s'') E' s':=by
 obtain⟨ex,C,H',B,rfl,os,bare,un,aH,F,ov,q⟩:=h;rw[hs]at F;exact OY I hx os bare un aH F.st ov q λQ k=>F.leave (I.ok.frames.trans (congrArg some hs)) hf k
theorem ztW{h':wQ}{vs:List wg}(I:Inv X pins σ H s)(hx:X.ex=[])(hs:X.stack=X.env::X.outer)(hf:X.env.frame=some X.env.locals)(m:uu s.heap h' ex C vs)(q:E C none H) :
  wA (model X.prog X.w) X.A (leaving X.env (.ref ex)) (λ_ s''=>eT X.prog X.w X.outer X.H₀ X.s₀ E (.ref ex) s'') E' {s with heap:=h'}:=by
 obtain⟨B,hB⟩:∃B,B=XY s.heap (dH X.stack):=⟨_,rfl⟩;have hin:∀env∈X.stack,∀b,env.frame=some b->b∈dH X.stack:=λenv he b hb=>Qs.mpr ⟨env,he,hb⟩
 have frB:s.heap.FunFrames B X.stack:=by rw[hB];exact PySem.W.funFrames_hide I.stack hin
 have getB:∀{b o},s.heap.get? b=some o->b ∉ dH X.stack->B.get? b=some o:=λe n=>by rw[hB];exact xM _ e n
 have ofB:∀{b o},B.get? b=some o->s.heap.get? b=some o:=λr=>by rw[hB]at r;exact xW _ r
 have nfr:∀a o,H a=some o->a ∉ dH X.stack:=λa o e z=>by
  have:=I.sx a z;rw[e]at this;cases this
 obtain⟨t,he,_,_⟩:=m.there
 refine OY (B:=B) (s':={s with heap:=h'}) I hx rfl I.bare (Un.kept m.keeps) (I.aH.kept m.keeps) (λb o r=>m.keeps b o (ofB r))
  ⟨λa o e=>?_,λb o e _ nf=>getB e nf,λb o e nf=>⟨o,getB e nf⟩⟩ q λQ k=>?_
 ·obtain⟨u,e1⟩:=(I.aH a o e).there
  exact⟨u,getB e1 (nfr a o e)⟩
 ·rw[hs]at frB
  refine ztA (s:={s with heap:=h'}) (I.ok.frames.trans (congrArg some hs)) hf (λb o r=>m.keeps b o (ofB r)) (frB.of_keeps λb o hb _=>⟨o,m.keeps b o hb,rfl⟩) ⟨_,_,he,rfl,rfl,rfl,rfl,rfl,?_⟩ k;cases z:B.get? ex with
  | none=>rfl
  | some o =>
   have:=ofB z;rw[m.new]at this;cases this
end
theorem yc{P:wS}{w:wW}{K:wb}{mg:Str->Option wg}{base:wQ}{N:List Str}{qual:Str}{scope:Scope}{f:we}{cd:wg}{A:vb}{outer:List Env}{s:wm}{H:Hp}{E:XK} :
  nE (eT P w) (gU (eT P w) P w K mg base N qual scope f cd A outer s H E) E:=λpins σ H1 s1 e s' I h=>zwk I rfl rfl rfl h
def PQ(X:Cx)(C:wg)(E:XK):Prop:=∀(pins:List (we × Obj))(σ : St)(H:Hp)(s:wm)(h':wQ)(ex:we)(vs:List wg),Inv X pins σ H s->uu s.heap h' ex C vs->E C none H->X.xe (.ref ex) {s with heap:=h'}
theorem Ce{P:wS}{w:wW}{K:wb}{mg:Str->Option wg}{base:wQ}{N:List Str}{qual:Str}{scope:Scope}{f:we}{cd C:wg}{A:vb}{outer:List Env}{s:wm}{H:Hp}{E:XK} :
  PQ (gU (eT P w) P w K mg base N qual scope f cd A outer s H E) C E:=λpins σ H1 s1 h' ex vs I m q=>ztW I rfl rfl rfl m q
def lJ:List wg:=[.type "ValueError",.type "Exception",.type "BaseException",.type "object"]
theorem Z5{K:wb}{h:wQ}{C:we}{bmB:List wg}{newId:String}(X:K.In h)(q:W9 K C bmB newId=true) :
  ∃bm N nm qn bs hd sn sub ab col dd k0 k1 k2 k3 k5 mN,h.get? C=some (excClassObj nm qn C N bs bm hd sn sub ab col dd k0 k1 k2 k3 k5 newId)/\h.Ns N mN/\mN "__init__"=none/\OwnTail h bmB bm:=by
 unfold W9 at q
 split at q
 case h_2=>cases q
 rename_i dd cd sl ho
 split at q
 case h_2=>cases q
 rename_i C' bm k0 k1 k2 k3 n k5 hm hs;simp only[wZ,beq_iff_eq,W7]at q;obtain⟨⟨⟨⟨⟨rfl,rfl⟩,hdel⟩,ht⟩,aH⟩,hni⟩:=q;obtain⟨nm,bs,mro,ns,qn,hd,sn,sub,ab,col,del⟩:=cd;dsimp only at hm hdel aH hni;subst hm hdel
 have e:sl = #[k0,k1,k2,k3,some (.builtin n),k5]:=by
  cases sl;simp only at hs;rw[hs]
 subst e;exact⟨bm,ns,nm,qn,bs,hd,sn,sub,ab,col,dd,k0,k1,k2,k3,k5,_,X _ _ ho,.of_isNs (PySem.W.isNs_of_in X aH),PySem.W.nsMap_none_of_in X aH hni,PySem.W.tail_of_in X ht⟩
section
variable{X:Cx}{x:Str}{C:we}{E:XK}{e:Expr}{es:List Expr}{t:TA}{np cpos pos:Pos}
def Md(C:wg)(E:XK)(t:TA):TS:=λ_ σ H=>t σ H λvs H1=>vs.length<=ve/\E C none H1
theorem BG(q:W9 X.K C lJ "ValueError.__new__"=true)(hc:X.calm=true)(hg:Gl X x)(hm:X.mg x=some (.ref C))(Z:PQ X (.ref C) E)(ha:PA X (e::es) t)(hdb:(x == ("__debug__" : Str))=false:=by decide)
  (he:w8 (e::es) X.env=(false,eval e X.env)::w8 es X.env:=by rfl) (hpl:(VQ cpos (w8 es X.env)).any (·.1)=false:=by rfl) :
  PS X (.Raise (some (.Call (.Name x np) (e::es) [] cpos)) none pos) (Md (.ref C) E t):=by
 intro pins s σ H D I h;obtain⟨bm,N,nm,qn,bs,hd,sn,sub,ab,col,dd,k0,k1,k2,k3,k5,mN,hC,hN,hni,T⟩:=Z5 I.ok.mod.lB q
 refine wpAny_Raise_call_subU (C:=C) (nm:=nm) (q:=qn) (N:=N) (bs:=bs) (bm:=bm) (hdct:=hd) (sn:=sn) (sub:=sub) (ab:=ab) (col:=col) (dd:=dd) (k0:=k0) (k1:=k1) (k2:=k2) (k3:=k3) (k5:=k5)
  xD (by decide) xD (mN:=mN) (T.hasType (by decide)) (I.ok.hd hc) (by rw[he];show(false || (VQ cpos (w8 es X.env)).any (·.1))=false;rw[hpl];rfl) hni (nX I hg hm ⟨rfl,?_⟩ hdb)
 have ha':=ha cpos pins s σ H _ I h;rw[he]at ha' ⊢;refine xA (Wr ha' (λus s2 ⟨vs,H2,I2,r,z,q2⟩=>⟨rfl,by rw[<- r.length];exact z,I2.bk _ _ hC,hN.keeps I2.bk,T.keeps I2.bk,λh' ex m=>Z pins σ H2 s2 h' ex us I2 m q2⟩) λ_ _ y=>y)
end
abbrev Cx.at(X:Cx)(pn:List (we × Obj))(E:wg->wm->Prop):Cx:={X with pn:=pn,xe:=E}
abbrev Cx.oN(X:Cx)(pn:List (we × Obj))(ex:we)(oe:Obj):Cx:={X with pn:=pn++[(ex,oe)],xe:=λ_ _=>False,A:=X.A.mark (some (.ref ex)),calm:=false}
section
variable{X:Cx}{pins pins':List (we × Obj)}{σ : St}{H:Hp}{s:wm}{ex:we}{oe:Obj}
theorem Inv.YA(I:Inv X pins σ H s)(E:wg->wm->Prop):Inv (X.at (X.pn++pins) E) [] σ H s :=
 ⟨⟨I.ok.mod,I.ok.kind,I.ok.glob,I.ok.blt,I.ok.above,I.ok.inj,I.ok.has,I.ok.jU,I.ok.hd,I.ok.frames,I.ok.kR,I.ok.ny,I.ok.bs,I.ok.gX,I.ok.jQ,I.ok.ky,I.ok.eK,I.ok.iC⟩,I.os,I.bare,I.base,I.loc,I.cell,I.free,I.fC,
  λp hp=>I.pin p (by rw[Wc]at hp;exact hp),I.aH,I.len⟩
theorem Inv.oP{E:wg->wm->Prop}(I:Inv (X.at (X.pn++pins) E) pins' σ H s):Inv X pins σ H s :=
 ⟨⟨I.ok.mod,I.ok.kind,I.ok.glob,I.ok.blt,I.ok.above,I.ok.inj,I.ok.has,I.ok.jU,I.ok.hd,I.ok.frames,I.ok.kR,I.ok.ny,I.ok.bs,I.ok.gX,I.ok.jQ,I.ok.ky,I.ok.eK,I.ok.iC⟩,I.os,I.bare,I.base,I.loc,I.cell,I.free,I.fC,
  λp hp=>I.pin p (Wh _ hp),I.aH,I.len⟩
theorem Inv.Yq(I:Inv X pins σ H s)(he:s.heap.get? ex=some oe)(hn:H ex=none)(nl:ex≠X.env.locals)(nf:ex ∉ X.fs)(nc:∀v,oe.data≠.cell v):Inv (X.oN (X.pn++pins) ex oe) [] σ H s :=
 ⟨⟨I.ok.mod,I.ok.kind,I.ok.glob,I.ok.blt,I.ok.above,I.ok.inj,I.ok.has,I.ok.jU,λz=>XQ z,I.ok.frames,I.ok.kR,I.ok.ny,I.ok.bs,I.ok.gX,I.ok.jQ,I.ok.ky,I.ok.eK,I.ok.iC⟩,I.os,I.bare,I.base,I.loc,I.cell,I.free,I.fC,
  λp hp=>by
   rw[Wc]at hp;rcases vW.mp hp with z | z
   ·exact I.pin p z
   ·cases wY.mp z
    exact⟨he,hn,nl,nf,nc⟩,I.aH,I.len⟩
theorem Inv.sE(ok:X.Ok)(I:Inv (X.oN (X.pn++pins) ex oe) pins' σ H s):Inv X pins σ H s :=
 ⟨ok,I.os,I.bare,I.base,I.loc,I.cell,I.free,I.fC,λp hp=>I.pin p (Wh _ (Wh _ hp)),I.aH,I.len⟩
theorem Inv.gone{M:Model}{A:vb}{E:wg->wm->Prop}{Q:Unit->wm->Prop}{i:Nat}{n:Str}{hp:Pos}(I:Inv X pins σ H s)(hN:X.N.Nodup)(hi:X.N[i]? = some n)(hl:X.env.scope.names.lookup n=some .local)
  (k:∀s',Inv X pins (σ.set i none) H s'->Q () s'):wA M A (do bindName X.env n .none;unbindBehindTheSuite X.env n hp) Q E s:=by
 obtain⟨m,hn,hl'⟩:=id I.loc;have hcls:(X.env.scope.kind == .class || (X.env.scope.kind == .module&&X.env.locals != X.env.globals))=false:=by rw[I.ok.kind];rfl
 have lt:∀b o,X.s₀.heap.get? b=some o->b≠X.env.locals:=λb o e=>wT (w5 (wC e) I.ok.above)
 refine wpAny_nameGoes_keeps hl hn hcls λh' v hn' hs=>k _ ⟨I.ok,I.os,I.bare,⟨λb o e z hb hx=>?_,λb o e z hb hx=>?_,I.base.free,λb o e hx=>?_,I.base.ib,I.base.gJ,I.base.h_⟩,⟨_,hn',λj y v' e1 e2 e3=>?_⟩,λy c e=>?_,I.free,I.fC,λp hp=>?_,λb ob e=>?_,?_⟩
 ·exact(hs.2 b (lt b o e)).trans (I.base.keep b o e z hb hx)
 ·obtain⟨sl,e1⟩:=I.base.slot b o e z hb hx
  exact⟨sl,(hs.2 b (lt b o e)).trans e1⟩
 ·obtain⟨o',e1⟩:=I.base.there b o e hx
  exact⟨o',(hs.2 b (lt b o e)).trans e1⟩
 ·have hj:j≠i:=λz=>by
   subst z;rw[W6]at e2
   split at e2
   ·split at e2<;>cases e2
   ·exact absurd rfl ‹_›
  rw[qc (Wj hj)]at e2;obtain⟨u',r',q⟩:=hl' j y v' e1 e2 e3;refine⟨u',r',?_⟩;rcases q with⟨k,e⟩ | ⟨k,c,e,z⟩
  ·refine .inl ⟨k,?_⟩
   have ne:y≠n:=λe=>hj (Cn hN e1 (e ▸ hi))
   simp[ne,e]
  ·exact .inr ⟨k,c,e,z.sameBut hs (I.jC y c e)⟩
 ·obtain⟨w',z⟩:=I.cell y c e
  exact⟨w',z.sameBut hs (I.jC y c e)⟩
 ·obtain⟨e,z,ne,nf,d⟩:=I.pin p hp
  exact⟨(hs.2 p.1 ne).trans e,z,ne,nf,d⟩
 ·refine(I.aH b ob e).jR (λc w' hc q=>(hs.2 c ?_).trans q) (λ_ q=>q) λ_ _ q=>q
  rintro rfl;have f:=I.free;rcases hc with hc | hc
  ·rw[hc,e]at f;cases f
  ·rw[hc]at f;cases f
 ·rw[WP];exact I.len
end
def Sk(CX:fR)(X:Cx)(W:St->XK):Prop:=∀(pins:List (we × Obj))(σ : St)(H:Hp)(s:wm)(e:wg)(s':wm),Inv X pins σ H s->CX X.stack H s (W σ) e s'->X.xe e s'
def BZ(sp:Sp)(W:St->XK)(t:TA):TE:=λσ H Q=>t σ H λvs H1=>sp vs H1 Q (W σ)
section
variable{X:Cx}{CX:fR}{k:Nat}{f:we}{fd:wE}{ps:List Str}{sp:Sp}{W:St->XK}{x:Str}{p pos:Pos}{e:Expr}{es:List Expr}{t:TA}
theorem zzl(F:aP X.prog X.w X.K X.mg X.base CX k f fd ps sp)(hr:dP k X.A)(hg:Gl X x)(hm:X.mg x=some (.ref f))(hk:V7 X.K (.ref f)=true)(hb:k8 X.K fd ps [])(hx:Sk CX X W)
  (ha:PA X (e::es) t) (hdb:(x == ("__debug__" : Str))=false:=by decide) (he:w8 (e::es) X.env=(false,eval e X.env)::w8 es X.env:=by rfl) (hpl:(VQ pos (w8 es X.env)).any (·.1)=false:=by rfl) :
  PE X (.Call (.Name x p) (e::es) [] pos) (BZ sp W t):=by
 intro pins s σ H Q I h;refine V1 (nX I hg hm ?_ hdb);refine Qu (h₀:=X.base) I.ok.mod.lB hk (aI (ha pos pins s σ H _ I h) λus s1 ⟨vs,H1,I1,r,q⟩=>⟨I1.c9,?_⟩) he hpl;have hl:us.length=ps.length:=by rw[<- r.length];exact F.len _ _ _ _ q
 have hbd:BindsTo s1 fd ⟨us,[]⟩ (ps.zip us):=by simpa using hb s1 us I1.c9 (by simpa using hl)
 refine wpAny_call (codeAny_mono (F.run X.A X.stack s1 H1 ⟨us,[]⟩ us vs Q (W σ) hr I1.BA hbd r q) λr s' hq=>?_);cases r with
 | error e=>exact hx pins σ H1 s1 e s' I1 hq
 | ok fl =>
  cases fl with
  | ret u=>exact I1.after hq
  | next=>exact Wp hq
  | brk=>exact Wp hq
  | cont=>exact Wp hq
end
def NG(K:wb)(G:wg)(i:Nat)(tb:(St->XK)->TS)(th:we->wg->TS):TS:=λD σ H=>∃W:St->XK,tb W D σ H /\ ∀σ' C o H',W σ' C o H'->Vh K C G=some true /\
 ∀ex,H' ex=none->th ex C {nx:=λσ2 H2=>D.nx (σ2.set i none) H2,rt:=D.rt,bk:=λσ2 H2=>D.bk (σ2.set i none) H2,ct:=λσ2 H2=>D.ct (σ2.set i none) H2} (σ'.set i (some (.ref ex))) H'
structure z5(C:wg)(oe:Obj):Prop where
 cls:oe.cls=C
 fld:∃vs,oe.data=.fields vs/\vs[2]? = some .none
 dict:oe.dict=none
section
variable{X:Cx}{x n:Str}{G:wg}{i:Nat}{b₀ : vc}{body suite:List vc}{np hpos pos:Pos}{tb:(St->XK)->TS}{th:we->wg->TS}
theorem zDl(hs:X.stack=X.env::X.outer)(hf:X.env.frame=some X.env.locals)(hN:X.N.Nodup)(hi:X.N[i]? = some n)(hl:X.env.scope.names.lookup n=some .local)(hg:Gl X x)(hG:X.mg x=some G)
  (hb:∀(W:St->XK)(pn:List (we × Obj))(E':wg->wm->Prop),Sk (eT X.prog X.w) (X.at pn E') W->fv (X.at pn E') body (tb W))
  (hh:∀(pn:List (we × Obj))(ex:we)(C:wg)(oe:Obj),z5 C oe->fv (X.oN pn ex oe) (b₀ :: suite) (th ex C)) (hdb:(x == ("__debug__" : Str))=false:=by decide) :
  PS X (.Try body [.ExceptHandler (some (.Name x np)) (some n) (b₀ :: suite) hpos] [] [] pos) (NG X.K G i tb th):=by
 intro pins s σ H D I h;obtain⟨W,hB,hH⟩:=h;refine wpAny_Try_except ?_;have I':=I.YA λe s1=>∃σ1 H1 s0,Inv X pins σ1 H1 s0/\eT X.prog X.w X.stack H1 s0 (W σ1) e s1
 have key:=hb W (X.pn++pins) (λe s1=>∃σ1 H1 s0,Inv X pins σ1 H1 s0/\eT X.prog X.w X.stack H1 s0 (W σ1) e s1) (λpins1 σ1 H1 s0 e s1 I1 q=>⟨σ1,H1,s0,I1.oP,q⟩) [] s σ H D I' hB;refine Wr key (λf s1 hq=>?_) λe s1 he=>?_
 ·cases f with
  | next=>obtain⟨σ',H',J,q⟩:=hq;exact qx ⟨σ',H',J.oP,q⟩
  | brk=>obtain⟨σ',H',J,q⟩:=hq;exact⟨σ',H',J.oP,q⟩
  | cont=>obtain⟨σ',H',J,q⟩:=hq;exact⟨σ',H',J.oP,q⟩
  | ret u=>obtain⟨v,σ',H',J,r,q⟩:=hq;exact⟨v,σ',H',J.oP,r,q⟩
 obtain⟨σ1,H1,s0,I1,ex,C,H',B,rfl,os,bare,un,aH,F,ov,q⟩:=he;obtain⟨hm,hS⟩:=hH σ1 C none H' q;have hfs:∀b∈dH X.stack,H1 b=none /\ ∃o,s0.heap.get? b=some o /\ ∀vs,o.data≠.fields vs:=λb hb=>⟨I1.sx b hb,(I1.stack.mem hb).2⟩
 have hfr:=I.ok.frames.trans (congrArg some hs)
 have hex:H' ex=none:=by
  obtain⟨_,_,_,_,_,_,_,_,_,_,_,_,_,be,_⟩:=F;cases z:H' ex with
  | none=>rfl
  | some o =>
   obtain⟨u,e1⟩:=ov.iZ ex o z;rw[be]at e1;cases e1
 have st1:=F.st;rw[hs]at F
 have exc:∀{h4:wQ},fm B (X.env::X.outer) ex C .none h4->s1.heap.UpToSlots h4->∃oe,h4.get? ex=some oe/\z5 C oe/\Inv (X.oN (X.pn++pins) ex oe) [] σ1 H' {s1 with heap:=h4}:=λ{h4} F4 sm=>by
  have J:Inv X pins σ1 H' {s1 with heap:=h4}:=I1.JO (s':={s1 with heap:=h4}) (ch:=[]) os (ov.un un hfs F4.st sm) (ov.aH aH st1 F4.st) bare (λ_ z=>nomatch z);obtain⟨_,_,oe,vs,T,oT,ts,he,hc,hd,h1,h2,hdi,_⟩:=F4;refine⟨oe,he,⟨hc,⟨vs,hd,h2⟩,hdi⟩,J.Yq he hex (λz=>?_) (λz=>?_) λv z=>?_⟩
  ·obtain⟨m,⟨o,es,ep,ho,hdd,_⟩,_⟩:=J.loc
   rw[<- z]at ho;have:(some oe:Option Obj)=some o:=he.symm.trans ho;cases this;rw[hd]at hdd;cases hdd
  ·obtain⟨_,o,ho,nr⟩:=J.eK.mem z
   have:(some oe:Option Obj)=some o:=he.symm.trans ho;cases this;exact nr vs hd
  ·rw[hd]at z;cases z
 refine F.note hfr hf λh2 F2 sm2=>F2.land λh3 F3 sm3=>?_
 obtain⟨oe3,g3,x3,K3⟩:=exc F3 (sm2.trans sm3);refine wpAny_handleBy_cons (codeAny_handlers_test (nX K3 hg hG ?_ hdb)) (by intro z;cases z);have LT:QI (model X.prog X.w) h3 (typeOf (.ref ex)) C:=x3.cls ▸ (uS g3).andThen .now;refine(PySem.W.exm_one (h:=h3) K3.c9 LT hm).here ?_;refine codeAny_handlers_suite_as ?_;refine F3.land λh4 F4 sm4=>?_
 obtain⟨oe,g4,x4,K4⟩:=exc F4 ((sm2.trans sm3).trans sm4);refine nH (X:=X.oN (X.pn++pins) ex oe) K4 hN hi (.inl hl) (v:=.ref ex) rfl (λs5 K5=>?_) (.inr hl);refine Wr (hh _ ex C oe x4 [] s5 _ H' _ K5 (hS ex hex)) (λf s6 h6=>?_) λ_ _ z=>z.elim
 show wA (model X.prog X.w) X.A (do bindName X.env n .none;unbindBehindTheSuite X.env n hpos) _ _ _
 cases f with
 | next=>obtain⟨σ',H6,J,q6⟩:=h6;exact(J.sE I.ok).gone hN hi hl λs7 J7=>⟨_,H6,J7,q6⟩
 | brk=>obtain⟨σ',H6,J,q6⟩:=h6;exact(J.sE I.ok).gone hN hi hl λs7 J7=>⟨_,H6,J7,q6⟩
 | cont=>obtain⟨σ',H6,J,q6⟩:=h6;exact(J.sE I.ok).gone hN hi hl λs7 J7=>⟨_,H6,J7,q6⟩
 | ret u=>obtain⟨v,σ',H6,J,r,q6⟩:=h6;exact(J.sE I.ok).gone hN hi hl λs7 J7=>⟨v,_,H6,J7,r,q6⟩
end
structure gB(k:Nat)(A:vb):Prop where
 dp:A.depth+3*k+5<recursionLimit
 un:A.units+16*k+200<WM
theorem gB.mono{j k:Nat}{A:vb}(r:gB k A)(h:j<=k):gB j A:=⟨by have:=r.dp;lia,by have:=r.un;lia⟩
theorem gB.deeper{k:Nat}{A:vb}(r:gB (k+1) A)(env:Env):gB k (A.deeper env) :=
 ⟨by have:=r.dp;show A.depth+1+3*k+5<_;lia,by have:=r.un;show A.units+3+16*k+200<_;lia⟩
theorem dP.marked{k:Nat}{A:vb}(r:dP k A)(v:Option wg):gB k (A.mark v):=⟨r.dp,r.un⟩
theorem gB.depth{k:Nat}{A:vb}(r:gB k A):A.depth<recursionLimit:=by have:=r.dp;lia
theorem gB.units{k:Nat}{A:vb}(r:gB k A):A.units+64<WM:=by have:=r.un;lia
structure Fx(P:wS)(w:wW)(K:wb)(mg:Str->Option wg)(base:wQ)(k:Nat)(f:we)(fd:wE)(ps:List Str)(sp:we->wg->Sp):Prop where
 len:∀ex C vs H Q E,sp ex C vs H Q E->vs.length=ps.length
 run:∀(A:vb)(outer:List Env)(s:wm)(H:Hp)(args:Args)(us:List wg)(vs:List V)(Q:VK)(E:XK)(ex:we)(C:wg)(oe:Obj),gB k A->A.handled=some (.ref ex)->s.heap.get? ex=some oe->z5 C oe->H ex=none->ex ∉ dH outer ->
   pZ P w K mg base A outer s H->BindsTo s fd args (ps.zip us)->aT vs us->sp ex C vs H Q E->codeAny (model P w) A (.call (.ref f) args) (CR aS outer P w H s Q E) s
def q_(P:wS)(w:wW)(K:wb)(mg:Str->Option wg)(base:wQ)(N:List Str)(qual:Str)(scope:Scope)(f:we)(cd:wg)(A:vb)(outer:List Env)(s:wm)(H:Hp)(ex:we)(oe:Obj):Cx :=
 {gU aS P w K mg base N qual scope f cd A outer s H E0 with calm:=false,pn:=[(ex,oe)],xe:=λ_ _=>False}
structure Hd(X:Cx)(ex:we)(C:wg)(oe:Obj):Prop where
 hd:X.A.handled=some (.ref ex)
 pn:(ex,oe)∈X.pn
 ob:z5 C oe
section
variable{P:wS}{w:wW}{K:wb}{mg:Str->Option wg}{base:wQ}
theorem jD.okH{x qual:Str}{st:vc}{f:we}{fd:wE}{N ps:List Str}{k:Nat}{sp:we->wg->Sp}(F:jD K x qual st f fd)(S:aQ N ps (aA st))(len:∀ex C vs H Q E,sp ex C vs H Q E->vs.length=ps.length)
  (hbody:∀(cdv:wg)(A:vb)(outer:List Env)(s:wm)(H:Hp)(vs:List V)(Q:VK)(E:XK)(ex:we)(C:wg)(oe:Obj),gB k (A.deeper (envOfC qual (aA st) s.heap.objs.size f cdv))->Hd (q_ P w K mg base N qual (aA st) f cdv A outer s H ex oe) ex C oe->sp ex C vs H Q E ->
   ∃t,fv (q_ P w K mg base N qual (aA st) f cdv A outer s H ex oe) (jX st) t/\t {nx:=λ_ H'=>Q .bX H',rt:=Q} (start N vs) H):Fx P w K mg base (k+1) f fd ps sp:=by
 obtain⟨oc,od,kV,doc,pm,an,cdv,ct,osl,rfl,lk,hcd⟩:=F.ex;refine⟨len,λA outer s H args us vs Q E ex C oe hr hhd hat hob hfree hnf e0 hb r hsp=>?_⟩;have hl:=len _ _ _ _ _ _ hsp;have KX:K.In s.heap:=e0.mod.lB.keeps λb o e=>(e0.bs b o e).1
 have lim:s.heap.NoLimit:=e0.mod.nolimit.keeps λb o e=>(e0.bs b o e).1
 have hkind:∀y∈ps.zip us,(aA st).names.lookup y.1=some .local\/((aA st).names.lookup y.1=some .cell/\((cellsFrom (s.heap.objs.size+1) (aA st).names []).lookup y.1).isSome=true):=λ⟨n,v⟩ hy =>
  (S.par n (Qa hy).1).elim .inl λq=>.inr ⟨q,qR _ _ _ (.inl q)⟩
 refine codeAny_call_function hr.depth (KX _ _ lk) rfl S.co S.gen rfl (xY KX hcd) (hb _ _ _ _ ?_);refine wpAny_newFunctionEnv_cells S.kind hkind λenv he s1 x=>?_
 subst he;refine⟨lim.keeps x.toInCall.keep,codeAny_func ?_⟩;have hA:(A.deeper (envOfC qual (aA st) s.heap.objs.size f cdv)).handled=some (.ref ex):=hhd;obtain⟨t,ht,hq⟩:=hbody cdv A outer s H vs Q E ex C oe (hr.deeper _) ⟨hA,wY.mpr rfl,hob⟩ hsp
 -- the start,as if nothing was handled;then the pin
 have I0:Inv (gU aS P w K mg base N qual (aA st) f cdv {A with handled:=none} outer s H E0) [] (start N vs) H s1:=N1 S rfl ⟨e0.frames,e0.mod,e0.bs,e0.gX,e0.eK,e0.iC,e0.aH,e0.bare⟩ hl r x;obtain⟨h1,tk,rfl,hk⟩:=x.done
 have I:Inv (q_ P w K mg base N qual (aA st) f cdv A outer s H ex oe) [] (start N vs) H {s with heap:=h1,toks:=tk} :=
  ⟨⟨I0.ok.mod,I0.ok.kind,I0.ok.glob,I0.ok.blt,I0.ok.above,I0.ok.inj,I0.ok.has,I0.ok.jU,λz=>XQ z,xy e0.frames,I0.ok.kR,I0.ok.ny,I0.ok.bs,I0.ok.gX,I0.ok.jQ,I0.ok.ky,I0.ok.eK,I0.ok.iC⟩,I0.os,I0.bare,I0.base,I0.loc,I0.cell,I0.free,I0.fC,
   λp hp=>by
    cases wY.mp (show p∈[(ex,oe)] by rw[Wc]at hp;exact hp);obtain⟨vs',hd,_⟩:=hob.fld;exact⟨hk _ _ hat,hfree,wT (wC hat),hnf,λv z=>by rw[hd]at z;cases z⟩,I0.aH,I0.len⟩
 refine Wr (ht [] _ (start N vs) H _ I hq) (λfl s' hs=>?_) λe s' hs=>hs.elim
 have fin:∀{σ':St}{H':Hp}{v:V}{u:wg},Inv (q_ P w K mg base N qual (aA st) f cdv A outer s H ex oe) [] σ' H' s'->bC v u->Q v H'->CE outer P w H s Q u s' :=
  λ{σ' H' v u} J rv q=>⟨v,H',J.os,J.bare,J.base,J.aH,rv,q⟩
 cases fl with
 | ret u=>obtain⟨v,σ',H',J,rv,q⟩:=hs;exact fin J rv q
 | next=>obtain⟨σ',H',J,q⟩:=hs;exact fin (v:=V.bX) (u:=Value.none) J rfl q
 | brk=>obtain⟨_,_,_,q⟩:=hs;exact Wp q
 | cont=>obtain⟨_,_,_,q⟩:=hs;exact Wp q
end
section
variable{X:Cx}{k:Nat}{f:we}{fd:wE}{ps:List Str}{sp:we->wg->Sp}{x:Str}{p pos:Pos}{e:Expr}{es:List Expr}{t:TA}{ex:we}{C:wg}{oe:Obj}
theorem zyf(F:Fx X.prog X.w X.K X.mg X.base k f fd ps sp)(hr:gB k X.A)(hd:Hd X ex C oe)(hg:Gl X x)(hm:X.mg x=some (.ref f))(hk:V7 X.K (.ref f)=true)(hb:k8 X.K fd ps [])
  (ha:PA X (e::es) t) (hdb:(x == ("__debug__" : Str))=false:=by decide) (he:w8 (e::es) X.env=(false,eval e X.env)::w8 es X.env:=by rfl) (hpl:(VQ pos (w8 es X.env)).any (·.1)=false:=by rfl) :
  PE X (.Call (.Name x p) (e::es) [] pos) (l8 (sp ex C) [] E0 t):=by
 intro pins s σ H Q I h;refine V1 (nX I hg hm ?_ hdb);refine Qu (h₀:=X.base) I.ok.mod.lB hk (aI (ha pos pins s σ H _ I h) λus s1 ⟨vs,H1,I1,r,q⟩=>⟨I1.c9,?_⟩) he hpl;have q:sp ex C vs H1 Q E0:=by simpa using q
 have hl:us.length=ps.length:=by rw[<- r.length];exact F.len _ _ _ _ _ _ q
 have hbd:BindsTo s1 fd ⟨us,[]⟩ (ps.zip us):=by simpa using hb s1 us I1.c9 (by simpa using hl)
 obtain⟨p1,p2,p3,p4,_⟩:=I1.pin (ex,oe) (Wh _ hd.pn);have hns:ex ∉ dH X.stack:=λz=>(wL.mp (I1.lA ex z)).elim p3 p4
 refine wpAny_call (codeAny_mono (F.run X.A X.stack s1 H1 ⟨us,[]⟩ us vs Q E0 ex C oe hr hd.hd p1 hd.ob p2 hns I1.BA hbd r q) λr s' hq=>?_);cases r with
 | error e=>exact hq.elim
 | ok fl =>
  cases fl with
  | ret u=>exact I1.after hq
  | next=>exact Wp hq
  | brk=>exact Wp hq
  | cont=>exact Wp hq
end
def iG(cells:List (Str × we)):List (Str × WW)->List (Str × we)->List (Str × we)
 | [],acc=>acc
 | (n,k)::r,acc=>iG cells r (if(k == NameKind.free)=true then(n,(cells.lookup n).getD 0)::acc else acc)
theorem zlx{scope:Scope}{env:Env}(h:∀y∈scope.names,y.2=.free->∃c,env.cells.lookup y.1=some c):closureFor scope env=pure (iG env.cells scope.names []):=by
 unfold closureFor;generalize scope.names=names at h
 suffices g:∀(names:List (Str × WW))(acc:List (Str × we)),(∀y∈names,y.2=.free->∃c,env.cells.lookup y.1=some c) ->
     (forIn names acc λ(x:Str × WW)(r:List (Str × we))=>if(x.2 == NameKind.free)=true then do let c <- cellOf env x.1;pure (ForInStep.yield ((x.1,c)::r))else pure (ForInStep.yield r):Sem (List (Str × we)))=pure (iG env.cells names acc) by
   have:=g names [] h
   show(_ >>= pure)=_
   rw[bind_pure];exact this
 intro names
 induction names with
 | nil=>intro acc _;rfl
 | cons y r ih =>
   intro acc hy;obtain⟨n,k⟩:=y;rw[qw]
   by_cases e:(k == NameKind.free)=true
   . obtain⟨c,hc⟩:=hy (n,k) wG (beq_iff_eq.mp e)
     have hcell:cellOf env n=pure c:=by
       unfold cellOf;rw[hc]
     simp only[e,if_true,hcell,pure_bind];rw[ih _ λz hz=>hy z (wF _ hz)]
     show _=pure (iG env.cells r _)
     simp only[e,if_true,hc,qY]
   . simp only[e,pure_bind]
     rw[if_neg (by simp),pure_bind];dsimp only;rw[ih _ λz hz=>hy z (wF _ hz)]
     show _=pure (iG env.cells r _)
     rw[if_neg e]
theorem Oz{cells:List (Str × we)} : ∀(names:List (Str × WW))(acc:List (Str × we))(x:Str)(c:we),(∀y∈names,y.2=.free->∃c,cells.lookup y.1=some c)->(∀x c,acc.lookup x=some c->cells.lookup x=some c) ->
  (iG cells names acc).lookup x=some c->cells.lookup x=some c
 | [],acc,x,c,_,ha,h=>ha x c h
 | (n,k)::r,acc,x,c,hy,ha,h=>by
  unfold iG at h;refine Oz r _ x c (λz hz=>hy z (wF _ hz)) (λx' c' h'=>?_) h
  split at h'
  ·rename_i e
   obtain⟨c0,hc0⟩:=hy (n,k) wG (beq_iff_eq.mp e);rw[qg]at h'
   split at h'
   ·rename_i e2
    rw[beq_iff_eq.mp e2,hc0];rw[hc0]at h';exact h'
   ·exact ha x' c' h'
  ·exact ha x' c' h'
theorem O1{cells:List (Str × we)} : ∀(names:List (Str × WW))(acc:List (Str × we))(x:Str),(∃c,acc.lookup x=some c)->∃c,(iG cells names acc).lookup x=some c
 | [],acc,x,h=>h
 | (n,k)::r,acc,x,h=>by
  unfold iG;refine O1 r _ x ?_
  split
  ·rw[qg]
   split
   ·exact⟨_,rfl⟩
   ·exact h
  ·exact h
theorem ME{cells:List (Str × we)} : ∀(names:List (Str × WW))(acc:List (Str × we))(x:Str),(x,NameKind.free)∈names->∃c,(iG cells names acc).lookup x=some c
 | [],acc,x,h=>nomatch h
 | (n,k)::r,acc,x,h=>by
  unfold iG;rcases wL.mp h with e | e
  ·cases e
   rw[if_pos (by decide)];refine O1 r _ _ ?_;rw[qg];simp
  ·exact ME r _ x e
theorem Km(g:Str->WW->WW):∀(names:List (Str × WW))(x:Str),(names.map λy=>(y.1,g y.1 y.2)).lookup x=(names.lookup x).map (g x)
 | [],x=>rfl
 | (n,k)::r,x=>by
  rw[va,qg,qg];dsimp only
  by_cases e:(x == n)=true
  ·have e':=beq_iff_eq.mp e
   subst e';simp
  ·rw[XR]at e
   simp only[e];exact Km g r x
def za(env:Env)(x:Str)(k:WW):WW:=if(k == .free&&env.scope.kind == .function&&env.kindOf x == some .cell)=true then .cell else k
theorem P9{scope:Scope}{env:Env}(x:Str):(relabel scope env).names.lookup x=(scope.names.lookup x).map (za env x):=by
 rw[<- Km]
 show(scope.names.map _).lookup x=_
 congr 2
 funext ⟨n,k⟩
 dsimp only[za]
 split<;>rfl
def cN(inner outer:List (Str × WW))(N N':List Str)(src:List (Option Nat)):Bool :=
 (inner.all λy=>(y.2 != .cell)&&(y.2 != .local || inner.lookup y.1 == some .local)&&(y.2 != .free || outer.lookup y.1 == some .cell)) &&
 (N'.length == src.length)&&((N'.zip src).all λp=>match p.2 with
  | none=>true
  | some j=>N[j]? == some p.1&&outer.lookup p.1 == some .cell&&inner.lookup p.1 == some .free)
theorem cv.by{X:Cx}{N':List Str}{scope:Scope}{src:List (Option Nat)}(hk:scope.kind=.function)(hc:cN scope.names X.env.scope.names X.N N' src=true)(hf:∀x,X.env.scope.names.lookup x=some .cell->∃c,X.env.cells.lookup x=some c:=by exact λx h=>Ey h) :
  cv X N' scope (iG X.env.cells scope.names []) src:=by
 unfold cN at hc;simp only[wZ,WE,beq_iff_eq,ub,bne_iff_ne,ne_eq]at hc;obtain⟨⟨h1,h2⟩,h3⟩:=hc;have fr:∀y∈scope.names,y.2=.free->∃c,X.env.cells.lookup y.1=some c:=λy hy e=>hf _ (((h1 y hy).2).elim (λz=>absurd e z) id)
 have at3:∀(i:Nat)(x:Str)(j:Nat),N'[i]? = some x->src[i]? = some (some j)->X.N[j]? = some x/\X.env.scope.names.lookup x=some .cell/\scope.names.lookup x=some .free:=λi x j e1 e2=>by
  have m:(x,some j)∈N'.zip src:=by
   rw[List.mem_iff_getElem?];exact⟨i,by rw[List.getElem?_zip_eq_some];exact⟨e1,e2⟩⟩
  have:=h3 _ m;simp only[wZ,beq_iff_eq]at this;exact⟨this.1.1,this.1.2,this.2⟩
 refine⟨hk,λy hy=>((h1 y hy).1).1,λy hy e=>(((h1 y hy).1).2).elim (λz=>absurd e z) id,⟨zlx fr,λx c e=>Oz _ _ x c fr (λ_ _ z=>by simp at z) e,λx e=>?_⟩,⟨h2,λi j x e1 e2=>⟨(at3 i x j e1 e2).1,(at3 i x j e1 e2).2.1⟩⟩,λi x e1 e2=>?_⟩
 ·rw[P9]at e
  cases q:scope.names.lookup x with
  | none=>rw[q]at e;simp at e
  | some k =>
   have hm:=Vd q
   have hk:k=.free:=by
    rw[q]at e;simp only[uc,QM,za]at e;have nc:k≠.cell:=((h1 _ hm).1).1;rcases e with e | e
    ·split at e
     ·rename_i z;simp only[wZ,beq_iff_eq]at z;exact z.1.1
     ·exact absurd e nc
    ·split at e
     ·cases e
     ·exact e
   subst hk;exact ME _ _ x hm
 ·obtain⟨o,ho⟩:∃o,src[i]? = some o:=by
   have:i<src.length:=by rw[<- h2];exact(WG.mp e1).1
   exact⟨src[i],by simp[this]⟩
  cases o with
  | none=>exact absurd ho e2
  | some j =>
   have:=(at3 i x j e1 ho).2.2;rw[P9,this];simp only[uc,QM,za]
   split
   ·exact .inl rfl
   ·exact .inr rfl
theorem zo3:entryFor table "proto.unchain"=some Builtin.«proto.unchain»:=by first | exact entryFor_of_fast (by kernel_rfl) | exact entryFor_of_tree (by kernel_rfl)
section
variable{prog:wS}{w:wW}{A:vb}{E:wg->wm->Prop}{s:wm}
theorem zoN{α : Type}{Q : α -> wm->Prop}{b ex:we}{ob oe:Obj}{bs vs:Array wg}(hh:A.handled=some (.ref ex))(hb:s.heap.get? b=some ob)(db:ob.data=.fields bs)(sz:2<bs.size)(he:s.heap.get? ex=some oe)
  (de:oe.data=.fields vs) (h2:vs[2]? = some .none) (ne:ex≠b) (k:E (.ref b) {s with heap:=s.heap.update b (qk (·.setIfInBounds 2 (.ref ex)))}):wA (model prog w) A (raiseNew (.ref b):Sem α) Q E s:=by
 have nb:(Value.ref ex != Value.ref b)=true:=by simp[ne]
 simp only[raiseNew];refine wf (wpAny_handled ?_);rw[hh];dsimp only;rw[if_pos nb];refine wf (vR (wpAny_runValue (codeAny_builtin zo3 ?_)));unfold Builtin.«proto.unchain»;dsimp only;refine wf (vi he de h2 ?_);rw[if_pos (by decide)];refine wf (wy (wy ?_));exact wf (Vj (x:=.ref ex) hb db sz (wpAny_throw k))
structure oU(A:vb)(h:wQ)(ex:we):Prop where
 hd:A.handled=some (.ref ex)
 ob:∃oe vs,h.get? ex=some oe/\oe.data=.fields vs/\vs[2]? = some .none
theorem Sm{α : Type}{ex:we}{R:wg->wm->Prop}{Q : α -> wm->Prop}(n:oU A s.heap ex)
  (k:∀b h',(∀c o,s.heap.get? c=some o->h'.get? c=some o)->({s with heap:=h'} : wm).TypeIs (.ref b) "StopIteration" -> R (.ref b) {s with heap:=h'}) :
  wA (model prog w) A (newExc (.type "StopIteration") [] >>= λe=>(raiseNew e:Sem α)) Q R s:=by
 obtain⟨hd,oe,vs,he,de,h2⟩:=n;refine wf ?_;simp only[newExc,newTuple];refine wf (Wo ?_ (by size_fits));refine wf (m:=firstArgMember _ _) (wpAny_of_eq (a:=Value.none) (by first | rfl | (simp only[firstArgMember];rfl)) ?_);refine Wo ?_ (by size_fits);have he2:=wp (h:=s.heap.push {cls:=.type "tuple",data:=.seq ([]:List wg).toArray}) {cls:=.type "StopIteration",data:=.fields (#[.ref s.heap.objs.size,.none,.none,.none,.bool false,.none]++ownMembersOf (.type "StopIteration") [])} (wp _ he);have lt:ex<s.heap.objs.size:=wC he;refine zoN hd (wK _ rfl) rfl (by simp[ownMembersOf]) he2 de h2 (by rw[WC];exact wT (VC lt)) (k _ _ (λc o q=>?_) ⟨_,Vs _ (wK _ rfl) rfl,rfl⟩);have:=wC q;rw[Wt _ _ (by rw[WC];exact vj (VC this))];exact wp _ (wp _ q)
theorem YZ{it l ex:we}{i:Nat}{items}{Q:Option wg->wm->Prop}(n:oU A s.heap ex)(hne:ex≠it)
  (hit:s.heap.IsListIter it l i) (hl:s.heap.IsList l items) (hx:items[i]? = none) (hQ:∀h',xi it s.heap h'->Q none {s with heap:=h'}):wA (model prog w) A (Ve (.ref it)) Q E s:=by
 obtain⟨o,ho,hc,hd⟩:=id hit;obtain⟨ol,hol,_,nl,hdl⟩:=hl;unfold Ve;refine wf (WF (wpAny_callSpecial?_slot (name:=vL "__next__") hit.typeIs slot_listiter_next (vQ slot_listiter_next hit.typeIs entry_listiter_next ?_ (args_listiter_next _))))
 show wA _ _ (field (.ref it) 0 >>= _) _ _ s
 refine wf (vi ho hd (x:=.ref l) rfl ?_);rw[if_neg (show ¬ ((Value.ref l == Value.none)=true)from vC)];refine wf (vi ho hd (x:=.int i 0) rfl (wf (Wk hol hdl ?_)));simp only[wU,hx];refine wf (V0 (wf (Vj ho hd (by simp) ?_)));obtain⟨hhd,oe,vs,he,de,h2⟩:=n;refine Sm (A:=A.in1) ⟨hhd,oe,vs,?_,de,h2⟩ λb h' kp ty=>?_
 ·show(V2 _ _ _).get? ex=_
  rw[Wt _ _ (Wj hne)];exact he
 refine wf (WL (T:="StopIteration") (b:=true) ty VI (wy (hQ h' λc o ne q=>kp c o ?_)))
 show(V2 _ _ _).get? c=_
 rw[Wt _ _ (Wj ne)];exact q
theorem zuT{it t ex:we}{i:Nat}{items}{Q:Option wg->wm->Prop}(n:oU A s.heap ex)(hne:ex≠it)
  (hit:IsTupIter s.heap it t i) (ht:IsTup s.heap t items) (hx:items[i]? = none) (hQ:∀h',xi it s.heap h'->Q none {s with heap:=h'}):wA (model prog w) A (Ve (.ref it)) Q E s:=by
 obtain⟨o,ho,hc,hd⟩:=id hit;obtain⟨ol,hol,_,nl,hdl⟩:=ht;unfold Ve;refine wf (WF (wpAny_callSpecial?_slot (name:=vL "__next__") hit.typeIs slot_tupleiter_next (vQ slot_tupleiter_next hit.typeIs entry_tupleiter_next ?_ (args_tupleiter_next _))))
 show wA _ _ (field (.ref it) 0 >>= _) _ _ s
 refine wf (vi ho hd (x:=.ref t) rfl ?_);rw[if_neg (show ¬ ((Value.ref t == Value.none)=true)from vC)];refine wf (vi ho hd (x:=.int i 0) rfl (wf (Wk hol hdl ?_)));simp only[wU,hx];refine wf (V0 (wf (Vj ho hd (by simp) ?_)));obtain⟨hhd,oe,vs,he,de,h2⟩:=n;refine Sm (A:=A.in1) ⟨hhd,oe,vs,?_,de,h2⟩ λb h' kp ty=>?_
 ·show(V2 _ _ _).get? ex=_
  rw[Wt _ _ (Wj hne)];exact he
 refine wf (WL (T:="StopIteration") (b:=true) ty VI (wy (hQ h' λc o ne q=>kp c o ?_)))
 show(V2 _ _ _).get? c=_
 rw[Wt _ _ (Wj ne)];exact q
theorem zAB{t ex:we}{items:Array wg}{Q:List wg->wm->Prop}(n:oU A s.heap ex)(ht:IsTup s.heap t items)
  (hQ:∀h',xi s.heap.objs.size s.heap h'->Q items.toList {s with heap:=h'}):wA (model prog w) A (unpackItems (.ref t) items.size none) Q E s:=by
 have hlt:t≠s.heap.objs.size:=by obtain⟨o,ho,_⟩:=ht;exact wT (wC ho)
 obtain⟨hhd,oe,vs,he,de,h2⟩:=n;have hxl:ex≠s.heap.objs.size:=wT (wC he);unfold unpackItems;refine wf ?_;unfold notIterableAtAll;refine wf (qz ht.typeIs slot_tuple_iter.lookup (wy ?_));simp only[vZ,if_false];refine wf (vR (iter_tuple ht (wf (vR (draw_tuple hlt items.size 0 _ _ ⟨_,wK _ rfl,rfl,rfl⟩ (ht.push _) (by lia) λh₁ hit₁ hs₁=>?_)))))
 have hall:List.take items.size (List.drop 0 items.toList)=items.toList:=by
  rw[xt];exact Vl (by simp)
 rw[hall,if_neg (by simp)];have ht₁ : IsTup h₁ t items:=(ht.push _).extBut hs₁.extBut hlt;refine wf (vR (zuT (ex:=ex) ⟨hhd,oe,vs,(hs₁.2 ex hxl).trans (wp _ he),de,h2⟩ hxl hit₁ ht₁ (by simp) λh₂ he₂=>?_));simp only[Option.isSome_none,vZ,if_false];exact wy (hQ h₂ λb o hb e=>he₂ b o hb (hs₁.extBut b o hb (wp _ e)))
end
section
variable{X:Cx}{ex:we}{C:wg}{oe:Obj}{pins:List (we × Obj)}{σ : St}{H:Hp}{s:wm}{pos:Pos}
theorem Hd.JL(hd:Hd X ex C oe)(I:Inv X pins σ H s):oU X.A s.heap ex:=by
 obtain⟨e,_⟩:=I.pin (ex,oe) (Wh _ hd.pn);obtain⟨vs,d,h2⟩:=hd.ob.fld;exact⟨hd.hd,oe,vs,e,d,h2⟩
theorem Hd.block(hd:Hd X ex C oe){N':List Str}{scope:Scope}{cl:List (Str × we)}{D:we}{s₀ : wm}{H₀ : Hp}{fp:List we} : Hd (dm X N' scope cl D s₀ H₀ fp pins) ex C oe:=⟨hd.hd,Wh _ hd.pn,hd.ob⟩
theorem Zf{es:List Expr}{k:Nat}{t:iN}{n:Nat}(hd:Hd X ex C oe)(h:nS X es t)
  (hn:(Vo es X.env).length=n:=by rfl) (hst:(Vo es X.env).findIdx? (·.1)=none:=by rfl):PG X (.Tuple es k pos) (iY X.K n t):=by
 intro pins s σ H v u Q I r hw;obtain⟨a,xs,e1,hq,hl,hw⟩:=hw;subst e1;cases r;obtain⟨its,rv,ht,hz⟩:=I.tuple hq;have hlen:(Vo es X.env).length=its.toArray.size:=by simp[hn,<- hl,rv.length]
 rw[assign_Tuple];refine wf (ql ?_);unfold unpack;rw[hlen,hst];refine wf (vR (zAB (hd.JL I) ht λh' hx=>?_));have I1:Inv X pins σ H {s with heap:=h'}:=I.kept (t':=s.toks) λb o e=>hx b o (wT (wC e)) e
 exact h pins _ σ H xs _ Q I1 (by simpa using rv) hw
theorem ztn{tg:Expr}(hd:Hd X ex C oe)(a it:we):uW X tg (iR X.K a) [it] it (λi h=>h.IsListIter it a i) where
 item:=by
  intro i pins s σ H E I hf st hg;obtain⟨xs,x,hq,hx⟩:=hg;obtain⟨its,rv,p,hz⟩:=I.list hq;obtain⟨u,hu,ru⟩:=rv.get hx;obtain⟨f0,f1,f2,f3,f4,f5⟩:=hf it (by simp);refine wpAny_pyNext_list_item st p.isList (x:=u) (by simpa using hu) λh' st' sb=>?_
  have I1:Inv X pins σ H {s with heap:=h'}:=I.turned (t':=s.toks) (λb o hb e=>(sb.2 b hb).trans e) f0 f1 f3 f4 f5;obtain⟨o,e,c,d⟩:=id st';exact⟨u,rfl,yS (s:={s with heap:=h'}) e c d (by decide) ⟨x,H,I1,ru,⟨rfl,λys hy=>by rw[I.sr hy hq];exact hx⟩,st',λb hb=>(hf b hb).1⟩⟩
 done:=by
  intro i pins s σ H E I hf st hg;obtain⟨xs,hq,hx⟩:=hg;obtain⟨its,rv,p,hz⟩:=I.list hq;obtain⟨f0,f1,f2,f3,f4,f5⟩:=hf it (by simp);have hl:=rv.length;exact YZ (hd.JL I) (f5 (ex,oe) (Wh _ hd.pn)) st p.isList (by simp;lia) λh' eb=>⟨rfl,I.turned (t':=s.toks) (λb o hb e=>eb b o hb e) f0 f1 f3 f4 f5⟩
def Pz(X:Cx)(tg iter:Expr)(wi:TI):Prop :=
 ∀(pins:List (we × Obj))(s:wm)(σ : St)(H:Hp)(R:It->Hp->Prop),Inv X pins σ H s->wi σ H R ->
  wA (model X.prog X.w) X.A (eval iter X.env) (λv s1=>wA (model X.prog X.w) X.A (pyIter v) (λitv s2=>∃(it:we)(fp:List we)(tn:Nat->wQ->Prop)(J:It)(H':Hp),itv=.ref it/\Inv X pins σ H' s2/\iX X.prog X.w X.K tg J fp it tn /\
   (∀(Y:Cx)(ex:we)(C:wg)(oe:Obj),Y.prog=X.prog->Y.w=X.w->Y.K=X.K->Hd Y ex C oe->uW Y tg J fp it tn)/\tn 0 s2.heap/\(∀b∈fp,eG X pins H' b)/\R J H') X.xe s1) X.xe s
variable{tg l:Expr}{tl:TE}
theorem zyg(hl:PE X l tl):Pz X tg l (yY X.K tl):=by
 intro pins s σ H R I h;refine aI (hl pins s σ H _ I h) λv s1 ⟨x,H1,I1,r1,q1⟩=>?_
 obtain⟨a,e1,⟨xs,hq⟩,q1⟩:=q1;subst e1;cases r1;obtain⟨its,rv,p,hz⟩:=I1.list hq;refine VF p.isList ?_;have I2:Inv X pins σ H1 {s1 with heap:=s1.heap.push {cls:=.type "list_iterator",data:=.fields #[.ref a,.int 0 0]}}:=I1.kept (t':=s1.toks) λb o e=>wp _ e
 refine⟨s1.heap.objs.size,[s1.heap.objs.size],_,_,H1,rfl,I2,C6 a _,λY ex C oe h1 h2 h3 hd=>?_,⟨_,wK _ rfl,rfl,rfl⟩,λb hb=>?_,q1⟩
 ·rw[<- h3]
  exact ztn hd a _
 ·have e:b=s1.heap.objs.size:=by simpa using hb
  subst e;exact I1.jg (wq _) (I1.aH.fresh (wq _))
variable{N':List Str}{scope:Scope}{cl:List (Str × we)}{src:List (Option Nat)}{elt tgt iter:Expr}{ifs:List Expr}{wi:TI}{g:TG}{tt:TT}{te:TE}
theorem ztp(hd:Hd X ex C oe){i:Nat}{y:Str}{py spos:Pos}(hN:X.N.Nodup)(hy:X.N[i]? = some y)(hly:Loc X.env.scope y)(ok:cv X N' scope cl src)(hi:Pz X tgt iter wi)
  (hg:∀C s₀ H₀ fp pins,PG (dm X N' scope cl C s₀ H₀ fp pins) tgt g) (ht:∀C s₀ H₀ fp pins,om (dm X N' scope cl C s₀ H₀ fp pins) ifs tt) (he:∀C s₀ H₀ fp pins,PE (dm X N' scope cl C s₀ H₀ fp pins) elt te)
  (hsw:swapsWith (.ListComp elt [⟨tgt,iter,ifs,0⟩] scope pos) (some (.Name y py)) spos.line X.env=pure true:=by rfl)
  (hs:∀x,foldedSetIterable iter X.env x=pure x:=by intro _;rfl) (hf:X.fn y=true\/X.env.scope.names.lookup y=some .local:=by first | exact .inl rfl | exact .inr rfl | assumption) :
  PS X (.Assign [.Name y py] (.ListComp elt [⟨tgt,iter,ifs,0⟩] scope pos) spos) (kK (jm src wi g tt te) (gD i)):=by
 intro pins s σ H D0 I h;rw[exec_Assign_Name_used _ _ _ _ hsw];refine wf (ql (wf ?_))
 show wA _ X.A (do let _ <- comprehension (.ListComp elt [⟨tgt,iter,ifs,0⟩] scope pos) scope X.env _ (newList []) false (eval iter X.env) (some (assign (.Name y py) X.env))) _ _ s
 refine wf (Wr (qJ (Q:=λ_ s'=>SP X pins D0 .next s') rfl hs ok.jP.jP ok.kind ok.names (aI (hi pins s σ H _ I h) λv s1 h1=>aI h1 λitv s2 h2=>?_))
  (λ_ s' hq=>wy (wy hq)) λ_ _ e=>e)
 obtain⟨it,fp,tn,J,H2,e,I2,T,TC,st2,f2,rd⟩:=h2;subst e;refine Ea (RQ:=λD H'=>gD i (.ref D) σ H' D0.nx) (RR:=λacc C=>compPost (model X.prog X.w) X.A X.xe (some (assign (.Name y py) X.env)) (λ_ s'=>SP X pins D0 .next s') acc C) (λ_ _ _=>TC _ ex C oe rfl rfl rfl hd.block) ok hg ht he I2 T st2 f2 rd ?_;intro D C H' s' m J hn hC q;obtain⟨c0,c1,_,c3,c4,c5⟩:=hC
 show wA _ _ (assign (.Name y py) X.env (.ref D)) _ _ s'
 refine wpAny_assign_Name (Cj J hN hy hly (v:=.ref D) rfl (λs'' J2 ⟨a,sb,ha⟩=>?_) hf)
 have hCa:C≠a:=by
  rcases ha with z | z
  ·rw[z];exact c1
  ·exact(c4 y a z).symm
 exact⟨m,hn.sameBut sb hCa,λh' sb'=>⟨_,H',J2.turned (t':=s''.toks) (λb o hb e=>(sb'.2 b hb).trans e) c0 c1 c3 c4 c5,q⟩⟩
end
structure fL(K:wb)(C:we):Prop where
 ga:xu K (.ref C) "__getattribute__"=some (some (.builtin "BaseException.__getattribute__"))
 gh:xu K (.ref C) "__getattr__"=some none
 cl:(xL K C).isSome=true
 at_:xu K (.ref C) "__class__"=some (some (.builtin "object.__class__"))
 gt:PySem.W.specialIn K (.builtin "object.__class__") "__get__"=some (some (.builtin "getset_descriptor.__get__"))
 tk:PySem.W.takesIn K (.builtin "object.__class__")=some true
 mr:uG K C (.type "object")=some true
 be:uG K C (.type "BaseException")=some true
theorem zq6{K:wb}{C:we}(c:fL K C):ud K C none "__class__"=some (.bind (.builtin "getset_descriptor.__get__") (.builtin "object.__class__")):=by
 obtain⟨cd,hc⟩:=VJ.mp c.cl;unfold ud;rw[hc,XS,c.at_,XS];simp[c.gt,c.tk]
theorem zwp{M:Model}{A:vb}{E:wg->wm->Prop}{s:wm}{x C:we}{nm:wg}{Q:Unit->wm->Prop}(L0:QI M s.heap (typeOf (.ref x)) (.ref C))(L1:QI M s.heap (isSubtype (.ref C) (.type "BaseException")) true)
  (hq:Q () s):wA M A (checkBuiltinCall "BaseException.__getattribute__" ⟨[.ref x,nm],[]⟩) Q E s:=by
 have hk:builtinKind "BaseException.__getattribute__"=some .slot:=by decide +kernel
 have hp:splitId "BaseException.__getattribute__"=some ("BaseException","__getattribute__"):=by decide +kernel
 have ha:=F.args_bexc_ga (.ref x) nm;have LI:QI M s.heap (isInstance (.ref x) (.type "BaseException")) true:=L0.andThen L1;simp only[checkBuiltinCall,hk,hp];refine wf (LI.at ?_)
 repeat(first | exact hq | assumption | wp_step)
theorem zxi{prog:wS}{w:wW}{A:vb}{E:wg->wm->Prop}{s:wm}{K:wb}{x C:we}{ox:Obj}{Q:Option wg->wm->Prop}(c:fL K C)(X:K.In s.heap)(I:xv s.heap x ox C none)
  (k:Q (some (.ref C)) {s with toks:=s.toks+1}):wA (model prog w) A (getAttr? (.ref x) "__class__") Q E s:=by
 obtain⟨hh,g,d,t,os⟩:=s;have L0:=I.type (M:=model prog w);have L1:=xE (M:=model prog w) X c.ga;have L2:=xE (M:=model prog w) X c.gh;have L3:=PySem.W.looks_mroIn (M:=model prog w) X c.be;have LF:=PySem.W.looks_find (M:=model prog w) X I (zq6 c);unfold getAttr? getAttrBy? getAttrBy;refine wf (wpAny_mkText (wf (WF (vR (wf (L0.at (wf (L1.at ?_))))))))
 show wA _ _ (getAttrByItsOwn _ _ _ _ _ _) _ _ _
 unfold getAttrByItsOwn
 show wA _ _ (typeLookup (.ref C) "__getattr__" >>= _) _ _ _
 refine wf (L2.at ?_);refine wf (WF (vR ?_))
 show wA _ _ (boundAndCalled _ _ _) _ _ _
 unfold boundAndCalled;rw[Qx.ga.bind];refine wf (wy ?_)
 show wA _ _ (call (.builtin "BaseException.__getattribute__") [.ref x,.str "__class__" t]) _ _ _
 refine wpAny_call (codeAny_call_builtin Qx.ga.plain F.entry_bexc_ga (zwp L0 L3 ?_));unfold Builtin.«object.__getattribute__»;refine wf (wy ?_);refine wf (wy ?_);refine wf (L0.at (wf (LF.at ?_)))
 show wA _ _ (holding [_] (call (.builtin "getset_descriptor.__get__") [.builtin "object.__class__",.ref x,.ref C]) >>= ret) _ _ _
 refine wf (vR (wpAny_call (PySem.W.class_get (ox:=ox) (od:=none) X I c.mr ?_)));exact wy (wy (wy k))
theorem Mq{K:wb}{x C:we}{ox:Obj}(c:fL K C):PySem.W.KitX K (.ref x) (.ref C) (λh=>xv h x ox C none) where
 ty:=λ_ _ _ I=>I.type
 it:=λ_ _ X _=>by
  obtain⟨cd,hc⟩:=VJ.mp c.cl;unfold xL at hc
  split at hc
  ·rename_i ho
   intro A' Q' E' s' k q;unfold isType loadHead;exact wf (wpAny_loadPart (k _ _ (X _ _ ho)) (wy q))
  ·cases hc
 ne:=λh tp dd its n sl X htp=>by
  obtain⟨cd,hc⟩:=VJ.mp c.cl;refine Bool.eq_false_iff.mpr λq=>?_
  have e:C=tp:=Value.ref.inj (beq_iff_eq.mp q);subst e;unfold xL at hc
  split at hc
  ·rename_i ho
   have z:=(X _ _ ho).symm.trans htp;cases z
  ·cases hc
 ca:=λ{_ _ _ _ _ s} X I k=>zxi c X I k
def El(K:wb)(ex:we)(C:wg):List V->Hp->VK->Prop:=λxs H Q=>∃(C':we)(b:Bool),C=.ref C'/\fL K C' /\
 ((∃D,xs=[.ref ex,.ref D]/\wt K (.ref C') (.ref D)=some b) \/ ∃T,xs=[.ref ex,.ty T]/\wt K (.ref C') (.type T)=some b)/\Q (.bl b) H
theorem jj{X:Cx}{ex:we}{C:wg}{oe:Obj}(hd:Hd X ex C oe):aN X (.builtin "isinstance") (El X.K ex C):=by
 intro pins s σ H xs us Q I r h;obtain⟨C',b,rfl,c,h,q⟩:=h;obtain⟨e,_⟩:=I.pin (ex,oe) (Wh _ hd.pn);obtain⟨vs,d,_⟩:=hd.ob.fld;have J:xv s.heap ex oe C' none:=⟨e,hd.ob.cls,by unfold PySem.W.notCls;rw[d],by rw[hd.ob.dict];trivial⟩;have fin:∀tk,EP X pins σ Q (.bool b) {s with toks:=tk}:=λtk=>⟨.bl b,H,I.tok _,rfl,q⟩
 rcases h with⟨D,rfl,k⟩ | ⟨T,rfl,k⟩
 ·obtain⟨u,w',rfl,rx,rt⟩:=jV r
  cases (show u=Value.ref ex from rx);cases (show w'=Value.ref D from rt);exact WQ (Mq c) I.c9 J k (λz=>nomatch z) fin
 ·obtain⟨u,w',rfl,rx,rt⟩:=jV r
  cases (show u=Value.ref ex from rx);cases (show w'=Value.type T from rt);exact WQ (Mq c) I.c9 J k (λz=>nomatch z) fin
def rM(K:wb)(g:TG)(tt:TT)(te:TE)(src:List (Option Nat))(σ : St)(x:V)(H1:Hp)(Q:VK):Prop :=
 ∃a,x=.ref a/\(∃xs,aO K H1 a xs) /\ ∀D,H1 D=none->kl g tt te (iR K a) D (dN src σ) (upd H1 D (.lst [])) (λH'=>Q (.ref D) H')
def yn(K:wb)(g:TG)(tt:TT)(te:TE)(src:List (Option Nat))(σ : St)(x:V)(H1:Hp)(Q:VK):Prop :=
 ∃a,x=.ref a/\(∃xs,aV K H1 a xs) /\ ∀D,H1 D=none->kl g tt te (jt K a) D (dN src σ) (upd H1 D (.lst [])) (λH'=>Q (.ref D) H')
def EG(g:TG)(tt:TT)(te:TE)(src:List (Option Nat))(σ : St)(vs:List V)(H1:Hp)(Q:VK):Prop :=
 ∃j:Int,vs=[.int j] /\ -(2^62)<=j/\j<2^62 /\ ∀D,H1 D=none->kl g tt te (gm 0 j.toNat) D (dN src σ) (upd H1 D (.lst [])) (λH'=>Q (.ref D) H')
section
variable{K:wb}{g:TG}{tt:TT}{te ta:TE}{tA:TA}{src:List (Option Nat)}{σ : St}{H:Hp}{Q:VK}{a:we}{xs:List V}{n:Int}
theorem zzF(h:ta σ H λx H1=>rM K g tt te src σ x H1 Q):jm src (yY K ta) g tt te σ H Q:=h
theorem zzG(h:ta σ H λx H1=>yn K g tt te src σ x H1 Q):jm src (KR K ta) g tt te σ H Q:=h
theorem zyx(h:tA σ H λvs H1=>EG g tt te src σ vs H1 Q):jm src (EC tA) g tt te σ H Q:=h
def rV(Pv:we->Nat->List V->St->Hp->Prop)(D:we)(i:Nat)(σ3:St)(y:V)(H5:Hp):Prop :=
 ∃ys,H5 D=some (.lst ys)/\ys.length<ve /\ ∃ys',Pv D (i+1) ys' σ3 (upd H5 D (.lst (ys++[y])))
def iA(Pv:we->Nat->List V->St->Hp->Prop)(g:TG)(tt:TT)(te:TE)(D:we)(i:Nat)(x:V)(σ':St)(H':Hp):Prop :=
 g x σ' H' λσ3 H3=>tt σ3 H3 λok H4=>if ok=true then te σ3 H4 λy H5=>rV Pv D i σ3 y H5 else ∃ys',Pv D (i+1) ys' σ3 H4
theorem kF{Pv:we->Nat->List V->St->Hp->Prop}{D:we}{i:Nat}{σ3:St}{y:V}{H5:Hp}{ys:List V}(h:H5 D=some (.lst ys))(z:ys.length<=1000)(q:∀H6,Exc D H5 H6->H6 D=some (.lst (ys++[y]))->Pv D (i+1) (ys++[y]) σ3 H6):rV Pv D i σ3 y H5 :=
 ⟨ys,h,kH z,_,q _ (Exc.upd D H5 _) cJ⟩
theorem Dy{J:It}{N:Nat}{D:we}{σ0:St}{H0:Hp}{R:Hp->Prop}(Pv:we->Nat->List V->St->Hp->Prop)(item:Nat->V->Prop)(h0:Pv D 0 [] σ0 H0)
  (stop:∀i ys σ' H',Pv D i ys σ' H'->N<=i->J.stop i H') (go:∀i ys σ' H',Pv D i ys σ' H'->i<N->J.go i H') (fH:∀i ys σ' H' x H2,Pv D i ys σ' H'->J.fH i H' x H2->H2=H'/\item i x)
  (hs:∀i x ys σ' H',i<N->item i x->Pv D i ys σ' H'->iA Pv g tt te D i x σ' H') (hd:∀ys σ' H',Pv D N ys σ' H'->R H'):kl g tt te J D σ0 H0 R:=by
 refine⟨λi m σ' H'=>i+m=N /\ ∃ys,Pv D i ys σ' H',⟨N,by lia,[],h0⟩,?_⟩;rintro i m σ' H' ⟨him,ys,hp⟩
 by_cases hm:m=0
 ·subst hm
  have e:i=N:=by lia
  subst e;exact .inl ⟨stop _ _ _ _ hp (wq _),hd _ _ _ hp⟩
 ·refine .inr ⟨go _ _ _ _ hp (by lia),λσ2 H2=>∃ys,Pv D (i+1) ys σ2 H2,λσ2 H2 h=>⟨m-1,by lia,by lia,h⟩,λx H2 hy2=>?_⟩
  obtain⟨e,hit⟩:=fH _ _ _ _ _ _ hp hy2;subst e;exact hs i x ys σ' H2 (by lia) hit hp
theorem mL(hx:aO K H a xs)(Pv:we->Nat->List V->St->Hp->Prop)(h0:∀D H',H D=none->ag H H'->H' D=some (.lst [])->Pv D 0 [] (dN src σ) H')(hl:∀D i ys σ' H',Pv D i ys σ' H'->aO K H' a xs)
  (hs:∀D i x ys σ' H',xs[i]? = some x->Pv D i ys σ' H'->iA Pv g tt te D i x σ' H') (hd:∀D ys σ' H',Pv D xs.length ys σ' H'->Q (.ref D) H'):rM K g tt te src σ (.ref a) H Q:=by
 refine⟨a,rfl,⟨xs,hx⟩,λD hD=>Dy (N:=xs.length) Pv (λi x=>xs[i]? = some x) (h0 D _ hD (ag.upd hD) cJ) (λi ys σ' H' hp hi=>⟨xs,hl _ _ _ _ _ hp,hi⟩) (λi ys σ' H' hp hi=>?_) (λi ys σ' H' x H2 hp hy=>?_)
  (λi x ys σ' H' _ hit hp=>hs D i x ys σ' H' hit hp) (hd D)⟩
 ·exact⟨xs,xs[i],hl _ _ _ _ _ hp,by simp[hi]⟩
 ·obtain⟨e,hy⟩:=hy
  exact⟨e,hy xs (hl _ _ _ _ _ hp)⟩
theorem ztU(hx:aV K H a xs)(Pv:we->Nat->List V->St->Hp->Prop)(h0:∀D H',H D=none->ag H H'->H' D=some (.lst [])->Pv D 0 [] (dN src σ) H')(hl:∀D i ys σ' H',Pv D i ys σ' H'->aV K H' a xs)
  (hs:∀D i x ys σ' H',xs[i]? = some x->Pv D i ys σ' H'->iA Pv g tt te D i x σ' H') (hd:∀D ys σ' H',Pv D xs.length ys σ' H'->Q (.ref D) H'):yn K g tt te src σ (.ref a) H Q:=by
 refine⟨a,rfl,⟨xs,hx⟩,λD hD=>Dy (N:=xs.length) Pv (λi x=>xs[i]? = some x) (h0 D _ hD (ag.upd hD) cJ) (λi ys σ' H' hp hi=>⟨xs,hl _ _ _ _ _ hp,hi⟩) (λi ys σ' H' hp hi=>?_) (λi ys σ' H' x H2 hp hy=>?_)
  (λi x ys σ' H' _ hit hp=>hs D i x ys σ' H' hit hp) (hd D)⟩
 ·exact⟨xs,xs[i],hl _ _ _ _ _ hp,by simp[hi]⟩
 ·obtain⟨e,hy⟩:=hy
  exact⟨e,hy xs (hl _ _ _ _ _ hp)⟩
theorem zuQ(h0' : -1000000000<=n)(h1:n<1000000000)(Pv:we->Nat->List V->St->Hp->Prop)(h0:∀D H',H D=none->ag H H'->H' D=some (.lst [])->Pv D 0 [] (dN src σ) H')
  (hs:∀D (i:Nat) ys σ' H',i<n.toNat->Pv D i ys σ' H'->iA Pv g tt te D i (.int (i:Int)) σ' H') (hd:∀D ys σ' H',Pv D n.toNat ys σ' H'->Q (.ref D) H'):EG g tt te src σ [.int n] H Q:=by
 refine⟨n,rfl,by lia,by lia,λD hD=>Dy (N:=n.toNat) Pv (λi x=>x=.int (i:Int)) (h0 D _ hD (ag.upd hD) cJ) (λi ys σ' H' hp hi=>hi) (λi ys σ' H' hp hi=>hi) (λi ys σ' H' x H2 hp hy=>?_)
  (λi x ys σ' H' hi hit hp=>?_) (hd D)⟩
 ·obtain⟨e,hy⟩:=hy
  exact⟨e,by rw[hy,Int.zero_add]⟩
 ·subst hit
  exact hs D i ys σ' H' hi hp
end
structure tT(u' u:TS):Prop where
 e:u'=u
theorem Zz{t u:TS}{D:cB}{σ : St}{H:Hp}(h:∀u',tT u' u->t {D with nx:=u' D} σ H):BF t u D σ H:=h u ⟨rfl⟩
theorem tT.go{u' u:TS}{D:cB}{σ : St}{H:Hp}(e:tT u' u)(h:u D σ H):u' D σ H:=by rw[e.e];exact h
theorem zoK:vI "ValueError"=some (.type "ValueError"):=by decide +kernel
theorem zxJ{X:Cx}{ex:we}{C:wg}{oe:Obj}{N':List Str}{scope:Scope}{cl:List (Str × we)}{D:we}{s₀ : wm}{H₀ : Hp}{fp:List we}{pins:List (we × Obj)}{es:List Expr}{k:Nat}{pos:Pos}{t:iN}{n:Nat}(hd:Hd X ex C oe)
  (h:nS (dm X N' scope cl D s₀ H₀ fp pins) es t) (hn:(Vo es (dm X N' scope cl D s₀ H₀ fp pins).env).length=n:=by rfl) (hst:(Vo es (dm X N' scope cl D s₀ H₀ fp pins).env).findIdx? (·.1)=none:=by rfl) :
  PG (dm X N' scope cl D s₀ H₀ fp pins) (.Tuple es k pos) (iY X.K n t):=Zf hd.block h hn hst
theorem rH{P:wS}{w:wW}{X:Cx} : nE (eT P w) X E0:=λ_ _ _ _ _ _ _ h=>by
 obtain⟨_,_,_,_,_,_,_,_,_,_,_,q⟩:=h;exact q.elim
theorem jD.m_{P:wS}{w:wW}{K:wb}{mg:Str->Option wg}{base:wQ}{x qual:Str}{st:vc}{f:we}{fd:wE}{N ps:List Str}{k:Nat}{sp:Sp}(F:jD K x qual st f fd)(S:aQ N ps (aA st))(len:∀vs H Q E,sp vs H Q E->vs.length=ps.length)
  (hbody:∀(cdv:wg)(A:vb)(outer:List Env)(s:wm)(H:Hp)(vs:List V)(Q:VK)(E:XK),dP k (A.deeper (envOfC qual (aA st) s.heap.objs.size f cdv))->sp vs H Q E ->
   ∃t,fv (gU (eT P w) P w K mg base N qual (aA st) f cdv A outer s H E) (jX st) t/\t {nx:=λ_ H'=>Q .bX H',rt:=Q} (start N vs) H):aP P w K mg base (eT P w) (k+1) f fd ps sp:=by
 obtain⟨oc,od,kV,doc,pm,an,cdv,ct,osl,rfl,lk,hcd⟩:=F.ex;exact M0 lk hcd S len λA outer s H vs Q E hr hsp=>hbody cdv A outer s H vs Q E hr hsp
theorem Exc.back{p:we}{H H' H2:Hp}(b:Exc p H' H2)(s:Exc p H H'):Exc p H H2:=s.trans b
theorem Sw{X:Cx}{i j v:Int}{k1 k2:Nat}{p1 p2 pos:Pos}(hc:Kj i j)(hv:i^j.toNat=v):PE X (.BinOp (.Constant (.int i) k1 p1) .Pow (.Constant (.int j) k2 p2) pos) (tC (.int v)):=by
 subst hv;exact λpins s σ H Q I h=>(aK zC1 aD aD:PE X _ _) pins s σ H Q I ⟨i,j,rfl,rfl,hc,h⟩
theorem zwD{α : Type}[DecidableEq α]{x : α}{A B:Prop}(h:B):if(!decide (x=x))=true then A else B:=by simpa using h
theorem zwY{α : Type}[DecidableEq α]{x : α}{A B:Prop}(h:A):if decide (x=x)=true then A else B:=by simpa using h
section
variable{K:wb}{σ : St}{H H':Hp}{Q:VK}{QB:Bool->Hp->Prop}{D:cB}{t:TA}{v w:V}{xs ys:List V}{m n:Int}{r:Rat}{p:we}
theorem zEj{A B:Prop}(h:B):if(!true)=true then A else B:=by simpa using h
theorem zEv{A B:Prop}(h:A):if(!false)=true then A else B:=by simpa using h
theorem zzU{a b:V}(h:H p=some (.lst [a,b]))(h0:0<=m)(h1:m<2)(q:∀z,z=a\/z=b->Q z H):c6 K (.ref p) (.int m) H Q :=
 Po (λz=>z=a\/z=b) (aO.of h) h0 (by simpa using h1) (by simp) q
theorem zzO{a b:Int}(h:H p=some (.lst [.int a,.int b]))(h0:0<=m)(h1:m<2)(q:∀z,z=a\/z=b->Q (.int z) H):c6 K (.ref p) (.int m) H Q :=
 zzU h h0 h1 λz hz=>by rcases hz with rfl | rfl;exact q _ (.inl rfl);exact q _ (.inr rfl)
theorem sZ(a b:Int):wI (.int a) (.int b)=decide (a=b):=by rw[wI,V9]
theorem zqS{x y:Rat}(h1:x.num=y.num)(h2:(x.den:Int)=y.den):x=y:=by
 have h2':x.den=y.den:=by lia
 exact Rat.ext h1 h2'
theorem pM(x y:Rat):wI (N x) (N y)=decide (x=y):=by
 have e:wI (N x) (N y)=(decide (x.num=y.num)&&decide ((x.den:Int)=y.den)):=by
  simp only[N,wI,vJ,QJ,V9]
 rw[e,vH,wZ,decide_eq_true_eq,decide_eq_true_eq,decide_eq_true_eq]
 constructor
 ·rintro ⟨h1,h2⟩;exact zqS h1 h2
 ·rintro rfl;exact⟨rfl,rfl⟩
theorem AH(x:Rat):vN (N x)=true:=by simp[N,vN,vM,Wz,WU,WR]
theorem zCl{x y:Rat}(h:Is K H v (N x))(k:Is K H w (N y))(q:Q (.bl (decide (x=y))) H):cH K v w H Q:=mU h k (AH x) (AH y) (by rw[pM];exact q)
theorem zC7{x y:Rat}(h:Is K H v (N x))(k:Is K H w (N y))(q:Q (.bl (!decide (x=y))) H):df K v w H Q:=n_ h k (AH x) (AH y) (by rw[pM];exact q)
end
theorem zDj{X:Cx} : aJ X (wN .In) (kP X.K false):=zxa
theorem YO{X:Cx} : aJ X (wN .NotIn) (kP X.K true):=zqo
def R(a b:Rat):wB:=.tuple [N a,N b]
theorem Ci(a b:Rat):cw (R a b)=true:=by simp[R,cw,bW,kC]
structure aX(a b:Rat):Prop where
 a0:0<a
 a4:a<=4
 ad:a.den<=8
 b0:0<=b
 b1:b<=1
 bd:b.den<=12
 ab:1<=a+b
theorem zzZ{x y:Rat}{z u r w:Int}(e:x=wH z u)(h1:1<=u)(h2:u<=8)(h3:1<=z)(h4:z<=4*u)(e':y=wH r w)(g1:1<=w)(g2:w<=12)(g3:0<=r)(g4:r<=w)
  (h:x.num*(y.den:Int)+y.num*(x.den:Int)<(x.den:Int)*(y.den:Int)):aX x (1-x):=by
 obtain⟨a1,a2,a3⟩:=yg e h1 h2 h3 h4;obtain⟨b1,b2,b3⟩:=sL e' g1 g2 g3 g4;have hs:=(MR x y).mp h;have hd:=zso x;exact⟨a1,a2,a3,by grind,by grind,by lia,by grind⟩
theorem zBk{x y:Rat}{z u r w:Int}(e:x=wH z u)(h1:1<=u)(h2:u<=8)(h3:1<=z)(h4:z<=4*u)(e':y=wH r w)(g1:1<=w)(g2:w<=12)(g3:0<=r)(g4:r<=w)
  (h:¬ x.num*(y.den:Int)+y.num*(x.den:Int)<(x.den:Int)*(y.den:Int)):aX x y:=by
 obtain⟨a1,a2,a3⟩:=yg e h1 h2 h3 h4;obtain⟨b1,b2,b3⟩:=sL e' g1 g2 g3 g4;have hs:=λz=>h ((MR x y).mpr z)
 exact⟨a1,a2,a3,b1,b2,b3,by grind⟩
theorem aX.ba{a b:Rat}(h:aX a b):ah 10 a:=ah.small (c:=4) (d:=8) (vY h.a0) h.a4 h.ad (by decide) (by decide)
theorem aX.bb{a b:Rat}(h:aX a b):ah 10 b:=ah.small (c:=1) (d:=12) h.b0 h.b1 h.bd (by decide) (by decide)
section
variable{K:wb}{H:Hp}{Q:VK}{v:V}{a b:Rat}{σ : St}{gs:iN}{QS:St->Hp->Prop}
theorem zAr(h:Is K H v (R a b))(q:∀x,Is K H x (N a)->Q x H):c6 K v (.int 0) H Q:=aC (j:=0) h rfl q
theorem zAn(h:Is K H v (R a b))(q:∀x,Is K H x (N b)->Q x H):c6 K v (.int 1) H Q:=aC (j:=1) h rfl q
theorem Is.sF{H':Hp}(h:Is K H v (R a b))(s:bE H H'):Is K H' v (R a b):=Is.keep s _ v (Ci a b) h
theorem Np{x y:V}(h1:Is K H x (N a))(h2:Is K H y (N b))(q:∀v H',ag H H'->Is K H' v (R a b)->Q v H'):mz K [x,y] H Q :=
 cy (by show 2<=1000;decide) (.cons h1 (.cons h2 .nil)) q
end
section
variable{K:wb}{H H' H2:Hp}{Q:VK}{v w:V}{a b c d:Rat}{D:we}
theorem zxk(h:Is K H v (R a b))(q:Q (.bl true) H):fc K [v,.ty "tuple"] H Q:=N3 h q
theorem zAt(h:Is K H v (R a b))(q:Q (.int 2) H):cF K [v] H Q:=kQ h q
theorem ag.grow(s:ag H H')(n:H D=none)(e:Exc D H' H2):ag H H2:=λb o h=>e b o (kf h n) (s b o h)
end
theorem zx8{σ : St}{H:Hp}{Q:Bool->Hp->Prop}(q:Q true H):NB σ H Q:=q
theorem zA{Pv:we->Nat->List V->St->Hp->Prop}{g:TG}{tt:TT}{te:TE}{D:we}{i:Nat}{x:V}{σ':St}{H':Hp}(h:g x σ' H' λσ3 H3=>tt σ3 H3 λok H4=>if ok=true then te σ3 H4 λy H5=>rV Pv D i σ3 y H5 else ∃ys',Pv D (i+1) ys' σ3 H4) :
  iA Pv g tt te D i x σ' H':=h
section
variable{K:wb}{σ : St}{H:Hp}{Q:VK}{E:XK}{D:cB}{t:TA}{C G:wg}{i:Nat}{tb:(St->XK)->TS}{th:we->wg->TS}{sp:Sp}{W:St->XK}{ex C':we}{b:Bool}
theorem zyc(h:t σ H λvs H1=>vs.length<=ve/\E C none H1):Md C E t D σ H:=h
theorem ZC(W:St->XK)(h:tb W D σ H) (k:∀σ' C o H',W σ' C o H'->Vh K C G=some true /\
  ∀ex,H' ex=none->th ex C {nx:=λσ2 H2=>D.nx (σ2.set i none) H2,rt:=D.rt,bk:=λσ2 H2=>D.bk (σ2.set i none) H2,ct:=λσ2 H2=>D.ct (σ2.set i none) H2} (σ'.set i (some (.ref ex))) H'):NG K G i tb th D σ H:=⟨W,h,k⟩
theorem zy5(h:t σ H λvs H1=>sp vs H1 Q (W σ)):BZ sp W t σ H Q:=h
theorem zwy{D':we}(c:fL K C')(k:wt K (.ref C') (.ref D')=some b)(q:Q (.bl b) H):El K ex (.ref C') [.ref ex,.ref D'] H Q:=⟨C',b,rfl,c,.inl ⟨D',rfl,k⟩,q⟩
theorem zwF{T:String}(c:fL K C')(k:wt K (.ref C') (.type T)=some b)(q:Q (.bl b) H):El K ex (.ref C') [.ref ex,.ty T] H Q:=⟨C',b,rfl,c,.inr ⟨T,rfl,k⟩,q⟩
end
theorem lY(s:String):Xc (vL s)=true:=by
 rw[Str.ofString_eq_toList,Xc];simp only[List.all_toArray,qF,WE,Function.comp,decide_eq_true_eq];intro c _;have:=c.valid;simp only[Char.toNat];rcases this with h | h
 ·have:c.val.toNat<0xd800:=h
  lia
 ·exact h.2
inductive fX(K:wb)(H:Hp):List V->List (Str × Bool)->Prop
 | nil:fX K H [] []
 | cons {x:V} {xs:List V} {w:Str} {b:Bool} {ws:List (Str × Bool)} : Is K H x (.tuple [.str w,.bool b])->fX K H xs ws->fX K H (x::xs) ((w,b)::ws)
theorem fX.get{K:wb}{H:Hp}{xs:List V}{ws:List (Str × Bool)}(h:fX K H xs ws):∀(i:Nat)(x:V),xs[i]? = some x->∃w b,ws[i]? = some (w,b)/\Is K H x (.tuple [.str w,.bool b]):=by
 induction h with
 | nil=>intro i x e;simp at e
 | cons h _ ih =>
  intro i x e;cases i with
  | zero=>simp at e;subst e;exact⟨_,_,rfl,h⟩
  | succ i=>exact ih i x (by simpa using e)
theorem zAD{K:wb}{H H':Hp}{v:V}{d:wB}(h:Is K H v d)(s:ag H H'):Is K H' v d:=h.by s
theorem fX.app{K:wb}{H:Hp}{xs ys:List V}{ws us:List (Str × Bool)}(h:fX K H xs ws)(h':fX K H ys us):fX K H (xs++ys) (ws++us):=by
 induction h with
 | nil=>exact h'
 | cons h _ ih=>exact .cons h ih
theorem fX.len{K:wb}{H:Hp}{xs:List V}{ws:List (Str × Bool)}(h:fX K H xs ws):xs.length=ws.length:=by
 induction h with
 | nil=>rfl
 | cons _ _ ih=>simp[ih]
def jG(ws:List (Str × Bool)):List V:=(ws.filter (·.2)).map λp=>V.str p.1
theorem M6{ws:List (Str × Bool)}{i:Nat}{w:Str}{b:Bool}(e:ws[i]? = some (w,b)):jG (ws.take (i+1))=jG (ws.take i)++if b=true then [V.str w]else []:=by
 unfold jG;rw[V4,e];cases b<;>simp
theorem zCH(ws:List (Str × Bool)):(jG ws).length<=ws.length:=by
 unfold jG;rw[wo];exact WB _ _
theorem zxu{K:wb}{H:Hp}{Q:VK}{σ : St}{c:we}{xs:List V}{ws:List (Str × Bool)}(h:H c=some (.lst xs))(hw:fX K H xs ws)(hl:ws.length<=100)(q:∀D H',ag H H'->H' D=some (.lst (jG ws))->Q (.ref D) H') :
  rM K (iY K 2 (yD (gD 0) (yD (gD 1) CN))) (tB (lS 1)) (lS 0) [none,none] σ (.ref c) H Q:=by
 refine mL (aO.of h) (λD i ys σ' H'=>(∃o1 o2,σ'=[o1,o2])/\H D=none/\ag H H'/\H' D=some (.lst ys)/\ys=jG (ws.take i)) (λD H' n s e=>⟨⟨_,_,rfl⟩,n,s,e,by simp[jG]⟩) (λD i ys σ' H' h'=>aO.of (h'.2.2.1 _ _ h)) ?_ ?_
 ·rintro D i x ys σ' H' hx ⟨⟨o1,o2,rfl⟩,hn,S,hD,rfl⟩
  obtain⟨w,b,ew,iw⟩:=hw.get i x hx
  have hz:(jG (ws.take i)).length<=1000:=by
   have h1:=zCH (ws.take i);have h2:(ws.take i).length<=ws.length:=by rw[WD];lia
   lia
  refine zA (DR (iw.by S) rfl λzs t=>?_);obtain⟨z1,r1,rfl,e1,t⟩:=c8.mp t;obtain⟨z2,r2,rfl,e2,t⟩:=c8.mp t;cases fK.mp t;cases eI.mp e1;cases kc.mp e2;refine B3 (Et (B3 (Et (LY ?_))));refine Nr (CK rfl (Uj ?_));cases b with
  | false =>
   refine lC ⟨_,⟨_,_,rfl⟩,hn,S,hD,?_⟩;rw[M6 ew];simp
  | true =>
   refine lW (CK rfl (kF hD hz λH6 E6 e6=>⟨⟨_,_,rfl⟩,hn,S.grow hn E6,e6,?_⟩));rw[M6 ew];simp
 ·rintro D ys σ' H' ⟨_,hn,S,hD,rfl⟩
  rw[hw.len,Wv]at hD;exact q D H' S hD
theorem eB{K:wb}{H:Hp}{c:we}{p q:Int}(r:Rat)(h:aV K H c [.int p,.int q])(e1:r.num=p)(e2:(r.den:Int)=q):Is K H (.ref c) (N r):=by
 subst e1 e2;exact b7.mpr ⟨c,_,rfl,h,c8.mpr ⟨_,_,rfl,cz.mpr rfl,c8.mpr ⟨_,_,rfl,cz.mpr rfl,fK.mpr rfl⟩⟩⟩
theorem EF(s:String):vN (.str (vL s))=true:=by
 simp[vN,vM,WU,lY]
theorem OC{c:Const}{k:Nat}{p:Pos}{es:List Expr}{env:Env} : w8 ((.Constant c k p)::es) env=(false,eval (.Constant c k p) env)::w8 es env:=rfl
theorem zty{o:Operator}{x y:Expr}{p:Pos}{es:List Expr}{env:Env} : w8 ((.BinOp x o y p)::es) env=(false,eval (.BinOp x o y p) env)::w8 es env:=rfl
theorem fZ{x:Str}{p:Pos}{es:List Expr}{env:Env} : w8 ((.Name x p)::es) env=(false,eval (.Name x p) env)::w8 es env:=rfl
theorem gE{x y:Expr}{p:Pos}{es:List Expr}{env:Env} : w8 ((.Subscript x y p)::es) env=(false,eval (.Subscript x y p) env)::w8 es env:=rfl
theorem Nb:∀{us:List wg}{ns:List Int},IntsAre us ns->aT (ns.map V.int) us
 | _,_,.nil=>.nil
 | _,_,.cons n t r=>.cons ⟨t,rfl⟩ (Nb r)
theorem Mx:vI "sorted"=some (.builtin "sorted"):=by decide +kernel
def y9(K:wb):List V->Hp->VK->Prop:=λxs H Q=>∃(p:we)(ns:List Int),xs=[.ref p]/\aO K H p (ns.map V.int)/\ns.length<64 /\
 ∀(l:we)(ms:List Int),H l=none->ms.Perm ns->ms.Pairwise (· <= ·)->Q (.ref l) (upd H l (.lst (ms.map V.int)))
theorem Mi{X:Cx} : aN X (.builtin "sorted") (y9 X.K):=by
 intro pins s σ H xs us Q I r h;obtain⟨p,ns,rfl,hq,h64,q⟩:=h;obtain⟨u,rfl,rx⟩:=gW r;cases rx;obtain⟨its,r',pl,hz⟩:=I.list hq;have hlen:=r'.length;rw[wo]at hlen;refine sorted_ints pl.isList (CZ r') (by lia) λout ns' a1 a2 a3=>?_
 obtain⟨e,he⟩:=sortedAll_at s.heap its out;have hl:=a2.length_eq
 have hsz:(ns'.map V.int).length<=ve:=by
  rw[wo];exact Vp (kH (by lia))
 exact⟨.ref (s.heap.objs.size+1),_,I.laid (t':=s.toks) (λ_ _=>sortedAll_old) (xb _) (show dD X.prog X.w _ _ _ (.lst (ns'.map V.int))from⟨hsz,out.toList,e,Nb a1,he⟩),rfl,q _ ns' (I.aH.fresh (xb _)) a2 a3⟩
section
variable{K:wb}{H H' H2:Hp}{Q:VK}{R:Prop}{v w y:V}{p l:we}{xs ys zs:List V}{ns:List Int}{m:Int}{σ : St}
theorem PD(h:aO K H p (ns.map V.int))(h64:ns.length<64)(q:∀(l:we)(H':Hp)(ms:List Int),H l=none->ag H H'->H' l=some (.lst (ms.map V.int))->ms.Perm ns->ms.Pairwise (· <= ·)->Q (.ref l) H'):y9 K [.ref p] H Q :=
 ⟨p,ns,rfl,h,h64,λl ms hl a b=>q l _ ms hl (ag.upd hl) cJ a b⟩
end
section
variable{K:wb}{H H' H2:Hp}{Q:VK}{R:Prop}{v w y:V}{p l:we}{xs ys zs:List V}{ns:List Int}{m:Int}{σ : St}{to:TE}{t:TA}{T:String}{r:V->List V->Hp->VK->Prop}
theorem zDP(h:to σ H λx H1=>zD K T x H1/\t σ H1 λxs H2=>r x xs H2 Q):OG K T r to t σ H Q:=h
theorem ig(h:aO K H p xs)(q:R):zD K "list" (.ref p) H/\R:=⟨.inl ⟨rfl,xs,h⟩,q⟩
theorem iS(h:H l=some (.lst xs))(z:xs.length<=1000)(q:∀H',Exc l H H'->H' l=some (.lst (xs++[y]))->Q .bX H'):Pp (.ref l) [y] H Q:=⟨l,xs,y,rfl,rfl,h,kH z,q _ (Exc.upd l H _) cJ⟩
end
def dJ(K:wb):List V->Hp->VK->Prop:=λxs H Q=>∃p ys,xs=[.ref p]/\((aO K H p ys /\ ∀l,H l=none->Q (.ref l) (upd H l (.tup ys)))\/(aV K H p ys/\Q (.ref p) H))
def k9(K:wb):List V->Hp->VK->Prop:=λxs H Q=>∃p ys,xs=[.ref p]/\(aO K H p ys\/aV K H p ys) /\ ∀l,H l=none->Q (.ref l) (upd H l (.lst ys))
theorem eP{X:Cx} : aN X (.type "tuple") (dJ X.K):=zoL
theorem pD{X:Cx} : aN X (.type "list") (k9 X.K):=Z3
def oV(K:wb):V->Option Int->Option Int->Hp->VK->Prop:=λx lo hi H Q=>Od K x lo hi H Q\/Mn K x lo hi H Q
theorem mv{X:Cx} : j7 X (oV X.K):=zAV.or zCA
section
variable{K:wb}{H H' H2:Hp}{Q:VK}{QO:Option Int->Hp->Prop}{R:Prop}{v w y:V}{p l:we}{xs ys zs:List V}{ds es:List wB}{m:Int}{σ : St}{te:TE}{tl th:TO}{r:V->Option Int->Option Int->Hp->VK->Prop}{lo hi:Option Int}
theorem nT(h:aO K H p ys)(q:∀l H',H l=none->ag H H'->H' l=some (.tup ys)->Q (.ref l) H'):dJ K [.ref p] H Q:=⟨p,ys,rfl,.inl ⟨h,λl hl=>q l _ hl (ag.upd hl) cJ⟩⟩
theorem gY(h:Is K H v (.list ds))(q:∀w H',ag H H'->Is K H' w (.tuple ds)->Q w H'):dJ K [v] H Q:=by
 obtain⟨a,xs,rfl,hs,t⟩:=cj.mp h;exact nT hs λl H' _ s e=>q _ H' s (b7.mpr ⟨l,xs,rfl,.of e,av.same s ds xs t⟩)
theorem Ks(h:Is K H v (.tuple ds))(q:Q v H):dJ K [v] H Q:=by
 obtain⟨a,xs,rfl,hs,t⟩:=b7.mp h;exact⟨a,xs,rfl,.inr ⟨hs,q⟩⟩
theorem u_(h:Is K H v (.tuple ds))(q:∀l H' ys,H l=none->ag H H'->H' l=some (.lst ys)->av K H' ys ds->Q (.ref l) H'):k9 K [v] H Q:=by
 obtain⟨a,xs,rfl,hs,t⟩:=b7.mp h;exact⟨a,xs,rfl,.inr hs,λl hl=>q l _ xs hl (ag.upd hl) cJ (av.same (ag.upd hl) ds xs t)⟩
theorem zwP(h:Is K H v (.list ds))(q:∀l H' ys,H l=none->ag H H'->H' l=some (.lst ys)->av K H' ys ds->Q (.ref l) H'):k9 K [v] H Q:=by
 obtain⟨a,xs,rfl,hs,t⟩:=cj.mp h;exact⟨a,xs,rfl,.inl hs,λl hl=>q l _ xs hl (ag.upd hl) cJ (av.same (ag.upd hl) ds xs t)⟩
theorem Zn(h:te σ H λx H1=>tl σ H1 λl H2=>th σ H2 λu H3=>r x l u H3 Q):Sr r te tl th σ H Q:=h
theorem zw4(q:QO none H):L8 σ H QO:=q
theorem ZO(h:te σ H λx H1=>∃i,x=.int i/\QO (some i) H1):MN te σ H QO:=h
theorem zx3{RI:Int->Prop}(q:RI m):∃i,V.int m=V.int i/\RI i:=⟨m,rfl,q⟩
def cutD{α : Type}(xs:List α)(lo hi:Option Int):List α:=(xs.drop (HT.a_ xs.length 0 lo)).take (HT.a_ xs.length xs.length hi-HT.a_ xs.length 0 lo)
theorem av.take:∀{ds:List wB}{xs:List V}(n:Nat),av K H xs ds->av K H (xs.take n) (ds.take n)
 | _,_,0,h=>by simp[av.nil]
 | [],_,n+1,h=>by rw[fK.mp h];simp[av.nil]
 | d::ds,_,n+1,h=>by
  obtain⟨x,r,rfl,q,t⟩:=c8.mp h;rw[xQ,xQ];exact .cons q (av.take n t)
theorem av.drop:∀{ds:List wB}{xs:List V}(n:Nat),av K H xs ds->av K H (xs.drop n) (ds.drop n)
 | _,_,0,h=>by simpa using h
 | [],_,n+1,h=>by rw[fK.mp h];simp[av.nil]
 | d::ds,_,n+1,h=>by
  obtain⟨x,r,rfl,q,t⟩:=c8.mp h;rw[Qk,Qk];exact av.drop n t
theorem av.cut(h:av K H xs ds):av K H (kn xs lo hi) (cutD ds lo hi):=by
 unfold kn cutD;rw[h.length];exact(h.drop _).take _
theorem zDn(h:aO K H p xs)(q:∀l H',H l=none->ag H H'->H' l=some (.lst (kn xs lo hi))->Q (.ref l) H'):oV K (.ref p) lo hi H Q:=.inl ⟨p,xs,rfl,h,λl hl=>q l _ hl (ag.upd hl) cJ⟩
theorem pq(h:Is K H v (.list ds))(q:∀l H' ys,H l=none->ag H H'->H' l=some (.lst ys)->av K H' ys (cutD ds lo hi)->Q (.ref l) H'):oV K v lo hi H Q:=by
 obtain⟨a,xs,rfl,hs,t⟩:=cj.mp h;exact zDn hs λl H' hl s e=>q l H' _ hl s e (av.same s _ _ t.cut)
theorem MY(h:Is K H v (.tuple ds))(hw:¬ (HT.a_ ds.length 0 lo=0/\HT.a_ ds.length ds.length hi=ds.length))(q:∀w H',ag H H'->Is K H' w (.tuple (cutD ds lo hi))->Q w H'):oV K v lo hi H Q:=by
 obtain⟨a,xs,rfl,hs,t⟩:=b7.mp h;refine .inr ⟨a,xs,rfl,hs,by rw[t.length];exact hw,λl hl=>q _ _ (ag.upd hl) (b7.mpr ⟨l,_,rfl,.of cJ,av.same (ag.upd hl) _ _ t.cut⟩)⟩
theorem MF{α : Type}(xs:List α):cutD xs none (some (-1))=xs.dropLast:=by
 unfold cutD
 show(xs.drop 0).take (((-1:Int)+(xs.length:Int)).toNat-0)=_
 rw[xt,xq]
 congr 1
 lia
theorem Ob{α : Type}(xs:List α):cutD xs (some 1) none=xs.tail:=by
 unfold cutD
 show(xs.drop (min 1 xs.length)).take (xs.length-min 1 xs.length)=_
 cases xs with
 | nil=>rfl
 | cons x xs =>
  have e:min 1 (x::xs).length=1:=by rw[vP];lia
  rw[e,Qk,xt,vP,qD,Wv,ur]
end
def TN(xs:List Rat):wB:=.tuple (xs.map N)
def LN(xs:List Rat):wB:=.list (xs.map N)
theorem eO:∀xs:List Rat,bW (xs.map N)=true
 | []=>by simp[bW]
 | x::xs=>by rw[va,bW,kC,eO xs];rfl
theorem rn(xs:List Rat):cw (TN xs)=true:=by rw[TN,cw];exact eO xs
theorem zxM(x:Rat):(N x).canLay0=true:=by simp[N,vM,Wz]
theorem zzI(x:Rat):(N x).depth=1:=by simp[N,WU,WR]
theorem zS:∀xs:List Rat,Wz (xs.map N)=true
 | []=>by simp[Wz]
 | x::xs=>by rw[va,Wz,zxM,zS xs];rfl
theorem Cd:∀xs:List Rat,WR (xs.map N)<=1
 | []=>by simp[WR]
 | x::xs=>by
  have:=Cd xs;rw[va,WR,zzI];lia
theorem AE(xs:List Rat):vN (TN xs)=true:=by
 unfold vN TN;rw[vM,zS,WU,Vy];have:=Cd xs;exact decide_eq_true (by lia)
theorem Lg(xs:List Rat):vN (LN xs)=true:=by
 unfold vN LN;rw[vM,zS,WU,Vy];have:=Cd xs;exact decide_eq_true (by lia)
theorem CD:∀xs ys:List Rat,vJ (xs.map N) (ys.map N)=decide (xs=ys)
 | [],[]=>by simp[vJ]
 | [],y::ys=>by simp[vJ]
 | x::xs,[]=>by simp[vJ]
 | x::xs,y::ys=>by
  rw[va,va,vJ,pM,CD xs ys,vH,wZ,decide_eq_true_eq,decide_eq_true_eq,decide_eq_true_eq,List.cons.injEq]
theorem Ax(xs ys:List Rat):wI (TN xs) (TN ys)=decide (xs=ys):=by
 unfold TN;rw[wI,CD]
theorem zDk(xs ys:List Rat):wI (LN xs) (LN ys)=decide (xs=ys):=by
 unfold LN;rw[wI,CD]
section
variable{K:wb}{H H' H2:Hp}{Q:VK}{v w y:V}{p l:we}{vs:List V}{xs ys:List Rat}{m:Int}{σ : St}
theorem DA(h:Is K H v (TN xs))(k:Is K H w (TN ys))(q:Q (.bl (decide (xs=ys))) H):cH K v w H Q:=mU h k (AE xs) (AE ys) (by rw[Ax];exact q)
theorem zAC(h:Is K H v (TN xs))(k:Is K H w (TN ys))(q:Q (.bl (!decide (xs=ys))) H):df K v w H Q:=n_ h k (AE xs) (AE ys) (by rw[Ax];exact q)
theorem zAp(h:Is K H v (LN xs))(k:Is K H w (LN ys))(q:Q (.bl (!decide (xs=ys))) H):df K v w H Q:=n_ h k (Lg xs) (Lg ys) (by rw[zDk];exact q)
theorem Dk{i:Nat}(t:av K H vs (xs.map N))(h:i<xs.length):∃x,vs[i]? = some x/\Is K H x (N (xs.getD i 0)):=by
 refine t.get ?_;rw[wu,wa,wc h]
 rfl
theorem d_{i:Nat}{x:V}(t:av K H vs (xs.map N))(h:vs[i]? = some x):i<xs.length/\Is K H x (N (xs.getD i 0)):=by
 have hl:=t.length;rw[wo]at hl
 have hi:i<xs.length:=by
  rcases wJ i vs.length with z | z
  ·lia
  ·rw[wP z]at h;cases h
 obtain⟨x',e,hx⟩:=Dk t hi;rw[h]at e;cases e;exact⟨hi,hx⟩
theorem KW(h:Is K H v (TN xs))(h0:0<=m)(h1:m<xs.length)(q:∀x,Is K H x (N (xs.getD m.toNat 0))->Q x H):c6 K v (.int m) H Q:=by
 obtain⟨a,vs,rfl,hs,t⟩:=b7.mp h;obtain⟨n,rfl⟩:∃n:Nat,m=(n:Int):=⟨m.toNat,by lia⟩;obtain⟨x,e,hx⟩:=Dk (i:=n) t (by lia);exact zo hs (ke e) (q x hx)
theorem kI(h:Is K H v (LN xs))(h0:0<=m)(h1:m<xs.length)(q:∀x,Is K H x (N (xs.getD m.toNat 0))->Q x H):c6 K v (.int m) H Q:=by
 obtain⟨a,vs,rfl,hs,t⟩:=cj.mp h;obtain⟨n,rfl⟩:∃n:Nat,m=(n:Int):=⟨m.toNat,by lia⟩;obtain⟨x,e,hx⟩:=Dk (i:=n) t (by lia);exact iF hs (ke e) (q x hx)
theorem tY(h:Is K H v (TN xs))(q:Q (.int xs.length) H):cF K [v] H Q:=kQ h (by rw[wo];exact q)
theorem zyb(h:Is K H v (LN xs))(q:Q (.int xs.length) H):cF K [v] H Q:=by
 obtain⟨a,vs,rfl,hs,t⟩:=cj.mp h;have:=t.length;rw[wo]at this;exact iB hs (by rw[this];exact q)
theorem dE(h:H l=some (.lst vs))(t:av K H vs (xs.map N)):Is K H (.ref l) (LN xs):=cj.mpr ⟨l,vs,rfl,.of h,t⟩
theorem g_:∀{xs:List Rat}{vs:List V},vs.length=xs.length->(∀i x,vs[i]? = some x->Is K H x (N (xs.getD i 0)))->av K H vs (xs.map N)
 | [],vs,hl,_=>by
  have:vs=[]:=Va hl;subst this;exact .nil
 | x::xs,[],hl,_=>by cases hl
 | x::xs,u::vs,hl,h=>by
  rw[va];exact .cons (h 0 u rfl) (g_ (by simpa using hl) λi y e=>h (i+1) y e)
end
section
variable{K:wb}{g:TG}{tt:TT}{te:TE}{src:List (Option Nat)}{σ : St}{H:Hp}{Q:VK}{a:we}{vs:List V}{n:Int}{tl:St}{o0:Option V}
def hZ(H:Hp)(tl:St)(Rel:Nat->V->Hp->Prop)(D:we)(i:Nat)(ys:List V)(σ':St)(H':Hp):Prop :=
 (∃o,σ'=o::tl)/\H D=none/\ag H H'/\H' D=some (.lst ys)/\ys.length=i /\ ∀j y,ys[j]? = some y->Rel j y H'
theorem hZ.same{Rel:Nat->V->Hp->Prop}{D:we}{i:Nat}{ys:List V}{σ':St}{H':Hp}(h:hZ H tl Rel D i ys σ' H'):ag H H':=h.2.2.1
theorem dR{Rel:Nat->V->Hp->Prop}{D:we}{i:Nat}{ys:List V}{σ' σ3:St}{H1 H5:Hp}{y:V}(inv:hZ H tl Rel D i ys σ' H1)(hi:i<=1000)(hk:∀i v H1 H2,bE H1 H2->Rel i v H1->Rel i v H2)(hσ : ∃o,σ3=o::tl)(s:ag H1 H5)(r:Rel i y H5):rV (hZ H tl Rel) D i σ3 y H5:=by
 obtain⟨_,hn,s1,hD,hl,hr⟩:=inv;have hD5:=s _ _ hD;refine kF hD5 (by lia) λH6 E6 e6=>⟨hσ,hn,(s1.trans s).grow hn E6,e6,by simp[hl],λj z hz=>?_⟩
 have k6:bE H5 H6:=E6.keep hD5;rcases wJ j ys.length with hj | hj
 ·rw[vO hj]at hz
  exact hk _ _ _ _ (s.keep.trans k6) (hr j z hz)
 ·have hj':j=ys.length:=by
   rcases wJ ys.length j with q | q
   ·rw[wP (by simp;lia)]at hz;cases hz
   ·lia
  subst hj';rw[vf (wq _),W5]at hz;cases hz;rw[hl];exact hk _ _ _ _ k6 r
theorem jT(hx:aO K H a vs)(hsrc:dN src σ = o0::tl)(Rel:Nat->V->Hp->Prop)(hs:∀D i x ys o H1,vs[i]? = some x->hZ H tl Rel D i ys (o::tl) H1->iA (hZ H tl Rel) g tt te D i x (o::tl) H1)
  (hd:∀D ys H',H D=none->ag H H'->H' D=some (.lst ys)->ys.length=vs.length->(∀j y,ys[j]? = some y->Rel j y H')->Q (.ref D) H'):rM K g tt te src σ (.ref a) H Q:=by
 refine mL hx (hZ H tl Rel) (λD H' n s e=>⟨⟨o0,hsrc⟩,n,s,e,rfl,λj y z=>by simp at z⟩) (λD i ys σ' H' h=>h.same.seq hx) ?_ λD ys σ' H' ⟨_,n,s,e,hl,r⟩=>hd D ys H' n s e hl r
 rintro D i x ys σ' H' hx' h;obtain⟨⟨o,rfl⟩,_⟩:=id h;exact hs D i x ys o H' hx' h
theorem iD(hx:aV K H a vs)(hsrc:dN src σ = o0::tl)(Rel:Nat->V->Hp->Prop)(hs:∀D i x ys o H1,vs[i]? = some x->hZ H tl Rel D i ys (o::tl) H1->iA (hZ H tl Rel) g tt te D i x (o::tl) H1)
  (hd:∀D ys H',H D=none->ag H H'->H' D=some (.lst ys)->ys.length=vs.length->(∀j y,ys[j]? = some y->Rel j y H')->Q (.ref D) H'):yn K g tt te src σ (.ref a) H Q:=by
 refine ztU hx (hZ H tl Rel) (λD H' n s e=>⟨⟨o0,hsrc⟩,n,s,e,rfl,λj y z=>by simp at z⟩) (λD i ys σ' H' h=>h.same.ji hx) ?_ λD ys σ' H' ⟨_,n,s,e,hl,r⟩=>hd D ys H' n s e hl r
 rintro D i x ys σ' H' hx' h;obtain⟨⟨o,rfl⟩,_⟩:=id h;exact hs D i x ys o H' hx' h
theorem Ro(h0:0<=n)(h1:n<1000000000)(hsrc:dN src σ = o0::tl)(Rel:Nat->V->Hp->Prop)(hs:∀D (i:Nat) ys o H1,i<n.toNat->hZ H tl Rel D i ys (o::tl) H1->iA (hZ H tl Rel) g tt te D i (.int (i:Int)) (o::tl) H1)
  (hd:∀D ys H',H D=none->ag H H'->H' D=some (.lst ys)->ys.length=n.toNat->(∀j y,ys[j]? = some y->Rel j y H')->Q (.ref D) H'):EG g tt te src σ [.int n] H Q:=by
 refine zuQ (by lia) h1 (hZ H tl Rel) (λD H' n s e=>⟨⟨o0,hsrc⟩,n,s,e,rfl,λj y z=>by simp at z⟩) ?_ λD ys σ' H' ⟨_,n,s,e,hl,r⟩=>hd D ys H' n s e hl r
 rintro D i ys σ' H' hi h;obtain⟨⟨o,rfl⟩,_⟩:=id h;exact hs D i ys o H' hi h
theorem gR{xs:List Rat} : ∀(i:Nat)(v:V)(H1 H2:Hp),bE H1 H2->Is K H1 v (N (xs.getD i 0))->Is K H2 v (N (xs.getD i 0)):=λi v H1 H2 k h=>h.gT k
end
theorem mZ{H H':Hp}{l:we}(s:ag H H')(h:H' l=none):H l=none:=by
 cases e:H l with
 | none=>rfl
 | some o=>rw[s _ _ e]at h;cases h
def TZ(ns:List Int):wB:=.tuple (ns.map PyData.int)
def LL(rss:List (List Rat)):wB:=.list (rss.map LN)
theorem MQ:∀ns:List Int,bW (ns.map PyData.int)=true
 | []=>by simp[bW]
 | n::ns=>by rw[va,bW,MQ ns];rfl
theorem NQ(ns:List Int):cw (TZ ns)=true:=by rw[TZ,cw];exact MQ ns
section
variable{K:wb}{H H' H2:Hp}{Q:VK}{v w y:V}{p l:we}{vs:List V}{ns:List Int}{rss:List (List Rat)}{m:Int}{σ : St}
theorem lM:∀{ns:List Int}{vs:List V},av K H vs (ns.map PyData.int) ↔ vs=ns.map V.int
 | [],vs=>by rw[Qb,fK];rfl
 | n::ns,vs=>by
  rw[va,c8,va]
  constructor
  ·rintro ⟨x,r,rfl,h,t⟩
   rw[cz.mp h,lM.mp t]
  ·rintro rfl
   exact⟨_,_,rfl,cz.mpr rfl,lM.mpr rfl⟩
theorem mq:Is K H v (TZ ns) ↔ ∃a,v=.ref a/\aV K H a (ns.map V.int):=by
 unfold TZ;rw[b7]
 constructor
 ·rintro ⟨a,xs,e,h,t⟩
  rw[lM.mp t]at h;exact⟨a,e,h⟩
 ·rintro ⟨a,e,h⟩
  exact⟨a,_,e,h,lM.mpr rfl⟩
theorem Cb(h:Is K H v (TZ ns))(q:Q (.int ns.length) H):cF K [v] H Q:=kQ h (by rw[wo];exact q)
theorem Sq{i:Nat}(t:av K H vs (rss.map LN))(h:i<rss.length):∃x,vs[i]? = some x/\Is K H x (LN (rss.getD i [])):=by
 refine t.get ?_;rw[wu,wa,wc h]
 rfl
theorem Kw(h:Is K H v (LL rss))(h0:0<=m)(h1:m<rss.length)(q:∀x,Is K H x (LN (rss.getD m.toNat []))->Q x H):c6 K v (.int m) H Q:=by
 obtain⟨a,vs,rfl,hs,t⟩:=cj.mp h;obtain⟨n,rfl⟩:∃n:Nat,m=(n:Int):=⟨m.toNat,by lia⟩;obtain⟨x,e,hx⟩:=Sq (i:=n) t (by lia);exact iF hs (ke e) (q x hx)
theorem CH{α : Type}{xs:List α}{x : α}(h:xs[xs.length-1]? = some x):iH xs (-1)=some x:=by
 have hl:0<xs.length:=by
  cases xs with
  | nil=>cases h
  | cons _ _=>simp
 unfold iH gg;rw[if_neg (by lia),if_pos (by lia)]
 show xs[((-1:Int)+(xs.length:Int)).toNat]? = some x
 rw[show((-1:Int)+(xs.length:Int)).toNat=xs.length-1 by lia];exact h
theorem zwl(h:Is K H v (LL rss))(h0:0<rss.length)(q:∀x,Is K H x (LN (rss.getD (rss.length-1) []))->Q x H):c6 K v (.int (-1)) H Q:=by
 obtain⟨a,vs,rfl,hs,t⟩:=cj.mp h;have hl:=t.length;rw[wo]at hl;obtain⟨x,e,hx⟩:=Sq (i:=rss.length-1) t (by lia);rw[<- hl]at e;exact iF hs (CH e) (q x hx)
theorem Pb:∀{rss:List (List Rat)}{vs:List V},vs.length=rss.length->(∀i x,vs[i]? = some x->Is K H x (LN (rss.getD i [])))->av K H vs (rss.map LN)
 | [],vs,hl,_=>by
  have:vs=[]:=Va hl;subst this;exact .nil
 | x::xs,[],hl,_=>by cases hl
 | x::xs,u::vs,hl,h=>by
  rw[va];exact .cons (h 0 u rfl) (Pb (by simpa using hl) λi y e=>h (i+1) y e)
end
def p6(K:wb):R2:=λx y H Q=>OM K x y H Q \/ ∃a b ys,x=.ref a/\y=.ref b/\aV K H a []/\aV K H b ys/\Q (.ref b) H
theorem BS{X:Cx} : aJ X (WO .Add) (p6 X.K):=by
 intro pins s σ H x y v u Q I rx ry h;rcases h with h | ⟨a,b,ys,rfl,rfl,ha,hb,q⟩
 ·exact zzW pins s σ H x y v u Q I rx ry h
 ·cases rx
  cases ry;obtain⟨its,r1,p1,_⟩:=I.tuple ha;cases r1;obtain⟨its2,r2,p2,_⟩:=I.tuple hb;obtain⟨⟨cls,dd,data,sl⟩,ho,hc,n,hd⟩:=id p1;obtain⟨⟨cls2,dd2,data2,sl2⟩,ho2,hc2,n2,hd2⟩:=id p2;simp only at hc hd hc2 hd2;subst hc hd hc2 hd2;exact concat_meets ⟨_,ho,rfl⟩ ⟨_,ho2,rfl⟩ noFill_tuple_add seq_tuple_add qS qL (qA _ _) (tuple_addW0 a b _ its2.toArray n n2 dd dd2 sl sl2 rfl) ⟨ho,ho2,⟨.ref b,H,I,rfl,q⟩⟩
theorem F9{K:wb}{H:Hp}{Q:VK}{v w:V}{ds es:List wB}(h1:Is K H v (.tuple ds))(h2:Is K H w (.tuple es))(z:ds.length+es.length<=1000)(q:∀u H',ag H H'->Is K H' u (.tuple (ds++es))->Q u H'):p6 K v w H Q:=by
 obtain⟨a,xs,rfl,ha,ta⟩:=b7.mp h1;obtain⟨b,ys,rfl,hb,tb⟩:=b7.mp h2;have la:=ta.length;have lb:=tb.length;cases xs with
 | nil =>
  obtain rfl:ds=[]:=Va (by simpa using la.symm);exact .inr ⟨a,b,ys,rfl,rfl,ha,hb,q _ H (ag.refl _) h2⟩
 | cons x xs =>
  refine .inl ⟨a,b,x::xs,ys,rfl,rfl,ha,hb,by simp,Vp (kH (by lia)),λhy=>?_,λhy p hp=>?_⟩
  ·obtain rfl:es=[]:=Va (by rw[hy]at lb;simpa using lb.symm)
   exact q _ H (ag.refl _) (by rw[Wc];exact h1)
  ·exact q _ _ (ag.upd hp) (b7.mpr ⟨p,_,rfl,.of cJ,(av.same (ag.upd hp) _ _ ta).append (av.same (ag.upd hp) _ _ tb)⟩)
theorem Inv.sy{X:Cx}{pins:List (we × Obj)}{σ : St}{H:Hp}{s:wm}{h':wQ}{t':Nat}{ch:List we}(I:Inv X pins σ H s)(k:∀b o,b ∉ ch->s.heap.get? b=some o->h'.get? b=some o)(hf:∀b∈ch,eG X pins H b):Inv X pins σ H {s with heap:=h',toks:=t'}:=by
 have nit:∀b u,H b=some u->b ∉ ch:=λb u e z=>by rw[(hf b z).1]at e;cases e
 refine I.step (g':=s.gens) (d':=s.drawn) (ch:=ch) (λb hb=>⟨(hf b hb).2.2.2.1,(hf b hb).2.1,(hf b hb).2.2.2.2.1,(hf b hb).2.2.2.2.2⟩) (λb o _ _ hc e _=>k b o hc e)
  (λb o _ _ hc e _=>⟨o.slots,k b o hc e⟩) (λ_ _ _ _ n=>n) (λb o hc e=>⟨o,k b o hc e⟩) (λ_ _ e=>e) (λ_ _ _ e=>e) (λb ps e=>⟨#[],by rw[e];simp⟩) (λm hm=>?_) (λb u e=>?_) I.bare
 ·obtain⟨o,es,ep,ho,r⟩:=hm
  exact⟨o,es,ep,k _ o (λz=>(hf _ z).2.1 rfl) ho,r⟩
 ·refine(I.aH b u e).jR (λc v hc q=>k c v ?_ q) (λ_ q=>q) λ_ _ q=>q
  rcases hc with z | z
  ·rw[z];exact nit b u e
  ·exact nit c _ z
section
variable{prog:wS}{w:wW}{A:vb}{E:wg->wm->Prop}{s:wm}
theorem zr5{it tu:we}{i:Nat}{its:Array wg}{x:wg}{Q:wg->wm->Prop}(ei:s.heap.IsTupleIter it tu i)(et:s.heap.IsTuple tu its)(ex:its[i]? = some x)
  (fin:∀h',h'.IsTupleIter it tu (i+1)->vF it s.heap h'->Q x {s with heap:=h'}):wA (model prog w) A (vG (.ref it)) Q E s:=by
 obtain⟨ob,eo,ec,ed⟩:=id ei;obtain⟨ot,eot,_,nt,edt⟩:=et;unfold vG;refine wf (wpAny_callSpecial?_slot (name:=vL "__next__") ei.typeIs Vz (vQ Vz ei.typeIs Qy ?_ (Qp _)))
 show wA _ _ (field (.ref it) 0 >>= _) _ _ s;refine wf (vi eo ed (x:=.ref tu) rfl ?_)
 show wA _ _ (if(Value.ref tu == Value.none)=true then _ else _) _ _ s;rw[if_neg (show ¬ ((Value.ref tu == Value.none)=true)from vC)]
 show wA _ _ (field (.ref it) 1 >>= _) _ _ s;refine wf (vi eo ed (x:=.int i 0) rfl ?_)
 show wA _ _ (seqItems? (.ref tu) >>= _) _ _ s;refine wf (Wk eot edt ?_)
 simp only[wU,ex];refine wf (Vj eo ed (by simp) (wy ⟨x,rfl,wy (fin _ ?_ (xR ..))⟩));exact⟨_,Vs _ eo (qa (VZ ed _)),(Xs ..).trans ec,by rw[VZ ed];simp[VE]⟩
theorem Kc{it tu:we}{i:Nat}{its:Array wg}{Q:wg->wm->Prop}(hh:A.handled=none)(ei:s.heap.IsTupleIter it tu i)(et:s.heap.IsTuple tu its)(ex:its[i]? = none)
  (fin:∀h' e,xi it s.heap h'->(∃o,h'.get? e=some o/\o.cls=.type "StopIteration")->E (.ref e) {s with heap:=h'}):wA (model prog w) A (vG (.ref it)) Q E s:=by
 obtain⟨ob,eo,ec,ed⟩:=id ei;obtain⟨ot,eot,_,nt,edt⟩:=et;unfold vG;refine wf (wpAny_callSpecial?_slot (name:=vL "__next__") ei.typeIs Vz (vQ Vz ei.typeIs Qy ?_ (Qp _)))
 show wA _ _ (field (.ref it) 0 >>= _) _ _ s;refine wf (vi eo ed (x:=.ref tu) rfl ?_)
 show wA _ _ (if(Value.ref tu == Value.none)=true then _ else _) _ _ s;rw[if_neg (show ¬ ((Value.ref tu == Value.none)=true)from vC)]
 show wA _ _ (field (.ref it) 1 >>= _) _ _ s;refine wf (vi eo ed (x:=.int i 0) rfl ?_)
 show wA _ _ (seqItems? (.ref tu) >>= _) _ _ s;refine wf (Wk eot edt ?_)
 simp only[wU,ex];refine wf (V0 (wf (Vj eo ed (by simp) ?_)))
 show wA _ _ (newExc (.type "StopIteration") [] >>= _) _ _ _;refine wf ?_;simp only[newExc,newTuple]
 refine wf (Wo ?_ (by size_fits));refine wf (m:=firstArgMember _ _) (wpAny_of_eq (a:=Value.none) (by first | rfl | (simp only[firstArgMember];rfl)) ?_);refine Wo ?_ (by size_fits);simp only[raiseNew];refine wf (wpAny_handled ?_)
 first | rw[hh] | rw[show A.in1.handled=none from hh]
 exact wf (wy (wpAny_throw (fin _ _ (((xR ..).extBut.push _).push _) ⟨_,wK _ rfl,rfl⟩)))
theorem jq(hh:A.handled=none)(it tu:we)(hne:tu≠it)(its:Array wg):Draws prog w A it [it,tu] its.size (λi v=>its[i]? = some v) (λi h=>h.IsTupleIter it tu i/\h.IsTuple tu its) where
 live:=λ_ _ st=>let ⟨o,ho,_⟩:=st.1;⟨o,ho⟩
 frame:=λ_ _ _ st hk=>⟨st.1.at λo e=>hk it (by simp) o e,st.2.at λo e=>hk tu (by simp) o e⟩
 item:=λi s Q E hi st hQ=>zr5 st.1 st.2 (x:=its[i]) (by simp[hi]) λh' hit' hs'=>hQ _ h' s.toks (by simp[hi]) ⟨hit',st.2.extBut hs'.extBut hne⟩ hs'
 done:=λs Q E st hE=>Kc hh st.1 st.2 (by simp) hE
open AutoSeq1 (wpAny_loadPart') in
theorem zsX(tu:we)(its:Array wg)(n:Nat)(dct:Option we)(sl:Array (Option wg)):Meets (Builtin.«enumerate.__new__» ⟨[.type "enumerate",.ref tu],[]⟩) (λ_ R s=>s.heap.get? tu=some {cls:=.type "tuple",dict:=dct,data:=.seq its n,slots:=sl} /\
  R (.ok (.ret (.ref (s.heap.push {cls:=.type "tuple_iterator",data:=.fields #[.ref tu,.int 0 0]}).objs.size))) {s with heap:=(s.heap.push {cls:=.type "tuple_iterator",data:=.fields #[.ref tu,.int 0 0]}).push {cls:=.type "enumerate",data:=.fields #[.none,.bool false,.ref s.heap.objs.size,VE 0,.none,.none]}}) :=
 .of_wp λprog w A R s h=>by
  obtain⟨hp,g,d,tk,os⟩:=s;obtain⟨et,h⟩:=h;have hsub:=sub_enumerate;have hT:QX (Qr ⟨hp,g,d,tk,os⟩) tu its:=⟨_,et,rfl,n,rfl⟩
  wp_walk using wpAny_loadPart' et
  refine wpAny_stack_any λst=>wy ?_
  split
  ·rename_i c _ _ _ _ _
   cases (c == Value.type "enumerate")<;>(wp_walk using wpAny_loadPart' et,W2 hT;exact⟨_,rfl,h⟩)
  ·wp_walk using wpAny_loadPart' et,W2 hT
   exact⟨_,rfl,h⟩
theorem ZR{tu:we}{its:Array wg}{Q:wg->wm->Prop}(hT:s.heap.IsTuple tu its)(fin:∀h',IsEnum h' (s.heap.objs.size+1) s.heap.objs.size 0 .none->h'.IsTupleIter s.heap.objs.size tu 0->(∀b o,s.heap.get? b=some o->h'.get? b=some o)->Q (.ref (s.heap.objs.size+1)) {s with heap:=h'}) :
  wA (model prog w) A (call (.type "enumerate") [.ref tu]) Q E s:=by
 obtain⟨⟨c,dct,dt,sl⟩,et,hc,n,hd⟩:=hT;obtain rfl:c=.type "tuple":=hc;obtain rfl:dt=.seq its n:=hd;refine callType_new F.called_enumerate (by decide) (F.typeCall_enumerate_1 _) (F.newCall_enumerate_1 _) (λobj=>F.args_object_init_2 obj _) F.entry_enumerate_new (zsX tu its n dct sl) ⟨et,?_⟩;have hz:(s.heap.push {cls:=.type "tuple_iterator",data:=.fields #[.ref tu,.int 0 0]}).objs.size=s.heap.objs.size+1:=WC ..
 show _/\_
 rw[hz]
 have he:IsEnum ((s.heap.push {cls:=.type "tuple_iterator",data:=.fields #[.ref tu,.int 0 0]}).push {cls:=.type "enumerate",data:=.fields #[.none,.bool false,.ref s.heap.objs.size,VE 0,.none,.none]}) (s.heap.objs.size+1) s.heap.objs.size 0 .none:=by
  rw[<- hz];exact wK _ rfl
 exact⟨⟨_,he,rfl⟩,fin _ he ⟨_,wp _ (wK _ rfl),rfl,rfl⟩ λb o x=>wp _ (wp _ x)⟩
end
def mS(K:wb)(a:we):It :=
 ⟨λi H=>∃xs x,aV K H a xs/\xs[i]? = some x,λi H y H'=>∃t x,y=.ref t/\H t=none/\(∀xs,aV K H a xs->xs[i]? = some x)/\H'=upd H t (.tup [.int (i:Int),x]),λi H=>∃xs,aV K H a xs/\xs.length<=i⟩
theorem zuZ{P:wS}{w:wW}{K:wb}{elts:List Expr}{k1}{tpos:Pos}(a e it:we)(hne:e≠it):iX P w K (.Tuple elts k1 tpos) (mS K a) [e,it] e (λi h=>(∃old,IsEnum h e it (i:Int) old)/\h.IsTupleIter it a i) where
 mem:=by simp
 obj:=λi h st b hb=>by
  obtain⟨⟨old,he⟩,o,eo,c,d⟩:=st;rcases wL.mp hb with rfl | hb
  ·exact⟨_,he,λv z=>by cases (show Data.fields _=Data.cell v from z)⟩
  ·rw[wY.mp hb]
   exact⟨o,eo,λv z=>by rw[d]at z;cases z⟩
 keep:=λi h h' st k=>⟨let ⟨old,he⟩:=st.1;⟨old,k e (by simp) _ he⟩,st.2.at λo eo=>k it (by simp) o eo⟩
 item:=by
  intro X hP hw hK hc i pins s σ H E I hf st hg;subst hP hw hK;obtain⟨⟨old,he⟩,st⟩:=st;obtain⟨xs,x,hq,hx⟩:=hg;obtain⟨its,rv,p,hz⟩:=I.tuple hq;obtain⟨u,hu,ru⟩:=rv.get hx;have p':s.heap.IsTuple a its.toArray:=p
  have hai:a≠it:=λz=>by
   subst z;obtain⟨o,e1,c1,_⟩:=st;obtain⟨o',e2,c2,_⟩:=p';rw[e1]at e2;cases e2;rw[c1]at c2;exact absurd c2 (by decide)
  have hae:e≠a:=λz=>by
   subst z;obtain⟨o',e2,c2,_⟩:=p';rw[he]at e2;cases e2;exact absurd (show Value.type "enumerate"=Value.type "tuple" from c2) (by decide)
  have hlt:i<its.toArray.size:=by
   rcases wJ i its.length with z | z
   ·simpa using z
   ·rw[wP z]at hu;cases hu
  refine wpAny_pyNext_enum_itemD (jq (A:=X.A.in1) (I.ok.hd hc) it a hai its.toArray) he ⟨st,p'⟩ hlt hne (by simp[hne,hae]) λv h1 tk hv ho hs1 hT hsz hk=>?_
  have hvu:v=u:=by
   have hv':its[i]? = some v:=by simpa using hv
   rw[hu]at hv';exact(w6 hv').symm
  subst hvu
  have I1:Inv X pins σ (upd H s.heap.objs.size (.tup [.int (i:Int),x])) {s with heap:=s.heap.push {cls:=.type "tuple",data:=.seq ([.int (i:Int) tk,v]:List wg).toArray},toks:=tk+1} :=
   I.laid (λb o q=>wp _ q) (wq _) (show dD X.prog X.w _ _ _ (.tup [.int (i:Int),x])from⟨mV (by simp),_,.cons ⟨_,rfl⟩ (.cons ru .nil),qZ _ _⟩)
  have lt1:∀b∈[e,it],b<s.heap.objs.size:=λb hb=>by
   rcases wL.mp hb with rfl | hb
   ·exact wC he
   ·rw[wY.mp hb]
    obtain⟨o,eo,_⟩:=st;exact wC eo
  have hf1:∀b∈[e,it],eG X pins (upd H s.heap.objs.size (.tup [.int (i:Int),x])) b:=λb hb=>⟨by rw[eJ (wT (lt1 b hb))];exact(hf b hb).1,(hf b hb).2⟩
  refine⟨_,rfl,wpAny_letOwnedTupleGo_enum ho λh2 he2 hs2=>?_⟩;refine⟨.ref s.heap.objs.size,_,Inv.sy (s:={s with heap:=s.heap.push {cls:=.type "tuple",data:=.seq ([.int (i:Int) tk,v]:List wg).toArray},toks:=tk+1}) (ch:=[e,it]) I1 (λb o hb q=>?_) hf1,rfl,⟨_,x,rfl,I.aH.fresh (wq _),λys hy=>by rw[I.Bq hy hq];exact hx,rfl⟩,⟨⟨_,by simpa using he2⟩,hs1.1.at λo eo=>(hs2.2 it (Wj hne)).trans eo⟩,λb hb=>(hf1 b hb).1⟩;have hbe:b≠e:=λz=>hb (by simp[z])
  have hbi:b≠it:=λz=>hb (by simp[z])
  refine(hs2.2 b hbe).trans ?_
  by_cases hb2:b=s.heap.objs.size
  ·subst hb2
   rw[wK _ rfl]at q;cases q;exact hT
  ·exact hk b o hbe hbi (by rw[QN _ _ _ hb2]at q;exact q)
 done:=by
  intro X hP hw hK hc i pins s σ H E I hf st hg;subst hP hw hK;obtain⟨⟨old,he⟩,st⟩:=st;obtain⟨xs,hq,hx⟩:=hg;obtain⟨its,rv,p,hz⟩:=I.tuple hq;have p':s.heap.IsTuple a its.toArray:=p
  have hai:a≠it:=λz=>by
   subst z;obtain⟨o,e1,c1,_⟩:=st;obtain⟨o',e2,c2,_⟩:=p';rw[e1]at e2;cases e2;rw[c1]at c2;exact absurd c2 (by decide)
  have hl:=rv.length;have hT:s.TypeIs (.ref e) "enumerate":=⟨_,he,rfl⟩;unfold Ve;refine wf (WF (wpAny_callSpecial?_slot (name:=vL "__next__") hT qb (vQ qb hT xj ?_ (Q2 _))))
  show wA _ _ (field (.ref e) 2 >>= _) _ _ _;refine wf (vi he rfl (x:=.ref it) rfl ?_)
  refine wf (Kc (A:=X.A.in1) (I.ok.hd hc) st p' (by simp;lia) λh' y he' hx'=>?_);obtain⟨o,ho,hcl⟩:=hx';refine wf (WL (T:="StopIteration") (b:=true) ⟨o,ho,hcl⟩ VI (wy ⟨rfl,?_⟩));obtain⟨f0,f1,f2,f3,f4,f5⟩:=hf it (by simp);exact I.turned (t':=s.toks) (λb o hb e=>he' b o hb e) f0 f1 f3 f4 f5
 self:=λ_ _ _ _ _ st h=>let ⟨_,he⟩:=st.1;wpAny_pyIter_enum he h
def DJ(K:wb)(ta:TA):TI:=λσ H R=>ta σ H λvs H1=>∃a,vs=[.ref a]/\(∃xs,aV K H1 a xs)/\R (mS K a) H1
theorem OB:vI "enumerate"=some (.type "enumerate"):=by decide +kernel
theorem T1{X:Cx}{elts:List Expr}{k1}{tpos p pos:Pos}{l:Expr}{ta:TA}(hg:Gl X "enumerate")(hm:X.mg "enumerate"=none)(ha:PA X [l] ta)(hs:w8 [l] X.env=[(false,eval l X.env)]:=by rfl) :
  PI X (.Tuple elts k1 tpos) (.Call (.Name "enumerate" p) [l] [] pos) (DJ X.K ta):=by
 intro pins s σ H R I h;refine Call_ (gu I hg hm OB (vk (aI (ha pos pins s σ H _ I h) λus s1 ⟨vs,H1,I1,r1,q1⟩=>?_) hs rfl));obtain⟨a,rfl,⟨xs,hq⟩,q⟩:=q1;obtain⟨u,rfl,ru⟩:=gW r1;cases ru;obtain⟨its,rv,p,hz⟩:=I1.tuple hq;refine ZR (show s1.heap.IsTuple a its.toArray from p) λh' he hit kp=>?_
 refine wpAny_pyIter_enum he ?_;refine⟨s1.heap.objs.size+1,[s1.heap.objs.size+1,s1.heap.objs.size],_,_,H1,rfl,I1.kept (t':=s1.toks) kp,zuZ a (s1.heap.objs.size+1) s1.heap.objs.size (XT _),⟨⟨_,he⟩,hit⟩,λb hb=>?_,q⟩
 have hb':s1.heap.objs.size<=b:=by
  rcases wL.mp hb with rfl | hb
  ·lia
  ·rw[wY.mp hb];exact wq _
 exact I1.jg hb' (I1.aH.fresh hb')
def Ri(K:wb)(g:TG)(tb:TS)(D:cB)(σ : St)(vs:List V)(H1:Hp):Prop:=∃a,vs=[.ref a]/\(∃xs,aV K H1 a xs) /\
 ∃W:Nat->Nat->St->Hp->Prop,(∃m,W 0 m σ H1) /\ ∀i m σ H,W i m σ H ->
  ((mS K a).stop i H/\D.nx σ H)\/((mS K a).go i H /\ ∃M:St->Hp->Prop,(∀σ' H',M σ' H'->∃m',m'<m/\W (i+1) m' σ' H') /\ ∀x H',(mS K a).fH i H x H'->g x σ H' λσ2 H2=>tb {D with nx:=M,ct:=M,bk:=D.nx} σ2 H2)
section
variable{K:wb}{ta:TA}{g:TG}{tb:TS}{D:cB}{σ : St}{H:Hp}{a:we}{xs:List V}
theorem zzM(h:ta σ H λvs H1=>Ri K g tb D σ vs H1):mD (DJ K ta) g tb D σ H:=h
theorem zwA(hx:aV K H a xs)(Pv:Nat->St->Hp->Prop)(h0:Pv 0 σ H)(hl:∀i σ H,i<=xs.length->Pv i σ H->aV K H a xs)
  (hs:∀i x σ H t H',xs[i]? = some x->Pv i σ H->H t=none->ag H H'->H' t=some (.tup [.int (i:Int),x])->g (.ref t) σ H' λσ2 H2=>tb {D with nx:=Pv (i+1),ct:=Pv (i+1),bk:=D.nx} σ2 H2) (hd:∀σ H,Pv xs.length σ H->D.nx σ H):Ri K g tb D σ [.ref a] H:=by
 refine⟨a,rfl,⟨xs,hx⟩,λi m σ H=>i+m=xs.length/\Pv i σ H,⟨xs.length,by lia,h0⟩,?_⟩;rintro i m σ H ⟨him,hp⟩;have hq:=hl i σ H (by lia) hp
 by_cases hm:m=0
 ·have e:i=xs.length:=by lia
  subst e;exact .inl ⟨⟨xs,hq,wq _⟩,hd _ _ hp⟩
 ·have hi:i<xs.length:=by lia
  refine .inr ⟨⟨xs,xs[i],hq,by simp[hi]⟩,λσ' H'=>Pv (i+1) σ' H',λσ' H' h=>⟨m-1,by lia,by lia,h⟩,?_⟩;rintro y H' ⟨t,x,rfl,hn,hx',rfl⟩;exact hs i x σ H t _ (hx' xs hq) hp hn (ag.upd hn) cJ
end
structure ZA(z TI TO i1 i2:we)(f1 f2:List we):Prop where
 a1:TI≠z
 a2:TO≠z
 a3:i1≠z
 a4:i2≠z
 a5:TI≠TO
 a6:TI≠i1
 a7:TI≠i2
 a8:TO≠i1
 a9:TO≠i2
 b0:i1≠i2
 b1:z ∉ f1
 b2:z ∉ f2
 b3:TO ∉ f1
 b4:TO ∉ f2
 b5:i1 ∉ f2
 b6:i2 ∉ f1
section
variable{prog:wS}{w:wW}{A:vb}{E:wg->wm->Prop}{s:wm}{z TI TO i1 i2:we}{f1 f2:List we}{n1 n2 k:Nat}{P1 P2:Nat->wg->Prop}{S1 S2:Nat->wQ->Prop}{a b:wg}
theorem JQ{Q:wg->wm->Prop}(D1:Draws prog w A i1 f1 n1 P1 S1)(D2:Draws prog w A i2 f2 n2 P2 S2)(ap:ZA z TI TO i1 i2 f1 f2)(hz:IsZip s.heap z TI TO .none)(hi:Ws s.heap TI (.ref i1) (.ref i2))(ho:Ws s.heap TO a b)
  (h1:S1 k s.heap) (h2:S2 k s.heap) (l1:k<n1) (l2:k<n2)
  (fin:∀x y h' tk,P1 k x->P2 k y->IsZip h' z TI TO (VE s.heap.objs.size)->Ws h' TO x y->S1 (k+1) h'->S2 (k+1) h'->Ws h' s.heap.objs.size x y ->
   (∀c o,c≠z->c≠TO->c≠i1->c≠i2->s.heap.get? c=some o->h'.get? c=some o)->Q (.ref s.heap.objs.size) {s with heap:=h',toks:=tk}) :
  wA (model prog w) A (Builtin.«zip.__next__» ⟨[.ref z],[]⟩) (λr s'=>∃v,r=.done (.ret v)/\Q v s') E s:=by
 show wA _ _ (field (.ref z) 2 >>= _) _ _ _;refine wf (vi hz rfl (x:=.bool false) rfl ?_)
 show wA _ _ (field (.ref z) 3 >>= _) _ _ _;refine wf (vi hz rfl (x:=.ref TI) rfl ?_)
 refine wf (Wk hi rfl ?_);show wA _ _ (vE (.ref z) >>= _) _ _ _
 refine wf ?_;unfold vE;refine wf (vi hz rfl (x:=.none) rfl (wy ?_));simp only[if_true];refine wf (V0 ?_);refine wf (vi hz rfl (x:=.ref TO) rfl ?_);refine wf (W3 hz (by simp) λg1 zz1 sb1=>?_);have zz1:IsZip g1 z TI TO .ellipsis:=zz1;refine wf ?_;simp only[XU,ue,qw,Qq];refine wf (wf (wpAny_onRaise ?_));show wA _ _ (vG (.ref i1) >>= _) _ _ _
 have h1a:S1 k g1:=D1.frame _ _ _ h1 λc hc o e=>sb1.extBut c o (λq=>ap.b1 (q ▸ hc)) e
 have h2a:S2 k g1:=D2.frame _ _ _ h2 λc hc o e=>sb1.extBut c o (λq=>ap.b2 (q ▸ hc)) e
 refine wf (D1.item k _ _ _ l1 h1a λx g2 t2 px h1b sb2=>wy ?_);have ho2:Ws g2 TO a b:=sb2.extBut _ _ ap.a8 (sb1.extBut _ _ ap.a2 ho);have h2b:S2 k g2:=D2.frame _ _ _ h2a λc hc o e=>sb2.extBut c o (λq=>ap.b5 (q ▸ hc)) e
 refine wf (Wk ho2 rfl ?_);refine wf (wpAny_updateSeq_pair ho2 λg3 ho3 sb3=>?_);have ho3:Ws g3 TO x b:=ho3;have sb3:vF TO g2 g3:=sb3;have h1c:S1 (k+1) g3:=D1.frame _ _ _ h1b λc hc o e=>sb3.extBut c o (λq=>ap.b3 (q ▸ hc)) e
 have h2c:S2 k g3:=D2.frame _ _ _ h2b λc hc o e=>sb3.extBut c o (λq=>ap.b4 (q ▸ hc)) e
 refine wf (wpAny_letGo (wy ?_));refine wf (wf (wpAny_onRaise ?_))
 show wA _ _ (vG (.ref i2) >>= _) _ _ _;refine wf (D2.item k _ _ _ l2 h2c λy g4 t4 py h2d sb4=>wy ?_)
 have sb4:vF i2 g3 g4:=sb4;have ho4:Ws g4 TO x b:=sb4.extBut _ _ ap.a9 ho3;have h1d:S1 (k+1) g4:=D1.frame _ _ _ h1c λc hc o e=>sb4.extBut c o (λq=>ap.b6 (q ▸ hc)) e
 refine wf (Wk ho4 rfl ?_);refine wf (wpAny_updateSeq_pair ho4 λg5 ho5 sb5=>?_);have ho5:Ws g5 TO x y:=ho5;have sb5:vF TO g4 g5:=sb5;have h1e:S1 (k+1) g5:=D1.frame _ _ _ h1d λc hc o e=>sb5.extBut c o (λq=>ap.b3 (q ▸ hc)) e
 have h2e:S2 (k+1) g5:=D2.frame _ _ _ h2d λc hc o e=>sb5.extBut c o (λq=>ap.b4 (q ▸ hc)) e
 refine wf (wpAny_letGo (wy (wy ?_)));refine wf (Wk ho5 rfl ?_);refine wf (wpAny_newTuple ?_);have sb2:vF i1 g1 g2:=sb2;have sb1:vF z s.heap g1:=sb1;have hsz:g5.objs.size=s.heap.objs.size:=by rw[sb5.1,sb4.1,sb3.1,sb2.1,sb1.1]
 have zz5:IsZip g5 z TI TO .ellipsis:=sb5.extBut _ _ ap.a2.symm (sb4.extBut _ _ ap.a4.symm (sb3.extBut _ _ ap.a2.symm (sb2.extBut _ _ ap.a3.symm zz1)));have kept:∀c o,c≠z->c≠TO->c≠i1->c≠i2->s.heap.get? c=some o->g5.get? c=some o:=λc o c1 c2 c3 c4 e=>sb5.extBut _ _ c2 (sb4.extBut _ _ c4 (sb3.extBut _ _ c2 (sb2.extBut _ _ c3 (sb1.extBut _ _ c1 e))))
 have zlt:z<g5.objs.size:=wC zz5
 show wA _ _ (qG (.ref z) (.ref g5.objs.size) >>= _) _ _ _;refine wf ?_;unfold qG
 have zz6:IsZip (g5.push {cls:=.type "tuple",data:=.seq #[x,y]}) z TI TO .ellipsis:=wp _ zz5;refine wf (W3 zz6 (by simp) λg7 zz7 sb7=>?_);have zz7:IsZip g7 z TI TO (VE g5.objs.size):=zz7;refine W3 zz7 (by simp) λg8 zz8 sb8=>?_
 have zz8:IsZip g8 z TI TO (VE g5.objs.size):=zz8;have sb7:vF z (g5.push {cls:=.type "tuple",data:=.seq #[x,y]}) g7:=sb7;have sb8:vF z g7 g8:=sb8;have up:∀c o,c≠z->g5.get? c=some o->g8.get? c=some o:=λc o c1 e=>sb8.extBut _ _ c1 (sb7.extBut _ _ c1 (wp _ e))
 have new8:Ws g8 g5.objs.size x y:=sb8.extBut _ _ (vj zlt) (sb7.extBut _ _ (vj zlt) (wK _ rfl));rw[hsz]at zz8 new8;refine wy ⟨_,rfl,?_⟩
 show Q (.ref g5.objs.size) _
 rw[hsz];exact fin x y g8 _ px py zz8 (up _ _ ap.a2 ho5) (D1.frame _ _ _ h1e λc hc o e=>up c o (λq=>ap.b1 (q ▸ hc)) e) (D2.frame _ _ _ h2e λc hc o e=>up c o (λq=>ap.b2 (q ▸ hc)) e) new8 λc o c1 c2 c3 c4 e=>up c o c1 (kept c o c1 c2 c3 c4 e)
theorem JR{Q:Fin->wm->Prop}(D1:Draws prog w A i1 f1 n1 P1 S1)(D2:Draws prog w A i2 f2 n2 P2 S2)(ap:ZA z TI TO i1 i2 f1 f2)(hz:IsZip s.heap z TI TO .none)(hi:Ws s.heap TI (.ref i1) (.ref i2))(ho:Ws s.heap TO a b)
  (h1:S1 k s.heap) (h2:S2 k s.heap) (hk:k=n1\/(k<n1/\k=n2))
  (fin:∀h' e tk,(∀c o,c≠z->c≠TO->c≠i1->c≠i2->s.heap.get? c=some o->h'.get? c=some o)->(∃o,h'.get? e=some o/\o.cls=.type "StopIteration")->E (.ref e) {s with heap:=h',toks:=tk}) :
  wA (model prog w) A (Builtin.«zip.__next__» ⟨[.ref z],[]⟩) Q E s:=by
 show wA _ _ (field (.ref z) 2 >>= _) _ _ _;refine wf (vi hz rfl (x:=.bool false) rfl ?_)
 show wA _ _ (field (.ref z) 3 >>= _) _ _ _;refine wf (vi hz rfl (x:=.ref TI) rfl ?_)
 refine wf (Wk hi rfl ?_);show wA _ _ (vE (.ref z) >>= _) _ _ _
 refine wf ?_;unfold vE;refine wf (vi hz rfl (x:=.none) rfl (wy ?_));simp only[if_true];refine wf (V0 ?_);refine wf (vi hz rfl (x:=.ref TO) rfl ?_);refine wf (W3 hz (by simp) λg1 zz1 sb1=>?_);have zz1:IsZip g1 z TI TO .ellipsis:=zz1;have sb1:vF z s.heap g1:=sb1;refine wf ?_;simp only[XU,ue,qw,Qq];refine wf (wf (wpAny_onRaise ?_));show wA _ _ (vG (.ref i1) >>= _) _ _ _
 have h1a:S1 k g1:=D1.frame _ _ _ h1 λc hc o e=>sb1.extBut c o (λq=>ap.b1 (q ▸ hc)) e
 have h2a:S2 k g1:=D2.frame _ _ _ h2 λc hc o e=>sb1.extBut c o (λq=>ap.b2 (q ▸ hc)) e
 rcases hk with rfl | ⟨l1,rfl⟩
 ·refine wf (D1.done _ _ _ h1a λg2 e sb2 he=>?_)
  obtain⟨oe,hoe,hce⟩:=he;have zz2:IsZip g2 z TI TO .ellipsis:=sb2 _ _ ap.a3.symm zz1;have hez:e≠z:=λq=>by subst q;rw[zz2]at hoe;cases hoe;simp at hce
  exact W3 zz2 (by simp) λg3 _ sb3=>fin g3 e _ (λc o c1 _ c3 _ q=>sb3.extBut _ _ c1 (sb2 _ _ c3 (sb1.extBut _ _ c1 q))) ⟨oe,sb3.extBut _ _ hez hoe,hce⟩
 ·refine wf (D1.item k _ _ _ l1 h1a λx g2 t2 px h1b sb2=>wy ?_)
  have sb2:vF i1 g1 g2:=sb2;have ho2:Ws g2 TO a b:=sb2.extBut _ _ ap.a8 (sb1.extBut _ _ ap.a2 ho);have h2b:S2 k g2:=D2.frame _ _ _ h2a λc hc o e=>sb2.extBut c o (λq=>ap.b5 (q ▸ hc)) e
  refine wf (Wk ho2 rfl ?_);refine wf (wpAny_updateSeq_pair ho2 λg3 ho3 sb3=>?_);have sb3:vF TO g2 g3:=sb3;have h2c:S2 k g3:=D2.frame _ _ _ h2b λc hc o e=>sb3.extBut c o (λq=>ap.b4 (q ▸ hc)) e
  refine wf (wpAny_letGo (wy ?_));refine wf (wf (wpAny_onRaise ?_))
  show wA _ _ (vG (.ref i2) >>= _) _ _ _;refine wf (D2.done _ _ _ h2c λg4 e sb4 he=>?_)
  obtain⟨oe,hoe,hce⟩:=he;have zz4:IsZip g4 z TI TO .ellipsis:=sb4 _ _ ap.a4.symm (sb3.extBut _ _ ap.a2.symm (sb2.extBut _ _ ap.a3.symm zz1));have hez:e≠z:=λq=>by subst q;rw[zz4]at hoe;cases hoe;simp at hce
  exact W3 zz4 (by simp) λg5 _ sb5=>fin g5 e _ (λc o c1 c2 c3 c4 q=>sb5.extBut _ _ c1 (sb4 _ _ c4 (sb3.extBut _ _ c2 (sb2.extBut _ _ c3 (sb1.extBut _ _ c1 q))))) ⟨oe,sb5.extBut _ _ hez hoe,hce⟩
end
def cx(t:Bool)(K:wb)(H:Hp)(a:we)(xs:List V):Prop:=match t with
 | true=>aV K H a xs
 | false=>aO K H a xs
def jx(t:Bool)(h:wQ)(it a:we)(i:Nat):Prop:=match t with
 | true=>h.IsTupleIter it a i
 | false=>h.IsListIter it a i
def Nh(t:Bool)(h:wQ)(a:we)(its:Array wg):Prop:=match t with
 | true=>h.IsTuple a its
 | false=>h.IsList a its
theorem oK{prog:wS}{w:wW}{A:vb}(t:Bool)(hh:A.handled=none)(it a:we)(hne:a≠it)(its:Array wg):Draws prog w A it [it,a] its.size (λi v=>its[i]? = some v) (λi h=>jx t h it a i/\Nh t h a its):=by
 cases t
 ·exact Draws.list hh it a hne its
 ·exact jq hh it a hne its
theorem Inv.ia{X:Cx}{pins:List (we × Obj)}{σ : L2.St}{H:Hp}{s:wm}{t:Bool}{a:we}{xs:List V}(I:Inv X pins σ H s)(h:cx t X.K H a xs):∃its:List wg,aT xs its/\Nh t s.heap a its.toArray:=by
 cases t
 ·obtain⟨its,r,p,_⟩:=I.list h
  exact⟨its,r,p.isList⟩
 ·obtain⟨its,r,p,_⟩:=I.tuple h
  exact⟨its,r,p⟩
theorem Inv.Jg{X:Cx}{pins:List (we × Obj)}{σ : L2.St}{H:Hp}{s:wm}{t:Bool}{a:we}{xs ys:List V}(I:Inv X pins σ H s)(h:cx t X.K H a xs)(k:cx t X.K H a ys):xs=ys:=by
 cases t
 ·exact I.sr h k
 ·exact I.Bq h k
theorem jx.obj{t:Bool}{h:wQ}{it a:we}{i:Nat}(st:jx t h it a i):∃o,h.get? it=some o /\ ∀v,o.data≠.cell v:=by
 cases t
 ·obtain⟨o,e,_,d⟩:=st
  exact⟨o,e,λv z=>by rw[d]at z;cases z⟩
 ·obtain⟨o,e,_,d⟩:=st
  exact⟨o,e,λv z=>by rw[d]at z;cases z⟩
theorem jx.at{t:Bool}{h h':wQ}{it a:we}{i:Nat}(st:jx t h it a i)(k:∀o,h.get? it=some o->h'.get? it=some o):jx t h' it a i:=by
 cases t
 ·exact Heap.IsListIter.at st k
 ·exact Heap.IsTupleIter.at st k
def me(t u:Bool)(K:wb)(a b:we):It :=
 ⟨λi H=>∃xs x ys y,cx t K H a xs/\xs[i]? = some x/\cx u K H b ys/\ys[i]? = some y,
  λi H v H'=>∃(c:we)(x y:V),v=.ref c/\H c=none/\(∀xs,cx t K H a xs->xs[i]? = some x)/\(∀ys,cx u K H b ys->ys[i]? = some y)/\H'=upd H c (.tup [x,y]),
  λi H=>∃xs ys,cx t K H a xs/\cx u K H b ys/\(xs.length=i\/(i<xs.length/\ys.length=i))⟩
theorem zxO{P:wS}{w:wW}{K:wb}{elts:List Expr}{k1}{tpos:Pos}{t u:Bool}(a b z TI TO i1 i2:we)(ap:ZA z TI TO i1 i2 [i1,a] [i2,b])(na:a≠i1)(nb:b≠i2) :
  iX P w K (.Tuple elts k1 tpos) (me t u K a b) [z,TI,TO,i1,i2] z (λi h=>IsZip h z TI TO .none/\Ws h TI (.ref i1) (.ref i2)/\(∃p q,Ws h TO p q)/\jx t h i1 a i/\jx u h i2 b i) where
 mem:=by simp
 obj:=λi h st c hc=>by
  obtain⟨hz,hi,⟨p,q,ho⟩,s1,s2⟩:=st;simp only[wL,Wx,or_false]at hc;rcases hc with rfl | rfl | rfl | rfl | rfl
  ·exact⟨_,hz,λv z=>by cases (show Data.fields _=Data.cell v from z)⟩
  ·exact⟨_,hi,λv z=>by cases (show Data.seq _ _=Data.cell v from z)⟩
  ·exact⟨_,ho,λv z=>by cases (show Data.seq _ _=Data.cell v from z)⟩
  ·exact s1.obj
  ·exact s2.obj
 keep:=λi h h' st k=>by
  obtain⟨hz,hi,⟨p,q,ho⟩,s1,s2⟩:=st;exact⟨k z (by simp) _ hz,k TI (by simp) _ hi,⟨p,q,k TO (by simp) _ ho⟩,s1.at λo e=>k i1 (by simp) o e,s2.at λo e=>k i2 (by simp) o e⟩
 item:=by
  intro X hP hw hK hc i pins s σ H E I hf st hg;subst hP hw hK;obtain⟨hz,hi,⟨p,q,ho⟩,s1,s2⟩:=st;obtain⟨xs,x,ys,y,hq1,hx,hq2,hy⟩:=hg;obtain⟨its,r1,p1⟩:=I.ia hq1;obtain⟨jts,r2,p2⟩:=I.ia hq2;obtain⟨ux,hux,rux⟩:=r1.get hx;obtain⟨uy,huy,ruy⟩:=r2.get hy
  have lt1:i<its.toArray.size:=by
   rcases wJ i its.length with q | q
   ·simpa using q
   ·rw[wP q]at hux;cases hux
  have lt2:i<jts.toArray.size:=by
   rcases wJ i jts.length with q | q
   ·simpa using q
   ·rw[wP q]at huy;cases huy
  have hT:s.TypeIs (.ref z) "zip":=⟨_,hz,rfl⟩;unfold Ve
  refine wf (WF (wpAny_callSpecial?_slot (name:=vL "__next__") hT Wq (vQ Wq hT VP
   (JQ (oK (A:=X.A.in1) t (I.ok.hd hc) i1 a na its.toArray) (oK (A:=X.A.in1) u (I.ok.hd hc) i2 b nb jts.toArray) ap hz hi ho ⟨s1,p1⟩ ⟨s2,p2⟩ lt1 lt2 λv1 v2 h1 tk e1 e2 hz1 ho1 st1 st2 hT1 hk=>wy ?_) (VD _))))
  have ev1:v1=ux:=by
   have e1':its[i]? = some v1:=by simpa using e1
   rw[hux]at e1';exact(w6 e1').symm
  have ev2:v2=uy:=by
   have e2':jts[i]? = some v2:=by simpa using e2
   rw[huy]at e2';exact(w6 e2').symm
  subst ev1 ev2
  have I1:Inv X pins σ (upd H s.heap.objs.size (.tup [x,y])) {s with heap:=s.heap.push {cls:=.type "tuple",data:=.seq ([v1,v2]:List wg).toArray},toks:=tk} :=
   I.laid (λc o q=>wp _ q) (wq _) (show dD X.prog X.w _ _ _ (.tup [x,y])from⟨mV (by simp),_,.cons rux (.cons ruy .nil),qZ _ _⟩)
  have ltf:∀c∈[z,TI,TO,i1,i2],c<s.heap.objs.size:=λc hc=>by
   simp only[wL,Wx,or_false]at hc;rcases hc with rfl | rfl | rfl | rfl | rfl
   ·exact wC hz
   ·exact wC hi
   ·exact wC ho
   ·obtain⟨o,e,_⟩:=s1.obj;exact wC e
   ·obtain⟨o,e,_⟩:=s2.obj;exact wC e
  have hf1:∀c∈[z,TI,TO,i1,i2],eG X pins (upd H s.heap.objs.size (.tup [x,y])) c:=λc hc=>⟨by rw[eJ (wT (ltf c hc))];exact(hf c hc).1,(hf c hc).2⟩
  refine⟨_,rfl,wpAny_letOwnedTupleGo_zip hz1 λh2 hz2 hs2=>?_⟩;have hs2:vF z h1 h2:=hs2
  refine⟨.ref s.heap.objs.size,_,Inv.sy (s:={s with heap:=s.heap.push {cls:=.type "tuple",data:=.seq ([v1,v2]:List wg).toArray},toks:=tk}) (ch:=[z,TI,TO,i1,i2]) I1 (λc o hc q=>?_) hf1,rfl,
   ⟨_,x,y,rfl,I.aH.fresh (wq _),λzs hzs=>by rw[I.Jg hzs hq1];exact hx,λzs hzs=>by rw[I.Jg hzs hq2];exact hy,rfl⟩,
   ⟨hz2,hs2.extBut _ _ ap.a1 (hk _ _ ap.a1 ap.a5 ap.a6 ap.a7 hi),⟨_,_,hs2.extBut _ _ ap.a2 ho1⟩,st1.1.at λo e=>hs2.extBut _ _ ap.a3 e,st2.1.at λo e=>hs2.extBut _ _ ap.a4 e⟩,λc hc=>(hf1 c hc).1⟩
  have c1:c≠z:=λq=>hc (by simp[q])
  have c2:c≠TO:=λq=>hc (by simp[q])
  have c3:c≠i1:=λq=>hc (by simp[q])
  have c4:c≠i2:=λq=>hc (by simp[q])
  refine hs2.extBut _ _ c1 ?_
  by_cases hcs:c=s.heap.objs.size
  ·subst hcs
   rw[wK _ rfl]at q;cases q;exact hT1
  ·exact hk c o c1 c2 c3 c4 (by rw[QN _ _ _ hcs]at q;exact q)
 done:=by
  intro X hP hw hK hc i pins s σ H E I hf st hg;subst hP hw hK;obtain⟨hz,hi,⟨p,q,ho⟩,s1,s2⟩:=st;obtain⟨xs,ys,hq1,hq2,hend⟩:=hg;obtain⟨its,r1,p1⟩:=I.ia hq1;obtain⟨jts,r2,p2⟩:=I.ia hq2;have e1:=r1.length;have e2:=r2.length;have hT:s.TypeIs (.ref z) "zip":=⟨_,hz,rfl⟩;unfold Ve
  refine wf (WF (wpAny_callSpecial?_slot (name:=vL "__next__") hT Wq (vQ Wq hT VP
   (JR (k:=i) (oK (A:=X.A.in1) t (I.ok.hd hc) i1 a na its.toArray) (oK (A:=X.A.in1) u (I.ok.hd hc) i2 b nb jts.toArray) ap hz hi ho ⟨s1,p1⟩ ⟨s2,p2⟩ (by simp only[wR];lia) λh' y tk hk hx'=>?_) (VD _))))
  obtain⟨o,ho',hcl⟩:=hx';refine wf (WL (T:="StopIteration") (b:=true) ⟨o,ho',hcl⟩ VI (wy ⟨rfl,?_⟩));exact Inv.sy (ch:=[z,TI,TO,i1,i2]) I (λc o hc e=>hk c o (λq=>hc (by simp[q])) (λq=>hc (by simp[q])) (λq=>hc (by simp[q])) (λq=>hc (by simp[q])) e) hf
 self:=λ_ _ _ _ _ st h=>wpAny_pyIter_zip st.1 h
abbrev x_(h:wQ)(a:we):wQ:=h.push {cls:=.type "tuple_iterator",data:=.fields #[.ref a,.int 0 0]}
abbrev sY(h:wQ)(a b:we):wQ:=(x_ h a).push {cls:=.type "tuple_iterator",data:=.fields #[.ref b,.int 0 0]}
abbrev AJ(h:wQ)(a b:we):wQ:=(sY h a b).push {cls:=.type "tuple",data:=.seq #[.ref h.objs.size,.ref (x_ h a).objs.size]}
abbrev zE(h:wQ)(a b:we):wQ:=(AJ h a b).push {cls:=.type "tuple",data:=.seq #[.none,.none]}
abbrev nv(h:wQ)(a b:we):wQ:=(zE h a b).push {cls:=.type "zip",data:=.fields #[.none,.bool false,.bool false,.ref (sY h a b).objs.size,.ref (AJ h a b).objs.size]}
theorem zuy(a b:we)(xs ys:Array wg):Meets (Builtin.«zip.__new__» ⟨[.type "zip",.ref a,.ref b],[]⟩) (λ_ R s=>s.heap.IsTuple a xs/\s.heap.IsTuple b ys/\R (.ok (.ret (.ref (zE s.heap a b).objs.size))) {s with heap:=nv s.heap a b}) :=
 .of_wp λprog w A R s h=>by
  obtain⟨hp,g,d,tk,os⟩:=s;obtain⟨ha,hb,h⟩:=h;have hsub:=sub_zip;have hA:QX (Qr ⟨hp,g,d,tk,os⟩) a xs:=ha;have hB:QX (Qr ⟨hp.push {cls:=.type "tuple_iterator",data:=.fields #[.ref a,.int 0 0]},g,d,tk,os⟩) b ys:=hb.at λo e=>wp _ e
  wp_walk using W2 hA,W2 hB
  exact⟨_,rfl,h⟩
section
variable{prog:wS}{w:wW}{A:vb}{E:wg->wm->Prop}{s:wm}
theorem Ow{a b:we}{xs ys:Array wg}{Q:wg->wm->Prop}(ha:s.heap.IsTuple a xs)(hb:s.heap.IsTuple b ys)
  (fin:∀h',IsZip h' (s.heap.objs.size+4) (s.heap.objs.size+2) (s.heap.objs.size+3) .none->Ws h' (s.heap.objs.size+2) (.ref s.heap.objs.size) (.ref (s.heap.objs.size+1))->Ws h' (s.heap.objs.size+3) .none .none ->
   h'.IsTupleIter s.heap.objs.size a 0->h'.IsTupleIter (s.heap.objs.size+1) b 0->(∀c o,s.heap.get? c=some o->h'.get? c=some o)->Q (.ref (s.heap.objs.size+4)) {s with heap:=h'}):wA (model prog w) A (call (.type "zip") [.ref a,.ref b]) Q E s:=by
 refine callType_new F.called_zip (by decide) (XV _ _) (uf _ _) (λobj=>xF obj _ _) ug (zuy a b xs ys) ⟨ha,hb,?_⟩;have z1:(x_ s.heap a).objs.size=s.heap.objs.size+1:=WC ..;have z2:(sY s.heap a b).objs.size=s.heap.objs.size+2:=by rw[WC,z1]
 have z3:(AJ s.heap a b).objs.size=s.heap.objs.size+3:=by rw[WC,z2]
 have z4:(zE s.heap a b).objs.size=s.heap.objs.size+4:=by rw[WC,z3]
 have g5:(nv s.heap a b).get? (zE s.heap a b).objs.size=some _:=wK _ rfl;have g4:(nv s.heap a b).get? (AJ s.heap a b).objs.size=some _:=wp _ (wK _ rfl);have g3:(nv s.heap a b).get? (sY s.heap a b).objs.size=some _:=wp _ (wp _ (wK _ rfl));have g2:(nv s.heap a b).get? (x_ s.heap a).objs.size=some _:=wp _ (wp _ (wp _ (wK _ rfl)));have g1:(nv s.heap a b).get? s.heap.objs.size=some _:=wp _ (wp _ (wp _ (wp _ (wK _ rfl))))
 show _/\_
 rw[z2,z3,z4]at g5;rw[z1,z2]at g3;rw[z3]at g4;rw[z1]at g2;rw[z4];exact⟨⟨_,g5,rfl⟩,fin _ g5 g3 g4 ⟨_,g1,rfl,rfl⟩ ⟨_,g2,rfl,rfl⟩ λc o x=>wp _ (wp _ (wp _ (wp _ (wp _ x))))⟩
end
def pO(t u:Bool)(K:wb)(ta:TA):TI:=λσ H R=>ta σ H λvs H1=>∃a b,vs=[.ref a,.ref b]/\(∃xs,cx t K H1 a xs)/\(∃ys,cx u K H1 b ys)/\R (me t u K a b) H1
theorem A5:vI "zip"=some (.type "zip"):=by decide +kernel
theorem nC{x a b:we}(h:x≠a)(k:x≠b):x ∉ [a,b]:=by simp[h,k]
theorem LJ{n a b:Nat}(la:a<n)(lb:b<n):ZA (n+4) (n+2) (n+3) n (n+1) [n,a] [n+1,b] where
 a1:=wT (by lia)
 a2:=wT (by lia)
 a3:=wT (by lia)
 a4:=wT (by lia)
 a5:=wT (by lia)
 a6:=vj (by lia)
 a7:=vj (by lia)
 a8:=vj (by lia)
 a9:=vj (by lia)
 b0:=wT (by lia)
 b1:=nC (vj (by lia)) (vj (by lia))
 b2:=nC (vj (by lia)) (vj (by lia))
 b3:=nC (vj (by lia)) (vj (by lia))
 b4:=nC (vj (by lia)) (vj (by lia))
 b5:=nC (wT (by lia)) (vj (by lia))
 b6:=nC (vj (by lia)) (vj (by lia))
theorem FV{X:Cx}{elts:List Expr}{k1}{tpos:Pos}{pins:List (we × Obj)}{σ : L2.St}{H:Hp}{s:wm}{R:It->Hp->Prop}{h':wQ}{E:wg->wm->Prop}{t u:Bool}{a b:we}(I:Inv X pins σ H s)(la:a<s.heap.objs.size)(lb:b<s.heap.objs.size)
  (hz:IsZip h' (s.heap.objs.size+4) (s.heap.objs.size+2) (s.heap.objs.size+3) .none) (hi:Ws h' (s.heap.objs.size+2) (.ref s.heap.objs.size) (.ref (s.heap.objs.size+1))) (ho:Ws h' (s.heap.objs.size+3) .none .none)
  (s1:jx t h' s.heap.objs.size a 0) (s2:jx u h' (s.heap.objs.size+1) b 0) (kp:∀c o,s.heap.get? c=some o->h'.get? c=some o) (q:R (me t u X.K a b) H):wA (model X.prog X.w) X.A (pyIter (.ref (s.heap.objs.size+4))) (Dz X pins σ (.Tuple elts k1 tpos) R) E {s with heap:=h'}:=by
 refine wpAny_pyIter_zip hz ?_;refine⟨s.heap.objs.size+4,[s.heap.objs.size+4,s.heap.objs.size+2,s.heap.objs.size+3,s.heap.objs.size,s.heap.objs.size+1],_,_,H,rfl,I.kept (t':=s.toks) kp,zxO a b _ (s.heap.objs.size+2) (s.heap.objs.size+3) s.heap.objs.size (s.heap.objs.size+1) (LJ la lb) (wT la) (wT (VC lb)),⟨hz,hi,⟨_,_,ho⟩,s1,s2⟩,λc hc=>?_,q⟩
 ·have hb':s.heap.objs.size<=c:=by
   simp only[wL,Wx,or_false]at hc;rcases hc with rfl | rfl | rfl | rfl | rfl
   ·exact Vi _ 4
   ·exact Vi _ 2
   ·exact Vi _ 3
   ·exact wq _
   ·exact Vi _ 1
  exact I.jg hb' (I.aH.fresh hb')
theorem zA3{X:Cx}{elts:List Expr}{k1}{tpos p pos:Pos}{l m:Expr}{ta:TA}(hg:Gl X "zip")(hm:X.mg "zip"=none)(ha:PA X [l,m] ta)(hs:w8 [l,m] X.env=[(false,eval l X.env),(false,eval m X.env)]:=by rfl)(hs2:w8 [m] X.env=[(false,eval m X.env)]:=by rfl) :
  PI X (.Tuple elts k1 tpos) (.Call (.Name "zip" p) [l,m] [] pos) (pO true true X.K ta):=by
 intro pins s σ H R I h;refine Call_ (gu I hg hm A5 (vk (aI (ha pos pins s σ H _ I h) λus s1 ⟨vs,H1,I1,r1,q1⟩=>?_) (by rw[hs,hs2]) (by rw[hs2];rfl)));obtain⟨a,b,rfl,⟨xs,hq1⟩,⟨ys,hq2⟩,q⟩:=q1;obtain⟨u,v,rfl,ru,rv⟩:=jV r1;cases ru;cases rv;obtain⟨its,_,p1⟩:=I1.ia hq1;obtain⟨jts,_,p2⟩:=I1.ia hq2;have la:a<s1.heap.objs.size:=by obtain⟨o,e,_⟩:=(show s1.heap.IsTuple a its.toArray from p1);exact wC e
 have lb:b<s1.heap.objs.size:=by obtain⟨o,e,_⟩:=(show s1.heap.IsTuple b jts.toArray from p2);exact wC e
 exact Ow p1 p2 λh' hz hi ho t1 t2 kp=>FV (t:=true) (u:=true) I1 la lb hz hi ho t1 t2 kp q
theorem NF{X:Cx}{elts:List Expr}{k1}{tpos p pos:Pos}{l m:Expr}{ta:TA}(hg:Gl X "zip")(hm:X.mg "zip"=none)(ha:PA X [l,m] ta)(hs:w8 [l,m] X.env=[(false,eval l X.env),(false,eval m X.env)]:=by rfl)(hs2:w8 [m] X.env=[(false,eval m X.env)]:=by rfl) :
  PI X (.Tuple elts k1 tpos) (.Call (.Name "zip" p) [l,m] [] pos) (pO false false X.K ta):=by
 intro pins s σ H R I h;refine Call_ (gu I hg hm A5 (vk (aI (ha pos pins s σ H _ I h) λus s1 ⟨vs,H1,I1,r1,q1⟩=>?_) (by rw[hs,hs2]) (by rw[hs2];rfl)));obtain⟨a,b,rfl,⟨xs,hq1⟩,⟨ys,hq2⟩,q⟩:=q1;obtain⟨u,v,rfl,ru,rv⟩:=jV r1;cases ru;cases rv;obtain⟨its,_,p1⟩:=I1.ia hq1;obtain⟨jts,_,p2⟩:=I1.ia hq2;have la:a<s1.heap.objs.size:=by obtain⟨o,e,_⟩:=(show s1.heap.IsList a its.toArray from p1);exact wC e
 have lb:b<s1.heap.objs.size:=by obtain⟨o,e,_⟩:=(show s1.heap.IsList b jts.toArray from p2);exact wC e
 exact call_zip_2 p1 p2 λh' hz hi ho t1 t2 _ kp=>FV (t:=false) (u:=false) I1 la lb hz hi ho t1 t2 kp q
theorem cx.same{t:Bool}{K:wb}{H H':Hp}{a:we}{xs:List V}(s:ag H H')(h:cx t K H a xs):cx t K H' a xs:=by
 cases t
 ·exact s.seq h
 ·exact s.ji h
def EI(t u:Bool)(K:wb)(g:TG)(tb:TS)(D:cB)(σ : L2.St)(vs:List V)(H1:Hp):Prop:=∃a b,vs=[.ref a,.ref b]/\(∃xs,cx t K H1 a xs)/\(∃ys,cx u K H1 b ys) /\
 ∃W:Nat->Nat->L2.St->Hp->Prop,(∃m,W 0 m σ H1) /\ ∀i m σ H,W i m σ H ->
  ((me t u K a b).stop i H/\D.nx σ H)\/((me t u K a b).go i H /\ ∃M:L2.St->Hp->Prop,(∀σ' H',M σ' H'->∃m',m'<m/\W (i+1) m' σ' H') /\ ∀x H',(me t u K a b).fH i H x H'->g x σ H' λσ2 H2=>tb {D with nx:=M,ct:=M,bk:=D.nx} σ2 H2)
def Fs(t u:Bool)(K:wb)(g:TG)(tt:TT)(te:TE)(src:List (Option Nat))(σ : L2.St)(vs:List V)(H1:Hp)(Q:VK):Prop:=∃a b,vs=[.ref a,.ref b]/\(∃xs,cx t K H1 a xs)/\(∃ys,cx u K H1 b ys) /\
 ∀D,H1 D=none->kl g tt te (me t u K a b) D (dN src σ) (upd H1 D (.lst [])) (λH'=>Q (.ref D) H')
section
variable{t u:Bool}{K:wb}{ta:TA}{g:TG}{tb:TS}{tt:TT}{te:TE}{D:cB}{σ : L2.St}{H:Hp}{Q:VK}{a b:we}{xs ys:List V}{src:List (Option Nat)}{o0 o0':Option V}{tl:L2.St}
theorem zAq(h:ta σ H λvs H1=>EI t u K g tb D σ vs H1):mD (pO t u K ta) g tb D σ H:=h
theorem zyu(h:ta σ H λvs H1=>Fs t u K g tt te src σ vs H1 Q):jm src (pO t u K ta) g tt te σ H Q:=h
theorem zxg(hx:cx t K H a xs)(hy:cx u K H b ys)(hxy:xs.length=ys.length)(Pv:Nat->L2.St->Hp->Prop)(h0:Pv 0 σ H)(hl:∀i σ H,i<=xs.length->Pv i σ H->cx t K H a xs/\cx u K H b ys)
  (hs:∀i x y σ H c H',xs[i]? = some x->ys[i]? = some y->Pv i σ H->H c=none->ag H H'->H' c=some (.tup [x,y])->g (.ref c) σ H' λσ2 H2=>tb {D with nx:=Pv (i+1),ct:=Pv (i+1),bk:=D.nx} σ2 H2) (hd:∀σ H,Pv xs.length σ H->D.nx σ H):EI t u K g tb D σ [.ref a,.ref b] H:=by
 refine⟨a,b,rfl,⟨xs,hx⟩,⟨ys,hy⟩,λi m σ H=>i+m=xs.length/\Pv i σ H,⟨xs.length,by lia,h0⟩,?_⟩;rintro i m σ H ⟨him,hp⟩;obtain⟨hq1,hq2⟩:=hl i σ H (by lia) hp
 by_cases hm:m=0
 ·have e:i=xs.length:=by lia
  subst e;exact .inl ⟨⟨xs,ys,hq1,hq2,.inl rfl⟩,hd _ _ hp⟩
 ·have hi:i<xs.length:=by lia
  have hj:i<ys.length:=by lia
  refine .inr ⟨⟨xs,xs[i],ys,ys[i],hq1,by simp[hi],hq2,by simp[hj]⟩,λσ' H'=>Pv (i+1) σ' H',λσ' H' h=>⟨m-1,by lia,by lia,h⟩,?_⟩;rintro v H' ⟨c,x,y,rfl,hn,hx',hy',rfl⟩;exact hs i x y σ H c _ (hx' xs hq1) (hy' ys hq2) hp hn (ag.upd hn) cJ
def gv(H:Hp)(tl:L2.St)(Rel:Nat->V->Hp->Prop)(D:we)(i:Nat)(zs:List V)(σ':L2.St)(H':Hp):Prop :=
 (∃o1 o2,σ'=o1::o2::tl)/\H D=none/\ag H H'/\H' D=some (.lst zs)/\zs.length=i /\ ∀j y,zs[j]? = some y->Rel j y H'
theorem sU{Rel:Nat->V->Hp->Prop}{D:we}{i:Nat}{zs:List V}{σ' σ3:L2.St}{H1 H5:Hp}{y:V}(inv:gv H tl Rel D i zs σ' H1)(hi:i<=1000)(hk:∀i v H1 H2,bE H1 H2->Rel i v H1->Rel i v H2)(hσ : ∃o1 o2,σ3=o1::o2::tl)(s:ag H1 H5)(r:Rel i y H5):rV (gv H tl Rel) D i σ3 y H5:=by
 obtain⟨_,hn,s1,hD,hl,hr⟩:=inv;have hD5:=s _ _ hD;refine kF hD5 (by lia) λH6 E6 e6=>⟨hσ,hn,(s1.trans s).grow hn E6,e6,by simp[hl],λj z hz=>?_⟩
 have k6:bE H5 H6:=E6.keep hD5;rcases wJ j zs.length with hj | hj
 ·rw[vO hj]at hz
  exact hk _ _ _ _ (s.keep.trans k6) (hr j z hz)
 ·have hj':j=zs.length:=by
   rcases wJ zs.length j with q | q
   ·rw[wP (by simp;lia)]at hz;cases hz
   ·lia
  subst hj';rw[vf (wq _),W5]at hz;cases hz;rw[hl];exact hk _ _ _ _ k6 r
theorem zAM(hx:cx t K H a xs)(hy:cx u K H b ys)(hxy:xs.length=ys.length)(hsrc:dN src σ = o0::o0'::tl)(Rel:Nat->V->Hp->Prop)(hk:∀i v H1 H2,bE H1 H2->Rel i v H1->Rel i v H2)
  (hs:∀D i x y zs o1 o2 H1 c,xs[i]? = some x->ys[i]? = some y->gv H tl Rel D i zs (o1::o2::tl) H1->H1 c=some (.tup [x,y])->iA (gv H tl Rel) g tt te D i (.ref c) (o1::o2::tl) H1)
  (hd:∀D zs H',H D=none->ag H H'->H' D=some (.lst zs)->zs.length=xs.length->(∀j y,zs[j]? = some y->Rel j y H')->Q (.ref D) H'):Fs t u K g tt te src σ [.ref a,.ref b] H Q:=by
 refine⟨a,b,rfl,⟨xs,hx⟩,⟨ys,hy⟩,λD hD=>⟨λi m σ' H'=>i+m=xs.length /\ ∃zs,gv H tl Rel D i zs σ' H',⟨xs.length,by lia,[],⟨o0,o0',hsrc⟩,hD,ag.upd hD,cJ,rfl,λj y z=>by simp at z⟩,?_⟩⟩;rintro i m σ' H' ⟨him,zs,inv⟩;have hq1:=cx.same inv.2.2.1 hx;have hq2:=cx.same inv.2.2.1 hy
 by_cases hm:m=0
 ·have e:i=xs.length:=by lia
  subst e;obtain⟨_,n,s,e,hl,r⟩:=inv;exact .inl ⟨⟨xs,ys,hq1,hq2,.inl rfl⟩,hd D zs H' n s e hl r⟩
 ·have hi:i<xs.length:=by lia
  have hj:i<ys.length:=by lia
  refine .inr ⟨⟨xs,xs[i],ys,ys[i],hq1,by simp[hi],hq2,by simp[hj]⟩,λσ2 H2=>∃zs,gv H tl Rel D (i+1) zs σ2 H2,λσ2 H2 h=>⟨m-1,by lia,by lia,h⟩,?_⟩;rintro v H2 ⟨c,x,y,rfl,hn,hx',hy',rfl⟩;obtain⟨⟨o1,o2,rfl⟩,n,s,e,hl,r⟩:=inv;have su:=ag.upd (o:=.tup [x,y]) hn;exact hs D i x y zs o1 o2 _ c (hx' xs hq1) (hy' ys hq2) ⟨⟨o1,o2,rfl⟩,n,s.trans su,su _ _ e,hl,λj y hy=>hk _ _ _ _ su.keep (r j y hy)⟩ cJ
end
def Dc(K:wb):List V->Hp->VK->Prop:=λxs H Q=>∃(p:we)(ns:List Int),xs=[.ref p]/\aV K H p (ns.map V.int)/\Q (.int ns.sum) H
theorem zCU:vI "sum"=some (.builtin "sum"):=by decide +kernel
open PyProof.V PySem.Calls in
theorem zw2{X:Cx}(hc:X.calm=true):aN X (.builtin "sum") (Dc X.K):=by
 intro pins s σ H xs us Q I r h;obtain⟨p,ns,rfl,hq,q⟩:=h;obtain⟨u,rfl,rx⟩:=gW r;cases rx;obtain⟨its,r',pl,hz⟩:=I.tuple hq;have hI:=CZ r';have hT:s.heap.IsTuple p its.toArray:=pl;obtain⟨zs,hx⟩:=hI.allInts.items;have hn:numsOf its.toArray.toList=ns:=by rw[show its.toArray.toList=its from rfl,hI.numsOf]
 rw[hx]at hT hn;rw[nums_intItems]at hn;refine PySem.W.ktm_sumG (I.ok.hd hc) hT λh' tk t' hk=>?_
 rw[preSum_eq,Vl (by simp),hn];exact⟨.int ns.sum,H,I.kept (t':=tk) hk,⟨_,rfl⟩,q⟩
theorem YR{K:wb}{H:Hp}{Q:VK}{v:V}{ns:List Int}(h:Is K H v (TZ ns))(q:Q (.int ns.sum) H):Dc K [v] H Q:=by
 obtain⟨a,rfl,hs⟩:=mq.mp h;exact⟨a,ns,rfl,hs,q⟩
theorem Tq{α : Type}(xs:List α)(k:Nat)(h:k<=xs.length):cutD xs (some (k:Int)) none=xs.drop k:=by
 unfold cutD;rw[HT.Yd,HT.Yk,Nat.min_eq_left h];exact Vl (by rw[Wf];lia)
def j4(K:wb):List V->Hp->VK->Prop:=λxs H Q=>∃(p:we)(bs:List Bool),xs=[.ref p]/\aO K H p (bs.map V.bl)/\Q (.bl (bs.all id)) H
theorem l9:vI "all"=some (.builtin "all"):=by decide +kernel
theorem NS{bs:List Bool} : ∀{us:List wg},aT (bs.map V.bl) us->us=bs.map Value.bool:=by
 induction bs with
 | nil=>intro us r;rw[Qb]at r;cases r;rfl
 | cons b bs ih =>
  intro us r;rw[va]at r;cases r with
  | cons r1 r2 =>
   cases r1;rw[va,ih r2]
theorem zuO(bs:List Bool):((wx bs.length).all λi=>(bs[i]?).getD true)=bs.all id:=by
 rw[vH,WE,WE]
 constructor
 ·intro h b hb
  obtain⟨i,hi,rfl⟩:=vg hb;have:=h i (wD.mpr hi);rw[wc hi]at this;exact this
 ·intro h i hi
  rw[wD]at hi;rw[wc hi];exact h _ (vt hi)
open PyProof.V PySem.Calls in
theorem mi{X:Cx}(hc:X.calm=true):aN X (.builtin "all") (j4 X.K):=by
 intro pins s σ H xs us Q I r h;obtain⟨p,bs,rfl,hq,q⟩:=h;obtain⟨u,rfl,rx⟩:=gW r;cases rx;obtain⟨its,r',pl,hz⟩:=I.list hq;have hi:its=bs.map Value.bool:=NS r';have hl:s.heap.IsList p its.toArray:=pl.isList;have hlt:p<s.heap.objs.size:=by obtain⟨_,e,_⟩:=hl;exact wC e
 refine call_all_walk (VF hl ?_)
 refine⟨s.heap.objs.size,[s.heap.objs.size,p],[s.heap.objs.size],its.toArray.size,_,_,λi=>(bs[i]?).getD true,rfl,Walks.list (A:=X.A.in1) (I.ok.hd hc) _ p (wT hlt) its.toArray,
  ⟨⟨_,wK _ rfl,rfl,rfl⟩,hl.push _⟩,λi v s' Q' E' hP hQ=>?_,λh' tk hk=>?_⟩
 ·have hP:its.toArray[i]? = some v:=hP
  rw[hi]at hP;simp only[xw,wu,Vk]at hP;obtain⟨b,e,rfl⟩:=hP;simp only[e,qY]at hQ;exact Wn hQ
 ·have e:((wx its.toArray.size).all λi=>(bs[i]?).getD true)=bs.all id:=by
   rw[wR,hi,wo];exact zuO bs
  rw[e];exact⟨.bl (bs.all id),H,I.kept (t':=tk) (λb x e=>hk b x (λhm=>by rw[wY.mp hm]at e;exact Vx _ (wC e)) (wp _ e)),rfl,q⟩
theorem kq{K:wb}{H:Hp}{Q:VK}{p:we}{bs:List Bool}(h:aO K H p (bs.map V.bl))(q:Q (.bl (bs.all id)) H):j4 K [.ref p] H Q:=⟨p,bs,rfl,h,q⟩
section
variable{t u:Bool}{K:wb}{g:TG}{tt:TT}{te:TE}{σ : L2.St}{H:Hp}{Q:VK}{a b:we}{xs ys:List V}{src:List (Option Nat)}{o0 o0':Option V}{tl:L2.St}
theorem zxs(hx:cx t K H a xs)(hy:cx u K H b ys)(hxy:ys.length<xs.length)(hsrc:dN src σ = o0::o0'::tl)(Rel:Nat->V->Hp->Prop)(hk:∀i v H1 H2,bE H1 H2->Rel i v H1->Rel i v H2)
  (hs:∀D i x y zs o1 o2 H1 c,xs[i]? = some x->ys[i]? = some y->gv H tl Rel D i zs (o1::o2::tl) H1->H1 c=some (.tup [x,y])->iA (gv H tl Rel) g tt te D i (.ref c) (o1::o2::tl) H1)
  (hd:∀D zs H',H D=none->ag H H'->H' D=some (.lst zs)->zs.length=ys.length->(∀j y,zs[j]? = some y->Rel j y H')->Q (.ref D) H'):Fs t u K g tt te src σ [.ref a,.ref b] H Q:=by
 refine⟨a,b,rfl,⟨xs,hx⟩,⟨ys,hy⟩,λD hD=>⟨λi m σ' H'=>i+m=ys.length /\ ∃zs,gv H tl Rel D i zs σ' H',⟨ys.length,by lia,[],⟨o0,o0',hsrc⟩,hD,ag.upd hD,cJ,rfl,λj y z=>by simp at z⟩,?_⟩⟩;rintro i m σ' H' ⟨him,zs,inv⟩;have hq1:=cx.same inv.2.2.1 hx;have hq2:=cx.same inv.2.2.1 hy
 by_cases hm:m=0
 ·have e:i=ys.length:=by lia
  subst e;obtain⟨_,n,s,e,hl,r⟩:=inv;exact .inl ⟨⟨xs,ys,hq1,hq2,.inr ⟨hxy,rfl⟩⟩,hd D zs H' n s e hl r⟩
 ·have hi:i<xs.length:=by lia
  have hj:i<ys.length:=by lia
  refine .inr ⟨⟨xs,xs[i],ys,ys[i],hq1,by simp[hi],hq2,by simp[hj]⟩,λσ2 H2=>∃zs,gv H tl Rel D (i+1) zs σ2 H2,λσ2 H2 h=>⟨m-1,by lia,by lia,h⟩,?_⟩;rintro v H2 ⟨c,x,y,rfl,hn,hx',hy',rfl⟩;obtain⟨⟨o1,o2,rfl⟩,n,s,e,hl,r⟩:=inv;have su:=ag.upd (o:=.tup [x,y]) hn;exact hs D i x y zs o1 o2 _ c (hx' xs hq1) (hy' ys hq2) ⟨⟨o1,o2,rfl⟩,n,s.trans su,su _ _ e,hl,λj y hy=>hk _ _ _ _ su.keep (r j y hy)⟩ cJ
end
def Oy(g:TG)(tb:TS)(D:cB)(σ : L2.St)(vs:List V)(H1:Hp):Prop:=∃i j:Int,vs=[.int i,.int j]/\(-(2^62)<=i/\i<2^62 /\ -(2^62)<=j/\j<2^62) /\
 ∃W:Nat->Nat->L2.St->Hp->Prop,(∃m,W 0 m σ H1) /\ ∀k m σ H,W k m σ H ->
  ((gm i (j-i).toNat).stop k H/\D.nx σ H)\/((gm i (j-i).toNat).go k H /\ ∃M:L2.St->Hp->Prop,(∀σ' H',M σ' H'->∃m',m'<m/\W (k+1) m' σ' H') /\ ∀x H',(gm i (j-i).toNat).fH k H x H'->g x σ H' λσ2 H2=>tb {D with nx:=M,ct:=M,bk:=D.nx} σ2 H2)
theorem ZF{ta:TA}{g:TG}{tb:TS}{D:cB}{σ : L2.St}{H:Hp}(h:ta σ H λvs H1=>Oy g tb D σ vs H1):mD (T_ ta) g tb D σ H:=h
theorem zu0{g:TG}{tb:TS}{D:cB}{σ : L2.St}{H:Hp}{lo hi:Int}(h0 : -1000000000<=lo)(h1:lo<1000000000)(h2 : -1000000000<=hi)(h3:hi<1000000000)(Pv:Nat->L2.St->Hp->Prop)(p:Pv 0 σ H)
  (hs:∀(i:Nat) σ H,i<(hi-lo).toNat->Pv i σ H->g (.int (lo+(i:Int))) σ H λσ2 H2=>tb {D with nx:=Pv (i+1),ct:=Pv (i+1),bk:=D.nx} σ2 H2)
  (hd:∀σ H,Pv (hi-lo).toNat σ H->D.nx σ H):Oy g tb D σ [.int lo,.int hi] H :=
 ⟨lo,hi,rfl,⟨by lia,by lia,by lia,by lia⟩,Sf (lo:=lo) Pv p hs hd⟩
def FA(K:wb):List V->Hp->VK->Prop:=λxs H Q=>∃x tp S T d b,xs=[x,.ref tp]/\aV K H tp [.ty S,.ty T]/\Is K H x d/\uv K (.type (kindOf d)) [.type S,.type T]=some b/\Q (.bl b) H
theorem zuc{X:Cx} : aN X (.builtin "isinstance") (FA X.K):=by
 intro pins s σ H xs us Q I r h;obtain⟨x,tp,S,T,d,b,rfl,ht,hd,e,q⟩:=h;obtain⟨u,w',rfl,rx,rt⟩:=jV r;cases (show w'=Value.ref tp from rt);obtain⟨tts,rv,⟨ot,ht1,ht2,n,ht3⟩,_⟩:=I.tuple ht;obtain⟨t1,t2,rfl,r1,r2⟩:=jV rv;cases (show t1=Value.type S from r1);cases (show t2=Value.type T from r2);obtain⟨c,dd,da,sl⟩:=ot;cases ht2;cases ht3;have fin:∀tk,EP X pins σ Q (.bool b) {s with toks:=tk}:=λtk=>⟨.bl b,H,I.tok _,rfl,q⟩
 cases d with
 | none =>
  cases ml.mp hd;cases (show u=Value.none from rx);exact Vu Xo I.c9 True.intro ht1 e (λz=>nomatch z) fin
 | bool y =>
  cases kc.mp hd;cases (show u=Value.bool y from rx);exact Vu Xp I.c9 True.intro ht1 e (λz=>nomatch z) fin
 | int i =>
  cases cz.mp hd;obtain⟨t,q⟩:=(show ∃t,u=Value.int i t from rx);cases q;exact Vu XN I.c9 True.intro ht1 e (λz=>nomatch z) fin
 | str y =>
  cases eI.mp hd;obtain⟨t,q⟩:=(show ∃t,u=Value.str y t from rx);cases q;exact Vu XO I.c9 True.intro ht1 e (λz=>nomatch z) fin
 | tuple ds =>
  obtain⟨a,xs,e1,hq,_⟩:=b7.mp hd;subst e1;cases (show u=Value.ref a from rx);obtain⟨its,_,⟨o,h1,h2,_⟩,_⟩:=I.tuple hq;exact Vu Xb I.c9 ⟨o,h1,h2⟩ ht1 e (λz=>nomatch z) fin
 | list ds =>
  obtain⟨a,xs,e1,hq,_⟩:=cj.mp hd;subst e1;cases (show u=Value.ref a from rx);obtain⟨its,_,⟨o,n,h1,h2,_⟩,_⟩:=I.list hq;exact Vu Xq I.c9 ⟨o,h1,h2⟩ ht1 e (λz=>nomatch z) fin
 | dict kv =>
  obtain⟨a,kvs,e1,hq⟩:=tP.mp hd;subst e1;cases (show u=Value.ref a from rx);obtain⟨_,_,vs,_,o,es,ep,h1,h2,_⟩:=(show dD X.prog X.w H s.heap a (.dK kvs)from I.aH a _ hq);exact Vu Xr I.c9 ⟨o,h1,h2.1⟩ ht1 e (λz=>nomatch z) fin
theorem zA5{K:wb}(d:wB):uv K (.type (kindOf d)) [.type "list",.type "tuple"]=some (gZ d || jc d):=by cases d<;>rfl
theorem BQ{K:wb}{H:Hp}{Q:VK}{v:V}{tp:we}{d:wB}(h:Is K H v d)(t:H tp=some (.tup [.ty "list",.ty "tuple"]))(q:Q (.bl (gZ d || jc d)) H):FA K [v,.ref tp] H Q :=
 ⟨v,tp,"list","tuple",d,_,rfl,.of t,h,zA5 d,q⟩
section
variable{X:Cx}{tg:Expr}
def C3(K:wb)(tl:TE):TI:=λσ H R=>tl σ H λx H1=>(∃a,x=.ref a/\(∃xs,aO K H1 a xs)/\R (iR K a) H1)\/(∃a,x=.ref a/\(∃xs,aV K H1 a xs)/\R (jt K a) H1)
theorem K_{l:Expr}{tl:TE}(hl:PE X l tl):PI X tg l (C3 X.K tl):=by
 intro pins s σ H R I h;refine aI (hl pins s σ H _ I h) λv s1 ⟨x,H1,I1,r1,q1⟩=>?_
 rcases q1 with⟨a,e,⟨xs,hq⟩,q⟩ | ⟨a,e,⟨xs,hq⟩,q⟩
 ·subst e
  cases r1;obtain⟨its,rv,p,hz⟩:=I1.list hq;refine VF p.isList ?_;refine⟨s1.heap.objs.size,[s1.heap.objs.size],_,_,H1,rfl,I1.kept (t':=s1.toks) λb o e=>wp _ e,C6 a _,⟨_,wK _ rfl,rfl,rfl⟩,λb hb=>?_,q⟩;have e:b=s1.heap.objs.size:=by simpa using hb
  subst e;exact I1.jg (wq _) (I1.aH.fresh (wq _))
 ·subst e
  cases r1;obtain⟨its,rv,p,hz⟩:=I1.tuple hq;refine W2 (show s1.heap.IsTuple a its.toArray from p) ?_;refine⟨s1.heap.objs.size,[s1.heap.objs.size],_,_,H1,rfl,I1.kept (t':=s1.toks) λb o e=>wp _ e,O9 a _,⟨_,wK _ rfl,rfl,rfl⟩,λb hb=>?_,q⟩;have e:b=s1.heap.objs.size:=by simpa using hb
  subst e;exact I1.jg (wq _) (I1.aH.fresh (wq _))
end
section
variable{K:wb}{g:TG}{tt:TT}{te ta tb' tc:TE}{tb:TS}{D:cB}{src:List (Option Nat)}{σ : St}{H:Hp}{Q:VK}{r r':R2}
theorem Z7(h:ta σ H λx H1=>rM K g tt te src σ x H1 Q\/yn K g tt te src σ x H1 Q):jm src (C3 K ta) g tt te σ H Q:=h
theorem zzK(h:te σ H λx H1=>DH K g tb D σ x H1\/Tc K g tb D σ x H1):mD (C3 K te) g tb D σ H:=h
theorem zyK(h:ta σ H λx H1=>tb' σ H1 λy H2=>r x y H2 λz H3=>∃k,z=.bl k/\(if k=true then tc σ H3 λw' H4=>r' y w' H4 Q else Q (.bl false) H3)):Ge r r' ta tb' tc σ H Q:=h
theorem zCD{b:Bool}{P:Bool->Prop}(h:P b):∃k,V.bl b=.bl k/\P k:=⟨b,rfl,h⟩
end
def aZ(a b:Rat)(xs:List Rat):wB:=.tuple [R a b,TN xs]
theorem sN(a b:Rat)(xs:List Rat):cw (aZ a b xs)=true:=by rw[aZ,cw,bW,bW,bW,Ci,rn];rfl
theorem zDO{x y:Rat}(h:N x=N y):x=y:=by
 have h':PyData.tuple [.int x.num,.int (x.den:Int)]=PyData.tuple [.int y.num,.int (y.den:Int)]:=h
 injection h' with h1
 injection h1 with h2 h3
 injection h2 with h4
 injection h3 with h5 _
 injection h5 with h6
 exact Rat.ext h4 (by lia)
theorem gG{K:wb}{H:Hp}{us:List V}{ds:List wB}{i:Nat}{x:V}(t:av K H us ds)(h:us[i]? = some x):i<ds.length/\Is K H x (ds.getD i .none):=by
 have hl:=t.length
 have hi:i<ds.length:=by
  rcases wJ i ds.length with z | z
  ·exact z
  ·rw[wP (by lia)]at h;cases h
 obtain⟨y,e,k⟩:=t.get (i:=i) (d:=ds.getD i .none) (by rw[wa,wc hi];rfl);rw[e]at h;cases h;exact⟨hi,k⟩
def En(K:wb)(a:we):It :=
 ⟨λi H=>∃xs x,aO K H a xs/\xs[i]? = some x,λi H y H'=>∃t x,y=.ref t/\H t=none/\(∀xs,aO K H a xs->xs[i]? = some x)/\H'=upd H t (.tup [.int (i:Int),x]),λi H=>∃xs,aO K H a xs/\xs.length<=i⟩
theorem zuX{P:wS}{w:wW}{K:wb}{elts:List Expr}{k1}{tpos:Pos}(a e it:we)(hne:e≠it):iX P w K (.Tuple elts k1 tpos) (En K a) [e,it] e (λi h=>(∃old,IsEnum h e it (i:Int) old)/\h.IsListIter it a i) where
 mem:=by simp
 obj:=λi h st b hb=>by
  obtain⟨⟨old,he⟩,o,eo,c,d⟩:=st;rcases wL.mp hb with rfl | hb
  ·exact⟨_,he,λv z=>by cases (show Data.fields _=Data.cell v from z)⟩
  ·rw[wY.mp hb]
   exact⟨o,eo,λv z=>by rw[d]at z;cases z⟩
 keep:=λi h h' st k=>⟨let ⟨old,he⟩:=st.1;⟨old,k e (by simp) _ he⟩,st.2.at λo eo=>k it (by simp) o eo⟩
 item:=by
  intro X hP hw hK hc i pins s σ H E I hf st hg;subst hP hw hK;obtain⟨⟨old,he⟩,st⟩:=st;obtain⟨xs,x,hq,hx⟩:=hg;obtain⟨its,rv,p,hz⟩:=I.list hq;obtain⟨u,hu,ru⟩:=rv.get hx;have p':s.heap.IsList a its.toArray:=p.isList
  have hai:a≠it:=λz=>by
   subst z;obtain⟨o,e1,c1,_⟩:=st;obtain⟨o',e2,c2,_⟩:=p';rw[e1]at e2;cases e2;rw[c1]at c2;exact absurd c2 (by decide)
  have hae:e≠a:=λz=>by
   subst z;obtain⟨o',e2,c2,_⟩:=p';rw[he]at e2;cases e2;exact absurd (show Value.type "enumerate"=Value.type "list" from c2) (by decide)
  have hlt:i<its.toArray.size:=by
   rcases wJ i its.length with z | z
   ·simpa using z
   ·rw[wP z]at hu;cases hu
  refine wpAny_pyNext_enum_itemD (Draws.list (A:=X.A.in1) (I.ok.hd hc) it a hai its.toArray) he ⟨st,p'⟩ hlt hne (by simp[hne,hae]) λv h1 tk hv ho hs1 hT hsz hk=>?_
  have hvu:v=u:=by
   have hv':its[i]? = some v:=by simpa using hv
   rw[hu]at hv';exact(w6 hv').symm
  subst hvu
  have I1:Inv X pins σ (upd H s.heap.objs.size (.tup [.int (i:Int),x])) {s with heap:=s.heap.push {cls:=.type "tuple",data:=.seq ([.int (i:Int) tk,v]:List wg).toArray},toks:=tk+1} :=
   I.laid (λb o q=>wp _ q) (wq _) (show dD X.prog X.w _ _ _ (.tup [.int (i:Int),x])from⟨mV (by simp),_,.cons ⟨_,rfl⟩ (.cons ru .nil),qZ _ _⟩)
  have lt1:∀b∈[e,it],b<s.heap.objs.size:=λb hb=>by
   rcases wL.mp hb with rfl | hb
   ·exact wC he
   ·rw[wY.mp hb]
    obtain⟨o,eo,_⟩:=st;exact wC eo
  have hf1:∀b∈[e,it],eG X pins (upd H s.heap.objs.size (.tup [.int (i:Int),x])) b:=λb hb=>⟨by rw[eJ (wT (lt1 b hb))];exact(hf b hb).1,(hf b hb).2⟩
  refine⟨_,rfl,wpAny_letOwnedTupleGo_enum ho λh2 he2 hs2=>?_⟩;refine⟨.ref s.heap.objs.size,_,Inv.sy (s:={s with heap:=s.heap.push {cls:=.type "tuple",data:=.seq ([.int (i:Int) tk,v]:List wg).toArray},toks:=tk+1}) (ch:=[e,it]) I1 (λb o hb q=>?_) hf1,rfl,⟨_,x,rfl,I.aH.fresh (wq _),λys hy=>by rw[I.sr hy hq];exact hx,rfl⟩,⟨⟨_,by simpa using he2⟩,hs1.1.at λo eo=>(hs2.2 it (Wj hne)).trans eo⟩,λb hb=>(hf1 b hb).1⟩;have hbe:b≠e:=λz=>hb (by simp[z])
  have hbi:b≠it:=λz=>hb (by simp[z])
  refine(hs2.2 b hbe).trans ?_
  by_cases hb2:b=s.heap.objs.size
  ·subst hb2
   rw[wK _ rfl]at q;cases q;exact hT
  ·exact hk b o hbe hbi (by rw[QN _ _ _ hb2]at q;exact q)
 done:=by
  intro X hP hw hK hc i pins s σ H E I hf st hg;subst hP hw hK;obtain⟨⟨old,he⟩,st⟩:=st;obtain⟨xs,hq,hx⟩:=hg;obtain⟨its,rv,p,hz⟩:=I.list hq;have p':s.heap.IsList a its.toArray:=p.isList;have hl:=rv.length;have hT:s.TypeIs (.ref e) "enumerate":=⟨_,he,rfl⟩;unfold Ve;refine wf (WF (wpAny_callSpecial?_slot (name:=vL "__next__") hT qb (vQ qb hT xj ?_ (Q2 _))))
  show wA _ _ (field (.ref e) 2 >>= _) _ _ _;refine wf (vi he rfl (x:=.ref it) rfl ?_)
  refine wf (wpAny_nextOf_list_end (A:=X.A.in1) (I.ok.hd hc) st p' (by simp;lia) λh' y he' hx'=>?_);obtain⟨o,ho,hcl⟩:=hx';refine wf (WL (T:="StopIteration") (b:=true) ⟨o,ho,hcl⟩ VI (wy ⟨rfl,?_⟩));obtain⟨f0,f1,f2,f3,f4,f5⟩:=hf it (by simp);exact I.turned (t':=s.toks) (λb o hb e=>he' b o hb e) f0 f1 f3 f4 f5
 self:=λ_ _ _ _ _ st h=>let ⟨_,he⟩:=st.1;wpAny_pyIter_enum he h
def R5(K:wb)(ta:TA):TI:=λσ H R=>ta σ H λvs H1=>∃a,vs=[.ref a]/\(∃xs,aO K H1 a xs)/\R (En K a) H1
theorem zyi{X:Cx}{elts:List Expr}{k1}{tpos p pos:Pos}{l:Expr}{ta:TA}(hg:Gl X "enumerate")(hm:X.mg "enumerate"=none)(ha:PA X [l] ta)(hs:w8 [l] X.env=[(false,eval l X.env)]:=by rfl) :
  PI X (.Tuple elts k1 tpos) (.Call (.Name "enumerate" p) [l] [] pos) (R5 X.K ta):=by
 intro pins s σ H R I h;refine Call_ (gu I hg hm OB (vk (aI (ha pos pins s σ H _ I h) λus s1 ⟨vs,H1,I1,r1,q1⟩=>?_) hs rfl));obtain⟨a,rfl,⟨xs,hq⟩,q⟩:=q1;obtain⟨u,rfl,ru⟩:=gW r1;cases ru;obtain⟨its,rv,p,hz⟩:=I1.list hq;refine call_enumerate_list p.isList λh' he hit _ kp=>?_
 refine wpAny_pyIter_enum he ?_;refine⟨s1.heap.objs.size+1,[s1.heap.objs.size+1,s1.heap.objs.size],_,_,H1,rfl,I1.kept (t':=s1.toks) kp,zuX a (s1.heap.objs.size+1) s1.heap.objs.size (XT _),⟨⟨_,he⟩,hit⟩,λb hb=>?_,q⟩
 have hb':s1.heap.objs.size<=b:=by
  rcases wL.mp hb with rfl | hb
  ·lia
  ·rw[wY.mp hb];exact wq _
 exact I1.jg hb' (I1.aH.fresh hb')
def Oq(K:wb)(g:TG)(tt:TT)(te:TE)(src:List (Option Nat))(σ : St)(vs:List V)(H1:Hp)(Q:VK):Prop:=∃a,vs=[.ref a]/\(∃xs,aO K H1 a xs) /\
 ∀D,H1 D=none->kl g tt te (En K a) D (dN src σ) (upd H1 D (.lst [])) (λH'=>Q (.ref D) H')
section
variable{K:wb}{ta:TA}{g:TG}{tb:TS}{tt c:TT}{te:TE}{D:cB}{σ : St}{H:Hp}{Q:VK}{a:we}{xs:List V}{src:List (Option Nat)}{o0 o0':Option V}{tl:St}
theorem ZD(h:ta σ H λvs H1=>Oq K g tt te src σ vs H1 Q):jm src (R5 K ta) g tt te σ H Q:=h
theorem zzC(hx:aO K H a xs)(hsrc:dN src σ = o0::o0'::tl)(Rel:Nat->V->Hp->Prop)(hk:∀i v H1 H2,bE H1 H2->Rel i v H1->Rel i v H2)
  (hs:∀D i x zs o1 o2 H1 c,xs[i]? = some x->gv H tl Rel D i zs (o1::o2::tl) H1->H1 c=some (.tup [.int (i:Int),x])->iA (gv H tl Rel) g tt te D i (.ref c) (o1::o2::tl) H1)
  (hd:∀D zs H',H D=none->ag H H'->H' D=some (.lst zs)->zs.length=xs.length->(∀j y,zs[j]? = some y->Rel j y H')->Q (.ref D) H'):Oq K g tt te src σ [.ref a] H Q:=by
 refine⟨a,rfl,⟨xs,hx⟩,λD hD=>⟨λi m σ' H'=>i+m=xs.length /\ ∃zs,gv H tl Rel D i zs σ' H',⟨xs.length,by lia,[],⟨o0,o0',hsrc⟩,hD,ag.upd hD,cJ,rfl,λj y z=>by simp at z⟩,?_⟩⟩;rintro i m σ' H' ⟨him,zs,inv⟩;have hq1:=inv.2.2.1.seq hx
 by_cases hm:m=0
 ·have e:i=xs.length:=by lia
  subst e;obtain⟨_,n,s,e,hl,r⟩:=inv;exact .inl ⟨⟨xs,hq1,wq _⟩,hd D zs H' n s e hl r⟩
 ·have hi:i<xs.length:=by lia
  refine .inr ⟨⟨xs,xs[i],hq1,by simp[hi]⟩,λσ2 H2=>∃zs,gv H tl Rel D (i+1) zs σ2 H2,λσ2 H2 h=>⟨m-1,by lia,by lia,h⟩,?_⟩;rintro v H2 ⟨c,x,rfl,hn,hx',rfl⟩;obtain⟨⟨o1,o2,rfl⟩,n,s,e,hl,r⟩:=inv;have su:=ag.upd (o:=.tup [.int (i:Int),x]) hn;exact hs D i x zs o1 o2 _ c (hx' xs hq1) ⟨⟨o1,o2,rfl⟩,n,s.trans su,su _ _ e,hl,λj y hy=>hk _ _ _ _ su.keep (r j y hy)⟩ cJ
def TM(Pv:Nat->St->Hp->Prop)(m:Nat)(tb:TS)(D:cB)(σ':St)(H1:Hp):Prop :=
 ∃M:St->Hp->Prop,(∀σ2 H2,M σ2 H2->∃m',m'<m/\Pv m' σ2 H2)/\tb {D with nx:=M,ct:=M,bk:=D.nx} σ' H1
theorem oY(Pv:Nat->St->Hp->Prop)(m0:Nat)(h0:Pv m0 σ H)(hs:∀m σ' H',Pv m σ' H'->c σ' H' λb H1=>if b=true then TM Pv m tb D σ' H1 else D.nx σ' H1):Ct c tb D σ H:=⟨Pv,⟨m0,h0⟩,hs⟩
theorem oZ{Pv:Nat->St->Hp->Prop}{m:Nat}{σ':St}{H1:Hp}(h:tb {D with nx:=λσ2 H2=>∃m',m'<m/\Pv m' σ2 H2,ct:=λσ2 H2=>∃m',m'<m/\Pv m' σ2 H2,bk:=D.nx} σ' H1):TM Pv m tb D σ' H1:=⟨_,λ_ _ q=>q,h⟩
def yP(K:wb)(x:V)(H:Hp)(Q:Bool->Hp->Prop):Prop:=∃k,Fq K x H k/\Q k H
def M9(K:wb)(te:TE):TT:=λσ H Q=>te σ H λx H'=>yP K x H' Q
theorem tN{X:Cx}{e:Expr}{t:TE}(h:PE X e t)(he:∀whole,isTrue e X.env whole=(do let v <- whole;standAt e.pos;holding [v] (truthy v)):=by intro _;rfl):PT X e (M9 X.K t):=zyq h he
theorem zCg{QB:Bool->Hp->Prop}(h:te σ H λx H'=>yP K x H' QB):M9 K te σ H QB:=h
theorem zAP{QB:Bool->Hp->Prop}{v:V}{ds:List wB}(h:Is K H v (.tuple ds))(q:QB (!ds.isEmpty) H):yP K v H QB:=by
 obtain⟨p,us,rfl,hs,t⟩:=b7.mp h;have hl:=t.length;refine⟨_,.inr (.inl ⟨us,hs,rfl⟩),?_⟩
 have e:us.isEmpty=ds.isEmpty:=by
  cases us<;>cases ds<;>simp_all
 rw[e];exact q
theorem FC{QB:Bool->Hp->Prop}{v:V}{ds:List wB}(h:Is K H v (.list ds))(q:QB (!ds.isEmpty) H):yP K v H QB:=by
 obtain⟨p,us,rfl,hs,t⟩:=cj.mp h;have hl:=t.length;refine⟨_,.inl ⟨us,hs,rfl⟩,?_⟩
 have e:us.isEmpty=ds.isEmpty:=by
  cases us<;>cases ds<;>simp_all
 rw[e];exact q
end
theorem Ky:∀(ys:List V)(us:List wg),ys.length=us.length->(∀(i:Nat) y u,ys[i]? = some y->us[i]? = some u->bC y u)->aT ys us
 | [],[],_,_=>.nil
 | [],_::_,h,_=>by simp at h
 | _::_,[],h,_=>by simp at h
 | y::ys,u::us,h,r=>.cons (r 0 y u rfl rfl) (Ky ys us (by simpa using h) λi y u h1 h2=>r (i+1) y u h1 h2)
def vz(l:List Nat):List V:=l.map λ(w:Nat)=>V.int (w:Int)
theorem kb(l:List Nat):(vz l).length=l.length:=wo ..
def Fb(vs:List V)(H1:Hp)(Q:VK):Prop:=∃j:Int,vs=[.int j]/\0<=j/\j<=1000 /\ ∀l,H1 l=none->Q (.ref l) (upd H1 l (.lst (vz (wx j.toNat))))
def MI(ta:TA):TE:=λσ H Q=>ta σ H λvs H1=>Fb vs H1 Q
theorem K9{X:Cx}{a:Expr}{ta:TA}{p p2 pos pos2:Pos}(hc:X.calm=true)(hg:Gl X "list")(hm:X.mg "list"=none)(hg2:Gl X "range")(hm2:X.mg "range"=none)(ha:PA X [a] ta)(hs:w8 [a] X.env=[(false,eval a X.env)]:=by rfl)
  (hs2:w8 [Expr.Call (.Name "range" p2) [a] [] pos2] X.env=[(false,eval (.Call (.Name "range" p2) [a] [] pos2) X.env)]:=by rfl):PE X (.Call (.Name "list" p) [.Call (.Name "range" p2) [a] [] pos2] [] pos) (MI ta):=by
 intro pins s σ H Q I h;refine Call_ (gu I hg hm j5 ?_);refine vk ?_ hs2 rfl;rw[hs2]
 show wA _ _ (spliced ((false,eval _ X.env)::VQ pos [])) _ _ s
 refine Qt ?_;refine Call_ (gu I hg2 hm2 boot_range (vk (aI (ha pos2 pins s σ H _ I h) λus s1 ⟨vs,H1,I1,r1,q1⟩=>?_) hs rfl));obtain⟨j,e,j0,j1,q⟩:=q1;subst e;obtain⟨u,rfl,ru⟩:=gW r1;obtain⟨t,rfl⟩:=ru;refine call_range_1 ?_;refine QL ?_;have I2:Inv X pins σ H1 {s1 with heap:=s1.heap.push {cls:=.type "range",data:=.fields #[.int 0 s1.toks,.int j t,.int 1 (s1.toks+1)]},toks:=s1.toks+1+1}:=I1.kept λb o e=>wp _ e
 refine call_list_range (n:=j.toNat) (I1.ok.hd hc) (uO ..) (small_one (by lia) (by lia) (by lia) (by lia)) (by rw[rangeSize_one];split<;>lia) (by lia) λh' tk acc c hk hD hI=>?_
 refine⟨.ref _,_,I2.laid (t':=tk) hk (wq _) ?_,rfl,q _ (I2.aH.fresh (wq _))⟩;refine⟨mV (by rw[kb,vB];lia),acc.toList,c,Ky _ _ (by rw[kb,vB,Vc,hI.1]) λi y u hy hu=>?_,by simpa using hD⟩;have hu':acc[i]? = some u:=by simpa using hu
 obtain⟨t',e'⟩:=hI.2 i u hu'
 have hi:i<j.toNat:=by
  have:=(WV.mp hu').1;rw[hI.1]at this;exact this
 have hy':y=V.int (i:Int):=by
  unfold vz at hy;rw[wu,vV hi]at hy;exact(w6 hy).symm
 subst hy';exact⟨t',by rw[e'];congr 1;lia⟩
theorem zqA{ta:TA}{σ : St}{H:Hp}{Q:VK}(h:ta σ H λvs H1=>Fb vs H1 Q):MI ta σ H Q:=h
theorem Pu{n:Nat}{H:Hp}{Q:VK}(hn:n<=1000)(q:∀l H',H l=none->ag H H'->H' l=some (.lst (vz (wx n)))->Q (.ref l) H'):Fb [V.int (n:Int)] H Q :=
 ⟨_,rfl,by lia,by lia,λl hl=>q l _ hl (ag.upd hl) (by rw[wU];exact cJ)⟩
theorem Rv(w:Nat)(l:List Nat):tS (.int (w:Int)) (vz l)=decide (w∈l):=by
 unfold tS vz
 induction l with
 | nil=>rfl
 | cons x l ih =>
  rw[va,qW,ih]
  show((x:Int) == (w:Int) || _)=_
  by_cases h:w=x
  ·subst h;simp
  ·have h':¬ (x:Int)=(w:Int):=λz=>h (by lia)
   simp[h,h']
theorem Mc(l:List Nat):(vz l).all kr=true:=by
 unfold vz;rw[WE];intro y hy;obtain⟨w,_,rfl⟩:=wO.mp hy
 rfl
section
variable{K:wb}{H H':Hp}{Q:VK}{v:V}{p:we}{l:List Nat}{w:Nat}
theorem zt0(h:aV K H p (vz l))(q:Q (.bl (!decide (w∈l))) H):kP K true (.int (w:Int)) (.ref p) H Q:=⟨p,vz l,rfl,.inr h,rfl,Mc l,by rw[Rv];exact q⟩
theorem zBi(h:aO K H p (vz l))(q:Q (.bl (decide (w∈l))) H):kP K false (.int (w:Int)) (.ref p) H Q:=⟨p,vz l,rfl,.inl h,rfl,Mc l,by rw[Rv];exact q⟩
def TW(l:List Nat):wB:=TZ (l.map λ(w:Nat)=>(w:Int))
theorem CO:Is K H v (TW l) ↔ ∃a,v=.ref a/\aV K H a (vz l):=by
 unfold TW vz;rw[mq,Vq];exact Iff.rfl
theorem Ga(l:List Nat):cw (TW l)=true:=NQ _
def iT(ws:List (List Nat)):wB:=.tuple (ws.map TW)
theorem zJ:∀ws:List (List Nat),bW (ws.map TW)=true
 | []=>rfl
 | w::ws=>by rw[va,bW,Ga,zJ ws];rfl
theorem zBg(ws:List (List Nat)):cw (iT ws)=true:=by rw[iT,cw];exact zJ ws
theorem DV{i:Nat}{x:V}(h:(vz l)[i]? = some x):∃hi:i<l.length,x=.int ((l[i]:Nat):Int):=by
 have hi:i<l.length:=by
  rcases wJ i l.length with z | z
  ·exact z
  ·rw[wP (by rw[kb];exact z)]at h;cases h
 refine⟨hi,?_⟩;unfold vz at h;rw[wu,wc hi]at h;exact(w6 h).symm
def GD(a b:Rat)(xs:List Rat):wB:=.tuple [N (1-b_ xs),iT (cf a b xs),aZ a b (cQ a b xs)]
def jA(h:Rat)(ws:List (List Nat))(xs:List Rat):wB:=.tuple [N h,iT ws,TN xs]
theorem Aw(h:Rat)(ws:List (List Nat))(xs:List Rat):cw (jA h ws xs)=true:=by rw[jA,cw,bW,bW,bW,bW,kC,zBg,rn];rfl
def pC(a b:Rat)(xs:List Rat)(k:Nat):wB:=jA (aM a b xs (k+1)) (cf a b (ai a b xs k)) (ai a b xs (k+1))
def eS(a b:Rat)(xs:List Rat)(n:Nat):List wB:=(wx n).map (pC a b xs)
theorem rf{α : Type}(f : α -> wB)(hf:∀x,cw (f x)=true):∀l:List α,bW (l.map f)=true
 | []=>rfl
 | x::l=>by rw[va,bW,hf,rf f hf l];rfl
theorem av.snoc{vs:List V}{ds:List wB}{d:wB}(h:av K H vs ds)(k:Is K H v d):av K H (vs++[v]) (ds++[d]):=h.append (.cons k .nil)
theorem rS{l:List Nat}{i:Nat}(h:i<l.length):l.take (i+1)=l.take i++[l[i]]:=by
 rw[V4,wc h];rfl
theorem Tf{ds:List wB}{d:wB}{j:Nat}(h:Is K H v (.list ds))(e:ds[j]? = some d)(q:∀x,Is K H x d->Q x H):c6 K v (.int (j:Int)) H Q:=by
 obtain⟨a,xs,rfl,h,t⟩:=cj.mp h;obtain⟨x,e1,hx⟩:=t.get e;exact iF h (ke e1) (q x hx)
theorem O2(h:Is K H v (TW l))(q:Q (.int (l.length:Int)) H):cF K [v] H Q:=Cb h (by rw[wo];exact q)
end
theorem Lf:∀ns:List Int,vJ (ns.map PyData.int) (ns.map PyData.int)=true
 | []=>by simp[vJ]
 | n::ns=>by rw[va,vJ,sZ,Lf ns];simp
theorem zB2(l:List Nat):wI (TW l) (TW l)=true:=by unfold TW TZ;rw[wI,Lf]
theorem zt(a b:Rat)(xs:List Rat)(n:Nat):(eS a b xs n).length=n:=by simp[eS]
theorem Kl{a b:Rat}{xs:List Rat}{n k:Nat}(h:k<n):(eS a b xs n)[k]? = some (pC a b xs k):=by
 unfold eS;rw[wu,vV h];rfl
theorem Dg(a b:Rat)(xs:List Rat)(n:Nat):eS a b xs (n+1)=eS a b xs n++[pC a b xs n]:=by
 unfold eS;rw[Q7,vK];rfl
theorem ZM(a b:Rat)(xs:List Rat)(n:Nat):bW (eS a b xs n)=true:=rf _ (λk=>Aw _ _ _) _
theorem zx0{ps:List Rat}{l:List Nat}{w:Nat}(h:¬ ps.getD w 0<1):aE ps (l++[w])=aE ps l++[w]:=by
 unfold aE;rw[W1,WI,decide_eq_false h];rfl
theorem zxf{ps:List Rat}{l:List Nat}{w:Nat}(h:ps.getD w 0<1):aE ps (l++[w])=aE ps l:=by
 unfold aE;rw[W1,WI,decide_eq_true h];exact Wc _
theorem zwI{wave l:List Nat}{w:Nat}(h:¬ w∈wave):bG (l++[w]) wave=bG l wave++[w]:=by
 unfold bG;rw[W1];simp[WI,h]
theorem Zd{wave l:List Nat}{w:Nat}(h:w∈wave):bG (l++[w]) wave=bG l wave:=by
 unfold bG;rw[W1];simp[WI,h]
theorem CA(l:List Nat)(w:Nat):vz (l++[w])=vz l++[V.int (w:Int)]:=by unfold vz;rw[vK];rfl
theorem zxl{xs:List Rat}{j:Nat}(h:j<xs.length):(bK xs).getD j 0=xs.getD j 0+(1-b_ xs):=by
 unfold bK;rw[wa,wu,wc h,wa,wc h];rfl
theorem BU:∀ds:List wB,(∀d∈ds,wI d d=true)->vJ ds ds=true
 | [],_=>by simp[vJ]
 | d::ds,h=>by rw[vJ,h d (wG ..),BU ds λe he=>h e (wF _ he)];rfl
theorem ko{ds:List wB}(h:∀d∈ds,wI d d=true):wI (.tuple ds) (.tuple ds)=true:=by rw[wI];exact BU ds h
theorem p0{ds:List wB}(h:∀d∈ds,wI d d=true):wI (.list ds) (.list ds)=true:=by rw[wI];exact BU ds h
theorem m4(x:Rat):wI (N x) (N x)=true:=by rw[pM];exact decide_eq_true rfl
theorem zX(xs:List Rat):wI (TN xs) (TN xs)=true:=by rw[Ax];exact decide_eq_true rfl
theorem zCQ(ws:List (List Nat)):wI (iT ws) (iT ws)=true:=ko λd hd=>by
 obtain⟨w,_,rfl⟩:=wO.mp hd;exact zB2 w
theorem Tx{P:wB->Prop}{a b c:wB}(ha:P a)(hb:P b)(hc:P c):∀d∈[a,b,c],P d:=λd hd=>by
 simp only[wL,Wx,or_false]at hd;rcases hd with rfl | rfl | rfl
 ·exact ha
 ·exact hb
 ·exact hc
theorem jE{P:wB->Prop}{a b:wB}(ha:P a)(hb:P b):∀d∈[a,b],P d:=λd hd=>by
 simp only[wL,Wx,or_false]at hd;rcases hd with rfl | rfl
 ·exact ha
 ·exact hb
theorem zCP(h:Rat)(ws:List (List Nat))(xs:List Rat):wI (jA h ws xs) (jA h ws xs)=true:=ko (Tx (m4 h) (zCQ ws) (zX xs))
def Sh(n:Nat)(d:wB):Prop:=d.canLay0=true/\d.depth<=n
theorem FX{n:Nat} : ∀ds:List wB,(∀d∈ds,Sh n d)->Wz ds=true/\WR ds<=n
 | [],_=>by simp[Wz,WR]
 | d::ds,h=>by
  have h1:=h d (wG ..);have h2:=FX ds λe he=>h e (wF _ he)
  rw[Wz,WR,h1.1,h2.1];exact⟨rfl,by have:=h1.2;have:=h2.2;lia⟩
theorem gI{n:Nat}{ds:List wB}(h:∀d∈ds,Sh n d):Sh (n+1) (.tuple ds):=by
 have:=FX ds h;unfold Sh;rw[vM,WU];exact⟨this.1,by have:=this.2;lia⟩
theorem nG{n:Nat}{ds:List wB}(h:∀d∈ds,Sh n d):Sh (n+1) (.list ds):=by
 have:=FX ds h;unfold Sh;rw[vM,WU];exact⟨this.1,by have:=this.2;lia⟩
theorem Sh.mono{m n:Nat}{d:wB}(h:Sh m d)(e:m<=n):Sh n d:=⟨h.1,Wm h.2 e⟩
theorem Sh.shaped{n:Nat}{d:wB}(h:Sh n d)(e:n<=64):vN d=true:=by
 unfold vN;rw[h.1,Vy];exact decide_eq_true (Wm h.2 e)
theorem jn(i:Int):Sh 1 (.int i):=⟨by simp[vM],by simp[WU]⟩
theorem ly(x:Rat):Sh 2 (N x):=gI (jE (jn _) (jn _))
theorem yT(xs:List Rat):Sh 3 (TN xs):=gI λd hd=>by
 obtain⟨x,_,rfl⟩:=wO.mp hd;exact ly x
theorem zDa(ws:List (List Nat)):Sh 4 (iT ws):=gI λd hd=>by
 obtain⟨w,_,rfl⟩:=wO.mp hd;refine(gI λe he=>?_:Sh 2 _).mono (by decide);obtain⟨i,_,rfl⟩:=wO.mp he;exact jn i
theorem zCq(h:Rat)(ws:List (List Nat))(xs:List Rat):Sh 6 (jA h ws xs):=gI (Tx ((ly h).mono (by decide)) ((zDa ws).mono (by decide)) ((yT xs).mono (by decide)))
theorem k_{K:wb}{H:Hp}{Q:VK}{v w:V}{d:wB}{n:Nat}(h:Is K H v d)(k:Is K H w d)(s:Sh n d)(e:n<=64)(r:wI d d=true)(q:Q (.bl false) H):df K v w H Q:=n_ h k (s.shaped e) (s.shaped e) (by rw[r];exact q)
theorem pN{K:wb}{H:Hp} : ∀{ds:List wB}{vs:List V},vs.length=ds.length->(∀i x,vs[i]? = some x->Is K H x (ds.getD i .none))->av K H vs ds
 | [],[],_,_=>.nil
 | [],_::_,h,_=>by simp at h
 | _::_,[],h,_=>by simp at h
 | d::ds,v::vs,h,e=>.cons (e 0 v rfl) (pN (by simpa using h) λi x hx=>e (i+1) x hx)
section
variable{K:wb}{H H':Hp}{Q:VK}{D:cB}{σ : St}{td ty tv:TE}{a:we}{kvs:List (Key × V)}{k:Int}{v:V}
end
theorem OP:∀{ts:List Int}{ys:List V},ys.length=ts.length->(∀(j:Nat)(y:V),ys[j]? = some y->y=V.int (ts.getD j 0))->ys=ts.map V.int
 | [],[],_,_=>rfl
 | [],_::_,h,_=>by simp at h
 | _::_,[],h,_=>by simp at h
 | t::ts,y::ys,h,e=>by
  rw[va,e 0 y rfl,OP (ts:=ts) (ys:=ys) (by simpa using h) λj z hz=>e (j+1) z hz]
  rfl
theorem kE{α : Type}{ys:List α}{j:Nat}{y : α}(h:ys[j]? = some y):j<ys.length:=by
 rcases wJ j ys.length with z | z
 ·exact z
 ·rw[wP z]at h;cases h
theorem int_at{ts:List Int}{i:Nat}{x:V}(h:(ts.map V.int)[i]? = some x):i<ts.length/\x=.int (ts.getD i 0):=by
 have hi:=kE h;rw[wo]at hi;rw[wu,wc hi]at h;refine⟨hi,?_⟩;rw[wa,wc hi];exact(w6 h).symm
theorem Lc{n:Nat}(p:Nat->Bool)(i:Nat):(wx (i+1)).filter p=(wx i).filter p++(if p i then [i]else []):=by
 rw[Q7,W1];cases h:p i<;>simp[h]
def TF(K:wb)(g:TG)(tt:TT)(te:TE)(src:List (Option Nat))(σ : St)(vs:List V)(H1:Hp)(Q:VK):Prop:=∃a,vs=[.ref a]/\(∃xs,aV K H1 a xs) /\
 ∀D,H1 D=none->kl g tt te (mS K a) D (dN src σ) (upd H1 D (.lst [])) (λH'=>Q (.ref D) H')
section
variable{K:wb}{ta:TA}{g:TG}{tt:TT}{te:TE}{σ : St}{H:Hp}{Q:VK}{a:we}{xs:List V}{src:List (Option Nat)}
theorem zwM(h:ta σ H λvs H1=>TF K g tt te src σ vs H1 Q):jm src (DJ K ta) g tt te σ H Q:=h
theorem zrX(hx:aV K H a xs)(Pv:we->Nat->List V->St->Hp->Prop)(h0:∀D H',H D=none->ag H H'->H' D=some (.lst [])->Pv D 0 [] (dN src σ) H')(hl:∀D i ys σ' H',Pv D i ys σ' H'->aV K H' a xs)
  (hs:∀D i x ys σ' H1 c H2,xs[i]? = some x->Pv D i ys σ' H1->H1 c=none->ag H1 H2->H2 c=some (.tup [.int (i:Int),x])->iA Pv g tt te D i (.ref c) σ' H2) (hd:∀D ys σ' H',Pv D xs.length ys σ' H'->Q (.ref D) H'):TF K g tt te src σ [.ref a] H Q:=by
 refine⟨a,rfl,⟨xs,hx⟩,λD hD=>⟨λi m σ' H'=>i+m=xs.length /\ ∃ys,Pv D i ys σ' H',⟨xs.length,by lia,[],h0 D _ hD (ag.upd hD) cJ⟩,?_⟩⟩;rintro i m σ' H' ⟨him,ys,inv⟩;have hq:=hl _ _ _ _ _ inv
 by_cases hm:m=0
 ·have e:i=xs.length:=by lia
  subst e;exact .inl ⟨⟨xs,hq,wq _⟩,hd _ _ _ _ inv⟩
 ·have hi:i<xs.length:=by lia
  refine .inr ⟨⟨xs,xs[i],hq,by simp[hi]⟩,λσ2 H2=>∃ys,Pv D (i+1) ys σ2 H2,λσ2 H2 h=>⟨m-1,by lia,by lia,h⟩,?_⟩;rintro v H2 ⟨c,x,rfl,hn,hx',rfl⟩;exact hs D i x ys σ' H' c _ (hx' xs hq) inv hn (ag.upd hn) cJ
end
def rE(K:wb):R2:=λx y H Q=>∃d ds,Is K H x d/\Is K H y (.tuple ds)/\Sh 60 d/\vM (.tuple ds)=true/\Q (.bl (ds.any λe=>wI e d)) H
theorem Nf{X:Cx}(hu:X.A.units+64<WM):aJ X (wN .In) (rE X.K):=by
 intro pins s σ H x y v u Q I rx ry h;obtain⟨d,ds,hd,he,sd,se,q⟩:=h;obtain⟨as,h1⟩:=I.reads d x v sd.1 hd rx;obtain⟨bs,h2⟩:=I.reads (.tuple ds) y u se he ry;have sd2:=sd.2;have hm:=XE (WR ds) d.depth;exact SeqAt.in_tuple_reads h2 h1 (by rw[vM]at se;exact se) sd.1 (by lia) ⟨.bl _,H,I,rfl,q⟩
theorem Z6(xs:List Rat)(x:Rat):((xs.map N).any λe=>wI e (N x))=decide (x∈xs):=by
 induction xs with
 | nil=>rfl
 | cons y xs ih =>
  rw[va,qW,ih,pM]
  by_cases h:x=y
  ·subst h;simp
  ·have h':¬ y=x:=λz=>h z.symm
   simp[h,h']
theorem zAN{K:wb}{H:Hp}{Q:VK}{v w:V}{xs:List Rat}{x:Rat}(h:Is K H v (N x))(k:Is K H w (TN xs))(q:Q (.bl (decide (x∈xs))) H):rE K v w H Q :=
 ⟨N x,xs.map N,h,k,(ly x).mono (by decide),by rw[vM];exact zS xs,by rw[Z6];exact q⟩
def gq(xs:List Rat)(v:Rat):wB:=.tuple [N v,TW (d9 xs v)]
theorem Ag(xs:List Rat)(v:Rat):cw (gq xs v)=true:=by rw[gq,cw,bW,bW,bW,kC,Ga];rfl
theorem zxm(xs:List Rat)(l:List Rat):bW (l.map (gq xs))=true:=rf _ (Ag xs) l
theorem zxP(ds:List wB):wI (.list ds) (.list [])=ds.isEmpty:=by cases ds<;>simp[wI,vJ]
theorem zD9(ns:List Int):Sh 2 (TZ ns):=gI λd hd=>by
 obtain⟨n,_,rfl⟩:=wO.mp hd;exact jn n
theorem zD2(ns:List Int):wI (TZ ns) (TZ ns)=true:=ko λd hd=>by
 obtain⟨n,_,rfl⟩:=wO.mp hd;rw[sZ];exact decide_eq_true rfl
section
variable{K:wb}{H:Hp}{Q:VK}{v w:V}{ds:List wB}{n:Nat}{l b:we}{xs zs:List V}
theorem zzc(h:Is K H v (.list ds))(k:Is K H w (.list []))(s:Sh n (.list ds))(e:n<=64)(q:Q (.bl (!ds.isEmpty)) H):df K v w H Q :=
 n_ h k (s.shaped e) ((nG (n:=1) (ds:=[]) (by simp)).shaped (by decide)) (by rw[zxP];exact q)
theorem zyT(a b:Bool):wI (.bool a) (.bool b)=(a == b):=by rw[wI]
theorem zA7(b:Bool):Sh 1 (.bool b):=⟨by simp[vM],by simp[WU]⟩
theorem zyk{i:Int}(h:H l=some (.lst xs))(h0:0<=i)(h1:i<xs.length)(hz:xs.length<=1000)(q:∀y H',xs[i.toNat]? = some y->Exc l H H'->H' l=some (.lst (xs.eraseIdx i.toNat))->Q y H'):Kk (.ref l) [.int i] H Q:=by
 have hi:i.toNat<xs.length:=by lia
 exact⟨l,xs,i,i.toNat,xs[i.toNat],rfl,rfl,h,by lia,by lia,ul h0 h1,wc hi,q _ _ (wc hi) (Exc.upd l H _) cJ⟩
end
theorem lI{K:wb}{H:Hp}{Q:VK}{v:V}{ds:List wB}{d:wB}(h:Is K H v (.list (ds++[d])))(q:∀x,Is K H x d->Q x H):c6 K v (.int (-1)) H Q:=by
 obtain⟨a,xs,rfl,hs,t⟩:=cj.mp h;have hl:=t.length;rw[wX,vT]at hl;obtain⟨x,e1,hx⟩:=t.get (i:=ds.length) (d:=d) (by rw[vf (wq _),W5];rfl);exact iF hs (CH (by rw[hl];exact e1)) (q x hx)
theorem Az{α β : Type}(f : α -> β):∀(l:List α)(k:Nat),(l.map f).eraseIdx k=(l.eraseIdx k).map f
 | [],_=>rfl
 | _::_,0=>rfl
 | x::l,k+1=>by
  show f x::(l.map f).eraseIdx k=f x::(l.eraseIdx k).map f
  rw[Az f l k]
theorem DM{α : Type} : ∀(l:List α)(k:Nat)(h:k<l.length),(l[k]::l.eraseIdx k).Perm l
 | x::l,0,_=>ut _
 | x::l,k+1,h=>(Xd.swap _ _ _).trans (Xd.cons x (DM l k (by simpa using h)))
def FP(K:wb):List V->Hp->VK->Prop:=λxs H Q=>∃(p:we)(bs:List Bool),xs=[.ref p]/\aO K H p (bs.map V.bl)/\Q (.bl (bs.any id)) H
theorem zDp:vI "any"=some (.builtin "any"):=by decide +kernel
theorem zuE(bs:List Bool):((wx bs.length).any λi=>(bs[i]?).getD true)=bs.any id:=by
 rw[vH,XW,XW]
 constructor
 ·rintro ⟨i,hi,h⟩
  rw[wD]at hi;rw[wc hi]at h;exact⟨bs[i],vt hi,h⟩
 ·rintro ⟨b,hb,h⟩
  obtain⟨i,hi,rfl⟩:=vg hb;exact⟨i,wD.mpr hi,by rw[wc hi];exact h⟩
open PyProof.V PySem.Calls in
theorem zw0{X:Cx}(hc:X.calm=true):aN X (.builtin "any") (FP X.K):=by
 intro pins s σ H xs us Q I r h;obtain⟨p,bs,rfl,hq,q⟩:=h;obtain⟨u,rfl,rx⟩:=gW r;cases rx;obtain⟨its,r',pl,hz⟩:=I.list hq;have hi:its=bs.map Value.bool:=NS r';have hl:s.heap.IsList p its.toArray:=pl.isList;have hlt:p<s.heap.objs.size:=by obtain⟨_,e,_⟩:=hl;exact wC e
 refine call_any_walk (VF hl ?_)
 refine⟨s.heap.objs.size,[s.heap.objs.size,p],[s.heap.objs.size],its.toArray.size,_,_,λi=>(bs[i]?).getD true,rfl,Walks.list (A:=X.A.in1) (I.ok.hd hc) _ p (wT hlt) its.toArray,
  ⟨⟨_,wK _ rfl,rfl,rfl⟩,hl.push _⟩,λi v s' Q' E' hP hQ=>?_,λh' tk hk=>?_⟩
 ·have hP:its.toArray[i]? = some v:=hP
  rw[hi]at hP;simp only[xw,wu,Vk]at hP;obtain⟨b,e,rfl⟩:=hP;simp only[e,qY]at hQ;exact Wn hQ
 ·have e:((wx its.toArray.size).any λi=>(bs[i]?).getD true)=bs.any id:=by
   rw[wR,hi,wo];exact zuE bs
  rw[e];exact⟨.bl (bs.any id),H,I.kept (t':=tk) (λb x e=>hk b x (λhm=>by rw[wY.mp hm]at e;exact Vx _ (wC e)) (wp _ e)),rfl,q⟩
theorem zAl{K:wb}{H:Hp}{Q:VK}{p:we}{bs:List Bool}(h:aO K H p (bs.map V.bl))(q:Q (.bl (bs.any id)) H):FP K [.ref p] H Q:=⟨p,bs,rfl,h,q⟩
section
open PyProof.V PySem.Calls PySem.W
variable{prog:wS}{w:wW}{A:vb}{E:wg->wm->Prop}{s:wm}
end
abbrev N8(h:wQ)(a:we):wQ:=h.push {cls:=.type "tuple_iterator",data:=.fields #[.ref a,.int 0 0]}
abbrev KN(h:wQ)(a b:we):wQ:=(N8 h a).push {cls:=.type "list_iterator",data:=.fields #[.ref b,.int 0 0]}
abbrev KP(h:wQ)(a b:we):wQ:=(KN h a b).push {cls:=.type "tuple",data:=.seq #[.ref h.objs.size,.ref (N8 h a).objs.size]}
abbrev zM4(h:wQ)(a b:we):wQ:=(KP h a b).push {cls:=.type "tuple",data:=.seq #[.none,.none]}
abbrev zM5(h:wQ)(a b:we):wQ:=(zM4 h a b).push {cls:=.type "zip",data:=.fields #[.none,.bool false,.bool false,.ref (KN h a b).objs.size,.ref (KP h a b).objs.size]}
section
variable{prog:wS}{w:wW}{A:vb}{E:wg->wm->Prop}{s:wm}
end
section
variable{X:Cx}{x:Str}{G:wg}{b₀ : vc}{body suite:List vc}{np hpos pos:Pos}{tb:(St->XK)->TS}{th:TS}
end
theorem jZ{K:wb}{H:Hp}{Q:VK}(s t:String)(r:Bool)(e:wI (.str (vL s)) (.str (vL t))=r)(q:Q (.bl r) H):cH K (.str (vL s)) (.str (vL t)) H Q :=
 mU (d:=.str (vL s)) (e:=.str (vL t)) (eI.mpr rfl) (eI.mpr rfl) (EF s) (EF t) (by rw[e];exact q)
section
variable{K:wb}{H:Hp}{Q:VK}{p:we}{ns:List Int}
end
theorem FO:∀{ms ks:List Int},ms.Perm ks->ms.Pairwise (· <= ·)->ks.Pairwise (· <= ·)->ms=ks
 | [],ks,p,_,_=>(List.nil_perm.mp p).symm
 | m::ms,[],p,_,_=>absurd p.length_eq (by simp)
 | m::ms,k::ks,p,hm,hk=>by
  rw[WJ]at hm hk
  have e:m=k:=by
   have h1:m∈k::ks:=p.mem_iff.mp (wG ..);have h2:k∈m::ms:=p.mem_iff.mpr (wG ..);rcases wL.mp h1 with e | e
   ·exact e
   ·rcases wL.mp h2 with e' | e'
    ·exact e'.symm
    ·have:=hk.1 m e
     have:=hm.1 k e'
     lia
  subst e;rw[FO (List.Perm.cons_inv p) hm.2 hk.2]
def LZ(ns:List Int):wB:=.list (ns.map .int)
theorem mB{K:wb}{H:Hp}{l:we}{ns:List Int}(h:H l=some (.lst (ns.map V.int))):Is K H (.ref l) (LZ ns):=cj.mpr ⟨l,_,rfl,.of h,lM.mpr rfl⟩
theorem yy(ns:List Int):Sh 2 (LZ ns):=nG λd hd=>by
 obtain⟨n,_,rfl⟩:=wO.mp hd;exact jn n
theorem zDR(ns:List Int):wI (LZ ns) (LZ ns)=true:=p0 λd hd=>by
 obtain⟨n,_,rfl⟩:=wO.mp hd;rw[sZ];exact decide_eq_true rfl
theorem zDF(l:List Nat):Sh 2 (TW l):=zD9 _
theorem zEm(l:List Nat):wI (TW l) (TW l)=true:=zD2 _
def LW(ws:List (List Nat)):wB:=.list (ws.map TW)
abbrev zf(h:wQ)(a:we):wQ:=h.push {cls:=.type "list_iterator",data:=.fields #[.ref a,.int 0 0]}
abbrev AW(h:wQ)(a b:we):wQ:=(zf h a).push {cls:=.type "tuple_iterator",data:=.fields #[.ref b,.int 0 0]}
abbrev yu(h:wQ)(a b:we):wQ:=(AW h a b).push {cls:=.type "tuple",data:=.seq #[.ref h.objs.size,.ref (zf h a).objs.size]}
abbrev zl(h:wQ)(a b:we):wQ:=(yu h a b).push {cls:=.type "tuple",data:=.seq #[.none,.none]}
abbrev nh(h:wQ)(a b:we):wQ:=(zl h a b).push {cls:=.type "zip",data:=.fields #[.none,.bool false,.bool false,.ref (AW h a b).objs.size,.ref (yu h a b).objs.size]}
theorem ztH(a b:we)(xs ys:Array wg):Meets (Builtin.«zip.__new__» ⟨[.type "zip",.ref a,.ref b],[]⟩) (λ_ R s=>s.heap.IsList a xs/\s.heap.IsTuple b ys/\R (.ok (.ret (.ref (zl s.heap a b).objs.size))) {s with heap:=nh s.heap a b}) :=
 .of_wp λprog w A R s h=>by
  obtain⟨hp,g,d,tk,os⟩:=s;obtain⟨ha,hb,h⟩:=h;have hsub:=sub_zip;have hA:Heap.IsList (Qr ⟨hp,g,d,tk,os⟩) a xs:=ha;have hB:QX (Qr ⟨hp.push {cls:=.type "list_iterator",data:=.fields #[.ref a,.int 0 0]},g,d,tk,os⟩) b ys:=Heap.IsTuple.push hb _
  wp_walk using VF hA,W2 hB
  exact⟨_,rfl,h⟩
section
variable{prog:wS}{w:wW}{A:vb}{E:wg->wm->Prop}{s:wm}
theorem zxh{a b:we}{xs ys:Array wg}{Q:wg->wm->Prop}(ha:s.heap.IsList a xs)(hb:s.heap.IsTuple b ys)
  (fin:∀h',IsZip h' (s.heap.objs.size+4) (s.heap.objs.size+2) (s.heap.objs.size+3) .none->Ws h' (s.heap.objs.size+2) (.ref s.heap.objs.size) (.ref (s.heap.objs.size+1))->Ws h' (s.heap.objs.size+3) .none .none ->
   h'.IsListIter s.heap.objs.size a 0->h'.IsTupleIter (s.heap.objs.size+1) b 0->(∀c o,s.heap.get? c=some o->h'.get? c=some o)->Q (.ref (s.heap.objs.size+4)) {s with heap:=h'}):wA (model prog w) A (call (.type "zip") [.ref a,.ref b]) Q E s:=by
 refine callType_new F.called_zip (by decide) (XV _ _) (uf _ _) (λobj=>xF obj _ _) ug (ztH a b xs ys) ⟨ha,hb,?_⟩;have z1:(zf s.heap a).objs.size=s.heap.objs.size+1:=WC ..;have z2:(AW s.heap a b).objs.size=s.heap.objs.size+2:=by rw[WC,z1]
 have z3:(yu s.heap a b).objs.size=s.heap.objs.size+3:=by rw[WC,z2]
 have z4:(zl s.heap a b).objs.size=s.heap.objs.size+4:=by rw[WC,z3]
 have g5:(nh s.heap a b).get? (zl s.heap a b).objs.size=some _:=wK _ rfl;have g4:(nh s.heap a b).get? (yu s.heap a b).objs.size=some _:=wp _ (wK _ rfl);have g3:(nh s.heap a b).get? (AW s.heap a b).objs.size=some _:=wp _ (wp _ (wK _ rfl));have g2:(nh s.heap a b).get? (zf s.heap a).objs.size=some _:=wp _ (wp _ (wp _ (wK _ rfl)));have g1:(nh s.heap a b).get? s.heap.objs.size=some _:=wp _ (wp _ (wp _ (wp _ (wK _ rfl))))
 show _/\_
 rw[z2,z3,z4]at g5;rw[z1,z2]at g3;rw[z3]at g4;rw[z1]at g2;rw[z4];exact⟨⟨_,g5,rfl⟩,fin _ g5 g3 g4 ⟨_,g1,rfl,rfl⟩ ⟨_,g2,rfl,rfl⟩ λc o x=>wp _ (wp _ (wp _ (wp _ (wp _ x))))⟩
end
theorem zAE{X:Cx}{elts:List Expr}{k1}{tpos p pos:Pos}{l m:Expr}{ta:TA}(hg:Gl X "zip")(hm:X.mg "zip"=none)(ha:PA X [l,m] ta)(hs:w8 [l,m] X.env=[(false,eval l X.env),(false,eval m X.env)]:=by rfl)(hs2:w8 [m] X.env=[(false,eval m X.env)]:=by rfl) :
  PI X (.Tuple elts k1 tpos) (.Call (.Name "zip" p) [l,m] [] pos) (pO false true X.K ta):=by
 intro pins s σ H R I h;refine Call_ (gu I hg hm A5 (vk (aI (ha pos pins s σ H _ I h) λus s1 ⟨vs,H1,I1,r1,q1⟩=>?_) (by rw[hs,hs2]) (by rw[hs2];rfl)));obtain⟨a,b,rfl,⟨xs,hq1⟩,⟨ys,hq2⟩,q⟩:=q1;obtain⟨u,v,rfl,ru,rv⟩:=jV r1;cases ru;cases rv;obtain⟨its,_,p1⟩:=I1.ia hq1;obtain⟨jts,_,p2⟩:=I1.ia hq2;have la:a<s1.heap.objs.size:=by obtain⟨o,e,_⟩:=(show s1.heap.IsList a its.toArray from p1);exact wC e
 have lb:b<s1.heap.objs.size:=by obtain⟨o,e,_⟩:=(show s1.heap.IsTuple b jts.toArray from p2);exact wC e
 exact zxh p1 p2 λh' hz hi ho t1 t2 kp=>FV (t:=false) (u:=true) I1 la lb hz hi ho t1 t2 kp q
end L2
namespace GM
section
variable(rs:List Int)(us ts:List (List Int))(ps cs:List Int)
end
section
variable{rs:List Int}{us ts:List (List Int)}{ps cs:List Int}
theorem Iy:∀(n:Nat)(g:List Nat),g.Nodup->(∀w∈g,w<n)->g.length<=n
 | 0,[],_,_=>wq _
 | 0,w::g,_,h=>absurd (h w (wG ..)) (Qe _)
 | n+1,g,nd,h=>by
  have h1:=Iy n (g.erase n) (nd.erase n) λw hw=>by
   have hm:=nd.mem_erase_iff.mp hw;have:=h w hm.2;have:w≠n:=hm.1
   lia
  have h2:g.length<=(g.erase n).length+1:=by
   rw[List.length_erase]
   split<;>lia
  lia
end
section
variable(rs:List Int)(us ts:List (List Int))(ps cs:List Int)
end
section
variable{rs:List Int}{us ts:List (List Int)}{ps cs:List Int}{f:Nat}{g:List Nat}{acc:List (List Nat)}
end
section
variable(rs:List Int)(us ts:List (List Int))(ps:List Int)(cm:List (List Int))
end
section
variable{rs:List Int}{us ts:List (List Int)}{ps:List Int}{cm:List (List Int)}
end
end GM
namespace L2
open PySem PySem.Spec PyProof.Rows GM
section
variable{K:wb}{H H':Hp}{Q:VK}{v:V}{rs ps:List Int}{us ts cm rows:List (List Int)}{m:Int}{ws:List (List Nat)}
end
theorem zxY{α : Type}{l:List α}{x : α}(d : α)(h:x∈l):∃i,i<l.length/\l.getD i d=x:=by
 obtain⟨i,hi,e⟩:=vg h;exact⟨i,hi,by rw[wa,wc hi];exact e⟩
theorem zCX{i:Nat}{te:TE}{ti:pj}{D:cB}{σ : L2.St}{H:Hp}(h:∃x,σ[i]? = some (some x)/\te σ H λy H1=>ti x y H1 λz H2=>D.nx (σ.set i (some z)) H2):Mz i te ti D σ H:=h
theorem zA6{v:V}{P:V->Prop}{o:Option (Option V)}(h:o=some (some v))(q:P v):∃x,o=some (some x)/\P x:=⟨v,h,q⟩
theorem YY{f:Int->Int->Int}{m n:Int}{H:Hp}{Q:VK}(q:Q (.int (f m n)) H):LA f (.int m) (.int n) H Q:=⟨m,n,rfl,rfl,q⟩
end L2
namespace TB
open PySem PySem.W PyProof.Rows
inductive d7{α β : Type}(R : α -> β -> Prop):List α -> List β -> Prop
 | nil:d7 R [] []
 | cons {a : α} {b : β} {l:List α} {m:List β} : R a b->d7 R l m->d7 R (a::l) (b::m)
structure HV(prog:wS)(w:wW)(K:Type)[DecidableEq K] where
 is:wQ->K->wg->Prop
 hash:K->Int
 draws:K->Nat
 deep:Nat
 inj:∀{h:wQ}{v:wg}{x y:K},is h x v->is h y v->x=y
 keeps:∀{h h':wQ}{k:K}{v:wg}{d:we}{o:Obj}{es ep},is h k v->h.get? d=some o->o.data=.dict es ep->vF d h h'->is h' k v
 pyHash:∀{A:vb}{E:wg->wm->Prop}{s:wm}{k:K}{v:wg}{Q:Int->wm->Prop},A.units+deep<WM->is s.heap k v->Q (hash k) {s with toks:=s.toks+draws k}->wA (model prog w) A (PySem.pyHash v) Q E s
 eqBool:∀{A:vb}{E:wg->wm->Prop}{s:wm}{x y:K}{u v:wg}{Q:Bool->wm->Prop},A.units+deep<WM->is s.heap x u->is s.heap y v->Q (decide (x=y)) s->wA (model prog w) A (PySem.eqBool u v) Q E s
 quiet:∀{A:vb}{E:wg->wm->Prop}{s:wm}{k:K}{v:wg}{Q:Bool->wm->Prop}(n:Nat),deep<=n->is s.heap k v->Q true s->wA (model prog w) A (eqIsQuiet n v) Q E s
section
variable{prog:wS}{w:wW}{A:vb}{E:wg->wm->Prop}{s:wm}
theorem RF{a:we}{o:Obj}{items:Array wg}{n:Nat}{hs:List (Int × Nat)}{Q:Int->wm->Prop}(hu:A.units<WM)(ho:s.heap.get? a=some o)(hc:o.cls=.type "tuple")(hd:o.data=.seq items n)
  (hi:d7 (λv (x:Int × Nat)=>∀(E:wg->wm->Prop)(Q:Int->wm->Prop)(s':wm),s'.heap=s.heap->Q x.1 {s' with toks:=s'.toks+x.2}->wA (model prog w) A.in1 (pyHash v) Q E s') items.toList hs)
  (h:Q (reduceHash (vX (hs.map (·.1)))) {s with toks:=s.toks+((hs.map (·.2)).sum+1)}) :
  wA (model prog w) A (pyHash (.ref a)) Q E s:=by
 have hT:s.TypeIs (.ref a) "tuple":=⟨o,ho,hc⟩;unfold pyHash
 first | unfold pyHashByItsType | skip
 first | refine wf (wpAny_cRoomFor_or (.inr hu) ?_) | skip
 refine wf (qz hT qP.lookup ?_)
 show wA _ _ (if(some (Value.builtin "tuple.__hash__") == some Value.none)=true then _ else _) Q E s
 rw[if_neg (by rw[beq_builtin_none];exact vC)];refine wf (qz hT qP.lookup ?_)
 show wA _ _ (callSpecialIfBoundUnlessNone? (.ref a) "__hash__" _ >>= _) Q E s
 refine wf (wpAny_callSpecialIfBoundUnlessNone?_slot hT qP (vQ qP hT F.entry_tuple_hash ?_ (F.args_tuple_hash_1 _)))
 show wA _ _ (QE (.ref a) >>= _) _ _ s
 refine wf (wpAny_tupleItemsOf ho hd ?_);refine wf ?_;rw[<- qH]
 refine wpAny_forIn_list _
  (λeX (b:Array Int) s'=>∃done left,hs=done++left/\d7 (λv (x:Int × Nat)=>∀(E:wg->wm->Prop)(Q:Int->wm->Prop)(s':wm),s'.heap=s.heap->Q x.1 {s' with toks:=s'.toks+x.2}->wA (model prog w) A.in1 (pyHash v) Q E s') eX left/\b.toList=done.map (·.1)/\s' = {s with toks:=s.toks+(done.map (·.2)).sum})
  _ ?_ ?_ _ _ ⟨[],hs,rfl,hi,rfl,rfl⟩
 ·rintro x eX b s' ⟨done,left,rfl,hl,hb,rfl⟩
  cases hl with
  | @cons _ k _ ks' h1 hl' =>
   refine wf (h1 _ _ _ rfl ?_)
   first
    | exact wy ⟨done++[k],ks',by simp,hl',by simp[hb],by simp[VT]⟩
    | exact wf (wy (wy ⟨done++[k],ks',by simp,hl',by simp[hb],by simp[VT]⟩))
 ·rintro b s' ⟨done,left,rfl,hl,hb,rfl⟩
  cases hl;rw[Wc]at h
  show wA _ _ (retInt (vX b.toList)) _ _ _
  rw[hb];refine wpAny_ret_mkInt ?_
  show wA _ _ (if(decide (-(2:Int)^63<=vX (done.map (·.1)))&&decide (vX (done.map (·.1))<2^63))=true then _ else _) Q E _
  unfold reduceHash at h
  by_cases hr:(decide (-(2:Int)^63<=vX (done.map (·.1)))&&decide (vX (done.map (·.1))<2^63))=true
  ·rw[if_pos hr]
   rw[if_pos hr]at h;exact wy (by simpa [VT] using h)
  ·rw[if_neg hr]
   rw[if_neg hr]at h;exact wf (V0 (wy (by simpa [VT] using h)))
theorem zCG{a b:we}{oa ob:Obj}{xs ys:Array wg}{na nb:Nat}{bs:List Bool}{P:PySem.Fin->wm->Prop}(hoa:s.heap.get? a=some oa)(hda:oa.data=.seq xs na)(hob:s.heap.get? b=some ob)(hcb:ob.cls=.type "tuple")(hdb:ob.data=.seq ys nb)
  (hi:d7 (λ(p:wg × wg)(c:Bool)=>∀(E:wg->wm->Prop)(Q:Bool->wm->Prop),Q c s->wA (model prog w) A (eqBool p.1 p.2) Q E s) (xs.toList.zip ys.toList) bs)
  (h:P (.done (.ret (.bool (bs.all id&&xs.size == ys.size)))) s) :
  wA (model prog w) A (Builtin.«tuple.__eq__» ⟨[.ref a,.ref b],[]⟩) P E s:=by
 have hTb:s.TypeIs (.ref b) "tuple":=⟨ob,hob,hcb⟩
 show wA _ _ (isInstance (.ref b) (.type "tuple") >>= _) _ _ s
 refine wf (WL hTb isSubtype_tuple_tuple ?_);simp only[qj,vZ,if_false];refine wf (wpAny_tupleItemsOf hoa hda ?_);refine wf (wpAny_tupleItemsOf hob hdb ?_);refine wf ?_
 refine wpAny_forIn_list _
  (λeX r s'=>r.1=none/\s'=s /\ ∃cs,d7 (λ(p:wg × wg)(c:Bool)=>∀(E:wg->wm->Prop)(Q:Bool->wm->Prop),Q c s->wA (model prog w) A (eqBool p.1 p.2) Q E s) eX cs/\bs.all id=cs.all id)
  _ ?_ ?_ _ _ ⟨rfl,rfl,bs,hi,rfl⟩
 ·rintro ⟨u,v⟩ eX r s' ⟨hr,rfl,cs,hcs,hall⟩
  cases hcs with
  | @cons _ c _ cs' h1 h2 =>
   refine wf (h1 _ _ ?_);cases c with
   | true =>
    simp only[qj,vZ,if_false];exact wy ⟨rfl,rfl,cs',h2,by rw[hall];simp⟩
   | false =>
    simp only[xp,if_true];have hf:bs.all id=false:=by rw[hall];simp
    rw[hf,WA]at h;exact wf (wy (wy (wy h)))
 ·rintro ⟨r1,r2⟩ s' ⟨hr,rfl,cs,hcs,hall⟩
  simp only at hr;subst hr;refine wy ?_;cases hcs;rw[hall]at h;have h':P (.done (.ret (.bool (xs.size == ys.size)))) s':=by simpa using h
  exact h'
theorem Lq{a:we}{o:Obj}{items:Array wg}{n m:Nat}{Q:Bool->wm->Prop}(ho:s.heap.get? a=some o)(hc:o.cls=.type "tuple")(hd:o.data=.seq items n)
  (hi:∀v∈items.toList,∀(E:wg->wm->Prop)(Q:Bool->wm->Prop),Q true s->wA (model prog w) A (eqIsQuiet m v) Q E s) (h:Q true s):wA (model prog w) A (eqIsQuiet (m+1) (.ref a)) Q E s:=by
 have hT:s.TypeIs (.ref a) "tuple":=⟨o,ho,hc⟩;unfold eqIsQuiet;refine wf (qz hT Q8.lookup ?_)
 show wA _ _ (isInstance (.ref a) (.type "tuple") >>= _) _ _ s
 refine wf (WL hT isSubtype_tuple_tuple ?_);simp only[qj,vZ,if_false];refine wf (Wk ho hd ?_);refine wf ?_
 show wA _ _ (forIn items _ _) _ _ s
 rw[<- qH];refine wpAny_forIn_list _ (λeX r s'=>r.1=none/\s'=s /\ ∀v∈eX,v∈items.toList) _ ?_ ?_ _ _ ⟨rfl,rfl,λ_ h=>h⟩
 ·rintro v eX r s' ⟨hr,rfl,hall⟩
  refine wf (hi v (hall v wG) _ _ ?_);simp only[qj,vZ,if_false];exact wy ⟨rfl,rfl,λu hu'=>hall u (wF _ hu')⟩
 ·rintro ⟨r1,r2⟩ s' ⟨hr,rfl,_⟩
  simp only at hr;subst hr;exact wy h
theorem MC{a b:we}{oa ob:Obj}{xs ys:Array wg}{na nb:Nat}{bs:List Bool}{Q:Bool->wm->Prop}(hu:A.units<WM)(hoa:s.heap.get? a=some oa)(hca:oa.cls=.type "tuple")(hda:oa.data=.seq xs na)(hob:s.heap.get? b=some ob)(hcb:ob.cls=.type "tuple")(hdb:ob.data=.seq ys nb)
  (he:a=b->(bs.all id&&xs.size == ys.size)=true)
  (hi:d7 (λ(p:wg × wg)(c:Bool)=>∀(E:wg->wm->Prop)(Q:Bool->wm->Prop),Q c s->wA (model prog w) A.in1 (eqBool p.1 p.2) Q E s) (xs.toList.zip ys.toList) bs)
  (h:Q (bs.all id&&xs.size == ys.size) s):wA (model prog w) A (eqBool (.ref a) (.ref b)) Q E s:=by
 unfold eqBool
 try with_reducible refine vR ?_
 show wA _ _ (if(Value.ref a == Value.ref b)=true then _ else _) Q E s
 by_cases hab:(Value.ref a == Value.ref b)=true
 ·rw[if_pos hab]
  have e:a=b:=by have:=eq_of_beq hab;injection this
  rw[he e]at h;exact wf (V0 (wy h))
 ·rw[if_neg hab]
  have ta:s.TypeIs (.ref a) "tuple":=⟨oa,hoa,hca⟩;have tb:s.TypeIs (.ref b) "tuple":=⟨ob,hob,hcb⟩
  exact wf (wpAny_richCompare_same_room (op:=.Eq) ta tb Q8
   (vQ Q8 ta F.entry_tuple_eq (zCG hoa hda hob hcb hdb hi ⟨_,rfl,(λe=>nomatch e),Wn h⟩) (F.args_tuple_eq_2 _ _)) hu)
end
def kG(R:List wg->Prop)(h:wQ)(v:wg):Prop:=∃a o items n,v=.ref a/\h.get? a=some o/\o.cls=.type "tuple"/\o.data=.seq items n/\R items.toList
theorem kG.inj{R S:List wg->Prop}{h:wQ}{v:wg}(x:kG R h v)(y:kG S h v):∃l,R l/\S l:=by
 obtain⟨a,o,items,n,rfl,ho,_,hd,hi⟩:=x;obtain⟨a',o',items',n',e,ho',_,hd',hi'⟩:=y;cases e;obtain rfl:o=o':=w6 (ho.symm.trans ho');rw[hd]at hd'
 injection hd' with h1 _
 subst h1;exact⟨_,hi,hi'⟩
theorem kG.keeps{R S:List wg->Prop}{h h':wQ}{v:wg}{d:we}{o:Obj}{es ep}(x:kG R h v)(ho:h.get? d=some o)(hd:o.data=.dict es ep)(hs:vF d h h')(r:∀l,R l->S l):kG S h' v:=by
 obtain⟨a,o',items,n,rfl,ho',hc,hd',hi⟩:=x
 have hne:a≠d:=by
  rintro rfl;obtain rfl:o'=o:=w6 (ho'.symm.trans ho);rw[hd]at hd';exact nomatch hd'
 exact⟨a,o',items,n,rfl,(hs.2 a hne).trans ho',hc,hd',r _ hi⟩
def fN(prog:wS)(w:wW):HV prog w Int where
 is:=λ_ k v=>∃t,v=.int k t
 hash:=hashInt
 draws:=λ_=>1
 deep:=0
 inj:=λ⟨t,e⟩ ⟨u,f⟩=>by subst e;injection f
 keeps:=λh _ _ _=>h
 pyHash:=λ_ ⟨t,e⟩ h=>by subst e;exact wpAny_pyHash_int h
 eqBool:=λ_ ⟨t,e⟩ ⟨u,f⟩ h=>by subst e f;exact wpAny_eqBool_int h
 quiet:=λn _ ⟨t,e⟩ h=>by subst e;rw[eqIsQuiet_byValue n rfl];exact wy h
section
variable{prog:wS}{w:wW}{K:Type}[DecidableEq K](e:HV prog w K)
theorem Sn{A:vb}{s:wm}(hu:A.in1.units+e.deep<WM):∀{ks:List K}{vs:List wg},d7 (e.is s.heap) ks vs ->
  d7 (λv (x:Int × Nat)=>∀(E:wg->wm->Prop)(Q:Int->wm->Prop)(s':wm),s'.heap=s.heap->Q x.1 {s' with toks:=s'.toks+x.2}->wA (model prog w) A.in1 (pyHash v) Q E s') vs (ks.map λk=>(e.hash k,e.draws k))
 | _,_,.nil=>.nil
 | _,_,.cons h t=>.cons (λE Q s' he q=>e.pyHash hu (he ▸ h) q) (Sn hu t)
theorem Rq{A:vb}{s:wm}(hu:A.in1.units+e.deep<WM):∀{ks js:List K}{us vs:List wg},d7 (e.is s.heap) ks us->d7 (e.is s.heap) js vs ->
  ∃bs,d7 (λ(p:wg × wg)(c:Bool)=>∀(E:wg->wm->Prop)(Q:Bool->wm->Prop),Q c s->wA (model prog w) A.in1 (eqBool p.1 p.2) Q E s) (us.zip vs) bs/\(bs.all id&&us.length == vs.length)=decide (ks=js)
 | _,_,_,_,.nil,.nil=>⟨[],.nil,by simp⟩
 | _,_,_,_,.nil,.cons _ _=>⟨[],.nil,by simp⟩
 | _,_,_,_,.cons _ _,.nil=>⟨[],.nil,by simp⟩
 | k::ks,j::js,_,_,.cons h t,.cons h' t'=>by
  obtain⟨bs,b1,b2⟩:=Rq hu t t';refine⟨decide (k=j)::bs,.cons (λE Q q=>e.eqBool hu h h' q) b1,?_⟩;rw[xJ,Bool.and_assoc,vP,vP,show ∀a b:Nat,(a+1 == b+1)=(a == b)from λa b=>by simp,b2]
  by_cases h1:k=j<;>by_cases h2:ks=js<;>simp[h1,h2]
theorem B7{h:wQ} : ∀{ks js:List K}{vs:List wg},d7 (e.is h) ks vs->d7 (e.is h) js vs->ks=js
 | _,_,_,.nil,.nil=>rfl
 | _,_,_,.cons h t,.cons h' t'=>by rw[e.inj h h',B7 t t']
theorem KS{α β : Type}{R S : α -> β -> Prop}(f:∀a b,R a b->S a b):∀{l:List α}{m:List β},d7 R l m->d7 S l m
 | _,_,.nil=>.nil
 | _,_,.cons h t=>.cons (f _ _ h) (KS f t)
theorem J5{α β : Type}{R : α -> β -> Prop} : ∀{l:List α}{m:List β},d7 R l m->∀y∈m,∃x,R x y
 | _,_,.nil,y,hy=>by cases hy
 | _,_,.cons h t,y,hy=>by
  rcases wL.mp hy with rfl | hy
  ·exact⟨_,h⟩
  ·exact J5 t y hy
def fQ:HV prog w (List K) where
 is:=λh ks v=>kG (d7 (e.is h) ks) h v
 hash:=λks=>reduceHash (vX ((ks.map λk=>(e.hash k,e.draws k)).map (·.1)))
 draws:=λks=>((ks.map λk=>(e.hash k,e.draws k)).map (·.2)).sum+1
 deep:=e.deep+1
 inj:=λx y=>by
  obtain⟨l,h1,h2⟩:=x.inj y;exact B7 e h1 h2
 keeps:=λx ho hd hs=>x.keeps ho hd hs λl h=>KS (λa b r=>e.keeps r ho hd hs) h
 pyHash:=λ{A E s k v Q} hu x h=>by
  obtain⟨a,o,items,n,rfl,ho,hc,hd,hi⟩:=x;exact RF (by lia) ho hc hd (Sn e (show A.units+1+e.deep<WM by lia) hi) h
 eqBool:=λ{A E s x y u v Q} hu hx hy h=>by
  have hj:u=v->x=y:=λev=>by
   subst ev;obtain⟨l,h1,h2⟩:=hx.inj hy;exact B7 e h1 h2
  obtain⟨a,o,items,n,rfl,ho,hc,hd,hi⟩:=hx;obtain⟨a',o',items',n',rfl,ho',hc',hd',hi'⟩:=hy;obtain⟨bs,b1,b2⟩:=Rq e (A:=A) (show A.units+1+e.deep<WM by lia) hi hi';have b3:(bs.all id&&items.size == items'.size)=decide (x=y):=by rw[<- b2];rfl
  refine MC (by lia) ho hc hd ho' hc' hd' (λea=>?_) b1 (by rw[b3];exact h);rw[b3];exact decide_eq_true (hj (by rw[ea]))
 quiet:=λ{A E s k v Q} n hn x h=>by
  obtain⟨a,o,items,m,rfl,ho,hc,hd,hi⟩:=x;obtain⟨j,rfl⟩:∃j,n=j+1:=⟨n-1,by lia⟩
  exact Lq ho hc hd (λu hu E Q q=>by
   obtain⟨x,hx⟩:=J5 hi u hu;exact e.quiet j (by lia) hx q) h
end
section
variable{prog:wS}{w:wW}{J K:Type}[DecidableEq J][DecidableEq K](d:HV prog w J)(e:HV prog w K)
def Two(h:wQ)(k:J × K)(l:List wg):Prop:=∃u v,l=[u,v]/\d.is h k.1 u/\e.is h k.2 v
def Py:HV prog w (J × K) where
 is:=λh k v=>kG (Two d e h k) h v
 hash:=λk=>reduceHash (vX ([(d.hash k.1,d.draws k.1),(e.hash k.2,e.draws k.2)].map (·.1)))
 draws:=λk=>([(d.hash k.1,d.draws k.1),(e.hash k.2,e.draws k.2)].map (·.2)).sum+1
 deep:=max d.deep e.deep+1
 inj:=λ{h v x y} hx hy=>by
  obtain⟨l,⟨u,v,rfl,h1,h2⟩,u',v',e',h3,h4⟩:=hx.inj hy;cases e';exact Vw (d.inj h1 h3) (e.inj h2 h4)
 keeps:=λx ho hd hs=>x.keeps ho hd hs λl ⟨u,v,r,h1,h2⟩=>⟨u,v,r,d.keeps h1 ho hd hs,e.keeps h2 ho hd hs⟩
 pyHash:=λ{A E s k v Q} hu x h=>by
  obtain⟨a,o,items,n,rfl,ho,hc,hd,u,v,hl,h1,h2⟩:=x
  exact RF (by lia) ho hc hd (by
   rw[hl];exact .cons (λE Q s' he q=>d.pyHash (show A.units+1+d.deep<WM by lia) (he ▸ h1) q) (.cons (λE Q s' he q=>e.pyHash (show A.units+1+e.deep<WM by lia) (he ▸ h2) q) .nil)) h
 eqBool:=λ{A E s x y u v Q} hu hx hy h=>by
  have hj:u=v->x=y:=λev=>by
   subst ev;obtain⟨l,⟨u,v,rfl,h1,h2⟩,u',v',e',h3,h4⟩:=hx.inj hy;cases e';exact Vw (d.inj h1 h3) (e.inj h2 h4)
  obtain⟨a,o,items,n,rfl,ho,hc,hd,u,v,hl,h1,h2⟩:=hx;obtain⟨a',o',items',n',rfl,ho',hc',hd',u',v',hl',h1',h2'⟩:=hy
  have b3:([decide (x.1=y.1),decide (x.2=y.2)].all id&&items.size == items'.size)=decide (x=y):=by
   rw[<- Vc,<- Vc,hl,hl'];obtain⟨x1,x2⟩:=x;obtain⟨y1,y2⟩:=y
   by_cases h1:x1=y1<;>by_cases h2:x2=y2<;>simp[h1,h2]
  refine MC (bs:=[decide (x.1=y.1),decide (x.2=y.2)]) (by lia) ho hc hd ho' hc' hd' (λea=>?_) ?_ (by rw[b3];exact h)
  ·rw[b3]
   exact decide_eq_true (hj (by rw[ea]))
  ·rw[hl,hl']
   exact .cons (λE Q q=>d.eqBool (show A.units+1+d.deep<WM by lia) h1 h1' q) (.cons (λE Q q=>e.eqBool (show A.units+1+e.deep<WM by lia) h2 h2' q) .nil)
 quiet:=λ{A E s k v Q} n hn x h=>by
  obtain⟨a,o,items,m,rfl,ho,hc,hd,u,v,hl,h1,h2⟩:=x;obtain⟨j,rfl⟩:∃j,n=j+1:=⟨n-1,by lia⟩
  exact Lq ho hc hd (λu hu E Q q=>by
   rw[hl]at hu;rcases wL.mp hu with rfl | hu
   ·exact d.quiet j (by lia) h1 q
   ·rw[wY]at hu
    subst hu;exact e.quiet j (by lia) h2 q) h
end
abbrev SK:=List Int × List (List Int)
def ki(prog:wS)(w:wW):HV prog w SK:=Py (fQ (fN prog w)) (fQ (fQ (fN prog w)))
def zB9(prog:wS)(w:wW):HeapKind prog w SK where
 is:=λh k a=>(ki prog w).is h k (.ref a)
 hash:=(ki prog w).hash
 draws:=(ki prog w).draws
 room:=λA=>A.units+3<WM
 inj:=λx y=>(ki prog w).inj x y
 keeps:=λx ho hd hs=>(ki prog w).keeps x ho hd hs
 pyHash:=λhu hk h=>(ki prog w).pyHash hu hk h
 eqBool:=λhu hx hy h=>(ki prog w).eqBool hu hx hy h
 quiet:=λhk h=>(ki prog w).quiet 8 (by show 3<=8;decide) hk h
end TB
namespace L2
open PySem PySem.Spec PyProof.Rows GM
open TB (SK zB9 ki fQ fN Py d7)
theorem NP{P:wS}{w:wW}{h:wQ} : ∀{us:List wg}{ns:List Int},IntsAre us ns->d7 ((fN P w).is h) ns us
 | _,_,.nil=>.nil
 | _,_,.cons n t r=>.cons ⟨t,rfl⟩ (NP r)
section
variable{X:Cx}{pins:List (we × Obj)}{σ : St}{H:Hp}{s:wm}
theorem Inv.YB(I:Inv X pins σ H s){v:V}{u:wg}{k:List Int}(h:Is X.K H v (TZ k))(r:bC v u):(fQ (fN X.prog X.w)).is s.heap k u:=by
 obtain⟨q,rfl,hs⟩:=mq.mp h;obtain⟨its,r',⟨o,e,hc,n,hd⟩,_⟩:=I.tuple hs;cases (show u=Value.ref q from r);exact⟨q,o,its.toArray,n,rfl,e,hc,hd,NP (CZ r')⟩
end
def zDK(l:List (Int × Nat)):Int:=reduceHash (vX (l.map (·.1)))
def zD8(ks:List Int):Int:=zDK (ks.map λk=>(hashInt k,1))
section
variable{X:Cx}{pins:List (we × Obj)}{σ : St}{H:Hp}{s:wm}{a b:we}{xs:List (SK × we × Int)}{ps:List Int}{cm:List (List Int)}{A:vb}{E:wg->wm->Prop}
end
section
variable{X:Cx}{pos pos':Pos}{i o value:Expr}{ty td tv:TE}
end
section
variable{K:wb}{H H':Hp}{Q:VK}{D:cB}{σ : St}{td ty tv:TE}{a b:we}{xs:List (SK × we × Int)}{ps:List Int}{cm:List (List Int)}{n:Int}
end
section
variable{X:Cx}{N':List Str}{scope:Scope}{cl:List (Str × we)}{src:List (Option Nat)}{elt tgt iter:Expr}{ifs:List Expr}{pos:Pos}{wi:TI}{g:TG}{tt:TT}{te:TE}
end
end L2
namespace TB
open PySem PySem.Spec PyProof.Rows
def dF(prog:wS)(w:wW):HeapKind prog w (List Int) where
 is:=λh k a=>(fQ (fN prog w)).is h k (.ref a)
 hash:=(fQ (fN prog w)).hash
 draws:=(fQ (fN prog w)).draws
 room:=λA=>A.units+1<WM
 inj:=λx y=>(fQ (fN prog w)).inj x y
 keeps:=λx ho hd hs=>(fQ (fN prog w)).keeps x ho hd hs
 pyHash:=λhu hk h=>(fQ (fN prog w)).pyHash hu hk h
 eqBool:=λhu hx hy h=>(fQ (fN prog w)).eqBool hu hx hy h
 quiet:=λhk h=>(fQ (fN prog w)).quiet 8 (by show 1<=8;decide) hk h
section
variable{prog:wS}{w:wW}{K:Type}[DecidableEq K]{knd:HeapKind prog w K}{A:vb}{E:wg->wm->Prop}{s:wm}
end
end TB
namespace L2
open PySem PySem.Spec PyProof.Rows GM
open TB (dF fQ fN)
abbrev NE:=List Int × we × we
def rK(x:NE)(e:DictEntry):Prop:=e=⟨zD8 x.1,.ref x.2.1,.ref x.2.2⟩
def iE(a:we)(ep:Nat)(xs:List NE):HO:=.ext λh=>xs.length<=1000/\(a == sysModules)=false/\(xs.map (·.1)).Nodup /\ ∃o es,h.get? a=some o/\o.ExactDict/\o.data=.dict es ep/\Paired rK xs es.toList
def zd(K:wb)(H:Hp)(xs:List NE):Prop:=∀x∈xs,Is K H (.ref x.2.1) (TZ x.1)
def lT(xs:List NE)(k:List Int):Option we:=(xs.find? λx=>decide (x.1=k)).map (·.2.2)
theorem zz3{P:wS}{w:wW}{H:Hp}{h:wQ}{a:we}{ep:Nat}{xs:List NE}(z:xs.length<=1000)(hd:(a == sysModules)=false)(nd:(xs.map (·.1)).Nodup){o:Obj}{es:Array DictEntry}(ho:h.get? a=some o)(hx:o.ExactDict)(hda:o.data=.dict es ep)(r:Paired rK xs es.toList) :
  dD P w H h a (iE a ep xs):=⟨⟨z,hd,nd,o,es,ho,hx,hda,r⟩,⟨o,ho⟩,λh1 h2 ⟨z,hd,nd,o,es,ho,q⟩ k=>⟨z,hd,nd,o,es,k _ ho,q⟩⟩
def i_(xs:List NE):List (List Int × we × wg):=xs.map λx=>(x.1,x.2.1,.ref x.2.2)
theorem zDz{P:wS}{w:wW}{xs:List NE}{es:List DictEntry}(r:Paired rK xs es):es=(i_ xs).map (entryOfKey (dF P w)):=by
 induction r with
 | nil=>rfl
 | @cons x e xs es hx r ih =>
  show e::es=_::(i_ xs).map (entryOfKey (dF P w))
  rw[<- ih,show e=_ from hx]
  rfl
theorem Ke{P:wS}{w:wW} : ∀xs:List NE,Paired rK xs ((i_ xs).map (entryOfKey (dF P w)))
 | []=>.nil
 | x::xs=>.cons rfl (Ke xs)
theorem zB4(xs:List NE)(k:List Int):(atKey (i_ xs) k).map (·.2)=(lT xs k).map Value.ref:=by
 induction xs with
 | nil=>rfl
 | cons x xs ih =>
  unfold atKey lT i_ at *;rw[va,uh,uh]
  by_cases e:x.1=k
  ·simp[e]
  ·simp only[e,decide_false]
   exact ih
section
variable{X:Cx}{pins:List (we × Obj)}{σ : St}{H:Hp}{s:wm}{a b q:we}{ep:Nat}{xs:List NE}{k:List Int}{A:vb}{E:wg->wm->Prop}
theorem Inv.nK(I:Inv X pins σ H s)(h:Is X.K H (.ref b) (TZ k)):(dF X.prog X.w).is s.heap k b:=I.YB h rfl
theorem Inv.JS(I:Inv X pins σ H s)(e:H a=some (iE a ep xs)):xs.length<=1000/\(a == sysModules)=false/\(xs.map (·.1)).Nodup /\ ∃o es,s.heap.get? a=some o/\o.ExactDict/\o.data=.dict es ep/\Paired rK xs es.toList :=
 (show dD X.prog X.w H s.heap a (iE a ep xs)from I.aH a _ e).1
end
section
variable{X:Cx}{o e f:Expr}{apos cpos pos:Pos}{td ty tx:TE}{tg:Expr}
end
section
variable{K:wb}{H H':Hp}{Q:VK}{D:cB}{σ : St}{td ty tx te:TE}{g:TG}{tt:TT}{a b q:we}{ep:Nat}{xs:List NE}{k:List Int}{src:List (Option Nat)}
end
section
variable{X:Cx}{N':List Str}{scope:Scope}{cl:List (Str × we)}{src:List (Option Nat)}{elt tgt iter:Expr}{ifs:List Expr}{pos:Pos}{wi:TI}{g:TG}{tt:TT}{te:TE}
end
end L2
namespace TB
open PySem PySem.W PyProof.Rows
theorem Mv:entryFor table "dict.update.loop"=some Builtin.«dict.update.loop»:=entryFor_of_tree (by kernel_rfl)
theorem zI:plainId "dict.update.loop"=true:=by decide +kernel
theorem zuS:typeLookup (.type "zip") "keys"=pure none:=am_miss_of_fast (by decide +kernel)
theorem Zi:typeLookup (.type "zip") "__getattr__"=pure none:=by rw[typeLookup_type,builtinLookup_eq_fast];kernel_rfl
theorem zhd:entryFor table "zip.__getattribute__"=some Builtin.«object.__getattribute__» :=
 entryFor_alias (id':="object.__getattribute__") (by kernel_rfl) (by decide +kernel) (by decide +kernel) (by kernel_rfl)
theorem Zg(a:we)(fs:Array wg)(sl:Array (Option wg))(name:Str)(u:Tok)(hmiss:typeLookup (.type "zip") name=pure none)(hname:(["__module__","__name__","__qualname__","__doc__","__annotations__"]:List Str).contains name=false)(hsz:name.length+100<=ve:=by size_fits) :
  Meets (Builtin.«object.__getattribute__» ⟨[.ref a,.str name u],[]⟩) (λA R s=>s.heap.get? a=some {cls:=.type "zip",dict:=none,data:=.fields fs,slots:=sl}/\raisesAttr (.ref a) name A R s) :=
 Meets.of_wp λprog w A R s hs=>by
  obtain⟨hp,g,d,tk,os⟩:=s;obtain⟨hx,hs⟩:=hs;have hT:(⟨hp,g,d,tk,os⟩:wm).TypeIs (.ref a) "zip":=⟨_,hx,rfl⟩;unfold Builtin.«object.__getattribute__»
  repeat(any_goals(first | assumption | wp_step))
  simp only[hname,vZ,if_false]
  repeat(any_goals(first | assumption | wp_step))
  exact wpAny_raiseAttrError hs.1 hs.2 (attrMsg_fits (by decide +kernel) hsz)
section
variable{prog:wS}{w:wW}{A:vb}{E:wg->wm->Prop}{s:wm}
theorem zAI{a:we}{fs:Array wg}{sl:Array (Option wg)}{Q:Option wg->wm->Prop}
  (hx:s.heap.get? a=some {cls:=.type "zip",dict:=none,data:=.fields fs,slots:=sl}) (hA:A.handled=none)
  (q:∀h' tk,(∀b ob,s.heap.get? b=some ob->h'.get? b=some ob)->Q none {s with heap:=h',toks:=tk}) :
  wA (model prog w) A (getAttr? (.ref a) "keys") Q E s:=by
 obtain⟨hp,g,d,tk,os⟩:=s;have hT:∀tk',(⟨hp,g,d,tk',os⟩:wm).TypeIs (.ref a) "zip":=λ_=>⟨_,hx,rfl⟩
 have f1:=sub_AttributeError;have f3:=V3.lookup;have f4:=V3.bind (.ref a);have f5:=Zi;unfold getAttr? getAttrBy? getAttrBy
 repeat(any_goals(first | assumption | exact hT _ | ((with_reducible show wA _ _ (call (Value.builtin "zip.__getattribute__") _ _) _ _ _);refine call_meets V3 (hT _) zhd (PySem.F.args_zip_getattribute_2 _ _) (Zg a fs sl "keys" _ zuS (by decide +kernel)) ⟨hx,hA,λh' tk' e hx'=>?_⟩) | wp_step))
 obtain⟨t',u',he⟩:=hx'.there
 show wA _ _ (getattributeRaised _ _ _ _ _ _ _) _ _ _
 unfold getattributeRaised
 repeat(any_goals(first | assumption | wp_step))
 exact q _ _ hx'.keeps
theorem ZY{p:we}{x y:wg}(h:Ws s.heap p x y){Q:List wg->wm->Prop}(q:Q [x,y] s):wA (model prog w) A (xk (.ref p)) Q E s:=by
 have hT:s.TypeIs (.ref p) "tuple":=⟨_,h,rfl⟩;unfold xk;refine wf (wpAny_typeOf hT ?_);rw[if_pos (by decide)];refine wf (Wk h rfl ?_);exact wy q
abbrev mm(h:wQ)(z TI TO p:we)(f:Bool):Prop :=
 h.get? z=some {cls:=.type "zip",dict:=none,data:=.fields #[VE p,.bool f,.bool false,.ref TI,.ref TO],slots:=#[]}
end
section
variable{prog:wS}{w:wW}{A:vb}{E:wg->wm->Prop}{s:wm}{z TI TO i1 i2 p:we}{f:Bool}{f1 f2:List we}{n1 n2 k:Nat}{P1 P2:Nat->wg->Prop}{S1 S2:Nat->wQ->Prop}{a b:wg}
theorem M5{op:Obj}{Q:Bool->wm->Prop}(hz:mm s.heap z TI TO p f)(hp:s.heap.get? p=some op)
  (q:∀g,mm g z TI TO p true->vF z s.heap g->Q false {s with heap:=g}):wA (model prog w) A (vE (.ref z)) Q E s:=by
 unfold vE;refine wf (vi hz rfl (x:=VE p) rfl ?_)
 show wA _ _ (loadIfAlive ((p:Int).toNat) >>= _) _ _ _
 rw[wU];refine wf (kdx_alive hp ?_);simp only[Option.isNone_some,vZ,if_false];refine wf (vi hz rfl (x:=.bool f) rfl ?_);cases f with
 | true =>
  rw[if_neg (show ¬ ((Value.bool true != Value.bool true)=true)from vC)];exact wy (q _ hz (Heap.SameBut.refl _ _))
 | false =>
  rw[if_pos (show(Value.bool false != Value.bool true)=true from rfl)];refine wf (W3 hz (by simp) λg hg sb=>?_);exact wy (q g hg sb)
theorem zEy{op:Obj}{Q:wg->wm->Prop}(D1:Draws prog w A i1 f1 n1 P1 S1)(D2:Draws prog w A i2 f2 n2 P2 S2)(ap:L2.ZA z TI TO i1 i2 f1 f2)(hz:mm s.heap z TI TO p f)(hi:Ws s.heap TI (.ref i1) (.ref i2))(hp:s.heap.get? p=some op)
  (h1:S1 k s.heap) (h2:S2 k s.heap) (l1:k<n1) (l2:k<n2)
  (fin:∀x y h' tk,P1 k x->P2 k y->mm h' z TI TO p true->S1 (k+1) h'->S2 (k+1) h'->Ws h' s.heap.objs.size x y ->
   (∀c o,c≠z->c≠i1->c≠i2->s.heap.get? c=some o->h'.get? c=some o)->Q (.ref s.heap.objs.size) {s with heap:=h',toks:=tk}) :
  wA (model prog w) A (Builtin.«zip.__next__» ⟨[.ref z],[]⟩) (λr s'=>∃v,r=.done (.ret v)/\Q v s') E s:=by
 show wA _ _ (field (.ref z) 2 >>= _) _ _ _;refine wf (vi hz rfl (x:=.bool false) rfl ?_)
 show wA _ _ (field (.ref z) 3 >>= _) _ _ _;refine wf (vi hz rfl (x:=.ref TI) rfl ?_)
 refine wf (Wk hi rfl ?_);show wA _ _ (vE (.ref z) >>= _) _ _ _
 refine wf (M5 hz hp λg0 hz0 sb0=>?_);have sb0:vF z s.heap g0:=sb0;simp only[vZ,if_false];refine wf ?_;rw[<- qH];simp only[qw,Qq];have h1a:S1 k g0:=D1.frame _ _ _ h1 λc hc o e=>sb0.extBut c o (λq=>ap.b1 (q ▸ hc)) e
 have h2a:S2 k g0:=D2.frame _ _ _ h2 λc hc o e=>sb0.extBut c o (λq=>ap.b2 (q ▸ hc)) e
 refine wf (wf (vR ?_))
 show wA _ _ (vG (.ref i1) >>= _) _ _ _
 refine wf (D1.item k _ _ _ l1 h1a λx g1 t1 px h1b sb1=>wy ?_);have sb1:vF i1 g0 g1:=sb1;have h2b:S2 k g1:=D2.frame _ _ _ h2a λc hc o e=>sb1.extBut c o (λq=>ap.b5 (q ▸ hc)) e
 refine wy ?_;refine wf (wf (vR ?_))
 show wA _ _ (vG (.ref i2) >>= _) _ _ _
 refine wf (D2.item k _ _ _ l2 h2b λy g2 t2 py h2c sb2=>wy ?_);have sb2:vF i2 g1 g2:=sb2;have h1c:S1 (k+1) g2:=D1.frame _ _ _ h1b λc hc o e=>sb2.extBut c o (λq=>ap.b6 (q ▸ hc)) e
 refine wy (wy ?_);refine wf (wpAny_newTuple (hsz:=by show 2<=ve;rw[sizeLine_eq];decide) ?_);have hsz:g2.objs.size=s.heap.objs.size:=by rw[sb2.1,sb1.1,sb0.1]
 have kept:∀c o,c≠z->c≠i1->c≠i2->s.heap.get? c=some o->g2.get? c=some o:=λc o c1 c3 c4 e=>sb2.extBut _ _ c4 (sb1.extBut _ _ c3 (sb0.extBut _ _ c1 e))
 have zz:mm g2 z TI TO p true:=sb2.extBut _ _ ap.a4.symm (sb1.extBut _ _ ap.a3.symm hz0);refine wy ⟨_,rfl,?_⟩
 show Q (.ref g2.objs.size) _
 have new:Ws (g2.push {cls:=.type "tuple",data:=.seq #[x,y]}) g2.objs.size x y:=wK _ rfl;rw[hsz]at new ⊢;exact fin x y _ _ px py (wp _ zz) (D1.frame _ _ _ h1c λc hc o e=>wp _ e) (D2.frame _ _ _ h2c λc hc o e=>wp _ e) new λc o c1 c3 c4 e=>wp _ (kept c o c1 c3 c4 e)
theorem zDT{op:Obj}{Q:Fin->wm->Prop}(D1:Draws prog w A i1 f1 n1 P1 S1)(ap:L2.ZA z TI TO i1 i2 f1 f2)(hz:mm s.heap z TI TO p f)(hi:Ws s.heap TI (.ref i1) (.ref i2))(hp:s.heap.get? p=some op)(h1:S1 n1 s.heap)
  (fin:∀h' e tk,(∀c o,c≠z->c≠i1->s.heap.get? c=some o->h'.get? c=some o)->(∃o,h'.get? e=some o/\o.cls=.type "StopIteration")->E (.ref e) {s with heap:=h',toks:=tk}) :
  wA (model prog w) A (Builtin.«zip.__next__» ⟨[.ref z],[]⟩) Q E s:=by
 show wA _ _ (field (.ref z) 2 >>= _) _ _ _;refine wf (vi hz rfl (x:=.bool false) rfl ?_)
 show wA _ _ (field (.ref z) 3 >>= _) _ _ _;refine wf (vi hz rfl (x:=.ref TI) rfl ?_)
 refine wf (Wk hi rfl ?_);show wA _ _ (vE (.ref z) >>= _) _ _ _
 refine wf (M5 hz hp λg0 hz0 sb0=>?_);have sb0:vF z s.heap g0:=sb0;simp only[vZ,if_false];refine wf ?_;rw[<- qH];simp only[qw,Qq];have h1a:S1 n1 g0:=D1.frame _ _ _ h1 λc hc o e=>sb0.extBut c o (λq=>ap.b1 (q ▸ hc)) e
 refine wf (wf (vR ?_))
 show wA _ _ (vG (.ref i1) >>= _) _ _ _
 exact wf (D1.done _ _ _ h1a λg1 e sb1 he=>fin g1 e _ (λc o c1 c3 q=>sb1 _ _ c3 (sb0.extBut _ _ c1 q)) he)
end
theorem oO{prog:wS}{w:wW}{h h':wQ}{k:List Int}{a:we}(x:(dF prog w).is h k a)(e:∀o,h.get? a=some o->h'.get? a=some o):(dF prog w).is h' k a:=by
 obtain⟨a',o,items,n,ea,ho,hc,hd,r⟩:=x;cases ea;exact⟨a,o,items,n,rfl,e o ho,hc,hd,r⟩
def jY(base:we)(h h':wQ):Prop:=∀b o,b<base->h.get? b=some o->h'.get? b=some o
theorem jY.trans{base:we}{h h' h'':wQ}(x:jY base h h')(y:jY base h' h''):jY base h h'':=λb o hb e=>y b o hb (x b o hb e)
structure ZB(base z TI TO i1 i2 d a b:we):Prop where
 ap:L2.ZA z TI TO i1 i2 [i1,a] [i2,b]
 na:a≠i1
 nb:b≠i2
 bz:base<=z
 bO:base<=TO
 b1:base<=i1
 b2:base<=i2
 bd:base<=d
 dz:d≠z
 dI:d≠TI
 dO:d≠TO
 d1:d≠i1
 d2:d≠i2
 la:a<base
 lb:b<base
def ma(z TI TO i1 i2 d a b:we)(its jts:Array wg)(i:Nat)(h:wQ):Prop:=Ws h TI (.ref i1) (.ref i2)/\(h.IsTupleIter i1 a i/\h.IsTuple a its)/\(h.IsTupleIter i2 b i/\h.IsTuple b jts) /\
 ((∃x y,IsZip h z TI TO .none/\Ws h TO x y) \/ ∃p f op,mm h z TI TO p f/\h.get? p=some op/\p≠z/\p≠i1/\p≠i2/\p≠d)
section
variable{prog:wS}{w:wW}{A:vb}{E:wg->wm->Prop}{s:wm}{base z TI TO i1 i2 d a b:we}{its jts:Array wg}{i:Nat}
theorem jq(hh:A.handled=none)(it l:we)(hne:l≠it)(items:Array wg):Draws prog w A it [it,l] items.size (λi v=>items[i]? = some v) (λi h=>h.IsTupleIter it l i/\h.IsTuple l items):=L2.oK true hh it l hne items
theorem ZW(B:ZB base z TI TO i1 i2 d a b)(hh:A.in1.handled=none)(st:ma z TI TO i1 i2 d a b its jts i s.heap)(hd:d<s.heap.objs.size){x y:wg}(hx:its[i]? = some x)(hy:jts[i]? = some y){Q:Option wg->wm->Prop}
  (q:∀(h':wQ) tk,Ws h' s.heap.objs.size x y->ma z TI TO i1 i2 d a b its jts (i+1) h'->(∀c o,c≠z->c≠TO->c≠i1->c≠i2->s.heap.get? c=some o->h'.get? c=some o)->Q (some (.ref s.heap.objs.size)) {s with heap:=h',toks:=tk}) :
  wA (model prog w) A (Ve (.ref z)) Q E s:=by
 obtain⟨hi,s1,s2,hz⟩:=st
 have lt1:i<its.size:=by
  rcases wJ i its.size with z | z
  ·exact z
  ·rw[xm z]at hx;cases hx
 have lt2:i<jts.size:=by
  rcases wJ i jts.size with z | z
  ·exact z
  ·rw[xm z]at hy;cases hy
 have ap:=B.ap;unfold Ve;rcases hz with⟨x0,y0,hz,ho⟩ | ⟨p,f,op,hz,hp,p1,p2,p3,p4⟩
 ·have hT:s.TypeIs (.ref z) "zip":=⟨_,hz,rfl⟩
  have ltz:=wC hz
  refine wf (WF (wpAny_callSpecial?_slot (name:=vL "__next__") hT Wq (vQ Wq hT VP
   (L2.JQ (jq (A:=A.in1) hh i1 a B.na its) (jq (A:=A.in1) hh i2 b B.nb jts) ap hz hi ho s1 s2 lt1 lt2 λv1 v2 h1 tk e1 e2 hz1 ho1 st1 st2 hT1 hk=>wy ?_) (VD _))))
  rw[hx]at e1;cases e1;rw[hy]at e2;cases e2;have l1:i1<s.heap.objs.size:=by obtain⟨o,e,_⟩:=s1.1;exact wC e
  have l2:i2<s.heap.objs.size:=by obtain⟨o,e,_⟩:=s2.1;exact wC e
  exact q h1 tk hT1 ⟨hk _ _ ap.a1 ap.a5 ap.a6 ap.a7 hi,st1,st2,.inr ⟨s.heap.objs.size,false,_,hz1,hT1,vj ltz,vj l1,vj l2,vj hd⟩⟩ hk
 ·have hT:s.TypeIs (.ref z) "zip":=⟨_,hz,rfl⟩
  refine wf (WF (wpAny_callSpecial?_slot (name:=vL "__next__") hT Wq (vQ Wq hT VP
   (zEy (jq (A:=A.in1) hh i1 a B.na its) (jq (A:=A.in1) hh i2 b B.nb jts) ap hz hi hp s1 s2 lt1 lt2 λv1 v2 h1 tk e1 e2 hz1 st1 st2 hT1 hk=>wy ?_) (VD _))))
  rw[hx]at e1;cases e1;rw[hy]at e2;cases e2;exact q h1 tk hT1 ⟨hk _ _ ap.a1 ap.a6 ap.a7 hi,st1,st2,.inr ⟨p,true,op,hz1,hk _ _ p1 p2 p3 hp,p1,p2,p3,p4⟩⟩ λc o c1 _ c3 c4 e=>hk c o c1 c3 c4 e
theorem zEF(B:ZB base z TI TO i1 i2 d a b)(hh:A.in1.handled=none)(st:ma z TI TO i1 i2 d a b its jts its.size s.heap){Q:Option wg->wm->Prop}
  (q:∀(h':wQ) tk,(∀c o,c≠z->c≠TO->c≠i1->c≠i2->s.heap.get? c=some o->h'.get? c=some o)->Q none {s with heap:=h',toks:=tk}) :
  wA (model prog w) A (Ve (.ref z)) Q E s:=by
 obtain⟨hi,s1,s2,hz⟩:=st;have ap:=B.ap;unfold Ve;rcases hz with⟨x0,y0,hz,ho⟩ | ⟨p,f,op,hz,hp,p1,p2,p3,p4⟩
 ·have hT:s.TypeIs (.ref z) "zip":=⟨_,hz,rfl⟩
  refine wf (WF (wpAny_callSpecial?_slot (name:=vL "__next__") hT Wq (vQ Wq hT VP
   (L2.JR (k:=its.size) (jq (A:=A.in1) hh i1 a B.na its) (jq (A:=A.in1) hh i2 b B.nb jts) ap hz hi ho s1 s2 (.inl rfl) λh' y tk hk hx'=>?_) (VD _))))
  obtain⟨o,ho',hcl⟩:=hx';exact wf (WL (T:="StopIteration") (b:=true) ⟨o,ho',hcl⟩ VI (wy (q h' tk hk)))
 ·have hT:s.TypeIs (.ref z) "zip":=⟨_,hz,rfl⟩
  refine wf (WF (wpAny_callSpecial?_slot (name:=vL "__next__") hT Wq (vQ Wq hT VP
   (zDT (jq (A:=A.in1) hh i1 a B.na its) ap hz hi hp s1 λh' y tk hk hx'=>?_) (VD _))))
  obtain⟨o,ho',hcl⟩:=hx';exact wf (WL (T:="StopIteration") (b:=true) ⟨o,ho',hcl⟩ VI (wy (q h' tk λc o c1 _ c3 _ e=>hk c o c1 c3 e)))
end
theorem ma.but{base z TI TO i1 i2 d a b:we}{its jts:Array wg}{i:Nat}{h g:wQ}(st:ma z TI TO i1 i2 d a b its jts i h)(B:ZB base z TI TO i1 i2 d a b)(sb:vF d h g):ma z TI TO i1 i2 d a b its jts i g:=by
 obtain⟨hi,s1,s2,hz⟩:=st;have da:a≠d:=wT (w5 B.la B.bd);have db:b≠d:=wT (w5 B.lb B.bd);refine⟨sb.extBut _ _ B.dI.symm hi,⟨s1.1.at λo e=>sb.extBut _ _ B.d1.symm e,s1.2.at λo e=>sb.extBut _ _ da e⟩,⟨s2.1.at λo e=>sb.extBut _ _ B.d2.symm e,s2.2.at λo e=>sb.extBut _ _ db e⟩,?_⟩;rcases hz with⟨x0,y0,hz,ho⟩ | ⟨p,f,op,hz,hp,p1,p2,p3,p4⟩
 ·exact .inl ⟨x0,y0,sb.extBut _ _ B.dz.symm hz,sb.extBut _ _ B.dO.symm ho⟩
 ·exact .inr ⟨p,f,op,sb.extBut _ _ B.dz.symm hz,sb.extBut _ _ p4 hp,p1,p2,p3,p4⟩
section
variable{prog:wS}{w:wW}{A:vb}{R:Result->wm->Prop}{base z TI TO i1 i2 d a b:we}{its jts:Array wg}{key:Nat->List Int}{ka:Nat->we}{val:Nat->wg}
theorem zDH(B:ZB base z TI TO i1 i2 d a b)(hh:A.in1.in1.handled=none)(hu:A.in1.units+1<WM)(hl:jts.size=its.size)(hn:its.size<=999)(hx:∀i,i<its.size->its[i]? = some (.ref (ka i)))(hy:∀i,i<its.size->jts[i]? = some (val i))
  (lk:∀i,i<its.size->ka i<base) (hk:∀i j,i<its.size->j<its.size->key i=key j->i=j) :
  ∀(c i:Nat)(s:wm),its.size-i=c->i<=its.size->ma z TI TO i1 i2 d a b its jts i s.heap->(∀j,j<its.size->(dF prog w).is s.heap (key j) (ka j))->s.heap.DictOfH (dF prog w) d ((wx i).map λj=>(key j,ka j,val j)) ->
   (∀(g:wQ)(tk:Nat),jY base s.heap g->g.DictOfH (dF prog w) d ((wx its.size).map λj=>(key j,ka j,val j))->R (.ok (.ret .none)) {s with heap:=g,toks:=tk}) ->
   codeAny (model prog w) A (.builtin "dict.update.loop" ⟨[.ref d,.ref z,VE i,.none],[]⟩) R s:=by
 have lift:∀{h h':wQ}{xs:List (List Int × we × wg)},h.DictOfH (dF prog w) d xs->(∀x∈xs,x.2.1<base)->jY base h h'->(∀o,h.get? d=some o->h'.get? d=some o)->h'.DictOfH (dF prog w) d xs:=λx hb bl hd=>by
  obtain⟨o,es,ep,ho,hc,hda,he,his,hn⟩:=x;exact⟨o,es,ep,hd o ho,hc,hda,he,λx hx=>oO (his x hx) λo e=>bl _ o (hb x hx) e,hn⟩
 have lo:∀{h h':wQ},(∀c o,c≠z->c≠TO->c≠i1->c≠i2->h.get? c=some o->h'.get? c=some o)->jY base h h':=λhk c o hc e=>hk c o (wT (w5 hc B.bz)) (wT (w5 hc B.bO)) (wT (w5 hc B.b1)) (wT (w5 hc B.b2)) e
 intro c
 induction c with
 | zero =>
  intro i s ec ei st ht hs r;obtain rfl:i=its.size:=by omega
  refine codeAny_builtin Mv ?_;rw[xG zI _];refine wf (m:=Ve (.ref z)) (zEF B hh st λh' tk hk'=>?_);refine wf (wy ?_);refine wy (r h' tk (lo hk') (lift hs (λx hx=>?_) (lo hk') λo e=>hk' d o B.dz B.dO B.d1 B.d2 e));obtain⟨j,hj,rfl⟩:=wO.mp hx;exact lk j (wD.mp hj)
 | succ c ih =>
  intro i s ec ei st ht hs r;have lt:i<its.size:=by omega
  have hdl:d<s.heap.objs.size:=by obtain⟨o,_,_,ho,_⟩:=hs;exact wC ho
  refine codeAny_builtin Mv ?_;rw[xG zI _];refine wf (m:=Ve (.ref z)) (ZW B hh st hdl (hx i lt) (hy i lt) λh' tk hp st' hk'=>?_);have bl:=lo hk'
  have hs':h'.DictOfH (dF prog w) d ((wx i).map λj=>(key j,ka j,val j)):=lift hs (λx hx=>by
   obtain⟨j,hj,rfl⟩:=wO.mp hx;have:=wD.mp hj;exact lk j (by omega)) bl λo e=>hk' d o B.dz B.dO B.d1 B.d2 e
  have ht':∀j,j<its.size->(dF prog w).is h' (key j) (ka j):=λj hj=>oO (ht j hj) λo e=>bl _ o (lk j hj) e
  refine wf (vR (wf (wpAny_tryCatch (ZY hp ?_))));refine vR (wpAny_dictSet_heap (knd:=dF prog w) (k:=key i) hu (ht' i lt) hs' (λh2 hd2 sb=>?_) (by rw[wo,vB,sizeLine_eq];omega))
  have e2:storedH ((wx i).map λj=>(key j,ka j,val j)) (key i) (ka i) (val i)=(wx (i+1)).map λj=>(key j,ka j,val j):=by
   rw[storedH_new,Q7,vK]
   ·rfl
   ·cases e:atKey ((wx i).map λj=>(key j,ka j,val j)) (key i)with
    | none=>rfl
    | some p =>
     unfold atKey at e;rw[Vk]at e;obtain⟨y,hy',_⟩:=e;have hm:=QT hy';have hp':=ui hy';obtain⟨j,hj,rfl⟩:=wO.mp hm;have hj:=wD.mp hj;have:=hk j i (by omega) lt (of_decide_eq_true hp');omega
  rw[e2]at hd2;have sb:vF d h' h2:=sb;refine wy ⟨plainId_quiet zI _,?_⟩;have bl2:jY base h' h2:=λc o hc e=>sb.extBut c o (wT (w5 hc B.bd)) e
  have:=ih (i+1) {s with heap:=h2,toks:=tk+(dF prog w).draws (key i)} (by omega) lt (st'.but B sb) (λj hj=>oO (ht' j hj) λo e=>bl2 _ o (lk j hj) e) hd2 λg tk' bl3 dd=>r g tk' (bl.trans (bl2.trans bl3)) dd
  exact this
end
section
variable{prog:wS}{w:wW}{A:vb}{E:wg->wm->Prop}{s:wm}{base z TI TO i1 i2 a b:we}{its jts:Array wg}{key:Nat->List Int}{ka:Nat->we}{val:Nat->wg}{x0 y0:wg}
theorem UY(B:ZB base z TI TO i1 i2 s.heap.objs.size a b)(hh:A.handled=none)(hu:A.units+3<WM)(hl:jts.size=its.size)(hn:its.size<=999)(hx:∀i,i<its.size->its[i]? = some (.ref (ka i)))(hy:∀i,i<its.size->jts[i]? = some (val i))
  (lk:∀i,i<its.size->ka i<base) (hk:∀i j,i<its.size->j<its.size->key i=key j->i=j) (hz:IsZip s.heap z TI TO .none) (hi:Ws s.heap TI (.ref i1) (.ref i2)) (ho:Ws s.heap TO x0 y0) (s1:s.heap.IsTupleIter i1 a 0) (t1:s.heap.IsTuple a its) (s2:s.heap.IsTupleIter i2 b 0) (t2:s.heap.IsTuple b jts)
  (hK:∀j,j<its.size->(dF prog w).is s.heap (key j) (ka j)) {Q:wg->wm->Prop}
  (q:∀(g:wQ)(tk:Nat),jY base s.heap g->g.DictOfH (dF prog w) s.heap.objs.size ((wx its.size).map λj=>(key j,ka j,val j))->Q (.ref s.heap.objs.size) {s with heap:=g,toks:=tk}) :
  wA (model prog w) A (call (.type "dict") [.ref z]) Q E s:=by
 refine callType_codes (Q₁:=λobj s₁=>obj=.ref s.heap.objs.size/\s₁ = {s with heap:=s.heap.push {cls:=.type "dict",data:=.dict #[]}}) PySem.F.kt_called_dict (PySem.F.kt_typeCall_dict_1 _) PySem.F.entry_dict_init (kt_code_dict_new _ ⟨rfl,rfl⟩) ?_;rintro obj s₁ ⟨rfl,rfl⟩;have hnew:(s.heap.push {cls:=.type "dict",data:=.dict #[]}).DictOfH (dF prog w) s.heap.objs.size []:=Heap.DictOfH.new s.heap;have hz':IsZip (s.heap.push {cls:=.type "dict",data:=.dict #[]}) z TI TO .none:=wp _ hz;refine⟨hnew.typeIs,PySem.F.args_dict_init_2 _ _,?_⟩;unfold Builtin.«dict.__init__»;refine wf ?_;unfold Builtin.Dict.selfAndRest;refine wf (wpAny_notOrdered_dict hnew.typeIs ?_)
 show wA _ _ (pure (s.heap.objs.size,[Value.ref z])) _ _ _
 refine wy ?_
 show wA _ _ (Q3 "dict.__init__" s.heap.objs.size (.ref z) [] .none) _ _ _
 unfold Q3;refine wf (wpAny_typeOf (T:="zip") ⟨_,hz',rfl⟩ ?_);rw[if_pos (by decide)];refine wf (zAI hz' (by exact hh) λh1 tk1 kp1=>?_);simp only[Option.isNone_none,if_true];refine wf (V0 ?_);have kp0:∀b o,s.heap.get? b=some o->h1.get? b=some o:=λb o e=>kp1 b o (wp _ e)
 have dn:h1.DictOfH (dF prog w) s.heap.objs.size []:=by
  obtain⟨o,es,ep,ho,hc,hda,he,his,hn⟩:=hnew;exact⟨o,es,ep,kp1 _ _ ho,hc,hda,he,(λx hx=>by cases hx),hn⟩
 refine wf (wpAny_pyIter_zip (kp0 _ _ hz) ?_);refine wy ⟨plainId_quiet zI _,?_⟩;refine zDH B (by exact hh) (show A.units+1+1+1<WM by omega) hl hn hx hy lk hk (its.size-0) 0 _ rfl (qm _) ⟨kp0 _ _ hi,⟨s1.at λo e=>kp0 _ o e,t1.at λo e=>kp0 _ o e⟩,⟨s2.at λo e=>kp0 _ o e,t2.at λo e=>kp0 _ o e⟩,.inl ⟨x0,y0,kp0 _ _ hz,kp0 _ _ ho⟩⟩ (λj hj=>oO (hK j hj) λo e=>kp0 _ o e) dn λg tk bl dd=>?_
 exact⟨rfl,q g tk (λc o hc e=>bl c o hc (kp0 c o e)) dd⟩
end
end TB
namespace L2
open PySem PySem.Spec PyProof.Rows GM
open TB (dF fQ fN)
theorem zzx:vI "dict"=some (.type "dict"):=by decide +kernel
def gx(ks:List (List Int))(us ws:List we):List NE:=(wx us.length).map λj=>(ks.getD j [],us.getD j 0,ws.getD j 0)
def Tz(K:wb)(vs:List V)(H1:Hp)(Q:VK):Prop:=∃(a b:we)(ks:List (List Int))(us ws:List we),vs=[.ref a,.ref b]/\aV K H1 a (us.map V.ref)/\aV K H1 b (ws.map V.ref)/\us.length=ws.length/\us.length<=999/\av K H1 (us.map V.ref) (ks.map TZ)/\ks.Nodup /\
 ∀D ep,H1 D=none->Q (.ref D) (upd H1 D (iE D ep (gx ks us ws)))
def Oi(K:wb)(ta:TA):TE:=λσ H Q=>ta σ H λvs H1=>Tz K vs H1 Q
theorem Z2{n d a b:Nat}(la:a<n)(lb:b<n)(hd:n+5<=d):TB.ZB n (n+4) (n+2) (n+3) n (n+1) d a b where
 ap:=LJ la lb
 na:=wT la
 nb:=wT (VC lb)
 bz:=Vi _ 4
 bO:=Vi _ 3
 b1:=wq _
 b2:=Vi _ 1
 bd:=by show n<=d;omega
 dz:=vj (by omega)
 dI:=vj (by omega)
 dO:=vj (by omega)
 d1:=vj (by omega)
 d2:=vj (by omega)
 la:=la
 lb:=lb
theorem Ze{ks:List (List Int)}{us ws:List we}(h:ks.length=us.length):(gx ks us ws).map (·.1)=ks:=by
 unfold gx;rw[Vq];refine List.ext_getElem? λj=>?_
 rw[wu];rcases wJ j us.length with z | z
 ·rw[vV z,wc (by omega:j<ks.length)]
  show some (ks.getD j [])=_
  rw[wa,wc (by omega:j<ks.length)]
  rfl
 ·rw[wP (by simpa using z),wP (by omega)]
  rfl
section
variable{X:Cx}{o i:Expr}{pos:Pos}{td ty:TE}
theorem FG:∀{ws:List V}{us:List wg},aT ws us->∀{i:Nat}{q:we},ws[i]? = some (.ref q)->us[i]? = some (.ref q)
 | _,_,.nil,i,q,h=>by simp at h
 | _,_,.cons r1 r2,0,q,h=>by
  simp only[List.getElem?_cons_zero,QM]at h ⊢;subst h;exact r1
 | _,_,.cons r1 r2,i+1,q,h=>by
  simp only[List.getElem?_cons_succ]at h ⊢;exact FG r2 h
theorem Z4{l m:Expr}{ta:TA}{p p2 pos2:Pos}(hc:X.calm=true)(hu:X.A.units+4<WM)(hg:Gl X "dict")(hm:X.mg "dict"=none)(hg2:Gl X "zip")(hm2:X.mg "zip"=none)(ha:PA X [l,m] ta)(hs:w8 [l,m] X.env=[(false,eval l X.env),(false,eval m X.env)]:=by rfl)(hs2:w8 [m] X.env=[(false,eval m X.env)]:=by rfl)
   (hs3:w8 [Expr.Call (.Name "zip" p2) [l,m] [] pos2] X.env=[(false,eval (.Call (.Name "zip" p2) [l,m] [] pos2) X.env)]:=by rfl):PE X (.Call (.Name "dict" p) [.Call (.Name "zip" p2) [l,m] [] pos2] [] pos) (Oi X.K ta):=by
 intro pins s σ H Q I h;refine Call_ (gu I hg hm zzx ?_);refine vk ?_ hs3 rfl;rw[hs3]
 show wA _ _ (spliced ((false,eval _ X.env)::VQ pos [])) _ _ s
 refine Qt ?_;refine Call_ (gu I hg2 hm2 A5 (vk (aI (ha pos2 pins s σ H _ I h) λus s1 ⟨vs,H1,I1,r1,q1⟩=>?_) (by rw[hs,hs2]) (by rw[hs2];rfl)));obtain⟨a,b,ks,us',ws,rfl,hq1,hq2,hl,hn,hk,nd,q⟩:=q1;obtain⟨u,v,rfl,ru,rv⟩:=jV r1;cases ru;cases rv;obtain⟨its,ri,p1⟩:=I1.ia (t:=true) hq1;obtain⟨jts,rj,p2⟩:=I1.ia (t:=true) hq2;have p1:s1.heap.IsTuple a its.toArray:=p1;have p2:s1.heap.IsTuple b jts.toArray:=p2;have la:a<s1.heap.objs.size:=by obtain⟨o,e,_⟩:=p1;exact wC e
 have lb:b<s1.heap.objs.size:=by obtain⟨o,e,_⟩:=p2;exact wC e
 have li:=ri.length;have lj:=rj.length;have lk:=hk.length;simp only[wo]at li lj lk;refine Ow p1 p2 λh' hz hi ho t1 t2 kp=>?_
 refine QL ?_;have hd:s1.heap.objs.size+5<=h'.objs.size:=wC hz
 have hx:∀j,j<its.toArray.size->its.toArray[j]? = some (Value.ref (us'.getD j 0)):=λj hj=>by
   have hj:j<us'.length:=by simpa [li] using hj
   have:=FG ri (show(us'.map V.ref)[j]? = some (V.ref (us'.getD j 0)) by rw[wu,wa,wc hj];rfl)
   simpa using this
 have hy:∀j,j<its.toArray.size->jts.toArray[j]? = some (Value.ref (ws.getD j 0)):=λj hj=>by
   have hj : j < ws.length := by have : j < us'.length := by simpa [li] using hj
                                 omega
   have:=FG rj (show(ws.map V.ref)[j]? = some (V.ref (ws.getD j 0)) by rw[wu,wa,wc hj];rfl)
   simpa using this
 have hK:∀j,j<its.toArray.size->(dF X.prog X.w).is s1.heap (ks.getD j []) (us'.getD j 0):=λj hj=>by
   have hj:j<us'.length:=by simpa [li] using hj
   have:=(gG hk (i:=j) (x:=.ref (us'.getD j 0)) (by rw[wu,wa,wc hj];rfl)).2
   have ek:(ks.map TZ).getD j .none=TZ (ks.getD j []):=by
     rw[wa,wu,wa,wc (by omega:j<ks.length)]
     rfl
   rw[ek]at this;exact I1.nK this
 refine TB.UY (Z2 la lb hd) (I1.ok.hd hc) (by omega) (by simp only[wR];omega) (by simp only[wR];omega) hx hy (λj hj=>?_) (λi j hi' hj e=>?_) hz hi ho t1 (p1.at λo e=>kp _ o e) t2 (p2.at λo e=>kp _ o e) (λj hj=>TB.oO (hK j hj) λo e=>kp _ o e) λg tk bl dd=>?_
 . obtain⟨a',o,items,n,ea,ho',_⟩:=hK j hj
   cases ea;exact wC ho'
 . have hi' : i < ks.length := by have : i < its.length := by simpa using hi'
                                  omega
   have hj : j < ks.length := by have : j < its.length := by simpa using hj
                                 omega
   rw[wa,wa,wc hi',wc hj]at e;have pw:=Wy.mp nd;rcases VB i j with z | z | z
   . exact absurd e (pw i j hi' hj z)
   . exact z
   . exact absurd e.symm (pw j i hj hi' z)
 . obtain⟨o,es,ep,ho',hxd,hda,he,his,hnd⟩:=dd
   refine⟨.ref h'.objs.size,_,I1.laid (t':=tk) (a:=h'.objs.size) (o:=iE h'.objs.size ep (gx ks us' ws)) (λc o e=>bl c o (wC e) (kp c o e)) (by omega) (zz3 ?_ (beq_eq_false_iff_ne.mpr (Wj (wT ?_))) ?_ ho' hxd hda ?_),rfl,q _ ep (I1.aH.fresh (by omega))⟩
   . unfold gx;rw[wo,vB];omega
   . exact w5 I1.big (by omega)
   . rw[Ze (by omega)];exact nd
   . rw[he]
     have:((wx its.toArray.size).map λj=>(ks.getD j [],us'.getD j 0,Value.ref (ws.getD j 0)))=i_ (gx ks us' ws):=by
       unfold i_ gx;rw[Vq,wR,<- li]
       rfl
     rw[this];exact Ke _
def BH(K:wb)(td ty:TE):TE:=λσ H Q=>td σ H λx H1=>ty σ H1 λy H2=>∃a b ep xs k l,x=.ref a/\y=.ref b/\H2 a=some (iE a ep xs)/\zd K H2 xs/\Is K H2 (.ref b) (TZ k)/\lT xs k=some l/\Q (.ref l) H2
theorem zCx{pins:List (we × Obj)}{σ : St}{H:Hp}{s:wm}{a b l:we}{ep:Nat}{xs:List NE}{k:List Int}{A:vb}{E:wg->wm->Prop}{Q:wg->wm->Prop}(hu:A.units+4<WM)(I:Inv X pins σ H s)(e:H a=some (iE a ep xs))(hk:zd X.K H xs)(hb:Is X.K H (.ref b) (TZ k))(hl:lT xs k=some l)(h:∀s',Inv X pins σ H s'->Q (.ref l) s') :
  wA (model X.prog X.w) A (getItem (.ref a) (.ref b)) Q E s:=by
 obtain⟨z,hd,nd,o,es,ho,hx,hda,r⟩:=I.JS e;have zk:(i_ xs).map (·.1)=xs.map (·.1):=by unfold i_;rw[Vq];rfl
 have dd:s.heap.DictOfH (dF X.prog X.w) a (i_ xs):=⟨o,es,ep,ho,hx,hda,zDz r,λx hx=>by
  obtain⟨y,hy,rfl⟩:=wO.mp hx;exact I.nK (hk y hy),by rw[zk];exact nd⟩
 have lk:=zB4 xs k;rw[hl]at lk;cases e2:atKey (i_ xs) k with
 | none=>rw[e2]at lk;cases lk
 | some p =>
  rw[e2]at lk;have:p.2=Value.ref l:=w6 lk;obtain⟨p1,p2⟩:=p;have:p2=Value.ref l:=this;subst this;exact wpAny_getItem_heap (knd:=dF X.prog X.w) (show A.units+1+1<WM by omega) (I.nK hb) dd e2 (h _ (I.tok _))
theorem YX(hu:X.A.units+4<WM)(ho:PE X o td)(hi:PE X i ty)(hs:Nw i):PE X (.Subscript o i pos) (BH X.K td ty):=by
 intro pins s σ H Q I h;refine zAL PySem.F.slot_dict_getitem.lookup hs (aI (ho pins s σ H _ I h) λu s1 ⟨x,H1,I1,rx,q1⟩=>aI (hi pins s1 σ H1 _ I1 q1) λiv s2 ⟨y,H2,I2,ry,a,b,ep,xs,k,l,ex,ey,e,hk,hb,hl,q2⟩=>?_);subst ex ey;obtain rfl:u=Value.ref a:=rx;obtain rfl:iv=Value.ref b:=ry;obtain⟨_,_,_,od,es,g1,g2,_,_⟩:=I2.JS e;exact⟨⟨od,g1,g2.1⟩,zCx hu I2 e hk hb hl λs3 I3=>⟨.ref l,H2,I3,rfl,q2⟩⟩
end
section
variable{K:wb}{σ : St}{H:Hp}{Q:VK}{td ty:TE}{ta:TA}
theorem zyd(h:ta σ H λvs H1=>Tz K vs H1 Q):Oi K ta σ H Q:=h
theorem zyW(h:td σ H λx H1=>ty σ H1 λy H2=>∃a b ep xs k l,x=.ref a/\y=.ref b/\H2 a=some (iE a ep xs)/\zd K H2 xs/\Is K H2 (.ref b) (TZ k)/\lT xs k=some l/\Q (.ref l) H2):BH K td ty σ H Q:=h
end
end L2
namespace G
open PySem PySem.Spec PyProof.Rows L2 GM
local macro_rules | `(tactic| wtm_at "sc")=>`(tactic| exact ⟨rfl,rfl,rfl,by decide +kernel,rfl,by decide +kernel,by decide +kernel⟩)
def top(i:Nat):vc:=Vr.main.body.getD i (.Pass ⟨0,0,0,0⟩)
abbrev EV:vc:=top 14
abbrev B4:List Str:=["thing"]
abbrev tI:=B4
theorem zsg:aQ B4 tI (aA EV):=by wtm_at "sc"
abbrev C_:vc:=top 15
abbrev Fh:List Str:=["least","most","thing"]
abbrev AN:=Fh
theorem zlf:aQ Fh AN (aA C_):=by wtm_at "sc"
abbrev DB:vc:=top 16
abbrev Pc:List Str:=["one","other","rest"]
abbrev yV:List Str:=["one","other"]
theorem yK:aQ Pc yV (aA DB):=by wtm_at "sc"
abbrev Ew:vc:=top 17
abbrev Cg:List Str:=["thing"]
abbrev Ak:=Cg
theorem zqh:aQ Cg Ak (aA Ew):=by wtm_at "sc"
abbrev BV:vc:=top 18
abbrev SW:List Str:=["one","other","shared","top","divisor"]
abbrev zK:List Str:=["one","other"]
theorem A8:aQ SW zK (aA BV):=by wtm_at "sc"
abbrev Ej:vc:=top 19
abbrev DG:List Str:=["one","other"]
abbrev zg:=DG
theorem zy7:aQ DG zg (aA Ej):=by wtm_at "sc"
abbrev CC:vc:=top 20
abbrev O5:List Str:=["one","other","first","second"]
abbrev yh:List Str:=["one","other"]
theorem Cw:aQ O5 yh (aA CC):=by wtm_at "sc"
abbrev B0:vc:=top 21
abbrev Ol:List Str:=["one","other","turned"]
abbrev zy:List Str:=["one","other"]
theorem PC:aQ Ol zy (aA B0):=by wtm_at "sc"
abbrev Cs:vc:=top 22
abbrev DW:List Str:=["one","other"]
abbrev tG:=DW
theorem zz0:aQ DW tG (aA Cs):=by wtm_at "sc"
abbrev ED:vc:=top 27
abbrev ER:List Str:=["a"]
abbrev yx:=ER
theorem zqk:aQ ER yx (aA ED):=by wtm_at "sc"
abbrev Cz:vc:=top 28
abbrev Ft:List Str:=["b"]
abbrev ye:=Ft
theorem zrM:aQ Ft ye (aA Cz):=by wtm_at "sc"
abbrev Cu:vc:=top 29
abbrev F_:List Str:=["a","b"]
abbrev zW:=F_
theorem zrl:aQ F_ zW (aA Cu):=by wtm_at "sc"
abbrev C5:vc:=top 30
abbrev EO:List Str:=["thing"]
abbrev zV:=EO
theorem zuK:aQ EO zV (aA C5):=by wtm_at "sc"
abbrev Fe:vc:=top 31
abbrev BM:List Str:=["rule"]
abbrev sV:=BM
theorem zAj:aQ BM sV (aA Fe):=by wtm_at "sc"
abbrev Ds:vc:=top 32
abbrev KO:List Str:=["rule","many","factor","shift","done"]
abbrev AO:List Str:=["rule","many"]
theorem nj:aQ KO AO (aA Ds):=by wtm_at "sc"
abbrev C2:vc:=top 33
abbrev FY:List Str:=["push","x"]
abbrev yt:=FY
theorem zqB:aQ FY yt (aA C2):=by wtm_at "sc"
abbrev zi:vc:=top 35
abbrev zr:List Str:=["thing","worms"]
abbrev A1:=zr
theorem zti:aQ zr A1 (aA zi):=by wtm_at "sc"
abbrev CU:vc:=top 36
abbrev OI:List Str:=["order","things","told","worm","thing"]
abbrev zR:List Str:=["order","things"]
theorem AS:aQ OI zR (aA CU):=by wtm_at "sc"
abbrev CS:vc:=top 37
abbrev BW:List Str:=["swarm","order"]
abbrev z8:=BW
theorem zrm:aQ BW z8 (aA CS):=by wtm_at "sc"
abbrev EB:vc:=top 41
abbrev BR:List Str:=["thing"]
abbrev A3:=BR
theorem zsq:aQ BR A3 (aA EB):=by wtm_at "sc"
abbrev yM:vc:=top 42
abbrev z9:List Str:=["thing"]
abbrev z_:=z9
theorem zoS:aQ z9 z_ (aA yM):=by wtm_at "sc"
abbrev CF:vc:=top 43
abbrev C0:List Str:=["rule","phases"]
abbrev As:=C0
theorem YH:aQ C0 As (aA CF):=by wtm_at "sc"
abbrev EM:vc:=top 44
abbrev Ti:List Str:=["phases","told","phase"]
abbrev tZ:List Str:=["phases"]
theorem sI:aQ Ti tZ (aA EM):=by wtm_at "sc"
abbrev Af:vc:=top 45
abbrev AA:List Str:=["phases","phase"]
abbrev u5:=AA
theorem zsO:aQ AA u5 (aA Af):=by wtm_at "sc"
abbrev Au:vc:=top 46
abbrev FK:List Str:=["swarm","told","left","phase"]
abbrev zH:List Str:=["swarm"]
theorem oR:aQ FK zH (aA Au):=by wtm_at "sc"
abbrev u6:vc:=top 47
abbrev zw:List Str:=["worms","phases"]
abbrev zh:=zw
theorem zoQ:aQ zw zh (aA u6):=by wtm_at "sc"
abbrev nZ:vc:=top 48
abbrev pE:List Str:=["swarm","wait","phases","left","waves","wave","push","worm","anew"]
abbrev A4:List Str:=["swarm"]
theorem iO:aQ pE A4 (aA nZ):=by wtm_at "sc"
abbrev Dx:vc:=top 50
abbrev Sz:List Str:=["swarm","many","rows","hour","stand","done","told"]
abbrev An:List Str:=["swarm","many"]
theorem kB:aQ Sz An (aA Dx):=by wtm_at "sc"
abbrev DO:vc:=top 51
abbrev R9:List Str:=["swarm","many","rows","last"]
abbrev AF:List Str:=["swarm","many"]
theorem Df:aQ R9 AF (aA DO):=by wtm_at "sc"
abbrev Ee:vc:=top 53
abbrev FQ:List Str:=["swarm"]
abbrev zU:=FQ
theorem Y8:aQ FQ zU (aA Ee):=by wtm_at "sc"
abbrev pR:vc:=top 54
abbrev zY:List Str:=["swarm","rows","sizes","places"]
abbrev Am:List Str:=["swarm"]
theorem sW:aQ zY Am (aA pR):=by wtm_at "sc"
abbrev zx:vc:=top 55
abbrev DP:List Str:=["rule","size","phases","turn","wait","push","told"]
abbrev AX:List Str:=["rule","size","phases","turn"]
theorem zF:aQ DP AX (aA zx):=by wtm_at "sc"
abbrev ES:vc:=top 56
abbrev Se:List Str:=["rule","sizes","places","told","turn","size"]
abbrev tF:List Str:=["rule","sizes","places"]
theorem ya:aQ Se tF (aA ES):=by wtm_at "sc"
abbrev D_:vc:=top 57
abbrev Fo:List Str:=["rule","sizes","places"]
abbrev tK:=Fo
theorem zmo:aQ Fo tK (aA D_):=by wtm_at "sc"
abbrev BX:vc:=top 58
abbrev NO:List Str:=["rule","sizes","places","told","rows","turn"]
abbrev yo:List Str:=["rule","sizes","places"]
theorem rR:aQ NO yo (aA BX):=by wtm_at "sc"
abbrev tE:vc:=top 59
abbrev Ez:List Str:=["rule","sizes","places","rows","count"]
abbrev AR:List Str:=["rule","sizes","places"]
theorem B8:aQ Ez AR (aA tE):=by wtm_at "sc"
abbrev oX:vc:=top 60
abbrev u3:List Str:=["rule","sizes","places","steps"]
abbrev AB:List Str:=["rule","sizes","places"]
theorem Uc:aQ u3 AB (aA oX):=by wtm_at "sc"
abbrev yC:vc:=top 61
abbrev Dd:List Str:=["rule","sizes","factor","noughts"]
abbrev Aq:List Str:=["rule","sizes"]
theorem DF:aQ Dd Aq (aA yC):=by wtm_at "sc"
abbrev yf:vc:=top 64
abbrev BL:List Str:=["rule","sizes","both","gap"]
abbrev tm:List Str:=["rule","sizes"]
theorem CQ:aQ BL tm (aA yf):=by wtm_at "sc"
abbrev tV:vc:=top 65
abbrev Al:List Str:=["both","places","of_place","of_shift"]
abbrev yi:=Al
theorem zuP:aQ Al yi (aA tV):=by wtm_at "sc"
abbrev CJ:vc:=top 66
abbrev L_:List Str:=["both","places","many","push"]
abbrev yd:List Str:=["both","places","many"]
theorem PN:aQ L_ yd (aA CJ):=by wtm_at "sc"
abbrev EH:vc:=top 67
abbrev EY:List Str:=["rule","sizes","places","many"]
abbrev AY:=EY
theorem Zp:aQ EY AY (aA EH):=by wtm_at "sc"
abbrev CL:vc:=top 68
abbrev NK:List Str:=["both","places","many","of_place","of_shift","done"]
abbrev yp:List Str:=["both","places","many"]
theorem nP:aQ NK yp (aA CL):=by wtm_at "sc"
abbrev Ah:vc:=top 69
abbrev Dl:List Str:=["rule","sizes","places","many","count","mean"]
abbrev AK:List Str:=["rule","sizes","places","many"]
theorem Fi:aQ Dl AK (aA Ah):=by wtm_at "sc"
abbrev yj:vc:=top 70
abbrev yb:List Str:=["rule","sizes"]
abbrev zc:=yb
theorem zmv:aQ yb zc (aA yj):=by wtm_at "sc"
abbrev A6:vc:=top 71
abbrev FI:List Str:=["rule","sizes","places","way"]
abbrev Ac:List Str:=["rule","sizes","places"]
theorem Kq:aQ FI Ac (aA A6):=by wtm_at "sc"
abbrev Fp:vc:=top 72
abbrev Ny:List Str:=["rule","sizes","places","both","ahead","count"]
abbrev yZ:List Str:=["rule","sizes","places"]
theorem pG:aQ Ny yZ (aA Fp):=by wtm_at "sc"
abbrev u7:vc:=top 76
abbrev AV:List Str:=["row","worms"]
abbrev s_:=AV
theorem zqF:aQ AV s_ (aA u7):=by wtm_at "sc"
abbrev EJ:vc:=top 77
abbrev EZ:List Str:=["thing","worms"]
abbrev uU:=EZ
theorem zxp:aQ EZ uU (aA EJ):=by wtm_at "sc"
abbrev DY:vc:=top 78
abbrev Dr:List Str:=["thing","worms"]
abbrev zN:=Dr
theorem zol:aQ Dr zN (aA DY):=by wtm_at "sc"
abbrev Av:vc:=top 79
abbrev A7:List Str:=["thing","worms"]
abbrev yL:=A7
theorem Zy:aQ A7 yL (aA Av):=by wtm_at "sc"
abbrev CG:vc:=top 80
abbrev Ka:List Str:=["swarm","rounds","both","last"]
abbrev uX:List Str:=["swarm","rounds"]
theorem CW:aQ Ka uX (aA CG):=by wtm_at "sc"
abbrev Ai:vc:=top 81
abbrev Er:List Str:=["swarm","rounds","both","later","now","phases"]
abbrev zQ:List Str:=["swarm","rounds"]
theorem pV:aQ Er zQ (aA Ai):=by wtm_at "sc"
abbrev Dv:vc:=top 82
abbrev SU:List Str:=["swarm","rounds","glows","first","then"]
abbrev Aa:List Str:=["swarm","rounds","glows"]
theorem B6:aQ SU Aa (aA Dv):=by wtm_at "sc"
abbrev Di:vc:=top 83
abbrev NM:List Str:=["rule","row","following","swarm","told"]
abbrev yl:List Str:=["rule","row","following"]
theorem E_:aQ NM yl (aA Di):=by wtm_at "sc"
abbrev CM:vc:=top 84
abbrev RZ:List Str:=["swarm","both"]
abbrev uZ:List Str:=["swarm"]
theorem M4:aQ RZ uZ (aA CM):=by wtm_at "sc"
abbrev Ex:vc:=top 85
abbrev Rw:List Str:=["swarm","paper","row","following"]
abbrev w_:List Str:=["swarm","paper"]
theorem FH:aQ Rw w_ (aA Ex):=by wtm_at "sc"
abbrev EA:vc:=top 86
abbrev PB:List Str:=["swarm","count","told"]
abbrev tR:List Str:=["swarm"]
theorem rN:aQ PB tR (aA EA):=by wtm_at "sc"
abbrev Fc:vc:=top 87
abbrev MH:List Str:=["hour","swarm","both","rounds","glows"]
abbrev yQ:List Str:=["hour","swarm"]
theorem yO:aQ MH yQ (aA Fc):=by wtm_at "sc"
abbrev FT:vc:=top 88
abbrev J1:List Str:=["swarm","rows","word","row","told","hour"]
abbrev zG:List Str:=["swarm"]
theorem lQ:aQ J1 zG (aA FT):=by wtm_at "sc"
abbrev CT:vc:=top 89
abbrev Ts:List Str:=["swarm","last"]
abbrev tJ:List Str:=["swarm"]
theorem Lh:aQ Ts tJ (aA CT):=by wtm_at "sc"
abbrev Ek:vc:=top 91
abbrev Ms:List Str:=["_law_script","_law_k","_law_cell"]
abbrev zB:List Str:=["_law_script","_law_k"]
theorem tU:aQ Ms zB (aA Ek):=by wtm_at "sc"
abbrev BE:vc:=top 92
abbrev LD:List Str:=["_law_pen_here","_law_many","_law_drawn","_law_mixed"]
abbrev zm:List Str:=["_law_pen_here","_law_many"]
theorem y7:aQ LD zm (aA BE):=by wtm_at "sc"
abbrev DU:vc:=top 93
abbrev Nj:List Str:=["_law_top","_law_bottom","_law_one","_law_other"]
abbrev A2:List Str:=["_law_top","_law_bottom"]
theorem rB:aQ Nj A2 (aA DU):=by wtm_at "sc"
abbrev Ap:vc:=top 94
abbrev Eb:List Str:=["_law_caught","_law_some","_law_found"]
abbrev tX:List Str:=["_law_caught"]
theorem my:aQ Eb tX (aA Ap):=by wtm_at "sc"
abbrev CB:vc:=top 95
abbrev SD:List Str:=["_law_pen_here","_law_bottom","_law_a","_law_under","_law_b"]
abbrev Ae:List Str:=["_law_pen_here"]
theorem oo:aQ SD Ae (aA CB):=by wtm_at "sc"
abbrev Em:vc:=top 96
abbrev PM:List Str:=["_law_pen_here","_law_way","_law_a"]
abbrev sJ:List Str:=["_law_pen_here"]
theorem zev:aQ PM sJ (aA Em):=by wtm_at "sc"
abbrev Fg:vc:=top 97
abbrev LV:List Str:=["_law_pen_here","_law_most","_law_bottom","_law_found","_law_k","_law_way","_law_under"]
abbrev sT:List Str:=["_law_pen_here","_law_most"]
theorem mW:aQ LV sT (aA Fg):=by wtm_at "sc"
abbrev FJ:vc:=top 98
abbrev Rt:List Str:=["_law_swarm","_law_found","e"]
abbrev z6:List Str:=["_law_swarm"]
theorem rq:aQ Rt z6 (aA FJ):=by wtm_at "sc"
abbrev Aj:vc:=top 99
abbrev BJ:List Str:=["_law_pen_here","_law_many","_law_left","_law_found"]
abbrev AU:List Str:=["_law_pen_here","_law_many"]
theorem C8:aQ BJ AU (aA Aj):=by wtm_at "sc"
abbrev yI:vc:=top 100
abbrev EU:List Str:=["_law_phases_here","_law_order_here","_law_found","_law_worm"]
abbrev Ao:List Str:=["_law_phases_here","_law_order_here"]
theorem Ef:aQ EU Ao (aA yI):=by wtm_at "sc"
abbrev sX:vc:=top 101
abbrev yk:List Str:=["_law_worms","_law_order_here"]
abbrev u4:=yk
theorem zmt:aQ yk u4 (aA sX):=by wtm_at "sc"
abbrev sQ:vc:=top 102
abbrev F6:List Str:=["_law_rows","_law_order_here","_law_found","_law_hour","_law_waves","_law_phases_here","_law_turned"]
abbrev yz:List Str:=["_law_rows","_law_order_here"]
theorem nJ:aQ F6 yz (aA sQ):=by wtm_at "sc"
abbrev m7:vc:=top 103
abbrev AQ:List Str:=["_law_script","_law_k","_law_pen_here","_law_rule_here","_law_some","_law_swarm","_law_order_here","_law_handed","_law_other","_law_many","_law_due","_law_found","_law_paper","_law_turned"]
abbrev yX:List Str:=["_law_script"]
theorem gr:aQ AQ yX (aA m7):=by wtm_at "sc"
set_option genInjectivity false in
structure Ad where
 IU:we
 Hm:wE
 GZ:we
 Gp:wE
 Gr:we
 Gg:wE
 Im:we
 G7:wE
 plus:we
 Jl:wE
 minus:we
 Jf:wE
 times:we
 IZ:wE
 over:we
 JA:wE
 less:we
 Jt:wE
 IJ:we
 G9:wE
 Jk:we
 Hv:wE
 Iv:we
 Hb:wE
 Jo:we
 HK:wE
 JZ:we
 Jq:wE
 JJ:we
 IK:wE
 IF:we
 Hc:wE
 Jj:we
 HE:wE
 JG:we
 Iw:wE
 IH:we
 G8:wE
 Jb:we
 Hu:wE
 H_:we
 GL:wE
 Jc:we
 HF:wE
 Ja:we
 Hj:wE
 Ji:we
 Ho:wE
 JF:we
 ID:wE
 HL:we
 GN:wE
 mK:we
 Jv:wE
 Jp:we
 HW:wE
 behind:we
 IC:wE
 Jr:we
 Ie:wE
 laid:we
 Jx:wE
 GR:we
 Gi:wE
 sD:we
 Iq:wE
 G3:we
 Gu:wE
 HN:we
 GW:wE
 iK:we
 Jz:wE
 Js:we
 HP:wE
 IL:we
 Hh:wE
 JP:we
 IX:wE
 Jn:we
 HX:wE
 JH:we
 IA:wE
 GK:we
 Gm:wE
 GF:we
 Gh:wE
 Ht:we
 GI:wE
 Hf:we
 Gs:wE
 Ig:we
 GU:wE
 HI:we
 Gz:wE
 Iu:we
 Hg:wE
 JI:we
 IM:wE
 HH:we
 GA:wE
 IW:we
 Hx:wE
 Jm:we
 HS:wE
 GY:we
 Gn:wE
 Il:we
 GX:wE
 IQ:we
 HC:wE
 JC:we
 Ik:wE
 Ju:we
 HJ:wE
 GJ:we
 Gq:wE
 Jd:we
 Hz:wE
 IY:we
 Hw:wE
 J0:we
 JB:wE
 Jw:we
 HY:wE
 IT:we
 HG:wE
 JD:we
 Ic:wE
 IP:we
 Hy:wE
 Je:we
 Hs:wE
 G4:we
 Gv:wE
 HQ:we
 GV:wE
 IS:we
 Hn:wE
 IG:we
 Ha:wE
 GO:we
 Gj:wE
 G5:we
 Gy:wE
 Hl:we
 GC:wE
 law:we
 JK:wE
 eD:we
 dZ:we
 cS:we
 oE:we
 oI:we
 oG:we
 oJ:we
 oD:we
 oC:we
 sa:we
 cZ:we
 d4:we
 A_:we
 Bt:we
structure Dn(K:wb)(mg:Str->Option wg)(n:Str)(st:vc)(ps:List Str)(f:we)(fd:wE):Prop where
 F:jD K n n st f fd
 g:mg n=some (.ref f)
 b:k8 K fd ps []
section
variable{X:Cx}{x:Str}{f:we}{fd:wE}{ps:List Str}{sp:Sp}{j k:Nat}{e:Expr}{es:List Expr}{t:TA}{pos pp:Pos}{st:vc}{CX:fR}
theorem km{E:XK}(F:aP X.prog X.w X.K X.mg X.base CX k f fd ps sp)(hr:dP j X.A)(D:Dn X.K X.mg x st ps f fd)(hx:nE CX X E)(ha:PA X (e::es) t)(hj:k<=j:=by decide)(hg:Gl X x:=by exact rfl)
  (hdb:(x == ("__debug__" : Str))=false:=by decide) (he:w8 (e::es) X.env=(false,eval e X.env)::w8 es X.env:=by rfl) (hpl:(VQ pos (w8 es X.env)).any (·.1)=false:=by rfl) :
  PE X (.Call (.Name x pp) (e::es) [] pos) (l8 sp [] E t):=Ub F (hr.mono hj) hg D.g D.F.kp D.b .nil hx ha hdb he hpl
theorem au(F:aP X.prog X.w X.K X.mg X.base aS k f fd ps sp)(hr:dP j X.A)(D:Dn X.K X.mg x st ps f fd)(ha:PA X (e::es) t)(hj:k<=j:=by decide)(hg:Gl X x:=by exact rfl)
  (hdb:(x == ("__debug__" : Str))=false:=by decide) (he:w8 (e::es) X.env=(false,eval e X.env)::w8 es X.env:=by rfl) (hpl:(VQ pos (w8 es X.env)).any (·.1)=false:=by rfl) :
  PE X (.Call (.Name x pp) (e::es) [] pos) (l8 sp [] E0 t):=Ub F (hr.mono hj) hg D.g D.F.kp D.b .nil zDu ha hdb he hpl
theorem ay{ta:TE}{i:Int}{kd}(ha:PE X e ta):PE X (.Subscript e (.Constant (.int i) kd pp) pos) (md (c6 X.K) ta (tC (.int i))):=dr cX ha aD (λ_ _=>rfl)
theorem yq{K:wb}{ta:TE}{i:Int}{kd}(hr:gf X (c6 K))(ha:PE X e ta):PE X (.Subscript e (.Constant (.int i) kd pp) pos) (md (c6 K) ta (tC (.int i))):=dr hr ha aD (λ_ _=>rfl)
theorem aB(i:Nat){te:TE}(hN:X.N.Nodup)(he:PE X e te)(hi:X.N[i]? = some x:=by exact rfl)(hx:Loc X.env.scope x:=by first | exact Or.inl rfl | exact Or.inr rfl)(hs:swapsWith e (some (.Name x pp)) pos.line X.env=pure false:=by rfl)(hf:X.fn x=true\/X.env.scope.names.lookup x=some .local:=by first | exact .inl rfl | exact .inr rfl | assumption) :
  PS X (.Assign [.Name x pp] e pos) (kK te (gD i)):=zCI hN hi hx he hs hf
end
structure Txt(K:wb)(mg:Str->Option wg)(a:Ad):Prop where
 oB:Dn K mg "is_whole" EV tI a.IU a.Hm
 Bb:Dn K mg "is_whole_from" C_ AN a.GZ a.Gp
 mE:Dn K mg "greatest_divisor" DB yV a.Gr a.Gg
 mF:Dn K mg "is_number" Ew Ak a.Im a.G7
 fM:Dn K mg "plus" BV zK a.plus a.Jl
 oH:Dn K mg "minus" Ej zg a.minus a.Jf
 jO:Dn K mg "times" CC yh a.times a.IZ
 Bz:Dn K mg "over" B0 zy a.over a.JA
 gc:Dn K mg "less" Cs tG a.less a.Jt
 Hi:Dn K mg "is_factor" ED yx a.IJ a.G9
 Ii:Dn K mg "is_shift" Cz ye a.Jk a.Hv
 HD:Dn K mg "make_rule" Cu zW a.Iv a.Hb
 Ip:Dn K mg "is_rule" C5 zV a.Jo a.HK
 Bw:Dn K mg "bend" Fe sV a.JZ a.Jq
 oF:Dn K mg "pushes" Ds AO a.JJ a.IK
 Bk:Dn K mg "pushed_by" C2 yt a.IF a.Hc
 HM:Dn K mg "is_order" zi A1 a.Jj a.HE
 I_:Dn K mg "set_by" CU zR a.JG a.Iw
 HA:Dn K mg "exchanged" CS z8 a.IH a.G8
 Ih:Dn K mg "is_phase" EB A3 a.Jb a.Hu
 He:Dn K mg "are_phases" yM z_ a.H_ a.GL
 HU:Dn K mg "swarm_of" CF As a.Jc a.HF
 Bn:Dn K mg "greatest" EM tZ a.Ja a.Hj
 HZ:Dn K mg "worms_at" Af u5 a.Ji a.Ho
 mI:Dn K mg "flocks" Au zH a.JF a.ID
 Bh:Dn K mg "at_the_end" u6 zh a.HL a.GN
 sC:Dn K mg "glow" nZ A4 a.mK a.Jv
 sh:Dn K mg "history" Dx An a.Jp a.HW
 IV:Dn K mg "behind" DO AF a.behind a.IC
 sj:Dn K mg "is_laid" Ee zU a.Jr a.Ie
 oM:Dn K mg "laid" pR Am a.laid a.Jx
 Gx:Dn K mg "phases_behind" zx AX a.GR a.Gi
 sv:Dn K mg "stands" ES tF a.sD a.Iq
 Bg:Dn K mg "round_behind" D_ tK a.G3 a.Gu
 G2:Dn K mg "round_time" BX yo a.HN a.GW
 By:Dn K mg "tops" tE AR a.iK a.Jz
 mH:Dn K mg "is_free" oX AB a.Js a.HP
 mG:Dn K mg "round_map" yC Aq a.IL a.Hh
 Bv:Dn K mg "still" yf tm a.JP a.IX
 Bo:Dn K mg "weighed" tV yi a.Jn a.HX
 Bs:Dn K mg "led_on" CJ yd a.JH a.IA
 Ba:Dn K mg "rounds_behind" EH AY a.GK a.Gm
 Gk:Dn K mg "sums_of_places" CL yp a.GF a.Gh
 GS:Dn K mg "rounds_time" Ah AK a.Ht a.GI
 Bf:Dn K mg "draws_freely" yj zc a.Hf a.Gs
 G6:Dn K mg "stays_free" A6 Ac a.Ig a.GU
 G1:Dn K mg "free_rounds" Fp yZ a.HI a.Gz
 Bj:Dn K mg "has_stand" u7 s_ a.Iu a.Hg
 Jh:Dn K mg "is_row" EJ uU a.JI a.IM
 GQ:Dn K mg "is_last_row" DY zN a.HH a.GA
 HR:Dn K mg "is_paper" Av yL a.IW a.Hx
 IE:Dn K mg "go_free" CG uX a.Jm a.HS
 Bc:Dn K mg "behind_rounds" Ai zQ a.GY a.Gn
 Bi:Dn K mg "behind_row" Dv Aa a.Il a.GX
 Ia:Dn K mg "leads_on" Di yl a.IQ a.HC
 Br:Dn K mg "word_of" CM uZ a.JC a.Ik
 Bp:Dn K mg "lets_by" Ex w_ a.Ju a.HJ
 Gw:Dn K mg "glows_to_join" EA tR a.GJ a.Gq
 Ib:Dn K mg "next_row" Fc yQ a.Jd a.Hz
 Bl:Dn K mg "paper_of" FT zG a.IY a.Hw
 sA:Dn K mg "fate" CT tJ a.J0 a.JB
 Io:Dn K mg "_law_pen" Ek zB a.Jw a.HY
 dY:Dn K mg "_law_draw" BE zm a.IT a.HG
 iJ:Dn K mg "_law_low" DU A2 a.JD a.Ic
 sf:Dn K mg "_law_kind" Ap tX a.IP a.Hy
 Ij:Dn K mg "_law_rule" CB Ae a.Je a.Hs
 GB:Dn K mg "_law_any_rule" Em sJ a.G4 a.Gv
 G_:Dn K mg "_law_phases" Fg sT a.HQ a.GV
 Bm:Dn K mg "_law_fate" FJ z6 a.IS a.Hn
 HB:Dn K mg "_law_order" Aj AU a.IG a.Ha
 r_:Dn K mg "_law_phases_so" yI Ao a.GO a.Gj
 Be:Dn K mg "_law_worms_so" sX u4 a.G5 a.Gy
 GP:Dn K mg "_law_rows_so" sQ yz a.Hl a.GC
 Yy:Dn K mg "law" m7 yX a.law a.JK
 z_ValueError:mg "ValueError"=none
 z_abs:mg "abs"=none
 z_all:mg "all"=none
 z_any:mg "any"=none
 z_bool:mg "bool"=none
 z_dict:mg "dict"=none
 z_enumerate:mg "enumerate"=none
 z_int:mg "int"=none
 z_isinstance:mg "isinstance"=none
 z_len:mg "len"=none
 z_list:mg "list"=none
 z_range:mg "range"=none
 z_sorted:mg "sorted"=none
 z_str:mg "str"=none
 z_sum:mg "sum"=none
 z_tuple:mg "tuple"=none
 z_zip:mg "zip"=none
 Ir:mg "NoSwarm"=some (.ref a.eD)
 Iz:mg "NoStand"=some (.ref a.dZ)
 II:mg "TooLong"=some (.ref a.cS)
 X_:mg "NoBack"=some (.ref a.oE)
 Ye:mg "NoRow"=some (.ref a.oI)
 W_:mg "NoText"=some (.ref a.oG)
 Yg:mg "NoWeb"=some (.ref a.oJ)
 Yc:mg "NoRule"=some (.ref a.oD)
 U0:mg "NoNumber"=some (.ref a.oC)
 UW:mg "GlowError"=some (.ref a.sa)
 U6:W9 K a.eD lJ "ValueError.__new__"=true
 aab:Vh K (.ref a.eD) (.ref a.sa)=some true
 U4:fL K a.eD
 Ux:wt K (.ref a.eD) (.ref a.eD)=some true
 Uz:wt K (.ref a.eD) (.ref a.dZ)=some false
 Uq:wt K (.ref a.eD) (.ref a.cS)=some false
 UB:wt K (.ref a.eD) (.ref a.oE)=some false
 UO:wt K (.ref a.eD) (.ref a.oI)=some false
 UC:wt K (.ref a.eD) (.ref a.oG)=some false
 UP:wt K (.ref a.eD) (.ref a.oJ)=some false
 UD:wt K (.ref a.eD) (.ref a.oD)=some false
 Um:wt K (.ref a.eD) (.ref a.oC)=some false
 U9:wt K (.ref a.eD) (.type "ValueError")=some true
 U7:W9 K a.dZ lJ "ValueError.__new__"=true
 aaa:Vh K (.ref a.dZ) (.ref a.sa)=some true
 U5:fL K a.dZ
 Uo:wt K (.ref a.dZ) (.ref a.eD)=some false
 Uw:wt K (.ref a.dZ) (.ref a.dZ)=some true
 Up:wt K (.ref a.dZ) (.ref a.cS)=some false
 UH:wt K (.ref a.dZ) (.ref a.oE)=some false
 UM:wt K (.ref a.dZ) (.ref a.oI)=some false
 UI:wt K (.ref a.dZ) (.ref a.oG)=some false
 UQ:wt K (.ref a.dZ) (.ref a.oJ)=some false
 UA:wt K (.ref a.dZ) (.ref a.oD)=some false
 Uk:wt K (.ref a.dZ) (.ref a.oC)=some false
 V_:wt K (.ref a.dZ) (.type "ValueError")=some true
 U8:W9 K a.cS lJ "ValueError.__new__"=true
 U2:Vh K (.ref a.cS) (.ref a.sa)=some true
 U_:fL K a.cS
 Us:wt K (.ref a.cS) (.ref a.eD)=some false
 Uv:wt K (.ref a.cS) (.ref a.dZ)=some false
 Uu:wt K (.ref a.cS) (.ref a.cS)=some true
 UJ:wt K (.ref a.cS) (.ref a.oE)=some false
 UL:wt K (.ref a.cS) (.ref a.oI)=some false
 UE:wt K (.ref a.cS) (.ref a.oG)=some false
 UK:wt K (.ref a.cS) (.ref a.oJ)=some false
 UG:wt K (.ref a.cS) (.ref a.oD)=some false
 Ul:wt K (.ref a.cS) (.ref a.oC)=some false
 U3:wt K (.ref a.cS) (.type "ValueError")=some true
 dS:mg "NOUGHT"=some (.ref a.cZ)
 e_:∀H:Hp,aV K H a.cZ [.int 0,.int 1]
 fk:mg "ONE"=some (.ref a.d4)
 sG:∀H:Hp,aV K H a.d4 [.int 1,.int 1]
 Uy:mg "GREATEST_FACTOR"=some (.ref a.A_)
 Ur:∀H:Hp,aV K H a.A_ [.int 4,.int 1]
 UN:∃t,mg "FACTOR_BOTTOM"=some (.int 8 t)
 UR:∃t,mg "SHIFT_BOTTOM"=some (.int 12 t)
 UT:∃t,mg "MOST_WORMS"=some (.int 8 t)
 US:∃t,mg "PHASE_BOTTOM"=some (.int 60 t)
 Hq:∃t,mg "MOST_FREE"=some (.int 30 t)
 UU:∃t,mg "MOST_GLOWS"=some (.int 40 t)
 Yh:mg "WORDS"=some (.ref a.Bt)
 Yj:∀H:Hp,aV K H a.Bt [.str "one",.str "rests",.str "drawn"]
def Tn(a:Ad)(C:wg)(w:Str):Prop:=(C=.ref a.eD/\w="swarm")\/(C=.ref a.dZ/\w="stand")\/(C=.ref a.cS/\w="long")
end G
open L2 GM in
local macro_rules | `(tactic| wtm_at "is")=>`(tactic| first
 | assumption
 | exact cz.mpr rfl
 | exact kc.mpr rfl
 | exact ml.mpr rfl
 | exact eI.mpr rfl
 | exact Is.Yz (by assumption) (by wtm_at "same")
 | exact Is.Yp (by assumption) (by wtm_at "keep")
 | exact Is.sF (by assumption) (by wtm_at "keep")
 | ((with_reducible apply is_tupAt);(focus assumption);(focus wtm_at "isall");wtm_at "same")
 | ((with_reducible apply is_lstAt);(focus assumption);(focus wtm_at "isall");wtm_at "same")
 | ((with_reducible apply is_dctAt);(focus assumption);wtm_at "same")
 | exact eB 0 (G.Txt.e_ (by assumption) _) rfl rfl | exact eB 1 (G.Txt.sG (by assumption) _) rfl rfl | exact eB 4 (G.Txt.Ur (by assumption) _) rfl rfl
 | fail "is")
open L2 GM in
local macro_rules | `(tactic| wtm_at "isall")=>`(tactic| first
 | exact av.nil
 | exact av.cons (by wtm_at "is") (by wtm_at "isall")
 | fail "isall")
open L2 GM in
local macro_rules | `(tactic| wtm_at "ne")=>`(tactic| first
 | assumption
 | (apply Wj;assumption))
/- a list that sD at an address -/
open L2 GM in
local macro_rules | `(tactic| wtm_at "lst")=>`(tactic| first
 | assumption
 | exact ag.at (by assumption) (by wtm_at "lst")
 | exact Exc.at (by assumption) (by wtm_at "ne") (by wtm_at "lst")
 | fail "lst")
open L2 GM in
local macro_rules | `(tactic| wtm_at "same")=>`(tactic| first
 | assumption
 | exact ag.refl _
 | exact ag.back (by assumption) (by wtm_at "same")
 | fail "same")
open L2 GM in
local macro_rules | `(tactic| wtm_at "keep")=>`(tactic| first
 | assumption
 | exact bE.refl _
 | exact ag.keep (by assumption)
 | exact bE.back (by assumption) (by wtm_at "keep")
 | exact bE.back (ag.keep (by assumption)) (by wtm_at "keep")
 | fail "keep")
open L2 GM in
local macro_rules | `(tactic| wtm_at "exc")=>`(tactic| first
 | assumption
 | exact Exc.refl _ _
 | exact Exc.back (by assumption) (by wtm_at "exc")
 | exact Exc.back (ag.exc (by assumption)) (by wtm_at "exc")
 | fail "exc")
open L2 GM in
local macro_rules | `(tactic| wtm_at "sqf")=>`(tactic| first
 | assumption
 | exact bE.OT (by wtm_at "keep") (by assumption)
 | fail "sqf")
/- how great -/
open L2 GM in
local macro_rules | `(tactic| wtm_at "bd")=>`(tactic| first
 | assumption
 | exact Bd.mk (n:=128) (by decide)
 | exact Bd.mono (m:=128) ⟨by decide⟩ (by decide)
 | exact ah.t (by assumption)
 | exact ah.b (by assumption)
 | exact Bd.mJ (by omega) (by omega)
 | (apply Bd.neg;wtm_at "bd")
 | (apply Bd.mul;(focus wtm_at "bd");wtm_at "bd")
 | (apply Bd.add;(focus wtm_at "bd");wtm_at "bd")
 | (apply Bd.sub;(focus wtm_at "bd");wtm_at "bd"))
open L2 GM PySem in
local macro_rules | `(tactic| wtm_at "mulok")=>`(tactic| first
 | exact Xu (by decide)
 | exact XX (by decide)
 | exact Xu (intBits_le_64 (by omega) (by omega))
 | exact XX (intBits_le_64 (by omega) (by omega))
 | (apply L2.Yu;(focus wtm_at "bd");(focus wtm_at "bd");(focus decide);decide))
open L2 GM PySem in
local macro_rules | `(tactic| wtm_at "side")=>`(tactic| first
 | assumption
 | decide
 | omega
 | wtm_at "mulok"
 | (refine And.intro ?_ ?_<;>wtm_at "side")
 | wtm_at "bd")
open L2 GM in
local macro_rules | `(tactic| wtm_at "gs")=>`(tactic| first
 | wtm_at "sq"
 | with_reducible (first | refine ZN ?_ | refine zC2 ?_ | refine zCb ?_ | refine zEn ?_)
 | ((with_reducible apply CK);(focus rfl))
 | with_reducible (first | refine zED ?_ | refine zAX ?_ | refine zB6 ?_ | refine ZV ?_ | refine Nr ?_ | refine Uj ?_ | refine zzT ?_ | refine zD4 ?_ | refine zCo ?_ | refine zC6 ?_ | refine zCC ?_ | refine zBd ?_)
 | ((with_reducible apply AZ);(focus wtm_at "side"))
 | with_reducible (first | refine zDv ?_ | refine zEl ?_ | refine zCF ?_ | refine zAm ?_ | refine zCy ?_ | refine zCw ?_ | refine ZG ?_ | refine lW ?_ | refine lC ?_)
 | with_reducible refine YJ (λ_=>?_) (λ_=>?_)
 | with_reducible refine zzA (λ_=>?_) (λ_=>?_)
 | with_reducible refine Zh (λ_=>?_) (λ_=>?_)
 | with_reducible refine zBm (λ_=>?_) (λ_=>?_)
 | with_reducible (first | refine zCK ?_ | refine Zr ?_ | refine zDg ?_ | refine zAF ?_ | refine zA8 ?_ | refine zCT ?_ | refine zzH ?_ | refine zBb ?_ | refine zBo ?_ | refine zAo ?_ | refine zDh ?_ | refine zAh ?_ | refine Et ?_ | refine B3 ?_ | refine LY ?_ | refine zAR ?_)
 | ((with_reducible apply YV);(focus wtm_at "is"))
 | ((with_reducible apply zzR);(focus wtm_at "is"))
 | ((with_reducible apply iF);(focus(apply aO.of;wtm_at "lst"));(focus rfl))
 | ((with_reducible apply pS);(focus assumption);(focus rfl);intro hN eN lN;dsimp only[Int.reduceToNat,Xe,Xf]at lN)
 | ((with_reducible apply N3);(focus wtm_at "is"))
 | ((with_reducible apply zyH);(focus wtm_at "is"))
 | ((with_reducible apply zzz);(focus wtm_at "is"))
 | dsimp only[Xe,Xf])
/- one statement behind another: what follows sD behind a name -/
set_option hygiene false in
open L2 GM in
local macro_rules | `(tactic| wtm_at "sq")=>`(tactic| with_reducible refine Zz (λ tl_ htl_=>?_))
set_option hygiene false in
open L2 GM in
local macro_rules | `(tactic| wtm_at "tl")=>`(tactic| ((with_reducible refine tT.go (by assumption) ?_); (try clear htl_ tl_)))
/- how great a number is -/
open L2 GM in
local macro_rules | `(tactic| wtm_at "bdr0")=>`(tactic| first
 | assumption
 | exact ah.zero
 | exact ah.one
 | exact ah.four
 | (apply ah.add;(focus wtm_at "bdr0");wtm_at "bdr0")
 | (apply ah.sub;(focus wtm_at "bdr0");wtm_at "bdr0")
 | (apply ah.mul;(focus wtm_at "bdr0");wtm_at "bdr0"))
open L2 GM in
local macro_rules | `(tactic| wtm_at "bdr")=>`(tactic| first
 | assumption
 | (apply ah.mono;(focus wtm_at "bdr0");(first | decide | omega)))
/- .. with new tuples,lists,dicts -/
open L2 GM in
local macro_rules | `(tactic| wtm_at "ga1")=>`(tactic| first
 | wtm_at "gs"
 | ((with_reducible apply cy);(focus(simp only[vP,Q9];decide));(focus wtm_at "isall");intro _ _ _ _)
 | ((with_reducible apply fW);(focus(simp only[vP,Q9];decide));intro _ _ _ _ _)
 | ((with_reducible apply zP);(focus wtm_at "lst");(focus wtm_at "lst");(focus(simp only[wX,vP,Q9];decide));intro _ _ _ _ _))
local macro_rules | `(tactic| wtm_at "ga")=>`(tactic| repeat' (first | wtm_at "ga1" | wtm_at "tl"))
local macro_rules | `(tactic| wtm_at "gg")=>`(tactic| repeat' (first | wtm_at "gs" | wtm_at "tl"))
local macro_rules | `(tactic| wtm_at "gt")=>`(tactic| repeat' (wtm_at "gs"))
open L2 GM in
local macro_rules | `(tactic| wtm_at "bd128")=>`(tactic| first
 | exact Bd.mono (m:=128) ⟨by decide⟩ (by decide)
 | exact(Bd.mJ (by omega) (by omega)).mono (by decide))
open L2 GM in
local macro_rules | `(tactic| wtm_at "gs")=>`(tactic| first
 | with_reducible (first | refine zEj ?_ | refine zwD ?_ | refine zwY ?_ | refine zEv ?_ | refine zzF ?_ | refine zyc ?_ | refine zy5 ?_)
 | ((with_reducible apply zwy);(focus wtm_at "ecls");(focus wtm_at "kit"))
 | ((with_reducible apply zwF);(focus wtm_at "ecls");(focus wtm_at "kit"))
 | with_reducible (first | refine zx8 ?_ | refine zA ?_ | refine zzG ?_ | refine zyx ?_ | refine zDP ?_ | refine zzM ?_ | refine zAq ?_ | refine Z7 ?_ | refine ZD ?_ | refine zwM ?_ | refine zCg ?_ | refine zqA ?_ | refine zyd ?_ | refine zyW ?_ | refine zzK ?_ | refine zyK ?_ | refine zCD ?_ | refine zyu ?_ | refine zCX ?_ | refine Zn ?_ | refine zw4 ?_ | refine ZO ?_ | refine zx3 ?_)
 | ((with_reducible apply zxk);(focus wtm_at "is"))
 | ((with_reducible apply zAt);(focus wtm_at "is"))
 | ((with_reducible apply zAr);(focus wtm_at "is");intro _ _)
 | ((with_reducible apply zAn);(focus wtm_at "is");intro _ _)
 | ((with_reducible apply iF);(focus(apply aO.of;wtm_at "lst"));(focus rfl))
 | ((with_reducible apply zzO);(focus wtm_at "lst");(focus omega);(focus omega);intro _ _)
 | ((with_reducible apply zCl);(focus wtm_at "is");(focus wtm_at "is"))
 | ((with_reducible apply zC7);(focus wtm_at "is");(focus wtm_at "is")))
set_option hygiene false in
local macro_rules | `(tactic| wtm_at "b1")=>`(tactic| (focus (intro vs H Q E h; obtain ⟨_,rfl,_⟩:=h; rfl)); (intro cdv A outer s H vs Q E hr h; obtain ⟨x0,rfl,h⟩:=h; have hu:=hr.units))
set_option hygiene false in
local macro_rules | `(tactic| wtm_at "b2")=>`(tactic| (focus (intro vs H Q E h; obtain ⟨_,_,rfl,_⟩:=h; rfl)); (intro cdv A outer s H vs Q E hr h; obtain ⟨x0,x1,rfl,h⟩:=h; have hu:=hr.units))
set_option hygiene false in
local macro_rules | `(tactic| wtm_at "b3")=>`(tactic| (focus (intro vs H Q E h; obtain ⟨_,_,_,rfl,_⟩:=h; rfl)); (intro cdv A outer s H vs Q E hr h; obtain ⟨x0,x1,x2,rfl,h⟩:=h; have hu:=hr.units))
set_option hygiene false in
local macro_rules | `(tactic| wtm_at "b4")=>`(tactic| (focus (intro vs H Q E h; obtain ⟨_,_,_,_,rfl,_⟩:=h; rfl)); (intro cdv A outer s H vs Q E hr h; obtain ⟨x0,x1,x2,x3,rfl,h⟩:=h; have hu:=hr.units))
set_option hygiene false in
local macro_rules | `(tactic| wtm_at "cl")=>`(tactic| ((clear hu); (try clear hgd); (first | dsimp only [gU,q_] | dsimp only [gU] | skip)))
local macro_rules | `(tactic| k_few)=>`(tactic| wtm_at "gg")
local macro_rules | `(tactic| o_head $e)=>`(tactic| (wtm_at "gg"; refine $e))
open L2 GM G in
local macro_rules | `(tactic| wtm_at "ecls")=>`(tactic| first | exact Txt.U4 (by assumption) | exact Txt.U5 (by assumption) | exact Txt.U_ (by assumption))
open L2 GM G in
local macro_rules | `(tactic| wtm_at "kit")=>`(tactic| first | exact Txt.Ux (by assumption) | exact Txt.Uz (by assumption) | exact Txt.Uq (by assumption) | exact Txt.UB (by assumption) | exact Txt.UO (by assumption) | exact Txt.UC (by assumption) | exact Txt.UP (by assumption) | exact Txt.UD (by assumption) | exact Txt.Um (by assumption) | exact Txt.U9 (by assumption) | exact Txt.Uo (by assumption) | exact Txt.Uw (by assumption) | exact Txt.Up (by assumption) | exact Txt.UH (by assumption) | exact Txt.UM (by assumption) | exact Txt.UI (by assumption) | exact Txt.UQ (by assumption) | exact Txt.UA (by assumption) | exact Txt.Uk (by assumption) | exact Txt.V_ (by assumption) | exact Txt.Us (by assumption) | exact Txt.Uv (by assumption) | exact Txt.Uu (by assumption) | exact Txt.UJ (by assumption) | exact Txt.UL (by assumption) | exact Txt.UE (by assumption) | exact Txt.UK (by assumption) | exact Txt.UG (by assumption) | exact Txt.Ul (by assumption) | exact Txt.U3 (by assumption))
namespace G
open PySem PySem.Spec PyProof.Rows L2 GM
section
variable{P:wS}{w:wW}{K:wb}{mg:Str->Option wg}{base:wQ}{a:Ad}
def isInt:wB->Bool
 | .int _=>true
 | _=>false
def N0(K:wb):Sp:=λvs H Q _=>∃x0,vs=[x0] /\ ∃d,Is K H x0 d/\Q (.bl (isInt d)) H
theorem Fz{K:wb}{H:Hp}{Q:VK}{E:XK}{v:V}{d:wB}(h:Is K H v d)(q:Q (.bl (isInt d)) H):N0 K [v] H Q E:=⟨v,rfl,d,h,q⟩
local macro_rules | `(tactic| wtm_at "gs")=>`(tactic| ((with_reducible apply Fz); (focus wtm_at "is")))
theorem tM(T:Txt K mg a):aP P w K mg base aS 1 a.IU a.Hm tI (N0 K):=by
 refine T.oB.F.ok zsg ?_ ?_;wtm_at "b1";refine⟨_,(az (aF (fB (br (show aN _ (.builtin "isinstance") (fc K)from ju) rfl T.z_isinstance eC (ae (pv 0) (ae (hJ (v:=.ty "int") rfl T.z_int DD rfl) af))) (gS (ng (br (show aN _ (.builtin "isinstance") (fc K)from ju) rfl T.z_isinstance eC (ae (pv 0) (ae (hJ (v:=.ty "bool") rfl T.z_bool zzS rfl) af)))))))),?_⟩;wtm_at "cl";rw[show start B4 [x0]=[some x0]from rfl];obtain⟨d,hd,q⟩:=h;k_few
 all_goals(cases d<;>simp_all [isInt,Es,BN])
def lU(l m:Int):wB->Bool
 | .int i=>decide (l<=i)&&decide (i<=m)
 | _=>false
theorem zuv{l m:Int}{d:wB}(h:isInt d=false):lU l m d=false:=by cases d<;>first | rfl | cases h
def Lv(K:wb):Sp:=λvs H Q _=>∃x0 x1 x2,vs=[x0,x1,x2] /\ ∃(l m:Int)(d:wB),x0=.int l/\x1=.int m/\Is K H x2 d/\Q (.bl (lU l m d)) H
theorem RT{K:wb}{H:Hp}{Q:VK}{E:XK}{l m:Int}{v:V}{d:wB}(h:Is K H v d)(q:Q (.bl (lU l m d)) H):Lv K [.int l,.int m,v] H Q E:=⟨_,_,_,rfl,l,m,d,rfl,rfl,h,q⟩
theorem Ni(T:Txt K mg a):aP P w K mg base aS 2 a.GZ a.Gp AN (Lv K):=by
 refine T.Bb.F.ok zlf ?_ ?_;wtm_at "b3";refine⟨_,(az (aF (fB (au (tM T) hr T.oB (ae (pv 2) af)) (gS (zxx lZ lZ (pv 0) (pv 2) (pv 1)))))),?_⟩;wtm_at "cl";rw[show start Fh [x0,x1,x2]=[some x0,some x1,some x2]from rfl];obtain⟨l,m,d,rfl,rfl,hd,q⟩:=h;have hc:(∃i,d=.int i)\/isInt d=false:=by cases d<;>simp[isInt]
 rcases hc with⟨i,rfl⟩ | hn
 ·cases cz.mp hd
  have q:Q (.bl (decide (l<=i)&&decide (i<=m))) H:=q;k_few
  ·rename_i z
   rw[decide_eq_true z,Vy]at q;exact q
  ·rename_i z
   rw[decide_eq_false z,WA]at q;exact q
  ·rename_i z;cases (show true=false from z)
 ·rw[zuv hn]at q
  k_few
  ·rename_i z1;rw[hn]at z1;cases z1
  ·exact q
def To(K:wb):Sp:=λvs H Q _=>∃x0 x1,vs=[x0,x1] /\ ∃a b:Int,x0=.int a/\x1=.int b/\0<=a/\0<=b/\Q (.int (vx a b:Nat)) H
theorem rg{K:wb}{H:Hp}{Q:VK}{E:XK}{a b:Int}(ha:0<=a)(hb:0<=b)(q:Q (.int (vx a b:Nat)) H):To K [.int a,.int b] H Q E:=⟨_,_,rfl,a,b,rfl,rfl,ha,hb,q⟩
theorem rY(T:Txt K mg a):aP P w K mg base aS 1 a.Gr a.Gg yV (To K):=by
 refine T.mE.F.ok yK ?_ ?_;wtm_at "b2"
 refine⟨_,(ak (mf vD (bY (show aJ _ (wN .NotEq) (df K)from fh hu) (pv 1) aD (bA _)) (ak (aB 2 yK.nd (aK gP (pv 0) (pv 1)))
     (ak (aB 0 yK.nd (pv 1))
     (az (aB 1 yK.nd (pv 2))))))
     (az (aF (pv 0)))),?_⟩
 wtm_at "cl";rw[show start Pc [x0,x1]=[some x0,some x1,none]from rfl];obtain⟨a',b',rfl,rfl,ha,hb,q⟩:=h;refine YK ?_;refine Kt (λσ H'=>∃(x y:Int)(r:Option V),σ = [some (.int x),some (.int y),r]/\0<=x/\0<=y/\vx x y=vx a' b'/\H'=H) (λσ=>(M7 σ 1).toNat) ⟨a',b',none,rfl,ha,hb,rfl,rfl⟩ ?_;rintro σ H' ⟨x,y,r,rfl,hx,hy,hg,rfl⟩;k_few
 . refine RB ?_
   k_few;have h1:=Qf x (show y≠0 by assumption);have h2:=qI x (show 0<y by omega);refine⟨?_,_,_,_,rfl,hy,h1,?_,rfl⟩
   . show(x % y).toNat<y.toNat
     omega
   . rw[<- hg];exact J_ (by omega) hx
 . rename_i h0
   subst h0
   have e:((vx a' b':Nat):Int)=x:=by
     rw[<- hg,Qz];omega
   rw[e]at q;exact q
def bV:wB->Bool
 | .tuple [.int p,.int q]=>hW p q
 | _=>false
theorem oS(r:Rat):bV (N r)=true:=SQ r
theorem zu1{d:wB}(h:jc d=false):bV d=false:=by
 cases d<;>first | rfl | (simp[jc]at h)
theorem zuk{ds:List wB}(h:¬ ds.length=2):bV (.tuple ds)=false:=by
 match ds with
 | []=>rfl
 | [_]=>simp[bV]
 | [_,_]=>exact absurd rfl h
 | _::_::_::_=>simp[bV]
theorem zq1{d e:wB}(h:isInt d=false):bV (.tuple [d,e])=false:=by
 cases d<;>first | rfl | (simp[isInt]at h)
theorem zoJ{d e:wB}(h:isInt e=false):bV (.tuple [d,e])=false:=by
 cases d<;>cases e<;>first | rfl | (simp[isInt]at h)
theorem RX{d:wB} : isInt d=true ↔ ∃i,d=.int i:=by cases d<;>simp[isInt]
def RU(K:wb):Sp:=λvs H Q _=>∃x0,vs=[x0] /\ ∃d,Is K H x0 d/\Q (.bl (bV d)) H
theorem zqN{K:wb}{H:Hp}{Q:VK}{E:XK}{v:V}{d:wB}(h:Is K H v d)(q:Q (.bl (bV d)) H):RU K [v] H Q E:=⟨v,rfl,d,h,q⟩
local macro_rules | `(tactic| wtm_at "gs")=>`(tactic| ((with_reducible apply zqN); (focus wtm_at "is")))
theorem pJ(T:Txt K mg a):aP P w K mg base aS 2 a.Im a.G7 Ak (RU K):=by
 refine T.mF.F.ok zqh ?_ ?_;wtm_at "b1"
 refine⟨_,(ak (bP (PW.pt (ff (cA (cu (br (show aN _ (.builtin "isinstance") (fc K)from ju) rfl T.z_isinstance eC (ae (pv 0) (ae (hJ (v:=.ty "tuple") rfl T.z_tuple dk rfl) af))))) (fO (bY (show aJ _ (wN .NotEq) (df K)from fh hu) (br (show aN _ (.builtin "len") (cF K)from dy) rfl T.z_len dA (ae (pv 0) af)) aD (bA _))))) (az (aF d8)) bQ)
     (ak (bP (PW.pt (ff (cA (cu (au (tM T) hr T.oB (ae (ay (pv 0)) af)))) (fO (cA (cu (au (tM T) hr T.oB (ae (ay (pv 0)) af))))))) (az (aF d8)) bQ)
     (az (aF (fB (fg RC (ay (pv 0)) aD (bA _)) (gS (fg (show aJ _ (wN .Eq) (cH K)from dj hu) (au (rY T) hr T.mE (ae (br mO rfl T.z_abs nW (ae (ay (pv 0)) af)) (ae (ay (pv 0)) af))) aD (bA _)))))))),?_⟩
 wtm_at "cl";rw[show start Cg [x0]=[some x0]from rfl];obtain⟨d,hd,q⟩:=h;k_few
 . rename_i e
   rw[zu1 e]at q;exact q
 . rename_i e
   obtain⟨ds,rfl⟩:=M8.mp e;refine kQ hd ?_;k_few
   . rename_i e
     rw[zuk (by omega)]at q;exact q
   . rename_i e
     obtain⟨d0,d1,rfl⟩:∃d0 d1,ds=[d0,d1]:=by
       match ds,e with
       | [d0,d1],_=>exact⟨d0,d1,rfl⟩
       | [],e=>simp at e
       | [_],e=>simp at e
       | _::_::_::_,e=>simp at e;omega
     refine aC (j:=0) hd rfl (λy0 h0=>?_);k_few
     . rename_i e
       rw[zq1 e]at q;exact q
     . rename_i e0
       obtain⟨i,rfl⟩:=RX.mp e0;refine aC (j:=1) hd rfl (λy1 h1=>?_);k_few
       . rename_i e
         rw[zoJ e]at q;exact q
       . rename_i e1
         obtain⟨j,rfl⟩:=RX.mp e1;refine aC (j:=1) hd rfl (λy2 h2=>?_);cases cz.mp h2;k_few
         . refine aC (j:=0) hd rfl (λy3 h3=>?_)
           cases cz.mp h3;o_head aC (j:=1) hd rfl (λy4 h4=>?_);cases cz.mp h4;o_head rg (by split<;>omega) (by omega) ?_;k_few
           have e3:bV (.tuple [.int i,.int j])=decide ((vx (if i<0 then -i else i) j:Nat)=(1:Int)):=by
             have e4:vx (if i<0 then -i else i) j=vx i j:=by
               split<;>simp
             rw[e4]
             show hW i j=_
             rename_i e5;simp only[hW,e5,decide_true,Vy];rw[vH,decide_eq_true_eq,decide_eq_true_eq];omega
           rw[e3]at q;exact q
         . rename_i e5
           have e3:bV (.tuple [.int i,.int j])=false:=by
             show hW i j=false
             simp only[hW,e5,decide_false,WA]
           rw[e3]at q;exact q
def Tr(K:wb):Sp:=λvs H Q _=>∃x0 x1,vs=[x0,x1] /\ ∃(x y:Rat),Is K H x0 (N x)/\Is K H x1 (N y)/\ah 8999 x/\ah 8999 y /\ ∀v H',ag H H'->Is K H' v (N (x+y))->Q v H'
theorem TJ{K:wb}{H:Hp}{Q:VK}{E:XK}{x y:Rat}{v w:V}(h1:Is K H v (N x))(h2:Is K H w (N y))(b1:ah 8999 x)(b2:ah 8999 y)(q:∀v H',ag H H'->Is K H' v (N (x+y))->Q v H'):Tr K [v,w] H Q E:=⟨_,_,rfl,x,y,h1,h2,b1,b2,q⟩
local macro_rules | `(tactic| wtm_at "gs")=>`(tactic| ((with_reducible apply TJ); (focus wtm_at "is"); (focus wtm_at "is"); (focus wtm_at "bdr"); (focus wtm_at "bdr"); intro _ _ _ _))
theorem gy(T:Txt K mg a):aP P w K mg base aS 2 a.plus a.Jl zK (Tr K):=by
 refine T.fM.F.ok A8 ?_ ?_;wtm_at "b2"
 refine⟨_,(ak (aB 2 A8.nd (au (rY T) hr T.mE (ae (ay (pv 0)) (ae (ay (pv 1)) af))))
     (ak (aB 3 A8.nd (aK cK (aK d6 (ay (pv 0)) (aK gj (ay (pv 1)) (pv 2))) (aK d6 (ay (pv 1)) (aK gj (ay (pv 0)) (pv 2)))))
     (ak (aB 4 A8.nd (au (rY T) hr T.mE (ae (br mO rfl T.z_abs nW (ae (pv 3) af)) (ae (pv 2) af))))
     (az (aF (bL (ae (aK gj (pv 3) (pv 4)) (ae (aK d6 (aK gj (ay (pv 0)) (pv 2)) (aK gj (ay (pv 1)) (pv 4))) af)))))))),?_⟩
 wtm_at "cl";rw[show start SW [x0,x1]=[some x0,some x1,none,none,none]from rfl];obtain⟨x,y,hx,hy,⟨bx1,bx2⟩,⟨by1,by2⟩,q⟩:=h;have px:=den_pos x;have py:=den_pos y;have ps:=sS x y;have pd:=DZ x y;have c1:kS 0 (fA x y):=⟨by omega,p9 bx2 (pH x y) px⟩;have c2:kS 0 (jB x y):=⟨by omega,p9 (p9 bx2 (pH x y) px) (Eu x y) ps⟩;have f1:=mC by2 (ze x y) ps;have f2:=mC bx2 (pH x y) ps;have f3:=mC by2 (qh (Eu x y) (ze x y)) pd;o_head rg (by omega) (by omega) ?_;rw[show((vx (x.den:Int) (y.den:Int):Nat):Int)=fA x y from rfl];k_few;rw[show x.num*(y.den:Int).fdiv (fA x y)+y.num*(x.den:Int).fdiv (fA x y)=kX x y from rfl];o_head rg (by split<;>omega) (by omega) ?_;rw[ET,show((vx (kX x y) (fA x y):Nat):Int)=jB x y from rfl];k_few;exact kJ (zBj x y) (zBh x y) q
def Rb(K:wb):Sp:=λvs H Q _=>∃x0 x1,vs=[x0,x1] /\ ∃(x y:Rat),Is K H x0 (N x)/\Is K H x1 (N y)/\ah 8999 x/\ah 8999 y /\ ∀v H',ag H H'->Is K H' v (N (x-y))->Q v H'
theorem zyX{K:wb}{H:Hp}{Q:VK}{E:XK}{x y:Rat}{v w:V}(h1:Is K H v (N x))(h2:Is K H w (N y))(b1:ah 8999 x)(b2:ah 8999 y)(q:∀v H',ag H H'->Is K H' v (N (x-y))->Q v H'):Rb K [v,w] H Q E:=⟨_,_,rfl,x,y,h1,h2,b1,b2,q⟩
local macro_rules | `(tactic| wtm_at "gs")=>`(tactic| ((with_reducible apply zyX); (focus wtm_at "is"); (focus wtm_at "is"); (focus wtm_at "bdr"); (focus wtm_at "bdr"); intro _ _ _ _))
theorem tD(T:Txt K mg a):aP P w K mg base aS 3 a.minus a.Jf zg (Rb K):=by
 refine T.oH.F.ok zy7 ?_ ?_;wtm_at "b2";refine⟨_,(az (aF (au (gy T) hr T.fM (ae (pv 0) (ae (bL (ae (gL gK (ay (pv 1))) (ae (ay (pv 1)) af))) af))))),?_⟩;wtm_at "cl";rw[show start DG [x0,x1]=[some x0,some x1]from rfl];obtain⟨x,y,hx,hy,bx,by',q⟩:=h;o_head kJ (r:=-y) (by simp) (by simp) (λv H' s hv=>?_);o_head TJ (by wtm_at "is") hv bx (zA1 by') (λw H'' s2 hw=>?_);rw[ztK]at hw;k_few;exact q w H'' (s.trans s2) hw
def Kn(K:wb):Sp:=λvs H Q _=>∃x0 x1,vs=[x0,x1] /\ ∃(x y:Rat),Is K H x0 (N x)/\Is K H x1 (N y)/\ah 8999 x/\ah 8999 y /\ ∀v H',ag H H'->Is K H' v (N (x*y))->Q v H'
theorem Ed{K:wb}{H:Hp}{Q:VK}{E:XK}{x y:Rat}{v w:V}(h1:Is K H v (N x))(h2:Is K H w (N y))(b1:ah 8999 x)(b2:ah 8999 y)(q:∀v H',ag H H'->Is K H' v (N (x*y))->Q v H'):Kn K [v,w] H Q E:=⟨_,_,rfl,x,y,h1,h2,b1,b2,q⟩
local macro_rules | `(tactic| wtm_at "gs")=>`(tactic| ((with_reducible apply Ed); (focus wtm_at "is"); (focus wtm_at "is"); (focus wtm_at "bdr"); (focus wtm_at "bdr"); intro _ _ _ _))
theorem kW(T:Txt K mg a):aP P w K mg base aS 2 a.times a.IZ yh (Kn K):=by
 refine T.jO.F.ok Cw ?_ ?_;wtm_at "b2"
 refine⟨_,(ak (aB 2 Cw.nd (au (rY T) hr T.mE (ae (br mO rfl T.z_abs nW (ae (ay (pv 0)) af)) (ae (ay (pv 1)) af))))
     (ak (aB 3 Cw.nd (au (rY T) hr T.mE (ae (br mO rfl T.z_abs nW (ae (ay (pv 1)) af)) (ae (ay (pv 0)) af))))
     (az (aF (bL (ae (aK d6 (aK gj (ay (pv 0)) (pv 2)) (aK gj (ay (pv 1)) (pv 3))) (ae (aK d6 (aK gj (ay (pv 0)) (pv 3)) (aK gj (ay (pv 1)) (pv 2))) af))))))),?_⟩
 wtm_at "cl";rw[show start O5 [x0,x1]=[some x0,some x1,none,none]from rfl];obtain⟨x,y,hx,hy,⟨bx1,bx2⟩,⟨by1,by2⟩,q⟩:=h;have px:=den_pos x;have py:=den_pos y;have p1:=nz x y;have p2:=nz y x;have c1:kS 0 (gz x y):=⟨by omega,p9 by2 (n9 x y) py⟩;have c2:kS 0 (gz y x):=⟨by omega,p9 bx2 (n9 y x) px⟩;have f1:=mC bx1 (tQ x y) p1;have f2:=mC by1 (tQ y x) p2;have f3:=mC bx2 (n9 y x) p2;have f4:=mC by2 (n9 x y) p1;o_head rg (by split<;>omega) (by omega) ?_;rw[ET,show((vx x.num (y.den:Int):Nat):Int)=gz x y from rfl];o_head rg (by split<;>omega) (by omega) ?_;rw[ET,show((vx y.num (x.den:Int):Nat):Int)=gz y x from rfl];k_few;exact kJ (zzJ x y) (zBl x y) q
def OQ(K:wb):Sp:=λvs H Q _=>∃x0 x1,vs=[x0,x1] /\ ∃(x y:Rat),Is K H x0 (N x)/\Is K H x1 (N y)/\ah 8999 x/\ah 8999 y/\y≠0 /\ ∀v H',ag H H'->Is K H' v (N (x / y))->Q v H'
theorem RS{K:wb}{H:Hp}{Q:VK}{E:XK}{x y:Rat}{v w:V}(h1:Is K H v (N x))(h2:Is K H w (N y))(b1:ah 8999 x)(b2:ah 8999 y)(hy:y≠0)(q:∀v H',ag H H'->Is K H' v (N (x / y))->Q v H'):OQ K [v,w] H Q E:=⟨_,_,rfl,x,y,h1,h2,b1,b2,hy,q⟩
theorem LH(T:Txt K mg a):aP P w K mg base aS 3 a.over a.JA zy (OQ K):=by
 refine T.Bz.F.ok PC ?_ ?_;wtm_at "b2"
 refine⟨_,(ak (bP (bY (show aJ _ (wN .Eq) (cH K)from dj hu) (ay (pv 1)) aD (bA _)) (az De) bQ)
     (ak (aB 2 PC.nd (yE (bY mQ (ay (pv 1)) aD (bA _)) (bL (ae (ay (pv 1)) (ae (ay (pv 1)) af))) (bL (ae (gL gK (ay (pv 1))) (ae (gL gK (ay (pv 1))) af)))))
     (az (aF (au (kW T) hr T.jO (ae (pv 0) (ae (pv 2) af))))))),?_⟩
 wtm_at "cl";rw[show start Ol [x0,x1]=[some x0,some x1,none]from rfl];obtain⟨x,y,hx,hy,bx,by',hn,q⟩:=h;k_few
 . rename_i z
   exact absurd z (C4 hn)
 . rename_i z0 z
   refine kJ (r:=y⁻¹) (A0 z).1.symm (A0 z).2.symm (λv1 H1 S1 i1=>?_);o_head Ed (hx.by S1) i1 bx (Kv by' hn) (λv2 H2 S2 i2=>?_);rw[<- XC]at i2;k_few;exact q v2 H2 (S1.trans S2) i2
 . rename_i z0 z
   have z:y.num<0:=by omega
   refine kJ (r:=y⁻¹) (v_ z).1.symm (v_ z).2.symm (λv1 H1 S1 i1=>?_);o_head Ed (hx.by S1) i1 bx (Kv by' hn) (λv2 H2 S2 i2=>?_);rw[<- XC]at i2;k_few;exact q v2 H2 (S1.trans S2) i2
def Oa(K:wb):Sp:=λvs H Q _=>∃x0 x1,vs=[x0,x1] /\ ∃(x y:Rat),Is K H x0 (N x)/\Is K H x1 (N y)/\ah 8999 x/\ah 8999 y/\Q (.bl (decide (x<y))) H
theorem zAW{K:wb}{H:Hp}{Q:VK}{E:XK}{x y:Rat}{v w:V}(h1:Is K H v (N x))(h2:Is K H w (N y))(b1:ah 8999 x)(b2:ah 8999 y)(q:Q (.bl (decide (x<y))) H):Oa K [v,w] H Q E:=⟨_,_,rfl,x,y,h1,h2,b1,b2,q⟩
local macro_rules | `(tactic| wtm_at "gs")=>`(tactic| ((with_reducible apply zAW); (focus wtm_at "is"); (focus wtm_at "is"); (focus wtm_at "bdr"); (focus wtm_at "bdr")))
theorem gQ(T:Txt K mg a):aP P w K mg base aS 1 a.less a.Jt tG (Oa K):=by
 refine T.gc.F.ok zz0 ?_ ?_;wtm_at "b2";refine⟨_,(az (aF (fg pP (aK d6 (ay (pv 0)) (ay (pv 1))) (aK d6 (ay (pv 1)) (ay (pv 0))) (bA _)))),?_⟩;wtm_at "cl";rw[show start DW [x0,x1]=[some x0,some x1]from rfl];obtain⟨x,y,hx,hy,⟨bx1,bx2⟩,⟨by1,by2⟩,q⟩:=h;k_few;rw[zEb];exact q
def pA(x:Rat):Bool:=decide (0<x)&&(!decide (4<x))&&decide ((x.den:Int)<=8)
def Ry(K:wb):Sp:=λvs H Q _=>∃x0,vs=[x0] /\ ∃x:Rat,Is K H x0 (N x)/\ah 4000 x/\Q (.bl (pA x)) H
theorem Za{K:wb}{H:Hp}{Q:VK}{E:XK}{x:Rat}{v:V}(h:Is K H v (N x))(b:ah 4000 x)(q:Q (.bl (pA x)) H):Ry K [v] H Q E:=⟨_,rfl,x,h,b,q⟩
local macro_rules | `(tactic| wtm_at "gs")=>`(tactic| ((with_reducible apply Za); (focus wtm_at "is"); (focus wtm_at "bdr")))
theorem Y3(T:Txt K mg a):aP P w K mg base aS 2 a.IJ a.G9 yx (Ry K):=by
 refine T.Hi.F.ok zqk ?_ ?_;wtm_at "b1";refine⟨_,(az (aF (fB (au (gQ T) hr T.gc (ae (bS (v:=.ref a.cZ) rfl T.dS rfl) (ae (pv 0) af))) (fB (ng (au (gQ T) hr T.gc (ae (bS (v:=.ref a.A_) rfl T.Uy rfl) (ae (pv 0) af)))) (gS (fg lZ (ay (pv 0)) (lF rfl T.UN) (bA _))))))),?_⟩;wtm_at "cl";rw[show start ER [x0]=[some x0]from rfl];obtain⟨x,hx,bx,q⟩:=h;unfold pA at q;k_few
 ·rename_i h1 h2
  rw[decide_eq_true h1,decide_eq_false h2]at q;exact q
 ·rename_i h1 h2
  rw[decide_eq_true h1,decide_eq_true h2]at q;exact q
 ·rename_i h1
  rw[decide_eq_false h1]at q;exact q
def pk(x:Rat):Bool:=(!decide (x<0))&&(!decide (1<x))&&decide ((x.den:Int)<=12)
def PX(K:wb):Sp:=λvs H Q _=>∃x0,vs=[x0] /\ ∃x:Rat,Is K H x0 (N x)/\ah 4000 x/\Q (.bl (pk x)) H
theorem zr8{K:wb}{H:Hp}{Q:VK}{E:XK}{x:Rat}{v:V}(h:Is K H v (N x))(b:ah 4000 x)(q:Q (.bl (pk x)) H):PX K [v] H Q E:=⟨_,rfl,x,h,b,q⟩
local macro_rules | `(tactic| wtm_at "gs")=>`(tactic| ((with_reducible apply zr8); (focus wtm_at "is"); (focus wtm_at "bdr")))
theorem zs7(T:Txt K mg a):aP P w K mg base aS 2 a.Jk a.Hv ye (PX K):=by
 refine T.Ii.F.ok zrM ?_ ?_;wtm_at "b1";refine⟨_,(az (aF (fB (ng (au (gQ T) hr T.gc (ae (pv 0) (ae (bS (v:=.ref a.cZ) rfl T.dS rfl) af)))) (fB (ng (au (gQ T) hr T.gc (ae (bS (v:=.ref a.d4) rfl T.fk rfl) (ae (pv 0) af)))) (gS (fg lZ (ay (pv 0)) (lF rfl T.UR) (bA _))))))),?_⟩;wtm_at "cl";rw[show start Ft [x0]=[some x0]from rfl];obtain⟨x,hx,bx,q⟩:=h;unfold pk at q;k_few
 ·rename_i h1 h2
  rw[decide_eq_false h1,decide_eq_false h2]at q;exact q
 ·rename_i h1 h2
  rw[decide_eq_false h1,decide_eq_true h2]at q;exact q
 ·rename_i h1
  rw[decide_eq_true h1]at q;exact q
def lV(x y:Rat):Bool:=pA x&&pk y && !decide (x+y<1)
def DE(K:wb):Sp:=λvs H Q _=>∃x0 x1,vs=[x0,x1]/\((∃d e,Is K H x0 d/\Is K H x1 e/\(bV d&&bV e)=false /\ ∀H',ag H H'->Q (.bl false) H')\/(∃x y:Rat,Is K H x0 (N x)/\Is K H x1 (N y)/\ah 1000 x/\ah 1000 y /\ ∀H',ag H H'->Q (.bl (lV x y)) H'))
theorem zoP{K:wb}{H:Hp}{Q:VK}{E:XK}{d e:wB}{v w:V}(h1:Is K H v d)(h2:Is K H w e)(n:(bV d&&bV e)=false)(q:∀H',ag H H'->Q (.bl false) H'):DE K [v,w] H Q E:=⟨_,_,rfl,.inl ⟨d,e,h1,h2,n,q⟩⟩
theorem ZX{K:wb}{H:Hp}{Q:VK}{E:XK}{x y:Rat}{v w:V}(h1:Is K H v (N x))(h2:Is K H w (N y))(b1:ah 1000 x)(b2:ah 1000 y)(q:∀H',ag H H'->Q (.bl (lV x y)) H'):DE K [v,w] H Q E:=⟨_,_,rfl,.inr ⟨x,y,h1,h2,b1,b2,q⟩⟩
theorem zqL(T:Txt K mg a):aP P w K mg base aS 3 a.Iv a.Hb zW (DE K):=by
 refine T.HD.F.ok zrl ?_ ?_;wtm_at "b2"
 refine⟨_,(ak (bP (PW.pt (ff (cA (cu (au (pJ T) hr T.mF (ae (pv 0) af)))) (fO (cA (cu (au (pJ T) hr T.mF (ae (pv 1) af))))))) (az (aF d8)) bQ)
     (az (aF (fB (au (Y3 T) hr T.Hi (ae (pv 0) af)) (fB (au (zs7 T) hr T.Ii (ae (pv 1) af)) (gS (ng (au (gQ T) hr T.gc (ae (au (gy T) hr T.fM (ae (pv 0) (ae (pv 1) af))) (ae (bS (v:=.ref a.d4) rfl T.fk rfl) af)))))))))),?_⟩
 wtm_at "cl";rw[show start F_ [x0,x1]=[some x0,some x1]from rfl];rcases h with⟨d,e,hd,he,hn,q⟩ | ⟨x,y,hx,hy,bx,by',q⟩
 . k_few
   . exact q _ (ag.refl _)
   . exact q _ (ag.refl _)
   . rename_i h1 h2
     exact absurd hn (by rw[h1,h2];decide)
 . unfold lV at q
   k_few
   . rename_i z;rw[oS]at z;cases z
   . rename_i z;rw[oS]at z;cases z
   . rename_i h1 h2 v H' S hv
     rw[h1,h2]at q;exact q _ S
   . rename_i h1 h2
     rw[h1,h2]at q;exact q _ (ag.refl _)
   . rename_i h1
     rw[h1]at q;exact q _ (ag.refl _)
def OV:wB->Bool
 | .tuple [d,e]=>!(bV d&&bV e)
 | _=>true
theorem ztg{d e:wB}(h:OV (.tuple [d,e])=true):(bV d&&bV e)=false:=by
 have h:(!(bV d&&bV e))=true:=h;cases z:(bV d&&bV e)with
 | false=>rfl
 | true=>rw[z]at h;exact absurd h (by decide)
def Lb(K:wb):Sp:=λvs H Q _=>∃x0,vs=[x0]/\((∃d,Is K H x0 d/\OV d=true /\ ∀H',ag H H'->Q (.bl false) H')\/(∃x y:Rat,Is K H x0 (R x y)/\ah 1000 x/\ah 1000 y /\ ∀H',ag H H'->Q (.bl (lV x y)) H'))
theorem zt8{K:wb}{H:Hp}{Q:VK}{E:XK}{x y:Rat}{v:V}(h:Is K H v (R x y))(b1:ah 1000 x)(b2:ah 1000 y)(q:∀H',ag H H'->Q (.bl (lV x y)) H'):Lb K [v] H Q E:=⟨_,rfl,.inr ⟨x,y,h,b1,b2,q⟩⟩
theorem ztO(T:Txt K mg a):aP P w K mg base aS 4 a.Jo a.HK zV (Lb K):=by
 refine T.Ip.F.ok zuK ?_ ?_;wtm_at "b1";refine⟨_,(az (aF (fB (br (show aN _ (.builtin "isinstance") (fc K)from ju) rfl T.z_isinstance eC (ae (pv 0) (ae (hJ (v:=.ty "tuple") rfl T.z_tuple dk rfl) af))) (fB (fg (show aJ _ (wN .Eq) (cH K)from dj hu) (br (show aN _ (.builtin "len") (cF K)from dy) rfl T.z_len dA (ae (pv 0) af)) aD (bA _)) (gS (au (zqL T) hr T.HD (ae (ay (pv 0)) (ae (ay (pv 0)) af)))))))),?_⟩;wtm_at "cl";rw[show start EO [x0]=[some x0]from rfl];rcases h with⟨d,hd,hn,q⟩ | ⟨x,y,hr,bx,by',q⟩
 ·k_few
  ·rename_i e
   obtain⟨ds,rfl⟩:=M8.mp e;refine kQ hd ?_;k_few
   ·rename_i e
    obtain⟨d0,d1,rfl⟩:∃d0 d1,ds=[d0,d1]:=by
     match ds,e with
     | [d0,d1],_=>exact⟨d0,d1,rfl⟩
     | [],e=>simp at e
     | [_],e=>simp at e
     | _::_::_::_,e=>simp at e;omega
    refine aC (j:=0) hd rfl (λy0 h0=>?_);o_head aC (j:=1) hd rfl (λy1 h1=>?_);o_head zoP h0 h1 (ztg hn) (λH' S=>?_);k_few;exact q _ S
   ·exact q _ (ag.refl _)
  ·exact q _ (ag.refl _)
 ·k_few
  refine ZX (by assumption) (by assumption) bx by' (λH' S=>?_);k_few;exact q _ S
def pX(x:Rat):Str:=if 1<x then "rising" else if x=1 then "even" else "falling"
def TL(K:wb):Sp:=λvs H Q _=>∃x0,vs=[x0] /\ ∃x y:Rat,Is K H x0 (R x y)/\ah 4000 x/\Q (.str (pX x)) H
theorem Tp{K:wb}{H:Hp}{Q:VK}{E:XK}{x y:Rat}{v:V}(h:Is K H v (R x y))(b:ah 4000 x)(q:Q (.str (pX x)) H):TL K [v] H Q E:=⟨_,rfl,x,y,h,b,q⟩
theorem ML(T:Txt K mg a):aP P w K mg base aS 2 a.JZ a.Jq sV (TL K):=by
 refine T.Bw.F.ok zAj ?_ ?_;wtm_at "b1"
 refine⟨_,(ak (bP (cu (au (gQ T) hr T.gc (ae (bS (v:=.ref a.d4) rfl T.fk rfl) (ae (ay (pv 0)) af)))) (az (aF dQ)) bQ)
     (ak (bP (bY (show aJ _ (wN .Eq) (cH K)from dj hu) (ay (pv 0)) (bS (v:=.ref a.d4) rfl T.fk rfl) (bA _)) (az (aF dQ)) bQ)
     (az (aF dQ)))),?_⟩
 wtm_at "cl";rw[show start BM [x0]=[some x0]from rfl];obtain⟨x,y,hx,bx,q⟩:=h;unfold pX at q;k_few
 . rename_i h1
   rw[if_pos h1]at q;exact q
 . rename_i h1 _ _ h2
   rw[if_neg h1,if_pos h2]at q;exact q
 . rename_i h1 _ _ h2
   rw[if_neg h1,if_neg h2]at q;exact q
def Dj(K:wb):Sp:=λvs H Q _=>∃x0 x1,vs=[x0,x1] /\ ∃(a b:Rat)(n:Int),x1=.int n/\Is K H x0 (R a b)/\ah 4000 a/\ah 4000 b/\0<=n/\n<=64/\(∀i,i<=n.toNat->ah 4000 (a^i))/\(∀i,i<=n.toNat->ah 4000 (aG a b i)) /\ ∀v H',ag H H'->Is K H' v (R (a^n.toNat) (aG a b n.toNat))->Q v H'
theorem OA{K:wb}{H:Hp}{Q:VK}{E:XK}{a b:Rat}{n:Int}{v:V}(h1:Is K H v (R a b))(b1:ah 4000 a)(b2:ah 4000 b)(h0:0<=n)(h64:n<=64)(f1:∀i,i<=n.toNat->ah 4000 (a^i))(f2:∀i,i<=n.toNat->ah 4000 (aG a b i))(q:∀v H',ag H H'->Is K H' v (R (a^n.toNat) (aG a b n.toNat))->Q v H'):Dj K [v,.int n] H Q E:=⟨_,_,rfl,a,b,n,rfl,h1,b1,b2,h0,h64,f1,f2,q⟩
theorem Cq{K:wb}{H:Hp}{Q:VK}{E:XK}{a b:Rat}{n:Int}{v:V}(h1:Is K H v (R a b))(b1:ah 10 a)(b2:ah 10 b)(h0:0<=n)(h64:n<=64)(q:∀v H',ag H H'->Is K H' v (R (a^n.toNat) (aG a b n.toNat))->Q v H'):Dj K [v,.int n] H Q E :=
 OA h1 (b1.mono (by decide)) (b2.mono (by decide)) h0 h64 (λi hi=>(b1.pow i).mono (by omega)) (λi hi=>(b1.aG b2 i).mono (by omega)) q
theorem t_(T:Txt K mg a):aP P w K mg base aS 3 a.JJ a.IK AO (Dj K):=by
 refine T.oF.F.ok nj ?_ ?_;wtm_at "b2"
 refine⟨_,(ak (aB 2 nj.nd (bS (v:=.ref a.d4) rfl T.fk rfl))
     (ak (aB 3 nj.nd (bS (v:=.ref a.cZ) rfl T.dS rfl))
     (ak (gA vD rfl (jW rfl T.z_range (ae (pv 1) af)) (bM (i:=4) nj.nd rfl (Or.inl rfl)) (ak (aB 2 nj.nd (au (kW T) hr T.jO (ae (ay (pv 0)) (ae (pv 2) af))))
     (az (aB 3 nj.nd (au (gy T) hr T.fM (ae (au (kW T) hr T.jO (ae (ay (pv 0)) (ae (pv 3) af))) (ae (ay (pv 0)) af)))))))
     (az (aF (bL (ae (pv 2) (ae (pv 3) af)))))))),?_⟩
 wtm_at "cl";rw[show start KO [x0,x1]=[some x0,some x1,none,none,none]from rfl];obtain⟨r,s',n,rfl,hr',ba,bb,h0,h64,f1,f2,q⟩:=h;o_head lO (n:=n) (by omega) (by omega) (λi σ H'=>∃(f g:V)(o:Option V),σ = [some x0,some (.int n),some f,some g,o]/\ag H H'/\Is K H' f (N (r^i))/\Is K H' g (N (aG r s' i))) ⟨_,_,_,rfl,ag.refl H,by rw[qB];exact oW.mpr ⟨_,rfl,T.sG H⟩,oW.mpr ⟨_,rfl,T.e_ H⟩⟩ ?_ ?_
 . rintro i σ H' hi ⟨f,g,o,rfl,S1,hf,hg⟩
   have hr1:=hr'.by S1;have bf:ah 4000 (r^i):=f1 i (by omega);have bg:ah 4000 (aG r s' i):=f2 i (by omega);have bg2:ah 8999 (r*aG r s' i):=(ba.mul bg).mono (by decide);o_head ⟨_,_,_,rfl,S1.trans (ag.trans (by assumption) (ag.trans (by assumption) (by assumption))),?_,?_⟩
   . rw[W4,Qg]
     wtm_at "is"
   . wtm_at "is"
 . rintro σ H' ⟨f,g,o,rfl,S1,hf,hg⟩
   wtm_at "ga";exact q _ _ (S1.trans (by assumption)) (by assumption)
def Tu(K:wb):Sp:=λvs H Q _=>∃x0 x1,vs=[x0,x1] /\ ∃(f g x:Rat),Is K H x0 (R f g)/\Is K H x1 (N x)/\ah 700 f/\ah 1500 g/\ah 8100 x /\ ∀v H',ag H H'->Is K H' v (N (f*x+g))->Q v H'
theorem NZ{K:wb}{H:Hp}{Q:VK}{E:XK}{f g x:Rat}{v w:V}(h1:Is K H v (R f g))(h2:Is K H w (N x))(b1:ah 700 f)(b2:ah 1500 g)(b3:ah 8100 x)(q:∀v H',ag H H'->Is K H' v (N (f*x+g))->Q v H'):Tu K [v,w] H Q E:=⟨_,_,rfl,f,g,x,h1,h2,b1,b2,b3,q⟩
theorem Rr(T:Txt K mg a):aP P w K mg base aS 3 a.IF a.Hc yt (Tu K):=by
 refine T.Bk.F.ok zqB ?_ ?_;wtm_at "b2";refine⟨_,(az (aF (au (gy T) hr T.fM (ae (au (kW T) hr T.jO (ae (ay (pv 0)) (ae (pv 1) af))) (ae (ay (pv 0)) af))))),?_⟩;wtm_at "cl";rw[show start FY [x0,x1]=[some x0,some x1]from rfl];obtain⟨f,g,x,hp,hx,bf,bg,bx,q⟩:=h;k_few;rename_i hz;exact q _ _ (ag.trans (by assumption) (by assumption)) hz
def bD(n:Nat):List Int:=(wx n).map λ(w:Nat)=>(w:Int)
def pY(K:wb):Sp:=λvs H Q _=>∃x0 x1,vs=[x0,x1] /\ ∃(n:Nat),x1=.int (n:Int)/\n<=8/\((∃d,Is K H x0 d/\gZ d=false /\ ∀H',ag H H'->Q (.bl false) H')\/(∃ds,Is K H x0 (.list ds)/\ds.length<=60/\ds.all isInt=false /\ ∀H',ag H H'->Q (.bl false) H')\/(∃ns,Is K H x0 (LZ ns)/\ns.length<=60 /\ ∀H',ag H H'->Q (.bl (decide (ns.Perm (bD n)))) H'))
theorem YU{K:wb}{H:Hp}{Q:VK}{E:XK}{v:V}{n:Nat}{d:wB}(h8:n<=8)(h:Is K H v d)(e:gZ d=false)(q:∀H',ag H H'->Q (.bl false) H'):pY K [v,.int (n:Int)] H Q E:=⟨_,_,rfl,n,rfl,h8,.inl ⟨d,h,e,q⟩⟩
theorem zrv{K:wb}{H:Hp}{Q:VK}{E:XK}{v:V}{n:Nat}{ds:List wB}(h8:n<=8)(h:Is K H v (.list ds))(hl:ds.length<=60)(e:ds.all isInt=false)(q:∀H',ag H H'->Q (.bl false) H'):pY K [v,.int (n:Int)] H Q E:=⟨_,_,rfl,n,rfl,h8,.inr (.inl ⟨ds,h,hl,e,q⟩)⟩
theorem LX{K:wb}{H:Hp}{Q:VK}{E:XK}{v:V}{n:Nat}{ns:List Int}(h8:n<=8)(h:Is K H v (LZ ns))(hl:ns.length<=60)(q:∀H',ag H H'->Q (.bl (decide (ns.Perm (bD n)))) H'):pY K [v,.int (n:Int)] H Q E:=⟨_,_,rfl,n,rfl,h8,.inr (.inr ⟨ns,h,hl,q⟩)⟩
theorem zxH(ns:List Int):(ns.map PyData.int).all isInt=true:=by rw[qF,WE];intro x _;rfl
theorem SG:∀ms ns:List Int,vJ (ms.map .int) (ns.map .int)=decide (ms=ns)
 | [],[]=>rfl
 | [],_::_=>by simp[vJ]
 | _::_,[]=>by simp[vJ]
 | m::ms,n::ns=>by
  rw[va,va,vJ,sZ,SG ms ns]
  by_cases h:m=n<;>by_cases k:ms=ns<;>simp[h,k]
theorem zBY(ms ns:List Int):wI (LZ ms) (LZ ns)=decide (ms=ns):=by
 unfold LZ;rw[wI];exact SG ms ns
theorem zBV(n:Nat):(bD n).Pairwise (· <= ·):=by
 unfold bD;rw[WN];exact qV.imp λ{x y} k=>by omega
theorem zEf(n:Nat):vz (wx n)=(bD n).map V.int:=by unfold vz bD;rw[Vq];rfl
theorem Zc(T:Txt K mg a):aP P w K mg base aS 2 a.Jj a.HE A1 (pY K):=by
 refine T.HM.F.ok zti ?_ ?_;wtm_at "b2"
 refine⟨_,(ak (bP (PW.pt (ff (cA (cu (br (show aN _ (.builtin "isinstance") (fc K)from ju) rfl T.z_isinstance eC (ae (pv 0) (ae (hJ (v:=.ty "list") rfl T.z_list j5 rfl) af))))) (fO (cA (cu (br (show aN _ (.builtin "all") (j4 K)from mi rfl) rfl T.z_all l9 (ae (eh rfl (cv.by (N':=["one"]) (src:=[none]) rfl (show cN _ (aA zi).names zr ["one"] [none]=true from by decide +kernel)) (gO (pv 0)) (λ_ _ _ _ _=>(bM (i:=0) (show(["one"]:List Str).Nodup from by decide) rfl (Or.inl rfl))) (λ_ _ _ _ _=>du) (λ_ _ _ _ _=>(au (tM (K:=K) (mg:=mg) (a:=a) T) hr T.oB (ae (pv 0) af)))) af))))))) (az (aF d8)) bQ)
     (az (aF (fg (show aJ _ (wN .Eq) (cH K)from dj hu) (br (show aN _ (.builtin "sorted") (y9 K)from Mi) rfl T.z_sorted Mx (ae (pv 0) af)) (K9 rfl rfl T.z_list rfl T.z_range (ae (pv 1) af)) (bA _))))),?_⟩
 wtm_at "cl";rw[show start zr [x0,x1]=[some x0,some x1]from rfl];obtain⟨n,rfl,h8,h⟩:=h;rcases h with⟨d,hd,hn,q⟩ | ⟨ds,hd,hl,hn,q⟩ | ⟨ns,hd,hl,q⟩
 . k_few
   refine u9 hd ?_;rw[hn];k_few;exact q H (ag.refl _)
 . k_few
   refine u9 hd ?_;rw[show gZ (.list ds)=true from rfl];obtain⟨ap,us,rfl,hs,tu⟩:=cj.mp hd;have hul:=tu.length;k_few
   . skip
     refine jT (o0:=none) (tl:=[]) hs rfl (λj y H'=>y=.bl (isInt (ds.getD j .none))) ?_ ?_
     . intro D i x ys o H2 hx inv
       obtain⟨hi,ix⟩:=gG tu hx;o_head Fz (ix.by inv.same) ?_;k_few;exact dR inv (by omega) (λ_ _ _ _ _ z=>z) ⟨_,rfl⟩ (ag.refl _) rfl
     . intro D ys H2 hn2 S2 hD hl2 hr
       have hys:ys=(ds.map isInt).map V.bl:=by
         refine Wg (by rw[hl2,hul,wo,wo]) λj h1 h2=>?_
         have:=hr j ys[j] (wc h1);rw[this,Ww,Ww,wa,wc]
         rfl
       subst hys;o_head kq (.of hD) ?_;have e:(ds.map isInt).all id=ds.all isInt:=by rw[qF];rfl
       rw[e,hn];k_few;exact q H2 S2
 . k_few
   refine u9 hd ?_;rw[show gZ (LZ ns)=true from rfl];obtain⟨ap,us,rfl,hs,tu⟩:=cj.mp hd;have hul:=tu.length;have hus:=lM.mp tu;rw[wo]at hul;k_few
   . skip
     refine jT (o0:=none) (tl:=[]) hs rfl (λj y H'=>y=.bl (isInt ((ns.map PyData.int).getD j .none))) ?_ ?_
     . intro D i x ys o H2 hx inv
       obtain⟨hi,ix⟩:=gG tu hx;o_head Fz (ix.by inv.same) ?_;k_few;exact dR inv (by rw[wo]at hi;omega) (λ_ _ _ _ _ z=>z) ⟨_,rfl⟩ (ag.refl _) rfl
     . intro D ys H2 hn2 S2 hD hl2 hr
       have hys:ys=((ns.map PyData.int).map isInt).map V.bl:=by
         refine Wg (by rw[hl2,hul,wo,wo,wo]) λj h1 h2=>?_
         have:=hr j ys[j] (wc h1);rw[this,Ww,Ww,wa,wc]
         rfl
       subst hys;o_head kq (.of hD) ?_;have e:((ns.map PyData.int).map isInt).all id=(ns.map PyData.int).all isInt:=by rw[qF];rfl
       rw[e,zxH];k_few;subst hus;refine PD (S2.seq hs) (by omega) (λl3 H3 ms n3 S3 e3 pm so=>?_);o_head Pu (by omega) (λl4 H4 n4 S4 e4=>?_);rw[zEf]at e4;refine mU (mB (S4 _ _ e3)) (mB e4) ((yy _).shaped (by decide)) ((yy _).shaped (by decide)) ?_;rw[zBY];have q':=q H4 (S2.trans (S3.trans S4))
       have ee:decide (ms=bD n)=decide (ns.Perm (bD n)):=by
         rw[decide_eq_decide]
         constructor
         . rintro rfl;exact pm.symm
         . intro z;exact FO (pm.trans z) so (zBV n)
       rw[ee];exact q'
def fb{α : Type}(d : α)(ns:List Int)(xs:List α):Nat->List α
 | 0=>xs
 | k+1=>(fb d ns xs k).set (ns.getD k 0).toNat (xs.getD k d)
theorem zL{α : Type}{d : α}(ns:List Int)(xs:List α):∀k,(fb d ns xs k).length=xs.length
 | 0=>rfl
 | k+1=>by rw[fb,WP,zL]
theorem RM{α β : Type}(f : α -> β)(d : α)(ns:List Int)(xs:List α):∀k,(fb d ns xs k).map f=fb (f d) ns (xs.map f) k
 | 0=>rfl
 | k+1=>by
  rw[fb,fb,List.map_set,RM f d ns xs k]
  congr 1
  rw[wa,wa,wu];cases xs[k]?<;>rfl
theorem MU{α : Type}(d e : α)(ns:List Int)(xs:List α):∀k,k<=xs.length->fb d ns xs k=fb e ns xs k
 | 0,_=>rfl
 | k+1,h=>by
  rw[fb,fb,MU d e ns xs k (by omega)]
  congr 1
  rw[wa,wa,wc (show k<xs.length by omega)]
  rfl
def aY{α : Type}(d : α)(ns:List Int)(xs:List α):List α:=fb d ns xs xs.length
theorem lX{α : Type}{d : α}(ns:List Int)(xs:List α):(aY d ns xs).length=xs.length:=zL ns xs _
theorem YT{α β : Type}(f : α -> β)(d : α)(e : β)(ns:List Int)(xs:List α):(aY d ns xs).map f=aY e ns (xs.map f):=by
 unfold aY;rw[RM,wo];exact MU _ _ _ _ _ (by rw[wo];exact wq _)
theorem R8{ds:List wB}(h:bW ds=true):∀{i:Nat},i<ds.length->cw (ds.getD i .none)=true:=by
 induction ds with
 | nil=>intro i hi;simp at hi
 | cons d ds ih =>
  have h:(cw d&&bW ds)=true:=h;rw[wZ]at h;intro i hi;cases i with
  | zero=>exact h.1
  | succ i=>exact ih h.2 (by simp at hi;omega)
theorem zuu{ds:List wB}{d:wB}(h:bW ds=true)(k:cw d=true):∀i,bW (ds.set i d)=true:=by
 induction ds with
 | nil=>intro i;exact h
 | cons e ds ih =>
  have h:(cw e&&bW ds)=true:=h;rw[wZ]at h;intro i;cases i with
  | zero=>show(cw d&&bW ds)=true;rw[k,h.2];rfl
  | succ i=>show(cw e&&bW (ds.set i d))=true;rw[h.1,ih h.2 i];rfl
theorem SX{ns:List Int}{ds:List wB}(h:bW ds=true):∀k,k<=ds.length->bW (fb .none ns ds k)=true
 | 0,_=>h
 | k+1,hk=>by rw[fb];exact zuu (SX h k (by omega)) (R8 h (by omega)) _
theorem MW{K:wb}{H:Hp} : ∀{us:List V}{ds:List wB}(i:Nat){v:V}{d:wB},av K H us ds->Is K H v d->av K H (us.set i v) (ds.set i d)
 | us,[],i,v,d,t,h=>by
  rw[fK.mp t];exact .nil
 | us,y::xs,0,v,d,t,h=>by
  obtain⟨u,r,rfl,_,t'⟩:=c8.mp t;exact .cons h t'
 | us,y::xs,i+1,v,d,t,h=>by
  obtain⟨u,r,rfl,hu,t'⟩:=c8.mp t;exact .cons hu (MW i t' h)
def Nd(K:wb):Sp:=λvs H Q _=>∃x0 x1,vs=[x0,x1] /\ ∃(ao:we)(ns:List Int)(ds:List wB),x0=.ref ao/\H ao=some (.lst (ns.map V.int))/\Is K H x1 (.tuple ds)/\bW ds=true/\ns.length=ds.length/\ds.length<=8/\(∀n∈ns,0<=n/\n<(ds.length:Int)) /\ ∀v H',ag H H'->Is K H' v (.tuple (aY .none ns ds))->Q v H'
theorem zwq{K:wb}{H:Hp}{Q:VK}{E:XK}{ao:we}{w:V}{ns:List Int}{ds:List wB}(h1:H ao=some (.lst (ns.map V.int)))(h2:Is K H w (.tuple ds))(im:bW ds=true)(hl:ns.length=ds.length)(h8:ds.length<=8)(hn:∀n∈ns,0<=n/\n<(ds.length:Int))(q:∀v H',ag H H'->Is K H' v (.tuple (aY .none ns ds))->Q v H'):Nd K [.ref ao,w] H Q E:=⟨_,_,rfl,ao,ns,ds,rfl,h1,h2,im,hl,h8,hn,q⟩
theorem zCs{n:Nat}{k:Int}(h0:0<=k)(h1:k<(n:Int)):gg n k=some k.toNat:=by
 unfold gg;rw[if_pos h0,if_pos h1]
theorem zwB(T:Txt K mg a):aP P w K mg base aS 1 a.JG a.Iw zR (Nd K):=by
 refine T.I_.F.ok AS ?_ ?_;wtm_at "b2"
 refine⟨_,(ak (aB 2 AS.nd (dg (show aN _ (.type "list") (k9 K)from pD) rfl T.z_list j5 (ae (pv 1) af)))
     (ak (gA vD rfl (zAE rfl T.z_zip (ae (pv 0) (ae (pv 1) af))) (j3 (n:=2) rfl (d5 (bM (i:=3) AS.nd rfl (Or.inl rfl)) (d5 (bM (i:=4) AS.nd rfl (Or.inl rfl)) jF))) (az (oq (pv 4) (mM (pv 2) (pv 3) nA))))
     (az (aF (dg (show aN _ (.type "tuple") (dJ K)from eP) rfl T.z_tuple dk (ae (pv 2) af)))))),?_⟩
 wtm_at "cl";rw[show start OI [x0,x1]=[some x0,some x1,none,none,none]from rfl];obtain⟨ao,ns,ds,rfl,eo,hx',im,hl,h8,hin,q⟩:=h;o_head u_ hx' (λlt H1 us n1 S1 e1 t1=>?_);obtain⟨ax,xus,rfl,hsx,tx⟩:=b7.mp (hx'.by S1);have hxl:=tx.length;have nao:ao≠lt:=λz=>by subst z;rw[eo]at n1;cases n1
 have eo1:=S1 _ _ eo;o_head zxg (t:=false) (u:=true) (show cx false K H1 ao (ns.map V.int)from .of eo1) (show cx true K H1 ax xus from hsx) (by rw[wo,hxl,hl]) (λk σ H'=>∃o3 o4 us',σ = [some (.ref ao),some (.ref ax),some (.ref lt),o3,o4]/\Exc lt H1 H'/\H' lt=some (.lst us')/\av K H' us' (fb .none ns ds k)) ⟨_,_,us,rfl,Exc.refl _ _,e1,t1⟩ (λi σ H' _ ⟨_,_,_,_,E,_⟩=>⟨.of (E.at nao eo1),(E.keep e1).ji hsx⟩) ?_ ?_
 . rintro i x y σ H2 c H3 hx hy ⟨o3,o4,us',rfl,E2,e2,t2⟩ hc S3 e3
   have hi:i<ds.length:=by rw[<- hxl];exact kE hy
   have iy:Is K H1 y (ds.getD i .none):=by
     obtain⟨z,ez,iz⟩:=tx.get (show ds[i]? = some (ds.getD i .none) by rw[wa,wc hi];rfl);rw[hy]at ez;cases ez;exact iz
   have hin':i<ns.length:=by omega
   have hxv:x=.int (ns.getD i 0):=by
     rw[wu,wc hin']at hx;rw[wa,wc hin'];exact(w6 hx).symm
   subst hxv;have hr:=hin (ns.getD i 0) (GM.getD_mem hin');have hlu:us'.length=ds.length:=by rw[t2.length,zL]
   refine kD (.of e3) rfl ?_;o_head pS (j:=(ns.getD i 0).toNat) (S3 _ _ e2) (by rw[hlu];exact zCs hr.1 hr.2) (λH4 E4 e4=>?_);have k4:=E4.keep (S3 _ _ e2);o_head ⟨_,_,_,rfl,E2.trans (S3.exc.trans E4),e4,?_⟩;rw[fb];exact MW _ (av.keep (S3.keep.trans k4) _ _ (SX im i (by omega)) t2) (iy.fj ((E2.keep e1).trans (S3.keep.trans k4)) (R8 im hi))
 . rintro σ H2 ⟨o3,o4,us',rfl,E2,e2,t2⟩
   rw[wo,hl]at t2;o_head gY (cj.mpr ⟨lt,us',rfl,.of e2,t2⟩) (λv H3 S3 i3=>?_);exact q v H3 ((S1.grow n1 E2).trans S3) i3
def RK(K:wb)(H:Hp)(v:V)(n:Nat):Prop:=(∃d,Is K H v d/\gZ d=false)\/(∃ds,Is K H v (.list ds)/\ds.length<=60/\ds.all isInt=false)\/(∃ns,Is K H v (LZ ns)/\ns.length<=60 /\ ¬ ns.Perm (bD n))
theorem zqQ{K:wb}{H:Hp}{Q:VK}{E:XK}{v:V}{n:Nat}(h8:n<=8)(h:RK K H v n)(q:∀H',ag H H'->Q (.bl false) H'):pY K [v,.int (n:Int)] H Q E:=by
 rcases h with⟨d,i,e⟩ | ⟨ds,i,l,e⟩ | ⟨ns,i,l,e⟩
 ·exact YU h8 i e q
 ·exact zrv h8 i l e q
 ·exact LX h8 i l (by rw[decide_eq_false e];exact q)
theorem kA{ns:List Int}{n:Nat}(h:ns.Perm (bD n)):ns.length=n /\ ∀m∈ns,0<=m/\m<(n:Int):=by
 refine⟨by rw[h.length_eq];simp[bD],λm hm=>?_⟩;obtain⟨w,hw,rfl⟩:=wO.mp (h.mem_iff.mp hm);have:=wD.mp hw;omega
theorem Ng{α : Type}[DecidableEq α]:∀{l m:List α},l.Nodup->m.Nodup->(∀x,x∈l ↔ x∈m)->l.Perm m
 | [],m,_,_,h=>by
  have:m=[]:=List.eq_nil_iff_forall_not_mem.mpr λx hx=>Wx ((h x).mpr hx)
  rw[this]
 | x::l,m,hl,hm,h=>by
  have hx:=(h x).mp (wG ..);rw[WH]at hl;refine(Xd.cons x (Ng hl.2 (hm.erase x) λy=>?_)).trans (List.perm_cons_erase hx).symm;rw[List.Nodup.mem_erase_iff hm]
  constructor
  ·intro hy
   exact⟨λe=>hl.1 (by rw[<- e];exact hy),(h y).mp (wF _ hy)⟩
  ·rintro ⟨ne,hy⟩
   rcases wL.mp ((h y).mpr hy)with e | e
   ·exact absurd e ne
   ·exact e
theorem Kz{α : Type} : ∀{ys:List α},ys.Nodup->∀{i j:Nat}(hi:i<ys.length)(hj:j<ys.length),ys[i]=ys[j]->i=j
 | [],_,_,_,hi,_,_=>absurd hi (Qe _)
 | y::ys,h,0,0,_,_,_=>rfl
 | y::ys,h,0,j+1,hi,hj,e=>by
  rw[WH]at h;exact absurd (vt (Vm hj)) (by rw[xn,Vn]at e;rw[<- e];exact h.1)
 | y::ys,h,i+1,0,hi,hj,e=>by
  rw[WH]at h;exact absurd (vt (Vm hi)) (by rw[xn,Vn]at e;rw[e];exact h.1)
 | y::ys,h,i+1,j+1,hi,hj,e=>by
  rw[WH]at h;rw[Vn,Vn]at e;rw[Kz h.2 (Vm hi) (Vm hj) e]
theorem Oh{ns:List Int}(h:ns.Nodup){i:Nat}(hi:i<ns.length):ns.idxOf ns[i]=i:=by
 have hl:=WK.mpr (vt hi);exact Kz h hl hi (VX hl)
section
variable{ns:List Int}{α : Type}{d : α}{xs:List α}{n:Nat}
theorem PF(pm:ns.Perm (bD n)):ns.Nodup:=pm.nodup_iff.mpr (by
 unfold bD xH;rw[WN];exact qV.imp λ{x y} k=>by omega)
theorem rm(pm:ns.Perm (bD n)){w:Nat}(hw:w<n):(w:Int)∈ns:=pm.mem_iff.mpr (wO.mpr ⟨w,wD.mpr hw,rfl⟩)
theorem O0(pm:ns.Perm (bD n))(hx:xs.length=n){w:Nat}(hw:w<n):∀k,k<=n->(fb d ns xs k).getD w d=if ns.idxOf (w:Int)<k then xs.getD (ns.idxOf (w:Int)) d else xs.getD w d
 | 0,_=>by rw[if_neg (Qe _)];rfl
 | k+1,hk=>by
  obtain⟨hl,hin⟩:=kA pm;have hkl:k<ns.length:=by omega
  have nd:=PF pm;have hb:=hin ns[k] (vt hkl);have hg:ns.getD k 0=ns[k]:=by rw[wa,wc hkl];rfl
  show((fb d ns xs k).set (ns.getD k 0).toNat (xs.getD k d)).getD w d=_
  rw[hg,wa,W6,zL]
  by_cases e:ns[k].toNat=w
  ·have e':(w:Int)=ns[k]:=by omega
   rw[if_pos e,if_pos (by omega),e',Oh nd hkl,if_pos (Nat.lt_succ_self _)]
   rfl
  ·rw[if_neg e,<- wa,O0 pm hx hw k (by omega)]
   have ne:ns.idxOf (w:Int)≠k:=λz=>by
    have hi:=WK.mpr (rm pm hw);have:=VX hi;subst z;omega
   by_cases h:ns.idxOf (w:Int)<k
   ·rw[if_pos h,if_pos (by omega)]
   ·rw[if_neg h,if_neg (by omega)]
theorem sO(pm:ns.Perm (bD n))(hx:xs.length=n){w:Nat}(hw:w<n):(aY d ns xs).getD w d=xs.getD (ns.idxOf (w:Int)) d:=by
 unfold aY;rw[O0 pm hx hw _ (by omega),if_pos];have:=WK.mpr (rm pm hw);rw[(kA pm).1]at this;omega
theorem PH(pm:ns.Perm (bD n))(hx:xs.length=n):aY d ns xs=(wx n).map λ(w:Nat)=>xs.getD (ns.idxOf (w:Int)) d:=by
 refine Wg (by rw[lX,hx];simp) λi h1 h2=>?_
 have hi:i<n:=by rw[lX,hx]at h1;exact h1
 have:=sO (d:=d) pm hx hi;rw[wa,wc h1,qY]at this;rw[this,Ww,List.getElem_range]
end
theorem Y0{ns:List Int}{n a:Nat}(pm:ns.Perm (bD n))(ha:a<n):∃b:Nat,ns.getD a 0=(b:Int)/\b<n:=by
 obtain⟨hl,hin⟩:=kA pm;have hal:a<ns.length:=by omega
 have hb:=hin ns[a] (vt hal);refine⟨ns[a].toNat,?_,by omega⟩;rw[wa,wc hal]
 show ns[a]=_
 omega
def TX(K:wb)(a:Ad):Sp:=λvs H Q E=>∃x0 x1,vs=[x0,x1] /\ ∃(ra rb:Rat)(xs:List Rat),Is K H x0 (aZ ra rb xs)/\xs.length<=8/\((RK K H x1 xs.length /\ ∀H',ag H H'->E (.ref a.eD) none H')\/(∃(ao:we)(ns:List Int),x1=.ref ao/\H ao=some (.lst (ns.map V.int))/\ns.Perm (bD xs.length) /\ ∀v H',ag H H'->Is K H' v (aZ ra rb (aY 0 ns xs))->Q v H'))
theorem zqE{K:wb}{a:Ad}{H:Hp}{Q:VK}{E:XK}{v:V}{ao:we}{ra rb:Rat}{xs:List Rat}{ns:List Int}(h:Is K H v (aZ ra rb xs))(h8:xs.length<=8)(e:H ao=some (.lst (ns.map V.int)))(pm:ns.Perm (bD xs.length))(q:∀v H',ag H H'->Is K H' v (aZ ra rb (aY 0 ns xs))->Q v H'):TX K a [v,.ref ao] H Q E:=⟨_,_,rfl,ra,rb,xs,h,h8,.inr ⟨ao,ns,rfl,e,pm,q⟩⟩
theorem ZQ(T:Txt K mg a):aP P w K mg base (eT P w) 3 a.IH a.G8 z8 (TX K a):=by
 refine T.HA.F.m_ zrm ?_ ?_;wtm_at "b2"
 refine⟨_,(ak (bP (cA (cu (au (Zc T) hr T.HM (ae (pv 1) (ae (br (show aN _ (.builtin "len") (cF K)from dy) rfl T.z_len dA (ae (ay (pv 0)) af)) af))))) (az (BG T.U6 rfl rfl T.Ir Ce (ae dQ af))) bQ)
     (az (aF (bL (ae (ay (pv 0)) (ae (au (zwB T) hr T.I_ (ae (pv 1) (ae (ay (pv 0)) af))) af)))))),?_⟩
 wtm_at "cl";rw[show start BW [x0,x1]=[some x0,some x1]from rfl];obtain⟨ra,rb,xs,hw,h8,h⟩:=h;rcases h with⟨hn,qe⟩ | ⟨ao,ns,rfl,eo,pm,q⟩
 . k_few
   refine aC (j:=1) hw rfl (λv1 i1=>?_);o_head tY i1 ?_;o_head zqQ h8 hn (λH1 S1=>?_);k_few;exact⟨by simp;decide,qe H1 S1⟩
 . obtain⟨hl,hin⟩:=kA pm
   o_head aC (j:=1) hw rfl (λv1 i1=>?_);o_head tY i1 ?_;o_head LX h8 (mB eo) (by omega) (λH1 S1=>?_);rw[decide_eq_true pm];o_head aC (j:=0) (hw.by S1) rfl (λv2 i2=>?_);o_head aC (j:=1) (hw.by S1) rfl (λv3 i3=>?_);o_head zwq (ds:=xs.map N) (S1 _ _ eo) i3 (eO xs) (by rw[wo];exact hl) (by rw[wo];exact h8) (by rw[wo];exact hin) (λv4 H4 S4 i4=>?_);rw[<- YT N 0]at i4;o_head cy (ds:=[R ra rb,TN (aY 0 ns xs)]) (by simp) (.cons (i2.by S4) (.cons i4 .nil)) (λv5 H5 S5 i5=>?_);exact q v5 H5 (S1.trans (S4.trans S5)) i5
def yr(K:wb):Sp:=λvs H Q _=>∃x0,vs=[x0]/\((∃d,Is K H x0 d/\bV d=false/\Q (.bl false) H)\/(∃x:Rat,Is K H x0 (N x)/\ah 4000 x/\Q (.bl (kg x)) H))
theorem zra{K:wb}{H:Hp}{Q:VK}{E:XK}{d:wB}{v:V}(h:Is K H v d)(n:bV d=false)(q:Q (.bl false) H):yr K [v] H Q E:=⟨_,rfl,.inl ⟨d,h,n,q⟩⟩
theorem zrI{K:wb}{H:Hp}{Q:VK}{E:XK}{x:Rat}{v:V}(h:Is K H v (N x))(b:ah 4000 x)(q:Q (.bl (kg x)) H):yr K [v] H Q E:=⟨_,rfl,.inr ⟨x,h,b,q⟩⟩
theorem zsW(T:Txt K mg a):aP P w K mg base aS 3 a.Jb a.Hu A3 (yr K):=by
 refine T.Ih.F.ok zsq ?_ ?_;wtm_at "b1"
 refine⟨_,(ak (bP (PW.pt (ff (cA (cu (au (pJ T) hr T.mF (ae (pv 0) af)))) (fO (cu (au (gQ T) hr T.gc (ae (pv 0) (ae (bS (v:=.ref a.cZ) rfl T.dS rfl) af))))))) (az (aF d8)) bQ)
     (az (aF (fB (au (gQ T) hr T.gc (ae (pv 0) (ae (bS (v:=.ref a.d4) rfl T.fk rfl) af))) (gS (fg lZ (ay (pv 0)) (lF rfl T.US) (bA _))))))),?_⟩
 wtm_at "cl";rw[show start BR [x0]=[some x0]from rfl];rcases h with⟨d,hd,hn,q⟩ | ⟨x,hx,bx,q⟩
 . k_few
   . exact q
   . rename_i e;rw[hn]at e;cases e
 . unfold kg at q
   k_few
   . rename_i z;rw[oS]at z;cases z
   . rename_i h1
     rw[decide_eq_true h1]at q;exact q
   . rename_i h1 h2
     rw[decide_eq_false h1,decide_eq_true h2]at q;exact q
   . rename_i h1 h2
     rw[decide_eq_false h1,decide_eq_false h2]at q;exact q
def fS:wB->Bool
 | .tuple [.int p,.int q]=>hW p q&&kg (wH p q)
 | _=>false
theorem ON(x:Rat):fS (N x)=kg x:=by
 show(hW x.num x.den&&kg (wH x.num x.den))=kg x
 rw[SQ,Qw,Vy]
theorem ztQ{d:wB}(h:bV d=true):∃x:Rat,d=N x:=by
 match d with
 | .tuple [.int p,.int q] =>
  obtain⟨r,e1,e2⟩:=zq0 (show hW p q=true from h);exact⟨r,by rw[e1,e2];rfl⟩
 | .none=>simp[bV]at h
 | .bool _=>simp[bV]at h
 | .int _=>simp[bV]at h
 | .str _=>simp[bV]at h
 | .list _=>simp[bV]at h
 | .dict _=>simp[bV]at h
 | .tuple []=>simp[bV]at h
 | .tuple [_]=>simp[bV]at h
 | .tuple (_::_::_::_)=>simp[bV]at h
 | .tuple [.none,_]=>simp[bV]at h
 | .tuple [.bool _,_]=>simp[bV]at h
 | .tuple [.str _,_]=>simp[bV]at h
 | .tuple [.tuple _,_]=>simp[bV]at h
 | .tuple [.list _,_]=>simp[bV]at h
 | .tuple [.dict _,_]=>simp[bV]at h
 | .tuple [.int _,.none]=>simp[bV]at h
 | .tuple [.int _,.bool _]=>simp[bV]at h
 | .tuple [.int _,.str _]=>simp[bV]at h
 | .tuple [.int _,.tuple _]=>simp[bV]at h
 | .tuple [.int _,.list _]=>simp[bV]at h
 | .tuple [.int _,.dict _]=>simp[bV]at h
theorem zAK{d:wB}(h:bV d=false):fS d=false:=by
 unfold fS
 split
 ·rename_i p q
  rw[show hW p q=false from h];rfl
 ·rfl
theorem R_{K:wb}{H:Hp}{Q:VK}{E:XK}{d:wB}{v:V}(h:Is K H v d)(b:∀x,d=N x->ah 4000 x)(q:Q (.bl (fS d)) H):yr K [v] H Q E:=by
 cases e:bV d with
 | false=>rw[zAK e]at q;exact zra h e q
 | true =>
  obtain⟨x,rfl⟩:=ztQ e;rw[ON]at q;exact zrI h (b x rfl) q
def Pm(K:wb):Sp:=λvs H Q _=>∃x0,vs=[x0]/\((∃d,Is K H x0 d/\(gZ d || jc d)=false /\ ∀H',ag H H'->Q (.bl false) H')\/(∃ds,(Is K H x0 (.list ds)\/Is K H x0 (.tuple ds))/\(∀e∈ds,∀x,e=N x->ah 4000 x) /\ ∀H',ag H H'->Q (.bl (decide (1<=ds.length)&&decide (ds.length<=8)&&ds.all fS)) H'))
theorem zo0{K:wb}{H:Hp}{Q:VK}{E:XK}{ds:List wB}{v:V}(h:Is K H v (.list ds)\/Is K H v (.tuple ds))(b:∀e∈ds,∀x,e=N x->ah 4000 x)(q:∀H',ag H H'->Q (.bl (decide (1<=ds.length)&&decide (ds.length<=8)&&ds.all fS)) H'):Pm K [v] H Q E:=⟨_,rfl,.inr ⟨ds,h,b,q⟩⟩
theorem YG(T:Txt K mg a):aP P w K mg base aS 4 a.H_ a.GL z_ (Pm K):=by
 refine T.He.F.ok zoS ?_ ?_;wtm_at "b1"
 refine⟨_,(ak (bP (PW.pt (ff (cA (cu (br (show aN _ (.builtin "isinstance") (FA K)from zuc) rfl T.z_isinstance eC (ae (pv 0) (ae (bL (ae (hJ (v:=.ty "list") rfl T.z_list j5 rfl) (ae (hJ (v:=.ty "tuple") rfl T.z_tuple dk rfl) af))) af))))) (fO (cA (zxF lZ lZ aD (br (show aN _ (.builtin "len") (cF K)from dy) rfl T.z_len dA (ae (pv 0) af)) (lF rfl T.UT)))))) (az (aF d8)) bQ)
     (az (aF (br (show aN _ (.builtin "all") (j4 K)from mi rfl) rfl T.z_all l9 (ae (eh rfl (cv.by (N':=["one"]) (src:=[none]) rfl (show cN _ (aA yM).names z9 ["one"] [none]=true from by decide +kernel)) (K_ (pv 0)) (λ_ _ _ _ _=>(bM (i:=0) (show(["one"]:List Str).Nodup from by decide) rfl (Or.inl rfl))) (λ_ _ _ _ _=>du) (λ_ _ _ _ _=>(au (zsW (K:=K) (mg:=mg) (a:=a) T) hr T.Ih (ae (pv 0) af)))) af))))),?_⟩
 wtm_at "cl";rw[show start z9 [x0]=[some x0]from rfl];rcases h with⟨d,hd,hn,q⟩ | ⟨ds,hd,bd,q⟩
 . k_few
   refine o_ (by simp) (λtp H1 _ S1 e1=>?_);o_head BQ (hd.by S1) e1 ?_;rw[hn];k_few;exact q H1 S1
 . rcases hd with hd | hd
   . k_few
     refine o_ (by simp) (λtp H1 _ S1 e1=>?_);o_head BQ (hd.by S1) e1 ?_;rw[show(gZ (.list ds) || jc (.list ds))=true from rfl];obtain⟨ap,us,rfl,hs,tu⟩:=cj.mp (hd.by S1);have hul:=tu.length;o_head iB hs ?_;rw[hul];k_few
     . rename_i z0 z
       have:=q H1 S1;rw[decide_eq_false (show ¬ ds.length<=8 by omega),uw,WA]at this;exact this
     . rename_i z0 z
       have h1:1<=ds.length:=by omega
       have h8:ds.length<=8:=by omega
       refine .inl (jT (o0:=none) (tl:=[]) hs rfl (λj y H'=>y=.bl (fS (ds.getD j .none))) ?_ ?_)
       . intro D i x ys o H2 hx inv
         obtain⟨hi,ix⟩:=gG tu hx;o_head R_ (ix.by inv.same) (λx e=>bd _ (getD_mem hi) x e) ?_;k_few;exact dR inv (by omega) (λ_ _ _ _ _ z=>z) ⟨_,rfl⟩ (ag.refl _) rfl
       . intro D ys H2 hn S2 hD hl hr
         have hys:ys=(ds.map fS).map V.bl:=by
           refine Wg (by rw[hl,hul,wo,wo]) λj h1 h2=>?_
           have:=hr j ys[j] (wc h1);rw[this,Ww,Ww,wa,wc]
           rfl
         subst hys;o_head kq (.of hD) ?_;k_few;have e:(ds.map fS).all id=ds.all fS:=by rw[qF];rfl
         have:=q H2 (S1.trans S2);rw[decide_eq_true h1,decide_eq_true h8,<- e]at this;exact this
     . rename_i z
       have:=q H1 S1;rw[decide_eq_false (show ¬ 1<=ds.length by omega),WA,WA]at this;exact this
   . k_few
     refine o_ (by simp) (λtp H1 _ S1 e1=>?_);o_head BQ (hd.by S1) e1 ?_;rw[show(gZ (.tuple ds) || jc (.tuple ds))=true from rfl];obtain⟨ap,us,rfl,hs,tu⟩:=b7.mp (hd.by S1);have hul:=tu.length;o_head N6 hs ?_;rw[hul];k_few
     . rename_i z0 z
       have:=q H1 S1;rw[decide_eq_false (show ¬ ds.length<=8 by omega),uw,WA]at this;exact this
     . rename_i z0 z
       have h1:1<=ds.length:=by omega
       have h8:ds.length<=8:=by omega
       refine .inr (iD (o0:=none) (tl:=[]) hs rfl (λj y H'=>y=.bl (fS (ds.getD j .none))) ?_ ?_)
       . intro D i x ys o H2 hx inv
         obtain⟨hi,ix⟩:=gG tu hx;o_head R_ (ix.by inv.same) (λx e=>bd _ (getD_mem hi) x e) ?_;k_few;exact dR inv (by omega) (λ_ _ _ _ _ z=>z) ⟨_,rfl⟩ (ag.refl _) rfl
       . intro D ys H2 hn S2 hD hl hr
         have hys:ys=(ds.map fS).map V.bl:=by
           refine Wg (by rw[hl,hul,wo,wo]) λj h1 h2=>?_
           have:=hr j ys[j] (wc h1);rw[this,Ww,Ww,wa,wc]
           rfl
         subst hys;o_head kq (.of hD) ?_;k_few;have e:(ds.map fS).all id=ds.all fS:=by rw[qF];rfl
         have:=q H2 (S1.trans S2);rw[decide_eq_true h1,decide_eq_true h8,<- e]at this;exact this
     . rename_i z
       have:=q H1 S1;rw[decide_eq_false (show ¬ 1<=ds.length by omega),WA,WA]at this;exact this
theorem Y5{a b:Rat}(h:aX a b):lV a b=true:=by
 obtain⟨h1,h2,h3,h4,h5,h6,h7⟩:=h;have k2:¬ (4:Rat)<a:=VW.mpr h2;have k4:¬ b<0:=VW.mpr h4;have k5:¬ (1:Rat)<b:=VW.mpr h5;have k7:¬ a+b<1:=VW.mpr h7;have k3:(a.den:Int)<=8:=by omega
 have k6:(b.den:Int)<=12:=by omega
 simp[lV,pA,pk,h1,k2,k3,k4,k5,k6,k7]
theorem Z_{xs:List Rat}(h:∀x∈xs,fF x):(xs.map N).all fS=true:=by
 rw[WE];intro d hd;obtain⟨x,hx,rfl⟩:=wO.mp hd;rw[ON];exact(h x hx).is
theorem zA4{xs:List Rat}(h:∀x∈xs,fF x):∀e∈xs.map N,∀x,e=N x->ah 4000 x:=by
 intro e he x hx;obtain⟨y,hy,rfl⟩:=wO.mp he;rw[<- zDO hx];exact(h y hy).eQ.mono (by decide)
def LU(K:wb):Sp:=λvs H Q _=>∃x0 x1,vs=[x0,x1] /\ ∃(a b:Rat)(xs:List Rat),Is K H x0 (R a b)/\aX a b/\(Is K H x1 (LN xs)\/Is K H x1 (TN xs))/\1<=xs.length/\xs.length<=8/\(∀x∈xs,fF x) /\ ∀v H',ag H H'->Is K H' v (aZ a b xs)->Q v H'
theorem zsR{K:wb}{H:Hp}{Q:VK}{E:XK}{a b:Rat}{xs:List Rat}{v w:V}(h1:Is K H v (R a b))(ok:aX a b)(h2:Is K H w (LN xs)\/Is K H w (TN xs))(h3:1<=xs.length)(h4:xs.length<=8)(h5:∀x∈xs,fF x)(q:∀v H',ag H H'->Is K H' v (aZ a b xs)->Q v H'):LU K [v,w] H Q E:=⟨_,_,rfl,a,b,xs,h1,ok,h2,h3,h4,h5,q⟩
theorem zsa(T:Txt K mg a):aP P w K mg base aS 5 a.Jc a.HF As (LU K):=by
 refine T.HU.F.ok YH ?_ ?_;wtm_at "b2"
 refine⟨_,(ak (bP (cA (cu (au (ztO T) hr T.Ip (ae (pv 0) af)))) (az De) bQ)
     (ak (bP (cA (cu (au (YG T) hr T.He (ae (pv 1) af)))) (az De) bQ)
     (az (aF (bL (ae (pv 0) (ae (dg (show aN _ (.type "tuple") (dJ K)from eP) rfl T.z_tuple dk (ae (pv 1) af)) af))))))),?_⟩
 wtm_at "cl";rw[show start C0 [x0,x1]=[some x0,some x1]from rfl];obtain⟨ra,rb,xs,hr,ok,hp,h1,h8,hph,q⟩:=h;o_head zt8 hr (ok.ba.mono (by decide)) (ok.bb.mono (by decide)) (λH1 S1=>?_);rw[Y5 ok];k_few;have hp1:Is K H1 x1 (LN xs)\/Is K H1 x1 (TN xs):=hp.imp (λz=>z.by S1) (λz=>z.by S1);refine zo0 (ds:=xs.map N) hp1 (zA4 hph) (λH2 S2=>?_);rw[Z_ hph,wo,decide_eq_true h1,decide_eq_true h8,show(true&&true&&true)=true from rfl];have hp2:Is K H2 x1 (LN xs)\/Is K H2 x1 (TN xs):=hp1.imp (λz=>z.by S2) (λz=>z.by S2);have hr2:Is K H2 x0 (R ra rb):=(hr.by S1).by S2;k_few;rcases hp2 with z | z
 . refine gY z (λw H3 S3 i3=>?_)
   o_head cy (ds:=[R ra rb,TN xs]) (by simp) (.cons (hr2.by S3) (.cons i3 .nil)) (λv H4 S4 i4=>?_);exact q v H4 (S1.trans (S2.trans (S3.trans S4))) i4
 . refine Ks z ?_
   o_head cy (ds:=[R ra rb,TN xs]) (by simp) (.cons hr2 (.cons z .nil)) (λv H4 S4 i4=>?_);exact q v H4 (S1.trans (S2.trans S4)) i4
def LO(K:wb):Sp:=λvs H Q _=>∃x0,vs=[x0] /\ ∃xs:List Rat,(Is K H x0 (LN xs)\/Is K H x0 (TN xs))/\1<=xs.length/\(∀i,ah 4000 (xs.getD i 0)) /\ ∀v,Is K H v (N (b_ xs))->Q v H
theorem OZ{K:wb}{H:Hp}{Q:VK}{E:XK}{xs:List Rat}{v:V}(h:Is K H v (LN xs)\/Is K H v (TN xs))(h1:1<=xs.length)(b:∀i,ah 4000 (xs.getD i 0))(q:∀v,Is K H v (N (b_ xs))->Q v H):LO K [v] H Q E:=⟨_,rfl,xs,h,h1,b,q⟩
theorem Nl(T:Txt K mg a):aP P w K mg base aS 2 a.Ja a.Hj tZ (LO K):=by
 refine T.Bn.F.ok sI ?_ ?_;wtm_at "b1"
 refine⟨_,(ak (aB 1 sI.nd (ay (pv 0)))
     (ak (gA vD rfl (K_ (pv 0)) (bM (i:=2) sI.nd rfl (Or.inl rfl)) (az (bP (cu (au (gQ T) hr T.gc (ae (pv 1) (ae (pv 2) af)))) (az (aB 1 sI.nd (pv 2))) bQ)))
     (az (aF (pv 1))))),?_⟩
 wtm_at "cl";rw[show start Ti [x0]=[some x0,none,none]from rfl];obtain⟨xs,hx,h1,bx,q⟩:=h;rcases hx with hx | hx
 . obtain⟨ap,us,rfl,hs,tu⟩:=cj.mp hx
   have hul:us.length=xs.length:=by rw[tu.length,wo]
   o_head kI hx (by decide) (by omega) (λv0 i0=>?_);have i0:Is K H v0 (N (mx (xs.getD 0 0) [])):=i0;o_head .inl (FR hs (λi σ H'=>∃o v,σ = [some (.ref ap),some v,o]/\H'=H/\Is K H v (N (mx (xs.getD 0 0) (xs.take i)))) ⟨_,v0,rfl,rfl,by rw[uz];exact i0⟩ (λi σ H' _ h=>by obtain⟨_,_,_,rfl,_⟩:=h;exact hs) ?_ ?_)
   . rintro i x σ H' hx' ⟨o,v,rfl,rfl,iv⟩
     obtain⟨hi,ix⟩:=d_ tu hx';have b1:=LR bx h1 i;have b2:=bx i;k_few
     . rename_i z
       exact⟨_,x,rfl,rfl,by rw[mR hi,zu,if_pos z];exact ix⟩
     . rename_i z
       exact⟨_,v,rfl,rfl,by rw[mR hi,zu,if_neg z];exact iv⟩
   . rintro σ H' ⟨o,v,rfl,rfl,iv⟩
     rw[hul,Wv]at iv;k_few;exact q v iv
 . obtain⟨ap,us,rfl,hs,tu⟩:=b7.mp hx
   have hul:us.length=xs.length:=by rw[tu.length,wo]
   o_head KW hx (by decide) (by omega) (λv0 i0=>?_);have i0:Is K H v0 (N (mx (xs.getD 0 0) [])):=i0;o_head .inr (Zk hs (λi σ H'=>∃o v,σ = [some (.ref ap),some v,o]/\H'=H/\Is K H v (N (mx (xs.getD 0 0) (xs.take i)))) ⟨_,v0,rfl,rfl,by rw[uz];exact i0⟩ (λi σ H' _ h=>by obtain⟨_,_,_,rfl,_⟩:=h;exact hs) ?_ ?_)
   . rintro i x σ H' hx' ⟨o,v,rfl,rfl,iv⟩
     obtain⟨hi,ix⟩:=d_ tu hx';have b1:=LR bx h1 i;have b2:=bx i;k_few
     . rename_i z
       exact⟨_,x,rfl,rfl,by rw[mR hi,zu,if_pos z];exact ix⟩
     . rename_i z
       exact⟨_,v,rfl,rfl,by rw[mR hi,zu,if_neg z];exact iv⟩
   . rintro σ H' ⟨o,v,rfl,rfl,iv⟩
     rw[hul,Wv]at iv;k_few;exact q v iv
def Ud(K:wb):Sp:=λvs H Q _=>∃x0 x1,vs=[x0,x1] /\ ∃(xs:List Rat)(v:Rat),Is K H x0 (TN xs)/\Is K H x1 (N v)/\xs.length<=900 /\ ∀u H',ag H H'->Is K H' u (TW (d9 xs v))->Q u H'
theorem zrR{K:wb}{H:Hp}{Q:VK}{E:XK}{xs:List Rat}{v:Rat}{w u:V}(h1:Is K H w (TN xs))(h2:Is K H u (N v))(hl:xs.length<=900)(q:∀u H',ag H H'->Is K H' u (TW (d9 xs v))->Q u H'):Ud K [w,u] H Q E:=⟨_,_,rfl,xs,v,h1,h2,hl,q⟩
theorem zr7(T:Txt K mg a):aP P w K mg base aS 1 a.Ji a.Ho u5 (Ud K):=by
 refine T.HZ.F.ok zsO ?_ ?_;wtm_at "b2";refine⟨_,(az (aF (dg (show aN _ (.type "tuple") (dJ K)from eP) rfl T.z_tuple dk (ae (eh rfl (cv.by (N':=["worm","own","phase"]) (src:=[none,none,some 1]) rfl (show cN _ (aA Af).names AA ["worm","own","phase"] [none,none,some 1]=true from by decide +kernel)) (T1 rfl T.z_enumerate (ae (pv 0) af)) (λ_ _ _ _ _=>by exact(show PG _ _ (iY K 2 _)from j3 (n:=2) rfl (d5 (bM (i:=0) (show(["worm","own","phase"]:List Str).Nodup from by decide) rfl (Or.inl rfl)) (d5 (bM (i:=1) (show(["worm","own","phase"]:List Str).Nodup from by decide) rfl (Or.inl rfl)) jF)))) (λ_ _ _ _ _=>(pT (bY (show aJ _ (wN .Eq) (cH K)from dj hu) (pv 1) (pv 2) (bA _)))) (λ_ _ _ _ _=>(pv 0))) af)))),?_⟩;wtm_at "cl";rw[show start AA [x0,x1]=[some x0,some x1]from rfl];obtain⟨xs,v,hx,hv,hl,q⟩:=h;obtain⟨ap,us,rfl,hu',tu⟩:=b7.mp hx;have hul:us.length=xs.length:=by rw[tu.length,wo]
 o_head zrX hu' (λD i ys σ' H'=>(∃o1 o2,σ'=[o1,o2,some x1])/\H D=none/\ag H H'/\H' D=some (.lst (vz ((wx i).filter λw=>decide (xs.getD w 0=v))))) (λD H' n s e=>⟨⟨_,_,rfl⟩,n,s,e⟩) (λD i ys σ' H' h=>h.2.2.1.ji hu') ?_ ?_
 ·rintro D i x ys σ' H1 c H2 hx' ⟨⟨o1,o2,rfl⟩,n,S1,e1⟩ hc S2 e2
  obtain⟨hi,ix⟩:=d_ tu hx';have T2:=S1.trans S2;have ix2:=ix.by T2;have hv2:=hv.by T2;have e12:=S2 _ _ e1
  have hfl:((wx i).filter λw=>decide (xs.getD w 0=v)).length<=i:=by
   have:=WB (λw=>decide (xs.getD w 0=v)) (wx i);rw[vB]at this;exact this
  refine kD (.of e2) rfl ?_;k_few
  ·rename_i z
   refine kF e12 (by rw[kb];omega) (λH6 E6 e6=>⟨⟨_,_,rfl⟩,n,T2.grow n E6,?_⟩);rw[Lc (n:=i),decide_eq_true z,if_pos rfl,CA];exact e6
  ·rename_i z
   refine⟨[],⟨_,_,rfl⟩,n,T2,?_⟩;rw[Lc (n:=i),decide_eq_false z,if_neg (by decide),Wc];exact e12
 ·rintro D ys σ' H1 ⟨_,n,S1,e1⟩
  rw[hul]at e1;o_head nT (.of e1) (λl H2 n2 S2 e3=>?_);exact q _ H2 (S1.trans S2) (CO.mpr ⟨l,rfl,.of e3⟩)
def L6(K:wb):Sp:=λvs H Q _=>∃x0,vs=[x0] /\ ∃(a b:Rat)(xs:List Rat),Is K H x0 (aZ a b xs)/\xs.length<=8/\(∀i,ah 4000 (xs.getD i 0)) /\ ∀l H' us,H l=none->ag H H'->H' l=some (.lst us)->av K H' us ((aj xs).map (gq xs))->Q (.ref l) H'
theorem rA{K:wb}{H:Hp}{Q:VK}{E:XK}{a b:Rat}{xs:List Rat}{v:V}(h:Is K H v (aZ a b xs))(h8:xs.length<=8)(bx:∀i,ah 4000 (xs.getD i 0))(q:∀l H' us,H l=none->ag H H'->H' l=some (.lst us)->av K H' us ((aj xs).map (gq xs))->Q (.ref l) H'):L6 K [v] H Q E:=⟨_,rfl,a,b,xs,h,h8,bx,q⟩
theorem zuw{m:Nat}{xs:List Rat}(b:∀i,ah m (xs.getD i 0)){x:Rat}(h:x∈xs):ah m x:=by
 obtain⟨j,hj,rfl⟩:=vg h;have:=b j;rw[wa,wc hj]at this;exact this
theorem zwG{α β : Type}(f : α -> β)(l:List α):(!(l.map f).isEmpty) = !l.isEmpty:=by cases l<;>rfl
theorem rC(T:Txt K mg a):aP P w K mg base aS 3 a.JF a.ID zH (L6 K):=by
 refine T.mI.F.ok oR ?_ ?_;wtm_at "b1"
 refine⟨_,(ak (aB 1 oR.nd (dG af))
     (ak (aB 2 oR.nd (dg (show aN _ (.type "list") (k9 K)from pD) rfl T.z_list j5 (ae (ay (pv 0)) af)))
     (ak (mf vD (tN (pv 2)) (ak (aB 3 oR.nd (au (Nl T) hr T.Bn (ae (pv 2) af)))
     (ak (kj (jz vU Wa Wb jH (pv 1) (ae (bL (ae (pv 3) (ae (au (zr7 T) hr T.HZ (ae (ay (pv 0)) (ae (pv 3) af))) af))) af)))
     (az (kz (i:=2) oR.nd rfl (Or.inl rfl) rfl (cv.by (N':=["other","phase"]) (src:=[none,some 3]) rfl (show cN _ (aA Au).names FK ["other","phase"] [none,some 3]=true from by decide +kernel)) (gO (pv 2)) (λ_ _ _ _ _=>(bM (i:=0) (show(["other","phase"]:List Str).Nodup from by decide) rfl (Or.inl rfl))) (λ_ _ _ _ _=>(pT (bY (show aJ _ (wN .NotEq) (df K)from fh hu) (pv 0) (pv 1) (bA _)))) (λ_ _ _ _ _=>(pv 0)))))))
     (az (aF (pv 1)))))),?_⟩
 wtm_at "cl";rw[show start FK [x0]=[some x0,none,none,none]from rfl];obtain⟨ra,rb,xs,hw,h8,bx,q⟩:=h;o_head fW (by simp) (λlt H1 n1 S1 e1=>?_);o_head aC (j:=1) (hw.by S1) rfl (λvp ip=>?_);o_head u_ ip (λll H2 us n2 S2 e2 t2=>?_);have nlt:ll≠lt:=λz=>by subst z;rw[e1]at n2;cases n2
 o_head oY (λm σ' H'=>∃(ll:we)(left done:List Rat)(us ws:List V)(f:Nat)(o3:Option V),σ'=[some x0,some (.ref lt),some (.ref ll),o3]/\m=left.length/\ag H H'/\ll≠lt/\H' lt=some (.lst ws)/\av K H' ws (done.map (gq xs))/\H' ll=some (.lst us)/\av K H' us (left.map N)/\(∀y∈left,y∈xs)/\left.length<=f/\done.length+left.length<=xs.length/\done++iU f left=aj xs) _ ⟨ll,xs,[],us,[],xs.length,_,rfl,rfl,S1.trans S2,nlt,S2 _ _ e1,.nil,e2,t2,λy h=>h,wq _,by simp,rfl⟩ ?_;rintro m σ' H3 ⟨ll,left,done,us,ws,f,o3,rfl,rfl,S3,nl,et,tt',el,tl',sub,hf,hdl,heq⟩;o_head FC (dE el tl') ?_;rw[zwG]
 by_cases he:left=[]
 . rw[show(!left.isEmpty)=false by rw[he];rfl]
   refine lC ?_;rw[he,B2,Wc]at heq;rw[heq]at tt';k_few;exact q lt H3 ws n1 S3 et tt'
 . rw [show (!left.isEmpty) = true by cases left with
       | nil=>exact absurd rfl he
       | cons y l=>rfl]
   refine lW ?_;refine oZ ?_;have hpos:=VR.mpr he
   have bl:∀i,ah 4000 (left.getD i 0):=λi=>by
     rcases wJ i left.length with z | z
     . exact zuw bx (sub _ (getD_mem z))
     . rw[wa,wP z];exact ah.zero.mono (by decide)
   obtain⟨f',rfl⟩:∃f',f=f'+1:=⟨f-1,by omega⟩;rw[nY he]at heq;have hless:=Nv he;have hwl:=tt'.length;rw[wo]at hwl;o_head OZ (.inl (dE el tl')) hpos bl (λvm im=>?_);o_head ig (aO.of et) ?_;o_head aC (j:=1) (hw.by S3) rfl (λvq iq=>?_);o_head zrR iq im (by omega) (λv4 H4 S4 i4=>?_);o_head cy (ds:=[N (b_ left),TW (d9 xs (b_ left))]) (by simp) (.cons (im.by S4) (.cons i4 .nil)) (λv5 H5 S5 i5=>?_);k_few;have T5:=S4.trans S5;refine iS (T5 _ _ et) (by omega) (λH6 E6 e6=>?_);have K6:=E6.keep (T5 _ _ et);have el6:=E6 _ _ nl (T5 _ _ el);have tl6:av K H6 us (left.map N):=av.keep (T5.keep.trans K6) _ _ (eO _) tl'
   have tt6:av K H6 (ws++[v5]) ((done++[b_ left]).map (gq xs)):=by
     rw[vK];exact(av.keep (T5.keep.trans K6) _ _ (zxm ..) tt').snoc (i5.fj K6 (Ag ..))
   have im6:=(im.by T5).gT K6;have S6:ag H H6:=(S3.trans T5).grow n1 E6;generalize hmx:b_ left=mxx at *;o_head mL (.of el6) (λD i ys σ' H'=>(∃o,σ'=[o,some vm])/\H6 D=none/\ag H6 H'/\H' D=some (.lst ys)/\av K H' ys (((left.take i).filter λy=>!decide (y=mxx)).map N)) (λD H' n s e=>⟨⟨_,rfl⟩,n,s,e,.nil⟩) (λD i ys σ' H' h=>h.2.2.1.seq (.of el6)) ?_ ?_
   . rintro D i x ys σ' H7 hx ⟨⟨o,rfl⟩,n7,S7,e7,t7⟩
     obtain⟨hi,ix⟩:=d_ tl6 hx;have ix7:=ix.by S7;have im7:=im6.by S7;have hyl:=t7.length;rw[wo]at hyl;have hfl:=WB (λy=>!decide (y=mxx)) (left.take i);rw[WD]at hfl;k_few
     . rename_i z
       refine kF e7 (by omega) (λH8 E8 e8=>⟨⟨_,rfl⟩,n7,S7.grow n7 E8,e8,?_⟩);have K8:=E8.keep e7;rw[mR hi,W1,WI,decide_eq_false z,vK];exact(av.keep K8 _ _ (eO _) t7).append (.cons (ix7.gT K8) .nil)
     . rename_i z
       refine⟨ys,⟨_,rfl⟩,n7,S7,e7,?_⟩;rw[mR hi,W1,WI,decide_eq_true (by first | exact z | exact V6.mp z)];have:([]:List Rat).filter (λy=>!decide (y=mxx))=[]:=rfl
       simpa using t7
   . rintro D ys σ' H7 ⟨_,n7,S7,e7,t7⟩
     have hul:=tl6.length;rw[wo]at hul;rw[hul,Wv]at t7;k_few;exact⟨(left.filter λy=>!decide (y=mxx)).length,by omega,D,_,done++[mxx],ys,ws++[v5],f',_,rfl,rfl,S6.trans S7,(λz=>by subst z;rw[e6]at n7;cases n7),S7 _ _ e6,av.same S7 _ _ tt6,e7,t7,λy hy=>sub y (vd.mp hy).1,by omega,by rw[wX];simp only[vT];omega,by rw[V5];exact heq⟩
def MZ(K:wb):Sp:=λvs H Q _=>∃x0 x1,vs=[x0,x1] /\ ∃(lw:we)(left:List Nat)(ps:List Rat),x0=.ref lw/\H lw=some (.lst (vz left))/\Is K H x1 (LN ps)/\(∀w∈left,w<ps.length)/\left.length<=900/\(∀i,ah 4000 (ps.getD i 0)) /\ ∀v H',ag H H'->Is K H' v (TW (aE ps left))->Q v H'
theorem My{K:wb}{H:Hp}{Q:VK}{E:XK}{lw:we}{left:List Nat}{ps:List Rat}{v:V}(e:H lw=some (.lst (vz left)))(h:Is K H v (LN ps))(hw:∀w∈left,w<ps.length)(hl:left.length<=900)(b:∀i,ah 4000 (ps.getD i 0))(q:∀v H',ag H H'->Is K H' v (TW (aE ps left))->Q v H'):MZ K [.ref lw,v] H Q E:=⟨_,_,rfl,lw,left,ps,rfl,e,h,hw,hl,b,q⟩
theorem zxe(ps:List Rat)(l:List Nat):(aE ps l).length<=l.length:=WB _ _
theorem Nc(T:Txt K mg a):aP P w K mg base aS 2 a.HL a.GN zh (MZ K):=by
 refine T.Bh.F.ok zoQ ?_ ?_;wtm_at "b2";refine⟨_,(az (aF (dg (show aN _ (.type "tuple") (dJ K)from eP) rfl T.z_tuple dk (ae (eh rfl (cv.by (N':=["worm","phases"]) (src:=[none,some 1]) rfl (show cN _ (aA u6).names zw ["worm","phases"] [none,some 1]=true from by decide +kernel)) (gO (pv 0)) (λ_ _ _ _ _=>(bM (i:=0) (show(["worm","phases"]:List Str).Nodup from by decide) rfl (Or.inl rfl))) (λ_ _ _ _ _=>(pT (cA (cu (au (gQ (K:=K) (mg:=mg) (a:=a) T) hr T.gc (ae (dr (show gf _ (c6 K)from cX) (pv 1) (pv 0) (λ_ _=>rfl)) (ae (bS (v:=.ref a.d4) rfl T.fk rfl) af))))))) (λ_ _ _ _ _=>(pv 0))) af)))),?_⟩;wtm_at "cl";rw[show start zw [x0,x1]=[some x0,some x1]from rfl];obtain⟨lw,left,ps,rfl,e1,hx,hw,hl,bp,q⟩:=h;o_head mL (.of e1) (λD i ys σ' H'=>(∃o,σ'=[o,some x1])/\H D=none/\ag H H'/\H' D=some (.lst (vz (aE ps (left.take i))))) (λD H' n s e=>⟨⟨_,rfl⟩,n,s,e⟩) (λD i ys σ' H' h=>h.2.2.1.seq (.of e1)) ?_ ?_
 ·rintro D i x ys σ' H1 hx' ⟨⟨o,rfl⟩,n,S1,e2⟩
  obtain⟨hi,rfl⟩:=DV hx';have hx1:=hx.by S1;have hlt:=hw _ (vt hi);have bw:=bp left[i];have hle:=zxe ps (left.take i);have htl:(left.take i).length<=900:=by rw[WD];omega
  o_head kI hx1 (by omega) (by omega) (λv iv=>?_);rw[wU]at iv;generalize hww:left[i]=ww at *;k_few
  ·rename_i z
   refine kF e2 (by rw[kb];omega) (λH6 E6 e6=>⟨⟨_,rfl⟩,n,S1.grow n E6,?_⟩);rw[rS hi,hww,zx0 z,CA];exact e6
  ·rename_i z
   refine⟨[],⟨_,rfl⟩,n,S1,?_⟩;rw[rS hi,hww,zxf (by first | exact z | exact V6.mp z)];exact e2
 ·rintro D ys σ' H1 ⟨_,n,S1,e2⟩
  rw[kb,Wv]at e2;o_head nT (.of e2) (λl H2 n2 S2 e3=>?_);exact q _ H2 (S1.trans S2) (CO.mpr ⟨l,rfl,.of e3⟩)
def Ml(K:wb):Sp:=λvs H Q _=>∃x0,vs=[x0] /\ ∃(a b:Rat)(xs:List Rat)(m:Nat),Is K H x0 (aZ a b xs)/\ah 10 a/\ah 10 b/\1<=xs.length/\xs.length<=8/\Cm m xs/\m+2+21*xs.length<=3950 /\ ∀v H',ag H H'->Is K H' v (GD a b xs)->Q v H'
theorem Ca{K:wb}{H:Hp}{Q:VK}{E:XK}{a b:Rat}{xs:List Rat}{m:Nat}{v:V}(h:Is K H v (aZ a b xs))(ba:ah 10 a)(bb:ah 10 b)(h1:1<=xs.length)(h8:xs.length<=8)(c:Cm m xs)(hm:m+2+21*xs.length<=3950)(q:∀v H',ag H H'->Is K H' v (GD a b xs)->Q v H'):Ml K [v] H Q E:=⟨_,rfl,a,b,xs,m,h,ba,bb,h1,h8,c,hm,q⟩
structure Zl(K:wb)(a b:Rat)(xs:List Rat)(m:Nat)(H H':Hp)(vw:V)(lp lv ll:we)(left:List Nat)(ps:List Rat)(done:List (List Nat))(f:Nat)(pv wv:List V)(vwave:V):Prop where
 same:ag H H'
 hp:H lp=none
 hv:H lv=none
 iw:Is K H' vw (N (1-b_ xs))
 nU:lp≠lv
 jy:ll≠lp
 tH:ll≠lv
 ep:H' lp=some (.lst pv)
 tp:av K H' pv (ps.map N)
 el:H' ll=some (.lst (vz left))
 ev:H' lv=some (.lst wv)
 tv:av K H' wv (done.map TW)
 iv:Is K H' vwave (TW (aE ps left))
 nd:left.Nodup
 lt:∀w∈left,w<xs.length
 len:ps.length=xs.length
 fl:left.length<=f
 dl:done.length+left.length<=xs.length
 cm:Cm (m+2+21*(xs.length-left.length)) ps
 w1:done++(cb a b f ps left).1=cf a b xs
 w2:(cb a b f ps left).2=(dW a b xs).2
def RL(K:wb)(a b:Rat)(xs:List Rat)(m:Nat)(H:Hp)(x0 vw:V)(lp lv:we)(k:Nat)(σ':L2.St)(H':Hp):Prop:=∃(ll:we)(left:List Nat)(ps:List Rat)(done:List (List Nat))(f:Nat)(pv wv:List V)(vwave:V)(o6 o7:Option V),σ'=[some x0,some vw,some (.ref lp),some (.ref ll),some (.ref lv),some vwave,o6,o7,none]/\k=left.length/\Zl K a b xs m H H' vw lp lv ll left ps done f pv wv vwave
theorem rL{H:Hp}{p q:we}{o:HO}(h:H p=none)(k:H q=some o):p≠q:=λe=>by rw[e,k]at h;cases h
theorem zwm{α β γ : Type}(f : α -> β)(g : β -> γ)(l:List α):(!((l.map f).map g).isEmpty) = !l.isEmpty:=by cases l<;>rfl
theorem zx5{α : Type}{l:List α}(h:l≠[]):(!l.isEmpty)=true:=by cases l with
 | nil=>exact absurd rfl h
 | cons x l=>rfl
theorem Cf(T:Txt K mg a):aP P w K mg base aS 4 a.mK a.Jv A4 (Ml K):=by
 refine T.sC.F.ok iO ?_ ?_;wtm_at "b1"
 refine⟨_,(ak (aB 1 iO.nd (au (tD T) hr T.oH (ae (bS (v:=.ref a.d4) rfl T.fk rfl) (ae (au (Nl T) hr T.Bn (ae (ay (pv 0)) af)) af))))
     (ak (kz (i:=2) iO.nd rfl (Or.inl rfl) rfl (cv.by (N':=["phase","wait"]) (src:=[none,some 1]) rfl (show cN _ (aA nZ).names pE ["phase","wait"] [none,some 1]=true from by decide +kernel)) (iW (ay (pv 0))) (λ_ _ _ _ _=>(bM (i:=0) (show(["phase","wait"]:List Str).Nodup from by decide) rfl (Or.inl rfl))) (λ_ _ _ _ _=>du) (λ_ _ _ _ _=>(au (gy (K:=K) (mg:=mg) (a:=a) T) hr T.fM (ae (pv 0) (ae (pv 1) af)))))
     (ak (aB 3 iO.nd (K9 rfl rfl T.z_list rfl T.z_range (ae (br (show aN _ (.builtin "len") (cF K)from dy) rfl T.z_len dA (ae (pv 2) af)) af)))
     (ak (aB 4 iO.nd (dG af))
     (ak (aB 5 iO.nd (au (Nc T) hr T.Bh (ae (pv 3) (ae (pv 2) af))))
     (ak (mf vD (tN (pv 5)) (ak (kj (jz vU Wa Wb jH (pv 4) (ae (pv 5) af)))
     (ak (aB 3 iO.nd (eh rfl (cv.by (N':=["worm","wave"]) (src:=[none,some 5]) rfl (show cN _ (aA nZ).names pE ["worm","wave"] [none,some 5]=true from by decide +kernel)) (gO (pv 3)) (λ_ _ _ _ _=>(bM (i:=0) (show(["worm","wave"]:List Str).Nodup from by decide) rfl (Or.inl rfl))) (λ_ _ _ _ _=>(pT (bY (show aJ _ (wN .NotIn) (kP K true)from YO) (pv 0) (pv 1) (by with_unfolding_all rfl)))) (λ_ _ _ _ _=>(pv 0))))
     (ak (aB 6 iO.nd (au (t_ T) hr T.oF (ae (ay (pv 0)) (ae (br (show aN _ (.builtin "len") (cF K)from dy) rfl T.z_len dA (ae (pv 5) af)) af))))
     (ak (gA vD rfl (gO (pv 3)) (bM (i:=7) iO.nd rfl (Or.inl rfl)) (az (oq (au (Rr T) hr T.Bk (ae (pv 6) (ae (dr cX (pv 2) (pv 7) (λ_ _=>rfl)) af))) (mM (pv 2) (pv 7) nA))))
     (az (aB 5 iO.nd (au (Nc T) hr T.Bh (ae (pv 3) (ae (pv 2) af))))))))))
     (ak (kz (i:=8) iO.nd rfl (Or.inl rfl) rfl (cv.by (N':=["worm","phase","left"]) (src:=[none,none,some 3]) rfl (show cN _ (aA nZ).names pE ["worm","phase","left"] [none,none,some 3]=true from by decide +kernel)) (zyi rfl T.z_enumerate (ae (pv 2) af)) (λ_ _ _ _ _=>by exact(show PG _ _ (iY K 2 _)from j3 (n:=2) rfl (d5 (bM (i:=0) (show(["worm","phase","left"]:List Str).Nodup from by decide) rfl (Or.inl rfl)) (d5 (bM (i:=1) (show(["worm","phase","left"]:List Str).Nodup from by decide) rfl (Or.inl rfl)) jF)))) (λ_ _ _ _ _=>du) (λ_ _ _ _ _=>(yE (bY (show aJ _ (wN .In) (kP K false)from zDj) (pv 0) (pv 2) (by with_unfolding_all rfl)) (pv 1) (bS (v:=.ref a.cZ) rfl T.dS rfl))))
     (az (aF (bL (ae (pv 1) (ae (dg (show aN _ (.type "tuple") (dJ K)from eP) rfl T.z_tuple dk (ae (pv 4) af)) (ae (bL (ae (ay (pv 0)) (ae (dg (show aN _ (.type "tuple") (dJ K)from eP) rfl T.z_tuple dk (ae (pv 8) af)) af))) af))))))))))))),?_⟩
 wtm_at "cl";rw[show start pE [x0]=[some x0,none,none,none,none,none,none,none,none]from rfl];obtain⟨ra,rb,xs,m,hw,ba,bb,h1,h8,cm,hm,q⟩:=h;have bx:∀i,ah 4000 (xs.getD i 0):=λi=>(cm.get i).mono (by omega)
 have bm:ah 3950 (b_ xs):=(cm.eQ (fV h1)).mono (by omega);o_head aC (j:=1) hw rfl (λvp ip=>?_);o_head OZ (.inr ip) h1 bx (λvm im=>?_);k_few;rename_i vw H1 S1 iw;refine aC (j:=1) (hw.by S1) rfl (λvp1 ip1=>?_);obtain⟨ap,us,rfl,hu,tu⟩:=b7.mp ip1;refine iD (o0:=none) (tl:=[some vw]) hu rfl (λj y H'=>Is K H' y (N ((bK xs).getD j 0))) ?_ ?_
 . intro D i x ys o H2 hx inv
   obtain⟨hi,ix⟩:=d_ tu hx;have S2:=inv.same;have ix2:=ix.by S2;have iw2:=iw.by S2;have bi:=bx i;have bw:ah 3952 (1-b_ xs):=(ah.one.sub bm).mono (by decide);k_few;rename_i v3 H3 S3 i3;exact dR inv (by omega) gR ⟨_,rfl⟩ S3 (by rw[zxl hi];exact i3)
 . intro lp ys H2 hnp S2 hD hl hr
   have hl':ys.length=(bK xs).length:=by rw[hl,tu.length,wo,eW]
   have tp:av K H2 ys ((bK xs).map N):=g_ hl' hr;have iw2:=iw.by S2;have T2:=S1.trans S2;have hpH:H lp=none:=mZ S1 hnp;clear hl hr hu tu ip1 ip im iw S1 S2 hnp;o_head zyb (dE hD tp) ?_;rw[eW];o_head Pu (n:=xs.length) (by omega) (λll H3 n3 S3 e3=>?_);o_head fW (by simp) (λlv H4 n4 S4 e4=>?_);k_few;have hD4:=S4 _ _ (S3 _ _ hD);have tp4:av K H4 ys ((bK xs).map N):=av.same (S3.trans S4) _ _ tp;have j8:Cm (m+2) (bK xs):=(Cm.rise (h:=0) (cm.jN (ys:=0::xs) λy hy=>by rcases wL.mp hy with rfl | hy;(exact .inr rfl);exact .inl hy) (fV h1)).jN λy hy=>.inl (wF _ hy)
   have b3:∀i,ah 4000 ((bK xs).getD i 0):=λi=>(j8.get i).mono (by omega)
   refine My (S4 _ _ e3) (dE hD4 tp4) (λw hw'=>by rw[eW];exact wD.mp hw') (by rw[vB];omega) b3 (λvwave H5 S5 i5=>?_);have T5:=T2.trans (S3.trans (S4.trans S5));have hvH:H lv=none:=mZ (T2.trans S3) n4;have nU:lp≠lv:=(rL n4 (S3 _ _ hD)).symm;have jy:ll≠lp:=rL n3 hD;have tH:ll≠lv:=(rL n4 e3).symm
   have G0:RL K ra rb xs m H x0 vw lp lv xs.length [some x0,some vw,some (.ref lp),some (.ref ll),some (.ref lv),some vwave,none,none,none] H5:=by
     refine⟨ll,wx xs.length,bK xs,[],xs.length,ys,[],vwave,none,none,rfl,by rw[vB],T5,hpH,hvH,iw2.by (S3.trans (S4.trans S5)),nU,jy,tH,S5 _ _ hD4,av.same S5 _ _ tp4,S5 _ _ (S4 _ _ e3),S5 _ _ e4,.nil,i5,Wu,λw hw'=>wD.mp hw',eW xs,by rw[vB];exact wq _,by rw[vB];simp,j8.mono (by omega),?_,rfl⟩;rw[Qd];rfl
   clear T5 S5 S4 S3 T2 hD hD4 tp tp4 b3 j8 n3 n4 e3 e4 iw2 i5 hl';o_head oY (RL K ra rb xs m H x0 vw lp lv) _ G0 ?_;clear G0 nU jy tH;rintro k σ' H6 ⟨ll,left,ps,done,f,pv,wv,vwave,o6,o7,rfl,hk,G⟩;have bp:∀i,ah 4000 (ps.getD i 0):=λi=>(G.cm.get i).mono (by have:=G.dl;omega)
   o_head zAP (show Is K H6 vwave (.tuple (((aE ps left).map λ(w:Nat)=>(w:Int)).map PyData.int))from G.iv) ?_;rw[zwm]
   by_cases he:aE ps left=[]
   . rw[show(!(aE ps left).isEmpty)=false by rw[he];rfl]
     refine lC ?_;have w1:=G.w1;have w2:=G.w2;rw[jr he]at w1 w2;rw[Wc]at w1;have eps:ps=(dW ra rb xs).2.2:=congrArg uJ w2;have elf:left=(dW ra rb xs).2.1:=congrArg uI w2;have hph:iM left ps=cQ ra rb xs:=by rw[cQ,<- eps,<- elf]
     o_head zzC (.of G.ep) (o0:=none) (o0':=none) (tl:=[some (.ref ll)]) rfl (λj y H'=>Is K H' y (N ((iM left ps).getD j 0))) gR ?_ ?_
     . intro D i x zs o1 o2 H7 c hx inv hc
       obtain⟨hi,ix⟩:=d_ G.tp hx;have S7:=inv.2.2.1;refine kD (.of hc) rfl ?_;o_head zBi (aO.of (S7 _ _ G.el)) ?_;k_few
       . rename_i z
         exact sU inv (by have:=G.len;omega) gR ⟨_,_,rfl⟩ (ag.refl _) (by rw[mw hi,if_pos z];exact ix.by S7)
       . rename_i z
         exact sU inv (by have:=G.len;omega) gR ⟨_,_,rfl⟩ (ag.refl _) (by rw[mw hi,if_neg z];exact eB 0 (T.e_ _) rfl rfl)
     . intro D zs H7 hn S7 hD hl hr
       have hpl:=G.tp.length;rw[wo]at hpl;have tz:av K H7 zs ((iM left ps).map N):=g_ (by rw[hl,Pw,hpl]) hr;rw[hph]at tz;have tv:=av.same S7 _ _ G.tv;have ev:=S7 _ _ G.ev;have iw7:=G.iw.by S7;have T7:=G.same.trans S7;rw[w1]at tv;o_head gY (cj.mpr ⟨lv,wv,rfl,.of ev,tv⟩) (λv8 H8 S8 i8=>?_);o_head aC (j:=0) (hw.by (T7.trans S8)) rfl (λv9 i9=>?_);o_head gY (dE (S8 _ _ hD) (av.same S8 _ _ tz)) (λv10 H10 S10 i10=>?_);o_head cy (ds:=[R ra rb,TN (cQ ra rb xs)]) (by simp) (.cons (i9.by S10) (.cons i10 .nil)) (λv11 H11 S11 i11=>?_);o_head cy (ds:=[N (1-b_ xs),iT (cf ra rb xs),aZ ra rb (cQ ra rb xs)]) (by simp) (.cons (iw7.by (S8.trans (S10.trans S11))) (.cons (i8.by (S10.trans S11)) (.cons i11 .nil))) (λv12 H12 S12 i12=>?_);exact q v12 H12 (T7.trans (S8.trans (S10.trans (S11.trans S12)))) i12
   . rw[zx5 he]
     refine lW ?_;refine oZ ?_;have hwl:=G.tv.length;rw[wo]at hwl;have hdl:=G.dl;have hlen:=A9 ps left;have hpos:0<(aE ps left).length:=VR.mpr he;o_head ig (aO.of G.ev) ?_;o_head iS G.ev (by omega) (λH7 E7 e7=>?_);have K7:bE H6 H7:=E7.keep G.ev;have S7:ag H H7:=G.same.grow G.hv E7;have el7:=E7 _ _ G.tH G.el;have ep7:=E7 _ _ G.nU G.ep;have tp7:=av.keep K7 _ _ (eO _) G.tp;have iv7:=G.iv.fj K7 (Ga _);have iw7:=G.iw.gT K7
     have tv7:av K H7 (wv++[vwave]) ((done++[aE ps left]).map TW):=by
       rw[vK];exact(av.keep K7 _ _ (zJ _) G.tv).snoc iv7
     obtain⟨aw,rfl,hsw⟩:=CO.mp iv7;o_head mL (.of el7) (λD i ys σ' H'=>(∃o,σ'=[o,some (.ref aw)])/\H7 D=none/\ag H7 H'/\H' D=some (.lst (vz (bG (left.take i) (aE ps left))))) (λD H' n s e=>⟨⟨_,rfl⟩,n,s,e⟩) (λD i ys σ' H' h=>h.2.2.1.seq (.of el7)) ?_ ?_
     . rintro D i x ys σ' H8 hx' ⟨⟨o,rfl⟩,n,S8,e8⟩
       obtain⟨hi,rfl⟩:=DV hx';have hle:(bG (left.take i) (aE ps left)).length<=(left.take i).length:=WB _ _;rw[WD]at hle;o_head zt0 (S8.ji hsw) ?_;generalize hww:left[i]=ww at *;k_few
       . rename_i z
         refine kF e8 (by rw[kb];omega) (λH9 E9 e9=>⟨⟨_,rfl⟩,n,S8.grow n E9,?_⟩);rw[rS hi,hww,zwI z,CA];exact e9
       . rename_i z
         refine⟨[],⟨_,rfl⟩,n,S8,?_⟩;rw[rS hi,hww,Zd (by first | exact z | exact V6.mp z)];exact e8
     . rintro D ys σ' H8 ⟨_,n8,S8,e8⟩
       rw[kb,Wv]at e8;have nD1:D≠lp:=rL n8 ep7;have nD2:D≠lv:=rL n8 e7;have T8:=S7.trans S8;have iv8:=iv7.by S8;o_head aC (j:=0) (hw.by T8) rfl (λvr ir=>?_);o_head O2 iv8 ?_;o_head Cq ir ba bb (by omega) (by omega) (λvpush H9 S9 ipush=>?_);rw[wU]at ipush;have bf:ah 700 (ra^(aE ps left).length):=(ba.pow _).mono (by omega);have bg:ah 1500 (aG ra rb (aE ps left).length):=(ba.aG bb _).mono (by omega);have T9:=S8.trans S9;have ep9:=T9 _ _ ep7;have tp9:av K H9 pv (ps.map N):=av.same T9 _ _ tp7;have e9:=S9 _ _ e8;have ev9:=T9 _ _ e7;have ndl:=kZ (wave:=aE ps left) G.nd;have ltl:=lq (wave:=aE ps left) G.lt;generalize hL:bG left (aE ps left)=left' at *;o_head FR (.of e9) (λi σ'' H''=>∃o pv',σ''=[some x0,some vw,some (.ref lp),some (.ref D),some (.ref lv),some (.ref aw),some vpush,o,none]/\Exc lp H9 H''/\H'' lp=some (.lst pv')/\av K H'' pv' ((cC (ra^(aE ps left).length) (aG ra rb (aE ps left).length) ps (left'.take i)).map N)) ⟨_,pv,rfl,Exc.refl _ _,ep9,tp9⟩ (λi σ'' H'' _ ⟨_,_,_,e,_⟩=>.of (e _ _ nD1 e9)) ?_ ?_
       . rintro i x σ'' H10 hx' ⟨o,pv',rfl,E10,e10,t10⟩
         obtain⟨hi,rfl⟩:=DV hx';have K10:bE H9 H10:=E10.keep ep9;have hlt:=ltl _ (vt hi);have hpl:=gn (ra^(aE ps left).length) (aG ra rb (aE ps left).length) (left'.take i) ps;have hps:=G.len
         have bq:ah 4000 ((cC (ra^(aE ps left).length) (aG ra rb (aE ps left).length) ps (left'.take i)).getD left'[i] 0):=by
           have nt:(left'.take i).Nodup:=ndl.sublist (Xh ..);rw[ik _ _ _ _ nt (λw hw'=>by rw[hps];exact ltl w (XJ _ _ hw'))];rw[if_neg]
           . exact bp _
           . intro hm
             obtain⟨j,hj,ej⟩:=vg hm;rw[WD]at hj;rw[Xl]at ej;exact absurd ej ((Wy.mp ndl) j i (by omega) hi (by omega))
         have ip10:=ipush.fj K10 (Ci _ _);generalize hww:left'[i]=ww at *;generalize hqs:cC (ra^(aE ps left).length) (aG ra rb (aE ps left).length) ps (left'.take i)=qs at *;o_head kI (dE e10 t10) (by omega) (by omega) (λv11 i11=>?_);rw[wU]at i11;o_head NZ ip10 i11 bf bg (bq.mono (by decide)) (λv12 H12 S12 i12=>?_);have e12:=S12 _ _ e10;have hvl:=t10.length;rw[wo]at hvl;o_head pS (j:=ww) e12 (by unfold gg;rw[if_pos (by omega),if_pos (by omega)];simp) (λH13 E13 e13=>?_);refine⟨_,_,rfl,E10.trans (S12.exc.trans E13),e13,?_⟩;have K13:=E13.keep e12;rw[rS hi,hww,zst,hqs];refine g_ (by rw[WP,WP];exact hvl) (λj v hj=>?_);rw[W6]at hj
         by_cases hjw:ww=j
         . subst hjw
           rw[if_pos rfl,if_pos (by omega)]at hj;cases hj;rw[Nk (by omega)];exact i12.gT K13
         . rw[if_neg hjw]at hj
           rw[NN hjw];obtain⟨_,ij⟩:=d_ t10 hj;exact(ij.by S12).gT K13
       . rintro σ'' H10 ⟨o,pv',rfl,E10,e10,t10⟩
         rw[kb,Wv]at t10;have K10:bE H9 H10:=E10.keep ep9;have hps:=G.len
         have cm10:Cm (m+2+21*(xs.length-left'.length)) (cC (ra^(aE ps left).length) (aG ra rb (aE ps left).length) ps left'):=by
           have c0:Cm (m+2+21*(xs.length-left.length)) (0::ps):=G.cm.jN λy hy=>by rcases wL.mp hy with rfl | hy;(exact .inr rfl);exact .inl hy
           exact((c0.wave ba bb (aE ps left).length ndl (λw hw'=>by rw[hps];exact ltl w hw')).jN λy hy=>.inl (wF _ hy)).mono (by omega)
         have hpl:=gn (ra^(aE ps left).length) (aG ra rb (aE ps left).length) left' ps;have w1:=G.w1;have w2:=G.w2;have hfl:=G.fl;obtain⟨f',rfl⟩:∃f',f=f'+1:=⟨f-1,by omega⟩;rw[gF he,hL]at w1 w2;generalize hqs:cC (ra^(aE ps left).length) (aG ra rb (aE ps left).length) ps left'=qs at *;k_few;have e10':=E10 _ _ nD1 e9;refine My e10' (dE e10 t10) (λw hw'=>by rw[hpl,hps];exact ltl w hw') (by omega) (λi=>(cm10.get i).mono (by omega)) (λvwave2 H11 S11 i11=>?_);k_few;have KA:=T9.keep.trans K10;refine⟨left'.length,by omega,D,left',qs,done++[aE ps left],f',pv',wv++[V.ref aw],vwave2,_,_,rfl,rfl,?_⟩;exact⟨((S7.trans T9).grow G.hp E10).trans S11,G.hp,G.hv,(iw7.gT KA).by S11,G.nU,nD1,nD2,S11 _ _ e10,av.same S11 _ _ t10,S11 _ _ e10',S11 _ _ (E10 _ _ G.nU.symm ev9),av.same S11 _ _ (av.keep KA _ _ (zJ _) tv7),i11,ndl,ltl,by rw[hpl];exact hps,by omega,by rw[wX];simp;omega,cm10,by rw[V5];exact w1,w2⟩
def Dq(K:wb):Sp:=λvs H Q _=>∃x0 x1,vs=[x0,x1] /\ ∃(a b:Rat)(xs:List Rat)(n:Int),x1=.int n/\Is K H x0 (aZ a b xs)/\ah 10 a/\ah 10 b/\1<=xs.length/\xs.length<=8/\0<=n/\n<=40/\(∀i,i<=n.toNat->Cm 3700 (aM a b xs i::ai a b xs i)) /\ ∀l H',H l=none->ag H H'->Is K H' (.ref l) (.list (eS a b xs n.toNat))->Q (.ref l) H'
theorem Pq{K:wb}{H:Hp}{Q:VK}{E:XK}{a b:Rat}{xs:List Rat}{n:Int}{v:V}(h:Is K H v (aZ a b xs))(ba:ah 10 a)(bb:ah 10 b)(h1:1<=xs.length)(h8:xs.length<=8)(n0:0<=n)(n1:n<=40)(c:∀i,i<=n.toNat->Cm 3700 (aM a b xs i::ai a b xs i))(q:∀l H',H l=none->ag H H'->Is K H' (.ref l) (.list (eS a b xs n.toNat))->Q (.ref l) H'):Dq K [v,.int n] H Q E:=⟨_,_,rfl,a,b,xs,n,rfl,h,ba,bb,h1,h8,n0,n1,c,q⟩
theorem MP{K:wb}{H:Hp}{Q:VK}{E:XK}{a b:Rat}{xs:List Rat}{m:Nat}{n:Int}{v:V}(h:Is K H v (aZ a b xs))(ba:ah 10 a)(bb:ah 10 b)(h1:1<=xs.length)(h8:xs.length<=8)(n0:0<=n)(n1:n<=40)(c:Cm m xs)(hm:m+(2+21*xs.length)*n.toNat<=2900)(q:∀l H',H l=none->ag H H'->Is K H' (.ref l) (.list (eS a b xs n.toNat))->Q (.ref l) H'):Dq K [v,.int n] H Q E :=
 Pq h ba bb h1 h8 n0 n1 (λi hi=>(c.JW ba bb h1 i).mono (by have:=Ql (2+21*xs.length) hi;omega)) q
theorem FN(T:Txt K mg a):aP P w K mg base aS 5 a.Jp a.HW An (Dq K):=by
 refine T.sh.F.ok kB ?_ ?_;wtm_at "b2"
 refine⟨_,(ak (aB 2 kB.nd (dG af))
     (ak (aB 3 kB.nd (bS (v:=.ref a.cZ) rfl T.dS rfl))
     (ak (aB 4 kB.nd (pv 0))
     (ak (gA vD rfl (jW rfl T.z_range (ae (pv 1) af)) (bM (i:=5) kB.nd rfl (Or.inl rfl)) (ak (aB 6 kB.nd (au (Cf T) hr T.sC (ae (pv 4) af)))
     (ak (aB 3 kB.nd (au (gy T) hr T.fM (ae (pv 3) (ae (ay (pv 6)) af))))
     (ak (aB 4 kB.nd (ay (pv 6)))
     (az (kj (jz vU Wa Wb jH (pv 2) (ae (bL (ae (pv 3) (ae (ay (pv 6)) (ae (ay (pv 4)) af)))) af))))))))
     (az (aF (pv 2))))))),?_⟩
 wtm_at "cl";rw[show start Sz [x0,x1]=[some x0,some x1,none,none,none,none,none]from rfl];obtain⟨ra,rb,xs,n,rfl,hw,ba,bb,h1,h8,n0,n1,cm,q⟩:=h;o_head fW (by simp) (λlr H1 nr S1 e1=>?_);o_head lO (n:=n) (by omega) (by omega) (λi σ H'=>∃vh vs o5 o6 us,σ = [some x0,some (.int n),some (.ref lr),some vh,some vs,o5,o6]/\ag H H'/\H' lr=some (.lst us)/\av K H' us (eS ra rb xs i)/\Is K H' vh (N (aM ra rb xs i))/\Is K H' vs (aZ ra rb (ai ra rb xs i))) ⟨_,_,_,_,[],rfl,S1,e1,.nil,eB 0 (T.e_ _) rfl rfl,hw.by S1⟩ ?_ ?_
 . rintro i σ H2 hi ⟨vh,vs,o5,o6,us,rfl,S2,e2,t2,ih,iw⟩
   have hc:=cm i (by omega);have hpl:=bj ra rb xs i;have bh:ah 3700 (aM ra rb xs i):=hc.eQ (wG ..);have hc':Cm 3700 (ai ra rb xs i):=hc.jN λy hy=>.inl (wF _ hy)
   have bw:ah 3702 (1-b_ (ai ra rb xs i)):=(ah.one.sub (hc'.eQ (fV (by omega)))).mono (by decide);o_head Ca iw ba bb (by omega) (by omega) hc' (by rw[hpl];omega) (λv3 H3 S3 i3=>?_);o_head aC (j:=0) i3 rfl (λv4 i4=>?_);have ih3:=ih.by S3;k_few;rename_i v5 H5 S5 i5;refine aC (j:=2) (i3.by S5) rfl (λv6 i6=>?_);have T5:=S3.trans S5;o_head ig (aO.of (T5 _ _ e2)) ?_;o_head aC (j:=1) (i3.by S5) rfl (λv7 i7=>?_);o_head aC (j:=1) i6 rfl (λv8 i8=>?_);o_head cy (ds:=[N (aM ra rb xs (i+1)),iT (cf ra rb (ai ra rb xs i)),TN (ai ra rb xs (i+1))]) (by simp) (.cons i5 (.cons i7 (.cons i8 .nil))) (λv9 H9 S9 i9=>?_);k_few;have T9:=T5.trans S9;have e9:=T9 _ _ e2;have hul:=t2.length;rw[zt]at hul;refine iS e9 (by omega) (λH10 E10 e10=>?_);have K10:=E10.keep e9;have i10:=i9.fj K10 (Aw _ _ _)
   have t10:av K H10 (us++[v9]) (eS ra rb xs (i+1)):=by
     rw[Dg];exact(av.keep K10 _ _ (ZM ..) (av.same T9 _ _ t2)).snoc i10
   exact⟨_,_,_,_,_,rfl,(S2.trans T9).grow nr E10,e10,t10,(i5.by S9).gT K10,(i6.by S9).fj K10 (sN _ _ _)⟩
 . rintro σ H2 ⟨vh,vs,o5,o6,us,rfl,S2,e2,t2,ih,iw⟩
   k_few;exact q lr H2 nr S2 (cj.mpr ⟨lr,us,rfl,.of e2,t2⟩)
def BD(a b:Rat)(xs:List Rat)(n:Nat):wB:=.tuple [N (aM a b xs n),aZ a b (ai a b xs n)]
def Sl(K:wb):Sp:=λvs H Q _=>∃x0 x1,vs=[x0,x1] /\ ∃(a b:Rat)(xs:List Rat)(n:Int),x1=.int n/\Is K H x0 (aZ a b xs)/\ah 10 a/\ah 10 b/\1<=xs.length/\xs.length<=8/\0<=n/\n<=40/\(∀i,i<=n.toNat->Cm 3700 (aM a b xs i::ai a b xs i)) /\ ∀v H',ag H H'->Is K H' v (BD a b xs n.toNat)->Q v H'
theorem Kg{K:wb}{H:Hp}{Q:VK}{E:XK}{a b:Rat}{xs:List Rat}{n:Int}{v:V}(h:Is K H v (aZ a b xs))(ba:ah 10 a)(bb:ah 10 b)(h1:1<=xs.length)(h8:xs.length<=8)(n0:0<=n)(n1:n<=40)(c:∀i,i<=n.toNat->Cm 3700 (aM a b xs i::ai a b xs i))(q:∀v H',ag H H'->Is K H' v (BD a b xs n.toNat)->Q v H'):Sl K [v,.int n] H Q E:=⟨_,_,rfl,a,b,xs,n,rfl,h,ba,bb,h1,h8,n0,n1,c,q⟩
theorem lI{K:wb}{H:Hp}{Q:VK}{v:V}{ds:List wB}{d:wB}(h:Is K H v (.list (ds++[d])))(q:∀x,Is K H x d->Q x H):c6 K v (.int (-1)) H Q:=by
 obtain⟨a,xs,rfl,hs,t⟩:=cj.mp h;have hl:=t.length;rw[wX,vT]at hl;obtain⟨x,e1,hx⟩:=t.get (i:=ds.length) (d:=d) (by rw[vf (wq _),W5];rfl);exact iF hs (CH (by rw[hl];exact e1)) (q x hx)
theorem zxd(T:Txt K mg a):aP P w K mg base aS 6 a.behind a.IC AF (Sl K):=by
 refine T.IV.F.ok Df ?_ ?_;wtm_at "b2"
 refine⟨_,(ak (aB 2 Df.nd (au (FN T) hr T.sh (ae (pv 0) (ae (pv 1) af))))
     (ak (bP (cA (tN (pv 2))) (az (aF (bL (ae (bS (v:=.ref a.cZ) rfl T.dS rfl) (ae (pv 0) af))))) bQ)
     (ak (aB 3 Df.nd (dr cX (pv 2) (gL gK aD) (λ_ _=>rfl)))
     (az (aF (bL (ae (ay (pv 3)) (ae (bL (ae (ay (pv 0)) (ae (ay (pv 3)) af))) af)))))))),?_⟩
 wtm_at "cl";rw[show start R9 [x0,x1]=[some x0,some x1,none,none]from rfl];obtain⟨ra,rb,xs,n,rfl,hw,ba,bb,h1,h8,n0,n1,cm,q⟩:=h;o_head Pq hw ba bb h1 h8 n0 n1 cm (λlr H1 nr S1 i1=>?_);o_head FC i1 ?_;generalize n.toNat=k at *;cases k with
 | zero =>
   rw[show(!(eS ra rb xs 0).isEmpty)=false from rfl];o_head cy (ds:=[N 0,aZ ra rb xs]) (by simp) (.cons (eB 0 (T.e_ _) rfl rfl) (.cons (hw.by S1) .nil)) (λv H2 S2 i2=>?_);exact q v H2 (S1.trans S2) i2
 | succ k =>
   rw[Dg]at i1;rw[show(!(eS ra rb xs (k+1)).isEmpty)=true by rw[Dg];simp];o_head lI i1 (λv2 i2=>?_);have i2:Is K H1 v2 (jA (aM ra rb xs (k+1)) (cf ra rb (ai ra rb xs k)) (ai ra rb xs (k+1))):=i2;o_head aC (j:=0) i2 rfl (λv3 i3=>?_);o_head aC (j:=0) (hw.by S1) rfl (λv4 i4=>?_);o_head aC (j:=2) i2 rfl (λv5 i5=>?_);o_head cy (ds:=[R ra rb,TN (ai ra rb xs (k+1))]) (by simp) (.cons i4 (.cons i5 .nil)) (λv6 H6 S6 i6=>?_);o_head cy (ds:=[N (aM ra rb xs (k+1)),aZ ra rb (ai ra rb xs (k+1))]) (by simp) (.cons (i3.by S6) (.cons i6 .nil)) (λv7 H7 S7 i7=>?_);exact q v7 H7 (S1.trans (S6.trans S7)) i7
def MV(K:wb):Sp:=λvs H Q _=>∃x0,vs=[x0] /\ ∃(a b:Rat)(xs:List Rat),Is K H x0 (aZ a b xs)/\Q (.bl (decide (0∈xs))) H
theorem Eg{K:wb}{H:Hp}{Q:VK}{E:XK}{a b:Rat}{xs:List Rat}{v:V}(h:Is K H v (aZ a b xs))(q:Q (.bl (decide (0∈xs))) H):MV K [v] H Q E:=⟨_,rfl,a,b,xs,h,q⟩
theorem EL(T:Txt K mg a):aP P w K mg base aS 1 a.Jr a.Ie zU (MV K):=by
 refine T.sj.F.ok Y8 ?_ ?_;wtm_at "b1";refine⟨_,(az (aF (fg (show aJ _ (wN .In) (rE K)from Nf hu) (bS (v:=.ref a.cZ) rfl T.dS rfl) (ay (pv 0)) (by with_unfolding_all rfl)))),?_⟩;wtm_at "cl";rw[show start FQ [x0]=[some x0]from rfl];obtain⟨ra,rb,xs,hw,q⟩:=h;o_head aC (j:=1) hw rfl (λvp ip=>?_);exact zAN (eB 0 (T.e_ _) rfl rfl) ip q
def bZ(xs:List Rat):List Rat:=(aj xs).dropLast
def M3(xs:List Rat):wB:=.tuple [TZ (bN xs),TN (bZ xs)]
def Th(K:wb)(a:Ad):Sp:=λvs H Q E=>∃x0,vs=[x0] /\ ∃(ra rb:Rat)(xs:List Rat),Is K H x0 (aZ ra rb xs)/\xs.length<=8/\(∀i,ah 4000 (xs.getD i 0))/\(¬ 0∈xs->∀H',ag H H'->E (.ref a.dZ) none H')/\(0∈xs->∀v H',ag H H'->Is K H' v (M3 xs)->Q v H')
theorem AG{K:wb}{a:Ad}{H:Hp}{Q:VK}{E:XK}{ra rb:Rat}{xs:List Rat}{v:V}(h:Is K H v (aZ ra rb xs))(h8:xs.length<=8)(bx:∀i,ah 4000 (xs.getD i 0))(qe:¬ 0∈xs->∀H',ag H H'->E (.ref a.dZ) none H')(q:0∈xs->∀v H',ag H H'->Is K H' v (M3 xs)->Q v H'):Th K a [v] H Q E:=⟨_,rfl,ra,rb,xs,h,h8,bx,qe,q⟩
theorem N4:∀(n:Nat)(l:List Rat),(iU n l).length<=n
 | 0,l=>wq _
 | n+1,[]=>by rw[B2];simp
 | n+1,x::l=>by
  rw[nY (by simp),vP];have:=N4 n ((x::l).filter λy=>!decide (y=b_ (x::l)));omega
theorem tW(T:Txt K mg a):aP P w K mg base (eT P w) 4 a.laid a.Jx Am (Th K a):=by
 refine T.oM.F.m_ sW ?_ ?_;wtm_at "b1"
 refine⟨_,(ak (bP (cA (cu (au (EL T) hr T.sj (ae (pv 0) af)))) (az (BG T.U7 rfl rfl T.Iz Ce (ae dQ af))) bQ)
     (ak (aB 1 sW.nd (au (rC T) hr T.mI (ae (pv 0) af)))
     (ak (aB 2 sW.nd (dg (show aN _ (.type "tuple") (dJ K)from eP) rfl T.z_tuple dk (ae (eh rfl (cv.by (N':=["row"]) (src:=[none]) rfl (show cN _ (aA pR).names zY ["row"] [none]=true from by decide +kernel)) (gO (pv 1)) (λ_ _ _ _ _=>(bM (i:=0) (show(["row"]:List Str).Nodup from by decide) rfl (Or.inl rfl))) (λ_ _ _ _ _=>du) (λ_ _ _ _ _=>(br (show aN _ (.builtin "len") (cF K)from dy) rfl T.z_len dA (ae (yq (K:=K) cX (pv 0)) af)))) af)))
     (ak (aB 3 sW.nd (dg (show aN _ (.type "tuple") (dJ K)from eP) rfl T.z_tuple dk (ae (eh rfl (cv.by (N':=["row"]) (src:=[none]) rfl (show cN _ (aA pR).names zY ["row"] [none]=true from by decide +kernel)) (gO (mj mv (pv 1) mh (lD (gL gK aD)))) (λ_ _ _ _ _=>(bM (i:=0) (show(["row"]:List Str).Nodup from by decide) rfl (Or.inl rfl))) (λ_ _ _ _ _=>du) (λ_ _ _ _ _=>(yq (K:=K) cX (pv 0)))) af)))
     (az (aF (bL (ae (pv 2) (ae (pv 3) af))))))))),?_⟩
 wtm_at "cl";rw[show start zY [x0]=[some x0,none,none,none]from rfl];obtain⟨ra,rb,xs,hw,h8,bx,qe,q⟩:=h;have hvl:(aj xs).length<=8:=Wm (N4 _ _) h8;o_head Eg hw ?_;k_few
 . rename_i z
   exact⟨by simp;decide,qe z H (ag.refl _)⟩
 . rename_i z
   have z:=(by first | exact z | exact V6.mp z:0∈xs);refine rA hw h8 bx (λlr H1 us n1 S1 e1 t1=>?_);have hul:=t1.length;rw[wo]at hul;o_head jT (.of e1) (o0:=none) (tl:=[]) rfl (λj y _=>y=.int ((bN xs).getD j 0)) ?_ ?_
   . intro D j x ys o H2 hx inv
     obtain⟨hj,ix⟩:=gG t1 hx;rw[wo]at hj;rw[wa,wu,wc hj]at ix;have ix2:Is K H2 x (gq xs (aj xs)[j]):=ix.by inv.same;o_head aC (j:=1) ix2 rfl (λv3 i3=>?_);o_head O2 i3 ?_;o_head dR inv (by omega) (λ_ _ _ _ _ h=>h) ⟨_,rfl⟩ (ag.refl _) ?_;unfold bN;rw[wa,wu,wc hj]
     rfl
   . intro D ys H2 hn S2 hD hl hr
     have hys:ys=(bN xs).map V.int:=OP (by rw[hl,hul];unfold bN;rw[wo]) hr;subst hys;o_head nT (.of hD) (λl3 H3 n3 S3 e3=>?_);have i3:Is K H3 (.ref l3) (TZ (bN xs)):=mq.mpr ⟨l3,rfl,.of e3⟩;have T3:=S2.trans S3;o_head pq (cj.mpr ⟨lr,us,rfl,.of (T3 _ _ e1),av.same T3 _ _ t1⟩) (λl4 H4 us4 n4 S4 e4 t4=>?_);rw[MF,<- Xv]at t4;o_head jT (.of e4) (o0:=none) (tl:=[]) rfl (λj y H'=>Is K H' y (N ((bZ xs).getD j 0))) ?_ ?_
     . intro D' j x ys o H5 hx inv
       obtain⟨hj,ix⟩:=gG t4 hx;have hj2:j<(bZ xs).length:=by rw[wo]at hj;exact hj
       have hj8:(bZ xs).length<=8:=by unfold bZ;rw[xI];omega
       rw[wa,wu,wc (show j<(aj xs).dropLast.length from hj2)]at ix;have ix5:Is K H5 x (gq xs (bZ xs)[j]):=ix.by inv.same;o_head aC (j:=0) ix5 rfl (λv6 i6=>?_);o_head dR inv (by omega) gR ⟨_,rfl⟩ (ag.refl _) ?_;rw[wa,wc hj2];exact i6
     . intro D' zs H5 hn5 S5 hD5 hl5 hr5
       have hu4:=t4.length;rw[wo]at hu4;have tz:av K H5 zs ((bZ xs).map N):=g_ (by rw[hl5,hu4];rfl) hr5;o_head gY (dE hD5 tz) (λv6 H6 S6 i6=>?_);o_head cy (ds:=[TZ (bN xs),TN (bZ xs)]) (by simp) (.cons (i3.by (S4.trans (S5.trans S6))) (.cons i6 .nil)) (λv7 H7 S7 i7=>?_);exact q z v7 H7 (S1.trans (T3.trans (S4.trans (S5.trans (S6.trans S7))))) i7
theorem YQ{m:Nat}{xs:List Rat}(h:Cm m xs)(i j:Nat):ah (m+2) (xs.getD i 0+(1-xs.getD j 0)):=by
 obtain⟨B,h0,h1,h2⟩:=h
 have key:∀i,∃t:Int,xs.getD i 0=wH t B/\Bd m t:=λi=>by
  rcases wJ i xs.length with q | q
  ·rw[wa,wc q]
   exact h2 _ (vt q)
  ·rw[wa,wP q]
   exact⟨0,by simp,⟨by simp;exact Wl m⟩⟩
 obtain⟨t,et,bt⟩:=key i;obtain⟨z,ez,bz⟩:=key j
 have e2:wH t B+(1-wH z B)=wH (t+B-z) B:=by
  symm
  refine gC (by omega) ?_;have q1:=cV t (show B≠0 by omega);have q2:=cV z (show B≠0 by omega);have q3:((t+B-z:Int):Rat)=(t:Rat)+(B:Rat)-(z:Rat):=by push_cast;rfl
  rw[q3,<- q1,<- q2]
  grind
 rw[et,ez,e2];exact ah.divInt (by omega) (((bt.add h1).sub bz).mono (by omega)) (h1.mono (by omega))
def Ki(K:wb):Sp:=λvs H Q _=>∃x0 x1 x2 x3,vs=[x0,x1,x2,x3] /\ ∃(a b:Rat)(n i:Int)(xs:List Rat)(m:Nat),x1=.int n/\x3=.int i/\Is K H x0 (R a b)/\Is K H x2 (LN xs)/\ah 10 a/\ah 10 b/\0<=n/\n<=64/\0<=i/\i<xs.length/\xs.length<=100/\Cm m xs/\m<=8000 /\
 ∀l H' us,H l=none->ag H H'->H' l=some (.lst us)->av K H' us ((dX a b n.toNat xs i.toNat).map N)->Q (.ref l) H'
theorem zls{K:wb}{H:Hp}{Q:VK}{E:XK}{a b:Rat}{n i:Int}{xs:List Rat}{m:Nat}{v w:V}(h1:Is K H v (R a b))(h2:Is K H w (LN xs))(b1:ah 10 a)(b2:ah 10 b)(h0:0<=n)(h64:n<=64)(i0:0<=i)(i1:i<xs.length)(hl:xs.length<=100)(hm:Cm m xs)(hm2:m<=8000)
  (q:∀l H' us,H l=none->ag H H'->H' l=some (.lst us)->av K H' us ((dX a b n.toNat xs i.toNat).map N)->Q (.ref l) H'):Ki K [v,.int n,w,.int i] H Q E:=⟨_,_,_,_,rfl,a,b,n,i,xs,m,rfl,rfl,h1,h2,b1,b2,h0,h64,i0,i1,hl,hm,hm2,q⟩
theorem zlG(T:Txt K mg a):aP P w K mg base aS 4 a.GR a.Gi AX (Ki K):=by
 refine T.Gx.F.ok zF ?_ ?_;wtm_at "b4"
 refine⟨_,(ak (aB 4 zF.nd (au (tD T) hr T.oH (ae (bS (v:=.ref a.d4) rfl T.fk rfl) (ae (dr cX (pv 2) (pv 3) (λ_ _=>rfl)) af))))
     (ak (aB 5 zF.nd (au (t_ T) hr T.oF (ae (pv 0) (ae (pv 1) af))))
     (ak (kz (i:=6) zF.nd rfl (Or.inl rfl) rfl (cv.by (N':=["phase","push","wait"]) (src:=[none,some 5,some 4]) rfl (show cN _ (aA zx).names DP ["phase","push","wait"] [none,some 5,some 4]=true from by decide +kernel)) (gO (pv 2)) (λ_ _ _ _ _=>(bM (i:=0) (show(["phase","push","wait"]:List Str).Nodup from by decide) rfl (Or.inl rfl))) (λ_ _ _ _ _=>du) (λ_ _ _ _ _=>(au (Rr (K:=K) (mg:=mg) (a:=a) T) hr T.Bk (ae (pv 1) (ae (au (gy (K:=K) (mg:=mg) (a:=a) T) hr T.fM (ae (pv 0) (ae (pv 2) af))) af)))))
     (ak (oq (bS (v:=.ref a.cZ) rfl T.dS rfl) (mM (pv 6) (pv 3) nA))
     (az (aF (pv 6))))))),?_⟩
 wtm_at "cl";rw[show start DP [x0,x1,x2,x3]=[some x0,some x1,some x2,some x3,none,none,none]from rfl];obtain⟨a',b',n,i,xs,m,rfl,rfl,hr',hx,ba,bb,h0,h64,i0,i1,hl,hm,hm2,q⟩:=h;have bi:ah 8000 (xs.getD i.toNat 0):=(hm.get _).mono hm2;have bw:ah 8002 (1-xs.getD i.toNat 0):=(ah.one.sub bi).mono (by decide);have bf:ah 700 (a'^n.toNat):=(ba.pow n.toNat).mono (by omega);have bg:ah 1500 (aG a' b' n.toNat):=(ba.aG bb n.toNat).mono (by omega);o_head kI hx i0 i1 (λv1 iv1=>?_);k_few;rename_i v2 H2 S2 iv2;refine Cq (hr'.by S2) ba bb h0 h64 (λv3 H3 S3 iv3=>?_);have T3:=S2.trans S3;have iv2':=iv2.by S3;have hx3:=hx.by T3;clear iv1 iv2 S2 S3 hx hr';k_few;obtain⟨lx,vs,rfl,hs,t⟩:=cj.mp hx3;refine jT hs (o0:=none) (tl:=[some v3,some v2]) rfl (λj v H=>Is K H v (N ((xs.map λx=>push a' b' n.toNat (x+(1-xs.getD i.toNat 0))).getD j 0))) ?_ ?_
 . rintro D j x ys o H1 hx' inv
   obtain⟨hj,ix⟩:=d_ t hx';have ix1:=ix.by inv.same;have jv2:=iv2'.by inv.same;have jv3:=iv3.by inv.same;have bx:ah 8000 (xs.getD j 0):=(hm.get j).mono hm2;k_few;rename_i v4 H4 S4 iv4;refine NZ (jv3.by S4) iv4 bf bg ((YQ hm j i.toNat).mono (by omega)) (λv5 H5 S5 iv5=>?_);exact dR inv (by omega) gR ⟨_,rfl⟩ (S4.trans S5) (by rw[Tv hj,jf];exact iv5)
 . rintro D ys H4 hn S4 e4 hl4 hr4
   have hvl:=t.length;rw[wo]at hvl;have hyl:ys.length=xs.length:=by omega
   clear hs t hx3 iv2' iv3;o_head pS (j:=i.toNat) e4 (by unfold gg;rw[if_pos i0,if_pos (by omega)]) (λH5 E5 e5=>?_);k_few;have hD:=mZ T3 hn;refine q D H5 _ hD ((T3.trans S4).grow hD E5) e5 (g_ (by rw[WP,iL];exact hyl) λj v hv=>?_);rw[W6]at hv
   by_cases hij:i.toNat=j
   . subst hij
     rw[if_pos rfl,if_pos (by omega)]at hv;cases hv;rw[ic _ _ _ _ _ _ (by omega),if_pos rfl];exact eB 0 (T.e_ _) rfl rfl
   . rw[if_neg hij]at hv
     have hj:j<xs.length:=by
       rcases wJ j ys.length with z | z
       . omega
       . rw[wP z]at hv;cases hv
     have hz:=hr4 j v hv;rw[Tv hj]at hz;rw[ic _ _ _ _ _ _ hj,if_neg (Wj hij)];exact hz.gT (E5.keep e4)
structure cW(a b:Rat)(ns:List Int)(xs:List Rat):Prop where
 ba:ah 10 a
 bb:ah 10 b
 n0:∀n∈ns,0<=n/\n<=64
 len:ns.length=xs.length+1
 cg:ns.length<=50
 cm:∃m,Cm m xs/\m+2*ns.length+21*upTo ns ns.length<=8000
theorem LB{ns:List Int} : ∀{k j:Nat},k<=j->j<=ns.length->upTo ns k<=upTo ns j:=by
 intro k j hk
 induction j with
 | zero => intro _; have : k = 0 := by omega
           subst this;exact wq _
 | succ j ih =>
   intro hj;rcases wJ k (j+1)with z | z
   . rw[rG (by omega)]
     have:=ih (by omega) (by omega);omega
   . have:k=j+1:=by omega
     subst this;exact wq _
theorem cW.row{a b:Rat}{ns:List Int}{xs:List Rat}(h:cW a b ns xs){k:Nat}(hk:k<=ns.length):∃m,Cm m (aW a b ns (xs++[0]) k)/\m<=8000:=by
 obtain⟨m,hm,hm2⟩:=h.cm;refine⟨_,(hm.snoc).rows h.ba h.bb k hk,?_⟩;have:=LB (ns:=ns) hk (wq _);omega
def nq(a b:Rat)(ns:List Int)(xs:List Rat):List (List Rat):=(wx (ns.length+1)).map (aW a b ns (xs++[0]))
theorem pK(a b:Rat)(ns:List Int)(xs:List Rat):(nq a b ns xs).length=ns.length+1:=by simp[nq]
theorem yW{a b:Rat}{ns:List Int}{xs:List Rat}{k:Nat}(h:k<=ns.length):(nq a b ns xs).getD k []=aW a b ns (xs++[0]) k:=by
 unfold nq;rw[wa,wu,vV (by omega)]
 rfl
def J8(K:wb):Sp:=λvs H Q _=>∃x0 x1 x2,vs=[x0,x1,x2] /\ ∃(a b:Rat)(ns:List Int)(xs:List Rat),Is K H x0 (R a b)/\Is K H x1 (TZ ns)/\Is K H x2 (TN xs)/\cW a b ns xs /\ ∀l H',ag H H'->Is K H' (.ref l) (LL (nq a b ns xs))->Q (.ref l) H'
theorem Cr{K:wb}{H:Hp}{Q:VK}{E:XK}{a b:Rat}{ns:List Int}{xs:List Rat}{v w u:V}(h1:Is K H v (R a b))(h2:Is K H w (TZ ns))(h3:Is K H u (TN xs))(ok:cW a b ns xs)(q:∀l H',ag H H'->Is K H' (.ref l) (LL (nq a b ns xs))->Q (.ref l) H'):J8 K [v,w,u] H Q E:=⟨_,_,_,rfl,a,b,ns,xs,h1,h2,h3,ok,q⟩
theorem Cp(T:Txt K mg a):aP P w K mg base aS 5 a.sD a.Iq tF (J8 K):=by
 refine T.sv.F.ok ya ?_ ?_;wtm_at "b3"
 refine⟨_,(ak (aB 3 ya.nd (dG (ae (aK cK (dg (show aN _ (.type "list") (k9 K)from pD) rfl T.z_list j5 (ae (pv 2) af)) (dG (ae (bS (v:=.ref a.cZ) rfl T.dS rfl) af))) af)))
     (ak (gA vD rfl (T1 rfl T.z_enumerate (ae (pv 1) af)) (j3 (n:=2) rfl (d5 (bM (i:=4) ya.nd rfl (Or.inl rfl)) (d5 (bM (i:=5) ya.nd rfl (Or.inl rfl)) jF))) (az (kj (jz vU Wa Wb jH (pv 3) (ae (au (zlG T) hr T.Gx (by exact(@ae _ _ _ _ _ (pv 0) (@ae _ _ _ _ _ (pv 5) (@ae _ _ _ _ _ (dr cX (pv 3) (pv 4) (λ_ _=>rfl)) (@ae _ _ _ _ _ (pv 4) af fZ) gE) fZ) fZ))) af)))))
     (az (aF (pv 3))))),?_⟩
 wtm_at "cl";rw[show start Se [x0,x1,x2]=[some x0,some x1,some x2,none,none,none]from rfl];obtain⟨a',b',ns,xs,hr',hn',hp',ok,q⟩:=h;have hlen:=ok.len;have hfew:=ok.cg;o_head u_ hp' (λl1 H1 us hl1 S1 e1 t1=>?_);have hul:=t1.length;rw[wo]at hul;o_head fW (by simp) (λl2 H2 hl2 S2 e2=>?_);refine zP (S2 _ _ e1) e2 (Vp (kH (by simp;omega))) (λl3 H3 hl3 S3 e3=>?_);o_head fW (by simp) (λlt H4 hlt S4 e4=>?_);have T4:ag H H4:=S1.trans (S2.trans (S3.trans S4));have e3':=S4 _ _ e3;have ne43:l3≠lt:=λz=>by subst z;rw[e3]at hlt;cases hlt
 have t3:av K H4 (us++[V.ref a.cZ]) ((xs++[0]).map N):=by
   rw[vK];exact(av.same (S2.trans (S3.trans S4)) _ _ t1).append (.cons (eB 0 (T.e_ _) rfl rfl) .nil)
 have hD:=mZ (S1.trans (S2.trans S3)) hlt;clear hl1 hl2 hl3 S1 S2 S3 S4 e1 e2 e3 t1 hlt;k_few;obtain⟨an,rfl,hsn⟩:=mq.mp hn'
 refine zwA (T4.ji hsn) (λk σ H'=>∃o1 o2 vs,σ = [some x0,some (.ref an),some x2,some (.ref lt),o1,o2]/\ag H H'/\H' lt=some (.lst vs)/\vs.length=k+1 /\ ∀j v,vs[j]? = some v->∃lj ws,v=.ref lj/\lj≠lt/\H' lj=some (.lst ws)/\av K H' ws ((aW a' b' ns (xs++[0]) j).map N))
   ⟨_,_,_,rfl,T4,e4,rfl,λj v hv=>?_⟩ (λk σ H' _ ⟨_,_,_,_,s,_⟩=>s.ji hsn) ?_ ?_
 . match j,hv with
   | 0,e=>cases w6 e;exact⟨l3,_,rfl,ne43,e3',t3⟩
   | j+1,e=>simp at e
 . rintro k x σ H5 t H6 hx ⟨o1,o2,vs,rfl,S5,e5,hl5,hr5⟩ ht S6 e6
   have hk:k<ns.length:=by
     rcases wJ k ns.length with z | z
     . exact z
     . rw[wP (by simpa using z)]at hx;cases hx
   have hxv:x=.int (ns.getD k 0):=by
     rw[wu,wc hk]at hx;rw[wa,wc hk];exact(w6 hx).symm
   subst hxv;have hnk:=ok.n0 (ns.getD k 0) (by rw[wa,wc hk];exact vt hk);refine kD (.of e6) rfl ?_;k_few;have e5':=S6 _ _ e5;refine ig (aO.of e5') ?_;k_few;have hkv:∃v,vs[k]? = some v:=⟨vs[k]'(by omega),wc (by omega)⟩;obtain⟨v,hv⟩:=hkv;obtain⟨lk,ws,rfl,nek,ek,tk⟩:=hr5 k v hv;refine iF (aO.of e5') (ke hv) ?_;k_few;obtain⟨m,hm,hm2⟩:=ok.row (k:=k) (by omega);have hrl:=di a' b' ns (xs++[0]) k;rw[wX]at hrl;have T6:=S5.trans S6;refine zls (hr'.by T6) (dE (S6 _ _ ek) (av.same S6 _ _ tk)) ok.ba ok.bb hnk.1 hnk.2 (by omega) (by rw[hrl];simp;omega) (by rw[hrl];simp;omega) hm hm2 (λl7 H7 us7 hl7 S7 e7 t7=>?_);have e5'':=S7 _ _ e5';have ne7:l7≠lt:=λz=>by subst z;rw[e5']at hl7;cases hl7
   o_head iS e5'' (by omega) (λH8 E8 e8=>?_);have K8:bE H7 H8:=E8.keep e5'';refine⟨_,_,_,rfl,(T6.trans S7).grow hD E8,e8,by simp[hl5],λj v hv=>?_⟩;rcases wJ j vs.length with z | z
   . rw[vO z]at hv
     obtain⟨lj,wj,rfl,nej,ej,tj⟩:=hr5 j v hv;exact⟨lj,wj,rfl,nej,E8 _ _ nej (S7 _ _ (S6 _ _ ej)),av.keep (S6.keep.trans (S7.keep.trans K8)) _ _ (eO _) tj⟩
   . have hj:j=vs.length:=by
       rcases wJ vs.length j with q | q
       . rw[wP (by simp;omega)]at hv;cases hv
       . omega
     subst hj;rw[vf (wq _),W5]at hv;cases w6 hv;rw[hl5];refine⟨l7,us7,rfl,ne7,E8 _ _ ne7 e7,av.keep K8 _ _ (eO _) ?_⟩;rw[aW]
     simpa using t7
 . rintro σ H5 ⟨o1,o2,vs,rfl,S5,e5,hl5,hr5⟩
   o_head q lt H5 S5 (cj.mpr ⟨lt,vs,rfl,.of e5,Pb (by rw[hl5,pK];simp) λj v hv=>?_⟩)
   have hj:j<vs.length:=by
     rcases wJ j vs.length with z | z
     . exact z
     . rw[wP z]at hv;cases hv
   obtain⟨lj,wj,rfl,nej,ej,tj⟩:=hr5 j v hv;rw[yW (by simp at hl5;omega)];exact dE ej tj
def c_(a b:Rat)(ns:List Int)(xs:List Rat):List Rat:=(aW a b ns (xs++[0]) ns.length).dropLast
def Mj(K:wb):Sp:=λvs H Q _=>∃x0 x1 x2,vs=[x0,x1,x2] /\ ∃(a b:Rat)(ns:List Int)(xs:List Rat),Is K H x0 (R a b)/\Is K H x1 (TZ ns)/\Is K H x2 (TN xs)/\cW a b ns xs /\ ∀v H',ag H H'->Is K H' v (TN (c_ a b ns xs))->Q v H'
theorem MG{K:wb}{H:Hp}{Q:VK}{E:XK}{a b:Rat}{ns:List Int}{xs:List Rat}{v w u:V}(h1:Is K H v (R a b))(h2:Is K H w (TZ ns))(h3:Is K H u (TN xs))(ok:cW a b ns xs)(q:∀v H',ag H H'->Is K H' v (TN (c_ a b ns xs))->Q v H'):Mj K [v,w,u] H Q E:=⟨_,_,_,rfl,a,b,ns,xs,h1,h2,h3,ok,q⟩
theorem Ua(T:Txt K mg a):aP P w K mg base aS 6 a.G3 a.Gu tK (Mj K):=by
 refine T.Bg.F.ok zmo ?_ ?_;wtm_at "b3";refine⟨_,(az (aF (dg (show aN _ (.type "tuple") (dJ K)from eP) rfl T.z_tuple dk (ae (mj mv (dr cX (au (Cp T) hr T.sv (ae (pv 0) (ae (pv 1) (ae (pv 2) af)))) (gL gK aD) (λ_ _=>rfl)) mh (lD (gL gK aD))) af)))),?_⟩;wtm_at "cl";rw[show start Fo [x0,x1,x2]=[some x0,some x1,some x2]from rfl];obtain⟨a',b',ns,xs,hr',hn',hp',ok,q⟩:=h;o_head Cr hr' hn' hp' ok (λl H1 S1 i1=>?_);o_head zwl i1 (by rw[pK];omega) (λv2 i2=>?_);rw[pK,qD,yW (wq _)]at i2;o_head pq i2 (λl3 H3 ys hn3 S3 e3 t3=>?_);rw[MF,<- Xv]at t3;o_head gY (dE e3 t3) (λw H4 S4 i4=>?_);exact q w H4 (S1.trans (S3.trans S4)) i4
theorem Lz{a b:Rat}{ns:List Int}{xs:List Rat}{m:Nat}(ok:cW a b ns xs)(c:Cm m xs)(hm:m+2*ns.length+21*upTo ns ns.length<=8000){k:Nat}(hk:k<=ns.length):Cm 8000 (fI a b ns (xs++[0]) k::aW a b ns (xs++[0]) k):=by
 have h1:=LB (ns:=ns) hk (wq _);exact(c.snoc.JN ok.ba ok.bb (ns:=ns) k hk).mono (by omega)
def LC(K:wb):Sp:=λvs H Q _=>∃x0 x1 x2,vs=[x0,x1,x2] /\ ∃(a b:Rat)(ns:List Int)(xs:List Rat)(m:Nat),Is K H x0 (R a b)/\Is K H x1 (TZ ns)/\Is K H x2 (TN xs)/\cW a b ns xs/\Cm m xs/\m+2*ns.length+21*upTo ns ns.length<=8000 /\ ∀v H',ag H H'->Is K H' v (N (fq a b ns xs))->Q v H'
theorem ZJ{K:wb}{H:Hp}{Q:VK}{E:XK}{a b:Rat}{ns:List Int}{xs:List Rat}{m:Nat}{v w u:V}(h1:Is K H v (R a b))(h2:Is K H w (TZ ns))(h3:Is K H u (TN xs))(ok:cW a b ns xs)(hm:Cm m xs)(hm2:m+2*ns.length+21*upTo ns ns.length<=8000)(q:∀v H',ag H H'->Is K H' v (N (fq a b ns xs))->Q v H'):LC K [v,w,u] H Q E:=⟨_,_,_,rfl,a,b,ns,xs,m,h1,h2,h3,ok,hm,hm2,q⟩
theorem zoX(T:Txt K mg a):aP P w K mg base aS 6 a.HN a.GW yo (LC K):=by
 refine T.G2.F.ok rR ?_ ?_;wtm_at "b3"
 refine⟨_,(ak (aB 3 rR.nd (bS (v:=.ref a.cZ) rfl T.dS rfl))
     (ak (aB 4 rR.nd (au (Cp T) hr T.sv (ae (pv 0) (ae (pv 1) (ae (pv 2) af)))))
     (ak (gA vD rfl (jW rfl T.z_range (ae (br (show aN _ (.builtin "len") (cF K)from dy) rfl T.z_len dA (ae (pv 1) af)) af)) (bM (i:=5) rR.nd rfl (Or.inl rfl)) (az (aB 3 rR.nd (au (gy T) hr T.fM (ae (pv 3) (ae (au (tD T) hr T.oH (ae (bS (v:=.ref a.d4) rfl T.fk rfl) (ae (dr cX (dr cX (pv 4) (pv 5) (λ_ _=>rfl)) (pv 5) (λ_ _=>rfl)) af))) af))))))
     (az (aF (pv 3)))))),?_⟩
 wtm_at "cl";rw[show start NO [x0,x1,x2]=[some x0,some x1,some x2,none,none,none]from rfl];obtain⟨a',b',ns,xs,m,hr',hn',hp',ok,hm,hm2,q⟩:=h;o_head Cr hr' hn' hp' ok (λl H1 S1 i1=>?_);o_head Cb (hn'.by S1) ?_;have hlen:=ok.len;have hfew:=ok.cg;refine lO (n:=(ns.length:Int)) (by omega) (by omega) (λk σ H'=>∃v o,σ = [some x0,some x1,some x2,some v,some (.ref l),o]/\ag H1 H'/\Is K H' v (N (fI a' b' ns (xs++[0]) k))) ⟨_,_,rfl,ag.refl _,eB 0 (T.e_ _) rfl rfl⟩ ?_ ?_
 . rintro k σ H2 hk ⟨v,o,rfl,S2,iv⟩
   have hk':k<ns.length:=by simpa using hk
   have c:=Lz ok hm hm2 (k:=k) (by omega);have b1:ah 8000 (fI a' b' ns (xs++[0]) k):=c.eQ (wG ..);have b2:ah 8000 ((aW a' b' ns (xs++[0]) k).getD k 0):=(lR c λy hy=>wF _ hy).get k;have b4:ah 8002 (1-(aW a' b' ns (xs++[0]) k).getD k 0):=(ah.one.sub b2).mono (by decide);have i2:=i1.by S2;o_head Kw i2 (by omega) (by rw[pK];omega) (λv3 i3=>?_);rw[wU,yW (by omega)]at i3;o_head kI i3 (by omega) (by rw[di,wX];simp;omega) (λv4 i4=>?_);rw[wU]at i4;k_few;exact⟨_,_,rfl,S2.trans (ag.trans (by assumption) (by assumption)),by assumption⟩
 . rintro σ H2 ⟨v,o,rfl,S2,iv⟩
   k_few;exact q _ _ (S1.trans S2) iv
def fe(a b:Rat)(ns:List Int)(xs:List Rat):List Rat:=(wx ns.length).map λk=>(aW a b ns (xs++[0]) (k+1)).getD ((k+1) % ns.length) 0
theorem jv(a b:Rat)(ns:List Int)(xs:List Rat):(fe a b ns xs).length=ns.length:=by simp[fe]
theorem nk{a b:Rat}{ns:List Int}{xs:List Rat}{k:Nat}(h:k<ns.length):(fe a b ns xs).getD k 0=(aW a b ns (xs++[0]) (k+1)).getD ((k+1) % ns.length) 0:=by
 unfold fe;rw[wa,wu,vV h]
 rfl
def SF(K:wb):Sp:=λvs H Q _=>∃x0 x1 x2,vs=[x0,x1,x2] /\ ∃(a b:Rat)(ns:List Int)(xs:List Rat),Is K H x0 (R a b)/\Is K H x1 (TZ ns)/\Is K H x2 (TN xs)/\cW a b ns xs /\ ∀v H',ag H H'->Is K H' v (TN (fe a b ns xs))->Q v H'
theorem Ot{K:wb}{H:Hp}{Q:VK}{E:XK}{a b:Rat}{ns:List Int}{xs:List Rat}{v w u:V}(h1:Is K H v (R a b))(h2:Is K H w (TZ ns))(h3:Is K H u (TN xs))(ok:cW a b ns xs)(q:∀v H',ag H H'->Is K H' v (TN (fe a b ns xs))->Q v H'):SF K [v,w,u] H Q E:=⟨_,_,_,rfl,a,b,ns,xs,h1,h2,h3,ok,q⟩
theorem Nx(T:Txt K mg a):aP P w K mg base aS 6 a.iK a.Jz AR (SF K):=by
 refine T.By.F.ok B8 ?_ ?_;wtm_at "b3"
 refine⟨_,(ak (aB 3 B8.nd (au (Cp T) hr T.sv (ae (pv 0) (ae (pv 1) (ae (pv 2) af)))))
     (ak (aB 4 B8.nd (br (show aN _ (.builtin "len") (cF K)from dy) rfl T.z_len dA (ae (pv 1) af)))
     (az (aF (dg (show aN _ (.type "tuple") (dJ K)from eP) rfl T.z_tuple dk (ae (eh rfl (cv.by (N':=["turn","rows","count"]) (src:=[none,some 3,some 4]) rfl (show cN _ (aA tE).names Ez ["turn","rows","count"] [none,some 3,some 4]=true from by decide +kernel)) (jW rfl T.z_range (ae (pv 4) af)) (λ_ _ _ _ _=>(bM (i:=0) (show(["turn","rows","count"]:List Str).Nodup from by decide) rfl (Or.inl rfl))) (λ_ _ _ _ _=>du) (λ_ _ _ _ _=>(dr (show gf _ (c6 K)from cX) (dr (show gf _ (c6 K)from cX) (pv 1) (aK cK (pv 0) aD) (λ_ _=>rfl)) (aK gP (aK cK (pv 0) aD) (pv 2)) (λ_ _=>rfl)))) af)))))),?_⟩
 wtm_at "cl";rw[show start Ez [x0,x1,x2]=[some x0,some x1,some x2,none,none]from rfl];obtain⟨a',b',ns,xs,hr',hn',hp',ok,q⟩:=h;have hlen:=ok.len;have hfew:=ok.cg;o_head Cr hr' hn' hp' ok (λl H1 S1 i1=>?_);o_head Cb (hn'.by S1) ?_;o_head Ro (n:=(ns.length:Int)) (by omega) (by omega) (o0:=none) (tl:=[some (.ref l),some (.int (ns.length:Int))]) rfl (λi v H=>Is K H v (N ((fe a' b' ns xs).getD i 0))) ?_ ?_
 . rintro D i ys o H2 hi inv
   have hi':i<ns.length:=by simpa using hi
   have i2:=i1.by inv.same;have hn0:(0:Int)<(ns.length:Int):=by omega
   o_head Kw i2 (by omega) (by rw[pK];omega) (λv3 i3=>?_);rw[show((i:Int)+1).toNat=i+1 by omega,yW (by omega)]at i3;k_few;have e:((i:Int)+1) % (ns.length:Int)=(((i+1) % ns.length:Nat):Int):=by push_cast;rfl
   have hm:(i+1) % ns.length<ns.length:=Nat.mod_lt _ (by omega);rw[e];refine kI i3 (by omega) (by rw[di,wX];simp;omega) (λv4 i4=>?_);rw[wU,<- nk hi']at i4;exact dR inv (by omega) gR ⟨_,rfl⟩ (ag.refl _) i4
 . rintro D ys H2 hn S2 e2 hl2 hr2
   o_head gY (dE e2 (g_ (by rw[hl2,jv];simp) hr2)) (λw H3 S3 i3=>?_);exact q w H3 (S1.trans (S2.trans S3)) i3
theorem yB{bs:List Bool}{zs:List V}(hl:zs.length=bs.length)(h:∀j z,zs[j]? = some z->z=V.bl (bs.getD j true)):zs=bs.map V.bl:=by
 refine Wg (by rw[wo];exact hl) λi h1 h2=>?_
 rw[h i _ (wc h1),Ww,wa,wc (by omega)]
 rfl
def dB(xs:List Rat):List Rat:=[1]++xs++[0]
theorem AM(xs:List Rat):(dB xs).length=xs.length+2:=by simp[dB]
def nR(xs:List Rat):List Bool:=(wx (xs.length+1)).map λi=>decide ((dB xs).getD (i+1) 0<(dB xs).getD i 0)
def l_(ts:List Rat):List Bool:=ts.map λx=>decide (x<1)
def fi(a b:Rat)(ns:List Int)(xs:List Rat):Bool:=(nR xs).all id&&(l_ (fe a b ns xs)).all id
theorem ztV{xs:List Rat}{i:Nat}(h:i<xs.length+1):(nR xs).getD i true=decide ((dB xs).getD (i+1) 0<(dB xs).getD i 0):=by
 unfold nR;rw[wa,wu,vV h]
 rfl
theorem zw8{ts:List Rat}{i:Nat}(h:i<ts.length):(l_ ts).getD i true=decide (ts.getD i 0<1):=by
 unfold l_;rw[wa,wu,wa,wc h]
 rfl
theorem J9{m:Nat}{xs:List Rat}(h:Cm m xs)(i:Nat):ah m ((dB xs).getD i 0):=by
 unfold dB;rcases Nat.eq_zero_or_pos i with rfl | hi
 ·exact ah.one.mono h.pos
 ·obtain⟨j,rfl⟩:∃j,i=j+1:=⟨i-1,by omega⟩
  exact h.snoc.get j
theorem Kr{a b:Rat}{ns:List Int}{xs:List Rat}(ok:cW a b ns xs){i:Nat}(hi:i<ns.length):ah 8000 ((fe a b ns xs).getD i 0):=by
 rw[nk hi];obtain⟨m,hm,hm2⟩:=ok.row (k:=i+1) (by omega);exact(hm.get _).mono hm2
def SM(K:wb):Sp:=λvs H Q _=>∃x0 x1 x2,vs=[x0,x1,x2] /\ ∃(a b:Rat)(ns:List Int)(xs:List Rat),Is K H x0 (R a b)/\Is K H x1 (TZ ns)/\Is K H x2 (TN xs)/\cW a b ns xs /\ ∀H',ag H H'->Q (.bl (fi a b ns xs)) H'
theorem rk{K:wb}{H:Hp}{Q:VK}{E:XK}{a b:Rat}{ns:List Int}{xs:List Rat}{v w u:V}(h1:Is K H v (R a b))(h2:Is K H w (TZ ns))(h3:Is K H u (TN xs))(ok:cW a b ns xs)(q:∀H',ag H H'->Q (.bl (fi a b ns xs)) H'):SM K [v,w,u] H Q E:=⟨_,_,_,rfl,a,b,ns,xs,h1,h2,h3,ok,q⟩
theorem rD(T:Txt K mg a):aP P w K mg base aS 7 a.Js a.HP AB (SM K):=by
 refine T.mH.F.ok Uc ?_ ?_;wtm_at "b3"
 refine⟨_,(ak (aB 3 Uc.nd (aK cK (aK cK (dG (ae (bS (v:=.ref a.d4) rfl T.fk rfl) af)) (dg (show aN _ (.type "list") (k9 K)from pD) rfl T.z_list j5 (ae (pv 2) af))) (dG (ae (bS (v:=.ref a.cZ) rfl T.dS rfl) af))))
     (ak (bP (cA (cu (br (show aN _ (.builtin "all") (j4 K)from mi rfl) rfl T.z_all l9 (ae (eh rfl (cv.by (N':=["upper","lower"]) (src:=[none,none]) rfl (show cN _ (aA oX).names u3 ["upper","lower"] [none,none]=true from by decide +kernel)) (NF rfl T.z_zip (ae (pv 3) (ae (mj mv (pv 3) (lD aD) mh) af))) (λ_ _ _ _ _=>by exact(show PG _ _ (iY K 2 _)from j3 (n:=2) rfl (d5 (bM (i:=0) (show(["upper","lower"]:List Str).Nodup from by decide) rfl (Or.inl rfl)) (d5 (bM (i:=1) (show(["upper","lower"]:List Str).Nodup from by decide) rfl (Or.inl rfl)) jF)))) (λ_ _ _ _ _=>du) (λ_ _ _ _ _=>(au (gQ (K:=K) (mg:=mg) (a:=a) T) hr T.gc (ae (pv 1) (ae (pv 0) af))))) af)))) (az (aF d8)) bQ)
     (az (aF (br (show aN _ (.builtin "all") (j4 K)from mi rfl) rfl T.z_all l9 (ae (eh rfl (cv.by (N':=["top"]) (src:=[none]) rfl (show cN _ (aA oX).names u3 ["top"] [none]=true from by decide +kernel)) (iW (au (Nx T) hr T.By (ae (pv 0) (ae (pv 1) (ae (pv 2) af))))) (λ_ _ _ _ _=>(bM (i:=0) (show(["top"]:List Str).Nodup from by decide) rfl (Or.inl rfl))) (λ_ _ _ _ _=>du) (λ_ _ _ _ _=>(au (gQ (K:=K) (mg:=mg) (a:=a) T) hr T.gc (ae (pv 0) (ae (bS (v:=.ref a.d4) rfl T.fk rfl) af))))) af)))))),?_⟩
 wtm_at "cl";rw[show start u3 [x0,x1,x2]=[some x0,some x1,some x2,none]from rfl];obtain⟨a',b',ns,xs,hr',hn',hp',ok,q⟩:=h;have hlen:=ok.len;have hfew:=ok.cg;obtain⟨m,hcm,hcm2⟩:=ok.cm;o_head fW (by simp) (λl0 H1 n1 S1 e1=>?_);o_head u_ (hp'.by S1) (λl1 H2 us n2 S2 e2 t2=>?_);have hul:=t2.length;rw[wo]at hul;refine zP (S2 _ _ e1) e2 (Vp (kH (by simp;omega))) (λl2 H3 n3 S3 e3=>?_);o_head fW (by simp) (λl3 H4 n4 S4 e4=>?_);refine zP (S4 _ _ e3) e4 (Vp (kH (by simp;omega))) (λl5 H5 n5 S5 e5=>?_);have T5:ag H H5:=S1.trans (S2.trans (S3.trans (S4.trans S5)))
 have t5:av K H5 ([V.ref a.d4]++us++[V.ref a.cZ]) ((dB xs).map N):=by
   unfold dB;rw[vK,vK];exact(av.append (.cons (eB 1 (T.sG _) rfl rfl) .nil) (av.same (S3.trans (S4.trans S5)) _ _ t2)).append (.cons (eB 0 (T.e_ _) rfl rfl) .nil)
 have ir5:=hr'.by T5;have in5:=hn'.by T5;have ip5:=hp'.by T5;clear n1 n2 n3 n4 n5 S1 S2 S3 S4 S5 e1 e2 e3 e4 t2 hr' hn' hp';generalize [V.ref a.d4]++us++[V.ref a.cZ]=ws at e5 t5;have hws:=t5.length;rw[wo,AM]at hws;o_head pq (dE e5 t5) (λl6 H6 ys n6 S6 e6 t6=>?_);rw[show(1:Int)=((1:Nat):Int)from rfl,Tq _ _ (by rw[wo,AM];omega),<- uE]at t6;have hys:=t6.length;rw[wo,Wf,AM]at hys;have e56:=S6 _ _ e5;have t56:=av.same S6 _ _ t5;have T6:=T5.trans S6;have ir6:=ir5.by S6;have in6:=in5.by S6;have ip6:=ip5.by S6;clear ir5 in5 ip5 T5 S6 e5 t5 n6;o_head zxs (t:=false) (u:=false) (aO.of e56) (aO.of e6) (by omega) (o0:=none) (o0':=none) (tl:=[]) rfl (λi v H=>v=V.bl ((nR xs).getD i true)) (λ_ _ _ _ _ h=>h) ?_ ?_
 . rintro D i x y zs o1 o2 H7 c hx hy inv e7
   obtain⟨hi,ix⟩:=d_ t56 hx;obtain⟨hj,iy⟩:=d_ t6 hy;rw[Wf,AM]at hj
   have ed:((dB xs).drop 1).getD i 0=(dB xs).getD (i+1) 0:=by
     rw[wa,Xa,wa,Nat.add_comm]
   rw[ed]at iy;have S7:=inv.2.2.1;have b1:ah 8000 ((dB xs).getD i 0):=(J9 hcm i).mono (by omega);have b2:ah 8000 ((dB xs).getD (i+1) 0):=(J9 hcm (i+1)).mono (by omega);refine zA (kD (.of e7) rfl ?_);have ix7:=ix.by S7;have iy7:=iy.by S7;k_few;exact sU inv (by omega) (λ_ _ _ _ _ h=>h) ⟨_,_,rfl⟩ (ag.refl _) (by rw[ztV (by omega)])
 . rintro D zs H7 hn S7 e7 hl7 hr7
   have hz:=yB (bs:=nR xs) (by unfold nR;rw[wo,vB];omega) hr7;rw[hz]at e7;o_head kq (.of e7) ?_;k_few
   . rename_i z
     have ef:fi a' b' ns xs=false:=by unfold fi;rw[z];rfl
     rw[<- ef];exact q _ (T6.trans S7)
   . rename_i z
     have ef:fi a' b' ns xs=(l_ (fe a' b' ns xs)).all id:=by unfold fi;rw[z];rfl
     rw[ef]at q;refine Ot (ir6.by S7) (in6.by S7) (ip6.by S7) ok (λv8 H8 S8 i8=>?_);have T8:=T6.trans (S7.trans S8);obtain⟨a8,us8,rfl,hs8,t8⟩:=b7.mp i8;have hl8:=t8.length;rw[wo,jv]at hl8;refine iD hs8 (o0:=none) (tl:=[]) rfl (λi v H=>v=V.bl ((l_ (fe a' b' ns xs)).getD i true)) ?_ ?_
     . rintro D i x ys' o H9 hx inv
       obtain⟨hi,ix⟩:=d_ t8 hx;rw[jv]at hi;have ix9:=ix.by inv.same;have b1:ah 8000 ((fe a' b' ns xs).getD i 0):=Kr ok hi;have b2:ah 8000 1:=ah.one.mono (by decide);k_few;exact dR inv (by omega) (λ_ _ _ _ _ h=>h) ⟨_,rfl⟩ (ag.refl _) (by rw[zw8 (by rw[jv];exact hi)])
     . rintro D ys' H9 hn9 S9 e9 hl9 hr9
       have hz':=yB (bs:=l_ (fe a' b' ns xs)) (by unfold l_;rw[wo,jv];omega) hr9;rw[hz']at e9;o_head kq (.of e9) ?_;exact q _ (T8.trans S9)
def cU(n:Nat):List Rat:=Vf n 0
theorem L4(n i:Nat):(cU n).getD i 0=0:=by
 unfold cU;rw[wa,Q0]
 split<;>rfl
theorem zb(n:Nat):Cm 1 (cU n):=by
 refine⟨1,by decide,⟨by decide⟩,λx hx=>⟨0,?_,⟨by decide⟩⟩⟩;rw[List.eq_of_mem_replicate hx]
 rfl
def Te(K:wb):Sp:=λvs H Q _=>∃x0 x1,vs=[x0,x1] /\ ∃(a b:Rat)(ns:List Int),Is K H x0 (R a b)/\Is K H x1 (TZ ns)/\cW a b ns (cU (ns.length-1))/\0<=ns.sum/\ns.sum<=64 /\ ∀v H',ag H H'->Is K H' v (.tuple [N (a^ns.sum.toNat),TN (c_ a b ns (cU (ns.length-1)))])->Q v H'
theorem pb{K:wb}{H:Hp}{Q:VK}{E:XK}{a b:Rat}{ns:List Int}{v w:V}(h1:Is K H v (R a b))(h2:Is K H w (TZ ns))(ok:cW a b ns (cU (ns.length-1)))(h0:0<=ns.sum)(h64:ns.sum<=64)(q:∀v H',ag H H'->Is K H' v (.tuple [N (a^ns.sum.toNat),TN (c_ a b ns (cU (ns.length-1)))])->Q v H'):Te K [v,w] H Q E:=⟨_,_,rfl,a,b,ns,h1,h2,ok,h0,h64,q⟩
theorem rW(T:Txt K mg a):aP P w K mg base aS 7 a.IL a.Hh Aq (Te K):=by
 refine T.mG.F.ok DF ?_ ?_;wtm_at "b2"
 refine⟨_,(ak (aB 2 DF.nd (ay (au (t_ T) hr T.oF (ae (pv 0) (ae (br (show aN _ (.builtin "sum") (Dc K)from zw2 rfl) rfl T.z_sum zCU (ae (pv 1) af)) af)))))
     (ak (aB 3 DF.nd (dg (show aN _ (.type "tuple") (dJ K)from eP) rfl T.z_tuple dk (ae (eh rfl (cv.by (N':=["size"]) (src:=[none]) rfl (show cN _ (aA yC).names Dd ["size"] [none]=true from by decide +kernel)) (iW (mj mv (pv 1) (lD aD) mh)) (λ_ _ _ _ _=>(bM (i:=0) (show(["size"]:List Str).Nodup from by decide) rfl (Or.inl rfl))) (λ_ _ _ _ _=>du) (λ_ _ _ _ _=>(bS (v:=.ref a.cZ) rfl T.dS rfl))) af)))
     (az (aF (bL (ae (pv 2) (ae (au (Ua T) hr T.Bg (ae (pv 0) (ae (pv 1) (ae (pv 3) af)))) af))))))),?_⟩
 wtm_at "cl";rw[show start Dd [x0,x1]=[some x0,some x1,none,none]from rfl];obtain⟨a',b',ns,hr',hn',ok,h0,h64,q⟩:=h;have hlen:=ok.len;have hfew:=ok.cg;o_head YR hn' ?_;o_head Cq hr' ok.ba ok.bb h0 h64 (λv1 H1 S1 i1=>?_);k_few;rename_i v2 i2;have hn1:Is K H1 x1 (.tuple (ns.map PyData.int)):=hn'.by S1;refine MY hn1 ?_ (λv3 H3 S3 i3=>?_)
 . rintro ⟨e,_⟩
   have e':min 1 (ns.map PyData.int).length=0:=e;rw[wo]at e';omega
 rw[Ob]at i3;obtain⟨a3,vs3,rfl,hs3,t3⟩:=b7.mp i3;have hl3:=t3.length;rw[qX,wo]at hl3;have hzl:(cU (ns.length-1)).length=ns.length-1:=WX ..;o_head iD hs3 (o0:=none) (tl:=[]) rfl (λi v H=>Is K H v (N ((cU (ns.length-1)).getD i 0))) ?_ ?_
 . rintro D i x ys o H4 hx inv
   have hi:i<vs3.length:=by
     rcases wJ i vs3.length with z | z
     . exact z
     . rw[wP z]at hx;cases hx
   k_few;exact dR inv (by omega) gR ⟨_,rfl⟩ (ag.refl _) (by rw[L4];exact eB 0 (T.e_ _) rfl rfl)
 . rintro D ys H4 hn4 S4 e4 hl4 hr4
   o_head gY (dE (xs:=cU (ns.length-1)) e4 (g_ (by omega) hr4)) (λv5 H5 S5 i5=>?_);have T5:ag H1 H5:=S3.trans (S4.trans S5);o_head MG ((hr'.by S1).by T5) ((hn'.by S1).by T5) i5 ok (λv6 H6 S6 i6=>?_);k_few;exact cy (by simp) (.cons (i2.by (T5.trans S6)) (.cons i6 .nil)) (λv H' S h=>q v H' (S1.trans (T5.trans (S6.trans S))) h)
def dU(a b:Rat)(ns:List Int):List Rat:=(c_ a b ns (cU (ns.length-1))).map (λs=>s / (1-a^ns.sum.toNat))
theorem nQ{a b:Rat}{ns:List Int}{xs:List Rat}(h:ns.length=xs.length+1):(c_ a b ns xs).length=xs.length:=by
 unfold c_;rw[xI,di];simp
theorem DC{a b:Rat}{ns:List Int}{xs:List Rat}(h:ns.length=xs.length+1){i:Nat}(hi:i<xs.length):(c_ a b ns xs).getD i 0=(aW a b ns (xs++[0]) ns.length).getD i 0:=by
 unfold c_;have hl:(aW a b ns (xs++[0]) ns.length).length=xs.length+1:=by rw[di];simp
 rw[wa,wa,List.getElem?_dropLast,if_pos (by omega)]
theorem C7{xs:List Rat}{i:Nat}(h:i<xs.length):(xs++[0]).getD i 0=xs.getD i 0:=by
 rw[wa,wa,vO h]
theorem pF{xs:List Rat} : (xs++[0]).getD xs.length 0=0:=by
 rw[wa,vf (wq _),W5]
 rfl
theorem Ue:∀{ns:List Int},(∀n∈ns,0<=n)->((ns.map Q6).sum:Int)=ns.sum
 | [],_=>rfl
 | n::ns,h=>by
  have h1:=Ue (ns:=ns) λm hm=>h m (wF _ hm)
  have h2:=h n (wG ..);rw[va,W8,W8];omega
theorem Tt{ns:List Int}(h:∀n∈ns,0<=n):upTo ns ns.length=ns.sum.toNat:=by
 have:=Ue h;unfold GM.upTo;rw[Wv];omega
theorem ZH{a b:Rat}{ns:List Int}{xs:List Rat}(h:ns.length=xs.length+1)(hn:∀n∈ns,0<=n){i:Nat}(hi:i<xs.length):(c_ a b ns xs).getD i 0=a^ns.sum.toNat*xs.getD i 0+(c_ a b ns (cU (ns.length-1))).getD i 0:=by
 have hz:(cU (ns.length-1)).length=xs.length:=by unfold cU;rw[WX];omega
 have hu:=Tt hn;rw[DC h hi,DC (by omega) (by omega)];have hr:=FD a b ns (xs++[0]) (cU (ns.length-1)++[0]) (by simp[hz]) (by simp[h]) xs.length (by simp) (by rw[pF];rw[<- hz,pF]) ns.length (wq _) i (by simp;omega);rw[if_neg (by omega),show ns.length-1=xs.length by omega]at hr;rw[show ns.length-1=xs.length by omega]at hz ⊢;rw[pF,C7 hi,C7 (by omega),L4,hu]at hr
 have hl0:(cU xs.length++[0]).getD xs.length 0=0:=by
  have:=pF (xs:=cU xs.length);rw[hz]at this;exact this
 rw[hl0]at hr
 grind
theorem Ls{a b:Rat}{ns:List Int}(h:1<=ns.length):(dU a b ns).length=ns.length-1:=by
 unfold dU;rw[wo,nQ (by unfold cU;rw[WX];omega)];unfold cU;rw[WX]
theorem ZP{a b:Rat}{ns:List Int}{i:Nat}(h:i<(dU a b ns).length):(dU a b ns).getD i 0=(c_ a b ns (cU (ns.length-1))).getD i 0 / (1-a^ns.sum.toNat):=by
 unfold dU at *;rw[wo]at h;rw[wa,wu,wa,wc h];rfl
theorem R4{m n:Nat}{xs:List Rat}{g:Rat}(h:Cm m xs)(bg:ah n g)(hg:g≠0):Cm (m+n) (xs.map (λs=>s / g)):=by
 obtain⟨B,h0,bB,hx⟩:=h;have hgn:=C4 hg
 have key:∀(t:Int),wH t B / g=wH (t*(g.den:Int)) (B*g.num):=by
  intro t
  conv=>lhs;rw[<- Qw g]
  rw[XC,Rat.inv_divInt,Rat.divInt_mul_divInt]
 rcases Int.lt_or_gt_of_ne hgn with z | z
 ·refine⟨B * -g.num,We h0 (by omega),bB.mul bg.t.neg,λx hxm=>?_⟩
  obtain⟨s,hs,rfl⟩:=wO.mp hxm;obtain⟨t,rfl,bt⟩:=hx s hs;refine⟨-(t*(g.den:Int)),?_,(bt.mul bg.b).neg⟩
  show wH t B / g=_
  rw[key t,Xz,Rat.divInt_neg',Int.neg_neg]
 ·refine⟨B*g.num,We h0 (by omega),bB.mul bg.t,λx hxm=>?_⟩
  obtain⟨s,hs,rfl⟩:=wO.mp hxm;obtain⟨t,rfl,bt⟩:=hx s hs;exact⟨t*(g.den:Int),key t,bt.mul bg.b⟩
theorem Eo{a b:Rat}{ns:List Int}{xs:List Rat}{m:Nat}(ba:ah 10 a)(bb:ah 10 b)(hm:Cm m xs):Cm (m+2*ns.length+21*upTo ns ns.length) (c_ a b ns xs):=by
 obtain⟨B,h0,h1,h2⟩:=(hm.snoc).rows ba bb (ns:=ns) ns.length (wq _);exact⟨B,h0,h1,λx hx=>h2 x (List.dropLast_subset _ hx)⟩
theorem zzt{a b:Rat}{ns:List Int}(ba:ah 10 a)(bb:ah 10 b)(h8:ns.length<=8)(hu:upTo ns ns.length<=8)(hs:ns.sum.toNat<=8)(hF:a^ns.sum.toNat≠1):Cm 268 (dU a b ns):=by
 have bF:ah 81 (a^ns.sum.toNat):=(ba.pow ns.sum.toNat).mono (by omega);have bg:ah 83 (1-a^ns.sum.toNat):=(ah.one.sub bF).mono (by decide);have hg:1-a^ns.sum.toNat≠0:=λe=>hF (by grind)
 exact(R4 (Eo (ns:=ns) ba bb (zb (ns.length-1))) bg hg).mono (by omega)
theorem zqr{a b:Rat}{ns:List Int}(ok:cW a b ns (cU (ns.length-1)))(h8:ns.sum<=8)(i:Nat):ah 400 ((c_ a b ns (cU (ns.length-1))).getD i 0):=((Eo ok.ba ok.bb (zb _)).get i).mono (by
 have h1:=Tt (λn hn=>(ok.n0 n hn).1);have h2:=ok.cg;omega)
def Sb(K:wb):Sp:=λvs H Q _=>∃x0 x1,vs=[x0,x1] /\ ∃(a b:Rat)(ns:List Int),Is K H x0 (R a b)/\Is K H x1 (TZ ns)/\cW a b ns (cU (ns.length-1))/\0<=ns.sum/\ns.sum<=8/\(a^ns.sum.toNat=1->∀H',ag H H'->Q .bX H')/\(a^ns.sum.toNat≠1->∀v H',ag H H'->Is K H' v (TN (dU a b ns))->Q v H')
theorem TH{K:wb}{H:Hp}{Q:VK}{E:XK}{a b:Rat}{ns:List Int}{v w:V}(h1:Is K H v (R a b))(h2:Is K H w (TZ ns))(ok:cW a b ns (cU (ns.length-1)))(h0:0<=ns.sum)(h8:ns.sum<=8)(q1:a^ns.sum.toNat=1->∀H',ag H H'->Q .bX H')(q2:a^ns.sum.toNat≠1->∀v H',ag H H'->Is K H' v (TN (dU a b ns))->Q v H'):Sb K [v,w] H Q E:=⟨_,_,rfl,a,b,ns,h1,h2,ok,h0,h8,q1,q2⟩
theorem Mr(T:Txt K mg a):aP P w K mg base aS 8 a.JP a.IX tm (Sb K):=by
 refine T.Bv.F.ok CQ ?_ ?_;wtm_at "b2"
 refine⟨_,(ak (aB 2 CQ.nd (au (rW T) hr T.mG (ae (pv 0) (ae (pv 1) af))))
     (ak (bP (bY (show aJ _ (wN .Eq) (cH K)from dj hu) (ay (pv 2)) (bS (v:=.ref a.d4) rfl T.fk rfl) (bA _)) (az (aF jJ)) bQ)
     (ak (aB 3 CQ.nd (au (tD T) hr T.oH (ae (bS (v:=.ref a.d4) rfl T.fk rfl) (ae (ay (pv 2)) af))))
     (az (aF (dg (show aN _ (.type "tuple") (dJ K)from eP) rfl T.z_tuple dk (ae (eh rfl (cv.by (N':=["shift","gap"]) (src:=[none,some 3]) rfl (show cN _ (aA yf).names BL ["shift","gap"] [none,some 3]=true from by decide +kernel)) (iW (ay (pv 2))) (λ_ _ _ _ _=>(bM (i:=0) (show(["shift","gap"]:List Str).Nodup from by decide) rfl (Or.inl rfl))) (λ_ _ _ _ _=>du) (λ_ _ _ _ _=>(au (LH (K:=K) (mg:=mg) (a:=a) T) hr T.Bz (ae (pv 0) (ae (pv 1) af))))) af))))))),?_⟩
 wtm_at "cl";rw[show start BL [x0,x1]=[some x0,some x1,none,none]from rfl];obtain⟨ra,rb,ns,hr',hn',ok,h0,h8,q1,q2⟩:=h;have bF:ah 100 (ra^ns.sum.toNat):=(ok.ba.pow ns.sum.toNat).mono (by omega);o_head pb hr' hn' ok h0 (by omega) (λv1 H1 S1 i1=>?_);o_head aC (j:=0) i1 rfl (λv2 i2=>?_);k_few
 . rename_i z
   exact q1 z H1 S1
 . rename_i z
   refine aC (j:=0) i1 rfl (λv3 i3=>?_);k_few;rename_i v4 H4 S4 i4;have hg:(1-ra^ns.sum.toNat)≠0:=λe=>z (by grind)
   have bg:ah 102 (1-ra^ns.sum.toNat):=(ah.one.sub bF).mono (by decide);refine aC (j:=1) (i1.by S4) rfl (λv5 i5=>?_);obtain⟨ap,us,rfl,hu,tu⟩:=b7.mp i5;refine iD (o0:=none) (tl:=[some v4]) hu rfl (λj y H'=>Is K H' y (N ((dU ra rb ns).getD j 0))) ?_ ?_
   . intro D i x ys o H5 hx inv
     obtain⟨hi,ix⟩:=d_ tu hx;have ix5:=ix.by inv.same;have i45:=i4.by inv.same
     have hi1000:i<=1000:=by
       have h1:=ok.len;have h2:=ok.cg;have h3:=nQ (a:=ra) (b:=rb) (show ns.length=(cU (ns.length-1)).length+1 from ok.len);omega
     o_head RS ix5 i45 ((zqr ok h8 i).mono (by decide)) (bg.mono (by decide)) hg (λv6 H6 S6 i6=>?_);k_few
     have e:(dU ra rb ns).getD i 0=(c_ ra rb ns (cU (ns.length-1))).getD i 0 / (1-ra^ns.sum.toNat):=by
       unfold dU;rw[wa,wu,wa,wc hi];rfl
     exact dR inv hi1000 gR ⟨_,rfl⟩ S6 (by rw[e];exact i6)
   . intro D ys H5 hn S5 hD hl hr5
     have hl':ys.length=(dU ra rb ns).length:=by
       unfold dU;rw[hl,tu.length,wo,wo]
     refine gY (dE hD (g_ hl' hr5)) (λw H6 S6 i6=>?_);k_few;exact q2 z w H6 (S1.trans (S4.trans (S5.trans S6))) i6
def fT(p q:Rat)(xs ss:List Rat):List Rat:=(wx xs.length).map λi=>p*xs.getD i 0+q*ss.getD i 0
theorem mY(p q:Rat)(xs ss:List Rat):(fT p q xs ss).length=xs.length:=by unfold fT;rw[wo,vB]
theorem Sd{p q:Rat}{xs ss:List Rat}{i:Nat}(h:i<xs.length):(fT p q xs ss).getD i 0=p*xs.getD i 0+q*ss.getD i 0:=by
 unfold fT;rw[wa,wu,vV h];rfl
def SS(K:wb):Sp:=λvs H Q _=>∃x0 x1 x2 x3,vs=[x0,x1,x2,x3] /\ ∃(d:wB)(p q:Rat)(xs ss:List Rat),Is K H x0 (.tuple [d,TN ss])/\Is K H x1 (TN xs)/\Is K H x2 (N p)/\Is K H x3 (N q)/\ss.length=xs.length/\xs.length<=50/\ah 2000 p/\ah 2000 q/\(∀i,ah 6900 (xs.getD i 0))/\(∀i,ah 6900 (ss.getD i 0)) /\ ∀v H',ag H H'->Is K H' v (TN (fT p q xs ss))->Q v H'
theorem MJ{K:wb}{H:Hp}{Q:VK}{E:XK}{d:wB}{p q':Rat}{xs ss:List Rat}{v w u z:V}(h0:Is K H v (.tuple [d,TN ss]))(h1:Is K H w (TN xs))(h2:Is K H u (N p))(h3:Is K H z (N q'))(hl:ss.length=xs.length)(hf:xs.length<=50)(b1:ah 2000 p)(b2:ah 2000 q')(b3:∀i,ah 6900 (xs.getD i 0))(b4:∀i,ah 6900 (ss.getD i 0))(q:∀v H',ag H H'->Is K H' v (TN (fT p q' xs ss))->Q v H'):SS K [v,w,u,z] H Q E:=⟨_,_,_,_,rfl,d,p,q',xs,ss,h0,h1,h2,h3,hl,hf,b1,b2,b3,b4,q⟩
theorem Ru(T:Txt K mg a):aP P w K mg base aS 3 a.Jn a.HX yi (SS K):=by
 refine T.Bo.F.ok zuP ?_ ?_;wtm_at "b4";refine⟨_,(az (aF (dg (show aN _ (.type "tuple") (dJ K)from eP) rfl T.z_tuple dk (ae (eh rfl (cv.by (N':=["place","shift","of_place","of_shift"]) (src:=[none,none,some 2,some 3]) rfl (show cN _ (aA tV).names Al ["place","shift","of_place","of_shift"] [none,none,some 2,some 3]=true from by decide +kernel)) (zA3 rfl T.z_zip (ae (pv 1) (ae (ay (pv 0)) af))) (λ_ _ _ _ _=>by exact(show PG _ _ (iY K 2 _)from j3 (n:=2) rfl (d5 (bM (i:=0) (show(["place","shift","of_place","of_shift"]:List Str).Nodup from by decide) rfl (Or.inl rfl)) (d5 (bM (i:=1) (show(["place","shift","of_place","of_shift"]:List Str).Nodup from by decide) rfl (Or.inl rfl)) jF)))) (λ_ _ _ _ _=>du) (λ_ _ _ _ _=>(au (gy (K:=K) (mg:=mg) (a:=a) T) hr T.fM (ae (au (kW (K:=K) (mg:=mg) (a:=a) T) hr T.jO (ae (pv 2) (ae (pv 0) af))) (ae (au (kW (K:=K) (mg:=mg) (a:=a) T) hr T.jO (ae (pv 3) (ae (pv 1) af))) af))))) af)))),?_⟩;wtm_at "cl";rw[show start Al [x0,x1,x2,x3]=[some x0,some x1,some x2,some x3]from rfl];obtain⟨d,p,q',xs,ss,h0,h1,h2,h3,hl,hf,b1,b2,b3,b4,q⟩:=h;obtain⟨a1,us,rfl,hs1,t1⟩:=b7.mp h1;o_head aC (j:=1) h0 rfl (λv5 i5=>?_);obtain⟨a2,ws,rfl,hs2,t2⟩:=b7.mp i5;have l1:=t1.length;have l2:=t2.length;rw[wo]at l1 l2;o_head zAM (t:=true) (u:=true) hs1 hs2 (by omega) (o0:=none) (o0':=none) (tl:=[some x2,some x3]) rfl (λj y H'=>Is K H' y (N ((fT p q' xs ss).getD j 0))) gR ?_ ?_
 ·intro D j y z zs o1 o2 H7 c hy hz inv hc
  obtain⟨hj,iy⟩:=d_ t1 hy;obtain⟨_,iz⟩:=d_ t2 hz;have S7:=inv.2.2.1;have iy7:=iy.by S7;have iz7:=iz.by S7;have ip7:=h2.by S7;have iq7:=h3.by S7;have c1:=b3 j;have c2:=b4 j;have m1:ah 8999 (p*xs.getD j 0):=(b1.mul c1).mono (by decide);have m2:ah 8999 (q'*ss.getD j 0):=(b2.mul c2).mono (by decide);refine kD (.of hc) rfl ?_;k_few;rename_i v8 H8 S8 i8 v9 H9 S9 i9 v10 H10 S10 i10;rw[<- Sd hj]at i10;exact sU inv (by omega) gR ⟨_,_,rfl⟩ (S8.trans (S9.trans S10)) i10
 ·intro D zs H7 hn S7 hD hl7 hr7
  have tz:av K H7 zs ((fT p q' xs ss).map N):=g_ (by rw[hl7,mY];omega) hr7;o_head gY (dE hD tz) (λv8 H8 S8 i8=>?_);exact q v8 H8 (S7.trans S8) i8
structure dC(ns:List Int):Prop where
 some:1<=ns.length
 cg:ns.length<=8
 each:∀n∈ns,1<=n/\n<=8
 sum:ns.sum<=8
theorem yw:∀{ns:List Int},(∀n∈ns,0<=n)->((ns.map Q6).sum:Int)=ns.sum
 | [],_=>rfl
 | n::ns,h=>by
  have h1:=yw (ns:=ns) λm hm=>h m (wF _ hm)
  have h2:=h n (wG ..);rw[va,W8,W8];omega
theorem dC.upTo{ns:List Int}(h:dC ns):upTo ns ns.length<=8:=by
 have h1:=yw (ns:=ns) λn hn=>by have:=h.each n hn;omega
 have h2:=h.sum;unfold GM.upTo;rw[Wv];omega
def dq(a b:Rat)(ns:List Int):List Rat:=c_ a b ns (cU (ns.length-1))
def cP(a b:Rat)(ns:List Int)(n:Nat)(xs:List Rat):List Rat:=(wx xs.length).map λi=>fE (a^ns.sum.toNat) ((dq a b ns).getD i 0) n (xs.getD i 0)
theorem Dp(n:Nat):(cU n).length=n:=WX ..
theorem p_{a b:Rat}{ns:List Int}(h:1<=ns.length):(dq a b ns).length=ns.length-1:=by
 unfold dq;rw[nQ (by rw[Dp];omega),Dp]
theorem dM(a b:Rat)(ns:List Int)(n:Nat)(xs:List Rat):(cP a b ns n xs).length=xs.length:=by unfold cP;rw[wo,vB]
theorem kU{a b:Rat}{ns:List Int}{n:Nat}{xs:List Rat}{i:Nat}(h:i<xs.length):(cP a b ns n xs).getD i 0=fE (a^ns.sum.toNat) ((dq a b ns).getD i 0) n (xs.getD i 0):=by
 unfold cP;rw[wa,wu,vV h];rfl
theorem F7{xs ys:List Rat}(hl:xs.length=ys.length)(h:∀i,i<xs.length->xs.getD i 0=ys.getD i 0):xs=ys:=Wg hl λi h1 h2=>by
 have:=h i h1;rw[wa,wa,wc h1,wc h2]at this;exact this
theorem nO(a b:Rat)(ns:List Int)(xs:List Rat):cP a b ns 0 xs=xs:=F7 (dM ..) λi hi=>by
 rw[dM]at hi;rw[kU hi,zxj]
theorem Kh(a b:Rat)(ns:List Int)(m n:Nat)(xs:List Rat):cP a b ns n (cP a b ns m xs)=cP a b ns (m+n) xs:=F7 (by rw[dM,dM,dM]) λi hi=>by
 rw[dM,dM]at hi;rw[kU (by rw[dM];exact hi),kU hi,kU hi,Zx]
theorem Dt{a b:Rat}{ns:List Int}{xs:List Rat}(h:ns.length=xs.length+1)(hn:∀n∈ns,0<=n):cP a b ns 1 xs=c_ a b ns xs:=F7 (by rw[dM,nQ h]) λi hi=>by
 rw[dM]at hi;rw[kU hi,zxX,ZH h hn hi]
 rfl
structure eA(a b:Rat)(ns:List Int)(n:Nat):Prop where
 ok:aX a b
 sz:dC ns
 cg:n<=60
 k:(6*ns.sum.toNat+1+1)*n<=1600
theorem Zv{a b:Rat}(h:aX a b):ah 6 a:=by
 have h1:=h.a0;have h2:=h.a4;have h3:=h.ad;have n0:0<=a.num:=qK.mpr (vY h1)
 have n1:a.num<=4*a.den:=by
  have:=(xB a 4).mp h2
  simpa using this
 have e:(2:Nat)^6=64:=by decide
 exact⟨⟨by rw[e];omega⟩,⟨by rw[e];omega⟩⟩
theorem j6{a b:Rat}(h:aX a b)(S:Nat):ah (6*S+1) (a^S):=(Zv h).pow S
theorem eA.le{a b:Rat}{ns:List Int}{m n:Nat}(h:eA a b ns n)(e:m<=n):eA a b ns m:=⟨h.ok,h.sz,Wm e h.cg,Wm (Ql _ e) h.k⟩
theorem eA.pow{a b:Rat}{ns:List Int}{n:Nat}(h:eA a b ns n){i:Nat}(hi:i<=n):ah 1601 ((a^ns.sum.toNat)^i):=((j6 h.ok _).pow i).mono (by
 have h1:=(h.le hi).k;have h2:=Wi i (show 6*ns.sum.toNat+1<=6*ns.sum.toNat+1+1 by omega);omega)
theorem eA.aG{a b:Rat}{ns:List Int}{n:Nat}(h:eA a b ns n){i:Nat}(hi:i<=n):ah 1601 (aG (a^ns.sum.toNat) 1 i):=(J4 (j6 h.ok _) i).mono (by have:=(h.le hi).k;omega)
theorem m9{a b:Rat}{ns:List Int}(h:aX a b)(k:dC ns):cW a b ns (cU (ns.length-1)):=⟨h.ba,h.bb,λn hn=>by have:=k.each n hn;omega,by rw[Dp];have:=k.some;omega,by have:=k.cg;omega,⟨1,zb _,by have:=k.cg;have:=k.upTo;omega⟩⟩
theorem CV{a b:Rat}{ns:List Int}(h:aX a b)(k:dC ns):Cm 185 (dq a b ns):=(Eo (ns:=ns) h.ba h.bb (zb (ns.length-1))).mono (by have:=k.cg;have:=k.upTo;omega)
theorem B_{a b:Rat}{ns:List Int}(h:aX a b)(k:dC ns)(i:Nat):ah 185 ((dq a b ns).getD i 0):=(CV h k).get i
theorem dC.nn{ns:List Int}(k:dC ns):∀n∈ns,0<=n:=λn hn=>by have:=k.each n hn;omega
theorem dC.pos{ns:List Int}(k:dC ns):1<=ns.sum/\ns.sum<=8:=by
 refine⟨?_,k.sum⟩;have h1:=yw k.nn;have h2:=k.some
 match ns,h2,k.each with
 | n::ns,_,he =>
  have:=he n (wG ..);rw[va,W8]at h1;omega
theorem Fu{a b:Rat}(h:aX a b){S:Nat}(hS:1<=S):a^S=1 ↔ a=1:=by
 obtain⟨m,rfl⟩:∃m,S=m+1:=⟨S-1,by omega⟩
 constructor
 ·intro e
  by_cases z:a<1
  ·have:=zt3 h.a0 z m
   rw[e]at this;exact absurd this (by grind)
  ·by_cases y:a=1
   ·exact y
   ·have z3:1<a:=qE (VW.mp z) (Wj y)
    have:=zuN z3 m;rw[e]at this;exact absurd this (by grind)
 ·intro e
  rw[e,GM.one_pow']
theorem zwU{a b:Rat}{ns:List Int}(hF:a^ns.sum.toNat≠1){i:Nat}(hi:i<(dU a b ns).length):(dU a b ns).getD i 0*(1-a^ns.sum.toNat)=(dq a b ns).getD i 0:=by
 rw[ZP hi];exact WZ (λe=>hF (by grind))
theorem zAH{a b:Rat}(h:aX a b)(S n:Nat):ah ((6*S+3)*n+1) ((a^S)^n):=((j6 h S).pow n).mono (by have:=Wi n (show 6*S+1<=6*S+3 by omega);omega)
theorem RO{a b:Rat}(h:aX a b)(S n:Nat):ah ((6*S+3)*n+1) (aG (a^S) 1 n):=(J4 (j6 h S) n).mono (by have:=Wi n (show 6*S+1+1<=6*S+3 by omega);omega)
def Rc(K:wb):Sp:=λvs H Q _=>∃x0 x1 x2,vs=[x0,x1,x2] /\ ∃(F:Rat)(n:Int)(xs ss:List Rat),x2=.int n/\Is K H x0 (.tuple [N F,TN ss])/\Is K H x1 (TN xs)/\0<=n/\n<=64/\ss.length=xs.length/\xs.length<=50/\ah 2000 F/\(∀i,i<=n.toNat->ah 2000 (F^i))/\(∀i,i<=n.toNat->ah 2000 (aG F 1 i))/\(∀i,ah 6900 (xs.getD i 0))/\(∀i,ah 6900 (ss.getD i 0)) /\ ∀v H',ag H H'->Is K H' v (TN ((wx xs.length).map λi=>fE F (ss.getD i 0) n.toNat (xs.getD i 0)))->Q v H'
theorem LK{K:wb}{H:Hp}{Q:VK}{E:XK}{F:Rat}{n:Int}{xs ss:List Rat}{v w:V}(h0:Is K H v (.tuple [N F,TN ss]))(h1:Is K H w (TN xs))(n0:0<=n)(n1:n<=64)(hl:ss.length=xs.length)(hf:xs.length<=50)(b0:ah 2000 F)(b1:∀i,i<=n.toNat->ah 2000 (F^i))(b2:∀i,i<=n.toNat->ah 2000 (aG F 1 i))(b3:∀i,ah 6900 (xs.getD i 0))(b4:∀i,ah 6900 (ss.getD i 0))(q:∀v H',ag H H'->Is K H' v (TN ((wx xs.length).map λi=>fE F (ss.getD i 0) n.toNat (xs.getD i 0)))->Q v H'):Rc K [v,w,.int n] H Q E:=⟨_,_,_,rfl,F,n,xs,ss,rfl,h0,h1,n0,n1,hl,hf,b0,b1,b2,b3,b4,q⟩
theorem Pj(T:Txt K mg a):aP P w K mg base aS 4 a.JH a.IA yd (Rc K):=by
 refine T.Bs.F.ok PN ?_ ?_;wtm_at "b3"
 refine⟨_,(ak (aB 3 PN.nd (au (t_ T) hr T.oF (ae (bL (ae (ay (pv 0)) (ae (bS (v:=.ref a.d4) rfl T.fk rfl) af))) (ae (pv 2) af))))
     (az (aF (au (Ru T) hr T.Bo (by exact(@ae _ _ _ _ _ (pv 0) (@ae _ _ _ _ _ (pv 1) (@ae _ _ _ _ _ (ay (pv 3)) (@ae _ _ _ _ _ (ay (pv 3)) af gE) gE) fZ) fZ)))))),?_⟩
 wtm_at "cl";rw[show start L_ [x0,x1,x2]=[some x0,some x1,some x2,none]from rfl];obtain⟨F,n,xs,ss,rfl,h0,h1,n0,n1,hl,hf,b0,b1,b2,b3,b4,q⟩:=h;o_head aC (j:=0) h0 rfl (λv1 i1=>?_);o_head Np i1 (eB 1 (T.sG _) rfl rfl) (λv2 H2 S2 i2=>?_);o_head OA i2 (b0.mono (by decide)) (ah.one.mono (by decide)) n0 n1 (λi hi=>(b1 i hi).mono (by decide)) (λi hi=>(b2 i hi).mono (by decide)) (λv3 H3 S3 i3=>?_);k_few;rename_i v4 i4 v5 i5;have T3:=S2.trans S3;refine MJ (h0.by T3) (h1.by T3) i4 i5 hl hf (b1 _ (wq _)) (b2 _ (wq _)) b3 b4 (λv6 H6 S6 i6=>?_);exact q v6 H6 (T3.trans S6) i6
def So(K:wb):Sp:=λvs H Q _=>∃x0 x1 x2 x3,vs=[x0,x1,x2,x3] /\ ∃(ra rb:Rat)(ns:List Int)(xs:List Rat)(n:Int),x3=.int n/\Is K H x0 (R ra rb)/\Is K H x1 (TZ ns)/\Is K H x2 (TN xs)/\ns.length=xs.length+1/\0<=n/\eA ra rb ns n.toNat/\(∀i,ah 6900 (xs.getD i 0)) /\ ∀v H',ag H H'->Is K H' v (TN (cP ra rb ns n.toNat xs))->Q v H'
theorem LS{K:wb}{H:Hp}{Q:VK}{E:XK}{ra rb:Rat}{ns:List Int}{xs:List Rat}{n:Int}{v w u:V}(h0:Is K H v (R ra rb))(h1:Is K H w (TZ ns))(h2:Is K H u (TN xs))(hl:ns.length=xs.length+1)(n0:0<=n)(ok:eA ra rb ns n.toNat)(b:∀i,ah 6900 (xs.getD i 0))(q:∀v H',ag H H'->Is K H' v (TN (cP ra rb ns n.toNat xs))->Q v H'):So K [v,w,u,.int n] H Q E:=⟨_,_,_,_,rfl,ra,rb,ns,xs,n,rfl,h0,h1,h2,hl,n0,ok,b,q⟩
theorem Ou(T:Txt K mg a):aP P w K mg base aS 8 a.GK a.Gm AY (So K):=by
 refine T.Ba.F.ok Zp ?_ ?_;wtm_at "b4";refine⟨_,(az (aF (au (Pj T) hr T.Bs (ae (au (rW T) hr T.mG (ae (pv 0) (ae (pv 1) af))) (ae (pv 2) (ae (pv 3) af)))))),?_⟩;wtm_at "cl";rw[show start EY [x0,x1,x2,x3]=[some x0,some x1,some x2,some x3]from rfl];obtain⟨ra,rb,ns,xs,n,rfl,hr',hn',hx',hl,n0,ok,bx,q⟩:=h;have h8:=ok.sz.cg;have hp:=ok.sz.pos;have hn60:=ok.cg;o_head pb hr' hn' (m9 ok.ok ok.sz) (by omega) (by omega) (λv1 H1 S1 i1=>?_);o_head LK (ss:=dq ra rb ns) i1 (hx'.by S1) n0 (by omega) (by rw[p_ (by omega)];omega) (by omega) (by have:=ok.sz.sum;exact(j6 ok.ok _).mono (by omega)) (λi hi=>(ok.pow hi).mono (by decide)) (λi hi=>(ok.aG hi).mono (by decide)) bx (λi=>(B_ ok.ok ok.sz i).mono (by decide)) (λv2 H2 S2 i2=>?_);exact q v2 H2 (S1.trans S2) i2
theorem RD{k:Nat}{F:Rat}(h:ah k F):∀i:Nat,∃U:Int,GM.sumTo (aG F 1) i=wH U ((F.den:Int)^i)/\Bd ((k+2)*i+2) U
 | 0=>⟨0,by simp[GM.sumTo],⟨by simp⟩⟩
 | i+1=>by
  obtain⟨U,e,bU⟩:=RD h i;obtain⟨T,e2,bT,bd⟩:=zM h i;have hd:(F.den:Int)^i≠0:=VY (f_ F);have hd1:(F.den:Int)^(i+1)≠0:=VY (f_ F);have ed:(F.den:Int)^(i+1)=(F.den:Int)^i*(F.den:Int):=Qc ..;have h1:(k+2)*(i+1)=(k+2)*i+(k+2):=qC ..;have h2:(k+1)*i<=(k+2)*i:=Wi i (by omega);refine⟨(U+T)*(F.den:Int),?_,((bU.add bT).mul h.b).mono (by omega)⟩
  symm
  refine gC hd1 ?_;have k1:=cV U hd;have k2:=cV T hd;have e3:(((U+T)*(F.den:Int):Int):Rat)=((U:Rat)+(T:Rat))*((F.den:Int):Rat):=by rw[Wd,qt]
  rw[GM.sumTo,e,e2,ed,Wd,e3,<- k1,<- k2]
  grind
theorem Lw{k:Nat}{F:Rat}(h:ah k F)(i:Nat):ah ((k+2)*i+2) (GM.sumTo (aG F 1) i):=by
 obtain⟨U,e,bU⟩:=RD h i;obtain⟨T,e2,bT,bd⟩:=zM h i;rw[e];exact ah.divInt (VY (f_ F)) bU (bd.mono (by have:=Wi i (show k<=k+2 by omega);omega))
theorem eA.sums{a b:Rat}{ns:List Int}{n:Nat}(h:eA a b ns n){i:Nat}(hi:i<=n):ah 1662 (GM.sumTo (GM.aG (a^ns.sum.toNat) 1) i):=(Lw (j6 h.ok _) i).mono (by
 have h1:=(h.le hi).k;have h2:=(h.le hi).cg;have e:(6*ns.sum.toNat+1+2)*i=(6*ns.sum.toNat+1+1)*i+i:=by rw[<- Qh]
 omega)
theorem zAJ(F s x:Rat)(n:Nat):GM.sumTo (λk=>fE F s k x) n=aG F 1 n*x+GM.sumTo (aG F 1) n*s:=by
 unfold fE;rw[LQ]
 have e1:GM.sumTo (λk=>F^k*x) n=aG F 1 n*x:=by
  rw[<- Rz F n,Qg,<- CP];exact yU n λk _=>Qg ..
 have e2:GM.sumTo (λk=>aG F 1 k*s) n=GM.sumTo (aG F 1) n*s:=by
  rw[Qg (GM.sumTo (aG F 1) n) s,<- CP];exact yU n λk _=>Qg ..
 rw[e1,e2]
def NH(K:wb):Sp:=λvs H Q _=>∃x0 x1 x2,vs=[x0,x1,x2] /\ ∃(a b:Rat)(ns:List Int)(n:Int)(xs:List Rat),x2=.int n/\Is K H x0 (.tuple [N (a^ns.sum.toNat),TN (dq a b ns)])/\Is K H x1 (TN xs)/\0<=n/\eA a b ns n.toNat/\ns.length=xs.length+1/\(∀i,ah 6900 (xs.getD i 0)) /\ ∀v H',ag H H'->Is K H' v (TN (fT (aG (a^ns.sum.toNat) 1 n.toNat) (GM.sumTo (aG (a^ns.sum.toNat) 1) n.toNat) xs (dq a b ns)))->Q v H'
theorem zjY{K:wb}{H:Hp}{Q:VK}{E:XK}{a b:Rat}{ns:List Int}{n:Int}{xs:List Rat}{v w:V}(h0:Is K H v (.tuple [N (a^ns.sum.toNat),TN (dq a b ns)]))(h1:Is K H w (TN xs))(n0:0<=n)(ok:eA a b ns n.toNat)(hl:ns.length=xs.length+1)(bx:∀i,ah 6900 (xs.getD i 0))(q:∀v H',ag H H'->Is K H' v (TN (fT (aG (a^ns.sum.toNat) 1 n.toNat) (GM.sumTo (aG (a^ns.sum.toNat) 1) n.toNat) xs (dq a b ns)))->Q v H'):NH K [v,w,.int n] H Q E:=⟨_,_,_,rfl,a,b,ns,n,xs,rfl,h0,h1,n0,ok,hl,bx,q⟩
theorem Zs(T:Txt K mg a):aP P w K mg base aS 4 a.GF a.Gh yp (NH K):=by
 refine T.Gk.F.ok nP ?_ ?_;wtm_at "b3"
 refine⟨_,(ak (aB 3 nP.nd (bS (v:=.ref a.cZ) rfl T.dS rfl))
     (ak (aB 4 nP.nd (bS (v:=.ref a.cZ) rfl T.dS rfl))
     (ak (gA vD rfl (jW rfl T.z_range (ae (pv 2) af)) (bM (i:=5) nP.nd rfl (Or.inl rfl)) (ak (aB 4 nP.nd (au (gy T) hr T.fM (ae (pv 4) (ae (pv 3) af))))
     (az (aB 3 nP.nd (au (gy T) hr T.fM (ae (au (kW T) hr T.jO (ae (ay (pv 0)) (ae (pv 3) af))) (ae (bS (v:=.ref a.d4) rfl T.fk rfl) af)))))))
     (az (aF (au (Ru T) hr T.Bo (by exact(@ae _ _ _ _ _ (pv 0) (@ae _ _ _ _ _ (pv 1) (@ae _ _ _ _ _ (pv 3) (@ae _ _ _ _ _ (pv 4) af fZ) fZ) fZ) fZ)))))))),?_⟩
 wtm_at "cl";rw[show start NK [x0,x1,x2]=[some x0,some x1,some x2,none,none,none]from rfl];obtain⟨ra,rb,ns,n,xs,rfl,h0,h1,n0,ok,hl,bx,q⟩:=h;have h8:=ok.sz.cg;have h60:=ok.cg;have bF:ah 49 (ra^ns.sum.toNat):=(j6 ok.ok _).mono (by have:=ok.sz.sum;omega);generalize hF:ra^ns.sum.toNat=F at *;o_head lO (n:=n) (by omega) (by omega) (λi σ H'=>∃(f g:V)(o:Option V),σ = [some x0,some x1,some (.int n),some f,some g,o]/\ag H H'/\Is K H' f (N (aG F 1 i))/\Is K H' g (N (GM.sumTo (aG F 1) i))) ⟨_,_,_,rfl,ag.refl H,eB 0 (T.e_ _) rfl rfl,eB 0 (T.e_ _) rfl rfl⟩ ?_ ?_
 . rintro i σ H' hi ⟨f,g,o,rfl,S1,hf,hg⟩
   have h01:=h0.by S1;have bf:ah 1601 (aG F 1 i):=by rw[<- hF];exact ok.aG (by omega)
   have bg:ah 1662 (GM.sumTo (aG F 1) i):=by rw[<- hF];exact ok.sums (by omega)
   have bm:ah 1700 (F*aG F 1 i):=(bF.mul bf).mono (by decide);k_few;rename_i v2 H2 S2 i2;refine aC (j:=0) (h01.by S2) rfl (λv3 i3=>?_);have hf2:=hf.by S2;k_few;rename_i v4 H4 S4 i4 v5 H5 S5 i5;exact⟨_,_,_,rfl,S1.trans (S2.trans (S4.trans S5)),i5,i2.by (S4.trans S5)⟩
 . rintro σ H' ⟨f,g,o,rfl,S1,hf,hg⟩
   have bf:ah 2000 (aG F 1 n.toNat):=by rw[<- hF];exact(ok.aG (wq _)).mono (by decide)
   have bg:ah 2000 (GM.sumTo (aG F 1) n.toNat):=by rw[<- hF];exact(ok.sums (wq _)).mono (by decide)
   o_head MJ (h0.by S1) (h1.by S1) hf hg (by rw[p_ (by omega)];omega) (by omega) bf bg bx (λi=>(B_ ok.ok ok.sz i).mono (by decide)) (λv2 H2 S2 i2=>?_);exact q v2 H2 (S1.trans S2) i2
theorem Ll{m j c d:Nat}{p q:Rat}{xs ss:List Rat}(hx:Cm m xs)(hs:Cm j ss)(bp:ah c p)(bq:ah d q):Cm (m+j+c+d+1) (fT p q xs ss):=by
 obtain⟨B,h0,h1,h2⟩:=hx;obtain⟨D,g0,g1,g2⟩:=hs;have hb:0<B*(p.den:Int)*(D*(q.den:Int)):=We (We h0 (den_pos p)) (We g0 (den_pos q));refine⟨_,hb,((h1.mul bp.b).mul (g1.mul bq.b)).mono (by omega),λx hx=>?_⟩;obtain⟨i,hi,rfl⟩:=wO.mp hx;have hi:=wD.mp hi;obtain⟨u,eu,bu⟩:=h2 _ (getD_mem (d:=0) hi)
 have hv:∃v:Int,ss.getD i 0=wH v D/\Bd j v:=by
  rcases wJ i ss.length with z | z
  ·exact g2 _ (getD_mem z)
  ·rw[wa,wP z]
   exact⟨0,by simp,⟨by simp;exact Wl j⟩⟩
 obtain⟨v,ev,bv⟩:=hv;refine⟨p.num*u*(D*(q.den:Int))+q.num*v*(B*(p.den:Int)),?_,(((bp.t.mul bu).mul (g1.mul bq.b)).add ((bq.t.mul bv).mul (h1.mul bp.b))).mono (by omega)⟩
 symm
 show wH _ _=p*xs.getD i 0+q*ss.getD i 0
 refine gC (by omega) ?_;have k1:=cV u (show B≠0 by omega);have k2:=cV v (show D≠0 by omega);have k3:=iP p;have k4:=iP q;rw[eu,ev];simp only[qt,Wd];rw[<- k1,<- k2,<- k3,<- k4];generalize wH u B=y;generalize wH v D=z;generalize (B:Rat)=B';generalize (D:Rat)=D';generalize ((p.den:Int):Rat)=P';generalize ((q.den:Int):Rat)=Q'
 grind
theorem zCB{a b:Rat}{ns:List Int}{xs:List Rat}{n m:Nat}(ok:eA a b ns n)(c:Cm m xs):Cm (m+188+2*((6*ns.sum.toNat+3)*n)) (cP a b ns n xs):=(Ll c (CV ok.ok ok.sz) (zAH ok.ok _ n) (RO ok.ok _ n)).mono (by omega)
def rl(a b:Rat)(ns:List Int)(xs:List Rat)(n:Nat):Rat:=GM.sumTo (λk=>fq a b ns (cP a b ns k xs)) n
def iV(a b:Rat)(ns:List Int)(xs:List Rat)(n:Nat):List Rat:=(fT (aG (a^ns.sum.toNat) 1 n) (GM.sumTo (aG (a^ns.sum.toNat) 1) n) xs (dq a b ns)).map λt=>t / ((n:Int):Rat)
theorem Rh(a b:Rat)(ns:List Int)(xs:List Rat)(n:Nat):(iV a b ns xs n).length=xs.length:=by unfold iV;rw[wo,mY]
theorem BO{n:Nat}(h:1<=n):((n:Int):Rat)≠0:=λe=>by
 have:=Vb.mp e;omega
theorem Kf{a b:Rat}{ns:List Int}{xs:List Rat}{n i:Nat}(hi:i<xs.length):(iV a b ns xs n).getD i 0=(fT (aG (a^ns.sum.toNat) 1 n) (GM.sumTo (aG (a^ns.sum.toNat) 1) n) xs (dq a b ns)).getD i 0 / ((n:Int):Rat):=by
 unfold iV;rw[wa,wu,wc (by rw[mY];exact hi),wa,wc (by rw[mY];exact hi)]
 rfl
theorem Zb{a b:Rat}{ns:List Int}{xs:List Rat}(hl:ns.length=xs.length+1){n:Nat}(h1:1<=n):((n:Int):Rat)*fq a b ns (iV a b ns xs n)=rl a b ns xs n:=by
 unfold rl;refine N9 hl (λk=>cP a b ns k xs) (λk=>dM ..) n _ h1 (Rh ..) λi hi=>?_
 rw[Kf hi,WZ (BO h1),Sd hi,<- zAJ];exact yU n λk _=>(kU hi).symm
theorem OD{n:Nat}(h:n<=60):ah 6 ((n:Int):Rat):=by
 have e:(2:Nat)^6=64:=by decide
 exact⟨⟨by rw[uj,e];omega⟩,⟨by rw[uk];decide⟩⟩
theorem zxE{a b:Rat}(h:aX a b)(S n:Nat):ah ((6*S+3)*n+2) (GM.sumTo (aG (a^S) 1) n):=Lw (j6 h S) n
theorem PJ{a b:Rat}{ns:List Int}{xs:List Rat}{n m:Nat}(ok:eA a b ns n)(c:Cm m xs):Cm (m+189+2*((6*ns.sum.toNat+3)*n)) (fT (aG (a^ns.sum.toNat) 1 n) (GM.sumTo (aG (a^ns.sum.toNat) 1) n) xs (dq a b ns)):=(Ll c (CV ok.ok ok.sz) (RO ok.ok _ n) (zxE ok.ok _ n)).mono (by omega)
theorem zxT{a b:Rat}{ns:List Int}{xs:List Rat}{n m:Nat}(ok:eA a b ns n)(h1:1<=n)(c:Cm m xs):Cm (m+195+2*((6*ns.sum.toNat+3)*n)) (iV a b ns xs n):=by
 unfold iV;exact(R4 (PJ ok c) (OD ok.cg) (BO h1)).mono (by omega)
def Lu(K:wb):Sp:=λvs H Q _=>∃x0 x1 x2 x3,vs=[x0,x1,x2,x3] /\ ∃(ra rb:Rat)(ns:List Int)(xs:List Rat)(n:Int)(m:Nat),x3=.int n/\Is K H x0 (R ra rb)/\Is K H x1 (TZ ns)/\Is K H x2 (TN xs)/\ns.length=xs.length+1/\0<=n/\eA ra rb ns n.toNat/\Cm m xs/\m+2*((6*ns.sum.toNat+3)*n.toNat)<=6700 /\ ∀v H',ag H H'->Is K H' v (N (rl ra rb ns xs n.toNat))->Q v H'
theorem ZS{K:wb}{H:Hp}{Q:VK}{E:XK}{ra rb:Rat}{ns:List Int}{xs:List Rat}{n:Int}{m:Nat}{v w u:V}(h0:Is K H v (R ra rb))(h1:Is K H w (TZ ns))(h2:Is K H u (TN xs))(hl:ns.length=xs.length+1)(n0:0<=n)(ok:eA ra rb ns n.toNat)(c:Cm m xs)(hm:m+2*((6*ns.sum.toNat+3)*n.toNat)<=6700)(q:∀v H',ag H H'->Is K H' v (N (rl ra rb ns xs n.toNat))->Q v H'):Lu K [v,w,u,.int n] H Q E:=⟨_,_,_,_,rfl,ra,rb,ns,xs,n,m,rfl,h0,h1,h2,hl,n0,ok,c,hm,q⟩
theorem zzN{K:wb}{H:Hp}{Q:VK}{n:Int}(q:∀v H',ag H H'->Is K H' v (N (n:Rat))->Q v H'):mz K [.int n,.int 1] H Q:=kJ (r:=(n:Rat)) (uj n).symm (by rw[uk];rfl) q
theorem ZZ(T:Txt K mg a):aP P w K mg base aS 8 a.Ht a.GI AK (Lu K):=by
 refine T.GS.F.ok Fi ?_ ?_;wtm_at "b4"
 refine⟨_,(ak (bP (bY pP (pv 3) aD (bA _)) (az (aF (bS (v:=.ref a.cZ) rfl T.dS rfl))) bQ)
     (ak (aB 4 Fi.nd (bL (ae (pv 3) (ae aD af))))
     (ak (aB 5 Fi.nd (dg (show aN _ (.type "tuple") (dJ K)from eP) rfl T.z_tuple dk (ae (eh rfl (cv.by (N':=["total","count"]) (src:=[none,some 4]) rfl (show cN _ (aA Ah).names Dl ["total","count"] [none,some 4]=true from by decide +kernel)) (iW (au (Zs T) hr T.Gk (ae (au (rW T) hr T.mG (ae (pv 0) (ae (pv 1) af))) (ae (pv 2) (ae (pv 3) af))))) (λ_ _ _ _ _=>(bM (i:=0) (show(["total","count"]:List Str).Nodup from by decide) rfl (Or.inl rfl))) (λ_ _ _ _ _=>du) (λ_ _ _ _ _=>(au (LH (K:=K) (mg:=mg) (a:=a) T) hr T.Bz (ae (pv 0) (ae (pv 1) af))))) af)))
     (az (aF (au (kW T) hr T.jO (ae (pv 4) (ae (au (zoX T) hr T.G2 (ae (pv 0) (ae (pv 1) (ae (pv 5) af)))) af)))))))),?_⟩
 wtm_at "cl";rw[show start Dl [x0,x1,x2,x3]=[some x0,some x1,some x2,some x3,none,none]from rfl];obtain⟨ra,rb,ns,xs,n,m,rfl,hr',hn',hx',hl,n0,ok,c,hm,q⟩:=h;have h8:=ok.sz.cg;have hp:=ok.sz.pos;have h60:=ok.cg;have hu:=ok.sz.upTo;obtain⟨n,rfl⟩:∃j:Nat,n=(j:Int):=⟨n.toNat,by omega⟩;rw[wU]at q ok h60 hm;k_few
 . rename_i z
   have hz:n=0:=by omega
   subst hz;exact q _ H (ag.refl _) (eB 0 (T.e_ _) rfl rfl)
 . rename_i z
   have h1n:1<=n:=by omega
   have cM:=zxT ok h1n c;have hml:=Rh ra rb ns xs n;have hne:=BO h1n;have bn:ah 6 ((n:Int):Rat):=OD h60;refine zzN (λv1 H1 S1 i1=>?_);o_head pb (hr'.by S1) (hn'.by S1) (m9 ok.ok ok.sz) (by omega) (by omega) (λv2 H2 S2 i2=>?_);have T2:=S1.trans S2;o_head zjY (a:=ra) (b:=rb) (ns:=ns) i2 (hx'.by T2) (by omega) (by rw[wU];exact ok) hl (λi=>(c.get i).mono (by omega)) (λv3 H3 S3 i3=>?_);rw[wU]at i3;have i13:=i1.by (S2.trans S3);obtain⟨a3,us,rfl,hs3,t3⟩:=b7.mp i3;have hul:=t3.length;rw[wo,mY]at hul;have bw:∀i,ah 8100 ((fT (aG (ra^ns.sum.toNat) 1 n) (GM.sumTo (aG (ra^ns.sum.toNat) 1) n) xs (dq ra rb ns)).getD i 0):=λi=>((PJ ok c).get i).mono (by omega)
   o_head iD hs3 (o0:=none) (tl:=[some v1]) rfl (λj y H'=>Is K H' y (N ((iV ra rb ns xs n).getD j 0))) ?_ ?_
   . intro D j x ys o H4 hx inv
     obtain⟨hj,ix⟩:=d_ t3 hx;rw[mY]at hj;o_head RS (ix.by inv.same) (i13.by inv.same) ((bw j).mono (by decide)) (bn.mono (by decide)) hne (λv5 H5 S5 i5=>?_);rw[<- Kf hj]at i5;exact dR inv (by omega) gR ⟨_,rfl⟩ S5 i5
   . intro D ys H4 hn4 S4 e4 hl4 hr4
     have tz:av K H4 ys ((iV ra rb ns xs n).map N):=g_ (by rw[hl4,hul,hml]) hr4;o_head gY (dE e4 tz) (λv5 H5 S5 i5=>?_);have T5:=T2.trans (S3.trans (S4.trans S5));have rok:cW ra rb ns (iV ra rb ns xs n):=⟨ok.ok.ba,ok.ok.bb,λk hk=>by have:=ok.sz.each k hk;omega,by rw[hml];exact hl,by omega,⟨_,cM,by omega⟩⟩;o_head ZJ (hr'.by T5) (hn'.by T5) i5 rok cM (by omega) (λv6 H6 S6 i6=>?_);have bt:ah 8000 (fq ra rb ns (iV ra rb ns xs n)):=(Lz rok cM (by omega) (wq _)).eQ (wG ..);have i16:=i13.by (S4.trans (S5.trans S6));k_few;rename_i v7 H7 S7 i7;rw[Zb hl h1n]at i7;exact q v7 H7 (T5.trans (S6.trans S7)) i7
def oz(ts:List Rat):List Bool:=ts.map λx=>decide (1<x)
theorem zxn{ts:List Rat}{i:Nat}(h:i<ts.length):(oz ts).getD i true=decide (1<ts.getD i 0):=by
 unfold oz;rw[wa,wu,wa,wc h]
 rfl
def p7(a b:Rat)(ns:List Int):Bool:=!((oz (fe a b ns (dU a b ns))).any id)
theorem zsD{a b:Rat}{ns:List Int}(h:aX a b)(k:dC ns)(hF:a^ns.sum.toNat≠1):cW a b ns (dU a b ns):=⟨h.ba,h.bb,λn hn=>by have:=k.each n hn;omega,by rw[Ls k.some];have:=k.some;omega,by have:=k.cg;omega,⟨268,zzt h.ba h.bb k.cg k.upTo (by have:=k.sum;omega) hF,by have:=k.cg;have:=k.upTo;omega⟩⟩
def Rj(K:wb):Sp:=λvs H Q _=>∃x0 x1,vs=[x0,x1] /\ ∃(a b:Rat)(ns:List Int),Is K H x0 (R a b)/\Is K H x1 (TZ ns)/\aX a b/\dC ns/\a≠1 /\ ∀H',ag H H'->Q (.bl (p7 a b ns)) H'
theorem Pg{K:wb}{H:Hp}{Q:VK}{E:XK}{a b:Rat}{ns:List Int}{v w:V}(h1:Is K H v (R a b))(h2:Is K H w (TZ ns))(ok:aX a b)(sz:dC ns)(ha:a≠1)(q:∀H',ag H H'->Q (.bl (p7 a b ns)) H'):Rj K [v,w] H Q E:=⟨_,_,rfl,a,b,ns,h1,h2,ok,sz,ha,q⟩
theorem Li(T:Txt K mg a):aP P w K mg base aS 9 a.Hf a.Gs zc (Rj K):=by
 refine T.Bf.F.ok zmv ?_ ?_;wtm_at "b2";refine⟨_,(az (aF (ng (br (show aN _ (.builtin "any") (FP K)from zw0 rfl) rfl T.z_any zDp (ae (eh rfl (cv.by (N':=["top"]) (src:=[none]) rfl (show cN _ (aA yj).names yb ["top"] [none]=true from by decide +kernel)) (iW (au (Nx T) hr T.By (ae (pv 0) (ae (pv 1) (ae (au (Mr T) hr T.Bv (ae (pv 0) (ae (pv 1) af))) af))))) (λ_ _ _ _ _=>(bM (i:=0) (show(["top"]:List Str).Nodup from by decide) rfl (Or.inl rfl))) (λ_ _ _ _ _=>du) (λ_ _ _ _ _=>(au (gQ (K:=K) (mg:=mg) (a:=a) T) hr T.gc (ae (bS (v:=.ref a.d4) rfl T.fk rfl) (ae (pv 0) af))))) af))))),?_⟩;wtm_at "cl";rw[show start yb [x0,x1]=[some x0,some x1]from rfl];obtain⟨ra,rb,ns,hr',hn',ok,sz,ha,q⟩:=h;have h8:=sz.cg;have hps:=sz.pos;have hF:ra^ns.sum.toNat≠1:=λe=>ha ((Fu ok (by omega)).mp e)
 have rok:=zsD ok sz hF;o_head TH hr' hn' (m9 ok sz) (by omega) (by omega) (λe=>absurd e hF) (λ_ v1 H1 S1 i1=>?_);o_head Ot (hr'.by S1) (hn'.by S1) i1 rok (λv2 H2 S2 i2=>?_);obtain⟨a2,us,rfl,hs2,t2⟩:=b7.mp i2;have hl2:=t2.length;rw[wo,jv]at hl2;refine iD hs2 (o0:=none) (tl:=[]) rfl (λi v H=>v=V.bl ((oz (fe ra rb ns (dU ra rb ns))).getD i true)) ?_ ?_
 ·rintro D i x ys o H3 hx inv
  obtain⟨hi,ix⟩:=d_ t2 hx;rw[jv]at hi;have ix3:=ix.by inv.same;have b1:=Kr rok hi;have b2:ah 1 1:=ah.one;k_few;exact dR inv (by omega) (λ_ _ _ _ _ h=>h) ⟨_,rfl⟩ (ag.refl _) (by rw[zxn (by rw[jv];exact hi)])
 ·rintro D ys H3 hn3 S3 e3 hl3 hr3
  have hz:=yB (bs:=oz (fe ra rb ns (dU ra rb ns))) (by unfold oz;rw[wo,jv];omega) hr3;rw[hz]at e3;o_head zAl (.of e3) ?_;k_few;exact q _ (S1.trans (S2.trans S3))
def nV(ss:List Rat):List Bool:=ss.map λs=>decide (s=0)
theorem zwV{ts:List Rat}{i:Nat}(h:i<ts.length):(nV ts).getD i true=decide (ts.getD i 0=0):=by
 unfold nV;rw[wa,wu,wa,wc h]
 rfl
def eU(a b:Rat)(ns:List Int)(xs:List Rat):Bool:=if 1<a then decide (xs=dU a b ns)else if a=1 then(nV (dq a b ns)).all id else p7 a b ns
def RP(K:wb):Sp:=λvs H Q _=>∃x0 x1 x2,vs=[x0,x1,x2] /\ ∃(a b:Rat)(ns:List Int)(xs:List Rat),Is K H x0 (R a b)/\Is K H x1 (TZ ns)/\Is K H x2 (TN xs)/\aX a b/\dC ns /\ ∀H',ag H H'->Q (.bl (eU a b ns xs)) H'
theorem Zu{K:wb}{H:Hp}{Q:VK}{E:XK}{a b:Rat}{ns:List Int}{xs:List Rat}{v w u:V}(h1:Is K H v (R a b))(h2:Is K H w (TZ ns))(h3:Is K H u (TN xs))(ok:aX a b)(sz:dC ns)(q:∀H',ag H H'->Q (.bl (eU a b ns xs)) H'):RP K [v,w,u] H Q E:=⟨_,_,_,rfl,a,b,ns,xs,h1,h2,h3,ok,sz,q⟩
theorem zoO(T:Txt K mg a):aP P w K mg base aS 10 a.Ig a.GU Ac (RP K):=by
 refine T.G6.F.ok Kq ?_ ?_;wtm_at "b3"
 refine⟨_,(ak (aB 3 Kq.nd (au (ML T) hr T.Bw (ae (pv 0) af)))
     (ak (bP (bY (show aJ _ (wN .Eq) (cH K)from dj hu) (pv 3) dQ (bA _)) (az (aF (fg (show aJ _ (wN .Eq) (cH K)from dj hu) (dg (show aN _ (.type "tuple") (dJ K)from eP) rfl T.z_tuple dk (ae (pv 2) af)) (au (Mr T) hr T.Bv (ae (pv 0) (ae (pv 1) af))) (bA _)))) bQ)
     (ak (bP (bY (show aJ _ (wN .Eq) (cH K)from dj hu) (pv 3) dQ (bA _)) (az (aF (br (show aN _ (.builtin "all") (j4 K)from mi rfl) rfl T.z_all l9 (ae (eh rfl (cv.by (N':=["shift"]) (src:=[none]) rfl (show cN _ (aA A6).names FI ["shift"] [none]=true from by decide +kernel)) (iW (ay (au (rW T) hr T.mG (ae (pv 0) (ae (pv 1) af))))) (λ_ _ _ _ _=>(bM (i:=0) (show(["shift"]:List Str).Nodup from by decide) rfl (Or.inl rfl))) (λ_ _ _ _ _=>du) (λ_ _ _ _ _=>(fg (show aJ _ (wN .Eq) (cH K)from dj hu) (pv 0) (bS (v:=.ref a.cZ) rfl T.dS rfl) (bA _)))) af)))) bQ)
     (az (aF (au (Li T) hr T.Bf (ae (pv 0) (ae (pv 1) af)))))))),?_⟩
 wtm_at "cl";rw[show start FI [x0,x1,x2]=[some x0,some x1,some x2,none]from rfl];obtain⟨ra,rb,ns,xs,hr',hn',hx',ok,sz,q⟩:=h;have h8:=sz.cg;have h1:=sz.some;have hps:=sz.pos;o_head Tp hr' (ok.ba.mono (by decide)) ?_;unfold pX;unfold eU at q
 by_cases z1:1<ra
 . rw[if_pos z1]at q ⊢
   have hF:ra^ns.sum.toNat≠1:=λe=>absurd ((Fu ok (by omega)).mp e) (by grind)
   o_head jZ _ _ true (by rw[wI];decide) ?_;o_head Ks hx' ?_;o_head TH hr' hn' (m9 ok sz) (by omega) (by omega) (λe=>absurd e hF) (λ_ v1 H1 S1 i1=>?_);o_head DA (hx'.by S1) i1 ?_;exact q _ S1
 . rw[if_neg z1]at q ⊢
   by_cases z2:ra=1
   . rw[if_pos z2]at q ⊢
     o_head jZ _ _ false (by rw[wI];decide) ?_;o_head jZ _ _ true (by rw[wI];decide) ?_;o_head pb hr' hn' (m9 ok sz) (by omega) (by omega) (λv1 H1 S1 i1=>?_);o_head aC (j:=1) i1 rfl (λv2 i2=>?_);obtain⟨a2,us,rfl,hs2,t2⟩:=b7.mp i2;have hl2:=t2.length;rw[wo]at hl2;have hsl:(dq ra rb ns).length=ns.length-1:=p_ h1;have t2:av K H1 us ((dq ra rb ns).map N):=t2;have hl2:us.length=(dq ra rb ns).length:=hl2;refine iD hs2 (o0:=none) (tl:=[]) rfl (λi v H=>v=V.bl ((nV (dq ra rb ns)).getD i true)) ?_ ?_
     . rintro D i x ys o H3 hx inv
       obtain⟨hi,ix⟩:=d_ t2 hx;have ix3:=ix.by inv.same;k_few;exact dR inv (by omega) (λ_ _ _ _ _ h=>h) ⟨_,rfl⟩ (ag.refl _) (by rw[zwV hi])
     . rintro D ys H3 hn3 S3 e3 hl3 hr3
       have hz:=yB (bs:=nV (dq ra rb ns)) (by unfold nV;rw[wo];omega) hr3;rw[hz]at e3;o_head kq (.of e3) ?_;exact q _ (S1.trans S3)
   . rw[if_neg z2]at q ⊢
     o_head jZ _ _ false (by rw[wI];decide) ?_;o_head jZ _ _ false (by rw[wI];decide) ?_;k_few;exact Pg hr' hn' ok sz z2 q
theorem zAw{a b:Rat}{ns:List Int}{xs:List Rat}(hF:a^ns.sum.toNat≠1)(hl:ns.length=xs.length+1)(k:Nat):cP a b ns k xs=fG ((a^ns.sum.toNat)^k) (dU a b ns) xs:=by
 have hs:(dU a b ns).length=xs.length:=by rw[Ls (by omega)];omega
 refine kN (by rw[dM,nM hs,hs]) λi hi=>?_
 rw[dM]at hi;rw[mn hs (by omega),kU hi,zyF (zwU hF (by omega))]
theorem DI{a b:Rat}{ns:List Int}{xs:List Rat} : fi a b ns xs=true ↔ (∀i,i<xs.length+1->(dB xs).getD (i+1) 0<(dB xs).getD i 0) /\ ∀i,i<ns.length->(fe a b ns xs).getD i 0<1:=by
 unfold fi;rw[wZ,WE,WE]
 constructor
 ·rintro ⟨h1,h2⟩
  refine⟨λi hi=>?_,λi hi=>?_⟩
  ·have:=h1 _ (wO.mpr ⟨i,wD.mpr hi,rfl⟩)
   exact of_decide_eq_true this
  ·have:=h2 _ (wO.mpr ⟨_,getD_mem (d:=0) (show i<(fe a b ns xs).length by rw[jv];exact hi),rfl⟩)
   exact of_decide_eq_true this
 ·rintro ⟨h1,h2⟩
  refine⟨λx hx=>?_,λx hx=>?_⟩
  ·obtain⟨i,hi,rfl⟩:=wO.mp hx
   exact decide_eq_true (h1 i (wD.mp hi))
  ·obtain⟨t,ht,rfl⟩:=wO.mp hx
   obtain⟨i,hi,rfl⟩:=wO.mp ht;have:=h2 i (wD.mp hi);rw[nk (wD.mp hi)]at this;exact decide_eq_true this
theorem OU:∀l:List Rat,(∀i,i+1<l.length->l.getD (i+1) 0<l.getD i 0)->l.Pairwise (· > ·)
 | [],_=>.nil
 | x::l,h=>by
  have h':∀i,i+1<l.length->l.getD (i+1) 0<l.getD i 0:=λi hi=>by
   have:=h (i+1) (by simp;omega)
   simpa using this
  have hd:∀j,j<l.length->l.getD j 0<x:=λj=>by
   induction j with
   | zero=>intro hj;have:=h 0 (by simp;omega);simpa using this
   | succ j ih=>intro hj;have h3:=h' j hj;have h4:=ih (by omega);grind
  refine WJ.mpr ⟨λy hy=>?_,OU l h'⟩;obtain⟨j,hj,e⟩:=vg hy;have:=hd j hj;rw[wa,wc hj]at this
  show y<x
  rw[<- e];exact this
theorem zzs{l:List Rat}(h:l.Pairwise (· > ·)){i:Nat}(hi:i+1<l.length):l.getD (i+1) 0<l.getD i 0:=by
 rw[wa,wa,wc hi,wc (show i<l.length by omega)];exact(Wy.mp h) i (i+1) (by omega) hi (by omega)
theorem nI(xs:List Rat)(i:Nat):(dB xs).getD (i+1) 0=(xs++[0]).getD i 0:=by
 unfold dB;rw[V5]
 rfl
theorem MO{xs:List Rat}(h:∀i,i<xs.length+1->(dB xs).getD (i+1) 0<(dB xs).getD i 0):iu (xs++[0])/\(xs++[0]).getD 0 0<1:=by
 have pw:(xs++[0]).Pairwise (· > ·):=OU _ λi hi=>by
  have:=h (i+1) (by simp at hi;omega);rw[nI,nI]at this;exact this
 refine⟨⟨pw,λy hy=>?_⟩,?_⟩
 ·rcases vW.mp hy with z | z
  ·exact vY ((qf.mp pw).2.2 y z 0 (wY.mpr rfl))
  ·rw[wY.mp z];exact WT
 ·have:=h 0 (by omega)
  rw[nI]at this;exact this
theorem Ta{xs:List Rat}(pw:(xs++[0]).Pairwise (· > ·))(one:(xs++[0]).getD 0 0<1):∀i,i<xs.length+1->(dB xs).getD (i+1) 0<(dB xs).getD i 0
 | 0,_=>by rw[nI];exact one
 | i+1,hi=>by rw[nI,nI];exact zzs pw (by simp;omega)
theorem Ec{a b:Rat}{ns:List Int}{xs:List Rat}(h:ns.length=xs.length+1):c_ a b ns xs++[0]=aW a b ns (xs++[0]) ns.length:=by
 have hl:=nQ (a:=a) (b:=b) h;have hr:(aW a b ns (xs++[0]) ns.length).length=xs.length+1:=by rw[di];simp
 refine kN (by rw[hr,wX,hl];rfl) λi hi=>?_
 rw[wX,hl]at hi;have hi:i<xs.length+1:=hi;rcases wJ i xs.length with z | z
 ·rw[C7 (by omega),DC h z]
 ·have e:i=xs.length:=by omega
  have e2:(c_ a b ns xs++[0]).getD i 0=0:=by rw[e,<- hl];exact pF
  rw[e2,e,h,aW,ic _ _ _ _ _ _ (by rw[di];simp),if_pos rfl]
theorem Sy{a b:Rat}(a0:0<a)(b0:0<=b){ns:List Int}{row:List Rat}(F:iu row)(one:row.getD 0 0<1)(iK:∀t,t<row.length->eF a b ns row t<1):∀i,i<=row.length->iu (turned a b ns row i)
 | 0,_=>F
 | i+1,hi=>by
  have ih:=Sy a0 b0 F one iK i (by omega)
  have oi:(aW a b ns row i).getD i 0<1:=by
   cases i with
   | zero=>exact one
   | succ j =>
    have:=iK j (by omega);unfold eF at this;rw[XM (by omega)]at this;exact this
  obtain⟨x,l,ex⟩:∃x l,turned a b ns row i=x::l:=by
   cases e:turned a b ns row i with
   | nil =>
    have:=Gf a b ns row (by omega) i;rw[e]at this;simp at this;omega
   | cons x l=>exact⟨x,l,rfl⟩
  have hx:x=(aW a b ns row i).getD i 0:=by
   have:=Cv a b ns row (show i<row.length by omega);rw[ex]at this;exact this
  show iu (lE a b (ns.getD i 0).toNat (turned a b ns row i))
  rw[ex]at ih ⊢;exact ih.step a0 b0 (by rw[hx];exact oi)
theorem ztD{a b:Rat}{ns:List Int}{xs:List Rat}(ok:aX a b)(hn:ns.length=xs.length+1)(f:fi a b ns xs=true):∀i,i<(c_ a b ns xs).length+1->(dB (c_ a b ns xs)).getD (i+1) 0<(dB (c_ a b ns xs)).getD i 0:=by
 obtain⟨h1,h2⟩:=DI.mp f;obtain⟨F,one⟩:=MO h1;have hl:(xs++[0]).length=ns.length:=by simp[hn]
 have iK:∀t,t<(xs++[0]).length->eF a b ns (xs++[0]) t<1:=λt ht=>by
  have:=h2 t (by omega);rw[nk (by omega)]at this;unfold eF;rw[hl];exact this
 have Fl:=Sy ok.a0 ok.b0 F one iK (xs++[0]).length (wq _);rw[hl,zug a b ns _ hl.symm,<- Ec hn]at Fl;have t:=iK (ns.length-1) (by omega);unfold eF at t;rw[hl,show ns.length-1+1=ns.length by omega,Nat.mod_self,<- Ec hn]at t;exact Ta Fl.pw t
theorem zyB(c:Rat)(xs:List Rat):fG c xs xs=xs:=kN (nM rfl) λi hi=>by
 rw[nM rfl]at hi;rw[mn rfl hi]
 grind
def cE(a b:Rat)(ns:List Int)(xs:List Rat)(k:Nat):Bool:=fi a b ns (cP a b ns k xs)
theorem pg{a b:Rat}{ns:List Int}(ok:aX a b)(sz:dC ns){k:Nat}(hk:k<=31):eA a b ns k:=⟨ok,sz,by omega,by
 have h1:=sz.sum;have h2:(6*ns.sum.toNat+1+1)*k<=50*k:=Wi k (by omega);omega⟩
theorem Mw{a b:Rat}{ns:List Int}{xs:List Rat}{m:Nat}(ok:aX a b)(sz:dC ns)(c:Cm m xs){k:Nat}(hk:k<=31):Cm (m+188+102*k) (cP a b ns k xs):=(zCB (pg ok sz hk) c).mono (by
 have h1:=sz.sum;have h2:(6*ns.sum.toNat+3)*k<=51*k:=Wi k (by omega);omega)
theorem DS{a b:Rat}{ns:List Int}{xs:List Rat}{m:Nat}(ok:aX a b)(sz:dC ns)(hn:ns.length=xs.length+1)(c:Cm m xs)(hm:m<=3700){k:Nat}(hk:k<=30):cW a b ns (cP a b ns k xs):=⟨ok.ba,ok.bb,λn hn=>by have:=sz.each n hn;omega,by rw[dM];exact hn,by have:=sz.cg;omega,⟨_,Mw ok sz c (by omega),by have:=sz.cg;have:=sz.upTo;omega⟩⟩
def DT(K:wb)(a:Ad):Sp:=λvs H Q E=>∃x0 x1 x2,vs=[x0,x1,x2] /\ ∃(ra rb:Rat)(ns:List Int)(xs:List Rat),Is K H x0 (R ra rb)/\Is K H x1 (TZ ns)/\Is K H x2 (TN xs)/\aX ra rb/\dC ns/\ns.length=xs.length+1/\cW ra rb ns xs/\(eU ra rb ns xs=false->∃n:Nat,n<=30/\(n=30\/cE ra rb ns xs n=false)/\(∀k,k<=n->cW ra rb ns (cP ra rb ns k xs))/\(∀k,k<n->∀j,ah 6900 ((cP ra rb ns k xs).getD j 0))) /\
 (cE ra rb ns xs 0=false->∀H',ag H H'->Q (.int 0) H') /\
 (cE ra rb ns xs 0=true->eU ra rb ns xs=true->∀H',ag H H'->Q .bX H') /\
 (∀c:Nat,1<=c->c<=30->eU ra rb ns xs=false->(∀k,k<c->cE ra rb ns xs k=true)->cE ra rb ns xs c=false->∀H',ag H H'->Q (.int (c:Int)) H') /\
 (eU ra rb ns xs=false->(∀k,k<=30->cE ra rb ns xs k=true)->∀H',ag H H'->E (.ref a.cS) none H')
theorem zmu{K:wb}{a:Ad}{H:Hp}{Q:VK}{E:XK}{ra rb:Rat}{ns:List Int}{xs:List Rat}{v w u:V}(h1:Is K H v (R ra rb))(h2:Is K H w (TZ ns))(h3:Is K H u (TN xs))(ok:aX ra rb)(sz:dC ns)(hn:ns.length=xs.length+1)(r0:cW ra rb ns xs)(hb:eU ra rb ns xs=false->∃n:Nat,n<=30/\(n=30\/cE ra rb ns xs n=false)/\(∀k,k<=n->cW ra rb ns (cP ra rb ns k xs))/\(∀k,k<n->∀j,ah 6900 ((cP ra rb ns k xs).getD j 0)))
  (q0:cE ra rb ns xs 0=false->∀H',ag H H'->Q (.int 0) H')
  (q1:cE ra rb ns xs 0=true->eU ra rb ns xs=true->∀H',ag H H'->Q .bX H')
  (q2:∀c:Nat,1<=c->c<=30->eU ra rb ns xs=false->(∀k,k<c->cE ra rb ns xs k=true)->cE ra rb ns xs c=false->∀H',ag H H'->Q (.int (c:Int)) H')
  (q3:eU ra rb ns xs=false->(∀k,k<=30->cE ra rb ns xs k=true)->∀H',ag H H'->E (.ref a.cS) none H'):DT K a [v,w,u] H Q E:=⟨_,_,_,rfl,ra,rb,ns,xs,h1,h2,h3,ok,sz,hn,r0,hb,q0,q1,q2,q3⟩
theorem zm4{K:wb}{a:Ad}{H:Hp}{Q:VK}{E:XK}{ra rb:Rat}{ns:List Int}{xs:List Rat}{m:Nat}{v w u:V}(h1:Is K H v (R ra rb))(h2:Is K H w (TZ ns))(h3:Is K H u (TN xs))(ok:aX ra rb)(sz:dC ns)(hn:ns.length=xs.length+1)(c:Cm m xs)(hm:m<=3700)
  (q0:cE ra rb ns xs 0=false->∀H',ag H H'->Q (.int 0) H')
  (q1:cE ra rb ns xs 0=true->eU ra rb ns xs=true->∀H',ag H H'->Q .bX H')
  (q2:∀c:Nat,1<=c->c<=30->eU ra rb ns xs=false->(∀k,k<c->cE ra rb ns xs k=true)->cE ra rb ns xs c=false->∀H',ag H H'->Q (.int (c:Int)) H')
  (q3:eU ra rb ns xs=false->(∀k,k<=30->cE ra rb ns xs k=true)->∀H',ag H H'->E (.ref a.cS) none H'):DT K a [v,w,u] H Q E :=
 zmu h1 h2 h3 ok sz hn (by have:=DS ok sz hn c hm (k:=0) (by decide);rw[nO]at this;exact this) (λ_=>⟨30,wq 30,.inl rfl,λk hk=>DS ok sz hn c hm hk,λk hk j=>((Mw ok sz c (k:=k) (by omega)).get j).mono (by omega)⟩) q0 q1 q2 q3
theorem zog(T:Txt K mg a):aP P w K mg base (eT P w) 11 a.HI a.Gz yZ (DT K a):=by
 refine T.G1.F.m_ pG ?_ ?_;wtm_at "b3"
 refine⟨_,(ak (bP (cA (cu (au (rD T) hr T.mH (ae (pv 0) (ae (pv 1) (ae (pv 2) af)))))) (az (aF aD)) bQ)
     (ak (bP (cu (au (zoO T) hr T.G6 (ae (pv 0) (ae (pv 1) (ae (pv 2) af))))) (az (aF jJ)) bQ)
     (ak (aB 3 pG.nd (au (rW T) hr T.mG (ae (pv 0) (ae (pv 1) af))))
     (ak (aB 4 pG.nd (pv 2))
     (ak (gA Xw rfl (zwE rfl T.z_range (ae aD (ae (aK cK (lF rfl T.Hq) aD) af))) (bM (i:=5) pG.nd rfl (Or.inl rfl)) (ak (aB 4 pG.nd (au (Pj T) hr T.Bs (ae (pv 3) (ae (pv 4) (ae aD af)))))
     (az (bP (cA (cu (au (rD T) hr T.mH (ae (pv 0) (ae (pv 1) (ae (pv 4) af)))))) (az (aF (pv 5))) bQ))))
     (az (BG T.U8 rfl rfl T.II Ce (ae dQ af)))))))),?_⟩
 wtm_at "cl";rw[show start Ny [x0,x1,x2]=[some x0,some x1,some x2,none,none,none]from rfl];obtain⟨ra,rb,ns,xs,hr',hn',hx',ok,sz,hn,r0,hb,q0,q1,q2,q3⟩:=h;have h8:=sz.cg;have h1:=sz.some;have hps:=sz.pos;have e0:cE ra rb ns xs 0=fi ra rb ns xs:=by unfold cE;rw[nO]
 o_head rk hr' hn' hx' r0 (λH1 S1=>?_);k_few
 . rename_i z
   exact q0 (by rw[e0];exact z) H1 S1
 . rename_i z
   have hr1:=hr'.by S1;have hn1:=hn'.by S1;have hx1:=hx'.by S1;refine Zu hr1 hn1 hx1 ok sz (λH2 S2=>?_);k_few
   . rename_i y
     exact q1 (by rw[e0];exact z) y H2 (S1.trans S2)
   . rename_i y
     have y:eU ra rb ns xs=false:=by first | exact y | exact XR _ ▸ y
     obtain⟨n,n30,stop,rd,bd⟩:=hb y;refine pb (hr1.by S2) (hn1.by S2) (m9 ok sz) (by omega) (by omega) (λv3 H3 S3 i3=>?_);have T3:ag H H3:=S1.trans (S2.trans S3);have hr3:=hr'.by T3;have hn3:=hn'.by T3;have hx3:=hx'.by T3;clear hr1 hn1 hx1 S1 S2 S3;o_head ZF ?_;o_head zu0 (lo:=1) (hi:=31) (by decide) (by decide) (by decide) (by decide) (λi σ H'=>∃(v:V)(o:Option V),σ = [some x0,some x1,some x2,some v3,some v,o]/\ag H3 H'/\Is K H' v (TN (cP ra rb ns i xs)) /\ ∀k,k<=i->cE ra rb ns xs k=true) ⟨_,_,rfl,ag.refl _,by rw[nO];exact hx3,λk hk=>by rw[show k=0 by omega,e0];exact z⟩ ?_ ?_
     . rintro i σ H4 hi ⟨v,o,rfl,S4,iv,fr⟩
       have hi:i<30:=hi;have i34:=i3.by S4
       have hin:i<n:=by
         rcases stop with e | e
         . omega
         . rcases wJ i n with u | u
           . exact u
           . rw[fr n u]at e;cases e
       o_head LK (ss:=dq ra rb ns) i34 iv (by decide) (by decide) (by rw[p_ h1,dM];omega) (by rw[dM];omega) ((j6 ok _).mono (by have:=sz.sum;omega)) (λj hj=>((pg ok sz (k:=1) (by decide)).pow hj).mono (by decide)) (λj hj=>((pg ok sz (k:=1) (by decide)).aG hj).mono (by decide)) (λj=>bd i hin j) (λj=>(B_ ok sz j).mono (by decide)) (λv5 H5 S5 i5=>?_);have i5:Is K H5 v5 (TN (cP ra rb ns 1 (cP ra rb ns i xs))):=i5;rw[Kh]at i5;have T5:=S4.trans S5;o_head rk (hr3.by T5) (hn3.by T5) i5 (rd (i+1) (by omega)) (λH6 S6=>?_);have T6:=T5.trans S6;k_few
       . rename_i w
         have q:=q2 (i+1) (by omega) (by omega) y (λk hk=>fr k (by omega)) (by unfold cE;exact w) H6 (T3.trans T6);rw[show((i+1:Nat):Int)=1+(i:Int) by omega]at q;exact q
       . rename_i w
         refine⟨_,_,rfl,T6,i5.by S6,λk hk=>?_⟩;rcases wJ k (i+1)with u | u
         . exact fr k (by omega)
         . have:k=i+1:=by omega
           subst this;unfold cE
           first | exact w | exact Bool.not_eq_false _ ▸ w
     . rintro σ H4 ⟨v,o,rfl,S4,iv,fr⟩
       k_few;exact⟨by simp;decide,q3 y (λk hk=>fr k hk) H4 (T3.trans S4)⟩
def Pl(K:wb):Sp:=λvs H Q _=>∃x0 x1,vs=[x0,x1] /\ ∃(h:Rat)(xs:List Rat)(ds:List wB),Is K H x0 (.tuple (N h::TN xs::ds))/\x1=.int (xs.length:Int)/\xs.length<=8 /\ ∀H',ag H H'->Q (.bl true) H'
theorem OW{K:wb}{H:Hp}{Q:VK}{E:XK}{h:Rat}{xs:List Rat}{ds:List wB}{v:V}(i:Is K H v (.tuple (N h::TN xs::ds)))(h8:xs.length<=8)(q:∀H',ag H H'->Q (.bl true) H'):Pl K [v,.int (xs.length:Int)] H Q E:=⟨_,_,rfl,h,xs,ds,i,rfl,h8,q⟩
theorem Me(T:Txt K mg a):aP P w K mg base aS 3 a.Iu a.Hg s_ (Pl K):=by
 refine T.Bj.F.ok zqF ?_ ?_;wtm_at "b2"
 refine⟨_,(ak (bP (PW.pt (ff (cA (cu (au (pJ T) hr T.mF (ae (ay (pv 0)) af)))) (ff (cA (cu (br (show aN _ (.builtin "isinstance") (fc K)from ju) rfl T.z_isinstance eC (ae (ay (pv 0)) (ae (hJ (v:=.ty "tuple") rfl T.z_tuple dk rfl) af))))) (fO (bY (show aJ _ (wN .NotEq) (df K)from fh hu) (br (show aN _ (.builtin "len") (cF K)from dy) rfl T.z_len dA (ae (ay (pv 0)) af)) (pv 1) (bA _)))))) (az (aF d8)) bQ)
     (az (aF (br (show aN _ (.builtin "all") (j4 K)from mi rfl) rfl T.z_all l9 (ae (eh rfl (cv.by (N':=["phase"]) (src:=[none]) rfl (show cN _ (aA u7).names AV ["phase"] [none]=true from by decide +kernel)) (iW (ay (pv 0))) (λ_ _ _ _ _=>(bM (i:=0) (show(["phase"]:List Str).Nodup from by decide) rfl (Or.inl rfl))) (λ_ _ _ _ _=>du) (λ_ _ _ _ _=>(au (pJ (K:=K) (mg:=mg) (a:=a) T) hr T.mF (ae (pv 0) af)))) af))))),?_⟩
 wtm_at "cl";rw[show start AV [x0,x1]=[some x0,some x1]from rfl];obtain⟨hh,xs,ds,hi,rfl,h8,q⟩:=h;o_head aC (j:=0) hi rfl (λv0 i0=>?_);k_few
 all_goals first | (rename_i e;rw[oS]at e;cases (show true=false from e)) | skip
 refine aC (j:=1) hi rfl (λv1 i1=>?_);k_few
 all_goals first | (rename_i e;cases (show true=false from e)) | skip
 refine aC (j:=1) hi rfl (λv2 i2=>?_);o_head tY i2 ?_;k_few
 all_goals first | (rename_i e;exact absurd rfl e) | skip
 refine aC (j:=1) hi rfl (λv3 i3=>?_);k_few;obtain⟨a3,vs3,rfl,s3,t3⟩:=b7.mp i3;refine iD s3 (o0:=none) (tl:=[]) rfl (λj y _=>y=.bl true) ?_ ?_
 . intro D j x ys o H1 hx inv
   obtain⟨hj,ix⟩:=d_ t3 hx;have ix:=ix.by inv.2.2.1;k_few;rw[oS];exact dR inv (by omega) (λ_ _ _ _ _ h=>h) ⟨_,rfl⟩ (ag.refl _) rfl
 . intro D ys H1 n1 S1 e1 l1 r1
   have ey:ys=(Vf ys.length true).map V.bl:=by
     refine Wg (by simp) λi h1 h2=>?_
     rw[r1 i ys[i] (wc h1)];simp
   rw[ey]at e1;o_head kq (.of e1) ?_;rw[show(Vf ys.length true).all id=true by simp];exact q _ S1
def OK(K:wb):Sp:=λvs H Q _=>∃x0 x1,vs=[x0,x1] /\ ∃(h:Rat)(xs:List Rat)(f g:Int),Is K H x0 (.tuple [N h,TN xs,.int f,.int g])/\x1=.int (xs.length:Int)/\xs.length<=8/\0<=f/\f<=30/\0<=g/\g<=40 /\ ∀H',ag H H'->Q (.bl true) H'
theorem zxc{K:wb}{H:Hp}{Q:VK}{E:XK}{h:Rat}{xs:List Rat}{f g:Int}{v:V}{n:Nat}(e:xs.length=n)(i:Is K H v (.tuple [N h,TN xs,.int f,.int g]))(h8:xs.length<=8)(f0:0<=f)(f1:f<=30)(g0:0<=g)(g1:g<=40)(q:∀H',ag H H'->Q (.bl true) H'):OK K [v,.int (n:Int)] H Q E:=⟨_,_,rfl,h,xs,f,g,i,by rw[e],h8,f0,f1,g0,g1,q⟩
theorem zwt(T:Txt K mg a):aP P w K mg base aS 4 a.JI a.IM uU (OK K):=by
 refine T.Jh.F.ok zxp ?_ ?_;wtm_at "b2"
 refine⟨_,(ak (bP (PW.pt (ff (cA (cu (br (show aN _ (.builtin "isinstance") (fc K)from ju) rfl T.z_isinstance eC (ae (pv 0) (ae (hJ (v:=.ty "tuple") rfl T.z_tuple dk rfl) af))))) (ff (bY (show aJ _ (wN .NotEq) (df K)from fh hu) (br (show aN _ (.builtin "len") (cF K)from dy) rfl T.z_len dA (ae (pv 0) af)) aD (bA _)) (fO (cA (cu (au (Me T) hr T.Bj (ae (pv 0) (ae (pv 1) af))))))))) (az (aF d8)) bQ)
     (az (aF (fB (au (Ni T) hr T.Bb (ae aD (ae (lF rfl T.Hq) (ae (ay (pv 0)) af)))) (gS (au (Ni T) hr T.Bb (ae aD (ae (lF rfl T.UU) (ae (ay (pv 0)) af))))))))),?_⟩
 wtm_at "cl";rw[show start EZ [x0,x1]=[some x0,some x1]from rfl];obtain⟨hh,xs,f,g,hi,rfl,h8,f0,f1,g0,g1,q⟩:=h;k_few
 all_goals first | (rename_i e;cases (show true=false from e)) | skip
 refine kQ hi ?_;k_few
 all_goals first | (rename_i e;exact absurd rfl e) | skip
 refine OW hi h8 (λH1 S1=>?_);have hi1:=hi.by S1;o_head aC (j:=2) hi1 rfl (λv2 i2=>?_);o_head RT i2 ?_;rw[show lU 0 30 (.int f)=true by simp[lU,f0,f1]];o_head aC (j:=3) hi1 rfl (λv3 i3=>?_);o_head RT i3 ?_;rw[show lU 0 40 (.int g)=true by simp[lU,g0,g1]];exact q _ S1
def iQ(w:String):Prop:=w="one"\/w="rests"\/w="drawn"
def Uh(K:wb):Sp:=λvs H Q _=>∃x0 x1,vs=[x0,x1] /\ ∃(h:Rat)(xs:List Rat)(w:String),Is K H x0 (.tuple [N h,TN xs,.str (wV w)])/\x1=.int (xs.length:Int)/\xs.length<=8/\iQ w /\ ∀H',ag H H'->Q (.bl true) H'
theorem zno{K:wb}{H:Hp}{Q:VK}{E:XK}{h:Rat}{xs:List Rat}{w:String}{v:V}{n:Nat}(e:xs.length=n)(i:Is K H v (.tuple [N h,TN xs,.str (wV w)]))(h8:xs.length<=8)(hw:iQ w)(q:∀H',ag H H'->Q (.bl true) H'):Uh K [v,.int (n:Int)] H Q E:=⟨_,_,rfl,h,xs,w,i,by rw[e],h8,hw,q⟩
def rO:List wB:=[.str (wV "one"),.str (wV "rests"),.str (wV "drawn")]
theorem ou{w:PySem.Str}(h:Xc w=true):Sh 1 (.str w):=⟨by simpa [vM] using h,by simp[WU]⟩
theorem zt5:vM (.tuple rO)=true:=(gI (n:=1) λd hd=>by
 simp only[rO,wL,Wx,or_false]at hd;rcases hd with rfl | rfl | rfl<;>exact ou (lY _)).1
theorem zDf{K:wb}{H:Hp}{Q:VK}{p:we}{w:String}(t:aV K H p [.str (wV "one"),.str (wV "rests"),.str (wV "drawn")])(h:iQ w)(q:Q (.bl true) H):rE K (.str (wV w)) (.ref p) H Q:=by
 refine⟨.str (wV w),rO,eI.mpr rfl,b7.mpr ⟨p,_,rfl,t,.cons (eI.mpr rfl) (.cons (eI.mpr rfl) (.cons (eI.mpr rfl) .nil))⟩,(ou (lY _)).mono (by decide),zt5,?_⟩
 rw[show rO.any (wI · (.str (wV w)))=true by
  unfold rO;simp only[qW,List.any_nil,wI,uB,ub,beq_iff_eq];rcases h with rfl | rfl | rfl<;>simp]
 exact q
theorem ZL(T:Txt K mg a):aP P w K mg base aS 4 a.HH a.GA zN (Uh K):=by
 refine T.GQ.F.ok zol ?_ ?_;wtm_at "b2";have hgd:=hr.gd
 refine⟨_,(ak (bP (PW.pt (ff (cA (cu (br (show aN _ (.builtin "isinstance") (fc K)from ju) rfl T.z_isinstance eC (ae (pv 0) (ae (hJ (v:=.ty "tuple") rfl T.z_tuple dk rfl) af))))) (ff (bY (show aJ _ (wN .NotEq) (df K)from fh hu) (br (show aN _ (.builtin "len") (cF K)from dy) rfl T.z_len dA (ae (pv 0) af)) aD (bA _)) (fO (cA (cu (au (Me T) hr T.Bj (ae (pv 0) (ae (pv 1) af))))))))) (az (aF d8)) bQ)
     (az (aF (fB (br (show aN _ (.builtin "isinstance") (fc K)from ju) rfl T.z_isinstance eC (ae (ay (pv 0)) (ae (hJ (v:=.ty "str") rfl T.z_str zB7 rfl) af))) (gS (fg (show aJ _ (wN .In) (rE K)from Nf hu) (ay (pv 0)) (bS (v:=.ref a.Bt) rfl T.Yh rfl) (by with_unfolding_all rfl))))))),?_⟩
 wtm_at "cl";rw[show start Dr [x0,x1]=[some x0,some x1]from rfl];obtain⟨hh,xs,ww,hi,rfl,h8,hw,q⟩:=h;k_few
 all_goals first | (rename_i e;cases (show true=false from e)) | skip
 refine kQ hi ?_;k_few
 all_goals first | (rename_i e;exact absurd rfl e) | skip
 refine OW hi h8 (λH1 S1=>?_);have hi1:=hi.by S1;o_head aC (j:=2) hi1 rfl (λv2 i2=>?_);o_head zxv i2 ?_;rw[show Fw (.str (wV ww))=true from rfl];o_head aC (j:=2) hi1 rfl (λv3 i3=>?_);cases eI.mp i3;k_few;exact zDf (T.Yj _) hw (q _ S1)
structure gM where
 h:Rat
 xs:List Rat
 r:Nat
 g:Nat
def gM.d(e:gM):wB:=.tuple [N e.h,TN e.xs,.int (e.r:Int),.int (e.g:Int)]
def m5(h:Rat)(xs:List Rat)(w:String):wB:=.tuple [N h,TN xs,.str (wV w)]
def Kb(K:wb):Sp:=λvs H Q _=>∃x0 x1,vs=[x0,x1] /\ ∃(n:Nat)(ps:List gM)(h:Rat)(xs:List Rat)(w:String),Is K H x0 (.list (ps.map gM.d++[m5 h xs w]))/\x1=.int (n:Int)/\n<=8/\(∀e∈ps,e.xs.length=n/\e.r<=30/\e.g<=40)/\xs.length=n/\iQ w/\ps.length<=100 /\ ∀H',ag H H'->Q (.bl true) H'
theorem zsi{K:wb}{H:Hp}{Q:VK}{E:XK}{n:Nat}{ps:List gM}{h:Rat}{xs:List Rat}{w:String}{v:V}(i:Is K H v (.list (ps.map gM.d++[m5 h xs w])))(h8:n<=8)(hp:∀e∈ps,e.xs.length=n/\e.r<=30/\e.g<=40)(hx:xs.length=n)(hw:iQ w)(cg:ps.length<=100)(q:∀H',ag H H'->Q (.bl true) H'):Kb K [v,.int (n:Int)] H Q E:=⟨_,_,rfl,n,ps,h,xs,w,i,rfl,h8,hp,hx,hw,cg,q⟩
theorem Z8{α : Type}(ds:List α)(d : α):L2.cutD (ds++[d]) none (some (-1))=ds:=by
 unfold L2.cutD;have e1:HT.a_ (ds++[d]).length 0 none=0:=by simp[HT.a_]
 have e2:HT.a_ (ds++[d]).length (ds++[d]).length (some (-1))=ds.length:=by
  rw[wX,vT];simp[HT.a_];omega
 rw[e1,e2];simp
theorem zDE{K:wb}{H:Hp}{ps:List gM}{us:List V}(t:av K H us (ps.map gM.d)){i:Nat}{x:V}(hx:us[i]? = some x):∃e∈ps,i<ps.length/\Is K H x e.d:=by
 obtain⟨hi,ix⟩:=gG t hx;rw[wo]at hi;refine⟨ps[i],vt hi,hi,?_⟩;rw[wa,wu,wc hi]at ix;exact ix
theorem zr1(T:Txt K mg a):aP P w K mg base aS 5 a.IW a.Hx yL (Kb K):=by
 refine T.HR.F.ok Zy ?_ ?_;wtm_at "b2"
 refine⟨_,(ak (bP (PW.pt (ff (cA (cu (br (show aN _ (.builtin "isinstance") (fc K)from ju) rfl T.z_isinstance eC (ae (pv 0) (ae (hJ (v:=.ty "list") rfl T.z_list j5 rfl) af))))) (fO (cA (tN (pv 0)))))) (az (aF d8)) bQ)
     (az (aF (fB (br (show aN _ (.builtin "all") (j4 K)from mi rfl) rfl T.z_all l9 (ae (eh rfl (cv.by (N':=["row","worms"]) (src:=[none,some 1]) rfl (show cN _ (aA Av).names A7 ["row","worms"] [none,some 1]=true from by decide +kernel)) (gO (mj mv (pv 0) mh (lD (gL gK aD)))) (λ_ _ _ _ _=>(bM (i:=0) (show(["row","worms"]:List Str).Nodup from by decide) rfl (Or.inl rfl))) (λ_ _ _ _ _=>du) (λ_ _ _ _ _=>(au (zwt (K:=K) (mg:=mg) (a:=a) T) hr T.Jh (ae (pv 0) (ae (pv 1) af))))) af)) (gS (au (ZL T) hr T.GQ (ae (dr cX (pv 0) (gL gK aD) (λ_ _=>rfl)) (ae (pv 1) af)))))))),?_⟩
 wtm_at "cl";rw[show start A7 [x0,x1]=[some x0,some x1]from rfl];obtain⟨n,ps,hl',xs,wd,hi,rfl,h8,hp,hx',hw,cg,q⟩:=h;o_head u9 hi ?_;rw[show gZ (PyData.list (ps.map gM.d++[m5 hl' xs wd]))=true from rfl];o_head FC hi ?_;rw[show(!(ps.map gM.d++[m5 hl' xs wd]).isEmpty)=true by simp];o_head pq hi (λl1 H1 us n1 S1 e1 t1=>?_);rw[Z8]at t1;have lt:=t1.length;rw[wo]at lt;o_head jT (.of e1) (o0:=none) (tl:=[some (.int (n:Int))]) rfl (λj y _=>y=.bl true) ?_ ?_
 . intro D j x ys o H2 hx inv
   obtain⟨e,he,hj,ir⟩:=zDE t1 hx;obtain⟨p1,p2,p3⟩:=hp e he;unfold gM.d at ir;o_head zxc p1 (ir.by inv.2.2.1) (by omega) (by omega) (by omega) (by omega) (by omega) (λH3 S3=>?_);k_few;exact dR inv (by omega) (λ_ _ _ _ _ h=>h) ⟨_,rfl⟩ S3 rfl
 . intro D ys H2 n2 S2 e2 l2 r2
   have ey:ys=(Vf ys.length true).map V.bl:=by
     refine Wg (by simp) λi h1 h2=>?_
     rw[r2 i ys[i] (wc h1)];simp
   rw[ey]at e2;o_head kq (.of e2) ?_;rw[show(Vf ys.length true).all id=true by simp];have T2:=S1.trans S2;o_head lI (hi.by T2) (λv3 i3=>?_);unfold m5 at i3;o_head zno hx' i3 (by omega) hw (λH3 S3=>?_);exact q _ (T2.trans S3)
theorem Tw{a b:Rat}(ok:aX a b){xs ps:List Rat}{fl:Nat->Nat}{ns:List Int}(L:gb xs (ps++[0]) fl ns)(hn:ns.length=ps.length+1)(f:fi a b ns ps=true) :
  gb (ai a b xs ns.length) (c_ a b ns ps++[0]) fl ns/\(∀t,t<ns.length->cf a b (ai a b xs t)=[bR xs.length fl t])/\aM a b xs ns.length=fq a b ns ps:=by
 have hl:(ps++[0]).length=ns.length:=by simp[hn]
 have iK:∀t,t<(ps++[0]).length->eF a b ns (ps++[0]) t<1:=λt ht=>by
  have:=(DI.mp f).2 t (by omega);rw[nk (by omega)]at this;unfold eF;rw[hl];exact this
 obtain⟨P,F,_,W⟩:=zT ok.a0 ok.b0 L _ (wq _) iK;have ht:=LG ok.a0 ok.b0 L _ (wq _) iK;rw[hl]at P W ht;rw[<- Ec hn]at P;have st:=MO (ztD ok hn f);have hbl:=nQ (a:=a) (b:=b) hn;have hbl2:(c_ a b ns ps++[0]).length=(ps++[0]).length:=by simp[hbl]
 have hpl:=bj a b xs ns.length;refine⟨⟨P,st.1,st.2,by rw[hbl2];exact L.len,λc hc=>?_,λc hc=>?_⟩,W,?_⟩
 ·rw[hpl];exact L.some c (by omega)
 ·rw[hpl];exact L.size c (by omega)
 ·rw[ht];rfl
theorem yR{a b:Rat}(ok:aX a b){xs ps:List Rat}{fl:Nat->Nat}{ns:List Int}(L:gb xs (ps++[0]) fl ns)(hn:ns.length=ps.length+1)(n0:∀n∈ns,0<=n):∀k,(∀j,j<k->cE a b ns ps j=true) ->
  gb (ai a b xs (k*ns.length)) (cP a b ns k ps++[0]) fl ns/\aM a b xs (k*ns.length)=rl a b ns ps k
 | 0,_=>by
  rw[QY,nO];exact⟨L,rfl⟩
 | k+1,h=>by
  obtain⟨Lk,Hk⟩:=yR ok L hn n0 k λj hj=>h j (by omega)
  have hl:ns.length=(cP a b ns k ps).length+1:=by rw[dM];exact hn
  obtain⟨L1,_,H1⟩:=Tw ok Lk hl (h k (by omega));rw[eZ,<- Dt hl n0,Kh]at L1;have e:(k+1)*ns.length=k*ns.length+ns.length:=Qh ..;rw[e];refine⟨L1,?_⟩;rw[<- lP,Hk,H1]
  rfl
theorem Rp{a b:Rat}(a0:0<a)(b0:0<=b){xs row:List Rat}{fl:Nat->Nat}{ns:List Int}(L:gb xs row fl ns):∀n,n<=row.length->(¬ ∀t,t<n->eF a b ns row t<1)->∃t,t<n/\1<(cf a b (ai a b xs t)).length
 | 0,_,z=>absurd (λt ht=>by omega) z
 | n+1,hn,z=>by
  by_cases y:∀t,t<n->eF a b ns row t<1
  ·refine⟨n,by omega,zwz a0 b0 L (by omega) y (λu=>z λt ht=>?_)⟩
   rcases wJ t n with k | k
   ·exact y t k
   ·have:t=n:=by omega
    rw[this];exact u
  ·obtain⟨t,h1,h2⟩:=Rp a0 b0 L n (by omega) y
   exact⟨t,by omega,h2⟩
theorem ZT{a b:Rat}(ok:aX a b){xs ps:List Rat}{fl:Nat->Nat}{ns:List Int}(L:gb xs (ps++[0]) fl ns)(hn:ns.length=ps.length+1)(f:fi a b ns ps=false):∃t,t<ns.length/\1<(cf a b (ai a b xs t)).length:=by
 have hl:(ps++[0]).length=ns.length:=by simp[hn]
 refine Rp ok.a0 ok.b0 L ns.length (by omega) λz=>?_
 have:fi a b ns ps=true:=DI.mpr ⟨Ta L.BB.pw L.one,λi hi=>by
  have:=z i hi;unfold eF at this;rw[hl]at this;rw[nk hi];exact this⟩
 rw[f]at this;cases this
theorem zBa{xs row:List Rat}{fl:Nat->Nat}{ns:List Int}{n:Nat}(L:gb xs row fl ns)(hn:xs.length=n):((wx n).map λw=>row.getD (fl w) 0)=xs:=by
 refine kN (by simp[hn]) λw hw=>?_
 have hw:w<n:=by simpa using hw
 rw[L.pl.at' w (by omega),wa,wu,vV hw]
 rfl
theorem OR{xs:List Rat}(h1:1<=xs.length)(h8:xs.length<=8):dC (bN xs):=by
 have hs:=zZ xs;have hv:=j9 xs;have hp:=yF h1;refine⟨by omega,by omega,λn hn=>?_,?_⟩
 ·have h2:=zt6 xs n hn
  refine⟨?_,by omega⟩;obtain⟨v,hv,rfl⟩:=wO.mp hn;have hm:=jw hv;obtain⟨j,hj,e⟩:=vg hm;have:j∈d9 xs v:=vd.mpr ⟨wD.mpr hj,decide_eq_true (by rw[wa,wc hj];exact e)⟩;have:=xh this;omega
 ·have h3:=Lx xs
  have:=yw (zO xs);omega
def fo(a b:Rat)(xs:List Rat)(r:Nat):Prop:=∀k,k<r->cE a b (bN xs) (bZ xs) k=true
structure ft(a b:Rat)(xs:List Rat):Prop where
 ok:aX a b
 h1:1<=xs.length
 h8:xs.length<=8
 hp:dh xs
 h0:0∈xs
 cm:Cm 3600 xs
theorem ft.round{a b:Rat}{xs:List Rat}(h:ft a b xs):cW a b (bN xs) (bZ xs)/\dC (bN xs)/\(bN xs).length=(bZ xs).length+1:=by
 have hz:bZ xs++[0]=aj xs:=Fd h.hp h.h0;have h8:=h.h8;have sz:=OR h.h1 h8;have hsl:=zZ xs;have hvl:=j9 xs;have hsu:=SI xs;have hpl:(bZ xs).length+1=(aj xs).length:=by rw[<- hz];simp
 refine⟨⟨h.ok.ba,h.ok.bb,λn hn=>by have:=sz.each n hn;omega,by omega,by omega,⟨3600,pf h.cm,by omega⟩⟩,sz,by omega⟩
def N5(K:wb):Sp:=λvs H Q _=>∃x0 x1,vs=[x0,x1] /\ ∃(a b:Rat)(xs:List Rat)(r:Nat),x1=.int (r:Int)/\Is K H x0 (aZ a b xs)/\ft a b xs/\1<=r/\r<=30/\fo a b xs r /\ ∀H',ag H H'->Q (.bl true) H'
theorem zuq{K:wb}{H:Hp}{Q:VK}{E:XK}{a b:Rat}{xs:List Rat}{r:Nat}{v:V}(h:Is K H v (aZ a b xs))(ok:ft a b xs)(r1:1<=r)(h30:r<=30)(f:fo a b xs r)(q:∀H',ag H H'->Q (.bl true) H'):N5 K [v,.int (r:Int)] H Q E:=⟨_,_,rfl,a,b,xs,r,rfl,h,ok,r1,h30,f,q⟩
theorem zt9(T:Txt K mg a):aP P w K mg base aS 9 a.Jm a.HS uX (N5 K):=by
 refine T.IE.F.ok CW ?_ ?_;wtm_at "b2"
 refine⟨_,(ak (bP (cA (cu (au (EL T) hr T.sj (ae (pv 0) af)))) (az (aF d8)) bQ)
     (ak (aB 2 CW.nd (km (tW T) hr T.oM rH (ae (pv 0) af)))
     (ak (aB 3 CW.nd (au (Ou T) hr T.Ba (by exact(@ae _ _ _ _ _ (ay (pv 0)) (@ae _ _ _ _ _ (ay (pv 2)) (@ae _ _ _ _ _ (ay (pv 2)) (@ae _ _ _ _ _ (aK r8 (pv 1) aD) af zty) gE) gE) gE))))
     (az (aF (fB (au (rD T) hr T.mH (ae (ay (pv 0)) (ae (ay (pv 2)) (ae (ay (pv 2)) af)))) (gS (au (rD T) hr T.mH (ae (ay (pv 0)) (ae (ay (pv 2)) (ae (pv 3) af))))))))))),?_⟩
 wtm_at "cl";rw[show start Ka [x0,x1]=[some x0,some x1,none,none]from rfl];obtain⟨ra,rb,xs,r,rfl,hw,ok,r1,h30,fr,q⟩:=h;obtain⟨rok,sz,hn⟩:=ok.round;have h8:=ok.h8;have bx:∀i,ah 4000 (xs.getD i 0):=λi=>(ok.cm.get i).mono (by decide)
 have cp:Cm 3600 (bZ xs):=pf ok.cm;have e1:((r:Int)-1).toNat=r-1:=by omega
 have hlk:eA ra rb (bN xs) ((r:Int)-1).toNat:=pg ok.ok sz (by omega);have hbp:∀i,ah 6900 ((bZ xs).getD i 0):=λi=>(cp.get i).mono (by decide)
 have f0:fi ra rb (bN xs) (bZ xs)=true:=by
   have:=fr 0 (by omega);unfold cE at this;rw[nO]at this;exact this
 have f1:fi ra rb (bN xs) (cP ra rb (bN xs) (r-1) (bZ xs))=true:=fr (r-1) (by omega);o_head Eg hw ?_;rw[decide_eq_true ok.h0];o_head AG hw h8 bx (λz=>absurd ok.h0 z) (λ_ vl H1 S1 il=>?_);have hw1:=hw.by S1;o_head aC (j:=0) hw1 rfl (λvr ir=>?_);o_head aC (j:=0) il rfl (λvz iz=>?_);o_head aC (j:=1) il rfl (λvp ip=>?_);o_head LS ir iz ip hn (by omega) hlk hbp (λv2 H2 S2 i2=>?_);rw[e1]at i2;o_head aC (j:=0) (hw1.by S2) rfl (λvr2 ir2=>?_);o_head aC (j:=0) (il.by S2) rfl (λvz2 iz2=>?_);o_head aC (j:=1) (il.by S2) rfl (λvp2 ip2=>?_);o_head rk ir2 iz2 ip2 rok (λH3 S3=>?_);rw[f0];have S23:=S2.trans S3;o_head aC (j:=0) (hw1.by S23) rfl (λvr3 ir3=>?_);o_head aC (j:=0) (il.by S23) rfl (λvz3 iz3=>?_);o_head rk ir3 iz3 (i2.by S3) (DS ok.ok sz hn cp (by decide) (by omega)) (λH4 S4=>?_);rw[f1];exact q _ (S1.trans (S23.trans S4))
def Rm(K:wb):Sp:=λvs H Q _=>∃x0 x1,vs=[x0,x1] /\ ∃(a b:Rat)(xs:List Rat)(r:Nat),x1=.int (r:Int)/\Is K H x0 (aZ a b xs)/\ft a b xs/\r<=30/\fo a b xs r /\ ∀v H',ag H H'->Is K H' v (BD a b xs (r*(aj xs).length))->Q v H'
theorem FU{K:wb}{H:Hp}{Q:VK}{E:XK}{a b:Rat}{xs:List Rat}{r:Nat}{v:V}(h:Is K H v (aZ a b xs))(ok:ft a b xs)(h30:r<=30)(f:fo a b xs r)(q:∀v H',ag H H'->Is K H' v (BD a b xs (r*(aj xs).length))->Q v H'):Rm K [v,.int (r:Int)] H Q E:=⟨_,_,rfl,a,b,xs,r,rfl,h,ok,h30,f,q⟩
theorem Dw{K:wb}{H:Hp} : ∀{xs:List Rat}{us:List V},av K H us (xs.map N)->∃cs:List we,us=cs.map V.ref
 | [],us,h=>⟨[],fK.mp h⟩
 | x::xs,us,h=>by
  obtain⟨v,r,rfl,iv,t⟩:=c8.mp h;obtain⟨a,_,rfl,_,_⟩:=b7.mp (show Is K H v (.tuple _)from iv);obtain⟨cs,rfl⟩:=Dw t;exact⟨a::cs,rfl⟩
def fU(x:Rat):List Int:=[x.num,(x.den:Int)]
theorem zxV{x y:Rat}(h:fU x=fU y):x=y:=by
 unfold fU at h
 injection h with h1 h2
 injection h2 with h2 _
 exact Rat.ext h1 (by omega)
theorem zum{xs:List Rat}(h:xs.Nodup):(xs.map fU).Nodup:=by
 unfold xH at *;rw[WN];exact h.imp λ{a b} n e=>n (zxV e)
theorem NU{xs:List Rat}{j:Nat}(h:j<xs.length):(xs.map fU).getD j []=fU (xs.getD j 0):=by
 rw[wa,wu,wa,wc h]
 rfl
theorem zwX{ks:List (List Int)}{us ws:List we}(nd:ks.Nodup)(hl:ks.length=us.length){j:Nat}(hj:j<us.length):lT (gx ks us ws) (ks.getD j [])=some (ws.getD j 0):=by
 unfold lT gx;rw[List.find?_map];have pw:=Wy.mp nd;cases e:(wx us.length).find? ((λx:NE=>decide (x.1=ks.getD j [])) ∘ λj=>(ks.getD j [],us.getD j 0,ws.getD j 0))with
 | none =>
  have:=List.find?_eq_none.mp e j (wD.mpr hj);simp at this
 | some i =>
  have hm:=wD.mp (QT e);have hp:=ui e;have hp:ks.getD i []=ks.getD j []:=of_decide_eq_true hp;have hi:i<ks.length:=by omega
  have hj':j<ks.length:=by omega
  rw[wa,wa,wc hi,wc hj']at hp
  have hij:i=j:=by
   rcases VB i j with z | z | z
   ·exact absurd hp (pw i j hi hj' z)
   ·exact z
   ·exact absurd hp.symm (pw j i hj' hi z)
  rw[hij];rfl
theorem zwv{K:wb}{H:Hp}{xs:List Rat}{cs ws:List we}(t:av K H (cs.map V.ref) (xs.map N)):zd K H (gx (xs.map fU) cs ws):=by
 intro x hx;obtain⟨j,hj,rfl⟩:=wO.mp hx;have hj:=wD.mp hj;have hl:=t.length;simp only[wo]at hl;have:=(d_ t (i:=j) (x:=.ref (cs.getD j 0)) (by rw[wu,wa,wc hj];rfl)).2
 show Is K H (.ref (cs.getD j 0)) (TZ ((xs.map fU).getD j []))
 rw[NU (by omega)];exact this
theorem La(T:Txt K mg a):aP P w K mg base aS 9 a.GY a.Gn zQ (Rm K):=by
 refine T.Bc.F.ok pV ?_ ?_;wtm_at "b2"
 refine⟨_,(ak (aB 2 pV.nd (km (tW T) hr T.oM rH (ae (pv 0) af)))
     (ak (aB 3 pV.nd (au (Ou T) hr T.Ba (by exact(@ae _ _ _ _ _ (ay (pv 0)) (@ae _ _ _ _ _ (ay (pv 2)) (@ae _ _ _ _ _ (ay (pv 2)) (@ae _ _ _ _ _ (pv 1) af fZ) gE) gE) gE))))
     (ak (aB 4 pV.nd (Z4 rfl (WY (xS (by decide) _) hu) rfl T.z_dict rfl T.z_zip (ae (aK (show aJ _ (WO .Add) (p6 K)from BS) (ay (pv 2)) (bL (ae (bS (v:=.ref a.cZ) rfl T.dS rfl) af))) (ae (aK (show aJ _ (WO .Add) (p6 K)from BS) (pv 3) (bL (ae (bS (v:=.ref a.cZ) rfl T.dS rfl) af))) af))))
     (ak (aB 5 pV.nd (dg (show aN _ (.type "tuple") (dJ K)from eP) rfl T.z_tuple dk (ae (eh rfl (cv.by (N':=["phase","now"]) (src:=[none,some 4]) rfl (show cN _ (aA Ai).names Er ["phase","now"] [none,some 4]=true from by decide +kernel)) (iW (ay (pv 0))) (λ_ _ _ _ _=>(bM (i:=0) (show(["phase","now"]:List Str).Nodup from by decide) rfl (Or.inl rfl))) (λ_ _ _ _ _=>du) (λ_ _ _ _ _=>(show PE _ _ (BH K _ _)from(YX (by exact(WY (xS (by decide) _) hu)) (pv 1) (pv 0) (λ_ _=>rfl))))) af)))
     (az (aF (bL (ae (au (ZZ T) hr T.GS (by exact(@ae _ _ _ _ _ (ay (pv 0)) (@ae _ _ _ _ _ (ay (pv 2)) (@ae _ _ _ _ _ (ay (pv 2)) (@ae _ _ _ _ _ (pv 1) af fZ) gE) gE) gE))) (ae (bL (ae (ay (pv 0)) (ae (pv 5) af))) af))))))))),?_⟩
 wtm_at "cl";rw[show start Er [x0,x1]=[some x0,some x1,none,none,none,none]from rfl];obtain⟨ra,rb,xs,r,rfl,hw,ok,h30,fr,q⟩:=h;have hz:bZ xs++[0]=aj xs:=Fd ok.hp ok.h0;have h1:=ok.h1;have h8:=ok.h8;have sz:=OR h1 h8;have hsl:=zZ xs;have hvl:=j9 xs;have hvp:=yF h1;have hpl:(bZ xs).length+1=(aj xs).length:=by rw[<- hz];simp
 have hn:(bN xs).length=(bZ xs).length+1:=by omega
 have L:gb xs (bZ xs++[0]) (aU xs) (bN xs):=by rw[hz];exact Ly ok.hp.nn ok.hp.lt
 obtain⟨Lr,Hr⟩:=yR ok.ok L hn (zO xs) r fr;rw[hsl]at Lr Hr;have hel:=zBa Lr (bj ra rb xs _);have bx:∀i,ah 4000 (xs.getD i 0):=λi=>(ok.cm.get i).mono (by decide)
 have cp:Cm 3600 (bZ xs):=pf ok.cm;have hlk:eA ra rb (bN xs) ((r:Int)).toNat:=by rw[wU];exact pg ok.ok sz (by omega)
 have hbp:∀i,ah 6900 ((bZ xs).getD i 0):=λi=>(cp.get i).mono (by decide)
 o_head AG hw h8 bx (λz=>absurd ok.h0 z) (λ_ vl H1 S1 il=>?_);have hw1:=hw.by S1;o_head aC (j:=0) hw1 rfl (λvr ir=>?_);o_head aC (j:=0) il rfl (λvz iz=>?_);o_head aC (j:=1) il rfl (λvp ip=>?_);o_head LS ir iz ip hn (by omega) hlk hbp (λv2 H2 S2 i2=>?_);rw[wU]at i2;o_head aC (j:=1) (il.by S2) rfl (λvp2 ip2=>?_);o_head cy (ds:=[N 0]) (by simp) (.cons (eB 0 (T.e_ _) rfl rfl) .nil) (λv3 H3 S3 i3=>?_);refine F9 (ip2.by S3) i3 (by rw[wo];simp;omega) (λv4 H4 S4 i4=>?_);o_head cy (ds:=[N 0]) (by simp) (.cons (eB 0 (T.e_ _) rfl rfl) .nil) (λv5 H5 S5 i5=>?_);have S25:=S3.trans (S4.trans S5);refine F9 (i2.by S25) i5 (by rw[wo,dM];simp;omega) (λv6 H6 S6 i6=>?_)
 have i46:Is K H6 v4 (TN (aj xs)):=by
   have:=i4.by (S5.trans S6);rw[<- hz];unfold TN;rw[vK];exact this
 have i66:Is K H6 v6 (TN (cP ra rb (bN xs) r (bZ xs)++[0])):=by
   unfold TN;rw[vK];exact i6
 have S16:=S2.trans (S25.trans S6);have hw6:=hw1.by S16;have il6:=il.by S16;have T6:=S1.trans S16;clear hw hw1 il ir iz ip i2 ip2 i3 i4 i5 i6 S1 S2 S3 S4 S5 S6 S25 S16;have hrl:(cP ra rb (bN xs) r (bZ xs)++[0]).length=(aj xs).length:=by rw[wX,dM];simp;omega
 generalize cP ra rb (bN xs) r (bZ xs)++[0]=row at *;obtain⟨aa,us,rfl,hs1,tu⟩:=b7.mp i46;obtain⟨ab,ws,rfl,hs2,tw⟩:=b7.mp i66;obtain⟨cs,rfl⟩:=Dw tu;obtain⟨ds,rfl⟩:=Dw tw;have hcl:=tu.length;have hdl:=tw.length;simp only[wo]at hcl hdl;have nd:=zum (SN xs);have hkl:((aj xs).map fU).length=cs.length:=by rw[wo];omega
 o_head ⟨aa,ab,(aj xs).map fU,cs,ds,rfl,hs1,hs2,by omega,by omega,?_,nd,λD ep hD=>?_⟩
 . rw[Vq]
   exact tu
 . have S7:ag H6 (upd H6 D (iE D ep (gx ((aj xs).map fU) cs ds))):=ag.upd hD
   have e7:upd H6 D (iE D ep (gx ((aj xs).map fU) cs ds)) D=some (iE D ep (gx ((aj xs).map fU) cs ds)):=cJ;generalize upd H6 D (iE D ep (gx ((aj xs).map fU) cs ds))=H7 at *;have tu7:av K H7 (cs.map V.ref) ((aj xs).map N):=av.same S7 _ _ tu;have tw7:av K H7 (ds.map V.ref) (row.map N):=av.same S7 _ _ tw;have hw7:=hw6.by S7;o_head aC (j:=1) hw7 rfl (λvq iq=>?_);obtain⟨aq,uq,rfl,hsq,tq⟩:=b7.mp iq;have hql:=tq.length;rw[wo]at hql;refine iD hsq (o0:=none) (tl:=[some (.ref D)]) rfl (λj y H'=>Is K H' y (N (((wx xs.length).map λw=>row.getD (aU xs w) 0).getD j 0))) ?_ ?_
   . intro D' j x ys o H8 hx inv
     obtain⟨hj,ix⟩:=d_ tq hx;have S8:=inv.same;obtain⟨ax,_,rfl,_,_⟩:=b7.mp (show Is K H7 x (.tuple _)from ix);have hfl:=(kT xs).lt j hj;have hxe:xs.getD j 0=(aj xs).getD (aU xs j) 0:=(kT xs).at' j hj;o_head ⟨D,ax,ep,_,fU (xs.getD j 0),ds.getD (aU xs j) 0,rfl,rfl,S8 _ _ e7,zwv (av.same S8 _ _ tu7),ix.by S8,?_,?_⟩
     . rw[hxe,<- NU hfl]
       exact zwX nd hkl (by omega)
     . refine dR inv (by omega) gR ⟨_,rfl⟩ (ag.refl _) ?_
       have hr:((wx xs.length).map λw=>row.getD (aU xs w) 0).getD j 0=row.getD (aU xs j) 0:=by
         rw[wa,wu,vV hj];rfl
       rw[hr];exact(d_ tw7 (i:=aU xs j) (x:=.ref (ds.getD (aU xs j) 0)) (by rw[wu,wa,wc (by omega)];rfl)).2.by S8
   . intro D' ys H8 n8 S8 e8 hl8 hr8
     have t8:av K H8 ys (((wx xs.length).map λw=>row.getD (aU xs w) 0).map N):=g_ (by rw[hl8,hql];simp) hr8;rw[hel]at t8;o_head gY (dE e8 t8) (λv9 H9 S9 i9=>?_);have S69:=S7.trans (S8.trans S9);o_head aC (j:=0) (hw6.by S69) rfl (λvr9 ir9=>?_);o_head aC (j:=0) (il6.by S69) rfl (λvz9 iz9=>?_);o_head aC (j:=1) (il6.by S69) rfl (λvp9 ip9=>?_);k_few
     refine ZS ir9 iz9 ip9 hn (by omega) hlk cp (by
       have h5:=sz.sum;rw[wU];have:(6*(bN xs).sum.toNat+3)*r<=51*30:=VH (by omega) h30;omega) (λv10 H10 S10 i10=>?_)
     rw[wU,<- Hr]at i10;o_head aC (j:=0) (hw6.by (S69.trans S10)) rfl (λvr10 ir10=>?_);o_head cy (ds:=[R ra rb,TN (ai ra rb xs (r*(aj xs).length))]) (by simp) (.cons ir10 (.cons (i9.by S10) .nil)) (λv11 H11 S11 i11=>?_);o_head cy (ds:=[N (aM ra rb xs (r*(aj xs).length)),aZ ra rb (ai ra rb xs (r*(aj xs).length))]) (by simp) (.cons (i10.by S11) (.cons i11 .nil)) (λv12 H12 S12 i12=>?_);exact q v12 H12 (T6.trans (S69.trans (S10.trans (S11.trans S12)))) i12
def NI(K:wb):Sp:=λvs H Q _=>∃x0 x1 x2,vs=[x0,x1,x2] /\ ∃(a b:Rat)(xs:List Rat)(r g:Nat),x1=.int (r:Int)/\x2=.int (g:Int)/\Is K H x0 (aZ a b xs)/\aX a b/\1<=xs.length/\xs.length<=8/\(1<=r->ft a b xs/\r<=30/\fo a b xs r)/\g<=40/\ah 8000 (aM a b xs (r*(aj xs).length))/\(∀i,i<=g->Cm 3700 (aM a b (ai a b xs (r*(aj xs).length)) i::ai a b (ai a b xs (r*(aj xs).length)) i)) /\ ∀v H',ag H H'->Is K H' v (BD a b xs (r*(aj xs).length+g))->Q v H'
theorem NJ{K:wb}{H:Hp}{Q:VK}{E:XK}{a b:Rat}{xs:List Rat}{r g:Nat}{v:V}(h:Is K H v (aZ a b xs))(ok:aX a b)(h1:1<=xs.length)(h8:xs.length<=8)(f:1<=r->ft a b xs/\r<=30/\fo a b xs r)(hg:g<=40)(c:ah 8000 (aM a b xs (r*(aj xs).length)))(c2:∀i,i<=g->Cm 3700 (aM a b (ai a b xs (r*(aj xs).length)) i::ai a b (ai a b xs (r*(aj xs).length)) i))(q:∀v H',ag H H'->Is K H' v (BD a b xs (r*(aj xs).length+g))->Q v H'):NI K [v,.int (r:Int),.int (g:Int)] H Q E:=⟨_,_,_,rfl,a,b,xs,r,g,rfl,rfl,h,ok,h1,h8,f,hg,c,c2,q⟩
theorem Ui(T:Txt K mg a):aP P w K mg base aS 10 a.Il a.GX Aa (NI K):=by
 refine T.Bi.F.ok B6 ?_ ?_;wtm_at "b3"
 refine⟨_,(ak (aB 3 B6.nd (yE (bY mQ (pv 1) aD (bA _)) (au (La T) hr T.Bc (ae (pv 0) (ae (pv 1) af))) (bL (ae (bS (v:=.ref a.cZ) rfl T.dS rfl) (ae (pv 0) af)))))
     (ak (aB 4 B6.nd (au (zxd T) hr T.IV (ae (ay (pv 3)) (ae (pv 2) af))))
     (az (aF (bL (ae (au (gy T) hr T.fM (ae (ay (pv 3)) (ae (ay (pv 4)) af))) (ae (ay (pv 4)) af))))))),?_⟩
 wtm_at "cl";rw[show start SU [x0,x1,x2]=[some x0,some x1,some x2,none,none]from rfl];obtain⟨ra,rb,xs,r,g,rfl,rfl,hw,ok,h1,h8,f,hg,c,c2,q⟩:=h;k_few
 . rename_i z
   obtain⟨sw,h30,fr⟩:=f (by omega);refine FU hw sw h30 fr (λv1 H1 S1 i1=>?_);o_head aC (j:=1) i1 rfl (λv2 i2=>?_);o_head Kg i2 ok.ba ok.bb (by rw[bj];exact h1) (by rw[bj];exact h8) (by omega) (by omega) (by rw[wU];exact c2) (λv3 H3 S3 i3=>?_);rw[wU]at i3;have i13:=i1.by S3;o_head aC (j:=0) i13 rfl (λv4 i4=>?_);o_head aC (j:=0) i3 rfl (λv5 i5=>?_);have b5:ah 3700 (aM ra rb (ai ra rb xs (r*(aj xs).length)) g):=(c2 g (wq _)).eQ (wG ..);k_few;rename_i v6 H6 S6 i6;refine aC (j:=1) (i3.by S6) rfl (λv7 i7=>?_);k_few;rw[lP]at i6;rw[eZ]at i7;refine cy (ds:=[N (aM ra rb xs (r*(aj xs).length+g)),aZ ra rb (ai ra rb xs (r*(aj xs).length+g))]) (by simp) (.cons i6 (.cons i7 .nil)) (λv8 H8 S8 i8=>?_);exact q v8 H8 (S1.trans (S3.trans (S6.trans S8))) i8
 . rename_i z
   have hr0:r=0:=by omega
   refine cy (ds:=[N 0,aZ ra rb xs]) (by simp) (.cons (eB 0 (T.e_ _) rfl rfl) (.cons hw .nil)) (λv1 H1 S1 i1=>?_);have i1:Is K H1 v1 (BD ra rb xs (r*(aj xs).length)):=by rw[hr0,QY];exact i1
   o_head aC (j:=1) i1 rfl (λv2 i2=>?_);o_head Kg i2 ok.ba ok.bb (by rw[bj];exact h1) (by rw[bj];exact h8) (by omega) (by omega) (by rw[wU];exact c2) (λv3 H3 S3 i3=>?_);rw[wU]at i3;have i13:=i1.by S3;o_head aC (j:=0) i13 rfl (λv4 i4=>?_);o_head aC (j:=0) i3 rfl (λv5 i5=>?_);have b5:ah 3700 (aM ra rb (ai ra rb xs (r*(aj xs).length)) g):=(c2 g (wq _)).eQ (wG ..);k_few;rename_i v6 H6 S6 i6;refine aC (j:=1) (i3.by S6) rfl (λv7 i7=>?_);k_few;rw[lP]at i6;rw[eZ]at i7;refine cy (ds:=[N (aM ra rb xs (r*(aj xs).length+g)),aZ ra rb (ai ra rb xs (r*(aj xs).length+g))]) (by simp) (.cons i6 (.cons i7 .nil)) (λv8 H8 S8 i8=>?_);exact q v8 H8 (S1.trans (S3.trans (S6.trans S8))) i8
def je(h:Rat)(xs:List Rat)(r g:Nat):wB:=.tuple [N h,TN xs,.int (r:Int),.int (g:Int)]
def cY(a b:Rat)(xs:List Rat)(i r g:Nat):Nat:=i+(r*(aj (ai a b xs i)).length+g)
def jl(a b:Rat)(xs:List Rat)(e:Nat × Nat × Nat):wB:=je (aM a b xs e.1) (ai a b xs e.1) e.2.1 e.2.2
def oj(a b:Rat)(xs:List Rat)(n:Nat)(w:String):wB:=.tuple [N (aM a b xs n),TN (ai a b xs n),.str (wV w)]
def cR(a b:Rat)(xs:List Rat)(es:List (Nat × Nat × Nat))(n:Nat)(w:String):List wB:=es.map (jl a b xs)++[oj a b xs n w]
def fz(es:List (Nat × Nat × Nat))(n j:Nat):Nat:=(es.map (·.1)++[n]).getD j 0
theorem zwj(es:List (Nat × Nat × Nat))(n:Nat):fz es n es.length=n:=by
 unfold fz;rw[wa,vf (by simp)];simp
theorem F8{a b:Rat}{xs:List Rat}{es:List (Nat × Nat × Nat)}{n:Nat}{w:String}{j:Nat}(h:j<es.length):(cR a b xs es n w)[j]? = some (jl a b xs es[j]):=by
 unfold cR;rw[vO (by simpa using h),wu,wc h]
 rfl
def NC(K:wb):Sp:=λvs H Q _=>∃x0 x1 x2,vs=[x0,x1,x2] /\ ∃(a b h h':Rat)(xs ys:List Rat)(r g:Nat)(ds:List wB),Is K H x0 (R a b)/\Is K H x1 (je h xs r g)/\Is K H x2 (.tuple (N h'::TN ys::ds))/\aX a b/\1<=xs.length/\xs.length<=8/\(1<=r->ft a b xs/\r<=30/\fo a b xs r)/\g<=40/\ah 3500 h/\ah 3500 (aM a b xs (r*(aj xs).length+g))/\ah 8000 (aM a b xs (r*(aj xs).length))/\(∀i,i<=g->Cm 3700 (aM a b (ai a b xs (r*(aj xs).length)) i::ai a b (ai a b xs (r*(aj xs).length)) i)) /\ ∀H',ag H H'->Q (.bl (decide (h'=h+aM a b xs (r*(aj xs).length+g))&&decide (ys=ai a b xs (r*(aj xs).length+g)))) H'
theorem zsJ{K:wb}{H:Hp}{Q:VK}{E:XK}{a b h h':Rat}{xs ys:List Rat}{r g:Nat}{ds:List wB}{v w u:V}(h0:Is K H v (R a b))(h1:Is K H w (je h xs r g))(h2:Is K H u (.tuple (N h'::TN ys::ds)))(ok:aX a b)(x1:1<=xs.length)(x8:xs.length<=8)(f:1<=r->ft a b xs/\r<=30/\fo a b xs r)(hg:g<=40)(bh:ah 3500 h)(bk:ah 3500 (aM a b xs (r*(aj xs).length+g)))(c:ah 8000 (aM a b xs (r*(aj xs).length)))(c2:∀i,i<=g->Cm 3700 (aM a b (ai a b xs (r*(aj xs).length)) i::ai a b (ai a b xs (r*(aj xs).length)) i))(q:∀H',ag H H'->Q (.bl (decide (h'=h+aM a b xs (r*(aj xs).length+g))&&decide (ys=ai a b xs (r*(aj xs).length+g)))) H'):NC K [v,w,u] H Q E:=⟨_,_,_,rfl,a,b,h,h',xs,ys,r,g,ds,h0,h1,h2,ok,x1,x8,f,hg,bh,bk,c,c2,q⟩
theorem zsY(T:Txt K mg a):aP P w K mg base aS 11 a.IQ a.HC yl (NC K):=by
 refine T.Ia.F.ok E_ ?_ ?_;wtm_at "b3"
 refine⟨_,(ak (aB 3 E_.nd (bL (ae (pv 0) (ae (ay (pv 1)) af))))
     (ak (bP (PW.pt (DK (bY mQ (ay (pv 1)) aD (bA _)) (EN (cA (cu (au (zt9 T) hr T.IE (ae (pv 3) (ae (ay (pv 1)) af)))))))) (az (aF d8)) bQ)
     (ak (aB 4 E_.nd (au (Ui T) hr T.Bi (ae (pv 3) (ae (ay (pv 1)) (ae (ay (pv 1)) af)))))
     (az (aF (fB (fg (show aJ _ (wN .Eq) (cH K)from dj hu) (ay (pv 2)) (au (gy T) hr T.fM (ae (ay (pv 1)) (ae (ay (pv 4)) af))) (bA _)) (gS (fg (show aJ _ (wN .Eq) (cH K)from dj hu) (ay (pv 2)) (ay (ay (pv 4))) (bA _))))))))),?_⟩
 wtm_at "cl";rw[show start NM [x0,x1,x2]=[some x0,some x1,some x2,none,none]from rfl];obtain⟨ra,rb,hh,hn,xs,ys,r,g,ds,hr,hrow,hf,ok,x1',x8,f,hg,bh,bk,c,c2,q⟩:=h;unfold je at hrow;o_head aC (j:=1) hrow rfl (λv1 i1=>?_);o_head cy (ds:=[R ra rb,TN xs]) (by simp) (.cons hr (.cons i1 .nil)) (λv2 H2 S2 i2=>?_);have i2:Is K H2 v2 (aZ ra rb xs):=i2;have hrow2:=hrow.by S2;o_head aC (j:=2) hrow2 rfl (λv3 i3=>?_);rw[cz.mp i3];k_few
 all_goals first
   | (rename_i z
      obtain⟨sw,h30,fr⟩:=f (by omega);refine aC (j:=2) hrow2 rfl (λv3 i3=>?_);rw[cz.mp i3];o_head zuq i2 sw (by omega) h30 fr (λH3 F=>?_);k_few)
   | (have F:=ag.refl H2)
 all_goals
   have hrow3:=hrow2.by F;have i23:=i2.by F;have T3:=S2.trans F;have hf3:=hf.by T3;clear F;refine aC (j:=2) hrow3 rfl (λv4 i4=>?_);rw[cz.mp i4];o_head aC (j:=3) hrow3 rfl (λv5 i5=>?_);rw[cz.mp i5];o_head NJ i23 ok x1' x8 f hg c c2 (λv6 H6 S6 i6=>?_);unfold BD at i6;have hf6:=hf3.by S6;o_head aC (j:=0) hf6 rfl (λv7 i7=>?_);o_head aC (j:=0) (hrow3.by S6) rfl (λv8 i8=>?_);o_head aC (j:=0) i6 rfl (λv9 i9=>?_);k_few
   . rename_i v10 H10 S10 i10 z
     have q':=q H10 (T3.trans (S6.trans S10));rw[decide_eq_true z,Vy]at q';refine aC (j:=1) (hf6.by S10) rfl (λv11 i11=>?_);o_head aC (j:=1) (i6.by S10) rfl (λv12 i12=>?_);o_head aC (j:=1) (show Is K H10 v12 (aZ ra rb _)from i12) rfl (λv13 i13=>?_);exact DA i11 i13 q'
   . rename_i v10 H10 S10 i10 z
     have q':=q H10 (T3.trans (S6.trans S10));rw[decide_eq_false z,WA]at q';exact q'
def dw(a b:Rat)(xs:List Rat):Option String :=
 if(aj xs).length=1 then some "one"
 else if fi a b (bN xs) (bZ xs)=true then
  if c_ a b (bN xs) (bZ xs)=bZ xs then some "rests"
  else if a<1/\p7 a b (bN xs)=true then some "drawn" else none
 else none
def Fv:Option String->V
 | none=>.bX
 | some s=>.str (wV s)
def Pe(K:wb):Sp:=λvs H Q _=>∃x0,vs=[x0] /\ ∃(a b:Rat)(xs:List Rat),Is K H x0 (aZ a b xs)/\ft a b xs /\ ∀H',ag H H'->Q (Fv (dw a b xs)) H'
theorem SH{K:wb}{H:Hp}{Q:VK}{E:XK}{a b:Rat}{xs:List Rat}{v:V}(h:Is K H v (aZ a b xs))(ok:ft a b xs)(q:∀H',ag H H'->Q (Fv (dw a b xs)) H'):Pe K [v] H Q E:=⟨_,rfl,a,b,xs,h,ok,q⟩
theorem Og(T:Txt K mg a):aP P w K mg base aS 10 a.JC a.Ik uZ (Pe K):=by
 refine T.Br.F.ok M4 ?_ ?_;wtm_at "b1"
 refine⟨_,(ak (bP (bY (show aJ _ (wN .Eq) (cH K)from dj hu) (br (show aN _ (.builtin "len") (cF K)from dy) rfl T.z_len dA (ae (au (rC T) hr T.mI (ae (pv 0) af)) af)) aD (bA _)) (az (aF dQ)) bQ)
     (ak (bP (cA (cu (au (EL T) hr T.sj (ae (pv 0) af)))) (az (aF jJ)) bQ)
     (ak (aB 1 M4.nd (km (tW T) hr T.oM rH (ae (pv 0) af)))
     (ak (bP (cA (cu (au (rD T) hr T.mH (ae (ay (pv 0)) (ae (ay (pv 1)) (ae (ay (pv 1)) af)))))) (az (aF jJ)) bQ)
     (ak (bP (bY (show aJ _ (wN .Eq) (cH K)from dj hu) (au (Ua T) hr T.Bg (ae (ay (pv 0)) (ae (ay (pv 1)) (ae (ay (pv 1)) af)))) (ay (pv 1)) (bA _)) (az (aF dQ)) bQ)
     (ak (bP (PW.pt (DK (bY (show aJ _ (wN .Eq) (cH K)from dj hu) (au (ML T) hr T.Bw (ae (ay (pv 0)) af)) dQ (bA _)) (EN (cu (au (Li T) hr T.Bf (ae (ay (pv 0)) (ae (ay (pv 1)) af))))))) (az (aF dQ)) bQ)
     (az (aF jJ)))))))),?_⟩
 wtm_at "cl";rw[show start RZ [x0]=[some x0,none]from rfl];obtain⟨ra,rb,xs,hw,ok,q⟩:=h;obtain⟨rok,sz,hn⟩:=ok.round;have h8:=ok.h8;have bx:∀i,ah 4000 (xs.getD i 0):=λi=>(ok.cm.get i).mono (by decide)
 have bp:∀i,ah 4000 ((bZ xs).getD i 0):=λi=>((pf ok.cm).get i).mono (by decide)
 unfold dw at q;o_head rA hw h8 bx (λlf H1 us1 n1 S1 e1 t1=>?_);have hul:=t1.length;rw[wo]at hul;have hw1:=hw.by S1;o_head iB (.of e1) ?_;rw[hul];k_few
 . rename_i z
   have z:(aj xs).length=1:=by omega
   rw[if_pos z]at q;exact q _ S1
 . rename_i z
   have z:¬ (aj xs).length=1:=by omega
   rw[if_neg z]at q;refine Eg hw1 ?_;rw[decide_eq_true ok.h0];o_head AG hw1 h8 bx (λz=>absurd ok.h0 z) (λ_ vl H2 S2 il=>?_);have hw2:=hw1.by S2;o_head aC (j:=0) hw2 rfl (λvr ir=>?_);o_head aC (j:=0) il rfl (λvz iz=>?_);o_head aC (j:=1) il rfl (λvp ip=>?_);o_head rk ir iz ip rok (λH3 S3=>?_);have T3:=S1.trans (S2.trans S3);have hw3:=hw2.by S3;have il3:=il.by S3;clear hw hw1 hw2 il ir iz ip S1 S2 S3 e1 t1 n1;k_few
   . rename_i y
     rw[if_neg (by rw[y];decide)]at q;exact q _ T3
   . rename_i y
     rw[if_pos y]at q;refine aC (j:=0) hw3 rfl (λvr ir=>?_);o_head aC (j:=0) il3 rfl (λvz iz=>?_);o_head aC (j:=1) il3 rfl (λvp ip=>?_);o_head MG ir iz ip rok (λv4 H4 S4 i4=>?_);o_head aC (j:=1) (il3.by S4) rfl (λvp4 ip4=>?_);refine DA i4 ip4 ?_;k_few
     . rename_i u
       rw[if_pos u]at q;exact q _ (T3.trans S4)
     . rename_i u
       rw[if_neg u]at q;refine aC (j:=0) (hw3.by S4) rfl (λvr4 ir4=>?_);o_head Tp ir4 (ok.ok.ba.mono (by decide)) ?_;unfold pX
       by_cases z1:1<ra
       . rw[if_pos z1]
         o_head jZ _ _ false (by rw[wI];decide) ?_;k_few;rw[if_neg (λh=>absurd h.1 (by grind))]at q;exact q _ (T3.trans S4)
       . rw[if_neg z1]
         by_cases z2:ra=1
         . rw[if_pos z2]
           o_head jZ _ _ false (by rw[wI];decide) ?_;k_few;rw[if_neg (λh=>absurd h.1 (by grind))]at q;exact q _ (T3.trans S4)
         . rw[if_neg z2]
           have ha:ra<1:=by
             by_cases h:ra<1
             . exact h
             . exact absurd (qE (VW.mp h) (Wj z2)) z1
           o_head jZ _ _ true (by rw[wI];decide) ?_;o_head aC (j:=0) (hw3.by S4) rfl (λvr5 ir5=>?_);o_head aC (j:=0) (il3.by S4) rfl (λvz5 iz5=>?_);o_head Pg ir5 iz5 ok.ok sz z2 (λH5 S5=>?_);k_few
           . rename_i d
             rw[if_pos ⟨ha,d⟩]at q;exact q _ (T3.trans (S4.trans S5))
           . rename_i d
             rw[if_neg (λh=>by rw[h.2]at d;cases d)]at q;exact q _ (T3.trans (S4.trans S5))
def LW(a b:Rat)(xs:List Rat):Nat->List (Nat × Nat × Nat)->Nat->Prop
 | i,[],n=>i=n
 | i,e::es,n=>e.1=i/\(e.2.1<=30/\e.2.2<=40/\(1<=e.2.1->0∈ai a b xs i/\fo a b (ai a b xs i) e.2.1))/\LW a b xs (cY a b xs i e.2.1 e.2.2) es n
theorem LW.le{a b:Rat}{xs:List Rat} : ∀{es:List (Nat × Nat × Nat)}{i n:Nat},LW a b xs i es n->i<=n
 | [],_,_,h=>Nat.le_of_eq h
 | e::es,i,n,h=>by
  have:=LW.le h.2.2;unfold cY at this;omega
theorem LW.first{a b:Rat}{xs:List Rat}{es:List (Nat × Nat × Nat)}{i n:Nat}(h:LW a b xs i es n):fz es n 0=i:=by
 cases es with
 | nil=>exact(show i=n from h).symm
 | cons e es=>exact h.1
theorem LW.at{a b:Rat}{xs:List Rat} : ∀{es:List (Nat × Nat × Nat)}{i n:Nat},LW a b xs i es n->∀j (hj:j<es.length),es[j].1=fz es n j/\(es[j].2.1<=30/\es[j].2.2<=40/\(1<=es[j].2.1->0∈ai a b xs es[j].1/\fo a b (ai a b xs es[j].1) es[j].2.1))/\cY a b xs es[j].1 es[j].2.1 es[j].2.2=fz es n (j+1)/\fz es n (j+1)<=n
 | [],_,_,_,j,hj=>absurd hj (by simp)
 | e::es,i,n,h,j,hj=>by
  obtain⟨e1,e2,e3⟩:=h;cases j with
  | zero =>
   have h1:=e3.first;have h2:=e3.le;rw[<- h1]at h2;refine⟨rfl,?_,?_,h2⟩
   ·show e.2.1<=30/\e.2.2<=40/\(1<=e.2.1->0∈ai a b xs e.1/\fo a b (ai a b xs e.1) e.2.1)
    rw[e1];exact e2
   ·show cY a b xs e.1 e.2.1 e.2.2=fz es n 0
    rw[h1,e1]
  | succ j=>exact LW.at e3 j (by simpa using hj)
def LM(a b:Rat)(xs:List Rat)(e:Nat × Nat × Nat):gM:=⟨aM a b xs e.1,ai a b xs e.1,e.2.1,e.2.2⟩
theorem zsI(a b:Rat)(xs:List Rat)(es:List (Nat × Nat × Nat))(n:Nat)(w:String):cR a b xs es n w=(es.map (LM a b xs)).map gM.d++[m5 (aM a b xs n) (ai a b xs n) w]:=by
 rw[Vq];rfl
theorem Ln{a b:Rat}{xs:List Rat}{es:List (Nat × Nat × Nat)}{n:Nat}{w:String}(h:∀j (hj:j<es.length),es[j].1=fz es n j){j:Nat}(hj:j<=es.length):∃ds,(cR a b xs es n w)[j]? = some (.tuple (N (aM a b xs (fz es n j))::TN (ai a b xs (fz es n j))::ds)):=by
 unfold cR;rcases wJ j es.length with z | z
 ·rw[vO (by simpa using z),wu,wc z,<- h j z]
  exact⟨_,rfl⟩
 ·have:j=es.length:=by omega
  subst this;rw[vf (by simp),wo,W5,zwj];exact⟨_,rfl⟩
theorem Z9{t u:Bool}{K:wb}{g:TG}{tb:TS}{D:cB}{σ : L2.St}{H:Hp}{a b:we}{xs ys:List V}(hx:cx t K H a xs)(hy:cx u K H b ys)(hxy:ys.length<xs.length)(Pv:Nat->L2.St->Hp->Prop)(h0:Pv 0 σ H)(hl:∀i σ H,i<=ys.length->Pv i σ H->cx t K H a xs/\cx u K H b ys)
  (hs:∀i x y σ H c H',xs[i]? = some x->ys[i]? = some y->Pv i σ H->H c=none->ag H H'->H' c=some (.tup [x,y])->g (.ref c) σ H' λσ2 H2=>tb {D with nx:=Pv (i+1),ct:=Pv (i+1),bk:=D.nx} σ2 H2) (hd:∀σ H,Pv ys.length σ H->D.nx σ H):EI t u K g tb D σ [.ref a,.ref b] H:=by
 refine⟨a,b,rfl,⟨xs,hx⟩,⟨ys,hy⟩,λi m σ H=>i+m=ys.length/\Pv i σ H,⟨ys.length,by omega,h0⟩,?_⟩;rintro i m σ H ⟨him,hp⟩;obtain⟨hq1,hq2⟩:=hl i σ H (by omega) hp
 by_cases hm:m=0
 ·have e:i=ys.length:=by omega
  subst e;exact .inl ⟨⟨xs,ys,hq1,hq2,.inr ⟨hxy,rfl⟩⟩,hd _ _ hp⟩
 ·have hi:i<xs.length:=by omega
  have hj:i<ys.length:=by omega
  refine .inr ⟨⟨xs,xs[i],ys,ys[i],hq1,by simp[hi],hq2,by simp[hj]⟩,λσ' H'=>Pv (i+1) σ' H',λσ' H' h=>⟨m-1,by omega,by omega,h⟩,?_⟩;rintro v H' ⟨c,x,y,rfl,hn,hx',hy',rfl⟩;exact hs i x y σ H c _ (hx' xs hq1) (hy' ys hq2) hp hn (ag.upd hn) cJ
theorem NW{a b:Rat}{xs:List Rat} : dw a b xs=none \/ ∃w,dw a b xs=some w/\iQ w:=by
 unfold dw
 split
 ·exact .inr ⟨_,rfl,.inl rfl⟩
 ·split
  ·split
   ·exact .inr ⟨_,rfl,.inr (.inl rfl)⟩
   ·split
    ·exact .inr ⟨_,rfl,.inr (.inr rfl)⟩
    ·exact .inl rfl
  ·exact .inl rfl
theorem zC9{K:wb}{H:Hp}{Q:VK}{o:Option String}{w:String}(ho:o=none \/ ∃w,o=some w/\iQ w)(hw:iQ w)(q:Q (.bl (decide (o=some w))) H):cH K (Fv o) (.str (wV w)) H Q:=by
 rcases ho with rfl | ⟨v,rfl,hv⟩
 ·exact mU (d:=.none) (e:=.str (wV w)) (ml.mpr rfl) (eI.mpr rfl) (by decide) (EF w) (by rw[show wI .none (.str (wV w))=decide ((none:Option String)=some w) by rw[wI]<;>simp];exact q)
 ·refine jZ _ _ _ ?_ q
  rcases hv with rfl | rfl | rfl<;>rcases hw with rfl | rfl | rfl<;>rw[wI]<;>decide
def NY(K:wb):Sp:=λvs H Q _=>∃x0 x1,vs=[x0,x1] /\ ∃(a b:Rat)(xs ys:List Rat)(es:List (Nat × Nat × Nat))(n:Nat)(w:String),Is K H x0 (aZ a b xs)/\Is K H x1 (.list (cR a b ys es n w))/\aX a b/\1<=ys.length/\ys.length<=8/\xs.length=ys.length/\dh ys/\LW a b ys 0 es n/\es.length<=100/\0∈ai a b ys n/\iQ w/\(∀i k,i+k<=n->Cm 3500 (aM a b (ai a b ys i) k::ai a b (ai a b ys i) k)) /\ ∀H',ag H H'->Q (.bl (decide (ys=xs)&&decide (dw a b (ai a b ys n)=some w))) H'
theorem OX{K:wb}{H:Hp}{Q:VK}{E:XK}{a b:Rat}{xs ys:List Rat}{es:List (Nat × Nat × Nat)}{n:Nat}{w:String}{v u:V}(h:Is K H v (aZ a b xs))(hp:Is K H u (.list (cR a b ys es n w)))(ok:aX a b)(h1:1<=ys.length)(h8:ys.length<=8)(hl:xs.length=ys.length)(ph:dh ys)(lw:LW a b ys 0 es n)(cg:es.length<=100)(h0:0∈ai a b ys n)(hw:iQ w)(c:∀i k,i+k<=n->Cm 3500 (aM a b (ai a b ys i) k::ai a b (ai a b ys i) k))(q:∀H',ag H H'->Q (.bl (decide (ys=xs)&&decide (dw a b (ai a b ys n)=some w))) H'):NY K [v,u] H Q E:=⟨_,_,rfl,a,b,xs,ys,es,n,w,h,hp,ok,h1,h8,hl,ph,lw,cg,h0,hw,c,q⟩
theorem Pk(T:Txt K mg a):aP P w K mg base aS 12 a.Ju a.HJ w_ (NY K):=by
 refine T.Bp.F.ok FH ?_ ?_;wtm_at "b2"
 refine⟨_,(ak (bP (cA (cu (au (zr1 T) hr T.HR (ae (pv 1) (ae (br (show aN _ (.builtin "len") (cF K)from dy) rfl T.z_len dA (ae (ay (pv 0)) af)) af))))) (az (aF d8)) bQ)
     (ak (bP (PW.pt (ff (bY (show aJ _ (wN .NotEq) (df K)from fh hu) (ay (ay (pv 1))) (bS (v:=.ref a.cZ) rfl T.dS rfl) (bA _)) (fO (bY (show aJ _ (wN .NotEq) (df K)from fh hu) (ay (ay (pv 1))) (ay (pv 0)) (bA _))))) (az (aF d8)) bQ)
     (ak (gA vD rfl (NF rfl T.z_zip (ae (pv 1) (ae (mj mv (pv 1) (lD aD) mh) af))) (j3 (n:=2) rfl (d5 (bM (i:=2) FH.nd rfl (Or.inl rfl)) (d5 (bM (i:=3) FH.nd rfl (Or.inl rfl)) jF))) (az (bP (cA (cu (au (zsY T) hr T.Ia (ae (ay (pv 0)) (ae (pv 2) (ae (pv 3) af)))))) (az (aF d8)) bQ)))
     (az (aF (fg (show aJ _ (wN .Eq) (cH K)from dj hu) (au (Og T) hr T.Br (ae (bL (ae (ay (pv 0)) (ae (ay (dr cX (pv 1) (gL gK aD) (λ_ _=>rfl))) af))) af)) (ay (dr cX (pv 1) (gL gK aD) (λ_ _=>rfl))) (bA _))))))),?_⟩
 wtm_at "cl";rw[show start Rw [x0,x1]=[some x0,some x1,none,none]from rfl];obtain⟨ra,rb,xs,ys,es,n,wd,hw,hp,ok,y1,y8,hl,ph,lw,cg,h0,hwd,c,q⟩:=h;have hat:=lw.at;have hix:=λj hj=>(hat j hj).1
 have c0:∀i,i<=n->Cm 3500 (aM ra rb ys i::ai ra rb ys i):=λi hi=>c 0 i (by omega)
 o_head aC (j:=1) hw rfl (λv1 i1=>?_);o_head tY i1 ?_;o_head zsi (n:=xs.length) (ps:=es.map (LM ra rb ys)) (h:=aM ra rb ys n) (xs:=ai ra rb ys n) (w:=wd) (by rw[<- zsI];exact hp) (by omega) ?_ (by rw[bj];exact hl.symm) hwd (by rw[wo];exact cg) (λH1 S1=>?_)
 . intro e he
   obtain⟨e',he',rfl⟩:=wO.mp he;obtain⟨j,hj,rfl⟩:=vg he';obtain⟨_,⟨b1,b2,_⟩,_⟩:=hat j hj;exact⟨by show(ai ra rb ys _).length=_;rw[bj];exact hl.symm,b1,b2⟩
 have hp1:=hp.by S1;have hw1:=hw.by S1;obtain⟨ds0,e0⟩:=Ln (a:=ra) (b:=rb) (xs:=ys) (w:=wd) hix (j:=0) (by omega);rw[lw.first]at e0;o_head Tf (j:=0) hp1 e0 (λv2 i2=>?_);o_head aC (j:=0) i2 rfl (λv3 i3=>?_);k_few
 . rename_i z;exact absurd rfl z
 refine Tf (j:=0) hp1 e0 (λv4 i4=>?_);o_head aC (j:=1) i4 rfl (λv5 i5=>?_);o_head aC (j:=1) hw1 rfl (λv6 i6=>?_);refine zAC (show Is K H1 v5 (TN ys)from i5) i6 ?_
 by_cases hxy:ys=xs
 . rw[decide_eq_true hxy]
   subst hxy;obtain⟨lp,us,rfl,hsp,tp⟩:=cj.mp hp1;have hul:=tp.length;have hpl:(cR ra rb ys es n wd).length=es.length+1:=by simp[cR]
   o_head pq hp1 (λl2 H2 us2 n2 S2 e2 t2=>?_);rw[Ob]at t2;have hul2:=t2.length;rw[qX,hpl]at hul2;o_head Z9 (t:=false) (u:=false) (S2.seq hsp) (aO.of e2) (by omega) (λj σ H'=>(∃o2 o3,σ = [some x0,some (.ref lp),o2,o3])/\ag H2 H') ⟨⟨_,_,rfl⟩,ag.refl _⟩ (λj σ H' _ h=>⟨h.2.seq (S2.seq hsp),h.2.seq (aO.of e2)⟩) ?_ ?_
   . rintro j x y σ H3 cc H4 hx hy ⟨⟨o2,o3,rfl⟩,S3⟩ nc S4 e4
     obtain⟨hi,ix⟩:=gG tp hx;obtain⟨hi2,iy⟩:=gG t2 hy;rw[qX,hpl]at hi2;have hj:j<es.length:=by omega
     obtain⟨e1,⟨jd,g40,fr⟩,e3,le⟩:=hat j hj;obtain⟨ds,ey⟩:=Ln (a:=ra) (b:=rb) (xs:=ys) (w:=wd) hix (j:=j+1) (by omega);rw[wa,F8 hj]at ix;rw[wa,List.getElem?_tail,ey]at iy;have T4:=S2.trans (S3.trans S4);have ix4:Is K H4 x (je (aM ra rb ys (fz es n j)) (ai ra rb ys (fz es n j)) es[j].2.1 es[j].2.2):=by rw[<- e1];exact ix.by T4
     have iy4:Is K H4 y (.tuple (N (aM ra rb ys (fz es n (j+1)))::TN (ai ra rb ys (fz es n (j+1)))::ds)):=iy.by (S3.trans S4);rw[e1]at e3 fr;unfold cY at e3;generalize es[j].2.1=r at *;generalize es[j].2.2=g at *;have ci:=c0 (fz es n j) (by omega);refine kD (.of e4) rfl ?_;o_head aC (j:=0) (hw1.by T4) rfl (λv7 i7=>?_);o_head zsJ i7 ix4 iy4 ok (by rw[bj];exact y1) (by rw[bj];exact y8) (λr1=>⟨⟨ok,by rw[bj];exact y1,by rw[bj];exact y8,ph.at ok.a0 ok.b0 _,(fr r1).1,(lR ci λy hy=>wF _ hy).mono (by decide)⟩,jd,(fr r1).2⟩) g40 (ci.eQ (wG ..)) ((c _ _ (by omega)).eQ (wG ..)) (((c (fz es n j) (r*(aj (ai ra rb ys (fz es n j))).length) (by omega)).eQ (wG ..)).mono (by decide)) (λt ht=>by rw[eZ];exact(c _ t (by omega)).mono (by decide)) (λH5 S5=>?_);rw[lP,eZ,e3,decide_eq_true rfl,decide_eq_true rfl,QJ];k_few;exact⟨⟨_,_,rfl⟩,S3.trans (S4.trans S5)⟩
   . rintro σ H3 ⟨⟨o2,o3,rfl⟩,S3⟩
     have T3:=S2.trans S3;have hw3:=hw1.by T3;have hp3:=hp1.by T3;have cn:=c0 n (wq n);o_head aC (j:=0) hw3 rfl (λv7 i7=>?_);o_head lI hp3 (λv8 i8=>?_);unfold oj at i8;o_head aC (j:=1) i8 rfl (λv9 i9=>?_);o_head cy (ds:=[R ra rb,TN (ai ra rb ys n)]) (by simp) (.cons i7 (.cons i9 .nil)) (λv10 H10 S10 i10=>?_);o_head SH (show Is K H10 v10 (aZ ra rb (ai ra rb ys n))from i10) ⟨ok,by rw[bj];exact y1,by rw[bj];exact y8,ph.at ok.a0 ok.b0 _,h0,(lR cn λy hy=>wF _ hy).mono (by decide)⟩ (λH11 S11=>?_);have S311:=S10.trans S11;o_head lI (hp3.by S311) (λv12 i12=>?_);unfold oj at i12;o_head aC (j:=2) i12 rfl (λv13 i13=>?_);rw[eI.mp i13];refine zC9 NW hwd ?_;have q':=q H11 (S1.trans (T3.trans S311));rw[decide_eq_true rfl,Vy]at q';exact q'
 . rw[decide_eq_false hxy]
   k_few;have q':=q H1 S1;rw[decide_eq_false hxy,WA]at q';exact q'
def Mg(K:wb):Sp:=λvs H Q _=>∃x0,vs=[x0] /\ ∃(a b:Rat)(xs:List Rat)(g:Nat),Is K H x0 (aZ a b xs)/\aX a b/\1<=xs.length/\xs.length<=8/\g<=8/\(∀t,t<=g->Cm 3700 (ai a b xs t))/\(∀t,t<g->(cf a b (ai a b xs t)).length=1)/\(cf a b (ai a b xs g)).length≠1 /\ ∀H',ag H H'->Q (.int ((g+1:Nat):Int)) H'
theorem MD{K:wb}{H:Hp}{Q:VK}{E:XK}{a b:Rat}{xs:List Rat}{g:Nat}{v:V}(h:Is K H v (aZ a b xs))(ok:aX a b)(h1:1<=xs.length)(h8:xs.length<=8)(hg:g<=8)(c:∀t,t<=g->Cm 3700 (ai a b xs t))(w1:∀t,t<g->(cf a b (ai a b xs t)).length=1)(w2:(cf a b (ai a b xs g)).length≠1)(q:∀H',ag H H'->Q (.int ((g+1:Nat):Int)) H'):Mg K [v] H Q E:=⟨_,rfl,a,b,xs,g,h,ok,h1,h8,hg,c,w1,w2,q⟩
theorem zk9(T:Txt K mg a):aP P w K mg base aS 5 a.GJ a.Gq tR (Mg K):=by
 refine T.Gw.F.ok rN ?_ ?_;wtm_at "b1"
 refine⟨_,(ak (aB 1 rN.nd aD)
     (ak (aB 2 rN.nd (au (Cf T) hr T.sC (ae (pv 0) af)))
     (ak (mf vD (bY (show aJ _ (wN .Eq) (cH K)from dj hu) (br (show aN _ (.builtin "len") (cF K)from dy) rfl T.z_len dA (ae (ay (pv 2)) af)) aD (bA _)) (ak (zDq (i:=1) rN.nd rfl (Or.inl rfl) aD zCO)
     (az (aB 2 rN.nd (au (Cf T) hr T.sC (ae (ay (pv 2)) af))))))
     (az (aF (pv 1)))))),?_⟩
 wtm_at "cl";rw[show start PB [x0]=[some x0,none,none]from rfl];obtain⟨ra,rb,xs,g,hw,ok,h1,h8,hg,c,w1,w2,q⟩:=h;o_head Ca hw ok.ba ok.bb h1 h8 (c 0 (by omega)) (by omega) (λv2 H2 S2 i2=>?_);o_head oY (λm σ' H'=>∃(t:Nat)(v:V),σ'=[some x0,some (.int ((t+1:Nat):Int)),some v]/\m=g-t/\t<=g/\ag H H'/\Is K H' v (GD ra rb (ai ra rb xs t))) _ ⟨0,v2,rfl,rfl,by omega,S2,i2⟩ ?_;rintro m σ' H3 ⟨t,v,rfl,rfl,ht,S3,iv⟩;o_head aC (j:=1) iv rfl (λv4 i4=>?_);o_head kQ i4 ?_;rw[wo];k_few
 . rename_i z
   have z:(cf ra rb (ai ra rb xs t)).length=1:=by omega
   have htg:t<g:=by
     rcases wJ t g with y | y
     . exact y
     . have:t=g:=by omega
       subst this;exact absurd z w2
   have hpl:=bj ra rb xs t;have hpl2:=bj ra rb xs (t+1);refine oZ ?_;o_head zA6 rfl ?_;o_head YY ?_;o_head aC (j:=2) iv rfl (λv5 i5=>?_);o_head Ca (show Is K H3 v5 (aZ ra rb (ai ra rb xs (t+1)))from i5) ok.ba ok.bb (by omega) (by omega) (c (t+1) (by omega)) (by omega) (λv6 H6 S6 i6=>?_);k_few;exact⟨g-(t+1),by omega,t+1,v6,by push_cast;rfl,rfl,by omega,S3.trans S6,i6⟩
 . rename_i z
   have htg:t=g:=by
     rcases wJ t g with y | y
     . exact absurd (by rw[w1 t y];rfl) z
     . omega
   subst htg;exact q H3 S3
def Ov(B:Int)(x:Rat):Prop:=∃t:Int,x=wH t B
theorem Ov.zero(B:Int):Ov B 0:=⟨0,by simp⟩
theorem Ov.more{B d:Int}{x:Rat}(h:Ov B x)(hB:0<B)(hd:0<d):Ov (B*d) x:=by
 obtain⟨t,rfl⟩:=h;exact⟨t*d,oQ hB hd⟩
theorem zAQ(t u:Int):∃m,Bd m t/\Bd m u:=⟨t.natAbs+u.natAbs,⟨WY (by omega:t.natAbs<=t.natAbs+u.natAbs) xT⟩,⟨WY (by omega:u.natAbs<=t.natAbs+u.natAbs) xT⟩⟩
theorem zD5{a b:Rat}(h:aX a b):Bd 6 a.num:=by
 have h1:=h.a0;have h2:=h.a4;have h3:=h.ad;have n0:0<=a.num:=qK.mpr (vY h1)
 have n1:a.num<=4*a.den:=by
   have:=(xB a 4).mp h2
   simpa using this
 exact ⟨by have : (2 : Nat) ^ 6 = 64 := by decide
           omega⟩
theorem YF{a b:Rat}(h:aX a b):Bd 4 (a.den:Int):=by
 have h3:=h.ad
 exact ⟨by have : (2 : Nat) ^ 4 = 16 := by decide
           omega⟩
theorem zEa{a b:Rat}(h:aX a b):Bd 4 b.num:=by
 have h1:=h.b0;have h2:=h.b1;have h3:=h.bd;have n0:0<=b.num:=qK.mpr h1
 have n1:b.num<=b.den:=by
   have:=(xB b 1).mp h2
   simpa using this
 exact ⟨by have : (2 : Nat) ^ 4 = 16 := by decide
           omega⟩
theorem Ov.push{a b:Rat}(ok:aX a b){B:Int}{x:Rat}(hB:0<B)(hd:(b.den:Int) ∣ B)(h:Ov B x)(n:Nat):Ov (B*(a.den:Int)^n) (push a b n x):=by
 obtain⟨t,rfl⟩:=h;obtain⟨m,h1,h2⟩:=zAQ t B;obtain⟨_,_,_,T,e,_⟩:=Oe (zD5 ok) (YF ok) (zEa ok) hB hd h1 h2 n;exact⟨T,e⟩
theorem pz(a:Rat)(n:Nat):0<(a.den:Int)^n:=XB (den_pos a)
theorem Ov.up{a:Rat}{B:Int}{x:Rat}(h:Ov B x)(hB:0<B)(n:Nat):Ov (B*(a.den:Int)^n) x:=h.more hB (pz a n)
theorem Pd{B:Int}{xs:List Rat}(h:∀x∈xs,Ov B x)(i:Nat):Ov B (xs.getD i 0):=by
 rcases wJ i xs.length with z | z
 ·exact h _ (getD_mem z)
 ·rw[wa,wP z];exact Ov.zero B
theorem zwW{B:Int}{xs:List Rat}(h:∀i,i<xs.length->Ov B (xs.getD i 0)):∀x∈xs,Ov B x:=λx hx=>by
 obtain⟨j,hj,rfl⟩:=vg hx;have:=h j hj;rw[wa,wc hj]at this;exact this
theorem Lm{a b:Rat}(ok:aX a b):∀(n:Nat)(B:Int)(ps:List Rat)(left:List Nat),0<B->(b.den:Int) ∣ B->left.Nodup->(∀w∈left,w<ps.length)->(∀x∈ps,Ov B x)->∀x∈(cb a b n ps left).2.2,Ov (B*(a.den:Int)^(cb a b n ps left).1.flatten.length) x
 | 0,B,ps,left,hB,_,_,_,h=>λx hx=>by
  have:Ov (B*(a.den:Int)^0) x:=by rw[Xg,xa];exact h x hx
  exact this
 | n+1,B,ps,left,hB,hd,nd,lt,h=>by
  by_cases e:aE ps left=[]
  ·rw[jr e]
   intro x hx;have:Ov (B*(a.den:Int)^0) x:=by rw[Xg,xa];exact h x hx
   exact this
  ·rw[gF e]
   have nd':(bG left (aE ps left)).Nodup:=kZ nd;have lt':=lq (wave:=aE ps left) lt
   have ih:=Lm ok n (B*(a.den:Int)^(aE ps left).length) (cC (a^(aE ps left).length) (aG a b (aE ps left).length) ps (bG left (aE ps left))) (bG left (aE ps left)) (We hB (pz a _)) (qh hd (VA ..)) nd' (λw hw=>by rw[gn];exact lt' w hw) (zwW λi hi=>by
    rw[ik _ _ _ _ nd' lt']
    split
    ·rw[<- jf];exact(Pd h i).push ok hB hd _
    ·exact(Pd h i).up hB _)
   intro x hx;have:=ih x hx
   show Ov (B*(a.den:Int)^(aE ps left::_).flatten.length) x
   rw[Xn,wX,XD,<- VU];exact this
theorem Ov.rise{B:Int}{x y:Rat}(hx:Ov B x)(hy:Ov B y)(hB:0<B):Ov B (x+(1-y)):=by
 obtain⟨t,rfl⟩:=hx;obtain⟨z,rfl⟩:=hy;refine⟨t+B-z,?_⟩
 symm
 refine gC (by omega) ?_;have q1:=cV t (show B≠0 by omega);have q2:=cV z (show B≠0 by omega);have q3:((t+B-z:Int):Rat)=(t:Rat)+(B:Rat)-(z:Rat):=by push_cast;rfl
 rw[q3,<- q1,<- q2]
 grind
def jM(a b:Rat)(xs:List Rat):Nat:=(cf a b xs).flatten.length
theorem zzX{a b:Rat}(ok:aX a b){B:Int}(hB:0<B)(hd:(b.den:Int) ∣ B){xs:List Rat}(h1:1<=xs.length)(h:∀x∈xs,Ov B x):∀y∈cQ a b xs,Ov (B*(a.den:Int)^jM a b xs) y:=by
 have hr:∀x∈bK xs,Ov B x:=λx hx=>by
  obtain⟨y,hy,rfl⟩:=wO.mp hx;exact(h y hy).rise (h _ (fV h1)) hB
 have:=Lm ok xs.length B (bK xs) (wx xs.length) hB hd Wu (λw hw=>by rw[eW];exact wD.mp hw) hr;intro y hy;rcases KY y hy with z | z
 ·exact this y z
 ·rw[z];exact Ov.zero _
def ck(a b:Rat)(xs:List Rat):Nat->Nat
 | 0=>0
 | k+1=>ck a b xs k+jM a b (ai a b xs k)
theorem og(a b:Rat)(xs:List Rat)(m:Nat):∀k,ck a b xs (m+k)=ck a b xs m+ck a b (ai a b xs m) k
 | 0=>rfl
 | k+1=>by
  show ck a b xs (m+k)+jM a b (ai a b xs (m+k))=ck a b xs m+(ck a b (ai a b xs m) k+jM a b (ai a b (ai a b xs m) k))
  rw[og a b xs m k,eZ];omega
theorem Oc{a b:Rat}(ok:aX a b){B:Int}(hB:0<B)(hd:(b.den:Int) ∣ B){xs:List Rat}(h1:1<=xs.length)(h:∀x∈xs,Ov B x):∀k,(∀y∈ai a b xs k,Ov (B*(a.den:Int)^ck a b xs k) y)/\Ov (B*(a.den:Int)^ck a b xs k) (aM a b xs k)
 | 0=>by
  show(∀y∈xs,Ov (B*(a.den:Int)^0) y)/\Ov (B*(a.den:Int)^0) 0
  rw[Xg,xa];exact⟨h,Ov.zero B⟩
 | k+1=>by
  obtain⟨hp,hh⟩:=Oc ok hB hd h1 h k;have hBk:=We hB (pz a (ck a b xs k));have hpl:=bj a b xs k
  have e:B*(a.den:Int)^ck a b xs (k+1)=B*(a.den:Int)^ck a b xs k*(a.den:Int)^jM a b (ai a b xs k):=by
   rw[VU,<- XD];rfl
  rw[e];refine⟨zzX ok hBk (qh hd (VA ..)) (by omega) hp,?_⟩;exact(Ov.rise hh (hp _ (fV (by omega))) hBk).up hBk _
theorem NA{a b:Rat}(a0:0<a)(b0:0<=b){xs:List Rat}(h1:1<=xs.length)(hp:dh xs):∀k:Nat,0<=aM a b xs k/\aM a b xs k<=((k:Int):Rat)
 | 0=>⟨WT,WT⟩
 | k+1=>by
  obtain⟨l,u⟩:=NA a0 b0 h1 hp k;have hk:=hp.at a0 b0 k;have hm:=fV (xs:=ai a b xs k) (by rw[bj];exact h1);have m0:=hk.nn _ hm;have m1:=hk.lt _ hm;have e:aM a b xs (k+1)=aM a b xs k+(1-b_ (ai a b xs k)):=rfl;have ek:(((k+1:Nat):Int):Rat)=((k:Int):Rat)+1:=by push_cast;rfl
  rw[e,ek];exact⟨by grind,by grind⟩
theorem Si{B:Int}{m l:Nat}{x:Rat}(hB:0<B)(bB:Bd m B)(h:Ov B x)(x0:0<=x)(x1:x<=(((2^l:Nat):Int):Rat)):∃t:Int,x=wH t B/\Bd (m+l+1) t:=by
 obtain⟨t,rfl⟩:=h;refine⟨t,rfl,?_⟩;have q1:=cV t (show B≠0 by omega);have hBr:(0:Rat)<(B:Rat):=X8.mpr hB;have t0:(0:Rat)<=(t:Rat):=by rw[<- q1];exact Qn x0 (vY hBr)
 have t1:(t:Rat)<=(((2^l:Nat):Int):Rat)*(B:Rat):=by
  rw[<- q1];exact Rat.mul_le_mul_of_nonneg_right x1 (vY hBr)
 have t0':0<=t:=Rat.intCast_nonneg.mp t0
 have t1':t<=((2^l:Nat):Int)*B:=by
  rw[<- Wd]at t1;exact WS.mp t1
 have b:=bB.lt;refine⟨?_⟩
 have hb:t.natAbs<=2^l*B.natAbs:=by
  have e:((2^l*B.natAbs:Nat):Int)=((2^l:Nat):Int)*B:=by
   rw[Vt]
   congr 1
   omega
  omega
 have:2^l*B.natAbs<2^l*2^m:=Nat.mul_lt_mul_of_pos_left b (Wl l);have e2:2^(m+l+1)=2^l*2^m*2:=by rw[x6,XA,Nat.mul_comm (2^m)]
 omega
theorem zA2{a b:Rat}(ok:aX a b){B:Int}{m:Nat}(h:Bd m B)(n:Nat):Bd (m+3*n) (B*(a.den:Int)^n):=by
 refine⟨?_⟩;have h1:=h.lt;have h8:=ok.ad;rw[xo,Int.natAbs_pow,Int.natAbs_natCast,XA,Nat.pow_mul];have e:(2:Nat)^3=8:=by decide
 rw[e];have h2:a.den^n<=8^n:=Nat.pow_le_pow_left h8 n;have hp:0<8^n:=Nat.pow_pos (by decide);exact WY (Ql _ h2) (Nat.mul_lt_mul_of_pos_right h1 hp)
theorem Ov.sub{B:Int}{x y:Rat}(hx:Ov B x)(hy:Ov B y)(hB:0<B):Ov B (x-y):=by
 obtain⟨t,rfl⟩:=hx;obtain⟨z,rfl⟩:=hy;refine⟨t-z,?_⟩
 symm
 refine gC (by omega) ?_;have q1:=cV t (show B≠0 by omega);have q2:=cV z (show B≠0 by omega);have q3:((t-z:Int):Rat)=(t:Rat)-(z:Rat):=by push_cast;rfl
 rw[q3,<- q1,<- q2]
 grind
theorem zAG{a b:Rat}(ok:aX a b){m:Nat}{xs:List Rat}(c:lK b.den m xs)(h1:1<=xs.length)(hp:dh xs){i k l:Nat}(hk:k<=2^l):Cm (m+3*ck a b xs (i+k)+l+1) (aM a b (ai a b xs i) k::ai a b (ai a b xs i) k):=by
 obtain⟨B,hB,hd,bB,hx⟩:=c;have hov:=Oc ok hB hd h1 (λx hx'=>let ⟨t,e,_⟩:=hx x hx';⟨t,e⟩);obtain⟨hph,hh⟩:=hov (i+k);have hBk:=We hB (pz a (ck a b xs (i+k)))
 have hi:Ov (B*(a.den:Int)^ck a b xs (i+k)) (aM a b xs i):=by
  have:=((hov i).2).up (a:=a) (We hB (pz a (ck a b xs i))) (ck a b (ai a b xs i) k);rw[VU,<- XD,<- og]at this;exact this
 have hhk:Ov (B*(a.den:Int)^ck a b xs (i+k)) (aM a b (ai a b xs i) k):=by
  have e:aM a b (ai a b xs i) k=aM a b xs (i+k)-aM a b xs i:=by
   have:=lP a b xs i k
   grind
  rw[e];exact hh.sub hi hBk
 have bb:=zA2 ok bB (ck a b xs (i+k));have hpi:=hp.at ok.a0 ok.b0 i;have hpk:=hpi.at ok.a0 ok.b0 k;have hl:(((k:Nat):Int):Rat)<=(((2^l:Nat):Int):Rat):=WS.mpr (by omega)
 have h1l:(1:Rat)<=(((2^l:Nat):Int):Rat):=by
  have:((1:Int):Rat)<=(((2^l:Nat):Int):Rat):=WS.mpr (by have:=Wl l;omega);exact this
 refine⟨_,hBk,bb.mono (by omega),λx hx'=>?_⟩;rcases wL.mp hx' with rfl | hx'
 ·have hb:=NA ok.a0 ok.b0 (xs:=ai a b xs i) (by rw[bj];exact h1) hpi k
  exact Si hBk bb hhk hb.1 (QW hb.2 hl)
 ·have:=hph x (by rw[<- eZ];exact hx')
  exact Si hBk bb this (hpk.nn x hx') (QW (vY (hpk.lt x hx')) h1l)
theorem zy8{a b:Rat}(a0:0<a)(b0:0<=b){xs:List Rat}(h1:1<=xs.length)(hp:dh xs):jM a b xs<=xs.length:=by
 obtain⟨v,J⟩:=Du a0 b0 h1 hp.nn hp.lt;unfold jM;rw[J.perm.length_eq];unfold seg;have:=WB (λw=>decide (0<=aU xs w)&&decide (aU xs w<v)) (wx xs.length);rw[vB]at this;exact this
theorem tO{a b:Rat}(a0:0<a)(b0:0<=b){xs:List Rat}(h1:1<=xs.length)(hp:dh xs):∀k,ck a b xs k<=k*xs.length
 | 0=>qm _
 | k+1=>by
  have ih:=tO a0 b0 h1 hp k;have hl:=bj a b xs k;have:=zy8 a0 b0 (xs:=ai a b xs k) (by omega) (hp.at a0 b0 k);rw[Qh]
  show ck a b xs k+jM a b (ai a b xs k)<=_
  omega
theorem YS{a b:Rat}(a0:0<a)(b0:0<=b){xs:List Rat}(h1:1<=xs.length)(hp:dh xs):1<=(cf a b xs).length:=by
 obtain⟨v,J⟩:=Du a0 b0 h1 hp.nn hp.lt;obtain⟨ws,e,_⟩:=J.first;rw[e];simp
theorem TR{a b:Rat}(a0:0<a)(b0:0<=b){xs:List Rat}(h1:1<=xs.length)(hp:dh xs):(aj (cQ a b xs)).length<=(aj xs).length/\(1<(cf a b xs).length->(aj (cQ a b xs)).length<(aj xs).length):=by
 obtain⟨v,J⟩:=Du a0 b0 h1 hp.nn hp.lt;have e:=congrArg Xx J.new;rw[jI,wX,Wf,jI,vT]at e;have v1:=J.v1;have vm:=J.vm;exact⟨by omega,λh=>by have:=J.more.mp h;omega⟩
theorem Ku{a b:Rat}(a0:0<a)(b0:0<=b){xs:List Rat}(h1:1<=xs.length)(hp:dh xs):∀k,(aj (ai a b xs k)).length<=(aj xs).length
 | 0=>wq _
 | k+1=>Wm (TR a0 b0 (xs:=ai a b xs k) (by rw[bj];exact h1) (hp.at a0 b0 k)).1 (Ku a0 b0 h1 hp k)
theorem Kd{a b:Rat}(ok:aX a b){xs ps:List Rat}{fl:Nat->Nat}{ns:List Int}(L:gb xs (ps++[0]) fl ns)(hn:ns.length=ps.length+1)(f:fi a b ns ps=true):∀t,t<=ns.length->ck a b xs t=upTo ns t
 | 0,_=>rfl
 | t+1,ht=>by
  have ih:=Kd ok L hn f t (by omega);have hw:=(Tw ok L hn f).2.1 t (by omega);have hl:(ps++[0]).length=ns.length:=by simp[hn]
  have hs:=L.size t (by omega)
  show ck a b xs t+jM a b (ai a b xs t)=_
  unfold jM;rw[hw,ih,rG (by omega),hs];simp
theorem Mf{a b:Rat}(ok:aX a b){xs ps:List Rat}{fl:Nat->Nat}{ns:List Int}(L:gb xs (ps++[0]) fl ns)(hn:ns.length=ps.length+1)(n0:∀n∈ns,0<=n):∀k,(∀j,j<k->cE a b ns ps j=true)->ck a b xs (k*ns.length)=k*upTo ns ns.length
 | 0,_=>by rw[QY,QY];rfl
 | k+1,h=>by
  have ih:=Mf ok L hn n0 k λj hj=>h j (by omega)
  obtain⟨Lk,_⟩:=yR ok L hn n0 k λj hj=>h j (by omega)
  have hl:ns.length=(cP a b ns k ps).length+1:=by rw[dM];exact hn
  rw[Qh,og,ih,Kd ok Lk hl (h k (by omega)) _ (wq _),Qh]
structure fJ(a b:Rat)(xs:List Rat)(r g:Nat):Prop where
 jd:r<=30
 free:fo a b xs r
 ends:cE a b (bN xs) (bZ xs) r=false
 g1:1<=g
 gN:g<=(aj xs).length
 one:∀t,t+1<g->(cf a b (ai a b (ai a b xs (r*(aj xs).length)) t)).length=1
 join:1<(cf a b (ai a b (ai a b xs (r*(aj xs).length)) (g-1))).length
theorem RV{p:Nat->Prop} : ∀n,(∃t,t<n /\ ¬ p t)->∃g,g<n/\(∀t,t<g->p t) /\ ¬ p g
 | 0,h=>by obtain⟨t,ht,_⟩:=h;omega
 | n+1,h=>by
  by_cases z:∃t,t<n /\ ¬ p t
  ·obtain⟨g,h1,h2,h3⟩:=RV n z
   exact⟨g,by omega,h2,h3⟩
  ·obtain⟨t,ht,hp⟩:=h
   have htn:t=n:=by
    rcases wJ t n with y | y
    ·exact absurd ⟨t,y,hp⟩ z
    ·omega
   subst htn;exact⟨t,by omega,λs hs=>V6.mp λy=>z ⟨s,hs,y⟩,hp⟩
structure zCa(a b:Rat)(xs:List Rat):Prop where
 hz:bZ xs++[0]=aj xs
 hn:(bN xs).length=(bZ xs).length+1
 hs:(bN xs).length=(aj xs).length
 L:gb xs (bZ xs++[0]) (aU xs) (bN xs)
theorem TK{a b:Rat}{xs:List Rat}(hp:dh xs)(h0:0∈xs):zCa a b xs:=by
 have hz:bZ xs++[0]=aj xs:=Fd hp h0;have hsl:=zZ xs;have hpl:(bZ xs).length+1=(aj xs).length:=by rw[<- hz];simp
 exact⟨hz,by omega,hsl,by rw[hz];exact Ly hp.nn hp.lt⟩
theorem RE{a b:Rat}{xs:List Rat}(ok:aX a b)(h1:1<=xs.length)(hp:dh xs)(h0:0∈xs){r:Nat}(h30:r<=30)(f:fo a b xs r)(e:cE a b (bN xs) (bZ xs) r=false):∃g,fJ a b xs r g:=by
 obtain⟨hz,hn,hs,L⟩:=TK (a:=a) (b:=b) hp h0;obtain⟨Lr,_⟩:=yR ok L hn (zO xs) r f;obtain⟨t,ht,hj⟩:=ZT ok Lr (by rw[dM];exact hn) e;rw[hs]at ht hj;obtain⟨g,g1,g2,g3⟩:=RV (p:=λt=>(cf a b (ai a b (ai a b xs (r*(aj xs).length)) t)).length=1) (aj xs).length ⟨t,ht,λz=>by rw[z]at hj;omega⟩;refine⟨g+1,h30,f,e,by omega,by omega,λt ht=>g2 t (by omega),?_⟩;have:=YS (a:=a) (b:=b) ok.a0 ok.b0 (xs:=ai a b (ai a b xs (r*(aj xs).length)) g) (by rw[bj,bj];exact h1) ((hp.at ok.a0 ok.b0 _).at ok.a0 ok.b0 _);rw[qD];have g3:¬ (cf a b (ai a b (ai a b xs (r*(aj xs).length)) g)).length=1:=g3;omega
theorem fJ.ck{a b:Rat}{xs:List Rat}{r g:Nat}(R:fJ a b xs r g)(ok:aX a b)(h1:1<=xs.length)(hp:dh xs)(h0:0∈xs){t:Nat}(ht:t<=g):ck a b xs (r*(aj xs).length+t)<=30*xs.length+xs.length*xs.length:=by
 obtain⟨hz,hn,hs,L⟩:=TK (a:=a) (b:=b) hp h0;have h2:=Mf ok L hn (zO xs) r R.free;rw[hs]at h2;have h3:=SI xs;rw[hs]at h3;have h4:=tO ok.a0 ok.b0 (xs:=ai a b xs (r*(aj xs).length)) (by rw[bj];exact h1) (hp.at ok.a0 ok.b0 _) t;rw[bj]at h4;rw[og,h2];have h5:r*upTo (bN xs) (aj xs).length<=30*xs.length:=VH R.jd h3;have h6:t*xs.length<=xs.length*xs.length:=Wi _ (by have:=R.gN;have:=j9 xs;omega);omega
theorem fJ.JM{a b:Rat}{xs:List Rat}{r g:Nat}(R:fJ a b xs r g)(ok:aX a b)(h1:1<=xs.length)(hp:dh xs):(aj (ai a b xs (r*(aj xs).length+g))).length<(aj xs).length:=by
 have g1:=R.g1
 have e:ai a b xs (r*(aj xs).length+g)=cQ a b (ai a b (ai a b xs (r*(aj xs).length)) (g-1)):=by
  rw[<- eZ];obtain⟨k,rfl⟩:∃k,g=k+1:=⟨g-1,by omega⟩
  rfl
 have h2:dh (ai a b (ai a b xs (r*(aj xs).length)) (g-1)):=(hp.at ok.a0 ok.b0 _).at ok.a0 ok.b0 _;have hl:(ai a b (ai a b xs (r*(aj xs).length)) (g-1)).length=xs.length:=by rw[bj,bj]
 have h3:=(TR ok.a0 ok.b0 (xs:=ai a b (ai a b xs (r*(aj xs).length)) (g-1)) (by omega) h2).2 R.join;have h4:=Ku ok.a0 ok.b0 (xs:=xs) h1 hp (r*(aj xs).length+(g-1));rw[eZ]at h3;rw[eZ]at e;rw[e];omega
theorem zrE{a b:Rat}{ns:List Int}{xs:List Rat}(ok:aX a b)(sz:dC ns)(hn:ns.length=xs.length+1)(st:eU a b ns xs=true):c_ a b ns xs=xs\/(a<1/\p7 a b ns=true):=by
 have hps:=sz.pos;unfold eU at st
 by_cases z1:1<a
 ·rw[if_pos z1]at st
  have e:=of_decide_eq_true st;have hF:a^ns.sum.toNat≠1:=λe=>absurd ((Fu ok (by omega)).mp e) (by grind)
  refine .inl ?_;rw[<- Dt hn sz.nn,zAw hF hn 1];rw[<- e,zyB]
 ·rw[if_neg z1]at st
  by_cases z2:a=1
  ·rw[if_pos z2]at st
   refine .inl ?_;rw[<- Dt hn sz.nn]
   exact kN (dM ..) λi hi=>by
    rw[dM]at hi;have hi':i<(dq a b ns).length:=by rw[p_ (by omega)];omega
    have hz:(dq a b ns).getD i 0=0:=by
     rw[WE]at st;have:=st _ (wO.mpr ⟨_,getD_mem (d:=0) hi',rfl⟩);exact of_decide_eq_true this
    rw[kU hi,hz];unfold fE;rw[z2,GM.one_pow',GM.one_pow']
    grind
  ·rw[if_neg z2]at st
   refine .inr ⟨?_,st⟩
   by_cases h:a<1
   ·exact h
   ·exact absurd (qE (VW.mp h) (Wj z2)) z1
theorem zAT{a b:Rat}{xs:List Rat}(ok:ft a b xs)(h:dw a b xs=none)(f:cE a b (bN xs) (bZ xs) 0=true):eU a b (bN xs) (bZ xs)=false:=by
 obtain⟨_,sz,hn⟩:=ok.round;unfold cE at f;rw[nO]at f;cases e:eU a b (bN xs) (bZ xs)with
 | false=>rfl
 | true =>
  unfold dw at h;rw[if_pos f]at h
  split at h
  ·cases h
  ·split at h
   ·cases h
   ·rename_i y
    rcases zrE ok.ok sz hn e with z | z
    ·exact absurd z y
    ·rw[if_pos z]at h;cases h
def O3(K:wb)(a:Ad):Sp:=λvs H Q E=>∃x0 x1,vs=[x0,x1] /\ ∃(ra rb h:Rat)(xs:List Rat),Is K H x0 (N h)/\Is K H x1 (aZ ra rb xs)/\ft ra rb xs/\dw ra rb xs=none/\(∀r g t,fJ ra rb xs r g->t<=g->Cm 3600 (ai ra rb xs (r*(aj xs).length+t))) /\
 ((∀k,k<=30->cE ra rb (bN xs) (bZ xs) k=true)->∀H',ag H H'->E (.ref a.cS) none H') /\ ∀r g v H',fJ ra rb xs r g->ag H H'->Is K H' v (je h xs r g)->Q v H'
theorem zsc{K:wb}{a:Ad}{H:Hp}{Q:VK}{E:XK}{ra rb h:Rat}{xs:List Rat}{v w:V}(h1:Is K H v (N h))(h2:Is K H w (aZ ra rb xs))(ok:ft ra rb xs)(hw:dw ra rb xs=none)(c:∀r g t,fJ ra rb xs r g->t<=g->Cm 3600 (ai ra rb xs (r*(aj xs).length+t)))(qe:(∀k,k<=30->cE ra rb (bN xs) (bZ xs) k=true)->∀H',ag H H'->E (.ref a.cS) none H')(q:∀r g v H',fJ ra rb xs r g->ag H H'->Is K H' v (je h xs r g)->Q v H'):O3 K a [v,w] H Q E:=⟨_,_,rfl,ra,rb,h,xs,h1,h2,ok,hw,c,qe,q⟩
theorem zrT(T:Txt K mg a):aP P w K mg base (eT P w) 12 a.Jd a.Hz yQ (O3 K a):=by
 refine T.Ib.F.m_ yO ?_ ?_;wtm_at "b2"
 refine⟨_,(ak (aB 2 yO.nd (km (tW T) hr T.oM yc (ae (pv 1) af)))
     (ak (aB 3 yO.nd (km (zog T) hr T.G1 yc (ae (ay (pv 1)) (ae (ay (pv 2)) (ae (ay (pv 2)) af)))))
     (ak (aB 4 yO.nd (au (zk9 T) hr T.Gw (ae (ay (au (La T) hr T.Bc (ae (pv 1) (ae (pv 3) af)))) af)))
     (az (aF (bL (by exact(@ae _ _ _ _ _ (pv 0) (@ae _ _ _ _ _ (ay (pv 1)) (@ae _ _ _ _ _ (pv 3) (@ae _ _ _ _ _ (pv 4) af fZ) fZ) gE) fZ)))))))),?_⟩
 wtm_at "cl";rw[show start MH [x0,x1]=[some x0,some x1,none,none,none]from rfl];obtain⟨ra,rb,hr',xs,ih,hw,ok,hno,hc,qe,q⟩:=h;obtain⟨rok,sz,hn⟩:=ok.round;have h8:=ok.h8;have bx:∀i,ah 4000 (xs.getD i 0):=λi=>(ok.cm.get i).mono (by decide)
 o_head AG hw h8 bx (λz=>absurd ok.h0 z) (λ_ vl H1 S1 il=>?_);have hw1:=hw.by S1;o_head aC (j:=0) hw1 rfl (λvr ir=>?_);o_head aC (j:=0) il rfl (λvz iz=>?_);o_head aC (j:=1) il rfl (λvp ip=>?_);o_head zm4 ir iz ip ok.ok sz hn (pf ok.cm) (by decide) (λz H2 S2=>?_) (λz y H2 S2=>?_) (λc c1 c2 y z w H2 S2=>?_) (λy z H2 S2=>?_)
 . have RR:(0:Nat)<=30:=by decide
   have FF:fo ra rb xs 0:=λk hk=>by omega
   have EE:=z;k_few;obtain⟨g,R⟩:=RE ok.ok ok.h1 ok.hp ok.h0 RR FF EE;have g1:=R.g1;have gN:=R.gN;have hvl:=j9 xs;refine FU (r:=0) (hw1.by S2) ok RR FF (λv3 H3 S3 i3=>?_);o_head aC (j:=1) i3 rfl (λv4 i4=>?_);k_few;have hj:=R.join;refine MD (g:=g-1) i4 ok.ok (by rw[bj];exact ok.h1) (by rw[bj];exact h8) (by omega) (λt ht=>by rw[eZ];exact(hc _ g t R (by omega)).mono (by decide)) (λt ht=>R.one t (by omega)) (by omega) (λH5 S5=>?_);rw[show g-1+1=g by omega];have S15:=S2.trans (S3.trans S5);o_head aC (j:=1) (hw1.by S15) rfl (λv6 i6=>?_);o_head cy (ds:=[N hr',TN xs,.int ((0:Nat):Int),.int (g:Int)]) (by simp) (.cons (ih.by (S1.trans S15)) (.cons i6 (.cons (cz.mpr rfl) (.cons (cz.mpr rfl) .nil)))) (λv7 H7 S7 i7=>?_);exact q 0 g v7 H7 R (S1.trans (S15.trans S7)) i7
 . rw[zAT ok hno z]at y
   cases y
 . have RR:=c2
   have FF:fo ra rb xs c:=z;have EE:=w;k_few;obtain⟨g,R⟩:=RE ok.ok ok.h1 ok.hp ok.h0 RR FF EE;have g1:=R.g1;have gN:=R.gN;have hvl:=j9 xs;refine FU (r:=c) (hw1.by S2) ok RR FF (λv3 H3 S3 i3=>?_);o_head aC (j:=1) i3 rfl (λv4 i4=>?_);k_few;have hj:=R.join;refine MD (g:=g-1) i4 ok.ok (by rw[bj];exact ok.h1) (by rw[bj];exact h8) (by omega) (λt ht=>by rw[eZ];exact(hc _ g t R (by omega)).mono (by decide)) (λt ht=>R.one t (by omega)) (by omega) (λH5 S5=>?_);rw[show g-1+1=g by omega];have S15:=S2.trans (S3.trans S5);o_head aC (j:=1) (hw1.by S15) rfl (λv6 i6=>?_);o_head cy (ds:=[N hr',TN xs,.int (c:Int),.int (g:Int)]) (by simp) (.cons (ih.by (S1.trans S15)) (.cons i6 (.cons (cz.mpr rfl) (.cons (cz.mpr rfl) .nil)))) (λv7 H7 S7 i7=>?_);exact q c g v7 H7 R (S1.trans (S15.trans S7)) i7
 . exact qe z H2 (S1.trans S2)
def rT(a b:Rat)(xs:List Rat)(i r g:Nat):Prop:=(i=0/\r=0/\g=1)\/(1<=i/\dw a b (ai a b xs i)=none/\fJ a b (ai a b xs i) r g)
def eY(a b:Rat)(xs:List Rat):Nat->List (Nat × Nat × Nat)->Nat->Prop
 | i,[],n=>i=n
 | i,e::es,n=>e.1=i/\rT a b xs i e.2.1 e.2.2/\eY a b xs (cY a b xs i e.2.1 e.2.2) es n
theorem eY.snoc{a b:Rat}{xs:List Rat} : ∀{es:List (Nat × Nat × Nat)}{i n r g:Nat},eY a b xs i es n->rT a b xs n r g->eY a b xs i (es++[(n,r,g)]) (cY a b xs n r g)
 | [],i,n,r,g,h,k=>by
  have e:i=n:=h;subst e;exact⟨rfl,k,rfl⟩
 | e::es,i,n,r,g,h,k=>⟨h.1,h.2.1,eY.snoc h.2.2 k⟩
theorem yJ(h:Rat)(xs:List Rat)(r g:Nat):cw (je h xs r g)=true:=by rw[je,cw,bW,bW,bW,bW,bW,kC,rn];rfl
theorem R6(a b:Rat)(xs:List Rat)(n:Nat)(w:String):cw (oj a b xs n w)=true:=by rw[oj,cw,bW,bW,bW,bW,kC,rn];rfl
structure cT(a b:Rat)(xs:List Rat):Prop where
 ok:aX a b
 h1:1<=xs.length
 h6:xs.length<=6
 hp:dh xs
 sz:∃m,lK b.den m xs/\m+648*xs.length<=3935
theorem cT.of{a b:Rat}{xs:List Rat}(ok:aX a b)(h1:1<=xs.length)(h6:xs.length<=6)(ph:∀x∈xs,fF x):cT a b xs/\lK b.den 47 xs:=by
 have b6:∀j,ah 6 (xs.getD j 0):=λj=>by
  rcases wJ j xs.length with z | z
  ·exact(ph _ (getD_mem z)).eQ
  ·rw[wa,wP z];exact ah.zero.mono (by decide)
 have c0:Cm 43 xs:=(Cm.Bx b6).mono (by omega);have c1:lK b.den 47 xs:=lK.of c0 (den_pos b) ⟨by have:=ok.bd;have:(2:Nat)^4=16:=(by decide);omega⟩;exact⟨⟨ok,h1,h6,⟨λx hx=>(ph x hx).nn,λx hx=>(ph x hx).lt⟩,47,c1,by omega⟩,c1⟩
def lz(a b:Rat)(xs:List Rat)(i:Nat):Prop:=ck a b xs i+216*(aj (ai a b xs i)).length<=6+216*xs.length/\i+186*(aj (ai a b xs i)).length<=1+186*6
structure fu(a b:Rat)(xs:List Rat)(es:List (Nat × Nat × Nat))(n:Nat)(w:String):Prop where
 walk:eY a b xs 0 es n
 e1:1<=es.length
 cg:es.length<=9
 n1:1<=n
 word:dw a b (ai a b xs n)=some w
 sp:lz a b xs n
theorem cT.j8{a b:Rat}{xs:List Rat}(h:cT a b xs){i k:Nat}(hg:ck a b xs (i+k)+216<=20+216*xs.length)(hk:k<=1024):Cm 3500 (aM a b (ai a b xs i) k::ai a b (ai a b xs i) k):=by
 obtain⟨m,c,hm⟩:=h.sz;exact(zAG h.ok c h.h1 h.hp (i:=i) (k:=k) (l:=10) (by rw[show(2:Nat)^10=1024 by decide];exact hk)).mono (by omega)
theorem cT.cm{a b:Rat}{xs:List Rat}(h:cT a b xs){i:Nat}(hg:ck a b xs i+216<=20+216*xs.length)(hi:i<=1024):Cm 3500 (aM a b xs i::ai a b xs i):=h.j8 (i:=0) (k:=i) (by rw[Nat.zero_add];exact hg) hi
theorem cT.JV{a b:Rat}{xs:List Rat}(h:cT a b xs){i:Nat}(h1:1<=i)(c:Cm 3500 (aM a b xs i::ai a b xs i)):ft a b (ai a b xs i) :=
 ⟨h.ok,by rw[bj];exact h.h1,by rw[bj];have:=h.h6;omega,h.hp.at h.ok.a0 h.ok.b0 i,h.hp.zero h.ok.a0 h.ok.b0 h.h1 h1,(lR c λy hy=>wF _ hy).mono (by decide)⟩
theorem cT.nf{a b:Rat}{xs:List Rat}(h:cT a b xs)(i:Nat):1<=(aj (ai a b xs i)).length/\(aj (ai a b xs i)).length<=6:=by
 have:=j9 (ai a b xs i);rw[bj]at this;have h6:=h.h6;exact⟨yF (by rw[bj];exact h.h1),by omega⟩
theorem cT.nl{a b:Rat}{xs:List Rat}(i:Nat):(aj (ai a b xs i)).length<=xs.length:=by
 have:=j9 (ai a b xs i);rw[bj]at this;exact this
theorem cT.one{a b:Rat}{xs:List Rat}(h:cT a b xs):lz a b xs 1:=by
 have h6:=h.h6;have h1:=h.h1;have:=tO h.ok.a0 h.ok.b0 h.h1 h.hp 1;have:=(h.nf 1).2;have:=cT.nl (a:=a) (b:=b) (xs:=xs) 1;exact⟨by omega,by omega⟩
theorem cT.within{a b:Rat}{xs:List Rat}(h:cT a b xs){i r g t:Nat}(i1:1<=i)(sp:lz a b xs i)(n2:2<=(aj (ai a b xs i)).length)(R:fJ a b (ai a b xs i) r g)(ht:t<=g):ck a b xs (i+(r*(aj (ai a b xs i)).length+t))+216<=20+216*xs.length/\i+(r*(aj (ai a b xs i)).length+t)<=1024/\ck a b xs (i+(r*(aj (ai a b xs i)).length+t))<=ck a b xs i+216/\r*(aj (ai a b xs i)).length+t<=186:=by
 have h6:=h.h6;have nf:=(h.nf i).2;have hl:=bj a b xs i;have g1:=R.ck h.ok (by rw[hl];exact h.h1) (h.hp.at h.ok.a0 h.ok.b0 i) (h.hp.zero h.ok.a0 h.ok.b0 h.h1 i1) ht;rw[hl]at g1
 have g2:30*xs.length+xs.length*xs.length<=216:=by
  have:xs.length*xs.length<=6*6:=VH h6 h6;omega
 have g3:r*(aj (ai a b xs i)).length<=30*6:=VH R.jd nf;have g4:=R.gN;obtain⟨s1,s2⟩:=sp;rw[og];exact⟨by omega,by omega,by omega,by omega⟩
theorem cT.next{a b:Rat}{xs:List Rat}(h:cT a b xs){i r g:Nat}(i1:1<=i)(sp:lz a b xs i)(n2:2<=(aj (ai a b xs i)).length)(R:fJ a b (ai a b xs i) r g):lz a b xs (cY a b xs i r g):=by
 obtain⟨_,_,w1,w2⟩:=h.within i1 sp n2 R (wq g);have f:=R.JM h.ok (by rw[bj];exact h.h1) (h.hp.at h.ok.a0 h.ok.b0 i);rw[eZ]at f;obtain⟨s1,s2⟩:=sp;unfold lz cY;exact⟨by omega,by omega⟩
theorem MS{a b:Rat}{xs:List Rat}(h:dw a b xs=none)(h1:1<=(aj xs).length):2<=(aj xs).length:=by
 unfold dw at h
 split at h
 ·cases h
 ·omega
def jL(a b:Rat)(xs:List Rat):Prop:=∃es i,eY a b xs 0 es i/\1<=i/\dw a b (ai a b xs i)=none /\ ∀k,k<=30->cE a b (bN (ai a b xs i)) (bZ (ai a b xs i)) k=true
def R0(K:wb)(a:Ad):Sp:=λvs H Q E=>∃x0,vs=[x0] /\ ∃(ra rb:Rat)(xs:List Rat),Is K H x0 (aZ ra rb xs)/\cT ra rb xs /\
 (jL ra rb xs->∀H',ag H H'->E (.ref a.cS) none H') /\ ∀l H' es n w,fu ra rb xs es n w->H l=none->ag H H'->Is K H' (.ref l) (.list (cR ra rb xs es n w))->Q (.ref l) H'
theorem PU{K:wb}{a:Ad}{H:Hp}{Q:VK}{E:XK}{ra rb:Rat}{xs:List Rat}{v:V}(h:Is K H v (aZ ra rb xs))(ok:cT ra rb xs)(qe:jL ra rb xs->∀H',ag H H'->E (.ref a.cS) none H')(q:∀l H' es n w,fu ra rb xs es n w->H l=none->ag H H'->Is K H' (.ref l) (.list (cR ra rb xs es n w))->Q (.ref l) H'):R0 K a [v] H Q E:=⟨_,rfl,ra,rb,xs,h,ok,qe,q⟩
theorem KZ(T:Txt K mg a):aP P w K mg base (eT P w) 13 a.IY a.Hw zG (R0 K a):=by
 refine T.Bl.F.m_ lQ ?_ ?_;wtm_at "b1"
 refine⟨_,(ak (aB 1 lQ.nd (dG (ae (bL (by exact(@ae _ _ _ _ _ (bS (v:=.ref a.cZ) rfl T.dS rfl) (@ae _ _ _ _ _ (ay (pv 0)) (@ae _ _ _ _ _ aD (@ae _ _ _ _ _ aD af OC) OC) gE) fZ))) af)))
     (ak (aB 2 lQ.nd jJ)
     (ak (mf Xw (bY J6 (pv 2) jJ (bA _)) (ak (aB 3 lQ.nd (dr cX (pv 1) (gL gK aD) (λ_ _=>rfl)))
     (ak (aB 4 lQ.nd (au (Ui T) hr T.Bi (ae (bL (ae (ay (pv 0)) (ae (ay (pv 3)) af))) (ae (ay (pv 3)) (ae (ay (pv 3)) af)))))
     (ak (aB 5 lQ.nd (au (gy T) hr T.fM (ae (ay (pv 3)) (ae (ay (pv 4)) af))))
     (ak (aB 2 lQ.nd (au (Og T) hr T.Br (ae (ay (pv 4)) af)))
     (az (kj (jz vU Wa Wb jH (pv 1) (ae (yE (bY J6 (pv 2) jJ (bA _)) (km (zrT T) hr T.Ib yc (ae (pv 5) (ae (ay (pv 4)) af))) (bL (ae (pv 5) (ae (ay (ay (pv 4))) (ae (pv 2) af))))) af)))))))))
     (az (aF (pv 1)))))),?_⟩
 wtm_at "cl";rw[show start J1 [x0]=[some x0,none,none,none,none,none]from rfl];obtain⟨ra,rb,xs,hw,ok,qe,q⟩:=h;o_head aC (j:=1) hw rfl (λv1 i1=>?_);o_head cy (ds:=[N 0,TN xs,.int 0,.int 1]) (by simp) (.cons (eB 0 (T.e_ _) rfl rfl) (.cons i1 (.cons (cz.mpr rfl) (.cons (cz.mpr rfl) .nil)))) (λv2 H2 S2 i2=>?_);o_head fW (by simp) (λlr H3 n3 S3 e3=>?_);have hlr:H lr=none:=mZ S2 n3;k_few
 refine oY (λm σ' H'=>∃(us:List V)(es:List (Nat × Nat × Nat))(vw:V)(o3 o4 o5:Option V),σ'=[some x0,some (.ref lr),some vw,o3,o4,o5]/\ag H H'/\H' lr=some (.lst us) /\
   ((vw=.bX /\ ∃i r g,eY ra rb xs 0 es i/\rT ra rb xs i r g/\av K H' us ((es++[(i,r,g)]).map (jl ra rb xs))/\(1<=i->lz ra rb xs i)/\es.length+(aj (ai ra rb xs (cY ra rb xs i r g))).length<=6/\m=(aj (ai ra rb xs (cY ra rb xs i r g))).length) \/
     ∃n w,vw=.str (wV w)/\fu ra rb xs es n w/\av K H' us (cR ra rb xs es n w)/\m=0)) _ ⟨[v2],[],.bX,_,_,_,rfl,S2.trans S3,e3,.inl ⟨rfl,0,0,1,rfl,.inl ⟨rfl,rfl,rfl⟩,.cons (i2.by S3) .nil,λh=>by omega,by have:=(ok.nf (cY ra rb xs 0 0 1)).2;simpa using this,rfl⟩⟩ ?_
 rintro m σ' H4 ⟨us,es,vw,o3,o4,o5,rfl,S4,e4,C⟩;rcases C with⟨rfl,i,r,g,wk,ro,t4,sp,cg,rfl⟩ | ⟨n,w',rfl,P,t4,rfl⟩
 . have hN:=(ok.nf i).2
   have h6:=ok.h6;have h1L:=ok.h1
   have facts:g<=40/\(1<=r->ft ra rb (ai ra rb xs i)/\r<=30/\fo ra rb (ai ra rb xs i) r)/\ck ra rb xs (cY ra rb xs i r g)+216<=20+216*xs.length/\cY ra rb xs i r g<=1024/\ck ra rb xs i+216<=20+216*xs.length/\i<=1024/\(∀t,t<=g->ck ra rb xs (i+(r*(aj (ai ra rb xs i)).length+t))+216<=20+216*xs.length)/\lz ra rb xs (cY ra rb xs i r g)/\r<=30:=by
     rcases ro with⟨rfl,rfl,rfl⟩ | ⟨i1,hno,R⟩
     . have e:cY ra rb xs 0 0 1=1:=by unfold cY;omega
       have h2:=tO ok.ok.a0 ok.ok.b0 ok.h1 ok.hp;refine⟨by omega,λz=>by omega,by rw[e];have:=h2 1;omega,by omega,by have:=h2 0;omega,by omega,λt ht=>?_,by rw[e];exact ok.one,by omega⟩;have h3:=h2 (0+(0*(aj (ai ra rb xs 0)).length+t));have h4:(0+(0*(aj (ai ra rb xs 0)).length+t))*xs.length<=1*6:=VH (by omega) h6;omega
     . have n2:=MS hno (ok.nf i).1
       have sp:=sp i1;have w:=λ{t:Nat}(ht:t<=g)=>ok.within i1 sp n2 R ht
       have w0:=w (wq g);have g4:=R.gN;have si:=sp.1;have si2:=sp.2;have c:Cm 3500 (aM ra rb xs i::ai ra rb xs i):=ok.cm (by omega) (by omega);exact⟨by omega,λ_=>⟨ok.JV i1 c,R.jd,R.free⟩,w0.1,w0.2.1,by omega,by omega,λt ht=>(w ht).1,ok.next i1 sp n2 R,R.jd⟩
   obtain⟨g40,fr,gl,nl,gi,ni,gw,sl,jd⟩:=facts;have cI:=ok.cm gi ni;have cL:=ok.cm gl nl
   have n1:1<=cY ra rb xs i r g:=by
     unfold cY;rcases ro with⟨rfl,rfl,rfl⟩ | ⟨i1,hno,R⟩
     . omega
     . omega
   have swL:=ok.JV n1 cL;have hrN:r*(aj (ai ra rb xs i)).length<=30*6:=VH jd hN;have hul:=t4.length;rw[wo,wX,vT]at hul;have hnf:=(ok.nf (cY ra rb xs i r g)).1;o_head oZ ?_;k_few
   have il:Is K H4 (.ref lr) (.list (es.map (jl ra rb xs)++[jl ra rb xs (i,r,g)])):=by
     rw[vK]at t4;exact cj.mpr ⟨lr,us,rfl,.of e4,t4⟩
   refine lI il (λv5 i5=>?_);have i5:Is K H4 v5 (je (aM ra rb xs i) (ai ra rb xs i) r g):=i5;have hw4:=hw.by S4;o_head aC (j:=0) hw4 rfl (λv6 i6=>?_);o_head aC (j:=1) i5 rfl (λv7 i7=>?_);o_head cy (ds:=[R ra rb,TN (ai ra rb xs i)]) (by simp) (.cons i6 (.cons i7 .nil)) (λv8 H8 S8 i8=>?_);have i58:=i5.by S8;o_head aC (j:=2) i58 rfl (λv9 i9=>?_);rw[cz.mp i9];o_head aC (j:=3) i58 rfl (λv10 i10=>?_);rw[cz.mp i10];k_few;have bH:ah 8000 (aM ra rb (ai ra rb xs i) (r*(aj (ai ra rb xs i)).length)):=((ok.j8 (i:=i) (k:=r*(aj (ai ra rb xs i)).length) (by have:=gw 0 (by omega);rw[Nat.add_zero]at this;exact this) (by omega)).eQ (wG ..)).mono (by decide)
   have cG:∀t,t<=g->Cm 3700 (aM ra rb (ai ra rb (ai ra rb xs i) (r*(aj (ai ra rb xs i)).length)) t::ai ra rb (ai ra rb (ai ra rb xs i) (r*(aj (ai ra rb xs i)).length)) t):=λt ht=>by
     rw[eZ ra rb xs];exact(ok.j8 (i:=i+r*(aj (ai ra rb xs i)).length) (k:=t) (by have:=gw t ht;rw[<- VT]at this;exact this) (by omega)).mono (by decide)
   refine NJ (show Is K H8 v8 (aZ ra rb (ai ra rb xs i))from i8) ok.ok (by rw[bj];exact ok.h1) (by rw[bj];omega) fr g40 bH cG (λv11 H11 S11 i11=>?_);have i11:Is K H11 v11 (.tuple [N (aM ra rb (ai ra rb xs i) (r*(aj (ai ra rb xs i)).length+g)),aZ ra rb (ai ra rb (ai ra rb xs i) (r*(aj (ai ra rb xs i)).length+g))]):=i11;rw[eZ]at i11;have i11:Is K H11 v11 (.tuple [N (aM ra rb (ai ra rb xs i) (r*(aj (ai ra rb xs i)).length+g)),aZ ra rb (ai ra rb xs (cY ra rb xs i r g))]):=i11;have i511:=i58.by S11;have bI:ah 3500 (aM ra rb xs i):=cI.eQ (wG ..);have bJ:ah 3500 (aM ra rb (ai ra rb xs i) (r*(aj (ai ra rb xs i)).length+g)):=(ok.j8 (i:=i) (k:=r*(aj (ai ra rb xs i)).length+g) gl (by omega)).eQ (wG ..);o_head aC (j:=0) i511 rfl (λv12 i12=>?_);o_head aC (j:=0) i11 rfl (λv13 i13=>?_);k_few;rename_i v14 H14 S14 i14;rw[lP]at i14;have i14:Is K H14 v14 (N (aM ra rb xs (cY ra rb xs i r g))):=i14;have i1114:=i11.by S14;refine aC (j:=1) i1114 rfl (λv15 i15=>?_);have i15:Is K H14 v15 (aZ ra rb (ai ra rb xs (cY ra rb xs i r g))):=i15;o_head SH i15 swL (λH16 S16=>?_);have S816:=S8.trans (S11.trans (S14.trans S16));have e16:=S816 _ _ e4;have t16:av K H16 us ((es++[(i,r,g)]).map (jl ra rb xs)):=av.same S816 _ _ t4;have S416:=S4.trans S816;have i1116:=i1114.by S16;have i1416:=i14.by S16;have i1516:=i15.by S16;have wk':=wk.snoc ro;generalize hlead:cY ra rb xs i r g=n at *;cases hwd:dw ra rb (ai ra rb xs n)with
   | none =>
     show gD 2 V.bX _ _ _
     o_head ig (aO.of e16) ?_;o_head aC (j:=1) i1116 rfl (λv17 i17=>?_);k_few;have n2:=MS hwd hnf;refine zsc i1416 (show Is K H16 v17 (aZ ra rb (ai ra rb xs n))from i17) swL hwd (λr' g' t R ht=>?_) (λz H' S=>qe ⟨_,n,wk',n1,hwd,z⟩ H' (S416.trans S)) (λr' g' v18 H18 R S18 i18=>?_)
     . have w:=ok.within n1 sl n2 R ht
       rw[eZ];exact(lR (ok.cm w.1 w.2.1) λy hy=>wF _ hy).mono (by decide)
     . k_few
       have e18:=S18 _ _ e16;refine iS e18 (by omega) (λH19 E19 e19=>?_);have K19:=E19.keep e18;have fw:=R.JM ok.ok (by rw[bj];exact ok.h1) (ok.hp.at ok.ok.a0 ok.ok.b0 n);rw[eZ]at fw;have fw:(aj (ai ra rb xs (cY ra rb xs n r' g'))).length<(aj (ai ra rb xs n)).length:=fw;o_head ⟨_,fw,us++[v18],es++[(i,r,g)],.bX,_,_,_,rfl,(S416.trans S18).grow hlr E19,e19,.inl ⟨rfl,n,r',g',wk',.inr ⟨n1,hwd,R⟩,?_,λ_=>sl,?_,rfl⟩⟩
       . rw[vK]
         exact(av.keep K19 _ _ (rf _ (λe=>yJ _ _ _ _) _) (av.same S18 _ _ t16)).append (.cons (i18.fj K19 (yJ _ _ _ _)) .nil)
       . rw[wX,vT]
         omega
   | some wd =>
     show gD 2 (V.str (wV wd)) _ _ _
     o_head ig (aO.of e16) ?_;k_few
     . rename_i z;cases z
     . refine aC (j:=1) i1116 rfl (λv17 i17=>?_)
       o_head aC (j:=1) i17 rfl (λv18 i18=>?_);o_head cy (ds:=[N (aM ra rb xs n),TN (ai ra rb xs n),.str (wV wd)]) (by simp) (.cons i1416 (.cons i18 (.cons (eI.mpr rfl) .nil))) (λv19 H19 S19 i19=>?_);k_few;have e19:=S19 _ _ e16;refine iS e19 (by omega) (λH20 E20 e20=>?_);have K20:=E20.keep e19;o_head ⟨0,by omega,us++[v19],es++[(i,r,g)],_,_,_,_,rfl,(S416.trans S19).grow hlr E20,e20,.inr ⟨n,wd,rfl,⟨wk',by simp,by rw[wX,vT];omega,n1,hwd,sl⟩,?_,rfl⟩⟩;exact(av.keep K20 _ _ (rf _ (λe=>yJ _ _ _ _) _) (av.same S19 _ _ t16)).append (.cons (i19.fj K20 (R6 _ _ _ _ _)) .nil)
 . k_few
   . rename_i z;cases z
   . exact q lr H4 es n w' P hlr S4 (cj.mpr ⟨lr,us,rfl,.of e4,t4⟩)
theorem zxQ{a b:Rat}{xs:List Rat}{r g r' g':Nat}(R:fJ a b xs r g)(S:fJ a b xs r' g'):r=r'/\g=g':=by
 have er:r=r':=by
  rcases VB r r' with z | z | z
  ·have:=S.free r z;rw[R.ends]at this;cases this
  ·exact z
  ·have:=R.free r' z;rw[S.ends]at this;cases this
 subst er;refine⟨rfl,?_⟩;have g1:=R.g1;have g2:=S.g1;have j1:=R.join;have j2:=S.join;rcases VB g g' with z | z | z
 ·have:=S.one (g-1) (by omega);omega
 ·exact z
 ·have:=R.one (g'-1) (by omega);omega
theorem Mp{a b:Rat}{xs:List Rat}{i r g r' g':Nat}(R:rT a b xs i r g)(S:rT a b xs i r' g'):r=r'/\g=g':=by
 rcases R with⟨e,rfl,rfl⟩ | ⟨i1,_,R⟩<;>rcases S with⟨e',rfl,rfl⟩ | ⟨i1',_,S⟩
 ·exact⟨rfl,rfl⟩
 ·omega
 ·omega
 ·exact zxQ R S
theorem Cc{a b:Rat}{xs:List Rat} : ∀{es es':List (Nat × Nat × Nat)}{i n n':Nat},eY a b xs i es n->eY a b xs i es' n'->1<=n->dw a b (ai a b xs n)≠none->1<=n'->dw a b (ai a b xs n')=none->(∀k,k<=30->cE a b (bN (ai a b xs n')) (bZ (ai a b xs n')) k=true)->False
 | [],[],i,n,n',h,k,n1,w,_,w',_=>by
  have e:i=n:=h;have e':i=n':=k;subst e;subst e';exact w w'
 | [],f::fs,i,n,n',h,k,n1,w,_,_,_=>by
  have e:i=n:=h;subst e;rcases k.2.1 with⟨z,_,_⟩ | ⟨_,z,_⟩
  ·omega
  ·exact w z
 | e::es,[],i,n,n',h,k,_,_,n1',_,all=>by
  have e':i=n':=k;subst e';rcases h.2.1 with⟨z,_,_⟩ | ⟨_,_,R⟩
  ·omega
  ·have:=R.ends
   rw[all _ R.jd]at this;cases this
 | e::es,f::fs,i,n,n',h,k,n1,w,n1',w',all=>by
  obtain⟨e1,e2⟩:=Mp h.2.1 k.2.1;have k2:=k.2.2;rw[<- e1,<- e2]at k2;exact Cc h.2.2 k2 n1 w n1' w' all
theorem Fj{a b:Rat}{xs:List Rat} : ∀{es es':List (Nat × Nat × Nat)}{i n n':Nat},eY a b xs i es n->eY a b xs i es' n'->1<=n->dw a b (ai a b xs n)≠none->1<=n'->dw a b (ai a b xs n')≠none->es=es'/\n=n'
 | [],[],i,n,n',h,k,_,_,_,_=>⟨rfl,(show i=n from h).symm.trans k⟩
 | [],f::fs,i,n,n',h,k,n1,w,_,_=>by
  have e:i=n:=h;subst e;rcases k.2.1 with⟨z,_,_⟩ | ⟨_,z,_⟩
  ·omega
  ·exact absurd z w
 | e::es,[],i,n,n',h,k,_,_,n1',w'=>by
  have e':i=n':=k;subst e';rcases h.2.1 with⟨z,_,_⟩ | ⟨_,z,_⟩
  ·omega
  ·exact absurd z w'
 | e::es,f::fs,i,n,n',h,k,n1,w,n1',w'=>by
  obtain⟨e1,e2⟩:=Mp h.2.1 k.2.1;have k2:=k.2.2;rw[<- e1,<- e2]at k2;obtain⟨q1,q2⟩:=Fj h.2.2 k2 n1 w n1' w';refine⟨?_,q2⟩;rw[q1]
  congr 1
  exact Vw (h.1.trans k.1.symm) (Vw e1 e2)
theorem zt1{a b:Rat}{xs:List Rat}{es es':List (Nat × Nat × Nat)}{n n':Nat}{w w':String}(P:fu a b xs es n w)(S:fu a b xs es' n' w'):es=es'/\n=n'/\w=w':=by
 have hw:=P.word;have hw':=S.word;obtain⟨e1,e2⟩:=Fj P.walk S.walk P.n1 (by rw[hw];simp) S.n1 (by rw[hw'];simp);subst e2;rw[hw]at hw';exact⟨e1,rfl,w6 hw'⟩
theorem Lp{a b:Rat}{xs:List Rat}{es:List (Nat × Nat × Nat)}{n:Nat}{w:String}(P:fu a b xs es n w)(F:jL a b xs):False:=by
 obtain⟨es',i,h,i1,hw,all⟩:=F;exact Cc P.walk h P.n1 (by rw[P.word];simp) i1 hw all
def m6(w:String)(n:Nat):wB:=.tuple [.str (wV w),.int (n:Int)]
def FE(K:wb)(a:Ad):Sp:=λvs H Q E=>∃x0,vs=[x0] /\ ∃(ra rb:Rat)(xs:List Rat),Is K H x0 (aZ ra rb xs)/\cT ra rb xs /\
 (jL ra rb xs->∀H',ag H H'->E (.ref a.cS) none H') /\ ∀es n w v H',fu ra rb xs es n w->ag H H'->Is K H' v (m6 w (aj (ai ra rb xs n)).length)->Q v H'
theorem zAY{K:wb}{a:Ad}{H:Hp}{Q:VK}{E:XK}{ra rb:Rat}{xs:List Rat}{v:V}(h:Is K H v (aZ ra rb xs))(ok:cT ra rb xs)(qe:jL ra rb xs->∀H',ag H H'->E (.ref a.cS) none H')(q:∀es n w v H',fu ra rb xs es n w->ag H H'->Is K H' v (m6 w (aj (ai ra rb xs n)).length)->Q v H'):FE K a [v] H Q E:=⟨_,rfl,ra,rb,xs,h,ok,qe,q⟩
theorem fu.cm{a b:Rat}{xs:List Rat}{es:List (Nat × Nat × Nat)}{n:Nat}{w:String}(P:fu a b xs es n w)(ok:cT a b xs):Cm 3500 (aM a b xs n::ai a b xs n):=by
 have hnf:=ok.nf n;have s1:=P.sp.1;have s2:=P.sp.2;exact ok.cm (by omega) (by omega)
theorem zzP(T:Txt K mg a):aP P w K mg base (eT P w) 14 a.J0 a.JB tJ (FE K a):=by
 refine T.sA.F.m_ Lh ?_ ?_;wtm_at "b1"
 refine⟨_,(ak (aB 1 Lh.nd (dr cX (km (KZ T) hr T.Bl yc (ae (pv 0) af)) (gL gK aD) (λ_ _=>rfl)))
     (az (aF (bL (ae (ay (pv 1)) (ae (br (show aN _ (.builtin "len") (cF K)from dy) rfl T.z_len dA (ae (au (rC T) hr T.mI (ae (bL (ae (ay (pv 0)) (ae (ay (pv 1)) af))) af)) af)) af)))))),?_⟩
 wtm_at "cl";rw[show start Ts [x0]=[some x0,none]from rfl];obtain⟨ra,rb,xs,hw,ok,qe,q⟩:=h;have h6:=ok.h6;o_head PU hw ok qe (λl H1 es n wd P hl S1 i1=>?_);have c:=P.cm ok;have bx:∀i,ah 4000 ((ai ra rb xs n).getD i 0):=λi=>((lR c λy hy=>wF _ hy).get i).mono (by decide)
 have hw1:=hw.by S1;o_head lI i1 (λv2 i2=>?_);have i2:Is K H1 v2 (.tuple [N (aM ra rb xs n),TN (ai ra rb xs n),.str (wV wd)]):=i2;o_head aC (j:=2) i2 rfl (λv3 i3=>?_);rw[eI.mp i3];o_head aC (j:=0) hw1 rfl (λv4 i4=>?_);o_head aC (j:=1) i2 rfl (λv5 i5=>?_);o_head cy (ds:=[R ra rb,TN (ai ra rb xs n)]) (by simp) (.cons i4 (.cons i5 .nil)) (λv6 H6 S6 i6=>?_);o_head rA (show Is K H6 v6 (aZ ra rb (ai ra rb xs n))from i6) (by rw[bj];omega) bx (λlf H7 us7 n7 S7 e7 t7=>?_);have hul:=t7.length;rw[wo]at hul;o_head iB (.of e7) ?_;rw[hul];o_head cy (ds:=[.str (wV wd),.int ((aj (ai ra rb xs n)).length:Int)]) (by simp) (.cons (eI.mpr rfl) (.cons (cz.mpr rfl) .nil)) (λv8 H8 S8 i8=>?_);exact q es n wd v8 H8 P (S1.trans (S6.trans (S7.trans S8))) i8
def b8(H:Hp)(p:we)(k:Int):Prop:=∃a b n:Int,H p=some (.lst [.int a,.int b,.int n])/\0<=n/\n<=k
theorem b8.same{H H':Hp}{p:we}{k:Int}(s:ag H H')(h:b8 H p k):b8 H' p k:=by
 obtain⟨x,y,n,e,h1,h2⟩:=h;exact⟨x,y,n,s _ _ e,h1,h2⟩
theorem b8.le{H:Hp}{p:we}{j k:Int}(h:b8 H p j)(e:j<=k):b8 H p k:=by
 obtain⟨x,y,n,z,h1,h2⟩:=h;exact⟨x,y,n,z,h1,Int.le_trans h2 e⟩
theorem b8.ne{H:Hp}{p q:we}{k:Int}(e:H q=none)(h:b8 H p k):q≠p:=by
 obtain⟨x,y,n,z,_⟩:=h;exact(kf z e).symm
def SJ(K:wb):Sp:=λvs H Q _=>∃x0 x1,vs=[x0,x1] /\ ∃(a:we)(ns:List Int)(k:Int),x0=.ref a/\x1=.int k/\kh K H a (ns.map V.int)/\ns.length<=63/\0<=k/\k<=1000 /\
 ∀p H',H p=none->ag H H'->b8 H' p 0->Q (.ref p) H'
theorem zt2{K:wb}{H:Hp}{Q:VK}{E:XK}{a:we}{ns:List Int}{k:Int}(h:kh K H a (ns.map V.int))(hl:ns.length<=63)(h0:0<=k)(h1:k<=1000)
  (q:∀p H',H p=none->ag H H'->b8 H' p 0->Q (.ref p) H'):SJ K [.ref a,.int k] H Q E:=⟨_,_,rfl,a,ns,k,rfl,rfl,h,hl,h0,h1,q⟩
local macro_rules | `(tactic| wtm_at "pen")=>`(tactic| first
 | assumption
 | (apply b8.same;(focus assumption);wtm_at "pen"))
local macro_rules | `(tactic| wtm_at "ne")=>`(tactic| ((with_reducible apply b8.ne); (focus assumption); wtm_at "pen"))
local macro_rules | `(tactic| wtm_at "penle")=>`(tactic| exact b8.le (by wtm_at "pen") (by omega))
theorem zuJ(T:Txt K mg a):aP P w K mg base aS 1 a.Jw a.HY zB (SJ K):=by
 refine T.Io.F.ok tU ?_ ?_;wtm_at "b2"
 refine⟨_,(ak (aB 2 tU.nd (aK cK (aK cK (aK d6 (aK d6 aD (pv 1)) (pv 1)) (aK d6 aD (pv 1))) aD))
     (ak (bP (bY pP (pv 1) (br (show aN _ (.builtin "len") (cF K)from dy) rfl T.z_len dA (ae (pv 0) af)) (bA _)) (az (aB 2 tU.nd (dr cX (pv 0) (pv 1) (λ_ _=>rfl)))) (az (bP (bY mQ (br (show aN _ (.builtin "len") (cF K)from dy) rfl T.z_len dA (ae (pv 0) af)) aD (bA _)) (az (aB 2 tU.nd (aK cK (dr cX (pv 0) (aK gP (pv 1) (br (show aN _ (.builtin "len") (cF K)from dy) rfl T.z_len dA (ae (pv 0) af))) (λ_ _=>rfl)) (aK d6 aD (pv 1))))) bQ)))
     (ak (bP (bY RC (pv 2) (Sw (v:=1000000000000000000) ⟨by decide,by decide,by decide⟩ (by decide +kernel)) (bA _)) (az (aF (dG (ae (aK r8 (pv 2) (Sw (v:=1000000000000000000) ⟨by decide,by decide,by decide⟩ (by decide +kernel))) (ae (aK gP (pv 2) aD) (ae aD af)))))) bQ)
     (az (aF (dG (ae aD (ae (aK cK (aK gP (pv 2) aD) (aK d6 aD (pv 1))) (ae aD af))))))))),?_⟩
 wtm_at "cl";rw[show start Ms [x0,x1]=[some x0,some x1,none]from rfl];obtain⟨a',ns,k,rfl,rfl,hs,hl,h0,h1,q⟩:=h;have fin:∀(x y:Int),tL K [.int x,.int y,.int 0] H Q:=λx y=>fW (by show 3<=1000;decide) λp H' hp s e=>q p H' hp s ⟨x,y,0,e,by decide,by decide⟩
 o_head iB hs.sq ?_;k_few
 . refine OE hs h0 (by assumption) (λz=>?_)
   k_few
   all_goals exact fin _ _
 . refine iB hs.sq ?_
   k_few
   . refine iB hs.sq ?_
     o_head OE hs (Qf _ (by omega)) (qI _ (by omega)) (λz=>?_);k_few
     all_goals exact fin _ _
   all_goals exact fin _ _
def Rl(K:wb):Sp:=λvs H Q _=>∃x0 x1,vs=[x0,x1] /\ ∃(p:we)(k m:Int),x0=.ref p/\x1=.int m/\b8 H p k/\k<=1000000/\0<m/\Bd 8999 m /\
 ∀(r:Int)(H':Hp),0<=r->r<m->Exc p H H'->bE H H'->b8 H' p (k+1)->Q (.int r) H'
theorem zsB{K:wb}{H:Hp}{Q:VK}{E:XK}{p:we}{k m:Int}(h:b8 H p k)(hk:k<=1000000)(hm:0<m)(hb:Bd 8999 m)
  (q:∀(r:Int)(H':Hp),0<=r->r<m->Exc p H H'->bE H H'->b8 H' p (k+1)->Q (.int r) H'):Rl K [.ref p,.int m] H Q E:=⟨_,_,rfl,p,k,m,rfl,rfl,h,hk,hm,hb,q⟩
local macro_rules | `(tactic| wtm_at "gs")=>`(tactic| ((with_reducible apply zsB); (focus wtm_at "pen"); (focus omega); (focus omega); (focus wtm_at "bd128"); intro _ _ _ _ _ _ _))
theorem eH(T:Txt K mg a):aP P w K mg base aS 1 a.IT a.HG zm (Rl K):=by
 refine T.dY.F.ok y7 ?_ ?_;wtm_at "b2"
 refine⟨_,(ak (oq (aK cK (ay (pv 0)) aD) (mM (pv 0) aD nA))
     (ak (bP (bY mQ (ay (pv 0)) aD (bA _)) (ak (aB 2 y7.nd (aK gP (ay (pv 0)) (pv 1)))
     (ak (oq (aK gj (ay (pv 0)) (pv 1)) (mM (pv 0) aD nA))
     (az (aF (pv 2))))) bQ)
     (ak (aB 3 y7.nd (aK gP (aK cK (aK cK (aK d6 (ay (pv 0)) aD) (aK d6 (aK d6 aD (ay (pv 0))) (ay (pv 0)))) aD) aD))
     (ak (aB 3 y7.nd (aK gP (aK d6 (pv 3) (aK cK (aK gP (pv 3) aD) (ay (pv 0)))) aD))
     (az (aF (aK gP (aK gj (aK gP (aK d6 (pv 3) (aK cK (aK gP (pv 3) aD) aD)) aD) aD) (pv 1)))))))),?_⟩
 wtm_at "cl";rw[show start LD [x0,x1]=[some x0,some x1,none,none]from rfl];obtain⟨p,k,m,rfl,rfl,⟨x,y,n,hp,hn0,hn1⟩,hk,hm,hbm,q⟩:=h;k_few
 all_goals
   exact q _ _ (Qf _ (by omega)) (qI _ hm) (by wtm_at "exc") (Exc.keep (p:=p) (by wtm_at "exc") hp) ⟨_,_,_,by assumption,by omega,by omega⟩
def BK(K:wb):Sp:=λvs H Q _=>∃x0 x1,vs=[x0,x1] /\ ∃(t b:Int),x0=.int t/\x1=.int b/\b≠0/\Bd 8999 b /\ ∀v H',ag H H'->Is K H' v (N (wH t b))->Q v H'
theorem NV{K:wb}{H:Hp}{Q:VK}{E:XK}{t b:Int}(hb:b≠0)(hB:Bd 8999 b)(q:∀v H',ag H H'->Is K H' v (N (wH t b))->Q v H'):BK K [.int t,.int b] H Q E:=⟨_,_,rfl,t,b,rfl,rfl,hb,hB,q⟩
theorem Y7{K:wb}{H:Hp}{Q:VK}{E:XK}{t b:Int}(hb:b≠0)(h1 : -100000000000000000000000000000000000000<=t)(h2:t<=100000000000000000000000000000000000000)(h3 : -100000000000000000000000000000000000000<=b)(h4:b<=100000000000000000000000000000000000000)
  (q:∀v H' (x:Rat),ag H H'->Is K H' v (N x)->x=wH t b->ah 128 x->Q v H'):BK K [.int t,.int b] H Q E :=
 NV hb ((Bd.mJ h3 h4).mono (by decide)) λv H' s h=>q v H' _ s h rfl (ah.divInt hb (Bd.mJ h1 h2) (Bd.mJ h3 h4))
local macro_rules | `(tactic| wtm_at "gs")=>`(tactic| ((with_reducible apply Y7); (focus omega); (focus omega); (focus omega); (focus omega); (focus omega); intro _ _ _ _ _ _ _))
theorem jo(T:Txt K mg a):aP P w K mg base aS 1 a.JD a.Ic A2 (BK K):=by
 refine T.iJ.F.ok rB ?_ ?_;wtm_at "b2"
 refine⟨_,(ak (aB 2 rB.nd (br mO rfl T.z_abs nW (ae (pv 0) af)))
     (ak (aB 3 rB.nd (br mO rfl T.z_abs nW (ae (pv 1) af)))
     (ak (mf vD (bY mQ (pv 3) aD (bA _)) (az (zBW (i:=2) (j:=3) rfl rB.nd rfl rfl (by decide) rfl rfl (ae (pv 3) (ae (aK gP (pv 2) (pv 3)) af)) rfl)))
     (ak (bP (bY pP (pv 1) aD (bA _)) (az (aB 2 rB.nd (aK r8 aD (pv 2)))) bQ)
     (az (aF (bL (ae (aK gj (pv 0) (pv 2)) (ae (aK gj (pv 1) (pv 2)) af))))))))),?_⟩
 wtm_at "cl";rw[show start Nj [x0,x1]=[some x0,some x1,none,none]from rfl];obtain⟨t,b,rfl,rfl,hb,hB,q⟩:=h;o_head Kt (λσ H'=>∃(x y:Int),σ = [some (.int t),some (.int b),some (.int x),some (.int y)]/\0<=x/\0<=y/\vx x y=vx t b/\H'=H) (λσ=>(M7 σ 3).toNat) ⟨_,_,rfl,by split<;>omega,by split<;>omega,?_,rfl⟩ ?_
 . have e1:vx (if t<0 then -t else t) (if b<0 then -b else b)=vx t b:=by
     split<;>split<;>simp
   exact e1
 rintro σ H' ⟨x,y,rfl,hx,hy,hg,rfl⟩
 have hgb:Bd 8999 ((vx t b:Nat):Int):=hB.le (by
   have:vx t b ∣ b.natAbs:=Int.gcd_dvd_natAbs_right t b;have:=uF (by omega) this
   simpa using this)
 k_few
 . refine RB ?_
   k_few;have h1:=Qf x (show y≠0 by omega);have h2:=qI x (show 0<y by omega);refine⟨?_,_,_,rfl,hy,h1,?_,rfl⟩
   . show(x % y).toNat<y.toNat
     omega
   . rw[<- hg];exact J_ (by omega) hx
 . rename_i h0 hneg
   have e0:y=0:=by omega
   subst e0
   have e:x=((vx t b:Nat):Int):=by
     rw[<- hg,Qz];omega
   have e1:0-x=dv t b:=by unfold dv;rw[if_pos hneg,<- e];omega
   rw[e1];have hd:kS t (dv t b):=⟨Cy hb,by unfold dv;rw[if_pos hneg];exact hgb.neg⟩;refine AZ hd ?_;k_few;exact kJ (DX hb) (Nt hb) q
 . rename_i h0 hneg
   have e0:y=0:=by omega
   subst e0
   have e:x=((vx t b:Nat):Int):=by
     rw[<- hg,Qz];omega
   have e1:x=dv t b:=by unfold dv;rw[if_neg hneg,<- e]
   rw[e1];have hd:kS t (dv t b):=⟨Cy hb,by unfold dv;rw[if_neg hneg];exact hgb⟩;refine AZ hd ?_;k_few;exact kJ (DX hb) (Nt hb) q
def Dh(K:wb)(a:Ad):we->wg->Sp:=λex C vs H Q _=>∃x0,vs=[x0]/\x0=.ref ex /\ ∃w,Tn a C w /\ ∀H',ag H H'->Q (.str w) H'
theorem zsM{K:wb}{a:Ad}{H:Hp}{Q:VK}{E:XK}{ex:we}{C:wg}{w:Str}(h:Tn a C w)(q:∀H',ag H H'->Q (.str w) H'):Dh K a ex C [.ref ex] H Q E:=⟨_,rfl,rfl,w,h,q⟩
theorem zs0(T:Txt K mg a):Fx P w K mg base 1 a.IP a.Hy tX (Dh K a):=by
 refine T.sf.F.okH my (λex C vs H Q E h=>by obtain⟨_,rfl,_⟩:=h;rfl) (λcdv A outer s H vs Q E ex C oe hr hd h=>?_);obtain⟨x0,rfl,h⟩:=h;have hu:=hr.units
 refine⟨_,(ak (aB 1 my.nd (dG (ae (bL (ae dQ (ae (br (jj hd) rfl T.z_isinstance eC (ae (pv 0) (ae (bS (v:=.ref a.oC) rfl T.U0 rfl) af))) af))) (ae (bL (ae dQ (ae (br (jj hd) rfl T.z_isinstance eC (ae (pv 0) (ae (bS (v:=.ref a.oD) rfl T.Yc rfl) af))) af))) af))))
     (ak (aB 1 my.nd (aK cK (pv 1) (dG (ae (bL (ae dQ (ae (br (jj hd) rfl T.z_isinstance eC (ae (pv 0) (ae (bS (v:=.ref a.eD) rfl T.Ir rfl) af))) af))) (ae (bL (ae dQ (ae (br (jj hd) rfl T.z_isinstance eC (ae (pv 0) (ae (bS (v:=.ref a.dZ) rfl T.Iz rfl) af))) af))) af)))))
     (ak (aB 1 my.nd (aK cK (pv 1) (dG (ae (bL (ae dQ (ae (br (jj hd) rfl T.z_isinstance eC (ae (pv 0) (ae (bS (v:=.ref a.cS) rfl T.II rfl) af))) af))) (ae (bL (ae dQ (ae (br (jj hd) rfl T.z_isinstance eC (ae (pv 0) (ae (bS (v:=.ref a.oJ) rfl T.Yg rfl) af))) af))) af)))))
     (ak (aB 1 my.nd (aK cK (pv 1) (dG (ae (bL (ae dQ (ae (br (jj hd) rfl T.z_isinstance eC (ae (pv 0) (ae (bS (v:=.ref a.oG) rfl T.W_ rfl) af))) af))) (ae (bL (ae dQ (ae (br (jj hd) rfl T.z_isinstance eC (ae (pv 0) (ae (bS (v:=.ref a.oI) rfl T.Ye rfl) af))) af))) af)))))
     (ak (aB 1 my.nd (aK cK (pv 1) (dG (ae (bL (ae dQ (ae (br (jj hd) rfl T.z_isinstance eC (ae (pv 0) (ae (bS (v:=.ref a.oE) rfl T.X_ rfl) af))) af))) af))))
     (ak (ztp hd (i:=2) my.nd rfl (Or.inl rfl) (cv.by (N':=["_law_word","_law_one"]) (src:=[none,none]) rfl (show cN _ (aA Ap).names Eb ["_law_word","_law_one"] [none,none]=true from by decide +kernel)) (zyg (pv 1)) (λ_ _ _ _ _=>by exact(zxJ (n:=2) hd (d5 (bM (i:=0) (show(["_law_word","_law_one"]:List Str).Nodup from by decide) rfl (Or.inl rfl)) (d5 (bM (i:=1) (show(["_law_word","_law_one"]:List Str).Nodup from by decide) rfl (Or.inl rfl)) jF)))) (λ_ _ _ _ _=>by exact(pT (cu (pv 1)))) (λ_ _ _ _ _=>by exact(pv 0)))
     (ak (bP (PW.pt (ff (bY (show aJ _ (wN .NotEq) (df K)from fh hu) (br (show aN _ (.builtin "len") (cF K)from dy) rfl T.z_len dA (ae (pv 2) af)) aD (bA _)) (fO (cA (cu (br (jj hd) rfl T.z_isinstance eC (ae (pv 0) (ae (hJ (v:=.ty "ValueError") rfl T.z_ValueError zoK rfl) af)))))))) (az (aF dQ)) bQ)
     (az (aF (ay (pv 2))))))))))),?_⟩
 wtm_at "cl";rw[show start Eb [x0]=[some x0,none,none]from rfl];obtain⟨rfl,w,hw,q⟩:=h;rcases hw with⟨rfl,rfl⟩ | ⟨rfl,rfl⟩ | ⟨rfl,rfl⟩
 all_goals
   wtm_at "ga";refine zxu (by assumption) (by repeat' (first | exact fX.nil | with_reducible apply fX.app | with_reducible apply fX.cons | (apply zAD;(focus assumption);(focus wtm_at "same")))) (by decide) (λD H1 S1 e1=>?_);simp only[jG,QV,Qd,WI,List.filter_nil,va,Qb,vZ,if_false,if_true]at e1;o_head iB (aO.of e1) ?_;rw[show((Xx [V.str _]:Nat):Int)=1 from rfl];k_few;exact q _ (by wtm_at "same")
def KU(K:wb):Sp:=λvs H Q _=>∃x0,vs=[x0] /\ ∃(p:we)(k:Int),x0=.ref p/\b8 H p k/\k<=100000 /\ ∀v H' (a b:Rat),Exc p H H'->bE H H'->b8 H' p (k+7)->Is K H' v (R a b)->aX a b->Q v H'
theorem zrL{K:wb}{H:Hp}{Q:VK}{E:XK}{p:we}{k:Int}(h:b8 H p k)(hk:k<=100000)(q:∀v H' (a b:Rat),Exc p H H'->bE H H'->b8 H' p (k+7)->Is K H' v (R a b)->aX a b->Q v H') :
  KU K [.ref p] H Q E:=⟨_,rfl,p,k,rfl,h,hk,q⟩
theorem ztt(T:Txt K mg a):aP P w K mg base aS 2 a.Je a.Hs Ae (KU K):=by
 refine T.Ij.F.ok oo ?_ ?_;wtm_at "b1"
 refine⟨_,(ak (aB 1 oo.nd (aK cK aD (au (eH T) hr T.dY (ae (pv 0) (ae aD af)))))
     (ak (aB 2 oo.nd (au (jo T) hr T.iJ (ae (dr cX (dG (ae (aK cK aD (au (eH T) hr T.dY (ae (pv 0) (ae (aK d6 aD (pv 1)) af)))) (ae (pv 1) af))) (dg Mh rfl T.z_int DD (ae (fg (show aJ _ (wN .Eq) (cH K)from dj hu) (au (eH T) hr T.dY (ae (pv 0) (ae aD af))) aD (bA _)) af)) (λ_ _=>rfl)) (ae (pv 1) af))))
     (ak (aB 3 oo.nd (aK cK aD (au (eH T) hr T.dY (ae (pv 0) (ae aD af)))))
     (ak (aB 4 oo.nd (au (jo T) hr T.iJ (ae (aK gj (au (eH T) hr T.dY (ae (pv 0) (ae (aK cK (pv 3) aD) af))) (aK cK aD (au (eH T) hr T.dY (ae (pv 0) (ae aD af))))) (ae (pv 3) af))))
     (ak (bP (bY pP (aK cK (aK d6 (ay (pv 2)) (ay (pv 4))) (aK d6 (ay (pv 4)) (ay (pv 2)))) (aK d6 (ay (pv 2)) (ay (pv 4))) (bA _)) (az (aB 4 oo.nd (au (jo T) hr T.iJ (ae (aK r8 (ay (pv 2)) (ay (pv 2))) (ae (ay (pv 2)) af))))) bQ)
     (az (aF (bL (ae (pv 2) (ae (pv 4) af)))))))))),?_⟩
 wtm_at "cl";rw[show start SD [x0]=[some x0,none,none,none,none]from rfl];obtain⟨p,k,rfl,hp,hk,q⟩:=h;wtm_at "ga";rename_i z hz v1 H3 x S3 iv ex bx r1 H2 g0 g1 E2 K2 P2 r H1 g2 g3 E1 K1 P1 d H0 g4 g5 E0 K0 P0;have hd:kS r (1+d):=⟨by omega,Bd.mono (Bd.mJ (by omega) (by omega)) (by decide)⟩;have f0:0<=r.fdiv (1+d):=by rw[qi _ (by omega)];exact X9 g2 (by omega)
 have f1:r.fdiv (1+d)<=r:=by rw[qi _ (by omega)];exact XI _ g2
 refine AZ hd ?_;generalize r.fdiv (1+d)=w at f0 f1 ⊢;wtm_at "ga"
 . rename_i v H4 y S4 iy ey by' hlt
   refine NV (f_ x) (bx.b.mono (by decide)) (λv5 H5 S5 h5=>?_);rw[NX]at h5;o_head Np (a:=x) (b:=1-x) (by wtm_at "is") (by wtm_at "is") (λv6 H6 S6 h6=>?_);exact q _ _ _ _ (by wtm_at "exc") (by wtm_at "keep") (by wtm_at "penle") h6 (zzZ ex (by omega) (by omega) (by omega) (by omega) ey (by omega) (by omega) (by omega) (by omega) hlt)
 . rename_i v H4 y S4 iy ey by' hlt v6 H6 S6 h6
   exact q _ _ x y (by wtm_at "exc") (by wtm_at "keep") (by wtm_at "penle") h6 (zBk ex (by omega) (by omega) (by omega) (by omega) ey (by omega) (by omega) (by omega) (by omega) hlt)
def Tj(K:wb):Sp:=λvs H Q _=>∃x0,vs=[x0] /\ ∃(p:we)(k:Int),x0=.ref p/\b8 H p k/\k<=1000 /\ ∀v H' (a b:Rat),Exc p H H'->bE H H'->b8 H' p (k+8)->Is K H' v (R a b)->aX a b->Q v H'
theorem zmm{K:wb}{H:Hp}{Q:VK}{E:XK}{p:we}{k:Int}(h:b8 H p k)(hk:k<=1000)(q:∀v H' (a b:Rat),Exc p H H'->bE H H'->b8 H' p (k+8)->Is K H' v (R a b)->aX a b->Q v H'):Tj K [.ref p] H Q E:=⟨_,rfl,p,k,rfl,h,hk,q⟩
theorem Sv{x y:Rat}{z t:Int}(e:x=wH z 8)(e':y=wH t 8)(z1:1<=z)(z7:z<=32)(t0:0<=t)(t8:t<=8)(h:8<=z+t):aX x y:=by
 obtain⟨a1,a2,a3⟩:=yg e (by decide) (by decide) z1 (by omega);obtain⟨b1,b2,b3⟩:=sL e' (by decide) (by decide) t0 t8;have hx:=cV z (show(8:Int)≠0 by decide);have hy:=cV t (show(8:Int)≠0 by decide);rw[<- e]at hx;rw[<- e']at hy;have h1:((8:Int):Rat)<=((z+t:Int):Rat):=WS.mpr h;have e8:((8:Int):Rat)=8:=rfl;have e1:((z+t:Int):Rat)=(z:Rat)+(t:Rat):=by push_cast;rfl
 rw[e1,e8]at h1;rw[e8]at hx hy;exact⟨a1,a2,a3,b1,b2,b3,by grind⟩
theorem OL{x y:Rat}{z t:Int}(e:x=wH z 8)(e':y=wH t 12)(z1:8<=z)(z7:z<=32)(t0:0<=t)(t8:t<=12):aX x y:=by
 obtain⟨a1,a2,a3⟩:=yg e (by decide) (by decide) (by omega) (by omega);obtain⟨b1,b2,b3⟩:=sL e' (by decide) (by decide) t0 t8;have hx:=cV z (show(8:Int)≠0 by decide);rw[<- e]at hx;have h1:((8:Int):Rat)<=((z:Int):Rat):=WS.mpr z1;have e8:((8:Int):Rat)=8:=rfl;rw[e8]at h1 hx;exact⟨a1,a2,a3,b1,b2,b3,by grind⟩
theorem zmn(T:Txt K mg a):aP P w K mg base aS 3 a.G4 a.Gv sJ (Tj K):=by
 refine T.GB.F.ok zev ?_ ?_;wtm_at "b1"
 refine⟨_,(ak (aB 1 zev.nd (au (eH T) hr T.dY (ae (pv 0) (ae aD af))))
     (ak (bP (bY (show aJ _ (wN .Eq) (cH K)from dj hu) (pv 1) aD (bA _)) (az (aF (bL (ae (bL (ae aD (ae aD af))) (ae (au (jo T) hr T.iJ (ae (au (eH T) hr T.dY (ae (pv 0) (ae aD af))) (ae aD af))) af))))) bQ)
     (ak (bP (bY (show aJ _ (wN .Eq) (cH K)from dj hu) (pv 1) aD (bA _)) (ak (aB 2 zev.nd (aK cK aD (au (eH T) hr T.dY (ae (pv 0) (ae aD af)))))
     (az (aF (bL (ae (au (jo T) hr T.iJ (ae (pv 2) (ae aD af))) (ae (au (jo T) hr T.iJ (ae (aK r8 aD (pv 2)) (ae aD af))) af)))))) bQ)
     (ak (bP (bY (show aJ _ (wN .Eq) (cH K)from dj hu) (pv 1) aD (bA _)) (az (aF (bL (ae (au (jo T) hr T.iJ (ae (aK cK aD (au (eH T) hr T.dY (ae (pv 0) (ae aD af)))) (ae aD af))) (ae (bL (ae aD (ae aD af))) af))))) bQ)
     (ak (bP (bY (show aJ _ (wN .Eq) (cH K)from dj hu) (pv 1) aD (bA _)) (az (aF (bL (ae (au (jo T) hr T.iJ (ae (aK cK aD (au (eH T) hr T.dY (ae (pv 0) (ae aD af)))) (ae aD af))) (ae (au (jo T) hr T.iJ (ae (au (eH T) hr T.dY (ae (pv 0) (ae aD af))) (ae aD af))) af))))) bQ)
     (az (aF (au (ztt T) hr T.Ij (ae (pv 0) af))))))))),?_⟩
 wtm_at "cl";rw[show start PM [x0]=[some x0,none,none]from rfl];obtain⟨p,k,rfl,hp,hk,q⟩:=h;wtm_at "ga"
 . rename_i r1 H1 r10 r11 E1 K1 P1 z v2 H2 S2 i2 r2 H3 r20 r21 E3 K3 P3 v4 H4 x4 S4 i4 e4 b4
   have i2:Is K H2 v2 (N 1):=i2;refine cy (ds:=[N 1,N x4]) (by simp) (.cons ((i2.gT K3).by S4) (.cons i4 .nil)) (λv5 H5 S5 i5=>?_);have i5:Is K H5 v5 (R 1 x4):=i5;exact q _ _ 1 x4 (by wtm_at "exc") (by wtm_at "keep") (by wtm_at "penle") i5 (OL (z:=8) (by decide +kernel) e4 (by omega) (by omega) (by omega) (by omega))
 . rename_i r1 H1 r10 r11 E1 K1 P1 z0 z1 r2 H2 r20 r21 E2 K2 P2 v3 H3 x3 S3 i3 e3 b3 v4 H4 x4 S4 i4 e4 b4 v5 H5 S5 i5
   exact q _ _ x3 x4 (by wtm_at "exc") (by wtm_at "keep") (by wtm_at "penle") i5 (Sv e3 e4 (by omega) (by omega) (by omega) (by omega) (by omega))
 . rename_i r1 H1 r10 r11 E1 K1 P1 z0 z1 z2 r2 H2 r20 r21 E2 K2 P2 v3 H3 x3 S3 i3 e3 b3 v4 H4 S4 i4 v5 H5 S5 i5
   have i5:Is K H5 v5 (R x3 1):=i5;exact q _ _ x3 1 (by wtm_at "exc") (by wtm_at "keep") (by wtm_at "penle") i5 (Sv e3 (t:=8) (by decide +kernel) (by omega) (by omega) (by omega) (by omega) (by omega))
 . rename_i r1 H1 r10 r11 E1 K1 P1 z0 z1 z2 z3 r2 H2 r20 r21 E2 K2 P2 v3 H3 x3 S3 i3 e3 b3 r4 H4 r40 r41 E4 K4 P4 v5 H5 x5 S5 i5 e5 b5 v6 H6 S6 i6
   exact q _ _ x3 x5 (by wtm_at "exc") (by wtm_at "keep") (by wtm_at "penle") i6 (OL e3 e5 (by omega) (by omega) (by omega) (by omega))
 . rename_i r1 H1 r10 r11 E1 K1 P1 z0 z1 z2 z3
   refine zrL P1 (by omega) (λv2 H2 ra rb E2 K2 P2 i2 ok=>?_);exact q _ _ ra rb (by wtm_at "exc") (by wtm_at "keep") (by wtm_at "penle") i2 ok
def PY(K:wb):Sp:=λvs H Q _=>∃x0 x1,vs=[x0,x1] /\ ∃(p:we)(k m:Int),x0=.ref p/\x1=.int m/\b8 H p k/\k<=1000/\1<=m/\m<=8 /\ ∀(l:we)(H':Hp)(us:List V)(xs:List Rat),H l=none->Exc p H H'->bE H H'->b8 H' p (k+26)->H' l=some (.lst us)->av K H' us (xs.map N)->1<=xs.length->(xs.length:Int)<=m->(∀x∈xs,fF x)->Q (.ref l) H'
theorem zo1{K:wb}{H:Hp}{Q:VK}{E:XK}{p:we}{k m:Int}(h:b8 H p k)(hk:k<=1000)(h1:1<=m)(h8:m<=8)(q:∀(l:we)(H':Hp)(us:List V)(xs:List Rat),H l=none->Exc p H H'->bE H H'->b8 H' p (k+26)->H' l=some (.lst us)->av K H' us (xs.map N)->1<=xs.length->(xs.length:Int)<=m->(∀x∈xs,fF x)->Q (.ref l) H'):PY K [.ref p,.int m] H Q E:=⟨_,_,rfl,p,k,m,rfl,rfl,h,hk,h1,h8,q⟩
theorem zoZ(T:Txt K mg a):aP P w K mg base aS 2 a.HQ a.GV sT (PY K):=by
 refine T.G_.F.ok mW ?_ ?_;wtm_at "b2"
 refine⟨_,(ak (aB 2 mW.nd (aK cK aD (au (eH T) hr T.dY (ae (pv 0) (ae aD af)))))
     (ak (aB 3 mW.nd (dG af))
     (ak (gA vD rfl (jW rfl T.z_range (ae (aK cK aD (au (eH T) hr T.dY (ae (pv 0) (ae (pv 1) af)))) af)) (bM (i:=4) mW.nd rfl (Or.inl rfl)) (ak (aB 5 mW.nd (au (eH T) hr T.dY (ae (pv 0) (ae aD af))))
     (az (bP (PW.pt (DK (bY (show aJ _ (wN .Eq) (cH K)from dj hu) (pv 5) aD (bA _)) (EN (bY (show aJ _ (wN .NotEq) (df K)from fh hu) (pv 3) (dG af) (bA _))))) (az (kj (jz vU Wa Wb jH (pv 3) (ae (dr cX (pv 3) (au (eH T) hr T.dY (ae (pv 0) (ae (br (show aN _ (.builtin "len") (cF K)from dy) rfl T.z_len dA (ae (pv 3) af)) af))) (λ_ _=>rfl)) af)))) (ak (aB 6 mW.nd (dr cX (dG (ae (pv 2) (ae (aK cK aD (au (eH T) hr T.dY (ae (pv 0) (ae aD af)))) af))) (dg Mh rfl T.z_int DD (ae (fg (show aJ _ (wN .Eq) (cH K)from dj hu) (pv 5) aD (bA _)) af)) (λ_ _=>rfl)))
     (az (kj (jz vU Wa Wb jH (pv 3) (ae (au (jo T) hr T.iJ (ae (au (eH T) hr T.dY (ae (pv 0) (ae (pv 6) af))) (ae (pv 6) af))) af)))))))))
     (az (aF (pv 3)))))),?_⟩
 wtm_at "cl";rw[show start LV [x0,x1]=[some x0,some x1,none,none,none,none,none]from rfl];obtain⟨p,k,m,rfl,rfl,hp,hk,h1,h8,q⟩:=h;wtm_at "ga";rename_i r H1 r0 r1 E1 K1 P1 lf H2 hf S2 e2 c H3 c0 c1 E3 K3 P3;have nef:lf≠p:=b8.ne hf P1
 have hfr:H lf=none:=by
   cases e:H lf with
   | none=>rfl
   | some o=>rw[E1 lf o nef e]at hf;cases hf
 have X0:Exc p H H3:=E1.trans (S2.exc.trans E3);have K0:bE H H3:=K1.trans (S2.keep.trans K3);have e3:H3 lf=some (.lst []):=E3.at nef e2;have P0:=P3;clear E1 K1 P1 hp S2 E3 K3 P3 e2 hf
 refine lO (n:=1+c) (by omega) (by omega) (λi σ H'=>∃(o4 o5 o6:Option V)(us:List V)(xs:List Rat),σ = [some (.ref p),some (.int m),some (.int (1+r)),some (.ref lf),o4,o5,o6]/\Exc p H H'/\bE H H'/\b8 H' p (k+2+3*(i:Int))/\H' lf=some (.lst us)/\av K H' us (xs.map N)/\xs.length=i /\ ∀x∈xs,fF x)
   ⟨_,_,_,[],[],rfl,X0,K0,P0.le (by omega),e3,.nil,rfl,by simp⟩ ?_ ?_
 . rintro i σ H4 hi ⟨o4,o5,o6,us,xs,rfl,X4,K4,P4,e4,t4,hlen,ph⟩
   have hi8:i<8:=by omega
   have hul:us.length=xs.length:=by rw[t4.length,wo]
   have grown:∀(H5 H6:Hp)(v:V)(x:Rat),Exc p H H5->bE H H5->b8 H5 p (k+2+3*((i+1:Nat):Int))->H5 lf=some (.lst us)->av K H5 us (xs.map N)->Is K H5 v (N x)->fF x->Exc lf H5 H6->H6 lf=some (.lst (us++[v]))->∃(us':List V)(xs':List Rat),Exc p H H6/\bE H H6/\b8 H6 p (k+2+3*((i+1:Nat):Int))/\H6 lf=some (.lst us')/\av K H6 us' (xs'.map N)/\xs'.length=i+1 /\ ∀x∈xs',fF x:=by
     intro H5 H6 v x X5 L5 P5 e5 t5 iv px E6 e6;have k6:=E6.keep e5;obtain⟨q1,q2,q3,q4,q5,q6⟩:=P5;refine⟨us++[v],xs++[x],λb o hb h=>E6 b o (kf h hfr) (X5 b o hb h),L5.trans k6,⟨q1,q2,q3,E6 p _ (Wj nef) q4,q5,q6⟩,e6,?_,by simp[hlen],λy hy=>?_⟩
     . rw[vK]
       exact(av.keep k6 _ _ (eO _) t5).append (.cons (iv.gT k6) .nil)
     . rcases vW.mp hy with h | h
       . exact ph y h
       . rw[wY.mp h];exact px
   wtm_at "ga"
   . rename_i way H5 w0 w1 E5 K5 P5 z ln H6 n6 S6 e6
     have e56:H6 lf=some (.lst us):=S6 _ _ (E5.at nef e4);have t56:av K H6 us (xs.map N):=av.keep (K5.trans S6.keep) _ _ (eO _) t4;have X56:Exc p H H6:=X4.trans (E5.trans S6.exc);have L56:bE H H6:=K4.trans (K5.trans S6.keep);have P56:=P5.same S6;clear E5 K5 P5 S6;refine zAp (dE e56 t56) (dE (xs:=[]) e6 .nil) ?_
     by_cases hx:xs=[]
     . rw[decide_eq_true hx]
       wtm_at "ga";rename_i u H6b u0 u1 E6 K6 P6 lu H7 nu S7 e7 under hu;have X5:=X56;have L5:=L56;have e5:=e56;have t5:=t56;have X7:Exc p H H7:=X5.trans (E6.trans S7.exc);have L7:bE H H7:=L5.trans (K6.trans S7.keep);have e7':H7 lf=some (.lst us):=S7 _ _ (E6.at nef e5);have t7:av K H7 us (xs.map N):=av.keep (K6.trans S7.keep) _ _ (eO _) t5;refine ig (aO.of e7') ?_;k_few;rename_i t H8 t0 t1 E8 K8 P8 v9 H9 x9 S9 i9 ex9 b9;have e9:=S9 _ _ (E8.at nef e7');refine iS e9 (by omega) (λH10 E10 e10=>?_);k_few;obtain⟨us',xs',g1,g2,g3,g4,g5,g6,g7⟩:=grown H9 H10 v9 x9 (X7.trans (E8.trans S9.exc)) (L7.trans (K8.trans S9.keep)) ((P8.same S9).le (by omega)) e9 (av.keep (K8.trans S9.keep) _ _ (eO _) t7) i9 (by rw[ex9];exact Nu (by omega) (by omega) (by omega)) E10 e10;exact⟨_,_,_,us',xs',rfl,g1,g2,g3,g4,g5,g6,g7⟩
     . rw[decide_eq_false hx]
       have hx1:1<=xs.length:=by
         cases xs with
         | nil=>exact absurd rfl hx
         | cons x xs=>simp
       o_head ig (aO.of e56) ?_;o_head iB (.of e56) ?_;k_few;rename_i t H8 t0 t1 E8 K8 P8;have e8:=E8.at nef e56;have t8:av K H8 us (xs.map N):=av.keep K8 _ _ (eO _) t56;refine kI (dE e8 t8) t0 (by omega) (λv9 i9=>?_);o_head iS e8 (by omega) (λH10 E10 e10=>?_);k_few;obtain⟨us',xs',g1,g2,g3,g4,g5,g6,g7⟩:=grown H8 H10 v9 _ (X56.trans E8) (L56.trans K8) (P8.le (by omega)) e8 t8 i9 (ph _ (getD_mem (by omega))) E10 e10;exact⟨_,_,_,us',xs',rfl,g1,g2,g3,g4,g5,g6,g7⟩
   . skip
     rename_i way H5 w0 w1 E5 K5 P5 z u H6b u0 u1 E6 K6 P6 lu H7 nu S7 e7 under hu;have X5:=X4.trans E5;have L5:=K4.trans K5;have e5:=E5.at nef e4;have t5:av K H5 us (xs.map N):=av.keep K5 _ _ (eO _) t4;have X7:Exc p H H7:=X5.trans (E6.trans S7.exc);have L7:bE H H7:=L5.trans (K6.trans S7.keep);have e7':H7 lf=some (.lst us):=S7 _ _ (E6.at nef e5);have t7:av K H7 us (xs.map N):=av.keep (K6.trans S7.keep) _ _ (eO _) t5;refine ig (aO.of e7') ?_;k_few;rename_i t H8 t0 t1 E8 K8 P8 v9 H9 x9 S9 i9 ex9 b9;have e9:=S9 _ _ (E8.at nef e7');refine iS e9 (by omega) (λH10 E10 e10=>?_);k_few;obtain⟨us',xs',g1,g2,g3,g4,g5,g6,g7⟩:=grown H9 H10 v9 x9 (X7.trans (E8.trans S9.exc)) (L7.trans (K8.trans S9.keep)) ((P8.same S9).le (by omega)) e9 (av.keep (K8.trans S9.keep) _ _ (eO _) t7) i9 (by rw[ex9];exact Nu (by omega) (by omega) (by omega)) E10 e10;exact⟨_,_,_,us',xs',rfl,g1,g2,g3,g4,g5,g6,g7⟩
 . rintro σ H4 ⟨o4,o5,o6,us,xs,rfl,X4,K4,P4,e4,t4,hlen,ph⟩
   k_few;exact q lf H4 us xs hfr X4 K4 (P4.le (by omega)) e4 t4 (by omega) (by omega) ph
def MA(K:wb):Sp:=λvs H Q _=>∃x0,vs=[x0] /\ ∃(ra rb:Rat)(xs:List Rat),Is K H x0 (aZ ra rb xs)/\cT ra rb xs /\
 (jL ra rb xs->∀l H',ag H H'->H' l=some (.lst [.str "long"])->Q (.ref l) H') /\ ∀es n w v H',fu ra rb xs es n w->ag H H'->Is K H' v (m6 w (aj (ai ra rb xs n)).length)->Q v H'
theorem B5{K:wb}{H:Hp}{Q:VK}{E:XK}{ra rb:Rat}{xs:List Rat}{v:V}(h:Is K H v (aZ ra rb xs))(ok:cT ra rb xs)(qe:jL ra rb xs->∀l H',ag H H'->H' l=some (.lst [.str "long"])->Q (.ref l) H')(q:∀es n w v H',fu ra rb xs es n w->ag H H'->Is K H' v (m6 w (aj (ai ra rb xs n)).length)->Q v H'):MA K [v] H Q E:=⟨_,rfl,ra,rb,xs,h,ok,qe,q⟩
theorem R3(T:Txt K mg a):aP P w K mg base aS 15 a.IS a.Hn z6 (MA K):=by
 refine T.Bm.F.ok rq ?_ ?_;wtm_at "b1"
 refine⟨_,(ak (aB 1 rq.nd jJ)
     (ak (zDl (i:=2) (tb:=λW=>kK (BZ (FE K a) W (pI (lS 0) pQ)) (gD 1)) (th:=λex C=>kK (BY K (pI (l8 (Dh K a ex C) [] E0 (pI (lS 2) pQ)) pQ)) (gD 1)) rfl rfl rq.nd rfl rfl rfl T.UW (λW pn E' hx=>by exact(az (aB 1 rq.nd (zzl (zzP T) (hr.mono (by decide)) rfl T.sA.g T.sA.F.kp T.sA.b hx (ae (pv 0) af))))) (λpn ex C oe hob=>by exact(az (aB 1 rq.nd (dG (ae (zyf (zs0 T) ((hr.marked _).mono (by decide)) ⟨rfl,vS _ (wY.mpr rfl),hob⟩ rfl T.sf.g T.sf.F.kp T.sf.b (ae (pv 2) af)) af))))))
     (az (aF (pv 1))))),?_⟩
 wtm_at "cl";rw[show start Rt [x0]=[some x0,none,none]from rfl];obtain⟨ra,rb,xs,h1,ok,qe,q⟩:=h;o_head ZC (λσ' C o H'=>σ'=[some x0,some .bX,none]/\C=.ref a.cS/\ag H H' /\ ∀l H',ag H H'->H' l=some (.lst [.str "long"])->Q (.ref l) H') ?_ ?_
 . k_few
   refine zAY h1 ok (λz H' S=>⟨rfl,rfl,S,qe z⟩) (λes n w v H' P S hv=>?_);k_few;exact q es n w v H' P S hv
 . rintro σ' C o H' ⟨rfl,rfl,S0,qe⟩
   refine⟨T.U2,λex hex=>?_⟩;o_head zsM (w:="long") (by first | exact .inr ⟨rfl,rfl⟩ | exact .inr (.inr ⟨rfl,rfl⟩)) (λH1 S1=>?_);wtm_at "ga";rename_i l H2 n2 S2 e2;exact qe l H2 (S0.trans (S1.trans S2)) e2
def R1(K:wb):Sp:=λvs H Q _=>∃x0 x1,vs=[x0,x1] /\ ∃(p:we)(k:Int)(n:Nat),x0=.ref p/\x1=.int (n:Int)/\b8 H p k/\k<=1000/\n<=8 /\ ∀(l:we)(H':Hp)(ns:List Int),H l=none->Exc p H H'->bE H H'->b8 H' p (k+8)->H' l=some (.lst (ns.map V.int))->ns.Perm (bD n)->Q (.ref l) H'
theorem zqC{K:wb}{H:Hp}{Q:VK}{E:XK}{p:we}{k:Int}{n:Nat}(h:b8 H p k)(hk:k<=1000)(h8:n<=8)(q:∀(l:we)(H':Hp)(ns:List Int),H l=none->Exc p H H'->bE H H'->b8 H' p (k+8)->H' l=some (.lst (ns.map V.int))->ns.Perm (bD n)->Q (.ref l) H'):R1 K [.ref p,.int (n:Int)] H Q E:=⟨_,_,rfl,p,k,n,rfl,rfl,h,hk,h8,q⟩
theorem Td(n:Nat):(bD n).length=n:=by simp[bD]
theorem Az:∀(ls:List Int)(j:Nat),(ls.map V.int).eraseIdx j=(ls.eraseIdx j).map V.int
 | [],_=>rfl
 | x::ls,0=>rfl
 | x::ls,j+1=>by rw[va,qN,qN,va,Az ls j]
theorem DM(ls:List Int){j:Nat}(hj:j<ls.length):(ls[j]::ls.eraseIdx j).Perm ls:=by
 induction ls generalizing j with
 | nil=>exact absurd hj (Qe _)
 | cons x ls ih =>
  cases j with
  | zero=>exact .refl _
  | succ j =>
   rw[qN,Vn];exact(Xd.swap _ _ _).trans ((ih (Vm hj)).cons x)
theorem zqV(T:Txt K mg a):aP P w K mg base aS 2 a.IG a.Ha AU (R1 K):=by
 refine T.HB.F.ok C8 ?_ ?_;wtm_at "b2"
 refine⟨_,(ak (kz (i:=2) C8.nd rfl (Or.inl rfl) rfl (cv.by (N':=["_law_worm"]) (src:=[none]) rfl (show cN _ (aA Aj).names BJ ["_law_worm"] [none]=true from by decide +kernel)) (jW rfl T.z_range (ae (pv 1) af)) (λ_ _ _ _ _=>(bM (i:=0) (show(["_law_worm"]:List Str).Nodup from by decide) rfl (Or.inl rfl))) (λ_ _ _ _ _=>du) (λ_ _ _ _ _=>(pv 0)))
     (ak (aB 3 C8.nd (dG af))
     (ak (mf vD (bY (show aJ _ (wN .NotEq) (df K)from fh hu) (pv 2) (dG af) (bA _)) (az (kj (jz vU Wa Wb jH (pv 3) (ae (jz vU PySem.F.slot_list_pop PySem.F.type_list_pop zy3 (pv 2) (ae (au (eH T) hr T.dY (ae (pv 0) (ae (br (show aN _ (.builtin "len") (cF K)from dy) rfl T.z_len dA (ae (pv 2) af)) af))) af)) af)))))
     (az (aF (pv 3)))))),?_⟩
 wtm_at "cl";rw[show start BJ [x0,x1]=[some x0,some x1,none,none]from rfl];obtain⟨p,k,n,rfl,rfl,hp,hk,h8,q⟩:=h;o_head Ro (n:=(n:Int)) (by omega) (by omega) (o0:=none) (tl:=[]) rfl (λj y _=>y=.int (j:Int)) ?_ ?_
 . intro D j ys o H1 hj inv
   k_few;exact dR inv (by omega) (λ_ _ _ _ _ h=>h) ⟨_,rfl⟩ (ag.refl _) rfl
 . intro ll ys H1 n1 S1 e1 l1 r1
   rw[wU]at l1
   have ey:ys=(bD n).map V.int:=by
     refine Wg (by rw[l1];simp[bD]) λi h1 h2=>?_
     rw[r1 i ys[i] (wc h1)];simp[bD]
   subst ey;have P1:=hp.same S1;have jy:ll≠p:=b8.ne n1 hp;o_head fW (by simp) (λlf H2 n2 S2 e2=>?_);have P2:=P1.same S2;have el2:=S2 _ _ e1;have nfp:lf≠p:=b8.ne n2 P1;have nfl:lf≠ll:=λz=>by subst z;rw[e1]at n2;cases n2
   o_head oY (λm σ' H'=>σ'=[some (.ref p),some (.int (n:Int)),some (.ref ll),some (.ref lf)]/\(∀b o,b≠p->b≠ll->b≠lf->H2 b=some o->H' b=some o)/\bE H2 H'/\b8 H' p (k+n-m) /\ ∃ls ds:List Int,H' ll=some (.lst (ls.map V.int))/\H' lf=some (.lst (ds.map V.int))/\ls.length=m/\(ds++ls).Perm (bD n)) n ⟨rfl,λ_ _ _ _ _ h=>h,bE.refl _,P2.le (by omega),bD n,[],el2,e2,Td n,.refl _⟩ ?_;rintro m σ' H3 ⟨rfl,X3,K3,P3,ls,ds,el,ed,hm,pm⟩
   have htl:ds.length+ls.length=n:=by
     have:=pm.length_eq;rw[wX,Td]at this;exact this
   o_head fW (by simp) (λl4 H4 n4 S4 e4=>?_);have el4:=S4 _ _ el;have ed4:=S4 _ _ ed;have P4:=P3.same S4;refine zzc (mB el4) (cj.mpr ⟨l4,[],rfl,.of e4,.nil⟩) (yy ls) (by decide) ?_;rw[show(!(ls.map PyData.int).isEmpty) = !ls.isEmpty by cases ls<;>rfl];cases hls:ls with
   | nil =>
     subst hls;rw[Wc]at pm;rw[show(!([]:List Int).isEmpty)=false from rfl];o_head q lf H4 ds (mZ S1 n2) (λb o hb h=>?_) (S1.keep.trans (S2.keep.trans (K3.trans S4.keep))) (P4.le (by omega)) ed4 pm;have h1:=S1 _ _ h;exact S4 _ _ (X3 b o hb (λz=>by subst z;rw[n1]at h;cases h) (λz=>by subst z;rw[n2]at h1;cases h1) (S2 _ _ h1))
   | cons x0 xl =>
     rw[show(!(x0::xl).isEmpty)=true from rfl];have hp0:0<ls.length:=by rw[hls];simp
     clear hls;o_head oZ ?_;o_head ig (aO.of ed4) ?_;o_head ig (aO.of el4) ?_;o_head iB (aO.of el4) ?_;rw[wo];k_few;rename_i r H5 r0 r1 E5 K5 P5;have el5:=E5.at jy el4;have ed5:=E5.at nfp ed4;refine zyk el5 r0 (by rw[wo];exact r1) (by rw[wo];omega) (λy H6 hy E6 e6=>?_);have hr:r.toNat<ls.length:=by omega
     rw[wu,wc hr]at hy;cases hy;have K6:=E6.keep el5;have ed6:=E6 _ _ nfl ed5;rw[Az]at e6;o_head iS ed6 (by rw[wo];omega) (λH7 E7 e7=>?_);have K7:=E7.keep ed6
     have P7:b8 H7 p (k+n-((m-1:Nat):Int)):=by
       obtain⟨x,y,z,e,h1,h2⟩:=P5;exact⟨x,y,z,E7 p _ (Wj nfp) (E6 p _ (Wj jy) e),h1,by omega⟩
     o_head ⟨m-1,by omega,rfl,λb o h1 h2 h3 h=>E7 b o h3 (E6 b o h2 (E5 b o h1 (S4 b o (X3 b o h1 h2 h3 h)))),K3.trans (S4.keep.trans (K5.trans (K6.trans K7))),P7,ls.eraseIdx r.toNat,ds++[ls[r.toNat]],E7 _ _ (Wj nfl) e6,by rw[vK];exact e7,by rw[List.length_eraseIdx_of_lt hr,hm],?_⟩;rw[V5];exact(xr ds (DM ls hr)).trans pm
section
variable{ns:List Int}{n:Nat}
theorem nF(pm:ns.Perm (bD n)){w:Nat}(hw:w<n):ns.idxOf (w:Int)<n:=by
 have:=WK.mpr (rm pm hw);rw[(kA pm).1]at this;exact this
theorem zEw(pm:ns.Perm (bD n)){w:Nat}(hw:w<n):ns.getD (ns.idxOf (w:Int)) 0=(w:Int):=by
 have h:=WK.mpr (rm pm hw);rw[wa,wc h];exact VX h
theorem nB(pm:ns.Perm (bD n)){w:Nat}(hw:w<n):ns.idxOf (ns.getD w 0)=w:=by
 have h:w<ns.length:=by rw[(kA pm).1];exact hw
 rw[wa,wc h];exact Oh (PF pm) h
theorem y_(pm:ns.Perm (bD n)){w:Nat}(hw:w<n):(ns.getD w 0).toNat<n/\((ns.getD w 0).toNat:Int)=ns.getD w 0:=by
 obtain⟨b,e,hb⟩:=Y0 pm hw;rw[e]
 simpa using hb
def cq(n:Nat)(ns:List Int)(wave:List Nat):List Nat:=(wx n).filter λw=>decide (ns.idxOf (w:Int)∈wave)
theorem pW{wave:List Nat}{w:Nat} : w∈cq n ns wave ↔ w<n/\ns.idxOf (w:Int)∈wave:=by
 unfold cq;rw[vd,wD,decide_eq_true_eq]
theorem zAf:cq n ns []=[]:=by
 unfold cq;rw[qU];intro w _;simp
theorem zB0(pm:ns.Perm (bD n)){wave:List Nat}(h:wave≠[])(hl:∀w∈wave,w<n):cq n ns wave≠[]:=by
 obtain⟨x,hx⟩:=List.exists_mem_of_ne_nil _ h;have hx':=hl x hx;obtain⟨h1,h2⟩:=y_ pm hx';have:(ns.getD x 0).toNat∈cq n ns wave:=pW.mpr ⟨h1,by rw[h2,nB pm hx'];exact hx⟩;intro e;rw[e]at this;cases this
def zEz(n:Nat)(ns:List Int)(g g':List Nat):Prop:=∀w,w<n->(w∈g' ↔ ns.idxOf (w:Int)∈g)
theorem Ay(wave:List Nat):zEz n ns wave (cq n ns wave):=λw hw=>by
 rw[pW];exact⟨λh=>h.2,λh=>⟨hw,h⟩⟩
end
section
variable{rs ns ps cs:List Int}{us ts ts' cm:List (List Int)}
end
theorem zut(n:Nat)(ns:List Int)(wave:List Nat):((cq n ns wave).map λ(w:Nat)=>(w:Int)).Pairwise (· <= ·):=by
 rw[WN];exact(qV.filter _).imp λ{x y} h=>by omega
theorem Sa(n:Nat)(ns:List Int)(wave:List Nat):(cq n ns wave).Nodup:=Wu.filter _
theorem TY{n:Nat}{ns:List Int}{wave:List Nat}(pm:ns.Perm (bD n))(nd:wave.Nodup)(hl:∀w∈wave,w<n):((cq n ns wave).map λ(w:Nat)=>(w:Int)).Perm (wave.map λw=>ns.getD w 0):=by
 refine Ng ?_ ?_ λz=>?_
 ·unfold xH
  rw[WN];exact(Sa n ns wave).imp λ{x y} h e=>h (by omega)
 ·unfold xH
  rw[WN];refine(uP.mp nd).imp λ{x y} h e=>?_
  obtain⟨hx,hy,ne⟩:=h;exact ne (by rw[<- nB pm (hl x hx),<- nB pm (hl y hy),e])
 ·rw[wO,wO]
  constructor
  ·rintro ⟨w,hw,rfl⟩
   obtain⟨h1,h2⟩:=pW.mp hw;exact⟨_,h2,zEw pm h1⟩
  ·rintro ⟨w,hw,rfl⟩
   obtain⟨h1,h2⟩:=y_ pm (hl w hw);exact⟨_,pW.mpr ⟨h1,by rw[h2,nB pm (hl w hw)];exact hw⟩,h2⟩
def OJ(K:wb):Sp:=λvs H Q _=>∃x0 x1,vs=[x0,x1] /\ ∃(xs:List Rat)(l:we)(ns:List Int),((∃lx us,x0=.ref lx/\H lx=some (.lst us)/\av K H us (xs.map N))\/Is K H x0 (TN xs))/\x1=.ref l/\H l=some (.lst (ns.map V.int))/\ns.Perm (bD xs.length)/\xs.length<=8 /\ ∀v H',ag H H'->Is K H' v (TN (aY 0 ns xs))->Q v H'
theorem F5{K:wb}{H:Hp}{Q:VK}{E:XK}{xs:List Rat}{l:we}{ns:List Int}{v:V}(h:(∃lx us,v=.ref lx/\H lx=some (.lst us)/\av K H us (xs.map N))\/Is K H v (TN xs))(hl:H l=some (.lst (ns.map V.int)))(pm:ns.Perm (bD xs.length))(h8:xs.length<=8)(q:∀v H',ag H H'->Is K H' v (TN (aY 0 ns xs))->Q v H'):OJ K [v,.ref l] H Q E:=⟨_,_,rfl,xs,l,ns,h,rfl,hl,pm,h8,q⟩
theorem Dm(T:Txt K mg a):aP P w K mg base aS 1 a.GO a.Gj Ao (OJ K):=by
 refine T.r_.F.ok Ef ?_ ?_;wtm_at "b2"
 refine⟨_,(ak (kz (i:=2) Ef.nd rfl (Or.inl rfl) rfl (cv.by (N':=["_law_worm"]) (src:=[none]) rfl (show cN _ (aA yI).names EU ["_law_worm"] [none]=true from by decide +kernel)) (gO (pv 1)) (λ_ _ _ _ _=>(bM (i:=0) (show(["_law_worm"]:List Str).Nodup from by decide) rfl (Or.inl rfl))) (λ_ _ _ _ _=>du) (λ_ _ _ _ _=>jJ))
     (ak (gA vD rfl (jW rfl T.z_range (ae (br (show aN _ (.builtin "len") (cF K)from dy) rfl T.z_len dA (ae (pv 1) af)) af)) (bM (i:=3) Ef.nd rfl (Or.inl rfl)) (az (oq (dr cX (pv 0) (pv 3) (λ_ _=>rfl)) (mM (pv 2) (dr cX (pv 1) (pv 3) (λ_ _=>rfl)) nA))))
     (az (aF (dg (show aN _ (.type "tuple") (dJ K)from eP) rfl T.z_tuple dk (ae (pv 2) af)))))),?_⟩
 wtm_at "cl";rw[show start EU [x0,x1]=[some x0,some x1,none,none]from rfl];obtain⟨xs,l,ns,hx',rfl,hl,pm,h8,q⟩:=h;have nl:=(kA pm).1;o_head jT (.of hl) (o0:=none) (tl:=[]) rfl (λj y _=>y=.bX) ?_ ?_
 . intro D j x ys o H1 hx inv
   have:=kE hx;rw[wo]at this;k_few;exact dR inv (by omega) (λ_ _ _ _ _ h=>h) ⟨_,rfl⟩ (ag.refl _) rfl
 . intro D ys H1 n1 S1 e1 l1 _
   rw[wo]at l1;have hl1:=S1 _ _ hl;have nlD:l≠D:=λz=>by subst z;rw[hl]at n1;cases n1
   have hx1:(∃lx us,x0=.ref lx/\lx≠D/\H1 lx=some (.lst us)/\av K H1 us (xs.map N))\/Is K H1 x0 (TN xs):=by
     rcases hx' with⟨lx,us,e,hx,t⟩ | h
     . exact .inl ⟨lx,us,e,(λz=>by subst z;rw[hx]at n1;cases n1),S1 _ _ hx,av.same S1 _ _ t⟩
     . exact .inr (h.by S1)
   o_head iB (aO.of hl1) ?_;rw[wo];o_head lO (by omega) (by omega) (λi σ H'=>∃o3 us,σ = [some x0,some (.ref l),some (.ref D),o3]/\Exc D H1 H'/\H' D=some (.lst us)/\us.length=xs.length /\ ∀w,w<xs.length->ns.idxOf (w:Int)<i->∃v,us[w]? = some v/\Is K H' v (N (xs.getD (ns.idxOf (w:Int)) 0))) ⟨_,ys,rfl,Exc.refl _ _,e1,by omega,λw _ h=>by omega⟩ ?_ ?_
   . rintro i σ H2 hi ⟨o3,us,rfl,E2,e2,hul,hw⟩
     have hi:i<ns.length:=by omega
     have hix:i<xs.length:=by omega
     have hl2:=E2.at nlD hl1
     have hx2:∀{Q':VK},(∀v,Is K H2 v (N (xs.getD i 0))->Q' v H2)->c6 K x0 (.int (i:Int)) H2 Q':=λq'=>by
       rcases hx1 with⟨lx,ux,rfl,nx,hx,t⟩ | h
       . exact kI (dE (E2.at nx hx) (av.keep (E2.keep e1) _ _ (eO _) t)) (by omega) (by omega) (λv iv=>q' v (by rw[wU]at iv;exact iv))
       . exact KW (h.fj (E2.keep e1) (rn _)) (by omega) (by omega) (λv iv=>q' v (by rw[wU]at iv;exact iv))
     obtain⟨pl,pe⟩:=y_ pm hix;have qn:=nB pm hix;o_head hx2 (λv3 i3=>?_);o_head iF (v:=.int (ns.getD i 0)) (.of hl2) (ke ?_) ?_
     . rw[wu,wc hi,wa,wc hi]
       rfl
     o_head pS (j:=(ns.getD i 0).toNat) e2 (by unfold gg;rw[if_pos (by omega),if_pos (by omega)]) (λH4 E4 e4=>?_);have K4:=E4.keep e2;o_head ⟨_,_,rfl,E2.trans E4,e4,by rw[WP];exact hul,λw hw1 hw2=>?_⟩
     by_cases hwj:w=(ns.getD i 0).toNat
     . refine⟨v3,?_,?_⟩
       . rw[hwj,qQ (by omega)]
       . rw[hwj,pe,qn]
         exact i3.gT K4
     . have ne:ns.idxOf (w:Int)≠i:=λz=>hwj (by
         have:=VX (WK.mpr (rm pm hw1))
         have e5:ns.getD i 0=(w:Int):=by
           rw[wa,wc hi];subst z;exact this
         rw[e5];rfl)
       obtain⟨v,ev,iv⟩:=hw w hw1 (by omega);exact⟨v,by rw[qc (Wj hwj)];exact ev,iv.gT K4⟩
   . rintro σ H2 ⟨o3,us,rfl,E2,e2,hul,hw⟩
     have t2:av K H2 us ((aY 0 ns xs).map N):=g_ (by rw[lX,hul]) λj x hx=>by
       have hj:j<xs.length:=by rw[<- hul];exact kE hx
       obtain⟨v,ev,iv⟩:=hw j hj (by have:=nF pm hj;omega);rw[hx]at ev;cases ev;rw[sO pm rfl hj];exact iv
     o_head gY (dE e2 t2) (λv H3 S3 i3=>?_);exact q v H3 ((S1.grow n1 E2).trans S3) i3
def M1(K:wb):Sp:=λvs H Q _=>∃x0 x1,vs=[x0,x1] /\ ∃(wave:List Nat)(l:we)(ns:List Int)(n:Nat),Is K H x0 (TW wave)/\x1=.ref l/\H l=some (.lst (ns.map V.int))/\ns.Perm (bD n)/\n<=8/\wave.Nodup/\(∀x∈wave,x<n) /\ ∀v H',ag H H'->Is K H' v (TW (cq n ns wave))->Q v H'
theorem Pr{K:wb}{H:Hp}{Q:VK}{E:XK}{wave:List Nat}{l:we}{ns:List Int}{n:Nat}{v:V}(h:Is K H v (TW wave))(hl:H l=some (.lst (ns.map V.int)))(pm:ns.Perm (bD n))(h8:n<=8)(nd:wave.Nodup)(wl:∀x∈wave,x<n)(q:∀v H',ag H H'->Is K H' v (TW (cq n ns wave))->Q v H'):M1 K [v,.ref l] H Q E:=⟨_,_,rfl,wave,l,ns,n,h,rfl,hl,pm,h8,nd,wl,q⟩
theorem Kp(T:Txt K mg a):aP P w K mg base aS 1 a.G5 a.Gy u4 (M1 K):=by
 refine T.Be.F.ok zmt ?_ ?_;wtm_at "b2";refine⟨_,(az (aF (dg (show aN _ (.type "tuple") (dJ K)from eP) rfl T.z_tuple dk (ae (br (show aN _ (.builtin "sorted") (y9 K)from Mi) rfl T.z_sorted Mx (ae (eh rfl (cv.by (N':=["_law_worm","_law_order_here"]) (src:=[none,some 1]) rfl (show cN _ (aA sX).names yk ["_law_worm","_law_order_here"] [none,some 1]=true from by decide +kernel)) (iW (pv 0)) (λ_ _ _ _ _=>(bM (i:=0) (show(["_law_worm","_law_order_here"]:List Str).Nodup from by decide) rfl (Or.inl rfl))) (λ_ _ _ _ _=>du) (λ_ _ _ _ _=>(dr (show gf _ (c6 K)from cX) (pv 1) (pv 0) (λ_ _=>rfl)))) af)) af)))),?_⟩;wtm_at "cl";rw[show start yk [x0,x1]=[some x0,some x1]from rfl];obtain⟨wave,l,ns,n,ix,rfl,hl,pm,h8,nd,wl,q⟩:=h;have nl:=(kA pm).1;have wn:=GM.Iy n wave nd wl;obtain⟨b1,rfl,sq⟩:=mq.mp ix;o_head iD sq (o0:=none) (tl:=[some (.ref l)]) rfl (λm y _=>y=.int (ns.getD (wave.getD m 0) 0)) ?_ ?_
 ·intro D2 m x ys2 o2 H2 hx2 inv2
  obtain⟨hm,rfl⟩:=L2.int_at hx2;rw[wo]at hm
  have ew:(wave.map λ(w:Nat)=>(w:Int)).getD m 0=((wave.getD m 0:Nat):Int):=by
   rw[wa,wu,wc hm,wa,wc hm]
   rfl
  rw[ew];have hw2:wave.getD m 0<n:=wl _ (by rw[wa,wc hm];exact vt hm);o_head iF (v:=.int (ns.getD (wave.getD m 0) 0)) (.of (inv2.2.2.1 _ _ hl)) (ke ?_) ?_
  ·rw[wu,wc (show wave.getD m 0<ns.length by omega),wa (l:=ns),wc (show wave.getD m 0<ns.length by omega)]
   rfl
  k_few;exact dR inv2 (by omega) (λ_ _ _ _ _ h=>h) ⟨_,rfl⟩ (ag.refl _) rfl
 ·intro D2 ys2 H2 n2 S2 e2 l2 r2
  have ey:ys2=(wave.map λw=>ns.getD w 0).map V.int:=by
   refine Wg (by rw[l2];simp) λi h1 h2=>?_
   rw[r2 i ys2[i] (wc h1)];rw[wo,wo]at h2;simp[wa,wc h2]
  subst ey;o_head PD (.of e2) (by rw[wo];omega) (λl3 H3 ms n3 S3 e3 pm3 so3=>?_);have em:=FO (pm3.trans (TY pm nd wl).symm) so3 (zut n ns wave);subst em;o_head nT (.of e3) (λl4 H4 n4 S4 e4=>?_);exact q _ H4 (S2.trans (S3.trans S4)) (mq.mpr ⟨l4,rfl,.of e4⟩)
section
variable{ns:List Int}{n:Nat}
structure PR(n:Nat)(ns:List Int)(ps ps':List Rat):Prop where
 l:ps.length=n
 l':ps'.length=n
 g:∀w,w<n->ps'.getD w 0=ps.getD (ns.idxOf (w:Int)) 0
theorem zxo(pm:ns.Perm (bD n)):cq n ns (wx n)=wx n:=by
 unfold cq;rw[Qj];intro w hw;exact decide_eq_true (wD.mpr (nF pm (wD.mp hw)))
theorem zz9{ps ps':List Rat}{left:List Nat}(r:PR n ns ps ps'):aE ps' (cq n ns left)=cq n ns (aE ps left):=by
 unfold aE cq;rw[W0];refine vn λw hw=>?_
 rw[r.g w (wD.mp hw)]
 by_cases h1:ns.idxOf (w:Int)∈left<;>by_cases h2:ps.getD (ns.idxOf (w:Int)) 0<1<;>simp[h1,h2]
theorem zyI{left wave:List Nat} : bG (cq n ns left) (cq n ns wave)=cq n ns (bG left wave):=by
 unfold bG;have e:cq n ns (left.filter λw=>!decide (w∈wave))=(wx n).filter λ(w:Nat)=>decide (ns.idxOf (w:Int)∈left.filter λv=>!decide (v∈wave)):=rfl
 rw[e]
 conv=>lhs;arg 2;unfold cq
 rw[W0];refine vn λw hw=>?_
 have h3:w∈cq n ns wave ↔ ns.idxOf (w:Int)∈wave:=Ay wave w (wD.mp hw)
 by_cases h1:ns.idxOf (w:Int)∈left<;>by_cases h2:ns.idxOf (w:Int)∈wave<;>simp[h1,h2,h3]
theorem M_(pm:ns.Perm (bD n)){wave:List Nat}(nd:wave.Nodup)(hl:∀w∈wave,w<n):(cq n ns wave).length=wave.length:=by
 have:=(TY pm nd hl).length_eq
 simpa using this
theorem PR.push{ps ps':List Rat}{l:List Nat}(pm:ns.Perm (bD n))(r:PR n ns ps ps')(nd:l.Nodup)(hl:∀w∈l,w<n)(f g:Rat):PR n ns (cC f g ps l) (cC f g ps' (cq n ns l)):=by
 refine⟨by rw[gn];exact r.l,by rw[gn];exact r.l',λw hw=>?_⟩;rw[ik f g _ _ (Sa n ns l) (λv hv=>by rw[r.l'];exact(pW.mp hv).1),ik f g _ _ nd (λv hv=>by rw[r.l];exact hl v hv),r.g w hw]
 by_cases h:ns.idxOf (w:Int)∈l
 ·rw[if_pos h,if_pos ((Ay l w hw).mpr h)]
 ·rw[if_neg h,if_neg λy=>h ((Ay l w hw).mp y)]
theorem NR(pm:ns.Perm (bD n)){a b:Rat} : ∀(m:Nat){ps ps':List Rat}{left:List Nat},Rg n left->PR n ns ps ps' ->
  (cb a b m ps' (cq n ns left)).1=(cb a b m ps left).1.map (cq n ns)/\(cb a b m ps' (cq n ns left)).2.1=cq n ns (cb a b m ps left).2.1/\PR n ns (cb a b m ps left).2.2 (cb a b m ps' (cq n ns left)).2.2
 | 0,ps,ps',left,_,r=>⟨rfl,rfl,r⟩
 | m+1,ps,ps',left,h,r=>by
  have e:=zz9 (left:=left) r
  by_cases z:aE ps left=[]
  ·rw[jr z,jr (by rw[e,z,zAf])]
   exact⟨rfl,rfl,r⟩
  ·have hw:Rg n (aE ps left):=h.filter _
   have hl:=M_ pm hw.nodup hw.lt;have hf:=h.bG (aE ps left);rw[gF z,gF (by rw[e];exact zB0 pm z hw.lt),e,hl,zyI];have ih:=NR pm m (a:=a) (b:=b) hf (r.push pm hf.nodup hf.lt (a^(aE ps left).length) (aG a b (aE ps left).length));refine⟨?_,ih.2.1,ih.2.2⟩;rw[va,ih.1]
theorem pU(pm:ns.Perm (bD n)){xs:List Rat}(hx:xs.length=n){x:Rat} : x∈aY 0 ns xs ↔ x∈xs:=by
 rw[PH pm hx,wO]
 constructor
 ·rintro ⟨w,hw,rfl⟩
  exact GM.getD_mem (by rw[hx];exact nF pm (wD.mp hw))
 ·intro h
  obtain⟨i,hi,rfl⟩:=zxY (0:Rat) h;have hi:i<n:=by omega
  obtain⟨h1,h2⟩:=y_ pm hi;exact⟨_,wD.mpr h1,by rw[h2,nB pm hi]⟩
theorem Ox(pm:ns.Perm (bD n)){xs:List Rat}(hx:xs.length=n)(h1:1<=n):b_ (aY 0 ns xs)=b_ xs:=by
 refine ua ?_ ?_
 ·exact uT _ ((pU pm hx).mp (fV (by rw[lX,hx];exact h1)))
 ·exact uT _ ((pU pm hx).mpr (fV (by rw[hx];exact h1)))
theorem C1(pm:ns.Perm (bD n)){a b:Rat}{xs:List Rat}(hx:xs.length=n)(h1:1<=n):cf a b (aY 0 ns xs)=(cf a b xs).map (cq n ns)/\cQ a b (aY 0 ns xs)=aY 0 ns (cQ a b xs):=by
 have lp:(aY 0 ns xs).length=n:=by rw[lX];exact hx
 have r:PR n ns (bK xs) (bK (aY 0 ns xs)):=by
  refine⟨by rw[eW];exact hx,by rw[eW];exact lp,λw hw=>?_⟩;unfold bK;rw[nN (by rw[lp];exact hw),nN (by rw[hx];exact nF pm hw),Ox pm hx h1,sO pm hx hw]
 obtain⟨e1,e2,r2⟩:=NR pm (a:=a) (b:=b) n (Rg.range n) r;rw[zxo pm]at e1 e2 r2;refine⟨?_,?_⟩
 ·unfold cf dW
  rw[lp,hx];exact e1
 ·rw[PH pm (xs:=cQ a b xs) (by rw[ja];exact hx)]
  unfold cQ dW;rw[lp,hx]
  conv=>lhs;unfold iM
  rw[r2.l'];refine qq λw hw=>?_
  have hw:=wD.mp hw;have hq:=nF pm hw;rw[mw (by rw[r2.l];exact hq),r2.g w hw,e2];have h3:=Ay (n:=n) (ns:=ns) (cb a b n (bK xs) (wx n)).2.1 w hw
  by_cases h:ns.idxOf (w:Int)∈(cb a b n (bK xs) (wx n)).2.1
  ·rw[if_pos h,if_pos (h3.mpr h)]
  ·rw[if_neg h,if_neg λy=>h (h3.mp y)]
theorem fY(pm:ns.Perm (bD n)){a b:Rat}{xs:List Rat}(hx:xs.length=n)(h1:1<=n):∀k,ai a b (aY 0 ns xs) k=aY 0 ns (ai a b xs k)/\aM a b (aY 0 ns xs) k=aM a b xs k
 | 0=>⟨rfl,rfl⟩
 | k+1=>by
  obtain⟨i1,i2⟩:=fY pm (a:=a) (b:=b) hx h1 k;have hk:(ai a b xs k).length=n:=by rw[bj];exact hx
  refine⟨?_,?_⟩
  ·rw[ai,i1]
   exact(C1 pm hk h1).2
  ·rw[aM,i1,i2,Ox pm hk h1]
   rfl
end
theorem Oo{n:Nat}{a b:Rat} : ∀(m:Nat){ps:List Rat}{left:List Nat},Rg n left->(cb a b m ps left).1.length<=m /\ ∀w∈(cb a b m ps left).1,w.Nodup /\ ∀x∈w,x<n
 | 0,ps,left,_=>⟨wq _,λw hw=>by cases hw⟩
 | m+1,ps,left,h=>by
  by_cases z:aE ps left=[]
  ·rw[jr z]
   exact⟨by simp,λw hw=>by cases hw⟩
  ·rw[gF z]
   have hw:Rg n (aE ps left):=h.filter _;obtain⟨i1,i2⟩:=Oo m (a:=a) (b:=b) (ps:=cC (a^(aE ps left).length) (aG a b (aE ps left).length) ps (bG left (aE ps left))) (h.bG (aE ps left));refine⟨by rw[vP];omega,λw hw'=>?_⟩;rcases wL.mp hw' with rfl | hw'
   ·exact⟨hw.nodup,hw.lt⟩
   ·exact i2 w hw'
theorem zBf(a b:Rat)(xs:List Rat):(cf a b xs).length<=xs.length /\ ∀w∈cf a b xs,w.Nodup /\ ∀x∈w,x<xs.length:=Oo _ (Rg.range _)
def RJ(K:wb):Sp:=λvs H Q _=>∃x0 x1,vs=[x0,x1] /\ ∃(a b:Rat)(xs:List Rat)(l:we)(ns:List Int)(k:Nat),Is K H x0 (.list (eS a b xs k))/\x1=.ref l/\H l=some (.lst (ns.map V.int))/\ns.Perm (bD xs.length)/\1<=xs.length/\xs.length<=8/\k<=40 /\ ∀l' H',ag H H'->Is K H' (.ref l') (.list (eS a b (aY 0 ns xs) k))->Q (.ref l') H'
theorem zoq{K:wb}{H:Hp}{Q:VK}{E:XK}{a b:Rat}{xs:List Rat}{l:we}{ns:List Int}{k:Nat}{v:V}(h:Is K H v (.list (eS a b xs k)))(hl:H l=some (.lst (ns.map V.int)))(pm:ns.Perm (bD xs.length))(h1:1<=xs.length)(h8:xs.length<=8)(hk:k<=40)(q:∀l' H',ag H H'->Is K H' (.ref l') (.list (eS a b (aY 0 ns xs) k))->Q (.ref l') H'):RJ K [v,.ref l] H Q E:=⟨_,_,rfl,a,b,xs,l,ns,k,h,rfl,hl,pm,h1,h8,hk,q⟩
theorem zos(T:Txt K mg a):aP P w K mg base aS 2 a.Hl a.GC yz (RJ K):=by
 refine T.GP.F.ok nJ ?_ ?_;wtm_at "b2"
 refine⟨_,(ak (aB 2 nJ.nd (dG af))
     (ak (gA vD rfl (gO (pv 0)) (j3 (n:=3) rfl (d5 (bM (i:=3) nJ.nd rfl (Or.inl rfl)) (d5 (bM (i:=4) nJ.nd rfl (Or.inl rfl)) (d5 (bM (i:=5) nJ.nd rfl (Or.inl rfl)) jF)))) (ak (aB 6 nJ.nd (dg (show aN _ (.type "tuple") (dJ K)from eP) rfl T.z_tuple dk (ae (eh rfl (cv.by (N':=["_law_wave","_law_order_here"]) (src:=[none,some 1]) rfl (show cN _ (aA sQ).names F6 ["_law_wave","_law_order_here"] [none,some 1]=true from by decide +kernel)) (iW (pv 4)) (λ_ _ _ _ _=>(bM (i:=0) (show(["_law_wave","_law_order_here"]:List Str).Nodup from by decide) rfl (Or.inl rfl))) (λ_ _ _ _ _=>du) (λ_ _ _ _ _=>(au (Kp (K:=K) (mg:=mg) (a:=a) T) hr T.Be (ae (pv 0) (ae (pv 1) af))))) af)))
     (az (kj (jz vU Wa Wb jH (pv 2) (ae (bL (ae (pv 3) (ae (pv 6) (ae (au (Dm T) hr T.r_ (ae (pv 5) (ae (pv 1) af))) af)))) af))))))
     (az (aF (pv 2))))),?_⟩
 wtm_at "cl";rw[show start F6 [x0,x1]=[some x0,some x1,none,none,none,none,none]from rfl];obtain⟨ra,rb,xs,l,ns,k,hi,rfl,hl,pm,h1,h8,hk,q⟩:=h;obtain⟨ar,us,rfl,hs,tr⟩:=cj.mp hi;have hul:=tr.length;rw[zt]at hul;have exk:=λj=>fY pm (a:=ra) (b:=rb) rfl h1 j
 o_head fW (by simp) (λlf H1 n1 S1 e1=>?_);have hs1:=S1.seq hs;have hl1:=S1 _ _ hl;have nlf:l≠lf:=λz=>by subst z;rw[hl]at n1;cases n1
 o_head FR hs1 (λi σ H'=>∃o3 o4 o5 o6 us',σ = [some (.ref ar),some (.ref l),some (.ref lf),o3,o4,o5,o6]/\ag H H'/\H' lf=some (.lst us')/\us'.length=i /\ ∀j x,us'[j]? = some x->Is K H' x (pC ra rb (aY 0 ns xs) j)) ⟨_,_,_,_,[],rfl,S1,e1,rfl,λj x h=>by simp at h⟩ (λi σ H' _ h=>by obtain⟨_,_,_,_,_,_,S,_⟩:=h;exact S.seq hs) ?_ ?_
 . rintro i x σ H2 hx ⟨o3,o4,o5,o6,us',rfl,S2,e2,hl2,r2⟩
   obtain⟨hi',ix⟩:=gG tr hx;rw[zt]at hi';rw[wa,Kl hi']at ix;have pl:(ai ra rb xs i).length=xs.length:=bj ..;have ix2:Is K H2 x (jA (aM ra rb xs (i+1)) (cf ra rb (ai ra rb xs i)) (ai ra rb xs (i+1))):=ix.by S2;have gi:=zBf ra rb (ai ra rb xs i);rw[pl]at gi;have pl1:(ai ra rb xs (i+1)).length=xs.length:=bj ..
   have goal:pC ra rb (aY 0 ns xs) i=jA (aM ra rb xs (i+1)) ((cf ra rb (ai ra rb xs i)).map (cq xs.length ns)) (aY 0 ns (ai ra rb xs (i+1))):=by
     show jA (aM ra rb (aY 0 ns xs) (i+1)) (cf ra rb (ai ra rb (aY 0 ns xs) i)) (ai ra rb (aY 0 ns xs) (i+1))=_
     rw[(exk (i+1)).1,(exk (i+1)).2,(exk i).1,(C1 pm pl h1).1]
   have hlH:=S2 _ _ hl;generalize cf ra rb (ai ra rb xs i)=ws at *;generalize ai ra rb xs (i+1)=zs at *;generalize aM ra rb xs (i+1)=hh at *;refine DR ix2 rfl (λys t=>?_);obtain⟨vh,r1,rfl,ih,t⟩:=c8.mp t;obtain⟨vw,r3,rfl,iw,t⟩:=c8.mp t;obtain⟨vp,r4,rfl,ip,t⟩:=c8.mp t;rw[fK.mp t];clear t ix ix2;obtain⟨aw,vs,rfl,hsw,tw⟩:=b7.mp iw;have lw:=tw.length;rw[wo]at lw;o_head iD hsw (o0:=none) (tl:=[some (.ref l)]) rfl (λj y H'=>Is K H' y (TW (cq xs.length ns (ws.getD j [])))) ?_ ?_
   . intro D j x ys o H3 hx3 inv
     obtain⟨hj,ix⟩:=gG tw hx3;rw[wo]at hj
     have ix:Is K H2 x (TW (ws.getD j [])):=by
       rw[wa,wu,wc hj]at ix;rw[wa,wc hj];exact ix
     obtain⟨nd,wl⟩:=gi.2 (ws.getD j []) (by rw[wa,wc hj];exact vt hj);have S3:=inv.same;o_head Pr (ix.by S3) (S3 _ _ hlH) pm h8 nd wl (λv4 H4 S4 i4=>?_);exact dR inv (by omega) (λ_ _ _ _ s h=>h.fj s (NQ _)) ⟨_,rfl⟩ S4 i4
   . intro D ys H3 n3 S3 e3 l3 r3
     o_head nT (.of e3) (λl4 H4 n4 S4 e4=>?_)
     have i4:Is K H4 (.ref l4) (iT (ws.map (cq xs.length ns))):=b7.mpr ⟨l4,ys,rfl,.of e4,pN (by rw[l3];simp;omega) λi x hx=>by
       have hi2:i<ws.length:=by rw[<- lw,<- l3];exact(WG.mp hx).1
       have:=(r3 i x hx).by S4;rw[Vq,wa,wu,wc hi2];rw[wa,wc hi2]at this;exact this⟩
     have S24:=S3.trans S4;have e24:=S24 _ _ e2;o_head ig (aO.of e24) ?_;o_head F5 (xs:=zs) (.inr (ip.by S24)) (S24 _ _ hlH) (by rw[pl1];exact pm) (by omega) (λv5 H5 S5 i5=>?_);o_head cy (ds:=[N hh,iT (ws.map (cq xs.length ns)),TN (aY 0 ns zs)]) (by simp) (.cons (ih.by (S24.trans S5)) (.cons (i4.by S5) (.cons i5 .nil))) (λv6 H6 S6 i6=>?_);k_few;have S26:=S24.trans (S5.trans S6);have e6:=S26 _ _ e2;refine iS e6 (by omega) (λH7 E7 e7=>?_);have K7:=E7.keep e6;o_head ⟨_,_,_,_,_,rfl,(S2.trans S26).grow n1 E7,e7,by rw[wX,hl2];rfl,λj x hx9=>?_⟩;rcases wJ j us'.length with hj | hj
     . rw[vO hj]at hx9
       exact((r2 j x hx9).by S26).fj K7 (Aw _ _ _)
     . have hji:j=i:=by
         have:=kE hx9;rw[wX,vT]at this;omega
       subst hji;rw[vf hj,hl2,W5]at hx9;cases hx9;rw[goal];exact i6.fj K7 (Aw _ _ _)
 . rintro σ H2 ⟨o3,o4,o5,o6,us',rfl,S2,e2,hl2,r2⟩
   o_head q lf H2 S2 (cj.mpr ⟨lf,us',rfl,.of e2,pN (by rw[zt];omega) λj x hx=>?_⟩);have hj:=kE hx;rw[wa,Kl (by omega)];exact r2 j x hx
theorem FZ(w:PySem.Str):wI (.str w) (.str w)=true:=by rw[wI];simp
theorem EX(n:Int):wI (.int n) (.int n)=true:=by rw[wI];simp
theorem jn(n:Int):Sh 1 (.int n):=⟨by simp[vM],by simp[WU]⟩
theorem Px(a b:Rat)(xs:List Rat)(es:List (Nat × Nat × Nat))(n:Nat)(w:String):Sh 5 (.list (cR a b xs es n w)):=nG λd hd=>by
 rcases vW.mp hd with z | z
 ·obtain⟨e,_,rfl⟩:=wO.mp z
  refine gI (n:=3) λd hd=>?_
  simp only[wL,Wx,or_false]at hd;rcases hd with rfl | rfl | rfl | rfl
  ·exact(ly _).mono (by decide)
  ·exact(yT _).mono (by decide)
  ·exact(jn _).mono (by decide)
  ·exact(jn _).mono (by decide)
 ·rw[wY.mp z]
  refine gI (n:=3) λd hd=>?_
  simp only[wL,Wx,or_false]at hd;rcases hd with rfl | rfl | rfl
  ·exact(ly _).mono (by decide)
  ·exact(yT _).mono (by decide)
  ·exact(ou (lY _)).mono (by decide)
theorem zy1(a b:Rat)(xs:List Rat)(es:List (Nat × Nat × Nat))(n:Nat)(w:String):wI (.list (cR a b xs es n w)) (.list (cR a b xs es n w))=true:=p0 λd hd=>by
 rcases vW.mp hd with z | z
 ·obtain⟨e,_,rfl⟩:=wO.mp z
  refine ko λd hd=>?_
  simp only[wL,Wx,or_false]at hd;rcases hd with rfl | rfl | rfl | rfl
  ·exact m4 _
  ·exact zX _
  ·exact EX _
  ·exact EX _
 ·rw[wY.mp z]
  refine ko λd hd=>?_
  simp only[wL,Wx,or_false]at hd;rcases hd with rfl | rfl | rfl
  ·exact m4 _
  ·exact zX _
  ·exact FZ _
theorem eY.lw{a b:Rat}{xs:List Rat}(hk:cT a b xs):∀{es:List (Nat × Nat × Nat)}{i n:Nat},eY a b xs i es n->LW a b xs i es n
 | [],_,_,h=>h
 | e::es,i,n,h=>by
  refine⟨h.1,?_,eY.lw hk h.2.2⟩;rcases h.2.1 with⟨e0,er,eg⟩ | ⟨i1,_,R⟩
  ·rw[er,eg]
   exact⟨by omega,by omega,λz=>by omega⟩
  ·have:=R.gN
   have:=(hk.nf i).2;exact⟨R.jd,by omega,λ_=>⟨hk.hp.zero hk.ok.a0 hk.ok.b0 hk.h1 i1,R.free⟩⟩
theorem zt7{a b:Rat}{xs:List Rat}{m n:Nat}(h:m<=n):ck a b xs m<=ck a b xs n:=by
 obtain⟨k,rfl⟩:=Nat.exists_eq_add_of_le h;rw[og];omega
theorem zBe(a b:Rat)(xs:List Rat)(es:List (Nat × Nat × Nat))(n:Nat)(w:String)(j:Nat):cw ((cR a b xs es n w).getD j .none)=true:=by
 have all:∀d∈cR a b xs es n w,cw d=true:=λd hd=>by
  rcases vW.mp hd with z | z
  ·obtain⟨e,_,rfl⟩:=wO.mp z
   exact yJ _ _ _ _
  ·rw[wY.mp z]
   exact R6 _ _ _ _ _
 rw[wa];cases e:(cR a b xs es n w)[j]? with
 | none=>rfl
 | some d=>exact all d (xz e)
theorem Fy(a b:Rat)(xs:List Rat)(es:List (Nat × Nat × Nat))(n:Nat)(w:String):(cR a b xs es n w).length=es.length+1:=by simp[cR]
theorem fu.Yr{a b:Rat}{xs:List Rat}{es:List (Nat × Nat × Nat)}{n:Nat}{w:String}(P:fu a b xs es n w)(ok:cT a b xs):∀i k,i+k<=n->Cm 3500 (aM a b (ai a b xs i) k::ai a b (ai a b xs i) k):=λi k h=>by
 have hnf:=ok.nf n;have s1:=P.sp.1;have s2:=P.sp.2;have:=zt7 (a:=a) (b:=b) (xs:=xs) h;exact ok.j8 (by omega) (by omega)
section
variable{ns:List Int}{n:Nat}{a b:Rat}{xs:List Rat}
theorem ku(pm:ns.Perm (bD n))(hx:xs.length=n):aj (aY 0 ns xs)=aj xs:=Fm (ie _ _) (ie _ _) λy=>⟨λh=>oh ((pU pm hx).mp (jw h)),λh=>oh ((pU pm hx).mpr (jw h))⟩
theorem O7(xs:List Rat)(v:Rat):(d9 xs v).Nodup /\ ∀w∈d9 xs v,w<xs.length:=⟨Wu.filter _,λw h=>wD.mp (vd.mp h).1⟩
theorem Gb(pm:ns.Perm (bD n))(hx:xs.length=n)(v:Rat):d9 (aY 0 ns xs) v=cq n ns (d9 xs v):=by
 unfold d9 cq;rw[lX,hx];refine vn λw hw=>?_
 have hw:=wD.mp hw;have hq:=nF pm hw;rw[sO pm hx hw];simp[hq]
theorem Ar(pm:ns.Perm (bD n))(hx:xs.length=n):bN (aY 0 ns xs)=bN xs:=by
 unfold bN;rw[ku pm hx];refine qq λv _=>?_
 have w:=O7 xs v;rw[Gb pm hx,M_ pm w.1 (by rw[<- hx];exact w.2)]
theorem ym(pm:ns.Perm (bD n))(hx:xs.length=n):bZ (aY 0 ns xs)=bZ xs:=by
 unfold bZ;rw[ku pm hx]
theorem uV(pm:ns.Perm (bD n))(hx:xs.length=n):dw a b (aY 0 ns xs)=dw a b xs:=by
 unfold dw;rw[ku pm hx,Ar pm hx,ym pm hx]
theorem zCf(pm:ns.Perm (bD n))(hx:xs.length=n)(h1:1<=n){r g:Nat}(R:fJ a b xs r g):fJ a b (aY 0 ns xs) r g:=by
 have wl:∀k t,(cf a b (ai a b (ai a b (aY 0 ns xs) k) t)).length=(cf a b (ai a b (ai a b xs k) t)).length:=λk t=>by
  rw[(fY pm hx h1 k).1,(fY pm (xs:=ai a b xs k) (by rw[bj];exact hx) h1 t).1,(C1 pm (by rw[bj,bj];exact hx) h1).1,wo]
 refine⟨R.jd,?_,?_,R.g1,?_,λt ht=>?_,?_⟩
 ·unfold fo
  rw[Ar pm hx,ym pm hx];exact R.free
 ·rw[Ar pm hx,ym pm hx]
  exact R.ends
 ·rw[ku pm hx]
  exact R.gN
 ·rw[wl,ku pm hx]
  exact R.one t ht
 ·rw[wl,ku pm hx]
  exact R.join
theorem sM(pm:ns.Perm (bD n))(hx:xs.length=n)(h1:1<=n):∀{es:List (Nat × Nat × Nat)}{i m:Nat},eY a b xs i es m->eY a b (aY 0 ns xs) i es m
 | [],_,_,h=>h
 | e::es,i,m,h=>by
  have hi:(ai a b xs i).length=n:=by rw[bj];exact hx
  have el:cY a b (aY 0 ns xs) i e.2.1 e.2.2=cY a b xs i e.2.1 e.2.2:=by
   unfold cY;rw[(fY pm hx h1 i).1,ku pm hi]
  refine⟨h.1,?_,by rw[el];exact sM pm hx h1 h.2.2⟩;rcases h.2.1 with z | ⟨z,y,R⟩
  ·exact .inl z
  ·refine .inr ⟨z,?_,?_⟩
   ·rw[(fY pm hx h1 i).1,uV pm hi];exact y
   ·rw[(fY pm hx h1 i).1];exact zCf pm hi h1 R
theorem zxt(pm:ns.Perm (bD n))(hx:xs.length=n)(h1:1<=n)(F:jL a b xs):jL a b (aY 0 ns xs):=by
 obtain⟨es,i,w1,w2,w3,w4⟩:=F;have hi:(ai a b xs i).length=n:=by rw[bj];exact hx
 refine⟨es,i,sM pm hx h1 w1,w2,?_,?_⟩<;>rw[(fY pm hx h1 i).1]
 ·rw[uV pm hi];exact w3
 ·rw[Ar pm hi,ym pm hi];exact w4
theorem Y1(pm:ns.Perm (bD n))(hx:xs.length=n)(h1:1<=n){es es':List (Nat × Nat × Nat)}{m m':Nat}{w w':String}(P:fu a b xs es m w)(P':fu a b (aY 0 ns xs) es' m' w'):es=es'/\m=m'/\w=w':=by
 have hm:(ai a b xs m).length=n:=by rw[bj];exact hx
 have hw:=P.word;have hw':=P'.word;rw[<- uV pm hm,<- (fY pm hx h1 m).1]at hw;obtain⟨e1,e2⟩:=Fj (sM pm hx h1 P.walk) P'.walk P.n1 (by rw[hw];simp) P'.n1 (by rw[hw'];simp);subst e2;rw[hw]at hw';exact⟨e1,rfl,w6 hw'⟩
end
theorem zx9{a b:Rat}{xs ys:List Rat}{es:List (Nat × Nat × Nat)}{n:Nat}{w:String}(h:eY a b xs 0 es n)(e1:1<=es.length)(ne:ys≠xs):wI (.list (cR a b ys es n w)) (.list (cR a b xs es n w))=false:=by
 cases es with
 | nil=>simp at e1
 | cons e es =>
  have e0:e.1=0:=h.1
  show wI (.list (jl a b ys e::_)) (.list (jl a b xs e::_))=false
  unfold jl je;rw[e0,wI,vJ,wI,vJ,vJ];rw[show wI (TN (ai a b ys 0)) (TN (ai a b xs 0))=false by rw[Ax];exact decide_eq_false ne];simp
theorem zDU(a b:Rat)(xs:List Rat):Sh 4 (aZ a b xs):=gI (jE (gI (jE (ly _) (ly _))) ((yT _).mono (by decide)))
theorem zDD(a b:Rat)(xs:List Rat):wI (aZ a b xs) (aZ a b xs)=true:=ko (jE (ko (jE (m4 _) (m4 _))) (zX _))
theorem ztL{a b:Rat}{xs:List Rat}{ns:List Int}(pm:ns.Perm (bD xs.length))(h1:1<=xs.length)(es:List (Nat × Nat × Nat))(n:Nat)(w:String){j:Nat}(hj:j<es.length+1):∃h zs ds,zs.length=xs.length/\1<=ds.length/\ds.length<=2/\(cR a b xs es n w)[j]? = some (.tuple (N h::TN zs::ds))/\(cR a b (aY 0 ns xs) es n w)[j]? = some (.tuple (N h::TN (aY 0 ns zs)::ds)):=by
 rcases wJ j es.length with z | z
 ·refine⟨aM a b xs es[j].1,ai a b xs es[j].1,[.int (es[j].2.1:Int),.int (es[j].2.2:Int)],bj ..,by simp,by simp,by rw[F8 z];rfl,?_⟩
  rw[F8 z,jl,(fY pm rfl h1 _).1,(fY pm rfl h1 _).2]
  rfl
 ·have:j=es.length:=by omega
  subst this;refine⟨aM a b xs n,ai a b xs n,[.str (wV w)],bj ..,by simp,by simp,?_,?_⟩
  ·unfold cR
   rw[vf (by simp)];simp
   rfl
  ·unfold cR oj
   rw[vf (by simp),(fY pm rfl h1 _).1,(fY pm rfl h1 _).2];simp
theorem zDm{a b:Rat}{xs:List Rat}{ns:List Int}(pm:ns.Perm (bD xs.length))(h1:1<=xs.length){es:List (Nat × Nat × Nat)}{n:Nat}{w:String}(P:fu a b xs es n w)(F:jL a b (aY 0 ns xs)):False:=by
 obtain⟨es',i',w1,w2,w3,w4⟩:=F;exact Cc (sM pm rfl h1 P.walk) w1 P.n1 (by rw[(fY pm rfl h1 n).1,uV pm (bj ..),P.word];simp) w2 w3 w4
theorem B9:Sh 2 (.list [.str (wV "long")]):=nG λd hd=>by
 rw[wY.mp hd];exact ou (lY _)
theorem Sg:wI (.list [.str (wV "long")]) (.list [.str (wV "long")])=true:=p0 λd hd=>by
 rw[wY.mp hd];exact FZ _
theorem rQ{K:wb}{H:Hp}{l:we}(h:H l=some (.lst [.str "long"])):Is K H (.ref l) (.list [.str (wV "long")]):=cj.mpr ⟨l,_,rfl,.of h,.cons (eI.mpr rfl) .nil⟩
def sP(K:wb):Sp:=λvs H Q _=>∃x0,vs=[x0] /\ ∃(a:we)(ns:List Int),x0=.ref a/\kh K H a (ns.map V.int)/\ns.length<=63 /\ ∀H',Q (.bl true) H'
theorem zCN(T:Txt K mg a):aP P w K mg base aS 16 a.law a.JK yX (sP K):=by
 refine T.Yy.F.ok gr ?_ ?_;wtm_at "b1"
 refine⟨_,(ak (gA vD rfl (jW rfl T.z_range (ae aD af)) (bM (i:=1) gr.nd rfl (Or.inl rfl)) (ak (aB 2 gr.nd (au (zuJ T) hr T.Io (ae (pv 0) (ae (pv 1) af))))
     (ak (aB 3 gr.nd (au (zmn T) hr T.GB (ae (pv 2) af)))
     (ak (aB 4 gr.nd (au (zoZ T) hr T.G_ (ae (pv 2) (ae aD af))))
     (ak (aB 5 gr.nd (au (zsa T) hr T.HU (ae (pv 3) (ae (pv 4) af))))
     (ak (aB 6 gr.nd (au (zqV T) hr T.HB (ae (pv 2) (ae (br (show aN _ (.builtin "len") (cF K)from dy) rfl T.z_len dA (ae (pv 4) af)) af))))
     (ak (aB 7 gr.nd (dg (show aN _ (.type "list") (k9 K)from pD) rfl T.z_list j5 (ae (pv 6) af)))
     (ak (aB 8 gr.nd (km (ZQ T) hr T.HA rH (ae (pv 5) (ae (pv 7) af))))
     (ak (aB 9 gr.nd (au (eH T) hr T.dY (ae (pv 2) (ae aD af))))
     (ak (bP (PW.pt (ff (bY (show aJ _ (wN .NotEq) (df K)from fh hu) (pv 7) (pv 6) (bA _)) (fO (bY (show aJ _ (wN .NotEq) (df K)from fh hu) (pv 8) (bL (ae (pv 3) (ae (au (Dm T) hr T.r_ (ae (pv 4) (ae (pv 6) af))) af))) (bA _))))) (az (aF d8)) bQ)
     (ak (kz (i:=10) gr.nd rfl (Or.inl rfl) rfl (cv.by (N':=["_law_phase","_law_worms","_law_order_here"]) (src:=[none,none,some 6]) rfl (show cN _ (aA m7).names AQ ["_law_phase","_law_worms","_law_order_here"] [none,none,some 6]=true from by decide +kernel)) (gO (au (rC T) hr T.mI (ae (pv 5) af))) (λ_ _ _ _ _=>by exact(show PG _ _ (iY K 2 _)from j3 (n:=2) rfl (d5 (bM (i:=0) (show(["_law_phase","_law_worms","_law_order_here"]:List Str).Nodup from by decide) rfl (Or.inl rfl)) (d5 (bM (i:=1) (show(["_law_phase","_law_worms","_law_order_here"]:List Str).Nodup from by decide) rfl (Or.inl rfl)) jF)))) (λ_ _ _ _ _=>du) (λ_ _ _ _ _=>by exact(show PE _ _ (AI K _)from bL (ae (pv 0) (ae (au (Kp (K:=K) (mg:=mg) (a:=a) T) hr T.Be (ae (pv 1) (ae (pv 2) af))) af)))))
     (ak (bP (PW.pt (ff (bY (show aJ _ (wN .NotEq) (df K)from fh hu) (au (rC T) hr T.mI (ae (pv 8) af)) (pv 10) (bA _)) (fO (bY (show aJ _ (wN .NotEq) (df K)from fh hu) (au (FN T) hr T.sh (ae (pv 8) (ae (pv 9) af))) (au (zos T) hr T.GP (ae (au (FN T) hr T.sh (ae (pv 5) (ae (pv 9) af))) (ae (pv 6) af))) (bA _))))) (az (aF d8)) bQ)
     (ak (aB 11 gr.nd (au (R3 T) hr T.Bm (ae (pv 5) af)))
     (ak (bP (bY (show aJ _ (wN .NotEq) (df K)from fh hu) (au (R3 T) hr T.Bm (ae (pv 8) af)) (pv 11) (bA _)) (az (aF d8)) bQ)
     (az (bP (bY (show aJ _ (wN .NotEq) (df K)from fh hu) (pv 11) (dG (ae dQ af)) (bA _)) (ak (aB 12 gr.nd (km (KZ T) hr T.Bl rH (ae (pv 5) af)))
     (ak (kz (i:=13) gr.nd rfl (Or.inl rfl) rfl (cv.by (N':=["_law_row","_law_order_here"]) (src:=[none,some 6]) rfl (show cN _ (aA m7).names AQ ["_law_row","_law_order_here"] [none,some 6]=true from by decide +kernel)) (gO (pv 12)) (λ_ _ _ _ _=>(bM (i:=0) (show(["_law_row","_law_order_here"]:List Str).Nodup from by decide) rfl (Or.inl rfl))) (λ_ _ _ _ _=>du) (λ_ _ _ _ _=>by exact(aK (show aJ _ (WO .Add) (p6 K)from BS) (show PE _ _ (AI K _)from bL (ae (yq (K:=K) cX (pv 0)) (ae (au (Dm (K:=K) (mg:=mg) (a:=a) T) hr T.r_ (ae (yq (K:=K) cX (pv 0)) (ae (pv 1) af))) af))) (mj (show j7 _ (oV K)from mv) (pv 0) (lD aD) mh))))
     (az (bP (PW.pt (ff (cA (cu (au (Pk T) hr T.Bp (ae (pv 8) (ae (pv 13) af))))) (fO (bY (show aJ _ (wN .NotEq) (df K)from fh hu) (au (Pk T) hr T.Bp (ae (pv 5) (ae (pv 13) af))) (fg (show aJ _ (wN .Eq) (cH K)from dj hu) (pv 13) (pv 12) (bA _)) (bA _))))) (az (aF d8)) bQ)))) bQ))))))))))))))))
     (az (aF d8))),?_⟩
 wtm_at "cl";rw[show start AQ [x0]=[some x0,none,none,none,none,none,none,none,none,none,none,none,none,none]from rfl];obtain⟨a',ns0,rfl,hs,hl,q⟩:=h;o_head lO (n:=2) (by decide) (by decide) (λi σ H'=>∃o1 o2 o3 o4 o5 o6 o7 o8 o9 o10 o11 o12 o13,σ = [some (.ref a'),o1,o2,o3,o4,o5,o6,o7,o8,o9,o10,o11,o12,o13]/\bE H H') ⟨_,_,_,_,_,_,_,_,_,_,_,_,_,rfl,bE.refl H⟩ ?_ ?_
 . rintro i σ H' hi ⟨o1,o2,o3,o4,o5,o6,o7,o8,o9,o10,o11,o12,o13,rfl,K1⟩
   o_head zt2 (K1.OT hs) hl (by omega) (by simp at hi;omega) (λp H1 hp1 S1 P1=>?_);o_head zmm P1 (by decide) (λvr H2 ra rb E2 K2 P2 ir ok=>?_);o_head zo1 P2 (by decide) (by decide) (by decide) (λl H3 us xs n3 E3 K3 P3 e3 t3 h1 h6 ph=>?_);have jy:l≠p:=b8.ne n3 P2;have ir3:=ir.sF K3;have KA:=K1.trans (S1.keep.trans (K2.trans K3));obtain⟨bg,cD⟩:=cT.of ok h1 (by omega) ph;have h8:xs.length<=8:=by omega
   clear E2 K2 S1 hp1 P1 K1 E3 K3 P2 ir n3;o_head zsR ir3 ok (.inl (dE e3 t3)) h1 h8 ph (λvw H4 S4 iw=>?_);have e4:=S4 _ _ e3;have t4:av K H4 us (xs.map N):=av.same S4 _ _ t3;have hul:=t4.length;rw[wo]at hul;have ir4:=ir3.by S4;have P4:=P3.same S4;have KB:=KA.trans S4.keep;clear e3 t3 ir3 P3 KA S4;o_head iB (aO.of e4) ?_;rw[hul];o_head zqC P4 (by decide) h8 (λlo H5 ns n5 E5 K5 P5 e5 pm=>?_);have nop:lo≠p:=b8.ne n5 P4;have el5:=E5.at jy e4;have t5:av K H5 us (xs.map N):=av.keep K5 _ _ (eO _) t4;have ir5:=ir4.sF K5;have iw5:=iw.fj K5 (sN _ _ _);have KC:=KB.trans K5;clear e4 t4 ir4 P4 KB iw n5 E5 K5;o_head zwP (mB e5) (λlh H6 ys6 n6 S6 e6 t6=>?_);rw[lM.mp t6]at e6;have nhp:lh≠p:=b8.ne n6 P5;have iw6:=iw5.by S6;o_head zqE iw6 h8 e6 pm (λvo H7 S7 io=>?_);have S57:=S6.trans S7;have P7:=P5.same S57;k_few;rename_i r H8 r0 r1 E8 K8 P8;obtain⟨m,rfl⟩:∃m:Nat,r=(m:Int):=⟨r.toNat,by omega⟩;have m8:m<=8:=by omega
   have el8:=E8.at jy (S57 _ _ el5);have eo8:=E8.at nop (S57 _ _ e5);have eh8:=E8.at nhp (S7 _ _ e6);have K58:=S57.keep.trans K8;have t8:av K H8 us (xs.map N):=av.keep K58 _ _ (eO _) t5;have ir8:=ir5.sF K58;have iw8:=iw5.fj K58 (sN _ _ _);have io8:=io.fj K8 (sN _ _ _);have KD:=KC.trans K58;clear el5 e5 e6 t5 t6 ir5 iw5 iw6 io KC K58 P5 P7 P8 E8 K8 S57 S6 S7 n6 jy nop nhp r0 r1;refine k_ (mB eh8) (mB eo8) (yy ns) (by decide) (zDR ns) ?_;o_head F5 (.inl ⟨l,us,rfl,el8,t8⟩) eo8 pm h8 (λv9 H9 S9 i9=>?_);o_head cy (ds:=[R ra rb,TN (aY 0 ns xs)]) (by simp) (.cons (ir8.by S9) (.cons i9 .nil)) (λv10 H10 S10 i10=>?_);have T10:=S9.trans S10;refine k_ (io8.by T10) i10 (zDU ..) (by decide) (zDD ..) ?_;have iw10:=iw8.by T10;have io10:=io8.by T10;have eo10:=T10 _ _ eo8;have KE:=KD.trans T10.keep;clear i9 i10 S9 S10 T10 iw8 io8 eo8 eh8 el8 t8 ir8 KD;have hx:(aY 0 ns xs).length=xs.length:=lX ..
   have b6:∀j,ah 6 (xs.getD j 0):=λj=>by
     rcases wJ j xs.length with z | z
     . exact(ph _ (getD_mem z)).eQ
     . rw[wa,wP z];exact ah.zero.mono (by decide)
   have ph':∀x∈aY 0 ns xs,fF x:=λx h=>ph x ((pU pm rfl).mp h)
   have b6':∀j,ah 6 ((aY 0 ns xs).getD j 0):=λj=>by
     rcases wJ j (aY 0 ns xs).length with z | z
     . exact(ph' _ (getD_mem z)).eQ
     . rw[wa,wP z];exact ah.zero.mono (by decide)
   have cm:Cm 55 xs:=(Cm.Bx b6).mono (by omega);have cm':Cm 55 (aY 0 ns xs):=(Cm.Bx b6').mono (by omega);obtain⟨bo,cDo⟩:=cT.of ok (xs:=aY 0 ns xs) (by omega) (by omega) ph';o_head rA iw10 h8 (λj=>(b6 j).mono (by decide)) (λlf H11 usf n11 S11 e11 t11=>?_);have eo11:=S11 _ _ eo10;have hvl:=j9 xs;have hfl:=t11.length;rw[wo]at hfl;o_head mL (.of e11) (λD j ys σ' H'=>(∃o1 o2,σ'=[o1,o2,some (.ref lo)])/\H11 D=none/\ag H11 H'/\H' D=some (.lst ys)/\ys.length=j /\ ∀t x,ys[t]? = some x->Is K H' x (gq (aY 0 ns xs) ((aj xs).getD t 0))) (λD H' n s e=>⟨⟨_,_,rfl⟩,n,s,e,rfl,λt x h=>by simp at h⟩) (λD i ys σ' H' h=>h.2.2.1.seq (.of e11)) ?_ ?_
   . rintro D j x ys σ' H12 hx12 ⟨⟨o1,o2,rfl⟩,n12,S12,e12,hyl,r12⟩
     obtain⟨hj,ix⟩:=gG t11 hx12;rw[wo]at hj
     have ix:Is K H11 x (gq xs ((aj xs).getD j 0)):=by
       rw[wa,wu,wc hj]at ix;rw[wa,wc hj];exact ix
     have wr:=O7 xs ((aj xs).getD j 0);refine zA (DR (ix.by S12) rfl (λzs t=>?_));obtain⟨vp,r1,rfl,ip,t⟩:=c8.mp t;obtain⟨vv,r2,rfl,iv,t⟩:=c8.mp t;rw[fK.mp t];o_head Pr iv (S12 _ _ eo11) pm h8 wr.1 wr.2 (λv13 H13 S13 i13=>?_);o_head cy (ds:=[N ((aj xs).getD j 0),TW (cq xs.length ns (d9 xs ((aj xs).getD j 0)))]) (by simp) (.cons (ip.by S13) (.cons i13 .nil)) (λv14 H14 S14 i14=>?_);have S124:=S13.trans S14;have e14:=S124 _ _ e12;refine kF e14 (by omega) (λH15 E15 e15=>⟨⟨_,_,rfl⟩,n12,(S12.trans S124).grow n12 E15,e15,by rw[wX,hyl];rfl,λt9 x h=>?_⟩);have K15:=E15.keep e14;rcases wJ t9 ys.length with z | z
     . rw[vO z]at h
       exact((r12 t9 x h).by S124).fj K15 (Ag _ _)
     . have ht:j=t9:=by
         have:=kE h;rw[wX,vT]at this;omega
       subst ht;rw[vf z,hyl,W5]at h;cases h;unfold gq;rw[Gb pm rfl];exact i14.fj K15 (by have:=Ag (aY 0 ns xs) ((aj xs).getD j 0);unfold gq at this;rw[Gb pm rfl]at this;exact this)
   . rintro D ys σ' H12 ⟨_,n12,S12,e12,hyl,r12⟩
     have i12:Is K H12 (.ref D) (.list ((aj xs).map (gq (aY 0 ns xs)))):=cj.mpr ⟨D,ys,rfl,.of e12,pN (by rw[wo];omega) λt x h=>by
       have hz:=kE h;have:=r12 t x h;rw[wa,wu,wc (show t<(aj xs).length by omega)];rw[wa,wc (show t<(aj xs).length by omega)]at this;exact this⟩
     have T12:=S11.trans S12;have iw12:=iw10.by T12;have io12:=io10.by T12;have eo12:=T12 _ _ eo10;have KF:=KE.trans T12.keep;clear iw10 io10 eo10 eo11 e11 t11 S11 S12 T12 r12 e12 KE;o_head rA io12 (by omega) (λj=>(b6' j).mono (by decide)) (λlg H13 usg n13 S13 e13 t13=>?_);rw[ku pm rfl]at t13;k_few
     refine k_ (n:=4) (cj.mpr ⟨lg,usg,rfl,.of e13,t13⟩) (i12.by S13) (nG λd hd=>by
       obtain⟨v,_,rfl⟩:=wO.mp hd;exact gI (jE (ly _) (zDF _))) (by decide) (p0 λd hd=>by
       obtain⟨v,_,rfl⟩:=wO.mp hd;exact ko (jE (m4 _) (zEm _))) ?_
     have iw13:=iw12.by S13;have io13:=io12.by S13;have eo13:=S13 _ _ eo12;have KG:=KF.trans S13.keep;clear iw12 io12 eo12 KF S13 i12 e13 t13;have hm:(2+21*xs.length)*m<=170*8:=VH (by omega) m8;o_head MP io13 ok.ba ok.bb (by omega) (by omega) (by omega) (by omega) cm' (by rw[wU,hx];omega) (λlr H14 n14 S14 i14=>?_);rw[wU]at i14;o_head MP (iw13.by S14) ok.ba ok.bb (by omega) (by omega) (by omega) (by omega) cm (by rw[wU];omega) (λls H15 n15 S15 i15=>?_);rw[wU]at i15;have T15:=S14.trans S15;o_head zoq i15 (T15 _ _ eo13) pm h1 h8 (by omega) (λlt H16 S16 i16=>?_);have T16:=T15.trans S16
     refine k_ (n:=7) (i14.by (S15.trans S16)) i16 (nG λd hd=>by
       obtain⟨k,_,rfl⟩:=wO.mp hd;exact zCq _ _ _) (by decide) (p0 λd hd=>by
       obtain⟨k,_,rfl⟩:=wO.mp hd;exact zCP _ _ _) ?_
     have iw16:=iw13.by T16;have io16:=io13.by T16;have eo16:=T16 _ _ eo13;have KH:=KG.trans T16.keep;clear iw13 io13 eo13 KG S14 S15 S16 T15 T16 i14 i15 i16 hm;o_head B5 iw16 bg (λF l' H17 S17 e17=>?_) (λes n wd v17 H17 P S17 i17=>?_)
     . k_few
       refine B5 (io16.by S17) bo (λ_ l2 H18 S18 e18=>?_) (λes n wd v H18 P' _ _=>(Lp P' (zxt pm rfl h1 F)).elim);o_head k_ (rQ e18) (rQ (S18 _ _ e17)) B9 (by decide) Sg ?_;o_head fW (by simp) (λl3 H19 n19 S19 e19=>?_);refine k_ (rQ (S19 _ _ (S18 _ _ e17))) (rQ e19) B9 (by decide) Sg ?_;k_few;exact⟨_,_,_,_,_,_,_,_,_,_,_,_,_,rfl,KH.trans (S17.trans (S18.trans S19)).keep⟩
     . k_few
       refine B5 (io16.by S17) bo (λF _ _ _ _=>(zDm pm h1 P F).elim) (λes' n' wd' v18 H18 P' S18 i18=>?_);obtain⟨rfl,rfl,rfl⟩:=Y1 pm rfl h1 P P';rw[(fY pm rfl h1 n).1,ku pm (bj ..)]at i18;have T18:=S17.trans S18;have i1718:=i17.by S18;o_head k_ (n:=4) i18 i1718 (gI (jE ((ou (lY _)).mono (by decide)) ((jn _).mono (by decide)))) (by decide) (ko (jE (FZ _) (EX _))) ?_;o_head fW (by simp) (λl3 H19 n19 S19 e19=>?_);refine n_ (i1718.by S19) (rQ e19) ((gI (n:=3) (jE ((ou (lY _)).mono (by decide)) ((jn _).mono (by decide)))).shaped (by decide)) (B9.shaped (by decide)) ?_;rw[show wI (m6 wd (aj (ai ra rb xs n)).length) (.list [.str (wV "long")])=false by unfold m6;rw[wI]<;>simp];have T19:=T18.trans S19;have iw19:=iw16.by T19;have io19:=io16.by T19;have eo19:=T19 _ _ eo16;have KI:=KH.trans T19.keep;clear iw16 io16 eo16 KH S17 S18 S19 T18 T19 i17 i18 i1718 e19;o_head PU iw19 bg (λF=>(Lp P F).elim) (λlp H20 es' n' w' P20 _ S20 i20=>?_);obtain⟨rfl,rfl,rfl⟩:=zt1 P P20;have iw20:=iw19.by S20;have io20:=io19.by S20;have eo20:=S20 _ _ eo19;have KJ:=KI.trans S20.keep;clear iw19 io19 eo19 KI S20;obtain⟨lp',up,el,hsp,tp⟩:=cj.mp i20;cases el;have hup:=tp.length;rw[Fy]at hup;have cg:=P.cg;o_head jT hsp (o0:=none) (tl:=[some (.ref lo)]) rfl (λj y H'=>Is K H' y ((cR ra rb (aY 0 ns xs) es n wd).getD j .none)) ?_ ?_
       . intro D' j x ys' o H21 hx21 inv
         obtain⟨hj,ix⟩:=gG tp hx21;rw[Fy]at hj;obtain⟨hh,zs,ds,hz,d1,d2,f1,f2⟩:=ztL (a:=ra) (b:=rb) pm h1 es n wd hj;rw[wa,f1]at ix;have S21:=inv.same;have ix21:Is K H21 x (.tuple (N hh::TN zs::ds)):=ix.by S21;o_head aC (j:=0) ix21 rfl (λv22 i22=>?_);o_head aC (j:=1) ix21 rfl (λv23 i23=>?_);o_head F5 (xs:=zs) (.inr i23) (S21 _ _ eo20) (by rw[hz];exact pm) (by omega) (λv24 H24 S24 i24=>?_);o_head cy (ds:=[N hh,TN (aY 0 ns zs)]) (by simp) (.cons (i22.by S24) (.cons i24 .nil)) (λv25 H25 S25 i25=>?_);o_head MY (ix21.by (S24.trans S25)) (by simp[HT.a_]) (λv26 H26 S26 i26=>?_)
         have ec:L2.cutD (N hh::TN zs::ds) (some ((2:Nat):Int)) none=ds:=by
           rw[Tq _ 2 (by simp)]
           rfl
         rw[show(some 2:Option Int)=some ((2:Nat):Int)from rfl,ec]at i26;refine F9 (i25.by S26) i26 (by simp;omega) (λv27 H27 S27 i27=>?_);refine dR inv (by omega) (λ_ _ _ _ k h=>h.fj k (zBe ..)) ⟨_,rfl⟩ (S24.trans (S25.trans (S26.trans S27))) ?_;rw[wa,f2];exact i27
       . intro D' ys' H21 n21 S21 e21 l21 r21
         have i21:Is K H21 (.ref D') (.list (cR ra rb (aY 0 ns xs) es n wd)):=cj.mpr ⟨D',ys',rfl,.of e21,pN (by rw[Fy,l21,hup]) r21⟩;have lwO:=eY.lw bo P'.walk;have cO:=P'.Yr bo;have h0O:=bo.hp.zero ok.a0 ok.b0 bo.h1 P.n1
         have hwi:iQ wd:=by
           rcases NW (a:=ra) (b:=rb) (xs:=ai ra rb xs n)with e | ⟨w',e,i⟩
           . rw[P.word]at e;cases e
           . rw[P.word]at e;cases e;exact i
         o_head OX (io20.by S21) i21 ok bo.h1 (by omega) rfl bo.hp lwO (by omega) h0O hwi cO (λH22 S22=>?_);rw[P'.word,decide_eq_true rfl,decide_eq_true rfl,QJ];have T22:=S21.trans S22;o_head OX (iw20.by T22) (i21.by S22) ok bo.h1 (by omega) hx.symm bo.hp lwO (by omega) h0O hwi cO (λH23 S23=>?_);rw[P'.word,decide_eq_true (p:=(some wd=some wd)) rfl,QJ];have i2123:=i21.by (S22.trans S23);have i2023:=i20.by (T22.trans S23);have KL:=KJ.trans (T22.trans S23).keep;k_few
         have fin:∀(bb:Bool),bb=decide (aY 0 ns xs=xs)->wI (.list (cR ra rb (aY 0 ns xs) es n wd)) (.list (cR ra rb xs es n wd))=bb:=λbb hb=>by
           rw[hb]
           by_cases hxx:aY 0 ns xs=xs
           . rw[hxx,decide_eq_true rfl];exact zy1 ..
           . rw[decide_eq_false hxx];exact zx9 P.walk P.e1 hxx
         refine mU i2123 i2023 ((Px ..).shaped (by decide)) ((Px ..).shaped (by decide)) ?_;rw[fin _ rfl];refine k_ (n:=1) (d:=.bool (decide (aY 0 ns xs=xs))) (kc.mpr rfl) (kc.mpr rfl) (zA7 _) (by decide) (by rw[zyT];simp) ?_;k_few;exact⟨_,_,_,_,_,_,_,_,_,_,_,_,_,rfl,KL⟩
 . rintro σ H' ⟨o1,o2,o3,o4,o5,o6,o7,o8,o9,o10,o11,o12,o13,rfl,K1⟩
   k_few;exact q _
end
theorem Nz{us:List wg}(h:us.length=1):∃a,us=[a]:=by
 cases us with
 | nil=>cases h
 | cons a t=>exact⟨a,by rw[qM.mp (QZ h)]⟩
theorem Mu{us:List wg}(h:us.length=2):∃a0 a1,us=[a0,a1]:=by
 cases us with
 | nil=>cases h
 | cons a0 t =>
  obtain⟨a1,e⟩:=Nz (QZ h);exact⟨a0,a1,by rw[e]⟩
theorem Ma{us:List wg}(h:us.length=3):∃a0 a1 a2,us=[a0,a1,a2]:=by
 cases us with
 | nil=>cases h
 | cons a0 t =>
  obtain⟨a1,a2,e⟩:=Mu (QZ h);exact⟨a0,a1,a2,by rw[e]⟩
theorem zDZ{us:List wg}(h:us.length=4):∃a0 a1 a2 a3,us=[a0,a1,a2,a3]:=by
 cases us with
 | nil=>cases h
 | cons a0 t =>
  obtain⟨a1,a2,a3,e⟩:=Ma (QZ h);exact⟨a0,a1,a2,a3,by rw[e]⟩
inductive aR(K:wb)(n:Str)(st:vc)(f:we):Prop
 | mk {od an:Option we} {sl:Array (Option wg)} {oc kV dc pm cd ct:wg} (a:w9 K wM n=some (some (.ref f))) (l:K.lookup f=some ⟨oc,od,.func (VL n n (ow st) (jX st) (aA st) .none kV dc pm an cd ct),sl⟩) (c:Qm K cd n=true) (k:V7 K (.ref f)=true):aR K n st f
theorem aR.dn{K:wb}{h:wQ}{mg:Str->Option wg}{n:Str}{st:vc}{f:we}{ps:List Str}(A:aR K n st f)(X:K.In h)(G:h.Ns wM mg)
  (b:∀(kV doc pm:wg)(an:Option we)(cdv ct:wg)(us:List wg),us.length=ps.length->bindArgs (VL n n (ow st) (jX st) (aA st) .none kV doc pm an cdv ct) ⟨us,[]⟩=pure (ps.zip us)):∃fd,Dn K mg n st ps f fd:=by
 obtain⟨a,l,c,k⟩:=A;have F:=Tg (st:=st) l c k;exact⟨_,F,vA X G a,F.binds b⟩
set_option hygiene false in
local macro_rules | `(tactic| wtm_at "bd")=>`(tactic| (intro _ _ _ _ _ _ us hl; first | (obtain ⟨_,rfl⟩:=Nz hl; rfl) | (obtain ⟨_,_,rfl⟩:=Mu hl; rfl) | (obtain ⟨_,_,_,rfl⟩:=Ma hl; rfl) | (obtain ⟨_,_,_,_,rfl⟩:=zDZ hl; rfl)))
set_option maxHeartbeats 8000000 in
theorem all_mk{l:Q4}{w:wW}{K:wb}{h:wQ}{mg:Str->Option wg}{fa:we}(X:K.In h)(G:h.Ns wM mg)(hfa:mg "law"=some (.ref fa))
  {f0 f1 f2 f3 f4 f5 f6 f7 f8 f9 f10 f11 f12 f13 f14 f15 f16 f17 f18 f19 f20 f21 f22 f23 f24 f25 f26 f27 f28 f29 f30 f31 f32 f33 f34 f35 f36 f37 f38 f39 f40 f41 f42 f43 f44 f45 f46 f47 f48 f49 f50 f51 f52 f53 f54 f55 f56 f57 f58 f59 f60 f61 f62 f63 f64 f65 f66 f67 f68 f69 f70 f71 f72 f73:we}
  {e0:we}
  {e1:we}
  {e2:we}
  {e3:we}
  {e4:we}
  {e5:we}
  {e6:we}
  {e7:we}
  {e8:we}
  {e9:we}
  {g0:we} {gn0:Nat} {gd0:Option we} {gs0:Array (Option wg)} {tk0_0 tk0_1:Tok}
  {g1:we} {gn1:Nat} {gd1:Option we} {gs1:Array (Option wg)} {tk1_0 tk1_1:Tok}
  {g2:we} {gn2:Nat} {gd2:Option we} {gs2:Array (Option wg)} {tk2_0 tk2_1:Tok}
  {tk3:Tok}
  {tk4:Tok}
  {tk5:Tok}
  {tk6:Tok}
  {tk7:Tok}
  {tk8:Tok}
  {g9:we} {gn9:Nat} {gd9:Option we} {gs9:Array (Option wg)} {tk9_0 tk9_1 tk9_2:Tok}
  (a0:aR K "is_whole" EV f0)
  (a1:aR K "is_whole_from" C_ f1)
  (a2:aR K "greatest_divisor" DB f2)
  (a3:aR K "is_number" Ew f3)
  (a4:aR K "plus" BV f4)
  (a5:aR K "minus" Ej f5)
  (a6:aR K "times" CC f6)
  (a7:aR K "over" B0 f7)
  (a8:aR K "less" Cs f8)
  (a9:aR K "is_factor" ED f9)
  (a10:aR K "is_shift" Cz f10)
  (a11:aR K "make_rule" Cu f11)
  (a12:aR K "is_rule" C5 f12)
  (a13:aR K "bend" Fe f13)
  (a14:aR K "pushes" Ds f14)
  (a15:aR K "pushed_by" C2 f15)
  (a16:aR K "is_order" zi f16)
  (a17:aR K "set_by" CU f17)
  (a18:aR K "exchanged" CS f18)
  (a19:aR K "is_phase" EB f19)
  (a20:aR K "are_phases" yM f20)
  (a21:aR K "swarm_of" CF f21)
  (a22:aR K "greatest" EM f22)
  (a23:aR K "worms_at" Af f23)
  (a24:aR K "flocks" Au f24)
  (a25:aR K "at_the_end" u6 f25)
  (a26:aR K "glow" nZ f26)
  (a27:aR K "history" Dx f27)
  (a28:aR K "behind" DO f28)
  (a29:aR K "is_laid" Ee f29)
  (a30:aR K "laid" pR f30)
  (a31:aR K "phases_behind" zx f31)
  (a32:aR K "stands" ES f32)
  (a33:aR K "round_behind" D_ f33)
  (a34:aR K "round_time" BX f34)
  (a35:aR K "tops" tE f35)
  (a36:aR K "is_free" oX f36)
  (a37:aR K "round_map" yC f37)
  (a38:aR K "still" yf f38)
  (a39:aR K "weighed" tV f39)
  (a40:aR K "led_on" CJ f40)
  (a41:aR K "rounds_behind" EH f41)
  (a42:aR K "sums_of_places" CL f42)
  (a43:aR K "rounds_time" Ah f43)
  (a44:aR K "draws_freely" yj f44)
  (a45:aR K "stays_free" A6 f45)
  (a46:aR K "free_rounds" Fp f46)
  (a47:aR K "has_stand" u7 f47)
  (a48:aR K "is_row" EJ f48)
  (a49:aR K "is_last_row" DY f49)
  (a50:aR K "is_paper" Av f50)
  (a51:aR K "go_free" CG f51)
  (a52:aR K "behind_rounds" Ai f52)
  (a53:aR K "behind_row" Dv f53)
  (a54:aR K "leads_on" Di f54)
  (a55:aR K "word_of" CM f55)
  (a56:aR K "lets_by" Ex f56)
  (a57:aR K "glows_to_join" EA f57)
  (a58:aR K "next_row" Fc f58)
  (a59:aR K "paper_of" FT f59)
  (a60:aR K "fate" CT f60)
  (a61:aR K "_law_pen" Ek f61)
  (a62:aR K "_law_draw" BE f62)
  (a63:aR K "_law_low" DU f63)
  (a64:aR K "_law_kind" Ap f64)
  (a65:aR K "_law_rule" CB f65)
  (a66:aR K "_law_any_rule" Em f66)
  (a67:aR K "_law_phases" Fg f67)
  (a68:aR K "_law_fate" FJ f68)
  (a69:aR K "_law_order" Aj f69)
  (a70:aR K "_law_phases_so" yI f70)
  (a71:aR K "_law_worms_so" sX f71)
  (a72:aR K "_law_rows_so" sQ f72)
  (a73:aR K "law" m7 f73)
  (n_NoSwarm:w9 K wM "NoSwarm"=some (some (.ref e0)))
  (n_NoStand:w9 K wM "NoStand"=some (some (.ref e1)))
  (n_TooLong:w9 K wM "TooLong"=some (some (.ref e2)))
  (n_NoBack:w9 K wM "NoBack"=some (some (.ref e3)))
  (n_NoRow:w9 K wM "NoRow"=some (some (.ref e4)))
  (n_NoText:w9 K wM "NoText"=some (some (.ref e5)))
  (n_NoWeb:w9 K wM "NoWeb"=some (some (.ref e6)))
  (n_NoRule:w9 K wM "NoRule"=some (some (.ref e7)))
  (n_NoNumber:w9 K wM "NoNumber"=some (some (.ref e8)))
  (n_GlowError:w9 K wM "GlowError"=some (some (.ref e9)))
  (z_ValueError:w9 K wM "ValueError"=some none)
  (z_abs:w9 K wM "abs"=some none)
  (z_all:w9 K wM "all"=some none)
  (z_any:w9 K wM "any"=some none)
  (z_bool:w9 K wM "bool"=some none)
  (z_dict:w9 K wM "dict"=some none)
  (z_enumerate:w9 K wM "enumerate"=some none)
  (z_int:w9 K wM "int"=some none)
  (z_isinstance:w9 K wM "isinstance"=some none)
  (z_len:w9 K wM "len"=some none)
  (z_list:w9 K wM "list"=some none)
  (z_range:w9 K wM "range"=some none)
  (z_sorted:w9 K wM "sorted"=some none)
  (z_str:w9 K wM "str"=some none)
  (z_sum:w9 K wM "sum"=some none)
  (z_tuple:w9 K wM "tuple"=some none)
  (z_zip:w9 K wM "zip"=some none)
  (h_x_NoSwarm:W9 K e0 lJ "ValueError.__new__"=true)
  (h_m_NoSwarm:Vh K (.ref e0) (.ref e9)=some true)
  (h_e_NoSwarm:fL K e0)
  (h_k_NoSwarm_NoSwarm:wt K (.ref e0) (.ref e0)=some true)
  (h_k_NoSwarm_NoStand:wt K (.ref e0) (.ref e1)=some false)
  (h_k_NoSwarm_TooLong:wt K (.ref e0) (.ref e2)=some false)
  (h_k_NoSwarm_NoBack:wt K (.ref e0) (.ref e3)=some false)
  (h_k_NoSwarm_NoRow:wt K (.ref e0) (.ref e4)=some false)
  (h_k_NoSwarm_NoText:wt K (.ref e0) (.ref e5)=some false)
  (h_k_NoSwarm_NoWeb:wt K (.ref e0) (.ref e6)=some false)
  (h_k_NoSwarm_NoRule:wt K (.ref e0) (.ref e7)=some false)
  (h_k_NoSwarm_NoNumber:wt K (.ref e0) (.ref e8)=some false)
  (h_v_NoSwarm:wt K (.ref e0) (.type "ValueError")=some true)
  (h_x_NoStand:W9 K e1 lJ "ValueError.__new__"=true)
  (h_m_NoStand:Vh K (.ref e1) (.ref e9)=some true)
  (h_e_NoStand:fL K e1)
  (h_k_NoStand_NoSwarm:wt K (.ref e1) (.ref e0)=some false)
  (h_k_NoStand_NoStand:wt K (.ref e1) (.ref e1)=some true)
  (h_k_NoStand_TooLong:wt K (.ref e1) (.ref e2)=some false)
  (h_k_NoStand_NoBack:wt K (.ref e1) (.ref e3)=some false)
  (h_k_NoStand_NoRow:wt K (.ref e1) (.ref e4)=some false)
  (h_k_NoStand_NoText:wt K (.ref e1) (.ref e5)=some false)
  (h_k_NoStand_NoWeb:wt K (.ref e1) (.ref e6)=some false)
  (h_k_NoStand_NoRule:wt K (.ref e1) (.ref e7)=some false)
  (h_k_NoStand_NoNumber:wt K (.ref e1) (.ref e8)=some false)
  (h_v_NoStand:wt K (.ref e1) (.type "ValueError")=some true)
  (h_x_TooLong:W9 K e2 lJ "ValueError.__new__"=true)
  (h_m_TooLong:Vh K (.ref e2) (.ref e9)=some true)
  (h_e_TooLong:fL K e2)
  (h_k_TooLong_NoSwarm:wt K (.ref e2) (.ref e0)=some false)
  (h_k_TooLong_NoStand:wt K (.ref e2) (.ref e1)=some false)
  (h_k_TooLong_TooLong:wt K (.ref e2) (.ref e2)=some true)
  (h_k_TooLong_NoBack:wt K (.ref e2) (.ref e3)=some false)
  (h_k_TooLong_NoRow:wt K (.ref e2) (.ref e4)=some false)
  (h_k_TooLong_NoText:wt K (.ref e2) (.ref e5)=some false)
  (h_k_TooLong_NoWeb:wt K (.ref e2) (.ref e6)=some false)
  (h_k_TooLong_NoRule:wt K (.ref e2) (.ref e7)=some false)
  (h_k_TooLong_NoNumber:wt K (.ref e2) (.ref e8)=some false)
  (h_v_TooLong:wt K (.ref e2) (.type "ValueError")=some true)
  (q0:w9 K wM "NOUGHT"=some (some (.ref g0)))
  (r0:K.lookup g0=some ⟨.type "tuple",gd0,.seq #[.int 0 tk0_0,.int 1 tk0_1] gn0,gs0⟩)
  (q1:w9 K wM "ONE"=some (some (.ref g1)))
  (r1:K.lookup g1=some ⟨.type "tuple",gd1,.seq #[.int 1 tk1_0,.int 1 tk1_1] gn1,gs1⟩)
  (q2:w9 K wM "GREATEST_FACTOR"=some (some (.ref g2)))
  (r2:K.lookup g2=some ⟨.type "tuple",gd2,.seq #[.int 4 tk2_0,.int 1 tk2_1] gn2,gs2⟩)
  (q3:w9 K wM "FACTOR_BOTTOM"=some (some (.int 8 tk3)))
  (q4:w9 K wM "SHIFT_BOTTOM"=some (some (.int 12 tk4)))
  (q5:w9 K wM "MOST_WORMS"=some (some (.int 8 tk5)))
  (q6:w9 K wM "PHASE_BOTTOM"=some (some (.int 60 tk6)))
  (q7:w9 K wM "MOST_FREE"=some (some (.int 30 tk7)))
  (q8:w9 K wM "MOST_GLOWS"=some (some (.int 40 tk8)))
  (q9:w9 K wM "WORDS"=some (some (.ref g9)))
  (r9:K.lookup g9=some ⟨.type "tuple",gd9,.seq #[.str "one" tk9_0,.str "rests" tk9_1,.str "drawn" tk9_2] gn9,gs9⟩)
  : ∃fd:wE,(∀(s:wm)(v:wg),BindsTo s fd ⟨[v],[]⟩ [("_law_script",v)]) /\ ∀base:wQ,K.In base->base.Ns wM mg->aP l.prog w K mg base aS 16 fa fd ["_law_script"] (sP K):=by
 obtain⟨aL,lL,cL,kL⟩:=a73;cases hfa.symm.trans (vA X G aL);have FL:=Tg (st:=m7) lL cL kL;have D73:Dn K mg _ _ yX _ _:=⟨FL,vA X G aL,FL.binds (by wtm_at "bd")⟩;have⟨_,D0⟩:=a0.dn (ps:=tI) X G (by wtm_at "bd");have⟨_,D1⟩:=a1.dn (ps:=AN) X G (by wtm_at "bd");have⟨_,D2⟩:=a2.dn (ps:=yV) X G (by wtm_at "bd");have⟨_,D3⟩:=a3.dn (ps:=Ak) X G (by wtm_at "bd");have⟨_,D4⟩:=a4.dn (ps:=zK) X G (by wtm_at "bd");have⟨_,D5⟩:=a5.dn (ps:=zg) X G (by wtm_at "bd");have⟨_,D6⟩:=a6.dn (ps:=yh) X G (by wtm_at "bd");have⟨_,D7⟩:=a7.dn (ps:=zy) X G (by wtm_at "bd");have⟨_,D8⟩:=a8.dn (ps:=tG) X G (by wtm_at "bd");have⟨_,D9⟩:=a9.dn (ps:=yx) X G (by wtm_at "bd");have⟨_,D10⟩:=a10.dn (ps:=ye) X G (by wtm_at "bd");have⟨_,D11⟩:=a11.dn (ps:=zW) X G (by wtm_at "bd");have⟨_,D12⟩:=a12.dn (ps:=zV) X G (by wtm_at "bd");have⟨_,D13⟩:=a13.dn (ps:=sV) X G (by wtm_at "bd");have⟨_,D14⟩:=a14.dn (ps:=AO) X G (by wtm_at "bd");have⟨_,D15⟩:=a15.dn (ps:=yt) X G (by wtm_at "bd");have⟨_,D16⟩:=a16.dn (ps:=A1) X G (by wtm_at "bd");have⟨_,D17⟩:=a17.dn (ps:=zR) X G (by wtm_at "bd");have⟨_,D18⟩:=a18.dn (ps:=z8) X G (by wtm_at "bd");have⟨_,D19⟩:=a19.dn (ps:=A3) X G (by wtm_at "bd");have⟨_,D20⟩:=a20.dn (ps:=z_) X G (by wtm_at "bd");have⟨_,D21⟩:=a21.dn (ps:=As) X G (by wtm_at "bd");have⟨_,D22⟩:=a22.dn (ps:=tZ) X G (by wtm_at "bd");have⟨_,D23⟩:=a23.dn (ps:=u5) X G (by wtm_at "bd");have⟨_,D24⟩:=a24.dn (ps:=zH) X G (by wtm_at "bd");have⟨_,D25⟩:=a25.dn (ps:=zh) X G (by wtm_at "bd")
 have⟨_,D26⟩:=a26.dn (ps:=A4) X G (by wtm_at "bd");have⟨_,D27⟩:=a27.dn (ps:=An) X G (by wtm_at "bd");have⟨_,D28⟩:=a28.dn (ps:=AF) X G (by wtm_at "bd");have⟨_,D29⟩:=a29.dn (ps:=zU) X G (by wtm_at "bd");have⟨_,D30⟩:=a30.dn (ps:=Am) X G (by wtm_at "bd");have⟨_,D31⟩:=a31.dn (ps:=AX) X G (by wtm_at "bd");have⟨_,D32⟩:=a32.dn (ps:=tF) X G (by wtm_at "bd");have⟨_,D33⟩:=a33.dn (ps:=tK) X G (by wtm_at "bd");have⟨_,D34⟩:=a34.dn (ps:=yo) X G (by wtm_at "bd");have⟨_,D35⟩:=a35.dn (ps:=AR) X G (by wtm_at "bd");have⟨_,D36⟩:=a36.dn (ps:=AB) X G (by wtm_at "bd");have⟨_,D37⟩:=a37.dn (ps:=Aq) X G (by wtm_at "bd");have⟨_,D38⟩:=a38.dn (ps:=tm) X G (by wtm_at "bd");have⟨_,D39⟩:=a39.dn (ps:=yi) X G (by wtm_at "bd");have⟨_,D40⟩:=a40.dn (ps:=yd) X G (by wtm_at "bd");have⟨_,D41⟩:=a41.dn (ps:=AY) X G (by wtm_at "bd");have⟨_,D42⟩:=a42.dn (ps:=yp) X G (by wtm_at "bd");have⟨_,D43⟩:=a43.dn (ps:=AK) X G (by wtm_at "bd");have⟨_,D44⟩:=a44.dn (ps:=zc) X G (by wtm_at "bd");have⟨_,D45⟩:=a45.dn (ps:=Ac) X G (by wtm_at "bd");have⟨_,D46⟩:=a46.dn (ps:=yZ) X G (by wtm_at "bd");have⟨_,D47⟩:=a47.dn (ps:=s_) X G (by wtm_at "bd");have⟨_,D48⟩:=a48.dn (ps:=uU) X G (by wtm_at "bd");have⟨_,D49⟩:=a49.dn (ps:=zN) X G (by wtm_at "bd");have⟨_,D50⟩:=a50.dn (ps:=yL) X G (by wtm_at "bd");have⟨_,D51⟩:=a51.dn (ps:=uX) X G (by wtm_at "bd");have⟨_,D52⟩:=a52.dn (ps:=zQ) X G (by wtm_at "bd");have⟨_,D53⟩:=a53.dn (ps:=Aa) X G (by wtm_at "bd");have⟨_,D54⟩:=a54.dn (ps:=yl) X G (by wtm_at "bd")
 have⟨_,D55⟩:=a55.dn (ps:=uZ) X G (by wtm_at "bd");have⟨_,D56⟩:=a56.dn (ps:=w_) X G (by wtm_at "bd");have⟨_,D57⟩:=a57.dn (ps:=tR) X G (by wtm_at "bd");have⟨_,D58⟩:=a58.dn (ps:=yQ) X G (by wtm_at "bd");have⟨_,D59⟩:=a59.dn (ps:=zG) X G (by wtm_at "bd");have⟨_,D60⟩:=a60.dn (ps:=tJ) X G (by wtm_at "bd");have⟨_,D61⟩:=a61.dn (ps:=zB) X G (by wtm_at "bd");have⟨_,D62⟩:=a62.dn (ps:=zm) X G (by wtm_at "bd");have⟨_,D63⟩:=a63.dn (ps:=A2) X G (by wtm_at "bd");have⟨_,D64⟩:=a64.dn (ps:=tX) X G (by wtm_at "bd");have⟨_,D65⟩:=a65.dn (ps:=Ae) X G (by wtm_at "bd");have⟨_,D66⟩:=a66.dn (ps:=sJ) X G (by wtm_at "bd");have⟨_,D67⟩:=a67.dn (ps:=sT) X G (by wtm_at "bd");have⟨_,D68⟩:=a68.dn (ps:=z6) X G (by wtm_at "bd");have⟨_,D69⟩:=a69.dn (ps:=AU) X G (by wtm_at "bd");have⟨_,D70⟩:=a70.dn (ps:=Ao) X G (by wtm_at "bd");have⟨_,D71⟩:=a71.dn (ps:=u4) X G (by wtm_at "bd");have⟨_,D72⟩:=a72.dn (ps:=yz) X G (by wtm_at "bd")
 have T:Txt K mg ⟨f0,_,f1,_,f2,_,f3,_,f4,_,f5,_,f6,_,f7,_,f8,_,f9,_,f10,_,f11,_,f12,_,f13,_,f14,_,f15,_,f16,_,f17,_,f18,_,f19,_,f20,_,f21,_,f22,_,f23,_,f24,_,f25,_,f26,_,f27,_,f28,_,f29,_,f30,_,f31,_,f32,_,f33,_,f34,_,f35,_,f36,_,f37,_,f38,_,f39,_,f40,_,f41,_,f42,_,f43,_,f44,_,f45,_,f46,_,f47,_,f48,_,f49,_,f50,_,f51,_,f52,_,f53,_,f54,_,f55,_,f56,_,f57,_,f58,_,f59,_,f60,_,f61,_,f62,_,f63,_,f64,_,f65,_,f66,_,f67,_,f68,_,f69,_,f70,_,f71,_,f72,_,_,_,e0,e1,e2,e3,e4,e5,e6,e7,e8,e9,g0,g1,g2,g9⟩:=⟨D0,
  D1,
  D2,
  D3,
  D4,
  D5,
  D6,
  D7,
  D8,
  D9,
  D10,
  D11,
  D12,
  D13,
  D14,
  D15,
  D16,
  D17,
  D18,
  D19,
  D20,
  D21,
  D22,
  D23,
  D24,
  D25,
  D26,
  D27,
  D28,
  D29,
  D30,
  D31,
  D32,
  D33,
  D34,
  D35,
  D36,
  D37,
  D38,
  D39,
  D40,
  D41,
  D42,
  D43,
  D44,
  D45,
  D46,
  D47,
  D48,
  D49,
  D50,
  D51,
  D52,
  D53,
  D54,
  D55,
  D56,
  D57,
  D58,
  D59,
  D60,
  D61,
  D62,
  D63,
  D64,
  D65,
  D66,
  D67,
  D68,
  D69,
  D70,
  D71,
  D72,
  D73,
  vy X G z_ValueError,
  vy X G z_abs,
  vy X G z_all,
  vy X G z_any,
  vy X G z_bool,
  vy X G z_dict,
  vy X G z_enumerate,
  vy X G z_int,
  vy X G z_isinstance,
  vy X G z_len,
  vy X G z_list,
  vy X G z_range,
  vy X G z_sorted,
  vy X G z_str,
  vy X G z_sum,
  vy X G z_tuple,
  vy X G z_zip,
  vA X G n_NoSwarm,
  vA X G n_NoStand,
  vA X G n_TooLong,
  vA X G n_NoBack,
  vA X G n_NoRow,
  vA X G n_NoText,
  vA X G n_NoWeb,
  vA X G n_NoRule,
  vA X G n_NoNumber,
  vA X G n_GlowError,
  h_x_NoSwarm,
  h_m_NoSwarm,
  h_e_NoSwarm,
  h_k_NoSwarm_NoSwarm,
  h_k_NoSwarm_NoStand,
  h_k_NoSwarm_TooLong,
  h_k_NoSwarm_NoBack,
  h_k_NoSwarm_NoRow,
  h_k_NoSwarm_NoText,
  h_k_NoSwarm_NoWeb,
  h_k_NoSwarm_NoRule,
  h_k_NoSwarm_NoNumber,
  h_v_NoSwarm,
  h_x_NoStand,
  h_m_NoStand,
  h_e_NoStand,
  h_k_NoStand_NoSwarm,
  h_k_NoStand_NoStand,
  h_k_NoStand_TooLong,
  h_k_NoStand_NoBack,
  h_k_NoStand_NoRow,
  h_k_NoStand_NoText,
  h_k_NoStand_NoWeb,
  h_k_NoStand_NoRule,
  h_k_NoStand_NoNumber,
  h_v_NoStand,
  h_x_TooLong,
  h_m_TooLong,
  h_e_TooLong,
  h_k_TooLong_NoSwarm,
  h_k_TooLong_NoStand,
  h_k_TooLong_TooLong,
  h_k_TooLong_NoBack,
  h_k_TooLong_NoRow,
  h_k_TooLong_NoText,
  h_k_TooLong_NoWeb,
  h_k_TooLong_NoRule,
  h_k_TooLong_NoNumber,
  h_v_TooLong,
  vA X G q0,
  λH=>.inr ⟨_,_,_,r0,rfl,rfl,by simp;decide,(.cons ⟨_,rfl⟩ (.cons ⟨_,rfl⟩ .nil))⟩,
  vA X G q1,
  λH=>.inr ⟨_,_,_,r1,rfl,rfl,by simp;decide,(.cons ⟨_,rfl⟩ (.cons ⟨_,rfl⟩ .nil))⟩,
  vA X G q2,
  λH=>.inr ⟨_,_,_,r2,rfl,rfl,by simp;decide,(.cons ⟨_,rfl⟩ (.cons ⟨_,rfl⟩ .nil))⟩,
  ⟨_,vA X G q3⟩,
  ⟨_,vA X G q4⟩,
  ⟨_,vA X G q5⟩,
  ⟨_,vA X G q6⟩,
  ⟨_,vA X G q7⟩,
  ⟨_,vA X G q8⟩,
  vA X G q9,
  λH=>.inr ⟨_,_,_,r9,rfl,rfl,by simp;decide,(.cons ⟨_,rfl⟩ (.cons ⟨_,rfl⟩ (.cons ⟨_,rfl⟩ .nil)))⟩⟩
 exact⟨_,λs v=>.of_eq rfl,λbase _ _=>zCN T⟩
theorem walk{l:Q4}{q:wS}{loose:List Str}{XP:(Str->Option wg)->wQ->Prop}{YP:wW->wQ->Prop}{d:DefRec}{K:Params->wb}(hn:l.most=some 63)(hdf:d.params.defaults=[])
  (hY:∀(w:wW)(h:wQ),YP w h->(K w.params).In h)
  (F:∀(w:wW)(mg:Str->Option wg)(fa:we)(h:wQ),(K w.params).In h->h.Ns wM mg->mg d.name=some (.ref fa) ->
   ∃fd:wE,(∀(s:wm)(u:wg),BindsTo s fd ⟨[u],[]⟩ [("_law_script",u)]) /\ ∀base:wQ,(K w.params).In base->base.Ns wM mg->aP l.prog w (K w.params) mg base aS 16 fa fd ["_law_script"] (sP (K w.params))) :
  uC q loose XP YP l.row.toRowW d [] (λf vs=>XZ f vs) :=
 L2.Yi (n:=63) (k:=16) (x:="_law_script") (CX:=λ_=>aS) (sp:=λw=>sP (K w.params)) hn (by decide) hdf ⟨rfl,by decide,by decide,rfl⟩ hY F (λ_ H a ns hl hO hS=>⟨.ref a,rfl,a,ns,rfl,zDi hO hS,hl,λ_=>rfl⟩) λ_ _ _ _ _ z=>z
end G
local macro_rules | `(tactic| wtm_at "fk")=>`(tactic| (refine' G.aR.mk ?a ?l ?c ?k; (case a=>k_is); (case l=>k_is); (case c=>k_is); (case k=>k_is)))
open PySem PySem.W PyProof.Rows
set_option maxRecDepth 100000 in
set_option maxHeartbeats 0 in
theorem PySem.Challenge.cw_glowflock_k63_whole_exchanged_ends_holds : PySem.Challenge.rw_glowflock_k63_whole_exchanged_ends.Holds := by
 w_on; refine GH.head ?_
 k_fill
 refine G.walk (l:=PySem.Challenge.rw_glowflock_k63_whole_exchanged_ends) rfl rfl (fun w h Y=>PySem.W.kIn_of Y) ?F
 case F =>
   intro w mg fa h KX GG hmg;refine' G.all_mk KX GG hmg ?a0 ?a1 ?a2 ?a3 ?a4 ?a5 ?a6 ?a7 ?a8 ?a9 ?a10 ?a11 ?a12 ?a13 ?a14 ?a15 ?a16 ?a17 ?a18 ?a19 ?a20 ?a21 ?a22 ?a23 ?a24 ?a25 ?a26 ?a27 ?a28 ?a29 ?a30 ?a31 ?a32 ?a33 ?a34 ?a35 ?a36 ?a37 ?a38 ?a39 ?a40 ?a41 ?a42 ?a43 ?a44 ?a45 ?a46 ?a47 ?a48 ?a49 ?a50 ?a51 ?a52 ?a53 ?a54 ?a55 ?a56 ?a57 ?a58 ?a59 ?a60 ?a61 ?a62 ?a63 ?a64 ?a65 ?a66 ?a67 ?a68 ?a69 ?a70 ?a71 ?a72 ?a73 ?n_NoSwarm ?n_NoStand ?n_TooLong ?n_NoBack ?n_NoRow ?n_NoText ?n_NoWeb ?n_NoRule ?n_NoNumber ?n_GlowError ?z_ValueError ?z_abs ?z_all ?z_any ?z_bool ?z_dict ?z_enumerate ?z_int ?z_isinstance ?z_len ?z_list ?z_range ?z_sorted ?z_str ?z_sum ?z_tuple ?z_zip ?h_x_NoSwarm ?h_m_NoSwarm ?h_e_NoSwarm ?h_k_NoSwarm_NoSwarm ?h_k_NoSwarm_NoStand ?h_k_NoSwarm_TooLong ?h_k_NoSwarm_NoBack ?h_k_NoSwarm_NoRow ?h_k_NoSwarm_NoText ?h_k_NoSwarm_NoWeb ?h_k_NoSwarm_NoRule ?h_k_NoSwarm_NoNumber ?h_v_NoSwarm ?h_x_NoStand ?h_m_NoStand ?h_e_NoStand ?h_k_NoStand_NoSwarm ?h_k_NoStand_NoStand ?h_k_NoStand_TooLong ?h_k_NoStand_NoBack ?h_k_NoStand_NoRow ?h_k_NoStand_NoText ?h_k_NoStand_NoWeb ?h_k_NoStand_NoRule ?h_k_NoStand_NoNumber ?h_v_NoStand ?h_x_TooLong ?h_m_TooLong ?h_e_TooLong ?h_k_TooLong_NoSwarm ?h_k_TooLong_NoStand ?h_k_TooLong_TooLong ?h_k_TooLong_NoBack ?h_k_TooLong_NoRow ?h_k_TooLong_NoText ?h_k_TooLong_NoWeb ?h_k_TooLong_NoRule ?h_k_TooLong_NoNumber ?h_v_TooLong ?q0 ?r0 ?q1 ?r1 ?q2 ?r2 ?q3 ?q4 ?q5 ?q6 ?q7 ?q8 ?q9 ?r9
   (case a0=>wtm_at "fk")
   (case a1=>wtm_at "fk")
   (case a2=>wtm_at "fk")
   (case a3=>wtm_at "fk")
   (case a4=>wtm_at "fk")
   (case a5=>wtm_at "fk")
   (case a6=>wtm_at "fk")
   (case a7=>wtm_at "fk")
   (case a8=>wtm_at "fk")
   (case a9=>wtm_at "fk")
   (case a10=>wtm_at "fk")
   (case a11=>wtm_at "fk")
   (case a12=>wtm_at "fk")
   (case a13=>wtm_at "fk")
   (case a14=>wtm_at "fk")
   (case a15=>wtm_at "fk")
   (case a16=>wtm_at "fk")
   (case a17=>wtm_at "fk")
   (case a18=>wtm_at "fk")
   (case a19=>wtm_at "fk")
   (case a20=>wtm_at "fk")
   (case a21=>wtm_at "fk")
   (case a22=>wtm_at "fk")
   (case a23=>wtm_at "fk")
   (case a24=>wtm_at "fk")
   (case a25=>wtm_at "fk")
   (case a26=>wtm_at "fk")
   (case a27=>wtm_at "fk")
   (case a28=>wtm_at "fk")
   (case a29=>wtm_at "fk")
   (case a30=>wtm_at "fk")
   (case a31=>wtm_at "fk")
   (case a32=>wtm_at "fk")
   (case a33=>wtm_at "fk")
   (case a34=>wtm_at "fk")
   (case a35=>wtm_at "fk")
   (case a36=>wtm_at "fk")
   (case a37=>wtm_at "fk")
   (case a38=>wtm_at "fk")
   (case a39=>wtm_at "fk")
   (case a40=>wtm_at "fk")
   (case a41=>wtm_at "fk")
   (case a42=>wtm_at "fk")
   (case a43=>wtm_at "fk")
   (case a44=>wtm_at "fk")
   (case a45=>wtm_at "fk")
   (case a46=>wtm_at "fk")
   (case a47=>wtm_at "fk")
   (case a48=>wtm_at "fk")
   (case a49=>wtm_at "fk")
   (case a50=>wtm_at "fk")
   (case a51=>wtm_at "fk")
   (case a52=>wtm_at "fk")
   (case a53=>wtm_at "fk")
   (case a54=>wtm_at "fk")
   (case a55=>wtm_at "fk")
   (case a56=>wtm_at "fk")
   (case a57=>wtm_at "fk")
   (case a58=>wtm_at "fk")
   (case a59=>wtm_at "fk")
   (case a60=>wtm_at "fk")
   (case a61=>wtm_at "fk")
   (case a62=>wtm_at "fk")
   (case a63=>wtm_at "fk")
   (case a64=>wtm_at "fk")
   (case a65=>wtm_at "fk")
   (case a66=>wtm_at "fk")
   (case a67=>wtm_at "fk")
   (case a68=>wtm_at "fk")
   (case a69=>wtm_at "fk")
   (case a70=>wtm_at "fk")
   (case a71=>wtm_at "fk")
   (case a72=>wtm_at "fk")
   (case a73=>wtm_at "fk")
   (case n_NoSwarm=>k_is)
   (case n_NoStand=>k_is)
   (case n_TooLong=>k_is)
   (case n_NoBack=>k_is)
   (case n_NoRow=>k_is)
   (case n_NoText=>k_is)
   (case n_NoWeb=>k_is)
   (case n_NoRule=>k_is)
   (case n_NoNumber=>k_is)
   (case n_GlowError=>k_is)
   (case z_ValueError=>k_is)
   (case z_abs=>k_is)
   (case z_all=>k_is)
   (case z_any=>k_is)
   (case z_bool=>k_is)
   (case z_dict=>k_is)
   (case z_enumerate=>k_is)
   (case z_int=>k_is)
   (case z_isinstance=>k_is)
   (case z_len=>k_is)
   (case z_list=>k_is)
   (case z_range=>k_is)
   (case z_sorted=>k_is)
   (case z_str=>k_is)
   (case z_sum=>k_is)
   (case z_tuple=>k_is)
   (case z_zip=>k_is)
   (case h_x_NoSwarm=>k_exc)
   (case h_m_NoSwarm=>kts_exm)
   (case h_e_NoSwarm=>(refine L2.fL.mk ?_ ?_ ?_ ?_ ?_ ?_ ?_ ?_ <;> first | k_is | (show PySem.W.isClsIn _ _ = true; k_is)))
   (case h_k_NoSwarm_NoSwarm=>kit_is)
   (case h_k_NoSwarm_NoStand=>kit_is)
   (case h_k_NoSwarm_TooLong=>kit_is)
   (case h_k_NoSwarm_NoBack=>kit_is)
   (case h_k_NoSwarm_NoRow=>kit_is)
   (case h_k_NoSwarm_NoText=>kit_is)
   (case h_k_NoSwarm_NoWeb=>kit_is)
   (case h_k_NoSwarm_NoRule=>kit_is)
   (case h_k_NoSwarm_NoNumber=>kit_is)
   (case h_v_NoSwarm=>kit_is)
   (case h_x_NoStand=>k_exc)
   (case h_m_NoStand=>kts_exm)
   (case h_e_NoStand=>(refine L2.fL.mk ?_ ?_ ?_ ?_ ?_ ?_ ?_ ?_ <;> first | k_is | (show PySem.W.isClsIn _ _ = true; k_is)))
   (case h_k_NoStand_NoSwarm=>kit_is)
   (case h_k_NoStand_NoStand=>kit_is)
   (case h_k_NoStand_TooLong=>kit_is)
   (case h_k_NoStand_NoBack=>kit_is)
   (case h_k_NoStand_NoRow=>kit_is)
   (case h_k_NoStand_NoText=>kit_is)
   (case h_k_NoStand_NoWeb=>kit_is)
   (case h_k_NoStand_NoRule=>kit_is)
   (case h_k_NoStand_NoNumber=>kit_is)
   (case h_v_NoStand=>kit_is)
   (case h_x_TooLong=>k_exc)
   (case h_m_TooLong=>kts_exm)
   (case h_e_TooLong=>(refine L2.fL.mk ?_ ?_ ?_ ?_ ?_ ?_ ?_ ?_ <;> first | k_is | (show PySem.W.isClsIn _ _ = true; k_is)))
   (case h_k_TooLong_NoSwarm=>kit_is)
   (case h_k_TooLong_NoStand=>kit_is)
   (case h_k_TooLong_TooLong=>kit_is)
   (case h_k_TooLong_NoBack=>kit_is)
   (case h_k_TooLong_NoRow=>kit_is)
   (case h_k_TooLong_NoText=>kit_is)
   (case h_k_TooLong_NoWeb=>kit_is)
   (case h_k_TooLong_NoRule=>kit_is)
   (case h_k_TooLong_NoNumber=>kit_is)
   (case h_v_TooLong=>kit_is)
   (case q0=>k_is)
   (case r0=>k_is)
   (case q1=>k_is)
   (case r1=>k_is)
   (case q2=>k_is)
   (case r2=>k_is)
   (case q3=>k_is)
   (case q4=>k_is)
   (case q5=>k_is)
   (case q6=>k_is)
   (case q7=>k_is)
   (case q8=>k_is)
   (case q9=>k_is)
   (case r9=>k_is)
#print axioms PySem.Challenge.cw_glowflock_k63_whole_exchanged_ends_holds
